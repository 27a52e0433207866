import PyProof.Rows.All
import Wide.All
import OpenK.AllK
import Wide.FinOn
import PySem.Challenge.RW_hookmill_k13_told_of_renumbered
open Array renaming toList_append->gn,length_toList->gz,getElem?_toList->iu,getD->iS,toList_inj->l5,toList_push->l6,toList_extract->nE,toList_reverse->qA,perm_iff_toList_perm->ve,getElem?_eq_none->wo,toList->xw,size_setIfInBounds->zd,toList_setIfInBounds->zf,size_extract->zg,toList_modify->zi,size_map->AB,size_append->Bb,getElem?_eq_getElem->Bm
open Array.Perm renaming refl->nS
open Bool renaming true->af,false->aj,and_eq_true->bn,false_eq_true->dm,and_self->iz,not_eq_true'->jk,or_eq_true->jl,and_true->jn,and_false->lz,false_ne_true->mT,false_or->nr,not_true->ny,true_and->oe,or_false->uz,true_or->yx,and_assoc->zo,not_eq_true->BD
open Classical renaming byContradiction->so,choose->AF,choose_spec->AG,axiomOfChoice->Da
open False renaming elim->fI
open ForInStep renaming yield->vf
open Function renaming comp_def->Cw,comp->CY
open Int renaming emod_nonneg->ja,emod_lt_of_pos->ko,toNat_natCast->la,mul_one->tI,lt_irrefl->vg,mul_le_mul->BS,mul_nonneg->BU,zero_add->B8,le_refl->B9
open List renaming length_map->aI,mem_map->aT,range->bh,map_cons->bj,mem_cons->bq,mem_cons_of_mem->bu,mem_cons_self->bw,map_map->bP,length_append->cb,size_toArray->cg,length_cons->cr,map_append->cu,mem_append->cw,append_assoc->c6,replicate->c_,nodup_cons->df,map_congr_left->dh,all_eq_true->dw,getElem?_eq_some_iff->dz,mem_singleton->dS,pairwise_map->d4,mem_append_left->eg,getElem?_eq_getElem->eh,mem_append_right->en,append_nil->eo,cons_append->eC,getElem?_set_ne->eD,nil_append->eI,getD_eq_getElem?_getD->eJ,cons_lt_cons_iff->eL,length_nil->e9,nodup_append->fg,map->fm,length_range->fR,length->gh,map_id->gq,getElem?_set_self->gw,all_cons->gX,nodup_nil->ic,flatMap_cons->ie,length_take->ig,drop_eq_getElem_cons->ij,getElem_mem->im,mem_flatMap->ir,getElem?_append_right->iL,getElem?_map->iN,length_singleton->iO,find?_cons->iP,pairwise_cons->iX,mem_range->jb,length_drop->jd,map_nil->je,take_of_length_le->jg,foldl_cons->jh,lookup_cons->jm,getElem?_append_left->jx,flatMap_append->kr,mem_filter->ky,getElem?_replicate->kF,any_cons->kK,not_lt->k4,toList_toArray->k6,length_filter_le->lb,getElem_map->lc,mem_of_getElem?->lu,take_append_drop->l7,lt_irrefl->mh,take_succ_eq_append_getElem->mr,range'->mv,pairwise_append->mz,flatMap_map->mE,drop_of_length_le->nB,extract_eq_take_drop->nI,getElem?_drop->nK,getElem_of_mem->nL,getElem?_set->og,range'_succ->om,filter_cons->oq,idxOf_append->ou,map_flatMap->ov,getElem?_take_of_lt->oP,take_add_one->qz,range_succ_eq_map->rg,zip_cons_cons->rL,take_length->si,drop_eq_nil_of_le->sn,not_mem_nil->sB,range_eq_range'->sN,nodup_range->sP,flatten_append->sQ,flatten_singleton->sT,flatMap_singleton->td,mem_zipIdx_iff_getElem?->tf,filterMap_cons->tw,of_mem_zip->t9,pairwise_iff_getElem->vc,lt_of_le_of_lt->vh,lt_asymm->vk,le_antisymm->vm,eq_nil_of_length_eq_zero->vS,foldl_append->wd,getElem?_range->w8,perm_append_comm->xf,take_append_of_le_length->xg,mem_flatten->xi,perm_ext_iff_of_nodup->xj,idxOf_cons->xk,exists_mem_of_ne_nil->xl,mem_filterMap->yb,length_replicate->yh,mem_of_mem_drop->yT,take_zero->za,drop_drop->zb,zipIdx_cons->zc,forIn_nil->zl,zip_nil_left->Ar,zip_nil_right->As,map_fst_zip->AL,mem_range'_1->A3,map_take->Bc,map_drop->Bd,dropLast_eq_take->Bf,getElem?_eq_none->Bx,getElem?_cons_succ->By,find?_eq_none->BF,set_set->BQ,flatMap_nil->BY,range_succ->B0,all_nil->B1,foldl_nil->B2,filter_eq_self->B3,perm_middle->B4,count_cons->B6,filter_sublist->B7,filter_append->Cb,zipIdx_map_fst->Cd,zipIdx_map->Ce,getElem_idxOf->Cf,idxOf_lt_length_of_mem->Cg,pairwise_lt_range->Ci
open List.Nodup renaming count->C7
open List.Pairwise renaming map->w_,imp₂->Cc,nil->Cu
open List.Perm renaming append_left->kq,cons->B5,eq_of_pairwise->Cv,of_eq->C5,refl->C6,append_right->C9,trans->Dc,append->Dd
open List.Sublist renaming refl->C8
open List.cons renaming injEq->iw
open Nat renaming le_refl->bi,ne_of_lt->di,le_trans->du,lt_of_lt_of_le->eP,zero_le->fo,lt_irrefl->fE,lt_succ_of_lt->ix,le_succ->i6,ne_of_gt->ju,lt_succ_self->kh,le_of_lt->mN,le_of_eq->qx,lt_or_ge->rf,le_of_ble_eq_true->sC,add_zero->vd,add_assoc->zh,le_succ_of_le->AC,zero_add->AN,lt_of_le_of_lt->A2,lt_of_not_le->A9,add_sub_cancel_left->BB
open Nat.succ renaming inj->we
open Option renaming some->ae,none->ao,map_eq_some_iff->lS,getD_some->qV,isSome_iff_exists->ub,isSome_some->u7,isSome_map->va,getD_none->yp,bind_some->Ba,map_eq_none_iff->BE
open Option.some renaming inj->c5,injEq->iq
open Or renaming inl->kP
open Prod renaming snd->mB,fst->n9
open Prod.mk renaming injEq->iA
open PyProof.Rows renaming arrOf->au,wpS_bind->bb,Keyed->bd,wpS_pure->bf,pendingOf->bo,wpS->dg,mirror->dn,setArr->dL,wpS_mono->eu,wpS_forRange->eB,seqObj->eS,SortSt->ff,failedOf->gj,pairsOf->gr,envOfC->gN,wpS_get->ik,wpS_modify->jf,wpS_reverse->ji,AllBare->jr,SortKind->ka,wpS_lift->kb,mirror_perm->kf,mirror_size->kQ,IsTup->mM,callWith_type1->ng,IntsAre->nt,tuples'->n4,subscriptTail->oS,setPending->qB,bubble->qE,boot_range->t0,slot_tuple_getitem->ur,keyKind'->vw,sortedHeap->vx,listUpdate_at->vz,seqEpoch_at->vE,slicePart_none->yj,subscriptTail_builtinR->yn,keyLt'_oneType->AH,oneLt_int->AI,oneLt_str->AJ,pairsOf_size->AM,callWith_builtin1->Cj,lt_int->CA,le_int->CB,gt_int->CC,ge_int->CD,lt_str->CF,oneLt'_eq->CH,lt'_eq->CI,pairsOf_toList->CL,mem_zip_self->CM,collect_list->CO,size_push'->CS,boot_enumerate->C3
open PyProof.Rows.SortSt renaming mk'->nw
open PySem renaming Value->ap,Addr->aq,Shared->ay,model->az,wpAny_bind->aE,wpAny_pure->bm,sizeLine->bp,Heap->br,Stmt->bz,cLine->bE,World->bS,Obj->b9,Program->cy,eval->cK,Around->cS,Pos->de,compareOp->dy,argBest->dP,starEach->dQ,Env->d6,bootBuiltins->eR,mainGlobals->eT,foldedSetIterable->eW,sizeLine_eq->e8,swapsWith->fi,wpAny_mono->fj,Tok->fx,sysModules->fA,Sem->fF,binaryOp->fN,Scope->fT,pyNext->f_,FuncData->gd,wpAny_newObj_type->gi,pyIter->gL,plainId_quiet->hG,codeAny_builtin->hI,wpAny_holding->ii,rawInt->iE,NameKind->iF,relabel->i0,wpAny_truthy_bool->jc,wpAny_tryCatch->jo,backTo->jq,PassesOwn->jt,bindL->jv,bindC->jw,IsPart->jy,attributeBase->jz,call_meets->jI,atKey->jS,wpAny_rule->ke,CmpOp->ki,richCompare_meets_room->kj,wpAny_letGo->km,Paired->kx,wpAny_passesOwn->kA,rule->kB,wpAny_Call_Name_kw->kC,getItem->kG,sliceBounds->kH,callerA->kM,Meets->k5,wpAny_seqItems->k7,wpAny_updateSeq->k8,wpAny_pyIter_list->k9,tupleKind->lh,behindInMarks->lj,Result->lm,BindsTo->lp,codeAny_mono->lq,mem_of_lookup->lr,typeOf->lx,valueAt->lI,stored->lP,compPost->l9,richCompare->ma,collect->mf,seqItems?->mi,updateSeq->mj,wpAny_of_eq->mq,assign->mP,assignEach->mS,data2->ni,wpAny_call_entry->nj,typeLookup->np,DictEntry->nu,IsEnum->oj,Str->ow,Keyword->oy,isTrue->oz,wpAny_execs_nil->oB,letOwnedTupleGo->oD,unaryOp->oI,subscripted->oT,tupleKind_room_in1->qv,merged->qw,Builtin->qy,call_function_tree->se,wpAny_pyIter_tuple->sj,wpAny_typeNameOfWhole_keyiter->su,wpAny_fieldsOf->sv,wpAny_typeNameOf_keyiter->sA,typeLookup_type->sD,builtinLookup_eq_fast->sF,GenState->sK,Drawn->sL,OsState->sM,builtinsNs->tu,spliced->tx,wpAny_Name->tF,small_one->tJ,rangeSize_one->tT,holding->t5,cellsFrom->ua,concat_meets->ud,noFill_tuple_add->ue,seq_tuple_add->uf,wpAny_field->uo,wpAny_callSpecial?_slot->uq,wpAny_typeOf->ut,operate->uv,call->vb,newList->vo,wpAny_attempt->vT,newTuple->wc,entryFor->wg,wpAny_dictEntries->wj,wpAny_dictEpoch->wl,wpAny_isOneOf_keyiter->wm,getAttr?->wy,Within->xr,keywordEach->xt,wpAny_Constant_int->xu,wpAny_execs_cons->xy,interactive->xA,wpAny_pyNext_list_item->xB,wpAny_pyNext_list_end->xC,wpAny_pyNext_tuple_item->xD,wpAny_pyNext_tuple_end->xE,IsRangeIter->xI,call_range_1->ya,intBits_le_64->yc,recursionLimit->yd,evalPart_none->yl,seqIndex_of->ym,slot_list_getitem->yo,call_list_seq->yq,comprehension->zm,eval_ListComp->zn,wpAny_newList->Az,wpAny_standAt->A5,wpAny_Assign_Subscript->A8,call_list_range->Be,wpAny_notOrdered_dict->Bi,wpAny_setField->Bn,firstArgMember->Br,codeAny_call_builtin->BA,wpAny_pyIter_enum->BC,entryFor_alias->BG,wpAny_raiseAttrError->BH,attrMsg_fits->BI,sub_AttributeError->BN,getattributeRaised->BO,wpAny->ϑ
open Decidable renaming decide->ϒ
open PySem.Around renaming under_plainId->io
open PySem.AutoSeq1 renaming wpAny_loadPart'->wt,sub_list_list->Aw,list_extend_list_list_0->Cr,sub_tuple_tuple->Cy,list_insert_list_int_val_1->CU
open PySem.Builtin.Builtins renaming bindParams->sg
open PySem.Builtin.Dict renaming dictSlotNone->C0,showsAll->C1,addKeywords->C4
open PySem.Builtin.Dict_items renaming ownsTuple->Bj
open PySem.Builtin.List renaming listTooLong->nq,listFitsIndex->A7,listExtendWith->Bu
open PySem.Builtin.Range renaming rangeSize->tP
open PySem.Builtin.Slice renaming slicePlaces->oQ,sliceAdjust->um,sliceApplied->yk,slicePartIndex->Ck,sliceFields->Cm
open PySem.Builtin.Tuple renaming tupleItemsOf->Co,tupleCompareSizes->Cz
open PySem.Calls renaming Name_function_global->xv,spliced_nil->ye,spliced_cons->yf,callWith_builtin->yr
open PySem.Code renaming quiet_builtin->wv,call->Bz
open PySem.Data renaming seq->xq,fields->xL,cell->xS
open PySem.F renaming plain_min_loop->kl,plain_max_loop->kn,plainAttrs_list->mw,slot_dict_keyiterator_next->oh,slot_list_extend->qu,slot_tuple_add->ug,entry_tuple_add->uh,args_tuple_add_2->ul,slot_list_append->uS,slot_list_lt->vp,entry_min_loop->wa,entry_max_loop->wb,called_enumerate->wu,slot_list_getattribute->wx,slot_tuple_getattribute->wz,entry_list_extend->yt,args_list_extend_2->yu,slot_list_pop->yw,entry_list_lt->Ax,args_list_lt_2->Ay,kind_min->AO,plain_min->AQ,entry_min->AR,kind_max->AS,plain_max->AT,entry_max->AU,type_list_append->A4,slot_list_insert->A6,type_list_extend->Bg,slot_dict_iter->Bh,entry_dict_keyiterator_next->Bk,args_dict_keyiterator_next_1->Bl,plain_list_iadd->Bw
open PySem.Heap renaming lt_size->bX,get?_push_of_some->cx,get?_push_size->dt,size_push->i7,SameBut->li,get?_update_other->ly,get?_update_self->mo,size_update->vF,get?_push_ne->AA,get?_update_ne->AE,ExtBut->Bq,NewAttrErr->BM
open PySem.Heap.DictOf renaming new->yz
open PySem.Heap.IsSliceOf renaming new->Cp
open PySem.Heap.SameBut renaming update->Bp
open PySem.IsL renaming update->Cq
open PySem.IsiPair renaming dict_int->AW,dict_str->AX,dict_bool->AY,dict_list->AZ,dict_tuple->A0,dict_dict->A1
open PySem.MeetsSeq renaming list_pop_last->Ct
open PySem.MeetsSeq3 renaming plain_eq_loop->rS,entry_eq_loop->Av
open PySem.NameKind renaming free->kg,cell->vn
open PySem.Obj renaming mapSeq->fu,data_mapFields->Bo
open PySem.Paired renaming length->lg,snoc->yy
open PySem.PassesOwn renaming never->dq
open PySem.SeqAt renaming RcAt->i8,RcNeAt->i9
open PySem.SeqAt.EqAt renaming of_refs->nX,same->rh,int_str->xo,str_int->xp,none_list->zr,bool_list->zv,int_list->zC,str_list->zS,tuple_list->Ab,list_none->Ae,list_bool->Ah,list_int->Ak,list_str->An,list_tuple->Aq
open PySem.SeqAt.RcAt renaming lists->ri,lists_lengths->rn,none_list->zp,bool_list->zt,int_list->zw,str_list->zD,tuple_list->z5,list_none->Ac,list_bool->Af,list_int->Ai,list_str->Al,list_tuple->Ao
open PySem.SeqAt.RcNeAt renaming lists->rm,lists_lengths->rq,none_list->zq,bool_list->zu,int_list->zz,str_list->zI,tuple_list->Aa,list_none->Ad,list_bool->Ag,list_int->Aj,list_str->Am,list_tuple->Ap
open PySem.Value renaming ref->gu,none->lf,type->mI,bool->ox,int->ti,str->tj,isInt->xm,isStrOf->xn,notImplemented->Au
open PySem.W renaming Frag->b6,fnOf->lw,keepIn->nh,nsIn->qS,Looks->rV,kat_kind->r_,methodObj->tq,codeIn->uc,cellsFrom_some->yg
open PySem.W.Looks renaming of_pure->rX,ld->AK
open PySem.W.WData renaming int->yA
open PySem.W.WShape renaming has->yB
open PySem.Walks renaming tuple->AV
open Sum renaming inl->fS,inr->kt
open _root_ renaming List->aa,Int->ag,Nat->ai,if_pos->av,if_neg->aw,Bool->ax,Option->aS,Array->ba,absurd->bg,if_false->ck,decide_eq_true->cm,if_true->cq,congrArg->cz,decide_eq_false->c8,False->c9,decide_eq_true_eq->em,String->eM,of_decide_eq_true->fq,DecidableEq->fy,True->gv,not_or->gS,beq_iff_eq->iv,decide_eq_false_iff_not->kX,StateT->lT,dif_pos->l8,Decidable->nN,beq_self_eq_true->nV,decide_eq_decide->ot,dif_neg->s_,beq_eq_false_iff_ne->tm,or_assoc->xh,eq_false_of_ne_true->yY,getElem?_pos->zk,bne_self_eq_false->AD,decide_false->Ca
theorem zA0(h:True:=by decide):True:=h
def Λ:Lean.Syntax:=zA0._auto_1
theorem zA1(h:True:=by rfl):True:=h
def Ω:Lean.Syntax:=zA1._auto_1
theorem zA2(h:True:=by first|exact .inl rfl|exact .inr rfl|assumption):True:=h
def Ξ:Lean.Syntax:=zA2._auto_1
set_option Elab.async false
set_option maxRecDepth 100000
set_option maxHeartbeats 4000000
noncomputable section
local macro_rules|`(0x0)=>`(by trivial)|`(0x1)=>`(by lia)|`(0x2)=>`(by simp)|`(0x3)=>`(by rfl)|`(0x4)=>`(by decide)|`(0x5)=>`(by with_unfolding_all rfl)|`(0x6)=>`(by decide +kernel)|`(0x7)=>`(by intro z;cases z)|`(0x8)=>`(by kernel_rfl)|`(0x9)=>`(by refine⟨rfl,?_,?_,?_,?_,?_,?_⟩<;>decide +kernel)|`(0xa)=>`(by refine⟨rfl,rfl,rfl,?_,rfl,?_,?_⟩<;>decide +kernel)
set_option linter.all false
set_option autoImplicit true
set_option genSizeOfSpec false
set_option genInjectivity true
abbrev nDb(x:ow):Prop:= (x==("__debug__" : ow))=aj
abbrev nCd(x:ow):Prop:= (x==("__classdict__" : ow))=aj
namespace L2
open PySem PySem.Spec PyProof.Rows
noncomputable abbrev Key:=Sum ag Str
noncomputable def SQ:Key->ap->ax
 |.inl k,v=>xm k v
 |.inr x,v=>xn x v
noncomputable def aSp(w:bS):Key->ag
 |.inl k=>hashInt k
 |.inr x=>hashStr w x
def dJ:∀{k:Key}{v:ap},SQ k v=af->(∃i t,k=fS i/\v=ti i t)\/(∃x t,k=kt x/\v=tj x t)
 |.inl i,v,h=>by
  obtain⟨t,e⟩:=Value.isInt_shape h;exact .inl ⟨i,t,rfl,e⟩
 |.inr x,v,h=>by
  obtain⟨t,e⟩:=Value.isStrOf_shape h;exact .inr ⟨x,t,rfl,e⟩
def aAu(i:ag)(t:fx):SQ (.inl i) (.int i t)=af:=by simp[SQ,xm]
def aAv(x:Str)(t:fx):SQ (.inr x) (.str x t)=af:=by simp[SQ,xn]
def aMy(a b:ag):ϒ ((fS a:Key)=fS b)=(a==b):=by
 by_cases e:a=b
 .subst e;simp
 .have h:¬(fS a:Key)=fS b:=λq=>e (Sum.inl.inj q)
  rw[c8 h];exact(tm.mpr e).symm
def aMz(a b:Str):ϒ ((kt a:Key)=kt b)=ϒ (a=b):=by
 by_cases e:a=b
 .subst e;simp
 .have h:¬(kt a:Key)=kt b:=λq=>e (Sum.inr.inj q)
  rw[c8 h,c8 e]
def aN0(a:ag)(b:Str):ϒ ((fS a:Key)=kt b)=aj:=c8 (λq=>nomatch q)
def aN1(a:Str)(b:ag):ϒ ((kt a:Key)=fS b)=aj:=c8 (λq=>nomatch q)
def dM(prog:cy)(w:bS):PySem.KeyKind prog w Key where
 is:=SQ
 hash:=aSp w
 inj:=λv a b ha hb=>by
  rcases dJ ha with ⟨i,t,rfl,rfl⟩|⟨x,t,rfl,rfl⟩
  .rcases dJ hb with ⟨j,u,rfl,e⟩|⟨y,u,rfl,e⟩
   .injection e with e1 _;rw[e1]
   .exact nomatch e
  .rcases dJ hb with ⟨j,u,rfl,e⟩|⟨y,u,rfl,e⟩
   .exact nomatch e
   .injection e with e1 _;rw[e1]
 byValue:=λk v h=>by
  rcases dJ h with ⟨i,t,rfl,rfl⟩|⟨x,t,rfl,rfl⟩<;>rfl
 pyHash:=λhv h=>by
  rcases dJ hv with ⟨i,t,rfl,rfl⟩|⟨x,t,rfl,rfl⟩
  .exact wpAny_pyHash_int h
  .exact wpAny_pyHash_str h
 eqBool:=λhu hv h=>by
  rcases dJ hu with ⟨i,t,rfl,rfl⟩|⟨x,t,rfl,rfl⟩
  .rcases dJ hv with ⟨j,u,rfl,rfl⟩|⟨y,u,rfl,rfl⟩
   .rw[aMy] at h;exact wpAny_eqBool_int h
   .rw[aN0] at h;exact xo i t y u _ _ _ _ h
  .rcases dJ hv with ⟨j,u,rfl,rfl⟩|⟨y,u,rfl,rfl⟩
   .rw[aN1] at h;exact xp x t j u _ _ _ _ h
   .rw[aMz] at h;exact wpAny_eqBool_str h
 «strs»:=λk x t v h=>by
  rcases dJ h with ⟨i,u,rfl,e⟩|⟨y,u,rfl,e⟩
  .exact nomatch e
  .injection e with e1 _
   subst e1;cases v<;>rfl
def SX(prog:cy)(w:bS)(i:ag)(t:fx):(dM prog w).is (.inl i) (.int i t)=af:=aAu i t
def S5(prog:cy)(w:bS)(x:Str)(t:fx):(dM prog w).is (.inr x) (.str x t)=af:=aAv x t
inductive V where
 |non|bl (b:ax)|int (i:ag)|str (x:Str)|byt (b:ba UInt8)|flt (b:UInt64)|ref (a:aq)|ty (n:eM)
 deriving fy
def RelV:V->ap->Prop
 |.non,u=>u=lf
 |.bl b,u=>u=ox b
 |.int i,u=>∃t,u=ti i t
 |.str x,u=>∃t,u=tj x t
 |.byt b,u=>∃t,u=Value.bytes b t
 |.flt b,u=>∃t,u=Value.float b t
 |.ref a,u=>u=gu a
 |.ty n,u=>u=mI n
abbrev Vals:aa V->aa ap->Prop:=kx RelV
def Vals.length(r:Vals xs us):xs.length=us.length:=lg r
def Vals.get:∀{xs:aa V}{us:aa ap}{i:ai}{x:V},Vals xs us->xs[i]?=ae x->∃u,us[i]?=ae u/\RelV x u
 |_,_,_,_,.nil,e=>by simp at e
 |_,_,0,_,.cons r _,e=>by simp at e;subst e;exact⟨_,rfl,r⟩
 |_,_,i+1,x,.cons _ t,e=>by
  obtain⟨u,h1,h2⟩:=Vals.get t (by simpa using e);exact⟨u,by simpa using h1,h2⟩
def Vals.append:∀{xs ys:aa V}{us ws:aa ap},Vals xs us->Vals ys ws->Vals (xs++ys) (us++ws)
 |_,_,_,_,.nil,s=>s
 |_,_,_,_,.cons r t,s=>.cons r (Vals.append t s)
def Vals.take:∀{xs:aa V}{us:aa ap}(n:ai),Vals xs us->Vals (xs.take n) (us.take n)
 |_,_,0,_=>.nil
 |_,_,_+1,.nil=>.nil
 |_,_,n+1,.cons r t=>.cons r (Vals.take n t)
def Vals.drop:∀{xs:aa V}{us:aa ap}(n:ai),Vals xs us->Vals (xs.drop n) (us.drop n)
 |_,_,0,r=>r
 |_,_,_+1,.nil=>.nil
 |_,_,n+1,.cons _ t=>Vals.drop n t
def aFk:aS V->aS ap->Prop
 |some v,ae u=>RelV v u
 |none,ao=>gv
 |_,_=>c9
def KV{κ:Type}:aa (κ×V)->aa (κ×ap)->Prop:=kx λ(p:κ×V)(q:κ×ap)=>p.1=q.1/\RelV p.2 q.2
noncomputable def kV:Key->V
 |.inl i=>.int i
 |.inr x=>.str x
inductive HO where
 |lst (xs:aa V)
 |tup (xs:aa V)
 |dK (kvs:aa (Key×V))|dT (kvs:aa (aa Key×V))
 |set (S:ag->ax) (n:ai)
 |ins (C dx:aq) (fs:aa (Str×V))
 |own (x:aq)
 |xd (fs:aa (Str×V))
 |met (f x:aq)
 |rng (lo hi:ag)
 |frz (o:b9) (u:HO)
 |tbl (ps:ba ap)
 |ext (φ:br->Prop)
noncomputable abbrev Hp:=aq->aS HO
noncomputable def upd(H:Hp)(a:aq)(o:HO):Hp:=λb=>if b=a then ae o else H b
def aM:upd H a o a=ae o:=by unfold upd;rw[av rfl]
def bA(h:b≠a):upd H a o b=H b:=by unfold upd;rw[aw h]
def S6:upd (upd H a o) a u=upd H a u:=by
 funext b;unfold upd;split<;>rfl
def aJ7{H:Hp}(h:H a=ae o)(h':H b=ae u)(d:o≠u):a≠b:=by
 intro e;subst e;rw[h] at h';exact d (c5 h')
def eG{H:Hp}(h:H a=ae o)(h':H b=ao):a≠b:=by
 intro e;subst e;rw[h] at h';cases h'
def lE(h:br)(a:aq)(its:ba ap):Prop:=∃o,h.get? a=ae o/\o.cls=.type "tuple"/\∃n,(o.data,o.dict)=(xq its n,ao)
def lE.tup{h:br}{a:aq}{its:ba ap}(t:lE h a its):mM h a its:=let ⟨o,e,c,n,d⟩:=t;⟨o,e,c,n,cz (·.1) d⟩
def lE.bare(t:lE h a its):∃o,h.get? a=ae o/\o.dict=ao:=let ⟨o,e,_,_,d⟩:=t;⟨o,e,cz (·.2) d⟩
def lE.new(h:br)(items:ba ap):lE (h.push {cls:=.type "tuple",data:=.seq items}) h.objs.size items:=⟨_,dt _ rfl,rfl,_,rfl⟩
section
variable (P:cy) (w:bS)
def lD(H:Hp)(h:br)(a:aq):HO->Prop
 |.lst xs=>xs.length<=bp/\∃(its:aa ap)(n:ai),Vals xs its/\h.get? a=ae {cls:=.type "list",data:=.seq its.toArray n}
 |.tup xs=>xs.length<=bp/\∃its:aa ap,Vals xs its/\lE h a its.toArray
 |.dK kvs=>kvs.length<=bp/\(a==fA)=aj/\∃vs,KV kvs vs/\h.DictOf (dM P w) a vs
 |.dT kvs=>kvs.length<=bp/\(a==fA)=aj/\∃xs:aa (aa Key×aq×ap),
   kx (λ(p:aa Key×V)(q:aa Key×aq×ap)=>p.1=q.1/\H q.2.1=ae (.tup (p.1.map kV))/\RelV p.2 q.2.2) kvs xs/\
   ∃o es ep,h.get? a=ae o/\o.ExactDict/\o.data=.dict es ep/\es.toList=xs.map (entryOfKey (lh (dM P w)))/\(xs.map (·.1)).Nodup
 |.set S n=>h.SetOf (intKind P w) a S n
 |.ins C dx fs=>H dx=ae (.own a)/\fs.length<=1000/\dx≠a/\h.get? a=ae (PySem.W.instObj C dx)/\
   ∃mA,h.Ns1 dx mA/\(∀f,aFk (fs.lookup f) (mA f))/\xr mA (fs.map (·.1))
 |.own _=>∃o,h.get? a=ae o
 |.xd fs=>∃mA,h.Ns1 a mA/\∀f,aFk (fs.lookup f) (mA f)
 |.rng lo hi=>∃t u v,h.get? a=ae {cls:=.type "range",data:=.fields #[.int lo t,.int hi u,.int 1 v]}
 |.frz o u=>h.get? a=ae o/\lD H h a u
 |.tbl ps=>h.get? a=ae {cls:=.none,data:=.fields ps}
 |.met f x=>h.get? a=ae (tq (.ref f) (.ref x))
 |.ext φ=>φ h/\(∃o,h.get? a=ae o)/\∀h1 h2:br,φ h1->(∀o,h1.get? a=ae o->h2.get? a=ae o)->φ h2
def HOk(H:Hp)(h:br):Prop:=∀a o,H a=ae o->lD P w H h a o
end
section
variable {a:aq}
def lD.lt(x:lD P w H h a o):a<h.objs.size:=by
 cases o with
 |lst xs=>obtain⟨_,_,_,_,e⟩:=x;exact bX e
 |tup xs=>obtain⟨_,_,_,p⟩:=x;exact p.tup.lt
 |dK kvs=>obtain⟨_,_,_,_,o,_,_,e,_⟩:=x;exact bX e
 |dT kvs=>obtain⟨_,_,_,_,o,_,_,e,_⟩:=x;exact bX e
 |set S n=>obtain⟨o,_,_,_,e,_⟩:=x;exact bX e
 |ins C dx fs=>obtain⟨_,_,_,e,_⟩:=x;exact bX e
 |own y=>obtain⟨_,e⟩:=x;exact bX e
 |xd fs=>obtain⟨_,⟨_,_,_,e,_⟩,_⟩:=x;exact bX e
 |rng lo hi=>obtain⟨_,_,_,e⟩:=x;exact bX e
 |frz ob u=>obtain⟨e,_⟩:=x;exact bX e
 |tbl ps=>exact bX (show h.get? a=ae _ from x)
 |met f y=>exact bX (show h.get? a=ae _ from x)
 |ext φ=>obtain⟨_,⟨_,e⟩,_⟩:=x;exact bX e
def Paired.aQl:∀{l₁:aa α}{l₂:aa β},kx F l₁ l₂->(∀a b,F a b->G a b)->kx G l₁ l₂
 |_,_,.nil,_=>.nil
 |_,_,.cons r t,f=>.cons (f _ _ r) (Paired.aQl t f)
def lD.stay(x:lD P w H h a o)(k:∀b u,(b=a\/H b=ae (.own a))->h.get? b=ae u->h'.get? b=ae u)
 (ho:∀b,H b=ae (.own a)->H' b=ae (.own a))(ht:∀b xs,H b=ae (.tup xs)->H' b=ae (.tup xs)):lD P w H' h' a o:=by
 induction o with
 |lst xs=>obtain⟨z,its,n,r,e⟩:=x;exact⟨z,its,n,r,k _ _ (.inl rfl) e⟩
 |tup xs=>obtain⟨z,its,r,ob,e,c⟩:=x;exact⟨z,its,r,ob,k _ _ (.inl rfl) e,c⟩
 |dK kvs=>obtain⟨z,y,vs,r,ob,es,ep,e,c⟩:=x;exact⟨z,y,vs,r,ob,es,ep,k _ _ (.inl rfl) e,c⟩
 |dT kvs=>
  obtain⟨z,y,xs,r,ob,es,ep,e,c⟩:=x;exact⟨z,y,xs,Paired.aQl r λp q z=>⟨z.1,ht _ _ z.2.1,z.2.2⟩,ob,es,ep,k _ _ (.inl rfl) e,c⟩
 |set S n=>obtain⟨ob,es,ep,t,e,c⟩:=x;exact⟨ob,es,ep,t,k _ _ (.inl rfl) e,c⟩
 |ins C dx fs=>
  obtain⟨d,z,ne,e,mA,⟨od,es,ep,e2,c⟩,r⟩:=x;exact⟨ho _ d,z,ne,k _ _ (.inl rfl) e,mA,⟨od,es,ep,k _ _ (.inr d) e2,c⟩,r⟩
 |own y=>obtain⟨ob,e⟩:=x;exact⟨ob,k _ _ (.inl rfl) e⟩
 |xd fs=>obtain⟨mA,⟨od,es,ep,e,c⟩,r⟩:=x;exact⟨mA,⟨od,es,ep,k _ _ (.inl rfl) e,c⟩,r⟩
 |rng lo hi=>obtain⟨t,u,v,e⟩:=x;exact⟨t,u,v,k _ _ (.inl rfl) e⟩
 |frz ob u ih=>obtain⟨e,q⟩:=x;exact⟨k _ _ (.inl rfl) e,ih q⟩
 |tbl ps=>
  have e:h.get? a=ae {cls:=.none,data:=.fields ps}:=x;show h'.get? a=ae {cls:=.none,data:=.fields ps};exact k a _ (.inl rfl) e
 |met f y=>
  have e:h.get? a=ae (tq (.ref f) (.ref y)):=x;show h'.get? a=ae (tq (.ref f) (.ref y));exact k a _ (.inl rfl) e
 |ext φ=>obtain⟨p,⟨o,e⟩,st⟩:=x;exact⟨st _ _ p λo q=>k _ _ (.inl rfl) q,⟨o,k _ _ (.inl rfl) e⟩,st⟩
theorem HOk.lt(x:HOk P w H h)(e:H a=ae o):a<h.objs.size:=(x a o e).lt
theorem HOk.fresh(x:HOk P w H h)(e:h.objs.size<=a):H a=ao:=by
 cases q:H a with
 |none=>rfl
 |some u=>exact bg (eP (x.lt q) e) (fE _)
theorem HOk.kept(x:HOk P w H h)(k:∀b u,h.get? b=ae u->h'.get? b=ae u):HOk P w H h':=λa o e=>
 (x a o e).stay (λb u _ q=>k b u q) (λ_ q=>q) λ_ _ q=>q
theorem HOk.laid(x:HOk P w H h)(k:∀b u,h.get? b=ae u->h'.get? b=ae u)(hp:h.objs.size<=a)(new:lD P w (upd H a o) h' a o):HOk P w (upd H a o) h':=λb u e=>by
 have hn:=x.fresh hp;by_cases hb:b=a
 .subst hb;rw[aM] at e;cases e;exact new
 .rw[bA hb] at e;exact(x b u e).stay (λc v _ q=>k c v q) (λc q=>by rw[bA (eG q hn)];exact q) λc xs q=>by rw[bA (eG q hn)];exact q
end
def Rd(H:Hp)(a:aq)(u:HO):Prop:=H a=ae u\/∃o,H a=ae (.frz o u)
def Rd.ok(r:Rd H a u)(x:HOk P w H h):lD P w H h a u:=by
 rcases r with r|⟨o,r⟩
 .exact x a u r
 .obtain⟨_,q⟩:=x a _ r;exact q
def Mut:aS HO->Prop
 |some (.lst _)=>gv
 |some (.dK _)=>gv
 |some (.dT _)=>gv
 |some (.set _ _)=>gv
 |some (.ins _ _ _)=>gv
 |some (.ext _)=>gv
 |_=>c9
section
variable {x e:aq}
theorem HOk.write(ok:HOk P w H h)(mu:Mut (H x))(he:e=x\/H e=ae (.own x))(k:∀b u,b≠e->h.get? b=ae u->h'.get? b=ae u)(heo:∃u,h'.get? e=ae u)
 (new:lD P w (upd H x o') h' x o'):HOk P w (upd H x o') h':=λb u q=>by
 have nown:∀c y,H c=ae (.own y)->c≠x:=λc y r z=>by subst z;rw[r] at mu;exact mu
 have ntup:∀c xs,H c=ae (.tup xs)->c≠x:=λc xs r z=>by subst z;rw[r] at mu;exact mu
 by_cases hb:b=x
 .subst hb;rw[aM] at q;cases q;exact new
 .rw[bA hb] at q;by_cases hbe:b=e
  .have q':H b=ae (.own x):=by
    rcases he with z|z
    .exact bg (hbe.trans z) hb
    .rw[hbe];exact z
   rw[q] at q';cases q';obtain⟨v,hv⟩:=heo;exact⟨v,by rw[hbe];exact hv⟩
  .refine(ok b u q).stay (λc v hc r=>k c v ?_ r) (λc r=>by rw[bA (nown c b r)];exact r) λc xs r=>by rw[bA (ntup c xs r)];exact r
   rcases hc with rfl|hc
   .exact hbe
   .rintro rfl;rcases he with z|z
    .exact nown c b hc z
    .rw[hc] at z;cases z;exact hb rfl
end
structure Un(fs ex:aa aq)(H H':Hp)(h h':br):Prop where
 keep:∀b o,h.get? b=ae o->H b=ao->b∉fs->b∉ex->h'.get? b=ae o
 slot:∀b o,h.get? b=ae o->H b=ao->b∈fs->b∉ex->∃sl,h'.get? b=ae {o with slots:=sl}
 free:∀b o,h.get? b=ae o->H b=ao->b∉ex->H' b=ao
 there:∀b o,h.get? b=ae o->b∉ex->∃o',h'.get? b=ae o'
 tups:∀b xs,H b=ae (.tup xs)->H' b=ae (.tup xs)
 frzs:∀b o u,H b=ae (.frz o u)->H' b=ae (.frz o u)
 tbls:∀b ps,H b=ae (.tbl ps)->∃more,H' b=ae (.tbl (ps++more))
section
def Un.any(u:Un fs ex H H1 h h1)(q:h.get? b=ae ob)(n:H b=ao)(hx:b∉ex):∃sl,h1.get? b=ae {ob with slots:=sl}:=by
 by_cases hb:b∈fs
 .exact u.slot b ob q n hb hx
 .exact⟨ob.slots,u.keep b ob q n hb hx⟩
def Un.kept(k:∀b u,h.get? b=ae u->h'.get? b=ae u):Un fs ex H H h h':=
 ⟨λb ob q _ _ _=>k b ob q,λb ob q _ _ _=>⟨ob.slots,k b ob q⟩,λ_ _ _ n _=>n,λb ob q _=>⟨ob,k b ob q⟩,λ_ _ q=>q,λ_ _ _ q=>q,λ_ ps q=>⟨#[],by rw[q];simp⟩⟩
def Un.refl:Un fs ex H H h h:=Un.kept λ_ _ q=>q
def Un.laid(k:∀b u,h.get? b=ae u->h'.get? b=ae u)(hp:h.objs.size<=a)(hn:H a=ao):Un fs ex H (upd H a o) h h' where
 keep:=λb u q _ _ _=>k b u q
 slot:=λb u q _ _ _=>⟨u.slots,k b u q⟩
 free:=λb u q n _=>by rw[bA (di (eP (bX q) hp))];exact n
 there:=λb u q _=>⟨u,k b u q⟩
 tups:=λb xs q=>by rw[bA (eG q hn)];exact q
 frzs:=λb u xs q=>by rw[bA (eG q hn)];exact q
 tbls:=λb ps q=>⟨#[],by rw[bA (eG q hn),q];simp⟩
theorem Un.write(mu:Mut (H x))(he:e=x\/H e=ae (.own x))(k:∀b u,b≠e->h.get? b=ae u->h'.get? b=ae u)(heo:∃u,h'.get? e=ae u):Un fs ex H (upd H x o) h h':=by
 have hx:∀b,H b=ao->b≠x:=λb n z=>by subst z;rw[n] at mu;exact mu
 have hb:∀b,H b=ao->b≠e:=λb n z=>by
  subst z;rcases he with r|r
  .exact hx b n r
  .rw[n] at r;cases r
 have hm:∀b u,H b=ae u->¬Mut (ae u)->b≠x:=λb u q nm z=>by subst z;rw[q] at mu;exact nm mu
 refine⟨λb u q n _ _=>k b u (hb b n) q,λb u q n _ _=>⟨u.slots,k b u (hb b n) q⟩,λb u q n _=>by rw[bA (hx b n)];exact n,λb u q _=>?_,
  λb xs q=>by rw[bA (hm b _ q λz=>z)];exact q,λb u xs q=>by rw[bA (hm b _ q λz=>z)];exact q,λb ps q=>⟨#[],by rw[bA (hm b _ q λz=>z),q];simp⟩⟩
 by_cases hbe:b=e
 .subst hbe;exact heo
 .exact⟨u,k b u hbe q⟩
end
noncomputable def trk(h:br)(H:Hp):aa aq:=(bh h.objs.size).filter λa=>(H a).isSome
def aFs(h:br)(H:Hp):br:=PySem.W.hideAll h (trk h H)
def aAw(h:br)(H:Hp):(aFs h H).objs.size=h.objs.size:=PySem.W.hideAll_size _ _
def aFt(e:h.get? b=ae o)(n:H b=ao):(aFs h H).get? b=ae o:=
 PySem.W.hideAll_get _ e λhm=>by
  have q:(H b).isSome=af:=(ky.mp hm).2;rw[n] at q;simp at q
def aJ8(e:(aFs h H).get? b=ae o):h.get? b=ae o/\H b=ao:=by
 have e':h.get? b=ae o:=PySem.W.of_hideAll (trk h H) e;refine⟨e',?_⟩;cases q:H b with
 |none=>rfl
 |some x=>
  have hm:b∈trk h H:=ky.mpr ⟨jb.mpr (bX e'),by simp[q]⟩;have z:(aFs h H).get? b=ao:=PySem.W.hideAll_none (trk h H) hm;rw[z] at e;cases e
structure Mod(K:b6)(mg:Str->aS ap)(base:br):Prop where
 kin:K.In base
 glob:base.Ns eT mg
 blt:∃mb,base.Ns tu mb/\∀x:Str,x ≠ "__name__"->mb x=eR x
 nolimit:base.NoLimit
/-- the context: a def's body (or a comprehension's block) running. base: fixed through the whole law;s₀,H₀: the entry;outer: the frames whose slots others may change (a def's callers);stack: all frames that run;
   ex: iterators that were made ahead of the entry and are walked here (a comprehension's);fn: the names whose cells were made at the entry (a def: all;a comprehension's block: its own);calm: not within an except suite;pn: Ψ that every state bears;xe: what is wanted of an exception that leaves the code -/
structure Cx where
 prog:cy
 w:bS
 K:b6
 mg:Str->aS ap
 base:br
 A:cS
 N:aa Str
 s₀:ay
 H₀:Hp
 env:d6
 outer:aa d6
 stack:aa d6
 ex:aa aq
 fn:Str->ax
 calm:ax
 pn:aa (aq×b9)
 xe:ap->ay->Prop
noncomputable def frs(l:aa d6):aa aq:=l.filterMap (·.frame)
abbrev Cx.fs(X:Cx):aa aq:=frs X.outer
def Vis(sc:fT)(x:Str):Prop:=sc.names.lookup x=ae .local\/sc.names.lookup x=ae .cell\/sc.names.lookup x=ae .free
def Loc(sc:fT)(x:Str):Prop:=sc.names.lookup x=ae .local\/sc.names.lookup x=ae .cell
def Look(env:d6)(h:br)(m:Str->aS ap)(x:Str)(u:ap):Prop:=
 (env.kindOf x=ae .local/\m x=ae u)\/((env.kindOf x=ae .cell\/env.kindOf x=ae .free)/\∃c,env.cells.lookup x=ae c/\h.IsCell c (ae u))
abbrev zSE(X:Cx)(e:Expr)(es:aa Expr):Prop:=dQ (e::es) X.env=(aj,cK e X.env)::dQ es X.env
abbrev zSP(X:Cx)(pos:de)(es:aa Expr):Prop:=(jq pos (dQ es X.env)).any (·.1)=aj
abbrev zFw(X:Cx)(cpos:de)(es:aa Expr):Prop:=((jq cpos (dQ es X.env)).all (λx=>!x.1)&&(backToKw cpos (xt [] X.env)).all (λx=>x.1.isSome)
  &&ϒ (es.length+([]:aa oy).length+(if ([]:aa oy).isEmpty then 0 else 1)<30))=af
abbrev zSw(X:Cx)(e:Expr)(x:Str)(pos' pos:de):Prop:=fi e (ae (.Name x pos')) pos.line X.env=pure aj
abbrev zFn(X:Cx)(x:Str):Prop:=X.fn x=af\/X.env.scope.names.lookup x=ae .local
structure Cx.Ok(X:Cx):Prop where
 mod:Mod X.K X.mg X.base
 kind:X.env.scope.kind=.function
 glob:X.env.globals=eT
 blt:X.env.builtins=tu
 above:X.s₀.heap.objs.size<=X.env.locals
 inj:∀x y c,X.env.cells.lookup x=ae c->X.env.cells.lookup y=ae c->x=y
 has:∀x,(X.env.kindOf x=ae .cell\/X.env.kindOf x=ae .free)->∃c,X.env.cells.lookup x=ae c
 cab:∀x c,X.fn x=af->X.env.cells.lookup x=ae c->X.s₀.heap.objs.size<=c
 hd:X.calm=af->X.A.handled=ao
 frames:X.A.frames=ae X.stack
 stk:X.stack=X.outer\/(X.stack=X.env::X.outer/\X.env.frame=ae X.env.locals)
 exf:∀b∈X.ex,b≠X.env.locals/\∀x c,X.env.cells.lookup x=ae c->c≠b
 bs:∀b o,X.base.get? b=ae o->X.s₀.heap.get? b=ae o/\X.H₀ b=ao
 bsz:X.base.objs.size<=X.s₀.heap.objs.size
 noex:∀b o,X.base.get? b=ae o->b∉X.ex
 exfs:∀b∈X.ex,b∉X.fs
 aAx:X.s₀.heap.FunFrames X.base X.outer
 frf:∀b∈X.fs,X.H₀ b=ao
structure Inv(X:Cx)(Ψ:aa (aq×b9))(σ:aa (aS V))(H:Hp)(s:ay):Prop where
 ok:X.Ok
 os:s.os=X.s₀.os
 bare:jr s.gens
 base:Un X.fs X.ex X.H₀ H X.s₀.heap s.heap
 loc:∃m,s.heap.Ns X.env.locals m/\∀(i:ai)(x:Str)(v:V),X.N[i]?=ae x->σ[i]?=ae (ae v)->Vis X.env.scope x->∃u,RelV v u/\Look X.env s.heap m x u
 cell:∀x c,X.env.cells.lookup x=ae c->∃v,s.heap.IsCell c v
 free:H X.env.locals=ao
 freeC:∀x c,X.env.cells.lookup x=ae c->H c=ao
 pin:∀p∈X.pn++Ψ,s.heap.get? p.1=ae p.2/\H p.1=ao/\p.1≠X.env.locals/\p.1∉X.fs/\∀v,p.2.data≠.cell v
 hok:HOk X.prog X.w H s.heap
 len:σ.length=X.N.length
section
variable {X:Cx} {Ψ:aa (aq×b9)} {σ:aa (aS V)} {H H':Hp} {s:ay} {h':br}
theorem Cx.Ok.aSq(ok:X.Ok)(e:X.base.get? b=ae o):b∉X.fs:=λhb=>by
 have:=(ok.aAx.mem hb).1;rw[e] at this;cases this
theorem Inv.bs(I:Inv X Ψ σ H s):∀b o,X.base.get? b=ae o->s.heap.get? b=ae o/\H b=ao:=λb o e=>
 ⟨I.base.keep b o (I.ok.bs b o e).1 (I.ok.bs b o e).2 (I.ok.aSq e) (I.ok.noex b o e),I.base.free b o (I.ok.bs b o e).1 (I.ok.bs b o e).2 (I.ok.noex b o e)⟩
theorem Inv.bk(I:Inv X Ψ σ H s):∀b o,X.base.get? b=ae o->s.heap.get? b=ae o:=λb o e=>(I.bs b o e).1
theorem Inv.mod(I:Inv X Ψ σ H s):Mod X.K X.mg X.base:=I.ok.mod
theorem Inv.kIn(I:Inv X Ψ σ H s):X.K.In s.heap:=I.ok.mod.kin.keeps I.bk
theorem Inv.lt(I:Inv X Ψ σ H s):X.env.locals<s.heap.objs.size:=let ⟨_,hn,_⟩:=I.loc;hn.lt
theorem Inv.sz(I:Inv X Ψ σ H s):X.s₀.heap.objs.size<=s.heap.objs.size:=du I.ok.above (mN I.lt)
theorem Inv.aS9(I:Inv X Ψ σ H s)(h:s.heap.objs.size<=a):a∉X.fs:=λhb=>by
 obtain⟨_,o,ho,_⟩:=I.ok.aAx.mem hb;exact bg (eP (bX ho) (du I.sz h)) (fE _)
theorem Inv.cne(I:Inv X Ψ σ H s):∀x c,X.env.cells.lookup x=ae c->c≠X.env.locals:=λx c e z=>by
 obtain⟨v,o,ho,hd⟩:=I.cell x c e;obtain⟨m,⟨o',es,ep,ho',hd',_⟩,_⟩:=I.loc;rw[z,ho'] at ho;cases ho;rw[hd'] at hd;cases hd
theorem Inv.aAx(I:Inv X Ψ σ H s):s.heap.FunFrames X.base X.outer:=by
 have all:∀(l:aa d6),(∀b∈frs l,b∈X.fs)->X.s₀.heap.FunFrames X.base l->s.heap.FunFrames X.base l:=by
  intro l;induction l with
  |nil=>intro _ _;trivial
  |cons env r ih=>
   intro hs hl;obtain⟨hk,⟨L,o,hf,hn,ho,hd⟩,hr⟩:=hl;have hL:L∈X.fs:=hs L (by unfold frs;rw[tw,hf];exact bw);obtain⟨sl,e⟩:=I.base.slot L o ho (I.ok.frf L hL) hL λz=>I.ok.exfs L z hL
   exact⟨hk,⟨L,_,hf,hn,e,hd⟩,ih (λb hb=>hs b (by unfold frs;rw[tw,hf];exact bu _ hb)) hr⟩
 exact all X.outer (λ_ hb=>hb) I.ok.aAx
theorem Inv.stack(I:Inv X Ψ σ H s):s.heap.FunFrames X.base X.stack:=by
 rcases I.ok.stk with e|⟨e,hf⟩
 .rw[e];exact I.aAx
 .rw[e];obtain⟨m,hn,_⟩:=I.loc;refine .cons (by rw[I.ok.kind];decide) hf hn ?_ I.aAx;exact Heap.get?_none_of_le (du I.ok.bsz I.ok.above)
theorem Inv.WN(I:Inv X Ψ σ H s):∀b∈frs X.stack,b∈X.env.locals::X.fs:=λb hb=>by
 rcases I.ok.stk with e|⟨e,hf⟩
 .rw[e] at hb;exact bu _ hb
 .rw[e] at hb;unfold frs at hb;rw[tw,hf] at hb;exact hb
theorem Inv.aAy(I:Inv X Ψ σ H s):∀b∈frs X.stack,H b=ao:=λb hb=>by
 rcases bq.mp (I.WN b hb) with e|hb
 .rw[e];exact I.free
 .obtain⟨_,o,ho,_⟩:=I.ok.aAx.mem hb;exact I.base.free b o ho (I.ok.frf b hb) λz=>I.ok.exfs b z hb
theorem Inv.step{ch:aa aq}(I:Inv X Ψ σ H s)
 (hch:∀b∈ch,(b∈X.ex\/X.s₀.heap.objs.size<=b)/\b≠X.env.locals/\(∀x c,X.env.cells.lookup x=ae c->c≠b)/\∀p∈X.pn++Ψ,p.1≠b)
 (keep:∀b o,b≠X.env.locals->b∉X.fs->b∉ch->s.heap.get? b=ae o->H b=ao->h'.get? b=ae o)
 (slot:∀b o,b≠X.env.locals->b∈X.fs->b∉ch->s.heap.get? b=ae o->H b=ao->∃sl,h'.get? b=ae {o with slots:=sl})(free:∀b o,b∉ch->s.heap.get? b=ae o->H b=ao->H' b=ao)
 (there:∀b o,b∉ch->s.heap.get? b=ae o->∃o',h'.get? b=ae o')
 (tups:∀b xs,H b=ae (.tup xs)->H' b=ae (.tup xs))(frzs:∀b o u,H b=ae (.frz o u)->H' b=ae (.frz o u))(tbls:∀b ps,H b=ae (.tbl ps)->∃more,H' b=ae (.tbl (ps++more)))
 (ns:∀m,s.heap.Ns X.env.locals m->h'.Ns X.env.locals m)(hok:HOk X.prog X.w H' h')(hg:jr g') :
  Inv X Ψ σ H' {s with heap:=h',gens:=g',drawn:=d',toks:=t'}:=by
 have neL:∀b o,X.s₀.heap.get? b=ae o->b≠X.env.locals:=λb o e=>di (eP (bX e) I.ok.above)
 have neC:∀b o,X.s₀.heap.get? b=ae o->b∉X.ex->b∉ch:=λb o e hx hb=>by
  rcases(hch b hb).1 with z|z
  .exact hx z
  .exact bg (eP (bX e) z) (fE _)
 have cellK:∀x c,X.env.cells.lookup x=ae c->∀v,s.heap.IsCell c v->h'.IsCell c v:=λx c e v ⟨o,ho,hd⟩=>by
  have nch:c∉ch:=λz=>(hch c z).2.2.1 x c e rfl
  by_cases hc:c∈X.fs
  .obtain⟨sl,q⟩:=slot c o (I.cne x c e) hc nch ho (I.freeC x c e);exact⟨_,q,hd⟩
  .exact⟨o,keep c o (I.cne x c e) hc nch ho (I.freeC x c e),hd⟩
 refine⟨I.ok,I.os,hg,⟨λb o e n hb hx=>?_,λb o e n hb hx=>?_,λb o e n hx=>?_,λb o e hx=>?_,λb xs e=>tups b xs (I.base.tups b xs e),λb o xs e=>frzs b o xs (I.base.frzs b o xs e),λb ps e=>?_⟩,?_,λx c e=>?_,?_,λx c e=>?_,λp hp=>?_,hok,I.len⟩
 .exact keep b o (neL b o e) hb (neC b o e hx) (I.base.keep b o e n hb hx) (I.base.free b o e n hx)
 .obtain⟨sl,e1⟩:=I.base.slot b o e n hb hx;obtain⟨sl',e2⟩:=slot b _ (neL b o e) hb (neC b o e hx) e1 (I.base.free b o e n hx);exact⟨sl',e2⟩
 .obtain⟨o',e1⟩:=I.base.there b o e hx;exact free b o' (neC b o e hx) e1 (I.base.free b o e n hx)
 .obtain⟨o',e1⟩:=I.base.there b o e hx;exact there b o' (neC b o e hx) e1
 .obtain⟨m1,e1⟩:=I.base.tbls b ps e;obtain⟨m2,e2⟩:=tbls b _ e1;exact⟨m1++m2,by rw[e2,Array.append_assoc]⟩
 .obtain⟨m,hn,hl⟩:=I.loc;refine⟨m,ns m hn,λi x v e1 e2 e3=>?_⟩;obtain⟨u,r,l⟩:=hl i x v e1 e2 e3;refine⟨u,r,?_⟩;rcases l with l|⟨k,c,e,z⟩
  .exact .inl l
  .exact .inr ⟨k,c,e,cellK x c e _ z⟩
 .obtain⟨v,z⟩:=I.cell x c e;exact⟨v,cellK x c e v z⟩
 .obtain⟨m,⟨o,_,_,ho,_⟩,_⟩:=I.loc;exact free _ o (λz=>(hch _ z).2.1 rfl) ho I.free
 .obtain⟨v,o,ho,hd⟩:=I.cell x c e;exact free c o (λz=>(hch c z).2.2.1 x c e rfl) ho (I.freeC x c e)
 .obtain⟨e,n,ne,nf,d⟩:=I.pin p hp;have nch:p.1∉ch:=λz=>(hch p.1 z).2.2.2 p hp rfl
  exact⟨keep p.1 p.2 ne nf nch e n,free p.1 p.2 nch e n,ne,nf,d⟩
theorem Inv.un(I:Inv X Ψ σ H s)(u:Un X.fs [] H H' s.heap h')(hok:HOk X.prog X.w H' h'):Inv X Ψ σ H' {s with heap:=h',toks:=t'}:=by
 obtain⟨m,⟨o,es,ep,ho,r⟩,_⟩:=id I.loc;obtain⟨sl,hL⟩:=u.any ho I.free 0x2;exact I.step (ch:=[]) (λ_ z=>nomatch z) (λb o _ hb _ e n=>u.keep b o e n hb 0x2) (λb o _ hb _ e n=>u.slot b o e n hb 0x2) (λb o _ e n=>u.free b o e n 0x2) (λb o _ e=>u.there b o e 0x2) u.tups u.frzs u.tbls (λm' hm=>by
  obtain⟨o',es',ep',ho',r'⟩:=hm;rw[ho] at ho';cases ho';exact⟨_,es',ep',hL,r'⟩) hok I.bare
theorem Inv.call(I:Inv X Ψ σ H s)(u:Un (frs X.stack) ch H H' s.heap h')(hok:HOk X.prog X.w H' h')(hg:jr g')
 (hch:∀b∈ch,(b∈X.ex\/X.s₀.heap.objs.size<=b)/\b≠X.env.locals/\(∀x c,X.env.cells.lookup x=ae c->c≠b)/\∀p∈X.pn++Ψ,p.1≠b) :
  Inv X Ψ σ H' {s with heap:=h',gens:=g',drawn:=d',toks:=t'}:=by
 obtain⟨m,⟨o,es,ep,ho,r⟩,_⟩:=id I.loc;obtain⟨sl,hL⟩:=u.any ho I.free λz=>(hch _ z).2.1 rfl
 exact I.step hch (λb o hL hb hc e n=>u.keep b o e n (λz=>(bq.mp (I.WN b z)).elim hL hb) hc) (λb o _ _ hc e n=>u.any e n hc) (λb o hc e n=>u.free b o e n hc) (λb o hc e=>u.there b o e hc) u.tups u.frzs u.tbls (λm' hm=>by
  obtain⟨o',es',ep',ho',r'⟩:=hm;rw[ho] at ho';cases ho';exact⟨_,es',ep',hL,r'⟩) hok hg
theorem Inv.turned(I:Inv X Ψ σ H s)(k:∀b o,b≠it->s.heap.get? b=ae o->h'.get? b=ae o)(hn:H it=ao)(hL:it≠X.env.locals)
 (h1:it∈X.ex\/X.s₀.heap.objs.size<=it)(h2:∀x c,X.env.cells.lookup x=ae c->c≠it)(h3:∀p∈X.pn++Ψ,p.1≠it):Inv X Ψ σ H {s with heap:=h',toks:=t'}:=by
 have nit:∀b u,H b=ae u->b≠it:=λb u e z=>by rw[z,hn] at e;cases e
 refine I.step (ch:=[it]) (λb hb=>?_) (λb o _ _ hc e _=>k b o (λz=>hc (by simp[z])) e) (λb o _ _ hc e _=>⟨o.slots,k b o (λz=>hc (by simp[z])) e⟩) (λ_ _ _ _ n=>n)
  (λb o hc e=>⟨o,k b o (λz=>hc (by simp[z])) e⟩) (λ_ _ e=>e) (λ_ _ _ e=>e) (λb ps e=>⟨#[],by rw[e];simp⟩) (λm hm=>?_) (λb u e=>?_) I.bare
 .have e:b=it:=by simpa using hb
  subst e;exact⟨h1,hL,h2,h3⟩
 .obtain⟨o,es,ep,ho,r⟩:=hm;exact⟨o,es,ep,k _ o (Ne.symm hL) ho,r⟩
 .refine(I.hok b u e).stay (λc v hc q=>k c v ?_ q) (λ_ q=>q) λ_ _ q=>q
  rcases hc with z|z
  .rw[z];exact nit b u e
  .exact nit c _ z
theorem Inv.tok(I:Inv X Ψ σ H s)(t:ai):Inv X Ψ σ H {s with toks:=t}:=I.un Un.refl I.hok
theorem Inv.kept(I:Inv X Ψ σ H s)(k:∀b u,s.heap.get? b=ae u->h'.get? b=ae u):Inv X Ψ σ H {s with heap:=h',toks:=t'}:=I.un (Un.kept k) (I.hok.kept k)
theorem Inv.laid(I:Inv X Ψ σ H s)(k:∀b u,s.heap.get? b=ae u->h'.get? b=ae u)(hp:s.heap.objs.size<=a)(new:lD X.prog X.w (upd H a o) h' a o) :
  Inv X Ψ σ (upd H a o) {s with heap:=h',toks:=t'}:=I.un (Un.laid k hp (I.hok.fresh hp)) (I.hok.laid k hp new)
theorem Inv.write(I:Inv X Ψ σ H s)(mu:Mut (H x))(he:e=x\/H e=ae (.own x))(k:∀b u,b≠e->s.heap.get? b=ae u->h'.get? b=ae u)(heo:∃u,h'.get? e=ae u)
 (new:lD X.prog X.w (upd H x o) h' x o):Inv X Ψ σ (upd H x o) {s with heap:=h',toks:=t'}:=I.un (Un.write mu he k heo) (I.hok.write mu he k heo new)
theorem Inv.weak(I:Inv X Ψ σ H s)(hl:σ'.length=σ.length)(w:∀(i:ai) v,σ'[i]?=ae (ae v)->σ[i]?=ae (ae v)):Inv X Ψ σ' H s:=
 ⟨I.ok,I.os,I.bare,I.base,let ⟨m,hn,hl'⟩:=I.loc;⟨m,hn,λi x v e1 e2 e3=>hl' i x v e1 (w i v e2) e3⟩,I.cell,I.free,I.freeC,I.pin,I.hok,hl.trans I.len⟩
theorem Inv.S7(I:Inv X Ψ σ H s)(h:∀p∈pins',s.heap.get? p.1=ae p.2/\H p.1=ao/\p.1≠X.env.locals/\p.1∉X.fs/\∀v,p.2.data≠.cell v):Inv X pins' σ H s:=
 ⟨I.ok,I.os,I.bare,I.base,I.loc,I.cell,I.free,I.freeC,λp hp=>(cw.mp hp).elim (λz=>I.pin p (eg _ z)) (h p),I.hok,I.len⟩
def WP{N:aa Str}(hN:N.Nodup){i j:ai}(a:N[i]?=ae x)(b:N[j]?=ae x):i=j:=by
 obtain⟨h1,e1⟩:=dz.mp a;obtain⟨h2,e2⟩:=dz.mp b;exact(List.getElem_inj hN).mp (e1.trans e2.symm)
theorem aAz(I:Inv X Ψ σ H s)(hN:X.N.Nodup)(hi:X.N[i]?=ae x)(hx:Loc X.env.scope x)(r:RelV v u)
 (h:∀s',Inv X Ψ (σ.set i (ae v)) H s'->(∃a,li a s.heap s'.heap/\(a=X.env.locals\/X.env.cells.lookup x=ae a))->Q () s')(hf:autoParam (zFn X x) Ξ):ϑ M A (storeName X.env x u) Q E s:=by
 obtain⟨m,hn,hl⟩:=id I.loc;have hcls:(X.env.scope.kind==.class||(X.env.scope.kind==.module&&X.env.locals !=X.env.globals))=aj:=by rw[I.ok.kind];rfl
 have hiσ:i<σ.length:=by rw[I.len];exact(dz.mp hi).1
 have cne:=I.cne;have tracked:∀{a:aq}{h':br},(∃o,s.heap.get? a=ae o/\H a=ao)->li a s.heap h'->HOk X.prog X.w H h':=λ{a h'} ha hs b ob e=>by
  obtain⟨_,_,hfree⟩:=ha;refine(I.hok b ob e).stay (λc w' hc q=>(hs.2 c ?_).trans q) (λ_ q=>q) λ_ _ q=>q
  rintro rfl;rcases hc with rfl|hc
  .rw[hfree] at e;cases e
  .rw[hfree] at hc;cases hc
 rcases hx with hk|hk
 .refine wpAny_storeName_local hk hn (λh' hn' hs=>?_) hcls;obtain⟨oL,_,_,hoL,_⟩:=id hn;refine h _ ⟨I.ok,I.os,I.bare,⟨λb o e n hb hx=>?_,λb o e n hb hx=>?_,I.base.free,λb o e hx=>?_,I.base.tups,I.base.frzs,I.base.tbls⟩,⟨_,hn',λj y v' e1 e2 e3=>?_⟩,λy c e=>?_,I.free,I.freeC,λp hp=>?_,tracked ⟨oL,hoL,I.free⟩ hs,by simpa using I.len⟩ ⟨_,hs,.inl rfl⟩
  .exact(hs.2 b (di (eP (bX e) I.ok.above))).trans (I.base.keep b o e n hb hx)
  .obtain⟨sl,e1⟩:=I.base.slot b o e n hb hx;exact⟨sl,(hs.2 b (di (eP (bX e) I.ok.above))).trans e1⟩
  .obtain⟨o',e1⟩:=I.base.there b o e hx;exact⟨o',(hs.2 b (di (eP (bX e) I.ok.above))).trans e1⟩
  .by_cases hj:j=i
   .subst hj;rw[hi] at e1;cases e1;rw[gw hiσ] at e2;cases e2;exact⟨u,r,.inl ⟨hk,by simp⟩⟩
   .rw[eD (Ne.symm hj)] at e2;obtain⟨u',r',q⟩:=hl j y v' e1 e2 e3;refine⟨u',r',?_⟩;rcases q with ⟨k,e⟩|⟨k,c,e,z⟩
    .refine .inl ⟨k,?_⟩;have:y≠x:=λe=>hj (WP hN e1 (e▸hi))
     simp[this,e]
    .exact .inr ⟨k,c,e,z.sameBut hs (cne y c e)⟩
  .obtain⟨w',z⟩:=I.cell y c e;exact⟨w',z.sameBut hs (cne y c e)⟩
  .obtain⟨e,n,ne,nf,d⟩:=I.pin p hp;exact⟨(hs.2 p.1 ne).trans e,n,ne,nf,d⟩
 .have hfn:X.fn x=af:=by
   rcases hf with z|z
   .exact z
   .rw[z] at hk;cases hk
  obtain⟨c,hc⟩:=I.ok.has x (.inl hk);obtain⟨w',z⟩:=I.cell x c hc;refine wpAny_storeName_cell I.ok.kind hk hc z (λh' hc' hs=>?_);obtain⟨oc,hoc,hocd⟩:=id z;refine h {s with heap:=h'} ⟨I.ok,I.os,I.bare,⟨λb o e n hb hx=>?_,λb o e n hb hx=>?_,I.base.free,λb o e hx=>?_,I.base.tups,I.base.frzs,I.base.tbls⟩,⟨m,hn.sameBut hs (Ne.symm (cne x c hc)),λj y v' e1 e2 e3=>?_⟩,λy c' e=>?_,I.free,I.freeC,λp hp=>?_,tracked ⟨oc,hoc,I.freeC x c hc⟩ hs,by simpa using I.len⟩ ⟨c,hs,.inr hc⟩
  .exact(hs.2 b (di (eP (bX e) (I.ok.cab x c hfn hc)))).trans (I.base.keep b o e n hb hx)
  .obtain⟨sl,e1⟩:=I.base.slot b o e n hb hx;exact⟨sl,(hs.2 b (di (eP (bX e) (I.ok.cab x c hfn hc)))).trans e1⟩
  .obtain⟨o',e1⟩:=I.base.there b o e hx;exact⟨o',(hs.2 b (di (eP (bX e) (I.ok.cab x c hfn hc)))).trans e1⟩
  .by_cases hj:j=i
   .subst hj;rw[hi] at e1;cases e1;rw[gw hiσ] at e2;cases e2;exact⟨u,r,.inr ⟨.inl hk,c,hc,hc'⟩⟩
   .rw[eD (Ne.symm hj)] at e2;obtain⟨u',r',q⟩:=hl j y v' e1 e2 e3;refine⟨u',r',?_⟩;rcases q with q|⟨k,c',e,z'⟩
    .exact .inl q
    .refine .inr ⟨k,c',e,z'.sameBut hs ?_⟩;rintro rfl;exact hj (WP hN e1 (I.ok.inj _ _ _ e hc▸hi))
  .by_cases hcc:c'=c
   .subst hcc;exact⟨_,hc'⟩
   .obtain⟨w2,z2⟩:=I.cell y c' e;exact⟨w2,z2.sameBut hs hcc⟩
  .obtain⟨e,n,ne,nf,d⟩:=I.pin p hp;refine⟨(hs.2 p.1 ?_).trans e,n,ne,nf,d⟩;intro q;rw[q,hoc] at e;have q':oc=p.2:=c5 e;exact d w' (by rw[<-q'];exact hocd)
def WQ(I:Inv X Ψ σ H s)(hN:X.N.Nodup)(hi:X.N[i]?=ae x)(hx:Loc X.env.scope x)(r:RelV v u)
 (h:∀s',Inv X Ψ (σ.set i (ae v)) H s'->Q () s')(hf:autoParam (zFn X x) Ξ):ϑ M A (storeName X.env x u) Q E s:=
 aAz I hN hi hx r (λs' I' _=>h s' I') hf
end
abbrev XK:=ap->aS aq->Hp->Prop
noncomputable abbrev St:=aa (aS V)
abbrev VK:=V->Hp->Prop
abbrev TE:=St->Hp->VK->Prop
abbrev TT:=St->Hp->(ax->Hp->Prop)->Prop
abbrev TA:=St->Hp->(aa V->Hp->Prop)->Prop
structure Ends where
 nx:St->Hp->Prop
 rt:VK
 bk:St->Hp->Prop:=λ_ _=>c9
 ct:St->Hp->Prop:=λ_ _=>c9
abbrev TS:=Ends->St->Hp->Prop
def EP(X:Cx)(Ψ:aa (aq×b9))(σ:St)(Q:VK)(u:ap)(s':ay):Prop:=∃v H',Inv X Ψ σ H' s'/\RelV v u/\Q v H'
def TP(X:Cx)(Ψ:aa (aq×b9))(σ:St)(Q:ax->Hp->Prop)(b:ax)(s':ay):Prop:=∃H',Inv X Ψ σ H' s'/\Q b H'
def AP(X:Cx)(Ψ:aa (aq×b9))(σ:St)(Q:aa V->Hp->Prop)(us:aa ap)(s':ay):Prop:=∃vs H',Inv X Ψ σ H' s'/\Vals vs us/\Q vs H'
def SP(X:Cx)(Ψ:aa (aq×b9))(D:Ends)(f:Flow)(s':ay):Prop:=
 match f with
 |.next=>∃σ' H',Inv X Ψ σ' H' s'/\D.nx σ' H'
 |.brk=>∃σ' H',Inv X Ψ σ' H' s'/\D.bk σ' H'
 |.cont=>∃σ' H',Inv X Ψ σ' H' s'/\D.ct σ' H'
 |.ret u=>∃v σ' H',Inv X Ψ σ' H' s'/\RelV v u/\D.rt v H'
def PE(X:Cx)(e:Expr)(t:TE):Prop:=
 ∀(Ψ:aa (aq×b9))(s:ay)(σ:St)(H:Hp)(Q:VK),Inv X Ψ σ H s->t σ H Q->ϑ (az X.prog X.w) X.A (cK e X.env) (EP X Ψ σ Q) X.xe s
def PT(X:Cx)(e:Expr)(t:TT):Prop:=
 ∀(Ψ:aa (aq×b9))(s:ay)(σ:St)(H:Hp)(Q:ax->Hp->Prop),Inv X Ψ σ H s->t σ H Q->ϑ (az X.prog X.w) X.A (oz e X.env (cK e X.env)) (TP X Ψ σ Q) X.xe s
def PW(X:Cx)(e:Expr)(t:TT):Prop:=
 ∀(whole:fF ap)(Ψ:aa (aq×b9))(s:ay)(σ:St)(H:Hp)(Q:ax->Hp->Prop),Inv X Ψ σ H s->t σ H Q->ϑ (az X.prog X.w) X.A (oz e X.env whole) (TP X Ψ σ Q) X.xe s
theorem PW.pt(h:PW X e t):PT X e t:=h _
def PA(X:Cx)(es:aa Expr)(t:TA):Prop:=
 ∀(pos:de)(Ψ:aa (aq×b9))(s:ay)(σ:St)(H:Hp)(Q:aa V->Hp->Prop),Inv X Ψ σ H s->t σ H Q->ϑ (az X.prog X.w) X.A (tx (jq pos (dQ es X.env))) (AP X Ψ σ Q) X.xe s
def PS(X:Cx)(st:bz)(t:TS):Prop:=
 ∀(Ψ:aa (aq×b9))(s:ay)(σ:St)(H:Hp)(D:Ends),Inv X Ψ σ H s->t D σ H->ϑ (az X.prog X.w) X.A (exec st X.env) (SP X Ψ D) X.xe s
def PSs(X:Cx)(st:aa bz)(t:TS):Prop:=
 ∀(Ψ:aa (aq×b9))(s:ay)(σ:St)(H:Hp)(D:Ends),Inv X Ψ σ H s->t D σ H->ϑ (az X.prog X.w) X.A (execs st X.env) (SP X Ψ D) X.xe s
def thn(h:ϑ M A t Q E s)(hQ:∀a s,Q a s->Q' a s):ϑ M A t Q' E s:=fj h hQ λ_ _ x=>x
section
variable {X:Cx}
noncomputable def aSr(i:ai):TE:=λσ H Q=>∃v,σ[i]?=ae (ae v)/\Q v H
noncomputable def tC(v:V):TE:=λ_ H Q=>Q v H
def j_(hN:X.N[i]?=ae x)(hv:Vis X.env.scope x)(hd:autoParam (nDb x) Λ)(hcd:autoParam (nCd x) Λ):PE X (.Name x pos) (aSr i):=by
 intro Ψ s σ H Q I h;obtain⟨v,e,h⟩:=h;obtain⟨m,hn,hl⟩:=I.loc;obtain⟨u,r,l⟩:=hl i x v hN e hv;have fin:EP X Ψ σ Q u s:=⟨v,H,I,r,h⟩
 rcases l with ⟨hk,hm⟩|⟨hk,c,hc,hcell⟩
 .exact tF (wpAny_loadName_local I.ok.kind hk hn hm fin) hd
 .rcases hk with hk|hk
  .exact tF (wpAny_loadName_cell I.ok.kind hk hc hcell fin) hd
  .exact tF (wpAny_loadName_free I.ok.kind hk hc hcell fin hcd) hd
def aN2{i j pos}:PE X (.Constant (.int i) j pos) (tC (.int i)):=λ_ _ _ H _ I h=>xu ⟨.int i,H,I.tok _,⟨_,rfl⟩,h⟩
def aQm{b j pos}:PE X (.Constant (.bool b) j pos) (tC (.bl b)):=λ_ _ _ H _ I h=>Constant_bool ⟨.bl b,H,I,rfl,h⟩
def aN3{j pos}:PE X (.Constant .none j pos) (tC .non):=λ_ _ _ H _ I h=>Constant_none ⟨.non,H,I,rfl,h⟩
def aN4{x j pos}:PE X (.Constant (.str x) j pos) (tC (.str x)):=λ_ _ _ H _ I h=>Calls.Constant_str ⟨.str x,H,I.tok _,⟨_,rfl⟩,h⟩
def Gl(X:Cx)(x:Str):Prop:=X.env.kindOf x=ae .globalImplicit
def aJ9(I:Inv X Ψ σ H s)(hg:Gl X x)(hm:X.mg x=ae u)(h:Q u s)
 (hd:autoParam (nDb x) Λ):ϑ (az X.prog X.w) X.A (cK (.Name x pos) X.env) Q E s:=
 xv I.ok.kind hg (Calls.loadGlobal_global (by rw[I.ok.glob];exact I.mod.glob.keeps I.bk) hm h) hd
def vP(I:Inv X Ψ σ H s)(hg:Gl X x)(hm:X.mg x=ao)(hv:eR x=ae u)(h:Q u s)
 (hn:autoParam (x ≠ "__name__") Λ)(hd:autoParam (nDb x) Λ):ϑ (az X.prog X.w) X.A (cK (.Name x pos) X.env) Q E s:=by
 obtain⟨mb,h1,h2⟩:=I.mod.blt;exact xv I.ok.kind hg (Calls.loadGlobal_builtin (by rw[I.ok.glob];exact I.mod.glob.keeps I.bk) hm (by rw[I.ok.blt];exact h1.keeps I.bk) ((h2 x hn).trans hv) h) hd
def aJa(hg:Gl X x)(hm:X.mg x=ao)(hv:eR x=ae u)(r:RelV v u)(hn:autoParam (x ≠ "__name__") Λ)(hd:autoParam (nDb x) Λ):PE X (.Name x pos) (tC v):=
 λ_ _ _ H _ I h=>vP I hg hm hv ⟨v,H,I,r,h⟩ hn hd
variable {a b:Expr} {ta tb:TE} {pos:de}
variable {tA tB':TT} {rest:aa Expr}
noncomputable def aSs(t u:TT):TT:=λσ H Q=>t σ H λc H1=>if c=af then u σ H1 Q else Q aj H1
noncomputable def tOr(t u:TT):TT:=λσ H Q=>t σ H λc H1=>if c=af then Q af H1 else u σ H1 Q
noncomputable def aSt(t:TT):TT:=λσ H Q=>t σ H λc H1=>Q (!c) H1
def aJb(ha:PT X a tA):PW X (.BoolOp .And [a] pos) tA:=by
 intro wh Ψ s σ H Q I h;refine isTrue_and (thn (ha Ψ s σ H Q I h) λc s1 e=>?_);cases c with
 |true=>exact isTrue_and_nil e
 |false=>exact e
def aN5(ha:PT X a tA):PW X (.BoolOp .Or [a] pos) tA:=by
 intro wh Ψ s σ H Q I h;refine isTrue_or (thn (ha Ψ s σ H Q I h) λc s1 e=>?_);cases c with
 |false=>exact isTrue_or_nil e
 |true=>exact e
def aN6(ha:PT X a tA)(hb:PW X (.BoolOp .And (b::rest) pos) tB'):PW X (.BoolOp .And (a::b::rest) pos) (aSs tA tB'):=by
 intro wh Ψ s σ H Q I h;refine isTrue_and (thn (ha Ψ s σ H _ I h) λc s1 ⟨H1,I1,q1⟩=>?_);cases c with
 |true=>exact hb wh Ψ s1 σ H1 Q I1 q1
 |false=>exact⟨H1,I1,q1⟩
def aQn(ha:PT X a tA)(hb:PW X (.BoolOp .Or (b::rest) pos) tB'):PW X (.BoolOp .Or (a::b::rest) pos) (tOr tA tB'):=by
 intro wh Ψ s σ H Q I h;refine isTrue_or (thn (ha Ψ s σ H _ I h) λc s1 ⟨H1,I1,q1⟩=>?_);cases c with
 |true=>exact⟨H1,I1,q1⟩
 |false=>exact hb wh Ψ s1 σ H1 Q I1 q1
def aN7(ha:PT X a tA):PT X (.UnaryOp .Not a pos) (aSt tA):=by
 intro Ψ s σ H Q I h;exact isTrue_not (ha Ψ s σ H (λc H1=>Q (!c) H1) I h)
noncomputable def aQo(ta tb:TE):TE:=λσ H Q=>ta σ H λx H1=>∃c,x=.bl c/\if c=af then tb σ H1 Q else Q (.bl aj) H1
noncomputable def aQp(ta:TE):TE:=λσ H Q=>ta σ H λx H1=>∃c,x=.bl c/\Q (.bl (!c)) H1
def aN8{op}(h:PE X a t):PE X (.BoolOp op [a] pos) t:=λΨ s σ H Q I hw=>BoolOp_one (h Ψ s σ H Q I hw)
def aN9(ha:PE X a ta)(hb:PE X (.BoolOp .And (b::rest) pos) tb):PE X (.BoolOp .And (a::b::rest) pos) (aQo ta tb):=by
 intro Ψ s σ H Q I h;refine BoolOp_and (thn (ha Ψ s σ H _ I h) λv s1 ⟨x,H1,I1,r1,q1⟩=>?_);obtain⟨c,rfl,q1⟩:=q1;cases r1;refine jc ?_;cases c with
 |true=>exact hb Ψ s1 σ H1 Q I1 q1
 |false=>exact⟨.bl aj,H1,I1,rfl,q1⟩
def aNa(ha:PE X a ta):PE X (.UnaryOp .Not a pos) (aQp ta):=by
 intro Ψ s σ H Q I h;refine UnaryOp_ (thn (ha Ψ s σ H _ I h) λv s1 ⟨x,H1,I1,r1,q1⟩=>?_);obtain⟨c,rfl,q1⟩:=q1;cases r1;exact not_of (jc ⟨.bl (!c),H1,I1,rfl,q1⟩)
end
def SqL(K:b6)(H:Hp)(a:aq)(xs:aa V):Prop:=
 Rd H a (.lst xs)\/
  ∃(o:b9)(its:ba ap)(n:ai),K.lookup a=ae o/\o.cls=.type "list"/\o.dict=ao/\o.data=.seq its n/\its.size<=bp/\Vals xs its.toList
def SqT(K:b6)(H:Hp)(a:aq)(xs:aa V):Prop:=
 Rd H a (.tup xs)\/
  ∃(o:b9)(its:ba ap)(n:ai),K.lookup a=ae o/\o.cls=.type "tuple"/\o.data=.seq its n/\its.size<=bp/\Vals xs its.toList
noncomputable def aSu:ap->aS V
 |.none=>ae .non
 |.bool b=>ae (.bl b)
 |.int i _=>ae (.int i)
 |.str x _=>ae (.str x)
 |.bytes b _=>ae (.byt b)
 |.float b _=>ae (.flt b)
 |.ref a=>ae (.ref a)
 |.type n=>ae (.ty n)
 |_=>ao
def RelV.abs(r:RelV x u):aSu u=ae x:=by
 cases x with
 |non=>cases r;rfl
 |bl _=>cases r;rfl
 |int _=>obtain⟨t,rfl⟩:=r;rfl
 |str _=>obtain⟨t,rfl⟩:=r;rfl
 |byt _=>obtain⟨t,rfl⟩:=r;rfl
 |flt _=>obtain⟨t,rfl⟩:=r;rfl
 |ref _=>cases r;rfl
 |ty _=>cases r;rfl
def RelV.inj(r:RelV x u)(q:RelV y u):x=y:=c5 (r.abs.symm.trans q.abs)
def Vals.inj:∀{xs ys:aa V}{us:aa ap},Vals xs us->Vals ys us->xs=ys
 |_,_,_,.nil,.nil=>rfl
 |_,_,_,.cons r t,.cons r' t'=>by rw[r.inj r',Vals.inj t t']
section
variable {X:Cx} {Ψ:aa (aq×b9)} {σ:St} {H:Hp} {s:ay} {a:aq} {xs ys:aa V}
def SqL.of{K:b6}(h:H a=ae (.lst xs)):SqL K H a xs:=.inl (.inl h)
def SqT.of{K:b6}(h:H a=ae (.tup xs)):SqT K H a xs:=.inl (.inl h)
theorem Inv.list(I:Inv X Ψ σ H s)(h:SqL X.K H a xs):∃its:aa ap,Vals xs its/\PlainL s.heap a its.toArray/\xs.length<=bp:=by
 rcases h with h|⟨o,its,n,hk,hc,hd,hs,hz,r⟩
 .obtain⟨z,its,n,r,e⟩:=h.ok I.hok;exact⟨its,r,⟨_,n,e,rfl,rfl,rfl⟩,z⟩
 .refine⟨its.toList,r,⟨o,n,I.kIn a o hk,hc,hd,by simpa using hs⟩,?_⟩;have e:=r.length;simp only[gz] at e;lia
theorem Inv.tuple(I:Inv X Ψ σ H s)(h:SqT X.K H a xs):∃its:aa ap,Vals xs its/\mM s.heap a its.toArray/\xs.length<=bp:=by
 rcases h with h|⟨o,its,n,hk,hc,hs,hz,r⟩
 .obtain⟨z,its,r,p⟩:=h.ok I.hok;exact⟨its,r,p.tup,z⟩
 .refine⟨its.toList,r,⟨o,I.kIn a o hk,hc,n,by simpa using hs⟩,?_⟩;have e:=r.length;simp only[gz] at e;lia
theorem Inv.wI(I:Inv X Ψ σ H s)(h:SqL X.K H a xs)(h':SqL X.K H a ys):xs=ys:=by
 obtain⟨its,r,⟨o,n,e,_,_,d⟩,_⟩:=I.list h;obtain⟨its',r',⟨o',n',e',_,_,d'⟩,_⟩:=I.list h';rw[e] at e';cases e';rw[d] at d';injection d' with d1 _
 have:its=its':=by simpa using cz xw d1
 subst this;exact r.inj r'
theorem Inv.aB0(I:Inv X Ψ σ H s)(h:SqT X.K H a xs)(h':SqT X.K H a ys):xs=ys:=by
 obtain⟨its,r,⟨o,e,_,n,d⟩,_⟩:=I.tuple h;obtain⟨its',r',⟨o',e',_,n',d'⟩,_⟩:=I.tuple h';rw[e] at e';cases e';rw[d] at d';injection d' with d1 _
 have:its=its':=by simpa using cz xw d1
 subst this;exact r.inj r'
end
noncomputable abbrev Cx.wish(X:Cx)(E:ap->ay->Prop):Cx:={X with xe:=E}
noncomputable abbrev Cx.nox(X:Cx):Cx:=X.wish λ_ _=>c9
theorem Cx.Ok.wish{X:Cx}(ok:X.Ok)(E:ap->ay->Prop):(X.wish E).Ok:=
 ⟨ok.mod,ok.kind,ok.glob,ok.blt,ok.above,ok.inj,ok.has,ok.cab,ok.hd,ok.frames,ok.stk,ok.exf,ok.bs,ok.bsz,ok.noex,ok.exfs,ok.aAx,ok.frf⟩
theorem Cx.Ok.vQ{X:Cx}(ok:(X.wish E).Ok):X.Ok:=
 ⟨ok.mod,ok.kind,ok.glob,ok.blt,ok.above,ok.inj,ok.has,ok.cab,ok.hd,ok.frames,ok.stk,ok.exf,ok.bs,ok.bsz,ok.noex,ok.exfs,ok.aAx,ok.frf⟩
section
theorem Inv.wish(I:Inv X Ψ σ H s)(E:ap->ay->Prop):Inv (X.wish E) Ψ σ H s:=⟨I.ok.wish E,I.os,I.bare,I.base,I.loc,I.cell,I.free,I.freeC,I.pin,I.hok,I.len⟩
theorem Inv.vQ(I:Inv (X.wish E) Ψ σ H s):Inv X Ψ σ H s:=⟨I.ok.vQ,I.os,I.bare,I.base,I.loc,I.cell,I.free,I.freeC,I.pin,I.hok,I.len⟩
def SP.vQ(h:SP (X.wish E) Ψ D f s'):SP X Ψ D f s':=by
 cases f with
 |next=>obtain⟨σ',H',I,q⟩:=h;exact⟨σ',H',I.vQ,q⟩
 |brk=>obtain⟨σ',H',I,q⟩:=h;exact⟨σ',H',I.vQ,q⟩
 |cont=>obtain⟨σ',H',I,q⟩:=h;exact⟨σ',H',I.vQ,q⟩
 |ret u=>obtain⟨v,σ',H',I,r,q⟩:=h;exact⟨v,σ',H',I.vQ,r,q⟩
theorem PSs.nox{st:aa bz}(h:PSs X.nox st t):PSs X st t:=λΨ s σ H D I hw=>
 fj (h Ψ s σ H D (I.wish _) hw) (λ_ _ q=>q.vQ) λ_ _ z=>fI z
end
section
variable {X:Cx} {st:bz} {rest:aa bz} {t u:TS} {e:Expr} {te:TE} {pos:de}
noncomputable def aQq:TS:=λD σ H=>D.nx σ H
noncomputable def aSa(t u:TS):TS:=λD σ H=>t {D with nx:=u D} σ H
def aB1:PSs X [] aQq:=λ_ _ σ H _ I h=>oB ⟨σ,H,I,h⟩
def wJ(h1:PS X st t)(h2:PSs X rest u):PSs X (st::rest) (aSa t u):=by
 intro Ψ s σ H D I h;refine xy (thn (h1 Ψ s σ H {D with nx:=u D} I h) λf s1 q=>?_);cases f with
 |next=>
  obtain⟨σ',H',I',q⟩:=q;exact h2 Ψ s1 σ' H' D I' q
 |ret v=>exact q
 |brk=>exact q
 |cont=>exact q
def aB2(h1:PS X st t):PSs X [st] t:=by
 intro Ψ s σ H D I h;refine xy (thn (h1 Ψ s σ H D I h) λf s1 q=>?_);cases f with
 |next=>exact oB q
 |ret v=>exact q
 |brk=>exact q
 |cont=>exact q
theorem Inv.quiet(I:Inv X Ψ σ H s):xA X.env=aj:=by simp[xA,I.ok.kind]
noncomputable def aQr(te:TE):TS:=λD σ H=>te σ H λ_ H1=>D.nx σ H1
def xR(he:PE X e te)(hs:autoParam (fi e ao pos.line X.env=pure aj) Ω):PS X (.Expr e pos) (aQr te):=by
 intro Ψ s σ H D I h;exact wpAny_Expr_any (thn (he Ψ s σ H _ I h) λv s1 ⟨x,H1,I1,r1,q1⟩=>⟨σ,H1,I1,q1⟩) I.quiet hs
noncomputable def aSv(te:TE):TS:=λD σ H=>te σ H D.rt
def aB3(he:PE X e te):PS X (.Return (ae e) pos) (aSv te):=by
 intro Ψ s σ H D I h;exact wpAny_Return_some (thn (he Ψ s σ H _ I h) λv s1 ⟨x,H1,I1,r1,q1⟩=>⟨x,σ,H1,I1,r1,q1⟩)
noncomputable def aSw(c:TT)(t u:TS):TS:=λD σ H=>c σ H λb H1=>if b=af then t D σ H1 else u D σ H1
def aNb(hc:PT X c tc)(ha:PSs X a t)(hb:PSs X b u):PS X (.If c a b pos) (aSw tc t u):=by
 intro Ψ s σ H D I h;refine wpAny_If (thn (hc Ψ s σ H _ I h) λd s1 ⟨H1,I1,q1⟩=>?_);cases d with
 |true=>exact ha Ψ s1 σ H1 D I1 q1
 |false=>exact hb Ψ s1 σ H1 D I1 q1
end
abbrev TG:=V->St->Hp->(St->Hp->Prop)->Prop
abbrev TGs:=aa V->St->Hp->(St->Hp->Prop)->Prop
def PG(X:Cx)(target:Expr)(t:TG):Prop:=
 ∀(Ψ:aa (aq×b9))(s:ay)(σ:St)(H:Hp)(v:V)(u:ap)(Q:St->Hp->Prop),Inv X Ψ σ H s->RelV v u->t v σ H Q->
  ϑ (az X.prog X.w) X.A (mP target X.env u) (λ_ s'=>∃σ' H',Inv X Ψ σ' H' s'/\Q σ' H') X.xe s
def PGs(X:Cx)(ts:aa Expr)(t:TGs):Prop:=
 ∀(Ψ:aa (aq×b9))(s:ay)(σ:St)(H:Hp)(vs:aa V)(us:aa ap)(Q:St->Hp->Prop),Inv X Ψ σ H s->Vals vs us->t vs σ H Q->
  ϑ (az X.prog X.w) X.A (assignInOrder ((mS ts X.env).map (·.2)) us) (λ_ s'=>∃σ' H',Inv X Ψ σ' H' s'/\Q σ' H') X.xe s
section
variable {X:Cx}
noncomputable def BR(i:ai):TG:=λv σ H Q=>Q (σ.set i (ae v)) H
def aZ(hN:X.N.Nodup)(hi:X.N[i]?=ae x)(hx:Loc X.env.scope x)(hf:autoParam (zFn X x) Ξ):PG X (.Name x pos) (BR i):=by
 intro Ψ s σ H v u Q I r h;exact wpAny_assign_Name (WQ I hN hi hx r (λs' I'=>⟨_,H,I',h⟩) hf)
noncomputable def aSb:TGs:=λvs σ H Q=>vs=[]/\Q σ H
noncomputable def aNc(t:TG)(u:TGs):TGs:=λvs σ H Q=>∃v r,vs=v::r/\t v σ H λσ' H'=>u r σ' H' Q
def gH:PGs X [] aSb:=by
 intro Ψ s σ H vs us Q I r h;obtain⟨e,h⟩:=h;subst e;cases r;exact assignInOrder_nil ⟨σ,H,I,h⟩
def bK(h1:PG X e t)(h2:PGs X es u)
 (hs:autoParam ((mS (e::es) X.env).map (·.2)=mP e X.env::(mS es X.env).map (·.2)) Ω):PGs X (e::es) (aNc t u):=by
 intro Ψ s σ H vs us Q I r h;obtain⟨v,vr,e1,h⟩:=h;subst e1;cases r with
 |cons r rr=>
  rw[hs];refine assignInOrder_cons (thn (h1 Ψ s σ H _ _ _ I r h) λ_ s1 ⟨σ1,H1,I1,q1⟩=>?_);exact h2 Ψ s1 σ1 H1 _ _ Q I1 rr q1
noncomputable def aQ8(K:b6)(n:ai)(t:TGs):TG:=λv σ H Q=>∃a xs,v=.ref a/\SqT K H a xs/\xs.length=n/\t xs σ H Q
def kE(hc:X.calm=af)(h:PGs X es t)
 (hn:autoParam ((mS es X.env).length=n) Ω)(hst:autoParam ((mS es X.env).findIdx? (·.1)=ao) Ω):PG X (.Tuple es k pos) (aQ8 X.K n t):=by
 intro Ψ s σ H v u Q I r hw;obtain⟨a,xs,e1,hq,hl,hw⟩:=hw;subst e1;cases r;obtain⟨its,rv,ht,hz⟩:=I.tuple hq;refine assign_Tuple_tuple (I.ok.hd hc) ht (by simp[hn,<-hl,rv.length]) hst λh' hx=>?_
 have I1:Inv X Ψ σ H {s with heap:=h'}:=I.kept λb o e=>hx b o (di (bX e)) e
 exact h Ψ _ σ H xs _ Q I1 (by simpa using rv) hw
noncomputable def aNd(te:TE)(g:TG):TS:=λD σ H=>te σ H λx H1=>g x σ H1 D.nx
theorem M9(hN:X.N.Nodup)(hi:X.N[i]?=ae x)(hx:Loc X.env.scope x)(he:PE X e te)(hs:autoParam (zSw X e x pos' pos) Ω)(hf:autoParam (zFn X x) Ξ) :
  PS X (.Assign [.Name x pos'] e pos) (aNd te (BR i)):=by
 intro Ψ s σ H D I h;refine wpAny_Assign_Name (thn (he Ψ s σ H _ I h) λv s1 ⟨y,H1,I1,r1,q1⟩=>?_) hs;exact WQ I1 hN hi hx r1 (λs2 I2=>⟨_,H1,I2,q1⟩) hf
end
section
def aNe(c:TT)(tb:TS):TS:=λD σ H=>∃W:ai->St->Hp->Prop,(∃m,W m σ H)/\∀m σ H,W m σ H->
 c σ H λb H1=>if b=af then ∃N:St->Hp->Prop,(∀σ' H',N σ' H'->∃m',m'<m/\W m' σ' H')/\tb {D with nx:=N,ct:=N,bk:=D.nx} σ H1 else D.nx σ H1
def aFu(hp:jt (az X.prog X.w) X.A X.env X.xe)(hc:PT X c tc)(hb:PSs X body tb):PS X (.While c body [] pos) (aNe tc tb):=by
 intro Ψ s σ H D I h;obtain⟨W,⟨m0,w0⟩,turn⟩:=h;refine wpAny_While (codeAny_whileLoop (λn s'=>∃σ' H',Inv X Ψ σ' H' s'/\W n σ' H') ?_ m0 ⟨σ,H,I,w0⟩);rintro n s1 ⟨σ1,H1,I1,w1⟩;refine kA hp (thn (hc Ψ s1 σ1 H1 _ I1 (turn n σ1 H1 w1)) λb s2 ⟨H2,I2,q2⟩=>?_);cases b with
 |true=>
  obtain⟨N,hN,q2⟩:=q2;rw[av rfl];refine kA hp (thn (hb Ψ s2 σ1 H2 _ I2 q2) λf s3 q3=>?_);cases f with
  |next=>
   obtain⟨σ3,H3,I3,n3⟩:=q3;obtain⟨m',hm,w3⟩:=hN σ3 H3 n3;exact⟨m',hm,σ3,H3,I3,w3⟩
  |cont=>
   obtain⟨σ3,H3,I3,n3⟩:=q3;obtain⟨m',hm,w3⟩:=hN σ3 H3 n3;exact⟨m',hm,σ3,H3,I3,w3⟩
  |brk=>exact q3
  |ret v=>exact q3
 |false=>
  rw[aw mT];exact oB ⟨σ1,H2,I2,q2⟩
end
structure It where
 go:ai->Hp->Prop
 yld:ai->Hp->V->Hp->Prop
 stop:ai->Hp->Prop
def aAq(X:Cx)(Ψ:aa (aq×b9))(H:Hp)(b:aq):Prop:=
 H b=ao/\b≠X.env.locals/\b∉X.fs/\(b∈X.ex\/X.s₀.heap.objs.size<=b)/\(∀x c,X.env.cells.lookup x=ae c->c≠b)/\∀p∈X.pn++Ψ,p.1≠b
theorem Inv.aJc(I:Inv X Ψ σ H s)(hb:s.heap.objs.size<=b)(hn:H' b=ao):aAq X Ψ H' b:=by
 refine⟨hn,ju (eP I.lt hb),I.aS9 hb,.inr (du I.sz hb),λx c e z=>?_,λp hp z=>?_⟩
 .obtain⟨v,q⟩:=I.cell x c e;exact bg (eP q.lt (by rw[z];exact hb)) (fE _)
 .exact bg (eP (bX (I.pin p hp).1) (by rw[z];exact hb)) (fE _)
structure Turn(P:cy)(w:bS)(K:b6)(tg:Expr)(J:It)(fp:aa aq)(it:aq)(tn:ai->br->Prop):Prop where
 mem:it∈fp
 obj:∀i h,tn i h->∀b∈fp,∃o,h.get? b=ae o/\∀v,o.data≠.cell v
 keep:∀i h h',tn i h->(∀b∈fp,∀o,h.get? b=ae o->h'.get? b=ae o)->tn i h'
 item:∀(X:Cx),X.prog=P->X.w=w->X.K=K->X.calm=af->∀(i:ai)(Ψ:aa (aq×b9))(s:ay)(σ:St)(H:Hp)(E:ap->ay->Prop),Inv X Ψ σ H s->(∀b∈fp,aAq X Ψ H b)->tn i s.heap->J.go i H->
  ϑ (az P w) X.A (f_ (.ref it)) (λr s1=>∃u,r=ae u/\
   ϑ (az P w) X.A (oD tg (.ref it) u) (λ_ s2=>∃x H',Inv X Ψ σ H' s2/\RelV x u/\J.yld i H x H'/\tn (i+1) s2.heap/\∀b∈fp,H' b=ao) E s1) E s
 done:∀(X:Cx),X.prog=P->X.w=w->X.K=K->X.calm=af->∀(i:ai)(Ψ:aa (aq×b9))(s:ay)(σ:St)(H:Hp)(E:ap->ay->Prop),Inv X Ψ σ H s->(∀b∈fp,aAq X Ψ H b)->tn i s.heap->J.stop i H->
  ϑ (az P w) X.A (f_ (.ref it)) (λr s1=>r=ao/\Inv X Ψ σ H s1) E s
 self:∀(A:cS)(i:ai)(s:ay)(Q:ap->ay->Prop)(E:ap->ay->Prop),tn i s.heap->Q (.ref it) s->ϑ (az P w) A (gL (.ref it)) Q E s
abbrev TI:=St->Hp->(It->Hp->Prop)->Prop
def PIE(X:Cx)(Ψ:aa (aq×b9))(σ:St)(tg:Expr)(R:It->Hp->Prop)(itv:ap)(s2:ay):Prop:=
 ∃(it:aq)(fp:aa aq)(tn:ai->br->Prop)(J:It)(H':Hp),itv=.ref it/\Inv X Ψ σ H' s2/\Turn X.prog X.w X.K tg J fp it tn/\tn 0 s2.heap/\(∀b∈fp,aAq X Ψ H' b)/\R J H'
def PI(X:Cx)(tg iter:Expr)(wi:TI):Prop:=
 ∀(Ψ:aa (aq×b9))(s:ay)(σ:St)(H:Hp)(R:It->Hp->Prop),Inv X Ψ σ H s->wi σ H R->
  ϑ (az X.prog X.w) X.A (cK iter X.env) (λv s1=>ϑ (az X.prog X.w) X.A (gL v) (PIE X Ψ σ tg R) X.xe s1) X.xe s
def aJd(ho:s.heap.get? it=ae o)(hc:o.cls=.type n)(hd:o.data=.fields vs)
 (hn:["enumerate","zip","dict_itemiterator","dict_reverseitemiterator","odict_iterator","itertools.zip_longest","itertools.pairwise"].contains n=aj)(hQ:Q () s):ϑ M A (oD tg (.ref it) u) Q E s:= by
  unfold oD;cases tg<;>first
    |exact bm hQ
    | (cases u<;>first
        |exact bm hQ
        | (refine aE (wpAny_load ho ?_)
           rw[hc,hd];show ϑ M A (if (["enumerate","zip","dict_itemiterator","dict_reverseitemiterator","odict_iterator","itertools.zip_longest","itertools.pairwise"].contains n&&vs[0]?==ae (iE _))=af then _ else _) Q E s;rw[aw (by intro h;rw[hn,Bool.false_and] at h;cases h)];exact bm hQ))
noncomputable def Itl(K:b6)(a:aq):It:=
 ⟨λi H=>∃xs x,SqL K H a xs/\xs[i]?=ae x,λi H x H'=>H'=H/\∀xs,SqL K H a xs->xs[i]?=ae x,λi H=>∃xs,SqL K H a xs/\xs.length<=i⟩
noncomputable def Itt(K:b6)(a:aq):It:=
 ⟨λi H=>∃xs x,SqT K H a xs/\xs[i]?=ae x,λi H x H'=>H'=H/\∀xs,SqT K H a xs->xs[i]?=ae x,λi H=>∃xs,SqT K H a xs/\xs.length<=i⟩
noncomputable def Itr(lo:ag)(n:ai):It:=⟨λi _=>i<n,λi H x H'=>H'=H/\x=.int (lo+i),λi _=>n<=i⟩
theorem xT{K:b6}(a it:aq):Turn P w K tg (Itl K a) [it] it (λi h=>h.IsListIter it a i) where
 mem:=by simp
 obj:=λi h st b hb=>by
  have e:b=it:=by simpa using hb
  subst e;obtain⟨o,e,c,d⟩:=st;exact⟨o,e,λv z=>by rw[d] at z;cases z⟩
 keep:=λi h h' st k=>st.at λo e=>k it 0x2 o e
 item:=by
  intro X hP hw hK hc i Ψ s σ H E I hf st hg;subst hP hw hK;obtain⟨xs,x,hq,hx⟩:=hg;obtain⟨its,rv,p,hz⟩:=I.list hq;obtain⟨u,hu,ru⟩:=rv.get hx;obtain⟨f0,f1,f2,f3,f4,f5⟩:=hf it 0x2;refine xB st p.isList (by simpa using hu) λh' st' sb=>?_
  have I1:Inv X Ψ σ H {s with heap:=h'}:=I.turned (λb o hb e=>(sb.2 b hb).trans e) f0 f1 f3 f4 f5;obtain⟨o,e,c,d⟩:=id st';exact⟨u,rfl,aJd e c d 0x4 ⟨x,H,I1,ru,⟨rfl,λys hy=>by rw[I.wI hy hq];exact hx⟩,st',λb hb=>(hf b hb).1⟩⟩
 done:=by
  intro X hP hw hK hc i Ψ s σ H E I hf st hg;subst hP hw hK;obtain⟨xs,hq,hx⟩:=hg;obtain⟨its,rv,p,hz⟩:=I.list hq;obtain⟨f0,f1,f2,f3,f4,f5⟩:=hf it 0x2;have hl:=rv.length;exact xC (I.ok.hd hc) st p.isList (by simp;lia) λh' eb=>⟨rfl,I.turned (λb o hb e=>eb b o hb e) f0 f1 f3 f4 f5⟩
 self:=λ_ _ _ _ _ st h=>wpAny_pyIter_listiter st h
theorem ZG{K:b6}(a it:aq):Turn P w K tg (Itt K a) [it] it (λi h=>h.IsTupleIter it a i) where
 mem:=by simp
 obj:=λi h st b hb=>by
  have e:b=it:=by simpa using hb
  subst e;obtain⟨o,e,c,d⟩:=st;exact⟨o,e,λv z=>by rw[d] at z;cases z⟩
 keep:=λi h h' st k=>st.at λo e=>k it 0x2 o e
 item:=by
  intro X hP hw hK hc i Ψ s σ H E I hf st hg;subst hP hw hK;obtain⟨xs,x,hq,hx⟩:=hg;obtain⟨its,rv,p,hz⟩:=I.tuple hq;obtain⟨u,hu,ru⟩:=rv.get hx;obtain⟨f0,f1,f2,f3,f4,f5⟩:=hf it 0x2;refine xD st (show s.heap.IsTuple a its.toArray from p) (by simpa using hu) λh' st' sb=>?_
  have I1:Inv X Ψ σ H {s with heap:=h'}:=I.turned (λb o hb e=>(sb.2 b hb).trans e) f0 f1 f3 f4 f5;obtain⟨o,e,c,d⟩:=id st';exact⟨u,rfl,aJd e c d 0x4 ⟨x,H,I1,ru,⟨rfl,λys hy=>by rw[I.aB0 hy hq];exact hx⟩,st',λb hb=>(hf b hb).1⟩⟩
 done:=by
  intro X hP hw hK hc i Ψ s σ H E I hf st hg;subst hP hw hK;obtain⟨xs,hq,hx⟩:=hg;obtain⟨its,rv,p,hz⟩:=I.tuple hq;obtain⟨f0,f1,f2,f3,f4,f5⟩:=hf it 0x2;have hl:=rv.length;exact xE (I.ok.hd hc) st (show s.heap.IsTuple a its.toArray from p) (by simp;lia) λh' eb=>⟨rfl,I.turned (λb o hb e=>eb b o hb e) f0 f1 f3 f4 f5⟩
 self:=λ_ _ _ _ _ st h=>wpAny_pyIter_tupleiter st h
theorem ZJ{K:b6}(it:aq)(lo:ag)(n:ai):Turn P w K tg (Itr lo n) [it] it (λi h=>xI h it (lo+(i:ai)*1) ((n:ag)-(i:ai)) 1) where
 mem:=by simp
 obj:=λi h st b hb=>by
  have e:b=it:=by simpa using hb
  subst e;exact⟨_,st,λv z=>by
   have z':xL _=xS v:=z;cases z'⟩
 keep:=λi h h' st k=>k it 0x2 _ st
 item:=by
  intro X hP hw hK hc i Ψ s σ H E I hf st hg;subst hP hw hK;obtain⟨f0,f1,f2,f3,f4,f5⟩:=hf it 0x2;have W:=Walks.range (prog:=X.prog) (w:=X.w) (I.ok.hd hc) it lo 1 n;refine W.item i s _ _ hg st λv h' tk hv st' kk=>?_
  obtain⟨t,rfl⟩:=hv;have I1:Inv X Ψ σ H {s with heap:=h',toks:=tk}:=I.turned (λb o hb e=>kk b o (by simpa using hb) e) f0 f1 f3 f4 f5;refine⟨_,rfl,aJd st' rfl rfl 0x4 ⟨.int (lo+i),H,I1,⟨t,?_⟩,⟨rfl,rfl⟩,st',λb hb=>(hf b hb).1⟩⟩;rw[tI]
 done:=by
  intro X hP hw hK hc i Ψ s σ H E I hf st hg;subst hP hw hK;obtain⟨f0,f1,f2,f3,f4,f5⟩:=hf it 0x2;exact wpAny_pyNext_range_end (I.ok.hd hc) st (by have:n<=i:=hg;lia) λh' eb=>⟨rfl,I.turned (λb o hb e=>eb b o hb e) f0 f1 f3 f4 f5⟩
 self:=λ_ _ _ _ _ st h=>wpAny_pyIter_rangeiter st h
section
theorem aFv{lo hi:ag}{t u v:fx}{tk:ai}(I:Inv X Ψ σ H s)(h1:-(2 ^ 62)<=lo)(h2:lo<2 ^ 62)(h3:-(2 ^ 62)<=hi)(h4:hi<2 ^ 62)
 (q:R (Itr lo (hi-lo).toNat) H):ϑ (az X.prog X.w) X.A (gL (.ref s.heap.objs.size)) (PIE X Ψ σ tg R) E {s with heap:=s.heap.push {cls:=.type "range",data:=.fields #[.int lo t,.int hi u,.int 1 v]},toks:=tk}:=by
 refine wpAny_pyIter_range (IsRange.new ..) (tJ h1 h2 h3 h4) ?_;have I1:Inv X Ψ σ H {s with heap:=s.heap.push {cls:=.type "range",data:=.fields #[.int lo t,.int hi u,.int 1 v]},toks:=tk}:=I.kept λb o e=>cx _ e
 refine⟨(s.heap.push {cls:=.type "range",data:=.fields #[.int lo t,.int hi u,.int 1 v]}).objs.size,[(s.heap.push {cls:=.type "range",data:=.fields #[.int lo t,.int hi u,.int 1 v]}).objs.size],_,_,H,rfl,
  I1.kept λb o e=>cx _ e,ZJ _ lo (hi-lo).toNat,?_,λb hb=>?_,q⟩
 .have e1:lo+((0:ai):ag)*1=lo:=by simp
  have e2:(((hi-lo).toNat:ai):ag)-((0:ai):ag)=tP lo hi 1:=by rw[tT];split<;>lia
  show xI _ _ (lo+((0:ai):ag)*1) ((((hi-lo).toNat:ai):ag)-((0:ai):ag)) 1;rw[e1,e2];exact dt _ rfl
 .have e:b=(s.heap.push {cls:=.type "range",data:=.fields #[.int lo t,.int hi u,.int 1 v]}).objs.size:=by simpa using hb
  subst e;exact I1.aJc (bi _) (I1.hok.fresh (bi _))
def aQs(ta:TA):TI:=λσ H R=>ta σ H λvs H1=>∃j:ag,vs=[.int j]/\-(2 ^ 62)<=j/\j<2 ^ 62/\R (Itr 0 j.toNat) H1
theorem aB4{p pos:de}(hg:Gl X "range")(hm:X.mg "range"=ao)(ha:PA X [a] ta)(hs:autoParam (dQ [a] X.env=[(aj,cK a X.env)]) Ω):PI X tg (.Call (.Name "range" p) [a] [] pos) (aQs ta):=by
 intro Ψ s σ H R I h;refine Call_ (vP I hg hm t0 (ng (thn (ha pos Ψ s σ H _ I h) λus s1 ⟨vs,H1,I1,r1,q1⟩=>?_) hs rfl));obtain⟨j,e,q1,q2,q⟩:=q1;subst e;cases r1 with
 |cons r rr=>
  cases rr;obtain⟨t,rfl⟩:=r;exact ya (aFv I1 0x1 0x1 q1 q2 (by simpa using q))
def aSx(wi:TI)(g:TG)(tb:TS):TS:=λD σ H=>wi σ H λJ H1=>∃W:ai->ai->St->Hp->Prop,(∃m,W 0 m σ H1)/\∀i m σ H,W i m σ H->
 (J.stop i H/\D.nx σ H)\/(J.go i H/\∃N:St->Hp->Prop,(∀σ' H',N σ' H'->∃m',m'<m/\W (i+1) m' σ' H')/\∀x H',J.yld i H x H'->g x σ H' λσ2 H2=>tb {D with nx:=N,ct:=N,bk:=D.nx} σ2 H2)
noncomputable def xU(fp:aa aq)(h:br):aa (aq×b9):=fp.filterMap λb=>(h.get? b).map λo=>(b,o)
def qN(hb:b∈fp)(e:h.get? b=ae o):(b,o)∈xU fp h:=yb.mpr ⟨b,hb,by rw[e];rfl⟩
def aB5(hp:p∈xU fp h):p.1∈fp/\h.get? p.1=ae p.2:=by
 obtain⟨b,hb,e⟩:=yb.mp hp;cases q:h.get? b with
 |none=>rw[q] at e;cases e
 |some o=>
  rw[q] at e;have e':(b,o)=p:=c5 e;subst e';exact⟨hb,q⟩
theorem Inv.pinned(I:Inv X Ψ σ H s)(hf:∀b∈fp,aAq X Ψ H b)(ho:∀b∈fp,∃o,s.heap.get? b=ae o/\∀v,o.data≠.cell v):Inv X (Ψ++xU fp s.heap) σ H s:=
 I.S7 λp hp=>(cw.mp hp).elim (λz=>I.pin p (en _ z)) λz=>by
  obtain⟨hb,e⟩:=aB5 z;obtain⟨f0,f1,f2,_⟩:=hf p.1 hb;obtain⟨o,e',d⟩:=ho p.1 hb;rw[e] at e';cases e';exact⟨e,f0,f1,f2,d⟩
theorem Inv.tO(I:Inv X (Ψ++pl) σ H s):Inv X Ψ σ H s:=I.S7 λp hp=>I.pin p (en _ (eg _ hp))
theorem M_(hp:jt (az X.prog X.w) X.A X.env X.xe)(hc:X.calm=af)(hi:PI X tg iter wi)(hg:PG X tg g)(hb:PSs X body tb)
 (hs:∀x,eW iter X.env x=pure x:=by intro _;rfl):PS X (.For tg iter body [] pos) (aSx wi g tb):=by
 intro Ψ s σ H D I h;refine wpAny_For (thn (hi Ψ s σ H _ I h) λv s1 h1=>thn h1 λitv s2 h2=>?_) hs;obtain⟨it,fp,tn,J,H2,e,I2,T,st2,f2,W,⟨m0,w0⟩,turn⟩:=h2;subst e
 -- what stays af of the iterator's objects through the loop
 have stat:∀{H':Hp},(∀b∈fp,H' b=ao)->∀b∈fp,aAq X Ψ H' b:=λhn b hb=>⟨hn b hb,(f2 b hb).2⟩
 refine codeAny_forLoop_any (λn s'=>∃i σ' H',Inv X Ψ σ' H' s'/\tn i s'.heap/\(∀b∈fp,H' b=ao)/\W i n σ' H') ?_ m0 ⟨0,σ,H2,I2,st2,λb hb=>(f2 b hb).1,w0⟩;rintro n s3 ⟨i,σ3,H3,I3,st3,fr3,w3⟩;rcases turn i n σ3 H3 w3 with ⟨stop,qn⟩|⟨go,N,hN,step⟩
 .refine kA hp (thn (T.done X rfl rfl rfl hc i Ψ s3 σ3 H3 X.xe I3 (stat fr3) st3 stop) λr s4 ⟨hr,I4⟩=>?_);subst hr;exact oB ⟨σ3,H3,I4,qn⟩
 .refine kA hp (thn (T.item X rfl rfl rfl hc i Ψ s3 σ3 H3 X.xe I3 (stat fr3) st3 go) λr s4 ⟨u,hr,h4⟩=>?_);subst hr;refine kA hp (thn h4 λ_ s5 ⟨x,H5,I5,r5,y5,st5,fr5⟩=>?_);have I5':=I5.pinned (stat fr5) (T.obj _ _ st5);refine kA hp (thn (hg _ s5 σ3 H5 x u _ I5' r5 (step x H5 y5)) λ_ s6 ⟨σ6,H6,I6,q6⟩=>?_);refine kA hp (thn (hb _ s6 σ6 H6 _ I6 q6) λf s7 q7=>?_);have again:∀{σ7:St}{H7:Hp},Inv X (Ψ++xU fp s5.heap) σ7 H7 s7->N σ7 H7->∃m,m<n/\∃i σ' H',Inv X Ψ σ' H' s7/\tn i s7.heap/\(∀b∈fp,H' b=ao)/\W i m σ' H':=λ{σ7 H7} I7 n7=>by
   obtain⟨m',hm,w7⟩:=hN σ7 H7 n7;refine⟨m',hm,i+1,σ7,H7,I7.tO,T.keep _ _ _ st5 λb hb o e=>(I7.pin (b,o) (en _ (en _ (qN hb e)))).1,λb hb=>?_,w7⟩;obtain⟨o,e,d⟩:=T.obj _ _ st5 b hb;exact(I7.pin (b,o) (en _ (en _ (qN hb e)))).2.1
  cases f with
  |next=>obtain⟨σ7,H7,I7,n7⟩:=q7;exact again I7 n7
  |cont=>obtain⟨σ7,H7,I7,n7⟩:=q7;exact again I7 n7
  |brk=>obtain⟨σ7,H7,I7,q7⟩:=q7;exact⟨σ7,H7,I7.tO,q7⟩
  |ret v=>obtain⟨x7,σ7,H7,I7,r7,q7⟩:=q7;exact⟨x7,σ7,H7,I7.tO,r7,q7⟩
end
abbrev R2:=V->V->Hp->VK->Prop
def OpR(X:Cx)(f:ap->ap->fF ap)(r:R2):Prop:=
 ∀(Ψ:aa (aq×b9))(s:ay)(σ:St)(H:Hp)(x y:V)(v u:ap)(Q:VK),Inv X Ψ σ H s->RelV x v->RelV y u->r x y H Q->
  ϑ (az X.prog X.w) X.A (f v u) (EP X Ψ σ Q) X.xe s
def UnR(X:Cx)(f:ap->fF ap)(r:V->Hp->VK->Prop):Prop:=
 ∀(Ψ:aa (aq×b9))(s:ay)(σ:St)(H:Hp)(x:V)(v:ap)(Q:VK),Inv X Ψ σ H s->RelV x v->r x H Q->
  ϑ (az X.prog X.w) X.A (f v) (EP X Ψ σ Q) X.xe s
def lW(X:Cx)(f:ap)(r:aa V->Hp->VK->Prop):Prop:=
 ∀(Ψ:aa (aq×b9))(s:ay)(σ:St)(H:Hp)(xs:aa V)(us:aa ap)(Q:VK),Inv X Ψ σ H s->Vals xs us->r xs H Q->
  ϑ (az X.prog X.w) X.A (call f us) (EP X Ψ σ Q) X.xe s
def aSy(X:Cx)(r:V->Hp->(ax->Hp->Prop)->Prop):Prop:=
 ∀(Ψ:aa (aq×b9))(s:ay)(σ:St)(H:Hp)(x:V)(v:ap)(Q:ax->Hp->Prop),Inv X Ψ σ H s->RelV x v->r x H Q->
  ϑ (az X.prog X.w) X.A (truthy v) (TP X Ψ σ Q) X.xe s
noncomputable def tOp(r:R2)(ta tb:TE):TE:=λσ H Q=>ta σ H λx H1=>tb σ H1 λy H2=>r x y H2 Q
noncomputable def tUn(r:V->Hp->VK->Prop)(ta:TE):TE:=λσ H Q=>ta σ H λx H1=>r x H1 Q
noncomputable def rI(C:ag->ag->Prop)(g:ag->ag->V):R2:=λx y H Q=>∃i j,x=.int i/\y=.int j/\C i j/\Q (g i j) H
noncomputable def rI0(g:ag->ag->V):R2:=λx y H Q=>∃i j,x=.int i/\y=.int j/\Q (g i j) H
def rU(g:ag->V):V->Hp->VK->Prop:=λx H Q=>∃i,x=.int i/\Q (g i) H
section
variable {a b:Expr}
def aQt(ha:PE X a ta)(hb:PE X b tb){R:V->V->Hp->Prop}(I:Inv X Ψ σ H s)
 (h:ta σ H λx H1=>tb σ H1 λy H2=>R x y H2){Q:ap->ay->Prop}{f:ap->ap->fF ap}
 (hf:∀v u s2 x y H2,Inv X Ψ σ H2 s2->RelV x v->RelV y u->R x y H2->ϑ (az X.prog X.w) X.A (f v u) Q X.xe s2) :
  ϑ (az X.prog X.w) X.A (cK a X.env) (λv s₁=>ϑ (az X.prog X.w) X.A (cK b X.env) (λu s₂=>ϑ (az X.prog X.w) X.A (f v u) Q X.xe s₂) X.xe s₁) X.xe s:=by
 refine thn (ha Ψ s σ H _ I h) λv s1 ⟨x,H1,I1,r1,q1⟩=>?_
 refine thn (hb Ψ s1 σ H1 _ I1 q1) λu s2 ⟨y,H2,I2,r2,q2⟩=>?_
 exact hf v u s2 x y H2 I2 r1 r2 q2
def aQu(ho:OpR X (fN op) r)(ha:PE X a ta)(hb:PE X b tb):PE X (.BinOp a op b pos) (tOp r ta tb):=by
 intro Ψ s σ H Q I h;exact wpAny_BinOp (aQt ha hb I h λv u s2 x y H2 I2 rx ry q=>ho Ψ s2 σ H2 x y v u Q I2 rx ry q)
def aQv(ho:UnR X (oI op) r)(ha:PE X a ta):PE X (.UnaryOp op a pos) (tUn r ta):=by
 intro Ψ s σ H Q I h;exact UnaryOp_ (thn (ha Ψ s σ H _ I h) λv s1 ⟨x,H1,I1,r1,q1⟩=>ho Ψ s1 σ H1 x v Q I1 r1 q1)
def opI{g:ag->ag->ag}
 (kB:∀(i j:ag) (t u:fx) (s:ay) (Q:ap->ay->Prop) (E:ap->ay->Prop),C i j->Q (.int (g i j) s.toks) {s with toks:=s.toks+1}->ϑ (az X.prog X.w) X.A (f (.int i t) (.int j u)) Q E s) :
  OpR X f (rI C λi j=>.int (g i j)):=by
 intro Ψ s σ H x y v u Q I rx ry h;obtain⟨i,j,rfl,rfl,hc,q⟩:=h;obtain⟨t,rfl⟩:=rx;obtain⟨t',rfl⟩:=ry;exact kB i j t t' s _ _ hc ⟨.int (g i j),H,I.tok _,⟨_,rfl⟩,q⟩
def aSz{g:ag->ag->ag}
 (kB:∀(i j:ag) (t u:fx) (s:ay) (Q:ap->ay->Prop) (E:ap->ay->Prop),Q (.int (g i j) s.toks) {s with toks:=s.toks+1}->ϑ (az X.prog X.w) X.A (f (.int i t) (.int j u)) Q E s) :
  OpR X f (rI0 λi j=>.int (g i j)):=by
 intro Ψ s σ H x y v u Q I rx ry h;obtain⟨i,j,rfl,rfl,q⟩:=h;obtain⟨t,rfl⟩:=rx;obtain⟨t',rfl⟩:=ry;exact kB i j t t' s _ _ ⟨.int (g i j),H,I.tok _,⟨_,rfl⟩,q⟩
def aT0(i j:ag):Prop:=0<j/\j<1073741824
def aT1(i j:ag):Prop:=0<=j/\j<=1000000/\i.natAbs<2 ^ 64
def aQw(i j:ag):Prop:=(-(2 ^ 64)<i/\i<2 ^ 64)\/(-(2 ^ 64)<j/\j<2 ^ 64)
def aQw.ok(h:aQw i j):IntMulOk i j:=by
 rcases h with ⟨h1,h2⟩|⟨h1,h2⟩
 .exact .of_left (yc h1 h2)
 .exact .of_right (yc h1 h2)
def aNf:OpR X (fN .Add) (rI0 λi j=>.int (i+j)):=aSz λ_ _ _ _ _ _ _ q=>add_int q
def aNg:OpR X (fN .Mult) (rI aQw λi j=>.int (i*j)):=opI λ_ _ _ _ _ _ _ hc q=>mul_int q hc.ok
theorem aJe:OpR X (fN .FloorDiv) (rI aT0 λi j=>.int (i / j)):=opI λi j _ _ _ _ _ hc q=>by
 have h1:(0:ag)<j:=hc.1;have h2:j<1073741824:=hc.2;exact floordiv_int 0x1 (by rw[Int.fdiv_eq_ediv_of_nonneg i 0x1];exact q) (.inl (PyProof.noPylong_small 0x1))
def aNh:OpR X (fN .Mod) (rI (λ_ j=>0<j) λi j=>.int (i % j)):=opI λi j _ _ _ _ _ hc q=>by
 have h1:(0:ag)<j:=hc;exact mod_int' 0x1 (by rw[Int.fmod_eq_emod_of_nonneg i 0x1];exact q)
def aNi:OpR X (fN .Pow) (rI aT1 λi j=>.int (i ^ j.toNat)):=opI λ_ _ _ _ _ _ _ hc q=>pow_int_small hc.1 hc.2.1 hc.2.2 q
def unI{g:ag->ag}
 (kB:∀(i:ag) (t:fx) (s:ay) (Q:ap->ay->Prop) (E:ap->ay->Prop),Q (.int (g i) s.toks) {s with toks:=s.toks+1}->ϑ (az X.prog X.w) X.A (f (.int i t)) Q E s) :
  UnR X f (rU λi=>.int (g i)):=by
 intro Ψ s σ H x v Q I rx h;obtain⟨i,rfl,q⟩:=h;obtain⟨t,rfl⟩:=rx;exact kB i t s _ _ ⟨.int (g i),H,I.tok _,⟨_,rfl⟩,q⟩
def aNj:UnR X (oI .USub) (rU λi=>.int (-i)):=unI λ_ _ _ _ _ q=>neg_int q
end
section
variable {X:Cx} {a b c:Expr} {ta tb tc:TE} {pos:de}
def aNk(I:Inv X Ψ σ H s)(q:Q (.bl k) H)(e:k=k'):EP X Ψ σ Q (.bool k') s:=by
 subst e;exact⟨.bl k,H,I,rfl,q⟩
def aJf:OpR X (dy .IsNot) (λx y H Q=>y=.non/\Q (.bl (!ϒ (x=.non))) H):=by
 intro Ψ s σ H x y v u Q I rx ry h;obtain⟨rfl,q⟩:=h;cases ry;refine isnot_none_gen (aNk I q ?_);cases x<;>first
  | (cases rx;rfl)
  | (obtain⟨t,rfl⟩:=rx;rfl)
def dD(b:Expr)(h:autoParam (op≠.In) Λ)(h2:autoParam (op≠.NotIn) Λ):lj op b=aj:=by
 have e1:(op==CmpOp.In)=aj:=by cases op<;>first|rfl|exact bg rfl h
 have e2:(op==CmpOp.NotIn)=aj:=by cases op<;>first|rfl|exact bg rfl h2
 cases b<;>simp[lj,e1,e2]
def aJg(ho:OpR X (dy op) r)(ha:PE X a ta)(hb:PE X b tb)(hm:lj op b=aj):PE X (.Compare a [op] [b] pos) (tOp r ta tb):=by
 intro Ψ s σ H Q I h;exact wpAny_Compare1 (aQt ha hb I h λv u s2 x y H2 I2 rx ry q=>ho Ψ s2 σ H2 x y v u Q I2 rx ry q) hm
noncomputable def aNl(t:TE):TT:=λσ H Q=>t σ H λx H'=>∃k,x=.bl k/\Q k H'
def aJh(ho:OpR X (dy op) r)(ha:PE X a ta)(hb:PE X b tb)(hm:lj op b=aj):PT X (.Compare a [op] [b] pos) (aNl (tOp r ta tb)):=by
 intro Ψ s σ H Q I h;refine wpAny_isTrue_Compare1 (thn (ha Ψ s σ H _ I h) λv s1 ⟨x,H1,I1,r1,q1⟩=>thn (hb Ψ s1 σ H1 _ I1 q1) λu s2 ⟨y,H2,I2,r2,q2⟩=>
  thn (ho Ψ s2 σ H2 x y v u _ I2 r1 r2 q2) λc s3 ⟨z,H3,I3,r3,k,e,q3⟩=>?_) hm
 subst e;cases r3;exact jc ⟨H3,I3,q3⟩
noncomputable def aI1(r r':R2)(ta tb tc:TE):TE:=λσ H Q=>ta σ H λx H1=>tb σ H1 λy H2=>r x y H2 λz H3=>∃k,z=.bl k/\
 (if k=af then tc σ H3 λw' H4=>r' y w' H4 Q else Q (.bl aj) H3)
def aFw(ho:OpR X (dy op) r)(ho':OpR X (dy op') r')(ha:PE X a ta)(hb:PE X b tb)(hc:PE X c tc)
 (hm:lastMarks [op,op'] [b,c]=aj:=by with_unfolding_all rfl):PT X (.Compare a [op,op'] [b,c] pos) (aNl (aI1 r r' ta tb tc)):=by
 intro Ψ s σ H Q I h;refine isTrue_chain (thn (ha Ψ s σ H _ I h) λv s1 ⟨x,H1,I1,r1,q1⟩=>test_link (thn (hb Ψ s1 σ H1 _ I1 q1) λu s2 ⟨y,H2,I2,r2,q2⟩=>
  thn (ho Ψ s2 σ H2 x y v u _ I2 r1 r2 q2) λd s3 ⟨z,H3,I3,r3,k,e,q3⟩=>?_)) hm
 subst e;cases r3;refine jc ?_;cases k with
 |false=>
  obtain⟨k',e',q'⟩:=q3;cases e';exact ite_ff ⟨H3,I3,q'⟩
 |true=>
  refine ite_tt (test_last (thn (hc Ψ s3 σ H3 _ I3 q3) λw' s4 ⟨z',H4,I4,r4,q4⟩=>thn (ho' Ψ s4 σ H4 y z' u w' _ I4 r2 r4 q4) λd' s5 ⟨z2,H5,I5,r5,k2,e2,q5⟩=>?_));subst e2;cases r5;exact jc ⟨H5,I5,q5⟩
def aQx(K:b6)(x:V)(H:Hp)(k:ax):Prop:=
 match x with
 |.non=>k=aj
 |.bl b=>k=b
 |.int i=>k=(i !=0)
 |.str y=>y.length<=bp/\k=((y.length:ag)!=0)
 |.byt y=>y.size<=bp/\k=((y.size:ag)!=0)
 |.ref p=>(∃xs,SqL K H p xs/\k=!xs.isEmpty)\/(∃xs,SqT K H p xs/\k=!xs.isEmpty)\/∃kvs,H p=ae (.dK kvs)/\k=!kvs.isEmpty
 |_=>c9
def ZK(r:KV kvs vs):(!vs.isEmpty)=!kvs.isEmpty:=by
 cases r<;>rfl
theorem DW(r:Vals xs its):(!its.toArray.isEmpty)=!xs.isEmpty:=by
 cases r<;>simp
theorem DX:(bp:ai)<2 ^ 63:=by rw[e8];decide
theorem aNm:aSy X (λx H Q=>∃k,aQx X.K x H k/\Q k H):=by
 intro Ψ s σ H x v Q I rx h;obtain⟨k,e,q⟩:=h;have hl:=DX;have hs:bp=16777216:=e8;cases x with
 |non=>
  cases rx;have e':k=aj:=e;subst e';exact truthy_none ⟨H,I,q⟩
 |bl b=>
  cases rx;have e':k=b:=e;subst e';exact jc ⟨H,I,q⟩
 |int i=>
  obtain⟨t,rfl⟩:=rx;have e':k=(i !=0):=e;subst e';exact PySem.P.truthy_int ⟨H,I,q⟩
 |str y=>
  obtain⟨t,rfl⟩:=rx;obtain⟨hy,e'⟩:y.length<=bp/\k=((y.length:ag)!=0):=e;subst e';exact PySem.P.truthy_str 0x1 ⟨H,I.tok _,q⟩
 |byt y=>
  obtain⟨t,rfl⟩:=rx;obtain⟨hy,e'⟩:y.size<=bp/\k=((y.size:ag)!=0):=e;subst e';exact PySem.W.truthy_bytes 0x1 ⟨H,I.tok _,q⟩
 |ref p=>
  cases rx;have e':(∃xs,SqL X.K H p xs/\k=!xs.isEmpty)\/(∃xs,SqT X.K H p xs/\k=!xs.isEmpty)\/∃kvs,H p=ae (.dK kvs)/\k=!kvs.isEmpty:=e;rcases e' with ⟨xs,hx,e'⟩|⟨xs,hx,e'⟩|⟨kvs,hx,e'⟩
  .subst e';obtain⟨its,r,pl,hz⟩:=I.list hx;have hlen:=r.length;exact wpAny_truthy_list pl.isList (by simp only[cg];lia) ⟨H,I.tok _,by rw[DW r];exact q⟩
  .subst e';obtain⟨its,r,pl,hz⟩:=I.tuple hx;have hlen:=r.length;exact truthy_tuple pl (by simp only[cg];lia) ⟨H,I.tok _,by rw[DW r];exact q⟩
  .subst e';obtain⟨hz,hS,vs,r,m⟩:kvs.length<=bp/\(p==fA)=aj/\∃vs,KV kvs vs/\s.heap.DictOf (dM X.prog X.w) p vs:=I.hok p _ hx;have hlen:kvs.length=vs.length:=lg r;exact wpAny_truthy_dict hS m 0x1 ⟨H,I.tok _,by rw[ZK r];exact q⟩
 |_=>exact(show c9 from e).elim
def aFx(ha:PE X a ta)(he:∀whole,oz a X.env whole=(do let v <- whole;standAt a.pos;t5 [v] (truthy v))) :
  PT X a (λσ H Q=>ta σ H λx H'=>∃k,aQx X.K x H' k/\Q k H'):=by
 intro Ψ s σ H Q I h;exact isTrue_plain (thn (ha Ψ s σ H _ I h) λv s1 ⟨x,H1,I1,r1,q1⟩=>aNm Ψ s1 σ H1 x v Q I1 r1 q1) (he _)
def ZM:OpR X (fN .Add) (λx y H Q=>∃i j,x=.str i/\y=.str j/\i.length+j.length<=bp/\Q (.str (i++j)) H):=by
 intro Ψ s σ H x y v u Q I rx ry h;obtain⟨i,j,rfl,rfl,hz,q⟩:=h;obtain⟨t,rfl⟩:=rx;obtain⟨t',rfl⟩:=ry;exact add_str (λt' tk=>⟨.str (i++j),H,I.tok _,⟨_,rfl⟩,q⟩) hz
def vals1(r:Vals [x] us):∃u,us=[u]/\RelV x u:=by
 cases r with
 |cons r1 r2=>cases r2;exact⟨_,rfl,r1⟩
end
def aFk.some_of(r:aFk (ae v) o):∃u,o=ae u/\RelV v u:=by
 cases o with
 |none=>exact(show c9 from r).elim
 |some u=>exact⟨u,rfl,r⟩
structure wK(k:ai)(A:cS):Prop where
 hd:A.handled=ao
 dp:A.depth+3*k+5<yd
 un:A.units+16*k+200<bE
theorem wK.mono(r:wK k A)(h:j<=k):wK j A:=⟨r.hd,by have:=r.dp;lia,by have:=r.un;lia⟩
theorem wK.deeper(r:wK (k+1) A)(env:d6):wK k (A.deeper env):=
 ⟨r.hd,by have:=r.dp;show A.depth+1+3*k+5<_;lia,by have:=r.un;show A.units+3+16*k+200<_;lia⟩
theorem wK.depth(r:wK k A):A.depth<yd:=by have:=r.dp;lia
theorem wK.units(r:wK k A):A.units+64<bE:=by have:=r.un;lia
noncomputable def aT2:TA:=λ_ H Q=>Q [] H
noncomputable def aQy(ta:TE)(tr:TA):TA:=λσ H Q=>ta σ H λx H1=>tr σ H1 λxs H2=>Q (x::xs) H2
section
variable {t:TA}
def rF:PA X [] aT2:=λ_ _ _ _ H Q I h=>ye ⟨[],H,I,.nil,h⟩
def kI(ha:PE X e te)(hr:PA X es t)(hs:autoParam (zSE X e es) Ω):PA X (e::es) (aQy te t):=by
 intro pos Ψ s σ H Q I h;rw[hs];show ϑ _ _ (tx ((aj,cK e X.env)::jq pos (dQ es X.env))) _ _ s;refine yf (thn (ha Ψ s σ H _ I h) λu s1 ⟨x,H1,I1,r1,q1⟩=>?_);exact thn (hr pos Ψ s1 σ H1 _ I1 q1) λus s2 ⟨xs,H2,I2,r2,q2⟩=>⟨x::xs,H2,I2,.cons r1 r2,q2⟩
def aT3(t:TA):TE:=λσ H Q=>t σ H λxs H1=>xs.length<=bp/\∀p,H1 p=ao->Q (.ref p) (upd H1 p (.tup xs))
def aT4(t:TA):TE:=λσ H Q=>t σ H λxs H1=>xs.length<=bp/\∀p,H1 p=ao->Q (.ref p) (upd H1 p (.lst xs))
def aNn{x1}(h:PA X es t):PE X (.Tuple es x1 pos) (aT3 t):=by
 intro Ψ s σ H Q I hq;refine wpAny_Tuple_spliced (thn (h pos Ψ s σ H _ I hq) λus s1 ⟨xs,H1,I1,r,z,q⟩=>⟨by rw[<-r.length];exact z,?_⟩);have hf:H1 s1.heap.objs.size=ao:=I1.hok.fresh (bi _);refine⟨.ref s1.heap.objs.size,upd H1 s1.heap.objs.size (.tup xs),I1.laid (λb u e=>cx _ e) (bi _) ?_,rfl,q _ hf⟩;exact⟨z,us,r,⟨_,dt _ rfl,rfl,_,rfl⟩⟩
def aB6(h:PA X es t):PE X (.List es pos) (aT4 t):=by
 intro Ψ s σ H Q I hq;refine wpAny_List_spliced (thn (h pos Ψ s σ H _ I hq) λus s1 ⟨xs,H1,I1,r,z,q⟩=>⟨by rw[<-r.length];exact z,?_⟩);have hf:H1 s1.heap.objs.size=ao:=I1.hok.fresh (bi _);refine⟨.ref s1.heap.objs.size,upd H1 s1.heap.objs.size (.lst xs),I1.laid (λb u e=>cx _ e) (bi _) ?_,rfl,q _ hf⟩;exact⟨z,us,0,r,dt _ rfl⟩
end
abbrev Sp:=aa V->Hp->VK->XK->Prop
abbrev CXT:=aa d6->Hp->ay->XK->ap->ay->Prop
structure aQ9(P:cy)(w:bS)(K:b6)(mg:Str->aS ap)(base:br)(A:cS)(outer:aa d6)(s:ay)(H:Hp):Prop where
 frames:A.frames=ae outer
 mod:Mod K mg base
 bs:∀b o,base.get? b=ae o->s.heap.get? b=ae o/\H b=ao
 bsz:base.objs.size<=s.heap.objs.size
 aAx:s.heap.FunFrames base outer
 frf:∀b∈frs outer,H b=ao
 hok:HOk P w H s.heap
 bare:jr s.gens
def CE(outer:aa d6)(P:cy)(w:bS)(H:Hp)(s:ay)(Q:VK)(u:ap)(s':ay):Prop:=
 ∃v H',s'.os=s.os/\jr s'.gens/\Un (frs outer) [] H H' s.heap s'.heap/\HOk P w H' s'.heap/\RelV v u/\Q v H'
def CR(CX:CXT)(outer:aa d6)(P:cy)(w:bS)(H:Hp)(s:ay)(Q:VK)(E:XK)(r:lm)(s':ay):Prop:=
 match r with
 |.ok (.ret u)=>CE outer P w H s Q u s'
 |.ok _=>c9
 |.error e=>CX outer H s E e s'
structure ZP(P:cy)(w:bS)(K:b6)(mg:Str->aS ap)(base:br)(CX:CXT)(k:ai)(f:aq)(fd:gd)(ps:aa Str)(sp:Sp):Prop where
 len:∀vs H Q E,sp vs H Q E->vs.length=ps.length
 run:∀(A:cS)(outer:aa d6)(s:ay)(H:Hp)(args:Args)(us:aa ap)(vs:aa V)(Q:VK)(E:XK),wK k A->aQ9 P w K mg base A outer s H->lp s fd args (ps.zip us)->Vals vs us->sp vs H Q E->
  codeAny (az P w) A (.call (.ref f) args) (CR CX outer P w H s Q E) s
section
theorem Inv.env0(I:Inv X Ψ σ H s):aQ9 X.prog X.w X.K X.mg X.base X.A X.stack s H:=
 ⟨I.ok.frames,I.ok.mod,I.bs,du I.ok.bsz I.sz,I.stack,I.aAy,I.hok,I.bare⟩
theorem Inv.after(I:Inv X Ψ σ H s)(h:CE X.stack X.prog X.w H s Q u s'):EP X Ψ σ Q u s':=by
 obtain⟨v,H',os,bare,un,hok,r,q⟩:=h;obtain⟨hh,g,d,t,os'⟩:=s';obtain rfl:os'=s.os:=os;exact⟨v,H',I.call un hok bare (λb z=>bg z 0x2),r,q⟩
end
noncomputable def aQz(sp:Sp)(dvs:aa V)(E:XK)(t:TA):TE:=λσ H Q=>t σ H λvs H1=>sp (vs++dvs) H1 Q E
def Binds(K:b6)(fd:gd)(ps:aa Str)(ds:aa ap):Prop:=
 ∀(s:ay)(us:aa ap),K.In s.heap->(us++ds).length=ps.length->lp s fd ⟨us,[]⟩ (ps.zip (us++ds))
theorem Binds.all{K:b6}(h:∀us:aa ap,us.length=ps.length->bindArgs fd ⟨us,[]⟩=pure (ps.zip us)):Binds K fd ps []:=λs us _ hl=>by
 rw[eo] at hl ⊢;exact .of_eq (h us hl)
def aB7(CX:CXT)(X:Cx)(E:XK):Prop:=∀(Ψ:aa (aq×b9))(σ:St)(H:Hp)(s:ay)(e:ap)(s':ay),Inv X Ψ σ H s->CX X.stack H s E e s'->X.xe e s'
section
variable {f:aq} {e:Expr}
def aNo(F:ZP X.prog X.w X.K X.mg X.base CX k f fd ps sp)(hr:wK k X.A)(hb:Binds X.K fd ps ds)(hd:Vals dvs ds)(hx:aB7 CX X E)
 (I:Inv X Ψ σ H s)(r:Vals vs us)(h:sp (vs++dvs) H Q E):ϑ (az X.prog X.w) X.A (call (.ref f) us) (EP X Ψ σ Q) X.xe s:=by
 have r2:Vals (vs++dvs) (us++ds):=r.append hd;have hl:(us++ds).length=ps.length:=by rw[<-r2.length];exact F.len _ _ _ _ h
 refine wpAny_call (lq (F.run X.A X.stack s H ⟨us,[]⟩ (us++ds) (vs++dvs) Q E hr I.env0 (hb s us I.kIn hl) r2 h) λr s' hq=>?_);cases r with
 |error e=>exact hx Ψ σ H s e s' I hq
 |ok fl=>
  cases fl with
  |ret u=>exact I.after hq
  |next=>exact fI hq
  |brk=>exact fI hq
  |cont=>exact fI hq
def aJi(F:ZP X.prog X.w X.K X.mg X.base CX k f fd ps sp)(hr:wK k X.A)(hg:Gl X x)(hm:X.mg x=ae (.ref f))(hk:nh X.K (.ref f)=af)(hb:Binds X.K fd ps ds)(hd:Vals dvs ds)(hx:aB7 CX X E)
 (ha:PA X (e::es) t)(hdb:autoParam (nDb x) Λ)(he:autoParam (zSE X e es) Ω)(hpl:autoParam (zSP X pos es) Ω) :
  PE X (.Call (.Name x p) (e::es) [] pos) (aQz sp dvs E t):=by
 intro Ψ s σ H Q I h;refine kC (aJ9 I hg hm ?_ hdb);refine PySem.W.callWith_K I.ok.mod.kin hk (thn (ha pos Ψ s σ H _ I h) λus s1 ⟨vs,H1,I1,r,q⟩=>⟨I1.kIn,?_⟩) he hpl;exact aNo F hr hb hd hx I1 r q
end
structure bQ(N P:aa Str)(sc:fT):Prop where
 kind:sc.kind=.function
 co:sc.isCoroutine=aj
 gen:sc.isGenerator=aj
 nd:N.Nodup
 pre:N.take P.length=P
 par:∀x∈P,sc.names.lookup x=ae .local\/sc.names.lookup x=ae .cell
 nofree:∀y∈sc.names,y.2≠.free
theorem NB{kindOf:Str->aS iF}:∀{binds:aa (Str×ap)}{m:Str->aS ap},(∀v,(x,v)∉binds)->jv kindOf binds m x=m x
 |[],_,_=>rfl
 | (n,v)::r,m,h=>by
  unfold jv;rw[NB λw hw=>h w (bu _ hw)];split
  .have:x≠n:=by rintro rfl;exact h v bw
   simp[this]
  .rfl
theorem NK{kindOf:Str->aS iF}:∀{binds:aa (Str×ap)}{m:Str->aS ap},(∀v,(x,v)∉binds)->jw kindOf binds m x=m x
 |[],_,_=>rfl
 | (n,v)::r,m,h=>by
  unfold jw;rw[NK λw hw=>h w (bu _ hw)];split
  .rfl
  .have:x≠n:=by rintro rfl;exact h v bw
   simp[this]
theorem NP{kindOf:Str->aS iF}:∀{P:aa Str}{vs:aa ap}{i:ai}{m:Str->aS ap},P.Nodup->P[i]?=ae x->vs[i]?=ae v->kindOf x=ae .local->
  jv kindOf (P.zip vs) m x=ae v
 |[],_,_,_,_,h,_,_=>by simp at h
 |_::_,[],_,_,_,_,h,_=>by simp at h
 |p::P,w::vs,0,m,nd,h1,h2,hk=>by
  simp at h1 h2;subst h1;subst h2;show jv kindOf ((p,w)::P.zip vs) m p=_;unfold jv;rw[NB λv hv=>(df.mp nd).1 (t9 hv).1,av hk];simp
 |p::P,w::vs,i+1,m,nd,h1,h2,hk=>by
  show jv kindOf ((p,w)::P.zip vs) m x=_;unfold jv;exact NP (df.mp nd).2 (by simpa using h1) (by simpa using h2) hk
theorem NT{kindOf:Str->aS iF}:∀{P:aa Str}{vs:aa ap}{i:ai}{m:Str->aS ap},P.Nodup->P[i]?=ae x->vs[i]?=ae v->kindOf x≠ae .local->
  jw kindOf (P.zip vs) m x=ae v
 |[],_,_,_,_,h,_,_=>by simp at h
 |_::_,[],_,_,_,_,h,_=>by simp at h
 |p::P,w::vs,0,m,nd,h1,h2,hk=>by
  simp at h1 h2;subst h1;subst h2;show jw kindOf ((p,w)::P.zip vs) m p=_;unfold jw;rw[NK λv hv=>(df.mp nd).1 (t9 hv).1,aw hk];simp
 |p::P,w::vs,i+1,m,nd,h1,h2,hk=>by
  show jw kindOf ((p,w)::P.zip vs) m x=_;unfold jw;exact NT (df.mp nd).2 (by simpa using h1) (by simpa using h2) hk
noncomputable def start(N:aa Str)(vs:aa V):St:=vs.map ae++c_ (N.length-vs.length) ao
noncomputable def aFl(CX:CXT)(P:cy)(w:bS)(K:b6)(mg:Str->aS ap)(base:br)(N:aa Str)(qual:Str)(scope:fT)(f:aq)(cd:ap)(A:cS)(outer:aa d6)(s:ay)(H:Hp)(E:XK):Cx where
 prog:=P
 w:=w
 K:=K
 mg:=mg
 base:=base
 A:=A.deeper (gN qual scope s.heap.objs.size f cd)
 N:=N
 s₀:=s
 H₀:=H
 env:=gN qual scope s.heap.objs.size f cd
 outer:=outer
 stack:=gN qual scope s.heap.objs.size f cd::outer
 ex:=[]
 calm:=af
 fn:=λ_=>af
 pn:=[]
 xe:=λe s'=>ϑ (az P w) (A.deeper (gN qual scope s.heap.objs.size f cd)) (leaving (gN qual scope s.heap.objs.size f cd) e) (λ_ s''=>CX outer H s E e s'') (λe' s''=>CX outer H s E e' s'') s'
def WR{sc:fT}(h:sc.names.lookup x=ae .cell):∃c,(ua n sc.names []).lookup x=ae c:=by
 have q:=yg sc.names n [] (.inl h);exact ub.mp q
theorem aB8{CX:CXT}{P:cy}{w:bS}{K:b6}{mg:Str->aS ap}{base:br}{N ps:aa Str}{qual:Str}{scope:fT}{f:aq}{cd:ap}{A:cS}{outer:aa d6}{s s1:ay}{H:Hp}{E:XK}{us:aa ap}{vs:aa V}
 (S:bQ N ps scope)(hd:A.handled=ao)(e0:aQ9 P w K mg base A outer s H)(hl:vs.length=ps.length)(r:Vals vs us)
 (x:InCallC s s.heap.objs.size (jv (gN qual scope s.heap.objs.size f cd).kindOf (ps.zip us) λ_=>ao) (ua (s.heap.objs.size+1) scope.names []) (jw (gN qual scope s.heap.objs.size f cd).kindOf (ps.zip us) λ_=>ao) s1) :
  Inv (aFl CX P w K mg base N qual scope f cd A outer s H E) [] (start N vs) H s1:=by
 have hpl:ps.length<=N.length:=by have:=cz gh S.pre;rw[ig] at this;lia
 obtain⟨h1,tk,rfl,hk⟩:=x.done;have noA:∀b:aq,b∉(aFl CX P w K mg base N qual scope f cd A outer s H E).ex:=λb z=>bg (show b∈([]:aa aq) from z) 0x2
 refine⟨⟨e0.mod,S.kind,rfl,rfl,bi _,λy z c h1 h2=>?_,λy hy=>?_,λy c _ h=>?_,λ_=>hd,Around.frames_deeper e0.frames,.inr ⟨rfl,rfl⟩,λb z=>bg z (noA b),e0.bs,e0.bsz,λb _ _=>noA b,λb z=>bg z (noA b),e0.aAx,e0.frf⟩,
  rfl,e0.bare,Un.kept hk,⟨_,x.toInCall.ns,λi y v h1 h2 h3=>?_⟩,λy c h=>⟨_,x.cell y c h⟩,e0.hok.fresh (bi _),λy c h=>?_,λp hp=>bg (show p∈([]:aa (aq×b9)) from hp) 0x2,e0.hok.kept hk,?_⟩
 .exact name_of_addr x.apart (lr h1) (lr h2)
 .have hy:scope.names.lookup y=ae .cell\/scope.names.lookup y=ae .free:=hy;rcases hy with hy|hy
  .exact WR hy
  .exact bg rfl (S.nofree _ (lr hy))
 .exact mN (x.above y c (lr h))
 .have hi:i<vs.length:=by
   unfold start at h2;by_cases hi:i<vs.length
   .exact hi
   .rw[iL (by simpa using hi)] at h2;rw[kF] at h2;split at h2<;>cases h2
  have ha:vs[i]?=ae v:=by
   unfold start at h2;rw[jx (by simpa using hi),iN] at h2;cases e:vs[i]? with
   |none=>rw[e] at h2;cases h2
   |some a=>rw[e] at h2;cases h2;rfl
  obtain⟨u,hu,rv⟩:=r.get ha;have hp:ps[i]?=ae y:=by
   rw[<-S.pre,oP 0x1];exact h1
  have ndP:ps.Nodup:=by rw[<-S.pre];exact S.nd.sublist (List.take_sublist _ _)
  refine⟨u,rv,?_⟩;rcases S.par y (lu hp) with k|k
  .exact .inl ⟨k,NP ndP hp hu k⟩
  .obtain⟨c,e⟩:=WR k;refine .inr ⟨.inl k,c,e,?_⟩;have q:=x.cell y c e;rw[NT ndP hp hu (by show scope.names.lookup y≠_;rw[k];decide)] at q;exact q
 .exact e0.hok.fresh (mN (x.above y c (lr h)))
 .unfold start;show _=N.length;rw[cb,aI,yh];lia
theorem aR0{w:bS}{K:b6}{mg:Str->aS ap}{base:br}{k:ai}{f:aq}{name qual:Str}{params:Arguments}{body:aa bz}{scope:fT}{dV kV doc pm cdv ct oc:ap}{an od:aS aq}
 {osl:ba (aS ap)}{N ps:aa Str}{sp:Sp}(lk:K.lookup f=ae ⟨oc,od,.func (lw name qual params body scope dV kV doc pm an cdv ct),osl⟩)(hcd:uc K cdv qual=af)(S:bQ N ps scope)
 (len:∀vs H Q E,sp vs H Q E->vs.length=ps.length)
 (hbody:∀(A:cS) (outer:aa d6) (s:ay) (H:Hp) (vs:aa V) (Q:VK) (E:XK),wK k (A.deeper (gN qual scope s.heap.objs.size f cdv))->sp vs H Q E->
   ∃t,PSs (aFl CX P w K mg base N qual scope f cdv A outer s H E) body t/\t {nx:=λ_ H'=>Q .non H',rt:=Q} (start N vs) H) :
  ZP P w K mg base CX (k+1) f (lw name qual params body scope dV kV doc pm an cdv ct) ps sp:=by
 refine⟨len,λA outer s H args us vs Q E hr e0 hb r hsp=>?_⟩;have hl:=len _ _ _ _ hsp;have KX:K.In s.heap:=e0.mod.kin.keeps λb o e=>(e0.bs b o e).1
 have lim:s.heap.NoLimit:=e0.mod.nolimit.keeps λb o e=>(e0.bs b o e).1
 have hkind:∀y∈ps.zip us,scope.names.lookup y.1=ae .local\/(scope.names.lookup y.1=ae .cell/\((ua (s.heap.objs.size+1) scope.names []).lookup y.1).isSome=af):=λ⟨n,v⟩ hy=>by
  rcases S.par n (t9 hy).1 with q|q
  .exact .inl q
  .exact .inr ⟨q,yg _ _ _ (.inl q)⟩
 refine codeAny_call_function hr.depth (KX _ _ lk) rfl S.co S.gen rfl (PySem.W.codeRec_of KX hcd) (hb _ _ _ _ ?_);refine wpAny_newFunctionEnv_cells S.kind hkind λenv he s1 x=>?_
 subst he;refine⟨lim.keeps x.toInCall.keep,codeAny_func ?_⟩;obtain⟨t,ht,hq⟩:=hbody A outer s H vs Q E (hr.deeper _) hsp;have I:Inv (aFl CX P w K mg base N qual scope f cdv A outer s H E) [] (start N vs) H s1:=aB8 S hr.hd e0 hl r x;refine fj (ht [] s1 (start N vs) H _ I hq) (λfl s' hs=>?_) λe s' hs=>hs
 have fin:∀{σ':St}{H':Hp}{v:V}{u:ap},Inv (aFl CX P w K mg base N qual scope f cdv A outer s H E) [] σ' H' s'->RelV v u->Q v H'->CE outer P w H s Q u s':=
  λ{σ' H' v u} J rv q=>⟨v,H',J.os,J.bare,J.base,J.hok,rv,q⟩
 cases fl with
 |ret u=>
  obtain⟨v,σ',H',J,rv,q⟩:=hs;exact fin J rv q
 |next=>
  obtain⟨σ',H',J,q⟩:=hs;exact fin (v:=V.non) J rfl q
 |brk=>
  obtain⟨_,_,_,q⟩:=hs;exact fI q
 |cont=>
  obtain⟨_,_,_,q⟩:=hs;exact fI q
section
variable {e:Expr} {t:TA} {id T:eM} {r:aa V->Hp->VK->Prop}
noncomputable def tCB(r:aa V->Hp->VK->Prop)(t:TA):TE:=λσ H Q=>t σ H λvs H1=>r vs H1 Q
theorem WT(hc:lW X (.builtin id) r)(hg:Gl X x)(hm:X.mg x=ao)(hv:eR x=ae (.builtin id))(ha:PA X (e::es) t)(hn:autoParam (x ≠ "__name__") Λ)(hdb:autoParam (nDb x) Λ)
 (he:autoParam (zSE X e es) Ω)(hpl:autoParam (zSP X pos es) Ω):PE X (.Call (.Name x p) (e::es) [] pos) (tCB r t):=by
 intro Ψ s σ H Q I h;refine kC (vP I hg hm hv ?_ hn hdb);exact Cj (thn (ha pos Ψ s σ H _ I h) λus s1 ⟨vs,H1,I1,r1,q1⟩=>hc Ψ s1 σ H1 vs us Q I1 r1 q1) he hpl
def xV(hc:lW X (.type T) r)(hg:Gl X x)(hm:X.mg x=ao)(hv:eR x=ae (.type T))(ha:PA X (e::es) t)(hn:autoParam (x ≠ "__name__") Λ)(hdb:autoParam (nDb x) Λ)
 (he:autoParam (zSE X e es) Ω)(hpl:autoParam (zSP X pos es) Ω):PE X (.Call (.Name x p) (e::es) [] pos) (tCB r t):=by
 intro Ψ s σ H Q I h;refine kC (vP I hg hm hv ?_ hn hdb);exact ng (thn (ha pos Ψ s σ H _ I h) λus s1 ⟨vs,H1,I1,r1,q1⟩=>hc Ψ s1 σ H1 vs us Q I1 r1 q1) he hpl
end
end L2
namespace HT
open PySem PyProof.Rows
section
variable {prog:cy} {w:bS} {A:cS} {E:ap->ay->Prop} {s:ay}
theorem aJj(ht:mM s.heap t vs.toArray)(hb:mM s.heap b ws.toArray)(hv:vs≠[])
 (h1:ws=[]->Q (.ref t) s)(h2:ws≠[]->Q (.ref s.heap.objs.size) {s with heap:=s.heap.push {cls:=.type "tuple",data:=.seq (vs++ws).toArray}})
 (hsz:vs.length+ws.length<=bp):ϑ (az prog w) A (fN .Add (.ref t) (.ref b)) Q E s:=by
 obtain⟨⟨cls,dd,data,sl⟩,ho,hc,n,hd⟩:=id ht;obtain⟨⟨cls2,dd2,ni,sl2⟩,ho2,hc2,n2,hd2⟩:=id hb;simp only at hc hd hc2 hd2;subst hc hd hc2 hd2;have e:vs.toArray++ws.toArray=(vs++ws).toArray:=by simp
 by_cases hw:ws=[]
 .exact ud ⟨_,ho,rfl⟩ ⟨_,ho2,rfl⟩ ue uf ug uh (ul _ _)
   (tuple_addW1 t b vs.toArray ws.toArray n n2 dd dd2 sl sl2 (by simpa using hv) (by simp[hw])) ⟨ho,ho2,h1 hw⟩
 .refine ud ⟨_,ho,rfl⟩ ⟨_,ho2,rfl⟩ ue uf ug uh (ul _ _)
   (tuple_addW2 t b vs.toArray ws.toArray n n2 dd dd2 sl sl2 (by simpa using hv) (by simpa using hw) (by rw[cg,cg];exact hsz)) ⟨ho,ho2,?_⟩
  rw[e];exact h2 hw
noncomputable def sIx(n d:ai):aS ag->ai
 |none=>d
 |some v=>if v<0 then (v+(n:ag)).toNat else min v.toNat n
theorem aNp(n d:ai)(hd:d<=n)(o:aS ag):sIx n d o<=n:=by
 cases o with
 |none=>exact hd
 |some v=>
  show(if v<0 then (v+(n:ag)).toNat else min v.toNat n)<=n;by_cases hv:v<0
  .rw[av hv];lia
  .rw[aw hv];exact Nat.min_le_right _ _
theorem aB9(v:ag)(n d:ai):(if v<0 then max (v+(n:ag)) 0 else min v (n:ag))=((sIx n d (ae v):ai):ag):=by
 show(if v<0 then max (v+(n:ag)) 0 else min v (n:ag))=(((if v<0 then (v+(n:ag)).toNat else min v.toNat n):ai):ag);by_cases hv:v<0
 .simp only[av hv];lia
 .simp only[aw hv];lia
theorem ZQ(lo hi:aS ag)(n:ai):um lo hi 1 (n:ag)=(((sIx n 0 lo:ai):ag),((sIx n n hi:ai):ag)):=by
 have h1:¬((1:ag)<0):=by lia
 unfold um;simp only[h1,ck];refine Prod.ext ?_ ?_
 .cases lo with
  |none=>rfl
  |some v=>exact aB9 v n 0
 .cases hi with
  |none=>rfl
  |some v=>exact aB9 v n n
theorem ZR(i j:ai):oQ (i:ag) (j:ag) 1=j-i:=by
 unfold oQ;have h1:(1:ag) > 0:=by lia
 simp only[h1,cq,Int.ediv_one];split<;>lia
theorem DY(p:jy v o)(h:Q o s):ϑ (az prog w) A (Ck v) Q E s:=by
 cases p with
 |none=>exact yj h
 |int i t=>exact slicePart_int h
theorem wC{lo hi:aS ag}{Q:ag×ag×ai->ay->Prop}(hs:s.heap.IsSliceOf sl vl vu .none)(pl:jy vl lo)(pu:jy vu hi)
 (h:Q (((sIx n 0 lo:ai):ag),1,sIx n n hi-sIx n 0 lo) s):ϑ (az prog w) A (yk (.ref sl) (pure (n:ag))) Q E s:=by
 obtain⟨os,hos,hcs,hds⟩:=id hs;unfold yk Cm;refine aE (aE (uo hos hds rfl (aE (uo hos hds rfl (aE (uo hos hds rfl (bm ?_)))))));refine aE (yj ?_);show ϑ _ _ (if ((1:ag)==0)=af then _ else _) _ _ s;rw[aw 0x4];refine aE (DY pl (aE (DY pu (aE (bm ?_)))));show ϑ _ _ (match um lo hi 1 (n:ag) with|(lo,hi)=>pure (lo,(1:ag),oQ lo hi 1)) _ _ s;rw[ZQ lo hi n];show ϑ _ _ (pure (((sIx n 0 lo:ai):ag),(1:ag),oQ ((sIx n 0 lo:ai):ag) ((sIx n n hi:ai):ag) 1)) _ _ s;rw[ZR];exact bm h
theorem aFy(xs:ba ap)(i k:ai):((bh k).filterMap λ(m:ai)=>xs[((i:ag)+(m:ag)*1).toNat]?).toArray=((xs.toList.drop i).take k).toArray:=by
 have e:(λ(m:ai)=>xs[((i:ag)+(m:ag)*1).toNat]?)=λm=>xs[i+m]?:=by
  funext m
  have:((i:ag)+(m:ag)*1).toNat=i+m:=by lia
  rw[this]
 rw[e];have:=pick_run xs i k;rw[List.filterMap_map] at this;have e2:((λx=>xs[x]?) ∘ λx=>i+x)=λm=>xs[i+m]?:=rfl
 rw[e2] at this;rw[this]
theorem uR{lo hi:aS ag}{Q:ap->ay->Prop}(ht:mM s.heap t items)(hs:s.heap.IsSliceOf sl vl vu .none)(pl:jy vl lo)(pu:jy vu hi)
 (hw:¬(sIx items.size 0 lo=0/\sIx items.size items.size hi=items.size))
 (h:Q (.ref s.heap.objs.size) {s with heap:=s.heap.push {cls:=.type "tuple",data:=.seq ((items.toList.drop (sIx items.size 0 lo)).take (sIx items.size items.size hi-sIx items.size 0 lo)).toArray}})
 (hsz:items.size<=bp):ϑ (az prog w) A (kG (.ref t) (.ref sl)) Q E s:=by
 have htake:sizeOk (.seq ((items.toList.drop (sIx items.size 0 lo)).take (sIx items.size items.size hi-sIx items.size 0 lo)).toArray):=by
  show((items.toList.drop (sIx items.size 0 lo)).take (sIx items.size items.size hi-sIx items.size 0 lo)).toArray.size<=bp;rw[cg,ig,jd,gz];lia
 have hj:sIx items.size items.size hi<=items.size:=aNp _ _ (bi _) hi;obtain⟨os,hos,hcs,hds⟩:=id hs;have hTs:s.TypeIs (.ref sl) "slice":=⟨os,hos,hcs⟩
 unfold kG
 try with_reducible refine ii ?_
 first|refine aE (bm ?_)|skip
 refine aE (wpAny_sequenceKey ht.typeIs 0x4 ?_);refine aE (uq ht.typeIs ur
  (nj ur ht.typeIs entry_tuple_getitem ?_ (args_tuple_getitem _ _)))
 show ϑ _ _ (Co (.ref t) >>= _) _ _ s;refine aE (tupleItemsOf_ ht ?_);refine aE (ut hTs ?_);rw[av 0x4];refine aE (wC hs pl pu ?_);have hno:¬((((sIx items.size 0 lo:ai):ag)==0&&(1:ag)==1&&(sIx items.size items.size hi-sIx items.size 0 lo)==items.size)=af):=by
  intro q;rw[bn,bn] at q;have q1:((sIx items.size 0 lo:ai):ag)=0:=eq_of_beq q.1.1;have q2:sIx items.size items.size hi-sIx items.size 0 lo=items.size:=eq_of_beq q.2;exact hw ⟨by lia,by lia⟩
 show ϑ _ _ (if (((sIx items.size 0 lo:ai):ag)==0&&(1:ag)==1&&(sIx items.size items.size hi-sIx items.size 0 lo)==items.size)=af then _ else _) _ _ s;rw[aw hno,aFy]
 first
  |exact aE (gi (bm ⟨_,rfl,bm h⟩) htake)
  |exact aE (gi (aE (bm (bm ⟨_,rfl,bm h⟩))) htake)
  |exact aE (aE (gi (bm (bm ⟨_,rfl,bm h⟩)) htake))
  |exact aE (aE (gi (bm ⟨_,rfl,bm h⟩) htake))
end
end HT
namespace L2
open PySem PySem.Spec PyProof.Rows
abbrev TO:=St->Hp->(aS ag->Hp->Prop)->Prop
def PO(X:Cx)(e:aS Expr)(t:TO):Prop:=
 ∀(Ψ:aa (aq×b9))(s:ay)(σ:St)(H:Hp)(Q:aS ag->Hp->Prop),Inv X Ψ σ H s->t σ H Q->
  ϑ (az X.prog X.w) X.A (evalPart e X.env) (λu s'=>∃o H',Inv X Ψ σ H' s'/\jy u o/\Q o H') X.xe s
noncomputable def aJk:TO:=λ_ H Q=>Q ao H
noncomputable def aR1(t:TE):TO:=λσ H Q=>t σ H λx H1=>∃i,x=.int i/\Q (ae i) H1
section
variable {X:Cx} {te:TE} {lo hi:aS Expr} {tl th:TO}
def aJl:PO X ao aJk:=by
 intro Ψ s σ H Q I h;rw[yl];exact bm ⟨ao,H,I,.none,h⟩
def aJm(h:PE X e te):PO X (ae e) (aR1 te):=by
 intro Ψ s σ H Q I hw;rw[evalPart_some];refine thn (h Ψ s σ H _ I hw) λu s1 ⟨x,H1,I1,r1,q1⟩=>?_
 obtain⟨i,rfl,q⟩:=q1;obtain⟨t,rfl⟩:=r1;exact⟨ae i,H1,I1,.int i t,q⟩
def SlR(X:Cx)(r:V->aS ag->aS ag->Hp->VK->Prop):Prop:=
 ∀(Ψ:aa (aq×b9))(s:ay)(σ:St)(H:Hp)(x:V)(v vl vu:ap)(lo hi:aS ag)(sl:aq)(Q:VK),Inv X Ψ σ H s->RelV x v->s.heap.IsSliceOf sl vl vu .none->jy vl lo->jy vu hi->r x lo hi H Q->
  ∃T id,np (.type T) "__getitem__"=pure (ae (.builtin id))/\s.TypeIs v T/\ϑ (az X.prog X.w) X.A (kG v (.ref sl)) (EP X Ψ σ Q) X.xe s
noncomputable def tSl(r:V->aS ag->aS ag->Hp->VK->Prop)(te:TE)(tl th:TO):TE:=λσ H Q=>te σ H λx H1=>tl σ H1 λl H2=>th σ H2 λu H3=>r x l u H3 Q
theorem aFz(hr:SlR X r)(he:PE X e te)(hl:PO X lo tl)(hu:PO X hi th):PE X (.Subscript e (.Slice lo hi ao p2) pos) (tSl r te tl th):=by
 intro Ψ s σ H Q I h;refine Subscript_ (thn (he Ψ s σ H _ I h) λv s1 ⟨x,H1,I1,r1,q1⟩=>?_);refine wpAny_Slice (thn (hl Ψ s1 σ H1 _ I1 q1) λvl s2 ⟨l,H2,I2,pl,q2⟩=>thn (hu Ψ s2 σ H2 _ I2 q2) λvu s3 ⟨u,H3,I3,pu,q3⟩=>?_);rw[yl];refine bm ?_;have I4:Inv X Ψ σ H3 {s3 with heap:=s3.heap.push {cls:=.type "slice",data:=.fields #[vl,vu,.none]}}:=I3.kept λb ob q=>cx _ q
 obtain⟨T,id,hT,ht,hg⟩:=hr Ψ {s3 with heap:=s3.heap.push {cls:=.type "slice",data:=.fields #[vl,vu,.none]}} σ H3 x v vl vu l u s3.heap.objs.size Q I4 r1 (Cp ..) pl pu q3;show ϑ (az X.prog X.w) X.A (oS e (.Slice lo hi ao p2) v (.ref s3.heap.objs.size)) (EP X Ψ σ Q) X.xe {s3 with heap:=s3.heap.push {cls:=.type "slice",data:=.fields #[vl,vu,.none]}};exact tail_any ht hT hg 0x5
noncomputable def aG0(xs:aa V)(lo hi:aS ag):aa V:=(xs.drop (HT.sIx xs.length 0 lo)).take (HT.sIx xs.length xs.length hi-HT.sIx xs.length 0 lo)
theorem xW(xs:aa V)(lo hi:aS ag):(aG0 xs lo hi).length<=xs.length:=by
 unfold aG0;rw[ig,jd];lia
def aT5(K:b6):V->aS ag->aS ag->Hp->VK->Prop:=λx lo hi H Q=>∃a xs,x=.ref a/\SqT K H a xs/\
 ¬(HT.sIx xs.length 0 lo=0/\HT.sIx xs.length xs.length hi=xs.length)/\∀p,H p=ao->Q (.ref p) (upd H p (.tup (aG0 xs lo hi)))
def aNq:SlR X (aT5 X.K):=by
 intro Ψ s σ H x v vl vu lo hi sl Q I rx hs pl pu h;obtain⟨a,xs,rfl,hx,hw,q⟩:=h;cases rx;obtain⟨its,r,ht,hz⟩:=I.tuple hx;have hlen:its.toArray.size=xs.length:=by rw[cg];exact r.length.symm
 refine⟨"tuple",_,ur.lookup,ht.typeIs,?_⟩;refine HT.uR ht hs pl pu (by rw[hlen];exact hw) ?_ (by rw[hlen];exact hz);rw[hlen];refine⟨.ref s.heap.objs.size,_,I.laid (λb ob q=>cx _ q) (bi _) ?_,rfl,q _ (I.hok.fresh (bi _))⟩;exact⟨du (xW xs lo hi) hz,_,(r.drop (HT.sIx xs.length 0 lo)).take (HT.sIx xs.length xs.length hi-HT.sIx xs.length 0 lo),lE.new _ _⟩
def aR2(K:b6):R2:=λx y H Q=>∃a b xs ys,x=.ref a/\y=.ref b/\SqT K H a xs/\SqT K H b ys/\xs≠[]/\xs.length+ys.length<=bp/\
 (ys=[]->Q (.ref a) H)/\(ys≠[]->∀p,H p=ao->Q (.ref p) (upd H p (.tup (xs++ys))))
def Vals.xX(r:Vals xs us):us=[]↔xs=[]:=by
 cases r with
 |nil=>simp
 |cons _ _=>simp
def aJn:OpR X (fN .Add) (aR2 X.K):=by
 intro Ψ s σ H x y v u Q I rx ry h;obtain⟨a,b,xs,ys,rfl,rfl,ha,hb,hx,hz,q1,q2⟩:=h;cases rx;cases ry;obtain⟨its,r1,p1,_⟩:=I.tuple ha;obtain⟨its2,r2,p2,_⟩:=I.tuple hb;refine HT.aJj p1 p2 (λz=>hx (r1.xX.mp z)) (λz=>⟨.ref a,H,I,rfl,q1 (r2.xX.mp z)⟩) (λz=>?_) (by rw[<-r1.length,<-r2.length];exact hz);refine⟨.ref s.heap.objs.size,_,I.laid (λb ob q=>cx _ q) (bi _) ?_,rfl,q2 (λw=>z (r2.xX.mpr w)) _ (I.hok.fresh (bi _))⟩;exact⟨by rw[cb];exact hz,_,r1.append r2,lE.new _ _⟩
end
noncomputable def ixN(n:ai)(i:ag):aS ai:=if 0<=i then (if i<n then ae i.toNat else ao) else if -(n:ag)<=i then ae (i+n).toNat else ao
def atI{α:Type}(xs:aa α)(i:ag):aS α:=(ixN xs.length i).bind λj=>xs[j]?
theorem aJo(h:ixN n i=ae j):seqIndex? i n=ae j/\j<n/\-(n:ag)<=i/\i<n:=by
 unfold ixN at h;by_cases h0:0<=i
 .rw[av h0] at h;by_cases h1:i<n
  .rw[av h1] at h;have e:i.toNat=j:=c5 h;exact⟨by rw[ym h0 h1,e],by lia,by lia,h1⟩
  .rw[aw h1] at h;cases h
 .rw[aw h0] at h;by_cases h1:-(n:ag)<=i
  .rw[av h1] at h;have e:(i+n).toNat=j:=c5 h;exact⟨by rw[seqIndex_neg 0x1 h1,e],by lia,h1,by lia⟩
  .rw[aw h1] at h;cases h
def S8(h:atI xs i=ae v):∃j,seqIndex? i xs.length=ae j/\xs[j]?=ae v/\j<xs.length/\-(xs.length:ag)<=i/\i<xs.length:=by
 unfold atI at h;cases e:ixN xs.length i with
 |none=>rw[e] at h;cases h
 |some j=>
  rw[e] at h;obtain⟨h1,h2,h3,h4⟩:=aJo e;exact⟨j,h1,h,h2,h3,h4⟩
def uT(b:Expr):Prop:=∀o i,oT b aj o i=uv [o,i] (kG o i)
def IxR(X:Cx)(r:R2):Prop:=
 ∀(value slice:Expr)(Ψ:aa (aq×b9))(s:ay)(σ:St)(H:Hp)(x y:V)(v u:ap)(Q:VK),Inv X Ψ σ H s->RelV x v->RelV y u->r x y H Q->
  oT slice aj v u=uv [v,u] (kG v u)->ϑ (az X.prog X.w) X.A (oS value slice v u) (EP X Ψ σ Q) X.xe s
def MtR(X:Cx)(id:eM)(r:V->aa V->Hp->VK->Prop):Prop:=
 ∀(Ψ:aa (aq×b9))(s:ay)(σ:St)(H:Hp)(x:V)(xs:aa V)(v:ap)(us:aa ap)(Q:VK),Inv X Ψ σ H s->RelV x v->Vals xs us->r x xs H Q->
  ϑ (az X.prog X.w) X.A (call (.builtin id) (v::us)) (EP X Ψ σ Q) X.xe s
section
variable {X:Cx} {a b:Expr} {ta tb:TE} {pos:de}
theorem IxR.or(h:IxR X r)(h':IxR X r'):IxR X (λx y H Q=>r x y H Q\/r' x y H Q):=by
 intro value slice Ψ s σ H x y v u Q I rx ry q hs;rcases q with q|q
 .exact h value slice Ψ s σ H x y v u Q I rx ry q hs
 .exact h' value slice Ψ s σ H x y v u Q I rx ry q hs
def aJp(hr:IxR X r)(ha:PE X a ta)(hb:PE X b tb)(hs:uT b):PE X (.Subscript a b pos) (tOp r ta tb):=by
 intro Ψ s σ H Q I h;exact Subscript_ (aQt ha hb I h λv u s2 x y H2 I2 rx ry q=>hr a b Ψ s2 σ H2 x y v u Q I2 rx ry q (hs _ _))
def aSc(K:b6):R2:=λx y H Q=>∃p xs i v,x=.ref p/\y=.int i/\SqL K H p xs/\atI xs i=ae v/\Q v H
def aT6(K:b6):R2:=λx y H Q=>∃p xs i v,x=.ref p/\y=.int i/\SqT K H p xs/\atI xs i=ae v/\Q v H
def aT7:R2:=λx y H Q=>∃z i c,x=.str z/\y=.int i/\z.length<=bp/\atI z.cps.toList i=ae c/\Q (.str ⟨#[c]⟩) H
theorem G4:IxR X (aSc X.K):=by
 intro value slice Ψ s σ H x y v u Q I rx ry h hs;obtain⟨p,xs,i,z,rfl,rfl,hq,he,q⟩:=h;cases rx;obtain⟨t,rfl⟩:=ry;obtain⟨its,r,pl,hz⟩:=I.list hq;obtain⟨j,h1,h2,h3,h4,h5⟩:=S8 he;obtain⟨w,ew,rw'⟩:=r.get h2;have hl:=r.length;have hn:=DX;have fin:EP X Ψ σ Q w s:=⟨z,H,I,rw',q⟩
 by_cases h0:0<=i
 .have hj:i.toNat=j:=by
   rw[ym h0 h5] at h1;exact c5 h1
  exact item_listR pl.isList h0 0x1 (by rw[hj];simpa using ew) fin hs
 .have hj:(i+(its.toArray.size:ag)).toNat=j:=by
   rw[seqIndex_neg 0x1 h4] at h1;rw[cg,<-hl];exact c5 h1
  exact yn pl.isList.typeIs yo.lookup
   (wpAny_getItem_list_neg pl.isList 0x1 (by rw[cg]<;>lia) 0x1 (by rw[hj];simpa using ew) ⟨rfl,fin⟩) hs
def aNr:IxR X (aT6 X.K):=by
 intro value slice Ψ s σ H x y v u Q I rx ry h hs;obtain⟨p,xs,i,z,rfl,rfl,hq,he,q⟩:=h;cases rx;obtain⟨t,rfl⟩:=ry;obtain⟨its,r,pl,hz⟩:=I.tuple hq;obtain⟨j,h1,h2,h3,h4,h5⟩:=S8 he;obtain⟨w,ew,rw'⟩:=r.get h2;have hl:=r.length;have hn:=DX;have fin:EP X Ψ σ Q w s:=⟨z,H,I,rw',q⟩
 exact yn pl.typeIs slot_tuple_getitem.lookup
  (getItem_tuple pl 0x1 0x1 (by rw[cg,<-hl];exact h1) (by simpa using ew) ⟨rfl,fin⟩) hs
theorem aNs:IxR X aT7:=by
 intro value slice Ψ s σ H x y v u Q I rx ry h hs;obtain⟨z,i,c,rfl,rfl,hz,he,q⟩:=h;obtain⟨t,rfl⟩:=rx;obtain⟨t',rfl⟩:=ry;obtain⟨j,h1,h2,h3,h4,h5⟩:=S8 he;have hl:z.cps.toList.length=z.length:=by simp[Str.length]
 rw[hl] at h1 h4 h5;have hn:=DX;exact tail_any (typeIs_str s z t) slot_str_getitem.lookup (getItem_str (by
  have e1:ϒ (i < -(2 ^ 63:ag))=aj:=c8 0x1;have e2:ϒ (i >= 2 ^ 63)=aj:=c8 0x1;rw[e1,e2,uz]) (by rw[h1];simpa using h2) ⟨.str ⟨#[c]⟩,H,I.tok _,⟨_,rfl⟩,q⟩) hs
theorem Inv.lst{Ψ:aa (aq×b9)}{σ:St}{H:Hp}{s:ay}{p:aq}{xs:aa V}(I:Inv X Ψ σ H s)(h:H p=ae (.lst xs)) :
  ∃(its:aa ap)(n:ai),Vals xs its/\s.heap.get? p=ae {cls:=.type "list",data:=.seq its.toArray n}/\xs.length<=bp:=by
 obtain⟨z,its,n,r,e⟩:=I.hok p _ h;exact⟨its,n,r,e,z⟩
theorem NZ(lo hi:aS ag)(n:ai):(kH lo hi ao n).1=((HT.sIx n 0 lo:ai):ag)/\(kH lo hi ao n).2.1=((HT.sIx n n hi:ai):ag)/\(kH lo hi ao n).2.2=1:=by
 refine⟨?_,?_,rfl⟩
 .cases lo with
  |none=>simp[kH,HT.sIx]
  |some i=>
   simp only[kH,HT.sIx,yp,show(1:ag) > 0 by decide,cq];by_cases h:i<0
   .simp only[h,cq]<;>lia
   .simp only[h,ck]<;>lia
 .cases hi with
  |none=>simp[kH,HT.sIx]
  |some i=>
   simp only[kH,HT.sIx,yp,show(1:ag) > 0 by decide,cq];by_cases h:i<0
   .simp only[h,cq]<;>lia
   .simp only[h,ck]<;>lia
theorem G5(its:aa ap)(lo hi:aS ag):slicePick its.toArray lo hi ao=((its.drop (HT.sIx its.length 0 lo)).take (HT.sIx its.length its.length hi-HT.sIx its.length 0 lo)).toArray:=by
 obtain⟨h1,h2,h3⟩:=NZ lo hi its.toArray.size;unfold slicePick;rw[h1,h2,h3];simp only[sliceRange_one,pick_run,cg]<;>rfl
def aT8(K:b6):V->aS ag->aS ag->Hp->VK->Prop:=λx lo hi H Q=>∃a xs,x=.ref a/\SqL K H a xs/\∀p,H p=ao->Q (.ref p) (upd H p (.lst (aG0 xs lo hi)))
theorem aBa:SlR X (aT8 X.K):=by
 intro Ψ s σ H x v vl vu lo hi sl Q I rx hs pl pu h;obtain⟨a,xs,rfl,hx,q⟩:=h;cases rx;obtain⟨its,r,ht,hz⟩:=I.list hx;have hlen:=r.length;refine⟨"list",_,yo.lookup,ht.isList.typeIs,?_⟩;refine wpAny_getItem_list_slice ht.isList hs pl pu .none 0x2 ?_ (by rw[cg]<;>lia);rw[G5,<-hlen];refine⟨.ref s.heap.objs.size,_,I.laid (λb ob q=>cx _ q) (bi _) ?_,rfl,q _ (I.hok.fresh (bi _))⟩;exact⟨du (xW xs lo hi) hz,_,0,(r.drop (HT.sIx xs.length 0 lo)).take (HT.sIx xs.length xs.length hi-HT.sIx xs.length 0 lo),dt _ rfl⟩
theorem lF:lW X (.builtin "len") (λxs H Q=>∃p ys,xs=[.ref p]/\(SqL X.K H p ys\/SqT X.K H p ys)/\Q (.int ys.length) H):=by
 intro Ψ s σ H xs us Q I r h;obtain⟨p,ys,rfl,hq,q⟩:=h;obtain⟨u,rfl,rx⟩:=vals1 r;cases rx;have hn:=DX;rcases hq with hq|hq
 .obtain⟨its,r',pl,hz⟩:=I.list hq;have hlen:=r'.length;exact Calls.call_len_list pl.isList (by simp only[cg]<;>lia) ⟨.int ys.length,H,I.tok _,⟨s.toks+1,by rw[cg,hlen]⟩,q⟩
 .obtain⟨its,r',pl,hz⟩:=I.tuple hq;have hlen:=r'.length;exact len_tuple pl (by simp only[cg]<;>lia) ⟨.int ys.length,H,I.tok _,⟨s.toks+1,by rw[cg,hlen]⟩,q⟩
theorem N5:lW X (.builtin "len") (λxs H Q=>∃z,xs=[.str z]/\z.length<=bp/\Q (.int z.length) H):=by
 intro Ψ s σ H xs us Q I r h;obtain⟨z,rfl,hz,q⟩:=h;obtain⟨u,rfl,t,rfl⟩:=vals1 r;have hn:=DX;exact len_str 0x1 ⟨.int z.length,H,I.tok _,⟨_,rfl⟩,q⟩
theorem vR:lW X (.type "list") (λxs H Q=>∃p ys,xs=[.ref p]/\(SqL X.K H p ys\/SqT X.K H p ys)/\∀l,H l=ao->Q (.ref l) (upd H l (.lst ys))):=by
 intro Ψ s σ H xs us Q I r h;obtain⟨p,ys,rfl,hq,q⟩:=h;obtain⟨u,rfl,rx⟩:=vals1 r;cases rx;have fin:∀(its:aa ap),Vals ys its->ys.length<=bp->∀(h':br)(c':ai),(∀b o',s.heap.get? b=ae o'->h'.get? b=ae o')->
   h'.get? s.heap.objs.size=ae {cls:=.type "list",dict:=ao,data:=.seq its.toArray c',slots:=#[]}->EP X Ψ σ Q (.ref s.heap.objs.size) {s with heap:=h'}:=λits r' hz h' c' kp e=>
  ⟨.ref s.heap.objs.size,_,I.laid kp (bi _) (show lD X.prog X.w _ h' _ (.lst ys) from ⟨hz,its,c',r',e⟩),rfl,q _ (I.hok.fresh (bi _))⟩
 rcases hq with hq|hq
 .obtain⟨its,r',pl,hz⟩:=I.list hq;have hlen:=r'.length;obtain⟨o,ho,hc,n,hd⟩:=pl.isList;exact yq p (.inl rfl) ho hc hd (λh' c' kp e=>fin its r' hz h' c' kp e) (by simp only[cg]<;>lia)
 .obtain⟨its,r',pl,hz⟩:=I.tuple hq;have hlen:=r'.length;obtain⟨o,ho,hc,n,hd⟩:=pl;exact yq p (.inr rfl) ho hc hd (λh' c' kp e=>fin its r' hz h' c' kp e) (by simp only[cg]<;>lia)
def tQ:lW X (.type "tuple") (λxs H Q=>∃p ys,xs=[.ref p]/\((SqL X.K H p ys/\∀l,H l=ao->Q (.ref l) (upd H l (.tup ys)))\/(SqT X.K H p ys/\Q (.ref p) H))):=by
 intro Ψ s σ H xs us Q I r h;obtain⟨p,ys,rfl,h⟩:=h;obtain⟨u,rfl,rx⟩:=vals1 r;cases rx;rcases h with ⟨hq,q⟩|⟨hq,q⟩
 .obtain⟨its,r',pl,hz⟩:=I.list hq;have hlen:=r'.length;refine call_tuple_list pl.isList (λh' kp=>?_) (by simp only[cg]<;>lia);have I1:Inv X Ψ σ H {s with heap:=h'}:=I.kept kp;have I2:Inv X Ψ σ (upd H h'.objs.size (.tup ys)) {s with heap:=h'.push {cls:=.type "tuple",data:=.seq its.toArray}}:=
   I1.laid (λb o e=>cx _ e) (bi _) (show lD X.prog X.w _ _ _ (.tup ys) from ⟨hz,its,r',lE.new _ _⟩)
  exact⟨.ref h'.objs.size,_,I2,rfl,q _ (I1.hok.fresh (bi _))⟩
 .obtain⟨its,r',pl,hz⟩:=I.tuple hq;exact call_tuple_same pl ⟨.ref p,H,I,rfl,q⟩
def tyV(K:b6)(T:eM)(x:V)(H:Hp):Prop:=match x with
 |.str _=>T="str"
 |.int _=>T="int"
 |.ref p=>(T="list"/\∃xs,SqL K H p xs)\/(T="tuple"/\((∃o,K.lookup p=ae o/\o.cls=.type "tuple"/\o.dict=ao)\/∃xs,H p=ae (.tup xs)))\/
   (T="dict"/\((∃kvs,H p=ae (.dK kvs))\/∃kvs,H p=ae (.dT kvs)))\/(T="set"/\∃S n,H p=ae (.set S n))
 |_=>c9
def aI2(I:Inv X Ψ σ H s)(r:RelV x v)(ty:tyV X.K T x H) :
  s.TypeIs v T/\∀a,v=.ref a->∃ob,s.heap.get? a=ae ob/\ob.dict=ao:=by
 cases x with
 |str z=>
  obtain⟨t,rfl⟩:=r;cases (show T="str" from ty);exact⟨typeIs_str s z t,λ_ e=>nomatch e⟩
 |int i=>
  obtain⟨t,rfl⟩:=r;cases (show T="int" from ty);exact⟨typeIs_int s i t,λ_ e=>nomatch e⟩
 |ref p=>
  cases r;rcases ty with ⟨rfl,xs,hq⟩|⟨rfl,⟨o,hk,hc,hd⟩|⟨xs,hk⟩⟩|⟨rfl,hk⟩|⟨rfl,S,n,hk⟩
  .obtain⟨its,_,pl,_⟩:=I.list hq;refine⟨pl.isList.typeIs,λa e=>?_⟩;cases e;obtain⟨o,n,e,c,hd,_⟩:=pl;exact⟨o,e,hd⟩
  .refine⟨⟨o,I.kIn p o hk,hc⟩,λa e=>?_⟩;cases e;exact⟨o,I.kIn _ o hk,hd⟩
  .obtain⟨_,its,_,pl⟩:=I.hok p _ hk;refine⟨(lE.tup pl).typeIs,λa e=>?_⟩;cases e;exact lE.bare pl
  .have z:∃o,s.heap.get? p=ae o/\o.ExactDict:=by
    rcases hk with ⟨kvs,hk⟩|⟨kvs,hk⟩
    .obtain⟨_,_,_,_,o,_,_,e,ex,_⟩:=I.hok p _ hk;exact⟨o,e,ex⟩
    .obtain⟨_,_,_,_,o,_,_,e,ex,_⟩:=I.hok p _ hk;exact⟨o,e,ex⟩
   obtain⟨o,e,ex⟩:=z;refine⟨⟨o,e,ex.1⟩,λa e2=>?_⟩;cases e2;exact⟨o,e,ex.2.1⟩
  .obtain⟨o,_,_,_,e,ex,_⟩:=I.hok p _ hk;refine⟨⟨o,e,ex.1⟩,λa e2=>?_⟩;cases e2;exact⟨o,e,ex.2.1⟩
 |_=>exact fI ty
noncomputable def aT9(K:b6)(T:eM)(r:V->aa V->Hp->VK->Prop)(to:TE):TE:=λσ H Q=>to σ H λx H1=>tyV K T x H1/\r x [] H1 Q
noncomputable def tBM(K:b6)(T:eM)(r:V->aa V->Hp->VK->Prop)(to:TE)(t:TA):TE:=λσ H Q=>to σ H λx H1=>tyV K T x H1/\t σ H1 λxs H2=>r x xs H2 Q
variable {o e:Expr} {es:aa Expr} {to:TE} {t:TA} {name:Str} {apos cpos:de} {T id:eM} {r:V->aa V->Hp->VK->Prop}
theorem aNt(pa:PlainAttrs T)(slot:Slot T name id)(hty:lx (.builtin id)=pure (.type "method_descriptor"))(hm:MtR X id r)(ho:PE X o to)
 (hbase:autoParam (jz o name X.env (cK o X.env)=cK o X.env) Ω)(hline:autoParam ((apos.endLine==cpos.line)=af) Ω):PE X (.Call (.Attribute o name apos) [] [] cpos) (aT9 X.K T r to):=by
 intro Ψ s σ H Q I h;refine wpAny_Call_method0_late hbase hline (thn (ho Ψ s σ H _ I h) λv s1 ⟨x,H1,I1,r1,ty,q1⟩=>?_);obtain⟨h1,h2⟩:=aI2 I1 r1 ty;exact⟨T,id,pa,slot,hty,h1,h2,yr rfl (PySem.evalArgs_none (hm Ψ s1 σ H1 x [] v [] Q I1 r1 .nil q1))⟩
theorem aBb(pa:PlainAttrs T)(slot:Slot T name id)(hty:lx (.builtin id)=pure (.type "method_descriptor"))(hm:MtR X id r)(ho:PE X o to)(ha:PA X (e::es) t)
 (hbase:autoParam (jz o name X.env (cK o X.env)=cK o X.env) Ω)
 (hfew:autoParam (zFw X cpos (e::es)) Ω)
 (hline:autoParam ((apos.endLine==cpos.line)=af) Ω)(hs:autoParam (zSE X e es) Ω)(hplain:autoParam (zSP X cpos es) Ω) :
  PE X (.Call (.Attribute o name apos) (e::es) [] cpos) (tBM X.K T r to t):=by
 intro Ψ s σ H Q I h;refine wpAny_Call_method_late hbase hfew hline rfl (thn (ho Ψ s σ H _ I h) λv s1 ⟨x,H1,I1,r1,ty,q1⟩=>?_);obtain⟨h1,h2⟩:=aI2 I1 r1 ty;refine⟨T,id,pa,slot,hty,h1,h2,?_⟩;have hA:=ha cpos Ψ s1 σ H1 _ I1 q1;rw[hs] at hA ⊢;refine yr (by show(aj||(jq cpos (dQ es X.env)).any (·.1))=aj;rw[hplain]<;>rfl) (Calls.evalArgs_plain ?_);exact thn hA λus s2 ⟨vs,H2,I2,r2,q2⟩=>hm Ψ s2 σ H2 x vs v us Q I2 r1 r2 q2
end
def MtM(X:Cx)(id:eM)(r:V->aa V->Hp->VK->Prop):Prop:=
 ∀(Ψ:aa (aq×b9))(s:ay)(σ:St)(H:Hp)(x:V)(xs:aa V)(v:ap)(us:aa ap)(Q:VK),Inv X Ψ σ H s->RelV x v->Vals xs us->r x xs H Q->
  ϑ (az X.prog X.w) X.A (call (.builtin id) (v::us)) (EP X Ψ σ Q) X.xe s
def Vals.one:∀{x:V}{us:aa ap},Vals [x] us->∃u,us=[u]/\RelV x u
 |_,_,.cons r .nil=>⟨_,rfl,r⟩
def Vals.zero:∀{us:aa ap},Vals [] us->us=[]
 |_,.nil=>rfl
def Vals.dropLast(h:Vals xs us):Vals xs.dropLast us.dropLast:=by
 induction h with
 |nil=>exact .nil
 |cons r t ih=>
  cases t with
  |nil=>exact .nil
  |cons q t'=>exact .cons r ih
theorem ZS(l:aa α):l.eraseIdx (l.length-1)=l.dropLast:=by
 induction l with
 |nil=>rfl
 |cons a r ih=>
  cases r with
  |nil=>rfl
  |cons b r=>
   have e:(a::b::r).length-1=((b::r).length-1)+1:=by
    have h1:(a::b::r).length=r.length+2:=rfl;have h2:(b::r).length=r.length+1:=rfl;lia
   rw[e,List.eraseIdx_cons_succ,ih]
   all_goals rfl
section
theorem Inv.aNu{its its':aa ap}(I:Inv X Ψ σ H s)(hH:H l=ae (.lst xs))
 (e:s.heap.get? l=ae {cls:=.type "list",data:=.seq its.toArray n})(hf:f its.toArray=its'.toArray)(hv:Vals ys its')(hz:ys.length<=bp) :
  Inv X Ψ σ (upd H l (.lst ys)) {s with heap:=s.heap.update l (fu f),toks:=t'}:=by
 have q:=Cq e f;rw[hf] at q;refine I.write (by rw[hH];exact trivial) (.inl rfl) (λb' u hb hu=>(ly s.heap (fu f) (Ne.symm hb)).trans hu) ⟨_,q⟩ ?_;exact⟨hz,its',_,hv,q⟩
theorem Inv.aTa(I:Inv X Ψ σ H s)(hv:Vals ys its)(hz:ys.length<=bp) :
  Inv X Ψ σ (upd H s.heap.objs.size (.lst ys)) {s with heap:=s.heap.push {cls:=.type "list",data:=.seq its.toArray},toks:=t'}:=
 I.laid (λ_ _ q=>cx _ q) (bi _) ⟨hz,its,0,hv,dt _ rfl⟩
theorem Inv.fresh(I:Inv X Ψ σ H s):H s.heap.objs.size=ao:=I.hok.fresh (bi _)
theorem Inv.aMq(I:Inv X Ψ σ H s)(hH:H l=ae (.lst xs)):xs.length<=bp/\∃(its:aa ap)(n:ai),Vals xs its/\xs.length=its.length/\s.heap.get? l=ae {cls:=.type "list",data:=.seq its.toArray n}:=by
 obtain⟨z,its,n,r,e⟩:=I.hok l _ hH;exact⟨z,its,n,r,r.length,e⟩
theorem WW(h:n<=bp):nq n=aj:=by
 unfold nq;exact c8 0x1
end
section
variable {X:Cx}
def aJq:V->aa V->Hp->VK->Prop:=λx vs H Q=>∃l xs y,x=.ref l/\vs=[y]/\H l=ae (.lst xs)/\xs.length<bp/\Q .non (upd H l (.lst (xs++[y])))
theorem xY:MtM X "list.append" aJq:=by
 intro Ψ s σ H x vs v us Q I rx rv h;obtain⟨l,xs,y,rfl,rfl,hH,hz,q⟩:=h;cases rx;obtain⟨u,rfl,ru⟩:=rv.one;obtain⟨z,its,n,r,hl,e⟩:=I.aMq hH;refine jI uS ⟨_,e,rfl⟩ F.entry_list_append (F.args_list_append_2 _ _) (PySem.list_append l its.toArray n u (by rw[cg];lia)) ⟨e,?_⟩;refine⟨.non,_,I.aNu hH e 0x2 (r.append (.cons ru .nil)) ?_,rfl,q⟩;rw[cb,iO];lia
def aJr:V->aa V->Hp->VK->Prop:=λx vs H Q=>∃l b xs zs,x=.ref l/\vs=[.ref b]/\H l=ae (.lst xs)/\H b=ae (.lst zs)/\xs.length+zs.length<=bp/\Q .non (upd H l (.lst (xs++zs)))
theorem aBc:MtM X "list.extend" aJr:=by
 intro Ψ s σ H x vs v us Q I rx rv h;obtain⟨l,b,xs,zs,rfl,rfl,hH,hB,hz,q⟩:=h;cases rx;obtain⟨u,rfl,ru⟩:=rv.one;cases ru;obtain⟨z,its,n,r,hl,e⟩:=I.aMq hH;obtain⟨z2,its2,n2,r2,hl2,e2⟩:=I.aMq hB;have hsz:its.toArray.size+its2.toArray.size<=bp:=by rw[cg,cg];lia
 have hlong:¬(!its.toArray.isEmpty&&nq (its.toArray.size+its2.toArray.size))=af:=by
  rw[WW hsz,lz];exact mT
 refine jI qu ⟨_,e,rfl⟩ yt (yu _ _)
  (Cr l its.toArray n b its2.toArray n2 hlong (by rw[cg];lia) 0x1) ⟨e,e2,?_⟩
 refine⟨.non,_,I.aNu hH e 0x2 (r.append r2) ?_,rfl,q⟩;rw[cb];lia
def aTb:V->aa V->Hp->VK->Prop:=λx vs H Q=>∃l xs y,x=.ref l/\vs=[]/\H l=ae (.lst xs)/\xs[xs.length-1]?=ae y/\Q y (upd H l (.lst xs.dropLast))
theorem aNv:MtM X "list.pop" aTb:=by
 intro Ψ s σ H x vs v us Q I rx rv h;obtain⟨l,xs,y,rfl,rfl,hH,hy,q⟩:=h;cases rx;have hus:=rv.zero;subst hus;obtain⟨z,its,n,r,hl,e⟩:=I.aMq hH;obtain⟨u,hu,ru⟩:=r.get hy;have hy':its.toArray[its.toArray.size-1]?=ae u:=by
  show its.toArray[its.length-1]?=ae u;rw[<-iu,<-hl];exact hu
 refine jI yw ⟨_,e,rfl⟩ F.entry_list_pop (F.args_list_pop_1 _) (Ct l its.toArray n u hy' (by rw[cg];lia)) ⟨e,?_⟩;refine⟨y,_,I.aNu hH e ?_ r.dropLast ?_,ru,q⟩
 .show its.toArray.eraseIdxIfInBounds (its.toArray.size-1)=its.dropLast.toArray;rw[cg,List.eraseIdxIfInBounds_toArray,ZS]
 .rw[List.length_dropLast];lia
end
section
variable {κ:Type} [fy κ]
noncomputable def tK(kvs:aa (κ×V))(k:κ):aS V:=(kvs.find? λkv=>ϒ (kv.1=k)).map (·.2)
noncomputable def putK(kvs:aa (κ×V))(k:κ)(v:V):aa (κ×V):=
 if (kvs.any λkv=>ϒ (kv.1=k))=af then kvs.map (λkv=>if kv.1=k then (kv.1,v) else kv) else kvs++[(k,v)]
def tR{k:κ}(e:p.1=k):tK (p::r) k=ae p.2:=by simp[tK,iP,e]
def tU{k:κ}(e:¬p.1=k):tK (p::r) k=tK r k:=by simp[tK,iP,e]
def tV(k:κ):∀kvs:aa (κ×V),(kvs.any λkv=>ϒ (kv.1=k))=(tK kvs k).isSome
 |[]=>rfl
 |p::r=>by
  rw[kK];by_cases e:p.1=k
  .simp only[tR e,cm e,yx,u7]
  .rw[tU e,c8 e,nr];exact tV k r
theorem rQ(kvs:aa (κ×V))(k:κ)(v:V):(putK kvs k v).length<=kvs.length+1:=by
 unfold putK;split
 .rw[aI];lia
 .rw[cb,cr,e9];lia
theorem G6{k:κ}(v:V)(h:tK kvs k=ao):putK kvs k v=kvs++[(k,v)]:=by
 unfold putK;rw[tV,h];exact aw 0x4
def aFk.oA(r:aFk o u):o.isSome=u.isSome:=by
 cases o with
 |none=>cases u with
  |none=>rfl
  |some _=>exact(show c9 from r).elim
 |some _=>cases u with
  |none=>exact(show c9 from r).elim
  |some _=>rfl
theorem KV.val(r:KV kvs vs)(k:κ):aFk (tK kvs k) (lI vs k):=by
 unfold KV at r;induction r with
 |nil=>exact True.intro
 |@cons p q ps qs h t ih=>
  obtain⟨h1,h2⟩:=h;by_cases e:p.1=k
  .have e':q.1=k:=h1.symm.trans e;have b:lI (q::qs) k=ae q.2:=by simp[lI,iP,e']
   rw[tR e,b];exact h2
  .have e':¬q.1=k:=λz=>e (h1.trans z)
   have b:lI (q::qs) k=lI qs k:=by simp[lI,iP,e']
   rw[tU e,b];exact ih
theorem KV.any(r:KV kvs vs)(k:κ):(kvs.any λkv=>ϒ (kv.1=k))=vs.any λkv=>ϒ (kv.1=k):=by
 unfold KV at r;induction r with
 |nil=>rfl
 |cons h t ih=>rw[kK,kK,ih,h.1]
theorem KV.repl(r:KV kvs vs)(k:κ)(ry:RelV y u) :
  KV (kvs.map λkv=>if kv.1=k then (kv.1,y) else kv) (vs.map λkv=>if kv.1=k then (kv.1,u) else kv):=by
 unfold KV at r ⊢;induction r with
 |nil=>exact .nil
 |@cons p q ps qs h t ih=>
  rw[bj,bj];refine .cons ?_ ih;obtain⟨h1,h2⟩:=h;by_cases e:p.1=k
  .rw[av e,av (h1.symm.trans e)];exact⟨h1,ry⟩
  .rw[aw e,aw (λz=>e (h1.trans z))];exact⟨h1,h2⟩
theorem KV.put(r:KV kvs vs)(k:κ)(ry:RelV y u):KV (putK kvs k y) (lP vs k u):=by
 unfold putK lP;rw[r.any k];by_cases e:(vs.any λkv=>ϒ (kv.1=k))=af
 .rw[av e,av e];exact r.repl k ry
 .rw[aw e,aw e];exact yy r ⟨rfl,ry⟩
theorem KV.length(r:KV kvs vs):kvs.length=vs.length:=lg r
end
theorem N6(r:RelV (kV k) u):(dM P w).is k u=af:=by
 cases k with
 |inl i=>obtain⟨t,e⟩:=(show ∃t,u=ti i t from r);subst e;exact SX P w i t
 |inr x=>obtain⟨t,e⟩:=(show ∃t,u=tj x t from r);subst e;exact S5 P w x t
theorem N7:∀{ks:aa Key}{us:aa ap},Vals (ks.map kV) us->ItemsAre (dM P w) ks us
 |[],_,r=>by rw[je] at r;cases r;exact .nil
 |k::ks,_,r=>by
  rw[bj] at r;cases r with
  |cons h t=>exact .cons (N6 h) (N7 t)
abbrev KT(H:Hp):aa (aa Key×V)->aa (aa Key×aq×ap)->Prop:=kx λp q=>p.1=q.1/\H q.2.1=ae (.tup (p.1.map kV))/\RelV p.2 q.2.2
theorem KT.val(r:KT H kvs xs)(k:aa Key):aFk (tK kvs k) ((jS xs k).map (·.2)):=by
 induction r with
 |nil=>exact True.intro
 |@cons p q ps qs h t ih=>
  obtain⟨h1,_,h2⟩:=h;by_cases e:p.1=k
  .have e':q.1=k:=h1.symm.trans e;have b:jS (q::qs) k=ae q.2:=by simp[jS,iP,e']
   rw[tR e,b];exact h2
  .have e':¬q.1=k:=λz=>e (h1.trans z)
   have b:jS (q::qs) k=jS qs k:=by simp[jS,iP,e']
   rw[tU e,b];exact ih
theorem KT.repl(r:KT H kvs xs)(k:aa Key)(ry:RelV y u) :
  KT H (kvs.map λkv=>if kv.1=k then (kv.1,y) else kv) (xs.map (putAt k u)):=by
 induction r with
 |nil=>exact .nil
 |@cons p q ps qs h t ih=>
  rw[bj,bj];refine .cons ?_ ih;obtain⟨h1,h2,h3⟩:=h;unfold putAt;by_cases e:p.1=k
  .rw[av e,av (h1.symm.trans e)];exact⟨h1,h2,ry⟩
  .rw[aw e,aw (λz=>e (h1.trans z))];exact⟨h1,h2,h3⟩
theorem KT.put(r:KT H kvs xs)(k:aa Key)(hb:H b=ae (.tup (k.map kV)))(ry:RelV y u) :
  KT H (putK kvs k y) (storedH xs k b u):=by
 have e:(kvs.any λkv=>ϒ (kv.1=k))=(jS xs k).isSome:=by
  rw[tV,(r.val k).oA,va]
 unfold putK storedH;rw[e];by_cases q:(jS xs k).isSome=af
 .rw[av q,av q];exact r.repl k ry
 .rw[aw q,aw q];exact yy r ⟨rfl,hb,ry⟩
theorem KT.keeps(r:KT H kvs xs)(ht:∀b ys,H b=ae (.tup ys)->H' b=ae (.tup ys)):KT H' kvs xs:=
 Paired.aQl r λ_ _ z=>⟨z.1,ht _ _ z.2.1,z.2.2⟩
section
variable {a:aq}
def aNw(ok:HOk P w H h)(e:Rd H a u):lD P w H h a u:=e.ok ok
def aBd(ok:HOk P w H h)(e:Rd H a (.dK kvs)):kvs.length<=bp/\(a==fA)=aj/\∃vs,KV kvs vs/\h.DictOf (dM P w) a vs:=
 show lD P w H h a (.dK kvs) from aNw ok e
def ZV(ok:HOk P w H h)(e:H a=ae (.dK kvs)):kvs.length<=bp/\(a==fA)=aj/\∃vs,KV kvs vs/\h.DictOf (dM P w) a vs:=aBd ok (.inl e)
theorem N8(ok:HOk P w H h)(e:H a=ae (.tup (ks.map kV))):(lh (dM P w)).is h ks a:=by
 obtain⟨_,its,r,o,h1,h2,n,h3⟩:=(show lD P w H h a (.tup (ks.map kV)) from ok a _ e)
 exact⟨o,its.toArray,n,h1,h2,cz (·.1) h3,by simpa using N7 r⟩
def aBe(ok:HOk P w H h)(e:Rd H a (.dT kvs)):kvs.length<=bp/\(a==fA)=aj/\
  ∃xs,KT H kvs xs/\h.DictOfH (lh (dM P w)) a xs:=by
 obtain⟨z,y,xs,r,o,es,ep,h1,h2,h3,h4,h5⟩:=(show lD P w H h a (.dT kvs) from aNw ok e)
 refine⟨z,y,xs,r,o,es,ep,h1,h2,h3,h4,λx hx=>?_,h5⟩;have all:∀{l:aa (aa Key×V)}{m:aa (aa Key×aq×ap)},KT H l m->∀x∈m,(lh (dM P w)).is h x.1 x.2.1:=by
  intro l m q;induction q with
  |nil=>intro x hx;exact nomatch hx
  |@cons p q ps qs hq t ih=>
   intro x hx;rcases bq.mp hx with e|hx
   .subst e;exact N8 ok (by rw[<-hq.1];exact hq.2.1)
   .exact ih x hx
 exact all r x hx
def aG1(ok:HOk P w H h)(e:H a=ae (.dT kvs)):kvs.length<=bp/\(a==fA)=aj/\
  ∃xs,KT H kvs xs/\h.DictOfH (lh (dM P w)) a xs:=aBe ok (.inl e)
end
def aAr(H:Hp)(a:aq)(y:V)(r:aS V):Prop:=
 (∃kvs k,Rd H a (.dK kvs)/\y=kV k/\r=tK kvs k)\/∃kvs k b,Rd H a (.dT kvs)/\y=.ref b/\H b=ae (.tup (k.map kV))/\r=tK kvs k
def aG2(H:Hp)(a:aq)(y v:V)(H':Hp):Prop:=
 (∃kvs k,H a=ae (.dK kvs)/\y=kV k/\kvs.length<bp/\H'=upd H a (.dK (putK kvs k v)))\/
 ∃kvs k b,H a=ae (.dT kvs)/\y=.ref b/\H b=ae (.tup (k.map kV))/\kvs.length<bp/\H'=upd H a (.dT (putK kvs k v))
def aAr.k{k:Key}(e:H a=ae (.dK kvs)):aAr H a (kV k) (tK kvs k):=.inl ⟨kvs,k,.inl e,rfl,rfl⟩
def aAr.t{k:aa Key}(e:H a=ae (.dT kvs))(eb:H b=ae (.tup (k.map kV))):aAr H a (.ref b) (tK kvs k):=.inr ⟨kvs,k,b,.inl e,rfl,eb,rfl⟩
def aG2.k{k:Key}{v:V}(e:H a=ae (.dK kvs))(hl:kvs.length<bp):aG2 H a (kV k) v (upd H a (.dK (putK kvs k v))):=.inl ⟨kvs,k,e,rfl,hl,rfl⟩
def aG2.t{H:Hp}{a b:aq}{kvs:aa (aa Key×V)}{k:aa Key}{v:V}(e:H a=ae (.dT kvs))(eb:H b=ae (.tup (k.map kV)))(hl:kvs.length<bp) :
  aG2 H a (.ref b) v (upd H a (.dT (putK kvs k v))):=.inr ⟨kvs,k,b,e,rfl,eb,hl,rfl⟩
section
variable {a:aq} {y v:V}
theorem Inv.big(I:Inv X Ψ σ H s):fA<s.heap.objs.size:=by
 have h:eT<s.heap.objs.size:=(I.mod.glob.keeps I.bk).lt;exact Nat.lt_trans 0x4 h
def aBf(hu:A.units+1<bE)(I:Inv X Ψ σ H s)(g:aAr H a y (ae v))(ry:RelV y u)(h:∀w' s',Inv X Ψ σ H s'->RelV v w'->Q w' s') :
  ϑ (az X.prog X.w) A (kG (.ref a) u) Q E s:=by
 rcases g with ⟨kvs,k,e,ey,l⟩|⟨kvs,k,b,e,ey,eb,l⟩
 .subst ey;obtain⟨z,hd,vs,rel,dd⟩:=aBd I.hok e;obtain⟨w',hw,rw'⟩:=aFk.some_of (by rw[l];exact rel.val k);exact wpAny_getItem_of (N6 ry) dd.mapOf hw (h w' _ (I.tok _) rw')
 .subst ey;cases (show u=gu b from ry);obtain⟨z,hd,xs,rel,dd⟩:=aBe I.hok e;obtain⟨w',hw,rw'⟩:=aFk.some_of (by rw[l];exact rel.val k);obtain⟨p,hp,hp2⟩:=lS.mp hw;refine wpAny_getItem_heap (qv hu) (N8 I.hok eb) dd hp ?_;rw[hp2];exact h w' _ (I.tok _) rw'
def aTc(hu:A.units+1<bE)(I:Inv X Ψ σ H s)(g:aAr H a y o)(ry:RelV y u)(h:∀s',Inv X Ψ σ H s'->Q (.bool o.isSome) s') :
  ϑ (az X.prog X.w) A (dy .In u (.ref a)) Q E s:=by
 rcases g with ⟨kvs,k,e,ey,l⟩|⟨kvs,k,b,e,ey,eb,l⟩
 .subst ey;obtain⟨z,hd,vs,rel,dd⟩:=aBd I.hok e;refine wpAny_in_of (N6 ry) hd dd.mapOf ?_;rw[<-(rel.val k).oA,<-l];exact h _ (I.tok _)
 .subst ey;cases (show u=gu b from ry);obtain⟨z,hd,xs,rel,dd⟩:=aBe I.hok e;refine wpAny_in_heap (qv hu) (N8 I.hok eb) hd dd ?_;have q:=(rel.val k).oA;rw[va] at q;rw[<-q,<-l];exact h _ (I.tok _)
def aJs(hu:A.units+1<bE)(I:Inv X Ψ σ H s)(g:aAr H a y o)(ry:RelV y u)(h:∀s',Inv X Ψ σ H s'->Q (.bool (!o.isSome)) s') :
  ϑ (az X.prog X.w) A (dy .NotIn u (.ref a)) Q E s:=by
 rcases g with ⟨kvs,k,e,ey,l⟩|⟨kvs,k,b,e,ey,eb,l⟩
 .subst ey;obtain⟨z,hd,vs,rel,dd⟩:=aBd I.hok e;refine wpAny_notIn_of (N6 ry) hd dd.mapOf ?_;rw[<-(rel.val k).oA,<-l];exact h _ (I.tok _)
 .subst ey;cases (show u=gu b from ry);obtain⟨z,hd,xs,rel,dd⟩:=aBe I.hok e;refine wpAny_notIn_heap (qv hu) (N8 I.hok eb) hd dd ?_;have q:=(rel.val k).oA;rw[va] at q;rw[<-q,<-l];exact h _ (I.tok _)
def S9(I:Inv X Ψ σ H s)(mu:Mut (H a))(hs:li a s.heap h')(he:∃q,h'.get? a=ae q)(new:lD X.prog X.w (upd H a ob) h' a ob) :
  Inv X Ψ σ (upd H a ob) {s with heap:=h',toks:=t'}:=
 I.write mu (.inl rfl) (λb q hb z=>(hs.2 b hb).trans z) he new
def aBg(z:kvs.length<=bp)(hd:(a==fA)=aj)(rel:KV kvs vs)(dd:h'.DictOf (dM P w) a vs) :
  lD P w H' h' a (.dK kvs):=⟨z,hd,vs,rel,dd⟩
theorem N_(hu:A.units+1<bE)(I:Inv X Ψ σ H s)(g:aG2 H a y v H')(ry:RelV y u)(rv:RelV v r)(h:∀s',Inv X Ψ σ H' s'->Q () s') :
  ϑ (az X.prog X.w) A (setItem (.ref a) u r) Q E s:=by
 rcases g with ⟨kvs,k,e,ey,l,eH⟩|⟨kvs,k,b,e,ey,eb,l,eH⟩
 .subst ey eH;obtain⟨z,hd,vs,rel,dd⟩:=ZV I.hok e;have hz:vs.length<=bp:=by rw[<-rel.length];exact z
  have hl:(putK kvs k v).length<=bp:=by have:=rQ kvs k v;lia
  refine wpAny_setItem_pairs (N6 ry) dd λh' dd' hs=>h _ ?_
  have he:∃q,h'.get? a=ae q:=let ⟨q,_,_,hq,_⟩:=dd';⟨q,hq⟩
  exact S9 I (by rw[e];exact True.intro) hs he (aBg hl hd (rel.put k rv) dd')
 .subst ey eH;cases (show u=gu b from ry);obtain⟨z,hd,xs,rel,dd⟩:=aG1 I.hok e;have hz:xs.length<=bp:=by rw[<-lg rel];exact z
  have hl:(putK kvs k v).length<=bp:=by have:=rQ kvs k v;lia
  refine wpAny_setItem_heap (qv hu) (N8 I.hok eb) dd λh' dd' hs=>h _ ?_
  obtain⟨q,es,ep,hq,h2,h3,h4,_,h5⟩:=dd';refine S9 I (by rw[e];exact True.intro) hs ⟨q,hq⟩ ⟨hl,hd,_,(rel.put k eb rv).keeps λc ys ec=>?_,q,es,ep,hq,h2,h3,h4,h5⟩;rw[bA (aJ7 ec e (λz=>nomatch z))];exact ec
end
def S_(I:Inv X Ψ σ H s)(g:aAr H a y o):s.TypeIs (.ref a) "dict":=by
 rcases g with ⟨kvs,k,e,_,_⟩|⟨kvs,k,b,e,_,_,_⟩
 .obtain⟨_,_,vs,_,dd⟩:=aBd I.hok e;exact dd.typeIs
 .obtain⟨_,_,xs,_,dd⟩:=aBe I.hok e;exact dd.typeIs
def WX(h:br)(hb:fA<h.objs.size):lD P w H (h.push {cls:=.type "dict",data:=.dict #[]}) h.objs.size (.dK []):=
 ⟨fo _,tm.mpr (Ne.symm (di hb)),[],.nil,yz h⟩
def aNx:TE:=λ_ H Q=>∀p,H p=ao->Q (.ref p) (upd H p (.dK []))
section
def WY:PE X (.Dict [] [] pos) aNx:=λΨ s σ H Q I h=>
 wpAny_Dict_empty ⟨.ref s.heap.objs.size,_,I.laid (λ_ _ q=>cx _ q) (bi _) (WX s.heap I.big),rfl,h _ (I.hok.fresh (bi _))⟩
end
def aBh:aa (TE×TE)->St->Hp->(aa (V×V)->Hp->Prop)->Prop
 |[],_,H,Q=>Q [] H
 | (tk,tv)::r,σ,H,Q=>tk σ H λx H1=>tv σ H1 λy H2=>aBh r σ H2 λps H3=>Q ((x,y)::ps) H3
abbrev VV:aa (V×V)->aa (ap×ap)->Prop:=kx λp q=>RelV p.1 q.1/\RelV p.2 q.2
def PPs(X:Cx)(pos:de)(keys:aa (aS Expr))(values:aa Expr)(trs:aa (TE×TE)):Prop:=
 ∀(Ψ:aa (aq×b9))(s:ay)(σ:St)(H:Hp)(Q:aa (V×V)->Hp->Prop),Inv X Ψ σ H s->aBh trs σ H Q->
  ϑ (az X.prog X.w) X.A (evalPairs (pairTrees keys values X.env pos)) (λvs s'=>∃ps H',Inv X Ψ σ H' s'/\VV ps vs/\Q ps H') X.xe s
def aBi:PPs X pos [] [] []:=λΨ s σ H Q I h=>pairTrees_nil_walk ⟨[],H,I,.nil,h⟩
theorem G7(hk:PE X k tk)(hv:PE X v tv)(hr:PPs X pos ks vs trs) :
  PPs X pos (ae k::ks) (v::vs) ((tk,tv)::trs):=λΨ s σ H Q I h=>
 pairTrees_cons_walk (thn (hk Ψ s σ H _ I h) λu s1 ⟨x,H1,I1,rx,q1⟩=>thn (hv Ψ s1 σ H1 _ I1 q1) λw2 s2 ⟨y,H2,I2,ry,q2⟩=>
  thn (hr Ψ s2 σ H2 _ I2 q2) λws s3 ⟨ps,H3,I3,rel,q3⟩=>⟨(x,y)::ps,H3,I3,.cons ⟨rx,ry⟩ rel,q3⟩)
def gQ(kvs more:aa (Key×V)):aa (Key×V):=more.foldl (λacc kv=>putK acc kv.1 kv.2) kvs
theorem KV.merge:∀{more:aa (Key×V)}{rs:aa (Key×ap)}{kvs:aa (Key×V)}{vs:aa (Key×ap)},KV more rs->KV kvs vs->KV (gQ kvs more) (qw vs rs):=by
 intro more rs kvs vs r;unfold KV at r;induction r generalizing kvs vs with
 |nil=>intro q;exact q
 |@cons p q ps qs h t ih=>
  intro r0;have e:KV (putK kvs p.1 p.2) (lP vs q.1 q.2):=by
   have:=r0.put p.1 h.2;rw[<-h.1];exact this
  exact ih e
theorem mU:∀(more kvs:aa (Key×V)),(gQ kvs more).length<=kvs.length+more.length
 |[],kvs=>by show kvs.length<=kvs.length+0;lia
 |p::r,kvs=>by
  have h1:=mU r (putK kvs p.1 p.2);have h2:=rQ kvs p.1 p.2;show(gQ (putK kvs p.1 p.2) r).length<=_;rw[cr];lia
theorem D_:∀{kvs:aa (Key×V)}{ws:aa (ap×ap)},VV (kvs.map λkv=>(kV kv.1,kv.2)) ws->∃rs,Carries (dM P w) ws rs/\KV kvs rs
 |[],_,r=>by rw[je] at r;cases r;exact⟨[],True.intro,.nil⟩
 |p::kvs,_,r=>by
  rw[bj] at r;cases r with
  |@cons a b as bs h t=>
   obtain⟨rs,c,q⟩:=D_ t;obtain⟨b1,b2⟩:=b;exact⟨(p.1,b2)::rs,⟨N6 h.1,rfl,c⟩,.cons ⟨rfl,h.2⟩ q⟩
def aR3(trs:aa (TE×TE)):TE:=λσ H Q=>∀p,H p=ao->aBh trs σ (upd H p (.dK [])) λps H2=>H2 p=ae (.dK [])/\∃kvs:aa (Key×V),ps=kvs.map (λkv=>(kV kv.1,kv.2))/\kvs.length<=15/\Q (.ref p) (upd H2 p (.dK (gQ [] kvs)))
theorem aBj(h:PPs X pos keys values trs)(hall:keys.all (·.isSome)=af)(hl:keys.length=values.length)(h0:keys≠[])
 (h15:keys.length<=15):PE X (.Dict keys values pos) (aR3 trs):=by
 intro Ψ s σ H Q I q;have hn:=I.hok.fresh (bi s.heap.objs.size);have I1:=I.laid (t':=s.toks) (λ_ _ q=>cx _ q) (bi _) (WX s.heap I.big);refine wpAny_Dict_walk (knd:=dM X.prog X.w) hall hl h0 h15 (thn (h Ψ _ σ _ _ I1 (q _ hn)) λws s2 ⟨ps,H2,I2,rel,e,kvs,ep,lk,q2⟩=>?_);subst ep;obtain⟨rs,c,rk⟩:=D_ (P:=X.prog) (w:=X.w) rel;obtain⟨z,hd,vs0,r0,dd⟩:=ZV I2.hok e;cases r0;refine⟨rs,c,dd,λh' dd' hs=>⟨.ref s.heap.objs.size,_,?_,rfl,q2⟩⟩;have hz:(gQ [] kvs).length<=bp:=by
  have h1:=mU kvs [];rw[e9] at h1;rw[e8];lia
 have he:∃q,h'.get? s.heap.objs.size=ae q:=let ⟨q,_,_,hq,_⟩:=dd';⟨q,hq⟩
 exact S9 I2 (by rw[e];exact True.intro) hs he (aBg hz hd (rk.merge .nil) dd')
end L2
namespace Att
open PySem PySem.W PySem.Calls PyProof.Rows
theorem xZ:∀(ns:aa ag)(vs:aa ap),WellAll P h vs (ns.map yA)->nt vs ns:=by
 intro ns;induction ns with
 |nil=>
  intro vs w;rw[je] at w;cases w;exact .nil
 |cons n ns ih=>
  intro vs w;rw[bj] at w;cases w with
  |cons a b=>
   cases a;exact .cons _ _ (ih _ b)
theorem aBk{l:OpenLaw}(hn:l.most=ae n)
 (hpre:l.row.toRowW.claim.pre args=af)(hwl:WellAll P h vals args) :
  ∃a vs ns,vals=[gu a]/\args=[WData.list (ns.map yA)]/\h.get? a=ae {cls:=.type "list",data:=.seq vs.toArray}/\nt vs ns/\ns.length<=n:=by
 have hsh:WShape.hasAll [] args [.list .int]=af:=(pre_splitW hpre).1;have hc:l.pre.holds [] {args:=args}=af:=(pre_splitW hpre).2;obtain⟨d,r,rfl,h1,h2⟩:=hasAllW_cons hsh;obtain rfl:=hasAllW_nil h2;obtain⟨xs,rfl,h3⟩:=hasW_list h1;obtain⟨ns,rfl⟩:=items_int h3;have hlen:ns.length<=n:=by
  unfold OpenLaw.pre at hc;have h4:(WTm.not (.lt (.lit (.int (n:ag))) (.len (.arg 0)))).holds [] {args:=[.list (ns.map .int)]}=af:=by
   have h4:=(holds_andW hc).1;rw[hn] at h4;exact h4
  have h5:=condW_of h4 (w_not (w_lt w_lit (w_len_list (w_arg rfl))));rw[aI] at h5;refine Nat.le_of_not_lt λq=>?_
  have q':(n:ag)<((ns.length:ai):ag):=by lia
  first
   | (rw[cm q'] at h5;exact bg h5 0x4)
   | (simp at h5;lia)
 cases hwl with
 |cons w1 w2=>
  cases w2;cases w1 with
  |list ho hall=>exact⟨_,_,ns,rfl,rfl,ho,xZ ns _ hall,hlen⟩
theorem aBl(l:OpenLaw)(args:aa WData):l.row.toRowW.claim.post args (.bool af) args=af:=
 postW_of
  (show yB [] (.bool af) .bool=af by first|rfl|decide|simp[yB,WShape.arms,WShape.armsAll])
  (show(WTm.eq .res (.lit (.bool af))).value [] {args:=args,res:=ae (.bool af),after:=args}=ae (.bool (af==af)) from w_eq_bool (w_res rfl) w_lit) rfl
theorem TF{l:OpenLaw}
 (hn:l.most=ae n)(hdf:d.params.defaults=[])
 (call:∀(w:bS) (s₀ s₁:ay) (mg mb:Str->aS ap) (fa:aq) (o:b9) (pm cd doc:ap) (a:aq) (vs:aa ap) (ns:aa ag),
   Ground q loose [] XP w s₀ mg mb s₁.heap->YP w s₁.heap->
   s₁.heap.get? fa=ae o->o.data=.func (docDef d.name d.params d.body d.scope pm cd doc)->s₁.heap.CodeRec cd d.name->mg d.name=ae (.ref fa)->
   s₁.heap.get? a=ae {cls:=.type "list",data:=.seq vs.toArray}->nt vs ns->ns.length<=n->s₁.gens=#[]->
   codeAny (az l.prog w) kM (.call (.ref fa) ⟨[.ref a],[]⟩) (λr s'=>r=.ok (.ret (.bool af))/\OldK s₁.heap s'.heap/\s'.os=s₁.os/\jr s'.gens) s₁) :
  WalkO q loose XP YP l.row.toRowW d [] (λf vs=>vb f vs):=by
 intro w s₀ s₁ mg mb G Y fa o pm cd doc dV kV ho hd hcd hD hmg hg args vals as hpre hlay hrd hwl hlo;obtain rfl:dV=.none:=Dflts.none hD hdf;obtain rfl:kV=.none:=Dflts.noKw hD;obtain⟨a,vs,ns,rfl,rfl,hobj,hints,hlen⟩:=aBk hn hpre hwl;refine enter_call (lq (call w s₀ s₁ mg mb fa o pm cd doc a vs ns G Y ho (fd_plain hd) hcd hmg hobj hints hlen hg) λr s' hq=>?_);obtain⟨rfl,h2,h3,h4⟩:=hq;exact⟨.inl ⟨.bool af,.bool af,[],rfl,λ_=>rfl,.bool af,aBl l _,λ_=>⟨Cu,λ_ hm=>(nomatch hm)⟩⟩,h2,h3,h4⟩
end Att
namespace L2
open PySem PySem.Spec PyProof.Rows
theorem OD:∀{vs:aa ap}{ns:aa ag},nt vs ns->Vals (ns.map V.int) vs
 |_,_,.nil=>.nil
 |_,_,.cons n t h=>.cons ⟨t,rfl⟩ (OD h)
def Only(H:Hp):Prop:=∀b,H b=ao\/∃o xs,H b=ae (.frz o (.lst xs))
theorem aG3{K:b6}{mg mb:Str->aS ap}{CX:CXT}{k:ai}{fa a:aq}{fd:gd}{x:Str}{sp:Sp}{s₁:ay}{vs:aa ap}{ns:aa ag}
 (KX:K.In s₁.heap)(hns:s₁.heap.Ns eT mg)(hb:s₁.heap.Ns tu mb)(hbb:∀x:Str,x ≠ "__name__"->mb x=eR x)(hlim:s₁.heap.NoLimit)(hg:s₁.gens=#[])
 (ha:s₁.heap.get? a=ae {cls:=.type "list",data:=.seq vs.toArray})(hi:nt vs ns)(hl:ns.length<=bp)(hr:wK k kM)
 (F:∀base:br,K.In base->base.Ns eT mg->ZP P w K mg base CX k fa fd [x] sp)(hbind:∀(s:ay) (u:ap),lp s fd ⟨[u],[]⟩ [(x,u)])
 (hsp:∀H:Hp,Only H->SqL K H a (ns.map V.int)->sp [.ref a] H (λv _=>v=.bl af) λ_ _ _=>c9)
 (hCX:∀H e s',CX [] H s₁ (λ_ _ _=>c9) e s'->c9) :
  codeAny (az P w) kM (.call (.ref fa) ⟨[.ref a],[]⟩) (λr s'=>r=.ok (.ret (.bool af))/\OldK s₁.heap s'.heap/\s'.os=s₁.os/\jr s'.gens) s₁:=by
 have rv:=OD hi;have lenV:=hi.length
 -- from an abstract heap in which nothing but the script may be tracked
 have core:∀H:Hp,Only H->SqL K H a (ns.map V.int)->HOk P w H s₁.heap->(∀b,H b≠ao->b=a)->(H a≠ao->K.lookup a=ao)->
   codeAny (az P w) kM (.call (.ref fa) ⟨[.ref a],[]⟩) (λr s'=>r=.ok (.ret (.bool af))/\OldK s₁.heap s'.heap/\s'.os=s₁.os/\jr s'.gens) s₁:=by
  intro H hO hS hok hA hK;have base_of:∀{b:aq}{o:b9},s₁.heap.get? b=ae o->H b=ao->(aFs s₁.heap H).get? b=ae o:=λe n=>aFt e n
  have noA:∀{b:aq}{o:b9}{es:ba nu}{ep:ai},s₁.heap.get? b=ae o->o.data=.dict es ep->H b=ao:=λ{b o es ep} e d=>by
   cases q:H b with
   |none=>rfl
   |some u=>
    have e':b=a:=hA b (by rw[q];simp);subst e';rw[ha] at e;cases e;have d':xq vs.toArray _=Data.dict es ep:=d;cases d'
  have nsK:∀{b:aq}{m:Str->aS ap},s₁.heap.Ns b m->(aFs s₁.heap H).Ns b m:=λ{b m} ⟨o,es,ep,e,d,r⟩=>⟨o,es,ep,base_of e (noA e d),d,r⟩
  have hKb:K.In (aFs s₁.heap H):=λb o e=>base_of (KX b o e) (by
   cases q:H b with
   |none=>rfl
   |some u=>
    have e':b=a:=hA b (by rw[q];simp);subst e';rw[hK (by rw[q];simp)] at e;cases e)
  have hM:Mod K mg (aFs s₁.heap H):=⟨hKb,nsK hns,⟨mb,nsK hb,hbb⟩,let ⟨mc,h1,h2⟩:=hlim;⟨mc,nsK h1,h2⟩⟩
  have e0:aQ9 P w K mg (aFs s₁.heap H) kM [] s₁ H:=⟨rfl,hM,λb o e=>aJ8 e,qx (aAw _ _),trivial,λb hb=>bg (show b∈([]:aa aq) from hb) 0x2,hok,.of_eq hg⟩
  refine lq ((F _ hKb (nsK hns)).run kM [] s₁ H ⟨[.ref a],[]⟩ [.ref a] [.ref a] _ _ hr e0 (hbind s₁ (.ref a)) (.cons rfl .nil) (hsp H hO hS)) λr s' h=>?_
  cases r with
  |error e=>exact(hCX H e s' h).elim
  |ok fl=>
   cases fl with
   |next=>exact fI h
   |brk=>exact fI h
   |cont=>exact fI h
   |ret u=>
    obtain⟨v,H',os,bare,un,hok',r',q⟩:=h;have q':v=.bl af:=q;subst q';obtain rfl:u=ox af:=r';refine⟨rfl,OldK.of_keep λb o e=>?_,os,bare⟩;cases q:H b with
    |none=>exact un.keep b o e q (by intro z;exact bg (show b∈([]:aa aq) from z) 0x2) 0x2
    |some u=>
     rcases hO b with z|⟨ob,xs,z⟩
     .rw[q] at z;cases z
     .have z2:=un.frzs b ob _ z;obtain⟨e1,_⟩:=hok b _ z;obtain⟨e2,_⟩:=hok' b _ z2;rw[e] at e1;cases e1;exact e2
 cases hk:K.lookup a with
 |some o=>
  -- the script is one of the module's own objects
  have e:=KX a o hk;rw[ha] at e;cases e;refine core (λ_=>ao) (λ_=>.inl rfl) (.inr ⟨_,vs.toArray,_,hk,rfl,rfl,rfl,by rw[cg,lenV];exact hl,by simpa using rv⟩) (λb u z=>by have z':(ao:aS HO)=ae u:=z;cases z') (λb z=>bg rfl z) λz=>bg rfl z
 |none=>
  refine core (λb=>if b=a then ae (.frz {cls:=.type "list",data:=.seq vs.toArray} (.lst (ns.map V.int))) else ao) (λb=>?_) (.inl (.inr ⟨{cls:=.type "list",data:=.seq vs.toArray},av rfl⟩)) (λb u z=>?_) (λb z=>?_) λ_=>hk
  .by_cases hb:b=a
   .exact .inr ⟨_,_,av hb⟩
   .exact .inl (aw hb)
  .by_cases hb:b=a
   .have z':=(av hb).symm.trans z;cases z';subst hb;exact⟨ha,by rw[aI];exact hl,vs,_,rv,ha⟩
   .have z':=(aw hb).symm.trans z;cases z'
  .by_cases hb:b=a
   .exact hb
   .exact bg (aw hb) z
def aJt{l:PySem.W.OpenLaw}{YP:bS->br->Prop}{d:DefRec}{K:Params->b6}{CX:bS->CXT}{sp:bS->Sp}{x:Str}
 (hn:l.most=ae n)(hn2:n<=bp)(hdf:d.params.defaults=[])(hr:wK k kM)
 (hY:∀(w:bS) (h:br),YP w h->(K w.params).In h)
 (F:∀(w:bS) (mg:Str->aS ap) (fa:aq) (h:br),(K w.params).In h->h.Ns eT mg->mg d.name=ae (.ref fa)->
   ∃fd:gd,(∀(s:ay) (u:ap),lp s fd ⟨[u],[]⟩ [(x,u)])/\
    ∀base:br,(K w.params).In base->base.Ns eT mg->ZP l.prog w (K w.params) mg base (CX w) k fa fd [x] (sp w))
 (hsp:∀(w:bS) (H:Hp) (a:aq) (ns:aa ag),ns.length<=n->Only H->SqL (K w.params) H a (ns.map V.int)->sp w [.ref a] H (λv _=>v=.bl af) λ_ _ _=>c9)
 (hCX:∀(w:bS) (H:Hp) (s:ay) (e:ap) (s':ay),CX w [] H s (λ_ _ _=>c9) e s'->c9) :
  PySem.W.WalkO q loose XP YP l.row.toRowW d [] (λf vs=>vb f vs):=by
 refine Att.TF hn hdf λw s₀ s₁ mg mb fa o pm cd doc a vs ns G Y ho hd hcd hmg hobj hints hlen hg=>?_
 have KX:=hY w _ Y;obtain⟨fd,hb,hF⟩:=F w mg fa _ KX G.T.g hmg;exact aG3 KX G.T.g G.T.b G.T.builtins G.T.nolimit hg hobj hints (du hlen hn2) hr hF hb (λH hO hS=>hsp w H a ns hlen hO hS) λH e s'=>hCX w H s₁ e s'
noncomputable def rR(s:bz):Arguments:=match s with
 |.FunctionDef _ a _ _ _ _ _ _ _ _=>a
 |_=>{posonlyargs:=[],args:=[],vararg:=ao,kwonlyargs:=[],kw_defaults:=[],kwarg:=ao,defaults:=[]}
noncomputable def jV(s:bz):aa bz:=match s with
 |.FunctionDef _ _ b _ _ _ _ _ _ _=>b
 |_=>[]
noncomputable def aR(s:bz):fT:=match s with
 |.FunctionDef _ _ _ _ _ _ sc _ _ _=>sc
 |_=>{kind:=.function,names:=[],isGenerator:=aj,isCoroutine:=aj}
noncomputable abbrev CX0:CXT:=λ_ _ _ _ _ _=>c9
noncomputable abbrev E0:XK:=λ_ _ _=>c9
def aR4:aB7 CX0 X E0:=λ_ _ _ _ _ _ _ h=>h.elim
structure Fun(K:b6)(x qual:Str)(st:bz)(f:aq)(fd:gd):Prop where
 ex:∃(oc:ap)(od:aS aq)(kV doc pm:ap)(an:aS aq)(cdv ct:ap)(osl:ba (aS ap)),
  fd=lw x qual (rR st) (jV st) (aR st) .none kV doc pm an cdv ct/\K.lookup f=ae ⟨oc,od,.func fd,osl⟩/\uc K cdv qual=af
 kp:nh K (.ref f)=af
section
variable {P:cy} {w:bS} {K:b6} {mg:Str->aS ap} {base:br}
theorem Fun.ok{st:bz}{fd:gd}{N ps:aa Str}{k:ai}{sp:Sp}(F:Fun K x qual st f fd)(S:bQ N ps (aR st))(len:∀vs H Q E,sp vs H Q E->vs.length=ps.length)
 (hbody:∀(cdv:ap) (A:cS) (outer:aa d6) (s:ay) (H:Hp) (vs:aa V) (Q:VK) (E:XK),wK k (A.deeper (gN qual (aR st) s.heap.objs.size f cdv))->sp vs H Q E->
   ∃t,PSs (aFl CX0 P w K mg base N qual (aR st) f cdv A outer s H E).nox (jV st) t/\t {nx:=λ_ H'=>Q .non H',rt:=Q} (start N vs) H):ZP P w K mg base CX0 (k+1) f fd ps sp:=by
 obtain⟨oc,od,kV,doc,pm,an,cdv,ct,osl,rfl,lk,hcd⟩:=F.ex;refine aR0 lk hcd S len λA outer s H vs Q E hr hsp=>?_
 obtain⟨t,h,q⟩:=hbody cdv A outer s H vs Q E hr hsp;exact⟨t,h.nox,q⟩
theorem Fun.binds{st:bz}(F:Fun K x qual st f fd)
 (h:∀(kV doc pm:ap) (an:aS aq) (cdv ct:ap) (us:aa ap),us.length=ps.length->bindArgs (lw x qual (rR st) (jV st) (aR st) .none kV doc pm an cdv ct) ⟨us,[]⟩=pure (ps.zip us)):Binds K fd ps []:=by
 obtain⟨oc,od,kV,doc,pm,an,cdv,ct,osl,rfl,lk,hcd⟩:=F.ex;exact .all (h kV doc pm an cdv ct)
def aI3{st:bz}{oc:ap}{od an:aS aq}{osl:ba (aS ap)}{kV doc pm cdv ct:ap}(l:K.lookup f=ae ⟨oc,od,.func (lw x qual (rR st) (jV st) (aR st) .none kV doc pm an cdv ct),osl⟩)
 (c:uc K cdv qual=af)(k:nh K (.ref f)=af):Fun K x qual st f (lw x qual (rR st) (jV st) (aR st) .none kV doc pm an cdv ct):=⟨⟨oc,od,kV,doc,pm,an,cdv,ct,osl,rfl,l,c⟩,k⟩
end
def cD(H H':Hp):Prop:=∀b o,H b=ae o->H' b=ae o
def cD.refl(H:Hp):cD H H:=λ_ _ h=>h
def cD.trans(a:cD H H1)(b:cD H1 H2):cD H H2:=λc o h=>b c o (a c o h)
def cD.free(e:cD H H')(h:H' l=ao):H l=ao:=by
 cases q:H l with
 |none=>rfl
 |some o=>
  rw[e l o q] at h;cases h
section
variable [fy κ]
def aG4{kvs:aa (κ×V)}{k:κ}(h:tK kvs k=ao):¬k∈kvs.map (·.1):=by
 intro m;obtain⟨p,hp,e⟩:=aT.mp m;have q:(kvs.any λkv=>ϒ (kv.1=k))=af:=List.any_eq_true.mpr ⟨p,hp,cm e⟩;rw[tV,h] at q;exact bg q 0x2
def aBm:∀{l:aa κ}{k:κ},l.Nodup->¬k∈l->(l++[k]).Nodup
 |[],k,_,_=>by simp
 |a::r,k,h,hk=>by
  obtain⟨h1,h2⟩:=df.mp h;show(a::(r++[k])).Nodup;refine df.mpr ⟨λm=>?_,aBm h2 λm=>hk (bq.mpr (Or.inr m))⟩;rcases cw.mp m with q|q
  .exact h1 q
  .exact hk (bq.mpr (kP (dS.mp q).symm))
def aJu{kvs:aa (κ×V)}{k:κ}(v:V)(hn:(kvs.map (·.1)).Nodup)(h:tK kvs k=ao):((putK kvs k v).map (·.1)).Nodup:=by
 rw[G6 v h,cu];exact aBm hn (aG4 h)
end
end L2
namespace TS
open PySem PyProof.Rows
variable{st:ff}{lo:ai}
noncomputable def aBn:ax->bd->ba bd->ai->ai->ai->lT ff fF (aS ai):=sortPriv% PySem.Builtin.gallop
noncomputable def G8:ai->lT ff fF Unit:=sortPriv% PySem.Builtin.setMinGallop
noncomputable def aG5:ba bd->ba bd->lT ff fF (ba bd):=sortPriv% PySem.Builtin.mergeLo
noncomputable def aG6:ba bd->ba bd->lT ff fF (ba bd):=sortPriv% PySem.Builtin.mergeHi
noncomputable def TJ(left:ax)(key:bd)(arr:ba bd)(base i:ai):lT ff fF (aS ax):=
 elem' arr (base+i) >>= λx=>if left=af then lt' x key else lt' key x >>= λr=>pure (Option.map (λb=>!b) r)
def qO{prog:cy}{w:bS}{A:cS}{E:ap->ay->Prop}{s:ay}{g:ai}{st:ff}{Q:Unit->ff->Prop}
 (h:Q () (nw (kindOf st) (au st) (bo st) g (gj st))):dg (az prog w) A E s (G8 g) Q st:=jf h
section
theorem ZW(p:ai->ax)
 (hp:∀i (R:aS ax->ff->Prop),i<n->R (ae (p i)) st->dg (az prog w) A E s (TJ left key arr base i) R st)
 (hm:∀i j,i<=j->j<n->p j=af->p i=af)(hh:hint<n)
 (h:∀k,k<=n->(∀i,i<k->p i=af)->(∀i,k<=i->i<n->p i=aj)->Q (ae k) st) :
  dg (az prog w) A E s (aBn left key arr base n hint) Q st:=by
 with_unfolding_all refine bb (hp _ _ hh ?_)
 dsimp only;cases hr:p hint with
 |true=>
  simp only[cq];refine bb (eu (eB
   (I:=λx c st'=>st'=st/\∃l o,c=(ao,l,o)/\l<o/\x+1<=o/\hint+l<n/\p (hint+l)=af)
   (Q:=λc st'=>st'=st/\∃l o,c=(ao,l,o)/\l<o/\hint+l<n/\p (hint+l)=af/\(n-hint<=o\/(hint+o<n/\p (hint+o)=aj))) ?step ?fin ?init) ?post)
  case init=>exact⟨rfl,0,1,rfl,by lia,by lia,hh,hr⟩
  case fin=>
   rintro c st' ⟨rfl,l,o,rfl,a1,a2,a3,a4⟩;exact⟨rfl,l,o,rfl,a1,a3,a4,.inl 0x1⟩
  case step=>
   rintro x c st' _ hx ⟨rfl,l,o,rfl,a1,a2,a3,a4⟩;dsimp only;by_cases hge:o >= n-hint
   .rw[av hge];exact bf ⟨rfl,l,o,rfl,a1,a3,a4,.inl hge⟩
   .rw[aw hge];refine bb (hp _ _ 0x1 ?_);dsimp only;cases hb:p (hint+o) with
    |true=>
     simp only[ny,dm,ck];exact bf ⟨rfl,_,_,rfl,by lia,by lia,by lia,hb⟩
    |false=>
     simp only[Bool.not_false,cq];exact bf ⟨rfl,_,_,rfl,a1,a3,a4,.inr ⟨by lia,hb⟩⟩
  case post=>
   rintro c st₀ ⟨rfl,l,o,rfl,a1,a3,a4,a5⟩;dsimp only;have H1:∀i,i<hint+l+1->p i=af:=λi hi=>hm i (hint+l) 0x1 a3 a4
   have H2:∀i,hint+min o (n-hint)<=i->i<n->p i=aj:=by
    intro i i1 i2;rcases a5 with a5|⟨a5,a6⟩
    .lia
    .cases hq:p i with
     |false=>rfl
     |true=>rw[hm (hint+o) i 0x1 i2 hq] at a6;cases a6
   refine bb (eu (eB
    (I:=λx c st'=>st'=st₀/\∃l r,c=(ao,l,r)/\l<=r/\r<=n/\r-l<=n-x/\(∀i,i<l->p i=af)/\(∀i,r<=i->i<n->p i=aj))
    (Q:=λc st'=>st'=st₀/\∃l r,c=(ao,l,r)/\l=r/\r<=n/\(∀i,i<l->p i=af)/\(∀i,r<=i->i<n->p i=aj)) ?step2 ?fin2 ?init2) ?post2)
   case init2=>exact⟨rfl,_,_,rfl,by lia,by lia,by lia,H1,H2⟩
   case fin2=>
    rintro c st' ⟨rfl,l,r,rfl,a1,a2,a3,a4,a5⟩;exact⟨rfl,l,r,rfl,by lia,a2,a4,a5⟩
   case step2=>
    rintro x c st' _ hx ⟨rfl,l,r,rfl,a1,a2,a3,a4,a5⟩;dsimp only;by_cases hge:l >= r
    .rw[av hge];exact bf ⟨rfl,l,r,rfl,by lia,a2,a4,a5⟩
    .rw[aw hge];refine bb (hp _ _ 0x1 ?_);dsimp only;cases hb:p (l+(r-l) / 2) with
     |true=>
      simp only[cq];exact bf ⟨rfl,_,_,rfl,by lia,a2,by lia,λi hi=>hm i _ 0x1 0x1 hb,a5⟩
     |false=>
      simp only[dm,ck];refine bf ⟨rfl,_,_,rfl,by lia,by lia,by lia,a4,λi i1 i2=>?_⟩;cases hq:p i with
      |false=>rfl
      |true=>rw[hm _ i i1 i2 hq] at hb;cases hb
   case post2=>
    rintro c st' ⟨rfl,l,r,rfl,rfl,a2,a4,a5⟩;exact bf (h l a2 a4 a5)
 |false=>
  simp only[dm,ck];refine bb (eu (eB
   (I:=λx c st'=>st'=st/\∃l o,c=(ao,l,o)/\l<o/\x+1<=o/\l<=hint/\p (hint-l)=aj)
   (Q:=λc st'=>st'=st/\∃l o,c=(ao,l,o)/\l<o/\l<=hint/\p (hint-l)=aj/\(hint+1<=o\/(o<=hint/\p (hint-o)=af))) ?step ?fin ?init) ?post)
  case init=>exact⟨rfl,0,1,rfl,by lia,by lia,by lia,hr⟩
  case fin=>
   rintro c st' ⟨rfl,l,o,rfl,a1,a2,a3,a4⟩;exact⟨rfl,l,o,rfl,a1,a3,a4,.inl 0x1⟩
  case step=>
   rintro x c st' _ hx ⟨rfl,l,o,rfl,a1,a2,a3,a4⟩;dsimp only;by_cases hge:o >= hint+1
   .rw[av hge];exact bf ⟨rfl,l,o,rfl,a1,a3,a4,.inl hge⟩
   .rw[aw hge];refine bb (hp _ _ 0x1 ?_);dsimp only;cases hb:p (hint-o) with
    |false=>
     simp only[dm,ck];exact bf ⟨rfl,_,_,rfl,by lia,by lia,by lia,hb⟩
    |true=>
     simp only[cq];exact bf ⟨rfl,_,_,rfl,a1,a3,a4,.inr ⟨by lia,hb⟩⟩
  case post=>
   rintro c st₀ ⟨rfl,l,o,rfl,a1,a3,a4,a5⟩;dsimp only;have H1:∀i,i<hint+1-min o (hint+1)->p i=af:=by
    intro i hi;rcases a5 with a5|⟨a5,a6⟩
    .lia
    .exact hm i (hint-o) 0x1 0x1 a6
   have H2:∀i,hint-l<=i->i<n->p i=aj:=by
    intro i i1 i2;cases hq:p i with
    |false=>rfl
    |true=>rw[hm (hint-l) i 0x1 i2 hq] at a4;cases a4
   refine bb (eu (eB
    (I:=λx c st'=>st'=st₀/\∃l r,c=(ao,l,r)/\l<=r/\r<=n/\r-l<=n-x/\(∀i,i<l->p i=af)/\(∀i,r<=i->i<n->p i=aj))
    (Q:=λc st'=>st'=st₀/\∃l r,c=(ao,l,r)/\l=r/\r<=n/\(∀i,i<l->p i=af)/\(∀i,r<=i->i<n->p i=aj)) ?step2 ?fin2 ?init2) ?post2)
   case init2=>exact⟨rfl,_,_,rfl,by lia,by lia,by lia,H1,H2⟩
   case fin2=>
    rintro c st' ⟨rfl,l,r,rfl,a1,a2,a3,a4,a5⟩;exact⟨rfl,l,r,rfl,by lia,a2,a4,a5⟩
   case step2=>
    rintro x c st' _ hx ⟨rfl,l,r,rfl,a1,a2,a3,a4,a5⟩;dsimp only;by_cases hge:l >= r
    .rw[av hge];exact bf ⟨rfl,l,r,rfl,by lia,a2,a4,a5⟩
    .rw[aw hge];refine bb (hp _ _ 0x1 ?_);dsimp only;cases hb:p (l+(r-l) / 2) with
     |true=>
      simp only[cq];exact bf ⟨rfl,_,_,rfl,by lia,a2,by lia,λi hi=>hm i _ 0x1 0x1 hb,a5⟩
     |false=>
      simp only[dm,ck];refine bf ⟨rfl,_,_,rfl,by lia,by lia,by lia,a4,λi i1 i2=>?_⟩;cases hq:p i with
      |false=>rfl
      |true=>rw[hm _ i i1 i2 hq] at hb;cases hb
   case post2=>
    rintro c st' ⟨rfl,l,r,rfl,rfl,a2,a4,a5⟩;exact bf (h l a2 a4 a5)
end
structure Ord(U:bd->Prop)(blt:bd->bd->ax):Prop where
 irr:∀x,U x->blt x x=aj
 tr:∀x y z,U x->U y->U z->blt x y=af->blt y z=af->blt x z=af
 ntr:∀x y z,U x->U y->U z->blt x z=af->blt x y=af\/blt y z=af
noncomputable abbrev dk:bd:=(.none,.none)
def gt(a:ba bd)(i:ai):bd:=a.getD i dk
def oE(h:i<a.size):a[i]?=ae (gt a i):=by
 unfold gt;simp[iS,h]
def tX(U:bd->Prop)(a:ba bd):Prop:=∀i,i<a.size->U (gt a i)
def Srt(blt:bd->bd->ax)(a:ba bd)(lo hi:ai):Prop:=∀i j,lo<=i->i<=j->j<hi->blt (gt a j) (gt a i)=aj
def ZX(prog:cy)(w:bS)(A:cS)(E:ap->ay->Prop)(s:ay)(kd:ka)(U:bd->Prop)(blt:bd->bd->ax):Prop:=
 ∀(x y:bd)(st:ff)(Q:aS ax->ff->Prop),U x->U y->kindOf st=kd->Q (ae (blt x y)) st->dg (az prog w) A E s (lt' x y) Q st
section
variable {blt:bd->bd->ax}
def cA(hi:i<arr.size)(h:Q (gt arr i) st):dg (az prog w) A E s (elem' arr i) Q st:=by
 rw[elem'_eq,oE hi];exact bf h
def gp(blt:bd->bd->ax)(left:ax)(key:bd)(arr:ba bd)(base i:ai):ax:=if left then blt (gt arr (base+i)) key else !blt key (gt arr (base+i))
def ZZ(hL:ZX prog w A E s kd U blt)(hk:kindOf st=kd)(hi:base+i<arr.size)(hU:tX U arr)(hK:U key)
 (h:R (ae (gp blt left key arr base i)) st):dg (az prog w) A E s (TJ left key arr base i) R st:=by
 unfold TJ;refine bb (cA hi ?_);unfold gp at h;cases left with
 |true=>
  simp only[cq] at h ⊢;exact hL _ _ _ _ (hU _ hi) hK hk h
 |false=>
  simp only[dm,ck] at h ⊢;refine bb (hL _ _ _ _ hK (hU _ hi) hk (bf ?_));exact h
theorem aJv(O:Ord U blt)(hn:base+n<=arr.size)(hU:tX U arr)(hK:U key)(hs:Srt blt arr base (base+n)) :
  ∀i j,i<=j->j<n->gp blt left key arr base j=af->gp blt left key arr base i=af:=by
 intro i j hij hj h;have h0:=hs (base+i) (base+j) 0x1 0x1 0x1;have ui:=hU (base+i) 0x1;have uj:=hU (base+j) 0x1;unfold gp at h ⊢;cases left with
 |true=>
  simp only[cq] at h ⊢;rcases O.ntr _ (gt arr (base+i)) _ uj ui hK h with q|q
  .rw[h0] at q;cases q
  .exact q
 |false=>
  simp only[dm,ck] at h ⊢;cases q:blt key (gt arr (base+i)) with
  |false=>rfl
  |true=>
   rcases O.ntr _ (gt arr (base+j)) _ hK uj ui q with z|z
   .rw[z] at h;cases h
   .rw[h0] at z;cases z
def uU(O:Ord U blt)(hL:ZX prog w A E s kd U blt)(hk:kindOf st=kd)(hn:base+n<=arr.size)(hU:tX U arr)(hK:U key)
 (hs:Srt blt arr base (base+n))(hh:hint<n)
 (h:∀k,k<=n->(∀i,i<k->gp blt left key arr base i=af)->(∀i,k<=i->i<n->gp blt left key arr base i=aj)->Q (ae k) st):dg (az prog w) A E s (aBn left key arr base n hint) Q st:=
 ZW (gp blt left key arr base) (λi R hi r=>ZZ hL hk 0x1 hU hK r) (aJv O hn hU hK hs) hh h
end
section
variable (blt:bd->bd->ax)
noncomputable abbrev le(x y:bd):ax:=!blt y x
def mrg(xs ys:aa bd):aa bd:=xs.merge ys (le blt)
variable {blt}
def oF(h:i<a.size):a.toList.drop i=gt a i::a.toList.drop (i+1):=by
 rw[ij (by simpa using h)]
 congr 1
 unfold gt;simp[iS,h]
def G9{a:ba bd}(h:a.size<=i):a.toList.drop i=[]:=nB (by simpa using h)
def oG(xs:aa bd):mrg blt xs []=xs:=List.merge_right xs
def rT(ys:aa bd):mrg blt [] ys=ys:=List.nil_merge ys
def jE(x y:bd)(xs ys:aa bd):mrg blt (x::xs) (y::ys)=if blt y x then y::mrg blt (x::xs) ys else x::mrg blt xs (y::ys):=by
 unfold mrg;rw[List.cons_merge_cons];cases h:blt y x<;>simp[le,h]
def J(blt:bd->bd->ax)(a b:ba bd)(out:ba bd)(ia ib:ai):Prop:=
 out.toList++mrg blt (a.toList.drop ia) (b.toList.drop ib)=mrg blt a.toList b.toList
def J.pb(h:J blt a b out ia ib)(ha:ia<a.size)(hb:ib<b.size)(q:blt (gt b ib) (gt a ia)=af):J blt a b (out.push (gt b ib)) ia (ib+1):=by
 unfold J at h ⊢;rw[<-h,oF ha,oF hb,jE,av q,<-oF ha];simp
def J.pa(h:J blt a b out ia ib)(ha:ia<a.size)(hb:ib<b.size)(q:blt (gt b ib) (gt a ia)=aj):J blt a b (out.push (gt a ia)) (ia+1) ib:=by
 unfold J at h ⊢;rw[<-h,oF ha,oF hb,jE,aw (by simp[q]),<-oF hb];simp
theorem W2(h:i+k<a.size)(out:ba bd):out++a.extract i (i+(k+1))=(out++a.extract i (i+k)).push (gt a (i+k)):=by
 apply l5.mp;simp only[gn,nE,nI,l6];rw[show i+(k+1)-i=k+1 by lia,show i+k-i=k by lia,qz,c6]
 congr 2
 rw[nK];have:a.toList[i+k]?=ae (gt a (i+k)):=by rw[iu];exact oE h
 rw[this];rfl
def W3(a:ba bd)(i:ai)(out:ba bd):out++a.extract i (i+0)=out:=by
 apply l5.mp;simp
theorem J.ga(h:J blt a b out ia ib)(hb:ib<b.size):∀k,ia+k<=a.size->(∀i,i<k->blt (gt b ib) (gt a (ia+i))=aj)->J blt a b (out++a.extract ia (ia+k)) (ia+k) ib
 |0,_,_=>by rw[W3];exact h
 |k+1,hk,q=>by
  have ih:=J.ga h hb k 0x1 λi hi=>q i 0x1
  rw[W2 0x1];exact J.pa ih 0x1 hb (q k 0x1)
def J.gb(h:J blt a b out ia ib)(ha:ia<a.size):∀k,ib+k<=b.size->(∀i,i<k->blt (gt b (ib+i)) (gt a ia)=af)->J blt a b (out++b.extract ib (ib+k)) ia (ib+k)
 |0,_,_=>by rw[W3];exact h
 |k+1,hk,q=>by
  have ih:=J.gb h ha k 0x1 λi hi=>q i 0x1
  rw[W2 0x1];exact J.pb ih ha 0x1 (q k 0x1)
def qP(a:ba bd)(i:ai):(a.extract i a.size).toList=a.toList.drop i:=by
 simp[nE,nI,jg]
def J.Z0(h:J blt a b out ia ib)(hb:ib=b.size):(out++a.extract ia a.size++b.extract ib b.size).toList=mrg blt a.toList b.toList:=by
 rw[<-h,gn,gn,qP,qP,G9 (qx hb.symm),oG];simp
def J.Z4(h:J blt a b out ia ib)(ha:ia=a.size):(out++a.extract ia a.size++b.extract ib b.size).toList=mrg blt a.toList b.toList:=by
 rw[<-h,gn,gn,qP,qP,G9 (qx ha.symm),rT];simp
def G_(x:bd):∀ys:aa bd,(∀y∈ys,blt y x=af)->mrg blt [x] ys=ys++[x]
 |[],_=>oG _
 |y::ys,h=>by
  rw[jE,av (h y (bw ..)),G_ x ys λz hz=>h z (bu _ hz)];rfl
def aI4(h:x∈a.toList):∃i,i<a.size/\x=gt a i:=by
 obtain⟨i,hi,e⟩:=nL h;refine⟨i,by simpa using hi,?_⟩;unfold gt;rw[<-e];have hi':i<a.size:=by simpa using hi
 simp[iS,hi']
theorem J.last(h:J blt a b out ia ib)(ha:ia+1=a.size)(q:∀i,i<b.size->blt (gt b i) (gt a ia)=af):(out++b.extract ib b.size++a.extract ia a.size).toList=mrg blt a.toList b.toList:=by
 rw[<-h,gn,gn,qP,qP,oF (by lia:ia<a.size),G9 (i:=ia+1) 0x1,G_,c6];intro y hy;obtain⟨i,hi,e⟩:=aI4 (yT hy);rw[e];exact q i hi
end
structure Sim(st st':ff):Prop where
 kd:kindOf st'=kindOf st
 ar:au st'=au st
 pd:bo st'=bo st
 fl:gj st'=gj st
section
def wL{st:σ}(h:∀Q':α->σ->Prop,(∀c s',Q c s'->Q' c s')->dg M A E s m Q' st):dg M A E s m Q st:=h Q λ_ _ x=>x
def gJ[nN c](h1:c->dg M A E s p Q st)(h2:¬c->dg M A E s q Q st):dg M A E s (if c then p else q) Q st:=if h:c then (av h).symm▸h1 h else (aw h).symm▸h2 h
def eZ{x y:ai}(h1:x=y->dg M A E s p Q st)(h2:x≠y->dg M A E s q Q st):dg M A E s (if (x==y)=af then p else q) Q st:=gJ (λh=>h1 (eq_of_beq h)) λh=>h2 λe=>h (iv.mpr e)
end
section
theorem TQ(O:Ord U blt)(hL:ZX prog w A E s kd U blt)(hk:kindOf st=kd)(hUa:tX U a)(hUb:tX U b)(hsa:Srt blt a 0 a.size)(hsb:Srt blt b 0 b.size)
 (ha:0<a.size)(hb:0<b.size)(hf:blt (gt b 0) (gt a 0)=af)(hl:∀i,i<b.size->blt (gt b i) (gt a (a.size-1))=af)
 (h:∀r st',Sim st st'->r.toList=mrg blt a.toList b.toList->Q r st'):dg (az prog w) A E s (aG5 a b) Q st:=by
 have lastAt:∀{j:ai},j+1=a.size->∀i,i<b.size->blt (gt b i) (gt a j)=af:=λ{j} hj i hi=>by
  have:=hl i hi;rwa [show a.size-1=j by lia] at this
 with_unfolding_all refine bb (kb (ke ⟨rfl,?_⟩))
 refine bb (cA hb ?_);have J0:J blt a b #[gt b 0] 0 1:=J.pb (out:=#[]) (by unfold J;simp) ha hb hf;have sim0:Sim st st:=⟨rfl,rfl,rfl,rfl⟩
 refine eZ (λe=>bf (h _ _ sim0 (J0.Z0 e))) λe1=>eZ (λe=>bf (h _ _ sim0 (J0.last e (lastAt e)))) λe2=>bb (ik (bb (eu (eB
  (I:=λx c st'=>Sim st st'/\∃out ia ib mg,c=(ao,out,ia,ib,mg)/\J blt a b out ia ib/\ia+1<a.size/\ib<b.size/\x<=ia+ib)
  (Q:=λc st'=>Sim st st'/\∃r,c.1=ae r/\r.toList=mrg blt a.toList b.toList) ?step ?fin ?init) ?post)))
 case init=>exact⟨sim0,_,_,_,_,rfl,J0,by lia,by lia,by lia⟩
 case fin=>
  rintro c st' ⟨_,out,ia,ib,mg,rfl,_,h1,h2,h3⟩;lia
 case post=>
  rintro⟨c1,c2⟩ st' ⟨sim,r,rfl,hr⟩;exact bf (h r st' sim hr)
 case step=>
  rintro x₀ c st1 _ hx0 ⟨sim,out,ia,ib,mg,rfl,j1,h1,h2,h3⟩;refine bb (eu (eB
   (I:=λx c st'=>Sim st st'/\∃out ia ib ac bc,c=(ao,out,ia,ib,ac,bc)/\J blt a b out ia ib/\ia+1<a.size/\ib<b.size/\x₀<=ia+ib/\x<=ia+ib)
   (Q:=λc st'=>Sim st st'/\((∃r,c.1=ae r/\r.toList=mrg blt a.toList b.toList)\/∃out ia ib ac bc,c=(ao,out,ia,ib,ac,bc)/\J blt a b out ia ib/\ia+1<a.size/\ib<b.size/\x₀+1<=ia+ib)) ?step2 ?fin2 ?init2) ?post2)
  case init2=>exact⟨sim,out,ia,ib,_,_,rfl,j1,h1,h2,h3,by lia⟩
  case fin2=>
   rintro c st' ⟨_,out,ia,ib,ac,bc,rfl,_,h1,h2,_,h3⟩;lia
  case step2=>
   rintro x c st2 _ hx ⟨sim,out,ia,ib,ac,bc,rfl,j2,h1,h2,h3,h4⟩;refine wL λQ hQ=>?_
   have hd:∀r d,r.toList=mrg blt a.toList b.toList->Q (.done (ae r,d)) st2:=λr d e=>hQ _ _ ⟨sim,.inl ⟨r,rfl,e⟩⟩
   have hb':∀out ia ib ac bc,J blt a b out ia ib->ia+1<a.size/\ib<b.size/\x₀+1<=ia+ib->Q (.done (ao,out,ia,ib,ac,bc)) st2:=λ_ _ _ _ _ j q=>hQ _ _ ⟨sim,.inr ⟨_,_,_,_,_,rfl,j,q⟩⟩
   have hy:∀out ia ib ac bc,J blt a b out ia ib->ia+1<a.size/\ib<b.size/\x₀<=ia+ib/\x+1<=ia+ib->Q (.yield (ao,out,ia,ib,ac,bc)) st2:=λ_ _ _ _ _ j q=>hQ _ _ ⟨sim,_,_,_,_,_,rfl,j,q⟩
   clear hQ;dsimp only;refine bb (cA h2 (bb (cA (i:=ia) 0x1 (bb (hL _ _ _ _ (hUb _ h2) (hUa _ 0x1) (sim.1.trans hk) ?_)))));refine gJ (λq=>bb (cA h2 ?_)) λq=>bb (cA (i:=ia) 0x1 ?_)
   .have j3:=J.pb j2 0x1 h2 q;exact eZ (λe=>bf (hd _ _ (j3.Z0 e))) λe=>gJ (λ_=>bf (hb' _ _ _ _ _ j3 0x1)) λ_=>bf (hy _ _ _ _ _ j3 0x1)
   .have j3:=J.pa j2 0x1 h2 (yY q);exact eZ (λe=>bf (hd _ _ (j3.last e (lastAt e)))) λe=>gJ (λ_=>bf (hb' _ _ _ _ _ j3 0x1)) λ_=>bf (hy _ _ _ _ _ j3 0x1)
  case post2=>
   rintro⟨c1,c2⟩ st2 ⟨sim,⟨r,e,hr⟩|⟨out,ia,ib,ac,bc,e,j2,h1,h2,h3⟩⟩
   .subst e;exact bf ⟨sim,r,rfl,hr⟩
   .cases e;refine bb (kb (ke ⟨rfl,bb (eu (eB
     (I:=λx c st'=>Sim st st'/\∃out ia ib mg ac bc,c=(ao,out,ia,ib,mg,ac,bc)/\J blt a b out ia ib/\ia+1<a.size/\ib<b.size/\x₀+1<=ia+ib/\x<=ia+ib)
     (Q:=λc st'=>Sim st st'/\((∃r,c.1=ae r/\r.toList=mrg blt a.toList b.toList)\/∃out ia ib mg ac bc,c=(ao,out,ia,ib,mg,ac,bc)/\J blt a b out ia ib/\ia+1<a.size/\ib<b.size/\x₀+1<=ia+ib)) ?step3 ?fin3 ?init3) ?post3)⟩))
    case init3=>exact⟨sim,out,ia,ib,_,_,_,rfl,j2,h1,h2,h3,by lia⟩
    case fin3=>
     rintro c st' ⟨_,out,ia,ib,mg,ac,bc,rfl,_,h1,h2,_,h3⟩;lia
    case post3=>
     rintro⟨c1,c2⟩ st3 ⟨sim,⟨r,e,hr⟩|⟨out,ia,ib,mg,ac,bc,e,j3,h1,h2,h3⟩⟩
     .subst e;exact bf ⟨sim,r,rfl,hr⟩
     .cases e;refine bb (qO (bf ⟨⟨sim.1,sim.2,sim.3,sim.4⟩,_,_,_,_,rfl,j3,h1,h2,by lia⟩))
    case step3=>
     rintro x c st3 _ hx ⟨sim,out,ia,ib,mg,ac,bc,rfl,j3,h1,h2,h3,h4⟩;refine wL λQ hQ=>?_
     have hd:∀r d st',Sim st st'->r.toList=mrg blt a.toList b.toList->Q (.done (ae r,d)) st':=λr d st' m e=>hQ _ _ ⟨m,.inl ⟨r,rfl,e⟩⟩
     have hb':∀out ia ib mg ac bc st',Sim st st'->J blt a b out ia ib->ia+1<a.size/\ib<b.size/\x₀+1<=ia+ib->Q (.done (ao,out,ia,ib,mg,ac,bc)) st':=λ_ _ _ _ _ _ _ m j q=>hQ _ _ ⟨m,.inr ⟨_,_,_,_,_,_,rfl,j,q⟩⟩
     have hy:∀out ia ib mg ac bc st',Sim st st'->J blt a b out ia ib->ia+1<a.size/\ib<b.size/\x₀+1<=ia+ib/\x+1<=ia+ib->Q (.yield (ao,out,ia,ib,mg,ac,bc)) st':=λ_ _ _ _ _ _ _ m j q=>hQ _ _ ⟨m,_,_,_,_,_,_,rfl,j,q⟩
     clear hQ
     extract_lets -underBinder s0 o1 s1 a1 s2 b1 s3 m1 s4 c1 d1 jp m2
     have K1:∀m,dg (az prog w) A E s (jp () m) Q st3:=λm=>by
      dsimp -zeta only [jp,s0,o1,s1,a1,s2,b1,s3,m1,s4,c1,d1];refine bb (qO ?_);have sim':Sim st (nw (kindOf st3) (au st3) (bo st3) m (gj st3)):=⟨sim.1,sim.2,sim.3,sim.4⟩
      generalize nw (kindOf st3) (au st3) (bo st3) m (gj st3)=st4 at sim' ⊢;have hk':=sim'.1.trans hk;refine bb (cA 0x1 (bb (uU O hL hk' 0x1 hUa (hUb _ 0x1) (λi j i1 i2 i3=>hsa i j 0x1 i2 0x1) 0x1 λk hk1 y1 y2=>?_)));dsimp -zeta only
      extract_lets -underBinder n1 jp2 n2 n3
      have K2:∀out ia,J blt a b out ia ib->ia+1<a.size->x₀+1<=ia+ib->x<=ia+ib->blt (gt b ib) (gt a ia)=af->dg (az prog w) A E s (jp2 () out ia) Q st4:=λout ia j1 h1 h3 h4 hz=>by
       dsimp -zeta only [jp2];refine bb (cA h2 ?_);have j2:=J.pb j1 0x1 h2 hz;refine eZ (λe=>bf (hd _ _ _ sim' (j2.Z0 e))) λe=>bb (cA 0x1 (bb (uU O hL hk' 0x1 hUb (hUa _ 0x1) (λi j i1 i2 i3=>hsb i j 0x1 i2 0x1) 0x1 λk1 hk1 y1 y2=>?_)))
       dsimp -zeta only
       extract_lets -underBinder n1 jp3 n2 n3
       have K3:∀out ib',J blt a b out ia ib'->ib'<b.size->ib<=ib'->blt (gt b ib') (gt a ia)=aj->dg (az prog w) A E s (jp3 () out ib') Q st4:=λout ib' j3 h2 h5 hz=>by
        dsimp -zeta only [jp3];refine bb (cA 0x1 ?_);have j4:=J.pa j3 0x1 h2 hz;refine eZ (λe=>bf (hd _ _ _ sim' (j4.last e (lastAt e)))) λe=>gJ (λ_=>bf (hb' _ _ _ _ _ _ _ sim' j4 0x1)) λ_=>bf (hy _ _ _ _ _ _ _ sim' j4 0x1)
       refine gJ (λkp=>eZ (λe3=>bf (hd _ _ _ sim' ((J.gb j2 0x1 k1 0x1 λi hi=>by have:=y1 i hi;simpa[gp] using this).Z0 e3))) λe3=>K3 _ _ (J.gb j2 0x1 k1 0x1 λi hi=>by have:=y1 i hi;simpa[gp] using this) 0x1 0x1 (by have:=y2 k1 (bi _) 0x1;simpa[gp] using this)) λkp=>K3 _ _ j2 0x1 0x1 (by have:=y2 0 0x1 0x1;simpa[gp] using this)
      have j5:∀i,i<k->blt (gt b ib) (gt a (ia+i))=aj:=λi hi=>by have:=y1 i hi;simpa[gp] using this
      refine gJ (λkp=>?_) λkp=>K2 _ _ j3 h1 h3 h4 (by have:=y2 0 0x1 0x1;simpa[gp] using this)
      have j1:=J.ga j3 h2 k 0x1 j5;refine eZ (λe=>bf (hd _ _ _ sim' (j1.last e (lastAt e)))) λe=>eZ (λe=>bf (hd _ _ _ sim' (j1.Z4 e))) λe'=>K2 _ _ j1 0x1 0x1 0x1 (by have:=y2 k (bi _) 0x1;simpa[gp] using this)
     exact gJ (λ_=>K1 _) λ_=>K1 _
end
section
variable {blt:bd->bd->ax}
def TV(h:n<a.size):a.toList.take (n+1)=a.toList.take n++[gt a n]:=by
 rw[qz];have:a.toList[n]?=ae (gt a n):=by rw[iu];exact oE h
 rw[this];rfl
theorem x_(h:z∈a.toList.take n):∃i,i<n/\i<a.size/\z=gt a i:= by
  obtain⟨i,hi,e⟩:= nL h;rw[ig] at hi;have h2:i<a.size:= by simpa using (show i<a.toList.length by lia)
  refine⟨i,by lia,h2,?_⟩;rw[<-e,List.getElem_take];unfold gt;simp[iS,h2]
def yC(x:bd):∀(xs zs:aa bd),(∀z∈zs,blt z x=af)->mrg blt (xs++[x]) zs=mrg blt xs zs++[x]
 |[],zs,h=>by rw[eI,G_ x zs h,rT]
 |x0::xs,[],_=>by rw[oG,oG]
 |x0::xs,z::zs,h=>by
  rw[eC,jE,jE];by_cases q:blt z x0=af
  .rw[av q,av q,<-eC,yC x (x0::xs) zs λy hy=>h y (bu _ hy)];rfl
  .rw[aw q,aw q,yC x xs (z::zs) h];rfl
 termination_by xs zs=>xs.length+zs.length
def OJ(y:bd):∀zs:aa bd,(∀z∈zs,blt y z=aj)->mrg blt zs [y]=zs++[y]
 |[],_=>rT _
 |z::zs,h=>by
  rw[jE,aw (by simp[h z (bw ..)]),OJ y zs λu hu=>h u (bu _ hu)];rfl
def yD(y:bd):∀(zs ys:aa bd),(∀z∈zs,blt y z=aj)->mrg blt zs (ys++[y])=mrg blt zs ys++[y]
 |zs,[],h=>by rw[eI,OJ y zs h,oG]
 |[],y0::ys,_=>by rw[rT,rT]
 |z::zs,y0::ys,h=>by
  rw[eC,jE,jE];by_cases q:blt y0 z=af
  .rw[av q,av q,yD y (z::zs) ys h];rfl
  .rw[aw q,aw q,<-eC,yD y zs (y0::ys) λu hu=>h u (bu _ hu)];rfl
 termination_by zs ys=>zs.length+ys.length
def JH(blt:bd->bd->ax)(a b:ba bd)(out:ba bd)(na nb:ai):Prop:=
 mrg blt (a.toList.take na) (b.toList.take nb)++out.toList.reverse=mrg blt a.toList b.toList
variable {a b out:ba bd} {na nb:ai}
theorem JH.pa(h:JH blt a b out na nb)(ha:0<na)(h1:na<=a.size)(h2:nb<=b.size)(q:∀i,i<nb->blt (gt b i) (gt a (na-1))=af):JH blt a b (out.push (gt a (na-1))) (na-1) nb:=by
 unfold JH at h ⊢;obtain⟨n,rfl⟩:∃n,na=n+1:=⟨na-1,by lia⟩
 rw[TV 0x1,yC _ _ _ (λz hz=>by obtain⟨i,i1,i2,rfl⟩:=x_ hz;exact q i i1)] at h;rw[<-h];simp
def JH.pb(h:JH blt a b out na nb)(hb:0<nb)(h1:na<=a.size)(h2:nb<=b.size)(q:∀i,i<na->blt (gt b (nb-1)) (gt a i)=aj):JH blt a b (out.push (gt b (nb-1))) na (nb-1):=by
 unfold JH at h ⊢;obtain⟨n,rfl⟩:∃n,nb=n+1:=⟨nb-1,by lia⟩
 rw[TV 0x1,yD _ _ _ (λz hz=>by obtain⟨i,i1,i2,rfl⟩:=x_ hz;exact q i i1)] at h;rw[<-h];simp
theorem aBo(h:i<n)(hn:n<=a.size)(out:ba bd):out++(a.extract i n).reverse=(out.push (gt a (n-1)))++(a.extract i (n-1)).reverse:=by
 apply l5.mp;simp only[gn,qA,nE,nI,l6];obtain⟨m,rfl⟩:∃m,n=m+1:=⟨n-1,by lia⟩
 rw[show m+1-i=(m-i)+1 by lia,qz,nK,show i+(m-i)=m by lia];have:a.toList[m]?=ae (gt a m):=by rw[iu];exact oE 0x1
 rw[this];simp
def wM(out:ba bd):out++(a.extract i i).reverse=out:=by
 apply l5.mp;simp
theorem JH.ga:∀{na:ai}{out:ba bd},JH blt a b out na nb->na<=a.size->nb<=b.size->∀at_,at_<=na->(∀i,at_<=i->i<na->∀z,z<nb->blt (gt b z) (gt a i)=af)->JH blt a b (out++(a.extract at_ na).reverse) at_ nb
 |0,out,h,_,_,at_,h0,_=>by
  obtain rfl:at_=0:=by lia
  rw[wM];exact h
 |n+1,out,h,h1,h2,at_,h0,q=>by
  by_cases e:at_=n+1
  .subst e;rw[wM];exact h
  .rw[aBo 0x1 h1];exact JH.ga (JH.pa h 0x1 h1 h2 (q n 0x1 0x1)) 0x1 h2 at_ 0x1 λi i1 i2=>q i i1 0x1
theorem JH.gb:∀{nb:ai}{out:ba bd},JH blt a b out na nb->na<=a.size->nb<=b.size->∀at_,at_<=nb->(∀i,at_<=i->i<nb->∀z,z<na->blt (gt b i) (gt a z)=aj)->JH blt a b (out++(b.extract at_ nb).reverse) na at_
 |0,out,h,_,_,at_,h0,_=>by
  obtain rfl:at_=0:=by lia
  rw[wM];exact h
 |n+1,out,h,h1,h2,at_,h0,q=>by
  by_cases e:at_=n+1
  .subst e;rw[wM];exact h
  .rw[aBo 0x1 h2];exact JH.gb (JH.pb h 0x1 h1 h2 (q n 0x1 0x1)) h1 0x1 at_ 0x1 λi i1 i2=>q i i1 0x1
def qQ(a:ba bd)(n:ai):(a.extract 0 n).toList=a.toList.take n:=by
 simp[nE,nI]
def JH.Z4(h:JH blt a b out na nb)(e:na=0):(a.extract 0 na++b.extract 0 nb++out.reverse).toList=mrg blt a.toList b.toList:=by
 subst e;rw[<-h,gn,gn,qQ,qQ,qA,za,rT];rfl
def JH.Z0(h:JH blt a b out na nb)(e:nb=0):(a.extract 0 na++b.extract 0 nb++out.reverse).toList=mrg blt a.toList b.toList:=by
 subst e;rw[<-h,gn,gn,qQ,qQ,qA,za,oG,eo]
def JH.first(h:JH blt a b out na nb)(e:nb=1)(ha:0<a.size)(hb:0<b.size)(hf:blt (gt b 0) (gt a 0)=af)(hn:0<na):(b.extract 0 nb++a.extract 0 na++out.reverse).toList=mrg blt a.toList b.toList:=by
 subst e;rw[<-h,gn,gn,qQ,qQ,qA];have e1:b.toList.take 1=[gt b 0]:=by rw[TV hb];rfl
 obtain⟨m,rfl⟩:∃m,na=m+1:=⟨na-1,by lia⟩
 have e2:a.toList.take (m+1)=gt a 0::(a.toList.drop 1).take m:=by
  have:=oF ha;rw[List.drop_zero] at this;rw[this];rfl
 rw[e1,e2,jE,av hf,oG];rfl
variable {U:bd->Prop}
theorem leA(O:Ord U blt)(hUa:tX U a)(hUb:tX U b)(hsa:Srt blt a 0 a.size)(hn:n<=a.size)(hi:i<b.size)(hz:z<n)(q:blt (gt b i) (gt a (n-1))=aj):blt (gt b i) (gt a z)=aj:=by
 cases e:blt (gt b i) (gt a z) with
 |false=>rfl
 |true=>
  rcases O.ntr _ (gt a (n-1)) _ (hUb i hi) (hUa _ 0x1) (hUa z 0x1) e with p|p
  .rw[q] at p;cases p
  .rw[hsa z (n-1) 0x1 0x1 0x1] at p;cases p
def aSd(O:Ord U blt)(hUa:tX U a)(hUb:tX U b)(hsb:Srt blt b 0 b.size)(hn:n<=b.size)(hi:i<a.size)(hz:z<n)(q:blt (gt b (n-1)) (gt a i)=af):blt (gt b z) (gt a i)=af:=by
 rcases O.ntr _ (gt b z) _ (hUb (n-1) 0x1) (hUb z 0x1) (hUa i hi) q with p|p
 .rw[hsb z (n-1) 0x1 0x1 0x1] at p;cases p
 .exact p
end
section
variable {prog:cy} {w:bS} {A:cS} {E:ap->ay->Prop} {s:ay} {kd:ka} {U:bd->Prop} {blt:bd->bd->ax}
theorem TX(O:Ord U blt)(hL:ZX prog w A E s kd U blt)(hk:kindOf st=kd)(hUa:tX U a)(hUb:tX U b)(hsa:Srt blt a 0 a.size)(hsb:Srt blt b 0 b.size)
 (ha:0<a.size)(hb:0<b.size)(hf:blt (gt b 0) (gt a 0)=af)(hl:∀i,i<b.size->blt (gt b i) (gt a (a.size-1))=af)
 (h:∀r st',Sim st st'->r.toList=mrg blt a.toList b.toList->Q r st'):dg (az prog w) A E s (aG6 a b) Q st:=by
 with_unfolding_all refine bb (kb (ke ⟨rfl,?_⟩))
 refine bb (cA 0x1 ?_);have J0:JH blt a b #[gt a (a.size-1)] (a.size-1) b.size:=JH.pa (out:=#[]) (by unfold JH;simp[jg]) ha (bi _) (bi _) hl;have sim0:Sim st st:=⟨rfl,rfl,rfl,rfl⟩
 refine eZ (λe=>bf (h _ _ sim0 (J0.Z4 e))) λe1=>eZ (λe=>bf (h _ _ sim0 (J0.first e ha hb hf 0x1))) λe2=>bb (ik (bb (eu (eB
  (I:=λx c st'=>Sim st st'/\∃out na nb mg,c=(ao,na,nb,out,mg)/\JH blt a b out na nb/\0<na/\1<nb/\na<a.size/\nb<=b.size/\x+na+nb<=a.size+b.size)
  (Q:=λc st'=>Sim st st'/\∃r,c.1=ae r/\r.toList=mrg blt a.toList b.toList) ?step ?fin ?init) ?post)))
 case init=>exact⟨sim0,_,_,_,_,rfl,J0,by lia,by lia,by lia,by lia,by lia⟩
 case fin=>
  rintro c st' ⟨_,out,na,nb,mg,rfl,_,h1,h2,h3,h4,h5⟩;lia
 case post=>
  rintro⟨c1,c2⟩ st' ⟨sim,r,rfl,hr⟩;exact bf (h r st' sim hr)
 case step=>
  rintro x₀ c st1 _ hx0 ⟨sim,out,na,nb,mg,rfl,j1,h1,h2,h3,h4,h5⟩;dsimp -zeta only;refine bb (eu (eB
   (I:=λx c st'=>Sim st st'/\∃out na nb ac bc,c=(ao,na,nb,out,ac,bc)/\JH blt a b out na nb/\0<na/\1<nb/\na<a.size/\nb<=b.size/\x₀+na+nb<=a.size+b.size/\x+na+nb<=a.size+b.size)
   (Q:=λc st'=>Sim st st'/\((∃r,c.1=ae r/\r.toList=mrg blt a.toList b.toList)\/∃out na nb ac bc,c=(ao,na,nb,out,ac,bc)/\JH blt a b out na nb/\0<na/\1<nb/\na<a.size/\nb<=b.size/\x₀+1+na+nb<=a.size+b.size)) ?step2 ?fin2 ?init2) ?post2)
  case init2=>exact⟨sim,out,na,nb,_,_,rfl,j1,h1,h2,h3,h4,h5,by lia⟩
  case fin2=>
   rintro c st' ⟨_,out,na,nb,ac,bc,rfl,_,h1,h2,h3,h4,_,h5⟩;lia
  case step2=>
   rintro x c st2 _ hx ⟨sim,out,na,nb,ac,bc,rfl,j2,h1,h2,h3,h4,h5,h6⟩;refine wL λQ hQ=>?_
   have hd:∀r d,r.toList=mrg blt a.toList b.toList->Q (.done (ae r,d)) st2:=λr d e=>hQ _ _ ⟨sim,.inl ⟨r,rfl,e⟩⟩
   have hb':∀out na nb ac bc,JH blt a b out na nb->0<na/\1<nb/\na<a.size/\nb<=b.size/\x₀+1+na+nb<=a.size+b.size->Q (.done (ao,na,nb,out,ac,bc)) st2:=λ_ _ _ _ _ j q=>hQ _ _ ⟨sim,.inr ⟨_,_,_,_,_,rfl,j,q⟩⟩
   have hy:∀out na nb ac bc,JH blt a b out na nb->0<na/\1<nb/\na<a.size/\nb<=b.size/\x₀+na+nb<=a.size+b.size/\x+1+na+nb<=a.size+b.size->Q (.yield (ao,na,nb,out,ac,bc)) st2:=λ_ _ _ _ _ j q=>hQ _ _ ⟨sim,_,_,_,_,_,rfl,j,q⟩
   clear hQ;dsimp only;refine bb (cA (i:=nb-1) 0x1 (bb (cA (i:=na-1) 0x1 (bb (hL _ _ _ _ (hUb _ 0x1) (hUa _ 0x1) (sim.1.trans hk) ?_)))));refine gJ (λq=>bb (cA (i:=na-1) 0x1 ?_)) λq=>bb (cA (i:=nb-1) 0x1 ?_)
   .have j3:=JH.pa j2 0x1 0x1 h4 (λi hi=>aSd O hUa hUb hsb h4 0x1 hi q);exact eZ (λe=>bf (hd _ _ (j3.Z4 e))) λe=>gJ (λ_=>bf (hb' _ _ _ _ _ j3 0x1)) λ_=>bf (hy _ _ _ _ _ j3 0x1)
   .have j3:=JH.pb j2 0x1 0x1 h4 (λi hi=>leA O hUa hUb hsa 0x1 0x1 hi (yY q));exact eZ (λe=>bf (hd _ _ (j3.first e ha hb hf 0x1))) λe=>gJ (λ_=>bf (hb' _ _ _ _ _ j3 0x1)) λ_=>bf (hy _ _ _ _ _ j3 0x1)
  case post2=>
   rintro⟨c1,c2⟩ st2 ⟨sim,⟨r,rfl,hr⟩|⟨out,na,nb,ac,bc,e,j2,h1,h2,h3,h4,h5⟩⟩
   .exact bf ⟨sim,r,rfl,hr⟩
   .cases e;dsimp -zeta only;refine bb (kb (ke ⟨rfl,bb (eu (eB
     (I:=λx c st'=>Sim st st'/\∃out na nb mg ac bc,c=(ao,na,nb,out,mg,ac,bc)/\JH blt a b out na nb/\0<na/\1<nb/\na<a.size/\nb<=b.size/\x₀+1+na+nb<=a.size+b.size/\x+na+nb<=a.size+b.size)
     (Q:=λc st'=>Sim st st'/\((∃r,c.1=ae r/\r.toList=mrg blt a.toList b.toList)\/∃out na nb mg ac bc,c=(ao,na,nb,out,mg,ac,bc)/\JH blt a b out na nb/\0<na/\1<nb/\na<a.size/\nb<=b.size/\x₀+1+na+nb<=a.size+b.size)) ?step3 ?fin3 ?init3) ?post3)⟩))
    case init3=>exact⟨sim,out,na,nb,_,_,_,rfl,j2,h1,h2,h3,h4,h5,by lia⟩
    case fin3=>
     rintro c st' ⟨_,out,na,nb,mg,ac,bc,rfl,_,h1,h2,h3,h4,_,h5⟩;lia
    case post3=>
     rintro⟨c1,c2⟩ st3 ⟨sim,⟨r,rfl,hr⟩|⟨out,na,nb,mg,ac,bc,e,j3,h1,h2,h3,h4,h5⟩⟩
     .exact bf ⟨sim,r,rfl,hr⟩
     .cases e;exact bb (qO (bf ⟨⟨sim.1,sim.2,sim.3,sim.4⟩,_,_,_,_,rfl,j3,h1,h2,h3,h4,by lia⟩))
    case step3=>
     rintro x c st3 _ hx ⟨sim,out,na,nb,mg,ac,bc,rfl,j3,h1,h2,h3,h4,h5,h6⟩;refine wL λQ hQ=>?_
     have hd:∀r d st',Sim st st'->r.toList=mrg blt a.toList b.toList->Q (.done (ae r,d)) st':=λr d _ m e=>hQ _ _ ⟨m,.inl ⟨r,rfl,e⟩⟩
     have hb':∀out na nb mg ac bc st',Sim st st'->JH blt a b out na nb->0<na/\1<nb/\na<a.size/\nb<=b.size/\x₀+1+na+nb<=a.size+b.size->Q (.done (ao,na,nb,out,mg,ac,bc)) st':=λ_ _ _ _ _ _ _ m j q=>hQ _ _ ⟨m,.inr ⟨_,_,_,_,_,_,rfl,j,q⟩⟩
     have hy:∀out na nb mg ac bc st',Sim st st'->JH blt a b out na nb->0<na/\1<nb/\na<a.size/\nb<=b.size/\x₀+1+na+nb<=a.size+b.size/\x+1+na+nb<=a.size+b.size->Q (.yield (ao,na,nb,out,mg,ac,bc)) st':=λ_ _ _ _ _ _ _ m j q=>hQ _ _ ⟨m,_,_,_,_,_,_,rfl,j,q⟩
     clear hQ
     extract_lets -underBinder s0 o1 s1 a1 s2 b1 s3 m1 s4 c1 d1 jp m2
     have K1:∀m,dg (az prog w) A E s (jp () m) Q st3:=λm=>by
      dsimp -zeta only [jp,s0,o1,s1,a1,s2,b1,s3,m1,s4,c1,d1];refine bb (qO ?_);have sim':Sim st (nw (kindOf st3) (au st3) (bo st3) m (gj st3)):=⟨sim.1,sim.2,sim.3,sim.4⟩
      generalize nw (kindOf st3) (au st3) (bo st3) m (gj st3)=st4 at sim' ⊢;have hk':=sim'.1.trans hk;refine bb (cA 0x1 (bb (uU O hL hk' 0x1 hUa (hUb _ 0x1) (λi j i1 i2 i3=>hsa i j 0x1 i2 0x1) 0x1 λat_ hk1 y1 y2=>?_)));dsimp -zeta only;have y1':∀i,i<at_->blt (gt b (nb-1)) (gt a i)=aj:=λi hi=>by have:=y1 i hi;simpa[gp] using this
      have y2':∀i,at_<=i->i<na->blt (gt b (nb-1)) (gt a i)=af:=λi i1 i2=>by have:=y2 i i1 i2;simpa[gp] using this
      clear y1 y2
      extract_lets -underBinder n1 n2 jp2 n3
      have K2:∀na out,JH blt a b out na nb->0<na->na<a.size->x₀+1+na+nb<=a.size+b.size->x+na+nb<=a.size+b.size->(∀z,z<na->blt (gt b (nb-1)) (gt a z)=aj)->dg (az prog w) A E s (jp2 () na out) Q st4:=λna out j1 h1 h3 h5 h6 hz=>by
       dsimp -zeta only [jp2];refine bb (cA 0x1 ?_);have j2:=JH.pb j1 0x1 0x1 0x1 hz;refine eZ (λe=>bf (hd _ _ _ sim' (j2.first e ha hb hf 0x1))) λe=>bb (cA 0x1 (bb (uU O hL hk' 0x1 hUb (hUa _ 0x1) (λi j i1 i2 i3=>hsb i j 0x1 i2 0x1) 0x1 λk1 hk1 y1 y2=>?_)))
       dsimp -zeta only;have y1':∀i,i<k1->blt (gt b i) (gt a (na-1))=af:=λi hi=>by have:=y1 i hi;simpa[gp] using this
       have y2':∀i,k1<=i->i<nb-1->blt (gt b i) (gt a (na-1))=aj:=λi i1 i2=>by have:=y2 i i1 i2;simpa[gp] using this
       clear y1 y2
       extract_lets -underBinder n1 n2 jp3 n3
       have K3:∀nb' out,JH blt a b out na nb'->1<nb'->nb'<nb->(∀z,z<nb'->blt (gt b z) (gt a (na-1))=af)->dg (az prog w) A E s (jp3 () nb' out) Q st4:=λnb' out j3 q1 q2 hz=>by
        dsimp -zeta only [jp3];refine bb (cA 0x1 ?_);have j4:=JH.pa j3 0x1 0x1 0x1 hz;exact eZ (λe=>bf (hd _ _ _ sim' (j4.Z4 e))) λe=>gJ (λ_=>bf (hb' _ _ _ _ _ _ _ sim' j4 0x1)) λ_=>bf (hy _ _ _ _ _ _ _ sim' j4 0x1)
       refine gJ (λkp=>?_) λkp=>K3 _ _ j2 0x1 0x1 λz hz=>y1' z 0x1
       have j3:=JH.gb j2 0x1 0x1 k1 0x1 (λi i1 i2 z hz=>leA O hUa hUb hsa 0x1 0x1 hz (y2' i i1 i2));exact eZ (λe=>bf (hd _ _ _ sim' (j3.first e ha hb hf 0x1))) λe=>eZ (λe=>bf (hd _ _ _ sim' (j3.Z0 e))) λe'=>K3 _ _ j3 0x1 0x1 y1'
      refine gJ (λkp=>?_) λkp=>K2 _ _ j3 h1 h3 h5 h6 λz hz=>y1' z 0x1
      have j1:=JH.ga j3 0x1 0x1 at_ 0x1 (λi i1 i2 z hz=>aSd O hUa hUb hsb 0x1 0x1 hz (y2' i i1 i2));exact eZ (λe=>bf (hd _ _ _ sim' (j1.Z4 e))) λe=>K2 _ _ j1 0x1 0x1 0x1 0x1 y1'
     exact gJ (λ_=>K1 _) λ_=>K1 _
end
section
variable {blt:bd->bd->ax}
def SL(blt:bd->bd->ax)(l:aa bd):Prop:=l.Pairwise λu v=>blt v u=aj
def HB(xs ys:aa bd):(mrg blt xs ys).Perm (xs++ys):=List.merge_perm_append _
def TY:z∈mrg blt xs ys↔z∈xs\/z∈ys:=by
 rw[(HB xs ys).mem_iff,cw]
def Ord.le_trans(O:Ord U blt)(hx:U x)(hy:U y)(hz:U z)(h1:blt y x=aj)(h2:blt z y=aj):blt z x=aj:=by
 cases e:blt z x with
 |false=>rfl
 |true=>
  rcases O.ntr _ y _ hz hy hx e with p|p
  .rw[h2] at p;cases p
  .rw[h1] at p;cases p
def Ord.aFm(O:Ord U blt)(hx:U x)(hy:U y)(h:blt x y=af):blt y x=aj:=by
 cases e:blt y x with
 |false=>rfl
 |true=>
  have:=O.tr _ _ _ hx hy hx h e;rw[O.irr x hx] at this;cases this
theorem aBp(O:Ord U blt):∀(xs ys:aa bd),(∀z∈xs,U z)->(∀z∈ys,U z)->SL blt xs->SL blt ys->SL blt (mrg blt xs ys)
 |[],ys,_,_,_,h=>by rw[rT];exact h
 |x::xs,[],_,_,h,_=>by rw[oG];exact h
 |x::xs,y::ys,ux,uy,sx,sy=>by
  rw[jE];have ux0:=ux x (bw ..);have uy0:=uy y (bw ..);have sx':=iX.mp sx;have sy':=iX.mp sy;by_cases q:blt y x=af
  .rw[av q];refine iX.mpr ⟨λz hz=>?_,aBp O (x::xs) ys ux (λz hz=>uy z (bu _ hz)) sx sy'.2⟩;rcases TY.mp hz with hz|hz
   .rcases bq.mp hz with rfl|hz
    .exact O.aFm uy0 ux0 q
    .exact O.le_trans uy0 ux0 (ux z (bu _ hz)) (O.aFm uy0 ux0 q) (sx'.1 z hz)
   .exact sy'.1 z hz
  .rw[aw q];have q':blt y x=aj:=by simpa using q
   refine iX.mpr ⟨λz hz=>?_,aBp O xs (y::ys) (λz hz=>ux z (bu _ hz)) uy sx'.2 sy⟩;rcases TY.mp hz with hz|hz
   .exact sx'.1 z hz
   .rcases bq.mp hz with rfl|hz
    .exact q'
    .exact O.le_trans ux0 uy0 (uy z (bu _ hz)) q' (sy'.1 z hz)
 termination_by xs ys=>xs.length+ys.length
noncomputable def str(a:ba bd)(lo n:ai):aa bd:=(a.toList.drop lo).take n
theorem mV(hi:i<n)(h:lo+n<=a.size):(str a lo n)[i]?=ae (gt a (lo+i)):=by
 unfold str;rw[oP hi,nK,iu];exact oE 0x1
theorem str_len(h:lo+n<=a.size):(str a lo n).length=n:=by
 unfold str;rw[ig,jd,gz];lia
theorem Srt.sl(h:Srt blt a lo (lo+n))(hn:lo+n<=a.size):SL blt (str a lo n):=by
 unfold SL;rw[vc];intro i j hi hj hij;rw[str_len hn] at hi hj;have e1:=mV hi hn;have e2:=mV hj hn;rw[eh (by rw[str_len hn];exact hi)] at e1;rw[eh (by rw[str_len hn];exact hj)] at e2;rw[c5 e1,c5 e2];exact h _ _ 0x1 0x1 0x1
theorem SL.srt(O:Ord U blt)(hU:tX U a)(h:SL blt (str a lo n))(hn:lo+n<=a.size):Srt blt a lo (lo+n):=by
 intro i j h1 h2 h3;by_cases e:i=j
 .subst e;exact O.irr _ (hU _ 0x1)
 .unfold SL at h;rw[vc] at h;have q:=h (i-lo) (j-lo) (by rw[str_len hn];lia) (by rw[str_len hn];lia) 0x1;have e1:=mV (i:=i-lo) 0x1 hn;have e2:=mV (a:=a) (lo:=lo) (i:=j-lo) (n:=n) 0x1 hn;rw[eh (by rw[str_len hn];lia)] at e1 e2;rw[c5 e1,c5 e2,show lo+(i-lo)=i by lia,show lo+(j-lo)=j by lia] at q;exact q
def T3(a:ba bd)(lo m n:ai):str a lo (m+n)=str a lo m++str a (lo+m) n:=by
 unfold str;rw[List.take_add,zb]
theorem HD(h:z∈str a lo n):∃i,lo<=i/\i<lo+n/\i<a.size/\z=gt a i:=by
 obtain⟨i,hi,e⟩:=nL h;unfold str at hi;rw[ig,jd,gz] at hi;refine⟨lo+i,by lia,by lia,by lia,?_⟩;have h2:(str a lo n)[i]?=ae z:=by rw[<-e];exact eh _
 unfold str at h2;rw[oP 0x1,nK,iu,oE 0x1] at h2;exact(c5 h2).symm
def aBq(a:ba bd)(i j:ai):(a.extract i j).toList=str a i (j-i):=by
 unfold str;rw[nE,nI]
noncomputable def put(a:ba bd)(off:ai)(l:aa bd):ba bd:=l.zipIdx.foldl (λa (p,j)=>a.setIfInBounds (off+j) p) a
theorem aI5(off:ai):∀(l:aa bd)(k:ai)(a:ba bd),off+k+l.length<=a.size->
  ((l.zipIdx k).foldl (λa (p,j)=>a.setIfInBounds (off+j) p) a).toList=a.toList.take (off+k)++l++a.toList.drop (off+k+l.length)
 |[],k,a,_=>by simp
 |x::l,k,a,h=>by
  rw[zc,jh];rw[cr] at h;rw[aI5 off l (k+1) _ (by rw[zd];lia)];rw[zf];have e1:(a.toList.set (off+k) x).take (off+(k+1))=a.toList.take (off+k)++[x]:=by
   rw[show off+(k+1)=(off+k)+1 by lia,qz,List.take_set_of_le (bi _),gw (by rw[gz];lia)];rfl
  have e2:(a.toList.set (off+k) x).drop (off+(k+1)+l.length)=a.toList.drop (off+k+(x::l).length):=by
   rw[List.drop_set_of_lt 0x1,cr]
   congr 1
   lia
  rw[e1,e2];simp
theorem HF(h:off+l.length<=a.size):(put a off l).toList=a.toList.take off++l++a.toList.drop (off+l.length):=by
 have:=aI5 off l 0 a 0x1;rw[vd] at this;exact this
def T4:gt a i=a.toList.getD i dk:=by
 unfold gt;by_cases h:i<a.size
 .simp[iS,h]
 .simp[iS,h]
structure Stp(lo hi:ai)(st st':ff):Prop where
 kd:kindOf st'=kindOf st
 fl:gj st'=gj st
 pm:(au st').Perm (au st)
 out:∀j,j<lo\/hi<=j->gt (au st') j=gt (au st) j
def Stp.sz(h:Stp lo hi st st'):(au st').size=(au st).size:=h.pm.size_eq
def bJ(hU:tX U a)(p:b.Perm a):tX U b:=λi hi=>by
 have:gt b i∈b.toList:=by
  rw[T4,eJ,eh (by simpa using hi)];exact im _
 obtain⟨j,hj,e⟩:=aI4 ((ve.mp p).mem_iff.mp this);rw[e];exact hU j hj
theorem Srt.mono(h:Srt blt a lo hi)(h1:lo<=lo')(h2:hi'<=hi):Srt blt a lo' hi':=λi j a1 a2 a3=>h i j 0x1 a2 0x1
theorem Srt.out(h:Srt blt a lo hi)(e:∀j,lo<=j->j<hi->gt b j=gt a j):Srt blt b lo hi:=λi j a1 a2 a3=>by
 rw[e i 0x1 0x1,e j 0x1 a3];exact h i j a1 a2 a3
def Z5(a:ba bd)(i m n:ai):a.toList=a.toList.take i++(str a i m++str a (i+m) n)++a.toList.drop (i+(m+n)):=by
 rw[<-T3];unfold str;rw[c6,<-zb,l7,l7]
theorem aJw(h:off+l.length<=a.size):str (put a off l) off l.length=l:=by
 unfold str;rw[HF h,c6,List.drop_left' (by rw[ig,gz];lia),List.take_left' rfl]
theorem yE(h:off+l.length<=a.size)(hj:j<off\/off+l.length<=j):gt (put a off l) j=gt a j:=by
 rw[T4,T4,HF h,eJ,eJ]
 congr 1
 have hl:(a.toList.take off).length=off:=by rw[ig,gz];lia
 rcases hj with hj|hj
 .rw[c6,jx 0x1,oP hj]
 .rw[iL (by rw[cb];lia),cb,hl,nK]
  congr 1
  lia
end
section
def aJx{st:σ}{Q:PUnit->σ->Prop}(h:Q ⟨⟩ st'):dg M A E s (set st':lT σ fF PUnit) Q st:=by
 unfold dg;rw[StateT.run_set];exact bm ⟨rfl,h⟩
theorem T5(O:Ord U blt)(hL:ZX prog w A E s kd U blt)(hk:kindOf st=kd)(hU:tX U (au st))(hF:gj st=ao)
 (p1:(bo st)[i]?=ae (sa,na,pw))(p2:(bo st)[i+1]?=ae (sb,nb,pw2))(hsb:sb=sa+na)(hsz:sb+nb<=(au st).size)(hna:0<na)(hnb:0<nb)
 (s1:Srt blt (au st) sa (sa+na))(s2:Srt blt (au st) sb (sb+nb))
 (h:∀st',Stp sa (sb+nb) st st'->Srt blt (au st') sa (sb+nb)->bo st'=((bo st).setIfInBounds i (sa,na+nb,pw)).eraseIdxIfInBounds (i+1)->Q af st') :
  dg (az prog w) A E s (mergeAt' i) Q st:=by
 subst hsb
 with_unfolding_all refine bb (ik ?_)
 dsimp only;rw[p1,p2];dsimp only;refine bb (aJx ?_);have hk':kindOf (qB st (((bo st).setIfInBounds i (sa,na+nb,pw)).eraseIdxIfInBounds (i+1)))=kd:=hk;refine bb (cA (arr:=au st) 0x1 ?_);refine bb (uU (arr:=au st) O hL hk' 0x1 hU (hU _ 0x1) (s1.mono (bi _) 0x1) 0x1 λk hk1 y1 y2=>?_);dsimp only;have y1':∀i,i<k->blt (gt (au st) (sa+na)) (gt (au st) (sa+i))=aj:=λi hi=>by have:=y1 i hi;simpa[gp] using this
 have y2':∀i,k<=i->i<na->blt (gt (au st) (sa+na)) (gt (au st) (sa+i))=af:=λi i1 i2=>by have:=y2 i i1 i2;simpa[gp] using this
 -- the whole stretch is sorted as soon as the first part's last is no more than the second's first
 have whole:(∀i j,sa<=i->i<sa+na->sa+na<=j->j<sa+na+nb->blt (gt (au st) j) (gt (au st) i)=aj)->Srt blt (au st) sa (sa+na+nb):=λq i j a1 a2 a3=>by
  by_cases c1:j<sa+na
  .exact s1 i j a1 a2 c1
  .by_cases c2:sa+na<=i
   .exact s2 i j c2 a2 a3
   .exact q i j a1 0x1 0x1 a3
 have stp0:Stp sa (sa+na+nb) st (qB st (((bo st).setIfInBounds i (sa,na+nb,pw)).eraseIdxIfInBounds (i+1))):=⟨rfl,rfl,nS _,λ_ _=>rfl⟩
 by_cases e1:na-k=0
 .rw[av (by simpa using e1)];refine bf (h _ stp0 (whole λi j i1 i2 j1 j2=>?_) rfl);have q:=y1' (i-sa) 0x1;rw[show sa+(i-sa)=i by lia] at q;exact O.le_trans (hU _ 0x1) (hU _ 0x1) (hU _ 0x1) q (s2 _ _ (bi _) j1 j2)
 rw[aw (by simpa using e1)];refine bb (cA (arr:=au st) 0x1 ?_);refine bb (uU (arr:=au st) O hL hk' 0x1 hU (hU _ 0x1) (s2.mono (bi _) 0x1) 0x1 λnb' hnb1 z1 z2=>?_);dsimp only;have ez:sa+k+(na-k)-1=sa+na-1:=by lia
 have z1':∀i,i<nb'->blt (gt (au st) (sa+na+i)) (gt (au st) (sa+na-1))=af:=λi hi=>by have:=z1 i hi;rw[ez] at this;simpa[gp] using this
 have z2':∀i,nb'<=i->i<nb->blt (gt (au st) (sa+na+i)) (gt (au st) (sa+na-1))=aj:=λi i1 i2=>by have:=z2 i i1 i2;rw[ez] at this;simpa[gp] using this
 by_cases e2:nb'=0
 .rw[av (by simpa using e2)];refine bf (h _ stp0 (whole λi j i1 i2 j1 j2=>?_) rfl);have q:=z2' (j-(sa+na)) 0x1 0x1;rw[show sa+na+(j-(sa+na))=j by lia] at q;exact O.le_trans (hU _ 0x1) (hU (sa+na-1) 0x1) (hU _ 0x1) (s1 i (sa+na-1) i1 0x1 0x1) q
 rw[aw (by simpa using e2)];have ex:((au st).extract (sa+k) (sa+na)).toList=str (au st) (sa+k) (na-k):=by rw[aBq];congr 1;lia
 have ey:((au st).extract (sa+na) (sa+na+nb')).toList=str (au st) (sa+na) nb':=by rw[aBq];congr 1;lia
 have zx:((au st).extract (sa+k) (sa+na)).size=na-k:=by rw[zg];lia
 have zy:((au st).extract (sa+na) (sa+na+nb')).size=nb':=by rw[zg];lia
 have gx:∀i,i<na-k->gt ((au st).extract (sa+k) (sa+na)) i=gt (au st) (sa+k+i):=λi hi=>by
  have e:=mV (a:=au st) (lo:=sa+k) (i:=i) (n:=na-k) hi 0x1;rw[<-ex,iu,oE 0x1] at e;exact c5 e
 have gy:∀i,i<nb'->gt ((au st).extract (sa+na) (sa+na+nb')) i=gt (au st) (sa+na+i):=λi hi=>by
  have e:=mV (a:=au st) (lo:=sa+na) (i:=i) (n:=nb') hi 0x1;rw[<-ey,iu,oE 0x1] at e;exact c5 e
 have fin:∀(r:ba bd)(st2:ff),Sim (qB st (((bo st).setIfInBounds i (sa,na+nb,pw)).eraseIdxIfInBounds (i+1))) st2->
   r.toList=mrg blt ((au st).extract (sa+k) (sa+na)).toList ((au st).extract (sa+na) (sa+na+nb')).toList->
   dg (az prog w) A E s (do
    modify λs=>dL s (r.toList.zipIdx.foldl (λa (p,j)=>a.setIfInBounds (sa+k+j) p) (au s))
    return (gj (<- get)).isNone) Q st2:=by
  intro r st2 sim hr;rw[ex,ey] at hr;have hlen:r.toList.length=(na-k)+nb':=by
   rw[hr,(HB _ _).length_eq,cb,str_len 0x1,str_len 0x1]
  have hfit:sa+k+r.toList.length<=(au st).size:=by lia
  have ear:au st2=au st:=sim.ar;refine bb (jf (bb (ik (bf ?_))));show Q (gj st2).isNone (dL st2 (put (au st2) (sa+k) r.toList));rw[sim.fl,show gj (qB st _)=ao from hF,ear];have hp:(put (au st) (sa+k) r.toList).Perm (au st):=by
   rw[ve,HF hfit,hlen];have sp:=Z5 (au st) (sa+k) (na-k) nb';rw[show sa+k+(na-k)=sa+na by lia] at sp
   conv=>rhs;rw[sp]
   rw[hr];exact(((HB _ _).append_left _).append_right _)
  have hU':=bJ hU hp;refine h _ ⟨sim.kd,sim.fl,hp,λj hj=>?_⟩ ?_ ?_
  .show gt (put (au st) (sa+k) r.toList) j=gt (au st) j;exact yE hfit 0x1
  .show Srt blt (put (au st) (sa+k) r.toList) sa (sa+na+nb);have hsz':(put (au st) (sa+k) r.toList).size=(au st).size:=hp.size_eq;have e0:str (put (au st) (sa+k) r.toList) (sa+k) ((na-k)+nb')=mrg blt (str (au st) (sa+k) (na-k)) (str (au st) (sa+na) nb'):=by
    rw[<-hlen,aJw hfit,hr]
   have ux:∀z∈str (au st) (sa+k) (na-k),U z:=λz hz=>by obtain⟨i,_,_,i3,rfl⟩:=HD hz;exact hU i i3
   have uy:∀z∈str (au st) (sa+na) nb',U z:=λz hz=>by obtain⟨i,_,_,i3,rfl⟩:=HD hz;exact hU i i3
   have sm:SL blt (mrg blt (str (au st) (sa+k) (na-k)) (str (au st) (sa+na) nb')):=
    aBp O _ _ ux uy (Srt.sl (s1.mono 0x1 0x1) 0x1) (Srt.sl (s2.mono (bi _) 0x1) 0x1)
   have mid:Srt blt (put (au st) (sa+k) r.toList) (sa+k) (sa+k+((na-k)+nb')):=SL.srt O hU' (by rw[e0];exact sm) 0x1;have inmid:∀j,sa+k<=j->j<sa+na+nb'->∃q,gt (put (au st) (sa+k) r.toList) j=gt (au st) q/\((sa+k<=q/\q<sa+na)\/(sa+na<=q/\q<sa+na+nb')):=by
    intro j j1 j2;have e:=mV (a:=put (au st) (sa+k) r.toList) (lo:=sa+k) (i:=j-(sa+k)) (n:=(na-k)+nb') 0x1 0x1;rw[e0,show sa+k+(j-(sa+k))=j by lia] at e;have hm:=lu e;rcases TY.mp hm with hm|hm
    .obtain⟨q,q1,q2,q3,q4⟩:=HD hm;exact⟨q,q4,.inl ⟨q1,by lia⟩⟩
    .obtain⟨q,q1,q2,q3,q4⟩:=HD hm;exact⟨q,q4,.inr ⟨q1,q2⟩⟩
   intro i j a1 a2 a3
   -- three zones
   by_cases ci:i<sa+k
   .have ei:gt (put (au st) (sa+k) r.toList) i=gt (au st) i:=yE hfit 0x1;by_cases cj:j<sa+k
    .have ej:gt (put (au st) (sa+k) r.toList) j=gt (au st) j:=yE hfit 0x1;rw[ei,ej];exact s1 i j a1 a2 0x1
    .have yi:=y1' (i-sa) 0x1;rw[show sa+(i-sa)=i by lia] at yi;have leB:∀q,sa+na<=q->q<sa+na+nb->blt (gt (au st) q) (gt (au st) i)=aj:=λq q1 q2=>
      O.le_trans (hU _ 0x1) (hU _ 0x1) (hU _ 0x1) yi (s2 _ _ (bi _) q1 q2)
     by_cases cj2:j<sa+na+nb'
     .obtain⟨q,eq,hq⟩:=inmid j 0x1 cj2;rw[ei,eq];rcases hq with ⟨q1,q2⟩|⟨q1,q2⟩
      .exact s1 i q a1 0x1 q2
      .exact leB q q1 0x1
     .have ej:gt (put (au st) (sa+k) r.toList) j=gt (au st) j:=yE hfit 0x1;rw[ei,ej];exact leB j 0x1 a3
   .by_cases ci2:i<sa+na+nb'
    .by_cases cj2:j<sa+na+nb'
     .exact mid i j 0x1 a2 0x1
     .have ej:gt (put (au st) (sa+k) r.toList) j=gt (au st) j:=yE hfit 0x1;obtain⟨q,eq,hq⟩:=inmid i 0x1 ci2;rw[eq,ej];rcases hq with ⟨q1,q2⟩|⟨q1,q2⟩
      .have zj:=z2' (j-(sa+na)) 0x1 0x1;rw[show sa+na+(j-(sa+na))=j by lia] at zj;exact O.le_trans (hU _ 0x1) (hU (sa+na-1) 0x1) (hU _ 0x1) (s1 q (sa+na-1) 0x1 0x1 0x1) zj
      .exact s2 q j q1 0x1 a3
    .have ei:gt (put (au st) (sa+k) r.toList) i=gt (au st) i:=yE hfit 0x1;have ej:gt (put (au st) (sa+k) r.toList) j=gt (au st) j:=yE hfit 0x1;rw[ei,ej];exact s2 i j 0x1 a2 a3
  .show bo st2=_;exact sim.pd
 have hUx:tX U ((au st).extract (sa+k) (sa+na)):=λi hi=>by rw[zx] at hi;rw[gx i hi];exact hU _ 0x1
 have hUy:tX U ((au st).extract (sa+na) (sa+na+nb')):=λi hi=>by rw[zy] at hi;rw[gy i hi];exact hU _ 0x1
 have hsx:Srt blt ((au st).extract (sa+k) (sa+na)) 0 ((au st).extract (sa+k) (sa+na)).size:=λi j a1 a2 a3=>by
  rw[zx] at a3;rw[gx i 0x1,gx j a3];exact s1 _ _ 0x1 0x1 0x1
 have hsy:Srt blt ((au st).extract (sa+na) (sa+na+nb')) 0 ((au st).extract (sa+na) (sa+na+nb')).size:=λi j a1 a2 a3=>by
  rw[zy] at a3;rw[gy i 0x1,gy j a3];exact s2 _ _ 0x1 0x1 0x1
 have hfst:blt (gt ((au st).extract (sa+na) (sa+na+nb')) 0) (gt ((au st).extract (sa+k) (sa+na)) 0)=af:=by
  rw[gx 0 0x1,gy 0 0x1];exact y2' k (bi _) 0x1
 have hlst:∀i,i<((au st).extract (sa+na) (sa+na+nb')).size->blt (gt ((au st).extract (sa+na) (sa+na+nb')) i) (gt ((au st).extract (sa+k) (sa+na)) (((au st).extract (sa+k) (sa+na)).size-1))=af:=λi hi=>by
  rw[zy] at hi;rw[zx,gx (na-k-1) 0x1,gy i hi,show sa+k+(na-k-1)=sa+na-1 by lia];exact z1' i hi
 by_cases ce:na-k<=nb'
 .rw[av ce];exact bb (TQ (a:=(au st).extract (sa+k) (sa+na)) (b:=(au st).extract (sa+na) (sa+na+nb')) O hL hk' hUx hUy hsx hsy 0x1 0x1 hfst hlst fin)
 .rw[aw ce];exact bb (TX (a:=(au st).extract (sa+k) (sa+na)) (b:=(au st).extract (sa+na) (sa+na+nb')) O hL hk' hUx hUy hsx hsy 0x1 0x1 hfst hlst fin)
end
section
variable {blt:bd->bd->ax}
def Eqv(blt:bd->bd->ax)(x y:bd):Prop:=blt x y=aj/\blt y x=aj
def Eqv.aFn(O:Ord U blt)(h:U x):Eqv blt x x:=⟨O.irr x h,O.irr x h⟩
def Eqv.symm(h:Eqv blt x y):Eqv blt y x:=⟨h.2,h.1⟩
def Eqv.trans(O:Ord U blt)(hx:U x)(hy:U y)(hz:U z)(h:Eqv blt x y)(g:Eqv blt y z):Eqv blt x z:=⟨O.le_trans hz hy hx g.1 h.1,O.le_trans hx hy hz h.2 g.2⟩
def NonInc(blt:bd->bd->ax)(a:ba bd)(lo n:ai):Prop:=∀i j,lo<=i->i<=j->j<lo+n->blt (gt a i) (gt a j)=aj
def aQa(a:ba bd)(i:ai):gt a i=(a[i]?).getD dk:=by
 unfold gt;by_cases h:i<a.size
 .simp[iS,h]
 .simp[iS,h]
def oH(hj:j<=a.size)(k:ai):gt (dn a i j ((j-i) / 2)) k=if i<=k/\k<j then gt a (i+j-1-k) else gt a k:=by
 rw[aQa,getElem?_mirror_all hj];split<;>rw[aQa]
theorem Stp.mir(h:Stp lo hi st st')(hi':lo<=i)(hj:j<=hi)(hs:j<=(au st').size):Stp lo hi st (dL st' (dn (au st') i j ((j-i) / 2))):=
 ⟨h.kd,h.fl,(kf _ _ _ _).trans h.pm,λk hk=>by
  show gt (dn (au st') i j ((j-i) / 2)) k=_;rw[oH hs,aw 0x1];exact h.out k hk⟩
theorem tY(O:Ord U blt)(hU:tX U a)(hx:lo+x<a.size)(h0:1<=x)(h:Srt blt a lo (lo+x))(e:blt (gt a (lo+x)) (gt a (lo+x-1))=aj):Srt blt a lo (lo+(x+1)):=λi j a1 a2 a3=>by
 by_cases c:j<lo+x
 .exact h i j a1 a2 c
 .obtain rfl:j=lo+x:=by lia
  by_cases d:i=lo+x
  .rw[d];exact O.irr _ (hU _ hx)
  .exact O.le_trans (hU _ 0x1) (hU _ 0x1) (hU _ hx) (h i (lo+x-1) a1 0x1 0x1) e
def uV(O:Ord U blt)(hU:tX U a)(hx:lo+x<a.size)(h0:1<=x)(h:NonInc blt a lo x)(e:blt (gt a (lo+x-1)) (gt a (lo+x))=aj):NonInc blt a lo (x+1):=λi j a1 a2 a3=>by
 by_cases c:j<lo+x
 .exact h i j a1 a2 c
 .obtain rfl:j=lo+x:=by lia
  by_cases d:i=lo+x
  .rw[d];exact O.irr _ (hU _ hx)
  .exact O.le_trans (hU _ hx) (hU _ 0x1) (hU _ 0x1) e (h i (lo+x-1) a1 0x1 0x1)
theorem HH(hs:lo+m<=a.size)(h:NonInc blt a lo m):Srt blt (dn a lo (lo+m) ((lo+m-lo) / 2)) lo (lo+m):=λi j a1 a2 a3=>by
 rw[oH hs,oH hs,av 0x1,av 0x1];exact h _ _ 0x1 0x1 0x1
theorem HJ(O:Ord U blt)(hU:tX U a)(hs:lo+m<=a.size)(hq:neq+1<=m)(h:∀i,lo+m-(neq+1)<=i->i<lo+m->Eqv blt (gt a i) (gt a (lo+m-1))) :
  ∀k,k<a.size->Eqv blt (gt (dn a (lo+m-(neq+1)) (lo+m) ((lo+m-(lo+m-(neq+1))) / 2)) k) (gt a k):=λk hk=>by
 rw[oH hs];by_cases c:lo+m-(neq+1)<=k/\k<lo+m
 .rw[av c];exact(h _ 0x1 0x1).trans O (hU _ 0x1) (hU _ 0x1) (hU _ 0x1) (h k c.1 c.2).symm
 .rw[aw c];exact Eqv.aFn O (hU _ hk)
theorem O1(O:Ord U blt)(hU:tX U a)(hV:tX U b)(hs:lo+n<=a.size)(ht:lo+n<=b.size)(h:NonInc blt a lo n)(e:∀k,k<a.size->Eqv blt (gt b k) (gt a k)):NonInc blt b lo n:=λi j a1 a2 a3=>
 O.le_trans (hV j 0x1) (hU j 0x1) (hV i 0x1) (e j 0x1).2 (O.le_trans (hU j 0x1) (hU i 0x1) (hV i 0x1) (h i j a1 a2 a3) (e i 0x1).1)
end
section
def wpS_ltAt(hL:ZX prog w A E s kd U blt)(hk:kindOf st=kd)(hU:tX U (au st))(hi:i<(au st).size)(hj:j<(au st).size)
 (h:Q (ae (blt (gt (au st) i) (gt (au st) j))) st):dg (az prog w) A E s (ltAt' i j) Q st:=by
 rw[ltAt'_eq];exact bb (ik (bb (cA hi (bb (cA hj (hL _ _ _ _ (hU _ hi) (hU _ hj) hk h))))))
noncomputable abbrev mrA(st3:ff)(lo m neq:ai):ff:=dL st3 (dn (au st3) (lo+m-(neq+1)) (lo+m) ((lo+m-(lo+m-(neq+1))) / 2))
noncomputable abbrev mrB(st3:ff)(lo m:ai):ff:=dL st3 (dn (au st3) lo (lo+m) ((lo+m-lo) / 2))
theorem wpS_countRun(O:Ord U blt)(hL:ZX prog w A E s kd U blt)(hk:kindOf st=kd)(hU:tX U (au st))(hn:lo+nrem<=(au st).size)(h1:1<=nrem)
 (h:∀m st',Stp lo (lo+nrem) st st'->bo st'=bo st->1<=m->m<=nrem->Srt blt (au st') lo (lo+m)->Q (ae m) st'):dg (az prog w) A E s (countRun' lo nrem) Q st:=by
 rw[countRun'_eq];have stp0:Stp lo (lo+nrem) st st:=⟨rfl,rfl,nS _,λ_ _=>rfl⟩
 refine bb (eu (eB
  (I:=λx c st'=>st'=st/\c=(ao,x)/\Srt blt (au st) lo (lo+x))
  (Q:=λc st'=>st'=st/\∃m,c=(ao,m)/\1<=m/\m<=nrem/\Srt blt (au st) lo (lo+m)/\(m=nrem\/(m<nrem/\blt (gt (au st) (lo+m)) (gt (au st) (lo+m-1))=af))) ?step ?fin ?init) ?post)
 case init=>exact⟨rfl,rfl,λi j a1 a2 a3=>by rw[show i=lo by lia,show j=lo by lia];exact O.irr _ (hU _ 0x1)⟩
 case fin=>
  rintro c st' ⟨rfl,rfl,q⟩;rw[show max 1 nrem=nrem by lia] at q ⊢;exact⟨rfl,nrem,rfl,h1,bi _,q,.inl rfl⟩
 case step=>
  rintro x c st' x1 x2 ⟨rfl,rfl,q⟩;dsimp only;refine bb (wpS_ltAt hL hk hU 0x1 0x1 ?_);dsimp only;cases e:blt (gt (au st') (lo+x)) (gt (au st') (lo+x-1)) with
  |true=>
   simp only[cq];exact bf ⟨rfl,x,rfl,x1,by lia,q,.inr ⟨x2,e⟩⟩
  |false=>
   simp only[dm,ck];exact bf ⟨rfl,rfl,tY O hU 0x1 x1 q e⟩
 case post=>
  rintro c st ⟨hst,n,rfl,n1,n2,q,hor⟩;have hst:=hst.symm;subst hst;dsimp only;by_cases hnn:n=nrem
  .rw[av (by simpa using hnn)];exact bf (h n _ stp0 rfl n1 n2 q)
  rw[aw (by simpa using hnn)];obtain⟨n3,hlt⟩:=hor.resolve_left hnn;by_cases hgt:n > 1
  .rw[av hgt];refine bb (wpS_ltAt hL hk hU 0x1 0x1 ?_);dsimp only;cases e:blt (gt (au st) lo) (gt (au st) (lo+n-1)) with
   |true=>
    simp only[cq];exact bf (h n _ stp0 rfl n1 n2 q)
   |false=>
    simp only[dm,ck];refine bb (ji ?_);have stp2:Stp lo (lo+nrem) st (dL st (dn (au st) lo (lo+n) ((lo+n-lo) / 2))):=stp0.mir (bi _) 0x1 0x1;have pd2:bo (dL st (dn (au st) lo (lo+n) ((lo+n-lo) / 2)))=bo st:=rfl;have ev:∀i,lo<=i->i<lo+n->Eqv blt (gt (au st) i) (gt (au st) (lo+n-1)):=λi i1 i2=>by
     refine⟨?_,q i (lo+n-1) i1 0x1 0x1⟩
     .cases z:blt (gt (au st) i) (gt (au st) (lo+n-1)) with
      |false=>rfl
      |true=>
       rcases O.ntr _ (gt (au st) lo) _ (hU i 0x1) (hU lo 0x1) (hU (lo+n-1) 0x1) z with p|p
       .rw[q lo i (bi _) i1 i2] at p;cases p
       .rw[e] at p;cases p
    have hm:∀k,k<(au st).size->Eqv blt (gt (dn (au st) lo (lo+n) ((lo+n-lo) / 2)) k) (gt (au st) k):=λk hk'=>by
     rw[oH 0x1];by_cases c:lo<=k/\k<lo+n
     .rw[av c];exact(ev _ 0x1 0x1).trans O (hU _ 0x1) (hU _ 0x1) (hU _ 0x1) (ev k c.1 c.2).symm
     .rw[aw c];exact Eqv.aFn O (hU _ hk')
    have ni1:NonInc blt (au st) lo n:=λi j a1 a2 a3=>((ev i a1 0x1).trans O (hU _ 0x1) (hU _ 0x1) (hU _ 0x1) (ev j 0x1 a3).symm).1
    have ni2:NonInc blt (au (dL st (dn (au st) lo (lo+n) ((lo+n-lo) / 2)))) lo (n+1):=
     O1 O hU (bJ hU (kf _ _ _ _)) 0x1 (by show lo+(n+1)<=(dn _ _ _ _).size;rw[kQ];lia) (uV O hU 0x1 n1 ni1 (O.aFm (hU _ 0x1) (hU _ 0x1) hlt)) hm
    refine bb (kb (ke ⟨rfl,?_⟩));refine bb (eu (eB
     (I:=λx c st'=>∃neq,c=(ao,x,neq)/\Stp lo (lo+nrem) st st'/\bo st'=bo st/\NonInc blt (au st') lo x/\neq+1<=x/\∀i,lo+x-(neq+1)<=i->i<lo+x->Eqv blt (gt (au st') i) (gt (au st') (lo+x-1)))
     (Q:=λc st'=>∃m neq,c=(ao,m,neq)/\n+1<=m/\m<=nrem/\Stp lo (lo+nrem) st st'/\bo st'=bo st/\NonInc blt (au st') lo m/\neq+1<=m/\∀i,lo+m-(neq+1)<=i->i<lo+m->Eqv blt (gt (au st') i) (gt (au st') (lo+m-1))) ?dstep ?dfin ?dinit) ?dpost)
    case dinit=>exact⟨0,rfl,stp2,pd2,ni2,by lia,λi i1 i2=>by rw[show i=lo+(n+1)-1 by lia];exact Eqv.aFn O (bJ hU stp2.pm _ (by rw[stp2.sz];lia))⟩
    case dfin=>
     rintro c st' ⟨neq,rfl,q1,q2,q3,q4,q5⟩;rw[show max (n+1) nrem=nrem by lia] at q3 q4 q5 ⊢;exact⟨nrem,neq,rfl,by lia,bi _,q1,q2,q3,q4,q5⟩
    case dstep=>
     rintro x c st' x1 x2 ⟨neq,rfl,q1,q2,q3,q4,q5⟩;dsimp only;have hUx:=bJ hU q1.pm;have hzx:lo+nrem<=(au st').size:=by rw[q1.sz];lia
     refine bb (wpS_ltAt hL (q1.kd.trans hk) hUx 0x1 0x1 ?_);dsimp only;cases e:blt (gt (au st') (lo+x)) (gt (au st') (lo+x-1)) with
     |true=>
      simp only[cq];have ni':NonInc blt (au st') lo (x+1):=uV O hUx 0x1 0x1 q3 (O.aFm (hUx _ 0x1) (hUx _ 0x1) e);by_cases hq:neq > 0
      .rw[av hq];refine bb (ji (bf ⟨0,rfl,q1.mir 0x1 0x1 0x1,q2,?_,by lia,λi i1 i2=>?_⟩))
       .exact O1 O hUx (bJ hUx (kf _ _ _ _)) 0x1 (by rw[kQ];lia) ni' (HJ O hUx 0x1 0x1 q5)
       .rw[show i=lo+(x+1)-1 by lia];exact Eqv.aFn O (bJ hUx (kf _ _ _ _) _ (by rw[kQ];lia))
      .rw[aw hq];exact bf ⟨0,rfl,q1,q2,ni',by lia,λi i1 i2=>by rw[show i=lo+(x+1)-1 by lia];exact Eqv.aFn O (hUx _ 0x1)⟩
     |false=>
      simp only[dm,ck];refine bb (wpS_ltAt hL (q1.kd.trans hk) hUx 0x1 0x1 ?_);dsimp only;cases e2:blt (gt (au st') (lo+x-1)) (gt (au st') (lo+x)) with
      |true=>
       simp only[cq];exact bf ⟨x,neq,rfl,x1,by lia,q1,q2,q3,q4,q5⟩
      |false=>
       simp only[dm,ck];refine bf ⟨neq+1,rfl,q1,q2,uV O hUx 0x1 0x1 q3 e2,by lia,λi i1 i2=>?_⟩;rw[show lo+(x+1)-1=lo+x by lia];by_cases c:i=lo+x
       .rw[c];exact Eqv.aFn O (hUx _ 0x1)
       .exact(q5 i 0x1 0x1).trans O (hUx _ 0x1) (hUx _ 0x1) (hUx _ 0x1) ⟨e2,e⟩
    case dpost=>
     rintro c st3 ⟨m,neq,rfl,m1,m2,q1,q2,q3,q4,q5⟩;dsimp only;have hU3:=bJ hU q1.pm;have hz3:lo+nrem<=(au st3).size:=by rw[q1.sz];lia
     by_cases hq:neq > 0
     .rw[av hq];refine bb (ji ?_);have stp4:=q1.mir (i:=lo+m-(neq+1)) (j:=lo+m) 0x1 0x1 0x1;have ni4:NonInc blt (dn (au st3) (lo+m-(neq+1)) (lo+m) ((lo+m-(lo+m-(neq+1))) / 2)) lo m:=
       O1 O hU3 (bJ hU3 (kf _ _ _ _)) 0x1 (by rw[kQ];lia) q3 (HJ O hU3 0x1 0x1 q5)
      refine bb (ji ?_);have stpA:Stp lo (lo+nrem) st (dL (mrA st3 lo m neq) (dn (au (mrA st3 lo m neq)) lo (lo+m) ((lo+m-lo) / 2))):=stp4.mir (bi _) 0x1 (by rw[stp4.sz];lia);have pdA:bo (dL (mrA st3 lo m neq) (dn (au (mrA st3 lo m neq)) lo (lo+m) ((lo+m-lo) / 2)))=bo st:=q2;have hsA:Srt blt (au (dL (mrA st3 lo m neq) (dn (au (mrA st3 lo m neq)) lo (lo+m) ((lo+m-lo) / 2)))) lo (lo+m):=HH (by rw[stp4.sz];lia) ni4;refine bb (eu (eB
       (I:=λx c st'=>st'=(dL (mrA st3 lo m neq) (dn (au (mrA st3 lo m neq)) lo (lo+m) ((lo+m-lo) / 2)))/\c=(ao,x)/\Srt blt (au (dL (mrA st3 lo m neq) (dn (au (mrA st3 lo m neq)) lo (lo+m) ((lo+m-lo) / 2)))) lo (lo+x))
       (Q:=λc st'=>st'=(dL (mrA st3 lo m neq) (dn (au (mrA st3 lo m neq)) lo (lo+m) ((lo+m-lo) / 2)))/\∃mm,c=(ao,mm)/\m<=mm/\mm<=nrem/\Srt blt (au (dL (mrA st3 lo m neq) (dn (au (mrA st3 lo m neq)) lo (lo+m) ((lo+m-lo) / 2)))) lo (lo+mm)) ?stepA ?finA ?initA) ?postA)
      case initA=>exact⟨rfl,rfl,hsA⟩
      case finA=>
       rintro c st' ⟨rfl,rfl,q⟩;rw[show max m nrem=nrem by lia] at q ⊢;exact⟨rfl,nrem,rfl,by lia,bi _,q⟩
      case postA=>
       rintro c st' ⟨rfl,mm,rfl,mm1,mm2,q⟩;exact bf (h mm _ stpA pdA 0x1 mm2 q)
      case stepA=>
       rintro x c st' x1 x2 ⟨rfl,rfl,q⟩;dsimp only;refine bb (wpS_ltAt hL (stpA.kd.trans hk) (bJ hU stpA.pm) (by rw[stpA.sz];lia) (by rw[stpA.sz];lia) ?_);dsimp only;cases e:blt (gt (au (dL (mrA st3 lo m neq) (dn (au (mrA st3 lo m neq)) lo (lo+m) ((lo+m-lo) / 2)))) (lo+x)) (gt (au (dL (mrA st3 lo m neq) (dn (au (mrA st3 lo m neq)) lo (lo+m) ((lo+m-lo) / 2)))) (lo+x-1)) with
       |true=>
        simp only[cq];exact bf ⟨rfl,x,rfl,x1,by lia,q⟩
       |false=>
        simp only[dm,ck];exact bf ⟨rfl,rfl,tY O (bJ hU stpA.pm) (by rw[stpA.sz];lia) 0x1 q e⟩
     .rw[aw hq];refine bb (ji ?_);have stpB:Stp lo (lo+nrem) st (mrB st3 lo m):=q1.mir (bi _) 0x1 (by rw[q1.sz];lia);have pdB:bo (mrB st3 lo m)=bo st:=q2;have hsB:Srt blt (au (mrB st3 lo m)) lo (lo+m):=HH (by rw[q1.sz];lia) q3;refine bb (eu (eB
       (I:=λx c st'=>st'=(mrB st3 lo m)/\c=(ao,x)/\Srt blt (au (mrB st3 lo m)) lo (lo+x))
       (Q:=λc st'=>st'=(mrB st3 lo m)/\∃mm,c=(ao,mm)/\m<=mm/\mm<=nrem/\Srt blt (au (mrB st3 lo m)) lo (lo+mm)) ?stepB ?finB ?initB) ?postB)
      case initB=>exact⟨rfl,rfl,hsB⟩
      case finB=>
       rintro c st' ⟨rfl,rfl,q⟩;rw[show max m nrem=nrem by lia] at q ⊢;exact⟨rfl,nrem,rfl,by lia,bi _,q⟩
      case postB=>
       rintro c st' ⟨rfl,mm,rfl,mm1,mm2,q⟩;exact bf (h mm _ stpB pdB 0x1 mm2 q)
      case stepB=>
       rintro x c st' x1 x2 ⟨rfl,rfl,q⟩;dsimp only;refine bb (wpS_ltAt hL (stpB.kd.trans hk) (bJ hU stpB.pm) (by rw[stpB.sz];lia) (by rw[stpB.sz];lia) ?_);dsimp only;cases e:blt (gt (au (mrB st3 lo m)) (lo+x)) (gt (au (mrB st3 lo m)) (lo+x-1)) with
       |true=>
        simp only[cq];exact bf ⟨rfl,x,rfl,x1,by lia,q⟩
       |false=>
        simp only[dm,ck];exact bf ⟨rfl,rfl,tY O (bJ hU stpB.pm) (by rw[stpB.sz];lia) 0x1 q e⟩
  .rw[aw hgt];obtain rfl:n=1:=by lia
   have stp2:=stp0;have pd2:bo st=bo st:=rfl;have ni2:NonInc blt (au st) lo (1+1):=uV O hU 0x1 (bi _) (λi j a1 a2 a3=>by rw[show i=lo by lia,show j=lo by lia];exact O.irr _ (hU _ 0x1)) (O.aFm (hU _ 0x1) (hU _ 0x1) hlt);refine bb (kb (ke ⟨rfl,?_⟩));refine bb (eu (eB
    (I:=λx c st'=>∃neq,c=(ao,x,neq)/\Stp lo (lo+nrem) st st'/\bo st'=bo st/\NonInc blt (au st') lo x/\neq+1<=x/\∀i,lo+x-(neq+1)<=i->i<lo+x->Eqv blt (gt (au st') i) (gt (au st') (lo+x-1)))
    (Q:=λc st'=>∃m neq,c=(ao,m,neq)/\1+1<=m/\m<=nrem/\Stp lo (lo+nrem) st st'/\bo st'=bo st/\NonInc blt (au st') lo m/\neq+1<=m/\∀i,lo+m-(neq+1)<=i->i<lo+m->Eqv blt (gt (au st') i) (gt (au st') (lo+m-1))) ?dstep ?dfin ?dinit) ?dpost)
   case dinit=>exact⟨0,rfl,stp2,pd2,ni2,by lia,λi i1 i2=>by rw[show i=lo+(1+1)-1 by lia];exact Eqv.aFn O (bJ hU stp2.pm _ (by rw[stp2.sz];lia))⟩
   case dfin=>
    rintro c st' ⟨neq,rfl,q1,q2,q3,q4,q5⟩;rw[show max (1+1) nrem=nrem by lia] at q3 q4 q5 ⊢;exact⟨nrem,neq,rfl,by lia,bi _,q1,q2,q3,q4,q5⟩
   case dstep=>
    rintro x c st' x1 x2 ⟨neq,rfl,q1,q2,q3,q4,q5⟩;dsimp only;have hUx:=bJ hU q1.pm;have hzx:lo+nrem<=(au st').size:=by rw[q1.sz];lia
    refine bb (wpS_ltAt hL (q1.kd.trans hk) hUx 0x1 0x1 ?_);dsimp only;cases e:blt (gt (au st') (lo+x)) (gt (au st') (lo+x-1)) with
    |true=>
     simp only[cq];have ni':NonInc blt (au st') lo (x+1):=uV O hUx 0x1 0x1 q3 (O.aFm (hUx _ 0x1) (hUx _ 0x1) e);by_cases hq:neq > 0
     .rw[av hq];refine bb (ji (bf ⟨0,rfl,q1.mir 0x1 0x1 0x1,q2,?_,by lia,λi i1 i2=>?_⟩))
      .exact O1 O hUx (bJ hUx (kf _ _ _ _)) 0x1 (by rw[kQ];lia) ni' (HJ O hUx 0x1 0x1 q5)
      .rw[show i=lo+(x+1)-1 by lia];exact Eqv.aFn O (bJ hUx (kf _ _ _ _) _ (by rw[kQ];lia))
     .rw[aw hq];exact bf ⟨0,rfl,q1,q2,ni',by lia,λi i1 i2=>by rw[show i=lo+(x+1)-1 by lia];exact Eqv.aFn O (hUx _ 0x1)⟩
    |false=>
     simp only[dm,ck];refine bb (wpS_ltAt hL (q1.kd.trans hk) hUx 0x1 0x1 ?_);dsimp only;cases e2:blt (gt (au st') (lo+x-1)) (gt (au st') (lo+x)) with
     |true=>
      simp only[cq];exact bf ⟨x,neq,rfl,x1,by lia,q1,q2,q3,q4,q5⟩
     |false=>
      simp only[dm,ck];refine bf ⟨neq+1,rfl,q1,q2,uV O hUx 0x1 0x1 q3 e2,by lia,λi i1 i2=>?_⟩;rw[show lo+(x+1)-1=lo+x by lia];by_cases c:i=lo+x
      .rw[c];exact Eqv.aFn O (hUx _ 0x1)
      .exact(q5 i 0x1 0x1).trans O (hUx _ 0x1) (hUx _ 0x1) (hUx _ 0x1) ⟨e2,e⟩
   case dpost=>
    rintro c st3 ⟨m,neq,rfl,m1,m2,q1,q2,q3,q4,q5⟩;dsimp only;have hU3:=bJ hU q1.pm;have hz3:lo+nrem<=(au st3).size:=by rw[q1.sz];lia
    by_cases hq:neq > 0
    .rw[av hq];refine bb (ji ?_);have stp4:=q1.mir (i:=lo+m-(neq+1)) (j:=lo+m) 0x1 0x1 0x1;have ni4:NonInc blt (dn (au st3) (lo+m-(neq+1)) (lo+m) ((lo+m-(lo+m-(neq+1))) / 2)) lo m:=
      O1 O hU3 (bJ hU3 (kf _ _ _ _)) 0x1 (by rw[kQ];lia) q3 (HJ O hU3 0x1 0x1 q5)
     refine bb (ji ?_);have stpA:Stp lo (lo+nrem) st (dL (mrA st3 lo m neq) (dn (au (mrA st3 lo m neq)) lo (lo+m) ((lo+m-lo) / 2))):=stp4.mir (bi _) 0x1 (by rw[stp4.sz];lia);have pdA:bo (dL (mrA st3 lo m neq) (dn (au (mrA st3 lo m neq)) lo (lo+m) ((lo+m-lo) / 2)))=bo st:=q2;have hsA:Srt blt (au (dL (mrA st3 lo m neq) (dn (au (mrA st3 lo m neq)) lo (lo+m) ((lo+m-lo) / 2)))) lo (lo+m):=HH (by rw[stp4.sz];lia) ni4;refine bb (eu (eB
      (I:=λx c st'=>st'=(dL (mrA st3 lo m neq) (dn (au (mrA st3 lo m neq)) lo (lo+m) ((lo+m-lo) / 2)))/\c=(ao,x)/\Srt blt (au (dL (mrA st3 lo m neq) (dn (au (mrA st3 lo m neq)) lo (lo+m) ((lo+m-lo) / 2)))) lo (lo+x))
      (Q:=λc st'=>st'=(dL (mrA st3 lo m neq) (dn (au (mrA st3 lo m neq)) lo (lo+m) ((lo+m-lo) / 2)))/\∃mm,c=(ao,mm)/\m<=mm/\mm<=nrem/\Srt blt (au (dL (mrA st3 lo m neq) (dn (au (mrA st3 lo m neq)) lo (lo+m) ((lo+m-lo) / 2)))) lo (lo+mm)) ?stepA ?finA ?initA) ?postA)
     case initA=>exact⟨rfl,rfl,hsA⟩
     case finA=>
      rintro c st' ⟨rfl,rfl,q⟩;rw[show max m nrem=nrem by lia] at q ⊢;exact⟨rfl,nrem,rfl,by lia,bi _,q⟩
     case postA=>
      rintro c st' ⟨rfl,mm,rfl,mm1,mm2,q⟩;exact bf (h mm _ stpA pdA 0x1 mm2 q)
     case stepA=>
      rintro x c st' x1 x2 ⟨rfl,rfl,q⟩;dsimp only;refine bb (wpS_ltAt hL (stpA.kd.trans hk) (bJ hU stpA.pm) (by rw[stpA.sz];lia) (by rw[stpA.sz];lia) ?_);dsimp only;cases e:blt (gt (au (dL (mrA st3 lo m neq) (dn (au (mrA st3 lo m neq)) lo (lo+m) ((lo+m-lo) / 2)))) (lo+x)) (gt (au (dL (mrA st3 lo m neq) (dn (au (mrA st3 lo m neq)) lo (lo+m) ((lo+m-lo) / 2)))) (lo+x-1)) with
      |true=>
       simp only[cq];exact bf ⟨rfl,x,rfl,x1,by lia,q⟩
      |false=>
       simp only[dm,ck];exact bf ⟨rfl,rfl,tY O (bJ hU stpA.pm) (by rw[stpA.sz];lia) 0x1 q e⟩
    .rw[aw hq];refine bb (ji ?_);have stpB:Stp lo (lo+nrem) st (mrB st3 lo m):=q1.mir (bi _) 0x1 (by rw[q1.sz];lia);have pdB:bo (mrB st3 lo m)=bo st:=q2;have hsB:Srt blt (au (mrB st3 lo m)) lo (lo+m):=HH (by rw[q1.sz];lia) q3;refine bb (eu (eB
      (I:=λx c st'=>st'=(mrB st3 lo m)/\c=(ao,x)/\Srt blt (au (mrB st3 lo m)) lo (lo+x))
      (Q:=λc st'=>st'=(mrB st3 lo m)/\∃mm,c=(ao,mm)/\m<=mm/\mm<=nrem/\Srt blt (au (mrB st3 lo m)) lo (lo+mm)) ?stepB ?finB ?initB) ?postB)
     case initB=>exact⟨rfl,rfl,hsB⟩
     case finB=>
      rintro c st' ⟨rfl,rfl,q⟩;rw[show max m nrem=nrem by lia] at q ⊢;exact⟨rfl,nrem,rfl,by lia,bi _,q⟩
     case postB=>
      rintro c st' ⟨rfl,mm,rfl,mm1,mm2,q⟩;exact bf (h mm _ stpB pdB 0x1 mm2 q)
     case stepB=>
      rintro x c st' x1 x2 ⟨rfl,rfl,q⟩;dsimp only;refine bb (wpS_ltAt hL (stpB.kd.trans hk) (bJ hU stpB.pm) (by rw[stpB.sz];lia) (by rw[stpB.sz];lia) ?_);dsimp only;cases e:blt (gt (au (mrB st3 lo m)) (lo+x)) (gt (au (mrB st3 lo m)) (lo+x-1)) with
      |true=>
       simp only[cq];exact bf ⟨rfl,x,rfl,x1,by lia,q⟩
      |false=>
       simp only[dm,ck];exact bf ⟨rfl,rfl,tY O (bJ hU stpB.pm) (by rw[stpB.sz];lia) 0x1 q e⟩
end
section
def yF(hs:src<a.size)(hd:d<=src)(k:ai) :
  gt (qE a src d) k=if k=src-d then gt a src else if src-d<k/\k<=src then gt a (k-1) else gt a k:=by
 rw[aQa,getElem?_bubble hs d hd]
 repeat' split
 all_goals rw[aQa]
end
section
theorem wpS_binarySort(O:Ord U blt)(hL:ZX prog w A E s kd U blt)(hk:kindOf st=kd)(hU:tX U (au st))(hn:lo+n<=(au st).size)(hok:ok<=n)
 (hs:Srt blt (au st) lo (lo+ok))
 (h:∀st',Stp lo (lo+n) st st'->bo st'=bo st->Srt blt (au st') lo (lo+n)->Q af st'):dg (az prog w) A E s (binarySort' lo n ok) Q st:=by
 rw[binarySort'_eq];have stp0:Stp lo (lo+n) st st:=⟨rfl,rfl,nS _,λ_ _=>rfl⟩
 refine bb (eu (eB (I:=λk c st'=>c=(ao,())/\Stp lo (lo+n) st st'/\bo st'=bo st/\Srt blt (au st') lo (lo+min k n))
  (Q:=λc st'=>c=(ao,())/\Stp lo (lo+n) st st'/\bo st'=bo st/\Srt blt (au st') lo (lo+n)) ?step ?fin ?init) ?post)
 case post=>
  rintro c st' ⟨rfl,q1,q2,q3⟩;exact bf (h st' q1 q2 q3)
 case init=>
  refine⟨rfl,stp0,rfl,λi j a1 a2 a3=>?_⟩;by_cases h1:ok=0
  .rw[show i=j by lia];exact O.irr _ (hU _ 0x1)
  .exact hs i j a1 a2 0x1
 case fin=>
  rintro c st' ⟨hc,q1,q2,q3⟩;rw[show min (max (max ok 1) n) n=n by lia] at q3;exact⟨hc,q1,q2,q3⟩
 case step=>
  rintro k c st' k1 k2 ⟨rfl,q1,q2,q3⟩;rw[show min k n=k by lia] at q3;have hU':=bJ hU q1.pm;have hz:lo+n<=(au st').size:=by rw[q1.sz];exact hn
  refine bb (eu (eB (I:=λx c st''=>st''=st'/\∃l r,c=(ao,l,r)/\l<=r/\r<=k/\r-l<=k-x/\
    (∀i,lo<=i->i<lo+l->blt (gt (au st') (lo+k)) (gt (au st') i)=aj)/\(∀i,lo+r<=i->i<lo+k->blt (gt (au st') (lo+k)) (gt (au st') i)=af))
   (Q:=λc st''=>st''=st'/\∃l r,c=(ao,l,r)/\l<=k/\
    (∀i,lo<=i->i<lo+l->blt (gt (au st') (lo+k)) (gt (au st') i)=aj)/\(∀i,lo+l<=i->i<lo+k->blt (gt (au st') (lo+k)) (gt (au st') i)=af)) ?istep ?ifin ?iinit) ?ipost)
  case iinit=>exact⟨rfl,0,k,rfl,by lia,by lia,by lia,λi i1 i2=>by lia,λi i1 i2=>by lia⟩
  case ifin=>
   rintro c st'' ⟨rfl,l,r,rfl,b1,b2,b3,b4,b5⟩;obtain rfl:l=r:=by lia
   exact⟨rfl,l,l,rfl,b2,b4,b5⟩
  case istep=>
   rintro x c st'' _ hx ⟨rfl,l,r,rfl,b1,b2,b3,b4,b5⟩;dsimp only;by_cases hge:l >= r
   .rw[av hge];obtain rfl:l=r:=by lia
    exact bf ⟨rfl,l,l,rfl,b2,b4,b5⟩
   .rw[aw hge];refine bb (wpS_ltAt hL (q1.kd.trans hk) hU' 0x1 0x1 ?_);dsimp only;cases e:blt (gt (au st'') (lo+k)) (gt (au st'') (lo+(l+r) / 2)) with
    |true=>
     simp only[cq];refine bf ⟨rfl,l,(l+r) / 2,rfl,by lia,by lia,by lia,b4,λi i1 i2=>?_⟩;rcases O.ntr _ (gt (au st'') i) _ (hU' _ 0x1) (hU' i 0x1) (hU' _ 0x1) e with p|p
     .exact p
     .rw[q3 _ i 0x1 i1 0x1] at p;cases p
    |false=>
     simp only[dm,ck];refine bf ⟨rfl,(l+r) / 2+1,r,rfl,by lia,by lia,by lia,λi i1 i2=>?_,b5⟩;exact O.le_trans (hU' _ 0x1) (hU' (lo+(l+r) / 2) 0x1) (hU' _ 0x1) (q3 i (lo+(l+r) / 2) i1 0x1 0x1) e
  case ipost=>
   rintro c st'' ⟨rfl,l,r,rfl,b1,b4,b5⟩;show dg _ _ _ _ (moveDown' (lo+k) (lo+l) >>= λ_=>pure (vf (ao,()))) _ _;rw[moveDown'_eq];refine bb (jf (bf ⟨rfl,⟨q1.kd,q1.fl,(bubble_perm _ _ _).trans q1.pm,λj hj=>?_⟩,q2,?_⟩))
   .show gt (qE (au st'') (lo+k) (lo+k-(lo+l))) j=_;rw[yF 0x1 0x1,aw 0x1,aw 0x1];exact q1.out j hj
   .rw[show min (k+1) n=k+1 by lia];intro i j a1 a2 a3;show blt (gt (qE (au st'') (lo+k) (lo+k-(lo+l))) j) (gt (qE (au st'') (lo+k) (lo+k-(lo+l))) i)=aj;rw[yF 0x1 0x1,yF 0x1 0x1,show lo+k-(lo+k-(lo+l))=lo+l by lia]
    repeat' split
    all_goals first
     | (exfalso;lia)
     |exact O.irr _ (hU' _ 0x1)
     |exact b4 _ 0x1 0x1
     |exact O.aFm (hU' _ 0x1) (hU' _ 0x1) (b5 _ 0x1 0x1)
     |exact q3 _ _ 0x1 0x1 0x1
end
section
variable {blt:bd->bd->ax}
def Runs(blt:bd->bd->ax)(a:ba bd):aa (ai×ai×ai)->ai->ai->Prop
 |[],b,e=>b=e
 | (s,n,_)::r,b,e=>s=b/\0<n/\Srt blt a b (b+n)/\Runs blt a r (b+n) e
theorem Runs.le:∀{l:aa (ai×ai×ai)}{b e:ai},Runs blt a l b e->b+l.length<=e
 |[],b,e,h=>by have:b=e:=h;simp;lia
 | (s,n,p)::r,b,e,h=>by
  obtain⟨_,h1,_,h2⟩:=h;have:=Runs.le h2;rw[cr];lia
def Runs.app:∀{l r:aa (ai×ai×ai)}{b e:ai},Runs blt a (l++r) b e↔∃m,Runs blt a l b m/\Runs blt a r m e
 |[],r,b,e=>⟨λh=>⟨b,rfl,h⟩,λz0=>by obtain⟨m,h1,h2⟩:=z0;have:b=m:=h1;subst this;exact h2⟩
 | (s,n,p)::l,r,b,e=>by
  constructor
  .rintro⟨h1,h2,h3,h4⟩;obtain⟨m,h5,h6⟩:=Runs.app.mp h4;exact⟨m,⟨h1,h2,h3,h5⟩,h6⟩
  .rintro⟨m,⟨h1,h2,h3,h5⟩,h6⟩;exact⟨h1,h2,h3,Runs.app.mpr ⟨m,h5,h6⟩⟩
theorem Runs.out:∀{l:aa (ai×ai×ai)}{b e:ai},Runs blt a l b e->(∀j,b<=j->j<e->gt a' j=gt a j)->Runs blt a' l b e
 |[],b,e,h,_=>h
 | (s,n,p)::l,b,e,⟨h1,h2,h3,h4⟩,q=>by
  have:=h4.le;exact⟨h1,h2,h3.out λj j1 j2=>q j j1 0x1,Runs.out h4 λj j1 j2=>q j 0x1 j2⟩
theorem Runs.two(h : Runs blt a (l1 ++ (sa,na,p) :: (sb,nb,q) :: l2) b e) :
  b<=sa/\sb=sa+na/\0<na/\0<nb/\sb+nb<=e/\Srt blt a sa (sa+na)/\Srt blt a sb (sb+nb):=by
 obtain⟨m,h1,h2,h3,h4,h5,h6,h7,h8⟩:=Runs.app.mp h;subst h2 h5;have e1:=h1.le;have e2:=h8.le;exact⟨by lia,rfl,h3,h6,by lia,h4,h7⟩
theorem Runs.merge(h:Runs blt a (l1++(sa,na,p)::(sb,nb,q)::l2) b e)
 (ho:∀j,j<sa\/sb+nb<=j->gt a' j=gt a j)(hs:Srt blt a' sa (sb+nb)):Runs blt a' (l1++(sa,na+nb,p)::l2) b e:=by
 obtain⟨m,h1,h2,h3,h4,h5,h6,h7,h8⟩:=Runs.app.mp h;subst h2 h5;have e1:=h1.le;have e2:=h8.le;refine Runs.app.mpr ⟨sa,h1.out λj _ j2=>ho j 0x1,rfl,by lia,?_,?_⟩
 .rw[<-zh];exact hs
 .rw[<-zh];exact h8.out λj j1 _=>ho j 0x1
theorem ers{p:ba (ai×ai×ai)}(h:p.toList=l1++x::y::l2)(hi:l1.length=i) :
  ((p.setIfInBounds i v).eraseIdxIfInBounds (i+1)).toList=l1++v::l2:=by
 have hz:p.size=l1.length+(l2.length+2):=by
  have:=cz gh h;simpa using this
 have:i+1<(p.setIfInBounds i v).size:=by rw[zd];lia
 rw[Array.eraseIdxIfInBounds,l8 this,Array.toList_eraseIdx,zf,h,List.set_append_right _ _ 0x1,show i-l1.length=0 by lia,List.set_cons_zero,
  List.eraseIdx_append_of_length_le 0x1,show i+1-l1.length=1 by lia]
 rfl
theorem aNy{p:ba (ai×ai×ai)}(h:i+1<p.size):∃x y l1 l2,p.toList=l1++x::y::l2/\l1.length=i/\p[i]?=ae x/\p[i+1]?=ae y:=by
 refine⟨p[i],p[i+1],p.toList.take i,p.toList.drop (i+2),?_,?_,by simp,by simp⟩
 .conv=>lhs;rw[<-l7 i p.toList]
  rw[ij (by simp;lia),ij (by simp;lia)];rfl
 .simp;lia
end
section
variable {kd:ka} {U:bd->Prop}
structure Bs(U:bd->Prop)(kd:ka)(a₀:ba bd)(st:ff):Prop where
 kd:kindOf st=kd
 fl:gj st=ao
 pm:(au st).Perm a₀
def Bs.stp(b:Bs U kd a₀ st)(h:Stp lo hi st st'):Bs U kd a₀ st':=⟨h.kd.trans b.kd,h.fl.trans b.fl,h.pm.trans b.pm⟩
def HN(pw:ai):∀(i:ai){l:aa (ai×ai×ai)}{b e:ai},Runs blt a l b e->Runs blt a (l.modify i λx=>(x.1,x.2.1,pw)) b e
 |_,[],_,_,h=>by
  rw[List.modify_nil];exact h
 |0,(s,n,p)::l,b,e,h=>h
 |i+1,(s,n,p)::l,b,e,⟨h1,h2,h3,h4⟩=>⟨h1,h2,h3,HN pw i h4⟩
theorem yG(O:Ord U blt)(hL:ZX prog w A E s kd U blt)(hU:tX U a₀)(B:Bs U kd a₀ st)(he:e<=a₀.size)(R:Runs blt (au st) (bo st).toList 0 e)
 (hi:i+1<(bo st).size)
 (h:∀st',Bs U kd a₀ st'->Runs blt (au st') (bo st').toList 0 e->(bo st').size+1=(bo st).size->(∀j,e<=j->gt (au st') j=gt (au st) j)->Q af st'):dg (az prog w) A E s (mergeAt' i) Q st:=by
 obtain⟨⟨sa,na,p⟩,⟨sb,nb,q⟩,l1,l2,e1,e2,e3,e4⟩:=aNy hi;rw[e1] at R;obtain⟨r1,r2,r3,r4,r5,r6,r7⟩:=R.two;have hz:(au st).size=a₀.size:=B.pm.size_eq;refine T5 O hL B.kd (bJ hU B.pm) B.fl e3 e4 r2 0x1 r3 r4 r6 r7 λst' S Z P=>?_
 have P':(bo st').toList=l1++(sa,na+nb,p)::l2:=by rw[P];exact ers e1 e2
 refine h st' (B.stp S) ?_ ?_ λj hj=>S.out j 0x1
 .rw[P'];exact R.merge S.out Z
 .have h1:=cz gh P';have h2:=cz gh e1;simp at h1 h2;lia
theorem wpS_sortRuns(O:Ord U blt)(hL:ZX prog w A E s kd U blt)(hU:tX U a₀)(B:Bs U kd a₀ st)(hp:bo st=#[])(hz:0<a₀.size)
 (h:∀st',Bs U kd a₀ st'->Srt blt (au st') 0 a₀.size->Q () st'):dg (az prog w) A E s sortRuns' Q st:=by
 have sz:∀{st':ff},Bs U kd a₀ st'->(au st').size=a₀.size:=λb=>b.pm.size_eq
 rw[sortRuns'_eq];refine bb (ik ?_);dsimp only;rw[sz B];generalize minRun' a₀.size a₀.size 0=minrun;refine bb (eu (eB
  (I:=λx c st'=>∃lo,c=(ao,lo)/\lo<=a₀.size/\(x<=lo\/lo=a₀.size)/\Bs U kd a₀ st'/\Runs blt (au st') (bo st').toList 0 lo)
  (Q:=λc st'=>c=(ao,a₀.size)/\Bs U kd a₀ st'/\Runs blt (au st') (bo st').toList 0 a₀.size) ?step ?fin ?init) ?post)
 case init=>exact⟨0,rfl,fo _,.inl (bi _),B,by rw[hp];rfl⟩
 case fin=>
  rintro c st' ⟨lo,rfl,a1,a2,b,r⟩;obtain rfl:lo=a₀.size:=by lia
  exact⟨rfl,b,r⟩
 case step=>
  rintro x c st1 _ hx ⟨lo,rfl,a1,a2,b,r⟩;dsimp only;by_cases hge:lo >= a₀.size
  .rw[av hge];obtain rfl:lo=a₀.size:=by lia
   exact bf ⟨rfl,b,r⟩
  rw[aw hge];refine bb (wpS_countRun O hL b.kd (bJ hU b.pm) (by rw[sz b];lia) 0x1 λm st2 S2 P2 m1 m2 Z2=>?_);dsimp only;have b2:=b.stp S2;have r2:Runs blt (au st2) (bo st2).toList 0 lo:=by rw[P2];exact r.out λj _ j2=>S2.out j (.inl j2)
  have rest:∀(n:ai),1<=n->lo+n<=a₀.size->∀(st4:ff),Bs U kd a₀ st4->∀l,(bo st4).toList=l++[(lo,n,0)]->Runs blt (au st4) l 0 lo->Srt blt (au st4) lo (lo+n)->
    ∃lo',((ao,lo+n):aS Unit×ai)=(ao,lo')/\lo'<=a₀.size/\(x+1<=lo'\/lo'=a₀.size)/\Bs U kd a₀ st4/\Runs blt (au st4) (bo st4).toList 0 lo':=by
   intro n n1 n2 st4 b4 l e r4 z4;refine⟨lo+n,rfl,n2,?_,b4,?_⟩
   .rcases a2 with a2|a2
    .exact .inl 0x1
    .lia
   .rw[e];exact Runs.app.mpr ⟨lo,r4,rfl,by lia,z4,rfl⟩
  by_cases hm:m<minrun
  .rw[av hm];refine bb (kb (ke ⟨rfl,?_⟩));refine bb (wpS_binarySort O hL b2.kd (bJ hU b2.pm) (by rw[sz b2];lia) 0x1 Z2 λst3 S3 P3 Z3=>?_);simp only[ny,dm,ck];have b3:=b2.stp S3;have r3:Runs blt (au st3) (bo st3).toList 0 lo:=by rw[P3];exact r2.out λj _ j2=>S3.out j (.inl j2)
   have hmm:1<=min (a₀.size-lo) minrun/\lo+min (a₀.size-lo) minrun<=a₀.size:=⟨by lia,by lia⟩
   refine bb (ik ?_);cases hbk:(bo st3).back? with
   |none=>
    dsimp only;refine bb (jf (bf (rest (min (a₀.size-lo) minrun) 0x1 0x1 _ ⟨b3.kd,b3.fl,b3.pm⟩ _ ?_ r3 Z3)));show((bo st3).push (lo,(min (a₀.size-lo) minrun),0)).toList=_;rw[l6]
   |some t=>
    obtain⟨s1,n1',pw1⟩:=t;dsimp only;refine bb (eu (eB
     (I:=λy c st'=>c=(ao,())/\Bs U kd a₀ st'/\Runs blt (au st') (bo st').toList 0 lo/\∀j,lo<=j->gt (au st') j=gt (au st3) j)
     (Q:=λc st'=>c=(ao,())/\Bs U kd a₀ st'/\Runs blt (au st') (bo st').toList 0 lo/\∀j,lo<=j->gt (au st') j=gt (au st3) j) ?mstep (λc st' q=>q) ⟨rfl,b3,r3,λ_ _=>rfl⟩) ?mpost)
    case mpost=>
     rintro c st4 ⟨rfl,b4,r4,o4⟩;dsimp only;refine bb (jf (bb (jf (bf (rest (min (a₀.size-lo) minrun) 0x1 0x1 _ ⟨b4.kd,b4.fl,b4.pm⟩ _ ?_ (HN (power' a₀.size (2*s1+n1') (2*s1+n1'+n1'+min (a₀.size-lo) minrun) a₀.size) ((bo st4).size-1) r4) (Z3.out λj j1 j2=>o4 j j1))))));show(((bo st4).modify _ _).push (lo,(min (a₀.size-lo) minrun),0)).toList=_;rw[l6,zi]
    case mstep=>
     rintro y c st4 _ hy ⟨rfl,b4,r4,o4⟩;refine bb (ik ?_);by_cases hp:(bo st4).size > 1
     .rw[av hp];obtain⟨t,ht⟩:∃t,(bo st4)[(bo st4).size-2]?=ae t:=⟨_,zk _ _ 0x1⟩
      rw[ht];obtain⟨t1,t2,older⟩:=t;dsimp only;split
      .exact bf ⟨rfl,b4,r4,o4⟩
      .refine bb (yG O hL hU b4 0x1 r4 0x1 λst5 b5 r5 _ o5=>?_);simp only[ny,dm,ck];exact bf ⟨rfl,b5,r5,λj hj=>(o5 j hj).trans (o4 j hj)⟩
     .rw[aw hp];exact bf ⟨rfl,b4,r4,o4⟩
  .rw[aw hm];refine bb (ik ?_);cases hbk:(bo st2).back? with
   |none=>
    dsimp only;refine bb (jf (bf (rest m 0x1 0x1 _ ⟨b2.kd,b2.fl,b2.pm⟩ _ ?_ r2 Z2)));show((bo st2).push (lo,m,0)).toList=_;rw[l6]
   |some t=>
    obtain⟨s1,n1',pw1⟩:=t;dsimp only;refine bb (eu (eB
     (I:=λy c st'=>c=(ao,())/\Bs U kd a₀ st'/\Runs blt (au st') (bo st').toList 0 lo/\∀j,lo<=j->gt (au st') j=gt (au st2) j)
     (Q:=λc st'=>c=(ao,())/\Bs U kd a₀ st'/\Runs blt (au st') (bo st').toList 0 lo/\∀j,lo<=j->gt (au st') j=gt (au st2) j) ?mstep (λc st' q=>q) ⟨rfl,b2,r2,λ_ _=>rfl⟩) ?mpost)
    case mpost=>
     rintro c st4 ⟨rfl,b4,r4,o4⟩;dsimp only;refine bb (jf (bb (jf (bf (rest m 0x1 0x1 _ ⟨b4.kd,b4.fl,b4.pm⟩ _ ?_ (HN (power' a₀.size (2*s1+n1') (2*s1+n1'+n1'+m) a₀.size) ((bo st4).size-1) r4) (Z2.out λj j1 j2=>o4 j j1))))));show(((bo st4).modify _ _).push (lo,m,0)).toList=_;rw[l6,zi]
    case mstep=>
     rintro y c st4 _ hy ⟨rfl,b4,r4,o4⟩;refine bb (ik ?_);by_cases hp:(bo st4).size > 1
     .rw[av hp];obtain⟨t,ht⟩:∃t,(bo st4)[(bo st4).size-2]?=ae t:=⟨_,zk _ _ 0x1⟩
      rw[ht];obtain⟨t1,t2,older⟩:=t;dsimp only;split
      .exact bf ⟨rfl,b4,r4,o4⟩
      .refine bb (yG O hL hU b4 0x1 r4 0x1 λst5 b5 r5 _ o5=>?_);simp only[ny,dm,ck];exact bf ⟨rfl,b5,r5,λj hj=>(o5 j hj).trans (o4 j hj)⟩
     .rw[aw hp];exact bf ⟨rfl,b4,r4,o4⟩
 case post=>
  rintro c st1 ⟨rfl,b,r⟩;dsimp only;have hle:=r.le;rw[gz] at hle;refine bb (eu (eB
   (I:=λx c st'=>c=(ao,())/\Bs U kd a₀ st'/\Runs blt (au st') (bo st').toList 0 a₀.size/\((bo st').size+x<=a₀.size\/(bo st').size<=1))
   (Q:=λc st'=>c=(ao,())/\Bs U kd a₀ st'/\Runs blt (au st') (bo st').toList 0 a₀.size/\(bo st').size<=1) ?fstep ?ffin ?finit) ?fpost)
  case finit=>exact⟨rfl,b,r,.inl 0x1⟩
  case ffin=>
   rintro c st' ⟨rfl,q1,q2,q3⟩;exact⟨rfl,q1,q2,by lia⟩
  case fpost=>
   rintro c st' ⟨rfl,q1,q2,q3⟩;refine bf (h st' q1 ?_)
   match hl:(bo st').toList with
   |[]=>rw[hl] at q2;have:0=a₀.size:=q2;lia
   |[(s0,n0,p0)]=>
    rw[hl] at q2;obtain⟨_,_,z,e⟩:=q2;have e:0+n0=a₀.size:=e;rw[e] at z;exact z
   |_::_::_=>
    have:=cz gh hl;rw[gz] at this;simp at this;lia
  case fstep=>
   rintro x c st4 _ hx ⟨rfl,b4,r4,o4⟩;refine bb (ik ?_);by_cases hp1:(bo st4).size<=1
   .rw[av hp1];exact bf ⟨rfl,b4,r4,hp1⟩
   rw[aw hp1];refine bb (yG O hL hU b4 (bi _) r4 ?hi λst5 b5 r5 e5 _=>?_)
   case hi=>
    repeat' split
    all_goals lia
   simp only[ny,dm,ck];exact bf ⟨rfl,b5,r5,by lia⟩
end
end TS
namespace Mi
open PySem
inductive D where
 |uD|non|bl (b:ax)|int (i:ag)|str (x:Str)
 |tup (xs:aa D)|lst (xs:aa D)|dct (kvs:aa (D×D))|scr (xs:aa D)
 deriving Inhabited
mutual
noncomputable def D.pure:D->ax
 |.tup xs=>D.aW xs
 |.lst _=>aj
 |.dct _=>aj
 |.uD=>aj
 |.scr xs=>D.aW xs
 |_=>af
noncomputable def D.aW:aa D->ax
 |[]=>af
 |x::xs=>x.pure&&D.aW xs
end
mutual
noncomputable def eqD:D->D->ax
 |.non,.non=>af
 |.bl a,.bl b=>a==b
 |.int a,.int b=>a==b
 |.bl a,.int b=>(if a then (1:ag) else 0)==b
 |.int a,.bl b=>a==(if b then (1:ag) else 0)
 |.str a,.str b=>a==b
 |.tup xs,.tup ys=>nT xs ys
 |.lst xs,.lst ys=>nT xs ys
 |.scr xs,.scr ys=>nT xs ys
 |.scr xs,.lst ys=>nT xs ys
 |.lst xs,.scr ys=>nT xs ys
 |_,_=>aj
noncomputable def nT:aa D->aa D->ax
 |[],[]=>af
 |x::xs,y::ys=>eqD x y&&nT xs ys
 |_,_=>aj
end
theorem aNz(a b:ag):eqD (.int a) (.int b)=(a==b):=id rfl
theorem aO0(a b:Str):eqD (.str a) (.str b)=(a==b):=id rfl
theorem aO1(a:ag)(b:Str):eqD (.int a) (.str b)=aj:=id rfl
theorem aO2(a:Str)(b:ag):eqD (.str a) (.int b)=aj:=id rfl
theorem aO3(a b:aa D):eqD (.tup a) (.tup b)=nT a b:=id rfl
mutual
noncomputable def D.fD:ai->D->ax
 |n+1,.tup xs=>D.bU n xs
 |n+1,.lst xs=>D.bU n xs
 |n+1,.scr xs=>D.bU n xs
 |0,.tup _=>aj
 |0,.lst _=>aj
 |0,.scr _=>aj
 |_,.dct _=>aj
 |_,.uD=>aj
 |_,_=>af
noncomputable def D.bU:ai->aa D->ax
 |_,[]=>af
 |n,x::xs=>D.fD n x&&D.bU n xs
end
inductive gZ where|lt|le|gt|ge
 deriving fy
def gZ.int:gZ->ag->ag->ax
 |.lt,a,b=>ϒ (a<b)|.le,a,b=>ϒ (a<=b)|.gt,a,b=>ϒ (b<a)|.ge,a,b=>ϒ (b<=a)
def gZ.nat:gZ->ai->ai->ax
 |.lt,a,b=>ϒ (a<b)|.le,a,b=>ϒ (a<=b)|.gt,a,b=>ϒ (b<a)|.ge,a,b=>ϒ (b<=a)
noncomputable def T6(a b:Str):ax:=ϒ (a.cps.toList<b.cps.toList)
def gZ.str:gZ->Str->Str->ax
 |.lt,a,b=>T6 a b|.le,a,b=>!T6 b a|.gt,a,b=>T6 b a|.ge,a,b=>!T6 a b
mutual
noncomputable def iR(o:gZ):D->D->aS ax
 |.int a,.int b=>ae (o.int a b)
 |.str a,.str b=>ae (o.str a b)
 |.tup xs,.tup ys=>cV o xs ys
 |.scr xs,.scr ys=>cV o xs ys
 |.lst xs,.scr ys=>cV o xs ys
 |_,_=>ao
noncomputable def cV(o:gZ):aa D->aa D->aS ax
 |[],ys=>ae (o.nat 0 ys.length)
 |x::xs,[]=>ae (o.nat (x::xs).length 0)
 |x::xs,y::ys=>if eqD x y then cV o xs ys else iR o x y
end
inductive Res(α:Type) where
 |ok (a:α)|err (c:Str) (as:aa D)|bad
noncomputable def Res.bind{α β:Type}:Res α->(α->Res β)->Res β
 |.ok a,f=>f a
 |.err c as,_=>.err c as
 |.bad,_=>.bad
noncomputable instance:Monad Res where
 pure:=.ok
 bind:=Res.bind
@[simp] theorem Res.aU(a:α)(f:α->Res β):((Res.ok a) >>= f)=f a:=rfl
@[simp] theorem Res.aQb(c:Str)(as:aa D)(f:α->Res β):((Res.err c as:Res α) >>= f)=.err c as:=rfl
@[simp] theorem Res.aQc(f:α->Res β):((Res.bad:Res α) >>= f)=.bad:=rfl
@[simp] theorem Res.pure_eq(a:α):(pure a:Res α)=.ok a:=rfl
def Res.aJy{f:α->Res β}(h:(m >>= f)=.ok b):∃a,m=.ok a/\f a=.ok b:=by
 cases m with
 |ok a=>exact⟨a,rfl,h⟩
 |err c as=>cases h
 |bad=>cases h
def bx{P:Prop}(h:(Res.bad:Res α)=.ok d):P:=by cases h
def fx0{P:Prop}(h:aj=af):P:=by cases h
def nx0{P:Prop}(h:(ao:aS α)=ae d):P:=by cases h
noncomputable def Res.ofOpt{α:Type}:aS α->Res α
 |some a=>.ok a
 |none=>.bad
@[simp] theorem Res.aMr(a:α):Res.ofOpt (ae a)=.ok a:=rfl
def Res.mW(h:Res.ofOpt o=.ok a):o=ae a:=by
 cases o with
 |none=>cases h
 |some b=>cases h;rfl
noncomputable def lim:ai:=1000000
inductive Bop where|add|sub|mul|fdiv|mod|pow
 deriving fy
inductive Cop where|eq|ne|ord (o:gZ)|isin|rE|isN|notN
 deriving fy
noncomputable def lX(i:ag):ax:=ϒ (-(2 ^ 64)<i)&&ϒ (i<2 ^ 64)
def bL:Bop->D->D->Res D
 |.add,.int a,.int b=>.ok (.int (a+b))
 |.sub,.int a,.int b=>.ok (.int (a-b))
 |.mul,.int a,.int b=>if lX a||lX b then .ok (.int (a*b)) else .bad
 |.fdiv,.int a,.int b=>if ϒ (0<b)&&ϒ (b<1073741824) then .ok (.int (a / b)) else .bad
 |.mod,.int a,.int b=>if ϒ (0<b) then .ok (.int (a % b)) else .bad
 |.pow,.int a,.int b=>if ϒ (0<=b)&&ϒ (b<=1000000)&&ϒ (a.natAbs<2 ^ 64) then .ok (.int (a ^ b.toNat)) else .bad
 |.add,.str a,.str b=>if ϒ (a.length+b.length<=lim) then .ok (.str (a++b)) else .bad
 |.add,.lst a,.lst b=>if ϒ (a.length+b.length<=lim)&&D.aW a&&D.aW b then .ok (.lst (a++b)) else .bad
 |_,_,_=>.bad
def aSe:D->Res ax
 |.non=>.ok aj
 |.bl b=>.ok b
 |.int i=>.ok (i !=0)
 |.str x=>if ϒ (x.length<=lim) then .ok ((x.length:ag)!=0) else .bad
 |.tup xs=>.ok (!xs.isEmpty)
 |.lst xs=>.ok (!xs.isEmpty)
 |.dct kvs=>.ok (!kvs.isEmpty)
 |.uD=>.bad
 |.scr xs=>.ok (!xs.isEmpty)
def fY:D->ax
 |.int _=>af
 |.str _=>af
 |_=>aj
def keyOk:D->ax
 |.int _=>af
 |.str _=>af
 |.tup xs=>xs.all fY
 |_=>aj
noncomputable def isTup:D->ax
 |.tup _=>af
 |_=>aj
def bB:aa (D×D)->D->aS D
 |[],_=>ao
 | (k,v)::r,q=>if eqD k q then ae v else bB r q
def putD:aa (D×D)->D->D->aa (D×D)
 |[],q,w=>[(q,w)]
 | (k,v)::r,q,w=>if eqD k q then (k,w)::r else (k,v)::putD r q w
def rC(kvs:aa (D×D))(k:D):ax:=keyOk k&&kvs.all (λp=>isTup p.1==isTup k)
noncomputable def aO:ai:=12
def dC:Cop->D->D->Res D
 |.eq,a,b=>if a.fD aO&&b.fD aO then .ok (.bl (eqD a b)) else .bad
 |.ne,a,b=>if a.fD aO&&b.fD aO then .ok (.bl (!eqD a b)) else .bad
 |.ord o,a,b=>if a.fD aO&&b.fD aO then (match iR o a b with|some k=>.ok (.bl k)|none=>.bad) else .bad
 |.isin,a,.tup ys=>if a.fD aO&&D.bU aO ys then .ok (.bl (ys.any λy=>eqD y a)) else .bad
 |.isin,a,.lst ys=>if a.fD aO&&D.bU aO ys then .ok (.bl (ys.any λy=>eqD y a)) else .bad
 |.isin,a,.dct kvs=>if rC kvs a then .ok (.bl (bB kvs a).isSome) else .bad
 |.rE,a,.tup ys=>if a.fD aO&&D.bU aO ys then .ok (.bl (!(ys.any λy=>eqD y a))) else .bad
 |.rE,a,.lst ys=>if a.fD aO&&D.bU aO ys then .ok (.bl (!(ys.any λy=>eqD y a))) else .bad
 |.rE,a,.dct kvs=>if rC kvs a then .ok (.bl (!(bB kvs a).isSome)) else .bad
 |.isN,.scr _,.non=>.bad
 |.notN,.scr _,.non=>.bad
 |.isN,.non,.non=>.ok (.bl af)
 |.isN,a,.non=>.ok (.bl aj)
 |.notN,.non,.non=>.ok (.bl aj)
 |.notN,a,.non=>.ok (.bl af)
 |_,_,_=>.bad
noncomputable def ixD(n:ai)(i:ag):aS ai:=if 0<=i then (if i<n then ae i.toNat else ao) else if -(n:ag)<=i then ae (i+n).toNat else ao
def getD(d i:D):Res D:=
 match d,i with
 |.tup xs,.int i=>Res.ofOpt ((ixD xs.length i).bind λj=>xs[j]?)
 |.lst xs,.int i=>Res.ofOpt ((ixD xs.length i).bind λj=>xs[j]?)
 |.scr xs,.int i=>Res.ofOpt ((ixD xs.length i).bind λj=>xs[j]?)
 |.str x,.int i=>if ϒ (x.length<=lim) then Res.ofOpt (((ixD x.cps.toList.length i).bind λj=>x.cps.toList[j]?).map λc=>D.str ⟨#[c]⟩) else .bad
 |.dct kvs,k=>if keyOk k then Res.ofOpt (bB kvs k) else .bad
 |_,_=>.bad
noncomputable def W4(n d:ai):aS ag->ai
 |none=>d
 |some v=>if v<0 then (max (v+(n:ag)) 0).toNat else (min v (n:ag)).toNat
def cutD{α:Type}(xs:aa α)(lo hi:aS ag):aa α:=(xs.drop (W4 xs.length 0 lo)).take (W4 xs.length xs.length hi-W4 xs.length 0 lo)
inductive Ty where|int|str|bool|list|tuple|dict
 deriving fy
def aR5:Ty->D->Res ax
 |_,.uD=>.bad
 |_,.scr _=>.bad
 |.int,.int _=>.ok af
 |.int,.bl _=>.ok af
 |.bool,.bl _=>.ok af
 |.str,.str _=>.ok af
 |.tuple,.tup _=>.ok af
 |.list,.lst _=>.ok af
 |.dict,.dct _=>.ok af
 |_,_=>.ok aj
mutual
noncomputable def D.plain:D->ax
 |.int _=>af
 |.str _=>af
 |.tup xs=>D.dF xs
 |.scr xs=>D.dF xs
 |_=>aj
noncomputable def D.dF:aa D->ax
 |[]=>af
 |x::xs=>x.plain&&D.dF xs
end
mutual
noncomputable def enc:D->aa ag
 |.int i=>[0,i]
 |.str x=>1::(x.cps.toList.map (λ(c:ai)=>(c:ag)+1)++[0])
 |.tup xs=>2::iQ xs
 |.scr xs=>3::iQ xs
 |_=>[]
noncomputable def iQ:aa D->aa ag
 |[]=>[0]
 |x::xs=>1::(enc x++iQ xs)
end
def eX:D->ai
 |.int _=>1
 |.str _=>2
 |.tup (.int _::_)=>3
 |.tup (.str _::_)=>4
 |.tup (.tup _::_)=>5
 |.tup (.scr _::_)=>6
 |_=>0
def bG(xs:aa D):ax:=xs.all λa=>a.plain&&a.fD aO&&eX a !=0&&eX a==eX (xs.headD .non)&&xs.all λb=>(iR .lt a b).isSome
def leE(a b:D):ax:=!ϒ (enc b<enc a)
def h_(xs:aa D):aa D:=xs.mergeSort leE
noncomputable def yH(i:ag):ax:=ϒ (-(2 ^ 62)<=i)&&ϒ (i<2 ^ 62)
noncomputable def asB:D->Res ax
 |.bl b=>.ok b
 |_=>.bad
noncomputable def asI:D->Res ag
 |.int i=>.ok i
 |_=>.bad
inductive Fl where
 |nx (ρ:aa D)|rt (d:D)|bk (ρ:aa D)|ct (ρ:aa D)
noncomputable def aBr:Fl->Res D
 |.rt d=>.ok d
 |.nx _=>.ok .non
 |_=>.bad
noncomputable abbrev FE:=aa D->Res D
noncomputable abbrev FT:=aa D->Res ax
noncomputable abbrev FA:=aa D->Res (aa D)
noncomputable def kJ(i:ai):FE:=λρ=>match ρ.getD i .uD with|.uD=>.bad|d=>.ok d
noncomputable def bC(d:D):FE:=λ_=>.ok d
abbrev fW:FE:= kJ 1
abbrev dG:FE:= kJ 0
abbrev uQ:FE:= kJ 8
abbrev gD:FE:= kJ 4
abbrev vU:FE:= kJ 7
abbrev g_:FE:= kJ 2
abbrev mX:FE:= kJ 6
abbrev BV:FE:= kJ 9
abbrev j8:FE:= kJ 3
abbrev fZ:FE:= kJ 5
abbrev rW:FE:= kJ 10
abbrev rY:FE:= kJ 12
abbrev rZ:FE:= kJ 13
abbrev O2:FE:= kJ 11
abbrev fU:FE:= bC (.int 0)
abbrev tM:FE:= bC (.int 2)
abbrev gK:FE:= bC (.int 1)
abbrev aBs:FE:= bC (.int 128)
abbrev aJz:FE:= bC (.int 26)
abbrev aFo:FE:= bC (.int 5)
abbrev aQd:FE:= bC (.int 7)
abbrev W5:FE:= bC (.int 8)
abbrev aQe:FE:= bC (.int 3)
abbrev aBt:FE:= bC (.int 4)
abbrev aG7:FE:= bC (.int 10)
abbrev aR6:FE:= bC (.int 6)
noncomputable def b2(f:D->D->Res D)(a b:FE):FE:=λρ=>do let x <- a ρ;let y <- b ρ;f x y
noncomputable def b1(f:D->Res D)(a:FE):FE:=λρ=>do let x <- a ρ;f x
def bTB(a:FE):FT:=λρ=>do let x <- a ρ;asB x
noncomputable def SJ(a:FT):FT:=λρ=>do let x <- a ρ;pure (!x)
noncomputable def aBu(a b:FT):FT:=λρ=>do let x <- a ρ;if x then b ρ else pure aj
noncomputable def bOr(a b:FT):FT:=λρ=>do let x <- a ρ;if x then pure af else b ρ
def aBv(a:FE):FE:=λρ=>do let x <- a ρ;let k <- asB x;pure (.bl (!k))
def HQ(a b:FE):FE:=λρ=>do let x <- a ρ;let k <- asB x;if k then b ρ else pure (.bl aj)
def bCh(f g:D->D->Res D)(a b c:FE):FE:=λρ=>do let x <- a ρ;let y <- b ρ;let z <- f x y;let k <- asB z;if k then (do let u <- c ρ;g y u) else pure (.bl aj)
noncomputable def aX:FA:=λ_=>.ok []
noncomputable def aD(a:FE)(b:FA):FA:=λρ=>do let x <- a ρ;let xs <- b ρ;pure (x::xs)
def iT(a:FA):FE:=λρ=>do let xs <- a ρ;if ϒ (xs.length<=lim) then pure (.tup xs) else .bad
def BW(a:FA):FE:=λρ=>do let xs <- a ρ;if ϒ (xs.length<=lim) then pure (.lst xs) else .bad
noncomputable def aP(f:aa D->Res D)(a:FA):FE:=λρ=>do let xs <- a ρ;f xs
def O3(a:FE):aa D->Res (aS ag):=λρ=>do let x <- a ρ;let i <- asI x;pure (ae i)
noncomputable def aO4:aa D->Res (aS ag):=λ_=>.ok ao
def aR7:D->Res ax
 |.dct _=>.bad
 |.scr _=>.bad
 |d=>aSe d
def bTr(a:FE):FT:=λρ=>do let x <- a ρ;aR7 x
noncomputable def aR8:D->Res D
 |.int i=>.ok (.int (-i))
 |_=>.bad
def aFp:D->aS ag->aS ag->Res D
 |.lst xs,lo,hi=>if D.aW xs then .ok (.lst (cutD xs lo hi)) else .bad
 |.scr xs,lo,hi=>if D.aW xs then .ok (.lst (cutD xs lo hi)) else .bad
 |.tup xs,lo,hi=>if !D.aW xs||ϒ (W4 xs.length 0 lo=0/\W4 xs.length xs.length hi=xs.length) then .bad else .ok (.tup (cutD xs lo hi))
 |_,_,_=>.bad
def aI6(a:FE)(lo hi:aa D->Res (aS ag)):FE:=λρ=>do let x <- a ρ;let l <- lo ρ;let h <- hi ρ;aFp x l h
def sE(o:gZ):aa D->Res D
 |[]=>.bad
 |x::xs=>if ((x::xs).all λa=>a.fD aO&&(x::xs).all λb=>(iR o a b).isSome) then .ok (xs.foldl (λm y=>if (iR o y m).getD aj then y else m) x) else .bad
def btD(o:gZ)(ds:aa D)(i j:ai):ax:=(iR o (ds.getD i .non) (ds.getD j .non)).getD aj
def dX(o:gZ):aa D->Res D
 |[.lst xs]=>sE o xs
 |[.tup xs]=>sE o xs
 |[a,b]=>sE o [a,b]
 |_=>.bad
def fV:aa D->Res D
 |[.tup xs]=>.ok (.int xs.length)
 |[.lst xs]=>.ok (.int xs.length)
 |[.scr xs]=>.ok (.int xs.length)
 |[.str x]=>if ϒ (x.length<=lim) then .ok (.int x.length) else .bad
 |_=>.bad
noncomputable def lO(kvs:aa (D×D)):aa D:=kvs.map (·.1)
def T7:aa D->Res D
 |[.tup xs]=>if D.aW xs then .ok (.lst xs) else .bad
 |[.lst xs]=>if D.aW xs then .ok (.lst xs) else .bad
 |[.dct kvs]=>if kvs.all (λp=>!isTup p.1) then .ok (.lst (lO kvs)) else .bad
 |_=>.bad
noncomputable def oJ:aa D->Res D
 |[.tup xs]=>.ok (.tup xs)
 |[.lst xs]=>.ok (.tup xs)
 |_=>.bad
def gB:aa D->Res D
 |[.lst xs]=>if bG xs then .ok (.lst (h_ xs)) else .bad
 |_=>.bad
def Ty.nm:Ty->eM
 |.int=>"int" | .str=>"str" | .bool=>"bool" | .list=>"list" | .tuple=>"tuple" | .dict=>"dict"
def n6(t:Ty)(d:D):Res D:=do let k <- aR5 t d;pure (.bl k)
noncomputable def b_(n:ai)(f:aa D->Res D):aa D->Res D:=λds=>if ϒ (ds.length=n) then f ds else .bad
noncomputable abbrev FI:=aa D->Res (aa D×ax)
noncomputable def rG:D->Res (aa D)
 |.lst xs=>.ok xs
 |.tup xs=>.ok xs
 |_=>.bad
def dN(a:FE)(fr:ax):FI:=λρ=>do let x <- a ρ;let xs <- rG x;pure (xs,fr||x.pure)
def lY:aa D->Res (aa D×ax)
 |[.int n]=>if yH n then .ok ((bh n.toNat).map λ(k:ai)=>D.int (0+(k:ag)),af) else .bad
 |_=>.bad
noncomputable def mY(f:FA)(g:aa D->Res (aa D×ax)):FI:=λρ=>do let xs <- f ρ;g xs
noncomputable def W6(n:ai)(ρ:aa D):aa D:=(bh n).map λi=>ρ.getD i .uD
noncomputable def HR:D->Res (aa D):=λd=>.ok [d]
noncomputable def O4(m:ai):D->Res (aa D)
 |.tup ds=>if ϒ (ds.length=m) then .ok ds else .bad
 |_=>.bad
def tZ(n:ai)(t:D->Res (aa D))(c:FT)(f:FE)(k:ax)(ρ:aa D)(acc:aa D)(x:D):Res (aa D):=do
 let bs <- t x
 let ok <- c (W6 n ρ++bs)
 if ok then (do
  let y <- f (W6 n ρ++bs)
  if k||y.pure then pure (acc++[y]) else .bad)
 else pure acc
noncomputable def sG(g:aa D->D->Res (aa D)):aa D->aa D->Res (aa D)
 |acc,[]=>.ok acc
 |acc,x::xs=>do let a <- g acc x;sG g a xs
def fJ(n:ai)(it:FI)(t:D->Res (aa D))(c:FT)(f:FE)(k:ax):FE:=λρ=>do
 let xs <- it ρ
 if ϒ (xs.1.length<=lim) then (do
  let ys <- sG (tZ n t c f k ρ) [] xs.1
  pure (.lst ys)) else .bad
noncomputable def iU:FT:=λ_=>.ok af
noncomputable abbrev FS:=aa D->Res Fl
def inner:D->ax
 |.lst xs=>D.aW xs
 |.dct kvs=>D.aW (kvs.map (·.2))
 |_=>aj
noncomputable def n8:FS:=λρ=>.ok (.nx ρ)
noncomputable def bM(f g:FS):FS:=λρ=>do
 let r <- f ρ
 match r with
 |.nx ρ'=>g ρ'
 |r=>.ok r
def cH(o:ax)(i:ai)(f:FE)(k:ax):FS:=λρ=>do
 let d <- f ρ
 if (if o then k&&inner d else k||d.pure) then .ok (.nx (ρ.set i d)) else .bad
def sAl(i j:ai):FS:=λρ=>do
 let d <- kJ j ρ
 .ok (.nx (ρ.set i d))
noncomputable def sIf(c:FT)(f g:FS):FS:=λρ=>do
 let k <- c ρ
 if k then f ρ else g ρ
noncomputable def lC(f:FE)(k:ax):FS:=λρ=>do
 let d <- f ρ
 if k||d.pure then .ok (.rt d) else .bad
def HS(i:ai):FS:=λρ=>do
 let d <- kJ i ρ
 .ok (.rt d)
noncomputable def rtX:ai:=1000000
def wN(i:ai)(f:FE):FS:=λρ=>do
 let d <- f ρ
 match ρ.getD i .uD with
 |.lst xs=>if ϒ (xs.length<lim)&&d.pure then .ok (.nx (ρ.set i (.lst (xs++[d])))) else .bad
 |_=>.bad
def aQf(i:ai)(f:FE)(g:FE):FS:=λρ=>do
 let j <- f ρ
 let d <- g ρ
 match ρ.getD i .uD,j with
 |.lst xs,.int j=>if ϒ (xs.length<lim)&&d.pure&&ϒ (0<=j)&&ϒ (j<=xs.length) then .ok (.nx (ρ.set i (.lst (xs.take j.toNat++d::xs.drop j.toNat)))) else .bad
 |_,_=>.bad
def M8(i:ai)(f:FE)(g:FE):FS:=λρ=>do
 let d <- g ρ
 let k <- f ρ
 match ρ.getD i .uD with
 |.dct kvs=>if ϒ (kvs.length<lim)&&rC kvs k&&d.pure then .ok (.nx (ρ.set i (.dct (putD kvs k d)))) else .bad
 |_=>.bad
noncomputable def tg1(i:ai):D->aa D->Res (aa D):=λd ρ=>.ok (ρ.set i d)
noncomputable def O5:aa ai->aa D->aa D->aa D
 |i::is,d::ds,ρ=>O5 is ds (ρ.set i d)
 |_,_,ρ=>ρ
def tgN(is:aa ai):D->aa D->Res (aa D)
 |.tup ds,ρ=>if ϒ (ds.length=is.length) then .ok (O5 is ds ρ) else .bad
 |_,_=>.bad
noncomputable def oK(t:D->aa D->Res (aa D))(body:FS):aa D->aa D->Res Fl
 |[],ρ=>.ok (.nx ρ)
 |x::xs,ρ=>do
  let ρ1 <- t x ρ
  let r <- body ρ1
  match r with
  |.nx ρ'=>oK t body xs ρ'
  |.ct ρ'=>oK t body xs ρ'
  |.bk ρ'=>.ok (.nx ρ')
  |.rt d=>.ok (.rt d)
def vV(it:FI)(t:D->aa D->Res (aa D))(body:FS):FS:=λρ=>do
 let xs <- it ρ
 if xs.2 then oK t body xs.1 ρ else .bad
def Z6(i:ai)(t:D->aa D->Res (aa D))(body:FS):FS:=λρ=>do
 let d <- kJ i ρ
 let xs <- rG d
 oK t body xs ρ
def fnS(n m:ai)(f:FS):aa D->Res D:=λds=>do
 let r <- f (ds++c_ (m-n) .uD)
 aBr r
mutual
def aI7(a b:D)(h1:a.plain=af)(h2:b.plain=af)(h:eqD a b=af):a=b:=by
 cases a with
 |int i=>
  cases b with
  |int j=>rw[eq_of_beq (show(i==j)=af from h)]
  |str _=>exact fx0 h
  |tup _=>exact fx0 h
  |scr _=>exact fx0 h
  |_=>exact fx0 h2
 |str i=>
  cases b with
  |str j=>rw[eq_of_beq (show(i==j)=af from h)]
  |int _=>exact fx0 h
  |tup _=>exact fx0 h
  |scr _=>exact fx0 h
  |_=>exact fx0 h2
 |tup xs=>
  cases b with
  |tup ys=>rw[HW xs ys h1 h2 h]
  |int _=>exact fx0 h
  |str _=>exact fx0 h
  |scr _=>exact fx0 h
  |_=>exact fx0 h2
 |scr xs=>
  cases b with
  |scr ys=>rw[HW xs ys h1 h2 h]
  |int _=>exact fx0 h
  |str _=>exact fx0 h
  |tup _=>exact fx0 h
  |_=>exact fx0 h2
 |_=>exact fx0 h1
def HW:∀(a b:aa D),D.dF a=af->D.dF b=af->nT a b=af->a=b
 |[],[],_,_,_=>rfl
 |x::xs,y::ys,h1,h2,h=>by
  rw[D.dF,bn] at h1 h2;rw[nT,bn] at h;rw[aI7 x y h1.1 h2.1 h.1,HW xs ys h1.2 h2.2 h.2]
 |[],_::_,_,_,h=>by exact fx0 h
 |_::_,[],_,_,h=>by exact fx0 h
end
mutual
def wO(a:D)(h:a.plain=af):eqD a a=af:=by
 cases a with
 |int i=>exact nV i
 |str i=>exact nV i
 |tup xs=>exact t7 xs h
 |scr xs=>exact t7 xs h
 |_=>exact fx0 h
def t7:∀(a:aa D),D.dF a=af->nT a a=af
 |[],_=>rfl
 |x::xs,h=>by
  rw[D.dF,bn] at h;rw[nT,wO x h.1,t7 xs h.2];rfl
end
theorem aBw:∀(a b:aa ai)(r t:aa ag),(a.map (λ(c:ai)=>(c:ag)+1)++[0])++r=(b.map (λ(c:ai)=>(c:ag)+1)++[0])++t->a=b/\r=t
 |[],[],r,t,h=>by simpa using h
 |[],c::b,r,t,h=>by
  simp only[je,eI,eC,bj,iw] at h;lia
 |c::a,[],r,t,h=>by
  simp only[je,eI,eC,bj,iw] at h;lia
 |c::a,d::b,r,t,h=>by
  simp only[eC,bj,iw] at h;obtain⟨e1,e2⟩:=aBw a b r t h.2;exact⟨by rw[e1,show c=d by lia],e2⟩
mutual
theorem oM:∀(a b:D)(r t:aa ag),a.plain=af->b.plain=af->enc a++r=enc b++t->a=b/\r=t
 |.int i,b,r,t,_,h2,h=>by
  cases b<;>simp only[enc,D.plain,dm,eC,iw,eI] at h h2<;>try omega
  .exact⟨by rw[h.2.1],h.2.2⟩
 |.str x,b,r,t,_,h2,h=>by
  cases b with
  |str y=>
   simp only[enc,eC,iw,true_and] at h;obtain⟨e1,e2⟩:=aBw _ _ _ _ h;refine⟨?_,e2⟩;cases x;cases y;simp only[] at e1
   congr 2
   exact l5.mp e1
  |_=>simp[enc,D.plain] at h h2
 |.tup xs,b,r,t,h1,h2,h=>by
  cases b with
  |tup ys=>
   rw[D.plain] at h1 h2;simp only[enc,eC,iw,true_and] at h;obtain⟨e1,e2⟩:=t8 xs ys r t h1 h2 h;exact⟨by rw[e1],e2⟩
  |_=>simp[enc,D.plain] at h h2
 |.scr xs,b,r,t,h1,h2,h=>by
  cases b with
  |scr ys=>
   rw[D.plain] at h1 h2;simp only[enc,eC,iw,true_and] at h;obtain⟨e1,e2⟩:=t8 xs ys r t h1 h2 h;exact⟨by rw[e1],e2⟩
  |_=>simp[enc,D.plain] at h h2
 |.uD,_,_,_,h,_,_=>by simp[D.plain] at h
 |.non,_,_,_,h,_,_=>by simp[D.plain] at h
 |.bl _,_,_,_,h,_,_=>by simp[D.plain] at h
 |.lst _,_,_,_,h,_,_=>by simp[D.plain] at h
 |.dct _,_,_,_,h,_,_=>by simp[D.plain] at h
theorem t8:∀(a b:aa D)(r t:aa ag),D.dF a=af->D.dF b=af->iQ a++r=iQ b++t->a=b/\r=t
 |[],[],r,t,_,_,h=>by simpa[iQ] using h
 |[],_::_,r,t,_,_,h=>by simp[iQ] at h
 |_::_,[],r,t,_,_,h=>by simp[iQ] at h
 |x::xs,y::ys,r,t,h1,h2,h=>by
  rw[D.dF,bn] at h1 h2;simp only[iQ,eC,iw,true_and,c6] at h;obtain⟨e1,e2⟩:=oM x y _ _ h1.1 h2.1 h;obtain⟨e3,e4⟩:=t8 xs ys r t h1.2 h2.2 e2;exact⟨by rw[e1,e3],e4⟩
end
def aK0(h1:a.plain=af)(h2:b.plain=af)(h:enc a=enc b):a=b:=(oM a b [] [] h1 h2 (by rw[h])).1
def sI(p:aa ag)(r t:aa ag):p++r<p++t↔r<t:=by
 induction p with
 |nil=>rfl
 |cons x p ih=>rw[eC,eC,eL];simp[ih]
def W7:∀(u v r t:aa ag),(∀z,u++z≠v)->(∀z,v++z≠u)->(u++r<v++t↔u<v)
 |[],v,_,_,h,_=>bg rfl (h v)
 |u,[],_,_,_,h=>bg rfl (h u)
 |x::u,y::v,r,t,h1,h2=>by
  rw[eC,eC,eL,eL];by_cases e:x=y
  .subst e;have:=W7 u v r t (λz hz=>h1 z (by rw[eC,hz])) (λz hz=>h2 z (by rw[eC,hz]));simp[this]
  .simp[e]
theorem aBx:∀(a b:aa ai),(a.map (λ(c:ai)=>(c:ag)+1)++[0]<b.map (λ(c:ai)=>(c:ag)+1)++[0])↔a<b
 |[],[]=>by simp
 |[],c::b=>by
  simp only[je,eI,bj,eC,eL,List.nil_lt_cons,iff_true]
  left;lia
 |c::a,[]=>by
  simp only[je,eI,bj,eC,eL,List.not_lt_nil,iff_false,gS,not_and];exact⟨by lia,λh=>by lia⟩
 |c::a,d::b=>by
  simp only[bj,eC,eL,aBx a b];constructor
  .rintro(h|⟨h,k⟩)
   .left;lia
   .right;exact⟨by lia,k⟩
  .rintro(h|⟨h,k⟩)
   .left;lia
   .right;exact⟨by lia,k⟩
mutual
theorem yI:∀(a b:D)(k:ax),a.plain=af->b.plain=af->iR .lt a b=ae k->k=ϒ (enc a<enc b)
 |.int i,.int j,k,_,_,h=>by
  rw[iR] at h;rw[<-c5 h];simp[enc,gZ.int,eL]
 |.str x,.str y,k,_,_,h=>by
  rw[iR] at h;rw[<-c5 h];have:=aBx x.cps.toList y.cps.toList;simp only[enc,gZ.str,T6,eL,true_and];simp[this]
 |.tup xs,.tup ys,k,h1,h2,h=>by
  rw[D.plain] at h1 h2;rw[iR] at h;rw[wU xs ys k h1 h2 h];simp[enc,eL]
 |.int _,.str _,_,_,_,h=>by exact nx0 h
 |.int _,.tup _,_,_,_,h=>by exact nx0 h
 |.int _,.uD,_,_,_,h=>by exact nx0 h
 |.int _,.scr _,_,_,_,h=>by exact nx0 h
 |.int _,.non,_,_,_,h=>by exact nx0 h
 |.int _,.bl _,_,_,_,h=>by exact nx0 h
 |.int _,.lst _,_,_,_,h=>by exact nx0 h
 |.int _,.dct _,_,_,_,h=>by exact nx0 h
 |.str _,.int _,_,_,_,h=>by exact nx0 h
 |.str _,.tup _,_,_,_,h=>by exact nx0 h
 |.str _,.uD,_,_,_,h=>by exact nx0 h
 |.str _,.scr _,_,_,_,h=>by exact nx0 h
 |.str _,.non,_,_,_,h=>by exact nx0 h
 |.str _,.bl _,_,_,_,h=>by exact nx0 h
 |.str _,.lst _,_,_,_,h=>by exact nx0 h
 |.str _,.dct _,_,_,_,h=>by exact nx0 h
 |.tup _,.int _,_,_,_,h=>by exact nx0 h
 |.tup _,.str _,_,_,_,h=>by exact nx0 h
 |.tup _,.uD,_,_,_,h=>by exact nx0 h
 |.tup _,.scr _,_,_,_,h=>by exact nx0 h
 |.tup _,.non,_,_,_,h=>by exact nx0 h
 |.tup _,.bl _,_,_,_,h=>by exact nx0 h
 |.tup _,.lst _,_,_,_,h=>by exact nx0 h
 |.tup _,.dct _,_,_,_,h=>by exact nx0 h
 |.scr xs,.scr ys,k,h1,h2,h=>by
  rw[D.plain] at h1 h2;rw[iR] at h;rw[wU xs ys k h1 h2 h];simp[enc,eL]
 |.scr _,.int _,_,_,_,h=>by exact nx0 h
 |.scr _,.str _,_,_,_,h=>by exact nx0 h
 |.scr _,.tup _,_,_,_,h=>by exact nx0 h
 |.scr _,.uD,_,_,_,h=>by exact nx0 h
 |.scr _,.non,_,_,_,h=>by exact nx0 h
 |.scr _,.bl _,_,_,_,h=>by exact nx0 h
 |.scr _,.lst _,_,_,_,h=>by exact nx0 h
 |.scr _,.dct _,_,_,_,h=>by exact nx0 h
 |.uD,_,_,h,_,_=>by simp[D.plain] at h
 |.non,_,_,h,_,_=>by simp[D.plain] at h
 |.bl _,_,_,h,_,_=>by simp[D.plain] at h
 |.lst _,_,_,h,_,_=>by simp[D.plain] at h
 |.dct _,_,_,h,_,_=>by simp[D.plain] at h
theorem wU:∀(a b:aa D)(k:ax),D.dF a=af->D.dF b=af->cV .lt a b=ae k->k=ϒ (iQ a<iQ b)
 |[],[],k,_,_,h=>by rw[cV] at h;rw[<-c5 h];simp[iQ,gZ.nat]
 |[],y::ys,k,_,_,h=>by rw[cV] at h;rw[<-c5 h];simp[iQ,gZ.nat,eL]
 |x::xs,[],k,_,_,h=>by rw[cV] at h;rw[<-c5 h];simp[iQ,gZ.nat,eL]
 |x::xs,y::ys,k,h1,h2,h=>by
  rw[D.dF,bn] at h1 h2;rw[cV] at h;simp only[iQ,eL,true_and,vg,false_or];cases e:eqD x y with
  |true=>
   rw[e,av rfl] at h;have:=aI7 x y h1.1 h2.1 e;subst this;rw[wU xs ys k h1.2 h2.2 h];simp[sI]
  |false=>
   rw[e,aw 0x2] at h;rw[yI x y k h1.1 h2.1 h];have hne:x≠y:=λz=>by subst z;rw[wO x h1.1] at e;cases e
   have:=W7 (enc x) (enc y) (iQ xs) (iQ ys) (λz hz=>hne (oM x y z [] h1.1 h2.1 (by simpa using hz)).1) (λz hz=>hne (oM y x z [] h2.1 h1.1 (by simpa using hz)).1.symm);simp[this]
end
def aBy(a b c:D)(h1:leE a b=af)(h2:leE b c=af):leE a c=af:=by
 simp only[leE,jk,kX] at *;exact λh=>by
  rcases(inferInstance:Std.Trichotomous (α:=aa ag) (·<·)) with _
  exact h1 (vh (k4.mp h2) h)
def aBz(a b:D):(leE a b||leE b a)=af:=by
 simp only[leE,jl,jk,kX];by_cases h:enc b<enc a
 .right;exact vk h
 .left;exact h
def b7(ds:aa D):(h_ ds).Perm ds:=List.mergeSort_perm ds leE
def dY(ds:aa D):(h_ ds).Pairwise λa b=>leE a b=af:=List.pairwise_mergeSort (λa b c=>aBy a b c) (λa b=>aBz a b) ds
def oN{ds es:aa D}(hp:∀d∈ds,d.plain=af)(h:ds.Perm es)(h1:ds.Pairwise λa b=>leE a b=af)(h2:es.Pairwise λa b=>leE a b=af):ds=es:=by
 refine Cv (λa b ha hb h1 h2=>?_) h1 h2 h;simp only[leE,jk,kX] at h1 h2;exact aK0 (hp a ha) (hp b (h.mem_iff.mpr hb)) (vm h1 h2)
open L2
class KFrag where
 K:b6
variable [KFrag]
def aC0(H:Hp)(a:aq)(xs:aa V):Prop:=(∃o,H a=ae (.frz o (.lst xs)))\/
 ∃(o:b9)(its:ba ap)(n:ai),KFrag.K.lookup a=ae o/\o.cls=.type "list"/\o.dict=ao/\o.data=.seq its n/\its.size<=bp/\Vals xs its.toList
def aC0.sq(h:aC0 H a xs)(hK:KFrag.K=K):SqL K H a xs:=by
 subst hK;rcases h with ⟨o,h⟩|h
 .exact .inl (.inr ⟨o,h⟩)
 .exact .inr h
def kD:Key->D
 |.inl i=>.int i
 |.inr x=>.str x
noncomputable def wD:HO->ax
 |.lst _=>af
 |.dK _=>af
 |.dT _=>af
 |_=>aj
mutual
inductive Rep(P:aq->Prop)(H:Hp):V->D->Prop
 |non:Rep P H .non .non
 |bl (b:ax):Rep P H (.bl b) (.bl b)
 |int (i:ag):Rep P H (.int i) (.int i)
 |str (x:Str):Rep P H (.str x) (.str x)
 |tup {a:aq} {xs:aa V} {ds:aa D}:H a=ae (.tup xs)->bN P H xs ds->Rep P H (.ref a) (.tup ds)
 |lst {a:aq} {xs:aa V} {ds:aa D}:H a=ae (.lst xs)->P a->bN P H xs ds->Rep P H (.ref a) (.lst ds)
 |frz {a:aq} {xs:aa V} {ds:aa D}:aC0 H a xs->bN P H xs ds->Rep P H (.ref a) (.scr ds)
 |dK {a:aq} {kvs:aa (Key×V)} {ds:aa (D×D)}:H a=ae (.dK kvs)->P a->lZ P H kvs ds->(kvs.map (·.1)).Nodup->Rep P H (.ref a) (.dct ds)
 |dT {a:aq} {kvs:aa (aa Key×V)} {ds:aa (D×D)}:H a=ae (.dT kvs)->P a->uX P H kvs ds->(kvs.map (·.1)).Nodup->Rep P H (.ref a) (.dct ds)
inductive bN(P:aq->Prop)(H:Hp):aa V->aa D->Prop
 |nil:bN P H [] []
 |cons {v:V} {d:D} {vs:aa V} {ds:aa D}:Rep P H v d->bN P H vs ds->bN P H (v::vs) (d::ds)
inductive lZ(P:aq->Prop)(H:Hp):aa (Key×V)->aa (D×D)->Prop
 |nil:lZ P H [] []
 |cons {k:Key} {v:V} {d:D} {r:aa (Key×V)} {ds:aa (D×D)}:Rep P H v d->lZ P H r ds->lZ P H ((k,v)::r) ((kD k,d)::ds)
inductive uX(P:aq->Prop)(H:Hp):aa (aa Key×V)->aa (D×D)->Prop
 |nil:uX P H [] []
 |cons {k:aa Key} {v:V} {d:D} {r:aa (aa Key×V)} {ds:aa (D×D)}:Rep P H v d->uX P H r ds->uX P H ((k,v)::r) ((.tup (k.map kD),d)::ds)
end
def HX(P:aq->Prop)(H H':Hp):Prop:=∀a o,H a=ae o->(P a\/wD o=aj)->H' a=ae o
def HX.same(h:cD H H'):HX P H H':=λa o e _=>h a o e
mutual
def Rep.iB{P P':aq->Prop}{H H':Hp}(k:HX P H H')(m:∀a o,H a=ae o->P a->P' a){v:V}{d:D}(q:Rep P H v d):Rep P' H' v d:=by
 cases q with
 |non=>exact .non
 |bl b=>exact .bl b
 |int i=>exact .int i
 |str x=>exact .str x
 |tup e r=>exact .tup (k _ _ e (.inr rfl)) (bN.iB k m r)
 |lst e p r=>exact .lst (k _ _ e (.inl p)) (m _ _ e p) (bN.iB k m r)
 |frz e r=>exact .frz (e.imp (λz=>z.imp λo e=>k _ _ e (.inr rfl)) id) (bN.iB k m r)
 |dK e p r n=>exact .dK (k _ _ e (.inl p)) (m _ _ e p) (lZ.iB k m r) n
 |dT e p r n=>exact .dT (k _ _ e (.inl p)) (m _ _ e p) (uX.iB k m r) n
def bN.iB{P P':aq->Prop}{H H':Hp}(k:HX P H H')(m:∀a o,H a=ae o->P a->P' a){v:aa V}{d:aa D}(q:bN P H v d):bN P' H' v d:=by
 cases q with
 |nil=>exact .nil
 |cons r t=>exact .cons (Rep.iB k m r) (bN.iB k m t)
def lZ.iB{P P':aq->Prop}{H H':Hp}(k:HX P H H')(m:∀a o,H a=ae o->P a->P' a){v:aa (Key×V)}{d:aa (D×D)}(q:lZ P H v d):lZ P' H' v d:=by
 cases q with
 |nil=>exact .nil
 |cons r t=>exact .cons (Rep.iB k m r) (lZ.iB k m t)
def uX.iB{P P':aq->Prop}{H H':Hp}(k:HX P H H')(m:∀a o,H a=ae o->P a->P' a){v:aa (aa Key×V)}{d:aa (D×D)}(q:uX P H v d):uX P' H' v d:=by
 cases q with
 |nil=>exact .nil
 |cons r t=>exact .cons (Rep.iB k m r) (uX.iB k m t)
end
def Rep.keep(k:HX P H H')(m:∀a,P a->P' a)(q:Rep P H v d):Rep P' H' v d:=q.iB k λa _ _=>m a
def bN.keep(k:HX P H H')(m:∀a,P a->P' a)(q:bN P H v d):bN P' H' v d:=q.iB k λa _ _=>m a
def lZ.keep(k:HX P H H')(m:∀a,P a->P' a)(q:lZ P H v d):lZ P' H' v d:=q.iB k λa _ _=>m a
def uX.keep(k:HX P H H')(m:∀a,P a->P' a)(q:uX P H v d):uX P' H' v d:=q.iB k λa _ _=>m a
def Rep.mono(r:Rep P H v d)(m:∀a,P a->P' a):Rep P' H v d:=r.keep (λ_ _ e _=>e) m
def bN.mono(r:bN P H v d)(m:∀a,P a->P' a):bN P' H v d:=r.keep (λ_ _ e _=>e) m
def Rep.same(r:Rep P H v d)(s:cD H H'):Rep P H' v d:=r.keep (.same s) λ_ h=>h
def bN.same(r:bN P H v d)(s:cD H H'):bN P H' v d:=r.keep (.same s) λ_ h=>h
noncomputable def aK1:HO->ax
 |.tup _=>aj
 |.frz _ (.lst _)=>aj
 |_=>af
mutual
def Rep.O6{P P':aq->Prop}{H H':Hp}(k:∀a o,H a=ae o->aK1 o=aj->H' a=ae o){v:V}{d:D}(q:Rep P H v d)(h:d.pure=af):Rep P' H' v d:=by
 cases q with
 |non=>exact .non
 |bl b=>exact .bl b
 |int i=>exact .int i
 |str x=>exact .str x
 |tup e r=>exact .tup (k _ _ e rfl) (bN.O6 k r h)
 |frz e r=>exact .frz (e.imp (λz=>z.imp λo e=>k _ _ e rfl) id) (bN.O6 k r h)
 |_=>exact fx0 h
def bN.O6{P P':aq->Prop}{H H':Hp}(k:∀a o,H a=ae o->aK1 o=aj->H' a=ae o){v:aa V}{d:aa D}(q:bN P H v d)(h:D.aW d=af):bN P' H' v d:=by
 cases q with
 |nil=>exact .nil
 |cons r t=>
  rw[D.aW,bn] at h;exact .cons (Rep.O6 k r h.1) (bN.O6 k t h.2)
end
def Rep.bZ(r:Rep P H v d)(h:d.pure=af):Rep P' H v d:=r.O6 (λ_ _ e _=>e) h
def bN.bZ(r:bN P H v d)(h:D.aW d=af):bN P' H v d:=r.O6 (λ_ _ e _=>e) h
def bN.length:∀{v:aa V}{d:aa D},bN P H v d->v.length=d.length
 |_,_,.nil=>rfl
 |_,_,.cons _ t=>by rw[cr,cr,bN.length t]
def bN.get:∀{vs:aa V}{ds:aa D}{i:ai}{d:D},bN P H vs ds->ds[i]?=ae d->∃v,vs[i]?=ae v/\Rep P H v d
 |_,_,_,_,.nil,e=>by simp at e
 |_,_,0,_,.cons r _,e=>by simp at e;subst e;exact⟨_,rfl,r⟩
 |_,_,i+1,d,.cons _ t,e=>by
  obtain⟨v,h1,h2⟩:=bN.get t (by simpa using e);exact⟨v,by simpa using h1,h2⟩
def bN.append:∀{vs ws:aa V}{ds es:aa D},bN P H vs ds->bN P H ws es->bN P H (vs++ws) (ds++es)
 |_,_,_,_,.nil,s=>s
 |_,_,_,_,.cons r t,s=>.cons r (bN.append t s)
def bN.take:∀{vs:aa V}{ds:aa D}(n:ai),bN P H vs ds->bN P H (vs.take n) (ds.take n)
 |_,_,0,_=>.nil
 |_,_,_+1,.nil=>.nil
 |_,_,n+1,.cons r t=>.cons r (bN.take n t)
def bN.drop:∀{vs:aa V}{ds:aa D}(n:ai),bN P H vs ds->bN P H (vs.drop n) (ds.drop n)
 |_,_,0,r=>r
 |_,_,_+1,.nil=>.nil
 |_,_,n+1,.cons _ t=>bN.drop n t
def bN.snoc(t:bN P H vs ds)(r:Rep P H v d):bN P H (vs++[v]) (ds++[d]):=t.append (.cons r .nil)
def Rep.uD:¬Rep P H v .uD:=λh=>by cases h
abbrev All:aq->Prop:=λ_=>gv
abbrev New(H:Hp):aq->Prop:=λa=>H a=ao
def Rep.all(r:Rep P H v d):Rep All H v d:=r.mono λ_ _=>trivial
def bN.all(r:bN P H v d):bN All H v d:=r.mono λ_ _=>trivial
def cD.new(s:cD H H'):∀a,New H' a->New H a:=λa h=>s.free h
def cD.upd(h:H a=ao):cD H (upd H a o):=λb u e=>by rw[bA (eG e h)];exact e
def ER(H:Hp)(σ:St)(ρ:aa D):Prop:=∀i,ρ.getD i .uD≠.uD->∃v,σ[i]?=ae (ae v)/\Rep All H v (ρ.getD i .uD)
def ER.same(e:ER H σ ρ)(s:cD H H'):ER H' σ ρ:=λi h=>by
 obtain⟨v,h1,h2⟩:=e i h;exact⟨v,h1,h2.same s⟩
def PE.imp(h:PE X e t)(i:∀σ H Q,t' σ H Q->t σ H Q):PE X e t':=λΨ s σ H Q I q=>h Ψ s σ H Q I (i σ H Q q)
def PT.imp(h:PT X e t)(i:∀σ H Q,t' σ H Q->t σ H Q):PT X e t':=λΨ s σ H Q I q=>h Ψ s σ H Q I (i σ H Q q)
def PA.imp(h:PA X e t)(i:∀σ H Q,t' σ H Q->t σ H Q):PA X e t':=λpos Ψ s σ H Q I q=>h pos Ψ s σ H Q I (i σ H Q q)
def Rep.dom(r:Rep P H v d):Rep (λa=>P a/\H a≠ao) H v d:=r.iB (λ_ _ e _=>e) λa o e p=>⟨p,by rw[e];simp⟩
def Rep.Z7(r:Rep P H v d)(k:HX P H H')(m:∀a o,H a=ae o->P a->P' a):Rep P' H' v d:=r.iB k m
def aTd(P:aq->Prop)(H:Hp)(v:V):D->Prop
 |.non=>v=.non
 |.bl b=>v=.bl b
 |.int i=>v=.int i
 |.str x=>v=.str x
 |.tup ds=>∃a xs,v=.ref a/\H a=ae (.tup xs)/\bN P H xs ds
 |.lst ds=>∃a xs,v=.ref a/\H a=ae (.lst xs)/\P a/\bN P H xs ds
 |.scr ds=>∃a xs,v=.ref a/\aC0 H a xs/\bN P H xs ds
 |.uD=>c9
 |_=>gv
def Rep.inv(r:Rep P H v d):aTd P H v d:=by
 cases r with
 |non=>rfl
 |bl=>rfl
 |int=>rfl
 |str=>rfl
 |tup e r=>exact⟨_,_,rfl,e,r⟩
 |lst e p r=>exact⟨_,_,rfl,e,p,r⟩
 |frz e r=>exact⟨_,_,rfl,e,r⟩
 |_=>trivial
end Mi
open Mi.D renaming int->δ,aW->θ,bU->μ,str->ν,lst->ξ,plain->ο,bl->π,scr->υ,dF->χ
open Mi.Res renaming aU->ε,ok->τ,ofOpt->ι
namespace L2
open PySem PySem.Spec PyProof.Rows
noncomputable def iY(own:aa Str)(x:Str):Str:=if own.contains x then x++(" " : Str) else x
def clF(env:d6):aa (Str×iF)->aa (Str×aq)->aa (Str×aq)
 |[],acc=>acc
 | (n,k)::r,acc=>clF env r (if k==.free then (n,(env.cells.lookup n).getD 0)::acc else acc)
theorem uY:∀(names:aa (Str×iF))(acc:aa (Str×aq)),(∀y∈names,y.2=.free->∃c,env.cells.lookup y.1=ae c)->
  (forIn names acc λx cs=>(match x with
   | (name,kind)=>if (kind==.free)=af then cellOf env name >>= λc=>pure (vf ((name,c)::cs)) else pure (vf cs):fF (ForInStep (aa (Str×aq)))))=(pure (clF env names acc):fF _)
 |[],acc,_=>by rw[zl];rfl
 | (n,k)::r,acc,h=>by
  rw[List.forIn_cons];by_cases hk:(k==.free)=af
  .have hk':k=.free:=by simpa using hk
   obtain⟨c,e⟩:=h (n,k) (bw ..) hk';have e':cellOf env n=pure c:=by
    unfold cellOf;have e2:env.cells.lookup n=ae c:=e;rw[e2]
   dsimp only;rw[av hk,e',pure_bind,pure_bind];dsimp only;rw[uY r _ λy hy=>h y (bu _ hy)];have e2:env.cells.lookup n=ae c:=e;simp only[clF,hk,cq,e2,qV]
  .dsimp only;rw[aw hk,pure_bind];dsimp only;rw[uY r _ λy hy=>h y (bu _ hy)];simp only[clF,hk,dm,ck]
def Z8(h:∀y∈scope.names,y.2=.free->∃c,env.cells.lookup y.1=ae c):closureFor scope env=pure (clF env scope.names []):=by
 unfold closureFor;have:=uY scope.names [] h;simp only[bind_pure] at *;exact this
theorem T8:∀{names:aa (Str×iF)}{acc:aa (Str×aq)}{x:Str}{c:aq},(∀y∈names,y.2=.free->∃c,env.cells.lookup y.1=ae c)->(∀x c,acc.lookup x=ae c->env.cells.lookup x=ae c)->
  (clF env names acc).lookup x=ae c->env.cells.lookup x=ae c
 |[],acc,x,c,_,h,e=>h x c e
 | (n,k)::r,acc,x,c,q,h,e=>by
  unfold clF at e;refine T8 (λy hy=>q y (bu _ hy)) (λy d hy=>?_) e;by_cases hk:(k==.free)=af
  .rw[av hk,jm] at hy;obtain⟨c',e'⟩:=q (n,k) (bw ..) (by simpa using hk);have e2:env.cells.lookup n=ae c':=e';cases hyn:y==n with
   |true=>
    rw[hyn] at hy;have:y=n:=by simpa using hyn
    subst this;rw[e2] at hy;simp only[qV] at hy;rw[e2];exact hy
   |false=>rw[hyn] at hy;exact h y d hy
  .rw[aw hk] at hy;exact h y d hy
def aC1:∀{names:aa (Str×iF)}{acc:aa (Str×aq)}{x:Str},(∃c,acc.lookup x=ae c)->∃c,(clF env names acc).lookup x=ae c
 |[],_,_,h=>h
 | (n,k)::r,acc,x,⟨c,h⟩=>by
  unfold clF;refine aC1 ?_;by_cases hk:(k==.free)=af
  .rw[av hk,jm];cases x==n with
   |true=>exact⟨_,rfl⟩
   |false=>exact⟨c,h⟩
  .rw[aw hk];exact⟨c,h⟩
def T9:∀{names:aa (Str×iF)}{acc:aa (Str×aq)}{x:Str},(x,kg)∈names->∃c,(clF env names acc).lookup x=ae c
 | (n,k)::r,acc,x,h=>by
  unfold clF;rcases bq.mp h with e|h
  .cases e;refine aC1 ?_;rw[av 0x4,jm];simp
  .exact T9 h
structure eF(N:aa Str)(sc scope:fT)(own:aa Str):Prop where
 kind:scope.kind=.function
 nocell:∀y∈scope.names,y.2≠.cell
 names:∀y∈scope.names,y.2=.local->scope.names.lookup y.1=ae .local
 free:∀y∈scope.names,y.2=.free->sc.names.lookup y.1=ae .cell\/sc.names.lookup y.1=ae .free
 ownl:∀x∈own,scope.names.lookup x=ae .local
 hid:∀x∈own,scope.names.lookup (x++(" " : Str))=ao
 loc:∀y∈scope.names,y.2=.local->y.1∈own\/y.1∉N
structure dZ(X X':Cx)(scope:fT)(own:aa Str):Prop where
 prog:X'.prog=X.prog
 w:X'.w=X.w
 K:X'.K=X.K
 mg:X'.mg=X.mg
 base:X'.base=X.base
 A:X'.A=X.A
 N:X'.N=X.N.map (iY own)++own
 scope:X'.env.scope=i0 scope X.env
 calm:X'.calm=X.calm
 xe:X'.xe=λ_ _=>c9
def W8(X:Cx)(scope:fT)(cl:aa (Str×aq))(C:aq)(own:aa Str)(s₂:ay)(H₂:Hp)(fp:aa aq):Cx:=
 {X with N:=X.N.map (iY own)++own,s₀:=s₂,H₀:=H₂,env:=compEnvC scope cl C X.env,outer:=X.stack,stack:=X.stack,ex:=fp,fn:=λ_=>aj,pn:=[],xe:=λ_ _=>c9}
def aC2:dZ X (W8 X scope cl C own s₂ H₂ fp) scope own:=
 ⟨rfl,rfl,rfl,rfl,rfl,rfl,rfl,rfl,rfl,rfl⟩
def Ext(σ σ2:St):Prop:=σ2.length=σ.length/\∀(i:ai) v,σ[i]?=ae (ae v)->σ2[i]?=ae (ae v)
def T_(wi:TI)(g:TG)(tc:TT)(te:TE)(m:ai):TE:=λσ H Q=>wi σ H λJ H1=>∀p,H1 p=ao->
 ∃W:ai->ai->aa V->Hp->Prop,(∃n,W 0 n [] (upd H1 p (.lst [])))/\∀i n ys H,W i n ys H->H p=ae (.lst ys)/\((J.stop i H/\Q (.ref p) H)\/(J.go i H/\ys.length<bp/\
  ∀x H2,J.yld i H x H2->g x (σ++c_ m ao) H2 λσ2 H3=>Ext (σ++c_ m ao) σ2/\tc σ2 H3 λb H4=>if b=af then te σ2 H4 λy H5=>H5 p=ae (.lst ys)/\∃n',n'<n/\W (i+1) n' (ys++[y]) (upd H5 p (.lst (ys++[y])))
   else ∃n',n'<n/\W (i+1) n' ys H4))
section
theorem Inv.comp(I:Inv X Ψ σ H2 s2)(S:eF X.N X.env.scope scope own)(hf:∀b∈fp,aAq X Ψ H2 b)
 (hfx:∀b∈fp,b<s2.heap.objs.size)(hns:h1.Ns (s2.heap.objs.size+1) (λ_=>ao))
 (hk:∀b o,s2.heap.get? b=ae o->h1.get? b=ae o)(hacc:h1.get? s2.heap.objs.size=ae {cls:=.type "list",data:=.seq #[]}) :
  Inv (W8 X scope (clF X.env scope.names []) (s2.heap.objs.size+1) own s2 H2 fp) [] (σ++c_ own.length ao) (upd H2 s2.heap.objs.size (.lst [])) {s2 with heap:=h1,toks:=t1}:=by
 have hD:H2 s2.heap.objs.size=ao:=I.hok.fresh (bi _);have hC:H2 (s2.heap.objs.size+1)=ao:=I.hok.fresh (i6 _);have cells:∀y∈scope.names,y.2=.free->∃c,X.env.cells.lookup y.1=ae c:=λy hy hk=>I.ok.has y.1 (S.free y hy hk)
 have sub:∀x c,(clF X.env scope.names []).lookup x=ae c->X.env.cells.lookup x=ae c:=λx c e=>T8 cells (λ_ _ h=>by simp at h) e
 have relk:∀x,(i0 scope X.env).names.lookup x=ae .cell\/(i0 scope X.env).names.lookup x=ae .free->(x,kg)∈scope.names:=by
  intro x hx;have go:∀(l:aa (Str×iF)),(∀y∈l,y.2≠.cell)->((l.map λ(n,k)=>if (k==kg&&X.env.scope.kind==.function&&X.env.kindOf n==ae .cell) then (n,vn) else (n,k)).lookup x=ae .cell\/(l.map λ(n,k)=>if (k==kg&&X.env.scope.kind==.function&&X.env.kindOf n==ae .cell) then (n,vn) else (n,k)).lookup x=ae .free)->(x,kg)∈l:=by
   intro l;induction l with
   |nil=>intro _ h;rcases h with h|h<;>simp at h
   |cons p l ih=>
    obtain⟨n,k⟩:=p;intro nc h;rw[bj] at h;dsimp only at h;by_cases hc:(k==kg&&X.env.scope.kind==.function&&X.env.kindOf n==ae .cell)=af
    .rw[av hc] at h;rw[jm] at h;cases e:x==n with
     |true=>
      have:x=n:=by simpa using e
      subst this;simp only[bn] at hc;have:k=.free:=by simpa using hc.1.1
      subst this;exact bw ..
     |false=>
      rw[e] at h;exact bu _ (ih (λy hy=>nc y (bu _ hy)) h)
    .rw[aw hc] at h;rw[jm] at h;cases e:x==n with
     |true=>
      have:x=n:=by simpa using e
      subst this;rw[e] at h;dsimp only at h;rcases h with h|h
      .exact bg (c5 h) (nc (x,k) (bw ..))
      .have:=c5 h;subst this;exact bw ..
     |false=>
      rw[e] at h;exact bu _ (ih (λy hy=>nc y (bu _ hy)) h)
  exact go scope.names S.nocell hx
 have hne:s2.heap.objs.size≠s2.heap.objs.size+1:=di (kh _);have hlt:∀b o,s2.heap.get? b=ae o->b<s2.heap.objs.size:=λb o e=>bX e
 have hstk:∀b∈frs X.stack,b<s2.heap.objs.size:=λb hb=>by
  obtain⟨_,o,ho,_⟩:=I.stack.mem hb;exact hlt b o ho
 refine⟨⟨I.mod,?_,I.ok.glob,I.ok.blt,i6 _,λx y c e1 e2=>I.ok.inj x y c (sub x c e1) (sub y c e2),λx hx=>?_,λ_ _ h=>(by cases h),I.ok.hd,I.ok.frames,.inl rfl,λb hb=>?_,λb o e=>I.bs b o e,?_,λb o e hb=>?_,λb hb hz=>?_,I.stack,I.aAy⟩,
  rfl,I.bare,Un.laid hk (bi _) hD,?_,λx c e=>?_,?_,λx c e=>?_,λp hp=>(by simp[W8] at hp),?_,?_⟩
 .exact S.kind
 .have hx':(i0 scope X.env).names.lookup x=ae .cell\/(i0 scope X.env).names.lookup x=ae .free:=hx;exact T9 (relk x hx')
 .refine⟨di (ix (hfx b hb)),λx c e z=>?_⟩;exact(hf b hb).2.2.2.2.1 x c (sub x c e) z
 .exact du I.ok.bsz I.sz
 .rcases(hf b hb).2.2.2.1 with z|z
  .exact I.ok.noex b o e z
  .exact bg (eP (bX e) (du I.ok.bsz z)) (fE _)
 .rcases bq.mp (I.WN b hz) with z'|z'
  .exact(hf b hb).2.1 z'
  .exact(hf b hb).2.2.1 z'
 .refine⟨_,hns,λi x v e1 e2 e3=>?_⟩;have hi:i<σ.length:=by
   rcases rf i σ.length with h|h
   .exact h
   .rw[iL h,kF] at e2;split at e2<;>cases e2
  rw[jx hi] at e2;have hiN:i<X.N.length:=by rw[<-I.len];exact hi
  have e1':(X.N.map (iY own))[i]?=ae x:=by
   have:(X.N.map (iY own)++own)[i]?=ae x:=e1;rwa [jx (by rw[aI];exact hiN)] at this
  rw[iN] at e1';obtain⟨y,hy,ey⟩:=lS.mp e1';have hyN:y∈X.N:=lu hy;have e3':(i0 scope X.env).names.lookup x=ae .local\/(i0 scope X.env).names.lookup x=ae .cell\/(i0 scope X.env).names.lookup x=ae .free:=e3;have keys:∀z k,(i0 scope X.env).names.lookup z=ae k->∃k',scope.names.lookup z=ae k'/\(k=.local->k'=.local):=by
   intro z k;show(scope.names.map λ(n,k)=>if (k==kg&&X.env.scope.kind==.function&&X.env.kindOf n==ae .cell) then (n,vn) else (n,k)).lookup z=ae k->_;generalize scope.names=l;induction l with
   |nil=>intro h;simp at h
   |cons p l ih=>
    obtain⟨n,k0⟩:=p;intro h;rw[bj] at h;dsimp only at h;by_cases hc:(k0==kg&&X.env.scope.kind==.function&&X.env.kindOf n==ae .cell)=af
    .rw[av hc,jm] at h;rw[jm];cases e:z==n with
     |true=>
      rw[e] at h;dsimp only at h;cases h;exact⟨k0,rfl,λq=>by cases q⟩
     |false=>rw[e] at h;exact ih h
    .rw[aw hc,jm] at h;rw[jm];cases e:z==n with
     |true=>
      rw[e] at h;dsimp only at h;cases h;exact⟨_,rfl,λq=>q⟩
     |false=>rw[e] at h;exact ih h
  by_cases hown:own.contains y=af
  .exfalso;have ex:x=y++(" " : Str):=by rw[<-ey];unfold iY;rw[av hown]
   have hn:=S.hid y (by simpa using hown);rw[<-ex] at hn;rcases e3' with q|q|q
   all_goals
    obtain⟨k',hk',_⟩:=keys _ _ q;rw[hn] at hk';cases hk'
  .have ex:x=y:=by rw[<-ey];unfold iY;rw[aw hown]
   subst ex;rcases e3' with q|q
   .exfalso;obtain⟨k',hk',hl⟩:=keys _ _ q;have:=hl rfl;subst this;rcases S.loc _ (lr hk') rfl with z|z
    .exact hown (by simpa using z)
    .exact z hyN
   .have hfr:=relk x q;have hv:=S.free _ hfr rfl;obtain⟨m,_,hl⟩:=I.loc;obtain⟨u,ru,lk⟩:=hl i x v hy e2 (.inr hv);refine⟨u,ru,.inr ⟨q,?_⟩⟩;rcases lk with ⟨z,_⟩|⟨_,c,hc,o,ho,hd⟩
    .have z':X.env.scope.names.lookup x=ae .local:=z;rcases hv with hv|hv<;>(rw[z'] at hv;cases hv)
    .obtain⟨c',hc'⟩:=T9 hfr;have:=sub x c' hc';rw[hc] at this;cases this;exact⟨c,hc',o,hk c o ho,hd⟩
 .obtain⟨v,z⟩:=I.cell x c (sub x c e);obtain⟨o,ho,hd⟩:=z;exact⟨v,o,hk c o ho,hd⟩
 .show upd H2 _ _ (s2.heap.objs.size+1)=ao;rw[bA (Ne.symm hne)];exact hC
 .obtain⟨v,o,ho,_⟩:=I.cell x c (sub x c e);show upd H2 _ _ c=ao;rw[bA (di (hlt c o ho))];exact I.freeC x c (sub x c e)
 .exact I.hok.laid hk (bi _) ⟨fo _,[],0,.nil,hacc⟩
 .show(σ++c_ own.length ao).length=(X.N.map (iY own)++own).length;rw[cb,cb,yh,aI,I.len]
end
section
variable {X:Cx} {scope:fT} {own:aa Str}
def cI(X':Cx)(σ:St)(fp:aa aq)(tn:ai->br->Prop)(W:ai->ai->aa V->Hp->Prop)(n:ai)(s:ay):Prop:=∃i ys H',Inv X' [] σ H' s/\tn i s.heap/\(∀b∈fp,H' b=ao)/\W i n ys H'
abbrev cE(X X':Cx)(use:aS (ap->fF Unit))(QQ:ap->ay->Prop)(p:aq):ap->ay->Prop:=notedBy (az X.prog X.w) X.A X'.env λe s'=>l9 (az X.prog X.w) X.A X.xe use QQ (.ref p) (p+1) (.error e) s'
def cB(X':Cx)(σ:St)(fp:aa aq)(tn:ai->br->Prop)(W:ai->ai->aa V->Hp->Prop)(n i:ai)(h:br):Prop:=∀{ys':aa V}{H9:Hp}{s9:ay}{σ9:St},Ext σ σ9->Inv X' ([]++xU fp h) σ9 H9 s9->(∃n',n'<n/\W (i+1) n' ys' H9)->∃m,m<n/\cI X' σ fp tn W m s9
theorem UG(S:eF X.N X.env.scope scope own)(hcalm:X.calm=af)(hi:PI X tg iter wi)
 (hg:∀X',dZ X X' scope own->PG X' tg g)(hc:(ifs=[]/\tc=λ_ H Q=>Q af H)\/∃c,ifs=[c]/\∀X',dZ X X' scope own->PT X' c tc)(he:∀X',dZ X X' scope own->PE X' elt te)
 (hs:∀x,eW iter X.env x=pure x)(I:Inv X Ψ σ H s)(h:T_ wi g tc te own.length σ H R)
 (last:∀{p C:aq} {H5:Hp} {s6:ay} {m6:Str->aS ap},Inv X Ψ σ H5 s6->aAq X Ψ H5 C->s6.heap.Ns C m6->R (.ref p) H5->l9 (az X.prog X.w) X.A X.xe use QQ (.ref p) C (.ok .next) s6) :
  ϑ (az X.prog X.w) X.A (zm (.ListComp elt [⟨tg,iter,ifs,0⟩] scope pos) scope X.env ps (vo []) aj (cK iter X.env) use) QQ X.xe s:=by
 have cells:∀y∈scope.names,y.2=.free->∃c,X.env.cells.lookup y.1=ae c:=λy hy hk=>I.ok.has y.1 (S.free y hy hk)
 refine wpAny_comprehension_free rfl hs (Z8 cells) S.kind S.names (thn (hi Ψ s σ H _ I h) λxv s1 h1=>thn h1 λitv s2 h2=>?_);obtain⟨it,fp,tn,J,H2,e,I2,T,st2,f2,hW⟩:=h2;subst e;have hD:H2 s2.heap.objs.size=ao:=I2.hok.fresh (bi _);obtain⟨W,⟨n0,w0⟩,turn⟩:=hW _ hD;have hfx:∀b∈fp,b<s2.heap.objs.size:=λb hb=>by
  obtain⟨o,ho,_⟩:=T.obj 0 _ st2 b hb;exact bX ho
 refine gi (wpAny_newFunctionEnv S.nocell (by intro y hy;simp at hy) (λh₁ hns₁ hsb₁=>?_) S.kind);dsimp only at hns₁ hsb₁ ⊢;have hC:(s2.heap.push {cls:=.type "list",dict:=ao,data:=.seq ([]:aa ap).toArray}).objs.size=s2.heap.objs.size+1:=i7 ..;have hne:s2.heap.objs.size≠s2.heap.objs.size+1:=di (kh _);rw[hC] at hns₁ hsb₁ ⊢;have old:∀b o,s2.heap.get? b=ae o->h₁.get? b=ae o:=λb o e=>hsb₁.extBut b o (di (ix (bX e))) (cx _ (cx _ e))
 have hacc:h₁.get? s2.heap.objs.size=ae {cls:=.type "list",data:=.seq #[]}:=hsb₁.extBut _ _ hne (cx _ (dt _ rfl));have I4:=Inv.comp (t1:=s2.toks+([]:aa (Str×ap)).length) I2 S f2 hfx hns₁ old hacc;generalize hX':W8 X scope (clF X.env scope.names []) (s2.heap.objs.size+1) own s2 H2 fp=X' at I4;have cc:dZ X X' scope own:=by rw[<-hX'];exact aC2
 have eenv:X'.env=compEnvC scope (clF X.env scope.names []) (s2.heap.objs.size+1) X.env:=by rw[<-hX'];rfl
 have eA:X'.A=X.A:=cc.A;have ep:X'.prog=X.prog:=cc.prog;have ew:X'.w=X.w:=cc.w;have efs:X'.fs=frs X.stack:=by rw[<-hX'];rfl
 have eex:X'.ex=fp:=by rw[<-hX'];rfl
 have es0:X'.s₀=s2:=by rw[<-hX'];rfl
 have eH0:X'.H₀=H2:=by rw[<-hX'];rfl
 have epn:X'.pn=[]:=by rw[<-hX'];rfl
 have eK:X'.K=X.K:=cc.K;have exe:=cc.xe;have ecalm:X'.calm=af:=cc.calm.trans hcalm
 -- the iterator's records within the block
 have fpok:∀{H':Hp},(∀b∈fp,H' b=ao)->∀b∈fp,aAq X' [] H' b:=λ{H'} hn b hb=>by
  obtain⟨_,f1,f3,_,f5,_⟩:=f2 b hb;refine⟨hn b hb,?_,?_,.inl (by rw[eex];exact hb),λx c e=>?_,λp hp=>by rw[epn] at hp;simp at hp⟩
  .rw[eenv];exact di (ix (hfx b hb))
  .rw[efs];intro z;rcases bq.mp (I2.WN b z) with z|z
   .exact f1 z
   .exact f3 z
  .rw[eenv] at e;exact f5 x c (T8 cells (λ_ _ h=>by simp at h) e)
 have st4:tn 0 h₁:=T.keep _ _ _ st2 λb _ o e=>old b o e
 have fr4:∀b∈fp,(upd H2 s2.heap.objs.size (.lst [])) b=ao:=λb hb=>by rw[bA (di (hfx b hb))];exact(f2 b hb).1
 have loop:∀s4:ay,s4={s2 with heap:=h₁,toks:=s2.toks+([]:aa (Str×ap)).length}->
   codeAny (az X.prog X.w) X.A (.compLoop (.ListComp elt [⟨tg,iter,ifs,0⟩] scope pos) 0 (.ref it) (.ref s2.heap.objs.size) X'.env)
    (l9 (az X.prog X.w) X.A X.xe use QQ (.ref s2.heap.objs.size) (s2.heap.objs.size+1)) s4:=by
  rintro s4 rfl;have put:∀(n i:ai)(ys:aa V)(s7:ay)(σ8:St)(H8:Hp)(s8:ay),cB X' (σ++c_ own.length ao) fp tn W n i s7.heap->Inv X' ([]++xU fp s7.heap) σ8 H8 s8->Ext (σ++c_ own.length ao) σ8->ys.length<bp->(te σ8 H8 λy H5=>H5 s2.heap.objs.size=ae (.lst ys)/\∃n',n'<n/\W (i+1) n' (ys++[y]) (upd H5 s2.heap.objs.size (.lst (ys++[y]))))->
    ϑ (az X.prog X.w) X.A (cK elt X'.env) (λx s₄=>ϑ (az X.prog X.w) X.A (call (.builtin "list.append") [.ref s2.heap.objs.size,x]) (λ_ s₅=>∃m,m<n/\cI X' (σ++c_ own.length ao) fp tn W m s₅) (cE X X' use QQ s2.heap.objs.size) s₄) (cE X X' use QQ s2.heap.objs.size) s8:=by
   intro n i ys s7 σ8 H8 s8 back I8 ext8 hlen q8;have he':=he X' cc _ s8 _ H8 _ I8 q8;rw[ep,ew,eA,exe] at he';refine fj he' (λyv s10 ⟨y,H10,I10,r10,p10,q10⟩=>?_) λ_ _ z=>fI z
   have hm:=xY _ s10 σ8 H10 (.ref s2.heap.objs.size) [y] (.ref s2.heap.objs.size) [yv] (λ_ H11=>∃n',n'<n/\W (i+1) n' (ys++[y]) H11) I10 rfl (.cons r10 .nil) ⟨s2.heap.objs.size,ys,y,rfl,rfl,p10,hlen,q10⟩;rw[ep,ew,eA,exe] at hm;exact fj hm (λ_ s11 ⟨_,H11,I11,_,q11⟩=>back ext8 I11 q11) λ_ _ z=>fI z
  have key:∀(PO:ai->ay->Prop),(∀(n i:ai)(ys:aa V)(s7:ay)(σ8:St)(H8:Hp)(s8:ay),cB X' (σ++c_ own.length ao) fp tn W n i s7.heap->Inv X' ([]++xU fp s7.heap) σ8 H8 s8->Ext (σ++c_ own.length ao) σ8->ys.length<bp->(tc σ8 H8 λb H4=>if b=af then te σ8 H4 λy H5=>H5 s2.heap.objs.size=ae (.lst ys)/\∃n',n'<n/\W (i+1) n' (ys++[y]) (upd H5 s2.heap.objs.size (.lst (ys++[y]))) else ∃n',n'<n/\W (i+1) n' ys H4)->PO n s8)->
    ∀n s5,(cI X' (σ++c_ own.length ao) fp tn W n s5)->ϑ (az X.prog X.w) X.A (f_ (.ref it)) (λr s₁=>match r with
     |none=>l9 (az X.prog X.w) X.A X.xe use QQ (.ref s2.heap.objs.size) (s2.heap.objs.size+1) (.ok .next) s₁
     |some v=>ϑ (az X.prog X.w) X.A (oD tg (.ref it) v) (λ_ s₀=>ϑ (az X.prog X.w) X.A (mP tg X'.env v) (λ_ s₂=>PO n s₂) (cE X X' use QQ s2.heap.objs.size) s₀) (cE X X' use QQ s2.heap.objs.size) s₁) (cE X X' use QQ s2.heap.objs.size) s5:=by
   intro PO hPO;rintro n s5 ⟨i,ys,H5,I5,st5,fr5,w5⟩;obtain⟨hacc5,tr⟩:=turn i n ys H5 w5;rcases tr with ⟨stop,q⟩|⟨go,hlen,step⟩
   .have done:=T.done X' ep ew eK ecalm i [] s5 _ H5 (cE X X' use QQ s2.heap.objs.size) I5 (fpok fr5) st5 stop;rw[eA] at done;refine thn done λr s6 ⟨hr,I6⟩=>?_
    subst hr;obtain⟨m6,hn6,_⟩:=id I6.loc;rw[eenv] at hn6;have u6:Un (frs X.stack) fp H2 H5 s2.heap s6.heap:=by
     have:=I6.base;rw[efs,eex,eH0,es0] at this;exact this
    have hCn:H5 (s2.heap.objs.size+1)=ao:=by
     have:=I6.free;rw[eenv] at this;exact this
    have hok6:HOk X.prog X.w H5 s6.heap:=by
     have:=I6.hok;rw[ep,ew] at this;exact this
    have hos:s6.os=s2.os:=by have:=I6.os;rw[es0] at this;exact this
    obtain⟨hh,gg,dd,tt,oo⟩:=s6;obtain rfl:oo=s2.os:=hos;have fin:=Inv.call (d':=dd) (t':=tt) (ch:=fp) I2 u6 hok6 I6.bare λb hb=>⟨(f2 b hb).2.2.2.1,(f2 b hb).2.1,(f2 b hb).2.2.2.2.1,(f2 b hb).2.2.2.2.2⟩
    refine last fin ⟨hCn,ju (ix I2.lt),I2.aS9 (i6 _),.inr (du I2.sz (i6 _)),λx c e z=>?_,λp hp z=>?_⟩ hn6 q
    .obtain⟨v,qq⟩:=I2.cell x c e;exact bg (ix qq.lt) (by rw[z];exact fE _)
    .exact bg (ix (bX (I2.pin p hp).1)) (by rw[z];exact fE _)
   .have item:=T.item X' ep ew eK ecalm i [] s5 _ H5 (cE X X' use QQ s2.heap.objs.size) I5 (fpok fr5) st5 go;rw[eA] at item;refine thn item λr s6 ⟨u,hr,h6⟩=>?_
    subst hr;refine thn h6 λ_ s7 ⟨x,H7,I7,r7,y7,st7,fr7⟩=>?_
    have I7':=I7.pinned (fpok fr7) (T.obj _ _ st7);have hg':=hg X' cc _ s7 _ H7 x u _ I7' r7 (step x H7 y7);rw[ep,ew,eA,exe] at hg';refine fj hg' (λ_ s8 ⟨σ8,H8,I8,ext8,q8⟩=>?_) λ_ _ z=>fI z
    have back:cB X' (σ++c_ own.length ao) fp tn W n i s7.heap:=by
     rintro ys' H9 s9 σ9 ex9 I9 ⟨n',hn',w9⟩;refine⟨n',hn',i+1,ys',H9,(I9.weak ex9.1.symm ex9.2).tO,T.keep _ _ _ st7 λb hb o e=>(I9.pin (b,o) (en _ (en _ (qN hb e)))).1,λb hb=>?_,w9⟩;obtain⟨o,e,d⟩:=T.obj _ _ st7 b hb;exact(I9.pin (b,o) (en _ (en _ (qN hb e)))).2.1
    exact hPO n i ys s7 σ8 H8 s8 back I8 ext8 hlen q8
  rcases hc with ⟨rfl,rfl⟩|⟨c,rfl,hc⟩
  .refine PySem.W.kcp_loop _ (key _ λn i ys s7 σ8 H8 s8 back I8 ext8 hlen q8=>?_) n0 ⟨0,[],_,I4,st4,fr4,w0⟩;simp only[cq] at q8;exact put n i ys s7 σ8 H8 s8 back I8 ext8 hlen q8
  .refine PySem.W.kct_loop _ (key _ λn i ys s7 σ8 H8 s8 back I8 ext8 hlen q8=>?_) n0 ⟨0,[],_,I4,st4,fr4,w0⟩;have hc':=hc X' cc _ s8 _ H8 _ I8 q8;rw[ep,ew,eA,exe] at hc';refine fj hc' (λb s9 ⟨H9,I9,q9⟩=>?_) λ_ _ z=>fI z
   cases b with
   |false=>
    simp only[dm,ck] at q9 ⊢;exact back ext8 I9 q9
   |true=>
    simp only[cq] at q9 ⊢;exact put n i ys s7 σ8 H9 s9 back I9 ext8 hlen q9
 have l4:=loop _ rfl;rw[eenv] at l4;exact codeAny_compStart_list l4 (T.self X.A 0 _ _ _ st4 l4)
def W9(f:Inv X Ψ σ H5 s6)(k:aAq X Ψ H5 C)(n:s6.heap.Ns C m6)(q:Q (.ref p) H5):l9 (az X.prog X.w) X.A X.xe ao (EP X Ψ σ Q) (.ref p) C (.ok .next) s6:=
 ⟨m6,n,λh' sb=>⟨.ref p,H5,Inv.turned f (λb o hb e=>sb.extBut b o hb e) k.1 k.2.1 k.2.2.2.1 k.2.2.2.2.1 k.2.2.2.2.2,rfl,q⟩⟩
def aC3(S:eF X.N X.env.scope scope own)(hcalm:X.calm=af)(hi:PI X tg iter wi)
 (hg:∀X',dZ X X' scope own->PG X' tg g)(hc:∀X',dZ X X' scope own->PT X' c tc)(he:∀X',dZ X X' scope own->PE X' elt te)
 (hs:∀x,eW iter X.env x=pure x):PE X (.ListComp elt [⟨tg,iter,[c],0⟩] scope pos) (T_ wi g tc te own.length):=by
 intro Ψ s σ H Q I h;rw[zn];exact UG S hcalm hi hg (.inr ⟨c,rfl,hc⟩) he hs I h W9
def aG8(S:eF X.N X.env.scope scope own)(hcalm:X.calm=af)(hi:PI X tg iter wi)
 (hg:∀X',dZ X X' scope own->PG X' tg g)(he:∀X',dZ X X' scope own->PE X' elt te)
 (hs:∀x,eW iter X.env x=pure x):PE X (.ListComp elt [⟨tg,iter,[],0⟩] scope pos) (T_ wi g (λ_ H Q=>Q af H) te own.length):=by
 intro Ψ s σ H Q I h;rw[zn];exact UG S hcalm hi hg (.inl ⟨rfl,rfl⟩) he hs I h W9
end
end L2
namespace Mi
open PySem L2 PySem.SeqAt
section
variable [KFrag]
def gR(I:Inv X Ψ σ H s)(e:H a=ae (.tup xs)):∃its:aa ap,Vals xs its/\s.heap.IsTuple a its.toArray:=by
 obtain⟨_,its,r,p⟩:xs.length<=bp/\∃its:aa ap,Vals xs its/\lE s.heap a its.toArray:=I.hok a _ e;exact⟨its,r,p.tup⟩
def d7(I:Inv X Ψ σ H s)(e:SqL X.K H a xs):∃its:aa ap,Vals xs its/\s.heap.IsList a its.toArray:=by
 obtain⟨its,r,p,_⟩:=I.list e;exact⟨its,r,p.isList⟩
def Rep.jX(r:Rep P H v (.lst ds)):∃a xs,v=.ref a/\SqL K H a xs/\bN P H xs ds:=by
 obtain⟨_,_,rfl,e,p,r⟩:=r.inv;exact⟨_,_,rfl,.inl (.inl e),r⟩
def Rep.gM(r:Rep P H v (.tup ds)):∃a xs,v=.ref a/\H a=ae (.tup xs)/\bN P H xs ds:=by
 obtain⟨_,_,rfl,e,r⟩:=r.inv;exact⟨_,_,rfl,e,r⟩
mutual
def wV:∀(n:ai)(d:D),d.fD n=af->eqD d d=af
 |_,.non,_=>rfl
 |_,.bl b,_=>by exact nV b
 |_,.int i,_=>by exact nV i
 |_,.str x,_=>by exact nV x
 |n+1,.tup xs,h=>by exact t_ n xs h
 |n+1,.lst xs,h=>by exact t_ n xs h
 |n+1,.scr xs,h=>by exact t_ n xs h
 |0,.scr xs,h=>by exact fx0 h
 |0,.tup xs,h=>by exact fx0 h
 |0,.lst xs,h=>by exact fx0 h
 |n,.dct _,h=>by cases n<;>exact fx0 h
 |n,.uD,h=>by cases n<;>exact fx0 h
def t_:∀(n:ai)(ds:aa D),μ n ds=af->nT ds ds=af
 |_,[],_=>rfl
 |n,d::ds,h=>by
  rw[μ,bn] at h;rw[nT,wV n d h.1,t_ n ds h.2];rfl
end
def lG{X:Cx}(hK:KFrag.K=X.K)(r:Rep P H v (.scr ds)):∃a xs,v=.ref a/\SqL X.K H a xs/\bN P H xs ds:=by
 obtain⟨a,xs,rfl,e,rr⟩:=r.inv;exact⟨a,xs,rfl,e.sq hK,rr⟩
def W_:∀{xs ys:aa V}{us:aa ap},Vals xs us->Vals ys us->xs=ys
 |_,_,_,.nil,h=>by cases h;rfl
 |_,_,_,.cons a t,h=>by
  cases h with
  |cons b t'=>rw[RelV.inj a b,W_ t t']
def wI(I:Inv X Ψ σ H s)(e1:SqL X.K H a xs)(e2:SqL X.K H a ys):xs=ys:=by
 obtain⟨i1,r1,o,ho,hc,n,hd⟩:=d7 I e1;obtain⟨i2,r2,o',ho',hc',n',hd'⟩:=d7 I e2;rw[ho] at ho';cases ho';rw[hd] at hd';have:i1=i2:=by
  injection hd' with e
  simpa using e
 subst this;exact W_ r1 r2
def aG9(I:Inv X Ψ σ H s)(hK:KFrag.K=X.K)(e:aC0 H a xs)(h:H a=ae ob):∃p,ob=.frz p (.lst xs):=by
 rcases e with ⟨o,e⟩|⟨o,its,n,e,_⟩
 .rw[e] at h;cases h;exact⟨o,rfl⟩
 .rw[hK] at e;have:=(I.bs a o (I.mod.kin a o e)).2;rw[h] at this;cases this
def bN.aR9(ih:∀{v:V} {d e:D},d.fD n=af->e.fD n=af->Rep P H v d->Rep P' H v e->d=e):∀{ds es:aa D},μ n ds=af->μ n es=af->bN P H vs ds->bN P' H vs es->ds=es:=by
 induction vs with
 |nil=>intro ds es h h' r q;cases r;cases q;rfl
 |cons v vs ih2=>
  intro ds es h h' r q;cases r with
  |cons r t=>
   cases q with
   |cons r' t'=>
    rw[μ,bn] at h h';rw[ih h.1 h'.1 r r',ih2 h.2 h'.2 t t']
def Rep.inj(I:Inv X Ψ σ H s)(hK:KFrag.K=X.K)(n:ai):∀{v:V}{d e:D},d.fD n=af->e.fD n=af->Rep P H v d->Rep P' H v e->d=e:=by
 induction n with
 |zero=>
  intro v d e h h' r q;cases d with
  |non=>obtain rfl:=r.inv;cases q;rfl
  |bl b=>obtain rfl:=r.inv;cases q;rfl
  |int i=>obtain rfl:=r.inv;cases q;rfl
  |str x=>obtain rfl:=r.inv;cases q;rfl
  |_=>exact fx0 h
 |succ n ih=>
  intro v d e h h' r q;cases d with
  |non=>obtain rfl:=r.inv;cases q;rfl
  |bl b=>obtain rfl:=r.inv;cases q;rfl
  |int i=>obtain rfl:=r.inv;cases q;rfl
  |str x=>obtain rfl:=r.inv;cases q;rfl
  |tup ds=>
   obtain⟨a,xs,rfl,e1,r1⟩:=r.inv;cases q with
   |tup e2 r2=>
    rw[e1] at e2;cases e2;rw[bN.aR9 ih h h' r1 r2]
   |lst e2 _ _=>rw[e1] at e2;cases e2
   |frz e2 _=>obtain⟨_,z⟩:=aG9 I hK e2 e1;cases z
   |dK e2 _ _ _=>rw[e1] at e2;cases e2
   |dT e2 _ _ _=>rw[e1] at e2;cases e2
   |_=>exact fx0 h'
  |lst ds=>
   obtain⟨a,xs,rfl,e1,_,r1⟩:=r.inv;cases q with
   |tup e2 r2=>rw[e1] at e2;cases e2
   |lst e2 _ r2=>
    rw[e1] at e2;cases e2;rw[bN.aR9 ih h h' r1 r2]
   |dK e2 _ _ _=>rw[e1] at e2;cases e2
   |dT e2 _ _ _=>rw[e1] at e2;cases e2
   |frz e2 _=>obtain⟨_,z⟩:=aG9 I hK e2 e1;cases z
   |_=>exact fx0 h'
  |scr ds=>
   obtain⟨a,xs,rfl,e1,r1⟩:=r.inv;cases q with
   |tup e2 r2=>obtain⟨_,z⟩:=aG9 I hK e1 e2;cases z
   |lst e2 _ r2=>obtain⟨_,z⟩:=aG9 I hK e1 e2;cases z
   |frz e2 r2=>
    cases wI I (e1.sq hK) (e2.sq hK);rw[bN.aR9 ih h h' r1 r2]
   |_=>exact fx0 h'
  |_=>exact fx0 h
theorem j9:∀(xs ys:aa D),nT xs ys=((bh (min xs.length ys.length)).all (λj=>eqD (xs.getD j .non) (ys.getD j .non))&&xs.length==ys.length)
 |[],[]=>by simp[nT]
 |[],y::ys=>by simp[nT]
 |x::xs,[]=>by simp[nT]
 |x::xs,y::ys=>by
  have e:min (x::xs).length (y::ys).length=min xs.length ys.length+1:=by simp only[cr];lia
  rw[nT,j9 xs ys,e,rg,gX,List.all_map,zo]
  congr 1
  simp[Cw]
def jH:∀{ds:aa D}{j:ai},μ n ds=af->j<ds.length->(ds.getD j .non).fD n=af
 |[],j,_,h=>by simp at h
 |d::ds,0,h,_=>by rw[μ,bn] at h;exact h.1
 |d::ds,j+1,h,hj=>by
  rw[μ,bn] at h;simpa using jH h.2 (by simpa using hj)
def bN.getD(r:bN P H vs ds)(hj:j<ds.length):∃v,vs[j]?=ae v/\Rep P H v (ds.getD j .non):=by
 obtain⟨v,h1,h2⟩:=r.get (i:=j) (d:=ds.getD j .non) (by simp[hj]);exact⟨v,h1,h2⟩
section
def yJ(ha:a.fD 0=af)(hb:b.fD 0=af)(rx:Rep All H x a)(ry:Rep All H y b)(ru:RelV x u)(rv:RelV y v):i8 A s u v (eqD a b)/\i9 A s u v (!eqD a b)/\EqAt A s u v (eqD a b):=by
 cases rx with
 |non=>
  cases ru;cases ry with
  |non=>cases rv;exact⟨RcAt.none_none,RcNeAt.none_none,rh _⟩
  |bl _=>cases rv;exact⟨RcAt.none_bool _,RcNeAt.none_bool _,EqAt.none_bool _⟩
  |int _=>obtain⟨t,rfl⟩:=rv;exact⟨RcAt.none_int _ _,RcNeAt.none_int _ _,EqAt.none_int _ _⟩
  |str _=>obtain⟨t,rfl⟩:=rv;exact⟨RcAt.none_str _ _,RcNeAt.none_str _ _,EqAt.none_str _ _⟩
  |_=>exact fx0 hb
 |bl _=>
  cases ru;cases ry with
  |non=>cases rv;exact⟨RcAt.bool_none _,RcNeAt.bool_none _,EqAt.bool_none _⟩
  |bl _=>cases rv;exact⟨RcAt.bool_bool _ _,RcNeAt.bool_bool _ _,EqAt.bool_bool _ _⟩
  |int _=>obtain⟨t,rfl⟩:=rv;exact⟨RcAt.bool_int _ _ _,RcNeAt.bool_int _ _ _,EqAt.bool_int _ _ _⟩
  |str _=>obtain⟨t,rfl⟩:=rv;exact⟨RcAt.bool_str _ _ _,RcNeAt.bool_str _ _ _,EqAt.bool_str _ _ _⟩
  |_=>exact fx0 hb
 |int _=>
  obtain⟨t,rfl⟩:=ru;cases ry with
  |non=>cases rv;exact⟨RcAt.int_none _ _,RcNeAt.int_none _ _,EqAt.int_none _ _⟩
  |bl _=>cases rv;exact⟨RcAt.int_bool _ _ _,RcNeAt.int_bool _ _ _,EqAt.int_bool _ _ _⟩
  |int _=>obtain⟨t',rfl⟩:=rv;exact⟨RcAt.int_int _ _ _ _,RcNeAt.int_int _ _ _ _,EqAt.int_int _ _ _ _⟩
  |str _=>obtain⟨t',rfl⟩:=rv;exact⟨RcAt.int_str _ _ _ _,RcNeAt.int_str _ _ _ _,xo _ _ _ _⟩
  |_=>exact fx0 hb
 |str _=>
  obtain⟨t,rfl⟩:=ru;cases ry with
  |non=>cases rv;exact⟨RcAt.str_none _ _,RcNeAt.str_none _ _,EqAt.str_none _ _⟩
  |bl _=>cases rv;exact⟨RcAt.str_bool _ _ _,RcNeAt.str_bool _ _ _,EqAt.str_bool _ _ _⟩
  |int _=>obtain⟨t',rfl⟩:=rv;exact⟨RcAt.str_int _ _ _ _,RcNeAt.str_int _ _ _ _,xp _ _ _ _⟩
  |str _=>obtain⟨t',rfl⟩:=rv;exact⟨RcAt.str_str _ _ _ _,RcNeAt.str_str _ _ _ _,EqAt.str_str _ _ _ _⟩
  |_=>exact fx0 hb
 |_=>exact fx0 ha
theorem O7(hK:KFrag.K=X.K)(I:Inv X Ψ σ H s):∀(n:ai)(A:cS){x y:V}{a b:D}{u v:ap},A.units+n<bE->a.fD n=af->b.fD n=af->Rep All H x a->Rep All H y b->RelV x u->RelV y v->
  i8 A s u v (eqD a b)/\i9 A s u v (!eqD a b)/\EqAt A s u v (eqD a b):=by
 intro n;induction n with
 |zero=>exact λA=>λ_ ha hb rx ry ru rv=>yJ ha hb rx ry ru rv
 |succ n ih=>
  intro A x y a b u v hu ha hb rx ry ru rv;have hu0:A.units<bE:=by lia
  have hu1:A.in1.units+n<bE:=by show A.units+1+n<bE;lia
  have itm:∀{xs ys:aa V}{ds es:aa D}{i1 i2:aa ap},μ n ds=af->μ n es=af->bN All H xs ds->bN All H ys es->Vals xs i1->Vals ys i2->∀j (g1:j<i1.toArray.size) (g2:j<i2.toArray.size),EqAt A.in1 s i1.toArray[j] i2.toArray[j] (eqD (ds.getD j .non) (es.getD j .non)):=by
   intro xs ys ds es i1 i2 ha hb r1 r2 vr1 vr2 j g1 g2;have z1:i1.toArray.size=ds.length:=by rw[cg,<-vr1.length,r1.length]
   have z2:i2.toArray.size=es.length:=by rw[cg,<-vr2.length,r2.length]
   obtain⟨v1,w1,rr1⟩:=r1.getD (j:=j) 0x1;obtain⟨v2,w2,rr2⟩:=r2.getD (j:=j) 0x1;obtain⟨u1,k1,l1⟩:=vr1.get w1;obtain⟨u2,k2,l2⟩:=vr2.get w2;have m1:i1.toArray[j]=u1:=by
    rw[eh (by simpa using g1)] at k1;simpa using c5 k1
   have m2:i2.toArray[j]=u2:=by
    rw[eh (by simpa using g2)] at k2;simpa using c5 k2
   rw[m1,m2];exact(ih A.in1 hu1 (jH ha 0x1) (jH hb 0x1) rr1 rr2 l1 l2).2.2
  cases a with
  |non=>
   cases b with
   |tup es=>
    cases rx.inv;cases ru;obtain⟨q,ys,rfl,e2,r2⟩:=ry.gM;cases rv;obtain⟨its2,vr2,h2⟩:=gR I e2;exact⟨RcAt.none_tuple h2 hu0,RcNeAt.none_tuple h2 hu0,EqAt.none_tuple h2 hu0⟩
   |lst es=>
    cases rx.inv;cases ru;obtain⟨q,ys,rfl,e2,r2⟩:=ry.jX (K:=X.K);cases rv;obtain⟨its2,vr2,h2⟩:=d7 I e2;exact⟨zp h2 hu0,zq h2 hu0,zr h2 hu0⟩
   |scr es=>
    cases rx.inv;cases ru;obtain⟨q,ys,rfl,e2,r2⟩:=lG hK ry;cases rv;obtain⟨its2,vr2,h2⟩:=d7 I e2;exact⟨zp h2 hu0,zq h2 hu0,zr h2 hu0⟩
   |_=>first|exact yJ rfl rfl rx ry ru rv|exact bg ry Rep.uD|exact fx0 hb
  |bl _=>
   cases b with
   |tup es=>
    cases rx.inv;cases ru;obtain⟨q,ys,rfl,e2,r2⟩:=ry.gM;cases rv;obtain⟨its2,vr2,h2⟩:=gR I e2;exact⟨RcAt.bool_tuple _ h2 hu0,RcNeAt.bool_tuple _ h2 hu0,EqAt.bool_tuple _ h2 hu0⟩
   |lst es=>
    cases rx.inv;cases ru;obtain⟨q,ys,rfl,e2,r2⟩:=ry.jX (K:=X.K);cases rv;obtain⟨its2,vr2,h2⟩:=d7 I e2;exact⟨zt _ h2 hu0,zu _ h2 hu0,zv _ h2 hu0⟩
   |scr es=>
    cases rx.inv;cases ru;obtain⟨q,ys,rfl,e2,r2⟩:=lG hK ry;cases rv;obtain⟨its2,vr2,h2⟩:=d7 I e2;exact⟨zt _ h2 hu0,zu _ h2 hu0,zv _ h2 hu0⟩
   |_=>first|exact yJ rfl rfl rx ry ru rv|exact bg ry Rep.uD|exact fx0 hb
  |int _=>
   cases b with
   |tup es=>
    cases rx.inv;obtain⟨t1,rfl⟩:=ru;obtain⟨q,ys,rfl,e2,r2⟩:=ry.gM;cases rv;obtain⟨its2,vr2,h2⟩:=gR I e2;exact⟨RcAt.int_tuple _ _ h2 hu0,RcNeAt.int_tuple _ _ h2 hu0,EqAt.int_tuple _ _ h2 hu0⟩
   |lst es=>
    cases rx.inv;obtain⟨t1,rfl⟩:=ru;obtain⟨q,ys,rfl,e2,r2⟩:=ry.jX (K:=X.K);cases rv;obtain⟨its2,vr2,h2⟩:=d7 I e2;exact⟨zw _ _ h2 hu0,zz _ _ h2 hu0,zC _ _ h2 hu0⟩
   |scr es=>
    cases rx.inv;obtain⟨t1,rfl⟩:=ru;obtain⟨q,ys,rfl,e2,r2⟩:=lG hK ry;cases rv;obtain⟨its2,vr2,h2⟩:=d7 I e2;exact⟨zw _ _ h2 hu0,zz _ _ h2 hu0,zC _ _ h2 hu0⟩
   |_=>first|exact yJ rfl rfl rx ry ru rv|exact bg ry Rep.uD|exact fx0 hb
  |str _=>
   cases b with
   |tup es=>
    cases rx.inv;obtain⟨t1,rfl⟩:=ru;obtain⟨q,ys,rfl,e2,r2⟩:=ry.gM;cases rv;obtain⟨its2,vr2,h2⟩:=gR I e2;exact⟨RcAt.str_tuple _ _ h2 hu0,RcNeAt.str_tuple _ _ h2 hu0,EqAt.str_tuple _ _ h2 hu0⟩
   |lst es=>
    cases rx.inv;obtain⟨t1,rfl⟩:=ru;obtain⟨q,ys,rfl,e2,r2⟩:=ry.jX (K:=X.K);cases rv;obtain⟨its2,vr2,h2⟩:=d7 I e2;exact⟨zD _ _ h2 hu0,zI _ _ h2 hu0,zS _ _ h2 hu0⟩
   |scr es=>
    cases rx.inv;obtain⟨t1,rfl⟩:=ru;obtain⟨q,ys,rfl,e2,r2⟩:=lG hK ry;cases rv;obtain⟨its2,vr2,h2⟩:=d7 I e2;exact⟨zD _ _ h2 hu0,zI _ _ h2 hu0,zS _ _ h2 hu0⟩
   |_=>first|exact yJ rfl rfl rx ry ru rv|exact bg ry Rep.uD|exact fx0 hb
  |tup ds=>
   obtain⟨p,xs,rfl,e1,r1⟩:=rx.gM;cases ru;obtain⟨its1,vr1,h1⟩:=gR I e1;replace ha:μ _ _=af:=ha;cases b with
   |non=>cases ry.inv;cases rv;exact⟨RcAt.tuple_none h1 hu0,RcNeAt.tuple_none h1 hu0,EqAt.tuple_none h1 hu0⟩
   |bl _=>cases ry.inv;cases rv;exact⟨RcAt.tuple_bool _ h1 hu0,RcNeAt.tuple_bool _ h1 hu0,EqAt.tuple_bool _ h1 hu0⟩
   |int _=>cases ry.inv;obtain⟨t2,rfl⟩:=rv;exact⟨RcAt.tuple_int _ _ h1 hu0,RcNeAt.tuple_int _ _ h1 hu0,EqAt.tuple_int _ _ h1 hu0⟩
   |str _=>cases ry.inv;obtain⟨t2,rfl⟩:=rv;exact⟨RcAt.tuple_str _ _ h1 hu0,RcNeAt.tuple_str _ _ h1 hu0,EqAt.tuple_str _ _ h1 hu0⟩
   |tup es=>
    obtain⟨q,ys,rfl,e2,r2⟩:=ry.gM;cases rv;obtain⟨its2,vr2,h2⟩:=gR I e2;replace hb:μ _ _=af:=hb;have z1:its1.toArray.size=ds.length:=by rw[cg,<-vr1.length,r1.length]
    have z2:its2.toArray.size=es.length:=by rw[cg,<-vr2.length,r2.length]
    have he:=itm ha hb r1 r2 vr1 vr2;have ee:eqD (.tup ds) (.tup es)=((bh (min its1.toArray.size its2.toArray.size)).all (λj=>eqD (ds.getD j .non) (es.getD j .non))&&its1.toArray.size==its2.toArray.size):=by
     rw[show eqD (.tup _) (.tup _)=nT _ _ from rfl,j9,z1,z2]
    have r0:=RcAt.tuples h1 h2 hu0 he;have r0':=RcNeAt.tuples h1 h2 hu0 he;rw[<-ee] at r0 r0';refine⟨r0,r0',?_⟩;by_cases hpq:p=q
    .subst hpq;have hab:(D.tup ds)=(.tup es):=Rep.inj I hK (n+1) ha hb rx ry;rw[<-hab,wV (n+1) (.tup ds) ha];exact rh _
    .exact nX hpq r0
   |lst es=>
    obtain⟨q,ys,rfl,e2,r2⟩:=ry.jX (K:=X.K);cases rv;obtain⟨its2,vr2,h2⟩:=d7 I e2;exact⟨z5 h1 h2 hu0,Aa h1 h2 hu0,Ab h1 h2 hu0⟩
   |scr es=>
    obtain⟨q,ys,rfl,e2,r2⟩:=lG hK ry;cases rv;obtain⟨its2,vr2,h2⟩:=d7 I e2;exact⟨z5 h1 h2 hu0,Aa h1 h2 hu0,Ab h1 h2 hu0⟩
   |_=>first|exact bg ry Rep.uD|exact fx0 hb
  |lst ds=>
   obtain⟨p,xs,rfl,e1,r1⟩:=rx.jX (K:=X.K);cases ru;obtain⟨its1,vr1,h1⟩:=d7 I e1;replace ha:μ _ _=af:=ha;cases b with
   |non=>cases ry.inv;cases rv;exact⟨Ac h1 hu0,Ad h1 hu0,Ae h1 hu0⟩
   |bl _=>cases ry.inv;cases rv;exact⟨Af _ h1 hu0,Ag _ h1 hu0,Ah _ h1 hu0⟩
   |int _=>cases ry.inv;obtain⟨t2,rfl⟩:=rv;exact⟨Ai _ _ h1 hu0,Aj _ _ h1 hu0,Ak _ _ h1 hu0⟩
   |str _=>cases ry.inv;obtain⟨t2,rfl⟩:=rv;exact⟨Al _ _ h1 hu0,Am _ _ h1 hu0,An _ _ h1 hu0⟩
   |tup es=>
    obtain⟨q,ys,rfl,e2,r2⟩:=ry.gM;cases rv;obtain⟨its2,vr2,h2⟩:=gR I e2;exact⟨Ao h1 h2 hu0,Ap h1 h2 hu0,Aq h1 h2 hu0⟩
   |lst es=>
    obtain⟨q,ys,rfl,e2,r2⟩:=ry.jX (K:=X.K);cases rv;obtain⟨its2,vr2,h2⟩:=d7 I e2;replace hb:μ _ _=af:=hb;have z1:its1.toArray.size=ds.length:=by rw[cg,<-vr1.length,r1.length]
    have z2:its2.toArray.size=es.length:=by rw[cg,<-vr2.length,r2.length]
    have he:=itm ha hb r1 r2 vr1 vr2;have r00:i8 A s (.ref p) (.ref q) (eqD (.lst ds) (.lst es))/\i9 A s (.ref p) (.ref q) (!eqD (.lst ds) (.lst es)):=by
     show i8 A s (.ref p) (.ref q) (nT ds es)/\i9 A s (.ref p) (.ref q) (!nT ds es);rw[j9];by_cases hz:ds.length=es.length
     .have r0:=ri h1 h2 0x1 hu0 he;have r0':=rm h1 h2 0x1 hu0 he;rw[z1] at r0 r0';rw[show min ds.length es.length=ds.length by lia,show(ds.length==es.length)=af by simpa using hz,jn];exact⟨r0,r0'⟩
     .have hz':(its1.toArray.size !=its2.toArray.size)=af:=by rw[z1,z2];simpa using hz
      rw[show(ds.length==es.length)=aj by simpa using hz,lz];exact⟨rn h1 h2 hz' hu0,rq h1 h2 hz' hu0⟩
    obtain⟨r0,r0'⟩:=r00;refine⟨r0,r0',?_⟩;by_cases hpq:p=q
    .subst hpq;have hab:(ξ ds)=(.lst es):=Rep.inj I hK (n+1) ha hb rx ry;rw[<-hab,wV (n+1) (.lst ds) ha];exact rh _
    .exact nX hpq r0
   |scr es=>
    obtain⟨q,ys,rfl,e2,r2⟩:=lG hK ry;cases rv;obtain⟨its2,vr2,h2⟩:=d7 I e2;replace hb:μ _ _=af:=hb;have z1:its1.toArray.size=ds.length:=by rw[cg,<-vr1.length,r1.length]
    have z2:its2.toArray.size=es.length:=by rw[cg,<-vr2.length,r2.length]
    have he:=itm ha hb r1 r2 vr1 vr2;have r00:i8 A s (.ref p) (.ref q) (eqD (.lst ds) (.scr es))/\i9 A s (.ref p) (.ref q) (!eqD (.lst ds) (.scr es)):=by
     show i8 A s (.ref p) (.ref q) (nT ds es)/\i9 A s (.ref p) (.ref q) (!nT ds es);rw[j9];by_cases hz:ds.length=es.length
     .have r0:=ri h1 h2 0x1 hu0 he;have r0':=rm h1 h2 0x1 hu0 he;rw[z1] at r0 r0';rw[show min ds.length es.length=ds.length by lia,show(ds.length==es.length)=af by simpa using hz,jn];exact⟨r0,r0'⟩
     .have hz':(its1.toArray.size !=its2.toArray.size)=af:=by rw[z1,z2];simpa using hz
      rw[show(ds.length==es.length)=aj by simpa using hz,lz];exact⟨rn h1 h2 hz' hu0,rq h1 h2 hz' hu0⟩
    obtain⟨r0,r0'⟩:=r00;refine⟨r0,r0',?_⟩;by_cases hpq:p=q
    .subst hpq;have hab:(ξ ds)=(.scr es):=Rep.inj I hK (n+1) ha hb rx ry;cases hab
    .exact nX hpq r0
   |_=>first|exact bg ry Rep.uD|exact fx0 hb
  |scr ds=>
   obtain⟨p,xs,rfl,e1,r1⟩:=lG hK rx;cases ru;obtain⟨its1,vr1,h1⟩:=d7 I e1;replace ha:μ _ _=af:=ha;cases b with
   |non=>cases ry.inv;cases rv;exact⟨Ac h1 hu0,Ad h1 hu0,Ae h1 hu0⟩
   |bl _=>cases ry.inv;cases rv;exact⟨Af _ h1 hu0,Ag _ h1 hu0,Ah _ h1 hu0⟩
   |int _=>cases ry.inv;obtain⟨t2,rfl⟩:=rv;exact⟨Ai _ _ h1 hu0,Aj _ _ h1 hu0,Ak _ _ h1 hu0⟩
   |str _=>cases ry.inv;obtain⟨t2,rfl⟩:=rv;exact⟨Al _ _ h1 hu0,Am _ _ h1 hu0,An _ _ h1 hu0⟩
   |tup es=>
    obtain⟨q,ys,rfl,e2,r2⟩:=ry.gM;cases rv;obtain⟨its2,vr2,h2⟩:=gR I e2;exact⟨Ao h1 h2 hu0,Ap h1 h2 hu0,Aq h1 h2 hu0⟩
   |lst es=>
    obtain⟨q,ys,rfl,e2,r2⟩:=ry.jX (K:=X.K);cases rv;obtain⟨its2,vr2,h2⟩:=d7 I e2;replace hb:μ _ _=af:=hb;have z1:its1.toArray.size=ds.length:=by rw[cg,<-vr1.length,r1.length]
    have z2:its2.toArray.size=es.length:=by rw[cg,<-vr2.length,r2.length]
    have he:=itm ha hb r1 r2 vr1 vr2;have r00:i8 A s (.ref p) (.ref q) (eqD (.scr ds) (.lst es))/\i9 A s (.ref p) (.ref q) (!eqD (.scr ds) (.lst es)):=by
     show i8 A s (.ref p) (.ref q) (nT ds es)/\i9 A s (.ref p) (.ref q) (!nT ds es);rw[j9];by_cases hz:ds.length=es.length
     .have r0:=ri h1 h2 0x1 hu0 he;have r0':=rm h1 h2 0x1 hu0 he;rw[z1] at r0 r0';rw[show min ds.length es.length=ds.length by lia,show(ds.length==es.length)=af by simpa using hz,jn];exact⟨r0,r0'⟩
     .have hz':(its1.toArray.size !=its2.toArray.size)=af:=by rw[z1,z2];simpa using hz
      rw[show(ds.length==es.length)=aj by simpa using hz,lz];exact⟨rn h1 h2 hz' hu0,rq h1 h2 hz' hu0⟩
    obtain⟨r0,r0'⟩:=r00;refine⟨r0,r0',?_⟩;by_cases hpq:p=q
    .subst hpq;have hab:(υ ds)=(.lst es):=Rep.inj I hK (n+1) ha hb rx ry;cases hab
    .exact nX hpq r0
   |scr es=>
    obtain⟨q,ys,rfl,e2,r2⟩:=lG hK ry;cases rv;obtain⟨its2,vr2,h2⟩:=d7 I e2;replace hb:μ _ _=af:=hb;have z1:its1.toArray.size=ds.length:=by rw[cg,<-vr1.length,r1.length]
    have z2:its2.toArray.size=es.length:=by rw[cg,<-vr2.length,r2.length]
    have he:=itm ha hb r1 r2 vr1 vr2;have r00:i8 A s (.ref p) (.ref q) (eqD (.scr ds) (.scr es))/\i9 A s (.ref p) (.ref q) (!eqD (.scr ds) (.scr es)):=by
     show i8 A s (.ref p) (.ref q) (nT ds es)/\i9 A s (.ref p) (.ref q) (!nT ds es);rw[j9];by_cases hz:ds.length=es.length
     .have r0:=ri h1 h2 0x1 hu0 he;have r0':=rm h1 h2 0x1 hu0 he;rw[z1] at r0 r0';rw[show min ds.length es.length=ds.length by lia,show(ds.length==es.length)=af by simpa using hz,jn];exact⟨r0,r0'⟩
     .have hz':(its1.toArray.size !=its2.toArray.size)=af:=by rw[z1,z2];simpa using hz
      rw[show(ds.length==es.length)=aj by simpa using hz,lz];exact⟨rn h1 h2 hz' hu0,rq h1 h2 hz' hu0⟩
    obtain⟨r0,r0'⟩:=r00;refine⟨r0,r0',?_⟩;by_cases hpq:p=q
    .subst hpq;have hab:(υ ds)=(.scr es):=Rep.inj I hK (n+1) ha hb rx ry;rw[<-hab,wV (n+1) (.scr ds) ha];exact rh _
    .exact nX hpq r0
   |_=>first|exact bg ry Rep.uD|exact fx0 hb
  |_=>first|exact bg rx Rep.uD|exact fx0 ha
end
end
open PySem.AutoSeq1 (wpAny_loadPart')
open PySem.MeetsSeq PySem.MeetsSeq2 PySem.MeetsSeq3
variable [KFrag]
def gZ.op:gZ->ki
 |.lt=>.Lt|.le=>.LtE|.gt=>.Gt|.ge=>.GtE
def aFr(op:ki)(A:cS)(s:ay)(u v:ap)(b:ax):Prop:=
 ∀(prog:cy)(w:bS)(E:ap->ay->Prop)(Q:ap->ay->Prop),Q (.bool b) s->ϑ (az prog w) A (ma op u v) Q E s
def C2(o:gZ)(A:cS)(s:ay)(vs ws:aa ap)(xs ys:aa D):Prop:=
 vs.length=xs.length/\ws.length=ys.length/\∀(j:ai)(v w:ap)(x y:D),vs[j]?=ae v->ws[j]?=ae w->xs[j]?=ae x->ys[j]?=ae y->
  EqAt A s v w (eqD x y)/\(eqD x y=aj->∀k,iR o x y=ae k->aFr o.op A s v w k)
def C2.tail(h:C2 o A s (v::vs) (w::ws) (x::xs) (y::ys)):C2 o A s vs ws xs ys:=
 ⟨by simpa using h.1,by simpa using h.2.1,λj a b c d e1 e2 e3 e4=>h.2.2 (j+1) a b c d (by simpa using e1) (by simpa using e2) (by simpa using e3) (by simpa using e4)⟩
def gZ.bt:gZ->Builtin
 |.lt=>Builtin.«tuple.__lt__»|.le=>Builtin.«tuple.__le__»|.gt=>Builtin.«tuple.__gt__»|.ge=>Builtin.«tuple.__ge__»
theorem UJ(o q:gZ)(eq:q=o)(l b:aq)(items items2:ba ap)(n n2:ai)(dd dd2:aS aq)(sl sl2:ba (aS ap))(xs ys:aa D)(res:ax)(hr:cV q xs ys=ae res) :
  k5 (o.bt ⟨[.ref l,.ref b],[]⟩)
   (λA R s=>s.heap.get? l=ae {cls:=.type "tuple",dict:=dd,data:=.seq items n,slots:=sl}/\s.heap.get? b=ae {cls:=.type "tuple",dict:=dd2,data:=.seq items2 n2,slots:=sl2}/\
    C2 q A.in1 s items.toList items2.toList xs ys/\R (.ok (.ret (.bool res))) s):=by
 cases o<;>exact .of_wp λprog w A R s h=>by
  obtain⟨hp,g,d,tk,os⟩:=s;obtain⟨hl,hb,hC,h⟩:=h;have f2:=Cy;have z1:items.size=xs.length:=by rw[<-hC.1];simp
  have z2:items2.size=ys.length:=by rw[<-hC.2.1];simp
  wp_walk using wpAny_loadPart' hl,wpAny_loadPart' hb,wpAny_forIn_list _ (λrest b s'=>b.1=ao/\s'=⟨hp,g,d,tk,os⟩/\∃(vs ws:aa ap)(xs' ys':aa D),rest=vs.zip ws/\
   C2 q A.in1 ⟨hp,g,d,tk,os⟩ vs ws xs' ys'/\xs'.length+items2.size=ys'.length+items.size/\cV q xs' ys'=ae res) _
  case turn=>
   subst eq;rintro⟨y,x⟩ rest b s' ⟨hb',rfl,vs,ws,xs',ys',hz,hC',hlen,hR⟩;cases vs with
   |nil=>rw[Ar] at hz;cases hz
   |cons v vs=>
    cases ws with
    |nil=>rw[As] at hz;cases hz
    |cons w' ws=>
     rw[rL] at hz;injection hz with hyx hrest
     injection hyx with hy hx
     subst hy hx;cases xs' with
     |nil=>exact bg hC'.1 0x2
     |cons x0 xs'=>
      cases ys' with
      |nil=>exact bg hC'.2.1 0x2
      |cons y0 ys'=>
       rw[cV] at hR;simp only[cr] at hlen;obtain⟨he,hlt⟩:=hC'.2.2 0 _ _ _ _ rfl rfl rfl rfl;refine aE (he prog w _ _ ?_);cases e:eqD x0 y0 with
       |true=>
        rw[e] at hR;simp only[cq] at hR
        wp_walk
        exact⟨rfl,rfl,_,_,_,_,hrest,hC'.tail,by lia,hR⟩
       |false=>
        rw[e] at hR;simp only[dm,ck] at hR;have hri:=hlt e res hR prog w;dsimp only[gZ.op] at hri
        wp_walk using hri
        exact⟨_,rfl,by simpa using h⟩
  case fin=>
   rintro⟨b1,b2⟩ s' ⟨hb',rfl,vs,ws,xs',ys',hz,hC',hlen,hR⟩;simp only at hb';subst hb';have hv:res=gZ.nat q items.size items2.size:=by
    subst eq;cases xs' with
    |nil=>
     rw[cV] at hR;have:=c5 hR;rw[<-this];simp only[e9] at hlen;simp only[gZ.nat]
     congr 1
     simp only[eq_iff_iff];lia
    |cons x0 xs'=>
     cases ys' with
     |nil=>
      rw[cV] at hR;have:=c5 hR;rw[<-this];simp only[e9,cr] at hlen;simp only[gZ.nat,cr]
      congr 1
      simp only[eq_iff_iff];lia
     |cons y0 ys'=>
      exfalso;cases vs with
      |nil=>exact bg hC'.1 0x2
      |cons v vs=>
       cases ws with
       |nil=>exact bg hC'.2.1 0x2
       |cons w' ws=>rw[rL] at hz;cases hz
   rw[hv] at h;subst eq
   wp_walk
   exact⟨_,rfl,by simpa[Cz,gZ.nat] using h⟩
  case h=>
   exact⟨rfl,rfl,items.toList,items2.toList,xs,ys,rfl,hC,by lia,hr⟩
theorem aFr.tup(o:gZ)(hl:s.heap.IsTuple l items)(hb:s.heap.IsTuple b items2)(hC:C2 o A.in1 s items.toList items2.toList xs ys)(hr:cV o xs ys=ae res)(hu:A.units<bE) :
  aFr o.op A s (.ref l) (.ref b) res:=λprog w E Q h=>by
 obtain⟨⟨cls,dd,data,sl⟩,ho,hc,n,hd⟩:=id hl;obtain⟨⟨cls2,dd2,ni,sl2⟩,ho2,hc2,n2,hd2⟩:=id hb;simp only at hc hd hc2 hd2;subst hc hd hc2 hd2;have M:=UJ o o rfl l b items items2 n n2 dd dd2 sl sl2 xs ys res hr;have G:_/\_/\C2 o A.in1 s items.toList items2.toList xs ys/\(ox res≠Au/\Q (.bool res) s):=⟨ho,ho2,hC,(λx=>nomatch x),h⟩
 cases o
 .exact kj ⟨_,ho,rfl⟩ ⟨_,ho2,rfl⟩ PySem.F.slot_tuple_lt PySem.F.entry_tuple_lt (PySem.F.args_tuple_lt_2 _ _) M G hu
 .exact kj ⟨_,ho,rfl⟩ ⟨_,ho2,rfl⟩ PySem.F.slot_tuple_le PySem.F.entry_tuple_le (PySem.F.args_tuple_le_2 _ _) M G hu
 .exact kj ⟨_,ho,rfl⟩ ⟨_,ho2,rfl⟩ PySem.F.slot_tuple_gt PySem.F.entry_tuple_gt (PySem.F.args_tuple_gt_2 _ _) M G hu
 .exact kj ⟨_,ho,rfl⟩ ⟨_,ho2,rfl⟩ PySem.F.slot_tuple_ge PySem.F.entry_tuple_ge (PySem.F.args_tuple_ge_2 _ _) M G hu
def gZ.code:gZ->ag
 |.lt=>0|.le=>1|.gt=>4|.ge=>5
def gZ.btL:gZ->Builtin
 |.lt=>Builtin.«list.__lt__»|.le=>Builtin.«list.__le__»|.gt=>Builtin.«list.__gt__»|.ge=>Builtin.«list.__ge__»
def aC4{xs:aa α}(h:xs[i]?=ae x):xs.drop i=x::xs.drop (i+1):=by
 obtain⟨hi,rfl⟩:=dz.mp h;exact ij hi
theorem aC5(o:gZ){xs ys:aa D}(h:xs.length<=i\/ys.length<=i)(hi:i<=xs.length/\i<=ys.length)(hr:cV o (xs.drop i) (ys.drop i)=ae res):res=o.nat xs.length ys.length:=by
 rcases h with h|h
 .rw[nB h,cV] at hr;have:=c5 hr;rw[<-this,jd];cases o<;>simp only[gZ.nat]<;>congr 1<;>simp only[eq_iff_iff]<;>lia
 .rw[nB h] at hr;cases hx:xs.drop i with
  |nil=>
   rw[hx,cV] at hr;have:=c5 hr;have hl:=cz gh hx;rw[jd] at hl;simp only[e9] at hl this;rw[<-this];cases o<;>simp only[gZ.nat]<;>congr 1<;>simp only[eq_iff_iff]<;>lia
  |cons x r=>
   rw[hx,cV] at hr;have:=c5 hr;have hl:=cz gh hx;rw[jd] at hl;rw[<-hl] at this;rw[<-this];cases o<;>simp only[gZ.nat]<;>congr 1<;>simp only[eq_iff_iff]<;>lia
theorem aGa(o q:gZ)(eq:q=o)(l b:aq)(items items2:ba ap)(n n2:ai)(dd dd2:aS aq)(sl sl2:ba (aS ap))(xs ys:aa D)(res:ax)(k:ai) :
  ∀i:ai,items.size-i=k->i<=items.size/\i<=items2.size->cV q (xs.drop i) (ys.drop i)=ae res->k5 (Builtin.«list.__eq__.loop» ⟨[.ref l,.ref b,iE i,iE o.code],[]⟩)
   (λA R s=>s.heap.get? l=ae {cls:=.type "list",dict:=dd,data:=.seq items n,slots:=sl}/\s.heap.get? b=ae {cls:=.type "list",dict:=dd2,data:=.seq items2 n2,slots:=sl2}/\
    C2 q A.in1 s items.toList items2.toList xs ys/\R (.ok (.ret (.bool res))) s):=by
 induction k with
 |zero=>
  intro i hk hi hr;cases o<;>exact λprog w A R s h=>by
   obtain⟨hp,g,d,tk,os⟩:=s;obtain⟨hl,hb,hC,h⟩:=h;have z1:items.size=xs.length:=by rw[<-hC.1];simp
   have z2:items2.size=ys.length:=by rw[<-hC.2.1];simp
   have hv:=aC5 q (.inl 0x1) 0x1 hr;subst eq;have e1:items[((i:ai):ag).toNat]?=ao:=by simp;lia
   wp_walk using wpAny_loadPart' hl,wpAny_loadPart' hb
   rw[e1]
   wp_walk using wpAny_loadPart' hl,wpAny_loadPart' hb
   rw[hv,<-z1,<-z2] at h;exact h
 |succ k ih=>
  intro i hk hi hr;cases o<;>exact λprog w A R s h=>by
   obtain⟨hp,g,d,tk,os⟩:=s;obtain⟨hl,hb,hC,h⟩:=h;have z1:items.size=xs.length:=by rw[<-hC.1];simp
   have z2:items2.size=ys.length:=by rw[<-hC.2.1];simp
   have l1:i<items.size:=by lia
   have e1:items[((i:ai):ag).toNat]?=ae items[i]:=by simp[l1]
   by_cases l2:i<items2.size
   .have e2:items2[((i:ai):ag).toNat]?=ae items2[i]:=by simp[l2]
    have x1:xs[i]?=ae (xs[i]' 0x1):=by simp
    have y1:ys[i]?=ae (ys[i]' 0x1):=by simp
    rw[aC4 x1,aC4 y1,cV] at hr;obtain⟨he,hlt⟩:=hC.2.2 i items[i] items2[i] _ _ (by simp[l1]) (by simp[l2]) x1 y1
    wp_walk using wpAny_loadPart' hl,wpAny_loadPart' hb
    rw[e1,e2];refine aE (he prog w _ _ ?_);cases ee:eqD (xs[i]' 0x1) (ys[i]' 0x1) with
    |true=>
     rw[ee,av rfl] at hr
     wp_walk
     rw[show((i:ag)+1)=((i+1:ai):ag) by lia];refine⟨hG rS _,hI Av ?_⟩;rw[io rS _];exact ih (i+1) 0x1 0x1 hr prog w A R _ ⟨hl,hb,hC,h⟩
    |false=>
     rw[ee,aw 0x2] at hr;subst eq;have hri:=hlt ee res hr prog w;dsimp only[gZ.op] at hri
     wp_walk using wpAny_loadPart' hl,wpAny_loadPart' hb
     rw[e1,e2]
     wp_walk using hri
     exact h
   .have hv:=aC5 q (.inr 0x1) 0x1 hr;subst eq;have e2:items2[((i:ai):ag).toNat]?=ao:=by simp;lia
    wp_walk using wpAny_loadPart' hl,wpAny_loadPart' hb
    rw[e1,e2]
    wp_walk using wpAny_loadPart' hl,wpAny_loadPart' hb
    rw[hv,<-z1,<-z2] at h;exact h
theorem EY(o:gZ)(l b:aq)(items items2:ba ap)(n n2:ai)(dd dd2:aS aq)(sl sl2:ba (aS ap))(xs ys:aa D)(res:ax)(hr:cV o xs ys=ae res) :
  k5 (o.btL ⟨[.ref l,.ref b],[]⟩)
   (λA R s=>s.heap.get? l=ae {cls:=.type "list",dict:=dd,data:=.seq items n,slots:=sl}/\s.heap.get? b=ae {cls:=.type "list",dict:=dd2,data:=.seq items2 n2,slots:=sl2}/\
    C2 o A.in1 s items.toList items2.toList xs ys/\R (.ok (.ret (.bool res))) s):=by
 have key:=aGa o o rfl l b items items2 n n2 dd dd2 sl sl2 xs ys res items.size 0 0x1 0x1 hr;cases o<;>exact λprog w A R s h=>by
  have f2:=Aw;obtain⟨hp,g,d,tk,os⟩:=s;obtain⟨hl,hb,hC,h⟩:=h
  wp_walk using wpAny_loadPart' hl,wpAny_loadPart' hb
  refine⟨hG rS _,hI Av ?_⟩;rw[io rS _];exact key prog w A R _ ⟨hl,hb,hC,h⟩
theorem aFr.lst(o:gZ)(hl:s.heap.IsList l items)(hb:s.heap.IsList b items2)(hC:C2 o A.in1 s items.toList items2.toList xs ys)(hr:cV o xs ys=ae res)(hu:A.units<bE) :
  aFr o.op A s (.ref l) (.ref b) res:=λprog w E Q h=>by
 obtain⟨⟨cls,dd,data,sl⟩,ho,hc,n,hd⟩:=id hl;obtain⟨⟨cls2,dd2,ni,sl2⟩,ho2,hc2,n2,hd2⟩:=id hb;simp only at hc hd hc2 hd2;subst hc hd hc2 hd2;have M:=EY o l b items items2 n n2 dd dd2 sl sl2 xs ys res hr;have G:_/\_/\C2 o A.in1 s items.toList items2.toList xs ys/\(ox res≠Au/\Q (.bool res) s):=⟨ho,ho2,hC,(λx=>nomatch x),h⟩
 cases o
 .exact kj ⟨_,ho,rfl⟩ ⟨_,ho2,rfl⟩ vp Ax (Ay _ _) M G hu
 .exact kj ⟨_,ho,rfl⟩ ⟨_,ho2,rfl⟩ PySem.F.slot_list_le PySem.F.entry_list_le (PySem.F.args_list_le_2 _ _) M G hu
 .exact kj ⟨_,ho,rfl⟩ ⟨_,ho2,rfl⟩ PySem.F.slot_list_gt PySem.F.entry_list_gt (PySem.F.args_list_gt_2 _ _) M G hu
 .exact kj ⟨_,ho,rfl⟩ ⟨_,ho2,rfl⟩ PySem.F.slot_list_ge PySem.F.entry_list_ge (PySem.F.args_list_ge_2 _ _) M G hu
section
def XC(o:gZ)(na:∀ds,a≠.tup ds)(nb:∀ds,a≠.scr ds)(nc:∀ds,a≠.lst ds)(rx:Rep All H x a)(ry:Rep All H y b)(ru:RelV x u)(rv:RelV y v)(hk:iR o a b=ae k):aFr o.op A s u v k:=by
 cases a with
 |int i=>
  cases b with
  |int j=>
   cases rx;cases ry;obtain⟨t,rfl⟩:=ru;obtain⟨t',rfl⟩:=rv;rw[iR] at hk;have:=c5 hk;subst this;cases o with
   |lt=>exact λprog w E Q h=>(CA h:ϑ (az prog w) A (dy .Lt (.int i t) (.int j t')) Q E s)
   |le=>exact λprog w E Q h=>(CB h:ϑ (az prog w) A (dy .LtE (.int i t) (.int j t')) Q E s)
   |gt=>exact λprog w E Q h=>(CC h:ϑ (az prog w) A (dy .Gt (.int i t) (.int j t')) Q E s)
   |ge=>exact λprog w E Q h=>(CD h:ϑ (az prog w) A (dy .GtE (.int i t) (.int j t')) Q E s)
  |_=>exact nx0 hk
 |str i=>
  cases b with
  |str j=>
   cases rx;cases ry;obtain⟨t,rfl⟩:=ru;obtain⟨t',rfl⟩:=rv;rw[iR] at hk;have:=c5 hk;subst this;cases o with
   |lt=>exact λprog w E Q h=>(CF h:ϑ (az prog w) A (dy .Lt (.str i t) (.str j t')) Q E s)
   |le=>exact λprog w E Q h=>(PySem.P.le_str h:ϑ (az prog w) A (dy .LtE (.str i t) (.str j t')) Q E s)
   |gt=>exact λprog w E Q h=>(PySem.P.gt_str h:ϑ (az prog w) A (dy .Gt (.str i t) (.str j t')) Q E s)
   |ge=>exact λprog w E Q h=>(PySem.P.ge_str h:ϑ (az prog w) A (dy .GtE (.str i t) (.str j t')) Q E s)
  |_=>exact nx0 hk
 |tup ds=>exact bg rfl (na ds)
 |scr ds=>exact bg rfl (nb ds)
 |lst ds=>exact bg rfl (nc ds)
 |_=>cases b<;>exact nx0 hk
theorem UL{X:Cx}(hK:KFrag.K=X.K)(I:Inv X Ψ σ H s)(o:gZ):∀(n:ai)(A:cS){x y:V}{a b:D}{u v:ap}{k:ax},A.units+n<bE->a.fD n=af->b.fD n=af->Rep All H x a->Rep All H y b->RelV x u->RelV y v->
  iR o a b=ae k->aFr o.op A s u v k:=by
 intro n;induction n with
 |zero=>
  intro A x y a b u v k hu ha hb rx ry ru rv hk;cases a with
  |tup _=>exact fx0 ha
  |scr _=>exact fx0 ha
  |lst _=>exact fx0 ha
  |_=>exact XC o (by intro ds z;cases z) (by intro ds z;cases z) (by intro ds z;cases z) rx ry ru rv hk
 |succ n ih=>
  intro A x y a b u v k hu ha hb rx ry ru rv hk;have hu0:A.units<bE:=by lia
  have hu1:A.in1.units+n<bE:=by show A.units+1+n<bE;lia
  have hC:∀{xs ys:aa V}{ds es:aa D}{its1 its2:aa ap},μ n ds=af->μ n es=af->bN All H xs ds->bN All H ys es->Vals xs its1->Vals ys its2->C2 o A.in1 s its1.toArray.toList its2.toArray.toList ds es:=by
   intro xs ys ds es its1 its2 ha hb r1 r2 vr1 vr2;refine⟨by rw[k6,<-vr1.length,r1.length],by rw[k6,<-vr2.length,r2.length],λj v w x y a1 a2 a3 a4=>?_⟩;rw[k6] at a1 a2;obtain⟨v1,w1,rr1⟩:=r1.get a3;obtain⟨v2,w2,rr2⟩:=r2.get a4;obtain⟨u1,k1,l1⟩:=vr1.get w1;obtain⟨u2,k2,l2⟩:=vr2.get w2;rw[a1] at k1;cases k1;rw[a2] at k2;cases k2;have g1:x.fD n=af:=by
    have:=jH ha (dz.mp a3).1;rwa [eJ,a3] at this
   have g2:y.fD n=af:=by
    have:=jH hb (dz.mp a4).1;rwa [eJ,a4] at this
   exact⟨(O7 hK I n A.in1 hu1 g1 g2 rr1 rr2 l1 l2).2.2,λ_ k hk=>ih A.in1 hu1 g1 g2 rr1 rr2 l1 l2 hk⟩
  cases a with
  |tup ds=>
   cases b with
   |tup es=>
    obtain⟨p,xs,rfl,e1,r1⟩:=rx.gM;cases ru;obtain⟨its1,vr1,h1⟩:=gR I e1;obtain⟨q,ys,rfl,e2,r2⟩:=ry.gM;cases rv;obtain⟨its2,vr2,h2⟩:=gR I e2;rw[D.fD] at ha hb;rw[iR] at hk;exact aFr.tup o h1 h2 (hC ha hb r1 r2 vr1 vr2) hk hu0
   |_=>exact nx0 hk
  |scr ds=>
   cases b with
   |scr es=>
    obtain⟨p,xs,rfl,e1,r1⟩:=lG hK rx;cases ru;obtain⟨its1,vr1,h1⟩:=d7 I e1;obtain⟨q,ys,rfl,e2,r2⟩:=lG hK ry;cases rv;obtain⟨its2,vr2,h2⟩:=d7 I e2;rw[D.fD] at ha hb;rw[iR] at hk;exact aFr.lst o h1 h2 (hC ha hb r1 r2 vr1 vr2) hk hu0
   |_=>exact nx0 hk
  |lst ds=>
   cases b with
   |scr es=>
    obtain⟨p,xs,rfl,e1,r1⟩:=rx.jX (K:=X.K);cases ru;obtain⟨its1,vr1,h1⟩:=d7 I e1;obtain⟨q,ys,rfl,e2,r2⟩:=lG hK ry;cases rv;obtain⟨its2,vr2,h2⟩:=d7 I e2;replace ha:μ n ds=af:=ha;replace hb:μ n es=af:=hb;replace hk:cV o ds es=ae k:=hk;exact aFr.lst o h1 h2 (hC ha hb r1 r2 vr1 vr2) hk hu0
   |_=>exact nx0 hk
  |_=>exact XC o (by intro ds z;cases z) (by intro ds z;cases z) (by intro ds z;cases z) rx ry ru rv hk
end
end Mi
namespace TS
open PySem PyProof.Rows
variable{st:ff}{lo:ai}
theorem HY(ho:s.heap.get? a=ae (eS "list" vs.toArray n))(hn:vs.length<=bp)
 (hk:2<=vs.length->∃κ U blt,Ord U blt/\tX U (gr vs)/\
   (∀Q:ka->ay->Prop,Q κ {s with heap:=((s.heap.update a (fu λ_=>(#[]:ba ap))).push (eS "tuple" vs.toArray 0)).push (eS "list" #[] 0)}->ϑ (az prog w) A (vw vs.toArray) Q E {s with heap:=((s.heap.update a (fu λ_=>(#[]:ba ap))).push (eS "tuple" vs.toArray 0)).push (eS "list" #[] 0)})/\
   ZX prog w A E {s with heap:=((s.heap.update a (fu λ_=>(#[]:ba ap))).push (eS "tuple" vs.toArray 0)).push (eS "list" #[] 0)} κ U blt/\
   ∀arr:ba bd,arr.Perm (gr vs)->Srt blt arr 0 (gr vs).size->P (.done (.ret .none)) {s with heap:=vx s.heap a vs (arr.map (·.2))})
 (h1:vs.length<2->P (.done (.ret .none)) {s with heap:=vx s.heap a vs ((gr vs).map (·.2))}) :
  ϑ (az prog w) A (Builtin.«list.sort» ⟨[.ref a],[]⟩) P E s:=by
 rw[list_sort_plain];have ha:a<s.heap.objs.size:=bX ho;refine aE (listItems_at ho rfl ?_);refine aE (vz ho rfl ?_ (by rw[cg];exact hn) (fo _));obtain⟨e1,ho1⟩:∃e1,(s.heap.update a (fu λ_=>(#[]:ba ap))).get? a=ae (eS "list" #[] e1):=⟨_,get?_update_seq ho (λ_=>#[])⟩
 refine aE (vE ho1 rfl ?_);refine aE (wpAny_newTuple ?_ (by show vs.length<=_;exact hn));refine aE (Az ?_ (fo _));refine ii ?_;have ho6:(((s.heap.update a (fu λ_=>(#[]:ba ap))).push (eS "tuple" vs.toArray 0)).push (eS "list" #[] 0)).get? a=ae (eS "list" #[] e1):=by
  rw[AA _ _ _ (by rw[size_push',vF];exact di (ix ha)),AA _ _ _ (by rw[vF];exact di ha)];exact ho1
 show ϑ (az prog w) A _ P E {s with heap:=((s.heap.update a (fu λ_=>(#[]:ba ap))).push (eS "tuple" vs.toArray 0)).push (eS "list" #[] 0)};dsimp only;have hsz:vs.toArray.size=vs.length:=by simp
 by_cases h2:vs.toArray.size<2
 .rw[av h2,av h2];refine aE (bm ?_);rw[StateT.run_pure];refine aE (bm ?_);dsimp only;refine aE (vE ho6 rfl ?_);refine aE (vz ho6 rfl ?_ (fo _) (hsz2:=by rw[AB];show(gr vs).size<=_;rw[pairsOf_size];exact AC hn));simp only[AD,dm,ck];exact bm (h1 0x1)
 .rw[aw h2,aw h2];obtain⟨κ,U,blt,O,hU,hkk,hL,fin⟩:=hk 0x1;refine aE (hkk _ ?_);refine aE (fj (wpS_sortRuns
   (Q:=λ_ st'=>(au st').Perm (gr vs)/\gj st'=ao/\Srt blt (au st') 0 (gr vs).size) O hL hU ⟨rfl,rfl,nS _⟩ rfl (by rw[pairsOf_size];lia) λst' b z=>⟨b.pm,b.fl,z⟩) ?_ λ_ _ e=>e)
  rintro⟨⟨⟩,st'⟩ s' ⟨rfl,hp,hf,hs⟩;dsimp only;refine aE (vE ho6 rfl ?_);refine aE (vz ho6 rfl ?_ (fo _) (hsz2:=by refine du (qx ((AB ..).trans (hp.size_eq.trans (pairsOf_size _)))) ?_;exact AC hn));rw[hf];simp only[AD,dm,ck];exact bm (fin (au st') hp hs)
noncomputable def aMs(h:br)(vs:aa ap):br:=
 (((h.push (eS "list" vs.toArray 0)).update h.objs.size (fu λ_=>(#[]:ba ap))).push (eS "tuple" vs.toArray 0)).push (eS "list" #[] 0)
def aGb(hb:h.get? b=ae o):(aMs h vs).get? b=ae o:=by
 have hlt:b<h.objs.size:=bX hb;unfold aMs;refine cx _ (cx _ ?_);rw[AE _ _ _ _ (di hlt)];exact cx _ hb
noncomputable def aMt(h:br)(vs:aa ap)(out:ba ap):br:=vx (h.push (eS "list" vs.toArray 0)) h.objs.size vs out
def aGc(hb:h.get? b=ae o):(aMt h vs out).get? b=ae o:=by
 have hlt:b<h.objs.size:=bX hb;unfold aMt;rw[sortedHeap_old (di hlt) (by rw[size_push'];exact ix hlt)];exact cx _ hb
def aK2(h:br)(vs:aa ap)(out:ba ap):∃e,(aMt h vs out).get? h.objs.size=ae (eS "list" out e):=sortedHeap_at (dt _ rfl)
def Z9(hn:vs.length<=bp)
 (hcol:∀(Q':aa ap->ay->Prop) (E':ap->ay->Prop),(∀h1 tk,(∀b o,s.heap.get? b=ae o->h1.get? b=ae o)->s.heap.objs.size<=h1.objs.size->Q' vs {s with heap:=h1,toks:=tk})->ϑ (az prog w) A.in1 (mf v) Q' E' s)
 (hk:∀h1 tk,(∀b o,s.heap.get? b=ae o->h1.get? b=ae o)->s.heap.objs.size<=h1.objs.size->2<=vs.length->∃κ U blt,Ord U blt/\tX U (gr vs)/\
   (∀Q:ka->ay->Prop,Q κ {s with heap:=aMs h1 vs,toks:=tk}->ϑ (az prog w) A.in1.in1 (vw vs.toArray) Q (λ_ _=>c9) {s with heap:=aMs h1 vs,toks:=tk})/\
   ZX prog w A.in1.in1 (λ_ _=>c9) {s with heap:=aMs h1 vs,toks:=tk} κ U blt/\
   ∀arr:ba bd,arr.Perm (gr vs)->Srt blt arr 0 (gr vs).size->Q (.ref h1.objs.size) {s with heap:=aMt h1 vs (arr.map (·.2)),toks:=tk})
 (h1:∀h1 tk,(∀b o,s.heap.get? b=ae o->h1.get? b=ae o)->s.heap.objs.size<=h1.objs.size->vs.length<2->Q (.ref h1.objs.size) {s with heap:=aMt h1 vs ((gr vs).map (·.2)),toks:=tk}) :
  ϑ (az prog w) A (call (.builtin "sorted") [v]) Q E s:=by
 refine Calls.call_function_entry kind_sorted plain_sorted entry_sorted (args_sorted1 _) ?_;unfold Builtin.«sorted»;refine aE (bm ?_);refine aE (hcol _ _ λhh tk kp hle=>?_);refine aE (Az ?_ hn);have hoL:(hh.push (eS "list" vs.toArray 0)).get? hh.objs.size=ae (eS "list" vs.toArray 0):=dt _ rfl;show ϑ _ _ _ _ _ {s with heap:=hh.push (eS "list" vs.toArray 0),toks:=tk};refine aE (ii (nj slot_list_sort ⟨_,hoL,rfl⟩ entry_list_sort ?body (args_list_sort _)))
 case body=>
  refine fj (HY (E:=λ_ _=>c9) (P:=λf s'=>∃v,f=.done (.ret v)/\v=lf/\Q (.ref hh.objs.size) s') hoL hn (λh2=>?_) (λh2=>⟨_,rfl,rfl,h1 hh tk kp hle h2⟩)) (λf s' h=>?_) λ_ _ z=>fI z
  .obtain⟨κ,U,blt,O,hU,hkk,hL,fin⟩:=hk hh tk kp hle h2;exact⟨κ,U,blt,O,hU,hkk,hL,λarr p z=>⟨_,rfl,rfl,fin arr p z⟩⟩
  .obtain⟨v,rfl,rfl,q⟩:=h;exact⟨_,rfl,bm ⟨_,rfl,q⟩⟩
end TS
namespace Mi
open PySem L2 PySem.SeqAt
open PyProof.Rows (Keyed lt' keyLt' oneLt' SortKind SortSt kindOf tuples' oneType' pairsOf wpS wpS_bind wpS_pure wpS_get wpS_lift keyKind')
section
variable [KFrag]
def n_(H:Hp)(u:ap):D:=by
 classical
 exact if h:∃d,d.plain=af/\d.fD aO=af/\∃v,RelV v u/\Rep All H v d then AF h else .non
def wW(hK:KFrag.K=X.K)(I:Inv X Ψ σ H s)(hp:d.plain=af)(hq:d.fD aO=af)(rv:RelV v u)(r:Rep All H v d):n_ H u=d:=by
 unfold n_;have h:∃d,d.plain=af/\d.fD aO=af/\∃v,RelV v u/\Rep All H v d:=⟨d,hp,hq,v,rv,r⟩
 rw[l8 h];obtain⟨h1,h2,v',rv',r'⟩:=AG h;have:=rv'.inj rv;subst this;exact Rep.inj I hK aO h2 hq r' r
def e_(h:bG ds=af)(ha:a∈ds):a.plain=af/\a.fD aO=af/\eX a≠0/\eX a=eX (ds.headD .non)/\∀b∈ds,∃k,iR .lt a b=ae k:=by
 unfold bG at h;have:=dw.mp h a ha;simp only[bn,bne_iff_ne,iv] at this;obtain⟨⟨⟨⟨h1,h2⟩,h3⟩,h4⟩,h5⟩:=this;refine⟨h1,h2,h3,h4,λb hb=>ub.mp (dw.mp h5 b hb)⟩
def aO5(h:bG ds=af)(ha:a∈ds)(hb:b∈ds):iR .lt a b=ae (ϒ (enc a<enc b)):=by
 obtain⟨p1,_,_,_,q⟩:=e_ h ha;obtain⟨p2,_⟩:=e_ h hb;obtain⟨k,hk⟩:=q b hb;rw[hk,yI a b k p1 p2 hk]
def sU(H:Hp)(ds:aa D)(k:bd):Prop:=∃v d,RelV v k.1/\Rep All H v d/\d∈ds
def sLt(H:Hp)(x y:bd):ax:=ϒ (enc (n_ H x.1)<enc (n_ H y.1))
def aTe(H:Hp)(ds:aa D):TS.Ord (sU H ds) (sLt H):=by
 refine⟨λx _=>?_,λx y z _ _ _ h1 h2=>?_,λx y z _ _ _ h=>?_⟩
 .simp[sLt,mh]
 .simp only[sLt,em] at *;exact List.lt_trans h1 h2
 .simp only[sLt,em] at *;by_cases q:enc (n_ H x.1)<enc (n_ H y.1)
  .exact .inl q
  .exact .inr (vh (k4.mp q) h)
section
variable {X:Cx} {Ψ:aa (aq×b9)} {σ:L2.St} {H:Hp} {s:ay}
open PySem.W in
theorem H_:∀(vs ws:aa ap)(xs ys:aa D)(i:ai),(b&&i==0)=aj->C2 .lt A s vs ws xs ys->cV .lt xs ys=ae k->xs.length+n2=ys.length+n1->Q k s->
  KatLex prog w A b (ϒ (n1<n2)) Q (vs.zip ws) i s
 |[],ws,xs,ys,i,_,hC,hk,hf,q=>by
  have:xs=[]:=vS hC.1.symm;subst this;rw[Ar];rw[cV] at hk;have e:k=ϒ (n1<n2):=by
   rw[<-c5 hk];simp only[gZ.nat,e9] at hf ⊢
   congr 1
   simp only[eq_iff_iff];lia
  rw[<-e];exact q
 |v::vs,[],xs,ys,i,_,hC,hk,hf,q=>by
  have:ys=[]:=vS hC.2.1.symm;subst this;rw[As];cases xs with
  |nil=>exact bg hC.1 0x2
  |cons x xs=>
   rw[cV] at hk;have e:k=ϒ (n1<n2):=by
    rw[<-c5 hk];simp only[gZ.nat,e9,cr] at hf ⊢
    congr 1
    simp only[eq_iff_iff];lia
   rw[<-e];exact q
 |v::vs,w'::ws,[],ys,i,_,hC,hk,hf,q=>bg hC.1 0x2
 |v::vs,w'::ws,x::xs,[],i,_,hC,hk,hf,q=>bg hC.2.1 0x2
 |v::vs,w'::ws,x::xs,y::ys,i,hi,hC,hk,hf,q=>by
  rw[rL];obtain⟨he,hlt⟩:=hC.2.2 0 _ _ _ _ rfl rfl rfl rfl;rw[cV] at hk;refine kat_cons (he prog w _ _ ?_);cases e:eqD x y with
  |true=>
   rw[e,av rfl] at hk;exact kat_yes (H_ vs ws xs ys (i+1) 0x2 hC.tail hk (by simp only[cr] at hf;lia) q)
  |false=>
   rw[e,aw 0x2] at hk;refine kat_no ?_;rw[hi];exact kat_one _ _ (hlt e k hk prog w _ _ q)
def aO6(hK:KFrag.K=X.K)(I:Inv X Ψ σ H s)(hu:A.units+n<bE)(ha:μ n ds=af)(hb:μ n es=af)(r1:bN All H xs ds)(r2:bN All H ys es)(vr1:Vals xs its1)(vr2:Vals ys its2) :
  C2 .lt A s its1 its2 ds es:=by
 refine⟨by rw[<-vr1.length,r1.length],by rw[<-vr2.length,r2.length],λj v w x y a1 a2 a3 a4=>?_⟩;obtain⟨v1,w1,rr1⟩:=r1.get a3;obtain⟨v2,w2,rr2⟩:=r2.get a4;obtain⟨u1,k1,l1⟩:=vr1.get w1;obtain⟨u2,k2,l2⟩:=vr2.get w2;rw[a1] at k1;cases k1;rw[a2] at k2;cases k2;have g1:x.fD n=af:=by
  have:=jH ha (dz.mp a3).1;rwa [eJ,a3] at this
 have g2:y.fD n=af:=by
  have:=jH hb (dz.mp a4).1;rwa [eJ,a4] at this
 exact⟨(O7 hK I n A hu g1 g2 rr1 rr2 l1 l2).2.2,λ_ k hk=>UL hK I .lt n A hu g1 g2 rr1 rr2 l1 l2 hk⟩
theorem kind_le(d:D):eX d<=6:=by
 unfold eX;split<;>lia
theorem aK3(h:eX d=1):∃i,d=.int i:=by
 unfold eX at h;split at h<;>first|lia|exact⟨_,rfl⟩
theorem aK4(h:eX d=2):∃i,d=.str i:=by
 unfold eX at h;split at h<;>first|lia|exact⟨_,rfl⟩
theorem aGd(h:eX d=3):∃i r,d=.tup (.int i::r):=by
 unfold eX at h;split at h<;>first|lia|exact⟨_,_,rfl⟩
theorem aGe(h:eX d=4):∃i r,d=.tup (.str i::r):=by
 unfold eX at h;split at h<;>first|lia|exact⟨_,_,rfl⟩
theorem aO7(h:eX d=5):∃i r,d=.tup (.tup i::r):=by
 unfold eX at h;split at h<;>first|lia|exact⟨_,_,rfl⟩
theorem aGf(h:eX d=6):∃i r,d=.tup (.scr i::r):=by
 unfold eX at h;split at h<;>first|lia|exact⟨_,_,rfl⟩
def XF(r:bN All H xs ds)(vr:Vals xs its)(hu:u∈its):∃v d,RelV v u/\Rep All H v d/\d∈ds:=by
 obtain⟨j,hj,e⟩:=nL hu;have hj':j<ds.length:=by rw[<-r.length,vr.length];exact hj
 obtain⟨v,h1,h2⟩:=r.get (i:=j) (d:=ds[j]) (by simp[hj']);obtain⟨u',h3,h4⟩:=vr.get h1;rw[eh hj,e] at h3;cases h3;exact⟨v,_,h4,h2,im _⟩
open PySem.W in
theorem yK(I:Inv X Ψ σ H s){F:D->Prop}(hF:∀(d:D) (v:V) (u:ap),F d->RelV v u->Rep All H v d->rV (az X.prog X.w) s.heap (lx u) T) :
  ∀{xs:aa V}{ds:aa D}{its:aa ap},bN All H xs ds->Vals xs its->(∀d∈ds,∃f r,d=.tup (f::r)/\F f)->∃fs,KatTups s.heap its fs/\fs.length=its.length/\∀f∈fs,rV (az X.prog X.w) s.heap (lx f) T
 |_,_,_,.nil,.nil,_=>⟨[],.nil,rfl,λ_ h=>by simp at h⟩
 |_,_,_,.cons r t,.cons v vt,h=>by
  obtain⟨fs,h1,h2,h3⟩:=yK I hF t vt λd hd=>h d (bu _ hd)
  obtain⟨f,rr,rfl,hf⟩:=h _ (bw ..);obtain⟨a,ys,rfl,e,rs⟩:=r.gM;cases v;obtain⟨its2,vr2,o,ho,hc,n,hd⟩:=gR I e;cases rs with
  |cons r0 rs=>
   cases vr2 with
   |cons v0 vr2=>
    refine⟨_::fs,.cons ho hc hd rfl h1,by simp[h2],λg hg=>?_⟩;rcases bq.mp hg with rfl|hg
    .exact hF _ _ _ hf v0 r0
    .exact h3 g hg
theorem Z_{E:ap->ay->Prop}(hl:s.heap.IsList l items)(hb:s.heap.IsList b items2)(hC:C2 .lt A.in1 s items.toList items2.toList xs ys)(hr:cV .lt xs ys=ae res)(hu:A.units<bE)(q:Q res s):ϑ (az X.prog X.w) A (oneLt' af (.ref l) (.ref b)) Q E s:=by
 obtain⟨⟨cls,dd,data,sl⟩,ho,hc,n,hd⟩:=id hl;obtain⟨⟨cls2,dd2,ni,sl2⟩,ho2,hc2,n2,hd2⟩:=id hb;simp only at hc hd hc2 hd2;subst hc hd hc2 hd2;have M:=EY .lt l b items items2 n n2 dd dd2 sl sl2 xs ys res hr;rw[CH];simp only[cq];refine aE (wpAny_cRoomFor hu ?_);refine aE (wpAny_callSpecialIfBound?_slot ⟨_,ho,rfl⟩ vp (jI vp ⟨_,ho,rfl⟩ Ax (Ay _ _) M ⟨ho,ho2,hC,?_⟩));exact jc q
open PySem.W in
theorem aC6(hK:KFrag.K=X.K)(I:Inv X Ψ σ H s)(hu:A.units+aO<bE)(hc:bG ds=af)(r:bN All H xs ds)(vr:Vals xs its)(h2:2<=its.length) :
  ∃κ:ka,(∀Q:ka->ay->Prop,Q κ s->ϑ (az X.prog X.w) A (vw its.toArray) Q (λ_ _=>c9) s)/\
   ∀(x y:bd)(Q:ax->ay->Prop),sU H ds x->sU H ds y->Q (sLt H x y) s->ϑ (az X.prog X.w) A (keyLt' κ x.1 y.1) Q (λ_ _=>c9) s:=by
 have hlen:ds.length=its.length:=by rw[<-r.length,vr.length]
 have hkind:∀d∈ds,eX d=eX (ds.headD .non):=λd hd=>(e_ hc hd).2.2.2.1
 have hne:eX (ds.headD .non)≠0:=by
  have hd:ds.headD .non∈ds:=by
   cases ds with
   |nil=>simp at hlen;lia
   |cons d ds=>simp
  exact(e_ hc hd).2.2.1
 have lty:∀{x y:bd}{v v':V}{d d':D},RelV v x.1->Rep All H v d->d∈ds->RelV v' y.1->Rep All H v' d'->d'∈ds->iR .lt d d'=ae (sLt H x y):=λ{x y v v' d d'} rv rp hd rv' rp' hd'=>by
  have e1:=wW hK I (e_ hc hd).1 (e_ hc hd).2.1 rv rp;have e2:=wW hK I (e_ hc hd').1 (e_ hc hd').2.1 rv' rp';rw[aO5 hc hd hd'];unfold sLt;rw[e1,e2]
 -- two tuples whose first items are told by a kB of their own,or by the common one
 have tupl:∀(b:ax)(x y:bd)(Q:ax->ay->Prop),sU H ds x->sU H ds y->(∀d∈ds,∃f r,d=.tup (f::r))->
   (b=af->∀(f g:D)(v v':V)(u u':ap)(k:ax)(Q:ax->ay->Prop),(∃r,D.tup (f::r)∈ds)->(∃r,D.tup (g::r)∈ds)->RelV v u->Rep All H v f->RelV v' u'->Rep All H v' g->iR .lt f g=ae k->Q k s->ϑ (az X.prog X.w) A (oneLt' af u u') Q (λ_ _=>c9) s)->
   Q (sLt H x y) s->ϑ (az X.prog X.w) A (keyLt' (n4 b) x.1 y.1) Q (λ_ _=>c9) s:=by
  rintro b ⟨x1,x2⟩ ⟨y1,y2⟩ Q ⟨v,d,rv,rp,hd⟩ ⟨v',d',rv',rp',hd'⟩ htup hone q;have hk:=lty rv rp hd rv' rp' hd';have q1:=(e_ hc hd).2.1;have q2:=(e_ hc hd').2.1;obtain⟨f,rr,rfl⟩:=htup d hd;obtain⟨g,rr',rfl⟩:=htup d' hd';obtain⟨a,ys,rfl,e,rs⟩:=rp.gM;obtain⟨a',ys',rfl,e',rs'⟩:=rp'.gM;cases rv;cases rv';obtain⟨i1,vr1,o1,ho1,hc1,n1,hd1⟩:=gR I e;obtain⟨i2,vr2,o2,ho2,hc2,n2,hd2⟩:=gR I e';rw[iR] at hk;have q1':μ 11 (f::rr)=af:=q1;have q2':μ 11 (g::rr')=af:=q2;have hu':A.units+11<bE:=by have:A.units+12<bE:=hu;lia
  have C:=aO6 hK I hu' q1' q2' rs rs' vr1 vr2;refine kat_lt ho1 hd1 ho2 hd2 ?_;have z1:i1.toArray.size=(f::rr).length:=by rw[cg,<-vr1.length,rs.length]
  have z2:i2.toArray.size=(g::rr').length:=by rw[cg,<-vr2.length,rs'.length]
  rw[k6,k6,z1,z2];cases b with
  |false=>exact H_ i1 i2 (f::rr) (g::rr') 0 rfl C hk 0x1 q
  |true=>
   cases rs with
   |cons r0 rs=>
    cases rs' with
    |cons r0' rs'=>
     cases vr1 with
     |cons v0 vr1=>
      cases vr2 with
      |cons v0' vr2=>
       rw[rL];obtain⟨he,_⟩:=C.2.2 0 _ _ _ _ rfl rfl rfl rfl;rw[cV] at hk;refine kat_cons (he X.prog X.w _ _ ?_);cases e0:eqD f g with
       |true=>
        rw[e0,av rfl] at hk;exact kat_yes (H_ _ _ rr rr' 1 0x2 C.tail hk (by simp only[cr];lia) q)
       |false=>
        rw[e0,aw 0x2] at hk;refine kat_no ?_;exact hone rfl f g _ _ _ _ _ Q ⟨_,hd⟩ ⟨_,hd'⟩ v0 r0 v0' r0' hk q
 have h5:=kind_le (ds.headD .non);have cases5:eX (ds.headD .non)=1\/eX (ds.headD .non)=2\/eX (ds.headD .non)=3\/eX (ds.headD .non)=4\/eX (ds.headD .non)=5\/eX (ds.headD .non)=6:=by lia
 rcases cases5 with c|c|c|c|c|c
 .refine⟨oneType',λQ q=>kas_kind (T:=.type "int") h2 (λu hm=>?_) 0x4 0x4 q,λx y Q hx hy q=>?_⟩
  .obtain⟨v,d,rv,rp,hd⟩:=XF r vr hm;obtain⟨i,rfl⟩:=aK3 ((hkind d hd).trans c);cases rp.inv;obtain⟨t,rfl⟩:=rv;exact rX rfl
  .obtain⟨v,d,rv,rp,hd⟩:=hx;obtain⟨v',d',rv',rp',hd'⟩:=hy;have hk:=lty rv rp hd rv' rp' hd';obtain⟨i,rfl⟩:=aK3 ((hkind d hd).trans c);obtain⟨j,rfl⟩:=aK3 ((hkind d' hd').trans c);cases rp.inv;cases rp'.inv;obtain⟨t,e1⟩:=rv;obtain⟨t',e2⟩:=rv';rw[iR] at hk;rw[<-c5 hk] at q;rw[e1,e2,AH];exact AI q
 .refine⟨oneType',λQ q=>kas_kind (T:=.type "str") h2 (λu hm=>?_) 0x4 0x4 q,λx y Q hx hy q=>?_⟩
  .obtain⟨v,d,rv,rp,hd⟩:=XF r vr hm;obtain⟨i,rfl⟩:=aK4 ((hkind d hd).trans c);cases rp.inv;obtain⟨t,rfl⟩:=rv;exact rX rfl
  .obtain⟨v,d,rv,rp,hd⟩:=hx;obtain⟨v',d',rv',rp',hd'⟩:=hy;have hk:=lty rv rp hd rv' rp' hd';obtain⟨i,rfl⟩:=aK4 ((hkind d hd).trans c);obtain⟨j,rfl⟩:=aK4 ((hkind d' hd').trans c);cases rp.inv;cases rp'.inv;obtain⟨t,e1⟩:=rv;obtain⟨t',e2⟩:=rv';rw[iR] at hk;rw[<-c5 hk] at q;rw[e1,e2,AH];exact AJ q
 .obtain⟨fs,t1,t2,t3⟩:=yK I (T:=.type "int") (F:=λf=>∃i,f=.int i) (λd v u hf rv rp=>by
   obtain⟨i,rfl⟩:=hf;cases rp.inv;obtain⟨t,rfl⟩:=rv;exact rX rfl) r vr (λd hd=>by
   obtain⟨i,rr,rfl⟩:=aGd ((hkind d hd).trans c);exact⟨_,_,rfl,i,rfl⟩)
  refine⟨n4 af,λQ q=>r_ (T:=.type "int") t1 0x1 t3 0x4 q,λx y Q hx hy q=>tupl af x y Q hx hy (λd hd=>?_) (λ_ f g v v' u u' k Q hf hg rv rp rv' rp' hk q=>?_) q⟩
  .obtain⟨i,rr,rfl⟩:=aGd ((hkind d hd).trans c);exact⟨_,_,rfl⟩
  .obtain⟨r1,hf⟩:=hf;obtain⟨r2,hg⟩:=hg;obtain⟨i,rr,e1⟩:=aGd ((hkind _ hf).trans c);obtain⟨j,rr',e2⟩:=aGd ((hkind _ hg).trans c);cases e1;cases e2;cases rp.inv;cases rp'.inv;obtain⟨t,rfl⟩:=rv;obtain⟨t',rfl⟩:=rv';rw[iR] at hk;rw[<-c5 hk] at q;exact AI q
 .obtain⟨fs,t1,t2,t3⟩:=yK I (T:=.type "str") (F:=λf=>∃i,f=.str i) (λd v u hf rv rp=>by
   obtain⟨i,rfl⟩:=hf;cases rp.inv;obtain⟨t,rfl⟩:=rv;exact rX rfl) r vr (λd hd=>by
   obtain⟨i,rr,rfl⟩:=aGe ((hkind d hd).trans c);exact⟨_,_,rfl,i,rfl⟩)
  refine⟨n4 af,λQ q=>r_ (T:=.type "str") t1 0x1 t3 0x4 q,λx y Q hx hy q=>tupl af x y Q hx hy (λd hd=>?_) (λ_ f g v v' u u' k Q hf hg rv rp rv' rp' hk q=>?_) q⟩
  .obtain⟨i,rr,rfl⟩:=aGe ((hkind d hd).trans c);exact⟨_,_,rfl⟩
  .obtain⟨r1,hf⟩:=hf;obtain⟨r2,hg⟩:=hg;obtain⟨i,rr,e1⟩:=aGe ((hkind _ hf).trans c);obtain⟨j,rr',e2⟩:=aGe ((hkind _ hg).trans c);cases e1;cases e2;cases rp.inv;cases rp'.inv;obtain⟨t,rfl⟩:=rv;obtain⟨t',rfl⟩:=rv';rw[iR] at hk;rw[<-c5 hk] at q;exact AJ q
 .obtain⟨fs,t1,t2,t3⟩:=yK I (T:=.type "tuple") (F:=λf=>∃i,f=.tup i) (λd v u hf rv rp=>by
   obtain⟨i,rfl⟩:=hf;obtain⟨a,ys,rfl,e,rs⟩:=rp.gM;cases rv;obtain⟨i1,vr1,o1,ho1,hc1,n1,hd1⟩:=gR I e;have:=(show rV (az X.prog X.w) s.heap (lx (.ref a)) o1.cls from (AK ho1).andThen .now)
   rwa [hc1] at this) r vr (λd hd=>by
   obtain⟨i,rr,rfl⟩:=aO7 ((hkind d hd).trans c);exact⟨_,_,rfl,i,rfl⟩)
  refine⟨n4 aj,λQ q=>r_ (T:=.type "tuple") t1 0x1 t3 0x4 q,λx y Q hx hy q=>tupl aj x y Q hx hy (λd hd=>?_) (λh=>by cases h) q⟩;obtain⟨i,rr,rfl⟩:=aO7 ((hkind d hd).trans c);exact⟨_,_,rfl⟩
 .obtain⟨fs,t1,t2,t3⟩:=yK I (T:=.type "list") (F:=λf=>∃i,f=.scr i) (λd v u hf rv rp=>by
   obtain⟨i,rfl⟩:=hf;obtain⟨a,ys,rfl,e,rs⟩:=lG hK rp;cases rv;obtain⟨i1,vr1,o1,ho1,hc1,n1,hd1⟩:=d7 I e;have:=(show rV (az X.prog X.w) s.heap (lx (.ref a)) o1.cls from (AK ho1).andThen .now)
   rwa [hc1] at this) r vr (λd hd=>by
   obtain⟨i,rr,rfl⟩:=aGf ((hkind d hd).trans c);exact⟨_,_,rfl,i,rfl⟩)
  refine⟨n4 af,λQ q=>r_ (T:=.type "list") t1 0x1 t3 0x4 q,λx y Q hx hy q=>tupl af x y Q hx hy (λd hd=>?_) (λ_ f g v v' u u' k Q hf hg rv rp rv' rp' hk q=>?_) q⟩
  .obtain⟨i,rr,rfl⟩:=aGf ((hkind d hd).trans c);exact⟨_,_,rfl⟩
  .obtain⟨r1,hf⟩:=hf;obtain⟨r2,hg⟩:=hg;have q1:μ 11 (f::r1)=af:=(e_ hc hf).2.1;have q2:μ 11 (g::r2)=af:=(e_ hc hg).2.1;obtain⟨i,rr,e1⟩:=aGf ((hkind _ hf).trans c);obtain⟨j,rr',e2⟩:=aGf ((hkind _ hg).trans c);cases e1;cases e2;rw[μ,bn] at q1 q2;have p1:μ 10 i=af:=q1.1;have p2:μ 10 j=af:=q2.1;obtain⟨p,xs1,rfl,e1,s1⟩:=lG hK rp;cases rv;obtain⟨its1,vr1,h1⟩:=d7 I e1;obtain⟨p',ys1,rfl,e2,s2⟩:=lG hK rp';cases rv';obtain⟨its2,vr2,h2'⟩:=d7 I e2;have hu12:A.units+12<bE:=hu;rw[iR] at hk;exact Z_ h1 h2' (by rw[k6,k6];exact aO6 hK I (by show A.units+1+10<bE;lia) p1 p2 s1 s2 vr1 vr2) hk 0x1 q
def aK5(I:Inv X Ψ σ H s)(h:∀(x y:bd) (Q:ax->ay->Prop),sU H ds x->sU H ds y->Q (sLt H x y) s->ϑ (az X.prog X.w) A (keyLt' κ x.1 y.1) Q (λ_ _=>c9) s) :
  TS.ZX X.prog X.w A (λ_ _=>c9) s κ (sU H ds) (sLt H):=by
 intro x y st Q hx hy hk q;rw[CI];refine bb (ik ?_);rw[hk];refine bb (kb (vT (fj (h x y (λb s'=>s'=s/\b=sLt H x y) hx hy ⟨rfl,rfl⟩) (λb s' ⟨e1,e2⟩=>⟨e1,?_⟩) λ_ _ z=>fI z)));subst e2;exact bf q
theorem mZ(hK:KFrag.K=X.K)(I:Inv X Ψ σ H s)(hu:X.A.units+20<bE)(vr:Vals xs its)(hn:its.length<=bp)(r:bN All H xs ds)(hc:bG ds=af)
 (hcol:∀(Q':aa ap->ay->Prop) (E':ap->ay->Prop),(∀h1 tk,(∀b o,s.heap.get? b=ae o->h1.get? b=ae o)->s.heap.objs.size<=h1.objs.size->Q' its {s with heap:=h1,toks:=tk})->ϑ (az X.prog X.w) X.A.in1 (mf v) Q' E' s)
 (q:∀p xs',H p=ao->bN All H xs' (h_ ds)->Q (.ref p) (upd H p (.lst xs'))):ϑ (az X.prog X.w) X.A (call (.builtin "sorted") [v]) (EP X Ψ σ Q) X.xe s:=by
 have hz:xs.length<=bp:=by rw[vr.length];exact hn
 -- what comes,told by its data
 have fin:∀(h1:br)(tk:ai),(∀b o,s.heap.get? b=ae o->h1.get? b=ae o)->s.heap.objs.size<=h1.objs.size->∀arr:ba bd,arr.Perm (gr its)->(∀i j,i<=j->j<arr.size->leE (n_ H (TS.gt arr i).1) (n_ H (TS.gt arr j).1)=af)->EP X Ψ σ Q (.ref h1.objs.size) {s with heap:=TS.aMt h1 its (arr.map (·.2)),toks:=tk}:=by
  intro h1' tk kp hle arr hp hs;have hpl:arr.toList.Perm (its.zip its):=by rw[<-CL];exact ve.mp hp
  have hmem:∀p∈arr.toList,p.1=p.2/\p.1∈its:=λp hp'=>CM (hpl.mem_iff.mp hp')
  have e1:(arr.map (·.2)).toList=arr.toList.map (·.1):=by
   rw[Array.toList_map];exact dh λp hp'=>(hmem p hp').1.symm
  -- the values and their data
  have all:∀l:aa bd,(∀p∈l,p∈arr.toList)->∃ys,Vals ys (l.map (·.1))/\bN All H ys (l.map λp=>n_ H p.1):=by
   intro l;induction l with
   |nil=>intro _;exact⟨[],.nil,.nil⟩
   |cons p l ih=>
    intro h;obtain⟨ys,h1,h2⟩:=ih λp hp'=>h p (bu _ hp')
    obtain⟨v,d,rv,rp,hd⟩:=XF r vr (hmem p (h p (bw ..))).2;refine⟨v::ys,.cons rv h1,?_⟩;rw[bj,wW hK I (e_ hc hd).1 (e_ hc hd).2.1 rv rp];exact .cons rp h2
  obtain⟨ys,h1,h2⟩:=all arr.toList λ_ h=>h
  have dats:its.map (n_ H)=ds:=by
   clear all h1 h2 hp hs hpl hmem e1;have:∀{xs:aa V}{es:aa D}{us:aa ap},bN All H xs es->Vals xs us->(∀d∈es,d∈ds)->us.map (n_ H)=es:=by
    intro xs es us r;induction us generalizing xs es with
    |nil=>intro v _;cases v;cases r;rfl
    |cons u us ih=>
     intro v hsub;cases v with
     |cons v0 vt=>
      cases r with
      |cons r0 rt=>
       have hd:=hsub _ (bw ..);rw[bj,ih rt vt λd hd=>hsub d (bu _ hd),wW hK I (e_ hc hd).1 (e_ hc hd).2.1 v0 r0]
   exact this r vr λ_ h=>h
  have hperm:(arr.toList.map λp=>n_ H p.1).Perm ds:=by
   have:=hpl.map λp=>n_ H p.1
   have e2:(its.zip its).map (λp=>n_ H p.1)=ds:=by
    have:(its.zip its).map (λp=>n_ H p.1)=((its.zip its).map n9).map (n_ H):=by rw[bP];rfl
    rw[this,AL (bi _),dats]
   rwa [e2] at this
  have hsorted:(arr.toList.map λp=>n_ H p.1).Pairwise λa b=>leE a b=af:=by
   rw[d4,vc];intro i j hi hj hij;have:=hs i j (mN hij) (by simpa using hj);have g:∀k (hk:k<arr.toList.length),TS.gt arr k=arr.toList[k]:=λk hk=>by
    unfold TS.gt;have hk':k<arr.size:=by simpa using hk
    simp[iS,hk']
   rwa [g i hi,g j hj] at this
  have eq:(arr.toList.map λp=>n_ H p.1)=h_ ds:=by
   refine oN (λd hd=>?_) (hperm.trans (b7 ds).symm) hsorted (dY ds);exact(e_ hc (hperm.mem_iff.mp hd)).1
  rw[eq] at h2;rw[<-e1] at h1;have hfr:H h1'.objs.size=ao:=I.hok.fresh hle;obtain⟨ee,he⟩:=TS.aK2 h1' its (arr.map (·.2));refine⟨.ref h1'.objs.size,_,I.laid (λb o e=>TS.aGc (kp b o e)) hle ?_,rfl,q _ ys hfr h2⟩;refine⟨?_,(arr.map (·.2)).toList,ee,h1,by rw[he]⟩;rw[h2.length,(b7 ds).length_eq,<-r.length];exact hz
 refine TS.Z9 hn hcol (λhh tk kp hle h2=>?_) (λhh tk kp hle h2=>?_)
 .have I':Inv X Ψ σ H {s with heap:=TS.aMs hh its,toks:=tk}:=I.kept λb o e=>TS.aGb (kp b o e)
  have hu2:X.A.in1.in1.units+aO<bE:=by show X.A.units+1+1+12<bE;lia
  obtain⟨κ,k1,k2⟩:=aC6 hK I' hu2 hc r vr h2;refine⟨κ,sU H ds,sLt H,aTe H ds,λi hi=>?_,k1,aK5 I' k2,λarr p z=>fin hh tk kp hle arr p λi j a1 a2=>?_⟩
  .rw[AM] at hi;have e:TS.gt (gr its) i=(its[i],its[i]):=by
    unfold TS.gt gr;simp[iS,hi]
   rw[e];exact XF r vr (im hi)
  .have:=z i j (fo _) a1 (by rw[<-p.size_eq];exact a2);unfold leE;unfold sLt at this;rw[this];rfl
 .refine fin hh tk kp hle _ (nS _) λi j a1 a2=>?_
  rw[AM] at a2;rw[show i=j by lia];simp[leE,mh]
def aA0(hK:KFrag.K=X.K)(I:Inv X Ψ σ H s)(hu:X.A.units+20<bE)(hl:SqL X.K H l xs)(r:bN All H xs ds)(hc:bG ds=af)
 (q:∀p xs',H p=ao->bN All H xs' (h_ ds)->Q (.ref p) (upd H p (.lst xs'))):ϑ (az X.prog X.w) X.A (call (.builtin "sorted") [.ref l]) (EP X Ψ σ Q) X.xe s:=by
 obtain⟨its,vr,pl,hz⟩:=I.list hl;have hn:its.length<=bp:=by rw[<-vr.length];exact hz
 refine mZ hK I hu vr hn r hc (λQ' E' h=>CO pl.isList (h _ s.toks (λb o e=>?_) ?_) hn) q
 .rw[AE _ _ _ _ (di (bX e))];exact cx _ e
 .rw[vF,CS];exact i6 _
end
end
open PySem.Spec PyProof.Rows
section
variable [KFrag]
def kR(H:Hp)(d:D)(fr:ax)(Q:VK):Prop:=∀v H',cD H H'->Rep All H' v d->(fr=af->Rep (New H) H' v d)->Q v H'
noncomputable def gE(f:FE)(fr:ax):TE:=λσ H Q=>∃ρ d,ER H σ ρ/\f ρ=.ok d/\kR H d fr Q
noncomputable def gT(f:FT):TT:=λσ H Q=>∃ρ b,ER H σ ρ/\f ρ=.ok b/\∀H',cD H H'->Q b H'
noncomputable def gA(f:FA)(fr:ax):TA:=λσ H Q=>∃ρ ds,ER H σ ρ/\f ρ=.ok ds/\∀vs H',cD H H'->bN All H' vs ds->(fr=af->bN (New H) H' vs ds)->Q vs H'
def kR.self{fr:ax}(q:kR H d fr Q)(r:Rep All H v d)(r2:fr=af->Rep (New H) H v d):Q v H:=q v H (cD.refl H) r r2
def kR.imp{fr fr':ax}(q:kR H d fr Q)(s:cD H H')(h:fr=af->fr'=af):kR H' d fr' Q:=λv H2 s2 r n=>q v H2 (s.trans s2) r λhf=>(n (h hf)).mono (cD.new s)
def kR.int{fr:ax}{Q:VK}(q:kR H (.int i) fr Q):Q (.int i) H:=q.self (.int i) λ_=>.int i
def kR.bl{fr:ax}{Q:VK}(q:kR H (.bl i) fr Q):Q (.bl i) H:=q.self (.bl i) λ_=>.bl i
def kR.str{fr:ax}{Q:VK}(q:kR H (.str i) fr Q):Q (.str i) H:=q.self (.str i) λ_=>.str i
def kR.non{fr:ax}{Q:VK}(q:kR H .non fr Q):Q .non H:=q.self .non λ_=>.non
noncomputable def r2(f:D->D->Res D)(fr:ax):R2:=λx y H Q=>∃a b d,Rep All H x a/\Rep All H y b/\f a b=.ok d/\kR H d fr Q
def r1(f:D->Res D)(fr:ax):V->Hp->VK->Prop:=λx H Q=>∃a d,Rep All H x a/\f a=.ok d/\kR H d fr Q
def rs(f:aa D->Res D)(fr:ax):aa V->Hp->VK->Prop:=λxs H Q=>∃ds d,bN All H xs ds/\f ds=.ok d/\kR H d fr Q
def bF{f:α->Res β}(h:(do let x <- m;f x)=.ok b):∃a,m=.ok a/\f a=.ok b:=Res.aJy h
section
variable {X:Cx} {a b e:Expr} {pos:de} {fa fb fe:FE} {ra rb re:ax} {ga:FT}
def ER.var(E:ER H σ ρ)(h:kJ i ρ=.ok d):∃v,σ[i]?=ae (ae v)/\Rep All H v d/\ρ.getD i .uD=d:=by
 have:ρ.getD i .uD=d/\d≠.uD:=by
  unfold kJ at h;split at h
  .exact bx h
  .cases h;refine⟨rfl,λz=>?_⟩;rename_i q;exact q z
 obtain⟨e1,e2⟩:=this;obtain⟨v,h1,h2⟩:=E i (by rw[e1];exact e2);exact⟨v,h1,by rw[e1] at h2;exact h2,e1⟩
def aA(hN:X.N[i]?=ae x:=by exact rfl)(hv:Vis X.env.scope x:=by trivial)(hd:autoParam (nDb x) Λ)(hcd:autoParam (nCd x) Λ):PE X (.Name x pos) (gE (kJ i) aj):=
 PE.imp (j_ hN hv hd hcd) λσ H Q z0=>by
  obtain⟨ρ,d,E,h,q⟩:=z0;obtain⟨v,h1,h2,_⟩:=E.var h;exact⟨v,h1,q.self h2 (λz=>by cases z)⟩
def aH{i j}:PE X (.Constant (.int i) j pos) (gE (bC (.int i)) af):=PE.imp aN2 λσ H Q z0=>by obtain⟨ρ,d,E,h,q⟩:=z0;cases h;exact q.int
def uZ{i j}:PE X (.Constant (.bool i) j pos) (gE (bC (.bl i)) af):=PE.imp aQm λσ H Q z0=>by obtain⟨ρ,d,E,h,q⟩:=z0;cases h;exact q.bl
def aI8{i j}:PE X (.Constant (.str i) j pos) (gE (bC (.str i)) af):=PE.imp aN4 λσ H Q z0=>by obtain⟨ρ,d,E,h,q⟩:=z0;cases h;exact q.str
def O8{j}:PE X (.Constant .none j pos) (gE (bC .non) af):=PE.imp aN3 λσ H Q z0=>by obtain⟨ρ,d,E,h,q⟩:=z0;cases h;exact q.non
theorem two{fr:ax}{σ:L2.St}{H:Hp}{Q:VK}(h:gE (b2 f fa fb) fr σ H Q):tOp (r2 f fr) (gE fa ra) (gE fb rb) σ H Q:=by
 obtain⟨ρ,d,E,h,q⟩:=h;obtain⟨x,h1,h⟩:=bF h;obtain⟨y,h2,h⟩:=bF h;refine⟨ρ,x,E,h1,λv H1 s1 rp1 _=>⟨ρ,y,E.same s1,h2,λu H2 s2 rp2 _=>⟨x,y,d,rp1.same s2,rp2,h,q.imp (s1.trans s2) id⟩⟩⟩
def bD{o:Operator}{f:D->D->Res D}{fr:ax}(ho:OpR X (fN o) (r2 f fr))(ha:PE X a (gE fa ra))(hb:PE X b (gE fb rb)):PE X (.BinOp a o b pos) (gE (b2 f fa fb) fr):=PE.imp (aQu ho ha hb) λ_ _ _=>two
def XH{o:ki}{f:D->D->Res D}{fr:ax}(ho:OpR X (dy o) (r2 f fr))(ha:PE X a (gE fa ra))(hb:PE X b (gE fb rb))(hm:lj o b=aj):PE X (.Compare a [o] [b] pos) (gE (b2 f fa fb) fr):=PE.imp (aJg ho ha hb hm) λ_ _ _=>two
def cY{o:ki}{f:D->D->Res D}{fr:ax}(ho:OpR X (dy o) (r2 f fr))(ha:PE X a (gE fa ra))(hb:PE X b (gE fb rb))(hm:lj o b=aj):PT X (.Compare a [o] [b] pos) (gT (bTB (b2 f fa fb))):=
 PT.imp (aJh ho ha hb hm) λσ H Q z0=>by
  obtain⟨ρ,k,E,h,q⟩:=z0;obtain⟨d,h1,h2⟩:=bF h;refine two ⟨ρ,d,E,h1,λv H' s r _=>?_⟩;cases d<;>simp only[asB] at h2<;>cases h2
  cases r.inv;exact⟨_,rfl,q H' s⟩
theorem aRa{f:D->Res D}{fr:ax}(ho:UnR X (oI o) (r1 f fr))(ha:PE X a (gE fa ra)):PE X (.UnaryOp o a pos) (gE (b1 f fa) fr):=
 PE.imp (aQv ho ha) λσ H Q z0=>by
  obtain⟨ρ,d,E,h,q⟩:=z0;obtain⟨x,h1,h⟩:=bF h;exact⟨ρ,x,E,h1,λv H1 s1 rp1 _=>⟨x,d,rp1,h,q.imp s1 id⟩⟩
def aRb{f:D->D->Res D}{fr:ax}(ho:IxR X (r2 f fr))(ha:PE X a (gE fa ra))(hb:PE X b (gE fb rb))(hs:uT b):PE X (.Subscript a b pos) (gE (b2 f fa fb) fr):=PE.imp (aJp ho ha hb hs) λ_ _ _=>two
def aTf(r:Rep All H v d)(h:aSe d=.ok k)(hd:∀kvs,d≠.dct kvs)(hs:∀xs,d≠.scr xs):aQx X.K v H k:=by
 cases r with
 |non=>cases h;rfl
 |bl b=>cases h;rfl
 |int i=>cases h;rfl
 |str x=>
  replace h:(if ϒ (x.length<=lim) then τ ((x.length:ag)!=0) else .bad)=.ok k:=h;split at h
  .rename_i hl;cases h;exact⟨du (fq hl) (by rw[e8];decide),rfl⟩
  .exact bx h
 |tup e rr=>cases h;exact .inr (.inl ⟨_,.of e,by cases rr<;>rfl⟩)
 |lst e p rr=>cases h;exact .inl ⟨_,.of e,by cases rr<;>rfl⟩
 |frz e rr=>exact bg rfl (hs _)
 |dK e p rr n=>exact bg rfl (hd _)
 |dT e p rr n=>exact bg rfl (hd _)
def kO(ha:PE X a (gE fa ra))(he:∀whole,oz a X.env whole=(do let v <- whole;standAt a.pos;t5 [v] (truthy v)):=by intro _;rfl):PT X a (gT (bTr fa)):=
 PT.imp (aFx ha he) λσ H Q z0=>by
  obtain⟨ρ,k,E,h,q⟩:=z0;obtain⟨d,h1,h2⟩:=bF h;refine⟨ρ,d,E,h1,λv H' s r _=>⟨k,aTf r ?_ ?_ ?_,q H' s⟩⟩
  .cases d<;>first|exact h2|exact bx h2
  .rintro kvs rfl;exact bx h2
  .rintro kvs rfl;exact bx h2
def rH(ha:PT X a (gT ga)):PT X (.UnaryOp .Not a pos) (gT (SJ ga)):=PT.imp (aN7 ha) λσ H Q z0=>by
  obtain⟨ρ,k,E,h,q⟩:=z0;obtain⟨d,h1,h2⟩:=bF h;cases h2;exact⟨ρ,d,E,h1,λH' s=>q H' s⟩
def XJ{op}(ha:PE X a (gE fa ra)):PE X (.BoolOp op [a] pos) (gE fa ra):=aN8 ha
def XM(h:asB d=.ok k):d=.bl k:=by cases d<;>simp only[asB] at h<;>cases h;rfl
def aO8(h:asI d=.ok k):d=.int k:=by cases d<;>simp only[asI] at h<;>cases h;rfl
theorem aI9(ha:PE X a (gE fa ra)):PE X (.UnaryOp .Not a pos) (gE (aBv fa) af):=PE.imp (aNa ha) λσ H Q z0=>by
  obtain⟨ρ,k,E,h,q⟩:=z0;obtain⟨d,h1,h⟩:=bF h;obtain⟨z,h2,h⟩:=bF h;cases h;cases XM h2;exact⟨ρ,_,E,h1,λv H' s r _=>by cases r.inv;exact⟨_,rfl,(q.imp s id).bl⟩⟩
theorem O9{rest:aa Expr}(ha:PE X a (gE fa ra))(hb:PE X (.BoolOp .And (b::rest) pos) (gE fb rb)):PE X (.BoolOp .And (a::b::rest) pos) (gE (HQ fa fb) rb):=PE.imp (aN9 ha hb) λσ H Q z0=>by
  obtain⟨ρ,k,E,h,q⟩:=z0;obtain⟨d,h1,h⟩:=bF h;obtain⟨z,h2,h3⟩:=bF h;cases XM h2;refine⟨ρ,_,E,h1,λv H' s r _=>?_⟩;cases r.inv;refine⟨_,rfl,?_⟩;cases z with
  |true=>rw[av rfl];rw[av rfl] at h3;exact⟨ρ,k,E.same s,h3,q.imp s id⟩
  |false=>rw[aw 0x2];rw[aw 0x2] at h3;cases h3;exact(q.imp s id).bl
def aG:PA X [] (gA aX af):=PA.imp rF λσ H Q z0=>by obtain⟨ρ,ds,E,h,q⟩:=z0;cases h;exact q [] H (cD.refl H) .nil λ_=>.nil
def aB(he:PE X e (gE fe re))(hes:PA X es (gA f r))(hs:autoParam (zSE X e es) Ω):PA X (e::es) (gA (aD fe f) (re&&r)):=PA.imp (kI he hes hs) λσ H Q z0=>by
  obtain⟨ρ,ds,E,h,q⟩:=z0;obtain⟨x,h1,h⟩:=bF h;obtain⟨xs,h2,h⟩:=bF h;cases h;refine⟨ρ,x,E,h1,λv H1 s1 r1 n1=>⟨ρ,xs,E.same s1,h2,λvs H2 s2 r2 n2=>q _ _ (s1.trans s2) (.cons (r1.same s2) r2) λhf=>?_⟩⟩;obtain⟨f1,f2⟩:=(bn _ _▸hf:re=af/\r=af)
  exact .cons ((n1 f1).same s2) ((n2 f2).mono (cD.new s1))
def cL{x1}(h:PA X es (gA f r)):PE X (.Tuple es x1 pos) (gE (iT f) r):=PE.imp (aNn h) λσ H Q z0=>by
  obtain⟨ρ,d,E,h,q⟩:=z0;obtain⟨xs,h1,h⟩:=bF h;split at h
  .rename_i hl;cases h;refine⟨ρ,xs,E,h1,λvs H1 s1 r1 n1=>⟨?_,λp hp=>?_⟩⟩
   .rw[r1.length];exact du (fq hl) (by rw[e8];decide)
   .have sp:cD H1 (upd H1 p (.tup vs)):=cD.upd hp;exact q _ _ (s1.trans sp) (.tup aM (r1.same sp)) λhf=>.tup aM ((n1 hf).same sp)
  .exact bx h
def iV(h:PA X es (gA f r)):PE X (.List es pos) (gE (BW f) r):=PE.imp (aB6 h) λσ H Q z0=>by
  obtain⟨ρ,d,E,h,q⟩:=z0;obtain⟨xs,h1,h⟩:=bF h;split at h
  .rename_i hl;cases h;refine⟨ρ,xs,E,h1,λvs H1 s1 r1 n1=>⟨?_,λp hp=>?_⟩⟩
   .rw[r1.length];exact du (fq hl) (by rw[e8];decide)
   .have sp:cD H1 (upd H1 p (.lst vs)):=cD.upd hp;exact q _ _ (s1.trans sp) (.lst aM trivial (r1.same sp)) λhf=>.lst aM (s1.free hp) ((n1 hf).same sp)
  .exact bx h
def uA:PE X (.Dict [] [] pos) (gE (bC (.dct [])) af):=PE.imp WY λσ H Q z0=>by
  obtain⟨ρ,d,E,h,q⟩:=z0;cases h;exact λp hp=>q _ _ (cD.upd hp) (.dK aM trivial .nil ic) λ_=>.dK aM hp .nil ic
end
section
variable {a b c e:Expr}
def uB(h:ϒ (n<=lim)=af):n<=bp:=du (fq h) (by rw[e8];decide)
def O_(h:ϒ (n<lim)=af):n<bp:=eP (fq h) (by rw[e8];decide)
def Rep.aO9(r:Rep P H v (.lst ds)):∃a xs,v=.ref a/\Rd H a (.lst xs)/\bN P H xs ds:=by
 cases r with
 |lst e p rr=>exact⟨_,_,rfl,.inl e,rr⟩
def PW.imp(h:PW X e t)(i:∀σ H Q,t' σ H Q->t σ H Q):PW X e t':=λwh Ψ s σ H Q I q=>h wh Ψ s σ H Q I (i σ H Q q)
def UV(ha:PT X a (gT ga)):PW X (.BoolOp .And [a] pos) (gT ga):=aJb ha
def E_(ha:PT X a (gT ga)):PW X (.BoolOp .Or [a] pos) (gT ga):=aN5 ha
def aC7{rest:aa Expr}(ha:PT X a (gT ga))(hb:PW X (.BoolOp .And (b::rest) pos) (gT gb)):PW X (.BoolOp .And (a::b::rest) pos) (gT (aBu ga gb)):=PW.imp (aN6 ha hb) λσ H Q z0=>by
 obtain⟨ρ,k,E,h,q⟩:=z0;obtain⟨z,h1,h3⟩:=bF h;refine⟨ρ,z,E,h1,λH' s=>?_⟩;cases z with
 |true=>rw[av rfl];rw[av rfl] at h3;exact⟨ρ,k,E.same s,h3,λH2 s2=>q H2 (s.trans s2)⟩
 |false=>rw[aw 0x2];rw[aw 0x2] at h3;cases h3;exact q H' s
def IK{rest:aa Expr}(ha:PT X a (gT ga))(hb:PW X (.BoolOp .Or (b::rest) pos) (gT gb)):PW X (.BoolOp .Or (a::b::rest) pos) (gT (bOr ga gb)):=PW.imp (aQn ha hb) λσ H Q z0=>by
 obtain⟨ρ,k,E,h,q⟩:=z0;obtain⟨z,h1,h3⟩:=bF h;refine⟨ρ,z,E,h1,λH' s=>?_⟩;cases z with
 |true=>rw[av rfl];rw[av rfl] at h3;cases h3;exact q H' s
 |false=>rw[aw 0x2];rw[aw 0x2] at h3;exact⟨ρ,k,E.same s,h3,λH2 s2=>q H2 (s.trans s2)⟩
theorem aOa(h:gE (bCh f g fa fb fc) r' σ H Q):aI1 (r2 f r) (r2 g r') (gE fa ra) (gE fb rb) (gE fc rc) σ H Q:=by
 obtain⟨ρ,d,E,h,q⟩:=h;obtain⟨x,h1,h⟩:=bF h;obtain⟨y,h2,h⟩:=bF h;obtain⟨z,h3,h⟩:=bF h;obtain⟨k,h4,h7⟩:=bF h;refine⟨ρ,x,E,h1,λv H1 s1 rp1 _=>⟨ρ,y,E.same s1,h2,λu H2 s2 rp2 _=>⟨x,y,z,rp1.same s2,rp2,h3,λt H3 s3 rp3 _=>?_⟩⟩⟩;have e:=XM h4;subst e;cases rp3.inv;refine⟨k,rfl,?_⟩;have s13:=(s1.trans s2).trans s3;cases k with
 |true=>
  rw[av rfl];rw[av rfl] at h7;obtain⟨w,h5,h6⟩:=bF h7;exact⟨ρ,w,E.same s13,h5,λt H4 s4 rp4 _=>⟨y,w,d,(rp2.same s3).same s4,rp4,h6,q.imp (s13.trans s4) id⟩⟩
 |false=>
  rw[aw 0x2];rw[aw 0x2] at h7;cases h7;exact(q.imp s13 id).bl
def aGg(ho:OpR X (dy o) (r2 f r))(ho':OpR X (dy o') (r2 g r'))(ha:PE X a (gE fa ra))(hb:PE X b (gE fb rb))(hc:PE X c (gE fc rc))
 (hm:lastMarks [o,o'] [b,c]=aj:=by with_unfolding_all rfl):PT X (.Compare a [o,o'] [b,c] pos) (gT (bTB (bCh f g fa fb fc))):=PT.imp (aFw ho ho' ha hb hc hm) λσ H Q z0=>by
  obtain⟨ρ,k,E,h,q⟩:=z0;obtain⟨d,h1,h2⟩:=bF h;refine aOa ⟨ρ,d,E,h1,λv H' s r _=>?_⟩;have e:=XM h2;subst e;cases r.inv;exact⟨_,rfl,q H' s⟩
theorem cG:OpR X (fN .Add) (r2 (bL .add) af):=by
 intro Ψ s σ H x y v u Q I rx ry h;obtain⟨a,b,d,p,q,e,k⟩:=h;cases p with
 |int i=>
  cases q with
  |int j=>cases e;exact aNf Ψ s σ H _ _ v u Q I rx ry ⟨i,j,rfl,rfl,k.int⟩
  |_=>exact bx e
 |str i=>
  cases q with
  |str j=>
   replace e:(if ϒ (i.length+j.length<=lim) then τ (ν (i++j)) else .bad)=.ok d:=e;split at e
   .rename_i hl;cases e;exact ZM Ψ s σ H _ _ v u Q I rx ry ⟨i,j,rfl,rfl,uB hl,k.str⟩
   .exact bx e
  |_=>exact bx e
 |non=>exact bx e
 |bl _=>exact bx e
 |tup _ _=>exact bx e
 |dK _ _ _ _=>exact bx e
 |dT _ _ _ _=>exact bx e
 |@lst a1 xs ds e1 p1 r1=>
  have hR:Rep All H (.ref a1) (.lst ds):=.lst e1 p1 r1;cases b with
  |lst es=>
   replace e:(if ϒ (ds.length+es.length<=lim)&&θ ds&&θ es then τ (ξ (ds++es)) else .bad)=.ok d:=e;split at e
   .rename_i hl;cases e;rw[bn,bn] at hl;obtain⟨⟨hl,hp1⟩,hp2⟩:=hl;obtain⟨l1,xs1,e1',rd1,rr1⟩:=hR.aO9;obtain⟨l2,xs2,rfl,rd2,rr2⟩:=q.aO9;cases e1';cases rx;cases ry;obtain⟨z,its,n,vr1,ee1⟩:=rd1.ok I.hok;obtain⟨z2,its2,n2,vr2,ee2⟩:=rd2.ok I.hok;have hz:xs1.length+xs2.length<=bp:=by rw[rr1.length,rr2.length];exact uB hl
    have t1:=vr1.length;have t2:=vr2.length;refine PySem.P.add_list ee1 ee2 ?_ (by rw[cg,cg];lia);have ea:its.toArray++its2.toArray=(its++its2).toArray:=by simp
    rw[ea];refine⟨.ref _,_,I.aTa (vr1.append vr2) (by rw[cb];lia),rfl,?_⟩;have sp:cD H (upd H s.heap.objs.size (.lst (xs1++xs2))):=cD.upd I.fresh;exact k _ _ sp (.lst aM trivial ((rr1.append rr2).same sp)) λ_=>.lst aM I.fresh (((rr1.bZ hp1).append (rr2.bZ hp2)).same sp)
   .exact bx e
  |_=>exact bx e
 |frz _ _=>exact bx e
def IV(h:OpR X f (rI C g))
 (hi:∀i j d,op (.int i) (.int j)=.ok d->C i j/\∃k,d=.int k/\g i j=.int k)(hn:∀a b d,op a b=.ok d->(∃i,a=.int i)/\∃j,b=.int j):OpR X f (r2 op af):=by
 rintro Ψ s σ H x y v u Q I rx ry ⟨a,b,d,p,q,e,k⟩;obtain⟨⟨i,rfl⟩,⟨j,rfl⟩⟩:=hn a b d e;cases p.inv;cases q.inv;obtain⟨hc,m,rfl,hm⟩:=hi i j d e;exact h Ψ s σ H _ _ v u Q I rx ry ⟨i,j,rfl,rfl,hc,by rw[hm];exact k.int⟩
def wX(ho:o≠.add){a b d:D}(e:bL o a b=.ok d):(∃i,a=.int i)/\∃j,b=.int j:=by
 cases a with
 |int i=>
  cases b with
  |int j=>exact⟨⟨i,rfl⟩,j,rfl⟩
  |_=>cases o<;>first|exact bx e|exact bg rfl ho
 |_=>cases o<;>first|exact bx e|exact bg rfl ho
def rJ:OpR X (fN .Mult) (r2 (bL .mul) af):=by
 refine IV aNg (λi j d e=>?_) λa b d e=>wX 0x4 e
 .replace e:(if lX i||lX j then τ (δ (i*j)) else .bad)=.ok d:=e;split at e
  .rename_i hl;cases e;refine⟨?_,_,rfl,rfl⟩;simp only[lX,jl,bn,em] at hl;exact hl
  .exact bx e
def fB:OpR X (fN .FloorDiv) (r2 (bL .fdiv) af):=by
 refine IV aJe (λi j d e=>?_) λa b d e=>wX 0x4 e
 .replace e:(if ϒ (0<j)&&ϒ (j<1073741824) then τ (δ (i / j)) else .bad)=.ok d:=e;split at e
  .rename_i hl;cases e;refine⟨?_,_,rfl,rfl⟩;simp only[bn,em] at hl;exact hl
  .exact bx e
def d8:OpR X (fN .Mod) (r2 (bL .mod) af):=by
 refine IV aNh (λi j d e=>?_) λa b d e=>wX 0x4 e
 .replace e:(if ϒ (0<j) then τ (δ (i % j)) else .bad)=.ok d:=e;split at e
  .rename_i hl;cases e;refine⟨?_,_,rfl,rfl⟩;simp only[bn,em] at hl;exact hl
  .exact bx e
def aIa:OpR X (fN .Pow) (r2 (bL .pow) af):=by
 refine IV aNi (λi j d e=>?_) λa b d e=>wX 0x4 e
 .replace e:(if ϒ (0<=j)&&ϒ (j<=1000000)&&ϒ (i.natAbs<2 ^ 64) then τ (δ (i ^ j.toNat)) else .bad)=.ok d:=e;split at e
  .rename_i hl;cases e;refine⟨?_,_,rfl,rfl⟩;simp only[bn,em] at hl;exact⟨hl.1.1,hl.1.2,hl.2⟩
  .exact bx e
def aOb:UnR X (oI .USub) (r1 aR8 af):=by
 rintro Ψ s σ H x v Q I rx ⟨a,d,p,e,k⟩;cases a<;>try exact bx e
 cases e;cases p.inv;exact aNj Ψ s σ H _ v Q I rx ⟨_,rfl,k.int⟩
theorem yL(hK:KFrag.K=X.K)(hu:X.A.units+20<bE):OpR X (dy .Eq) (r2 (dC .eq) af):=by
 rintro Ψ s σ H x y v u Q I rx ry ⟨a,b,d,p,q,e,k⟩;replace e:(if a.fD aO&&b.fD aO then τ (π (eqD a b)) else .bad)=.ok d:=e;split at e
 .rename_i hl;cases e;rw[bn] at hl;exact(O7 hK I aO X.A (by have:aO=12:=rfl;lia) hl.1 hl.2 p q rx ry).1 X.prog X.w X.xe _ ⟨.bl _,H,I,rfl,k.bl⟩
 .exact bx e
def BX(hK:KFrag.K=X.K)(hu:X.A.units+20<bE):OpR X (dy .NotEq) (r2 (dC .ne) af):=by
 rintro Ψ s σ H x y v u Q I rx ry ⟨a,b,d,p,q,e,k⟩;replace e:(if a.fD aO&&b.fD aO then τ (π (!eqD a b)) else .bad)=.ok d:=e;split at e
 .rename_i hl;cases e;rw[bn] at hl;exact(O7 hK I aO X.A (by have:aO=12:=rfl;lia) hl.1 hl.2 p q rx ry).2.1 X.prog X.w X.xe _ ⟨.bl _,H,I,rfl,k.bl⟩
 .exact bx e
def aC8(hK:KFrag.K=X.K)(o:gZ)(hu:X.A.units+20<bE):OpR X (dy o.op) (r2 (dC (.ord o)) af):=by
 rintro Ψ s σ H x y v u Q I rx ry ⟨a,b,d,p,q,e,k⟩;replace e:(if a.fD aO&&b.fD aO then (match iR o a b with|some k=>τ (π k)|none=>.bad) else .bad)=.ok d:=e;split at e
 .rename_i hl;rw[bn] at hl;split at e
  .rename_i m hm;cases e;have:=UL hK I o aO X.A (by have:aO=12:=rfl;lia) hl.1 hl.2 p q rx ry hm X.prog X.w X.xe _ (show EP X Ψ σ Q (.bool m) s from ⟨.bl _,H,I,rfl,k.bl⟩);cases o<;>exact this
  .exact bx e
 .exact bx e
def aA1(hK:KFrag.K=X.K)(hu:X.A.units+20<bE):OpR X (dy .Lt) (r2 (dC (.ord .lt)) af):=aC8 hK .lt hu
def aRc(hK:KFrag.K=X.K)(hu:X.A.units+20<bE):OpR X (dy .LtE) (r2 (dC (.ord .le)) af):=aC8 hK .le hu
def aC9(hK:KFrag.K=X.K)(hu:X.A.units+20<bE):OpR X (dy .Gt) (r2 (dC (.ord .gt)) af):=aC8 hK .gt hu
def aCa:OpR X (dy .IsNot) (r2 (dC .notN) af):=by
 rintro Ψ s σ H x y v u Q I rx ry ⟨a,b,d,p,q,e,k⟩;have hb:b=.non:=by
  cases b with
  |non=>rfl
  |_=>cases a<;>exact bx e
 subst hb;cases q.inv;refine aJf Ψ s σ H x .non v u Q I rx ry ⟨rfl,?_⟩;cases p<;>cases e<;>exact k.bl
end
end
variable [KFrag]
def PB(k q:Key):eqD (kD k) (kD q)=ϒ (k=q):=by
 cases k<;>cases q<;>simp[kD,aNz,aO0,aO1,aO2,Bool.beq_eq_decide_eq]
def aIb:∀(k q:aa Key),nT (k.map kD) (q.map kD)=ϒ (k=q)
 |[],[]=>by simp[nT]
 |[],_::_=>by simp[nT]
 |_::_,[]=>by simp[nT]
 |a::k,b::q=>by
  rw[bj,bj,nT,PB,aIb k q];by_cases h:a=b<;>by_cases h':k=q<;>simp[h,h']
def aK6(k q:aa Key):eqD (.tup (k.map kD)) (.tup (q.map kD))=ϒ (k=q):=by rw[aO3,aIb]
def aA2:∀{kvs:aa (Key×V)}{ds:aa (D×D)},lZ P H kvs ds->(∃v d,tK kvs k=ae v/\bB ds (kD k)=ae d/\Rep P H v d)\/(tK kvs k=ao/\bB ds (kD k)=ao)
 |_,_,.nil=>.inr ⟨rfl,rfl⟩
 |_,_,.cons (k:=k') r t=>by
  by_cases h:k'=k
  .subst h;exact .inl ⟨_,_,tR rfl,by rw[bB,PB,av 0x2],r⟩
  .rw[bB,PB,aw (by simpa using h),tU h];exact aA2 t
def aK7:∀{kvs:aa (aa Key×V)}{ds:aa (D×D)},uX P H kvs ds->(∃v d,tK kvs k=ae v/\bB ds (.tup (k.map kD))=ae d/\Rep P H v d)\/(tK kvs k=ao/\bB ds (.tup (k.map kD))=ao)
 |_,_,.nil=>.inr ⟨rfl,rfl⟩
 |_,_,.cons (k:=k') r t=>by
  by_cases h:k'=k
  .subst h;exact .inl ⟨_,_,tR rfl,by rw[bB,aK6,av 0x2],r⟩
  .rw[bB,aK6,aw (by simpa using h),tU h];exact aK7 t
def IW(h:fY d=af)(r:Rep All H v d):∃k,v=kV k/\d=kD k:=by
 cases r<;>simp[fY] at h
 .exact⟨.inl _,rfl,rfl⟩
 .exact⟨.inr _,rfl,rfl⟩
def flat_keys:∀{vs:aa V}{ds:aa D},ds.all fY=af->bN All H vs ds->∃ks:aa Key,vs=ks.map kV/\ds=ks.map kD
 |_,_,_,.nil=>⟨[],rfl,rfl⟩
 |_,_,h,.cons r t=>by
  rw[gX,bn] at h;obtain⟨k,rfl,rfl⟩:=IW h.1 r;obtain⟨ks,rfl,rfl⟩:=flat_keys h.2 t;exact⟨k::ks,rfl,rfl⟩
def l_(h:keyOk k=af)(r:Rep All H y k):(∃q,y=kV q/\k=kD q)\/∃(b:aq)(ks:aa Key),y=.ref b/\H b=ae (.tup (ks.map kV))/\k=.tup (ks.map kD):=by
 cases k<;>simp[keyOk] at h
 .exact .inl (IW rfl r)
 .exact .inl (IW rfl r)
 .obtain⟨a,xs,rfl,e,rr⟩:=r.gM;obtain⟨ks,rfl,rfl⟩:=flat_keys (dw.mpr h) rr;exact .inr ⟨a,ks,rfl,e,rfl⟩
def qR(k:Key):isTup (kD k)=aj:=by cases k<;>rfl
section
variable {a:aq}
def I_(e:H a=ae o):upd (upd H a o') a o=H:=by
 rw[S6]
 funext b
 by_cases h:b=a
 .subst h;rw[aM,e]
 .rw[bA h]
def qT(I:Inv X Ψ σ H s)(e:H a=ae (.dK [])):Inv X Ψ σ (upd H a (.dT [])) s:=by
 obtain⟨z,hd,vs,rel,o,es,ep,h1,h2,h3,h4,h5,h6⟩:=ZV I.hok e;cases rel;refine I.write (by rw[e];trivial) (.inl rfl) (λ_ _ _ q=>q) ⟨o,h1⟩ ?_;refine⟨fo _,hd,[],.nil,o,es,ep,h1,h2,h3,?_,ic⟩;cases h5':es.toList with
 |nil=>rfl
 |cons _ _=>rw[h5'] at h5;cases h5
def qU(I:Inv X Ψ σ H s)(e:H a=ae (.dT [])):Inv X Ψ σ (upd H a (.dK [])) s:=by
 obtain⟨z,hd,vs,rel,o,es,ep,h1,h2,h3,h4,h5,h6⟩:=aG1 I.hok e;cases rel;refine I.write (by rw[e];trivial) (.inl rfl) (λ_ _ _ q=>q) ⟨o,h1⟩ ?_;have h0:es.toList=[]:=h4;refine⟨fo _,hd,[],.nil,o,es,ep,h1,h2,h3,?_,?_,ic⟩
 .intro x hx;have:x∈es.toList:=by simpa using hx
  rw[h0] at this;cases this
 .rw[h0];exact .nil
def XN:∀{kvs:aa (Key×V)}{ds:aa (D×D)},lZ P H kvs ds->∀p∈ds,isTup p.1=aj
 |_,_,.nil,_,h=>by cases h
 |_,_,.cons r t,p,h=>by
  rcases bq.mp h with rfl|h
  .exact qR _
  .exact XN t p h
def XQ:∀{kvs:aa (aa Key×V)}{ds:aa (D×D)},uX P H kvs ds->∀p∈ds,isTup p.1=af
 |_,_,.nil,_,h=>by cases h
 |_,_,.cons r t,p,h=>by
  rcases bq.mp h with rfl|h
  .rfl
  .exact XQ t p h
def aK8(I:Inv X Ψ σ H s)(rd:Rep All H x (.dct ds))(rk:Rep All H y k)(hk:rC ds k=af) :
  ∃H1 a o,x=.ref a/\Inv X Ψ σ H1 s/\(∀s',Inv X Ψ σ H1 s'->Inv X Ψ σ H s')/\aAr H1 a y o/\((o=ao/\bB ds k=ao)\/∃v d,o=ae v/\bB ds k=ae d/\Rep All H v d):=by
 unfold rC at hk;rw[bn] at hk;obtain⟨h1,h2⟩:=hk;cases rd with
 |@dK a kvs ds e _ r n=>
  rcases l_ h1 rk with ⟨q,rfl,rfl⟩|⟨b,ks,rfl,eb,rfl⟩
  .refine⟨H,a,_,rfl,I,λ_ h=>h,.k e,?_⟩;rcases aA2 r with ⟨v,d,g1,g2,g3⟩|⟨g1,g2⟩
   .exact .inr ⟨v,d,g1,g2,g3⟩
   .exact .inl ⟨g1,g2⟩
  .cases r with
   |nil=>
    have e2:=I_ (o':=.dT []) e;refine⟨upd H a (.dT []),a,ao,rfl,qT I e,λs' I'=>?_,.t aM (by rw[bA (aJ7 eb e 0x7)];exact eb),.inl ⟨rfl,rfl⟩⟩;have:=qU I' aM;rwa [e2] at this
   |cons r t=>
    rw[gX,qR] at h2;simp[isTup] at h2
 |@dT a kvs ds e _ r n=>
  rcases l_ h1 rk with ⟨q,rfl,rfl⟩|⟨b,ks,rfl,eb,rfl⟩
  .cases r with
   |nil=>
    have e2:=I_ (o':=.dK []) e;refine⟨upd H a (.dK []),a,ao,rfl,qU I e,λs' I'=>?_,.k (k:=q) aM,.inl ⟨rfl,rfl⟩⟩;have:=qT I' aM;rwa [e2] at this
   |cons r t=>
    rw[gX,qR] at h2;simp[isTup] at h2
  .refine⟨H,a,_,rfl,I,λ_ h=>h,.t e eb,?_⟩;rcases aK7 (k:=ks) r with ⟨v,d,g1,g2,g3⟩|⟨g1,g2⟩
   .exact .inr ⟨v,d,g1,g2,g3⟩
   .exact .inl ⟨g1,g2⟩
def aGh(rd:Rep All H x (.dct ds))(hk:keyOk k=af)(h:bB ds k=ae d):rC ds k=af:=by
 have one:∀{ds:aa (D×D)},bB ds k=ae d->∃p∈ds,eqD p.1 k=af:=by
  intro ds;induction ds with
  |nil=>intro h;cases h
  |cons p ds ih=>
   intro h;obtain⟨p1,p2⟩:=p;rw[bB] at h;by_cases hq:eqD p1 k=af
   .exact⟨_,bw ..,hq⟩
   .rw[aw hq] at h;obtain⟨p,hp,e⟩:=ih h;exact⟨p,bu _ hp,e⟩
 obtain⟨p,hp,he⟩:=one h;unfold rC;rw[hk,oe,dw];intro q hq;have same:isTup p.1=isTup k:=by
  obtain⟨p1,p2⟩:=p;cases k with
  |int _=>cases p1<;>first|rfl|exact fx0 he
  |str _=>cases p1<;>first|rfl|exact fx0 he
  |tup _=>cases p1<;>first|rfl|exact fx0 he
  |_=>exact fx0 hk
 cases rd with
 |dK e _ r n=>rw[XN r q hq,<-same,XN r p hp];rfl
 |dT e _ r n=>rw[XQ r q hq,<-same,XQ r p hp];rfl
end
section
variable {X:Cx} {a b c e:Expr} {pos:de} {fa fb fe:FE} {ra rb re:ax}
def SN(H:Hp)(u:ap):D:=by
 classical
 exact if h:∃d,d.fD aO=af/\∃v,RelV v u/\Rep All H v d then AF h else .non
def aCb(hK:KFrag.K=X.K)(I:Inv X Ψ σ H s)(hq:d.fD aO=af)(rv:RelV v u)(r:Rep All H v d):SN H u=d:=by
 unfold SN;have h:∃d,d.fD aO=af/\∃v,RelV v u/\Rep All H v d:=⟨d,hq,v,rv,r⟩
 rw[l8 h];obtain⟨h2,v',rv',r'⟩:=AG h;have:=rv'.inj rv;subst this;exact Rep.inj I hK aO h2 hq r' r
def yM(hK:KFrag.K=X.K)(I:Inv X Ψ σ H s){a:D}:∀{xs:aa V}{ds:aa D}{its:aa ap},μ aO ds=af->bN All H xs ds->Vals xs its->(its.any λu=>eqD (SN H u) a)=ds.any λy=>eqD y a
 |_,_,_,_,.nil,.nil=>rfl
 |_,_,_,h,.cons r t,.cons v vt=>by
  rw[μ,bn] at h;rw[kK,kK,aCb hK I h.1 v r,yM hK I h.2 t vt]
theorem JB(hK:KFrag.K=X.K)(I:Inv X Ψ σ H s)(hu:X.A.units+20<bE){a:D}{v:ap}(ha:a.fD aO=af)(rx:Rep All H x a)(rv:RelV x v)
 {xs:aa V}{ds:aa D}{its:aa ap}(h:μ aO ds=af)(r:bN All H xs ds)(vr:Vals xs its)(u:ap)(hm:u∈its):EqAt X.A.in1 s u v (eqD (SN H u) a):=by
 obtain⟨j,hj,e⟩:=nL hm;have hj':j<ds.length:=by rw[<-r.length,vr.length];exact hj
 obtain⟨w,h1,h2⟩:=r.get (i:=j) (d:=ds[j]) (by simp[hj']);obtain⟨u',h3,h4⟩:=vr.get h1;rw[eh hj,e] at h3;cases h3;have hd:ds[j].fD aO=af:=by
  have:=jH h hj';rwa [eJ,eh hj'] at this
 rw[aCb hK I hd h4 h2];exact(O7 hK I aO X.A.in1 (by show X.A.units+1+12<bE;lia) hd ha h2 rx h4 rv).2.2
theorem aRd(hK:KFrag.K=X.K)(hu:X.A.units+20<bE):OpR X (dy .In) (r2 (dC .isin) af):=by
 rintro Ψ s σ H x y v u Q I rx ry ⟨a,b,d,p,q,e,k⟩;cases b with
 |tup ys=>
  replace e:(if a.fD aO&&μ aO ys then τ (π (ys.any λy=>eqD y a)) else .bad)=.ok d:=e;split at e
  .rename_i hl;cases e;rw[bn] at hl;obtain⟨l,xs,rfl,ee,rr⟩:=q.gM;cases ry;obtain⟨its,vr,pl⟩:=gR I ee;refine in_tupleAt (λu=>eqD (SN H u) a) pl (λw hw=>JB hK I hu hl.1 p rx hl.2 rr vr w (by simpa using hw)) ⟨.bl _,H,I,rfl,?_⟩;rw[show its.toArray.any (λu=>eqD (SN H u) a)=its.any (λu=>eqD (SN H u) a) by simp,yM hK I hl.2 rr vr];exact k.bl
  .cases e
 |lst ys=>
  replace e:(if a.fD aO&&μ aO ys then τ (π (ys.any λy=>eqD y a)) else .bad)=.ok d:=e;split at e
  .rename_i hl;cases e;rw[bn] at hl;obtain⟨l,xs,rfl,ee,rr⟩:=q.jX;cases ry;obtain⟨its,vr,pl⟩:=d7 I ee;refine in_listAt (λu=>eqD (SN H u) a) pl (λw hw=>JB hK I hu hl.1 p rx hl.2 rr vr w (by simpa using hw)) ⟨.bl _,H,I,rfl,?_⟩;rw[show its.toArray.any (λu=>eqD (SN H u) a)=its.any (λu=>eqD (SN H u) a) by simp,yM hK I hl.2 rr vr];exact k.bl
  .cases e
 |dct kvs=>
  replace e:(if rC kvs a then τ (π ((bB kvs a).isSome)) else .bad)=.ok d:=e;split at e
  .rename_i hl;cases e;obtain⟨H1,a1,o,rfl,I1,bk,g,hc⟩:=aK8 I q p hl;cases ry;refine aTc 0x1 I1 g rx λs' I'=>⟨.bl _,H,bk s' I',rfl,?_⟩
   rcases hc with ⟨rfl,h2⟩|⟨w,dd,rfl,h2,_⟩
   .rw[h2] at k;exact k.bl
   .rw[h2] at k;exact k.bl
  .cases e
 |_=>exact bx e
theorem wY(hK:KFrag.K=X.K)(hu:X.A.units+20<bE):OpR X (dy .NotIn) (r2 (dC .rE) af):=by
 rintro Ψ s σ H x y v u Q I rx ry ⟨a,b,d,p,q,e,k⟩;cases b with
 |tup ys=>
  replace e:(if a.fD aO&&μ aO ys then τ (π (!(ys.any λy=>eqD y a))) else .bad)=.ok d:=e;split at e
  .rename_i hl;cases e;rw[bn] at hl;obtain⟨l,xs,rfl,ee,rr⟩:=q.gM;cases ry;obtain⟨its,vr,pl⟩:=gR I ee;refine notIn_tupleAt (λu=>eqD (SN H u) a) pl (λw hw=>JB hK I hu hl.1 p rx hl.2 rr vr w (by simpa using hw)) ⟨.bl _,H,I,rfl,?_⟩;rw[show its.toArray.any (λu=>eqD (SN H u) a)=its.any (λu=>eqD (SN H u) a) by simp,yM hK I hl.2 rr vr];exact k.bl
  .cases e
 |lst ys=>
  replace e:(if a.fD aO&&μ aO ys then τ (π (!(ys.any λy=>eqD y a))) else .bad)=.ok d:=e;split at e
  .rename_i hl;cases e;rw[bn] at hl;obtain⟨l,xs,rfl,ee,rr⟩:=q.jX;cases ry;obtain⟨its,vr,pl⟩:=d7 I ee;refine notIn_listAt (λu=>eqD (SN H u) a) pl (λw hw=>JB hK I hu hl.1 p rx hl.2 rr vr w (by simpa using hw)) ⟨.bl _,H,I,rfl,?_⟩;rw[show its.toArray.any (λu=>eqD (SN H u) a)=its.any (λu=>eqD (SN H u) a) by simp,yM hK I hl.2 rr vr];exact k.bl
  .cases e
 |dct kvs=>
  replace e:(if rC kvs a then τ (π (!((bB kvs a).isSome))) else .bad)=.ok d:=e;split at e
  .rename_i hl;cases e;obtain⟨H1,a1,o,rfl,I1,bk,g,hc⟩:=aK8 I q p hl;cases ry;refine aJs 0x1 I1 g rx λs' I'=>⟨.bl _,H,bk s' I',rfl,?_⟩
   rcases hc with ⟨rfl,h2⟩|⟨w,dd,rfl,h2,_⟩
   .rw[h2] at k;exact k.bl
   .rw[h2] at k;exact k.bl
  .cases e
 |_=>exact bx e
def aIc(xs:aa α)(i:ag):L2.atI xs i=(ixD xs.length i).bind λj=>xs[j]?:=rfl
def bN.atI(r:bN P H xs ds)(h:((ixD ds.length i).bind λj=>ds[j]?)=ae d):∃v,L2.atI xs i=ae v/\Rep P H v d:=by
 rw[aIc,r.length];cases hi:ixD ds.length i with
 |none=>rw[hi] at h;cases h
 |some j=>
  rw[hi] at h;obtain⟨v,h1,h2⟩:=r.get h;exact⟨v,h1,h2⟩
def yN{a:aq}(hu:X.A.units+20<bE)(I:Inv X Ψ σ H s)(g:aAr H a y (ae v'))(ry:RelV y u)
 (hs:oT slice aj (.ref a) u=uv [.ref a,u] (kG (.ref a) u))(bk:∀s',Inv X Ψ σ H s'->Inv X Ψ σ H' s')(q:Q v' H') :
  ϑ (az X.prog X.w) X.A (oS value slice (.ref a) u) (EP X Ψ σ Q) X.xe s:=by
 have hT:=S_ I g;unfold oS;refine aE ?_;rw[getitemInPython_of_ne hT.not_modules];refine aE (wpAny_specialOf hT PySem.F.slot_dict_getitem.lookup ?_);have fin:ϑ (az X.prog X.w) X.A (oT slice aj (.ref a) u) (λr s₃=>ϑ (az X.prog X.w) X.A (letTemporaryGo value (.ref a) r >>= λ_=>pure r) (EP X Ψ σ Q) X.xe s₃) X.xe s:=by
  rw[hs];exact wpAny_operating (aBf 0x1 I g ry λw' s3 I3 rw'=>aE (wpAny_letTemporaryGo (bm ⟨v',H',bk s3 I3,rw',q⟩)))
 first
  |exact bm (aE fin)
  |exact aE (bm (aE fin))
  |exact aE fin
theorem XR:∀{ds:aa (D×D)},keyOk k=af->bB ds k=ae d->∃p∈ds,isTup p.1=isTup k
 |[],_,h=>by cases h
 | (p1,p2)::ds,hk,h=>by
  rw[bB] at h;by_cases hq:eqD p1 k=af
  .refine⟨_,bw ..,?_⟩;cases k with
   |int _=>cases p1<;>first|rfl|exact fx0 hq
   |str _=>cases p1<;>first|rfl|exact fx0 hq
   |tup _=>cases p1<;>first|rfl|exact fx0 hq
   |_=>exact fx0 hk
  .rw[aw hq] at h;obtain⟨p,hp,e⟩:=XR hk h;exact⟨p,bu _ hp,e⟩
theorem aRf(hK:KFrag.K=X.K)(hu:X.A.units+20<bE):IxR X (r2 getD aj):=by
 rintro value slice Ψ s σ H x y v u Q I rx ry ⟨a,b,d,p,q,e,k⟩ hs;cases a with
 |tup ys=>
  cases b<;>try exact bx e
  have e':=Res.mW e;obtain⟨l,xs,rfl,ee,rr⟩:=p.gM;cases q;obtain⟨w,h1,h2⟩:=rr.atI e';exact aNr value slice Ψ s σ H _ _ v u Q I rx ry ⟨l,xs,_,w,rfl,rfl,.of ee,h1,k.self h2 λz=>by cases z⟩ hs
 |lst ys=>
  cases b<;>try exact bx e
  have e':=Res.mW e;obtain⟨l,xs,rfl,ee,rr⟩:=p.jX;cases q;obtain⟨w,h1,h2⟩:=rr.atI e';exact G4 value slice Ψ s σ H _ _ v u Q I rx ry ⟨l,xs,_,w,rfl,rfl,ee,h1,k.self h2 λz=>by cases z⟩ hs
 |scr ys=>
  cases b<;>try exact bx e
  have e':=Res.mW e;obtain⟨_,_,rfl,ee,rr⟩:=p.inv;cases q;obtain⟨w,h1,h2⟩:=rr.atI e';exact G4 value slice Ψ s σ H _ _ v u Q I rx ry ⟨_,_,_,w,rfl,rfl,ee.sq hK,h1,k.self h2 λz=>by cases z⟩ hs
 |str z=>
  cases b<;>try exact bx e
  rename_i i;replace e:(if ϒ (z.length<=lim) then ι (((ixD z.cps.toList.length i).bind λj=>z.cps.toList[j]?).map λc=>ν ⟨#[c]⟩) else .bad)=.ok d:=e;split at e
  .rename_i hl;have e':=Res.mW e;obtain⟨cc,h1,h2⟩:=lS.mp e';subst h2;cases p;cases q;exact aNs value slice Ψ s σ H _ _ v u Q I rx ry ⟨z,_,cc,rfl,rfl,uB hl,h1,k.str⟩ hs
  .cases e
 |dct kvs=>
  have e':keyOk b=af/\bB kvs b=ae d:=by
   replace e:(if keyOk b then ι (bB kvs b) else .bad)=.ok d:=by cases b<;>exact e
   split at e
   .rename_i hl;exact⟨hl,Res.mW e⟩
   .exact bx e
  obtain⟨H1,a1,o,rfl,I1,bk,g,hc⟩:=aK8 I p q (aGh p e'.1 e'.2);cases rx;rcases hc with ⟨rfl,h2⟩|⟨w,dd,rfl,h2,h3⟩
  .rw[h2] at e';cases e'.2
  .rw[h2] at e';cases e'.2;exact yN hu I1 g ry hs bk (k.self h3 λz=>by cases z)
 |_=>cases b<;>exact bx e
def bH{X:Cx}{a b:Expr}{pos:de}{fa fb:FE}{ra rb:ax}(ha:PE X a (gE fa ra))(hb:PE X b (gE fb rb))(hK:KFrag.K=X.K:=by assumption)(hu:X.A.units+20<bE:=by assumption)(hs:uT b:=by exact λ_ _=>rfl):PE X (.Subscript a b pos) (gE (b2 getD fa fb) aj):=aRb (aRf hK hu) ha hb hs
noncomputable def gO(f:aa D->Res (aS ag)):TO:=λσ H Q=>∃ρ i,ER H σ ρ/\f ρ=.ok i/\∀H',cD H H'->Q i H'
def PO.imp{X:Cx}{e:aS PySem.Expr}{t t':TO}(h:PO X e t)(i:∀σ H Q,t' σ H Q->t σ H Q):PO X e t':=λΨ s σ H Q I q=>h Ψ s σ H Q I (i σ H Q q)
def aK9:PO X ao (gO aO4):=PO.imp aJl λσ H Q z0=>by obtain⟨ρ,i,E,h,q⟩:=z0;cases h;exact q H (cD.refl H)
def yO(ha:PE X a (gE fa ra)):PO X (ae a) (gO (O3 fa)):=PO.imp (aJm ha) λσ H Q z0=>by
 obtain⟨ρ,i,E,h,q⟩:=z0;obtain⟨x,h1,h⟩:=bF h;obtain⟨j,h2,h⟩:=bF h;cases h;have e:=aO8 h2;subst e;exact⟨ρ,_,E,h1,λv H' s r _=>by cases r;exact⟨j,rfl,q H' s⟩⟩
theorem aIe(n d:ai)(o:aS ag):HT.sIx n d o=W4 n d o:=by
 cases o with
 |none=>rfl
 |some v=>
  show(if v<0 then (v+(n:ag)).toNat else min v.toNat n)=(if v<0 then (max (v+(n:ag)) 0).toNat else (min v (n:ag)).toNat);split<;>lia
def bN.cut(r:bN P H xs ds)(lo hi:aS ag):bN P H (aG0 xs lo hi) (cutD ds lo hi):=by
 unfold aG0 cutD;rw[r.length];simp only[aIe];exact(r.drop _).take _
def mC:θ ds=af↔∀d∈ds,d.pure=af:=by
 induction ds with
 |nil=>simp[θ]
 |cons d ds ih=>rw[θ,bn,ih];simp
def rSl:V->aS ag->aS ag->Hp->VK->Prop:=λx lo hi H Q=>∃a d,Rep All H x a/\aFp a lo hi=.ok d/\kR H d af Q
def aRg(hK:KFrag.K=X.K):SlR X rSl:=by
 rintro Ψ s σ H x v vl vu lo hi sl Q I rx hs pl pu ⟨a,d,p,e,k⟩;cases a<;>simp only[aFp] at e<;>(try (cases e;done))
 .split at e
  .cases e
  .rename_i hw;cases e;obtain⟨l,xs,rfl,ee,rr⟩:=p.gM;refine aNq Ψ s σ H _ v vl vu lo hi sl Q I rx hs pl pu ⟨l,xs,rfl,.of ee,?_,λp hp=>?_⟩
   .simp only[aIe,rr.length];simp only[jk,jl,gS,Bool.not_eq_false',em] at hw;exact hw.2
   .have sp:cD H (upd H p (.tup (aG0 xs lo hi))):=cD.upd hp;have hp2:θ ‹aa D›=af:=by
     simp only[jl,gS,jk] at hw;simpa using hw.1
    exact k _ _ sp (.tup aM ((rr.cut lo hi).same sp)) λz=>.tup aM (((rr.bZ hp2).cut lo hi).same sp)
 .split at e
  .rename_i hl;cases e;obtain⟨l,xs,rfl,ee,rr⟩:=p.jX;refine aBa Ψ s σ H _ v vl vu lo hi sl Q I rx hs pl pu ⟨l,xs,rfl,ee,λp hp=>?_⟩;have sp:cD H (upd H p (.lst (aG0 xs lo hi))):=cD.upd hp;exact k _ _ sp (.lst aM trivial ((rr.cut lo hi).same sp)) λz=>.lst aM hp (((rr.bZ hl).cut lo hi).same sp)
  .cases e
 .split at e
  .rename_i hl;cases e;cases p with
   |@frz l xs ds ee rr=>
    refine aBa Ψ s σ H _ v vl vu lo hi sl Q I rx hs pl pu ⟨l,xs,rfl,ee.sq hK,λp hp=>?_⟩;have sp:cD H (upd H p (.lst (aG0 xs lo hi))):=cD.upd hp;exact k _ _ sp (.lst aM trivial ((rr.cut lo hi).same sp)) λz=>.lst aM hp (((rr.bZ hl).cut lo hi).same sp)
  .cases e
theorem aKa{lo hi:aS Expr}(hK:KFrag.K=X.K)(he:PE X e (gE fe re))(hl:PO X lo (gO fl))(hh:PO X hi (gO fh)):PE X (.Subscript e (.Slice lo hi ao p2) pos) (gE (aI6 fe fl fh) af):=
 PE.imp (aFz (aRg hK) he hl hh) λσ H Q z0=>by
  obtain⟨ρ,d,E,h,q⟩:=z0;obtain⟨x,h1,h⟩:=bF h;obtain⟨l,h2,h⟩:=bF h;obtain⟨u,h3,h⟩:=bF h;exact⟨ρ,x,E,h1,λv H1 s1 r1 _=>⟨ρ,l,E.same s1,h2,λH2 s2=>⟨ρ,u,E.same (s1.trans s2),h3,λH3 s3=>⟨x,d,r1.same (s2.trans s3),h,q.imp ((s1.trans s2).trans s3) id⟩⟩⟩⟩
end
end Mi
namespace PySem.Mm
open PySem
noncomputable def wdL:ax->eM
 |false=>"min.loop"
 |true=>"max.loop"
noncomputable def wdO:ax->ki
 |false=>.Lt
 |true=>.Gt
section
variable {prog:cy} {w:bS} {A:cS} {R:lm->ay->Prop} {I S:aq} {fp wr:aa aq} {n:ai} {P:ai->ap->Prop} {St:ai->br->Prop} {bt:ai->ai->ax} {Gd:ay->Prop} {op:ki}
structure aOc(prog:cy)(w:bS)(A:cS)(op:ki)(P:ai->ap->Prop)(bt:ai->ai->ax)(wr:aa aq)(top:ai)(Gd:ay->Prop):Prop where
 keep:∀s h' tk,Gd s->(∀b o,b∉wr->b<top->s.heap.get? b=ae o->h'.get? b=ae o)->Gd {s with heap:=h',toks:=tk}
 says:∀i j vi vj s Q E,Gd s->P i vi->P j vj->Q (.bool (bt i j)) s->ϑ (az prog w) A (ma op vi vj) Q E s
def aSf(P:ai->ap->Prop)(bt:ai->ai->ax)(n:ai):ai->ba ap->Prop
 |0,a=>a=#[]/\0<n
 |j+1,a=>∃v,a=#[v,v]/\P (dP bt j) v
def touched(J:aOc prog w A op P bt wr S Gd){s:ay}{f:ba ap->ba ap}(g:Gd s):Gd {s with heap:=s.heap.update S (fu f)}:=
 J.keep s _ s.toks g λb o _ hb e=>(ly _ _ (ju hb)).trans e
theorem turn(m:ax)(W:Walks prog w A.in1 I fp wr n P St)(hS:S∉fp)(J:aOc prog w A.in1 (wdO m) P bt wr S Gd):∀(k j:ai)(s:ay)(a:ba ap)(c:ai),j+k=n->St j s.heap->Gd s->aSf P bt n j a->
  s.heap.get? S=ae {cls:=.type "list",dict:=ao,data:=.seq a c,slots:=#[]}->
  (∀v h' tk,P (dP bt (n-1)) v->(∀b o,b∉wr->b≠S->s.heap.get? b=ae o->h'.get? b=ae o)->R (.ok (.ret v)) {s with heap:=h',toks:=tk})->
  codeAny (az prog w) A (.builtin (wdL m) ⟨[.ref I,.none,.ref S],[]⟩) R s:=by
 have off:S∉wr:=λh=>hS (W.sub _ h)
 have still:∀{j:ai}{h:br}{f:ba ap->ba ap},St j h->St j (h.update S (fu f)):=λst=>
  W.frame _ _ _ st λb hb o e=>(ly _ _ λz:S=b=>hS (z▸hb)).trans e
 intro k;induction k with
 |zero=>
  intro j s a c hj st g hb hs fin;have hjn:j=n:=hj;subst hjn;cases j with
  |zero=>exact bg hb.2 (fE 0)
  |succ j=>
   obtain⟨v,rfl,hv⟩:=hb;have last:∀(h':br)(tk:ai),(∀b o,b∉wr->s.heap.get? b=ae o->h'.get? b=ae o)->R (.ok (.ret v)) {s with heap:=h'.update S (fu λ_=>#[]),toks:=tk}:=λh' tk kp=>
    fin v _ tk hv λb o h1 h2 e=>(ly _ _ (Ne.symm h2)).trans (kp b o h1 e)
   cases m
   .show codeAny (az prog w) A (.builtin "min.loop" ⟨[.ref I,.none,.ref S],[]⟩) R s;refine hI wa ?_;rw[io kl];refine aE (m:=mi (.ref S)) (k7 hs rfl ?_);refine aE (jo (m:=f_ (.ref I)) (W.done s _ _ st λh' tk kp=>?_));exact aE (m:=mj S _) (k8 (kp S _ off hs) rfl (aE (km (bm (last h' tk kp)))))
   .show codeAny (az prog w) A (.builtin "max.loop" ⟨[.ref I,.none,.ref S],[]⟩) R s;refine hI wb ?_;rw[io kn];refine aE (m:=mi (.ref S)) (k7 hs rfl ?_);refine aE (jo (m:=f_ (.ref I)) (W.done s _ _ st λh' tk kp=>?_));exact aE (m:=mj S _) (k8 (kp S _ off hs) rfl (aE (km (bm (last h' tk kp)))))
 |succ k ih=>
  intro j s a c hj st g hb hs fin;have hjn:j<n:=by lia
  /- what is left to do behind the list's change,or without one -/
  have on:∀(v:ap)(h':br)(tk:ai),P j v->St (j+1) h'->(∀b o,b∉wr->s.heap.get? b=ae o->h'.get? b=ae o)->(∀(a':ba ap)(c':ai)(h2:br),aSf P bt n (j+1) a'->h2.get? S=ae {cls:=.type "list",dict:=ao,data:=.seq a' c',slots:=#[]}->(h2=h'\/∃f:ba ap->ba ap,h2=h'.update S (fu f))->
    codeAny (az prog w) A (.builtin (wdL m) ⟨[.ref I,.none,.ref S],[]⟩) R {s with heap:=h2,toks:=tk}):=by
   intro v h' tk _ st' kp a' c' h2 hb' hs' hh;have g':Gd {s with heap:=h',toks:=tk}:=J.keep s h' tk g λb o h1 _ e=>kp b o h1 e
   rcases hh with rfl|⟨f,rfl⟩
   .exact ih (j+1) _ a' c' 0x1 st' g' hb' hs' λu h3 t3 hu k3=>fin u h3 t3 hu λb o h1 h2 e=>k3 b o h1 h2 (kp b o h1 e)
   .exact ih (j+1) _ a' c' 0x1 (still st') (touched J g') hb' hs' λu h3 t3 hu k3=>fin u h3 t3 hu λb o h1 h2 e=>k3 b o h1 h2 ((ly _ _ (Ne.symm h2)).trans (kp b o h1 e))
  have nmn:(toString "min" ++ toString ".loop" : eM)="min.loop":=by decide
  have nmx:(toString "max" ++ toString ".loop" : eM)="max.loop":=by decide
  cases j with
  |zero=>
   obtain⟨rfl,_⟩:=hb;cases m
   .show codeAny (az prog w) A (.builtin "min.loop" ⟨[.ref I,.none,.ref S],[]⟩) R s;refine hI wa ?_;rw[io kl];refine aE (m:=mi (.ref S)) (k7 hs rfl ?_);refine aE (jo (m:=f_ (.ref I)) (W.item 0 s _ _ hjn st λv h' tk pv st' kp=>?_));have hs':=kp S _ off hs;refine aE (m:=mj S _) (k8 hs' rfl ?_);rw[nmn];exact bm ⟨hG kl _,on v h' tk pv st' kp #[v,v] _ _ ⟨v,rfl,pv⟩ (mo _ hs' rfl) (.inr ⟨_,rfl⟩)⟩
   .show codeAny (az prog w) A (.builtin "max.loop" ⟨[.ref I,.none,.ref S],[]⟩) R s;refine hI wb ?_;rw[io kn];refine aE (m:=mi (.ref S)) (k7 hs rfl ?_);refine aE (jo (m:=f_ (.ref I)) (W.item 0 s _ _ hjn st λv h' tk pv st' kp=>?_));have hs':=kp S _ off hs;refine aE (m:=mj S _) (k8 hs' rfl ?_);rw[nmx];exact bm ⟨hG kn _,on v h' tk pv st' kp #[v,v] _ _ ⟨v,rfl,pv⟩ (mo _ hs' rfl) (.inr ⟨_,rfl⟩)⟩
  |succ j=>
   obtain⟨u,rfl,hu⟩:=hb;cases m
   .show codeAny (az prog w) A (.builtin "min.loop" ⟨[.ref I,.none,.ref S],[]⟩) R s;refine hI wa ?_;rw[io kl];refine aE (m:=mi (.ref S)) (k7 hs rfl ?_);refine aE (jo (m:=f_ (.ref I)) (W.item (j+1) s _ _ hjn st λv h' tk pv st' kp=>?_));have hs':=kp S _ off hs;refine aE (bm ?_);refine aE (jo (ii (aE (m:=ma .Lt v u) (J.says (j+1) (dP bt j) v u _ _ _ (J.keep s h' tk g λb o h1 _ e=>kp b o h1 e) pv hu ?_))));refine aE (ii (jc (aE (km (bm ?_)))));cases hx:bt (j+1) (dP bt j)
    .rw[aw mT];refine aE (km ?_);rw[nmn];exact bm ⟨hG kl _,on v h' tk pv st' kp _ _ _ ⟨u,rfl,by rw[dP,hx];exact hu⟩ hs' (.inl rfl)⟩
    .rw[av rfl];refine aE (m:=mj S _) (k8 hs' rfl (aE (km ?_)));rw[nmn];exact bm ⟨hG kl _,on v h' tk pv st' kp #[v,v] _ _ ⟨v,rfl,by rw[dP,hx];exact pv⟩ (mo _ hs' rfl) (.inr ⟨_,rfl⟩)⟩
   .show codeAny (az prog w) A (.builtin "max.loop" ⟨[.ref I,.none,.ref S],[]⟩) R s;refine hI wb ?_;rw[io kn];refine aE (m:=mi (.ref S)) (k7 hs rfl ?_);refine aE (jo (m:=f_ (.ref I)) (W.item (j+1) s _ _ hjn st λv h' tk pv st' kp=>?_));have hs':=kp S _ off hs;refine aE (bm ?_);refine aE (jo (ii (aE (m:=ma .Gt v u) (J.says (j+1) (dP bt j) v u _ _ _ (J.keep s h' tk g λb o h1 _ e=>kp b o h1 e) pv hu ?_))));refine aE (ii (jc (aE (km (bm ?_)))));cases hx:bt (j+1) (dP bt j)
    .rw[aw mT];refine aE (km ?_);rw[nmx];exact bm ⟨hG kn _,on v h' tk pv st' kp _ _ _ ⟨u,rfl,by rw[dP,hx];exact hu⟩ hs' (.inl rfl)⟩
    .rw[av rfl];refine aE (m:=mj S _) (k8 hs' rfl (aE (km ?_)));rw[nmx];exact bm ⟨hG kn _,on v h' tk pv st' kp #[v,v] _ _ ⟨v,rfl,by rw[dP,hx];exact pv⟩ (mo _ hs' rfl) (.inr ⟨_,rfl⟩)⟩
end
section
variable {prog:cy} {w:bS} {A:cS} {E:ap->ay->Prop} {s:ay} {Q:ap->ay->Prop}
abbrev Seen(prog:cy)(w:bS)(A:cS)(op:ki)(Q:ap->ay->Prop)(it:ap)(t:ay):Prop:=
 ∃(I:aq)(fp wr:aa aq)(n:ai)(P:ai->ap->Prop)(St:ai->br->Prop)(bt:ai->ai->ax),it=.ref I/\Walks prog w A I fp wr n P St/\St 0 t.heap/\(∀b∈fp,b<t.heap.objs.size)/\0<n/\
  (∃Gd:ay->Prop,Gd t/\(∀s h' tk,Gd s->(∀b o,b∉wr->b<t.heap.objs.size->s.heap.get? b=ae o->h'.get? b=ae o)->Gd {s with heap:=h',toks:=tk})/\
   ∀i j vi vj s Q E,Gd s->P i vi->P j vj->Q (.bool (bt i j)) s->ϑ (az prog w) A (ma op vi vj) Q E s)/\
  ∀v h' tk,P (dP bt (n-1)) v->(∀b o,b∉wr->t.heap.get? b=ae o->h'.get? b=ae o)->Q v {t with heap:=h',toks:=tk}
def begun(m:ax){it:ap}{t:ay}{R:lm->ay->Prop}(hR:∀v s,Q v s->R (.ok (.ret v)) s)(h:Seen prog w A.in1 (wdO m) Q it t) :
  codeAny (az prog w) A (.builtin (wdL m) ⟨[it,.none,.ref t.heap.objs.size],[]⟩) R {t with heap:=t.heap.push {cls:=.type "list",data:=.seq #[]}}:=by
 obtain⟨I,fp,wr,n,P,St,bt,rfl,W,st,hfp,hn,⟨Gd,g,gk,gs⟩,q⟩:=h;have up:∀b o,t.heap.get? b=ae o->(t.heap.push {cls:=.type "list",data:=.seq #[]}).get? b=ae o:=λb o e=>cx _ e
 refine turn m W (λz=>fE _ (hfp _ z)) ⟨gk,gs⟩ n 0 _ #[] _ (AN n) (W.frame _ _ _ st λb _ o e=>up b o e) (gk t _ t.toks g λb o _ _ e=>up b o e) ⟨rfl,hn⟩ (dt _ rfl) λv h' tk hv kp=>?_
 exact hR _ _ (q v h' tk hv λb o h1 e=>kp b o h1 (di (bX e)) (up b o e))
theorem PJ{x:ap}(h:ϑ (az prog w) A.in1 (gL x) (Seen prog w A.in1 .Lt Q) E s):ϑ (az prog w) A (call (.builtin "min") [x]) Q E s:=by
 have nmn:(toString "min" ++ toString ".loop" : eM)="min.loop":=by decide
 refine se AO AQ AR (F.args_min1 _) ?_;refine aE (m:=sg "min" ["key","default"] 0 ⟨[],[]⟩) (mq (a:=[ao,ao]) rfl ?_);refine aE (bm (aE (fj h (λit t ht=>aE (gi ?_)) λ_ _ e=>e)));rw[nmn];exact bm ⟨hG kl _,begun aj (λ_ _ q=>q) ht⟩
theorem PK{x:ap}(h:ϑ (az prog w) A.in1 (gL x) (Seen prog w A.in1 .Gt Q) E s):ϑ (az prog w) A (call (.builtin "max") [x]) Q E s:=by
 have nmx:(toString "max" ++ toString ".loop" : eM)="max.loop":=by decide
 refine se AS AT AU (F.args_max1 _) ?_;refine aE (m:=sg "max" ["key","default"] 0 ⟨[],[]⟩) (mq (a:=[ao,ao]) rfl ?_);refine aE (bm (aE (fj h (λit t ht=>aE (gi ?_)) λ_ _ e=>e)));rw[nmx];exact bm ⟨hG kn _,begun af (λ_ _ q=>q) ht⟩
theorem UW{a b:ap}(h:ϑ (az prog w) A.in1 (gL (.ref s.heap.objs.size)) (Seen prog w A.in1 .Lt Q) E {s with heap:=s.heap.push {cls:=.type "tuple",data:=.seq #[a,b]}}):ϑ (az prog w) A (call (.builtin "min") [a,b]) Q E s:=by
 have nmn:(toString "min" ++ toString ".loop" : eM)="min.loop":=by decide
 refine se AO AQ AR (F.args_min2 _ _) ?_;refine aE (m:=sg "min" ["key","default"] 0 ⟨[],[]⟩) (mq (a:=[ao,ao]) rfl ?_);refine aE (m:=wc [a,b]) (gi (aE (fj h (λit t ht=>aE (gi ?_)) λ_ _ e=>e)));rw[nmn];exact bm ⟨hG kl _,begun aj (λ_ _ q=>q) ht⟩
def U0{a b:ap}(h:ϑ (az prog w) A.in1 (gL (.ref s.heap.objs.size)) (Seen prog w A.in1 .Gt Q) E {s with heap:=s.heap.push {cls:=.type "tuple",data:=.seq #[a,b]}}):ϑ (az prog w) A (call (.builtin "max") [a,b]) Q E s:=by
 have nmx:(toString "max" ++ toString ".loop" : eM)="max.loop":=by decide
 refine se AS AT AU (F.args_max2 _ _) ?_;refine aE (m:=sg "max" ["key","default"] 0 ⟨[],[]⟩) (mq (a:=[ao,ao]) rfl ?_);refine aE (m:=wc [a,b]) (gi (aE (fj h (λit t ht=>aE (gi ?_)) λ_ _ e=>e)));rw[nmx];exact bm ⟨hG kn _,begun af (λ_ _ q=>q) ht⟩
end
end PySem.Mm
namespace Mi
open PySem L2 PySem.SeqAt PySem.Spec PyProof.Rows
variable [KFrag]
theorem PL(o:gZ)(x:D)(xs:aa D):∀k,k<=xs.length->(xs.take k).foldl (λm y=>if (iR o y m).getD aj then y else m) x=(x::xs).getD (dP (btD o (x::xs)) k) .non
 |0,_=>by simp[dP]
 |k+1,h=>by
  have ih:=PL o x xs k 0x1;have hk:k<xs.length:=by lia
  rw[mr hk,wd,ih];have e:(x::xs).getD (k+1) .non=xs[k]:=by simp[hk]
  have hb:btD o (x::xs) (k+1) (dP (btD o (x::xs)) k)=(iR o xs[k] ((x::xs).getD (dP (btD o (x::xs)) k) .non)).getD aj:=by unfold btD;rw[e]
  show(if (iR o xs[k] ((x::xs).getD (dP (btD o (x::xs)) k) .non)).getD aj then xs[k] else (x::xs).getD (dP (btD o (x::xs)) k) .non)=(x::xs).getD (if btD o (x::xs) (k+1) (dP (btD o (x::xs)) k) then k+1 else dP (btD o (x::xs)) k) .non;rw[<-hb];cases btD o (x::xs) (k+1) (dP (btD o (x::xs)) k) with
  |true=>rw[av rfl,av rfl,e]
  |false=>rw[aw 0x2,aw 0x2]
section
variable {s:ay}
def Gds(s:ay)(s':ay):Prop:=∃h' tk,s'={s with heap:=h',toks:=tk}/\∀b o,s.heap.get? b=ae o->h'.get? b=ae o
theorem JC(hK:KFrag.K=X.K)(I:Inv X Ψ σ H s)(hu:X.A.units+20<bE)(r:bN All H xs ds)(vr:Vals xs its)(h:sE o ds=.ok d)(i j:ai)(vi vj:ap)(s':ay)(Q:ap->ay->Prop)(E:ap->ay->Prop)
 (g:Gds s s')(hi:its.toArray[i]?=ae vi)(hj:its.toArray[j]?=ae vj)(q:Q (.bool (btD o ds i j)) s'):ϑ (az X.prog X.w) X.A.in1 (ma o.op vi vj) Q E s':=by
 obtain⟨h',tk,rfl,hk⟩:=g;have I':Inv X Ψ σ H {s with heap:=h',toks:=tk}:=I.kept hk;have hi':its[i]?=ae vi:=by simpa using hi
 have hj':its[j]?=ae vj:=by simpa using hj
 have at_:∀{i:ai}{v:ap},its[i]?=ae v->∃d w,ds.getD i .non=d/\d∈ds/\RelV w v/\Rep All H w d:=by
  intro i v hv;have hlt:i<its.length:=(dz.mp hv).1;have hlt':i<ds.length:=by rw[<-r.length,vr.length];exact hlt
  obtain⟨w,h1,h2⟩:=r.get (i:=i) (d:=ds[i]) (by simp[hlt']);obtain⟨u,h3,h4⟩:=vr.get h1;rw[hv] at h3;cases h3;exact⟨ds[i],w,by simp[hlt'],im _,h4,h2⟩
 obtain⟨d1,w1,e1,m1,v1,r1⟩:=at_ hi';obtain⟨d2,w2,e2,m2,v2,r2⟩:=at_ hj';cases ds with
 |nil=>cases m1
 |cons x xs'=>
  simp only[sE] at h;split at h
  .rename_i hall;have h1:=dw.mp hall d1 m1;have h2:=dw.mp hall d2 m2;rw[bn] at h1 h2;obtain⟨k,hk⟩:=ub.mp (dw.mp h1.2 d2 m2);have:btD o (x::xs') i j=k:=by unfold btD;rw[e1,e2,hk];rfl
   rw[this] at q;exact UL hK I' o aO X.A.in1 (by show X.A.units+1+12<bE;lia) h1.1 h2.1 r1 r2 v1 v2 hk X.prog X.w E Q q
  .exact bx h
theorem U3(r:bN All H xs ds)(vr:Vals xs its)(h:sE o ds=.ok d)(hv:its.toArray[dP (btD o ds) (its.length-1)]?=ae v):∃w,RelV w v/\Rep All H w d:=by
 have hv':its[dP (btD o ds) (its.length-1)]?=ae v:=by simpa using hv
 cases ds with
 |nil=>exact bx h
 |cons x xs'=>
  simp only[sE] at h;split at h
  .cases h;have hl:its.length-1=xs'.length:=by rw[<-vr.length,r.length];simp
   rw[hl] at hv';have fb:=PL o x xs' xs'.length (bi _);rw[si] at fb;have hlt:dP (btD o (x::xs')) xs'.length<its.length:=(dz.mp hv').1;have hlt':dP (btD o (x::xs')) xs'.length<(x::xs').length:=by rw[<-r.length,vr.length];exact hlt
   obtain⟨w,h1,h2⟩:=r.get (i:=dP (btD o (x::xs')) xs'.length) (d:=(x::xs')[dP (btD o (x::xs')) xs'.length]) (by simp[hlt']);obtain⟨u,h3,h4⟩:=vr.get h1;rw[hv'] at h3;cases h3;refine⟨w,h4,?_⟩;rw[fb,eJ,eh hlt'];exact h2
  .exact bx h
def Gds.grow(g:Gds s s'){wq:aa aq}{n:ai}(hw:∀b∈wq,s.heap.objs.size<=b)(hn:s.heap.objs.size<=n)
 (kk:∀b o,b∉wq->b<n->s'.heap.get? b=ae o->h1.get? b=ae o):Gds s {s' with heap:=h1,toks:=tk1}:=by
 obtain⟨h',tk,rfl,hk⟩:=g;refine⟨h1,tk1,rfl,λb o e=>kk b o (λhb=>?_) (eP (bX e) hn) (hk b o e)⟩;exact bg (eP (bX e) (hw b hb)) (fE _)
end
section
def XS(h:sE o ds=.ok d):0<ds.length:=by
 cases ds with
 |nil=>exact bx h
 |cons _ _=>simp
structure Mms(o:gZ)(nm:eM):Prop where
 walk:∀{prog:cy}{w:bS}{A:cS}{Q:ap->ay->Prop}{E:ap->ay->Prop}{s:ay}{x:ap},ϑ (az prog w) A.in1 (gL x) (Mm.Seen prog w A.in1 o.op Q) E s->ϑ (az prog w) A (call (.builtin nm) [x]) Q E s
 two:∀{prog:cy}{w:bS}{A:cS}{Q:ap->ay->Prop}{E:ap->ay->Prop}{s:ay}{a b:ap},ϑ (az prog w) A.in1 (gL (.ref s.heap.objs.size)) (Mm.Seen prog w A.in1 o.op Q) E {s with heap:=s.heap.push {cls:=.type "tuple",data:=.seq #[a,b]}}->ϑ (az prog w) A (call (.builtin nm) [a,b]) Q E s
theorem aCc(M:Mms o nm)(hK:KFrag.K=X.K)(hu:X.A.units+20<bE)(hc:X.calm=af)(I:Inv X Ψ σ H s)(hl:SqL X.K H l xs)(r:bN All H xs ds)(h:sE o ds=.ok d)(q:kR H d aj Q) :
  ϑ (az X.prog X.w) X.A (call (.builtin nm) [.ref l]) (EP X Ψ σ Q) X.xe s:=by
 obtain⟨its,vr,pl⟩:=d7 I hl;have hlt:l<s.heap.objs.size:=by obtain⟨_,e,_⟩:=pl;exact bX e
 refine M.walk (k9 pl ?_);refine⟨_,_,_,_,_,_,btD o ds,rfl,Walks.list (A:=X.A.in1) (I.ok.hd hc) _ l (di hlt) its.toArray,⟨⟨_,dt _ rfl,rfl,rfl⟩,pl.push _⟩,λb hb=>?_,by rw[cg,<-vr.length,r.length];exact XS h,⟨Gds s,⟨_,s.toks,rfl,λb o e=>cx _ e⟩,λs' h' tk g kk=>g.grow (λb hb=>?_) (i6 _) λb o h1 h2 e=>kk b o h1 (by show b<(s.heap.push _).objs.size;rw[i7];exact h2) e,λi j vi vj s' Q E g h1 h2 q=>JC hK I hu r vr h i j vi vj s' Q E g h1 h2 q⟩,λv h' tk hP hk=>?_⟩
 .show b<(s.heap.push _).objs.size;rw[i7];rcases bq.mp hb with rfl|hb
  .exact kh _
  .rcases bq.mp hb with rfl|hb
   .exact ix hlt
   .cases hb
 .rcases bq.mp hb with rfl|hb
  .exact bi _
  .cases hb
 .obtain⟨w,v1,r1⟩:=U3 r vr h (by simpa using hP);refine⟨w,H,I.kept λb o e=>hk b o (λhb=>?_) (cx _ e),v1,q.self r1 λz=>by cases z⟩;rcases bq.mp hb with rfl|hb
  .exact bg (bX e) (fE _)
  .cases hb
theorem aCd(M:Mms o nm)(hK:KFrag.K=X.K)(hu:X.A.units+20<bE)(hc:X.calm=af)(I:Inv X Ψ σ H s)(hl:H l=ae (.tup xs))(r:bN All H xs ds)(h:sE o ds=.ok d)(q:kR H d aj Q) :
  ϑ (az X.prog X.w) X.A (call (.builtin nm) [.ref l]) (EP X Ψ σ Q) X.xe s:=by
 obtain⟨its,vr,pl⟩:=gR I hl;have hlt:l<s.heap.objs.size:=by obtain⟨_,e,_⟩:=pl;exact bX e
 refine M.walk (sj pl ?_);refine⟨_,_,_,_,_,_,btD o ds,rfl,AV (A:=X.A.in1) (I.ok.hd hc) _ l (di hlt) its.toArray,⟨⟨_,dt _ rfl,rfl,rfl⟩,pl.push _⟩,λb hb=>?_,by rw[cg,<-vr.length,r.length];exact XS h,⟨Gds s,⟨_,s.toks,rfl,λb o e=>cx _ e⟩,λs' h' tk g kk=>g.grow (λb hb=>?_) (i6 _) λb o h1 h2 e=>kk b o h1 (by show b<(s.heap.push _).objs.size;rw[i7];exact h2) e,λi j vi vj s' Q E g h1 h2 q=>JC hK I hu r vr h i j vi vj s' Q E g h1 h2 q⟩,λv h' tk hP hk=>?_⟩
 .show b<(s.heap.push _).objs.size;rw[i7];rcases bq.mp hb with rfl|hb
  .exact kh _
  .rcases bq.mp hb with rfl|hb
   .exact ix hlt
   .cases hb
 .rcases bq.mp hb with rfl|hb
  .exact bi _
  .cases hb
 .obtain⟨w,v1,r1⟩:=U3 r vr h (by simpa using hP);refine⟨w,H,I.kept λb o e=>hk b o (λhb=>?_) (cx _ e),v1,q.self r1 λz=>by cases z⟩;rcases bq.mp hb with rfl|hb
  .exact bg (bX e) (fE _)
  .cases hb
theorem aCe(two:∀{prog:cy} {w:bS} {A:cS} {Q:ap->ay->Prop} {E:ap->ay->Prop} {s:ay} {a b:ap},ϑ (az prog w) A.in1 (gL (.ref s.heap.objs.size)) (Mm.Seen prog w A.in1 o.op Q) E {s with heap:=s.heap.push {cls:=.type "tuple",data:=.seq #[a,b]}}->ϑ (az prog w) A (call (.builtin nm) [a,b]) Q E s)(hK:KFrag.K=X.K)(hu:X.A.units+20<bE)(hc:X.calm=af)(I:Inv X Ψ σ H s)(rx:Rep All H x a)(ry:Rep All H y b)(ru:RelV x u)(rw':RelV y w)(h:sE o [a,b]=.ok d)(q:kR H d aj Q) :
  ϑ (az X.prog X.w) X.A (call (.builtin nm) [u,w]) (EP X Ψ σ Q) X.xe s:=by
 have r:bN All H [x,y] [a,b]:=.cons rx (.cons ry .nil);have vr:Vals [x,y] [u,w]:=.cons ru (.cons rw' .nil);have pl:(s.heap.push {cls:=.type "tuple",data:=.seq #[u,w]}).IsTuple s.heap.objs.size [u,w].toArray:=⟨_,dt _ rfl,rfl,0,rfl⟩
 have hsz:(s.heap.push {cls:=.type "tuple",data:=.seq #[u,w]}).objs.size=s.heap.objs.size+1:=i7 ..;refine two (sj pl ?_);refine⟨_,_,_,_,_,_,btD o [a,b],rfl,AV (A:=X.A.in1) (I.ok.hd hc) _ s.heap.objs.size (by rw[hsz];exact di (kh _)) [u,w].toArray,⟨⟨_,dt _ rfl,rfl,rfl⟩,pl.push _⟩,λb hb=>?_,by simp,⟨Gds s,⟨_,s.toks,rfl,λb o e=>cx _ (cx _ e)⟩,λs' h' tk g kk=>g.grow (wq:=[s.heap.objs.size+1]) (n:=s.heap.objs.size+2) (λb hb=>?_) 0x1 λb o h1 h2 e=>kk b o (by rw[hsz];exact h1) (by show b<((s.heap.push _).push _).objs.size;rw[i7,hsz];exact h2) e,λi j vi vj s' Q E g h1 h2 q=>JC hK I hu r vr h i j vi vj s' Q E g h1 h2 q⟩,λv h' tk hP hk=>?_⟩
 .show b<((s.heap.push _).push _).objs.size;rw[i7,hsz];rcases bq.mp hb with rfl|hb
  .rw[hsz];exact kh _
  .rcases bq.mp hb with rfl|hb
   .exact ix (kh _)
   .cases hb
 .rcases bq.mp hb with rfl|hb
  .lia
  .cases hb
 .obtain⟨w,v1,r1⟩:=U3 r vr h (by simpa using hP);refine⟨w,H,I.kept λb o e=>hk b o (λhb=>?_) (cx _ (cx _ e)),v1,q.self r1 λz=>by cases z⟩;rcases bq.mp hb with hb|hb
  .have:=bX e;rw[hb,hsz] at this;exact bg this (Nat.not_lt.mpr (i6 _))
  .cases hb
def aOd(M:Mms o nm)(hK:KFrag.K=X.K)(hu:X.A.units+20<bE)(hc:X.calm=af):lW X (.builtin nm) (rs (dX o) aj):=by
 rintro Ψ s σ H xs us Q I vr ⟨ds,d,r,e,k⟩;unfold dX at e;split at e
 .cases r with
  |cons r t=>
   cases t;cases vr with
   |cons v vt=>
    cases vt;obtain⟨l,ys,rfl,hl,rr⟩:=r.jX;cases v;exact aCc M hK hu hc I hl rr e k
 .cases r with
  |cons r t=>
   cases t;cases vr with
   |cons v vt=>
    cases vt;obtain⟨l,ys,rfl,hl,rr⟩:=r.gM;cases v;exact aCd M hK hu hc I hl rr e k
 .cases r with
  |cons r t=>
   cases t with
   |cons r' t=>
    cases t;cases vr with
    |cons v vt=>
     cases vt with
     |cons v' vt=>
      cases vt;exact aCe M.two hK hu hc I r r' v v' e k
 .exact bx e
def yP(hK:KFrag.K=X.K)(hu:X.A.units+20<bE)(hc:X.calm=af):lW X (.builtin "min") (rs (dX .lt) aj):=aOd ⟨Mm.PJ,Mm.UW⟩ hK hu hc
def FJ(hK:KFrag.K=X.K)(hu:X.A.units+20<bE)(hc:X.calm=af):lW X (.builtin "max") (rs (dX .gt) aj):=aOd ⟨Mm.PK,Mm.U0⟩ hK hu hc
end
end Mi
namespace PySem.Mm
open PySem PyProof.Rows PySem.W
def PN{K:Type}[fy K]{knd:KeyKind prog w K}{d:aq}{kvs:aa (K×ap)}{ep n:ai}(hh:A.handled=ao)(lo:(d==fA)=aj)
 (hm:s.heap.DictAt knd d kvs ep)(hn:kvs.length=n)(hl:n<=2 ^ 24)
 (q:∀h' tk acc c,(∀b o,s.heap.get? b=ae o->h'.get? b=ae o)->h'.get? s.heap.objs.size=ae {cls:=.type "list",dict:=ao,data:=.seq acc c,slots:=#[]}->
   ItemsOf (λi v=>∃k x,kvs[i]?=ae (k,x)/\knd.is k v=af) acc n->Q (.ref s.heap.objs.size) {s with heap:=h',toks:=tk}):ϑ (az prog w) A (call (.type "list") [.ref d]) Q E s:=by
 subst hn;exact kdl_call (kdl_dict lo) hh hm (kdl_size hl) q
end PySem.Mm
namespace Mi
open PySem L2 PySem.SeqAt PySem.Spec PyProof.Rows
section
variable [KFrag]
section
variable {a b e:Expr} {x:Str} {id T:eM}
def mD(r:bN P H xs [d])(vr:Vals xs us):∃v u,xs=[v]/\us=[u]/\Rep P H v d/\RelV v u:=by
 cases r with
 |cons r t=>
  cases t;cases vr with
  |cons v vt=>
   cases vt;exact⟨_,_,rfl,rfl,r,v⟩
theorem XX{fr:ax}(h:gE (aP f fs) fr σ H Q):tCB (rs f fr) (gA fs rr) σ H Q:=by
 obtain⟨ρ,d,E,h,q⟩:=h;obtain⟨ds,h1,h2⟩:=bF h;exact⟨ρ,ds,E,h1,λvs H1 s1 r1 _=>⟨ds,d,r1,h2,q.imp s1 id⟩⟩
theorem aV{fr:ax}(hc:lW X (.builtin id) (rs f fr))(hg:Gl X x)(hm:X.mg x=ao)(hv:eR x=ae (.builtin id))(ha:PA X (e::es) (gA fs rr))(hn:autoParam (x ≠ "__name__") Λ)(hdb:autoParam (nDb x) Λ)
 (he:autoParam (zSE X e es) Ω)(hpl:autoParam (zSP X pos es) Ω):PE X (.Call (.Name x p) (e::es) [] pos) (gE (aP f fs) fr):=
 PE.imp (WT hc hg hm hv ha hn hdb he hpl) λ_ _ _=>XX
def fL{fr:ax}(hc:lW X (.type T) (rs f fr))(hg:Gl X x)(hm:X.mg x=ao)(hv:eR x=ae (.type T))(ha:PA X (e::es) (gA fs rr))(hn:autoParam (x ≠ "__name__") Λ)(hdb:autoParam (nDb x) Λ)
 (he:autoParam (zSE X e es) Ω)(hpl:autoParam (zSP X pos es) Ω):PE X (.Call (.Name x p) (e::es) [] pos) (gE (aP f fs) fr):=
 PE.imp (xV hc hg hm hv ha hn hdb he hpl) λ_ _ _=>XX
theorem cM(hK:KFrag.K=X.K):lW X (.builtin "len") (rs fV af):=by
 rintro Ψ s σ H xs us Q I vr ⟨ds,d,r,e,k⟩;unfold fV at e;split at e
 .cases e;obtain⟨vv,uu,rfl,rfl,r,v⟩:=mD r vr;obtain⟨l,ys,rfl,hl,rr⟩:=r.gM;cases v;exact lF Ψ s σ H [.ref l] [.ref l] Q I (.cons rfl .nil) ⟨l,ys,rfl,.inr (.of hl),by rw[rr.length];exact k.int⟩
 .cases e;obtain⟨vv,uu,rfl,rfl,r,v⟩:=mD r vr;obtain⟨l,ys,rfl,hl,rr⟩:=r.jX;cases v;exact lF Ψ s σ H [.ref l] [.ref l] Q I (.cons rfl .nil) ⟨l,ys,rfl,.inl hl,by rw[rr.length];exact k.int⟩
 .cases e;obtain⟨vv,uu,rfl,rfl,r,v⟩:=mD r vr;cases r with
  |@frz l xs ds ee rr=>
   cases v;exact lF Ψ s σ H [.ref l] [.ref l] Q I (.cons rfl .nil) ⟨l,xs,rfl,.inl (ee.sq hK),by rw[rr.length];exact k.int⟩
 .split at e
  .rename_i hl;cases e;obtain⟨vv,uu,rfl,rfl,r,v⟩:=mD r vr;cases r.inv;exact N5 Ψ s σ H _ _ Q I (.cons v .nil) ⟨_,rfl,uB hl,k.int⟩
  .exact bx e
 .exact bx e
def lZ.keys:∀{kvs:aa (Key×V)}{ds:aa (D×D)},lZ P H kvs ds->bN P' H (kvs.map λp=>kV p.1) (lO ds)
 |_,_,.nil=>.nil
 |_,_,.cons (k:=k) _ t=>.cons (by cases k<;>first|exact .int _|exact .str _) t.keys
theorem list_dict(hc:X.calm=af)(I:Inv X Ψ σ H s)(e:H l=ae (.dK kvs))
 (q:∀p s',H p=ao->Inv X Ψ σ (upd H p (.lst (kvs.map λp=>kV p.1))) s'->(∀l0 o0,H l0=ae o0->l0≠p)->Q (.ref p) s'):ϑ (az X.prog X.w) X.A (call (.type "list") [.ref l]) Q X.xe s:=by
 obtain⟨z,hd,vs,rel,dd⟩:=ZV I.hok e;obtain⟨ep,da⟩:=dd.dictAt;have hlen:kvs.length=vs.length:=lg rel;refine Mm.PN (I.ok.hd hc) hd da rfl (by rw[<-hlen];rw[e8] at z;lia) λh' tk acc' c' kp e1 it=>?_
 obtain⟨i1,i2⟩:=it;have hfr:H s.heap.objs.size=ao:=I.hok.fresh (bi _);refine q _ _ hfr (I.laid kp (bi _) ?_) λl0 o0 h0=>eG h0 hfr
 refine⟨by rw[aI];exact z,acc'.toList,c',?_,by simpa using e1⟩;have gen:∀(kvs:aa (Key×V))(vs:aa (Key×ap))(xs:aa ap),KV kvs vs->xs.length=vs.length->(∀(j:ai)(v:ap),xs[j]?=ae v->∃k x,vs[j]?=ae (k,x)/\(dM X.prog X.w).is k v=af)->Vals (kvs.map λp=>kV p.1) xs:=by
  intro kvs vs xs rel;induction rel generalizing xs with
  |nil=>intro hl _;cases xs with|nil=>exact .nil|cons _ _=>simp at hl
  |@cons p q ps qs hpq t ih=>
   intro hl g;cases xs with
   |nil=>simp at hl
   |cons x xs=>
    refine .cons ?_ (ih xs (by simpa using hl) λj v hv=>g (j+1) v (by simpa using hv));obtain⟨k,x',h1,h2⟩:=g 0 x rfl;have h1':q=(k,x'):=by simpa using h1
    show RelV (kV p.1) x;rw[hpq.1,h1'];rcases dJ h2 with ⟨i,t,rfl,rfl⟩|⟨i,t,rfl,rfl⟩
    .exact⟨t,rfl⟩
    .exact⟨t,rfl⟩
 exact gen kvs vs acc'.toList rel (by simpa using i1) λj v hv=>i2 j v (by simpa using hv)
theorem aCf(hc:X.calm=af):lW X (.type "list") (rs T7 af):=by
 rintro Ψ s σ H xs us Q I vr ⟨ds,d,r,e,k⟩;unfold T7 at e;split at e
 .split at e
  .rename_i hl;cases e;obtain⟨vv,uu,rfl,rfl,r,v⟩:=mD r vr;obtain⟨l,ys,rfl,hl',rr⟩:=r.gM;cases v;refine vR Ψ s σ H [.ref l] [.ref l] Q I (.cons rfl .nil) ⟨l,ys,rfl,.inr (.of hl'),λp hp=>?_⟩;have sp:cD H (upd H p (.lst ys)):=cD.upd hp;exact k _ _ sp (.lst aM trivial (rr.same sp)) λ_=>.lst aM hp ((rr.bZ hl).same sp)
  .exact bx e
 .split at e
  .rename_i hl;cases e;obtain⟨vv,uu,rfl,rfl,r,v⟩:=mD r vr;obtain⟨l,ys,rfl,hl',rr⟩:=r.jX;cases v;refine vR Ψ s σ H [.ref l] [.ref l] Q I (.cons rfl .nil) ⟨l,ys,rfl,.inl hl',λp hp=>?_⟩;have sp:cD H (upd H p (.lst ys)):=cD.upd hp;exact k _ _ sp (.lst aM trivial (rr.same sp)) λ_=>.lst aM hp ((rr.bZ hl).same sp)
  .exact bx e
 .split at e
  .rename_i hl;cases e;obtain⟨vv,uu,rfl,rfl,r,v⟩:=mD r vr;cases r with
   |@dK l kvs ds e _ r n=>
    cases v;refine list_dict hc I e λp s' hp I' _=>⟨.ref p,_,I',rfl,?_⟩
    have sp:cD H (upd H p (.lst (kvs.map λp=>kV p.1))):=cD.upd hp;exact k _ _ sp (.lst aM trivial (r.keys.same sp)) λ_=>.lst aM hp (r.keys.same sp)
   |@dT l kvs ds e _ r n=>
    cases v;cases r with
    |cons r t=>simp[isTup] at hl
    |nil=>
     have e2:=I_ (o':=.dK []) e;refine list_dict hc (qU I e) aM λp s' hp I' hne=>?_
     have hp':p≠l:=λz=>by subst z;rw[aM] at hp;cases hp
     have hpn:H p=ao:=by rw[bA hp'] at hp;exact hp
     have hcm:upd (upd (upd H l (.dK [])) p (.lst [])) l (.dT [])=upd H p (.lst []):=by
      funext b
      by_cases hb:b=l
      .subst hb;rw[aM,bA (Ne.symm hp'),e]
      .rw[bA hb];by_cases hb2:b=p
       .subst hb2;rw[aM,aM]
       .rw[bA hb2,bA hb2,bA hb]
     have I2:=qT I' (by rw[bA (Ne.symm hp'),aM]);have I3:Inv X Ψ σ (upd H p (.lst [])) s':=by
      have:Inv X Ψ σ (upd (upd (upd H l (.dK [])) p (.lst [])) l (.dT [])) s':=I2;rwa [hcm] at this
     have sp:cD H (upd H p (.lst [])):=cD.upd hpn;exact⟨.ref p,_,I3,rfl,k _ _ sp (.lst aM trivial .nil) λ_=>.lst aM hpn .nil⟩
  .exact bx e
 .exact bx e
def jY:lW X (.type "tuple") (rs oJ aj):=by
 rintro Ψ s σ H xs us Q I vr ⟨ds,d,r,e,k⟩;unfold oJ at e;split at e
 .cases e;obtain⟨vv,uu,rfl,rfl,r,v⟩:=mD r vr;obtain⟨l,ys,rfl,hl',rr⟩:=r.gM;cases v;exact tQ Ψ s σ H [.ref l] [.ref l] Q I (.cons rfl .nil) ⟨l,ys,rfl,.inr ⟨.of hl',k.self (.tup hl' rr) λz=>by cases z⟩⟩
 .cases e;obtain⟨vv,uu,rfl,rfl,r,v⟩:=mD r vr;obtain⟨l,ys,rfl,hl',rr⟩:=r.jX;cases v;refine tQ Ψ s σ H [.ref l] [.ref l] Q I (.cons rfl .nil) ⟨l,ys,rfl,.inl ⟨hl',λp hp=>?_⟩⟩;have sp:cD H (upd H p (.tup ys)):=cD.upd hp;exact k _ _ sp (.tup aM (rr.same sp)) λz=>by cases z
 .exact bx e
mutual
def FN:∀(d:D),d.plain=af->d.pure=af
 |.tup xs,h=>by rw[ο] at h;rw[D.pure];exact oO xs h
 |.int _,_=>rfl
 |.str _,_=>rfl
 |.uD,h=>by simp[ο] at h
 |.non,_=>rfl
 |.bl _,_=>rfl
 |.lst _,h=>by simp[ο] at h
 |.dct _,h=>by simp[ο] at h
 |.scr xs,h=>by rw[ο] at h;rw[D.pure];exact oO xs h
def oO:∀(ds:aa D),χ ds=af->θ ds=af
 |[],_=>rfl
 |x::xs,h=>by rw[χ,bn] at h;rw[θ,bn];exact⟨FN x h.1,oO xs h.2⟩
end
def sJ(h:bG ds=af):θ (h_ ds)=af:=mC.mpr λd hd=>FN d (e_ h ((b7 ds).mem_iff.mp hd)).1
def iC(hK:KFrag.K=X.K)(hu:X.A.units+20<bE):lW X (.builtin "sorted") (rs gB af):=by
 rintro Ψ s σ H xs us Q I vr ⟨ds,d,r,e,k⟩;unfold gB at e;split at e
 .split at e
  .rename_i hl;cases e;obtain⟨vv,uu,rfl,rfl,r,v⟩:=mD r vr;obtain⟨l,ys,rfl,hl',rr⟩:=r.jX;cases v;refine aA0 hK I hu hl' rr hl λp xs' hp r'=>?_
   have sp:cD H (upd H p (.lst xs')):=cD.upd hp;exact k _ _ sp (.lst aM trivial (r'.same sp)) λ_=>.lst aM hp ((r'.bZ (sJ hl)).same sp)
  .exact bx e
 .exact bx e
def isi(I:Inv X Ψ σ H s)(r:Rep All H v d)(ru:RelV v u)(h:aR5 t d=.ok k)
 (q:∀tk,Q (.bool k) {s with toks:=tk}):ϑ (az X.prog X.w) X.A (call (.builtin "isinstance") [u,.type t.nm]) Q X.xe s:=by
 have q0:Q (.bool k) s:=q s.toks;cases r with
 |non=>cases ru;cases t<;>cases h<;>first|exact IsiPair.NoneType_int (q _)|exact IsiPair.NoneType_str (q _)|exact IsiPair.NoneType_bool (q _)|exact IsiPair.NoneType_list (q _)|exact IsiPair.NoneType_tuple (q _)|exact IsiPair.NoneType_dict (q _)
 |bl b=>cases ru;cases t<;>cases h<;>first|exact IsiPair.bool_int q0|exact IsiPair.bool_str (q _)|exact IsiPair.bool_bool q0|exact IsiPair.bool_list (q _)|exact IsiPair.bool_tuple (q _)|exact IsiPair.bool_dict (q _)
 |int b=>obtain⟨tt,rfl⟩:=ru;cases t<;>cases h<;>first|exact IsiPair.int_int q0|exact IsiPair.int_str (q _)|exact IsiPair.int_bool (q _)|exact IsiPair.int_list (q _)|exact IsiPair.int_tuple (q _)|exact IsiPair.int_dict (q _)
 |str b=>obtain⟨tt,rfl⟩:=ru;cases t<;>cases h<;>first|exact IsiPair.str_int (q _)|exact IsiPair.str_str q0|exact IsiPair.str_bool (q _)|exact IsiPair.str_list (q _)|exact IsiPair.str_tuple (q _)|exact IsiPair.str_dict (q _)
 |tup e rr=>
  cases ru;obtain⟨its,vr,o,ho,hc,_⟩:=gR I e;cases t<;>cases h<;>first|exact IsiPair.tuple_int ho hc (q _)|exact IsiPair.tuple_str ho hc (q _)|exact IsiPair.tuple_bool ho hc (q _)|exact IsiPair.tuple_list ho hc (q _)|exact IsiPair.tuple_tuple ho hc q0|exact IsiPair.tuple_dict ho hc (q _)
 |lst e p rr=>
  cases ru;obtain⟨its,vr,o,ho,hc,_⟩:=d7 I (.of e);cases t<;>cases h<;>first|exact IsiPair.list_int ho hc (q _)|exact IsiPair.list_str ho hc (q _)|exact IsiPair.list_bool ho hc (q _)|exact IsiPair.list_list ho hc q0|exact IsiPair.list_tuple ho hc (q _)|exact IsiPair.list_dict ho hc (q _)
 |frz e rr=>cases t<;>exact bx h
 |dK e p rr n=>
  cases ru;obtain⟨_,_,_,_,o,_,_,ho,hx,_⟩:=ZV I.hok e;have hc:=hx.1;cases t<;>cases h<;>first|exact AW ho hc (q _)|exact AX ho hc (q _)|exact AY ho hc (q _)|exact AZ ho hc (q _)|exact A0 ho hc (q _)|exact A1 ho hc q0
 |dT e p rr n=>
  cases ru;obtain⟨_,_,_,_,o,_,_,ho,hx,_⟩:=aG1 I.hok e;have hc:=hx.1;cases t<;>cases h<;>first|exact AW ho hc (q _)|exact AX ho hc (q _)|exact AY ho hc (q _)|exact AZ ho hc (q _)|exact A0 ho hc (q _)|exact A1 ho hc q0
def aTg(t:Ty):aa V->Hp->VK->Prop:=λxs H Q=>∃v d k,xs=[v,.ty t.nm]/\Rep All H v d/\aR5 t d=.ok k/\Q (.bl k) H
def aOe(t:Ty):lW X (.builtin "isinstance") (aTg t):=by
 rintro Ψ s σ H xs us Q I vr ⟨v,d,k,e,r,h,q⟩;subst e;cases vr with
 |cons rv vt=>
  cases vt with
  |cons rt vt=>
   cases vt;cases rt;exact isi I r rv h λtk=>⟨.bl k,H,I.tok tk,rfl,q⟩
theorem nU(t:Ty)(ha:PE X a (gE fa ra))(hg:Gl X "isinstance")(hm:X.mg "isinstance"=ao)(hv:eR "isinstance"=ae (.builtin "isinstance"))(gy:Gl X y)(my:X.mg y=ao)(vy:eR y=ae (.type t.nm))
 (hy:autoParam (y ≠ "__name__") Λ)(hyd:autoParam ((y==("__debug__" : Str))=aj) Λ)
 (he:autoParam (dQ [a,.Name y p2] X.env=(aj,cK a X.env)::dQ [.Name y p2] X.env) Ω)(he2:autoParam (dQ [.Name y p2] X.env=(aj,cK (.Name y p2) X.env)::dQ [] X.env) Ω)
 (hpl:autoParam ((jq pos (dQ [.Name y p2] X.env)).any (·.1)=aj) Ω):PE X (.Call (.Name "isinstance" p) [a,.Name y p2] [] pos) (gE (b1 (n6 t) fa) af):=
 PE.imp (WT (aOe t) hg hm hv (kI ha (kI (aJa gy my vy (v:=.ty t.nm) rfl hy hyd) rF he2) he) 0x4 0x4 he hpl) λσ H Q z0=>by
  obtain⟨ρ,d,E,h,q⟩:=z0;obtain⟨x,h1,h⟩:=bF h;obtain⟨k,h2,h⟩:=bF h;cases h;exact⟨ρ,x,E,h1,λv H1 s1 r1 _=>⟨v,x,k,rfl,r1,h2,(q.imp s1 id).bl⟩⟩
noncomputable def spD(f:aa D->Res D)(n:ai):Sp:=λvs H Q _=>∃ds d,ds.length=n/\bN All H vs ds/\f ds=.ok d/\kR H d af Q
def aCg{E:XK}(h:spD f n vs H Q E):vs.length=n:=by
 obtain⟨ds,d,h1,r,_⟩:=h;rw[r.length,h1]
theorem aKb(F:ZP X.prog X.w X.K X.mg X.base CX0 k fad fd ps (spD f n))(hr:wK k X.A)(hg:Gl X x)(hm:X.mg x=ae (.ref fad))(hk:nh X.K (.ref fad)=af)(hb:Binds X.K fd ps [])
 (ha:PA X (e::es) (gA fs rr))(hdb:autoParam (nDb x) Λ)(he:autoParam (zSE X e es) Ω)(hpl:autoParam (zSP X pos es) Ω) :
  PE X (.Call (.Name x p) (e::es) [] pos) (gE (aP (b_ n f) fs) af):=
 PE.imp (aJi F hr hg hm hk hb .nil aR4 ha hdb he hpl) λσ H Q z0=>by
  obtain⟨ρ,d,E,h,q⟩:=z0;obtain⟨ds,h1,h⟩:=bF h;unfold b_ at h;split at h
  .rename_i hl;exact⟨ρ,ds,E,h1,λvs H1 s1 r1 _=>⟨ds,d,fq hl,by rw[eo];exact r1,h,q.imp s1 id⟩⟩
  .exact bx h
end
end
noncomputable def JD(m:ai)(xs:aa D):aa D:=xs.zipIdx.map λp=>.tup [.int ((m+p.2:ai):ag),p.1]
section
variable [KFrag]
def aSg(K:b6)(m:ai)(a:aq):It:=
 ⟨λi H=>∃xs x,SqL K H a xs/\xs[i]?=ae x,λi H v H'=>∃t x,(∀xs,SqL K H a xs->xs[i]?=ae x)/\v=.ref t/\H t=ao/\H'=upd H t (.tup [.int ((m+i:ai):ag),x]),λi H=>∃xs,SqL K H a xs/\xs.length<=i⟩
def aGi{i:ai}:(JD m xs)[i]?=(xs[i]?).map λd=>.tup [.int ((m+i:ai):ag),d]:=by
 unfold JD;rw[iN,List.getElem?_zipIdx,AN];cases xs[i]?<;>rfl
structure ItQ(K:b6)(P:aq->Prop)(J:It)(H:Hp)(items:aa D):Prop where
 it:∀(P':aq->Prop)(H':Hp),HX P H H'->(∀a o,H a=ae o->P a->P' a)->(∀i,items.length<=i->J.stop i H')/\∀i d,items[i]?=ae d->J.go i H'/\∀x H'',J.yld i H' x H''->cD H' H''/\Rep P' H'' x d
section
variable {K:b6} {P P':aq->Prop} {J:It} {H H':Hp} {items:aa D}
theorem ItQ.keep'(h:ItQ K P J H items)(k:HX P H H')(m:∀a o,H a=ae o->P a->P' a):ItQ K P' J H' items:=
 ⟨λP2 H2 k2 m2=>h.it P2 H2 (λa o e hp=>k2 a o (k a o e hp) (hp.imp (m a o e) id)) λa o e hp=>m2 a o (k a o e (.inl hp)) (m a o e hp)⟩
def ItQ.keep(h:ItQ K P J H items)(k:HX P H H')(m:∀a,P a->P' a):ItQ K P' J H' items:=h.keep' k λa _ _=>m a
def ItQ.stop(h:ItQ K P J H items)(hi:items.length<=i):J.stop i H:=(h.it P H (λ_ _ e _=>e) λ_ _ _ hp=>hp).1 i hi
def ItQ.go(h:ItQ K P J H items)(hi:items[i]?=ae d):J.go i H/\∀x H',J.yld i H x H'->cD H H'/\Rep P H' x d:=(h.it P H (λ_ _ e _=>e) λ_ _ _ hp=>hp).2 i d hi
def ItQ.lst(a:aq)(e:J=Itl K a)(r:Rep P H (.ref a) (.lst items)):ItQ K P J H items:=by
 refine⟨λP H kk mm=>?_⟩;have r:=r.Z7 kk mm;refine⟨λi hi=>?_,λi d hi=>?_⟩
 .subst e;obtain⟨a',xs,e,hq,rr⟩:=r.jX;cases e;exact⟨xs,hq,by rw[rr.length];exact hi⟩
 .subst e;obtain⟨a',xs,e,hq,rr⟩:=r.jX;cases e;obtain⟨v,h1,h2⟩:=rr.get hi;refine⟨⟨xs,v,hq,h1⟩,λx H' ⟨e,hy⟩=>?_⟩;subst e;refine⟨cD.refl _,?_⟩;have:=hy xs hq;rw[h1] at this;cases this;exact h2
def ItQ.tup(a:aq)(e:J=Itt K a)(r:Rep P H (.ref a) (.tup items)):ItQ K P J H items:=by
 refine⟨λP H kk mm=>?_⟩;have r:=r.Z7 kk mm;refine⟨λi hi=>?_,λi d hi=>?_⟩
 .subst e;obtain⟨a',xs,e,hq,rr⟩:=r.gM;cases e;exact⟨xs,.of hq,by rw[rr.length];exact hi⟩
 .subst e;obtain⟨a',xs,e,hq,rr⟩:=r.gM;cases e;obtain⟨v,h1,h2⟩:=rr.get hi;refine⟨⟨xs,v,.of hq,h1⟩,λx H' ⟨e,hy⟩=>?_⟩;subst e;refine⟨cD.refl _,?_⟩;have:=hy xs (.of hq);rw[h1] at this;cases this;exact h2
def ItQ.rng(lo:ag)(n:ai)(e:J=Itr lo n)(r:items=(bh n).map λ(k:ai)=>δ (lo+k)):ItQ K P J H items:=by
 refine⟨λP H k m=>?_⟩;refine⟨λi hi=>?_,λi d hi=>?_⟩
 .subst e r;show n<=i;simpa using hi
 .subst e r;have hlt:i<n:=by
   have:=(dz.mp hi).1;simpa using this
  refine⟨hlt,λx H' ⟨e,hy⟩=>?_⟩;subst e;have e2:δ (lo+(i:ag))=d:=by simpa[hlt] using hi
  rw[hy,<-e2];exact⟨cD.refl _,.int _⟩
def ItQ.enf(m:ai)(a:aq)(ds:aa D)(e:J=aSg K m a)(r:Rep P H (.ref a) (.lst ds))(h:items=JD m ds):ItQ K P J H items:=by
 refine⟨λP H kk mm=>?_⟩;have r:=r.Z7 kk mm;refine⟨λi hi=>?_,λi d hi=>?_⟩
 .subst e h;obtain⟨a',xs,e,hq,rr⟩:=r.jX;cases e;exact⟨xs,hq,by rw[rr.length];simpa[JD] using hi⟩
 .subst e h;obtain⟨a',xs,e,hq,rr⟩:=r.jX;cases e;rw[aGi] at hi;obtain⟨y,hd,rfl⟩:=lS.mp hi;obtain⟨v,h1,h2⟩:=rr.get hd;refine⟨⟨xs,v,hq,h1⟩,λx H' ⟨t,u,hy,e1,e2,e3⟩=>?_⟩;subst e1 e3;have:=hy xs hq;rw[h1] at this;cases this;have sp:cD H (upd H t (.tup [.int ((m+i:ai):ag),v])):=cD.upd e2;exact⟨sp,.tup aM (.cons (.int _) (.cons (h2.same sp) .nil))⟩
def ItQ.scr(a:aq)(hK:KFrag.K=K)(e:J=Itl K a)(r:Rep P H (.ref a) (.scr items)):ItQ K P J H items:=by
 refine⟨λP H kk mm=>?_⟩;have r:=r.Z7 kk mm;refine⟨λi hi=>?_,λi d hi=>?_⟩
 .subst e;cases r with
  |frz ee rr=>exact⟨_,ee.sq hK,by rw[rr.length];exact hi⟩
 .subst e;cases r with
  |@frz _ xs _ ee rr=>
   obtain⟨v,h1,h2⟩:=rr.get hi;refine⟨⟨xs,v,ee.sq hK,h1⟩,λx H' ⟨e,hy⟩=>?_⟩;subst e;refine⟨cD.refl _,?_⟩;have:=hy xs (ee.sq hK);rw[h1] at this;cases this;exact h2
end
noncomputable def gI(K:b6)(f:FI):TI:=λσ H R=>∃ρ items k,ER H σ ρ/\f ρ=.ok (items,k)/\∀J H1,cD H H1->ItQ K All J H1 items->(k=af->ItQ K (New H) J H1 items)->R J H1
def gIV(K:b6)(i:ai):TI:=λσ H R=>∃v d items,σ[i]?=ae (ae v)/\Rep All H v d/\rG d=.ok items/\∀J,(∀P:aq->Prop,Rep P H v d->ItQ K P J H items)->R J H
section
variable {X:Cx} {tg l a b:Expr} {fl:FE} {rl rr:ax} {fs:FA} {p pos:de}
def JF(I1:Inv X Ψ σ H1 s1)(r:Rep All H1 v d)(ru:RelV v u)(hi:rG d=.ok items)
 (q:∀J,(∀P:aq->Prop,Rep P H1 v d->ItQ X.K P J H1 items)->R J H1):ϑ (az X.prog X.w) X.A (gL u) (PIE X Ψ σ tg R) X.xe s1:=by
 cases d<;>simp only[rG] at hi<;>cases hi
 .obtain⟨a,xs,rfl,e,rr⟩:=r.gM;cases ru;obtain⟨its,rv,p,hz⟩:=I1.tuple (.of e);refine sj (show s1.heap.IsTuple a its.toArray from p) ?_;refine⟨s1.heap.objs.size,[s1.heap.objs.size],_,_,H1,rfl,I1.kept λb o e=>cx _ e,ZG a _,⟨_,dt _ rfl,rfl,rfl⟩,λb hb=>?_,q _ λP r=>.tup a rfl r⟩;have e:b=s1.heap.objs.size:=by simpa using hb
  subst e;exact I1.aJc (bi _) (I1.hok.fresh (bi _))
 .obtain⟨a,xs,rfl,e,rr⟩:=r.jX;cases ru;obtain⟨its,rv,p,hz⟩:=I1.list e;refine k9 p.isList ?_;refine⟨s1.heap.objs.size,[s1.heap.objs.size],_,_,H1,rfl,I1.kept λb o e=>cx _ e,xT a _,⟨_,dt _ rfl,rfl,rfl⟩,λb hb=>?_,q _ λP r=>.lst a rfl r⟩;have e:b=s1.heap.objs.size:=by simpa using hb
  subst e;exact I1.aJc (bi _) (I1.hok.fresh (bi _))
def jW(hl:PE X l (gE fl rl)):PI X tg l (gI X.K (dN fl rl)):=by
 rintro Ψ s σ H R I ⟨ρ,items,k,E,h,q⟩;obtain⟨d,h1,h⟩:=bF h;obtain⟨its,h2,h⟩:=bF h;cases h;refine thn (hl Ψ s σ H _ I ⟨ρ,d,E,h1,λv H1 s1 r1 n1=>(show(∃d',Rep All H1 v d/\d'=d/\∀J,(∀P:aq->Prop,Rep P H1 v d->ItQ X.K P J H1 items)->R J H1) from ⟨d,r1,rfl,λJ hJ=>q J H1 s1 (hJ _ r1) λhk=>hJ _ ?_⟩)⟩) λu s1 ⟨v,H1,I1,ru,d',r1,e,q1⟩=>JF I1 r1 ru h2 q1
 rw[jl] at hk;rcases hk with hk|hk
 .exact n1 hk
 .exact r1.bZ hk
def aOf(hN:X.N[i]?=ae x)(hv:Vis X.env.scope x)(hd:autoParam (nDb x) Λ)(hcd:autoParam (nCd x) Λ):PI X tg (.Name x pos) (gIV X.K i):=by
 rintro Ψ s σ H R I ⟨v,d,items,hσ,r,hi,q⟩;exact thn (j_ hN hv hd hcd Ψ s σ H (λw H1=>w=v/\H1=H) I ⟨v,hσ,rfl,rfl⟩) λu s1 z0=>by
  obtain⟨w,H1,I1,ru,e1,e2⟩:=z0;subst e1 e2;exact JF I1 r ru hi q
def aA3(h:yH i=af):-(2 ^ 62)<=i/\i<2 ^ 62:=by
 simp only[yH,bn,em] at h;exact h
def PI.imp(h:PI X tg l w)(i:∀σ H R,w' σ H R->w σ H R):PI X tg l w':=λΨ s σ H R I q=>h Ψ s σ H R I (i σ H R q)
def iZ(hg:Gl X "range")(hm:X.mg "range"=ao)(ha:PA X [a] (gA fs rr))(hs:autoParam (dQ [a] X.env=[(aj,cK a X.env)]) Ω):PI X tg (.Call (.Name "range" p) [a] [] pos) (gI X.K (mY fs lY)):=
 PI.imp (aB4 hg hm ha hs) λσ H R z0=>by
  obtain⟨ρ,items,k,E,h,q⟩:=z0;obtain⟨xs,h1,h⟩:=bF h;unfold lY at h;split at h
  .split at h
   .rename_i hb;cases h;obtain⟨b1,b2⟩:=aA3 hb;refine⟨ρ,_,E,h1,λvs H1 s1 r1 _=>?_⟩;cases r1 with
    |cons r t=>
     cases t;cases r.inv;exact⟨_,rfl,b1,b2,q _ H1 s1 (.rng 0 _ rfl rfl) λ_=>.rng 0 _ rfl rfl⟩
   .exact bx h
  .exact bx h
end
def aGj(n:ai)(ρ bs:aa D)(i:ai)(h:i<n):(W6 n ρ++bs).getD i .uD=ρ.getD i .uD:=by
 rw[eJ,jx (by simp[W6];exact h)];simp[W6,h]
def X3(n:ai)(ρ:aa D):(W6 n ρ).length=n:=by simp[W6]
def TgC(g:TG)(t:D->Res (aa D))(n m:ai):Prop:=∀(v:V)(d:D)(bs:aa D)(σ:L2.St)(H:Hp)(Q:L2.St->Hp->Prop),σ.length=n->Rep All H v d->t d=.ok bs->
 (∀σ2,Ext (σ++c_ m ao) σ2->(∀j b,bs[j]?=ae b->∃w,σ2[n+j]?=ae (ae w)/\Rep All H w b)->Q σ2 H)->g v (σ++c_ m ao) H Q
theorem ER.ext(E:ER H σ ρ)(hn:σ.length=n)(x:Ext (σ++c_ m ao) σ2)(hb:∀j b,bs[j]?=ae b->∃w,σ2[n+j]?=ae (ae w)/\Rep All H w b):ER H σ2 (W6 n ρ++bs):=by
 intro i hi;by_cases h:i<n
 .rw[aGj n ρ bs i h] at hi ⊢;obtain⟨v,h1,h2⟩:=E i hi;exact⟨v,x.2 i v (by rw[jx (by rw[hn];exact h)];exact h1),h2⟩
 .have e:(W6 n ρ++bs).getD i .uD=bs.getD (i-n) .uD:=by
   rw[eJ,iL (by rw[X3];lia),X3,<-eJ]
  rw[e] at hi ⊢;cases hq:bs[i-n]? with
  |none=>rw[eJ,hq] at hi;exact bg rfl hi
  |some b=>
   obtain⟨w,h1,h2⟩:=hb (i-n) b hq;rw[eJ,hq];exact⟨w,by rw[<-h1];congr 1;lia,h2⟩
theorem uC{K:b6}(tg:TgC g t n m)(hc:∀σ H Q,gT c σ H Q->tc σ H Q)(hn:σ.length=n)(h:gE (fJ n it t c f k) af σ H Q) :
  T_ (gI K it) g tc (gE f k) m σ H Q:=by
 obtain⟨ρ,d,E,h,q⟩:=h;obtain⟨⟨items,kk⟩,h1,h⟩:=bF h;split at h
 .rename_i hlim;obtain⟨ys,h2,h⟩:=bF h;cases h;refine⟨ρ,items,kk,E,h1,λJ H1 s1 hJ _ p hp=>?_⟩;have hp0:H p=ao:=s1.free hp;refine⟨λi n' vs H'=>n'=items.length-i/\i<=items.length/\H' p=ae (.lst vs)/\cD H1 H'/\∃acc,acc.length<=i/\bN (λa=>H a=ao/\a≠p) H' vs acc/\sG (tZ n t c f k ρ) acc (items.drop i)=.ok ys,⟨items.length,?_⟩,?_⟩
  .exact⟨rfl,fo _,aM,cD.upd hp,[],fo _,.nil,h2⟩
  .rintro i n' vs H' ⟨rfl,hi,hH,sm,acc,hal,racc,hf⟩;refine⟨hH,?_⟩;have hJ':ItQ K All J H' items:=hJ.keep (.same sm) λ_ z=>z
   rcases rf i items.length with hlt|hge
   .refine .inr ?_;have e:items[i]?=ae items[i]:=eh hlt;obtain⟨g1,g2⟩:=hJ'.go e;have hl1:items.length<=lim:=fq hlim;refine⟨g1,?_,λx H2 hy=>?_⟩
    .rw[racc.length];exact A2 hal (eP hlt (du hl1 (by rw[e8];decide)))
    .obtain⟨sH,rx⟩:=g2 x H2 hy;have hH:=sH p _ hH;have sm:=sm.trans sH;have racc:=racc.same sH;rw[ij hlt] at hf;obtain⟨acc2,hs,hf⟩:=bF hf;obtain⟨bs,hb,hs⟩:=bF hs;obtain⟨ok,hok,hs⟩:=bF hs;refine tg x items[i] bs σ H2 _ hn rx hb λσ2 hx hbs=>⟨hx,hc _ _ _ ?_⟩
     have E2:ER H2 σ2 (W6 n ρ++bs):=(E.same (s1.trans sm)).ext hn hx hbs;refine⟨_,ok,E2,hok,λH4 s4=>?_⟩;cases ok with
     |true=>
      rw[av rfl];rw[av rfl] at hs;obtain⟨y,hy2,hs⟩:=bF hs;split at hs
      .rename_i hk;cases hs;refine⟨_,y,E2.same s4,hy2,λw H5 s5 r5 n5=>⟨s5 p _ (s4 p _ hH),items.length-(i+1),by lia,rfl,hlt,aM,?_,acc++[y],?_,?_,hf⟩⟩
       .exact λb o e=>by
         rw[bA (eG e hp)];exact s5 b o (s4 b o (sm b o e))
       .rw[cb,iO];lia
       .have hp5:H5 p=ae (.lst vs):=s5 p _ (s4 p _ hH);have ry:Rep (λa=>H a=ao/\a≠p) H5 w y:=by
         rw[jl] at hk;rcases hk with hk|hk
         .exact(n5 hk).mono λa ha=>⟨((s1.trans sm).trans s4).free ha,λz=>by subst z;have h0:=s4 _ _ hH;rw[show H4 _=ao from ha] at h0;cases h0⟩
         .exact r5.bZ hk
        have all:bN (λa=>H a=ao/\a≠p) H5 (vs++[w]) (acc++[y]):=(racc.same (s4.trans s5)).snoc ry;refine all.keep (λb o e hb=>?_) λ_ z=>z
        rw[bA]
        .exact e
        .rcases hb with hb|hb
         .exact hb.2
         .intro z;subst z;rw[hp5] at e;cases e;cases hb
      .exact bx hs
     |false=>
      rw[aw 0x2];rw[aw 0x2] at hs;cases hs;exact⟨items.length-(i+1),by lia,rfl,hlt,s4 p _ hH,sm.trans s4,acc,by lia,racc.same s4,hf⟩
   .refine .inl ⟨hJ'.stop hge,?_⟩;rw[sn hge] at hf;cases hf;exact q _ _ (s1.trans sm) (.lst hH trivial racc.all) λ_=>.lst hH hp0 (racc.mono λa z=>z.1)
 .exact bx h
def gIx:aa ai->TGs
 |[]=>aSb
 |i::is=>aNc (BR i) (gIx is)
noncomputable def mF:aa ai->aa V->L2.St->L2.St
 |i::is,v::vs,σ=>mF is vs (σ.set i (ae v))
 |_,_,σ=>σ
def JG:∀(is:aa ai)(vs:aa V)(σ:L2.St),vs.length=is.length->Q (mF is vs σ) H->gIx is vs σ H Q
 |[],[],σ,_,q=>⟨rfl,q⟩
 |i::is,v::vs,σ,h,q=>⟨v,vs,rfl,JG is vs (σ.set i (ae v)) (by simpa using h) q⟩
 |[],_::_,_,h,_=>by simp at h
 |_::_,[],_,h,_=>by simp at h
def PP:∀(is:aa ai)(vs:aa V)(σ:L2.St),(mF is vs σ).length=σ.length
 |[],_,_=>by simp[mF]
 |_::_,[],_=>by simp[mF]
 |i::is,v::vs,σ=>by rw[mF,PP is vs];simp
def yQ:∀(is:aa ai)(vs:aa V)(σ:L2.St)(k:ai),k∉is->(mF is vs σ)[k]?=σ[k]?
 |[],_,_,_,_=>by simp[mF]
 |_::_,[],_,_,_=>by simp[mF]
 |i::is,v::vs,σ,k,h=>by
  rw[bq,gS] at h;rw[mF,yQ is vs _ k h.2,eD (Ne.symm h.1)]
theorem X4:∀(is:aa ai)(vs:aa V)(σ:L2.St)(j i:ai)(v:V),is.Nodup->(∀i∈is,i<σ.length)->is[j]?=ae i->vs[j]?=ae v->(mF is vs σ)[i]?=ae (ae v)
 |[],_,_,_,_,_,_,_,h,_=>by simp at h
 |_::_,[],_,_,_,_,_,_,_,h=>by simp at h
 |a::is,w::vs,σ,0,i,v,hn,hl,h1,h2=>by
  have e1:a=i:=by simpa using h1
  have e2:w=v:=by simpa using h2
  subst e1 e2;rw[mF,yQ is vs _ a (df.mp hn).1,gw (hl a (bw ..))]
 |a::is,w::vs,σ,j+1,i,v,hn,hl,h1,h2=>by
  rw[mF];exact X4 is vs _ j i v (df.mp hn).2 (λi hi=>by rw[List.length_set];exact hl i (bu _ hi)) (by simpa using h1) (by simpa using h2)
theorem sO(n:ai):TgC (BR n) HR n 1:=by
 intro v d bs σ H Q hn r h q;cases h;have hl:(σ++c_ 1 (ao:aS V)).length=n+1:=by simp[hn]
 refine q _ ⟨by simp,λi w hi=>?_⟩ λj b hj=>?_
 .have:i≠n:=λz=>by
   subst z;rw[iL 0x1] at hi;simp[hn] at hi
  rw[eD (Ne.symm this)];exact hi
 .have e:j=0:=by
   have:=(dz.mp hj).1;simp at this;exact this
  subst e;have e:d=b:=by simpa using hj
  subst e;exact⟨v,by rw[vd,gw 0x1],r⟩
theorem u0(K:b6)(n m:ai):TgC (aQ8 K m (gIx (mv n m))) (O4 m) n m:=by
 intro v d bs σ H Q hn r h q;cases d<;>simp only[O4] at h<;>(try (exact bx h;done))
 split at h
 .rename_i hm;cases h;have hm':=fq hm;obtain⟨a,xs,rfl,e,rr⟩:=r.gM;refine⟨a,xs,rfl,.of e,by rw[rr.length];exact hm',JG _ _ _ (by rw[rr.length,hm'];simp) ?_⟩;refine q _ ⟨by rw[PP],λi w hi=>?_⟩ λj b hj=>?_
  .rw[yQ]
   .exact hi
   .intro hmem;have:=A3.mp hmem;rw[iL 0x1] at hi;rw[kF] at hi;split at hi<;>cases hi
  .obtain⟨w,h1,h2⟩:=rr.get hj;have hjm:j<m:=by rw[<-hm'];exact(dz.mp hj).1
   refine⟨w,X4 _ _ _ j (n+j) w (List.nodup_range' ..) (λi hi=>?_) ?_ h1,h2⟩
   .have:=A3.mp hi;simp[hn];lia
   .rw[List.getElem?_range' hjm];simp
 .exact bx h
section
def aKc(S:eF X.N X.env.scope scope ownN)(hn:X.N.length=n)(hm:ownN.length=m)(hcalm:X.calm=af)(hi:PI X tg iter (gI X.K it))(ht:TgC g t n m)(hg:∀X',dZ X X' scope ownN->PG X' tg g)(he:∀X',dZ X X' scope ownN->PE X' elt (gE fe re))
 (hs:∀x,eW iter X.env x=pure x):PE X (.ListComp elt [⟨tg,iter,[],0⟩] scope pos) (gE (fJ n it t iU fe re) af):=by
 intro Ψ s σ H Q I h;subst hm;exact aG8 S hcalm hi hg he hs Ψ s σ H Q I (uC ht (λσ H Q h=>by obtain⟨ρ,b,E,h,q⟩:=h;cases h;exact q H (cD.refl H)) (I.len.trans hn) h)
def aCh(S:eF X.N X.env.scope scope ownN)(hn:X.N.length=n)(hm:ownN.length=m)(hcalm:X.calm=af)(hi:PI X tg iter (gI X.K it))(ht:TgC g t n m)(hg:∀X',dZ X X' scope ownN->PG X' tg g)(hc:∀X',dZ X X' scope ownN->PT X' c (gT gc))(he:∀X',dZ X X' scope ownN->PE X' elt (gE fe re))
 (hs:∀x,eW iter X.env x=pure x):PE X (.ListComp elt [⟨tg,iter,[c],0⟩] scope pos) (gE (fJ n it t gc fe re) af):=by
 intro Ψ s σ H Q I h;subst hm;exact aC3 S hcalm hi hg hc he hs Ψ s σ H Q I (uC ht (λσ H Q h=>h) (I.len.trans hn) h)
end
end
variable [KFrag]
def lZ.bZ:∀{v:aa (Key×V)}{d:aa (D×D)},lZ P H v d->θ (d.map (·.2))=af->lZ P' H v d
 |_,_,.nil,_=>.nil
 |_,_,.cons r t,h=>by
  rw[bj,θ,bn] at h;exact .cons (r.bZ h.1) (t.bZ h.2)
def uX.bZ:∀{v:aa (aa Key×V)}{d:aa (D×D)},uX P H v d->θ (d.map (·.2))=af->uX P' H v d
 |_,_,.nil,_=>.nil
 |_,_,.cons r t,h=>by
  rw[bj,θ,bn] at h;exact .cons (r.bZ h.1) (t.bZ h.2)
def Rep.aMu(r:Rep P H (.ref a) d)(h:inner d=af)(hp:P' a):Rep P' H (.ref a) d:=by
 cases r with
 |tup e r=>cases h
 |lst e p r=>exact .lst e hp (r.bZ h)
 |frz e r=>cases h
 |dK e p r n=>exact .dK e hp (r.bZ h) n
 |dT e p r n=>exact .dT e hp (r.bZ h) n
def Own(own:ai->ax)(σ:L2.St)(a:aq):Prop:=∃i,own i=af/\σ[i]?=ae (ae (.ref a))
structure ES(own:ai->ax)(H:Hp)(σ:L2.St)(ρ:aa D):Prop where
 len:σ.length=ρ.length
 at_:∀i,ρ.getD i .uD≠.uD->∃v,σ[i]?=ae (ae v)/\(own i=aj->Rep (λa=>¬Own own σ a) H v (ρ.getD i .uD))
 own:∀i v,own i=af->σ[i]?=ae (ae v)->∃a o,v=.ref a/\Rep All H v (ρ.getD i .uD)/\inner (ρ.getD i .uD)=af/\H a=ae o/\wD o=af/\∀j,own j=af->σ[j]?=ae (ae (.ref a))->j=i
variable {own:ai->ax}
def ES.er(e:ES own H σ ρ):ER H σ ρ:=λi hi=>by
 obtain⟨v,h1,h2⟩:=e.at_ i hi;cases ho:own i with
 |false=>exact⟨v,h1,(h2 ho).all⟩
 |true=>
  obtain⟨a,o,_,h3,_⟩:=e.own i v ho h1;exact⟨v,h1,h3⟩
def ES.live(e:ES own H σ ρ)(h:Own own σ a):∃o,H a=ae o/\wD o=af:=by
 obtain⟨i,hi,hs⟩:=h;obtain⟨b,o,eb,_,_,h3,h4,_⟩:=e.own i _ hi hs;cases eb;exact⟨o,h3,h4⟩
def ES.same(e:ES own H σ ρ)(s:cD H H'):ES own H' σ ρ:=by
 refine⟨e.len,λi hi=>?_,λi v hi hv=>?_⟩
 .obtain⟨v,h1,h2⟩:=e.at_ i hi;exact⟨v,h1,λho=>(h2 ho).same s⟩
 .obtain⟨a,o,h1,h2,h3,h4,h5,h6⟩:=e.own i v hi hv;exact⟨a,o,h1,h2.same s,h3,s _ _ h4,h5,h6⟩
def KU(own:ai->ax)(σ:L2.St)(H:Hp)(σ':L2.St)(H':Hp):Prop:=∀a o,H a=ae o->¬Own own σ a->H' a=ae o/\¬Own own σ' a
def KU.trans(a:KU own σ H σ1 H1)(b:KU own σ1 H1 σ2 H2):KU own σ H σ2 H2:=λc o e n=>let ⟨e1,n1⟩:=a c o e n;b c o e1 n1
def KU.same(s:cD H H'):KU own σ H σ H':=λa o e n=>⟨s a o e,n⟩
def KU.keep(k:KU own σ H σ' H')(e:ES own H σ ρ):HX (λa=>¬Own own σ a) H H':=λa o h hp=>by
 by_cases ho:Own own σ a
 .obtain⟨o',h1,h2⟩:=e.live ho;rw[h] at h1;cases h1;rcases hp with hp|hp
  .exact bg ho hp
  .rw[h2] at hp;cases hp
 .exact(k a o h ho).1
def KU.rep(k:KU own σ H σ' H')(e:ES own H σ ρ)(r:Rep (λa=>¬Own own σ a) H v d):Rep (λa=>¬Own own σ' a) H' v d:=r.Z7 (k.keep e) λa o h n=>(k a o h n).2
def kRt(own:ai->ax)(D:Ends)(σ:L2.St)(H:Hp)(d:Mi.D):Prop:=if own rtX=af then ∃d0 ρ',d=.tup (d0::ρ')/\∀v σ' H',KU own σ H σ' H'->ES own H' σ' ρ'->Rep (λa=>Own own σ a\/H a=ao) H' v d0->D.rt v H'
  else ∀v H',(∀a o,H a=ae o->¬Own own σ a->H' a=ae o)->Rep (λa=>Own own σ a\/H a=ao) H' v d->D.rt v H'
def kRt.old{D:Ends}(h:kRt own D σ H d)(hx:own rtX=aj):∀v H',(∀a o,H a=ae o->¬Own own σ a->H' a=ae o)->Rep (λa=>Own own σ a\/H a=ao) H' v d->D.rt v H':=by
 unfold kRt at h;rw[aw (by rw[hx];simp)] at h;exact h
def kRt.mk{D:Ends}(hx:own rtX=aj)(h:∀v H',(∀a o,H a=ae o->¬Own own σ a->H' a=ae o)->Rep (λa=>Own own σ a\/H a=ao) H' v d->D.rt v H'):kRt own D σ H d:=by
 unfold kRt;rw[aw (by rw[hx];simp)];exact h
def kS(own:ai->ax)(D:Ends)(σ:L2.St)(H:Hp):Fl->Prop
 |.nx ρ=>∀σ' H',KU own σ H σ' H'->ES own H' σ' ρ->D.nx σ' H'
 |.bk ρ=>∀σ' H',KU own σ H σ' H'->ES own H' σ' ρ->D.bk σ' H'
 |.ct ρ=>∀σ' H',KU own σ H σ' H'->ES own H' σ' ρ->D.ct σ' H'
 |.rt d=>kRt own D σ H d
def kS.step{D:Ends}{σ σ':L2.St}{H H':Hp}{fl:Fl}(k:KU own σ H σ' H')(h:kS own D σ H fl):kS own D σ' H' fl:=by
 cases fl with
 |nx ρ=>exact λσ2 H2 k2 e=>h σ2 H2 (k.trans k2) e
 |bk ρ=>exact λσ2 H2 k2 e=>h σ2 H2 (k.trans k2) e
 |ct ρ=>exact λσ2 H2 k2 e=>h σ2 H2 (k.trans k2) e
 |rt d=>
  have old:∀a,(Own own σ' a\/H' a=ao)->Own own σ a\/H a=ao:=λa ha=>by
   cases q:H a with
   |none=>exact .inr rfl
   |some o=>
    refine .inl (so λn=>?_);obtain⟨e1,n1⟩:=k a o q n;rcases ha with ha|ha
    .exact n1 ha
    .rw[e1] at ha;cases ha
  have h:kRt own D σ H d:=h;show kRt own D σ' H' d;unfold kRt at h ⊢;by_cases hx:own rtX=af
  .rw[av hx] at h ⊢;obtain⟨d0,ρ',e,g⟩:=h;exact⟨d0,ρ',e,λv σ2 H2 k2 E2 r=>g v σ2 H2 (k.trans k2) E2 (r.mono old)⟩
  .rw[aw hx] at h ⊢;exact λv H2 hk r=>h v H2 (λa o e n=>let ⟨e1,n1⟩:=k a o e n;hk a o e1 n1) (r.mono λa ha=>old a ha)
noncomputable def tS(own:ai->ax)(f:FS):TS:=λD σ H=>∃ρ fl,ES own H σ ρ/\f ρ=.ok fl/\kS own D σ H fl
def PS.imp{st:bz}(h:PS X st t)(i:∀D σ H,t' D σ H->t D σ H):PS X st t':=λΨ s σ H D I q=>h Ψ s σ H D I (i D σ H q)
def PSs.imp{st:aa bz}{t t':TS}(h:PSs X st t)(i:∀D σ H,t' D σ H->t D σ H):PSs X st t':=λΨ s σ H D I q=>h Ψ s σ H D I (i D σ H q)
section
variable {X:Cx} {a b c e:Expr} {pos pos':de} {fe:FE} {re:ax} {gc:FT} {f g:FS} {st:bz} {rest s1 s2:aa bz}
def cN:PSs X [] (tS own n8):=PSs.imp aB1 λD σ H z0=>by
 obtain⟨ρ,fl,E,h,q⟩:=z0;cases h;exact q σ H (λa o e n=>⟨e,n⟩) E
def aKd{D:Ends}(h:tS own (bM f g) D σ H):aSa (tS own f) (tS own g) D σ H:=by
 obtain⟨ρ,fl,E,h,q⟩:=h;obtain⟨r,h1,h2⟩:=bF h;refine⟨ρ,r,E,h1,?_⟩;cases r with
 |nx ρ'=>exact λσ' H' k E'=>⟨ρ',fl,E',h2,q.step k⟩
 |bk ρ'=>cases h2;exact q
 |ct ρ'=>cases h2;exact q
 |rt d=>cases h2;exact q
def aF(h1:PS X st (tS own f))(h2:PSs X rest (tS own g)):PSs X (st::rest) (tS own (bM f g)):=PSs.imp (wJ h1 h2) λ_ _ _=>aKd
def aN(h1:PS X st (tS own f)):PSs X [st] (tS own f):=aB2 h1
def iD(hc:PT X c (gT gc))(ha:PSs X s1 (tS own f))(hb:PSs X s2 (tS own g)):PS X (.If c s1 s2 pos) (tS own (sIf gc f g)):=PS.imp (aNb hc ha hb) λD σ H z0=>by
 obtain⟨ρ,fl,E,h,q⟩:=z0;obtain⟨k,h1,h2⟩:=bF h;refine⟨ρ,k,E.er,h1,λH' s=>?_⟩;cases k with
 |true=>rw[av rfl];rw[av rfl] at h2;exact⟨ρ,fl,E.same s,h2,q.step (.same s)⟩
 |false=>rw[aw 0x2];rw[aw 0x2] at h2;exact⟨ρ,fl,E.same s,h2,q.step (.same s)⟩
def cZ(he:PE X e (gE fe re))(hx:autoParam (own rtX=aj) Ω):PS X (.Return (ae e) pos) (tS own (lC fe re)):=PS.imp (aB3 he) λD σ H z0=>by
 obtain⟨ρ,fl,E,h,q⟩:=z0;obtain⟨d,h1,h2⟩:=bF h;split at h2
 .rename_i hk;cases h2;refine⟨ρ,d,E.er,h1,λv H' s r n=>q.old hx v H' (λa o e _=>s a o e) ?_⟩;rw[jl] at hk;rcases hk with hk|hk
  .exact(n hk).mono λa ha=>.inr ha
  .exact r.bZ hk
 .exact bx h2
def u5(ho:own i=af)(hN:X.N[i]?=ae x)(hv:Vis X.env.scope x)(hd:autoParam (nDb x) Λ)(hcd:autoParam (nCd x) Λ)(hx:autoParam (own rtX=aj) Ω):PS X (.Return (ae (.Name x pos')) pos) (tS own (HS i)):=
 PS.imp (aB3 (j_ hN hv hd hcd)) λD σ H z0=>by
 obtain⟨ρ,fl,E,h,q⟩:=z0;obtain⟨d,h1,h2⟩:=bF h;cases h2;obtain⟨v,hv,r,e⟩:=E.er.var h1;obtain⟨a,o,rfl,r2,hin,_⟩:=E.own i v ho hv;rw[e] at hin;exact⟨_,hv,q.old hx _ H (λa o e _=>e) (r.aMu hin (.inl ⟨i,ho,hv⟩))⟩
def sS(ho:own i=aj)(a:aq):Own own (σ.set i (ae v)) a↔Own own σ a:=by
 constructor
 .rintro⟨j,hj,e⟩;have:i≠j:=λz=>by subst z;rw[ho] at hj;cases hj
  rw[eD this] at e;exact⟨j,hj,e⟩
 .rintro⟨j,hj,e⟩;have:i≠j:=λz=>by subst z;rw[ho] at hj;cases hj
  exact⟨j,hj,by rw[eD this];exact e⟩
def bR{ρ:aa D}:(ρ.set i d).getD j .uD=if i=j/\i<ρ.length then d else ρ.getD j .uD:=by
 rw[eJ,eJ,og];by_cases h:i=j
 .subst h;by_cases h2:i<ρ.length
  .simp[h2]
  .simp[h2]
 .simp[h]
theorem ES.set(E:ES own H σ ρ)(ho:own i=aj)(r:Rep (λa=>¬Own own σ a) H v d):ES own H (σ.set i (ae v)) (ρ.set i d):=by
 have hO:(λa=>¬Own own (σ.set i (ae v)) a)=λa=>¬Own own σ a:=funext λa=>by rw[sS ho]
 refine⟨by simp[E.len],λj hj=>?_,λj w hj hw=>?_⟩
 .rw[bR] at hj ⊢;rw[hO];by_cases h:i=j/\i<ρ.length
  .rw[av h];obtain⟨rfl,hl⟩:=h;exact⟨v,by rw[gw (by rw[E.len];exact hl)],λ_=>r⟩
  .rw[aw h] at hj ⊢;obtain⟨w,h1,h2⟩:=E.at_ j hj;by_cases hij:i=j
   .subst hij;have:i<σ.length:=(dz.mp h1).1;rw[E.len] at this;exact bg ⟨rfl,this⟩ h
   .exact⟨w,by rw[eD hij];exact h1,h2⟩
 .have hij:i≠j:=λz=>by subst z;rw[ho] at hj;cases hj
  rw[eD hij] at hw;rw[bR,aw λz=>hij z.1];obtain⟨a,o,h1,h2,h3,h4,h5,h6⟩:=E.own j w hj hw;refine⟨a,o,h1,h2,h3,h4,h5,λk hk hs=>h6 k hk ?_⟩;have hik:i≠k:=λz=>by subst z;rw[ho] at hk;cases hk
  rwa [eD hik] at hs
theorem ES.aSh{i:ai}{a:aq}{o:HO}{d:D}(E:ES own H σ ρ)(s:cD H H')(ho:own i=af)(hn:H a=ao)(r:Rep All H' (.ref a) d)(hin:inner d=af)(ha:H' a=ae o)(hm:wD o=af) :
  ES own H' (σ.set i (ae (.ref a))) (ρ.set i d)/\KU own σ H (σ.set i (ae (.ref a))) H':=by
 have hO:∀b,H b≠ao->¬Own own σ b->¬Own own (σ.set i (ae (.ref a))) b:=λb hb n z0=>by
  obtain⟨j,hj,e⟩:=z0;by_cases hij:i=j
  .subst hij;by_cases hl:i<σ.length
   .rw[gw hl] at e;cases e;exact hb hn
   .rw[og,av rfl,aw hl] at e;cases e
  .rw[eD hij] at e;exact n ⟨j,hj,e⟩
 refine⟨⟨by simp[E.len],λj hj=>?_,λj w hj hw=>?_⟩,λb ob e n=>⟨s b ob e,hO b (by rw[e];simp) n⟩⟩
 .rw[bR] at hj ⊢;by_cases h:i=j/\i<ρ.length
  .rw[av h];obtain⟨rfl,hl⟩:=h;exact⟨.ref a,by rw[gw (by rw[E.len];exact hl)],λz=>by rw[ho] at z;cases z⟩
  .rw[aw h] at hj ⊢;obtain⟨w,h1,h2⟩:=E.at_ j hj;by_cases hij:i=j
   .subst hij;have:i<σ.length:=(dz.mp h1).1;rw[E.len] at this;exact bg ⟨rfl,this⟩ h
   .exact⟨w,by rw[eD hij];exact h1,λhj=>((h2 hj).dom.same s).mono λb ⟨n,hb⟩=>hO b hb n⟩
 .by_cases hij:i=j
  .subst hij;have hl:i<σ.length:=by
    have:=(dz.mp hw).1;simpa using this
   rw[gw hl] at hw;cases hw;rw[bR,av ⟨rfl,by rw[<-E.len];exact hl⟩];refine⟨a,o,rfl,r,hin,ha,hm,λk hk hs=>?_⟩;by_cases hik:i=k
   .exact hik.symm
   .rw[eD hik] at hs;obtain⟨o',h1,_⟩:=E.live ⟨k,hk,hs⟩;rw[hn] at h1;cases h1
  .rw[eD hij] at hw;rw[bR,aw λz=>hij z.1];obtain⟨b,ob,h1,h2,h3,h4,h5,h6⟩:=E.own j w hj hw;refine⟨b,ob,h1,h2.same s,h3,s _ _ h4,h5,λk hk hs=>?_⟩;by_cases hik:i=k
   .subst hik;by_cases hl:i<σ.length
    .rw[gw hl] at hs;cases hs;rw[hn] at h4;cases h4
    .rw[og,av rfl,aw hl] at hs;cases hs
   .rw[eD hik] at hs;exact h6 k hk hs
def aIf(r:Rep P H v d)(hin:inner d=af):∃a o,v=.ref a/\P a/\H a=ae o/\wD o=af:=by
 cases r with
 |lst e p r=>exact⟨_,_,rfl,p,e,rfl⟩
 |dK e p r n=>exact⟨_,_,rfl,p,e,rfl⟩
 |dT e p r n=>exact⟨_,_,rfl,p,e,rfl⟩
 |_=>cases hin
def aKe(E:ES own H σ ρ)(r:Rep (New H) H' v d):Rep (λa=>¬Own own σ a) H' v d:=r.mono λa ha ho=>by
 obtain⟨o,h1,_⟩:=E.live ho;rw[show H a=ao from ha] at h1;cases h1
def U4(ho:own i=o)(h:tS own (cH o i fe re) D' σ H):aNd (gE fe re) (BR i) D' σ H:=by
 obtain⟨ρ,fl,E,h,q⟩:=h;obtain⟨d,h1,h2⟩:=bF h;cases o with
 |true=>
  simp only[cq] at h2;split at h2
  .rename_i hk;cases h2;refine⟨ρ,d,E.er,h1,λv H' s r n=>?_⟩;rw[bn] at hk;obtain⟨a,ob,rfl,hn,ha,hm⟩:=aIf (n hk.1) hk.2;obtain⟨E2,k⟩:=E.aSh s ho hn r hk.2 ha hm;exact q _ H' k E2
  .exact bx h2
 |false=>
  simp only[dm,ck] at h2;split at h2
  .rename_i hk;cases h2;refine⟨ρ,d,E.er,h1,λv H' s r n=>?_⟩;rw[jl] at hk;have r2:Rep (λa=>¬Own own σ a) H' v d:=by
    rcases hk with hk|hk
    .exact aKe E (n hk)
    .exact r.bZ hk
   exact q _ H' (λa ob e hn=>⟨s a ob e,by rw[sS ho];exact hn⟩) ((E.same s).set ho r2)
  .exact bx h2
def dO(ho:own i=o)(hN:X.N.Nodup)(hi:X.N[i]?=ae x)(hx:Loc X.env.scope x)(he:PE X e (gE fe re))(hs:autoParam (zSw X e x pos' pos) Ω)(hf:autoParam (zFn X x) Ξ) :
  PS X (.Assign [.Name x pos'] e pos) (tS own (cH o i fe re)):=PS.imp (M9 hN hi hx he hs hf) λ_ _ _=>U4 ho
def cW{i:ai}{x:Str}{o:ax}(he:PE X e (gE fe re))(ho:autoParam (own i=o) Ω)(hN:X.N.Nodup:=by assumption)(hi:X.N[i]?=ae x:=by exact rfl)(hx:Loc X.env.scope x:=by trivial)(hs:autoParam (zSw X e x pos' pos) Ω)(hf:autoParam (zFn X x) Ξ):PS X (.Assign [.Name x pos'] e pos) (tS own (cH o i fe re)):=dO ho hN hi hx he hs hf
def aOg(ho:own i=aj)(hoj:own j=aj)(hN:X.N.Nodup)(hi:X.N[i]?=ae x)(hx:Loc X.env.scope x)(hj:X.N[j]?=ae y)(hy:Vis X.env.scope y)(hs:autoParam (fi (.Name y py) (ae (.Name x pos')) pos.line X.env=pure aj) Ω)(hf:autoParam (zFn X x) Ξ)
 (hd:autoParam ((y==("__debug__" : Str))=aj) Λ)(hcd:autoParam ((y==("__classdict__" : Str))=aj) Λ):PS X (.Assign [.Name x pos'] (.Name y py) pos) (tS own (sAl i j)):=PS.imp (M9 hN hi hx (j_ hj hy hd hcd) hs hf) λD' σ H z0=>by
 obtain⟨ρ,fl,E,h,q⟩:=z0;obtain⟨d,h1,h2⟩:=bF h;cases h2;obtain⟨v,hv,r,e⟩:=E.er.var h1;have hne:ρ.getD j .uD≠.uD:=λz=>by
  rw[z] at e;subst e;exact Rep.uD r
 obtain⟨w,hw,hr⟩:=E.at_ j hne;rw[hv] at hw;cases hw;have r2:=hr hoj;rw[e] at r2;exact⟨v,hv,q _ H (λa ob e hn=>⟨e,by rw[sS ho];exact hn⟩) (E.set ho r2)⟩
theorem ES.mut{i:ai}{a:aq}{o:HO}{d:D}(E:ES own H σ ρ)(ho:own i=af)(hi:σ[i]?=ae (ae (.ref a)))(hm:wD o=af)(r:Rep All (upd H a o) (.ref a) d)(hin:inner d=af) :
  ES own (upd H a o) σ (ρ.set i d)/\KU own σ H σ (upd H a o):=by
 have hOa:Own own σ a:=⟨i,ho,hi⟩
 obtain⟨a',oa,ea,_,_,hHa,hma,huq⟩:=E.own i _ ho hi;cases ea;have k:KU own σ H σ (upd H a o):=λb ob e n=>⟨by rw[bA (λz=>by subst z;exact n hOa)];exact e,n⟩
 have hl:i<ρ.length:=by rw[<-E.len];exact(dz.mp hi).1
 refine⟨⟨by simp[E.len],λj hj=>?_,λj w hj hw=>?_⟩,k⟩
 .rw[bR] at hj ⊢;by_cases h:i=j/\i<ρ.length
  .obtain⟨rfl,_⟩:=h;exact⟨_,hi,λz=>by rw[ho] at z;cases z⟩
  .rw[aw h] at hj ⊢;obtain⟨w,h1,h2⟩:=E.at_ j hj;exact⟨w,h1,λhj=>k.rep E (h2 hj)⟩
 .by_cases hij:i=j
  .subst hij;rw[hi] at hw;cases hw;rw[bR,av ⟨rfl,hl⟩];exact⟨a,o,rfl,r,hin,aM,hm,huq⟩
  .rw[bR,aw λz=>hij z.1];obtain⟨b,ob,h1,h2,h3,h4,h5,h6⟩:=E.own j w hj hw;subst h1;have hba:b≠a:=λz=>by subst z;exact hij (h6 i ho hi)
   refine⟨b,ob,rfl,?_,h3,by rw[bA hba];exact h4,h5,h6⟩;refine(h2.aMu (P':=λc=>c=b) h3 rfl).keep (λc oc hc hp=>?_) λ_ _=>trivial
   rw[bA]
   .exact hc
   .intro z;subst z;rcases hp with hp|hp
    .exact hba hp.symm
    .rw[hHa] at hc;cases hc;rw[hma] at hp;cases hp
def ES.ownAt(E:ES own H σ ρ)(ho:own i=af)(hd:ρ.getD i .uD≠.uD):∃a o,σ[i]?=ae (ae (.ref a))/\Rep All H (.ref a) (ρ.getD i .uD)/\inner (ρ.getD i .uD)=af/\H a=ae o/\wD o=af:=by
 obtain⟨v,h1,_⟩:=E.at_ i hd;obtain⟨a,o,rfl,h2,h3,h4,h5,_⟩:=E.own i v ho h1;exact⟨a,o,h1,h2,h3,h4,h5⟩
def yR{a:aq}(r:Rep All H (.ref a) (.lst xs)):∃vs,H a=ae (.lst vs)/\bN All H vs xs:=by
 cases r with
 |lst e _ r=>exact⟨_,e,r⟩
def bN.upd{a:aq}{xs:aa D}{o:HO}{ob:HO}(r:bN All H vs xs)(hp:θ xs=af)(ha:H a=ae ob)(hm:wD ob=af):bN All (upd H a o) vs xs:=by
 refine(r.bZ (P':=λ_=>c9) hp).keep (λc oc hc h=>?_) λ_ h=>h.elim
 rw[bA]
 .exact hc
 .intro z;subst z;rcases h with h|h
  .exact h
  .rw[ha] at hc;cases hc;rw[hm] at h;cases h
def oR:θ (xs++ys)=(θ xs&&θ ys):=by
 induction xs with
 |nil=>simp[θ]
 |cons x xs ih=>rw[eC,θ,θ,ih,zo]
theorem jJ(ho:own i=af)(hN:X.N[i]?=ae x)(hv:Vis X.env.scope x)(he:PE X e (gE fe re))(hd:autoParam (nDb x) Λ)(hcd:autoParam (nCd x) Λ)
 (hbase:autoParam (jz (.Name x p1) "append" X.env (cK (.Name x p1) X.env)=cK (.Name x p1) X.env) Ω)
 (hs1:autoParam (zSE X e []) Ω)
 (hfew:autoParam (zFw X cpos [e]) Ω)
 (hline:autoParam ((apos.endLine==cpos.line)=af) Ω)
 (hs:autoParam (fi (.Call (.Attribute (.Name x p1) "append" apos) [e] [] cpos) ao pos.line X.env=pure aj) Ω) :
  PS X (.Expr (.Call (.Attribute (.Name x p1) "append" apos) [e] [] cpos) pos) (tS own (wN i fe)):=
 PS.imp (xR (aBb mw uS A4 xY (j_ hN hv hd hcd) (kI he rF hs1) hbase hfew hline hs1 rfl) hs) λD' σ H z0=>by
 obtain⟨ρ,fl,E,h,q⟩:=z0;obtain⟨d,h1,h2⟩:=bF h;split at h2
 .rename_i xs hx;split at h2
  .rename_i hk;cases h2;rw[bn] at hk;obtain⟨a,o,hσ,r,hin,ha,hm⟩:=E.ownAt ho (by rw[hx];intro z;cases z);rw[hx] at r hin;obtain⟨vs,hl,rr⟩:=yR r;refine⟨_,hσ,.inl ⟨rfl,vs,.of hl⟩,ρ,d,E.er,h1,λv H' s rv _=>⟨a,vs,v,rfl,rfl,s _ _ hl,by rw[rr.length];exact O_ hk.1,?_⟩⟩;have E':=E.same s;have hl':=s _ _ hl;obtain⟨E2,k2⟩:=E'.mut ho hσ rfl (.lst aM trivial (((rr.same s).snoc rv).upd (by rw[oR];simp only[bn];exact⟨hin,by simp[θ,hk.2]⟩) hl' rfl)) (by show θ (xs++[d])=af;rw[oR];simp only[bn];exact⟨hin,by simp[θ,hk.2]⟩);exact q _ _ ((KU.same s).trans k2) E2
  .exact bx h2
 .exact bx h2
end
end Mi
namespace L2
open PySem PySem.Spec PyProof.Rows
section
variable {X:Cx} {scope:fT} {own:aa Str}
theorem aGk{y:Str}{py:de}{iy:ai}(hNn:X.N.Nodup)(hiy:X.N[iy]?=ae y)(hxy:Loc X.env.scope y)(hfy:zFn X y){Ψ:aa (aq×b9)}{σ:St}{D:Ends}{p C:aq}{H5:Hp}{s6:ay}{m6:Str->aS ap}(f:Inv X Ψ σ H5 s6)(k:aAq X Ψ H5 C)(n:s6.heap.Ns C m6)(q:BR iy (.ref p) σ H5 D.nx):l9 (az X.prog X.w) X.A X.xe (ae (mP (.Name y py) X.env)) (λ_ s'=>SP X Ψ D .next s') (.ref p) C (.ok .next) s6:=by
 obtain⟨oC,esC,epC,hoC,hdC,_⟩:=id n;have finP:=f.S7 (pins':=Ψ++[(C,oC)]) λp hp=>(cw.mp hp).elim (λz=>f.pin p (en _ z)) λz=>by
  have z':p=(C,oC):=by simpa using z
  subst z';exact⟨hoC,k.1,k.2.1,k.2.2.1,λv z=>by rw[hdC] at z;cases z⟩
 refine thn (aZ (pos:=py) hNn hiy hxy hfy _ _ σ H5 (.ref p) (.ref p) D.nx finP rfl q) λ_ s7 ⟨σ7,H7,I7,q7⟩=>?_
 obtain⟨g7,hC7,_⟩:=I7.pin (C,oC) (en _ (en _ 0x2));refine⟨m6,n.at' λo e=>?_,λh' sb=>⟨σ7,H7,Inv.turned (t':=s7.toks) I7.tO (λb o hb e=>sb.extBut b o hb e) hC7 k.2.1 k.2.2.2.1 k.2.2.2.2.1 k.2.2.2.2.2,q7⟩⟩;rw[hoC] at e;cases e;exact g7
def aOh{elt iter tg:Expr}{ifs:aa Expr}{wi:TI}{g:TG}{tc:TT}{te:TE}{pos:de}(S:eF X.N X.env.scope scope own)(hcalm:X.calm=af)(hi:PI X tg iter wi)
 (hg:∀X',dZ X X' scope own->PG X' tg g)(hc:(ifs=[]/\tc=λ_ H Q=>Q af H)\/∃c,ifs=[c]/\∀X',dZ X X' scope own->PT X' c tc)(he:∀X',dZ X X' scope own->PE X' elt te)
 (hs:∀x,eW iter X.env x=pure x){y:Str}{py pos2:de}{iy:ai}(hNn:X.N.Nodup)(hiy:X.N[iy]?=ae y)(hxy:Loc X.env.scope y)(hfy:zFn X y)(hsw:fi (.ListComp elt [⟨tg,iter,ifs,0⟩] scope pos) (ae (.Name y py)) pos2.line X.env=pure af):PS X (.Assign [.Name y py] (.ListComp elt [⟨tg,iter,ifs,0⟩] scope pos) pos2) (aNd (T_ wi g tc te own.length) (BR iy)):=by
 intro Ψ s σ H D I h;rw[exec_Assign_Name_used _ _ _ _ hsw];refine aE (A5 (aE ?_));show ϑ _ X.A (do let _ <- zm (.ListComp elt [⟨tg,iter,ifs,0⟩] scope pos) scope X.env _ (vo []) aj (cK iter X.env) (ae (mP (.Name y py) X.env))) _ _ s;exact aE (fj (UG (QQ:=λ_ s'=>SP X Ψ D .next s') S hcalm hi hg hc he hs I h (aGk hNn hiy hxy hfy)) (λ_ s' hq=>bm (bm hq)) λ_ _ e=>e)
def aCi{elt iter tg c:Expr}{wi:TI}{g:TG}{tc:TT}{te:TE}{pos:de}(S:eF X.N X.env.scope scope own)(hcalm:X.calm=af)(hi:PI X tg iter wi)
 (hg:∀X',dZ X X' scope own->PG X' tg g)(hc:∀X',dZ X X' scope own->PT X' c tc)(he:∀X',dZ X X' scope own->PE X' elt te)
 (hs:∀x,eW iter X.env x=pure x){y:Str}{py pos2:de}{iy:ai}(hNn:X.N.Nodup)(hiy:X.N[iy]?=ae y)(hxy:Loc X.env.scope y)(hfy:zFn X y)(hsw:fi (.ListComp elt [⟨tg,iter,[c],0⟩] scope pos) (ae (.Name y py)) pos2.line X.env=pure af):PS X (.Assign [.Name y py] (.ListComp elt [⟨tg,iter,[c],0⟩] scope pos) pos2) (aNd (T_ wi g tc te own.length) (BR iy)):=
 aOh S hcalm hi hg (.inr ⟨c,rfl,hc⟩) he hs hNn hiy hxy hfy hsw
def aGl{elt iter tg:Expr}{wi:TI}{g:TG}{te:TE}{pos:de}(S:eF X.N X.env.scope scope own)(hcalm:X.calm=af)(hi:PI X tg iter wi)
 (hg:∀X',dZ X X' scope own->PG X' tg g)(he:∀X',dZ X X' scope own->PE X' elt te)
 (hs:∀x,eW iter X.env x=pure x){y:Str}{py pos2:de}{iy:ai}(hNn:X.N.Nodup)(hiy:X.N[iy]?=ae y)(hxy:Loc X.env.scope y)(hfy:zFn X y)(hsw:fi (.ListComp elt [⟨tg,iter,[],0⟩] scope pos) (ae (.Name y py)) pos2.line X.env=pure af):PS X (.Assign [.Name y py] (.ListComp elt [⟨tg,iter,[],0⟩] scope pos) pos2) (aNd (T_ wi g (λ_ H Q=>Q af H) te own.length) (BR iy)):=
 aOh S hcalm hi hg (.inl ⟨rfl,rfl⟩) he hs hNn hiy hxy hfy hsw
end
end L2
namespace Mi
open PySem L2 PySem.SeqAt PySem.Spec PyProof.Rows
section
variable [KFrag]
variable {own:ai->ax}
section
variable {X:Cx} {a b c e:Expr} {pos pos':de} {fa fb fe:FE} {ra re:ax} {gc:FT} {f g:FS} {st:bz} {s1 s2:aa bz}
variable {scope:fT} {ownN:aa Str} {elt iter tg:Expr} {it:FI} {t:D->Res (aa D)} {gt:TG}
def aKf(S:eF X.N X.env.scope scope ownN)(hn:X.N.length=n)(hm:ownN.length=m)(hcalm:X.calm=af)(hi:PI X tg iter (gI X.K it))(ht:TgC gt t n m)(hg:∀X',dZ X X' scope ownN->PG X' tg gt)(he:∀X',dZ X X' scope ownN->PE X' elt (gE fe re))
 (hs:∀x,eW iter X.env x=pure x)(ho:own iy=o)(hNn:X.N.Nodup)(hiy:X.N[iy]?=ae y)(hxy:Loc X.env.scope y)(hfy:zFn X y)(hsw:fi (.ListComp elt [⟨tg,iter,[],0⟩] scope pos) (ae (.Name y py)) pos2.line X.env=pure af) :
  PS X (.Assign [.Name y py] (.ListComp elt [⟨tg,iter,[],0⟩] scope pos) pos2) (tS own (cH o iy (fJ n it t iU fe re) af)):=by
 intro Ψ s σ H D I h;subst hm;refine aGl S hcalm hi hg he hs hNn hiy hxy hfy hsw Ψ s σ H D I ?_;exact uC ht (λσ H Q h=>by obtain⟨ρ,b,E,h,q⟩:=h;cases h;exact q H (cD.refl H)) (I.len.trans hn) (U4 ho h)
def aCj(S:eF X.N X.env.scope scope ownN)(hn:X.N.length=n)(hm:ownN.length=m)(hcalm:X.calm=af)(hi:PI X tg iter (gI X.K it))(ht:TgC gt t n m)(hg:∀X',dZ X X' scope ownN->PG X' tg gt)(hc:∀X',dZ X X' scope ownN->PT X' c (gT gc))(he:∀X',dZ X X' scope ownN->PE X' elt (gE fe re))
 (hs:∀x,eW iter X.env x=pure x)(ho:own iy=o)(hNn:X.N.Nodup)(hiy:X.N[iy]?=ae y)(hxy:Loc X.env.scope y)(hfy:zFn X y)(hsw:fi (.ListComp elt [⟨tg,iter,[c],0⟩] scope pos) (ae (.Name y py)) pos2.line X.env=pure af) :
  PS X (.Assign [.Name y py] (.ListComp elt [⟨tg,iter,[c],0⟩] scope pos) pos2) (tS own (cH o iy (fJ n it t gc fe re) af)):=by
 intro Ψ s σ H D I h;subst hm;refine aCi S hcalm hi hg hc he hs hNn hiy hxy hfy hsw Ψ s σ H D I ?_;exact uC ht (λσ H Q h=>h) (I.len.trans hn) (U4 ho h)
def aKg:V->aa V->Hp->VK->Prop:=λx vs H Q=>∃l xs j y,x=.ref l/\vs=[.int j,y]/\H l=ae (.lst xs)/\0<=j/\j<=xs.length/\xs.length<bp/\Q .non (upd H l (.lst (xs.take j.toNat++y::xs.drop j.toNat)))
theorem aCk:MtR X "list.insert" aKg:=by
 intro Ψ s σ H x vs v us Q I rx rv h;obtain⟨l,xs,j,y,rfl,rfl,hH,h0,h1,hz,q⟩:=h;cases rx;cases rv with
 |cons rj rv=>
  cases rv with
  |cons ry rv=>
   cases rv;obtain⟨tt,rfl⟩:=rj;obtain⟨z,its,n,r,hl,e⟩:=I.aMq hH;have hs:bp=16777216:=e8;refine jI A6 ⟨_,e,rfl⟩ F.entry_list_insert (F.args_list_insert_3 _ _ _) (CU l its.toArray n j tt _ (by
    rw[show A7 j=af from by unfold A7;simp only[bn,em];lia];decide) (by rw[cg];lia)) ⟨e,?_⟩
   refine⟨.non,_,I.aNu hH e ?_ ((r.take j.toNat).append (.cons ry (r.drop j.toNat))) ?_,rfl,q⟩
   .have hj:¬j<0:=by lia
    have hm:min j.toNat its.length=j.toNat:=by lia
    simp only[hj,ck,cg,hm];apply l5.mp;simp[List.extract_eq_drop_take]
    first|rfl|(rw[jg];simp)
   .rw[cb,cr,ig,jd];lia
theorem aOi(ho:own i=af)(hN:X.N[i]?=ae x)(hv:Vis X.env.scope x)(ha:PE X a (gE fa ra))(he:PE X e (gE fe re))(hd:autoParam (nDb x) Λ)(hcd:autoParam (nCd x) Λ)
 (hbase:autoParam (jz (.Name x p1) "insert" X.env (cK (.Name x p1) X.env)=cK (.Name x p1) X.env) Ω)
 (hs0:autoParam (dQ [a,e] X.env=(aj,cK a X.env)::dQ [e] X.env) Ω)(hs1:autoParam (zSE X e []) Ω)
 (hfew:autoParam (((jq cpos (dQ [a,e] X.env)).all (λx=>!x.1)&&(backToKw cpos (xt [] X.env)).all (λx=>x.1.isSome)
  &&ϒ (([a,e]:aa Expr).length+([]:aa oy).length+(if ([]:aa oy).isEmpty then 0 else 1)<30))=af) Ω)
 (hline:autoParam ((apos.endLine==cpos.line)=af) Ω)(hpl:autoParam ((jq cpos (dQ [e] X.env)).any (·.1)=aj) Ω)
 (hs:autoParam (fi (.Call (.Attribute (.Name x p1) "insert" apos) [a,e] [] cpos) ao pos.line X.env=pure aj) Ω) :
  PS X (.Expr (.Call (.Attribute (.Name x p1) "insert" apos) [a,e] [] cpos) pos) (tS own (aQf i fa fe)):=
 PS.imp (xR (aBb mw A6 PySem.F.type_list_insert aCk (j_ hN hv hd hcd) (kI ha (kI he rF hs1) hs0) hbase hfew hline hs0 hpl) hs) λD' σ H z0=>by
 obtain⟨ρ,fl,E,h,q⟩:=z0;obtain⟨j,h0,h⟩:=bF h;obtain⟨d,h1,h2⟩:=bF h;split at h2
 .rename_i xs jj hx;split at h2
  .rename_i hk;cases h2;simp only[bn,em] at hk;obtain⟨⟨⟨hk1,hk2⟩,hk3⟩,hk4⟩:=hk;obtain⟨a,o,hσ,r,hin,ha,hm⟩:=E.ownAt ho (by rw[hx];intro z;cases z);rw[hx] at r hin;obtain⟨vs,hl,rr⟩:=yR r;refine⟨_,hσ,.inl ⟨rfl,vs,.of hl⟩,ρ,_,E.er,h0,λv0 H0 s0 rv0 _=>⟨ρ,d,E.er.same s0,h1,λv H' s rv _=>?_⟩⟩;cases rv0.inv;have s':=s0.trans s;refine⟨a,vs,jj,v,rfl,rfl,s' _ _ hl,hk3,by rw[rr.length];exact hk4,by rw[rr.length];exact eP hk1 (by rw[e8];decide),?_⟩;have E':=E.same s';have hl':=s' _ _ hl;have hin':θ xs=af:=hin;have hp:θ (xs.take jj.toNat++d::xs.drop jj.toNat)=af:=mC.mpr λy hy=>by
    rcases cw.mp hy with hy|hy
    .exact mC.mp hin' y (List.mem_of_mem_take hy)
    .rcases bq.mp hy with rfl|hy
     .exact hk2
     .exact mC.mp hin' y (yT hy)
   have rr':=rr.same s';obtain⟨E2,k2⟩:=E'.mut ho hσ rfl (.lst aM trivial (((rr'.take jj.toNat).append (.cons rv (rr'.drop jj.toNat))).upd hp hl' rfl)) hp;exact q _ _ ((KU.same s').trans k2) E2
  .exact bx h2
 .exact bx h2
theorem JK[fy κ]{k:κ}(e:p.1=k)(h:k∉r.map (·.1)):putK (p::r) k v=(k,v)::r:=by
 unfold putK;rw[av (by simp[e]),bj,av e,e]
 congr 1
 have:∀q∈r,(λkv:κ×V=>if kv.1=k then (kv.1,v) else kv) q=id q:=λq hq=>by
  have:q.1≠k:=λz=>h (aT.mpr ⟨q,hq,z⟩)
  simp[this]
 rw[dh this,gq]
def JL[fy κ]{k:κ}(e:¬p.1=k):putK (p::r) k v=p::putK r k v:=by
 unfold putK;rw[kK,c8 e,nr];split
 .rw[bj,aw e]
 .rfl
def mG[fy κ]:∀{kvs:aa (κ×V)},(kvs.map (·.1)).Nodup->((putK kvs k v).map (·.1)).Nodup:=λ{kvs} h=>by
 by_cases hk:tK kvs k=ao
 .exact aJu v h hk
 .unfold putK;rw[av (by rw[tV];exact Option.isSome_iff_ne_none.mpr hk),bP];have:(λx:κ×V=>x.1) ∘ (λkv:κ×V=>if kv.1=k then (kv.1,v) else kv)=λx=>x.1:=by
   funext q
   simp only[CY];split<;>rfl
  rw[this];exact h
theorem wZ(rv:Rep P H v d):∀{kvs:aa (Key×V)}{ds:aa (D×D)},lZ P H kvs ds->(kvs.map (·.1)).Nodup->lZ P H (putK kvs k v) (putD ds (kD k) d)
 |_,_,.nil,_=>.cons rv .nil
 |_,_,.cons (k:=k') r t,hn=>by
  rw[bj] at hn;obtain⟨h1,h2⟩:=df.mp hn;rw[putD,PB];by_cases h:k'=k
  .subst h;rw[av 0x2,JK rfl h1];exact .cons rv t
  .rw[aw (by simpa using h),JL h];exact .cons r (wZ rv t h2)
theorem JM(rv:Rep P H v d):∀{kvs:aa (aa Key×V)}{ds:aa (D×D)},uX P H kvs ds->(kvs.map (·.1)).Nodup->uX P H (putK kvs k v) (putD ds (.tup (k.map kD)) d)
 |_,_,.nil,_=>.cons rv .nil
 |_,_,.cons (k:=k') r t,hn=>by
  rw[bj] at hn;obtain⟨h1,h2⟩:=df.mp hn;rw[putD,aK6];by_cases h:k'=k
  .subst h;rw[av 0x2,JK rfl h1];exact .cons rv t
  .rw[aw (by simpa using h),JL h];exact .cons r (JM rv t h2)
def lZ.length:∀{kvs:aa (Key×V)}{ds:aa (D×D)},lZ P H kvs ds->kvs.length=ds.length
 |_,_,.nil=>rfl
 |_,_,.cons _ t=>by rw[cr,cr,lZ.length t]
def uX.length:∀{kvs:aa (aa Key×V)}{ds:aa (D×D)},uX P H kvs ds->kvs.length=ds.length
 |_,_,.nil=>rfl
 |_,_,.cons _ t=>by rw[cr,cr,uX.length t]
def JN{a:aq}(ha:H a=ae ob)(hm:wD ob=af):HX (λ_=>c9) H (L2.upd H a o):=λc oc hc h=>by
 rw[bA]
 .exact hc
 .intro z;subst z;rcases h with h|h
  .exact h.elim
  .rw[ha] at hc;cases hc;rw[hm] at h;cases h
def u_(hd:d.pure=af):∀{ds:aa (D×D)},θ (ds.map (·.2))=af->θ ((putD ds k d).map (·.2))=af
 |[],_=>by simp[putD,θ,hd]
 | (q,w)::r,h=>by
  rw[bj,θ,bn] at h;rw[putD];split
  .rw[bj,θ,bn];exact⟨hd,h.2⟩
  .rw[bj,θ,bn];exact⟨h.1,u_ hd h.2⟩
theorem aRh{ad:aq}(I:Inv X Ψ σ H s)(rd:Rep All H (.ref ad) (.dct ds))(hin:θ (ds.map (·.2))=af)(rk:Rep All H y k)(hk:rC ds k=af)(hl:ds.length<bp)(rv:Rep All H v d)(hd:d.pure=af) :
  ∃H1 o,Inv X Ψ σ H1 s/\aG2 H1 ad y v (L2.upd H ad o)/\wD o=af/\Rep All (L2.upd H ad o) (.ref ad) (.dct (putD ds k d)):=by
 unfold rC at hk;rw[bn] at hk;obtain⟨h1,h2⟩:=hk;have rv':Rep (λ_=>c9) H v d:=rv.bZ hd;cases rd with
 |@dK _ kvs ds e _ r n=>
  have hlen:=r.length;rcases l_ h1 rk with ⟨q,rfl,rfl⟩|⟨b,ks,rfl,eb,rfl⟩
  .refine⟨H,.dK (putK kvs q v),I,.k e 0x1,rfl,.dK aM trivial ?_ (mG n)⟩;exact(wZ rv' (r.bZ hin) n).keep (JN e rfl) λ_ z=>z.elim
  .cases r with
   |nil=>
    refine⟨L2.upd H ad (.dT []),.dT (putK [] ks v),qT I e,?_,rfl,.dT aM trivial ?_ (mG ic)⟩
    .have:=aG2.t (H:=L2.upd H ad (.dT [])) (a:=ad) (b:=b) (kvs:=[]) (k:=ks) (v:=v) aM (by rw[bA (aJ7 eb e 0x7)];exact eb) hl;rwa [S6] at this
    .exact(JM (k:=ks) rv' .nil ic).keep (JN e rfl) λ_ z=>z.elim
   |cons r t=>
    rw[gX,qR] at h2;simp[isTup] at h2
 |@dT _ kvs ds e _ r n=>
  have hlen:=r.length;rcases l_ h1 rk with ⟨q,rfl,rfl⟩|⟨b,ks,rfl,eb,rfl⟩
  .cases r with
   |nil=>
    refine⟨L2.upd H ad (.dK []),.dK (putK [] q v),qU I e,?_,rfl,.dK aM trivial ?_ (mG ic)⟩
    .have:=aG2.k (H:=L2.upd H ad (.dK [])) (a:=ad) (kvs:=[]) (k:=q) (v:=v) aM hl;rwa [S6] at this
    .exact(wZ (k:=q) rv' .nil ic).keep (JN e rfl) λ_ z=>z.elim
   |cons r t=>
    rw[gX,qR] at h2;simp[isTup] at h2
  .refine⟨H,.dT (putK kvs ks v),I,.t e eb 0x1,rfl,.dT aM trivial ?_ (mG n)⟩;exact(JM rv' (r.bZ hin) n).keep (JN e rfl) λ_ z=>z.elim
theorem oU(hu:X.A.units+20<bE)(ho:own i=af)(hN:X.N[i]?=ae x)(hvi:Vis X.env.scope x)(hk:PE X k (gE fk rk))(hv:PE X value (gE fv rv))
 (hs:autoParam (fi value (ae (.Subscript (.Name x p1) k pos')) pos.line X.env=pure aj) Ω)(hd:autoParam (nDb x) Λ)(hcd:autoParam (nCd x) Λ) :
  PS X (.Assign [.Subscript (.Name x p1) k pos'] value pos) (tS own (M8 i fk fv)):=by
 rintro Ψ s σ H D' I ⟨ρ,fl,E,h,q⟩;obtain⟨d,h0,h⟩:=bF h;obtain⟨kd,h1,h2⟩:=bF h;split at h2
 .rename_i kvs hx;split at h2
  .rename_i hg;cases h2;simp only[bn] at hg;obtain⟨⟨hg1,hg2⟩,hg3⟩:=hg;obtain⟨a,o,hσ,r,hin,ha,hm⟩:=E.ownAt ho (by rw[hx];intro z;cases z);rw[hx] at r hin;refine A8 (thn (hv Ψ s σ H (λv H1=>cD H H1/\Rep All H1 v d) I ⟨ρ,d,E.er,h0,λv H1 s1 r1 _=>⟨s1,r1⟩⟩) λrr s1 ⟨v,H1,I1,rv1,sm1,rp1⟩=>
    thn (j_ hN hvi hd hcd Ψ s1 σ H1 (λw H2=>w=.ref a/\H2=H1) I1 ⟨_,hσ,rfl,rfl⟩) λu s2 ⟨xx,H2,I2,rx,ex,eH⟩=>
    thn (hk Ψ s2 σ H2 (λw H3=>cD H2 H3/\Rep All H3 w kd) I2 ⟨ρ,kd,by rw[eH];exact E.er.same sm1,h1,λv H1 s1 r1 _=>⟨s1,r1⟩⟩) λiv s3 ⟨y,H3,I3,ry,sm3,rp3⟩=>?_) hs
   subst ex eH;obtain rfl:u=gu a:=rx;have sm:=sm1.trans sm3;obtain⟨H4,o4,I4,g,hmo,rp⟩:=aRh I3 (r.same sm) hin rp3 hg2 (O_ hg1) (rp1.same sm3) hg3;obtain⟨E2,k2⟩:=(E.same sm).mut ho hσ hmo rp (u_ hg3 hin);exact N_ 0x1 I4 g ry rv1 λs4 I5=>⟨σ,_,I5,q _ _ ((KU.same sm).trans k2) E2⟩
  .exact bx h2
 .exact bx h2
def TgS(own:ai->ax)(g:TG)(t:D->aa D->Res (aa D)):Prop:=∀(v:V)(d:D)(ρ ρ':aa D)(σ:L2.St)(H:Hp)(Q:L2.St->Hp->Prop),ES own H σ ρ->Rep (λa=>¬Own own σ a) H v d->t d ρ=.ok ρ'->
 (∀σ',ES own H σ' ρ'->(∀a,Own own σ' a↔Own own σ a)->Q σ' H)->g v σ H Q
def fM(ho:own i=aj):TgS own (BR i) (tg1 i):=λv d ρ ρ' σ H Q E r h q=>by
 cases h;exact q _ (E.set ho r) λa=>sS ho a
theorem ES.sets:∀{is:aa ai}{vs:aa V}{ds:aa D}{σ:L2.St}{ρ:aa D},(∀i∈is,own i=aj)->ES own H σ ρ->bN (λa=>¬Own own σ a) H vs ds->ES own H (mF is vs σ) (O5 is ds ρ)/\∀a,Own own (mF is vs σ) a↔Own own σ a
 |[],_,_,_,_,_,E,_=>by simp only[mF,O5];exact⟨E,λ_=>trivial⟩
 |i::is,_,_,σ,ρ,h,E,.nil=>by simp only[mF,O5];exact⟨E,λ_=>trivial⟩
 |i::is,_,_,σ,ρ,h,E,.cons (v:=v) r t=>by
  have ho:=h i (bw ..);have hO:(λa=>¬Own own (σ.set i (ae v)) a)=λa=>¬Own own σ a:=funext λa=>by rw[sS ho]
  obtain⟨h1,h2⟩:=ES.sets (λj hj=>h j (bu _ hj)) (E.set ho r) (by rw[hO];exact t);exact⟨h1,λa=>(h2 a).trans (sS ho a)⟩
def sV(K:b6)(ho:∀i∈is,own i=aj):TgS own (aQ8 K is.length (gIx is)) (tgN is):=λv d ρ ρ' σ H Q E r h q=>by
 cases d<;>simp only[tgN] at h<;>(try (exact bx h;done))
 split at h
 .rename_i hl;cases h;have hl':=fq hl;obtain⟨a,xs,rfl,e,rr⟩:=r.gM;obtain⟨h1,h2⟩:=E.sets ho rr;exact⟨a,xs,rfl,.of e,by rw[rr.length];exact hl',JG _ _ _ (by rw[rr.length];exact hl') (q _ h1 h2)⟩
 .exact bx h
def ItQ.ku{K:b6}(h:ItQ K (λa=>¬Own own σ a) J H items)(k:KU own σ H σ' H')(E:ES own H σ ρ):ItQ K (λa=>¬Own own σ' a) J H' items:=h.keep' (k.keep E) λa o e n=>(k a o e n).2
theorem xF{K:b6}{g:TG}{t:D->aa D->Res (aa D)}{body:FS}{D':Ends}{J:It}{items:aa D}{σ:L2.St}{H1:Hp}{ρ:aa D}{fl:Fl}(tg:TgS own g t)(E:ES own H1 σ ρ)(hJ:ItQ K (λa=>¬Own own σ a) J H1 items)(hf:oK t body items ρ=.ok fl)(q:kS own D' σ H1 fl) :
  ∃W:ai->ai->L2.St->Hp->Prop,(∃m,W 0 m σ H1)/\∀i m σ H,W i m σ H->
   (J.stop i H/\D'.nx σ H)\/(J.go i H/\∃N:L2.St->Hp->Prop,(∀σ' H',N σ' H'->∃m',m'<m/\W (i+1) m' σ' H')/\∀x H',J.yld i H x H'->g x σ H' λσ2 H2=>tS own body {D' with nx:=N,ct:=N,bk:=D'.nx} σ2 H2):=by
 refine⟨λi m σ' H'=>m=items.length-i/\i<=items.length/\ItQ K (λa=>¬Own own σ' a) J H' items/\∃ρ',ES own H' σ' ρ'/\oK t body (items.drop i) ρ'=.ok fl/\kS own D' σ' H' fl,⟨items.length,rfl,fo _,hJ,ρ,E,hf,q⟩,?_⟩;rintro i m σ' H' ⟨rfl,hi,hJ',ρ',E',hf',q'⟩;rcases rf i items.length with hlt|hge
 .refine .inr ?_;have e:items[i]?=ae items[i]:=eh hlt;obtain⟨g1,g2⟩:=hJ'.go e;rw[ij hlt] at hf';obtain⟨ρ1,h1,hf2⟩:=bF hf';obtain⟨r,h2,hf3⟩:=bF hf2;refine⟨g1,λσ2 H2=>ItQ K (λa=>¬Own own σ2 a) J H2 items/\∃ρ',ES own H2 σ2 ρ'/\oK t body (items.drop (i+1)) ρ'=.ok fl/\kS own D' σ2 H2 fl,λσ2 H2 ⟨n1,n2⟩=>⟨items.length-(i+1),by lia,rfl,hlt,n1,n2⟩,λx H2 hy=>?_⟩;obtain⟨sH,rx⟩:=g2 x H2 hy;have ks:KU own σ' H' σ' H2:=λa o e n=>⟨sH a o e,n⟩
  have hJ':=hJ'.ku ks E';have q':=q'.step ks;have E':=E'.same sH;refine tg x items[i] ρ' ρ1 σ' H2 _ E' rx h1 λσ2 E2 hO=>?_
  have k0:KU own σ' H2 σ2 H2:=λa o e n=>⟨e,by rw[hO];exact n⟩
  have hJ2:=hJ'.ku k0 E';have q2:=q'.step k0;refine⟨ρ1,r,E2,h2,?_⟩;cases r with
  |nx ρ2=>exact λσ3 H3 k3 E3=>⟨hJ2.ku k3 E2,ρ2,E3,hf3,q2.step k3⟩
  |ct ρ2=>exact λσ3 H3 k3 E3=>⟨hJ2.ku k3 E2,ρ2,E3,hf3,q2.step k3⟩
  |bk ρ2=>cases hf3;exact λσ3 H3 k3 E3=>q2 σ3 H3 k3 E3
  |rt d=>cases hf3;exact q2
 .refine .inl ⟨hJ'.stop hge,?_⟩;rw[sn hge] at hf';cases hf';exact q' σ' H' (λa o e n=>⟨e,n⟩) E'
def iW{tg iter:Expr}{body:aa bz}{g:TG}{t:D->aa D->Res (aa D)}{it:FI}{fb:FS}(hp:jt (az X.prog X.w) X.A X.env X.xe)(hc:X.calm=af)(hi:PI X tg iter (gI X.K it))(ht:TgS own g t)(hg:PG X tg g)(hb:PSs X body (tS own fb))
 (hs:∀x,eW iter X.env x=pure x:=by intro _;rfl):PS X (.For tg iter body [] pos) (tS own (vV it t fb)):=PS.imp (M_ hp hc hi hg hb hs) λD' σ H z0=>by
 obtain⟨ρ,fl,E,h,q⟩:=z0;obtain⟨⟨items,k⟩,h1,h2⟩:=bF h;split at h2
 .rename_i hk;exact⟨ρ,items,k,E.er,h1,λJ H1 s1 _ hJ=>xF ht (E.same s1) ((hJ hk).keep (λ_ _ e _=>e) λa ha ho=>by
   obtain⟨o,e1,_⟩:=E.live ho;rw[show H a=ao from ha] at e1;cases e1) h2 (q.step (.same s1))⟩
 .exact bx h2
def U5{g:TG}{t:D->aa D->Res (aa D)}{i:ai}{x:Str}{px:de}{fb:FS}(ho:own i=aj)(hp:jt (az X.prog X.w) X.A X.env X.xe)(hc:X.calm=af)(hN:X.N[i]?=ae x)(hv:Vis X.env.scope x)(ht:TgS own g t)(hg:PG X tg g)(hb:PSs X body (tS own fb))
 (hs:∀z,eW (.Name x px) X.env z=pure z:=by intro _;rfl)(hd:autoParam (nDb x) Λ)(hcd:autoParam (nCd x) Λ):PS X (.For tg (.Name x px) body [] pos) (tS own (Z6 i t fb)):=PS.imp (M_ hp hc (aOf hN hv hd hcd) hg hb hs) λD' σ H z0=>by
 obtain⟨ρ,fl,E,h,q⟩:=z0;obtain⟨d,h1,h⟩:=bF h;obtain⟨items,h2,h3⟩:=bF h;obtain⟨v,hv,r,e⟩:=E.er.var h1;have hne:ρ.getD i .uD≠.uD:=λz=>by
  rw[z] at e;subst e;exact Rep.uD r
 obtain⟨w,hw,hr⟩:=E.at_ i hne;rw[hv] at hw;cases hw;have r2:=hr ho;rw[e] at r2;exact⟨v,d,items,hv,r,h2,λJ hJ=>xF ht E (hJ _ r2) h3 q⟩
theorem X5{N ps:aa Str}(hst:start N vs=vs.map ae++c_ (N.length-ps.length) ao)(hl:ds.length=ps.length)(r:bN All H vs ds)(hown:∀i,i<ps.length->own i=aj)(noown:∀a,¬Own own (start N vs) a):ES own H (start N vs) (ds++c_ (N.length-ps.length) .uD):=by
 refine⟨by rw[hst];simp[r.length],λi hi=>?_,λi v hi hv=>?_⟩
 .have hlt:i<ds.length:=A9 λhge=>hi (by
   rw[eJ,iL hge,kF];split<;>rfl)
  have e:(ds++c_ (N.length-ps.length) D.uD).getD i .uD=ds[i]:=by
   rw[eJ,jx hlt,eh hlt];rfl
  obtain⟨v,g1,g2⟩:=r.get (i:=i) (d:=ds[i]) (by simp[hlt]);refine⟨v,by rw[hst,jx (by simp[r.length,hlt])];simp[g1],λ_=>?_⟩;rw[e];exact g2.mono λa _=>noown a
 .exfalso;rw[hst] at hv;by_cases h:i<ps.length
  .rw[hown i h] at hi;cases hi
  .rw[iL (by simp[r.length,hl];lia)] at hv;rw[kF] at hv;split at hv<;>cases hv
theorem aKh{N ps:aa Str}{Q:VK}{E:XK}(hx:own rtX=aj)(hown:∀i,i<ps.length->own i=aj)(h0:spD (fnS ps.length N.length f) ps.length vs H Q E):tS own f {nx:=λ_ H'=>Q .non H',rt:=Q} (start N vs) H:=by
 obtain⟨ds,d,hl,r,h,q⟩:=h0
 .obtain⟨fl,h1,h2⟩:=bF h;have hst:start N vs=vs.map ae++c_ (N.length-ps.length) ao:=by
   show vs.map ae++c_ (N.length-vs.length) ao=_;rw[r.length,hl]
  have noown:∀a,¬Own own (start N vs) a:=λa z0=>by
   obtain⟨i,hi,e⟩:=z0;rw[hst] at e;by_cases h:i<ps.length
   .rw[hown i h] at hi;cases hi
   .rw[iL (by simp[r.length,hl];lia)] at e;rw[kF] at e;split at e<;>cases e
  have E0:ES own H (start N vs) (ds++c_ (N.length-ps.length) .uD):=X5 hst hl r hown noown;refine⟨_,fl,E0,h1,?_⟩;have sm:∀{σ':L2.St}{H':Hp},KU own (start N vs) H σ' H'->cD H H':=λk a o e=>(k a o e (noown a)).1
  cases fl with
  |nx ρ'=>cases h2;exact λσ' H' k E'=>q .non H' (sm k) .non λ_=>.non
  |rt d'=>
   cases h2;refine kRt.mk hx λv H' hk rp=>q v H' (λa o e=>hk a o e (noown a)) rp.all λ_=>rp.mono λa ha=>?_
   rcases ha with ha|ha
   .exact bg ha (noown a)
   .exact ha
  |bk ρ'=>exact bx h2
  |ct ρ'=>exact bx h2
def aOj{w:bS}{K:b6}{mg:Str->aS ap}{base:br}{x qual:Str}{st:bz}{fad:aq}{fd:gd}{N ps:aa Str}{k:ai}{f:FS}(F:Fun K x qual st fad fd)(S:bQ N ps (aR st))(own:ai->ax)(hown:∀i,i<ps.length->own i=aj)(hNl:ps.length<=N.length)
 (hbody:∀(cdv:ap) (A:cS) (outer:aa d6) (s:ay) (H:Hp) (E:XK),wK k (A.deeper (gN qual (aR st) s.heap.objs.size fad cdv))->PSs (aFl CX0 P w K mg base N qual (aR st) fad cdv A outer s H E).nox (jV st) (tS own f))(hx:autoParam (own rtX=aj) Ω):ZP P w K mg base CX0 (k+1) fad fd ps (spD (fnS ps.length N.length f) ps.length):=
 F.ok S (λvs H Q E h=>aCg h) λcdv A outer s H vs Q E hr h=>⟨_,hbody cdv A outer s H E hr,aKh hx hown h⟩
end
end
variable [KFrag]
structure aRi where
 s₀:ay
 H₀:Hp
 env:d6
 outer:aa d6
 stack:aa d6
 ex:aa aq
 fn:Str->ax
 pn:aa (aq×b9)
abbrev mkC(X:Cx)(scope:fT)(ownN:aa Str)(y:aRi):Cx:=
 {X with N:=X.N.map (iY ownN)++ownN,s₀:=y.s₀,H₀:=y.H₀,env:={y.env with scope:=i0 scope X.env},outer:=y.outer,stack:=y.stack,ex:=y.ex,fn:=y.fn,pn:=y.pn,xe:=λ_ _=>c9}
def rK(cc:dZ X X' scope ownN):∃y,X'=mkC X scope ownN y:=by
 refine⟨⟨X'.s₀,X'.H₀,X'.env,X'.outer,X'.stack,X'.ex,X'.fn,X'.pn⟩,?_⟩;obtain⟨h1,h2,h3,h4,h5,h6,h7,h8,h9,h10⟩:=cc;cases X' with
 |mk a b c d e f g h i j k l m n o p q=>
  cases j;dsimp only at *;subst h1 h2 h3 h4 h5 h6 h7 h8 h9 h10;rfl
section
def qW(S:eF X.N X.env.scope scope ownN)(hn:X.N.length=n)(hm:ownN.length=m)(hcalm:X.calm=af)(hi:PI X tg iter (gI X.K it))(ht:TgC g t n m)(hg:∀y,PG (mkC X scope ownN y) tg g)(he:∀y,PE (mkC X scope ownN y) elt (gE fe re))
 (hs:∀x,eW iter X.env x=pure x):PE X (.ListComp elt [⟨tg,iter,[],0⟩] scope pos) (gE (fJ n it t iU fe re) af):=
 aKc S hn hm hcalm hi ht (λX' cc=>by obtain⟨y,rfl⟩:=rK cc;exact hg y) (λX' cc=>by obtain⟨y,rfl⟩:=rK cc;exact he y) hs
def aA4(S:eF X.N X.env.scope scope ownN)(hn:X.N.length=n)(hm:ownN.length=m)(hcalm:X.calm=af)(hi:PI X tg iter (gI X.K it))(ht:TgC g t n m)(hg:∀y,PG (mkC X scope ownN y) tg g)(hc:∀y,PT (mkC X scope ownN y) c (gT gc))(he:∀y,PE (mkC X scope ownN y) elt (gE fe re))
 (hs:∀x,eW iter X.env x=pure x):PE X (.ListComp elt [⟨tg,iter,[c],0⟩] scope pos) (gE (fJ n it t gc fe re) af):=
 aCh S hn hm hcalm hi ht (λX' cc=>by obtain⟨y,rfl⟩:=rK cc;exact hg y) (λX' cc=>by obtain⟨y,rfl⟩:=rK cc;exact hc y) (λX' cc=>by obtain⟨y,rfl⟩:=rK cc;exact he y) hs
def JP(S:eF X.N X.env.scope scope ownN)(hn:X.N.length=n)(hm:ownN.length=m)(hcalm:X.calm=af)(hi:PI X tg iter (gI X.K it))(ht:TgC g t n m)(hg:∀y,PG (mkC X scope ownN y) tg g)(he:∀y,PE (mkC X scope ownN y) elt (gE fe re))
 (hs:∀x,eW iter X.env x=pure x)(ho:own iy=o)(hNn:X.N.Nodup)(hiy:X.N[iy]?=ae y)(hxy:Loc X.env.scope y)(hfy:zFn X y)(hsw:fi (.ListComp elt [⟨tg,iter,[],0⟩] scope pos) (ae (.Name y py)) pos2.line X.env=pure af) :
  PS X (.Assign [.Name y py] (.ListComp elt [⟨tg,iter,[],0⟩] scope pos) pos2) (tS own (cH o iy (fJ n it t iU fe re) af)):=
 aKf S hn hm hcalm hi ht (λX' cc=>by obtain⟨y,rfl⟩:=rK cc;exact hg y) (λX' cc=>by obtain⟨y,rfl⟩:=rK cc;exact he y) hs ho hNn hiy hxy hfy hsw
def vA(S:eF X.N X.env.scope scope ownN)(hn:X.N.length=n)(hm:ownN.length=m)(hcalm:X.calm=af)(hi:PI X tg iter (gI X.K it))(ht:TgC g t n m)(hg:∀y,PG (mkC X scope ownN y) tg g)(hc:∀y,PT (mkC X scope ownN y) c (gT gc))(he:∀y,PE (mkC X scope ownN y) elt (gE fe re))
 (hs:∀x,eW iter X.env x=pure x)(ho:own iy=o)(hNn:X.N.Nodup)(hiy:X.N[iy]?=ae y)(hxy:Loc X.env.scope y)(hfy:zFn X y)(hsw:fi (.ListComp elt [⟨tg,iter,[c],0⟩] scope pos) (ae (.Name y py)) pos2.line X.env=pure af) :
  PS X (.Assign [.Name y py] (.ListComp elt [⟨tg,iter,[c],0⟩] scope pos) pos2) (tS own (cH o iy (fJ n it t gc fe re) af)):=
 aCj S hn hm hcalm hi ht (λX' cc=>by obtain⟨y,rfl⟩:=rK cc;exact hg y) (λX' cc=>by obtain⟨y,rfl⟩:=rK cc;exact hc y) (λX' cc=>by obtain⟨y,rfl⟩:=rK cc;exact he y) hs ho hNn hiy hxy hfy hsw
end
noncomputable def aSi:FS:=λ_=>.bad
def aKi{st:aa bz}:PSs X st (tS own aSi):=λΨ s σ H D I h=>by
 obtain⟨_,_,_,h,_⟩:=h;exact bx h
def b8(P:cy)(w:bS)(K:b6)(mg:Str->aS ap)(base:br)(k:ai)(x:Str)(n:ai)(f:aa D->Res D):Prop:=
 ∃(fad:aq)(fd:gd)(ps:aa Str),ZP P w K mg base CX0 k fad fd ps (spD f n)/\mg x=ae (.ref fad)/\nh K (.ref fad)=af/\Binds K fd ps []
section
def aY(C:b8 X.prog X.w X.K X.mg X.base k x n f)(hr:wK k' X.A)(hkk:k<=k')(hg:Gl X x)(ha:PA X (e::es) (gA fs rr))(hdb:autoParam (nDb x) Λ)(he:autoParam (zSE X e es) Ω)(hpl:autoParam (zSP X pos es) Ω) :
  PE X (.Call (.Name x p) (e::es) [] pos) (gE (aP (b_ n f) fs) af):=by
 obtain⟨fad,fd,ps,F,hm,hk,hb⟩:=C;exact aKb F (hr.mono hkk) hg hm hk hb ha hdb he hpl
def eU{K:b6}{st:bz}{fad:aq}{fd:gd}{N ps:aa Str}{fs:FS}(F:Fun K x x st fad fd)(hm:mg x=ae (.ref fad))(hb:Binds K fd ps [])(S:bQ N ps (aR st))(own:ai->ax)(hown:∀i,i<ps.length->own i=aj)(hNl:ps.length<=N.length)
 (hbody:∀(cdv:ap) (A:cS) (outer:aa d6) (s:ay) (H:Hp) (E:XK),wK k (A.deeper (gN x (aR st) s.heap.objs.size fad cdv))->PSs (aFl CX0 P w K mg base N x (aR st) fad cdv A outer s H E).nox (jV st) (tS own fs))(hx:autoParam (own rtX=aj) Ω):b8 P w K mg base (k+1) x ps.length (fnS ps.length N.length fs):=
 ⟨fad,fd,ps,aOj F S own hown hNl hbody hx,hm,F.kp,hb⟩
end
def vB(hr:wK k A):A.units+20<bE:=A2 (Nat.add_le_add_left (by decide:20<=64) _) hr.units
structure Bt(mg:Str->aS ap):Prop where
 len:mg "len"=ao
 min:mg "min"=ao
 max:mg "max"=ao
 list:mg "list"=ao
 tuple:mg "tuple"=ao
 sorted:mg "sorted"=ao
 range:mg "range"=ao
 isi:mg "isinstance"=ao
 int:mg "int"=ao
 bool:mg "bool"=ao
 str:mg "str"=ao
 dict:mg "dict"=ao
 all:mg "all"=ao
 enum:mg "enumerate"=ao
 sum:mg "sum"=ao
 zip:mg "zip"=ao
 abs:mg "abs"=ao
 reversed:mg "reversed"=ao
theorem cO:eR "len"=ae (.builtin "len"):=0x6
theorem yS:eR "min"=ae (.builtin "min"):=0x6
theorem FP:eR "max"=ae (.builtin "max"):=0x6
theorem iG:eR "sorted"=ae (.builtin "sorted"):=0x6
theorem bY:eR "isinstance"=ae (.builtin "isinstance"):=0x6
theorem yU:eR "list"=ae (.type "list"):=0x6
theorem fG:eR "tuple"=ae (.type "tuple"):=0x6
theorem aIg:eR "int"=ae (.type "int"):=0x6
theorem aCl:eR "bool"=ae (.type "bool"):=0x6
theorem aIh:eR "str"=ae (.type "str"):=0x6
def ints_rep:∀ns:aa ag,bN P H (ns.map V.int) (ns.map δ)
 |[]=>.nil
 |n::ns=>.cons (.int n) (ints_rep ns)
end Mi
namespace Mi
open PySem L2
def aCm{ns:aa ag}{E:XK}(main:∀ns:aa ag,ns.length<=63->f [.scr (ns.map δ)]=.ok (.bl af))(hl:ns.length<=63)(hO:Only H)(hS:SqL K H a (ns.map V.int)):@spD ⟨K⟩ f 1 [.ref a] H (λv _=>v=.bl af) E:=by
 letI:KFrag:=⟨K⟩
 refine⟨[.scr (ns.map δ)],.bl af,rfl,.cons (.frz ?_ (ints_rep ns)) .nil,main ns hl,λv H' s r n=>by cases r.inv;rfl⟩;rcases hS with (h|⟨o,h⟩)|h
 .rcases hO a with z|⟨o,xs,z⟩
  .rw[h] at z;cases z
  .rw[h] at z;cases z
 .exact .inl ⟨o,h⟩
 .exact .inr h
end Mi
namespace Mi
universe u
section
variable {α:Type u} {us:aa α}
def l1(h:us.length=1):∃a,us=[a]:=List.length_eq_one_iff.mp h
def l2(h:us.length=2):∃a b,us=[a,b]:=by
 cases us with
 |nil=>cases h
 |cons a t=>obtain⟨b,rfl⟩:=l1 (we h);exact⟨a,b,rfl⟩
def l3(h:us.length=3):∃a b c,us=[a,b,c]:=by
 cases us with
 |nil=>cases h
 |cons a t=>obtain⟨b,c,rfl⟩:=l2 (we h);exact⟨a,b,c,rfl⟩
def l4(h:us.length=4):∃a b c d,us=[a,b,c,d]:=by
 cases us with
 |nil=>cases h
 |cons a t=>obtain⟨b,c,d,rfl⟩:=l3 (we h);exact⟨a,b,c,d,rfl⟩
end
open PySem L2 PySem.SeqAt PySem.Spec PyProof.Rows
noncomputable def aOk:D->Res (aa D)
 |.lst xs=>.ok xs
 |_=>.bad
variable [KFrag]
section
variable {X:Cx}
section
variable {a:Expr}
theorem U6{ch:aa aq}{a:aq}{o:HO}(I:Inv X Ψ σ H s)(k:∀b u,b∉ch->s.heap.get? b=ae u->h'.get? b=ae u)(hf:∀b∈ch,aAq X Ψ H b)(hp:s.heap.objs.size<=a)
 (new:lD X.prog X.w (upd H a o) h' a o):Inv X Ψ σ (upd H a o) {s with heap:=h',toks:=t'}:=by
 have hn:H a=ao:=I.hok.fresh hp;have nch:∀b u,H b=ae u->b∉ch:=λb u e z=>by rw[(hf b z).1] at e;cases e
 have kU:∀b u,H b=ae u->upd H a o b=ae u:=λb u e=>by rw[bA (eG e hn)];exact e
 refine I.step (λb hb=>?_) (λb u _ _ hc e _=>k b u hc e) (λb u _ _ hc e _=>⟨u.slots,k b u hc e⟩) (λb u _ e n=>?_)
  (λb u hc e=>⟨u,k b u hc e⟩) (λb xs e=>kU b _ e) (λb u v e=>kU b _ e) (λb ps e=>⟨#[],by rw[kU b _ e];simp⟩) (λm hm=>?_) (λb u e=>?_) I.bare
 .obtain⟨_,f1,_,f3,f4,f5⟩:=hf b hb;exact⟨f3,f1,f4,f5⟩
 .rw[bA (λz=>bg (eP (bX e) hp) (by rw[z];exact fE _))];exact n
 .obtain⟨u,es,ep,hu,r⟩:=hm;exact⟨u,es,ep,k _ u (λz=>(hf _ z).2.1 rfl) hu,r⟩
 .by_cases hb:b=a
  .subst hb;rw[aM] at e;cases e;exact new
  .rw[bA hb] at e;refine(I.hok b u e).stay (λc v hc q=>k c v ?_ q) (λc q=>kU c _ q) λc xs q=>kU c _ q
   rcases hc with z|z
   .rw[z];exact nch b u e
   .exact nch c _ z
end
end
end Mi
namespace Mi
open PySem L2
def aIi(b:ax):asB (.bl b)=.ok b:=rfl
def a_:lim=1000000:=by unfold lim;exact Eq.refl _
def PQ(h:ρ.length=n):W6 n ρ=ρ:=by
 subst h;apply List.ext_getElem
 .simp[W6]
 .intro i h1 h2;simp[W6,h2]
def cQ(h:ds.length=n):b_ n f ds=f ds:=by
 unfold b_;rw[av (by simp[h])]
def aJ(h1:a ρ=.ok x)(h2:b ρ=.ok y)(h3:f x y=.ok z):b2 f a b ρ=.ok z:=by
 unfold b2;rw[h1,ε,h2,ε,h3]
def bI(h:f ρ=.ok d):cH aj i f af ρ=.ok (.nx (ρ.set i d)):=by
 unfold cH;rw[h,ε];rfl
def sW(h:f ρ=.ok d)(hp:d.pure=af):cH aj i f aj ρ=.ok (.nx (ρ.set i d)):=by
 unfold cH;rw[h,ε];simp only[hp,nr,dm,ck,cq]
def cF(h:f ρ=.ok d)(hp:inner d=af):cH af i f af ρ=.ok (.nx (ρ.set i d)):=by
 unfold cH;rw[h,ε];simp only[hp,iz,cq]
def aRj(h:kJ j ρ=.ok d):sAl i j ρ=.ok (.nx (ρ.set i d)):=by
 unfold sAl;rw[h,ε]
def aL(h1:f ρ=.ok (.nx ρ'))(h2:g ρ'=r):bM f g ρ=r:=by
 unfold bM;rw[h1,ε];exact h2
def aGm(h1:c ρ=.ok k)(h2:(if k then f ρ else g ρ)=r):sIf c f g ρ=r:=by
 unfold sIf;rw[h1,ε];exact h2
def BL(h1:c ρ=.ok af)(h2:f ρ=r):sIf c f g ρ=r:=aGm h1 (by rw[av rfl];exact h2)
def nY(h1:c ρ=.ok aj)(h2:g ρ=r):sIf c f g ρ=r:=aGm h1 (by rw[aw 0x2];exact h2)
def cX(h1:f ρ=.ok (.bl k)):bTB f ρ=.ok k:=by
 unfold bTB;rw[h1,ε];rfl
def aKj(h1:a ρ=.ok af)(h2:b ρ=r):aBu a b ρ=r:=by
 unfold aBu;rw[h1,ε,av rfl,h2]
def aCn(h1:a ρ=.ok aj):aBu a b ρ=.ok aj:=by
 unfold aBu;rw[h1,ε,aw 0x2];rfl
def aSj(h1:a ρ=.ok x)(h2:b ρ=.ok y)(h3:f x y=.ok (.bl af))(h4:c ρ=.ok z)(h5:g y z=r):bCh f g a b c ρ=r:=by
 unfold bCh;rw[h1,ε,h2,ε,h3,ε,aIi,ε,av rfl,h4,ε,h5]
def aTh(h1:a ρ=.ok x)(h2:b ρ=.ok y)(h3:f x y=.ok (.bl aj)):bCh f g a b c ρ=.ok (.bl aj):=by
 unfold bCh;rw[h1,ε,h2,ε,h3,ε,aIi,ε,aw 0x2];rfl
def aC(h1:a ρ=.ok x)(h2:b ρ=.ok xs):aD a b ρ=.ok (x::xs):=by
 unfold aD;rw[h1,ε,h2,ε];rfl
def aK(h1:a ρ=.ok xs)(h2:f xs=.ok d):aP f a ρ=.ok d:=by
 unfold aP;rw[h1,ε,h2]
def c7(h:a ρ=.ok xs)(hl:xs.length<=lim):iT a ρ=.ok (.tup xs):=by
 unfold iT;rw[h,ε,av (cm hl)];rfl
def fX(h:f ρ=.ok d)(hp:(k||d.pure)=af):lC f k ρ=.ok (.rt d):=by
 unfold lC;rw[h,ε,av hp]
def jK(h1:it ρ=.ok (xs,af))(h2:oK t body xs ρ=r):vV it t body ρ=r:=by
 unfold vV;rw[h1,ε];exact h2
def U7(h1:kJ i ρ=.ok d)(h2:rG d=.ok xs)(h3:oK t body xs ρ=r):Z6 i t body ρ=r:=by
 unfold Z6;rw[h1,ε,h2,ε];exact h3
theorem mH(h:f ρ=.ok [.int n])(h1:0<=n)(h2:n<=1000000):mY f lY ρ=.ok ((bh n.toNat).map λ(k:ai)=>δ (0+(k:ag)),af):=by
 unfold mY;rw[h,ε];have:yH n=af:=by
  simp only[yH,bn,em];lia
 simp only[lY,this,cq]
def oV(h1:g ρ=.ok d)(h2:f ρ=.ok k)(h3:ρ.getD i .uD=.dct kvs)(h4:kvs.length<lim)(h5:rC kvs k=af)(h6:d.pure=af):M8 i f g ρ=.ok (.nx (ρ.set i (.dct (putD kvs k d)))):=by
 unfold M8;rw[h1,ε,h2,ε,h3];simp only[cm h4,h5,h6,iz,cq]
def aOl(h1:f ρ=.ok (.int j))(h2:g ρ=.ok d)(h3:ρ.getD i .uD=.lst xs)(h4:xs.length<lim)(h5:d.pure=af)(h6:0<=j)(h7:j<=xs.length):aQf i f g ρ=.ok (.nx (ρ.set i (.lst (xs.take j.toNat++d::xs.drop j.toNat)))):=by
 unfold aQf;rw[h1,ε,h2,ε,h3];simp only[cm h4,h5,cm h6,cm h7,iz,cq]
def jL(h1:f ρ=.ok d)(h3:ρ.getD i .uD=.lst xs)(h4:xs.length<lim)(h5:d.pure=af):wN i f ρ=.ok (.nx (ρ.set i (.lst (xs++[d])))):=by
 unfold wN;rw[h1,ε,h3];simp only[cm h4,h5,iz,cq]
def jM(h1:t x ρ=.ok ρ1)(h2:body ρ1=.ok (.nx ρ2))(h3:oK t body xs ρ2=r):oK t body (x::xs) ρ=r:=by
 rw[oK,h1,ε,h2,ε];exact h3
theorem sX(L:aa D)(i:ag)(h0:0<=i)(h1:i<L.length):∃(h:i.toNat<L.length),getD (.lst L) (.int i)=.ok L[i.toNat]:=by
 have hlt:i.toNat<L.length:=by lia
 refine⟨hlt,?_⟩;show ι ((ixD L.length i).bind λj=>L[j]?)=_;unfold ixD;rw[av h0,av h1];simp only[Ba];rw[eh hlt];rfl
def lH(L:aa D):fV [.lst L]=.ok (.int L.length):=rfl
def i_(h1:it ρ=.ok (xs,kk))(h2:xs.length<=lim)(h3:sG (tZ n t c f k ρ) [] xs=.ok ys):fJ n it t c f k ρ=.ok (.lst ys):=by
 unfold fJ;rw[h1,ε];simp only[cm h2,cq];rw[h3];rfl
def jZ{fr:ax}(h1:a ρ=.ok d)(h2:rG d=.ok xs):dN a fr ρ=.ok (xs,fr||d.pure):=by
 unfold dN;rw[h1,ε,h2,ε];rfl
def kW(hρ:ρ.length=n)(h1:c (ρ++[x])=.ok b)(h2:b=af->f (ρ++[x])=.ok y/\(k||y.pure)=af):tZ n HR c f k ρ acc x=.ok (if b then acc++[y] else acc):=by
 unfold tZ;show(do let ok <- c (W6 n ρ++[x]);_)=_;rw[PQ hρ,h1,ε];cases b with
 |true=>
  obtain⟨e1,e2⟩:=h2 rfl;rw[av rfl,e1,ε,av e2,av rfl];rfl
 |false=>
  rw[aw 0x2,aw 0x2];rfl
def mJ(g:aa D->D->Res (aa D))(d:α->D)(p:α->ax)(y:α->D)(h:∀acc a,g acc (d a)=.ok (if p a then acc++[y a] else acc)):∀(xs:aa α)(acc:aa D),sG g acc (xs.map d)=.ok (acc++(xs.filter p).map y)
 |[],acc=>by simp[sG]
 |x::xs,acc=>by
  rw[bj,sG,h];show sG g _ _=_;rw[mJ g d p y h xs];by_cases hp:p x
  .simp[hp]
  .simp[hp]
def d9(a b:ag):bL .add (.int a) (.int b)=.ok (.int (a+b)):=rfl
def X6(a b:ag)(h:lX b=af):bL .mul (.int a) (.int b)=.ok (.int (a*b)):=by
 show(if lX a||lX b then τ (δ (a*b)) else .bad)=_;rw[h,Bool.or_true,av rfl]
def yV(a b:ag)(h:lX a=af):bL .mul (.int a) (.int b)=.ok (.int (a*b)):=by
 show(if lX a||lX b then τ (δ (a*b)) else .bad)=_;rw[h,yx,av rfl]
def gC(a b:ag)(h1:0<b)(h2:b<1073741824):bL .fdiv (.int a) (.int b)=.ok (.int (a / b)):=by
 show(if ϒ (0<b)&&ϒ (b<1073741824) then τ (δ (a / b)) else .bad)=_;rw[cm h1,cm h2,iz,av rfl]
def fH(a b:ag)(h1:0<b):bL .mod (.int a) (.int b)=.ok (.int (a % b)):=by
 show(if ϒ (0<b) then τ (δ (a % b)) else .bad)=_;rw[cm h1,av rfl]
theorem j6(a:ag)(h1:-1000000<=a)(h2:a<=1000000):lX a=af:=by
 simp only[lX,bn,em];lia
def T3(a b:Str)(h:a.length+b.length<=lim):bL .add (.str a) (.str b)=.ok (.str (a++b)):=by
 show(if ϒ (a.length+b.length<=lim) then τ (ν (a++b)) else .bad)=_;rw[cm h,av rfl]
def str_len(a b:Str):(a++b).length=a.length+b.length:=by
 show(a.cps++b.cps).size=_;rw[Bb];rfl
def aKk(h1:a.fD aO=af)(h2:b.fD aO=af)(h:iR o a b=ae k):dC (.ord o) a b=.ok (.bl k):=by
 show(if a.fD aO&&b.fD aO then (match iR o a b with|some k=>τ (π k)|none=>.bad) else .bad)=_;rw[h1,h2,h,iz,av rfl]
def U8(a b:aa D)(h:a.length+b.length<=lim)(ha:θ a=af)(hb:θ b=af):bL .add (.lst a) (.lst b)=.ok (.lst (a++b)):=by
 show(if ϒ (a.length+b.length<=lim)&&θ a&&θ b then τ (ξ (a++b)) else .bad)=_;rw[cm h,ha,hb,iz,iz,av rfl]
theorem aIj(n:ai)(h:n<=1000):bL .pow (.int 10) (.int n)=.ok (.int (10 ^ n)):=by
 have h1:ϒ ((0:ag)<=(n:ag))=af:=by simp
 have h2:ϒ ((n:ag)<=1000000)=af:=by simp;lia
 have h3:ϒ ((10:ag).natAbs<2 ^ 64)=af:=by decide
 show(if ϒ ((0:ag)<=(n:ag))&&ϒ ((n:ag)<=1000000)&&ϒ ((10:ag).natAbs<2 ^ 64) then τ (δ (10 ^ ((n:ag).toNat))) else .bad)=_;rw[h1,h2,h3,iz,iz,av rfl,la]
def eO(S:aa ag):θ (S.map δ)=af:=by
 induction S with
 |nil=>rfl
 |cons q Q ih=>rw[bj,θ,ih];rfl
def aKl(ns:aa ag)(lo hi:aS ag):cutD (ns.map δ) lo hi=(cutD ns lo hi).map δ:=by
 unfold cutD;rw[aI,Bc,Bd]
theorem aKm(ns:aa ag)(lo hi:aS ag):(cutD ns lo hi).length<=ns.length:=by
 unfold cutD;exact du (List.length_take_le' ..) (by rw[jd];lia)
open PySem.W PySem.SeqAt PySem.Spec PyProof.Rows
variable [KFrag]
def JQ(a:FA):FE:=λρ=>do let xs <- a ρ;if ϒ (xs.length<=lim)&&θ xs then pure (.lst xs) else .bad
def JR{X:Cx}{pos:de}{es:aa Expr}{f:FA}{r:ax}(h:PA X es (gA f r)):PE X (.List es pos) (gE (JQ f) af):=PE.imp (aB6 h) λσ H Q z0=>by
  obtain⟨ρ,d,E,h,q⟩:=z0;obtain⟨xs,h1,h⟩:=bF h;split at h
  .rename_i hl;rw[bn] at hl;cases h;refine⟨ρ,xs,E,h1,λvs H1 s1 r1 n1=>⟨?_,λp hp=>?_⟩⟩
   .rw[r1.length];exact du (fq hl.1) (by rw[e8];decide)
   .have sp:cD H1 (upd H1 p (.lst vs)):=cD.upd hp;exact q _ _ (s1.trans sp) (.lst aM trivial (r1.same sp)) λ_=>.lst aM (s1.free hp) ((r1.bZ hl.2).same sp)
  .exact bx h
end Mi
namespace Mi
open PySem L2 PySem.SeqAt PySem.Spec PyProof.Rows
noncomputable def X7:aa D->Res D
 |[.int n]=>if ϒ (-1000000<=n)&&ϒ (n<=1000000) then .ok (.lst ((bh n.toNat).map λ(k:ai)=>δ k)) else .bad
 |_=>.bad
section
variable [KFrag]
section
def FQ:∀(n:ai)(f:ai->ag)(xs:aa ap),xs.length=n->(∀(j:ai)(v:ap),xs[j]?=ae v->∃t,v=.int (f j) t)->Vals ((bh n).map λ(k:ai)=>V.int (f k)) xs:=by
 intro n;induction n with
 |zero=>intro f xs hl _;cases xs with|nil=>exact .nil|cons _ _=>simp at hl
 |succ n ih=>
  intro f xs hl h;cases xs with
  |nil=>simp at hl
  |cons x xs=>
   rw[rg,bj,bP];exact .cons (h 0 x rfl) (ih (λk=>f (k+1)) xs (by simpa using hl) λj v hj=>h (j+1) v (by simpa using hj))
theorem aGn(hc:X.calm=af):lW X (.type "list") (λvs H Q=>∃r n,vs=[.ref r]/\H r=ae (.rng 0 n)/\-1000000<=n/\n<=1000000/\∀q,H q=ao->Q (.ref q) (upd H q (.lst ((bh n.toNat).map λ(k:ai)=>V.int k)))):=by
 rintro Ψ s σ H vs us Q I vr ⟨r,n,e,er,h1,h2,q⟩;subst e;cases vr with
 |cons r1 vr=>
  cases vr;cases r1;obtain⟨t,u,v,hr⟩:=I.hok r _ er;have hn:tP 0 n 1=(n.toNat:ag):=by rw[tT];split<;>lia
  refine Be (I.ok.hd hc) hr (tJ 0x1 0x1 0x1 0x1) hn 0x1 λh' tk acc' c' hk hS' hacc=>?_
  have hfr:H s.heap.objs.size=ao:=I.hok.fresh (bi _);refine⟨.ref s.heap.objs.size,_,I.laid hk (bi _) ?_,rfl,q _ hfr⟩;refine⟨by rw[aI,fR,e8];lia,acc'.toList,c',FQ _ (λk=>(k:ag)) _ (by simp[hacc.1]) λj v hj=>?_,by simpa using hS'⟩;obtain⟨t,ht⟩:=hacc.2 j v (by simpa using hj);exact⟨t,by rw[ht];congr 1;lia⟩
def yW:∀(l:aa ai),bN P H (l.map λ(k:ai)=>V.int k) (l.map λ(k:ai)=>δ k)
 |[]=>.nil
 |n::l=>.cons (.int _) (yW l)
def aGo(hc:X.calm=af)(hg:Gl X "list")(hm:X.mg "list"=ao)(hg2:Gl X "range")(hm2:X.mg "range"=ao)(ha:PA X [a] (gA fs rr))(hs:autoParam (dQ [a] X.env=[(aj,cK a X.env)]) Ω) :
  PE X (.Call (.Name "list" p) [.Call (.Name "range" p2) [a] [] pos2] [] pos) (gE (aP X7 fs) af):=by
 have hr:PE X (.Call (.Name "range" p2) [a] [] pos2) (λσ H Q=>∃ρ n,ER H σ ρ/\fs ρ=.ok [.int n]/\∀H1 r,cD H H1->H1 r=ao->Q (.ref r) (upd H1 r (.rng 0 n))):=by
  rintro Ψ s σ H Q I ⟨ρ,n,E,h1,q⟩;refine kC (vP I hg2 hm2 t0 ?_);refine ng (thn (ha pos2 Ψ s σ H (λvs H1=>cD H H1/\vs=[.int n]) I ⟨ρ,_,E,h1,λvs H1 s1 r1 _=>⟨s1,?_⟩⟩) λus s1 ⟨vs,H1,I1,r1,sm,e⟩=>?_) hs rfl
  .cases r1 with
   |cons r t=>cases t;cases r.inv;rfl
  .subst e;cases r1 with
   |cons r t=>
    cases t;obtain⟨t,rfl⟩:=r;have hfr:H1 s1.heap.objs.size=ao:=I1.hok.fresh (bi _);exact ya ⟨.ref s1.heap.objs.size,_,I1.laid (o:=.rng 0 n) (λb o e=>cx _ e) (bi _) ⟨_,_,_,dt _ rfl⟩,rfl,q H1 _ sm hfr⟩
 refine PE.imp (xV (aGn hc) hg hm yU (kI hr rF)) λσ H Q ⟨ρ,d,E,h,q⟩=>?_
 obtain⟨xs,h1,h2⟩:=bF h;unfold X7 at h2;split at h2
 .rename_i n;split at h2
  .rename_i hb;rw[bn] at hb;cases h2;refine⟨ρ,n,E,h1,λH1 r s1 hr=>⟨r,n,rfl,aM,fq hb.1,fq hb.2,λq' hq'=>?_⟩⟩;have s2:=cD.upd (o:=.rng 0 n) hr;have s3:=cD.upd (o:=.lst ((bh n.toNat).map λ(k:ai)=>V.int k)) hq';exact q _ _ ((s1.trans s2).trans s3) (.lst aM trivial (yW _)) λ_=>.lst aM ((s1.trans s2).free hq') (yW _)
  .exact bx h2
 .exact bx h2
end
def aGp(ea:∀ob,H a=ae ob->aK1 ob=af)(b:aq)(o:HO)(e:H b=ae o)(h:aK1 o=aj):upd H a u b=ae o:=by
 rw[bA λz=>by rw[z] at e;rw[ea _ e] at h;cases h];exact e
def PX{P:aq->Prop}(ea:∀ob,H a=ae ob->aK1 ob=af)(q:bN P H v d)(h:θ d=af):bN P (upd H a u) v d:=q.O6 (aGp ea) h
end
def aMv:D->D->Res D
 |.tup a,.tup b=>if ϒ (a.length+b.length<=lim) then .ok (.tup (a++b)) else .bad
 |_,_=>.bad
noncomputable def FZ(c:FT)(body:FS):ai->aa D->Res Fl
 |0,_=>.bad
 |n+1,ρ=>do
  let k <- c ρ
  if k then (do
   let r <- body ρ
   match r with
   |.nx ρ'=>FZ c body n ρ'
   |.ct ρ'=>FZ c body n ρ'
   |.bk ρ'=>.ok (.nx ρ')
   |.rt d=>.ok (.rt d))
  else .ok (.nx ρ)
def aMw(c:FT)(body:FS):FS:=λρ=>FZ c body 1000 ρ
section
variable [KFrag]
section
theorem aCo:OpR X (fN .Add) (r2 aMv aj):=by
 intro Ψ s σ H x y v u Q I rx ry h;obtain⟨a,b,d,p,q,e,k⟩:=h;unfold aMv at e;split at e
 .rename_i da db;split at e
  .rename_i hl;cases e;obtain⟨l1,xs1,rfl,e1,r1⟩:=p.inv;obtain⟨l2,xs2,rfl,e2,r2⟩:=q.inv;cases rx;cases ry;have hz:xs1.length+xs2.length<=bp:=by rw[r1.length,r2.length];exact uB hl
   obtain⟨its,w1,p1,_⟩:=I.tuple (.of e1);obtain⟨its2,w2,p2,_⟩:=I.tuple (.of e2);obtain⟨⟨cls,dd,data,sl⟩,ho,hc,n,hd⟩:=id p1;obtain⟨⟨cls2,dd2,ni,sl2⟩,ho2,hc2,n2,hd2⟩:=id p2;simp only at hc hd hc2 hd2;by_cases hv:its=[]
   .have:xs1=[]:=w1.xX.mp hv;subst this;cases r1;refine ud ⟨_,ho,hc⟩ ⟨_,ho2,hc2⟩ ue uf ug uh (ul _ _)
     (tuple_addW0 l1 l2 its.toArray its2.toArray n n2 dd dd2 sl sl2 (by simp[hv])) ⟨by subst hc hd;exact ho,by subst hc2 hd2;exact ho2,.ref l2,H,I,rfl,?_⟩
    exact k.self (.tup e2 r2) (λz=>by cases z)
   .refine aJn Ψ s σ H (.ref l1) (.ref l2) _ _ Q I rfl rfl ⟨l1,l2,xs1,xs2,rfl,rfl,.of e1,.of e2,λz=>hv (w1.xX.mpr z),hz,λz=>?_,λz p hp=>?_⟩
    .subst z;cases r2;rw[eo] at k;exact k.self (.tup e1 r1) (λz=>by cases z)
    .have sp:cD H (upd H p (.tup (xs1++xs2))):=cD.upd hp;exact k _ _ sp (.tup aM ((r1.append r2).same sp)) λz=>by cases z
  .exact bx e
 .exact bx e
def X8(hp:jt (az X.prog X.w) X.A X.env X.xe)(hc:PT X c (gT gc))(hb:PSs X body (tS own fb)):PS X (.While c body [] pos) (tS own (aMw gc fb)):=
 PS.imp (aFu hp hc hb) λD σ H z0=>by
 obtain⟨ρ,fl,E,h,q⟩:=z0;refine⟨λm σ' H'=>∃ρ' ,ES own H' σ' ρ'/\FZ gc fb m ρ'=.ok fl/\kS own D σ' H' fl,⟨1000,ρ,E,h,q⟩,?_⟩;rintro m σ H ⟨ρ,E,h,q⟩;cases m with
 |zero=>exact bx h
 |succ m=>
  rw[FZ] at h;obtain⟨k,h1,h2⟩:=bF h;refine⟨ρ,k,E.er,h1,λH1 s=>?_⟩;cases k with
  |true=>
   rw[av rfl];rw[av rfl] at h2;obtain⟨r,h3,h4⟩:=bF h2;refine⟨λσ' H'=>∃ρ',ES own H' σ' ρ'/\FZ gc fb m ρ'=.ok fl/\kS own D σ' H' fl,λσ' H' w=>⟨m,kh m,w⟩,ρ,r,E.same s,h3,?_⟩;have q1:=q.step (.same s);cases r with
   |nx ρ'=>exact λσ' H' ku E'=>⟨ρ',E',h4,q1.step ku⟩
   |ct ρ'=>exact λσ' H' ku E'=>⟨ρ',E',h4,q1.step ku⟩
   |bk ρ'=>cases h4;exact λσ' H' ku E'=>q1 σ' H' ku E'
   |rt d=>cases h4;exact q1
  |false=>
   rw[aw 0x2];rw[aw 0x2] at h2;cases h2;exact(q.step (.same s)) σ H1 (λa o e n=>⟨e,n⟩) (E.same s)
end
def aOm(h:(dM P w).is k v=af):RelV (kV k) v:=by
 have h:SQ k v=af:=h;rcases dJ h with ⟨i,t,rfl,rfl⟩|⟨x,t,rfl,rfl⟩
 .exact⟨t,rfl⟩
 .exact⟨t,rfl⟩
end
variable [KFrag]
section
variable {own:ai->ax}
noncomputable def oW(own:ai->ax)(i:ai):ai->ax:=λj=>own j&&!(j==i)
def mK(h:oW own i j=af):own j=af/\j≠i:=by
 unfold oW at h;simpa using h
def Own.of(h:Own (oW own i) σ b):Own own σ b:=by
 obtain⟨j,hj,e⟩:=h;exact⟨j,(mK hj).1,e⟩
end
end Mi
namespace Wz
open PySem PySem.Spec
def P_:wg table "dict.update.loop"=ae Builtin.«dict.update.loop»:=entryFor_of_tree 0x8
end Wz
namespace Mi
open PySem L2 PySem.SeqAt PySem.Spec PyProof.Rows
section
variable [KFrag]
theorem aGq:eR "dict"=ae (.type "dict"):=0x6
theorem X_(r:Rep P H v d):∀{kvs:aa (Key×V)}{ds:aa (D×D)},lZ P H kvs ds->(kvs.map (·.1)).Nodup->lZ P H (putK kvs k v) (putD ds (kD k) d)
 |_,_,.nil,_=>.cons r .nil
 |_,_,.cons (k:=k') r' t,hn=>by
  rw[bj,df] at hn;rw[putD,PB];by_cases h:k'=k
  .rw[JK h (by rw[<-h];exact hn.1),av (cm h),h];exact .cons r t
  .rw[JL h,aw (by simpa using h)];exact .cons r' (X_ r t hn.2)
end
noncomputable def aKn(i j:ai):FS:=λρ=>match ρ.getD i .uD with
 |.lst xs=>(match xs[xs.length-1]? with|some x=>.ok (.nx ((ρ.set i (.lst xs.dropLast)).set j x))|none=>.bad)
 |_=>.bad
def aQg(i:ai)(f:FE):FS:=λρ=>do
 let d <- f ρ
 match ρ.getD i .uD,d with
 |.lst xs,.lst ys=>if ϒ (xs.length+ys.length<=lim)&&θ ys then .ok (.nx (ρ.set i (.lst (xs++ys)))) else .bad
 |_,_=>.bad
section
variable [KFrag]
section
variable {X:Cx} {own:ai->ax} {e:Expr} {fe:FE} {re:ax} {pos:de}
theorem aKo{i j:ai}{x y:Str}{p1 py apos cpos:de}(ho:own i=af)(hN:X.N[i]?=ae x)(hv:Vis X.env.scope x)(hnd:X.N.Nodup)(hj:X.N[j]?=ae y)(hy:Loc X.env.scope y)(hoj:own j=aj)(hd:autoParam (nDb x) Λ)(hcd:autoParam (nCd x) Λ)
 (hbase:autoParam (jz (.Name x p1) "pop" X.env (cK (.Name x p1) X.env)=cK (.Name x p1) X.env) Ω)
 (hline:autoParam ((apos.endLine==cpos.line)=af) Ω)
 (hs:autoParam (fi (.Call (.Attribute (.Name x p1) "pop" apos) [] [] cpos) (ae (.Name y py)) pos.line X.env=pure aj) Ω)(hf:autoParam (zFn X y) Ξ) :
  PS X (.Assign [.Name y py] (.Call (.Attribute (.Name x p1) "pop" apos) [] [] cpos) pos) (tS own (aKn i j)):=
 PS.imp (M9 hnd hj hy (aNt mw yw PySem.F.type_list_pop aNv (j_ hN hv hd hcd) hbase hline) hs hf) λD' σ H z0=>by
 obtain⟨ρ,fl,E,h,q⟩:=z0;unfold aKn at h;split at h
 .rename_i xs hx;split at h
  .rename_i dx hdx;cases h;obtain⟨a,o,hσ,r,hin,ha,hm⟩:=E.ownAt ho (by rw[hx];intro z;cases z);rw[hx] at r hin;obtain⟨vs,hl,rr⟩:=yR r;obtain⟨v,hvx,rv⟩:=rr.get hdx;have hlen:=rr.length;refine⟨_,hσ,.inl ⟨rfl,vs,.of hl⟩,a,vs,v,rfl,rfl,hl,by rw[hlen];exact hvx,?_⟩;have hin':θ xs=af:=hin;have pall:∀y∈xs,y.pure=af:=λy hy=>mC.mp hin' y hy
   have pdx:dx.pure=af:=pall dx (lu hdx);have pe:θ xs.dropLast=af:=mC.mpr λy hy=>pall y (List.dropLast_subset _ hy)
   have er:bN All H vs.dropLast xs.dropLast:=by
    rw[Bf,Bf,hlen];exact rr.take _
   obtain⟨E2,k2⟩:=E.mut (o:=.lst vs.dropLast) (d:=.lst xs.dropLast) ho hσ rfl (.lst aM trivial (er.upd pe hl rfl)) pe;have r1:=(bN.cons rv .nil).upd (o:=.lst vs.dropLast) (by rw[θ,pdx];rfl) hl rfl;cases r1 with
   |cons r1 _=>
    have E3:=E2.set hoj (v:=v) (d:=dx) (r1.bZ pdx);exact q _ _ (k2.trans λb ob eb nb=>⟨eb,by rw[sS hoj];exact nb⟩) E3
  .exact bx h
 .exact bx h
theorem aOn{i:ai}{x:Str}{p1 apos cpos:de}(ho:own i=af)(hN:X.N[i]?=ae x)(hv:Vis X.env.scope x)(he:PE X e (gE fe re))(hd:autoParam (nDb x) Λ)(hcd:autoParam (nCd x) Λ)
 (hbase:autoParam (jz (.Name x p1) "extend" X.env (cK (.Name x p1) X.env)=cK (.Name x p1) X.env) Ω)
 (hs1:autoParam (zSE X e []) Ω)
 (hfew:autoParam (zFw X cpos [e]) Ω)
 (hline:autoParam ((apos.endLine==cpos.line)=af) Ω)
 (hs:autoParam (fi (.Call (.Attribute (.Name x p1) "extend" apos) [e] [] cpos) ao pos.line X.env=pure aj) Ω) :
  PS X (.Expr (.Call (.Attribute (.Name x p1) "extend" apos) [e] [] cpos) pos) (tS own (aQg i fe)):=
 PS.imp (xR (aBb mw qu Bg aBc (j_ hN hv hd hcd) (kI he rF hs1) hbase hfew hline hs1 rfl) hs) λD' σ H z0=>by
 obtain⟨ρ,fl,E,h,q⟩:=z0;obtain⟨d,h1,h2⟩:=bF h;split at h2
 .rename_i xs ys hx;split at h2
  .rename_i hk;cases h2;rw[bn,em] at hk;obtain⟨a,o,hσ,r,hin,ha,hm⟩:=E.ownAt ho (by rw[hx];intro z;cases z);rw[hx] at r hin;obtain⟨vs,hl,rr⟩:=yR r;refine⟨_,hσ,.inl ⟨rfl,vs,.of hl⟩,ρ,_,E.er,h1,λv H' s rv _=>?_⟩;obtain⟨b,zs,rfl,hb,_,rz⟩:=rv.inv;have E':=E.same s;have hl':=s _ _ hl;refine⟨a,b,vs,zs,rfl,rfl,hl',hb,by rw[rr.length,rz.length];exact du hk.1 (by rw[e8];decide),?_⟩;have hp:θ (xs++ys)=af:=by rw[oR,bn];exact⟨hin,hk.2⟩
   obtain⟨E2,k2⟩:=E'.mut (o:=.lst (vs++zs)) (d:=.lst (xs++ys)) ho hσ rfl (.lst aM trivial (((rr.same s).append rz).upd hp hl' rfl)) hp;exact q _ _ ((KU.same s).trans k2) E2
  .exact bx h2
 .exact bx h2
end
end
open PySem.W
def aAs(h:br)(d:aq)(es:ba nu)(ep:ai):Prop:=∃o,h.get? d=ae o/\o.ExactDict/\o.data=.dict es ep
def aAs.ty{s:ay}(x:aAs s.heap d es ep):s.TypeIs (.ref d) "dict":=let ⟨o,e,c,_⟩:=x;⟨o,e,c.1⟩
def aAs.at(x:aAs h d es ep)(k:∀o,h.get? d=ae o->h'.get? d=ae o):aAs h' d es ep:=let ⟨o,e,r⟩:=x;⟨o,k o e,r⟩
section
variable {prog:cy} {w:bS} {A:cS} {E:ap->ay->Prop} {s:ay} {d it:aq} {es:ba nu} {ep i:ai}
theorem aGr(hd:(d==fA)=aj)(x:aAs s.heap d es ep)(q:Q (.ref s.heap.objs.size) {s with heap:=s.heap.push {cls:=.type "dict_keyiterator",data:=.fields #[.ref d,.int 0 0,.int es.size 0,.int ep 0]}}):ϑ (az prog w) A (gL (.ref d)) Q E s:=by
 have T:=x.ty;obtain⟨o,e1,e2,e3⟩:=x;refine wpAny_pyIter_slot T Bh (nj Bh T F.entry_dict_iter (?_:ϑ _ _ (Builtin.«dict.__iter__» _) _ _ _) (F.args_dict_iter_1 _));unfold Builtin.«dict.__iter__» C0 C1;refine aE (aE (Bi T (?_:ϑ _ _ (pure (gu d)) _ _ s)));refine bm (?_:ϑ _ _ ((if d==fA then _ else _) >>= _) _ _ s);rw[aw (by rw[hd];simp)];refine aE (bm (aE (wj e1 e3 (aE (wl e1 e3 ?_)))));exact aE (gi (bm ⟨_,rfl,"dict_keyiterator",_,⟨_,dt _ rfl,rfl⟩,oh.lookup,q⟩))
theorem aGs(y:s.heap.IsKeyIter it d i es.size ep)(x:aAs s.heap d es ep)(hi:i<es.size)(q:∀h',h'.IsKeyIter it d (i+1) es.size ep->li it s.heap h'->Q (ae es[i].key) {s with heap:=h'}):ϑ (az prog w) A (f_ (.ref it)) Q E s:=by
 have T:=y.typeIs;obtain⟨o,o1,o2,o3⟩:=y;obtain⟨od,e1,e2,e3⟩:=x;have own:Bj "dict_keyiterator"=aj:=by decide
 unfold f_;refine aE (vT (uq T oh (nj oh T Bk ?_ (Bl _))));refine aE (bm (aE (aE ?_)))
 first|refine aE (su T (bm (aE (sv o1 o3 ?_))))|refine aE (sA T (bm (aE (sv o1 o3 ?_))))
 rw[own];refine(?_:ϑ _ _ (ite ((gu d==lf)=af) _ _) _ _ s);rw[aw 0x7];refine aE (bm (aE (wj e1 e3 ?_)));rw[aw 0x2];refine aE (bm (aE (wl e1 e3 ?_)));rw[aw 0x2];refine bm ?_;simp only[show ¬((i:ag)<0) from by lia,ck,la,Bm hi];refine aE ?_
 first|refine aE (su T (bm (aE (wm T ?_))))|refine aE (sA T (bm (aE (wm T ?_))))
 refine aE (m:=setField (.ref it) 1 (iE ((i:ag)+1))) (Bn o1 o3 0x2 ?_);have z:(s.heap.update it (Obj.mapFields (·.setIfInBounds 1 (iE ((i:ag)+1))))).IsKeyIter it d (i+1) es.size ep:=⟨_,mo _ o1 (Obj.isFreed_of_fields (Bo o3 _)),(Obj.cls_mapFields ..).trans o2,by rw[Bo o3];simp[iE]⟩
 refine aE (ii (aE (wm z.typeIs (?_:ϑ _ _ (pure es[i].key) _ _ _))));exact bm (bm ⟨_,rfl,bm (q _ z (Bp ..))⟩)
theorem aKp(hh:A.handled=ao)(y:s.heap.IsKeyIter it d i es.size ep)(x:aAs s.heap d es ep)(hi:es.size<=i)(q:∀h',Bq it s.heap h'->Q ao {s with heap:=h'}):ϑ (az prog w) A (f_ (.ref it)) Q E s:=by
 have T:=y.typeIs;obtain⟨o,o1,o2,o3⟩:=y;obtain⟨od,e1,e2,e3⟩:=x;have own:Bj "dict_keyiterator"=aj:=by decide
 unfold f_;refine aE (vT (uq T oh (nj oh T Bk ?_ (Bl _))));refine aE (bm (aE (aE ?_)))
 first|refine aE (su T (bm (aE (sv o1 o3 ?_))))|refine aE (sA T (bm (aE (sv o1 o3 ?_))))
 rw[own];refine(?_:ϑ _ _ (ite ((gu d==lf)=af) _ _) _ _ s);rw[aw 0x7];refine aE (bm (aE (wj e1 e3 ?_)));rw[aw 0x2];refine aE (bm (aE (wl e1 e3 ?_)));rw[aw 0x2];refine bm ?_;simp only[show ¬((i:ag)<0) from by lia,ck,la,wo hi];refine aE ?_
 first|refine aE (su T (bm ?_))|refine aE (sA T (bm ?_))
 refine aE (m:=setField (.ref it) 0 .none) (Bn o1 o3 0x2 (aE ?_));simp only[newExc,wc];refine aE (gi (aE (m:=Br _ _) (mq (a:=lf) (by first|rfl|(simp only[Br];rfl)) (gi ?_ (by size_fits)))) (by size_fits));simp only[raiseNew];have hh':A.in1.handled=ao:=hh;refine aE (wpAny_handled ?hd);rw[hh'];refine aE (bm (wpAny_throw ?thrown));refine aE (wpAny_isInstance (b:=af) (T:= "StopIteration") ⟨_,dt _ rfl,rfl⟩ isSubtype_stop ?_);exact bm (q _ (((Bp ..).extBut.push _).push _))
def aCp(hh:A.handled=ao)(I d:aq)(hne:d≠I)(es:ba nu)(ep:ai):Walks prog w A I [I,d] [I] es.size (λi v=>∃h:i<es.size,v=es[i].key) (λi h=>h.IsKeyIter I d i es.size ep/\aAs h d es ep) where
 sub:=λb hb=>bq.mpr (.inl (dS.mp hb))
 frame:=λ_ _ _ st hk=>⟨Heap.IsKeyIter.at st.1 λo e=>hk I 0x2 o e,st.2.at λo e=>hk d 0x2 o e⟩
 item:=λi s Q E hi st hQ=>aGs st.1 st.2 hi λh' z sb=>hQ _ h' s.toks ⟨hi,rfl⟩ ⟨z,st.2.at λo e=>sb.extBut d o hne e⟩ λb o hb e=>sb.extBut b o (λh=>hb (by simp[h])) e
 done:=λs Q E st hQ=>aKp hh st.1 st.2 (bi _) λh' ex=>hQ h' s.toks λb o hb e=>ex b o (λh=>hb (by simp[h])) e
 self:=λ_ _ _ _ at_ q=>wpAny_pyIter_keyiter at_.1 q
end
section
variable {prog:cy} {w:bS} {A:cS} {E:ap->ay->Prop} {s:ay} {r:aq}
def aRk(s:ay)(F:ba ap->Prop)(q:lm)(s':ay):Prop:=∃(h':br)(tk:ai)(acc:ba ap)(c:ai),q=.ok (.ret (.ref s.heap.objs.size))/\s'={s with heap:=h',toks:=tk}/\(∀b o,s.heap.get? b=ae o->h'.get? b=ae o)/\h'.get? s.heap.objs.size=ae {cls:=.type "list",dict:=ao,data:=.seq acc c,slots:=#[]}/\F acc
def aCq
  (key:ϑ (az prog w) A.in1 (Bu (.ref s.heap.objs.size) (.ref r) (.ref s.heap.objs.size)) (λfin s'=>match fin with|.done f=>aRk s F (.ok f) s'|.again c'=>c'.quiet=af/\codeAny (az prog w) A c' (aRk s F) s') (λe s'=>aRk s F (.error e) s') {s with heap:=s.heap.push {cls:=.type "list",data:=.seq ([]:aa ap).toArray}})
  (q:∀h' tk acc,(∀b o,s.heap.get? b=ae o->h'.get? b=ae o)->s.heap.objs.size<=h'.objs.size->F acc->Q acc.toList {s with heap:=h',toks:=tk}):ϑ (az prog w) A (mf (.ref r)) Q E s:=by
 have last:∀{h':br}{tk:ai}{acc:ba ap}{c:ai},(∀b o,s.heap.get? b=ae o->h'.get? b=ae o)->h'.get? s.heap.objs.size=ae {cls:=.type "list",dict:=ao,data:=.seq acc c,slots:=#[]}->F acc->ϑ (az prog w) A (load s.heap.objs.size >>= λo=>match o.data with|.seq xs _=>pure xs.toList|_=>unsupported "internal:collect") Q E {s with heap:=h',toks:=tk}:=λkp at_ f=>aE (wpAny_load at_ (bm (q _ _ _ kp (mN (bX at_)) f)))
 unfold mf;refine aE (wpAny_runValue (hI entry_proto_collect' (?_:ϑ _ _ (vo [] >>= λl=>again (.builtin "list.__iadd__" ⟨[l,.ref r],[]⟩)) _ _ s)));rw[io PySem.F.plain_proto_collect];refine aE (gi (bm ⟨hG Bw _,hI entry_list_iadd' (?_:ϑ _ _ (Bu _ _ _) _ _ _)⟩));rw[io Bw];refine fj key (λfin s' x=>?_) λe s' ⟨_,_,_,_,z,_⟩=>nomatch z
 cases fin with
 |done f=>
  obtain⟨h',tk,acc,c,e,rfl,kp,at_,f⟩:=x;cases e;exact last kp at_ f
 |again c1=>
  refine⟨x.1,lq x.2 λp s2 y=>?_⟩;obtain⟨h',tk,acc,c,rfl,rfl,kp,at_,f⟩:=y;exact last kp at_ f
def aKq(ho:s.heap.get? r=ae o)(hc:o.cls=.type "tuple")(hd:o.data=.seq its n)(hz:its.size<=bp)
 (q:∀h' tk,(∀b o,s.heap.get? b=ae o->h'.get? b=ae o)->s.heap.objs.size<=h'.objs.size->Q its.toList {s with heap:=h',toks:=tk}):ϑ (az prog w) A (mf (.ref r)) Q E s:=by
 have hS:=dt (h:=s.heap) (o:={cls:=.type "list",data:=.seq ([]:aa ap).toArray}) rfl;obtain⟨c,hc2⟩:∃c,((s.heap.push {cls:=.type "list",data:=.seq ([]:aa ap).toArray}).update s.heap.objs.size (fu (·++its))).get? s.heap.objs.size=ae {cls:=.type "list",dict:=ao,data:=.seq its c,slots:=#[]}:=by
  rw[mo (fu (·++its)) hS rfl];simp only[fu,Array.empty_append];exact⟨_,rfl⟩
 refine aCq (F:=λacc=>acc=its) (wpAny_extend_seq (hsz:=hz) (s:={s with heap:=s.heap.push {cls:=.type "list",data:=.seq ([]:aa ap).toArray}}) _ r _ 0 (.inr rfl) hS (cx _ ho) hc hd ⟨_,s.toks,its,c,rfl,rfl,λb o' hb=>?_,hc2,rfl⟩) λh' tk acc kp sz e=>by rw[e];exact q h' tk kp sz
 exact(ly _ _ (ju (bX hb))).trans ((cx _ hb))
def aKr(lo:(d==fA)=aj):KdlSrc prog w "dict" d d es.size (λi v=>∃h:i<es.size,v=es[i].key) (λh=>aAs h d es ep) where
 type:=λ_ x=>x.ty
 there:=λh x=>by obtain⟨o,e,_⟩:=x;exact⟨bX e,bX e⟩
 keep:=λ_ _ x k=>x.at λo e=>k d (.inl rfl) o e
 notList:=rfl
 notTuple:=rfl
 hint:=λ_ _ _ _ x q=>kdl_hint_dict x.ty q
 iter:=λ_ s hh x=>⟨_,_,λ_ _ q=>aGr lo x q,aCp hh _ d (by obtain⟨o,e,_⟩:=x;exact di (bX e)) es ep,⟨_,dt _ rfl,rfl,rfl⟩,x.at λo e=>cx _ e⟩
theorem aCr(hh:A.handled=ao)(lo:(d==fA)=aj)(x:aAs s.heap d es ep)(hz:es.size<=bp)
 (q:∀h' tk,(∀b o,s.heap.get? b=ae o->h'.get? b=ae o)->s.heap.objs.size<=h'.objs.size->Q (es.toList.map (·.key)) {s with heap:=h',toks:=tk}):ϑ (az prog w) A (mf (.ref d)) Q E s:=by
 have lt:d<s.heap.objs.size:=by obtain⟨o,e,_⟩:=x;exact bX e
 refine aCq (F:=λacc=>acc.toList=es.toList.map (·.key)) (kdl_extend (aKr lo) hh (x.at λo e=>cx _ e) s.heap.objs.size (ju lt) (ju lt) _ 0 (dt _ rfl) (λh' tk acc c kp at_ it=>⟨h',tk,acc,c,rfl,rfl,λb o e=>kp b o (di (bX e)) (cx _ e),at_,?_⟩) hz) λh' tk acc kp sz e=>by rw[e];exact q h' tk kp sz
 refine List.ext_getElem? λi=>?_
 by_cases hi:i<es.size
 .obtain⟨v,hv⟩:∃v,acc[i]?=ae v:=⟨acc[i]'(by rw[it.1];exact hi),by simp[it.1,hi]⟩
  obtain⟨_,e⟩:=it.2 i v hv;rw[iu,hv,e,iN,iu,Bm hi];rfl
 .rw[iu,wo (by rw[it.1];lia),Bx (by simpa using hi)]
end
variable [KFrag]
section
def aOo(I:Inv X Ψ σ H s)(e:H a=ae (.dT kvs)):∃(es:ba nu)(ep:ai)(xs:aa (aa Key×aq×ap)),aAs s.heap a es ep/\(a==fA)=aj/\kvs.length<=bp/\KT H kvs xs/\es.toList=xs.map (entryOfKey (lh (dM X.prog X.w))):=by
 obtain⟨z,hd,xs,rel,o,es,ep,h1,h2,h3,h4,_⟩:=aG1 I.hok e;exact⟨es,ep,xs,⟨o,h1,h2,h3⟩,hd,z,rel,h4⟩
end
end Mi
namespace Mi
open PySem L2 PySem.SeqAt PySem.Spec PyProof.Rows
def aCs(d k e:D):Res D:=
 match d,k with
 |.lst xs,.int j=>match (ixD xs.length j).bind λn=>(xs[n]?).map λy=>(n,y) with
  |some (n,.lst ys)=>if ϒ (ys.length<lim)&&e.pure then .ok (.lst (xs.set n (.lst (ys++[e])))) else .bad
  |_=>.bad
 |.dct kvs,k=>if fY k then (match bB kvs k with
  |some (.lst ys)=>if ϒ (ys.length<lim)&&e.pure then .ok (.dct (putD kvs k (.lst (ys++[e])))) else .bad
  |_=>.bad) else .bad
 |_,_=>.bad
def aCt(i:ai)(fk fe:FE):FS:=λρ=>do
 let d <- kJ i ρ
 let k <- fk ρ
 let e <- fe ρ
 let r <- aCs d k e
 .ok (.nx (ρ.set i r))
noncomputable def aSk(i:ai)(d:D):FS:=λρ=>.ok (.nx (ρ.set i d))
section
variable [KFrag]
noncomputable abbrev Cel:=ai->aS (aq×aa aq)
def wF(c:Cel)(a:aq):Prop:=∃i b as,c i=ae (b,as)/\a∈b::as
inductive InL(H:Hp):aa V->aa D->aa aq->Prop
 |nil:InL H [] [] []
 |cons {a:aq} {vs:aa V} {ds:aa D} {r:aa V} {es:aa D} {as:aa aq}:H a=ae (.lst vs)->bN All H vs ds->θ ds=af->InL H r es as->InL H (.ref a::r) (.lst ds::es) (a::as)
inductive InK(H:Hp):aa (Key×V)->aa (D×D)->aa aq->Prop
 |nil:InK H [] [] []
 |cons {k:Key} {a:aq} {vs:aa V} {ds:aa D} {r:aa (Key×V)} {es:aa (D×D)} {as:aa aq}:H a=ae (.lst vs)->bN All H vs ds->θ ds=af->InK H r es as->InK H ((k,.ref a)::r) ((kD k,.lst ds)::es) (a::as)
inductive InA(H:Hp)(as:aa aq):aa V->aa D->Prop
 |nil:InA H as [] []
 |cons {a:aq} {vs:aa V} {ds:aa D} {r:aa V} {es:aa D}:a∈as->H a=ae (.lst vs)->bN All H vs ds->θ ds=af->InA H as r es->InA H as (.ref a::r) (.lst ds::es)
noncomputable def aOp:HO->ax
 |.lst _=>af
 |.dK _=>af
 |_=>aj
def aCu(h:aOp o=af):wD o=af:=by cases o<;>first|rfl|cases h
inductive yX(q:ax)(H:Hp)(b:aq)(as:aa aq):D->Prop
 |lst {vs:aa V} {ds:aa D}:H b=ae (.lst vs)->InL H vs ds as->yX q H b as (.lst ds)
 |dct {kvs:aa (Key×V)} {ds:aa (D×D)}:H b=ae (.dK kvs)->InK H kvs ds as->(kvs.map (·.1)).Nodup->yX q H b as (.dct ds)
 |pln {d:D} {o:HO}:as=[]->H b=ae o->aOp o=af->Rep All H (.ref b) d->inner d=af->yX q H b as d
 |any {vs:aa V} {ds:aa D}:q=af->H b=ae (.lst vs)->InA H as vs ds->(∀a∈as,∃ws,H a=ae (.lst ws))->yX q H b as (.lst ds)
section
def InL.reps(h:InL H vs ds as):bN All H vs ds:=by
 induction h with
 |nil=>exact .nil
 |cons e r p t ih=>exact .cons (.lst e trivial r) ih
def InK.reps(h:InK H kvs es as):lZ All H kvs es:=by
 induction h with
 |nil=>exact .nil
 |cons e r p t ih=>exact .cons (.lst e trivial r) ih
def InL.same(h:InL H vs ds as)(s:cD H H'):InL H' vs ds as:=by
 induction h with
 |nil=>exact .nil
 |cons e r p t ih=>exact .cons (s _ _ e) (r.same s) p ih
def InK.same(h:InK H kvs es as)(s:cD H H'):InK H' kvs es as:=by
 induction h with
 |nil=>exact .nil
 |cons e r p t ih=>exact .cons (s _ _ e) (r.same s) p ih
def InL.live(h:InL H vs ds as):∀a∈as,∃ws,H a=ae (.lst ws):=by
 induction h with
 |nil=>intro a ha;cases ha
 |cons e r p t ih=>
  intro a ha;rcases bq.mp ha with rfl|ha
  .exact⟨_,e⟩
  .exact ih a ha
def InK.live(h:InK H kvs es as):∀a∈as,∃ws,H a=ae (.lst ws):=by
 induction h with
 |nil=>intro a ha;cases ha
 |cons e r p t ih=>
  intro a ha;rcases bq.mp ha with rfl|ha
  .exact⟨_,e⟩
  .exact ih a ha
def InL.upd(h:InL H vs ds as)(hx:x∉as)(hu:H x=ae u)(hm:wD u=af):InL (upd H x o) vs ds as:=by
 induction h with
 |nil=>exact .nil
 |cons e r p t ih=>
  rw[bq,gS] at hx;exact .cons (by rw[bA (Ne.symm hx.1)];exact e) (r.upd p hu hm) p (ih hx.2)
def InK.upd(h:InK H kvs es as)(hx:x∉as)(hu:H x=ae u)(hm:wD u=af):InK (upd H x o) kvs es as:=by
 induction h with
 |nil=>exact .nil
 |cons e r p t ih=>
  rw[bq,gS] at hx;exact .cons (by rw[bA (Ne.symm hx.1)];exact e) (r.upd p hu hm) p (ih hx.2)
def aGt{n:ai}(h:θ ds=af)(hn:ds[n]?=ae y):y.pure=af:=by
 induction ds generalizing n with
 |nil=>simp at hn
 |cons d ds ih=>
  rw[θ,bn] at h;cases n with
  |zero=>simp at hn;subst hn;exact h.1
  |succ n=>exact ih h.2 (by simpa using hn)
def m9(h:θ ds=af)(hd:d.pure=af):θ (ds++[d])=af:=by
 rw[oR];simp only[bn];exact⟨h,by simp[θ,hd]⟩
def aCv{kvs:aa (D×D)}(h:θ (kvs.map (·.2))=af)(hl:bB kvs k=ae y):y.pure=af:=by
 induction kvs with
 |nil=>cases hl
 |cons p r ih=>
  rw[bj,θ,bn] at h;rw[bB] at hl;split at hl
  .cases hl;exact h.1
  .exact ih h.2 hl
def InL.at_(h:InL H vs ds as)(hn:ds[n]?=ae y)(nd:as.Nodup):∃a ws ys,y=.lst ys/\vs[n]?=ae (.ref a)/\a∈as/\H a=ae (.lst ws)/\bN All H ws ys/\
  ∀(H':Hp)(v:V)(e:D),cD H H'->Rep All H' v e->e.pure=af->InL (L2.upd H' a (.lst (ws++[v]))) vs (ds.set n (.lst (ys++[e]))) as:=by
 induction h generalizing n with
 |nil=>simp at hn
 |@cons a ws ys r es as e rr p t ih=>
  rw[df] at nd;cases n with
  |zero=>
   simp only[List.getElem?_cons_zero,iq] at hn;subst hn;refine⟨a,ws,ys,rfl,rfl,bw ..,e,rr,λH' v d sm rv hd=>?_⟩;exact .cons aM (((rr.same sm).snoc rv).upd (m9 p hd) (sm _ _ e) rfl) (m9 p hd) ((t.same sm).upd nd.1 (sm _ _ e) rfl)
  |succ n=>
   rw[By] at hn;obtain⟨a',ws',ys',h1,h2,h3,h4,h5,h6⟩:=ih hn nd.2;refine⟨a',ws',ys',h1,by rw[By];exact h2,bu _ h3,h4,h5,λH' v d sm rv hd=>?_⟩;have hne:a≠a':=λz=>by subst z;exact nd.1 h3
   exact .cons (by rw[bA hne];exact sm _ _ e) ((rr.same sm).upd p (sm _ _ h4) rfl) p (h6 H' v d sm rv hd)
theorem InK.at_(h:InK H kvs es as)(hn:bB es (kD k)=ae y)(nd:as.Nodup):∃a ws ys,y=.lst ys/\tK kvs k=ae (.ref a)/\a∈as/\H a=ae (.lst ws)/\bN All H ws ys/\
  ∀(H':Hp)(v:V)(e:D),cD H H'->Rep All H' v e->e.pure=af->InK (L2.upd H' a (.lst (ws++[v]))) kvs (putD es (kD k) (.lst (ys++[e]))) as:=by
 induction h with
 |nil=>cases hn
 |@cons q a ws ys r es as e rr p t ih=>
  rw[df] at nd;rw[bB,PB] at hn;by_cases hq:q=k
  .subst hq;rw[cm rfl,av rfl] at hn;cases hn;refine⟨a,ws,ys,rfl,?_,bw ..,e,rr,λH' v d sm rv hd=>?_⟩
   .simp[tK]
   .rw[putD,PB,cm rfl,av rfl];exact .cons aM (((rr.same sm).snoc rv).upd (m9 p hd) (sm _ _ e) rfl) (m9 p hd) ((t.same sm).upd nd.1 (sm _ _ e) rfl)
  .rw[c8 hq,aw 0x2] at hn;obtain⟨a',ws',ys',h1,h2,h3,h4,h5,h6⟩:=ih hn nd.2;have hne:a≠a':=λz=>by subst z;exact nd.1 h3
   refine⟨a',ws',ys',h1,?_,bu _ h3,h4,h5,λH' v d sm rv hd=>?_⟩
   .rw[<-h2];simp[tK,hq]
   .rw[putD,PB,c8 hq,aw 0x2];exact .cons (by rw[bA hne];exact sm _ _ e) ((rr.same sm).upd p (sm _ _ h4) rfl) p (h6 H' v d sm rv hd)
def InA.reps(h:InA H as vs ds):bN All H vs ds:=by
 induction h with
 |nil=>exact .nil
 |cons m e r p t ih=>exact .cons (.lst e trivial r) ih
def InA.same(h:InA H as vs ds)(s:cD H H'):InA H' as vs ds:=by
 induction h with
 |nil=>exact .nil
 |cons m e r p t ih=>exact .cons m (s _ _ e) (r.same s) p ih
def InA.upd(h:InA H as vs ds)(hx:x∉as)(hu:H x=ae u)(hm:wD u=af):InA (upd H x o) as vs ds:=by
 induction h with
 |nil=>exact .nil
 |cons m e r p t ih=>exact .cons m (by rw[bA (λz=>hx (by rw[<-z];exact m))];exact e) (r.upd p hu hm) p ih
def Rep.aTi(r:Rep All H (.ref b) d)(hi:inner d=af)(hx:x≠b)(hu:H x=ae u)(hm:wD u=af):Rep All (L2.upd H x o) (.ref b) d:=by
 refine(r.aMu (P':=λc=>c=b) hi rfl).keep (λc oc hc hp=>?_) λ_ _=>trivial
 rw[bA]
 .exact hc
 .intro z;subst z;rcases hp with hp|hp
  .exact hx hp
  .rw[hu] at hc;cases hc;rw[hm] at hp;cases hp
def yX.rep(h:yX qb H b as d):Rep All H (.ref b) d:=by
 cases h with
 |lst e i=>exact .lst e trivial i.reps
 |dct e i n=>exact .dK e trivial i.reps n
 |pln z e m r p=>exact r
 |any z e i l=>exact .lst e trivial i.reps
def yX.same(h:yX qb H b as d)(s:cD H H'):yX qb H' b as d:=by
 cases h with
 |lst e i=>exact .lst (s _ _ e) (i.same s)
 |dct e i n=>exact .dct (s _ _ e) (i.same s) n
 |pln z e m r p=>exact .pln z (s _ _ e) m (r.same s) p
 |any z e i l=>exact .any z (s _ _ e) (i.same s) λa ha=>let ⟨ws,h⟩:=l a ha;⟨ws,s _ _ h⟩
def yX.live(h:yX qb H b as d):∀a∈b::as,∃o,H a=ae o/\wD o=af:=by
 intro a ha;cases h with
 |lst e i=>
  rcases bq.mp ha with rfl|ha
  .exact⟨_,e,rfl⟩
  .obtain⟨ws,h⟩:=i.live a ha;exact⟨_,h,rfl⟩
 |dct e i n=>
  rcases bq.mp ha with rfl|ha
  .exact⟨_,e,rfl⟩
  .obtain⟨ws,h⟩:=i.live a ha;exact⟨_,h,rfl⟩
 |pln z e m r p=>
  subst z;rw[dS.mp ha];exact⟨_,e,aCu m⟩
 |any z e i l=>
  rcases bq.mp ha with rfl|ha
  .exact⟨_,e,rfl⟩
  .obtain⟨ws,h⟩:=l a ha;exact⟨_,h,rfl⟩
def yX.upd(h:yX qb H b as d)(hx:x∉b::as)(hu:H x=ae u)(hm:wD u=af):yX qb (L2.upd H x o) b as d:=by
 rw[bq,gS] at hx;cases h with
 |lst e i=>exact .lst (by rw[bA (Ne.symm hx.1)];exact e) (i.upd hx.2 hu hm)
 |dct e i n=>exact .dct (by rw[bA (Ne.symm hx.1)];exact e) (i.upd hx.2 hu hm) n
 |pln z e m r p=>exact .pln z (by rw[bA (Ne.symm hx.1)];exact e) m (r.aTi p hx.1 hu hm) p
 |any z e i l=>exact .any z (by rw[bA (Ne.symm hx.1)];exact e) (i.upd hx.2 hu hm) λa ha=>let ⟨ws,h⟩:=l a ha;⟨ws,by rw[bA (λz=>hx.2 (by rw[<-z];exact ha))];exact h⟩
end
structure NQ(S:ai->ax)(c:Cel)(H:Hp)(σ:L2.St)(ρ:aa D):Prop where
 len:σ.length=ρ.length
 dom:∀i p,c i=ae p->S i=af
 nd:∀i b as,c i=ae (b,as)->(b::as).Nodup
 dj:∀i j b as b' as',i≠j->c i=ae (b,as)->c j=ae (b',as')->∀a∈b::as,a∉b'::as'
 at_:∀i,ρ.getD i .uD≠.uD->∃v,σ[i]?=ae (ae v)/\(S i=aj->Rep (λa=>¬wF c a) H v (ρ.getD i .uD))
 nst:∀i b as,c i=ae (b,as)->σ[i]?=ae (ae (.ref b))/\yX (S (i+1000)) H b as (ρ.getD i .uD)
 all:∀i,S i=af->ρ.getD i .uD≠.uD->∃p,c i=ae p
variable {S:ai->ax}
def NQ.er(E:NQ S c H σ ρ):ER H σ ρ:=λi hi=>by
 obtain⟨v,h1,h2⟩:=E.at_ i hi;cases ho:S i with
 |false=>exact⟨v,h1,(h2 ho).all⟩
 |true=>
  obtain⟨⟨b,as⟩,hp⟩:=E.all i ho hi;obtain⟨h3,h4⟩:=E.nst i b as hp;exact⟨_,h3,h4.rep⟩
def NQ.live(E:NQ S c H σ ρ)(h:wF c a):∃o,H a=ae o/\wD o=af:=by
 obtain⟨i,b,as,hc,ha⟩:=h;exact(E.nst i b as hc).2.live a ha
def NQ.same(E:NQ S c H σ ρ)(s:cD H H'):NQ S c H' σ ρ:=
 ⟨E.len,E.dom,E.nd,E.dj,λi hi=>let ⟨v,h1,h2⟩:=E.at_ i hi;⟨v,h1,λho=>(h2 ho).same s⟩,λi b as hc=>let ⟨h1,h2⟩:=E.nst i b as hc;⟨h1,h2.same s⟩,E.all⟩
def KC(c:Cel)(H:Hp)(c':Cel)(H':Hp):Prop:=∀a o,H a=ae o->¬wF c a->H' a=ae o/\¬wF c' a
def KC.trans(a:KC c H c1 H1)(b:KC c1 H1 c2 H2):KC c H c2 H2:=λx o e n=>let ⟨e1,n1⟩:=a x o e n;b x o e1 n1
def KC.same(s:cD H H'):KC c H c H':=λa o e n=>⟨s a o e,n⟩
def KC.keep(k:KC c H c' H')(E:NQ S c H σ ρ):HX (λa=>¬wF c a) H H':=λa o h hp=>by
 by_cases ho:wF c a
 .obtain⟨o',g1,g2⟩:=E.live ho;rw[h] at g1;cases g1;rcases hp with hp|hp
  .exact bg ho hp
  .rw[g2] at hp;cases hp
 .exact(k a o h ho).1
def KC.rep(k:KC c H c' H')(E:NQ S c H σ ρ)(r:Rep (λa=>¬wF c a) H v d):Rep (λa=>¬wF c' a) H' v d:=r.Z7 (k.keep E) λa o e n=>(k a o e n).2
def kN(S:ai->ax)(D:Ends)(c:Cel)(H:Hp):Fl->Prop
 |.nx ρ=>∀c' σ' H',KC c H c' H'->NQ S c' H' σ' ρ->D.nx σ' H'
 |.bk ρ=>∀c' σ' H',KC c H c' H'->NQ S c' H' σ' ρ->D.bk σ' H'
 |.ct ρ=>∀c' σ' H',KC c H c' H'->NQ S c' H' σ' ρ->D.ct σ' H'
 |.rt d=>∀v H',(∀a o,H a=ae o->¬wF c a->H' a=ae o)->Rep (λa=>wF c a\/H a=ao) H' v d->D.rt v H'
def kN.step{D:Ends}(k:KC c H c' H')(h:kN S D c H fl):kN S D c' H' fl:=by
 cases fl with
 |nx ρ=>exact λc2 σ2 H2 k2 e=>h c2 σ2 H2 (k.trans k2) e
 |bk ρ=>exact λc2 σ2 H2 k2 e=>h c2 σ2 H2 (k.trans k2) e
 |ct ρ=>exact λc2 σ2 H2 k2 e=>h c2 σ2 H2 (k.trans k2) e
 |rt d=>
  refine λv H2 hk r=>h v H2 (λa o e n=>let ⟨e1,n1⟩:=k a o e n;hk a o e1 n1) (r.mono λa ha=>?_)
  cases q:H a with
  |none=>exact .inr rfl
  |some o=>
   refine .inl (so λn=>?_);obtain⟨e1,n1⟩:=k a o q n;rcases ha with ha|ha
   .exact n1 ha
   .rw[e1] at ha;cases ha
noncomputable def tN(S:ai->ax)(f:FS):TS:=λD σ H=>∃c ρ fl,NQ S c H σ ρ/\f ρ=.ok fl/\kN S D c H fl
structure QS(X:Cx)(st:bz)(t:TS):Prop where
 out:PS X st t
structure QSs(X:Cx)(st:aa bz)(t:TS):Prop where
 out:PSs X st t
section
variable {X:Cx} {a b c e:Expr} {pos:de} {fe:FE} {re:ax} {gc:FT} {f g:FS} {st:bz} {rest s1 s2:aa bz}
def aKs:QSs X [] (tN S n8):=QSs.mk <| PSs.imp aB1 λD σ H ⟨c,ρ,fl,E,h,q⟩=>by
 cases h;exact q c σ H (λa o e n=>⟨e,n⟩) E
def xG(h1:QS X st (tN S f))(h2:QSs X rest (tN S g)):QSs X (st::rest) (tN S (bM f g)):=QSs.mk <| PSs.imp (wJ h1.out h2.out) λD σ H ⟨c,ρ,fl,E,h,q⟩=>by
 obtain⟨r,h1,h2⟩:=bF h;refine⟨c,ρ,r,E,h1,?_⟩;cases r with
 |nx ρ'=>exact λc' σ' H' k E'=>⟨c',ρ',fl,E',h2,q.step k⟩
 |bk ρ'=>cases h2;exact q
 |ct ρ'=>cases h2;exact q
 |rt d=>cases h2;exact q
def JS(h1:QS X st (tN S f)):QSs X [st] (tN S f):=⟨aB2 h1.out⟩
def aRl(hc:PT X c (gT gc))(ha:QSs X s1 (tN S f))(hb:QSs X s2 (tN S g)):QS X (.If c s1 s2 pos) (tN S (sIf gc f g)):=QS.mk <| PS.imp (aNb hc ha.out hb.out) λD σ H ⟨c',ρ,fl,E,h,q⟩=>by
 obtain⟨k,h1,h2⟩:=bF h;refine⟨ρ,k,E.er,h1,λH' s=>?_⟩;cases k with
 |true=>rw[av rfl];rw[av rfl] at h2;exact⟨c',ρ,fl,E.same s,h2,q.step (.same s)⟩
 |false=>rw[aw 0x2];rw[aw 0x2] at h2;exact⟨c',ρ,fl,E.same s,h2,q.step (.same s)⟩
theorem NQ.set{c:Cel}(E:NQ S c H σ ρ)(ho:S i=aj)(r:Rep (λa=>¬wF c a) H v d):NQ S c H (σ.set i (ae v)) (ρ.set i d):=by
 have hne:∀j,S j=af->i≠j:=λj hj z=>by subst z;rw[ho] at hj;cases hj
 refine⟨by simp[E.len],E.dom,E.nd,E.dj,λj hj=>?_,λj b as hc=>?_,λj hj hd=>?_⟩
 .rw[bR] at hj ⊢;by_cases h:i=j/\i<ρ.length
  .rw[av h];obtain⟨rfl,hl⟩:=h;exact⟨v,by rw[gw (by rw[E.len];exact hl)],λ_=>r⟩
  .rw[aw h] at hj ⊢;obtain⟨w,h1,h2⟩:=E.at_ j hj;by_cases hij:i=j
   .subst hij;have:i<σ.length:=(dz.mp h1).1;rw[E.len] at this;exact bg ⟨rfl,this⟩ h
   .exact⟨w,by rw[eD hij];exact h1,h2⟩
 .have hij:=hne j (E.dom j _ hc);rw[bR,aw λz=>hij z.1,eD hij];exact E.nst j b as hc
 .have hij:=hne j hj;rw[bR,aw λz=>hij z.1] at hd;exact E.all j hj hd
theorem NQ.app{c:Cel}{H:Hp}{σ:L2.St}{ρ:aa D}{i:ai}{b x:aq}{as:aa aq}{d:D}{o u:HO}(E:NQ S c H σ ρ)(hc:c i=ae (b,as))(hx:x∈b::as)(hu:H x=ae u)(hm:wD u=af)(hn:yX (S (i+1000)) (upd H x o) b as d):NQ S c (upd H x o) σ (ρ.set i d)/\KC c H c (upd H x o):=by
 have hO:wF c x:=⟨i,b,as,hc,hx⟩
 have k:KC c H c (upd H x o):=λa oa e n=>⟨by rw[bA (λz=>by subst z;exact n hO)];exact e,n⟩
 obtain⟨hσ,_⟩:=E.nst i b as hc;have hl:i<ρ.length:=by rw[<-E.len];exact(dz.mp hσ).1
 have hS:=E.dom i _ hc;refine⟨⟨by simp[E.len],E.dom,E.nd,E.dj,λj hj=>?_,λj b' as' hc'=>?_,λj hj hd=>?_⟩,k⟩
 .rw[bR] at hj ⊢;by_cases h:i=j/\i<ρ.length
  .obtain⟨rfl,_⟩:=h;exact⟨_,hσ,λz=>by rw[hS] at z;cases z⟩
  .rw[aw h] at hj ⊢;obtain⟨w,h1,h2⟩:=E.at_ j hj;exact⟨w,h1,λhj=>k.rep E (h2 hj)⟩
 .by_cases hij:i=j
  .subst hij;rw[hc] at hc';cases hc';rw[bR,av ⟨rfl,hl⟩];exact⟨hσ,hn⟩
  .rw[bR,aw λz=>hij z.1];obtain⟨h1,h2⟩:=E.nst j b' as' hc';exact⟨h1,h2.upd (E.dj i j b as b' as' hij hc hc' x hx) hu hm⟩
 .by_cases hij:i=j
  .subst hij;exact⟨_,hc⟩
  .rw[bR,aw λz=>hij z.1] at hd;exact E.all j hj hd
def aTj(K:b6):R2:=λx y H Q=>aSc K x y H Q\/∃a kvs k v,x=.ref a/\y=kV k/\H a=ae (.dK kvs)/\tK kvs k=ae v/\Q v H
def aSl(hu:X.A.units+20<bE):IxR X (aTj X.K):=IxR.or G4 λvalue slice Ψ s σ H x y v u Q I rx ry h hs=>by
 obtain⟨a,kvs,k,w,rfl,rfl,e,hv,q⟩:=h;cases rx;have g:aAr H a (kV k) (tK kvs k):=.k e;rw[hv] at g;exact yN hu I g ry hs (λ_ h=>h) q
theorem aCw(hu:X.A.units+20<bE)(ho:S i=af)(hN:X.N[i]?=ae x)(hv:Vis X.env.scope x)(hk:PE X k (gE fk rk))(he:PE X e (gE fe re))(hp:uT k:=by exact λ_ _=>rfl)(hd:autoParam (nDb x) Λ)(hcd:autoParam (nCd x) Λ)
 (hbase:autoParam (jz (.Subscript (.Name x p1) k p2) "append" X.env (cK (.Subscript (.Name x p1) k p2) X.env)=cK (.Subscript (.Name x p1) k p2) X.env) Ω)
 (hs1:autoParam (zSE X e []) Ω)
 (hfew:autoParam (zFw X cpos [e]) Ω)
 (hline:autoParam ((apos.endLine==cpos.line)=af) Ω)
 (hs:autoParam (fi (.Call (.Attribute (.Subscript (.Name x p1) k p2) "append" apos) [e] [] cpos) ao pos.line X.env=pure aj) Ω)
 (hq:autoParam (S (i+1000)=aj) Ω):QS X (.Expr (.Call (.Attribute (.Subscript (.Name x p1) k p2) "append" apos) [e] [] cpos) pos) (tN S (aCt i fk fe)):=QS.mk <|
 PS.imp (xR (aBb mw uS A4 xY (aJp (aSl hu) (j_ hN hv hd hcd) hk hp) (kI he rF hs1) hbase hfew hline hs1 rfl) hs) λD' σ H ⟨c,ρ,fl,E,h,q⟩=>by
 obtain⟨d,h1,hA⟩:=bF h;obtain⟨kd,h2,hB⟩:=bF hA;obtain⟨ed,h3,hC⟩:=bF hB;obtain⟨r,h4,hD⟩:=bF hC;cases hD;obtain⟨v0,hv0,r0,e0⟩:=E.er.var h1;have hne:ρ.getD i .uD≠.uD:=λz=>by rw[z] at e0;subst e0;exact Rep.uD r0
 obtain⟨⟨b,as⟩,hc⟩:=E.all i ho hne;obtain⟨hσ,hN0⟩:=E.nst i b as hc;have hnd:=E.nd i b as hc;rw[df] at hnd;rw[e0,hq] at hN0;unfold aCs at h4;split at h4
 .rename_i xs j;split at h4
  .rename_i n ys hix;split at h4
   .rename_i hg;cases h4;rw[bn] at hg;obtain⟨n',hx1,hx2⟩:=Option.bind_eq_some_iff.mp hix;obtain⟨y',hx3,hx4⟩:=lS.mp hx2;cases hx4;refine⟨.ref b,hσ,ρ,_,E.er,h2,λkv H1 sm1 rk1 _=>?_⟩;cases rk1;have N1:=hN0.same sm1;cases N1 with
    |lst eb il=>
     obtain⟨a,ws,zs,q1,q2,q3,q4,q5,q6⟩:=il.at_ hx3 hnd.2;cases q1;refine .inl ⟨b,_,j,.ref a,rfl,rfl,.of eb,by rw[aIc,il.reps.length,hx1];exact q2,?_⟩;refine⟨.inl ⟨rfl,_,.of q4⟩,ρ,_,E.er.same sm1,h3,λev H2 sm2 re2 _=>⟨a,ws,ev,rfl,rfl,sm2 _ _ q4,by rw[q5.length];exact O_ hg.1,?_⟩⟩;obtain⟨E2,k2⟩:=(E.same (sm1.trans sm2)).app hc (bu _ q3) (sm2 _ _ q4) rfl (.lst (by rw[bA (λz=>hnd.1 (by rw[z];exact q3))];exact sm2 _ _ eb) (q6 H2 ev ed sm2 re2 hg.2));exact q c σ _ ((KC.same (sm1.trans sm2)).trans k2) E2
    |pln _ _ _ _ pp=>
     have:=aGt pp hx3;cases this
    |any z=>cases z
   .cases h4
  .cases h4
 .rename_i kvs;split at h4
  rotate_left
  .cases h4
  rename_i hfk;obtain⟨z,rfl⟩:∃z:Key,kd=kD z:=by
   cases kd<;>first|exact⟨.inl _,rfl⟩|exact⟨.inr _,rfl⟩|cases hfk
  split at h4
  .rename_i ys hlk;split at h4
   .rename_i hg;cases h4;rw[bn] at hg;refine⟨.ref b,hσ,ρ,_,E.er,h2,λkv H1 sm1 rk1 _=>?_⟩;obtain rfl:kv=kV z:=by
     cases z with
     |inl i=>cases rk1;rfl
     |inr x=>cases rk1;rfl
    have N1:=hN0.same sm1;cases N1 with
    |pln _ _ _ _ pp=>
     have:=aCv pp hlk;cases this
    |dct eb il nk=>
     obtain⟨a,ws,zs,q1,q2,q3,q4,q5,q6⟩:=il.at_ hlk hnd.2;cases q1;refine .inr ⟨b,_,z,.ref a,rfl,rfl,eb,q2,?_⟩;refine⟨.inl ⟨rfl,_,.of q4⟩,ρ,_,E.er.same sm1,h3,λev H2 sm2 re2 _=>⟨a,ws,ev,rfl,rfl,sm2 _ _ q4,by rw[q5.length];exact O_ hg.1,?_⟩⟩;obtain⟨E2,k2⟩:=(E.same (sm1.trans sm2)).app hc (bu _ q3) (sm2 _ _ q4) rfl (.dct (by rw[bA (λz=>hnd.1 (by rw[z];exact q3))];exact sm2 _ _ eb) (q6 H2 ev ed sm2 re2 hg.2) nk);exact q c σ _ ((KC.same (sm1.trans sm2)).trans k2) E2
   .cases h4
  .cases h4
 .cases h4
end
end
section
variable [KFrag]
variable {S:ai->ax}
theorem NQ.new(E:NQ S c H σ ρ)(ho:S i=af)(hl:i<σ.length)(sm:cD H H')(nd:(b::as).Nodup)(hf:∀a∈b::as,H a=ao)(hn:yX (S (i+1000)) H' b as d):∃c',NQ S c' H' (σ.set i (ae (.ref b))) (ρ.set i d)/\KC c H c' H':=by
 have hlv:∀a,wF c a->a∉b::as:=λa ha z=>by
  obtain⟨o,h1,_⟩:=E.live ha;rw[hf a z] at h1;cases h1
 have own:∀a,wF (λj=>if j=i then ae (b,as) else c j) a->wF c a\/a∈b::as:=λa ⟨j,b',as',hc,ha⟩=>by
  by_cases hj:j=i
  .simp only[hj,cq,iq,iA] at hc;obtain⟨rfl,rfl⟩:=hc;exact .inr ha
  .simp only[hj,ck] at hc;exact .inl ⟨j,b',as',hc,ha⟩
 have k:KC c H (λj=>if j=i then ae (b,as) else c j) H':=λa o e n=>⟨sm a o e,λz=>by
  rcases own a z with z|z
  .exact n z
  .rw[hf a z] at e;cases e⟩
 have hlr:i<ρ.length:=by rw[<-E.len];exact hl
 refine⟨λj=>if j=i then ae (b,as) else c j,⟨by simp[E.len],λj p hc=>?_,λj b' as' hc=>?_,λj1 j2 b1 as1 b2 as2 hne h1 h2 a ha=>?_,λj hj=>?_,λj b' as' hc=>?_,λj hj hd=>?_⟩,k⟩
 .by_cases hj:j=i
  .rw[hj];exact ho
  .simp only[hj,ck] at hc;exact E.dom j p hc
 .by_cases hj:j=i
  .simp only[hj,cq,iq,iA] at hc;obtain⟨rfl,rfl⟩:=hc;exact nd
  .simp only[hj,ck] at hc;exact E.nd j b' as' hc
 .by_cases e1:j1=i
  .by_cases e2:j2=i
   .exact bg (e1.trans e2.symm) hne
   .simp only[e1,cq,iq,iA] at h1;simp only[e2,ck] at h2;obtain⟨rfl,rfl⟩:=h1;exact λz=>hlv a ⟨j2,b2,as2,h2,z⟩ ha
  .simp only[e1,ck] at h1;by_cases e2:j2=i
   .simp only[e2,cq,iq,iA] at h2;obtain⟨rfl,rfl⟩:=h2;exact hlv a ⟨j1,b1,as1,h1,ha⟩
   .simp only[e2,ck] at h2;exact E.dj j1 j2 b1 as1 b2 as2 hne h1 h2 a ha
 .rw[bR] at hj ⊢;by_cases h:i=j/\i<ρ.length
  .obtain⟨rfl,_⟩:=h;exact⟨.ref b,by rw[gw hl],λz=>by rw[ho] at z;cases z⟩
  .rw[aw h] at hj ⊢;have hij:i≠j:=λz=>h ⟨z,hlr⟩
   obtain⟨w,h1,h2⟩:=E.at_ j hj;exact⟨w,by rw[eD hij];exact h1,λhs=>k.rep E (h2 hs)⟩
 .by_cases hj:j=i
  .subst hj;simp only[cq,iq,iA] at hc;obtain⟨rfl,rfl⟩:=hc;rw[bR,av ⟨rfl,hlr⟩,gw hl];exact⟨rfl,hn⟩
  .simp only[hj,ck] at hc;rw[bR,aw λz=>hj z.1.symm,eD (Ne.symm hj)];obtain⟨h1,h2⟩:=E.nst j b' as' hc;exact⟨h1,h2.same sm⟩
 .by_cases hji:j=i
  .exact⟨(b,as),by simp[hji]⟩
  .rw[bR,aw λz=>hji z.1.symm] at hd;obtain⟨p,hp⟩:=E.all j hj hd;exact⟨p,by simp[hji,hp]⟩
section
variable {a c e:Expr} {g:FS}
def TgN(S:ai->ax)(g:TG)(t:D->aa D->Res (aa D)):Prop:=∀(v:V)(d:D)(ρ ρ':aa D)(σ:L2.St)(H:Hp)(c:Cel)(Q:L2.St->Hp->Prop),NQ S c H σ ρ->Rep (λa=>¬wF c a) H v d->t d ρ=.ok ρ'->(∀σ',NQ S c H σ' ρ'->Q σ' H)->g v σ H Q
def NQ.sets{c:Cel}:∀{is:aa ai}{vs:aa V}{ds:aa D}{σ:L2.St}{ρ:aa D},(∀i∈is,S i=aj)->NQ S c H σ ρ->bN (λa=>¬wF c a) H vs ds->NQ S c H (mF is vs σ) (O5 is ds ρ)
 |[],_,_,_,_,_,E,_=>by simp only[mF,O5];exact E
 |i::is,_,_,σ,ρ,h,E,.nil=>by simp only[mF,O5];exact E
 |i::is,_,_,σ,ρ,h,E,.cons r t=>NQ.sets (is:=is) (λj hj=>h j (bu _ hj)) (E.set (h i (bw ..)) r) t
def aCx(K:b6)(ho:∀i∈is,S i=aj):TgN S (aQ8 K is.length (gIx is)) (tgN is):=λv d ρ ρ' σ H c Q E r h q=>by
 cases d<;>simp only[tgN] at h<;>(try (cases h;done))
 split at h
 .rename_i hl;cases h;have hl':=fq hl;obtain⟨a,xs,rfl,e,rr⟩:=r.gM;exact⟨a,xs,rfl,.of e,by rw[rr.length];exact hl',JG _ _ _ (by rw[rr.length];exact hl') (q _ (E.sets ho rr))⟩
 .cases h
def ItQ.kc{K:b6}{c c':Cel}{σ:L2.St}{H H':Hp}{ρ:aa D}(h:ItQ K (λa=>¬wF c a) J H items)(k:KC c H c' H')(E:NQ S c H σ ρ):ItQ K (λa=>¬wF c' a) J H' items:=h.keep' (k.keep E) λa o e n=>(k a o e n).2
theorem aCy{K:b6}{g:TG}{t:D->aa D->Res (aa D)}{fb:FS}{D':Ends}{J:It}{items:aa D}{c:Cel}{σ:L2.St}{H1:Hp}{ρ:aa D}{fl:Fl}(ht:TgN S g t)(E:NQ S c H1 σ ρ)(hJ:ItQ K (λa=>¬wF c a) J H1 items)(hf:oK t fb items ρ=.ok fl)(q:kN S D' c H1 fl) :
  ∃W:ai->ai->L2.St->Hp->Prop,(∃m,W 0 m σ H1)/\∀i m σ H,W i m σ H->
   (J.stop i H/\D'.nx σ H)\/(J.go i H/\∃N:L2.St->Hp->Prop,(∀σ' H',N σ' H'->∃m',m'<m/\W (i+1) m' σ' H')/\∀x H',J.yld i H x H'->g x σ H' λσ2 H2=>tN S fb {D' with nx:=N,ct:=N,bk:=D'.nx} σ2 H2):=by
  refine⟨λi m σ' H'=>m=items.length-i/\i<=items.length/\∃c' ρ',ItQ K (λa=>¬wF c' a) J H' items/\NQ S c' H' σ' ρ'/\oK t fb (items.drop i) ρ'=.ok fl/\kN S D' c' H' fl,⟨items.length,rfl,fo _,c,ρ,hJ,E,hf,q⟩,?_⟩;rintro i m σ' H' ⟨rfl,hi,c',ρ',hJ',E',hf',q'⟩;rcases rf i items.length with hlt|hge
  .refine .inr ?_;have e:items[i]?=ae items[i]:=eh hlt;obtain⟨g1,g2⟩:=hJ'.go e;rw[ij hlt] at hf';obtain⟨ρ1,h1,hf2⟩:=bF hf';obtain⟨r,h2,hf3⟩:=bF hf2;refine⟨g1,λσ2 H2=>∃c' ρ',ItQ K (λa=>¬wF c' a) J H2 items/\NQ S c' H2 σ2 ρ'/\oK t fb (items.drop (i+1)) ρ'=.ok fl/\kN S D' c' H2 fl,λσ2 H2 n2=>⟨items.length-(i+1),by lia,rfl,hlt,n2⟩,λx H2 hy=>?_⟩;obtain⟨sH,rx⟩:=g2 x H2 hy;have hJ2:=hJ'.kc (.same sH) E';have q2:=q'.step (.same sH);refine ht x items[i] ρ' ρ1 σ' H2 c' _ (E'.same sH) rx h1 λσ2 E2=>⟨c',ρ1,r,E2,h2,?_⟩
   cases r with
   |nx ρ2=>exact λc3 σ3 H3 k3 E3=>⟨c3,ρ2,hJ2.kc k3 E2,E3,hf3,q2.step k3⟩
   |ct ρ2=>exact λc3 σ3 H3 k3 E3=>⟨c3,ρ2,hJ2.kc k3 E2,E3,hf3,q2.step k3⟩
   |bk ρ2=>cases hf3;exact λc3 σ3 H3 k3 E3=>q2 c3 σ3 H3 k3 E3
   |rt d=>cases hf3;exact q2
  .refine .inl ⟨hJ'.stop hge,?_⟩;rw[sn hge] at hf';cases hf';exact q' c' σ' H' (λa o e n=>⟨e,n⟩) E'
def aIk{g:TG}{t:D->aa D->Res (aa D)}{it:FI}{fb:FS}(hp:jt (az X.prog X.w) X.A X.env X.xe)(hc:X.calm=af)(hi:PI X tg iter (gI X.K it))(ht:TgN S g t)(hg:PG X tg g)(hb:QSs X body (tN S fb))
 (hs:∀x,eW iter X.env x=pure x:=by intro _;rfl):QS X (.For tg iter body [] pos) (tN S (vV it t fb)):=QS.mk <| PS.imp (M_ hp hc hi hg hb.out hs) λD' σ H ⟨c,ρ,fl,E,h,q⟩=>by
 obtain⟨⟨items,k⟩,h1,h2⟩:=bF h;split at h2
 .rename_i hk;refine⟨ρ,items,k,E.er,h1,λJ H1 s1 _ hJ=>aCy ht (E.same s1) ((hJ hk).keep (λ_ _ e _=>e) λa ha ho=>?_) h2 (q.step (.same s1))⟩;obtain⟨o,e1,_⟩:=E.live ho;rw[show H a=ao from ha] at e1;cases e1
 .cases h2
end
theorem aGu{N ps:aa Str}{Q:VK}{E:XK}(hown:∀i,i<ps.length->S i=aj)(h0:spD (fnS ps.length N.length f) ps.length vs H Q E):tN S f {nx:=λ_ H'=>Q .non H',rt:=Q} (start N vs) H:=by
 obtain⟨ds,d,hl,r,h,q⟩:=h0;obtain⟨fl,h1,h2⟩:=bF h;have hst:start N vs=vs.map ae++c_ (N.length-ps.length) ao:=by
  show vs.map ae++c_ (N.length-vs.length) ao=_;rw[r.length,hl]
 have no:∀a,¬wF (λ_=>ao) a:=λa ⟨i,b,as,hc,_⟩=>by cases hc
 have old:=X5 hst hl r (λ_ _=>rfl) λa ⟨i,hi,_⟩=>by cases hi
 have hlt:∀i,(ds++c_ (N.length-ps.length) D.uD).getD i .uD≠.uD->i<ps.length:=λi hi=>A9 λhge=>hi (by
  rw[eJ,iL 0x1,kF];split<;>rfl)
 have E0:NQ S (λ_=>ao) H (start N vs) (ds++c_ (N.length-ps.length) .uD):=by
  refine⟨old.len,λi p hc=>(by cases hc),λi b as hc=>(by cases hc),λi j b as b' as' _ hc=>(by cases hc),λi hi=>?_,λi b as hc=>(by cases hc),λi hi hd=>?_⟩
  .obtain⟨v,g1,g2⟩:=old.at_ i hi;exact⟨v,g1,λ_=>(g2 rfl).mono λa _=>no a⟩
  .rw[hown i (hlt i hd)] at hi;cases hi
 refine⟨_,_,fl,E0,h1,?_⟩;have sm:∀{c':Cel}{H':Hp},KC (λ_=>ao) H c' H'->cD H H':=λk a o e=>(k a o e (no a)).1
 cases fl with
 |nx ρ'=>cases h2;exact λc' σ' H' k E'=>q .non H' (sm k) .non λ_=>.non
 |rt d'=>
  cases h2;refine λv H' hk rp=>q v H' (λa o e=>hk a o e (no a)) rp.all λ_=>rp.mono λa ha=>?_
  rcases ha with ha|ha
  .exact bg ha (no a)
  .exact ha
 |bk ρ'=>cases h2
 |ct ρ'=>cases h2
def aOq{P:cy}{w:bS}{K:b6}{mg:Str->aS ap}{base:br}{x qual:Str}{st:bz}{fad:aq}{fd:gd}{N ps:aa Str}{k:ai}{f:FS}(F:Fun K x qual st fad fd)(sc:bQ N ps (aR st))(S:ai->ax)(hown:∀i,i<ps.length->S i=aj)(hNl:ps.length<=N.length)
 (hbody:∀(cdv:ap) (A:cS) (outer:aa d6) (s:ay) (H:Hp) (E:XK),wK k (A.deeper (gN qual (aR st) s.heap.objs.size fad cdv))->QSs (aFl CX0 P w K mg base N qual (aR st) fad cdv A outer s H E).nox (jV st) (tN S f)):ZP P w K mg base CX0 (k+1) fad fd ps (spD (fnS ps.length N.length f) ps.length):=
 F.ok sc (λvs H Q E h=>aCg h) λcdv A outer s H vs Q E hr h=>⟨_,(hbody cdv A outer s H E hr).out,aGu hown h⟩
def aKt{K:b6}{mg:Str->aS ap}{base:br}{x:Str}{k:ai}{st:bz}{fad:aq}{fd:gd}{N ps:aa Str}{fs:FS}(F:Fun K x x st fad fd)(hm:mg x=ae (.ref fad))(hb:Binds K fd ps [])(sc:bQ N ps (aR st))(S:ai->ax)(hown:∀i,i<ps.length->S i=aj)(hNl:ps.length<=N.length)
 (hbody:∀(cdv:ap) (A:cS) (outer:aa d6) (s:ay) (H:Hp) (E:XK),wK k (A.deeper (gN x (aR st) s.heap.objs.size fad cdv))->QSs (aFl CX0 P w K mg base N x (aR st) fad cdv A outer s H E).nox (jV st) (tN S fs)):b8 P w K mg base (k+1) x ps.length (fnS ps.length N.length fs):=
 ⟨fad,fd,ps,aOq F sc S hown hNl hbody,hm,F.kp,hb⟩
end
noncomputable def aCz:D->ax
 |.lst _=>af
 |_=>aj
variable [KFrag]
variable {S:ai->ax}
def InL.aKu{H:Hp}{vs:aa V}{ds:aa D}{as:aa aq}{P:aq->Prop}(h:InL H vs ds as)(hp:∀a∈as,P a):bN P H vs ds:=by
 induction h with
 |nil=>exact .nil
 |cons e r p t ih=>exact .cons (.lst e (hp _ (bw ..)) (r.bZ p)) (ih λa ha=>hp a (bu _ ha))
def InK.aKu{H:Hp}{vs:aa (Key×V)}{ds:aa (D×D)}{as:aa aq}{P:aq->Prop}(h:InK H vs ds as)(hp:∀a∈as,P a):lZ P H vs ds:=by
 induction h with
 |nil=>exact .nil
 |cons e r p t ih=>exact .cons (.lst e (hp _ (bw ..)) (r.bZ p)) (ih λa ha=>hp a (bu _ ha))
def InA.aKu{H:Hp}{vs:aa V}{ds:aa D}{as:aa aq}{P:aq->Prop}(h:InA H as vs ds)(hp:∀a∈as,P a):bN P H vs ds:=by
 induction h with
 |nil=>exact .nil
 |cons m e r p t ih=>exact .cons (.lst e (hp _ m) (r.bZ p)) ih
def yX.aKu{qb:ax}{H:Hp}{b:aq}{as:aa aq}{d:D}{P:aq->Prop}(h:yX qb H b as d)(hp:∀a∈b::as,P a):Rep P H (.ref b) d:=by
 have hb:=hp b (bw ..);have ha:∀a∈as,P a:=λa h=>hp a (bu _ h)
 cases h with
 |lst e i=>exact .lst e hb (i.aKu ha)
 |dct e i n=>exact .dK e hb (i.aKu ha) n
 |pln z e m r p=>exact r.aMu p hb
 |any z e i l=>exact .lst e hb (i.aKu ha)
section
variable {X:Cx} {e:Expr} {pos pos':de}
def aKv{i:ai}{x:Str}(ho:S i=af)(hN:X.N[i]?=ae x)(hv:Vis X.env.scope x)(hd:autoParam (nDb x) Λ)(hcd:autoParam (nCd x) Λ):QS X (.Return (ae (.Name x pos')) pos) (tN S (HS i)):=QS.mk <|
 PS.imp (aB3 (j_ hN hv hd hcd)) λD σ H ⟨c,ρ,fl,E,h,q⟩=>by
 obtain⟨d,h1,h2⟩:=bF h;cases h2;obtain⟨v,hσ,r,e⟩:=E.er.var h1;have hne:ρ.getD i .uD≠.uD:=λz=>by rw[z] at e;subst e;exact Rep.uD r
 obtain⟨⟨b,as⟩,hc⟩:=E.all i ho hne;obtain⟨h3,h4⟩:=E.nst i b as hc;rw[e] at h4;exact⟨_,h3,q _ H (λa o e _=>e) (h4.aKu λa ha=>.inl ⟨i,b,as,hc,ha⟩)⟩
end
end Mi
namespace Wn
open PySem PySem.Spec
section
variable {prog:cy} {w:bS} {A:cS} {E:ap->ay->Prop} {s:ay}
def both{α:Type}{M:Model}{c:Prop}[nN c]{a b:fF α}{Q:α->ay->Prop}(h1:ϑ M A a Q E s)(h2:ϑ M A b Q E s):ϑ M A (if c then a else b) Q E s:=by
 by_cases h:c
 .rw[av h];exact h1
 .rw[aw h];exact h2
def aOr(l:aq)(items:ba ap)(n:ai)(dd:aS aq)(sl:ba (aS ap))(t:fx) :
  k5 (Builtin.«enumerate.__new__» ⟨[.type "enumerate",.ref l],[("start",.int 1 t)]⟩) (λ_ R s=>s.heap.get? l=ae {cls:=.type "list",dict:=dd,data:=.seq items n,slots:=sl}/\
   ∀h' e it tk,it=s.heap.objs.size->e=it+1->oj h' e it 1 .none->h'.IsListIter it l 0->h'.objs.size=it+2->(∀b o,s.heap.get? b=ae o->h'.get? b=ae o)->R (.ok (.ret (.ref e))) {s with heap:=h',toks:=tk}):=.of_wp λprog w A R s hs=>by
 obtain⟨hp,g,d,tk,os⟩:=s;obtain⟨hl,q⟩:=hs;have sub:=sub_enumerate;have p:Heap.IsList (Shared.heap ⟨hp,g,d,tk,os⟩) l items:=⟨_,hl,rfl,n,rfl⟩
 have hz:(hp.push {cls:=.type "list_iterator",data:=.fields #[.ref l,.int 0 0]}).objs.size=hp.objs.size+1:=i7 ..;have fin:∀(tk':ai),R (.ok (.ret (.ref (hp.push {cls:=.type "list_iterator",data:=.fields #[.ref l,.int 0 0]}).objs.size))) ⟨(hp.push {cls:=.type "list_iterator",data:=.fields #[.ref l,.int 0 0]}).push {cls:=.type "enumerate",data:=.fields #[.none,.bool aj,.ref hp.objs.size,iE 1,.none,.none]},g,d,tk',os⟩:=λtk'=>by
  refine q _ _ _ tk' rfl hz (dt _ rfl) ⟨_,cx _ (dt _ rfl),rfl,rfl⟩ ?_ λb o e=>cx _ (cx _ e)
  rw[i7,hz]
 wp_walk using wt hl
 refine wpAny_stack_any λst=>bm ?_
 refine both ?_ ?_
 .wp_walk using wt hl,k9 p
  exact⟨_,rfl,fin tk⟩
 .wp_walk using wt hl,k9 p
  exact⟨_,rfl,fin tk⟩
def aRm(a:ap)(t:fx):checkTypeCall "enumerate" ⟨[a],[("start",.int 1 t)]⟩=pure ():=by kernel_rfl
def aRn(a:ap)(t:fx):checkBuiltinCall "enumerate.__new__" ⟨[.type "enumerate",a],[("start",.int 1 t)]⟩=pure ():=by kernel_rfl
def aRo(a b:ap)(t:fx):argsOk "object.__init__" ⟨[a,b],[("start",.int 1 t)]⟩:=by kernel_rfl
def aKw{self b:ap}{t:fx}{R:PySem.Fin->ay->Prop}(hT:s.TypeIs self "enumerate")(q:R (.done (.ret .none)) s):ϑ (az prog w) A (Builtin.«object.__init__» ⟨[self,b],[("start",.int 1 t)]⟩) R E s:=by
 have hl:=wu.init.lookup;have hm:=wu.made
 repeat (any_goals (first|assumption|wp_step))
theorem aKx{l:aq}{items:ba ap}{t:fx}{Q:ap->ay->Prop}(hL:s.heap.IsList l items)
 (q:∀h' e it tk,it=s.heap.objs.size->e=it+1->oj h' e it 1 .none->h'.IsListIter it l 0->h'.objs.size=it+2->(∀b o,s.heap.get? b=ae o->h'.get? b=ae o)->Q (.ref e) {s with heap:=h',toks:=tk}) :
  ϑ (az prog w) A (call (.type "enumerate") [.ref l] [("start",.int 1 t)]) Q E s:=by
 have ft:=wu;obtain⟨c,tl,m0⟩:=ft.mro;have m1:=ft.made;have m2:=ft.sub;have m3:=ft.notType;have m4:=ft.canCreate;have k1:=aRm (.ref l) t;obtain⟨⟨cl,dd,da,sl⟩,e,hc,n,hd⟩:=hL;simp only at hc hd;subst hc hd;refine wpAny_call (codeAny_of_tree (show ϑ _ _ (callAny (.type "enumerate") _) _ _ _ from bm ⟨wv _ 0x6,hI F.entry_type_call ?_⟩));rw[Around.under_plain (weight_type_call_type "enumerate" _ _) (units_type_call_type "enumerate" _ _)]
 repeat (any_goals (first|assumption|wp_step))
 have step:∀c (R:lm->ay->Prop),c=(Bz (.builtin "enumerate.__new__") ⟨[.type "enumerate",.ref l],[("start",.int 1 t)]⟩)->(∀h' e it tk,it=s.heap.objs.size->e=it+1->oj h' e it 1 .none->h'.IsListIter it l 0->h'.objs.size=it+2->(∀b o,s.heap.get? b=ae o->h'.get? b=ae o)->R (.ok (.ret (.ref e))) {s with heap:=h',toks:=tk})->codeAny (az prog w) A.in1 c R s:=λc R hc hq=>by
  subst hc;exact BA ft.plain F.entry_enumerate_new (mq (aRn (.ref l) t) (aOr l items n dd sl t prog w A.in1 R s ⟨e,hq⟩))
 refine lq (step _ (λr s1=>∃h' a it tk,r=.ok (.ret (.ref a))/\s1={s with heap:=h',toks:=tk}/\oj h' a it 1 .none/\Q (.ref a) s1) rfl λh' a it tk x1 x2 x3 x4 x5 x6=>⟨h',a,it,tk,rfl,rfl,x3,q h' a it tk x1 x2 x3 x4 x5 x6⟩) λr s1 hr=>?_
 obtain⟨h',a,it,tk,rfl,rfl,x3,hq⟩:=hr;have hT:({s with heap:=h',toks:=tk}:ay).TypeIs (.ref a) "enumerate":=⟨_,x3,rfl⟩
 have hli:=ft.init.lookup;have hbi:=ft.init.bind (.ref a)
 repeat (any_goals (first|assumption|wp_step))
 have step2:∀c (R:lm->ay->Prop),c=(Bz (.builtin "object.__init__") ⟨[.ref a,.ref l],[("start",.int 1 t)]⟩)->R (.ok (.ret .none)) {s with heap:=h',toks:=tk}->codeAny (az prog w) A.in1 c R {s with heap:=h',toks:=tk}:=λc R hc hq=>by
  subst hc;exact BA ft.init.plain F.entry_object_init (ft.init.check _ _ _ _ _ _ _ _ hT (aRo _ _ _) (aKw hT hq))
 refine lq (step2 _ (λr s2=>r=.ok (.ret .none)/\s2={s with heap:=h',toks:=tk}) rfl ⟨rfl,rfl⟩) λr s2 hr=>?_
 obtain⟨rfl,rfl⟩:=hr
 repeat (any_goals (first|assumption|wp_step))
end
theorem shift{prog:cy}{w:bS}{A:cS}{it:aq}{fp:aa aq}{n:ai}{P:ai->ap->Prop}{St:ai->br->Prop}(D:Draws prog w A it fp n P St)(m:ai):Draws prog w A it fp (m+n) (λj v=>P (j-m) v) (λj h=>∃i,j=m+i/\St i h) where
 live:=λj h ⟨i,_,st⟩=>D.live i h st
 frame:=λj h h' ⟨i,e,st⟩ k=>⟨i,e,D.frame i h h' st k⟩
 item:=λj s Q E hj ⟨i,e,st⟩ hQ=>D.item i s Q E 0x1 st λx h' tk px st' sb=>hQ x h' tk (by rw[e,BB];exact px) ⟨i+1,by lia,st'⟩ sb
 done:=λs Q E ⟨i,e,st⟩ hE=>by
  obtain rfl:n=i:=by lia
  exact D.done s Q E st hE
def over{prog:cy}{w:bS}{A:cS}(hh:A.handled=ao)(it l:aq)(items:ba ap)(i:ai)(hi:items[i]?=ao):Draws prog w A it [it,l] 0 (λ_ _=>gv) (λ_ h=>h.IsListIter it l i/\h.IsList l items) where
 live:=λ_ _ st=>let ⟨o,ho,_⟩:=st.1;⟨o,ho⟩
 frame:=λ_ _ _ st k=>⟨st.1.at λo e=>k it (bw ..) o e,st.2.at λo e=>k l 0x2 o e⟩
 item:=λj s Q E hj=>bg hj (Nat.not_lt_zero _)
 done:=λs Q E st hE=>wpAny_nextOf_list_end hh st.1 st.2 hi hE
end Wn
namespace Mi
open PySem L2 PySem.SeqAt PySem.Spec PyProof.Rows
def aD0(m:ai)(a:FE)(fr:ax):FI:=λρ=>do let x <- a ρ;let xs <- aOk x;pure (JD m xs,fr||x.pure)
section
variable [KFrag]
def aIl{h:br}{a b:aq}{o u:b9}{T U:eM}(e:h.get? a=ae o)(hc:o.cls=.type T)(e':h.get? b=ae u)(hc':u.cls=.type U)(ne:(mI T==mI U)=aj):a≠b:=λq=>by
 subst q;rw[e] at e';cases e';rw[hc] at hc';rw[hc'] at ne;simp at ne
theorem aA5{P:cy}{w:bS}{K:b6}{elts:aa Expr}{x1}{tp:de}(m:ai)(a e it:aq)(hne:e≠it):Turn P w K (.Tuple elts x1 tp) (aSg K m a) [e,it] e (λi h=>(∃old,oj h e it ((m+i:ai):ag) old)/\h.IsListIter it a i) where
 mem:=bw ..
 obj:=λi h ⟨⟨old,h1⟩,o,h2,_,h3⟩ b hb=>by
  simp only[bq,sB,or_false] at hb;rcases hb with rfl|rfl
  .exact⟨_,h1,λv z=>nomatch(show xL _=xS v from z)⟩
  .exact⟨o,h2,λv z=>by rw[h3] at z;cases z⟩
 keep:=λi h h' ⟨⟨old,h1⟩,h2⟩ k=>⟨⟨old,k e (bw ..) _ h1⟩,h2.at λo q=>k it 0x2 o q⟩
 item:=by
  intro Y hP hw hK hc i Ψ s σ H E I hf ⟨⟨old,h1⟩,h2⟩ ⟨xs,x,hq,hx⟩;subst hP hw hK;obtain⟨its,rv,p,hz⟩:=I.list hq;obtain⟨u,hu,ru⟩:=rv.get hx;have hlt:e<s.heap.objs.size:=bX h1;obtain⟨oi,e2,c2,d2⟩:=id h2;obtain⟨ol,e3,c3,_⟩:=id p.isList;have nai:a≠it:=aIl e3 c3 e2 c2 0x4;have nea:e≠a:=aIl h1 rfl e3 c3 0x4;have D:=Wn.shift (Draws.list (prog:=Y.prog) (w:=Y.w) (A:=Y.A.in1) (show Y.A.in1.handled=ao from I.ok.hd hc) it a nai its.toArray) m;have hil:i<its.toArray.size:=by
   have:=(dz.mp hu).1;simpa using this
  refine wpAny_pyNext_enum_itemD D h1 ⟨i,rfl,h2,p.isList⟩ 0x1 hne (by simp[hne,nea]) λv h' tk o0 o1 o2 o3 o4 o5=>?_
  rw[BB] at o0;obtain rfl:u=v:=by
   have:its[i]?=ae v:=by simpa using o0
   rw[hu] at this;exact c5 this
  obtain⟨i',ei,st1,st2⟩:=o2;obtain rfl:i'=i+1:=by lia
  refine⟨_,rfl,wpAny_letOwnedTupleGo_enum o1 λh'' g1 g2=>?_⟩;have sb:li e h' h'':=g2;have kk:∀b o,b∉[e,it]->s.heap.get? b=ae o->h''.get? b=ae o:=λb o hb eb=>by
   simp only[bq,sB,or_false,gS] at hb;exact(sb.2 b hb.1).trans (o5 b o hb.1 hb.2 eb)
  have t3:h''.get? s.heap.objs.size=ae {cls:=.type "tuple",data:=.seq #[.int ((m+i:ai):ag) tk,u]}:=(sb.2 _ (ju hlt)).trans o3;refine⟨.ref s.heap.objs.size,upd H s.heap.objs.size (.tup [.int ((m+i:ai):ag),x]),U6 (s:=s) (h':=h'') (t':=tk+1) (ch:=[e,it]) I kk (λb hb=>hf b hb) (bi _) ?_,rfl,⟨_,x,λys hy=>by rw[I.wI hy hq];exact hx,rfl,I.hok.fresh (bi _),rfl⟩,⟨⟨u,?_⟩,?_⟩,λb hb=>?_⟩
  .exact⟨by show 2<=bp;rw[e8];decide,[.int ((m+i:ai):ag) tk,u],.cons ⟨_,rfl⟩ (.cons ru .nil),⟨_,t3,rfl,0,rfl⟩⟩
  .have:((m+(i+1):ai):ag)=((m+i:ai):ag)+1:=by lia
   rw[this];exact g1
  .obtain⟨o,ho,r⟩:=st1;exact⟨o,(sb.2 it (Ne.symm hne)).trans ho,r⟩
  .rw[bA]
   .exact(hf b hb).1
   .intro z;simp only[bq,sB,or_false] at hb;rcases hb with h|h
    .rw[<-h,z] at hlt;exact fE _ hlt
    .have:=bX e2;rw[<-h,z] at this;exact fE _ this
 done:=by
  intro Y hP hw hK hc i Ψ s σ H E I hf ⟨⟨old,h1⟩,h2⟩ ⟨xs,hq,hx⟩;subst hP hw hK;obtain⟨its,rv,p,hz⟩:=I.list hq;obtain⟨f0,f1,f2,f3,f4,f5⟩:=hf it 0x2;have hl:=rv.length;exact wpAny_pyNext_enum_endD (Wn.over (show Y.A.in1.handled=ao from I.ok.hd hc) it a its.toArray i (by simp;lia)) h1 ⟨h2,p.isList⟩ λh' eb=>⟨rfl,I.turned (t':=s.toks) (λb o hb e=>eb b o hb e) f0 f1 f3 f4 f5⟩
 self:=λ_ _ _ _ _ ⟨⟨old,h1⟩,_⟩ h=>BC h1 h
section
variable {X:Cx} {a:Expr} {fa:FE} {ra:ax} {p pos:de}
def aKy{M:Model}{A:cS}{E:ap->ay->Prop}{s:ay}{T:eM}{args:aa (ax×fF ap)}{kws:aa (aS Str×fF ap)}{Q:ap->ay->Prop}(hp:args.any (·.1)=aj)(hk:kws.any (·.1.isNone)=aj)
 (h:ϑ M A (evalArgs (.type T) af args kws) (λa s₁=>ϑ M A (call (.type T) a.pos a.kw) Q E s₁) E s):ϑ M A (callWith pos (.type T) [] args kws) Q E s:=by
 unfold callWith;refine aE (ii (fj h (λa s1 h1=>aE (A5 ?_)) λ_ _ x=>x));rw[hp,hk];exact aE (bm (aE (fj h1 (λr s2 hr=>aE (ii (wpAny_point (bm hr)))) λ_ _ x=>x)))
theorem aGv{elts:aa Expr}{x1}{tp kp cp:de}{j:ai}(hg:Gl X "enumerate")(hm:X.mg "enumerate"=ao)(ha:PA X [a] (gA (aD fa aX) ra))(hs:autoParam (dQ [a] X.env=[(aj,cK a X.env)]) Ω) :
  PI X (.Tuple elts x1 tp) (.Call (.Name "enumerate" p) [a] [⟨ae "start",.Constant (.int 1) j cp,kp⟩] pos) (gI X.K (aD0 1 fa ra)):=by
 intro Ψ s σ H R I ⟨ρ,items,k,E,h,q⟩;obtain⟨d,h1,h⟩:=bF h;obtain⟨its,h2,h⟩:=bF h;cases h;have hd:d=.lst its:=by
  unfold aOk at h2;split at h2
  .cases h2;rfl
  .cases h2
 subst hd;have hb:aD fa aX ρ=.ok [ξ its]:=by
  unfold aD;rw[h1];rfl
 refine kC (vP I hg hm C3 (aKy (by rw[hs];rfl) rfl ?_));have hA:=ha pos Ψ s σ H (λvs H1=>∃v,vs=[v]/\cD H H1/\Rep All H1 v (.lst its)/\(ra=af->Rep (New H) H1 v (.lst its))) I ⟨ρ,_,E,hb,λvs H1 s1 r1 n1=>by
  cases r1 with
  |cons r t=>
   cases t;refine⟨_,rfl,s1,r,λz=>?_⟩;cases n1 z with
   |cons r' _=>exact r'⟩
 rw[hs] at hA ⊢;refine evalArgs_kwB rfl (thn hA λus s1 ⟨vs,H1,I1,r1,q1⟩=>kws_cons (xu (kws_nil ?_)));obtain⟨v,rfl,s1',r,n⟩:=q1;cases r1 with
 |cons rv rr=>
  cases rr;obtain⟨l,ys,rfl,hl,rr⟩:=r.jX (K:=X.K);cases rv;obtain⟨vs,rvs,pl,hz⟩:=I1.list hl;refine Wn.aKx (s:={s1 with toks:=s1.toks+1}) pl.isList λh' e it tk e1 e2 e3 e4 e5 e6=>BC e3 ?_
  subst e2 e1;have hp1:∀b o,s1.heap.get? b=ae o->h'.get? b=ae o:=e6;refine⟨s1.heap.objs.size+1,[s1.heap.objs.size+1,s1.heap.objs.size],_,_,H1,rfl,I1.kept (t':=tk) λb o e=>hp1 b o e,aA5 1 l (s1.heap.objs.size+1) s1.heap.objs.size (Nat.succ_ne_self _),⟨⟨_,e3⟩,e4⟩,λb hb=>?_,q _ H1 s1' (.enf 1 l its rfl r rfl) λhk=>.enf 1 l its rfl ?_ rfl⟩
  .simp only[bq,sB,or_false] at hb;rcases hb with rfl|rfl
   .exact I1.aJc (i6 _) (I1.hok.fresh (i6 _))
   .exact I1.aJc (bi _) (I1.hok.fresh (bi _))
  .rw[jl] at hk;rcases hk with hk|hk
   .exact n hk
   .cases hk
end
end
def sortedK:aa D->Res D
 |[.dct kvs]=>if kvs.all (λp=>!isTup p.1)&&bG (lO kvs) then .ok (.lst (h_ (lO kvs))) else .bad
 |ds=>gB ds
def aD1(k v:D):Res D:=if fY k&&v.pure then .ok (.dct [(k,v)]) else .bad
def dgI(d k:D):Res (aa D):=match d with
 |.dct ds=>if fY k then (match bB ds k with|some e=>rG e|none=>.bad) else .bad
 |_=>.bad
def YB(i:ai)(fk:FE)(t:D->aa D->Res (aa D))(body:FS):FS:=λρ=>do
 let d <- kJ i ρ
 let k <- fk ρ
 let xs <- dgI d k
 oK t body xs ρ
section
variable [KFrag]
section
def aA6(hp:PySem.Pairs (dM P w) es vs):∀{kvs:aa (Key×V)}{ds:aa (D×D)},KV kvs vs->lZ Q H kvs ds->Vals (kvs.map λp=>kV p.1) (es.map (·.key))/\bN All H (kvs.map λp=>kV p.1) (lO ds):=by
 induction hp with
 |nil=>
  intro kvs ds r u;cases r;cases u;exact⟨.nil,.nil⟩
 |cons h _ t ih=>
  intro kvs ds r u;cases r with
  |cons g r=>
   cases u with
   |@cons k _ _ _ _ _ u=>
    obtain⟨h1,h2⟩:=ih r u;obtain⟨g1,g2⟩:=g;refine⟨.cons (aOm (by rw[show k=_ from g1];exact h)) h1,.cons ?_ h2⟩;cases k with
    |inl i=>exact .int i
    |inr x=>exact .str x
def Rep.aTk(r:Rep All H v d)(hp:d.pure=af)(ha:H a=ae ob)(hm:wD ob=af):Rep All (upd H a o) v d:=by
 have:=(bN.cons r .nil).upd (o:=o) (by rw[θ,hp];rfl) ha hm;cases this with
 |cons r _=>exact r
theorem aA7(hK:KFrag.K=X.K)(hc:X.calm=af)(hu:X.A.units+20<bE):lW X (.builtin "sorted") (rs sortedK af):=by
 intro Ψ s σ H xs us Q I vr ⟨ds,d,r,e,k⟩;unfold sortedK at e;split at e
 .rename_i kvs;split at e
  .rename_i hl;rw[bn] at hl;cases e;have fin:∀p xs',H p=ao->bN All H xs' (h_ (lO kvs))->Q (.ref p) (upd H p (.lst xs')):=λp xs' hp r'=>by
    have sp:cD H (upd H p (.lst xs')):=cD.upd hp;exact k _ _ sp (.lst aM trivial (r'.same sp)) λ_=>.lst aM hp ((r'.bZ (sJ hl.2)).same sp)
   obtain⟨vv,uu,rfl,rfl,r,v⟩:=mD r vr;cases r with
   |dK e _ rk _=>
    cases v;obtain⟨hz,lo,vs,rel,o,es,ep,e1,e2,e3,_,hp,_⟩:=ZV I.hok e;obtain⟨r1,r2⟩:=aA6 hp rel rk;have hlen:es.size<=bp:=by rw[<-gz,<-aI,<-r1.length,aI];exact hz
    exact mZ hK I hu r1 (by rw[aI,gz];exact hlen) r2 hl.2 (λQ' E' h=>aCr (I.ok.hd hc) lo ⟨o,e1,e2,e3⟩ hlen λh' tk kp sz=>h h' tk kp sz) fin
   |dT e _ rt _=>
    cases rt with
    |cons r t=>
     have:=hl.1;rw[gX,bn] at this;cases this.1
    |nil=>
     cases v;obtain⟨es,ep,zs,raw,lo,hz,rel,he⟩:=aOo I e;have h0:zs=[]:=by cases rel;rfl
     subst h0;have h1:es.toList=[]:=he;exact mZ hK I hu .nil (fo _) .nil hl.2 (λQ' E' h=>aCr (I.ok.hd hc) lo raw (by rw[<-gz,h1];exact fo _) λh' tk kp sz=>by rw[h1];exact h h' tk kp sz) fin
  .cases e
 .exact iC hK hu Ψ s σ H xs us Q I vr ⟨_,d,r,e,k⟩
def U9(h:fY d=af):∃k:Key,d=kD k:=by
 cases d<;>first|exact⟨.inl _,rfl⟩|exact⟨.inr _,rfl⟩|cases h
def aD2(r:Rep P H v (kD k)):v=kV k:=by
 cases k with
 |inl i=>cases r;rfl
 |inr x=>cases r;rfl
theorem U_{r1 r2:ax}(hk1:PE X k1 (gE g1 r1))(hv1:PE X v1 (gE h1 r2)):PE X (.Dict [ae k1] [v1] pos) (gE (b2 aD1 g1 h1) af):=
 PE.imp (aBj (G7 hk1 hv1 aBi) rfl rfl 0x2 (sC rfl)) λσ H Q ⟨ρ,d,E,h,q⟩=>by
 obtain⟨a1,e1,hA⟩:=bF h;obtain⟨a2,e2,hB⟩:=bF hA;clear h hA;unfold aD1 at hB;split at hB
 .rename_i hg;cases hB;rw[bn] at hg;obtain⟨k,rfl⟩:=U9 hg.1;intro p hp;have s0:cD H (upd H p (.dK [])):=cD.upd hp;refine⟨ρ,_,E.same s0,e1,λw1 H1 s1 q1 _=>?_⟩;obtain rfl:=aD2 q1;refine⟨ρ,_,(E.same s0).same s1,e2,λw2 H2 s2 q2 _=>?_⟩;have sm:cD (upd H p (.dK [])) H2:=s1.trans s2;refine⟨sm _ _ aM,[(k,w2)],rfl,sC rfl,?_⟩;have sf:cD H (upd H2 p (.dK (gQ [] [(k,w2)]))):=λb o e=>by
   rw[bA (eG e hp)];exact sm b o (s0 b o e)
  have rk:∀P:aq->Prop,lZ P (upd H2 p (.dK (gQ [] [(k,w2)]))) (gQ [] [(k,w2)]) [(kD k,a2)]:=λP=>.cons ((q2.aTk hg.2 (sm _ _ aM) rfl).bZ hg.2) .nil
  exact q _ _ sf (.dK aM trivial (rk All) (by simp[gQ,putK])) λ_=>.dK aM hp (rk _) (by simp[gQ,putK])
 .cases hB
def YC:∀{kvs:aa (aa Key×V)}{ds:aa (D×D)},uX P H kvs ds->bB ds (kD k)=ao
 |_,_,.nil=>rfl
 |_,_,.cons _ t=>by
  have:=YC (k:=k) t;cases k<;>(rw[bB];simpa[kD,eqD] using this)
def aOs(r:Rep All H v (.dct ds))(hl:bB ds (kD k)=ae e):∃a kvs w,v=.ref a/\H a=ae (.dK kvs)/\tK kvs k=ae w/\∀(P:aq->Prop)(H':Hp),cD H H'->Rep P H' v (.dct ds)->Rep P H' w e:=by
 cases r with
 |@dK a kvs ds e1 _ rk _=>
  rcases aA2 rk with ⟨w,d,h1,h2,h3⟩|⟨_,h2⟩
  .rw[hl] at h2;cases h2;refine⟨a,kvs,w,rfl,e1,h1,λP H' sm r'=>?_⟩;have e2:=sm _ _ e1;cases r' with
   |dK e1' _ rk' _=>
    rw[e2] at e1';cases e1';rcases aA2 rk' with ⟨w',d',g1,g2,g3⟩|⟨_,g2⟩
    .rw[hl] at g2;cases g2;rw[h1] at g1;cases g1;exact g3
    .rw[hl] at g2;cases g2
   |dT e1' _ _ _=>rw[e2] at e1';cases e1'
  .rw[hl] at h2;cases h2
 |dT e1 _ rt _=>rw[YC rt] at hl;cases hl
def gIK(K:b6)(i:ai)(fk:FE):TI:=λσ H R=>∃ρ v d kd items,ER H σ ρ/\σ[i]?=ae (ae v)/\Rep All H v d/\fk ρ=.ok kd/\dgI d kd=.ok items/\∀J H1,cD H H1->(∀P:aq->Prop,Rep P H1 v d->ItQ K P J H1 items)->R J H1
def aRp(hu:X.A.units+20<bE)(hN:X.N[i]?=ae x)(hv:Vis X.env.scope x)(hk:PE X k (gE fk rk))(hp:uT k:=by exact λ_ _=>rfl)(hd:autoParam (nDb x) Λ)(hcd:autoParam (nCd x) Λ):PI X tg (.Subscript (.Name x px) k pos) (gIK X.K i fk):=by
 intro Ψ s σ H R I ⟨ρ,v,d,kd,items,E,hσ,r,hf,hi,q⟩;unfold dgI at hi;split at hi
 .rename_i ds;split at hi
  .rename_i hfk;obtain⟨key,rfl⟩:=U9 hfk;split at hi
   .rename_i e hl;obtain⟨a,kvs,w,rfl,ea,hw,all⟩:=aOs r hl;refine thn (aJp (aSl hu) (j_ hN hv hd hcd) hk hp Ψ s σ H (λz H1=>cD H H1/\z=w) I ⟨.ref a,hσ,ρ,_,E,hf,λkv H1 sm1 rk1 _=>?_⟩) λu s1 ⟨z,H1,I1,ru,sm,ez⟩=>?_
    .obtain rfl:=aD2 rk1;exact .inr ⟨a,kvs,key,w,rfl,rfl,sm1 _ _ ea,hw,sm1,rfl⟩
    .subst ez;exact JF I1 (all All H1 sm (r.same sm)) ru hi λJ hJ=>q J H1 sm λP rp=>hJ P (all P H1 sm rp)
   .cases hi
  .cases hi
 .cases hi
def aGw(hu:X.A.units+20<bE)(ho:own i=aj)(hp:jt (az X.prog X.w) X.A X.env X.xe)(hc:X.calm=af)(hN:X.N[i]?=ae x)(hv:Vis X.env.scope x)(hk:PE X k (gE fk rk))(ht:TgS own g t)(hg:PG X tg g)(hb:PSs X body (tS own fb))
 (hpk:uT k:=by exact λ_ _=>rfl)(hs:∀z,eW (.Subscript (.Name x px) k pi) X.env z=pure z:=by intro _;rfl)(hd:autoParam (nDb x) Λ)(hcd:autoParam (nCd x) Λ):PS X (.For tg (.Subscript (.Name x px) k pi) body [] pos) (tS own (YB i fk t fb)):=PS.imp (M_ hp hc (aRp hu hN hv hk hpk hd hcd) hg hb hs) λD' σ H ⟨ρ,fl,E,h,q⟩=>by
 obtain⟨d,h1,h⟩:=bF h;obtain⟨kd,h2,h⟩:=bF h;obtain⟨items,h3,h4⟩:=bF h;obtain⟨v,hv,r,e⟩:=E.er.var h1;have hne:ρ.getD i .uD≠.uD:=λz=>by
  rw[z] at e;subst e;exact Rep.uD r
 obtain⟨w,hw,hr⟩:=E.at_ i hne;rw[hv] at hw;cases hw;have r2:=hr ho;rw[e] at r2;exact⟨ρ,v,d,kd,items,E.er,hv,r,h2,h3,λJ H1 sm hJ=>xF ht (E.same sm) (hJ _ (r2.same sm)) h4 (q.step (.same sm))⟩
end
end
def aD3(i:ai)(fk:FE):FS:=λρ=>do
 let k <- fk ρ
 match ρ.getD i .uD with
 |.dct kvs=>if fY k&&(bB kvs k).isNone&&ϒ (kvs.length<lim)&&kvs.all (λp=>aCz p.2) then .ok (.nx (ρ.set i (.dct (kvs++[(k,.lst [])])))) else .bad
 |_=>.bad
section
variable [KFrag]
variable {S:ai->ax}
section
variable {H H':Hp} {vs:aa V} {ds:aa D} {as bs:aa aq} {kvs:aa (Key×V)} {es:aa (D×D)} {qb:ax}
def bN.yZ(r:bN All H vs ds)(hp:θ ds=af)(k:∀a o,H a=ae o->a∉bs->H' a=ae o)(hm:∀a∈bs,∃o,H a=ae o/\wD o=af):bN All H' vs ds:=
 (r.bZ (P':=λ_=>c9) hp).keep (λa o e z=>k a o e λha=>by
  rcases z with z|z
  .exact z
  .obtain⟨o',h1,h2⟩:=hm a ha;rw[e] at h1;cases h1;rw[z] at h2;cases h2) λ_ z=>z.elim
def InL.yZ(h:InL H vs ds as)(k:∀a o,H a=ae o->a∉bs->H' a=ae o)(hm:∀a∈bs,∃o,H a=ae o/\wD o=af)(dj:∀a∈as,a∉bs):InL H' vs ds as:=by
 induction h with
 |nil=>exact .nil
 |cons e r p t ih=>exact .cons (k _ _ e (dj _ (bw ..))) (r.yZ p k hm) p (ih λa ha=>dj a (bu _ ha))
def InK.yZ(h:InK H kvs es as)(k:∀a o,H a=ae o->a∉bs->H' a=ae o)(hm:∀a∈bs,∃o,H a=ae o/\wD o=af)(dj:∀a∈as,a∉bs):InK H' kvs es as:=by
 induction h with
 |nil=>exact .nil
 |cons e r p t ih=>exact .cons (k _ _ e (dj _ (bw ..))) (r.yZ p k hm) p (ih λa ha=>dj a (bu _ ha))
def InA.yZ(h:InA H as vs ds)(k:∀a o,H a=ae o->a∉bs->H' a=ae o)(hm:∀a∈bs,∃o,H a=ae o/\wD o=af)(dj:∀a∈as,a∉bs):InA H' as vs ds:=by
 induction h with
 |nil=>exact .nil
 |cons m e r p t ih=>exact .cons m (k _ _ e (dj _ m)) (r.yZ p k hm) p ih
def yX.yZ(h:yX qb H b as d)(k:∀a o,H a=ae o->a∉bs->H' a=ae o)(hm:∀a∈bs,∃o,H a=ae o/\wD o=af)(dj:∀a∈b::as,a∉bs):yX qb H' b as d:=by
 have hb:=dj b (bw ..);have ha:∀a∈as,a∉bs:=λa h=>dj a (bu _ h)
 cases h with
 |lst e i=>exact .lst (k _ _ e hb) (i.yZ k hm ha)
 |dct e i n=>exact .dct (k _ _ e hb) (i.yZ k hm ha) n
 |pln z e m r p=>
  refine .pln z (k _ _ e hb) m ((r.aMu p rfl).keep (λc oc hc hp=>k c oc hc λhx=>?_) λ_ _=>trivial) p;rcases hp with hp|hp
  .exact hb (hp▸hx)
  .obtain⟨o',h1,h2⟩:=hm c hx;rw[hc] at h1;cases h1;rw[hp] at h2;cases h2
 |any z e i l=>exact .any z (k _ _ e hb) (i.yZ k hm ha) λa h=>let ⟨ws,g⟩:=l a h;⟨ws,k _ _ g (ha a h)⟩
end
theorem NQ.grow(E:NQ S c H σ ρ)(hc:c i=ae (b,as))(hs:∀a∈as',a∈as\/H a=ao)(nd:(b::as').Nodup)(hk:∀a o,H a=ae o->a∉b::as->H' a=ae o)(hn:yX (S (i+1000)) H' b as' d):∃c',NQ S c' H' σ (ρ.set i d)/\KC c H c' H':=by
 obtain⟨hσ,hN0⟩:=E.nst i b as hc;have own:∀a,wF (λj=>if j=i then ae (b,as') else c j) a->wF c a\/H a=ao:=λa ⟨j,b',as2,hj,ha⟩=>by
  by_cases e1:j=i
  .simp only[e1,cq,iq,iA] at hj;obtain⟨rfl,rfl⟩:=hj;rcases bq.mp ha with rfl|ha
   .exact .inl ⟨i,a,as,hc,bw ..⟩
   .rcases hs a ha with h|h
    .exact .inl ⟨i,b,as,hc,bu _ h⟩
    .exact .inr h
  .simp only[e1,ck] at hj;exact .inl ⟨j,b',as2,hj,ha⟩
 have k:KC c H (λj=>if j=i then ae (b,as') else c j) H':=λa o e n=>⟨hk a o e λz=>n ⟨i,b,as,hc,z⟩,λz=>by
  rcases own a z with z|z
  .exact n z
  .rw[z] at e;cases e⟩
 have hl:i<ρ.length:=by rw[<-E.len];exact(dz.mp hσ).1
 have apart:∀j b' as2,j≠i->c j=ae (b',as2)->∀a∈b'::as2,a∉b::as':=λj b' as2 hj hcj a ha z=>by
  rcases bq.mp z with rfl|z
  .exact E.dj j i b' as2 a as hj hcj hc a ha (bw ..)
  .rcases hs a z with h|h
   .exact E.dj j i b' as2 b as hj hcj hc a ha (bu _ h)
   .obtain⟨o,g,_⟩:=E.live ⟨j,b',as2,hcj,ha⟩;rw[h] at g;cases g
 refine⟨λj=>if j=i then ae (b,as') else c j,⟨by simp[E.len],λj p hj=>?_,λj b' as2 hj=>?_,λj1 j2 b1 as1 b2 as2 hne h1 h2 a ha=>?_,λj hj=>?_,λj b' as2 hj=>?_,λj hj hd=>?_⟩,k⟩
 .by_cases e1:j=i
  .rw[e1];exact E.dom i _ hc
  .simp only[e1,ck] at hj;exact E.dom j p hj
 .by_cases e1:j=i
  .simp only[e1,cq,iq,iA] at hj;obtain⟨rfl,rfl⟩:=hj;exact nd
  .simp only[e1,ck] at hj;exact E.nd j b' as2 hj
 .by_cases e1:j1=i
  .by_cases e2:j2=i
   .exact bg (e1.trans e2.symm) hne
   .simp only[e1,cq,iq,iA] at h1;simp only[e2,ck] at h2;obtain⟨rfl,rfl⟩:=h1;exact λz=>apart j2 b2 as2 e2 h2 a z ha
  .simp only[e1,ck] at h1;by_cases e2:j2=i
   .simp only[e2,cq,iq,iA] at h2;obtain⟨rfl,rfl⟩:=h2;exact apart j1 b1 as1 e1 h1 a ha
   .simp only[e2,ck] at h2;exact E.dj j1 j2 b1 as1 b2 as2 hne h1 h2 a ha
 .rw[bR] at hj ⊢;by_cases h:i=j/\i<ρ.length
  .obtain⟨rfl,_⟩:=h;exact⟨_,hσ,λz=>by rw[E.dom i _ hc] at z;cases z⟩
  .rw[aw h] at hj ⊢;obtain⟨w,h1,h2⟩:=E.at_ j hj;exact⟨w,h1,λhs=>k.rep E (h2 hs)⟩
 .by_cases e1:j=i
  .subst e1;simp only[cq,iq,iA] at hj;obtain⟨rfl,rfl⟩:=hj;rw[bR,av ⟨rfl,hl⟩];exact⟨hσ,hn⟩
  .simp only[e1,ck] at hj;rw[bR,aw λz=>e1 z.1.symm];obtain⟨h1,h2⟩:=E.nst j b' as2 hj;exact⟨h1,h2.yZ hk hN0.live λa ha=>E.dj j i b' as2 b as e1 hj hc a ha⟩
 .by_cases e1:j=i
  .exact⟨(b,as'),by simp[e1]⟩
  .rw[bR,aw λz=>e1 z.1.symm] at hd;obtain⟨p,hp⟩:=E.all j hj hd;exact⟨p,by simp[e1,hp]⟩
section
variable {X:Cx} {e:Expr} {pos pos':de}
def aKz(ho:S i=af)(hN:X.N.Nodup)(hi:X.N[i]?=ae x)(hx:Loc X.env.scope x)(hs:autoParam (fi (.Dict [] [] p2) (ae (.Name x pos')) pos.line X.env=pure aj) Ω)(hf:autoParam (zFn X x) Ξ) :
  QS X (.Assign [.Name x pos'] (.Dict [] [] p2) pos) (tN S (aSk i (.dct []))):=QS.mk λΨ s σ H D I ⟨c,ρ,fl,E,h,q⟩=>by
 cases h;have hl:i<σ.length:=by
  rw[I.len];exact(dz.mp hi).1
 refine M9 hN hi hx WY hs hf Ψ s σ H D I λb hb=>?_
 obtain⟨c',E',k⟩:=E.new ho hl (cD.upd hb) 0x2 (λa ha=>by rw[dS.mp ha];exact hb) (.dct aM .nil ic);exact q c' _ _ k E'
def G6{k:Key}(h:tK kvs k=ao):putK kvs k v=kvs++[(k,v)]:=by
 unfold putK;rw[aw];rw[BD,List.any_eq_false];intro p hp z;have hz:p.1=k:=fq z;unfold tK at h;rw[BE,BF] at h;exact h p hp (cm hz)
def InK.snoc(h:InK H kvs es as)(e:H a=ae (.lst ws))(r:bN All H ws ys)(p:θ ys=af):InK H (kvs++[(k,.ref a)]) (es++[(kD k,.lst ys)]) (as++[a]):=by
 induction h with
 |nil=>exact .cons e r p .nil
 |cons e' r' p' t ih=>exact .cons e' r' p' ih
theorem aL0(hu:X.A.units+20<bE)(ho:S i=af)(hN:X.N[i]?=ae x)(hvi:Vis X.env.scope x)(hk:PE X k (gE fk rk))
 (hs:autoParam (fi (.List [] p4) (ae (.Subscript (.Name x p1) k pos')) pos.line X.env=pure aj) Ω)(hd:autoParam (nDb x) Λ)(hcd:autoParam (nCd x) Λ) :
  QS X (.Assign [.Subscript (.Name x p1) k pos'] (.List [] p4) pos) (tN S (aD3 i fk)):=QS.mk λΨ s σ H D' I ⟨c,ρ,fl,E,h,q⟩=>by
 obtain⟨kd,h1,h2⟩:=bF h;split at h2
 rotate_left
 .cases h2
 rename_i kvs hx;split at h2
 rotate_left
 .cases h2
 rename_i hg;cases h2;simp only[bn] at hg;obtain⟨⟨⟨hg1,hg2⟩,hg3⟩,hg4⟩:=hg;obtain⟨kz,rfl⟩:=U9 hg1;obtain⟨⟨b,as⟩,hc⟩:=E.all i ho (by rw[hx];intro z;cases z);obtain⟨hσ,hN0⟩:=E.nst i b as hc;have hnd:=E.nd i b as hc;rw[hx] at hN0;obtain⟨ks,eb,il,nk⟩:∃ks,H b=ae (.dK ks)/\InK H ks kvs as/\(ks.map (·.1)).Nodup:=by
  cases hN0 with
  |dct e i n=>exact⟨_,e,i,n⟩
  |pln z e m r p=>
   cases kvs with
   |cons d ds=>
    rw[inner,bj,θ,bn] at p;rw[gX,bn] at hg4;obtain⟨d1,d2⟩:=d;cases d2<;>simp[aCz] at hg4
    rw[D.pure] at p;cases p.1
   |nil=>
    subst z;cases r with
    |dK e' _ rk n'=>cases rk;exact⟨[],e',.nil,ic⟩
    |dT e' _ _ _=>rw[e] at e';cases e';cases m
 have hno:tK ks kz=ao:=by
  rcases aA2 il.reps with ⟨w,d,_,h2,_⟩|⟨h,_⟩
  .rw[h2] at hg2;cases hg2
  .exact h
 refine A8 (thn (aB6 rF Ψ s σ H (λv H1=>∃p,v=.ref p/\H p=ao/\H1=upd H p (.lst [])) I ⟨fo _,λp hp=>⟨p,rfl,hp,rfl⟩⟩) λrr s1 ⟨v,H1,I1,rv1,p,ev,hp,e1⟩=>
  thn (j_ hN hvi hd hcd Ψ s1 σ H1 (λw H2=>w=.ref b/\H2=H1) I1 ⟨_,hσ,rfl,rfl⟩) λu s2 ⟨xx,H2,I2,rx,ex,eH⟩=>
  thn (hk Ψ s2 σ H2 (λw H3=>cD H2 H3/\Rep All H3 w (kD kz)) I2 ⟨ρ,_,by rw[eH,e1];exact E.er.same (cD.upd hp),h1,λv H1 s1 r1 _=>⟨s1,r1⟩⟩) λiv s3 ⟨y,H3,I3,ry,sm3,rp3⟩=>?_) hs
 subst ex eH e1 ev;obtain rfl:u=gu b:=rx;obtain rfl:=aD2 rp3;have sm:cD H H3:=(cD.upd hp).trans sm3;have ep3:H3 p=ae (.lst []):=sm3 _ _ aM;have hpb:p≠b:=λz=>by subst z;rw[eb] at hp;cases hp
 have hpas:p∉as:=λz=>by obtain⟨ws,g⟩:=il.live p z;rw[g] at hp;cases hp
 have hlen:=il.reps.length;refine N_ 0x1 I3 (aG2.k (sm _ _ eb) (by have:=O_ hg3;lia)) ry rv1 λs4 I5=>?_
 rw[G6 hno] at I5;rw[df] at hnd;obtain⟨c',E',k'⟩:=E.grow hc (λa ha=>by
  rcases cw.mp ha with h|h
  .exact .inl h
  .rw[dS.mp h];exact .inr hp) (by
  rw[df,cw,dS,fg];refine⟨λz=>z.elim hnd.1 (λz=>hpb z.symm),hnd.2,by simp,λu hu w hw q=>?_⟩;rw[dS.mp hw] at q;exact hpas (q▸hu)) (λa o e n=>by
  rw[bA (λz=>n (by rw[z];exact bw ..))];exact sm _ _ e) (.dct aM (((il.same sm).upd hnd.1 (sm _ _ eb) rfl).snoc (by rw[bA hpb];exact ep3) .nil rfl) (by
   rw[cu,fg];refine⟨nk,by simp,λu hu w hw q=>?_⟩;rw[List.map_singleton,dS] at hw;obtain⟨pr,hpr,rfl⟩:=aT.mp hu;unfold tK at hno;rw[BE,BF] at hno;exact hno pr hpr (cm (q.trans hw))))
 exact⟨σ,_,I5,q c' _ _ k' E'⟩
end
end
section
variable [KFrag]
section
variable {own:ai->ax} {a e:Expr}
def aRq(E:ES own H σ ρ)(ho:own i=aj)(h:kJ i ρ=.ok d):∃v,σ[i]?=ae (ae v)/\Rep (λa=>¬Own own σ a) H v d:=by
 obtain⟨v,hv,r,e⟩:=E.er.var h;have hne:ρ.getD i .uD≠.uD:=λz=>by
  rw[z] at e;subst e;exact Rep.uD r
 obtain⟨w,hw,hr⟩:=E.at_ i hne;rw[hv] at hw;cases hw;have r2:=hr ho;rw[e] at r2;exact⟨v,hv,r2⟩
end
section
variable {X:Cx} {a e:Expr}
def vC{a:aq}{vs:aa V}(I:Inv X Ψ σ H s)(e:H a=ae (.lst vs)):∃o,Inv X Ψ σ (upd H a (.frz o (.lst vs))) s:=by
 obtain⟨its,n,r,ho,hz⟩:=I.lst e;refine⟨_,I.write (by rw[e];trivial) (.inl rfl) (λ_ _ _ q=>q) ⟨_,ho⟩ ⟨ho,hz,its,n,r,ho⟩⟩
end
end
def aD4(i:ai)(t:D->aa D->Res (aa D))(body:FS):FS:=λρ=>do
 let d <- kJ i ρ
 match d with
 |.scr xs=>oK t body xs ρ
 |_=>.bad
variable [KFrag]
section
def aOt{i:ai}(hK:KFrag.K=X.K)(hN:X.N[i]?=ae x)(hv:Vis X.env.scope x)(hd:autoParam (nDb x) Λ)(hcd:autoParam (nCd x) Λ) :
  PI X tg (.Name x pos) (λσ H R=>∃v items,σ[i]?=ae (ae v)/\Rep All H v (.scr items)/\∀J,(∀P:aq->Prop,Rep P H v (.scr items)->ItQ X.K P J H items)->R J H):=by
 rintro Ψ s σ H R I ⟨v,items,hσ,r,q⟩;refine thn (j_ hN hv hd hcd Ψ s σ H (λw H1=>w=v/\H1=H) I ⟨v,hσ,rfl,rfl⟩) λu s1 ⟨w,H1,I1,ru,e1,e2⟩=>?_
 subst e1 e2;obtain⟨a,xs,rfl,ee,rr⟩:=r.inv;cases ru;obtain⟨its,rv,p,hz⟩:=I1.list (ee.sq hK);refine k9 p.isList ?_;refine⟨s1.heap.objs.size,[s1.heap.objs.size],_,_,H1,rfl,I1.kept λb o e=>cx _ e,xT a _,⟨_,dt _ rfl,rfl,rfl⟩,λb hb=>?_,q _ λP r=>.scr a hK rfl r⟩;have e:b=s1.heap.objs.size:=by simpa using hb
 subst e;exact I1.aJc (bi _) (I1.hok.fresh (bi _))
def aD5(hK:KFrag.K=X.K)(ho:own i=aj)(hp:jt (az X.prog X.w) X.A X.env X.xe)(hc:X.calm=af)(hN:X.N[i]?=ae x)(hv:Vis X.env.scope x)(ht:TgS own g t)(hg:PG X tg g)(hb:PSs X body (tS own fb))
 (hs:∀z,eW (.Name x px) X.env z=pure z:=by intro _;rfl)(hd:autoParam (nDb x) Λ)(hcd:autoParam (nCd x) Λ):PS X (.For tg (.Name x px) body [] pos) (tS own (aD4 i t fb)):=PS.imp (M_ hp hc (aOt hK hN hv hd hcd) hg hb hs) λD' σ H z0=>by
 obtain⟨ρ,fl,E,h,q⟩:=z0;obtain⟨d,h1,h⟩:=bF h;split at h
 .rename_i items;obtain⟨v,hv,r⟩:=aRq E ho h1;exact⟨v,items,hv,r.all,λJ hJ=>xF ht E (hJ _ r) h q⟩
 .exact bx h
end
end Mi
namespace Wl
open PySem PySem.Spec
noncomputable abbrev liO(xs:ba ap)(n:ai)(sl:ba (aS ap):=#[]):b9:={cls:=.type "list",data:=.seq xs n,slots:=sl}
def aD6:np (.type "list") "keys"=pure ao:=by rw[sD,sF];kernel_rfl
def noGet:np (.type "list") "__getattr__"=pure ao:=by rw[sD,sF];kernel_rfl
theorem aD7:wg table "list.__getattribute__"=ae Builtin.«object.__getattribute__»:=BG (id':= "object.__getattribute__") 0x8 0x6 0x6 0x8
theorem sY(a:aq)(xs:ba ap)(n:ai)(sl:ba (aS ap))(u:fx):k5 (Builtin.«object.__getattribute__» ⟨[.ref a,.str "keys" u],[]⟩) (λA R s=>s.heap.get? a=ae (liO xs n sl)/\raisesAttr (.ref a) "keys" A R s):=.of_wp λprog w A R s hs=>by
 obtain⟨hp,g,d,tk,os⟩:=s;obtain⟨e,hh,q⟩:=hs;have ty:(⟨hp,g,d,tk,os⟩:ay).TypeIs (.ref a) "list":=⟨_,e,rfl⟩
 have no:=aD6
 wp_walk
 exact BH hh q (BI 0x6 (by size_fits))
section
variable {prog:cy} {w:bS} {A:cS} {E:ap->ay->Prop} {hp:br} {g:ba sK} {d:sL} {tk:ai} {os:sM} {a:aq} {xs:ba ap} {n:ai} {sl:ba (aS ap)}
def gone(e:hp.get? a=ae (liO xs n sl))(hh:A.handled=ao)(hk:kw=[])(q:∀h' tk' x,BM hp h' x (.ref a) "keys"->E (.ref x) ⟨h',g,d,tk',os⟩) :
  ϑ (az prog w) A (call (.builtin "list.__getattribute__") ([.ref a]++[.str "keys" u]) kw) Q E ⟨hp,g,d,tk,os⟩:=by
 subst hk;exact jI wx ⟨_,e,rfl⟩ aD7 (F.args_list_getattribute_2 _ _) (sY a xs n sl u) ⟨e,hh,λh' tk' x hx=>q h' tk' x hx⟩
def lacks(e:hp.get? a=ae (liO xs n sl))(hh:A.handled=ao)(q:∀h' tk',(∀b o,hp.get? b=ae o->h'.get? b=ae o)->Q ao ⟨h',g,d,tk',os⟩):ϑ (az prog w) A (wy (.ref a) "keys") Q E ⟨hp,g,d,tk,os⟩:=by
 have ty:∀tk',(⟨hp,g,d,tk',os⟩:ay).TypeIs (.ref a) "list":=λ_=>⟨_,e,rfl⟩
 have f3:=wx.lookup;have f4:=wx.bind (.ref a);have f5:=noGet;have sub:=BN
 wp_walk using gone e hh
 case hk=>rfl
 intro h' tk' x hx;obtain⟨t,u,ex⟩:=hx.there;show ϑ _ _ (BO _ _ _ _ _ _ _) _ _ _
 wp_walk
 exact q _ _ hx.keeps
end
def aIm{h:br}(e:h.get? c=ae o)(hc:o.cls=.type T)(ed:h.get? d=ae od)(hd:od.cls=.type U)(ne:(mI T==mI U)=aj):c≠d:=λq=>by
 subst q;rw[e] at ed;cases ed;rw[hc] at hd;rw[hd] at ne;simp at ne
def Prs{prog:cy}{w:bS}{K:Type}[fy K](knd:KeyKind prog w K)(items:ba ap)(ps:aa (K×ap))(h:br):Prop:=items.size=ps.length/\∀(i:ai)(kv:K×ap),ps[i]?=ae kv->∃(p:aq)(x:ap)(o:b9)(n:ai),items[i]?=ae (gu p)/\h.get? p=ae o/\o.cls=.type "tuple"/\o.data=.seq #[x,kv.2] n/\knd.is kv.1 x=af
def Prs.keep[fy K]{knd:KeyKind prog w K}{ps:aa (K×ap)}{h h':br}(x:Prs knd items ps h)(k:∀c o,o.cls=.type "tuple"->h.get? c=ae o->h'.get? c=ae o):Prs knd items ps h':=
 ⟨x.1,λi kv e=>let ⟨p,v,o,n,h1,h2,h3,h4,h5⟩:=x.2 i kv e;⟨p,v,o,n,h1,k p o h3 h2,h3,h4,h5⟩⟩
end Wl
namespace Wt
open PySem PySem.Spec Wl
noncomputable abbrev tpO(xs:ba ap)(n:ai)(sl:ba (aS ap)):b9:={cls:=.type "tuple",data:=.seq xs n,slots:=sl}
def aD6:np (.type "tuple") "keys"=pure ao:=by rw[sD,sF];kernel_rfl
def noGet:np (.type "tuple") "__getattr__"=pure ao:=by rw[sD,sF];kernel_rfl
theorem aD7:wg table "tuple.__getattribute__"=ae Builtin.«object.__getattribute__»:=BG (id':= "object.__getattribute__") 0x8 0x6 0x6 0x8
theorem sY(a:aq)(xs:ba ap)(n:ai)(sl:ba (aS ap))(u:fx):k5 (Builtin.«object.__getattribute__» ⟨[.ref a,.str "keys" u],[]⟩) (λA R s=>s.heap.get? a=ae (tpO xs n sl)/\raisesAttr (.ref a) "keys" A R s):=.of_wp λprog w A R s hs=>by
 obtain⟨hp,g,d,tk,os⟩:=s;obtain⟨e,hh,q⟩:=hs;have ty:(⟨hp,g,d,tk,os⟩:ay).TypeIs (.ref a) "tuple":=⟨_,e,rfl⟩
 have no:=aD6
 wp_walk
 exact BH hh q (BI 0x6 (by size_fits))
section
variable {prog:cy} {w:bS} {A:cS} {E:ap->ay->Prop} {hp:br} {g:ba sK} {d:sL} {tk:ai} {os:sM} {a:aq} {xs:ba ap} {n:ai} {sl:ba (aS ap)}
def gone(e:hp.get? a=ae (tpO xs n sl))(hh:A.handled=ao)(hk:kw=[])(q:∀h' tk' x,BM hp h' x (.ref a) "keys"->E (.ref x) ⟨h',g,d,tk',os⟩) :
  ϑ (az prog w) A (call (.builtin "tuple.__getattribute__") ([.ref a]++[.str "keys" u]) kw) Q E ⟨hp,g,d,tk,os⟩:=by
 subst hk;exact jI wz ⟨_,e,rfl⟩ aD7 (F.args_tuple_getattribute_2 _ _) (sY a xs n sl u) ⟨e,hh,λh' tk' x hx=>q h' tk' x hx⟩
def lacks(e:hp.get? a=ae (tpO xs n sl))(hh:A.handled=ao)(q:∀h' tk',(∀b o,hp.get? b=ae o->h'.get? b=ae o)->Q ao ⟨h',g,d,tk',os⟩):ϑ (az prog w) A (wy (.ref a) "keys") Q E ⟨hp,g,d,tk,os⟩:=by
 have ty:∀tk',(⟨hp,g,d,tk',os⟩:ay).TypeIs (.ref a) "tuple":=λ_=>⟨_,e,rfl⟩
 have f3:=wz.lookup;have f4:=wz.bind (.ref a);have f5:=noGet;have sub:=BN
 wp_walk using gone e hh
 case hk=>rfl
 intro h' tk' x hx;obtain⟨t,u,ex⟩:=hx.there;show ϑ _ _ (BO _ _ _ _ _ _ _) _ _ _
 wp_walk
 exact q _ _ hx.keeps
end
end Wt
namespace Wl
open PySem PySem.Spec
section
variable {prog:cy} {w:bS} {A:cS} {E:ap->ay->Prop} {hp:br} {g:ba sK} {d:sL} {tk:ai} {os:sM} {a:aq} {xs:ba ap} {n:ai} {sl:ba (aS ap)}
noncomputable def tyN:ax->eM
 |true=>"list"
 |false=>"tuple"
abbrev sqO(b:ax)(xs:ba ap)(n:ai)(sl:ba (aS ap)):b9:={cls:=.type (tyN b),data:=.seq xs n,slots:=sl}
def aIn:ax->br->aq->aq->ai->Prop
 |true,h,it,l,k=>h.IsListIter it l k
 |false,h,it,l,k=>h.IsTupleIter it l k
def aOu(z:aIn b h it l k)(e:h.get? c=ae o)(hc:o.cls=.type "tuple"):c≠it:=by
 cases b<;>exact let ⟨oi,ei,ci,_⟩:=z;aIm e hc ei ci 0x4
def aL1(z:aIn b h it l k)(e:h'.get? it=h.get? it):aIn b h' it l k:=by
 cases b<;>exact let ⟨oi,ei,r⟩:=z;⟨oi,e.trans ei,r⟩
def aOv(e:hp.get? a=ae (sqO b xs n sl))(hh:A.handled=ao)(q:∀h' tk',(∀b o,hp.get? b=ae o->h'.get? b=ae o)->Q ao ⟨h',g,d,tk',os⟩):ϑ (az prog w) A (wy (.ref a) "keys") Q E ⟨hp,g,d,tk,os⟩:=by
 cases b
 .exact Wt.lacks e hh q
 .exact lacks e hh q
end
section
variable {prog:cy} {w:bS} {A:cS} {E:ap->ay->Prop} {s:ay} {it l:aq} {items:ba ap} {nl k:ai} {sl:ba (aS ap)}
def aL2{Q:aS ap->ay->Prop}(z:aIn b s.heap it l k)(el:s.heap.get? l=ae (sqO b items nl sl))(hx:items[k]?=ae x)(hQ:∀h',aIn b h' it l (k+1)->li it s.heap h'->Q (ae x) {s with heap:=h'}):ϑ (az prog w) A (f_ (.ref it)) Q E s:=by
 cases b
 .exact xD z ⟨_,el,rfl,_,rfl⟩ hx hQ
 .exact xB z ⟨_,el,rfl,_,rfl⟩ hx hQ
def aOw{Q:aS ap->ay->Prop}(hh:A.handled=ao)(z:aIn b s.heap it l k)(el:s.heap.get? l=ae (sqO b items nl sl))(hx:items[k]?=ao)(hQ:∀h',Bq it s.heap h'->Q ao {s with heap:=h'}):ϑ (az prog w) A (f_ (.ref it)) Q E s:=by
 cases b
 .exact xE hh z ⟨_,el,rfl,_,rfl⟩ hx hQ
 .exact xC hh z ⟨_,el,rfl,_,rfl⟩ hx hQ
def aRr{Q:ap->ay->Prop}(el:s.heap.get? l=ae (sqO b items nl sl))(hQ:∀oi,aIn b (s.heap.push oi) s.heap.objs.size l 0->Q (.ref s.heap.objs.size) {s with heap:=s.heap.push oi}):ϑ (az prog w) A (gL (.ref l)) Q E s:=by
 cases b
 .exact sj ⟨_,el,rfl,_,rfl⟩ (hQ _ ⟨_,dt _ rfl,rfl,rfl⟩)
 .exact k9 ⟨_,el,rfl,_,rfl⟩ (hQ _ ⟨_,dt _ rfl,rfl,rfl⟩)
end
section
variable {prog:cy} {w:bS} {K:Type} [fy K] {knd:KeyKind prog w K} {A:cS} {R:Except ap Flow->ay->Prop} {it l d:aq} {items:ba ap} {ps:aa (K×ap)} {nl:ai} {sl:ba (aS ap)}
theorem aGx(hh:A.handled=ao)(hdi:d≠it)(hdl:d≠l)(hil:l≠it) :
  ∀(m k:ai)(s:ay)(kvs:aa (K×ap)),k+m=items.size->kvs.length+m<=bp->aIn b s.heap it l k->s.heap.get? l=ae (sqO b items nl sl)->Prs knd items ps s.heap->s.heap.DictOf knd d kvs->
  (∀h' tk,h'.DictOf knd d (qw kvs (ps.drop k))->(∀c o,c≠d->c≠it->s.heap.get? c=ae o->h'.get? c=ae o)->R (.ok (.ret .none)) {s with heap:=h',toks:=tk})->
  codeAny (az prog w) A (.builtin "dict.update.loop" ⟨[.ref d,.ref it,iE k,.none],[]⟩) R s:=by
 intro m;induction m with
 |zero=>
  intro k s kvs hkm hl Z el Pp hd q;refine hI Wz.P_ ?_;rw[io (show plainId "dict.update.loop"=af by decide +kernel) _];refine aE (aOw hh Z el (wo 0x1) λh' kp=>?_);refine aE ?_;unfold C4;rw[zl];refine aE (bm (bm (bm ?_)));have e:ps.drop k=[]:=sn (by have:=Pp.1;lia);rw[e] at q;obtain⟨o,es,ep,ho,r⟩:=hd;exact q _ s.toks ⟨o,es,ep,kp d o hdi ho,r⟩ λc o _ c1 e=>kp c o c1 e
 |succ m ih=>
  intro k s kvs hkm hl Z el Pp hd q;have hlp:k<ps.length:=by have:=Pp.1;lia
  obtain⟨p,x,o,n,hi,hp,hpc,hpd,his⟩:=Pp.2 k ps[k] (eh hlp);have hpi:p≠it:=aOu Z hp hpc;refine hI Wz.P_ ?_;rw[io (show plainId "dict.update.loop"=af by decide +kernel) _];refine aE (aL2 Z el hi λh' Z' kp=>?_);have hp':h'.get? p=ae o:=(kp.2 p hpi).trans hp;refine aE (ii (aE (jo ?_)));refine aE (ut ⟨_,hp',hpc⟩ ?_);rw[av 0x4];refine aE (k7 hp' hpd (bm ?_));show ϑ _ _ (t5 [x,ps[k].2] (dictSet d x ps[k].2)) _ _ _;have hd':h'.DictOf knd d kvs:=let ⟨o,es,ep,ho,r⟩:=hd;⟨o,es,ep,(kp.2 d hdi).trans ho,r⟩
  obtain⟨od,es,ep,ho,hc,_⟩:=id hd';refine ii (wpAny_dictSet_pairs his hd' (λh2 hd2' sb=>?_) 0x1);refine bm ⟨wv _ 0x6,?_⟩;have ek:(iE (k+1):ap)=iE ((k+1:ai):ag):=rfl;rw[ek];have hdrop:ps.drop k=ps[k]::ps.drop (k+1):=ij hlp;have ls:(lP kvs ps[k].1 ps[k].2).length<=kvs.length+1:=by
   unfold lP;split
   .rw[aI];lia
   .rw[cb];exact bi _
  have keep:∀c o,c≠d->c≠it->s.heap.get? c=ae o->h2.get? c=ae o:=λc o c0 c1 e=>(sb.2 c c0).trans ((kp.2 c c1).trans e)
  have hdc:∀c (oc:b9),oc.cls=.type "tuple"->s.heap.get? c=ae oc->c≠d/\c≠it:=λc oc hoc e=>⟨let ⟨o1,_,_,e1,c1,_⟩:=hd;aIm e hoc e1 c1.1 0x4,aOu Z e hoc⟩
  refine ih (k+1) _ (lP kvs ps[k].1 ps[k].2) 0x1 0x1 (aL1 Z' (sb.2 it (Ne.symm hdi))) (keep l _ (Ne.symm hdl) hil el) (Pp.keep λc oc hoc e=>keep c oc (hdc c oc hoc e).1 (hdc c oc hoc e).2 e) hd2' λh3 tk hd3 kp3=>?_
  exact q h3 tk (by rw[hdrop];exact hd3) λc o c0 c1 e=>kp3 c o c0 c1 (keep c o c0 c1 e)
end
section
variable {prog:cy} {w:bS} {K:Type} [fy K] {knd:KeyKind prog w K} {A:cS} {E:ap->ay->Prop} {hp:br} {g:ba sK} {dr:sL} {tk:ai} {os:sM} {l:aq} {items:ba ap} {ps:aa (K×ap)} {nl:ai} {sl:ba (aS ap)}
theorem aGy(hh:A.handled=ao)(el:hp.get? l=ae (sqO b items nl sl))(Pp:Prs knd items ps hp)(hz:items.size<=1000000)
 (q:∀h' tk',h'.DictOf knd hp.objs.size (qw [] ps)->(∀c o,hp.get? c=ae o->h'.get? c=ae o)->Q (.ref hp.objs.size) ⟨h',g,dr,tk',os⟩) :
  ϑ (az prog w) A (call (.type "dict") [.ref l]) Q E ⟨hp,g,dr,tk,os⟩:=by
 have hnew:(hp.push {cls:=.type "dict",data:=.dict #[]}).DictOf knd hp.objs.size []:=yz hp;have up:∀c o,hp.get? c=ae o->(hp.push {cls:=.type "dict",data:=.dict #[]}).get? c=ae o:=λc o e=>cx _ e
 have lt:∀{c o},hp.get? c=ae o->hp.objs.size≠c:=λe=>ju (bX e)
 refine callType_codes (Q₁:=λv s₁=>v=.ref hp.objs.size/\s₁=⟨hp.push {cls:=.type "dict",data:=.dict #[]},g,dr,tk,os⟩) F.kt_called_dict (F.kt_typeCall_dict_1 _) F.entry_dict_init (kt_code_dict_new _ ⟨rfl,rfl⟩) λv s₁ hv=>?_
 obtain⟨rfl,rfl⟩:=hv;have ty:(⟨hp.push {cls:=.type "dict",data:=.dict #[]},g,dr,tk,os⟩:ay).TypeIs (.ref hp.objs.size) "dict":=hnew.typeIs;have ez:=up _ _ el;have tz:(⟨hp.push {cls:=.type "dict",data:=.dict #[]},g,dr,tk,os⟩:ay).TypeIs (.ref l) (tyN b):=⟨_,ez,rfl⟩
 refine⟨ty,F.args_dict_init_2 _ _,aE (aE (Bi ty (bm ?_)))⟩;refine aE (ut tz ?_);rw[av (by cases b<;>decide)];refine aE (aOv ez hh λh' tk' kp=>?_);rw[av (show(ao:aS ap).isNone=af from rfl)];refine aE (ke (aE (aRr (kp _ _ ez) λoi z0=>bm ⟨wv _ 0x6,?_⟩)));have hd':h'.DictOf knd hp.objs.size []:=let ⟨o,es,ep,ho,r⟩:=hnew;⟨o,es,ep,kp _ _ ho,r⟩
 have ltd:hp.objs.size<h'.objs.size:=let ⟨o,es,ep,ho,r⟩:=hd';bX ho
 have ltl:l<h'.objs.size:=bX (kp _ _ ez);refine aGx (ps:=ps) (it:=h'.objs.size) (l:=l) (items:=items) (nl:=nl) (sl:=sl) (show A.in1.handled=ao from hh) (di ltd) (lt el) (di ltl) items.size 0 _ [] 0x1 (by rw[e9,e8];lia) z0 (cx _ (kp _ _ ez)) (Pp.keep λc o _ e=>cx _ (kp c o (up c o e))) (let ⟨o,es,ep,ho,r⟩:=hd';⟨o,es,ep,cx _ ho,r⟩) λh2 tk2 hd2 kp2=>?_
 exact⟨rfl,q h2 tk2 hd2 λc o e=>kp2 c o (λx=>lt e x.symm) (di (bX (kp c o (up c o e)))) (cx _ (kp c o (up c o e)))⟩
end
end Wl
namespace Mi
open PySem L2 PySem.SeqAt PySem.Spec PyProof.Rows
def mL:aa D->aS (aa (D×D))
 |[]=>ae []
 |.tup [k,v]::r=>if fY k&&v.pure then (mL r).map ((k,v)::·) else ao
 |_::_=>ao
def bT(kvs:aa (D×D))(more:aa (D×D)):aa (D×D):=more.foldl (λacc p=>putD acc p.1 p.2) kvs
def F_:D->Res D
 |.lst xs=>match mL xs with
  |some ps=>if ϒ (xs.length<=1000) then .ok (.dct (bT [] ps)) else .bad
  |none=>.bad
 |_=>.bad
section
variable [KFrag]
theorem YD(I:Inv X Ψ σ H s):∀{xs:aa D}{vs:aa V}{us:aa ap}{ps:aa (D×D)},bN All H vs xs->Vals vs us->mL xs=ae ps->
  ∃(kvs:aa (Key×V))(prs:aa (Key×ap)),KV kvs prs/\lZ All H kvs ps/\θ (ps.map (·.2))=af/\us.length=prs.length/\∀(i:ai)(kv:Key×ap),prs[i]?=ae kv->∃(p:aq)(x:ap)(o:b9)(n:ai),us[i]?=ae (gu p)/\s.heap.get? p=ae o/\o.cls=.type "tuple"/\o.data=.seq #[x,kv.2] n/\(dM X.prog X.w).is kv.1 x=af
 |[],_,_,_,.nil,.nil,h=>by
  cases h;exact⟨[],[],.nil,.nil,rfl,rfl,λi kv h=>by simp at h⟩
 |d::xs,_,_,ps,.cons r t,.cons rv tv,h=>by
  unfold mL at h;split at h
  .rename_i h0;cases h0
  .rename_i k v r' h0;injection h0 with h0 h1
   subst h0 h1;split at h
   .rename_i hf;rw[bn] at hf;obtain⟨ps',hp,rfl⟩:=lS.mp h;obtain⟨kvs,prs,g1,g2,g3,g4,g5⟩:=YD I t tv hp;obtain⟨a,ws,rfl,ea,rr⟩:=r.gM;cases rv;obtain⟨its,rvs,o,ho,hc,n,hd⟩:=gR I ea;cases rr with
    |cons rk rr=>
     cases rr with
     |cons rw_ rr=>
      cases rr;cases rvs with
      |cons q1 rvs=>
       cases rvs with
       |cons q2 rvs=>
        cases rvs;rename_i wk ww uk uw;obtain⟨key,hk1,hk2⟩:∃key:Key,kD key=k/\(dM X.prog X.w).is key uk=af:=by
         cases rk with
         |int i=>exact⟨.inl i,rfl,N6 q1⟩
         |str x=>exact⟨.inr x,rfl,N6 q1⟩
         |_=>cases hf.1
        subst hk1;refine⟨(key,ww)::kvs,(key,uw)::prs,.cons ⟨rfl,q2⟩ g1,.cons rw_ g2,by rw[bj,θ,hf.2,g3];rfl,by rw[cr,cr,g4],λi kv hi=>?_⟩;cases i with
        |zero=>
         simp at hi;subst hi;exact⟨a,uk,o,n,rfl,ho,hc,hd,hk2⟩
        |succ i=>
         obtain⟨p,x,o',n',z1,z2⟩:=g5 i kv (by simpa using hi);exact⟨p,x,o',n',by simpa using z1,z2⟩
   .cases h
  .cases h
def GC:∀{more:aa (Key×V)}{ds:aa (D×D)}{kvs:aa (Key×V)}{es:aa (D×D)},lZ P H more ds->lZ P H kvs es->(kvs.map (·.1)).Nodup->lZ P H (gQ kvs more) (bT es ds)/\((gQ kvs more).map (·.1)).Nodup
 |_,_,_,_,.nil,r,n=>⟨r,n⟩
 |_,_,_,_,.cons (k:=k) rv t,r,n=>by have:=GC t (X_ (k:=k) rv r n) (mG n);exact this
def vX:∀{ds es:aa (D×D)},θ (ds.map (·.2))=af->θ (es.map (·.2))=af->θ ((bT es ds).map (·.2))=af
 |[],_,_,h=>h
 | (k,v)::ds,es,h,h2=>by
  rw[bj,θ,bn] at h;exact vX (ds:=ds) h.2 (u_ h.1 h2)
section
theorem aIo(hf:∀d0 d,f d0=.ok d->∃xs ps,(d0=.lst xs\/d0=.tup xs)/\mL xs=ae ps/\xs.length<=1000/\d=.dct (bT [] ps))(hc:X.calm=af)(hg:Gl X "dict")(hm:X.mg "dict"=ao)(he:PE X e (gE fe re))(hs:autoParam (dQ [e] X.env=[(aj,cK e X.env)]) Ω) :
  PE X (.Call (.Name "dict" p) [e] [] pos) (gE (b1 f fe) af):=by
 rintro Ψ s σ H Q I ⟨ρ,d,E,h,q⟩;obtain⟨d0,h1,h2⟩:=bF h;obtain⟨xs,ps,h0,hps,hb,rfl⟩:=hf _ _ h2;refine kC (vP I hg hm aGq ?_);refine ng ?_ hs rfl;rw[hs];show ϑ _ _ (tx [(aj,cK e X.env)]) _ _ s;refine yf (thn (he Ψ s σ H (λv H1=>cD H H1/\Rep All H1 v d0) I ⟨ρ,_,E,h1,λv H1 s1 r1 _=>⟨s1,r1⟩⟩) λu s1 ⟨x,H1,I1,ru,sm,rx⟩=>?_);obtain⟨a,vs,its,b,nl,sl,rfl,rr,rv,hl⟩:∃a vs its b nl sl,x=.ref a/\bN All H1 vs xs/\Vals vs its/\s1.heap.get? a=ae (Wl.sqO b its.toArray nl sl):=by
  rcases h0 with rfl|rfl
  .obtain⟨_,_,rfl,e,p,r⟩:=rx.inv;obtain⟨hz,its,nl,rv,hl⟩:_/\∃(its:aa ap)(n:ai),Vals _ its/\s1.heap.get? _=ae {cls:=.type "list",data:=.seq its.toArray n}:=I1.hok _ _ e;exact⟨_,_,its,af,nl,_,rfl,r,rv,hl⟩
  .obtain⟨a,vs,rfl,ea,rr⟩:=rx.gM;obtain⟨hz,its,rv,⟨cl,dd,da,sl⟩,hl,e1,nl,e2⟩:vs.length<=bp/\∃its:aa ap,Vals vs its/\lE s1.heap a its.toArray:=I1.hok a _ ea;simp only[iA] at e1 e2;obtain⟨e2,e3⟩:=e2;subst e1 e2 e3;exact⟨_,_,its,aj,nl,sl,rfl,rr,rv,hl⟩
 cases ru;refine ye ?_;obtain⟨kvs,prs,g1,g2,g3,g4,g5⟩:=YD I1 rr rv hps;have hlen:its.length<=1000:=by rw[<-rv.length,rr.length];exact hb
 obtain⟨hp,g,dr,tk,os⟩:=s1;refine Wl.aGy (knd:=dM X.prog X.w) (ps:=prs) (items:=its.toArray) (I1.ok.hd hc) hl ⟨by rw[cg];exact g4,λi kv hi=>?_⟩ (by rw[cg];lia) λh' tk' hd kp=>?_
 .obtain⟨p,x,o,n,z1,z2⟩:=g5 i kv hi;exact⟨p,x,o,n,by simpa using z1,z2⟩
 .have hfr:H1 hp.objs.size=ao:=I1.hok.fresh (bi _);have rel:KV (gQ [] kvs) (qw [] prs):=g1.merge .nil;have hz2:(gQ [] kvs).length<=bp:=by
   have:=mU kvs [];have l1:kvs.length=prs.length:=lg g1;rw[e9] at this;rw[e8];lia
  obtain⟨rk,nd⟩:=GC (kvs:=[]) g2 lZ.nil ic;have sp:cD H1 (upd H1 hp.objs.size (.dK (gQ [] kvs))):=cD.upd hfr;have rk2:∀{P:aq->Prop},lZ P (upd H1 hp.objs.size (.dK (gQ [] kvs))) (gQ [] kvs) (bT [] ps):=λ{P}=>(rk.keep (.same sp) λ_ h=>h).bZ (vX g3 rfl)
  refine⟨.ref hp.objs.size,_,I1.laid (a:=hp.objs.size) (t':=tk') (o:=.dK (gQ [] kvs)) kp (bi _) (aBg hz2 (tm.mpr ?_) rel hd),rfl,?_⟩
  .exact Ne.symm (di I1.big)
  .exact q _ _ (sm.trans sp) (.dK aM trivial rk2 nd) λ_=>.dK aM (sm.free hfr) rk2 nd
def aD8(hc:X.calm=af)(hg:Gl X "dict")(hm:X.mg "dict"=ao)(he:PE X e (gE fe re))(hs:autoParam (dQ [e] X.env=[(aj,cK e X.env)]) Ω) :
  PE X (.Call (.Name "dict" p) [e] [] pos) (gE (b1 F_ fe) af):=aIo (λd0 d h=>by
 unfold F_ at h
 repeat' split at h
 .rename_i h1 h2;exact⟨_,_,.inl rfl,h1,fq h2,(Res.ok.inj h).symm⟩
 all_goals exact bx h) hc hg hm he hs
end
end
def bFz(f:FE):FE:=λρ=>do
 let d <- f ρ
 match d with
 |.lst xs=>if θ xs then .ok (.scr xs) else .bad
 |_=>.bad
section
variable [KFrag]
section
variable {X:Cx} {e:Expr} {f:FE}
def tFz(t:TE):TE:=λσ H Q=>t σ H λv H1=>∃a vs,v=.ref a/\H1 a=ae (.lst vs)/\∀o,Q v (upd H1 a (.frz o (.lst vs)))
def aRs(h:PE X e t):PE X e (tFz t):=by
 intro Ψ s σ H Q I q;refine fj (h Ψ s σ H _ (I.wish _) q) (λu s1 ⟨v,H1,I1,r,a,vs,ev,ea,k⟩=>?_) λ_ _ z=>z
 obtain⟨o,I2⟩:=vC I1 ea;exact⟨v,_,I2,r,k o⟩
def aOx(h:PE X e (gE f af)):PE X e (gE (bFz f) af):=PE.imp (aRs h) λσ H Q ⟨ρ,d,E,h,q⟩=>by
 obtain⟨d0,h1,h2⟩:=bF h;split at h2
 .rename_i xs;split at h2
  .rename_i hp;cases h2;refine⟨ρ,_,E,h1,λv H1 s1 r n=>?_⟩;cases n rfl with
   |@lst a vs _ ea pa ra=>
    refine⟨a,vs,rfl,ea,λo=>?_⟩;have noT:∀ob,H1 a=ae ob->aK1 ob=af:=λob z=>by rw[ea] at z;cases z;rfl
    have s2:cD H (upd H1 a (.frz o (.lst vs))):=λb ob eb=>by
     rw[bA (λz=>by rw[z,show H a=ao from pa] at eb;cases eb)];exact s1 b ob eb
    have rp:∀P:aq->Prop,Rep P (upd H1 a (.frz o (.lst vs))) (.ref a) (.scr xs):=λP=>.frz (.inl ⟨o,aM⟩) ((PX noT ra hp).bZ hp)
    exact q _ _ s2 (rp _) λ_=>rp _
  .exact bx h2
 .exact bx h2
end
end
def aMx(f:FE):FI:=λρ=>do
 let d <- f ρ
 match d with
 |.scr xs=>if θ xs then .ok (xs,af) else .bad
 |_=>.bad
noncomputable def gF(own:ai->ax)(i:ai):ai->ax:=λj=>own j||j==i
def aOy(i:ai)(f:FE)(g:FS):FS:=λρ=>do
 let d <- f ρ
 match d with
 |.lst xs=>if θ xs then g (ρ.set i (.lst xs)) else .bad
 |_=>.bad
noncomputable def JT(f g:FS):FS:=λρ=>do
 let r <- f ρ
 match r with
 |.nx ρ'=>g ρ'
 |.rt d=>.ok (.rt d)
 |_=>.bad
noncomputable def VB(i:ai)(g:FS):FS:=λρ=>match ρ.getD i .uD with
 |.lst xs=>g (ρ.set i (.scr xs))
 |_=>.bad
noncomputable def QB(i:ai)(g:FS):FS:=λρ=>match ρ.getD i .uD with
 |.lst xs=>(do
   let r <- g (ρ.set i (.scr xs))
   match r with
   |.rt d=>.ok (.rt d)
   |_=>.bad)
 |_=>.bad
def aD9(i:ai)(f:FE):FS:=λρ=>do
 let d <- f ρ
 match ρ.getD i .uD,d with
 |.lst xs,.scr ys=>if ϒ (xs.length+ys.length<=lim)&&θ ys then .ok (.nx (ρ.set i (.lst (xs++ys)))) else .bad
 |_,_=>.bad
def aSm:D->D->D->D->Res D
 |.int a,.int i,.int b,.int j=>.ok (.dct (putD [(.int a,.int i)] (.int b) (.int j)))
 |_,_,_,_=>.bad
def aOz(k v l w:FE):FE:=λρ=>do
 let k <- k ρ
 let v <- v ρ
 let l <- l ρ
 let w <- w ρ
 aSm k v l w
noncomputable def JV:aa D->Res D
 |[.int m,.int n]=>if ϒ (-1000000<=m)&&ϒ (m<=1000000)&&ϒ (-1000000<=n)&&ϒ (n<=1000000) then .ok (.lst ((bh (n-m).toNat).map λ(k:ai)=>δ (m+k))) else .bad
 |_=>.bad
def aL3(l:aq)(items:ba ap)(n:ai)(b:aq)(items2:ba ap)(n2:ai)(sm:ba (aS ap))(hc0:¬(!items.isEmpty&&nq (items.size+items2.size))=af)(hc1:items.size<=bp)(hs2:items.size+items2.size<=bp+1) :
  k5 (Builtin.«list.extend» ⟨[.ref l,.ref b],[]⟩) (λ_ R s=>s.heap.get? l=ae {cls:=.type "list",dict:=ao,data:=.seq items n,slots:=#[]}/\s.heap.get? b=ae {cls:=.type "list",dict:=ao,data:=.seq items2 n2,slots:=sm}/\R (.ok (.ret lf)) {s with heap:=s.heap.update l (fu λx=>x++items2),toks:=s.toks}):=
 .of_wp λprog w A R s h=>by
  obtain⟨hp,g,d,tk,os⟩:=s;obtain⟨hl,hb,h⟩:=h;have f3:=Aw;have hz':(items++items2).size<=bp+1:=by rw[Bb];exact hs2
  wp_walk using (k8 hl rfl),wpAny_loadPart' hl,wpAny_loadPart' hb;exact⟨_,rfl,h⟩
section
variable [KFrag]
section
variable {X:Cx} {own:ai->ax} {e:Expr} {fe f:FE} {g g1:FS}
def aDa(hK:KFrag.K=X.K)(hl:PE X l (gE f rl)):PI X tg l (gI X.K (aMx f)):=by
 intro Ψ s σ H R I ⟨ρ,items,k,E,h,q⟩;obtain⟨d,h1,h⟩:=bF h;split at h
 .rename_i its;split at h
  .rename_i hpu;cases h;refine thn (hl Ψ s σ H (λv H1=>cD H H1/\Rep All H1 v (.scr items)) I ⟨ρ,_,E,h1,λv H1 s1 r1 _=>⟨s1,r1⟩⟩) λu s1 ⟨v,H1,I1,ru,sm,r1⟩=>?_
   obtain⟨a,xs,rfl,ee,rr⟩:=r1.inv;cases ru;obtain⟨its,rv,p,hz⟩:=I1.list (ee.sq hK);refine k9 p.isList ?_;refine⟨s1.heap.objs.size,[s1.heap.objs.size],_,_,H1,rfl,I1.kept λb o e=>cx _ e,xT a _,⟨_,dt _ rfl,rfl,rfl⟩,λb hb=>?_,q _ H1 sm (.scr a hK rfl r1) λ_=>.scr a hK rfl (r1.bZ ?_)⟩
   .have e:b=s1.heap.objs.size:=by simpa using hb
    subst e;exact I1.aJc (bi _) (I1.hok.fresh (bi _))
   .exact hpu
  .exact bx h
 .exact bx h
def xH:gF own i i=af:=by unfold gF;simp
def uE(h:gF own i j=af):own j=af\/j=i:=by
 unfold gF at h;simpa using h
def oX(h:own j=af):gF own i j=af:=by unfold gF;rw[h];rfl
def Own.to(h:Own own σ b):Own (gF own i) σ b:=by
 obtain⟨j,hj,e⟩:=h;exact⟨j,oX hj,e⟩
def aA8(ho:own i=aj):oW (gF own i) i=own:=by
 funext j
 unfold oW gF;by_cases h:j=i
 .subst h;rw[ho];simp
 .have:(j==i)=aj:=by simpa using h
  rw[this,uz];simp
def KL(own:ai->ax)(i:ai)(σ:L2.St)(H:Hp)(σ':L2.St)(H':Hp):Prop:=∀a o,H a=ae o->¬Own (gF own i) σ a->H' a=ae o/\¬Own own σ' a
def kL(own:ai->ax)(i:ai)(D:Ends)(σ:L2.St)(H:Hp):Fl->Prop
 |.nx ρ=>∀σ' H',KL own i σ H σ' H'->ES own H' σ' ρ->D.nx σ' H'
 |.bk ρ=>∀σ' H',KL own i σ H σ' H'->ES own H' σ' ρ->D.bk σ' H'
 |.ct ρ=>∀σ' H',KL own i σ H σ' H'->ES own H' σ' ρ->D.ct σ' H'
 |.rt d=>kRt (gF own i) D σ H d
def kL.step{D:Ends}(k:KU (gF own i) σ H σ' H')(h:kL own i D σ H fl):kL own i D σ' H' fl:=by
 cases fl with
 |nx ρ=>exact λσ2 H2 k2 e=>h σ2 H2 (λa o e n=>let ⟨e1,n1⟩:=k a o e n;k2 a o e1 n1) e
 |bk ρ=>exact λσ2 H2 k2 e=>h σ2 H2 (λa o e n=>let ⟨e1,n1⟩:=k a o e n;k2 a o e1 n1) e
 |ct ρ=>exact λσ2 H2 k2 e=>h σ2 H2 (λa o e n=>let ⟨e1,n1⟩:=k a o e n;k2 a o e1 n1) e
 |rt d=>exact kS.step (fl:=.rt d) k h
def tL(own:ai->ax)(i:ai)(f:FS):TS:=λD σ H=>∃ρ fl,ES (gF own i) H σ ρ/\f ρ=.ok fl/\kL own i D σ H fl
def JW{st:bz}{rest:aa bz}(h1:PS X st (tS (gF own i) g1))(h2:PSs X rest (tL own i g)):PSs X (st::rest) (tL own i (JT g1 g)):=PSs.imp (wJ h1 h2) λD σ H z=>by
 obtain⟨ρ,fl,E,h,q⟩:=z;obtain⟨r,h1,h2⟩:=bF h;refine⟨ρ,r,E,h1,?_⟩;cases r with
 |nx ρ'=>exact λσ' H' k E'=>⟨ρ',fl,E',h2,q.step k⟩
 |bk ρ'=>exact bx h2
 |ct ρ'=>exact bx h2
 |rt d=>cases h2;exact q
theorem aIp(E:ES own H σ ρ)(ho:own i=af)(hσ:σ[i]?=ae (ae (.ref a)))(hd:ρ.getD i .uD=.lst ds)(hua:H a=ae (.lst vs))(rr:bN All H vs ds):ES (oW own i) (upd H a (.frz o (.lst vs))) σ (ρ.set i (.scr ds))/\¬Own (oW own i) σ a:=by
 obtain⟨a',oa,ea,ra,hin,hHa,hma,huq⟩:=E.own i _ ho hσ;cases ea;rw[hd] at ra hin;have hna:¬Own (oW own i) σ a:=λ⟨j,hj,e⟩=>(mK hj).2 (huq j (mK hj).1 e)
 have hOa:Own own σ a:=⟨i,ho,hσ⟩
 have hl:i<ρ.length:=by rw[<-E.len];exact(dz.mp hσ).1
 have noT:∀ob,H a=ae ob->aK1 ob=af:=λob z=>by rw[hua] at z;cases z;rfl
 refine⟨⟨by simp[E.len],λj hj=>?_,λj w hj hw=>?_⟩,hna⟩
 .rw[bR] at hj ⊢;by_cases h:i=j/\i<ρ.length
  .rw[av h];obtain⟨rfl,_⟩:=h;exact⟨_,hσ,λ_=>.frz (.inl ⟨o,aM⟩) ((PX noT rr hin).bZ hin)⟩
  .rw[aw h] at hj ⊢;have hij:i≠j:=λz=>h ⟨z,hl⟩
   obtain⟨w,h1,h2⟩:=E.at_ j hj;refine⟨w,h1,λhj2=>?_⟩;have hoj:own j=aj:=by
    unfold oW at hj2;cases hq:own j with
    |false=>rfl
    |true=>rw[hq] at hj2;simp at hj2;exact bg hj2.symm hij
   refine(h2 hoj).keep (λb ob hb hp=>?_) λb hb hq=>hb hq.of
   rw[bA]
   .exact hb
   .intro z;subst z;rcases hp with hp|hp
    .exact hp hOa
    .rw[hua] at hb;cases hb;cases hp
 .obtain⟨hoj,hji⟩:=mK hj;rw[bR,aw λz=>hji z.1.symm];obtain⟨b,ob,h1,h2,h3,h4,h5,h6⟩:=E.own j w hoj hw;subst h1;have hba:b≠a:=λz=>by subst z;exact hji (huq j hoj hw)
  refine⟨b,ob,rfl,?_,h3,by rw[bA hba];exact h4,h5,λk hk hs=>h6 k (mK hk).1 hs⟩;refine(h2.aMu (P':=λc=>c=b) h3 rfl).keep (λc oc hc hp=>?_) λ_ _=>trivial
  rw[bA]
  .exact hc
  .intro z;subst z;rcases hp with hp|hp
   .exact hba hp.symm
   .rw[hua] at hc;cases hc;cases hp
theorem aDb(hx:autoParam (gF own i rtX=aj) Ω)(ho:autoParam (own i=aj) Ω)(h2:PSs X ss (tS own g)):PSs X ss (tL own i (VB i g)):=by
 rintro Ψ s σ H D' I ⟨ρ,fl,E,h,q⟩;unfold VB at h;split at h
 .rename_i xs hxs;obtain⟨a,o,hσ,r,hin,ha,hm⟩:=E.ownAt xH (by rw[hxs];intro z;cases z);rw[hxs] at r;obtain⟨vs,hl,rr⟩:=yR r;obtain⟨o,If⟩:=vC I hl;obtain⟨EF,hna⟩:=aIp E xH hσ hxs hl rr;rw[aA8 ho] at EF hna;have hOa:Own (gF own i) σ a:=⟨i,xH,hσ⟩
  have hx0:own rtX=aj:=by
   cases q:own rtX with
   |false=>rfl
   |true=>rw[oX q] at hx;cases hx
  have kk:∀σ' H',KU own σ (upd H a (.frz o (.lst vs))) σ' H'->KL own i σ H σ' H':=λσ' H' k b ob e n=>k b ob (by rw[bA (λz=>by subst z;exact n hOa)];exact e) λz=>n z.to
  refine h2 Ψ s σ _ D' If ⟨_,fl,EF,h,?_⟩;cases fl with
  |nx ρ=>exact λσ' H' k E'=>q σ' H' (kk σ' H' k) E'
  |bk ρ=>exact λσ' H' k E'=>q σ' H' (kk σ' H' k) E'
  |ct ρ=>exact λσ' H' k E'=>q σ' H' (kk σ' H' k) E'
  |rt d=>
   refine kRt.mk hx0 λv H' hk rv=>kRt.old q hx v H' (λb ob hb hn=>hk b ob ?_ λz=>hn z.to) (rv.mono λb hb=>?_)
   .rw[bA (λz=>by subst z;exact hn hOa)];exact hb
   .rcases hb with hb|hb
    .exact .inl hb.to
    .exact .inr (by
      have:b≠a:=λz=>by subst z;rw[aM] at hb;cases hb
      rw[bA this] at hb;exact hb)
 .exact bx h
theorem aGz(E:ES own H σ ρ)(ho:own i=aj):ES (gF own i) H (σ.set i ao) (ρ.set i .uD):=by
 have hs:∀j v,(σ.set i ao)[j]?=ae (ae v)->i≠j/\σ[j]?=ae (ae v):=λj v h=>by
  by_cases hij:i=j
  .subst hij;rw[og] at h;split at h
   .split at h<;>cases h
   .exact bg rfl ‹_›
  .rw[eD hij] at h;exact⟨hij,h⟩
 have hO:∀b,Own (gF own i) (σ.set i ao) b↔Own own σ b:=λb=>by
  constructor
  .rintro⟨j,hj,e⟩;obtain⟨h1,h2⟩:=hs j _ e;rcases uE hj with h|h
   .exact⟨j,h,h2⟩
   .exact bg h.symm h1
  .rintro⟨j,hj,e⟩;have hij:i≠j:=λz=>by subst z;rw[ho] at hj;cases hj
   exact⟨j,oX hj,by rw[eD hij];exact e⟩
 have hP:(λa=>¬Own (gF own i) (σ.set i ao) a)=λa=>¬Own own σ a:=funext λa=>by rw[hO]
 refine⟨by simp[E.len],λj hj=>?_,λj w hj hw=>?_⟩
 .rw[bR] at hj ⊢;by_cases h:i=j/\i<ρ.length
  .rw[av h] at hj;exact bg rfl hj
  .rw[aw h] at hj ⊢;obtain⟨w,h1,h2⟩:=E.at_ j hj;have hij:i≠j:=λz=>h ⟨z,by subst z;rw[<-E.len];exact(dz.mp h1).1⟩
   rw[hP];refine⟨w,by rw[eD hij];exact h1,λhj2=>h2 ?_⟩;cases hq:own j with
   |false=>rfl
   |true=>rw[oX hq] at hj2;cases hj2
 .obtain⟨hij,hw⟩:=hs j w hw;rw[bR,aw λz=>hij z.1];have hoj:own j=af:=(uE hj).resolve_right λz=>hij z.symm
  obtain⟨b,ob,h1,h2,h3,h4,h5,h6⟩:=E.own j w hoj hw;refine⟨b,ob,h1,h2,h3,h4,h5,λk hk hs2=>?_⟩;obtain⟨hik,hs3⟩:=hs k _ hs2;exact h6 k ((uE hk).resolve_right λz=>hik z.symm) hs3
theorem aDc{rest:aa bz}(hx0:gF own i rtX=aj)(ho:own i=aj)(hN:X.N.Nodup)(hi:X.N[i]?=ae x)(hx:Loc X.env.scope x)(he:PE X e (gE fe af))(hr:PSs X rest (tL own i g))(hs:autoParam (zSw X e x pos' pos) Ω)(hf:autoParam (zFn X x) Ξ) :
  PSs X (.Assign [.Name x pos'] e pos::rest) (tS own (aOy i fe g)):=PSs.imp (wJ (M9 hN hi hx he hs hf) hr) λD σ H z=>by
 obtain⟨ρ,fl,E,h,q⟩:=z;obtain⟨d,h1,h2⟩:=bF h;split at h2
 .rename_i xs;split at h2
  .rename_i hp;refine⟨ρ,_,E.er,h1,λv H' s r n=>?_⟩;obtain⟨a,ob,rfl,hn,ha,hm⟩:=aIf (n rfl) (show inner (.lst xs)=af from hp);obtain⟨E2,k⟩:=(aGz E ho).aSh s xH hn r (show inner (.lst xs)=af from hp) ha hm;rw[BQ,BQ] at E2;have hO:∀b,Own (gF own i) (σ.set i (ae (.ref a))) b->b=a\/Own own σ b:=λb ⟨j,hj,e⟩=>by
    by_cases hij:i=j
    .subst hij;rw[og] at e;split at e
     .split at e<;>cases e
      exact .inl rfl
     .exact bg rfl ‹_›
    .rw[eD hij] at e;exact .inr ⟨j,(uE hj).resolve_right λz=>hij z.symm,e⟩
   have hx1:own rtX=aj:=by
    cases q:own rtX with
    |false=>rfl
    |true=>rw[oX q] at hx0;cases hx0
   have kk:∀σ' H2,KL own i (σ.set i (ae (.ref a))) H' σ' H2->KU own σ H σ' H2:=λσ' H2 k b o e nn=>k b o (s b o e) λz=>by
    rcases hO b z with z|z
    .subst z;rw[show H b=ao from hn] at e;cases e
    .exact nn z
   refine⟨_,fl,E2,h2,?_⟩;cases fl with
   |nx ρ=>exact λσ' H2 k E'=>q σ' H2 (kk σ' H2 k) E'
   |bk ρ=>exact λσ' H2 k E'=>q σ' H2 (kk σ' H2 k) E'
   |ct ρ=>exact λσ' H2 k E'=>q σ' H2 (kk σ' H2 k) E'
   |rt d=>
    refine kRt.mk hx0 λv H2 hk rv=>kRt.old q hx1 v H2 (λb o e nn=>hk b o (s b o e) λz=>?_) (rv.mono λb hb=>?_)
    .rcases hO b z with z|z
     .subst z;rw[show H b=ao from hn] at e;cases e
     .exact nn z
    .rcases hb with hb|hb
     .rcases hO b hb with z|z
      .subst z;exact .inr hn
      .exact .inl z
     .refine .inr ?_;cases q:H b with
      |none=>rfl
      |some o=>rw[s b o q] at hb;cases hb
  .exact bx h2
 .exact bx h2
theorem YF(ho:own i=af)(hr:PSs X ss (tS (oW own i) g))(hx:autoParam (own rtX=aj) Ω):PSs X ss (tS own (QB i g)):=by
 rintro Ψ s σ H D' I ⟨ρ,fl,E,h,q⟩;unfold QB at h;split at h
 .rename_i xs hxs;obtain⟨r2,h3,h4⟩:=bF h;obtain⟨a,o,hσ,r,hin,ha,hm⟩:=E.ownAt ho (by rw[hxs];intro z;cases z);rw[hxs] at r;obtain⟨vs,hl,rr⟩:=yR r;obtain⟨o,If⟩:=vC I hl;obtain⟨EF,hna⟩:=aIp E ho hσ hxs hl rr;have hOa:Own own σ a:=⟨i,ho,hσ⟩
  refine hr Ψ s σ _ D' If ⟨_,r2,EF,h3,?_⟩;cases r2 with
  |rt d2=>
   cases h4;refine kRt.mk (by cases q:oW own i rtX with|false=>rfl|true=>have:=(mK q).1;rw[hx] at this;cases this) λv H' hk rv=>kRt.old q hx v H' (λb ob hb hn=>hk b ob ?_ λz=>hn z.of) (rv.mono λb hb=>?_)
   .rw[bA (λz=>by subst z;exact hn hOa)];exact hb
   .rcases hb with hb|hb
    .exact .inl hb.of
    .exact .inr (by
      have:b≠a:=λz=>by subst z;rw[aM] at hb;cases hb
      rw[bA this] at hb;exact hb)
  |_=>exact bx h4
 .exact bx h
theorem aL4:MtM X "list.extend" (λx vs H Q=>∃l b xs zs,x=.ref l/\vs=[.ref b]/\H l=ae (.lst xs)/\SqL X.K H b zs/\xs.length+zs.length<=bp/\Q .non (upd H l (.lst (xs++zs)))):=by
 intro Ψ s σ H x vs v us Q I rx rv h;obtain⟨l,b,xs,zs,rfl,rfl,hH,hB,hz,q⟩:=h;cases rx;obtain⟨u,rfl,ru⟩:=rv.one;cases ru;obtain⟨z,its,n,r,hl,e⟩:=I.aMq hH;obtain⟨its2,r2,⟨o2,n2,e2,c2,d2,t2⟩,_⟩:=I.list hB;obtain⟨oc2,od2,ot2,os2⟩:=o2;dsimp only at c2 d2 t2;subst c2 d2 t2;have z2:=r2.length;have hsz:its.toArray.size+its2.toArray.size<=bp:=by rw[cg,cg];lia
 have hlong:¬(!its.toArray.isEmpty&&nq (its.toArray.size+its2.toArray.size))=af:=by
  rw[WW hsz,lz];exact mT
 refine jI qu ⟨_,e,rfl⟩ yt (yu _ _) (aL3 l its.toArray n b its2.toArray n2 os2 hlong (by rw[cg];lia) 0x1) ⟨e,e2,?_⟩;refine⟨.non,_,I.aNu hH e 0x2 (r.append r2) ?_,rfl,q⟩;rw[cb];lia
theorem aL5(hK:KFrag.K=X.K)(ho:own i=af)(hN:X.N[i]?=ae x)(hv:Vis X.env.scope x)(he:PE X e (gE fe re))(hd:autoParam (nDb x) Λ)(hcd:autoParam (nCd x) Λ)
 (hbase:autoParam (jz (.Name x p1) "extend" X.env (cK (.Name x p1) X.env)=cK (.Name x p1) X.env) Ω)
 (hs1:autoParam (zSE X e []) Ω)
 (hfew:autoParam (zFw X cpos [e]) Ω)
 (hline:autoParam ((apos.endLine==cpos.line)=af) Ω)
 (hs:autoParam (fi (.Call (.Attribute (.Name x p1) "extend" apos) [e] [] cpos) ao pos.line X.env=pure aj) Ω) :
  PS X (.Expr (.Call (.Attribute (.Name x p1) "extend" apos) [e] [] cpos) pos) (tS own (aD9 i fe)):=
 PS.imp (xR (aBb mw qu Bg aL4 (j_ hN hv hd hcd) (kI he rF hs1) hbase hfew hline hs1 rfl) hs) λD' σ H z0=>by
 obtain⟨ρ,fl,E,h,q⟩:=z0;obtain⟨d,h1,h2⟩:=bF h;split at h2
 .rename_i xs ys hx;split at h2
  .rename_i hk;cases h2;rw[bn,em] at hk;obtain⟨a,o,hσ,r,hin,ha,hm⟩:=E.ownAt ho (by rw[hx];intro z;cases z);rw[hx] at r hin;obtain⟨vs,hl,rr⟩:=yR r;refine⟨_,hσ,.inl ⟨rfl,vs,.of hl⟩,ρ,_,E.er,h1,λv H' s rv _=>?_⟩;obtain⟨b,zs,rfl,hb,rz⟩:=rv.inv;have E':=E.same s;have hl':=s _ _ hl;refine⟨a,b,vs,zs,rfl,rfl,hl',hb.sq hK,by rw[rr.length,rz.length];exact du hk.1 (by rw[e8];decide),?_⟩;have hp:θ (xs++ys)=af:=by rw[oR,bn];exact⟨hin,hk.2⟩
   obtain⟨E2,k2⟩:=E'.mut ho hσ rfl (.lst aM trivial (((rr.same s).append rz).upd hp hl' rfl)) hp;exact q _ _ ((KU.same s).trans k2) E2
  .exact bx h2
 .exact bx h2
theorem aDd(hc:X.calm=af):lW X (.type "list") (λvs H Q=>∃r m n,vs=[.ref r]/\H r=ae (.rng m n)/\-1000000<=m/\m<=1000000/\-1000000<=n/\n<=1000000/\∀q,H q=ao->Q (.ref q) (upd H q (.lst ((bh (n-m).toNat).map λ(k:ai)=>V.int (m+k))))):=by
 rintro Ψ s σ H vs us Q I vr ⟨r,m,n,e,er,h0,h00,h1,h2,q⟩;subst e;cases vr with
 |cons r1 vr=>
  cases vr;cases r1;obtain⟨t,u,v,hr⟩:=I.hok r _ er;have hn:tP m n 1=((n-m).toNat:ag):=by rw[tT];split<;>lia
  refine Be (I.ok.hd hc) hr (tJ 0x1 0x1 0x1 0x1) hn 0x1 λh' tk acc' c' hk hS' hacc=>?_
  have hfr:H s.heap.objs.size=ao:=I.hok.fresh (bi _);refine⟨.ref s.heap.objs.size,_,I.laid hk (bi _) ?_,rfl,q _ hfr⟩;refine⟨by rw[aI,fR,e8];lia,acc'.toList,c',FQ _ (λk=>(m+k:ag)) _ (by simp[hacc.1]) λj v hj=>?_,by simpa using hS'⟩;obtain⟨t,ht⟩:=hacc.2 j v (by simpa using hj);exact⟨t,by rw[ht];congr 1;lia⟩
def vD:∀(l:aa ai),bN P H (l.map λ(k:ai)=>V.int (m+k)) (l.map λ(k:ai)=>δ (m+k))
 |[]=>.nil
 |n::l=>.cons (.int _) (vD l)
theorem aDe(hc:X.calm=af)(hg:Gl X "list")(hm:X.mg "list"=ao)(hg2:Gl X "range")(hm2:X.mg "range"=ao)(ha:PA X [a,b] (gA fs rr))(hs:autoParam (dQ [a,b] X.env=[(aj,cK a X.env),(aj,cK b X.env)]) Ω)(hs2:autoParam (dQ [b] X.env=[(aj,cK b X.env)]) Ω) :
  PE X (.Call (.Name "list" p) [.Call (.Name "range" p2) [a,b] [] pos2] [] pos) (gE (aP JV fs) af):=by
 have hr:PE X (.Call (.Name "range" p2) [a,b] [] pos2) (λσ H Q=>∃ρ m n,ER H σ ρ/\fs ρ=.ok [.int m,.int n]/\∀H1 r,cD H H1->H1 r=ao->Q (.ref r) (upd H1 r (.rng m n))):=by
  rintro Ψ s σ H Q I ⟨ρ,m,n,E,h1,q⟩;refine kC (vP I hg2 hm2 t0 ?_);refine ng (thn (ha pos2 Ψ s σ H (λvs H1=>cD H H1/\vs=[.int m,.int n]) I ⟨ρ,_,E,h1,λvs H1 s1 r1 _=>⟨s1,?_⟩⟩) λus s1 ⟨vs,H1,I1,r1,sm,e⟩=>?_) (by rw[hs,hs2]) (by rw[hs2];rfl)
  .cases r1 with
   |cons r t=>cases t with|cons r' t=>cases t;cases r.inv;cases r'.inv;rfl
  .subst e;cases r1 with
   |cons r t=>
    cases t with
    |cons r' t=>
     cases t;obtain⟨t,rfl⟩:=r;obtain⟨t',rfl⟩:=r';have hfr:H1 s1.heap.objs.size=ao:=I1.hok.fresh (bi _);exact call_range_2 ⟨.ref s1.heap.objs.size,_,I1.laid (o:=.rng m n) (λb o e=>cx _ e) (bi _) ⟨_,_,_,dt _ rfl⟩,rfl,q H1 _ sm hfr⟩
 refine PE.imp (xV (aDd hc) hg hm yU (kI hr rF)) λσ H Q ⟨ρ,d,E,h,q⟩=>?_
 obtain⟨xs,h1,h2⟩:=bF h;unfold JV at h2;split at h2
 .rename_i m n;split at h2
  .rename_i hb;simp only[bn,em] at hb;obtain⟨⟨⟨b1,b2⟩,b3⟩,b4⟩:=hb;cases h2;refine⟨ρ,m,n,E,h1,λH1 r s1 hr=>⟨r,m,n,rfl,aM,b1,b2,b3,b4,λq' hq'=>?_⟩⟩;have s2:=cD.upd (o:=.rng m n) hr;have s3:=cD.upd (o:=.lst ((bh (n-m).toNat).map λ(k:ai)=>V.int (m+k))) hq';exact q _ _ ((s1.trans s2).trans s3) (.lst aM trivial (vD _)) λ_=>.lst aM ((s1.trans s2).free hq') (vD _)
  .exact bx h2
 .exact bx h2
variable {k1 v1 k2 v2:Expr} {g1 h1 g2 h2:FE}
theorem aL6{r1 r2 r3 r4:ax}(hk1:PE X k1 (gE g1 r1))(hv1:PE X v1 (gE h1 r2))(hk2:PE X k2 (gE g2 r3))(hv2:PE X v2 (gE h2 r4)):PE X (.Dict [ae k1,ae k2] [v1,v2] pos) (gE (aOz g1 h1 g2 h2) af):=
 PE.imp (aBj (G7 hk1 hv1 (G7 hk2 hv2 aBi)) rfl rfl 0x2 (sC rfl)) λσ H Q z0=>by
 obtain⟨ρ,d,E,h,q⟩:=z0;obtain⟨a1,e1,hA⟩:=bF h;obtain⟨a2,e2,hB⟩:=bF hA;obtain⟨a3,e3,hC⟩:=bF hB;obtain⟨a4,e4,hD⟩:=bF hC;clear h hA hB hC;unfold aSm at hD;split at hD
 .rename_i x i y j;cases hD;intro p hp;have s0:cD H (upd H p (.dK [])):=cD.upd hp;refine⟨ρ,_,E.same s0,e1,λw1 H1 s1 q1 _=>?_⟩;cases q1.inv;refine⟨ρ,_,(E.same s0).same s1,e2,λw2 H2 s2 q2 _=>?_⟩;cases q2.inv;refine⟨ρ,_,((E.same s0).same s1).same s2,e3,λw3 H3 s3 q3 _=>?_⟩;cases q3.inv;refine⟨ρ,_,(((E.same s0).same s1).same s2).same s3,e4,λw4 H4 s4 q4 _=>?_⟩;cases q4.inv;have sm:cD (upd H p (.dK [])) H4:=((s1.trans s2).trans s3).trans s4;refine⟨sm _ _ aM,[(.inl x,.int i),(.inl y,.int j)],rfl,sC rfl,?_⟩;have sf:cD H (upd H4 p (.dK (gQ [] [(fS x,V.int i),(fS y,V.int j)]))):=λb o e=>by
   rw[bA (eG e hp)];exact sm b o (s0 b o e)
  have rk:∀P:aq->Prop,lZ P (upd H4 p (.dK (gQ [] [(fS x,V.int i),(fS y,V.int j)]))) (putK [(fS x,V.int i)] (fS y) (V.int j)) (putD [(.int x,.int i)] (.int y) (.int j)):=λP=>wZ (.int j) (.cons (.int i) .nil) 0x2
  have nd:((putK [(fS x,V.int i)] (fS y:Key) (V.int j)).map (·.1)).Nodup:=mG 0x2;exact q _ _ sf (.dK aM trivial (rk All) nd) λ_=>.dK aM hp (rk _) nd
 .exact bx hD
end
end
def y_:D->Res D
 |.tup xs=>match mL xs with
  |some ps=>if ϒ (xs.length<=1000) then .ok (.dct (bT [] ps)) else .bad
  |none=>.bad
 |_=>.bad
section
variable [KFrag]
def aA9{X:Cx}{e:Expr}{fe:FE}{re:ax}{p pos:de}(hc:X.calm=af)(hg:Gl X "dict")(hm:X.mg "dict"=ao)(he:PE X e (gE fe re))(hs:autoParam (dQ [e] X.env=[(aj,cK e X.env)]) Ω) :
  PE X (.Call (.Name "dict" p) [e] [] pos) (gE (b1 y_ fe) af):=by
 refine aIo (λd0 d h=>?_) hc hg hm he hs;unfold y_ at h
 repeat' split at h
 .rename_i h1 h2;exact⟨_,_,.inr rfl,h1,fq h2,(Res.ok.inj h).symm⟩
 all_goals exact bx h
end
open PySem.W
def JX:aa D->Res D
 |[.tup xs]=>if bG xs then .ok (.lst (h_ xs)) else .bad
 |ds=>gB ds
variable [KFrag]
def aAa(hK:KFrag.K=X.K)(hu:X.A.units+20<bE):lW X (.builtin "sorted") (rs JX af):=by
 rintro Ψ s σ H xs us Q I vr ⟨ds,d,r,e,k⟩;unfold JX at e;split at e
 .rename_i ys;split at e
  .rename_i hl;cases e;obtain⟨vv,uu,rfl,rfl,r,v⟩:=mD r vr;cases r with
   |tup e rr=>
    cases v;obtain⟨its,vr,o,ho,hc',n,hd⟩:=gR I e;have hz:=I.hok _ _ e;refine mZ hK I hu vr (by rw[<-vr.length];exact hz.1) rr hl (λQ' E' h=>aKq ho hc' hd (by rw[cg,<-vr.length];exact hz.1) λh1 tk kp sz=>by simpa using h h1 tk kp sz) λp xs' hp r'=>?_
    have sp:cD H (upd H p (.lst xs')):=cD.upd hp;exact k _ _ sp (.lst aM trivial (r'.same sp)) λ_=>.lst aM hp ((r'.bZ (sJ hl)).same sp)
  .exact bx e
 .exact iC hK hu Ψ s σ H xs us Q I vr ⟨_,d,r,e,k⟩
end Mi
section
local macro_rules | `(tactic| trivial) => `(tactic| first | exact Or.inl rfl | exact Or.inr rfl | exact Or.inr (Or.inl rfl) | exact Or.inr (Or.inr rfl))
namespace Lk13
open PySem L2 Mi PySem.W
local macro_rules|`(0xb)=>`(aB aA aG)
noncomputable def top(i:ai):bz:=PySem.Challenge.pw_hookmill_k13_told_of_renumbered.main.body.getD i (.Pass ⟨0,0,0,0⟩)
abbrev lU:bz:=top 17
noncomputable def BZ:ai->ax:=λi=>aj
def gG:FS:=bM (sIf (bTB (b2 (dC (.ord .lt)) fW (aP fV (aD dG aX)))) (lC (b2 getD dG fW) aj) n8) (lC fU af)
def cJ:aa D->Res D:=fnS 2 2 gG
abbrev oY:bz:=top 18
noncomputable def QC:ai->ax:=λi=>i==5
def aH0:FS:=bM (cH aj 9 (b2 (bL .mul) (b2 (bL .mod) (b2 (bL .fdiv) dG (bC (.int 64))) tM) (b2 (bL .add) uQ tM)) af) (bM (sIf (bTB (b2 (dC .eq) uQ gD)) (cH aj 9 gK af) n8) (cH aj 7 (b2 (bL .add) vU (b2 getD g_ (b2 (bL .mod) (b2 (bL .add) (b2 (bL .fdiv) (b2 (bL .fdiv) dG aBs) (b2 (bL .add) (b2 (bL .mul) uQ uQ) gK)) (b2 (bL .mul) mX BV)) aJz))) af))
def aP0:FS:=bM (cH aj 7 (bC (.str "")) af) (bM (vV (mY (aD j8 aX) lY) (tg1 8) aH0) (M8 5 vU (b2 getD (BW (aD (b2 (bL .add) tM (b2 (bL .mod) fW aFo)) (aD (b2 (bL .add) tM (b2 (bL .mod) fW aFo)) (aD (b2 (bL .mod) (b2 (bL .fdiv) fW aFo) aQd) (aD (b2 (bL .mod) (b2 (bL .fdiv) fW aFo) aQd) (aD fU aX)))))) mX)))
def oZ:FS:=bM (cH aj 2 (bC (.str "abcdefghijklmnopqrstuvwxyz")) af) (bM (cH aj 3 (b2 (bL .add) gK (b2 (bL .mod) dG W5)) af) (bM (cH aj 4 (b2 (bL .mod) (b2 (bL .fdiv) dG W5) j8) af) (bM (cH af 5 (bC (.dct [])) af) (bM (vV (mY (aD aFo aX) lY) (tg1 6) aP0) (HS 5)))))
def jN:aa D->Res D:=fnS 2 10 oZ
abbrev kY:bz:=top 20
noncomputable def zA:ai->ax:=λi=>i==2
def rb1:FS:=aQf 2 (b2 (bL .mod) (b2 (bL .add) (b2 (bL .fdiv) fW (b2 (bL .add) j8 gK)) (b2 (bL .mul) j8 j8)) (b2 (bL .add) j8 gK)) (b2 getD dG j8)
def kZ:FS:=bM (cH af 2 (BW aX) af) (bM (vV (mY (aD (aP fV (aD dG aX)) aX) lY) (tg1 3) rb1) (HS 2))
def cR:aa D->Res D:=fnS 2 4 kZ
abbrev m_:bz:=top 21
noncomputable def JZ:ai->ax:=λi=>i==4
def rb3:FS:=bM (cH aj 6 (aI6 j8 (O3 (b2 (bL .add) (aP fV (aD dG aX)) (b2 (bL .mul) tM fZ))) (O3 (b2 (bL .add) (b2 (bL .add) (aP fV (aD dG aX)) (b2 (bL .mul) tM fZ)) tM))) af) (wN 4 (iT (aD (iT (aD fU (aD (aP (dX .lt) (aD mX aX)) aX))) (aD (iT (aD fU (aD (aP (dX .gt) (aD mX aX)) aX))) aX))))
def rb2:FS:=wN 4 (iT (aD (iT (aD fU (aD (b2 getD j8 fZ) aX))) (aD (b2 getD dG fZ) aX)))
def nA:FS:=bM (cH aj 3 (aP (b_ 2 cR) (aD (aP X7 (aD (b2 (bL .add) (aP fV (aD dG aX)) (b2 (bL .mul) tM fW)) aX)) (aD g_ aX))) af) (bM (cH af 4 (BW aX) af) (bM (vV (mY (aD (aP fV (aD dG aX)) aX) lY) (tg1 5) rb2) (bM (vV (mY (aD fW aX) lY) (tg1 5) rb3) (HS 4))))
def iH:aa D->Res D:=fnS 3 7 nA
abbrev nC:bz:=top 22
noncomputable def J1:ai->ax:=λi=>i==3
def aP1:FS:=bM (wN 3 (iT (aD (aP (dX .lt) (aD (b2 getD dG fU) (aD (b2 getD dG gK) aX))) (aD (aP (dX .gt) (aD (b2 getD dG fU) (aD (b2 getD dG gK) aX))) aX)))) (cH aj 0 (aI6 dG (O3 tM) aO4) af)
def aL7:FT:=bTB (b2 (dC (.ord .gt)) (aP fV (aD dG aX)) gK)
def nD:FS:=bM (cH af 3 (BW aX) af) (bM (sIf (bTB (b2 (dC (.ord .gt)) (b2 (bL .mod) g_ aQe) fU)) (bM (cH aj 0 (aP (b_ 2 cR) (aD dG (aD (b2 (bL .fdiv) g_ aQe) aX))) af) (aMw aL7 aP1)) n8) (lC (b2 (bL .add) j8 (aP (b_ 3 iH) (aD dG (aD fW (aD g_ aX))))) af))
def iI:aa D->Res D:=fnS 3 4 nD
abbrev nF:bz:=top 19
noncomputable def VD:ai->ax:=λi=>aj
def sZ:FS:=bM (cH aj 2 (b2 getD dG (b2 (bL .mod) fW (aP fV (aD dG aX)))) aj) (bM (cH aj 3 (fJ 5 (dN dG aj) HR (bTB (b2 (dC .ne) fZ g_)) fZ aj) af) (bM (cH aj 4 (b2 getD j8 (b2 (bL .mod) (b2 (bL .fdiv) fW (aP fV (aD dG aX))) (aP fV (aD j8 aX)))) aj) (lC (iT (aD (aP (dX .lt) (aD g_ (aD gD aX))) (aD (aP (dX .gt) (aD g_ (aD gD aX))) aX))) aj)))
def gP:aa D->Res D:=fnS 2 5 sZ
abbrev gU:bz:=top 23
noncomputable def QD:ai->ax:=λi=>i==4||i==6
def gbr:FS:=sIf (aBu (bTB (b2 (dC (.ord .lt)) (b2 (bL .mod) BV W5) aBt)) (bTB (b2 (dC (.ord .lt)) (aP fV (aD gD aX)) aG7))) (bM (cH aj 12 (b2 getD j8 (b2 (bL .mod) rW (aP fV (aD j8 aX)))) aj) (bM (wN 4 (iT (aD (b2 (bL .add) (aP fV (aD gD aX)) gK) (aD rY aX)))) (cH aj 5 (b2 (bL .add) fZ (fJ 13 (mY (aD (b2 (bL .add) (b2 getD dG rY) gK) aX) lY) HR iU (iT (aD (aP fV (aD gD aX)) (aD rZ aX))) aj)) af))) (sIf (aBu (bTB (bCh (dC (.ord .le)) (dC (.ord .lt)) aBt (b2 (bL .mod) BV W5) aR6)) (bTB (b2 (dC (.ord .gt)) (aP fV (aD O2 aX)) gK))) (bM (wN 6 (aP (b_ 2 gP) (aD O2 (aD rW aX)))) (cH aj 5 (fJ 13 (dN fZ aj) HR (bTB (b2 (dC .rE) rZ (b2 getD mX (b1 aR8 gK)))) rZ aj) af)) (sIf (bTB (b2 (dC .eq) (b2 (bL .mod) BV W5) aR6)) (cH aj 7 (b2 (bL .add) vU gK) af) (sIf (bTB (b2 (dC .eq) (b2 (bL .mod) BV W5) aQd)) (cH aj 8 (b2 (bL .add) uQ (b2 (bL .mod) rW (b2 (bL .pow) aG7 (bC (.int 50))))) af) n8)))
def aAb:FS:=bM (cH aj 10 (b2 (bL .fdiv) BV W5) af) (bM (sAl 11 5) (bM (sIf (bTB (b2 (dC .eq) (b2 (bL .mod) BV W5) aFo)) (cH aj 11 (fJ 13 (dN fZ aj) HR (bTB (b2 (dC .eq) (b2 getD rZ gK) fU)) rZ aj) af) n8) gbr))
def o6:FS:=bM (cH aj 3 (aP T7 (aD dG aX)) af) (bM (cH af 4 (BW aX) af) (bM (cH aj 5 (BW aX) af) (bM (cH af 6 (BW aX) af) (bM (cH aj 7 fU af) (bM (cH aj 8 fU af) (bM (Z6 1 (tg1 9) aAb) (bM (cH af 6 (b2 (bL .add) mX (aP (b_ 3 iI) (aD fZ (aD vU (aD g_ aX))))) af) (lC (iT (aD (aP oJ (aD gD aX)) (aD (aP oJ (aD (aP gB (aD mX aX)) aX)) (aD uQ aX)))) aj))))))))
def lJ:aa D->Res D:=fnS 3 13 o6
abbrev jF:bz:=top 27
noncomputable def B_:ai->ax:=λi=>i==3
def cbd:FS:=bM (cH aj 4 (iT (aD (b2 getD fW (b2 getD gD fU)) (aD (b2 getD gD gK) aX))) aj) (bM (cH aj 5 (iT (aD (b2 getD fW (b2 getD fZ fU)) (aD (b2 getD fZ gK) aX))) aj) (wN 3 (iT (aD (aP (dX .lt) (aD gD (aD fZ aX))) (aD (aP (dX .gt) (aD gD (aD fZ aX))) aX)))))
def CG:FS:=bM (cH aj 2 (aP gB (aD (fJ 6 (dN (b2 getD dG fU) aj) (O4 2) iU (iT (aD (b2 getD fW mX) (aD vU aX))) aj) aX)) af) (bM (cH af 3 (BW aX) af) (bM (vV (dN (b2 getD dG gK) aj) (tgN [4,5]) cbd) (lC (iT (aD (aP oJ (aD g_ aX)) (aD (aP oJ (aD (aP gB (aD j8 aX)) aX)) (aD (b2 getD dG tM) aX)))) aj)))
def eY:aa D->Res D:=fnS 2 6 CG
abbrev o7:bz:=top 29
noncomputable def QF:ai->ax:=λi=>i==3||i==6
def fb1:FS:=bM (cH aj 4 (b2 (bL .add) (b2 (bL .add) gD gK) (b2 (bL .mod) (b2 (bL .fdiv) fW (b2 (bL .add) fZ gK)) (b2 getD (BW (aD tM (aD (b2 (bL .pow) aG7 (bC (.int 50))) aX))) (b2 (bL .mod) fW tM)))) af) (wN 3 gD)
def fb2:FS:=M8 6 (b2 getD (b2 getD (b2 getD dG fU) fZ) fU) (b2 getD j8 fZ)
def QG:FS:=bM (cH af 3 (BW aX) af) (bM (cH aj 4 fU af) (bM (vV (mY (aD (aP fV (aD (b2 getD dG fU) aX)) aX) lY) (tg1 5) fb1) (bM (cH af 3 (aP (b_ 2 cR) (aD j8 (aD g_ aX))) af) (bM (cH af 6 (b2 aD1 fU fU) af) (bM (vV (mY (aD (aP fV (aD (b2 getD dG fU) aX)) aX) lY) (tg1 5) fb2) (lC (aP (b_ 2 eY) (aD dG (aD mX aX))) af))))))
def jO:aa D->Res D:=fnS 3 7 QG
abbrev qX:bz:=top 2
noncomputable def aAc:ai->ax:=λi=>aj
def aAd:FS:=bM (cH aj 3 (fJ 4 (dN fW aj) (O4 2) iU (iT (aD (aP (dX .lt) (aD gD (aD fZ aX))) (aD (aP (dX .gt) (aD gD (aD fZ aX))) aX))) aj) af) (lC (iT (aD (aP oJ (aD (aP gB (aD dG aX)) aX)) (aD (aP oJ (aD (aP gB (aD j8 aX)) aX)) (aD g_ aX)))) aj)
def qY:aa D->Res D:=fnS 3 4 aAd
abbrev jP:bz:=top 11
noncomputable def QH:ai->ax:=λi=>i==2
def QJ:FS:=bM (cH af 2 (b1 F_ fW) af) (bM (M8 2 fU fU) (bM (cH aj 3 (fJ 5 (dN (b2 getD dG fU) aj) (O4 2) iU (iT (aD (b2 getD g_ fZ) (aD mX aX))) aj) af) (bM (cH aj 4 (fJ 5 (dN (b2 getD dG gK) aj) (O4 2) iU (iT (aD (iT (aD (b2 getD g_ (b2 getD fZ fU)) (aD (b2 getD fZ gK) aX))) (aD (iT (aD (b2 getD g_ (b2 getD mX fU)) (aD (b2 getD mX gK) aX))) aX))) aj) af) (lC (aP (b_ 3 qY) (aD j8 (aD gD (aD (b2 getD dG tM) aX)))) af))))
def dH:aa D->Res D:=fnS 2 5 QJ
abbrev vG:bz:=top 1
noncomputable def aAe:ai->ax:=λi=>i==1
def aP2:FS:=bM (M8 1 g_ j8) (M8 1 j8 g_)
def aAf:FS:=bM (cH af 1 (bC (.dct [])) af) (bM (vV (dN (b2 getD dG gK) aj) (tgN [2,3]) aP2) (HS 1))
def qZ:aa D->Res D:=fnS 1 4 aAf
abbrev nG:bz:=top 12
noncomputable def J2:ai->ax:=λi=>i==2
def aP3:FT:=bTB (b2 (dC .isin) (iT (aD j8 (aD (aP fV (aD fZ aX)) aX))) fW)
def aP4:FS:=wN 5 (b2 getD fW (iT (aD j8 (aD (aP fV (aD fZ aX)) aX))))
def aP5:FS:=aOy 5 (BW aX) (JT (aMw aP3 aP4) (VB 5 (M8 2 j8 fZ)))
def J3:FS:=bM (cH aj 1 (aP (b_ 1 qZ) (aD dG aX)) af) (bM (cH af 2 (bC (.dct [])) af) (bM (vV (dN (b2 getD dG fU) aj) (tgN [3,4]) aP5) (HS 2)))
def iJ:aa D->Res D:=fnS 1 6 J3
abbrev nH:bz:=top 14
noncomputable def VF:ai->ax:=λi=>i==2
def stb:FS:=aQg 2 (fJ 4 (aMx (b2 getD dG j8)) HR (bTB (b2 (dC .eq) (b2 getD gD fU) fU)) (iT (aD (b2 getD gD gK) (aD j8 aX))) aj)
def VG:FS:=bM (cH af 2 (BW aX) af) (bM (aD4 1 (tg1 3) stb) (bM (sIf (bTr g_) (lC (bFz (JQ (aD (b2 getD (aP (dX .lt) (aD g_ aX)) gK) aX))) af) n8) (lC fW aj)))
def k_:aa D->Res D:=fnS 2 4 VG
abbrev tB:bz:=top 15
noncomputable def VH:ai->ax:=λi=>i==4||i==5||i==6
def aP6:FE:=b2 getD (b2 getD j8 fU) (aP fV (aD mX aX))
def aQh:FS:=sIf (aBu (bTr vU) (bTB (b2 (dC .ne) BV aP6))) (bM (sIf (bTB (b2 (dC (.ord .gt)) BV aP6)) (lC (bC .non) af) n8) (cH aj 7 (bC (.bl aj)) af)) n8
def wib:FS:=bM (sIf (bTB (b2 (dC .rE) rW fZ)) (bM (wN 4 rW) (M8 5 rW (aP fV (aD gD aX)))) n8) (bM (wN 9 (b2 getD fZ rW)) (wN 9 O2))
def J4:FS:=bM (cH aj 8 (b2 getD gD (aP fV (aD mX aX))) aj) (aOy 9 (JQ (aD (b2 getD dG uQ) aX)) (JT (vV (aMx (b2 getD fW uQ)) (tgN [10,11]) wib) (JT aQh (VB 9 (wN 6 BV)))))
def VJ:FT:=bTB (b2 (dC (.ord .lt)) (aP fV (aD mX aX)) (aP fV (aD gD aX)))
def VL:FS:=bM (cH af 4 (JQ (aD g_ aX)) af) (bM (cH af 5 (aOz fU fU g_ gK) af) (bM (cH af 6 (BW aX) af) (bM (cH aj 7 (b2 (dC .notN) j8 (bC .non)) af) (bM (aMw VJ J4) (QB 6 (QB 4 (lC (iT (aD mX (aD gD aX))) aj)))))))
def fO:aa D->Res D:=fnS 4 12 VL
abbrev o8:bz:=top 13
noncomputable def QK:ai->ax:=λi=>aj
def fwb:FS:=bM (cH aj 5 (aP (b_ 4 fO) (aD dG (aD fW (aD gD (aD j8 aX))))) af) (sIf (bTB (b2 (dC .notN) fZ (bC .non))) (sAl 3 5) n8)
def QL:FS:=bM (cH aj 3 (bC .non) af) (bM (vV (aMx (aP (b_ 2 k_) (aD fW (aD g_ aX)))) (tg1 4) fwb) (lC j8 aj))
def cU:aa D->Res D:=fnS 3 6 QL
abbrev o9:bz:=top 5
noncomputable def QM:ai->ax:=λi=>i==1
def aP7:FS:=sIf (bTB (b2 (dC .ne) (b2 getD gD fU) fU)) (bM (aCt 1 (b2 getD gD fU) (b2 getD fZ fU)) (aCt 1 (b2 getD fZ fU) (b2 getD gD fU))) n8
def o_:FS:=bM (aSk 1 (.dct [])) (bM (vV (dN (b2 getD dG fU) aj) (tgN [2,3]) (aD3 1 g_)) (bM (vV (dN (b2 getD dG gK) aj) (tgN [4,5]) aP7) (HS 1)))
def lK:aa D->Res D:=fnS 1 6 o_
abbrev iK:bz:=top 6
noncomputable def uF:ai->ax:=λi=>i==2||i==3
def hbody:FS:=sIf (bTB (b2 (dC .rE) fZ g_)) (bM (M8 2 fZ (bC (.bl af))) (wN 3 fZ)) n8
def hloop:FS:=bM (aKn 3 4) (YB 0 gD (tg1 5) hbody)
def iM:FS:=bM (cH af 2 (b2 aD1 fW (bC (.bl af))) af) (bM (cH af 3 (JQ (aD fW aX)) af) (bM (aMw (bTr j8) hloop) (lC (aP sortedK (aD g_ aX)) af)))
def dB:aa D->Res D:=fnS 2 6 iM
abbrev VM:bz:=top 4
noncomputable def aL8:ai->ax:=λi=>i==2||i==3
def aP8:FS:=sIf (bTB (b2 (dC .rE) gD g_)) (bM (cH aj 6 (bFz (aP (b_ 2 dB) (aD fW (aD gD aX)))) af) (bM (aD4 6 (tg1 7) (M8 2 vU (bC (.bl af)))) (wN 3 mX))) n8
def aL9:FS:=bM (cH aj 1 (aP (b_ 1 lK) (aD dG aX)) af) (bM (cH af 2 (bC (.dct [])) af) (bM (cH af 3 (BW aX) af) (bM (vV (dN (b2 getD dG fU) aj) (tgN [4,5]) aP8) (HS 3))))
def vH:aa D->Res D:=fnS 1 8 aL9
abbrev aDf:bz:=top 9
noncomputable def aRt:ai->ax:=λi=>i==4
def aRu:FS:=bM (cH aj 1 (b1 y_ (b2 getD dG fU)) af) (bM (cH aj 2 (aP (b_ 1 iJ) (aD dG aX)) af) (bM (cH aj 3 (aP gB (aD (fJ 7 (dN (aP (b_ 1 vH) (aD dG aX)) af) HR iU (aP (b_ 3 cU) (aD fW (aD g_ (aD vU aX)))) af) aX)) af) (bM (cH af 4 (BW aX) af) (bM (Z6 3 (tgN [5,6]) (aD9 4 mX)) (lC (aP gB (aD (fJ 7 (aD0 1 gD aj) (O4 2) iU (iT (aD uQ (aD vU aX))) aj) aX)) af)))))
def vI:aa D->Res D:=fnS 1 7 aRu
abbrev aDg:bz:=top 8
noncomputable def aP9:ai->ax:=λi=>aj
def aPa:FS:=lC (aP (b_ 2 dH) (aD dG (aD (aP (b_ 1 vI) (aD dG aX)) aX))) af
def uG:aa D->Res D:=fnS 1 1 aPa
abbrev p_:bz:=top 24
noncomputable def QR:ai->ax:=λi=>i==6||i==7
def wb1:FS:=bM (cH aj 9 (b2 (bL .fdiv) (b2 (bL .fdiv) g_ (bC (.int 16))) (b2 getD (BW (aD gK (aD tM (aD aBt (aD W5 aX))))) (b2 (bL .mod) uQ (b2 (bL .add) gK (b2 (bL .mod) (b2 (bL .fdiv) g_ aBt) aBt))))) af) (bM (wN 6 (iT (aD (b2 (bL .add) fZ uQ) (aD (b2 getD j8 (b2 (bL .mod) BV tM)) aX)))) (bM (cH aj 10 (iT (aD (b2 (bL .add) fZ uQ) (aD gK aX))) af) (bM (cH aj 11 (iT (aD (b2 (bL .add) fZ (b2 (bL .mod) (b2 (bL .add) uQ gK) (b2 (bL .mul) tM gD))) (aD tM aX))) af) (wN 7 (iT (aD (aP (dX .lt) (aD rW (aD O2 aX))) (aD (aP (dX .gt) (aD rW (aD O2 aX))) aX)))))))
def wb3:FS:=sIf (bOr (bTB (b2 (dC (.ord .lt)) rY gK)) (bTB (b2 (dC (.ord .gt)) rY tM))) (wN 7 (iT (aD (iT (aD (b2 (bL .add) fZ uQ) (aD rY aX))) (aD (iT (aD (b2 (bL .add) (b2 (bL .add) fZ gD) uQ) (aD rY aX))) aX)))) n8
def wb2:FS:=vV (mY (aD (b2 (bL .add) (b2 getD fW (b2 getD j8 fU)) gK) aX) lY) (tg1 12) wb3
def QT:FS:=bM (cH aj 3 (aP T7 (aD fW aX)) af) (bM (cH aj 4 (b2 (bL .add) gK (b2 (bL .mod) g_ aBt)) af) (bM (cH aj 5 (b2 (bL .add) (aP fV (aD (b2 getD dG fU) aX)) gK) af) (bM (cH af 6 (BW aX) af) (bM (cH af 7 (BW aX) af) (bM (vV (mY (aD (b2 (bL .mul) tM gD) aX) lY) (tg1 8) wb1) (bM (vV (mY (aD gD aX) lY) (tg1 8) wb2) (lC (iT (aD (b2 aMv (b2 getD dG fU) (aP oJ (aD mX aX))) (aD (aP oJ (aD (aP JX (aD (b2 aMv (b2 getD dG gK) (aP oJ (aD vU aX))) aX)) aX)) (aD (b2 getD dG tM) aX)))) aj)))))))
def gV:aa D->Res D:=fnS 3 13 QT
abbrev qC:bz:=top 26
noncomputable def QV:ai->ax:=λi=>aj
def QW:FS:=lC (HQ (b1 (n6 .int) dG) (aBv (b1 (n6 .bool) dG))) af
def jQ:aa D->Res D:=fnS 1 1 QW
abbrev qD:bz:=top 28
noncomputable def QX:ai->ax:=λi=>i==3
def ldb:FS:=bM (cH aj 5 (b2 getD dG gD) aj) (bM (sIf (bOr (SJ (bTr (b1 (n6 .tuple) fZ))) (bOr (bTB (b2 (dC .ne) (aP fV (aD fZ aX)) tM)) (bOr (SJ (bTr (aP (b_ 1 jQ) (aD (b2 getD fZ fU) aX)))) (SJ (bTr (aP (b_ 1 jQ) (aD (b2 getD fZ gK) aX))))))) (lC (bC (.bl aj)) af) n8) (bM (sIf (bTB (b2 (dC .ne) (b2 getD fZ fU) (b2 getD (b2 getD (b2 getD fW fU) gD) fU))) (lC (bC (.bl aj)) af) n8) (M8 3 (b2 getD fZ fU) (b2 getD fZ gK))))
def QZ:FS:=bM (sIf (bOr (SJ (bTr (b1 (n6 .list) dG))) (bTB (b2 (dC .ne) (aP fV (aD dG aX)) (aP fV (aD (b2 getD fW fU) aX))))) (lC (bC (.bl aj)) af) n8) (bM (cH af 3 (b2 aD1 fU fU) af) (bM (vV (mY (aD (aP fV (aD dG aX)) aX) lY) (tg1 4) ldb) (lC (b2 (dC .eq) (aP (b_ 2 eY) (aD fW (aD j8 aX))) g_) af)))
def eV:aa D->Res D:=fnS 3 6 QZ
abbrev tD:bz:=top 25
noncomputable def zB:ai->ax:=λi=>aj
def nJ(rr:aa D->Res D):FS:=bM (sIf (bTr (b1 (n6 .tuple) fW)) (bM (sIf (bOr (SJ (bTr (b1 (n6 .tuple) dG))) (bTB (b2 (dC .ne) (aP fV (aD dG aX)) (aP fV (aD fW aX))))) (lC (bC (.bl aj)) af) n8) (bM (vV (mY (aD (aP fV (aD fW aX)) aX) lY) (tg1 2) (sIf (SJ (bTr (aP (b_ 2 rr) (aD (b2 getD dG g_) (aD (b2 getD fW g_) aX))))) (lC (bC (.bl aj)) af) n8)) (lC (bC (.bl af)) af))) n8) (bM (sIf (bTr (b1 (n6 .str) fW)) (lC (HQ (b1 (n6 .str) dG) (b2 (dC .eq) dG fW)) af) n8) (lC (HQ (b1 (n6 .int) dG) (HQ (aBv (b1 (n6 .bool) dG)) (b2 (dC .eq) dG fW))) af))
def cC:ai->aa D->Res D
 |0=>fnS 2 3 aSi
 |m+1=>fnS 2 3 (nJ (cC m))
abbrev J5:bz:=top 10
noncomputable def aLa:ai->ax:=λi=>i==4
def aLb:FS:=bM (cH aj 2 (aP (b_ 1 vI) (aD dG aX)) af) (bM (cH aj 3 (aP (b_ 1 vI) (aD fW aX)) af) (bM (sIf (bTB (b2 (dC .ne) (aP (b_ 2 dH) (aD dG (aD g_ aX))) (aP (b_ 2 dH) (aD fW (aD j8 aX))))) (lC (bC .non) af) n8) (bM (cH af 4 (bC (.dct [])) af) (bM (Z6 3 (tgN [5,6]) (M8 4 mX fZ)) (lC (fJ 7 (dN g_ aj) (O4 2) iU (iT (aD vU (aD (b2 getD gD uQ) aX))) aj) af)))))
def qF:aa D->Res D:=fnS 2 7 aLb
abbrev CJ:bz:=top 30
noncomputable def o_law:ai->ax:=λi=>aj
def aLc:FS:=bM (cH aj 5 (aP (b_ 3 jO) (aD gD (aD (aP (b_ 2 cJ) (aD dG (aD tM aX))) (aD (aP (b_ 2 cJ) (aD dG (aD aQe aX))) aX)))) af) (bM (cH aj 6 (aP (b_ 1 uG) (aD gD aX)) af) (bM (sIf (bOr (SJ (bTr (b1 (n6 .tuple) mX))) (bOr (bTB (b2 (dC .ne) (aP fV (aD mX aX)) aQe)) (SJ (bTr (b1 (n6 .tuple) (b2 getD mX fU)))))) (lC (bC (.bl aj)) af) n8) (bM (sIf (bTB (b2 (dC .ne) (fJ 7 (dN (b2 getD mX fU) aj) HR iU (b2 getD vU fU) aj) (aP JV (aD gK (aD (b2 (bL .add) (aP fV (aD (b2 getD gD fU) aX)) gK) aX))))) (lC (bC (.bl aj)) af) n8) (bM (sIf (bOr (SJ (bTr (aP (b_ 2 (cC 6)) (aD (aP (b_ 1 uG) (aD fZ aX)) (aD mX aX))))) (SJ (bTr (aP (b_ 2 (cC 6)) (aD mX (aD (aP (b_ 1 uG) (aD fZ aX)) aX)))))) (lC (bC (.bl aj)) af) n8) (lC (HQ (aP (b_ 3 eV) (aD (aP (b_ 2 qF) (aD gD (aD fZ aX))) (aD gD (aD fZ aX)))) (aP (b_ 3 eV) (aD (aP (b_ 2 qF) (aD fZ (aD gD aX))) (aD fZ (aD gD aX))))) af)))))
def lwh:FS:=sIf (bTB (b2 (dC .eq) (b2 (bL .mod) g_ tM) gK)) (bM (cH aj 4 (aP (b_ 3 gV) (aD gD (aD j8 (aD (b2 (bL .fdiv) g_ aBt) aX)))) af) (sIf (bTB (b2 (dC .eq) (b2 (bL .mod) (b2 (bL .fdiv) g_ tM) tM) gK)) (cH aj 4 (aP (b_ 3 gV) (aD gD (aD j8 (aD (b2 (bL .add) (b2 (bL .fdiv) g_ aBt) (b2 (bL .mul) (b2 (bL .mod) fW tM) (bC (.int 16)))) aX)))) af) n8)) n8
def aRv:FS:=bM (cH aj 1 (aP (b_ 2 cJ) (aD dG (aD fU aX))) af) (bM (cH aj 2 (aP (b_ 2 cJ) (aD dG (aD gK aX))) af) (bM (cH aj 3 (aP (b_ 2 jN) (aD fW (aD g_ aX))) af) (bM (cH aj 4 (aP (b_ 3 lJ) (aD j8 (aD (aI6 dG (O3 tM) (O3 (bC (.int 66)))) (aD (b2 (bL .fdiv) fW tM) aX)))) af) (bM lwh aLc))))
def aAg:aa D->Res D:=fnS 1 7 aRv
noncomputable abbrev CK:aa Str:=["script","k"]
noncomputable abbrev Q3:aa Str:=["cell","sides","letters","size","at","stock","k","name","j","step"]
noncomputable abbrev zE:aa Str:=["some","seed","found","k"]
noncomputable abbrev J6:aa Str:=["loose","bare","seed","spots","ties","k","pair"]
noncomputable abbrev J7:aa Str:=["loose","bare","seed","ties"]
noncomputable abbrev tE:aa Str:=["loose","more","one","rest","other"]
noncomputable abbrev fP:aa Str:=["stock","cells","seed","names","pieces","loose","ties","bare","rings","cell","more","some","name"]
noncomputable abbrev jG:aa Str:=["net","new","pieces","ties","one","other"]
noncomputable abbrev Q4:aa Str:=["net","cell","seed","fresh","last","k","new"]
noncomputable abbrev q_:aa Str:=["pieces","ties","rings","rows"]
noncomputable abbrev fQ:aa Str:=["net","pairs","new","pieces","ties"]
noncomputable abbrev aAh:aa Str:=["net","mates","one","other"]
noncomputable abbrev J8:aa Str:=["net","mates","ends","number","name","around"]
noncomputable abbrev nM:aa Str:=["ends","part","at_rim","number"]
abbrev zF:aa Str:=["names","ends","start","best","order","places","rows","level","number","row","far","hook"]
abbrev vY:aa Str:=["names","ends","part","best","start","walk"]
noncomputable abbrev vZ:aa Str:=["net","beside","number","name","one","other"]
abbrev lM:aa Str:=["beside","start","reached","waiting","current","number"]
noncomputable abbrev aDh:aa Str:=["net","beside","seen","found","number","name","part","member"]
noncomputable abbrev VN:aa Str:=["net","names","ends","walks","order","rows","numbers"]
noncomputable abbrev aIq:aa Str:=["net"]
noncomputable abbrev v7:aa Str:=["net","stock","cell","names","half","first","pieces","ties","k","bits","one","other","hook"]
noncomputable abbrev v8:aa Str:=["found"]
noncomputable abbrev v9:aa Str:=["found","one","other","new","k","pair"]
noncomputable abbrev VP:aa Str:=["found","due","k"]
noncomputable abbrev J9:aa Str:=["one","other","one_way","other_way","back","number","place"]
noncomputable abbrev aLd:aa Str:=["script","seed","cell","stock","net","other","first"]
theorem zG:bQ CK ["script","k"] (aR lU):=0xa
theorem J_:bQ Q3 ["cell","sides"] (aR oY):=0xa
theorem wG:bQ zE ["some","seed"] (aR kY):=0xa
theorem CN:bQ J6 ["loose","bare","seed"] (aR m_):=0xa
theorem CP:bQ J7 ["loose","bare","seed"] (aR nC):=0xa
theorem Q5:bQ tE ["loose","more"] (aR nF):=0xa
theorem KD:bQ fP ["stock","cells","seed"] (aR gU):=0xa
theorem zH:bQ jG ["net","new"] (aR jF):=0xa
theorem KH:bQ Q4 ["net","cell","seed"] (aR o7):=0xa
theorem VR:bQ q_ ["pieces","ties","rings"] (aR qX):=0xa
theorem KJ:bQ fQ ["net","pairs"] (aR jP):=0xa
theorem V2:bQ aAh ["net"] (aR vG):=0xa
theorem CQ:bQ J8 ["net"] (aR nG):=0xa
theorem Q6:bQ nM ["ends","part"] (aR nH):=0xa
theorem Q7:bQ zF ["names","ends","start","best"] (aR tB):=0xa
theorem KN:bQ vY ["names","ends","part"] (aR o8):=0xa
theorem KQ:bQ vZ ["net"] (aR o9):=0xa
theorem tG:bQ lM ["beside","start"] (aR iK):=0xa
theorem aH1:bQ aDh ["net"] (aR VM):=0xa
theorem aPb:bQ VN ["net"] (aR aDf):=0xa
theorem aLe:bQ aIq ["net"] (aR aDg):=0xa
theorem KR:bQ v7 ["net","stock","cell"] (aR p_):=0xa
theorem KY:bQ v8 ["found"] (aR qC):=0xa
theorem KZ:bQ v9 ["found","one","other"] (aR qD):=0xa
theorem Q8:bQ VP ["found","due"] (aR tD):=0xa
theorem aH2:bQ J9 ["one","other"] (aR J5):=0xa
theorem aPc:bQ aLd ["script"] (aR CJ):=0xa
section
variable [KFrag] {P:cy} {w:bS} {K:Frag} {mg:Str->aS ap} {base:br} {fad:aq} {fd:gd} (hK:KFrag.K=K) (B:Bt mg)
include hK B
theorem wH(F:Fun K "_law_cell_at" "_law_cell_at" lU fad fd)(hm:mg "_law_cell_at"=ae (.ref fad)):b8 P w K mg base 1 "_law_cell_at" 2 cJ:=by
 have sc:=zG;have nd:=sc.nd;refine eU F hm (F.binds λ_ _ _ _ _ _ us hl=>by obtain⟨_,_,rfl⟩:=Mi.l2 hl;rfl) sc BZ 0x4 0x4 λcdv A outer s H E hr=>?_
 have hu:=vB hr;exact aF (iD (cY (aA1 hK hu) aA (aV (cM hK) 0x3 B.len cO 0xb) (dD _)) (aN (cZ (bH aA aA))) cN) (aN (cZ aH))
theorem CT(F:Fun K "_law_stock" "_law_stock" oY fad fd)(hm:mg "_law_stock"=ae (.ref fad)):b8 P w K mg base 1 "_law_stock" 2 jN:=by
 have sc:=J_;have nd:=sc.nd;refine eU F hm (F.binds λ_ _ _ _ _ _ us hl=>by obtain⟨_,_,rfl⟩:=Mi.l2 hl;rfl) sc QC 0x4 0x4 λcdv A outer s H E hr=>?_
 have hu:=vB hr;exact aF (cW aI8) (aF (cW (bD cG aH (bD d8 aA aH))) (aF (cW (bD d8 (bD fB aA aH) aA)) (aF (cW (uA)) (aF (iW dq rfl (iZ 0x3 B.range (aB aH aG)) (fM rfl) (aZ sc.nd rfl 0x0) (aF (cW aI8) (aF (iW dq rfl (iZ 0x3 B.range 0xb) (fM rfl) (aZ sc.nd rfl 0x0) (aF (cW (bD rJ (bD d8 (bD fB aA aH) aH) (bD cG aA aH))) (aF (iD (cY (yL hK hu) aA aA (dD _)) (aN (cW aH)) cN) (aN (cW (bD cG aA (bH aA (bD d8 (bD cG (bD fB (bD fB aA aH) (bD cG (bD rJ aA aA) aH)) (bD rJ aA aA)) aH)))))))) (aN (oU hu rfl rfl 0x0 aA (bH (iV (aB (bD cG aH (bD d8 aA aH)) (aB (bD cG aH (bD d8 aA aH)) (aB (bD d8 (bD fB aA aH) aH) (aB (bD d8 (bD fB aA aH) aH) (aB aH aG)))))) aA)))))) (aN (u5 rfl rfl 0x0))))))
theorem jA(F:Fun K "_law_shuffled" "_law_shuffled" kY fad fd)(hm:mg "_law_shuffled"=ae (.ref fad)):b8 P w K mg base 1 "_law_shuffled" 2 cR:=by
 have sc:=wG;have nd:=sc.nd;refine eU F hm (F.binds λ_ _ _ _ _ _ us hl=>by obtain⟨_,_,rfl⟩:=Mi.l2 hl;rfl) sc zA 0x4 0x4 λcdv A outer s H E hr=>?_
 have hu:=vB hr;exact aF (cW (iV aG)) (aF (iW dq rfl (iZ 0x3 B.range (aB (aV (cM hK) 0x3 B.len cO 0xb) aG)) (fM rfl) (aZ sc.nd rfl 0x0) (aN (aOi rfl rfl 0x0 (bD d8 (bD cG (bD fB aA (bD cG aA aH)) (bD rJ aA aA)) (bD cG aA aH)) (bH aA aA)))) (aN (u5 rfl rfl 0x0)))
theorem zJ(p3:b8 P w K mg base 1 "_law_shuffled" 2 cR)(F:Fun K "_law_rimmed" "_law_rimmed" m_ fad fd)(hm:mg "_law_rimmed"=ae (.ref fad)):b8 P w K mg base 2 "_law_rimmed" 3 iH:=by
 have sc:=CN;have nd:=sc.nd;refine eU F hm (F.binds λ_ _ _ _ _ _ us hl=>by obtain⟨_,_,_,rfl⟩:=Mi.l3 hl;rfl) sc JZ 0x4 0x4 λcdv A outer s H E hr=>?_
 have hu:=vB hr;exact aF (cW (aY p3 hr 0x4 0x3 (aB (aGo 0x3 0x3 B.list 0x3 B.range (aB (bD cG (aV (cM hK) 0x3 B.len cO 0xb) (bD rJ aH aA)) aG)) 0xb))) (aF (cW (iV aG)) (aF (iW dq rfl (iZ 0x3 B.range (aB (aV (cM hK) 0x3 B.len cO 0xb) aG)) (fM rfl) (aZ sc.nd rfl 0x0) (aN (jJ rfl rfl 0x0 (cL (aB (cL (aB aH (aB (bH aA aA) aG))) (aB (bH aA aA) aG)))))) (aF (iW dq rfl (iZ 0x3 B.range 0xb) (fM rfl) (aZ sc.nd rfl 0x0) (aF (cW (aKa hK aA (yO (bD cG (aV (cM hK) 0x3 B.len cO 0xb) (bD rJ aH aA))) (yO (bD cG (bD cG (aV (cM hK) 0x3 B.len cO 0xb) (bD rJ aH aA)) aH)))) (aN (jJ rfl rfl 0x0 (cL (aB (cL (aB aH (aB (aV (yP hK hu 0x3) 0x3 B.min yS 0xb) aG))) (aB (cL (aB aH (aB (aV (FJ hK hu 0x3) 0x3 B.max FP 0xb) aG))) aG))))))) (aN (u5 rfl rfl 0x0)))))
theorem zK(p3:b8 P w K mg base 1 "_law_shuffled" 2 cR)(pz:b8 P w K mg base 2 "_law_rimmed" 3 iH)(F:Fun K "_law_closed" "_law_closed" nC fad fd)(hm:mg "_law_closed"=ae (.ref fad)):b8 P w K mg base 3 "_law_closed" 3 iI:=by
 have sc:=CP;have nd:=sc.nd;refine eU F hm (F.binds λ_ _ _ _ _ _ us hl=>by obtain⟨_,_,_,rfl⟩:=Mi.l3 hl;rfl) sc J1 0x4 0x4 λcdv A outer s H E hr=>?_
 have hu:=vB hr;exact aF (cW (iV aG)) (aF (iD (cY (aC9 hK hu) (bD d8 aA aH) aH (dD _)) (aF (cW (aY p3 hr 0x4 0x3 (aB aA (aB (bD fB aA aH) aG)))) (aN (X8 dq (cY (aC9 hK hu) (aV (cM hK) 0x3 B.len cO 0xb) aH (dD _)) (aF (jJ rfl rfl 0x0 (cL (aB (aV (yP hK hu 0x3) 0x3 B.min yS (aB (bH aA aH) (aB (bH aA aH) aG))) (aB (aV (FJ hK hu 0x3) 0x3 B.max FP (aB (bH aA aH) (aB (bH aA aH) aG))) aG)))) (aN (cW (aKa hK aA (yO aH) (aK9)))))))) cN) (aN (cZ (bD cG aA (aY pz hr 0x4 0x3 (aB aA (aB aA 0xb)))))))
theorem K4(F:Fun K "_law_tied" "_law_tied" nF fad fd)(hm:mg "_law_tied"=ae (.ref fad)):b8 P w K mg base 1 "_law_tied" 2 gP:=by
 have sc:=Q5;have nd:=sc.nd;refine eU F hm (F.binds λ_ _ _ _ _ _ us hl=>by obtain⟨_,_,rfl⟩:=Mi.l2 hl;rfl) sc VD 0x4 0x4 λcdv A outer s H E hr=>?_
 have hu:=vB hr;exact aF (cW (bH aA (bD d8 aA (aV (cM hK) 0x3 B.len cO 0xb)))) (aF (vA (show eF tE (aR nF) _ (["end"]:aa Str) from 0x9) rfl rfl rfl (jW aA) (sO 5) (λ_=>aZ (show((fm (iY (["end"]:aa Str)) tE++(["end"]:aa Str)):aa Str).Nodup from 0x6) rfl 0x0) (λ_=>cY (BX hK hu) aA aA (dD _)) (λ_=>aA) (λ_=>rfl) rfl sc.nd rfl 0x0 (kP rfl) 0x5) (aF (cW (bH aA (bD d8 (bD fB aA (aV (cM hK) 0x3 B.len cO 0xb)) (aV (cM hK) 0x3 B.len cO 0xb)))) (aN (cZ (cL (aB (aV (yP hK hu 0x3) 0x3 B.min yS (aB aA 0xb)) (aB (aV (FJ hK hu 0x3) 0x3 B.max FP (aB aA 0xb)) aG)))))))
theorem CV(pA:b8 P w K mg base 1 "_law_tied" 2 gP)(pB:b8 P w K mg base 3 "_law_closed" 3 iI)(F:Fun K "_law_grown" "_law_grown" gU fad fd)(hm:mg "_law_grown"=ae (.ref fad)):b8 P w K mg base 4 "_law_grown" 3 lJ:=by
 have sc:=KD;have nd:=sc.nd;refine eU F hm (F.binds λ_ _ _ _ _ _ us hl=>by obtain⟨_,_,_,rfl⟩:=Mi.l3 hl;rfl) sc QD 0x4 0x4 λcdv A outer s H E hr=>?_
 have hu:=vB hr
 exact aF (cW (fL (aCf 0x3) 0x3 B.list yU 0xb)) (aF (cW (iV aG)) (aF (cW (iV aG)) (aF (cW (iV aG)) (aF (cW aH) (aF (cW aH) (aF (U5 rfl dq rfl rfl 0x0 (fM rfl) (aZ sc.nd rfl 0x0) (aF (cW (bD fB aA aH)) (aF (aOg rfl rfl sc.nd rfl 0x0 rfl 0x0) (aF (iD (cY (yL hK hu) (bD d8 aA aH) aH (dD _)) (aN (vA (show eF fP (aR gU) _ (["end"]:aa Str) from 0x9) rfl rfl rfl (jW aA) (sO 13) (λ_=>aZ (show((fm (iY (["end"]:aa Str)) fP++(["end"]:aa Str)):aa Str).Nodup from 0x6) rfl 0x0) (λ_=>cY (yL hK hu) (bH aA aH) aH (dD _)) (λ_=>aA) (λ_=>rfl) rfl sc.nd rfl 0x0 (kP rfl) 0x5)) cN) (aN (iD (PW.pt (aC7 (cY (aA1 hK hu) (bD d8 aA aH) aH (dD _)) (UV (cY (aA1 hK hu) (aV (cM hK) 0x3 B.len cO 0xb) aH (dD _))))) (aF (cW (bH aA (bD d8 aA (aV (cM hK) 0x3 B.len cO 0xb)))) (aF (jJ rfl rfl 0x0 (cL (aB (bD cG (aV (cM hK) 0x3 B.len cO 0xb) aH) 0xb))) (aN (cW (bD cG aA (qW (show eF fP (aR gU) _ (["hook"]:aa Str) from 0x9) rfl rfl rfl (iZ 0x3 B.range (aB (bD cG (bH aA aA) aH) aG)) (sO 13) (λ_=>aZ (show((fm (iY (["hook"]:aa Str)) fP++(["hook"]:aa Str)):aa Str).Nodup from 0x6) rfl 0x0) (λ_=>cL (aB (aV (cM hK) 0x3 B.len cO 0xb) 0xb)) (λ_=>rfl))))))) (aN (iD (PW.pt (aC7 (aGg (aRc hK hu) (aA1 hK hu) aH (bD d8 aA aH) aH) (UV (cY (aC9 hK hu) (aV (cM hK) 0x3 B.len cO 0xb) aH (dD _))))) (aF (jJ rfl rfl 0x0 (aY pA hr 0x4 0x3 (aB aA 0xb))) (aN (vA (show eF fP (aR gU) _ (["end"]:aa Str) from 0x9) rfl rfl rfl (jW aA) (sO 13) (λ_=>aZ (show((fm (iY (["end"]:aa Str)) fP++(["end"]:aa Str)):aa Str).Nodup from 0x6) rfl 0x0) (λ_=>cY (wY hK hu) aA (bH aA (aRa aOb aH)) 0x5) (λ_=>aA) (λ_=>rfl) rfl sc.nd rfl 0x0 (kP rfl) 0x5))) (aN (iD (cY (yL hK hu) (bD d8 aA aH) aH (dD _)) (aN (cW (bD cG aA aH))) (aN (iD (cY (yL hK hu) (bD d8 aA aH) aH (dD _)) (aN (cW (bD cG aA (bD d8 aA (bD aIa aH aH))))) cN)))))))))))) (aF (cW (bD cG aA (aY pB hr 0x4 0x3 (aB aA (aB aA 0xb))))) (aN (cZ (cL (aB (fL jY 0x3 B.tuple fG 0xb) (aB (fL jY 0x3 B.tuple fG (aB (aV (iC hK hu) 0x3 B.sorted iG 0xb) aG)) 0xb))))))))))))
theorem nZ(F:Fun K "_law_carried" "_law_carried" jF fad fd)(hm:mg "_law_carried"=ae (.ref fad)):b8 P w K mg base 1 "_law_carried" 2 eY:=by
 have sc:=zH;have nd:=sc.nd;refine eU F hm (F.binds λ_ _ _ _ _ _ us hl=>by obtain⟨_,_,rfl⟩:=Mi.l2 hl;rfl) sc B_ 0x4 0x4 λcdv A outer s H E hr=>?_
 have hu:=vB hr;exact aF (cW (aV (iC hK hu) 0x3 B.sorted iG (aB (qW (show eF jG (aR jF) _ (["number","name"]:aa Str) from 0x9) rfl rfl rfl (jW (bH aA aH)) (u0 _ 6 2) (λ_=>kE rfl (bK (aZ (show((fm (iY (["number","name"]:aa Str)) jG++(["number","name"]:aa Str)):aa Str).Nodup from 0x6) rfl 0x0) (bK (aZ (show((fm (iY (["number","name"]:aa Str)) jG++(["number","name"]:aa Str)):aa Str).Nodup from 0x6) rfl 0x0) (gH)))) (λ_=>cL (aB (bH aA aA) 0xb)) (λ_=>rfl)) aG))) (aF (cW (iV aG)) (aF (iW dq rfl (jW (bH aA aH)) (sV _ 0x4) (kE rfl (bK (aZ sc.nd rfl 0x0) (bK (aZ sc.nd rfl 0x0) (gH)))) (aF (cW (cL (aB (bH aA (bH aA aH)) (aB (bH aA aH) aG)))) (aF (cW (cL (aB (bH aA (bH aA aH)) (aB (bH aA aH) aG)))) (aN (jJ rfl rfl 0x0 (cL (aB (aV (yP hK hu 0x3) 0x3 B.min yS (aB aA 0xb)) (aB (aV (FJ hK hu 0x3) 0x3 B.max FP (aB aA 0xb)) aG)))))))) (aN (cZ (cL (aB (fL jY 0x3 B.tuple fG 0xb) (aB (fL jY 0x3 B.tuple fG (aB (aV (iC hK hu) 0x3 B.sorted iG 0xb) aG)) (aB (bH aA aH) aG))))))))
theorem CW(p3:b8 P w K mg base 1 "_law_shuffled" 2 cR)(p9:b8 P w K mg base 1 "_law_carried" 2 eY)(F:Fun K "_law_fresh" "_law_fresh" o7 fad fd)(hm:mg "_law_fresh"=ae (.ref fad)):b8 P w K mg base 2 "_law_fresh" 3 jO:=by
 have sc:=KH;have nd:=sc.nd;refine eU F hm (F.binds λ_ _ _ _ _ _ us hl=>by obtain⟨_,_,_,rfl⟩:=Mi.l3 hl;rfl) sc QF 0x4 0x4 λcdv A outer s H E hr=>?_
 have hu:=vB hr;exact aF (cW (iV aG)) (aF (cW aH) (aF (iW dq rfl (iZ 0x3 B.range (aB (aV (cM hK) 0x3 B.len cO (aB (bH aA aH) aG)) aG)) (fM rfl) (aZ sc.nd rfl 0x0) (aF (cW (bD cG (bD cG aA aH) (bD d8 (bD fB aA (bD cG aA aH)) (bH (iV (aB aH (aB (bD aIa aH aH) aG))) (bD d8 aA aH))))) (aN (jJ rfl rfl 0x0 aA)))) (aF (cW (aY p3 hr 0x4 0x3 (aB aA 0xb))) (aF (cW (U_ aH aH)) (aF (iW dq rfl (iZ 0x3 B.range (aB (aV (cM hK) 0x3 B.len cO (aB (bH aA aH) aG)) aG)) (fM rfl) (aZ sc.nd rfl 0x0) (aN (oU hu rfl rfl 0x0 (bH (bH (bH aA aH) aA) aH) (bH aA aA)))) (aN (cZ (aY p9 hr 0x4 0x3 (aB aA 0xb)))))))))
theorem v_(F:Fun K "arranged" "arranged" qX fad fd)(hm:mg "arranged"=ae (.ref fad)):b8 P w K mg base 1 "arranged" 3 qY:=by
 have sc:=VR;have nd:=sc.nd;refine eU F hm (F.binds λ_ _ _ _ _ _ us hl=>by obtain⟨_,_,_,rfl⟩:=Mi.l3 hl;rfl) sc aAc 0x4 0x4 λcdv A outer s H E hr=>?_
 have hu:=vB hr;exact aF (JP (show eF q_ (aR qX) _ (["one","other"]:aa Str) from 0x9) rfl rfl rfl (jW aA) (u0 _ 4 2) (λ_=>kE rfl (bK (aZ (show((fm (iY (["one","other"]:aa Str)) q_++(["one","other"]:aa Str)):aa Str).Nodup from 0x6) rfl 0x0) (bK (aZ (show((fm (iY (["one","other"]:aa Str)) q_++(["one","other"]:aa Str)):aa Str).Nodup from 0x6) rfl 0x0) (gH)))) (λ_=>cL (aB (aV (yP hK hu 0x3) 0x3 B.min yS (aB aA 0xb)) (aB (aV (FJ hK hu 0x3) 0x3 B.max FP (aB aA 0xb)) aG))) (λ_=>rfl) rfl sc.nd rfl 0x0 (kP rfl) 0x5) (aN (cZ (cL (aB (fL jY 0x3 B.tuple fG (aB (aV (iC hK hu) 0x3 B.sorted iG 0xb) aG)) (aB (fL jY 0x3 B.tuple fG (aB (aV (iC hK hu) 0x3 B.sorted iG 0xb) aG)) 0xb)))))
theorem rM(pC:b8 P w K mg base 1 "arranged" 3 qY)(F:Fun K "renumbered" "renumbered" jP fad fd)(hm:mg "renumbered"=ae (.ref fad)):b8 P w K mg base 2 "renumbered" 2 dH:=by
 have sc:=KJ;have nd:=sc.nd;refine eU F hm (F.binds λ_ _ _ _ _ _ us hl=>by obtain⟨_,_,rfl⟩:=Mi.l2 hl;rfl) sc QH 0x4 0x4 λcdv A outer s H E hr=>?_
 have hu:=vB hr;exact aF (cW (aD8 0x3 0x3 B.dict aA)) (aF (oU hu rfl rfl 0x0 aH aH) (aF (JP (show eF fQ (aR jP) _ (["number","name"]:aa Str) from 0x9) rfl rfl rfl (jW (bH aA aH)) (u0 _ 5 2) (λ_=>kE rfl (bK (aZ (show((fm (iY (["number","name"]:aa Str)) fQ++(["number","name"]:aa Str)):aa Str).Nodup from 0x6) rfl 0x0) (bK (aZ (show((fm (iY (["number","name"]:aa Str)) fQ++(["number","name"]:aa Str)):aa Str).Nodup from 0x6) rfl 0x0) (gH)))) (λ_=>cL (aB (bH aA aA) 0xb)) (λ_=>rfl) rfl sc.nd rfl 0x0 (kP rfl) 0x5) (aF (JP (show eF fQ (aR jP) _ (["one","other"]:aa Str) from 0x9) rfl rfl rfl (jW (bH aA aH)) (u0 _ 5 2) (λ_=>kE rfl (bK (aZ (show((fm (iY (["one","other"]:aa Str)) fQ++(["one","other"]:aa Str)):aa Str).Nodup from 0x6) rfl 0x0) (bK (aZ (show((fm (iY (["one","other"]:aa Str)) fQ++(["one","other"]:aa Str)):aa Str).Nodup from 0x6) rfl 0x0) (gH)))) (λ_=>cL (aB (cL (aB (bH aA (bH aA aH)) (aB (bH aA aH) aG))) (aB (cL (aB (bH aA (bH aA aH)) (aB (bH aA aH) aG))) aG))) (λ_=>rfl) rfl sc.nd rfl 0x0 (kP rfl) 0x5) (aN (cZ (aY pC hr 0x4 0x3 (aB aA (aB aA (aB (bH aA aH) aG)))))))))
theorem Q9(F:Fun K "mates_of" "mates_of" vG fad fd)(hm:mg "mates_of"=ae (.ref fad)):b8 P w K mg base 1 "mates_of" 1 qZ:=by
 have sc:=V2;have nd:=sc.nd;refine eU F hm (F.binds λ_ _ _ _ _ _ us hl=>by obtain⟨_,rfl⟩:=Mi.l1 hl;rfl) sc aAe 0x4 0x4 λcdv A outer s H E hr=>?_
 have hu:=vB hr;exact aF (cW (uA)) (aF (iW dq rfl (jW (bH aA aH)) (sV _ 0x4) (kE rfl (bK (aZ sc.nd rfl 0x0) (bK (aZ sc.nd rfl 0x0) (gH)))) (aF (oU hu rfl rfl 0x0 aA aA) (aN (oU hu rfl rfl 0x0 aA aA)))) (aN (u5 rfl rfl 0x0)))
theorem zL(pD:b8 P w K mg base 1 "mates_of" 1 qZ)(F:Fun K "ends_around" "ends_around" nG fad fd)(hm:mg "ends_around"=ae (.ref fad)):b8 P w K mg base 2 "ends_around" 1 iJ:=by
 have sc:=CQ;have nd:=sc.nd;refine eU F hm (F.binds λ_ _ _ _ _ _ us hl=>by obtain⟨_,rfl⟩:=Mi.l1 hl;rfl) sc J2 0x4 0x4 λcdv A outer s H E hr=>?_
 have hu:=vB hr;exact aF (cW (aY pD hr 0x4 0x3 (aB (aA (i:=0)) aG))) (aF (dO (i:=2) (o:=af) rfl sc.nd rfl 0x0 (uA)) (aF (iW dq rfl (jW (bH (aA (i:=0)) aH)) (sV _ (is:=[3,4]) 0x4) (kE rfl (bK (aZ (i:=3) sc.nd rfl 0x0) (bK (aZ (i:=4) sc.nd rfl 0x0) (gH)))) (aDc (i:=5) rfl rfl sc.nd rfl 0x0 (iV aG) (JW (X8 dq (cY (aRd hK hu) (cL (aB (aA (i:=3)) (aB (aV (cM hK) 0x3 B.len cO (aB (aA (i:=5)) aG)) aG))) (aA (i:=1)) 0x5) (aN (jJ (i:=5) rfl rfl 0x0 (bH (aA (i:=1)) (cL (aB (aA (i:=3)) (aB (aV (cM hK) 0x3 B.len cO (aB (aA (i:=5)) aG)) aG))))))) (aDb (h2:=aN (oU (i:=2) hu rfl rfl 0x0 (aA (i:=3)) (aA (i:=5)))))))) (aN (u5 (i:=2) rfl rfl 0x0))))
theorem K5(F:Fun K "starts_of" "starts_of" nH fad fd)(hm:mg "starts_of"=ae (.ref fad)):b8 P w K mg base 1 "starts_of" 2 k_:=by
 have sc:=Q6;have nd:=sc.nd;refine eU (ps:=["ends","part"]) (N:=nM) (k:=0) F hm (F.binds λ_ _ _ _ _ _ us hl=>by obtain⟨_,_,rfl⟩:=Mi.l2 hl;rfl) sc VF 0x4 0x4 λcdv A outer s H E hr=>?_
 have hu:=vB hr;exact aF (dO (i:=2) (o:=af) rfl sc.nd rfl 0x0 (iV aG)) (aF (aD5 (i:=1) hK rfl dq rfl rfl 0x0 (fM (i:=3) rfl) (aZ (i:=3) sc.nd rfl 0x0) (aN (aOn (i:=2) rfl rfl 0x0 (aA4 (ownN:=(["far"]:aa Str)) (show eF nM (aR nH) _ (["far"]:aa Str) from 0x9) (n:=4) (m:=1) rfl rfl rfl (aDa hK (bH (aA (i:=0)) (aA (i:=3)))) (sO 4) (λ_=>aZ (i:=4) (show((fm (iY (["far"]:aa Str)) nM++(["far"]:aa Str)):aa Str).Nodup from 0x6) rfl 0x0) (λ_=>cY (yL hK hu) (bH (aA (i:=4)) aH) aH (dD _)) (λ_=>cL (aB (bH (aA (i:=4)) aH) (aB (aA (i:=3)) aG))) (λ_=>rfl))))) (aF (iD (kO (aA (i:=2))) (aN (cZ (aOx (JR (aB (bH (aV (yP hK hu 0x3) 0x3 B.min yS (aB (aA (i:=2)) aG)) aH) aG))))) cN) (aN (cZ (aA (i:=1))))))
theorem K6(F:Fun K "walk_from" "walk_from" tB fad fd)(hm:mg "walk_from"=ae (.ref fad)):b8 P w K mg base 1 "walk_from" 4 fO:=by
 have sc:=Q7;have nd:=sc.nd;refine eU (ps:=["names","ends","start","best"]) (N:=zF) (k:=0) F hm (F.binds λ_ _ _ _ _ _ us hl=>by obtain⟨_,_,_,_,rfl⟩:=Mi.l4 hl;rfl) sc VH 0x4 0x4 λcdv A outer s H E hr=>?_
 have hu:=vB hr;exact aF (dO (i:=4) (o:=af) rfl sc.nd rfl 0x0 (JR (aB (aA (i:=2)) aG))) (aF (dO (i:=5) (o:=af) rfl sc.nd rfl 0x0 (aL6 aH aH (aA (i:=2)) aH)) (aF (dO (i:=6) (o:=af) rfl sc.nd rfl 0x0 (iV aG)) (aF (dO (i:=7) (o:=aj) rfl sc.nd rfl 0x0 (XH aCa (aA (i:=3)) O8 (dD _))) (aF (X8 dq (cY (aA1 hK hu) (aV (cM hK) 0x3 B.len cO (aB (aA (i:=6)) aG)) (aV (cM hK) 0x3 B.len cO (aB (aA (i:=4)) aG)) (dD _)) (aF (dO (i:=8) (o:=aj) rfl sc.nd rfl 0x0 (bH (aA (i:=4)) (aV (cM hK) 0x3 B.len cO (aB (aA (i:=6)) aG)))) (aDc (i:=9) rfl rfl sc.nd rfl 0x0 (JR (aB (bH (aA (i:=0)) (aA (i:=8))) aG)) (JW (iW dq rfl (aDa hK (bH (aA (i:=1)) (aA (i:=8)))) (sV _ (is:=[10,11]) 0x4) (kE rfl (bK (aZ (i:=10) sc.nd rfl 0x0) (bK (aZ (i:=11) sc.nd rfl 0x0) (gH)))) (aF (iD (cY (wY hK hu) (aA (i:=10)) (aA (i:=5)) 0x5) (aF (jJ (i:=4) rfl rfl 0x0 (aA (i:=10))) (aN (oU (i:=5) hu rfl rfl 0x0 (aA (i:=10)) (aV (cM hK) 0x3 B.len cO (aB (aA (i:=4)) aG))))) cN) (aF (jJ (i:=9) rfl rfl 0x0 (bH (aA (i:=5)) (aA (i:=10)))) (aN (jJ (i:=9) rfl rfl 0x0 (aA (i:=11))))))) (JW (iD (PW.pt (aC7 (kO (aA (i:=7))) (UV (cY (BX hK hu) (aA (i:=9)) (bH (bH (aA (i:=3)) aH) (aV (cM hK) 0x3 B.len cO (aB (aA (i:=6)) aG))) (dD _))))) (aF (iD (cY (aC9 hK hu) (aA (i:=9)) (bH (bH (aA (i:=3)) aH) (aV (cM hK) 0x3 B.len cO (aB (aA (i:=6)) aG))) (dD _)) (aN (cZ O8)) cN) (aN (dO (i:=7) (o:=aj) rfl sc.nd rfl 0x0 uZ))) cN) (aDb (h2:=aN (jJ (i:=6) rfl rfl 0x0 (aA (i:=9)))))))))) (YF (i:=6) rfl (YF (i:=4) rfl (aN (cZ (cL (aB (aA (i:=6)) (aB (aA (i:=4)) aG)))))))))))
theorem CZ(pG:b8 P w K mg base 1 "walk_from" 4 fO)(pH:b8 P w K mg base 1 "starts_of" 2 k_)(F:Fun K "first_walk" "first_walk" o8 fad fd)(hm:mg "first_walk"=ae (.ref fad)):b8 P w K mg base 2 "first_walk" 3 cU:=by
 have sc:=KN;have nd:=sc.nd;refine eU (ps:=["names","ends","part"]) (N:=vY) (k:=1) F hm (F.binds λ_ _ _ _ _ _ us hl=>by obtain⟨_,_,_,rfl⟩:=Mi.l3 hl;rfl) sc QK 0x4 0x4 λcdv A outer s H E hr=>?_
 have hu:=vB hr;exact aF (dO (i:=3) (o:=aj) rfl sc.nd rfl 0x0 O8) (aF (iW dq rfl (aDa hK (aY pH hr 0x4 0x3 (aB (aA (i:=1)) (aB (aA (i:=2)) aG)))) (fM (i:=4) rfl) (aZ (i:=4) sc.nd rfl 0x0) (aF (dO (i:=5) (o:=aj) rfl sc.nd rfl 0x0 (aY pG hr 0x4 0x3 (aB (aA (i:=0)) (aB (aA (i:=1)) (aB (aA (i:=4)) (aB (aA (i:=3)) aG)))))) (aN (iD (cY aCa (aA (i:=5)) O8 (dD _)) (aN (aOg (i:=3) (j:=5) rfl rfl sc.nd rfl 0x0 rfl 0x0)) cN)))) (aN (cZ (aA (i:=3)))))
theorem C_(F:Fun K "neighbours" "neighbours" o9 fad fd)(hm:mg "neighbours"=ae (.ref fad)):b8 P w K mg base 1 "neighbours" 1 lK:=by
 have sc:=KQ;have nd:=sc.nd;refine aKt (ps:=["net"]) (N:=vZ) (k:=0) F hm (F.binds λ_ _ _ _ _ _ us hl=>by obtain⟨_,rfl⟩:=Mi.l1 hl;rfl) sc QM 0x4 0x4 λcdv A outer s H E hr=>?_
 have hu:=vB hr;exact xG (aKz (i:=1) rfl sc.nd rfl 0x0) (xG (aIk dq rfl (jW (bH (aA (i:=0)) aH)) (aCx _ (is:=[2,3]) 0x4) (kE rfl (bK (aZ (i:=2) sc.nd rfl 0x0) (bK (aZ (i:=3) sc.nd rfl 0x0) (gH)))) (JS (aL0 (i:=1) hu rfl rfl 0x0 (aA (i:=2))))) (xG (aIk dq rfl (jW (bH (aA (i:=0)) aH)) (aCx _ (is:=[4,5]) 0x4) (kE rfl (bK (aZ (i:=4) sc.nd rfl 0x0) (bK (aZ (i:=5) sc.nd rfl 0x0) (gH)))) (JS (aRl (cY (BX hK hu) (bH (aA (i:=4)) aH) aH (dD _)) (xG (aCw (i:=1) hu rfl rfl 0x0 (bH (aA (i:=4)) aH) (bH (aA (i:=5)) aH)) (JS (aCw (i:=1) hu rfl rfl 0x0 (bH (aA (i:=5)) aH) (bH (aA (i:=4)) aH)))) (aKs)))) (JS (aKv (i:=1) rfl rfl 0x0))))
theorem rD(F:Fun K "hanging_together" "hanging_together" iK fad fd)(hm:mg "hanging_together"=ae (.ref fad)):b8 P w K mg base 1 "hanging_together" 2 dB:=by
 have sc:=tG;have nd:=sc.nd;refine eU (ps:=["beside","start"]) (N:=lM) (k:=0) F hm (F.binds λ_ _ _ _ _ _ us hl=>by obtain⟨_,_,rfl⟩:=Mi.l2 hl;rfl) sc uF 0x4 0x4 λcdv A outer s H E hr=>?_
 have hu:=vB hr;exact aF (dO (i:=2) (o:=af) rfl sc.nd rfl 0x0 (U_ (aA (i:=1)) uZ)) (aF (dO (i:=3) (o:=af) rfl sc.nd rfl 0x0 (JR (aB (aA (i:=1)) aG))) (aF (X8 dq (kO (aA (i:=3))) (aF (aKo (i:=3) (j:=4) rfl rfl 0x0 sc.nd rfl 0x0 rfl) (aN (aGw (i:=0) hu rfl dq rfl rfl 0x0 (aA (i:=4)) (fM (i:=5) rfl) (aZ (i:=5) sc.nd rfl 0x0) (aN (iD (cY (wY hK hu) (aA (i:=5)) (aA (i:=2)) 0x5) (aF (oU (i:=2) hu rfl rfl 0x0 (aA (i:=5)) uZ) (aN (jJ (i:=3) rfl rfl 0x0 (aA (i:=5))))) cN)))))) (aN (cZ (aV (aA7 hK 0x3 hu) 0x3 B.sorted iG (aB (aA (i:=2)) aG))))))
theorem aDi(pI:b8 P w K mg base 1 "neighbours" 1 lK)(pJ:b8 P w K mg base 1 "hanging_together" 2 dB)(F:Fun K "parts" "parts" VM fad fd)(hm:mg "parts"=ae (.ref fad)):b8 P w K mg base 2 "parts" 1 vH:=by
 have sc:=aH1;have nd:=sc.nd;refine eU (ps:=["net"]) (N:=aDh) (k:=1) F hm (F.binds λ_ _ _ _ _ _ us hl=>by obtain⟨_,rfl⟩:=Mi.l1 hl;rfl) sc aL8 0x4 0x4 λcdv A outer s H E hr=>?_
 have hu:=vB hr;exact aF (dO (i:=1) (o:=aj) rfl sc.nd rfl 0x0 (aY pI hr 0x4 0x3 (aB (aA (i:=0)) aG))) (aF (dO (i:=2) (o:=af) rfl sc.nd rfl 0x0 (uA)) (aF (dO (i:=3) (o:=af) rfl sc.nd rfl 0x0 (iV aG)) (aF (iW dq rfl (jW (bH (aA (i:=0)) aH)) (sV _ (is:=[4,5]) 0x4) (kE rfl (bK (aZ (i:=4) sc.nd rfl 0x0) (bK (aZ (i:=5) sc.nd rfl 0x0) (gH)))) (aN (iD (cY (wY hK hu) (aA (i:=4)) (aA (i:=2)) 0x5) (aF (dO (i:=6) (o:=aj) rfl sc.nd rfl 0x0 (aOx (aY pJ hr 0x4 0x3 (aB (aA (i:=1)) (aB (aA (i:=4)) aG))))) (aF (aD5 (i:=6) hK rfl dq rfl rfl 0x0 (fM (i:=7) rfl) (aZ (i:=7) sc.nd rfl 0x0) (aN (oU (i:=2) hu rfl rfl 0x0 (aA (i:=7)) uZ))) (aN (jJ (i:=3) rfl rfl 0x0 (aA (i:=6)))))) cN))) (aN (u5 (i:=3) rfl rfl 0x0)))))
theorem aLf(pK:b8 P w K mg base 2 "ends_around" 1 iJ)(pM:b8 P w K mg base 2 "parts" 1 vH)(pN:b8 P w K mg base 2 "first_walk" 3 cU)(F:Fun K "way" "way" aDf fad fd)(hm:mg "way"=ae (.ref fad)):b8 P w K mg base 3 "way" 1 vI:=by
 have sc:=aPb;have nd:=sc.nd;refine eU (ps:=["net"]) (N:=VN) (k:=2) F hm (F.binds λ_ _ _ _ _ _ us hl=>by obtain⟨_,rfl⟩:=Mi.l1 hl;rfl) sc aRt 0x4 0x4 λcdv A outer s H E hr=>?_
 have hu:=vB hr;exact aF (dO (i:=1) (o:=aj) rfl sc.nd rfl 0x0 (aA9 0x3 0x3 B.dict (bH (aA (i:=0)) aH))) (aF (dO (i:=2) (o:=aj) rfl sc.nd rfl 0x0 (aY pK hr 0x4 0x3 (aB (aA (i:=0)) aG))) (aF (dO (i:=3) (o:=aj) rfl sc.nd rfl 0x0 (aV (iC hK hu) 0x3 B.sorted iG (aB (qW (ownN:=(["part"]:aa Str)) (show eF VN (aR aDf) _ (["part"]:aa Str) from 0x9) (n:=7) (m:=1) rfl rfl rfl (jW (aY pM hr 0x4 0x3 (aB (aA (i:=0)) aG))) (sO 7) (λ_=>aZ (i:=7) (show((fm (iY (["part"]:aa Str)) VN++(["part"]:aa Str)):aa Str).Nodup from 0x6) rfl 0x0) (λ_=>aY pN hr 0x4 0x3 (aB (aA (i:=1)) (aB (aA (i:=2)) (aB (aA (i:=7)) aG)))) (λ_=>rfl)) aG))) (aF (dO (i:=4) (o:=af) rfl sc.nd rfl 0x0 (iV aG)) (aF (U5 (i:=3) rfl dq rfl rfl 0x0 (sV _ (is:=[5,6]) 0x4) (kE rfl (bK (aZ (i:=5) sc.nd rfl 0x0) (bK (aZ (i:=6) sc.nd rfl 0x0) (gH)))) (aN (aL5 (i:=4) hK rfl rfl 0x0 (aA (i:=6))))) (aN (cZ (aV (iC hK hu) 0x3 B.sorted iG (aB (qW (ownN:=(["place","number"]:aa Str)) (show eF VN (aR aDf) _ (["place","number"]:aa Str) from 0x9) (n:=7) (m:=2) rfl rfl rfl (aGv 0x3 B.enum (aB (aA (i:=4)) aG)) (u0 _ 7 2) (λ_=>kE rfl (bK (aZ (i:=7) (show((fm (iY (["place","number"]:aa Str)) VN++(["place","number"]:aa Str)):aa Str).Nodup from 0x6) rfl 0x0) (bK (aZ (i:=8) (show((fm (iY (["place","number"]:aa Str)) VN++(["place","number"]:aa Str)):aa Str).Nodup from 0x6) rfl 0x0) (gH)))) (λ_=>cL (aB (aA (i:=8)) (aB (aA (i:=7)) aG))) (λ_=>rfl)) aG))))))))
theorem aH3(p5:b8 P w K mg base 3 "way" 1 vI)(p6:b8 P w K mg base 2 "renumbered" 2 dH)(F:Fun K "told" "told" aDg fad fd)(hm:mg "told"=ae (.ref fad)):b8 P w K mg base 4 "told" 1 uG:=by
 have sc:=aLe;have nd:=sc.nd;refine eU (ps:=["net"]) (N:=aIq) (k:=3) F hm (F.binds λ_ _ _ _ _ _ us hl=>by obtain⟨_,rfl⟩:=Mi.l1 hl;rfl) sc aP9 0x4 0x4 λcdv A outer s H E hr=>?_
 have hu:=vB hr;exact aN (cZ (aY p6 hr 0x4 0x3 (aB (aA (i:=0)) (aB (aY p5 hr 0x4 0x3 (aB (aA (i:=0)) aG)) aG))))
theorem DG(F:Fun K "_law_wheel" "_law_wheel" p_ fad fd)(hm:mg "_law_wheel"=ae (.ref fad)):b8 P w K mg base 1 "_law_wheel" 3 gV:=by
 have sc:=KR;have nd:=sc.nd;refine eU (ps:=["net","stock","cell"]) (N:=v7) (k:=0) F hm (F.binds λ_ _ _ _ _ _ us hl=>by obtain⟨_,_,_,rfl⟩:=Mi.l3 hl;rfl) sc QR 0x4 0x4 λcdv A outer s H E hr=>?_
 have hu:=vB hr;exact aF (dO (i:=3) (o:=aj) rfl sc.nd rfl 0x0 (fL (aCf 0x3) 0x3 B.list yU (aB (aA (i:=1)) aG))) (aF (dO (i:=4) (o:=aj) rfl sc.nd rfl 0x0 (bD cG aH (bD d8 (aA (i:=2)) aH))) (aF (dO (i:=5) (o:=aj) rfl sc.nd rfl 0x0 (bD cG (aV (cM hK) 0x3 B.len cO (aB (bH (aA (i:=0)) aH) aG)) aH)) (aF (dO (i:=6) (o:=af) rfl sc.nd rfl 0x0 (iV aG)) (aF (dO (i:=7) (o:=af) rfl sc.nd rfl 0x0 (iV aG)) (aF (iW dq rfl (iZ 0x3 B.range (aB (bD rJ aH (aA (i:=4))) aG)) (fM (i:=8) rfl) (aZ (i:=8) sc.nd rfl 0x0) (aF (dO (i:=9) (o:=aj) rfl sc.nd rfl 0x0 (bD fB (bD fB (aA (i:=2)) aH) (bH (iV (aB aH (aB aH (aB aH (aB aH aG))))) (bD d8 (aA (i:=8)) (bD cG aH (bD d8 (bD fB (aA (i:=2)) aH) aH)))))) (aF (jJ (i:=6) rfl rfl 0x0 (cL (aB (bD cG (aA (i:=5)) (aA (i:=8))) (aB (bH (aA (i:=3)) (bD d8 (aA (i:=9)) aH)) aG)))) (aF (dO (i:=10) (o:=aj) rfl sc.nd rfl 0x0 (cL (aB (bD cG (aA (i:=5)) (aA (i:=8))) (aB aH aG)))) (aF (dO (i:=11) (o:=aj) rfl sc.nd rfl 0x0 (cL (aB (bD cG (aA (i:=5)) (bD d8 (bD cG (aA (i:=8)) aH) (bD rJ aH (aA (i:=4))))) (aB aH aG)))) (aN (jJ (i:=7) rfl rfl 0x0 (cL (aB (aV (yP hK hu 0x3) 0x3 B.min yS (aB (aA (i:=10)) (aB (aA (i:=11)) aG))) (aB (aV (FJ hK hu 0x3) 0x3 B.max FP (aB (aA (i:=10)) (aB (aA (i:=11)) aG))) aG)))))))))) (aF (iW dq rfl (iZ 0x3 B.range (aB (aA (i:=4)) aG)) (fM (i:=8) rfl) (aZ (i:=8) sc.nd rfl 0x0) (aN (iW dq rfl (iZ 0x3 B.range (aB (bD cG (bH (aA (i:=1)) (bH (aA (i:=3)) aH)) aH) aG)) (fM (i:=12) rfl) (aZ (i:=12) sc.nd rfl 0x0) (aN (iD (PW.pt (IK (cY (aA1 hK hu) (aA (i:=12)) aH (dD _)) (E_ (cY (aC9 hK hu) (aA (i:=12)) aH (dD _))))) (aN (jJ (i:=7) rfl rfl 0x0 (cL (aB (cL (aB (bD cG (aA (i:=5)) (aA (i:=8))) (aB (aA (i:=12)) aG))) (aB (cL (aB (bD cG (bD cG (aA (i:=5)) (aA (i:=4))) (aA (i:=8))) (aB (aA (i:=12)) aG))) aG))))) cN))))) (aN (cZ (cL (aB (bD aCo (bH (aA (i:=0)) aH) (fL jY 0x3 B.tuple fG (aB (aA (i:=6)) aG))) (aB (fL jY 0x3 B.tuple fG (aB (aV (aAa hK hu) 0x3 B.sorted iG (aB (bD aCo (bH (aA (i:=0)) aH) (fL jY 0x3 B.tuple fG (aB (aA (i:=7)) aG))) aG)) aG)) (aB (bH (aA (i:=0)) aH) aG))))))))))))
theorem DK(F:Fun K "_law_whole" "_law_whole" qC fad fd)(hm:mg "_law_whole"=ae (.ref fad)):b8 P w K mg base 1 "_law_whole" 1 jQ:=by
 have sc:=KY;have nd:=sc.nd;refine eU (ps:=["found"]) (N:=v8) (k:=0) F hm (F.binds λ_ _ _ _ _ _ us hl=>by obtain⟨_,rfl⟩:=Mi.l1 hl;rfl) sc QV 0x4 0x4 λcdv A outer s H E hr=>?_
 have hu:=vB hr;exact aN (cZ (O9 (nU .int (aA (i:=0)) 0x3 B.isi bY 0x3 B.int aIg) (XJ (aI9 (nU .bool (aA (i:=0)) 0x3 B.isi bY 0x3 B.bool aCl)))))
theorem DN(pg:b8 P w K mg base 1 "_law_whole" 1 jQ)(p9:b8 P w K mg base 1 "_law_carried" 2 eY)(F:Fun K "_law_leads" "_law_leads" qD fad fd)(hm:mg "_law_leads"=ae (.ref fad)):b8 P w K mg base 2 "_law_leads" 3 eV:=by
 have sc:=KZ;have nd:=sc.nd;refine eU (ps:=["found","one","other"]) (N:=v9) (k:=1) F hm (F.binds λ_ _ _ _ _ _ us hl=>by obtain⟨_,_,_,rfl⟩:=Mi.l3 hl;rfl) sc QX 0x4 0x4 λcdv A outer s H E hr=>?_
 have hu:=vB hr;exact aF (iD (PW.pt (IK (rH (kO (nU .list (aA (i:=0)) 0x3 B.isi bY 0x3 B.list yU))) (E_ (cY (BX hK hu) (aV (cM hK) 0x3 B.len cO (aB (aA (i:=0)) aG)) (aV (cM hK) 0x3 B.len cO (aB (bH (aA (i:=1)) aH) aG)) (dD _))))) (aN (cZ uZ)) cN) (aF (dO (i:=3) (o:=af) rfl sc.nd rfl 0x0 (U_ aH aH)) (aF (iW dq rfl (iZ 0x3 B.range (aB (aV (cM hK) 0x3 B.len cO (aB (aA (i:=0)) aG)) aG)) (fM (i:=4) rfl) (aZ (i:=4) sc.nd rfl 0x0) (aF (dO (i:=5) (o:=aj) rfl sc.nd rfl 0x0 (bH (aA (i:=0)) (aA (i:=4)))) (aF (iD (PW.pt (IK (rH (kO (nU .tuple (aA (i:=5)) 0x3 B.isi bY 0x3 B.tuple fG))) (IK (cY (BX hK hu) (aV (cM hK) 0x3 B.len cO (aB (aA (i:=5)) aG)) aH (dD _)) (IK (rH (kO (aY pg hr 0x4 0x3 (aB (bH (aA (i:=5)) aH) aG)))) (E_ (rH (kO (aY pg hr 0x4 0x3 (aB (bH (aA (i:=5)) aH) aG))))))))) (aN (cZ uZ)) cN) (aF (iD (cY (BX hK hu) (bH (aA (i:=5)) aH) (bH (bH (bH (aA (i:=1)) aH) (aA (i:=4))) aH) (dD _)) (aN (cZ uZ)) cN) (aN (oU (i:=3) hu rfl rfl 0x0 (bH (aA (i:=5)) aH) (bH (aA (i:=5)) aH))))))) (aN (cZ (XH (yL hK hu) (aY p9 hr 0x4 0x3 (aB (aA (i:=1)) (aB (aA (i:=3)) aG))) (aA (i:=2)) (dD _))))))
theorem K7(F:Fun K "_law_same" "_law_same" tD fad fd)(hm:mg "_law_same"=ae (.ref fad)):∀m:ai,b8 P w K mg base (m+1) "_law_same" 2 (cC m):=by
 have sc:=Q8;have nd:=sc.nd;intro m;induction m with
 |zero=>
  refine eU F hm (F.binds λ_ _ _ _ _ _ us hl=>by obtain⟨_,_,rfl⟩:=Mi.l2 hl;rfl) sc zB 0x4 0x4 λcdv A outer s H E hr=>?_
  exact aKi
 |succ m ih=>
  have p7:=ih;refine eU F hm (F.binds λ_ _ _ _ _ _ us hl=>by obtain⟨_,_,rfl⟩:=Mi.l2 hl;rfl) sc zB 0x4 0x4 λcdv A outer s H E hr=>?_
  have hu:=vB hr;exact aF (iD (kO (nU .tuple aA 0x3 B.isi bY 0x3 B.tuple fG)) (aF (iD (PW.pt (IK (rH (kO (nU .tuple aA 0x3 B.isi bY 0x3 B.tuple fG))) (E_ (cY (BX hK hu) (aV (cM hK) 0x3 B.len cO 0xb) (aV (cM hK) 0x3 B.len cO 0xb) (dD _))))) (aN (cZ uZ)) cN) (aF (iW dq rfl (iZ 0x3 B.range (aB (aV (cM hK) 0x3 B.len cO 0xb) aG)) (fM rfl) (aZ sc.nd rfl 0x0) (aN (iD (rH (kO (aY p7 hr (bi _) 0x3 (aB (bH aA aA) (aB (bH aA aA) aG))))) (aN (cZ uZ)) cN))) (aN (cZ uZ)))) cN) (aF (iD (kO (nU .str aA 0x3 B.isi bY 0x3 B.str aIh)) (aN (cZ (O9 (nU .str aA 0x3 B.isi bY 0x3 B.str aIh) (XJ (XH (yL hK hu) aA aA (dD _)))))) cN) (aN (cZ (O9 (nU .int aA 0x3 B.isi bY 0x3 B.int aIg) (O9 (aI9 (nU .bool aA 0x3 B.isi bY 0x3 B.bool aCl)) (XJ (XH (yL hK hu) aA aA (dD _))))))))
theorem aDj(p5:b8 P w K mg base 3 "way" 1 vI)(p6:b8 P w K mg base 2 "renumbered" 2 dH)(F:Fun K "alike" "alike" J5 fad fd)(hm:mg "alike"=ae (.ref fad)):b8 P w K mg base 4 "alike" 2 qF:=by
 have sc:=aH2;have nd:=sc.nd;refine eU F hm (F.binds λ_ _ _ _ _ _ us hl=>by obtain⟨_,_,rfl⟩:=Mi.l2 hl;rfl) sc aLa 0x4 0x4 λcdv A outer s H E hr=>?_
 have hu:=vB hr;exact aF (cW (aY p5 hr 0x4 0x3 0xb)) (aF (cW (aY p5 hr 0x4 0x3 0xb)) (aF (iD (cY (BX hK hu) (aY p6 hr 0x4 0x3 (aB aA 0xb)) (aY p6 hr 0x4 0x3 (aB aA 0xb)) (dD _)) (aN (cZ O8)) cN) (aF (cW (uA)) (aF (U5 rfl dq rfl rfl 0x0 (sV _ 0x4) (kE rfl (bK (aZ sc.nd rfl 0x0) (bK (aZ sc.nd rfl 0x0) (gH)))) (aN (oU hu rfl rfl 0x0 aA aA))) (aN (cZ (qW (show eF J9 (aR J5) _ (["number","place"]:aa Str) from 0x9) rfl rfl rfl (jW aA) (u0 _ 7 2) (λ_=>kE rfl (bK (aZ (show((fm (iY (["number","place"]:aa Str)) J9++(["number","place"]:aa Str)):aa Str).Nodup from 0x6) rfl 0x0) (bK (aZ (show((fm (iY (["number","place"]:aa Str)) J9++(["number","place"]:aa Str)):aa Str).Nodup from 0x6) rfl 0x0) (gH)))) (λ_=>cL (aB aA (aB (bH aA aA) aG))) (λ_=>rfl))))))))
theorem aPd(p8:b8 P w K mg base 1 "_law_cell_at" 2 cJ)(pO:b8 P w K mg base 1 "_law_stock" 2 jN)(pP:b8 P w K mg base 4 "_law_grown" 3 lJ)(ph:b8 P w K mg base 1 "_law_wheel" 3 gV)(pQ:b8 P w K mg base 2 "_law_fresh" 3 jO)(pf:b8 P w K mg base 4 "told" 1 uG)(p7:b8 P w K mg base 7 "_law_same" 2 (cC 6))(pj:b8 P w K mg base 4 "alike" 2 qF)(pk:b8 P w K mg base 2 "_law_leads" 3 eV)(F:Fun K "law" "law" CJ fad fd):ZP P w K mg base CX0 8 fad fd ["script"] (spD aAg 1):=by
 have sc:=aPc;have nd:=sc.nd;refine aOj F sc o_law 0x4 0x4 λcdv A outer s H E hr=>?_
 have hu:=vB hr;exact aF (cW (aY p8 hr 0x4 0x3 (aB aA (aB aH aG)))) (aF (cW (aY p8 hr 0x4 0x3 (aB aA (aB aH aG)))) (aF (cW (aY pO hr 0x4 0x3 (aB aA 0xb))) (aF (cW (aY pP hr 0x4 0x3 (aB aA (aB (aKa hK aA (yO aH) (yO aH)) (aB (bD fB aA aH) aG))))) (aF (iD (cY (yL hK hu) (bD d8 aA aH) aH (dD _)) (aF (cW (aY ph hr 0x4 0x3 (aB aA (aB aA (aB (bD fB aA aH) aG))))) (aN (iD (cY (yL hK hu) (bD d8 (bD fB aA aH) aH) aH (dD _)) (aN (cW (aY ph hr 0x4 0x3 (aB aA (aB aA (aB (bD cG (bD fB aA aH) (bD rJ (bD d8 aA aH) aH)) aG)))))) cN))) cN) (aF (cW (aY pQ hr 0x4 0x3 (aB aA (aB (aY p8 hr 0x4 0x3 (aB aA (aB aH aG))) (aB (aY p8 hr 0x4 0x3 (aB aA (aB aH aG))) aG))))) (aF (cW (aY pf hr 0x4 0x3 0xb)) (aF (iD (PW.pt (IK (rH (kO (nU .tuple aA 0x3 B.isi bY 0x3 B.tuple fG))) (IK (cY (BX hK hu) (aV (cM hK) 0x3 B.len cO 0xb) aH (dD _)) (E_ (rH (kO (nU .tuple (bH aA aH) 0x3 B.isi bY 0x3 B.tuple fG))))))) (aN (cZ uZ)) cN) (aF (iD (cY (BX hK hu) (qW (show eF aLd (aR CJ) _ (["piece"]:aa Str) from 0x9) rfl rfl rfl (jW (bH aA aH)) (sO 7) (λ_=>aZ (show((fm (iY (["piece"]:aa Str)) aLd++(["piece"]:aa Str)):aa Str).Nodup from 0x6) rfl 0x0) (λ_=>bH aA aH) (λ_=>rfl)) (aDe 0x3 0x3 B.list 0x3 B.range (aB aH (aB (bD cG (aV (cM hK) 0x3 B.len cO (aB (bH aA aH) aG)) aH) aG))) (dD _)) (aN (cZ uZ)) cN) (aF (iD (PW.pt (IK (rH (kO (aY p7 hr 0x4 0x3 (aB (aY pf hr 0x4 0x3 0xb) 0xb)))) (E_ (rH (kO (aY p7 hr 0x4 0x3 (aB aA (aB (aY pf hr 0x4 0x3 0xb) aG)))))))) (aN (cZ uZ)) cN) (aN (cZ (O9 (aY pk hr 0x4 0x3 (aB (aY pj hr 0x4 0x3 (aB aA 0xb)) (aB aA 0xb))) (XJ (aY pk hr 0x4 0x3 (aB (aY pj hr 0x4 0x3 (aB aA 0xb)) (aB aA 0xb))))))))))))))))
end
def AtN(K:Frag)(n:Str)(st:bz):Prop:=∃(f:aq)(fd:gd),nsIn K eT n=ae (ae (.ref f))/\Fun K n n st f fd
def aRw{K:Frag}{n:Str}{st:bz}{f:aq}{oc kV dc pm cd ct:ap}{od an:aS aq}{sl:ba (aS ap)}(a:nsIn K eT n=ae (ae (.ref f)))(l:K.lookup f=ae ⟨oc,od,.func (fnOf n n (rR st) (jV st) (aR st) .none kV dc pm an cd ct),sl⟩)(c:codeIn K cd n=af)(k:keepIn K (.ref f)=af):AtN K n st:=⟨f,_,a,aI3 (st:=st) l c k⟩
def AtL(K:Frag):aa (Str×bz)->Prop
 |[]=>gv
 | (n,s)::r=>AtN K n s/\AtL K r
def ZL(K:Frag):aa Str->Prop
 |[]=>gv
 |n::r=>nsIn K eT n=ae ao/\ZL K r
def aTl{K:Frag}{n:Str}{s:bz}{r:aa (Str×bz)}(a:AtN K n s)(b:AtL K r):AtL K ((n,s)::r):=⟨a,b⟩
def z_c{K:Frag}{n:Str}{r:aa Str}(a:nsIn K eT n=ae ao)(b:ZL K r):ZL K (n::r):=⟨a,b⟩
def aPe{l:OpenLaw}{w:bS}{K:Frag}{h:br}{mg:Str->aS ap}{fa:aq}(X:K.In h)(G:h.Ns eT mg)(hfa:mg "law"=ae (.ref fa))(A:AtL K [("_law_cell_at",lU),("_law_stock",oY),("_law_shuffled",kY),("_law_rimmed",m_),("_law_closed",nC),("_law_tied",nF),("_law_grown",gU),("_law_carried",jF),("_law_fresh",o7),("arranged",qX),("renumbered",jP),("mates_of",vG),("ends_around",nG),("starts_of",nH),("walk_from",tB),("first_walk",o8),("neighbours",o9),("hanging_together",iK),("parts",VM),("way",aDf),("told",aDg),("_law_wheel",p_),("_law_whole",qC),("_law_leads",qD),("_law_same",tD),("alike",J5)])
 {f26:aq}{oc26 kV26 dc26 pm26 cd26 ct26:ap}{od26 an26:aS aq}{sl26:ba (aS ap)}(a26:nsIn K eT "law"=ae (ae (.ref f26)))(l26:K.lookup f26=ae ⟨oc26,od26,.func (fnOf "law" "law" (rR CJ) (jV CJ) (aR CJ) .none kV26 dc26 pm26 an26 cd26 ct26),sl26⟩)(c26:codeIn K cd26 "law"=af)(k26:keepIn K (.ref f26)=af)(C:ZL K ["len","min","max","list","tuple","sorted","range","isinstance","int","bool","str","dict","all","enumerate","sum","zip","abs","reversed"]) :
  ∃fd:gd,(∀(s:ay)(v:ap),lp s fd ⟨[v],[]⟩ [("script",v)])/\∀base:br,K.In base->base.Ns eT mg->ZP l.prog w K mg base CX0 8 fa fd ["script"] (@spD ⟨K⟩ aAg 1):=by
 have e:=hfa.symm.trans (mg_of X G a26);cases e
 letI:KFrag:=⟨K⟩
 have Y:=λ{n:Str}{v:ap}=>mg_of (n:=n) (v:=v) X G
 have Z:=λ{n:Str}=>mg_none_of (n:=n) X G
 obtain⟨⟨_,_,a0,F0⟩,⟨_,_,a1,F1⟩,⟨_,_,a2,F2⟩,⟨_,_,a3,F3⟩,⟨_,_,a4,F4⟩,⟨_,_,a5,F5⟩,⟨_,_,a6,F6⟩,⟨_,_,a7,F7⟩,⟨_,_,a8,F8⟩,⟨_,_,a9,F9⟩,⟨_,_,a10,F10⟩,⟨_,_,a11,F11⟩,⟨_,_,a12,F12⟩,⟨_,_,a13,F13⟩,⟨_,_,a14,F14⟩,⟨_,_,a15,F15⟩,⟨_,_,a16,F16⟩,⟨_,_,a17,F17⟩,⟨_,_,a18,F18⟩,⟨_,_,a19,F19⟩,⟨_,_,a20,F20⟩,⟨_,_,a21,F21⟩,⟨_,_,a22,F22⟩,⟨_,_,a23,F23⟩,⟨_,_,a24,F24⟩,⟨_,_,a25,F25⟩,_⟩:=A;obtain⟨pT,pU,pV,pX,pZ,qa,qc,qe,qf,qg,qh,qi,qj,qk,qm,qo,qr,qt,_⟩:=C;have B:Bt mg:=⟨Z pT,Z pU,Z pV,Z pX,Z pZ,Z qa,Z qc,Z qe,Z qf,Z qg,Z qh,Z qi,Z qj,Z qk,Z qm,Z qo,Z qr,Z qt⟩
 refine⟨fnOf "law" "law" (rR CJ) (jV CJ) (aR CJ) .none kV26 dc26 pm26 an26 cd26 ct26,λs v=>.of_eq rfl,λbase _ _=>?_⟩;have po:=aLf (P:=l.prog) (w:=w) (base:=base) rfl B (zL rfl B (Q9 rfl B F11 (Y a11)) F12 (Y a12)) (aDi rfl B (C_ rfl B F16 (Y a16)) (rD rfl B F17 (Y a17)) F18 (Y a18)) (CZ rfl B (K6 rfl B F14 (Y a14)) (K5 rfl B F13 (Y a13)) F15 (Y a15)) F19 (Y a19);exact aPd rfl B (wH rfl B F0 (Y a0)) (CT rfl B F1 (Y a1)) (CV rfl B (K4 rfl B F5 (Y a5)) (zK rfl B (jA rfl B F2 (Y a2)) (zJ rfl B (jA rfl B F2 (Y a2)) F3 (Y a3)) F4 (Y a4)) F6 (Y a6)) (DG rfl B F21 (Y a21)) (CW rfl B (jA rfl B F2 (Y a2)) (nZ rfl B F7 (Y a7)) F8 (Y a8)) (aH3 rfl B po (rM rfl B (v_ rfl B F9 (Y a9)) F10 (Y a10)) F20 (Y a20)) (K7 rfl B F24 (Y a24) 6) (aDj rfl B po (rM rfl B (v_ rfl B F9 (Y a9)) F10 (Y a10)) F25 (Y a25)) (DN rfl B (DK rfl B F22 (Y a22)) (nZ rfl B F7 (Y a7)) F23 (Y a23)) (aI3 (st:=CJ) l26 c26 k26)
def walk{l:OpenLaw}{q:cy}{loose:aa Str}{XP:(Str->aS ap)->br->Prop}{YP:bS->br->Prop}{d:DefRec}{K:Params->Frag}(main:∀ns:aa ag,ns.length<=63->aAg [.scr (ns.map δ)]=.ok (.bl af))(hn:l.most=ae 63)(hdf:d.params.defaults=[])
 (hY:∀(w:bS) (h:br),YP w h->(K w.params).In h)
 (F:∀(w:bS) (mg:Str->aS ap) (fa:aq) (h:br),(K w.params).In h->h.Ns eT mg->mg d.name=ae (.ref fa)->
   ∃fd:gd,(∀(s:ay) (u:ap),lp s fd ⟨[u],[]⟩ [("script",u)])/\∀base:br,(K w.params).In base->base.Ns eT mg->ZP l.prog w (K w.params) mg base CX0 8 fa fd ["script"] (@spD ⟨K w.params⟩ aAg 1)) :
  WalkO q loose XP YP l.row.toRowW d [] (λf vs=>vb f vs):=
 L2.aJt (n:=63) (k:=8) (x:= "script") (CX:=λ_=>CX0) (sp:=λw=>@spD ⟨K w.params⟩ aAg 1) hn 0x4 hdf ⟨rfl,by decide,by decide⟩ hY F (λw H a ns hl hO hS=>aCm main hl hO hS) λ_ _ _ _ _ z=>z
end Lk13
end
namespace Lk13
open PySem L2 Mi
noncomputable abbrev Pt:=ag×ag
local macro_rules|`(0xc)=>`(aC rfl (aC rfl rfl))|`(0xd)=>`(aC rfl rfl)
noncomputable def enP(p:Pt):D:=.tup [.int p.1,.int p.2]
abbrev Tie:=Pt×Pt
def bO(t:Tie):D:=.tup [enP t.1,enP t.2]
def K8(p q:Pt):eqD (enP p) (enP q)=ϒ (p=q):=by
 obtain⟨a,b⟩:=p;obtain⟨c,d⟩:=q;by_cases h1:a=c<;>by_cases h2:b=d<;>simp[enP,eqD,nT,h1,h2]
def ltP(p q:Pt):Prop:=p.1<q.1\/p.1=q.1/\p.2<q.2
noncomputable instance (p q:Pt):nN (ltP p q):=by unfold ltP;infer_instance
def qG(p q:Pt):iR .lt (enP p) (enP q)=ae (ϒ (ltP p q)):=by
 obtain⟨a,b⟩:=p;obtain⟨c,d⟩:=q;by_cases h1:a=c<;>by_cases h2:b=d<;>simp[enP,iR,cV,eqD,h1,h2,gZ.int,gZ.nat,ltP]
theorem Q_(p q:Pt):iR .gt (enP p) (enP q)=ae (ϒ (ltP q p)):=by
 obtain⟨a,b⟩:=p;obtain⟨c,d⟩:=q;by_cases h1:a=c
 .by_cases h2:b=d<;>simp[enP,iR,cV,eqD,h1,h2,gZ.int,gZ.nat,ltP]
 .simp[enP,iR,cV,eqD,h1,gZ.int];simp only[ltP];lia
def aLg(p q:Pt):dC .ne (enP p) (enP q)=.ok (.bl (!ϒ (p=q))):=by
 rw[<-K8];rfl
noncomputable def ends(T:aa Tie):aa Pt:=T.flatMap λt=>[t.1,t.2]
noncomputable abbrev Pc:=ag×Str
def pcD(c:Pc):D:=.tup [.int c.1,.str c.2]
def z2:ϒ ((2:ai)<=lim)=af:=rfl
theorem nO[BEq α][LawfulBEq α]:∀(l1 l2:aa α),l1.Nodup->(∀x∈l1,x∈l2)->l1.length<=l2.length
 |[],_,_,_=>fo _
 |x::l,l2,hn,h=>by
  rw[df] at hn;have hx:=h x (bw ..);have:=nO l (l2.erase x) hn.2 λy hy=>by
   refine(List.mem_erase_of_ne ?_).mpr (h y (bu _ hy));rintro rfl;exact hn.1 hy
  rw[List.length_erase_of_mem hx] at this;have:0<l2.length:=List.length_pos_of_mem hx;simp only[cr];lia
def dR(Q:aa Pc)(T:aa Tie)(r:ag):D:=.tup [.tup (Q.map pcD),.tup (T.map bO),.int r]
def uH(Q:aa Pc):(D.tup (Q.map pcD)).pure=af:=by
 show θ (Q.map pcD)=af;induction Q with
 |nil=>rfl
 |cons q Q ih=>rw[bj,θ,ih];rfl
def qH(T:aa Tie):(D.tup (T.map bO)).pure=af:=by
 show θ (T.map bO)=af;induction T with
 |nil=>rfl
 |cons q Q ih=>rw[bj,θ,ih];rfl
def lA(l:aa Pt):θ (l.map enP)=af:=by
 induction l with
 |nil=>rfl
 |cons q Q ih=>rw[bj,θ,ih];rfl
noncomputable def abc:Str:= "abcdefghijklmnopqrstuvwxyz"
noncomputable def ltr(i:ag):Str:=⟨#[abc.cps.toList.getD i.toNat 0]⟩
theorem letter(i:ag)(h0:0<=i)(h1:i<26):getD (.str abc) (.int i)=.ok (.str (ltr i)):=by
 have hl:ϒ (abc.length<=lim)=af:=by decide +kernel
 have h26:abc.cps.toList.length=26:=by decide +kernel
 have hix:ixD abc.cps.toList.length i=ae i.toNat:=by
  unfold ixD;rw[av h0,h26,av 0x1]
 have hlt:i.toNat<abc.cps.toList.length:=by rw[h26];lia
 show(if ϒ (abc.length<=lim) then ι (((ixD abc.cps.toList.length i).bind λj=>abc.cps.toList[j]?).map λc=>ν ⟨#[c]⟩) else .bad)=_;rw[hl,av rfl,hix];simp only[Ba];unfold ltr;rw[eJ,eh hlt];rfl
noncomputable def stS(c0 at_:ag)(j:ag):ag:=if (j==at_)=af then 1 else c0 / 64 % 2*(j+2)
def chS(lt:ag->Str)(c0 at_ k:ag)(j:ag):Str:=lt ((c0 / 128 / (j*j+1)+k*stS c0 at_ j) % 26)
def nmS(lt:ag->Str)(c0 at_ k:ag):aa ai->Str->Str
 |[],nm=>nm
 |j::js,nm=>nmS lt c0 at_ k js (nm++chS lt c0 at_ k (0+(j:ag)))
theorem GD(hlt:∀i,(lt i).length=1)(hab:∀i:ag,0<=i->i<26->getD (.str ab) (.int i)=.ok (.str (lt i)))(hk0:0<=k)(hk1:k<=10):∀(js:aa ai)(nm:Str)(x y:D),(∀j∈js,j<10)->nm.length+js.length<=1000->∃x' y',
  oK (tg1 8) aH0 (js.map λ(j:ai)=>δ (0+(j:ag))) [.int c0,.int c1,.str ab,.int sz,.int at_,dk,.int k,.str nm,x,y]=.ok (.nx [.int c0,.int c1,.str ab,.int sz,.int at_,dk,.int k,.str (nmS lt c0 at_ k js nm),x',y'])
 |[],nm,x,y,_,_=>⟨x,y,rfl⟩
 |j::js,nm,x,y,hj,hl=>by
  have hj':=hj j (bw ..);rw[cr] at hl;rw[nmS];generalize hjj:(0+(j:ag))=jj;have b0:0<=jj:=by lia
  have b1:jj<10:=by lia
  have hsq:jj*jj<100:=by
   have:jj*jj<=9*9:=BS 0x1 0x1 b0 0x1;lia
  have hsq0:0<=jj*jj:=BU b0 b0;have f1:=gC c0 64 0x4 0x4;have f2:=fH (c0 / 64) 2 0x4;have f3:=d9 jj 2;have f4:=X6 (c0 / 64 % 2) (jj+2) (j6 _ 0x1 0x1);have f5:dC .eq (.int jj) (.int at_)=.ok (.bl (jj==at_)):=rfl;have f6:=gC c0 128 0x4 0x4;have f7:=X6 jj jj (j6 _ 0x1 0x1);have f8:=d9 (jj*jj) 1;have f9:=gC (c0 / 128) (jj*jj+1) 0x1 0x1;have pi:∀i:ag,(δ i).pure=af:=λ_=>rfl
  have ps:∀i:Str,(ν i).pure=af:=λ_=>rfl
  have hch:(chS lt c0 at_ k jj).length=1:=by unfold chS;exact hlt _
  obtain⟨x',y',h2⟩:=GD hlt hab hk0 hk1 js (nm++chS lt c0 at_ k jj) (.int jj) (.int (stS c0 at_ jj)) (λj hj2=>hj j (bu _ hj2)) (by rw[str_len,hch];lia);refine⟨x',y',?_⟩;rw[bj,oK,hjj];have s7:(cH aj 7 (b2 (bL .add) vU (b2 getD g_ (b2 (bL .mod) (b2 (bL .add) (b2 (bL .fdiv) (b2 (bL .fdiv) dG aBs) (b2 (bL .add) (b2 (bL .mul) uQ uQ) gK)) (b2 (bL .mul) mX BV)) aJz))) af) [.int c0,.int c1,.str ab,.int sz,.int at_,dk,.int k,.str nm,.int jj,.int (stS c0 at_ jj)]=.ok (.nx [.int c0,.int c1,.str ab,.int sz,.int at_,dk,.int k,.str (nm++chS lt c0 at_ k jj),.int jj,.int (stS c0 at_ jj)]):=by
   have g1:=yV k (stS c0 at_ jj) (j6 _ 0x1 0x1);have g2:=d9 (c0 / 128 / (jj*jj+1)) (k*stS c0 at_ jj);have g3:=fH (c0 / 128 / (jj*jj+1)+k*stS c0 at_ jj) 26 0x4;have g4:=hab ((c0 / 128 / (jj*jj+1)+k*stS c0 at_ jj) % 26) 0x1 0x1;have g6:=T3 nm (chS lt c0 at_ k jj) (by rw[hch,a_];lia);exact bI (aJ rfl (aJ rfl (aJ (aJ (aJ (aJ rfl rfl f6) (aJ (aJ rfl rfl f7) rfl f8) f9) (aJ rfl rfl g1) g2) rfl g3) g4) g6)
  have step:aH0 [.int c0,.int c1,.str ab,.int sz,.int at_,dk,.int k,.str nm,.int jj,y]=(cH aj 7 (b2 (bL .add) vU (b2 getD g_ (b2 (bL .mod) (b2 (bL .add) (b2 (bL .fdiv) (b2 (bL .fdiv) dG aBs) (b2 (bL .add) (b2 (bL .mul) uQ uQ) gK)) (b2 (bL .mul) mX BV)) aJz))) af) [.int c0,.int c1,.str ab,.int sz,.int at_,dk,.int k,.str nm,.int jj,.int (stS c0 at_ jj)]:=by
   unfold stS;cases he:(jj==at_) with
   |true=>
    rw[av rfl];exact aL (bI (aJ (aJ (aJ rfl rfl f1) rfl f2) (aJ rfl rfl f3) f4)) (aL (aGm (cX (aJ rfl rfl (f5.trans (by rw[he])))) rfl) rfl)
   |false=>
    rw[aw 0x2];exact aL (bI (aJ (aJ (aJ rfl rfl f1) rfl f2) (aJ rfl rfl f3) f4)) (aL (aGm (cX (aJ rfl rfl (f5.trans (by rw[he])))) rfl) rfl)
  have tgx:tg1 8 (.int jj) [.int c0,.int c1,.str ab,.int sz,.int at_,dk,.int k,.str nm,x,y]=.ok [.int c0,.int c1,.str ab,.int sz,.int at_,dk,.int k,.str nm,.int jj,y]:=rfl;rw[tgx,ε,step,s7,ε];exact h2
def aDk:∀(js:aa ai)(nm:Str),(nmS lt c0 at_ k js nm).cps.toList=nm.cps.toList++js.flatMap λ(j:ai)=>(chS lt c0 at_ k (0+(j:ag))).cps.toList
 |[],nm=>by rw[nmS,BY,eo]
 |j::js,nm=>by
  rw[nmS,aDk js,ie,<-c6]
  congr 1
  show(nm.cps++(chS lt c0 at_ k (0+(j:ag))).cps).toList=_;rw[gn]
theorem aIr(i:ai)(h:i<26):abc.cps.toList.getD i 0=97+i:=by
 have:∀i<26,abc.cps.toList.getD i 0=97+i:=by decide +kernel
 exact this i h
theorem aLh{c0 at_ k k':ag}{n:ai}(h0:0<=at_)(h1:at_<n)(hk:0<=k/\k<5)(hk':0<=k'/\k'<5)(h:nmS ltr c0 at_ k (bh n) ""=nmS ltr c0 at_ k' (bh n) ""):k=k':=by
 have e:=cz (λs:Str=>s.cps.toList) h;simp only[aDk] at e;have f:∀(k:ag)(l:aa ai),(l.flatMap λ(j:ai)=>(chS ltr c0 at_ k (0+(j:ag))).cps.toList)=l.map λ(j:ai)=>abc.cps.toList.getD (((c0 / 128 / ((0+(j:ag))*(0+(j:ag))+1)+k*stS c0 at_ (0+(j:ag))) % 26).toNat) 0:=by
  intro k l;induction l with
  |nil=>rfl
  |cons j l ih=>rw[ie,ih];rfl
 rw[f,f] at e;have e2:=cz (λl=>l[at_.toNat]?) (List.append_cancel_left e);simp only[iN,w8 (show at_.toNat<n by lia),Option.map_some,iq] at e2;have ha:(0+((at_.toNat:ai):ag))=at_:=by lia
 rw[ha] at e2;have hs:stS c0 at_ at_=1:=by unfold stS;rw[av 0x2]
 rw[hs,tI,tI] at e2;generalize c0 / 128 / (at_*at_+1)=X at e2;rw[aIr _ 0x1,aIr _ 0x1] at e2;lia
def nP(kvs:aa (D×D)):Prop:=∀p∈kvs,∃(s:Str)(v:ag),p=(.str s,.int v)/\0<=v/\v<=6
def aDl(h:nP kvs)(s:Str):rC kvs (.str s)=af:=by
 unfold rC;rw[show keyOk (.str s)=af from rfl,oe,dw];intro p hp;obtain⟨s',v',rfl,_⟩:=h p hp;rfl
def range_all(n:ai):∀j∈bh n,j<n:=λj hj=>jb.mp hj
def aDm(h:a ρ=.ok xs)(hl:xs.length<=lim):BW a ρ=.ok (.lst xs):=by
 unfold BW;rw[h,ε,av (by simpa using hl)];rfl
def vsS(c1:ag)(k:ai):ag:=[2+c1 % 5,2+c1 % 5,c1 / 5 % 7,c1 / 5 % 7,0].getD k 0
theorem aDn(c1:ag)(k:ai)(hk:k<5):0<=vsS c1 k/\vsS c1 k<=6/\getD (.lst [.int (2+c1 % 5),.int (2+c1 % 5),.int (c1 / 5 % 7),.int (c1 / 5 % 7),.int 0]) (.int (0+(k:ag)))=.ok (.int (vsS c1 k)):=by
 match k,hk with
 |0,_=>exact⟨by show 0<=2+c1 % 5;lia,by show 2+c1 % 5<=6;lia,rfl⟩
 |1,_=>exact⟨by show 0<=2+c1 % 5;lia,by show 2+c1 % 5<=6;lia,rfl⟩
 |2,_=>exact⟨by show 0<=c1 / 5 % 7;lia,by show c1 / 5 % 7<=6;lia,rfl⟩
 |3,_=>exact⟨by show 0<=c1 / 5 % 7;lia,by show c1 / 5 % 7<=6;lia,rfl⟩
 |4,_=>exact⟨by show(0:ag)<=0;lia,by show(0:ag)<=6;lia,rfl⟩
def nmK(c0:ag)(k:ai):Str:=nmS ltr c0 (c0 / 8 % (1+c0 % 8)) (0+(k:ag)) (bh (1+c0 % 8).toNat) ""
def skS(c0 c1:ag)(ks:aa ai):aa (D×D):=ks.map λk=>(.str (nmK c0 k),.int (vsS c1 k))
theorem aDo(h:k<5)(h':k'<5)(e:nmK c0 k=nmK c0 k'):k=k':=by
 have:=aLh (ja _ 0x1) (by have:=ko (c0 / 8) (show 0<1+c0 % 8 by lia);lia) 0x1 0x1 e;lia
theorem aIs:∀{ks:aa ai},(∀j∈ks,j<k)->k<5->putD (skS c0 c1 ks) (.str (nmK c0 k)) (.int (vsS c1 k))=skS c0 c1 (ks++[k])
 |[],_,_=>rfl
 |j::ks,h,hk=>by
  have hj:=h j (bw ..);show(if eqD (.str (nmK c0 j)) (.str (nmK c0 k)) then _ else (ν (nmK c0 j),δ (vsS c1 j))::putD (skS c0 c1 ks) (.str (nmK c0 k)) (.int (vsS c1 k)))=_;rw[aw,aIs (λi hi=>h i (bu _ hi)) hk]
  .rfl
  .intro z;have:=aDo 0x1 hk (iv.mp (show(nmK c0 j==nmK c0 k)=af from z));lia
def aPf(h:∀k∈ks,k<5):nP (skS c0 c1 ks):=λp hp=>by
 obtain⟨k,hk,rfl⟩:=aT.mp hp;obtain⟨a,b,_⟩:=aDn c1 k (h k hk);exact⟨_,_,rfl,a,b⟩
def aLi(i:ag):(ltr i).length=1:=rfl
theorem GF:∀(n m:ai)(x6 x7 x8 x9:D),m+n=5->
  ∃y6 y7 y8 y9,oK (tg1 6) aP0 ((mv m n).map λ(j:ai)=>δ (0+(j:ag))) [.int c0,.int c1,.str abc,.int (1+c0 % 8),.int (c0 / 8 % (1+c0 % 8)),.dct (skS c0 c1 (bh m)),x6,x7,x8,x9]=.ok (.nx [.int c0,.int c1,.str abc,.int (1+c0 % 8),.int (c0 / 8 % (1+c0 % 8)),.dct (skS c0 c1 (bh 5)),y6,y7,y8,y9])
 |0,m,x6,x7,x8,x9,hm=>⟨x6,x7,x8,x9,by rw[show m=5 by lia];rfl⟩
 |n+1,k,x6,x7,x8,x9,hm=>by
  obtain⟨v0,v6,hv⟩:=aDn c1 k 0x1;have hmem:∀j∈bh k,j<k:=λj hj=>jb.mp hj
  have hfit:=aDl (aPf (c0:=c0) (c1:=c1) (ks:=bh k) λj hj=>by have:=hmem j hj;lia) (nmK c0 k);have hput:=aIs (c0:=c0) (c1:=c1) hmem 0x1;rw[<-B0] at hput;have hlen:(skS c0 c1 (bh k)).length<=5:=by unfold skS;rw[aI,fR];lia
  obtain⟨u8,u9,hin⟩:=GD (c0:=c0) (c1:=c1) (sz:=1+c0 % 8) (at_:=c0 / 8 % (1+c0 % 8)) (k:=0+(k:ag)) (dk:=.dct (skS c0 c1 (bh k))) aLi letter 0x1 0x1 (bh (1+c0 % 8).toNat) "" x8 x9 (λj hj=>by have:=range_all _ j hj;lia) (by
   rw[fR];have:("" : Str).length=0:=rfl;lia)
  have hin:oK (tg1 8) aH0 ((bh (1+c0 % 8).toNat).map λ(j:ai)=>δ (0+(j:ag))) [.int c0,.int c1,.str abc,.int (1+c0 % 8),.int (c0 / 8 % (1+c0 % 8)),.dct (skS c0 c1 (bh k)),.int (0+(k:ag)),.str "",x8,x9]=.ok (.nx [.int c0,.int c1,.str abc,.int (1+c0 % 8),.int (c0 / 8 % (1+c0 % 8)),.dct (skS c0 c1 (bh k)),.int (0+(k:ag)),.str (nmK c0 k),u8,u9]):=hin;obtain⟨z6,z7,z8,z9,j4⟩:=GF (c0:=c0) (c1:=c1) n (k+1) (.int (0+(k:ag))) (.str (nmK c0 k)) u8 u9 0x1;refine⟨z6,z7,z8,z9,?_⟩;rw[om,bj];generalize nmK c0 k=nm at hfit hput hin j4;generalize hkk:(0+(k:ag))=kk at hv hin j4;generalize skS c0 c1 (bh k)=kvs at hfit hput hin hlen;have m5:=fH c1 5 0x4;have a2:=d9 2 (c1 % 5);have d5:=gC c1 5 0x4 0x4;have m7:=fH (c1 / 5) 7 0x4;refine jM (ρ1:=[.int c0,.int c1,.str abc,.int (1+c0 % 8),.int (c0 / 8 % (1+c0 % 8)),.dct kvs,.int kk,x7,x8,x9]) rfl ?_ j4;rw[<-hput];generalize abc=ab at hin;refine aL (ρ':=[.int c0,.int c1,.str ab,.int (1+c0 % 8),.int (c0 / 8 % (1+c0 % 8)),.dct kvs,.int kk,.str "",x8,x9]) (bI rfl) ?_;refine aL (ρ':=[.int c0,.int c1,.str ab,.int (1+c0 % 8),.int (c0 / 8 % (1+c0 % 8)),.dct kvs,.int kk,.str nm,u8,u9]) (jK (mH (n:=1+c0 % 8) 0xd 0x1 0x1) hin) ?_;have h1:(b2 (bL .add) tM (b2 (bL .mod) fW aFo)) [.int c0,.int c1,.str ab,.int (1+c0 % 8),.int (c0 / 8 % (1+c0 % 8)),.dct kvs,.int kk,.str nm,u8,u9]=.ok (.int (2+c1 % 5)):=aJ rfl (aJ rfl rfl m5) a2;have h2:(b2 (bL .mod) (b2 (bL .fdiv) fW aFo) aQd) [.int c0,.int c1,.str ab,.int (1+c0 % 8),.int (c0 / 8 % (1+c0 % 8)),.dct kvs,.int kk,.str nm,u8,u9]=.ok (.int (c1 / 5 % 7)):=aJ (aJ rfl rfl d5) rfl m7;exact oV (kvs:=kvs) (aJ (aDm (aC h1 (aC h1 (aC h2 (aC h2 0xd)))) (by rw[a_];simp)) rfl hv) rfl rfl (by rw[a_];lia) hfit rfl
theorem aH4(c0 c1:ag):jN [.int c0,.int c1]=.ok (.dct (skS c0 c1 (bh 5))):=by
 have m8:=fH c0 8 0x4;have a1:=d9 1 (c0 % 8);have f8:=gC c0 8 0x4 0x4;have ms:=fH (c0 / 8) (1+c0 % 8) 0x1;obtain⟨y6,y7,y8,y9,j4⟩:=GF 5 0 .uD .uD .uD .uD rfl;generalize skS c0 c1 (bh 5)=kvs' at *;have e:oZ [.int c0,.int c1,.uD,.uD,.uD,.uD,.uD,.uD,.uD,.uD]=.ok (.rt (.dct kvs')):=by
  refine aL (bI rfl) ?_;refine aL (bI (aJ rfl (aJ rfl rfl m8) a1)) ?_;refine aL (bI (aJ (aJ rfl rfl f8) rfl ms)) ?_;refine aL (cF rfl rfl) ?_;refine aL (jK (mH 0xd 0x1 0x1) j4) ?_;rfl
 show(do let r <- oZ _;aBr r)=_;rw[show([δ c0,δ c1]++c_ (10-2) D.uD)=[.int c0,.int c1,.uD,.uD,.uD,.uD,.uD,.uD,.uD,.uD] from rfl,e];rfl
def aDp(L:aa Pt)(i:ag)(h0:0<=i)(h1:i<L.length):∃p∈L,getD (.lst (L.map enP)) (.int i)=.ok (enP p):=by
 obtain⟨h,e⟩:=sX (L.map enP) i h0 (by simpa using h1);rw[aI] at h;refine⟨L[i.toNat],im _,?_⟩;rw[e];simp
def DP(o:gZ)(a b:Pt)(r:Pt->Pt->Prop)[∀x y,nN (r x y)](h:∀x y,iR o (enP x) (enP y)=ae (ϒ (r x y))):dX o [enP a,enP b]=.ok (enP (if r b a then b else a)):=by
 show sE o [enP a,enP b]=_;have hall:([enP a,enP b].all λx=>x.fD aO&&[enP a,enP b].all λy=>(iR o x y).isSome)=af:=by
  simp only[gX,B1,h,u7,jn];rfl
 rw[sE,av hall];simp only[jh,B2,h,qV];by_cases hr:r b a
 .simp[hr]
 .simp[hr]
theorem aH5[fy α]{L:aa α}(hn:L.Nodup)(ha:a∈L):(L.filter λx=>!ϒ (x=a)).length+1=L.length:=by
 induction L with
 |nil=>cases ha
 |cons x L ih=>
  rw[df] at hn;rw[oq];by_cases h:x=a
  .subst h;have:(L.filter λy=>!ϒ (y=x))=L:=B3.mpr λy hy=>by
    have:y≠x:=λz=>hn.1 (z▸hy)
    simp[this]
   simp[this]
  .rw[av (by simp[h])];rcases bq.mp ha with rfl|ha
   .exact bg rfl h
   .have:=ih hn.2 ha;simp only[cr];lia
theorem aLj(L:aa Pt)(more:ag)(hn:L.Nodup)(h2:2<=L.length)(hl:L.length<=100000):∃a b,a∈L/\b∈L/\ltP a b/\gP [.lst (L.map enP),.int more]=.ok (bO (a,b)):=by
 have hpos:(0:ag)<(L.length:ag):=by lia
 have g0:=fH more L.length hpos;obtain⟨one,h1,e1⟩:=aDp L (more % L.length) (ja _ 0x1) (ko _ hpos);have hf:=aH5 hn h1
 let R:=L.filter λx=>!ϒ (x=one)
 have hR:R.length+1=L.length:=hf;have hRp:(0:ag)<(R.length:ag):=by lia
 have g1:=gC more L.length hpos 0x1;have g2:=fH (more / L.length) R.length hRp;obtain⟨other,h3,e3⟩:=aDp R (more / L.length % R.length) (ja _ 0x1) (ko _ hRp);have h4:other∈L/\other≠one:=by
  have:=ky.mp h3;exact⟨this.1,by simpa using this.2⟩
 have lL:fV [.lst (L.map enP)]=.ok (.int L.length):=by rw[lH,aI]
 have lR:fV [.lst (R.map enP)]=.ok (.int R.length):=by rw[lH,aI]
 have mn:=DP .lt one other ltP qG;have mx:=DP .gt one other (λx y=>ltP y x) Q_;have tri:ltP one other\/ltP other one:=by
  have:one≠other:=λz=>h4.2 z.symm
  simp only[ltP];by_cases hh:one.1=other.1
  .have:one.2≠other.2:=λz=>this (Prod.ext hh z)
   lia
  .lia
 have aFm:ltP other one->¬ltP one other:=by
  simp only[ltP];lia
 have body:sZ [.lst (L.map enP),.int more,.uD,.uD,.uD]=.ok (.rt (.tup [enP (if ltP other one then other else one),enP (if ltP one other then other else one)])):=by
  refine aL (sW (aJ rfl (aJ rfl (aK 0xd lL) g0) e1) rfl) ?_;refine aL (ρ':=[.lst (L.map enP),.int more,enP one,.lst (R.map enP),.uD]) (bI (i_ (jZ rfl rfl) (by rw[aI,a_];lia) ?_)) ?_
  .rw[mJ _ enP (λx=>!ϒ (x=one)) enP]
   .rfl
   .intro acc p;exact kW rfl (cX (aJ rfl rfl (aLg p one))) λ_=>⟨rfl,rfl⟩
  refine aL (sW (aJ rfl (aJ (aJ rfl (aK 0xd lL) g1) (aK 0xd lR) g2) e3) rfl) ?_;exact fX (c7 (aC (aK 0xc mn) (aC (aK 0xc mx) rfl)) (by rw[a_];simp)) rfl
 have ev:gP [.lst (L.map enP),.int more]=.ok (.tup [enP (if ltP other one then other else one),enP (if ltP one other then other else one)]):=by
  show(do let r <- sZ _;aBr r)=_;rw[show([ξ (L.map enP),δ more]++c_ (5-2) D.uD)=[.lst (L.map enP),.int more,.uD,.uD,.uD] from rfl,body];rfl
 rcases tri with h|h
 .have n:¬ltP other one:=λz=>aFm z h
  rw[aw n,av h] at ev;exact⟨one,other,h1,h4.1,h,ev⟩
 .rw[av h,aw (aFm h)] at ev;exact⟨other,one,h4.1,h1,h,ev⟩
theorem RB(hp:∀x∈xs,x.pure=af)(hl:xs.length<=10000):∀(n k:ai)(F:aa D)(x3:D),k+n=xs.length->F.Perm (xs.take k)->∃(F':aa D)(y3:D),F'.Perm xs/\
  oK (tg1 3) rb1 ((mv k n).map λ(j:ai)=>δ (0+(j:ag))) [.lst xs,.int seed,.lst F,x3]=.ok (.nx [.lst xs,.int seed,.lst F',y3])
 |0,k,F,x3,h1,h2=>⟨F,x3,by rw[jg 0x1] at h2;exact h2,rfl⟩
 |n+1,k,F,x3,h1,h2=>by
  rw[om,bj];generalize hkk:(0+(k:ag))=kk;have hkl:k<xs.length:=by lia
  have hkk':kk=(k:ag):=by lia
  have hsq:kk*kk<=10000*10000:=BS 0x1 0x1 0x1 0x1;have hsq0:0<=kk*kk:=BU 0x1 0x1;have g1:=d9 kk 1;have g2:=gC seed (kk+1) 0x1 0x1;have g3:=X6 kk kk (j6 _ 0x1 0x1);have g4:=d9 (seed / (kk+1)) (kk*kk);have g5:=fH (seed / (kk+1)+kk*kk) (kk+1) 0x1;generalize hj:(seed / (kk+1)+kk*kk) % (kk+1)=j at g5;have j0:0<=j:=by rw[<-hj];exact ja _ 0x1
  have j1:j<kk+1:=by rw[<-hj];exact ko _ 0x1
  have hF:F.length=k:=by rw[h2.length_eq,ig];lia
  have hg:getD (.lst xs) (.int kk)=.ok xs[k]:=by
   obtain⟨h,e⟩:=sX xs kk 0x1 0x1;rw[e]
   congr 2
   lia
  have hperm:(F.take j.toNat++xs[k]::F.drop j.toNat).Perm (xs.take (k+1)):=by
   refine B4.trans ?_;rw[l7,mr hkl];exact(B5 _ h2).trans (List.perm_append_singleton _ _).symm
  obtain⟨F',y3,i1,i2⟩:=RB hp hl n (k+1) (F.take j.toNat++xs[k]::F.drop j.toNat) (.int kk) 0x1 hperm;refine⟨F',y3,i1,?_⟩;refine jM rfl (aOl (aJ (aJ (aJ rfl (aJ rfl rfl g1) g2) (aJ rfl rfl g3) g4) (aJ rfl rfl g1) g5) (aJ rfl rfl hg) rfl (by rw[a_];lia) (hp _ (im _)) j0 0x1) ?_;rw[<-i2];rfl
theorem V3(seed:ag)(hp:∀x∈xs,x.pure=af)(hl:xs.length<=10000):∃ys:aa D,ys.Perm xs/\b_ 2 cR [.lst xs,.int seed]=.ok (.lst ys):=by
 obtain⟨ys,y3,h1,h2⟩:=RB hp hl xs.length 0 [] .uD 0x1 0x2;refine⟨ys,h1,(cQ rfl).trans ?_⟩;have e:kZ [.lst xs,.int seed,.uD,.uD]=.ok (.rt (.lst ys)):=by
  refine aL (cF rfl rfl) ?_;refine aL (ρ':=[.lst xs,.int seed,.lst ys,y3]) (jK (mH (aC (aK 0xd (lH xs)) rfl) 0x1 0x1) ?_) ?_
  .rw[<-h2,show((xs.length:ag)).toNat=xs.length by lia,sN]
   try rfl
  rfl
 show(do let r <- kZ _;aBr r)=_;rw[show([ξ xs,δ seed]++c_ (4-2) D.uD)=[.lst xs,.int seed,.uD,.uD] from rfl,e];rfl
def xJ(f:α->D)(g:D->α)(h:∀a,g (f a)=a)(p:ys.Perm (L.map f)):∃L':aa α,L'.Perm L/\ys=L'.map f:=by
 refine⟨ys.map g,?_,?_⟩
 .refine(p.map g).trans ?_;rw[bP];refine C5 ?_
  conv=>rhs;rw[<-gq L]
  exact dh λa _=>h a
 .rw[bP]
  conv=>lhs;rw[<-gq ys]
  refine dh λy hy=>?_
  obtain⟨a,_,rfl⟩:=aT.mp (p.mem_iff.mp hy);show f a=f (g (f a));rw[h]
noncomputable def unI:D->ag
 |.int i=>i
 |_=>0
noncomputable def rim(s:ag):Pt:=(0,s)
def uI(T:aa Tie)(t:Tie):ends (T++[t])=ends T++[t.1,t.2]:=by simp[ends]
theorem aPg{L:aa Pt}{S:aa ag}(hL:∀p∈L,0<p.1):∀(n k:ai)(T:aa Tie)(x4:D),L.length=k+n->k+n<=S.length->T.length+n<=10000->∃(T':aa Tie)(y4:D),(ends T').Perm (ends T++(L.drop k++((S.drop k).take n).map rim))/\(∀t∈T',t∈T\/ltP t.1 t.2)/\T'.length=T.length+n/\
  oK (tg1 5) rb2 ((mv k n).map λ(j:ai)=>δ (0+(j:ag))) [.lst (L.map enP),.int bare,.int seed,.lst (S.map δ),.lst (T.map bO),x4,a6]=.ok (.nx [.lst (L.map enP),.int bare,.int seed,.lst (S.map δ),.lst (T'.map bO),y4,a6])
 |0,k,T,x4,h1,_,_=>⟨T,x4,by rw[nB 0x1];simp,λt ht=>.inl ht,rfl,rfl⟩
 |n+1,k,T,x4,h1,h2,h3=>by
  have hk1:k<L.length:=by lia
  have hk2:k<S.length:=by lia
  have e1:getD (.lst (S.map δ)) (.int (0+(k:ag)))=.ok (.int S[k]):=by
   obtain⟨h,e⟩:=sX (S.map δ) (0+(k:ag)) 0x1 (by rw[aI];lia);rw[e];simp
  have e2:getD (.lst (L.map enP)) (.int (0+(k:ag)))=.ok (enP L[k]):=by
   obtain⟨h,e⟩:=sX (L.map enP) (0+(k:ag)) 0x1 (by rw[aI];lia);rw[e];simp
  have hpos:=hL L[k] (im _);obtain⟨T',y4,i1,i2,i3,i4⟩:=aPg (S:=S) hL n (k+1) (T++[(rim S[k],L[k])]) (.int (0+(k:ag))) 0x1 0x1 (by simp;lia);refine⟨T',y4,?_,λt ht=>?_,by rw[i3];simp;lia,?_⟩
  .refine i1.trans ?_;rw[uI,c6];refine kq _ ?_;rw[ij hk1,ij hk2,List.take_succ_cons,bj];show(rim S[k]::L[k]::(L.drop (k+1)++((S.drop (k+1)).take n).map rim)).Perm (L[k]::(L.drop (k+1)++rim S[k]::((S.drop (k+1)).take n).map rim));exact(List.Perm.swap ..).trans (B5 _ B4.symm)
  .rcases i2 t ht with h|h
   .rcases cw.mp h with h|h
    .exact .inl h
    .have:t=(rim S[k],L[k]):=by simpa using h
     subst this;exact .inr (.inl hpos)
   .exact .inr h
  .rw[om,bj];refine jM rfl (jL (c7 (aC (c7 (aC rfl (aC (aJ rfl rfl e1) rfl)) (by rw[a_];simp)) (aC (aJ rfl rfl e2) rfl)) (by rw[a_];simp)) rfl (by rw[aI,a_];lia) rfl) ?_;rw[<-i4,cu];rfl
def aRx(h1:a ρ=.ok x)(h2:l ρ=.ok i)(h3:h ρ=.ok j)(h4:aFp x i j=.ok d):aI6 a l h ρ=.ok d:=by
 unfold aI6;rw[h1,ε,h2,ε,h3,ε,h4]
def aDq(h1:a ρ=.ok (.int i)):O3 a ρ=.ok (ae i):=by
 unfold O3;rw[h1,ε];rfl
def aPh(o:gZ)(a b:ag)(r:ag->ag->Prop)[∀x y,nN (r x y)](h:∀x y,iR o (.int x) (.int y)=ae (ϒ (r x y))):dX o [.lst [.int a,.int b]]=.ok (.int (if r b a then b else a)):=by
 show sE o [.int a,.int b]=_;have hall:([δ a,δ b].all λx=>x.fD aO&&[δ a,δ b].all λy=>(iR o x y).isSome)=af:=by
  simp only[gX,B1,h,u7,jn];rfl
 rw[sE,av hall];simp only[jh,B2,h,qV];by_cases hr:r b a
 .simp[hr]
 .simp[hr]
theorem aPi{L:aa Pt}{S:aa ag}(hS:S.Nodup)(hb:S.length<=10000):∀(n k:ai)(T:aa Tie)(x4 x6:D),L.length+2*(k+n)=S.length->T.length+n<=10000->∃(T':aa Tie)(y4 y6:D),(ends T').Perm (ends T++(S.drop (L.length+2*k)).map rim)/\(∀t∈T',t∈T\/ltP t.1 t.2)/\T'.length=T.length+n/\
  oK (tg1 5) rb3 ((mv k n).map λ(j:ai)=>δ (0+(j:ag))) [.lst (L.map enP),.int bare,.int seed,.lst (S.map δ),.lst (T.map bO),x4,x6]=.ok (.nx [.lst (L.map enP),.int bare,.int seed,.lst (S.map δ),.lst (T'.map bO),y4,y6])
 |0,k,T,x4,x6,h1,_=>⟨T,x4,x6,by rw[nB 0x1];simp,λt ht=>.inl ht,rfl,rfl⟩
 |n+1,k,T,x4,x6,h1,h3=>by
  have hi:L.length+2*k<S.length:=by lia
  have hi2:L.length+2*k+1<S.length:=by lia
  have hd:S.drop (L.length+2*k)=S[L.length+2*k]::S[L.length+2*k+1]::S.drop (L.length+2*(k+1)):=by
   rw[ij hi,ij hi2];rfl
  generalize ha:S[L.length+2*k]=a at hd;generalize hb':S[L.length+2*k+1]=b at hd;have hab:a≠b:=by
   have:=(List.drop_sublist (L.length+2*k) S).nodup hS;rw[hd,df] at this;intro z;subst z;exact this.1 (bw ..)
  have lL:fV [.lst (L.map enP)]=.ok (.int L.length):=by rw[lH,aI]
  generalize hkk:(0+(k:ag))=kk;have m2:=yV 2 kk (j6 _ 0x1 0x1);have a1:=d9 L.length (2*kk);have a2:=d9 (L.length+2*kk) 2;have sl:aFp (.lst (S.map δ)) (ae (L.length+2*kk)) (ae (L.length+2*kk+2))=.ok (.lst [.int a,.int b]):=by
   simp only[aFp,eO,cq]
   congr 2
   have e1:W4 (S.map δ).length 0 (ae ((L.length:ag)+2*kk))=L.length+2*k:=by
    simp only[W4,aI];rw[aw 0x1];lia
   have e2:W4 (S.map δ).length (S.map δ).length (ae ((L.length:ag)+2*kk+2))=L.length+2*k+2:=by
    simp only[W4,aI];rw[aw 0x1];lia
   unfold cutD;rw[e1,e2,<-Bd,hd,show L.length+2*k+2-(L.length+2*k)=2 by lia];rfl
  have mn:=aPh .lt a b (λx y=>x<y) λx y=>rfl
  have mx:=aPh .gt a b (λx y=>y<x) λx y=>rfl
  have main:∃u v:ag,(u=a/\v=b\/u=b/\v=a)/\u<v/\dX .lt [.lst [.int a,.int b]]=.ok (.int u)/\dX .gt [.lst [.int a,.int b]]=.ok (.int v):=by
   by_cases hlt:b<a
   .rw[av hlt] at mn;rw[aw 0x1] at mx;exact⟨b,a,.inr ⟨rfl,rfl⟩,hlt,mn,mx⟩
   .rw[aw hlt] at mn;rw[av 0x1] at mx;exact⟨a,b,.inl ⟨rfl,rfl⟩,by lia,mn,mx⟩
  obtain⟨u,v,huv,hlt,mn,mx⟩:=main;obtain⟨T',y4,y6,i1,i2,i3,i4⟩:=aPi (L:=L) hS hb n (k+1) (T++[(rim u,rim v)]) (.int kk) (.lst [.int a,.int b]) 0x1 (by simp;lia);refine⟨T',y4,y6,?_,λt ht=>?_,by rw[i3];simp;lia,?_⟩
  .refine i1.trans ?_;rw[uI,c6];refine kq _ ?_;rw[hd];rcases huv with ⟨rfl,rfl⟩|⟨rfl,rfl⟩
   .exact C6 _
   .exact List.Perm.swap ..
  .rcases i2 t ht with h|h
   .rcases cw.mp h with h|h
    .exact .inl h
    .have:t=(rim u,rim v):=by simpa using h
     subst this;exact .inr (.inr ⟨rfl,hlt⟩)
   .exact .inr h
  .rw[om,bj,hkk];refine jM (ρ1:=[.lst (L.map enP),.int bare,.int seed,.lst (S.map δ),.lst (T.map bO),.int kk,x6]) rfl (aL (ρ':=[.lst (L.map enP),.int bare,.int seed,.lst (S.map δ),.lst (T.map bO),.int kk,.lst [.int a,.int b]]) (bI (aRx rfl (aDq (aJ (aK 0xd lL) (aJ rfl rfl m2) a1)) (aDq (aJ (aJ (aK 0xd lL) (aJ rfl rfl m2) a1) rfl a2)) sl)) (jL (xs:=T.map bO) (c7 (aC (c7 (aC rfl (aC (aK 0xd mn) rfl)) (by rw[a_];simp)) (aC (c7 (aC rfl (aC (aK 0xd mx) rfl)) (by rw[a_];simp)) rfl)) (by rw[a_];simp)) rfl (by rw[aI,a_];lia) rfl)) ?_;rw[<-i4,cu];rfl
theorem aDr(L:aa Pt)(bare:ai)(seed:ag)(hL:∀p∈L,0<p.1)(hl:L.length+2*bare<=5000):∃(R:aa Tie)(S:aa ag),S.Nodup/\S.Perm ((bh S.length).map λ(k:ai)=>(k:ag))/\(ends R).Perm (L++S.map rim)/\(∀t∈R,ltP t.1 t.2)/\R.length=L.length+bare/\iH [.lst (L.map enP),.int bare,.int seed]=.ok (.lst (R.map bO)):=by
 have lL:fV [.lst (L.map enP)]=.ok (.int L.length):=by rw[lH,aI]
 have m2:=yV 2 (bare:ag) (j6 _ 0x1 0x1);have a1:=d9 L.length (2*(bare:ag));have hr:X7 [.int (L.length+2*(bare:ag))]=.ok (.lst (((bh (L.length+2*bare)).map λ(k:ai)=>(k:ag)).map δ)):=by
  show(if ϒ (-1000000<=(L.length:ag)+2*(bare:ag))&&ϒ ((L.length:ag)+2*(bare:ag)<=1000000) then τ (ξ ((bh ((L.length:ag)+2*(bare:ag)).toNat).map λ(k:ai)=>δ k)) else .bad)=_;rw[av (by rw[cm 0x1,cm 0x1];rfl),show((L.length:ag)+2*(bare:ag)).toNat=L.length+2*bare by lia,bP];rfl
 obtain⟨ys,p0,s4⟩:=V3 (xs:=((bh (L.length+2*bare)).map λ(k:ai)=>(k:ag)).map δ) seed (λx hx=>by
  obtain⟨a,_,rfl⟩:=aT.mp hx;rfl) (by simp;lia)
 obtain⟨S,pS,rfl⟩:=xJ δ unI (λ_=>rfl) p0;have s1:S.length=L.length+2*bare:=by rw[pS.length_eq];simp
 have s2:∀s∈S,0<=s/\s<S.length:=λs hs=>by
  obtain⟨k,hk,rfl⟩:=aT.mp (pS.mem_iff.mp hs);have:=jb.mp hk;lia
 have s3:S.Nodup:=pS.nodup_iff.mpr (w_ _ (λa b hab z=>hab 0x1) sP);obtain⟨T1,z4,t1,t2,t3,t4⟩:=aPg (bare:=bare) (seed:=seed) (a6:=.uD) (L:=L) (S:=S) hL L.length 0 [] .uD 0x1 0x1 (by simp;lia);obtain⟨T2,w4,w6,u1,u2,u3,u4⟩:=aPi (bare:=bare) (seed:=seed) (L:=L) (S:=S) s3 0x1 bare 0 T1 z4 .uD 0x1 (by rw[t3];simp;lia);refine⟨T2,S,s3,by rw[s1];exact pS,?_,λt ht=>?_,by rw[u3,t3];simp,?_⟩
 .refine u1.trans ?_;have t1':(ends T1).Perm (L++(S.take L.length).map rim):=by simpa[ends] using t1
  refine(t1'.append_right _).trans ?_;rw[c6,<-cu];simp only[Nat.mul_zero,vd];rw[l7]
 .rcases u2 t ht with h|h
  .rcases t2 t h with h|h
   .cases h
   .exact h
  .exact h
 .have e:nA [.lst (L.map enP),.int bare,.int seed,.uD,.uD,.uD,.uD]=.ok (.rt (.lst (T2.map bO))):=by
   refine aL (ρ':=[.lst (L.map enP),.int bare,.int seed,.lst (S.map δ),.uD,.uD,.uD]) (bI (i:=3) (aK (xs:=[.lst (((bh (L.length+2*bare)).map λ(k:ai)=>(k:ag)).map δ),.int seed]) (aC (aK (xs:=[.int (L.length+2*(bare:ag))]) (aC (aJ (aK 0xd lL) (aJ rfl rfl m2) a1) rfl) hr) 0xd) s4)) ?_;refine aL (ρ':=[.lst (L.map enP),.int bare,.int seed,.lst (S.map δ),.lst [],.uD,.uD]) (cF rfl rfl) ?_;refine aL (ρ':=[.lst (L.map enP),.int bare,.int seed,.lst (S.map δ),.lst (T1.map bO),z4,.uD]) (jK (mH (n:=L.length) (aC (aK 0xd lL) rfl) 0x1 0x1) ?_) ?_
   .rw[<-t4,show((L.length:ag)).toNat=L.length by lia,sN];rfl
   refine aL (ρ':=[.lst (L.map enP),.int bare,.int seed,.lst (S.map δ),.lst (T2.map bO),w4,w6]) (jK (mH (n:=bare) 0xd 0x1 0x1) ?_) ?_
   .rw[<-u4,show((bare:ag)).toNat=bare by lia,sN]
    try rfl
   rfl
  show(do let r <- nA _;aBr r)=_;rw[show([ξ (L.map enP),δ bare,δ seed]++c_ (7-3) D.uD)=[.lst (L.map enP),.int bare,.int seed,.uD,.uD,.uD,.uD] from rfl,e];rfl
def vOf(kvs:aa (D×D))(s:Str):ai:=match bB kvs (.str s) with
 |some (.int v)=>v.toNat
 |_=>0
def YG{v:ai}(h:bB kvs (.str s)=ae (.int v)):vOf kvs s=v:=by
 unfold vOf;rw[h];rfl
def aH6(kvs:aa (D×D))(pc:Pc):aa Pt:=(bh (vOf kvs pc.2+1)).map λ(h:ai)=>((pc.1,(h:ag)):Pt)
def hks(kvs:aa (D×D))(Q:aa Pc):aa Pt:=Q.flatMap (aH6 kvs)
structure Gr(kvs:aa (D×D))(Q:aa Pc)(L:aa Pt)(T:aa Tie)(num:ag):Prop where
 nd:(ends T++L).Nodup
 qn:(Q.map (·.1)).Nodup
 qb:∀pc∈Q,0<pc.1/\pc.1<=num
 n0:0<=num
 chf:∀pc∈Q,(pc.1,(0:ag))∈ends T++L
 num:∀e∈ends T++L,e.1∈Q.map (·.1)
 lt:∀t∈T,ltP t.1 t.2
 ll:L.length<=7*Q.length
 ql:Q.length<=10
 qs:Q.Pairwise λa b=>a.1<b.1
 pm:(ends T++L).Perm (hks kvs Q)
 sk:∀pc∈Q,∃v:ai,v<=6/\bB kvs (.str pc.2)=ae (.int v)
def Gr.perm{num:ag}(g:Gr kvs Q L T num)(p:(ends T'++L').Perm (ends T++L))(hlt:∀t∈T',ltP t.1 t.2)(hl:L'.length<=L.length):Gr kvs Q L' T' num:=
 ⟨p.nodup_iff.mpr g.nd,g.qn,g.qb,g.n0,λpc h=>p.mem_iff.mpr (g.chf pc h),λe h=>g.num e (p.mem_iff.mp h),hlt,du hl g.ll,g.ql,g.qs,p.trans g.pm,g.sk⟩
def Gr.ln{num:ag}(g:Gr kvs Q L T num):L.Nodup:=(fg.mp g.nd).2.1
theorem Gr.tie{num:ag}(g:Gr kvs Q L T num){a b:Pt}(ha:a∈L)(hb:b∈L)(h:ltP a b):Gr kvs Q (L.filter λx=>!(ϒ (a=x)||ϒ (b=x))) (T++[(a,b)]) num:=by
 have hab:a≠b:=λz=>by subst z;simp only[ltP] at h;lia
 have split:∀{L:aa Pt},L.Nodup->a∈L->b∈L->(a::b::L.filter λx=>!(ϒ (a=x)||ϒ (b=x))).Perm L:=by
  intro L hn ha hb;refine(List.perm_iff_count).mpr λx=>?_
  rw[B6,B6];have hc:∀{M:aa Pt}(y:Pt),M.Nodup->List.count y M=if y∈M then 1 else 0:=λ{M} y hm=>C7 hm
  rw[hc x hn,hc x (B7.nodup hn)];simp only[ky,jk,Bool.or_eq_false_iff,kX,iv];by_cases h1:a=x
  .subst h1;have:¬b=a:=λz=>hab z.symm
   simp[ha,this]
  .by_cases h2:b=x
   .subst h2;simp[hb,h1]
   .simp[h1,h2]
 refine g.perm ?_ (λt ht=>?_) (lb ..)
 .rw[uI,c6];exact kq _ (split g.ln ha hb)
 .rcases cw.mp ht with ht|ht
  .exact g.lt t ht
  .have:t=(a,b):=by simpa using ht
   subst this;exact h
theorem Gr.piece{num:ag}(g:Gr kvs Q L T num){n:ag}{s:Str}{v:ai}(hn:num<n)(hv:v<=6)(hlk:bB kvs (.str s)=ae (.int v))(hq:Q.length<10):Gr kvs (Q++[(n,s)]) (L++(bh (v+1)).map λ(h:ai)=>((n,(h:ag)):Pt)) T n:=by
 have old:∀e∈ends T++L,e.1<=num:=λe he=>by
  obtain⟨pc,h1,h2⟩:=aT.mp (g.num e he);have:=g.qb pc h1;lia
 have newm:∀e∈(bh (v+1)).map (λ(h:ai)=>((n,(h:ag)):Pt)),e.1=n:=λe he=>by
  obtain⟨h,_,rfl⟩:=aT.mp he;rfl
 refine⟨?_,?_,λpc h=>?_,by have:=g.n0;lia,λpc h=>?_,λe he=>?_,g.lt,?_,by simp;lia,mz.mpr ⟨g.qs,by simp,λa ha b hb=>by have:=g.qb a ha;rw[show b=(n,s) from by simpa using hb];show a.1<n;lia⟩,?_,λpc h=>?_⟩
 .rw[<-c6];refine fg.mpr ⟨g.nd,?_,λa ha b hb z=>?_⟩
  .refine w_ _ ?_ sP;intro a b hab z;have:(a:ag)=b:=cz mB z;lia
  .subst z;have:=old a ha;rw[newm a hb] at this;lia
 .rw[cu];refine fg.mpr ⟨g.qn,by simp,λa ha b hb z=>?_⟩;subst z;obtain⟨pc,h1,h2⟩:=aT.mp ha;have:=g.qb pc h1;have:a=n:=by simpa using hb
  lia
 .rcases cw.mp h with h|h
  .have:=g.qb pc h;lia
  .have:pc=(n,s):=by simpa using h
   subst this;have:=g.n0;show 0<n/\n<=n;lia
 .rw[<-c6];rcases cw.mp h with h|h
  .exact eg _ (g.chf pc h)
  .have:pc=(n,s):=by simpa using h
   subst this;exact en _ (aT.mpr ⟨0,by simp,rfl⟩)
 .rw[<-c6] at he;rw[cu];rcases cw.mp he with he|he
  .exact eg _ (g.num e he)
  .rw[newm e he];exact en _ 0x2
 .have:=g.ll;simp;lia
 .rw[<-c6];have e:hks kvs (Q++[(n,s)])=hks kvs Q++(bh (v+1)).map λ(h:ai)=>((n,(h:ag)):Pt):=by
   simp only[hks,kr,ie,BY,eo,aH6,YG hlk]
  rw[e];exact g.pm.append_right _
 .rcases cw.mp h with h|h
  .exact g.sk pc h
  .have:pc=(n,s):=by simpa using h
   subst this;exact⟨v,hv,hlk⟩
section
variable {kvs:aa (D×D)} {cells:D} {seed:ag} {NS:aa Str}
@[reducible] noncomputable def St(kvs:aa (D×D))(cells:D)(seed:ag)(NS:aa Str)(Q:aa Pc)(L:aa Pt)(T:aa Tie)(nv:D)(bare rings:ag)(c m sm:D):aa D:=
 [.dct kvs,cells,.int seed,.lst (NS.map ν),.lst (Q.map pcD),.lst (L.map enP),.lst (T.map bO),.int bare,.int rings,c,m,sm,nv]
theorem aPj(hl:L.length<=10000):∃SM:aa Pt,SM.Sublist L/\∀r,gbr (St kvs cells seed NS Q L T nv bare rings (.int c) (.int (c / 8)) (.lst (SM.map enP)))=r->aAb (St kvs cells seed NS Q L T nv bare rings (.int c) m sm)=r:=by
 have f8:=gC c 8 0x4 0x4;have m8:=fH c 8 0x4;have ce:dC .eq (.int (c % 8)) (.int 5)=.ok (.bl (c % 8==5)):=rfl;have s1:cH aj 10 (b2 (bL .fdiv) BV W5) af (St kvs cells seed NS Q L T nv bare rings (.int c) m sm)=.ok (.nx (St kvs cells seed NS Q L T nv bare rings (.int c) (.int (c / 8)) sm)):=bI (aJ rfl rfl f8);have s2:sAl 11 5 (St kvs cells seed NS Q L T nv bare rings (.int c) (.int (c / 8)) sm)=.ok (.nx (St kvs cells seed NS Q L T nv bare rings (.int c) (.int (c / 8)) (.lst (L.map enP)))):=aRj rfl;have tc:bTB (b2 (dC .eq) (b2 (bL .mod) BV W5) aFo) (St kvs cells seed NS Q L T nv bare rings (.int c) (.int (c / 8)) (.lst (L.map enP)))=.ok (c % 8==5):=cX (aJ (aJ rfl rfl m8) rfl ce);unfold aAb;cases h:(c % 8==5) with
 |true=>
  rw[h] at tc;refine⟨L.filter λx=>x.2==0,B7,λr hr=>?_⟩;have cf:fJ 13 (dN fZ aj) HR (bTB (b2 (dC .eq) (b2 getD rZ gK) fU)) rZ aj (St kvs cells seed NS Q L T nv bare rings (.int c) (.int (c / 8)) (.lst (L.map enP)))=.ok (.lst ((L.filter λx=>x.2==0).map enP)):=by
   refine i_ (jZ rfl rfl) (by rw[aI,a_];lia) ?_;rw[mJ _ enP (λx=>x.2==0) enP]
   .rfl
   .intro acc p;have e1:b2 getD rZ gK (St kvs cells seed NS Q L T nv bare rings (.int c) (.int (c / 8)) (.lst (L.map enP))++[enP p])=.ok (.int p.2):=aJ rfl rfl rfl;have e2:dC .eq (.int p.2) (.int 0)=.ok (.bl (p.2==0)):=rfl;exact kW rfl (cX (aJ e1 rfl e2)) λ_=>⟨rfl,rfl⟩
  have s3:sIf (bTB (b2 (dC .eq) (b2 (bL .mod) BV W5) aFo)) (cH aj 11 (fJ 13 (dN fZ aj) HR (bTB (b2 (dC .eq) (b2 getD rZ gK) fU)) rZ aj) af) n8 (St kvs cells seed NS Q L T nv bare rings (.int c) (.int (c / 8)) (.lst (L.map enP)))=.ok (.nx (St kvs cells seed NS Q L T nv bare rings (.int c) (.int (c / 8)) (.lst ((L.filter λx=>x.2==0).map enP)))):=BL tc (bI cf);exact aL s1 (aL s2 (aL s3 hr))
 |false=>
  rw[h] at tc;refine⟨L,C8 _,λr hr=>?_⟩;exact aL s1 (aL s2 (aL (nY tc rfl) hr))
def mV(NS:aa Str)(i:ag)(h0:0<=i)(h1:i<NS.length):∃s∈NS,getD (.lst (NS.map ν)) (.int i)=.ok (.str s):=by
 obtain⟨h,e⟩:=sX (NS.map ν) i h0 (by simpa using h1);rw[aI] at h;refine⟨NS[i.toNat],im _,?_⟩;rw[e];simp
theorem RC:∀{kvs:aa (D×D)},nP kvs->ν s∈lO kvs->∃v:ai,v<=6/\bB kvs (.str s)=ae (.int v)
 |[],_,hm=>by cases hm
 |p::r,h,hm=>by
  obtain⟨s',v,rfl,h0,h1⟩:=h _ (bw ..);rw[bB];by_cases e:eqD (.str s') (.str s)=af
  .rw[av e];exact⟨v.toNat,by lia,by congr 2;lia⟩
  .rw[aw e];refine RC (λp hp=>h p (bu _ hp)) ?_;rcases bq.mp (show ν s∈ν s'::lO r from hm) with z|z
   .cases z;exact bg (by simp[eqD]) e
   .exact z
def aRy(Q:aa Pc):fV [.lst (Q.map pcD)]=.ok (.int Q.length):=by rw[lH,aI]
def aTm(Q:aa Str):fV [.lst (Q.map ν)]=.ok (.int Q.length):=by rw[lH,aI]
def aRz(Q:aa Pt):fV [.lst (Q.map enP)]=.ok (.int Q.length):=by rw[lH,aI]
theorem aLk(hst:nP kvs)(hNS:lO kvs=NS.map ν)(hne:NS≠[])(hNl:NS.length<=1000)(g:Gr kvs Q L T (Q.length:ag))(hT:T.length<=1000)(hb:bare<=1000)(hr:0<=rings) :
  ∃(Q':aa Pc)(L':aa Pt)(T':aa Tie)(nv':D)(rings':ag)(bare':ai)(m' sm':D),Gr kvs Q' L' T' (Q'.length:ag)/\0<=rings'/\T'.length<=T.length+1/\bare'<=bare+1/\aAb (St kvs cells seed NS Q L T nv bare rings (.int c) m sm)=.ok (.nx (St kvs cells seed NS Q' L' T' nv' bare' rings' (.int c) m' sm')):=by
 have hll:=g.ll;have hql:=g.ql;obtain⟨SM,hSM,pre⟩:=aPj (kvs:=kvs) (cells:=cells) (seed:=seed) (NS:=NS) (Q:=Q) (L:=L) (T:=T) (nv:=nv) (bare:=bare) (rings:=rings) (c:=c) (m:=m) (sm:=sm) 0x1;have m8:=fH c 8 0x4;have c4:dC (.ord .lt) (.int (c % 8)) (.int 4)=.ok (.bl (ϒ (c % 8<4))):=rfl;have c60:dC (.ord .lt) (.int Q.length) (.int 10)=.ok (.bl (ϒ ((Q.length:ag)<10))):=rfl;have c46:dC (.ord .le) (.int 4) (.int (c % 8))=.ok (.bl (ϒ (4<=c % 8))):=rfl;have c66:dC (.ord .lt) (.int (c % 8)) (.int 6)=.ok (.bl (ϒ (c % 8<6))):=rfl;have c1:dC (.ord .gt) (.int SM.length) (.int 1)=.ok (.bl (ϒ ((1:ag)<SM.length))):=rfl;have e6:dC .eq (.int (c % 8)) (.int 6)=.ok (.bl (c % 8==6)):=rfl;have e7:dC .eq (.int (c % 8)) (.int 7)=.ok (.bl (c % 8==7)):=rfl;have hNp:(0:ag)<(NS.length:ag):=by
  cases NS with
  |nil=>exact bg rfl hne
  |cons _ _=>simp
 -- the first test
 have t1:∀b,b=(ϒ (c % 8<4)&&ϒ ((Q.length:ag)<10))->aBu (bTB (b2 (dC (.ord .lt)) (b2 (bL .mod) BV W5) aBt)) (bTB (b2 (dC (.ord .lt)) (aP fV (aD gD aX)) aG7)) (St kvs cells seed NS Q L T nv bare rings (.int c) (.int (c / 8)) (.lst (SM.map enP)))=.ok b:=by
  rintro b rfl;cases h1:ϒ (c % 8<4) with
  |true=>rw[h1] at c4;exact aKj (cX (aJ (aJ rfl rfl m8) rfl c4)) (cX (aJ (aK 0xd (aRy Q)) rfl c60))
  |false=>rw[h1] at c4;exact aCn (cX (aJ (aJ rfl rfl m8) rfl c4))
 have t2:∀b,b=(ϒ (4<=c % 8)&&ϒ (c % 8<6)&&ϒ ((1:ag)<SM.length))->aBu (bTB (bCh (dC (.ord .le)) (dC (.ord .lt)) aBt (b2 (bL .mod) BV W5) aR6)) (bTB (b2 (dC (.ord .gt)) (aP fV (aD O2 aX)) gK)) (St kvs cells seed NS Q L T nv bare rings (.int c) (.int (c / 8)) (.lst (SM.map enP)))=.ok b:=by
  rintro b rfl;cases h1:ϒ (4<=c % 8) with
  |false=>rw[h1] at c46;exact aCn (cX (aTh rfl (aJ rfl rfl m8) c46))
  |true=>
   rw[h1] at c46;cases h2:ϒ (c % 8<6) with
   |false=>rw[h2] at c66;exact aCn (cX (aSj rfl (aJ rfl rfl m8) c46 rfl c66))
   |true=>rw[h2] at c66;exact aKj (cX (aSj rfl (aJ rfl rfl m8) c46 rfl c66)) (cX (aJ (aK 0xd (aRz SM)) rfl c1))
 have fin:∀{r:Res Fl},gbr (St kvs cells seed NS Q L T nv bare rings (.int c) (.int (c / 8)) (.lst (SM.map enP)))=r->aAb (St kvs cells seed NS Q L T nv bare rings (.int c) m sm)=r:=λ{r} h=>pre r h
 cases hA:(ϒ (c % 8<4)&&ϒ ((Q.length:ag)<10)) with
 |true=>
  rw[bn,em,em] at hA;have T1:=t1 af (by rw[cm hA.1,cm hA.2];rfl);have gm:=fH (c / 8) NS.length hNp;obtain⟨s,hs,es⟩:=mV NS (c / 8 % NS.length) (ja _ 0x1) (ko _ hNp);obtain⟨v,hv,ev⟩:=RC (s:=s) hst (by rw[hNS];exact aT.mpr ⟨s,hs,rfl⟩);have gs:getD (.dct kvs) (.str s)=.ok (.int v):=by
   show(if keyOk (.str s) then ι (bB kvs (.str s)) else .bad)=_;rw[ev];rfl
  have f4:=d9 (Q.length:ag) 1;have hn:((Q.length:ag)+1)=((Q++[((Q.length:ag)+1,s)]).length:ag):=by simp
  have G:=g.piece (n:=(Q.length:ag)+1) (s:=s) (v:=v) 0x1 hv ev 0x1;generalize hQ2:Q++[((Q.length:ag)+1,s)]=Q2 at hn G;have lQ2:fV [.lst (Q2.map pcD)]=.ok (.int ((Q.length:ag)+1)):=by rw[aRy,hn]
  generalize hn1:((Q.length:ag)+1)=n at *;refine⟨Q2,_,T,.str s,rings,bare,.int (c / 8),.lst (SM.map enP),by rw[<-hn];exact G,hr,by lia,by lia,fin ?_⟩;have s1:cH aj 12 (b2 getD j8 (b2 (bL .mod) rW (aP fV (aD j8 aX)))) aj (St kvs cells seed NS Q L T nv bare rings (.int c) (.int (c / 8)) (.lst (SM.map enP)))=.ok (.nx (St kvs cells seed NS Q L T (.str s) bare rings (.int c) (.int (c / 8)) (.lst (SM.map enP)))):=sW (aJ rfl (aJ rfl (aK 0xd (aTm NS)) gm) es) rfl;have s2:wN 4 (iT (aD (b2 (bL .add) (aP fV (aD gD aX)) gK) (aD rY aX))) (St kvs cells seed NS Q L T (.str s) bare rings (.int c) (.int (c / 8)) (.lst (SM.map enP)))=.ok (.nx (St kvs cells seed NS Q2 L T (.str s) bare rings (.int c) (.int (c / 8)) (.lst (SM.map enP)))):=by
   have d0:iT (aD (b2 (bL .add) (aP fV (aD gD aX)) gK) (aD rY aX)) (St kvs cells seed NS Q L T (.str s) bare rings (.int c) (.int (c / 8)) (.lst (SM.map enP)))=.ok (.tup [.int n,.str s]):=c7 (aC (aJ (aK 0xd (aRy Q)) rfl f4) 0xd) (by rw[a_];simp);refine(jL (i:=4) (ρ:=St kvs cells seed NS Q L T (.str s) bare rings (.int c) (.int (c / 8)) (.lst (SM.map enP))) (xs:=Q.map pcD) (d:=.tup [.int n,.str s]) d0 rfl (by rw[aI,a_];lia) rfl).trans ?_;rw[<-hQ2];show _=τ (Fl.nx [.dct kvs,cells,.int seed,.lst (NS.map ν),.lst ((Q++[(n,s)]).map pcD),.lst (L.map enP),.lst (T.map bO),.int bare,.int rings,.int c,.int (c / 8),.lst (SM.map enP),.str s]);rw[cu];rfl
  have cf:fJ 13 (mY (aD (b2 (bL .add) (b2 getD dG rY) gK) aX) lY) HR iU (iT (aD (aP fV (aD gD aX)) (aD rZ aX))) aj (St kvs cells seed NS Q2 L T (.str s) bare rings (.int c) (.int (c / 8)) (.lst (SM.map enP)))=.ok (.lst (((bh (v+1)).map λ(h:ai)=>((n,(h:ag)):Pt)).map enP)):=by
   refine i_ (mH (n:=(v:ag)+1) (aC (aJ (aJ rfl rfl gs) rfl (d9 v 1)) rfl) 0x1 0x1) (by rw[aI,fR,a_];lia) ?_;rw[mJ _ (λ(k:ai)=>δ (0+(k:ag))) (λ_=>af) (λ(k:ai)=>enP (n,(k:ag)))]
   .rw[show((v:ag)+1).toNat=v+1 by lia];rw[B3.mpr (λ_ _=>rfl),bP,eI];rfl
   .intro acc k;refine kW (ρ:=St kvs cells seed NS Q2 L T (.str s) bare rings (.int c) (.int (c / 8)) (.lst (SM.map enP))) (b:=af) rfl rfl λ_=>⟨?_,rfl⟩
    have d1:iT (aD (aP fV (aD gD aX)) (aD rZ aX)) (St kvs cells seed NS Q2 L T (.str s) bare rings (.int c) (.int (c / 8)) (.lst (SM.map enP))++[δ (0+(k:ag))])=.ok (.tup [.int n,.int (0+(k:ag))]):=c7 (aC (aK (xs:=[.lst (Q2.map pcD)]) 0xd lQ2) 0xd) (by rw[a_];simp);refine d1.trans ?_;rw[B8];rfl
  have s3:cH aj 5 (b2 (bL .add) fZ (fJ 13 (mY (aD (b2 (bL .add) (b2 getD dG rY) gK) aX) lY) HR iU (iT (aD (aP fV (aD gD aX)) (aD rZ aX))) aj)) af (St kvs cells seed NS Q2 L T (.str s) bare rings (.int c) (.int (c / 8)) (.lst (SM.map enP)))=.ok (.nx (St kvs cells seed NS Q2 (L++(bh (v+1)).map λ(h:ai)=>((n,(h:ag)):Pt)) T (.str s) bare rings (.int c) (.int (c / 8)) (.lst (SM.map enP)))):=by
   refine(bI (aJ rfl cf (U8 (L.map enP) _ (by simp only[aI,fR,a_];lia) (lA _) (lA _)))).trans ?_;rw[<-cu];rfl
  exact BL T1 (aL s1 (aL s2 s3))
 |false=>
  have T1:=t1 aj hA.symm;cases hB:(ϒ (4<=c % 8)&&ϒ (c % 8<6)&&ϒ ((1:ag)<SM.length)) with
  |true=>
   have T2:=t2 af hB.symm;rw[bn,em] at hB;obtain⟨a,b,ha,hb',hlt,et⟩:=aLj SM (c / 8) (hSM.nodup g.ln) 0x1 (by have:=hSM.length_le;lia);have G:=g.tie (hSM.mem ha) (hSM.mem hb') hlt;refine⟨Q,_,T++[(a,b)],nv,rings,bare,.int (c / 8),.lst (SM.map enP),G,hr,by simp,by lia,fin (nY T1 (BL T2 ?_))⟩;have s1:wN 6 (aP (b_ 2 gP) (aD O2 (aD rW aX))) (St kvs cells seed NS Q L T nv bare rings (.int c) (.int (c / 8)) (.lst (SM.map enP)))=.ok (.nx (St kvs cells seed NS Q L (T++[(a,b)]) nv bare rings (.int c) (.int (c / 8)) (.lst (SM.map enP)))):=by
    have d0:aP (b_ 2 gP) (aD O2 (aD rW aX)) (St kvs cells seed NS Q L T nv bare rings (.int c) (.int (c / 8)) (.lst (SM.map enP)))=.ok (bO (a,b)):=aK 0xc ((cQ rfl).trans et);refine(jL (i:=6) (ρ:=St kvs cells seed NS Q L T nv bare rings (.int c) (.int (c / 8)) (.lst (SM.map enP))) (xs:=T.map bO) (d:=bO (a,b)) d0 rfl (by rw[aI,a_];lia) rfl).trans ?_;show _=τ (Fl.nx [.dct kvs,cells,.int seed,.lst (NS.map ν),.lst (Q.map pcD),.lst (L.map enP),.lst ((T++[(a,b)]).map bO),.int bare,.int rings,.int c,.int (c / 8),.lst (SM.map enP),nv]);rw[cu];rfl
   have gl:getD (.lst ((T++[(a,b)]).map bO)) (.int (-1))=.ok (bO (a,b)):=by
    show ι ((ixD ((T++[(a,b)]).map bO).length (-1)).bind λj=>((T++[(a,b)]).map bO)[j]?)=_;have:ixD ((T++[(a,b)]).map bO).length (-1)=ae T.length:=by
     unfold ixD;rw[aw 0x4,av (by simp only[aI,cb,cr,e9];lia)]
     congr 1
     simp only[aI,cb,cr,e9];lia
    rw[this];simp
   have cf:fJ 13 (dN fZ aj) HR (bTB (b2 (dC .rE) rZ (b2 getD mX (b1 aR8 gK)))) rZ aj (St kvs cells seed NS Q L (T++[(a,b)]) nv bare rings (.int c) (.int (c / 8)) (.lst (SM.map enP)))=.ok (.lst ((L.filter λx=>!(ϒ (a=x)||ϒ (b=x))).map enP)):=by
    refine i_ (jZ rfl rfl) (by rw[aI,a_];lia) ?_;rw[mJ _ enP (λx=>!(ϒ (a=x)||ϒ (b=x))) enP]
    .rfl
    .intro acc p;have cn:dC .rE (enP p) (bO (a,b))=.ok (.bl (!(ϒ (a=p)||ϒ (b=p)))):=by
      show(if (enP p).fD aO&&μ aO [enP a,enP b] then τ (π (!([enP a,enP b].any λy=>eqD y (enP p)))) else .bad)=_;rw[av (show(D.fD aO (enP p)&&μ aO [enP a,enP b])=af from rfl)];simp only[kK,List.any_nil,K8,uz]
     exact kW (ρ:=St kvs cells seed NS Q L (T++[(a,b)]) nv bare rings (.int c) (.int (c / 8)) (.lst (SM.map enP))) rfl (cX (aJ (x:=enP p) rfl (aJ rfl (y:=.int (-1)) rfl gl) cn)) λ_=>⟨rfl,rfl⟩
   exact aL s1 (bI cf)
  |false=>
   have T2:=t2 aj hB.symm;cases h6:(c % 8==6) with
   |true=>
    rw[h6] at e6;refine⟨Q,L,T,nv,rings,bare+1,.int (c / 8),.lst (SM.map enP),g,hr,by lia,by lia,fin (nY T1 (nY T2 (BL (cX (aJ (aJ rfl rfl m8) rfl e6)) ?_)))⟩;exact bI (aJ rfl rfl (d9 bare 1))
   |false=>
    rw[h6] at e6;cases h7:(c % 8==7) with
    |true=>
     rw[h7] at e7;have f2:bL .pow (.int 10) (.int 50)=.ok (.int (10 ^ 50)):=aIj 50 0x4;have f3:=fH (c / 8) (10 ^ 50) 0x4;refine⟨Q,L,T,nv,rings+c / 8 % 10 ^ 50,bare,.int (c / 8),.lst (SM.map enP),g,Int.add_nonneg hr (ja _ 0x4),by lia,by lia,fin (nY T1 (nY T2 (nY (cX (aJ (aJ rfl rfl m8) rfl e6)) (BL (cX (aJ (aJ rfl rfl m8) rfl e7)) ?_))))⟩;exact bI (aJ rfl (aJ rfl (aJ rfl rfl f2) f3) (d9 rings _))
    |false=>
     rw[h7] at e7;exact⟨Q,L,T,nv,rings,bare,.int (c / 8),.lst (SM.map enP),g,hr,by lia,by lia,fin (nY T1 (nY T2 (nY (cX (aJ (aJ rfl rfl m8) rfl e6)) (nY (cX (aJ (aJ rfl rfl m8) rfl e7)) rfl))))⟩
theorem RD(hst:nP kvs)(hNS:lO kvs=NS.map ν)(hne:NS≠[])(hNl:NS.length<=1000):∀(cs:aa ag){Q:aa Pc}{L:aa Pt}{T:aa Tie}{rings:ag}{bare:ai}{x m sm nv:D},Gr kvs Q L T (Q.length:ag)->0<=rings->T.length+cs.length<=1000->bare+cs.length<=1000->
  ∃(Q':aa Pc)(L':aa Pt)(T':aa Tie)(nv':D)(rings':ag)(bare':ai)(x' m' sm':D),Gr kvs Q' L' T' (Q'.length:ag)/\0<=rings'/\T'.length<=T.length+cs.length/\bare'<=bare+cs.length/\oK (tg1 9) aAb (cs.map δ) (St kvs cells seed NS Q L T nv bare rings x m sm)=.ok (.nx (St kvs cells seed NS Q' L' T' nv' bare' rings' x' m' sm'))
 |[],Q,L,T,rings,bare,x,m,sm,nv,g,hr,_,_=>⟨Q,L,T,nv,rings,bare,x,m,sm,g,hr,by simp,by simp,rfl⟩
 |c::cs,Q,L,T,rings,bare,x,m,sm,nv,g,hr,h1,h2=>by
  rw[cr] at h1 h2;obtain⟨Q1,L1,T1,n1,r1,b1,m1,s1,g1,hr1,i1,i2,e1⟩:=aLk hst hNS hne hNl g (bare:=bare) 0x1 0x1 hr;obtain⟨Q2,L2,T2,n2,r2,b2,x2,m2,s2,g2,hr2,j1,j2,e2⟩:=RD hst hNS hne hNl cs (rings:=r1) (bare:=b1) (x:=.int c) (m:=m1) (sm:=s1) (nv:=n1) g1 hr1 0x1 0x1;refine⟨Q2,L2,T2,n2,r2,b2,x2,m2,s2,g2,hr2,by simp only[cr];lia,by simp only[cr];lia,?_⟩;exact jM (ρ1:=St kvs cells seed NS Q L T nv bare rings (.int c) m sm) rfl e1 e2
end
def gr0:Gr kvs [] [] [] 0:=⟨by simp[ends],by simp,by simp,by lia,by simp,by simp[ends],by simp,by simp,by simp,by simp,by simp[ends,hks],by simp⟩
noncomputable def aDs:D->Tie
 |.tup [.tup [.int a,.int b],.tup [.int c,.int d]]=>((a,b),(c,d))
 |_=>((0,0),(0,0))
def zM(t:Tie):aDs (bO t)=t:=rfl
def dU(U:aa Tie):aa Tie:=(h_ (U.map bO)).map aDs
def bV(U:aa Tie):(dU U).Perm U:=by
 have h:=(b7 (U.map bO)).map aDs;rw[bP] at h;have e:U.map (aDs ∘ bO)=U:=by
  conv=>rhs;rw[<-gq U]
  exact dh λt _=>zM t
 rw[e] at h;exact h
def aDt(U:aa Tie):(dU U).map bO=h_ (U.map bO):=by
 unfold dU;rw[bP]
 conv=>rhs;rw[<-gq (h_ (U.map bO))]
 refine dh λd hd=>?_
 obtain⟨t,_,rfl⟩:=aT.mp ((b7 (U.map bO)).mem_iff.mp hd);rfl
def aLl(s t:Tie):∃k,iR .lt (bO s) (bO t)=ae k:=by
 have e:iR .lt (bO s) (bO t)=(if eqD (enP s.1) (enP t.1) then (if eqD (enP s.2) (enP t.2) then ae (gZ.lt.nat 0 0) else iR .lt (enP s.2) (enP t.2)) else iR .lt (enP s.1) (enP t.1)):=rfl;rw[e,qG,qG];split
 .split
  .exact⟨_,rfl⟩
  .exact⟨_,rfl⟩
 .exact⟨_,rfl⟩
def zN(U:aa Tie):bG (U.map bO)=af:=by
 unfold bG;refine dw.mpr λd hd=>?_
 obtain⟨t,ht,rfl⟩:=aT.mp hd;have hk:eX ((U.map bO).headD .non)=5:=by
  cases U with
  |nil=>cases ht
  |cons u U=>rfl
 have h5:eX (bO t)=5:=rfl;have hp:(bO t).plain=af:=rfl;have hq:(bO t).fD aO=af:=rfl;rw[hk,h5,hp,hq];refine dw.mpr λb hb=>?_
 obtain⟨u,_,rfl⟩:=aT.mp hb;obtain⟨k,e⟩:=aLl t u;rw[e];rfl
def xK(U:aa Tie):gB [.lst (U.map bO)]=.ok (.lst ((dU U).map bO)):=by
 show(if bG (U.map bO) then τ (ξ (h_ (U.map bO))) else .bad)=_;rw[zN,av rfl,aDt]
def LeT(s t:Tie):Prop:=leE (bO s) (bO t)=af
def gW(U:aa Tie):(dU U).Pairwise LeT:=by
 have h:=dY (U.map bO);rw[<-aDt,d4] at h;exact h
def aDu:∀{xs ys:aa Tie},xs.map bO=ys.map bO->xs=ys
 |[],[],_=>rfl
 |x::xs,y::ys,h=>by
  rw[bj,bj,iw] at h;have e:=cz aDs h.1;rw[zM,zM] at e;rw[e,aDu h.2]
 |[],_::_,h=>by cases h
 |_::_,[],h=>by cases h
def eq_of_sorted{U V:aa Tie}(h:U.Perm V)(h1:U.Pairwise LeT)(h2:V.Pairwise LeT):U=V:=by
 refine aDu (oN (λd hd=>?_) (h.map bO) (d4.mpr h1) (d4.mpr h2));obtain⟨t,_,rfl⟩:=aT.mp hd;rfl
def aH7(h:U.Pairwise LeT):dU U=U:=eq_of_sorted (bV U) (gW U) h
def YH{U V:aa Tie}(h:U.Perm V):dU U=dU V:=eq_of_sorted ((bV U).trans (h.trans (bV V).symm)) (gW U) (gW V)
def aLm(a b:ag):eqD (.int a) (.int b)=(a==b):=rfl
def aDv(a b:Pc):∃k,iR .lt (pcD a) (pcD b)=ae k/\(a.1≠b.1->k=ϒ (a.1<b.1)):=by
 have e:iR .lt (pcD a) (pcD b)=(if eqD (.int a.1) (.int b.1) then (if eqD (.str a.2) (.str b.2) then ae (gZ.lt.nat 0 0) else ae (gZ.lt.str a.2 b.2)) else ae (gZ.lt.int a.1 b.1)):=rfl;rw[e,aLm];by_cases h:a.1=b.1
 .rw[av (by simp[h])];split
  .exact⟨_,rfl,λz=>bg h z⟩
  .exact⟨_,rfl,λz=>bg h z⟩
 .rw[aw (by simp[h])];exact⟨_,rfl,λ_=>rfl⟩
def rN(U:aa Pc):bG (U.map pcD)=af:=by
 unfold bG;refine dw.mpr λd hd=>?_
 obtain⟨t,ht,rfl⟩:=aT.mp hd;have hk:eX ((U.map pcD).headD .non)=3:=by
  cases U with
  |nil=>cases ht
  |cons u U=>rfl
 have h5:eX (pcD t)=3:=rfl;have hp:(pcD t).plain=af:=rfl;have hq:(pcD t).fD aO=af:=rfl;rw[hk,h5,hp,hq];refine dw.mpr λb hb=>?_
 obtain⟨u,_,rfl⟩:=aT.mp hb;obtain⟨k,e,_⟩:=aDv t u;rw[e];rfl
def LtN(a b:Pc):Prop:=a.1<b.1
def jB(T:aa Tie):θ (T.map bO)=af:=qH T
def zO(T:aa Pc):θ (T.map pcD)=af:=uH T
def xM(Q:aa Pc)(V:aa Tie)(r:ag):(dR Q V r).pure=af:=by
 show((D.tup (Q.map pcD)).pure&&((D.tup (V.map bO)).pure&&(af&&af)))=af;rw[uH,qH];rfl
def zP:∀{kvs:aa (D×D)},nP kvs->∃NS:aa Str,lO kvs=NS.map ν
 |[],_=>⟨[],rfl⟩
 |p::kvs,h=>by
  obtain⟨s,v,e,_⟩:=h p (bw ..);obtain⟨NS,ih⟩:=zP λq hq=>h q (bu _ hq)
  refine⟨s::NS,?_⟩;subst e;show ν s::lO kvs=_;rw[ih];rfl
def GJ(h:nP kvs):T7 [.dct kvs]=.ok (.lst (lO kvs)):=by
 have e:kvs.all (λp=>!isTup p.1)=af:=dw.mpr λp hp=>by
  obtain⟨s,v,rfl,_⟩:=h p hp;rfl
 show(if kvs.all (λp=>!isTup p.1) then τ (ξ (lO kvs)) else .bad)=_;rw[e,av rfl]
theorem aH8{U W:aa Pc}(p:U.Perm W)(h:W.Pairwise LtN):gB [.lst (U.map pcD)]=.ok (.lst (W.map pcD)):=by
 show(if bG (U.map pcD) then τ (ξ (h_ (U.map pcD))) else .bad)=_;rw[rN,av rfl]
 congr 2
 refine oN (λd hd=>?_) ((b7 _).trans (p.map pcD)) (dY _) (d4.mpr (h.imp λ{a b} hab=>?_))
 .obtain⟨t,_,rfl⟩:=aT.mp ((b7 (U.map pcD)).mem_iff.mp hd);rfl
 .have hab:a.1<b.1:=hab;obtain⟨k,e,hk⟩:=aDv b a;have e1:=yI (pcD b) (pcD a) k rfl rfl e;rw[hk 0x1,c8 0x1] at e1;unfold leE;rw[<-e1];rfl
def call_v(h:f (ds++c_ (m-n) D.uD)=.ok (.rt d)):fnS n m f ds=.ok d:=by
 show(do let r <- f (ds++c_ (m-n) D.uD);aBr r)=_;rw[h];rfl
def qI(hρ:ρ.length=n)(ht:t x=.ok bs)(h1:c (ρ++bs)=.ok b)(h2:b=af->f (ρ++bs)=.ok y/\(k||y.pure)=af):tZ n t c f k ρ acc x=.ok (if b then acc++[y] else acc):=by
 unfold tZ;rw[ht,ε,PQ hρ,h1,ε];cases b with
 |false=>rfl
 |true=>
  obtain⟨h3,h4⟩:=h2 rfl;rw[av rfl,h3,ε,av h4];rfl
def aIt(h:f ρ=.ok d)(h2:aR7 d=.ok b):bTr f ρ=.ok b:=by
 unfold bTr;rw[h];exact h2
def rO(h:f ρ=.ok b):SJ f ρ=.ok (!b):=by
 unfold SJ;rw[h];rfl
def aH9(h1:x ρ=.ok aj)(h2:y ρ=r):bOr x y ρ=r:=by
 unfold bOr;rw[h1];exact h2
def YJ(h1:a ρ=.ok (.bl af))(h2:b ρ=r):HQ a b ρ=r:=by
 unfold HQ;rw[h1];exact h2
def aAi(h1:a ρ=.ok x)(h2:f x=.ok y):b1 f a ρ=.ok y:=by
 unfold b1;rw[h1];exact h2
def aLn(h:a ρ=.ok (.bl k)):aBv a ρ=.ok (.bl (!k)):=by
 unfold aBv;rw[h];rfl
theorem irr(a b:Pt)(h:ltP a b):¬ltP b a:=by
 simp only[ltP] at *;lia
section
variable (Q:aa Pc) (T:aa Tie) (r:ag)
def n0:getD (dR Q T r) (.int 0)=.ok (.tup (Q.map pcD)) :=rfl
def n1:getD (dR Q T r) (.int 1)=.ok (.tup (T.map bO)):=rfl
def n2:getD (dR Q T r) (.int 2)=.ok (.int r):=rfl
end
def ends_app(T R:aa Tie):ends (T++R)=ends T++ends R:=by simp[ends]
def zQ{V U:aa Tie}(h:V.Perm U):(ends V).Perm (ends U):=by
 unfold ends;induction h with
 |nil=>exact .nil
 |cons x _ ih=>simpa using ih
 |swap x y l=>
  simp only[ie];rw[<-c6,<-c6];exact C9 _ xf
 |trans _ _ ih1 ih2=>exact ih1.trans ih2
def RG(h:f ρ=.ok (.rt d)):bM f g ρ=.ok (.rt d):=by
 unfold bM;rw[h];rfl
def rP:ai->D->ax
 |0,_=>aj
 |n+1,.tup xs=>ϒ (xs.length<=1000000)&&xs.all (rP n)
 |_+1,.int _=>af
 |_+1,.str _=>af
 |_+1,_=>aj
theorem V4(xs:aa D)(j:ai)(h:j<xs.length):getD (.tup xs) (.int (0+(j:ag)))=.ok xs[j]:=by
 show ι ((ixD xs.length (0+(j:ag))).bind λi=>xs[i]?)=_;have e:ixD xs.length (0+(j:ag))=ae j:=by
  unfold ixD;rw[av 0x1,av 0x1]
  congr 1
  lia
 rw[e];show ι (xs[j]?)=_;rw[eh h];rfl
theorem RJ(ih:∀d∈xs,rr [d,d]=.ok (.bl af)):∀(m k:ai)(x:D),k+m=xs.length->∃x',oK (tg1 2) (sIf (SJ (bTr (aP (b_ 2 rr) (aD (b2 getD dG g_) (aD (b2 getD fW g_) aX))))) (lC (bC (.bl aj)) af) n8) ((mv k m).map λ(j:ai)=>δ (0+(j:ag))) [.tup xs,.tup xs,x]=.ok (.nx [.tup xs,.tup xs,x'])
 |0,k,x,_=>⟨x,rfl⟩
 |m+1,k,x,h=>by
  obtain⟨x',e⟩:=RJ ih m (k+1) (.int (0+(k:ag))) 0x1;have hk:k<xs.length:=by lia
  have hg:=V4 xs k hk;have hr:b_ 2 rr [xs[k],xs[k]]=.ok (.bl af):=(cQ rfl).trans (ih _ (im hk));refine⟨x',?_⟩;rw[om,bj];exact jM rfl (nY (rO (b:=af) (aIt (aK (aC (aJ (x:=.tup xs) (y:=.int (0+(k:ag))) rfl rfl hg) (aC (aJ (x:=.tup xs) (y:=.int (0+(k:ag))) rfl rfl hg) rfl)) hr) rfl)) rfl) e
theorem aDw:∀(n:ai)(d:D),rP n d=af->cC n [d,d]=.ok (.bl af)
 |0,_,h=>by cases h
 |n+1,.tup xs,h=>by
  simp only[rP,bn,em] at h;obtain⟨hl,ha⟩:=h;obtain⟨x',e⟩:=RJ (rr:=cC n) (xs:=xs) (λd hd=>aDw n d (dw.mp ha d hd)) xs.length 0 .uD 0x1;rw[<-sN] at e;have hlen:aP fV (aD fW aX) [.tup xs,.tup xs,.uD]=.ok (.int xs.length):=aK (xs:=[.tup xs]) 0xd rfl;have hlen0:aP fV (aD dG aX) [.tup xs,.tup xs,.uD]=.ok (.int xs.length):=aK (xs:=[.tup xs]) 0xd rfl;have hne:dC .ne (.int xs.length) (.int xs.length)=.ok (.bl aj):=by
   show τ (π (!((xs.length:ag)==xs.length)))=_;simp
  have hr:=mH (f:=aD (aP fV (aD fW aX)) aX) (ρ:=[.tup xs,.tup xs,.uD]) (n:=(xs.length:ag)) (aC hlen rfl) 0x1 0x1;have first:(sIf (bTr (b1 (n6 .tuple) fW)) (bM (sIf (bOr (SJ (bTr (b1 (n6 .tuple) dG))) (bTB (b2 (dC .ne) (aP fV (aD dG aX)) (aP fV (aD fW aX))))) (lC (bC (.bl aj)) af) n8) (bM (vV (mY (aD (aP fV (aD fW aX)) aX) lY) (tg1 2) (sIf (SJ (bTr (aP (b_ 2 (cC n)) (aD (b2 getD dG g_) (aD (b2 getD fW g_) aX))))) (lC (bC (.bl aj)) af) n8)) (lC (bC (.bl af)) af))) n8) [.tup xs,.tup xs,.uD]=.ok (.rt (.bl af)):=by
   refine BL (aIt (d:=.bl af) rfl rfl) ?_;refine aL (ρ':=[.tup xs,.tup xs,.uD]) (nY (aH9 (rO (b:=af) (aIt (d:=.bl af) rfl rfl)) (cX (aJ hlen0 hlen hne))) rfl) ?_;exact aL (jK hr e) rfl
  show fnS 2 3 (nJ (cC n)) [.tup xs,.tup xs]=_;refine call_v ?_;exact RG first
 |n+1,.int i,_=>by
  show fnS 2 3 (nJ (cC n)) [.int i,.int i]=_;refine call_v ?_;refine aL (ρ':=[.int i,.int i,.uD]) (nY (aIt (d:=.bl aj) rfl rfl) rfl) ?_;refine aL (ρ':=[.int i,.int i,.uD]) (nY (aIt (d:=.bl aj) rfl rfl) rfl) ?_;refine fX (d:=.bl af) (YJ rfl (YJ (aLn (k:=aj) rfl) (aJ (x:=.int i) (y:=.int i) rfl rfl ?_))) rfl;show τ (π (i==i))=_;simp
 |n+1,.str i,_=>by
  have e:(sIf (bTr (b1 (n6 .str) fW)) (lC (HQ (b1 (n6 .str) dG) (b2 (dC .eq) dG fW)) af) n8) [.str i,.str i,.uD]=.ok (.rt (.bl af)):=by
   refine BL (aIt (d:=.bl af) rfl rfl) (fX (d:=.bl af) (YJ rfl (aJ (x:=.str i) (y:=.str i) rfl rfl ?_)) rfl);show τ (π (i==i))=_;simp
  show fnS 2 3 (nJ (cC n)) [.str i,.str i]=_;refine call_v ?_;refine aL (ρ':=[.str i,.str i,.uD]) (nY (aIt (d:=.bl aj) rfl rfl) rfl) ?_;exact RG e
 |n+1,.uD,h=>by cases h
 |n+1,.non,h=>by cases h
 |n+1,.bl _,h=>by cases h
 |n+1,.lst _,h=>by cases h
 |n+1,.dct _,h=>by cases h
 |n+1,.scr _,h=>by cases h
theorem aHa(hq:Q.length<=1000)(ht:T.length<=100000):b_ 2 (cC 6) [dR Q T r,dR Q T r]=.ok (.bl af):=by
 refine(cQ rfl).trans (aDw 6 _ ?_);have h1:rP 5 (.tup (Q.map pcD))=af:=by
  simp only[rP,bn,em,aI];refine⟨by lia,dw.mpr λd hd=>?_⟩;obtain⟨p,_,rfl⟩:=aT.mp hd;rfl
 have h2:rP 5 (.tup (T.map bO))=af:=by
  simp only[rP,bn,em,aI];refine⟨by lia,dw.mpr λd hd=>?_⟩;obtain⟨p,_,rfl⟩:=aT.mp hd;rfl
 show(ϒ (3<=1000000)&&(rP 5 (.tup (Q.map pcD)) &&(rP 5 (.tup (T.map bO))&&(rP 5 (.int r)&&af))))=af;rw[h1,h2];rfl
structure Net(kvs:aa (D×D))(Q:aa Pc)(T:aa Tie):Prop where
 nd:(ends T).Nodup
 small:T.length<=1000
 qs:Q.Pairwise LtN
 qpos:∀pc∈Q,0<pc.1
 ql:Q.length<=30
 sk:∀pc∈Q,∃v:ai,v<=6/\bB kvs (.str pc.2)=ae (.int v)
 lt:∀t∈T,ltP t.1 t.2
 srt:T.Pairwise LeT
 rims:∃S:aa ag,S.Nodup/\S.Perm ((bh S.length).map λ(k:ai)=>(k:ag))/\(ends T).Perm (hks kvs Q++S.map rim)
theorem aPk{num:ag}{S:aa ag}(g:Gr kvs Q L T num)(hS:S.Nodup)(hS2:S.Perm ((bh S.length).map λ(k:ai)=>(k:ag)))(pR:(ends R).Perm (L++S.map rim))(hR:∀t∈R,ltP t.1 t.2)(hsm:(T++R).length<=1000):Net kvs Q (dU (T++R)):=by
 have pE:(ends (dU (T++R))).Perm (ends T++L++S.map rim):=by
  refine(zQ (bV _)).trans ?_;rw[ends_app,c6];exact kq _ pR
 have pos:∀e∈ends T++L,0<e.1:=λe he=>by
  obtain⟨pc,h1,h2⟩:=aT.mp (g.num e he);have:=(g.qb pc h1).1;lia
 refine⟨?_,by rw[(bV _).length_eq];exact hsm,g.qs,λpc h=>(g.qb pc h).1,(by have:=g.ql;lia),g.sk,λt ht=>?_,gW _,S,hS,hS2,pE.trans (g.pm.append_right _)⟩
 .refine pE.nodup_iff.mpr (fg.mpr ⟨g.nd,?_,λa ha b hb z=>?_⟩)
  .refine w_ _ ?_ hS;intro a b hab z;exact hab (cz mB z)
  .obtain⟨s,_,rfl⟩:=aT.mp hb;have:=pos a ha;rw[z] at this;exact bg this (vg 0)
 .rcases cw.mp ((bV _).mem_iff.mp ht) with h|h
  .exact g.lt t h
  .exact hR t h
def OkT(N:aa ag)(t:Tie):Prop:=(t.1.1=0/\(t.2.1=0\/t.2.1∈N))\/(t.1.1∈N/\t.2.1∈N)
structure Wf(Q:aa Pc)(V:aa Tie):Prop where
 qs:(Q.map (·.1)).Pairwise (·<·)
 qp:∀n∈Q.map (·.1),0<n
 ql:(Q.map (·.1)).length<=40
 ok:∀t∈V,OkT (Q.map (·.1)) t
 vl:V.length<=1000
theorem K9:e∈hks kvs Q↔∃pc∈Q,pc.1=e.1/\0<=e.2/\e.2<=vOf kvs pc.2:=by
 unfold hks aH6;simp only[ir,aT,jb];constructor
 .rintro⟨pc,h1,h,h2,rfl⟩;exact⟨pc,h1,rfl,by show(0:ag)<=(h:ag);lia,by show(h:ag)<=_;lia⟩
 .rintro⟨pc,h1,h2,h3,h4⟩;exact⟨pc,h1,e.2.toNat,by lia,Prod.ext h2 (by show((e.2.toNat:ai):ag)=e.2;lia)⟩
theorem Net.wf{V:aa Tie}(w:Net kvs Q V):Wf Q V:=by
 obtain⟨S,_,_,p⟩:=w.rims;have cas:∀e∈ends V,e.1=0\/(0<e.1/\e.1∈Q.map (·.1)):=λe he=>by
  rcases cw.mp (p.mem_iff.mp he) with h|h
  .obtain⟨pc,h1,h2,_⟩:=K9.mp h;exact .inr ⟨by have:=w.qpos pc h1;lia,aT.mpr ⟨pc,h1,h2⟩⟩
  .obtain⟨s,_,rfl⟩:=aT.mp h;exact .inl rfl
 refine⟨d4.mpr w.qs,λn h=>?_,by rw[aI];have:=w.ql;lia,λt ht=>?_,w.small⟩
 .obtain⟨pc,h1,rfl⟩:=aT.mp h;exact w.qpos pc h1
 .have me:t.1∈ends V/\t.2∈ends V:=by
   simp only[ends,ir];exact⟨⟨t,ht,by simp⟩,⟨t,ht,by simp⟩⟩
  have hlt:=w.lt t ht;rcases cas _ me.1 with h1|⟨h1,h1'⟩<;>rcases cas _ me.2 with h2|⟨h2,h2'⟩
  .exact .inl ⟨h1,.inl h2⟩
  .exact .inl ⟨h1,.inr h2'⟩
  .simp only[ltP] at hlt;lia
  .exact .inr ⟨h1',h2'⟩
def uJ(h1:c ρ=.ok af)(h2:body ρ=.ok (.nx ρ'))(h3:FZ c body n ρ'=r):FZ c body (n+1) ρ=r:=by
 rw[FZ,h1,ε,av rfl,h2];exact h3
def vJ(h1:c ρ=.ok aj):FZ c body (n+1) ρ=.ok (.nx ρ):=by
 rw[FZ,h1];rfl
def aIu(h1:a ρ=.ok x)(h2:l ρ=.ok i)(h3:h ρ=.ok j)(h4:aFp x i j=.ok d):aI6 a l h ρ=.ok d:=by
 unfold aI6;rw[h1,ε,h2,ε,h3,ε,h4]
theorem K_(L:aa Pt)(b s:D)(T:aa Tie)(k:ax)(h:k=ϒ (1<L.length)):aL7 [.lst (L.map enP),b,s,.lst (T.map bO)]=.ok k:=by
 have lL:fV [.lst (L.map enP)]=.ok (.int L.length):=by rw[lH,aI]
 have hc:dC (.ord .gt) (.int L.length) (.int 1)=.ok (.bl (ϒ ((1:ag)<L.length))):=rfl;refine cX (aJ (aK 0xd lL) rfl (hc.trans ?_));rw[h]
 congr 2
 exact ot.mpr 0x1
theorem zR:∀(L:aa Pt)(T:aa Tie),L.Nodup->T.length+L.length<=10000->∃(L':aa Pt)(T':aa Tie),L'.Sublist L/\(ends T'++L').Perm (ends T++L)/\(∀t∈T',t∈T\/ltP t.1 t.2)/\L'.length+T'.length<=L.length+T.length/\
  ∀fuel,L.length<fuel->FZ aL7 aP1 fuel [.lst (L.map enP),b,s,.lst (T.map bO)]=.ok (.nx [.lst (L'.map enP),b,s,.lst (T'.map bO)])
 |[],T,_,_=>⟨[],T,.refl _,.refl _,λt h=>.inl h,bi _,λfuel hf=>by
   obtain⟨f,rfl⟩:∃f,fuel=f+1:=⟨fuel-1,by lia⟩
   exact vJ (K_ [] b s T aj rfl)⟩
 |[a],T,_,_=>⟨[a],T,.refl _,.refl _,λt h=>.inl h,bi _,λfuel hf=>by
   obtain⟨f,rfl⟩:∃f,fuel=f+1:=⟨fuel-1,by lia⟩
   exact vJ (K_ [a] b s T aj rfl)⟩
 |a::c::L,T,hn,hl=>by
  have mn:=DP .lt a c ltP qG;have mx:=DP .gt a c (λx y=>ltP y x) Q_;have hac:a≠c:=λz=>by subst z;exact(df.mp hn).1 (bw ..)
  obtain⟨u,v,huv,hlt,mn,mx⟩:∃u v:Pt,[u,v].Perm [a,c]/\ltP u v/\dX .lt [enP a,enP c]=.ok (enP u)/\dX .gt [enP a,enP c]=.ok (enP v):=by
   have tot:ltP a c\/ltP c a:=by
    obtain⟨a1,a2⟩:=a;obtain⟨c1,c2⟩:=c;simp only[ltP];have:a1≠c1\/a2≠c2:=by
     by_cases h1:a1=c1
     .exact .inr λh2=>hac (by rw[h1,h2])
     .exact .inl h1
    lia
   rcases tot with h|h
   .refine⟨a,c,.refl _,h,?_,?_⟩
    .rw[mn,aw (irr _ _ h)]
    .rw[mx,av h]
   .refine⟨c,a,.swap ..,h,?_,?_⟩
    .rw[mn,av h]
    .rw[mx,aw (irr _ _ h)]
  simp only[cr] at hl;obtain⟨L',T',i1,i2,i2',i3,i4⟩:=zR L (T++[(u,v)]) (df.mp (df.mp hn).2).2 (by simp;lia);refine⟨L',T',(i1.cons _).cons _,?_,λt ht=>?_,by simp only[cb,cr,e9] at i3 ⊢;lia,λfuel hf=>?_⟩
  .refine i2.trans ?_;rw[uI,c6];exact kq _ (huv.append_right L)
  .rcases i2' t ht with h|h
   .rcases cw.mp h with h|h
    .exact .inl h
    .have:t=(u,v):=by simpa using h
     subst this;exact .inr hlt
   .exact .inr h
  .simp only[cr] at hf;obtain⟨f,rfl⟩:∃f,fuel=f+1:=⟨fuel-1,by lia⟩
   have e0:getD (.lst ((a::c::L).map enP)) (.int 0)=.ok (enP a):=by
    obtain⟨h,e⟩:=sX ((a::c::L).map enP) 0 0x1 (by simp only[aI,cr];lia);rw[e];rfl
   have e1:getD (.lst ((a::c::L).map enP)) (.int 1)=.ok (enP c):=by
    obtain⟨h,e⟩:=sX ((a::c::L).map enP) 1 0x1 (by simp only[aI,cr];lia);rw[e];rfl
   have sl:aFp (.lst ((a::c::L).map enP)) (ae 2) ao=.ok (.lst (L.map enP)):=by
    simp only[aFp,lA,cq]
    congr 2
    have e1:W4 ((a::c::L).map enP).length 0 (ae 2)=2:=by
     simp only[W4,aI,cr];rw[aw 0x1];lia
    have e2:W4 ((a::c::L).map enP).length ((a::c::L).map enP).length ao=L.length+2:=by
     simp only[W4,aI,cr]
    unfold cutD;rw[e1,e2,show L.length+2-2=(L.map enP).length by simp];exact si ..
   refine uJ (K_ (a::c::L) b s T af 0x2) ?_ (i4 f 0x1);refine aL (ρ':=[.lst ((a::c::L).map enP),b,s,.lst ((T++[(u,v)]).map bO)]) ?_ (bI (i:=0) (aIu rfl rfl rfl sl));refine(jL (i:=3) (ρ:=[.lst ((a::c::L).map enP),b,s,.lst (T.map bO)]) (xs:=T.map bO) (c7 (xs:=[enP u,enP v]) (aC (aK (xs:=[enP a,enP c]) (aC (aJ rfl rfl e0) (aC (aJ rfl rfl e1) rfl)) mn) (aC (aK (xs:=[enP a,enP c]) (aC (aJ rfl rfl e0) (aC (aJ rfl rfl e1) rfl)) mx) rfl)) (by rw[a_];simp)) rfl (by rw[aI,a_];lia) rfl).trans ?_;rw[cu];rfl
noncomputable def unE:D->Pt
 |.tup [.int a,.int b]=>(a,b)
 |_=>(0,0)
theorem aDx(L:aa Pt)(bare:ai)(seed:ag)(hn:L.Nodup)(hL:∀p∈L,0<p.1)(hl:L.length+2*bare<=900):∃(R:aa Tie)(S:aa ag),S.Nodup/\S.Perm ((bh S.length).map λ(k:ai)=>(k:ag))/\(ends R).Perm (L++S.map rim)/\(∀t∈R,ltP t.1 t.2)/\R.length<=L.length+bare/\iI [.lst (L.map enP),.int bare,.int seed]=.ok (.lst (R.map bO)):=by
 have m3:=fH seed 3 0x4;have d3:=gC seed 3 0x4 0x4;have hc:dC (.ord .gt) (.int (seed % 3)) (.int 0)=.ok (.bl (ϒ (0<seed % 3))):=rfl;have rest:∀(L':aa Pt)(T:aa Tie),(ends T++L').Perm L->(∀t∈T,ltP t.1 t.2)->L'.length+T.length<=L.length->∃(R:aa Tie)(S:aa ag),S.Nodup/\S.Perm ((bh S.length).map λ(k:ai)=>(k:ag))/\(ends R).Perm (L++S.map rim)/\(∀t∈R,ltP t.1 t.2)/\R.length<=L.length+bare/\(lC (b2 (bL .add) j8 (aP (b_ 3 iH) (aD dG (aD fW (aD g_ aX))))) af) [.lst (L'.map enP),.int bare,.int seed,.lst (T.map bO)]=.ok (.rt (.lst (R.map bO))):=λL' T h1 h2 h3=>by
  obtain⟨R,S,r1,rb,r2,r3,r4,r5⟩:=aDr L' bare seed (λp hp=>hL p (h1.mem_iff.mp (en _ hp))) 0x1;refine⟨T++R,S,r1,rb,?_,λt ht=>?_,by rw[cb];lia,?_⟩
  .rw[ends_app];refine(kq _ r2).trans ?_;rw[<-c6];exact h1.append_right _
  .rcases cw.mp ht with h|h
   .exact h2 t h
   .exact r3 t h
  .refine fX (aJ rfl (aK (aC rfl 0xc) ((cQ rfl).trans r5)) ?_) rfl;rw[cu];exact U8 _ _ (by rw[aI,aI,a_];lia) (jB _) (jB _)
 have fin:∃(R:aa Tie)(S:aa ag),S.Nodup/\S.Perm ((bh S.length).map λ(k:ai)=>(k:ag))/\(ends R).Perm (L++S.map rim)/\(∀t∈R,ltP t.1 t.2)/\R.length<=L.length+bare/\nD [.lst (L.map enP),.int bare,.int seed,.uD]=.ok (.rt (.lst (R.map bO))):=by
  by_cases h:0<seed % 3
  .obtain⟨ys,p0,s4⟩:=V3 (xs:=L.map enP) (seed / 3) (λx hx=>by
    obtain⟨a,_,rfl⟩:=aT.mp hx;rfl) (by simp;lia)
   obtain⟨L1,pL,rfl⟩:=xJ enP unE (λ_=>rfl) p0;obtain⟨L',T',i1,i2,i2',i3,i4⟩:=zR (b:=.int bare) (s:=.int seed) L1 [] (pL.nodup_iff.mpr hn) (by rw[pL.length_eq];simp;lia);obtain⟨R,S,r1,r2,r3,r4,r5,r6⟩:=rest L' T' (i2.trans pL) (λt ht=>by
    rcases i2' t ht with h|h
    .cases h
    .exact h) (by rw[<-pL.length_eq];simpa using i3)
   refine⟨R,S,r1,r2,r3,r4,r5,?_⟩;refine aL (ρ':=[.lst (L.map enP),.int bare,.int seed,.lst []]) (cF rfl rfl) ?_;refine aL (ρ':=[.lst (L'.map enP),.int bare,.int seed,.lst (T'.map bO)]) (BL (cX (aJ (aJ rfl rfl m3) rfl (hc.trans (by rw[cm h])))) ?_) r6;refine aL (ρ':=[.lst (L1.map enP),.int bare,.int seed,.lst []]) (bI (i:=0) (aK (xs:=[.lst (L.map enP),.int (seed / 3)]) (aC rfl (aC (aJ rfl rfl d3) rfl)) s4)) ?_;exact i4 1000 (by rw[pL.length_eq];lia)
  .obtain⟨R,S,r1,r2,r3,r4,r5,r6⟩:=rest L [] (.refl _) (λt ht=>by cases ht) 0x2;refine⟨R,S,r1,r2,r3,r4,r5,?_⟩;refine aL (ρ':=[.lst (L.map enP),.int bare,.int seed,.lst []]) (cF rfl rfl) ?_;exact aL (ρ':=[.lst (L.map enP),.int bare,.int seed,.lst []]) (nY (cX (aJ (aJ rfl rfl m3) rfl (hc.trans (by rw[c8 h])))) rfl) r6
 obtain⟨R,S,r1,r2,r3,r4,r5,e⟩:=fin;refine⟨R,S,r1,r2,r3,r4,r5,?_⟩;show(do let r <- nD _;aBr r)=_;rw[show([ξ (L.map enP),δ bare,δ seed]++c_ (4-3) D.uD)=[.lst (L.map enP),.int bare,.int seed,.uD] from rfl,e];rfl
theorem aHb(hst:nP kvs)(hne:kvs≠[])(hl:kvs.length<=5)(cs:aa ag)(hc:cs.length<=200)(seed:ag):∃(Q:aa Pc)(V:aa Tie)(r:ag),Net kvs Q V/\Q.length<=10/\V.length<=600/\(∀pc∈Q,pc.1<=Q.length)/\b_ 3 lJ [.dct kvs,.lst (cs.map δ),.int seed]=.ok (dR Q V r):=by
 obtain⟨NS,hNS⟩:=zP hst;have lNS:NS.length=kvs.length:=by
  have:=cz gh hNS;simpa[lO] using this.symm
 have nNS:NS≠[]:=λz=>hne (by rw[z] at lNS;exact List.length_eq_zero_iff.mp lNS.symm)
 obtain⟨Q,L,T,nv,rings,bare,x,m,sm,g,hrg,i1,i2,e1⟩:=RD hst hNS nNS 0x1 cs (bare:=0) (x:=.uD) (m:=.uD) (sm:=.uD) (nv:=.uD) gr0 (B9 0) (by simp;lia) 0x1;have lL:L.length<=210:=by have:=g.ll;have:=g.ql;lia
 have posE:∀p∈ends T++L,0<p.1:=λp hp=>by
  obtain⟨pc,h1,h2⟩:=aT.mp (g.num p hp);have:=(g.qb pc h1).1;lia
 simp only[e9] at i1;obtain⟨R,S,r1,rb,r2,r3,r4,r5⟩:=aDx L bare seed g.ln (λp hp=>posE p (en _ hp)) 0x1;have lTR:(T++R).length<=1000:=by rw[cb];lia
 have hadd:bL .add (.lst (T.map bO)) (.lst (R.map bO))=.ok (.lst ((T++R).map bO)):=by
  rw[cu];refine U8 _ _ ?_ (jB T) (jB R);rw[aI,aI,a_];rw[cb] at lTR;lia
 have hrim:b_ 3 iI [.lst (L.map enP),.int bare,.int seed]=.ok (.lst (R.map bO)):=(cQ rfl).trans r5;have hli:=GJ hst;rw[hNS] at hli;have hin:inner (.lst ((T++R).map bO))=af:=jB _;refine⟨Q,dU (T++R),rings,aPk g r1 rb r2 r3 lTR,g.ql,(by rw[(bV _).length_eq,cb];have:=g.ll;have:=g.ql;lia),λpc hp=>(g.qb pc hp).2,(cQ rfl).trans ?_⟩;have fin:o6 [.dct kvs,.lst (cs.map δ),.int seed,.uD,.uD,.uD,.uD,.uD,.uD,.uD,.uD,.uD,.uD]=.ok (.rt (dR Q (dU (T++R)) rings)):=by
  refine aL (ρ':=[.dct kvs,.lst (cs.map δ),.int seed,.lst (NS.map ν),.uD,.uD,.uD,.uD,.uD,.uD,.uD,.uD,.uD]) (bI (aK 0xd hli)) ?_;refine aL (ρ':=[.dct kvs,.lst (cs.map δ),.int seed,.lst (NS.map ν),.lst [],.uD,.uD,.uD,.uD,.uD,.uD,.uD,.uD]) (cF rfl rfl) ?_;refine aL (ρ':=[.dct kvs,.lst (cs.map δ),.int seed,.lst (NS.map ν),.lst [],.lst [],.uD,.uD,.uD,.uD,.uD,.uD,.uD]) (bI rfl) ?_;refine aL (ρ':=[.dct kvs,.lst (cs.map δ),.int seed,.lst (NS.map ν),.lst [],.lst [],.lst [],.uD,.uD,.uD,.uD,.uD,.uD]) (cF rfl rfl) ?_;refine aL (ρ':=[.dct kvs,.lst (cs.map δ),.int seed,.lst (NS.map ν),.lst [],.lst [],.lst [],.int 0,.uD,.uD,.uD,.uD,.uD]) (bI rfl) ?_;refine aL (ρ':=[.dct kvs,.lst (cs.map δ),.int seed,.lst (NS.map ν),.lst [],.lst [],.lst [],.int 0,.int 0,.uD,.uD,.uD,.uD]) (bI rfl) ?_;refine aL (U7 (d:=.lst (cs.map δ)) (xs:=cs.map δ) rfl rfl e1) ?_;refine aL (ρ':=[.dct kvs,.lst (cs.map δ),.int seed,.lst (NS.map ν),.lst (Q.map pcD),.lst (L.map enP),.lst ((T++R).map bO),.int bare,.int rings,x,m,sm,nv])
   (cF (i:=6) (aJ (x:=.lst (T.map bO)) (y:=.lst (R.map bO)) rfl (aK (xs:=[.lst (L.map enP),.int bare,.int seed]) (aC rfl 0xc) hrim) hadd) hin) ?_
  refine fX (d:=dR Q (dU (T++R)) rings) (c7 (xs:=[.tup (Q.map pcD),.tup ((dU (T++R)).map bO),.int rings]) (aC (aK (xs:=[.lst (Q.map pcD)]) 0xd rfl) (aC (aK (xs:=[.lst ((dU (T++R)).map bO)]) (aC (aK (xs:=[.lst ((T++R).map bO)]) 0xd (xK _)) rfl) rfl) 0xd)) ?_) ?_
  .rw[a_];show 3<=1000000;lia
  .rw[xM];rfl
 show(do let r <- o6 _;aBr r)=_;rw[show([D.dct kvs,ξ (cs.map δ),δ seed]++c_ (13-3) D.uD)=[.dct kvs,.lst (cs.map δ),.int seed,.uD,.uD,.uD,.uD,.uD,.uD,.uD,.uD,.uD,.uD] from rfl,fin];rfl
noncomputable def cellAt(ns:aa ag)(k:ai):ag:=ns.getD k 0
theorem cell_eq(ns:aa ag)(k:ai):b_ 2 cJ [.scr (ns.map δ),.int k]=.ok (.int (cellAt ns k)):=by
 refine(cQ rfl).trans ?_;have hl:fV [.scr (ns.map δ)]=.ok (.int ns.length):=by
  show τ (δ ((ns.map δ).length:ag))=_;rw[aI]
 have hc:dC (.ord .lt) (.int k) (.int ns.length)=.ok (.bl (ϒ ((k:ag)<ns.length))):=rfl;show(do let r <- gG [.scr (ns.map δ),.int k];aBr r)=_;by_cases h:k<ns.length
 .have hg:getD (.scr (ns.map δ)) (.int k)=.ok (.int (cellAt ns k)):=by
   show ι ((ixD (ns.map δ).length k).bind λj=>(ns.map δ)[j]?)=_;have:ixD (ns.map δ).length k=ae k:=by
    unfold ixD;rw[av 0x1,av (by rw[aI];lia)];rfl
   rw[this];show ι ((ns.map δ)[k]?)=_;rw[iN,eh h];show τ (δ ns[k])=_;rw[cellAt,eJ,eh h];rfl
  have e:gG [.scr (ns.map δ),.int k]=.ok (.rt (.int (cellAt ns k))):=by
   have ht:(bTB (b2 (dC (.ord .lt)) fW (aP fV (aD dG aX)))) [.scr (ns.map δ),.int k]=.ok af:=by
    refine cX (aJ rfl (aK 0xd hl) (hc.trans ?_));rw[cm 0x1]
   unfold gG bM;rw[BL ht (fX (aJ rfl rfl hg) rfl)];rfl
  rw[e];rfl
 .have e:gG [.scr (ns.map δ),.int k]=.ok (.rt (.int (cellAt ns k))):=by
   refine aL (nY (cX (aJ rfl (aK 0xd hl) (hc.trans ?_))) rfl) (fX ?_ rfl)
   .rw[c8 0x1]
   .rw[cellAt,eJ,Bx 0x1];rfl
  rw[e];rfl
noncomputable def news:aa ag->aa ag->aa ag
 |_,[]=>[]
 |R,y::ys=>if y∈R then news R ys else y::news (R++[y]) ys
def news_mem:∀{ys R:aa ag}{z:ag},z∈news R ys->z∈ys
 |[],R,z,h=>h
 |y::ys,R,z,h=>by
  rw[news] at h;split at h
  .exact bu _ (news_mem h)
  .rcases bq.mp h with rfl|h
   .exact bw ..
   .exact bu _ (news_mem h)
def LC:∀{ys R:aa ag},R.Nodup->(R++news R ys).Nodup
 |[],R,h=>by rw[news,eo];exact h
 |y::ys,R,h=>by
  rw[news];split
  .exact LC h
  .rename_i hy;have:(R++[y]).Nodup:=by
    rw[fg];exact⟨h,by simp,λa ha b hb z=>hy (by rw[<-dS.mp hb,<-z];exact ha)⟩
   have:=LC (ys:=ys) this;rwa [c6] at this
def uK:∀{ys R:aa ag}{z:ag},z∈ys->z∈R++news R ys
 |y::ys,R,z,h=>by
  rw[news];rcases bq.mp h with rfl|h
  .split
   .exact eg _ (by assumption)
   .simp
  .split
   .exact uK h
   .have:=uK (R:=R++[y]) h;rwa [c6] at this
inductive Rc(f:ag->aa ag)(s:ag):ag->Prop
 |refl:Rc f s s
 |step {x y:ag}:Rc f s x->y∈f x->Rc f s y
def Rc.trans(h:Rc f a b)(g:Rc f b c):Rc f a c:=by
 induction g with
 |refl=>exact h
 |step _ hy ih=>exact ih.step hy
def Rc.mem{M:aa ag}(hs:s∈M)(hc:∀x∈M,∀y∈f x,y∈M)(h:Rc f s x):x∈M:=by
 induction h with
 |refl=>exact hs
 |step _ hy ih=>exact hc _ ih _ hy
def Rc.to{M:aa ag}(hs:s∈M)(hc:∀x∈M,∀y∈f x,y∈M)(hfg:∀x∈M,∀y∈f x,y∈g x){x:ag}(h:Rc f s x):Rc g s x:=by
 induction h with
 |refl=>exact .refl
 |step hx hy ih=>exact ih.step (hfg _ (hx.mem hs hc) _ hy)
def Rc.symm(hsy:∀x y,y∈f x->x∈f y)(h:Rc f s x):Rc f x s:=by
 induction h with
 |refl=>exact .refl
 |step _ hy ih=>exact(Rc.refl.step (hsy _ _ hy)).trans ih
structure Dv(f:ag->aa ag)(s:ag)(R W:aa ag):Prop where
 nd:R.Nodup
 sR:s∈R
 wR:∀w∈W,w∈R
 rc:∀r∈R,Rc f s r
 cl:∀r∈R,r∈W\/∀y∈f r,y∈R
def dv0(f:ag->aa ag)(s:ag):Dv f s [s] [s]:=⟨by simp,by simp,λw h=>h,λr h=>by rw[dS.mp h];exact .refl,λr h=>.inl h⟩
def Dv.step(h:Dv f s R (W++[c])):Dv f s (R++news R (f c)) (W++news R (f c)):=by
 have hc:c∈R:=h.wR c 0x2;refine⟨LC h.nd,eg _ h.sR,λw hw=>?_,λr hr=>?_,λr hr=>?_⟩
 .rcases cw.mp hw with hw|hw
  .exact eg _ (h.wR w (eg _ hw))
  .exact en _ hw
 .rcases cw.mp hr with hr|hr
  .exact h.rc r hr
  .exact(h.rc c hc).step (news_mem hr)
 .rcases cw.mp hr with hr|hr
  .rcases h.cl r hr with g|g
   .rcases cw.mp g with g|g
    .exact .inl (eg _ g)
    .rw[dS.mp g];exact .inr λy hy=>uK hy
   .exact .inr λy hy=>eg _ (g y hy)
  .exact .inl (en _ hr)
def Dv.fin(h:Dv f s R []):x∈R↔Rc f s x:=
 ⟨h.rc x,λg=>g.mem h.sR λr hr=>(h.cl r hr).resolve_left 0x2⟩
def Dv.len{s:ag}{R W M:aa ag}(h:Dv f s R W)(hs:s∈M)(hc:∀x∈M,∀y∈f x,y∈M):R.length<=M.length:=nO _ _ h.nd λx hx=>(h.rc x hx).mem hs hc
structure Bv(f:ag->aa ag)(s:ag)(R:aa ag)(n:ai):Prop where
 nd:R.Nodup
 sR:s∈R
 rc:∀r∈R,Rc f s r
 cl:∀r∈R.take n,∀y∈f r,y∈R
def bv0(f:ag->aa ag)(s:ag):Bv f s [s] 0:=⟨by simp,by simp,λr h=>by rw[dS.mp h];exact .refl,λr h=>by cases h⟩
theorem Bv.step(h:Bv f s R n)(hn:n<R.length):Bv f s (R++news R (f R[n])) (n+1):=by
 have hc:R[n]∈R:=im hn;refine⟨LC h.nd,eg _ h.sR,λr hr=>?_,λr hr=>?_⟩
 .rcases cw.mp hr with hr|hr
  .exact h.rc r hr
  .exact(h.rc _ hc).step (news_mem hr)
 .rw[xg 0x1,mr hn] at hr;rcases cw.mp hr with hr|hr
  .exact λy hy=>eg _ (h.cl r hr y hy)
  .rw[dS.mp hr];exact λy hy=>uK hy
def Bv.fin(h:Bv f s R n)(hn:R.length<=n):x∈R↔Rc f s x:=by
 have hcl:=h.cl;rw[jg hn] at hcl;exact⟨h.rc x,λg=>g.mem h.sR hcl⟩
def Bv.len{R M:aa ag}{n:ai}(h:Bv f s R n)(hs:s∈M)(hc:∀x∈M,∀y∈f x,y∈M):R.length<=M.length:=nO _ _ h.nd λx hx=>(h.rc x hx).mem hs hc
def sortI(l:aa ag):aa ag:=(h_ (l.map δ)).map unI
def sortI_perm(l:aa ag):(sortI l).Perm l:=by
 have h:=(b7 (l.map δ)).map unI;rw[bP] at h;have e:l.map (unI ∘ δ)=l:=by
  conv=>rhs;rw[<-gq l]
  exact dh λt _=>rfl
 rw[e] at h;exact h
def aDy(l:aa ag):(sortI l).map δ=h_ (l.map δ):=by
 unfold sortI;rw[bP]
 conv=>rhs;rw[<-gq (h_ (l.map δ))]
 refine dh λd hd=>?_
 obtain⟨t,_,rfl⟩:=aT.mp ((b7 (l.map δ)).mem_iff.mp hd);rfl
theorem aLo(a b:ag):leE (.int a) (.int b)=af↔a<=b:=by
 have e:(enc (.int b)<enc (.int a))↔b<a:=by
  show([0,b]:aa ag)<[0,a]↔b<a;rw[eL,eL];simp
 unfold leE;rw[jk,kX,e];lia
def aHc(l:aa ag):(sortI l).Pairwise (·<=·):=by
 have h:=dY (l.map δ);rw[<-aDy,d4] at h;exact h.imp λ{a b} h=>(aLo a b).mp h
theorem YK(h:l.Nodup):(sortI l).Pairwise (·<·):=by
 have h1:=aHc l;have h2:(sortI l).Pairwise (·≠·):=(sortI_perm l).nodup_iff.mpr h;exact(h1.and h2).imp λ{a b} ⟨h1,h2⟩=>by lia
theorem uL:∀{l m:aa ag},l.Pairwise (·<·)->m.Pairwise (·<·)->(∀x,x∈l↔x∈m)->l=m
 |[],[],_,_,_=>rfl
 |[],b::m,_,_,h=>by have:=(h b).mpr (bw ..);cases this
 |a::l,[],_,_,h=>by have:=(h a).mp (bw ..);cases this
 |a::l,b::m,h1,h2,h=>by
  rw[iX] at h1 h2;have e:a=b:=by
   rcases bq.mp ((h a).mp (bw ..)) with g|g
   .exact g
   .rcases bq.mp ((h b).mpr (bw ..)) with g'|g'
    .exact g'.symm
    .have:=h2.1 a g;have:=h1.1 b g';lia
  subst e;rw[uL h1.2 h2.2 λx=>⟨λhx=>by
   rcases bq.mp ((h x).mp (bu _ hx)) with g|g
   .have:=h1.1 x hx;lia
   .exact g,λhx=>by
   rcases bq.mp ((h x).mpr (bu _ hx)) with g|g
   .have:=h2.1 x hx;lia
   .exact g⟩]
structure Ps(f:ag->aa ag)(N1:aa ag)(F:aa (aa ag)):Prop where
 nd:F.flatten.Nodup
 cv:∀n∈N1,n∈F.flatten
 cl:∀x∈F.flatten,∀y,Rc f x y->y∈F.flatten
 ea:∀p∈F,∃n q,p=n::q/\n∈N1/\p.Pairwise (·<·)/\∀x,x∈p↔Rc f n x
 hd:F.Pairwise λp q=>p.headD 0<q.headD 0
def ps0(f:ag->aa ag):Ps f [] []:=⟨by simp,by simp,by simp,by simp,by simp⟩
def Ps.skip(h:Ps f N1 F)(hn:n∈F.flatten):Ps f (N1++[n]) F:=
 ⟨h.nd,λm hm=>by
  rcases cw.mp hm with g|g
  .exact h.cv m g
  .rw[dS.mp g];exact hn,h.cl,λp hp=>let ⟨m,q,h1,h2,h3⟩:=h.ea p hp;⟨m,q,h1,eg _ h2,h3⟩,h.hd⟩
theorem Ps.more(hsy:∀x y,y∈f x->x∈f y)(h:Ps f N1 F)(hs:(N1++n::N2).Pairwise (·<·))(hc:∀x∈N1++n::N2,∀y∈f x,y∈N1++n::N2)(hn:n∉F.flatten)(hR:R.Nodup)(hm:∀x,x∈R↔Rc f n x):Ps f (N1++[n]) (F++[sortI R])/\(∀x∈sortI R,x∉F.flatten):=by
 have mem:∀x,x∈sortI R↔Rc f n x:=λx=>(sortI_perm R).mem_iff.trans (hm x)
 have new:∀x∈sortI R,x∉F.flatten:=λx hx hF=>hn (h.cl x hF n (((mem x).mp hx).symm hsy))
 have big:∀x∈sortI R,n<=x:=λx hx=>by
  have h1:=((mem x).mp hx).mem 0x2 hc;rcases cw.mp h1 with h1|h1
  .exact bg (h.cv x h1) (new x hx)
  .rcases bq.mp h1 with h1|h1
   .lia
   .have:=(mz.mp hs).2.1;rw[iX] at this;have:=this.1 x h1;lia
 have hnR:n∈sortI R:=(mem n).mpr .refl;have hlt:=YK hR;obtain⟨q,hq⟩:∃q,sortI R=n::q:=by
  cases e:sortI R with
  |nil=>rw[e] at hnR;cases hnR
  |cons a q=>
   rw[e] at hnR hlt;have:=big a (by rw[e];exact bw ..);rw[iX] at hlt;rcases bq.mp hnR with g|g
   .exact⟨q,by rw[g]⟩
   .have:=hlt.1 n g;lia
 refine⟨⟨?_,λm hm=>?_,λx hx y hy=>?_,λp hp=>?_,?_⟩,new⟩
 .rw[sQ,sT,fg];exact⟨h.nd,(sortI_perm R).nodup_iff.mpr hR,λa ha b hb z=>new b hb (z▸ha)⟩
 .rw[sQ,sT];rcases cw.mp hm with g|g
  .exact eg _ (h.cv m g)
  .rw[dS.mp g];exact en _ hnR
 .rw[sQ,sT] at hx ⊢;rcases cw.mp hx with g|g
  .exact eg _ (h.cl x g y hy)
  .exact en _ ((mem y).mpr (((mem x).mp g).trans hy))
 .rcases cw.mp hp with g|g
  .obtain⟨m,q,h1,h2,h3⟩:=h.ea p g;exact⟨m,q,h1,eg _ h2,h3⟩
  .rw[dS.mp g];exact⟨n,q,hq,by simp,hlt,mem⟩
 .rw[mz];refine⟨h.hd,by simp,λp hp r hr=>?_⟩;rw[dS.mp hr,hq];obtain⟨m,q',h1,h2,_⟩:=h.ea p hp;rw[h1];exact(mz.mp hs).2.2 m h2 n 0x2
def bW{I:aa α->aa D->Prop}(xs:aa α)(step:∀ys a zs ρ,xs=ys++a::zs->I ys ρ->∃ρ1 ρ2,t (d a) ρ=.ok ρ1/\body ρ1=.ok (.nx ρ2)/\I (ys++[a]) ρ2){ρ:aa D}(h0:I [] ρ):∃ρ',oK t body (xs.map d) ρ=.ok (.nx ρ')/\I xs ρ':=by
 have key:∀zs ys ρ,xs=ys++zs->I ys ρ->∃ρ',oK t body (zs.map d) ρ=.ok (.nx ρ')/\I xs ρ':=by
  intro zs;induction zs with
  |nil=>
   intro ys ρ e h;rw[eo] at e;subst e;exact⟨ρ,rfl,h⟩
  |cons a zs ih=>
   intro ys ρ e h;obtain⟨ρ1,ρ2,h1,h2,h3⟩:=step ys a zs ρ e h;obtain⟨ρ',g1,g2⟩:=ih (ys++[a]) ρ2 (by rw[e,c6];rfl) h3;exact⟨ρ',jM h1 h2 g1,g2⟩
 exact key xs [] ρ rfl h0
def d_(a b:ag):eqD (.int a) (.int b)=ϒ (a=b):=by
 show(a==b)=_;by_cases h:a=b
 .subst h;simp
 .rw[c8 h];simpa using h
noncomputable def dA(M:aa ag)(f:ag->aa ag):aa (D×D):=M.map λn=>(.int n,.lst ((f n).map δ))
def V5:∀{M:aa ag},x∈M->bB (dA M f) (.int x)=ae (.lst ((f x).map δ))
 |m::M,h=>by
  show(if eqD (.int m) (.int x) then _ else _)=_;rw[d_];by_cases e:m=x
  .subst e;simp
  .rw[c8 e,aw 0x2];exact V5 ((bq.mp h).resolve_left (Ne.symm e))
def aDz:∀{M:aa ag},x∉M->bB (dA M f) (.int x)=ao
 |[],_=>rfl
 |m::M,h=>by
  rw[bq,gS] at h;show(if eqD (.int m) (.int x) then _ else _)=_;rw[d_,c8 (Ne.symm h.1),aw 0x2];exact aDz h.2
theorem aIv(hx:g x=y)(hg:∀n,n≠x->g n=f n):∀{M:aa ag},M.Nodup->x∈M->putD (dA M f) (.int x) (.lst (y.map δ))=dA M g
 |m::M,nd,h=>by
  rw[df] at nd;show(if eqD (.int m) (.int x) then _ else _)=_;rw[d_];by_cases e:m=x
  .subst e;rw[cm rfl,av rfl];show _=(δ m,ξ ((g m).map δ))::dA M g;rw[hx]
   congr 1
   refine dh λn hn=>?_
   rw[hg n λz=>nd.1 (z▸hn)]
  .rw[c8 e,aw 0x2];show _=(δ m,ξ ((g m).map δ))::dA M g;rw[hg m e]
   congr 1
   exact aIv hx hg nd.2 ((bq.mp h).resolve_left (Ne.symm e))
noncomputable def YL(f:ag->aa ag)(x y:ag):ag->aa ag:=λn=>if n=x then f n++[y] else f n
theorem aE0(nd:M.Nodup)(hx:x∈M)(hl:(f x).length<100000):aCs (.dct (dA M f)) (.int x) (.int y)=.ok (.dct (dA M (YL f x y))):=by
 have e:=V5 (f:=f) hx;have hl':ϒ (((f x).map δ).length<lim)=af:=cm (by rw[aI,a_];lia);simp only[aCs,fY,e,hl',D.pure,iz,cq];have:=aIv (f:=f) (g:=YL f x y) (x:=x) (y:=f x++[y]) (by simp[YL]) (λn hn=>by simp[YL,hn]) nd hx;rw[cu] at this;rw[<-this];rfl
def aE1(h1:kJ i ρ=.ok d)(h2:fk ρ=.ok k)(h3:fe ρ=.ok e)(h4:aCs d k e=.ok r):aCt i fk fe ρ=.ok (.nx (ρ.set i r)):=by
 unfold aCt;rw[h1,ε,h2,ε,h3,ε,h4];rfl
theorem aLp(h1:fk ρ=.ok (.int x))(h2:ρ.getD i .uD=.dct (dA M λ_=>[]))(hx:x∉M)(hl:M.length<100000):aD3 i fk ρ=.ok (.nx (ρ.set i (.dct (dA (M++[x]) λ_=>[])))):=by
 unfold aD3;rw[h1,ε,h2];have hc:(fY (.int x)&&(bB (dA M λ_=>[]) (.int x)).isNone&&ϒ ((dA M λ_=>[]).length<lim)&&(dA M λ_=>[]).all (λp=>aCz p.2))=af:=by
  rw[aDz hx,cm (by rw[dA,aI,a_];lia)];have:(dA M λ_=>[]).all (λp=>aCz p.2)=af:=by
   refine dw.mpr λp hp=>?_
   obtain⟨n,_,rfl⟩:=aT.mp hp;rfl
  rw[this];rfl
 show(if (fY (.int x)&&(bB (dA M λ_=>[]) (.int x)).isNone&&ϒ ((dA M λ_=>[]).length<lim)&&(dA M λ_=>[]).all (λp=>aCz p.2))=af then τ (Fl.nx (ρ.set i (.dct ((dA M λ_=>[])++[(.int x,.lst [])])))) else .bad)=_;rw[av hc]
 congr 4
 simp[dA]
def stB(f:ag->aa ag)(t:Tie):ag->aa ag:=if t.1.1=0 then f else YL (YL f t.1.1 t.2.1) t.2.1 t.1.1
def stN(f:ag->aa ag)(t:Tie):ag->aa ag:=YL (YL f t.1.1 t.2.1) t.2.1 t.1.1
def vK(V:aa Tie):ag->aa ag:=V.foldl stB λ_=>[]
def YM:z∈YL f x y n↔z∈f n\/(n=x/\z=y):=by
 unfold YL;split
 .rename_i h;simp[h]
 .rename_i h;simp[h]
def aE2(t:Tie)(x y:ag):Prop:=(t.1.1=x/\t.2.1=y)\/(t.2.1=x/\t.1.1=y)
def aLq:y∈stN f t x↔y∈f x\/aE2 t x y:=by
 unfold stN aE2;rw[YM,YM];constructor
 .rintro((h|⟨h1,h2⟩)|⟨h1,h2⟩)
  .exact .inl h
  .exact .inr (.inl ⟨h1.symm,h2.symm⟩)
  .exact .inr (.inr ⟨h1.symm,h2.symm⟩)
 .rintro(h|⟨h1,h2⟩|⟨h1,h2⟩)
  .exact .inl (.inl h)
  .exact .inl (.inr ⟨h1.symm,h2.symm⟩)
  .exact .inr ⟨h1.symm,h2.symm⟩
def aLr:y∈stB f t x↔y∈f x\/(t.1.1≠0/\aE2 t x y):=by
 unfold stB;split
 .rename_i h;simp[h]
 .rename_i h;have:=aLq (f:=f) (t:=t) (x:=x) (y:=y);unfold stN at this;rw[this];simp[h]
def aIw:∀(V:aa Tie)(f:ag->aa ag),y∈V.foldl stB f x↔y∈f x\/∃t∈V,t.1.1≠0/\aE2 t x y
 |[],f=>by simp
 |t::V,f=>by
  rw[jh,aIw V,aLr];simp only[bq,exists_eq_or_imp,xh]
def xN{V:aa Tie}:y∈vK V x↔∃t∈V,t.1.1≠0/\aE2 t x y:=by simp[vK,aIw]
def LK(f:ag->aa ag)(x y n:ag):(YL f x y n).length<=(f n).length+1:=by
 unfold YL;split<;>simp
theorem aE3:∀(V:aa Tie)(f:ag->aa ag)(x:ag),(V.foldl stB f x).length<=(f x).length+2*V.length
 |[],f,x=>by simp
 |t::V,f,x=>by
  have h1:=aE3 V (stB f t) x;have h2:=LK (YL f t.1.1 t.2.1) t.2.1 t.1.1 x;have h3:=LK f t.1.1 t.2.1 x;have h4:(stB f t x).length<=(f x).length+2:=by
   unfold stB;split
   .lia
   .lia
  rw[jh,cr];lia
section
variable {Q:aa Pc} {V:aa Tie}
def lB(w:Wf Q V):∀x∈Q.map (·.1),∀y∈vK V x,y∈Q.map (·.1):=λx _ y hy=>by
 obtain⟨t,ht,h0,hj⟩:=xN.mp hy;rcases w.ok t ht with ⟨h1,_⟩|⟨h1,h2⟩
 .exact bg h1 h0
 .rcases hj with ⟨_,h⟩|⟨_,h⟩
  .exact h▸h2
  .exact h▸h1
def RK(V:aa Tie):∀x y,y∈vK V x->x∈vK V y:=λx y hy=>by
 obtain⟨t,ht,h0,hj⟩:=xN.mp hy;exact xN.mpr ⟨t,ht,h0,hj.symm.imp (λ⟨a,b⟩=>⟨b,a⟩) λ⟨a,b⟩=>⟨b,a⟩⟩
end
def LQ(h1:a ρ=.ok (.tup xs))(hp:θ xs=af)(h2:oK t body xs ρ=r):vV (dN a aj) t body ρ=r:=by
 refine jK ?_ h2;have:=jZ (fr:=aj) h1 (show rG (.tup xs)=.ok xs from rfl);rw[this,nr,D.pure,hp]
theorem Wf.nd{V:aa Tie}(w:Wf Q V):(Q.map (·.1)).Nodup:=w.qs.imp λ{a b} h=>by lia
theorem aE4{V:aa Tie}(w:Wf Q V)(e:Q=ys++a::zs):a.1∉ys.map (·.1):=λz=>by
 have h:=w.qs;rw[e,cu,bj,mz] at h;have:=h.2.2 a.1 z a.1 (bw ..);lia
theorem LR{V:aa Tie}{r:ag}(w:Wf Q V):b_ 1 lK [dR Q V r]=.ok (.dct (dA (Q.map (·.1)) (vK V))):=by
 refine(cQ rfl).trans ?_;have ql:=w.ql;obtain⟨ρ1,e1,x2,x3,rfl⟩:=bW (t:=tgN [2,3]) (body:=aD3 1 g_) (d:=pcD) (I:=λys ρ=>∃a b,ρ=[dR Q V r,.dct (dA (ys.map (·.1)) λ_=>[]),a,b,.uD,.uD]) Q (λys a zs ρ e ⟨x,y,h⟩=>by
  subst h;refine⟨_,_,rfl,aLp (i:=1) (M:=ys.map (·.1)) (x:=a.1) rfl rfl (aE4 w e) (by rw[e] at ql;simp at ql ⊢;lia),.int a.1,.str a.2,?_⟩;rw[cu];rfl) (ρ:=[dR Q V r,.dct [],.uD,.uD,.uD,.uD]) ⟨.uD,.uD,rfl⟩
 obtain⟨ρ2,e2,x2,x3,x4,x5,rfl⟩:=bW (t:=tgN [4,5]) (body:=aP7) (d:=bO) (I:=λys ρ=>∃a b c d,ρ=[dR Q V r,.dct (dA (Q.map (·.1)) (vK ys)),a,b,c,d]) V (λys t zs ρ e ⟨x,y,z,u,h⟩=>by
  subst h;have ht:t∈V:=by rw[e];simp
  have hl:ys.length<=1000:=by have:=w.vl;rw[e] at this;simp at this;lia
  have hb:∀n,(vK ys n).length<=2000:=λn=>by have:=aE3 ys (λ_=>[]) n;unfold vK;simp at this;lia
  have ha:vK (ys++[t])=stB (vK ys) t:=by unfold vK;rw[wd];rfl
  refine⟨[dR Q V r,.dct (dA (Q.map (·.1)) (vK ys)),x,y,enP t.1,enP t.2],[dR Q V r,.dct (dA (Q.map (·.1)) (vK (ys++[t]))),x,y,enP t.1,enP t.2],rfl,?_,x,y,_,_,rfl⟩;have hc:dC .ne (.int t.1.1) (.int 0)=.ok (.bl (!ϒ (t.1.1=0))):=by
   rw[<-d_];rfl
  by_cases h0:t.1.1=0
  .refine nY (cX (aJ (x:=.int t.1.1) rfl rfl (hc.trans (by rw[cm h0];rfl)))) ?_;rw[ha,stB,av h0];rfl
  .have hm:t.1.1∈Q.map (·.1)/\t.2.1∈Q.map (·.1):=(w.ok t ht).resolve_left λz=>h0 z.1
   refine BL (cX (aJ (x:=.int t.1.1) rfl rfl (hc.trans (by rw[c8 h0];rfl)))) ?_;have a1:=aE0 (f:=vK ys) (y:=t.2.1) w.nd hm.1 (by have:=hb t.1.1;lia);have a2:=aE0 (f:=YL (vK ys) t.1.1 t.2.1) (y:=t.1.1) w.nd hm.2 (by have:=hb t.2.1;have:=LK (vK ys) t.1.1 t.2.1 t.2.1;lia);refine aL (aE1 (i:=1) rfl (k:=.int t.1.1) rfl (e:=.int t.2.1) rfl a1) ?_;refine(aE1 (i:=1) rfl (k:=.int t.2.1) rfl (e:=.int t.1.1) rfl a2).trans ?_;rw[ha,stB,aw h0];rfl) (ρ:=[dR Q V r,.dct (dA (Q.map (·.1)) λ_=>[]),x2,x3,.uD,.uD]) ⟨_,_,_,_,rfl⟩
 have e:o_ [dR Q V r,.uD,.uD,.uD,.uD,.uD]=.ok (.rt (.dct (dA (Q.map (·.1)) (vK V)))):=by
  refine aL (ρ':=[dR Q V r,.dct [],.uD,.uD,.uD,.uD]) rfl ?_;refine aL (LQ (xs:=Q.map pcD) rfl (uH Q) e1) ?_;refine aL (LQ (xs:=V.map bO) rfl (qH V) e2) ?_;rfl
 show(do let r <- o_ _;aBr r)=_;rw[show([dR Q V r]++c_ (6-1) D.uD)=[dR Q V r,.uD,.uD,.uD,.uD,.uD] from rfl,e];rfl
noncomputable def kT(R:aa ag):aa (D×D):=R.map λr=>(.int r,.bl af)
def aE5:∀{R:aa ag},(bB (kT R) (.int x)).isSome=ϒ (x∈R)
 |[]=>by simp[kT,bB]
 |r::R=>by
  show(if eqD (.int r) (.int x) then ae (π af) else bB (kT R) (.int x)).isSome=_;rw[d_];by_cases e:r=x
  .subst e;simp
  .rw[c8 e,aw 0x2];refine aE5.trans (ot.mpr ?_);simp[Ne.symm e]
def aE6:∀{R:aa ag},x∉R->putD (kT R) (.int x) (.bl af)=kT (R++[x])
 |[],_=>rfl
 |r::R,h=>by
  rw[bq,gS] at h;show(if eqD (.int r) (.int x) then _ else _)=_;rw[d_,c8 (Ne.symm h.1),aw 0x2];show(δ r,π af)::putD (kT R) (.int x) (.bl af)=_;rw[aE6 h.2];rfl
def aE7(R:aa ag)(x:ag):rC (kT R) (.int x)=af:=by
 unfold rC;rw[bn];refine⟨rfl,dw.mpr λp hp=>?_⟩;obtain⟨r,_,rfl⟩:=aT.mp hp;rfl
def xO(R:aa ag)(x:ag):dC .rE (.int x) (.dct (kT R))=.ok (.bl (!ϒ (x∈R))):=by
 show(if rC (kT R) (.int x) then τ (π (!(bB (kT R) (.int x)).isSome)) else .bad)=_;rw[aE7,av rfl,aE5]
def zT(U:aa ag):bG (U.map δ)=af:=by
 unfold bG;refine dw.mpr λd hd=>?_
 obtain⟨t,ht,rfl⟩:=aT.mp hd;have hk:eX ((U.map δ).headD .non)=1:=by
  cases U with
  |nil=>cases ht
  |cons u U=>rfl
 rw[hk];have:((U.map δ).all λb=>(iR .lt (.int t) b).isSome)=af:=by
  refine dw.mpr λb hb=>?_
  obtain⟨u,_,rfl⟩:=aT.mp hb;rfl
 rw[this];rfl
def aLs(R:aa ag):lO (kT R)=R.map δ:=by
 unfold lO kT;rw[bP];rfl
def aE8(R:aa ag):sortedK [.dct (kT R)]=.ok (.lst ((sortI R).map δ)):=by
 have h1:(kT R).all (λp=>!isTup p.1)=af:=by
  refine dw.mpr λp hp=>?_
  obtain⟨r,_,rfl⟩:=aT.mp hp;rfl
 show(if (kT R).all (λp=>!isTup p.1)&&bG (lO (kT R)) then τ (ξ (h_ (lO (kT R)))) else .bad)=_;rw[h1,aLs,zT,aDy];rfl
def uM(a:ag):∀(ys R:aa ag),news R (ys++[a])=news R ys++(if a∈R++news R ys then [] else [a])
 |[],R=>by simp[news]
 |y::ys,R=>by
  rw[eC,news,news];split
  .exact uM a ys R
  .rw[uM a ys (R++[y])];simp
theorem xP:∀(ys R:aa ag),(news R ys).length<=ys.length
 |[],R=>by simp[news]
 |y::ys,R=>by
  rw[news];split
  .have:=xP ys R;simp only[cr];lia
  .have:=xP ys (R++[y]);simp only[cr];lia
def aPl(h:c∈M):dgI (.dct (dA M f)) (.int c)=.ok ((f c).map δ):=by
 have e:=V5 (f:=f) h;simp only[dgI,fY,e,cq];rfl
def aHd(h1:kJ i ρ=.ok d)(h2:fk ρ=.ok k)(h3:dgI d k=.ok xs)(h4:oK t body xs ρ=r):YB i fk t body ρ=r:=by
 unfold YB;rw[h1,ε,h2,ε,h3,ε,h4]
section
variable {M:aa ag} {f:ag->aa ag} {s:ag}
def hst(M:aa ag)(f:ag->aa ag)(s:ag)(R W:aa ag)(x y:D):aa D:=[.dct (dA M f),.int s,.dct (kT R),.lst (W.map δ),x,y]
theorem aAj(hR:R.length<=1000)(hW:W.length<=1000)(hf:(f c).length<=5000):∃y',oK (tg1 5) hbody ((f c).map δ) (hst M f s R W (.int c) y)=.ok (.nx (hst M f s (R++news R (f c)) (W++news R (f c)) (.int c) y')):=by
 obtain⟨ρ,e,y',rfl⟩:=bW (t:=tg1 5) (body:=hbody) (d:=δ) (I:=λys ρ=>∃y',ρ=hst M f s (R++news R ys) (W++news R ys) (.int c) y') (f c) (λys a zs ρ e ⟨y',h⟩=>by
  subst h;have hl:ys.length<=5000:=by rw[e] at hf;simp at hf;lia
  have hn:=xP ys R;refine⟨hst M f s (R++news R ys) (W++news R ys) (.int c) (.int a),hst M f s (R++news R (ys++[a])) (W++news R (ys++[a])) (.int c) (.int a),rfl,?_,_,rfl⟩;rw[uM];by_cases ha:a∈R++news R ys
  .rw[av ha,eo];exact nY (cX (aJ rfl rfl ((xO _ a).trans (by rw[cm ha];rfl)))) rfl
  .rw[aw ha,<-c6,<-c6];refine BL (cX (aJ rfl rfl ((xO _ a).trans (by rw[c8 ha];rfl)))) ?_;refine aL (oV (i:=2) (kvs:=kT (R++news R ys)) (k:=.int a) (d:=.bl af) rfl rfl rfl (by rw[kT,aI,cb,a_];lia) (aE7 _ a) rfl) ?_;refine(jL (i:=3) (xs:=(W++news R ys).map δ) (d:=.int a) rfl rfl (by rw[aI,cb,a_];lia) rfl).trans ?_;rw[aE6 ha];unfold hst;rw[cu (l₁:=W++news R ys)];rfl) (ρ:=hst M f s R W (.int c) y) ⟨y,by simp[news]⟩
 exact⟨y',e⟩
theorem aE9(hs:s∈M)(hc:∀x∈M,∀y∈f x,y∈M)(hM:M.length<=100)(hf:∀x,(f x).length<=5000):∀(m:ai),m<=500->∀(R W:aa ag)(x y:D),Dv f s R W->M.length+W.length<=m+R.length->∃R' x' y',Dv f s R' []/\∀fuel,m<fuel->FZ (bTr j8) hloop fuel (hst M f s R W x y)=.ok (.nx (hst M f s R' [] x' y')):=by
 intro m;induction m with
 |zero=>
  intro _ R W x y dv hm;have:=dv.len hs hc;have hW:W=[]:=vS 0x1;subst hW;refine⟨R,x,y,dv,λfuel hfu=>?_⟩;obtain⟨k,rfl⟩:∃k,fuel=k+1:=⟨fuel-1,by lia⟩
  exact vJ rfl
 |succ m ih=>
  intro hm5 R W x y dv hm;rcases List.eq_nil_or_concat W with rfl|⟨W0,c,rfl⟩
  .refine⟨R,x,y,dv,λfuel hfu=>?_⟩;obtain⟨k,rfl⟩:∃k,fuel=k+1:=⟨fuel-1,by lia⟩
   exact vJ rfl
  .rw[List.concat_eq_append] at dv hm ⊢;have hR:=dv.len hs hc;have hWR:(W0++[c]).length<=m+1+R.length:=by lia
   have hcM:c∈M:=(dv.rc c (dv.wR c 0x2)).mem hs hc;simp only[cb,iO] at hm hWR;obtain⟨y1,e1⟩:=aAj (M:=M) (f:=f) (s:=s) (R:=R) (W:=W0) (c:=c) (y:=y) 0x1 0x1 (hf c);obtain⟨R',x',y',d1,d2⟩:=ih 0x1 (R++news R (f c)) (W0++news R (f c)) (.int c) y1 dv.step (by simp only[cb];lia);refine⟨R',x',y',d1,λfuel hfu=>?_⟩;obtain⟨k,rfl⟩:∃k,fuel=k+1:=⟨fuel-1,by lia⟩
   have ht:(bTr j8) (hst M f s R (W0++[c]) x y)=.ok af:=by
    show aR7 (.lst ((W0++[c]).map δ))=_;show τ (!((W0++[c]).map δ).isEmpty)=_;simp
   refine uJ ht (ρ':=hst M f s (R++news R (f c)) (W0++news R (f c)) (.int c) y1) ?_ (d2 k 0x1);refine aL (ρ':=hst M f s R W0 (.int c) y) ?_ (aHd (i:=0) (k:=.int c) rfl rfl (aPl hcM) e1);have hp:((W0++[c]).map δ)[((W0++[c]).map δ).length-1]?=ae (.int c):=by simp
   show(match ((W0++[c]).map δ)[((W0++[c]).map δ).length-1]? with|some z=>τ (Fl.nx (((hst M f s R (W0++[c]) x y).set 3 (.lst ((W0++[c]).map δ).dropLast)).set 4 z))|none=>.bad)=_;rw[hp];simp[hst]
theorem aAk(hs:s∈M)(hc:∀x∈M,∀y∈f x,y∈M)(hM:M.length<=100)(hf:∀x,(f x).length<=5000):∃R:aa ag,R.Nodup/\(∀x,x∈R↔Rc f s x)/\b_ 2 dB [.dct (dA M f),.int s]=.ok (.lst ((sortI R).map δ)):=by
 obtain⟨R,x,y,dv,e⟩:=aE9 hs hc hM hf M.length 0x1 [s] [s] .uD .uD (dv0 f s) 0x2;refine⟨R,dv.nd,λx=>dv.fin,(cQ rfl).trans ?_⟩;have fin:iM [.dct (dA M f),.int s,.uD,.uD,.uD,.uD]=.ok (.rt (.lst ((sortI R).map δ))):=by
  refine aL (cF (aJ rfl rfl rfl) rfl) ?_;refine aL (cF rfl rfl) ?_;refine aL (e 1000 0x1) ?_;exact fX (aK 0xd (aE8 R)) rfl
 show(do let r <- iM _;aBr r)=_;rw[show([D.dct (dA M f),δ s]++c_ (6-2) D.uD)=[.dct (dA M f),.int s,.uD,.uD,.uD,.uD] from rfl,fin];rfl
end
def zU(t:Tie)(V:aa Tie):ends (t::V)=t.1::t.2::ends V:=rfl
def nQ{V:aa Tie}(h:t∈V):t.1∈ends V/\t.2∈ends V:=by
 unfold ends;exact⟨ir.mpr ⟨t,h,by simp⟩,ir.mpr ⟨t,h,by simp⟩⟩
def BP(V:aa Tie)(e f:Pt):Prop:=(e,f)∈V\/(f,e)∈V
def BP.mem{V:aa Tie}(h:BP V e f):e∈ends V/\f∈ends V:=by
 rcases h with h|h
 .exact nQ h
 .exact⟨(nQ h).2,(nQ h).1⟩
def BP.symm{V:aa Tie}(h:BP V e f):BP V f e:=Or.symm h
def aLt{V:aa Tie}(h:e∈ends V):∃f,BP V e f:=by
 obtain⟨t,ht,h⟩:=ir.mp h;rcases bq.mp h with h|h
 .exact⟨t.2,.inl (by rw[h];exact ht)⟩
 .exact⟨t.1,.inr (by rw[show e=t.2 by simpa using h];exact ht)⟩
def RL{V:aa Tie}(h:BP (t::V) e f)(h1:t.1≠e)(h2:t.2≠e):BP V e f:=by
 rcases h with h|h
 .rcases bq.mp h with h|h
  .exact bg (by rw[<-h]) h1
  .exact .inl h
 .rcases bq.mp h with h|h
  .exact bg (by rw[<-h]) h2
  .exact .inr h
def uN{V:aa Tie}{e f:Pt}(hn:(ends (t::V)).Nodup)(h:BP (t::V) e f):(t.1=e->t.2=f)/\(t.2=e->t.1=f):=by
 rw[zU,df,df,bq,gS] at hn;have key:e=t.1\/e=t.2->t=(e,f)\/t=(f,e):=λhe=>by
  have hv:e∉ends V:=by
   rcases he with he|he
   .rw[he];exact hn.1.2
   .rw[he];exact hn.2.1
  rcases h with h|h
  .rcases bq.mp h with h|h
   .exact .inl h.symm
   .exact bg (nQ h).1 hv
  .rcases bq.mp h with h|h
   .exact .inr h.symm
   .exact bg (nQ h).2 hv
 refine⟨λz=>?_,λz=>?_⟩
 .rcases key (.inl z.symm) with h|h
  .rw[h]
  .rw[h] at hn z;exact bg (show f=e from z) hn.1.1
 .rcases key (.inr z.symm) with h|h
  .rw[h] at hn z;exact bg (show e=f from z.symm) hn.1.1
  .rw[h]
def RM{e f g:Pt}:∀{V:aa Tie},(ends V).Nodup->BP V e f->BP V e g->f=g
 |[],_,h,_=>by rcases h with h|h<;>cases h
 |t::V,hn,h1,h2=>by
  by_cases z:t.1=e
  .rw[<-(uN hn h1).1 z,<-(uN hn h2).1 z]
  .by_cases y:t.2=e
   .rw[<-(uN hn h1).2 y,<-(uN hn h2).2 y]
   .rw[zU,df,df] at hn;exact RM hn.2.2 (RL h1 z y) (RL h2 z y)
def aLu{V:aa Tie}:dN (b2 getD dG gK) aj (dR Q V r::ρ)=.ok (V.map bO,af):=by
 refine(jZ (aJ rfl rfl rfl) rfl).trans ?_;rw[qH];rfl
noncomputable def norm(t:Tie):Tie:=(if ltP t.2 t.1 then t.2 else t.1,if ltP t.1 t.2 then t.2 else t.1)
def kvD(kv:Pt×Pt):D×D:=(enP kv.1,enP kv.2)
noncomputable def aPm:aa (Pt×Pt)->Pt->Pt->aa (Pt×Pt)
 |[],p,q=>[(p,q)]
 | (k,v)::r,p,q=>if k=p then (k,q)::r else (k,v)::aPm r p q
noncomputable def DQ:aa (Pt×Pt)->Pt->aS Pt
 |[],_=>ao
 | (k,v)::r,p=>if k=p then ae v else DQ r p
def aEa(p q:Pt):∀m:aa (Pt×Pt),putD (m.map kvD) (enP p) (enP q)=(aPm m p q).map kvD
 |[]=>rfl
 | (k,v)::r=>by
  rw[bj,kvD,putD,K8,aPm];by_cases h:k=p
  .simp[h,kvD]
  .simp only[h,Ca,dm,ck];rw[aEa p q r];rfl
def V6(p:Pt):∀m:aa (Pt×Pt),bB (m.map kvD) (enP p)=(DQ m p).map enP
 |[]=>rfl
 | (k,v)::r=>by
  rw[bj,kvD,bB,K8,DQ];by_cases h:k=p
  .simp[h]
  .simp only[h,Ca,dm,ck];exact V6 p r
def aLv(m:aa (Pt×Pt))(p:Pt):rC (m.map kvD) (enP p)=af:=by
 unfold rC;rw[show keyOk (enP p)=af from rfl,oe,dw];intro x hx;obtain⟨y,_,rfl⟩:=aT.mp hx;rfl
def L_:∀{m:aa (Pt×Pt)},p∉m.map (·.1)->aPm m p q=m++[(p,q)]
 |[],_=>rfl
 | (k,v)::r,h=>by
  rw[bj,bq,gS] at h;rw[aPm,aw (λz=>h.1 z.symm),L_ h.2];rfl
def RN:∀{m:aa (Pt×Pt)},(m.map (·.1)).Nodup->(p,q)∈m->DQ m p=ae q
 | (k,v)::r,hn,h=>by
  rw[bj,df] at hn;rw[DQ];rcases bq.mp h with e|h
  .cases e;rw[av rfl]
  .rw[aw,RN hn.2 h];rintro rfl;exact hn.1 (aT.mpr ⟨_,h,rfl⟩)
noncomputable def both(T:aa Tie):aa (Pt×Pt):=T.flatMap λt=>[(t.1,t.2),(t.2,t.1)]
def uO(T:aa Tie):(both T).map (·.1)=ends T:=by
 induction T with
 |nil=>rfl
 |cons t T ih=>simp only[both,ends,ie,cu] at *;rw[ih];rfl
theorem aHe(T:aa Tie):(both T).length=2*T.length:=by
 induction T with
 |nil=>rfl
 |cons t T ih=>simp only[both,ie,cb,cr,e9] at *;lia
def aHf{V:aa Tie}:BP V e f->(e,f)∈both V:=λh=>by
 unfold both;rcases h with h|h
 .exact ir.mpr ⟨_,h,by simp⟩
 .exact ir.mpr ⟨_,h,by simp⟩
def look_both{V:aa Tie}(hn:(ends V).Nodup)(h:BP V e f):DQ (both V) e=ae f:=RN (by rw[uO];exact hn) (aHf h)
theorem GK:∀(T S:aa Tie)(p q:D),(ends (S++T)).Nodup->2*(S++T).length<lim->∃p' q',oK (tgN [2,3]) aP2 (T.map bO) [a,.dct ((both S).map kvD),p,q]=.ok (.nx [a,.dct ((both (S++T)).map kvD),p',q'])
 |[],S,p,q,_,_=>⟨p,q,by rw[eo];rfl⟩
 |t::T,S,p,q,hn,hl=>by
  have hS:S++t::T=S++[t]++T:=by simp
  obtain⟨p',q',e⟩:=GK T (S++[t]) (enP t.1) (enP t.2) (by rw[<-hS];exact hn) (by rw[<-hS];exact hl);refine⟨p',q',?_⟩;rw[hS,<-e];have hb:both (S++[t])=(both S++[(t.1,t.2)])++[(t.2,t.1)]:=by simp[both]
  have hd:(ends S++([t.1,t.2]++ends T)).Nodup:=by
   have:ends (S++t::T)=ends S++([t.1,t.2]++ends T):=by simp[ends]
   rwa [this] at hn
  have n1:t.1∉(both S).map (·.1):=by
   rw[uO];intro h;exact(fg.mp hd).2.2 _ h t.1 0x2 rfl
  have n2:t.2∉(both S++[(t.1,t.2)]).map (·.1):=by
   rw[cu,uO];intro h;rcases cw.mp h with h|h
   .exact(fg.mp hd).2.2 _ h t.2 0x2 rfl
   .have e:t.2=t.1:=by simpa using h
    have:=(fg.mp (fg.mp hd).2.1).1;rw[e] at this;simp at this
  have hlen:(both S).length+1<lim:=by
   rw[aHe];rw[cb,cr] at hl;lia
  have s1:=aEa t.1 t.2 (both S);have s2:=aEa t.2 t.1 (both S++[(t.1,t.2)]);rw[L_ n1] at s1;rw[L_ n2,<-hb] at s2;refine jM rfl ?_ rfl;refine aL (ρ':=[a,.dct ((both S++[(t.1,t.2)]).map kvD),enP t.1,enP t.2]) ?_ ?_
  .rw[<-s1];exact oV (k:=enP t.1) (d:=enP t.2) rfl rfl rfl (by rw[aI];lia) (aLv _ _) rfl
  .rw[<-s2];exact oV (i:=1) (kvs:=(both S++[(t.1,t.2)]).map kvD) (k:=enP t.2) (d:=enP t.1) rfl rfl rfl (by rw[aI,cb];exact hlen) (aLv _ _) rfl
def aHg{V:aa Tie}{r:ag}(hn:(ends V).Nodup)(hl:2*V.length<lim):b_ 1 qZ [dR Q V r]=.ok (.dct ((both V).map kvD)):=by
 obtain⟨p',q',e⟩:=GK V [] .uD .uD (by simpa using hn) (by simpa using hl);refine(cQ rfl).trans (call_v ?_);refine aL (cF rfl rfl) ?_;refine aL (jK aLu e) ?_;rfl
noncomputable def unP:D->Pt
 |.tup [.int a,.int b]=>(a,b)
 |_=>(0,0)
def aPn(p:Pt):unP (enP p)=p:=rfl
def mO(U:aa Pt):aa Pt:=(h_ (U.map enP)).map unP
def mQ(U:aa Pt):(mO U).Perm U:=by
 have h:=(b7 (U.map enP)).map unP;rw[bP] at h;have e:U.map (unP ∘ enP)=U:=by
  conv=>rhs;rw[<-gq U]
  exact dh λt _=>aPn t
 rw[e] at h;exact h
def aEb(U:aa Pt):(mO U).map enP=h_ (U.map enP):=by
 unfold mO;rw[bP]
 conv=>rhs;rw[<-gq (h_ (U.map enP))]
 refine dh λd hd=>?_
 obtain⟨t,_,rfl⟩:=aT.mp ((b7 (U.map enP)).mem_iff.mp hd);rfl
def DR(U:aa Pt):bG (U.map enP)=af:=by
 unfold bG;refine dw.mpr λd hd=>?_
 obtain⟨t,ht,rfl⟩:=aT.mp hd;have hk:eX ((U.map enP).headD .non)=3:=by
  cases U with
  |nil=>cases ht
  |cons u U=>rfl
 have h5:eX (enP t)=3:=rfl;have hp:(enP t).plain=af:=rfl;have hq:(enP t).fD aO=af:=rfl;rw[hk,h5,hp,hq];refine dw.mpr λb hb=>?_
 obtain⟨u,_,rfl⟩:=aT.mp hb;rw[qG];rfl
theorem aAl(hn:U.Nodup):(mO U).Pairwise ltP:=by
 have h:=dY (U.map enP);rw[<-aEb,d4] at h;have hn':(mO U).Nodup:=(mQ U).nodup_iff.mpr hn;refine(List.pairwise_and_iff.mpr ⟨h,hn'⟩).imp λ{a b} hab=>?_
 obtain⟨h1,h2⟩:=hab;have e:=yI (enP b) (enP a) _ rfl rfl (qG b a);unfold leE at h1;rw[<-e] at h1;have h3:¬ltP b a:=by simpa using h1
 unfold ltP at h3 ⊢;have:a.1≠b.1\/a.2≠b.2:=by
  by_cases z:a.1=b.1
  .exact .inr λy=>h2 (Prod.ext z y)
  .exact .inl z
 lia
def mt(V:aa Tie)(e:Pt):Pt:=(DQ (both V) e).getD e
def MF{V:aa Tie}(hn:(ends V).Nodup)(h:BP V e f):mt V e=f:=by
 unfold mt;rw[look_both hn h];rfl
def zV{V:aa Tie}(hn:(ends V).Nodup)(h:e∈ends V):BP V e (mt V e):=by
 obtain⟨f,hf⟩:=aLt h;rw[MF hn hf];exact hf
noncomputable def pS(p:aa ag):D:=.scr (p.map δ)
def aEc(h1:kJ i ρ=.ok (.scr xs))(h2:oK t body xs ρ=r):aD4 i t body ρ=r:=by
 unfold aD4;rw[h1,ε];exact h2
def aPo(h:f ρ=.ok (.lst xs))(hp:θ xs=af):bFz f ρ=.ok (.scr xs):=by
 unfold bFz;rw[h,ε];show(if θ xs then _ else _)=_;rw[hp,av rfl]
def Ps.sub{N1 N:aa ag}(h:Ps f N1 F)(hN:∀n∈N1,n∈N)(hc:∀x∈N,∀y∈f x,y∈N):∀x∈F.flatten,x∈N:=λx hx=>by
 obtain⟨p,h1,h2⟩:=xi.mp hx;obtain⟨n,q,e,h3,_,h4⟩:=h.ea p h1;exact((h4 x).mp h2).mem (hN n h3) hc
def Ps.len{N1 N:aa ag}{F:aa (aa ag)}(h:Ps f N1 F)(hN:∀n∈N1,n∈N)(hc:∀x∈N,∀y∈f x,y∈N):F.flatten.length<=N.length:=nO _ _ h.nd (h.sub hN hc)
def aAt(Q:aa Pc)(V:aa Tie):D:=.dct (dA (Q.map (·.1)) (vK V))
theorem aHh(nd:p.Nodup)(hd:∀x∈p,x∉K)(hl:p.length+K.length<=100000):∃g',oK (tg1 7) (M8 2 vU (bC (.bl af))) (p.map δ) [a,b,.dct (kT K),c,d,e,f,g]=.ok (.nx [a,b,.dct (kT (K++p)),c,d,e,f,g']):=by
 obtain⟨ρ,h,x,rfl⟩:=bW (t:=tg1 7) (body:=M8 2 vU (bC (.bl af))) (d:=δ) (I:=λys ρ=>∃x,ρ=[a,b,.dct (kT (K++ys)),c,d,e,f,x]) p (λys n zs ρ e0 ⟨x,h⟩=>by
  subst h;have hn:n∉K++ys:=λz=>by
   rcases cw.mp z with z|z
   .exact hd n (by rw[e0];simp) z
   .rw[e0] at nd;exact(fg.mp nd).2.2 n z n (bw ..) rfl
  have hyl:ys.length<=p.length:=by rw[e0];simp
  refine⟨[a,b,.dct (kT (K++ys)),c,d,e,f,.int n],[a,b,.dct (kT (K++(ys++[n]))),c,d,e,f,.int n],rfl,?_,_,rfl⟩;refine(oV (i:=2) (kvs:=kT (K++ys)) (k:=.int n) (d:=.bl af) rfl rfl rfl (by rw[kT,aI,cb,a_];lia) (aE7 _ n) rfl).trans ?_;rw[aE6 hn,c6];rfl) (ρ:=[a,b,.dct (kT K),c,d,e,f,g]) ⟨g,by rw[eo]⟩
 exact⟨x,h⟩
theorem aHi{V:aa Tie}{r:ag}(w:Wf Q V):∃F:aa (aa ag),Ps (vK V) (Q.map (·.1)) F/\F.length<=40/\b_ 1 vH [dR Q V r]=.ok (.lst (F.map pS)):=by
 have ql:=w.ql;have hcl:=lB w;have hb:∀n,(vK V n).length<=5000:=λn=>by have:=aE3 V (λ_=>[]) n;have:=w.vl;unfold vK;simp at *;lia
 obtain⟨ρ1,e1,F,x4,x5,x6,x7,ps,hl,rfl⟩:=bW (t:=tgN [4,5]) (body:=aP8) (d:=pcD) (I:=λys ρ=>∃F x4 x5 x6 x7,Ps (vK V) (ys.map (·.1)) F/\F.length<=ys.length/\ρ=[dR Q V r,aAt Q V,.dct (kT F.flatten),.lst (F.map pS),x4,x5,x6,x7]) Q (λys a zs ρ e ⟨F,x4,x5,x6,x7,ps,hl,h⟩=>by
  subst h;have eN:Q.map (·.1)=ys.map (·.1)++a.1::zs.map (·.1):=by rw[e,cu];rfl
  have hsub:∀n∈ys.map (·.1),n∈Q.map (·.1):=λn hn=>by rw[eN];exact eg _ hn
  have haN:a.1∈Q.map (·.1):=by rw[eN];simp
  have hyl:ys.length<=40:=by rw[eN] at ql;simp at ql;lia
  have hK:=ps.len hsub hcl;rw[cu,cb];refine⟨[dR Q V r,aAt Q V,.dct (kT F.flatten),.lst (F.map pS),.int a.1,.str a.2,x6,x7],?_⟩;by_cases hn:a.1∈F.flatten
  .refine⟨_,rfl,nY (cX (aJ (x:=.int a.1) rfl rfl ((xO _ a.1).trans (by rw[cm hn];rfl)))) rfl,F,_,_,_,_,ps.skip hn,by lia,rfl⟩
  .obtain⟨R,r1,r2,r3⟩:=aAk (M:=Q.map (·.1)) (f:=vK V) haN hcl 0x1 hb;obtain⟨ps2,hnew⟩:=ps.more (RK V) (by rw[<-eN];exact w.qs) (by rw[<-eN];exact hcl) hn r1 r2;have hnd:(sortI R).Nodup:=(sortI_perm R).nodup_iff.mpr r1;have hlR:(sortI R).length<=40:=du (nO _ _ hnd λx hx=>((r2 x).mp ((sortI_perm R).mem_iff.mp hx)).mem haN hcl) ql;obtain⟨g',hg⟩:=aHh (a:=dR Q V r) (b:=aAt Q V) (c:=.lst (F.map pS)) (d:=.int a.1) (e:=.str a.2) (f:=pS (sortI R)) (g:=x7) (K:=F.flatten) hnd hnew 0x1;refine⟨[dR Q V r,aAt Q V,.dct (kT (F.flatten++sortI R)),.lst ((F++[sortI R]).map pS),.int a.1,.str a.2,pS (sortI R),g'],rfl,BL (cX (aJ (x:=.int a.1) rfl rfl ((xO _ a.1).trans (by rw[c8 hn];rfl)))) ?_,F++[sortI R],.int a.1,.str a.2,pS (sortI R),g',ps2,by simp;lia,?_⟩
   .have r3':b_ 2 dB [aAt Q V,.int a.1]=.ok (.lst ((sortI R).map δ)):=r3;have c1:aP (b_ 2 dB) (aD fW (aD gD aX)) [dR Q V r,aAt Q V,.dct (kT F.flatten),.lst (F.map pS),.int a.1,.str a.2,x6,x7]=.ok (.lst ((sortI R).map δ)):=aK 0xc r3';refine aL (ρ':=[dR Q V r,aAt Q V,.dct (kT F.flatten),.lst (F.map pS),.int a.1,.str a.2,pS (sortI R),x7]) (bI (i:=6) (aPo c1 (eO _))) ?_;refine aL (ρ':=[dR Q V r,aAt Q V,.dct (kT (F.flatten++sortI R)),.lst (F.map pS),.int a.1,.str a.2,pS (sortI R),g']) (aEc (i:=6) (xs:=(sortI R).map δ) rfl hg) ?_;refine(jL (i:=3) (xs:=F.map pS) (d:=pS (sortI R)) rfl rfl (by rw[aI,a_];lia) (eO _)).trans ?_;rw[cu];rfl
   .rw[sQ,sT]) (ρ:=[dR Q V r,aAt Q V,.dct [],.lst [],.uD,.uD,.uD,.uD]) ⟨[],_,_,_,_,ps0 _,bi _,rfl⟩
 refine⟨F,ps,by rw[aI] at ql;lia,(cQ rfl).trans ?_⟩;refine call_v (d:=.lst (F.map pS)) ?_;refine aL (ρ':=[dR Q V r,aAt Q V,.uD,.uD,.uD,.uD,.uD,.uD]) (bI (i:=1) (aK (xs:=[dR Q V r]) 0xd (LR w))) ?_;refine aL (ρ':=[dR Q V r,aAt Q V,.dct [],.uD,.uD,.uD,.uD,.uD]) (cF (i:=2) rfl rfl) ?_;refine aL (ρ':=[dR Q V r,aAt Q V,.dct [],.lst [],.uD,.uD,.uD,.uD]) (cF (i:=3) rfl rfl) ?_;refine aL (LQ (xs:=Q.map pcD) rfl (uH Q) e1) ?_;rfl
theorem zW:∀{Q:aa Pc},Q.Pairwise LtN->pc∈Q->Q.find? (λc=>ϒ (c.1=pc.1))=ae pc
 |[],_,h=>by cases h
 |c::Q,hp,h=>by
  rw[iP];rcases bq.mp h with rfl|h
  .simp
  .have h1:=(iX.mp hp).1 pc h;have:¬c.1=pc.1:=by unfold LtN at h1;lia
   rw[c8 this];exact zW (iX.mp hp).2 h
def vq(kvs:aa (D×D))(Q:aa Pc)(n:ag):ai:=((Q.find? λc=>ϒ (c.1=n)).map λc=>vOf kvs c.2+1).getD 0
def V7(h:Q.Pairwise LtN)(hp:pc∈Q):vq kvs Q pc.1=vOf kvs pc.2+1:=by
 unfold vq;rw[zW h hp];rfl
def aEd{V:aa Tie}(w:Net kvs Q V)(hp:pc∈Q):vOf kvs pc.2<=6:=by
 obtain⟨v,h1,h2⟩:=w.sk pc hp;rw[YG h2];exact h1
theorem nR{V:aa Tie}(w:Net kvs Q V)(hp:pc∈Q)(h:ag):(pc.1,h)∈ends V↔0<=h/\h<=vOf kvs pc.2:=by
 obtain⟨S,_,_,p⟩:=w.rims;rw[p.mem_iff,cw,K9];constructor
 .rintro(⟨c,h1,h2,h3⟩|z)
  .have e:c=pc:=by
    have a:=zW w.qs h1;have b:=zW w.qs hp;have h2':c.1=pc.1:=h2;rw[h2',b] at a;cases a;rfl
   subst e;exact h3
  .obtain⟨s,_,e⟩:=aT.mp z;have:=w.qpos pc hp;have e1:(0:ag)=pc.1:=cz n9 e;lia
 .exact λz=>.inl ⟨pc,hp,rfl,z⟩
def eA(V:aa Tie)(n:ag)(k:ai):aa Pt:=(bh k).map λ(j:ai)=>mt V (n,(j:ag))
def ea(kvs:aa (D×D))(Q:aa Pc)(V:aa Tie)(n:ag):aa Pt:=eA V n (vq kvs Q n)
def GP(V:aa Tie)(n:ag)(k:ai):(eA V n k).length=k:=by simp[eA]
def aLw(V:aa Tie)(n:ag)(k:ai):eA V n (k+1)=eA V n k++[mt V (n,(k:ag))]:=by simp[eA,B0]
theorem RP{V:aa Tie}(w:Net kvs Q V){pc:Pc}(hp:pc∈Q){f:Pt}:f∈ea kvs Q V pc.1↔∃h,BP V (pc.1,h) f:=by
 unfold ea eA;rw[V7 w.qs hp];simp only[aT,jb];constructor
 .rintro⟨j,h1,rfl⟩;exact⟨j,zV w.nd ((nR w hp j).mpr 0x1)⟩
 .rintro⟨h,ht⟩;have:=(nR w hp h).mp ht.mem.1;refine⟨h.toNat,by lia,?_⟩;rw[show((h.toNat:ai):ag)=h by lia];exact MF w.nd ht
def dE(M:aa ag)(g:ag->aa Pt):aa (D×D):=M.map λn=>(.int n,.scr ((g n).map enP))
def aEe:∀{M:aa ag},x∈M->bB (dE M g) (.int x)=ae (.scr ((g x).map enP))
 |m::M,h=>by
  show(if eqD (.int m) (.int x) then ae (υ ((g m).map enP)) else bB (dE M g) (.int x))=_;rw[d_];by_cases e:m=x
  .subst e;rw[cm rfl,av rfl]
  .rw[c8 e,aw 0x2];exact aEe ((bq.mp h).resolve_left λz=>e z.symm)
def aIx:∀{M:aa ag},x∉M->putD (dE M g) (.int x) (.scr ((g x).map enP))=dE (M++[x]) g
 |[],_=>rfl
 |m::M,h=>by
  show(if eqD (.int m) (.int x) then _ else _)=_;have e:¬m=x:=λz=>h (by rw[z];simp)
  rw[d_,c8 e,aw 0x2];show _::putD (dE M g) (.int x) (.scr ((g x).map enP))=_;rw[aIx λz=>h (bu _ z)];rfl
def aPp(M:aa ag)(g:ag->aa Pt)(x:ag):rC (dE M g) (.int x)=af:=by
 unfold rC;rw[show keyOk (.int x)=af from rfl,oe,dw];intro p hp;obtain⟨n,_,rfl⟩:=aT.mp hp;rfl
def aEf{V:aa Tie}(hn:(ends V).Nodup)(e:Pt):dC .isin (enP e) (.dct ((both V).map kvD))=.ok (.bl (ϒ (e∈ends V))):=by
 show(if rC ((both V).map kvD) (enP e) then τ (π (bB ((both V).map kvD) (enP e)).isSome) else .bad)=_;rw[aLv,av rfl,V6];by_cases h:e∈ends V
 .rw[look_both hn (zV hn h),cm h];rfl
 .have:DQ (both V) e=ao:=by
   have key:∀m:aa (Pt×Pt),e∉m.map (·.1)->DQ m e=ao:=by
    intro m;induction m with
    |nil=>intro _;rfl
    |cons kv m ih=>
     intro z;rw[DQ,aw (λq=>z (by rw[<-q];simp))];exact ih λq=>z (bu _ q)
   exact key _ (by rw[uO];exact h)
  rw[this,c8 h];rfl
def aHj{V:aa Tie}(hn:(ends V).Nodup)(h:e∈ends V):getD (.dct ((both V).map kvD)) (enP e)=.ok (enP (mt V e)):=by
 show(if keyOk (enP e) then ι (bB ((both V).map kvD) (enP e)) else .bad)=_;rw[V6,look_both hn (zV hn h)];rfl
def aLx{V:aa Tie}{L:aa Pt}:(iT (aD j8 (aD (aP fV (aD fZ aX)) aX))) [net,.dct ((both V).map kvD),ends_,.int n,nm,.lst (L.map enP)]=.ok (enP (n,(L.length:ag))):=by
 refine c7 (aC rfl (aC (aK 0xd (aRz L)) rfl)) (by rw[a_];simp)
theorem aIy{net ends_ nm:D}{kvs:aa (D×D)}{Q:aa Pc}{V:aa Tie}(w:Net kvs Q V){pc:Pc}(hp:pc∈Q):∀(m k fuel:ai),k+m=vOf kvs pc.2+1->m<fuel->
  FZ aP3 aP4 fuel [net,.dct ((both V).map kvD),ends_,.int pc.1,nm,.lst ((eA V pc.1 k).map enP)]=.ok (.nx [net,.dct ((both V).map kvD),ends_,.int pc.1,nm,.lst ((eA V pc.1 (vOf kvs pc.2+1)).map enP)])
 |0,k,fuel,h,hf=>by
  obtain⟨f,rfl⟩:∃f,fuel=f+1:=⟨fuel-1,by lia⟩
  have e:k=vOf kvs pc.2+1:=by lia
  subst e;refine vJ (cX (aJ aLx rfl ((aEf w.nd _).trans ?_)));rw[GP,c8];rw[nR w hp];lia
 |m+1,k,fuel,h,hf=>by
  obtain⟨f,rfl⟩:∃f,fuel=f+1:=⟨fuel-1,by lia⟩
  have v6:=aEd w hp;have hin:(pc.1,((eA V pc.1 k).length:ag))∈ends V:=by
   rw[GP,nR w hp];lia
  refine uJ (cX (aJ aLx rfl ((aEf w.nd _).trans ?_))) ?_ (aIy w hp m (k+1) f 0x1 0x1)
  .rw[cm hin]
  .refine(jL (d:=enP (mt V (pc.1,(k:ag)))) (aJ rfl aLx ?_) rfl (by rw[aI,GP,a_];lia) rfl).trans ?_
   .have:=aHj w.nd hin;rw[GP] at this ⊢;exact this
   .rw[aLw,cu];rfl
def aIz(h1:f ρ=.ok (.lst xs))(hp:θ xs=af)(h2:g (ρ.set i (.lst xs))=r):aOy i f g ρ=r:=by
 unfold aOy;rw[h1,ε];show(if θ xs then _ else _)=_;rw[hp,av rfl,h2]
def V8(h1:f ρ=.ok (.nx ρ'))(h2:g ρ'=r):JT f g ρ=r:=by
 unfold JT;rw[h1,ε];exact h2
def aEg(h1:ρ.getD i .uD=.lst xs)(h2:g (ρ.set i (.scr xs))=r):VB i g ρ=r:=by
 unfold VB;rw[h1];exact h2
def aEh(L:aa Pt):(υ (L.map enP)).pure=af:=lA L
theorem aLy{V:aa Tie}{r:ag}(w:Net kvs Q V):b_ 1 iJ [dR Q V r]=.ok (.dct (dE (Q.map (·.1)) (ea kvs Q V))):=by
 have ql:=w.ql;have wf:=w.wf;obtain⟨ρ1,e1,x3,x4,x5,rfl⟩:=bW (t:=tgN [3,4]) (body:=aP5) (d:=pcD) (I:=λys ρ=>∃a b c,ρ=[dR Q V r,.dct ((both V).map kvD),.dct (dE (ys.map (·.1)) (ea kvs Q V)),a,b,c]) Q (λys a zs ρ e ⟨x,y,z,h⟩=>by
  subst h;have ha:a∈Q:=by rw[e];simp
  have hyl:ys.length<=30:=by rw[e] at ql;simp at ql;lia
  have hnew:=aE4 wf e;have v6:=aEd w ha;refine⟨[dR Q V r,.dct ((both V).map kvD),.dct (dE (ys.map (·.1)) (ea kvs Q V)),.int a.1,.str a.2,z],[dR Q V r,.dct ((both V).map kvD),.dct (dE ((ys++[a]).map (·.1)) (ea kvs Q V)),.int a.1,.str a.2,.scr ((ea kvs Q V a.1).map enP)],rfl,?_,_,_,_,rfl⟩;refine aIz (i:=5) (xs:=[]) rfl rfl ?_;refine V8 (ρ':=[dR Q V r,.dct ((both V).map kvD),.dct (dE (ys.map (·.1)) (ea kvs Q V)),.int a.1,.str a.2,.lst ((ea kvs Q V a.1).map enP)]) ?_ ?_
  .have:=aIy (net:=dR Q V r) (ends_:=.dct (dE (ys.map (·.1)) (ea kvs Q V))) (nm:=.str a.2) w ha (vOf kvs a.2+1) 0 1000 0x1 0x1;unfold ea;rw[V7 w.qs ha];exact this
  .refine aEg (i:=5) rfl ?_;refine(oV (i:=2) (kvs:=dE (ys.map (·.1)) (ea kvs Q V)) (k:=.int a.1) (d:=.scr ((ea kvs Q V a.1).map enP)) rfl rfl rfl (by rw[dE,aI,aI,a_];lia) (aPp _ _ _) (aEh _)).trans ?_;rw[aIx hnew,cu];rfl) (ρ:=[dR Q V r,.dct ((both V).map kvD),.dct [],.uD,.uD,.uD]) ⟨_,_,_,rfl⟩
 refine(cQ rfl).trans (call_v ?_);refine aL (ρ':=[dR Q V r,.dct ((both V).map kvD),.uD,.uD,.uD,.uD]) (bI (i:=1) (aK (xs:=[dR Q V r]) 0xd (aHg w.nd (by have:=w.small;rw[a_];lia)))) ?_;refine aL (ρ':=[dR Q V r,.dct ((both V).map kvD),.dct [],.uD,.uD,.uD]) (cF (i:=2) rfl rfl) ?_;refine aL (LQ (xs:=Q.map pcD) rfl (uH Q) e1) ?_;rfl
def fK(s:Str)(l:aa ag):aa D:=.str s::l.map δ
def aS0(d:D):Prop:=∃(s:Str)(l:aa ag),d=.scr (fK s l)
def jR(ds:aa D):Prop:=∀d∈ds,aS0 d
def MJ(o:gZ):∀a b:aa ag,∃k,cV o (a.map δ) (b.map δ)=ae k
 |[],b=>⟨_,rfl⟩
 |x::a,[]=>⟨_,rfl⟩
 |x::a,y::b=>by
  obtain⟨k,h⟩:=MJ o a b;show ∃k,(if eqD (.int x) (.int y) then cV o (a.map δ) (b.map δ) else iR o (.int x) (.int y))=ae k;split
  .exact⟨k,h⟩
  .exact⟨_,rfl⟩
def YQ(o:gZ)(s s':Str)(l l':aa ag):∃k,cV o (fK s l) (fK s' l')=ae k:=by
 obtain⟨k,h⟩:=MJ o l l';show ∃k,(if eqD (.str s) (.str s') then cV o (l.map δ) (l'.map δ) else iR o (.str s) (.str s'))=ae k;split
 .exact⟨k,h⟩
 .exact⟨_,rfl⟩
def rA(n:ai):∀p:aa ag,μ n (p.map δ)=af
 |[]=>by cases n<;>rfl
 |x::p=>by
  rw[bj,μ,rA n p];cases n<;>rfl
def qJ(n:ai)(s:Str)(l:aa ag):μ n (fK s l)=af:=by
 unfold fK;rw[μ,rA];cases n<;>rfl
def zX(s:Str)(l:aa ag):θ (fK s l)=af:=by
 unfold fK;rw[θ,eO];rfl
structure Pl(pl:aa (D×D))(R:aa ag):Prop where
 at_:∀x:ag,x=0\/x∈R->∃i:ag,bB pl (.int x)=ae (.int i)
 no:∀x:ag,¬(x=0\/x∈R)->bB pl (.int x)=ao
 fit:∀x:ag,rC pl (.int x)=af
 len:pl.length<=R.length+1
theorem j7(x y:ag)(d:D):∀pl:aa (D×D),bB (putD pl (.int x) d) (.int y)=if x=y then ae d else bB pl (.int y)
 |[]=>by
  show(if eqD (.int x) (.int y) then ae d else ao)=_;rw[d_];by_cases h:x=y<;>simp[h,bB]
 | (k,v)::pl=>by
  show bB (if eqD k (.int x) then (k,d)::pl else (k,v)::putD pl (.int x) d) (.int y)=if x=y then ae d else if eqD k (.int y) then ae v else bB pl (.int y)
  have ih:=j7 x y d pl;by_cases h:eqD k (.int x)=af
  .rw[av h];show(if eqD k (.int y) then ae d else bB pl (.int y))=_;by_cases hxy:x=y
   .subst hxy;rw[av h,av rfl]
   .have:eqD k (.int y)≠af:=by
     cases k with
     |int i=>
      rw[d_,em] at h;rw[d_];intro z;exact hxy (h.symm.trans (fq z))
     |bl b=>
      have h1:((if b then (1:ag) else 0)==x)=af:=h;show((if b then (1:ag) else 0)==y)≠af;rw[iv] at h1;simp only[ne_eq,iv];intro z;exact hxy (h1.symm.trans z)
     |_=>simp[eqD] at h
    rw[aw this,aw hxy,aw this]
  .rw[aw h];show(if eqD k (.int y) then ae v else bB (putD pl (.int x) d) (.int y))=_;by_cases hxy:x=y
   .subst hxy;rw[aw h,ih,av rfl,av rfl]
   .rw[ih,aw hxy,aw hxy]
def V9(h:∀y:ag,rC pl (.int y)=af)(y:ag):rC (putD pl (.int x) d) (.int y)=af:=by
 have key:∀pl:aa (D×D),pl.all (λp=>isTup p.1==aj)=af->(putD pl (.int x) d).all (λp=>isTup p.1==aj)=af:=by
  intro pl;induction pl with
  |nil=>intro _;rfl
  |cons kv pl ih=>
   intro h;obtain⟨k,v⟩:=kv;rw[gX,bn] at h;show(if eqD k (.int x) then (k,d)::pl else (k,v)::putD pl (.int x) d).all _=af;split
   .rw[gX,bn];exact h
   .rw[gX,bn];exact⟨h.1,ih h.2⟩
 have h0:=h y;unfold rC at h0 ⊢;exact key pl h0
theorem MK(x:ag)(d:D):∀pl:aa (D×D),(putD pl (.int x) d).length<=pl.length+1
 |[]=>bi _
 | (k,v)::pl=>by
  show(if eqD k (.int x) then (k,d)::pl else (k,v)::putD pl (.int x) d).length<=_;have:=MK x d pl;split<;>simp only[cr]<;>lia
theorem Pl.put(h:Pl pl R)(x i:ag):Pl (putD pl (.int x) (.int i)) (R++[x]) where
 at_ y hy:=by
  rw[j7];by_cases e:x=y
  .exact⟨i,av e⟩
  .rw[aw e];refine h.at_ y ?_;rcases hy with hy|hy
   .exact .inl hy
   .rcases cw.mp hy with hy|hy
    .exact .inr hy
    .exact bg (dS.mp hy).symm e
 no y hy:=by
  rw[j7,aw λe=>hy (.inr (by rw[e];simp))];exact h.no y λz=>hy (z.imp id λz=>eg _ z)
 fit:=V9 h.fit
 len:=by have:=MK x (.int i) pl;have:=h.len;rw[cb,iO];lia
def Pl.rE(h:Pl pl R)(x:ag):dC .rE (.int x) (.dct pl)=.ok (.bl (!ϒ (x=0\/x∈R))):=by
 show(if rC pl (.int x) then τ (π (!(bB pl (.int x)).isSome)) else .bad)=_;rw[h.fit,av rfl];by_cases e:x=0\/x∈R
 .obtain⟨i,hi⟩:=h.at_ x e;rw[hi,cm e];rfl
 .rw[h.no x e,c8 e];rfl
def Pl.get(h:Pl pl R)(hx:x=0\/x∈R):∃i:ag,getD (.dct pl) (.int x)=.ok (.int i):=by
 obtain⟨i,hi⟩:=h.at_ x hx;refine⟨i,?_⟩;show(if keyOk (.int x) then ι (bB pl (.int x)) else .bad)=_;rw[hi];rfl
noncomputable def gf(ys:aa Pt):aa ag:=(ys.map (·.1)).filter λz=>ϒ (z≠0)
def aLz(ys:aa Pt)(a:Pt):gf (ys++[a])=gf ys++if a.1=0 then [] else [a.1]:=by
 unfold gf;rw[cu,Cb];by_cases h:a.1=0<;>simp[h]
def aPq(ys:aa Pt):(gf ys).length<=ys.length:=by
 unfold gf;exact du (lb ..) 0x2
def ws(nk dk:aa (D×D))(s:ag)(best:D)(R:aa ag)(pl:aa (D×D))(rows:aa D)(lv:ax)(n x9 x10 x11:D):aa D:=[.dct nk,.dct dk,.int s,best,.lst (R.map δ),.dct pl,.lst rows,.bl lv,n,x9,x10,x11]
theorem aPr(n j:ai)(h:j<n):ixD n (j:ag)=ae j:=by
 unfold ixD;rw[av 0x1,av 0x1];rfl
def aEi(xs:aa D)(j:ai)(h:j<xs.length):getD (.scr xs) (.int (j:ag))=.ok xs[j]:=by
 show ι ((ixD xs.length (j:ag)).bind λj=>xs[j]?)=_;rw[aPr _ _ h];show ι (xs[j]?)=_;rw[eh h];rfl
def MN(xs:aa D)(j:ai)(h:j<xs.length):getD (.lst xs) (.int (j:ag))=.ok xs[j]:=aEi xs j h
def fC(h:ρ.getD i .uD=d)(hd:d≠.uD):kJ i ρ=.ok d:=by
 unfold kJ;rw[h];cases d<;>first|rfl|exact bg rfl hd
def aPs(h1:c ρ=.ok af)(h2:body ρ=.ok (.rt d)):FZ c body (n+1) ρ=.ok (.rt d):=by
 rw[FZ,h1,ε,av rfl,h2];rfl
def aM0(h1:f ρ=.ok (.rt d)):JT f g ρ=.ok (.rt d):=by
 unfold JT;rw[h1];rfl
def aEj(h:f ρ=.ok (.scr xs))(hp:θ xs=af):aMx f ρ=.ok (xs,af):=by
 unfold aMx;rw[h,ε];show(if θ xs then _ else _)=_;rw[hp,av rfl]
def aEk(h1:ρ.getD i .uD=.lst xs)(h2:g (ρ.set i (.scr xs))=.ok (.rt d)):QB i g ρ=.ok (.rt d):=by
 unfold QB;rw[h1];show(do let r <- g (ρ.set i (.scr xs));_)=_;rw[h2];rfl
def vL:∀{rows:aa D},jR rows->θ rows=af
 |[],_=>rfl
 |d::rows,h=>by
  obtain⟨s,l,rfl⟩:=h d (bw ..);rw[θ,vL λd hd=>h d (bu _ hd),jn];exact zX s l
noncomputable def wkD(rows:aa D)(R:aa ag):D:=.tup [.scr rows,.scr (R.map δ)]
section
def aM1(h:ρ.getD i .uD=.bl b):bTr (kJ i) ρ=.ok b:=by
 unfold bTr kJ;rw[h];rfl
theorem YS(b:ax)(h:b=ϒ (rows.length<R.length)):VJ (ws nk dk s best R pl rows lv n x9 x10 x11)=.ok b:=by
 have hc:dC (.ord .lt) (.int rows.length) (.int R.length)=.ok (.bl (ϒ ((rows.length:ag)<R.length))):=rfl;refine cX (aJ (aK 0xd (lH rows)) (aK (xs:=[.lst (R.map δ)]) 0xd (by rw[lH,aI])) (hc.trans ?_));rw[h]
 congr 2
 exact ot.mpr 0x1
end
section
variable {nk dk:aa (D×D)} {M:aa ag} {E:ag->aa Pt}
structure Gd(nk dk:aa (D×D))(M:aa ag)(E:ag->aa Pt):Prop where
 cl:∀x∈M,∀y∈gf (E x),y∈M
 ml:M.length<=100
 el:∀x,(E x).length<=100
 ds:∀x∈M,bB dk (.int x)=ae (.scr ((E x).map enP))
 ns:∀x∈M,∃nm:Str,bB nk (.int x)=ae (.str nm)
end
def YT(f:α->α->α)(h:∀a b,f a b=a\/f a b=b):∀(xs:aa α)(x:α),xs.foldl f x∈x::xs
 |[],x=>by simp
 |y::xs,x=>by
  rw[jh];have:=YT f h xs (f x y);rcases h x y with e|e
  .rw[e] at this ⊢;rcases bq.mp this with z|z
   .rw[z];simp
   .exact bu _ (bu _ z)
  .rw[e] at this ⊢;exact bu _ this
def aPt(h1:f ρ=.ok (.lst ys))(h2:ρ.getD i .uD=.lst xs)(h3:xs.length+ys.length<=lim)(h4:θ ys=af):aQg i f ρ=.ok (.nx (ρ.set i (.lst (xs++ys)))):=by
 unfold aQg;rw[h1,ε,h2];show(if ϒ (xs.length+ys.length<=lim)&&θ ys then _ else _)=_;rw[cm h3,h4];rfl
section
def zY{p q:aa ag}(h1:p.Nodup)(h2:q.Nodup)(h:∀y,y∈p↔y∈q):p.Perm q:=(xj h1 h2).mpr h
end
noncomputable def plc(R:aa ag)(x:ag):ag:=if x=0 then 0 else (R.idxOf x:ag)+1
def rwl(R:aa ag)(es:aa Pt):aa ag:=es.flatMap λe=>[plc R e.1,e.2]
def rowOf(nm:ag->Str)(E:ag->aa Pt)(R:aa ag)(c:ag):D:=.scr (fK (nm c) (rwl R (E c)))
def rowsOf(nm:ag->Str)(E:ag->aa Pt)(R:aa ag):aa D:=R.map (rowOf nm E R)
def aEm{R S:aa ag}(h:x=0\/x∈R):plc (R++S) x=plc R x:=by
 unfold plc;by_cases h0:x=0
 .rw[av h0,av h0]
 .rw[aw h0,aw h0,ou,av (h.resolve_left h0)]
def aM2(h0:x≠0)(h:x∉R):plc (R++[x]) x=((R++[x]).length:ai):=by
 unfold plc;rw[aw h0,ou,aw h];simp
def MP{R S:aa ag}:∀{es:aa Pt},(∀e∈es,e.1=0\/e.1∈R)->rwl (R++S) es=rwl R es
 |[],_=>rfl
 |e::es,h=>by
  show plc (R++S) e.1::e.2::rwl (R++S) es=plc R e.1::e.2::rwl R es;rw[aEm (h e (bw ..)),MP λe he=>h e (bu _ he)]
def aHk(R:aa ag)(es:aa Pt)(e:Pt):rwl R (es++[e])=rwl R es++[plc R e.1,e.2]:=by simp[rwl]
theorem aEn(R:aa ag):∀es:aa Pt,(rwl R es).length=2*es.length
 |[]=>rfl
 |e::es=>by
  show(rwl R es).length+1+1=_;rw[aEn R es,cr];lia
def aM3{E:aa Pt}(h:e∈E)(h0:e.1≠0):e.1∈gf E:=by
 unfold gf;rw[ky];exact⟨aT.mpr ⟨e,h,rfl⟩,cm h0⟩
def V_{E:aa Pt}{R:aa ag}(h:∀y∈gf E,y∈R):∀e∈E,e.1=0\/e.1∈R:=λe he=>by
 by_cases h0:e.1=0
 .exact .inl h0
 .exact .inr (h _ (aM3 he h0))
def bfs(g:ag->aa ag):ai->aa ag->ai->aa ag
 |0,R,_=>R
 |m+1,R,n=>if h:n<R.length then bfs g m (R++news R (g R[n])) (n+1) else R
def aEo(g:ag->aa ag):∀(m:ai)(R:aa ag)(n:ai),∃S,bfs g m R n=R++S
 |0,R,n=>⟨[],by rw[eo];rfl⟩
 |m+1,R,n=>by
  unfold bfs;split
  .rename_i h;obtain⟨S,e⟩:=aEo g m (R++news R (g R[n])) (n+1);exact⟨news R (g R[n])++S,by rw[e,c6]⟩
  .exact⟨[],by rw[eo]⟩
theorem aJ0{M:aa ag}(hs:s∈M)(hc:∀x∈M,∀y∈g x,y∈M):∀(m:ai)(R:aa ag)(n:ai),Bv g s R n->M.length<=m+n->∃n',Bv g s (bfs g m R n) n'/\(bfs g m R n).length<=n'
 |0,R,n,bv,hm=>⟨n,bv,by have:=bv.len hs hc;show R.length<=n;lia⟩
 |m+1,R,n,bv,hm=>by
  unfold bfs;split
  .rename_i h;exact aJ0 hs hc m _ (n+1) (bv.step h) 0x1
  .exact⟨n,bv,by lia⟩
theorem WD{s:ag}{M:aa ag}(hs:s∈M)(hc:∀x∈M,∀y∈g x,y∈M):(bfs g M.length [s] 0).Nodup/\(∀x,x∈bfs g M.length [s] 0↔Rc g s x)/\∀x∈bfs g M.length [s] 0,∀y∈g x,y∈bfs g M.length [s] 0:=by
 obtain⟨n,bv,hn⟩:=aJ0 hs hc M.length [s] 0 (bv0 g s) 0x1;refine⟨bv.nd,λx=>bv.fin hn,λx hx y hy=>?_⟩;have:=bv.cl x;rw[jg hn] at this;exact this hx y hy
theorem aHl{E:ag->aa Pt}{s:ag}{R:aa ag}{n m:ai}(bv:Bv (λx=>gf (E x)) s R n):(rowsOf nm E (bfs (λx=>gf (E x)) m R n)).take n=(R.take n).map (rowOf nm E R):=by
 obtain⟨S,e⟩:=aEo (λx=>gf (E x)) m R n;by_cases hn:n<=R.length
 .unfold rowsOf;rw[e,<-Bc,xg hn];refine dh λc hc=>?_
  unfold rowOf;rw[MP (V_ (bv.cl c hc))]
 .have:m=0\/∃k,m=k+1:=by cases m with|zero=>exact .inl rfl|succ k=>exact .inr ⟨k,rfl⟩
  have hb:bfs (λx=>gf (E x)) m R n=R:=by
   rcases this with rfl|⟨k,rfl⟩
   .rfl
   .unfold bfs;rw[s_ 0x1]
  rw[hb,jg (by rw[rowsOf,aI];lia),jg 0x1];rfl
theorem MT:∀{ys R:aa ag},(∀x∈R++ys,∀y∈R++ys,φ x=φ y->x=y)->news (R.map φ) (ys.map φ)=(news R ys).map φ
 |[],_,_=>rfl
 |y::ys,R,h=>by
  rw[bj,news,news];have hm:φ y∈R.map φ↔y∈R:=by
   constructor
   .intro z;obtain⟨x,hx,e⟩:=aT.mp z;have:=h x (eg _ hx) y 0x2 e;rw[<-this];exact hx
   .exact λz=>aT.mpr ⟨y,z,rfl⟩
  by_cases hy:y∈R
  .rw[av (hm.mpr hy),av hy];have up:∀x,x∈R++ys->x∈R++y::ys:=λx hx=>(cw.mp hx).elim (λq=>eg _ q) λq=>en _ (bu _ q)
   exact MT λx hx z hz=>h x (up x hx) z (up z hz)
  .rw[aw (λz=>hy (hm.mp z)),aw hy,bj];have:=MT (R:=R++[y]) λx hx z hz=>h x (by simpa[xh] using hx) z (by simpa[xh] using hz)
   rw[cu] at this;rw[<-this];rfl
structure Iso(φ:ag->ag)(M:aa ag)(nm nm':ag->Str)(E E':ag->aa Pt):Prop where
 z:φ 0=0
 nz:∀x∈M,x≠0/\φ x≠0
 inj:∀x∈M,∀y∈M,φ x=φ y->x=y
 nm:∀x∈M,nm' (φ x)=nm x
 ea:∀x∈M,E' (φ x)=(E x).map λe=>(φ e.1,e.2)
 cl:∀x∈M,∀y∈gf (E x),y∈M
section
variable {φ:ag->ag} {M:aa ag} {nm nm':ag->Str} {E E':ag->aa Pt}
def Iso.ze(i:Iso φ M nm nm' E E')(h:x=0\/x∈M):φ x=0↔x=0:=by
 rcases h with h|h
 .rw[h,i.z]
 .exact⟨λz=>bg z (i.nz x h).2,λz=>bg z (i.nz x h).1⟩
def aEp(i:Iso φ M nm nm' E E'){x:ag}(hx:x∈M):gf (E' (φ x))=(gf (E x)).map φ:=by
 rw[i.ea x hx];have key:∀es:aa Pt,(∀e∈es,e.1=0\/e.1∈M)->gf (es.map λe=>(φ e.1,e.2))=(gf es).map φ:=by
  intro es;induction es with
  |nil=>intro _;rfl
  |cons e es ih=>
   intro h;have ih:=ih λe he=>h e (bu _ he)
   unfold gf at ih ⊢;rw[bj,bj,bj,oq,oq];have he:=i.ze (h e (bw ..));by_cases h0:e.1=0
   .rw[aw (by simp[he.mpr h0]),aw (by simp[h0])];exact ih
   .rw[av (by simpa using λz=>h0 (he.mp z)),av (by simpa using h0),bj,ih]
 exact key _ (V_ (i.cl x hx))
theorem aEq(i:Iso φ M nm nm' E E'):∀(m:ai)(R:aa ag)(n:ai),(∀x∈R,x∈M)->bfs (λx=>gf (E' x)) m (R.map φ) n=(bfs (λx=>gf (E x)) m R n).map φ
 |0,R,n,_=>rfl
 |m+1,R,n,h=>by
  unfold bfs;by_cases hn:n<R.length
  .have hn':n<(R.map φ).length:=by rw[aI];exact hn
   rw[l8 hn',l8 hn];have hc:R[n]∈M:=h _ (im hn);have hsub:∀x∈R++news R (gf (E R[n])),x∈M:=λx hx=>by
    rcases cw.mp hx with q|q
    .exact h x q
    .exact i.cl _ hc x (news_mem q)
   have e:R.map φ++news (R.map φ) (gf (E' (R.map φ)[n]))=(R++news R (gf (E R[n]))).map φ:=by
    rw[lc,aEp i hc,MT,cu];intro x hx y hy;refine i.inj x ?_ y ?_
    .rcases cw.mp hx with q|q
     .exact h x q
     .exact i.cl _ hc x q
    .rcases cw.mp hy with q|q
     .exact h y q
     .exact i.cl _ hc y q
   show bfs (λx=>gf (E' x)) m (R.map φ++news (R.map φ) (gf (E' (R.map φ)[n]))) (n+1)=_;rw[e];exact aEq i m _ (n+1) hsub
  .rw[s_ (show ¬n<(R.map φ).length by rw[aI];exact hn),s_ hn]
def idx_map(i:Iso φ M nm nm' E E'):∀{R:aa ag}{x:ag},(∀y∈R,y∈M)->x∈M->(R.map φ).idxOf (φ x)=R.idxOf x
 |[],_,_,_=>rfl
 |r::R,x,h,hx=>by
  rw[bj,xk,xk];have ih:=idx_map i (λy hy=>h y (bu _ hy)) hx;by_cases e:r=x
  .subst e;simp
  .have:¬φ r=φ x:=λz=>e (i.inj r (h r (bw ..)) x hx z)
   rw[show(φ r==φ x)=aj by simpa using this,show(r==x)=aj by simpa using e,ih]
def aM4(i:Iso φ M nm nm' E E')(h:∀y∈R,y∈M)(hx:x=0\/x∈M):plc (R.map φ) (φ x)=plc R x:=by
 unfold plc;rcases hx with hx|hx
 .subst hx;rw[i.z,av rfl,av rfl]
 .rw[aw (i.nz x hx).2,aw (i.nz x hx).1,idx_map i h hx]
def aM5(i:Iso φ M nm nm' E E'){R:aa ag}(h:∀y∈R,y∈M)(hc:c∈M):rowOf nm' E' (R.map φ) (φ c)=rowOf nm E R c:=by
 unfold rowOf;rw[i.nm c hc,i.ea c hc];have key:∀es:aa Pt,(∀e∈es,e.1=0\/e.1∈M)->rwl (R.map φ) (es.map λe=>(φ e.1,e.2))=rwl R es:=by
  intro es;induction es with
  |nil=>intro _;rfl
  |cons e es ih=>
   intro h2;show plc (R.map φ) (φ e.1)::e.2::rwl (R.map φ) (es.map λe=>(φ e.1,e.2))=plc R e.1::e.2::rwl R es;rw[aM4 i h (h2 e (bw ..)),ih λe he=>h2 e (bu _ he)]
 rw[key _ (V_ (i.cl c hc))]
def aHm(i:Iso φ M nm nm' E E')(h:∀y∈R,y∈M):rowsOf nm' E' (R.map φ)=rowsOf nm E R:=by
 unfold rowsOf;rw[bP];exact dh λc hc=>aM5 i h (h c hc)
end
def gY(s:Str)(l:aa ag):χ (fK s l)=af:=by
 have key:∀l:aa ag,χ (l.map δ)=af:=by
  intro l;induction l with
  |nil=>rfl
  |cons x l ih=>rw[bj,χ,ih];rfl
 show(af&&χ (l.map δ))=af;rw[key];rfl
theorem aEr:∀a b:aa ag,cV .gt (a.map δ) (b.map δ)=cV .lt (b.map δ) (a.map δ)
 |[],[]=>rfl
 |[],y::b=>rfl
 |x::a,[]=>rfl
 |x::a,y::b=>by
  show(if eqD (.int x) (.int y) then cV .gt (a.map δ) (b.map δ) else ae (ϒ (y<x)))=(if eqD (.int y) (.int x) then cV .lt (b.map δ) (a.map δ) else ae (ϒ (y<x)));rw[aEr a b,d_,d_];by_cases h:x=y
  .subst h;rfl
  .have h2:¬y=x:=λz=>h z.symm
   rw[c8 h,c8 h2]
def aS1(s s':Str)(l l':aa ag):cV .gt (fK s l) (fK s' l')=cV .lt (fK s' l') (fK s l):=by
 show(if eqD (.str s) (.str s') then cV .gt (l.map δ) (l'.map δ) else ae (T6 s' s))=(if eqD (.str s') (.str s) then cV .lt (l'.map δ) (l.map δ) else ae (T6 s' s));rw[aEr];have:eqD (.str s) (.str s')=eqD (.str s') (.str s):=by
  show(s==s')=(s'==s);exact Bool.eq_iff_iff.mpr ⟨λh=>iv.mpr (iv.mp h).symm,λh=>iv.mpr (iv.mp h).symm⟩
 rw[this]
def aM6(s s':Str)(l l':aa ag):dC (.ord .gt) (.lst (fK s l)) (.scr (fK s' l'))=.ok (.bl (ϒ (iQ (fK s' l')<iQ (fK s l)))):=by
 obtain⟨k,h⟩:=YQ .lt s' s l' l;have e:=wU _ _ k (gY s' l') (gY s l) h;refine aKk (qJ 11 _ _) (qJ 11 _ _) ?_;show cV .gt (fK s l) (fK s' l')=_;rw[aS1,h,e]
def aM7(s s':Str)(l l':aa ag):∃k,dC .ne (.lst (fK s l)) (.scr (fK s' l'))=.ok (.bl (!k))/\(k=af↔fK s l=fK s' l'):=by
 refine⟨nT (fK s l) (fK s' l'),?_,λh=>HW _ _ (gY s l) (gY s' l') h,λh=>by rw[h,t7 _ (gY s' l')]⟩;show(if μ 11 (fK s l)&&μ 11 (fK s' l') then τ (π (!nT (fK s l) (fK s' l'))) else .bad)=_;rw[qJ,qJ];rfl
def aJ1(a b:aa D):enc (.scr a)<enc (.scr b)↔iQ a<iQ b:=by
 show(3::iQ a)<(3::iQ b)↔_;rw[eL];simp
def Ls(A B:aa D):Prop:=∃P x A' y B',A=P++x::A'/\B=P++y::B'/\x.plain=af/\y.plain=af/\enc x<enc y
def Ls.lt{A B:aa D}(h:Ls A B):iQ A<iQ B:=by
 obtain⟨P,x,A',y,B',rfl,rfl,hx,hy,hl⟩:=h;have hne:x≠y:=λz=>by rw[z] at hl;exact bg hl (mh _)
 induction P with
 |nil=>
  show(1::(enc x++iQ A'))<(1::(enc y++iQ B'));rw[eL];refine .inr ⟨rfl,(W7 _ _ _ _ (λz e=>hne ?_) λz e=>hne ?_).mpr hl⟩
  .exact(oM x y z [] hx hy (by rw[e,eo])).1
  .exact(oM y x z [] hy hx (by rw[e,eo])).1.symm
 |cons p P ih=>
  show(1::(enc p++iQ (P++x::A')))<(1::(enc p++iQ (P++y::B')));rw[eL];exact .inr ⟨rfl,(sI _ _ _).mpr ih⟩
def Ls.more{A B:aa D}(h:Ls A B)(C:aa D):Ls (A++C) B:=by
 obtain⟨P,x,A',y,B',rfl,rfl,h⟩:=h;exact⟨P,x,A'++C,y,B',by simp,rfl,h⟩
def uP(s:Str)(l:aa ag):(υ (fK s l)).plain=af:=gY s l
structure PlX(pl:aa (D×D))(R:aa ag):Prop where
 at_:∀x:ag,x=0\/x∈R->bB pl (.int x)=ae (.int (plc R x))
 no:∀x:ag,¬(x=0\/x∈R)->bB pl (.int x)=ao
 fit:∀x:ag,rC pl (.int x)=af
 len:pl.length<=R.length+1
def PlX.pl{pl:aa (D×D)}{R:aa ag}(h:PlX pl R):Pl pl R:=⟨λx hx=>⟨_,h.at_ x hx⟩,h.no,h.fit,h.len⟩
theorem PlX.put{pl:aa (D×D)}{R:aa ag}(h:PlX pl R){x:ag}(hx:¬(x=0\/x∈R)):PlX (putD pl (.int x) (.int ((R++[x]).length:ai))) (R++[x]) where
 at_ y hy:=by
  rw[j7];by_cases e:x=y
  .subst e;rw[av rfl,aM2 (λz=>hx (.inl z)) λz=>hx (.inr z)]
  .rw[aw e];have hy':y=0\/y∈R:=by
    rcases hy with hy|hy
    .exact .inl hy
    .rcases cw.mp hy with hy|hy
     .exact .inr hy
     .exact bg (dS.mp hy).symm e
   rw[h.at_ y hy',aEm hy']
 no y hy:=by
  rw[j7,aw λe=>hy (.inr (by rw[e];simp))];exact h.no y λz=>hy (z.imp id λz=>eg _ z)
 fit:=V9 h.fit
 len:=by have:=MK x (.int ((R++[x]).length:ai)) pl;have:=h.len;rw[cb,iO] at *;lia
def PlX.get{pl:aa (D×D)}{R:aa ag}(h:PlX pl R){x:ag}(hx:x=0\/x∈R):getD (.dct pl) (.int x)=.ok (.int (plc R x)):=by
 show(if keyOk (.int x) then ι (bB pl (.int x)) else .bad)=_;rw[h.at_ x hx];rfl
def aTn{s:ag}(hs:s≠0):PlX (putD [(.int 0,.int 0)] (.int s) (.int 1)) [s]:=by
 have h0:PlX [(.int 0,.int 0)] []:=⟨λx hx=>by
  have e:x=0:=hx.resolve_right 0x2;subst e;rfl,λx hx=>by
  show(if eqD (.int 0) (.int x) then _ else _)=_;rw[d_,c8 λe=>hx (.inl e.symm)];rfl,λx=>rfl,bi _⟩
 exact h0.put (by simp[hs])
theorem aHn{nk dk:aa (D×D)}{s:ag}{best:D}{R:aa ag}{pl:aa (D×D)}{rows:aa D}{lv:ax}{n:D}{nm:Str}{x10 x11:D}(E:aa Pt)(hE:E.length<=100)(hR:R.length<=1000)(hp:PlX pl R):∃pl' y10 y11,PlX pl' (R++news R (gf E))/\
  oK (tgN [10,11]) wib (E.map enP) (ws nk dk s best R pl rows lv n (.lst (fK nm [])) x10 x11)=.ok (.nx (ws nk dk s best (R++news R (gf E)) pl' rows lv n (.lst (fK nm (rwl (R++news R (gf E)) E))) y10 y11)):=by
 obtain⟨ρ,h,pl',y10,y11,p',rfl⟩:=bW (t:=tgN [10,11]) (body:=wib) (d:=enP) (I:=λys ρ=>∃pl' y10 y11,PlX pl' (R++news R (gf ys))/\ρ=ws nk dk s best (R++news R (gf ys)) pl' rows lv n (.lst (fK nm (rwl (R++news R (gf ys)) ys))) y10 y11) E (λys a zs ρ e ⟨pl',y10,y11,p',h⟩=>by
  subst h;have hyl:ys.length<=100:=by rw[e] at hE;simp at hE;lia
  have hn:=xP (gf ys) R;have hg:=aPq ys;have hRl:(R++news R (gf ys)).length<=1200:=by rw[cb];lia
  have hin:∀e∈ys,e.1=0\/e.1∈R++news R (gf ys):=V_ λy hy=>uK hy
  have hsn:R++news R (gf (ys++[a]))=(R++news R (gf ys))++if a.1=0\/a.1∈R++news R (gf ys) then [] else [a.1]:=by
   rw[aLz];by_cases h0:a.1=0
   .rw[av h0,eo,av (.inl h0),eo]
   .rw[aw h0,uM,c6];by_cases h1:a.1∈R++news R (gf ys)
    .rw[av h1,av (.inr h1)]
    .rw[aw h1,aw λz=>z.elim h0 h1]
  have hrw:rwl (R++news R (gf (ys++[a]))) (ys++[a])=rwl (R++news R (gf ys)) ys++[plc (R++news R (gf (ys++[a]))) a.1,a.2]:=by
   rw[aHk,hsn,MP hin]
  have hll:=aEn (R++news R (gf ys)) ys;rw[hrw];generalize hRR:R++news R (gf ys)=R' at *;generalize hl:rwl R' ys=l at *;have mid:∃pl2,PlX pl2 (R++news R (gf (ys++[a])))/\(a.1=0\/a.1∈R++news R (gf (ys++[a])))/\(sIf (bTB (b2 (dC .rE) rW fZ)) (bM (wN 4 rW) (M8 5 rW (aP fV (aD gD aX)))) n8) (ws nk dk s best R' pl' rows lv n (.lst (fK nm l)) (.int a.1) (.int a.2))=.ok (.nx (ws nk dk s best (R++news R (gf (ys++[a]))) pl2 rows lv n (.lst (fK nm l)) (.int a.1) (.int a.2))):=by
   rw[hsn];by_cases h:a.1=0\/a.1∈R'
   .rw[av h,eo];exact⟨pl',p',h,nY (cX (aJ (x:=.int a.1) rfl rfl ((p'.pl.rE a.1).trans (by rw[cm h];rfl)))) rfl⟩
   .rw[aw h];have pl3:=p'.len;refine⟨_,p'.put h,.inr 0x2,BL (cX (aJ (x:=.int a.1) rfl rfl ((p'.pl.rE a.1).trans (by rw[c8 h];rfl)))) ?_⟩;refine aL (ρ':=ws nk dk s best (R'++[a.1]) pl' rows lv n (.lst (fK nm l)) (.int a.1) (.int a.2)) ((jL (i:=4) (xs:=R'.map δ) (d:=.int a.1) rfl rfl (by rw[aI,a_];lia) rfl).trans (by rw[show R'.map δ++[.int a.1]=(R'++[a.1]).map δ by rw[cu];rfl];rfl)) ?_;exact oV (i:=5) (kvs:=pl') (k:=.int a.1) (d:=.int ((R'++[a.1]).length:ai)) (aK (xs:=[.lst ((R'++[a.1]).map δ)]) 0xd (by rw[lH,aI])) rfl rfl (by rw[a_];lia) (p'.fit _) rfl
  obtain⟨pl2,q1,q2,q3⟩:=mid;have hi:=q1.get q2;generalize R++news R (gf (ys++[a]))=R2 at *;generalize plc R2 a.1=i at *;refine⟨ws nk dk s best R' pl' rows lv n (.lst (fK nm l)) (.int a.1) (.int a.2),ws nk dk s best R2 pl2 rows lv n (.lst (fK nm (l++[i,a.2]))) (.int a.1) (.int a.2),rfl,?_,pl2,_,_,q1,rfl⟩;refine aL q3 ?_;have e1:∀l:aa ag,∀j:ag,fK nm l++[.int j]=fK nm (l++[j]):=λl j=>by unfold fK;rw[cu];rfl
  have e2:∀l:aa ag,(fK nm l).length=l.length+1:=λl=>by simp[fK]
  refine aL (ρ':=ws nk dk s best R2 pl2 rows lv n (.lst (fK nm (l++[i]))) (.int a.1) (.int a.2)) ((jL (i:=9) (xs:=fK nm l) (d:=.int i) (aJ rfl rfl hi) rfl (by rw[e2,a_];lia) rfl).trans (by rw[e1];rfl)) ?_;refine(jL (i:=9) (xs:=fK nm (l++[i])) (d:=.int a.2) rfl rfl (by rw[e2,a_,cb,iO];lia) rfl).trans ?_;rw[e1,c6];rfl) (ρ:=ws nk dk s best R pl rows lv n (.lst (fK nm [])) x10 x11) ⟨pl,x10,x11,by simpa[gf,news] using hp,by simp[gf,news,rwl]⟩
 exact⟨pl',y10,y11,p',h⟩
def Cs(best:D)(p:ai)(rows:aa D)(lv:ax):Prop:=(best=.non/\lv=aj)\/∃rb ob,best=.tup [.scr rb,ob]/\jR rb/\rb.length=p/\((lv=af/\∃T,rb=rows++T)\/(lv=aj/\Ls rows rb))
section
theorem aM8(hc:Cs best p rows lv)(hl:rows.length<p):(∃lv',Cs best p (rows++[.scr (fK nm l)]) lv'/\aQh (ws nk dk s best R pl rows lv n (.lst (fK nm l)) x10 x11)=.ok (.nx (ws nk dk s best R pl rows lv' n (.lst (fK nm l)) x10 x11)))\/
  ((∃rb ob y T,best=.tup [.scr rb,ob]/\rb=rows++y::T/\y.plain=af/\enc y<enc (.scr (fK nm l)))/\aQh (ws nk dk s best R pl rows lv n (.lst (fK nm l)) x10 x11)=.ok (.rt .non)):=by
 rcases hc with ⟨h1,rfl⟩|⟨rb,ob,rfl,h1,h2,h3⟩
 .exact .inl ⟨aj,.inl ⟨h1,rfl⟩,nY (aCn (aM1 rfl)) rfl⟩
 .rcases h3 with ⟨rfl,T,e⟩|⟨rfl,h3⟩
  .obtain⟨y,T,rfl⟩:∃y T',T=y::T':=by
    cases T with
    |nil=>rw[e,eo] at h2;lia
    |cons y T=>exact⟨y,T,rfl⟩
   obtain⟨s',l',rfl⟩:=h1 y (by rw[e];simp);have hlt:rows.length<rb.length:=by lia
   have hg:aP6 (ws nk dk s (.tup [.scr rb,ob]) R pl rows af n (.lst (fK nm l)) x10 x11)=.ok (.scr (fK s' l')):=by
    refine aJ (aJ rfl rfl rfl) (aK 0xd (lH rows)) ?_;rw[aEi _ _ hlt]
    congr 1
    subst e;simp
   obtain⟨k1,e1,k1'⟩:=aM7 nm s' l l';have e2:=aM6 nm s' l l';have c1:(aBu (bTr vU) (bTB (b2 (dC .ne) BV aP6))) (ws nk dk s (.tup [.scr rb,ob]) R pl rows af n (.lst (fK nm l)) x10 x11)=.ok (!k1):=aKj (aM1 rfl) (cX (aJ rfl hg e1));have c2:(bTB (b2 (dC (.ord .gt)) BV aP6)) (ws nk dk s (.tup [.scr rb,ob]) R pl rows af n (.lst (fK nm l)) x10 x11)=.ok (ϒ (iQ (fK s' l')<iQ (fK nm l))):=cX (aJ rfl hg e2);cases k1 with
   |true=>
    have eq:=k1'.mp rfl;refine .inl ⟨af,.inr ⟨rb,ob,rfl,h1,h2,.inl ⟨rfl,T,?_⟩⟩,nY c1 rfl⟩;rw[e,eq];simp
   |false=>
    have hne:fK nm l≠fK s' l':=λz=>by have:=k1'.mpr z;cases this
    by_cases hgt:iQ (fK s' l')<iQ (fK nm l)
    .rw[cm hgt] at c2;exact .inr ⟨⟨rb,ob,_,T,rfl,e,uP s' l',(aJ1 _ _).mpr hgt⟩,BL c1 (RG (BL c2 rfl))⟩
    .rw[c8 hgt] at c2;refine .inl ⟨aj,.inr ⟨rb,ob,rfl,h1,h2,.inr ⟨rfl,rows,_,[],_,T,rfl,e,uP nm l,uP s' l',(aJ1 _ _).mpr ?_⟩⟩,BL c1 (aL (nY c2 rfl) (bI rfl))⟩;refine so λz=>hne ?_
     have:=vm (k4.mp z) (k4.mp hgt);exact((t8 _ _ [] [] (gY s' l') (gY nm l) (by rw[this])).1).symm
  .exact .inl ⟨aj,.inr ⟨rb,ob,rfl,h1,h2,.inr ⟨rfl,h3.more _⟩⟩,nY (aCn (aM1 rfl)) rfl⟩
end
section
variable {nk dk:aa (D×D)} {s:ag} {best:D} {M:aa ag} {E:ag->aa Pt} {nm:ag->Str}
structure GdX(nk dk:aa (D×D))(M:aa ag)(E:ag->aa Pt)(nm:ag->Str):Prop where
 g:Gd nk dk M E
 nz:0∉M
 ns:∀x∈M,bB nk (.int x)=ae (.str (nm x))
theorem aM9(g:GdX nk dk M E nm)(hn:rows.length<R.length)(hM:∀x∈R,x∈M)(hR:R.length<=100)(hp:PlX pl R)(hc:Cs best M.length rows lv)(hl:rows.length<M.length) :
  (∃pl' lv' y8 y9 y10 y11,PlX pl' (R++news R (gf (E R[rows.length]))) /\Cs best M.length (rows++[rowOf nm E (R++news R (gf (E R[rows.length]))) R[rows.length]]) lv'/\J4 (ws nk dk s best R pl rows lv x8 x9 x10 x11)=.ok (.nx (ws nk dk s best (R++news R (gf (E R[rows.length]))) pl' (rows++[rowOf nm E (R++news R (gf (E R[rows.length]))) R[rows.length]]) lv' y8 y9 y10 y11)))\/
  ((∃rb ob y T,best=.tup [.scr rb,ob]/\rb=rows++y::T/\y.plain=af/\enc y<enc (rowOf nm E (R++news R (gf (E R[rows.length]))) R[rows.length]))/\J4 (ws nk dk s best R pl rows lv x8 x9 x10 x11)=.ok (.rt .non)):=by
 have hcM:R[rows.length]∈M:=hM _ (im hn);generalize hcc:R[rows.length]=c at hcM ⊢;have hnm:=g.ns c hcM;have hds:=g.g.ds c hcM;obtain⟨pl',y10,y11,p',e1⟩:=aHn (x11:=x11) (E c) (g.g.el c) 0x1 hp;have g8:(b2 getD gD (aP fV (aD mX aX))) (ws nk dk s best R pl rows lv x8 x9 x10 x11)=.ok (.int c):=by
  refine aJ (x:=.lst (R.map δ)) rfl (aK (xs:=[.lst rows]) 0xd (lH rows)) ?_;rw[MN _ _ (by rw[aI];exact hn),lc,hcc]
 have g9:(JQ (aD (b2 getD dG uQ) aX)) (ws nk dk s best R pl rows lv (.int c) x9 x10 x11)=.ok (.lst (fK (nm c) [])):=by
  have:(aD (b2 getD dG uQ) aX) (ws nk dk s best R pl rows lv (.int c) x9 x10 x11)=.ok [.str (nm c)]:=by
   refine aC (aJ rfl rfl ?_) rfl;show(if keyOk (.int c) then ι (bB nk (.int c)) else .bad)=_;rw[hnm];rfl
  unfold JQ;rw[this,ε];rfl
 have gE:(b2 getD fW uQ) (ws nk dk s best R pl rows lv (.int c) (.lst (fK (nm c) [])) x10 x11)=.ok (.scr ((E c).map enP)):=by
  refine aJ rfl rfl ?_;show(if keyOk (.int c) then ι (bB dk (.int c)) else .bad)=_;rw[hds];rfl
 unfold rowOf;generalize rwl (R++news R (gf (E c))) (E c)=l at e1 ⊢;have pre:∀r,(JT aQh (VB 9 (wN 6 BV))) (ws nk dk s best (R++news R (gf (E c))) pl' rows lv (.int c) (.lst (fK (nm c) l)) y10 y11)=r->J4 (ws nk dk s best R pl rows lv x8 x9 x10 x11)=r:=λr h=>by
  refine aL (ρ':=ws nk dk s best R pl rows lv (.int c) x9 x10 x11) (sW (i:=8) g8 rfl) ?_;refine aIz (i:=9) g9 (zX (nm c) []) ?_;exact V8 (jK (aEj gE (lA _)) e1) h
 rcases aM8 (nk:=nk) (dk:=dk) (s:=s) (R:=R++news R (gf (E c))) (pl:=pl') (n:=.int c) (nm:=nm c) (l:=l) (x10:=y10) (x11:=y11) hc hl with ⟨lv',h1,h2⟩|⟨h1,h2⟩
 .refine .inl ⟨pl',lv',.int c,.scr (fK (nm c) l),y10,y11,p',h1,pre _ (V8 h2 ?_)⟩;refine aEg (i:=9) (xs:=fK (nm c) l) rfl ?_;exact jL (i:=6) (xs:=rows) (d:=.scr (fK (nm c) l)) rfl rfl (by rw[a_];lia) (zX (nm c) l)
 .exact .inr ⟨h1,pre _ (aM0 h2)⟩
theorem aMa(g:GdX nk dk M E nm)(hs:s∈M):∀(m:ai)(R:aa ag)(pl:aa (D×D))(rows:aa D)(lv:ax)(x8 x9 x10 x11:D),Bv (λx=>gf (E x)) s R rows.length->PlX pl R->rows=(R.take rows.length).map (rowOf nm E R)->rows.length<=R.length->Cs best M.length rows lv->M.length<=m+rows.length->
  ((∃rb ob,best=.tup [.scr rb,ob]/\iQ rb<iQ (rowsOf nm E (bfs (λx=>gf (E x)) m R rows.length)))/\∀fuel,m<fuel->FZ VJ J4 fuel (ws nk dk s best R pl rows lv x8 x9 x10 x11)=.ok (.rt .non))\/
  ∃pl' lv' y8 y9 y10 y11,Cs best M.length (rowsOf nm E (bfs (λx=>gf (E x)) m R rows.length)) lv'/\∀fuel,m<fuel->FZ VJ J4 fuel (ws nk dk s best R pl rows lv x8 x9 x10 x11)=.ok (.nx (ws nk dk s best (bfs (λx=>gf (E x)) m R rows.length) pl' (rowsOf nm E (bfs (λx=>gf (E x)) m R rows.length)) lv' y8 y9 y10 y11)):=by
 have fin:∀(m:ai)(R:aa ag)(pl:aa (D×D))(rows:aa D)(lv:ax)(x8 x9 x10 x11:D),rows=(R.take rows.length).map (rowOf nm E R)->Cs best M.length rows lv->R.length<=rows.length->bfs (λx=>gf (E x)) m R rows.length=R->Cs best M.length (rowsOf nm E (bfs (λx=>gf (E x)) m R rows.length)) lv/\∀fuel,m<fuel->FZ VJ J4 fuel (ws nk dk s best R pl rows lv x8 x9 x10 x11)=.ok (.nx (ws nk dk s best (bfs (λx=>gf (E x)) m R rows.length) pl (rowsOf nm E (bfs (λx=>gf (E x)) m R rows.length)) lv x8 x9 x10 x11)):=λm R pl rows lv x8 x9 x10 x11 h1 h2 h3 h4=>by
  rw[jg h3] at h1;have e:rowsOf nm E R=rows:=h1.symm;rw[h4,e];refine⟨h2,λfuel hfu=>?_⟩;obtain⟨k,rfl⟩:∃k,fuel=k+1:=⟨fuel-1,by lia⟩
  exact vJ (YS aj (c8 0x1).symm)
 intro m;induction m with
 |zero=>
  intro R pl rows lv x8 x9 x10 x11 bv hp hr hl hc hm;have:=bv.len hs g.g.cl;exact .inr ⟨pl,lv,x8,x9,x10,x11,fin 0 R pl rows lv x8 x9 x10 x11 hr hc 0x1 rfl⟩
 |succ m ih=>
  intro R pl rows lv x8 x9 x10 x11 bv hp hr hl hc hm;have hR:=bv.len hs g.g.cl;have hM:=g.g.ml;by_cases hn:rows.length<R.length
  .have hcd:=YS (nk:=nk) (dk:=dk) (s:=s) (best:=best) (pl:=pl) (lv:=lv) (n:=x8) (x9:=x9) (x10:=x10) (x11:=x11) af (cm hn).symm;have hb:bfs (λx=>gf (E x)) (m+1) R rows.length=bfs (λx=>gf (E x)) m (R++news R (gf (E R[rows.length]))) (rows.length+1):=by
    rw[bfs,l8 hn]
   have bv2:=bv.step hn;have htk: (R++news R (gf (E R[rows.length]))).take (rows.length+1)=R.take rows.length++[R[rows.length]]:=by
    rw[xg 0x1,mr hn]
   have hr2:rows++[rowOf nm E (R++news R (gf (E R[rows.length]))) R[rows.length]]=((R++news R (gf (E R[rows.length]))).take (rows.length+1)).map (rowOf nm E (R++news R (gf (E R[rows.length])))):=by
    rw[htk,cu]
    congr 1
    conv=>lhs;rw[hr]
    refine dh λc hc=>?_
    unfold rowOf;rw[MP (V_ (bv.cl c hc))]
   rw[hb];rcases aM9 (nk:=nk) (dk:=dk) (s:=s) (best:=best) (x8:=x8) (x9:=x9) (x10:=x10) (x11:=x11) g hn (λx hx=>(bv.rc x hx).mem hs g.g.cl) 0x1 hp hc 0x1 with ⟨pl',lv',y8,y9,y10,y11,p',h1,h2⟩|⟨⟨rb,ob,y,T,h1,h2,h3,h4⟩,h5⟩
   .have e1:(rows++[rowOf nm E (R++news R (gf (E R[rows.length]))) R[rows.length]]).length=rows.length+1:=by simp
    have:=ih (R++news R (gf (E R[rows.length]))) pl' (rows++[rowOf nm E (R++news R (gf (E R[rows.length]))) R[rows.length]]) lv' y8 y9 y10 y11 (by rw[e1];exact bv2) p' (by rw[e1];exact hr2) (by rw[e1,cb];lia) h1 0x1;rw[e1] at this;rcases this with ⟨i1,i2⟩|⟨pl'',lv'',z8,z9,z10,z11,i1,i4⟩
    .refine .inl ⟨i1,λfuel hfu=>?_⟩;obtain⟨k,rfl⟩:∃k,fuel=k+1:=⟨fuel-1,by lia⟩
     exact uJ hcd h2 (i2 k 0x1)
    .refine .inr ⟨pl'',lv'',z8,z9,z10,z11,i1,λfuel hfu=>?_⟩;obtain⟨k,rfl⟩:∃k,fuel=k+1:=⟨fuel-1,by lia⟩
     exact uJ hcd h2 (i4 k 0x1)
   .refine .inl ⟨⟨rb,ob,h1,?_⟩,λfuel hfu=>?_⟩
    .have hpre:=aHl (nm:=nm) (m:=m) bv2;rw[<-hr2] at hpre;refine Ls.lt ⟨rows,y,T,rowOf nm E (R++news R (gf (E R[rows.length]))) R[rows.length],(rowsOf nm E (bfs (λx=>gf (E x)) m (R++news R (gf (E R[rows.length]))) (rows.length+1))).drop (rows.length+1),h2,?_,h3,uP _ _,h4⟩;have:=l7 (rows.length+1) (rowsOf nm E (bfs (λx=>gf (E x)) m (R++news R (gf (E R[rows.length]))) (rows.length+1)));rw[hpre,c6] at this;exact this.symm
    .obtain⟨k,rfl⟩:∃k,fuel=k+1:=⟨fuel-1,by lia⟩
     exact aPs hcd h5
  .exact .inr ⟨pl,lv,x8,x9,x10,x11,fin (m+1) R pl rows lv x8 x9 x10 x11 hr hc 0x1 (by rw[bfs,s_ hn])⟩
def wlk(E:ag->aa Pt)(M:aa ag)(s:ag):aa ag:=bfs (λx=>gf (E x)) M.length [s] 0
def eQ(nm:ag->Str)(E:ag->aa Pt)(M:aa ag)(s:ag):aa D:=rowsOf nm E (wlk E M s)
def jT(nm:ag->Str)(E:ag->aa Pt)(R:aa ag):jR (rowsOf nm E R):=λd hd=>by
 obtain⟨c,_,rfl⟩:=aT.mp hd;exact⟨_,_,rfl⟩
theorem aHo(g:GdX nk dk M E nm)(hs:s∈M)(hb:best=.non\/∃rb ob,best=.tup [.scr rb,ob]/\jR rb/\rb.length=M.length) :
  ((∃rb ob,best=.tup [.scr rb,ob]/\iQ rb<iQ (eQ nm E M s))/\b_ 4 fO [.dct nk,.dct dk,.int s,best]=.ok .non)\/((best=.non\/∃rb ob,best=.tup [.scr rb,ob]/\¬iQ rb<iQ (eQ nm E M s))/\b_ 4 fO [.dct nk,.dct dk,.int s,best]=.ok (wkD (eQ nm E M s) (wlk E M s))):=by
 have hlv:∃lv,Cs best M.length [] lv/\dC .notN best .non=.ok (.bl lv):=by
  rcases hb with rfl|⟨rb,ob,rfl,h,h2⟩
  .exact⟨aj,.inl ⟨rfl,rfl⟩,rfl⟩
  .exact⟨af,.inr ⟨rb,ob,rfl,h,h2,.inl ⟨rfl,rb,rfl⟩⟩,rfl⟩
 obtain⟨lv,h1,h2⟩:=hlv;have hM:=g.g.ml;have hs0:s≠0:=λz=>g.nz (by rw[<-z];exact hs)
 have pre:∀d,(bM (aMw VJ J4) (QB 6 (QB 4 (lC (iT (aD mX (aD gD aX))) aj)))) (ws nk dk s best [s] (putD [(.int 0,.int 0)] (.int s) (.int 1)) [] lv .uD .uD .uD .uD)=.ok (.rt d)->b_ 4 fO [.dct nk,.dct dk,.int s,best]=.ok d:=λd h=>by
  refine(cQ rfl).trans (call_v ?_);refine aL (cF rfl rfl) ?_;refine aL (cF rfl ?_) ?_
  .show θ ((if eqD (.int 0) (.int s) then [(δ 0,δ 1)] else [(δ 0,δ 0),(δ s,δ 1)]).map (·.2))=af;split<;>rfl
  refine aL (cF rfl rfl) ?_;refine aL (bI (aJ (fC rfl ?_) rfl h2)) h;rcases hb with rfl|⟨rb,ob,rfl,_⟩<;>(intro z;cases z)
 rcases aMa g hs M.length [s] _ [] lv .uD .uD .uD .uD (bv0 _ s) (aTn hs0) rfl 0x2 h1 0x2 with ⟨i1,i2⟩|⟨pl',lv',y8,y9,y10,y11,i1,i4⟩
 .exact .inl ⟨i1,pre _ (RG (i2 1000 0x1))⟩
 .have i1:Cs best M.length (eQ nm E M s) lv':=i1;have i4:FZ VJ J4 1000 (ws nk dk s best [s] (putD [(.int 0,.int 0)] (.int s) (.int 1)) [] lv .uD .uD .uD .uD)=.ok (.nx (ws nk dk s best (wlk E M s) pl' (eQ nm E M s) lv' y8 y9 y10 y11)):=i4 1000 0x1;have hlen:(eQ nm E M s).length<=M.length:=by
   obtain⟨q1,q2,_⟩:=WD hs g.g.cl;rw[eQ,rowsOf,aI];exact nO _ _ q1 λx hx=>((q2 x).mp hx).mem hs g.g.cl
  refine .inr ⟨?_,pre _ (aL i4 ?_)⟩
  .rcases i1 with ⟨z,_⟩|⟨rb,ob,z,z1,z2,z3⟩
   .exact .inl z
   .refine .inr ⟨rb,ob,z,?_⟩;rcases z3 with ⟨_,T,e⟩|⟨_,z3⟩
    .intro hlt;have hT:∀A T:aa D,¬iQ (A++T)<iQ A:=by
      intro A;induction A with
      |nil=>
       intro T;cases T with
       |nil=>exact mh _
       |cons x T=>
        show ¬(1::(enc x++iQ T))<[0];rw[eL];simp
      |cons a A ih=>
       intro T;show ¬(1::(enc a++iQ (A++T)))<(1::(enc a++iQ A));rw[eL];rintro(z|⟨_,z⟩)
       .exact bg z (vg _)
       .exact ih T ((sI _ _ _).mp z)
     rw[e] at hlt;exact hT _ _ hlt
    .exact vk z3.lt
  .have ro:=jT nm E (wlk E M s);refine aEk rfl (aEk rfl ?_);refine fX (c7 0xc (by rw[a_];simp)) ?_;show(aj||(θ (eQ nm E M s)&&(θ ((wlk E M s).map δ)&&af)))=af;rw[eQ,vL ro,eO];rfl
end
theorem GQ(h1:¬ltP b a)(h2:¬ltP c b):¬ltP c a:=by unfold ltP at *;lia
noncomputable def mn(m y:Pt):Pt:=if ltP y m then y else m
theorem fold_min:∀(xs:aa Pt)(x:Pt),∀a∈x::xs,¬ltP a (xs.foldl mn x)
 |[],x,a,h=>by
  have:a=x:=by simpa using h
  subst this;show ¬ltP a a;unfold ltP;lia
 |y::xs,x,a,h=>by
  rw[jh];have h1:¬ltP x (mn x y):=by unfold mn;split<;>(unfold ltP at *;lia)
  have h2:¬ltP y (mn x y):=by unfold mn;split<;>(unfold ltP at *;lia)
  have ih:=fold_min xs (mn x y);have h0:=ih (mn x y) (bw ..);rcases bq.mp h with rfl|h
  .exact GQ h0 h1
  .rcases bq.mp h with rfl|h
   .exact GQ h0 h2
   .exact ih a (bu _ h)
def YW:∀(xs:aa Pt)(x:Pt),(xs.map enP).foldl (λm y=>if (iR .lt y m).getD aj then y else m) (enP x)=enP (xs.foldl mn x)
 |[],x=>rfl
 |y::xs,x=>by
  rw[bj,jh,jh,qG];have:(if (ae (ϒ (ltP y x))).getD aj then enP y else enP x)=enP (mn x y):=by
   unfold mn;by_cases h:ltP y x
   .rw[av h,cm h];rfl
   .rw[aw h,c8 h];rfl
  rw[this];exact YW xs (mn x y)
def aHp(P:aa Pt)(h:P≠[]):∃q∈P,(∀a∈P,¬ltP a q)/\dX .lt [.lst (P.map enP)]=.ok (enP q):=by
 cases P with
 |nil=>exact bg rfl h
 |cons p P=>
  have hall:(((p::P).map enP).all λa=>a.fD aO&&((p::P).map enP).all λb=>(iR .lt a b).isSome)=af:=by
   refine dw.mpr λa ha=>?_
   obtain⟨q,_,rfl⟩:=aT.mp ha;rw[show(enP q).fD aO=af from rfl,oe];refine dw.mpr λb hb=>?_
   obtain⟨q',_,rfl⟩:=aT.mp hb;rw[qG];rfl
  have e:dX .lt [.lst ((p::P).map enP)]=.ok ((P.map enP).foldl (λm y=>if (iR .lt y m).getD aj then y else m) (enP p)):=by
   show(if (((p::P).map enP).all λa=>a.fD aO&&((p::P).map enP).all λb=>(iR .lt a b).isSome) then τ _ else .bad)=_;rw[hall,av rfl]
  exact⟨_,YT mn (λa b=>by unfold mn;split<;>simp) P p,fold_min P p,by rw[e,YW]⟩
noncomputable def wA(E:ag->aa Pt)(M:aa ag):aa Pt:=M.flatMap λc=>((E c).filter λf=>ϒ (f.1=0)).map λf=>(f.2,c)
def lN{E:ag->aa Pt}:q∈wA E M↔q.2∈M/\(0,q.1)∈E q.2:=by
 unfold wA;simp only[ir,aT,ky,em];constructor
 .rintro⟨c,hc,f,⟨hf,h0⟩,rfl⟩;refine⟨hc,?_⟩;rw[<-h0];exact hf
 .rintro⟨h1,h2⟩;exact⟨q.2,h1,(0,q.1),⟨h2,rfl⟩,rfl⟩
def Sta(E:ag->aa Pt)(M S:aa ag):Prop:=(wA E M=[]/\S=M)\/∃q∈wA E M,(∀a∈wA E M,¬ltP a q)/\S=[q.2]
section
variable {nk dk:aa (D×D)} {M:aa ag} {E:ag->aa Pt} {nm:ag->Str}
theorem aHq(g:Gd nk dk M E)(hc:c∈M)(hA:A.length<=10000):stb [.dct dk,pd,.lst (A.map enP),.int c]=.ok (.nx [.dct dk,pd,.lst ((A++((E c).filter λf=>ϒ (f.1=0)).map λf=>(f.2,c)).map enP),.int c]):=by
 have hds:=g.ds c hc;have hel:=g.el c;have gE:(b2 getD dG j8) [.dct dk,pd,.lst (A.map enP),.int c]=.ok (.scr ((E c).map enP)):=by
  refine aJ rfl rfl ?_;show(if keyOk (.int c) then ι (bB dk (.int c)) else .bad)=_;rw[hds];rfl
 have hcomp:=mJ (tZ 4 HR (bTB (b2 (dC .eq) (b2 getD gD fU) fU)) (iT (aD (b2 getD gD gK) (aD j8 aX))) aj [.dct dk,pd,.lst (A.map enP),.int c]) enP (λf=>ϒ (f.1=0)) (λf=>enP (f.2,c)) (λacc f=>by
  refine kW rfl (cX (aJ (aJ rfl rfl rfl) rfl ?_)) λ_=>⟨c7 (aC (aJ rfl rfl rfl) 0xd) (by rw[a_];simp),rfl⟩
  show τ (π (eqD (.int f.1) (.int 0)))=_;rw[d_]) (E c) []
 have hl:((E c).filter λf=>ϒ (f.1=0)).length<=100:=du (lb ..) hel;have hm:(((E c).filter λf=>ϒ (f.1=0)).map λf=>enP (f.2,c))=(((E c).filter λf=>ϒ (f.1=0)).map λf=>(f.2,c)).map enP:=by rw[bP];rfl
 refine(aPt (i_ (aEj gE (lA _)) (by rw[aI,a_];lia) hcomp) rfl ?_ ?_).trans ?_
 .rw[eI,aI,aI,a_];lia
 .rw[eI,hm];exact lA _
 .rw[eI,hm,cu];rfl
theorem YX(hE:∀x,(E x).length<=100):∀M:aa ag,(wA E M).length<=100*M.length
 |[]=>bi _
 |c::M=>by
  have:=YX hE M;have hl:((E c).filter λf=>ϒ (f.1=0)).length<=100:=du (lb ..) (hE c);show((((E c).filter λf=>ϒ (f.1=0)).map λf=>(f.2,c))++wA E M).length<=_;rw[cb,aI,cr];lia
theorem aAm(g:Gd nk dk M E):∃S:aa ag,Sta E M S/\(∀x∈S,x∈M)/\b_ 2 k_ [.dct dk,pS M]=.ok (pS S):=by
 have hM:=g.ml;obtain⟨ρ,e1,x3,rfl⟩:=bW (t:=tg1 3) (I:=λys ρ=>∃x3:D,ρ=[.dct dk,pS M,.lst ((wA E ys).map enP),x3]) M (λys c zs ρ e ⟨x3,h⟩=>by
  subst h;have hyl:ys.length<=100:=by rw[e] at hM;simp at hM;lia
  have hc:c∈M:=by rw[e];simp
  have hA:=YX g.el ys;refine⟨[.dct dk,pS M,.lst ((wA E ys).map enP),.int c],_,rfl,aHq (pd:=pS M) (A:=wA E ys) g hc 0x1,.int c,?_⟩
  congr 4
  unfold wA;rw[kr,td]) (ρ:=[.dct dk,pS M,.lst [],.uD]) ⟨.uD,rfl⟩
 have pre:∀d,(bM (sIf (bTr g_) (lC (bFz (JQ (aD (b2 getD (aP (dX .lt) (aD g_ aX)) gK) aX))) af) n8) (lC fW aj)) [.dct dk,pS M,.lst ((wA E M).map enP),x3]=.ok (.rt d)->b_ 2 k_ [.dct dk,pS M]=.ok d:=λd h=>by
  refine(cQ rfl).trans (call_v ?_);refine aL (ρ':=[.dct dk,pS M,.lst [],.uD]) (cF (i:=2) rfl rfl) ?_;exact aL (aEc (i:=1) (xs:=M.map δ) rfl e1) h
 by_cases hA:wA E M=[]
 .refine⟨M,.inl ⟨hA,rfl⟩,λx h=>h,pre _ ?_⟩;rw[hA];refine aL (ρ':=[.dct dk,pS M,.lst [],x3]) (nY rfl rfl) (fX rfl ?_);show(aj||θ (M.map δ))=af;rw[eO];rfl
 .obtain⟨q,hq,hq2,hm⟩:=aHp _ hA;refine⟨[q.2],.inr ⟨q,hq,hq2,rfl⟩,λx hx=>by rw[dS.mp hx];exact(lN.mp hq).1,pre _ ?_⟩;generalize wA E M=A at hA hq hm ⊢;have ht:(bTr g_) [.dct dk,pS M,.lst (A.map enP),x3]=.ok af:=by
   show τ (!(A.map enP).isEmpty)=_;cases A with
   |nil=>exact bg rfl hA
   |cons a A=>rfl
  refine RG (BL ht (fX (aPo (xs:=[.int q.2]) ?_ rfl) rfl));have:(aD (b2 getD (aP (dX .lt) (aD g_ aX)) gK) aX) [.dct dk,pS M,.lst (A.map enP),x3]=.ok [.int q.2]:=aC (aJ (x:=enP q) (aK (xs:=[.lst (A.map enP)]) 0xd hm) rfl rfl) rfl;unfold JQ;rw[this,ε];rfl
def YZ(g:Gd nk dk M E)(hnd:M.Nodup)(hs:s∈M)(hrc:∀x,Rc (λx=>gf (E x)) s x↔x∈M):(wlk E M s).Perm M:=by
 obtain⟨q1,q2,_⟩:=WD hs g.cl;exact zY q1 hnd λy=>(q2 y).trans (hrc y)
theorem aEs(g:GdX nk dk M E nm)(hne:M≠[])(hnd:M.Nodup)(hrc:∀s∈M,∀x,Rc (λx=>gf (E x)) s x↔x∈M):∃S s0,Sta E M S/\s0∈S/\(∀s∈S,s∈M)/\(∀s∈S,¬iQ (eQ nm E M s)<iQ (eQ nm E M s0))/\b_ 3 cU [.dct nk,.dct dk,pS M]=.ok (wkD (eQ nm E M s0) (wlk E M s0)):=by
 obtain⟨S,s1,s2,s3⟩:=aAm g.g;have hS:S≠[]:=by
  rcases s1 with ⟨_,z⟩|⟨q,_,_,z⟩
  .rw[z];exact hne
  .rw[z];simp
 obtain⟨ρ,e1,b,x4,x5,h1,rfl⟩:=bW (t:=tg1 4) (body:=fwb) (d:=δ) (I:=λys ρ=>∃b x4 x5,((ys=[]/\b=.non)\/∃s0∈ys,(∀s∈ys,¬iQ (eQ nm E M s)<iQ (eQ nm E M s0))/\b=wkD (eQ nm E M s0) (wlk E M s0))/\ρ=[.dct nk,.dct dk,pS M,b,x4,x5]) S (λys c zs ρ e ⟨b,x4,x5,h1,h⟩=>by
  subst h;have hc:c∈M:=s2 c (by rw[e];simp);have hysM:∀s∈ys,s∈M:=λs hs=>s2 s (by rw[e];exact eg _ hs)
  have hbb:b=.non\/∃rb ob,b=.tup [.scr rb,ob]/\jR rb/\rb.length=M.length:=by
   rcases h1 with ⟨_,z⟩|⟨s0,hs0,_,z⟩
   .exact .inl z
   .refine .inr ⟨_,_,z,jT _ _ _,?_⟩;rw[eQ,rowsOf,aI,(YZ g.g hnd (hysM s0 hs0) (hrc s0 (hysM s0 hs0))).length_eq]
  have hu:b≠.uD:=by
   rcases h1 with ⟨_,z⟩|⟨s0,_,_,z⟩<;>(rw[z];intro q;cases q)
  refine⟨[.dct nk,.dct dk,pS M,b,.int c,x5],?_⟩;have ha:∀d,b_ 4 fO [.dct nk,.dct dk,.int c,b]=.ok d->(cH aj 5 (aP (b_ 4 fO) (aD dG (aD fW (aD gD (aD j8 aX))))) af) [.dct nk,.dct dk,pS M,b,.int c,x5]=.ok (.nx [.dct nk,.dct dk,pS M,b,.int c,d]):=λd h=>bI (i:=5) (aK (xs:=[.dct nk,.dct dk,.int c,b]) (aC rfl (aC rfl (aC rfl (aC (fC rfl hu) rfl)))) h)
  rcases aHo g hc hbb with ⟨⟨rb,ob,i1,i1'⟩,i2⟩|⟨i1,i2⟩
  .refine⟨[.dct nk,.dct dk,pS M,b,.int c,.non],rfl,aL (ha _ i2) (nY rfl rfl),b,.int c,.non,?_,rfl⟩;rcases h1 with ⟨_,z⟩|⟨s0,hs0,hmin,z⟩
   .rw[z] at i1;cases i1
   .refine .inr ⟨s0,eg _ hs0,λs hs=>?_,z⟩;rcases cw.mp hs with hs|hs
    .exact hmin s hs
    .rw[dS.mp hs];rw[z] at i1;cases i1;exact vk i1'
  .refine⟨[.dct nk,.dct dk,pS M,wkD (eQ nm E M c) (wlk E M c),.int c,wkD (eQ nm E M c) (wlk E M c)],rfl,aL (ha _ i2) (BL rfl rfl),wkD (eQ nm E M c) (wlk E M c),.int c,_,.inr ⟨c,by simp,λs hs=>?_,rfl⟩,rfl⟩;rcases cw.mp hs with hs|hs
   .rcases h1 with ⟨z,_⟩|⟨s0,hs0,hmin,z⟩
    .rw[z] at hs;cases hs
    .rcases i1 with z1|⟨rb,ob,z1,z2⟩
     .rw[z1] at z;cases z
     .rw[z] at z1;cases z1;intro hlt;exact z2 (vh (k4.mp (hmin s hs)) hlt)
   .rw[dS.mp hs];exact mh _) (ρ:=[.dct nk,.dct dk,pS M,.non,.uD,.uD]) ⟨.non,.uD,.uD,.inl ⟨rfl,rfl⟩,rfl⟩
 obtain⟨s0,hs0,hmin,rfl⟩:=h1.resolve_left λz=>hS z.1
 refine⟨S,s0,s1,hs0,s2,hmin,(cQ rfl).trans (call_v ?_)⟩;refine aL (ρ':=[.dct nk,.dct dk,pS M,.non,.uD,.uD]) (bI (i:=3) rfl) ?_;refine aL (jK (aEj (xs:=S.map δ) (aK (xs:=[.dct dk,pS M]) 0xc s3) (eO S)) e1) ?_;refine fX (d:=wkD (eQ nm E M s0) (wlk E M s0)) rfl ?_;show(aj||(θ (eQ nm E M s0)&&(θ ((wlk E M s0).map δ)&&af)))=af;rw[eQ,vL (jT _ _ _),eO];rfl
end
def jU(g:aa D->D->Res (aa D))(d y:α->D):∀(xs:aa α)(acc:aa D),(∀acc,∀a∈xs,g acc (d a)=.ok (acc++[y a]))->sG g acc (xs.map d)=.ok (acc++xs.map y)
 |[],acc,_=>by rw[je,je,eo];rfl
 |a::xs,acc,h=>by
  show(do let r <- g acc (d a);sG g r (xs.map d))=_;rw[h acc a (bw ..),ε,jU g d y xs _ λacc b hb=>h acc b (bu _ hb)];simp
def wk2(x:aa D×aa ag):D:=wkD x.1 x.2
def unW:D->aa D×aa ag
 |.tup [.scr rows,.scr o]=>(rows,o.map unI)
 |_=>([],[])
def aPu(x:aa D×aa ag):unW (wk2 x)=x:=by
 show(x.1,(x.2.map δ).map unI)=x;rw[bP];have:x.2.map (unI ∘ δ)=x.2:=by
  conv=>rhs;rw[<-gq x.2]
  exact dh λt _=>rfl
 rw[this]
def tH:∀l:aa ag,χ (l.map δ)=af
 |[]=>rfl
 |x::l=>by rw[bj,χ,tH l];rfl
def aEt(s:Str)(l:aa ag):(υ (fK s l)).plain=af:=by
 show(af&&χ (l.map δ))=af;rw[tH];rfl
def jC:∀{rows:aa D},jR rows->χ rows=af
 |[],_=>rfl
 |d::rows,h=>by
  obtain⟨s,l,rfl⟩:=h d (bw ..);rw[χ,aEt,jC λd hd=>h d (bu _ hd)];rfl
def RQ:∀{rows:aa D},jR rows->μ 10 rows=af
 |[],_=>rfl
 |d::rows,h=>by
  obtain⟨s,l,rfl⟩:=h d (bw ..);rw[μ,RQ λd hd=>h d (bu _ hd),jn];exact qJ 9 s l
theorem RT:∀{a b:aa D},jR a->jR b->∃k,cV .lt a b=ae k
 |[],b,_,_=>⟨_,rfl⟩
 |x::a,[],_,_=>⟨_,rfl⟩
 |x::a,y::b,ha,hb=>by
  obtain⟨k,h⟩:=RT (λd hd=>ha d (bu _ hd)) λd hd=>hb d (bu _ hd)
  obtain⟨s,l,rfl⟩:=ha x (bw ..);obtain⟨s',l',rfl⟩:=hb y (bw ..);show ∃k,(if eqD (.scr (fK s l)) (.scr (fK s' l')) then cV .lt a b else cV .lt (fK s l) (fK s' l'))=ae k;split
  .exact⟨k,h⟩
  .exact YQ .lt s s' l l'
def aPv(hx:jR x.1)(hy:jR y.1):∃k,iR .lt (wk2 x) (wk2 y)=ae k:=by
 obtain⟨k1,h1⟩:=RT hx hy;obtain⟨k2,h2⟩:=MJ .lt x.2 y.2;show ∃k,(if eqD (.scr x.1) (.scr y.1) then (if eqD (.scr (x.2.map δ)) (.scr (y.2.map δ)) then cV .lt [] [] else cV .lt (x.2.map δ) (y.2.map δ)) else cV .lt x.1 y.1)=ae k;split
 .split
  .exact⟨_,rfl⟩
  .exact⟨k2,h2⟩
 .exact⟨k1,h1⟩
def M3{L:aa (aa D×aa ag)}(h:∀x∈L,jR x.1):bG (L.map wk2)=af:=by
 unfold bG;refine dw.mpr λd hd=>?_
 obtain⟨x,hx,rfl⟩:=aT.mp hd;have hk:eX ((L.map wk2).headD .non)=6:=by
  cases L with
  |nil=>cases hx
  |cons u U=>rfl
 have h6:eX (wk2 x)=6:=rfl;have hp:(wk2 x).plain=af:=by
  show(χ x.1&&(χ (x.2.map δ)&&af))=af;rw[jC (h x hx),tH];rfl
 have hq:(wk2 x).fD aO=af:=by
  show(μ 10 x.1&&(μ 10 (x.2.map δ)&&af))=af;rw[RQ (h x hx),rA];rfl
 rw[hk,h6,hp,hq];refine dw.mpr λb hb=>?_
 obtain⟨y,hy,rfl⟩:=aT.mp hb;obtain⟨k,e⟩:=aPv (h x hx) (h y hy);rw[e];rfl
def aMb(h1:f ρ=.ok (.scr ys))(h2:ρ.getD i .uD=.lst xs)(h3:xs.length+ys.length<=lim)(h4:θ ys=af):aD9 i f ρ=.ok (.nx (ρ.set i (.lst (xs++ys)))):=by
 unfold aD9;rw[h1,ε,h2];show(if ϒ (xs.length+ys.length<=lim)&&θ ys then _ else _)=_;rw[cm h3,h4];rfl
noncomputable def EP:ai->aa ag->aa Pt
 |_,[]=>[]
 |m,o::O=>((m:ag),o)::EP (m+1) O
def aEu(m:ai):∀(k:ai)(O:aa ag),((O.map δ).zipIdx k).map (λp=>D.tup [.int ((m+p.2:ai):ag),p.1])=(EP (m+k) O).map enP
 |_,[]=>rfl
 |k,o::O=>by
  rw[bj,zc,bj,aEu m (k+1) O];rfl
def Y0(m:ai)(O:aa ag):JD m (O.map δ)=(EP m O).map enP:=aEu m 0 O
def aEv:∀(m:ai)(O:aa ag),(EP m O).map (·.2)=O
 |_,[]=>rfl
 |m,o::O=>by
  show o::(EP (m+1) O).map (·.2)=_;rw[aEv]
theorem aJ2:∀(m:ai)(O:aa ag),(EP m O).map (·.1)=(bh O.length).map λ(k:ai)=>((m:ag)+k)
 |_,[]=>rfl
 |m,o::O=>by
  show(m:ag)::(EP (m+1) O).map (·.1)=_;rw[aJ2 (m+1) O,cr,rg,bj,bP];have e1:((m:ag)+((0:ai):ag))=m:=by lia
  rw[e1];refine cz _ (dh λk _=>?_);show((m+1:ai):ag)+k=(m:ag)+((k+1:ai):ag);lia
def aAn(U:aa Pt):gB [.lst (U.map enP)]=.ok (.lst ((mO U).map enP)):=by
 show(if bG (U.map enP) then τ (ξ (h_ (U.map enP))) else .bad)=_;rw[DR,av rfl,aEb]
theorem aEw(h:(U.map (·.1)).Perm M)(hM:M.Pairwise (·<·)):(mO U).map (·.1)=M:=by
 have hnd:M.Nodup:=hM.imp λ{a b} z=>by lia
 have hU:(U.map (·.1)).Nodup:=h.nodup_iff.mpr hnd;have hUn:U.Nodup:=(d4.mp hU).imp λ{a b} z e=>z (by rw[e])
 have hp:((mO U).map (·.1)).Perm M:=((mQ U).map _).trans h;refine uL ?_ hM λx=>hp.mem_iff
 have h1:(mO U).Pairwise λa b=>a.1≠b.1:=d4.mp (hp.nodup_iff.mpr hnd)
 refine d4.mpr (Cc ?_ (aAl hUn) h1);intro a b z1 z2;unfold ltP at z1;lia
def Y4:∀Q:aa Pc,mL (Q.map pcD)=ae (Q.map λc=>(δ c.1,ν c.2))
 |[]=>rfl
 |c::Q=>by
  show(if fY (.int c.1)&&(ν c.2).pure then (mL (Q.map pcD)).map ((δ c.1,ν c.2)::·) else ao)=_;rw[Y4 Q];rfl
theorem GR:∀(Q:aa Pc)(acc:aa (D×D))(n:ag),n∈Q.map (·.1)\/(∃s:Str,bB acc (.int n)=ae (.str s))->∃s:Str,bB (bT acc (Q.map λc=>(δ c.1,ν c.2))) (.int n)=ae (.str s)
 |[],acc,n,h=>h.resolve_left 0x2
 |c::Q,acc,n,h=>by
  show ∃s:Str,bB (bT (putD acc (.int c.1) (.str c.2)) (Q.map λc=>(δ c.1,ν c.2))) (.int n)=ae (.str s);refine GR Q _ n ?_;rw[j7];by_cases e:c.1=n
  .exact .inr ⟨c.2,av e⟩
  .rw[aw e];rcases h with h|h
   .exact .inl ((bq.mp h).resolve_left λz=>e z.symm)
   .exact .inr h
def nkD(Q:aa Pc):aa (D×D):=bT [] (Q.map λc=>(δ c.1,ν c.2))
theorem aHr(h:Q.length<=30):y_ (.tup (Q.map pcD))=.ok (.dct (nkD Q)):=by
 show(match mL (Q.map pcD) with|some ps=>if ϒ ((Q.map pcD).length<=1000) then τ (D.dct (bT [] ps)) else .bad|none=>.bad)=_;rw[Y4];show(if ϒ ((Q.map pcD).length<=1000) then τ (D.dct (nkD Q)) else .bad)=_;rw[cm (by rw[aI];lia),av rfl]
section
variable {kvs:aa (D×D)} {Q:aa Pc} {V:aa Tie}
theorem RV(w:Net kvs Q V)(hx:x∈Q.map (·.1)):y∈gf (ea kvs Q V x)↔y∈vK V x:=by
 obtain⟨pc,hp,rfl⟩:=aT.mp hx;have wf:=w.wf;have h0:=w.qpos pc hp;unfold gf;rw[ky,xN];simp only[aT,em];constructor
 .rintro⟨⟨f,hf,rfl⟩,hy⟩;obtain⟨h,ht⟩:=(RP w hp).mp hf;rcases ht with ht|ht
  .exact⟨_,ht,by show pc.1≠0;lia,.inl ⟨rfl,rfl⟩⟩
  .exact⟨_,ht,hy,.inr ⟨rfl,rfl⟩⟩
 .rintro⟨t,ht,h1,h2⟩;have hm:t.1.1∈Q.map (·.1)/\t.2.1∈Q.map (·.1):=(wf.ok t ht).resolve_left λz=>h1 z.1
  have q1:=wf.qp _ hm.1;have q2:=wf.qp _ hm.2;rcases h2 with ⟨h2,h3⟩|⟨h2,h3⟩
  .refine⟨⟨t.2,(RP w hp).mpr ⟨t.1.2,.inl ?_⟩,h3⟩,by lia⟩;rw[show(pc.1,t.1.2)=t.1 from Prod.ext h2.symm rfl];exact ht
  .refine⟨⟨t.1,(RP w hp).mpr ⟨t.2.2,.inr ?_⟩,h3⟩,by lia⟩;rw[show(pc.1,t.2.2)=t.2 from Prod.ext h2.symm rfl];exact ht
theorem aPw(w:Net kvs Q V)(x:ag):(ea kvs Q V x).length<=100:=by
 unfold ea;rw[GP];unfold vq;cases h:Q.find? λc=>ϒ (c.1=x) with
 |none=>simp
 |some c=>
  have:=aEd w (List.mem_of_find?_eq_some h);show vOf kvs c.2+1<=100;lia
theorem qK(w:Net kvs Q V)(ps:Ps (vK V) (Q.map (·.1)) F)(hp:p∈F):Gd (nkD Q) (dE (Q.map (·.1)) (ea kvs Q V)) p (ea kvs Q V) /\p≠[]/\p.Nodup/\∀s∈p,∀x,Rc (λx=>gf (ea kvs Q V x)) s x↔x∈p:=by
 have wf:=w.wf;have hcl:=lB wf;obtain⟨n,q,e,hn,hlt,hm⟩:=ps.ea p hp;have hsub:∀x∈p,x∈Q.map (·.1):=λx hx=>((hm x).mp hx).mem hn hcl
 have hnd:p.Nodup:=hlt.imp λ{a b} z=>by lia
 have hl:p.length<=30:=by
  have:=nO _ _ hnd hsub;rw[aI] at this;have:=w.ql;lia
 refine⟨⟨λx hx y hy=>?_,by lia,aPw w,λx hx=>aEe (hsub x hx),λx hx=>GR Q [] x (.inl (hsub x hx))⟩,by rw[e];simp,hnd,λs hs x=>?_⟩
 .exact(hm y).mpr (((hm x).mp hx).step ((RV w (hsub x hx)).mp hy))
 .have hs':=(hm s).mp hs;have hsN:=hsub s hs;have cl2:∀x∈Q.map (·.1),∀y∈gf (ea kvs Q V x),y∈Q.map (·.1):=λx hx y hy=>hcl x hx y ((RV w hx).mp hy)
  constructor
  .intro h;exact(hm x).mpr (hs'.trans (Rc.to hsN cl2 (λx hx y hy=>(RV w hx).mp hy) h))
  .intro h;have h1:Rc (vK V) s x:=(hs'.symm (RK V)).trans ((hm x).mp h);exact Rc.to hsN hcl (λx hx y hy=>(RV w hx).mpr hy) h1
def RW:∀{F:aa (aa ag)}{W:aa ag->aa D×aa ag},(∀p∈F,(W p).2.Perm p)->((F.map W).flatMap (·.2)).Perm F.flatten
 |[],_,_=>.refl _
 |p::F,W,h=>by
  show((W p).2++(F.map W).flatMap (·.2)).Perm (p++F.flatten);exact(h p (bw ..)).append (RW λq hq=>h q (bu _ hq))
def qL(f:α->aa β){l m:aa α}(h:l.Perm m):(l.flatMap f).Perm (m.flatMap f):=by
 induction h with
 |nil=>exact .refl _
 |cons a _ ih=>exact kq _ ih
 |swap a b l=>
  show(f b++(f a++_)).Perm (f a++(f b++_));rw[<-c6,<-c6];exact(xf).append_right _
 |trans _ _ h1 h2=>exact h1.trans h2
def wn(net:D)(nk dk:aa (D×D))(x3 x4 x5 x6:D):aa D:=[net,.dct nk,.dct dk,x3,x4,x5,x6]
def prs(O:aa ag):aa Pt:=(EP 1 O).map λe=>((e.2,e.1):Pt)
def aEx(O:aa ag):(prs O).map (·.1)=O:=by unfold prs;rw[bP];exact aEv 1 O
def aMc(O:aa ag):(prs O).map (·.2)=(bh O.length).map λ(k:ai)=>((1:ag)+k):=by unfold prs;rw[bP];exact aJ2 1 O
def aEy{F:aa (aa ag)}(hW:∀p∈F,b_ 3 cU [.dct nk,.dct dk,pS p]=.ok (wk2 (W p))):sG (tZ 7 HR iU (aP (b_ 3 cU) (aD fW (aD g_ (aD vU aX)))) af (wn net nk dk .uD .uD .uD .uD)) [] (F.map pS)=.ok ((F.map W).map wk2):=by
 have h:=jU (tZ 7 HR iU (aP (b_ 3 cU) (aD fW (aD g_ (aD vU aX)))) af (wn net nk dk .uD .uD .uD .uD)) pS (λp=>wk2 (W p)) F [] (λacc p hp=>by
  have hf:(aP (b_ 3 cU) (aD fW (aD g_ (aD vU aX)))) [net,.dct nk,.dct dk,.uD,.uD,.uD,.uD,pS p]=.ok (wk2 (W p)):=aK (aC rfl 0xc) (hW p hp);exact kW (b:=af) rfl rfl λ_=>⟨hf,rfl⟩)
 rw[h,eI,bP];rfl
def aEz:sG (tZ 7 (O4 2) iU (iT (aD uQ (aD vU aX))) aj (wn net nk dk x3 (.lst (O.map δ)) x5 x6)) [] (JD 1 (O.map δ))=.ok ((prs O).map enP):=by
 rw[Y0,jU _ enP (λe=>enP (e.2,e.1)) (EP 1 O) [] (λacc e _=>by
  exact qI (b:=af) rfl rfl rfl λ_=>⟨c7 0xc (by rw[a_];simp),rfl⟩),eI]
 unfold prs;rw[bP];rfl
end
def FW(nm:ag->Str)(E:ag->aa Pt)(p:aa ag)(rows:aa D):Prop:=∃S s0,Sta E p S/\s0∈S/\(∀s∈S,s∈p)/\(∀s∈S,¬iQ (eQ nm E p s)<iQ (eQ nm E p s0))/\rows=eQ nm E p s0
section
variable {φ:ag->ag} {p p':aa ag} {nm nm':ag->Str} {E E':ag->aa Pt}
def aPx(cl:∀x∈p,∀y∈gf (E x),y∈p)(hs:s∈p):∀x∈wlk E p s,x∈p:=λx hx=>by
 obtain⟨_,q2,_⟩:=WD hs cl;exact((q2 x).mp hx).mem hs cl
def aMd(i:Iso φ p nm nm' E E')(hl:p'.length=p.length)(hs:s∈p):wlk E' p' (φ s)=(wlk E p s).map φ:=by
 unfold wlk;rw[hl];exact aEq i p.length [s] 0 λx hx=>by rw[dS.mp hx];exact hs
def RX(i:Iso φ p nm nm' E E')(hl:p'.length=p.length)(hs:s∈p):eQ nm' E' p' (φ s)=eQ nm E p s:=by
 unfold eQ;rw[aMd i hl hs];exact aHm i (aPx i.cl hs)
def xQ(i:Iso φ p nm nm' E E')(hm:∀y,y∈p'↔∃x∈p,φ x=y):q'∈wA E' p'↔∃q∈wA E p,q'=(q.1,φ q.2):=by
 rw[lN];constructor
 .rintro⟨h1,h2⟩;obtain⟨c,hc,e⟩:=(hm _).mp h1;rw[<-e,i.ea c hc] at h2;obtain⟨f,hf,ef⟩:=aT.mp h2;have e1:φ f.1=0:=cz n9 ef;have e2:f.2=q'.1:=cz mB ef;have h0:=(i.ze (V_ (i.cl c hc) f hf)).mp e1;refine⟨(q'.1,c),lN.mpr ⟨hc,?_⟩,Prod.ext rfl e.symm⟩;show(0,q'.1)∈E c;rw[<-e2,<-h0];exact hf
 .rintro⟨q,hq,rfl⟩;obtain⟨h1,h2⟩:=lN.mp hq;refine⟨(hm _).mpr ⟨q.2,h1,rfl⟩,?_⟩;show(0,q.1)∈E' (φ q.2);rw[i.ea q.2 h1];exact aT.mpr ⟨(0,q.1),h2,by rw[i.z]⟩
theorem aMe(i:Iso φ p nm nm' E E')(hm:∀y,y∈p'↔∃x∈p,φ x=y)(hu:∀q∈wA E p,∀r∈wA E p,q.1=r.1->q=r){S S':aa ag}(h:Sta E p S)(h':Sta E' p' S'):∀y,y∈S'↔∃x∈S,φ x=y:=by
 rcases h with ⟨h1,rfl⟩|⟨q,hq,hmin,rfl⟩
 .rcases h' with ⟨_,rfl⟩|⟨q',hq',_⟩
  .exact hm
  .obtain⟨q,hq,_⟩:=(xQ i hm).mp hq';rw[h1] at hq;cases hq
 .rcases h' with ⟨h1',rfl⟩|⟨q',hq',hmin',rfl⟩
  .have:=(xQ i hm).mpr ⟨q,hq,rfl⟩;rw[h1'] at this;cases this
  .obtain⟨r,hr,rfl⟩:=(xQ i hm).mp hq';have a:=hmin r hr;have b:=hmin' _ ((xQ i hm).mpr ⟨q,hq,rfl⟩);have e:r=q:=hu r hr q hq (by unfold ltP at a b;simp only at a b;lia);subst e;intro y;simp;exact eq_comm
def aMf(i:Iso φ p nm nm' E E')(hl:p'.length=p.length)(hm:∀y,y∈p'↔∃x∈p,φ x=y)(hu:∀q∈wA E p,∀r∈wA E p,q.1=r.1->q=r)(h:FW nm E p r)(h':FW nm' E' p' r'):r'=r:=by
 obtain⟨S,s0,a1,a2,a3,a4,rfl⟩:=h;obtain⟨S',s0',b1,b2,b3,b4,rfl⟩:=h';have hS:=aMe i hm hu a1 b1;obtain⟨s1,hs1,e⟩:=(hS s0').mp b2;subst e;have c1:¬iQ (eQ nm' E' p' (φ s1))<iQ (eQ nm E p s0):=by
  rw[RX i hl (a3 s1 hs1)];exact a4 s1 hs1
 have c2:¬iQ (eQ nm E p s0)<iQ (eQ nm' E' p' (φ s1)):=by
  rw[<-RX i hl (a3 s0 a2)];exact b4 (φ s0) ((hS _).mpr ⟨s0,a2,rfl⟩)
 have:=vm (k4.mp c1) (k4.mp c2);exact((t8 _ _ [] [] (jC (jT _ _ _)) (jC (jT _ _ _)) (by rw[eQ,eQ] at this;rw[this])).1).symm
end
structure Pa(E:ag->aa Pt)(M:aa ag)(F:aa (aa ag)):Prop where
 nd:F.Nodup
 cv:∀n∈M,∃p∈F,n∈p
 ne:∀p∈F,p≠[]
 up:∀p∈F,p.Pairwise (·<·)
 sub:∀p∈F,∀x∈p,x∈M
 rc:∀p∈F,∀s∈p,∀x,Rc (λx=>gf (E x)) s x↔x∈p
section
variable {φ:ag->ag} {M M':aa ag} {nm nm':ag->Str} {E E':ag->aa Pt} {F F':aa (aa ag)}
def Pa.nodup(h:Pa E M F)(hp:p∈F):p.Nodup:=(h.up p hp).imp λ{a b} z=>by lia
def Pa.aTo(h:Pa E M F)(hp:p∈F)(hq:q∈F)(h1:x∈p)(h2:x∈q):p=q:=uL (h.up p hp) (h.up q hq) λy=>(h.rc p hp x h1 y).symm.trans (h.rc q hq x h2 y)
def Pa.cl(h:Pa E M F)(hp:p∈F):∀x∈p,∀y∈gf (E x),y∈p:=λx hx y hy=>(h.rc p hp x hx y).mp (Rc.refl.step hy)
def aPy(i:Iso φ M nm nm' E E')(hs:s∈M):Rc (λx=>gf (E' x)) (φ s) y↔∃x,Rc (λx=>gf (E x)) s x/\φ x=y:=by
 constructor
 .intro h;induction h with
  |refl=>exact⟨s,.refl,rfl⟩
  |step _ hy ih=>
   obtain⟨x,h1,rfl⟩:=ih;have hx:x∈M:=h1.mem hs i.cl;have hy2:=hy;rw[aEp i hx] at hy2;obtain⟨z,hz,e⟩:=aT.mp hy2;exact⟨z,h1.step hz,e⟩
 .rintro⟨x,h,rfl⟩;induction h with
  |refl=>exact .refl
  |step h1 hy ih=>
   refine ih.step ?_;show _∈gf (E' (φ _));rw[aEp i (h1.mem hs i.cl)];exact aT.mpr ⟨_,hy,rfl⟩
def iot(φ:ag->ag)(p:aa ag):aa ag:=sortI (p.map φ)
def M4:y∈iot φ p↔∃x∈p,φ x=y:=by
 unfold iot;rw[(sortI_perm _).mem_iff,aT]
def Y5(i:Iso φ M nm nm' E E')(hM:∀y,y∈M'↔∃x∈M,φ x=y)(h:Pa E M F)(h':Pa E' M' F')(hp:p∈F)(hq:q∈F')(h1:x∈p)(h2:φ x∈q):iot φ p=q:=by
 have hnd:(p.map φ).Nodup:=by
  refine d4.mpr ((h.nodup hp).imp_of_mem λ{a b} ha hb hab e=>hab (i.inj a (h.sub p hp a ha) b (h.sub p hp b hb) e))
 refine uL (YK hnd) (h'.up q hq) λy=>?_
 rw[M4,<-h'.rc q hq _ h2 y,aPy i (h.sub p hp x h1)];constructor
 .rintro⟨z,hz,e⟩;exact⟨z,(h.rc p hp x h1 z).mpr hz,e⟩
 .rintro⟨z,hz,e⟩;exact⟨z,(h.rc p hp x h1 z).mp hz,e⟩
def aF0(i:Iso φ M nm nm' E E')(hM:∀y,y∈M'↔∃x∈M,φ x=y)(h:Pa E M F)(h':Pa E' M' F'):(F.map (iot φ)).Perm F':=by
 have to:∀p∈F,iot φ p∈F':=λp hp=>by
  obtain⟨x,hx⟩:∃x,x∈p:=xl _ (h.ne p hp);obtain⟨q,hq,hxq⟩:=h'.cv (φ x) ((hM _).mpr ⟨x,h.sub p hp x hx,rfl⟩);rw[Y5 i hM h h' hp hq hx hxq];exact hq
 refine(xj ?_ h'.nd).mpr λq=>?_
 .refine d4.mpr (h.nd.imp_of_mem λ{p q} hp hq hpq e=>hpq ?_);obtain⟨x,hx⟩:∃x,x∈p:=xl _ (h.ne p hp);have hm:φ x∈iot φ q:=by rw[<-e];exact M4.mpr ⟨x,hx,rfl⟩
  obtain⟨y,hy,e2⟩:=M4.mp hm;have:=i.inj y (h.sub q hq y hy) x (h.sub p hp x hx) e2;subst this;exact h.aTo hp hq hx hy
 .rw[aT];constructor
  .rintro⟨p,hp,rfl⟩;exact to p hp
  .intro hq;obtain⟨y,hy⟩:∃y,y∈q:=xl _ (h'.ne q hq);obtain⟨x,hx,rfl⟩:=(hM y).mp (h'.sub q hq y hy);obtain⟨p,hp,hxp⟩:=h.cv x hx;exact⟨p,hp,Y5 i hM h h' hp hq hxp hy⟩
def Iso.part(i:Iso φ M nm nm' E E')(hs:∀x∈p,x∈M)(cl:∀x∈p,∀y∈gf (E x),y∈p):Iso φ p nm nm' E E':=⟨i.z,λx hx=>i.nz x (hs x hx),λx hx y hy=>i.inj x (hs x hx) y (hs y hy),λx hx=>i.nm x (hs x hx),λx hx=>i.ea x (hs x hx),cl⟩
def aF1(i:Iso φ M nm nm' E E')(hM:∀y,y∈M'↔∃x∈M,φ x=y)(h:Pa E M F)(h':Pa E' M' F')(hu:∀q∈wA E M,∀r∈wA E M,q.1=r.1->q=r)(hk:∀p∈F,FW nm E p (k p))(hk':∀p∈F',FW nm' E' p (k' p)):(F.map k).Perm (F'.map k'):=by
 have hp:=aF0 i hM h h';have e:F.map k=(F.map (iot φ)).map k':=by
  rw[bP];refine dh λp hpF=>?_
  have hin:iot φ p∈F':=hp.mem_iff.mp (aT.mpr ⟨p,hpF,rfl⟩);have ip:=i.part (h.sub p hpF) (h.cl hpF);have sub:∀q∈wA E p,q∈wA E M:=λq hq=>by
   obtain⟨a,b⟩:=lN.mp hq;exact lN.mpr ⟨h.sub p hpF _ a,b⟩
  refine(aMf ip ?_ (λy=>M4) (λq hq r hr=>hu q (sub q hq) r (sub r hr)) (hk p hpF) (hk' _ hin)).symm;show(sortI (p.map φ)).length=_;rw[(sortI_perm _).length_eq,aI]
 rw[e];exact hp.map k'
end
theorem RZ:(2:ai)<=lim:=by rw[a_];lia
def aS2:(3:ai)<=lim:=by rw[a_];lia
def aS3:D->Pc
 |.tup [.int a,.str b]=>(a,b)
 |_=>(0,"")
def dI(U:aa Pc):aa Pc:=(h_ (U.map pcD)).map aS3
def eE(U:aa Pc):(dI U).Perm U:=by
 have h:=(b7 (U.map pcD)).map aS3;rw[bP] at h;have e:U.map (aS3 ∘ pcD)=U:=by
  conv=>rhs;rw[<-gq U]
  exact dh λt _=>rfl
 rw[e] at h;exact h
def Y6(U:aa Pc):(dI U).map pcD=h_ (U.map pcD):=by
 unfold dI;rw[bP]
 conv=>rhs;rw[<-gq (h_ (U.map pcD))]
 refine dh λd hd=>?_
 obtain⟨t,_,rfl⟩:=aT.mp ((b7 (U.map pcD)).mem_iff.mp hd);rfl
def zZ(U:aa Pc):gB [.lst (U.map pcD)]=.ok (.lst ((dI U).map pcD)):=by
 show(if bG (U.map pcD) then τ (ξ (h_ (U.map pcD))) else .bad)=_;rw[rN,av rfl,Y6]
theorem WF{U:aa Tie}(r:ag)(hl:U.length<=lim):b_ 3 qY [.lst (P.map pcD),.lst (U.map bO),.int r]=.ok (dR (dI P) (dU (U.map norm)) r):=by
 refine(cQ rfl).trans (call_v ?_);have hf:sG (tZ 4 (O4 2) iU (iT (aD (aP (dX .lt) (aD gD (aD fZ aX))) (aD (aP (dX .gt) (aD gD (aD fZ aX))) aX))) aj [.lst (P.map pcD),.lst (U.map bO),.int r,.uD]) [] (U.map bO)=.ok ((U.map norm).map bO):=by
  rw[jU _ bO (λt=>bO (norm t)) U [] λacc t _=>by
   have e1:=DP .lt t.1 t.2 ltP qG;have e2:=DP .gt t.1 t.2 (λx y=>ltP y x) Q_;exact qI (b:=af) (bs:=[enP t.1,enP t.2]) (y:=bO (norm t)) rfl rfl rfl λ_=>⟨c7 (xs:=[enP (norm t).1,enP (norm t).2]) (aC (aK (xs:=[enP t.1,enP t.2]) 0xc e1) (aC (aK (xs:=[enP t.1,enP t.2]) 0xc e2) rfl)) RZ,rfl⟩,eI,bP]
  rfl
 refine aL (ρ':=[.lst (P.map pcD),.lst (U.map bO),.int r,.lst ((U.map norm).map bO)]) (bI (i:=3) (i_ (jZ rfl rfl) (by rw[aI];exact hl) hf)) ?_;refine fX (d:=dR (dI P) (dU (U.map norm)) r) (c7 (xs:=[.tup ((dI P).map pcD),.tup ((dU (U.map norm)).map bO),.int r]) (aC (aK (xs:=[.lst ((dI P).map pcD)]) (aC (aK (xs:=[.lst (P.map pcD)]) 0xd (zZ P)) rfl) rfl) (aC (aK (xs:=[.lst ((dU (U.map norm)).map bO)]) (aC (aK (xs:=[.lst ((U.map norm).map bO)]) 0xd (xK _)) rfl) rfl) 0xd)) aS2) ?_;rw[xM];rfl
noncomputable def kvI(p:Pt):D×D:=(.int p.1,.int p.2)
def fz(Z:aa Pt)(n:ag):ag:=((Z.find? λp=>ϒ (p.1=n)).map (·.2)).getD 0
theorem rB(n:ag):∀(Z:aa Pt)(acc:aa (D×D)),(Z.map (·.1)).Nodup->bB (bT acc (Z.map kvI)) (.int n)=if n∈Z.map (·.1) then ae (.int (fz Z n)) else bB acc (.int n)
 |[],acc,_=>by simp[bT]
 |p::Z,acc,h=>by
  rw[bj,df] at h;show bB (bT (putD acc (.int p.1) (.int p.2)) (Z.map kvI)) (.int n)=_;rw[rB n Z _ h.2,j7];by_cases e:p.1=n
  .subst e;rw[aw h.1,av rfl,av 0x2];simp[fz]
  .have e2:fz (p::Z) n=fz Z n:=by simp[fz,iP,e]
   rw[aw e,e2];by_cases hm:n∈Z.map (·.1)
   .rw[av hm,av (by simp only[bj];exact bu _ hm)]
   .rw[aw hm,aw];intro z;rcases bq.mp z with z|z
    .exact e z.symm
    .exact hm z
def WK(nd:aa (D×D))(M:aa ag)(nf:ag->ag):Prop:=∀n,n=0\/n∈M->bB nd (.int n)=ae (.int (nf n))
def nfZ(Z:aa Pt)(n:ag):ag:=if n=0 then 0 else fz Z n
def aSn(h:(Z.map (·.1)).Nodup):WK (putD (bT [] (Z.map kvI)) (.int 0) (.int 0)) (Z.map (·.1)) (nfZ Z):=λn hn=>by
 rw[j7];unfold nfZ;by_cases e:n=0
 .subst e;rw[av rfl,av rfl]
 .rw[aw λz=>e z.symm,aw e,rB n Z _ h,av (hn.resolve_left e)]
def aSo(h:(Z.map (·.1)).Nodup)(h0:0∉Z.map (·.1)):WK (bT [(.int 0,.int 0)] (Z.map kvI)) (Z.map (·.1)) (nfZ Z):=λn hn=>by
 unfold nfZ;rw[rB n Z _ h];by_cases e:n=0
 .subst e;rw[aw h0,av rfl];rfl
 .rw[aw e,av (hn.resolve_left e)]
def WK.get(h:WK nd M nf)(hn:n=0\/n∈M):getD (.dct nd) (.int n)=.ok (.int (nf n)):=by
 show(if keyOk (.int n) then ι (bB nd (.int n)) else .bad)=_;rw[h n hn];rfl
noncomputable def cP(nf:ag->ag)(c:Pc):Pc:=(nf c.1,c.2)
noncomputable def cE(nf:ag->ag)(e:Pt):Pt:=(nf e.1,e.2)
def cT(nf:ag->ag)(t:Tie):Tie:=(cE nf t.1,cE nf t.2)
def Wf.tie{V:aa Tie}(w:Wf Q V)(h:t∈V):(t.1.1=0\/t.1.1∈Q.map (·.1))/\(t.2.1=0\/t.2.1∈Q.map (·.1)):=by
 rcases w.ok t h with ⟨h1,h2⟩|⟨h1,h2⟩
 .exact⟨.inl h1,h2⟩
 .exact⟨.inr h1,.inr h2⟩
def WL:∀Z:aa Pt,mL (Z.map enP)=ae (Z.map kvI)
 |[]=>rfl
 |p::Z=>by
  show(if fY (.int p.1)&&(δ p.2).pure then (mL (Z.map enP)).map ((δ p.1,δ p.2)::·) else ao)=_;rw[WL Z];rfl
def Y7{Q:aa Pc}(h:WK nd (Q.map (·.1)) nf)(hl:ρ.length=m)(hf:∀c∈Q,f (ρ++[.int c.1,.str c.2])=.ok (pcD (cP nf c))):sG (tZ m (O4 2) iU f aj ρ) [] (Q.map pcD)=.ok ((Q.map (cP nf)).map pcD) :=by
 rw[jU _ pcD (λc=>pcD (cP nf c)) Q [] λacc c hc=>by
  exact qI (b:=af) hl rfl rfl λ_=>⟨hf c hc,rfl⟩,eI,bP]
 rfl
def aF2{V:aa Tie}(hl:ρ.length=m)(hf:∀t∈V,f (ρ++[enP t.1,enP t.2])=.ok (bO (cT nf t))):sG (tZ m (O4 2) iU f aj ρ) [] (V.map bO)=.ok ((V.map (cT nf)).map bO):=by
 rw[jU _ bO (λt=>bO (cT nf t)) V [] λacc t ht=>by
  exact qI (b:=af) hl rfl rfl λ_=>⟨hf t ht,rfl⟩,eI,bP]
 rfl
def qM(h:a ρ=.ok (.tup xs))(hp:θ xs=af):dN a aj ρ=.ok (xs,af):=by
 have:=jZ (fr:=aj) h (show rG (.tup xs)=.ok xs from rfl);rw[this,nr,D.pure,hp]
def lV(Q:aa Pc)(V:aa Tie)(r:ag)(nf:ag->ag):D:=dR (dI (Q.map (cP nf))) (dU ((V.map (cT nf)).map norm)) r
theorem aF3{net:D}{Q:aa Pc}{V:aa Tie}{r:ag}{Z:aa Pt}{md nd:aa (D×D)}{nf:ag->ag}(w:Wf Q V)(e0:getD net (.int 0)=.ok (.tup (Q.map pcD)))(e1:getD net (.int 1)=.ok (.tup (V.map bO)))(e2:getD net (.int 2)=.ok (.int r))(hu:net≠.uD)
 (hd:F_ (.lst (Z.map enP))=.ok (.dct md))(hmp:θ (md.map (·.2))=af)(hml:md.length<=40)(hfit:rC md (.int 0)=af)(hnd:putD md (.int 0) (.int 0)=nd)(hN:WK nd (Q.map (·.1)) nf):b_ 2 dH [net,.lst (Z.map enP)]=.ok (lV Q V r nf):=by
 have hb:∀(x1 x2 x3 x4:D),kJ 0 [net,x1,x2,x3,x4]=.ok net:=λ_ _ _ _=>fC rfl hu
 have hc1:(fJ 5 (dN (b2 getD dG fU) aj) (O4 2) iU (iT (aD (b2 getD g_ fZ) (aD mX aX))) aj) [net,.lst (Z.map enP),.dct nd,.uD,.uD]=.ok (.lst ((Q.map (cP nf)).map pcD)):=
  i_ (qM (aJ (hb _ _ _ _) rfl e0) (zO Q)) (by have:=w.ql;rw[aI] at this ⊢;rw[a_];lia) (Y7 hN rfl λc hc=>c7 (xs:=[.int (nf c.1),.str c.2]) (aC (aJ rfl rfl (hN.get (.inr (aT.mpr ⟨c,hc,rfl⟩)))) 0xd) RZ)
 have hc2:(fJ 5 (dN (b2 getD dG gK) aj) (O4 2) iU (iT (aD (iT (aD (b2 getD g_ (b2 getD fZ fU)) (aD (b2 getD fZ gK) aX))) (aD (iT (aD (b2 getD g_ (b2 getD mX fU)) (aD (b2 getD mX gK) aX))) aX))) aj) [net,.lst (Z.map enP),.dct nd,.lst ((Q.map (cP nf)).map pcD),.uD]=.ok (.lst ((V.map (cT nf)).map bO)):=
  i_ (qM (aJ (hb _ _ _ _) rfl e1) (jB V)) (by have:=w.vl;rw[aI,a_];lia) (aF2 rfl λt ht=>c7 (xs:=[enP (cE nf t.1),enP (cE nf t.2)]) (aC (c7 (xs:=[.int (nf t.1.1),.int t.1.2]) (aC (aJ (y:=.int t.1.1) rfl (aJ rfl rfl rfl) (hN.get (w.tie ht).1)) (aC (aJ rfl rfl rfl) rfl)) RZ) (aC (c7 (xs:=[.int (nf t.2.1),.int t.2.2]) (aC (aJ (y:=.int t.2.1) rfl (aJ rfl rfl rfl) (hN.get (w.tie ht).2)) (aC (aJ rfl rfl rfl) rfl)) RZ) rfl)) RZ)
 refine(cQ rfl).trans (call_v ?_);refine aL (ρ':=[net,.lst (Z.map enP),.dct md,.uD,.uD]) (cF (i:=2) (aAi rfl hd) hmp) ?_;refine aL (ρ':=[net,.lst (Z.map enP),.dct nd,.uD,.uD]) ((oV (i:=2) (kvs:=md) (k:=.int 0) (d:=.int 0) rfl rfl rfl (by rw[a_];lia) hfit rfl).trans (by rw[hnd];rfl)) ?_;refine aL (ρ':=[net,.lst (Z.map enP),.dct nd,.lst ((Q.map (cP nf)).map pcD),.uD]) (bI (i:=3) hc1) ?_;refine aL (ρ':=[net,.lst (Z.map enP),.dct nd,.lst ((Q.map (cP nf)).map pcD),.lst ((V.map (cT nf)).map bO)]) (bI (i:=4) hc2) ?_;exact fX (aK (xs:=[.lst ((Q.map (cP nf)).map pcD),.lst ((V.map (cT nf)).map bO),.int r]) (aC rfl (aC rfl (aC (aJ (hb _ _ _ _) rfl e2) rfl))) (WF r (by have:=w.vl;rw[aI,a_];lia))) rfl
def R0(x:ag):∀{kvs:aa (D×D)},θ (kvs.map (·.2))=af->θ ((putD kvs (.int x) (.int i)).map (·.2))=af
 |[],_=>rfl
 | (k,v)::r,h=>by
  rw[bj,θ,bn] at h;show θ ((if eqD k (.int x) then (k,δ i)::r else (k,v)::putD r (.int x) (.int i)).map (·.2))=af;split
  .rw[bj,θ,h.2];rfl
  .rw[bj,θ,R0 x h.2,jn];exact h.1
theorem merge_inv:∀(Z:aa Pt)(acc:aa (D×D)),θ (acc.map (·.2))=af->(∀y:ag,rC acc (.int y)=af)->θ ((bT acc (Z.map kvI)).map (·.2))=af/\(∀y:ag,rC (bT acc (Z.map kvI)) (.int y)=af)/\(bT acc (Z.map kvI)).length<=acc.length+Z.length
 |[],acc,h1,h2=>⟨h1,h2,bi _⟩
 |p::Z,acc,h1,h2=>by
  obtain⟨i1,i2,i3⟩:=merge_inv Z (putD acc (.int p.1) (.int p.2)) (R0 p.1 h1) (V9 h2);have:=MK p.1 (.int p.2) acc;exact⟨i1,i2,du i3 (by rw[cr];lia)⟩
def WM(y:ag):rC [] (.int y)=af:=rfl
def aPz(y:ag):rC [(.int 0,.int 0)] (.int y)=af:=rfl
theorem Y8{V:aa Tie}(w:Wf Q V)(e0:getD net (.int 0)=.ok (.tup (Q.map pcD)))(e1:getD net (.int 1)=.ok (.tup (V.map bO)))(e2:getD net (.int 2)=.ok (.int r))(hu:net≠.uD)(hZ:Z.map (·.1)=Q.map (·.1))(hw:b_ 1 vI [net]=.ok (.lst (Z.map enP))):b_ 1 uG [net]=.ok (lV Q V r (nfZ Z)):=by
 have hl:Z.length<=40:=by have:=cz gh hZ;rw[aI] at this;have:=w.ql;lia
 obtain⟨i1,i2,i3⟩:=merge_inv Z [] rfl WM;have hd:F_ (.lst (Z.map enP))=.ok (.dct (bT [] (Z.map kvI))):=by
  show(match mL (Z.map enP) with|some ps=>if ϒ ((Z.map enP).length<=1000) then τ (D.dct (bT [] ps)) else .bad|none=>.bad)=_;rw[WL];show(if ϒ ((Z.map enP).length<=1000) then τ (D.dct (bT [] (Z.map kvI))) else .bad)=_;rw[cm (by rw[aI];lia),av rfl]
 have hN:=aSn (by rw[hZ];exact w.nd);rw[hZ] at hN;have hr:=aF3 w e0 e1 e2 hu hd i1 (by rw[e9] at i3;lia) (i2 0) rfl hN;refine(cQ rfl).trans (call_v (fX (aK (aC (fC rfl hu) (aC (aK (aC (fC rfl hu) rfl) hw) rfl)) hr) rfl))
theorem z_{V:aa Tie}{r:ag}{nd:aa (D×D)}{nf:ag->ag}(w:Wf Q V)(e0:getD net (.int 0)=.ok (.tup (Q.map pcD)))(e1:getD net (.int 1)=.ok (.tup (V.map bO)))(e2:getD net (.int 2)=.ok (.int r))(hu:net≠.uD)(hN:WK nd (Q.map (·.1)) nf):b_ 2 eY [net,.dct nd]=.ok (lV Q V r nf):=by
 have hb:∀(x1 x2 x3 x4 x5:D),kJ 0 [net,x1,x2,x3,x4,x5]=.ok net:=λ_ _ _ _ _=>fC rfl hu
 have vl:=w.vl;have hc1:(fJ 6 (dN (b2 getD dG fU) aj) (O4 2) iU (iT (aD (b2 getD fW mX) (aD vU aX))) aj) [net,.dct nd,.uD,.uD,.uD,.uD]=.ok (.lst ((Q.map (cP nf)).map pcD)):=
  i_ (qM (aJ (hb _ _ _ _ _) rfl e0) (zO Q)) (by have:=w.ql;rw[aI] at this ⊢;rw[a_];lia) (Y7 hN rfl λc hc=>c7 (aC (aJ rfl rfl (hN.get (.inr (aT.mpr ⟨c,hc,rfl⟩)))) 0xd) RZ)
 generalize hS:(dI (Q.map (cP nf))).map pcD=SP;have hs1:=zZ (Q.map (cP nf)) ;rw[hS] at hs1;obtain⟨ρ,h1,x4,x5,rfl⟩:=bW (t:=tgN [4,5]) (body:=cbd) (d:=bO) (I:=λys ρ=>∃x4 x5,ρ=[net,.dct nd,.lst SP,.lst (((ys.map (cT nf)).map norm).map bO),x4,x5]) V (λys t zs ρ e ⟨x4,x5,h⟩=>by
  subst h;have ht:t∈V:=by rw[e];simp
  have hyl:ys.length<=1000:=by rw[e] at vl;simp at vl;lia
  have b1:=DP .lt (cE nf t.1) (cE nf t.2) ltP qG;have b2':=DP .gt (cE nf t.1) (cE nf t.2) (λx y=>ltP y x) Q_;generalize hT:((ys.map (cT nf)).map norm).map bO=T;have hTl:T.length=ys.length:=by rw[<-hT];simp
  refine⟨[net,.dct nd,.lst SP,.lst T,enP t.1,enP t.2],[net,.dct nd,.lst SP,.lst (T++[bO (norm (cT nf t))]),enP (cE nf t.1),enP (cE nf t.2)],rfl,?_,enP (cE nf t.1),enP (cE nf t.2),?_⟩
  .refine aL (ρ':=[net,.dct nd,.lst SP,.lst T,enP (cE nf t.1),enP t.2]) (sW (i:=4) (c7 (xs:=[.int (nf t.1.1),.int t.1.2]) (aC (aJ (y:=.int t.1.1) rfl (aJ rfl rfl rfl) (hN.get (w.tie ht).1)) (aC (aJ rfl rfl rfl) rfl)) RZ) rfl) ?_;refine aL (ρ':=[net,.dct nd,.lst SP,.lst T,enP (cE nf t.1),enP (cE nf t.2)]) (sW (i:=5) (c7 (xs:=[.int (nf t.2.1),.int t.2.2]) (aC (aJ (y:=.int t.2.1) rfl (aJ rfl rfl rfl) (hN.get (w.tie ht).2)) (aC (aJ rfl rfl rfl) rfl)) RZ) rfl) ?_;exact jL (i:=3) (xs:=T) (d:=bO (norm (cT nf t))) (c7 (xs:=[enP (norm (cT nf t)).1,enP (norm (cT nf t)).2]) (aC (aK (xs:=[enP (cE nf t.1),enP (cE nf t.2)]) 0xc b1) (aC (aK (xs:=[enP (cE nf t.1),enP (cE nf t.2)]) 0xc b2') rfl)) RZ) rfl (by rw[hTl,a_];lia) rfl
  .rw[cu,cu,cu,hT];rfl) (ρ:=[net,.dct nd,.lst SP,.lst [],.uD,.uD]) ⟨_,_,rfl⟩
 have hs2:=xK ((V.map (cT nf)).map norm) ;generalize hU: ((V.map (cT nf)).map norm).map bO=UT at h1 hs2;refine(cQ rfl).trans (call_v ?_);refine aL (ρ':=[net,.dct nd,.lst SP,.uD,.uD,.uD]) (bI (i:=2) (aK (xs:=[.lst ((Q.map (cP nf)).map pcD)]) (aC hc1 rfl) hs1)) ?_;refine aL (ρ':=[net,.dct nd,.lst SP,.lst [],.uD,.uD]) (cF (i:=3) rfl rfl) ?_;refine aL (jK (qM (aJ (hb _ _ _ _ _) rfl e1) (jB V)) h1) ?_;have hd:lV Q V r nf=.tup [.tup SP,.tup ((dU ((V.map (cT nf)).map norm)).map bO),.int r]:=by unfold lV dR;rw[hS]
 have hp:(lV Q V r nf).pure=af:=xM _ _ _;rw[hd] at hp ⊢;generalize (dU ((V.map (cT nf)).map norm)).map bO=VT at hs2 hp ⊢;refine fX (d:=.tup [.tup SP,.tup VT,.int r]) (c7 (xs:=[.tup SP,.tup VT,.int r]) (aC (aK (xs:=[.lst SP]) 0xd rfl) (aC (aK (xs:=[.lst VT]) (aC (aK (xs:=[.lst UT]) 0xd hs2) rfl) rfl) (aC (aJ (hb _ _ _ _ _) rfl e2) rfl))) aS2) ?_;rw[hp];rfl
def R1:∀p:aa ag,nT (p.map δ) (p.map δ)=af
 |[]=>rfl
 |x::p=>by
  show(eqD (.int x) (.int x)&&nT (p.map δ) (p.map δ))=af;rw[R1 p,d_,cm rfl];rfl
def aMg(p:aa ag):dC .ne (.lst (p.map δ)) (.lst (p.map δ))=.ok (.bl aj):=by
 show(if μ 11 (p.map δ)&&μ 11 (p.map δ) then τ (π (!nT (p.map δ) (p.map δ))) else .bad)=_;rw[rA,R1];rfl
def ne_int(a:ag):dC .ne (.int a) (.int a)=.ok (.bl aj):=by
 show τ (π (!eqD (.int a) (.int a)))=_;rw[d_,cm rfl];rfl
theorem jD(e:bh n=ys++k::zs):k=ys.length/\k<n:=by
 have h1:=cz (λl=>l[ys.length]?) e;have hl:ys.length<n:=by have:=cz gh e;simp at this;lia
 simp[hl] at h1;exact⟨h1.symm,by lia⟩
def vM(acc:aa (D×D))(Z:aa Pt)(p:Pt):bT acc ((Z++[p]).map kvI)=putD (bT acc (Z.map kvI)) (.int p.1) (.int p.2):=by
 unfold bT;rw[cu,wd];rfl
def R3(i:ag):b_ 1 jQ [.int i]=.ok (.bl af):=rfl
def wB(h:f ρ=.ok (.bl b)):bTr f ρ=.ok b:=aIt h rfl
def A_(x y:Pt)(h:x≠y):norm (y,x)=norm (x,y):=by
 have tot:ltP x y\/ltP y x:=by
  obtain⟨a1,a2⟩:=x;obtain⟨c1,c2⟩:=y;simp only[ltP];have:a1≠c1\/a2≠c2:=by
   by_cases h1:a1=c1
   .exact .inr λh2=>h (by rw[h1,h2])
   .exact .inl h1
  lia
 unfold norm;rcases tot with z|z
 .have:=irr _ _ z;simp[z,this]
 .have:=irr _ _ z;simp[z,this]
def nmQ(Q:aa Pc)(n:ag):Str:=((Q.find? λc=>ϒ (c.1=n)).map (·.2)).getD ""
def aF4(h:Q.Pairwise LtN)(hp:pc∈Q):nmQ Q pc.1=pc.2:=by
 unfold nmQ;rw[zW h hp];rfl
noncomputable def GX:aa ag->aa Pt
 |a::b::l=>(a,b)::GX l
 |_=>[]
def aMh:D->aa Pt
 |.scr (.str _::l)=>GX (l.map unI)
 |_=>[]
def aTp:D->Str
 |.scr (.str s::_)=>s
 |_=>""
def R4(R:aa ag):∀es:aa Pt,GX (rwl R es)=es.map λe=>(plc R e.1,e.2)
 |[]=>rfl
 |e::es=>by
  show GX (plc R e.1::e.2::rwl R es)=_;rw[GX,R4 R es];rfl
def aHs(nm:ag->Str)(E:ag->aa Pt)(R:aa ag)(c:ag):aMh (rowOf nm E R c)=(E c).map λe=>(plc R e.1,e.2):=by
 show GX (((rwl R (E c)).map δ).map unI)=_;rw[bP];have:(rwl R (E c)).map (unI ∘ δ)=rwl R (E c):=by
  conv=>rhs;rw[<-gq (rwl R (E c))]
  exact dh λt _=>rfl
 rw[this,R4]
noncomputable def sh(off:ai)(y:ag):ag:=if y=0 then 0 else (off:ag)+y
def aHt(off:ai)(rows:aa D):aa Tie:=rows.zipIdx.flatMap λx=>(aMh x.1).zipIdx.map λy=>norm (((off:ag)+x.2+1,(y.2:ag)),(sh off y.1.1,y.1.2))
def aMi:ai->aa (aa D)->aa Tie
 |_,[]=>[]
 |off,rows::SR=>aHt off rows++aMi (off+rows.length) SR
def R5(E:ag->aa Pt)(O:aa ag)(n:ag):aa Tie:=(E n).zipIdx.map λy=>norm ((plc O n,(y.2:ag)),cE (plc O) y.1)
theorem aF5(hn:(A++R++C).Nodup)(hx:x=0\/x∈R):plc (A++R++C) x=sh A.length (plc R x):=by
 unfold sh plc;by_cases h0:x=0
 .rw[av h0,av h0,av rfl]
 .have hxR:=hx.resolve_left h0;rw[aw h0,aw h0,aw 0x1];have hA:x∉A:=λz=>by
   rw[c6] at hn;exact(fg.mp hn).2.2 x z x (eg _ hxR) rfl
  rw[ou,av (en _ hxR),ou,aw hA]
  push_cast
  lia
theorem aHu{E:ag->aa Pt}(hn:(A++R++C).Nodup)(hz:∀x∈R,x≠0)(cl:∀x∈R,∀e∈E x,e.1=0\/e.1∈R):aHt A.length (rowsOf nm E R)=R.flatMap (R5 E (A++R++C)):=by
 have hR:R.Nodup:=(fg.mp (fg.mp hn).1).2.1;unfold aHt rowsOf;have e1:R.flatMap (R5 E (A++R++C))=R.zipIdx.flatMap λx=>R5 E (A++R++C) x.1:=by
  conv=>lhs;rw[show R=R.zipIdx.map (·.1) from (Cd 0 R).symm]
  rw[mE,Cd]
 rw[e1,Ce,mE];have key:∀{α β:Type}{l:aa α}{f g:α->aa β},(∀x∈l,f x=g x)->l.flatMap f=l.flatMap g:=by
  intro α β l f g;induction l with
  |nil=>intro _;rfl
  |cons a l ih=>
   intro h;rw[ie,ie,h a (bw ..),ih λx hx=>h x (bu _ hx)]
 refine key λx hx=>?_
 obtain⟨n,i⟩:=x;have hxi:R[i]?=ae n:=by simpa using tf.mp hx
 have hnR:n∈R:=lu hxi;have hpl:plc R n=(i:ag)+1:=by
  unfold plc;rw[aw (hz n hnR)];obtain⟨hi,e⟩:=dz.mp hxi;rw[<-e,hR.idxOf_getElem i hi]
 have hpo:plc (A++R++C) n=(A.length:ag)+i+1:=by
  rw[aF5 hn (.inr hnR),hpl];unfold sh;rw[aw 0x1];lia
 show(aMh (rowOf nm E R n)).zipIdx.map (λy=>norm (((A.length:ag)+i+1,(y.2:ag)),(sh A.length y.1.1,y.1.2)))=R5 E (A++R++C) n;unfold R5;rw[aHs,Ce,bP,hpo];refine dh λy hy=>?_
 have hyE:y.1∈E n:=by
  have:=tf.mp hy;exact lu this
 show norm (((A.length:ag)+i+1,(y.2:ag)),(sh A.length (plc R y.1.1),y.1.2))=norm (((A.length:ag)+i+1,(y.2:ag)),(plc (A++R++C) y.1.1,y.1.2));rw[aF5 hn (cl n hnR _ hyE)]
theorem M5{E:ag->aa Pt}:∀(SL:aa (aa D×aa ag))(A:aa ag),(A++SL.flatMap (·.2)).Nodup->(∀x∈SL,x.1=rowsOf nm E x.2)->(∀x∈SL,∀n∈x.2,n≠0/\∀e∈E n,e.1=0\/e.1∈x.2)->aMi A.length (SL.map (·.1))=(SL.flatMap (·.2)).flatMap (R5 E (A++SL.flatMap (·.2)))
 |[],A,_,_,_=>rfl
 |x::SL,A,hn,h1,h2=>by
  have e:A++(x::SL).flatMap (·.2)=A++x.2++SL.flatMap (·.2):=by rw[ie,c6]
  rw[e] at hn ⊢;show aHt A.length x.1++aMi (A.length+x.1.length) (SL.map (·.1))=(x.2++SL.flatMap (·.2)).flatMap _;have hl:A.length+x.1.length=(A++x.2).length:=by rw[h1 x (bw ..),rowsOf,aI,cb]
  rw[hl,M5 SL (A++x.2) hn (λy hy=>h1 y (bu _ hy)) (λy hy=>h2 y (bu _ hy)),kr]
  congr 1
  rw[h1 x (bw ..)];exact aHu hn (λn hn=>(h2 x (bw ..) n hn).1) λn hn=>(h2 x (bw ..) n hn).2
noncomputable def enS:ai->aa Str->aa Pc
 |_,[]=>[]
 |m,s::l=>(((m:ag)+1),s)::enS (m+1) l
theorem aJ3:∀(B A:aa ag),(A++B).Nodup->(∀x∈B,x≠0)->enS A.length (B.map nm)=B.map λn=>(plc (A++B) n,nm n)
 |[],A,_,_=>rfl
 |b::B,A,hn,hz=>by
  have e:A++b::B=(A++[b])++B:=by simp
  have hb:b∉A:=λz=>(fg.mp hn).2.2 b z b (bw ..) rfl
  have hp:plc (A++b::B) b=(A.length:ag)+1:=by
   unfold plc;rw[aw (hz b (bw ..)),ou,aw hb];simp
  rw[bj,enS,bj,hp,e];have ih:=aJ3 (nm:=nm) B (A++[b]) (by rw[<-e];exact hn) λx hx=>hz x (bu _ hx)
  rw[cb,iO] at ih;rw[ih]
def R6(h:U.Perm W):dI U=dI W:=by
 unfold dI
 congr 1
 refine oN (λd hd=>?_) ((b7 _).trans ((h.map pcD).trans (b7 _).symm)) (dY _) (dY _);obtain⟨c,_,rfl⟩:=aT.mp ((b7 _).mem_iff.mp hd);rfl
def M6{E:ag->aa Pt}:∀(SL:aa (aa D×aa ag)),(∀x∈SL,x.1=rowsOf nm E x.2)->(SL.flatMap (·.2)).map nm=((SL.map (·.1)).flatten).map aTp
 |[],_=>rfl
 |x::SL,h=>by
  rw[ie,cu,M6 SL λy hy=>h y (bu _ hy),bj,List.flatten_cons,cu]
  congr 1
  rw[h x (bw ..),rowsOf,bP];exact dh λc _=>rfl
theorem mR(t:Tie):norm t=t\/norm t=(t.2,t.1):=by
 unfold norm;by_cases h1:ltP t.1 t.2
 .have:=irr _ _ h1
  left;simp[h1,this]
 .by_cases h2:ltP t.2 t.1
  .right;simp[h1,h2]
  .left
   have e:t.1=t.2:=by
    unfold ltP at h1 h2;exact Prod.ext 0x1 0x1
   rw[aw h1,aw h2];exact Prod.ext rfl e
theorem Y9(h:t.1≠t.2):ltP (norm t).1 (norm t).2:=by
 have tot:ltP t.1 t.2\/ltP t.2 t.1:=by
  refine so λz=>h ?_
  rw[gS] at z;unfold ltP at z;exact Prod.ext 0x1 0x1
 unfold norm;rcases tot with z|z
 .have:=irr _ _ z;simp[z,this]
 .have:=irr _ _ z;simp[z,this]
def vN:∀U:aa Tie,(ends (U.map norm)).Perm (ends U)
 |[]=>.refl _
 |t::U=>by
  show((norm t).1::(norm t).2::ends (U.map norm)).Perm (t.1::t.2::ends U);have ih:=vN U;rcases mR t with e|e
  .rw[e];exact(ih.cons _).cons _
  .rw[e];exact(List.Perm.swap _ _ _).trans ((ih.cons _).cons _)
def aF6(nf:ag->ag):∀V:aa Tie,ends (V.map (cT nf))=(ends V).map (cE nf)
 |[]=>rfl
 |t::V=>by
  show cE nf t.1::cE nf t.2::ends (V.map (cT nf))=cE nf t.1::cE nf t.2::(ends V).map (cE nf);rw[aF6 nf V]
def GZ:∀{T:aa Tie},(ends T).Nodup->T.Nodup
 |[],_=>ic
 |t::T,h=>by
  rw[zU,df,df] at h;refine df.mpr ⟨λz=>h.1 (bu _ (nQ z).1),GZ h.2.2⟩
def vO{V:aa Tie}(w:Net kvs Q V)(h:e∈ends V):e.1=0\/e.1∈Q.map (·.1):=by
 obtain⟨S,_,_,p⟩:=w.rims;rcases cw.mp (p.mem_iff.mp h) with h|h
 .obtain⟨pc,h1,h2,_⟩:=K9.mp h;exact .inr (aT.mpr ⟨pc,h1,h2⟩)
 .obtain⟨s,_,rfl⟩:=aT.mp h;exact .inl rfl
structure Nf(nf:ag->ag)(M:aa ag):Prop where
 z:nf 0=0
 pos:∀x∈M,0<nf x
 inj:∀x∈M,∀y∈M,nf x=nf y->x=y
theorem Nf.aQ0(h:Nf nf M)(hx:x=0\/x∈M)(hy:y=0\/y∈M)(e:nf x=nf y):x=y:=by
 rcases hx with rfl|hx
 .rcases hy with rfl|hy
  .rfl
  .have:=h.pos y hy;rw[h.z] at e;lia
 .rcases hy with rfl|hy
  .have:=h.pos x hx;rw[h.z] at e;lia
  .exact h.inj x hx y hy e
section
variable {kvs:aa (D×D)} {Q:aa Pc} {V:aa Tie} {nf:ag->ag}
def Y_(w:Net kvs Q V)(h:Nf nf (Q.map (·.1))):((ends V).map (cE nf)).Nodup:=by
 refine d4.mpr (w.nd.imp_of_mem λ{a b} ha hb hab e=>hab ?_);exact Prod.ext (h.aQ0 (vO w ha) (vO w hb) (cz n9 e)) (cz (λp:Pt=>p.2) e:(cE nf a).2=(cE nf b).2)
def ZC(w:Net kvs Q V)(h:Nf nf (Q.map (·.1))):(ends ((V.map (cT nf)).map norm)).Perm ((ends V).map (cE nf)):=by
 rw[<-aF6];exact vN _
def R7(w:Net kvs Q V)(h:Nf nf (Q.map (·.1))): ((V.map (cT nf)).map norm).Nodup:=GZ ((ZC w h).nodup_iff.mpr (Y_ w h))
def aQ1(U:aa Pc):(hks kvs U).map (cE nf)=hks kvs (U.map (cP nf)):=by
 unfold hks;rw[ov,mE]
 congr 1
 funext c
 unfold aH6;rw[bP];rfl
def aMj(h:Nf nf (Q.map (·.1)))(S:aa ag):(S.map rim).map (cE nf)=S.map rim:=by
 rw[bP];refine dh λs _=>?_
 show(nf 0,s)=(0,s);rw[h.z]
theorem R8(h:(U.map (·.1)).Nodup):(dI U).Pairwise LtN:=by
 have hs:=dY (U.map pcD);rw[<-Y6] at hs;have h1:=d4.mp hs;have h2:(dI U).Pairwise λa b=>a.1≠b.1:=d4.mp (((eE U).map _).nodup_iff.mpr h)
 refine Cc ?_ h1 h2;intro a b z1 z2;obtain⟨k,e1,e2⟩:=aDv b a;have hk:=yI (pcD b) (pcD a) k rfl rfl e1;rw[e2 λz=>z2 z.symm] at hk;simp only[leE,jk,kX] at z1;unfold LtN;have:¬b.1<a.1:=λq=>z1 (fq (by rw[<-hk];exact cm q))
 lia
def aHv(h:U.Perm W):(hks kvs U).Perm (hks kvs W):=qL _ h
theorem BJ(w:Net kvs Q V)(h:Nf nf (Q.map (·.1))):Net kvs (dI (Q.map (cP nf))) (dU ((V.map (cT nf)).map norm)):=by
 have wf:=w.wf;obtain⟨S,s1,s2,s3⟩:=w.rims;have pE:(ends (dU ((V.map (cT nf)).map norm))).Perm ((ends V).map (cE nf)):=(zQ (bV _)).trans (ZC w h);have hfst: (Q.map (cP nf)).map (·.1)=(Q.map (·.1)).map nf:=by rw[bP,bP];rfl
 have hnd:((Q.map (cP nf)).map (·.1)).Nodup:=by
  rw[hfst];exact d4.mpr (wf.nd.imp_of_mem λ{a b} ha hb hab e=>hab (h.inj a ha b hb e))
 refine⟨pE.nodup_iff.mpr (Y_ w h),by rw[(bV _).length_eq,aI,aI];exact w.small,R8 hnd,λpc hp=>?_,by rw[(eE _).length_eq,aI];exact w.ql,λpc hp=>?_,λt ht=>?_,gW _,S,s1,s2,?_⟩
 .obtain⟨c,hc,rfl⟩:=aT.mp ((eE _).mem_iff.mp hp);exact h.pos c.1 (aT.mpr ⟨c,hc,rfl⟩)
 .obtain⟨c,hc,rfl⟩:=aT.mp ((eE _).mem_iff.mp hp);exact w.sk c hc
 .obtain⟨u,hu,rfl⟩:=aT.mp ((bV _).mem_iff.mp ht);obtain⟨v,hv,rfl⟩:=aT.mp hu;refine Y9 λe=>?_
  have hm:=nQ hv;have hne:v.1≠v.2:=λz=>by have:=w.lt v hv;rw[z] at this;unfold ltP at this;lia
  exact hne (Prod.ext (h.aQ0 (vO w hm.1) (vO w hm.2) (cz n9 e)) (cz (λp:Pt=>p.2) e:(cE nf v.1).2=(cE nf v.2).2))
 .refine pE.trans ((s3.map _).trans ?_);rw[cu,aQ1,aMj h];exact(aHv (eE _).symm).append_right _
def aHw(w:Net kvs Q V)(h:Nf nf (Q.map (·.1)))(ht:BP V e f):BP (dU ((V.map (cT nf)).map norm)) (cE nf e) (cE nf f):=by
 have key:∀t∈V,(norm (cT nf t))∈dU ((V.map (cT nf)).map norm) :=λt ht=>(bV _).mem_iff.mpr (aT.mpr ⟨cT nf t,aT.mpr ⟨t,ht,rfl⟩,rfl⟩)
 rcases ht with z|z
 .have:=key _ z;rcases mR (cT nf (e,f)) with q|q
  .rw[q] at this;exact .inl this
  .rw[q] at this;exact .inr this
 .have:=key _ z;rcases mR (cT nf (f,e)) with q|q
  .rw[q] at this;exact .inr this
  .rw[q] at this;exact .inl this
def aQ2(w:Net kvs Q V)(h:Nf nf (Q.map (·.1)))(he:e∈ends V):mt (dU ((V.map (cT nf)).map norm)) (cE nf e)=cE nf (mt V e):=MF (BJ w h).nd (aHw w h (zV w.nd he))
def aF7(hp:pc∈Q):cP nf pc∈dI (Q.map (cP nf)) :=(eE _).mem_iff.mpr (aT.mpr ⟨pc,hp,rfl⟩)
def aMk:y∈(dI (Q.map (cP nf))).map (·.1)↔∃x∈Q.map (·.1),nf x=y:=by
 rw[((eE _).map _).mem_iff,bP];simp only[aT];constructor
 .rintro⟨c,hc,rfl⟩;exact⟨c.1,⟨c,hc,rfl⟩,rfl⟩
 .rintro⟨x,⟨c,hc,rfl⟩,rfl⟩;exact⟨c,hc,rfl⟩
theorem aMl(w:Net kvs Q V)(h:Nf nf (Q.map (·.1))):Iso nf (Q.map (·.1)) (nmQ Q) (nmQ (dI (Q.map (cP nf)))) (ea kvs Q V) (ea kvs (dI (Q.map (cP nf))) (dU ((V.map (cT nf)).map norm))) where
 z:=h.z
 nz x hx:=by
  have:=h.pos x hx;have:=w.wf.qp x hx;lia
 inj:=h.inj
 nm x hx:=by
  obtain⟨c,hc,rfl⟩:=aT.mp hx;rw[aF4 w.qs hc];exact aF4 (BJ w h).qs (aF7 hc)
 ea x hx:=by
  obtain⟨c,hc,rfl⟩:=aT.mp hx;unfold ea;have e1:=V7 (kvs:=kvs) w.qs hc;have e2:vq kvs (dI (Q.map (cP nf))) (nf c.1)=vOf kvs c.2+1:=V7 (BJ w h).qs (aF7 hc);rw[e1,e2];have e3:(eA V c.1 (vOf kvs c.2+1)).map (λe=>((nf e.1,e.2):Pt))=(bh (vOf kvs c.2+1)).map λ(j:ai)=>cE nf (mt V (c.1,(j:ag))):=by unfold eA;rw[bP];rfl
  rw[e3];refine dh λj hj=>?_
  have hj':=jb.mp hj;exact aQ2 w h ((nR w hc j).mpr 0x1)
 cl x hx y hy:=lB w.wf x hx y ((RV w hx).mp hy)
end
theorem aHx{F:aa (aa ag)}(h0:getD net (.int 0)=.ok qd)(hu:net≠.uD)(hnm:y_ qd=.ok (.dct nk))(he:b_ 1 iJ [net]=.ok (.dct dk))(hp:b_ 1 vH [net]=.ok (.lst (F.map pS)))
 (hF:F.length<=40)(hW:∀p∈F,jR (W p).1/\b_ 3 cU [.dct nk,.dct dk,pS p]=.ok (wk2 (W p)))(hl:((F.map W).flatMap (·.2)).length<=30) :
  ∃SL:aa (aa D×aa ag),SL.Perm (F.map W)/\(SL.map wk2).Pairwise (λa b=>leE a b=af)/\b_ 1 vI [net]=.ok (.lst ((mO (prs (SL.flatMap (·.2)))).map enP)):=by
 have hrow:∀x∈F.map W,jR x.1:=λx hx=>by
  obtain⟨p,hp,rfl⟩:=aT.mp hx;exact(hW p hp).1
 have hsrt:gB [.lst ((F.map W).map wk2)]=.ok (.lst (h_ ((F.map W).map wk2))):=by
  show(if bG ((F.map W).map wk2) then τ (ξ (h_ ((F.map W).map wk2))) else .bad)=_;rw[M3 hrow,av rfl]
 obtain⟨SL,pSL,eSL⟩:=xJ wk2 unW aPu (b7 ((F.map W).map wk2));rw[eSL] at hsrt;have hpw:=dY ((F.map W).map wk2);rw[eSL] at hpw;have hOl:(SL.flatMap (·.2)).length<=30:=by rw[(qL (·.2) pSL).length_eq];exact hl
 obtain⟨ρ1,e1,x5,x6,rfl⟩:=bW (t:=tgN [5,6]) (body:=aD9 4 mX) (d:=wk2) (I:=λys ρ=>∃x5 x6,ρ=wn net nk dk (.lst (SL.map wk2)) (.lst ((ys.flatMap (·.2)).map δ)) x5 x6) SL (λys a zs ρ e ⟨x5,x6,h⟩=>by
  subst h;have hl:(ys.flatMap (·.2)).length+a.2.length<=30:=by
   rw[e,kr,ie,cb,cb] at hOl;lia
  refine⟨wn net nk dk (.lst (SL.map wk2)) (.lst ((ys.flatMap (·.2)).map δ)) (.scr a.1) (.scr (a.2.map δ)),wn net nk dk (.lst (SL.map wk2)) (.lst (((ys++[a]).flatMap (·.2)).map δ)) (.scr a.1) (.scr (a.2.map δ)),rfl,?_,_,_,rfl⟩;refine(aMb (i:=4) (xs:=(ys.flatMap (·.2)).map δ) (ys:=a.2.map δ) rfl rfl (by rw[aI,aI,a_];lia) (eO _)).trans ?_;rw[kr,td,cu];rfl) (ρ:=wn net nk dk (.lst (SL.map wk2)) (.lst []) .uD .uD) ⟨_,_,rfl⟩
 generalize hO:SL.flatMap (·.2)=O at *;have hb:∀(x1 x2 x3 x4 x5 x6:D),kJ 0 [net,x1,x2,x3,x4,x5,x6]=.ok net:=λ_ _ _ _ _ _=>fC rfl hu
 have hc1:fJ 7 (dN (aP (b_ 1 vH) (aD dG aX)) af) HR iU (aP (b_ 3 cU) (aD fW (aD g_ (aD vU aX)))) af (wn net nk dk .uD .uD .uD .uD)=.ok (.lst ((F.map W).map wk2)):=i_ (xs:=F.map pS) (jZ (fr:=af) (d:=.lst (F.map pS)) (aK (xs:=[net]) (aC (hb _ _ _ _ _ _) rfl) hp) rfl) (by rw[aI,a_];lia) (aEy λp h=>(hW p h).2);have hen:(JD 1 (O.map δ)).length<=lim:=by
  rw[Y0,aI,<-aI (f:=(·.2)),aEv,a_];lia
 have hc2:fJ 7 (aD0 1 gD aj) (O4 2) iU (iT (aD uQ (aD vU aX))) aj (wn net nk dk (.lst (SL.map wk2)) (.lst (O.map δ)) x5 x6)=.ok (.lst ((prs O).map enP)):=i_ (xs:=JD 1 (O.map δ)) (kk:=aj) rfl hen aEz;refine⟨SL,pSL,hpw,(cQ rfl).trans ?_⟩;rw[hO];refine call_v ?_;refine aL (ρ':=[net,.dct nk,.uD,.uD,.uD,.uD,.uD]) (bI (i:=1) (aAi (aJ (hb _ _ _ _ _ _) rfl h0) hnm)) ?_;refine aL (ρ':=wn net nk dk .uD .uD .uD .uD) (bI (i:=2) (aK (xs:=[net]) (aC (hb _ _ _ _ _ _) rfl) he)) ?_;refine aL (ρ':=wn net nk dk (.lst (SL.map wk2)) .uD .uD .uD) (bI (i:=3) (aK (xs:=[.lst ((F.map W).map wk2)]) (aC hc1 rfl) hsrt)) ?_;refine aL (ρ':=wn net nk dk (.lst (SL.map wk2)) (.lst []) .uD .uD) (cF (i:=4) rfl rfl) ?_;refine aL (U7 (i:=3) (d:=.lst (SL.map wk2)) (xs:=SL.map wk2) rfl rfl e1) ?_;exact fX (aK (xs:=[.lst ((prs O).map enP)]) (aC hc2 rfl) (aAn (prs O))) rfl
structure Wy(kvs:aa (D×D))(Q:aa Pc)(V:aa Tie)(F:aa (aa ag))(k:aa ag->aa D)(SL:aa (aa D×aa ag)):Prop where
 pa:Pa (ea kvs Q V) (Q.map (·.1)) F
 fw:∀p∈F,FW (nmQ Q) (ea kvs Q V) p (k p)
 pm:(SL.flatMap (·.2)).Perm (Q.map (·.1))
 rw:∀x∈SL,x.1=rowsOf (nmQ Q) (ea kvs Q V) x.2
 cl:∀x∈SL,∀n∈x.2,n≠0/\∀e∈ea kvs Q V n,e.1=0\/e.1∈x.2
 sr:(SL.map (·.1)).Perm (F.map k)
 up:(SL.map wk2).Pairwise λa b=>leE a b=af
section
variable {kvs:aa (D×D)} {Q:aa Pc} {V:aa Tie} {r:ag}
theorem BK:∀(Q:aa Pc)(acc:aa (D×D))(n:ag),(Q.map (·.1)).Nodup->bB (bT acc (Q.map λc=>(δ c.1,ν c.2))) (.int n)=if n∈Q.map (·.1) then ae (.str (nmQ Q n)) else bB acc (.int n)
 |[],acc,n,_=>by simp[bT]
 |c::Q,acc,n,h=>by
  rw[bj,df] at h;show bB (bT (putD acc (.int c.1) (.str c.2)) (Q.map λc=>(δ c.1,ν c.2))) (.int n)=_;rw[BK Q _ n h.2,j7];by_cases e:c.1=n
  .subst e;rw[aw h.1,av rfl,av 0x2];simp[nmQ]
  .have e2:nmQ (c::Q) n=nmQ Q n:=by simp[nmQ,iP,e]
   rw[aw e,e2];by_cases hm:n∈Q.map (·.1)
   .rw[av hm,av (by simp only[bj];exact bu _ hm)]
   .rw[aw hm,aw];intro z;rcases bq.mp z with z|z
    .exact e z.symm
    .exact hm z
theorem aF8(w:Net kvs Q V):∃F k SL,Wy kvs Q V F k SL/\b_ 1 vI [dR Q V r]=.ok (.lst ((mO (prs (SL.flatMap (·.2)))).map enP)):=by
 have wf:=w.wf;have ql:=w.ql;obtain⟨F,ps,hF,hparts⟩:=aHi wf;have hz:∀p∈F,∀x∈p,x∈Q.map (·.1):=λp hp x hx=>ps.sub (λn h=>h) (lB wf) x (xi.mpr ⟨p,hp,hx⟩)
 have hgx:∀p∈F,GdX (nkD Q) (dE (Q.map (·.1)) (ea kvs Q V)) p (ea kvs Q V) (nmQ Q):=λp hp=>⟨(qK w ps hp).1,λz=>by have:=wf.qp 0 (hz p hp 0 z);lia,λx hx=>by
  unfold nkD;rw[BK Q [] x wf.nd,av (hz p hp x hx)]⟩
 have hch:∀p:aa ag,∃s0:ag,p∈F->(∃S,Sta (ea kvs Q V) p S/\s0∈S/\(∀s∈S,s∈p)/\∀s∈S,¬iQ (eQ (nmQ Q) (ea kvs Q V) p s)<iQ (eQ (nmQ Q) (ea kvs Q V) p s0))/\b_ 3 cU [.dct (nkD Q),.dct (dE (Q.map (·.1)) (ea kvs Q V)),pS p]=.ok (wk2 (eQ (nmQ Q) (ea kvs Q V) p s0,wlk (ea kvs Q V) p s0)):=λp=>by
  by_cases hp:p∈F
  .obtain⟨g,h1,h2,h3⟩:=qK w ps hp;obtain⟨S,s0,i1,i2,i3,i4,i5⟩:=aEs (hgx p hp) h1 h2 h3;exact⟨s0,λ_=>⟨⟨S,i1,i2,i3,i4⟩,i5⟩⟩
  .exact⟨0,λz=>bg z hp⟩
 obtain⟨s0,hs0⟩:=Da hch;have hin:∀p∈F,s0 p∈p:=λp hp=>by
  obtain⟨⟨S,_,i2,i3,_⟩,_⟩:=hs0 p hp;exact i3 _ i2
 have hperm:∀p∈F,(wlk (ea kvs Q V) p (s0 p)).Perm p:=λp hp=>YZ (qK w ps hp).1 (qK w ps hp).2.2.1 (hin p hp) ((qK w ps hp).2.2.2 _ (hin p hp))
 have pF:((F.map λp=>(eQ (nmQ Q) (ea kvs Q V) p (s0 p),wlk (ea kvs Q V) p (s0 p))).flatMap (·.2)).Perm (Q.map (·.1)):=(RW hperm).trans (zY ps.nd wf.nd λy=>⟨ps.sub (λn h=>h) (lB wf) y,ps.cv y⟩);obtain⟨SL,pSL,hup,hway⟩:=aHx rfl (λz=>by cases z) (aHr ql) (aLy w) hparts hF (λp hp=>⟨jT _ _ _,(hs0 p hp).2⟩) (by rw[pF.length_eq,aI];exact ql);have hmem:∀x∈SL,∃p∈F,x=(eQ (nmQ Q) (ea kvs Q V) p (s0 p),wlk (ea kvs Q V) p (s0 p)):=λx hx=>by
  obtain⟨p,hp,e⟩:=aT.mp (pSL.mem_iff.mp hx);exact⟨p,hp,e.symm⟩
 refine⟨F,λp=>eQ (nmQ Q) (ea kvs Q V) p (s0 p),SL,⟨⟨?_,λn hn=>xi.mp (ps.cv n hn),λp hp=>(qK w ps hp).2.1,λp hp=>?_,hz,λp hp=>(qK w ps hp).2.2.2⟩,λp hp=>?_,(qL (·.2) pSL).trans pF,λx hx=>?_,λx hx n hn=>?_,?_,hup⟩,hway⟩
 .exact ps.hd.imp λ{a b} h e=>by rw[e] at h;lia
 .obtain⟨n,q,e,_,h,_⟩:=ps.ea p hp;exact h
 .obtain⟨⟨S,i⟩,_⟩:=hs0 p hp;exact⟨S,s0 p,i.1,i.2.1,i.2.2.1,i.2.2.2,rfl⟩
 .obtain⟨p,hp,rfl⟩:=hmem x hx;rfl
 .obtain⟨p,hp,rfl⟩:=hmem x hx;have hnp:n∈p:=(hperm p hp).mem_iff.mp hn;refine⟨λz=>by have:=wf.qp n (hz p hp n hnp);lia,λe he=>?_⟩;have:=V_ ((qK w ps hp).1.cl n hnp) e he;exact this.imp id λz=>(hperm p hp).mem_iff.mpr z
 .have:=pSL.map (·.1);rw[bP] at this;exact this
def aF9{SL:aa (aa D×aa ag)}(hr:∀x∈SL,jR x.1)(h:(SL.map wk2).Pairwise λa b=>leE a b=af):(SL.map λx=>υ x.1).Pairwise λa b=>leE a b=af:=by
 refine d4.mpr ((d4.mp h).imp_of_mem λ{x y} hx hy z=>?_);simp only[leE,jk,kX] at z ⊢;intro q;refine z ?_;have hne:υ y.1≠υ x.1:=λe=>by rw[e] at q;exact bg q (mh _)
 have px:(υ x.1).plain=af:=jC (hr x hx);have py:(υ y.1).plain=af:=jC (hr y hy);show(2::1::(enc (.scr y.1)++iQ [.scr (y.2.map δ)]))<(2::1::(enc (.scr x.1)++iQ [.scr (x.2.map δ)]));rw[eL,eL];refine .inr ⟨rfl,.inr ⟨rfl,(W7 _ _ _ _ (λu e=>hne ?_) λu e=>hne ?_).mpr q⟩⟩
 .exact(oM _ _ u [] py px (by rw[e,eo])).1
 .exact(oM _ _ u [] px py (by rw[e,eo])).1.symm
end
theorem aJ4:∀(m:ai)(O:aa ag){n:ag},n∈O->((m:ag)+O.idxOf n,n)∈EP m O
 |m,o::O,n,h=>by
  rw[xk];by_cases e:o=n
  .subst e;simp[EP]
  .rw[show(o==n)=aj by simpa using e];have:=aJ4 (m+1) O ((bq.mp h).resolve_left λz=>e z.symm);refine bu _ ?_;have e2:((m:ag)+((bif aj then 0 else O.idxOf n+1:ai):ag))=(((m+1:ai):ag)+(O.idxOf n:ag)):=by
    show((m:ag)+((O.idxOf n+1:ai):ag))=_;lia
   rw[e2];exact this
def G3(h:(Z.map (·.1)).Nodup)(hp:p∈Z):fz Z p.1=p.2:=by
 induction Z with
 |nil=>cases hp
 |cons q Z ih=>
  rw[bj,df] at h;by_cases e:q.1=p.1
  .rcases bq.mp hp with rfl|hp
   .simp[fz]
   .have hm:p.1∈Z.map (·.1):=aT.mpr ⟨p,hp,rfl⟩;rw[<-e] at hm;exact bg hm h.1
  .have:fz (q::Z) p.1=fz Z p.1:=by simp[fz,iP,e]
   rw[this];exact ih h.2 ((bq.mp hp).resolve_left λz=>e (by rw[z]))
theorem aFa(hO:O.Nodup)(h:n=0\/n∈O):nfZ (mO (prs O)) n=plc O n:=by
 unfold nfZ plc;by_cases h0:n=0
 .rw[av h0,av h0]
 .rw[aw h0,aw h0];have hn:=h.resolve_left h0;have hm:((n,(O.idxOf n:ag)+1):Pt)∈mO (prs O):=by
   refine(mQ _).mem_iff.mpr (aT.mpr ⟨_,aJ4 1 O hn,?_⟩);exact Prod.ext rfl (by show((1:ai):ag)+_=_;lia)
  exact G3 (by rw[((mQ (prs O)).map _).nodup_iff,aEx];exact hO) hm
section
variable {kvs:aa (D×D)} {Q:aa Pc} {V:aa Tie} {r:ag}
def aAo(w:Net kvs Q V)(h:∀n,n=0\/n∈Q.map (·.1)->nf n=nf' n):lV Q V r nf=lV Q V r nf':=by
 have e1:Q.map (cP nf)=Q.map (cP nf'):=dh λc hc=>by
  unfold cP;rw[h c.1 (.inr (aT.mpr ⟨c,hc,rfl⟩))]
 have e2:V.map (cT nf)=V.map (cT nf'):=dh λt ht=>by
  unfold cT cE;rw[h _ (w.wf.tie ht).1,h _ (w.wf.tie ht).2]
 unfold lV;rw[e1,e2]
theorem aQ3(hO:O.Nodup)(hz:∀x∈O,x≠0):Nf (plc O) O where
 z:=rfl
 pos x hx:=by unfold plc;rw[aw (hz x hx)];lia
 inj x hx y hy e:=by
  unfold plc at e;rw[aw (hz x hx),aw (hz y hy)] at e;have e':O.idxOf x=O.idxOf y:=by lia
  have h1:=Cf (Cg hx);have h2:=Cf (Cg hy);rw[<-h1,<-h2]
  congr 1
def Nf.of(h:Nf nf M)(hs:∀x∈N,x∈M):Nf nf N:=⟨h.z,λx hx=>h.pos x (hs x hx),λx hx y hy=>h.inj x (hs x hx) y (hs y hy)⟩
def Wy.nd(w:Net kvs Q V)(y:Wy kvs Q V F k SL):(SL.flatMap (·.2)).Nodup:=y.pm.nodup_iff.mpr w.wf.nd
theorem Wy.nf(w:Net kvs Q V)(y:Wy kvs Q V F k SL):Nf (plc (SL.flatMap (·.2))) (Q.map (·.1)):=(aQ3 (y.nd w) λx hx=>by have:=w.wf.qp x (y.pm.mem_iff.mp hx);lia).of λx hx=>y.pm.mem_iff.mpr hx
theorem ZD(w:Net kvs Q V)(hO:O.Perm (Q.map (·.1)))(hN:Nf (plc O) (Q.map (·.1))):t∈(V.map (cT (plc O))).map norm↔(t∈V/\t.1.1=0/\t.2.1=0)\/t∈O.flatMap (R5 (ea kvs Q V) O):=by
 have wf:=w.wf;have z0:plc O 0=0:=rfl;have hne:∀{e f:Pt},BP V e f->cE (plc O) e≠cE (plc O) f:=λ{e f} ht z=>by
  have hm:=ht.mem;have:e=f:=Prod.ext (hN.aQ0 (vO w hm.1) (vO w hm.2) (cz (λp:Pt=>p.1) z:(cE (plc O) e).1=(cE (plc O) f).1)) (cz (λp:Pt=>p.2) z:(cE (plc O) e).2=(cE (plc O) f).2);subst this;rcases ht with q|q<;>exact irr _ _ (w.lt _ q) (w.lt _ q)
 have to:∀{n h:ag}{f:Pt},n∈Q.map (·.1)->BP V (n,h) f->norm (cE (plc O) (n,h),cE (plc O) f)∈O.flatMap (R5 (ea kvs Q V) O):=λ{n h f} hn ht=>by
  obtain⟨pc,hp,rfl⟩:=aT.mp hn;have hh:=(nR w hp h).mp ht.mem.1;refine ir.mpr ⟨pc.1,hO.mem_iff.mpr hn,aT.mpr ⟨(f,h.toNat),?_,?_⟩⟩
  .rw[tf];unfold ea eA;rw[V7 w.qs hp,iN,w8 0x1];show ae (mt V (pc.1,((h.toNat:ai):ag)))=ae f;rw[show((h.toNat:ai):ag)=h by lia,MF w.nd ht]
  .show norm ((plc O pc.1,((h.toNat:ai):ag)),cE (plc O) f)=_;rw[show((h.toNat:ai):ag)=h by lia];rfl
 constructor
 .intro ht;obtain⟨u,hu,rfl⟩:=aT.mp ht;obtain⟨v,hv,rfl⟩:=aT.mp hu;rcases wf.ok v hv with ⟨h1,h2|h2⟩|⟨h1,h2⟩
  .left
   have e:cT (plc O) v=v:=by
    unfold cT cE;rw[h1,h2,z0,<-h1];exact Prod.ext rfl (Prod.ext (by rw[h1,h2]) rfl)
   rw[e];have hl:=w.lt v hv;have e2:norm v=v:=by
    unfold norm;have:=irr _ _ hl;simp[hl,this]
   rw[e2];exact⟨hv,h1,h2⟩
  .right
   have hT:BP V (v.2.1,v.2.2) v.1:=.inr hv;have:=to h2 hT;rw[A_ _ _ (hne hT.symm)] at this;exact this
  .right
   exact to h1 (.inl hv)
 .rintro(⟨hv,h1,h2⟩|ht)
  .refine aT.mpr ⟨cT (plc O) t,aT.mpr ⟨t,hv,rfl⟩,?_⟩;have e:cT (plc O) t=t:=by
    unfold cT cE;rw[h1,h2,z0];exact Prod.ext (Prod.ext h1.symm rfl) (Prod.ext h2.symm rfl)
   rw[e];have hl:=w.lt t hv;unfold norm;have:=irr _ _ hl;simp[hl,this]
  .obtain⟨n,hn,ht⟩:=ir.mp ht;obtain⟨y,hy,rfl⟩:=aT.mp ht;obtain⟨pc,hp,rfl⟩:=aT.mp (hO.mem_iff.mp hn);rw[tf] at hy;have hlt:y.2<vOf kvs pc.2+1:=by
    have:=(dz.mp hy).1;unfold ea at this;rw[GP,V7 w.qs hp] at this;exact this
   unfold ea eA at hy;rw[V7 w.qs hp,iN,w8 hlt] at hy;have e:mt V (pc.1,(y.2:ag))=y.1:=by simpa using hy
   have hT:BP V (pc.1,(y.2:ag)) y.1:=by
    rw[<-e];exact zV w.nd ((nR w hp _).mpr 0x1)
   show norm (cE (plc O) (pc.1,(y.2:ag)),cE (plc O) y.1)∈_;rcases hT with q|q
   .exact aT.mpr ⟨_,aT.mpr ⟨_,q,rfl⟩,rfl⟩
   .rw[<-A_ _ _ (hne (.inr q))];exact aT.mpr ⟨_,aT.mpr ⟨_,q,rfl⟩,rfl⟩
def M7(w:Net kvs Q V)(hO:O.Perm (Q.map (·.1))):(Q.map (cP (plc O))).Perm (enS 0 (O.map (nmQ Q))):=by
 have hn:O.Nodup:=hO.nodup_iff.mpr w.wf.nd;have e:=aJ3 (nm:=nmQ Q) O [] hn λx hx=>by have:=w.wf.qp x (hO.mem_iff.mp hx);lia
 rw[e9,eI] at e;rw[e];have e2:Q.map (cP (plc O))=(Q.map (·.1)).map λn=>(plc O n,nmQ Q n):=by
  rw[bP];refine dh λc hc=>?_
  show(plc O c.1,c.2)=(plc O c.1,nmQ Q c.1);rw[aF4 w.qs hc]
 rw[e2];exact(hO.map _).symm
end
theorem aFb{V V':aa Tie}{F F':aa (aa ag)}{k k':aa ag->aa D}{SL SL':aa (aa D×aa ag)}(w:Net kvs Q V)(w':Net kvs' Q' V')(y:Wy kvs Q V F k SL)(y':Wy kvs' Q' V' F' k' SL')(hr:SL.map (·.1)=SL'.map (·.1))(hb:∀t:Tie,(t∈V/\t.1.1=0/\t.2.1=0)↔(t∈V'/\t.1.1=0/\t.2.1=0)):(Q.map (cP (plc (SL.flatMap (·.2))))).Perm (Q'.map (cP (plc (SL'.flatMap (·.2)))))/\((V.map (cT (plc (SL.flatMap (·.2))))).map norm).Perm ((V'.map (cT (plc (SL'.flatMap (·.2))))).map norm):=by
 have e1:=M6 SL y.rw;have e1':=M6 SL' y'.rw;have e2:=M5 SL [] (by rw[eI];exact y.nd w) y.rw y.cl;have e2':=M5 SL' [] (by rw[eI];exact y'.nd w') y'.rw y'.cl;rw[eI] at e2 e2';have p1:(Q.map (cP (plc (SL.flatMap (·.2))))).Perm (Q'.map (cP (plc (SL'.flatMap (·.2))))):=by
  refine(M7 w y.pm).trans (Dc ?_ (M7 w' y'.pm).symm);rw[e1,e1',hr]
 have p2:((V.map (cT (plc (SL.flatMap (·.2))))).map norm).Perm ((V'.map (cT (plc (SL'.flatMap (·.2))))).map norm):=by
  refine(xj (R7 w (y.nf w)) (R7 w' (y'.nf w'))).mpr λt=>?_
  rw[ZD w y.pm (y.nf w),ZD w' y'.pm (y'.nf w'),<-e2,<-e2',hr,hb t]
 exact⟨p1,p2⟩
theorem aHy{Q:aa Pc}{V:aa Tie}{φ:ag->ag}{F F':aa (aa ag)}{k k':aa ag->aa D}{SL SL':aa (aa D×aa ag)}(w:Net kvs Q V)(h:Nf φ (Q.map (·.1)))(y:Wy kvs Q V F k SL)(y':Wy kvs (dI (Q.map (cP φ))) (dU ((V.map (cT φ)).map norm)) F' k' SL'):(Q.map (cP (plc (SL.flatMap (·.2))))).Perm ((dI (Q.map (cP φ))).map (cP (plc (SL'.flatMap (·.2)))))/\((V.map (cT (plc (SL.flatMap (·.2))))).map norm).Perm (((dU ((V.map (cT φ)).map norm)).map (cT (plc (SL'.flatMap (·.2))))).map norm):=by
 have w':=BJ w h;have i:=aMl w h;have hu:∀q∈wA (ea kvs Q V) (Q.map (·.1)),∀q'∈wA (ea kvs Q V) (Q.map (·.1)),q.1=q'.1->q=q':=λq hq q' hq' e=>by
  obtain⟨a1,a2⟩:=lN.mp hq;obtain⟨b1,b2⟩:=lN.mp hq';obtain⟨c,hc,ec⟩:=aT.mp a1;obtain⟨c',hc',ec'⟩:=aT.mp b1;rw[<-ec] at a2;rw[<-ec'] at b2;obtain⟨h1,t1⟩:=(RP w hc).mp a2;obtain⟨h2,t2⟩:=(RP w hc').mp b2;rw[<-e] at t2;have:=RM w.nd t1.symm t2.symm;refine Prod.ext e ?_;rw[<-ec,<-ec'];exact cz (λp:Pt=>p.1) this
 have hp:(SL.map (·.1)).Perm (SL'.map (·.1)):=y.sr.trans ((aF1 i (λz=>aMk) y.pa y'.pa hu y.fw y'.fw).trans y'.sr.symm);have hro:∀x∈SL,jR x.1:=λx hx=>by rw[y.rw x hx];exact jT _ _ _
 have hro':∀x∈SL',jR x.1:=λx hx=>by rw[y'.rw x hx];exact jT _ _ _
 have hr:SL.map (·.1)=SL'.map (·.1):=by
  have q:=oN (λd hd=>by
   obtain⟨x,hx,rfl⟩:=aT.mp hd;exact jC (hro x hx)) (by
   have:=hp.map υ;rw[bP,bP] at this;exact this) (aF9 hro y.up) (aF9 hro' y'.up)
  have key:∀{A B:aa (aa D×aa ag)},(A.map λx=>υ x.1)=(B.map λx=>υ x.1)->A.map (·.1)=B.map (·.1):=by
   intro A;induction A with
   |nil=>
    intro B h;cases B with
    |nil=>rfl
    |cons b B=>cases h
   |cons a A ih=>
    intro B h;cases B with
    |nil=>cases h
    |cons b B=>
     rw[bj,bj,iw] at h;rw[bj,bj,ih h.2]
     congr 1
     exact D.scr.inj h.1
  exact key q
 refine aFb w w' y y' hr λt=>?_
 constructor
 .rintro⟨h1,h2,h3⟩;refine⟨(bV _).mem_iff.mpr (aT.mpr ⟨cT φ t,aT.mpr ⟨t,h1,rfl⟩,?_⟩),h2,h3⟩;have e:cT φ t=t:=by
   unfold cT cE;rw[h2,h3,h.z];exact Prod.ext (Prod.ext h2.symm rfl) (Prod.ext h3.symm rfl)
  rw[e];have hl:=w.lt t h1;unfold norm;have:=irr _ _ hl;simp[hl,this]
 .rintro⟨h1,h2,h3⟩;obtain⟨u,hu,rfl⟩:=aT.mp ((bV _).mem_iff.mp h1);obtain⟨v,hv,rfl⟩:=aT.mp hu;have hv0:v.1.1=0/\v.2.1=0:=by
   have q1:=(w.wf.tie hv).1;have q2:=(w.wf.tie hv).2;have z1:φ v.1.1=0/\φ v.2.1=0:=by
    rcases mR (cT φ v) with e|e
    .rw[e] at h2 h3;exact⟨h2,h3⟩
    .rw[e] at h2 h3;exact⟨h3,h2⟩
   exact⟨h.aQ0 q1 (.inl rfl) (by rw[h.z];exact z1.1),h.aQ0 q2 (.inl rfl) (by rw[h.z];exact z1.2)⟩
  have e:cT φ v=v:=by
   unfold cT cE;rw[hv0.1,hv0.2,h.z];exact Prod.ext (Prod.ext hv0.1.symm rfl) (Prod.ext hv0.2.symm rfl)
  have hl:=w.lt v hv;have e2:norm (cT φ v)=v:=by
   rw[e];unfold norm;have:=irr _ _ hl;simp[hl,this]
  rw[e2];exact⟨hv,hv0⟩
def dW(c:ag)(k:ai):ag:=[1,2,4,8].getD ((k:ag) % (1+c / 4 % 4)).toNat 1
def nW(n0 n1:Str)(c:ag)(k:ai):Str:=if c / 16 / dW c k % 2=0 then n0 else n1
theorem aS4(c:ag)(k:ai):0<dW c k/\dW c k<=8/\getD (.lst [.int 1,.int 2,.int 4,.int 8]) (.int ((0+(k:ag)) % (1+c / 4 % 4)))=.ok (.int (dW c k)):=by
 have h0:0<=(k:ag) % (1+c / 4 % 4):=ja _ 0x1;have h1:(k:ag) % (1+c / 4 % 4)<1+c / 4 % 4:=ko _ 0x1;unfold dW;rw[show(0+(k:ag))=(k:ag) by lia];generalize (k:ag) % (1+c / 4 % 4)=m at *;obtain⟨j,rfl⟩:∃j:ai,m=j:=⟨m.toNat,by lia⟩
 have hj:j<4:=by lia
 match j,hj with
 |0,_=>exact⟨by decide,by decide,rfl⟩
 |1,_=>exact⟨by decide,by decide,rfl⟩
 |2,_=>exact⟨by decide,by decide,rfl⟩
 |3,_=>exact⟨by decide,by decide,rfl⟩
def pW(n0 n1:Str)(c ft:ag)(k:ai):Pc:=(ft+k,nW n0 n1 c k)
noncomputable def uW(ft:ag)(hf k:ai):Tie:=((ft+k,1),(ft+((k+1) % (2*hf):ai),2))
noncomputable def vW(ft:ag)(hf k h:ai):Tie:=((ft+k,(h:ag)),(ft+hf+k,(h:ag)))
noncomputable def hW(a:ai):aa ai:=(bh (a+1)).filter λh=>ϒ (h<1)||ϒ (2<h)
def tW(ft:ag)(hf a:ai):aa Tie:=(bh hf).flatMap λk=>(hW a).map (vW ft hf k)
def wst(net stk:D)(c:ag)(nsd:D)(hf:ai)(ft:ag)(P:aa Pc)(T:aa Tie)(x8 x9 x10 x11 x12:D):aa D:=[net,stk,.int c,nsd,.int hf,.int ft,.lst (P.map pcD),.lst (T.map bO),x8,x9,x10,x11,x12]
section
variable {net stk nsd:D} {n0 n1:Str} {c ft:ag} {hf a:ai}
theorem aS5(hn:nsd≠.uD)(g0:getD nsd (.int 0)=.ok (.str n0))(g1:getD nsd (.int 1)=.ok (.str n1))(h1:1<=hf)(h4:hf<=4)(hk:k<2*hf)(hP:P.length<=100)(hT:T.length<=1000):∃y9 y10 y11,wb1 (wst net stk c nsd hf ft P T (.int (0+(k:ag))) x9 x10 x11 x12)=.ok (.nx (wst net stk c nsd hf ft (P++[pW n0 n1 c ft k]) (T++[norm (uW ft hf k)]) (.int (0+(k:ag))) y9 y10 y11 x12)):=by
 obtain⟨d0,d1,d2⟩:=aS4 c k;have f16:=gC c 16 0x4 0x4;have f4:=gC c 4 0x4 0x4;have m4:=fH (c / 4) 4 0x4;have a1:=d9 1 (c / 4 % 4);have mk:=fH (0+(k:ag)) (1+c / 4 % 4) 0x1;have fd:=gC (c / 16) (dW c k) d0 0x1;have m2:=fH (c / 16 / dW c k) 2 0x4;have ak:=d9 ft (0+(k:ag));have ak1:=d9 (0+(k:ag)) 1;have mu:=yV 2 (hf:ag) (j6 _ 0x1 0x1);have mm:=fH (0+(k:ag)+1) (2*(hf:ag)) 0x1;have am:=d9 ft ((0+(k:ag)+1) % (2*(hf:ag)));have hnm:getD nsd (.int (c / 16 / dW c k % 2))=.ok (.str (nW n0 n1 c k)):=by
  unfold nW;have h0:=ja (c / 16 / dW c k) (show(2:ag)≠0 by decide);have h1:=ko (c / 16 / dW c k) (show(0:ag)<2 by decide);by_cases h:c / 16 / dW c k % 2=0
  .rw[av h,h];exact g0
  .rw[aw h,show c / 16 / dW c k % 2=1 by lia];exact g1
 have e1:ft+(0+(k:ag))=ft+k:=by lia
 have e2:ft+(0+(k:ag)+1) % (2*(hf:ag))=ft+((k+1) % (2*hf):ai):=by
  congr 1
  rw[show(0+(k:ag)+1)=((k+1:ai):ag) by lia,show(2*(hf:ag))=((2*hf:ai):ag) by lia];rfl
 have b1:=DP .lt (uW ft hf k).1 (uW ft hf k).2 ltP qG;have b2':=DP .gt (uW ft hf k).1 (uW ft hf k).2 (λx y=>ltP y x) Q_;generalize hkk:(0+(k:ag))=kk at *;refine⟨.int (c / 16 / dW c k),enP (uW ft hf k).1,enP (uW ft hf k).2,?_⟩;refine aL (bI (aJ (aJ rfl rfl f16) (aJ (aDm rfl (by rw[a_];simp)) (aJ rfl (aJ rfl (aJ (aJ rfl rfl f4) rfl m4) a1) mk) d2) fd)) ?_;have v3:kJ 3 (wst net stk c nsd hf ft P T (.int kk) (.int (c / 16 / dW c k)) x10 x11 x12)=.ok nsd:=fC rfl hn;refine aL (ρ':=wst net stk c nsd hf ft (P++[pW n0 n1 c ft k]) T (.int kk) (.int (c / 16 / dW c k)) x10 x11 x12) ?_ ?_
 .refine(jL (i:=6) (ρ:=wst net stk c nsd hf ft P T (.int kk) (.int (c / 16 / dW c k)) x10 x11 x12) (xs:=P.map pcD) (d:=pcD (pW n0 n1 c ft k)) (c7 (xs:=[.int (ft+k),.str (nW n0 n1 c k)]) (aC (aJ rfl rfl (ak.trans (by rw[e1]))) (aC (aJ v3 (aJ rfl rfl m2) hnm) rfl)) RZ) rfl (by rw[aI,a_];lia) rfl).trans ?_;unfold wst;rw[cu];rfl
 refine aL (ρ':=wst net stk c nsd hf ft (P++[pW n0 n1 c ft k]) T (.int kk) (.int (c / 16 / dW c k)) (enP (uW ft hf k).1) x11 x12) (bI (i:=10) (c7 (xs:=[.int (ft+k),.int 1]) (aC (aJ rfl rfl (ak.trans (by rw[e1]))) 0xd) RZ)) ?_;refine aL (ρ':=wst net stk c nsd hf ft (P++[pW n0 n1 c ft k]) T (.int kk) (.int (c / 16 / dW c k)) (enP (uW ft hf k).1) (enP (uW ft hf k).2) x12) (bI (i:=11) (c7 (xs:=[.int (ft+((k+1) % (2*hf):ai)),.int 2]) (aC (aJ rfl (aJ (aJ rfl rfl ak1) (aJ rfl rfl mu) mm) (am.trans (by rw[e2]))) 0xd) RZ)) ?_;refine(jL (i:=7) (ρ:=wst net stk c nsd hf ft (P++[pW n0 n1 c ft k]) T (.int kk) (.int (c / 16 / dW c k)) (enP (uW ft hf k).1) (enP (uW ft hf k).2) x12) (xs:=T.map bO) (d:=bO (norm (uW ft hf k))) (c7 (xs:=[enP (norm (uW ft hf k)).1,enP (norm (uW ft hf k)).2]) (aC (aK (xs:=[enP (uW ft hf k).1,enP (uW ft hf k).2]) 0xc b1) (aC (aK (xs:=[enP (uW ft hf k).1,enP (uW ft hf k).2]) 0xc b2') rfl)) RZ) rfl (by rw[aI,a_];lia) rfl).trans ?_;unfold wst;rw[cu (l₁:=T)];rfl
theorem aS6{k:ai}(hn:nsd≠.uD)(hs:stk≠.uD)(g0:getD nsd (.int 0)=.ok (.str n0))(gs:getD stk (.str n0)=.ok (.int a))(ha:a<=6)(hT:T.length<=1000):∃y12,wb2 (wst net stk c nsd hf ft P T (.int (0+(k:ag))) x9 x10 x11 x12)=.ok (.nx (wst net stk c nsd hf ft P (T++(hW a).map (vW ft hf k)) (.int (0+(k:ag))) x9 x10 x11 y12)):=by
 have ak:=d9 ft (0+(k:ag));have ah:=d9 ft (hf:ag);have ahk:=d9 (ft+hf) (0+(k:ag));have e1:ft+(0+(k:ag))=ft+k:=by lia
 have e2:ft+(hf:ag)+(0+(k:ag))=ft+hf+k:=by lia
 obtain⟨ρ,h,y12,rfl⟩:=bW (t:=tg1 12) (body:=wb3) (d:=λ(h:ai)=>δ (0+(h:ag))) (I:=λys ρ=>∃y12,ρ=wst net stk c nsd hf ft P (T++(ys.filter λh=>ϒ (h<1)||ϒ (2<h)).map (vW ft hf k)) (.int (0+(k:ag))) x9 x10 x11 y12) (bh (a+1)) (λys h zs ρ e ⟨y12,hρ⟩=>by
  subst hρ;obtain⟨e0,hh⟩:=jD e;have hyl:ys.length<=10:=by lia
  have hfl:=lb (λh=>ϒ (h<1)||ϒ (2<h)) ys;generalize hX:T++(ys.filter λh=>ϒ (h<1)||ϒ (2<h)).map (vW ft hf k)=X;have hXl:X.length<=1010:=by rw[<-hX,cb,aI];lia
  have c1:dC (.ord .lt) (.int (0+(h:ag))) (.int 1)=.ok (.bl (ϒ ((0+(h:ag))<1))):=rfl;have c2:dC (.ord .gt) (.int (0+(h:ag))) (.int 2)=.ok (.bl (ϒ ((2:ag)<0+(h:ag)))):=rfl;have eN:T++((ys++[h]).filter λh=>ϒ (h<1)||ϒ (2<h)).map (vW ft hf k)=X++if (ϒ (h<1)||ϒ (2<h))=af then [vW ft hf k h] else []:=by
   rw[Cb,cu,<-c6,hX]
   congr 1
   by_cases q:(ϒ (h<1)||ϒ (2<h))=af
   .rw[av q,oq,av q];rfl
   .rw[aw q,oq,aw q];rfl
  refine⟨wst net stk c nsd hf ft P X (.int (0+(k:ag))) x9 x10 x11 (.int (0+(h:ag))),wst net stk c nsd hf ft P (T++((ys++[h]).filter λh=>ϒ (h<1)||ϒ (2<h)).map (vW ft hf k)) (.int (0+(k:ag))) x9 x10 x11 (.int (0+(h:ag))),rfl,?_,_,rfl⟩;rw[eN];have d1:ϒ ((0+(h:ag))<1)=ϒ (h<1):=ot.mpr 0x1;have d2:ϒ ((2:ag)<0+(h:ag))=ϒ (2<h):=ot.mpr 0x1;rw[d1] at c1;rw[d2] at c2;have tst:(bOr (bTB (b2 (dC (.ord .lt)) rY gK)) (bTB (b2 (dC (.ord .gt)) rY tM))) (wst net stk c nsd hf ft P X (.int (0+(k:ag))) x9 x10 x11 (.int (0+(h:ag))))=.ok (ϒ (h<1)||ϒ (2<h)):=by
   cases q:ϒ (h<1) with
   |true=>
    rw[q] at c1;have:=cX (f:=b2 (dC (.ord .lt)) rY gK) (ρ:=wst net stk c nsd hf ft P X (.int (0+(k:ag))) x9 x10 x11 (.int (0+(h:ag)))) (aJ rfl rfl c1);unfold bOr;rw[this];rfl
   |false=>
    rw[q] at c1;exact aH9 (cX (aJ rfl rfl c1)) (cX (aJ rfl rfl c2))
  by_cases q:(ϒ (h<1)||ϒ (2<h))=af
  .rw[av q];rw[q] at tst;refine BL tst ?_;have k12:kJ 12 (wst net stk c nsd hf ft P X (.int (0+(k:ag))) x9 x10 x11 (.int (0+(h:ag))))=.ok (.int (h:ag)):=by
    show τ (δ (0+(h:ag)))=_;rw[B8]
   have d1:(iT (aD (b2 (bL .add) fZ uQ) (aD rY aX))) (wst net stk c nsd hf ft P X (.int (0+(k:ag))) x9 x10 x11 (.int (0+(h:ag))))=.ok (enP (vW ft hf k h).1):=c7 (xs:=[.int (ft+k),.int (h:ag)]) (aC (aJ rfl rfl (ak.trans (by rw[e1]))) (aC k12 rfl)) RZ;have d2:(iT (aD (b2 (bL .add) (b2 (bL .add) fZ gD) uQ) (aD rY aX))) (wst net stk c nsd hf ft P X (.int (0+(k:ag))) x9 x10 x11 (.int (0+(h:ag))))=.ok (enP (vW ft hf k h).2):=c7 (xs:=[.int (ft+hf+k),.int (h:ag)]) (aC (aJ (aJ rfl rfl ah) rfl (ahk.trans (by rw[e2]))) (aC k12 rfl)) RZ;refine(jL (i:=7) (ρ:=wst net stk c nsd hf ft P X (.int (0+(k:ag))) x9 x10 x11 (.int (0+(h:ag)))) (xs:=X.map bO) (d:=bO (vW ft hf k h)) (c7 (xs:=[enP (vW ft hf k h).1,enP (vW ft hf k h).2]) (aC d1 (aC d2 rfl)) RZ) rfl (by rw[aI,a_];lia) rfl).trans ?_;unfold wst;rw[cu (l₁:=X)];rfl
  .rw[aw q,eo];rw[BD] at q;rw[q] at tst;exact nY tst rfl) (ρ:=wst net stk c nsd hf ft P T (.int (0+(k:ag))) x9 x10 x11 x12) ⟨x12,by simp⟩
 refine⟨y12,jK (mH (n:=(a:ag)+1) (aC (aJ (aJ (fC rfl hs) (aJ (fC rfl hn) rfl g0) gs) rfl (d9 _ _)) rfl) 0x1 0x1) ?_⟩;rw[show((a:ag)+1).toNat=a+1 by lia];exact h
end
def endsN(hf a:ai):aa (ai×ai):=((bh (2*hf)).flatMap λk=>[(k,1),((k+1) % (2*hf),2)])++(bh hf).flatMap λk=>(hW a).flatMap λh=>[(k,h),(hf+k,h)]
noncomputable def aQi(hf a:ai):aa (ai×ai):=(bh (2*hf)).flatMap λk=>(bh (a+1)).map λh=>(k,h)
theorem aAp:∀hf<5,∀a<7,1<=hf->2<=a->(endsN hf a).Perm (aQi hf a):=by
 have h:∀hf<5,∀a<7,1<=hf->2<=a->(endsN hf a).isPerm (aQi hf a)=af:=by decide +kernel
 exact λhf h1 a h2 h3 h4=>List.isPerm_iff.mp (h hf h1 a h2 h3 h4)
noncomputable def up(ft:ag)(q:ai×ai):Pt:=(ft+q.1,(q.2:ag))
theorem aQ4(ft:ag)(hf a:ai):(ends (((bh (2*hf)).map λk=>norm (uW ft hf k))++tW ft hf a)).Perm ((endsN hf a).map (up ft)):=by
 rw[ends_app];unfold endsN;rw[cu];refine Dd ?_ ?_
 .have e:((bh (2*hf)).map λk=>norm (uW ft hf k))=((bh (2*hf)).map (uW ft hf)).map norm:=by rw[bP];rfl
  rw[e];refine(vN _).trans ?_;unfold ends;rw[mE,ov];exact .refl _
 .have e:ends (tW ft hf a)=((bh hf).flatMap λk=>(hW a).flatMap λh=>[(k,h),(hf+k,h)]).map (up ft):=by
   unfold ends tW;rw[List.flatMap_assoc,ov]
   congr 1
   funext k
   rw[mE,ov]
   congr 1
   funext h
   show[(ft+(k:ag),(h:ag)),(ft+hf+k,(h:ag))]=[(ft+(k:ag),(h:ag)),(ft+((hf+k:ai):ag),(h:ag))];rw[show ft+(hf:ag)+k=ft+((hf+k:ai):ag) by lia]
  rw[e]
section
variable {kvs:aa (D×D)} {Q:aa Pc} {V:aa Tie} {r c:ag} {n0 n1:Str} {a:ai}
def aS7(v0:vOf kvs n0=a)(v1:vOf kvs n1=a):hks kvs ((bh (2*hf)).map (pW n0 n1 c ft))=(aQi hf a).map (up ft):=by
 unfold hks aQi;rw[mE,ov]
 congr 1
 funext k
 unfold aH6;have:vOf kvs (pW n0 n1 c ft k).2=a:=by
  show vOf kvs (nW n0 n1 c k)=a;unfold nW;split
  .exact v0
  .exact v1
 rw[this,bP];rfl
def wQ(Q:aa Pc)(n0 n1:Str)(c:ag):aa Pc:=Q++(bh (2*(1+c % 4).toNat)).map (pW n0 n1 c ((Q.length:ag)+1))
def wT(Q:aa Pc)(a:ai)(c:ag):aa Tie:=((bh (2*(1+c % 4).toNat)).map λk=>norm (uW ((Q.length:ag)+1) (1+c % 4).toNat k))++tW ((Q.length:ag)+1) (1+c % 4).toNat a
theorem aJ5(ha:a<=6):(wT Q a c).length<=100:=by
 unfold wT tW;rw[cb,aI,fR];have hh:∀l:aa ai,(l.flatMap λk=>(hW a).map (vW ((Q.length:ag)+1) (1+c % 4).toNat k)).length<=7*l.length:=by
  intro l;induction l with
  |nil=>simp
  |cons k l ih=>
   rw[ie,cb,aI,cr];have:(hW a).length<=a+1:=by unfold hW;exact du (lb ..) (by rw[fR];exact bi _)
   lia
 have:=hh (bh (1+c % 4).toNat);rw[fR] at this;lia
def aFc:(wQ Q n0 n1 c).length=Q.length+2*(1+c % 4).toNat:=by unfold wQ;rw[cb,aI,fR]
theorem aQ5(hb:∀pc∈Q,pc.1<=Q.length):∀pc∈wQ Q n0 n1 c,pc.1<=(wQ Q n0 n1 c).length:=λpc hp=>by
 rw[aFc];rcases cw.mp hp with h|h
 .have:=hb pc h;lia
 .obtain⟨k,hk,rfl⟩:=aT.mp h;have:=jb.mp hk;show(Q.length:ag)+1+k<=_;lia
theorem aQ6(w:Net kvs Q V)(hb:∀pc∈Q,pc.1<=Q.length)(hl:Q.length<=22)(hV:V.length<=800)(ha2:2<=a)(ha:a<=6)(l0:bB kvs (.str n0)=ae (.int a))(l1:bB kvs (.str n1)=ae (.int a)):Net kvs (wQ Q n0 n1 c) (dU (V++wT Q a c)):=by
 obtain⟨S,s1,s2,s3⟩:=w.rims;have v0:=YG l0;have v1:=YG l1;have hf1:1<=(1+c % 4).toNat/\(1+c % 4).toNat<5:=by lia
 have hE:(ends (wT Q a c)).Perm (hks kvs ((bh (2*(1+c % 4).toNat)).map (pW n0 n1 c ((Q.length:ag)+1)))):=by
  rw[aS7 v0 v1];exact(aQ4 _ _ _).trans ((aAp _ hf1.2 a 0x1 hf1.1 ha2).map _)
 have pE:(ends (dU (V++wT Q a c))).Perm (hks kvs (wQ Q n0 n1 c)++S.map rim):=by
  refine(zQ (bV _)).trans ?_;rw[ends_app];refine(s3.append hE).trans ?_;have:hks kvs (wQ Q n0 n1 c)=hks kvs Q++hks kvs ((bh (2*(1+c % 4).toNat)).map (pW n0 n1 c ((Q.length:ag)+1))):=by unfold wQ hks;rw[kr]
  rw[this,c6,c6];exact kq _ xf
 have qs:(wQ Q n0 n1 c).Pairwise LtN:=by
  refine mz.mpr ⟨w.qs,d4.mpr (Ci.imp λ{x y} h=>?_),λx hx y hy=>?_⟩
  .show(Q.length:ag)+1+x<(Q.length:ag)+1+y;lia
  .obtain⟨k,_,rfl⟩:=aT.mp hy;have:=hb x hx;show x.1<(Q.length:ag)+1+k;lia
 have qpos:∀pc∈wQ Q n0 n1 c,0<pc.1:=λpc hp=>by
  rcases cw.mp hp with h|h
  .exact w.qpos pc h
  .obtain⟨k,_,rfl⟩:=aT.mp h;show 0<(Q.length:ag)+1+k;lia
 have hnd:(hks kvs (wQ Q n0 n1 c)++S.map rim).Nodup:=by
  refine fg.mpr ⟨?_,?_,λx hx y hy z=>?_⟩
  .unfold hks;have key:∀{U:aa Pc},U.Pairwise LtN->(U.flatMap (aH6 kvs)).Nodup:=by
    intro U;induction U with
    |nil=>intro _;exact ic
    |cons p U ih=>
     intro h;rw[iX] at h;rw[ie];refine fg.mpr ⟨?_,ih h.2,λx hx y hy z=>?_⟩
     .unfold aH6;refine d4.mpr (sP.imp λ{i j} hij e=>hij ?_);have:(i:ag)=j:=cz mB e;lia
     .subst z;unfold aH6 at hx;obtain⟨i,_,rfl⟩:=aT.mp hx;obtain⟨q,hq,hy⟩:=ir.mp hy;unfold aH6 at hy;obtain⟨j,_,e⟩:=aT.mp hy;have e1:q.1=p.1:=cz (λz:Pt=>z.1) e;have:=h.1 q hq;unfold LtN at this;lia
   exact key qs
  .exact d4.mpr (s1.imp λ{i j} hij e=>hij (cz mB e))
  .subst z;obtain⟨pc,hp,e,_⟩:=K9.mp hx;obtain⟨s,_,rfl⟩:=aT.mp hy;have:=qpos pc hp;have e1:pc.1=0:=e;lia
 have hsm:=aJ5 (Q:=Q) (c:=c) ha;refine⟨pE.nodup_iff.mpr hnd,by rw[(bV _).length_eq,cb];lia,qs,qpos,by rw[aFc];lia,λpc hp=>?_,λt ht=>?_,gW _,S,s1,s2,pE⟩
 .rcases cw.mp hp with h|h
  .exact w.sk pc h
  .obtain⟨k,_,rfl⟩:=aT.mp h;refine⟨a,ha,?_⟩;show bB kvs (.str (nW n0 n1 c k))=_;unfold nW;split
   .exact l0
   .exact l1
 .rcases cw.mp ((bV _).mem_iff.mp ht) with h|h
  .exact w.lt t h
  .rcases cw.mp h with h|h
   .obtain⟨k,_,rfl⟩:=aT.mp h;exact Y9 λe=>by
     have:(1:ag)=2:=cz mB e;lia
   .obtain⟨k,hk,h⟩:=ir.mp h;obtain⟨j,_,rfl⟩:=aT.mp h
    left
    show(Q.length:ag)+1+k<(Q.length:ag)+1+((1+c % 4).toNat:ag)+k;lia
theorem ZF(hls:T7 [.dct kvs]=.ok nsd)(hn:nsd≠.uD)(g0:getD nsd (.int 0)=.ok (.str n0))(g1:getD nsd (.int 1)=.ok (.str n1))(gs:getD (.dct kvs) (.str n0)=.ok (.int a))(ha:a<=6)(hQ:Q.length<=30)(hV:V.length<=800):b_ 3 gV [dR Q V r,.dct kvs,.int c]=.ok (dR (wQ Q n0 n1 c) (dU (V++wT Q a c)) r):=by
 have m4:=fH c 4 0x4;have a1:=d9 1 (c % 4);have hhf:(1+c % 4)=(((1+c % 4).toNat:ai):ag):=by lia
 have hf4:1<=(1+c % 4).toNat/\(1+c % 4).toNat<=4:=by lia
 have lQ:fV [.tup (Q.map pcD)]=.ok (.int Q.length):=by
  show τ (δ ((Q.map pcD).length:ag))=_;rw[aI]
 have aQ:=d9 (Q.length:ag) 1;unfold wQ wT;generalize hfe:(1+c % 4).toNat=hf at *;rw[hhf] at a1;generalize ((Q.length:ag)+1)=ft at *;have mu:=yV 2 (hf:ag) (j6 _ 0x1 0x1);obtain⟨ρ1,h1,x8,x9,x10,x11,rfl⟩:=bW (t:=tg1 8) (body:=wb1) (d:=λ(k:ai)=>δ (0+(k:ag))) (I:=λys ρ=>∃x8 x9 x10 x11,ρ=wst (dR Q V r) (.dct kvs) c nsd hf ft (ys.map (pW n0 n1 c ft)) (ys.map λk=>norm (uW ft hf k)) x8 x9 x10 x11 .uD) (bh (2*hf)) (λys k zs ρ e ⟨x8,x9,x10,x11,h⟩=>by
  subst h;obtain⟨e0,hk⟩:=jD e;obtain⟨y9,y10,y11,hy⟩:=aS5 (net:=dR Q V r) (stk:=.dct kvs) (ft:=ft) (P:=ys.map (pW n0 n1 c ft)) (T:=ys.map λk=>norm (uW ft hf k)) (x9:=x9) (x10:=x10) (x11:=x11) (x12:=.uD) hn g0 g1 hf4.1 hf4.2 hk (by rw[aI];lia) (by rw[aI];lia);refine⟨wst (dR Q V r) (.dct kvs) c nsd hf ft (ys.map (pW n0 n1 c ft)) (ys.map λk=>norm (uW ft hf k)) (.int (0+(k:ag))) x9 x10 x11 .uD,_,rfl,hy,.int (0+(k:ag)),y9,y10,y11,?_⟩;rw[cu,cu];rfl) (ρ:=wst (dR Q V r) (.dct kvs) c nsd hf ft [] [] .uD .uD .uD .uD .uD) ⟨_,_,_,_,rfl⟩
 have hlW:(hW a).length<=a+1:=by unfold hW;exact du (lb ..) (by rw[fR];exact bi _)
 generalize hU:((bh (2*hf)).map λk=>norm (uW ft hf k))=U at *;have hUl:U.length=2*hf:=by rw[<-hU];simp
 generalize hP:((bh (2*hf)).map (pW n0 n1 c ft))=P at *;have hPl:P.length=2*hf:=by rw[<-hP];simp
 obtain⟨ρ2,h2,z8,z12,hTl,rfl⟩:=bW (t:=tg1 8) (body:=wb2) (d:=λ(k:ai)=>δ (0+(k:ag))) (I:=λys ρ=>∃x8 x12,(ys.flatMap λk=>(hW a).map (vW ft hf k)).length<=7*ys.length/\ρ=wst (dR Q V r) (.dct kvs) c nsd hf ft P (U++ys.flatMap λk=>(hW a).map (vW ft hf k)) x8 x9 x10 x11 x12) (bh hf) (λys k zs ρ e ⟨x8,x12,hl,h⟩=>by
  subst h;obtain⟨e0,hk⟩:=jD e;obtain⟨y12,hy⟩:=aS6 (net:=dR Q V r) (c:=c) (hf:=hf) (ft:=ft) (k:=k) (P:=P) (T:=U++ys.flatMap λk=>(hW a).map (vW ft hf k)) (x9:=x9) (x10:=x10) (x11:=x11) (x12:=x12) hn (λz=>by cases z) g0 gs ha (by rw[cb];lia);refine⟨wst (dR Q V r) (.dct kvs) c nsd hf ft P (U++ys.flatMap λk=>(hW a).map (vW ft hf k)) (.int (0+(k:ag))) x9 x10 x11 x12,_,rfl,hy,.int (0+(k:ag)),y12,?_,?_⟩
  .rw[kr,td,cb,cb,aI,iO];lia
  .rw[kr,td,c6]) (ρ:=wst (dR Q V r) (.dct kvs) c nsd hf ft P U x8 x9 x10 x11 .uD) ⟨x8,.uD,by simp,by simp⟩
 have hTe:(bh hf).flatMap (λk=>(hW a).map (vW ft hf k))=tW ft hf a:=rfl;rw[hTe] at h2;rw[hTe,fR] at hTl;generalize hT:U++tW ft hf a=T at *;have hTl2:T.length<=100:=by rw[<-hT,cb];lia
 have ad1:aMv (.tup (Q.map pcD)) (.tup (P.map pcD))=.ok (.tup ((Q++P).map pcD)):=by
  show(if ϒ ((Q.map pcD).length+(P.map pcD).length<=lim) then τ (D.tup (Q.map pcD++P.map pcD)) else .bad)=_;rw[cm (by rw[aI,aI,a_];lia),av rfl,cu]
 have ad2:aMv (.tup (V.map bO)) (.tup (T.map bO))=.ok (.tup ((V++T).map bO)):=by
  show(if ϒ ((V.map bO).length+(T.map bO).length<=lim) then τ (D.tup (V.map bO++T.map bO)) else .bad)=_;rw[cm (by rw[aI,aI,a_];lia),av rfl,cu]
 have srt:JX [.tup ((V++T).map bO)]=.ok (.lst ((dU (V++T)).map bO)):=xK (V++T);have hpu:=xM (Q++P) (dU (V++T)) r;refine(cQ rfl).trans (call_v ?_);refine aL (ρ':=[dR Q V r,.dct kvs,.int c,nsd,.uD,.uD,.uD,.uD,.uD,.uD,.uD,.uD,.uD]) (bI (i:=3) (aK (xs:=[.dct kvs]) 0xd hls)) ?_;refine aL (ρ':=[dR Q V r,.dct kvs,.int c,nsd,.int hf,.uD,.uD,.uD,.uD,.uD,.uD,.uD,.uD]) (bI (i:=4) (aJ rfl (aJ rfl rfl m4) a1)) ?_;refine aL (ρ':=[dR Q V r,.dct kvs,.int c,nsd,.int hf,.int ft,.uD,.uD,.uD,.uD,.uD,.uD,.uD]) (bI (i:=5) (aJ (aK (xs:=[.tup (Q.map pcD)]) (aC (aJ rfl rfl rfl) rfl) lQ) rfl aQ)) ?_;refine aL (ρ':=[dR Q V r,.dct kvs,.int c,nsd,.int hf,.int ft,.lst [],.uD,.uD,.uD,.uD,.uD,.uD]) (cF (i:=6) rfl rfl) ?_;refine aL (ρ':=wst (dR Q V r) (.dct kvs) c nsd hf ft [] [] .uD .uD .uD .uD .uD) (cF (i:=7) rfl rfl) ?_;refine aL (jK (mH (n:=2*(hf:ag)) (aC (aJ rfl rfl mu) rfl) 0x1 0x1) (by rw[show(2*(hf:ag)).toNat=2*hf by lia];exact h1)) ?_;refine aL (jK (mH (n:=(hf:ag)) 0xd 0x1 0x1) (by rw[la];exact h2)) ?_;refine fX (d:=dR (Q++P) (dU (V++T)) r) (c7 (xs:=[.tup ((Q++P).map pcD),.tup ((dU (V++T)).map bO),.int r]) (aC (aJ (x:=.tup (Q.map pcD)) (y:=.tup (P.map pcD)) (aJ rfl rfl rfl) (aK (xs:=[.lst (P.map pcD)]) 0xd rfl) ad1) (aC (aK (xs:=[.lst ((dU (V++T)).map bO)]) (aC (aK (xs:=[.tup ((V++T).map bO)]) (aC (aJ (x:=.tup (V.map bO)) (y:=.tup (T.map bO)) (aJ rfl rfl rfl) (aK (xs:=[.lst (T.map bO)]) 0xd rfl) ad2) rfl) srt) rfl) rfl) (aC (aJ rfl rfl rfl) rfl))) aS2) ?_;rw[hpu];rfl
end
section
theorem aS8{k:ai}(hk:k<=1000)(hL:L.length<=1000):∃l2,last<l2/\fb1 [net,.int c,.int sd,.lst (L.map δ),.int last,.int (0+(k:ag)),.uD]=.ok (.nx [net,.int c,.int sd,.lst ((L++[l2]).map δ),.int l2,.int (0+(k:ag)),.uD]):=by
 obtain⟨pw,hp,f2⟩:∃pw:ag,0<pw/\bL .pow (.int 10) (.int 50)=.ok (.int pw):=⟨10 ^ 50,by decide,aIj 50 0x4⟩
 have m2:=fH c 2 0x4;obtain⟨d,hd,g⟩:∃d:ag,0<d/\getD (.lst [.int 2,.int pw]) (.int (c % 2))=.ok (.int d):=by
  have h0:=ja c (show(2:ag)≠0 by decide);have h1:=ko c (show(0:ag)<2 by decide);by_cases h:c % 2=0
  .rw[h];exact⟨2,by decide,rfl⟩
  .rw[show c % 2=1 by lia];exact⟨pw,hp,rfl⟩
 have a1:=d9 (0+(k:ag)) 1;have fd:=gC c (0+(k:ag)+1) 0x1 0x1;have md:=fH (c / (0+(k:ag)+1)) d hd;have al:=d9 last 1;have al2:=d9 (last+1) (c / (0+(k:ag)+1) % d);have hn:=ja (c / (0+(k:ag)+1)) (show d≠0 by lia);refine⟨last+1+c / (0+(k:ag)+1) % d,by lia,?_⟩;generalize (0+(k:ag))=kk at *;generalize last+1+c / (kk+1) % d=l2 at al2 ⊢;refine aL (bI (aJ (aJ rfl rfl al) (aJ (aJ rfl (aJ rfl rfl a1) fd) (aJ (aDm (aC rfl (aC (aJ rfl rfl f2) rfl)) (by rw[a_];simp)) (aJ rfl rfl m2) g) md) al2)) ?_;refine(jL rfl rfl (by rw[aI,a_];lia) rfl).trans ?_;rw[cu];rfl
theorem aHz{V:aa Tie}{r:ag}(w:Wf Q V)(e0:getD net (.int 0)=.ok (.tup (Q.map pcD)))(e1:getD net (.int 1)=.ok (.tup (V.map bO)))(e2:getD net (.int 2)=.ok (.int r))(hu:net≠.uD):∃φ,Nf φ (Q.map (·.1))/\b_ 3 jO [net,.int c,.int sd]=.ok (lV Q V r φ):=by
 have ql:=w.ql;rw[aI] at ql;have hb:∀(x1 x2 x3 x4 x5 x6:D),kJ 0 [net,x1,x2,x3,x4,x5,x6]=.ok net:=λ_ _ _ _ _ _=>fC rfl hu
 have lQ:fV [.tup (Q.map pcD)]=.ok (.int Q.length):=by
  show τ (δ ((Q.map pcD).length:ag))=_;rw[aI]
 obtain⟨ρ1,h1,L,last,x5,hl,hlast,hup,rfl⟩:=bW (t:=tg1 5) (body:=fb1) (d:=λ(k:ai)=>δ (0+(k:ag))) (I:=λys ρ=>∃(L:aa ag)(last:ag)(x5:D),L.length=ys.length/\(0<=last/\∀x∈L,0<x/\x<=last)/\L.Nodup/\ρ=[net,.int c,.int sd,.lst (L.map δ),.int last,x5,.uD]) (bh Q.length) (λys k zs ρ e ⟨L,last,x5,hl,hlast,hup,h⟩=>by
  subst h;obtain⟨e0',hk⟩:=jD e;obtain⟨l2,q1,q2⟩:=aS8 (net:=net) (c:=c) (sd:=sd) (L:=L) (last:=last) (k:=k) 0x1 0x1;refine⟨[net,.int c,.int sd,.lst (L.map δ),.int last,.int (0+(k:ag)),.uD],_,rfl,q2,L++[l2],l2,.int (0+(k:ag)),by simp[hl],⟨by lia,λx hx=>?_⟩,?_,rfl⟩
  .rcases cw.mp hx with hx|hx
   .have:=hlast.2 x hx;lia
   .rw[dS.mp hx];lia
  .refine fg.mpr ⟨hup,by simp,λx hx y hy z=>?_⟩;have:=hlast.2 x hx;rw[z,dS.mp hy] at this;lia) (ρ:=[net,.int c,.int sd,.lst [],.int 0,.uD,.uD]) ⟨[],0,.uD,rfl,⟨B9 0,by simp⟩,by simp,rfl⟩
 rw[fR] at hl;obtain⟨ys,pY,hs⟩:=V3 (xs:=L.map δ) sd (λx hx=>by
  obtain⟨a,_,rfl⟩:=aT.mp hx;rfl) (by rw[aI];lia)
 obtain⟨fs,pF,rfl⟩:=xJ δ unI (λ_=>rfl) pY;have hfl:fs.length=Q.length:=by rw[pF.length_eq,hl]
 have hfn:fs.Nodup:=pF.nodup_iff.mpr hup;have hfp:∀x∈fs,0<x:=λx hx=>(hlast.2 x (pF.mem_iff.mp hx)).1
 have hZ1:((Q.map (·.1)).zip fs).map (·.1)=Q.map (·.1):=AL (by rw[aI];lia);have hZ2:((Q.map (·.1)).zip fs).map (·.2)=fs:=List.map_snd_zip (by rw[aI];lia);have hZl:((Q.map (·.1)).zip fs).length=Q.length:=by rw[List.length_zip,aI];lia
 have hZg:∀k (h1:k<((Q.map (·.1)).zip fs).length) (h2:k<Q.length) (h3:k<fs.length),((Q.map (·.1)).zip fs)[k]=(Q[k].1,fs[k]):=λk h1 h2 h3=>by
  rw[List.getElem_zip,lc]
 generalize (Q.map (·.1)).zip fs=Z at *;have hnd:(Z.map (·.1)).Nodup:=by rw[hZ1];exact w.nd
 have h00:0∉Z.map (·.1):=λz=>by have:=w.qp 0 (by rw[<-hZ1];exact z);lia
 have hN:=aSo hnd h00;rw[hZ1] at hN;obtain⟨ρ2,h2,x5',rfl⟩:=bW (t:=tg1 5) (body:=fb2) (d:=λ(k:ai)=>δ (0+(k:ag))) (I:=λys ρ=>∃x5,ρ=[net,.int c,.int sd,.lst (fs.map δ),.int last,x5,.dct (bT [(.int 0,.int 0)] ((Z.take ys.length).map kvI))]) (bh Q.length) (λys k zs ρ e ⟨x5,h⟩=>by
  subst h;obtain⟨rfl,hk⟩:=jD e;have hkZ:ys.length<Z.length:=by lia
  have hkf:ys.length<fs.length:=by lia
  have hgQ:getD (.tup (Q.map pcD)) (.int (0+(ys.length:ag)))=.ok (pcD Q[ys.length]):=by
   rw[V4 _ _ (by rw[aI];exact hk),lc]
  have hgf:getD (.lst (fs.map δ)) (.int (0+(ys.length:ag)))=.ok (.int fs[ys.length]):=by
   rw[show (0+(ys.length:ag))=(ys.length:ag) by lia,MN _ _ (by rw[aI];exact hkf),lc]
  have htk:Z.take (ys++[ys.length]).length=Z.take ys.length++[(Q[ys.length].1,fs[ys.length])]:=by
   rw[cb,iO,mr hkZ,hZg _ hkZ hk hkf]
  obtain⟨i1,i2,i3⟩:=merge_inv (Z.take ys.length) [(.int 0,.int 0)] rfl aPz;have htl:(Z.take ys.length).length<=40:=by rw[ig];lia
  generalize hp1:Q[ys.length]=pq at *;generalize hp2:fs[ys.length]=fv at *;generalize hmd:bT [(.int 0,.int 0)] ((Z.take ys.length).map kvI)=md at i1 i2 i3 ⊢;have hput:bT [(.int 0,.int 0)] ((Z.take (ys++[ys.length]).length).map kvI)=putD md (.int pq.1) (.int fv):=by rw[htk,vM,hmd]
  refine⟨[net,.int c,.int sd,.lst (fs.map δ),.int last,.int (0+(ys.length:ag)),.dct md],[net,.int c,.int sd,.lst (fs.map δ),.int last,.int (0+(ys.length:ag)),.dct (putD md (.int pq.1) (.int fv))],rfl,?_,.int (0+(ys.length:ag)),by rw[hput]⟩;generalize (0+(ys.length:ag))=kk at *;exact oV (i:=6) (kvs:=md) (k:=.int pq.1) (d:=.int fv) (aJ rfl rfl hgf) (aJ (aJ (aJ (hb _ _ _ _ _ _) rfl e0) rfl hgQ) rfl rfl) rfl (by rw[a_];simp only[cr,e9] at i3;lia) (i2 _) rfl) (ρ:=[net,.int c,.int sd,.lst (fs.map δ),.int last,x5,.dct [(.int 0,.int 0)]]) ⟨_,rfl⟩
 rw[fR,<-hZl,si] at h2;have hcar:=z_ (nf:=nfZ Z) w e0 e1 e2 hu hN;have hmem:∀x∈Q.map (·.1),∃p∈Z,p.1=x/\nfZ Z x=p.2:=λx hx=>by
  rw[<-hZ1] at hx;obtain⟨p,hp,rfl⟩:=aT.mp hx;refine⟨p,hp,rfl,?_⟩;unfold nfZ;rw[aw λz=>h00 (by rw[<-z];exact hx),G3 hnd hp]
 refine⟨nfZ Z,⟨rfl,λx hx=>?_,λx hx y hy e=>?_⟩,(cQ rfl).trans (call_v ?_)⟩
 .obtain⟨p,hp,_,e⟩:=hmem x hx;rw[e];exact hfp _ (by rw[<-hZ2];exact aT.mpr ⟨p,hp,rfl⟩)
 .obtain⟨p,hp,ex,e'⟩:=hmem x hx;obtain⟨q,hq,ey,e''⟩:=hmem y hy;rw[e',e''] at e;have hsn:(Z.map (·.2)).Nodup:=by rw[hZ2];exact hfn
  have key:∀{Z:aa Pt},(Z.map (·.2)).Nodup->p∈Z->q∈Z->p=q:=by
   intro Z;induction Z with
   |nil=>intro _ h;cases h
   |cons z Z ih=>
    intro h hp hq;rw[bj,df] at h;rcases bq.mp hp with a1|a1
    .rcases bq.mp hq with b1|b1
     .rw[a1,b1]
     .have:z.2∈Z.map (·.2):=aT.mpr ⟨q,b1,by rw[<-a1,e]⟩;exact bg this h.1
    .rcases bq.mp hq with b1|b1
     .have:z.2∈Z.map (·.2):=aT.mpr ⟨p,a1,by rw[<-b1,e]⟩;exact bg this h.1
     .exact ih h.2 a1 b1
  rw[<-ex,<-ey,key hsn hp hq]
 .generalize bT [(.int 0,.int 0)] (Z.map kvI)=md at *;refine aL (ρ':=[net,.int c,.int sd,.lst [],.uD,.uD,.uD]) (cF (i:=3) rfl rfl) ?_;refine aL (ρ':=[net,.int c,.int sd,.lst [],.int 0,.uD,.uD]) (bI (i:=4) rfl) ?_;refine aL (jK (mH (n:=(Q.length:ag)) (aC (aK (xs:=[.tup (Q.map pcD)]) (aC (aJ (hb _ _ _ _ _ _) rfl e0) rfl) lQ) rfl) 0x1 0x1) (by rw[la];exact h1)) ?_;refine aL (ρ':=[net,.int c,.int sd,.lst (fs.map δ),.int last,x5,.uD]) (cF (i:=3) (aK (xs:=[.lst (L.map δ),.int sd]) 0xc hs) (eO fs)) ?_;refine aL (ρ':=[net,.int c,.int sd,.lst (fs.map δ),.int last,x5,.dct [(.int 0,.int 0)]]) (cF (i:=6) (aJ rfl rfl rfl) rfl) ?_;refine aL (jK (mH (n:=(Q.length:ag)) (aC (aK (xs:=[.tup (Q.map pcD)]) (aC (aJ (hb _ _ _ _ _ _) rfl e0) rfl) lQ) rfl) 0x1 0x1) (by rw[la,<-hZl];exact h2)) ?_;exact fX (aK (xs:=[net,.dct md]) (aC (hb _ _ _ _ _ _) 0xd) hcar) rfl
end
def R9(Q:aa Pc)(V:aa Tie)(r:ag):(dR Q V r).plain=af/\(dR Q V r).fD aO=af:=by
 have h1:∀Q:aa Pc,χ (Q.map pcD)=af/\μ 10 (Q.map pcD)=af:=by
  intro Q;induction Q with
  |nil=>exact⟨rfl,rfl⟩
  |cons c Q ih=>exact⟨by rw[bj,χ,ih.1];rfl,by rw[bj,μ,ih.2];rfl⟩
 have h2:∀V:aa Tie,χ (V.map bO)=af/\μ 10 (V.map bO)=af:=by
  intro V;induction V with
  |nil=>exact⟨rfl,rfl⟩
  |cons c Q ih=>exact⟨by rw[bj,χ,ih.1];rfl,by rw[bj,μ,ih.2];rfl⟩
 refine⟨?_,?_⟩
 .show(χ (Q.map pcD)&&(χ (V.map bO)&&af))=af;rw[(h1 Q).1,(h2 V).1];rfl
 .show(μ 10 (Q.map pcD)&&(μ 10 (V.map bO)&&af))=af;rw[(h1 Q).2,(h2 V).2];rfl
def eq_self(h1:d.plain=af)(h2:d.fD aO=af):dC .eq d d=.ok (.bl af):=by
 show(if d.fD aO&&d.fD aO then τ (π (eqD d d)) else .bad)=_;rw[h2,wO d h1];rfl
def aMm(h1:d.plain=af)(h2:d.fD aO=af):dC .ne d d=.ok (.bl aj):=by
 show(if d.fD aO&&d.fD aO then τ (π (!eqD d d)) else .bad)=_;rw[h2,wO d h1];rfl
noncomputable def sw(q:Pt):Pt:=(q.2,q.1)
def aFd(Z:aa Pt):(Z.map sw).map (·.1)=Z.map (·.2):=by rw[bP];rfl
theorem aFe{Z1 Z2:aa Pt}(h1u:one≠.uD)(h2u:other≠.uD)(hw1:b_ 1 vI [one]=.ok (.lst (Z1.map enP)))(hw2:b_ 1 vI [other]=.ok (.lst (Z2.map enP)))(hr1:b_ 2 dH [one,.lst (Z1.map enP)]=.ok t)(hr2:b_ 2 dH [other,.lst (Z2.map enP)]=.ok t)(ht1:t.plain=af)(ht2:t.fD aO=af)(hl1:Z1.length<=40)(hl2:Z2.length<=40)(hn:(Z2.map (·.2)).Nodup)(hs:∀q∈Z1,q.2∈Z2.map (·.2)) :
  b_ 2 qF [one,other]=.ok (.lst ((Z1.map λq=>((q.1,fz (Z2.map sw) q.2):Pt)).map enP)):=by
 have v0:∀(x1 x2 x3 x4 x5 x6:D),kJ 0 [one,x1,x2,x3,x4,x5,x6]=.ok one:=λ_ _ _ _ _ _=>fC rfl h1u
 have v1:∀(x0 x2 x3 x4 x5 x6:D),kJ 1 [x0,other,x2,x3,x4,x5,x6]=.ok other:=λ_ _ _ _ _ _=>fC rfl h2u
 obtain⟨ρ,h,x5,x6,rfl⟩:=bW (t:=tgN [5,6]) (body:=M8 4 mX fZ) (d:=enP) (I:=λys ρ=>∃x5 x6,ρ=[one,other,.lst (Z1.map enP),.lst (Z2.map enP),.dct (bT [] ((ys.map sw).map kvI)),x5,x6]) Z2 (λys q zs ρ e ⟨x5,x6,h⟩=>by
  subst h;have hyl:ys.length<=40:=by rw[e] at hl2;simp at hl2;lia
  obtain⟨i1,i2,i3⟩:=merge_inv (ys.map sw) [] rfl WM;have hput:=vM [] (ys.map sw) (sw q);rw[show ys.map sw++[sw q]=(ys++[q]).map sw by rw[cu];rfl] at hput;refine⟨[one,other,.lst (Z1.map enP),.lst (Z2.map enP),.dct (bT [] ((ys.map sw).map kvI)),.int q.1,.int q.2],[one,other,.lst (Z1.map enP),.lst (Z2.map enP),.dct (bT [] (((ys++[q]).map sw).map kvI)),.int q.1,.int q.2],rfl,?_,_,_,rfl⟩;rw[hput];generalize bT [] ((ys.map sw).map kvI)=md at i1 i2 i3 ⊢;exact oV (i:=4) (kvs:=md) (k:=.int q.2) (d:=.int q.1) rfl rfl rfl (by rw[a_];rw[aI,e9] at i3;lia) (i2 _) rfl) (ρ:=[one,other,.lst (Z1.map enP),.lst (Z2.map enP),.dct [],.uD,.uD]) ⟨_,_,rfl⟩
 have hlk:∀q∈Z1,getD (.dct (bT [] ((Z2.map sw).map kvI))) (.int q.2)=.ok (.int (fz (Z2.map sw) q.2)):=λq hq=>by
  show(if keyOk (.int q.2) then ι (bB (bT [] ((Z2.map sw).map kvI)) (.int q.2)) else .bad)=_;rw[rB q.2 (Z2.map sw) [] (by rw[aFd];exact hn),aFd,av (hs q hq)];rfl
 generalize bT [] ((Z2.map sw).map kvI)=md at *;have hc:(fJ 7 (dN g_ aj) (O4 2) iU (iT (aD vU (aD (b2 getD gD uQ) aX))) aj) [one,other,.lst (Z1.map enP),.lst (Z2.map enP),.dct md,x5,x6]=.ok (.lst ((Z1.map λq=>((q.1,fz (Z2.map sw) q.2):Pt)).map enP)):=by
  refine i_ (jZ rfl rfl) (by rw[aI,a_];lia) ?_;rw[jU _ enP (λq=>enP (q.1,fz (Z2.map sw) q.2)) Z1 [] λacc q hq=>by
   exact qI (x:=enP q) (b:=af) (bs:=[.int q.1,.int q.2]) (y:=enP (q.1,fz (Z2.map sw) q.2)) rfl rfl rfl λ_=>⟨c7 (xs:=[.int q.1,.int (fz (Z2.map sw) q.2)]) (aC rfl (aC (aJ rfl rfl (hlk q hq)) rfl)) RZ,rfl⟩,eI,bP]
  rfl
 refine(cQ rfl).trans (call_v ?_);refine aL (ρ':=[one,other,.lst (Z1.map enP),.uD,.uD,.uD,.uD]) (bI (i:=2) (aK (xs:=[one]) (aC (v0 _ _ _ _ _ _) rfl) hw1)) ?_;refine aL (ρ':=[one,other,.lst (Z1.map enP),.lst (Z2.map enP),.uD,.uD,.uD]) (bI (i:=3) (aK (xs:=[other]) (aC (v1 _ _ _ _ _ _) rfl) hw2)) ?_;refine aL (ρ':=[one,other,.lst (Z1.map enP),.lst (Z2.map enP),.uD,.uD,.uD]) (nY (cX (aJ (x:=t) (y:=t) (aK (xs:=[one,.lst (Z1.map enP)]) (aC (v0 _ _ _ _ _ _) 0xd) hr1) (aK (xs:=[other,.lst (Z2.map enP)]) (aC (v1 _ _ _ _ _ _) 0xd) hr2) (aMm ht1 ht2))) rfl) ?_;refine aL (ρ':=[one,other,.lst (Z1.map enP),.lst (Z2.map enP),.dct [],.uD,.uD]) (cF (i:=4) rfl rfl) ?_;refine aL (U7 (i:=3) (d:=.lst (Z2.map enP)) (xs:=Z2.map enP) rfl rfl h) ?_;exact fX hc rfl
theorem aFf{V:aa Tie}(w:Wf Q V)(e0:getD one (.int 0)=.ok (.tup (Q.map pcD)))(e1:getD one (.int 1)=.ok (.tup (V.map bO)))(e2:getD one (.int 2)=.ok (.int r))(hu:one≠.uD)(hu2:other≠.uD)(hZ:Z.map (·.1)=Q.map (·.1))(ht:lV Q V r (nfZ Z)=other)(ho1:other.plain=af)(ho2:other.fD aO=af):b_ 3 eV [.lst (Z.map enP),one,other]=.ok (.bl af):=by
 have hlen:Z.length=Q.length:=by have:=cz gh hZ;simpa using this
 have ql:=w.ql;rw[aI] at ql;have hnd:(Z.map (·.1)).Nodup:=by rw[hZ];exact w.nd
 have h00:0∉Z.map (·.1):=λz=>by have:=w.qp 0 (by rw[<-hZ];exact z);lia
 have hN:=aSo hnd h00;rw[hZ] at hN;have hb:∀(x0 x2 x3 x4 x5:D),kJ 1 [x0,one,x2,x3,x4,x5]=.ok one:=λ_ _ _ _ _=>fC rfl hu
 have hlE:fV [.lst (Z.map enP)]=.ok (.int Z.length):=aRz Z;have hlQ:fV [.tup (Q.map pcD)]=.ok (.int Z.length):=by
  show τ (δ ((Q.map pcD).length:ag))=_;rw[aI,hlen]
 obtain⟨ρ,h1,x4,x5,rfl⟩:=bW (t:=tg1 4) (body:=ldb) (d:=λ(k:ai)=>δ (0+(k:ag))) (I:=λys ρ=>∃x4 x5,ρ=[.lst (Z.map enP),one,other,.dct (bT [(.int 0,.int 0)] ((Z.take ys.length).map kvI)),x4,x5]) (bh Z.length) (λys k zs ρ e ⟨x4,x5,h⟩=>by
  subst h;obtain⟨rfl,hk⟩:=jD e;have hkQ:ys.length<Q.length:=by lia
  have hget:getD (.lst (Z.map enP)) (.int (0+(ys.length:ag)))=.ok (enP Z[ys.length]):=by
   rw[show (0+(ys.length:ag))=(ys.length:ag) by lia,MN _ _ (by rw[aI];exact hk),lc]
  have hgQ:getD (.tup (Q.map pcD)) (.int (0+(ys.length:ag)))=.ok (pcD Q[ys.length]):=by
   rw[V4 _ _ (by rw[aI];exact hkQ),lc]
  have hfst:Z[ys.length].1=Q[ys.length].1:=by
   have a:(Z.map (·.1))[ys.length]?=(Q.map (·.1))[ys.length]?:=by rw[hZ]
   rw[iN,iN,eh hk,eh hkQ] at a;simpa using a
  have htk:Z.take (ys++[ys.length]).length=Z.take ys.length++[Z[ys.length]]:=by
   rw[cb,iO,mr hk]
  obtain⟨i1,i2,i3⟩:=merge_inv (Z.take ys.length) [(.int 0,.int 0)] rfl aPz;have htl:(Z.take ys.length).length<=40:=by rw[ig];lia
  generalize Z[ys.length]=p at hget hfst htk;generalize hmd:bT [(.int 0,.int 0)] ((Z.take ys.length).map kvI)=md at i1 i2 i3 ⊢;have hput:bT [(.int 0,.int 0)] ((Z.take (ys++[ys.length]).length).map kvI)=putD md (.int p.1) (.int p.2):=by rw[htk,vM,hmd]
  have hcQ:∀ρ:aa D,kJ 1 ρ=.ok one->kJ 4 ρ=.ok (.int (0+(ys.length:ag)))->(b2 getD (b2 getD (b2 getD fW fU) gD) fU) ρ=.ok (.int p.1):=λρ a b=>by
   rw[hfst];exact aJ (aJ (aJ a rfl e0) b hgQ) rfl rfl
  refine⟨[.lst (Z.map enP),one,other,.dct md,.int (0+(ys.length:ag)),x5],[.lst (Z.map enP),one,other,.dct (putD md (.int p.1) (.int p.2)),.int (0+(ys.length:ag)),enP p],rfl,?_,.int (0+(ys.length:ag)),enP p,?_⟩
  .generalize (0+(ys.length:ag))=kk at hget hcQ ⊢;refine aL (ρ':=[.lst (Z.map enP),one,other,.dct md,.int kk,enP p]) (sW (i:=5) (aJ rfl rfl hget) rfl) ?_;refine aL (ρ':=[.lst (Z.map enP),one,other,.dct md,.int kk,enP p]) (nY (aH9 (rO (b:=af) (wB (aAi (x:=enP p) rfl rfl))) (aH9 (cX (aJ (x:=.int 2) (aK (xs:=[enP p]) 0xd rfl) rfl (ne_int 2))) (aH9 (rO (b:=af) (wB (aK (xs:=[.int p.1]) (aC (aJ (x:=enP p) rfl rfl rfl) rfl) (R3 _)))) (rO (b:=af) (wB (aK (xs:=[.int p.2]) (aC (aJ (x:=enP p) rfl rfl rfl) rfl) (R3 _))))))) rfl) ?_;refine aL (ρ':=[.lst (Z.map enP),one,other,.dct md,.int kk,enP p]) (nY (cX (aJ (x:=.int p.1) (aJ (x:=enP p) rfl rfl rfl) (hcQ _ (hb _ _ _ _ _) rfl) (ne_int p.1))) rfl) ?_;exact oV (i:=3) (kvs:=md) (k:=.int p.1) (d:=.int p.2) (aJ (x:=enP p) rfl rfl rfl) (aJ (x:=enP p) rfl rfl rfl) rfl (by rw[a_];simp only[cr,e9] at i3;lia) (i2 _) rfl
  .rw[hput]) (ρ:=[.lst (Z.map enP),one,other,.dct [(.int 0,.int 0)],.uD,.uD]) ⟨_,_,rfl⟩
 rw[fR,si] at h1;have hcar:=z_ (nf:=nfZ Z) w e0 e1 e2 hu hN;rw[ht] at hcar;generalize bT [(.int 0,.int 0)] (Z.map kvI)=md at *;refine(cQ rfl).trans (call_v ?_);refine aL (ρ':=[.lst (Z.map enP),one,other,.uD,.uD,.uD]) (nY (aH9 (rO (b:=af) (wB (aAi (x:=.lst (Z.map enP)) rfl rfl))) (cX (aJ (x:=.int Z.length) (y:=.int Z.length) (aK (xs:=[.lst (Z.map enP)]) 0xd hlE) (aK (xs:=[.tup (Q.map pcD)]) (aC (aJ (hb _ _ _ _ _) rfl e0) rfl) hlQ) (ne_int _)))) rfl) ?_;refine aL (ρ':=[.lst (Z.map enP),one,other,.dct [(.int 0,.int 0)],.uD,.uD]) (cF (i:=3) (aJ rfl rfl rfl) rfl) ?_;refine aL (jK (mH (n:=Z.length) (aC (aK (xs:=[.lst (Z.map enP)]) 0xd hlE) rfl) 0x1 0x1) (by rw[la];exact h1)) ?_;exact fX (aJ (x:=other) (y:=other) (aK (xs:=[one,.dct md]) (aC (hb _ _ _ _ _) 0xd) hcar) (fC rfl hu2) (eq_self ho1 ho2)) rfl
def aMn(t:Tie):norm (t.2,t.1)=norm t:=by
 by_cases h:t.1=t.2
 .rw[show(t.2,t.1)=t from Prod.ext h.symm h]
 .exact A_ t.1 t.2 h
def aFg(g:ag->ag)(t:Tie):norm (cT g (norm t))=norm (cT g t):=by
 rcases mR t with e|e
 .rw[e]
 .rw[e];exact aMn (cT g t)
theorem aMo{V V':aa Tie}{l l' g nf:ag->ag}(w':Net kvs Q' V')(p1:(Q.map (cP l)).Perm (Q'.map (cP l')))(p2:((V.map (cT l)).map norm).Perm ((V'.map (cT l')).map norm))(hg:∀m,m=0\/m∈Q'.map (·.1)->g (l' m)=m)(wf:Wf Q V)(hn:∀n,n=0\/n∈Q.map (·.1)->nf n=g (l n)):lV Q V r nf=dR Q' V' r:=by
 have e1:Q.map (cP nf)=(Q.map (cP l)).map (cP g):=by
  rw[bP];refine dh λc hc=>?_
  show(nf c.1,c.2)=(g (l c.1),c.2);rw[hn c.1 (.inr (aT.mpr ⟨c,hc,rfl⟩))]
 have e1':(Q'.map (cP l')).map (cP g)=Q':=by
  rw[bP]
  conv=>rhs;rw[<-gq Q']
  refine dh λc hc=>?_
  show(g (l' c.1),c.2)=c;rw[hg c.1 (.inr (aT.mpr ⟨c,hc,rfl⟩))]
 have q1: (Q.map (cP nf)).Perm Q':=by rw[e1];exact(p1.map _).trans (by rw[e1'])
 have e2:(V.map (cT nf)).map norm=((V.map (cT l)).map norm).map λt=>norm (cT g t):=by
  rw[bP,bP,bP];refine dh λt ht=>?_
  show norm (cT nf t)=norm (cT g (norm (cT l t)));rw[aFg];show norm ((nf t.1.1,t.1.2),(nf t.2.1,t.2.2))=norm ((g (l t.1.1),t.1.2),(g (l t.2.1),t.2.2));rw[hn _ (wf.tie ht).1,hn _ (wf.tie ht).2]
 have e2':(((V'.map (cT l')).map norm).map λt=>norm (cT g t))=V':=by
  rw[bP,bP]
  conv=>rhs;rw[<-gq V']
  refine dh λt ht=>?_
  show norm (cT g (norm (cT l' t)))=t;rw[aFg];have:cT g (cT l' t)=t:=by
   show((g (l' t.1.1),t.1.2),(g (l' t.2.1),t.2.2))=t;rw[hg _ (w'.wf.tie ht).1,hg _ (w'.wf.tie ht).2]
  rw[this];have hl:=w'.lt t ht;unfold norm;have:=irr _ _ hl;simp[hl,this]
 have q2: ((V.map (cT nf)).map norm).Perm V':=by rw[e2];exact(p2.map _).trans (by rw[e2'])
 have s1:dI Q'=Q':=by
  have h:=aH8 (.refl _) w'.qs;rw[zZ] at h;have h:(dI Q').map pcD=Q'.map pcD:=by injection h with h;injection h
  have key:∀{A B:aa Pc},A.map pcD=B.map pcD->A=B:=by
   intro A;induction A with
   |nil=>
    intro B h;cases B with
    |nil=>rfl
    |cons b B=>cases h
   |cons a A ih=>
    intro B h;cases B with
    |nil=>cases h
    |cons b B=>
     rw[bj,bj,iw] at h;obtain⟨h1,h2⟩:=h;have e:a=b:=by
      obtain⟨a1,a2⟩:=a;obtain⟨b1,b2⟩:=b;unfold pcD at h1;injection h1 with h1
      injection h1 with h1 h3
      injection h1 with h1
      injection h3 with h3
      injection h3 with h3
      exact Prod.ext h1 h3
     rw[e,ih h2]
  exact key h
 unfold lV;rw[R6 q1,YH q2,s1,aH7 w'.srt]
theorem aJ6{V:aa Tie}(w:Wf Q V)(e0:getD net (.int 0)=.ok (.tup (Q.map pcD)))(e1:getD net (.int 1)=.ok (.tup (V.map bO)))(e2:getD net (.int 2)=.ok (.int r))(hu:net≠.uD)(hZ:Z.map (·.1)=Q.map (·.1)):b_ 2 dH [net,.lst (Z.map enP)]=.ok (lV Q V r (nfZ Z)):=by
 have hl:Z.length<=40:=by have:=cz gh hZ;rw[aI] at this;have:=w.ql;lia
 obtain⟨i1,i2,i3⟩:=merge_inv Z [] rfl WM;have hd:F_ (.lst (Z.map enP))=.ok (.dct (bT [] (Z.map kvI))):=by
  show(match mL (Z.map enP) with|some ps=>if ϒ ((Z.map enP).length<=1000) then τ (D.dct (bT [] ps)) else .bad|none=>.bad)=_;rw[WL];show(if ϒ ((Z.map enP).length<=1000) then τ (D.dct (bT [] (Z.map kvI))) else .bad)=_;rw[cm (by rw[aI];lia),av rfl]
 have hN:=aSn (by rw[hZ];exact w.nd);rw[hZ] at hN;exact aF3 w e0 e1 e2 hu hd i1 (by rw[e9] at i3;lia) (i2 0) rfl hN
section
variable {kvs:aa (D×D)} {Q Q':aa Pc} {V V':aa Tie} {r:ag} {F F':aa (aa ag)} {k k':aa ag->aa D} {SL SL':aa (aa D×aa ag)}
def aQj(w:Net kvs Q V)(y:Wy kvs Q V F k SL):(mO (prs (SL.flatMap (·.2)))).map (·.1)=Q.map (·.1)/\((mO (prs (SL.flatMap (·.2)))).map (·.2)).Perm ((bh Q.length).map λ(k:ai)=>((1:ag)+k)):=by
 refine⟨aEw (by rw[aEx];exact y.pm) w.wf.qs,((mQ _).map _).trans ?_⟩;rw[aMc,y.pm.length_eq,aI]
theorem aQk(w:Net kvs Q V)(y:Wy kvs Q V F k SL):lV Q V r (nfZ (mO (prs (SL.flatMap (·.2)))))=lV Q V r (plc (SL.flatMap (·.2))):=aAo w λn hn=>aFa (y.nd w) (hn.imp id λz=>y.pm.mem_iff.mpr z)
def R_(p1:(Q.map (cP l)).Perm (Q'.map (cP l')))(p2:((V.map (cT l)).map norm).Perm ((V'.map (cT l')).map norm)):lV Q V r l=lV Q' V' r l':=by
 unfold lV;rw[R6 p1,YH p2]
theorem aFh(w:Net kvs Q V)(w':Net kvs Q' V')(y:Wy kvs Q V F k SL)(y':Wy kvs Q' V' F' k' SL')(hw:b_ 1 vI [dR Q V r]=.ok (.lst ((mO (prs (SL.flatMap (·.2)))).map enP)))(hw':b_ 1 vI [dR Q' V' r]=.ok (.lst ((mO (prs (SL'.flatMap (·.2)))).map enP)))(p1:(Q.map (cP (plc (SL.flatMap (·.2))))).Perm (Q'.map (cP (plc (SL'.flatMap (·.2))))))(p2:((V.map (cT (plc (SL.flatMap (·.2))))).map norm).Perm ((V'.map (cT (plc (SL'.flatMap (·.2))))).map norm)):∃d,b_ 2 qF [dR Q V r,dR Q' V' r]=.ok d/\b_ 3 eV [d,dR Q V r,dR Q' V' r]=.ok (.bl af):=by
 obtain⟨z1,z2⟩:=aQj w y;obtain⟨z1',z2'⟩:=aQj w' y';have hQ:Q.length=Q'.length:=by have:=p1.length_eq;simpa using this
 have ht:=R_ (r:=r) p1 p2;have n1:=λn hn=>aFa (y.nd w) (n:=n) hn
 have n1':=λn hn=>aFa (y'.nd w') (n:=n) hn
 have c1:=aQk (r:=r) w y;have c1':=aQk (r:=r) w' y';have pm:=y.pm;have pm':=y'.pm;generalize plc (SL.flatMap (·.2))=l at *;generalize plc (SL'.flatMap (·.2))=l' at *;generalize hO:SL.flatMap (·.2)=O at *;generalize hO':SL'.flatMap (·.2)=O' at *;generalize mO (prs O)=Z at *;generalize mO (prs O')=Z' at *;have hu:dR Q V r≠.uD:=λz=>by cases z
 have hu':dR Q' V' r≠.uD:=λz=>by cases z
 have r1:=aJ6 (net:=dR Q V r) (r:=r) w.wf rfl rfl rfl hu z1;have r1':=aJ6 (net:=dR Q' V' r) (r:=r) w'.wf rfl rfl rfl hu' z1';rw[c1,ht] at r1;rw[c1'] at r1';have pl:=R9 (dI (Q'.map (cP l'))) (dU ((V'.map (cT l')).map norm)) r;have hsn:(Z'.map (·.2)).Nodup:=z2'.nodup_iff.mpr (d4.mpr (sP.imp λ{a b} hab e=>hab 0x1));have hpos:∀q∈Z,0<q.2:=λq hq=>by
  obtain⟨j,_,e⟩:=aT.mp (z2.mem_iff.mp (aT.mpr ⟨q,hq,rfl⟩));lia
 have hpos':∀q∈Z',0<q.2:=λq hq=>by
  obtain⟨j,_,e⟩:=aT.mp (z2'.mem_iff.mp (aT.mpr ⟨q,hq,rfl⟩));lia
 have hsub:∀q∈Z,q.2∈Z'.map (·.2):=λq hq=>z2'.mem_iff.mpr (by rw[<-hQ];exact z2.mem_iff.mp (aT.mpr ⟨q,hq,rfl⟩))
 have ql:=w.wf.ql;have ql':=w'.wf.ql;have hl1:Z.length<=40:=by have:=cz gh z1;rw[aI] at this;lia
 have hl1':Z'.length<=40:=by have:=cz gh z1';rw[aI] at this;lia
 have hal:=aFe hu hu' hw hw' r1 r1' pl.1 pl.2 hl1 hl1' hsn hsub;refine⟨_,hal,?_⟩;have hfst:(Z.map λq=>((q.1,fz (Z'.map sw) q.2):Pt)).map (·.1)=Q.map (·.1):=by rw[bP,<-z1];rfl
 have hnd:(Z.map (·.1)).Nodup:=by rw[z1];exact w.wf.nd
 have hnd':(Z'.map (·.1)).Nodup:=by rw[z1'];exact w'.wf.nd
 have pl':=R9 Q' V' r;refine aFf w.wf rfl rfl rfl hu hu' hfst (aMo (l:=l) (l':=l') (g:=λp=>if p=0 then 0 else fz (Z'.map sw) p) w' p1 p2 (λm hm=>?_) w.wf λn hn=>?_) pl'.1 pl'.2
 .rcases hm with rfl|hm
  .rw[<-n1' 0 (.inl rfl)];rfl
  .rw[<-n1' m (.inr (pm'.mem_iff.mpr hm))];have hm2:=hm;rw[<-z1'] at hm2;obtain⟨q,hq,rfl⟩:=aT.mp hm2;have h0:q.1≠0:=λz=>by have:=w'.wf.qp q.1 hm;lia
   have e:nfZ Z' q.1=q.2:=by
    unfold nfZ;rw[aw h0,G3 hnd' hq]
   have:=hpos' q hq;show(if nfZ Z' q.1=0 then 0 else fz (Z'.map sw) (nfZ Z' q.1))=q.1;rw[e,aw 0x1];exact G3 (Z:=Z'.map sw) (by rw[aFd];exact hsn) (p:=sw q) (aT.mpr ⟨q,hq,rfl⟩)
 .rcases hn with rfl|hn
  .rw[<-n1 0 (.inl rfl)];rfl
  .rw[<-n1 n (.inr (pm.mem_iff.mpr hn))];have hn2:=hn;rw[<-z1] at hn2;obtain⟨q,hq,rfl⟩:=aT.mp hn2;have h0:q.1≠0:=λz=>by have:=w.wf.qp q.1 hn;lia
   have e:nfZ Z q.1=q.2:=by
    unfold nfZ;rw[aw h0,G3 hnd hq]
   have:=hpos q hq;show nfZ _ q.1=(if nfZ Z q.1=0 then 0 else fz (Z'.map sw) (nfZ Z q.1));rw[e,aw 0x1];unfold nfZ;rw[aw h0];exact G3 (by rw[hfst,<-z1];exact hnd) (p:=(q.1,fz (Z'.map sw) q.2)) (aT.mpr ⟨q,hq,rfl⟩)
theorem aFi:∀(m:ai)(l:aa Str),(enS m l).map (·.1)=(bh l.length).map λ(k:ai)=>((m:ag)+1+k)
 |_,[]=>rfl
 |m,s::l=>by
  show((m:ag)+1)::(enS (m+1) l).map (·.1)=_;rw[aFi (m+1) l,cr,rg,bj,bP];have e1:((m:ag)+1+((0:ai):ag))=m+1:=by lia
  rw[e1];refine cz _ (dh λk _=>?_);show((m+1:ai):ag)+1+k=(m:ag)+1+((k+1:ai):ag);lia
theorem aFj(w:Net kvs Q V)(y:Wy kvs Q V F k SL):(dI (Q.map (cP (plc (SL.flatMap (·.2)))))).map (·.1)=(bh Q.length).map λ(k:ai)=>((1:ag)+k):=by
 have p:=M7 w y.pm;have hl:((SL.flatMap (·.2)).map (nmQ Q)).length=Q.length:=by rw[aI,y.pm.length_eq,aI]
 have e:=aFi 0 ((SL.flatMap (·.2)).map (nmQ Q));rw[hl] at e;have e':(enS 0 ((SL.flatMap (·.2)).map (nmQ Q))).map (·.1)=(bh Q.length).map λ(k:ai)=>((1:ag)+k):=by
  rw[e];exact dh λk _=>by lia
 have hrg:((bh Q.length).map λ(k:ai)=>((1:ag)+k)).Pairwise (·<·):=d4.mpr (Ci.imp λ{a b} h=>by lia);have hp:((dI (Q.map (cP (plc (SL.flatMap (·.2)))))).map (·.1)).Perm ((bh Q.length).map λ(k:ai)=>((1:ag)+k)):=by
  rw[<-e'];exact((eE _).trans p).map _
 refine uL (d4.mpr (R8 ?_)) hrg λx=>hp.mem_iff
 exact((eE _).map _).symm.nodup_iff.mpr (hp.nodup_iff.mpr (hrg.imp λ{a b} h=>by lia))
end
theorem aQ7{sc:D}{s0 c1:ag}{kvs:aa (D×D)}{Q:aa Pc}{V:aa Tie}{r:ag}{n0 n1:Str}{a:ai}{nsd:D}(w:Net kvs Q V)(hl:Q.length<=10)(hV:V.length<=600)(hb:∀pc∈Q,pc.1<=Q.length)(hls:T7 [.dct kvs]=.ok nsd)(hn:nsd≠.uD)(g0:getD nsd (.int 0)=.ok (.str n0))(g1:getD nsd (.int 1)=.ok (.str n1))(ha2:2<=a)(ha:a<=6)(l0:bB kvs (.str n0)=ae (.int a))(l1:bB kvs (.str n1)=ae (.int a)) :
  ∃Q' V',Net kvs Q' V'/\lwh [sc,.int s0,.int c1,.dct kvs,dR Q V r,.uD,.uD]=.ok (.nx [sc,.int s0,.int c1,.dct kvs,dR Q' V' r,.uD,.uD]):=by
 have gs:getD (.dct kvs) (.str n0)=.ok (.int a):=by
  show(if keyOk (.str n0) then ι (bB kvs (.str n0)) else .bad)=_;rw[l0];rfl
 have m2:=fH c1 2 0x4;have f4:=gC c1 4 0x4 0x4;have f2:=gC c1 2 0x4 0x4;have m22:=fH (c1 / 2) 2 0x4;have ms:=fH s0 2 0x4;have mu:=X6 (s0 % 2) 16 (j6 _ 0x1 0x1);have ad:=d9 (c1 / 4) (s0 % 2*16);have e1:dC .eq (.int (c1 % 2)) (.int 1)=.ok (.bl (c1 % 2==1)):=rfl;have e2:dC .eq (.int (c1 / 2 % 2)) (.int 1)=.ok (.bl (c1 / 2 % 2==1)):=rfl;cases h1:(c1 % 2==1) with
 |false=>
  rw[h1] at e1;exact⟨Q,V,w,nY (cX (aJ (aJ rfl rfl m2) rfl e1)) rfl⟩
 |true=>
  rw[h1] at e1;have wh1:=ZF (Q:=Q) (V:=V) (r:=r) (c:=c1 / 4) hls hn g0 g1 gs ha 0x1 0x1;have w1:=aQ6 (c:=c1 / 4) w hb 0x1 0x1 ha2 ha l0 l1;have hl1:(wQ Q n0 n1 (c1 / 4)).length<=18:=by rw[aFc];lia
  have hV1:(dU (V++wT Q a (c1 / 4))).length<=700:=by rw[(bV _).length_eq,cb];have:=aJ5 (Q:=Q) (c:=c1 / 4) ha;lia
  have hb1:=aQ5 (n0:=n0) (n1:=n1) (c:=c1 / 4) hb;generalize wQ Q n0 n1 (c1 / 4)=Q1 at *;generalize dU (V++wT Q a (c1 / 4))=V1 at *;have s1:(cH aj 4 (aP (b_ 3 gV) (aD gD (aD j8 (aD (b2 (bL .fdiv) g_ aBt) aX)))) af) [sc,.int s0,.int c1,.dct kvs,dR Q V r,.uD,.uD]=.ok (.nx [sc,.int s0,.int c1,.dct kvs,dR Q1 V1 r,.uD,.uD]):=bI (i:=4) (aK (xs:=[dR Q V r,.dct kvs,.int (c1 / 4)]) (aC rfl (aC rfl (aC (aJ rfl rfl f4) rfl))) wh1);cases h2:(c1 / 2 % 2==1) with
  |false=>
   rw[h2] at e2;exact⟨Q1,V1,w1,BL (cX (aJ (aJ rfl rfl m2) rfl e1)) (aL s1 (nY (cX (aJ (aJ (aJ rfl rfl f2) rfl m22) rfl e2)) rfl))⟩
  |true=>
   rw[h2] at e2;have wh2:=ZF (Q:=Q1) (V:=V1) (r:=r) (c:=c1 / 4+s0 % 2*16) hls hn g0 g1 gs ha 0x1 0x1;have w2:=aQ6 (c:=c1 / 4+s0 % 2*16) w1 hb1 0x1 0x1 ha2 ha l0 l1;refine⟨_,_,w2,BL (cX (aJ (aJ rfl rfl m2) rfl e1)) (aL s1 (BL (cX (aJ (aJ (aJ rfl rfl f2) rfl m22) rfl e2)) ?_))⟩;exact bI (i:=4) (aK (xs:=[dR Q1 V1 r,.dct kvs,.int (c1 / 4+s0 % 2*16)]) (aC rfl (aC rfl (aC (aJ (aJ rfl rfl f4) (aJ (aJ rfl rfl ms) rfl mu) ad) rfl))) wh2)
theorem aI0{Q:aa Pc}{PS:aa Pc}{r c2 c3:ag}(hsc:sc≠.uD)(hnu:net≠.uD)(hou:other≠.uD)(hc2:b_ 2 cJ [sc,.int 2]=.ok (.int c2))(hc3:b_ 2 cJ [sc,.int 3]=.ok (.int c3))(hf:b_ 3 jO [net,.int c2,.int c3]=.ok other)(hP:P0=.tup (PS.map pcD))(hT0:T0.pure=af)
 (ht:b_ 1 uG [net]=.ok (.tup [P0,T0,.int r]))(ht':b_ 1 uG [other]=.ok (.tup [P0,T0,.int r]))(hs:b_ 2 (cC 6) [.tup [P0,T0,.int r],.tup [P0,T0,.int r]]=.ok (.bl af))(e0:getD net (.int 0)=.ok (.tup (Q.map pcD)))(hPS:PS.map (·.1)=(bh Q.length).map λ(k:ai)=>((1:ag)+k))(hQ:Q.length<=40)
 (ha:b_ 2 qF [net,other]=.ok d)(hd:b_ 3 eV [d,net,other]=.ok (.bl af))(ha':b_ 2 qF [other,net]=.ok d')(hd':b_ 3 eV [d',other,net]=.ok (.bl af)):aLc [sc,x1,x2,x3,net,.uD,.uD]=.ok (.rt (.bl af)):=by
 have v0:∀(x1 x2 x3 x4 x5 x6:D),kJ 0 [sc,x1,x2,x3,x4,x5,x6]=.ok sc:=λ_ _ _ _ _ _=>fC rfl hsc
 have v4:∀(x0 x1 x2 x3 x5 x6:D),kJ 4 [x0,x1,x2,x3,net,x5,x6]=.ok net:=λ_ _ _ _ _ _=>fC rfl hnu
 have v5:∀(x0 x1 x2 x3 x4 x6:D),kJ 5 [x0,x1,x2,x3,x4,other,x6]=.ok other:=λ_ _ _ _ _ _=>fC rfl hou
 have lQ:fV [.tup (Q.map pcD)]=.ok (.int Q.length):=by
  show τ (δ ((Q.map pcD).length:ag))=_;rw[aI]
 have hPl:PS.length=Q.length:=by have:=cz gh hPS;simpa using this
 have hr2:JV [.int 1,.int ((Q.length:ag)+1)]=.ok (.lst (((bh Q.length).map λ(k:ai)=>((1:ag)+k)).map δ)):=by
  show(if ϒ ((-1000000:ag)<=1)&&ϒ ((1:ag)<=1000000)&&ϒ (-1000000<=(Q.length:ag)+1)&&ϒ ((Q.length:ag)+1<=1000000) then τ (ξ ((bh ((Q.length:ag)+1-1).toNat).map λ(k:ai)=>δ (1+k))) else .bad)=_;rw[av (by simp;lia),show((Q.length:ag)+1-1).toNat=Q.length by lia,bP];rfl
 have hpp:θ (PS.map pcD)=af:=zO PS;have t6:∀x:D,(x=P0->x.pure=af)->gv:=λ_ _=>trivial
 have hc:(fJ 7 (dN (b2 getD mX fU) aj) HR iU (b2 getD vU fU) aj) [sc,x1,x2,x3,net,other,.tup [P0,T0,.int r]]=.ok (.lst ((PS.map (·.1)).map δ)):=by
  subst hP;refine i_ (qM (aJ rfl rfl rfl) hpp) (by rw[aI,a_];lia) ?_;rw[jU _ pcD (λc=>δ c.1) PS [] λacc c _=>by
   exact kW (b:=af) (y:=.int c.1) rfl rfl λ_=>⟨aJ (x:=pcD c) rfl rfl rfl,rfl⟩,eI,bP]
  rfl
 rw[hPS] at hc;have ty0:b1 (n6 .tuple) (b2 getD mX fU) [sc,x1,x2,x3,net,other,.tup [P0,T0,.int r]]=.ok (.bl af):=by
  subst hP;exact aAi (x:=.tup (PS.map pcD)) (aJ rfl rfl rfl) rfl
 refine aL (ρ':=[sc,x1,x2,x3,net,other,.uD]) (bI (i:=5) (aK (xs:=[net,.int c2,.int c3]) (aC (v4 _ _ _ _ _ _) (aC (aK (xs:=[sc,.int 2]) (aC (v0 _ _ _ _ _ _) 0xd) hc2) (aC (aK (xs:=[sc,.int 3]) (aC (v0 _ _ _ _ _ _) 0xd) hc3) rfl))) hf)) ?_;refine aL (ρ':=[sc,x1,x2,x3,net,other,.tup [P0,T0,.int r]]) (bI (i:=6) (aK (xs:=[net]) (aC (v4 _ _ _ _ _ _) rfl) ht)) ?_;refine aL (ρ':=[sc,x1,x2,x3,net,other,.tup [P0,T0,.int r]]) (nY (aH9 (rO (b:=af) (wB (aAi (x:=.tup [P0,T0,.int r]) rfl rfl))) (aH9 (cX (aJ (x:=.int 3) (aK (xs:=[.tup [P0,T0,.int r]]) 0xd rfl) rfl (ne_int 3))) (rO (b:=af) (wB ty0)))) rfl) ?_;refine aL (ρ':=[sc,x1,x2,x3,net,other,.tup [P0,T0,.int r]]) (nY (cX (aJ hc (aK (xs:=[.int 1,.int ((Q.length:ag)+1)]) (aC rfl (aC (aJ (aK (xs:=[.tup (Q.map pcD)]) (aC (aJ (v4 _ _ _ _ _ _) rfl e0) rfl) lQ) rfl (d9 _ _)) rfl)) hr2) (aMg _))) rfl) ?_;have hto:(aP (b_ 1 uG) (aD fZ aX)) [sc,x1,x2,x3,net,other,.tup [P0,T0,.int r]]=.ok (.tup [P0,T0,.int r]):=aK (xs:=[other]) (aC (v5 _ _ _ _ _ _) rfl) ht';refine aL (ρ':=[sc,x1,x2,x3,net,other,.tup [P0,T0,.int r]]) (nY (aH9 (rO (b:=af) (wB (aK (xs:=[.tup [P0,T0,.int r],.tup [P0,T0,.int r]]) (aC hto 0xd) hs))) (rO (b:=af) (wB (aK (xs:=[.tup [P0,T0,.int r],.tup [P0,T0,.int r]]) (aC rfl (aC hto rfl)) hs)))) rfl) ?_;exact fX (YJ (aK (xs:=[d,net,other]) (aC (aK (xs:=[net,other]) (aC (v4 _ _ _ _ _ _) (aC (v5 _ _ _ _ _ _) rfl)) ha) (aC (v4 _ _ _ _ _ _) (aC (v5 _ _ _ _ _ _) rfl))) hd) (aK (xs:=[d',other,net]) (aC (aK (xs:=[other,net]) (aC (v5 _ _ _ _ _ _) (aC (v4 _ _ _ _ _ _) rfl)) ha') (aC (v5 _ _ _ _ _ _) (aC (v4 _ _ _ _ _ _) rfl))) hd')) rfl
theorem aMp{ns:aa ag}{kvs:aa (D×D)}{Q:aa Pc}{V:aa Tie}{r:ag}{x1 x2 x3:D}(w:Net kvs Q V):aLc [.scr (ns.map δ),x1,x2,x3,dR Q V r,.uD,.uD]=.ok (.rt (.bl af)):=by
 have hc2:=cell_eq ns 2;have hc3:=cell_eq ns 3;have hu:dR Q V r≠.uD:=λz=>by cases z
 obtain⟨φ,hφ,hfr⟩:=aHz (net:=dR Q V r) (c:=cellAt ns 2) (sd:=cellAt ns 3) (r:=r) w.wf rfl rfl rfl hu;have w':=BJ w hφ;obtain⟨F,k,SL,y,hway⟩:=aF8 (r:=r) w;obtain⟨F',k',SL',y',hway'⟩:=aF8 (r:=r) w';obtain⟨p1,p2⟩:=aHy w hφ y y';obtain⟨d,ha,hd⟩:=aFh w w' y y' hway hway' p1 p2;obtain⟨d',ha',hd'⟩:=aFh w' w y' y hway' hway p1.symm p2.symm;have tp:=R_ (r:=r) p1 p2;have hnum:=aFj w y;have z1:=(aQj w y).1;have z1':=(aQj w' y').1;have c1:=aQk (r:=r) w y;have c1':=aQk (r:=r) w' y';have hu':dR (dI (Q.map (cP φ))) (dU ((V.map (cT φ)).map norm)) r≠.uD:=λz=>by cases z
 have t1:=Y8 (net:=dR Q V r) (r:=r) w.wf rfl rfl rfl hu z1 hway;have t1':=Y8 (net:=dR (dI (Q.map (cP φ))) (dU ((V.map (cT φ)).map norm)) r) (r:=r) w'.wf rfl rfl rfl hu' z1' hway';rw[c1] at t1;rw[c1',<-tp] at t1';have ql:=w.ql;generalize SL.flatMap (·.2)=O at *;generalize SL'.flatMap (·.2)=O' at *;have hsm:b_ 2 (cC 6) [lV Q V r (plc O),lV Q V r (plc O)]=.ok (.bl af):=aHa (by rw[(eE _).length_eq,aI];lia) (by rw[(bV _).length_eq,aI,aI];have:=w.small;lia);exact aI0 (sc:=.scr (ns.map δ)) (x1:=x1) (x2:=x2) (x3:=x3) (net:=dR Q V r) (other:=dR (dI (Q.map (cP φ))) (dU ((V.map (cT φ)).map norm)) r) (Q:=Q) (PS:=dI (Q.map (cP (plc O)))) (r:=r) (λz=>by cases z) hu hu' hc2 hc3 hfr rfl (qH (dU ((V.map (cT (plc O))).map norm))) t1 t1' hsm rfl hnum 0x1 ha hd ha' hd'
theorem main:∀ns:aa ag,ns.length<=63->aAg [.scr (ns.map δ)]=.ok (.bl af):=by
 intro ns hn;have hst:nP (skS (cellAt ns 0) (cellAt ns 1) (bh 5)):=aPf λk hk=>jb.mp hk
 have k4':b_ 2 jN [.int (cellAt ns 0),.int (cellAt ns 1)]=.ok (.dct (skS (cellAt ns 0) (cellAt ns 1) (bh 5))):=(cQ rfl).trans (aH4 _ _);have hne:skS (cellAt ns 0) (cellAt ns 1) (bh 5)≠[]:=by unfold skS;simp
 have hle:(skS (cellAt ns 0) (cellAt ns 1) (bh 5)).length<=5:=by unfold skS;rw[aI,fR];exact bi _
 have hls:=GJ hst;have hkd:lO (skS (cellAt ns 0) (cellAt ns 1) (bh 5))=((bh 5).map λk=>ν (nmK (cellAt ns 0) k)):=by unfold lO skS;rw[bP];rfl
 rw[hkd] at hls;have g0:getD (.lst ((bh 5).map λk=>ν (nmK (cellAt ns 0) k))) (.int 0)=.ok (.str (nmK (cellAt ns 0) 0)):=rfl;have g1:getD (.lst ((bh 5).map λk=>ν (nmK (cellAt ns 0) k))) (.int 1)=.ok (.str (nmK (cellAt ns 0) 1)):=rfl;have es:∀s:Str,eqD (.str s) (.str s)=af:=λs=>by show(s==s)=af;simp
 have l0:bB (skS (cellAt ns 0) (cellAt ns 1) (bh 5)) (.str (nmK (cellAt ns 0) 0))=ae (.int (((2+cellAt ns 1 % 5).toNat:ai):ag)):=by
  show(if eqD (.str (nmK (cellAt ns 0) 0)) (.str (nmK (cellAt ns 0) 0)) then ae (δ (2+cellAt ns 1 % 5)) else _)=_;rw[av (es _),show(((2+cellAt ns 1 % 5).toNat:ai):ag)=2+cellAt ns 1 % 5 by lia]
 have l1:bB (skS (cellAt ns 0) (cellAt ns 1) (bh 5)) (.str (nmK (cellAt ns 0) 1))=ae (.int (((2+cellAt ns 1 % 5).toNat:ai):ag)):=by
  show(if eqD (.str (nmK (cellAt ns 0) 0)) (.str (nmK (cellAt ns 0) 1)) then _ else if eqD (.str (nmK (cellAt ns 0) 1)) (.str (nmK (cellAt ns 0) 1)) then ae (δ (2+cellAt ns 1 % 5)) else _)=_;rw[aw (λz=>by have:=aDo (c0:=cellAt ns 0) (k:=0) (k':=1) 0x1 0x1 (iv.mp z);lia),av (es _),show(((2+cellAt ns 1 % 5).toNat:ai):ag)=2+cellAt ns 1 % 5 by lia]
 have hs:aFp (.scr (ns.map δ)) (ae 2) (ae 66)=.ok (.lst ((cutD ns (ae 2) (ae 66)).map δ)):=by
  show(if θ (ns.map δ) then τ (ξ (cutD (ns.map δ) (ae 2) (ae 66))) else .bad)=_;rw[eO,av rfl,aKl]
 have hcl:=aKm ns (ae 2) (ae 66);obtain⟨Q0,V0,r,w0,q0,q1,q2,hg⟩:=aHb hst hne hle (cutD ns (ae 2) (ae 66)) 0x1 (cellAt ns 0 / 2);have ha2:2<=(2+cellAt ns 1 % 5).toNat/\(2+cellAt ns 1 % 5).toNat<=6:=by lia
 obtain⟨Q,V,w,hwh⟩:=aQ7 (sc:=.scr (ns.map δ)) (s0:=cellAt ns 0) (c1:=cellAt ns 1) (r:=r) w0 q0 q1 q2 hls (λz=>by cases z) g0 g1 ha2.1 ha2.2 l0 l1;generalize skS (cellAt ns 0) (cellAt ns 1) (bh 5)=kvs at *;have hc0:=cell_eq ns 0;have hc1:=cell_eq ns 1;have fd:=gC (cellAt ns 0) 2 0x4 0x4;have htail:=aMp (ns:=ns) (r:=r) (x1:=.int (cellAt ns 0)) (x2:=.int (cellAt ns 1)) (x3:=.dct kvs) w;generalize dR Q V r=net at *;refine call_v ?_;refine aL (ρ':=[.scr (ns.map δ),.int (cellAt ns 0),.uD,.uD,.uD,.uD,.uD]) (bI (i:=1) (aK 0xc hc0)) ?_;refine aL (ρ':=[.scr (ns.map δ),.int (cellAt ns 0),.int (cellAt ns 1),.uD,.uD,.uD,.uD]) (bI (i:=2) (aK 0xc hc1)) ?_;refine aL (ρ':=[.scr (ns.map δ),.int (cellAt ns 0),.int (cellAt ns 1),.dct kvs,.uD,.uD,.uD]) (bI (i:=3) (aK (xs:=[.int (cellAt ns 0),.int (cellAt ns 1)]) 0xc k4')) ?_;refine aL (ρ':=[.scr (ns.map δ),.int (cellAt ns 0),.int (cellAt ns 1),.dct kvs,dR Q0 V0 r,.uD,.uD]) (bI (i:=4) (aK (xs:=[.dct kvs,.lst ((cutD ns (ae 2) (ae 66)).map δ),.int (cellAt ns 0 / 2)]) (aC rfl (aC (aIu rfl rfl rfl hs) (aC (aJ rfl rfl fd) rfl))) hg)) ?_;exact aL hwh htail
end Lk13
section
open PySem PySem.W PyProof.Rows
structure PySem.W.Fast:Prop where(tw17200712395918643290 tw7050979031942648110 tw7465001616560477143 tw6098745570710731007 tw7454359625285195779 tw11695571395507138599 tw13848766498316169114 tw2337365103158524227 tw3929068288616226629 tw528344620850528768 tw13747977148983584337 tw6708360267062974643 tw7624517561633102096 tw5064146622276765348 tw317246288230412434 tw8706081611704732128 tw8028328106451212646 tw2398166811413635667 tw2915440751593268169 tw1200761108722507982 tw8838738634650870572 tw8657744837634015885 tw17044520193557576511 tw11877389152375429997 tw7436915397608765667 tw9886472824677900331 tw11164667125056091085 tw11578068008847676818 tw12970605150318131642 tw3779073866088749278 tw6424043307641391850 tw3997116212240003401 tw9525107218540127940 tw16539402100530066909 tw1170376939797191281 tw7277321567302176453 tw8283635017328360511 tw2717604179884387811 tw756836445785731576 tw4642350692753275342 tw15169081325124600476 tw6847867462022714354 tw8602860925174940785 tw17993142905501700825 tw2342187537991470670 tw1976629028066428943 tw18169573199163284377 tw18247790423791711745 tw7744054285933128660 tw18276988096663650246 tw17205237769299861575 tw13943398292951362907 tw7868465191601948903 tw8623539421511008755 tw11974053645757483239 tw2849981023995994727 tw2243041055454367692 tw18155077982918135031 tw5064029814642723307 tw12863914222277715948 tw17317475553509544132 tw7237738302119598727 tw16679380981663643669 tw1202443245214033954 tw12791230869306213570 tw5449365893870939355 tw9212372516117017394 tw6850846266419280695 tw244532263963182038 tw13393822183882747752 tw13875174751483924592 tw6485602088565366137 tw602144464754721711 tw7665340897473645581 tw13288666173293402858 tw16758539390534566366 tw14211742846870363087 tw4761374544102494345 tw13003069219385731844 tw18028750657310870884 tw17432673529576741533 tw15746579201812550702 tw5195320182532558434 tw4485925708902639916 tw3791800455399019444 tw12075742010972868416 tw12652119205860055013 tw16030854493865495666 tw10464069888317991978 tw9473040367423601919 tw13840405846456753846 tw14787247646628915735 tw9398208742227654141 tw8938275737061566521 tw10730416345781066574 tw7476891222234703514 tw17869305652071461368 tw5011527844473283099 tw13389576236799738233 tw6003222841584628221 tw4888726668100656323 tw3237881981016456714 tw116746399041808616 tw8307063456539792497 tw4735578497390642882 tw1499264032681397913 tw18176886945411907465 tw7894239349269696746 tw1510606546082803372 tw17691860403964041801 tw15909271394548918084 tw14167455796393909388 tw14693352053647321359 tw7517640081925220817 tw7494028035009326032 tw4444852882568765018 tw1238510230136097262 tw14956135380343249493 tw3177572944824789109 tw4949511586046978438 tw3936441250589154155 tw1379434128747239075 tw6543557181306730745 tw2907874061222187151 tw9605566342223144221 tw16493190842764567178 tw5039530733538950183 tw14254675326884217954 tw10422669324738046938 tw184373719859084002 tw16702917464719033353 tw11358878257983393602 tw12920691953508413848 tw498293386529130100 tw250146715314917956 tw6620897061281002557 tw1211116004561856192 tw7226318870370149612 tw3978337109493837757 tw14493573768782042992 tw967050920256113640 tw17180739158078213920 tw6264596337377069655 tw13199632842233898158 tw5006098697484458105 tw12478020533159530655 tw2698367000432398436 tw2128353141720279702 tw5314242443861975761 tw1454517641615020727 tw11680824994578295745 tw6124378539253377665 tw11123880874504218518 tw17398303115707375319 tw3893661085162009606 tw11465212278671117237 tw17682002449904481430 tw1670750312105980801 tw11766116861119467491 tw3842884755730641575 tw2755628660150032084 tw9182570946505676311:True)
set_option maxRecDepth 100000 in
set_option maxHeartbeats 0 in
theorem PySem.Challenge.cw_hookmill_k13_told_of_renumbered_holds : PySem.Challenge.rw_hookmill_k13_told_of_renumbered.Holds := by
 w_on;o_law;k_head;(case hw=>w_witness2)
 k_fill
 refine Lk13.walk (l:=PySem.Challenge.rw_hookmill_k13_told_of_renumbered) Lk13.main rfl rfl (fun w h Y=>PySem.W.kIn_of Y) ?F
 case F=>
  intro w mg fa h KX G hmg
  refine' Lk13.aPe KX G hmg ?A ?a1 ?l1 ?c1 ?k1 ?C
  (case A=>(repeat (refine' Lk13.aTl (Lk13.aRw ?a ?b ?c ?d) ?_;(case a=>k_is);(case b=>k_is);(case c=>k_is);(case d=>k_is)));exact trivial)
  (case C=>(repeat (refine' Lk13.z_c ?a ?_;(case a=>k_is)));exact trivial)
  (case a1|l1|c1|k1=>k_is)
end
