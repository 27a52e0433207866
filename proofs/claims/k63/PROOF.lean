import PyProof.Rows.All
import Wide.All
import OpenK.AllK
import Wide.FinOn
import PySem.Challenge.RW_hookmill_k63_rule_nets
open Array renaming length_toList->lS,getD->mw,getElem?_toList->sP,size_map->uc,getElem?_eq_getElem->um,getElem?_eq_none->uo,perm_iff_toList_perm->yn,toList_map->yo,toList->Al,forIn_toList->B6
open Array.Perm renaming refl->Bg,size_eq->DH,mem_iff->DI
open Bool renaming true->ae,false->ah,and_eq_true->aI,or_eq_true->fT,false_eq_true->iN,and_self->jk,false_ne_true->nB,not_eq_true'->nX,not_eq_true->oQ,true_and->uh,or_false->xy,false_or->xD,or_true->yr,or_eq_false_iff->zy,and_false->AW,true_or->A0,and_assoc->Bc,and_true->Be
open Classical renaming choose->Bq,choose_spec->Br,byContradiction->DS
open False renaming elim->eW
open ForInStep renaming yield->A8
open Function renaming comp_def->Dy,comp->DT
open Int renaming emod_nonneg->eJ,emod_lt_of_pos->ff,toNat_natCast->uq,zero_add->vk,le_refl->C5
open List renaming length_map->aw,length_cons->aS,map_cons->bd,length_append->bg,mem_cons_self->bj,range->bm,mem_cons_of_mem->bp,replicate->bq,mem_cons->bu,mem_map->bE,size_toArray->bS,map_append->b6,getD_eq_getElem?_getD->b9,map_map->cu,getElem?_set_ne->c5,nil_append->c6,nodup_cons->c_,getElem?_eq_some_iff->dj,append_nil->dq,append_assoc->dt,map->dz,mem_append->dQ,getElem?_eq_getElem->d5,length_range->eg,mem_append_right->eu,mem_singleton->eL,cons_append->eP,getElem?_set_self->fg,length_nil->fw,mem_range->fx,lookup->fy,all_eq_true->fA,nodup_nil->fE,getElem?_append_right->gm,getElem?_append_left->gq,getElem?_map->gs,cons_lt_cons_iff->gS,all_cons->hZ,map_nil->io,lookup_cons->iq,getElem?_set->iu,count_cons->iv,reverse_cons->iL,filter_eq_self->iX,flatMap_cons->i6,count_append->i7,mem_append_left->i8,getElem?_replicate->jc,nodup_append->jp,count->jq,pairwise_map->kf,length_set->kg,forIn_nil->k6,not_mem_nil->lq,length->me,length_take->mf,length_drop->mi,find?_cons->mq,any_cons->mr,map_congr_left->mz,range_succ->mB,length_reverse->mE,Nodup->ni,count_nil->nj,mem_filter->nr,filterMap_cons->nu,of_mem_zip->nI,mem_of_getElem?->nK,length_replicate->nL,forIn_cons->n4,zip_cons_cons->n9,toList_toArray->og,getElem_mem->ol,drop_eq_getElem_cons->oq,drop_eq_nil_of_le->ot,getElem?_eq_none->oI,zip_nil_right->tP,getElem_of_mem->ud,pairwise_iff_getElem->ug,replicate_succ->uS,set_comm->vg,forall_mem_cons->vi,pairwise_lt_range->vm,take_append_drop->vn,length_singleton->xB,zip_nil_left->yd,getElem?_cons_succ->yt,dropLast_eq_take->zg,getElem_map->zx,map_reverse->zz,mem_of_mem_drop->zC,mem_of_mem_take->zD,getLastD_eq_getLast?->zI,mem_flatMap->zS,flatMap_append->Aa,mem_filterMap->Au,any_eq_false->Ax,filterMap_map->AH,eraseIdxIfInBounds_toArray->AY,length_dropLast->AZ,any_eq_true->A5,lt_of_le_of_lt->A6,not_lt->A7,range_succ_eq_map->Bb,countP_mono_left->Bh,countP_cons->Bi,toArray->Bn,eq_nil_of_length_eq_zero->Bs,map_fst_zip->Bx,lt_irrefl->By,range'->BI,mem_range'_1->BM,length_eq_one_iff->BS,zipIdx_cons->B4,zipIdx_nil->B5,length_zip->Cc,mem_reverse->Co,ext_getElem?->Cp,set_append_right->Cs,take_of_length_le->CU,drop_zero->C3,filter_cons->C6,length_eq_zero_iff->C8,length_pos_iff->C9,getLast?_eq_getElem?->Da,nodup_range->Dc,perm_append_comm->De,flatMap_nil->Df,pairwise_cons->Dg
open List.Pairwise renaming nil->Dw
open List.Perm renaming swap->vo,eq_of_pairwise->Dx
open List.cons renaming injEq->kT
open List.range renaming loop->C7
open Nat renaming le_refl->aT,ne_of_lt->cn,zero_le->cz,lt_of_lt_of_le->cK,le_trans->c9,le_of_ble_eq_true->dm,le_succ->gp,lt_irrefl->gL,lt_succ_of_lt->g9,zero_add->ia,ne_of_gt->ic,lt_succ_self->iE,le_add_right->jo,lt_or_ge->ke,le_of_lt->lz,lt_of_not_le->ou,lt_of_le_of_lt->ui,le_of_eq->wj,not_lt_zero->ye,le_succ_of_le->yl,add_assoc->zu,add_sub_of_le->zw,le_of_not_lt->A3,not_lt->Bj,add_zero->BH,add_le_add_left->BQ,lt_trichotomy->Ct,sub_self->CF,add_sub_cancel_left->CM,succ_ne_self->CS,succ_pos->CY,add_comm->C0,succ_lt_succ->C1,sub_zero->C4,mul_le_mul->Dd
open Nat.succ renaming inj->lc
open Ne renaming symm->cq
open Option renaming some->ab,none->ai,map_eq_some_iff->ka,bind_some->ow,isSome_iff_exists->wz,isSome_map->xE,getD_some->xS,getD_none->AS
open Option.some renaming inj->cS
open Or renaming inl->ip
open Prod renaming ext->xl
open PyProof.Rows renaming seqObj->du,pairsOf->e9,envOfC->fS,callWith_type1->iz,Keyed->jj,AllBare->ju,IsTup->kx,SortKind->mx,IntsAre->nS,subscriptTail->sD,tuples'->ue,slot_tuple_getitem->xm,Subscript_->xo,tail_any->xq,keyKind'->yf,sortedHeap->yg,listUpdate_at->yh,seqEpoch_at->yi,isTrue_plain->Ak,slicePart_none->AF,entry_tuple_getitem->AJ,args_tuple_getitem->AK,tupleItemsOf_->AM,subscriptTail_builtinR->AR,keyLt'_oneType->Bu,oneLt_int->Bv,oneLt_str->Bw,pairsOf_size->Bz,boot_enumerate->CO,callWith_builtin1->Do,lt_int->DB,le_int->DC,gt_int->DD,ge_int->DE,lt_str->DF,pairsOf_toList->DJ,mem_zip_self->DL,collect_list->DM,size_push'->DO
open PySem renaming Value->aj,Addr->ak,wpAny_bind->am,Shared->ao,model->av,Heap->az,wpAny_pure->aE,sizeLine->ba,eval->bc,Obj->bf,Stmt->bn,World->br,starEach->bP,cLine->bX,Program->b5,mainGlobals->cb,Around->cg,Pos->cj,Builtin->de,Env->dg,compareOp->dh,sizeLine_eq->di,swapsWith->dw,bootBuiltins->dA,Tok->dP,FuncData->dS,rawInt->d6,foldedSetIterable->eB,binaryOp->e6,wpAny_field->fj,wpAny_holding->fq,Scope->fR,strIterType->f_,sysModules->gf,wpAny_mono->gk,attributeBase->gn,wpAny_seqItems->gx,pyNext->gN,Sem->ib,wpAny_Call_Name_kw->ii,IsPart->ik,backTo->iw,NameKind->iF,relabel->iO,wpAny_pyIter_tuple->iP,codeAny_builtin->iS,holding->i9,getItem->jd,call_meets->je,stored->jg,Meets->ji,bindL->jw,bindC->jx,wpAny_typeOf->jy,wpAny_newObj_type->jz,typeLookup->jI,sliceBounds->jS,atKey->j3,merged->kb,wpAny_letGo->ki,typeLookup_type->kj,builtinLookup_eq_fast->ko,Paired->kt,isTrue->ky,spliced->kA,standAt->kC,wpAny_passesOwn->kF,pyIter->kG,rule->kH,BindsTo->kK,codeAny_mono->kL,wpAny_callSpecial?_slot->kN,callerA->kQ,updateSeq->lh,plainId_quiet->li,tupleKind->lr,truthy->lI,wpAny_truthy_bool->lP,behindInMarks->lT,Result->md,mem_of_lookup->mh,typeOf->mj,valueAt->ms,compPost->mv,wpAny_rule->mI,wpAny_setField_rec->mN,GenState->mP,Drawn->mS,OsState->mT,wpAny_tryCatch->ng,wpAny_updateSeq->nh,assign->nv,assignEach->nw,PassesOwn->ny,letOwnedTupleGo->nE,wpAny_call_entry->nN,DictEntry->nV,collect->oh,entryFor->ox,table->oy,plainId->oz,Str->oS,Within->sg,wpAny_execs_nil->sh,unaryOp->so,getMethod->sx,callWith->sy,concat_meets->sB,seqIndex?->sK,subscripted->sL,slicePick->sM,tupleKind_room_in1->sR,CmpOp->tN,richCompare_meets_room->ub,field->ut,getAttr?->uy,Draws->ve,builtinsNs->vw,backToKw->vx,keywordEach->vE,wpAny_Name->vF,getAttr->wc,wpAny_call->wq,cellsFrom->wy,noFill_tuple_add->w_,seq_tuple_add->xg,evalPart_none->xn,operate->xr,slot_list_getitem->xu,typeIs_str->xw,call->xL,newList->yb,wpAny_newTuple->yj,wpAny_specialOf->yp,Fin->yw,wpAny_onRaise->yx,entryFor_alias->yA,raisesAttr->yB,wpAny_raiseAttrError->yT,attrMsg_fits->yY,sub_AttributeError->zc,getattributeRaised->zd,callType_codes->zf,seqItems?->zj,wpAny_ite_split->zn,dictSize->zr,wpAny_pyIter_enum->zt,wpAny_Constant_int->Ai,wpAny_execs_cons->Am,interactive->An,wpAny_pyNext_list_item->Ao,wpAny_pyNext_list_end->Ap,wpAny_pyNext_tuple_item->Aq,wpAny_pyNext_tuple_end->Ar,IsRangeIter->As,intBits_le_64->Av,recursionLimit->AC,wpAny_sequenceKey->AI,wpAny_Slice->AN,seqIndex_of->AQ,wpAny_getItem_list_slice->AT,call_list_seq->AU,comprehension->A9,eval_ListComp->Ba,richCompare->Bf,wpAny_newList->Bk,wpAny_pyIter_list->BG,wpAny_standAt->BN,wpAny_Assign_Subscript->BO,call_len_dict->BY,callType_new->B7,wpAny_attempt->B8,wpAny_isInstance->Cb,wpAny_dictSet_pairs->Cd,kt_code_dict_new->Ci,wpAny_notOrdered_dict->Ck,call_function_tree->Cq,wpAny_of_eq->Cr,sub_enumerate->Cu,wpAny_stack_any->Cv,codeAny_call_builtin->CC,isSubtype_type->CD,wpAny->ϑ
open Decidable renaming decide->ϒ
open PySem.Around renaming under_plainId->jn,under->wm
open PySem.AutoSeq1 renaming wpAny_loadPart'->lj,list_extend_list_list_0->Dt,sub_tuple_tuple->Dz
open PySem.BindsTo renaming of_defaults->vh
open PySem.Builtin.Builtins renaming bindParams->D3
open PySem.Builtin.Dict renaming addKeywords->ze,selfAndRest->D2,pendingCount->D5
open PySem.Builtin.List renaming listExtendWith->oP,listTooLong->xA,listLengthHint->zk,listItems->Cy,listSameRef->Cz,listUpdate->D4
open PySem.Builtin.Range renaming rangeSize->Dh
open PySem.Builtin.Slice renaming slicePlaces->sC,sliceAdjust->xk,sliceApplied->AG,slicePartIndex->Dp,sliceFields->Dq
open PySem.Builtin.SmallTypes renaming nextOf->lg,ownedTupleIsFree->yz,fitsIndex->zq,ownedTupleHandOut->DZ
open PySem.Builtin.Str renaming occurrences->Aw,strSliceIndices->BU,tooLong->DU
open PySem.Builtin.Tuple renaming tupleItemsOf->AL,tupleCompareSizes->DA
open PySem.Calls renaming spliced_nil->l8,spliced_cons->ma,Name_function_global->Aj,callWith_builtin->AV,call_function_entry->Bp
open PySem.Code renaming quiet_builtin->oB,isFrame->wo,frames->AD,call->CB
open PySem.Data renaming fields->vS,cell->vT,seq->Ah
open PySem.DictEntry renaming refKey->Di
open PySem.F renaming plainAttrs_list->la,slot_list_append->sN,slot_list_pop->sQ,slot_tuple_iterator_next->ur,slot_zip_next->uz,called_enumerate->u7,slot_tuple_add->xh,entry_tuple_add->xi,args_tuple_add_2->xj,slot_list_extend->xC,type_list_append->yq,slot_zip_getattribute->zb,slot_list_getattribute->zh,slot_tuple_getattribute->zi,entry_list_pop->AX,type_list_pop->B0,entry_tuple_iterator_next->B2,args_tuple_iterator_next_1->B3,entry_zip_next->B9,args_zip_next_1->Ca,kt_called_dict->Ce,kt_typeCall_dict_1->Cf,entry_dict_init->Cg,args_dict_init_2->Cj,type_list_extend->Cm,entry_enumerate_new->Cw,plain_extend_loop->CA,slot_dict_len->CI,plain_list_iadd->CL
open PySem.Heap renaming get?_push_of_some->bw,lt_size->bz,get?_push_size->cx,size_push->dE,SameBut->gj,get?_update_self->kh,get?_update_other->kP,IsTuple->uv,size_update->yk,ExtBut->yu,NewAttrErr->za,get?_push_ne->Bl,get?_update_ne->Bo
open PySem.Heap.DictOf renaming new->xI
open PySem.Heap.IsSliceOf renaming new->AO
open PySem.Heap.IsTuple renaming push->D1
open PySem.Heap.Ns1 renaming of_empty->Dm
open PySem.Heap.SameBut renaming update->B1,refl->D0
open PySem.IsL renaming update->Dr
open PySem.IsiPair renaming dict_int->BA,dict_str->BB,dict_bool->BC,dict_list->BD,dict_tuple->BE,dict_dict->BF
open PySem.MeetsSeq renaming list_pop_last->Du,list_pop_at->Dv
open PySem.NameKind renaming free->kc,cell->ya
open PySem.Obj renaming mapSeq->ef
open PySem.Paired renaming length->jr,snoc->A1
open PySem.PassesOwn renaming never->dv
open PySem.SeqAt.EqAt renaming same->yc,int_str->Ad,str_int->Ae,of_refs->Bd
open PySem.Shared renaming heap->ux
open PySem.Str renaming empty->AB,ofString->CH
open PySem.Txt renaming mul->lf,slice->uj
open PySem.Value renaming ref->eo,type->fN,str->nq,int->rc,none->r_,bool->se,isInt->Ab,isStrOf->Ac,bytes->Af,float->Ag
open PySem.W renaming Frag->bi,keepIn->iA,findIn->ja,emptyDict->jb,nsIn->jh,instObj->jt,fnOf->kM,kas_rev->k9,kas_item->om,lookIn->ss,plainGet->su,codeIn->sA,methodObj->vq,hasDictIn->wb,plainGet_of->we,isFn->wf,takerIn->wg,callWith_K->wu,kat_kind->ym,handedIn->Ay,plainOver->Az,makesIn->AA,cellsFrom_some->AE
open PySem.W.Looks renaming of_pure->uf,here->Dj
open PySem.W.WData renaming int->A2
open PySem.W.WShape renaming has->A4
open PySem.Within renaming cons->Dl
open Sum renaming inr->fF,inl->kq
open True renaming intro->jv
open _root_ renaming List->aa,Nat->af,Int->ag,if_pos->al,Bool->aq,Option->ar,if_neg->au,Array->ax,absurd->ay,decide_eq_true->bh,False->ck,DecidableEq->cr,decide_eq_false->cw,congrArg->cy,of_decide_eq_true->c8,beq_self_eq_true->dy,decide_eq_true_eq->dL,String->eh,if_true->eI,beq_eq_false_iff_ne->fI,if_false->gu,not_or->gw,True->gz,beq_iff_eq->ig,dif_pos->oj,decide_eq_false_iff_not->s_,eq_iff_iff->ua,Decidable->zo,bne_self_eq_false->Bm
set_option Elab.async false
set_option maxRecDepth 100000
set_option maxHeartbeats 4000000
noncomputable section
local macro_rules|`(0x0)=>`(by trivial)|`(0x1)=>`(by lia)|`(0x2)=>`(by simp)|`(0x3)=>`(by rfl)|`(0x4)=>`(by decide)|`(0x5)=>`(by with_unfolding_all rfl)|`(0x6)=>`(by decide +kernel)|`(0x7)=>`(by intro z;cases z)|`(0x8)=>`(by kernel_rfl)|`(0x9)=>`(by refine⟨rfl,?_,?_,?_,?_,?_,?_⟩<;>decide +kernel)|`(0xa)=>`(by refine⟨rfl,rfl,rfl,?_,rfl,?_,?_⟩<;>decide +kernel)
set_option linter.all false
set_option autoImplicit true
set_option genSizeOfSpec false
set_option genInjectivity true
abbrev nDb(x:oS):Prop:= (x==("__debug__" : oS))=ah
abbrev nCd(x:oS):Prop:= (x==("__classdict__" : oS))=ah
namespace L2
open PySem PySem.Spec PyProof.Rows
noncomputable abbrev Key:=Sum ag Str
noncomputable def QS:Key->aj->aq
 |.inl k,v=>Ab k v
 |.inr x,v=>Ac x v
noncomputable def aTe(w:br):Key->ag
 |.inl k=>hashInt k
 |.inr x=>hashStr w x
theorem dJ:∀{k:Key}{v:aj},QS k v=ae->(∃i t,k=kq i/\v=rc i t)\/(∃x t,k=fF x/\v=nq x t)
 |.inl i,v,h=>by
  obtain⟨t,e⟩:=Value.isInt_shape h;exact .inl ⟨i,t,rfl,e⟩
 |.inr x,v,h=>by
  obtain⟨t,e⟩:=Value.isStrOf_shape h;exact .inr ⟨x,t,rfl,e⟩
theorem Z6(i:ag)(t:dP):QS (.inl i) (.int i t)=ae:=by simp[QS,Ab]
theorem Z7(x:Str)(t:dP):QS (.inr x) (.str x t)=ae:=by simp[QS,Ac]
theorem aMm(a b:ag):ϒ ((kq a:Key)=kq b)=(a==b):=by
 by_cases e:a=b
 ·subst e;simp
 ·have h:¬(kq a:Key)=kq b:=λq=>e (Sum.inl.inj q)
  rw[cw h];exact(fI.mpr e).symm
theorem aMn(a b:Str):ϒ ((fF a:Key)=fF b)=ϒ (a=b):=by
 by_cases e:a=b
 ·subst e;simp
 ·have h:¬(fF a:Key)=fF b:=λq=>e (Sum.inr.inj q)
  rw[cw h,cw e]
theorem aMo(a:ag)(b:Str):ϒ ((kq a:Key)=fF b)=ah:=cw (λq=>nomatch q)
theorem aMp(a:Str)(b:ag):ϒ ((fF a:Key)=kq b)=ah:=cw (λq=>nomatch q)
def cL(prog:b5)(w:br):PySem.KeyKind prog w Key where
 is:=QS
 hash:=aTe w
 inj:=λv a b ha hb=>by
  rcases dJ ha with ⟨i,t,rfl,rfl⟩|⟨x,t,rfl,rfl⟩
  ·rcases dJ hb with ⟨j,u,rfl,e⟩|⟨y,u,rfl,e⟩
   ·injection e with e1 _;rw[e1]
   ·exact nomatch e
  ·rcases dJ hb with ⟨j,u,rfl,e⟩|⟨y,u,rfl,e⟩
   ·exact nomatch e
   ·injection e with e1 _;rw[e1]
 byValue:=λk v h=>by
  rcases dJ h with ⟨i,t,rfl,rfl⟩|⟨x,t,rfl,rfl⟩<;>rfl
 pyHash:=λhv h=>by
  rcases dJ hv with ⟨i,t,rfl,rfl⟩|⟨x,t,rfl,rfl⟩
  ·exact wpAny_pyHash_int h
  ·exact wpAny_pyHash_str h
 eqBool:=λhu hv h=>by
  rcases dJ hu with ⟨i,t,rfl,rfl⟩|⟨x,t,rfl,rfl⟩
  ·rcases dJ hv with ⟨j,u,rfl,rfl⟩|⟨y,u,rfl,rfl⟩
   ·rw[aMm] at h;exact wpAny_eqBool_int h
   ·rw[aMo] at h;exact Ad i t y u _ _ _ _ h
  ·rcases dJ hv with ⟨j,u,rfl,rfl⟩|⟨y,u,rfl,rfl⟩
   ·rw[aMp] at h;exact Ae x t j u _ _ _ _ h
   ·rw[aMn] at h;exact wpAny_eqBool_str h
 «strs»:=λk x t v h=>by
  rcases dJ h with ⟨i,u,rfl,e⟩|⟨y,u,rfl,e⟩
  ·exact nomatch e
  ·injection e with e1 _
   subst e1;cases v<;>rfl
theorem QT(prog:b5)(w:br)(i:ag)(t:dP):(cL prog w).is (.inl i) (.int i t)=ae:=Z6 i t
theorem QV(prog:b5)(w:br)(x:Str)(t:dP):(cL prog w).is (.inr x) (.str x t)=ae:=Z7 x t
inductive V where
 |non|bl (b:aq)|int (i:ag)|str (x:Str)|byt (b:ax UInt8)|flt (b:UInt64)|ref (a:ak)|ty (n:eh)
 deriving cr
def RelV:V->aj->Prop
 |.non,u=>u=r_
 |.bl b,u=>u=se b
 |.int i,u=>∃t,u=rc i t
 |.str x,u=>∃t,u=nq x t
 |.byt b,u=>∃t,u=Af b t
 |.flt b,u=>∃t,u=Ag b t
 |.ref a,u=>u=eo a
 |.ty n,u=>u=fN n
abbrev Vals:aa V->aa aj->Prop:=kt RelV
theorem Vals.length(r:Vals xs us):xs.length=us.length:=jr r
theorem Vals.get:∀{xs:aa V}{us:aa aj}{i:af}{x:V},Vals xs us->xs[i]?=ab x->∃u,us[i]?=ab u/\RelV x u
 |_,_,_,_,.nil,e=>by simp at e
 |_,_,0,_,.cons r _,e=>by simp at e;subst e;exact⟨_,rfl,r⟩
 |_,_,i+1,x,.cons _ t,e=>by
  obtain⟨u,h1,h2⟩:=Vals.get t (by simpa using e);exact⟨u,by simpa using h1,h2⟩
theorem Vals.append:∀{xs ys:aa V}{us ws:aa aj},Vals xs us->Vals ys ws->Vals (xs++ys) (us++ws)
 |_,_,_,_,.nil,s=>s
 |_,_,_,_,.cons r t,s=>.cons r (Vals.append t s)
theorem Vals.take:∀{xs:aa V}{us:aa aj}(n:af),Vals xs us->Vals (xs.take n) (us.take n)
 |_,_,0,_=>.nil
 |_,_,_+1,.nil=>.nil
 |_,_,n+1,.cons r t=>.cons r (Vals.take n t)
theorem Vals.drop:∀{xs:aa V}{us:aa aj}(n:af),Vals xs us->Vals (xs.drop n) (us.drop n)
 |_,_,0,r=>r
 |_,_,_+1,.nil=>.nil
 |_,_,n+1,.cons _ t=>Vals.drop n t
def QK:ar V->ar aj->Prop
 |some v,ab u=>RelV v u
 |none,ai=>gz
 |_,_=>ck
def KV{κ:Type}:aa (κ×V)->aa (κ×aj)->Prop:=kt λ(p:κ×V)(q:κ×aj)=>p.1=q.1/\RelV p.2 q.2
noncomputable def kV:Key->V
 |.inl i=>.int i
 |.inr x=>.str x
inductive HO where
 |lst (xs:aa V)
 |tup (xs:aa V)
 |dK (kvs:aa (Key×V))|dT (kvs:aa (aa Key×V))
 |set (S:ag->aq) (n:af)
 |ins (C dx:ak) (fs:aa (Str×V))
 |own (x:ak)
 |xd (fs:aa (Str×V))
 |met (f x:ak)
 |rng (lo hi:ag)
 |frz (o:bf) (u:HO)
 |tbl (ps:ax aj)
 |ext (φ:az->Prop)
noncomputable abbrev Hp:=ak->ar HO
noncomputable def upd(H:Hp)(a:ak)(o:HO):Hp:=λb=>if b=a then ab o else H b
theorem aK:upd H a o a=ab o:=by unfold upd;rw[al rfl]
theorem bG(h:b≠a):upd H a o b=H b:=by unfold upd;rw[au h]
theorem QW:upd (upd H a o) a u=upd H a u:=by
 funext b;unfold upd;split<;>rfl
theorem GP{H:Hp}(h:H a=ab o)(h':H b=ab u)(d:o≠u):a≠b:=by
 intro e;subst e;rw[h] at h';exact d (cS h')
theorem dI{H:Hp}(h:H a=ab o)(h':H b=ai):a≠b:=by
 intro e;subst e;rw[h] at h';cases h'
def j7(h:az)(a:ak)(its:ax aj):Prop:=∃o,h.get? a=ab o/\o.cls=.type "tuple"/\∃n,(o.data,o.dict)=(Ah its n,ai)
theorem j7.tup{h:az}{a:ak}{its:ax aj}(t:j7 h a its):kx h a its:=let ⟨o,e,c,n,d⟩:=t;⟨o,e,c,n,cy (·.1) d⟩
theorem j7.bare(t:j7 h a its):∃o,h.get? a=ab o/\o.dict=ai:=let ⟨o,e,_,_,d⟩:=t;⟨o,e,cy (·.2) d⟩
theorem j7.new(h:az)(items:ax aj):j7 (h.push {cls:=.type "tuple",data:=.seq items}) h.objs.size items:=⟨_,cx _ rfl,rfl,_,rfl⟩
section
variable (P:b5) (w:br)
def jD(H:Hp)(h:az)(a:ak):HO->Prop
 |.lst xs=>xs.length<=ba/\∃(its:aa aj)(n:af),Vals xs its/\h.get? a=ab {cls:=.type "list",data:=.seq its.toArray n}
 |.tup xs=>xs.length<=ba/\∃its:aa aj,Vals xs its/\j7 h a its.toArray
 |.dK kvs=>kvs.length<=ba/\(a==gf)=ah/\∃vs,KV kvs vs/\h.DictOf (cL P w) a vs
 |.dT kvs=>kvs.length<=ba/\(a==gf)=ah/\∃xs:aa (aa Key×ak×aj),
   kt (λ(p:aa Key×V)(q:aa Key×ak×aj)=>p.1=q.1/\H q.2.1=ab (.tup (p.1.map kV))/\RelV p.2 q.2.2) kvs xs/\
   ∃o es ep,h.get? a=ab o/\o.ExactDict/\o.data=.dict es ep/\es.toList=xs.map (entryOfKey (lr (cL P w)))/\(xs.map (·.1)).Nodup
 |.set S n=>h.SetOf (intKind P w) a S n
 |.ins C dx fs=>H dx=ab (.own a)/\fs.length<=1000/\dx≠a/\h.get? a=ab (jt C dx)/\
   ∃mA,h.Ns1 dx mA/\(∀f,QK (fs.lookup f) (mA f))/\sg mA (fs.map (·.1))
 |.own _=>∃o,h.get? a=ab o
 |.xd fs=>∃mA,h.Ns1 a mA/\∀f,QK (fs.lookup f) (mA f)
 |.rng lo hi=>∃t u v,h.get? a=ab {cls:=.type "range",data:=.fields #[.int lo t,.int hi u,.int 1 v]}
 |.frz o u=>h.get? a=ab o/\jD H h a u
 |.tbl ps=>h.get? a=ab {cls:=.none,data:=.fields ps}
 |.met f x=>h.get? a=ab (vq (.ref f) (.ref x))
 |.ext φ=>φ h/\(∃o,h.get? a=ab o)/\∀h1 h2:az,φ h1->(∀o,h1.get? a=ab o->h2.get? a=ab o)->φ h2
def HOk(H:Hp)(h:az):Prop:=∀a o,H a=ab o->jD P w H h a o
end
section
variable {a:ak}
theorem jD.lt(x:jD P w H h a o):a<h.objs.size:=by
 cases o with
 |lst xs=>obtain⟨_,_,_,_,e⟩:=x;exact bz e
 |tup xs=>obtain⟨_,_,_,p⟩:=x;exact p.tup.lt
 |dK kvs=>obtain⟨_,_,_,_,o,_,_,e,_⟩:=x;exact bz e
 |dT kvs=>obtain⟨_,_,_,_,o,_,_,e,_⟩:=x;exact bz e
 |set S n=>obtain⟨o,_,_,_,e,_⟩:=x;exact bz e
 |ins C dx fs=>obtain⟨_,_,_,e,_⟩:=x;exact bz e
 |own y=>obtain⟨_,e⟩:=x;exact bz e
 |xd fs=>obtain⟨_,⟨_,_,_,e,_⟩,_⟩:=x;exact bz e
 |rng lo hi=>obtain⟨_,_,_,e⟩:=x;exact bz e
 |frz ob u=>obtain⟨e,_⟩:=x;exact bz e
 |tbl ps=>exact bz (show h.get? a=ab _ from x)
 |met f y=>exact bz (show h.get? a=ab _ from x)
 |ext φ=>obtain⟨_,⟨_,e⟩,_⟩:=x;exact bz e
theorem Paired.aQy:∀{l₁:aa α}{l₂:aa β},kt F l₁ l₂->(∀a b,F a b->G a b)->kt G l₁ l₂
 |_,_,.nil,_=>.nil
 |_,_,.cons r t,f=>.cons (f _ _ r) (Paired.aQy t f)
theorem jD.stay(x:jD P w H h a o)(k:∀b u,(b=a\/H b=ab (.own a))->h.get? b=ab u->h'.get? b=ab u)
 (ho:∀b,H b=ab (.own a)->H' b=ab (.own a))(ht:∀b xs,H b=ab (.tup xs)->H' b=ab (.tup xs)):jD P w H' h' a o:=by
 induction o with
 |lst xs=>obtain⟨z,its,n,r,e⟩:=x;exact⟨z,its,n,r,k _ _ (.inl rfl) e⟩
 |tup xs=>obtain⟨z,its,r,ob,e,c⟩:=x;exact⟨z,its,r,ob,k _ _ (.inl rfl) e,c⟩
 |dK kvs=>obtain⟨z,y,vs,r,ob,es,ep,e,c⟩:=x;exact⟨z,y,vs,r,ob,es,ep,k _ _ (.inl rfl) e,c⟩
 |dT kvs=>
  obtain⟨z,y,xs,r,ob,es,ep,e,c⟩:=x;exact⟨z,y,xs,Paired.aQy r λp q z=>⟨z.1,ht _ _ z.2.1,z.2.2⟩,ob,es,ep,k _ _ (.inl rfl) e,c⟩
 |set S n=>obtain⟨ob,es,ep,t,e,c⟩:=x;exact⟨ob,es,ep,t,k _ _ (.inl rfl) e,c⟩
 |ins C dx fs=>
  obtain⟨d,z,ne,e,mA,⟨od,es,ep,e2,c⟩,r⟩:=x;exact⟨ho _ d,z,ne,k _ _ (.inl rfl) e,mA,⟨od,es,ep,k _ _ (.inr d) e2,c⟩,r⟩
 |own y=>obtain⟨ob,e⟩:=x;exact⟨ob,k _ _ (.inl rfl) e⟩
 |xd fs=>obtain⟨mA,⟨od,es,ep,e,c⟩,r⟩:=x;exact⟨mA,⟨od,es,ep,k _ _ (.inl rfl) e,c⟩,r⟩
 |rng lo hi=>obtain⟨t,u,v,e⟩:=x;exact⟨t,u,v,k _ _ (.inl rfl) e⟩
 |frz ob u ih=>obtain⟨e,q⟩:=x;exact⟨k _ _ (.inl rfl) e,ih q⟩
 |tbl ps=>
  have e:h.get? a=ab {cls:=.none,data:=.fields ps}:=x;show h'.get? a=ab {cls:=.none,data:=.fields ps};exact k a _ (.inl rfl) e
 |met f y=>
  have e:h.get? a=ab (vq (.ref f) (.ref y)):=x;show h'.get? a=ab (vq (.ref f) (.ref y));exact k a _ (.inl rfl) e
 |ext φ=>obtain⟨p,⟨o,e⟩,st⟩:=x;exact⟨st _ _ p λo q=>k _ _ (.inl rfl) q,⟨o,k _ _ (.inl rfl) e⟩,st⟩
theorem HOk.lt(x:HOk P w H h)(e:H a=ab o):a<h.objs.size:=(x a o e).lt
theorem HOk.fresh(x:HOk P w H h)(e:h.objs.size<=a):H a=ai:=by
 cases q:H a with
 |none=>rfl
 |some u=>exact ay (cK (x.lt q) e) (gL _)
theorem HOk.kept(x:HOk P w H h)(k:∀b u,h.get? b=ab u->h'.get? b=ab u):HOk P w H h':=λa o e=>
 (x a o e).stay (λb u _ q=>k b u q) (λ_ q=>q) λ_ _ q=>q
theorem HOk.laid(x:HOk P w H h)(k:∀b u,h.get? b=ab u->h'.get? b=ab u)(hp:h.objs.size<=a)(new:jD P w (upd H a o) h' a o):HOk P w (upd H a o) h':=λb u e=>by
 have hn:=x.fresh hp;by_cases hb:b=a
 ·subst hb;rw[aK] at e;cases e;exact new
 ·rw[bG hb] at e;exact(x b u e).stay (λc v _ q=>k c v q) (λc q=>by rw[bG (dI q hn)];exact q) λc xs q=>by rw[bG (dI q hn)];exact q
end
def Rd(H:Hp)(a:ak)(u:HO):Prop:=H a=ab u\/∃o,H a=ab (.frz o u)
theorem Rd.ok(r:Rd H a u)(x:HOk P w H h):jD P w H h a u:=by
 rcases r with r|⟨o,r⟩
 ·exact x a u r
 ·obtain⟨_,q⟩:=x a _ r;exact q
def Mut:ar HO->Prop
 |some (.lst _)=>gz
 |some (.dK _)=>gz
 |some (.dT _)=>gz
 |some (.set _ _)=>gz
 |some (.ins _ _ _)=>gz
 |some (.ext _)=>gz
 |_=>ck
section
variable {x e:ak}
theorem HOk.write(ok:HOk P w H h)(mu:Mut (H x))(he:e=x\/H e=ab (.own x))(k:∀b u,b≠e->h.get? b=ab u->h'.get? b=ab u)(heo:∃u,h'.get? e=ab u)
 (new:jD P w (upd H x o') h' x o'):HOk P w (upd H x o') h':=λb u q=>by
 have nown:∀c y,H c=ab (.own y)->c≠x:=λc y r z=>by subst z;rw[r] at mu;exact mu
 have ntup:∀c xs,H c=ab (.tup xs)->c≠x:=λc xs r z=>by subst z;rw[r] at mu;exact mu
 by_cases hb:b=x
 ·subst hb;rw[aK] at q;cases q;exact new
 ·rw[bG hb] at q;by_cases hbe:b=e
  ·have q':H b=ab (.own x):=by
    rcases he with z|z
    ·exact ay (hbe.trans z) hb
    ·rw[hbe];exact z
   rw[q] at q';cases q';obtain⟨v,hv⟩:=heo;exact⟨v,by rw[hbe];exact hv⟩
  ·refine(ok b u q).stay (λc v hc r=>k c v ?_ r) (λc r=>by rw[bG (nown c b r)];exact r) λc xs r=>by rw[bG (ntup c xs r)];exact r
   rcases hc with rfl|hc
   ·exact hbe
   ·rintro rfl;rcases he with z|z
    ·exact nown c b hc z
    ·rw[hc] at z;cases z;exact hb rfl
end
structure Un(fs ex:aa ak)(H H':Hp)(h h':az):Prop where
 keep:∀b o,h.get? b=ab o->H b=ai->b∉fs->b∉ex->h'.get? b=ab o
 slot:∀b o,h.get? b=ab o->H b=ai->b∈fs->b∉ex->∃sl,h'.get? b=ab {o with slots:=sl}
 free:∀b o,h.get? b=ab o->H b=ai->b∉ex->H' b=ai
 there:∀b o,h.get? b=ab o->b∉ex->∃o',h'.get? b=ab o'
 tups:∀b xs,H b=ab (.tup xs)->H' b=ab (.tup xs)
 frzs:∀b o u,H b=ab (.frz o u)->H' b=ab (.frz o u)
 tbls:∀b ps,H b=ab (.tbl ps)->∃more,H' b=ab (.tbl (ps++more))
section
theorem Un.any(u:Un fs ex H H1 h h1)(q:h.get? b=ab ob)(n:H b=ai)(hx:b∉ex):∃sl,h1.get? b=ab {ob with slots:=sl}:=by
 by_cases hb:b∈fs
 ·exact u.slot b ob q n hb hx
 ·exact⟨ob.slots,u.keep b ob q n hb hx⟩
theorem Un.kept(k:∀b u,h.get? b=ab u->h'.get? b=ab u):Un fs ex H H h h':=
 ⟨λb ob q _ _ _=>k b ob q,λb ob q _ _ _=>⟨ob.slots,k b ob q⟩,λ_ _ _ n _=>n,λb ob q _=>⟨ob,k b ob q⟩,λ_ _ q=>q,λ_ _ _ q=>q,λ_ ps q=>⟨#[],by rw[q];simp⟩⟩
theorem Un.refl:Un fs ex H H h h:=Un.kept λ_ _ q=>q
theorem Un.laid(k:∀b u,h.get? b=ab u->h'.get? b=ab u)(hp:h.objs.size<=a)(hn:H a=ai):Un fs ex H (upd H a o) h h' where
 keep:=λb u q _ _ _=>k b u q
 slot:=λb u q _ _ _=>⟨u.slots,k b u q⟩
 free:=λb u q n _=>by rw[bG (cn (cK (bz q) hp))];exact n
 there:=λb u q _=>⟨u,k b u q⟩
 tups:=λb xs q=>by rw[bG (dI q hn)];exact q
 frzs:=λb u xs q=>by rw[bG (dI q hn)];exact q
 tbls:=λb ps q=>⟨#[],by rw[bG (dI q hn),q];simp⟩
theorem Un.write(mu:Mut (H x))(he:e=x\/H e=ab (.own x))(k:∀b u,b≠e->h.get? b=ab u->h'.get? b=ab u)(heo:∃u,h'.get? e=ab u):Un fs ex H (upd H x o) h h':=by
 have hx:∀b,H b=ai->b≠x:=λb n z=>by subst z;rw[n] at mu;exact mu
 have hb:∀b,H b=ai->b≠e:=λb n z=>by
  subst z;rcases he with r|r
  ·exact hx b n r
  ·rw[n] at r;cases r
 have hm:∀b u,H b=ab u->¬Mut (ab u)->b≠x:=λb u q nm z=>by subst z;rw[q] at mu;exact nm mu
 refine⟨λb u q n _ _=>k b u (hb b n) q,λb u q n _ _=>⟨u.slots,k b u (hb b n) q⟩,λb u q n _=>by rw[bG (hx b n)];exact n,λb u q _=>?_,
  λb xs q=>by rw[bG (hm b _ q λz=>z)];exact q,λb u xs q=>by rw[bG (hm b _ q λz=>z)];exact q,λb ps q=>⟨#[],by rw[bG (hm b _ q λz=>z),q];simp⟩⟩
 by_cases hbe:b=e
 ·subst hbe;exact heo
 ·exact⟨u,k b u hbe q⟩
end
noncomputable def trk(h:az)(H:Hp):aa ak:=(bm h.objs.size).filter λa=>(H a).isSome
def aDy(h:az)(H:Hp):az:=PySem.W.hideAll h (trk h H)
theorem Z8(h:az)(H:Hp):(aDy h H).objs.size=h.objs.size:=PySem.W.hideAll_size _ _
theorem aDz(e:h.get? b=ab o)(n:H b=ai):(aDy h H).get? b=ab o:=
 PySem.W.hideAll_get _ e λhm=>by
  have q:(H b).isSome=ae:=(nr.mp hm).2;rw[n] at q;simp at q
theorem aI7(e:(aDy h H).get? b=ab o):h.get? b=ab o/\H b=ai:=by
 have e':h.get? b=ab o:=PySem.W.of_hideAll (trk h H) e;refine⟨e',?_⟩;cases q:H b with
 |none=>rfl
 |some x=>
  have hm:b∈trk h H:=nr.mpr ⟨fx.mpr (bz e'),by simp[q]⟩;have z:(aDy h H).get? b=ai:=PySem.W.hideAll_none (trk h H) hm;rw[z] at e;cases e
structure Mod(K:bi)(mg:Str->ar aj)(base:az):Prop where
 kin:K.In base
 glob:base.Ns cb mg
 blt:∃mb,base.Ns vw mb/\∀x:Str,x ≠ "__name__"->mb x=dA x
 nolimit:base.NoLimit
/-- the context: a def's body (or a comprehension's block) running. base: fixed through the whole law;s₀,H₀: the entry;outer: the frames whose slots others may change (a def's callers);stack: all frames that run;
   ex: iterators that were made ahead of the entry and are walked here (a comprehension's);fn: the names whose cells were made at the entry (a def: all;a comprehension's block: its own);calm: not within an except suite;pn: Ψ that every state bears;xe: what is wanted of an exception that leaves the code -/
structure Cx where
 prog:b5
 w:br
 K:bi
 mg:Str->ar aj
 base:az
 A:cg
 N:aa Str
 s₀:ao
 H₀:Hp
 env:dg
 outer:aa dg
 stack:aa dg
 ex:aa ak
 fn:Str->aq
 calm:aq
 pn:aa (ak×bf)
 xe:aj->ao->Prop
noncomputable def frs(l:aa dg):aa ak:=l.filterMap (·.frame)
abbrev Cx.fs(X:Cx):aa ak:=frs X.outer
def Vis(sc:fR)(x:Str):Prop:=sc.names.lookup x=ab .local\/sc.names.lookup x=ab .cell\/sc.names.lookup x=ab .free
def Loc(sc:fR)(x:Str):Prop:=sc.names.lookup x=ab .local\/sc.names.lookup x=ab .cell
def Look(env:dg)(h:az)(m:Str->ar aj)(x:Str)(u:aj):Prop:=
 (env.kindOf x=ab .local/\m x=ab u)\/((env.kindOf x=ab .cell\/env.kindOf x=ab .free)/\∃c,env.cells.lookup x=ab c/\h.IsCell c (ab u))
abbrev zSE(X:Cx)(e:Expr)(es:aa Expr):Prop:=bP (e::es) X.env=(ah,bc e X.env)::bP es X.env
abbrev zSP(X:Cx)(pos:cj)(es:aa Expr):Prop:=(iw pos (bP es X.env)).any (·.1)=ah
abbrev zFw(X:Cx)(cpos:cj)(es:aa Expr):Prop:=((iw cpos (bP es X.env)).all (λx=>!x.1)&&(vx cpos (vE [] X.env)).all (λx=>x.1.isSome)
  &&ϒ (es.length+([]:aa Keyword).length+(if ([]:aa Keyword).isEmpty then 0 else 1)<30))=ae
abbrev zSw(X:Cx)(e:Expr)(x:Str)(pos' pos:cj):Prop:=dw e (ab (.Name x pos')) pos.line X.env=pure ah
abbrev zFn(X:Cx)(x:Str):Prop:=X.fn x=ae\/X.env.scope.names.lookup x=ab .local
structure Cx.Ok(X:Cx):Prop where
 mod:Mod X.K X.mg X.base
 kind:X.env.scope.kind=.function
 glob:X.env.globals=cb
 blt:X.env.builtins=vw
 above:X.s₀.heap.objs.size<=X.env.locals
 inj:∀x y c,X.env.cells.lookup x=ab c->X.env.cells.lookup y=ab c->x=y
 has:∀x,(X.env.kindOf x=ab .cell\/X.env.kindOf x=ab .free)->∃c,X.env.cells.lookup x=ab c
 cab:∀x c,X.fn x=ae->X.env.cells.lookup x=ab c->X.s₀.heap.objs.size<=c
 hd:X.calm=ae->X.A.handled=ai
 frames:X.A.frames=ab X.stack
 stk:X.stack=X.outer\/(X.stack=X.env::X.outer/\X.env.frame=ab X.env.locals)
 exf:∀b∈X.ex,b≠X.env.locals/\∀x c,X.env.cells.lookup x=ab c->c≠b
 bs:∀b o,X.base.get? b=ab o->X.s₀.heap.get? b=ab o/\X.H₀ b=ai
 bsz:X.base.objs.size<=X.s₀.heap.objs.size
 noex:∀b o,X.base.get? b=ab o->b∉X.ex
 exfs:∀b∈X.ex,b∉X.fs
 Z0:X.s₀.heap.FunFrames X.base X.outer
 frf:∀b∈X.fs,X.H₀ b=ai
structure Inv(X:Cx)(Ψ:aa (ak×bf))(σ:aa (ar V))(H:Hp)(s:ao):Prop where
 ok:X.Ok
 os:s.os=X.s₀.os
 bare:ju s.gens
 base:Un X.fs X.ex X.H₀ H X.s₀.heap s.heap
 loc:∃m,s.heap.Ns X.env.locals m/\∀(i:af)(x:Str)(v:V),X.N[i]?=ab x->σ[i]?=ab (ab v)->Vis X.env.scope x->∃u,RelV v u/\Look X.env s.heap m x u
 cell:∀x c,X.env.cells.lookup x=ab c->∃v,s.heap.IsCell c v
 free:H X.env.locals=ai
 freeC:∀x c,X.env.cells.lookup x=ab c->H c=ai
 pin:∀p∈X.pn++Ψ,s.heap.get? p.1=ab p.2/\H p.1=ai/\p.1≠X.env.locals/\p.1∉X.fs/\∀v,p.2.data≠.cell v
 hok:HOk X.prog X.w H s.heap
 len:σ.length=X.N.length
section
variable {X:Cx} {Ψ:aa (ak×bf)} {σ:aa (ar V)} {H H':Hp} {s:ao} {h':az}
theorem Cx.Ok.aTf(ok:X.Ok)(e:X.base.get? b=ab o):b∉X.fs:=λhb=>by
 have:=(ok.Z0.mem hb).1;rw[e] at this;cases this
theorem Inv.bs(I:Inv X Ψ σ H s):∀b o,X.base.get? b=ab o->s.heap.get? b=ab o/\H b=ai:=λb o e=>
 ⟨I.base.keep b o (I.ok.bs b o e).1 (I.ok.bs b o e).2 (I.ok.aTf e) (I.ok.noex b o e),I.base.free b o (I.ok.bs b o e).1 (I.ok.bs b o e).2 (I.ok.noex b o e)⟩
theorem Inv.bk(I:Inv X Ψ σ H s):∀b o,X.base.get? b=ab o->s.heap.get? b=ab o:=λb o e=>(I.bs b o e).1
theorem Inv.mod(I:Inv X Ψ σ H s):Mod X.K X.mg X.base:=I.ok.mod
theorem Inv.kIn(I:Inv X Ψ σ H s):X.K.In s.heap:=I.ok.mod.kin.keeps I.bk
theorem Inv.lt(I:Inv X Ψ σ H s):X.env.locals<s.heap.objs.size:=let ⟨_,hn,_⟩:=I.loc;hn.lt
theorem Inv.sz(I:Inv X Ψ σ H s):X.s₀.heap.objs.size<=s.heap.objs.size:=c9 I.ok.above (lz I.lt)
theorem Inv.aSz(I:Inv X Ψ σ H s)(h:s.heap.objs.size<=a):a∉X.fs:=λhb=>by
 obtain⟨_,o,ho,_⟩:=I.ok.Z0.mem hb;exact ay (cK (bz ho) (c9 I.sz h)) (gL _)
theorem Inv.cne(I:Inv X Ψ σ H s):∀x c,X.env.cells.lookup x=ab c->c≠X.env.locals:=λx c e z=>by
 obtain⟨v,o,ho,hd⟩:=I.cell x c e;obtain⟨m,⟨o',es,ep,ho',hd',_⟩,_⟩:=I.loc;rw[z,ho'] at ho;cases ho;rw[hd'] at hd;cases hd
theorem Inv.Z0(I:Inv X Ψ σ H s):s.heap.FunFrames X.base X.outer:=by
 have all:∀(l:aa dg),(∀b∈frs l,b∈X.fs)->X.s₀.heap.FunFrames X.base l->s.heap.FunFrames X.base l:=by
  intro l;induction l with
  |nil=>intro _ _;trivial
  |cons env r ih=>
   intro hs hl;obtain⟨hk,⟨L,o,hf,hn,ho,hd⟩,hr⟩:=hl;have hL:L∈X.fs:=hs L (by unfold frs;rw[nu,hf];exact bj);obtain⟨sl,e⟩:=I.base.slot L o ho (I.ok.frf L hL) hL λz=>I.ok.exfs L z hL
   exact⟨hk,⟨L,_,hf,hn,e,hd⟩,ih (λb hb=>hs b (by unfold frs;rw[nu,hf];exact bp _ hb)) hr⟩
 exact all X.outer (λ_ hb=>hb) I.ok.Z0
theorem Inv.stack(I:Inv X Ψ σ H s):s.heap.FunFrames X.base X.stack:=by
 rcases I.ok.stk with e|⟨e,hf⟩
 ·rw[e];exact I.Z0
 ·rw[e];obtain⟨m,hn,_⟩:=I.loc;refine .cons (by rw[I.ok.kind];decide) hf hn ?_ I.Z0;exact Heap.get?_none_of_le (c9 I.ok.bsz I.ok.above)
theorem Inv.T7(I:Inv X Ψ σ H s):∀b∈frs X.stack,b∈X.env.locals::X.fs:=λb hb=>by
 rcases I.ok.stk with e|⟨e,hf⟩
 ·rw[e] at hb;exact bp _ hb
 ·rw[e] at hb;unfold frs at hb;rw[nu,hf] at hb;exact hb
theorem Inv.Z9(I:Inv X Ψ σ H s):∀b∈frs X.stack,H b=ai:=λb hb=>by
 rcases bu.mp (I.T7 b hb) with e|hb
 ·rw[e];exact I.free
 ·obtain⟨_,o,ho,_⟩:=I.ok.Z0.mem hb;exact I.base.free b o ho (I.ok.frf b hb) λz=>I.ok.exfs b z hb
theorem Inv.step{ch:aa ak}(I:Inv X Ψ σ H s)
 (hch:∀b∈ch,(b∈X.ex\/X.s₀.heap.objs.size<=b)/\b≠X.env.locals/\(∀x c,X.env.cells.lookup x=ab c->c≠b)/\∀p∈X.pn++Ψ,p.1≠b)
 (keep:∀b o,b≠X.env.locals->b∉X.fs->b∉ch->s.heap.get? b=ab o->H b=ai->h'.get? b=ab o)
 (slot:∀b o,b≠X.env.locals->b∈X.fs->b∉ch->s.heap.get? b=ab o->H b=ai->∃sl,h'.get? b=ab {o with slots:=sl})(free:∀b o,b∉ch->s.heap.get? b=ab o->H b=ai->H' b=ai)
 (there:∀b o,b∉ch->s.heap.get? b=ab o->∃o',h'.get? b=ab o')
 (tups:∀b xs,H b=ab (.tup xs)->H' b=ab (.tup xs))(frzs:∀b o u,H b=ab (.frz o u)->H' b=ab (.frz o u))(tbls:∀b ps,H b=ab (.tbl ps)->∃more,H' b=ab (.tbl (ps++more)))
 (ns:∀m,s.heap.Ns X.env.locals m->h'.Ns X.env.locals m)(hok:HOk X.prog X.w H' h')(hg:ju g') :
  Inv X Ψ σ H' {s with heap:=h',gens:=g',drawn:=d',toks:=t'}:=by
 have neL:∀b o,X.s₀.heap.get? b=ab o->b≠X.env.locals:=λb o e=>cn (cK (bz e) I.ok.above)
 have neC:∀b o,X.s₀.heap.get? b=ab o->b∉X.ex->b∉ch:=λb o e hx hb=>by
  rcases(hch b hb).1 with z|z
  ·exact hx z
  ·exact ay (cK (bz e) z) (gL _)
 have cellK:∀x c,X.env.cells.lookup x=ab c->∀v,s.heap.IsCell c v->h'.IsCell c v:=λx c e v ⟨o,ho,hd⟩=>by
  have nch:c∉ch:=λz=>(hch c z).2.2.1 x c e rfl
  by_cases hc:c∈X.fs
  ·obtain⟨sl,q⟩:=slot c o (I.cne x c e) hc nch ho (I.freeC x c e);exact⟨_,q,hd⟩
  ·exact⟨o,keep c o (I.cne x c e) hc nch ho (I.freeC x c e),hd⟩
 refine⟨I.ok,I.os,hg,⟨λb o e n hb hx=>?_,λb o e n hb hx=>?_,λb o e n hx=>?_,λb o e hx=>?_,λb xs e=>tups b xs (I.base.tups b xs e),λb o xs e=>frzs b o xs (I.base.frzs b o xs e),λb ps e=>?_⟩,?_,λx c e=>?_,?_,λx c e=>?_,λp hp=>?_,hok,I.len⟩
 ·exact keep b o (neL b o e) hb (neC b o e hx) (I.base.keep b o e n hb hx) (I.base.free b o e n hx)
 ·obtain⟨sl,e1⟩:=I.base.slot b o e n hb hx;obtain⟨sl',e2⟩:=slot b _ (neL b o e) hb (neC b o e hx) e1 (I.base.free b o e n hx);exact⟨sl',e2⟩
 ·obtain⟨o',e1⟩:=I.base.there b o e hx;exact free b o' (neC b o e hx) e1 (I.base.free b o e n hx)
 ·obtain⟨o',e1⟩:=I.base.there b o e hx;exact there b o' (neC b o e hx) e1
 ·obtain⟨m1,e1⟩:=I.base.tbls b ps e;obtain⟨m2,e2⟩:=tbls b _ e1;exact⟨m1++m2,by rw[e2,Array.append_assoc]⟩
 ·obtain⟨m,hn,hl⟩:=I.loc;refine⟨m,ns m hn,λi x v e1 e2 e3=>?_⟩;obtain⟨u,r,l⟩:=hl i x v e1 e2 e3;refine⟨u,r,?_⟩;rcases l with l|⟨k,c,e,z⟩
  ·exact .inl l
  ·exact .inr ⟨k,c,e,cellK x c e _ z⟩
 ·obtain⟨v,z⟩:=I.cell x c e;exact⟨v,cellK x c e v z⟩
 ·obtain⟨m,⟨o,_,_,ho,_⟩,_⟩:=I.loc;exact free _ o (λz=>(hch _ z).2.1 rfl) ho I.free
 ·obtain⟨v,o,ho,hd⟩:=I.cell x c e;exact free c o (λz=>(hch c z).2.2.1 x c e rfl) ho (I.freeC x c e)
 ·obtain⟨e,n,ne,nf,d⟩:=I.pin p hp;have nch:p.1∉ch:=λz=>(hch p.1 z).2.2.2 p hp rfl
  exact⟨keep p.1 p.2 ne nf nch e n,free p.1 p.2 nch e n,ne,nf,d⟩
theorem Inv.un(I:Inv X Ψ σ H s)(u:Un X.fs [] H H' s.heap h')(hok:HOk X.prog X.w H' h'):Inv X Ψ σ H' {s with heap:=h',toks:=t'}:=by
 obtain⟨m,⟨o,es,ep,ho,r⟩,_⟩:=id I.loc;obtain⟨sl,hL⟩:=u.any ho I.free 0x2;exact I.step (ch:=[]) (λ_ z=>nomatch z) (λb o _ hb _ e n=>u.keep b o e n hb 0x2) (λb o _ hb _ e n=>u.slot b o e n hb 0x2) (λb o _ e n=>u.free b o e n 0x2) (λb o _ e=>u.there b o e 0x2) u.tups u.frzs u.tbls (λm' hm=>by
  obtain⟨o',es',ep',ho',r'⟩:=hm;rw[ho] at ho';cases ho';exact⟨_,es',ep',hL,r'⟩) hok I.bare
theorem Inv.call(I:Inv X Ψ σ H s)(u:Un (frs X.stack) ch H H' s.heap h')(hok:HOk X.prog X.w H' h')(hg:ju g')
 (hch:∀b∈ch,(b∈X.ex\/X.s₀.heap.objs.size<=b)/\b≠X.env.locals/\(∀x c,X.env.cells.lookup x=ab c->c≠b)/\∀p∈X.pn++Ψ,p.1≠b) :
  Inv X Ψ σ H' {s with heap:=h',gens:=g',drawn:=d',toks:=t'}:=by
 obtain⟨m,⟨o,es,ep,ho,r⟩,_⟩:=id I.loc;obtain⟨sl,hL⟩:=u.any ho I.free λz=>(hch _ z).2.1 rfl
 exact I.step hch (λb o hL hb hc e n=>u.keep b o e n (λz=>(bu.mp (I.T7 b z)).elim hL hb) hc) (λb o _ _ hc e n=>u.any e n hc) (λb o hc e n=>u.free b o e n hc) (λb o hc e=>u.there b o e hc) u.tups u.frzs u.tbls (λm' hm=>by
  obtain⟨o',es',ep',ho',r'⟩:=hm;rw[ho] at ho';cases ho';exact⟨_,es',ep',hL,r'⟩) hok hg
theorem Inv.turned(I:Inv X Ψ σ H s)(k:∀b o,b≠it->s.heap.get? b=ab o->h'.get? b=ab o)(hn:H it=ai)(hL:it≠X.env.locals)
 (h1:it∈X.ex\/X.s₀.heap.objs.size<=it)(h2:∀x c,X.env.cells.lookup x=ab c->c≠it)(h3:∀p∈X.pn++Ψ,p.1≠it):Inv X Ψ σ H {s with heap:=h',toks:=t'}:=by
 have nit:∀b u,H b=ab u->b≠it:=λb u e z=>by rw[z,hn] at e;cases e
 refine I.step (ch:=[it]) (λb hb=>?_) (λb o _ _ hc e _=>k b o (λz=>hc (by simp[z])) e) (λb o _ _ hc e _=>⟨o.slots,k b o (λz=>hc (by simp[z])) e⟩) (λ_ _ _ _ n=>n)
  (λb o hc e=>⟨o,k b o (λz=>hc (by simp[z])) e⟩) (λ_ _ e=>e) (λ_ _ _ e=>e) (λb ps e=>⟨#[],by rw[e];simp⟩) (λm hm=>?_) (λb u e=>?_) I.bare
 ·have e:b=it:=by simpa using hb
  subst e;exact⟨h1,hL,h2,h3⟩
 ·obtain⟨o,es,ep,ho,r⟩:=hm;exact⟨o,es,ep,k _ o (cq hL) ho,r⟩
 ·refine(I.hok b u e).stay (λc v hc q=>k c v ?_ q) (λ_ q=>q) λ_ _ q=>q
  rcases hc with z|z
  ·rw[z];exact nit b u e
  ·exact nit c _ z
theorem Inv.tok(I:Inv X Ψ σ H s)(t:af):Inv X Ψ σ H {s with toks:=t}:=I.un Un.refl I.hok
theorem Inv.kept(I:Inv X Ψ σ H s)(k:∀b u,s.heap.get? b=ab u->h'.get? b=ab u):Inv X Ψ σ H {s with heap:=h',toks:=t'}:=I.un (Un.kept k) (I.hok.kept k)
theorem Inv.laid(I:Inv X Ψ σ H s)(k:∀b u,s.heap.get? b=ab u->h'.get? b=ab u)(hp:s.heap.objs.size<=a)(new:jD X.prog X.w (upd H a o) h' a o) :
  Inv X Ψ σ (upd H a o) {s with heap:=h',toks:=t'}:=I.un (Un.laid k hp (I.hok.fresh hp)) (I.hok.laid k hp new)
theorem Inv.write(I:Inv X Ψ σ H s)(mu:Mut (H x))(he:e=x\/H e=ab (.own x))(k:∀b u,b≠e->s.heap.get? b=ab u->h'.get? b=ab u)(heo:∃u,h'.get? e=ab u)
 (new:jD X.prog X.w (upd H x o) h' x o):Inv X Ψ σ (upd H x o) {s with heap:=h',toks:=t'}:=I.un (Un.write mu he k heo) (I.hok.write mu he k heo new)
theorem Inv.weak(I:Inv X Ψ σ H s)(hl:σ'.length=σ.length)(w:∀(i:af) v,σ'[i]?=ab (ab v)->σ[i]?=ab (ab v)):Inv X Ψ σ' H s:=
 ⟨I.ok,I.os,I.bare,I.base,let ⟨m,hn,hl'⟩:=I.loc;⟨m,hn,λi x v e1 e2 e3=>hl' i x v e1 (w i v e2) e3⟩,I.cell,I.free,I.freeC,I.pin,I.hok,hl.trans I.len⟩
theorem Inv.QX(I:Inv X Ψ σ H s)(h:∀p∈pins',s.heap.get? p.1=ab p.2/\H p.1=ai/\p.1≠X.env.locals/\p.1∉X.fs/\∀v,p.2.data≠.cell v):Inv X pins' σ H s:=
 ⟨I.ok,I.os,I.bare,I.base,I.loc,I.cell,I.free,I.freeC,λp hp=>(dQ.mp hp).elim (λz=>I.pin p (i8 _ z)) (h p),I.hok,I.len⟩
theorem T8{N:aa Str}(hN:N.Nodup){i j:af}(a:N[i]?=ab x)(b:N[j]?=ab x):i=j:=by
 obtain⟨h1,e1⟩:=dj.mp a;obtain⟨h2,e2⟩:=dj.mp b;exact(List.getElem_inj hN).mp (e1.trans e2.symm)
theorem Z_(I:Inv X Ψ σ H s)(hN:X.N.Nodup)(hi:X.N[i]?=ab x)(hx:Loc X.env.scope x)(r:RelV v u)
 (h:∀s',Inv X Ψ (σ.set i (ab v)) H s'->(∃a,gj a s.heap s'.heap/\(a=X.env.locals\/X.env.cells.lookup x=ab a))->Q () s')(hf:zFn X x:=by first|exact .inl rfl|exact .inr rfl|assumption):ϑ M A (storeName X.env x u) Q E s:=by
 obtain⟨m,hn,hl⟩:=id I.loc;have hcls:(X.env.scope.kind==.class||(X.env.scope.kind==.module&&X.env.locals !=X.env.globals))=ah:=by rw[I.ok.kind];rfl
 have hiσ:i<σ.length:=by rw[I.len];exact(dj.mp hi).1
 have cne:=I.cne;have tracked:∀{a:ak}{h':az},(∃o,s.heap.get? a=ab o/\H a=ai)->gj a s.heap h'->HOk X.prog X.w H h':=λ{a h'} ha hs b ob e=>by
  obtain⟨_,_,hfree⟩:=ha;refine(I.hok b ob e).stay (λc w' hc q=>(hs.2 c ?_).trans q) (λ_ q=>q) λ_ _ q=>q
  rintro rfl;rcases hc with rfl|hc
  ·rw[hfree] at e;cases e
  ·rw[hfree] at hc;cases hc
 rcases hx with hk|hk
 ·refine wpAny_storeName_local hk hn (λh' hn' hs=>?_) hcls;obtain⟨oL,_,_,hoL,_⟩:=id hn;refine h _ ⟨I.ok,I.os,I.bare,⟨λb o e n hb hx=>?_,λb o e n hb hx=>?_,I.base.free,λb o e hx=>?_,I.base.tups,I.base.frzs,I.base.tbls⟩,⟨_,hn',λj y v' e1 e2 e3=>?_⟩,λy c e=>?_,I.free,I.freeC,λp hp=>?_,tracked ⟨oL,hoL,I.free⟩ hs,by simpa using I.len⟩ ⟨_,hs,.inl rfl⟩
  ·exact(hs.2 b (cn (cK (bz e) I.ok.above))).trans (I.base.keep b o e n hb hx)
  ·obtain⟨sl,e1⟩:=I.base.slot b o e n hb hx;exact⟨sl,(hs.2 b (cn (cK (bz e) I.ok.above))).trans e1⟩
  ·obtain⟨o',e1⟩:=I.base.there b o e hx;exact⟨o',(hs.2 b (cn (cK (bz e) I.ok.above))).trans e1⟩
  ·by_cases hj:j=i
   ·subst hj;rw[hi] at e1;cases e1;rw[fg hiσ] at e2;cases e2;exact⟨u,r,.inl ⟨hk,by simp⟩⟩
   ·rw[c5 (cq hj)] at e2;obtain⟨u',r',q⟩:=hl j y v' e1 e2 e3;refine⟨u',r',?_⟩;rcases q with ⟨k,e⟩|⟨k,c,e,z⟩
    ·refine .inl ⟨k,?_⟩;have:y≠x:=λe=>hj (T8 hN e1 (e▸hi))
     simp[this,e]
    ·exact .inr ⟨k,c,e,z.sameBut hs (cne y c e)⟩
  ·obtain⟨w',z⟩:=I.cell y c e;exact⟨w',z.sameBut hs (cne y c e)⟩
  ·obtain⟨e,n,ne,nf,d⟩:=I.pin p hp;exact⟨(hs.2 p.1 ne).trans e,n,ne,nf,d⟩
 ·have hfn:X.fn x=ae:=by
   rcases hf with z|z
   ·exact z
   ·rw[z] at hk;cases hk
  obtain⟨c,hc⟩:=I.ok.has x (.inl hk);obtain⟨w',z⟩:=I.cell x c hc;refine wpAny_storeName_cell I.ok.kind hk hc z (λh' hc' hs=>?_);obtain⟨oc,hoc,hocd⟩:=id z;refine h {s with heap:=h'} ⟨I.ok,I.os,I.bare,⟨λb o e n hb hx=>?_,λb o e n hb hx=>?_,I.base.free,λb o e hx=>?_,I.base.tups,I.base.frzs,I.base.tbls⟩,⟨m,hn.sameBut hs (cq (cne x c hc)),λj y v' e1 e2 e3=>?_⟩,λy c' e=>?_,I.free,I.freeC,λp hp=>?_,tracked ⟨oc,hoc,I.freeC x c hc⟩ hs,by simpa using I.len⟩ ⟨c,hs,.inr hc⟩
  ·exact(hs.2 b (cn (cK (bz e) (I.ok.cab x c hfn hc)))).trans (I.base.keep b o e n hb hx)
  ·obtain⟨sl,e1⟩:=I.base.slot b o e n hb hx;exact⟨sl,(hs.2 b (cn (cK (bz e) (I.ok.cab x c hfn hc)))).trans e1⟩
  ·obtain⟨o',e1⟩:=I.base.there b o e hx;exact⟨o',(hs.2 b (cn (cK (bz e) (I.ok.cab x c hfn hc)))).trans e1⟩
  ·by_cases hj:j=i
   ·subst hj;rw[hi] at e1;cases e1;rw[fg hiσ] at e2;cases e2;exact⟨u,r,.inr ⟨.inl hk,c,hc,hc'⟩⟩
   ·rw[c5 (cq hj)] at e2;obtain⟨u',r',q⟩:=hl j y v' e1 e2 e3;refine⟨u',r',?_⟩;rcases q with q|⟨k,c',e,z'⟩
    ·exact .inl q
    ·refine .inr ⟨k,c',e,z'.sameBut hs ?_⟩;rintro rfl;exact hj (T8 hN e1 (I.ok.inj _ _ _ e hc▸hi))
  ·by_cases hcc:c'=c
   ·subst hcc;exact⟨_,hc'⟩
   ·obtain⟨w2,z2⟩:=I.cell y c' e;exact⟨w2,z2.sameBut hs hcc⟩
  ·obtain⟨e,n,ne,nf,d⟩:=I.pin p hp;refine⟨(hs.2 p.1 ?_).trans e,n,ne,nf,d⟩;intro q;rw[q,hoc] at e;have q':oc=p.2:=cS e;exact d w' (by rw[<-q'];exact hocd)
theorem T9(I:Inv X Ψ σ H s)(hN:X.N.Nodup)(hi:X.N[i]?=ab x)(hx:Loc X.env.scope x)(r:RelV v u)
 (h:∀s',Inv X Ψ (σ.set i (ab v)) H s'->Q () s')(hf:zFn X x:=by first|exact .inl rfl|exact .inr rfl|assumption):ϑ M A (storeName X.env x u) Q E s:=
 Z_ I hN hi hx r (λs' I' _=>h s' I') hf
end
abbrev XK:=aj->ar ak->Hp->Prop
noncomputable abbrev St:=aa (ar V)
abbrev VK:=V->Hp->Prop
abbrev TE:=St->Hp->VK->Prop
abbrev TT:=St->Hp->(aq->Hp->Prop)->Prop
abbrev TA:=St->Hp->(aa V->Hp->Prop)->Prop
structure Ends where
 nx:St->Hp->Prop
 rt:VK
 bk:St->Hp->Prop:=λ_ _=>ck
 ct:St->Hp->Prop:=λ_ _=>ck
abbrev TS:=Ends->St->Hp->Prop
def EP(X:Cx)(Ψ:aa (ak×bf))(σ:St)(Q:VK)(u:aj)(s':ao):Prop:=∃v H',Inv X Ψ σ H' s'/\RelV v u/\Q v H'
def TP(X:Cx)(Ψ:aa (ak×bf))(σ:St)(Q:aq->Hp->Prop)(b:aq)(s':ao):Prop:=∃H',Inv X Ψ σ H' s'/\Q b H'
def AP(X:Cx)(Ψ:aa (ak×bf))(σ:St)(Q:aa V->Hp->Prop)(us:aa aj)(s':ao):Prop:=∃vs H',Inv X Ψ σ H' s'/\Vals vs us/\Q vs H'
def SP(X:Cx)(Ψ:aa (ak×bf))(D:Ends)(f:Flow)(s':ao):Prop:=
 match f with
 |.next=>∃σ' H',Inv X Ψ σ' H' s'/\D.nx σ' H'
 |.brk=>∃σ' H',Inv X Ψ σ' H' s'/\D.bk σ' H'
 |.cont=>∃σ' H',Inv X Ψ σ' H' s'/\D.ct σ' H'
 |.ret u=>∃v σ' H',Inv X Ψ σ' H' s'/\RelV v u/\D.rt v H'
def PE(X:Cx)(e:Expr)(t:TE):Prop:=
 ∀(Ψ:aa (ak×bf))(s:ao)(σ:St)(H:Hp)(Q:VK),Inv X Ψ σ H s->t σ H Q->ϑ (av X.prog X.w) X.A (bc e X.env) (EP X Ψ σ Q) X.xe s
def PT(X:Cx)(e:Expr)(t:TT):Prop:=
 ∀(Ψ:aa (ak×bf))(s:ao)(σ:St)(H:Hp)(Q:aq->Hp->Prop),Inv X Ψ σ H s->t σ H Q->ϑ (av X.prog X.w) X.A (ky e X.env (bc e X.env)) (TP X Ψ σ Q) X.xe s
def PW(X:Cx)(e:Expr)(t:TT):Prop:=
 ∀(whole:ib aj)(Ψ:aa (ak×bf))(s:ao)(σ:St)(H:Hp)(Q:aq->Hp->Prop),Inv X Ψ σ H s->t σ H Q->ϑ (av X.prog X.w) X.A (ky e X.env whole) (TP X Ψ σ Q) X.xe s
theorem PW.pt(h:PW X e t):PT X e t:=h _
def PA(X:Cx)(es:aa Expr)(t:TA):Prop:=
 ∀(pos:cj)(Ψ:aa (ak×bf))(s:ao)(σ:St)(H:Hp)(Q:aa V->Hp->Prop),Inv X Ψ σ H s->t σ H Q->ϑ (av X.prog X.w) X.A (kA (iw pos (bP es X.env))) (AP X Ψ σ Q) X.xe s
def PS(X:Cx)(st:bn)(t:TS):Prop:=
 ∀(Ψ:aa (ak×bf))(s:ao)(σ:St)(H:Hp)(D:Ends),Inv X Ψ σ H s->t D σ H->ϑ (av X.prog X.w) X.A (exec st X.env) (SP X Ψ D) X.xe s
def PSs(X:Cx)(st:aa bn)(t:TS):Prop:=
 ∀(Ψ:aa (ak×bf))(s:ao)(σ:St)(H:Hp)(D:Ends),Inv X Ψ σ H s->t D σ H->ϑ (av X.prog X.w) X.A (execs st X.env) (SP X Ψ D) X.xe s
theorem thn(h:ϑ M A t Q E s)(hQ:∀a s,Q a s->Q' a s):ϑ M A t Q' E s:=gk h hQ λ_ _ x=>x
section
variable {X:Cx}
noncomputable def aQz(i:af):TE:=λσ H Q=>∃v,σ[i]?=ab (ab v)/\Q v H
noncomputable def tC(v:V):TE:=λ_ H Q=>Q v H
theorem fX(hN:X.N[i]?=ab x)(hv:Vis X.env.scope x)(hd:nDb x:=by decide)(hcd:nCd x:=by decide):PE X (.Name x pos) (aQz i):=by
 intro Ψ s σ H Q I h;obtain⟨v,e,h⟩:=h;obtain⟨m,hn,hl⟩:=I.loc;obtain⟨u,r,l⟩:=hl i x v hN e hv;have fin:EP X Ψ σ Q u s:=⟨v,H,I,r,h⟩
 rcases l with ⟨hk,hm⟩|⟨hk,c,hc,hcell⟩
 ·exact vF (wpAny_loadName_local I.ok.kind hk hn hm fin) hd
 ·rcases hk with hk|hk
  ·exact vF (wpAny_loadName_cell I.ok.kind hk hc hcell fin) hd
  ·exact vF (wpAny_loadName_free I.ok.kind hk hc hcell fin hcd) hd
theorem aMq{i j pos}:PE X (.Constant (.int i) j pos) (tC (.int i)):=λ_ _ _ H _ I h=>Ai ⟨.int i,H,I.tok _,⟨_,rfl⟩,h⟩
theorem aR0{b j pos}:PE X (.Constant (.bool b) j pos) (tC (.bl b)):=λ_ _ _ H _ I h=>Constant_bool ⟨.bl b,H,I,rfl,h⟩
theorem aMr{j pos}:PE X (.Constant .none j pos) (tC .non):=λ_ _ _ H _ I h=>Constant_none ⟨.non,H,I,rfl,h⟩
theorem aMs{x j pos}:PE X (.Constant (.str x) j pos) (tC (.str x)):=λ_ _ _ H _ I h=>Calls.Constant_str ⟨.str x,H,I.tok _,⟨_,rfl⟩,h⟩
def Gl(X:Cx)(x:Str):Prop:=X.env.kindOf x=ab .globalImplicit
theorem aA0(I:Inv X Ψ σ H s)(hg:Gl X x)(hm:X.mg x=ab u)(h:Q u s)
 (hd:nDb x:=by decide):ϑ (av X.prog X.w) X.A (bc (.Name x pos) X.env) Q E s:=
 Aj I.ok.kind hg (Calls.loadGlobal_global (by rw[I.ok.glob];exact I.mod.glob.keeps I.bk) hm h) hd
theorem lM(I:Inv X Ψ σ H s)(hg:Gl X x)(hm:X.mg x=ai)(hv:dA x=ab u)(h:Q u s)
 (hn:x ≠ "__name__":=by decide)(hd:nDb x:=by decide):ϑ (av X.prog X.w) X.A (bc (.Name x pos) X.env) Q E s:=by
 obtain⟨mb,h1,h2⟩:=I.mod.blt;exact Aj I.ok.kind hg (Calls.loadGlobal_builtin (by rw[I.ok.glob];exact I.mod.glob.keeps I.bk) hm (by rw[I.ok.blt];exact h1.keeps I.bk) ((h2 x hn).trans hv) h) hd
theorem aI8(hg:Gl X x)(hm:X.mg x=ai)(hv:dA x=ab u)(r:RelV v u)(hn:x ≠ "__name__":=by decide)(hd:nDb x:=by decide):PE X (.Name x pos) (tC v):=
 λ_ _ _ H _ I h=>lM I hg hm hv ⟨v,H,I,r,h⟩ hn hd
variable {a b:Expr} {ta tb:TE} {pos:cj}
noncomputable def tB(t:TE):TT:=λσ H Q=>t σ H λx H1=>∃c,x=.bl c/\Q c H1
theorem aMt(h:PE X e t)(he:∀whole,ky e X.env whole=(do let v <- whole;kC e.pos;i9 [v] (lI v)):=by intro _;rfl):PT X e (tB t):=by
 intro Ψ s σ H Q I hw;refine Ak (thn (h Ψ s σ H _ I hw) λv s1 ⟨x,H1,I1,r1,q1⟩=>?_) (he _);obtain⟨d,rfl,q⟩:=q1;cases r1;exact lP ⟨H1,I1,q⟩
variable {tA tB':TT} {rest:aa Expr}
noncomputable def aTg(t u:TT):TT:=λσ H Q=>t σ H λc H1=>if c=ae then u σ H1 Q else Q ah H1
noncomputable def tOr(t u:TT):TT:=λσ H Q=>t σ H λc H1=>if c=ae then Q ae H1 else u σ H1 Q
noncomputable def aTh(t:TT):TT:=λσ H Q=>t σ H λc H1=>Q (!c) H1
theorem aI9(ha:PT X a tA):PW X (.BoolOp .And [a] pos) tA:=by
 intro wh Ψ s σ H Q I h;refine isTrue_and (thn (ha Ψ s σ H Q I h) λc s1 e=>?_);cases c with
 |true=>exact isTrue_and_nil e
 |false=>exact e
theorem aMu(ha:PT X a tA):PW X (.BoolOp .Or [a] pos) tA:=by
 intro wh Ψ s σ H Q I h;refine isTrue_or (thn (ha Ψ s σ H Q I h) λc s1 e=>?_);cases c with
 |false=>exact isTrue_or_nil e
 |true=>exact e
theorem aMv(ha:PT X a tA)(hb:PW X (.BoolOp .And (b::rest) pos) tB'):PW X (.BoolOp .And (a::b::rest) pos) (aTg tA tB'):=by
 intro wh Ψ s σ H Q I h;refine isTrue_and (thn (ha Ψ s σ H _ I h) λc s1 ⟨H1,I1,q1⟩=>?_);cases c with
 |true=>exact hb wh Ψ s1 σ H1 Q I1 q1
 |false=>exact⟨H1,I1,q1⟩
theorem aR1(ha:PT X a tA)(hb:PW X (.BoolOp .Or (b::rest) pos) tB'):PW X (.BoolOp .Or (a::b::rest) pos) (tOr tA tB'):=by
 intro wh Ψ s σ H Q I h;refine isTrue_or (thn (ha Ψ s σ H _ I h) λc s1 ⟨H1,I1,q1⟩=>?_);cases c with
 |true=>exact⟨H1,I1,q1⟩
 |false=>exact hb wh Ψ s1 σ H1 Q I1 q1
theorem aGk(ha:PT X a tA):PT X (.UnaryOp .Not a pos) (aTh tA):=by
 intro Ψ s σ H Q I h;exact isTrue_not (ha Ψ s σ H (λc H1=>Q (!c) H1) I h)
noncomputable def aR2(ta tb:TE):TE:=λσ H Q=>ta σ H λx H1=>∃c,x=.bl c/\if c=ae then tb σ H1 Q else Q (.bl ah) H1
noncomputable def aR3(ta:TE):TE:=λσ H Q=>ta σ H λx H1=>∃c,x=.bl c/\Q (.bl (!c)) H1
theorem aMw{op}(h:PE X a t):PE X (.BoolOp op [a] pos) t:=λΨ s σ H Q I hw=>BoolOp_one (h Ψ s σ H Q I hw)
theorem aMx(ha:PE X a ta)(hb:PE X (.BoolOp .And (b::rest) pos) tb):PE X (.BoolOp .And (a::b::rest) pos) (aR2 ta tb):=by
 intro Ψ s σ H Q I h;refine BoolOp_and (thn (ha Ψ s σ H _ I h) λv s1 ⟨x,H1,I1,r1,q1⟩=>?_);obtain⟨c,rfl,q1⟩:=q1;cases r1;refine lP ?_;cases c with
 |true=>exact hb Ψ s1 σ H1 Q I1 q1
 |false=>exact⟨.bl ah,H1,I1,rfl,q1⟩
theorem aMy(ha:PE X a ta):PE X (.UnaryOp .Not a pos) (aR3 ta):=by
 intro Ψ s σ H Q I h;refine UnaryOp_ (thn (ha Ψ s σ H _ I h) λv s1 ⟨x,H1,I1,r1,q1⟩=>?_);obtain⟨c,rfl,q1⟩:=q1;cases r1;exact not_of (lP ⟨.bl (!c),H1,I1,rfl,q1⟩)
end
def SqL(K:bi)(H:Hp)(a:ak)(xs:aa V):Prop:=
 Rd H a (.lst xs)\/
  ∃(o:bf)(its:ax aj)(n:af),K.lookup a=ab o/\o.cls=.type "list"/\o.dict=ai/\o.data=.seq its n/\its.size<=ba/\Vals xs its.toList
def SqT(K:bi)(H:Hp)(a:ak)(xs:aa V):Prop:=
 Rd H a (.tup xs)\/
  ∃(o:bf)(its:ax aj)(n:af),K.lookup a=ab o/\o.cls=.type "tuple"/\o.data=.seq its n/\its.size<=ba/\Vals xs its.toList
noncomputable def aTi:aj->ar V
 |.none=>ab .non
 |.bool b=>ab (.bl b)
 |.int i _=>ab (.int i)
 |.str x _=>ab (.str x)
 |.bytes b _=>ab (.byt b)
 |.float b _=>ab (.flt b)
 |.ref a=>ab (.ref a)
 |.type n=>ab (.ty n)
 |_=>ai
theorem RelV.abs(r:RelV x u):aTi u=ab x:=by
 cases x with
 |non=>cases r;rfl
 |bl _=>cases r;rfl
 |int _=>obtain⟨t,rfl⟩:=r;rfl
 |str _=>obtain⟨t,rfl⟩:=r;rfl
 |byt _=>obtain⟨t,rfl⟩:=r;rfl
 |flt _=>obtain⟨t,rfl⟩:=r;rfl
 |ref _=>cases r;rfl
 |ty _=>cases r;rfl
theorem RelV.inj(r:RelV x u)(q:RelV y u):x=y:=cS (r.abs.symm.trans q.abs)
theorem Vals.inj:∀{xs ys:aa V}{us:aa aj},Vals xs us->Vals ys us->xs=ys
 |_,_,_,.nil,.nil=>rfl
 |_,_,_,.cons r t,.cons r' t'=>by rw[r.inj r',Vals.inj t t']
section
variable {X:Cx} {Ψ:aa (ak×bf)} {σ:St} {H:Hp} {s:ao} {a:ak} {xs ys:aa V}
theorem SqL.of{K:bi}(h:H a=ab (.lst xs)):SqL K H a xs:=.inl (.inl h)
theorem SqT.of{K:bi}(h:H a=ab (.tup xs)):SqT K H a xs:=.inl (.inl h)
theorem Inv.list(I:Inv X Ψ σ H s)(h:SqL X.K H a xs):∃its:aa aj,Vals xs its/\PlainL s.heap a its.toArray/\xs.length<=ba:=by
 rcases h with h|⟨o,its,n,hk,hc,hd,hs,hz,r⟩
 ·obtain⟨z,its,n,r,e⟩:=h.ok I.hok;exact⟨its,r,⟨_,n,e,rfl,rfl,rfl⟩,z⟩
 ·refine⟨its.toList,r,⟨o,n,I.kIn a o hk,hc,hd,by simpa using hs⟩,?_⟩;have e:=r.length;simp only[lS] at e;lia
theorem Inv.tuple(I:Inv X Ψ σ H s)(h:SqT X.K H a xs):∃its:aa aj,Vals xs its/\kx s.heap a its.toArray/\xs.length<=ba:=by
 rcases h with h|⟨o,its,n,hk,hc,hs,hz,r⟩
 ·obtain⟨z,its,r,p⟩:=h.ok I.hok;exact⟨its,r,p.tup,z⟩
 ·refine⟨its.toList,r,⟨o,I.kIn a o hk,hc,n,by simpa using hs⟩,?_⟩;have e:=r.length;simp only[lS] at e;lia
theorem Inv.aE0(I:Inv X Ψ σ H s)(h:SqL X.K H a xs)(h':SqL X.K H a ys):xs=ys:=by
 obtain⟨its,r,⟨o,n,e,_,_,d⟩,_⟩:=I.list h;obtain⟨its',r',⟨o',n',e',_,_,d'⟩,_⟩:=I.list h';rw[e] at e';cases e';rw[d] at d';injection d' with d1 _
 have:its=its':=by simpa using cy Al d1
 subst this;exact r.inj r'
theorem Inv.aA1(I:Inv X Ψ σ H s)(h:SqT X.K H a xs)(h':SqT X.K H a ys):xs=ys:=by
 obtain⟨its,r,⟨o,e,_,n,d⟩,_⟩:=I.tuple h;obtain⟨its',r',⟨o',e',_,n',d'⟩,_⟩:=I.tuple h';rw[e] at e';cases e';rw[d] at d';injection d' with d1 _
 have:its=its':=by simpa using cy Al d1
 subst this;exact r.inj r'
end
noncomputable abbrev Cx.wish(X:Cx)(E:aj->ao->Prop):Cx:={X with xe:=E}
noncomputable abbrev Cx.nox(X:Cx):Cx:=X.wish λ_ _=>ck
theorem Cx.Ok.wish{X:Cx}(ok:X.Ok)(E:aj->ao->Prop):(X.wish E).Ok:=
 ⟨ok.mod,ok.kind,ok.glob,ok.blt,ok.above,ok.inj,ok.has,ok.cab,ok.hd,ok.frames,ok.stk,ok.exf,ok.bs,ok.bsz,ok.noex,ok.exfs,ok.Z0,ok.frf⟩
theorem Cx.Ok.wG{X:Cx}(ok:(X.wish E).Ok):X.Ok:=
 ⟨ok.mod,ok.kind,ok.glob,ok.blt,ok.above,ok.inj,ok.has,ok.cab,ok.hd,ok.frames,ok.stk,ok.exf,ok.bs,ok.bsz,ok.noex,ok.exfs,ok.Z0,ok.frf⟩
section
theorem Inv.wish(I:Inv X Ψ σ H s)(E:aj->ao->Prop):Inv (X.wish E) Ψ σ H s:=⟨I.ok.wish E,I.os,I.bare,I.base,I.loc,I.cell,I.free,I.freeC,I.pin,I.hok,I.len⟩
theorem Inv.wG(I:Inv (X.wish E) Ψ σ H s):Inv X Ψ σ H s:=⟨I.ok.wG,I.os,I.bare,I.base,I.loc,I.cell,I.free,I.freeC,I.pin,I.hok,I.len⟩
theorem SP.wG(h:SP (X.wish E) Ψ D f s'):SP X Ψ D f s':=by
 cases f with
 |next=>obtain⟨σ',H',I,q⟩:=h;exact⟨σ',H',I.wG,q⟩
 |brk=>obtain⟨σ',H',I,q⟩:=h;exact⟨σ',H',I.wG,q⟩
 |cont=>obtain⟨σ',H',I,q⟩:=h;exact⟨σ',H',I.wG,q⟩
 |ret u=>obtain⟨v,σ',H',I,r,q⟩:=h;exact⟨v,σ',H',I.wG,r,q⟩
theorem PSs.nox{st:aa bn}(h:PSs X.nox st t):PSs X st t:=λΨ s σ H D I hw=>
 gk (h Ψ s σ H D (I.wish _) hw) (λ_ _ q=>q.wG) λ_ _ z=>eW z
end
section
variable {X:Cx} {st:bn} {rest:aa bn} {t u:TS} {e:Expr} {te:TE} {pos:cj}
noncomputable def aMz:TS:=λD σ H=>D.nx σ H
noncomputable def aR4(t u:TS):TS:=λD σ H=>t {D with nx:=u D} σ H
theorem aA2:PSs X [] aMz:=λ_ _ σ H _ I h=>sh ⟨σ,H,I,h⟩
theorem mQ(h1:PS X st t)(h2:PSs X rest u):PSs X (st::rest) (aR4 t u):=by
 intro Ψ s σ H D I h;refine Am (thn (h1 Ψ s σ H {D with nx:=u D} I h) λf s1 q=>?_);cases f with
 |next=>
  obtain⟨σ',H',I',q⟩:=q;exact h2 Ψ s1 σ' H' D I' q
 |ret v=>exact q
 |brk=>exact q
 |cont=>exact q
theorem aIa(h1:PS X st t):PSs X [st] t:=by
 intro Ψ s σ H D I h;refine Am (thn (h1 Ψ s σ H D I h) λf s1 q=>?_);cases f with
 |next=>exact sh q
 |ret v=>exact q
 |brk=>exact q
 |cont=>exact q
noncomputable def aR5:TS:=λD σ H=>D.ct σ H
theorem QZ:PS X (.Continue pos) aR5:=λ_ _ σ H _ I h=>wpAny_Continue ⟨σ,H,I,h⟩
theorem Inv.quiet(I:Inv X Ψ σ H s):An X.env=ah:=by simp[An,I.ok.kind]
noncomputable def aR6(te:TE):TS:=λD σ H=>te σ H λ_ H1=>D.nx σ H1
theorem vG(he:PE X e te)(hs:dw e ai pos.line X.env=pure ah:=by rfl):PS X (.Expr e pos) (aR6 te):=by
 intro Ψ s σ H D I h;exact wpAny_Expr_any (thn (he Ψ s σ H _ I h) λv s1 ⟨x,H1,I1,r1,q1⟩=>⟨σ,H1,I1,q1⟩) I.quiet hs
noncomputable def aTj(te:TE):TS:=λD σ H=>te σ H D.rt
theorem aA3(he:PE X e te):PS X (.Return (ab e) pos) (aTj te):=by
 intro Ψ s σ H D I h;exact wpAny_Return_some (thn (he Ψ s σ H _ I h) λv s1 ⟨x,H1,I1,r1,q1⟩=>⟨x,σ,H1,I1,r1,q1⟩)
noncomputable def aTk(c:TT)(t u:TS):TS:=λD σ H=>c σ H λb H1=>if b=ae then t D σ H1 else u D σ H1
theorem aN0(hc:PT X c tc)(ha:PSs X a t)(hb:PSs X b u):PS X (.If c a b pos) (aTk tc t u):=by
 intro Ψ s σ H D I h;refine wpAny_If (thn (hc Ψ s σ H _ I h) λd s1 ⟨H1,I1,q1⟩=>?_);cases d with
 |true=>exact ha Ψ s1 σ H1 D I1 q1
 |false=>exact hb Ψ s1 σ H1 D I1 q1
end
abbrev TG:=V->St->Hp->(St->Hp->Prop)->Prop
abbrev TGs:=aa V->St->Hp->(St->Hp->Prop)->Prop
def PG(X:Cx)(target:Expr)(t:TG):Prop:=
 ∀(Ψ:aa (ak×bf))(s:ao)(σ:St)(H:Hp)(v:V)(u:aj)(Q:St->Hp->Prop),Inv X Ψ σ H s->RelV v u->t v σ H Q->
  ϑ (av X.prog X.w) X.A (nv target X.env u) (λ_ s'=>∃σ' H',Inv X Ψ σ' H' s'/\Q σ' H') X.xe s
def PGs(X:Cx)(ts:aa Expr)(t:TGs):Prop:=
 ∀(Ψ:aa (ak×bf))(s:ao)(σ:St)(H:Hp)(vs:aa V)(us:aa aj)(Q:St->Hp->Prop),Inv X Ψ σ H s->Vals vs us->t vs σ H Q->
  ϑ (av X.prog X.w) X.A (assignInOrder ((nw ts X.env).map (·.2)) us) (λ_ s'=>∃σ' H',Inv X Ψ σ' H' s'/\Q σ' H') X.xe s
section
variable {X:Cx}
noncomputable def xM(i:af):TG:=λv σ H Q=>Q (σ.set i (ab v)) H
theorem bA(hN:X.N.Nodup)(hi:X.N[i]?=ab x)(hx:Loc X.env.scope x)(hf:zFn X x:=by first|exact .inl rfl|exact .inr rfl|assumption):PG X (.Name x pos) (xM i):=by
 intro Ψ s σ H v u Q I r h;exact wpAny_assign_Name (T9 I hN hi hx r (λs' I'=>⟨_,H,I',h⟩) hf)
noncomputable def aT0:TGs:=λvs σ H Q=>vs=[]/\Q σ H
noncomputable def aN1(t:TG)(u:TGs):TGs:=λvs σ H Q=>∃v r,vs=v::r/\t v σ H λσ' H'=>u r σ' H' Q
theorem mR:PGs X [] aT0:=by
 intro Ψ s σ H vs us Q I r h;obtain⟨e,h⟩:=h;subst e;cases r;exact assignInOrder_nil ⟨σ,H,I,h⟩
theorem cD(h1:PG X e t)(h2:PGs X es u)
 (hs:(nw (e::es) X.env).map (·.2)=nv e X.env::(nw es X.env).map (·.2):=by rfl):PGs X (e::es) (aN1 t u):=by
 intro Ψ s σ H vs us Q I r h;obtain⟨v,vr,e1,h⟩:=h;subst e1;cases r with
 |cons r rr=>
  rw[hs];refine assignInOrder_cons (thn (h1 Ψ s σ H _ _ _ I r h) λ_ s1 ⟨σ1,H1,I1,q1⟩=>?_);exact h2 Ψ s1 σ1 H1 _ _ Q I1 rr q1
noncomputable def aR7(K:bi)(n:af)(t:TGs):TG:=λv σ H Q=>∃a xs,v=.ref a/\SqT K H a xs/\xs.length=n/\t xs σ H Q
theorem uG(hc:X.calm=ae)(h:PGs X es t)
 (hn:(nw es X.env).length=n:=by rfl)(hst:(nw es X.env).findIdx? (·.1)=ai:=by rfl):PG X (.Tuple es k pos) (aR7 X.K n t):=by
 intro Ψ s σ H v u Q I r hw;obtain⟨a,xs,e1,hq,hl,hw⟩:=hw;subst e1;cases r;obtain⟨its,rv,ht,hz⟩:=I.tuple hq;refine assign_Tuple_tuple (I.ok.hd hc) ht (by simp[hn,<-hl,rv.length]) hst λh' hx=>?_
 have I1:Inv X Ψ σ H {s with heap:=h'}:=I.kept λb o e=>hx b o (cn (bz e)) e
 exact h Ψ _ σ H xs _ Q I1 (by simpa using rv) hw
noncomputable def aMb(te:TE)(g:TG):TS:=λD σ H=>te σ H λx H1=>g x σ H1 D.nx
theorem CV(hN:X.N.Nodup)(hi:X.N[i]?=ab x)(hx:Loc X.env.scope x)(he:PE X e te)(hs:zSw X e x pos' pos:=by rfl)(hf:zFn X x:=by first|exact .inl rfl|exact .inr rfl|assumption) :
  PS X (.Assign [.Name x pos'] e pos) (aMb te (xM i)):=by
 intro Ψ s σ H D I h;refine wpAny_Assign_Name (thn (he Ψ s σ H _ I h) λv s1 ⟨y,H1,I1,r1,q1⟩=>?_) hs;exact T9 I1 hN hi hx r1 (λs2 I2=>⟨_,H1,I2,q1⟩) hf
end
section
def aN2(c:TT)(tb:TS):TS:=λD σ H=>∃W:af->St->Hp->Prop,(∃m,W m σ H)/\∀m σ H,W m σ H->
 c σ H λb H1=>if b=ae then ∃N:St->Hp->Prop,(∀σ' H',N σ' H'->∃m',m'<m/\W m' σ' H')/\tb {D with nx:=N,ct:=N,bk:=D.nx} σ H1 else D.nx σ H1
theorem aE1(hp:ny (av X.prog X.w) X.A X.env X.xe)(hc:PT X c tc)(hb:PSs X body tb):PS X (.While c body [] pos) (aN2 tc tb):=by
 intro Ψ s σ H D I h;obtain⟨W,⟨m0,w0⟩,turn⟩:=h;refine wpAny_While (codeAny_whileLoop (λn s'=>∃σ' H',Inv X Ψ σ' H' s'/\W n σ' H') ?_ m0 ⟨σ,H,I,w0⟩);rintro n s1 ⟨σ1,H1,I1,w1⟩;refine kF hp (thn (hc Ψ s1 σ1 H1 _ I1 (turn n σ1 H1 w1)) λb s2 ⟨H2,I2,q2⟩=>?_);cases b with
 |true=>
  obtain⟨N,hN,q2⟩:=q2;rw[al rfl];refine kF hp (thn (hb Ψ s2 σ1 H2 _ I2 q2) λf s3 q3=>?_);cases f with
  |next=>
   obtain⟨σ3,H3,I3,n3⟩:=q3;obtain⟨m',hm,w3⟩:=hN σ3 H3 n3;exact⟨m',hm,σ3,H3,I3,w3⟩
  |cont=>
   obtain⟨σ3,H3,I3,n3⟩:=q3;obtain⟨m',hm,w3⟩:=hN σ3 H3 n3;exact⟨m',hm,σ3,H3,I3,w3⟩
  |brk=>exact q3
  |ret v=>exact q3
 |false=>
  rw[au nB];exact sh ⟨σ1,H2,I2,q2⟩
end
structure It where
 go:af->Hp->Prop
 yld:af->Hp->V->Hp->Prop
 stop:af->Hp->Prop
def Z1(X:Cx)(Ψ:aa (ak×bf))(H:Hp)(b:ak):Prop:=
 H b=ai/\b≠X.env.locals/\b∉X.fs/\(b∈X.ex\/X.s₀.heap.objs.size<=b)/\(∀x c,X.env.cells.lookup x=ab c->c≠b)/\∀p∈X.pn++Ψ,p.1≠b
theorem Inv.aE2(I:Inv X Ψ σ H s)(hb:s.heap.objs.size<=b)(hn:H' b=ai):Z1 X Ψ H' b:=by
 refine⟨hn,ic (cK I.lt hb),I.aSz hb,.inr (c9 I.sz hb),λx c e z=>?_,λp hp z=>?_⟩
 ·obtain⟨v,q⟩:=I.cell x c e;exact ay (cK q.lt (by rw[z];exact hb)) (gL _)
 ·exact ay (cK (bz (I.pin p hp).1) (by rw[z];exact hb)) (gL _)
structure Turn(P:b5)(w:br)(K:bi)(tg:Expr)(J:It)(fp:aa ak)(it:ak)(tn:af->az->Prop):Prop where
 mem:it∈fp
 obj:∀i h,tn i h->∀b∈fp,∃o,h.get? b=ab o/\∀v,o.data≠.cell v
 keep:∀i h h',tn i h->(∀b∈fp,∀o,h.get? b=ab o->h'.get? b=ab o)->tn i h'
 item:∀(X:Cx),X.prog=P->X.w=w->X.K=K->X.calm=ae->∀(i:af)(Ψ:aa (ak×bf))(s:ao)(σ:St)(H:Hp)(E:aj->ao->Prop),Inv X Ψ σ H s->(∀b∈fp,Z1 X Ψ H b)->tn i s.heap->J.go i H->
  ϑ (av P w) X.A (gN (.ref it)) (λr s1=>∃u,r=ab u/\
   ϑ (av P w) X.A (nE tg (.ref it) u) (λ_ s2=>∃x H',Inv X Ψ σ H' s2/\RelV x u/\J.yld i H x H'/\tn (i+1) s2.heap/\∀b∈fp,H' b=ai) E s1) E s
 done:∀(X:Cx),X.prog=P->X.w=w->X.K=K->X.calm=ae->∀(i:af)(Ψ:aa (ak×bf))(s:ao)(σ:St)(H:Hp)(E:aj->ao->Prop),Inv X Ψ σ H s->(∀b∈fp,Z1 X Ψ H b)->tn i s.heap->J.stop i H->
  ϑ (av P w) X.A (gN (.ref it)) (λr s1=>r=ai/\Inv X Ψ σ H s1) E s
 self:∀(A:cg)(i:af)(s:ao)(Q:aj->ao->Prop)(E:aj->ao->Prop),tn i s.heap->Q (.ref it) s->ϑ (av P w) A (kG (.ref it)) Q E s
abbrev TI:=St->Hp->(It->Hp->Prop)->Prop
def PIE(X:Cx)(Ψ:aa (ak×bf))(σ:St)(tg:Expr)(R:It->Hp->Prop)(itv:aj)(s2:ao):Prop:=
 ∃(it:ak)(fp:aa ak)(tn:af->az->Prop)(J:It)(H':Hp),itv=.ref it/\Inv X Ψ σ H' s2/\Turn X.prog X.w X.K tg J fp it tn/\tn 0 s2.heap/\(∀b∈fp,Z1 X Ψ H' b)/\R J H'
def PI(X:Cx)(tg iter:Expr)(wi:TI):Prop:=
 ∀(Ψ:aa (ak×bf))(s:ao)(σ:St)(H:Hp)(R:It->Hp->Prop),Inv X Ψ σ H s->wi σ H R->
  ϑ (av X.prog X.w) X.A (bc iter X.env) (λv s1=>ϑ (av X.prog X.w) X.A (kG v) (PIE X Ψ σ tg R) X.xe s1) X.xe s
theorem aA4(ho:s.heap.get? it=ab o)(hc:o.cls=.type n)(hd:o.data=.fields vs)
 (hn:["enumerate","zip","dict_itemiterator","dict_reverseitemiterator","odict_iterator","itertools.zip_longest","itertools.pairwise"].contains n=ah)(hQ:Q () s):ϑ M A (nE tg (.ref it) u) Q E s:= by
  unfold nE;cases tg<;>first
    |exact aE hQ
    | (cases u<;>first
        |exact aE hQ
        | (refine am (wpAny_load ho ?_)
           rw[hc,hd];show ϑ M A (if (["enumerate","zip","dict_itemiterator","dict_reverseitemiterator","odict_iterator","itertools.zip_longest","itertools.pairwise"].contains n&&vs[0]?==ab (d6 _))=ae then _ else _) Q E s;rw[au (by intro h;rw[hn,Bool.false_and] at h;cases h)];exact aE hQ))
noncomputable def Itl(K:bi)(a:ak):It:=
 ⟨λi H=>∃xs x,SqL K H a xs/\xs[i]?=ab x,λi H x H'=>H'=H/\∀xs,SqL K H a xs->xs[i]?=ab x,λi H=>∃xs,SqL K H a xs/\xs.length<=i⟩
noncomputable def Itt(K:bi)(a:ak):It:=
 ⟨λi H=>∃xs x,SqT K H a xs/\xs[i]?=ab x,λi H x H'=>H'=H/\∀xs,SqT K H a xs->xs[i]?=ab x,λi H=>∃xs,SqT K H a xs/\xs.length<=i⟩
noncomputable def Itr(lo:ag)(n:af):It:=⟨λi _=>i<n,λi H x H'=>H'=H/\x=.int (lo+i),λi _=>n<=i⟩
theorem aA5{K:bi}(a it:ak):Turn P w K tg (Itl K a) [it] it (λi h=>h.IsListIter it a i) where
 mem:=by simp
 obj:=λi h st b hb=>by
  have e:b=it:=by simpa using hb
  subst e;obtain⟨o,e,c,d⟩:=st;exact⟨o,e,λv z=>by rw[d] at z;cases z⟩
 keep:=λi h h' st k=>st.at λo e=>k it 0x2 o e
 item:=by
  intro X hP hw hK hc i Ψ s σ H E I hf st hg;subst hP hw hK;obtain⟨xs,x,hq,hx⟩:=hg;obtain⟨its,rv,p,hz⟩:=I.list hq;obtain⟨u,hu,ru⟩:=rv.get hx;obtain⟨f0,f1,f2,f3,f4,f5⟩:=hf it 0x2;refine Ao st p.isList (by simpa using hu) λh' st' sb=>?_
  have I1:Inv X Ψ σ H {s with heap:=h'}:=I.turned (λb o hb e=>(sb.2 b hb).trans e) f0 f1 f3 f4 f5;obtain⟨o,e,c,d⟩:=id st';exact⟨u,rfl,aA4 e c d 0x4 ⟨x,H,I1,ru,⟨rfl,λys hy=>by rw[I.aE0 hy hq];exact hx⟩,st',λb hb=>(hf b hb).1⟩⟩
 done:=by
  intro X hP hw hK hc i Ψ s σ H E I hf st hg;subst hP hw hK;obtain⟨xs,hq,hx⟩:=hg;obtain⟨its,rv,p,hz⟩:=I.list hq;obtain⟨f0,f1,f2,f3,f4,f5⟩:=hf it 0x2;have hl:=rv.length;exact Ap (I.ok.hd hc) st p.isList (by simp;lia) λh' eb=>⟨rfl,I.turned (λb o hb e=>eb b o hb e) f0 f1 f3 f4 f5⟩
 self:=λ_ _ _ _ _ st h=>wpAny_pyIter_listiter st h
theorem XX{K:bi}(a it:ak):Turn P w K tg (Itt K a) [it] it (λi h=>h.IsTupleIter it a i) where
 mem:=by simp
 obj:=λi h st b hb=>by
  have e:b=it:=by simpa using hb
  subst e;obtain⟨o,e,c,d⟩:=st;exact⟨o,e,λv z=>by rw[d] at z;cases z⟩
 keep:=λi h h' st k=>st.at λo e=>k it 0x2 o e
 item:=by
  intro X hP hw hK hc i Ψ s σ H E I hf st hg;subst hP hw hK;obtain⟨xs,x,hq,hx⟩:=hg;obtain⟨its,rv,p,hz⟩:=I.tuple hq;obtain⟨u,hu,ru⟩:=rv.get hx;obtain⟨f0,f1,f2,f3,f4,f5⟩:=hf it 0x2;refine Aq st (show s.heap.IsTuple a its.toArray from p) (by simpa using hu) λh' st' sb=>?_
  have I1:Inv X Ψ σ H {s with heap:=h'}:=I.turned (λb o hb e=>(sb.2 b hb).trans e) f0 f1 f3 f4 f5;obtain⟨o,e,c,d⟩:=id st';exact⟨u,rfl,aA4 e c d 0x4 ⟨x,H,I1,ru,⟨rfl,λys hy=>by rw[I.aA1 hy hq];exact hx⟩,st',λb hb=>(hf b hb).1⟩⟩
 done:=by
  intro X hP hw hK hc i Ψ s σ H E I hf st hg;subst hP hw hK;obtain⟨xs,hq,hx⟩:=hg;obtain⟨its,rv,p,hz⟩:=I.tuple hq;obtain⟨f0,f1,f2,f3,f4,f5⟩:=hf it 0x2;have hl:=rv.length;exact Ar (I.ok.hd hc) st (show s.heap.IsTuple a its.toArray from p) (by simp;lia) λh' eb=>⟨rfl,I.turned (λb o hb e=>eb b o hb e) f0 f1 f3 f4 f5⟩
 self:=λ_ _ _ _ _ st h=>wpAny_pyIter_tupleiter st h
theorem X3{K:bi}(it:ak)(lo:ag)(n:af):Turn P w K tg (Itr lo n) [it] it (λi h=>As h it (lo+(i:af)*1) ((n:ag)-(i:af)) 1) where
 mem:=by simp
 obj:=λi h st b hb=>by
  have e:b=it:=by simpa using hb
  subst e;exact⟨_,st,λv z=>by
   have z':vS _=vT v:=z;cases z'⟩
 keep:=λi h h' st k=>k it 0x2 _ st
 item:=by
  intro X hP hw hK hc i Ψ s σ H E I hf st hg;subst hP hw hK;obtain⟨f0,f1,f2,f3,f4,f5⟩:=hf it 0x2;have W:=Walks.range (prog:=X.prog) (w:=X.w) (I.ok.hd hc) it lo 1 n;refine W.item i s _ _ hg st λv h' tk hv st' kk=>?_
  obtain⟨t,rfl⟩:=hv;have I1:Inv X Ψ σ H {s with heap:=h',toks:=tk}:=I.turned (λb o hb e=>kk b o (by simpa using hb) e) f0 f1 f3 f4 f5;refine⟨_,rfl,aA4 st' rfl rfl 0x4 ⟨.int (lo+i),H,I1,⟨t,?_⟩,⟨rfl,rfl⟩,st',λb hb=>(hf b hb).1⟩⟩;rw[Int.mul_one]
 done:=by
  intro X hP hw hK hc i Ψ s σ H E I hf st hg;subst hP hw hK;obtain⟨f0,f1,f2,f3,f4,f5⟩:=hf it 0x2;exact wpAny_pyNext_range_end (I.ok.hd hc) st (by have:n<=i:=hg;lia) λh' eb=>⟨rfl,I.turned (λb o hb e=>eb b o hb e) f0 f1 f3 f4 f5⟩
 self:=λ_ _ _ _ _ st h=>wpAny_pyIter_rangeiter st h
section
theorem T_{lo hi:ag}{t u v:dP}{tk:af}(I:Inv X Ψ σ H s)(h1:-(2 ^ 62)<=lo)(h2:lo<2 ^ 62)(h3:-(2 ^ 62)<=hi)(h4:hi<2 ^ 62)
 (q:R (Itr lo (hi-lo).toNat) H):ϑ (av X.prog X.w) X.A (kG (.ref s.heap.objs.size)) (PIE X Ψ σ tg R) E {s with heap:=s.heap.push {cls:=.type "range",data:=.fields #[.int lo t,.int hi u,.int 1 v]},toks:=tk}:=by
 refine wpAny_pyIter_range (IsRange.new ..) (small_one h1 h2 h3 h4) ?_;have I1:Inv X Ψ σ H {s with heap:=s.heap.push {cls:=.type "range",data:=.fields #[.int lo t,.int hi u,.int 1 v]},toks:=tk}:=I.kept λb o e=>bw _ e
 refine⟨(s.heap.push {cls:=.type "range",data:=.fields #[.int lo t,.int hi u,.int 1 v]}).objs.size,[(s.heap.push {cls:=.type "range",data:=.fields #[.int lo t,.int hi u,.int 1 v]}).objs.size],_,_,H,rfl,
  I1.kept λb o e=>bw _ e,X3 _ lo (hi-lo).toNat,?_,λb hb=>?_,q⟩
 ·have e1:lo+((0:af):ag)*1=lo:=by simp
  have e2:(((hi-lo).toNat:af):ag)-((0:af):ag)=Dh lo hi 1:=by rw[rangeSize_one];split<;>lia
  show As _ _ (lo+((0:af):ag)*1) ((((hi-lo).toNat:af):ag)-((0:af):ag)) 1;rw[e1,e2];exact cx _ rfl
 ·have e:b=(s.heap.push {cls:=.type "range",data:=.fields #[.int lo t,.int hi u,.int 1 v]}).objs.size:=by simpa using hb
  subst e;exact I1.aE2 (aT _) (I1.hok.fresh (aT _))
def aR8(ta:TA):TI:=λσ H R=>ta σ H λvs H1=>∃j:ag,vs=[.int j]/\-(2 ^ 62)<=j/\j<2 ^ 62/\R (Itr 0 j.toNat) H1
def aR9(ta:TA):TI:=λσ H R=>ta σ H λvs H1=>∃i j:ag,vs=[.int i,.int j]/\(-(2 ^ 62)<=i/\i<2 ^ 62/\-(2 ^ 62)<=j/\j<2 ^ 62)/\R (Itr i (j-i).toNat) H1
theorem aA6{p pos:cj}(hg:Gl X "range")(hm:X.mg "range"=ai)(ha:PA X [a] ta)(hs:bP [a] X.env=[(ah,bc a X.env)]:=by rfl):PI X tg (.Call (.Name "range" p) [a] [] pos) (aR8 ta):=by
 intro Ψ s σ H R I h;refine Call_ (lM I hg hm boot_range (iz (thn (ha pos Ψ s σ H _ I h) λus s1 ⟨vs,H1,I1,r1,q1⟩=>?_) hs rfl));obtain⟨j,e,q1,q2,q⟩:=q1;subst e;cases r1 with
 |cons r rr=>
  cases rr;obtain⟨t,rfl⟩:=r;exact call_range_1 (T_ I1 0x1 0x1 q1 q2 (by simpa using q))
theorem aA7(hg:Gl X "range")(hm:X.mg "range"=ai)(ha:PA X [a,b] ta)(hs:bP [a,b] X.env=[(ah,bc a X.env),(ah,bc b X.env)]:=by rfl)(hs2:bP [b] X.env=[(ah,bc b X.env)]:=by rfl) :
  PI X tg (.Call (.Name "range" p) [a,b] [] pos) (aR9 ta):=by
 intro Ψ s σ H R I h;refine Call_ (lM I hg hm boot_range (iz (thn (ha pos Ψ s σ H _ I h) λus s1 ⟨vs,H1,I1,r1,q1⟩=>?_) (by rw[hs,hs2]) (by rw[hs2];rfl)));obtain⟨i,j,e,⟨q1,q2,q3,q4⟩,q⟩:=q1;subst e;cases r1 with
 |cons r rr=>
  cases rr with
  |cons r' rr=>
   cases rr;obtain⟨t,rfl⟩:=r;obtain⟨t',rfl⟩:=r';exact call_range_2 (T_ I1 q1 q2 q3 q4 q)
def aTl(wi:TI)(g:TG)(tb:TS):TS:=λD σ H=>wi σ H λJ H1=>∃W:af->af->St->Hp->Prop,(∃m,W 0 m σ H1)/\∀i m σ H,W i m σ H->
 (J.stop i H/\D.nx σ H)\/(J.go i H/\∃N:St->Hp->Prop,(∀σ' H',N σ' H'->∃m',m'<m/\W (i+1) m' σ' H')/\∀x H',J.yld i H x H'->g x σ H' λσ2 H2=>tb {D with nx:=N,ct:=N,bk:=D.nx} σ2 H2)
noncomputable def yG(fp:aa ak)(h:az):aa (ak×bf):=fp.filterMap λb=>(h.get? b).map λo=>(b,o)
theorem oZ(hb:b∈fp)(e:h.get? b=ab o):(b,o)∈yG fp h:=Au.mpr ⟨b,hb,by rw[e];rfl⟩
theorem aA8(hp:p∈yG fp h):p.1∈fp/\h.get? p.1=ab p.2:=by
 obtain⟨b,hb,e⟩:=Au.mp hp;cases q:h.get? b with
 |none=>rw[q] at e;cases e
 |some o=>
  rw[q] at e;have e':(b,o)=p:=cS e;subst e';exact⟨hb,q⟩
theorem Inv.pinned(I:Inv X Ψ σ H s)(hf:∀b∈fp,Z1 X Ψ H b)(ho:∀b∈fp,∃o,s.heap.get? b=ab o/\∀v,o.data≠.cell v):Inv X (Ψ++yG fp s.heap) σ H s:=
 I.QX λp hp=>(dQ.mp hp).elim (λz=>I.pin p (eu _ z)) λz=>by
  obtain⟨hb,e⟩:=aA8 z;obtain⟨f0,f1,f2,_⟩:=hf p.1 hb;obtain⟨o,e',d⟩:=ho p.1 hb;rw[e] at e';cases e';exact⟨e,f0,f1,f2,d⟩
theorem Inv.uH(I:Inv X (Ψ++pl) σ H s):Inv X Ψ σ H s:=I.QX λp hp=>I.pin p (eu _ (i8 _ hp))
theorem aGl(hp:ny (av X.prog X.w) X.A X.env X.xe)(hc:X.calm=ae)(hi:PI X tg iter wi)(hg:PG X tg g)(hb:PSs X body tb)
 (hs:∀x,eB iter X.env x=pure x:=by intro _;rfl):PS X (.For tg iter body [] pos) (aTl wi g tb):=by
 intro Ψ s σ H D I h;refine wpAny_For (thn (hi Ψ s σ H _ I h) λv s1 h1=>thn h1 λitv s2 h2=>?_) hs;obtain⟨it,fp,tn,J,H2,e,I2,T,st2,f2,W,⟨m0,w0⟩,turn⟩:=h2;subst e
 -- what stays ae of the iterator's objects through the loop
 have stat:∀{H':Hp},(∀b∈fp,H' b=ai)->∀b∈fp,Z1 X Ψ H' b:=λhn b hb=>⟨hn b hb,(f2 b hb).2⟩
 refine codeAny_forLoop_any (λn s'=>∃i σ' H',Inv X Ψ σ' H' s'/\tn i s'.heap/\(∀b∈fp,H' b=ai)/\W i n σ' H') ?_ m0 ⟨0,σ,H2,I2,st2,λb hb=>(f2 b hb).1,w0⟩;rintro n s3 ⟨i,σ3,H3,I3,st3,fr3,w3⟩;rcases turn i n σ3 H3 w3 with ⟨stop,qn⟩|⟨go,N,hN,step⟩
 ·refine kF hp (thn (T.done X rfl rfl rfl hc i Ψ s3 σ3 H3 X.xe I3 (stat fr3) st3 stop) λr s4 ⟨hr,I4⟩=>?_);subst hr;exact sh ⟨σ3,H3,I4,qn⟩
 ·refine kF hp (thn (T.item X rfl rfl rfl hc i Ψ s3 σ3 H3 X.xe I3 (stat fr3) st3 go) λr s4 ⟨u,hr,h4⟩=>?_);subst hr;refine kF hp (thn h4 λ_ s5 ⟨x,H5,I5,r5,y5,st5,fr5⟩=>?_);have I5':=I5.pinned (stat fr5) (T.obj _ _ st5);refine kF hp (thn (hg _ s5 σ3 H5 x u _ I5' r5 (step x H5 y5)) λ_ s6 ⟨σ6,H6,I6,q6⟩=>?_);refine kF hp (thn (hb _ s6 σ6 H6 _ I6 q6) λf s7 q7=>?_);have again:∀{σ7:St}{H7:Hp},Inv X (Ψ++yG fp s5.heap) σ7 H7 s7->N σ7 H7->∃m,m<n/\∃i σ' H',Inv X Ψ σ' H' s7/\tn i s7.heap/\(∀b∈fp,H' b=ai)/\W i m σ' H':=λ{σ7 H7} I7 n7=>by
   obtain⟨m',hm,w7⟩:=hN σ7 H7 n7;refine⟨m',hm,i+1,σ7,H7,I7.uH,T.keep _ _ _ st5 λb hb o e=>(I7.pin (b,o) (eu _ (eu _ (oZ hb e)))).1,λb hb=>?_,w7⟩;obtain⟨o,e,d⟩:=T.obj _ _ st5 b hb;exact(I7.pin (b,o) (eu _ (eu _ (oZ hb e)))).2.1
  cases f with
  |next=>obtain⟨σ7,H7,I7,n7⟩:=q7;exact again I7 n7
  |cont=>obtain⟨σ7,H7,I7,n7⟩:=q7;exact again I7 n7
  |brk=>obtain⟨σ7,H7,I7,q7⟩:=q7;exact⟨σ7,H7,I7.uH,q7⟩
  |ret v=>obtain⟨x7,σ7,H7,I7,r7,q7⟩:=q7;exact⟨x7,σ7,H7,I7.uH,r7,q7⟩
end
abbrev R2:=V->V->Hp->VK->Prop
def OpR(X:Cx)(f:aj->aj->ib aj)(r:R2):Prop:=
 ∀(Ψ:aa (ak×bf))(s:ao)(σ:St)(H:Hp)(x y:V)(v u:aj)(Q:VK),Inv X Ψ σ H s->RelV x v->RelV y u->r x y H Q->
  ϑ (av X.prog X.w) X.A (f v u) (EP X Ψ σ Q) X.xe s
def UnR(X:Cx)(f:aj->ib aj)(r:V->Hp->VK->Prop):Prop:=
 ∀(Ψ:aa (ak×bf))(s:ao)(σ:St)(H:Hp)(x:V)(v:aj)(Q:VK),Inv X Ψ σ H s->RelV x v->r x H Q->
  ϑ (av X.prog X.w) X.A (f v) (EP X Ψ σ Q) X.xe s
def lE(X:Cx)(f:aj)(r:aa V->Hp->VK->Prop):Prop:=
 ∀(Ψ:aa (ak×bf))(s:ao)(σ:St)(H:Hp)(xs:aa V)(us:aa aj)(Q:VK),Inv X Ψ σ H s->Vals xs us->r xs H Q->
  ϑ (av X.prog X.w) X.A (call f us) (EP X Ψ σ Q) X.xe s
def aTm(X:Cx)(r:V->Hp->(aq->Hp->Prop)->Prop):Prop:=
 ∀(Ψ:aa (ak×bf))(s:ao)(σ:St)(H:Hp)(x:V)(v:aj)(Q:aq->Hp->Prop),Inv X Ψ σ H s->RelV x v->r x H Q->
  ϑ (av X.prog X.w) X.A (lI v) (TP X Ψ σ Q) X.xe s
noncomputable def tOp(r:R2)(ta tb:TE):TE:=λσ H Q=>ta σ H λx H1=>tb σ H1 λy H2=>r x y H2 Q
noncomputable def tUn(r:V->Hp->VK->Prop)(ta:TE):TE:=λσ H Q=>ta σ H λx H1=>r x H1 Q
noncomputable def rI(C:ag->ag->Prop)(g:ag->ag->V):R2:=λx y H Q=>∃i j,x=.int i/\y=.int j/\C i j/\Q (g i j) H
noncomputable def rI0(g:ag->ag->V):R2:=λx y H Q=>∃i j,x=.int i/\y=.int j/\Q (g i j) H
def rU(g:ag->V):V->Hp->VK->Prop:=λx H Q=>∃i,x=.int i/\Q (g i) H
section
variable {a b:Expr}
theorem aRa(ha:PE X a ta)(hb:PE X b tb){R:V->V->Hp->Prop}(I:Inv X Ψ σ H s)
 (h:ta σ H λx H1=>tb σ H1 λy H2=>R x y H2){Q:aj->ao->Prop}{f:aj->aj->ib aj}
 (hf:∀v u s2 x y H2,Inv X Ψ σ H2 s2->RelV x v->RelV y u->R x y H2->ϑ (av X.prog X.w) X.A (f v u) Q X.xe s2) :
  ϑ (av X.prog X.w) X.A (bc a X.env) (λv s₁=>ϑ (av X.prog X.w) X.A (bc b X.env) (λu s₂=>ϑ (av X.prog X.w) X.A (f v u) Q X.xe s₂) X.xe s₁) X.xe s:=by
 refine thn (ha Ψ s σ H _ I h) λv s1 ⟨x,H1,I1,r1,q1⟩=>?_
 refine thn (hb Ψ s1 σ H1 _ I1 q1) λu s2 ⟨y,H2,I2,r2,q2⟩=>?_
 exact hf v u s2 x y H2 I2 r1 r2 q2
theorem aRb(ho:OpR X (e6 op) r)(ha:PE X a ta)(hb:PE X b tb):PE X (.BinOp a op b pos) (tOp r ta tb):=by
 intro Ψ s σ H Q I h;exact wpAny_BinOp (aRa ha hb I h λv u s2 x y H2 I2 rx ry q=>ho Ψ s2 σ H2 x y v u Q I2 rx ry q)
theorem aRc(ho:UnR X (so op) r)(ha:PE X a ta):PE X (.UnaryOp op a pos) (tUn r ta):=by
 intro Ψ s σ H Q I h;exact UnaryOp_ (thn (ha Ψ s σ H _ I h) λv s1 ⟨x,H1,I1,r1,q1⟩=>ho Ψ s1 σ H1 x v Q I1 r1 q1)
theorem opI{g:ag->ag->ag}
 (kH:∀(i j:ag) (t u:dP) (s:ao) (Q:aj->ao->Prop) (E:aj->ao->Prop),C i j->Q (.int (g i j) s.toks) {s with toks:=s.toks+1}->ϑ (av X.prog X.w) X.A (f (.int i t) (.int j u)) Q E s) :
  OpR X f (rI C λi j=>.int (g i j)):=by
 intro Ψ s σ H x y v u Q I rx ry h;obtain⟨i,j,rfl,rfl,hc,q⟩:=h;obtain⟨t,rfl⟩:=rx;obtain⟨t',rfl⟩:=ry;exact kH i j t t' s _ _ hc ⟨.int (g i j),H,I.tok _,⟨_,rfl⟩,q⟩
theorem aT1{g:ag->ag->ag}
 (kH:∀(i j:ag) (t u:dP) (s:ao) (Q:aj->ao->Prop) (E:aj->ao->Prop),Q (.int (g i j) s.toks) {s with toks:=s.toks+1}->ϑ (av X.prog X.w) X.A (f (.int i t) (.int j u)) Q E s) :
  OpR X f (rI0 λi j=>.int (g i j)):=by
 intro Ψ s σ H x y v u Q I rx ry h;obtain⟨i,j,rfl,rfl,q⟩:=h;obtain⟨t,rfl⟩:=rx;obtain⟨t',rfl⟩:=ry;exact kH i j t t' s _ _ ⟨.int (g i j),H,I.tok _,⟨_,rfl⟩,q⟩
def aTn(i j:ag):Prop:=0<j/\j<1073741824
def aRd(i j:ag):Prop:=(-(2 ^ 64)<i/\i<2 ^ 64)\/(-(2 ^ 64)<j/\j<2 ^ 64)
theorem aRd.ok(h:aRd i j):IntMulOk i j:=by
 rcases h with ⟨h1,h2⟩|⟨h1,h2⟩
 ·exact .of_left (Av h1 h2)
 ·exact .of_right (Av h1 h2)
theorem aN3:OpR X (e6 .Add) (rI0 λi j=>.int (i+j)):=aT1 λ_ _ _ _ _ _ _ q=>add_int q
theorem aN4:OpR X (e6 .Sub) (rI0 λi j=>.int (i-j)):=aT1 λ_ _ _ _ _ _ _ q=>sub_int q
theorem aN5:OpR X (e6 .Mult) (rI aRd λi j=>.int (i*j)):=opI λ_ _ _ _ _ _ _ hc q=>mul_int q hc.ok
theorem aIb:OpR X (e6 .FloorDiv) (rI aTn λi j=>.int (i / j)):=opI λi j _ _ _ _ _ hc q=>by
 have h1:(0:ag)<j:=hc.1;have h2:j<1073741824:=hc.2;exact floordiv_int 0x1 (by rw[Int.fdiv_eq_ediv_of_nonneg i 0x1];exact q) (.inl (PyProof.noPylong_small 0x1))
theorem aN6:OpR X (e6 .Mod) (rI (λ_ j=>0<j) λi j=>.int (i % j)):=opI λi j _ _ _ _ _ hc q=>by
 have h1:(0:ag)<j:=hc;exact mod_int' 0x1 (by rw[Int.fmod_eq_emod_of_nonneg i 0x1];exact q)
theorem unI{g:ag->ag}
 (kH:∀(i:ag) (t:dP) (s:ao) (Q:aj->ao->Prop) (E:aj->ao->Prop),Q (.int (g i) s.toks) {s with toks:=s.toks+1}->ϑ (av X.prog X.w) X.A (f (.int i t)) Q E s) :
  UnR X f (rU λi=>.int (g i)):=by
 intro Ψ s σ H x v Q I rx h;obtain⟨i,rfl,q⟩:=h;obtain⟨t,rfl⟩:=rx;exact kH i t s _ _ ⟨.int (g i),H,I.tok _,⟨_,rfl⟩,q⟩
theorem aN7:UnR X (so .USub) (rU λi=>.int (-i)):=unI λ_ _ _ _ _ q=>neg_int q
end
section
variable {X:Cx} {a b c:Expr} {ta tb:TE} {pos:cj}
theorem aGm(I:Inv X Ψ σ H s)(q:Q (.bl k) H)(e:k=k'):EP X Ψ σ Q (.bool k') s:=by
 subst e;exact⟨.bl k,H,I,rfl,q⟩
theorem aA9:OpR X (dh .In) (λx y H Q=>∃i j,x=.str i/\y=.str j/\Q (.bl (!(Aw j i 0 j.length 1).isEmpty)) H):=by
 intro Ψ s σ H x y v u Q I rx ry h;obtain⟨i,j,rfl,rfl,q⟩:=h;obtain⟨t,rfl⟩:=rx;obtain⟨t',rfl⟩:=ry;exact in_str (aGm I q rfl)
theorem aN8:OpR X (dh .Is) (λx y H Q=>y=.non/\Q (.bl (ϒ (x=.non))) H):=by
 intro Ψ s σ H x y v u Q I rx ry h;obtain⟨rfl,q⟩:=h;cases ry;refine is_none_gen (aGm I q ?_);cases x<;>first
  | (cases rx;rfl)
  | (obtain⟨t,rfl⟩:=rx;rfl)
theorem bZ(b:Expr)(h:op≠.In:=by decide)(h2:op≠.NotIn:=by decide):lT op b=ah:=by
 have e1:(op==CmpOp.In)=ah:=by cases op<;>first|rfl|exact ay rfl h
 have e2:(op==CmpOp.NotIn)=ah:=by cases op<;>first|rfl|exact ay rfl h2
 cases b<;>simp[lT,e1,e2]
theorem aIc(ho:OpR X (dh op) r)(ha:PE X a ta)(hb:PE X b tb)(hm:lT op b=ah):PE X (.Compare a [op] [b] pos) (tOp r ta tb):=by
 intro Ψ s σ H Q I h;exact wpAny_Compare1 (aRa ha hb I h λv u s2 x y H2 I2 rx ry q=>ho Ψ s2 σ H2 x y v u Q I2 rx ry q) hm
noncomputable def aRe(t:TE):TT:=λσ H Q=>t σ H λx H'=>∃k,x=.bl k/\Q k H'
theorem aIe(ho:OpR X (dh op) r)(ha:PE X a ta)(hb:PE X b tb)(hm:lT op b=ah):PT X (.Compare a [op] [b] pos) (aRe (tOp r ta tb)):=by
 intro Ψ s σ H Q I h;refine wpAny_isTrue_Compare1 (thn (ha Ψ s σ H _ I h) λv s1 ⟨x,H1,I1,r1,q1⟩=>thn (hb Ψ s1 σ H1 _ I1 q1) λu s2 ⟨y,H2,I2,r2,q2⟩=>
  thn (ho Ψ s2 σ H2 x y v u _ I2 r1 r2 q2) λc s3 ⟨z,H3,I3,r3,k,e,q3⟩=>?_) hm
 subst e;cases r3;exact lP ⟨H3,I3,q3⟩
def aRf(K:bi)(x:V)(H:Hp)(k:aq):Prop:=
 match x with
 |.non=>k=ah
 |.bl b=>k=b
 |.int i=>k=(i !=0)
 |.str y=>y.length<=ba/\k=((y.length:ag)!=0)
 |.byt y=>y.size<=ba/\k=((y.size:ag)!=0)
 |.ref p=>(∃xs,SqL K H p xs/\k=!xs.isEmpty)\/(∃xs,SqT K H p xs/\k=!xs.isEmpty)\/∃kvs,H p=ab (.dK kvs)/\k=!kvs.isEmpty
 |_=>ck
theorem X4(r:KV kvs vs):(!vs.isEmpty)=!kvs.isEmpty:=by
 cases r<;>rfl
theorem CW(r:Vals xs its):(!its.toArray.isEmpty)=!xs.isEmpty:=by
 cases r<;>simp
theorem CZ:(ba:af)<2 ^ 63:=by rw[di];decide
theorem aN9:aTm X (λx H Q=>∃k,aRf X.K x H k/\Q k H):=by
 intro Ψ s σ H x v Q I rx h;obtain⟨k,e,q⟩:=h;have hl:=CZ;have hs:ba=16777216:=di;cases x with
 |non=>
  cases rx;have e':k=ah:=e;subst e';exact truthy_none ⟨H,I,q⟩
 |bl b=>
  cases rx;have e':k=b:=e;subst e';exact lP ⟨H,I,q⟩
 |int i=>
  obtain⟨t,rfl⟩:=rx;have e':k=(i !=0):=e;subst e';exact PySem.P.truthy_int ⟨H,I,q⟩
 |str y=>
  obtain⟨t,rfl⟩:=rx;obtain⟨hy,e'⟩:y.length<=ba/\k=((y.length:ag)!=0):=e;subst e';exact PySem.P.truthy_str 0x1 ⟨H,I.tok _,q⟩
 |byt y=>
  obtain⟨t,rfl⟩:=rx;obtain⟨hy,e'⟩:y.size<=ba/\k=((y.size:ag)!=0):=e;subst e';exact PySem.W.truthy_bytes 0x1 ⟨H,I.tok _,q⟩
 |ref p=>
  cases rx;have e':(∃xs,SqL X.K H p xs/\k=!xs.isEmpty)\/(∃xs,SqT X.K H p xs/\k=!xs.isEmpty)\/∃kvs,H p=ab (.dK kvs)/\k=!kvs.isEmpty:=e;rcases e' with ⟨xs,hx,e'⟩|⟨xs,hx,e'⟩|⟨kvs,hx,e'⟩
  ·subst e';obtain⟨its,r,pl,hz⟩:=I.list hx;have hlen:=r.length;exact wpAny_truthy_list pl.isList (by simp only[bS];lia) ⟨H,I.tok _,by rw[CW r];exact q⟩
  ·subst e';obtain⟨its,r,pl,hz⟩:=I.tuple hx;have hlen:=r.length;exact truthy_tuple pl (by simp only[bS];lia) ⟨H,I.tok _,by rw[CW r];exact q⟩
  ·subst e';obtain⟨hz,hS,vs,r,m⟩:kvs.length<=ba/\(p==gf)=ah/\∃vs,KV kvs vs/\s.heap.DictOf (cL X.prog X.w) p vs:=I.hok p _ hx;have hlen:kvs.length=vs.length:=jr r;exact wpAny_truthy_dict hS m 0x1 ⟨H,I.tok _,by rw[X4 r];exact q⟩
 |_=>exact(show ck from e).elim
theorem UG(ha:PE X a ta)(he:∀whole,ky a X.env whole=(do let v <- whole;kC a.pos;i9 [v] (lI v))) :
  PT X a (λσ H Q=>ta σ H λx H'=>∃k,aRf X.K x H' k/\Q k H'):=by
 intro Ψ s σ H Q I h;exact Ak (thn (ha Ψ s σ H _ I h) λv s1 ⟨x,H1,I1,r1,q1⟩=>aN9 Ψ s1 σ H1 x v Q I1 r1 q1) (he _)
theorem X5:OpR X (e6 .Add) (λx y H Q=>∃i j,x=.str i/\y=.str j/\i.length+j.length<=ba/\Q (.str (i++j)) H):=by
 intro Ψ s σ H x y v u Q I rx ry h;obtain⟨i,j,rfl,rfl,hz,q⟩:=h;obtain⟨t,rfl⟩:=rx;obtain⟨t',rfl⟩:=ry;exact add_str (λt' tk=>⟨.str (i++j),H,I.tok _,⟨_,rfl⟩,q⟩) hz
theorem vals1(r:Vals [x] us):∃u,us=[u]/\RelV x u:=by
 cases r with
 |cons r1 r2=>cases r2;exact⟨_,rfl,r1⟩
end
structure aIf(h:az)(x dx C:ak)(mA:Str->ar aj):Prop where
 obj:h.get? x=ab (jt C dx)
 ns:h.Ns1 dx mA
 ne:dx≠x
theorem aAa{h:az}(n:h.Ns1 dx mA):∃od,h.get? dx=ab od/\∀name,ss name od=ab (mA name):=by
 obtain⟨o,es,ep,ho,hd,hk,_,hm⟩:=n;refine⟨o,ho,λname=>?_⟩;have e:=hm name;unfold nsFind findBy at e;rw[<-Array.find?_toList] at e;unfold ss;rw[hd];dsimp only;split
 ·rename_i y q;rw[q] at e;exact cy ab e
 ·rename_i q;rw[q] at e;have a:es.toList.any (·.refKey)=ah:=by
   rw[Ax];intro y hy;obtain⟨z,t,hkey⟩:=hk y (Array.mem_toList_iff.mp hy);simp[Di,hkey]
  have a':¬es.toList.any (·.refKey)=ae:=by rw[a];exact nB
  rw[au a'];exact cy ab e
theorem aIf.look(I:aIf h x dx C mA):∃od,PySem.W.InstAt h x (jt C dx) C (ab od)/\∀name,ss name od=ab (mA name):=
 let ⟨od,ho,hl⟩:=aAa I.ns
 ⟨od,⟨I.obj,rfl,rfl,ho⟩,hl⟩
section
variable {prog:b5} {w:br} {A:cg} {E:aj->ao->Prop} {s:ao} {K:bi} {x dx C f:ak} {mA:Str->ar aj} {name:Str} {v:aj}
theorem GQ(X:K.In s.heap)(I:aIf s.heap x dx C mA)(hg:su K C name=ae)(hh:wb K C=ae)
 (ha:ja K (.ref C) name=ab ai)(hv:mA name=ab v)(hv':Ay v=ae)(h:Q v {s with toks:=s.toks+1}) :
  ϑ (av prog w) A (wc (.ref x) name expr) Q E s:=by
 obtain⟨od,J,hl⟩:=I.look;exact PySem.W.get_value X J (we hg).1 (PySem.W.findObj_own hh ha rfl (by rw[hl,hv])) hv' h
theorem aE3(X:K.In s.heap)(I:aIf s.heap x dx C mA)(hg:su K C name=ae)
 (hf:ja K (.ref C) name=ab (ab (.ref f)))(ht:wf K (.ref f)=ae)(hv:mA name=ai)(h:Q (.ref f,[.ref x]) s) :
  ϑ (av prog w) A (sx (.ref x) name pl) Q E s:=by
 obtain⟨od,J,hl⟩:=I.look;exact PySem.W.method_fn X J (we hg).1 (we hg).2 hf (ig.mp ht) (by show(ss name od).map (·.isSome)=ab ah;rw[hl,hv];rfl) h
theorem aIg(X:K.In s.heap)(I:aIf s.heap x dx C mA)
 (hs:ja K (.ref C) "__setattr__"=ab (ab (.builtin "object.__setattr__")))(hp:Az K C=ae)(ht:wg K C name=ab ai)(hh:wb K C=ae)
 (hw:sg mA ns)(hsz:ns.length<=ba)
 (h:∀h',aIf h' x dx C (λy=>if y=name then ab v else mA y)->gj dx s.heap h'->Q () {s with heap:=h',toks:=s.toks+2}) :
  ϑ (av prog w) A (setAttr (.ref x) name v) Q E s:=by
 obtain⟨od,J,hl⟩:=I.look;refine PySem.W.set_plain X J hs (PySem.W.osa_open X J hp ht λb=>?_);obtain⟨cd,hc,hd'⟩:=PySem.W.any_some hh;have hx:s.heap.get? x=ab ⟨.ref C,ab dx,.plain,#[]⟩:=I.obj;refine am (aE (am (am (wpAny_loadPart hx (am (Dj (PySem.W.looks_clsIn X hc) ?_))))));rw[hd'];refine aE (am (aE (am ?_)));refine wpAny_nsSet1 I.ns λh' hn2 hs2=>?_
 obtain⟨oD,esD,epD,hoD,hdD,hcD⟩:=hn2.count (Dl name v hw);refine am (wpAny_lookBehind hoD (by rw[hdD];exact pastItsLine_dict (c9 hcD (by rw[aS];lia))) ?_);exact aE (h _ ⟨(hs2.2 _ (cq I.ne)).trans I.obj,hn2,I.ne⟩ hs2)
theorem aE4(X:K.In s.heap)(hm:AA K C=ae)
 (hi:ja K (.ref C) "__init__"=ab (ab (.ref f)))(hf:PySem.W.typeIn K (.ref f)=ab (.type "function"))
 (h:codeAny (av prog w) (A.under (.builtin "type.__call__" ⟨.ref C::vs,kw⟩)) (.call (.ref f) ⟨.ref (s.heap.objs.size+1)::vs,kw⟩) (PySem.W.InitBack (s.heap.objs.size+1) R)
   {s with heap:=(s.heap.push jb).push (jt C s.heap.objs.size)}) :
  codeAny (av prog w) A (.call (.ref C) ⟨vs,kw⟩) R s:=by
 obtain⟨hh,g,d,t,os⟩:=s;exact PySem.W.make_core (PySem.W.makes_of X hm) (PySem.W.looks_findIn X hi) (λself=>PySem.W.bind_fn X self hf) (.inl rfl) h
end
noncomputable def GR(f:Str)(v:V):aa (Str×V)->aa (Str×V)
 |[]=>[(f,v)]
 | (g,x)::r=>if g=f then (g,v)::r else (g,x)::GR f v r
theorem yH(f g:Str)(v:V):∀fs:aa (Str×V),(GR f v fs).lookup g=if g=f then ab v else fs.lookup g
 |[]=>by
  show fy g [(f,v)]=_;by_cases h:g=f
  ·have hb:(g==f)=ae:=ig.mpr h;simp only[fy,hb,al h]
  ·have hb:(g==f)=ah:=fI.mpr h;simp only[fy,hb,au h]
 | (k,x)::r=>by
  have ih:=yH f g v r;rw[show GR f v ((k,x)::r)=(if k=f then (k,v)::r else (k,x)::GR f v r) from rfl];by_cases hk:k=f
  ·rw[al hk];by_cases h:g=k
   ·have hb:(g==k)=ae:=ig.mpr h;simp only[fy,hb,al (h.trans hk)]
   ·have hb:(g==k)=ah:=fI.mpr h;simp only[fy,hb,au (λe:g=f=>h (e.trans hk.symm))]
  ·rw[au hk];by_cases h:g=k
   ·have hb:(g==k)=ae:=ig.mpr h;simp only[fy,hb,au (λe:g=f=>hk (h.symm.trans e))]
   ·have hb:(g==k)=ah:=fI.mpr h;simp only[fy,hb];exact ih
theorem yI(f:Str)(v:V):∀fs:aa (Str×V),f∈(GR f v fs).map (·.1)/\∀g,g∈fs.map (·.1)->g∈(GR f v fs).map (·.1)
 |[]=>⟨by simp[GR],λg h=>by simp at h⟩
 | (k,x)::r=>by
  obtain⟨i1,i2⟩:=yI f v r;rw[show GR f v ((k,x)::r)=(if k=f then (k,v)::r else (k,x)::GR f v r) from rfl];by_cases hk:k=f
  ·rw[al hk];subst hk;exact⟨by simp,λg h=>by simpa using h⟩
  ·rw[au hk];refine⟨?_,λg h=>?_⟩
   ·rw[bd];exact bp _ i1
   ·rw[bd] at h ⊢;rcases bu.mp h with e|e
    ·exact bu.mpr (.inl e)
    ·exact bp _ (i2 g e)
theorem yJ(f:Str)(v:V):∀fs:aa (Str×V),(GR f v fs).length<=fs.length+1
 |[]=>by simp[GR]
 | (k,x)::r=>by
  have ih:=yJ f v r;rw[show GR f v ((k,x)::r)=(if k=f then (k,v)::r else (k,x)::GR f v r) from rfl];by_cases hk:k=f
  ·rw[al hk,aS,aS];lia
  ·rw[au hk,aS,aS];lia
theorem QK.some_of(r:QK (ab v) o):∃u,o=ab u/\RelV v u:=by
 cases o with
 |none=>exact(show ck from r).elim
 |some u=>exact⟨u,rfl,r⟩
theorem QK.none_of(r:QK ai o):o=ai:=by
 cases o with
 |none=>rfl
 |some u=>exact(show ck from r).elim
theorem aAb(r:RelV v u):Ay u=ae:=by
 cases v with
 |non=>cases (show u=r_ from r);rfl
 |bl b=>cases (show u=se b from r);rfl
 |int i=>obtain⟨t,e⟩:=(show ∃t,u=rc i t from r);cases e;rfl
 |str x=>obtain⟨t,e⟩:=(show ∃t,u=nq x t from r);cases e;rfl
 |byt b=>obtain⟨t,e⟩:=(show ∃t,u=Af b t from r);cases e;rfl
 |flt b=>obtain⟨t,e⟩:=(show ∃t,u=Ag b t from r);cases e;rfl
 |ref a=>cases (show u=eo a from r);rfl
 |ty n=>cases (show u=fN n from r);rfl
section
theorem Q0(hok:HOk P w H h)(e:H a=ab (.ins C dx fs)):∃mA,aIf h a dx C mA/\(∀f,QK (fs.lookup f) (mA f))/\sg mA (fs.map (·.1))/\fs.length<=1000/\H dx=ab (.own a):=by
 obtain⟨d,z,ne,ob,mA,n,r,q⟩:=(show jD P w H h a (.ins C dx fs) from hok a _ e)
 exact⟨mA,⟨ob,n,ne⟩,r,q,z,d⟩
end
structure Cls(K:bi)(C:ak):Prop where
 pg:su K C AB=ae
 hd:wb K C=ae
 po:Az K C=ae
 sa:ja K (.ref C) "__setattr__"=ab (ab (.builtin "object.__setattr__"))
theorem Cls.get{K:bi}(c:Cls K C)(f:Str):su K C f=ae:=c.pg
def sZ(K:bi)(C:ak)(f:Str):Prop:=ja K (.ref C) f=ab ai
theorem sZ.taker{K:bi}(n:sZ K C f):wg K C f=ab ai:=by
 unfold wg;rw[show ja K (.ref C) f=ab ai from n];rfl
structure Meth(K:bi)(C:ak)(m:Str)(f:ak):Prop where
 at_:ja K (.ref C) m=ab (ab (.ref f))
 fn:wf K (.ref f)=ae
 kp:iA K (.ref f)=ae
section
variable {a C dx:ak}
theorem X6(I:Inv X Ψ σ H s)(e:H a=ab (.ins C dx fs))(c:Cls X.K C)(n:sZ X.K C f)(l:fs.lookup f=ab v)
 (h:∀u s',Inv X Ψ σ H s'->RelV v u->Q u s'):ϑ (av X.prog X.w) A (wc (.ref a) f b) Q E s:=by
 obtain⟨mA,O,r,_,_,_⟩:=Q0 I.hok e;obtain⟨u,hu,ru⟩:=QK.some_of (by rw[<-l];exact r f);exact GQ I.kIn O (c.get f) c.hd n hu (aAb ru) (h u _ (I.tok _) ru)
theorem X7(I:Inv X Ψ σ H s)(e:H a=ab (.ins C dx fs))(c:Cls X.K C)(k:Meth X.K C m g)(l:fs.lookup m=ai)
 (h:Q (.ref g,[.ref a]) s):ϑ (av X.prog X.w) A (sx (.ref a) m pl) Q E s:=by
 obtain⟨mA,O,r,_,_,_⟩:=Q0 I.hok e;have hn:mA m=ai:=QK.none_of (by rw[<-l];exact r m);exact aE3 I.kIn O (c.get m) k.at_ k.fn hn h
theorem X8(I:Inv X Ψ σ H s)(e:H a=ab (.ins C dx fs))(c:Cls X.K C)(n:sZ X.K C f)(hl:fs.length<1000)(ry:RelV y u)
 (h:∀s',Inv X Ψ σ (upd H a (.ins C dx (GR f y fs))) s'->Q () s'):ϑ (av X.prog X.w) A (setAttr (.ref a) f u) Q E s:=by
 obtain⟨mA,O,r,wi,_,ho⟩:=Q0 I.hok e;have hz:(fs.map (·.1)).length<=ba:=by rw[aw,di];lia
 refine aIg I.kIn O c.sa c.po n.taker c.hd wi hz λh' O' sb=>h _ ?_
 have hd:∃o,h'.get? dx=ab o:=let ⟨o,_,_,e',_⟩:=O'.ns;⟨o,e'⟩
 refine I.write (by rw[e];exact jv) (.inr ho) (λb q hb z=>(sb.2 b hb).trans z) hd ?_;refine⟨by rw[bG O.ne];exact ho,?_,O.ne,O'.obj,_,O'.ns,λg=>?_,λg hg=>?_⟩
 ·have:=yJ f y fs;lia
 ·show QK ((GR f y fs).lookup g) (if g=f then ab u else mA g);rw[yH];by_cases q:g=f
  ·rw[al q,al q];exact ry
  ·rw[au q,au q];exact r g
 ·by_cases q:g=f
  ·rw[q];exact(yI f y fs).1
  ·refine(yI f y fs).2 g (wi g λz=>hg ?_);show(if g=f then ab u else mA g)=ai;rw[au q];exact z
theorem Inv.made(I:Inv X Ψ σ H s):Inv X Ψ σ (upd (upd H s.heap.objs.size (.own (s.heap.objs.size+1))) (s.heap.objs.size+1) (.ins C s.heap.objs.size []))
  {s with heap:=(s.heap.push jb).push (jt C s.heap.objs.size)}:=by
 have e1:(s.heap.push jb).get? s.heap.objs.size=ab jb:=cx s.heap rfl;have e2:((s.heap.push jb).push (jt C s.heap.objs.size)).get? (s.heap.objs.size+1)=ab (jt C s.heap.objs.size):=by
  have:=cx (s.heap.push jb) (o:=jt C s.heap.objs.size) rfl;rwa [dE] at this
 have e3:(s.heap.push jb).Ns s.heap.objs.size (λ_=>ai):=⟨jb,#[],_,e1,rfl,(λe he=>ay he 0x2),λ_=>rfl⟩
 have I1:=I.laid (o:=.own (s.heap.objs.size+1)) (h':=s.heap.push jb) (t':=s.toks) (λb u q=>bw _ q) (aT _) ⟨_,e1⟩;refine I1.laid (a:=s.heap.objs.size+1) (o:=.ins C s.heap.objs.size []) (t':=s.toks) (λb u q=>bw _ q) (wj (dE _ _)) ?_;have ne:s.heap.objs.size≠s.heap.objs.size+1:=cn (iE _);refine⟨by rw[bG ne,aK],cz _,ne,e2,λ_=>ai,(Dm e3).at λo q=>bw _ q,λ_=>jv,λy hy=>ay rfl hy⟩
theorem aIh(hb:gn e f env (bc e env)=bc e env)
 (h:ϑ (av prog w) A (bc e env) (λo s₁=>ϑ (av prog w) A (wc o f ae) Q E s₁) E s):ϑ (av prog w) A (bc (.Attribute e f pos) env) Q E s:=
 Attribute_any_ h (by rw[arm_eval_Attribute,hb])
end
noncomputable def aTo(K:bi)(ta:TE)(f:Str):TE:=λσ H Q=>ta σ H λx H1=>∃a C dx fs v,x=.ref a/\H1 a=ab (.ins C dx fs)/\Cls K C/\sZ K C f/\fs.lookup f=ab v/\Q v H1
def aT2(K:bi)(ta tv:TE)(f:Str):TS:=λD σ H=>tv σ H λy H1=>ta σ H1 λx H2=>∃a C dx fs,x=.ref a/\H2 a=ab (.ins C dx fs)/\Cls K C/\sZ K C f/\fs.length<1000/\
 D.nx σ (upd H2 a (.ins C dx (GR f y fs)))
section
theorem aNa(he:PE X e ta)(hb:gn e f X.env (bc e X.env)=bc e X.env):PE X (.Attribute e f pos) (aTo X.K ta f):=by
 intro Ψ s σ H Q I h;refine aIh hb (thn (he Ψ s σ H _ I h) λu s1 ⟨x,H1,I1,rx,a,C,dx,fs,v,ex,ea,c,n,l,q⟩=>?_);subst ex;obtain rfl:u=eo a:=rx;exact X6 I1 ea c n l λu' s2 I2 ru=>⟨v,H1,I2,ru,q⟩
theorem UJ(ha:PE X o ta)(hv:PE X value tv)(hs:dw value (ab (.Attribute o f pos')) pos.line X.env=pure ah):PS X (.Assign [.Attribute o f pos'] value pos) (aT2 X.K ta tv f):=by
 intro Ψ s σ H D I h;refine plainObj_wpAny_Assign_Attribute (thn (hv Ψ s σ H _ I h) λu s1 ⟨y,H1,I1,ry,q⟩=>thn (ha Ψ s1 σ H1 _ I1 q) λov s2 ⟨x,H2,I2,rx,a,C,dx,fs,ex,ea,c,n,l,q2⟩=>?_) hs;subst ex;obtain rfl:ov=eo a:=rx;exact X8 I2 ea c n l ry λs3 I3=>⟨σ,_,I3,q2⟩
end
structure nZ(k:af)(A:cg):Prop where
 hd:A.handled=ai
 dp:A.depth+3*k+5<AC
 un:A.units+16*k+200<bX
theorem nZ.mono(r:nZ k A)(h:j<=k):nZ j A:=⟨r.hd,by have:=r.dp;lia,by have:=r.un;lia⟩
theorem nZ.deeper(r:nZ (k+1) A)(env:dg):nZ k (A.deeper env):=
 ⟨r.hd,by have:=r.dp;show A.depth+1+3*k+5<_;lia,by have:=r.un;show A.units+3+16*k+200<_;lia⟩
theorem X_{A:cg}:(A.under (.builtin "type.__call__" ⟨.ref C::us,kw⟩)).depth=A.depth+1:=by
 first|rfl|simp[wm,Code.weight,Code.isCreation,Code.isGuard,Code.isCaller,AD,wo,guardIds]
theorem YB{A:cg}:(A.under (.builtin "type.__call__" ⟨.ref C::us,kw⟩)).units=A.units+1:=by
 first|rfl|simp[wm,Code.cUnits,AD,wo]
theorem nZ.make(r:nZ (k+1) A)(C:ak)(us:aa aj)(kw:aa (Str×aj)):nZ k (A.under (.builtin "type.__call__" ⟨.ref C::us,kw⟩)):=
 ⟨r.hd,by have:=r.dp;rw[X_];lia,by have:=r.un;rw[YB];lia⟩
theorem nZ.depth(r:nZ k A):A.depth<AC:=by have:=r.dp;lia
theorem nZ.units(r:nZ k A):A.units+64<bX:=by have:=r.un;lia
noncomputable def aTp:TA:=λ_ H Q=>Q [] H
noncomputable def aRg(ta:TE)(tr:TA):TA:=λσ H Q=>ta σ H λx H1=>tr σ H1 λxs H2=>Q (x::xs) H2
section
variable {t:TA}
theorem j8:PA X [] aTp:=λ_ _ _ _ H Q I h=>l8 ⟨[],H,I,.nil,h⟩
theorem eG(ha:PE X e te)(hr:PA X es t)(hs:zSE X e es:=by rfl):PA X (e::es) (aRg te t):=by
 intro pos Ψ s σ H Q I h;rw[hs];show ϑ _ _ (kA ((ah,bc e X.env)::iw pos (bP es X.env))) _ _ s;refine ma (thn (ha Ψ s σ H _ I h) λu s1 ⟨x,H1,I1,r1,q1⟩=>?_);exact thn (hr pos Ψ s1 σ H1 _ I1 q1) λus s2 ⟨xs,H2,I2,r2,q2⟩=>⟨x::xs,H2,I2,.cons r1 r2,q2⟩
def aTq(t:TA):TE:=λσ H Q=>t σ H λxs H1=>xs.length<=ba/\∀p,H1 p=ai->Q (.ref p) (upd H1 p (.tup xs))
def aTr(t:TA):TE:=λσ H Q=>t σ H λxs H1=>xs.length<=ba/\∀p,H1 p=ai->Q (.ref p) (upd H1 p (.lst xs))
theorem aAc{x1}(h:PA X es t):PE X (.Tuple es x1 pos) (aTq t):=by
 intro Ψ s σ H Q I hq;refine wpAny_Tuple_spliced (thn (h pos Ψ s σ H _ I hq) λus s1 ⟨xs,H1,I1,r,z,q⟩=>⟨by rw[<-r.length];exact z,?_⟩);have hf:H1 s1.heap.objs.size=ai:=I1.hok.fresh (aT _);refine⟨.ref s1.heap.objs.size,upd H1 s1.heap.objs.size (.tup xs),I1.laid (λb u e=>bw _ e) (aT _) ?_,rfl,q _ hf⟩;exact⟨z,us,r,⟨_,cx _ rfl,rfl,_,rfl⟩⟩
theorem aAd(h:PA X es t):PE X (.List es pos) (aTr t):=by
 intro Ψ s σ H Q I hq;refine wpAny_List_spliced (thn (h pos Ψ s σ H _ I hq) λus s1 ⟨xs,H1,I1,r,z,q⟩=>⟨by rw[<-r.length];exact z,?_⟩);have hf:H1 s1.heap.objs.size=ai:=I1.hok.fresh (aT _);refine⟨.ref s1.heap.objs.size,upd H1 s1.heap.objs.size (.lst xs),I1.laid (λb u e=>bw _ e) (aT _) ?_,rfl,q _ hf⟩;exact⟨z,us,0,r,cx _ rfl⟩
end
abbrev Sp:=aa V->Hp->VK->XK->Prop
abbrev CXT:=aa dg->Hp->ao->XK->aj->ao->Prop
structure aIi(P:b5)(w:br)(K:bi)(mg:Str->ar aj)(base:az)(A:cg)(outer:aa dg)(s:ao)(H:Hp):Prop where
 frames:A.frames=ab outer
 mod:Mod K mg base
 bs:∀b o,base.get? b=ab o->s.heap.get? b=ab o/\H b=ai
 bsz:base.objs.size<=s.heap.objs.size
 Z0:s.heap.FunFrames base outer
 frf:∀b∈frs outer,H b=ai
 hok:HOk P w H s.heap
 bare:ju s.gens
def CE(outer:aa dg)(P:b5)(w:br)(H:Hp)(s:ao)(Q:VK)(u:aj)(s':ao):Prop:=
 ∃v H',s'.os=s.os/\ju s'.gens/\Un (frs outer) [] H H' s.heap s'.heap/\HOk P w H' s'.heap/\RelV v u/\Q v H'
def CR(CX:CXT)(outer:aa dg)(P:b5)(w:br)(H:Hp)(s:ao)(Q:VK)(E:XK)(r:md)(s':ao):Prop:=
 match r with
 |.ok (.ret u)=>CE outer P w H s Q u s'
 |.ok _=>ck
 |.error e=>CX outer H s E e s'
structure vH(P:b5)(w:br)(K:bi)(mg:Str->ar aj)(base:az)(CX:CXT)(k:af)(f:ak)(fd:dS)(ps:aa Str)(sp:Sp):Prop where
 len:∀vs H Q E,sp vs H Q E->vs.length=ps.length
 run:∀(A:cg)(outer:aa dg)(s:ao)(H:Hp)(args:Args)(us:aa aj)(vs:aa V)(Q:VK)(E:XK),nZ k A->aIi P w K mg base A outer s H->kK s fd args (ps.zip us)->Vals vs us->sp vs H Q E->
  codeAny (av P w) A (.call (.ref f) args) (CR CX outer P w H s Q E) s
theorem aIi.make{K:bi}{base:az}{A:cg}{outer:aa dg}{s:ao}{H:Hp}(e:aIi P w K mg base A outer s H)(C:ak)(us:aa aj)(kw:aa (Str×aj)) :
  aIi P w K mg base (A.under (.builtin "type.__call__" ⟨.ref C::us,kw⟩)) outer s H:=⟨by first|exact e.frames|(simpa[wm,Code.envs,wo,pushEnvs] using e.frames),e.mod,e.bs,e.bsz,e.Z0,e.frf,e.hok,e.bare⟩
section
theorem Inv.env0(I:Inv X Ψ σ H s):aIi X.prog X.w X.K X.mg X.base X.A X.stack s H:=
 ⟨I.ok.frames,I.ok.mod,I.bs,c9 I.ok.bsz I.sz,I.stack,I.Z9,I.hok,I.bare⟩
theorem Inv.after(I:Inv X Ψ σ H s)(h:CE X.stack X.prog X.w H s Q u s'):EP X Ψ σ Q u s':=by
 obtain⟨v,H',os,bare,un,hok,r,q⟩:=h;obtain⟨hh,g,d,t,os'⟩:=s';obtain rfl:os'=s.os:=os;exact⟨v,H',I.call un hok bare (λb z=>ay z 0x2),r,q⟩
end
noncomputable def aRh(sp:Sp)(dvs:aa V)(E:XK)(t:TA):TE:=λσ H Q=>t σ H λvs H1=>sp (vs++dvs) H1 Q E
noncomputable def aRi(C:ak)(m:Str)(sp:Sp)(dvs:aa V)(E:XK)(ta:TE)(t:TA):TE:=λσ H Q=>ta σ H λx H1=>∃a dx fs,x=.ref a/\H1 a=ab (.ins C dx fs)/\fs.lookup m=ai/\
 t σ H1 λvs H2=>sp (x::(vs++dvs)) H2 Q E
def aRj(C:ak)(sp:Sp)(dvs:aa V)(E:XK)(t:TA):TE:=λσ H Q=>t σ H λvs H1=>∀x dx,H1 x=ai->H1 dx=ai->dx≠x->
 sp (.ref x::(vs++dvs)) (upd (upd H1 dx (.own x)) x (.ins C dx [])) (λv H2=>v=.non/\Q (.ref x) H2) E
def Binds(K:bi)(fd:dS)(ps:aa Str)(ds:aa aj):Prop:=
 ∀(s:ao)(us:aa aj),K.In s.heap->(us++ds).length=ps.length->kK s fd ⟨us,[]⟩ (ps.zip (us++ds))
theorem Binds.all{K:bi}(h:∀us:aa aj,us.length=ps.length->bindArgs fd ⟨us,[]⟩=pure (ps.zip us)):Binds K fd ps []:=λs us _ hl=>by
 rw[dq] at hl ⊢;exact .of_eq (h us hl)
def C_(CX:CXT)(X:Cx)(E:XK):Prop:=∀(Ψ:aa (ak×bf))(σ:St)(H:Hp)(s:ao)(e:aj)(s':ao),Inv X Ψ σ H s->CX X.stack H s E e s'->X.xe e s'
section
variable {f C:ak} {e o:Expr}
theorem aGn(F:vH X.prog X.w X.K X.mg X.base CX k f fd ps sp)(hr:nZ k X.A)(hb:Binds X.K fd ps ds)(hd:Vals dvs ds)(hx:C_ CX X E)
 (I:Inv X Ψ σ H s)(r:Vals vs us)(h:sp (vs++dvs) H Q E):ϑ (av X.prog X.w) X.A (call (.ref f) us) (EP X Ψ σ Q) X.xe s:=by
 have r2:Vals (vs++dvs) (us++ds):=r.append hd;have hl:(us++ds).length=ps.length:=by rw[<-r2.length];exact F.len _ _ _ _ h
 refine wq (kL (F.run X.A X.stack s H ⟨us,[]⟩ (us++ds) (vs++dvs) Q E hr I.env0 (hb s us I.kIn hl) r2 h) λr s' hq=>?_);cases r with
 |error e=>exact hx Ψ σ H s e s' I hq
 |ok fl=>
  cases fl with
  |ret u=>exact I.after hq
  |next=>exact eW hq
  |brk=>exact eW hq
  |cont=>exact eW hq
theorem Q3(F:vH X.prog X.w X.K X.mg X.base CX k f fd ps sp)(hr:nZ k X.A)(hg:Gl X x)(hm:X.mg x=ab (.ref f))(hk:iA X.K (.ref f)=ae)(hb:Binds X.K fd ps ds)(hd:Vals dvs ds)(hx:C_ CX X E)
 (ha:PA X (e::es) t)(hdb:nDb x:=by decide)(he:zSE X e es:=by rfl)(hpl:zSP X pos es:=by rfl) :
  PE X (.Call (.Name x p) (e::es) [] pos) (aRh sp dvs E t):=by
 intro Ψ s σ H Q I h;refine ii (aA0 I hg hm ?_ hdb);refine wu I.ok.mod.kin hk (thn (ha pos Ψ s σ H _ I h) λus s1 ⟨vs,H1,I1,r,q⟩=>⟨I1.kIn,?_⟩) he hpl;exact aGn F hr hb hd hx I1 r q
theorem aIj(he:PE X o ta)(c:Cls X.K C)(hm:Meth X.K C m f)(F:vH X.prog X.w X.K X.mg X.base CX k f fd ps sp)(hr:nZ k X.A)(hb:Binds X.K fd ps ds)(hd:Vals dvs ds)(hx:C_ CX X E)(ha:PA X (e::es) t)
 (hst:zSE X e es:=by rfl)(hpl:zSP X pos es:=by rfl)
 (ht:bc (.Call (.Attribute o m apos) (e::es) [] pos) X.env=(do
   let ov <- bc o X.env
   kC apos.atName
   let (f,first) <- i9 [ov] (sx ov m pl)
   sy pos f first (iw pos (bP (e::es) X.env)) (vx pos (vE [] X.env))):=by rfl) :
  PE X (.Call (.Attribute o m apos) (e::es) [] pos) (aRi C m sp dvs E ta t):=by
 intro Ψ s σ H Q I h;refine PySem.W.methodCall_KW (thn (he Ψ s σ H _ I h) λu s1 ⟨x,H1,I1,rx,a,dx,fs,ex,ea,l,q⟩=>?_) ht;subst ex;obtain rfl:u=eo a:=rx;refine X7 I1 ea c hm l ?_;refine wu I.ok.mod.kin hm.kp (thn (ha pos Ψ s1 σ H1 _ I1 q) λus s2 ⟨vs,H2,I2,r,q2⟩=>⟨I2.kIn,?_⟩) hst hpl;exact aGn (vs:=.ref a::vs) F hr hb hd hx I2 (.cons rfl r) q2
structure Mk(K:bi)(C f:ak):Prop where
 makes:AA K C=ae
 init:ja K (.ref C) "__init__"=ab (ab (.ref f))
 fn:wf K (.ref f)=ae
 kp:iA K (.ref C)=ae
theorem aE5(M:Mk X.K C f)(F:vH X.prog X.w X.K X.mg X.base CX k f fd ps sp)(hr:nZ (k+1) X.A)(hb:Binds X.K fd ps ds)(hd:Vals dvs ds)
 (hx:C_ CX X E)(I:Inv X Ψ σ H s)(r:Vals vs us)
 (h:∀x dx,H x=ai->H dx=ai->dx≠x->sp (.ref x::(vs++dvs)) (upd (upd H dx (.own x)) x (.ins C dx [])) (λv H2=>v=.non/\Q (.ref x) H2) E) :
  ϑ (av X.prog X.w) X.A (call (.ref C) us) (EP X Ψ σ Q) X.xe s:=by
 have hq:=h (s.heap.objs.size+1) s.heap.objs.size (I.hok.fresh (gp _)) (I.hok.fresh (aT _)) (cn (iE _));have I2:=Inv.made (C:=C) I;have r2:Vals (V.ref (s.heap.objs.size+1)::(vs++dvs)) (eo (s.heap.objs.size+1)::(us++ds)):=.cons rfl (r.append hd);have hl:(eo (s.heap.objs.size+1)::us++ds).length=ps.length:=by
  have e:=r2.length;rw[F.len _ _ _ _ hq] at e;exact e.symm
 refine wq (aE4 I.kIn M.makes M.init (ig.mp M.fn) (kL (F.run _ X.stack _ _ ⟨eo (s.heap.objs.size+1)::us,[]⟩ (eo (s.heap.objs.size+1)::(us++ds)) _ _ E (hr.make C us [])
  (I2.env0.make C us []) (hb _ (eo (s.heap.objs.size+1)::us) I2.kIn hl) r2 hq) λr s' hq'=>?_))
 cases r with
 |error e=>exact hx Ψ σ _ _ e s' I2 hq'
 |ok fl=>
  cases fl with
  |ret u=>
   obtain⟨v,H',I3,rv,ev,q3⟩:=I2.after hq';subst ev;exact⟨rv,⟨V.ref (s.heap.objs.size+1),H',I3,rfl,q3⟩⟩
  |next=>exact eW hq'
  |brk=>exact eW hq'
  |cont=>exact eW hq'
theorem aIk(M:Mk X.K C f)(F:vH X.prog X.w X.K X.mg X.base CX k f fd ps sp)(hr:nZ (k+1) X.A)(hg:Gl X x)(hm:X.mg x=ab (.ref C))(hb:Binds X.K fd ps ds)(hd:Vals dvs ds)(hx:C_ CX X E)
 (ha:PA X (e::es) t)(hdb:nDb x:=by decide)(he:zSE X e es:=by rfl)(hpl:zSP X pos es:=by rfl) :
  PE X (.Call (.Name x p) (e::es) [] pos) (aRj C sp dvs E t):=by
 intro Ψ s σ H Q I h;refine ii (aA0 I hg hm ?_ hdb);refine wu I.ok.mod.kin M.kp (thn (ha pos Ψ s σ H _ I h) λus s1 ⟨vs,H1,I1,r,q⟩=>⟨I1.kIn,?_⟩) he hpl;exact aE5 M F hr hb hd hx I1 r q
end
structure bV(N P:aa Str)(sc:fR):Prop where
 kind:sc.kind=.function
 co:sc.isCoroutine=ah
 gen:sc.isGenerator=ah
 nd:N.Nodup
 pre:N.take P.length=P
 par:∀x∈P,sc.names.lookup x=ab .local\/sc.names.lookup x=ab .cell
 nofree:∀y∈sc.names,y.2≠.free
theorem KD{kindOf:Str->ar iF}:∀{binds:aa (Str×aj)}{m:Str->ar aj},(∀v,(x,v)∉binds)->jw kindOf binds m x=m x
 |[],_,_=>rfl
 | (n,v)::r,m,h=>by
  unfold jw;rw[KD λw hw=>h w (bp _ hw)];split
  ·have:x≠n:=by rintro rfl;exact h v bj
   simp[this]
  ·rfl
theorem KH{kindOf:Str->ar iF}:∀{binds:aa (Str×aj)}{m:Str->ar aj},(∀v,(x,v)∉binds)->jx kindOf binds m x=m x
 |[],_,_=>rfl
 | (n,v)::r,m,h=>by
  unfold jx;rw[KH λw hw=>h w (bp _ hw)];split
  ·rfl
  ·have:x≠n:=by rintro rfl;exact h v bj
   simp[this]
theorem KJ{kindOf:Str->ar iF}:∀{P:aa Str}{vs:aa aj}{i:af}{m:Str->ar aj},P.Nodup->P[i]?=ab x->vs[i]?=ab v->kindOf x=ab .local->
  jw kindOf (P.zip vs) m x=ab v
 |[],_,_,_,_,h,_,_=>by simp at h
 |_::_,[],_,_,_,_,h,_=>by simp at h
 |p::P,w::vs,0,m,nd,h1,h2,hk=>by
  simp at h1 h2;subst h1;subst h2;show jw kindOf ((p,w)::P.zip vs) m p=_;unfold jw;rw[KD λv hv=>(c_.mp nd).1 (nI hv).1,al hk];simp
 |p::P,w::vs,i+1,m,nd,h1,h2,hk=>by
  show jw kindOf ((p,w)::P.zip vs) m x=_;unfold jw;exact KJ (c_.mp nd).2 (by simpa using h1) (by simpa using h2) hk
theorem KN{kindOf:Str->ar iF}:∀{P:aa Str}{vs:aa aj}{i:af}{m:Str->ar aj},P.Nodup->P[i]?=ab x->vs[i]?=ab v->kindOf x≠ab .local->
  jx kindOf (P.zip vs) m x=ab v
 |[],_,_,_,_,h,_,_=>by simp at h
 |_::_,[],_,_,_,_,h,_=>by simp at h
 |p::P,w::vs,0,m,nd,h1,h2,hk=>by
  simp at h1 h2;subst h1;subst h2;show jx kindOf ((p,w)::P.zip vs) m p=_;unfold jx;rw[KH λv hv=>(c_.mp nd).1 (nI hv).1,au hk];simp
 |p::P,w::vs,i+1,m,nd,h1,h2,hk=>by
  show jx kindOf ((p,w)::P.zip vs) m x=_;unfold jx;exact KN (c_.mp nd).2 (by simpa using h1) (by simpa using h2) hk
noncomputable def start(N:aa Str)(vs:aa V):St:=vs.map ab++bq (N.length-vs.length) ai
noncomputable def Z2(CX:CXT)(P:b5)(w:br)(K:bi)(mg:Str->ar aj)(base:az)(N:aa Str)(qual:Str)(scope:fR)(f:ak)(cd:aj)(A:cg)(outer:aa dg)(s:ao)(H:Hp)(E:XK):Cx where
 prog:=P
 w:=w
 K:=K
 mg:=mg
 base:=base
 A:=A.deeper (fS qual scope s.heap.objs.size f cd)
 N:=N
 s₀:=s
 H₀:=H
 env:=fS qual scope s.heap.objs.size f cd
 outer:=outer
 stack:=fS qual scope s.heap.objs.size f cd::outer
 ex:=[]
 calm:=ae
 fn:=λ_=>ae
 pn:=[]
 xe:=λe s'=>ϑ (av P w) (A.deeper (fS qual scope s.heap.objs.size f cd)) (leaving (fS qual scope s.heap.objs.size f cd) e) (λ_ s''=>CX outer H s E e s'') (λe' s''=>CX outer H s E e' s'') s'
theorem UL{sc:fR}(h:sc.names.lookup x=ab .cell):∃c,(wy n sc.names []).lookup x=ab c:=by
 have q:=AE sc.names n [] (.inl h);exact wz.mp q
theorem aAe{CX:CXT}{P:b5}{w:br}{K:bi}{mg:Str->ar aj}{base:az}{N ps:aa Str}{qual:Str}{scope:fR}{f:ak}{cd:aj}{A:cg}{outer:aa dg}{s s1:ao}{H:Hp}{E:XK}{us:aa aj}{vs:aa V}
 (S:bV N ps scope)(hd:A.handled=ai)(e0:aIi P w K mg base A outer s H)(hl:vs.length=ps.length)(r:Vals vs us)
 (x:InCallC s s.heap.objs.size (jw (fS qual scope s.heap.objs.size f cd).kindOf (ps.zip us) λ_=>ai) (wy (s.heap.objs.size+1) scope.names []) (jx (fS qual scope s.heap.objs.size f cd).kindOf (ps.zip us) λ_=>ai) s1) :
  Inv (Z2 CX P w K mg base N qual scope f cd A outer s H E) [] (start N vs) H s1:=by
 have hpl:ps.length<=N.length:=by have:=cy me S.pre;rw[mf] at this;lia
 obtain⟨h1,tk,rfl,hk⟩:=x.done;have noA:∀b:ak,b∉(Z2 CX P w K mg base N qual scope f cd A outer s H E).ex:=λb z=>ay (show b∈([]:aa ak) from z) 0x2
 refine⟨⟨e0.mod,S.kind,rfl,rfl,aT _,λy z c h1 h2=>?_,λy hy=>?_,λy c _ h=>?_,λ_=>hd,Around.frames_deeper e0.frames,.inr ⟨rfl,rfl⟩,λb z=>ay z (noA b),e0.bs,e0.bsz,λb _ _=>noA b,λb z=>ay z (noA b),e0.Z0,e0.frf⟩,
  rfl,e0.bare,Un.kept hk,⟨_,x.toInCall.ns,λi y v h1 h2 h3=>?_⟩,λy c h=>⟨_,x.cell y c h⟩,e0.hok.fresh (aT _),λy c h=>?_,λp hp=>ay (show p∈([]:aa (ak×bf)) from hp) 0x2,e0.hok.kept hk,?_⟩
 ·exact name_of_addr x.apart (mh h1) (mh h2)
 ·have hy:scope.names.lookup y=ab .cell\/scope.names.lookup y=ab .free:=hy;rcases hy with hy|hy
  ·exact UL hy
  ·exact ay rfl (S.nofree _ (mh hy))
 ·exact lz (x.above y c (mh h))
 ·have hi:i<vs.length:=by
   unfold start at h2;by_cases hi:i<vs.length
   ·exact hi
   ·rw[gm (by simpa using hi)] at h2;rw[jc] at h2;split at h2<;>cases h2
  have ha:vs[i]?=ab v:=by
   unfold start at h2;rw[gq (by simpa using hi),gs] at h2;cases e:vs[i]? with
   |none=>rw[e] at h2;cases h2
   |some a=>rw[e] at h2;cases h2;rfl
  obtain⟨u,hu,rv⟩:=r.get ha;have hp:ps[i]?=ab y:=by
   rw[<-S.pre,List.getElem?_take_of_lt 0x1];exact h1
  have ndP:ps.Nodup:=by rw[<-S.pre];exact S.nd.sublist (List.take_sublist _ _)
  refine⟨u,rv,?_⟩;rcases S.par y (nK hp) with k|k
  ·exact .inl ⟨k,KJ ndP hp hu k⟩
  ·obtain⟨c,e⟩:=UL k;refine .inr ⟨.inl k,c,e,?_⟩;have q:=x.cell y c e;rw[KN ndP hp hu (by show scope.names.lookup y≠_;rw[k];decide)] at q;exact q
 ·exact e0.hok.fresh (lz (x.above y c (mh h)))
 ·unfold start;show _=N.length;rw[bg,aw,nL];lia
theorem aNb{w:br}{K:bi}{mg:Str->ar aj}{base:az}{k:af}{f:ak}{name qual:Str}{params:Arguments}{body:aa bn}{scope:fR}{dV kV doc pm cdv ct oc:aj}{an od:ar ak}
 {osl:ax (ar aj)}{N ps:aa Str}{sp:Sp}(lk:K.lookup f=ab ⟨oc,od,.func (kM name qual params body scope dV kV doc pm an cdv ct),osl⟩)(hcd:sA K cdv qual=ae)(S:bV N ps scope)
 (len:∀vs H Q E,sp vs H Q E->vs.length=ps.length)
 (hbody:∀(A:cg) (outer:aa dg) (s:ao) (H:Hp) (vs:aa V) (Q:VK) (E:XK),nZ k (A.deeper (fS qual scope s.heap.objs.size f cdv))->sp vs H Q E->
   ∃t,PSs (Z2 CX P w K mg base N qual scope f cdv A outer s H E) body t/\t {nx:=λ_ H'=>Q .non H',rt:=Q} (start N vs) H) :
  vH P w K mg base CX (k+1) f (kM name qual params body scope dV kV doc pm an cdv ct) ps sp:=by
 refine⟨len,λA outer s H args us vs Q E hr e0 hb r hsp=>?_⟩;have hl:=len _ _ _ _ hsp;have KX:K.In s.heap:=e0.mod.kin.keeps λb o e=>(e0.bs b o e).1
 have lim:s.heap.NoLimit:=e0.mod.nolimit.keeps λb o e=>(e0.bs b o e).1
 have hkind:∀y∈ps.zip us,scope.names.lookup y.1=ab .local\/(scope.names.lookup y.1=ab .cell/\((wy (s.heap.objs.size+1) scope.names []).lookup y.1).isSome=ae):=λ⟨n,v⟩ hy=>by
  rcases S.par n (nI hy).1 with q|q
  ·exact .inl q
  ·exact .inr ⟨q,AE _ _ _ (.inl q)⟩
 refine codeAny_call_function hr.depth (KX _ _ lk) rfl S.co S.gen rfl (PySem.W.codeRec_of KX hcd) (hb _ _ _ _ ?_);refine wpAny_newFunctionEnv_cells S.kind hkind λenv he s1 x=>?_
 subst he;refine⟨lim.keeps x.toInCall.keep,codeAny_func ?_⟩;obtain⟨t,ht,hq⟩:=hbody A outer s H vs Q E (hr.deeper _) hsp;have I:Inv (Z2 CX P w K mg base N qual scope f cdv A outer s H E) [] (start N vs) H s1:=aAe S hr.hd e0 hl r x;refine gk (ht [] s1 (start N vs) H _ I hq) (λfl s' hs=>?_) λe s' hs=>hs
 have fin:∀{σ':St}{H':Hp}{v:V}{u:aj},Inv (Z2 CX P w K mg base N qual scope f cdv A outer s H E) [] σ' H' s'->RelV v u->Q v H'->CE outer P w H s Q u s':=
  λ{σ' H' v u} J rv q=>⟨v,H',J.os,J.bare,J.base,J.hok,rv,q⟩
 cases fl with
 |ret u=>
  obtain⟨v,σ',H',J,rv,q⟩:=hs;exact fin J rv q
 |next=>
  obtain⟨σ',H',J,q⟩:=hs;exact fin (v:=V.non) J rfl q
 |brk=>
  obtain⟨_,_,_,q⟩:=hs;exact eW q
 |cont=>
  obtain⟨_,_,_,q⟩:=hs;exact eW q
section
variable {e:Expr} {t:TA} {id T:eh} {r:aa V->Hp->VK->Prop}
noncomputable def tCB(r:aa V->Hp->VK->Prop)(t:TA):TE:=λσ H Q=>t σ H λvs H1=>r vs H1 Q
theorem UT(hc:lE X (.builtin id) r)(hg:Gl X x)(hm:X.mg x=ai)(hv:dA x=ab (.builtin id))(ha:PA X (e::es) t)(hn:x ≠ "__name__":=by decide)(hdb:nDb x:=by decide)
 (he:zSE X e es:=by rfl)(hpl:zSP X pos es:=by rfl):PE X (.Call (.Name x p) (e::es) [] pos) (tCB r t):=by
 intro Ψ s σ H Q I h;refine ii (lM I hg hm hv ?_ hn hdb);exact Do (thn (ha pos Ψ s σ H _ I h) λus s1 ⟨vs,H1,I1,r1,q1⟩=>hc Ψ s1 σ H1 vs us Q I1 r1 q1) he hpl
theorem aAf(hc:lE X (.type T) r)(hg:Gl X x)(hm:X.mg x=ai)(hv:dA x=ab (.type T))(ha:PA X (e::es) t)(hn:x ≠ "__name__":=by decide)(hdb:nDb x:=by decide)
 (he:zSE X e es:=by rfl)(hpl:zSP X pos es:=by rfl):PE X (.Call (.Name x p) (e::es) [] pos) (tCB r t):=by
 intro Ψ s σ H Q I h;refine ii (lM I hg hm hv ?_ hn hdb);exact iz (thn (ha pos Ψ s σ H _ I h) λus s1 ⟨vs,H1,I1,r1,q1⟩=>hc Ψ s1 σ H1 vs us Q I1 r1 q1) he hpl
end
end L2
namespace HT
open PySem PyProof.Rows
section
variable {prog:b5} {w:br} {A:cg} {E:aj->ao->Prop} {s:ao}
theorem aIl(ht:kx s.heap t vs.toArray)(hb:kx s.heap b ws.toArray)(hv:vs≠[])
 (h1:ws=[]->Q (.ref t) s)(h2:ws≠[]->Q (.ref s.heap.objs.size) {s with heap:=s.heap.push {cls:=.type "tuple",data:=.seq (vs++ws).toArray}})
 (hsz:vs.length+ws.length<=ba):ϑ (av prog w) A (e6 .Add (.ref t) (.ref b)) Q E s:=by
 obtain⟨⟨cls,dd,data,sl⟩,ho,hc,n,hd⟩:=id ht;obtain⟨⟨cls2,dd2,data2,sl2⟩,ho2,hc2,n2,hd2⟩:=id hb;simp only at hc hd hc2 hd2;subst hc hd hc2 hd2;have e:vs.toArray++ws.toArray=(vs++ws).toArray:=by simp
 by_cases hw:ws=[]
 ·exact sB ⟨_,ho,rfl⟩ ⟨_,ho2,rfl⟩ w_ xg xh xi (xj _ _)
   (tuple_addW1 t b vs.toArray ws.toArray n n2 dd dd2 sl sl2 (by simpa using hv) (by simp[hw])) ⟨ho,ho2,h1 hw⟩
 ·refine sB ⟨_,ho,rfl⟩ ⟨_,ho2,rfl⟩ w_ xg xh xi (xj _ _)
   (tuple_addW2 t b vs.toArray ws.toArray n n2 dd dd2 sl sl2 (by simpa using hv) (by simpa using hw) (by rw[bS,bS];exact hsz)) ⟨ho,ho2,?_⟩
  rw[e];exact h2 hw
noncomputable def sIx(n d:af):ar ag->af
 |none=>d
 |some v=>if v<0 then (v+(n:ag)).toNat else min v.toNat n
theorem aNc(n d:af)(hd:d<=n)(o:ar ag):sIx n d o<=n:=by
 cases o with
 |none=>exact hd
 |some v=>
  show(if v<0 then (v+(n:ag)).toNat else min v.toNat n)<=n;by_cases hv:v<0
  ·rw[al hv];lia
  ·rw[au hv];exact Nat.min_le_right _ _
theorem aAg(v:ag)(n d:af):(if v<0 then max (v+(n:ag)) 0 else min v (n:ag))=((sIx n d (ab v):af):ag):=by
 show(if v<0 then max (v+(n:ag)) 0 else min v (n:ag))=(((if v<0 then (v+(n:ag)).toNat else min v.toNat n):af):ag);by_cases hv:v<0
 ·simp only[al hv];lia
 ·simp only[au hv];lia
theorem YC(lo hi:ar ag)(n:af):xk lo hi 1 (n:ag)=(((sIx n 0 lo:af):ag),((sIx n n hi:af):ag)):=by
 have h1:¬((1:ag)<0):=by lia
 unfold xk;simp only[h1,gu];refine xl ?_ ?_
 ·cases lo with
  |none=>rfl
  |some v=>exact aAg v n 0
 ·cases hi with
  |none=>rfl
  |some v=>exact aAg v n n
theorem YD(i j:af):sC (i:ag) (j:ag) 1=j-i:=by
 unfold sC;have h1:(1:ag) > 0:=by lia
 simp only[h1,eI,Int.ediv_one];split<;>lia
theorem DG(p:ik v o)(h:Q o s):ϑ (av prog w) A (Dp v) Q E s:=by
 cases p with
 |none=>exact AF h
 |int i t=>exact slicePart_int h
theorem nQ{lo hi:ar ag}{Q:ag×ag×af->ao->Prop}(hs:s.heap.IsSliceOf sl vl vu .none)(pl:ik vl lo)(pu:ik vu hi)
 (h:Q (((sIx n 0 lo:af):ag),1,sIx n n hi-sIx n 0 lo) s):ϑ (av prog w) A (AG (.ref sl) (pure (n:ag))) Q E s:=by
 obtain⟨os,hos,hcs,hds⟩:=id hs;unfold AG Dq;refine am (am (fj hos hds rfl (am (fj hos hds rfl (am (fj hos hds rfl (aE ?_)))))));refine am (AF ?_);show ϑ _ _ (if ((1:ag)==0)=ae then _ else _) _ _ s;rw[au 0x4];refine am (DG pl (am (DG pu (am (aE ?_)))));show ϑ _ _ (match xk lo hi 1 (n:ag) with|(lo,hi)=>pure (lo,(1:ag),sC lo hi 1)) _ _ s;rw[YC lo hi n];show ϑ _ _ (pure (((sIx n 0 lo:af):ag),(1:ag),sC ((sIx n 0 lo:af):ag) ((sIx n n hi:af):ag) 1)) _ _ s;rw[YD];exact aE h
theorem aE6(xs:ax aj)(i k:af):((bm k).filterMap λ(m:af)=>xs[((i:ag)+(m:ag)*1).toNat]?).toArray=((xs.toList.drop i).take k).toArray:=by
 have e:(λ(m:af)=>xs[((i:ag)+(m:ag)*1).toNat]?)=λm=>xs[i+m]?:=by
  funext m
  have:((i:ag)+(m:ag)*1).toNat=i+m:=by lia
  rw[this]
 rw[e];have:=pick_run xs i k;rw[AH] at this;have e2:((λx=>xs[x]?) ∘ λx=>i+x)=λm=>xs[i+m]?:=rfl
 rw[e2] at this;rw[this]
theorem vI{lo hi:ar ag}{Q:aj->ao->Prop}(ht:kx s.heap t items)(hs:s.heap.IsSliceOf sl vl vu .none)(pl:ik vl lo)(pu:ik vu hi)
 (hw:¬(sIx items.size 0 lo=0/\sIx items.size items.size hi=items.size))
 (h:Q (.ref s.heap.objs.size) {s with heap:=s.heap.push {cls:=.type "tuple",data:=.seq ((items.toList.drop (sIx items.size 0 lo)).take (sIx items.size items.size hi-sIx items.size 0 lo)).toArray}})
 (hsz:items.size<=ba):ϑ (av prog w) A (jd (.ref t) (.ref sl)) Q E s:=by
 have htake:sizeOk (.seq ((items.toList.drop (sIx items.size 0 lo)).take (sIx items.size items.size hi-sIx items.size 0 lo)).toArray):=by
  show((items.toList.drop (sIx items.size 0 lo)).take (sIx items.size items.size hi-sIx items.size 0 lo)).toArray.size<=ba;rw[bS,mf,mi,lS];lia
 have hj:sIx items.size items.size hi<=items.size:=aNc _ _ (aT _) hi;obtain⟨os,hos,hcs,hds⟩:=id hs;have hTs:s.TypeIs (.ref sl) "slice":=⟨os,hos,hcs⟩
 unfold jd
 try with_reducible refine fq ?_
 first|refine am (aE ?_)|skip
 refine am (AI ht.typeIs 0x4 ?_);refine am (kN ht.typeIs xm
  (nN xm ht.typeIs AJ ?_ (AK _ _)))
 show ϑ _ _ (AL (.ref t) >>= _) _ _ s;refine am (AM ht ?_);refine am (jy hTs ?_);rw[al 0x4];refine am (nQ hs pl pu ?_);have hno:¬((((sIx items.size 0 lo:af):ag)==0&&(1:ag)==1&&(sIx items.size items.size hi-sIx items.size 0 lo)==items.size)=ae):=by
  intro q;rw[aI,aI] at q;have q1:((sIx items.size 0 lo:af):ag)=0:=eq_of_beq q.1.1;have q2:sIx items.size items.size hi-sIx items.size 0 lo=items.size:=eq_of_beq q.2;exact hw ⟨by lia,by lia⟩
 show ϑ _ _ (if (((sIx items.size 0 lo:af):ag)==0&&(1:ag)==1&&(sIx items.size items.size hi-sIx items.size 0 lo)==items.size)=ae then _ else _) _ _ s;rw[au hno,aE6]
 first
  |exact am (jz (aE ⟨_,rfl,aE h⟩) htake)
  |exact am (jz (am (aE (aE ⟨_,rfl,aE h⟩))) htake)
  |exact am (am (jz (aE (aE ⟨_,rfl,aE h⟩)) htake))
  |exact am (am (jz (aE ⟨_,rfl,aE h⟩) htake))
end
end HT
namespace L2
open PySem PySem.Spec PyProof.Rows
abbrev TO:=St->Hp->(ar ag->Hp->Prop)->Prop
def PO(X:Cx)(e:ar Expr)(t:TO):Prop:=
 ∀(Ψ:aa (ak×bf))(s:ao)(σ:St)(H:Hp)(Q:ar ag->Hp->Prop),Inv X Ψ σ H s->t σ H Q->
  ϑ (av X.prog X.w) X.A (evalPart e X.env) (λu s'=>∃o H',Inv X Ψ σ H' s'/\ik u o/\Q o H') X.xe s
noncomputable def aIm:TO:=λ_ H Q=>Q ai H
noncomputable def aRk(t:TE):TO:=λσ H Q=>t σ H λx H1=>∃i,x=.int i/\Q (ab i) H1
section
variable {X:Cx} {te:TE} {lo hi:ar Expr} {tl th:TO}
theorem aIn:PO X ai aIm:=by
 intro Ψ s σ H Q I h;rw[xn];exact aE ⟨ai,H,I,.none,h⟩
theorem aAh(h:PE X e te):PO X (ab e) (aRk te):=by
 intro Ψ s σ H Q I hw;rw[evalPart_some];refine thn (h Ψ s σ H _ I hw) λu s1 ⟨x,H1,I1,r1,q1⟩=>?_
 obtain⟨i,rfl,q⟩:=q1;obtain⟨t,rfl⟩:=r1;exact⟨ab i,H1,I1,.int i t,q⟩
def SlR(X:Cx)(r:V->ar ag->ar ag->Hp->VK->Prop):Prop:=
 ∀(Ψ:aa (ak×bf))(s:ao)(σ:St)(H:Hp)(x:V)(v vl vu:aj)(lo hi:ar ag)(sl:ak)(Q:VK),Inv X Ψ σ H s->RelV x v->s.heap.IsSliceOf sl vl vu .none->ik vl lo->ik vu hi->r x lo hi H Q->
  ∃T id,jI (.type T) "__getitem__"=pure (ab (.builtin id))/\s.TypeIs v T/\ϑ (av X.prog X.w) X.A (jd v (.ref sl)) (EP X Ψ σ Q) X.xe s
noncomputable def tSl(r:V->ar ag->ar ag->Hp->VK->Prop)(te:TE)(tl th:TO):TE:=λσ H Q=>te σ H λx H1=>tl σ H1 λl H2=>th σ H2 λu H3=>r x l u H3 Q
theorem UV(hr:SlR X r)(he:PE X e te)(hl:PO X lo tl)(hu:PO X hi th):PE X (.Subscript e (.Slice lo hi ai p2) pos) (tSl r te tl th):=by
 intro Ψ s σ H Q I h;refine xo (thn (he Ψ s σ H _ I h) λv s1 ⟨x,H1,I1,r1,q1⟩=>?_);refine AN (thn (hl Ψ s1 σ H1 _ I1 q1) λvl s2 ⟨l,H2,I2,pl,q2⟩=>thn (hu Ψ s2 σ H2 _ I2 q2) λvu s3 ⟨u,H3,I3,pu,q3⟩=>?_);rw[xn];refine aE ?_;have I4:Inv X Ψ σ H3 {s3 with heap:=s3.heap.push {cls:=.type "slice",data:=.fields #[vl,vu,.none]}}:=I3.kept λb ob q=>bw _ q
 obtain⟨T,id,hT,ht,hg⟩:=hr Ψ {s3 with heap:=s3.heap.push {cls:=.type "slice",data:=.fields #[vl,vu,.none]}} σ H3 x v vl vu l u s3.heap.objs.size Q I4 r1 (AO ..) pl pu q3;show ϑ (av X.prog X.w) X.A (sD e (.Slice lo hi ai p2) v (.ref s3.heap.objs.size)) (EP X Ψ σ Q) X.xe {s3 with heap:=s3.heap.push {cls:=.type "slice",data:=.fields #[vl,vu,.none]}};exact xq ht hT hg 0x5
noncomputable def aE7(xs:aa V)(lo hi:ar ag):aa V:=(xs.drop (HT.sIx xs.length 0 lo)).take (HT.sIx xs.length xs.length hi-HT.sIx xs.length 0 lo)
theorem yK(xs:aa V)(lo hi:ar ag):(aE7 xs lo hi).length<=xs.length:=by
 unfold aE7;rw[mf,mi];lia
def aTs(K:bi):V->ar ag->ar ag->Hp->VK->Prop:=λx lo hi H Q=>∃a xs,x=.ref a/\SqT K H a xs/\
 ¬(HT.sIx xs.length 0 lo=0/\HT.sIx xs.length xs.length hi=xs.length)/\∀p,H p=ai->Q (.ref p) (upd H p (.tup (aE7 xs lo hi)))
theorem aNd:SlR X (aTs X.K):=by
 intro Ψ s σ H x v vl vu lo hi sl Q I rx hs pl pu h;obtain⟨a,xs,rfl,hx,hw,q⟩:=h;cases rx;obtain⟨its,r,ht,hz⟩:=I.tuple hx;have hlen:its.toArray.size=xs.length:=by rw[bS];exact r.length.symm
 refine⟨"tuple",_,xm.lookup,ht.typeIs,?_⟩;refine HT.vI ht hs pl pu (by rw[hlen];exact hw) ?_ (by rw[hlen];exact hz);rw[hlen];refine⟨.ref s.heap.objs.size,_,I.laid (λb ob q=>bw _ q) (aT _) ?_,rfl,q _ (I.hok.fresh (aT _))⟩;exact⟨c9 (yK xs lo hi) hz,_,(r.drop (HT.sIx xs.length 0 lo)).take (HT.sIx xs.length xs.length hi-HT.sIx xs.length 0 lo),j7.new _ _⟩
def aRl(K:bi):R2:=λx y H Q=>∃a b xs ys,x=.ref a/\y=.ref b/\SqT K H a xs/\SqT K H b ys/\xs≠[]/\xs.length+ys.length<=ba/\
 (ys=[]->Q (.ref a) H)/\(ys≠[]->∀p,H p=ai->Q (.ref p) (upd H p (.tup (xs++ys))))
theorem Vals.yL(r:Vals xs us):us=[]↔xs=[]:=by
 cases r with
 |nil=>simp
 |cons _ _=>simp
theorem aIo:OpR X (e6 .Add) (aRl X.K):=by
 intro Ψ s σ H x y v u Q I rx ry h;obtain⟨a,b,xs,ys,rfl,rfl,ha,hb,hx,hz,q1,q2⟩:=h;cases rx;cases ry;obtain⟨its,r1,p1,_⟩:=I.tuple ha;obtain⟨its2,r2,p2,_⟩:=I.tuple hb;refine HT.aIl p1 p2 (λz=>hx (r1.yL.mp z)) (λz=>⟨.ref a,H,I,rfl,q1 (r2.yL.mp z)⟩) (λz=>?_) (by rw[<-r1.length,<-r2.length];exact hz);refine⟨.ref s.heap.objs.size,_,I.laid (λb ob q=>bw _ q) (aT _) ?_,rfl,q2 (λw=>z (r2.yL.mpr w)) _ (I.hok.fresh (aT _))⟩;exact⟨by rw[bg];exact hz,_,r1.append r2,j7.new _ _⟩
end
noncomputable def ixN(n:af)(i:ag):ar af:=if 0<=i then (if i<n then ab i.toNat else ai) else if -(n:ag)<=i then ab (i+n).toNat else ai
def atI{α:Type}(xs:aa α)(i:ag):ar α:=(ixN xs.length i).bind λj=>xs[j]?
theorem aIp(h:ixN n i=ab j):sK i n=ab j/\j<n/\-(n:ag)<=i/\i<n:=by
 unfold ixN at h;by_cases h0:0<=i
 ·rw[al h0] at h;by_cases h1:i<n
  ·rw[al h1] at h;have e:i.toNat=j:=cS h;exact⟨by rw[AQ h0 h1,e],by lia,by lia,h1⟩
  ·rw[au h1] at h;cases h
 ·rw[au h0] at h;by_cases h1:-(n:ag)<=i
  ·rw[al h1] at h;have e:(i+n).toNat=j:=cS h;exact⟨by rw[seqIndex_neg 0x1 h1,e],by lia,h1,by lia⟩
  ·rw[au h1] at h;cases h
theorem Q4(h:atI xs i=ab v):∃j,sK i xs.length=ab j/\xs[j]?=ab v/\j<xs.length/\-(xs.length:ag)<=i/\i<xs.length:=by
 unfold atI at h;cases e:ixN xs.length i with
 |none=>rw[e] at h;cases h
 |some j=>
  rw[e] at h;obtain⟨h1,h2,h3,h4⟩:=aIp e;exact⟨j,h1,h,h2,h3,h4⟩
def Q5(b:Expr):Prop:=∀o i,sL b ah o i=xr [o,i] (jd o i)
def IxR(X:Cx)(r:R2):Prop:=
 ∀(value slice:Expr)(Ψ:aa (ak×bf))(s:ao)(σ:St)(H:Hp)(x y:V)(v u:aj)(Q:VK),Inv X Ψ σ H s->RelV x v->RelV y u->r x y H Q->
  sL slice ah v u=xr [v,u] (jd v u)->ϑ (av X.prog X.w) X.A (sD value slice v u) (EP X Ψ σ Q) X.xe s
def MtR(X:Cx)(id:eh)(r:V->aa V->Hp->VK->Prop):Prop:=
 ∀(Ψ:aa (ak×bf))(s:ao)(σ:St)(H:Hp)(x:V)(xs:aa V)(v:aj)(us:aa aj)(Q:VK),Inv X Ψ σ H s->RelV x v->Vals xs us->r x xs H Q->
  ϑ (av X.prog X.w) X.A (call (.builtin id) (v::us)) (EP X Ψ σ Q) X.xe s
section
variable {X:Cx} {a b:Expr} {ta tb:TE} {pos:cj}
theorem aRm(hr:IxR X r)(ha:PE X a ta)(hb:PE X b tb)(hs:Q5 b):PE X (.Subscript a b pos) (tOp r ta tb):=by
 intro Ψ s σ H Q I h;exact xo (aRa ha hb I h λv u s2 x y H2 I2 rx ry q=>hr a b Ψ s2 σ H2 x y v u Q I2 rx ry q (hs _ _))
def aTt(K:bi):R2:=λx y H Q=>∃p xs i v,x=.ref p/\y=.int i/\SqL K H p xs/\atI xs i=ab v/\Q v H
def aTu(K:bi):R2:=λx y H Q=>∃p xs i v,x=.ref p/\y=.int i/\SqT K H p xs/\atI xs i=ab v/\Q v H
def aTv:R2:=λx y H Q=>∃z i c,x=.str z/\y=.int i/\z.length<=ba/\atI z.cps.toList i=ab c/\Q (.str ⟨#[c]⟩) H
theorem Q6:IxR X (aTt X.K):=by
 intro value slice Ψ s σ H x y v u Q I rx ry h hs;obtain⟨p,xs,i,z,rfl,rfl,hq,he,q⟩:=h;cases rx;obtain⟨t,rfl⟩:=ry;obtain⟨its,r,pl,hz⟩:=I.list hq;obtain⟨j,h1,h2,h3,h4,h5⟩:=Q4 he;obtain⟨w,ew,rw'⟩:=r.get h2;have hl:=r.length;have hn:=CZ;have fin:EP X Ψ σ Q w s:=⟨z,H,I,rw',q⟩
 by_cases h0:0<=i
 ·have hj:i.toNat=j:=by
   rw[AQ h0 h5] at h1;exact cS h1
  exact item_listR pl.isList h0 0x1 (by rw[hj];simpa using ew) fin hs
 ·have hj:(i+(its.toArray.size:ag)).toNat=j:=by
   rw[seqIndex_neg 0x1 h4] at h1;rw[bS,<-hl];exact cS h1
  exact AR pl.isList.typeIs xu.lookup
   (wpAny_getItem_list_neg pl.isList 0x1 (by rw[bS]<;>lia) 0x1 (by rw[hj];simpa using ew) ⟨rfl,fin⟩) hs
theorem aNe:IxR X (aTu X.K):=by
 intro value slice Ψ s σ H x y v u Q I rx ry h hs;obtain⟨p,xs,i,z,rfl,rfl,hq,he,q⟩:=h;cases rx;obtain⟨t,rfl⟩:=ry;obtain⟨its,r,pl,hz⟩:=I.tuple hq;obtain⟨j,h1,h2,h3,h4,h5⟩:=Q4 he;obtain⟨w,ew,rw'⟩:=r.get h2;have hl:=r.length;have hn:=CZ;have fin:EP X Ψ σ Q w s:=⟨z,H,I,rw',q⟩
 exact AR pl.typeIs slot_tuple_getitem.lookup
  (getItem_tuple pl 0x1 0x1 (by rw[bS,<-hl];exact h1) (by simpa using ew) ⟨rfl,fin⟩) hs
theorem aNf:IxR X aTv:=by
 intro value slice Ψ s σ H x y v u Q I rx ry h hs;obtain⟨z,i,c,rfl,rfl,hz,he,q⟩:=h;obtain⟨t,rfl⟩:=rx;obtain⟨t',rfl⟩:=ry;obtain⟨j,h1,h2,h3,h4,h5⟩:=Q4 he;have hl:z.cps.toList.length=z.length:=by simp[Str.length]
 rw[hl] at h1 h4 h5;have hn:=CZ;exact xq (xw s z t) slot_str_getitem.lookup (getItem_str (by
  have e1:ϒ (i < -(2 ^ 63:ag))=ah:=cw 0x1;have e2:ϒ (i >= 2 ^ 63)=ah:=cw 0x1;rw[e1,e2,xy]) (by rw[h1];simpa using h2) ⟨.str ⟨#[c]⟩,H,I.tok _,⟨_,rfl⟩,q⟩) hs
theorem Inv.lst{Ψ:aa (ak×bf)}{σ:St}{H:Hp}{s:ao}{p:ak}{xs:aa V}(I:Inv X Ψ σ H s)(h:H p=ab (.lst xs)) :
  ∃(its:aa aj)(n:af),Vals xs its/\s.heap.get? p=ab {cls:=.type "list",data:=.seq its.toArray n}/\xs.length<=ba:=by
 obtain⟨z,its,n,r,e⟩:=I.hok p _ h;exact⟨its,n,r,e,z⟩
theorem KQ(lo hi:ar ag)(n:af):(jS lo hi ai n).1=((HT.sIx n 0 lo:af):ag)/\(jS lo hi ai n).2.1=((HT.sIx n n hi:af):ag)/\(jS lo hi ai n).2.2=1:=by
 refine⟨?_,?_,rfl⟩
 ·cases lo with
  |none=>simp[jS,HT.sIx]
  |some i=>
   simp only[jS,HT.sIx,AS,show(1:ag) > 0 by decide,eI];by_cases h:i<0
   ·simp only[h,eI]<;>lia
   ·simp only[h,gu]<;>lia
 ·cases hi with
  |none=>simp[jS,HT.sIx]
  |some i=>
   simp only[jS,HT.sIx,AS,show(1:ag) > 0 by decide,eI];by_cases h:i<0
   ·simp only[h,eI]<;>lia
   ·simp only[h,gu]<;>lia
theorem GX(its:aa aj)(lo hi:ar ag):sM its.toArray lo hi ai=((its.drop (HT.sIx its.length 0 lo)).take (HT.sIx its.length its.length hi-HT.sIx its.length 0 lo)).toArray:=by
 obtain⟨h1,h2,h3⟩:=KQ lo hi its.toArray.size;unfold sM;rw[h1,h2,h3];simp only[sliceRange_one,pick_run,bS]<;>rfl
def aTw(K:bi):V->ar ag->ar ag->Hp->VK->Prop:=λx lo hi H Q=>∃a xs,x=.ref a/\SqL K H a xs/\∀p,H p=ai->Q (.ref p) (upd H p (.lst (aE7 xs lo hi)))
theorem aAi:SlR X (aTw X.K):=by
 intro Ψ s σ H x v vl vu lo hi sl Q I rx hs pl pu h;obtain⟨a,xs,rfl,hx,q⟩:=h;cases rx;obtain⟨its,r,ht,hz⟩:=I.list hx;have hlen:=r.length;refine⟨"list",_,xu.lookup,ht.isList.typeIs,?_⟩;refine AT ht.isList hs pl pu .none 0x2 ?_ (by rw[bS]<;>lia);rw[GX,<-hlen];refine⟨.ref s.heap.objs.size,_,I.laid (λb ob q=>bw _ q) (aT _) ?_,rfl,q _ (I.hok.fresh (aT _))⟩;exact⟨c9 (yK xs lo hi) hz,_,0,(r.drop (HT.sIx xs.length 0 lo)).take (HT.sIx xs.length xs.length hi-HT.sIx xs.length 0 lo),cx _ rfl⟩
theorem j9:lE X (.builtin "len") (λxs H Q=>∃p ys,xs=[.ref p]/\(SqL X.K H p ys\/SqT X.K H p ys)/\Q (.int ys.length) H):=by
 intro Ψ s σ H xs us Q I r h;obtain⟨p,ys,rfl,hq,q⟩:=h;obtain⟨u,rfl,rx⟩:=vals1 r;cases rx;have hn:=CZ;rcases hq with hq|hq
 ·obtain⟨its,r',pl,hz⟩:=I.list hq;have hlen:=r'.length;exact Calls.call_len_list pl.isList (by simp only[bS]<;>lia) ⟨.int ys.length,H,I.tok _,⟨s.toks+1,by rw[bS,hlen]⟩,q⟩
 ·obtain⟨its,r',pl,hz⟩:=I.tuple hq;have hlen:=r'.length;exact len_tuple pl (by simp only[bS]<;>lia) ⟨.int ys.length,H,I.tok _,⟨s.toks+1,by rw[bS,hlen]⟩,q⟩
theorem KR:lE X (.builtin "len") (λxs H Q=>∃z,xs=[.str z]/\z.length<=ba/\Q (.int z.length) H):=by
 intro Ψ s σ H xs us Q I r h;obtain⟨z,rfl,hz,q⟩:=h;obtain⟨u,rfl,t,rfl⟩:=vals1 r;have hn:=CZ;exact len_str 0x1 ⟨.int z.length,H,I.tok _,⟨_,rfl⟩,q⟩
theorem wH:lE X (.type "list") (λxs H Q=>∃p ys,xs=[.ref p]/\(SqL X.K H p ys\/SqT X.K H p ys)/\∀l,H l=ai->Q (.ref l) (upd H l (.lst ys))):=by
 intro Ψ s σ H xs us Q I r h;obtain⟨p,ys,rfl,hq,q⟩:=h;obtain⟨u,rfl,rx⟩:=vals1 r;cases rx;have fin:∀(its:aa aj),Vals ys its->ys.length<=ba->∀(h':az)(c':af),(∀b o',s.heap.get? b=ab o'->h'.get? b=ab o')->
   h'.get? s.heap.objs.size=ab {cls:=.type "list",dict:=ai,data:=.seq its.toArray c',slots:=#[]}->EP X Ψ σ Q (.ref s.heap.objs.size) {s with heap:=h'}:=λits r' hz h' c' kp e=>
  ⟨.ref s.heap.objs.size,_,I.laid kp (aT _) (show jD X.prog X.w _ h' _ (.lst ys) from ⟨hz,its,c',r',e⟩),rfl,q _ (I.hok.fresh (aT _))⟩
 rcases hq with hq|hq
 ·obtain⟨its,r',pl,hz⟩:=I.list hq;have hlen:=r'.length;obtain⟨o,ho,hc,n,hd⟩:=pl.isList;exact AU p (.inl rfl) ho hc hd (λh' c' kp e=>fin its r' hz h' c' kp e) (by simp only[bS]<;>lia)
 ·obtain⟨its,r',pl,hz⟩:=I.tuple hq;have hlen:=r'.length;obtain⟨o,ho,hc,n,hd⟩:=pl;exact AU p (.inr rfl) ho hc hd (λh' c' kp e=>fin its r' hz h' c' kp e) (by simp only[bS]<;>lia)
theorem uI:lE X (.type "tuple") (λxs H Q=>∃p ys,xs=[.ref p]/\((SqL X.K H p ys/\∀l,H l=ai->Q (.ref l) (upd H l (.tup ys)))\/(SqT X.K H p ys/\Q (.ref p) H))):=by
 intro Ψ s σ H xs us Q I r h;obtain⟨p,ys,rfl,h⟩:=h;obtain⟨u,rfl,rx⟩:=vals1 r;cases rx;rcases h with ⟨hq,q⟩|⟨hq,q⟩
 ·obtain⟨its,r',pl,hz⟩:=I.list hq;have hlen:=r'.length;refine call_tuple_list pl.isList (λh' kp=>?_) (by simp only[bS]<;>lia);have I1:Inv X Ψ σ H {s with heap:=h'}:=I.kept kp;have I2:Inv X Ψ σ (upd H h'.objs.size (.tup ys)) {s with heap:=h'.push {cls:=.type "tuple",data:=.seq its.toArray}}:=
   I1.laid (λb o e=>bw _ e) (aT _) (show jD X.prog X.w _ _ _ (.tup ys) from ⟨hz,its,r',j7.new _ _⟩)
  exact⟨.ref h'.objs.size,_,I2,rfl,q _ (I1.hok.fresh (aT _))⟩
 ·obtain⟨its,r',pl,hz⟩:=I.tuple hq;exact call_tuple_same pl ⟨.ref p,H,I,rfl,q⟩
def tyV(K:bi)(T:eh)(x:V)(H:Hp):Prop:=match x with
 |.str _=>T="str"
 |.int _=>T="int"
 |.ref p=>(T="list"/\∃xs,SqL K H p xs)\/(T="tuple"/\((∃o,K.lookup p=ab o/\o.cls=.type "tuple"/\o.dict=ai)\/∃xs,H p=ab (.tup xs)))\/
   (T="dict"/\((∃kvs,H p=ab (.dK kvs))\/∃kvs,H p=ab (.dT kvs)))\/(T="set"/\∃S n,H p=ab (.set S n))
 |_=>ck
theorem aGo(I:Inv X Ψ σ H s)(r:RelV x v)(ty:tyV X.K T x H) :
  s.TypeIs v T/\∀a,v=.ref a->∃ob,s.heap.get? a=ab ob/\ob.dict=ai:=by
 cases x with
 |str z=>
  obtain⟨t,rfl⟩:=r;cases (show T="str" from ty);exact⟨xw s z t,λ_ e=>nomatch e⟩
 |int i=>
  obtain⟨t,rfl⟩:=r;cases (show T="int" from ty);exact⟨typeIs_int s i t,λ_ e=>nomatch e⟩
 |ref p=>
  cases r;rcases ty with ⟨rfl,xs,hq⟩|⟨rfl,⟨o,hk,hc,hd⟩|⟨xs,hk⟩⟩|⟨rfl,hk⟩|⟨rfl,S,n,hk⟩
  ·obtain⟨its,_,pl,_⟩:=I.list hq;refine⟨pl.isList.typeIs,λa e=>?_⟩;cases e;obtain⟨o,n,e,c,hd,_⟩:=pl;exact⟨o,e,hd⟩
  ·refine⟨⟨o,I.kIn p o hk,hc⟩,λa e=>?_⟩;cases e;exact⟨o,I.kIn _ o hk,hd⟩
  ·obtain⟨_,its,_,pl⟩:=I.hok p _ hk;refine⟨(j7.tup pl).typeIs,λa e=>?_⟩;cases e;exact j7.bare pl
  ·have z:∃o,s.heap.get? p=ab o/\o.ExactDict:=by
    rcases hk with ⟨kvs,hk⟩|⟨kvs,hk⟩
    ·obtain⟨_,_,_,_,o,_,_,e,ex,_⟩:=I.hok p _ hk;exact⟨o,e,ex⟩
    ·obtain⟨_,_,_,_,o,_,_,e,ex,_⟩:=I.hok p _ hk;exact⟨o,e,ex⟩
   obtain⟨o,e,ex⟩:=z;refine⟨⟨o,e,ex.1⟩,λa e2=>?_⟩;cases e2;exact⟨o,e,ex.2.1⟩
  ·obtain⟨o,_,_,_,e,ex,_⟩:=I.hok p _ hk;refine⟨⟨o,e,ex.1⟩,λa e2=>?_⟩;cases e2;exact⟨o,e,ex.2.1⟩
 |_=>exact eW ty
noncomputable def aTx(K:bi)(T:eh)(r:V->aa V->Hp->VK->Prop)(to:TE):TE:=λσ H Q=>to σ H λx H1=>tyV K T x H1/\r x [] H1 Q
noncomputable def tBM(K:bi)(T:eh)(r:V->aa V->Hp->VK->Prop)(to:TE)(t:TA):TE:=λσ H Q=>to σ H λx H1=>tyV K T x H1/\t σ H1 λxs H2=>r x xs H2 Q
variable {o e:Expr} {es:aa Expr} {to:TE} {t:TA} {name:Str} {apos cpos:cj} {T id:eh} {r:V->aa V->Hp->VK->Prop}
theorem aNg(pa:PlainAttrs T)(slot:Slot T name id)(hty:mj (.builtin id)=pure (.type "method_descriptor"))(hm:MtR X id r)(ho:PE X o to)
 (hbase:gn o name X.env (bc o X.env)=bc o X.env:=by rfl)(hline:(apos.endLine==cpos.line)=ae:=by rfl):PE X (.Call (.Attribute o name apos) [] [] cpos) (aTx X.K T r to):=by
 intro Ψ s σ H Q I h;refine wpAny_Call_method0_late hbase hline (thn (ho Ψ s σ H _ I h) λv s1 ⟨x,H1,I1,r1,ty,q1⟩=>?_);obtain⟨h1,h2⟩:=aGo I1 r1 ty;exact⟨T,id,pa,slot,hty,h1,h2,AV rfl (PySem.evalArgs_none (hm Ψ s1 σ H1 x [] v [] Q I1 r1 .nil q1))⟩
theorem YF(pa:PlainAttrs T)(slot:Slot T name id)(hty:mj (.builtin id)=pure (.type "method_descriptor"))(hm:MtR X id r)(ho:PE X o to)(ha:PA X (e::es) t)
 (hbase:gn o name X.env (bc o X.env)=bc o X.env:=by rfl)
 (hfew:zFw X cpos (e::es):=by rfl)
 (hline:(apos.endLine==cpos.line)=ae:=by rfl)(hs:zSE X e es:=by rfl)(hplain:zSP X cpos es:=by rfl) :
  PE X (.Call (.Attribute o name apos) (e::es) [] cpos) (tBM X.K T r to t):=by
 intro Ψ s σ H Q I h;refine wpAny_Call_method_late hbase hfew hline rfl (thn (ho Ψ s σ H _ I h) λv s1 ⟨x,H1,I1,r1,ty,q1⟩=>?_);obtain⟨h1,h2⟩:=aGo I1 r1 ty;refine⟨T,id,pa,slot,hty,h1,h2,?_⟩;have hA:=ha cpos Ψ s1 σ H1 _ I1 q1;rw[hs] at hA ⊢;refine AV (by show(ah||(iw cpos (bP es X.env)).any (·.1))=ah;rw[hplain]<;>rfl) (Calls.evalArgs_plain ?_);exact thn hA λus s2 ⟨vs,H2,I2,r2,q2⟩=>hm Ψ s2 σ H2 x vs v us Q I2 r1 r2 q2
end
def MtM(X:Cx)(id:eh)(r:V->aa V->Hp->VK->Prop):Prop:=
 ∀(Ψ:aa (ak×bf))(s:ao)(σ:St)(H:Hp)(x:V)(xs:aa V)(v:aj)(us:aa aj)(Q:VK),Inv X Ψ σ H s->RelV x v->Vals xs us->r x xs H Q->
  ϑ (av X.prog X.w) X.A (call (.builtin id) (v::us)) (EP X Ψ σ Q) X.xe s
theorem Vals.one:∀{x:V}{us:aa aj},Vals [x] us->∃u,us=[u]/\RelV x u
 |_,_,.cons r .nil=>⟨_,rfl,r⟩
theorem Vals.zero:∀{us:aa aj},Vals [] us->us=[]
 |_,.nil=>rfl
theorem Vals.dropLast(h:Vals xs us):Vals xs.dropLast us.dropLast:=by
 induction h with
 |nil=>exact .nil
 |cons r t ih=>
  cases t with
  |nil=>exact .nil
  |cons q t'=>exact .cons r ih
theorem Vals.eraseIdx:∀{xs:aa V}{us:aa aj}(i:af),Vals xs us->Vals (xs.eraseIdx i) (us.eraseIdx i)
 |_,_,_,.nil=>.nil
 |_,_,0,.cons _ t=>t
 |_,_,i+1,.cons r t=>.cons r (Vals.eraseIdx i t)
theorem Vals.reverse(h:Vals xs us):Vals xs.reverse us.reverse:=by
 induction h with
 |nil=>exact .nil
 |cons r t ih=>rw[iL,iL];exact Vals.append ih (.cons r .nil)
theorem YG(l:aa α):l.eraseIdx (l.length-1)=l.dropLast:=by
 induction l with
 |nil=>rfl
 |cons a r ih=>
  cases r with
  |nil=>rfl
  |cons b r=>
   have e:(a::b::r).length-1=((b::r).length-1)+1:=by
    have h1:(a::b::r).length=r.length+2:=rfl;have h2:(b::r).length=r.length+1:=rfl;lia
   rw[e,List.eraseIdx_cons_succ,ih]
   all_goals rfl
theorem KY:∀(l:aa α)(i:af),(l.eraseIdx i).length<=l.length
 |[],_=>aT _
 |_::_,0=>gp _
 |_::r,i+1=>Nat.succ_le_succ (KY r i)
section
theorem Inv.aQl{its its':aa aj}(I:Inv X Ψ σ H s)(hH:H l=ab (.lst xs))
 (e:s.heap.get? l=ab {cls:=.type "list",data:=.seq its.toArray n})(hf:f its.toArray=its'.toArray)(hv:Vals ys its')(hz:ys.length<=ba) :
  Inv X Ψ σ (upd H l (.lst ys)) {s with heap:=s.heap.update l (ef f),toks:=t'}:=by
 have q:=Dr e f;rw[hf] at q;refine I.write (by rw[hH];exact trivial) (.inl rfl) (λb' u hb hu=>(kP s.heap (ef f) (cq hb)).trans hu) ⟨_,q⟩ ?_;exact⟨hz,its',_,hv,q⟩
theorem Inv.aT3(I:Inv X Ψ σ H s)(hv:Vals ys its)(hz:ys.length<=ba) :
  Inv X Ψ σ (upd H s.heap.objs.size (.lst ys)) {s with heap:=s.heap.push {cls:=.type "list",data:=.seq its.toArray},toks:=t'}:=
 I.laid (λ_ _ q=>bw _ q) (aT _) ⟨hz,its,0,hv,cx _ rfl⟩
theorem Inv.fresh(I:Inv X Ψ σ H s):H s.heap.objs.size=ai:=I.hok.fresh (aT _)
theorem Inv.aNh(I:Inv X Ψ σ H s)(hH:H l=ab (.lst xs)):xs.length<=ba/\∃(its:aa aj)(n:af),Vals xs its/\xs.length=its.length/\s.heap.get? l=ab {cls:=.type "list",data:=.seq its.toArray n}:=by
 obtain⟨z,its,n,r,e⟩:=I.hok l _ hH;exact⟨z,its,n,r,r.length,e⟩
theorem aE8(h:n<=ba):xA n=ah:=by
 unfold xA;exact cw 0x1
end
section
variable {X:Cx}
def aIq:V->aa V->Hp->VK->Prop:=λx vs H Q=>∃l xs y,x=.ref l/\vs=[y]/\H l=ab (.lst xs)/\xs.length<ba/\Q .non (upd H l (.lst (xs++[y])))
theorem uJ:MtM X "list.append" aIq:=by
 intro Ψ s σ H x vs v us Q I rx rv h;obtain⟨l,xs,y,rfl,rfl,hH,hz,q⟩:=h;cases rx;obtain⟨u,rfl,ru⟩:=rv.one;obtain⟨z,its,n,r,hl,e⟩:=I.aNh hH;refine je sN ⟨_,e,rfl⟩ F.entry_list_append (F.args_list_append_2 _ _) (PySem.list_append l its.toArray n u (by rw[bS];lia)) ⟨e,?_⟩;refine⟨.non,_,I.aQl hH e 0x2 (r.append (.cons ru .nil)) ?_,rfl,q⟩;rw[bg,xB];lia
def aIr:V->aa V->Hp->VK->Prop:=λx vs H Q=>∃l b xs zs,x=.ref l/\vs=[.ref b]/\H l=ab (.lst xs)/\H b=ab (.lst zs)/\xs.length+zs.length<=ba/\Q .non (upd H l (.lst (xs++zs)))
theorem KZ:MtM X "list.extend" aIr:=by
 intro Ψ s σ H x vs v us Q I rx rv h;obtain⟨l,b,xs,zs,rfl,rfl,hH,hB,hz,q⟩:=h;cases rx;obtain⟨u,rfl,ru⟩:=rv.one;cases ru;obtain⟨z,its,n,r,hl,e⟩:=I.aNh hH;obtain⟨z2,its2,n2,r2,hl2,e2⟩:=I.aNh hB;have hsz:its.toArray.size+its2.toArray.size<=ba:=by rw[bS,bS];lia
 have hlong:¬(!its.toArray.isEmpty&&xA (its.toArray.size+its2.toArray.size))=ae:=by
  rw[aE8 hsz,AW];exact nB
 refine je xC ⟨_,e,rfl⟩ F.entry_list_extend (F.args_list_extend_2 _ _)
  (Dt l its.toArray n b its2.toArray n2 hlong (by rw[bS];lia) 0x1) ⟨e,e2,?_⟩
 refine⟨.non,_,I.aQl hH e 0x2 (r.append r2) ?_,rfl,q⟩;rw[bg];lia
def aTy:V->aa V->Hp->VK->Prop:=λx vs H Q=>∃l xs y,x=.ref l/\vs=[]/\H l=ab (.lst xs)/\xs[xs.length-1]?=ab y/\Q y (upd H l (.lst xs.dropLast))
theorem aNi:MtM X "list.pop" aTy:=by
 intro Ψ s σ H x vs v us Q I rx rv h;obtain⟨l,xs,y,rfl,rfl,hH,hy,q⟩:=h;cases rx;have hus:=rv.zero;subst hus;obtain⟨z,its,n,r,hl,e⟩:=I.aNh hH;obtain⟨u,hu,ru⟩:=r.get hy;have hy':its.toArray[its.toArray.size-1]?=ab u:=by
  show its.toArray[its.length-1]?=ab u;rw[<-sP,<-hl];exact hu
 refine je sQ ⟨_,e,rfl⟩ AX (F.args_list_pop_1 _) (Du l its.toArray n u hy' (by rw[bS];lia)) ⟨e,?_⟩;refine⟨y,_,I.aQl hH e ?_ r.dropLast ?_,ru,q⟩
 ·show its.toArray.eraseIdxIfInBounds (its.toArray.size-1)=its.dropLast.toArray;rw[bS,AY,YG]
 ·rw[AZ];lia
def aNj:V->aa V->Hp->VK->Prop:=λx vs H Q=>∃l xs i k y,x=.ref l/\vs=[.int i]/\H l=ab (.lst xs)/\-(2 ^ 63)<=i/\i<2 ^ 63/\sK i xs.length=ab k/\xs[k]?=ab y/\Q y (upd H l (.lst (xs.eraseIdx k)))
theorem aE9:MtM X "list.pop" aNj:=by
 intro Ψ s σ H x vs v us Q I rx rv h;obtain⟨l,xs,i,k,y,rfl,rfl,hH,h1,h2,hk,hy,q⟩:=h;cases rx;obtain⟨u,rfl,ru⟩:=rv.one;obtain⟨t,rfl⟩:=ru;obtain⟨z,its,n,r,hl,e⟩:=I.aNh hH;obtain⟨w,hw,rw'⟩:=r.get hy;refine je sQ ⟨_,e,rfl⟩ AX (F.args_list_pop_2 _ _)
  (Dv l its.toArray n i t k w (fitsIndex_both h1 h2) (by rw[bS,<-hl];exact hk) (by rw[<-sP];exact hw) (by rw[bS];lia)) ⟨e,?_⟩
 refine⟨y,_,I.aQl hH e ?_ (r.eraseIdx k) ?_,rw',q⟩
 ·show its.toArray.eraseIdxIfInBounds k=(its.eraseIdx k).toArray;rw[AY]
 ·have:=KY xs k;lia
end
section
variable {κ:Type} [cr κ]
noncomputable def DK(kvs:aa (κ×V))(k:κ):ar V:=(kvs.find? λkv=>ϒ (kv.1=k)).map (·.2)
noncomputable def putK(kvs:aa (κ×V))(k:κ)(v:V):aa (κ×V):=
 if (kvs.any λkv=>ϒ (kv.1=k))=ae then kvs.map (λkv=>if kv.1=k then (kv.1,v) else kv) else kvs++[(k,v)]
theorem uK{k:κ}(e:p.1=k):DK (p::r) k=ab p.2:=by simp[DK,mq,e]
theorem uL{k:κ}(e:¬p.1=k):DK (p::r) k=DK r k:=by simp[DK,mq,e]
theorem uM(k:κ):∀kvs:aa (κ×V),(kvs.any λkv=>ϒ (kv.1=k))=(DK kvs k).isSome
 |[]=>rfl
 |p::r=>by
  rw[mr];by_cases e:p.1=k
  ·simp only[uK e,bh e,A0,Option.isSome_some]
  ·rw[uL e,cw e,xD];exact uM k r
theorem tV(kvs:aa (κ×V))(k:κ)(v:V):(putK kvs k v).length<=kvs.length+1:=by
 unfold putK;split
 ·rw[aw];lia
 ·rw[bg,aS,fw];lia
theorem aEa{k:κ}(v:V)(h:DK kvs k=ai):putK kvs k v=kvs++[(k,v)]:=by
 unfold putK;rw[uM,h];exact au 0x4
theorem QK.oA(r:QK o u):o.isSome=u.isSome:=by
 cases o with
 |none=>cases u with
  |none=>rfl
  |some _=>exact(show ck from r).elim
 |some _=>cases u with
  |none=>exact(show ck from r).elim
  |some _=>rfl
theorem KV.val(r:KV kvs vs)(k:κ):QK (DK kvs k) (ms vs k):=by
 unfold KV at r;induction r with
 |nil=>exact jv
 |@cons p q ps qs h t ih=>
  obtain⟨h1,h2⟩:=h;by_cases e:p.1=k
  ·have e':q.1=k:=h1.symm.trans e;have b:ms (q::qs) k=ab q.2:=by simp[ms,mq,e']
   rw[uK e,b];exact h2
  ·have e':¬q.1=k:=λz=>e (h1.trans z)
   have b:ms (q::qs) k=ms qs k:=by simp[ms,mq,e']
   rw[uL e,b];exact ih
theorem KV.any(r:KV kvs vs)(k:κ):(kvs.any λkv=>ϒ (kv.1=k))=vs.any λkv=>ϒ (kv.1=k):=by
 unfold KV at r;induction r with
 |nil=>rfl
 |cons h t ih=>rw[mr,mr,ih,h.1]
theorem KV.repl(r:KV kvs vs)(k:κ)(ry:RelV y u) :
  KV (kvs.map λkv=>if kv.1=k then (kv.1,y) else kv) (vs.map λkv=>if kv.1=k then (kv.1,u) else kv):=by
 unfold KV at r ⊢;induction r with
 |nil=>exact .nil
 |@cons p q ps qs h t ih=>
  rw[bd,bd];refine .cons ?_ ih;obtain⟨h1,h2⟩:=h;by_cases e:p.1=k
  ·rw[al e,al (h1.symm.trans e)];exact⟨h1,ry⟩
  ·rw[au e,au (λz=>e (h1.trans z))];exact⟨h1,h2⟩
theorem KV.put(r:KV kvs vs)(k:κ)(ry:RelV y u):KV (putK kvs k y) (jg vs k u):=by
 unfold putK jg;rw[r.any k];by_cases e:(vs.any λkv=>ϒ (kv.1=k))=ae
 ·rw[al e,al e];exact r.repl k ry
 ·rw[au e,au e];exact A1 r ⟨rfl,ry⟩
theorem KV.length(r:KV kvs vs):kvs.length=vs.length:=jr r
end
theorem yM(r:RelV (kV k) u):(cL P w).is k u=ae:=by
 cases k with
 |inl i=>obtain⟨t,e⟩:=(show ∃t,u=rc i t from r);subst e;exact QT P w i t
 |inr x=>obtain⟨t,e⟩:=(show ∃t,u=nq x t from r);subst e;exact QV P w x t
theorem K3:∀{ks:aa Key}{us:aa aj},Vals (ks.map kV) us->ItemsAre (cL P w) ks us
 |[],_,r=>by rw[io] at r;cases r;exact .nil
 |k::ks,_,r=>by
  rw[bd] at r;cases r with
  |cons h t=>exact .cons (yM h) (K3 t)
abbrev KT(H:Hp):aa (aa Key×V)->aa (aa Key×ak×aj)->Prop:=kt λp q=>p.1=q.1/\H q.2.1=ab (.tup (p.1.map kV))/\RelV p.2 q.2.2
theorem KT.val(r:KT H kvs xs)(k:aa Key):QK (DK kvs k) ((j3 xs k).map (·.2)):=by
 induction r with
 |nil=>exact jv
 |@cons p q ps qs h t ih=>
  obtain⟨h1,_,h2⟩:=h;by_cases e:p.1=k
  ·have e':q.1=k:=h1.symm.trans e;have b:j3 (q::qs) k=ab q.2:=by simp[j3,mq,e']
   rw[uK e,b];exact h2
  ·have e':¬q.1=k:=λz=>e (h1.trans z)
   have b:j3 (q::qs) k=j3 qs k:=by simp[j3,mq,e']
   rw[uL e,b];exact ih
theorem KT.repl(r:KT H kvs xs)(k:aa Key)(ry:RelV y u) :
  KT H (kvs.map λkv=>if kv.1=k then (kv.1,y) else kv) (xs.map (putAt k u)):=by
 induction r with
 |nil=>exact .nil
 |@cons p q ps qs h t ih=>
  rw[bd,bd];refine .cons ?_ ih;obtain⟨h1,h2,h3⟩:=h;unfold putAt;by_cases e:p.1=k
  ·rw[al e,al (h1.symm.trans e)];exact⟨h1,h2,ry⟩
  ·rw[au e,au (λz=>e (h1.trans z))];exact⟨h1,h2,h3⟩
theorem KT.put(r:KT H kvs xs)(k:aa Key)(hb:H b=ab (.tup (k.map kV)))(ry:RelV y u) :
  KT H (putK kvs k y) (storedH xs k b u):=by
 have e:(kvs.any λkv=>ϒ (kv.1=k))=(j3 xs k).isSome:=by
  rw[uM,(r.val k).oA,xE]
 unfold putK storedH;rw[e];by_cases q:(j3 xs k).isSome=ae
 ·rw[al q,al q];exact r.repl k ry
 ·rw[au q,au q];exact A1 r ⟨rfl,hb,ry⟩
theorem KT.keeps(r:KT H kvs xs)(ht:∀b ys,H b=ab (.tup ys)->H' b=ab (.tup ys)):KT H' kvs xs:=
 Paired.aQy r λ_ _ z=>⟨z.1,ht _ _ z.2.1,z.2.2⟩
section
variable {a:ak}
theorem aNk(ok:HOk P w H h)(e:Rd H a u):jD P w H h a u:=e.ok ok
theorem aAj(ok:HOk P w H h)(e:Rd H a (.dK kvs)):kvs.length<=ba/\(a==gf)=ah/\∃vs,KV kvs vs/\h.DictOf (cL P w) a vs:=
 show jD P w H h a (.dK kvs) from aNk ok e
theorem K4(ok:HOk P w H h)(e:H a=ab (.dK kvs)):kvs.length<=ba/\(a==gf)=ah/\∃vs,KV kvs vs/\h.DictOf (cL P w) a vs:=aAj ok (.inl e)
theorem K5(ok:HOk P w H h)(e:H a=ab (.tup (ks.map kV))):(lr (cL P w)).is h ks a:=by
 obtain⟨_,its,r,o,h1,h2,n,h3⟩:=(show jD P w H h a (.tup (ks.map kV)) from ok a _ e)
 exact⟨o,its.toArray,n,h1,h2,cy (·.1) h3,by simpa using K3 r⟩
theorem aAk(ok:HOk P w H h)(e:Rd H a (.dT kvs)):kvs.length<=ba/\(a==gf)=ah/\
  ∃xs,KT H kvs xs/\h.DictOfH (lr (cL P w)) a xs:=by
 obtain⟨z,y,xs,r,o,es,ep,h1,h2,h3,h4,h5⟩:=(show jD P w H h a (.dT kvs) from aNk ok e)
 refine⟨z,y,xs,r,o,es,ep,h1,h2,h3,h4,λx hx=>?_,h5⟩;have all:∀{l:aa (aa Key×V)}{m:aa (aa Key×ak×aj)},KT H l m->∀x∈m,(lr (cL P w)).is h x.1 x.2.1:=by
  intro l m q;induction q with
  |nil=>intro x hx;exact nomatch hx
  |@cons p q ps qs hq t ih=>
   intro x hx;rcases bu.mp hx with e|hx
   ·subst e;exact K5 ok (by rw[<-hq.1];exact hq.2.1)
   ·exact ih x hx
 exact all r x hx
theorem aEb(ok:HOk P w H h)(e:H a=ab (.dT kvs)):kvs.length<=ba/\(a==gf)=ah/\
  ∃xs,KT H kvs xs/\h.DictOfH (lr (cL P w)) a xs:=aAk ok (.inl e)
end
def aAl(H:Hp)(a:ak)(y:V)(r:ar V):Prop:=
 (∃kvs k,Rd H a (.dK kvs)/\y=kV k/\r=DK kvs k)\/∃kvs k b,Rd H a (.dT kvs)/\y=.ref b/\H b=ab (.tup (k.map kV))/\r=DK kvs k
def aGp(H:Hp)(a:ak)(y v:V)(H':Hp):Prop:=
 (∃kvs k,H a=ab (.dK kvs)/\y=kV k/\kvs.length<ba/\H'=upd H a (.dK (putK kvs k v)))\/
 ∃kvs k b,H a=ab (.dT kvs)/\y=.ref b/\H b=ab (.tup (k.map kV))/\kvs.length<ba/\H'=upd H a (.dT (putK kvs k v))
theorem aAl.k{k:Key}(e:H a=ab (.dK kvs)):aAl H a (kV k) (DK kvs k):=.inl ⟨kvs,k,.inl e,rfl,rfl⟩
theorem aAl.t{k:aa Key}(e:H a=ab (.dT kvs))(eb:H b=ab (.tup (k.map kV))):aAl H a (.ref b) (DK kvs k):=.inr ⟨kvs,k,b,.inl e,rfl,eb,rfl⟩
theorem aGp.k{k:Key}{v:V}(e:H a=ab (.dK kvs))(hl:kvs.length<ba):aGp H a (kV k) v (upd H a (.dK (putK kvs k v))):=.inl ⟨kvs,k,e,rfl,hl,rfl⟩
theorem aGp.t{H:Hp}{a b:ak}{kvs:aa (aa Key×V)}{k:aa Key}{v:V}(e:H a=ab (.dT kvs))(eb:H b=ab (.tup (k.map kV)))(hl:kvs.length<ba) :
  aGp H a (.ref b) v (upd H a (.dT (putK kvs k v))):=.inr ⟨kvs,k,b,e,rfl,eb,hl,rfl⟩
section
variable {a:ak} {y v:V}
theorem Inv.big(I:Inv X Ψ σ H s):gf<s.heap.objs.size:=by
 have h:cb<s.heap.objs.size:=(I.mod.glob.keeps I.bk).lt;exact Nat.lt_trans 0x4 h
theorem aAm(hu:A.units+1<bX)(I:Inv X Ψ σ H s)(g:aAl H a y (ab v))(ry:RelV y u)(h:∀w' s',Inv X Ψ σ H s'->RelV v w'->Q w' s') :
  ϑ (av X.prog X.w) A (jd (.ref a) u) Q E s:=by
 rcases g with ⟨kvs,k,e,ey,l⟩|⟨kvs,k,b,e,ey,eb,l⟩
 ·subst ey;obtain⟨z,hd,vs,rel,dd⟩:=aAj I.hok e;obtain⟨w',hw,rw'⟩:=QK.some_of (by rw[l];exact rel.val k);exact wpAny_getItem_of (yM ry) dd.mapOf hw (h w' _ (I.tok _) rw')
 ·subst ey;cases (show u=eo b from ry);obtain⟨z,hd,xs,rel,dd⟩:=aAk I.hok e;obtain⟨w',hw,rw'⟩:=QK.some_of (by rw[l];exact rel.val k);obtain⟨p,hp,hp2⟩:=ka.mp hw;refine wpAny_getItem_heap (sR hu) (K5 I.hok eb) dd hp ?_;rw[hp2];exact h w' _ (I.tok _) rw'
theorem aTz(hu:A.units+1<bX)(I:Inv X Ψ σ H s)(g:aAl H a y o)(ry:RelV y u)(h:∀s',Inv X Ψ σ H s'->Q (.bool o.isSome) s') :
  ϑ (av X.prog X.w) A (dh .In u (.ref a)) Q E s:=by
 rcases g with ⟨kvs,k,e,ey,l⟩|⟨kvs,k,b,e,ey,eb,l⟩
 ·subst ey;obtain⟨z,hd,vs,rel,dd⟩:=aAj I.hok e;refine wpAny_in_of (yM ry) hd dd.mapOf ?_;rw[<-(rel.val k).oA,<-l];exact h _ (I.tok _)
 ·subst ey;cases (show u=eo b from ry);obtain⟨z,hd,xs,rel,dd⟩:=aAk I.hok e;refine wpAny_in_heap (sR hu) (K5 I.hok eb) hd dd ?_;have q:=(rel.val k).oA;rw[xE] at q;rw[<-q,<-l];exact h _ (I.tok _)
theorem aIs(hu:A.units+1<bX)(I:Inv X Ψ σ H s)(g:aAl H a y o)(ry:RelV y u)(h:∀s',Inv X Ψ σ H s'->Q (.bool (!o.isSome)) s') :
  ϑ (av X.prog X.w) A (dh .NotIn u (.ref a)) Q E s:=by
 rcases g with ⟨kvs,k,e,ey,l⟩|⟨kvs,k,b,e,ey,eb,l⟩
 ·subst ey;obtain⟨z,hd,vs,rel,dd⟩:=aAj I.hok e;refine wpAny_notIn_of (yM ry) hd dd.mapOf ?_;rw[<-(rel.val k).oA,<-l];exact h _ (I.tok _)
 ·subst ey;cases (show u=eo b from ry);obtain⟨z,hd,xs,rel,dd⟩:=aAk I.hok e;refine wpAny_notIn_heap (sR hu) (K5 I.hok eb) hd dd ?_;have q:=(rel.val k).oA;rw[xE] at q;rw[<-q,<-l];exact h _ (I.tok _)
theorem Q7(I:Inv X Ψ σ H s)(mu:Mut (H a))(hs:gj a s.heap h')(he:∃q,h'.get? a=ab q)(new:jD X.prog X.w (upd H a ob) h' a ob) :
  Inv X Ψ σ (upd H a ob) {s with heap:=h',toks:=t'}:=
 I.write mu (.inl rfl) (λb q hb z=>(hs.2 b hb).trans z) he new
theorem K6(z:kvs.length<=ba)(hd:(a==gf)=ah)(rel:KV kvs vs)(dd:h'.DictOf (cL P w) a vs) :
  jD P w H' h' a (.dK kvs):=⟨z,hd,vs,rel,dd⟩
theorem K7(hu:A.units+1<bX)(I:Inv X Ψ σ H s)(g:aGp H a y v H')(ry:RelV y u)(rv:RelV v r)(h:∀s',Inv X Ψ σ H' s'->Q () s') :
  ϑ (av X.prog X.w) A (setItem (.ref a) u r) Q E s:=by
 rcases g with ⟨kvs,k,e,ey,l,eH⟩|⟨kvs,k,b,e,ey,eb,l,eH⟩
 ·subst ey eH;obtain⟨z,hd,vs,rel,dd⟩:=K4 I.hok e;have hz:vs.length<=ba:=by rw[<-rel.length];exact z
  have hl:(putK kvs k v).length<=ba:=by have:=tV kvs k v;lia
  refine wpAny_setItem_pairs (yM ry) dd λh' dd' hs=>h _ ?_
  have he:∃q,h'.get? a=ab q:=let ⟨q,_,_,hq,_⟩:=dd';⟨q,hq⟩
  exact Q7 I (by rw[e];exact jv) hs he (K6 hl hd (rel.put k rv) dd')
 ·subst ey eH;cases (show u=eo b from ry);obtain⟨z,hd,xs,rel,dd⟩:=aEb I.hok e;have hz:xs.length<=ba:=by rw[<-jr rel];exact z
  have hl:(putK kvs k v).length<=ba:=by have:=tV kvs k v;lia
  refine wpAny_setItem_heap (sR hu) (K5 I.hok eb) dd λh' dd' hs=>h _ ?_
  obtain⟨q,es,ep,hq,h2,h3,h4,_,h5⟩:=dd';refine Q7 I (by rw[e];exact jv) hs ⟨q,hq⟩ ⟨hl,hd,_,(rel.put k eb rv).keeps λc ys ec=>?_,q,es,ep,hq,h2,h3,h4,h5⟩;rw[bG (GP ec e (λz=>nomatch z))];exact ec
end
theorem Q8(I:Inv X Ψ σ H s)(g:aAl H a y o):s.TypeIs (.ref a) "dict":=by
 rcases g with ⟨kvs,k,e,_,_⟩|⟨kvs,k,b,e,_,_,_⟩
 ·obtain⟨_,_,vs,_,dd⟩:=aAj I.hok e;exact dd.typeIs
 ·obtain⟨_,_,xs,_,dd⟩:=aAk I.hok e;exact dd.typeIs
theorem UW(h:az)(hb:gf<h.objs.size):jD P w H (h.push {cls:=.type "dict",data:=.dict #[]}) h.objs.size (.dK []):=
 ⟨cz _,fI.mpr (cq (cn hb)),[],.nil,xI h⟩
def aNl:TE:=λ_ H Q=>∀p,H p=ai->Q (.ref p) (upd H p (.dK []))
section
theorem aEc:PE X (.Dict [] [] pos) aNl:=λΨ s σ H Q I h=>
 wpAny_Dict_empty ⟨.ref s.heap.objs.size,_,I.laid (λ_ _ q=>bw _ q) (aT _) (UW s.heap I.big),rfl,h _ (I.hok.fresh (aT _))⟩
end
def aAn:aa (TE×TE)->St->Hp->(aa (V×V)->Hp->Prop)->Prop
 |[],_,H,Q=>Q [] H
 | (tk,tv)::r,σ,H,Q=>tk σ H λx H1=>tv σ H1 λy H2=>aAn r σ H2 λps H3=>Q ((x,y)::ps) H3
abbrev VV:aa (V×V)->aa (aj×aj)->Prop:=kt λp q=>RelV p.1 q.1/\RelV p.2 q.2
def PPs(X:Cx)(pos:cj)(keys:aa (ar Expr))(values:aa Expr)(trs:aa (TE×TE)):Prop:=
 ∀(Ψ:aa (ak×bf))(s:ao)(σ:St)(H:Hp)(Q:aa (V×V)->Hp->Prop),Inv X Ψ σ H s->aAn trs σ H Q->
  ϑ (av X.prog X.w) X.A (evalPairs (pairTrees keys values X.env pos)) (λvs s'=>∃ps H',Inv X Ψ σ H' s'/\VV ps vs/\Q ps H') X.xe s
theorem aIt:PPs X pos [] [] []:=λΨ s σ H Q I h=>pairTrees_nil_walk ⟨[],H,I,.nil,h⟩
theorem U0(hk:PE X k tk)(hv:PE X v tv)(hr:PPs X pos ks vs trs) :
  PPs X pos (ab k::ks) (v::vs) ((tk,tv)::trs):=λΨ s σ H Q I h=>
 pairTrees_cons_walk (thn (hk Ψ s σ H _ I h) λu s1 ⟨x,H1,I1,rx,q1⟩=>thn (hv Ψ s1 σ H1 _ I1 q1) λw2 s2 ⟨y,H2,I2,ry,q2⟩=>
  thn (hr Ψ s2 σ H2 _ I2 q2) λws s3 ⟨ps,H3,I3,rel,q3⟩=>⟨(x,y)::ps,H3,I3,.cons ⟨rx,ry⟩ rel,q3⟩)
def dY(kvs more:aa (Key×V)):aa (Key×V):=more.foldl (λacc kv=>putK acc kv.1 kv.2) kvs
theorem KV.merge:∀{more:aa (Key×V)}{rs:aa (Key×aj)}{kvs:aa (Key×V)}{vs:aa (Key×aj)},KV more rs->KV kvs vs->KV (dY kvs more) (kb vs rs):=by
 intro more rs kvs vs r;unfold KV at r;induction r generalizing kvs vs with
 |nil=>intro q;exact q
 |@cons p q ps qs h t ih=>
  intro r0;have e:KV (putK kvs p.1 p.2) (jg vs q.1 q.2):=by
   have:=r0.put p.1 h.2;rw[<-h.1];exact this
  exact ih e
theorem gQ:∀(more kvs:aa (Key×V)),(dY kvs more).length<=kvs.length+more.length
 |[],kvs=>by show kvs.length<=kvs.length+0;lia
 |p::r,kvs=>by
  have h1:=gQ r (putK kvs p.1 p.2);have h2:=tV kvs p.1 p.2;show(dY (putK kvs p.1 p.2) r).length<=_;rw[aS];lia
theorem DN:∀{kvs:aa (Key×V)}{ws:aa (aj×aj)},VV (kvs.map λkv=>(kV kv.1,kv.2)) ws->∃rs,Carries (cL P w) ws rs/\KV kvs rs
 |[],_,r=>by rw[io] at r;cases r;exact⟨[],jv,.nil⟩
 |p::kvs,_,r=>by
  rw[bd] at r;cases r with
  |@cons a b as bs h t=>
   obtain⟨rs,c,q⟩:=DN t;obtain⟨b1,b2⟩:=b;exact⟨(p.1,b2)::rs,⟨yM h.1,rfl,c⟩,.cons ⟨rfl,h.2⟩ q⟩
def aRn(trs:aa (TE×TE)):TE:=λσ H Q=>∀p,H p=ai->aAn trs σ (upd H p (.dK [])) λps H2=>H2 p=ab (.dK [])/\∃kvs:aa (Key×V),ps=kvs.map (λkv=>(kV kv.1,kv.2))/\kvs.length<=15/\Q (.ref p) (upd H2 p (.dK (dY [] kvs)))
theorem aIu(h:PPs X pos keys values trs)(hall:keys.all (·.isSome)=ae)(hl:keys.length=values.length)(h0:keys≠[])
 (h15:keys.length<=15):PE X (.Dict keys values pos) (aRn trs):=by
 intro Ψ s σ H Q I q;have hn:=I.hok.fresh (aT s.heap.objs.size);have I1:=I.laid (t':=s.toks) (λ_ _ q=>bw _ q) (aT _) (UW s.heap I.big);refine wpAny_Dict_walk (knd:=cL X.prog X.w) hall hl h0 h15 (thn (h Ψ _ σ _ _ I1 (q _ hn)) λws s2 ⟨ps,H2,I2,rel,e,kvs,ep,lk,q2⟩=>?_);subst ep;obtain⟨rs,c,rk⟩:=DN (P:=X.prog) (w:=X.w) rel;obtain⟨z,hd,vs0,r0,dd⟩:=K4 I2.hok e;cases r0;refine⟨rs,c,dd,λh' dd' hs=>⟨.ref s.heap.objs.size,_,?_,rfl,q2⟩⟩;have hz:(dY [] kvs).length<=ba:=by
  have h1:=gQ kvs [];rw[fw] at h1;rw[di];lia
 have he:∃q,h'.get? s.heap.objs.size=ab q:=let ⟨q,_,_,hq,_⟩:=dd';⟨q,hq⟩
 exact Q7 I2 (by rw[e];exact jv) hs he (K6 hz hd (rk.merge .nil) dd')
end L2
namespace Att
open PySem PySem.W PySem.Calls PyProof.Rows
theorem yN:∀(ns:aa ag)(vs:aa aj),WellAll P h vs (ns.map A2)->nS vs ns:=by
 intro ns;induction ns with
 |nil=>
  intro vs w;rw[io] at w;cases w;exact .nil
 |cons n ns ih=>
  intro vs w;rw[bd] at w;cases w with
  |cons a b=>
   cases a;exact .cons _ _ (ih _ b)
theorem aAo{l:OpenLaw}(hn:l.most=ab n)
 (hpre:l.row.toRowW.claim.pre args=ae)(hwl:WellAll P h vals args) :
  ∃a vs ns,vals=[eo a]/\args=[WData.list (ns.map A2)]/\h.get? a=ab {cls:=.type "list",data:=.seq vs.toArray}/\nS vs ns/\ns.length<=n:=by
 have hsh:WShape.hasAll [] args [.list .int]=ae:=(pre_splitW hpre).1;have hc:l.pre.holds [] {args:=args}=ae:=(pre_splitW hpre).2;obtain⟨d,r,rfl,h1,h2⟩:=hasAllW_cons hsh;obtain rfl:=hasAllW_nil h2;obtain⟨xs,rfl,h3⟩:=hasW_list h1;obtain⟨ns,rfl⟩:=items_int h3;have hlen:ns.length<=n:=by
  unfold OpenLaw.pre at hc;have h4:(WTm.not (.lt (.lit (.int (n:ag))) (.len (.arg 0)))).holds [] {args:=[.list (ns.map .int)]}=ae:=by
   have h4:=(holds_andW hc).1;rw[hn] at h4;exact h4
  have h5:=condW_of h4 (w_not (w_lt w_lit (w_len_list (w_arg rfl))));rw[aw] at h5;refine A3 λq=>?_
  have q':(n:ag)<((ns.length:af):ag):=by lia
  first
   | (rw[bh q'] at h5;exact ay h5 0x4)
   | (simp at h5;lia)
 cases hwl with
 |cons w1 w2=>
  cases w2;cases w1 with
  |list ho hall=>exact⟨_,_,ns,rfl,rfl,ho,yN ns _ hall,hlen⟩
theorem aAp(l:OpenLaw)(args:aa WData):l.row.toRowW.claim.post args (.bool ae) args=ae:=
 postW_of
  (show A4 [] (.bool ae) .bool=ae by first|rfl|decide|simp[A4,WShape.arms,WShape.armsAll])
  (show(WTm.eq .res (.lit (.bool ae))).value [] {args:=args,res:=ab (.bool ae),after:=args}=ab (.bool (ae==ae)) from w_eq_bool (w_res rfl) w_lit) rfl
theorem Q9{l:OpenLaw}
 (hn:l.most=ab n)(hdf:d.params.defaults=[])
 (call:∀(w:br) (s₀ s₁:ao) (mg mb:Str->ar aj) (fa:ak) (o:bf) (pm cd doc:aj) (a:ak) (vs:aa aj) (ns:aa ag),
   Ground q loose [] XP w s₀ mg mb s₁.heap->YP w s₁.heap->
   s₁.heap.get? fa=ab o->o.data=.func (docDef d.name d.params d.body d.scope pm cd doc)->s₁.heap.CodeRec cd d.name->mg d.name=ab (.ref fa)->
   s₁.heap.get? a=ab {cls:=.type "list",data:=.seq vs.toArray}->nS vs ns->ns.length<=n->s₁.gens=#[]->
   codeAny (av l.prog w) kQ (.call (.ref fa) ⟨[.ref a],[]⟩) (λr s'=>r=.ok (.ret (.bool ae))/\OldK s₁.heap s'.heap/\s'.os=s₁.os/\ju s'.gens) s₁) :
  WalkO q loose XP YP l.row.toRowW d [] (λf vs=>xL f vs):=by
 intro w s₀ s₁ mg mb G Y fa o pm cd doc dV kV ho hd hcd hD hmg hg args vals as hpre hlay hrd hwl hlo;obtain rfl:dV=.none:=Dflts.none hD hdf;obtain rfl:kV=.none:=Dflts.noKw hD;obtain⟨a,vs,ns,rfl,rfl,hobj,hints,hlen⟩:=aAo hn hpre hwl;refine enter_call (kL (call w s₀ s₁ mg mb fa o pm cd doc a vs ns G Y ho (fd_plain hd) hcd hmg hobj hints hlen hg) λr s' hq=>?_);obtain⟨rfl,h2,h3,h4⟩:=hq;exact⟨.inl ⟨.bool ae,.bool ae,[],rfl,λ_=>rfl,.bool ae,aAp l _,λ_=>⟨Dw,λ_ hm=>(nomatch hm)⟩⟩,h2,h3,h4⟩
end Att
namespace L2
open PySem PySem.Spec PyProof.Rows
theorem K8:∀{vs:aa aj}{ns:aa ag},nS vs ns->Vals (ns.map V.int) vs
 |_,_,.nil=>.nil
 |_,_,.cons n t h=>.cons ⟨t,rfl⟩ (K8 h)
def Only(H:Hp):Prop:=∀b,H b=ai\/∃o xs,H b=ab (.frz o (.lst xs))
theorem aEd{K:bi}{mg mb:Str->ar aj}{CX:CXT}{k:af}{fa a:ak}{fd:dS}{x:Str}{sp:Sp}{s₁:ao}{vs:aa aj}{ns:aa ag}
 (KX:K.In s₁.heap)(hns:s₁.heap.Ns cb mg)(hb:s₁.heap.Ns vw mb)(hbb:∀x:Str,x ≠ "__name__"->mb x=dA x)(hlim:s₁.heap.NoLimit)(hg:s₁.gens=#[])
 (ha:s₁.heap.get? a=ab {cls:=.type "list",data:=.seq vs.toArray})(hi:nS vs ns)(hl:ns.length<=ba)(hr:nZ k kQ)
 (F:∀base:az,K.In base->base.Ns cb mg->vH P w K mg base CX k fa fd [x] sp)(hbind:∀(s:ao) (u:aj),kK s fd ⟨[u],[]⟩ [(x,u)])
 (hsp:∀H:Hp,Only H->SqL K H a (ns.map V.int)->sp [.ref a] H (λv _=>v=.bl ae) λ_ _ _=>ck)
 (hCX:∀H e s',CX [] H s₁ (λ_ _ _=>ck) e s'->ck) :
  codeAny (av P w) kQ (.call (.ref fa) ⟨[.ref a],[]⟩) (λr s'=>r=.ok (.ret (.bool ae))/\OldK s₁.heap s'.heap/\s'.os=s₁.os/\ju s'.gens) s₁:=by
 have rv:=K8 hi;have lenV:=hi.length
 -- from an abstract heap in which nothing but the script may be tracked
 have core:∀H:Hp,Only H->SqL K H a (ns.map V.int)->HOk P w H s₁.heap->(∀b,H b≠ai->b=a)->(H a≠ai->K.lookup a=ai)->
   codeAny (av P w) kQ (.call (.ref fa) ⟨[.ref a],[]⟩) (λr s'=>r=.ok (.ret (.bool ae))/\OldK s₁.heap s'.heap/\s'.os=s₁.os/\ju s'.gens) s₁:=by
  intro H hO hS hok hA hK;have base_of:∀{b:ak}{o:bf},s₁.heap.get? b=ab o->H b=ai->(aDy s₁.heap H).get? b=ab o:=λe n=>aDz e n
  have noA:∀{b:ak}{o:bf}{es:ax nV}{ep:af},s₁.heap.get? b=ab o->o.data=.dict es ep->H b=ai:=λ{b o es ep} e d=>by
   cases q:H b with
   |none=>rfl
   |some u=>
    have e':b=a:=hA b (by rw[q];simp);subst e';rw[ha] at e;cases e;have d':Ah vs.toArray _=Data.dict es ep:=d;cases d'
  have nsK:∀{b:ak}{m:Str->ar aj},s₁.heap.Ns b m->(aDy s₁.heap H).Ns b m:=λ{b m} ⟨o,es,ep,e,d,r⟩=>⟨o,es,ep,base_of e (noA e d),d,r⟩
  have hKb:K.In (aDy s₁.heap H):=λb o e=>base_of (KX b o e) (by
   cases q:H b with
   |none=>rfl
   |some u=>
    have e':b=a:=hA b (by rw[q];simp);subst e';rw[hK (by rw[q];simp)] at e;cases e)
  have hM:Mod K mg (aDy s₁.heap H):=⟨hKb,nsK hns,⟨mb,nsK hb,hbb⟩,let ⟨mc,h1,h2⟩:=hlim;⟨mc,nsK h1,h2⟩⟩
  have e0:aIi P w K mg (aDy s₁.heap H) kQ [] s₁ H:=⟨rfl,hM,λb o e=>aI7 e,wj (Z8 _ _),trivial,λb hb=>ay (show b∈([]:aa ak) from hb) 0x2,hok,.of_eq hg⟩
  refine kL ((F _ hKb (nsK hns)).run kQ [] s₁ H ⟨[.ref a],[]⟩ [.ref a] [.ref a] _ _ hr e0 (hbind s₁ (.ref a)) (.cons rfl .nil) (hsp H hO hS)) λr s' h=>?_
  cases r with
  |error e=>exact(hCX H e s' h).elim
  |ok fl=>
   cases fl with
   |next=>exact eW h
   |brk=>exact eW h
   |cont=>exact eW h
   |ret u=>
    obtain⟨v,H',os,bare,un,hok',r',q⟩:=h;have q':v=.bl ae:=q;subst q';obtain rfl:u=se ae:=r';refine⟨rfl,OldK.of_keep λb o e=>?_,os,bare⟩;cases q:H b with
    |none=>exact un.keep b o e q (by intro z;exact ay (show b∈([]:aa ak) from z) 0x2) 0x2
    |some u=>
     rcases hO b with z|⟨ob,xs,z⟩
     ·rw[q] at z;cases z
     ·have z2:=un.frzs b ob _ z;obtain⟨e1,_⟩:=hok b _ z;obtain⟨e2,_⟩:=hok' b _ z2;rw[e] at e1;cases e1;exact e2
 cases hk:K.lookup a with
 |some o=>
  -- the script is one of the module's own objects
  have e:=KX a o hk;rw[ha] at e;cases e;refine core (λ_=>ai) (λ_=>.inl rfl) (.inr ⟨_,vs.toArray,_,hk,rfl,rfl,rfl,by rw[bS,lenV];exact hl,by simpa using rv⟩) (λb u z=>by have z':(ai:ar HO)=ab u:=z;cases z') (λb z=>ay rfl z) λz=>ay rfl z
 |none=>
  refine core (λb=>if b=a then ab (.frz {cls:=.type "list",data:=.seq vs.toArray} (.lst (ns.map V.int))) else ai) (λb=>?_) (.inl (.inr ⟨{cls:=.type "list",data:=.seq vs.toArray},al rfl⟩)) (λb u z=>?_) (λb z=>?_) λ_=>hk
  ·by_cases hb:b=a
   ·exact .inr ⟨_,_,al hb⟩
   ·exact .inl (au hb)
  ·by_cases hb:b=a
   ·have z':=(al hb).symm.trans z;cases z';subst hb;exact⟨ha,by rw[aw];exact hl,vs,_,rv,ha⟩
   ·have z':=(au hb).symm.trans z;cases z'
  ·by_cases hb:b=a
   ·exact hb
   ·exact ay (au hb) z
theorem aIv{l:PySem.W.OpenLaw}{YP:br->az->Prop}{d:DefRec}{K:Params->bi}{CX:br->CXT}{sp:br->Sp}{x:Str}
 (hn:l.most=ab n)(hn2:n<=ba)(hdf:d.params.defaults=[])(hr:nZ k kQ)
 (hY:∀(w:br) (h:az),YP w h->(K w.params).In h)
 (F:∀(w:br) (mg:Str->ar aj) (fa:ak) (h:az),(K w.params).In h->h.Ns cb mg->mg d.name=ab (.ref fa)->
   ∃fd:dS,(∀(s:ao) (u:aj),kK s fd ⟨[u],[]⟩ [(x,u)])/\
    ∀base:az,(K w.params).In base->base.Ns cb mg->vH l.prog w (K w.params) mg base (CX w) k fa fd [x] (sp w))
 (hsp:∀(w:br) (H:Hp) (a:ak) (ns:aa ag),ns.length<=n->Only H->SqL (K w.params) H a (ns.map V.int)->sp w [.ref a] H (λv _=>v=.bl ae) λ_ _ _=>ck)
 (hCX:∀(w:br) (H:Hp) (s:ao) (e:aj) (s':ao),CX w [] H s (λ_ _ _=>ck) e s'->ck) :
  PySem.W.WalkO q loose XP YP l.row.toRowW d [] (λf vs=>xL f vs):=by
 refine Att.Q9 hn hdf λw s₀ s₁ mg mb fa o pm cd doc a vs ns G Y ho hd hcd hmg hobj hints hlen hg=>?_
 have KX:=hY w _ Y;obtain⟨fd,hb,hF⟩:=F w mg fa _ KX G.T.g hmg;exact aEd KX G.T.g G.T.b G.T.builtins G.T.nolimit hg hobj hints (c9 hlen hn2) hr hF hb (λH hO hS=>hsp w H a ns hlen hO hS) λH e s'=>hCX w H s₁ e s'
noncomputable def g8(s:bn):Arguments:=match s with
 |.FunctionDef _ a _ _ _ _ _ _ _ _=>a
 |_=>{posonlyargs:=[],args:=[],vararg:=ai,kwonlyargs:=[],kw_defaults:=[],kwarg:=ai,defaults:=[]}
noncomputable def d7(s:bn):aa bn:=match s with
 |.FunctionDef _ _ b _ _ _ _ _ _ _=>b
 |_=>[]
noncomputable def aL(s:bn):fR:=match s with
 |.FunctionDef _ _ _ _ _ _ sc _ _ _=>sc
 |_=>{kind:=.function,names:=[],isGenerator:=ah,isCoroutine:=ah}
noncomputable abbrev CX0:CXT:=λ_ _ _ _ _ _=>ck
noncomputable abbrev E0:XK:=λ_ _ _=>ck
theorem aAq:C_ CX0 X E0:=λ_ _ _ _ _ _ _ h=>h.elim
structure Fun(K:bi)(x qual:Str)(st:bn)(f:ak)(fd:dS):Prop where
 ex:∃(oc:aj)(od:ar ak)(kV doc pm:aj)(an:ar ak)(cdv ct:aj)(osl:ax (ar aj)),
  fd=kM x qual (g8 st) (d7 st) (aL st) .none kV doc pm an cdv ct/\K.lookup f=ab ⟨oc,od,.func fd,osl⟩/\sA K cdv qual=ae
 kp:iA K (.ref f)=ae
section
variable {P:b5} {w:br} {K:bi} {mg:Str->ar aj} {base:az}
theorem Fun.ok{st:bn}{fd:dS}{N ps:aa Str}{k:af}{sp:Sp}(F:Fun K x qual st f fd)(S:bV N ps (aL st))(len:∀vs H Q E,sp vs H Q E->vs.length=ps.length)
 (hbody:∀(cdv:aj) (A:cg) (outer:aa dg) (s:ao) (H:Hp) (vs:aa V) (Q:VK) (E:XK),nZ k (A.deeper (fS qual (aL st) s.heap.objs.size f cdv))->sp vs H Q E->
   ∃t,PSs (Z2 CX0 P w K mg base N qual (aL st) f cdv A outer s H E).nox (d7 st) t/\t {nx:=λ_ H'=>Q .non H',rt:=Q} (start N vs) H):vH P w K mg base CX0 (k+1) f fd ps sp:=by
 obtain⟨oc,od,kV,doc,pm,an,cdv,ct,osl,rfl,lk,hcd⟩:=F.ex;refine aNb lk hcd S len λA outer s H vs Q E hr hsp=>?_
 obtain⟨t,h,q⟩:=hbody cdv A outer s H vs Q E hr hsp;exact⟨t,h.nox,q⟩
theorem Fun.binds{st:bn}(F:Fun K x qual st f fd)
 (h:∀(kV doc pm:aj) (an:ar ak) (cdv ct:aj) (us:aa aj),us.length=ps.length->bindArgs (kM x qual (g8 st) (d7 st) (aL st) .none kV doc pm an cdv ct) ⟨us,[]⟩=pure (ps.zip us)):Binds K fd ps []:=by
 obtain⟨oc,od,kV,doc,pm,an,cdv,ct,osl,rfl,lk,hcd⟩:=F.ex;exact .all (h kV doc pm an cdv ct)
theorem tL{st:bn}{oc:aj}{od an:ar ak}{osl:ax (ar aj)}{kV doc pm cdv ct:aj}(l:K.lookup f=ab ⟨oc,od,.func (kM x qual (g8 st) (d7 st) (aL st) .none kV doc pm an cdv ct),osl⟩)
 (c:sA K cdv qual=ae)(k:iA K (.ref f)=ae):Fun K x qual st f (kM x qual (g8 st) (d7 st) (aL st) .none kV doc pm an cdv ct):=⟨⟨oc,od,kV,doc,pm,an,cdv,ct,osl,rfl,l,c⟩,k⟩
end
def b_(H H':Hp):Prop:=∀b o,H b=ab o->H' b=ab o
theorem b_.refl(H:Hp):b_ H H:=λ_ _ h=>h
theorem b_.trans(a:b_ H H1)(b:b_ H1 H2):b_ H H2:=λc o h=>b c o (a c o h)
theorem b_.free(e:b_ H H')(h:H' l=ai):H l=ai:=by
 cases q:H l with
 |none=>rfl
 |some o=>
  rw[e l o q] at h;cases h
section
variable [cr κ]
theorem aEe{kvs:aa (κ×V)}{k:κ}(h:DK kvs k=ai):¬k∈kvs.map (·.1):=by
 intro m;obtain⟨p,hp,e⟩:=bE.mp m;have q:(kvs.any λkv=>ϒ (kv.1=k))=ae:=A5.mpr ⟨p,hp,bh e⟩;rw[uM,h] at q;exact ay q 0x2
theorem aAr:∀{l:aa κ}{k:κ},l.Nodup->¬k∈l->(l++[k]).Nodup
 |[],k,_,_=>by simp
 |a::r,k,h,hk=>by
  obtain⟨h1,h2⟩:=c_.mp h;show(a::(r++[k])).Nodup;refine c_.mpr ⟨λm=>?_,aAr h2 λm=>hk (bu.mpr (Or.inr m))⟩;rcases dQ.mp m with q|q
  ·exact h1 q
  ·exact hk (bu.mpr (ip (eL.mp q).symm))
theorem aIw{kvs:aa (κ×V)}{k:κ}(v:V)(hn:(kvs.map (·.1)).Nodup)(h:DK kvs k=ai):((putK kvs k v).map (·.1)).Nodup:=by
 rw[aEa v h,b6];exact aAr hn (aEe h)
end
end L2
namespace Mi
open PySem
inductive D where
 |uD|non|bl (b:aq)|int (i:ag)|str (x:Str)
 |tup (xs:aa D)|lst (xs:aa D)|dct (kvs:aa (D×D))|scr (xs:aa D)|fdc (kvs:aa (D×D))|cel (a:af) (xs:aa D)|exc (c:Str) (fs:aa (Str×Str))|ins (c:Str) (fs:aa (Str×D))|adr (a:af)|dcl (a:af) (kvs:aa (D×D))
 deriving Inhabited
mutual
noncomputable def D.pure:D->aq
 |.tup xs=>D.aV xs
 |.lst _=>ah
 |.dct _=>ah
 |.uD=>ah
 |.scr xs=>D.aV xs
 |.fdc _=>ah
 |.cel _ _=>ah
 |.exc _ _=>ah
 |.ins _ _=>ah
 |.adr _=>ah
 |.dcl _ _=>ah
 |_=>ae
noncomputable def D.aV:aa D->aq
 |[]=>ae
 |x::xs=>x.pure&&D.aV xs
end
mutual
noncomputable def eqD:D->D->aq
 |.non,.non=>ae
 |.bl a,.bl b=>a==b
 |.int a,.int b=>a==b
 |.bl a,.int b=>(if a then (1:ag) else 0)==b
 |.int a,.bl b=>a==(if b then (1:ag) else 0)
 |.str a,.str b=>a==b
 |.tup xs,.tup ys=>xN xs ys
 |.lst xs,.lst ys=>xN xs ys
 |_,_=>ah
noncomputable def xN:aa D->aa D->aq
 |[],[]=>ae
 |x::xs,y::ys=>eqD x y&&xN xs ys
 |_,_=>ah
end
theorem yO(a b:ag):eqD (.int a) (.int b)=(a==b):=id rfl
theorem aNm(a b:Str):eqD (.str a) (.str b)=(a==b):=id rfl
theorem aNn(a:ag)(b:Str):eqD (.int a) (.str b)=ah:=id rfl
theorem aNo(a:Str)(b:ag):eqD (.str a) (.int b)=ah:=id rfl
theorem aNp(a b:aa D):eqD (.tup a) (.tup b)=xN a b:=id rfl
mutual
noncomputable def D.fP:af->D->aq
 |n+1,.tup xs=>D.eO n xs
 |n+1,.lst xs=>D.eO n xs
 |0,.tup _=>ah
 |0,.lst _=>ah
 |_,.dct _=>ah
 |_,.uD=>ah
 |_,.scr _=>ah
 |_,.fdc _=>ah
 |_,.cel _ _=>ah
 |_,.exc _ _=>ah
 |_,.ins _ _=>ah
 |_,.adr _=>ah
 |_,.dcl _ _=>ah
 |_,_=>ae
noncomputable def D.eO:af->aa D->aq
 |_,[]=>ae
 |n,x::xs=>D.fP n x&&D.eO n xs
end
inductive g_ where|lt|le|gt|ge
 deriving cr
noncomputable def g_.int:g_->ag->ag->aq
 |.lt,a,b=>ϒ (a<b)|.le,a,b=>ϒ (a<=b)|.gt,a,b=>ϒ (b<a)|.ge,a,b=>ϒ (b<=a)
noncomputable def g_.nat:g_->af->af->aq
 |.lt,a,b=>ϒ (a<b)|.le,a,b=>ϒ (a<=b)|.gt,a,b=>ϒ (b<a)|.ge,a,b=>ϒ (b<=a)
noncomputable def aAs(a b:Str):aq:=ϒ (a.cps.toList<b.cps.toList)
def g_.str:g_->Str->Str->aq
 |.lt,a,b=>aAs a b|.le,a,b=>!aAs b a|.gt,a,b=>aAs b a|.ge,a,b=>!aAs a b
mutual
noncomputable def j_(o:g_):D->D->ar aq
 |.int a,.int b=>ab (o.int a b)
 |.str a,.str b=>ab (o.str a b)
 |.tup xs,.tup ys=>jE o xs ys
 |_,_=>ai
noncomputable def jE(o:g_):aa D->aa D->ar aq
 |[],ys=>ab (o.nat 0 ys.length)
 |x::xs,[]=>ab (o.nat (x::xs).length 0)
 |x::xs,y::ys=>if eqD x y then jE o xs ys else j_ o x y
end
inductive Res(α:Type) where
 |ok (a:α)|err (c:Str) (as:aa D)|bad
noncomputable def Res.bind{α β:Type}:Res α->(α->Res β)->Res β
 |.ok a,f=>f a
 |.err c as,_=>.err c as
 |.bad,_=>.bad
noncomputable instance:Monad Res where
 pure:=.ok
 bind:=Res.bind
@[simp] theorem Res.aW(a:α)(f:α->Res β):((Res.ok a) >>= f)=f a:=rfl
@[simp] theorem Res.aQm(c:Str)(as:aa D)(f:α->Res β):((Res.err c as:Res α) >>= f)=.err c as:=rfl
@[simp] theorem Res.aQn(f:α->Res β):((Res.bad:Res α) >>= f)=.bad:=rfl
@[simp] theorem Res.pure_eq(a:α):(pure a:Res α)=.ok a:=rfl
theorem Res.aIx{f:α->Res β}(h:(m >>= f)=.ok b):∃a,m=.ok a/\f a=.ok b:=by
 cases m with
 |ok a=>exact⟨a,rfl,h⟩
 |err c as=>cases h
 |bad=>cases h
theorem bx{P:Prop}(h:(Res.bad:Res α)=.ok d):P:=by cases h
theorem fx0{P:Prop}(h:ah=ae):P:=by cases h
theorem nx0{P:Prop}(h:(ai:ar α)=ab d):P:=by cases h
noncomputable def Res.ofOpt{α:Type}:ar α->Res α
 |some a=>.ok a
 |none=>.bad
@[simp] theorem Res.aMc(a:α):Res.ofOpt (ab a)=.ok a:=rfl
theorem Res.mU(h:Res.ofOpt o=.ok a):o=ab a:=by
 cases o with
 |none=>cases h
 |some b=>cases h;rfl
noncomputable def lim:af:=1000000
inductive Bop where|add|sub|mul|fdiv|mod|pow
 deriving cr
inductive Cop where|eq|ne|ord (o:g_)|isin|notin|isN|notN
 deriving cr
noncomputable def lN(i:ag):aq:=ϒ (-(2 ^ 64)<i)&&ϒ (i<2 ^ 64)
def bI:Bop->D->D->Res D
 |.add,.int a,.int b=>.ok (.int (a+b))
 |.sub,.int a,.int b=>.ok (.int (a-b))
 |.mul,.int a,.int b=>if lN a||lN b then .ok (.int (a*b)) else .bad
 |.fdiv,.int a,.int b=>if ϒ (0<b)&&ϒ (b<1073741824) then .ok (.int (a / b)) else .bad
 |.mod,.int a,.int b=>if ϒ (0<b) then .ok (.int (a % b)) else .bad
 |.pow,.int a,.int b=>if ϒ (0<=b)&&ϒ (b<=1000000)&&ϒ (a.natAbs<2 ^ 64) then .ok (.int (a ^ b.toNat)) else .bad
 |.add,.str a,.str b=>if ϒ (a.length+b.length<=lim) then .ok (.str (a++b)) else .bad
 |.add,.lst a,.lst b=>if ϒ (a.length+b.length<=lim)&&D.aV a&&D.aV b then .ok (.lst (a++b)) else .bad
 |_,_,_=>.bad
def aT4:D->Res aq
 |.non=>.ok ah
 |.bl b=>.ok b
 |.int i=>.ok (i !=0)
 |.str x=>if ϒ (x.length<=lim) then .ok ((x.length:ag)!=0) else .bad
 |.tup xs=>.ok (!xs.isEmpty)
 |.lst xs=>.ok (!xs.isEmpty)
 |.dct kvs=>.ok (!kvs.isEmpty)
 |.uD=>.bad
 |.fdc _=>.bad
 |.cel _ _=>.bad
 |.exc _ _=>.bad
 |.ins _ _=>.bad
 |.adr _=>.bad
 |.dcl _ _=>.bad
 |.scr xs=>.ok (!xs.isEmpty)
noncomputable def mV:D->aq
 |.int _=>ae
 |.str _=>ae
 |_=>ah
def keyOk:D->aq
 |.int _=>ae
 |.str _=>ae
 |.tup xs=>xs.all mV
 |_=>ah
noncomputable def isTup:D->aq
 |.tup _=>ae
 |_=>ah
def eX:aa (D×D)->D->ar D
 |[],_=>ai
 | (k,v)::r,q=>if eqD k q then ab v else eX r q
def putD:aa (D×D)->D->D->aa (D×D)
 |[],q,w=>[(q,w)]
 | (k,v)::r,q,w=>if eqD k q then (k,w)::r else (k,v)::putD r q w
def GZ(kvs:aa (D×D))(k:D):aq:=keyOk k&&kvs.all (λp=>isTup p.1==isTup k)
noncomputable def aY:af:=12
def cT:Cop->D->D->Res D
 |.eq,a,b=>if a.fP aY&&b.fP aY then .ok (.bl (eqD a b)) else .bad
 |.ne,a,b=>if a.fP aY&&b.fP aY then .ok (.bl (!eqD a b)) else .bad
 |.ord o,a,b=>if a.fP aY&&b.fP aY then (match j_ o a b with|some k=>.ok (.bl k)|none=>.bad) else .bad
 |.isin,a,.tup ys=>if a.fP aY&&D.eO aY ys then .ok (.bl (ys.any λy=>eqD y a)) else .bad
 |.isin,a,.lst ys=>if a.fP aY&&D.eO aY ys then .ok (.bl (ys.any λy=>eqD y a)) else .bad
 |.isin,a,.dct kvs=>if GZ kvs a then .ok (.bl (eX kvs a).isSome) else .bad
 |.notin,a,.tup ys=>if a.fP aY&&D.eO aY ys then .ok (.bl (!(ys.any λy=>eqD y a))) else .bad
 |.notin,a,.lst ys=>if a.fP aY&&D.eO aY ys then .ok (.bl (!(ys.any λy=>eqD y a))) else .bad
 |.notin,a,.dct kvs=>if GZ kvs a then .ok (.bl (!(eX kvs a).isSome)) else .bad
 |.isN,.scr _,.non=>.bad
 |.notN,.scr _,.non=>.bad
 |.isN,.fdc _,.non=>.bad
 |.notN,.fdc _,.non=>.bad
 |.isN,.cel _ _,.non=>.bad
 |.notN,.cel _ _,.non=>.bad
 |.isN,.non,.non=>.ok (.bl ae)
 |.isN,a,.non=>.ok (.bl ah)
 |.notN,.non,.non=>.ok (.bl ah)
 |.notN,a,.non=>.ok (.bl ae)
 |_,_,_=>.bad
noncomputable def ixD(n:af)(i:ag):ar af:=if 0<=i then (if i<n then ab i.toNat else ai) else if -(n:ag)<=i then ab (i+n).toNat else ai
def getD(d i:D):Res D:=
 match d,i with
 |.tup xs,.int i=>Res.ofOpt ((ixD xs.length i).bind λj=>xs[j]?)
 |.lst xs,.int i=>Res.ofOpt ((ixD xs.length i).bind λj=>xs[j]?)
 |.scr xs,.int i=>Res.ofOpt ((ixD xs.length i).bind λj=>xs[j]?)
 |.cel _ xs,.int i=>Res.ofOpt ((ixD xs.length i).bind λj=>xs[j]?)
 |.str x,.int i=>if ϒ (x.length<=lim) then Res.ofOpt (((ixD x.cps.toList.length i).bind λj=>x.cps.toList[j]?).map λc=>D.str ⟨#[c]⟩) else .bad
 |.dct kvs,k=>if keyOk k then Res.ofOpt (eX kvs k) else .bad
 |.fdc kvs,k=>if keyOk k then Res.ofOpt (eX kvs k) else .bad
 |_,_=>.bad
noncomputable def G3(n d:af):ar ag->af
 |none=>d
 |some v=>if v<0 then (max (v+(n:ag)) 0).toNat else (min v (n:ag)).toNat
def cutD{α:Type}(xs:aa α)(lo hi:ar ag):aa α:=(xs.drop (G3 xs.length 0 lo)).take (G3 xs.length xs.length hi-G3 xs.length 0 lo)
inductive Ty where|int|str|bool|list|tuple|dict
 deriving cr
noncomputable def aRo:Ty->D->Res aq
 |_,.uD=>.bad
 |_,.scr _=>.bad
 |_,.fdc _=>.bad
 |_,.cel _ _=>.bad
 |_,.exc _ _=>.bad
 |_,.ins _ _=>.bad
 |_,.adr _=>.bad
 |_,.dcl _ _=>.bad
 |.int,.int _=>.ok ae
 |.int,.bl _=>.ok ae
 |.bool,.bl _=>.ok ae
 |.str,.str _=>.ok ae
 |.tuple,.tup _=>.ok ae
 |.list,.lst _=>.ok ae
 |.dict,.dct _=>.ok ae
 |_,_=>.ok ah
mutual
noncomputable def D.plain:D->aq
 |.int _=>ae
 |.str _=>ae
 |.tup xs=>D.jV xs
 |_=>ah
noncomputable def D.jV:aa D->aq
 |[]=>ae
 |x::xs=>x.plain&&D.jV xs
end
mutual
noncomputable def enc:D->aa ag
 |.int i=>[0,i]
 |.str x=>1::(x.cps.toList.map (λ(c:af)=>(c:ag)+1)++[0])
 |.tup xs=>2::QL xs
 |_=>[]
noncomputable def QL:aa D->aa ag
 |[]=>[0]
 |x::xs=>1::(enc x++QL xs)
end
noncomputable def gH:D->af
 |.int _=>1
 |.str _=>2
 |.tup (.int _::_)=>3
 |.tup (.str _::_)=>4
 |.tup (.tup _::_)=>5
 |_=>0
def cG(xs:aa D):aq:=ϒ (xs.length<64)&&xs.all λa=>a.plain&&a.fP aY&&gH a !=0&&gH a==gH (xs.headD .non)&&xs.all λb=>(j_ .lt a b).isSome
def leE(a b:D):aq:=!ϒ (enc b<enc a)
def yP(xs:aa D):aa D:=xs.mergeSort leE
noncomputable def jW(i:ag):aq:=ϒ (-(2 ^ 62)<=i)&&ϒ (i<2 ^ 62)
noncomputable def asB:D->Res aq
 |.bl b=>.ok b
 |_=>.bad
noncomputable def asI:D->Res ag
 |.int i=>.ok i
 |_=>.bad
inductive Fl where
 |nx (ρ:aa D)|rt (d:D)|bk (ρ:aa D)|ct (ρ:aa D)
noncomputable def aU0:Fl->Res D
 |.rt d=>.ok d
 |.nx _=>.ok .non
 |_=>.bad
noncomputable abbrev FE:=aa D->Res D
noncomputable abbrev FT:=aa D->Res aq
noncomputable abbrev FA:=aa D->Res (aa D)
noncomputable def gM(i:af):FE:=λρ=>match ρ.getD i .uD with|.uD=>.bad|d=>.ok d
noncomputable def bC(d:D):FE:=λ_=>.ok d
abbrev cA:FE:= gM 0
abbrev fG:FE:= gM 1
abbrev fB:FE:= gM 2
abbrev d9:FE:= gM 3
abbrev dZ:FE:= gM 5
abbrev jT:FE:= gM 4
abbrev lF:FE:= gM 6
abbrev jF:FE:= gM 7
abbrev BJ:FE:= gM 9
abbrev BK:FE:= gM 8
abbrev uN:FE:= gM 13
abbrev sS:FE:= gM 10
abbrev BL:FE:= gM 15
abbrev BP:FE:= gM 16
abbrev j6:FE:= gM 17
abbrev n6:FE:= gM 11
abbrev mW:FE:= gM 12
abbrev mX:FE:= gM 14
abbrev bQ:FE:= bC (.int 0)
abbrev jG:FE:= bC (.int 2147483647)
abbrev cF:FE:= bC (.int 1)
abbrev yQ:FE:= bC (.int 104729)
abbrev G4:FE:= bC (.int 48271)
abbrev mY:FE:= bC (.int 2147483629)
abbrev J_:FE:= bC (.int 4)
abbrev K9:FE:= bC (.int 17)
abbrev aGq:FE:= bC (.int 5)
abbrev aIy:FE:= bC (.int 37)
abbrev K_:FE:= bC (.int 26)
abbrev gP:FE:= bC (.int 2)
abbrev aEf:FE:= bC (.int 8)
abbrev sW:FE:= bC (.int 3)
abbrev aQo:FE:= bC (.int 7)
abbrev aIz:FE:= bC (.int 38)
abbrev aEg:FE:= bC (.int 12)
noncomputable def b2(f:D->D->Res D)(a b:FE):FE:=λρ=>do let x <- a ρ;let y <- b ρ;f x y
noncomputable def b1(f:D->Res D)(a:FE):FE:=λρ=>do let x <- a ρ;f x
def bTB(a:FE):FT:=λρ=>do let x <- a ρ;asB x
noncomputable def KC(a:FT):FT:=λρ=>do let x <- a ρ;pure (!x)
noncomputable def aDt(a b:FT):FT:=λρ=>do let x <- a ρ;if x then b ρ else pure ah
noncomputable def bOr(a b:FT):FT:=λρ=>do let x <- a ρ;if x then pure ae else b ρ
def aNq(a:FE):FE:=λρ=>do let x <- a ρ;let k <- asB x;pure (.bl (!k))
def LC(a b:FE):FE:=λρ=>do let x <- a ρ;let k <- asB x;if k then b ρ else pure (.bl ah)
noncomputable def aO:FA:=λ_=>.ok []
noncomputable def aC(a:FE)(b:FA):FA:=λρ=>do let x <- a ρ;let xs <- b ρ;pure (x::xs)
def cM(a:FA):FE:=λρ=>do let xs <- a ρ;if ϒ (xs.length<=lim) then pure (.tup xs) else .bad
def BR(a:FA):FE:=λρ=>do let xs <- a ρ;if ϒ (xs.length<=lim) then pure (.lst xs) else .bad
noncomputable def aN(f:aa D->Res D)(a:FA):FE:=λρ=>do let xs <- a ρ;f xs
def jH(a:FE):aa D->Res (ar ag):=λρ=>do let x <- a ρ;let i <- asI x;pure (ab i)
noncomputable def jJ:aa D->Res (ar ag):=λ_=>.ok ai
def aT5:D->Res aq
 |.dct _=>.bad
 |.scr _=>.bad
 |.fdc _=>.bad
 |d=>aT4 d
def bTr(a:FE):FT:=λρ=>do let x <- a ρ;aT5 x
noncomputable def aAt:D->Res D
 |.int i=>.ok (.int (-i))
 |_=>.bad
def aMd:D->ar ag->ar ag->Res D
 |.lst xs,lo,hi=>if D.aV xs then .ok (.lst (cutD xs lo hi)) else .bad
 |.scr xs,lo,hi=>if D.aV xs then .ok (.lst (cutD xs lo hi)) else .bad
 |.tup xs,lo,hi=>if !D.aV xs||ϒ (G3 xs.length 0 lo=0/\G3 xs.length xs.length hi=xs.length) then .bad else .ok (.tup (cutD xs lo hi))
 |_,_,_=>.bad
def eQ:aa D->Res D
 |[.tup xs]=>.ok (.int xs.length)
 |[.lst xs]=>.ok (.int xs.length)
 |[.scr xs]=>.ok (.int xs.length)
 |[.cel _ xs]=>.ok (.int xs.length)
 |[.str x]=>if ϒ (x.length<=lim) then .ok (.int x.length) else .bad
 |_=>.bad
noncomputable def sX(kvs:aa (D×D)):aa D:=kvs.map (·.1)
def aEh:aa D->Res D
 |[.tup xs]=>if D.aV xs then .ok (.lst xs) else .bad
 |[.lst xs]=>if D.aV xs then .ok (.lst xs) else .bad
 |[.dct kvs]=>if kvs.all (λp=>!isTup p.1) then .ok (.lst (sX kvs)) else .bad
 |_=>.bad
noncomputable def kE:aa D->Res D
 |[.tup xs]=>.ok (.tup xs)
 |[.lst xs]=>.ok (.tup xs)
 |_=>.bad
def lG:aa D->Res D
 |[.lst xs]=>if cG xs then .ok (.lst (yP xs)) else .bad
 |_=>.bad
noncomputable def Ty.nm:Ty->eh
 |.int=>"int" | .str=>"str" | .bool=>"bool" | .list=>"list" | .tuple=>"tuple" | .dict=>"dict"
def vJ(t:Ty)(d:D):Res D:=do let k <- aRo t d;pure (.bl k)
noncomputable def cP(n:af)(f:aa D->Res D):aa D->Res D:=λds=>if ϒ (ds.length=n) then f ds else .bad
noncomputable abbrev FI:=aa D->Res (aa D×aq)
noncomputable def yR:D->Res (aa D)
 |.lst xs=>.ok xs
 |.tup xs=>.ok xs
 |_=>.bad
def tW:aa D->Res (aa D×aq)
 |[.int n]=>if jW n then .ok ((bm n.toNat).map λ(k:af)=>D.int (0+(k:ag)),ae) else .bad
 |_=>.bad
def yS:aa D->Res (aa D×aq)
 |[.int a,.int b]=>if jW a&&jW b then .ok ((bm (b-a).toNat).map λ(k:af)=>D.int (a+(k:ag)),ae) else .bad
 |_=>.bad
noncomputable def jK(f:FA)(g:aa D->Res (aa D×aq)):FI:=λρ=>do let xs <- f ρ;g xs
noncomputable def G5(n:af)(ρ:aa D):aa D:=(bm n).map λi=>ρ.getD i .uD
noncomputable def jL:D->Res (aa D):=λd=>.ok [d]
noncomputable def aQp(m:af):D->Res (aa D)
 |.tup ds=>if ϒ (ds.length=m) then .ok ds else .bad
 |_=>.bad
def iI(n:af)(t:D->Res (aa D))(c:FT)(f:FE)(k:aq)(ρ:aa D)(acc:aa D)(x:D):Res (aa D):=do
 let bs <- t x
 let ok <- c (G5 n ρ++bs)
 if ok then (do
  let y <- f (G5 n ρ++bs)
  if k||y.pure then pure (acc++[y]) else .bad)
 else pure acc
noncomputable def fK(g:aa D->D->Res (aa D)):aa D->aa D->Res (aa D)
 |acc,[]=>.ok acc
 |acc,x::xs=>do let a <- g acc x;fK g a xs
def e_(n:af)(it:FI)(t:D->Res (aa D))(c:FT)(f:FE)(k:aq):FE:=λρ=>do
 let xs <- it ρ
 if ϒ (xs.1.length<=lim) then (do
  let ys <- fK (iI n t c f k ρ) [] xs.1
  pure (.lst ys)) else .bad
noncomputable def eU:FT:=λ_=>.ok ae
noncomputable abbrev FS:=aa D->Res Fl
def inner:D->aq
 |.lst xs=>D.aV xs
 |.dct kvs=>D.aV (kvs.map (·.2))
 |.cel _ xs=>D.aV xs
 |.dcl _ kvs=>D.aV (kvs.map (·.2))
 |_=>ah
noncomputable def uF:FS:=λρ=>.ok (.nx ρ)
noncomputable def bN(f g:FS):FS:=λρ=>do
 let r <- f ρ
 match r with
 |.nx ρ'=>g ρ'
 |r=>.ok r
def cR(o:aq)(i:af)(f:FE)(k:aq):FS:=λρ=>do
 let d <- f ρ
 if (if o then k&&inner d else k||d.pure) then .ok (.nx (ρ.set i d)) else .bad
noncomputable def sIf(c:FT)(f g:FS):FS:=λρ=>do
 let k <- c ρ
 if k then f ρ else g ρ
noncomputable def nR(f:FE)(k:aq):FS:=λρ=>do
 let d <- f ρ
 if k||d.pure then .ok (.rt d) else .bad
def YH(i:af):FS:=λρ=>do
 let d <- gM i ρ
 .ok (.rt d)
noncomputable def rtX:af:=1000000
noncomputable def yU(f:FE)(k:aq):FS:=λρ=>do
 let d <- f ρ
 if k||d.pure then .ok (.rt (.tup (d::ρ))) else .bad
def Q_(i:af)(f:FE):FS:=λρ=>do
 let d <- f ρ
 match ρ.getD i .uD with
 |.lst xs=>if ϒ (xs.length<lim)&&d.pure then .ok (.nx (ρ.set i (.lst (xs++[d])))) else .bad
 |_=>.bad
def yV(i:af)(f:FE)(g:FE):FS:=λρ=>do
 let d <- g ρ
 let k <- f ρ
 match ρ.getD i .uD with
 |.dct kvs=>if ϒ (kvs.length<lim)&&GZ kvs k&&d.pure then .ok (.nx (ρ.set i (.dct (putD kvs k d)))) else .bad
 |_=>.bad
noncomputable def tg1(i:af):D->aa D->Res (aa D):=λd ρ=>.ok (ρ.set i d)
noncomputable def aAu:aa af->aa D->aa D->aa D
 |i::is,d::ds,ρ=>aAu is ds (ρ.set i d)
 |_,_,ρ=>ρ
def tgN(is:aa af):D->aa D->Res (aa D)
 |.tup ds,ρ=>if ϒ (ds.length=is.length) then .ok (aAu is ds ρ) else .bad
 |_,_=>.bad
noncomputable def n8(t:D->aa D->Res (aa D))(body:FS):aa D->aa D->Res Fl
 |[],ρ=>.ok (.nx ρ)
 |x::xs,ρ=>do
  let ρ1 <- t x ρ
  let r <- body ρ1
  match r with
  |.nx ρ'=>n8 t body xs ρ'
  |.ct ρ'=>n8 t body xs ρ'
  |.bk ρ'=>.ok (.nx ρ')
  |.rt d=>.ok (.rt d)
def xO(it:FI)(t:D->aa D->Res (aa D))(body:FS):FS:=λρ=>do
 let xs <- it ρ
 if xs.2 then n8 t body xs.1 ρ else .bad
def RB(i:af)(t:D->aa D->Res (aa D))(body:FS):FS:=λρ=>do
 let d <- gM i ρ
 let xs <- yR d
 n8 t body xs ρ
def fnS(n m:af)(f:FS):aa D->Res D:=λds=>do
 let r <- f (ds++bq (m-n) .uD)
 aU0 r
mutual
theorem aGr(a b:D)(h1:a.plain=ae)(h2:b.plain=ae)(h:eqD a b=ae):a=b:=by
 cases a with
 |int i=>
  cases b with
  |int j=>rw[eq_of_beq (show(i==j)=ae from h)]
  |str _=>exact fx0 h
  |tup _=>exact fx0 h
  |_=>exact fx0 h2
 |str i=>
  cases b with
  |str j=>rw[eq_of_beq (show(i==j)=ae from h)]
  |int _=>exact fx0 h
  |tup _=>exact fx0 h
  |_=>exact fx0 h2
 |tup xs=>
  cases b with
  |tup ys=>rw[aAv xs ys h1 h2 h]
  |int _=>exact fx0 h
  |str _=>exact fx0 h
  |_=>exact fx0 h2
 |_=>exact fx0 h1
theorem aAv:∀(a b:aa D),D.jV a=ae->D.jV b=ae->xN a b=ae->a=b
 |[],[],_,_,_=>rfl
 |x::xs,y::ys,h1,h2,h=>by
  rw[D.jV,aI] at h1 h2;rw[xN,aI] at h;rw[aGr x y h1.1 h2.1 h.1,aAv xs ys h1.2 h2.2 h.2]
 |[],_::_,_,_,h=>by exact fx0 h
 |_::_,[],_,_,h=>by exact fx0 h
end
mutual
theorem U3(a:D)(h:a.plain=ae):eqD a a=ae:=by
 cases a with
 |int i=>exact dy i
 |str i=>exact dy i
 |tup xs=>exact LK xs h
 |_=>exact fx0 h
theorem LK:∀(a:aa D),D.jV a=ae->xN a a=ae
 |[],_=>rfl
 |x::xs,h=>by
  rw[D.jV,aI] at h;rw[xN,U3 x h.1,LK xs h.2];rfl
end
theorem aAw:∀(a b:aa af)(r t:aa ag),(a.map (λ(c:af)=>(c:ag)+1)++[0])++r=(b.map (λ(c:af)=>(c:ag)+1)++[0])++t->a=b/\r=t
 |[],[],r,t,h=>by simpa using h
 |[],c::b,r,t,h=>by
  simp only[io,c6,eP,bd,kT] at h;lia
 |c::a,[],r,t,h=>by
  simp only[io,c6,eP,bd,kT] at h;lia
 |c::a,d::b,r,t,h=>by
  simp only[eP,bd,kT] at h;obtain⟨e1,e2⟩:=aAw a b r t h.2;exact⟨by rw[e1,show c=d by lia],e2⟩
mutual
theorem G6:∀(a b:D)(r t:aa ag),a.plain=ae->b.plain=ae->enc a++r=enc b++t->a=b/\r=t
 |.int i,b,r,t,_,h2,h=>by
  cases b<;>simp only[enc,D.plain,iN,eP,kT,c6] at h h2<;>try omega
  ·exact⟨by rw[h.2.1],h.2.2⟩
 |.str x,b,r,t,_,h2,h=>by
  cases b with
  |str y=>
   simp only[enc,eP,kT,true_and] at h;obtain⟨e1,e2⟩:=aAw _ _ _ _ h;refine⟨?_,e2⟩;cases x;cases y;simp only[] at e1
   congr 2
   exact Array.toList_inj.mp e1
  |_=>simp[enc,D.plain] at h h2
 |.tup xs,b,r,t,h1,h2,h=>by
  cases b with
  |tup ys=>
   rw[D.plain] at h1 h2;simp only[enc,eP,kT,true_and] at h;obtain⟨e1,e2⟩:=U4 xs ys r t h1 h2 h;exact⟨by rw[e1],e2⟩
  |_=>simp[enc,D.plain] at h h2
 |.uD,_,_,_,h,_,_=>by simp[D.plain] at h
 |.scr _,_,_,_,h,_,_=>by simp[D.plain] at h
 |.non,_,_,_,h,_,_=>by simp[D.plain] at h
 |.bl _,_,_,_,h,_,_=>by simp[D.plain] at h
 |.lst _,_,_,_,h,_,_=>by simp[D.plain] at h
 |.dct _,_,_,_,h,_,_=>by simp[D.plain] at h
theorem U4:∀(a b:aa D)(r t:aa ag),D.jV a=ae->D.jV b=ae->QL a++r=QL b++t->a=b/\r=t
 |[],[],r,t,_,_,h=>by simpa[QL] using h
 |[],_::_,r,t,_,_,h=>by simp[QL] at h
 |_::_,[],r,t,_,_,h=>by simp[QL] at h
 |x::xs,y::ys,r,t,h1,h2,h=>by
  rw[D.jV,aI] at h1 h2;simp only[QL,eP,kT,true_and,dt] at h;obtain⟨e1,e2⟩:=G6 x y _ _ h1.1 h2.1 h;obtain⟨e3,e4⟩:=U4 xs ys r t h1.2 h2.2 e2;exact⟨by rw[e1,e3],e4⟩
end
theorem aJ0(h1:a.plain=ae)(h2:b.plain=ae)(h:enc a=enc b):a=b:=(G6 a b [] [] h1 h2 (by rw[h])).1
theorem RC(p:aa ag)(r t:aa ag):p++r<p++t↔r<t:=by
 induction p with
 |nil=>rfl
 |cons x p ih=>rw[eP,eP,gS];simp[ih]
theorem aGs:∀(u v r t:aa ag),(∀z,u++z≠v)->(∀z,v++z≠u)->(u++r<v++t↔u<v)
 |[],v,_,_,h,_=>ay rfl (h v)
 |u,[],_,_,_,h=>ay rfl (h u)
 |x::u,y::v,r,t,h1,h2=>by
  rw[eP,eP,gS,gS];by_cases e:x=y
  ·subst e;have:=aGs u v r t (λz hz=>h1 z (by rw[eP,hz])) (λz hz=>h2 z (by rw[eP,hz]));simp[this]
  ·simp[e]
theorem aAx:∀(a b:aa af),(a.map (λ(c:af)=>(c:ag)+1)++[0]<b.map (λ(c:af)=>(c:ag)+1)++[0])↔a<b
 |[],[]=>by simp
 |[],c::b=>by
  simp only[io,c6,bd,eP,gS,List.nil_lt_cons,iff_true]
  left;lia
 |c::a,[]=>by
  simp only[io,c6,bd,eP,gS,List.not_lt_nil,iff_false,gw,not_and];exact⟨by lia,λh=>by lia⟩
 |c::a,d::b=>by
  simp only[bd,eP,gS,aAx a b];constructor
  ·rintro(h|⟨h,k⟩)
   ·left;lia
   ·right;exact⟨by lia,k⟩
  ·rintro(h|⟨h,k⟩)
   ·left;lia
   ·right;exact⟨by lia,k⟩
mutual
theorem RD:∀(a b:D)(k:aq),a.plain=ae->b.plain=ae->j_ .lt a b=ab k->k=ϒ (enc a<enc b)
 |.int i,.int j,k,_,_,h=>by
  rw[j_] at h;rw[<-cS h];simp[enc,g_.int,gS]
 |.str x,.str y,k,_,_,h=>by
  rw[j_] at h;rw[<-cS h];have:=aAx x.cps.toList y.cps.toList;simp only[enc,g_.str,aAs,gS,true_and];simp[this]
 |.tup xs,.tup ys,k,h1,h2,h=>by
  rw[D.plain] at h1 h2;rw[j_] at h;rw[U5 xs ys k h1 h2 h];simp[enc,gS]
 |.int _,.str _,_,_,_,h=>by exact nx0 h
 |.int _,.tup _,_,_,_,h=>by exact nx0 h
 |.int _,.uD,_,_,_,h=>by exact nx0 h
 |.int _,.scr _,_,_,_,h=>by exact nx0 h
 |.int _,.non,_,_,_,h=>by exact nx0 h
 |.int _,.bl _,_,_,_,h=>by exact nx0 h
 |.int _,.lst _,_,_,_,h=>by exact nx0 h
 |.int _,.dct _,_,_,_,h=>by exact nx0 h
 |.str _,.int _,_,_,_,h=>by exact nx0 h
 |.str _,.tup _,_,_,_,h=>by exact nx0 h
 |.str _,.uD,_,_,_,h=>by exact nx0 h
 |.str _,.scr _,_,_,_,h=>by exact nx0 h
 |.str _,.non,_,_,_,h=>by exact nx0 h
 |.str _,.bl _,_,_,_,h=>by exact nx0 h
 |.str _,.lst _,_,_,_,h=>by exact nx0 h
 |.str _,.dct _,_,_,_,h=>by exact nx0 h
 |.tup _,.int _,_,_,_,h=>by exact nx0 h
 |.tup _,.str _,_,_,_,h=>by exact nx0 h
 |.tup _,.uD,_,_,_,h=>by exact nx0 h
 |.tup _,.scr _,_,_,_,h=>by exact nx0 h
 |.tup _,.non,_,_,_,h=>by exact nx0 h
 |.tup _,.bl _,_,_,_,h=>by exact nx0 h
 |.tup _,.lst _,_,_,_,h=>by exact nx0 h
 |.tup _,.dct _,_,_,_,h=>by exact nx0 h
 |.uD,_,_,h,_,_=>by simp[D.plain] at h
 |.scr _,_,_,h,_,_=>by simp[D.plain] at h
 |.non,_,_,h,_,_=>by simp[D.plain] at h
 |.bl _,_,_,h,_,_=>by simp[D.plain] at h
 |.lst _,_,_,h,_,_=>by simp[D.plain] at h
 |.dct _,_,_,h,_,_=>by simp[D.plain] at h
theorem U5:∀(a b:aa D)(k:aq),D.jV a=ae->D.jV b=ae->jE .lt a b=ab k->k=ϒ (QL a<QL b)
 |[],[],k,_,_,h=>by rw[jE] at h;rw[<-cS h];simp[QL,g_.nat]
 |[],y::ys,k,_,_,h=>by rw[jE] at h;rw[<-cS h];simp[QL,g_.nat,gS]
 |x::xs,[],k,_,_,h=>by rw[jE] at h;rw[<-cS h];simp[QL,g_.nat,gS]
 |x::xs,y::ys,k,h1,h2,h=>by
  rw[D.jV,aI] at h1 h2;rw[jE] at h;simp only[QL,gS,true_and,Int.lt_irrefl,false_or];cases e:eqD x y with
  |true=>
   rw[e,al rfl] at h;have:=aGr x y h1.1 h2.1 e;subst this;rw[U5 xs ys k h1.2 h2.2 h];simp[RC]
  |false=>
   rw[e,au 0x2] at h;rw[RD x y k h1.1 h2.1 h];have hne:x≠y:=λz=>by subst z;rw[U3 x h1.1] at e;cases e
   have:=aGs (enc x) (enc y) (QL xs) (QL ys) (λz hz=>hne (G6 x y z [] h1.1 h2.1 (by simpa using hz)).1) (λz hz=>hne (G6 y x z [] h2.1 h1.1 (by simpa using hz)).1.symm);simp[this]
end
theorem aAy(a b c:D)(h1:leE a b=ae)(h2:leE b c=ae):leE a c=ae:=by
 simp only[leE,nX,s_] at *;exact λh=>by
  rcases(inferInstance:Std.Trichotomous (α:=aa ag) (·<·)) with _
  exact h1 (A6 (A7.mp h2) h)
theorem aAz(a b:D):(leE a b||leE b a)=ae:=by
 simp only[leE,fT,nX,s_];by_cases h:enc b<enc a
 ·right;exact List.lt_asymm h
 ·left;exact h
theorem fY(ds:aa D):(yP ds).Perm ds:=List.mergeSort_perm ds leE
theorem kI(ds:aa D):(yP ds).Pairwise λa b=>leE a b=ae:=List.pairwise_mergeSort (λa b c=>aAy a b c) (λa b=>aAz a b) ds
theorem yW{ds es:aa D}(hp:∀d∈ds,d.plain=ae)(h:ds.Perm es)(h1:ds.Pairwise λa b=>leE a b=ae)(h2:es.Pairwise λa b=>leE a b=ae):ds=es:=by
 refine Dx (λa b ha hb h1 h2=>?_) h1 h2 h;simp only[leE,nX,s_] at h1 h2;exact aJ0 (hp a ha) (hp b (h.mem_iff.mpr hb)) (List.le_antisymm h1 h2)
open L2
class KFrag where
 K:bi
variable [KFrag]
def aEi(H:Hp)(a:ak)(xs:aa V):Prop:=(∃o,H a=ab (.frz o (.lst xs)))\/
 ∃(o:bf)(its:ax aj)(n:af),KFrag.K.lookup a=ab o/\o.cls=.type "list"/\o.dict=ai/\o.data=.seq its n/\its.size<=ba/\Vals xs its.toList
theorem aEi.sq(h:aEi H a xs)(hK:KFrag.K=K):SqL K H a xs:=by
 subst hK;rcases h with ⟨o,h⟩|h
 ·exact .inl (.inr ⟨o,h⟩)
 ·exact .inr h
noncomputable def kD:Key->D
 |.inl i=>.int i
 |.inr x=>.str x
noncomputable def LQ:HO->aq
 |.lst _=>ae
 |.dK _=>ae
 |.dT _=>ae
 |_=>ah
def XO(a C:ak)(dx:ar ak)(h:az):Prop:=∃o,h.get? a=ab o/\o.cls=.ref C/\o.dict=dx/\∃vs,o.data=.fields vs
def XD(dx:ak)(fs:aa (Str×Str))(h:az):Prop:=∃mA,h.Ns1 dx mA/\sg mA (fs.map (·.1))/\∀f,match fs.lookup f with
 |some t=>∃tk,mA f=ab (.str t tk)
 |none=>mA f=ai
def XDs(H:Hp)(fs:aa (Str×Str)):ar ak->Prop
 |none=>fs=[]
 |some d=>H d=ab (.ext (XD d fs))
mutual
inductive Rep(P:ak->Prop)(H:Hp):V->D->Prop
 |non:Rep P H .non .non
 |bl (b:aq):Rep P H (.bl b) (.bl b)
 |int (i:ag):Rep P H (.int i) (.int i)
 |str (x:Str):Rep P H (.str x) (.str x)
 |tup {a:ak} {xs:aa V} {ds:aa D}:H a=ab (.tup xs)->bT P H xs ds->Rep P H (.ref a) (.tup ds)
 |lst {a:ak} {xs:aa V} {ds:aa D}:H a=ab (.lst xs)->P a->bT P H xs ds->Rep P H (.ref a) (.lst ds)
 |cel {a:ak} {xs:aa V} {ds:aa D}:H a=ab (.lst xs)->P a->bT P H xs ds->Rep P H (.ref a) (.cel a ds)
 |frz {a:ak} {xs:aa V} {ds:aa D}:aEi H a xs->bT P H xs ds->Rep P H (.ref a) (.scr ds)
 |dK {a:ak} {kvs:aa (Key×V)} {ds:aa (D×D)}:H a=ab (.dK kvs)->P a->iJ P H kvs ds->(kvs.map (·.1)).Nodup->Rep P H (.ref a) (.dct ds)
 |dT {a:ak} {kvs:aa (aa Key×V)} {ds:aa (D×D)}:H a=ab (.dT kvs)->P a->o6 P H kvs ds->(kvs.map (·.1)).Nodup->Rep P H (.ref a) (.dct ds)
 |fdK {a:ak} {o:bf} {kvs:aa (Key×V)} {ds:aa (D×D)}:H a=ab (.frz o (.dK kvs))->iJ P H kvs ds->(kvs.map (·.1)).Nodup->Rep P H (.ref a) (.fdc ds)
 |fdT {a:ak} {o:bf} {kvs:aa (aa Key×V)} {ds:aa (D×D)}:H a=ab (.frz o (.dT kvs))->o6 P H kvs ds->(kvs.map (·.1)).Nodup->Rep P H (.ref a) (.fdc ds)
 |exc {a C:ak} {dx:ar ak} {c:Str} {fs:aa (Str×Str)}:jh KFrag.K cb c=ab (ab (.ref C))->H a=ab (.ext (XO a C dx))->XDs H fs dx->Rep P H (.ref a) (.exc c fs)
 |ins {a C dx:ak} {c:Str} {vs:aa (Str×V)} {fs:aa (Str×D)}:jh KFrag.K cb c=ab (ab (.ref C))->H a=ab (.ins C dx vs)->n_ P H vs fs->Rep P H (.ref a) (.ins c fs)
 |adr {a:ak}:Rep P H (.ref a) (.adr a)
 |dlK {a:ak} {kvs:aa (Key×V)} {ds:aa (D×D)}:H a=ab (.dK kvs)->P a->iJ P H kvs ds->(kvs.map (·.1)).Nodup->Rep P H (.ref a) (.dcl a ds)
 |dlT {a:ak} {kvs:aa (aa Key×V)} {ds:aa (D×D)}:H a=ab (.dT kvs)->P a->o6 P H kvs ds->(kvs.map (·.1)).Nodup->Rep P H (.ref a) (.dcl a ds)
inductive n_(P:ak->Prop)(H:Hp):aa (Str×V)->aa (Str×D)->Prop
 |nil:n_ P H [] []
 |cons {f:Str} {v:V} {d:D} {r:aa (Str×V)} {ds:aa (Str×D)}:Rep P H v d->n_ P H r ds->n_ P H ((f,v)::r) ((f,d)::ds)
inductive bT(P:ak->Prop)(H:Hp):aa V->aa D->Prop
 |nil:bT P H [] []
 |cons {v:V} {d:D} {vs:aa V} {ds:aa D}:Rep P H v d->bT P H vs ds->bT P H (v::vs) (d::ds)
inductive iJ(P:ak->Prop)(H:Hp):aa (Key×V)->aa (D×D)->Prop
 |nil:iJ P H [] []
 |cons {k:Key} {v:V} {d:D} {r:aa (Key×V)} {ds:aa (D×D)}:Rep P H v d->iJ P H r ds->iJ P H ((k,v)::r) ((kD k,d)::ds)
inductive o6(P:ak->Prop)(H:Hp):aa (aa Key×V)->aa (D×D)->Prop
 |nil:o6 P H [] []
 |cons {k:aa Key} {v:V} {d:D} {r:aa (aa Key×V)} {ds:aa (D×D)}:Rep P H v d->o6 P H r ds->o6 P H ((k,v)::r) ((.tup (k.map kD),d)::ds)
end
def DP(P:ak->Prop)(H H':Hp):Prop:=∀a o,H a=ab o->(P a\/LQ o=ah)->H' a=ab o
theorem DP.same(h:b_ H H'):DP P H H':=λa o e _=>h a o e
theorem XDs.keep{P:ak->Prop}{H H':Hp}(k:DP P H H')(q:XDs H fs dx):XDs H' fs dx:=by
 cases dx with
 |none=>exact q
 |some _=>exact k _ _ q (.inr rfl)
mutual
theorem Rep.gJ{P P':ak->Prop}{H H':Hp}(k:DP P H H')(m:∀a o,H a=ab o->P a->P' a){v:V}{d:D}(q:Rep P H v d):Rep P' H' v d:=by
 cases q with
 |non=>exact .non
 |bl b=>exact .bl b
 |int i=>exact .int i
 |str x=>exact .str x
 |tup e r=>exact .tup (k _ _ e (.inr rfl)) (bT.gJ k m r)
 |lst e p r=>exact .lst (k _ _ e (.inl p)) (m _ _ e p) (bT.gJ k m r)
 |cel e p r=>exact .cel (k _ _ e (.inl p)) (m _ _ e p) (bT.gJ k m r)
 |frz e r=>exact .frz (e.imp (λz=>z.imp λo e=>k _ _ e (.inr rfl)) id) (bT.gJ k m r)
 |dK e p r n=>exact .dK (k _ _ e (.inl p)) (m _ _ e p) (iJ.gJ k m r) n
 |dT e p r n=>exact .dT (k _ _ e (.inl p)) (m _ _ e p) (o6.gJ k m r) n
 |fdK e r n=>exact .fdK (k _ _ e (.inr rfl)) (iJ.gJ k m r) n
 |fdT e r n=>exact .fdT (k _ _ e (.inr rfl)) (o6.gJ k m r) n
 |exc n e q=>exact .exc n (k _ _ e (.inr rfl)) (XDs.keep k q)
 |ins n e r=>exact .ins n (k _ _ e (.inr rfl)) (n_.gJ k m r)
 |adr=>exact .adr
 |dlK e p r n=>exact .dlK (k _ _ e (.inl p)) (m _ _ e p) (iJ.gJ k m r) n
 |dlT e p r n=>exact .dlT (k _ _ e (.inl p)) (m _ _ e p) (o6.gJ k m r) n
theorem bT.gJ{P P':ak->Prop}{H H':Hp}(k:DP P H H')(m:∀a o,H a=ab o->P a->P' a){v:aa V}{d:aa D}(q:bT P H v d):bT P' H' v d:=by
 cases q with
 |nil=>exact .nil
 |cons r t=>exact .cons (Rep.gJ k m r) (bT.gJ k m t)
theorem n_.gJ{P P':ak->Prop}{H H':Hp}(k:DP P H H')(m:∀a o,H a=ab o->P a->P' a){v:aa (Str×V)}{d:aa (Str×D)}(q:n_ P H v d):n_ P' H' v d:=by
 cases q with
 |nil=>exact .nil
 |cons r t=>exact .cons (Rep.gJ k m r) (n_.gJ k m t)
theorem iJ.gJ{P P':ak->Prop}{H H':Hp}(k:DP P H H')(m:∀a o,H a=ab o->P a->P' a){v:aa (Key×V)}{d:aa (D×D)}(q:iJ P H v d):iJ P' H' v d:=by
 cases q with
 |nil=>exact .nil
 |cons r t=>exact .cons (Rep.gJ k m r) (iJ.gJ k m t)
theorem o6.gJ{P P':ak->Prop}{H H':Hp}(k:DP P H H')(m:∀a o,H a=ab o->P a->P' a){v:aa (aa Key×V)}{d:aa (D×D)}(q:o6 P H v d):o6 P' H' v d:=by
 cases q with
 |nil=>exact .nil
 |cons r t=>exact .cons (Rep.gJ k m r) (o6.gJ k m t)
end
theorem Rep.keep(k:DP P H H')(m:∀a,P a->P' a)(q:Rep P H v d):Rep P' H' v d:=q.gJ k λa _ _=>m a
theorem bT.keep(k:DP P H H')(m:∀a,P a->P' a)(q:bT P H v d):bT P' H' v d:=q.gJ k λa _ _=>m a
theorem n_.keep(k:DP P H H')(m:∀a,P a->P' a)(q:n_ P H v d):n_ P' H' v d:=q.gJ k λa _ _=>m a
theorem iJ.keep(k:DP P H H')(m:∀a,P a->P' a)(q:iJ P H v d):iJ P' H' v d:=q.gJ k λa _ _=>m a
theorem o6.keep(k:DP P H H')(m:∀a,P a->P' a)(q:o6 P H v d):o6 P' H' v d:=q.gJ k λa _ _=>m a
theorem Rep.mono(r:Rep P H v d)(m:∀a,P a->P' a):Rep P' H v d:=r.keep (λ_ _ e _=>e) m
theorem bT.mono(r:bT P H v d)(m:∀a,P a->P' a):bT P' H v d:=r.keep (λ_ _ e _=>e) m
theorem Rep.same(r:Rep P H v d)(s:b_ H H'):Rep P H' v d:=r.keep (.same s) λ_ h=>h
theorem bT.same(r:bT P H v d)(s:b_ H H'):bT P H' v d:=r.keep (.same s) λ_ h=>h
noncomputable def RG:HO->aq
 |.tup _=>ah
 |.frz _ (.lst _)=>ah
 |_=>ae
mutual
theorem Rep.vK{P P':ak->Prop}{H H':Hp}(k:∀a o,H a=ab o->RG o=ah->H' a=ab o){v:V}{d:D}(q:Rep P H v d)(h:d.pure=ae):Rep P' H' v d:=by
 cases q with
 |non=>exact .non
 |bl b=>exact .bl b
 |int i=>exact .int i
 |str x=>exact .str x
 |tup e r=>exact .tup (k _ _ e rfl) (bT.vK k r h)
 |frz e r=>exact .frz (e.imp (λz=>z.imp λo e=>k _ _ e rfl) id) (bT.vK k r h)
 |_=>exact fx0 h
theorem bT.vK{P P':ak->Prop}{H H':Hp}(k:∀a o,H a=ab o->RG o=ah->H' a=ab o){v:aa V}{d:aa D}(q:bT P H v d)(h:D.aV d=ae):bT P' H' v d:=by
 cases q with
 |nil=>exact .nil
 |cons r t=>
  rw[D.aV,aI] at h;exact .cons (Rep.vK k r h.1) (bT.vK k t h.2)
end
theorem Rep.bM(r:Rep P H v d)(h:d.pure=ae):Rep P' H v d:=r.vK (λ_ _ e _=>e) h
theorem bT.bM(r:bT P H v d)(h:D.aV d=ae):bT P' H v d:=r.vK (λ_ _ e _=>e) h
theorem bT.length:∀{v:aa V}{d:aa D},bT P H v d->v.length=d.length
 |_,_,.nil=>rfl
 |_,_,.cons _ t=>by rw[aS,aS,bT.length t]
theorem bT.get:∀{vs:aa V}{ds:aa D}{i:af}{d:D},bT P H vs ds->ds[i]?=ab d->∃v,vs[i]?=ab v/\Rep P H v d
 |_,_,_,_,.nil,e=>by simp at e
 |_,_,0,_,.cons r _,e=>by simp at e;subst e;exact⟨_,rfl,r⟩
 |_,_,i+1,d,.cons _ t,e=>by
  obtain⟨v,h1,h2⟩:=bT.get t (by simpa using e);exact⟨v,by simpa using h1,h2⟩
theorem bT.at:∀{vs:aa V}{ds:aa D}{i:af}{v:V},bT P H vs ds->vs[i]?=ab v->∃d,ds[i]?=ab d/\Rep P H v d
 |_,_,_,_,.nil,e=>by simp at e
 |_,_,0,_,.cons r _,e=>by simp at e;subst e;exact⟨_,rfl,r⟩
 |_,_,i+1,d,.cons _ t,e=>by
  obtain⟨v,h1,h2⟩:=bT.at t (by simpa using e);exact⟨v,by simpa using h1,h2⟩
theorem bT.append:∀{vs ws:aa V}{ds es:aa D},bT P H vs ds->bT P H ws es->bT P H (vs++ws) (ds++es)
 |_,_,_,_,.nil,s=>s
 |_,_,_,_,.cons r t,s=>.cons r (bT.append t s)
theorem bT.take:∀{vs:aa V}{ds:aa D}(n:af),bT P H vs ds->bT P H (vs.take n) (ds.take n)
 |_,_,0,_=>.nil
 |_,_,_+1,.nil=>.nil
 |_,_,n+1,.cons r t=>.cons r (bT.take n t)
theorem bT.drop:∀{vs:aa V}{ds:aa D}(n:af),bT P H vs ds->bT P H (vs.drop n) (ds.drop n)
 |_,_,0,r=>r
 |_,_,_+1,.nil=>.nil
 |_,_,n+1,.cons _ t=>bT.drop n t
theorem bT.snoc(t:bT P H vs ds)(r:Rep P H v d):bT P H (vs++[v]) (ds++[d]):=t.append (.cons r .nil)
theorem Rep.uD:¬Rep P H v .uD:=λh=>by cases h
abbrev All:ak->Prop:=λ_=>gz
abbrev New(H:Hp):ak->Prop:=λa=>H a=ai
theorem Rep.all(r:Rep P H v d):Rep All H v d:=r.mono λ_ _=>trivial
theorem bT.all(r:bT P H v d):bT All H v d:=r.mono λ_ _=>trivial
theorem b_.new(s:b_ H H'):∀a,New H' a->New H a:=λa h=>s.free h
theorem b_.upd(h:H a=ai):b_ H (upd H a o):=λb u e=>by rw[bG (dI e h)];exact e
def ER(H:Hp)(σ:St)(ρ:aa D):Prop:=∀i,ρ.getD i .uD≠.uD->∃v,σ[i]?=ab (ab v)/\Rep All H v (ρ.getD i .uD)
theorem ER.same(e:ER H σ ρ)(s:b_ H H'):ER H' σ ρ:=λi h=>by
 obtain⟨v,h1,h2⟩:=e i h;exact⟨v,h1,h2.same s⟩
theorem PE.imp(h:PE X e t)(i:∀σ H Q,t' σ H Q->t σ H Q):PE X e t':=λΨ s σ H Q I q=>h Ψ s σ H Q I (i σ H Q q)
theorem PT.imp(h:PT X e t)(i:∀σ H Q,t' σ H Q->t σ H Q):PT X e t':=λΨ s σ H Q I q=>h Ψ s σ H Q I (i σ H Q q)
theorem PA.imp(h:PA X e t)(i:∀σ H Q,t' σ H Q->t σ H Q):PA X e t':=λpos Ψ s σ H Q I q=>h pos Ψ s σ H Q I (i σ H Q q)
theorem Rep.dom(r:Rep P H v d):Rep (λa=>P a/\H a≠ai) H v d:=r.gJ (λ_ _ e _=>e) λa o e p=>⟨p,by rw[e];simp⟩
theorem Rep.aEj(r:Rep P H v d)(k:DP P H H')(m:∀a o,H a=ab o->P a->P' a):Rep P' H' v d:=r.gJ k m
def aU1(P:ak->Prop)(H:Hp)(v:V):D->Prop
 |.non=>v=.non
 |.bl b=>v=.bl b
 |.int i=>v=.int i
 |.str x=>v=.str x
 |.tup ds=>∃a xs,v=.ref a/\H a=ab (.tup xs)/\bT P H xs ds
 |.lst ds=>∃a xs,v=.ref a/\H a=ab (.lst xs)/\P a/\bT P H xs ds
 |.cel b ds=>∃xs,v=.ref b/\H b=ab (.lst xs)/\P b/\bT P H xs ds
 |.scr ds=>∃a xs,v=.ref a/\aEi H a xs/\bT P H xs ds
 |.ins c fs=>∃a C dx vs,v=.ref a/\jh KFrag.K cb c=ab (ab (.ref C))/\H a=ab (.ins C dx vs)/\n_ P H vs fs
 |.exc c fs=>∃a C dx,v=.ref a/\jh KFrag.K cb c=ab (ab (.ref C))/\H a=ab (.ext (XO a C dx))/\XDs H fs dx
 |.uD=>ck
 |.adr b=>v=.ref b
 |.dcl b ds=>v=.ref b/\Rep P H v (.dct ds)
 |_=>gz
theorem Rep.inv(r:Rep P H v d):aU1 P H v d:=by
 cases r with
 |non=>rfl
 |bl=>rfl
 |int=>rfl
 |str=>rfl
 |tup e r=>exact⟨_,_,rfl,e,r⟩
 |lst e p r=>exact⟨_,_,rfl,e,p,r⟩
 |cel e p r=>exact⟨_,rfl,e,p,r⟩
 |frz e r=>exact⟨_,_,rfl,e,r⟩
 |ins n e r=>exact⟨_,_,_,_,rfl,n,e,r⟩
 |exc n e r=>exact⟨_,_,_,rfl,n,e,r⟩
 |adr=>rfl
 |dlK e p r n=>exact⟨rfl,.dK e p r n⟩
 |dlT e p r n=>exact⟨rfl,.dT e p r n⟩
 |_=>trivial
end Mi
open Mi.D renaming str->δ,int->ε,aV->θ,pure->μ,tup->ξ,eO->ο,lst->π,bl->υ,plain->χ,dct->ψ,adr->ω
open Mi.Res renaming aW->τ,ok->ι,ofOpt->ν
namespace L2
open PySem PySem.Spec PyProof.Rows
noncomputable def fQ(own:aa Str)(x:Str):Str:=if own.contains x then x++(" " : Str) else x
def clF(env:dg):aa (Str×iF)->aa (Str×ak)->aa (Str×ak)
 |[],acc=>acc
 | (n,k)::r,acc=>clF env r (if k==.free then (n,(env.cells.lookup n).getD 0)::acc else acc)
theorem vL:∀(names:aa (Str×iF))(acc:aa (Str×ak)),(∀y∈names,y.2=.free->∃c,env.cells.lookup y.1=ab c)->
  (forIn names acc λx cs=>(match x with
   | (name,kind)=>if (kind==.free)=ae then cellOf env name >>= λc=>pure (A8 ((name,c)::cs)) else pure (A8 cs):ib (ForInStep (aa (Str×ak)))))=(pure (clF env names acc):ib _)
 |[],acc,_=>by rw[k6];rfl
 | (n,k)::r,acc,h=>by
  rw[n4];by_cases hk:(k==.free)=ae
  ·have hk':k=.free:=by simpa using hk
   obtain⟨c,e⟩:=h (n,k) (bj ..) hk';have e':cellOf env n=pure c:=by
    unfold cellOf;have e2:env.cells.lookup n=ab c:=e;rw[e2]
   dsimp only;rw[al hk,e',pure_bind,pure_bind];dsimp only;rw[vL r _ λy hy=>h y (bp _ hy)];have e2:env.cells.lookup n=ab c:=e;simp only[clF,hk,eI,e2,xS]
  ·dsimp only;rw[au hk,pure_bind];dsimp only;rw[vL r _ λy hy=>h y (bp _ hy)];simp only[clF,hk,iN,gu]
theorem YJ(h:∀y∈scope.names,y.2=.free->∃c,env.cells.lookup y.1=ab c):closureFor scope env=pure (clF env scope.names []):=by
 unfold closureFor;have:=vL scope.names [] h;simp only[bind_pure] at *;exact this
theorem RJ:∀{names:aa (Str×iF)}{acc:aa (Str×ak)}{x:Str}{c:ak},(∀y∈names,y.2=.free->∃c,env.cells.lookup y.1=ab c)->(∀x c,acc.lookup x=ab c->env.cells.lookup x=ab c)->
  (clF env names acc).lookup x=ab c->env.cells.lookup x=ab c
 |[],acc,x,c,_,h,e=>h x c e
 | (n,k)::r,acc,x,c,q,h,e=>by
  unfold clF at e;refine RJ (λy hy=>q y (bp _ hy)) (λy d hy=>?_) e;by_cases hk:(k==.free)=ae
  ·rw[al hk,iq] at hy;obtain⟨c',e'⟩:=q (n,k) (bj ..) (by simpa using hk);have e2:env.cells.lookup n=ab c':=e';cases hyn:y==n with
   |true=>
    rw[hyn] at hy;have:y=n:=by simpa using hyn
    subst this;rw[e2] at hy;simp only[xS] at hy;rw[e2];exact hy
   |false=>rw[hyn] at hy;exact h y d hy
  ·rw[au hk] at hy;exact h y d hy
theorem aB0:∀{names:aa (Str×iF)}{acc:aa (Str×ak)}{x:Str},(∃c,acc.lookup x=ab c)->∃c,(clF env names acc).lookup x=ab c
 |[],_,_,h=>h
 | (n,k)::r,acc,x,⟨c,h⟩=>by
  unfold clF;refine aB0 ?_;by_cases hk:(k==.free)=ae
  ·rw[al hk,iq];cases x==n with
   |true=>exact⟨_,rfl⟩
   |false=>exact⟨c,h⟩
  ·rw[au hk];exact⟨c,h⟩
theorem RK:∀{names:aa (Str×iF)}{acc:aa (Str×ak)}{x:Str},(x,kc)∈names->∃c,(clF env names acc).lookup x=ab c
 | (n,k)::r,acc,x,h=>by
  unfold clF;rcases bu.mp h with e|h
  ·cases e;refine aB0 ?_;rw[al 0x4,iq];simp
  ·exact RK h
structure cH(N:aa Str)(sc scope:fR)(own:aa Str):Prop where
 kind:scope.kind=.function
 nocell:∀y∈scope.names,y.2≠.cell
 names:∀y∈scope.names,y.2=.local->scope.names.lookup y.1=ab .local
 free:∀y∈scope.names,y.2=.free->sc.names.lookup y.1=ab .cell\/sc.names.lookup y.1=ab .free
 ownl:∀x∈own,scope.names.lookup x=ab .local
 hid:∀x∈own,scope.names.lookup (x++(" " : Str))=ai
 loc:∀y∈scope.names,y.2=.local->y.1∈own\/y.1∉N
structure c7(X X':Cx)(scope:fR)(own:aa Str):Prop where
 prog:X'.prog=X.prog
 w:X'.w=X.w
 K:X'.K=X.K
 mg:X'.mg=X.mg
 base:X'.base=X.base
 A:X'.A=X.A
 N:X'.N=X.N.map (fQ own)++own
 scope:X'.env.scope=iO scope X.env
 calm:X'.calm=X.calm
 xe:X'.xe=λ_ _=>ck
def U6(X:Cx)(scope:fR)(cl:aa (Str×ak))(C:ak)(own:aa Str)(s₂:ao)(H₂:Hp)(fp:aa ak):Cx:=
 {X with N:=X.N.map (fQ own)++own,s₀:=s₂,H₀:=H₂,env:=compEnvC scope cl C X.env,outer:=X.stack,stack:=X.stack,ex:=fp,fn:=λ_=>ah,pn:=[],xe:=λ_ _=>ck}
theorem aB1:c7 X (U6 X scope cl C own s₂ H₂ fp) scope own:=
 ⟨rfl,rfl,rfl,rfl,rfl,rfl,rfl,rfl,rfl,rfl⟩
def Ext(σ σ2:St):Prop:=σ2.length=σ.length/\∀(i:af) v,σ[i]?=ab (ab v)->σ2[i]?=ab (ab v)
def RL(wi:TI)(g:TG)(tc:TT)(te:TE)(m:af):TE:=λσ H Q=>wi σ H λJ H1=>∀p,H1 p=ai->
 ∃W:af->af->aa V->Hp->Prop,(∃n,W 0 n [] (upd H1 p (.lst [])))/\∀i n ys H,W i n ys H->H p=ab (.lst ys)/\((J.stop i H/\Q (.ref p) H)\/(J.go i H/\ys.length<ba/\
  ∀x H2,J.yld i H x H2->g x (σ++bq m ai) H2 λσ2 H3=>Ext (σ++bq m ai) σ2/\tc σ2 H3 λb H4=>if b=ae then te σ2 H4 λy H5=>H5 p=ab (.lst ys)/\∃n',n'<n/\W (i+1) n' (ys++[y]) (upd H5 p (.lst (ys++[y])))
   else ∃n',n'<n/\W (i+1) n' ys H4))
section
theorem Inv.comp(I:Inv X Ψ σ H2 s2)(S:cH X.N X.env.scope scope own)(hf:∀b∈fp,Z1 X Ψ H2 b)
 (hfx:∀b∈fp,b<s2.heap.objs.size)(hns:h1.Ns (s2.heap.objs.size+1) (λ_=>ai))
 (hk:∀b o,s2.heap.get? b=ab o->h1.get? b=ab o)(hacc:h1.get? s2.heap.objs.size=ab {cls:=.type "list",data:=.seq #[]}) :
  Inv (U6 X scope (clF X.env scope.names []) (s2.heap.objs.size+1) own s2 H2 fp) [] (σ++bq own.length ai) (upd H2 s2.heap.objs.size (.lst [])) {s2 with heap:=h1,toks:=t1}:=by
 have hD:H2 s2.heap.objs.size=ai:=I.hok.fresh (aT _);have hC:H2 (s2.heap.objs.size+1)=ai:=I.hok.fresh (gp _);have cells:∀y∈scope.names,y.2=.free->∃c,X.env.cells.lookup y.1=ab c:=λy hy hk=>I.ok.has y.1 (S.free y hy hk)
 have sub:∀x c,(clF X.env scope.names []).lookup x=ab c->X.env.cells.lookup x=ab c:=λx c e=>RJ cells (λ_ _ h=>by simp at h) e
 have relk:∀x,(iO scope X.env).names.lookup x=ab .cell\/(iO scope X.env).names.lookup x=ab .free->(x,kc)∈scope.names:=by
  intro x hx;have go:∀(l:aa (Str×iF)),(∀y∈l,y.2≠.cell)->((l.map λ(n,k)=>if (k==kc&&X.env.scope.kind==.function&&X.env.kindOf n==ab .cell) then (n,ya) else (n,k)).lookup x=ab .cell\/(l.map λ(n,k)=>if (k==kc&&X.env.scope.kind==.function&&X.env.kindOf n==ab .cell) then (n,ya) else (n,k)).lookup x=ab .free)->(x,kc)∈l:=by
   intro l;induction l with
   |nil=>intro _ h;rcases h with h|h<;>simp at h
   |cons p l ih=>
    obtain⟨n,k⟩:=p;intro nc h;rw[bd] at h;dsimp only at h;by_cases hc:(k==kc&&X.env.scope.kind==.function&&X.env.kindOf n==ab .cell)=ae
    ·rw[al hc] at h;rw[iq] at h;cases e:x==n with
     |true=>
      have:x=n:=by simpa using e
      subst this;simp only[aI] at hc;have:k=.free:=by simpa using hc.1.1
      subst this;exact bj ..
     |false=>
      rw[e] at h;exact bp _ (ih (λy hy=>nc y (bp _ hy)) h)
    ·rw[au hc] at h;rw[iq] at h;cases e:x==n with
     |true=>
      have:x=n:=by simpa using e
      subst this;rw[e] at h;dsimp only at h;rcases h with h|h
      ·exact ay (cS h) (nc (x,k) (bj ..))
      ·have:=cS h;subst this;exact bj ..
     |false=>
      rw[e] at h;exact bp _ (ih (λy hy=>nc y (bp _ hy)) h)
  exact go scope.names S.nocell hx
 have hne:s2.heap.objs.size≠s2.heap.objs.size+1:=cn (iE _);have hlt:∀b o,s2.heap.get? b=ab o->b<s2.heap.objs.size:=λb o e=>bz e
 have hstk:∀b∈frs X.stack,b<s2.heap.objs.size:=λb hb=>by
  obtain⟨_,o,ho,_⟩:=I.stack.mem hb;exact hlt b o ho
 refine⟨⟨I.mod,?_,I.ok.glob,I.ok.blt,gp _,λx y c e1 e2=>I.ok.inj x y c (sub x c e1) (sub y c e2),λx hx=>?_,λ_ _ h=>(by cases h),I.ok.hd,I.ok.frames,.inl rfl,λb hb=>?_,λb o e=>I.bs b o e,?_,λb o e hb=>?_,λb hb hz=>?_,I.stack,I.Z9⟩,
  rfl,I.bare,Un.laid hk (aT _) hD,?_,λx c e=>?_,?_,λx c e=>?_,λp hp=>(by simp[U6] at hp),?_,?_⟩
 ·exact S.kind
 ·have hx':(iO scope X.env).names.lookup x=ab .cell\/(iO scope X.env).names.lookup x=ab .free:=hx;exact RK (relk x hx')
 ·refine⟨cn (g9 (hfx b hb)),λx c e z=>?_⟩;exact(hf b hb).2.2.2.2.1 x c (sub x c e) z
 ·exact c9 I.ok.bsz I.sz
 ·rcases(hf b hb).2.2.2.1 with z|z
  ·exact I.ok.noex b o e z
  ·exact ay (cK (bz e) (c9 I.ok.bsz z)) (gL _)
 ·rcases bu.mp (I.T7 b hz) with z'|z'
  ·exact(hf b hb).2.1 z'
  ·exact(hf b hb).2.2.1 z'
 ·refine⟨_,hns,λi x v e1 e2 e3=>?_⟩;have hi:i<σ.length:=by
   rcases ke i σ.length with h|h
   ·exact h
   ·rw[gm h,jc] at e2;split at e2<;>cases e2
  rw[gq hi] at e2;have hiN:i<X.N.length:=by rw[<-I.len];exact hi
  have e1':(X.N.map (fQ own))[i]?=ab x:=by
   have:(X.N.map (fQ own)++own)[i]?=ab x:=e1;rwa [gq (by rw[aw];exact hiN)] at this
  rw[gs] at e1';obtain⟨y,hy,ey⟩:=ka.mp e1';have hyN:y∈X.N:=nK hy;have e3':(iO scope X.env).names.lookup x=ab .local\/(iO scope X.env).names.lookup x=ab .cell\/(iO scope X.env).names.lookup x=ab .free:=e3;have keys:∀z k,(iO scope X.env).names.lookup z=ab k->∃k',scope.names.lookup z=ab k'/\(k=.local->k'=.local):=by
   intro z k;show(scope.names.map λ(n,k)=>if (k==kc&&X.env.scope.kind==.function&&X.env.kindOf n==ab .cell) then (n,ya) else (n,k)).lookup z=ab k->_;generalize scope.names=l;induction l with
   |nil=>intro h;simp at h
   |cons p l ih=>
    obtain⟨n,k0⟩:=p;intro h;rw[bd] at h;dsimp only at h;by_cases hc:(k0==kc&&X.env.scope.kind==.function&&X.env.kindOf n==ab .cell)=ae
    ·rw[al hc,iq] at h;rw[iq];cases e:z==n with
     |true=>
      rw[e] at h;dsimp only at h;cases h;exact⟨k0,rfl,λq=>by cases q⟩
     |false=>rw[e] at h;exact ih h
    ·rw[au hc,iq] at h;rw[iq];cases e:z==n with
     |true=>
      rw[e] at h;dsimp only at h;cases h;exact⟨_,rfl,λq=>q⟩
     |false=>rw[e] at h;exact ih h
  by_cases hown:own.contains y=ae
  ·exfalso;have ex:x=y++(" " : Str):=by rw[<-ey];unfold fQ;rw[al hown]
   have hn:=S.hid y (by simpa using hown);rw[<-ex] at hn;rcases e3' with q|q|q
   all_goals
    obtain⟨k',hk',_⟩:=keys _ _ q;rw[hn] at hk';cases hk'
  ·have ex:x=y:=by rw[<-ey];unfold fQ;rw[au hown]
   subst ex;rcases e3' with q|q
   ·exfalso;obtain⟨k',hk',hl⟩:=keys _ _ q;have:=hl rfl;subst this;rcases S.loc _ (mh hk') rfl with z|z
    ·exact hown (by simpa using z)
    ·exact z hyN
   ·have hfr:=relk x q;have hv:=S.free _ hfr rfl;obtain⟨m,_,hl⟩:=I.loc;obtain⟨u,ru,lk⟩:=hl i x v hy e2 (.inr hv);refine⟨u,ru,.inr ⟨q,?_⟩⟩;rcases lk with ⟨z,_⟩|⟨_,c,hc,o,ho,hd⟩
    ·have z':X.env.scope.names.lookup x=ab .local:=z;rcases hv with hv|hv<;>(rw[z'] at hv;cases hv)
    ·obtain⟨c',hc'⟩:=RK hfr;have:=sub x c' hc';rw[hc] at this;cases this;exact⟨c,hc',o,hk c o ho,hd⟩
 ·obtain⟨v,z⟩:=I.cell x c (sub x c e);obtain⟨o,ho,hd⟩:=z;exact⟨v,o,hk c o ho,hd⟩
 ·show upd H2 _ _ (s2.heap.objs.size+1)=ai;rw[bG (cq hne)];exact hC
 ·obtain⟨v,o,ho,_⟩:=I.cell x c (sub x c e);show upd H2 _ _ c=ai;rw[bG (cn (hlt c o ho))];exact I.freeC x c (sub x c e)
 ·exact I.hok.laid hk (aT _) ⟨cz _,[],0,.nil,hacc⟩
 ·show(σ++bq own.length ai).length=(X.N.map (fQ own)++own).length;rw[bg,bg,nL,aw,I.len]
end
section
variable {X:Cx} {scope:fR} {own:aa Str}
def cI(X':Cx)(σ:St)(fp:aa ak)(tn:af->az->Prop)(W:af->af->aa V->Hp->Prop)(n:af)(s:ao):Prop:=∃i ys H',Inv X' [] σ H' s/\tn i s.heap/\(∀b∈fp,H' b=ai)/\W i n ys H'
abbrev cE(X X':Cx)(use:ar (aj->ib Unit))(QQ:aj->ao->Prop)(p:ak):aj->ao->Prop:=notedBy (av X.prog X.w) X.A X'.env λe s'=>mv (av X.prog X.w) X.A X.xe use QQ (.ref p) (p+1) (.error e) s'
def cB(X':Cx)(σ:St)(fp:aa ak)(tn:af->az->Prop)(W:af->af->aa V->Hp->Prop)(n i:af)(h:az):Prop:=∀{ys':aa V}{H9:Hp}{s9:ao}{σ9:St},Ext σ σ9->Inv X' ([]++yG fp h) σ9 H9 s9->(∃n',n'<n/\W (i+1) n' ys' H9)->∃m,m<n/\cI X' σ fp tn W m s9
theorem RM(S:cH X.N X.env.scope scope own)(hcalm:X.calm=ae)(hi:PI X tg iter wi)
 (hg:∀X',c7 X X' scope own->PG X' tg g)(hc:(ifs=[]/\tc=λ_ H Q=>Q ae H)\/∃c,ifs=[c]/\∀X',c7 X X' scope own->PT X' c tc)(he:∀X',c7 X X' scope own->PE X' elt te)
 (hs:∀x,eB iter X.env x=pure x)(I:Inv X Ψ σ H s)(h:RL wi g tc te own.length σ H R)
 (last:∀{p C:ak} {H5:Hp} {s6:ao} {m6:Str->ar aj},Inv X Ψ σ H5 s6->Z1 X Ψ H5 C->s6.heap.Ns C m6->R (.ref p) H5->mv (av X.prog X.w) X.A X.xe use QQ (.ref p) C (.ok .next) s6) :
  ϑ (av X.prog X.w) X.A (A9 (.ListComp elt [⟨tg,iter,ifs,0⟩] scope pos) scope X.env ps (yb []) ah (bc iter X.env) use) QQ X.xe s:=by
 have cells:∀y∈scope.names,y.2=.free->∃c,X.env.cells.lookup y.1=ab c:=λy hy hk=>I.ok.has y.1 (S.free y hy hk)
 refine wpAny_comprehension_free rfl hs (YJ cells) S.kind S.names (thn (hi Ψ s σ H _ I h) λxv s1 h1=>thn h1 λitv s2 h2=>?_);obtain⟨it,fp,tn,J,H2,e,I2,T,st2,f2,hW⟩:=h2;subst e;have hD:H2 s2.heap.objs.size=ai:=I2.hok.fresh (aT _);obtain⟨W,⟨n0,w0⟩,turn⟩:=hW _ hD;have hfx:∀b∈fp,b<s2.heap.objs.size:=λb hb=>by
  obtain⟨o,ho,_⟩:=T.obj 0 _ st2 b hb;exact bz ho
 refine jz (wpAny_newFunctionEnv S.nocell (by intro y hy;simp at hy) (λh₁ hns₁ hsb₁=>?_) S.kind);dsimp only at hns₁ hsb₁ ⊢;have hC:(s2.heap.push {cls:=.type "list",dict:=ai,data:=.seq ([]:aa aj).toArray}).objs.size=s2.heap.objs.size+1:=dE ..;have hne:s2.heap.objs.size≠s2.heap.objs.size+1:=cn (iE _);rw[hC] at hns₁ hsb₁ ⊢;have old:∀b o,s2.heap.get? b=ab o->h₁.get? b=ab o:=λb o e=>hsb₁.extBut b o (cn (g9 (bz e))) (bw _ (bw _ e))
 have hacc:h₁.get? s2.heap.objs.size=ab {cls:=.type "list",data:=.seq #[]}:=hsb₁.extBut _ _ hne (bw _ (cx _ rfl));have I4:=Inv.comp (t1:=s2.toks+([]:aa (Str×aj)).length) I2 S f2 hfx hns₁ old hacc;generalize hX':U6 X scope (clF X.env scope.names []) (s2.heap.objs.size+1) own s2 H2 fp=X' at I4;have cc:c7 X X' scope own:=by rw[<-hX'];exact aB1
 have eenv:X'.env=compEnvC scope (clF X.env scope.names []) (s2.heap.objs.size+1) X.env:=by rw[<-hX'];rfl
 have eA:X'.A=X.A:=cc.A;have ep:X'.prog=X.prog:=cc.prog;have ew:X'.w=X.w:=cc.w;have efs:X'.fs=frs X.stack:=by rw[<-hX'];rfl
 have eex:X'.ex=fp:=by rw[<-hX'];rfl
 have es0:X'.s₀=s2:=by rw[<-hX'];rfl
 have eH0:X'.H₀=H2:=by rw[<-hX'];rfl
 have epn:X'.pn=[]:=by rw[<-hX'];rfl
 have eK:X'.K=X.K:=cc.K;have exe:=cc.xe;have ecalm:X'.calm=ae:=cc.calm.trans hcalm
 -- the iterator's records within the block
 have fpok:∀{H':Hp},(∀b∈fp,H' b=ai)->∀b∈fp,Z1 X' [] H' b:=λ{H'} hn b hb=>by
  obtain⟨_,f1,f3,_,f5,_⟩:=f2 b hb;refine⟨hn b hb,?_,?_,.inl (by rw[eex];exact hb),λx c e=>?_,λp hp=>by rw[epn] at hp;simp at hp⟩
  ·rw[eenv];exact cn (g9 (hfx b hb))
  ·rw[efs];intro z;rcases bu.mp (I2.T7 b z) with z|z
   ·exact f1 z
   ·exact f3 z
  ·rw[eenv] at e;exact f5 x c (RJ cells (λ_ _ h=>by simp at h) e)
 have st4:tn 0 h₁:=T.keep _ _ _ st2 λb _ o e=>old b o e
 have fr4:∀b∈fp,(upd H2 s2.heap.objs.size (.lst [])) b=ai:=λb hb=>by rw[bG (cn (hfx b hb))];exact(f2 b hb).1
 have loop:∀s4:ao,s4={s2 with heap:=h₁,toks:=s2.toks+([]:aa (Str×aj)).length}->
   codeAny (av X.prog X.w) X.A (.compLoop (.ListComp elt [⟨tg,iter,ifs,0⟩] scope pos) 0 (.ref it) (.ref s2.heap.objs.size) X'.env)
    (mv (av X.prog X.w) X.A X.xe use QQ (.ref s2.heap.objs.size) (s2.heap.objs.size+1)) s4:=by
  rintro s4 rfl;have put:∀(n i:af)(ys:aa V)(s7:ao)(σ8:St)(H8:Hp)(s8:ao),cB X' (σ++bq own.length ai) fp tn W n i s7.heap->Inv X' ([]++yG fp s7.heap) σ8 H8 s8->Ext (σ++bq own.length ai) σ8->ys.length<ba->(te σ8 H8 λy H5=>H5 s2.heap.objs.size=ab (.lst ys)/\∃n',n'<n/\W (i+1) n' (ys++[y]) (upd H5 s2.heap.objs.size (.lst (ys++[y]))))->
    ϑ (av X.prog X.w) X.A (bc elt X'.env) (λx s₄=>ϑ (av X.prog X.w) X.A (call (.builtin "list.append") [.ref s2.heap.objs.size,x]) (λ_ s₅=>∃m,m<n/\cI X' (σ++bq own.length ai) fp tn W m s₅) (cE X X' use QQ s2.heap.objs.size) s₄) (cE X X' use QQ s2.heap.objs.size) s8:=by
   intro n i ys s7 σ8 H8 s8 back I8 ext8 hlen q8;have he':=he X' cc _ s8 _ H8 _ I8 q8;rw[ep,ew,eA,exe] at he';refine gk he' (λyv s10 ⟨y,H10,I10,r10,p10,q10⟩=>?_) λ_ _ z=>eW z
   have hm:=uJ _ s10 σ8 H10 (.ref s2.heap.objs.size) [y] (.ref s2.heap.objs.size) [yv] (λ_ H11=>∃n',n'<n/\W (i+1) n' (ys++[y]) H11) I10 rfl (.cons r10 .nil) ⟨s2.heap.objs.size,ys,y,rfl,rfl,p10,hlen,q10⟩;rw[ep,ew,eA,exe] at hm;exact gk hm (λ_ s11 ⟨_,H11,I11,_,q11⟩=>back ext8 I11 q11) λ_ _ z=>eW z
  have key:∀(PO:af->ao->Prop),(∀(n i:af)(ys:aa V)(s7:ao)(σ8:St)(H8:Hp)(s8:ao),cB X' (σ++bq own.length ai) fp tn W n i s7.heap->Inv X' ([]++yG fp s7.heap) σ8 H8 s8->Ext (σ++bq own.length ai) σ8->ys.length<ba->(tc σ8 H8 λb H4=>if b=ae then te σ8 H4 λy H5=>H5 s2.heap.objs.size=ab (.lst ys)/\∃n',n'<n/\W (i+1) n' (ys++[y]) (upd H5 s2.heap.objs.size (.lst (ys++[y]))) else ∃n',n'<n/\W (i+1) n' ys H4)->PO n s8)->
    ∀n s5,(cI X' (σ++bq own.length ai) fp tn W n s5)->ϑ (av X.prog X.w) X.A (gN (.ref it)) (λr s₁=>match r with
     |none=>mv (av X.prog X.w) X.A X.xe use QQ (.ref s2.heap.objs.size) (s2.heap.objs.size+1) (.ok .next) s₁
     |some v=>ϑ (av X.prog X.w) X.A (nE tg (.ref it) v) (λ_ s₀=>ϑ (av X.prog X.w) X.A (nv tg X'.env v) (λ_ s₂=>PO n s₂) (cE X X' use QQ s2.heap.objs.size) s₀) (cE X X' use QQ s2.heap.objs.size) s₁) (cE X X' use QQ s2.heap.objs.size) s5:=by
   intro PO hPO;rintro n s5 ⟨i,ys,H5,I5,st5,fr5,w5⟩;obtain⟨hacc5,tr⟩:=turn i n ys H5 w5;rcases tr with ⟨stop,q⟩|⟨go,hlen,step⟩
   ·have done:=T.done X' ep ew eK ecalm i [] s5 _ H5 (cE X X' use QQ s2.heap.objs.size) I5 (fpok fr5) st5 stop;rw[eA] at done;refine thn done λr s6 ⟨hr,I6⟩=>?_
    subst hr;obtain⟨m6,hn6,_⟩:=id I6.loc;rw[eenv] at hn6;have u6:Un (frs X.stack) fp H2 H5 s2.heap s6.heap:=by
     have:=I6.base;rw[efs,eex,eH0,es0] at this;exact this
    have hCn:H5 (s2.heap.objs.size+1)=ai:=by
     have:=I6.free;rw[eenv] at this;exact this
    have hok6:HOk X.prog X.w H5 s6.heap:=by
     have:=I6.hok;rw[ep,ew] at this;exact this
    have hos:s6.os=s2.os:=by have:=I6.os;rw[es0] at this;exact this
    obtain⟨hh,gg,dd,tt,oo⟩:=s6;obtain rfl:oo=s2.os:=hos;have fin:=Inv.call (g':=gg) (d':=dd) (t':=tt) (ch:=fp) I2 u6 hok6 I6.bare λb hb=>⟨(f2 b hb).2.2.2.1,(f2 b hb).2.1,(f2 b hb).2.2.2.2.1,(f2 b hb).2.2.2.2.2⟩
    refine last fin ⟨hCn,ic (g9 I2.lt),I2.aSz (gp _),.inr (c9 I2.sz (gp _)),λx c e z=>?_,λp hp z=>?_⟩ hn6 q
    ·obtain⟨v,qq⟩:=I2.cell x c e;exact ay (g9 qq.lt) (by rw[z];exact gL _)
    ·exact ay (g9 (bz (I2.pin p hp).1)) (by rw[z];exact gL _)
   ·have item:=T.item X' ep ew eK ecalm i [] s5 _ H5 (cE X X' use QQ s2.heap.objs.size) I5 (fpok fr5) st5 go;rw[eA] at item;refine thn item λr s6 ⟨u,hr,h6⟩=>?_
    subst hr;refine thn h6 λ_ s7 ⟨x,H7,I7,r7,y7,st7,fr7⟩=>?_
    have I7':=I7.pinned (fpok fr7) (T.obj _ _ st7);have hg':=hg X' cc _ s7 _ H7 x u _ I7' r7 (step x H7 y7);rw[ep,ew,eA,exe] at hg';refine gk hg' (λ_ s8 ⟨σ8,H8,I8,ext8,q8⟩=>?_) λ_ _ z=>eW z
    have back:cB X' (σ++bq own.length ai) fp tn W n i s7.heap:=by
     rintro ys' H9 s9 σ9 ex9 I9 ⟨n',hn',w9⟩;refine⟨n',hn',i+1,ys',H9,(I9.weak ex9.1.symm ex9.2).uH,T.keep _ _ _ st7 λb hb o e=>(I9.pin (b,o) (eu _ (eu _ (oZ hb e)))).1,λb hb=>?_,w9⟩;obtain⟨o,e,d⟩:=T.obj _ _ st7 b hb;exact(I9.pin (b,o) (eu _ (eu _ (oZ hb e)))).2.1
    exact hPO n i ys s7 σ8 H8 s8 back I8 ext8 hlen q8
  rcases hc with ⟨rfl,rfl⟩|⟨c,rfl,hc⟩
  ·refine PySem.W.kcp_loop _ (key _ λn i ys s7 σ8 H8 s8 back I8 ext8 hlen q8=>?_) n0 ⟨0,[],_,I4,st4,fr4,w0⟩;simp only[eI] at q8;exact put n i ys s7 σ8 H8 s8 back I8 ext8 hlen q8
  ·refine PySem.W.kct_loop _ (key _ λn i ys s7 σ8 H8 s8 back I8 ext8 hlen q8=>?_) n0 ⟨0,[],_,I4,st4,fr4,w0⟩;have hc':=hc X' cc _ s8 _ H8 _ I8 q8;rw[ep,ew,eA,exe] at hc';refine gk hc' (λb s9 ⟨H9,I9,q9⟩=>?_) λ_ _ z=>eW z
   cases b with
   |false=>
    simp only[iN,gu] at q9 ⊢;exact back ext8 I9 q9
   |true=>
    simp only[eI] at q9 ⊢;exact put n i ys s7 σ8 H9 s9 back I9 ext8 hlen q9
 have l4:=loop _ rfl;rw[eenv] at l4;exact codeAny_compStart_list l4 (T.self X.A 0 _ _ _ st4 l4)
theorem U7(f:Inv X Ψ σ H5 s6)(k:Z1 X Ψ H5 C)(n:s6.heap.Ns C m6)(q:Q (.ref p) H5):mv (av X.prog X.w) X.A X.xe ai (EP X Ψ σ Q) (.ref p) C (.ok .next) s6:=
 ⟨m6,n,λh' sb=>⟨.ref p,H5,Inv.turned f (λb o hb e=>sb.extBut b o hb e) k.1 k.2.1 k.2.2.2.1 k.2.2.2.2.1 k.2.2.2.2.2,rfl,q⟩⟩
theorem aB2(S:cH X.N X.env.scope scope own)(hcalm:X.calm=ae)(hi:PI X tg iter wi)
 (hg:∀X',c7 X X' scope own->PG X' tg g)(hc:∀X',c7 X X' scope own->PT X' c tc)(he:∀X',c7 X X' scope own->PE X' elt te)
 (hs:∀x,eB iter X.env x=pure x):PE X (.ListComp elt [⟨tg,iter,[c],0⟩] scope pos) (RL wi g tc te own.length):=by
 intro Ψ s σ H Q I h;rw[Ba];exact RM S hcalm hi hg (.inr ⟨c,rfl,hc⟩) he hs I h U7
theorem U8(S:cH X.N X.env.scope scope own)(hcalm:X.calm=ae)(hi:PI X tg iter wi)
 (hg:∀X',c7 X X' scope own->PG X' tg g)(he:∀X',c7 X X' scope own->PE X' elt te)
 (hs:∀x,eB iter X.env x=pure x):PE X (.ListComp elt [⟨tg,iter,[],0⟩] scope pos) (RL wi g (λ_ H Q=>Q ae H) te own.length):=by
 intro Ψ s σ H Q I h;rw[Ba];exact RM S hcalm hi hg (.inl ⟨rfl,rfl⟩) he hs I h U7
end
end L2
namespace Mi
open PySem L2 PySem.SeqAt
section
variable [KFrag]
theorem gR(I:Inv X Ψ σ H s)(e:H a=ab (.tup xs)):∃its:aa aj,Vals xs its/\s.heap.IsTuple a its.toArray:=by
 obtain⟨_,its,r,p⟩:xs.length<=ba/\∃its:aa aj,Vals xs its/\j7 s.heap a its.toArray:=I.hok a _ e;exact⟨its,r,p.tup⟩
theorem tM(I:Inv X Ψ σ H s)(e:SqL X.K H a xs):∃its:aa aj,Vals xs its/\s.heap.IsList a its.toArray:=by
 obtain⟨its,r,p,_⟩:=I.list e;exact⟨its,r,p.isList⟩
theorem Rep.mZ(r:Rep P H v (.lst ds)):∃a xs,v=.ref a/\SqL K H a xs/\bT P H xs ds:=by
 obtain⟨_,_,rfl,e,p,r⟩:=r.inv;exact⟨_,_,rfl,.inl (.inl e),r⟩
theorem Rep.fH(r:Rep P H v (.tup ds)):∃a xs,v=.ref a/\H a=ab (.tup xs)/\bT P H xs ds:=by
 obtain⟨_,_,rfl,e,r⟩:=r.inv;exact⟨_,_,rfl,e,r⟩
mutual
theorem G7:∀(n:af)(d:D),d.fP n=ae->eqD d d=ae
 |_,.non,_=>rfl
 |_,.bl b,_=>by exact dy b
 |_,.int i,_=>by exact dy i
 |_,.str x,_=>by exact dy x
 |n+1,.tup xs,h=>by exact yX n xs h
 |n+1,.lst xs,h=>by exact yX n xs h
 |0,.tup xs,h=>by exact fx0 h
 |0,.lst xs,h=>by exact fx0 h
 |n,.dct _,h=>by cases n<;>exact fx0 h
 |n,.uD,h=>by cases n<;>exact fx0 h
 |n,.scr _,h=>by cases n<;>exact fx0 h
 |n,.fdc _,h=>by cases n<;>exact fx0 h
 |n,.exc _ _,h=>by cases n<;>exact fx0 h
 |n,.ins _ _,h=>by cases n<;>exact fx0 h
 |n,.adr _,h=>by cases n<;>exact fx0 h
 |n,.dcl _ _,h=>by cases n<;>exact fx0 h
 |n,.cel _ _,h=>by cases n<;>exact fx0 h
theorem yX:∀(n:af)(ds:aa D),ο n ds=ae->xN ds ds=ae
 |_,[],_=>rfl
 |n,d::ds,h=>by
  rw[ο,aI] at h;rw[xN,G7 n d h.1,yX n ds h.2];rfl
end
theorem bT.aT6{n:af}{P P':ak->Prop}{H:Hp}(ih:∀{v:V} {d e:D},d.fP n=ae->e.fP n=ae->Rep P H v d->Rep P' H v e->d=e){vs:aa V}:∀{ds es:aa D},ο n ds=ae->ο n es=ae->bT P H vs ds->bT P' H vs es->ds=es:=by
 induction vs with
 |nil=>intro ds es h h' r q;cases r;cases q;rfl
 |cons v vs ih2=>
  intro ds es h h' r q;cases r with
  |cons r t=>
   cases q with
   |cons r' t'=>
    rw[ο,aI] at h h';rw[ih h.1 h'.1 r r',ih2 h.2 h'.2 t t']
theorem Rep.inj{P P':ak->Prop}{H:Hp}(n:af):∀{v:V}{d e:D},d.fP n=ae->e.fP n=ae->Rep P H v d->Rep P' H v e->d=e:=by
 induction n with
 |zero=>
  intro v d e h h' r q;cases d with
  |non=>obtain rfl:=r.inv;cases q;rfl
  |bl b=>obtain rfl:=r.inv;cases q;rfl
  |int i=>obtain rfl:=r.inv;cases q;rfl
  |str x=>obtain rfl:=r.inv;cases q;rfl
  |_=>exact fx0 h
 |succ n ih=>
  intro v d e h h' r q;cases d with
  |non=>obtain rfl:=r.inv;cases q;rfl
  |bl b=>obtain rfl:=r.inv;cases q;rfl
  |int i=>obtain rfl:=r.inv;cases q;rfl
  |str x=>obtain rfl:=r.inv;cases q;rfl
  |tup ds=>
   obtain⟨a,xs,rfl,e1,r1⟩:=r.inv;cases q with
   |tup e2 r2=>
    rw[e1] at e2;cases e2;rw[bT.aT6 ih h h' r1 r2]
   |lst e2 _ _=>rw[e1] at e2;cases e2
   |dK e2 _ _ _=>rw[e1] at e2;cases e2
   |dT e2 _ _ _=>rw[e1] at e2;cases e2
   |_=>exact fx0 h'
  |lst ds=>
   obtain⟨a,xs,rfl,e1,_,r1⟩:=r.inv;cases q with
   |tup e2 r2=>rw[e1] at e2;cases e2
   |lst e2 _ r2=>
    rw[e1] at e2;cases e2;rw[bT.aT6 ih h h' r1 r2]
   |dK e2 _ _ _=>rw[e1] at e2;cases e2
   |dT e2 _ _ _=>rw[e1] at e2;cases e2
   |_=>exact fx0 h'
  |_=>exact fx0 h
theorem vM:∀(xs ys:aa D),xN xs ys=((bm (min xs.length ys.length)).all (λj=>eqD (xs.getD j .non) (ys.getD j .non))&&xs.length==ys.length)
 |[],[]=>by simp[xN]
 |[],y::ys=>by simp[xN]
 |x::xs,[]=>by simp[xN]
 |x::xs,y::ys=>by
  have e:min (x::xs).length (y::ys).length=min xs.length ys.length+1:=by simp only[aS];lia
  rw[xN,vM xs ys,e,Bb,hZ,List.all_map,Bc]
  congr 1
  simp[Dy]
theorem iK:∀{ds:aa D}{j:af},ο n ds=ae->j<ds.length->(ds.getD j .non).fP n=ae
 |[],j,_,h=>by simp at h
 |d::ds,0,h,_=>by rw[ο,aI] at h;exact h.1
 |d::ds,j+1,h,hj=>by
  rw[ο,aI] at h;simpa using iK h.2 (by simpa using hj)
theorem bT.getD(r:bT P H vs ds)(hj:j<ds.length):∃v,vs[j]?=ab v/\Rep P H v (ds.getD j .non):=by
 obtain⟨v,h1,h2⟩:=r.get (i:=j) (d:=ds.getD j .non) (by simp[hj]);exact⟨v,h1,h2⟩
section
theorem yZ(ha:a.fP 0=ae)(hb:b.fP 0=ae)(rx:Rep All H x a)(ry:Rep All H y b)(ru:RelV x u)(rv:RelV y v):RcAt A s u v (eqD a b)/\RcNeAt A s u v (!eqD a b)/\EqAt A s u v (eqD a b):=by
 cases rx with
 |non=>
  cases ru;cases ry with
  |non=>cases rv;exact⟨RcAt.none_none,RcNeAt.none_none,yc _⟩
  |bl _=>cases rv;exact⟨RcAt.none_bool _,RcNeAt.none_bool _,EqAt.none_bool _⟩
  |int _=>obtain⟨t,rfl⟩:=rv;exact⟨RcAt.none_int _ _,RcNeAt.none_int _ _,EqAt.none_int _ _⟩
  |str _=>obtain⟨t,rfl⟩:=rv;exact⟨RcAt.none_str _ _,RcNeAt.none_str _ _,EqAt.none_str _ _⟩
  |_=>exact fx0 hb
 |bl _=>
  cases ru;cases ry with
  |non=>cases rv;exact⟨RcAt.bool_none _,RcNeAt.bool_none _,EqAt.bool_none _⟩
  |bl _=>cases rv;exact⟨RcAt.bool_bool _ _,RcNeAt.bool_bool _ _,EqAt.bool_bool _ _⟩
  |int _=>obtain⟨t,rfl⟩:=rv;exact⟨RcAt.bool_int _ _ _,RcNeAt.bool_int _ _ _,EqAt.bool_int _ _ _⟩
  |str _=>obtain⟨t,rfl⟩:=rv;exact⟨RcAt.bool_str _ _ _,RcNeAt.bool_str _ _ _,EqAt.bool_str _ _ _⟩
  |_=>exact fx0 hb
 |int _=>
  obtain⟨t,rfl⟩:=ru;cases ry with
  |non=>cases rv;exact⟨RcAt.int_none _ _,RcNeAt.int_none _ _,EqAt.int_none _ _⟩
  |bl _=>cases rv;exact⟨RcAt.int_bool _ _ _,RcNeAt.int_bool _ _ _,EqAt.int_bool _ _ _⟩
  |int _=>obtain⟨t',rfl⟩:=rv;exact⟨RcAt.int_int _ _ _ _,RcNeAt.int_int _ _ _ _,EqAt.int_int _ _ _ _⟩
  |str _=>obtain⟨t',rfl⟩:=rv;exact⟨RcAt.int_str _ _ _ _,RcNeAt.int_str _ _ _ _,Ad _ _ _ _⟩
  |_=>exact fx0 hb
 |str _=>
  obtain⟨t,rfl⟩:=ru;cases ry with
  |non=>cases rv;exact⟨RcAt.str_none _ _,RcNeAt.str_none _ _,EqAt.str_none _ _⟩
  |bl _=>cases rv;exact⟨RcAt.str_bool _ _ _,RcNeAt.str_bool _ _ _,EqAt.str_bool _ _ _⟩
  |int _=>obtain⟨t',rfl⟩:=rv;exact⟨RcAt.str_int _ _ _ _,RcNeAt.str_int _ _ _ _,Ae _ _ _ _⟩
  |str _=>obtain⟨t',rfl⟩:=rv;exact⟨RcAt.str_str _ _ _ _,RcNeAt.str_str _ _ _ _,EqAt.str_str _ _ _ _⟩
  |_=>exact fx0 hb
 |_=>exact fx0 ha
theorem LR(I:Inv X Ψ σ H s):∀(n:af)(A:cg){x y:V}{a b:D}{u v:aj},A.units+n<bX->a.fP n=ae->b.fP n=ae->Rep All H x a->Rep All H y b->RelV x u->RelV y v->
  RcAt A s u v (eqD a b)/\RcNeAt A s u v (!eqD a b)/\EqAt A s u v (eqD a b):=by
 intro n;induction n with
 |zero=>exact λA=>λ_ ha hb rx ry ru rv=>yZ ha hb rx ry ru rv
 |succ n ih=>
  intro A x y a b u v hu ha hb rx ry ru rv;have hu0:A.units<bX:=by lia
  have hu1:A.in1.units+n<bX:=by show A.units+1+n<bX;lia
  have itm:∀{xs ys:aa V}{ds es:aa D}{i1 i2:aa aj},ο n ds=ae->ο n es=ae->bT All H xs ds->bT All H ys es->Vals xs i1->Vals ys i2->∀j (g1:j<i1.toArray.size) (g2:j<i2.toArray.size),EqAt A.in1 s i1.toArray[j] i2.toArray[j] (eqD (ds.getD j .non) (es.getD j .non)):=by
   intro xs ys ds es i1 i2 ha hb r1 r2 vr1 vr2 j g1 g2;have z1:i1.toArray.size=ds.length:=by rw[bS,<-vr1.length,r1.length]
   have z2:i2.toArray.size=es.length:=by rw[bS,<-vr2.length,r2.length]
   obtain⟨v1,w1,rr1⟩:=r1.getD (j:=j) 0x1;obtain⟨v2,w2,rr2⟩:=r2.getD (j:=j) 0x1;obtain⟨u1,k1,l1⟩:=vr1.get w1;obtain⟨u2,k2,l2⟩:=vr2.get w2;have m1:i1.toArray[j]=u1:=by
    rw[d5 (by simpa using g1)] at k1;simpa using cS k1
   have m2:i2.toArray[j]=u2:=by
    rw[d5 (by simpa using g2)] at k2;simpa using cS k2
   rw[m1,m2];exact(ih A.in1 hu1 (iK ha 0x1) (iK hb 0x1) rr1 rr2 l1 l2).2.2
  cases a with
  |non=>
   cases b with
   |tup es=>
    cases rx.inv;cases ru;obtain⟨q,ys,rfl,e2,r2⟩:=ry.fH;cases rv;obtain⟨its2,vr2,h2⟩:=gR I e2;exact⟨RcAt.none_tuple h2 hu0,RcNeAt.none_tuple h2 hu0,EqAt.none_tuple h2 hu0⟩
   |lst es=>
    cases rx.inv;cases ru;obtain⟨q,ys,rfl,e2,r2⟩:=ry.mZ (K:=X.K);cases rv;obtain⟨its2,vr2,h2⟩:=tM I e2;exact⟨RcAt.none_list h2 hu0,RcNeAt.none_list h2 hu0,EqAt.none_list h2 hu0⟩
   |_=>first|exact yZ rfl rfl rx ry ru rv|exact ay ry Rep.uD|exact fx0 hb
  |bl _=>
   cases b with
   |tup es=>
    cases rx.inv;cases ru;obtain⟨q,ys,rfl,e2,r2⟩:=ry.fH;cases rv;obtain⟨its2,vr2,h2⟩:=gR I e2;exact⟨RcAt.bool_tuple _ h2 hu0,RcNeAt.bool_tuple _ h2 hu0,EqAt.bool_tuple _ h2 hu0⟩
   |lst es=>
    cases rx.inv;cases ru;obtain⟨q,ys,rfl,e2,r2⟩:=ry.mZ (K:=X.K);cases rv;obtain⟨its2,vr2,h2⟩:=tM I e2;exact⟨RcAt.bool_list _ h2 hu0,RcNeAt.bool_list _ h2 hu0,EqAt.bool_list _ h2 hu0⟩
   |_=>first|exact yZ rfl rfl rx ry ru rv|exact ay ry Rep.uD|exact fx0 hb
  |int _=>
   cases b with
   |tup es=>
    cases rx.inv;obtain⟨t1,rfl⟩:=ru;obtain⟨q,ys,rfl,e2,r2⟩:=ry.fH;cases rv;obtain⟨its2,vr2,h2⟩:=gR I e2;exact⟨RcAt.int_tuple _ _ h2 hu0,RcNeAt.int_tuple _ _ h2 hu0,EqAt.int_tuple _ _ h2 hu0⟩
   |lst es=>
    cases rx.inv;obtain⟨t1,rfl⟩:=ru;obtain⟨q,ys,rfl,e2,r2⟩:=ry.mZ (K:=X.K);cases rv;obtain⟨its2,vr2,h2⟩:=tM I e2;exact⟨RcAt.int_list _ _ h2 hu0,RcNeAt.int_list _ _ h2 hu0,EqAt.int_list _ _ h2 hu0⟩
   |_=>first|exact yZ rfl rfl rx ry ru rv|exact ay ry Rep.uD|exact fx0 hb
  |str _=>
   cases b with
   |tup es=>
    cases rx.inv;obtain⟨t1,rfl⟩:=ru;obtain⟨q,ys,rfl,e2,r2⟩:=ry.fH;cases rv;obtain⟨its2,vr2,h2⟩:=gR I e2;exact⟨RcAt.str_tuple _ _ h2 hu0,RcNeAt.str_tuple _ _ h2 hu0,EqAt.str_tuple _ _ h2 hu0⟩
   |lst es=>
    cases rx.inv;obtain⟨t1,rfl⟩:=ru;obtain⟨q,ys,rfl,e2,r2⟩:=ry.mZ (K:=X.K);cases rv;obtain⟨its2,vr2,h2⟩:=tM I e2;exact⟨RcAt.str_list _ _ h2 hu0,RcNeAt.str_list _ _ h2 hu0,EqAt.str_list _ _ h2 hu0⟩
   |_=>first|exact yZ rfl rfl rx ry ru rv|exact ay ry Rep.uD|exact fx0 hb
  |tup ds=>
   obtain⟨p,xs,rfl,e1,r1⟩:=rx.fH;cases ru;obtain⟨its1,vr1,h1⟩:=gR I e1;replace ha:ο _ _=ae:=ha;cases b with
   |non=>cases ry.inv;cases rv;exact⟨RcAt.tuple_none h1 hu0,RcNeAt.tuple_none h1 hu0,EqAt.tuple_none h1 hu0⟩
   |bl _=>cases ry.inv;cases rv;exact⟨RcAt.tuple_bool _ h1 hu0,RcNeAt.tuple_bool _ h1 hu0,EqAt.tuple_bool _ h1 hu0⟩
   |int _=>cases ry.inv;obtain⟨t2,rfl⟩:=rv;exact⟨RcAt.tuple_int _ _ h1 hu0,RcNeAt.tuple_int _ _ h1 hu0,EqAt.tuple_int _ _ h1 hu0⟩
   |str _=>cases ry.inv;obtain⟨t2,rfl⟩:=rv;exact⟨RcAt.tuple_str _ _ h1 hu0,RcNeAt.tuple_str _ _ h1 hu0,EqAt.tuple_str _ _ h1 hu0⟩
   |tup es=>
    obtain⟨q,ys,rfl,e2,r2⟩:=ry.fH;cases rv;obtain⟨its2,vr2,h2⟩:=gR I e2;replace hb:ο _ _=ae:=hb;have z1:its1.toArray.size=ds.length:=by rw[bS,<-vr1.length,r1.length]
    have z2:its2.toArray.size=es.length:=by rw[bS,<-vr2.length,r2.length]
    have he:=itm ha hb r1 r2 vr1 vr2;have ee:eqD (.tup ds) (.tup es)=((bm (min its1.toArray.size its2.toArray.size)).all (λj=>eqD (ds.getD j .non) (es.getD j .non))&&its1.toArray.size==its2.toArray.size):=by
     rw[show eqD (.tup _) (.tup _)=xN _ _ from rfl,vM,z1,z2]
    have r0:=RcAt.tuples h1 h2 hu0 he;have r0':=RcNeAt.tuples h1 h2 hu0 he;rw[<-ee] at r0 r0';refine⟨r0,r0',?_⟩;by_cases hpq:p=q
    ·subst hpq;have hab:(ξ ds)=(.tup es):=Rep.inj (n+1) ha hb rx ry;rw[<-hab,G7 (n+1) (.tup ds) ha];exact yc _
    ·exact Bd hpq r0
   |lst es=>
    obtain⟨q,ys,rfl,e2,r2⟩:=ry.mZ (K:=X.K);cases rv;obtain⟨its2,vr2,h2⟩:=tM I e2;exact⟨RcAt.tuple_list h1 h2 hu0,RcNeAt.tuple_list h1 h2 hu0,EqAt.tuple_list h1 h2 hu0⟩
   |_=>first|exact ay ry Rep.uD|exact fx0 hb
  |lst ds=>
   obtain⟨p,xs,rfl,e1,r1⟩:=rx.mZ (K:=X.K);cases ru;obtain⟨its1,vr1,h1⟩:=tM I e1;replace ha:ο _ _=ae:=ha;cases b with
   |non=>cases ry.inv;cases rv;exact⟨RcAt.list_none h1 hu0,RcNeAt.list_none h1 hu0,EqAt.list_none h1 hu0⟩
   |bl _=>cases ry.inv;cases rv;exact⟨RcAt.list_bool _ h1 hu0,RcNeAt.list_bool _ h1 hu0,EqAt.list_bool _ h1 hu0⟩
   |int _=>cases ry.inv;obtain⟨t2,rfl⟩:=rv;exact⟨RcAt.list_int _ _ h1 hu0,RcNeAt.list_int _ _ h1 hu0,EqAt.list_int _ _ h1 hu0⟩
   |str _=>cases ry.inv;obtain⟨t2,rfl⟩:=rv;exact⟨RcAt.list_str _ _ h1 hu0,RcNeAt.list_str _ _ h1 hu0,EqAt.list_str _ _ h1 hu0⟩
   |tup es=>
    obtain⟨q,ys,rfl,e2,r2⟩:=ry.fH;cases rv;obtain⟨its2,vr2,h2⟩:=gR I e2;exact⟨RcAt.list_tuple h1 h2 hu0,RcNeAt.list_tuple h1 h2 hu0,EqAt.list_tuple h1 h2 hu0⟩
   |lst es=>
    obtain⟨q,ys,rfl,e2,r2⟩:=ry.mZ (K:=X.K);cases rv;obtain⟨its2,vr2,h2⟩:=tM I e2;replace hb:ο _ _=ae:=hb;have z1:its1.toArray.size=ds.length:=by rw[bS,<-vr1.length,r1.length]
    have z2:its2.toArray.size=es.length:=by rw[bS,<-vr2.length,r2.length]
    have he:=itm ha hb r1 r2 vr1 vr2;have r00:RcAt A s (.ref p) (.ref q) (eqD (.lst ds) (.lst es))/\RcNeAt A s (.ref p) (.ref q) (!eqD (.lst ds) (.lst es)):=by
     rw[show eqD (.lst _) (.lst _)=xN _ _ from rfl,vM];by_cases hz:ds.length=es.length
     ·have r0:=RcAt.lists h1 h2 0x1 hu0 he;have r0':=RcNeAt.lists h1 h2 0x1 hu0 he;rw[z1] at r0 r0';rw[show min ds.length es.length=ds.length by lia,show(ds.length==es.length)=ae by simpa using hz,Be];exact⟨r0,r0'⟩
     ·have hz':(its1.toArray.size !=its2.toArray.size)=ae:=by rw[z1,z2];simpa using hz
      rw[show(ds.length==es.length)=ah by simpa using hz,AW];exact⟨RcAt.lists_lengths h1 h2 hz' hu0,RcNeAt.lists_lengths h1 h2 hz' hu0⟩
    obtain⟨r0,r0'⟩:=r00;refine⟨r0,r0',?_⟩;by_cases hpq:p=q
    ·subst hpq;have hab:(π ds)=(.lst es):=Rep.inj (n+1) ha hb rx ry;rw[<-hab,G7 (n+1) (.lst ds) ha];exact yc _
    ·exact Bd hpq r0
   |_=>first|exact ay ry Rep.uD|exact fx0 hb
  |_=>first|exact ay rx Rep.uD|exact fx0 ha
end
end
open PySem.AutoSeq1 (wpAny_loadPart')
open PySem.MeetsSeq PySem.MeetsSeq2 PySem.MeetsSeq3
variable [KFrag]
noncomputable def g_.op:g_->tN
 |.lt=>.Lt|.le=>.LtE|.gt=>.Gt|.ge=>.GtE
def aMe(op:tN)(A:cg)(s:ao)(u v:aj)(b:aq):Prop:=
 ∀(prog:b5)(w:br)(E:aj->ao->Prop)(Q:aj->ao->Prop),Q (.bool b) s->ϑ (av prog w) A (Bf op u v) Q E s
def C2(o:g_)(A:cg)(s:ao)(vs ws:aa aj)(xs ys:aa D):Prop:=
 vs.length=xs.length/\ws.length=ys.length/\∀(j:af)(v w:aj)(x y:D),vs[j]?=ab v->ws[j]?=ab w->xs[j]?=ab x->ys[j]?=ab y->
  EqAt A s v w (eqD x y)/\(eqD x y=ah->∀k,j_ o x y=ab k->aMe o.op A s v w k)
theorem C2.tail(h:C2 o A s (v::vs) (w::ws) (x::xs) (y::ys)):C2 o A s vs ws xs ys:=
 ⟨by simpa using h.1,by simpa using h.2.1,λj a b c d e1 e2 e3 e4=>h.2.2 (j+1) a b c d (by simpa using e1) (by simpa using e2) (by simpa using e3) (by simpa using e4)⟩
noncomputable def g_.bt:g_->de
 |.lt=>de.«tuple.__lt__»|.le=>de.«tuple.__le__»|.gt=>de.«tuple.__gt__»|.ge=>de.«tuple.__ge__»
theorem RN(o q:g_)(eq:q=o)(l b:ak)(items items2:ax aj)(n n2:af)(dd dd2:ar ak)(sl sl2:ax (ar aj))(xs ys:aa D)(res:aq)(hr:jE q xs ys=ab res) :
  ji (o.bt ⟨[.ref l,.ref b],[]⟩)
   (λA R s=>s.heap.get? l=ab {cls:=.type "tuple",dict:=dd,data:=.seq items n,slots:=sl}/\s.heap.get? b=ab {cls:=.type "tuple",dict:=dd2,data:=.seq items2 n2,slots:=sl2}/\
    C2 q A.in1 s items.toList items2.toList xs ys/\R (.ok (.ret (.bool res))) s):=by
 cases o<;>exact .of_wp λprog w A R s h=>by
  obtain⟨hp,g,d,tk,os⟩:=s;obtain⟨hl,hb,hC,h⟩:=h;have f2:=Dz;have z1:items.size=xs.length:=by rw[<-hC.1];simp
  have z2:items2.size=ys.length:=by rw[<-hC.2.1];simp
  wp_walk using wpAny_loadPart' hl,wpAny_loadPart' hb,wpAny_forIn_list _ (λrest b s'=>b.1=ai/\s'=⟨hp,g,d,tk,os⟩/\∃(vs ws:aa aj)(xs' ys':aa D),rest=vs.zip ws/\
   C2 q A.in1 ⟨hp,g,d,tk,os⟩ vs ws xs' ys'/\xs'.length+items2.size=ys'.length+items.size/\jE q xs' ys'=ab res) _
  case turn=>
   subst eq;rintro⟨y,x⟩ rest b s' ⟨hb',rfl,vs,ws,xs',ys',hz,hC',hlen,hR⟩;cases vs with
   |nil=>rw[yd] at hz;cases hz
   |cons v vs=>
    cases ws with
    |nil=>rw[tP] at hz;cases hz
    |cons w' ws=>
     rw[n9] at hz;injection hz with hyx hrest
     injection hyx with hy hx
     subst hy hx;cases xs' with
     |nil=>exact ay hC'.1 0x2
     |cons x0 xs'=>
      cases ys' with
      |nil=>exact ay hC'.2.1 0x2
      |cons y0 ys'=>
       rw[jE] at hR;simp only[aS] at hlen;obtain⟨he,hlt⟩:=hC'.2.2 0 _ _ _ _ rfl rfl rfl rfl;refine am (he prog w _ _ ?_);cases e:eqD x0 y0 with
       |true=>
        rw[e] at hR;simp only[eI] at hR
        wp_walk
        exact⟨rfl,rfl,_,_,_,_,hrest,hC'.tail,by lia,hR⟩
       |false=>
        rw[e] at hR;simp only[iN,gu] at hR;have hri:=hlt e res hR prog w;dsimp only[g_.op] at hri
        wp_walk using hri
        exact⟨_,rfl,by simpa using h⟩
  case fin=>
   rintro⟨b1,b2⟩ s' ⟨hb',rfl,vs,ws,xs',ys',hz,hC',hlen,hR⟩;simp only at hb';subst hb';have hv:res=g_.nat q items.size items2.size:=by
    subst eq;cases xs' with
    |nil=>
     rw[jE] at hR;have:=cS hR;rw[<-this];simp only[fw] at hlen;simp only[g_.nat]
     congr 1
     simp only[ua];lia
    |cons x0 xs'=>
     cases ys' with
     |nil=>
      rw[jE] at hR;have:=cS hR;rw[<-this];simp only[fw,aS] at hlen;simp only[g_.nat,aS]
      congr 1
      simp only[ua];lia
     |cons y0 ys'=>
      exfalso;cases vs with
      |nil=>exact ay hC'.1 0x2
      |cons v vs=>
       cases ws with
       |nil=>exact ay hC'.2.1 0x2
       |cons w' ws=>rw[n9] at hz;cases hz
   rw[hv] at h;subst eq
   wp_walk
   exact⟨_,rfl,by simpa[DA,g_.nat] using h⟩
  case h=>
   exact⟨rfl,rfl,items.toList,items2.toList,xs,ys,rfl,hC,by lia,hr⟩
theorem aMe.tup(o:g_)(hl:s.heap.IsTuple l items)(hb:s.heap.IsTuple b items2)(hC:C2 o A.in1 s items.toList items2.toList xs ys)(hr:jE o xs ys=ab res)(hu:A.units<bX) :
  aMe o.op A s (.ref l) (.ref b) res:=λprog w E Q h=>by
 obtain⟨⟨cls,dd,data,sl⟩,ho,hc,n,hd⟩:=id hl;obtain⟨⟨cls2,dd2,data2,sl2⟩,ho2,hc2,n2,hd2⟩:=id hb;simp only at hc hd hc2 hd2;subst hc hd hc2 hd2;have M:=RN o o rfl l b items items2 n n2 dd dd2 sl sl2 xs ys res hr;have G:_/\_/\C2 o A.in1 s items.toList items2.toList xs ys/\(se res≠Value.notImplemented/\Q (.bool res) s):=⟨ho,ho2,hC,(λx=>nomatch x),h⟩
 cases o
 ·exact ub ⟨_,ho,rfl⟩ ⟨_,ho2,rfl⟩ PySem.F.slot_tuple_lt PySem.F.entry_tuple_lt (PySem.F.args_tuple_lt_2 _ _) M G hu
 ·exact ub ⟨_,ho,rfl⟩ ⟨_,ho2,rfl⟩ PySem.F.slot_tuple_le PySem.F.entry_tuple_le (PySem.F.args_tuple_le_2 _ _) M G hu
 ·exact ub ⟨_,ho,rfl⟩ ⟨_,ho2,rfl⟩ PySem.F.slot_tuple_gt PySem.F.entry_tuple_gt (PySem.F.args_tuple_gt_2 _ _) M G hu
 ·exact ub ⟨_,ho,rfl⟩ ⟨_,ho2,rfl⟩ PySem.F.slot_tuple_ge PySem.F.entry_tuple_ge (PySem.F.args_tuple_ge_2 _ _) M G hu
section
theorem U9(o:g_)(na:∀ds,a≠.tup ds)(rx:Rep All H x a)(ry:Rep All H y b)(ru:RelV x u)(rv:RelV y v)(hk:j_ o a b=ab k):aMe o.op A s u v k:=by
 cases a with
 |int i=>
  cases b with
  |int j=>
   cases rx;cases ry;obtain⟨t,rfl⟩:=ru;obtain⟨t',rfl⟩:=rv;rw[j_] at hk;have:=cS hk;subst this;cases o with
   |lt=>exact λprog w E Q h=>(DB h:ϑ (av prog w) A (dh .Lt (.int i t) (.int j t')) Q E s)
   |le=>exact λprog w E Q h=>(DC h:ϑ (av prog w) A (dh .LtE (.int i t) (.int j t')) Q E s)
   |gt=>exact λprog w E Q h=>(DD h:ϑ (av prog w) A (dh .Gt (.int i t) (.int j t')) Q E s)
   |ge=>exact λprog w E Q h=>(DE h:ϑ (av prog w) A (dh .GtE (.int i t) (.int j t')) Q E s)
  |_=>exact nx0 hk
 |str i=>
  cases b with
  |str j=>
   cases rx;cases ry;obtain⟨t,rfl⟩:=ru;obtain⟨t',rfl⟩:=rv;rw[j_] at hk;have:=cS hk;subst this;cases o with
   |lt=>exact λprog w E Q h=>(DF h:ϑ (av prog w) A (dh .Lt (.str i t) (.str j t')) Q E s)
   |le=>exact λprog w E Q h=>(PySem.P.le_str h:ϑ (av prog w) A (dh .LtE (.str i t) (.str j t')) Q E s)
   |gt=>exact λprog w E Q h=>(PySem.P.gt_str h:ϑ (av prog w) A (dh .Gt (.str i t) (.str j t')) Q E s)
   |ge=>exact λprog w E Q h=>(PySem.P.ge_str h:ϑ (av prog w) A (dh .GtE (.str i t) (.str j t')) Q E s)
  |_=>exact nx0 hk
 |tup ds=>exact ay rfl (na ds)
 |_=>cases b<;>exact nx0 hk
theorem RP(I:Inv X Ψ σ H s)(o:g_):∀(n:af)(A:cg){x y:V}{a b:D}{u v:aj}{k:aq},A.units+n<bX->a.fP n=ae->b.fP n=ae->Rep All H x a->Rep All H y b->RelV x u->RelV y v->
  j_ o a b=ab k->aMe o.op A s u v k:=by
 intro n;induction n with
 |zero=>
  intro A x y a b u v k hu ha hb rx ry ru rv hk;cases a with
  |tup _=>exact fx0 ha
  |_=>exact U9 o (by intro ds z;cases z) rx ry ru rv hk
 |succ n ih=>
  intro A x y a b u v k hu ha hb rx ry ru rv hk;have hu0:A.units<bX:=by lia
  have hu1:A.in1.units+n<bX:=by show A.units+1+n<bX;lia
  cases a with
  |tup ds=>
   cases b with
   |tup es=>
    obtain⟨p,xs,rfl,e1,r1⟩:=rx.fH;cases ru;obtain⟨its1,vr1,h1⟩:=gR I e1;obtain⟨q,ys,rfl,e2,r2⟩:=ry.fH;cases rv;obtain⟨its2,vr2,h2⟩:=gR I e2;rw[D.fP] at ha hb;rw[j_] at hk;have hC:∀o',o'=o->C2 o' A.in1 s its1.toArray.toList its2.toArray.toList ds es:=by
     rintro o' rfl;refine⟨by rw[og,<-vr1.length,r1.length],by rw[og,<-vr2.length,r2.length],λj v w x y a1 a2 a3 a4=>?_⟩;rw[og] at a1 a2;obtain⟨v1,w1,rr1⟩:=r1.get a3;obtain⟨v2,w2,rr2⟩:=r2.get a4;obtain⟨u1,k1,l1⟩:=vr1.get w1;obtain⟨u2,k2,l2⟩:=vr2.get w2;rw[a1] at k1;cases k1;rw[a2] at k2;cases k2;have g1:x.fP n=ae:=by
      have:=iK ha (dj.mp a3).1;rwa [b9,a3] at this
     have g2:y.fP n=ae:=by
      have:=iK hb (dj.mp a4).1;rwa [b9,a4] at this
     exact⟨(LR I n A.in1 hu1 g1 g2 rr1 rr2 l1 l2).2.2,λ_ k hk=>ih A.in1 hu1 g1 g2 rr1 rr2 l1 l2 hk⟩
    exact aMe.tup o h1 h2 (hC o rfl) hk hu0
   |_=>exact nx0 hk
  |_=>exact U9 o (by intro ds z;cases z) rx ry ru rv hk
end
end Mi
namespace TS
open PySem PySem.W PyProof.Rows
def Wq(n:af)(r:af->af):KasT α->(α->Prop)->Prop
 |.ret a,Q=>Q a
 |.ask i j k,Q=>i<n/\j<n/\Wq n r (k (ϒ (r i<r j))) Q
theorem Wq.mono{Q Q':α->Prop}(h:∀a,Q a->Q' a):∀{t:KasT α},Wq n r t Q->Wq n r t Q'
 |.ret a,w=>h a w
 |.ask i j k,w=>⟨w.1,w.2.1,Wq.mono h w.2.2⟩
theorem Wq.bind:∀{t:KasT α},Wq n r t (λa=>Wq n r (f a) Q)->Wq n r (t.bind f) Q
 |.ret a,w=>w
 |.ask i j k,w=>⟨w.1,w.2.1,Wq.bind w.2.2⟩
theorem Wq.two(h1 : i < n)(h2 : j < n)(t : r i < r j->Wq n r A Q)(f : r j<=r i->Wq n r B Q) : Wq n r (.ask i j λc=>if c=ae then A else B) Q:=by
 refine⟨h1,h2,?_⟩;by_cases c:r i<r j
 ·rw[bh c];exact t c
 ·rw[cw c];exact f (A3 c)
def Okp(n:af)(p:ax af):Prop:=p.Perm (bm n).toArray
theorem Okp.size(h:Okp n p):p.size=n:=by rw[DH h];simp
theorem Okp.lt(h:Okp n p)(n0:0<n)(i:af):p.getD i 0<n:=by
 by_cases z:i<p.size
 ·have e:p.getD i 0=p[i]:=by simp[mw,z]
  rw[e];have m:p[i]∈(bm n).toArray:=(DI h).mp (Array.getElem_mem z);simpa using m
 ·have e:p.getD i 0=0:=by simp[mw,z]
  rw[e];exact n0
theorem Okp.rev(h:Okp n p)(i j:af):Okp n (k9 p i j):=(mirror_perm _ _ _ _).trans h
theorem gd(p:ax af)(i:af):p.getD i 0=(p[i]?).getD 0:=by
 by_cases z:i<p.size
 ·simp[mw,z]
 ·simp[mw,z]
section
variable {n:af} {r:af->af} {p:ax af}
noncomputable def gr(r:af->af)(p:ax af)(i:af):af:=r (p.getD i 0)
theorem aB3(hj:j<=p.size)(k:af):gr r (k9 p i j) k=if i<=k/\k<j then gr r p (i+j-1-k) else gr r p k:=by
 unfold gr k9;rw[gd,getElem?_mirror_all hj];split<;>rw[gd]
theorem RQ(hj:j<=p.size)(h:∀k,i<=k->k<j->gr r p k=gr r p (j-1))(k:af):gr r (k9 p i j) k=gr r p k:=by
 rw[aB3 hj];split
 ·rename_i z;rw[h k z.1 z.2,h (i+j-1-k) 0x1 0x1]
 ·rfl
def Up(r:af->af)(p:ax af)(m:af):Prop:=∀i j,i<=j->j<m->gr r p i<=gr r p j
def Dn(r:af->af)(p:ax af)(m:af):Prop:=∀i j,i<=j->j<m->gr r p j<=gr r p i
theorem Up.snoc(h:Up r p m)(h1:1<=m)(c:gr r p (m-1)<=gr r p m):Up r p (m+1):=λi j a b=>by
 by_cases z:j<m
 ·exact h i j a z
 ·obtain rfl:j=m:=by lia
  by_cases y:i=j
  ·rw[y];exact aT _
  ·have:=h i (j-1) 0x1 0x1;lia
theorem Dn.snoc(h:Dn r p m)(h1:1<=m)(c:gr r p m<=gr r p (m-1)):Dn r p (m+1):=λi j a b=>by
 by_cases z:j<m
 ·exact h i j a z
 ·obtain rfl:j=m:=by lia
  by_cases y:i=j
  ·rw[y];exact aT _
  ·have:=h i (j-1) 0x1 0x1;lia
theorem aB4(ok:Okp n p)(n0:0<n):∀(f m:af),1<=m->m+f<=n->Up r p m->Wq n r (kas_asc p f m) λm'=>m<=m'/\m'<=m+f/\Up r p m'/\(m'<m+f->gr r p m'<gr r p (m'-1))
 |0,m,_,_,u=>⟨aT _,aT _,u,λh=>ay h (gL _)⟩
 |f+1,m,h1,h2,u=>by
  refine Wq.two (ok.lt n0 _) (ok.lt n0 _) (λc=>⟨aT _,by lia,u,λ_=>c⟩) λc=>?_
  exact(aB4 ok n0 f (m+1) 0x1 0x1 (u.snoc h1 c)).mono λm' w=>⟨by lia,by lia,w.2.2.1,λh=>w.2.2.2 0x1⟩
structure Ds(n:af)(r:af->af)(p:ax af)(m q:af):Prop where
 ok:Okp n p
 m1:1<=m
 mn:m<=n
 qm:q+1<=m
 dn:Dn r p m
 eq:∀i,m-(q+1)<=i->i<m->gr r p i=gr r p (m-1)
theorem Ds.next(d:Ds n r p m q)(hm:m+1<=n)(c:gr r p m<gr r p (m-1)):Ds n r p (m+1) 0:=⟨d.ok,by lia,hm,by lia,d.dn.snoc d.m1 (lz c),λi a b=>by rw[show i=m by lia];rfl⟩
theorem Ds.turn(d:Ds n r p m q):Ds n r (k9 p (m-(q+1)) m) m q:=by
 have s:=RQ (by rw[d.ok.size];exact d.mn) d.eq;exact⟨d.ok.rev _ _,d.m1,d.mn,d.qm,λi j a b=>by rw[s,s];exact d.dn i j a b,λi a b=>by rw[s,s];exact d.eq i a b⟩
theorem G8(n0:0<n):∀(f:af)(p:ax af)(m q:af),m+f<=n->Ds n r p m q->Wq n r (kas_desc f p m q) λt=>Ds n r t.1 t.2.1 t.2.2
 |0,p,m,q,_,d=>d
 |f+1,p,m,q,h,d=>by
  refine Wq.two (d.ok.lt n0 _) (d.ok.lt n0 _) (λc=>?_) λc=>Wq.two (d.ok.lt n0 _) (d.ok.lt n0 _) (λ_=>d) λe=>?_
  ·split
   ·have s:=RQ (by rw[d.ok.size];exact d.mn) d.eq;exact G8 n0 f _ (m+1) 0 0x1 (d.turn.next 0x1 (by rw[s,s];exact c))
   ·exact G8 n0 f _ (m+1) 0 0x1 (d.next 0x1 c)
  ·have eq:gr r p m=gr r p (m-1):=Nat.le_antisymm e c;refine G8 n0 f p (m+1) (q+1) 0x1 ⟨d.ok,by lia,by lia,by have:=d.qm;lia,d.dn.snoc d.m1 (wj eq),λi a b=>?_⟩;show gr r p i=gr r p m;by_cases z:i=m
   ·rw[z]
   ·rw[d.eq i 0x1 0x1,eq]
def Cn(n:af)(r:af->af)(t:af×ax af):Prop:=Okp n t.2/\1<=t.1/\t.1<=n/\Up r t.2 t.1
theorem U_(n0:0<n)(d:Ds n r p m q):Wq n r (kas_tail3 m n p) (Cn n r):=by
 have u:Up r (k9 p 0 m) m:=λi j a b=>by
  rw[aB3 (by rw[d.ok.size];exact d.mn),aB3 (by rw[d.ok.size];exact d.mn),al 0x1,al 0x1];exact d.dn _ _ 0x1 0x1
 refine Wq.bind ((aB4 (d.ok.rev 0 m) n0 (n-m) m d.m1 (by have:=d.mn;lia) u).mono λm' w=>?_);have:=d.m1;have:=d.mn;exact⟨d.ok.rev 0 m,by lia,by lia,w.2.2.1⟩
theorem aB5(n0:0<n)(d:Ds n r p (m+1) 0):Wq n r (kas_descPart m n p) (Cn n r):=by
 refine Wq.bind ((G8 n0 _ p (m+1) 0 (by have:=d.mn;lia) d).mono λt d=>?_);split
 ·exact U_ n0 d.turn
 ·exact U_ n0 d
theorem aEk(ok:Okp n p)(n0:0<n):Wq n r (kas_count n p) (Cn n r):=by
 refine Wq.bind ((aB4 ok n0 (n-1) 1 (aT _) 0x1 λi j a b=>by rw[show i=j by lia];exact aT _).mono λm w=>?_);obtain⟨w1,w2,u,w4⟩:=w;split
 ·exact⟨ok,w1,by lia,u⟩
 ·rename_i hm;have hm:m≠n:=by simpa using hm
  have lt:=w4 0x1;split
  ·refine Wq.two (ok.lt n0 _) (ok.lt n0 _) (λ_=>⟨ok,w1,by lia,u⟩) λc=>?_
   ·have c:gr r p (m-1)<=gr r p 0:=c;have e:∀k,0<=k->k<m->gr r p k=gr r p (m-1):=λk _ b=>by
     have:=u 0 k 0x1 b;have:=u k (m-1) 0x1 0x1;lia
    have s:=RQ (by rw[ok.size];lia) e;have d:Ds n r (k9 p 0 m) m (m-1):=⟨ok.rev 0 m,w1,by lia,by lia,λi j a b=>by rw[s,s,e i 0x1 0x1,e j 0x1 b];exact aT _,λi a b=>by rw[s,s];exact e i 0x1 b⟩
    exact aB5 n0 (d.next 0x1 (by rw[s,s];exact lt))
  ·obtain rfl:m=1:=by lia
   have d:Ds n r p 1 0:=⟨ok,aT _,by lia,aT _,λi j a b=>by rw[show i=j by lia];exact aT _,λi a b=>by rw[show i=0 by lia]⟩
   exact aB5 n0 (d.next 0x1 lt)
theorem G9(ok:Okp n p)(n0:0<n)(u:Up r p k):∀(f l e:af),l<=e->e<=k->e-l<=f->(∀i,i<l->gr r p i<=gr r p k)->(∀i,e<=i->i<k->gr r p k<gr r p i)->Wq n r (kas_place p k f l e) λx=>x<=k/\(∀i,i<x->gr r p i<=gr r p k)/\∀i,x<=i->i<k->gr r p k<gr r p i
 |0,l,e,h1,h2,h3,a,b=>⟨by lia,a,λi c=>b i 0x1⟩
 |f+1,l,e,h1,h2,h3,a,b=>by
  unfold kas_place;split
  ·exact⟨by lia,a,λi c=>b i 0x1⟩
  ·refine Wq.two (ok.lt n0 _) (ok.lt n0 _) (λc=>?_) λc=>?_
   ·refine G9 ok n0 u f l ((l+e) / 2) 0x1 0x1 0x1 a λi x y=>?_
    have:=u ((l+e) / 2) i x y;exact cK c this
   ·refine G9 ok n0 u f ((l+e) / 2+1) e 0x1 h2 0x1 (λi x=>?_) b;have:=u i ((l+e) / 2) 0x1 0x1;exact c9 this c
theorem aNr(hs:k<p.size)(hl:l<=k)(i:af):gr r (bubble p k (k-l)) i=if i=l then gr r p k else if l<i/\i<=k then gr r p (i-1) else gr r p i:=by
 unfold gr;rw[gd,getElem?_bubble hs _ 0x1,show k-(k-l)=l by lia];by_cases z:i=l
 ·rw[al z,al z,gd]
 ·rw[au z,au z];by_cases y:l<i/\i<=k
  ·rw[al y,al y,gd]
  ·rw[au y,au y,gd]
theorem aGt(n0:0<n):∀(f:af)(p:ax af)(k:af),Okp n p->k+f=n->Up r p k->Wq n r (kas_bin f p k) λp=>Okp n p/\Up r p n
 |0,p,k,ok,h,u=>⟨ok,by rw[<-h];exact u⟩
 |f+1,p,k,ok,h,u=>by
  refine Wq.bind ((G9 ok n0 u k 0 k (cz _) (aT _) 0x1 (λi x=>ay x (ye _)) λi x y=>ay y 0x1).mono λl w=>?_);obtain⟨w1,w2,w3⟩:=w;refine aGt n0 f _ (k+1) ((bubble_perm _ _ _).trans ok) 0x1 λi j a b=>?_
  have g:=aNr (r:=r) (by rw[ok.size];lia) w1;rw[g,g];have h1:=w2 i;have h2:=w2 (i-1);have h3:=w3 (j-1);have h4:=w3 j;have h5:=u i j;have h6:=u i (j-1);have h7:=u (i-1) (j-1);have h8:=u (i-1) j
  repeat' split
  all_goals lia
theorem aJ1(n0:0<n):Wq n r (kas_sort n) λp=>Okp n p/\Up r p n:=by
 refine Wq.bind ((aEk (Bg _) n0).mono λt w=>?_);obtain⟨ok,w1,w2,u⟩:=w;split
 ·rw[show max t.1 1=t.1 by lia];exact aGt n0 _ _ _ ok 0x1 u
 ·rename_i h;exact⟨ok,by rw[show n=t.1 by lia];exact u⟩
end
noncomputable def gt(a:ax jj)(i:af):jj:=a.getD i (.none,.none)
theorem aGu(h:∀i j,i<n->j<n->∀C:aq->ao->Prop,C (ϒ (r i<r j)) s->cmp i j C s):∀{t:KasT α},Wq n r t Q->t.kasWp cmp (λa s'=>s'=s/\Q a) s
 |.ret a,w=>⟨rfl,w⟩
 |.ask i j k,w=>h i j w.1 w.2.1 _ (aGu h w.2.2)
theorem aGv:∀{l:aa af},(∀x,p x=ae->q x=ae)->a∈l->q a=ae->p a=ah->l.countP p<l.countP q
 |[],_,h,_,_=>by cases h
 |b::l,h,m,h1,h2=>by
  have le:l.countP p<=l.countP q:=Bh λx _=>h x
  rw[Bi,Bi];rcases bu.mp m with rfl|m
  ·rw[h1,h2,al rfl,au 0x2];lia
  ·have:=aGv h m h1 h2;have:=h b;split<;>split<;>first|lia|(rename_i x y;exact ay (this x) y)
theorem aJ2(n:af)(lt:af->af->aq)(ir:∀i,lt i i=ah)(tr:∀i j k,lt i j=ae->lt j k=ae->lt i k=ae)(nt:∀i j k,lt i k=ae->lt i j=ae\/lt j k=ae):∃r:af->af,∀i j,i<n->ϒ (r i<r j)=lt i j:=by
 refine⟨λi=>(bm n).countP λk=>lt k i,λi j hi=>?_⟩;cases c:lt i j with
 |true=>exact bh (aGv (λk h=>tr _ _ _ h c) (fx.mpr hi) c (ir i))
 |false=>exact cw (Bj.mpr (Bh λk _ h=>(nt k i j h).resolve_right (by rw[c];simp)))
theorem G_(h64:vs.length<64)(ho:s.heap.get? a=ab (du "list" vs.toArray n))(hn:vs.length<=ba)
 (hk:2<=vs.length->∃(κ:mx) (rk:af->af),
   (∀Q:mx->ao->Prop,Q κ {s with heap:=((s.heap.update a (ef λ_=>(#[]:ax aj))).push (du "tuple" vs.toArray 0)).push (du "list" #[] 0)}->ϑ (av prog w) A (yf vs.toArray) Q E {s with heap:=((s.heap.update a (ef λ_=>(#[]:ax aj))).push (du "tuple" vs.toArray 0)).push (du "list" #[] 0)})/\
   (∀i j,i<vs.length->j<vs.length->∀C:aq->ao->Prop,C (ϒ (rk i<rk j)) {s with heap:=((s.heap.update a (ef λ_=>(#[]:ax aj))).push (du "tuple" vs.toArray 0)).push (du "list" #[] 0)}->kas_cmp prog w A κ (e9 vs) i j C {s with heap:=((s.heap.update a (ef λ_=>(#[]:ax aj))).push (du "tuple" vs.toArray 0)).push (du "list" #[] 0)})/\
   ∀p:ax af,Okp vs.length p->Up rk p vs.length->P (.done (.ret .none)) {s with heap:=yg s.heap a vs ((p.map (kas_item (e9 vs))).map (·.2))})
 (h1:vs.length<2->P (.done (.ret .none)) {s with heap:=yg s.heap a vs ((e9 vs).map (·.2))}) :
  ϑ (av prog w) A (de.«list.sort» ⟨[.ref a],[]⟩) P E s:=by
 rw[list_sort_plain];have ha:a<s.heap.objs.size:=bz ho;refine am (listItems_at ho rfl ?_);refine am (yh ho rfl ?_ (by rw[bS];exact hn) (cz _));obtain⟨e1,ho1⟩:∃e1,(s.heap.update a (ef λ_=>(#[]:ax aj))).get? a=ab (du "list" #[] e1):=⟨_,get?_update_seq ho (λ_=>#[])⟩
 refine am (yi ho1 rfl ?_);refine am (yj ?_ (by show vs.length<=_;exact hn));refine am (Bk ?_ (cz _));refine fq ?_;have ho6:(((s.heap.update a (ef λ_=>(#[]:ax aj))).push (du "tuple" vs.toArray 0)).push (du "list" #[] 0)).get? a=ab (du "list" #[] e1):=by
  rw[Bl _ _ _ (by rw[size_push',yk];exact cn (g9 ha)),Bl _ _ _ (by rw[yk];exact cn ha)];exact ho1
 show ϑ (av prog w) A _ P E {s with heap:=((s.heap.update a (ef λ_=>(#[]:ax aj))).push (du "tuple" vs.toArray 0)).push (du "list" #[] 0)};dsimp only;have hsz:vs.toArray.size=vs.length:=by simp
 by_cases h2:vs.toArray.size<2
 ·rw[al h2,al h2];refine am (aE ?_);rw[StateT.run_pure];refine am (aE ?_);dsimp only;refine am (yi ho6 rfl ?_);refine am (yh ho6 rfl ?_ (cz _) (hsz2:=by rw[uc];show(e9 vs).size<=_;rw[pairsOf_size];exact yl hn));simp only[Bm,iN,gu];exact aE (h1 0x1)
 ·rw[au h2,au h2];obtain⟨κ,rk,hkk,hL,fin⟩:=hk 0x1;refine am (hkk _ ?_);have est:kas_st κ (e9 vs) (Bn (bm vs.length))=SortSt.mk' κ (vs.toArray.zip vs.toArray) #[] 7 ai:=by
   unfold kas_st;rw[show vs.length=(e9 vs).size from (pairsOf_size vs).symm,kas_range];rfl
  have kr:=kas_runs (E:=E) (it:=e9 vs) (Q:=λ_ st' s'=>s'={s with heap:=((s.heap.update a (ef λ_=>(#[]:ax aj))).push (du "tuple" vs.toArray 0)).push (du "list" #[] 0)}/\failedOf st'=ai/\∃p,(Okp vs.length p/\Up rk p vs.length)/\arrOf st'=p.map (kas_item (e9 vs))) 0x1 h64 (λp' st' s' _ ha hf hg=>⟨hg.1,hf,p',hg.2,ha⟩) (aGu hL (aJ1 0x1));rw[est] at kr;refine am (gk kr ?_ λ_ _ e=>e);rintro⟨⟨⟩,st'⟩ s' ⟨rfl,hf,p,⟨ok,up⟩,ha⟩;dsimp only;refine am (yi ho6 rfl ?_);refine am (yh ho6 rfl ?_ (cz _) (hsz2:=by rw[ha,uc,uc,ok.size];exact yl hn));rw[hf];simp only[Bm,iN,gu];rw[ha];exact aE (fin p ok up)
noncomputable def aJ3(h:az)(vs:aa aj):az:=
 (((h.push (du "list" vs.toArray 0)).update h.objs.size (ef λ_=>(#[]:ax aj))).push (du "tuple" vs.toArray 0)).push (du "list" #[] 0)
theorem aEm(hb:h.get? b=ab o):(aJ3 h vs).get? b=ab o:=by
 have hlt:b<h.objs.size:=bz hb;unfold aJ3;refine bw _ (bw _ ?_);rw[Bo _ _ _ _ (cn hlt)];exact bw _ hb
noncomputable def aMf(h:az)(vs:aa aj)(out:ax aj):az:=yg (h.push (du "list" vs.toArray 0)) h.objs.size vs out
theorem aEn(hb:h.get? b=ab o):(aMf h vs out).get? b=ab o:=by
 have hlt:b<h.objs.size:=bz hb;unfold aMf;rw[sortedHeap_old (cn hlt) (by rw[size_push'];exact g9 hlt)];exact bw _ hb
theorem aJ4(h:az)(vs:aa aj)(out:ax aj):∃e,(aMf h vs out).get? h.objs.size=ab (du "list" out e):=sortedHeap_at (cx _ rfl)
theorem YK(h64:vs.length<64)(hn:vs.length<=ba)
 (hcol:∀(Q':aa aj->ao->Prop) (E':aj->ao->Prop),(∀h1 tk,(∀b o,s.heap.get? b=ab o->h1.get? b=ab o)->s.heap.objs.size<=h1.objs.size->Q' vs {s with heap:=h1,toks:=tk})->ϑ (av prog w) A.in1 (oh v) Q' E' s)
 (hk:∀h1 tk,(∀b o,s.heap.get? b=ab o->h1.get? b=ab o)->s.heap.objs.size<=h1.objs.size->2<=vs.length->∃(κ:mx) (rk:af->af),
   (∀Q:mx->ao->Prop,Q κ {s with heap:=aJ3 h1 vs,toks:=tk}->ϑ (av prog w) A.in1.in1 (yf vs.toArray) Q (λ_ _=>ck) {s with heap:=aJ3 h1 vs,toks:=tk})/\
   (∀i j,i<vs.length->j<vs.length->∀C:aq->ao->Prop,C (ϒ (rk i<rk j)) {s with heap:=aJ3 h1 vs,toks:=tk}->kas_cmp prog w A.in1.in1 κ (e9 vs) i j C {s with heap:=aJ3 h1 vs,toks:=tk})/\
   ∀p:ax af,Okp vs.length p->Up rk p vs.length->Q (.ref h1.objs.size) {s with heap:=aMf h1 vs ((p.map (kas_item (e9 vs))).map (·.2)),toks:=tk})
 (h1:∀h1 tk,(∀b o,s.heap.get? b=ab o->h1.get? b=ab o)->s.heap.objs.size<=h1.objs.size->vs.length<2->Q (.ref h1.objs.size) {s with heap:=aMf h1 vs ((e9 vs).map (·.2)),toks:=tk}) :
  ϑ (av prog w) A (call (.builtin "sorted") [v]) Q E s:=by
 refine Bp kind_sorted plain_sorted entry_sorted (args_sorted1 _) ?_;unfold de.«sorted»;refine am (aE ?_);refine am (hcol _ _ λhh tk kp hle=>?_);refine am (Bk ?_ hn);have hoL:(hh.push (du "list" vs.toArray 0)).get? hh.objs.size=ab (du "list" vs.toArray 0):=cx _ rfl;show ϑ _ _ _ _ _ {s with heap:=hh.push (du "list" vs.toArray 0),toks:=tk};refine am (fq (nN slot_list_sort ⟨_,hoL,rfl⟩ entry_list_sort ?body (args_list_sort _)))
 case body=>
  refine gk (G_ h64 (E:=λ_ _=>ck) (P:=λf s'=>∃v,f=.done (.ret v)/\v=r_/\Q (.ref hh.objs.size) s') hoL hn (λh2=>?_) (λh2=>⟨_,rfl,rfl,h1 hh tk kp hle h2⟩)) (λf s' h=>?_) λ_ _ z=>eW z
  ·obtain⟨κ,rk,hkk,hL,fin⟩:=hk hh tk kp hle h2;exact⟨κ,rk,hkk,hL,λp ok up=>⟨_,rfl,rfl,fin p ok up⟩⟩
  ·obtain⟨v,rfl,rfl,q⟩:=h;exact⟨_,rfl,aE ⟨_,rfl,q⟩⟩
end TS
namespace Mi
open PySem L2 PySem.SeqAt
open PyProof.Rows (Keyed lt' keyLt' oneLt' SortKind SortSt kindOf tuples' oneType' pairsOf wpS wpS_bind wpS_pure wpS_get wpS_lift keyKind')
section
variable [KFrag]
def lO(H:Hp)(u:aj):D:=by
 classical
 exact if h:∃d,d.plain=ae/\d.fP aY=ae/\∃v,RelV v u/\Rep All H v d then Bq h else .non
theorem xR(hp:d.plain=ae)(hq:d.fP aY=ae)(rv:RelV v u)(r:Rep All H v d):lO H u=d:=by
 unfold lO;have h:∃d,d.plain=ae/\d.fP aY=ae/\∃v,RelV v u/\Rep All H v d:=⟨d,hp,hq,v,rv,r⟩
 rw[oj h];obtain⟨h1,h2,v',rv',r'⟩:=Br h;have:=rv'.inj rv;subst this;exact Rep.inj aY h2 hq r' r
theorem fL(h:cG ds=ae)(ha:a∈ds):a.plain=ae/\a.fP aY=ae/\gH a≠0/\gH a=gH (ds.headD .non)/\∀b∈ds,∃k,j_ .lt a b=ab k:=by
 unfold cG at h;rw[aI] at h;have:=fA.mp h.2 a ha;simp only[aI,bne_iff_ne,ig] at this;obtain⟨⟨⟨⟨h1,h2⟩,h3⟩,h4⟩,h5⟩:=this;refine⟨h1,h2,h3,h4,λb hb=>wz.mp (fA.mp h5 b hb)⟩
theorem aNs(h:cG ds=ae)(ha:a∈ds)(hb:b∈ds):j_ .lt a b=ab (ϒ (enc a<enc b)):=by
 obtain⟨p1,_,_,_,q⟩:=fL h ha;obtain⟨p2,_⟩:=fL h hb;obtain⟨k,hk⟩:=q b hb;rw[hk,RD a b k p1 p2 hk]
def sU(H:Hp)(ds:aa D)(k:jj):Prop:=∃v d,RelV v k.1/\Rep All H v d/\d∈ds
def sLt(H:Hp)(x y:jj):aq:=ϒ (enc (lO H x.1)<enc (lO H y.1))
section
variable {X:Cx} {Ψ:aa (ak×bf)} {σ:L2.St} {H:Hp} {s:ao}
open PySem.W in
theorem HB:∀(vs ws:aa aj)(xs ys:aa D)(i:af),(b&&i==0)=ah->C2 .lt A s vs ws xs ys->jE .lt xs ys=ab k->xs.length+n2=ys.length+n1->Q k s->
  KatLex prog w A b (ϒ (n1<n2)) Q (vs.zip ws) i s
 |[],ws,xs,ys,i,_,hC,hk,hf,q=>by
  have:xs=[]:=Bs hC.1.symm;subst this;rw[yd];rw[jE] at hk;have e:k=ϒ (n1<n2):=by
   rw[<-cS hk];simp only[g_.nat,fw] at hf ⊢
   congr 1
   simp only[ua];lia
  rw[<-e];exact q
 |v::vs,[],xs,ys,i,_,hC,hk,hf,q=>by
  have:ys=[]:=Bs hC.2.1.symm;subst this;rw[tP];cases xs with
  |nil=>exact ay hC.1 0x2
  |cons x xs=>
   rw[jE] at hk;have e:k=ϒ (n1<n2):=by
    rw[<-cS hk];simp only[g_.nat,fw,aS] at hf ⊢
    congr 1
    simp only[ua];lia
   rw[<-e];exact q
 |v::vs,w'::ws,[],ys,i,_,hC,hk,hf,q=>ay hC.1 0x2
 |v::vs,w'::ws,x::xs,[],i,_,hC,hk,hf,q=>ay hC.2.1 0x2
 |v::vs,w'::ws,x::xs,y::ys,i,hi,hC,hk,hf,q=>by
  rw[n9];obtain⟨he,hlt⟩:=hC.2.2 0 _ _ _ _ rfl rfl rfl rfl;rw[jE] at hk;refine kat_cons (he prog w _ _ ?_);cases e:eqD x y with
  |true=>
   rw[e,al rfl] at hk;exact kat_yes (HB vs ws xs ys (i+1) 0x2 hC.tail hk (by simp only[aS] at hf;lia) q)
  |false=>
   rw[e,au 0x2] at hk;refine kat_no ?_;rw[hi];exact kat_one _ _ (hlt e k hk prog w _ _ q)
theorem aRp(I:Inv X Ψ σ H s)(hu:A.units+n<bX)(ha:ο n ds=ae)(hb:ο n es=ae)(r1:bT All H xs ds)(r2:bT All H ys es)(vr1:Vals xs its1)(vr2:Vals ys its2) :
  C2 .lt A s its1 its2 ds es:=by
 refine⟨by rw[<-vr1.length,r1.length],by rw[<-vr2.length,r2.length],λj v w x y a1 a2 a3 a4=>?_⟩;obtain⟨v1,w1,rr1⟩:=r1.get a3;obtain⟨v2,w2,rr2⟩:=r2.get a4;obtain⟨u1,k1,l1⟩:=vr1.get w1;obtain⟨u2,k2,l2⟩:=vr2.get w2;rw[a1] at k1;cases k1;rw[a2] at k2;cases k2;have g1:x.fP n=ae:=by
  have:=iK ha (dj.mp a3).1;rwa [b9,a3] at this
 have g2:y.fP n=ae:=by
  have:=iK hb (dj.mp a4).1;rwa [b9,a4] at this
 exact⟨(LR I n A hu g1 g2 rr1 rr2 l1 l2).2.2,λ_ k hk=>RP I .lt n A hu g1 g2 rr1 rr2 l1 l2 hk⟩
theorem kind_le(d:D):gH d<=5:=by
 unfold gH;split<;>lia
theorem aJ5(h:gH d=1):∃i,d=.int i:=by
 unfold gH at h;split at h<;>first|lia|exact⟨_,rfl⟩
theorem aJ6(h:gH d=2):∃i,d=.str i:=by
 unfold gH at h;split at h<;>first|lia|exact⟨_,rfl⟩
theorem aEo(h:gH d=3):∃i r,d=.tup (.int i::r):=by
 unfold gH at h;split at h<;>first|lia|exact⟨_,_,rfl⟩
theorem aEp(h:gH d=4):∃i r,d=.tup (.str i::r):=by
 unfold gH at h;split at h<;>first|lia|exact⟨_,_,rfl⟩
theorem aNt(h:gH d=5):∃i r,d=.tup (.tup i::r):=by
 unfold gH at h;split at h<;>first|lia|exact⟨_,_,rfl⟩
theorem VB(r:bT All H xs ds)(vr:Vals xs its)(hu:u∈its):∃v d,RelV v u/\Rep All H v d/\d∈ds:=by
 obtain⟨j,hj,e⟩:=ud hu;have hj':j<ds.length:=by rw[<-r.length,vr.length];exact hj
 obtain⟨v,h1,h2⟩:=r.get (i:=j) (d:=ds[j]) (by simp[hj']);obtain⟨u',h3,h4⟩:=vr.get h1;rw[d5 hj,e] at h3;cases h3;exact⟨v,_,h4,h2,ol _⟩
open PySem.W in
theorem HD(I:Inv X Ψ σ H s){F:D->Prop}(hF:∀(d:D) (v:V) (u:aj),F d->RelV v u->Rep All H v d->Looks (av X.prog X.w) s.heap (mj u) T) :
  ∀{xs:aa V}{ds:aa D}{its:aa aj},bT All H xs ds->Vals xs its->(∀d∈ds,∃f r,d=.tup (f::r)/\F f)->∃fs,KatTups s.heap its fs/\fs.length=its.length/\∀f∈fs,Looks (av X.prog X.w) s.heap (mj f) T
 |_,_,_,.nil,.nil,_=>⟨[],.nil,rfl,λ_ h=>by simp at h⟩
 |_,_,_,.cons r t,.cons v vt,h=>by
  obtain⟨fs,h1,h2,h3⟩:=HD I hF t vt λd hd=>h d (bp _ hd)
  obtain⟨f,rr,rfl,hf⟩:=h _ (bj ..);obtain⟨a,ys,rfl,e,rs⟩:=r.fH;cases v;obtain⟨its2,vr2,o,ho,hc,n,hd⟩:=gR I e;cases rs with
  |cons r0 rs=>
   cases vr2 with
   |cons v0 vr2=>
    refine⟨_::fs,.cons ho hc hd rfl h1,by simp[h2],λg hg=>?_⟩;rcases bu.mp hg with rfl|hg
    ·exact hF _ _ _ hf v0 r0
    ·exact h3 g hg
open PySem.W in
theorem aB6(I:Inv X Ψ σ H s)(hu:A.units+aY<bX)(hc:cG ds=ae)(r:bT All H xs ds)(vr:Vals xs its)(h2:2<=its.length) :
  ∃κ:mx,(∀Q:mx->ao->Prop,Q κ s->ϑ (av X.prog X.w) A (yf its.toArray) Q (λ_ _=>ck) s)/\
   ∀(x y:jj)(Q:aq->ao->Prop),sU H ds x->sU H ds y->Q (sLt H x y) s->ϑ (av X.prog X.w) A (keyLt' κ x.1 y.1) Q (λ_ _=>ck) s:=by
 have hlen:ds.length=its.length:=by rw[<-r.length,vr.length]
 have hkind:∀d∈ds,gH d=gH (ds.headD .non):=λd hd=>(fL hc hd).2.2.2.1
 have hne:gH (ds.headD .non)≠0:=by
  have hd:ds.headD .non∈ds:=by
   cases ds with
   |nil=>simp at hlen;lia
   |cons d ds=>simp
  exact(fL hc hd).2.2.1
 have lty:∀{x y:jj}{v v':V}{d d':D},RelV v x.1->Rep All H v d->d∈ds->RelV v' y.1->Rep All H v' d'->d'∈ds->j_ .lt d d'=ab (sLt H x y):=λ{x y v v' d d'} rv rp hd rv' rp' hd'=>by
  have e1:=xR (fL hc hd).1 (fL hc hd).2.1 rv rp;have e2:=xR (fL hc hd').1 (fL hc hd').2.1 rv' rp';rw[aNs hc hd hd'];unfold sLt;rw[e1,e2]
 -- two tuples whose first items are told by a kH of their own,or by the common one
 have tupl:∀(b:aq)(x y:jj)(Q:aq->ao->Prop),sU H ds x->sU H ds y->(∀d∈ds,∃f r,d=.tup (f::r))->
   (b=ae->∀(f g:D)(v v':V)(u u':aj)(k:aq)(Q:aq->ao->Prop),(∃r,ξ (f::r)∈ds)->(∃r,ξ (g::r)∈ds)->RelV v u->Rep All H v f->RelV v' u'->Rep All H v' g->j_ .lt f g=ab k->Q k s->ϑ (av X.prog X.w) A (oneLt' ae u u') Q (λ_ _=>ck) s)->
   Q (sLt H x y) s->ϑ (av X.prog X.w) A (keyLt' (ue b) x.1 y.1) Q (λ_ _=>ck) s:=by
  rintro b ⟨x1,x2⟩ ⟨y1,y2⟩ Q ⟨v,d,rv,rp,hd⟩ ⟨v',d',rv',rp',hd'⟩ htup hone q;have hk:=lty rv rp hd rv' rp' hd';have q1:=(fL hc hd).2.1;have q2:=(fL hc hd').2.1;obtain⟨f,rr,rfl⟩:=htup d hd;obtain⟨g,rr',rfl⟩:=htup d' hd';obtain⟨a,ys,rfl,e,rs⟩:=rp.fH;obtain⟨a',ys',rfl,e',rs'⟩:=rp'.fH;cases rv;cases rv';obtain⟨i1,vr1,o1,ho1,hc1,n1,hd1⟩:=gR I e;obtain⟨i2,vr2,o2,ho2,hc2,n2,hd2⟩:=gR I e';rw[j_] at hk;have q1':ο 11 (f::rr)=ae:=q1;have q2':ο 11 (g::rr')=ae:=q2;have hu':A.units+11<bX:=by have:A.units+12<bX:=hu;lia
  have C:=aRp I hu' q1' q2' rs rs' vr1 vr2;refine kat_lt ho1 hd1 ho2 hd2 ?_;have z1:i1.toArray.size=(f::rr).length:=by rw[bS,<-vr1.length,rs.length]
  have z2:i2.toArray.size=(g::rr').length:=by rw[bS,<-vr2.length,rs'.length]
  rw[og,og,z1,z2];cases b with
  |false=>exact HB i1 i2 (f::rr) (g::rr') 0 rfl C hk 0x1 q
  |true=>
   cases rs with
   |cons r0 rs=>
    cases rs' with
    |cons r0' rs'=>
     cases vr1 with
     |cons v0 vr1=>
      cases vr2 with
      |cons v0' vr2=>
       rw[n9];obtain⟨he,_⟩:=C.2.2 0 _ _ _ _ rfl rfl rfl rfl;rw[jE] at hk;refine kat_cons (he X.prog X.w _ _ ?_);cases e0:eqD f g with
       |true=>
        rw[e0,al rfl] at hk;exact kat_yes (HB _ _ rr rr' 1 0x2 C.tail hk (by simp only[aS];lia) q)
       |false=>
        rw[e0,au 0x2] at hk;refine kat_no ?_;exact hone rfl f g _ _ _ _ _ Q ⟨_,hd⟩ ⟨_,hd'⟩ v0 r0 v0' r0' hk q
 have h5:=kind_le (ds.headD .non);have cases5:gH (ds.headD .non)=1\/gH (ds.headD .non)=2\/gH (ds.headD .non)=3\/gH (ds.headD .non)=4\/gH (ds.headD .non)=5:=by lia
 rcases cases5 with c|c|c|c|c
 ·refine⟨oneType',λQ q=>kas_kind (T:=.type "int") h2 (λu hm=>?_) 0x4 0x4 q,λx y Q hx hy q=>?_⟩
  ·obtain⟨v,d,rv,rp,hd⟩:=VB r vr hm;obtain⟨i,rfl⟩:=aJ5 ((hkind d hd).trans c);cases rp.inv;obtain⟨t,rfl⟩:=rv;exact uf rfl
  ·obtain⟨v,d,rv,rp,hd⟩:=hx;obtain⟨v',d',rv',rp',hd'⟩:=hy;have hk:=lty rv rp hd rv' rp' hd';obtain⟨i,rfl⟩:=aJ5 ((hkind d hd).trans c);obtain⟨j,rfl⟩:=aJ5 ((hkind d' hd').trans c);cases rp.inv;cases rp'.inv;obtain⟨t,e1⟩:=rv;obtain⟨t',e2⟩:=rv';rw[j_] at hk;rw[<-cS hk] at q;rw[e1,e2,Bu];exact Bv q
 ·refine⟨oneType',λQ q=>kas_kind (T:=.type "str") h2 (λu hm=>?_) 0x4 0x4 q,λx y Q hx hy q=>?_⟩
  ·obtain⟨v,d,rv,rp,hd⟩:=VB r vr hm;obtain⟨i,rfl⟩:=aJ6 ((hkind d hd).trans c);cases rp.inv;obtain⟨t,rfl⟩:=rv;exact uf rfl
  ·obtain⟨v,d,rv,rp,hd⟩:=hx;obtain⟨v',d',rv',rp',hd'⟩:=hy;have hk:=lty rv rp hd rv' rp' hd';obtain⟨i,rfl⟩:=aJ6 ((hkind d hd).trans c);obtain⟨j,rfl⟩:=aJ6 ((hkind d' hd').trans c);cases rp.inv;cases rp'.inv;obtain⟨t,e1⟩:=rv;obtain⟨t',e2⟩:=rv';rw[j_] at hk;rw[<-cS hk] at q;rw[e1,e2,Bu];exact Bw q
 ·obtain⟨fs,t1,t2,t3⟩:=HD I (T:=.type "int") (F:=λf=>∃i,f=.int i) (λd v u hf rv rp=>by
   obtain⟨i,rfl⟩:=hf;cases rp.inv;obtain⟨t,rfl⟩:=rv;exact uf rfl) r vr (λd hd=>by
   obtain⟨i,rr,rfl⟩:=aEo ((hkind d hd).trans c);exact⟨_,_,rfl,i,rfl⟩)
  refine⟨ue ae,λQ q=>ym (T:=.type "int") t1 0x1 t3 0x4 q,λx y Q hx hy q=>tupl ae x y Q hx hy (λd hd=>?_) (λ_ f g v v' u u' k Q hf hg rv rp rv' rp' hk q=>?_) q⟩
  ·obtain⟨i,rr,rfl⟩:=aEo ((hkind d hd).trans c);exact⟨_,_,rfl⟩
  ·obtain⟨r1,hf⟩:=hf;obtain⟨r2,hg⟩:=hg;obtain⟨i,rr,e1⟩:=aEo ((hkind _ hf).trans c);obtain⟨j,rr',e2⟩:=aEo ((hkind _ hg).trans c);cases e1;cases e2;cases rp.inv;cases rp'.inv;obtain⟨t,rfl⟩:=rv;obtain⟨t',rfl⟩:=rv';rw[j_] at hk;rw[<-cS hk] at q;exact Bv q
 ·obtain⟨fs,t1,t2,t3⟩:=HD I (T:=.type "str") (F:=λf=>∃i,f=.str i) (λd v u hf rv rp=>by
   obtain⟨i,rfl⟩:=hf;cases rp.inv;obtain⟨t,rfl⟩:=rv;exact uf rfl) r vr (λd hd=>by
   obtain⟨i,rr,rfl⟩:=aEp ((hkind d hd).trans c);exact⟨_,_,rfl,i,rfl⟩)
  refine⟨ue ae,λQ q=>ym (T:=.type "str") t1 0x1 t3 0x4 q,λx y Q hx hy q=>tupl ae x y Q hx hy (λd hd=>?_) (λ_ f g v v' u u' k Q hf hg rv rp rv' rp' hk q=>?_) q⟩
  ·obtain⟨i,rr,rfl⟩:=aEp ((hkind d hd).trans c);exact⟨_,_,rfl⟩
  ·obtain⟨r1,hf⟩:=hf;obtain⟨r2,hg⟩:=hg;obtain⟨i,rr,e1⟩:=aEp ((hkind _ hf).trans c);obtain⟨j,rr',e2⟩:=aEp ((hkind _ hg).trans c);cases e1;cases e2;cases rp.inv;cases rp'.inv;obtain⟨t,rfl⟩:=rv;obtain⟨t',rfl⟩:=rv';rw[j_] at hk;rw[<-cS hk] at q;exact Bw q
 ·obtain⟨fs,t1,t2,t3⟩:=HD I (T:=.type "tuple") (F:=λf=>∃i,f=.tup i) (λd v u hf rv rp=>by
   obtain⟨i,rfl⟩:=hf;obtain⟨a,ys,rfl,e,rs⟩:=rp.fH;cases rv;obtain⟨i1,vr1,o1,ho1,hc1,n1,hd1⟩:=gR I e;have:=(show Looks (av X.prog X.w) s.heap (mj (.ref a)) o1.cls from (Looks.ld ho1).andThen .now)
   rwa [hc1] at this) r vr (λd hd=>by
   obtain⟨i,rr,rfl⟩:=aNt ((hkind d hd).trans c);exact⟨_,_,rfl,i,rfl⟩)
  refine⟨ue ah,λQ q=>ym (T:=.type "tuple") t1 0x1 t3 0x4 q,λx y Q hx hy q=>tupl ah x y Q hx hy (λd hd=>?_) (λh=>by cases h) q⟩;obtain⟨i,rr,rfl⟩:=aNt ((hkind d hd).trans c);exact⟨_,_,rfl⟩
theorem y_(I:Inv X Ψ σ H s)(hu:X.A.units+20<bX)(vr:Vals xs its)(hn:its.length<=ba)(r:bT All H xs ds)(hc:cG ds=ae)
 (hcol:∀(Q':aa aj->ao->Prop) (E':aj->ao->Prop),(∀h1 tk,(∀b o,s.heap.get? b=ab o->h1.get? b=ab o)->s.heap.objs.size<=h1.objs.size->Q' its {s with heap:=h1,toks:=tk})->ϑ (av X.prog X.w) X.A.in1 (oh v) Q' E' s)
 (q:∀p xs',H p=ai->bT All H xs' (yP ds)->Q (.ref p) (upd H p (.lst xs'))):ϑ (av X.prog X.w) X.A (call (.builtin "sorted") [v]) (EP X Ψ σ Q) X.xe s:=by
 have hz:xs.length<=ba:=by rw[vr.length];exact hn
 -- what comes,told by its data
 have fin:∀(h1:az)(tk:af),(∀b o,s.heap.get? b=ab o->h1.get? b=ab o)->s.heap.objs.size<=h1.objs.size->∀arr:ax jj,arr.Perm (e9 its)->(∀i j,i<=j->j<arr.size->leE (lO H (TS.gt arr i).1) (lO H (TS.gt arr j).1)=ae)->EP X Ψ σ Q (.ref h1.objs.size) {s with heap:=TS.aMf h1 its (arr.map (·.2)),toks:=tk}:=by
  intro h1' tk kp hle arr hp hs;have hpl:arr.toList.Perm (its.zip its):=by rw[<-DJ];exact yn.mp hp
  have hmem:∀p∈arr.toList,p.1=p.2/\p.1∈its:=λp hp'=>DL (hpl.mem_iff.mp hp')
  have e1:(arr.map (·.2)).toList=arr.toList.map (·.1):=by
   rw[yo];exact mz λp hp'=>(hmem p hp').1.symm
  -- the values and their data
  have all:∀l:aa jj,(∀p∈l,p∈arr.toList)->∃ys,Vals ys (l.map (·.1))/\bT All H ys (l.map λp=>lO H p.1):=by
   intro l;induction l with
   |nil=>intro _;exact⟨[],.nil,.nil⟩
   |cons p l ih=>
    intro h;obtain⟨ys,h1,h2⟩:=ih λp hp'=>h p (bp _ hp')
    obtain⟨v,d,rv,rp,hd⟩:=VB r vr (hmem p (h p (bj ..))).2;refine⟨v::ys,.cons rv h1,?_⟩;rw[bd,xR (fL hc hd).1 (fL hc hd).2.1 rv rp];exact .cons rp h2
  obtain⟨ys,h1,h2⟩:=all arr.toList λ_ h=>h
  have dats:its.map (lO H)=ds:=by
   clear all h1 h2 hp hs hpl hmem e1;have:∀{xs:aa V}{es:aa D}{us:aa aj},bT All H xs es->Vals xs us->(∀d∈es,d∈ds)->us.map (lO H)=es:=by
    intro xs es us r;induction us generalizing xs es with
    |nil=>intro v _;cases v;cases r;rfl
    |cons u us ih=>
     intro v hsub;cases v with
     |cons v0 vt=>
      cases r with
      |cons r0 rt=>
       have hd:=hsub _ (bj ..);rw[bd,ih rt vt λd hd=>hsub d (bp _ hd),xR (fL hc hd).1 (fL hc hd).2.1 v0 r0]
   exact this r vr λ_ h=>h
  have hperm:(arr.toList.map λp=>lO H p.1).Perm ds:=by
   have:=hpl.map λp=>lO H p.1
   have e2:(its.zip its).map (λp=>lO H p.1)=ds:=by
    have:(its.zip its).map (λp=>lO H p.1)=((its.zip its).map Prod.fst).map (lO H):=by rw[cu];rfl
    rw[this,Bx (aT _),dats]
   rwa [e2] at this
  have hsorted:(arr.toList.map λp=>lO H p.1).Pairwise λa b=>leE a b=ae:=by
   rw[kf,ug];intro i j hi hj hij;have:=hs i j (lz hij) (by simpa using hj);have g:∀k (hk:k<arr.toList.length),TS.gt arr k=arr.toList[k]:=λk hk=>by
    unfold TS.gt;have hk':k<arr.size:=by simpa using hk
    simp[mw,hk']
   rwa [g i hi,g j hj] at this
  have eq:(arr.toList.map λp=>lO H p.1)=yP ds:=by
   refine yW (λd hd=>?_) (hperm.trans (fY ds).symm) hsorted (kI ds);exact(fL hc (hperm.mem_iff.mp hd)).1
  rw[eq] at h2;rw[<-e1] at h1;have hfr:H h1'.objs.size=ai:=I.hok.fresh hle;obtain⟨ee,he⟩:=TS.aJ4 h1' its (arr.map (·.2));refine⟨.ref h1'.objs.size,_,I.laid (λb o e=>TS.aEn (kp b o e)) hle ?_,rfl,q _ ys hfr h2⟩;refine⟨?_,(arr.map (·.2)).toList,ee,h1,by rw[he]⟩;rw[h2.length,(fY ds).length_eq,<-r.length];exact hz
 have h64:its.length<64:=by
  unfold cG at hc;rw[aI] at hc;rw[<-vr.length,r.length];exact c8 hc.1
 refine TS.YK h64 hn hcol (λhh tk kp hle h2=>?_) (λhh tk kp hle h2=>?_)
 ·have I':Inv X Ψ σ H {s with heap:=TS.aJ3 hh its,toks:=tk}:=I.kept λb o e=>TS.aEm (kp b o e)
  have hu2:X.A.in1.in1.units+aY<bX:=by show X.A.units+1+1+12<bX;lia
  obtain⟨κ,k1,k2⟩:=aB6 I' hu2 hc r vr h2;have it:∀i,om (e9 its) i=(its.getD i .none,its.getD i .none):=PySem.W.kas_item_eq its;obtain⟨rk,hrk⟩:=TS.aJ2 its.length (λi j=>ϒ (enc (lO H (its.getD i .none))<enc (lO H (its.getD j .none)))) (λi=>by simp[By]) (λi j k h1 h2=>by
   simp only[dL] at *;exact List.lt_trans h1 h2) (λi j k h=>by
   simp only[dL] at *;by_cases q:enc (lO H (its.getD i .none))<enc (lO H (its.getD j .none))
   ·exact .inl q
   ·exact .inr (A6 (A7.mp q) h))
  have mem:∀i,i<its.length->sU H ds (its.getD i .none,its.getD i .none):=λi hi=>by
   rw[b9,d5 hi];exact VB r vr (ol hi)
  refine⟨κ,rk,k1,λi j hi hj C c=>?_,λp ok up=>fin hh tk kp hle _ ?_ λi j a1 a2=>?_⟩
  ·unfold PySem.W.kas_cmp;rw[it,it];rw[hrk i j hi] at c;exact k2 _ _ C (mem i hi) (mem j hj) c
  ·have e:=PySem.W.kas_range (e9 its);rw[Bz] at e;have q:=(yn.mp ok).map (om (e9 its));refine yn.mpr ?_;rw[yo];exact q.trans (by rw[<-yo,e])
  ·have sz:(p.map (om (e9 its))).size=its.length:=by rw[uc,ok.size]
   rw[sz] at a2;have g:∀k,k<its.length->TS.gt (p.map (om (e9 its))) k=om (e9 its) (p.getD k 0):=λk hk=>by
    have hk:k<p.size:=by rw[ok.size];exact hk
    unfold TS.gt;simp[mw,hk]
   rw[g i 0x1,g j a2,it,it];have u:=up i j a1 a2;have:=hrk (p.getD j 0) (p.getD i 0) (ok.lt 0x1 j);rw[cw (by exact Bj.mpr u)] at this;unfold leE;rw[<-this];rfl
 ·refine fin hh tk kp hle _ (Bg _) λi j a1 a2=>?_
  rw[Bz] at a2;rw[show i=j by lia];simp[leE,By]
theorem YL(I:Inv X Ψ σ H s)(hu:X.A.units+20<bX)(hl:SqL X.K H l xs)(r:bT All H xs ds)(hc:cG ds=ae)
 (q:∀p xs',H p=ai->bT All H xs' (yP ds)->Q (.ref p) (upd H p (.lst xs'))):ϑ (av X.prog X.w) X.A (call (.builtin "sorted") [.ref l]) (EP X Ψ σ Q) X.xe s:=by
 obtain⟨its,vr,pl,hz⟩:=I.list hl;have hn:its.length<=ba:=by rw[<-vr.length];exact hz
 refine y_ I hu vr hn r hc (λQ' E' h=>DM pl.isList (h _ s.toks (λb o e=>?_) ?_) hn) q
 ·rw[Bo _ _ _ _ (cn (bz e))];exact bw _ e
 ·rw[yk,DO];exact gp _
end
end
open PySem.Spec PyProof.Rows
section
variable [KFrag]
def kR(H:Hp)(d:D)(fr:aq)(Q:VK):Prop:=∀v H',b_ H H'->Rep All H' v d->(fr=ae->Rep (New H) H' v d)->Q v H'
noncomputable def gE(f:FE)(fr:aq):TE:=λσ H Q=>∃ρ d,ER H σ ρ/\f ρ=.ok d/\kR H d fr Q
noncomputable def gT(f:FT):TT:=λσ H Q=>∃ρ b,ER H σ ρ/\f ρ=.ok b/\∀H',b_ H H'->Q b H'
noncomputable def gA(f:FA)(fr:aq):TA:=λσ H Q=>∃ρ ds,ER H σ ρ/\f ρ=.ok ds/\∀vs H',b_ H H'->bT All H' vs ds->(fr=ae->bT (New H) H' vs ds)->Q vs H'
theorem kR.self{fr:aq}(q:kR H d fr Q)(r:Rep All H v d)(r2:fr=ae->Rep (New H) H v d):Q v H:=q v H (b_.refl H) r r2
theorem kR.imp{fr fr':aq}(q:kR H d fr Q)(s:b_ H H')(h:fr=ae->fr'=ae):kR H' d fr' Q:=λv H2 s2 r n=>q v H2 (s.trans s2) r λhf=>(n (h hf)).mono (b_.new s)
theorem kR.int{fr:aq}{Q:VK}(q:kR H (.int i) fr Q):Q (.int i) H:=q.self (.int i) λ_=>.int i
theorem kR.bl{fr:aq}{Q:VK}(q:kR H (.bl i) fr Q):Q (.bl i) H:=q.self (.bl i) λ_=>.bl i
theorem kR.str{fr:aq}{Q:VK}(q:kR H (.str i) fr Q):Q (.str i) H:=q.self (.str i) λ_=>.str i
theorem kR.non{fr:aq}{Q:VK}(q:kR H .non fr Q):Q .non H:=q.self .non λ_=>.non
noncomputable def r2(f:D->D->Res D)(fr:aq):R2:=λx y H Q=>∃a b d,Rep All H x a/\Rep All H y b/\f a b=.ok d/\kR H d fr Q
def r1(f:D->Res D)(fr:aq):V->Hp->VK->Prop:=λx H Q=>∃a d,Rep All H x a/\f a=.ok d/\kR H d fr Q
def rs(f:aa D->Res D)(fr:aq):aa V->Hp->VK->Prop:=λxs H Q=>∃ds d,bT All H xs ds/\f ds=.ok d/\kR H d fr Q
theorem bB{f:α->Res β}(h:(do let x <- m;f x)=.ok b):∃a,m=.ok a/\f a=.ok b:=Res.aIx h
section
variable {X:Cx} {a b e:Expr} {pos:cj} {fa fb fe:FE} {ra rb re:aq} {ga:FT}
theorem ER.var(E:ER H σ ρ)(h:gM i ρ=.ok d):∃v,σ[i]?=ab (ab v)/\Rep All H v d/\ρ.getD i .uD=d:=by
 have:ρ.getD i .uD=d/\d≠.uD:=by
  unfold gM at h;split at h
  ·exact bx h
  ·cases h;refine⟨rfl,λz=>?_⟩;rename_i q;exact q z
 obtain⟨e1,e2⟩:=this;obtain⟨v,h1,h2⟩:=E i (by rw[e1];exact e2);exact⟨v,h1,by rw[e1] at h2;exact h2,e1⟩
theorem aB(hN:X.N[i]?=ab x:=by exact rfl)(hv:Vis X.env.scope x:=by trivial)(hd:nDb x:=by decide)(hcd:nCd x:=by decide):PE X (.Name x pos) (gE (gM i) ah):=
 PE.imp (fX hN hv hd hcd) λσ H Q z0=>by
  obtain⟨ρ,d,E,h,q⟩:=z0;obtain⟨v,h1,h2,_⟩:=E.var h;exact⟨v,h1,q.self h2 (λz=>by cases z)⟩
theorem aF{i j}:PE X (.Constant (.int i) j pos) (gE (bC (.int i)) ae):=PE.imp aMq λσ H Q z0=>by obtain⟨ρ,d,E,h,q⟩:=z0;cases h;exact q.int
theorem lQ{i j}:PE X (.Constant (.bool i) j pos) (gE (bC (.bl i)) ae):=PE.imp aR0 λσ H Q z0=>by obtain⟨ρ,d,E,h,q⟩:=z0;cases h;exact q.bl
theorem iW{i j}:PE X (.Constant (.str i) j pos) (gE (bC (.str i)) ae):=PE.imp aMs λσ H Q z0=>by obtain⟨ρ,d,E,h,q⟩:=z0;cases h;exact q.str
theorem uO{j}:PE X (.Constant .none j pos) (gE (bC .non) ae):=PE.imp aMr λσ H Q z0=>by obtain⟨ρ,d,E,h,q⟩:=z0;cases h;exact q.non
theorem two{fr:aq}{σ:L2.St}{H:Hp}{Q:VK}(h:gE (b2 f fa fb) fr σ H Q):tOp (r2 f fr) (gE fa ra) (gE fb rb) σ H Q:=by
 obtain⟨ρ,d,E,h,q⟩:=h;obtain⟨x,h1,h⟩:=bB h;obtain⟨y,h2,h⟩:=bB h;refine⟨ρ,x,E,h1,λv H1 s1 rp1 _=>⟨ρ,y,E.same s1,h2,λu H2 s2 rp2 _=>⟨x,y,d,rp1.same s2,rp2,h,q.imp (s1.trans s2) id⟩⟩⟩
theorem bF{o:Operator}{f:D->D->Res D}{fr:aq}(ho:OpR X (e6 o) (r2 f fr))(ha:PE X a (gE fa ra))(hb:PE X b (gE fb rb)):PE X (.BinOp a o b pos) (gE (b2 f fa fb) fr):=PE.imp (aRb ho ha hb) λ_ _ _=>two
theorem DQ{o:tN}{f:D->D->Res D}{fr:aq}(ho:OpR X (dh o) (r2 f fr))(ha:PE X a (gE fa ra))(hb:PE X b (gE fb rb))(hm:lT o b=ah):PE X (.Compare a [o] [b] pos) (gE (b2 f fa fb) fr):=PE.imp (aIc ho ha hb hm) λ_ _ _=>two
theorem bO{o:tN}{f:D->D->Res D}{fr:aq}(ho:OpR X (dh o) (r2 f fr))(ha:PE X a (gE fa ra))(hb:PE X b (gE fb rb))(hm:lT o b=ah):PT X (.Compare a [o] [b] pos) (gT (bTB (b2 f fa fb))):=
 PT.imp (aIe ho ha hb hm) λσ H Q z0=>by
  obtain⟨ρ,k,E,h,q⟩:=z0;obtain⟨d,h1,h2⟩:=bB h;refine two ⟨ρ,d,E,h1,λv H' s r _=>?_⟩;cases d<;>simp only[asB] at h2<;>cases h2
  cases r.inv;exact⟨_,rfl,q H' s⟩
theorem aB7{f:D->Res D}{fr:aq}(ho:UnR X (so o) (r1 f fr))(ha:PE X a (gE fa ra)):PE X (.UnaryOp o a pos) (gE (b1 f fa) fr):=
 PE.imp (aRc ho ha) λσ H Q z0=>by
  obtain⟨ρ,d,E,h,q⟩:=z0;obtain⟨x,h1,h⟩:=bB h;exact⟨ρ,x,E,h1,λv H1 s1 rp1 _=>⟨x,d,rp1,h,q.imp s1 id⟩⟩
theorem aRq{f:D->D->Res D}{fr:aq}(ho:IxR X (r2 f fr))(ha:PE X a (gE fa ra))(hb:PE X b (gE fb rb))(hs:Q5 b):PE X (.Subscript a b pos) (gE (b2 f fa fb) fr):=PE.imp (aRm ho ha hb hs) λ_ _ _=>two
theorem aT7(r:Rep All H v d)(h:aT4 d=.ok k)(hd:∀kvs,d≠.dct kvs)(hs:∀xs,d≠.scr xs):aRf X.K v H k:=by
 cases r with
 |non=>cases h;rfl
 |bl b=>cases h;rfl
 |int i=>cases h;rfl
 |str x=>
  replace h:(if ϒ (x.length<=lim) then ι ((x.length:ag)!=0) else .bad)=.ok k:=h;split at h
  ·rename_i hl;cases h;exact⟨c9 (c8 hl) (by rw[di];decide),rfl⟩
  ·exact bx h
 |tup e rr=>cases h;exact .inr (.inl ⟨_,.of e,by cases rr<;>rfl⟩)
 |lst e p rr=>cases h;exact .inl ⟨_,.of e,by cases rr<;>rfl⟩
 |frz e rr=>exact ay rfl (hs _)
 |dK e p rr n=>exact ay rfl (hd _)
 |dT e p rr n=>exact ay rfl (hd _)
 |fdK e rr n=>exact bx h
 |fdT e rr n=>exact bx h
 |exc n e q=>exact bx h
 |ins n e q=>exact bx h
 |adr=>exact bx h
 |dlK _ _ _ _=>exact bx h
 |dlT _ _ _ _=>exact bx h
 |cel e p rr=>exact bx h
theorem kJ(ha:PE X a (gE fa ra))(he:∀whole,ky a X.env whole=(do let v <- whole;kC a.pos;i9 [v] (lI v)):=by intro _;rfl):PT X a (gT (bTr fa)):=
 PT.imp (UG ha he) λσ H Q z0=>by
  obtain⟨ρ,k,E,h,q⟩:=z0;obtain⟨d,h1,h2⟩:=bB h;refine⟨ρ,d,E,h1,λv H' s r _=>⟨k,aT7 r ?_ ?_ ?_,q H' s⟩⟩
  ·cases d<;>first|exact h2|exact bx h2
  ·rintro kvs rfl;exact bx h2
  ·rintro kvs rfl;exact bx h2
theorem kO(ha:PT X a (gT ga)):PT X (.UnaryOp .Not a pos) (gT (KC ga)):=PT.imp (aGk ha) λσ H Q z0=>by
  obtain⟨ρ,k,E,h,q⟩:=z0;obtain⟨d,h1,h2⟩:=bB h;cases h2;exact⟨ρ,d,E,h1,λH' s=>q H' s⟩
theorem aB8{op}(ha:PE X a (gE fa ra)):PE X (.BoolOp op [a] pos) (gE fa ra):=aMw ha
theorem aB9(h:asB d=.ok k):d=.bl k:=by cases d<;>simp only[asB] at h<;>cases h;rfl
theorem aNu(h:asI d=.ok k):d=.int k:=by cases d<;>simp only[asI] at h<;>cases h;rfl
theorem aNv(ha:PE X a (gE fa ra)):PE X (.UnaryOp .Not a pos) (gE (aNq fa) ae):=PE.imp (aMy ha) λσ H Q z0=>by
  obtain⟨ρ,k,E,h,q⟩:=z0;obtain⟨d,h1,h⟩:=bB h;obtain⟨z,h2,h⟩:=bB h;cases h;cases aB9 h2;exact⟨ρ,_,E,h1,λv H' s r _=>by cases r.inv;exact⟨_,rfl,(q.imp s id).bl⟩⟩
theorem L_{rest:aa Expr}(ha:PE X a (gE fa ra))(hb:PE X (.BoolOp .And (b::rest) pos) (gE fb rb)):PE X (.BoolOp .And (a::b::rest) pos) (gE (LC fa fb) rb):=PE.imp (aMx ha hb) λσ H Q z0=>by
  obtain⟨ρ,k,E,h,q⟩:=z0;obtain⟨d,h1,h⟩:=bB h;obtain⟨z,h2,h3⟩:=bB h;cases aB9 h2;refine⟨ρ,_,E,h1,λv H' s r _=>?_⟩;cases r.inv;refine⟨_,rfl,?_⟩;cases z with
  |true=>rw[al rfl];rw[al rfl] at h3;exact⟨ρ,k,E.same s,h3,q.imp s id⟩
  |false=>rw[au 0x2];rw[au 0x2] at h3;cases h3;exact(q.imp s id).bl
theorem aH:PA X [] (gA aO ae):=PA.imp j8 λσ H Q z0=>by obtain⟨ρ,ds,E,h,q⟩:=z0;cases h;exact q [] H (b_.refl H) .nil λ_=>.nil
theorem aA(he:PE X e (gE fe re))(hes:PA X es (gA f r))(hs:zSE X e es:=by rfl):PA X (e::es) (gA (aC fe f) (re&&r)):=PA.imp (eG he hes hs) λσ H Q z0=>by
  obtain⟨ρ,ds,E,h,q⟩:=z0;obtain⟨x,h1,h⟩:=bB h;obtain⟨xs,h2,h⟩:=bB h;cases h;refine⟨ρ,x,E,h1,λv H1 s1 r1 n1=>⟨ρ,xs,E.same s1,h2,λvs H2 s2 r2 n2=>q _ _ (s1.trans s2) (.cons (r1.same s2) r2) λhf=>?_⟩⟩;obtain⟨f1,f2⟩:=(aI _ _▸hf:re=ae/\r=ae)
  exact .cons ((n1 f1).same s2) ((n2 f2).mono (b_.new s1))
theorem bH{x1}(h:PA X es (gA f r)):PE X (.Tuple es x1 pos) (gE (cM f) r):=PE.imp (aAc h) λσ H Q z0=>by
  obtain⟨ρ,d,E,h,q⟩:=z0;obtain⟨xs,h1,h⟩:=bB h;split at h
  ·rename_i hl;cases h;refine⟨ρ,xs,E,h1,λvs H1 s1 r1 n1=>⟨?_,λp hp=>?_⟩⟩
   ·rw[r1.length];exact c9 (c8 hl) (by rw[di];decide)
   ·have sp:b_ H1 (upd H1 p (.tup vs)):=b_.upd hp;exact q _ _ (s1.trans sp) (.tup aK (r1.same sp)) λhf=>.tup aK ((n1 hf).same sp)
  ·exact bx h
theorem lR(h:PA X es (gA f r)):PE X (.List es pos) (gE (BR f) r):=PE.imp (aAd h) λσ H Q z0=>by
  obtain⟨ρ,d,E,h,q⟩:=z0;obtain⟨xs,h1,h⟩:=bB h;split at h
  ·rename_i hl;cases h;refine⟨ρ,xs,E,h1,λvs H1 s1 r1 n1=>⟨?_,λp hp=>?_⟩⟩
   ·rw[r1.length];exact c9 (c8 hl) (by rw[di];decide)
   ·have sp:b_ H1 (upd H1 p (.lst vs)):=b_.upd hp;exact q _ _ (s1.trans sp) (.lst aK trivial (r1.same sp)) λhf=>.lst aK (s1.free hp) ((n1 hf).same sp)
  ·exact bx h
theorem uP:PE X (.Dict [] [] pos) (gE (bC (.dct [])) ae):=PE.imp aEc λσ H Q z0=>by
  obtain⟨ρ,d,E,h,q⟩:=z0;cases h;exact λp hp=>q _ _ (b_.upd hp) (.dK aK trivial .nil fE) λ_=>.dK aK hp .nil fE
end
section
variable {a b e:Expr}
theorem m7(h:ϒ (n<=lim)=ae):n<=ba:=c9 (c8 h) (by rw[di];decide)
theorem MF(h:ϒ (n<lim)=ae):n<ba:=cK (c8 h) (by rw[di];decide)
theorem Rep.aNw(r:Rep P H v (.lst ds)):∃a xs,v=.ref a/\Rd H a (.lst xs)/\bT P H xs ds:=by
 cases r with
 |lst e p rr=>exact⟨_,_,rfl,.inl e,rr⟩
theorem PW.imp(h:PW X e t)(i:∀σ H Q,t' σ H Q->t σ H Q):PW X e t':=λwh Ψ s σ H Q I q=>h wh Ψ s σ H Q I (i σ H Q q)
theorem RT(ha:PT X a (gT ga)):PW X (.BoolOp .And [a] pos) (gT ga):=aI9 ha
theorem jX(ha:PT X a (gT ga)):PW X (.BoolOp .Or [a] pos) (gT ga):=aMu ha
theorem aBa{rest:aa Expr}(ha:PT X a (gT ga))(hb:PW X (.BoolOp .And (b::rest) pos) (gT gb)):PW X (.BoolOp .And (a::b::rest) pos) (gT (aDt ga gb)):=PW.imp (aMv ha hb) λσ H Q z0=>by
 obtain⟨ρ,k,E,h,q⟩:=z0;obtain⟨z,h1,h3⟩:=bB h;refine⟨ρ,z,E,h1,λH' s=>?_⟩;cases z with
 |true=>rw[al rfl];rw[al rfl] at h3;exact⟨ρ,k,E.same s,h3,λH2 s2=>q H2 (s.trans s2)⟩
 |false=>rw[au 0x2];rw[au 0x2] at h3;cases h3;exact q H' s
theorem gU{rest:aa Expr}(ha:PT X a (gT ga))(hb:PW X (.BoolOp .Or (b::rest) pos) (gT gb)):PW X (.BoolOp .Or (a::b::rest) pos) (gT (bOr ga gb)):=PW.imp (aR1 ha hb) λσ H Q z0=>by
 obtain⟨ρ,k,E,h,q⟩:=z0;obtain⟨z,h1,h3⟩:=bB h;refine⟨ρ,z,E,h1,λH' s=>?_⟩;cases z with
 |true=>rw[al rfl];rw[al rfl] at h3;cases h3;exact q H' s
 |false=>rw[au 0x2];rw[au 0x2] at h3;exact⟨ρ,k,E.same s,h3,λH2 s2=>q H2 (s.trans s2)⟩
theorem bU:OpR X (e6 .Add) (r2 (bI .add) ae):=by
 intro Ψ s σ H x y v u Q I rx ry h;obtain⟨a,b,d,p,q,e,k⟩:=h;cases p with
 |int i=>
  cases q with
  |int j=>cases e;exact aN3 Ψ s σ H _ _ v u Q I rx ry ⟨i,j,rfl,rfl,k.int⟩
  |_=>exact bx e
 |str i=>
  cases q with
  |str j=>
   replace e:(if ϒ (i.length+j.length<=lim) then ι (δ (i++j)) else .bad)=.ok d:=e;split at e
   ·rename_i hl;cases e;exact X5 Ψ s σ H _ _ v u Q I rx ry ⟨i,j,rfl,rfl,m7 hl,k.str⟩
   ·exact bx e
  |_=>exact bx e
 |non=>exact bx e
 |bl _=>exact bx e
 |tup _ _=>exact bx e
 |dK _ _ _ _=>exact bx e
 |dT _ _ _ _=>exact bx e
 |fdK _ _ _=>exact bx e
 |fdT _ _ _=>exact bx e
 |exc _ _ _=>exact bx e
 |ins _ _ _=>exact bx e
 |adr=>exact bx e
 |dlK _ _ _ _=>exact bx e
 |dlT _ _ _ _=>exact bx e
 |cel _ _ _=>exact bx e
 |@lst a1 xs ds e1 p1 r1=>
  have hR:Rep All H (.ref a1) (.lst ds):=.lst e1 p1 r1;cases b with
  |lst es=>
   replace e:(if ϒ (ds.length+es.length<=lim)&&θ ds&&θ es then ι (π (ds++es)) else .bad)=.ok d:=e;split at e
   ·rename_i hl;cases e;rw[aI,aI] at hl;obtain⟨⟨hl,hp1⟩,hp2⟩:=hl;obtain⟨l1,xs1,e1',rd1,rr1⟩:=hR.aNw;obtain⟨l2,xs2,rfl,rd2,rr2⟩:=q.aNw;cases e1';cases rx;cases ry;obtain⟨z,its,n,vr1,ee1⟩:=rd1.ok I.hok;obtain⟨z2,its2,n2,vr2,ee2⟩:=rd2.ok I.hok;have hz:xs1.length+xs2.length<=ba:=by rw[rr1.length,rr2.length];exact m7 hl
    have t1:=vr1.length;have t2:=vr2.length;refine PySem.P.add_list ee1 ee2 ?_ (by rw[bS,bS];lia);have ea:its.toArray++its2.toArray=(its++its2).toArray:=by simp
    rw[ea];refine⟨.ref _,_,I.aT3 (vr1.append vr2) (by rw[bg];lia),rfl,?_⟩;have sp:b_ H (upd H s.heap.objs.size (.lst (xs1++xs2))):=b_.upd I.fresh;exact k _ _ sp (.lst aK trivial ((rr1.append rr2).same sp)) λ_=>.lst aK I.fresh (((rr1.bM hp1).append (rr2.bM hp2)).same sp)
   ·exact bx e
  |_=>exact bx e
 |frz _ _=>exact bx e
theorem RV(h:OpR X f (rI C g))
 (hi:∀i j d,op (.int i) (.int j)=.ok d->C i j/\∃k,d=.int k/\g i j=.int k)(hn:∀a b d,op a b=.ok d->(∃i,a=.int i)/\∃j,b=.int j):OpR X f (r2 op ae):=by
 rintro Ψ s σ H x y v u Q I rx ry ⟨a,b,d,p,q,e,k⟩;obtain⟨⟨i,rfl⟩,⟨j,rfl⟩⟩:=hn a b d e;cases p.inv;cases q.inv;obtain⟨hc,m,rfl,hm⟩:=hi i j d e;exact h Ψ s σ H _ _ v u Q I rx ry ⟨i,j,rfl,rfl,hc,by rw[hm];exact k.int⟩
theorem xT(ho:o≠.add){a b d:D}(e:bI o a b=.ok d):(∃i,a=.int i)/\∃j,b=.int j:=by
 cases a with
 |int i=>
  cases b with
  |int j=>exact⟨⟨i,rfl⟩,j,rfl⟩
  |_=>cases o<;>first|exact bx e|exact ay rfl ho
 |_=>cases o<;>first|exact bx e|exact ay rfl ho
theorem VD:OpR X (e6 .Sub) (r2 (bI .sub) ae):=by
 rintro Ψ s σ H x y v u Q I rx ry ⟨a,b,d,p,q,e,k⟩;obtain⟨⟨i,rfl⟩,j,rfl⟩:=xT 0x4 e;cases p.inv;cases q.inv;cases e;exact aN4 Ψ s σ H _ _ v u Q I rx ry ⟨_,_,rfl,rfl,k.int⟩
theorem aNx:OpR X (e6 .Mult) (r2 (bI .mul) ae):=by
 refine RV aN5 (λi j d e=>?_) λa b d e=>xT 0x4 e
 ·replace e:(if lN i||lN j then ι (ε (i*j)) else .bad)=.ok d:=e;split at e
  ·rename_i hl;cases e;refine⟨?_,_,rfl,rfl⟩;simp only[lN,fT,aI,dL] at hl;exact hl
  ·exact bx e
theorem fU:OpR X (e6 .FloorDiv) (r2 (bI .fdiv) ae):=by
 refine RV aIb (λi j d e=>?_) λa b d e=>xT 0x4 e
 ·replace e:(if ϒ (0<j)&&ϒ (j<1073741824) then ι (ε (i / j)) else .bad)=.ok d:=e;split at e
  ·rename_i hl;cases e;refine⟨?_,_,rfl,rfl⟩;simp only[aI,dL] at hl;exact hl
  ·exact bx e
theorem dC:OpR X (e6 .Mod) (r2 (bI .mod) ae):=by
 refine RV aN6 (λi j d e=>?_) λa b d e=>xT 0x4 e
 ·replace e:(if ϒ (0<j) then ι (ε (i % j)) else .bad)=.ok d:=e;split at e
  ·rename_i hl;cases e;refine⟨?_,_,rfl,rfl⟩;simp only[aI,dL] at hl;exact hl
  ·exact bx e
theorem MJ:UnR X (so .USub) (r1 aAt ae):=by
 rintro Ψ s σ H x v Q I rx ⟨a,d,p,e,k⟩;cases a<;>try exact bx e
 cases e;cases p.inv;exact aN7 Ψ s σ H _ v Q I rx ⟨_,rfl,k.int⟩
theorem oE(hu:X.A.units+20<bX):OpR X (dh .Eq) (r2 (cT .eq) ae):=by
 rintro Ψ s σ H x y v u Q I rx ry ⟨a,b,d,p,q,e,k⟩;replace e:(if a.fP aY&&b.fP aY then ι (υ (eqD a b)) else .bad)=.ok d:=e;split at e
 ·rename_i hl;cases e;rw[aI] at hl;exact(LR I aY X.A (by have:aY=12:=rfl;lia) hl.1 hl.2 p q rx ry).1 X.prog X.w X.xe _ ⟨.bl _,H,I,rfl,k.bl⟩
 ·exact bx e
theorem sY(hu:X.A.units+20<bX):OpR X (dh .NotEq) (r2 (cT .ne) ae):=by
 rintro Ψ s σ H x y v u Q I rx ry ⟨a,b,d,p,q,e,k⟩;replace e:(if a.fP aY&&b.fP aY then ι (υ (!eqD a b)) else .bad)=.ok d:=e;split at e
 ·rename_i hl;cases e;rw[aI] at hl;exact(LR I aY X.A (by have:aY=12:=rfl;lia) hl.1 hl.2 p q rx ry).2.1 X.prog X.w X.xe _ ⟨.bl _,H,I,rfl,k.bl⟩
 ·exact bx e
theorem VF(o:g_)(hu:X.A.units+20<bX):OpR X (dh o.op) (r2 (cT (.ord o)) ae):=by
 rintro Ψ s σ H x y v u Q I rx ry ⟨a,b,d,p,q,e,k⟩;replace e:(if a.fP aY&&b.fP aY then (match j_ o a b with|some k=>ι (υ k)|none=>.bad) else .bad)=.ok d:=e;split at e
 ·rename_i hl;rw[aI] at hl;split at e
  ·rename_i m hm;cases e;have:=RP I o aY X.A (by have:aY=12:=rfl;lia) hl.1 hl.2 p q rx ry hm X.prog X.w X.xe _ (show EP X Ψ σ Q (.bool m) s from ⟨.bl _,H,I,rfl,k.bl⟩);cases o<;>exact this
  ·exact bx e
 ·exact bx e
theorem aJ7(hu:X.A.units+20<bX):OpR X (dh .Lt) (r2 (cT (.ord .lt)) ae):=VF .lt hu
theorem aRr(hu:X.A.units+20<bX):OpR X (dh .LtE) (r2 (cT (.ord .le)) ae):=VF .le hu
theorem YM(hu:X.A.units+20<bX):OpR X (dh .Gt) (r2 (cT (.ord .gt)) ae):=VF .gt hu
theorem aNy(hu:X.A.units+20<bX):OpR X (dh .GtE) (r2 (cT (.ord .ge)) ae):=VF .ge hu
theorem aNz:OpR X (dh .Is) (r2 (cT .isN) ae):=by
 rintro Ψ s σ H x y v u Q I rx ry ⟨a,b,d,p,q,e,k⟩;have hb:b=.non:=by
  cases b with
  |non=>rfl
  |_=>cases a<;>exact bx e
 subst hb;cases q.inv;refine aN8 Ψ s σ H x .non v u Q I rx ry ⟨rfl,?_⟩;cases p<;>cases e<;>exact k.bl
end
end
variable [KFrag]
theorem aBb(k q:Key):eqD (kD k) (kD q)=ϒ (k=q):=by
 cases k<;>cases q<;>simp[kD,yO,aNm,aNn,aNo,Bool.beq_eq_decide_eq]
theorem aGw:∀(k q:aa Key),xN (k.map kD) (q.map kD)=ϒ (k=q)
 |[],[]=>by simp[xN]
 |[],_::_=>by simp[xN]
 |_::_,[]=>by simp[xN]
 |a::k,b::q=>by
  rw[bd,bd,xN,aBb,aGw k q];by_cases h:a=b<;>by_cases h':k=q<;>simp[h,h']
theorem aJ8(k q:aa Key):eqD (.tup (k.map kD)) (.tup (q.map kD))=ϒ (k=q):=by rw[aNp,aGw]
theorem aJ9:∀{kvs:aa (Key×V)}{ds:aa (D×D)},iJ P H kvs ds->(∃v d,DK kvs k=ab v/\eX ds (kD k)=ab d/\Rep P H v d)\/(DK kvs k=ai/\eX ds (kD k)=ai)
 |_,_,.nil=>.inr ⟨rfl,rfl⟩
 |_,_,.cons (k:=k') r t=>by
  by_cases h:k'=k
  ·subst h;exact .inl ⟨_,_,uK rfl,by rw[eX,aBb,al 0x2],r⟩
  ·rw[eX,aBb,au (by simpa using h),uL h];exact aJ9 t
theorem aJa:∀{kvs:aa (aa Key×V)}{ds:aa (D×D)},o6 P H kvs ds->(∃v d,DK kvs k=ab v/\eX ds (.tup (k.map kD))=ab d/\Rep P H v d)\/(DK kvs k=ai/\eX ds (.tup (k.map kD))=ai)
 |_,_,.nil=>.inr ⟨rfl,rfl⟩
 |_,_,.cons (k:=k') r t=>by
  by_cases h:k'=k
  ·subst h;exact .inl ⟨_,_,uK rfl,by rw[eX,aJ8,al 0x2],r⟩
  ·rw[eX,aJ8,au (by simpa using h),uL h];exact aJa t
theorem HF(h:mV d=ae)(r:Rep All H v d):∃k,v=kV k/\d=kD k:=by
 cases r<;>simp[mV] at h
 ·exact⟨.inl _,rfl,rfl⟩
 ·exact⟨.inr _,rfl,rfl⟩
theorem flat_keys:∀{vs:aa V}{ds:aa D},ds.all mV=ae->bT All H vs ds->∃ks:aa Key,vs=ks.map kV/\ds=ks.map kD
 |_,_,_,.nil=>⟨[],rfl,rfl⟩
 |_,_,h,.cons r t=>by
  rw[hZ,aI] at h;obtain⟨k,rfl,rfl⟩:=HF h.1 r;obtain⟨ks,rfl,rfl⟩:=flat_keys h.2 t;exact⟨k::ks,rfl,rfl⟩
theorem lU(h:keyOk k=ae)(r:Rep All H y k):(∃q,y=kV q/\k=kD q)\/∃(b:ak)(ks:aa Key),y=.ref b/\H b=ab (.tup (ks.map kV))/\k=.tup (ks.map kD):=by
 cases k<;>simp[keyOk] at h
 ·exact .inl (HF rfl r)
 ·exact .inl (HF rfl r)
 ·obtain⟨a,xs,rfl,e,rr⟩:=r.fH;obtain⟨ks,rfl,rfl⟩:=flat_keys (fA.mpr h) rr;exact .inr ⟨a,ks,rfl,e,rfl⟩
theorem m8(k:Key):isTup (kD k)=ah:=by cases k<;>rfl
section
variable {a:ak}
theorem HH(e:H a=ab o):upd (upd H a o') a o=H:=by
 rw[QW]
 funext b
 by_cases h:b=a
 ·subst h;rw[aK,e]
 ·rw[bG h]
theorem o7(I:Inv X Ψ σ H s)(e:H a=ab (.dK [])):Inv X Ψ σ (upd H a (.dT [])) s:=by
 obtain⟨z,hd,vs,rel,o,es,ep,h1,h2,h3,h4,h5,h6⟩:=K4 I.hok e;cases rel;refine I.write (by rw[e];trivial) (.inl rfl) (λ_ _ _ q=>q) ⟨o,h1⟩ ?_;refine⟨cz _,hd,[],.nil,o,es,ep,h1,h2,h3,?_,fE⟩;cases h5':es.toList with
 |nil=>rfl
 |cons _ _=>rw[h5'] at h5;cases h5
theorem lV(I:Inv X Ψ σ H s)(e:H a=ab (.dT [])):Inv X Ψ σ (upd H a (.dK [])) s:=by
 obtain⟨z,hd,vs,rel,o,es,ep,h1,h2,h3,h4,h5,h6⟩:=aEb I.hok e;cases rel;refine I.write (by rw[e];trivial) (.inl rfl) (λ_ _ _ q=>q) ⟨o,h1⟩ ?_;have h0:es.toList=[]:=h4;refine⟨cz _,hd,[],.nil,o,es,ep,h1,h2,h3,?_,?_,fE⟩
 ·intro x hx;have:x∈es.toList:=by simpa using hx
  rw[h0] at this;cases this
 ·rw[h0];exact .nil
theorem VG:∀{kvs:aa (Key×V)}{ds:aa (D×D)},iJ P H kvs ds->∀p∈ds,isTup p.1=ah
 |_,_,.nil,_,h=>by cases h
 |_,_,.cons r t,p,h=>by
  rcases bu.mp h with rfl|h
  ·exact m8 _
  ·exact VG t p h
theorem VH:∀{kvs:aa (aa Key×V)}{ds:aa (D×D)},o6 P H kvs ds->∀p∈ds,isTup p.1=ae
 |_,_,.nil,_,h=>by cases h
 |_,_,.cons r t,p,h=>by
  rcases bu.mp h with rfl|h
  ·rfl
  ·exact VH t p h
theorem aJb(I:Inv X Ψ σ H s)(rd:Rep All H x (.dct ds))(rk:Rep All H y k)(hk:GZ ds k=ae) :
  ∃H1 a o,x=.ref a/\Inv X Ψ σ H1 s/\(∀s',Inv X Ψ σ H1 s'->Inv X Ψ σ H s')/\aAl H1 a y o/\((o=ai/\eX ds k=ai)\/∃v d,o=ab v/\eX ds k=ab d/\Rep All H v d):=by
 unfold GZ at hk;rw[aI] at hk;obtain⟨h1,h2⟩:=hk;cases rd with
 |@dK a kvs ds e _ r n=>
  rcases lU h1 rk with ⟨q,rfl,rfl⟩|⟨b,ks,rfl,eb,rfl⟩
  ·refine⟨H,a,_,rfl,I,λ_ h=>h,.k e,?_⟩;rcases aJ9 r with ⟨v,d,g1,g2,g3⟩|⟨g1,g2⟩
   ·exact .inr ⟨v,d,g1,g2,g3⟩
   ·exact .inl ⟨g1,g2⟩
  ·cases r with
   |nil=>
    have e2:=HH (o':=.dT []) e;refine⟨upd H a (.dT []),a,ai,rfl,o7 I e,λs' I'=>?_,.t (k:=ks) aK (by rw[bG (GP eb e 0x7)];exact eb),.inl ⟨rfl,rfl⟩⟩;have:=lV I' aK;rwa [e2] at this
   |cons r t=>
    rw[hZ,m8] at h2;simp[isTup] at h2
 |@dT a kvs ds e _ r n=>
  rcases lU h1 rk with ⟨q,rfl,rfl⟩|⟨b,ks,rfl,eb,rfl⟩
  ·cases r with
   |nil=>
    have e2:=HH (o':=.dK []) e;refine⟨upd H a (.dK []),a,ai,rfl,lV I e,λs' I'=>?_,.k (k:=q) aK,.inl ⟨rfl,rfl⟩⟩;have:=o7 I' aK;rwa [e2] at this
   |cons r t=>
    rw[hZ,m8] at h2;simp[isTup] at h2
  ·refine⟨H,a,_,rfl,I,λ_ h=>h,.t e eb,?_⟩;rcases aJa (k:=ks) r with ⟨v,d,g1,g2,g3⟩|⟨g1,g2⟩
   ·exact .inr ⟨v,d,g1,g2,g3⟩
   ·exact .inl ⟨g1,g2⟩
theorem aEq(rd:Rep All H x (.dct ds))(hk:keyOk k=ae)(h:eX ds k=ab d):GZ ds k=ae:=by
 have one:∀{ds:aa (D×D)},eX ds k=ab d->∃p∈ds,eqD p.1 k=ae:=by
  intro ds;induction ds with
  |nil=>intro h;cases h
  |cons p ds ih=>
   intro h;obtain⟨p1,p2⟩:=p;rw[eX] at h;by_cases hq:eqD p1 k=ae
   ·exact⟨_,bj ..,hq⟩
   ·rw[au hq] at h;obtain⟨p,hp,e⟩:=ih h;exact⟨p,bp _ hp,e⟩
 obtain⟨p,hp,he⟩:=one h;unfold GZ;rw[hk,uh,fA];intro q hq;have same:isTup p.1=isTup k:=by
  obtain⟨p1,p2⟩:=p;cases k with
  |int _=>cases p1<;>first|rfl|exact fx0 he
  |str _=>cases p1<;>first|rfl|exact fx0 he
  |tup _=>cases p1<;>first|rfl|exact fx0 he
  |_=>exact fx0 hk
 cases rd with
 |dK e _ r n=>rw[VG r q hq,<-same,VG r p hp];rfl
 |dT e _ r n=>rw[VH r q hq,<-same,VH r p hp];rfl
end
section
variable {X:Cx} {a b c e:Expr} {pos:cj} {fa fb:FE} {ra rb:aq}
def QM(H:Hp)(u:aj):D:=by
 classical
 exact if h:∃d,d.fP aY=ae/\∃v,RelV v u/\Rep All H v d then Bq h else .non
theorem aBc(hq:d.fP aY=ae)(rv:RelV v u)(r:Rep All H v d):QM H u=d:=by
 unfold QM;have h:∃d,d.fP aY=ae/\∃v,RelV v u/\Rep All H v d:=⟨d,hq,v,rv,r⟩
 rw[oj h];obtain⟨h2,v',rv',r'⟩:=Br h;have:=rv'.inj rv;subst this;exact Rep.inj aY h2 hq r' r
theorem zA{a:D}:∀{xs:aa V}{ds:aa D}{its:aa aj},ο aY ds=ae->bT All H xs ds->Vals xs its->(its.any λu=>eqD (QM H u) a)=ds.any λy=>eqD y a
 |_,_,_,_,.nil,.nil=>rfl
 |_,_,_,h,.cons r t,.cons v vt=>by
  rw[ο,aI] at h;rw[mr,mr,aBc h.1 v r,zA h.2 t vt]
theorem HJ{s:ao}(I:Inv X Ψ σ H s)(hu:X.A.units+20<bX){a:D}{x:V}{v:aj}(ha:a.fP aY=ae)(rx:Rep All H x a)(rv:RelV x v)
 {xs:aa V}{ds:aa D}{its:aa aj}(h:ο aY ds=ae)(r:bT All H xs ds)(vr:Vals xs its)(u:aj)(hm:u∈its):EqAt X.A.in1 s u v (eqD (QM H u) a):=by
 obtain⟨j,hj,e⟩:=ud hm;have hj':j<ds.length:=by rw[<-r.length,vr.length];exact hj
 obtain⟨w,h1,h2⟩:=r.get (i:=j) (d:=ds[j]) (by simp[hj']);obtain⟨u',h3,h4⟩:=vr.get h1;rw[d5 hj,e] at h3;cases h3;have hd:ds[j].fP aY=ae:=by
  have:=iK h hj';rwa [b9,d5 hj'] at this
 rw[aBc hd h4 h2];exact(LR I aY X.A.in1 (by show X.A.units+1+12<bX;lia) hd ha h2 rx h4 rv).2.2
theorem aRs(hu:X.A.units+20<bX):OpR X (dh .In) (r2 (cT .isin) ae):=by
 rintro Ψ s σ H x y v u Q I rx ry ⟨a,b,d,p,q,e,k⟩;cases b with
 |tup ys=>
  replace e:(if a.fP aY&&ο aY ys then ι (υ (ys.any λy=>eqD y a)) else .bad)=.ok d:=e;split at e
  ·rename_i hl;cases e;rw[aI] at hl;obtain⟨l,xs,rfl,ee,rr⟩:=q.fH;cases ry;obtain⟨its,vr,pl⟩:=gR I ee;refine in_tupleAt (λu=>eqD (QM H u) a) pl (λw hw=>HJ I hu hl.1 p rx hl.2 rr vr w (by simpa using hw)) ⟨.bl _,H,I,rfl,?_⟩;rw[show its.toArray.any (λu=>eqD (QM H u) a)=its.any (λu=>eqD (QM H u) a) by simp,zA hl.2 rr vr];exact k.bl
  ·cases e
 |lst ys=>
  replace e:(if a.fP aY&&ο aY ys then ι (υ (ys.any λy=>eqD y a)) else .bad)=.ok d:=e;split at e
  ·rename_i hl;cases e;rw[aI] at hl;obtain⟨l,xs,rfl,ee,rr⟩:=q.mZ;cases ry;obtain⟨its,vr,pl⟩:=tM I ee;refine in_listAt (λu=>eqD (QM H u) a) pl (λw hw=>HJ I hu hl.1 p rx hl.2 rr vr w (by simpa using hw)) ⟨.bl _,H,I,rfl,?_⟩;rw[show its.toArray.any (λu=>eqD (QM H u) a)=its.any (λu=>eqD (QM H u) a) by simp,zA hl.2 rr vr];exact k.bl
  ·cases e
 |dct kvs=>
  replace e:(if GZ kvs a then ι (υ ((eX kvs a).isSome)) else .bad)=.ok d:=e;split at e
  ·rename_i hl;cases e;obtain⟨H1,a1,o,rfl,I1,bk,g,hc⟩:=aJb I q p hl;cases ry;refine aTz 0x1 I1 g rx λs' I'=>⟨.bl _,H,bk s' I',rfl,?_⟩
   rcases hc with ⟨rfl,h2⟩|⟨w,dd,rfl,h2,_⟩
   ·rw[h2] at k;exact k.bl
   ·rw[h2] at k;exact k.bl
  ·cases e
 |_=>exact bx e
theorem VJ(hu:X.A.units+20<bX):OpR X (dh .NotIn) (r2 (cT .notin) ae):=by
 rintro Ψ s σ H x y v u Q I rx ry ⟨a,b,d,p,q,e,k⟩;cases b with
 |tup ys=>
  replace e:(if a.fP aY&&ο aY ys then ι (υ (!(ys.any λy=>eqD y a))) else .bad)=.ok d:=e;split at e
  ·rename_i hl;cases e;rw[aI] at hl;obtain⟨l,xs,rfl,ee,rr⟩:=q.fH;cases ry;obtain⟨its,vr,pl⟩:=gR I ee;refine notIn_tupleAt (λu=>eqD (QM H u) a) pl (λw hw=>HJ I hu hl.1 p rx hl.2 rr vr w (by simpa using hw)) ⟨.bl _,H,I,rfl,?_⟩;rw[show its.toArray.any (λu=>eqD (QM H u) a)=its.any (λu=>eqD (QM H u) a) by simp,zA hl.2 rr vr];exact k.bl
  ·cases e
 |lst ys=>
  replace e:(if a.fP aY&&ο aY ys then ι (υ (!(ys.any λy=>eqD y a))) else .bad)=.ok d:=e;split at e
  ·rename_i hl;cases e;rw[aI] at hl;obtain⟨l,xs,rfl,ee,rr⟩:=q.mZ;cases ry;obtain⟨its,vr,pl⟩:=tM I ee;refine notIn_listAt (λu=>eqD (QM H u) a) pl (λw hw=>HJ I hu hl.1 p rx hl.2 rr vr w (by simpa using hw)) ⟨.bl _,H,I,rfl,?_⟩;rw[show its.toArray.any (λu=>eqD (QM H u) a)=its.any (λu=>eqD (QM H u) a) by simp,zA hl.2 rr vr];exact k.bl
  ·cases e
 |dct kvs=>
  replace e:(if GZ kvs a then ι (υ (!((eX kvs a).isSome))) else .bad)=.ok d:=e;split at e
  ·rename_i hl;cases e;obtain⟨H1,a1,o,rfl,I1,bk,g,hc⟩:=aJb I q p hl;cases ry;refine aIs 0x1 I1 g rx λs' I'=>⟨.bl _,H,bk s' I',rfl,?_⟩
   rcases hc with ⟨rfl,h2⟩|⟨w,dd,rfl,h2,_⟩
   ·rw[h2] at k;exact k.bl
   ·rw[h2] at k;exact k.bl
  ·cases e
 |_=>exact bx e
theorem aO0(xs:aa α)(i:ag):L2.atI xs i=(ixD xs.length i).bind λj=>xs[j]?:=rfl
theorem bT.atI(r:bT P H xs ds)(h:((ixD ds.length i).bind λj=>ds[j]?)=ab d):∃v,L2.atI xs i=ab v/\Rep P H v d:=by
 rw[aO0,r.length];cases hi:ixD ds.length i with
 |none=>rw[hi] at h;cases h
 |some j=>
  rw[hi] at h;obtain⟨v,h1,h2⟩:=r.get h;exact⟨v,h1,h2⟩
theorem MK{a:ak}{y v':V}{u:aj}{Q:VK}(hu:X.A.units+20<bX)(I:Inv X Ψ σ H s)(g:aAl H a y (ab v'))(ry:RelV y u){H':Hp}
 (hs:sL slice ah (.ref a) u=xr [.ref a,u] (jd (.ref a) u))(bk:∀s',Inv X Ψ σ H s'->Inv X Ψ σ H' s')(q:Q v' H') :
  ϑ (av X.prog X.w) X.A (sD value slice (.ref a) u) (EP X Ψ σ Q) X.xe s:=by
 have hT:=Q8 I g;unfold sD;refine am ?_;rw[getitemInPython_of_ne hT.not_modules];refine am (yp hT PySem.F.slot_dict_getitem.lookup ?_);have fin:ϑ (av X.prog X.w) X.A (sL slice ah (.ref a) u) (λr s₃=>ϑ (av X.prog X.w) X.A (letTemporaryGo value (.ref a) r >>= λ_=>pure r) (EP X Ψ σ Q) X.xe s₃) X.xe s:=by
  rw[hs];exact wpAny_operating (aAm 0x1 I g ry λw' s3 I3 rw'=>am (wpAny_letTemporaryGo (aE ⟨v',H',bk s3 I3,rw',q⟩)))
 first
  |exact aE (am fin)
  |exact am (aE (am fin))
  |exact am fin
theorem VL:∀{ds:aa (D×D)},keyOk k=ae->eX ds k=ab d->∃p∈ds,isTup p.1=isTup k
 |[],_,h=>by cases h
 | (p1,p2)::ds,hk,h=>by
  rw[eX] at h;by_cases hq:eqD p1 k=ae
  ·refine⟨_,bj ..,?_⟩;cases k with
   |int _=>cases p1<;>first|rfl|exact fx0 hq
   |str _=>cases p1<;>first|rfl|exact fx0 hq
   |tup _=>cases p1<;>first|rfl|exact fx0 hq
   |_=>exact fx0 hk
  ·rw[au hq] at h;obtain⟨p,hp,e⟩:=VL hk h;exact⟨p,bp _ hp,e⟩
theorem aRt(rd:Rep All H x (.fdc ds))(rk:Rep All H y k)(hk:keyOk k=ae)(h:eX ds k=ab d):∃a v,x=.ref a/\aAl H a y (ab v)/\Rep All H v d:=by
 obtain⟨p,hp,et⟩:=VL hk h;cases rd with
 |@fdK a o kvs ds e r n=>
  rcases lU hk rk with ⟨q,rfl,rfl⟩|⟨b,ks,rfl,eb,rfl⟩
  ·rcases aJ9 r with ⟨v,d',g1,g2,g3⟩|⟨g1,g2⟩
   ·rw[g2] at h;cases h;exact⟨a,v,rfl,.inl ⟨kvs,q,.inr ⟨o,e⟩,rfl,g1.symm⟩,g3⟩
   ·rw[g2] at h;cases h
  ·rw[VG r p hp] at et;cases et
 |@fdT a o kvs ds e r n=>
  rcases lU hk rk with ⟨q,rfl,rfl⟩|⟨b,ks,rfl,eb,rfl⟩
  ·rw[VH r p hp,m8] at et;cases et
  ·rcases aJa r with ⟨v,d',g1,g2,g3⟩|⟨g1,g2⟩
   ·rw[g2] at h;cases h;exact⟨a,v,rfl,.inr ⟨kvs,ks,b,.inr ⟨o,e⟩,rfl,eb,g1.symm⟩,g3⟩
   ·rw[g2] at h;cases h
theorem aRu(hK:KFrag.K=X.K)(hu:X.A.units+20<bX):IxR X (r2 getD ah):=by
 rintro value slice Ψ s σ H x y v u Q I rx ry ⟨a,b,d,p,q,e,k⟩ hs;cases a with
 |tup ys=>
  cases b<;>try exact bx e
  have e':=Res.mU e;obtain⟨l,xs,rfl,ee,rr⟩:=p.fH;cases q;obtain⟨w,h1,h2⟩:=rr.atI e';exact aNe value slice Ψ s σ H _ _ v u Q I rx ry ⟨l,xs,_,w,rfl,rfl,.of ee,h1,k.self h2 λz=>by cases z⟩ hs
 |lst ys=>
  cases b<;>try exact bx e
  have e':=Res.mU e;obtain⟨l,xs,rfl,ee,rr⟩:=p.mZ;cases q;obtain⟨w,h1,h2⟩:=rr.atI e';exact Q6 value slice Ψ s σ H _ _ v u Q I rx ry ⟨l,xs,_,w,rfl,rfl,ee,h1,k.self h2 λz=>by cases z⟩ hs
 |cel ca ys=>
  cases b<;>try exact bx e
  have e':=Res.mU e;obtain⟨_,rfl,ee,pp,rr⟩:=p.inv;cases q;obtain⟨w,h1,h2⟩:=rr.atI e';exact Q6 value slice Ψ s σ H _ _ v u Q I rx ry ⟨_,_,_,w,rfl,rfl,.inl (.inl ee),h1,k.self h2 λz=>by cases z⟩ hs
 |scr ys=>
  cases b<;>try exact bx e
  have e':=Res.mU e;obtain⟨_,_,rfl,ee,rr⟩:=p.inv;cases q;obtain⟨w,h1,h2⟩:=rr.atI e';exact Q6 value slice Ψ s σ H _ _ v u Q I rx ry ⟨_,_,_,w,rfl,rfl,ee.sq hK,h1,k.self h2 λz=>by cases z⟩ hs
 |str z=>
  cases b<;>try exact bx e
  rename_i i;replace e:(if ϒ (z.length<=lim) then ν (((ixD z.cps.toList.length i).bind λj=>z.cps.toList[j]?).map λc=>δ ⟨#[c]⟩) else .bad)=.ok d:=e;split at e
  ·rename_i hl;have e':=Res.mU e;obtain⟨cc,h1,h2⟩:=ka.mp e';subst h2;cases p;cases q;exact aNf value slice Ψ s σ H _ _ v u Q I rx ry ⟨z,_,cc,rfl,rfl,m7 hl,h1,k.str⟩ hs
  ·cases e
 |dct kvs=>
  have e':keyOk b=ae/\eX kvs b=ab d:=by
   replace e:(if keyOk b then ν (eX kvs b) else .bad)=.ok d:=by cases b<;>exact e
   split at e
   ·rename_i hl;exact⟨hl,Res.mU e⟩
   ·exact bx e
  obtain⟨H1,a1,o,rfl,I1,bk,g,hc⟩:=aJb I p q (aEq p e'.1 e'.2);cases rx;rcases hc with ⟨rfl,h2⟩|⟨w,dd,rfl,h2,h3⟩
  ·rw[h2] at e';cases e'.2
  ·rw[h2] at e';cases e'.2;exact MK hu I1 g ry hs bk (k.self h3 λz=>by cases z)
 |fdc kvs=>
  have e':keyOk b=ae/\eX kvs b=ab d:=by
   replace e:(if keyOk b then ν (eX kvs b) else .bad)=.ok d:=by cases b<;>exact e
   split at e
   ·rename_i hl;exact⟨hl,Res.mU e⟩
   ·exact bx e
  obtain⟨a1,w,rfl,g,h3⟩:=aRt p q e'.1 e'.2;cases rx;exact MK hu I g ry hs (λ_ h=>h) (k.self h3 λz=>by cases z)
 |_=>cases b<;>exact bx e
theorem aX{X:Cx}{a b:Expr}{pos:cj}{fa fb:FE}{ra rb:aq}(ha:PE X a (gE fa ra))(hb:PE X b (gE fb rb))(hK:KFrag.K=X.K:=by assumption)(hu:X.A.units+20<bX:=by assumption)(hs:Q5 b:=by exact λ_ _=>rfl):PE X (.Subscript a b pos) (gE (b2 getD fa fb) ah):=aRq (aRu hK hu) ha hb hs
noncomputable def gO(f:aa D->Res (ar ag)):TO:=λσ H Q=>∃ρ i,ER H σ ρ/\f ρ=.ok i/\∀H',b_ H H'->Q i H'
theorem PO.imp{X:Cx}{e:ar PySem.Expr}{t t':TO}(h:PO X e t)(i:∀σ H Q,t' σ H Q->t σ H Q):PO X e t':=λΨ s σ H Q I q=>h Ψ s σ H Q I (i σ H Q q)
theorem lH:PO X ai (gO jJ):=PO.imp aIn λσ H Q z0=>by obtain⟨ρ,i,E,h,q⟩:=z0;cases h;exact q H (b_.refl H)
theorem lJ(ha:PE X a (gE fa ra)):PO X (ab a) (gO (jH fa)):=PO.imp (aAh ha) λσ H Q z0=>by
 obtain⟨ρ,i,E,h,q⟩:=z0;obtain⟨x,h1,h⟩:=bB h;obtain⟨j,h2,h⟩:=bB h;cases h;have e:=aNu h2;subst e;exact⟨ρ,_,E,h1,λv H' s r _=>by cases r;exact⟨j,rfl,q H' s⟩⟩
theorem VM(n d:af)(o:ar ag):HT.sIx n d o=G3 n d o:=by
 cases o with
 |none=>rfl
 |some v=>
  show(if v<0 then (v+(n:ag)).toNat else min v.toNat n)=(if v<0 then (max (v+(n:ag)) 0).toNat else (min v (n:ag)).toNat);split<;>lia
theorem bT.cut(r:bT P H xs ds)(lo hi:ar ag):bT P H (aE7 xs lo hi) (cutD ds lo hi):=by
 unfold aE7 cutD;rw[r.length];simp only[VM];exact(r.drop _).take _
theorem jY:θ ds=ae↔∀d∈ds,d.pure=ae:=by
 induction ds with
 |nil=>simp[θ]
 |cons d ds ih=>rw[θ,aI,ih];simp
def rSl:V->ar ag->ar ag->Hp->VK->Prop:=λx lo hi H Q=>∃a d,Rep All H x a/\aMd a lo hi=.ok d/\kR H d ae Q
theorem aRv(hK:KFrag.K=X.K):SlR X rSl:=by
 rintro Ψ s σ H x v vl vu lo hi sl Q I rx hs pl pu ⟨a,d,p,e,k⟩;cases a<;>simp only[aMd] at e<;>(try (cases e;done))
 ·split at e
  ·cases e
  ·rename_i hw;cases e;obtain⟨l,xs,rfl,ee,rr⟩:=p.fH;refine aNd Ψ s σ H _ v vl vu lo hi sl Q I rx hs pl pu ⟨l,xs,rfl,.of ee,?_,λp hp=>?_⟩
   ·simp only[VM,rr.length];simp only[nX,fT,gw,Bool.not_eq_false',dL] at hw;exact hw.2
   ·have sp:b_ H (upd H p (.tup (aE7 xs lo hi))):=b_.upd hp;have hp2:θ ‹aa D›=ae:=by
     simp only[fT,gw,nX] at hw;simpa using hw.1
    exact k _ _ sp (.tup aK ((rr.cut lo hi).same sp)) λz=>.tup aK (((rr.bM hp2).cut lo hi).same sp)
 ·split at e
  ·rename_i hl;cases e;obtain⟨l,xs,rfl,ee,rr⟩:=p.mZ;refine aAi Ψ s σ H _ v vl vu lo hi sl Q I rx hs pl pu ⟨l,xs,rfl,ee,λp hp=>?_⟩;have sp:b_ H (upd H p (.lst (aE7 xs lo hi))):=b_.upd hp;exact k _ _ sp (.lst aK trivial ((rr.cut lo hi).same sp)) λz=>.lst aK hp (((rr.bM hl).cut lo hi).same sp)
  ·cases e
 ·split at e
  ·rename_i hl;cases e;cases p with
   |@frz l xs ds ee rr=>
    refine aAi Ψ s σ H _ v vl vu lo hi sl Q I rx hs pl pu ⟨l,xs,rfl,ee.sq hK,λp hp=>?_⟩;have sp:b_ H (upd H p (.lst (aE7 xs lo hi))):=b_.upd hp;exact k _ _ sp (.lst aK trivial ((rr.cut lo hi).same sp)) λz=>.lst aK hp (((rr.bM hl).cut lo hi).same sp)
  ·cases e
end
end Mi
namespace PySem.Mm
open PySem PyProof.Rows PySem.W
theorem MN{K:Type}[cr K]{knd:KeyKind prog w K}{d:ak}{kvs:aa (K×aj)}{ep n:af}(hh:A.handled=ai)(lo:(d==gf)=ah)
 (hm:s.heap.DictAt knd d kvs ep)(hn:kvs.length=n)(hl:n<=2 ^ 24)
 (q:∀h' tk acc c,(∀b o,s.heap.get? b=ab o->h'.get? b=ab o)->h'.get? s.heap.objs.size=ab {cls:=.type "list",dict:=ai,data:=.seq acc c,slots:=#[]}->
   ItemsOf (λi v=>∃k x,kvs[i]?=ab (k,x)/\knd.is k v=ae) acc n->Q (.ref s.heap.objs.size) {s with heap:=h',toks:=tk}):ϑ (av prog w) A (call (.type "list") [.ref d]) Q E s:=by
 subst hn;exact kdl_call (kdl_dict lo) hh hm (kdl_size hl) q
end PySem.Mm
namespace Mi
open PySem L2 PySem.SeqAt PySem.Spec PyProof.Rows
section
variable [KFrag]
section
variable {a b e:Expr} {x:Str} {id T:eh}
theorem iY(r:bT P H xs [d])(vr:Vals xs us):∃v u,xs=[v]/\us=[u]/\Rep P H v d/\RelV v u:=by
 cases r with
 |cons r t=>
  cases t;cases vr with
  |cons v vt=>
   cases vt;exact⟨_,_,rfl,rfl,r,v⟩
theorem VN{fr:aq}(h:gE (aN f fs) fr σ H Q):tCB (rs f fr) (gA fs rr) σ H Q:=by
 obtain⟨ρ,d,E,h,q⟩:=h;obtain⟨ds,h1,h2⟩:=bB h;exact⟨ρ,ds,E,h1,λvs H1 s1 r1 _=>⟨ds,d,r1,h2,q.imp s1 id⟩⟩
theorem bD{fr:aq}(hc:lE X (.builtin id) (rs f fr))(hg:Gl X x)(hm:X.mg x=ai)(hv:dA x=ab (.builtin id))(ha:PA X (e::es) (gA fs rr))(hn:x ≠ "__name__":=by decide)(hdb:nDb x:=by decide)
 (he:zSE X e es:=by rfl)(hpl:zSP X pos es:=by rfl):PE X (.Call (.Name x p) (e::es) [] pos) (gE (aN f fs) fr):=
 PE.imp (UT hc hg hm hv ha hn hdb he hpl) λ_ _ _=>VN
theorem eV{fr:aq}(hc:lE X (.type T) (rs f fr))(hg:Gl X x)(hm:X.mg x=ai)(hv:dA x=ab (.type T))(ha:PA X (e::es) (gA fs rr))(hn:x ≠ "__name__":=by decide)(hdb:nDb x:=by decide)
 (he:zSE X e es:=by rfl)(hpl:zSP X pos es:=by rfl):PE X (.Call (.Name x p) (e::es) [] pos) (gE (aN f fs) fr):=
 PE.imp (aAf hc hg hm hv ha hn hdb he hpl) λ_ _ _=>VN
theorem cN(hK:KFrag.K=X.K):lE X (.builtin "len") (rs eQ ae):=by
 rintro Ψ s σ H xs us Q I vr ⟨ds,d,r,e,k⟩;unfold eQ at e;split at e
 ·cases e;obtain⟨vv,uu,rfl,rfl,r,v⟩:=iY r vr;obtain⟨l,ys,rfl,hl,rr⟩:=r.fH;cases v;exact j9 Ψ s σ H [.ref l] [.ref l] Q I (.cons rfl .nil) ⟨l,ys,rfl,.inr (.of hl),by rw[rr.length];exact k.int⟩
 ·cases e;obtain⟨vv,uu,rfl,rfl,r,v⟩:=iY r vr;obtain⟨l,ys,rfl,hl,rr⟩:=r.mZ;cases v;exact j9 Ψ s σ H [.ref l] [.ref l] Q I (.cons rfl .nil) ⟨l,ys,rfl,.inl hl,by rw[rr.length];exact k.int⟩
 ·cases e;obtain⟨vv,uu,rfl,rfl,r,v⟩:=iY r vr;cases r with
  |@frz l xs ds ee rr=>
   cases v;exact j9 Ψ s σ H [.ref l] [.ref l] Q I (.cons rfl .nil) ⟨l,xs,rfl,.inl (ee.sq hK),by rw[rr.length];exact k.int⟩
 ·cases e;obtain⟨vv,uu,rfl,rfl,r,v⟩:=iY r vr;obtain⟨_,rfl,ee,pp,rr⟩:=r.inv;cases v;exact j9 Ψ s σ H [.ref _] [.ref _] Q I (.cons rfl .nil) ⟨_,_,rfl,.inl (.inl (.inl ee)),by rw[rr.length];exact k.int⟩
 ·split at e
  ·rename_i hl;cases e;obtain⟨vv,uu,rfl,rfl,r,v⟩:=iY r vr;cases r.inv;exact KR Ψ s σ H _ _ Q I (.cons v .nil) ⟨_,rfl,m7 hl,k.int⟩
  ·exact bx e
 ·exact bx e
theorem iJ.keys:∀{kvs:aa (Key×V)}{ds:aa (D×D)},iJ P H kvs ds->bT P' H (kvs.map λp=>kV p.1) (sX ds)
 |_,_,.nil=>.nil
 |_,_,.cons (k:=k) _ t=>.cons (by cases k<;>first|exact .int _|exact .str _) t.keys
theorem list_dict(hc:X.calm=ae)(I:Inv X Ψ σ H s)(e:H l=ab (.dK kvs))
 (q:∀p s',H p=ai->Inv X Ψ σ (upd H p (.lst (kvs.map λp=>kV p.1))) s'->(∀l0 o0,H l0=ab o0->l0≠p)->Q (.ref p) s'):ϑ (av X.prog X.w) X.A (call (.type "list") [.ref l]) Q X.xe s:=by
 obtain⟨z,hd,vs,rel,dd⟩:=K4 I.hok e;obtain⟨ep,da⟩:=dd.dictAt;have hlen:kvs.length=vs.length:=jr rel;refine Mm.MN (I.ok.hd hc) hd da rfl (by rw[<-hlen];rw[di] at z;lia) λh' tk acc' c' kp e1 it=>?_
 obtain⟨i1,i2⟩:=it;have hfr:H s.heap.objs.size=ai:=I.hok.fresh (aT _);refine q _ _ hfr (I.laid kp (aT _) ?_) λl0 o0 h0=>dI h0 hfr
 refine⟨by rw[aw];exact z,acc'.toList,c',?_,by simpa using e1⟩;have gen:∀(kvs:aa (Key×V))(vs:aa (Key×aj))(xs:aa aj),KV kvs vs->xs.length=vs.length->(∀(j:af)(v:aj),xs[j]?=ab v->∃k x,vs[j]?=ab (k,x)/\(cL X.prog X.w).is k v=ae)->Vals (kvs.map λp=>kV p.1) xs:=by
  intro kvs vs xs rel;induction rel generalizing xs with
  |nil=>intro hl _;cases xs with|nil=>exact .nil|cons _ _=>simp at hl
  |@cons p q ps qs hpq t ih=>
   intro hl g;cases xs with
   |nil=>simp at hl
   |cons x xs=>
    refine .cons ?_ (ih xs (by simpa using hl) λj v hv=>g (j+1) v (by simpa using hv));obtain⟨k,x',h1,h2⟩:=g 0 x rfl;have h1':q=(k,x'):=by simpa using h1
    show RelV (kV p.1) x;rw[hpq.1,h1'];rcases dJ h2 with ⟨i,t,rfl,rfl⟩|⟨i,t,rfl,rfl⟩
    ·exact⟨t,rfl⟩
    ·exact⟨t,rfl⟩
 exact gen kvs vs acc'.toList rel (by simpa using i1) λj v hv=>i2 j v (by simpa using hv)
theorem aJc(hc:X.calm=ae):lE X (.type "list") (rs aEh ae):=by
 rintro Ψ s σ H xs us Q I vr ⟨ds,d,r,e,k⟩;unfold aEh at e;split at e
 ·split at e
  ·rename_i hl;cases e;obtain⟨vv,uu,rfl,rfl,r,v⟩:=iY r vr;obtain⟨l,ys,rfl,hl',rr⟩:=r.fH;cases v;refine wH Ψ s σ H [.ref l] [.ref l] Q I (.cons rfl .nil) ⟨l,ys,rfl,.inr (.of hl'),λp hp=>?_⟩;have sp:b_ H (upd H p (.lst ys)):=b_.upd hp;exact k _ _ sp (.lst aK trivial (rr.same sp)) λ_=>.lst aK hp ((rr.bM hl).same sp)
  ·exact bx e
 ·split at e
  ·rename_i hl;cases e;obtain⟨vv,uu,rfl,rfl,r,v⟩:=iY r vr;obtain⟨l,ys,rfl,hl',rr⟩:=r.mZ;cases v;refine wH Ψ s σ H [.ref l] [.ref l] Q I (.cons rfl .nil) ⟨l,ys,rfl,.inl hl',λp hp=>?_⟩;have sp:b_ H (upd H p (.lst ys)):=b_.upd hp;exact k _ _ sp (.lst aK trivial (rr.same sp)) λ_=>.lst aK hp ((rr.bM hl).same sp)
  ·exact bx e
 ·split at e
  ·rename_i hl;cases e;obtain⟨vv,uu,rfl,rfl,r,v⟩:=iY r vr;cases r with
   |@dK l kvs ds e _ r n=>
    cases v;refine list_dict hc I e λp s' hp I' _=>⟨.ref p,_,I',rfl,?_⟩
    have sp:b_ H (upd H p (.lst (kvs.map λp=>kV p.1))):=b_.upd hp;exact k _ _ sp (.lst aK trivial (r.keys.same sp)) λ_=>.lst aK hp (r.keys.same sp)
   |@dT l kvs ds e _ r n=>
    cases v;cases r with
    |cons r t=>simp[isTup] at hl
    |nil=>
     have e2:=HH (o':=.dK []) e;refine list_dict hc (lV I e) aK λp s' hp I' hne=>?_
     have hp':p≠l:=λz=>by subst z;rw[aK] at hp;cases hp
     have hpn:H p=ai:=by rw[bG hp'] at hp;exact hp
     have hcm:upd (upd (upd H l (.dK [])) p (.lst [])) l (.dT [])=upd H p (.lst []):=by
      funext b
      by_cases hb:b=l
      ·subst hb;rw[aK,bG (cq hp'),e]
      ·rw[bG hb];by_cases hb2:b=p
       ·subst hb2;rw[aK,aK]
       ·rw[bG hb2,bG hb2,bG hb]
     have I2:=o7 I' (by rw[bG (cq hp'),aK]);have I3:Inv X Ψ σ (upd H p (.lst [])) s':=by
      have:Inv X Ψ σ (upd (upd (upd H l (.dK [])) p (.lst [])) l (.dT [])) s':=I2;rwa [hcm] at this
     have sp:b_ H (upd H p (.lst [])):=b_.upd hpn;exact⟨.ref p,_,I3,rfl,k _ _ sp (.lst aK trivial .nil) λ_=>.lst aK hpn .nil⟩
  ·exact bx e
 ·exact bx e
theorem h_:lE X (.type "tuple") (rs kE ah):=by
 rintro Ψ s σ H xs us Q I vr ⟨ds,d,r,e,k⟩;unfold kE at e;split at e
 ·cases e;obtain⟨vv,uu,rfl,rfl,r,v⟩:=iY r vr;obtain⟨l,ys,rfl,hl',rr⟩:=r.fH;cases v;exact uI Ψ s σ H [.ref l] [.ref l] Q I (.cons rfl .nil) ⟨l,ys,rfl,.inr ⟨.of hl',k.self (.tup hl' rr) λz=>by cases z⟩⟩
 ·cases e;obtain⟨vv,uu,rfl,rfl,r,v⟩:=iY r vr;obtain⟨l,ys,rfl,hl',rr⟩:=r.mZ;cases v;refine uI Ψ s σ H [.ref l] [.ref l] Q I (.cons rfl .nil) ⟨l,ys,rfl,.inl ⟨hl',λp hp=>?_⟩⟩;have sp:b_ H (upd H p (.tup ys)):=b_.upd hp;exact k _ _ sp (.tup aK (rr.same sp)) λz=>by cases z
 ·exact bx e
mutual
theorem DR:∀(d:D),d.plain=ae->d.pure=ae
 |.tup xs,h=>by rw[χ] at h;rw[μ];exact wI xs h
 |.int _,_=>rfl
 |.str _,_=>rfl
 |.uD,h=>by simp[χ] at h
 |.non,_=>rfl
 |.bl _,_=>rfl
 |.lst _,h=>by simp[χ] at h
 |.dct _,h=>by simp[χ] at h
 |.scr _,h=>by simp[χ] at h
 |.fdc _,h=>by simp[χ] at h
 |.exc _ _,h=>by simp[χ] at h
 |.ins _ _,h=>by simp[χ] at h
 |.adr _,h=>by simp[χ] at h
 |.dcl _ _,h=>by simp[χ] at h
 |.cel _ _,h=>by simp[χ] at h
theorem wI:∀(ds:aa D),D.jV ds=ae->θ ds=ae
 |[],_=>rfl
 |x::xs,h=>by rw[D.jV,aI] at h;rw[θ,aI];exact⟨DR x h.1,wI xs h.2⟩
end
theorem zB(h:cG ds=ae):θ (yP ds)=ae:=jY.mpr λd hd=>DR d (fL h ((fY ds).mem_iff.mp hd)).1
theorem zE(hu:X.A.units+20<bX):lE X (.builtin "sorted") (rs lG ae):=by
 rintro Ψ s σ H xs us Q I vr ⟨ds,d,r,e,k⟩;unfold lG at e;split at e
 ·split at e
  ·rename_i hl;cases e;obtain⟨vv,uu,rfl,rfl,r,v⟩:=iY r vr;obtain⟨l,ys,rfl,hl',rr⟩:=r.mZ;cases v;refine YL I hu hl' rr hl λp xs' hp r'=>?_
   have sp:b_ H (upd H p (.lst xs')):=b_.upd hp;exact k _ _ sp (.lst aK trivial (r'.same sp)) λ_=>.lst aK hp ((r'.bM (zB hl)).same sp)
  ·exact bx e
 ·exact bx e
theorem isi(I:Inv X Ψ σ H s)(r:Rep All H v d)(ru:RelV v u)(h:aRo t d=.ok k)
 (q:∀tk,Q (.bool k) {s with toks:=tk}):ϑ (av X.prog X.w) X.A (call (.builtin "isinstance") [u,.type t.nm]) Q X.xe s:=by
 have q0:Q (.bool k) s:=q s.toks;cases r with
 |non=>cases ru;cases t<;>cases h<;>first|exact IsiPair.NoneType_int (q _)|exact IsiPair.NoneType_str (q _)|exact IsiPair.NoneType_bool (q _)|exact IsiPair.NoneType_list (q _)|exact IsiPair.NoneType_tuple (q _)|exact IsiPair.NoneType_dict (q _)
 |bl b=>cases ru;cases t<;>cases h<;>first|exact IsiPair.bool_int q0|exact IsiPair.bool_str (q _)|exact IsiPair.bool_bool q0|exact IsiPair.bool_list (q _)|exact IsiPair.bool_tuple (q _)|exact IsiPair.bool_dict (q _)
 |int b=>obtain⟨tt,rfl⟩:=ru;cases t<;>cases h<;>first|exact IsiPair.int_int q0|exact IsiPair.int_str (q _)|exact IsiPair.int_bool (q _)|exact IsiPair.int_list (q _)|exact IsiPair.int_tuple (q _)|exact IsiPair.int_dict (q _)
 |str b=>obtain⟨tt,rfl⟩:=ru;cases t<;>cases h<;>first|exact IsiPair.str_int (q _)|exact IsiPair.str_str q0|exact IsiPair.str_bool (q _)|exact IsiPair.str_list (q _)|exact IsiPair.str_tuple (q _)|exact IsiPair.str_dict (q _)
 |tup e rr=>
  cases ru;obtain⟨its,vr,o,ho,hc,_⟩:=gR I e;cases t<;>cases h<;>first|exact IsiPair.tuple_int ho hc (q _)|exact IsiPair.tuple_str ho hc (q _)|exact IsiPair.tuple_bool ho hc (q _)|exact IsiPair.tuple_list ho hc (q _)|exact IsiPair.tuple_tuple ho hc q0|exact IsiPair.tuple_dict ho hc (q _)
 |lst e p rr=>
  cases ru;obtain⟨its,vr,o,ho,hc,_⟩:=tM I (.of e);cases t<;>cases h<;>first|exact IsiPair.list_int ho hc (q _)|exact IsiPair.list_str ho hc (q _)|exact IsiPair.list_bool ho hc (q _)|exact IsiPair.list_list ho hc q0|exact IsiPair.list_tuple ho hc (q _)|exact IsiPair.list_dict ho hc (q _)
 |frz e rr=>cases t<;>exact bx h
 |fdK e rr n=>cases t<;>exact bx h
 |fdT e rr n=>cases t<;>exact bx h
 |exc n e q=>cases t<;>exact bx h
 |ins n e q=>cases t<;>exact bx h
 |adr=>cases t<;>exact bx h
 |dlK _ _ _ _=>cases t<;>exact bx h
 |dlT _ _ _ _=>cases t<;>exact bx h
 |cel e p rr=>cases t<;>exact bx h
 |dK e p rr n=>
  cases ru;obtain⟨_,_,_,_,o,_,_,ho,hx,_⟩:=K4 I.hok e;have hc:=hx.1;cases t<;>cases h<;>first|exact BA ho hc (q _)|exact BB ho hc (q _)|exact BC ho hc (q _)|exact BD ho hc (q _)|exact BE ho hc (q _)|exact BF ho hc q0
 |dT e p rr n=>
  cases ru;obtain⟨_,_,_,_,o,_,_,ho,hx,_⟩:=aEb I.hok e;have hc:=hx.1;cases t<;>cases h<;>first|exact BA ho hc (q _)|exact BB ho hc (q _)|exact BC ho hc (q _)|exact BD ho hc (q _)|exact BE ho hc (q _)|exact BF ho hc q0
def aU2(t:Ty):aa V->Hp->VK->Prop:=λxs H Q=>∃v d k,xs=[v,.ty t.nm]/\Rep All H v d/\aRo t d=.ok k/\Q (.bl k) H
theorem aO1(t:Ty):lE X (.builtin "isinstance") (aU2 t):=by
 rintro Ψ s σ H xs us Q I vr ⟨v,d,k,e,r,h,q⟩;subst e;cases vr with
 |cons rv vt=>
  cases vt with
  |cons rt vt=>
   cases vt;cases rt;exact isi I r rv h λtk=>⟨.bl k,H,I.tok tk,rfl,q⟩
theorem oF(t:Ty)(ha:PE X a (gE fa ra))(hg:Gl X "isinstance")(hm:X.mg "isinstance"=ai)(hv:dA "isinstance"=ab (.builtin "isinstance"))(gy:Gl X y)(my:X.mg y=ai)(vy:dA y=ab (.type t.nm))
 (hy:y ≠ "__name__":=by decide)(hyd:(y==("__debug__" : Str))=ah:=by decide)
 (he:bP [a,.Name y p2] X.env=(ah,bc a X.env)::bP [.Name y p2] X.env:=by rfl)(he2:bP [.Name y p2] X.env=(ah,bc (.Name y p2) X.env)::bP [] X.env:=by rfl)
 (hpl:(iw pos (bP [.Name y p2] X.env)).any (·.1)=ah:=by rfl):PE X (.Call (.Name "isinstance" p) [a,.Name y p2] [] pos) (gE (b1 (vJ t) fa) ae):=
 PE.imp (UT (aO1 t) hg hm hv (eG ha (eG (aI8 gy my vy (v:=.ty t.nm) rfl hy hyd) j8 he2) he) 0x4 0x4 he hpl) λσ H Q z0=>by
  obtain⟨ρ,d,E,h,q⟩:=z0;obtain⟨x,h1,h⟩:=bB h;obtain⟨k,h2,h⟩:=bB h;cases h;exact⟨ρ,x,E,h1,λv H1 s1 r1 _=>⟨v,x,k,rfl,r1,h2,(q.imp s1 id).bl⟩⟩
noncomputable def spD(f:aa D->Res D)(n:af):Sp:=λvs H Q _=>∃ds d,ds.length=n/\bT All H vs ds/\f ds=.ok d/\kR H d ae Q
theorem aBd{E:XK}(h:spD f n vs H Q E):vs.length=n:=by
 obtain⟨ds,d,h1,r,_⟩:=h;rw[r.length,h1]
theorem aJd(F:vH X.prog X.w X.K X.mg X.base CX0 k fad fd ps (spD f n))(hr:nZ k X.A)(hg:Gl X x)(hm:X.mg x=ab (.ref fad))(hk:iA X.K (.ref fad)=ae)(hb:Binds X.K fd ps [])
 (ha:PA X (e::es) (gA fs rr))(hdb:nDb x:=by decide)(he:zSE X e es:=by rfl)(hpl:zSP X pos es:=by rfl) :
  PE X (.Call (.Name x p) (e::es) [] pos) (gE (aN (cP n f) fs) ae):=
 PE.imp (Q3 F hr hg hm hk hb .nil aAq ha hdb he hpl) λσ H Q z0=>by
  obtain⟨ρ,d,E,h,q⟩:=z0;obtain⟨ds,h1,h⟩:=bB h;unfold cP at h;split at h
  ·rename_i hl;exact⟨ρ,ds,E,h1,λvs H1 s1 r1 _=>⟨ds,d,c8 hl,by rw[dq];exact r1,h,q.imp s1 id⟩⟩
  ·exact bx h
end
end
noncomputable def MP(x:Str):aa D:=x.cps.toList.map λc=>δ ⟨#[c]⟩
section
variable [KFrag]
noncomputable def aRw(x:Str):It:=⟨λi _=>i<x.cps.size,λi H v H'=>H'=H/\∃c,x.cps[i]?=ab c/\v=.str ⟨#[c]⟩,λi _=>x.cps.size<=i⟩
structure ItQ(K:bi)(P:ak->Prop)(J:It)(H:Hp)(items:aa D):Prop where
 it:∀(P':ak->Prop)(H':Hp),DP P H H'->(∀a o,H a=ab o->P a->P' a)->(∀i,items.length<=i->J.stop i H')/\∀i d,items[i]?=ab d->J.go i H'/\∀x H'',J.yld i H' x H''->b_ H' H''/\Rep P' H'' x d
section
variable {K:bi} {P P':ak->Prop} {J:It} {H H':Hp} {items:aa D}
theorem ItQ.keep'(h:ItQ K P J H items)(k:DP P H H')(m:∀a o,H a=ab o->P a->P' a):ItQ K P' J H' items:=
 ⟨λP2 H2 k2 m2=>h.it P2 H2 (λa o e hp=>k2 a o (k a o e hp) (hp.imp (m a o e) id)) λa o e hp=>m2 a o (k a o e (.inl hp)) (m a o e hp)⟩
theorem ItQ.keep(h:ItQ K P J H items)(k:DP P H H')(m:∀a,P a->P' a):ItQ K P' J H' items:=h.keep' k λa _ _=>m a
theorem ItQ.stop(h:ItQ K P J H items)(hi:items.length<=i):J.stop i H:=(h.it P H (λ_ _ e _=>e) λ_ _ _ hp=>hp).1 i hi
theorem ItQ.go(h:ItQ K P J H items)(hi:items[i]?=ab d):J.go i H/\∀x H',J.yld i H x H'->b_ H H'/\Rep P H' x d:=(h.it P H (λ_ _ e _=>e) λ_ _ _ hp=>hp).2 i d hi
theorem ItQ.lst(a:ak)(e:J=Itl K a)(r:Rep P H (.ref a) (.lst items)):ItQ K P J H items:=by
 refine⟨λP H kk mm=>?_⟩;have r:=r.aEj kk mm;refine⟨λi hi=>?_,λi d hi=>?_⟩
 ·subst e;obtain⟨a',xs,e,hq,rr⟩:=r.mZ;cases e;exact⟨xs,hq,by rw[rr.length];exact hi⟩
 ·subst e;obtain⟨a',xs,e,hq,rr⟩:=r.mZ;cases e;obtain⟨v,h1,h2⟩:=rr.get hi;refine⟨⟨xs,v,hq,h1⟩,λx H' ⟨e,hy⟩=>?_⟩;subst e;refine⟨b_.refl _,?_⟩;have:=hy xs hq;rw[h1] at this;cases this;exact h2
theorem ItQ.tup(a:ak)(e:J=Itt K a)(r:Rep P H (.ref a) (.tup items)):ItQ K P J H items:=by
 refine⟨λP H kk mm=>?_⟩;have r:=r.aEj kk mm;refine⟨λi hi=>?_,λi d hi=>?_⟩
 ·subst e;obtain⟨a',xs,e,hq,rr⟩:=r.fH;cases e;exact⟨xs,.of hq,by rw[rr.length];exact hi⟩
 ·subst e;obtain⟨a',xs,e,hq,rr⟩:=r.fH;cases e;obtain⟨v,h1,h2⟩:=rr.get hi;refine⟨⟨xs,v,.of hq,h1⟩,λx H' ⟨e,hy⟩=>?_⟩;subst e;refine⟨b_.refl _,?_⟩;have:=hy xs (.of hq);rw[h1] at this;cases this;exact h2
theorem ItQ.rng(lo:ag)(n:af)(e:J=Itr lo n)(r:items=(bm n).map λ(k:af)=>ε (lo+k)):ItQ K P J H items:=by
 refine⟨λP H k m=>?_⟩;refine⟨λi hi=>?_,λi d hi=>?_⟩
 ·subst e r;show n<=i;simpa using hi
 ·subst e r;have hlt:i<n:=by
   have:=(dj.mp hi).1;simpa using this
  refine⟨hlt,λx H' ⟨e,hy⟩=>?_⟩;subst e;have e2:ε (lo+(i:ag))=d:=by simpa[hlt] using hi
  rw[hy,<-e2];exact⟨b_.refl _,.int _⟩
theorem ItQ.chs(z:Str)(e:J=aRw z)(r:items=MP z):ItQ K P J H items:=by
 refine⟨λP H k m=>?_⟩;refine⟨λi hi=>?_,λi d hi=>?_⟩
 ·subst e r;show z.cps.size<=i;simpa[MP] using hi
 ·subst e r;have hlt:i<z.cps.size:=by
   have:=(dj.mp hi).1;simpa[MP] using this
  refine⟨hlt,λx H' ⟨e,c,hc,hv⟩=>?_⟩;subst e hv;refine⟨b_.refl _,?_⟩;have e2:δ ⟨#[c]⟩=d:=by
   unfold MP at hi;rw[gs,sP,hc] at hi;simpa using hi
  rw[<-e2];exact .str _
end
noncomputable def gI(K:bi)(f:FI):TI:=λσ H R=>∃ρ items k,ER H σ ρ/\f ρ=.ok (items,k)/\∀J H1,b_ H H1->ItQ K All J H1 items->(k=ae->ItQ K (New H) J H1 items)->R J H1
def gIV(K:bi)(i:af):TI:=λσ H R=>∃v d items,σ[i]?=ab (ab v)/\Rep All H v d/\yR d=.ok items/\∀J,(∀P:ak->Prop,Rep P H v d->ItQ K P J H items)->R J H
section
variable {X:Cx} {tg l a b:Expr} {rr:aq} {fs:FA} {p pos:cj}
theorem VP(I1:Inv X Ψ σ H1 s1)(r:Rep All H1 v d)(ru:RelV v u)(hi:yR d=.ok items)
 (q:∀J,(∀P:ak->Prop,Rep P H1 v d->ItQ X.K P J H1 items)->R J H1):ϑ (av X.prog X.w) X.A (kG u) (PIE X Ψ σ tg R) X.xe s1:=by
 cases d<;>simp only[yR] at hi<;>cases hi
 ·obtain⟨a,xs,rfl,e,rr⟩:=r.fH;cases ru;obtain⟨its,rv,p,hz⟩:=I1.tuple (.of e);refine iP (show s1.heap.IsTuple a its.toArray from p) ?_;refine⟨s1.heap.objs.size,[s1.heap.objs.size],_,_,H1,rfl,I1.kept λb o e=>bw _ e,XX a _,⟨_,cx _ rfl,rfl,rfl⟩,λb hb=>?_,q _ λP r=>.tup a rfl r⟩;have e:b=s1.heap.objs.size:=by simpa using hb
  subst e;exact I1.aE2 (aT _) (I1.hok.fresh (aT _))
 ·obtain⟨a,xs,rfl,e,rr⟩:=r.mZ;cases ru;obtain⟨its,rv,p,hz⟩:=I1.list e;refine BG p.isList ?_;refine⟨s1.heap.objs.size,[s1.heap.objs.size],_,_,H1,rfl,I1.kept λb o e=>bw _ e,aA5 a _,⟨_,cx _ rfl,rfl,rfl⟩,λb hb=>?_,q _ λP r=>.lst a rfl r⟩;have e:b=s1.heap.objs.size:=by simpa using hb
  subst e;exact I1.aE2 (aT _) (I1.hok.fresh (aT _))
theorem aO2(hN:X.N[i]?=ab x)(hv:Vis X.env.scope x)(hd:nDb x:=by decide)(hcd:nCd x:=by decide):PI X tg (.Name x pos) (gIV X.K i):=by
 rintro Ψ s σ H R I ⟨v,d,items,hσ,r,hi,q⟩;exact thn (fX hN hv hd hcd Ψ s σ H (λw H1=>w=v/\H1=H) I ⟨v,hσ,rfl,rfl⟩) λu s1 z0=>by
  obtain⟨w,H1,I1,ru,e1,e2⟩:=z0;subst e1 e2;exact VP I1 r ru hi q
theorem vN(h:jW i=ae):-(2 ^ 62)<=i/\i<2 ^ 62:=by
 simp only[jW,aI,dL] at h;exact h
theorem PI.imp(h:PI X tg l w)(i:∀σ H R,w' σ H R->w σ H R):PI X tg l w':=λΨ s σ H R I q=>h Ψ s σ H R I (i σ H R q)
theorem m9(hg:Gl X "range")(hm:X.mg "range"=ai)(ha:PA X [a] (gA fs rr))(hs:bP [a] X.env=[(ah,bc a X.env)]:=by rfl):PI X tg (.Call (.Name "range" p) [a] [] pos) (gI X.K (jK fs tW)):=
 PI.imp (aA6 hg hm ha hs) λσ H R z0=>by
  obtain⟨ρ,items,k,E,h,q⟩:=z0;obtain⟨xs,h1,h⟩:=bB h;unfold tW at h;split at h
  ·split at h
   ·rename_i hb;cases h;obtain⟨b1,b2⟩:=vN hb;refine⟨ρ,_,E,h1,λvs H1 s1 r1 _=>?_⟩;cases r1 with
    |cons r t=>
     cases t;cases r.inv;exact⟨_,rfl,b1,b2,q _ H1 s1 (.rng 0 _ rfl rfl) λ_=>.rng 0 _ rfl rfl⟩
   ·exact bx h
  ·exact bx h
theorem vO(hg:Gl X "range")(hm:X.mg "range"=ai)(ha:PA X [a,b] (gA fs rr))(hs:bP [a,b] X.env=[(ah,bc a X.env),(ah,bc b X.env)]:=by rfl)(hs2:bP [b] X.env=[(ah,bc b X.env)]:=by rfl):PI X tg (.Call (.Name "range" p) [a,b] [] pos) (gI X.K (jK fs yS)):=
 PI.imp (aA7 hg hm ha hs hs2) λσ H R z0=>by
  obtain⟨ρ,items,k,E,h,q⟩:=z0;obtain⟨xs,h1,h⟩:=bB h;unfold yS at h;split at h
  ·split at h
   ·rename_i hb;cases h;rw[aI] at hb;obtain⟨b1,b2⟩:=vN hb.1;obtain⟨b3,b4⟩:=vN hb.2;refine⟨ρ,_,E,h1,λvs H1 s1 r1 _=>?_⟩;cases r1 with
    |cons r t=>
     cases t with
     |cons r' t=>
      cases t;cases r.inv;cases r'.inv;exact⟨_,_,rfl,⟨b1,b2,b3,b4⟩,q _ H1 s1 (.rng _ _ rfl rfl) λ_=>.rng _ _ rfl rfl⟩
   ·exact bx h
  ·exact bx h
end
theorem aEr(n:af)(ρ bs:aa D)(i:af)(h:i<n):(G5 n ρ++bs).getD i .uD=ρ.getD i .uD:=by
 rw[b9,gq (by simp[G5];exact h)];simp[G5,h]
theorem VR(n:af)(ρ:aa D):(G5 n ρ).length=n:=by simp[G5]
def TgC(g:TG)(t:D->Res (aa D))(n m:af):Prop:=∀(v:V)(d:D)(bs:aa D)(σ:L2.St)(H:Hp)(Q:L2.St->Hp->Prop),σ.length=n->Rep All H v d->t d=.ok bs->
 (∀σ2,Ext (σ++bq m ai) σ2->(∀j b,bs[j]?=ab b->∃w,σ2[n+j]?=ab (ab w)/\Rep All H w b)->Q σ2 H)->g v (σ++bq m ai) H Q
theorem ER.ext(E:ER H σ ρ)(hn:σ.length=n)(x:Ext (σ++bq m ai) σ2)(hb:∀j b,bs[j]?=ab b->∃w,σ2[n+j]?=ab (ab w)/\Rep All H w b):ER H σ2 (G5 n ρ++bs):=by
 intro i hi;by_cases h:i<n
 ·rw[aEr n ρ bs i h] at hi ⊢;obtain⟨v,h1,h2⟩:=E i hi;exact⟨v,x.2 i v (by rw[gq (by rw[hn];exact h)];exact h1),h2⟩
 ·have e:(G5 n ρ++bs).getD i .uD=bs.getD (i-n) .uD:=by
   rw[b9,gm (by rw[VR];lia),VR,<-b9]
  rw[e] at hi ⊢;cases hq:bs[i-n]? with
  |none=>rw[b9,hq] at hi;exact ay rfl hi
  |some b=>
   obtain⟨w,h1,h2⟩:=hb (i-n) b hq;rw[b9,hq];exact⟨w,by rw[<-h1];congr 1;lia,h2⟩
theorem uQ{K:bi}{n m:af}{g:TG}{tc:TT}(tg:TgC g t n m)(hc:∀σ H Q,gT c σ H Q->tc σ H Q){σ:L2.St}{H:Hp}{Q:VK}(hn:σ.length=n)(h:gE (e_ n it t c f k) ae σ H Q) :
  RL (gI K it) g tc (gE f k) m σ H Q:=by
 obtain⟨ρ,d,E,h,q⟩:=h;obtain⟨⟨items,kk⟩,h1,h⟩:=bB h;split at h
 ·rename_i hlim;obtain⟨ys,h2,h⟩:=bB h;cases h;refine⟨ρ,items,kk,E,h1,λJ H1 s1 hJ _ p hp=>?_⟩;have hp0:H p=ai:=s1.free hp;refine⟨λi n' vs H'=>n'=items.length-i/\i<=items.length/\H' p=ab (.lst vs)/\b_ H1 H'/\∃acc,acc.length<=i/\bT (λa=>H a=ai/\a≠p) H' vs acc/\fK (iI n t c f k ρ) acc (items.drop i)=.ok ys,⟨items.length,?_⟩,?_⟩
  ·exact⟨rfl,cz _,aK,b_.upd hp,[],cz _,.nil,h2⟩
  ·rintro i n' vs H' ⟨rfl,hi,hH,sm,acc,hal,racc,hf⟩;refine⟨hH,?_⟩;have hJ':ItQ K All J H' items:=hJ.keep (.same sm) λ_ z=>z
   rcases ke i items.length with hlt|hge
   ·refine .inr ?_;have e:items[i]?=ab items[i]:=d5 hlt;obtain⟨g1,g2⟩:=hJ'.go e;have hl1:items.length<=lim:=c8 hlim;refine⟨g1,?_,λx H2 hy=>?_⟩
    ·rw[racc.length];exact ui hal (cK hlt (c9 hl1 (by rw[di];decide)))
    ·obtain⟨sH,rx⟩:=g2 x H2 hy;have hH:=sH p _ hH;have sm:=sm.trans sH;have racc:=racc.same sH;rw[oq hlt] at hf;obtain⟨acc2,hs,hf⟩:=bB hf;obtain⟨bs,hb,hs⟩:=bB hs;obtain⟨ok,hok,hs⟩:=bB hs;refine tg x items[i] bs σ H2 _ hn rx hb λσ2 hx hbs=>⟨hx,hc _ _ _ ?_⟩
     have E2:ER H2 σ2 (G5 n ρ++bs):=(E.same (s1.trans sm)).ext hn hx hbs;refine⟨_,ok,E2,hok,λH4 s4=>?_⟩;cases ok with
     |true=>
      rw[al rfl];rw[al rfl] at hs;obtain⟨y,hy2,hs⟩:=bB hs;split at hs
      ·rename_i hk;cases hs;refine⟨_,y,E2.same s4,hy2,λw H5 s5 r5 n5=>⟨s5 p _ (s4 p _ hH),items.length-(i+1),by lia,rfl,hlt,aK,?_,acc++[y],?_,?_,hf⟩⟩
       ·exact λb o e=>by
         rw[bG (dI e hp)];exact s5 b o (s4 b o (sm b o e))
       ·rw[bg,xB];lia
       ·have hp5:H5 p=ab (.lst vs):=s5 p _ (s4 p _ hH);have ry:Rep (λa=>H a=ai/\a≠p) H5 w y:=by
         rw[fT] at hk;rcases hk with hk|hk
         ·exact(n5 hk).mono λa ha=>⟨((s1.trans sm).trans s4).free ha,λz=>by subst z;have h0:=s4 _ _ hH;rw[show H4 _=ai from ha] at h0;cases h0⟩
         ·exact r5.bM hk
        have all:bT (λa=>H a=ai/\a≠p) H5 (vs++[w]) (acc++[y]):=(racc.same (s4.trans s5)).snoc ry;refine all.keep (λb o e hb=>?_) λ_ z=>z
        rw[bG]
        ·exact e
        ·rcases hb with hb|hb
         ·exact hb.2
         ·intro z;subst z;rw[hp5] at e;cases e;cases hb
      ·exact bx hs
     |false=>
      rw[au 0x2];rw[au 0x2] at hs;cases hs;exact⟨items.length-(i+1),by lia,rfl,hlt,s4 p _ hH,sm.trans s4,acc,by lia,racc.same s4,hf⟩
   ·refine .inl ⟨hJ'.stop hge,?_⟩;rw[ot hge] at hf;cases hf;exact q _ _ (s1.trans sm) (.lst hH trivial racc.all) λ_=>.lst hH hp0 (racc.mono λa z=>z.1)
 ·exact bx h
def gIx:aa af->TGs
 |[]=>aT0
 |i::is=>aN1 (xM i) (gIx is)
noncomputable def oG:aa af->aa V->L2.St->L2.St
 |i::is,v::vs,σ=>oG is vs (σ.set i (ab v))
 |_,_,σ=>σ
theorem RW:∀(is:aa af)(vs:aa V)(σ:L2.St),vs.length=is.length->Q (oG is vs σ) H->gIx is vs σ H Q
 |[],[],σ,_,q=>⟨rfl,q⟩
 |i::is,v::vs,σ,h,q=>⟨v,vs,rfl,RW is vs (σ.set i (ab v)) (by simpa using h) q⟩
 |[],_::_,_,h,_=>by simp at h
 |_::_,[],_,h,_=>by simp at h
theorem MT:∀(is:aa af)(vs:aa V)(σ:L2.St),(oG is vs σ).length=σ.length
 |[],_,_=>by simp[oG]
 |_::_,[],_=>by simp[oG]
 |i::is,v::vs,σ=>by rw[oG,MT is vs];simp
theorem zF:∀(is:aa af)(vs:aa V)(σ:L2.St)(k:af),k∉is->(oG is vs σ)[k]?=σ[k]?
 |[],_,_,_,_=>by simp[oG]
 |_::_,[],_,_,_=>by simp[oG]
 |i::is,v::vs,σ,k,h=>by
  rw[bu,gw] at h;rw[oG,zF is vs _ k h.2,c5 (cq h.1)]
theorem V0:∀(is:aa af)(vs:aa V)(σ:L2.St)(j i:af)(v:V),is.Nodup->(∀i∈is,i<σ.length)->is[j]?=ab i->vs[j]?=ab v->(oG is vs σ)[i]?=ab (ab v)
 |[],_,_,_,_,_,_,_,h,_=>by simp at h
 |_::_,[],_,_,_,_,_,_,_,h=>by simp at h
 |a::is,w::vs,σ,0,i,v,hn,hl,h1,h2=>by
  have e1:a=i:=by simpa using h1
  have e2:w=v:=by simpa using h2
  subst e1 e2;rw[oG,zF is vs _ a (c_.mp hn).1,fg (hl a (bj ..))]
 |a::is,w::vs,σ,j+1,i,v,hn,hl,h1,h2=>by
  rw[oG];exact V0 is vs _ j i v (c_.mp hn).2 (λi hi=>by rw[kg];exact hl i (bp _ hi)) (by simpa using h1) (by simpa using h2)
theorem dW(n:af):TgC (xM n) jL n 1:=by
 intro v d bs σ H Q hn r h q;cases h;have hl:(σ++bq 1 (ai:ar V)).length=n+1:=by simp[hn]
 refine q _ ⟨by simp,λi w hi=>?_⟩ λj b hj=>?_
 ·have:i≠n:=λz=>by
   subst z;rw[gm 0x1] at hi;simp[hn] at hi
  rw[c5 (cq this)];exact hi
 ·have e:j=0:=by
   have:=(dj.mp hj).1;simp at this;exact this
  subst e;have e:d=b:=by simpa using hj
  subst e;exact⟨v,by rw[BH,fg 0x1],r⟩
theorem aJe(K:bi)(n m:af):TgC (aR7 K m (gIx (BI n m))) (aQp m) n m:=by
 intro v d bs σ H Q hn r h q;cases d<;>simp only[aQp] at h<;>(try (exact bx h;done))
 split at h
 ·rename_i hm;cases h;have hm':=c8 hm;obtain⟨a,xs,rfl,e,rr⟩:=r.fH;refine⟨a,xs,rfl,.of e,by rw[rr.length];exact hm',RW _ _ _ (by rw[rr.length,hm'];simp) ?_⟩;refine q _ ⟨by rw[MT],λi w hi=>?_⟩ λj b hj=>?_
  ·rw[zF]
   ·exact hi
   ·intro hmem;have:=BM.mp hmem;rw[gm 0x1] at hi;rw[jc] at hi;split at hi<;>cases hi
  ·obtain⟨w,h1,h2⟩:=rr.get hj;have hjm:j<m:=by rw[<-hm'];exact(dj.mp hj).1
   refine⟨w,V0 _ _ _ j (n+j) w (List.nodup_range' ..) (λi hi=>?_) ?_ h1,h2⟩
   ·have:=BM.mp hi;simp[hn];lia
   ·rw[List.getElem?_range' hjm];simp
 ·exact bx h
section
theorem aJf(S:cH X.N X.env.scope scope ownN)(hn:X.N.length=n)(hm:ownN.length=m)(hcalm:X.calm=ae)(hi:PI X tg iter (gI X.K it))(ht:TgC g t n m)(hg:∀X',c7 X X' scope ownN->PG X' tg g)(he:∀X',c7 X X' scope ownN->PE X' elt (gE fe re))
 (hs:∀x,eB iter X.env x=pure x):PE X (.ListComp elt [⟨tg,iter,[],0⟩] scope pos) (gE (e_ n it t eU fe re) ae):=by
 intro Ψ s σ H Q I h;subst hm;exact U8 S hcalm hi hg he hs Ψ s σ H Q I (uQ ht (λσ H Q h=>by obtain⟨ρ,b,E,h,q⟩:=h;cases h;exact q H (b_.refl H)) (I.len.trans hn) h)
theorem aBe(S:cH X.N X.env.scope scope ownN)(hn:X.N.length=n)(hm:ownN.length=m)(hcalm:X.calm=ae)(hi:PI X tg iter (gI X.K it))(ht:TgC g t n m)(hg:∀X',c7 X X' scope ownN->PG X' tg g)(hc:∀X',c7 X X' scope ownN->PT X' c (gT gc))(he:∀X',c7 X X' scope ownN->PE X' elt (gE fe re))
 (hs:∀x,eB iter X.env x=pure x):PE X (.ListComp elt [⟨tg,iter,[c],0⟩] scope pos) (gE (e_ n it t gc fe re) ae):=by
 intro Ψ s σ H Q I h;subst hm;exact aB2 S hcalm hi hg hc he hs Ψ s σ H Q I (uQ ht (λσ H Q h=>h) (I.len.trans hn) h)
end
end
variable [KFrag]
theorem iJ.bM:∀{v:aa (Key×V)}{d:aa (D×D)},iJ P H v d->θ (d.map (·.2))=ae->iJ P' H v d
 |_,_,.nil,_=>.nil
 |_,_,.cons r t,h=>by
  rw[bd,θ,aI] at h;exact .cons (r.bM h.1) (t.bM h.2)
theorem o6.bM:∀{v:aa (aa Key×V)}{d:aa (D×D)},o6 P H v d->θ (d.map (·.2))=ae->o6 P' H v d
 |_,_,.nil,_=>.nil
 |_,_,.cons r t,h=>by
  rw[bd,θ,aI] at h;exact .cons (r.bM h.1) (t.bM h.2)
theorem Rep.aMg(r:Rep P H (.ref a) d)(h:inner d=ae)(hp:P' a):Rep P' H (.ref a) d:=by
 cases r with
 |tup e r=>cases h
 |lst e p r=>exact .lst e hp (r.bM h)
 |cel e p r=>exact .cel e hp (r.bM h)
 |frz e r=>cases h
 |dK e p r n=>exact .dK e hp (r.bM h) n
 |dT e p r n=>exact .dT e hp (r.bM h) n
 |fdK e r n=>cases h
 |fdT e r n=>cases h
 |exc n e q=>cases h
 |ins n e q=>cases h
 |adr=>cases h
 |dlK e p r n=>exact .dlK e hp (r.bM h) n
 |dlT e p r n=>exact .dlT e hp (r.bM h) n
def Own(own:af->aq)(σ:L2.St)(a:ak):Prop:=∃i,own i=ae/\σ[i]?=ab (ab (.ref a))
structure ES(own:af->aq)(H:Hp)(σ:L2.St)(ρ:aa D):Prop where
 len:σ.length=ρ.length
 at_:∀i,ρ.getD i .uD≠.uD->∃v,σ[i]?=ab (ab v)/\(own i=ah->Rep (λa=>¬Own own σ a) H v (ρ.getD i .uD))
 own:∀i v,own i=ae->σ[i]?=ab (ab v)->∃a o,v=.ref a/\Rep All H v (ρ.getD i .uD)/\inner (ρ.getD i .uD)=ae/\H a=ab o/\LQ o=ae/\∀j,own j=ae->σ[j]?=ab (ab (.ref a))->j=i
variable {own:af->aq}
theorem ES.er(e:ES own H σ ρ):ER H σ ρ:=λi hi=>by
 obtain⟨v,h1,h2⟩:=e.at_ i hi;cases ho:own i with
 |false=>exact⟨v,h1,(h2 ho).all⟩
 |true=>
  obtain⟨a,o,_,h3,_⟩:=e.own i v ho h1;exact⟨v,h1,h3⟩
theorem ES.live(e:ES own H σ ρ)(h:Own own σ a):∃o,H a=ab o/\LQ o=ae:=by
 obtain⟨i,hi,hs⟩:=h;obtain⟨b,o,eb,_,_,h3,h4,_⟩:=e.own i _ hi hs;cases eb;exact⟨o,h3,h4⟩
theorem ES.same(e:ES own H σ ρ)(s:b_ H H'):ES own H' σ ρ:=by
 refine⟨e.len,λi hi=>?_,λi v hi hv=>?_⟩
 ·obtain⟨v,h1,h2⟩:=e.at_ i hi;exact⟨v,h1,λho=>(h2 ho).same s⟩
 ·obtain⟨a,o,h1,h2,h3,h4,h5,h6⟩:=e.own i v hi hv;exact⟨a,o,h1,h2.same s,h3,s _ _ h4,h5,h6⟩
def KU(own:af->aq)(σ:L2.St)(H:Hp)(σ':L2.St)(H':Hp):Prop:=∀a o,H a=ab o->¬Own own σ a->H' a=ab o/\¬Own own σ' a
theorem KU.trans(a:KU own σ H σ1 H1)(b:KU own σ1 H1 σ2 H2):KU own σ H σ2 H2:=λc o e n=>let ⟨e1,n1⟩:=a c o e n;b c o e1 n1
theorem KU.same(s:b_ H H'):KU own σ H σ H':=λa o e n=>⟨s a o e,n⟩
theorem KU.keep(k:KU own σ H σ' H')(e:ES own H σ ρ):DP (λa=>¬Own own σ a) H H':=λa o h hp=>by
 by_cases ho:Own own σ a
 ·obtain⟨o',h1,h2⟩:=e.live ho;rw[h] at h1;cases h1;rcases hp with hp|hp
  ·exact ay ho hp
  ·rw[h2] at hp;cases hp
 ·exact(k a o h ho).1
theorem KU.rep(k:KU own σ H σ' H')(e:ES own H σ ρ)(r:Rep (λa=>¬Own own σ a) H v d):Rep (λa=>¬Own own σ' a) H' v d:=r.aEj (k.keep e) λa o h n=>(k a o h n).2
def kRt(own:af->aq)(D:Ends)(σ:L2.St)(H:Hp)(d:Mi.D):Prop:=if own rtX=ae then ∃d0 ρ',d=.tup (d0::ρ')/\∀v σ' H',KU own σ H σ' H'->ES own H' σ' ρ'->Rep (λa=>(Own own σ a\/H a=ai)/\∀i b xs,ρ'.getD i .uD=.cel b xs->a≠b) H' v d0->D.rt v H'
  else ∀v H',(∀a o,H a=ab o->¬Own own σ a->H' a=ab o)->Rep (λa=>Own own σ a\/H a=ai) H' v d->D.rt v H'
theorem kRt.old{D:Ends}(h:kRt own D σ H d)(hx:own rtX=ah):∀v H',(∀a o,H a=ab o->¬Own own σ a->H' a=ab o)->Rep (λa=>Own own σ a\/H a=ai) H' v d->D.rt v H':=by
 unfold kRt at h;rw[au (by rw[hx];simp)] at h;exact h
theorem kRt.mk{D:Ends}(hx:own rtX=ah)(h:∀v H',(∀a o,H a=ab o->¬Own own σ a->H' a=ab o)->Rep (λa=>Own own σ a\/H a=ai) H' v d->D.rt v H'):kRt own D σ H d:=by
 unfold kRt;rw[au (by rw[hx];simp)];exact h
def kS(own:af->aq)(D:Ends)(σ:L2.St)(H:Hp):Fl->Prop
 |.nx ρ=>∀σ' H',KU own σ H σ' H'->ES own H' σ' ρ->D.nx σ' H'
 |.bk ρ=>∀σ' H',KU own σ H σ' H'->ES own H' σ' ρ->D.bk σ' H'
 |.ct ρ=>∀σ' H',KU own σ H σ' H'->ES own H' σ' ρ->D.ct σ' H'
 |.rt d=>kRt own D σ H d
theorem kS.step{D:Ends}{σ σ':L2.St}{H H':Hp}{fl:Fl}(k:KU own σ H σ' H')(h:kS own D σ H fl):kS own D σ' H' fl:=by
 cases fl with
 |nx ρ=>exact λσ2 H2 k2 e=>h σ2 H2 (k.trans k2) e
 |bk ρ=>exact λσ2 H2 k2 e=>h σ2 H2 (k.trans k2) e
 |ct ρ=>exact λσ2 H2 k2 e=>h σ2 H2 (k.trans k2) e
 |rt d=>
  have old:∀a,(Own own σ' a\/H' a=ai)->Own own σ a\/H a=ai:=λa ha=>by
   cases q:H a with
   |none=>exact .inr rfl
   |some o=>
    refine .inl (DS λn=>?_);obtain⟨e1,n1⟩:=k a o q n;rcases ha with ha|ha
    ·exact n1 ha
    ·rw[e1] at ha;cases ha
  have h:kRt own D σ H d:=h;show kRt own D σ' H' d;unfold kRt at h ⊢;by_cases hx:own rtX=ae
  ·rw[al hx] at h ⊢;obtain⟨d0,ρ',e,g⟩:=h;exact⟨d0,ρ',e,λv σ2 H2 k2 E2 r=>g v σ2 H2 (k.trans k2) E2 (r.mono λa ha=>⟨old a ha.1,ha.2⟩)⟩
  ·rw[au hx] at h ⊢;exact λv H2 hk r=>h v H2 (λa o e n=>let ⟨e1,n1⟩:=k a o e n;hk a o e1 n1) (r.mono λa ha=>old a ha)
noncomputable def tS(own:af->aq)(f:FS):TS:=λD σ H=>∃ρ fl,ES own H σ ρ/\f ρ=.ok fl/\kS own D σ H fl
theorem PS.imp{st:bn}(h:PS X st t)(i:∀D σ H,t' D σ H->t D σ H):PS X st t':=λΨ s σ H D I q=>h Ψ s σ H D I (i D σ H q)
theorem PSs.imp{st:aa bn}{t t':TS}(h:PSs X st t)(i:∀D σ H,t' D σ H->t D σ H):PSs X st t':=λΨ s σ H D I q=>h Ψ s σ H D I (i D σ H q)
section
variable {X:Cx} {a b c e:Expr} {pos pos':cj} {fe:FE} {re:aq} {gc:FT} {f g:FS} {st:bn} {rest s1 s2:aa bn}
theorem cV:PSs X [] (tS own uF):=PSs.imp aA2 λD σ H z0=>by
 obtain⟨ρ,fl,E,h,q⟩:=z0;cases h;exact q σ H (λa o e n=>⟨e,n⟩) E
theorem aJg{D:Ends}(h:tS own (bN f g) D σ H):aR4 (tS own f) (tS own g) D σ H:=by
 obtain⟨ρ,fl,E,h,q⟩:=h;obtain⟨r,h1,h2⟩:=bB h;refine⟨ρ,r,E,h1,?_⟩;cases r with
 |nx ρ'=>exact λσ' H' k E'=>⟨ρ',fl,E',h2,q.step k⟩
 |bk ρ'=>cases h2;exact q
 |ct ρ'=>cases h2;exact q
 |rt d=>cases h2;exact q
theorem aG(h1:PS X st (tS own f))(h2:PSs X rest (tS own g)):PSs X (st::rest) (tS own (bN f g)):=PSs.imp (mQ h1 h2) λ_ _ _=>aJg
theorem aR(h1:PS X st (tS own f)):PSs X [st] (tS own f):=aIa h1
theorem gK(hc:PT X c (gT gc))(ha:PSs X s1 (tS own f))(hb:PSs X s2 (tS own g)):PS X (.If c s1 s2 pos) (tS own (sIf gc f g)):=PS.imp (aN0 hc ha hb) λD σ H z0=>by
 obtain⟨ρ,fl,E,h,q⟩:=z0;obtain⟨k,h1,h2⟩:=bB h;refine⟨ρ,k,E.er,h1,λH' s=>?_⟩;cases k with
 |true=>rw[al rfl];rw[al rfl] at h2;exact⟨ρ,fl,E.same s,h2,q.step (.same s)⟩
 |false=>rw[au 0x2];rw[au 0x2] at h2;exact⟨ρ,fl,E.same s,h2,q.step (.same s)⟩
theorem dM(he:PE X e (gE fe re))(hx:own rtX=ah:=by rfl):PS X (.Return (ab e) pos) (tS own (nR fe re)):=PS.imp (aA3 he) λD σ H z0=>by
 obtain⟨ρ,fl,E,h,q⟩:=z0;obtain⟨d,h1,h2⟩:=bB h;split at h2
 ·rename_i hk;cases h2;refine⟨ρ,d,E.er,h1,λv H' s r n=>q.old hx v H' (λa o e _=>s a o e) ?_⟩;rw[fT] at hk;rcases hk with hk|hk
  ·exact(n hk).mono λa ha=>.inr ha
  ·exact r.bM hk
 ·exact bx h2
theorem zG(ho:own i=ae)(hN:X.N[i]?=ab x)(hv:Vis X.env.scope x)(hd:nDb x:=by decide)(hcd:nCd x:=by decide)(hx:own rtX=ah:=by rfl):PS X (.Return (ab (.Name x pos')) pos) (tS own (YH i)):=
 PS.imp (aA3 (fX hN hv hd hcd)) λD σ H z0=>by
 obtain⟨ρ,fl,E,h,q⟩:=z0;obtain⟨d,h1,h2⟩:=bB h;cases h2;obtain⟨v,hv,r,e⟩:=E.er.var h1;obtain⟨a,o,rfl,r2,hin,_⟩:=E.own i v ho hv;rw[e] at hin;exact⟨_,hv,q.old hx _ H (λa o e _=>e) (r.aMg hin (.inl ⟨i,ho,hv⟩))⟩
theorem lK(ho:own i=ah)(a:ak):Own own (σ.set i (ab v)) a↔Own own σ a:=by
 constructor
 ·rintro⟨j,hj,e⟩;have:i≠j:=λz=>by subst z;rw[ho] at hj;cases hj
  rw[c5 this] at e;exact⟨j,hj,e⟩
 ·rintro⟨j,hj,e⟩;have:i≠j:=λz=>by subst z;rw[ho] at hj;cases hj
  exact⟨j,hj,by rw[c5 this];exact e⟩
theorem dF{ρ:aa D}:(ρ.set i d).getD j .uD=if i=j/\i<ρ.length then d else ρ.getD j .uD:=by
 rw[b9,b9,iu];by_cases h:i=j
 ·subst h;by_cases h2:i<ρ.length
  ·simp[h2]
  ·simp[h2]
 ·simp[h]
theorem ES.set(E:ES own H σ ρ)(ho:own i=ah)(r:Rep (λa=>¬Own own σ a) H v d):ES own H (σ.set i (ab v)) (ρ.set i d):=by
 have hO:(λa=>¬Own own (σ.set i (ab v)) a)=λa=>¬Own own σ a:=funext λa=>by rw[lK ho]
 refine⟨by simp[E.len],λj hj=>?_,λj w hj hw=>?_⟩
 ·rw[dF] at hj ⊢;rw[hO];by_cases h:i=j/\i<ρ.length
  ·rw[al h];obtain⟨rfl,hl⟩:=h;exact⟨v,by rw[fg (by rw[E.len];exact hl)],λ_=>r⟩
  ·rw[au h] at hj ⊢;obtain⟨w,h1,h2⟩:=E.at_ j hj;by_cases hij:i=j
   ·subst hij;have:i<σ.length:=(dj.mp h1).1;rw[E.len] at this;exact ay ⟨rfl,this⟩ h
   ·exact⟨w,by rw[c5 hij];exact h1,h2⟩
 ·have hij:i≠j:=λz=>by subst z;rw[ho] at hj;cases hj
  rw[c5 hij] at hw;rw[dF,au λz=>hij z.1];obtain⟨a,o,h1,h2,h3,h4,h5,h6⟩:=E.own j w hj hw;refine⟨a,o,h1,h2,h3,h4,h5,λk hk hs=>h6 k hk ?_⟩;have hik:i≠k:=λz=>by subst z;rw[ho] at hk;cases hk
  rwa [c5 hik] at hs
theorem ES.aQq{i:af}{a:ak}{o:HO}{d:D}(E:ES own H σ ρ)(s:b_ H H')(ho:own i=ae)(hn:H a=ai)(r:Rep All H' (.ref a) d)(hin:inner d=ae)(ha:H' a=ab o)(hm:LQ o=ae) :
  ES own H' (σ.set i (ab (.ref a))) (ρ.set i d)/\KU own σ H (σ.set i (ab (.ref a))) H':=by
 have hO:∀b,H b≠ai->¬Own own σ b->¬Own own (σ.set i (ab (.ref a))) b:=λb hb n z0=>by
  obtain⟨j,hj,e⟩:=z0;by_cases hij:i=j
  ·subst hij;by_cases hl:i<σ.length
   ·rw[fg hl] at e;cases e;exact hb hn
   ·rw[iu,al rfl,au hl] at e;cases e
  ·rw[c5 hij] at e;exact n ⟨j,hj,e⟩
 refine⟨⟨by simp[E.len],λj hj=>?_,λj w hj hw=>?_⟩,λb ob e n=>⟨s b ob e,hO b (by rw[e];simp) n⟩⟩
 ·rw[dF] at hj ⊢;by_cases h:i=j/\i<ρ.length
  ·rw[al h];obtain⟨rfl,hl⟩:=h;exact⟨.ref a,by rw[fg (by rw[E.len];exact hl)],λz=>by rw[ho] at z;cases z⟩
  ·rw[au h] at hj ⊢;obtain⟨w,h1,h2⟩:=E.at_ j hj;by_cases hij:i=j
   ·subst hij;have:i<σ.length:=(dj.mp h1).1;rw[E.len] at this;exact ay ⟨rfl,this⟩ h
   ·exact⟨w,by rw[c5 hij];exact h1,λhj=>((h2 hj).dom.same s).mono λb ⟨n,hb⟩=>hO b hb n⟩
 ·by_cases hij:i=j
  ·subst hij;have hl:i<σ.length:=by
    have:=(dj.mp hw).1;simpa using this
   rw[fg hl] at hw;cases hw;rw[dF,al ⟨rfl,by rw[<-E.len];exact hl⟩];refine⟨a,o,rfl,r,hin,ha,hm,λk hk hs=>?_⟩;by_cases hik:i=k
   ·exact hik.symm
   ·rw[c5 hik] at hs;obtain⟨o',h1,_⟩:=E.live ⟨k,hk,hs⟩;rw[hn] at h1;cases h1
  ·rw[c5 hij] at hw;rw[dF,au λz=>hij z.1];obtain⟨b,ob,h1,h2,h3,h4,h5,h6⟩:=E.own j w hj hw;refine⟨b,ob,h1,h2.same s,h3,s _ _ h4,h5,λk hk hs=>?_⟩;by_cases hik:i=k
   ·subst hik;by_cases hl:i<σ.length
    ·rw[fg hl] at hs;cases hs;rw[hn] at h4;cases h4
    ·rw[iu,al rfl,au hl] at hs;cases hs
   ·rw[c5 hik] at hs;exact h6 k hk hs
theorem DW(r:Rep P H v d)(hin:inner d=ae):∃a o,v=.ref a/\P a/\H a=ab o/\LQ o=ae:=by
 cases r with
 |lst e p r=>exact⟨_,_,rfl,p,e,rfl⟩
 |cel e p r=>exact⟨_,_,rfl,p,e,rfl⟩
 |dK e p r n=>exact⟨_,_,rfl,p,e,rfl⟩
 |dT e p r n=>exact⟨_,_,rfl,p,e,rfl⟩
 |dlK e p r n=>exact⟨_,_,rfl,p,e,rfl⟩
 |dlT e p r n=>exact⟨_,_,rfl,p,e,rfl⟩
 |fdK e r n=>cases hin
 |fdT e r n=>cases hin
 |_=>cases hin
theorem aBf(E:ES own H σ ρ)(r:Rep (New H) H' v d):Rep (λa=>¬Own own σ a) H' v d:=r.mono λa ha ho=>by
 obtain⟨o,h1,_⟩:=E.live ho;rw[show H a=ai from ha] at h1;cases h1
theorem HN(ho:own i=o)(h:tS own (cR o i fe re) D' σ H):aMb (gE fe re) (xM i) D' σ H:=by
 obtain⟨ρ,fl,E,h,q⟩:=h;obtain⟨d,h1,h2⟩:=bB h;cases o with
 |true=>
  simp only[eI] at h2;split at h2
  ·rename_i hk;cases h2;refine⟨ρ,d,E.er,h1,λv H' s r n=>?_⟩;rw[aI] at hk;obtain⟨a,ob,rfl,hn,ha,hm⟩:=DW (n hk.1) hk.2;obtain⟨E2,k⟩:=E.aQq s ho hn r hk.2 ha hm;exact q _ H' k E2
  ·exact bx h2
 |false=>
  simp only[iN,gu] at h2;split at h2
  ·rename_i hk;cases h2;refine⟨ρ,d,E.er,h1,λv H' s r n=>?_⟩;rw[fT] at hk;have r2:Rep (λa=>¬Own own σ a) H' v d:=by
    rcases hk with hk|hk
    ·exact aBf E (n hk)
    ·exact r.bM hk
   exact q _ H' (λa ob e hn=>⟨s a ob e,by rw[lK ho];exact hn⟩) ((E.same s).set ho r2)
  ·exact bx h2
theorem aGx(ho:own i=o)(hN:X.N.Nodup)(hi:X.N[i]?=ab x)(hx:Loc X.env.scope x)(he:PE X e (gE fe re))(hs:zSw X e x pos' pos:=by rfl)(hf:zFn X x:=by first|exact .inl rfl|exact .inr rfl|assumption) :
  PS X (.Assign [.Name x pos'] e pos) (tS own (cR o i fe re)):=PS.imp (CV hN hi hx he hs hf) λ_ _ _=>HN ho
theorem bY{i:af}{x:Str}{o:aq}(he:PE X e (gE fe re))(ho:own i=o:=by rfl)(hN:X.N.Nodup:=by assumption)(hi:X.N[i]?=ab x:=by exact rfl)(hx:Loc X.env.scope x:=by trivial)(hs:zSw X e x pos' pos:=by rfl)(hf:zFn X x:=by first|exact .inl rfl|exact .inr rfl|assumption):PS X (.Assign [.Name x pos'] e pos) (tS own (cR o i fe re)):=aGx ho hN hi hx he hs hf
theorem ES.mut{i:af}{a:ak}{o:HO}{d:D}(E:ES own H σ ρ)(ho:own i=ae)(hi:σ[i]?=ab (ab (.ref a)))(hm:LQ o=ae)(r:Rep All (upd H a o) (.ref a) d)(hin:inner d=ae) :
  ES own (upd H a o) σ (ρ.set i d)/\KU own σ H σ (upd H a o):=by
 have hOa:Own own σ a:=⟨i,ho,hi⟩
 obtain⟨a',oa,ea,_,_,hHa,hma,huq⟩:=E.own i _ ho hi;cases ea;have k:KU own σ H σ (upd H a o):=λb ob e n=>⟨by rw[bG (λz=>by subst z;exact n hOa)];exact e,n⟩
 have hl:i<ρ.length:=by rw[<-E.len];exact(dj.mp hi).1
 refine⟨⟨by simp[E.len],λj hj=>?_,λj w hj hw=>?_⟩,k⟩
 ·rw[dF] at hj ⊢;by_cases h:i=j/\i<ρ.length
  ·obtain⟨rfl,_⟩:=h;exact⟨_,hi,λz=>by rw[ho] at z;cases z⟩
  ·rw[au h] at hj ⊢;obtain⟨w,h1,h2⟩:=E.at_ j hj;exact⟨w,h1,λhj=>k.rep E (h2 hj)⟩
 ·by_cases hij:i=j
  ·subst hij;rw[hi] at hw;cases hw;rw[dF,al ⟨rfl,hl⟩];exact⟨a,o,rfl,r,hin,aK,hm,huq⟩
  ·rw[dF,au λz=>hij z.1];obtain⟨b,ob,h1,h2,h3,h4,h5,h6⟩:=E.own j w hj hw;subst h1;have hba:b≠a:=λz=>by subst z;exact hij (h6 i ho hi)
   refine⟨b,ob,rfl,?_,h3,by rw[bG hba];exact h4,h5,h6⟩;refine(h2.aMg (P':=λc=>c=b) h3 rfl).keep (λc oc hc hp=>?_) λ_ _=>trivial
   rw[bG]
   ·exact hc
   ·intro z;subst z;rcases hp with hp|hp
    ·exact hba hp.symm
    ·rw[hHa] at hc;cases hc;rw[hma] at hp;cases hp
theorem ES.ownAt(E:ES own H σ ρ)(ho:own i=ae)(hd:ρ.getD i .uD≠.uD):∃a o,σ[i]?=ab (ab (.ref a))/\Rep All H (.ref a) (ρ.getD i .uD)/\inner (ρ.getD i .uD)=ae/\H a=ab o/\LQ o=ae:=by
 obtain⟨v,h1,_⟩:=E.at_ i hd;obtain⟨a,o,rfl,h2,h3,h4,h5,_⟩:=E.own i v ho h1;exact⟨a,o,h1,h2,h3,h4,h5⟩
theorem DX{a:ak}(r:Rep All H (.ref a) (.lst xs)):∃vs,H a=ab (.lst vs)/\bT All H vs xs:=by
 cases r with
 |lst e _ r=>exact⟨_,e,r⟩
theorem bT.upd{a:ak}{xs:aa D}{o:HO}{ob:HO}(r:bT All H vs xs)(hp:θ xs=ae)(ha:H a=ab ob)(hm:LQ ob=ae):bT All (upd H a o) vs xs:=by
 refine(r.bM (P':=λ_=>ck) hp).keep (λc oc hc h=>?_) λ_ h=>h.elim
 rw[bG]
 ·exact hc
 ·intro z;subst z;rcases h with h|h
  ·exact h
  ·rw[ha] at hc;cases hc;rw[hm] at h;cases h
theorem lW:θ (xs++ys)=(θ xs&&θ ys):=by
 induction xs with
 |nil=>simp[θ]
 |cons x xs ih=>rw[eP,θ,θ,ih,Bc]
theorem oH(ho:own i=ae)(hN:X.N[i]?=ab x)(hv:Vis X.env.scope x)(he:PE X e (gE fe re))(hd:nDb x:=by decide)(hcd:nCd x:=by decide)
 (hbase:gn (.Name x p1) "append" X.env (bc (.Name x p1) X.env)=bc (.Name x p1) X.env:=by rfl)
 (hs1:zSE X e []:=by rfl)
 (hfew:zFw X cpos [e]:=by rfl)
 (hline:(apos.endLine==cpos.line)=ae:=by rfl)
 (hs:dw (.Call (.Attribute (.Name x p1) "append" apos) [e] [] cpos) ai pos.line X.env=pure ah:=by rfl) :
  PS X (.Expr (.Call (.Attribute (.Name x p1) "append" apos) [e] [] cpos) pos) (tS own (Q_ i fe)):=
 PS.imp (vG (YF la sN yq uJ (fX hN hv hd hcd) (eG he j8 hs1) hbase hfew hline hs1 rfl) hs) λD' σ H z0=>by
 obtain⟨ρ,fl,E,h,q⟩:=z0;obtain⟨d,h1,h2⟩:=bB h;split at h2
 ·rename_i xs hx;split at h2
  ·rename_i hk;cases h2;rw[aI] at hk;obtain⟨a,o,hσ,r,hin,ha,hm⟩:=E.ownAt ho (by rw[hx];intro z;cases z);rw[hx] at r hin;obtain⟨vs,hl,rr⟩:=DX r;refine⟨_,hσ,.inl ⟨rfl,vs,.of hl⟩,ρ,d,E.er,h1,λv H' s rv _=>⟨a,vs,v,rfl,rfl,s _ _ hl,by rw[rr.length];exact MF hk.1,?_⟩⟩;have E':=E.same s;have hl':=s _ _ hl;obtain⟨E2,k2⟩:=E'.mut ho hσ rfl (.lst aK trivial (((rr.same s).snoc rv).upd (by rw[lW];simp only[aI];exact⟨hin,by simp[θ,hk.2]⟩) hl' rfl)) (by show θ (xs++[d])=ae;rw[lW];simp only[aI];exact⟨hin,by simp[θ,hk.2]⟩);exact q _ _ ((KU.same s).trans k2) E2
  ·exact bx h2
 ·exact bx h2
end
end Mi
namespace L2
open PySem PySem.Spec PyProof.Rows
section
variable {X:Cx} {scope:fR} {own:aa Str}
theorem aEs{y:Str}{py:cj}{iy:af}(hNn:X.N.Nodup)(hiy:X.N[iy]?=ab y)(hxy:Loc X.env.scope y)(hfy:zFn X y){Ψ:aa (ak×bf)}{σ:St}{D:Ends}{p C:ak}{H5:Hp}{s6:ao}{m6:Str->ar aj}(f:Inv X Ψ σ H5 s6)(k:Z1 X Ψ H5 C)(n:s6.heap.Ns C m6)(q:xM iy (.ref p) σ H5 D.nx):mv (av X.prog X.w) X.A X.xe (ab (nv (.Name y py) X.env)) (λ_ s'=>SP X Ψ D .next s') (.ref p) C (.ok .next) s6:=by
 obtain⟨oC,esC,epC,hoC,hdC,_⟩:=id n;have finP:=f.QX (pins':=Ψ++[(C,oC)]) λp hp=>(dQ.mp hp).elim (λz=>f.pin p (eu _ z)) λz=>by
  have z':p=(C,oC):=by simpa using z
  subst z';exact⟨hoC,k.1,k.2.1,k.2.2.1,λv z=>by rw[hdC] at z;cases z⟩
 refine thn (bA (pos:=py) hNn hiy hxy hfy _ _ σ H5 (.ref p) (.ref p) D.nx finP rfl q) λ_ s7 ⟨σ7,H7,I7,q7⟩=>?_
 obtain⟨g7,hC7,_⟩:=I7.pin (C,oC) (eu _ (eu _ 0x2));refine⟨m6,n.at' λo e=>?_,λh' sb=>⟨σ7,H7,Inv.turned (t':=s7.toks) I7.uH (λb o hb e=>sb.extBut b o hb e) hC7 k.2.1 k.2.2.2.1 k.2.2.2.2.1 k.2.2.2.2.2,q7⟩⟩;rw[hoC] at e;cases e;exact g7
theorem aO3{elt iter tg:Expr}{ifs:aa Expr}{wi:TI}{g:TG}{tc:TT}{te:TE}{pos:cj}(S:cH X.N X.env.scope scope own)(hcalm:X.calm=ae)(hi:PI X tg iter wi)
 (hg:∀X',c7 X X' scope own->PG X' tg g)(hc:(ifs=[]/\tc=λ_ H Q=>Q ae H)\/∃c,ifs=[c]/\∀X',c7 X X' scope own->PT X' c tc)(he:∀X',c7 X X' scope own->PE X' elt te)
 (hs:∀x,eB iter X.env x=pure x){y:Str}{py pos2:cj}{iy:af}(hNn:X.N.Nodup)(hiy:X.N[iy]?=ab y)(hxy:Loc X.env.scope y)(hfy:zFn X y)(hsw:dw (.ListComp elt [⟨tg,iter,ifs,0⟩] scope pos) (ab (.Name y py)) pos2.line X.env=pure ae):PS X (.Assign [.Name y py] (.ListComp elt [⟨tg,iter,ifs,0⟩] scope pos) pos2) (aMb (RL wi g tc te own.length) (xM iy)):=by
 intro Ψ s σ H D I h;rw[exec_Assign_Name_used _ _ _ _ hsw];refine am (BN (am ?_));show ϑ _ X.A (do let _ <- A9 (.ListComp elt [⟨tg,iter,ifs,0⟩] scope pos) scope X.env _ (yb []) ah (bc iter X.env) (ab (nv (.Name y py) X.env))) _ _ s;exact am (gk (RM (QQ:=λ_ s'=>SP X Ψ D .next s') S hcalm hi hg hc he hs I h (aEs hNn hiy hxy hfy)) (λ_ s' hq=>aE (aE hq)) λ_ _ e=>e)
theorem M3{elt iter tg c:Expr}{wi:TI}{g:TG}{tc:TT}{te:TE}{pos:cj}(S:cH X.N X.env.scope scope own)(hcalm:X.calm=ae)(hi:PI X tg iter wi)
 (hg:∀X',c7 X X' scope own->PG X' tg g)(hc:∀X',c7 X X' scope own->PT X' c tc)(he:∀X',c7 X X' scope own->PE X' elt te)
 (hs:∀x,eB iter X.env x=pure x){y:Str}{py pos2:cj}{iy:af}(hNn:X.N.Nodup)(hiy:X.N[iy]?=ab y)(hxy:Loc X.env.scope y)(hfy:zFn X y)(hsw:dw (.ListComp elt [⟨tg,iter,[c],0⟩] scope pos) (ab (.Name y py)) pos2.line X.env=pure ae):PS X (.Assign [.Name y py] (.ListComp elt [⟨tg,iter,[c],0⟩] scope pos) pos2) (aMb (RL wi g tc te own.length) (xM iy)):=
 aO3 S hcalm hi hg (.inr ⟨c,rfl,hc⟩) he hs hNn hiy hxy hfy hsw
theorem aEt{elt iter tg:Expr}{wi:TI}{g:TG}{te:TE}{pos:cj}(S:cH X.N X.env.scope scope own)(hcalm:X.calm=ae)(hi:PI X tg iter wi)
 (hg:∀X',c7 X X' scope own->PG X' tg g)(he:∀X',c7 X X' scope own->PE X' elt te)
 (hs:∀x,eB iter X.env x=pure x){y:Str}{py pos2:cj}{iy:af}(hNn:X.N.Nodup)(hiy:X.N[iy]?=ab y)(hxy:Loc X.env.scope y)(hfy:zFn X y)(hsw:dw (.ListComp elt [⟨tg,iter,[],0⟩] scope pos) (ab (.Name y py)) pos2.line X.env=pure ae):PS X (.Assign [.Name y py] (.ListComp elt [⟨tg,iter,[],0⟩] scope pos) pos2) (aMb (RL wi g (λ_ H Q=>Q ae H) te own.length) (xM iy)):=
 aO3 S hcalm hi hg (.inl ⟨rfl,rfl⟩) he hs hNn hiy hxy hfy hsw
end
end L2
namespace Mi
open PySem L2 PySem.SeqAt PySem.Spec PyProof.Rows
section
variable [KFrag]
variable {own:af->aq}
section
variable {X:Cx} {a b c e:Expr} {pos pos':cj} {fb fe:FE} {re:aq} {gc:FT} {f g:FS} {st:bn} {s1 s2:aa bn}
variable {scope:fR} {ownN:aa Str} {elt iter tg:Expr} {it:FI} {t:D->Res (aa D)} {gt:TG}
theorem aJh(S:cH X.N X.env.scope scope ownN)(hn:X.N.length=n)(hm:ownN.length=m)(hcalm:X.calm=ae)(hi:PI X tg iter (gI X.K it))(ht:TgC gt t n m)(hg:∀X',c7 X X' scope ownN->PG X' tg gt)(he:∀X',c7 X X' scope ownN->PE X' elt (gE fe re))
 (hs:∀x,eB iter X.env x=pure x)(ho:own iy=o)(hNn:X.N.Nodup)(hiy:X.N[iy]?=ab y)(hxy:Loc X.env.scope y)(hfy:zFn X y)(hsw:dw (.ListComp elt [⟨tg,iter,[],0⟩] scope pos) (ab (.Name y py)) pos2.line X.env=pure ae) :
  PS X (.Assign [.Name y py] (.ListComp elt [⟨tg,iter,[],0⟩] scope pos) pos2) (tS own (cR o iy (e_ n it t eU fe re) ae)):=by
 intro Ψ s σ H D I h;subst hm;refine aEt S hcalm hi hg he hs hNn hiy hxy hfy hsw Ψ s σ H D I ?_;exact uQ ht (λσ H Q h=>by obtain⟨ρ,b,E,h,q⟩:=h;cases h;exact q H (b_.refl H)) (I.len.trans hn) (HN ho h)
theorem aBg(S:cH X.N X.env.scope scope ownN)(hn:X.N.length=n)(hm:ownN.length=m)(hcalm:X.calm=ae)(hi:PI X tg iter (gI X.K it))(ht:TgC gt t n m)(hg:∀X',c7 X X' scope ownN->PG X' tg gt)(hc:∀X',c7 X X' scope ownN->PT X' c (gT gc))(he:∀X',c7 X X' scope ownN->PE X' elt (gE fe re))
 (hs:∀x,eB iter X.env x=pure x)(ho:own iy=o)(hNn:X.N.Nodup)(hiy:X.N[iy]?=ab y)(hxy:Loc X.env.scope y)(hfy:zFn X y)(hsw:dw (.ListComp elt [⟨tg,iter,[c],0⟩] scope pos) (ab (.Name y py)) pos2.line X.env=pure ae) :
  PS X (.Assign [.Name y py] (.ListComp elt [⟨tg,iter,[c],0⟩] scope pos) pos2) (tS own (cR o iy (e_ n it t gc fe re) ae)):=by
 intro Ψ s σ H D I h;subst hm;refine M3 S hcalm hi hg hc he hs hNn hiy hxy hfy hsw Ψ s σ H D I ?_;exact uQ ht (λσ H Q h=>h) (I.len.trans hn) (HN ho h)
theorem HQ[cr κ]{k:κ}{v:V}(e:p.1=k)(h:k∉r.map (·.1)):putK (p::r) k v=(k,v)::r:=by
 unfold putK;rw[al (by simp[e]),bd,al e,e]
 congr 1
 have:∀q∈r,(λkv:κ×V=>if kv.1=k then (kv.1,v) else kv) q=id q:=λq hq=>by
  have:q.1≠k:=λz=>h (bE.mpr ⟨q,hq,z⟩)
  simp[this]
 rw[mz this,List.map_id]
theorem HR[cr κ]{k:κ}{v:V}(e:¬p.1=k):putK (p::r) k v=p::putK r k v:=by
 unfold putK;rw[mr,cw e,xD];split
 ·rw[bd,au e]
 ·rfl
theorem jZ[cr κ]:∀{kvs:aa (κ×V)},(kvs.map (·.1)).Nodup->((putK kvs k v).map (·.1)).Nodup:=λ{kvs} h=>by
 by_cases hk:DK kvs k=ai
 ·exact aIw v h hk
 ·unfold putK;rw[al (by rw[uM];exact Option.isSome_iff_ne_none.mpr hk),cu];have:(λx:κ×V=>x.1) ∘ (λkv:κ×V=>if kv.1=k then (kv.1,v) else kv)=λx=>x.1:=by
   funext q
   simp only[DT];split<;>rfl
  rw[this];exact h
theorem xU(rv:Rep P H v d):∀{kvs:aa (Key×V)}{ds:aa (D×D)},iJ P H kvs ds->(kvs.map (·.1)).Nodup->iJ P H (putK kvs k v) (putD ds (kD k) d)
 |_,_,.nil,_=>.cons rv .nil
 |_,_,.cons (k:=k') (v:=v') r t,hn=>by
  rw[bd] at hn;obtain⟨h1,h2⟩:=c_.mp hn;rw[putD,aBb];by_cases h:k'=k
  ·subst h;rw[al 0x2,HQ rfl h1];exact .cons rv t
  ·rw[au (by simpa using h),HR h];exact .cons r (xU rv t h2)
theorem HS(rv:Rep P H v d):∀{kvs:aa (aa Key×V)}{ds:aa (D×D)},o6 P H kvs ds->(kvs.map (·.1)).Nodup->o6 P H (putK kvs k v) (putD ds (.tup (k.map kD)) d)
 |_,_,.nil,_=>.cons rv .nil
 |_,_,.cons (k:=k') (v:=v') r t,hn=>by
  rw[bd] at hn;obtain⟨h1,h2⟩:=c_.mp hn;rw[putD,aJ8];by_cases h:k'=k
  ·subst h;rw[al 0x2,HQ rfl h1];exact .cons rv t
  ·rw[au (by simpa using h),HR h];exact .cons r (HS rv t h2)
theorem iJ.length:∀{kvs:aa (Key×V)}{ds:aa (D×D)},iJ P H kvs ds->kvs.length=ds.length
 |_,_,.nil=>rfl
 |_,_,.cons _ t=>by rw[aS,aS,iJ.length t]
theorem o6.length:∀{kvs:aa (aa Key×V)}{ds:aa (D×D)},o6 P H kvs ds->kvs.length=ds.length
 |_,_,.nil=>rfl
 |_,_,.cons _ t=>by rw[aS,aS,o6.length t]
theorem HW{a:ak}(ha:H a=ab ob)(hm:LQ ob=ae):DP (λ_=>ck) H (L2.upd H a o):=λc oc hc h=>by
 rw[bG]
 ·exact hc
 ·intro z;subst z;rcases h with h|h
  ·exact h.elim
  ·rw[ha] at hc;cases hc;rw[hm] at h;cases h
theorem lX(hd:d.pure=ae):∀{ds:aa (D×D)},θ (ds.map (·.2))=ae->θ ((putD ds k d).map (·.2))=ae
 |[],_=>by simp[putD,θ,hd]
 | (q,w)::r,h=>by
  rw[bd,θ,aI] at h;rw[putD];split
  ·rw[bd,θ,aI];exact⟨hd,h.2⟩
  ·rw[bd,θ,aI];exact⟨h.1,lX hd h.2⟩
theorem aO4{ad:ak}{y v:V}{ds:aa (D×D)}{k d:D}(I:Inv X Ψ σ H s)(rd:Rep All H (.ref ad) (.dct ds))(hin:θ (ds.map (·.2))=ae)(rk:Rep All H y k)(hk:GZ ds k=ae)(hl:ds.length<ba)(rv:Rep All H v d)(hd:d.pure=ae) :
  ∃H1 o,Inv X Ψ σ H1 s/\aGp H1 ad y v (L2.upd H ad o)/\LQ o=ae/\Rep All (L2.upd H ad o) (.ref ad) (.dct (putD ds k d)):=by
 unfold GZ at hk;rw[aI] at hk;obtain⟨h1,h2⟩:=hk;have rv':Rep (λ_=>ck) H v d:=rv.bM hd;cases rd with
 |@dK _ kvs ds e _ r n=>
  have hlen:=r.length;rcases lU h1 rk with ⟨q,rfl,rfl⟩|⟨b,ks,rfl,eb,rfl⟩
  ·refine⟨H,.dK (putK kvs q v),I,.k e 0x1,rfl,.dK aK trivial ?_ (jZ n)⟩;exact(xU rv' (r.bM hin) n).keep (HW e rfl) λ_ z=>z.elim
  ·cases r with
   |nil=>
    refine⟨L2.upd H ad (.dT []),.dT (putK [] ks v),o7 I e,?_,rfl,.dT aK trivial ?_ (jZ fE)⟩
    ·have:=aGp.t (H:=L2.upd H ad (.dT [])) (a:=ad) (b:=b) (kvs:=[]) (k:=ks) (v:=v) aK (by rw[bG (GP eb e 0x7)];exact eb) hl;rwa [QW] at this
    ·exact(HS (k:=ks) rv' .nil fE).keep (HW e rfl) λ_ z=>z.elim
   |cons r t=>
    rw[hZ,m8] at h2;simp[isTup] at h2
 |@dT _ kvs ds e _ r n=>
  have hlen:=r.length;rcases lU h1 rk with ⟨q,rfl,rfl⟩|⟨b,ks,rfl,eb,rfl⟩
  ·cases r with
   |nil=>
    refine⟨L2.upd H ad (.dK []),.dK (putK [] q v),lV I e,?_,rfl,.dK aK trivial ?_ (jZ fE)⟩
    ·have:=aGp.k (H:=L2.upd H ad (.dK [])) (a:=ad) (kvs:=[]) (k:=q) (v:=v) aK hl;rwa [QW] at this
    ·exact(xU (k:=q) rv' .nil fE).keep (HW e rfl) λ_ z=>z.elim
   |cons r t=>
    rw[hZ,m8] at h2;simp[isTup] at h2
  ·refine⟨H,.dT (putK kvs ks v),I,.t e eb 0x1,rfl,.dT aK trivial ?_ (jZ n)⟩;exact(HS rv' (r.bM hin) n).keep (HW e rfl) λ_ z=>z.elim
theorem lY(hu:X.A.units+20<bX)(ho:own i=ae)(hN:X.N[i]?=ab x)(hvi:Vis X.env.scope x)(hk:PE X k (gE fk rk))(hv:PE X value (gE fv rv))
 (hs:dw value (ab (.Subscript (.Name x p1) k pos')) pos.line X.env=pure ah:=by rfl)(hd:nDb x:=by decide)(hcd:nCd x:=by decide) :
  PS X (.Assign [.Subscript (.Name x p1) k pos'] value pos) (tS own (yV i fk fv)):=by
 rintro Ψ s σ H D' I ⟨ρ,fl,E,h,q⟩;obtain⟨d,h0,h⟩:=bB h;obtain⟨kd,h1,h2⟩:=bB h;split at h2
 ·rename_i kvs hx;split at h2
  ·rename_i hg;cases h2;simp only[aI] at hg;obtain⟨⟨hg1,hg2⟩,hg3⟩:=hg;obtain⟨a,o,hσ,r,hin,ha,hm⟩:=E.ownAt ho (by rw[hx];intro z;cases z);rw[hx] at r hin;refine BO (thn (hv Ψ s σ H (λv H1=>b_ H H1/\Rep All H1 v d) I ⟨ρ,d,E.er,h0,λv H1 s1 r1 _=>⟨s1,r1⟩⟩) λrr s1 ⟨v,H1,I1,rv1,sm1,rp1⟩=>
    thn (fX hN hvi hd hcd Ψ s1 σ H1 (λw H2=>w=.ref a/\H2=H1) I1 ⟨_,hσ,rfl,rfl⟩) λu s2 ⟨xx,H2,I2,rx,ex,eH⟩=>
    thn (hk Ψ s2 σ H2 (λw H3=>b_ H2 H3/\Rep All H3 w kd) I2 ⟨ρ,kd,by rw[eH];exact E.er.same sm1,h1,λv H1 s1 r1 _=>⟨s1,r1⟩⟩) λiv s3 ⟨y,H3,I3,ry,sm3,rp3⟩=>?_) hs
   subst ex eH;obtain rfl:u=eo a:=rx;have sm:=sm1.trans sm3;obtain⟨H4,o4,I4,g,hmo,rp⟩:=aO4 I3 (r.same sm) hin rp3 hg2 (MF hg1) (rp1.same sm3) hg3;obtain⟨E2,k2⟩:=(E.same sm).mut ho hσ hmo rp (lX hg3 hin);exact K7 0x1 I4 g ry rv1 λs4 I5=>⟨σ,_,I5,q _ _ ((KU.same sm).trans k2) E2⟩
  ·exact bx h2
 ·exact bx h2
def TgS(own:af->aq)(g:TG)(t:D->aa D->Res (aa D)):Prop:=∀(v:V)(d:D)(ρ ρ':aa D)(σ:L2.St)(H:Hp)(Q:L2.St->Hp->Prop),ES own H σ ρ->Rep (λa=>¬Own own σ a) H v d->t d ρ=.ok ρ'->
 (∀σ',ES own H σ' ρ'->(∀a,Own own σ' a↔Own own σ a)->Q σ' H)->g v σ H Q
theorem fM(ho:own i=ah):TgS own (xM i) (tg1 i):=λv d ρ ρ' σ H Q E r h q=>by
 cases h;exact q _ (E.set ho r) λa=>lK ho a
theorem ES.sets:∀{is:aa af}{vs:aa V}{ds:aa D}{σ:L2.St}{ρ:aa D},(∀i∈is,own i=ah)->ES own H σ ρ->bT (λa=>¬Own own σ a) H vs ds->ES own H (oG is vs σ) (aAu is ds ρ)/\∀a,Own own (oG is vs σ) a↔Own own σ a
 |[],_,_,_,_,_,E,_=>by simp only[oG,aAu];exact⟨E,λ_=>trivial⟩
 |i::is,_,_,σ,ρ,h,E,.nil=>by simp only[oG,aAu];exact⟨E,λ_=>trivial⟩
 |i::is,_,_,σ,ρ,h,E,.cons (v:=v) r t=>by
  have ho:=h i (bj ..);have hO:(λa=>¬Own own (σ.set i (ab v)) a)=λa=>¬Own own σ a:=funext λa=>by rw[lK ho]
  obtain⟨h1,h2⟩:=ES.sets (λj hj=>h j (bp _ hj)) (E.set ho r) (by rw[hO];exact t);exact⟨h1,λa=>(h2 a).trans (lK ho a)⟩
theorem oJ(K:bi)(ho:∀i∈is,own i=ah):TgS own (aR7 K is.length (gIx is)) (tgN is):=λv d ρ ρ' σ H Q E r h q=>by
 cases d<;>simp only[tgN] at h<;>(try (exact bx h;done))
 split at h
 ·rename_i hl;cases h;have hl':=c8 hl;obtain⟨a,xs,rfl,e,rr⟩:=r.fH;obtain⟨h1,h2⟩:=E.sets ho rr;exact⟨a,xs,rfl,.of e,by rw[rr.length];exact hl',RW _ _ _ (by rw[rr.length];exact hl') (q _ h1 h2)⟩
 ·exact bx h
theorem ItQ.ku{K:bi}(h:ItQ K (λa=>¬Own own σ a) J H items)(k:KU own σ H σ' H')(E:ES own H σ ρ):ItQ K (λa=>¬Own own σ' a) J H' items:=h.keep' (k.keep E) λa o e n=>(k a o e n).2
theorem V1{K:bi}{g:TG}{t:D->aa D->Res (aa D)}{body:FS}{D':Ends}{J:It}{items:aa D}{σ:L2.St}{H1:Hp}{ρ:aa D}{fl:Fl}(tg:TgS own g t)(E:ES own H1 σ ρ)(hJ:ItQ K (λa=>¬Own own σ a) J H1 items)(hf:n8 t body items ρ=.ok fl)(q:kS own D' σ H1 fl) :
  ∃W:af->af->L2.St->Hp->Prop,(∃m,W 0 m σ H1)/\∀i m σ H,W i m σ H->
   (J.stop i H/\D'.nx σ H)\/(J.go i H/\∃N:L2.St->Hp->Prop,(∀σ' H',N σ' H'->∃m',m'<m/\W (i+1) m' σ' H')/\∀x H',J.yld i H x H'->g x σ H' λσ2 H2=>tS own body {D' with nx:=N,ct:=N,bk:=D'.nx} σ2 H2):=by
 refine⟨λi m σ' H'=>m=items.length-i/\i<=items.length/\ItQ K (λa=>¬Own own σ' a) J H' items/\∃ρ',ES own H' σ' ρ'/\n8 t body (items.drop i) ρ'=.ok fl/\kS own D' σ' H' fl,⟨items.length,rfl,cz _,hJ,ρ,E,hf,q⟩,?_⟩;rintro i m σ' H' ⟨rfl,hi,hJ',ρ',E',hf',q'⟩;rcases ke i items.length with hlt|hge
 ·refine .inr ?_;have e:items[i]?=ab items[i]:=d5 hlt;obtain⟨g1,g2⟩:=hJ'.go e;rw[oq hlt] at hf';obtain⟨ρ1,h1,hf2⟩:=bB hf';obtain⟨r,h2,hf3⟩:=bB hf2;refine⟨g1,λσ2 H2=>ItQ K (λa=>¬Own own σ2 a) J H2 items/\∃ρ',ES own H2 σ2 ρ'/\n8 t body (items.drop (i+1)) ρ'=.ok fl/\kS own D' σ2 H2 fl,λσ2 H2 ⟨n1,n2⟩=>⟨items.length-(i+1),by lia,rfl,hlt,n1,n2⟩,λx H2 hy=>?_⟩;obtain⟨sH,rx⟩:=g2 x H2 hy;have ks:KU own σ' H' σ' H2:=λa o e n=>⟨sH a o e,n⟩
  have hJ':=hJ'.ku ks E';have q':=q'.step ks;have E':=E'.same sH;refine tg x items[i] ρ' ρ1 σ' H2 _ E' rx h1 λσ2 E2 hO=>?_
  have k0:KU own σ' H2 σ2 H2:=λa o e n=>⟨e,by rw[hO];exact n⟩
  have hJ2:=hJ'.ku k0 E';have q2:=q'.step k0;refine⟨ρ1,r,E2,h2,?_⟩;cases r with
  |nx ρ2=>exact λσ3 H3 k3 E3=>⟨hJ2.ku k3 E2,ρ2,E3,hf3,q2.step k3⟩
  |ct ρ2=>exact λσ3 H3 k3 E3=>⟨hJ2.ku k3 E2,ρ2,E3,hf3,q2.step k3⟩
  |bk ρ2=>cases hf3;exact λσ3 H3 k3 E3=>q2 σ3 H3 k3 E3
  |rt d=>cases hf3;exact q2
 ·refine .inl ⟨hJ'.stop hge,?_⟩;rw[ot hge] at hf';cases hf';exact q' σ' H' (λa o e n=>⟨e,n⟩) E'
theorem fZ{tg iter:Expr}{body:aa bn}{g:TG}{t:D->aa D->Res (aa D)}{it:FI}{fb:FS}(hp:ny (av X.prog X.w) X.A X.env X.xe)(hc:X.calm=ae)(hi:PI X tg iter (gI X.K it))(ht:TgS own g t)(hg:PG X tg g)(hb:PSs X body (tS own fb))
 (hs:∀x,eB iter X.env x=pure x:=by intro _;rfl):PS X (.For tg iter body [] pos) (tS own (xO it t fb)):=PS.imp (aGl hp hc hi hg hb hs) λD' σ H z0=>by
 obtain⟨ρ,fl,E,h,q⟩:=z0;obtain⟨⟨items,k⟩,h1,h2⟩:=bB h;split at h2
 ·rename_i hk;exact⟨ρ,items,k,E.er,h1,λJ H1 s1 _ hJ=>V1 ht (E.same s1) ((hJ hk).keep (λ_ _ e _=>e) λa ha ho=>by
   obtain⟨o,e1,_⟩:=E.live ho;rw[show H a=ai from ha] at e1;cases e1) h2 (q.step (.same s1))⟩
 ·exact bx h2
theorem HX{g:TG}{t:D->aa D->Res (aa D)}{i:af}{x:Str}{px:cj}{fb:FS}(ho:own i=ah)(hp:ny (av X.prog X.w) X.A X.env X.xe)(hc:X.calm=ae)(hN:X.N[i]?=ab x)(hv:Vis X.env.scope x)(ht:TgS own g t)(hg:PG X tg g)(hb:PSs X body (tS own fb))
 (hs:∀z,eB (.Name x px) X.env z=pure z:=by intro _;rfl)(hd:nDb x:=by decide)(hcd:nCd x:=by decide):PS X (.For tg (.Name x px) body [] pos) (tS own (RB i t fb)):=PS.imp (aGl hp hc (aO2 hN hv hd hcd) hg hb hs) λD' σ H z0=>by
 obtain⟨ρ,fl,E,h,q⟩:=z0;obtain⟨d,h1,h⟩:=bB h;obtain⟨items,h2,h3⟩:=bB h;obtain⟨v,hv,r,e⟩:=E.er.var h1;have hne:ρ.getD i .uD≠.uD:=λz=>by
  rw[z] at e;subst e;exact Rep.uD r
 obtain⟨w,hw,hr⟩:=E.at_ i hne;rw[hv] at hw;cases hw;have r2:=hr ho;rw[e] at r2;exact⟨v,d,items,hv,r,h2,λJ hJ=>V1 ht E (hJ _ r2) h3 q⟩
theorem aEu{N ps:aa Str}(hst:start N vs=vs.map ab++bq (N.length-ps.length) ai)(hl:ds.length=ps.length)(r:bT All H vs ds)(hown:∀i,i<ps.length->own i=ah)(noown:∀a,¬Own own (start N vs) a):ES own H (start N vs) (ds++bq (N.length-ps.length) .uD):=by
 refine⟨by rw[hst];simp[r.length],λi hi=>?_,λi v hi hv=>?_⟩
 ·have hlt:i<ds.length:=ou λhge=>hi (by
   rw[b9,gm hge,jc];split<;>rfl)
  have e:(ds++bq (N.length-ps.length) D.uD).getD i .uD=ds[i]:=by
   rw[b9,gq hlt,d5 hlt];rfl
  obtain⟨v,g1,g2⟩:=r.get (i:=i) (d:=ds[i]) (by simp[hlt]);refine⟨v,by rw[hst,gq (by simp[r.length,hlt])];simp[g1],λ_=>?_⟩;rw[e];exact g2.mono λa _=>noown a
 ·exfalso;rw[hst] at hv;by_cases h:i<ps.length
  ·rw[hown i h] at hi;cases hi
  ·rw[gm (by simp[r.length,hl];lia)] at hv;rw[jc] at hv;split at hv<;>cases hv
theorem aBh{N ps:aa Str}{f:FS}{vs:aa V}{H:Hp}{Q:VK}{E:XK}(hx:own rtX=ah)(hown:∀i,i<ps.length->own i=ah)(h0:spD (fnS ps.length N.length f) ps.length vs H Q E):tS own f {nx:=λ_ H'=>Q .non H',rt:=Q} (start N vs) H:=by
 obtain⟨ds,d,hl,r,h,q⟩:=h0
 ·obtain⟨fl,h1,h2⟩:=bB h;have hst:start N vs=vs.map ab++bq (N.length-ps.length) ai:=by
   show vs.map ab++bq (N.length-vs.length) ai=_;rw[r.length,hl]
  have noown:∀a,¬Own own (start N vs) a:=λa z0=>by
   obtain⟨i,hi,e⟩:=z0;rw[hst] at e;by_cases h:i<ps.length
   ·rw[hown i h] at hi;cases hi
   ·rw[gm (by simp[r.length,hl];lia)] at e;rw[jc] at e;split at e<;>cases e
  have E0:ES own H (start N vs) (ds++bq (N.length-ps.length) .uD):=aEu hst hl r hown noown;refine⟨_,fl,E0,h1,?_⟩;have sm:∀{σ':L2.St}{H':Hp},KU own (start N vs) H σ' H'->b_ H H':=λk a o e=>(k a o e (noown a)).1
  cases fl with
  |nx ρ'=>cases h2;exact λσ' H' k E'=>q .non H' (sm k) .non λ_=>.non
  |rt d'=>
   cases h2;refine kRt.mk hx λv H' hk rp=>q v H' (λa o e=>hk a o e (noown a)) rp.all λ_=>rp.mono λa ha=>?_
   rcases ha with ha|ha
   ·exact ay ha (noown a)
   ·exact ha
  |bk ρ'=>exact bx h2
  |ct ρ'=>exact bx h2
theorem aO5{w:br}{K:bi}{mg:Str->ar aj}{base:az}{x qual:Str}{st:bn}{fad:ak}{fd:dS}{N ps:aa Str}{k:af}{f:FS}(F:Fun K x qual st fad fd)(S:bV N ps (aL st))(own:af->aq)(hown:∀i,i<ps.length->own i=ah)(hNl:ps.length<=N.length)
 (hbody:∀(cdv:aj) (A:cg) (outer:aa dg) (s:ao) (H:Hp) (E:XK),nZ k (A.deeper (fS qual (aL st) s.heap.objs.size fad cdv))->PSs (Z2 CX0 P w K mg base N qual (aL st) fad cdv A outer s H E).nox (d7 st) (tS own f))(hx:own rtX=ah:=by rfl):vH P w K mg base CX0 (k+1) fad fd ps (spD (fnS ps.length N.length f) ps.length):=
 F.ok S (λvs H Q E h=>aBd h) λcdv A outer s H vs Q E hr h=>⟨_,hbody cdv A outer s H E hr,aBh hx hown h⟩
end
end
variable [KFrag]
structure aRx where
 s₀:ao
 H₀:Hp
 env:dg
 outer:aa dg
 stack:aa dg
 ex:aa ak
 fn:Str->aq
 pn:aa (ak×bf)
abbrev mkC(X:Cx)(scope:fR)(ownN:aa Str)(y:aRx):Cx:=
 {X with N:=X.N.map (fQ ownN)++ownN,s₀:=y.s₀,H₀:=y.H₀,env:={y.env with scope:=iO scope X.env},outer:=y.outer,stack:=y.stack,ex:=y.ex,fn:=y.fn,pn:=y.pn,xe:=λ_ _=>ck}
theorem iM(cc:c7 X X' scope ownN):∃y,X'=mkC X scope ownN y:=by
 refine⟨⟨X'.s₀,X'.H₀,X'.env,X'.outer,X'.stack,X'.ex,X'.fn,X'.pn⟩,?_⟩;obtain⟨h1,h2,h3,h4,h5,h6,h7,h8,h9,h10⟩:=cc;cases X' with
 |mk a b c d e f g h i j k l m n o p q=>
  cases j;dsimp only at *;subst h1 h2 h3 h4 h5 h6 h7 h8 h9 h10;rfl
section
theorem iC(S:cH X.N X.env.scope scope ownN)(hn:X.N.length=n)(hm:ownN.length=m)(hcalm:X.calm=ae)(hi:PI X tg iter (gI X.K it))(ht:TgC g t n m)(hg:∀y,PG (mkC X scope ownN y) tg g)(he:∀y,PE (mkC X scope ownN y) elt (gE fe re))
 (hs:∀x,eB iter X.env x=pure x):PE X (.ListComp elt [⟨tg,iter,[],0⟩] scope pos) (gE (e_ n it t eU fe re) ae):=
 aJf S hn hm hcalm hi ht (λX' cc=>by obtain⟨y,rfl⟩:=iM cc;exact hg y) (λX' cc=>by obtain⟨y,rfl⟩:=iM cc;exact he y) hs
theorem YQ(S:cH X.N X.env.scope scope ownN)(hn:X.N.length=n)(hm:ownN.length=m)(hcalm:X.calm=ae)(hi:PI X tg iter (gI X.K it))(ht:TgC g t n m)(hg:∀y,PG (mkC X scope ownN y) tg g)(hc:∀y,PT (mkC X scope ownN y) c (gT gc))(he:∀y,PE (mkC X scope ownN y) elt (gE fe re))
 (hs:∀x,eB iter X.env x=pure x):PE X (.ListComp elt [⟨tg,iter,[c],0⟩] scope pos) (gE (e_ n it t gc fe re) ae):=
 aBe S hn hm hcalm hi ht (λX' cc=>by obtain⟨y,rfl⟩:=iM cc;exact hg y) (λX' cc=>by obtain⟨y,rfl⟩:=iM cc;exact hc y) (λX' cc=>by obtain⟨y,rfl⟩:=iM cc;exact he y) hs
theorem m_(S:cH X.N X.env.scope scope ownN)(hn:X.N.length=n)(hm:ownN.length=m)(hcalm:X.calm=ae)(hi:PI X tg iter (gI X.K it))(ht:TgC g t n m)(hg:∀y,PG (mkC X scope ownN y) tg g)(he:∀y,PE (mkC X scope ownN y) elt (gE fe re))
 (hs:∀x,eB iter X.env x=pure x)(ho:own iy=o)(hNn:X.N.Nodup)(hiy:X.N[iy]?=ab y)(hxy:Loc X.env.scope y)(hfy:zFn X y)(hsw:dw (.ListComp elt [⟨tg,iter,[],0⟩] scope pos) (ab (.Name y py)) pos2.line X.env=pure ae) :
  PS X (.Assign [.Name y py] (.ListComp elt [⟨tg,iter,[],0⟩] scope pos) pos2) (tS own (cR o iy (e_ n it t eU fe re) ae)):=
 aJh S hn hm hcalm hi ht (λX' cc=>by obtain⟨y,rfl⟩:=iM cc;exact hg y) (λX' cc=>by obtain⟨y,rfl⟩:=iM cc;exact he y) hs ho hNn hiy hxy hfy hsw
theorem DY(S:cH X.N X.env.scope scope ownN)(hn:X.N.length=n)(hm:ownN.length=m)(hcalm:X.calm=ae)(hi:PI X tg iter (gI X.K it))(ht:TgC g t n m)(hg:∀y,PG (mkC X scope ownN y) tg g)(hc:∀y,PT (mkC X scope ownN y) c (gT gc))(he:∀y,PE (mkC X scope ownN y) elt (gE fe re))
 (hs:∀x,eB iter X.env x=pure x)(ho:own iy=o)(hNn:X.N.Nodup)(hiy:X.N[iy]?=ab y)(hxy:Loc X.env.scope y)(hfy:zFn X y)(hsw:dw (.ListComp elt [⟨tg,iter,[c],0⟩] scope pos) (ab (.Name y py)) pos2.line X.env=pure ae) :
  PS X (.Assign [.Name y py] (.ListComp elt [⟨tg,iter,[c],0⟩] scope pos) pos2) (tS own (cR o iy (e_ n it t gc fe re) ae)):=
 aBg S hn hm hcalm hi ht (λX' cc=>by obtain⟨y,rfl⟩:=iM cc;exact hg y) (λX' cc=>by obtain⟨y,rfl⟩:=iM cc;exact hc y) (λX' cc=>by obtain⟨y,rfl⟩:=iM cc;exact he y) hs ho hNn hiy hxy hfy hsw
end
def cY(P:b5)(w:br)(K:bi)(mg:Str->ar aj)(base:az)(k:af)(x:Str)(n:af)(f:aa D->Res D):Prop:=
 ∃(fad:ak)(fd:dS)(ps:aa Str),vH P w K mg base CX0 k fad fd ps (spD f n)/\mg x=ab (.ref fad)/\iA K (.ref fad)=ae/\Binds K fd ps []
section
theorem aZ(C:cY X.prog X.w X.K X.mg X.base k x n f)(hr:nZ k' X.A)(hkk:k<=k')(hg:Gl X x)(ha:PA X (e::es) (gA fs rr))(hdb:nDb x:=by decide)(he:zSE X e es:=by rfl)(hpl:zSP X pos es:=by rfl) :
  PE X (.Call (.Name x p) (e::es) [] pos) (gE (aN (cP n f) fs) ae):=by
 obtain⟨fad,fd,ps,F,hm,hk,hb⟩:=C;exact aJd F (hr.mono hkk) hg hm hk hb ha hdb he hpl
theorem gV{K:bi}{st:bn}{fad:ak}{fd:dS}{N ps:aa Str}{fs:FS}(F:Fun K x x st fad fd)(hm:mg x=ab (.ref fad))(hb:Binds K fd ps [])(S:bV N ps (aL st))(own:af->aq)(hown:∀i,i<ps.length->own i=ah)(hNl:ps.length<=N.length)
 (hbody:∀(cdv:aj) (A:cg) (outer:aa dg) (s:ao) (H:Hp) (E:XK),nZ k (A.deeper (fS x (aL st) s.heap.objs.size fad cdv))->PSs (Z2 CX0 P w K mg base N x (aL st) fad cdv A outer s H E).nox (d7 st) (tS own fs))(hx:own rtX=ah:=by rfl):cY P w K mg base (k+1) x ps.length (fnS ps.length N.length fs):=
 ⟨fad,fd,ps,aO5 F S own hown hNl hbody hx,hm,F.kp,hb⟩
end
theorem wJ(hr:nZ k A):A.units+20<bX:=ui (BQ (by decide:20<=64) _) hr.units
structure Bt(mg:Str->ar aj):Prop where
 len:mg "len"=ai
 min:mg "min"=ai
 max:mg "max"=ai
 list:mg "list"=ai
 tuple:mg "tuple"=ai
 sorted:mg "sorted"=ai
 range:mg "range"=ai
 isi:mg "isinstance"=ai
 int:mg "int"=ai
 bool:mg "bool"=ai
 str:mg "str"=ai
 dict:mg "dict"=ai
 all:mg "all"=ai
 enum:mg "enumerate"=ai
 sum:mg "sum"=ai
 zip:mg "zip"=ai
 abs:mg "abs"=ai
 reversed:mg "reversed"=ai
theorem cJ:dA "len"=ab (.builtin "len"):=0x6
theorem aO6:dA "min"=ab (.builtin "min"):=0x6
theorem V2:dA "max"=ab (.builtin "max"):=0x6
theorem zH:dA "sorted"=ab (.builtin "sorted"):=0x6
theorem cO:dA "isinstance"=ab (.builtin "isinstance"):=0x6
theorem RX:dA "list"=ab (.type "list"):=0x6
theorem dR:dA "tuple"=ab (.type "tuple"):=0x6
theorem aGy:dA "int"=ab (.type "int"):=0x6
theorem aJi:dA "bool"=ab (.type "bool"):=0x6
theorem aO7:dA "str"=ab (.type "str"):=0x6
theorem ints_rep:∀ns:aa ag,bT P H (ns.map V.int) (ns.map ε)
 |[]=>.nil
 |n::ns=>.cons (.int n) (ints_rep ns)
end Mi
namespace Mi
open PySem L2
theorem aBi{ns:aa ag}{E:XK}(main:∀ns:aa ag,ns.length<=63->f [.scr (ns.map ε)]=.ok (.bl ae))(hl:ns.length<=63)(hO:Only H)(hS:SqL K H a (ns.map V.int)):@spD ⟨K⟩ f 1 [.ref a] H (λv _=>v=.bl ae) E:=by
 letI:KFrag:=⟨K⟩
 refine⟨[.scr (ns.map ε)],.bl ae,rfl,.cons (.frz ?_ (ints_rep ns)) .nil,main ns hl,λv H' s r n=>by cases r.inv;rfl⟩;rcases hS with (h|⟨o,h⟩)|h
 ·rcases hO a with z|⟨o,xs,z⟩
  ·rw[h] at z;cases z
  ·rw[h] at z;cases z
 ·exact .inl ⟨o,h⟩
 ·exact .inr h
end Mi
namespace Mi
universe u
section
variable {α:Type u} {us:aa α}
theorem l1(h:us.length=1):∃a,us=[a]:=BS.mp h
theorem l2(h:us.length=2):∃a b,us=[a,b]:=by
 cases us with
 |nil=>cases h
 |cons a t=>obtain⟨b,rfl⟩:=l1 (lc h);exact⟨a,b,rfl⟩
theorem l3(h:us.length=3):∃a b c,us=[a,b,c]:=by
 cases us with
 |nil=>cases h
 |cons a t=>obtain⟨b,c,rfl⟩:=l2 (lc h);exact⟨a,b,c,rfl⟩
theorem l4(h:us.length=4):∃a b c d,us=[a,b,c,d]:=by
 cases us with
 |nil=>cases h
 |cons a t=>obtain⟨b,c,d,rfl⟩:=l3 (lc h);exact⟨a,b,c,d,rfl⟩
theorem l5(h:us.length=5):∃a b c d e,us=[a,b,c,d,e]:=by
 cases us with
 |nil=>cases h
 |cons a t=>obtain⟨b,c,d,e,rfl⟩:=l4 (lc h);exact⟨a,b,c,d,e,rfl⟩
theorem l6(h:us.length=6):∃a b c d e f,us=[a,b,c,d,e,f]:=by
 cases us with
 |nil=>cases h
 |cons a t=>obtain⟨b,c,d,e,f,rfl⟩:=l5 (lc h);exact⟨a,b,c,d,e,f,rfl⟩
theorem l7(h:us.length=7):∃a b c d e f g,us=[a,b,c,d,e,f,g]:=by
 cases us with
 |nil=>cases h
 |cons a t=>obtain⟨b,c,d,e,f,g,rfl⟩:=l6 (lc h);exact⟨a,b,c,d,e,f,g,rfl⟩
end
open PySem L2 PySem.SeqAt PySem.Spec PyProof.Rows
def vD:D->D->Res D
 |.str x,.int n=>if ϒ (0<=n)&&ϒ (n<=100000)&&ϒ (x.length*n.toNat<=lim) then .ok (.str (lf x n)) else .bad
 |a,b=>bI .mul a b
def inX:D->D->Res D
 |.str c,.str x=>.ok (.bl (!(Aw x c 0 x.length 1).isEmpty))
 |a,b=>cT .isin a b
def aDu:D->ar ag->ar ag->Res D
 |.str x,lo,hi=>if ϒ (x.length<=lim) then .ok (.str (uj x lo hi)) else .bad
 |d,lo,hi=>aMd d lo hi
def V3(a:FE)(lo hi:aa D->Res (ar ag)):FE:=λρ=>do let x <- a ρ;let l <- lo ρ;let h <- hi ρ;aDu x l h
def D_:D->Res (aa D)
 |.str x=>if ϒ (x.length<=lim) then .ok (MP x) else .bad
 |d=>yR d
def bW(a:FE)(fr:aq):FI:=λρ=>do let x <- a ρ;let xs <- D_ x;pure (xs,fr||x.pure)
noncomputable def zJ:aa D->ar (aa Str)
 |[]=>ab []
 |.str x::r=>(zJ r).map (x::·)
 |_::_=>ai
variable [KFrag]
section
variable {X:Cx}
theorem iV:OpR X (e6 .Mult) (r2 vD ae):=by
 rintro Ψ s σ H x y v u Q I rx ry ⟨a,b,d,p,q,e,k⟩;by_cases hs:∃z n,a=.str z/\b=.int n
 ·obtain⟨z,n,rfl,rfl⟩:=hs;simp only[vD] at e;split at e
  ·rename_i hl;cases e;simp only[aI,dL] at hl;obtain⟨⟨h0,h1⟩,h2⟩:=hl;cases p.inv;cases q.inv;obtain⟨t,rfl⟩:=rx;obtain⟨t',rfl⟩:=ry;have hz:z.length*n.toNat<=ba:=c9 h2 (by rw[di];decide);refine SB.mul ⟨?_,λh3 _=>?_,λ_ _=>?_⟩ λt2 k2=>⟨.str _,H,I.tok k2,⟨t2,rfl⟩,k.str⟩
   ·rw[cw 0x1,cw 0x1];rfl
   ·have hn:0<n:=by lia
    have h4:(z.length:ag)*n<=2 ^ 63-1:=by
     have h5:((z.length*n.toNat:af):ag)<=1000000:=by
      have:lim=1000000:=by unfold lim;exact Eq.refl _
      lia
     rw[Int.natCast_mul,Int.toNat_of_nonneg h0] at h5;lia
    have h6:=(Int.le_ediv_iff_mul_le hn).mpr h4;lia
   ·unfold DU;exact cw 0x1
  ·exact bx e
 ·have he:vD a b=bI .mul a b:=by
   unfold vD;split
   ·exact ay ⟨_,_,rfl,rfl⟩ hs
   ·rfl
  rw[he] at e;exact aNx Ψ s σ H x y v u Q I rx ry ⟨a,b,d,p,q,e,k⟩
theorem tO(hu:X.A.units+20<bX):OpR X (dh .In) (r2 inX ae):=by
 rintro Ψ s σ H x y v u Q I rx ry ⟨a,b,d,p,q,e,k⟩;by_cases hs:∃z n,a=.str z/\b=.str n
 ·obtain⟨z,n,rfl,rfl⟩:=hs;cases e;cases p.inv;cases q.inv;exact aA9 Ψ s σ H _ _ v u Q I rx ry ⟨_,_,rfl,rfl,k.bl⟩
 ·have he:inX a b=cT .isin a b:=by
   unfold inX;split
   ·exact ay ⟨_,_,rfl,rfl⟩ hs
   ·rfl
  rw[he] at e;exact aRs hu Ψ s σ H x y v u Q I rx ry ⟨a,b,d,p,q,e,k⟩
theorem part_of(h:ik v o):∃l:ar (ag×dP),partValue l=v/\l.map (·.1)=o:=by
 cases h with
 |none=>exact⟨ai,rfl,rfl⟩
 |int i t=>exact⟨ab (i,t),rfl,rfl⟩
theorem aBj(hK:KFrag.K=X.K):SlR X (λx lo hi H Q=>∃a d,Rep All H x a/\aDu a lo hi=.ok d/\kR H d ae Q):=by
 rintro Ψ s σ H x v vl vu lo hi sl Q I rx hs pl pu ⟨a,d,p,e,k⟩;by_cases hz:∃z,a=.str z
 ·obtain⟨z,rfl⟩:=hz;simp only[aDu] at e;split at e
  ·rename_i hl;cases e;cases p.inv;obtain⟨t,rfl⟩:=rx;obtain⟨l,e1,e2⟩:=part_of pl;obtain⟨m,e3,e4⟩:=part_of pu;subst e1 e2 e3 e4;refine⟨"str",_,F.slot_str_getitem.lookup,xw _ _ _,?_⟩;obtain⟨o,ho,hc,hd⟩:=hs;refine wpAny_getItem_str_slice (st:=ai) ⟨o,ho,hc,hd⟩ rfl ?_;have hle:(uj z (l.map (·.1)) (m.map (·.1))).length<=ba:=c9 (Txt.slice_le ..) (m7 hl);have q:∀(t':dP)(k2:af),EP X Ψ σ Q (.str (uj z (l.map (·.1)) (m.map (·.1))) t') {s with toks:=k2}:=λt' k2=>⟨.str _,H,I.tok k2,⟨t',rfl⟩,k.str⟩
   show Made.post (if ((1:ag)==1&&(BU (l.map (·.1)) (m.map (·.1)) 1 z.length).length==z.length)=ae then .val (.str z t) else .str ⟨((BU (l.map (·.1)) (m.map (·.1)) 1 z.length).filterMap (z.cps[·]?)).toArray⟩) _ s;unfold uj at hle q;split
   ·rename_i hh;have:=q t s.toks;rw[al hh] at this;exact this
   ·rename_i hh;rw[au hh] at hle;have:=q s.toks (s.toks+1);rw[au hh] at this;exact⟨hle,this⟩
  ·exact bx e
 ·have he:aDu a lo hi=aMd a lo hi:=by
   unfold aDu;split
   ·exact ay ⟨_,rfl⟩ hz
   ·rfl
  rw[he] at e;exact aRv hK Ψ s σ H x v vl vu lo hi sl Q I rx hs pl pu ⟨a,d,p,e,k⟩
theorem EY{lo hi:ar Expr}{p2:cj}{fl fh:aa D->Res (ar ag)}(hK:KFrag.K=X.K)(he:PE X e (gE fe re))(hl:PO X lo (gO fl))(hh:PO X hi (gO fh)):PE X (.Subscript e (.Slice lo hi ai p2) pos) (gE (V3 fe fl fh) ae):=
 PE.imp (UV (aBj hK) he hl hh) λσ H Q z0=>by
  obtain⟨ρ,d,E,h,q⟩:=z0;obtain⟨x,h1,h⟩:=bB h;obtain⟨l,h2,h⟩:=bB h;obtain⟨u,h3,h⟩:=bB h;exact⟨ρ,x,E,h1,λv H1 s1 r1 _=>⟨ρ,l,E.same s1,h2,λH2 s2=>⟨ρ,u,E.same (s1.trans s2),h3,λH3 s3=>⟨x,d,r1.same (s2.trans s3),h,q.imp ((s1.trans s2).trans s3) id⟩⟩⟩⟩
theorem aEv{K:bi}(x:Str)(t:dP)(it:ak):Turn P w K tg (aRw x) [it] it (λi h=>h.IsStrIter it (f_ x) x t i) where
 mem:=by simp
 obj:=λi h st b hb=>by
  have e:b=it:=by simpa using hb
  subst e;obtain⟨o,e,c,d⟩:=st;exact⟨o,e,λv z=>by rw[d] at z;cases z⟩
 keep:=λi h h' st k=>by
  obtain⟨o,e,r⟩:=st;exact⟨o,k it 0x2 o e,r⟩
 item:=by
  intro Y hP hw hK hc i Ψ s σ H E I hf st hg;subst hP hw hK;obtain⟨f0,f1,f2,f3,f4,f5⟩:=hf it 0x2;have hx:x.cps[i]?=ab x.cps[i]:=um hg;have fin:∀(h':az)(ty:eh),(["enumerate","zip","dict_itemiterator","dict_reverseitemiterator","odict_iterator","itertools.zip_longest","itertools.pairwise"].contains ty=ah)->f_ x=ty->h'.IsStrIter it ty x t (i+1)->gj it s.heap h'->
    ∃u,ab (nq ⟨#[x.cps[i]]⟩ s.toks)=ab u/\ϑ (av Y.prog Y.w) Y.A (nE tg (.ref it) u) (λ_ s2=>∃v H',Inv Y Ψ σ H' s2/\RelV v u/\(aRw x).yld i H v H'/\s2.heap.IsStrIter it (f_ x) x t (i+1)/\∀b∈[it],H' b=ai) E {s with heap:=h',toks:=s.toks+1}:=by
   intro h' ty hn hty st' sb;have I1:Inv Y Ψ σ H {s with heap:=h',toks:=s.toks+1}:=I.turned (λb o hb e=>(sb.2 b hb).trans e) f0 f1 f3 f4 f5;obtain⟨o,e,c,d⟩:=id st';exact⟨_,rfl,aA4 e c d hn ⟨.str ⟨#[x.cps[i]]⟩,H,I1,⟨_,rfl⟩,⟨rfl,_,hx,rfl⟩,by rw[hty];exact st',λb hb=>(hf b hb).1⟩⟩
  cases ha:x.cps.all (·<128)
  ·have hty:f_ x="str_iterator":=by simp[f_,ha]
   rw[hty] at st;exact wpAny_pyNext_wide_item st hx λh' st' sb=>fin h' _ 0x4 hty st' sb
  ·have hty:f_ x="str_ascii_iterator":=by simp[f_,ha]
   rw[hty] at st;exact wpAny_pyNext_ascii_item st hx λh' st' sb=>fin h' _ 0x4 hty st' sb
 done:=by
  intro Y hP hw hK hc i Ψ s σ H E I hf st hg;subst hP hw hK;obtain⟨f0,f1,f2,f3,f4,f5⟩:=hf it 0x2;have hx:x.cps[i]?=ai:=uo hg;cases ha:x.cps.all (·<128)
  ·have hty:f_ x="str_iterator":=by simp[f_,ha]
   rw[hty] at st;exact wpAny_pyNext_wide_end (I.ok.hd hc) st hx λh' eb=>⟨rfl,I.turned (λb o hb e=>eb b o hb e) f0 f1 f3 f4 f5⟩
  ·have hty:f_ x="str_ascii_iterator":=by simp[f_,ha]
   rw[hty] at st;exact wpAny_pyNext_ascii_end (I.ok.hd hc) st hx λh' eb=>⟨rfl,I.turned (λb o hb e=>eb b o hb e) f0 f1 f3 f4 f5⟩
 self:=λ_ _ _ _ _ st h=>by
  cases ha:x.cps.all (·<128)
  ·have hty:f_ x="str_iterator":=by simp[f_,ha]
   rw[hty] at st;exact wpAny_pyIter_striter_wide st h
  ·have hty:f_ x="str_ascii_iterator":=by simp[f_,ha]
   rw[hty] at st;exact wpAny_pyIter_striter_ascii st h
section
variable {tg l a:Expr}
theorem aBk(I1:Inv X Ψ σ H1 s1)(r:Rep All H1 v d)(ru:RelV v u)(hi:D_ d=.ok items)
 (q:∀J,(∀P:ak->Prop,Rep P H1 v d->ItQ X.K P J H1 items)->R J H1):ϑ (av X.prog X.w) X.A (kG u) (PIE X Ψ σ tg R) X.xe s1:=by
 by_cases hz:∃z,d=.str z
 ·obtain⟨z,rfl⟩:=hz;simp only[D_] at hi;split at hi
  ·cases hi;cases r.inv;obtain⟨t,rfl⟩:=ru;refine wpAny_pyIter_strU ?_;refine⟨s1.heap.objs.size,[s1.heap.objs.size],_,_,H1,rfl,I1.kept λb o e=>bw _ e,aEv z t _,⟨_,cx _ rfl,rfl,rfl⟩,λb hb=>?_,q _ λP r=>.chs z rfl rfl⟩;have e:b=s1.heap.objs.size:=by simpa using hb
   subst e;exact I1.aE2 (aT _) (I1.hok.fresh (aT _))
  ·exact bx hi
 ·have he:D_ d=yR d:=by
   unfold D_;split
   ·exact ay ⟨_,rfl⟩ hz
   ·rfl
  rw[he] at hi;exact VP I1 r ru hi q
theorem dN(hl:PE X l (gE fl rl)):PI X tg l (gI X.K (bW fl rl)):=by
 rintro Ψ s σ H R I ⟨ρ,items,k,E,h,q⟩;obtain⟨d,h1,h⟩:=bB h;obtain⟨its,h2,h⟩:=bB h;cases h;refine thn (hl Ψ s σ H _ I ⟨ρ,d,E,h1,λv H1 s1 r1 n1=>(show(∃d',Rep All H1 v d/\d'=d/\∀J,(∀P:ak->Prop,Rep P H1 v d->ItQ X.K P J H1 items)->R J H1) from ⟨d,r1,rfl,λJ hJ=>q J H1 s1 (hJ _ r1) λhk=>hJ _ ?_⟩)⟩) λu s1 ⟨v,H1,I1,ru,d',r1,e,q1⟩=>aBk I1 r1 ru h2 q1
 rw[fT] at hk;rcases hk with hk|hk
 ·exact n1 hk
 ·exact r1.bM hk
theorem RZ{ch:aa ak}{a:ak}{o:HO}(I:Inv X Ψ σ H s)(k:∀b u,b∉ch->s.heap.get? b=ab u->h'.get? b=ab u)(hf:∀b∈ch,Z1 X Ψ H b)(hp:s.heap.objs.size<=a)
 (new:jD X.prog X.w (upd H a o) h' a o):Inv X Ψ σ (upd H a o) {s with heap:=h',toks:=t'}:=by
 have hn:H a=ai:=I.hok.fresh hp;have nch:∀b u,H b=ab u->b∉ch:=λb u e z=>by rw[(hf b z).1] at e;cases e
 have kU:∀b u,H b=ab u->upd H a o b=ab u:=λb u e=>by rw[bG (dI e hn)];exact e
 refine I.step (λb hb=>?_) (λb u _ _ hc e _=>k b u hc e) (λb u _ _ hc e _=>⟨u.slots,k b u hc e⟩) (λb u _ e n=>?_)
  (λb u hc e=>⟨u,k b u hc e⟩) (λb xs e=>kU b _ e) (λb u v e=>kU b _ e) (λb ps e=>⟨#[],by rw[kU b _ e];simp⟩) (λm hm=>?_) (λb u e=>?_) I.bare
 ·obtain⟨_,f1,_,f3,f4,f5⟩:=hf b hb;exact⟨f3,f1,f4,f5⟩
 ·rw[bG (λz=>ay (cK (bz e) hp) (by rw[z];exact gL _))];exact n
 ·obtain⟨u,es,ep,hu,r⟩:=hm;exact⟨u,es,ep,k _ u (λz=>(hf _ z).2.1 rfl) hu,r⟩
 ·by_cases hb:b=a
  ·subst hb;rw[aK] at e;cases e;exact new
  ·rw[bG hb] at e;refine(I.hok b u e).stay (λc v hc q=>k c v ?_ q) (λc q=>kU c _ q) λc xs q=>kU c _ q
   rcases hc with z|z
   ·rw[z];exact nch b u e
   ·exact nch c _ z
end
end
end Mi
namespace Mi
open PySem L2
theorem aO8(b:aq):asB (.bl b)=.ok b:=rfl
theorem bR:lim=1000000:=by unfold lim;exact Eq.refl _
theorem M4(h:ρ.length=n):G5 n ρ=ρ:=by
 subst h;apply List.ext_getElem
 ·simp[G5]
 ·intro i h1 h2;simp[G5,h2]
theorem eY(h:ds.length=n):cP n f ds=f ds:=by
 unfold cP;rw[al (by simp[h])]
theorem aJ(h1:a ρ=.ok x)(h2:b ρ=.ok y)(h3:f x y=.ok z):b2 f a b ρ=.ok z:=by
 unfold b2;rw[h1,τ,h2,τ,h3]
theorem b7(h:f ρ=.ok d):cR ah i f ae ρ=.ok (.nx (ρ.set i d)):=by
 unfold cR;rw[h,τ];rfl
theorem eZ(h:f ρ=.ok d)(hp:d.pure=ae):cR ah i f ah ρ=.ok (.nx (ρ.set i d)):=by
 unfold cR;rw[h,τ];simp only[hp,xD,iN,gu,eI]
theorem dX(h:f ρ=.ok d)(hp:inner d=ae):cR ae i f ae ρ=.ok (.nx (ρ.set i d)):=by
 unfold cR;rw[h,τ];simp only[hp,jk,eI]
theorem aM(h1:f ρ=.ok (.nx ρ'))(h2:g ρ'=r):bN f g ρ=r:=by
 unfold bN;rw[h1,τ];exact h2
theorem aO9(h1:c ρ=.ok k)(h2:(if k then f ρ else g ρ)=r):sIf c f g ρ=r:=by
 unfold sIf;rw[h1,τ];exact h2
theorem V4(h1:c ρ=.ok ae)(h2:f ρ=r):sIf c f g ρ=r:=aO9 h1 (by rw[al rfl];exact h2)
theorem oK(h1:c ρ=.ok ah)(h2:g ρ=r):sIf c f g ρ=r:=aO9 h1 (by rw[au 0x2];exact h2)
theorem dG(h1:f ρ=.ok (.bl k)):bTB f ρ=.ok k:=by
 unfold bTB;rw[h1,τ];rfl
theorem aBl(h1:a ρ=.ok ae)(h2:b ρ=r):aDt a b ρ=r:=by
 unfold aDt;rw[h1,τ,al rfl,h2]
theorem aJj(h1:a ρ=.ok ah):aDt a b ρ=.ok ah:=by
 unfold aDt;rw[h1,τ,au 0x2];rfl
theorem aD(h1:a ρ=.ok x)(h2:b ρ=.ok xs):aC a b ρ=.ok (x::xs):=by
 unfold aC;rw[h1,τ,h2,τ];rfl
theorem aU(h1:a ρ=.ok xs)(h2:f xs=.ok d):aN f a ρ=.ok d:=by
 unfold aN;rw[h1,τ,h2]
theorem bK(h:a ρ=.ok xs)(hl:xs.length<=lim):cM a ρ=.ok (.tup xs):=by
 unfold cM;rw[h,τ,al (bh hl)];rfl
theorem kW(h:f ρ=.ok d)(hp:(k||d.pure)=ae):nR f k ρ=.ok (.rt d):=by
 unfold nR;rw[h,τ,al hp]
theorem nT(h1:it ρ=.ok (xs,ae))(h2:n8 t body xs ρ=r):xO it t body ρ=r:=by
 unfold xO;rw[h1,τ];exact h2
theorem HY(h1:gM i ρ=.ok d)(h2:yR d=.ok xs)(h3:n8 t body xs ρ=r):RB i t body ρ=r:=by
 unfold RB;rw[h1,τ,h2,τ];exact h3
theorem wK(h:f ρ=.ok [.int n])(h1:0<=n)(h2:n<=1000000):jK f tW ρ=.ok ((bm n.toNat).map λ(k:af)=>ε (0+(k:ag)),ae):=by
 unfold jK;rw[h,τ];have:jW n=ae:=by
  simp only[jW,aI,dL];lia
 simp only[tW,this,eI]
theorem lZ(h1:g ρ=.ok d)(h2:f ρ=.ok k)(h3:ρ.getD i .uD=.dct kvs)(h4:kvs.length<lim)(h5:GZ kvs k=ae)(h6:d.pure=ae):yV i f g ρ=.ok (.nx (ρ.set i (.dct (putD kvs k d)))):=by
 unfold yV;rw[h1,τ,h2,τ,h3];simp only[bh h4,h5,h6,jk,eI]
theorem oM(h1:f ρ=.ok d)(h3:ρ.getD i .uD=.lst xs)(h4:xs.length<lim)(h5:d.pure=ae):Q_ i f ρ=.ok (.nx (ρ.set i (.lst (xs++[d])))):=by
 unfold Q_;rw[h1,τ,h3];simp only[bh h4,h5,jk,eI]
theorem cC(h1:t x ρ=.ok ρ1)(h2:body ρ1=.ok (.nx ρ2))(h3:n8 t body xs ρ2=r):n8 t body (x::xs) ρ=r:=by
 rw[n8,h1,τ,h2,τ];exact h3
theorem H_(L:aa D)(i:ag)(h0:0<=i)(h1:i<L.length):∃(h:i.toNat<L.length),getD (.lst L) (.int i)=.ok L[i.toNat]:=by
 have hlt:i.toNat<L.length:=by lia
 refine⟨hlt,?_⟩;show ν ((ixD L.length i).bind λj=>L[j]?)=_;unfold ixD;rw[al h0,al h1];simp only[ow];rw[d5 hlt];rfl
theorem iZ(L:aa D):eQ [.lst L]=.ok (.int L.length):=rfl
theorem fC(h1:it ρ=.ok (xs,kk))(h2:xs.length<=lim)(h3:fK (iI n t c f k ρ) [] xs=.ok ys):e_ n it t c f k ρ=.ok (.lst ys):=by
 unfold e_;rw[h1,τ];simp only[bh h2,eI];rw[h3];rfl
theorem uR(hρ:ρ.length=n)(h1:c (ρ++[x])=.ok b)(h2:b=ae->f (ρ++[x])=.ok y/\(k||y.pure)=ae):iI n jL c f k ρ acc x=.ok (if b then acc++[y] else acc):=by
 unfold iI;show(do let ok <- c (G5 n ρ++[x]);_)=_;rw[M4 hρ,h1,τ];cases b with
 |true=>
  obtain⟨e1,e2⟩:=h2 rfl;rw[al rfl,e1,τ,al e2,al rfl];rfl
 |false=>
  rw[au 0x2,au 0x2];rfl
theorem dU(g:aa D->D->Res (aa D))(d:α->D)(p:α->aq)(y:α->D)(h:∀acc a,g acc (d a)=.ok (if p a then acc++[y a] else acc)):∀(xs:aa α)(acc:aa D),fK g acc (xs.map d)=.ok (acc++(xs.filter p).map y)
 |[],acc=>by simp[fK]
 |x::xs,acc=>by
  rw[bd,fK,h];show fK g _ _=_;rw[dU g d p y h xs];by_cases hp:p x
  ·simp[hp]
  ·simp[hp]
theorem cZ(a b:ag):bI .add (.int a) (.int b)=.ok (.int (a+b)):=rfl
theorem aGz(a b:ag):bI .sub (.int a) (.int b)=.ok (.int (a-b)):=rfl
theorem aH0(a b:ag)(h:lN b=ae):bI .mul (.int a) (.int b)=.ok (.int (a*b)):=by
 show(if lN a||lN b then ι (ε (a*b)) else .bad)=_;rw[h,yr,al rfl]
theorem vP(a b:ag)(h:lN a=ae):bI .mul (.int a) (.int b)=.ok (.int (a*b)):=by
 show(if lN a||lN b then ι (ε (a*b)) else .bad)=_;rw[h,A0,al rfl]
theorem fV(a b:ag)(h1:0<b)(h2:b<1073741824):bI .fdiv (.int a) (.int b)=.ok (.int (a / b)):=by
 show(if ϒ (0<b)&&ϒ (b<1073741824) then ι (ε (a / b)) else .bad)=_;rw[bh h1,bh h2,jk,al rfl]
theorem dH(a b:ag)(h1:0<b):bI .mod (.int a) (.int b)=.ok (.int (a % b)):=by
 show(if ϒ (0<b) then ι (ε (a % b)) else .bad)=_;rw[bh h1,al rfl]
theorem R0(a b:Str)(h:a.length+b.length<=lim):bI .add (.str a) (.str b)=.ok (.str (a++b)):=by
 show(if ϒ (a.length+b.length<=lim) then ι (δ (a++b)) else .bad)=_;rw[bh h,al rfl]
theorem str_len(a b:Str):(a++b).length=a.length+b.length:=by
 show(a.cps++b.cps).size=_;rw[Array.size_append];rfl
theorem zK(h1:a.fP aY=ae)(h2:b.fP aY=ae)(h:j_ o a b=ab k):cT (.ord o) a b=.ok (.bl k):=by
 show(if a.fP aY&&b.fP aY then (match j_ o a b with|some k=>ι (υ k)|none=>.bad) else .bad)=_;rw[h1,h2,h,jk,al rfl]
theorem nA(a b:aa D)(h:a.length+b.length<=lim)(ha:θ a=ae)(hb:θ b=ae):bI .add (.lst a) (.lst b)=.ok (.lst (a++b)):=by
 show(if ϒ (a.length+b.length<=lim)&&θ a&&θ b then ι (π (a++b)) else .bad)=_;rw[bh h,ha,hb,jk,jk,al rfl]
open PySem.W PySem.SeqAt PySem.Spec PyProof.Rows
variable [KFrag]
def oN(a:FA):FE:=λρ=>do let xs <- a ρ;if ϒ (xs.length<=lim)&&θ xs then pure (.lst xs) else .bad
theorem nC{X:Cx}{pos:cj}{es:aa Expr}{f:FA}{r:aq}(h:PA X es (gA f r)):PE X (.List es pos) (gE (oN f) ae):=PE.imp (aAd h) λσ H Q z0=>by
  obtain⟨ρ,d,E,h,q⟩:=z0;obtain⟨xs,h1,h⟩:=bB h;split at h
  ·rename_i hl;rw[aI] at hl;cases h;refine⟨ρ,xs,E,h1,λvs H1 s1 r1 n1=>⟨?_,λp hp=>?_⟩⟩
   ·rw[r1.length];exact c9 (c8 hl.1) (by rw[di];decide)
   ·have sp:b_ H1 (upd H1 p (.lst vs)):=b_.upd hp;exact q _ _ (s1.trans sp) (.lst aK trivial (r1.same sp)) λ_=>.lst aK (s1.free hp) ((r1.bM hl.2).same sp)
  ·exact bx h
end Mi
namespace Mi
open PySem L2 PySem.SeqAt PySem.Spec PyProof.Rows
section
variable [KFrag]
def DV(H:Hp)(a:ak)(kvs:aa (Key×V)):Prop:=H a=ab (.dK kvs)\/(kvs=[]/\H a=ab (.dT []))
theorem aH1:∀{kvs:aa (κ×V)}{vs:aa (κ×aj)}{i:af}{p:κ×V},KV kvs vs->kvs[i]?=ab p->∃u,vs[i]?=ab (p.1,u)/\RelV p.2 u
 |_,_,_,_,.nil,h=>by simp at h
 |_,_,0,_,.cons r _,h=>by
  simp at h;subst h;exact⟨_,by simp[r.1],r.2⟩
 |_,_,i+1,_,.cons _ t,h=>by
  obtain⟨u,h1,h2⟩:=aH1 t (by simpa using h);exact⟨u,by simpa using h1,h2⟩
section
variable {a:ak}
theorem aOa(hu:DV H a kvs):L2.Mut (H a):=by
 rcases hu with h|⟨_,h⟩<;>rw[h]<;>trivial
theorem aBm(I:Inv X Ψ σ H s)(hu:DV H a kvs):kvs.length<=ba/\(a==gf)=ah/\∃vs,KV kvs vs/\s.heap.DictOf (cL X.prog X.w) a vs:=by
 rcases hu with h|⟨rfl,h⟩
 ·exact K4 I.hok h
 ·exact K4 (lV I h).hok aK
theorem aOb(I:Inv X Ψ σ H s)(hu:DV H a kvs)(ho:s.heap.get? a=ab o):∃u,H a=ab u/\∀(H':Hp)(h:az),h.get? a=ab o->jD X.prog X.w H' h a u:=by
 rcases hu with h|⟨_,h⟩
 ·obtain⟨z,hs,vs,rel,o',es,ep,ho',c⟩:=I.hok a _ h;rw[ho] at ho';cases ho';exact⟨_,h,λH' h' e=>⟨z,hs,vs,rel,o,es,ep,e,c⟩⟩
 ·obtain⟨z,hs,xs,rel,o',es,ep,ho',c⟩:=I.hok a _ h;rw[ho] at ho';cases ho';cases rel;exact⟨_,h,λH' h' e=>⟨z,hs,[],.nil,o,es,ep,e,c⟩⟩
end
theorem V5(ea:∀ob,H a=ab ob->RG ob=ae)(b:ak)(o:HO)(e:H b=ab o)(h:RG o=ah):upd H a u b=ab o:=by
 rw[bG λz=>by rw[z] at e;rw[ea _ e] at h;cases h];exact e
theorem IK{P:ak->Prop}(ea:∀ob,H a=ab ob->RG ob=ae)(q:Rep P H v d)(h:d.pure=ae):Rep P (upd H a u) v d:=q.vK (V5 ea) h
theorem zL{P:ak->Prop}(ea:∀ob,H a=ab ob->RG ob=ae)(q:bT P H v d)(h:θ d=ae):bT P (upd H a u) v d:=q.vK (V5 ea) h
theorem vQ:∀{acc:aa D}{y:D},θ acc=ae->y.pure=ae->θ (acc++[y])=ae
 |[],y,_,h=>by show(y.pure&&ae)=ae;rw[h];rfl
 |x::acc,y,h,hy=>by
  rw[θ,aI] at h;show(x.pure&&θ (acc++[y]))=ae;rw[h.1,vQ h.2 hy];rfl
theorem M5{P:ak->Prop}{H:Hp}:∀{kvs:aa (Key×V)}{ds:aa (D×D)},iJ P H kvs ds->bT P H (kvs.map (·.2)) (ds.map (·.2))
 |_,_,.nil=>.nil
 |_,_,.cons r t=>.cons r (M5 t)
structure aRy(K:bi)(x qual:Str)(st:bn)(f:ak)(fd:dS)(T:ak)(its:ax aj):Prop where
 ex:∃(oc:aj)(od:ar ak)(kV doc pm:aj)(an:ar ak)(cdv ct:aj)(osl:ax (ar aj)),
  fd=kM x qual (g8 st) (d7 st) (aL st) (.ref T) kV doc pm an cdv ct/\K.lookup f=ab ⟨oc,od,.func fd,osl⟩/\sA K cdv qual=ae
 kp:iA K (.ref f)=ae
 df:∃(tc:aj)(td:ar ak)(tn:af)(tl:ax (ar aj)),K.lookup T=ab ⟨tc,td,.seq its tn,tl⟩
section
variable {P:b5} {w:br} {K:bi} {mg:Str->ar aj} {base:az} {x qual:Str} {st:bn} {fad T:ak} {its:ax aj} {fd:dS} {N ps:aa Str} {k:af} {f:FS}
theorem aOc(F:aRy K x qual st fad fd T its)(S:bV N ps (aL st))(own:af->aq)(hown:∀i,i<ps.length->own i=ah)
 (hbody:∀(cdv:aj) (A:cg) (outer:aa dg) (s:ao) (H:Hp) (E:XK),nZ k (A.deeper (fS qual (aL st) s.heap.objs.size fad cdv))->PSs (Z2 CX0 P w K mg base N qual (aL st) fad cdv A outer s H E).nox (d7 st) (tS own f))(hx:own rtX=ah:=by rfl):vH P w K mg base CX0 (k+1) fad fd ps (spD (fnS ps.length N.length f) ps.length):=by
 obtain⟨oc,od,kV,doc,pm,an,cdv,ct,osl,rfl,lk,hcd⟩:=F.ex;exact aNb lk hcd S (λvs H Q E h=>aBd h) λA outer s H vs Q E hr h=>⟨_,(hbody cdv A outer s H E hr).nox,aBh hx hown h⟩
end
structure aRz(P:b5)(w:br)(K:bi)(mg:Str->ar aj)(base:az)(k:af)(x kw:Str)(n:af)(df:D)(f:aa D->Res D):Prop where
 ex:∃(fad:ak)(fd:dS)(ps:aa Str)(u:aj)(v:V),vH P w K mg base CX0 k fad fd ps (spD f (n+1))/\mg x=ab (.ref fad)/\iA K (.ref fad)=ae/\Binds K fd ps []/\Binds K fd ps [u]/\RelV v u/\(∀H:Hp,Rep All H v df)/\
  ∀(s:ao)(us:aa aj)(y:aj),K.In s.heap->us.length=n->kK s fd ⟨us,[(kw,y)]⟩ (ps.zip (us++[y]))
section
variable {X:Cx} {e:Expr} {es:aa Expr} {pos p:cj} {fs:FA} {rr:aq} {x kw:Str} {k k' n:af} {df:D} {f:aa D->Res D}
theorem aBn(C:aRz X.prog X.w X.K X.mg X.base k x kw n df f)(hr:nZ k' X.A)(hkk:k<=k')(hg:Gl X x)(ha:PA X (e::es) (gA fs rr))(hdb:nDb x:=by decide)(he:zSE X e es:=by rfl)(hpl:zSP X pos es:=by rfl) :
  PE X (.Call (.Name x p) (e::es) [] pos) (gE (aN (λds=>cP (n+1) f (ds++[df])) fs) ae):=by
 obtain⟨fad,fd,ps,u,v,F,hm,hk,hb,hb1,ru,rv,_⟩:=C.ex;refine PE.imp (Q3 F (hr.mono hkk) hg hm hk hb1 (.cons ru .nil) aAq ha hdb he hpl) λσ H Q h0=>?_
 obtain⟨ρ,d,E,h,q⟩:=h0;obtain⟨ds,h1,h⟩:=bB h;unfold cP at h;split at h
 ·rename_i hl;exact⟨ρ,ds,E,h1,λvs H1 s1 r1 _=>⟨ds++[df],d,c8 hl,r1.append (.cons (rv H1) .nil),h,q.imp s1 id⟩⟩
 ·exact bx h
end
end
def QR:D->D->Res D
 |.tup a,.tup b=>if ϒ (a.length+b.length<=lim) then .ok (.tup (a++b)) else .bad
 |_,_=>.bad
def aJk:D->Res D
 |.lst xs=>if θ xs then .ok (.lst xs.reverse) else .bad
 |_=>.bad
def wL:aa D->aa D->aa (D×D)->aa (D×D)
 |k::ks,v::vs,m=>wL ks vs (putD m k v)
 |_,_,m=>m
def E_:aa D->Res D
 |[.tup xs,.tup ys]=>if ϒ (xs.length<=1000)&&ϒ (ys.length=xs.length)&&xs.all mV&&θ ys then .ok (.dct (wL xs ys [])) else .bad
 |_=>.bad
noncomputable def aEw(c:FT)(body:FS):af->aa D->Res Fl
 |0,_=>.bad
 |n+1,ρ=>do
  let k <- c ρ
  if k then (do
   let r <- body ρ
   match r with
   |.nx ρ'=>aEw c body n ρ'
   |.ct ρ'=>aEw c body n ρ'
   |.bk ρ'=>.ok (.nx ρ')
   |.rt d=>.ok (.rt d))
  else .ok (.nx ρ)
def aT8(c:FT)(body:FS):FS:=λρ=>aEw c body 1000 ρ
noncomputable def R3(i j:af)(f:FE):FS:=λρ=>do
 let k <- f ρ
 match ρ.getD i .uD,k with
 |.lst xs,.int k=>if ϒ (0<=k)&&ϒ (k<=1000000) then (match xs[k.toNat]? with|some x=>.ok (.nx ((ρ.set i (.lst (xs.eraseIdx k.toNat))).set j x))|none=>.bad) else .bad
 |_,_=>.bad
def aJl:aa D->Res D
 |[.dct kvs]=>if kvs.all (λp=>!isTup p.1) then .ok (.int kvs.length) else .bad
 |ds=>eQ ds
noncomputable def fzD(i:af)(kvs:aa (D×D))(ρ:aa D):aa D:=(ρ.map λd=>if d.pure then d else .uD).set i (.fdc kvs)
def aBo(n i:af)(t:D->Res (aa D))(c:FT)(f:FE):FE:=λρ=>do
 let d <- gM i ρ
 match d with
 |.dct kvs=>if ϒ (kvs.length<=lim)&&(kvs.all (λp=>!isTup p.1)&&θ (kvs.map (·.2))) then (do
   let ys <- fK (iI n t c f ah (fzD i kvs ρ)) [] (sX kvs)
   pure (.lst ys)) else .bad
 |_=>.bad
section
variable [KFrag]
section
theorem vR:OpR X (e6 .Add) (r2 QR ah):=by
 intro Ψ s σ H x y v u Q I rx ry h;obtain⟨a,b,d,p,q,e,k⟩:=h;unfold QR at e;split at e
 ·rename_i da db;split at e
  ·rename_i hl;cases e;obtain⟨l1,xs1,rfl,e1,r1⟩:=p.inv;obtain⟨l2,xs2,rfl,e2,r2⟩:=q.inv;cases rx;cases ry;have hz:xs1.length+xs2.length<=ba:=by rw[r1.length,r2.length];exact m7 hl
   obtain⟨its,w1,p1,_⟩:=I.tuple (.of e1);obtain⟨its2,w2,p2,_⟩:=I.tuple (.of e2);obtain⟨⟨cls,dd,data,sl⟩,ho,hc,n,hd⟩:=id p1;obtain⟨⟨cls2,dd2,data2,sl2⟩,ho2,hc2,n2,hd2⟩:=id p2;simp only at hc hd hc2 hd2;by_cases hv:its=[]
   ·have:xs1=[]:=w1.yL.mp hv;subst this;cases r1;refine sB ⟨_,ho,hc⟩ ⟨_,ho2,hc2⟩ w_ xg xh xi (xj _ _)
     (tuple_addW0 l1 l2 its.toArray its2.toArray n n2 dd dd2 sl sl2 (by simp[hv])) ⟨by subst hc hd;exact ho,by subst hc2 hd2;exact ho2,.ref l2,H,I,rfl,?_⟩
    exact k.self (.tup e2 r2) (λz=>by cases z)
   ·refine aIo Ψ s σ H (.ref l1) (.ref l2) _ _ Q I rfl rfl ⟨l1,l2,xs1,xs2,rfl,rfl,.of e1,.of e2,λz=>hv (w1.yL.mpr z),hz,λz=>?_,λz p hp=>?_⟩
    ·subst z;cases r2;rw[dq] at k;exact k.self (.tup e1 r1) (λz=>by cases z)
    ·have sp:b_ H (upd H p (.tup (xs1++xs2))):=b_.upd hp;exact k _ _ sp (.tup aK ((r1.append r2).same sp)) λz=>by cases z
  ·exact bx e
 ·exact bx e
theorem aBp(hK:KFrag.K=X.K):lE X (.builtin "len") (rs aJl ae):=by
 rintro Ψ s σ H xs us Q I vr ⟨ds,d,r,e,k⟩;unfold aJl at e;split at e
 ·rename_i ds;split at e
  ·rename_i hb;cases e;obtain⟨vv,uu,rfl,rfl,r,v⟩:=iY r vr;obtain⟨a,kvs,rfl,hu,rl⟩:∃a kvs,vv=.ref a/\DV H a kvs/\kvs.length=ds.length:=by
    cases r with
    |dK e _ rk _=>exact⟨_,_,rfl,.inl e,by have:=(M5 rk).length;simpa using this⟩
    |dT e _ rt _=>
     cases rt with
     |nil=>exact⟨_,[],rfl,.inr ⟨rfl,e⟩,rfl⟩
     |cons r t=>simp[isTup] at hb
   cases v;obtain⟨z,hs,vs,rel,dd⟩:=aBm I hu;refine BY hs dd (by rw[<-rel.length];rw[di] at z;lia) ?_;rw[<-rel.length,rl];exact⟨.int _,H,I.tok _,⟨_,rfl⟩,k.int⟩
  ·exact bx e
 ·exact cN hK Ψ s σ H xs us Q I vr ⟨_,d,r,e,k⟩
theorem aOd(hp:ny (av X.prog X.w) X.A X.env X.xe)(hc:PT X c (gT gc))(hb:PSs X body (tS own fb)):PS X (.While c body [] pos) (tS own (aT8 gc fb)):=
 PS.imp (aE1 hp hc hb) λD σ H z0=>by
 obtain⟨ρ,fl,E,h,q⟩:=z0;refine⟨λm σ' H'=>∃ρ' ,ES own H' σ' ρ'/\aEw gc fb m ρ'=.ok fl/\kS own D σ' H' fl,⟨1000,ρ,E,h,q⟩,?_⟩;rintro m σ H ⟨ρ,E,h,q⟩;cases m with
 |zero=>exact bx h
 |succ m=>
  rw[aEw] at h;obtain⟨k,h1,h2⟩:=bB h;refine⟨ρ,k,E.er,h1,λH1 s=>?_⟩;cases k with
  |true=>
   rw[al rfl];rw[al rfl] at h2;obtain⟨r,h3,h4⟩:=bB h2;refine⟨λσ' H'=>∃ρ',ES own H' σ' ρ'/\aEw gc fb m ρ'=.ok fl/\kS own D σ' H' fl,λσ' H' w=>⟨m,iE m,w⟩,ρ,r,E.same s,h3,?_⟩;have q1:=q.step (.same s);cases r with
   |nx ρ'=>exact λσ' H' ku E'=>⟨ρ',E',h4,q1.step ku⟩
   |ct ρ'=>exact λσ' H' ku E'=>⟨ρ',E',h4,q1.step ku⟩
   |bk ρ'=>cases h4;exact λσ' H' ku E'=>q1 σ' H' ku E'
   |rt d=>cases h4;exact q1
  |false=>
   rw[au 0x2];rw[au 0x2] at h2;cases h2;exact(q.step (.same s)) σ H1 (λa o e n=>⟨e,n⟩) (E.same s)
end
section
theorem aBq(ho:own i=ae)(hN:X.N[i]?=ab x)(hv:Vis X.env.scope x)(hnd:X.N.Nodup)(hj:X.N[j]?=ab y)(hy:Loc X.env.scope y)(hoj:own j=ah)(he:PE X e (gE fe re))(hd:nDb x:=by decide)(hcd:nCd x:=by decide)
 (hbase:gn (.Name x p1) "pop" X.env (bc (.Name x p1) X.env)=bc (.Name x p1) X.env:=by rfl)
 (hs1:zSE X e []:=by rfl)
 (hfew:zFw X cpos [e]:=by rfl)
 (hline:(apos.endLine==cpos.line)=ae:=by rfl)
 (hs:dw (.Call (.Attribute (.Name x p1) "pop" apos) [e] [] cpos) (ab (.Name y py)) pos.line X.env=pure ah:=by rfl)(hf:zFn X y:=by first|exact .inl rfl|exact .inr rfl|assumption) :
  PS X (.Assign [.Name y py] (.Call (.Attribute (.Name x p1) "pop" apos) [e] [] cpos) pos) (tS own (R3 i j fe)):=
 PS.imp (CV hnd hj hy (YF la sQ B0 aE9 (fX hN hv hd hcd) (eG he j8 hs1) hbase hfew hline hs1 rfl) hs hf) λD' σ H z0=>by
 obtain⟨ρ,fl,E,h,q⟩:=z0;obtain⟨d,h1,h2⟩:=bB h;split at h2
 ·rename_i xs k hx;split at h2
  ·rename_i hk;rw[aI,dL,dL] at hk;split at h2
   ·rename_i dx hdx;cases h2;obtain⟨a,o,hσ,r,hin,ha,hm⟩:=E.ownAt ho (by rw[hx];intro z;cases z);rw[hx] at r hin;obtain⟨vs,hl,rr⟩:=DX r;obtain⟨v,hvx,rv⟩:=rr.get hdx;refine⟨_,hσ,.inl ⟨rfl,vs,.of hl⟩,ρ,_,E.er,h1,λu H' s ru _=>?_⟩;cases ru.inv;have hlt:k.toNat<vs.length:=(dj.mp hvx).1;refine⟨a,vs,k,k.toNat,v,rfl,rfl,s _ _ hl,by lia,by lia,?_,hvx,?_⟩
    ·unfold sK;have h3:¬k<0:=by lia
     have h4:k<vs.length:=by lia
     first
      | (simp only[h3,gu,hk.1,h4,and_self,eI];done)
      | (simp[h3,hk.1,h4];done)
      | (simp[h3,hk.1,h4,hlt])
    ·have E':=E.same s;have hl':=s _ _ hl;have hin':θ xs=ae:=hin;have pall:∀y∈xs,y.pure=ae:=λy hy=>jY.mp hin' y hy
     have pdx:dx.pure=ae:=pall dx (nK hdx);have pe:θ (xs.eraseIdx k.toNat)=ae:=jY.mpr λy hy=>pall y (List.mem_of_mem_eraseIdx hy)
     have er:∀{vs:aa V}{ds:aa D}(n:af),bT All H' vs ds->bT All H' (vs.eraseIdx n) (ds.eraseIdx n):=by
      intro vs ds n r;induction n generalizing vs ds with
      |zero=>cases r with
       |nil=>exact .nil
       |cons _ t=>exact t
      |succ n ih=>cases r with
       |nil=>exact .nil
       |cons r t=>exact .cons r (ih t)
     obtain⟨E2,k2⟩:=E'.mut ho hσ rfl (.lst aK trivial ((er k.toNat (rr.same s)).upd pe hl' rfl)) pe;have r1:=(bT.cons (rv.same s) .nil).upd (o:=.lst (vs.eraseIdx k.toNat)) (by rw[θ,pdx];rfl) hl' rfl;cases r1 with
     |cons r1 _=>
      have E3:=E2.set hoj (r1.bM pdx);exact q _ _ (((KU.same s).trans k2).trans λb ob eb nb=>⟨eb,by rw[lK hoj];exact nb⟩) E3
   ·exact bx h2
  ·exact bx h2
 ·exact bx h2
theorem IV:∀l:aa α,(∀a∈l,f a=g a)->l.filterMap f=l.filterMap g
 |[],_=>rfl
 |a::l,h=>by rw[nu,nu,h a (bj ..),IV l λb hb=>h b (bp _ hb)]
theorem V6:∀its:aa aj,(bm its.length).filterMap (λk=>its[its.length-1-k]?)=its.reverse
 |[]=>rfl
 |a::r=>by
  rw[aS,mB,List.filterMap_append,iL];have e1:(bm r.length).filterMap (λk=>(a::r)[r.length+1-1-k]?)=(bm r.length).filterMap (λk=>r[r.length-1-k]?):=by
   apply IV;intro k hk;have hk:=fx.mp hk;have:r.length+1-1-k=(r.length-1-k)+1:=by lia
   rw[this,yt]
  rw[e1,V6 r]
  congr 1
  simp
theorem IW(its:aa aj):sM its.toArray ai ai (ab (-1))=its.reverse.toArray:=by
 have hr:sliceRange ((its.length:ag)-1) (-1) (-1)=(bm its.length).map λk=>its.length-1-k:=picked_rev its.length
 have hb:jS ai ai (ab (-1)) its.toArray.size=(((its.length:ag)-1),-1,-1):=rfl;unfold sM;rw[hb];show((sliceRange ((its.length:ag)-1) (-1) (-1)).filterMap (its.toArray[·]?)).toArray=_;rw[hr,AH,<-V6 its];exact cy Bn (IV _ λk _=>by simp)
theorem aOe(he:PE X e (gE fe re)):PE X (.Subscript e (.Slice ai ai (ab (.UnaryOp .USub (.Constant (.int 1) j p1) p3)) p2) pos) (gE (b1 aJk fe) ae):=by
 rintro Ψ s σ H Q I ⟨ρ,d,E,h,q⟩;obtain⟨x,h1,h2⟩:=bB h;refine xo (thn (he Ψ s σ H (λv H1=>b_ H H1/\Rep All H1 v x) I ⟨ρ,x,E,h1,λv H1 s1 r1 _=>⟨s1,r1⟩⟩) λv s1 ⟨xv,H1,I1,r1,sm,rx⟩=>?_);refine AN ?_;rw[xn];refine aE (aE ?_);refine thn (aAh (aB7 MJ aF) Ψ s1 σ H1 (λst H2=>st=ab (-1)/\b_ H1 H2) I1 ⟨ρ,.int (-1),E.same sm,rfl,λv H2 s2 r2 _=>by cases r2.inv;exact⟨-1,rfl,rfl,s2⟩⟩) λvs s2 ⟨st,H2,I2,ps,est,sm2⟩=>?_
 subst est;have I4:Inv X Ψ σ H2 {s2 with heap:=s2.heap.push {cls:=.type "slice",data:=.fields #[.none,.none,vs]}}:=I2.kept λb ob q=>bw _ q
 unfold aJk at h2;split at h2
 ·rename_i ds;split at h2
  ·rename_i hp;cases h2;obtain⟨l,xs,rfl,hl,rr⟩:=(rx.same sm2).mZ;cases r1;obtain⟨its,r,ht,hz⟩:=I4.list hl;have hlen:=r.length;refine xq ht.isList.typeIs xu.lookup ?_ 0x5;refine AT ht.isList (AO ..) .none .none ps 0x2 ?_ (by rw[bS]<;>lia);rw[IW];refine⟨.ref _,_,I4.laid (o:=.lst xs.reverse) (λb ob q=>bw _ q) (aT _) ⟨by rw[mE];exact hz,_,0,r.reverse,cx _ rfl⟩,rfl,?_⟩;have hfr:H2 (s2.heap.push {cls:=.type "slice",data:=.fields #[.none,.none,vs]}).objs.size=ai:=I4.hok.fresh (aT _);have sp:=b_.upd (o:=.lst xs.reverse) hfr;have rev:∀{P:ak->Prop}{vs:aa V}{ds:aa D},bT P H2 vs ds->bT P H2 vs.reverse ds.reverse:=by
    intro P vs ds r;induction vs generalizing ds with
    |nil=>cases r;exact .nil
    |cons v vs ih=>cases r with
     |cons r t=>
      rw[iL,iL];exact(ih t).snoc r
   refine q _ _ ((sm.trans sm2).trans sp) (.lst aK trivial ((rev rr).same sp)) λ_=>.lst aK ?_ ((rev (rr.bM hp)).same sp)
   exact(sm.trans sm2).free hfr
  ·exact bx h2
 ·exact bx h2
end
def Itk(a:ak)(o:bf)(u:HO)(kvs:aa (Key×V)):It where
 go:=λi H=>H a=ab (.frz o u)/\∃p,kvs[i]?=ab p
 yld:=λi H x H'=>H'=H/\∃p,kvs[i]?=ab p/\x=kV p.1
 stop:=λi H=>H a=ab (.frz o u)/\kvs.length<=i
theorem aOf(h:(cL P w).is k v=ae):RelV (kV k) v:=by
 have h:QS k v=ae:=h;rcases dJ h with ⟨i,t,rfl,rfl⟩|⟨x,t,rfl,rfl⟩
 ·exact⟨t,rfl⟩
 ·exact⟨t,rfl⟩
theorem aBr{K:bi}{o:bf}{u:HO}{kvs:aa (Key×V)}{vs:aa (Key×aj)}{ep:af}(hd:∀h:az,h.get? a=ab o->h.DictAt (cL P w) a vs ep)(rel:KV kvs vs) :
  Turn P w K tg (Itk a o u kvs) [it] it (λi h=>h.IsKeyIter it a i vs.length ep) where
 mem:=by simp
 obj:=λi h st b hb=>by
  have e:b=it:=by simpa using hb
  subst e;obtain⟨o,e,c,d⟩:=st;exact⟨o,e,λv z=>by rw[d] at z;cases z⟩
 keep:=λi h h' st k=>st.at λo e=>k it 0x2 o e
 item:=by
  intro X hP hw hK hc i Ψ s σ H E I hf st hg;subst hP hw hK;obtain⟨ea,⟨k,x⟩,hx⟩:=hg;obtain⟨px,_⟩:=I.hok a _ ea;obtain⟨v,hv,rv⟩:=aH1 rel hx;obtain⟨f0,f1,f2,f3,f4,f5⟩:=hf it 0x2;refine wpAny_pyNext_dict_item st (hd _ px) hv λkey h' hk st' sb=>?_
  have I1:Inv X Ψ σ H {s with heap:=h'}:=I.turned (λb o hb e=>(sb.2 b hb).trans e) f0 f1 f3 f4 f5;obtain⟨o',e,c,d⟩:=id st';exact⟨key,rfl,aA4 e c d 0x4 ⟨kV k,H,I1,aOf hk,⟨rfl,_,hx,rfl⟩,st',λb hb=>(hf b hb).1⟩⟩
 done:=by
  intro X hP hw hK hc i Ψ s σ H E I hf st hg;subst hP hw hK;obtain⟨ea,hx⟩:=hg;obtain⟨px,_⟩:=I.hok a _ ea;obtain⟨f0,f1,f2,f3,f4,f5⟩:=hf it 0x2;have hl:kvs.length=vs.length:=jr rel;exact wpAny_pyNext_dict_end (I.ok.hd hc) st (hd _ px) (List.getElem?_eq_none_iff.mpr 0x1) λh' eb=>⟨rfl,I.turned (λb o hb e=>eb b o hb e) f0 f1 f3 f4 f5⟩
 self:=λ_ _ _ _ _ st h=>wpAny_pyIter_keyiter st h
section
variable {a:ak}
theorem aEx(I:Inv X Ψ σ H s)(e:H a=ab (.frz o u))(hn:∀o u,X.H₀ a≠ab (.frz o u)):Inv X Ψ σ (upd H a u) s:=by
 have ne:∀b,H b=ai->b≠a:=λb h z=>by subst z;rw[e] at h;cases h
 have keepT:∀b xs,H b=ab (.tup xs)->upd H a u b=ab (.tup xs):=λb xs h=>by
  rw[bG (λz=>by subst z;rw[e] at h;cases h)];exact h
 have keepO:∀b x,H b=ab (.own x)->upd H a u b=ab (.own x):=λb x h=>by
  rw[bG (λz=>by subst z;rw[e] at h;cases h)];exact h
 refine⟨I.ok,I.os,I.bare,⟨I.base.keep,I.base.slot,λb o h1 h2 h3=>?_,I.base.there,λb xs h=>?_,λb o' u' h=>?_,λb ps h=>?_⟩,I.loc,I.cell,?_,λx c h=>?_,λp hp=>?_,λb ob h=>?_,I.len⟩
 ·have:=I.base.free b o h1 h2 h3;rw[bG (ne b this)];exact this
 ·exact keepT b xs (I.base.tups b xs h)
 ·have:=I.base.frzs b o' u' h;rw[bG (λz=>by subst z;exact hn _ _ h)];exact this
 ·obtain⟨more,h1⟩:=I.base.tbls b ps h;refine⟨more,?_⟩;rw[bG (λz=>by subst z;rw[e] at h1;cases h1)];exact h1
 ·rw[bG (ne _ I.free)];exact I.free
 ·have:=I.freeC x c h;rw[bG (ne _ this)];exact this
 ·obtain⟨h1,h2,h3⟩:=I.pin p hp;exact⟨h1,by rw[bG (ne _ h2)];exact h2,h3⟩
 ·by_cases hb:b=a
  ·subst hb;rw[aK] at h;cases h;obtain⟨_,h2⟩:=I.hok b _ e;exact h2.stay (λ_ _ _ q=>q) (λc hc=>keepO c b hc) keepT
  ·rw[bG hb] at h;exact(I.hok b _ h).stay (λ_ _ _ q=>q) (λc hc=>keepO c b hc) keepT
theorem aEy(I:Inv X Ψ σ H s)(hu:DV H a kvs):∀o u,X.H₀ a≠ab (.frz o u):=λo u h=>by
 have:=I.base.frzs a o u h;rcases hu with h|⟨_,h⟩<;>(rw[h] at this;cases this)
theorem aJm{i:af}{np:cj}(hN:X.N[i]?=ab x)(hv:Vis X.env.scope x)(hd:nDb x:=by decide)(hcd:nCd x:=by decide) :
  PI X tg (.Name x np) (λσ H R=>∃a kvs u,σ[i]?=ab (ab (.ref a))/\DV H a kvs/\H a=ab u/\∀o,R (Itk a o u kvs) (upd H a (.frz o u))):=by
 rintro Ψ s σ H R I ⟨a,kvs,u,hσ,hu,hua,q⟩;refine thn (fX hN hv hd hcd Ψ s σ H (λv H1=>v=.ref a/\H1=H) I ⟨_,hσ,rfl,rfl⟩) λv s1 ⟨w,H1,I1,r1,e1,e2⟩=>?_
 subst e1 e2;cases r1;obtain⟨z,hs,vs,rel,dd⟩:=aBm I1 hu;obtain⟨ep,da⟩:=dd.dictAt;obtain⟨o,es,ho,r⟩:=id da;have hda:∀h:az,h.get? a=ab o->h.DictAt (cL X.prog X.w) a vs ep:=λh e=>⟨o,es,e,r⟩
 obtain⟨u',hu2,fu⟩:=aOb I1 hu ho;rw[hua] at hu2;cases hu2;have If:Inv X Ψ σ (upd H1 a (.frz o u)) s1:=I1.write (aOa hu) (.inl rfl) (λ_ _ _ q=>q) ⟨o,ho⟩ ⟨ho,fu _ _ ho⟩;refine wpAny_pyIter_dict hs da ?_;have I2:Inv X Ψ σ (upd H1 a (.frz o u)) {s1 with heap:=s1.heap.push {cls:=.type "dict_keyiterator",data:=.fields #[.ref a,.int 0 0,.int vs.length 0,.int ep 0]}}:=If.kept λb o e=>bw _ e
 refine⟨s1.heap.objs.size,[s1.heap.objs.size],λi h=>h.IsKeyIter s1.heap.objs.size a i vs.length ep,Itk a o u kvs,_,rfl,I2,aBr hda rel,⟨_,cx _ rfl,rfl,rfl⟩,λb hb=>?_,q o⟩;have e:b=s1.heap.objs.size:=by simpa using hb
 subst e;exact If.aE2 (aT _) (If.hok.fresh (aT _))
end
theorem aOg(r:Rep P H (.ref a) (.dct ds))(hua:H a=ab u)(hp:θ (ds.map (·.2))=ae):Rep P' (upd H a (.frz o u)) (.ref a) (.fdc ds):=by
 have hna:∀ob,H a=ab ob->RG ob=ae:=λxs z=>by
  cases r with
  |dK e _ _ _=>rw[e] at z;cases z;rfl
  |dT e _ _ _=>rw[e] at z;cases z;rfl
 have goK:∀{kvs:aa (Key×V)}{ds:aa (D×D)},iJ P H kvs ds->θ (ds.map (·.2))=ae->iJ P' (upd H a (.frz o u)) kvs ds:=by
  intro kvs ds r;induction kvs generalizing ds with
  |nil=>cases r;intro _;exact .nil
  |cons p kvs ih=>cases r with
   |cons r t=>
    intro h;rw[bd,θ,aI] at h;exact .cons ((IK hna r h.1).bM h.1) (ih t h.2)
 have goT:∀{kvs:aa (aa Key×V)}{ds:aa (D×D)},o6 P H kvs ds->θ (ds.map (·.2))=ae->o6 P' (upd H a (.frz o u)) kvs ds:=by
  intro kvs ds r;induction kvs generalizing ds with
  |nil=>cases r;intro _;exact .nil
  |cons p kvs ih=>cases r with
   |cons r t=>
    intro h;rw[bd,θ,aI] at h;exact .cons ((IK hna r h.1).bM h.1) (ih t h.2)
 cases r with
 |dK e _ r n=>rw[e] at hua;cases hua;exact .fdK aK (goK r hp) n
 |dT e _ r n=>rw[e] at hua;cases hua;exact .fdT aK (goT r hp) n
theorem aS0(r:Rep P H v (.dct ds))(hb:ds.all (λp=>!isTup p.1)=ae):∃a kvs u,v=.ref a/\DV H a kvs/\H a=ab u/\LQ u=ae/\∀{P'},∀H',bT P' H' (kvs.map λp=>kV p.1) (sX ds):=by
 cases r with
 |dK e _ rk _=>
  refine⟨_,_,_,rfl,.inl e,e,rfl,λ{P'} H'=>?_⟩;clear e;rename_i n;clear n;have go:∀{kvs:aa (Key×V)}{ds:aa (D×D)},iJ P H kvs ds->bT P' H' (kvs.map λp=>kV p.1) (sX ds):=by
   intro kvs ds r;induction kvs generalizing ds with
   |nil=>cases r;exact .nil
   |cons p kvs ih=>cases r with
    |@cons k v d r ds h t=>exact .cons (by cases k<;>first|exact .int _|exact .str _) (ih t)
  exact go rk
 |dT e _ rt _=>
  cases rt with
  |nil=>exact⟨_,[],_,rfl,.inr ⟨rfl,e⟩,e,rfl,λH'=>.nil⟩
  |cons r t=>simp[isTup] at hb
end
variable [KFrag]
theorem aEz{ρ:aa D}{f:D->D}(h:f .uD=.uD)(j:af):(ρ.map f).getD j .uD=f (ρ.getD j .uD):=by
 rw[b9,b9,gs];cases ρ[j]? with
 |none=>exact h.symm
 |some d=>rfl
theorem aS1(E:ER H σ ρ)(hσ:σ[i]?=ab (ab (.ref a)))(r:Rep All H (.ref a) (.dct ds))(hua:H a=ab u)(hmu:LQ u=ae)(hp:θ (ds.map (·.2))=ae):ER (upd H a (.frz o u)) σ (fzD i ds ρ):=by
 have hna:∀ob,H a=ab ob->RG ob=ae:=λxs z=>by rw[hua] at z;cases z;cases u<;>first|rfl|cases hmu
 intro j hj;unfold fzD at hj ⊢;rw[dF] at hj ⊢;by_cases h:i=j/\i<(ρ.map λd=>if d.pure then d else .uD).length
 ·rw[al h];obtain⟨rfl,_⟩:=h;exact⟨_,hσ,aOg r hua hp⟩
 ·rw[au h] at hj ⊢;rw[aEz 0x3] at hj ⊢;by_cases hpu:(ρ.getD j .uD).pure=ae
  ·rw[al hpu] at hj ⊢;obtain⟨v,h1,h2⟩:=E j hj;exact⟨v,h1,IK hna h2 hpu⟩
  ·rw[au hpu] at hj;exact ay rfl hj
section
variable {x c y:Str}
theorem aF0(S:cH X.N X.env.scope scope [c])(hn:X.N.length=n)(hcalm:X.calm=ae)(hN:X.N[i]?=ab x)(hv:Vis X.env.scope x)(hg:∀y,PG (mkC X scope [c] y) (.Name c cpos) (xM n))(hc:∀y,PT (mkC X scope [c] y) cnd (gT gc))(he:∀y,PE (mkC X scope [c] y) elt (gE fe re))
 (hs:∀z,eB (.Name x np) X.env z=pure z)(ho:own iy=o)(hNn:X.N.Nodup)(hiy:X.N[iy]?=ab y)(hxy:Loc X.env.scope y)(hfy:zFn X y)(hsw:dw (.ListComp elt [⟨.Name c cpos,.Name x np,[cnd],0⟩] scope pos) (ab (.Name y py)) pos2.line X.env=pure ae)
 (hd:nDb x:=by decide)(hcd:nCd x:=by decide) :
  PS X (.Assign [.Name y py] (.ListComp elt [⟨.Name c cpos,.Name x np,[cnd],0⟩] scope pos) pos2) (tS own (cR o iy (aBo n i jL gc fe) ae)):=by
 intro Ψ s σ H Dn I h;obtain⟨ρ,d,E,hcomp,q⟩:=HN ho h;obtain⟨d0,h1,h2⟩:=bB hcomp;obtain⟨v,hσ,r,ed⟩:=E.var h1;split at h2
 ·rename_i ds;split at h2
  ·rename_i hb;rw[aI,aI] at hb;obtain⟨ys,h3,h4⟩:=bB h2;cases h4;obtain⟨a,kvs,u,rfl,hu,hua,hmu,rk⟩:=aS0 r hb.2.1;have hlen:kvs.length=(sX ds).length:=by have:=(rk (P':=All) H).length;simpa using this
   have hlim:(sX ds).length<=lim:=by unfold sX;rw[aw];exact c8 hb.1
   have hno:=aEy I hu;have hσl:σ.length=n:=I.len.trans hn;have tg:=dW n;refine thn (M3 S hcalm (aJm hN hv hd hcd) (λX' cc=>by obtain⟨y,rfl⟩:=iM cc;exact hg y) (λX' cc=>by obtain⟨y,rfl⟩:=iM cc;exact hc y) (λX' cc=>by obtain⟨y,rfl⟩:=iM cc;exact he y) hs hNn hiy hxy hfy hsw Ψ s σ H
    {Dn with nx:=λσ' H'=>∃o,H' a=ab (.frz o u)/\Dn.nx σ' (upd H' a u)} I ⟨a,kvs,u,hσ,hu,hua,λo p hp=>?_⟩) λf s' hq=>?_
   ·have hpa:p≠a:=λz=>by subst z;rw[aK] at hp;cases hp
    have hp0:H p=ai:=by rw[bG hpa] at hp;exact hp
    have EF:ER (upd H a (.frz o u)) σ (fzD i ds ρ):=aS1 E hσ r hua hmu hb.2.2;refine⟨λi' n' vs H'=>n'=kvs.length-i'/\i'<=kvs.length/\H' p=ab (.lst vs)/\b_ (upd H a (.frz o u)) H'/\∃acc,acc.length<=i'/\θ acc=ae/\bT All H' vs acc/\fK (iI n jL gc fe ah (fzD i ds ρ)) acc ((sX ds).drop i')=.ok ys,⟨kvs.length,rfl,cz _,aK,b_.upd hp,[],cz _,rfl,.nil,h3⟩,?_⟩;rintro i' n' vs H' ⟨rfl,hi,hH,sm,acc,hal,pacc,racc,hf⟩;have ea:H' a=ab (.frz o u):=sm a _ aK;refine⟨hH,?_⟩;rcases ke i' kvs.length with hlt|hge
    ·refine .inr ⟨⟨ea,_,d5 hlt⟩,?_,λx H2 hy=>?_⟩
     ·rw[racc.length];exact ui hal (cK (hlen▸hlt) (c9 hlim (by rw[di];decide)))
     ·obtain⟨rfl,pr,hx,rfl⟩:=hy;have hlt2:i'<(sX ds).length:=hlen▸hlt;obtain⟨dx,hdx,rx⟩:=(rk H2).at (i:=i') (v:=kV pr.1) (by simp[hx]);have edx:(sX ds)[i']=dx:=by
       have:=d5 hlt2;rw[hdx] at this;exact(cS this).symm
      rw[oq hlt2,edx] at hf;obtain⟨acc2,hs,hf⟩:=bB hf;obtain⟨bs,hbs,hs⟩:=bB hs;obtain⟨ok,hok,hs⟩:=bB hs;refine tg (kV pr.1) dx bs σ H2 _ hσl rx hbs λσ2 hx2 hbs2=>⟨hx2,?_⟩
      have E2:ER H2 σ2 (G5 n (fzD i ds ρ)++bs):=(EF.same sm).ext hσl hx2 hbs2;refine⟨_,ok,E2,hok,λH4 s4=>?_⟩;cases ok with
      |true=>
       rw[al rfl];rw[al rfl] at hs;obtain⟨yy,hy2,hs⟩:=bB hs;split at hs
       ·rename_i hk;cases hs;have py:yy.pure=ae:=by simpa using hk
        refine⟨_,yy,E2.same s4,hy2,λw H5 s5 r5 n5=>⟨s5 p _ (s4 p _ hH),kvs.length-(i'+1),by lia,rfl,hlt,aK,?_,acc++[yy],?_,vQ pacc py,?_,hf⟩⟩
        ·exact λb ob e=>by
          rw[bG (dI e hp)];exact s5 b ob (s4 b ob (sm b ob e))
        ·rw[bg,xB];lia
        ·have hp5:H5 p=ab (.lst vs):=s5 p _ (s4 p _ hH);have hpn:∀ob,H5 p=ab ob->RG ob=ae:=λxs z=>by rw[hp5] at z;cases z;rfl
         exact zL hpn ((racc.same (s4.trans s5)).snoc r5) (vQ pacc py)
       ·exact bx hs
      |false=>
       rw[au 0x2];rw[au 0x2] at hs;cases hs;exact⟨kvs.length-(i'+1),by lia,rfl,hlt,s4 p _ hH,sm.trans s4,acc,by lia,pacc,racc.same s4,hf⟩
    ·refine .inl ⟨⟨ea,hge⟩,o,ea,?_⟩;rw[ot 0x1] at hf;cases hf;have hna:∀ob,H' a=ab ob->RG ob=ae:=λxs z=>by rw[ea] at z;cases z;rcases hu with h|⟨_,h⟩<;>(rw[hua] at h;cases h;rfl)
     have sF:b_ H (upd H' a u):=λb ob e=>by
      by_cases hba:b=a
      ·subst hba;rw[aK,<-hua];exact e
      ·rw[bG hba];exact sm b ob (by rw[bG hba];exact e)
     have hpF:upd H' a u p=ab (.lst vs):=by rw[bG hpa];exact hH
     have rF:∀{P:ak->Prop},bT P (upd H' a u) vs ys:=λ{P}=>(zL hna racc pacc).bM pacc
     exact q _ _ sF (.lst hpF trivial rF) λ_=>.lst hpF hp0 rF
   ·cases f with
    |next=>
     obtain⟨σ',H',I',o,ea,q'⟩:=hq;exact⟨σ',_,aEx I' ea hno,q'⟩
    |brk=>exact hq
    |cont=>exact hq
    |ret u=>exact hq
  ·exact bx h2
 ·exact bx h2
end
end Mi
namespace Wz
open PySem PySem.Spec
noncomputable abbrev itO(t:ak)(i:af):bf:={cls:=.type "tuple_iterator",data:=.fields #[.ref t,.int i 0]}
noncomputable abbrev tuO(xs:ax aj)(n:af)(dd:ar ak)(sl:ax (ar aj)):bf:={cls:=.type "tuple",dict:=dd,data:=.seq xs n,slots:=sl}
abbrev zpO(f0 f1:aj)(TI TO:ak):bf:={cls:=.type "zip",data:=.fields #[f0,f1,.bool ah,.ref TI,.ref TO]}
noncomputable abbrev prO(a b:aj):bf:={cls:=.type "tuple",data:=.seq #[a,b]}
theorem YS(it t:ak)(i:af)(xs:ax aj)(n:af)(dd:ar ak)(sl:ax (ar aj))(x:aj)(hx:xs[i]?=ab x) :
  ji (de.«tuple_iterator.__next__» ⟨[.ref it],[]⟩) (λ_ R s=>s.heap.get? it=ab (itO t i)/\s.heap.get? t=ab (tuO xs n dd sl)/\R (.ok (.ret x)) {s with heap:=s.heap.update it (Obj.mapFields (·.setIfInBounds 1 (d6 (i+1))))}):=.of_wp λprog w A R s hs=>by
 obtain⟨hp,g,d,tk,os⟩:=s;obtain⟨e1,e2,hq⟩:=hs
 wp_walk
 rw[uq,hx]
 wp_walk
 exact⟨_,rfl,hq⟩
theorem YT(it t:ak)(i:af)(xs:ax aj)(n:af)(dd:ar ak)(sl:ax (ar aj))(hx:xs[i]?=ai) :
  ji (de.«tuple_iterator.__next__» ⟨[.ref it],[]⟩) (λA R s=>A.handled=ai/\s.heap.get? it=ab (itO t i)/\s.heap.get? t=ab (tuO xs n dd sl)/\∀h' e,yu it s.heap h'->(∃o,h'.get? e=ab o/\o.cls=.type "StopIteration")->R (.error (.ref e)) {s with heap:=h'}):=.of_wp λprog w A R s hs=>by
 obtain⟨hp,g,d,tk,os⟩:=s;obtain⟨hh,e1,e2,hq⟩:=hs
 wp_walk
 rw[uq,hx]
 wp_walk
 have hh1:A.in1.handled=ai:=hh;unfold raiseNew
 wp_walk
 exact hq _ _ (((B1 ..).extBut.push _).push _) ⟨_,cx _ rfl,rfl⟩
section
variable {prog:b5} {w:br} {A:cg} {E:aj->ao->Prop} {s:ao} {it t:ak} {i:af} {xs:ax aj} {x:aj} {n:af} {dd:ar ak} {sl:ax (ar aj)}
theorem drawn{Q:aj->ao->Prop}(e1:s.heap.get? it=ab (itO t i))(e2:s.heap.get? t=ab (tuO xs n dd sl))(hx:xs[i]?=ab x)
 (q:∀h',h'.get? it=ab (itO t (i+1))->gj it s.heap h'->Q x {s with heap:=h'}):ϑ (av prog w) A (lg (.ref it)) Q E s:=by
 have ty:s.TypeIs (.ref it) "tuple_iterator":=⟨_,e1,rfl⟩
 refine am (kN ty ur ?_);refine je ur ty B2 (B3 _) (YS it t i xs n dd sl x hx) ⟨e1,e2,aE (q _ ?_ (B1 ..))⟩;exact kh _ e1 rfl
theorem over{Q:aj->ao->Prop}(hh:A.handled=ai)(e1:s.heap.get? it=ab (itO t i))(e2:s.heap.get? t=ab (tuO xs n dd sl))(hx:xs[i]?=ai)
 (q:∀h' e,yu it s.heap h'->(∃o,h'.get? e=ab o/\o.cls=.type "StopIteration")->E (.ref e) {s with heap:=h'}):ϑ (av prog w) A (lg (.ref it)) Q E s:=by
 have ty:s.TypeIs (.ref it) "tuple_iterator":=⟨_,e1,rfl⟩
 refine am (kN ty ur ?_);exact je ur ty B2 (B3 _) (YT it t i xs n dd sl hx) ⟨hh,e1,e2,λh' e k o=>q h' e k o⟩
end
structure Apart(z TI TO i1 i2 l1 l2:ak):Prop where
 zTI:z≠TI
 zTO:z≠TO
 z1:z≠i1
 z2:z≠i2
 zl:z≠l1
 zm:z≠l2
 TT:TI≠TO
 T1:TI≠i1
 T2:TI≠i2
 O1:TO≠i1
 O2:TO≠i2
 Ol:TO≠l1
 Om:TO≠l2
 ij:i1≠i2
 il:i1≠l1
 im:i1≠l2
 jl:i2≠l1
 jm:i2≠l2
structure W(z TI TO i1 i2 l1 l2:ak)(o1 o2:bf)(f0 f1 a b:aj)(k1 k2:af)(h:az):Prop where
 z_:h.get? z=ab (zpO f0 f1 TI TO)
 ti:h.get? TI=ab (prO (.ref i1) (.ref i2))
 to:h.get? TO=ab (prO a b)
 j1:h.get? i1=ab (itO l1 k1)
 j2:h.get? i2=ab (itO l2 k2)
 t1:h.get? l1=ab o1
 t2:h.get? l2=ab o2
section
variable {z TI TO i1 i2 l1 l2:ak} {o1 o2:bf} {f0 f1 g0 g1 a b c d:aj} {k1 k2:af} {h h':az}
theorem W.onZ(x:W z TI TO i1 i2 l1 l2 o1 o2 f0 f1 a b k1 k2 h)(ap:Apart z TI TO i1 i2 l1 l2)(e:h'.get? z=ab (zpO g0 g1 TI TO))(k:gj z h h'):W z TI TO i1 i2 l1 l2 o1 o2 g0 g1 a b k1 k2 h':=
 ⟨e,(k.2 _ ap.zTI.symm).trans x.ti,(k.2 _ ap.zTO.symm).trans x.to,(k.2 _ ap.z1.symm).trans x.j1,(k.2 _ ap.z2.symm).trans x.j2,(k.2 _ ap.zl.symm).trans x.t1,(k.2 _ ap.zm.symm).trans x.t2⟩
theorem W.onT(x:W z TI TO i1 i2 l1 l2 o1 o2 f0 f1 a b k1 k2 h)(ap:Apart z TI TO i1 i2 l1 l2)(e:h'.get? TO=ab (prO c d))(k:gj TO h h'):W z TI TO i1 i2 l1 l2 o1 o2 f0 f1 c d k1 k2 h':=
 ⟨(k.2 _ ap.zTO).trans x.z_,(k.2 _ ap.TT).trans x.ti,e,(k.2 _ ap.O1.symm).trans x.j1,(k.2 _ ap.O2.symm).trans x.j2,(k.2 _ ap.Ol.symm).trans x.t1,(k.2 _ ap.Om.symm).trans x.t2⟩
theorem W.on1{k:af}(x:W z TI TO i1 i2 l1 l2 o1 o2 f0 f1 a b k1 k2 h)(ap:Apart z TI TO i1 i2 l1 l2)(e:h'.get? i1=ab (itO l1 k))(s:gj i1 h h'):W z TI TO i1 i2 l1 l2 o1 o2 f0 f1 a b k k2 h':=
 ⟨(s.2 _ ap.z1).trans x.z_,(s.2 _ ap.T1).trans x.ti,(s.2 _ ap.O1).trans x.to,e,(s.2 _ ap.ij.symm).trans x.j2,(s.2 _ ap.il.symm).trans x.t1,(s.2 _ ap.im.symm).trans x.t2⟩
theorem W.on2{k:af}(x:W z TI TO i1 i2 l1 l2 o1 o2 f0 f1 a b k1 k2 h)(ap:Apart z TI TO i1 i2 l1 l2)(e:h'.get? i2=ab (itO l2 k))(s:gj i2 h h'):W z TI TO i1 i2 l1 l2 o1 o2 f0 f1 a b k1 k h':=
 ⟨(s.2 _ ap.z2).trans x.z_,(s.2 _ ap.T2).trans x.ti,(s.2 _ ap.O2).trans x.to,(s.2 _ ap.ij).trans x.j1,e,(s.2 _ ap.jl.symm).trans x.t1,(s.2 _ ap.jm.symm).trans x.t2⟩
theorem W.up(x:W z TI TO i1 i2 l1 l2 o1 o2 f0 f1 a b k1 k2 h)(k:∀c o,c=z\/c=TI\/c=TO\/c=i1\/c=i2\/c=l1\/c=l2->h.get? c=ab o->h'.get? c=ab o):W z TI TO i1 i2 l1 l2 o1 o2 f0 f1 a b k1 k2 h':=
 ⟨k _ _ 0x2 x.z_,k _ _ 0x2 x.ti,k _ _ 0x2 x.to,k _ _ 0x2 x.j1,k _ _ 0x2 x.j2,k _ _ 0x2 x.t1,k _ _ 0x2 x.t2⟩
end
def aF1(z TO i1 i2:ak)(h h':az):Prop:=∀c o,c≠z->c≠TO->c≠i1->c≠i2->h.get? c=ab o->h'.get? c=ab o
section
variable {s:ao} {z TI TO i1 i2 l1 l2:ak} {f0 f1 a b:aj}
theorem W.ty{o1 o2:bf}{k1 k2:af}(hw:W z TI TO i1 i2 l1 l2 o1 o2 f0 f1 a b k1 k2 s.heap):s.TypeIs (.ref z) "zip":=⟨_,hw.z_,rfl⟩
end
noncomputable abbrev nxt(z:ak):ib yw:=de.«zip.__next__» ⟨[.ref z],[]⟩
abbrev Got(Q:aj->ao->Prop):yw->ao->Prop:=λr t=>∃v,r=.done (.ret v)/\Q v t
section
theorem there(e:s.heap.get? c=ab o)(q:Q (ab o) s):ϑ (av prog w) A (loadIfAlive c) Q E s:=λΓ p _=>by
 show Sem.wp _ Γ (.loadIfAlive c pure) _ _ p s;rw[Sem.wp_loadIfAlive,e];exact q
theorem keptAt(j:af)(v c d:aj)(hw:W z TI TO i1 i2 l1 l2 o1 o2 f0 f1 a b k1 k2 s.heap)(ap:Apart z TI TO i1 i2 l1 l2)(hj:(#[a,b]:ax aj).setIfInBounds j v=#[c,d])
 (q:∀h',W z TI TO i1 i2 l1 l2 o1 o2 f0 f1 c d k1 k2 h'->gj TO s.heap h'->Q () {s with heap:=h'}):ϑ (av prog w) A (lh TO (·.setIfInBounds j v)) Q E s:=
 wpAny_updateSeq_pair hw.to λh' e sb=>q h' (hw.onT ap (by rw[e,hj]) sb) sb
theorem first(ap:Apart z TI TO i1 i2 l1 l2)(hw:W z TI TO i1 i2 l1 l2 (tuO xs n1 d1 s1) (tuO ys n2 d2 s2) .none (.bool ah) a b k k s.heap)(hx:xs[k]?=ab x)(hy:ys[k]?=ab y)
 (q:∀(h':az) (p:ak),W z TI TO i1 i2 l1 l2 (tuO xs n1 d1 s1) (tuO ys n2 d2 s2) (d6 p) (.bool ah) x y (k+1) (k+1) h'->h'.get? p=ab (prO x y)->p=s.heap.objs.size->aF1 z TO i1 i2 s.heap h'->Q (.ref p) {s with heap:=h'}) :
  ϑ (av prog w) A (nxt z) (Got Q) E s:=by
 refine am (m:=ut (.ref z) 2) (fj hw.z_ rfl rfl (am (fj hw.z_ rfl rfl (am (gx hw.ti rfl ?_)))));refine am (am (fj hw.z_ rfl (x:=.none) rfl (aE ?_)));rw[al rfl];refine am (mI (am (fj hw.z_ rfl (x:=.ref TO) rfl (am (mN hw.z_ 0x2 λh1 e1 k1=>?_)))));have w1:W z TI TO i1 i2 l1 l2 (tuO xs n1 d1 s1) (tuO ys n2 d2 s2) .ellipsis (.bool ah) a b k k h1:=hw.onZ ap e1 k1;simp only[B4,B5,n4,k6];refine am (am (am (yx (am (m:=lg (.ref i1)) (drawn w1.j1 w1.t1 hx λh2 e2 k2=>aE ?_)))));have w2:=w1.on1 ap e2 k2;refine am (gx w2.to rfl (am (keptAt 0 x x b w2 ap rfl λh3 w3 k3=>am (ki (aE ?_)))));refine am (am (yx (am (m:=lg (.ref i2)) (drawn w3.j2 w3.t2 hy λh4 e4 k4=>aE ?_))));have w4:=w3.on2 ap e4 k4;refine am (gx w4.to rfl (am (keptAt 1 y x y w4 ap rfl λh5 w5 k5=>am (ki (aE (aE ?_))))));have sd:aF1 z TO i1 i2 s.heap h5:=λc o c1 c2 c3 c4 e=>(k5.2 c c2).trans ((k4.2 c c4).trans ((k3.2 c c2).trans ((k2.2 c c3).trans ((k1.2 c c1).trans e))))
 have sz:h5.objs.size=s.heap.objs.size:=by rw[k5.1,k4.1,k3.1,k2.1,k1.1]
 refine am (gx w5.to rfl (am (yj ?_)));have w6:W z TI TO i1 i2 l1 l2 (tuO xs n1 d1 s1) (tuO ys n2 d2 s2) .ellipsis (.bool ah) x y (k+1) (k+1) (h5.push (prO x y)):=w5.up λc o _ e=>bw _ e
 refine am (m:=DZ (.ref z) (.ref h5.objs.size)) (am (mN w6.z_ 0x2 λh7 e7 k7=>?_));have w7:W z TI TO i1 i2 l1 l2 (tuO xs n1 d1 s1) (tuO ys n2 d2 s2) (d6 h5.objs.size) (.bool ah) x y (k+1) (k+1) h7:=w6.onZ ap e7 k7;refine mN w7.z_ 0x2 λh8 e8 k8=>aE ⟨_,rfl,?_⟩
 have w8:W z TI TO i1 i2 l1 l2 (tuO xs n1 d1 s1) (tuO ys n2 d2 s2) (d6 h5.objs.size) (.bool ah) x y (k+1) (k+1) h8:=w7.onZ ap e8 k8;have nz:h5.objs.size≠z:=ic (bz w5.z_);exact q h8 _ w8 ((k8.2 _ nz).trans ((k7.2 _ nz).trans (cx _ rfl))) sz λc o c1 c2 c3 c4 e=>(k8.2 c c1).trans ((k7.2 c c1).trans (bw _ (sd c o c1 c2 c3 c4 e)))
theorem aF2(hh:A.handled=ai)(ap:Apart z TI TO i1 i2 l1 l2)(hw:W z TI TO i1 i2 l1 l2 (tuO xs n1 d1 s1) (tuO ys n2 d2 s2) .none (.bool ah) a b k k s.heap)(hx:xs[k]?=ai)
 (q:∀h' e,aF1 z TO i1 i2 s.heap h'->(∃o,h'.get? e=ab o/\o.cls=.type "StopIteration")->E (.ref e) {s with heap:=h'}) :
  ϑ (av prog w) A (nxt z) Q E s:=by
 refine am (m:=ut (.ref z) 2) (fj hw.z_ rfl rfl (am (fj hw.z_ rfl rfl (am (gx hw.ti rfl ?_)))));refine am (m:=yz (.ref z)) (am (fj hw.z_ rfl (x:=.none) rfl (aE ?_)));rw[al rfl];refine am (mI (am (fj hw.z_ rfl (x:=.ref TO) rfl (am (mN hw.z_ 0x2 λh1 e1 k1=>?_)))));have w1:W z TI TO i1 i2 l1 l2 (tuO xs n1 d1 s1) (tuO ys n2 d2 s2) .ellipsis (.bool ah) a b k k h1:=hw.onZ ap e1 k1;simp only[B4,B5,n4,k6];refine am (am (am (yx (am (m:=lg (.ref i1)) (over hh w1.j1 w1.t1 hx λh2 e k2 he=>?_)))));obtain⟨oe,he,hc⟩:=he;have ez:h2.get? z=ab (zpO .ellipsis (.bool ah) TI TO):=k2 _ _ ap.z1 w1.z_;have hez:e≠z:=λv=>by
  rw[v,ez] at he;cases he;exact ay (show fN "zip"=fN "StopIteration" from hc) 0x4
 exact mN ez 0x2 λh3 _ k3=>q h3 e (λc o c1 _ c3 _ v=>(k3.2 c c1).trans (k2 c o c3 ((k1.2 c c1).trans v))) ⟨oe,(k3.2 e hez).trans he,hc⟩
theorem taken{T:ak}(ap:Apart z TI TO i1 i2 l1 l2)(hw:W z TI TO i1 i2 l1 l2 o1 o2 (d6 T) (.bool bb) a b k1 k2 s.heap)(hT:s.heap.get? T=ab oT)
 (q:∀h',W z TI TO i1 i2 l1 l2 o1 o2 (d6 T) (.bool ae) a b k1 k2 h'->gj z s.heap h'->Q ah {s with heap:=h'}):ϑ (av prog w) A (yz (.ref z)) Q E s:=by
 refine am (fj hw.z_ rfl rfl (am (there hT ?_)));refine am (fj hw.z_ rfl rfl ?_);cases bb
 ·exact am (mN hw.z_ 0x2 λh1 e1 k1=>aE (q h1 (hw.onZ ap e1 k1) k1))
 ·exact aE (q _ hw (D0 _ _))
theorem more{T:ak}{bb:aq}{oT:bf}{Q:aj->ao->Prop}(ap:Apart z TI TO i1 i2 l1 l2)(hw:W z TI TO i1 i2 l1 l2 (tuO xs n1 d1 s1) (tuO ys n2 d2 s2) (d6 T) (.bool bb) a b k k s.heap)(hT:s.heap.get? T=ab oT)(hx:xs[k]?=ab x)(hy:ys[k]?=ab y)
 (q:∀h' p,W z TI TO i1 i2 l1 l2 (tuO xs n1 d1 s1) (tuO ys n2 d2 s2) (d6 T) (.bool ae) a b (k+1) (k+1) h'->h'.get? p=ab (prO x y)->aF1 z TO i1 i2 s.heap h'->Q (.ref p) {s with heap:=h'}) :
  ϑ (av prog w) A (nxt z) (Got Q) E s:=by
 refine am (m:=ut (.ref z) 2) (fj hw.z_ rfl rfl (am (fj hw.z_ rfl rfl (am (gx hw.ti rfl ?_)))));refine am (m:=yz (.ref z)) (taken ap hw hT λh1 w1 k1=>?_);rw[au nB];dsimp only;rw[<-B6];simp only[n4,k6];refine am (am (am (fq (am (m:=lg (.ref i1)) (drawn w1.j1 w1.t1 hx λh2 e2 k2=>aE (aE ?_))))));have w2:=w1.on1 ap e2 k2;refine am (am (fq (am (m:=lg (.ref i2)) (drawn w2.j2 w2.t2 hy λh3 e3 k3=>aE (aE (aE ?_))))));have w3:=w2.on2 ap e3 k3;refine am (yj (aE ⟨_,rfl,?_⟩) (hsz:=by show(2:af)<=ba;decide));exact q _ _ (w3.up λc o _ e=>bw _ e) (cx _ rfl) λc o c1 c2 c3 c4 e=>bw _ ((k3.2 c c4).trans ((k2.2 c c3).trans ((k1.2 c c1).trans e)))
theorem aJn{T:ak}{bb:aq}{oT:bf}{Q:Fin->ao->Prop}(hh:A.handled=ai)(ap:Apart z TI TO i1 i2 l1 l2)(hw:W z TI TO i1 i2 l1 l2 (tuO xs n1 d1 s1) (tuO ys n2 d2 s2) (d6 T) (.bool bb) a b k k s.heap)(hT:s.heap.get? T=ab oT)(hx:xs[k]?=ai)
 (q:∀h' e,aF1 z TO i1 i2 s.heap h'->(∃o,h'.get? e=ab o/\o.cls=.type "StopIteration")->E (.ref e) {s with heap:=h'}) :
  ϑ (av prog w) A (nxt z) Q E s:=by
 refine am (m:=ut (.ref z) 2) (fj hw.z_ rfl rfl (am (fj hw.z_ rfl rfl (am (gx hw.ti rfl ?_)))));refine am (taken ap hw hT λh1 w1 k1=>?_);rw[au nB];dsimp only;rw[<-B6];simp only[n4,k6];exact am (am (am (fq (am (over hh w1.j1 w1.t1 hx λh2 e k2 he=>q h2 e (λc o c1 _ c3 _ v=>k2 c o c3 ((k1.2 c c1).trans v)) he)))))
end
theorem five(h:az)(a b c d e:bf)(fa:a.isFreed=ah)(fb:b.isFreed=ah)(fc:c.isFreed=ah)(fd:d.isFreed=ah)(fe:e.isFreed=ah) :
  (((((h.push a).push b).push c).push d).push e).get? h.objs.size=ab a/\(((((h.push a).push b).push c).push d).push e).get? (h.objs.size+1)=ab b/\(((((h.push a).push b).push c).push d).push e).get? (h.objs.size+2)=ab c/\(((((h.push a).push b).push c).push d).push e).get? (h.objs.size+3)=ab d/\(((((h.push a).push b).push c).push d).push e).get? (h.objs.size+4)=ab e/\
  (∀x o,h.get? x=ab o->(((((h.push a).push b).push c).push d).push e).get? x=ab o)/\(((((h.push a).push b).push c).push d).push e).objs.size=h.objs.size+5:=by
 have z1:(h.push a).objs.size=h.objs.size+1:=dE ..;have z2:((h.push a).push b).objs.size=h.objs.size+2:=(dE ..).trans (by rw[z1]);have z3:(((h.push a).push b).push c).objs.size=h.objs.size+3:=(dE ..).trans (by rw[z2]);have z4:((((h.push a).push b).push c).push d).objs.size=h.objs.size+4:=(dE ..).trans (by rw[z3]);have up:∀{h:az}{x:ak}{o q:bf},h.get? x=ab o->(h.push q).get? x=ab o:=λe=>bw _ e
 have g2:=cx (h.push a) (o:=b) fb;have g3:=cx ((h.push a).push b) (o:=c) fc;have g4:=cx (((h.push a).push b).push c) (o:=d) fd;have g5:=cx ((((h.push a).push b).push c).push d) (o:=e) fe;rw[z1] at g2;rw[z2] at g3;rw[z3] at g4;rw[z4] at g5;exact⟨up (up (up (up (cx h fa)))),up (up (up g2)),up (up g3),up g4,g5,λx o q=>up (up (up (up (up q)))),(dE ..).trans (by rw[z4])⟩
theorem aBs(t u:ak)(xs ys:ax aj) :
  ji (de.«zip.__new__» ⟨[.type "zip",.ref t,.ref u],[]⟩) (λ_ R s=>s.heap.IsTuple t xs/\s.heap.IsTuple u ys/\∀h' n,n=s.heap.objs.size->h'.get? n=ab (itO t 0)->h'.get? (n+1)=ab (itO u 0)->h'.get? (n+2)=ab (prO (.ref n) (.ref (n+1)))->h'.get? (n+3)=ab (prO .none .none)->h'.get? (n+4)=ab (zpO .none (.bool ah) (n+2) (n+3))->
   (∀x o,s.heap.get? x=ab o->h'.get? x=ab o)->h'.objs.size=n+5->R (.ok (.ret (.ref (n+4)))) {s with heap:=h'}):=
 .of_wp λprog w A R s hs=>by
  obtain⟨hp,g,d,tk,os⟩:=s;obtain⟨ht,hu,q⟩:=hs;have sub:=sub_zip;have p1:uv (ux ⟨hp,g,d,tk,os⟩) t xs:=ht;have p2:uv (ux ⟨hp.push {cls:=.type "tuple_iterator",data:=.fields #[.ref t,.int 0 0]},g,d,tk,os⟩) u ys:=D1 hu _;have f:=five hp (itO t 0) (itO u 0) (prO (.ref hp.objs.size) (.ref (hp.objs.size+1))) (prO .none .none) (zpO .none (.bool ah) (hp.objs.size+2) (hp.objs.size+3)) rfl rfl rfl rfl rfl
  wp_walk using iP p1,iP p2
  refine⟨_,rfl,?_⟩;have fin:=q _ hp.objs.size rfl f.1 f.2.1 f.2.2.1 f.2.2.2.1 f.2.2.2.2.1 f.2.2.2.2.2.1 f.2.2.2.2.2.2;have gen:∀m1 m2 m3 m4:af,m1=hp.objs.size+1->m2=hp.objs.size+2->m3=hp.objs.size+3->m4=hp.objs.size+4->R (.ok (.ret (.ref m4))) ⟨((((hp.push (itO t 0)).push (itO u 0)).push (prO (.ref hp.objs.size) (.ref m1))).push (prO .none .none)).push (zpO .none (.bool ah) m2 m3),g,d,tk,os⟩:=by
   intro m1 m2 m3 m4 q1 q2 q3 q4;subst q1 q2 q3 q4;exact fin
  exact gen _ _ _ _ (dE ..) ((dE ..).trans (cy (·+1) (dE ..))) ((dE ..).trans (cy (·+1) ((dE ..).trans (cy (·+1) (dE ..))))) ((dE ..).trans (cy (·+1) ((dE ..).trans (cy (·+1) ((dE ..).trans (cy (·+1) (dE ..)))))))
section
variable {prog:b5} {w:br} {A:cg} {E:aj->ao->Prop} {s:ao}
theorem aOh{t u:ak}{xs ys:ax aj}{Q:aj->ao->Prop}(ht:s.heap.IsTuple t xs)(hu:s.heap.IsTuple u ys)
 (q:∀h' n,n=s.heap.objs.size->h'.get? n=ab (itO t 0)->h'.get? (n+1)=ab (itO u 0)->h'.get? (n+2)=ab (prO (.ref n) (.ref (n+1)))->h'.get? (n+3)=ab (prO .none .none)->h'.get? (n+4)=ab (zpO .none (.bool ah) (n+2) (n+3))->
   (∀x o,s.heap.get? x=ab o->h'.get? x=ab o)->h'.objs.size=n+5->Q (.ref (n+4)) {s with heap:=h'}) :
  ϑ (av prog w) A (call (.type "zip") [.ref t,.ref u]) Q E s:=
 B7 F.called_zip 0x4 (F.typeCall_zip_2 _ _) (F.newCall_zip_2 _ _) (λobj=>F.args_object_init_3 obj _ _) F.entry_zip_new (aBs t u xs ys)
  ⟨ht,hu,λh' n e a1 a2 a3 a4 a5 k z=>⟨⟨_,a5,rfl⟩,q h' n e a1 a2 a3 a4 a5 k z⟩⟩
end
theorem M6:jI (.type "zip") "keys"=pure ai:=by rw[kj,ko];kernel_rfl
theorem noGet:jI (.type "zip") "__getattr__"=pure ai:=by rw[kj,ko];kernel_rfl
theorem M7:ox oy "zip.__getattribute__"=ab de.«object.__getattribute__»:=yA (id':= "object.__getattribute__") 0x8 0x6 0x6 0x8
theorem j4(a:ak)(f0 f1:aj)(TI TO:ak)(u:dP):ji (de.«object.__getattribute__» ⟨[.ref a,.str "keys" u],[]⟩) (λA R s=>s.heap.get? a=ab (zpO f0 f1 TI TO)/\yB (.ref a) "keys" A R s):=.of_wp λprog w A R s hs=>by
 obtain⟨hp,g,d,tk,os⟩:=s;obtain⟨e,hh,q⟩:=hs;have ty:(⟨hp,g,d,tk,os⟩:ao).TypeIs (.ref a) "zip":=⟨_,e,rfl⟩
 have no:=M6
 wp_walk
 exact yT hh q (yY 0x6 (by size_fits))
section
variable {prog:b5} {w:br} {A:cg} {E:aj->ao->Prop} {hp:az} {g:ax mP} {d:mS} {tk:af} {os:mT} {a TI TO:ak} {f0 f1:aj}
theorem gone{u:dP}{kw:aa (Str×aj)}{Q:aj->ao->Prop}(e:hp.get? a=ab (zpO f0 f1 TI TO))(hh:A.handled=ai)(hk:kw=[])(q:∀h' tk' x,za hp h' x (.ref a) "keys"->E (.ref x) ⟨h',g,d,tk',os⟩) :
  ϑ (av prog w) A (call (.builtin "zip.__getattribute__") ([.ref a]++[.str "keys" u]) kw) Q E ⟨hp,g,d,tk,os⟩:=by
 subst hk;exact je zb ⟨_,e,rfl⟩ M7 (F.args_zip_getattribute_2 _ _) (j4 a f0 f1 TI TO u) ⟨e,hh,λh' tk' x hx=>q h' tk' x hx⟩
theorem lacks{Q:ar aj->ao->Prop}(e:hp.get? a=ab (zpO f0 f1 TI TO))(hh:A.handled=ai)(q:∀h' tk',(∀b o,hp.get? b=ab o->h'.get? b=ab o)->Q ai ⟨h',g,d,tk',os⟩):ϑ (av prog w) A (uy (.ref a) "keys") Q E ⟨hp,g,d,tk,os⟩:=by
 have ty:∀tk',(⟨hp,g,d,tk',os⟩:ao).TypeIs (.ref a) "zip":=λ_=>⟨_,e,rfl⟩
 have f3:=zb.lookup;have f4:=zb.bind (.ref a);have f5:=noGet;have sub:=zc
 wp_walk using gone e hh
 case hk=>rfl
 intro h' tk' x hx;obtain⟨t,u,ex⟩:=hx.there;show ϑ _ _ (zd _ _ _ _ _ _ _) _ _ _
 wp_walk
 exact q _ _ hx.keeps
end
def ZS(z TI TO i1 i2 l1 l2:ak)(o1 o2:bf)(k:af)(h:az):Prop:=∃f0 f1 a b,W z TI TO i1 i2 l1 l2 o1 o2 f0 f1 a b k k h/\
 ((f0=.none/\f1=.bool ah)\/∃(T:ak)(bb:aq)(u v:aj),f0=d6 T/\f1=.bool bb/\h.get? T=ab (prO u v)/\T≠z/\T≠TO/\T≠i1/\T≠i2)
section
variable {prog:b5} {w:br} {A:cg} {E:aj->ao->Prop} {s:ao} {z TI TO i1 i2 l1 l2 d:ak} {n1 n2:af} {d1 d2:ar ak} {s1 s2:ax (ar aj)} {x y:aj} {k:af} {xs ys:ax aj}
theorem apart{h:az}{c d:ak}{o od:bf}{T:eh}(e:h.get? c=ab o)(hc:o.cls=.type T)(ed:h.get? d=ab od)(hd:od.cls=.type "dict")(ne:(fN T==fN "dict")=ah):c≠d:=λq=>by
 subst q;rw[e] at ed;cases ed;rw[hc] at hd;rw[hd] at ne;simp at ne
theorem ZS.keep{h h':az}{od:bf}(Z:ZS z TI TO i1 i2 l1 l2 (tuO xs n1 d1 s1) (tuO ys n2 d2 s2) k h)(ed:h.get? d=ab od)(hd:od.cls=.type "dict")(e:∀c o,c≠d->h.get? c=ab o->h'.get? c=ab o):ZS z TI TO i1 i2 l1 l2 (tuO xs n1 d1 s1) (tuO ys n2 d2 s2) k h':=by
 obtain⟨f0,f1,a,b,hw,hf⟩:=Z;refine⟨f0,f1,a,b,⟨e _ _ (apart hw.z_ rfl ed hd 0x4) hw.z_,e _ _ (apart hw.ti rfl ed hd 0x4) hw.ti,e _ _ (apart hw.to rfl ed hd 0x4) hw.to,e _ _ (apart hw.j1 rfl ed hd 0x4) hw.j1,e _ _ (apart hw.j2 rfl ed hd 0x4) hw.j2,e _ _ (apart hw.t1 rfl ed hd 0x4) hw.t1,e _ _ (apart hw.t2 rfl ed hd 0x4) hw.t2⟩,?_⟩;rcases hf with hf|⟨T,bb,u,v,h1,h2,h3,h4⟩
 ·exact .inl hf
 ·exact .inr ⟨T,bb,u,v,h1,h2,e _ _ (apart h3 rfl ed hd 0x4) h3,h4⟩
theorem aJo{Q:ar aj->ao->Prop}(ap:Apart z TI TO i1 i2 l1 l2)(Z:ZS z TI TO i1 i2 l1 l2 (tuO xs n1 d1 s1) (tuO ys n2 d2 s2) k s.heap)(hx:xs[k]?=ab x)(hy:ys[k]?=ab y)
 (q:∀h' p,ZS z TI TO i1 i2 l1 l2 (tuO xs n1 d1 s1) (tuO ys n2 d2 s2) (k+1) h'->h'.get? p=ab (prO x y)->aF1 z TO i1 i2 s.heap h'->Q (ab (.ref p)) {s with heap:=h'}):ϑ (av prog w) A (gN (.ref z)) Q E s:=by
 obtain⟨f0,f1,a,b,hw,hf⟩:=Z;refine am (B8 (kN hw.ty uz (nN uz hw.ty B9 ?_ (Ca _))));rcases hf with ⟨rfl,rfl⟩|⟨T,bb,u,v,rfl,rfl,hT,t1,t2,t3,t4⟩
 ·refine first ap hw hx hy λh' p w' ep pp sd=>aE (q h' p ⟨_,_,_,_,w',.inr ⟨p,ah,x,y,rfl,rfl,ep,?_⟩⟩ ep sd)
  subst pp;have lt:∀{c o},s.heap.get? c=ab o->s.heap.objs.size≠c:=λe=>ic (bz e)
  exact⟨lt hw.z_,lt hw.to,lt hw.j1,lt hw.j2⟩
 ·exact more ap hw hT hx hy λh' p w' ep sd=>aE (q h' p ⟨_,_,_,_,w',.inr ⟨T,ae,u,v,rfl,rfl,sd _ _ t1 t2 t3 t4 hT,t1,t2,t3,t4⟩⟩ ep sd)
theorem aOi{Q:ar aj->ao->Prop}(hh:A.handled=ai)(ap:Apart z TI TO i1 i2 l1 l2)(Z:ZS z TI TO i1 i2 l1 l2 (tuO xs n1 d1 s1) (tuO ys n2 d2 s2) k s.heap)(hx:xs[k]?=ai)
 (q:∀h',aF1 z TO i1 i2 s.heap h'->Q ai {s with heap:=h'}):ϑ (av prog w) A (gN (.ref z)) Q E s:=by
 obtain⟨f0,f1,a,b,hw,hf⟩:=Z;refine am (B8 (kN hw.ty uz (nN uz hw.ty B9 ?_ (Ca _))));have stop:∀h' e,aF1 z TO i1 i2 s.heap h'->(∃o,h'.get? e=ab o/\o.cls=.type "StopIteration")->ϑ (av prog w) A (do if <- isInstance (.ref e) (.type "StopIteration") then pure ai else throw (.ref e)) Q E {s with heap:=h'}:=λh' e sd he=>am (Cb (T:= "StopIteration") (b:=ae) he isSubtype_stop (aE (q h' sd)))
 rcases hf with ⟨rfl,rfl⟩|⟨T,bb,u,v,rfl,rfl,hT,_⟩
 ·exact aF2 hh ap hw hx λh' e sd he=>stop h' e sd he
 ·exact aJn hh ap hw hT hx λh' e sd he=>stop h' e sd he
end
theorem uT:ox oy "dict.update.loop"=ab de.«dict.update.loop»:=entryFor_of_tree 0x8
section
variable {prog:b5} {w:br} {K:Type} [cr K] {knd:KeyKind prog w K} {A:cg} {R:Except aj Flow->ao->Prop} {z TI TO i1 i2 l1 l2 d:ak} {n1 n2:af} {d1 d2:ar ak} {s1 s2:ax (ar aj)} {xs ys:ax aj} {ks:aa K}
theorem I_(hh:A.handled=ai)(ap:Apart z TI TO i1 i2 l1 l2)(hdz:d≠z)(hdT:d≠TO)(hd1:d≠i1)(hd2:d≠i2)(hsz:ys.size=xs.size)(hk:∀(i:af) (x:aj),xs[i]?=ab x->∃k,ks[i]?=ab k/\knd.is k x=ae) :
  ∀(m k:af)(s:ao)(kvs:aa (K×aj)),k+m=xs.size->kvs.length+m<=ba->ZS z TI TO i1 i2 l1 l2 (tuO xs n1 d1 s1) (tuO ys n2 d2 s2) k s.heap->s.heap.DictOf knd d kvs->
  (∀h' tk,h'.DictOf knd d (kb kvs ((ks.zip ys.toList).drop k))->(∀c o,c≠d->c≠z->c≠TO->c≠i1->c≠i2->s.heap.get? c=ab o->h'.get? c=ab o)->R (.ok (.ret .none)) {s with heap:=h',toks:=tk})->
  codeAny (av prog w) A (.builtin "dict.update.loop" ⟨[.ref d,.ref z,d6 k,.none],[]⟩) R s:=by
 intro m;induction m with
 |zero=>
  intro k s kvs hkm hl Z hd q;refine iS uT ?_;rw[jn (show oz "dict.update.loop"=ae by decide +kernel) _];refine am (m:=gN (.ref z)) (aOi hh ap Z (uo 0x1) λh' kp=>?_);refine am (m:=ze d []) ?_;unfold ze;rw[k6];refine am (aE (aE (aE ?_)));have e:(ks.zip ys.toList).drop k=[]:=ot (by rw[Cc];have:ys.toList.length=ys.size:=lS;lia);rw[e] at q;obtain⟨o,es,ep,ho,r⟩:=hd;exact q _ s.toks ⟨o,es,ep,kp d o hdz hdT hd1 hd2 ho,r⟩ λc o _ c1 c2 c3 c4 e=>kp c o c1 c2 c3 c4 e
 |succ m ih=>
  intro k s kvs hkm hl Z hd q;have hlt:k<xs.size:=by lia
  have hlt2:k<ys.size:=by lia
  have hx:xs[k]?=ab xs[k]:=um hlt;have hy:ys[k]?=ab ys[k]:=um hlt2;obtain⟨key,hkey,his⟩:=hk k _ hx;refine iS uT ?_;rw[jn (show oz "dict.update.loop"=ae by decide +kernel) _];refine am (m:=gN (.ref z)) (aJo ap Z hx hy λh' p Z' hp kp=>?_);refine am (fq (am (ng ?_)));refine am (jy (T:= "tuple") ⟨_,hp,rfl⟩ ?_);rw[al 0x4];refine am (gx hp rfl (aE ?_));show ϑ _ _ (i9 [xs[k],ys[k]] (dictSet d xs[k] ys[k])) _ _ _;have hd':h'.DictOf knd d kvs:=let ⟨o,es,ep,ho,r⟩:=hd;⟨o,es,ep,kp d o hdz hdT hd1 hd2 ho,r⟩
  obtain⟨od,es,ep,ho,hc,_⟩:=id hd';refine fq (Cd his hd' (λh2 hd2' sb=>?_) 0x1);refine aE ⟨oB _ 0x6,?_⟩;have ek:(d6 (k+1):aj)=d6 ((k+1:af):ag):=rfl;rw[ek];have hzip:(ks.zip ys.toList).drop k=(key,ys[k])::(ks.zip ys.toList).drop (k+1):=by
   have hlz:(ks.zip ys.toList)[k]?=ab (key,ys[k]):=by
    rw[List.getElem?_zip_eq_some];exact⟨hkey,by rw[sP];exact hy⟩
   obtain⟨h1,h2⟩:=dj.mp hlz;rw[oq h1,h2]
  have ls:(jg kvs key ys[k]).length<=kvs.length+1:=by
   unfold jg;split
   ·rw[aw];lia
   ·rw[bg];exact aT _
  refine ih (k+1) _ (jg kvs key ys[k]) 0x1 0x1 (Z'.keep ho hc.1 λc o hcd e=>(sb.2 c hcd).trans e) hd2' λh3 tk hd3 kp3=>?_
  refine q h3 tk (by rw[hzip];exact hd3) λc o c0 c1 c2 c3 c4 e=>kp3 c o c0 c1 c2 c3 c4 ((sb.2 c c0).trans (kp c o c1 c2 c3 c4 e))
end
section
variable {prog:b5} {w:br} {K:Type} [cr K] {knd:KeyKind prog w K} {A:cg} {E:aj->ao->Prop} {hp:az} {g:ax mP} {dr:mS} {tk:af} {os:mT} {z TI TO i1 i2 l1 l2:ak} {n1 n2:af} {d1 d2:ar ak} {s1 s2:ax (ar aj)} {xs ys:ax aj} {ks:aa K}
theorem aF3{Q:aj->ao->Prop}(hh:A.handled=ai)(ap:Apart z TI TO i1 i2 l1 l2){a b:aj}(hw:W z TI TO i1 i2 l1 l2 (tuO xs n1 d1 s1) (tuO ys n2 d2 s2) .none (.bool ah) a b 0 0 hp)(hsz:ys.size=xs.size)(hxs:xs.size<=1000)(hk:∀(i:af) (x:aj),xs[i]?=ab x->∃k,ks[i]?=ab k/\knd.is k x=ae)
 (q:∀h' tk',h'.DictOf knd hp.objs.size (kb [] (ks.zip ys.toList))->aF1 z TO i1 i2 hp h'->Q (.ref hp.objs.size) ⟨h',g,dr,tk',os⟩) :
  ϑ (av prog w) A (call (.type "dict") [.ref z]) Q E ⟨hp,g,dr,tk,os⟩:=by
 have hnew:(hp.push {cls:=.type "dict",data:=.dict #[]}).DictOf knd hp.objs.size []:=xI hp;have up:∀c o,hp.get? c=ab o->(hp.push {cls:=.type "dict",data:=.dict #[]}).get? c=ab o:=λc o e=>bw _ e
 have lt:∀{c o},hp.get? c=ab o->hp.objs.size≠c:=λe=>ic (bz e)
 refine zf (Q₁:=λv s₁=>v=.ref hp.objs.size/\s₁=⟨hp.push {cls:=.type "dict",data:=.dict #[]},g,dr,tk,os⟩) Ce (Cf _) Cg (Ci _ ⟨rfl,rfl⟩) λv s₁ hv=>?_
 obtain⟨rfl,rfl⟩:=hv;have ty:(⟨hp.push {cls:=.type "dict",data:=.dict #[]},g,dr,tk,os⟩:ao).TypeIs (.ref hp.objs.size) "dict":=hnew.typeIs;have ez:=up _ _ hw.z_;have tz:(⟨hp.push {cls:=.type "dict",data:=.dict #[]},g,dr,tk,os⟩:ao).TypeIs (.ref z) "zip":=⟨_,ez,rfl⟩
 refine⟨ty,Cj _ _,am (m:=D2 "__init__" _) (am (Ck ty (aE ?_)))⟩;refine am (m:=mj (.ref z)) (jy tz ?_);rw[al 0x4];refine am (lacks ez hh λh' tk' kp=>?_);rw[al (show(ai:ar aj).isNone=ae from rfl)];refine am (mI (am (wpAny_pyIter_zip (TI:=TI) (TO:=TO) (f0:=.none) (kp _ _ ez) (aE ⟨oB _ 0x6,?_⟩))));have hd':h'.DictOf knd hp.objs.size []:=let ⟨o,es,ep,ho,r⟩:=hnew;⟨o,es,ep,kp _ _ ho,r⟩
 refine I_ (A:=A.in1) (ks:=ks) (show A.in1.handled=ai from hh) ap (lt hw.z_) (lt hw.to) (lt hw.j1) (lt hw.j2) hsz hk xs.size 0 ⟨h',g,dr,tk',os⟩ [] 0x1 (by rw[fw,di];lia) ⟨_,_,_,_,hw.up λc o _ e=>kp c o (up c o e),.inl ⟨rfl,rfl⟩⟩ hd' λh2 tk2 hd2 kp2=>?_
 exact⟨rfl,q h2 tk2 hd2 λc o c1 c2 c3 c4 e=>kp2 c o (λx=>lt e x.symm) c1 c2 c3 c4 (kp c o (up c o e))⟩
end
end Wz
namespace Mi
open PySem L2 PySem.SeqAt PySem.Spec PyProof.Rows
section
variable [KFrag]
theorem boot_zip:dA "zip"=ab (.type "zip"):=0x6
theorem JB:dA "dict"=ab (.type "dict"):=0x6
theorem aBt{pr:b5}:∀{vs:aa V}{us:aa aj}{ds:aa D},bT P H vs ds->Vals vs us->ds.all mV=ae->∃ks:aa Key,ks.map kD=ds/\ks.length=us.length/\∀(i:af)(u:aj),us[i]?=ab u->∃k,ks[i]?=ab k/\(cL pr w).is k u=ae
 |_,_,_,.nil,.nil,_=>⟨[],rfl,rfl,λi u h=>by simp at h⟩
 |v::vs,u::us,d::ds,.cons r t,.cons rv tv,h=>by
  rw[hZ,aI] at h;obtain⟨ks,h1,h2,h3⟩:=aBt t tv h.2;obtain⟨k,hk1,hk2⟩:∃k:Key,kD k=d/\(cL pr w).is k u=ae:=by
   cases r with
   |int i=>exact⟨.inl i,rfl,yM rv⟩
   |str x=>exact⟨.inr x,rfl,yM rv⟩
   |_=>cases h.1
  refine⟨k::ks,by rw[bd,hk1,h1],by rw[aS,aS,h2],λi u' hu=>?_⟩;cases i with
  |zero=>simp at hu;subst hu;exact⟨k,rfl,hk2⟩
  |succ i=>exact h3 i u' (by simpa using hu)
theorem JC(r:Rep P H v d):∀{kvs:aa (Key×V)}{ds:aa (D×D)},iJ P H kvs ds->(kvs.map (·.1)).Nodup->iJ P H (putK kvs k v) (putD ds (kD k) d)
 |_,_,.nil,_=>.cons r .nil
 |_,_,.cons (k:=k') r' t,hn=>by
  rw[bd,c_] at hn;rw[putD,aBb];by_cases h:k'=k
  ·rw[HQ h (by rw[<-h];exact hn.1),al (bh h),h];exact .cons r t
  ·rw[HR h,au (by simpa using h)];exact .cons r' (JC r t hn.2)
theorem V7:∀{ks:aa Key}{vs:aa V}{ds:aa D}{kvs:aa (Key×V)}{es:aa (D×D)},bT P H vs ds->iJ P H kvs es->(kvs.map (·.1)).Nodup->iJ P H (dY kvs (ks.zip vs)) (wL (ks.map kD) ds es)/\((dY kvs (ks.zip vs)).map (·.1)).Nodup
 |[],_,_,_,_,_,r,n=>by
  rw[yd];exact⟨by cases ‹aa D›<;>exact r,n⟩
 |k::ks,_,_,kvs,es,.nil,r,n=>⟨r,n⟩
 |k::ks,_,_,kvs,es,.cons rv tv,r,n=>V7 (ks:=ks) tv (JC rv r n) (jZ n)
theorem aOj(r:Vals vs us):∀ks:aa Key,KV (ks.zip vs) (ks.zip us):=by
 induction r with
 |nil=>intro ks;rw[tP,tP];exact .nil
 |cons h t ih=>
  intro ks;cases ks with
  |nil=>exact .nil
  |cons k ks=>exact .cons ⟨rfl,h⟩ (ih ks)
theorem aBu{n l m:af}(hl:l<n)(hm:m<n):Wz.Apart (n+4) (n+2) (n+3) n (n+1) l m:=by
 constructor<;>(intro h;replace h:@Eq af _ _:=h;lia)
section
theorem aJp(hg:Gl X "dict")(hm:X.mg "dict"=ai)(hg2:Gl X "zip")(hm2:X.mg "zip"=ai)(ha:PA X [a,b] (gA fs rr))(hc:X.calm=ae:=by rfl)(hs2:bP [a,b] X.env=(ah,bc a X.env)::bP [b] X.env:=by rfl)(hpl2:(iw pos2 (bP [b] X.env)).any (·.1)=ah:=by rfl)
 (hs:bP [.Call (.Name "zip" p2) [a,b] [] pos2] X.env=(ah,bc (.Call (.Name "zip" p2) [a,b] [] pos2) X.env)::bP [] X.env:=by rfl) :
  PE X (.Call (.Name "dict" p) [.Call (.Name "zip" p2) [a,b] [] pos2] [] pos) (gE (aN E_ fs) ae):=by
 rintro Ψ s σ H Q I ⟨ρ,d,E,h,q⟩;obtain⟨xs,h1,h2⟩:=bB h;unfold E_ at h2;split at h2
 ·rename_i xs ys;split at h2
  ·rename_i hb;cases h2;simp only[aI,dL] at hb;obtain⟨⟨⟨hb1,hb2⟩,hb3⟩,hb4⟩:=hb;refine ii (lM I hg hm JB ?_);refine iz ?_ hs rfl;rw[hs];show ϑ _ _ (kA ((ah,bc (.Call (.Name "zip" p2) [a,b] [] pos2) X.env)::iw pos (bP [] X.env))) _ _ s;refine ma ?_;refine ii (lM I hg2 hm2 boot_zip ?_);refine iz (thn (ha pos2 Ψ s σ H (λvs H1=>b_ H H1/\bT All H1 vs [.tup xs,.tup ys]) I ⟨ρ,_,E,h1,λvs H1 s1 r1 _=>⟨s1,r1⟩⟩) λus s1 ⟨vs,H1,I1,r1,sm,rp⟩=>?_) hs2 hpl2;cases rp with
   |cons rp1 rp=>
    cases rp with
    |cons rp2 rp=>
     cases rp;obtain⟨l1,vs1,rfl,e1,rr1⟩:=rp1.fH;obtain⟨l2,vs2,rfl,e2,rr2⟩:=rp2.fH;cases r1 with
     |cons q1 r1=>
      cases r1 with
      |cons q2 r1=>
       cases r1;cases q1;cases q2;obtain⟨its1,w1,p1,_⟩:=I1.tuple (.of e1);obtain⟨its2,w2,p2,_⟩:=I1.tuple (.of e2);have t1:s1.heap.IsTuple l1 its1.toArray:=p1;have t2:s1.heap.IsTuple l2 its2.toArray:=p2;obtain⟨⟨c1,dd1,da1,sl1⟩,g1,hc1,m1,hd1⟩:=id p1;obtain⟨⟨c2,dd2,da2,sl2⟩,g2,hc2,m2,hd2⟩:=id p2;simp only at hc1 hd1 hc2 hd2;subst hc1 hd1 hc2 hd2;have hl1:=bz g1;have hl2:=bz g2;refine Wz.aOh t1 t2 λh' n hn z1 z2 z3 z4 z5 kp zsz=>?_
       subst hn;refine l8 ?_;have n1:=w1.length;have n2:=w2.length;have m1:=rr1.length;have m2:=rr2.length;obtain⟨ks,k1,k2,k3⟩:=aBt rr1 w1 hb3;refine Wz.aF3 (I1.ok.hd hc) (aBu hl1 hl2) ⟨z5,z3,z4,z1,z2,kp _ _ g1,kp _ _ g2⟩ (by simp only[bS];lia) (by simp only[bS];lia) (λi u hu=>k3 i u (by simpa using hu)) λh2 tk dd kp2=>?_
       have hfr:H1 h'.objs.size=ai:=I1.hok.fresh (by rw[zsz];lia);have kall:∀c o,s1.heap.get? c=ab o->h2.get? c=ab o:=λc o e=>by
        have:=bz e;exact kp2 c o (cn (cK this (jo _ 4))) (cn (cK this (jo _ 3))) (cn this) (cn (cK this (jo _ 1))) (kp c o e)
       have rel:KV (dY [] (ks.zip vs2)) (kb [] (ks.zip its2)):=(aOj w2 ks).merge .nil;have hz:(dY [] (ks.zip vs2)).length<=ba:=by
        have:=gQ (ks.zip vs2) [];rw[fw,Cc] at this;rw[di];lia
       obtain⟨rk,nd⟩:=V7 (rr2) iJ.nil fE;rw[k1] at rk;have sp:b_ H1 (upd H1 h'.objs.size (.dK (dY [] (ks.zip vs2)))):=b_.upd hfr;have pv:θ ((wL xs ys []).map (·.2))=ae:=by
        have go:∀(a b:aa D)(m:aa (D×D)),θ b=ae->θ (m.map (·.2))=ae->θ ((wL a b m).map (·.2))=ae:=by
         intro a;induction a with
         |nil=>intro b m _ hm;cases b<;>exact hm
         |cons x a ih=>
          intro b m hb hm;cases b with
          |nil=>exact hm
          |cons y b=>
           rw[θ,aI] at hb;refine ih b _ hb.2 ?_;have hp:=lX (ds:=m) (k:=x) hb.1 hm;exact hp
        exact go xs ys [] hb4 rfl
       have rk2:∀{P:ak->Prop},iJ P (upd H1 h'.objs.size (.dK (dY [] (ks.zip vs2)))) (dY [] (ks.zip vs2)) (wL xs ys []):=λ{P}=>(rk.keep (.same sp) λ_ h=>h).bM pv
       refine⟨.ref h'.objs.size,_,I1.laid (a:=h'.objs.size) (t':=tk) (o:=.dK (dY [] (ks.zip vs2))) kall (by rw[zsz];lia) (K6 hz (fI.mpr ?_) rel (by simpa using dd)),rfl,?_⟩
       ·exact cq (cn (cK I1.big (by rw[zsz];exact jo _ 5)))
       ·exact q _ _ (sm.trans sp) (.dK aK trivial rk2 nd) λ_=>.dK aK (sm.free hfr) rk2 nd
  ·exact bx h2
 ·exact bx h2
end
end
noncomputable def YW(i j:af):FS:=λρ=>match ρ.getD i .uD with
 |.lst xs=>(match xs[xs.length-1]? with|some x=>.ok (.nx ((ρ.set i (.lst xs.dropLast)).set j x))|none=>.bad)
 |_=>.bad
def aQr(i:af)(f:FE):FS:=λρ=>do
 let d <- f ρ
 match ρ.getD i .uD,d with
 |.lst xs,.lst ys=>if ϒ (xs.length+ys.length<=lim)&&θ ys then .ok (.nx (ρ.set i (.lst (xs++ys)))) else .bad
 |_,_=>.bad
noncomputable def aQs:aa D->Res D
 |[.bl b]=>.ok (.int (if b then 1 else 0))
 |[.int i]=>.ok (.int i)
 |_=>.bad
section
variable [KFrag]
theorem aJq{X:Cx}:lE X (.type "int") (rs aQs ae):=by
 rintro Ψ s σ H xs us Q I vr ⟨ds,d,r,e,k⟩;unfold aQs at e;split at e
 ·cases e;obtain⟨vv,uu,rfl,rfl,r,v⟩:=iY r vr;cases r.inv;cases v;exact call_int_bool ⟨.int _,H,I.tok _,⟨_,rfl⟩,k.int⟩
 ·cases e;obtain⟨vv,uu,rfl,rfl,r,v⟩:=iY r vr;cases r.inv;obtain⟨t,rfl⟩:=v;exact call_int_int ⟨.int _,H,I,⟨_,rfl⟩,k.int⟩
 ·exact bx e
section
variable {X:Cx} {own:af->aq} {e:Expr} {fe:FE} {re:aq} {pos:cj}
theorem aJr{i j:af}{x y:Str}{p1 py apos cpos:cj}(ho:own i=ae)(hN:X.N[i]?=ab x)(hv:Vis X.env.scope x)(hnd:X.N.Nodup)(hj:X.N[j]?=ab y)(hy:Loc X.env.scope y)(hoj:own j=ah)(hd:nDb x:=by decide)(hcd:nCd x:=by decide)
 (hbase:gn (.Name x p1) "pop" X.env (bc (.Name x p1) X.env)=bc (.Name x p1) X.env:=by rfl)
 (hline:(apos.endLine==cpos.line)=ae:=by rfl)
 (hs:dw (.Call (.Attribute (.Name x p1) "pop" apos) [] [] cpos) (ab (.Name y py)) pos.line X.env=pure ah:=by rfl)(hf:zFn X y:=by first|exact .inl rfl|exact .inr rfl|assumption) :
  PS X (.Assign [.Name y py] (.Call (.Attribute (.Name x p1) "pop" apos) [] [] cpos) pos) (tS own (YW i j)):=
 PS.imp (CV hnd hj hy (aNg la sQ B0 aNi (fX hN hv hd hcd) hbase hline) hs hf) λD' σ H z0=>by
 obtain⟨ρ,fl,E,h,q⟩:=z0;unfold YW at h;split at h
 ·rename_i xs hx;split at h
  ·rename_i dx hdx;cases h;obtain⟨a,o,hσ,r,hin,ha,hm⟩:=E.ownAt ho (by rw[hx];intro z;cases z);rw[hx] at r hin;obtain⟨vs,hl,rr⟩:=DX r;obtain⟨v,hvx,rv⟩:=rr.get hdx;have hlen:=rr.length;refine⟨_,hσ,.inl ⟨rfl,vs,.of hl⟩,a,vs,v,rfl,rfl,hl,by rw[hlen];exact hvx,?_⟩;have hin':θ xs=ae:=hin;have pall:∀y∈xs,y.pure=ae:=λy hy=>jY.mp hin' y hy
   have pdx:dx.pure=ae:=pall dx (nK hdx);have pe:θ xs.dropLast=ae:=jY.mpr λy hy=>pall y (List.dropLast_subset _ hy)
   have er:bT All H vs.dropLast xs.dropLast:=by
    rw[zg,zg,hlen];exact rr.take _
   obtain⟨E2,k2⟩:=E.mut (o:=.lst vs.dropLast) (d:=.lst xs.dropLast) ho hσ rfl (.lst aK trivial (er.upd pe hl rfl)) pe;have r1:=(bT.cons rv .nil).upd (o:=.lst vs.dropLast) (by rw[θ,pdx];rfl) hl rfl;cases r1 with
   |cons r1 _=>
    have E3:=E2.set hoj (v:=v) (d:=dx) (r1.bM pdx);exact q _ _ (k2.trans λb ob eb nb=>⟨eb,by rw[lK hoj];exact nb⟩) E3
  ·exact bx h
 ·exact bx h
theorem aOk{i:af}{x:Str}{p1 apos cpos:cj}(ho:own i=ae)(hN:X.N[i]?=ab x)(hv:Vis X.env.scope x)(he:PE X e (gE fe re))(hd:nDb x:=by decide)(hcd:nCd x:=by decide)
 (hbase:gn (.Name x p1) "extend" X.env (bc (.Name x p1) X.env)=bc (.Name x p1) X.env:=by rfl)
 (hs1:zSE X e []:=by rfl)
 (hfew:zFw X cpos [e]:=by rfl)
 (hline:(apos.endLine==cpos.line)=ae:=by rfl)
 (hs:dw (.Call (.Attribute (.Name x p1) "extend" apos) [e] [] cpos) ai pos.line X.env=pure ah:=by rfl) :
  PS X (.Expr (.Call (.Attribute (.Name x p1) "extend" apos) [e] [] cpos) pos) (tS own (aQr i fe)):=
 PS.imp (vG (YF la xC Cm KZ (fX hN hv hd hcd) (eG he j8 hs1) hbase hfew hline hs1 rfl) hs) λD' σ H z0=>by
 obtain⟨ρ,fl,E,h,q⟩:=z0;obtain⟨d,h1,h2⟩:=bB h;split at h2
 ·rename_i xs ys hx;split at h2
  ·rename_i hk;cases h2;rw[aI,dL] at hk;obtain⟨a,o,hσ,r,hin,ha,hm⟩:=E.ownAt ho (by rw[hx];intro z;cases z);rw[hx] at r hin;obtain⟨vs,hl,rr⟩:=DX r;refine⟨_,hσ,.inl ⟨rfl,vs,.of hl⟩,ρ,_,E.er,h1,λv H' s rv _=>?_⟩;obtain⟨b,zs,rfl,hb,_,rz⟩:=rv.inv;have E':=E.same s;have hl':=s _ _ hl;refine⟨a,b,vs,zs,rfl,rfl,hl',hb,by rw[rr.length,rz.length];exact c9 hk.1 (by rw[di];decide),?_⟩;have hp:θ (xs++ys)=ae:=by rw[lW,aI];exact⟨hin,hk.2⟩
   obtain⟨E2,k2⟩:=E'.mut (o:=.lst (vs++zs)) (d:=.lst (xs++ys)) ho hσ rfl (.lst aK trivial (((rr.same s).append rz).upd hp hl' rfl)) hp;exact q _ _ ((KU.same s).trans k2) E2
  ·exact bx h2
 ·exact bx h2
end
end
noncomputable abbrev FX:=aa D->Res (D×aa D)
noncomputable abbrev FXT:=aa D->Res (aq×aa D)
noncomputable abbrev FXA:=aa D->Res (aa D×aa D)
noncomputable def aMh:D->ar (aa D)
 |.lst xs=>ab xs
 |.cel _ xs=>ab xs
 |_=>ai
noncomputable def aJs:FXA:=λρ=>.ok ([],ρ)
noncomputable def YX(f:FX)(g:FXA):FXA:=λρ=>do
 let p <- f ρ
 let q <- g p.2
 if p.1.pure then .ok (p.1::q.1,q.2) else .bad
noncomputable def wM(f:FE)(g:FXA):FXA:=λρ=>do
 let d <- f ρ
 let q <- g ρ
 if d.pure then .ok (d::q.1,q.2) else .bad
def aOl(f:FXA):FX:=λρ=>do
 let p <- f ρ
 if ϒ (p.1.length<=lim)&&θ p.1 then .ok (.tup p.1,p.2) else .bad
def R4(o:aq)(i:af)(f:FX):FS:=λρ=>do
 let p <- f ρ
 if (if o then inner p.1 else ae) then .ok (.nx (p.2.set i p.1)) else .bad
noncomputable def aT9(c:FXT)(f g:FS):FS:=λρ=>do
 let p <- c ρ
 if p.1 then f p.2 else g p.2
noncomputable def bPu(f:FE):FE:=λρ=>do
 let d <- f ρ
 if d.pure then .ok d else .bad
section
variable [KFrag]
section
variable {own:af->aq}
theorem aBv(r:Rep P H (.ref a) d)(h:aMh d=ab xs):∃vs,H a=ab (.lst vs)/\P a/\bT P H vs xs:=by
 cases d<;>simp only[aMh] at h<;>cases h<;>cases r
 ·exact⟨_,by assumption,by assumption,by assumption⟩
 ·exact⟨_,by assumption,by assumption,by assumption⟩
theorem aBw(r:Rep P H v (.cel b xs)):v=.ref b:=by cases r;rfl
theorem aOm(h:aMh d=ab xs):inner d=θ xs:=by
 cases d<;>simp only[aMh] at h<;>cases h<;>rfl
theorem aOn(h:aMh d=ab xs):d≠.uD:=λz=>by subst z;cases h
theorem ES.aS2(E:ES own H σ ρ)(ho:own i=ae)(hi:σ[i]?=ab (ab (.ref a)))(hk:∀b ob,H b=ab ob->b≠a->H' b=ab ob)(e:H' a=ab o)(hm:LQ o=ae)(r:Rep All H' (.ref a) d)(hin:inner d=ae) :
  ES own H' σ (ρ.set i d)/\KU own σ H σ H':=by
 have hOa:Own own σ a:=⟨i,ho,hi⟩
 obtain⟨a',oa,ea,_,_,hHa,hma,huq⟩:=E.own i _ ho hi;cases ea;have k:KU own σ H σ H':=λb ob e n=>⟨hk b ob e (λz=>by subst z;exact n hOa),n⟩
 have hl:i<ρ.length:=by rw[<-E.len];exact(dj.mp hi).1
 refine⟨⟨by simp[E.len],λj hj=>?_,λj w hj hw=>?_⟩,k⟩
 ·rw[dF] at hj ⊢;by_cases h:i=j/\i<ρ.length
  ·obtain⟨rfl,_⟩:=h;exact⟨_,hi,λz=>by rw[ho] at z;cases z⟩
  ·rw[au h] at hj ⊢;obtain⟨w,h1,h2⟩:=E.at_ j hj;exact⟨w,h1,λhj=>k.rep E (h2 hj)⟩
 ·by_cases hij:i=j
  ·subst hij;rw[hi] at hw;cases hw;rw[dF,al ⟨rfl,hl⟩];exact⟨a,o,rfl,r,hin,e,hm,huq⟩
  ·rw[dF,au λz=>hij z.1];obtain⟨b,ob,h1,h2,h3,h4,h5,h6⟩:=E.own j w hj hw;subst h1;have hba:b≠a:=λz=>by subst z;exact hij (h6 i ho hi)
   refine⟨b,ob,rfl,?_,h3,hk _ _ h4 hba,h5,h6⟩;refine(h2.aMg (P':=λc=>c=b) h3 rfl).keep (λc oc hc hp=>?_) λ_ _=>trivial
   refine hk _ _ hc λz=>?_
   subst z;rcases hp with hp|hp
   ·exact hba hp.symm
   ·rw[hHa] at hc;cases hc;rw[hma] at hp;cases hp
def NS(own:af->aq)(ρ ρ':aa D):Prop:=∀i,own i=ah->ρ'.getD i .uD=ρ.getD i .uD
theorem NS.refl:NS own ρ ρ:=λ_ _=>rfl
theorem NS.trans(a:NS own ρ ρ1)(b:NS own ρ1 ρ2):NS own ρ ρ2:=λi h=>(b i h).trans (a i h)
theorem NS.set(ho:own i=ae):NS own ρ (ρ.set i d):=λj hj=>by
 rw[dF,au];rintro⟨rfl,_⟩;rw[ho] at hj;cases hj
def kX(own:af->aq)(σ:L2.St)(H:Hp)(ρ:aa D)(d:D)(ρ':aa D)(Q:VK):Prop:=∀v H',KU own σ H σ H'->ES own H' σ ρ'->NS own ρ ρ'->Rep (New H) H' v d->Q v H'
noncomputable def gX(own:af->aq)(f:FX):TE:=λσ H Q=>∃ρ d ρ',ES own H σ ρ/\f ρ=.ok (d,ρ')/\kX own σ H ρ d ρ' Q
noncomputable def gXT(own:af->aq)(f:FXT):TT:=λσ H Q=>∃ρ d ρ',ES own H σ ρ/\f ρ=.ok (d,ρ')/\∀H',KU own σ H σ H'->ES own H' σ ρ'->NS own ρ ρ'->Q d H'
noncomputable def gXA(own:af->aq)(f:FXA):TA:=λσ H Q=>∃ρ d ρ',ES own H σ ρ/\f ρ=.ok (d,ρ')/\∀vs H',KU own σ H σ H'->ES own H' σ ρ'->NS own ρ ρ'->bT (New H) H' vs d->Q vs H'
noncomputable def gAO(own:af->aq)(f:FA):TA:=λσ H Q=>∃ρ ds,ES own H σ ρ/\f ρ=.ok ds/\∀vs H',b_ H H'->bT (λa=>¬Own own σ a) H' vs ds->Q vs H'
theorem aBx(k:KU own σ H σ H1)(E1:ES own H1 σ ρ1)(h:H1 a=ai):H a=ai:=by
 cases q:H a with
 |none=>rfl
 |some o=>
  by_cases n:Own own σ a
  ·obtain⟨o',e,_⟩:=E1.live n;rw[h] at e;cases e
  ·have:=(k a o q n).1;rw[h] at this;cases this
theorem aBy(E:ES own H σ ρ)(h:H a=ai):¬Own own σ a:=λn=>by
 obtain⟨o',e,_⟩:=E.live n;rw[h] at e;cases e
theorem aJt(E:ES own H σ ρ)(E1:ES own H1 σ ρ1)(k:KU own σ H1 σ H2):DP (New H) H1 H2:=λa o e hp=>by
 refine(k a o e ?_).1;rcases hp with hp|hp
 ·exact aBy E hp
 ·intro n;obtain⟨o',e',hm⟩:=E1.live n;rw[e] at e';cases e';rw[hp] at hm;cases hm
theorem Rep.ku(r:Rep (New H) H1 v d)(E:ES own H σ ρ)(E1:ES own H1 σ ρ1)(k:KU own σ H1 σ H2):Rep (New H) H2 v d:=r.keep (aJt E E1 k) λ_ h=>h
theorem ES.aU3(E:ES own H σ ρ)(k:KU own σ H σ H')(E':ES own H' σ ρ')(ns:NS own ρ ρ')(ho:own i=ae)(hn:H a=ai)(r:Rep All H' (.ref a) d)(hin:inner d=ae)(ha:H' a=ab o)(hm:LQ o=ae) :
  ES own H' (σ.set i (ab (.ref a))) (ρ'.set i d)/\KU own σ H (σ.set i (ab (.ref a))) H':=by
 have hO:∀b,H b≠ai->¬Own own σ b->¬Own own (σ.set i (ab (.ref a))) b:=λb hb n z0=>by
  obtain⟨j,hj,e⟩:=z0;by_cases hij:i=j
  ·subst hij;by_cases hl:i<σ.length
   ·rw[fg hl] at e;cases e;exact hb hn
   ·rw[iu,al rfl,au hl] at e;cases e
  ·rw[c5 hij] at e;exact n ⟨j,hj,e⟩
 have hna:¬Own own σ a:=aBy E hn;refine⟨⟨by simp[E'.len],λj hj=>?_,λj w hj hw=>?_⟩,λb ob e n=>⟨(k b ob e n).1,hO b (by rw[e];simp) n⟩⟩
 ·rw[dF] at hj ⊢;by_cases h:i=j/\i<ρ'.length
  ·rw[al h];obtain⟨rfl,hl⟩:=h;exact⟨.ref a,by rw[fg (by rw[E'.len];exact hl)],λz=>by rw[ho] at z;cases z⟩
  ·rw[au h] at hj ⊢;obtain⟨w,h1,h2⟩:=E'.at_ j hj;by_cases hij:i=j
   ·subst hij;have:i<σ.length:=(dj.mp h1).1;rw[E'.len] at this;exact ay ⟨rfl,this⟩ h
   ·refine⟨w,by rw[c5 hij];exact h1,λhoj=>?_⟩;rw[ns j hoj] at hj ⊢;obtain⟨w',h1',h2'⟩:=E.at_ j hj;rw[h1] at h1';cases h1';exact(h2' hoj).dom.keep (λc oc hc hp=>k.keep E c oc hc (hp.imp And.left id)) λb ⟨n,hb⟩=>hO b hb n
 ·by_cases hij:i=j
  ·subst hij;have hl:i<σ.length:=by
    have:=(dj.mp hw).1;simpa using this
   rw[fg hl] at hw;cases hw;rw[dF,al ⟨rfl,by rw[<-E'.len];exact hl⟩];refine⟨a,o,rfl,r,hin,ha,hm,λk hk hs=>?_⟩;by_cases hik:i=k
   ·exact hik.symm
   ·rw[c5 hik] at hs;exact ay ⟨k,hk,hs⟩ hna
  ·rw[c5 hij] at hw;rw[dF,au λz=>hij z.1];obtain⟨b,ob,h1,h2,h3,h4,h5,h6⟩:=E'.own j w hj hw;refine⟨b,ob,h1,h2,h3,h4,h5,λk hk hs=>?_⟩;by_cases hik:i=k
   ·subst hik;by_cases hl:i<σ.length
    ·rw[fg hl] at hs;cases hs;subst h1;exact ay ⟨j,hj,hw⟩ hna
    ·rw[iu,al rfl,au hl] at hs;cases hs
   ·rw[c5 hik] at hs;exact h6 k hk hs
end
section
variable {own:af->aq} {X:Cx} {a c e:Expr} {pos pos':cj} {fe:FE} {re:aq} {xe:FX}
theorem aJu(E:ES own H σ ρ)(ho:own i=ah)(h:gM i ρ=.ok d):∃v,σ[i]?=ab (ab v)/\Rep (λa=>¬Own own σ a) H v d:=by
 obtain⟨v,hv,r,e⟩:=E.er.var h;have hne:ρ.getD i .uD≠.uD:=λz=>by
  rw[z] at e;subst e;exact Rep.uD r
 obtain⟨w,hw,hr⟩:=E.at_ i hne;rw[hv] at hw;cases hw;have r2:=hr ho;rw[e] at r2;exact⟨v,hv,r2⟩
theorem aH2:PA X [] (gXA own aJs):=PA.imp j8 λσ H Q z0=>by obtain⟨ρ,ds,ρ',E,h,q⟩:=z0;cases h;exact q [] H (.same (b_.refl H)) E .refl .nil
theorem aBz(he:PE X e (gX own xe))(hes:PA X es (gXA own f))(hs:zSE X e es:=by rfl):PA X (e::es) (gXA own (YX xe f)):=PA.imp (eG he hes hs) λσ H Q z0=>by
 obtain⟨ρ,ds,ρ',E,h,q⟩:=z0;obtain⟨⟨x,ρ1⟩,h1,h⟩:=bB h;obtain⟨⟨xs,ρ2⟩,h2,h⟩:=bB h;split at h
 ·rename_i hp;cases h;refine⟨ρ,x,ρ1,E,h1,λv H1 k1 E1 ns1 r1=>⟨ρ1,xs,ρ2,E1,h2,λvs H2 k2 E2 ns2 r2=>q _ _ (k1.trans k2) E2 (ns1.trans ns2) (.cons (r1.ku E E1 k2) (r2.mono λa ha=>aBx k1 E1 ha))⟩⟩
 ·exact bx h
theorem V8(he:PE X e (gE fe re))(hes:PA X es (gXA own f))(hs:zSE X e es:=by rfl):PA X (e::es) (gXA own (wM fe f)):=PA.imp (eG he hes hs) λσ H Q z0=>by
 obtain⟨ρ,ds,ρ',E,h,q⟩:=z0;obtain⟨x,h1,h⟩:=bB h;obtain⟨⟨xs,ρ2⟩,h2,h⟩:=bB h;split at h
 ·rename_i hp;cases h;refine⟨ρ,x,E.er,h1,λv H1 s1 r1 _=>⟨ρ,xs,ρ2,E.same s1,h2,λvs H2 k2 E2 ns2 r2=>?_⟩⟩;have rn:Rep (New H) H1 v x:=r1.bM hp;exact q _ _ ((KU.same s1).trans k2) E2 ns2 (.cons (rn.ku E (E.same s1) k2) (r2.mono λa ha=>s1.free ha))
 ·exact bx h
theorem aH3{x1}(h:PA X es (gXA own f)):PE X (.Tuple es x1 pos) (gX own (aOl f)):=PE.imp (aAc h) λσ H Q z0=>by
 obtain⟨ρ,d,ρ',E,h,q⟩:=z0;obtain⟨⟨xs,ρ1⟩,h1,h⟩:=bB h;split at h
 ·rename_i hl;cases h;rw[aI] at hl;refine⟨ρ,xs,_,E,h1,λvs H1 k1 E1 ns r1=>⟨?_,λp hp=>?_⟩⟩
  ·rw[r1.length];exact c9 (c8 hl.1) (by rw[di];decide)
  ·have sp:b_ H1 (upd H1 p (.tup vs)):=b_.upd hp;exact q _ _ (k1.trans (.same sp)) (E1.same sp) ns (.tup aK (r1.same sp))
 ·exact bx h
theorem aF4(ho:own i=o)(h:tS own (R4 o i xe) D' σ H):aMb (gX own xe) (xM i) D' σ H:=by
 obtain⟨ρ,fl,E,h,q⟩:=h;obtain⟨⟨d,ρ1⟩,h1,h2⟩:=bB h;cases o with
 |true=>
  simp only[eI] at h2;split at h2
  ·rename_i hk;cases h2;refine⟨ρ,d,ρ1,E,h1,λv H' k E1 ns r=>?_⟩;obtain⟨a,ob,rfl,hn,ha,hm⟩:=DW r hk;obtain⟨E2,k2⟩:=E.aU3 k E1 ns ho hn r.all hk ha hm;exact q _ H' k2 E2
  ·exact bx h2
 |false=>
  simp only[iN,gu,eI] at h2;cases h2;refine⟨ρ,d,ρ1,E,h1,λv H' k E1 ns r=>?_⟩;exact q _ H' (λa ob e hn=>⟨(k a ob e hn).1,by rw[lK ho];exact hn⟩) (E1.set ho (aBf E r))
theorem aH4(ho:own i=o)(hN:X.N.Nodup)(hi:X.N[i]?=ab x)(hx:Loc X.env.scope x)(he:PE X e (gX own xe))(hs:zSw X e x pos' pos:=by rfl)(hf:zFn X x:=by first|exact .inl rfl|exact .inr rfl|assumption) :
  PS X (.Assign [.Name x pos'] e pos) (tS own (R4 o i xe)):=PS.imp (CV hN hi hx he hs hf) λ_ _ _=>aF4 ho
theorem aS3(hc:PT X c (gXT own xc))(ha:PSs X s1 (tS own f))(hb:PSs X s2 (tS own g)):PS X (.If c s1 s2 pos) (tS own (aT9 xc f g)):=PS.imp (aN0 hc ha hb) λD σ H z0=>by
 obtain⟨ρ,fl,E,h,q⟩:=z0;obtain⟨⟨k,ρ1⟩,h1,h2⟩:=bB h;refine⟨ρ,k,ρ1,E,h1,λH' ku E1 ns=>?_⟩;cases k with
 |true=>rw[al rfl];rw[al rfl] at h2;exact⟨ρ1,fl,E1,h2,q.step ku⟩
 |false=>rw[au 0x2];rw[au 0x2] at h2;exact⟨ρ1,fl,E1,h2,q.step ku⟩
end
section
variable {own:af->aq} {X:Cx} {a b e:Expr} {pos:cj} {fe:FE} {re:aq}
theorem kRt.new{D:Ends}(h:kRt own D σ H (.tup (d0::ρ')))(hx:own rtX=ae):∀v σ' H',KU own σ H σ' H'->ES own H' σ' ρ'->Rep (λa=>(Own own σ a\/H a=ai)/\∀i b xs,ρ'.getD i .uD=.cel b xs->a≠b) H' v d0->D.rt v H':=by
 unfold kRt at h;rw[al hx] at h;obtain⟨d1,ρ1,e,g⟩:=h;cases e;exact g
theorem aC0(E:ES own H σ ρ){i b:af}{xs:aa D}(h:ρ.getD i .uD=.cel b xs):∃vs,σ[i]?=ab (ab (.ref b))/\H b=ab (.lst vs):=by
 obtain⟨v,h1,h2⟩:=E.er i (by rw[h];intro z;cases z);rw[h] at h2;obtain⟨_,rfl,e,_,_⟩:=h2.inv;exact⟨_,h1,e⟩
theorem oO(he:PE X e (gE fe re))(hx:own rtX=ae:=by rfl):PS X (.Return (ab e) pos) (tS own (yU fe re)):=PS.imp (aA3 he) λD σ H z0=>by
 obtain⟨ρ,fl,E,h,q⟩:=z0;obtain⟨d,h1,h2⟩:=bB h;split at h2
 ·rename_i hk;cases h2;refine⟨ρ,d,E.er,h1,λv H' s r n=>kRt.new q hx v σ H' (.same s) (E.same s) ?_⟩;rw[fT] at hk;rcases hk with hk|hk
  ·refine(n hk).mono λa ha=>⟨.inr ha,λi b xs hb z=>?_⟩
   obtain⟨vs,_,e⟩:=aC0 E hb;subst z;rw[show H a=ai from ha] at e;cases e
  ·exact r.bM hk
 ·exact bx h2
theorem M8:PA X [] (gAO own aO):=PA.imp j8 λσ H Q z0=>by obtain⟨ρ,ds,E,h,q⟩:=z0;cases h;exact q [] H (b_.refl H) .nil
theorem aC1(ho:own i=ah)(hN:X.N[i]?=ab x)(hv:Vis X.env.scope x)(hes:PA X es (gAO own f))(hd:nDb x:=by decide)(hcd:nCd x:=by decide)(hs:bP (.Name x pos::es) X.env=(ah,bc (.Name x pos) X.env)::bP es X.env:=by rfl):PA X (.Name x pos::es) (gAO own (aC (gM i) f)):=PA.imp (eG (fX hN hv hd hcd) hes hs) λσ H Q z0=>by
 obtain⟨ρ,ds,E,h,q⟩:=z0;obtain⟨x,h1,h⟩:=bB h;obtain⟨xs,h2,h⟩:=bB h;cases h;obtain⟨v,hv,rv⟩:=aJu E ho h1;exact⟨v,hv,ρ,xs,E,h2,λvs H2 s2 r2=>q _ _ s2 (.cons (rv.same s2) r2)⟩
theorem aF5(he:PE X e (gE fe re))(hes:PA X es (gAO own f))(hs:zSE X e es:=by rfl):PA X (e::es) (gAO own (aC (bPu fe) f)):=PA.imp (eG he hes hs) λσ H Q z0=>by
 obtain⟨ρ,ds,E,h,q⟩:=z0;obtain⟨x,h1,h⟩:=bB h;obtain⟨xs,h2,h⟩:=bB h;cases h;obtain⟨y,h3,h1⟩:=bB h1;split at h1
 ·rename_i hp;cases h1;exact⟨ρ,_,E.er,h3,λv H1 s1 r1 _=>⟨ρ,xs,E.same s1,h2,λvs H2 s2 r2=>q _ _ (s1.trans s2) (.cons ((r1.bM hp).same s2) r2)⟩⟩
 ·exact bx h1
theorem vU(E:ES own H σ ρ)(ho:own i=ae)(h:aMh (ρ.getD i .uD)=ab xs):∃a vs,σ[i]?=ab (ab (.ref a))/\H a=ab (.lst vs)/\bT All H vs xs/\θ xs=ae/\Rep All H (.ref a) (ρ.getD i .uD)/\∀b,ρ.getD i .uD=.cel b xs->b=a:=by
 obtain⟨a,o,hσ,r,hin,ha,hm⟩:=E.ownAt ho (aOn h);obtain⟨vs,e,_,rr⟩:=aBv r h;exact⟨a,vs,hσ,e,rr,by rw[aOm h] at hin;exact hin,r,λb hb=>by rw[hb] at r;have:=aBw r;cases this;rfl⟩
end
end
def aTa:D->D->D->D->Res D
 |.str a,.int i,.str b,.int j=>.ok (.dct (putD [(.str a,.int i)] (.str b) (.int j)))
 |_,_,_,_=>.bad
def aJv(k v l w:FE):FE:=λρ=>do
 let k <- k ρ
 let v <- v ρ
 let l <- l ρ
 let w <- w ρ
 aTa k v l w
section
variable [KFrag]
section
variable {X:Cx} {a b e:Expr} {pos:cj}
theorem FJ{a:ak}{vs:aa V}(I:Inv X Ψ σ H s)(e:H a=ab (.lst vs)):∃o,Inv X Ψ σ (upd H a (.frz o (.lst vs))) s:=by
 obtain⟨its,n,r,ho,hz⟩:=I.lst e;refine⟨_,I.write (by rw[e];trivial) (.inl rfl) (λ_ _ _ q=>q) ⟨_,ho⟩ ⟨ho,hz,its,n,r,ho⟩⟩
theorem aJw{r1 r2 r3 r4:aq}(hk1:PE X k1 (gE g1 r1))(hv1:PE X v1 (gE h1 r2))(hk2:PE X k2 (gE g2 r3))(hv2:PE X v2 (gE h2 r4)):PE X (.Dict [ab k1,ab k2] [v1,v2] pos) (gE (aJv g1 h1 g2 h2) ae):=
 PE.imp (aIu (U0 hk1 hv1 (U0 hk2 hv2 aIt)) rfl rfl 0x2 (dm rfl)) λσ H Q z0=>by
 obtain⟨ρ,d,E,h,q⟩:=z0;obtain⟨a1,e1,hA⟩:=bB h;obtain⟨a2,e2,hB⟩:=bB hA;obtain⟨a3,e3,hC⟩:=bB hB;obtain⟨a4,e4,hD⟩:=bB hC;clear h hA hB hC;unfold aTa at hD;split at hD
 ·rename_i x i y j;cases hD;intro p hp;have s0:b_ H (upd H p (.dK [])):=b_.upd hp;refine⟨ρ,_,E.same s0,e1,λw1 H1 s1 q1 _=>?_⟩;cases q1.inv;refine⟨ρ,_,(E.same s0).same s1,e2,λw2 H2 s2 q2 _=>?_⟩;cases q2.inv;refine⟨ρ,_,((E.same s0).same s1).same s2,e3,λw3 H3 s3 q3 _=>?_⟩;cases q3.inv;refine⟨ρ,_,(((E.same s0).same s1).same s2).same s3,e4,λw4 H4 s4 q4 _=>?_⟩;cases q4.inv;have sm:b_ (upd H p (.dK [])) H4:=((s1.trans s2).trans s3).trans s4;refine⟨sm _ _ aK,[(.inr x,.int i),(.inr y,.int j)],rfl,dm rfl,?_⟩;have sf:b_ H (upd H4 p (.dK (dY [] [(fF x,V.int i),(fF y,V.int j)]))):=λb o e=>by
   rw[bG (dI e hp)];exact sm b o (s0 b o e)
  have rk:∀P:ak->Prop,iJ P (upd H4 p (.dK (dY [] [(fF x,V.int i),(fF y,V.int j)]))) (putK [(fF x,V.int i)] (fF y) (V.int j)) (putD [(.str x,.int i)] (.str y) (.int j)):=λP=>xU (.int j) (.cons (.int i) .nil) 0x2
  have nd:((putK [(fF x,V.int i)] (fF y:Key) (V.int j)).map (·.1)).Nodup:=jZ 0x2;exact q _ _ sf (.dK aK trivial (rk All) nd) λ_=>.dK aK hp (rk _) nd
 ·exact bx hD
end
end
theorem R5:dA "reversed"=ab (.type "reversed"):=0x6
variable [KFrag]
theorem bT.rev{P:ak->Prop}{H:Hp}:∀{vs:aa V}{ds:aa D},bT P H vs ds->bT P H vs.reverse ds.reverse
 |_,_,.nil=>.nil
 |_,_,.cons r t=>by rw[iL,iL];exact t.rev.snoc r
theorem aC2{ds:aa D}(h:θ ds=ae):θ ds.reverse=ae:=jY.mpr λy hy=>jY.mp h y (Co.mp hy)
theorem aF6{xs:aa V}{its acc:aa aj}(r:Vals xs its)(hl:acc.length=its.length)(h:∀j v,acc[j]?=ab v->its[its.length-1-j]?=ab v):Vals xs.reverse acc:=by
 have e:acc=its.reverse:=by
  refine Cp λj=>?_
  by_cases hj:j<its.length
  ·have h1:acc[j]?=ab (acc[j]' 0x1):=d5 0x1;have h2:=h j _ h1;rw[h1,List.getElem?_reverse hj,h2]
  ·rw[oI 0x1,oI (by rw[mE];lia)]
 rw[e];clear e h hl;induction r with
 |nil=>exact .nil
 |cons h t ih=>
  rw[iL,iL];exact ih.append (.cons h .nil)
end Mi
namespace Wl
open PySem PySem.Spec
noncomputable abbrev liO(xs:ax aj)(n:af)(sl:ax (ar aj):=#[]):bf:={cls:=.type "list",data:=.seq xs n,slots:=sl}
theorem M6:jI (.type "list") "keys"=pure ai:=by rw[kj,ko];kernel_rfl
theorem noGet:jI (.type "list") "__getattr__"=pure ai:=by rw[kj,ko];kernel_rfl
theorem M7:ox oy "list.__getattribute__"=ab de.«object.__getattribute__»:=yA (id':= "object.__getattribute__") 0x8 0x6 0x6 0x8
theorem j4(a:ak)(xs:ax aj)(n:af)(sl:ax (ar aj))(u:dP):ji (de.«object.__getattribute__» ⟨[.ref a,.str "keys" u],[]⟩) (λA R s=>s.heap.get? a=ab (liO xs n sl)/\yB (.ref a) "keys" A R s):=.of_wp λprog w A R s hs=>by
 obtain⟨hp,g,d,tk,os⟩:=s;obtain⟨e,hh,q⟩:=hs;have ty:(⟨hp,g,d,tk,os⟩:ao).TypeIs (.ref a) "list":=⟨_,e,rfl⟩
 have no:=M6
 wp_walk
 exact yT hh q (yY 0x6 (by size_fits))
section
variable {prog:b5} {w:br} {A:cg} {E:aj->ao->Prop} {hp:az} {g:ax mP} {d:mS} {tk:af} {os:mT} {a:ak} {xs:ax aj} {n:af} {sl:ax (ar aj)}
theorem gone(e:hp.get? a=ab (liO xs n sl))(hh:A.handled=ai)(hk:kw=[])(q:∀h' tk' x,za hp h' x (.ref a) "keys"->E (.ref x) ⟨h',g,d,tk',os⟩) :
  ϑ (av prog w) A (call (.builtin "list.__getattribute__") ([.ref a]++[.str "keys" u]) kw) Q E ⟨hp,g,d,tk,os⟩:=by
 subst hk;exact je zh ⟨_,e,rfl⟩ M7 (F.args_list_getattribute_2 _ _) (j4 a xs n sl u) ⟨e,hh,λh' tk' x hx=>q h' tk' x hx⟩
theorem lacks(e:hp.get? a=ab (liO xs n sl))(hh:A.handled=ai)(q:∀h' tk',(∀b o,hp.get? b=ab o->h'.get? b=ab o)->Q ai ⟨h',g,d,tk',os⟩):ϑ (av prog w) A (uy (.ref a) "keys") Q E ⟨hp,g,d,tk,os⟩:=by
 have ty:∀tk',(⟨hp,g,d,tk',os⟩:ao).TypeIs (.ref a) "list":=λ_=>⟨_,e,rfl⟩
 have f3:=zh.lookup;have f4:=zh.bind (.ref a);have f5:=noGet;have sub:=zc
 wp_walk using gone e hh
 case hk=>rfl
 intro h' tk' x hx;obtain⟨t,u,ex⟩:=hx.there;show ϑ _ _ (zd _ _ _ _ _ _ _) _ _ _
 wp_walk
 exact q _ _ hx.keeps
end
theorem aH5{h:az}(e:h.get? c=ab o)(hc:o.cls=.type T)(ed:h.get? d=ab od)(hd:od.cls=.type U)(ne:(fN T==fN U)=ah):c≠d:=λq=>by
 subst q;rw[e] at ed;cases ed;rw[hc] at hd;rw[hd] at ne;simp at ne
def Prs{prog:b5}{w:br}{K:Type}[cr K](knd:KeyKind prog w K)(items:ax aj)(ps:aa (K×aj))(h:az):Prop:=items.size=ps.length/\∀(i:af)(kv:K×aj),ps[i]?=ab kv->∃(p:ak)(x:aj)(o:bf)(n:af),items[i]?=ab (eo p)/\h.get? p=ab o/\o.cls=.type "tuple"/\o.data=.seq #[x,kv.2] n/\knd.is kv.1 x=ae
theorem Prs.keep[cr K]{knd:KeyKind prog w K}{ps:aa (K×aj)}{h h':az}(x:Prs knd items ps h)(k:∀c o,o.cls=.type "tuple"->h.get? c=ab o->h'.get? c=ab o):Prs knd items ps h':=
 ⟨x.1,λi kv e=>let ⟨p,v,o,n,h1,h2,h3,h4,h5⟩:=x.2 i kv e;⟨p,v,o,n,h1,k p o h3 h2,h3,h4,h5⟩⟩
end Wl
namespace Wt
open PySem PySem.Spec Wl
noncomputable abbrev tpO(xs:ax aj)(n:af)(sl:ax (ar aj)):bf:={cls:=.type "tuple",data:=.seq xs n,slots:=sl}
theorem M6:jI (.type "tuple") "keys"=pure ai:=by rw[kj,ko];kernel_rfl
theorem noGet:jI (.type "tuple") "__getattr__"=pure ai:=by rw[kj,ko];kernel_rfl
theorem M7:ox oy "tuple.__getattribute__"=ab de.«object.__getattribute__»:=yA (id':= "object.__getattribute__") 0x8 0x6 0x6 0x8
theorem j4(a:ak)(xs:ax aj)(n:af)(sl:ax (ar aj))(u:dP):ji (de.«object.__getattribute__» ⟨[.ref a,.str "keys" u],[]⟩) (λA R s=>s.heap.get? a=ab (tpO xs n sl)/\yB (.ref a) "keys" A R s):=.of_wp λprog w A R s hs=>by
 obtain⟨hp,g,d,tk,os⟩:=s;obtain⟨e,hh,q⟩:=hs;have ty:(⟨hp,g,d,tk,os⟩:ao).TypeIs (.ref a) "tuple":=⟨_,e,rfl⟩
 have no:=M6
 wp_walk
 exact yT hh q (yY 0x6 (by size_fits))
section
variable {prog:b5} {w:br} {A:cg} {E:aj->ao->Prop} {hp:az} {g:ax mP} {d:mS} {tk:af} {os:mT} {a:ak} {xs:ax aj} {n:af} {sl:ax (ar aj)}
theorem gone(e:hp.get? a=ab (tpO xs n sl))(hh:A.handled=ai)(hk:kw=[])(q:∀h' tk' x,za hp h' x (.ref a) "keys"->E (.ref x) ⟨h',g,d,tk',os⟩) :
  ϑ (av prog w) A (call (.builtin "tuple.__getattribute__") ([.ref a]++[.str "keys" u]) kw) Q E ⟨hp,g,d,tk,os⟩:=by
 subst hk;exact je zi ⟨_,e,rfl⟩ M7 (F.args_tuple_getattribute_2 _ _) (j4 a xs n sl u) ⟨e,hh,λh' tk' x hx=>q h' tk' x hx⟩
theorem lacks(e:hp.get? a=ab (tpO xs n sl))(hh:A.handled=ai)(q:∀h' tk',(∀b o,hp.get? b=ab o->h'.get? b=ab o)->Q ai ⟨h',g,d,tk',os⟩):ϑ (av prog w) A (uy (.ref a) "keys") Q E ⟨hp,g,d,tk,os⟩:=by
 have ty:∀tk',(⟨hp,g,d,tk',os⟩:ao).TypeIs (.ref a) "tuple":=λ_=>⟨_,e,rfl⟩
 have f3:=zi.lookup;have f4:=zi.bind (.ref a);have f5:=noGet;have sub:=zc
 wp_walk using gone e hh
 case hk=>rfl
 intro h' tk' x hx;obtain⟨t,u,ex⟩:=hx.there;show ϑ _ _ (zd _ _ _ _ _ _ _) _ _ _
 wp_walk
 exact q _ _ hx.keeps
end
end Wt
namespace Wl
open PySem PySem.Spec
section
variable {prog:b5} {w:br} {A:cg} {E:aj->ao->Prop} {hp:az} {g:ax mP} {d:mS} {tk:af} {os:mT} {a:ak} {xs:ax aj} {n:af} {sl:ax (ar aj)}
noncomputable def tyN:aq->eh
 |true=>"list"
 |false=>"tuple"
abbrev sqO(b:aq)(xs:ax aj)(n:af)(sl:ax (ar aj)):bf:={cls:=.type (tyN b),data:=.seq xs n,slots:=sl}
def aH6:aq->az->ak->ak->af->Prop
 |true,h,it,l,k=>h.IsListIter it l k
 |false,h,it,l,k=>h.IsTupleIter it l k
theorem aOo(z:aH6 b h it l k)(e:h.get? c=ab o)(hc:o.cls=.type "tuple"):c≠it:=by
 cases b<;>exact let ⟨oi,ei,ci,_⟩:=z;aH5 e hc ei ci 0x4
theorem aJx(z:aH6 b h it l k)(e:h'.get? it=h.get? it):aH6 b h' it l k:=by
 cases b<;>exact let ⟨oi,ei,r⟩:=z;⟨oi,e.trans ei,r⟩
theorem aOp(e:hp.get? a=ab (sqO b xs n sl))(hh:A.handled=ai)(q:∀h' tk',(∀b o,hp.get? b=ab o->h'.get? b=ab o)->Q ai ⟨h',g,d,tk',os⟩):ϑ (av prog w) A (uy (.ref a) "keys") Q E ⟨hp,g,d,tk,os⟩:=by
 cases b
 ·exact Wt.lacks e hh q
 ·exact lacks e hh q
end
section
variable {prog:b5} {w:br} {A:cg} {E:aj->ao->Prop} {s:ao} {it l:ak} {items:ax aj} {nl k:af} {sl:ax (ar aj)}
theorem aJy{Q:ar aj->ao->Prop}(z:aH6 b s.heap it l k)(el:s.heap.get? l=ab (sqO b items nl sl))(hx:items[k]?=ab x)(hQ:∀h',aH6 b h' it l (k+1)->gj it s.heap h'->Q (ab x) {s with heap:=h'}):ϑ (av prog w) A (gN (.ref it)) Q E s:=by
 cases b
 ·exact Aq z ⟨_,el,rfl,_,rfl⟩ hx hQ
 ·exact Ao z ⟨_,el,rfl,_,rfl⟩ hx hQ
theorem aOq{Q:ar aj->ao->Prop}(hh:A.handled=ai)(z:aH6 b s.heap it l k)(el:s.heap.get? l=ab (sqO b items nl sl))(hx:items[k]?=ai)(hQ:∀h',yu it s.heap h'->Q ai {s with heap:=h'}):ϑ (av prog w) A (gN (.ref it)) Q E s:=by
 cases b
 ·exact Ar hh z ⟨_,el,rfl,_,rfl⟩ hx hQ
 ·exact Ap hh z ⟨_,el,rfl,_,rfl⟩ hx hQ
theorem aS4{Q:aj->ao->Prop}(el:s.heap.get? l=ab (sqO b items nl sl))(hQ:∀oi,aH6 b (s.heap.push oi) s.heap.objs.size l 0->Q (.ref s.heap.objs.size) {s with heap:=s.heap.push oi}):ϑ (av prog w) A (kG (.ref l)) Q E s:=by
 cases b
 ·exact iP ⟨_,el,rfl,_,rfl⟩ (hQ _ ⟨_,cx _ rfl,rfl,rfl⟩)
 ·exact BG ⟨_,el,rfl,_,rfl⟩ (hQ _ ⟨_,cx _ rfl,rfl,rfl⟩)
end
section
variable {prog:b5} {w:br} {K:Type} [cr K] {knd:KeyKind prog w K} {A:cg} {R:Except aj Flow->ao->Prop} {it l d:ak} {items:ax aj} {ps:aa (K×aj)} {nl:af} {sl:ax (ar aj)}
theorem I_(hh:A.handled=ai)(hdi:d≠it)(hdl:d≠l)(hil:l≠it) :
  ∀(m k:af)(s:ao)(kvs:aa (K×aj)),k+m=items.size->kvs.length+m<=ba->aH6 b s.heap it l k->s.heap.get? l=ab (sqO b items nl sl)->Prs knd items ps s.heap->s.heap.DictOf knd d kvs->
  (∀h' tk,h'.DictOf knd d (kb kvs (ps.drop k))->(∀c o,c≠d->c≠it->s.heap.get? c=ab o->h'.get? c=ab o)->R (.ok (.ret .none)) {s with heap:=h',toks:=tk})->
  codeAny (av prog w) A (.builtin "dict.update.loop" ⟨[.ref d,.ref it,d6 k,.none],[]⟩) R s:=by
 intro m;induction m with
 |zero=>
  intro k s kvs hkm hl Z el Pp hd q;refine iS Wz.uT ?_;rw[jn (show oz "dict.update.loop"=ae by decide +kernel) _];refine am (aOq hh Z el (uo 0x1) λh' kp=>?_);refine am ?_;unfold ze;rw[k6];refine am (aE (aE (aE ?_)));have e:ps.drop k=[]:=ot (by have:=Pp.1;lia);rw[e] at q;obtain⟨o,es,ep,ho,r⟩:=hd;exact q _ s.toks ⟨o,es,ep,kp d o hdi ho,r⟩ λc o _ c1 e=>kp c o c1 e
 |succ m ih=>
  intro k s kvs hkm hl Z el Pp hd q;have hlp:k<ps.length:=by have:=Pp.1;lia
  obtain⟨p,x,o,n,hi,hp,hpc,hpd,his⟩:=Pp.2 k ps[k] (d5 hlp);have hpi:p≠it:=aOo Z hp hpc;refine iS Wz.uT ?_;rw[jn (show oz "dict.update.loop"=ae by decide +kernel) _];refine am (aJy Z el hi λh' Z' kp=>?_);have hp':h'.get? p=ab o:=(kp.2 p hpi).trans hp;refine am (fq (am (ng ?_)));refine am (jy ⟨_,hp',hpc⟩ ?_);rw[al 0x4];refine am (gx hp' hpd (aE ?_));show ϑ _ _ (i9 [x,ps[k].2] (dictSet d x ps[k].2)) _ _ _;have hd':h'.DictOf knd d kvs:=let ⟨o,es,ep,ho,r⟩:=hd;⟨o,es,ep,(kp.2 d hdi).trans ho,r⟩
  obtain⟨od,es,ep,ho,hc,_⟩:=id hd';refine fq (Cd his hd' (λh2 hd2' sb=>?_) 0x1);refine aE ⟨oB _ 0x6,?_⟩;have ek:(d6 (k+1):aj)=d6 ((k+1:af):ag):=rfl;rw[ek];have hdrop:ps.drop k=ps[k]::ps.drop (k+1):=oq hlp;have ls:(jg kvs ps[k].1 ps[k].2).length<=kvs.length+1:=by
   unfold jg;split
   ·rw[aw];lia
   ·rw[bg];exact aT _
  have keep:∀c o,c≠d->c≠it->s.heap.get? c=ab o->h2.get? c=ab o:=λc o c0 c1 e=>(sb.2 c c0).trans ((kp.2 c c1).trans e)
  have hdc:∀c (oc:bf),oc.cls=.type "tuple"->s.heap.get? c=ab oc->c≠d/\c≠it:=λc oc hoc e=>⟨let ⟨o1,_,_,e1,c1,_⟩:=hd;aH5 e hoc e1 c1.1 0x4,aOo Z e hoc⟩
  refine ih (k+1) _ (jg kvs ps[k].1 ps[k].2) 0x1 0x1 (aJx Z' (sb.2 it (cq hdi))) (keep l _ (cq hdl) hil el) (Pp.keep λc oc hoc e=>keep c oc (hdc c oc hoc e).1 (hdc c oc hoc e).2 e) hd2' λh3 tk hd3 kp3=>?_
  exact q h3 tk (by rw[hdrop];exact hd3) λc o c0 c1 e=>kp3 c o c0 c1 (keep c o c0 c1 e)
end
section
variable {prog:b5} {w:br} {K:Type} [cr K] {knd:KeyKind prog w K} {A:cg} {E:aj->ao->Prop} {hp:az} {g:ax mP} {dr:mS} {tk:af} {os:mT} {l:ak} {items:ax aj} {ps:aa (K×aj)} {nl:af} {sl:ax (ar aj)}
theorem V9(hh:A.handled=ai)(el:hp.get? l=ab (sqO b items nl sl))(Pp:Prs knd items ps hp)(hz:items.size<=1000000)
 (q:∀h' tk',h'.DictOf knd hp.objs.size (kb [] ps)->(∀c o,hp.get? c=ab o->h'.get? c=ab o)->Q (.ref hp.objs.size) ⟨h',g,dr,tk',os⟩) :
  ϑ (av prog w) A (call (.type "dict") [.ref l]) Q E ⟨hp,g,dr,tk,os⟩:=by
 have hnew:(hp.push {cls:=.type "dict",data:=.dict #[]}).DictOf knd hp.objs.size []:=xI hp;have up:∀c o,hp.get? c=ab o->(hp.push {cls:=.type "dict",data:=.dict #[]}).get? c=ab o:=λc o e=>bw _ e
 have lt:∀{c o},hp.get? c=ab o->hp.objs.size≠c:=λe=>ic (bz e)
 refine zf (Q₁:=λv s₁=>v=.ref hp.objs.size/\s₁=⟨hp.push {cls:=.type "dict",data:=.dict #[]},g,dr,tk,os⟩) Ce (Cf _) Cg (Ci _ ⟨rfl,rfl⟩) λv s₁ hv=>?_
 obtain⟨rfl,rfl⟩:=hv;have ty:(⟨hp.push {cls:=.type "dict",data:=.dict #[]},g,dr,tk,os⟩:ao).TypeIs (.ref hp.objs.size) "dict":=hnew.typeIs;have ez:=up _ _ el;have tz:(⟨hp.push {cls:=.type "dict",data:=.dict #[]},g,dr,tk,os⟩:ao).TypeIs (.ref l) (tyN b):=⟨_,ez,rfl⟩
 refine⟨ty,Cj _ _,am (am (Ck ty (aE ?_)))⟩;refine am (jy tz ?_);rw[al (by cases b<;>decide)];refine am (aOp ez hh λh' tk' kp=>?_);rw[al (show(ai:ar aj).isNone=ae from rfl)];refine am (mI (am (aS4 (kp _ _ ez) λoi z0=>aE ⟨oB _ 0x6,?_⟩)));have hd':h'.DictOf knd hp.objs.size []:=let ⟨o,es,ep,ho,r⟩:=hnew;⟨o,es,ep,kp _ _ ho,r⟩
 have ltd:hp.objs.size<h'.objs.size:=let ⟨o,es,ep,ho,r⟩:=hd';bz ho
 have ltl:l<h'.objs.size:=bz (kp _ _ ez);refine I_ (ps:=ps) (it:=h'.objs.size) (l:=l) (items:=items) (nl:=nl) (sl:=sl) (show A.in1.handled=ai from hh) (cn ltd) (lt el) (cn ltl) items.size 0 _ [] 0x1 (by rw[fw,di];lia) z0 (bw _ (kp _ _ ez)) (Pp.keep λc o _ e=>bw _ (kp c o (up c o e))) (let ⟨o,es,ep,ho,r⟩:=hd';⟨o,es,ep,bw _ ho,r⟩) λh2 tk2 hd2 kp2=>?_
 exact⟨rfl,q h2 tk2 hd2 λc o e=>kp2 c o (λx=>lt e x.symm) (cn (bz (kp c o (up c o e)))) (bw _ (kp c o (up c o e)))⟩
end
end Wl
namespace Mi
open PySem L2 PySem.SeqAt PySem.Spec PyProof.Rows
def nW:aa D->ar (aa (D×D))
 |[]=>ab []
 |.tup [k,v]::r=>if mV k&&v.pure then (nW r).map ((k,v)::·) else ai
 |_::_=>ai
def i_(kvs:aa (D×D))(more:aa (D×D)):aa (D×D):=more.foldl (λacc p=>putD acc p.1 p.2) kvs
def M9:D->Res D
 |.lst xs=>match nW xs with
  |some ps=>if ϒ (xs.length<=1000) then .ok (.dct (i_ [] ps)) else .bad
  |none=>.bad
 |_=>.bad
section
variable [KFrag]
theorem V_(I:Inv X Ψ σ H s):∀{xs:aa D}{vs:aa V}{us:aa aj}{ps:aa (D×D)},bT All H vs xs->Vals vs us->nW xs=ab ps->
  ∃(kvs:aa (Key×V))(prs:aa (Key×aj)),KV kvs prs/\iJ All H kvs ps/\θ (ps.map (·.2))=ae/\us.length=prs.length/\∀(i:af)(kv:Key×aj),prs[i]?=ab kv->∃(p:ak)(x:aj)(o:bf)(n:af),us[i]?=ab (eo p)/\s.heap.get? p=ab o/\o.cls=.type "tuple"/\o.data=.seq #[x,kv.2] n/\(cL X.prog X.w).is kv.1 x=ae
 |[],_,_,_,.nil,.nil,h=>by
  cases h;exact⟨[],[],.nil,.nil,rfl,rfl,λi kv h=>by simp at h⟩
 |d::xs,_,_,ps,.cons r t,.cons rv tv,h=>by
  unfold nW at h;split at h
  ·rename_i h0;cases h0
  ·rename_i k v r' h0;injection h0 with h0 h1
   subst h0 h1;split at h
   ·rename_i hf;rw[aI] at hf;obtain⟨ps',hp,rfl⟩:=ka.mp h;obtain⟨kvs,prs,g1,g2,g3,g4,g5⟩:=V_ I t tv hp;obtain⟨a,ws,rfl,ea,rr⟩:=r.fH;cases rv;obtain⟨its,rvs,o,ho,hc,n,hd⟩:=gR I ea;cases rr with
    |cons rk rr=>
     cases rr with
     |cons rw_ rr=>
      cases rr;cases rvs with
      |cons q1 rvs=>
       cases rvs with
       |cons q2 rvs=>
        cases rvs;rename_i wk ww uk uw;obtain⟨key,hk1,hk2⟩:∃key:Key,kD key=k/\(cL X.prog X.w).is key uk=ae:=by
         cases rk with
         |int i=>exact⟨.inl i,rfl,yM q1⟩
         |str x=>exact⟨.inr x,rfl,yM q1⟩
         |_=>cases hf.1
        subst hk1;refine⟨(key,ww)::kvs,(key,uw)::prs,.cons ⟨rfl,q2⟩ g1,.cons rw_ g2,by rw[bd,θ,hf.2,g3];rfl,by rw[aS,aS,g4],λi kv hi=>?_⟩;cases i with
        |zero=>
         simp at hi;subst hi;exact⟨a,uk,o,n,rfl,ho,hc,hd,hk2⟩
        |succ i=>
         obtain⟨p,x,o',n',z1,z2⟩:=g5 i kv (by simpa using hi);exact⟨p,x,o',n',by simpa using z1,z2⟩
   ·cases h
  ·cases h
theorem vV:∀{more:aa (Key×V)}{ds:aa (D×D)}{kvs:aa (Key×V)}{es:aa (D×D)},iJ P H more ds->iJ P H kvs es->(kvs.map (·.1)).Nodup->iJ P H (dY kvs more) (i_ es ds)/\((dY kvs more).map (·.1)).Nodup
 |_,_,_,_,.nil,r,n=>⟨r,n⟩
 |_,_,_,_,.cons (k:=k) rv t,r,n=>by have:=vV t (JC (k:=k) rv r n) (jZ n);exact this
theorem wN:∀{ds es:aa (D×D)},θ (ds.map (·.2))=ae->θ (es.map (·.2))=ae->θ ((i_ es ds).map (·.2))=ae
 |[],_,_,h=>h
 | (k,v)::ds,es,h,h2=>by
  rw[bd,θ,aI] at h;exact wN (ds:=ds) h.2 (lX h.1 h2)
section
theorem aH7{f:D->Res D}(hf:∀d0 d,f d0=.ok d->∃xs ps,(d0=.lst xs\/d0=.tup xs)/\nW xs=ab ps/\xs.length<=1000/\d=.dct (i_ [] ps))(hc:X.calm=ae)(hg:Gl X "dict")(hm:X.mg "dict"=ai)(he:PE X e (gE fe re))(hs:bP [e] X.env=[(ah,bc e X.env)]:=by rfl) :
  PE X (.Call (.Name "dict" p) [e] [] pos) (gE (b1 f fe) ae):=by
 rintro Ψ s σ H Q I ⟨ρ,d,E,h,q⟩;obtain⟨d0,h1,h2⟩:=bB h;obtain⟨xs,ps,h0,hps,hb,rfl⟩:=hf _ _ h2;refine ii (lM I hg hm JB ?_);refine iz ?_ hs rfl;rw[hs];show ϑ _ _ (kA [(ah,bc e X.env)]) _ _ s;refine ma (thn (he Ψ s σ H (λv H1=>b_ H H1/\Rep All H1 v d0) I ⟨ρ,_,E,h1,λv H1 s1 r1 _=>⟨s1,r1⟩⟩) λu s1 ⟨x,H1,I1,ru,sm,rx⟩=>?_);obtain⟨a,vs,its,b,nl,sl,rfl,rr,rv,hl⟩:∃a vs its b nl sl,x=.ref a/\bT All H1 vs xs/\Vals vs its/\s1.heap.get? a=ab (Wl.sqO b its.toArray nl sl):=by
  rcases h0 with rfl|rfl
  ·obtain⟨_,_,rfl,e,p,r⟩:=rx.inv;obtain⟨hz,its,nl,rv,hl⟩:_/\∃(its:aa aj)(n:af),Vals _ its/\s1.heap.get? _=ab {cls:=.type "list",data:=.seq its.toArray n}:=I1.hok _ _ e;exact⟨_,_,its,ae,nl,_,rfl,r,rv,hl⟩
  ·obtain⟨a,vs,rfl,ea,rr⟩:=rx.fH;obtain⟨hz,its,rv,⟨cl,dd,da,sl⟩,hl,e1,nl,e2⟩:vs.length<=ba/\∃its:aa aj,Vals vs its/\j7 s1.heap a its.toArray:=I1.hok a _ ea;simp only[Prod.mk.injEq] at e1 e2;obtain⟨e2,e3⟩:=e2;subst e1 e2 e3;exact⟨_,_,its,ah,nl,sl,rfl,rr,rv,hl⟩
 cases ru;refine l8 ?_;obtain⟨kvs,prs,g1,g2,g3,g4,g5⟩:=V_ I1 rr rv hps;have hlen:its.length<=1000:=by rw[<-rv.length,rr.length];exact hb
 obtain⟨hp,g,dr,tk,os⟩:=s1;refine Wl.V9 (knd:=cL X.prog X.w) (ps:=prs) (items:=its.toArray) (I1.ok.hd hc) hl ⟨by rw[bS];exact g4,λi kv hi=>?_⟩ (by rw[bS];lia) λh' tk' hd kp=>?_
 ·obtain⟨p,x,o,n,z1,z2⟩:=g5 i kv hi;exact⟨p,x,o,n,by simpa using z1,z2⟩
 ·have hfr:H1 hp.objs.size=ai:=I1.hok.fresh (aT _);have rel:KV (dY [] kvs) (kb [] prs):=g1.merge .nil;have hz2:(dY [] kvs).length<=ba:=by
   have:=gQ kvs [];have l1:kvs.length=prs.length:=jr g1;rw[fw] at this;rw[di];lia
  obtain⟨rk,nd⟩:=vV (kvs:=[]) g2 iJ.nil fE;have sp:b_ H1 (upd H1 hp.objs.size (.dK (dY [] kvs))):=b_.upd hfr;have rk2:∀{P:ak->Prop},iJ P (upd H1 hp.objs.size (.dK (dY [] kvs))) (dY [] kvs) (i_ [] ps):=λ{P}=>(rk.keep (.same sp) λ_ h=>h).bM (wN g3 rfl)
  refine⟨.ref hp.objs.size,_,I1.laid (a:=hp.objs.size) (t':=tk') (o:=.dK (dY [] kvs)) kp (aT _) (K6 hz2 (fI.mpr ?_) rel hd),rfl,?_⟩
  ·exact cq (cn I1.big)
  ·exact q _ _ (sm.trans sp) (.dK aK trivial rk2 nd) λ_=>.dK aK (sm.free hfr) rk2 nd
theorem aC3(hc:X.calm=ae)(hg:Gl X "dict")(hm:X.mg "dict"=ai)(he:PE X e (gE fe re))(hs:bP [e] X.env=[(ah,bc e X.env)]:=by rfl) :
  PE X (.Call (.Name "dict" p) [e] [] pos) (gE (b1 M9 fe) ae):=aH7 (λd0 d h=>by
 unfold M9 at h
 repeat' split at h
 ·rename_i h1 h2;exact⟨_,_,.inl rfl,h1,c8 h2,(Res.ok.inj h).symm⟩
 all_goals exact bx h) hc hg hm he hs
end
section
variable {X:Cx} {a:Expr} {pos pos':cj}
def aS5(i:af)(fk fv:FE):TS:=λD' σ H=>∃ρ kd d kvs a,ER H σ ρ/\fv ρ=.ok d/\fk ρ=.ok kd/\σ[i]?=ab (ab (.ref a))/\Rep All H (.ref a) (.dct kvs)/\θ (kvs.map (·.2))=ae/\kvs.length<ba/\GZ kvs kd=ae/\d.pure=ae/\
 ∀H1 o,b_ H H1->LQ o=ae->Rep All (upd H1 a o) (.ref a) (.dct (putD kvs kd d))->D'.nx σ (upd H1 a o)
theorem aJz{i:af}{x:Str}{p1:cj}{value k:Expr}{fv fk:FE}{rv rk:aq}(hu:X.A.units+20<bX)(hN:X.N[i]?=ab x)(hvi:Vis X.env.scope x)(hk:PE X k (gE fk rk))(hv:PE X value (gE fv rv))
 (hs:dw value (ab (.Subscript (.Name x p1) k pos')) pos.line X.env=pure ah)(hd:nDb x)(hcd:nCd x) :
  PS X (.Assign [.Subscript (.Name x p1) k pos'] value pos) (aS5 i fk fv):=by
 rintro Ψ s σ H D' I ⟨ρ,kd,d,kvs,a,E,h0,h1,hσ,r,hin,hg1,hg2,hg3,q⟩;refine BO (thn (hv Ψ s σ H (λv H1=>b_ H H1/\Rep All H1 v d) I ⟨ρ,d,E,h0,λv H1 s1 r1 _=>⟨s1,r1⟩⟩) λrr s1 ⟨v,H1,I1,rv1,sm1,rp1⟩=>
  thn (fX hN hvi hd hcd Ψ s1 σ H1 (λw H2=>w=.ref a/\H2=H1) I1 ⟨_,hσ,rfl,rfl⟩) λu s2 ⟨xx,H2,I2,rx,ex,eH⟩=>
  thn (hk Ψ s2 σ H2 (λw H3=>b_ H2 H3/\Rep All H3 w kd) I2 ⟨ρ,kd,by rw[eH];exact E.same sm1,h1,λv H1 s1 r1 _=>⟨s1,r1⟩⟩) λiv s3 ⟨y,H3,I3,ry,sm3,rp3⟩=>?_) hs
 subst ex eH;obtain rfl:u=eo a:=rx;have sm:=sm1.trans sm3;obtain⟨H4,o4,I4,g,hmo,rp⟩:=aO4 I3 (r.same sm) hin rp3 hg2 hg1 (rp1.same sm3) hg3;exact K7 0x1 I4 g ry rv1 λs4 I5=>⟨σ,_,I5,q _ _ sm hmo rp⟩
end
end
def zM:D->Res D
 |.tup xs=>match nW xs with
  |some ps=>if ϒ (xs.length<=1000) then .ok (.dct (i_ [] ps)) else .bad
  |none=>.bad
 |_=>.bad
section
variable [KFrag]
theorem YZ{X:Cx}{e:Expr}{fe:FE}{re:aq}{p pos:cj}(hc:X.calm=ae)(hg:Gl X "dict")(hm:X.mg "dict"=ai)(he:PE X e (gE fe re))(hs:bP [e] X.env=[(ah,bc e X.env)]:=by rfl) :
  PE X (.Call (.Name "dict" p) [e] [] pos) (gE (b1 zM fe) ae):=by
 refine aH7 (λd0 d h=>?_) hc hg hm he hs;unfold zM at h
 repeat' split at h
 ·rename_i h1 h2;exact⟨_,_,.inr rfl,h1,c8 h2,(Res.ok.inj h).symm⟩
 all_goals exact bx h
end
noncomputable def max2:aa D->Res D
 |[.int a,.int b]=>.ok (.int (if b > a then b else a))
 |_=>.bad
section
variable [KFrag]
theorem R6{X:Cx}(hc:X.calm=ae):lE X (.builtin "max") (rs max2 ah):=by
 rintro Ψ s σ H xs us Q I vr ⟨ds,d,r,e,k⟩;unfold max2 at e;split at e
 ·cases e;cases r with
  |cons r t=>
   cases r.inv;cases t with
   |cons r t=>
    cases r.inv;cases t;cases vr with
    |cons v vt=>
     obtain⟨t1,rfl⟩:=v;cases vt with
     |cons v vt=>
      obtain⟨t2,rfl⟩:=v;cases vt;refine max_two_ints (I.ok.hd hc) λh' tk hk=>⟨_,H,I.kept hk,?_,k.int⟩
      split
      ·exact⟨_,rfl⟩
      ·exact⟨_,rfl⟩
 ·exact bx e
end
def nD(o:g_):aa D->Res D
 |[a,b]=>match a.fP aY&&b.fP aY,j_ o b a with
  |true,ab k=>.ok (if k then b else a)
  |_,_=>.bad
 |_=>.bad
noncomputable def mdN:aq->eh
 |false=>"min"
 |true=>"max"
def mdO:aq->g_
 |false=>.lt
 |true=>.gt
noncomputable def mdL:aq->eh
 |false=>"min.loop"
 |true=>"max.loop"
noncomputable def mdB:aq->de
 |false=>de.«min.loop»
 |true=>de.«max.loop»
theorem aK0:∀m,ox oy (mdL m)=ab (mdB m)
 |false=>F.entry_min_loop
 |true=>F.entry_max_loop
theorem R7:∀m,oz (mdL m)=ae
 |false=>F.plain_min_loop
 |true=>F.plain_max_loop
theorem aF7:(toString "min" ++ toString ".loop" : eh)=mdL ah:=by decide
theorem aF8:(toString "max" ++ toString ".loop" : eh)=mdL ae:=by decide
section
variable [KFrag]
theorem aH8{X:Cx}(m:aq)(hu:X.A.units+20<bX)(hc:X.calm=ae):lE X (.builtin (mdN m)) (rs (nD (mdO m)) ah):=by
 rintro Ψ s σ H xs us Q I vr ⟨ds,d,r,e,q⟩;unfold nD at e;split at e
 rotate_left
 exact bx e;rename_i a b;split at e
 rotate_left
 exact bx e;rename_i k he hk;rw[aI] at he;cases e;obtain _|⟨r,_|⟨r',_|_⟩⟩:=r
 obtain _|⟨v,_|⟨v',_|_⟩⟩:=vr
 rename_i x y u w;have pl:(s.heap.push {cls:=.type "tuple",data:=.seq #[u,w]}).IsTuple s.heap.objs.size #[u,w]:=⟨_,cx _ rfl,rfl,0,rfl⟩
 have hI:(s.heap.push {cls:=.type "tuple",data:=.seq #[u,w]}).objs.size=s.heap.objs.size+1:=dE ..;have W:=Walks.tuple (prog:=X.prog) (w:=X.w) (A:=X.A.in1) (I.ok.hd hc) (s.heap.objs.size+1) s.heap.objs.size (cn (iE _)) #[u,w];have up:∀{S:ak}{g h:az}{f:ax aj->ax aj},S=s.heap.objs.size+2->(∀b o,s.heap.get? b=ab o->g.get? b=ab o)->(∀b o,b∉[s.heap.objs.size+1]->g.get? b=ab o->h.get? b=ab o)->∀b o,s.heap.get? b=ab o->(h.update S (ef f)).get? b=ab o/\h.get? b=ab o:=λhS g k b o e=>by
  have:=bz e;have:=k b o (by rw[eL];exact cn (g9 this)) (g b o e);exact⟨(kP _ _ (by rw[hS];exact ic (cK (bz e) (jo _ 2)))).trans this,this⟩
 have lp:∀{S:ak}{h:az}{c:af}{R:md->ao->Prop},S=s.heap.objs.size+2->(h.IsTupleIter (s.heap.objs.size+1) s.heap.objs.size 0/\h.IsTuple s.heap.objs.size #[u,w])->h.get? S=ab {cls:=.type "list",data:=.seq #[] c}->(∀b o,s.heap.get? b=ab o->h.get? b=ab o)->(∀v s,EP X Ψ σ Q v s->R (.ok (.ret v)) s)->
   codeAny (av X.prog X.w) X.A (.builtin (mdL m) ⟨[.ref (s.heap.objs.size+1),.none,.ref S],[]⟩) R {s with heap:=h}:=λ{S h c R} hS st hs g hR=>by
  have off:S∉[s.heap.objs.size+1]:=by rw[eL,hS];exact ic (iE _)
  have still:∀{j h f},(Heap.IsTupleIter h (s.heap.objs.size+1) s.heap.objs.size j/\h.IsTuple s.heap.objs.size #[u,w])->_:=λ{j h f} st=>W.frame j h (h.update S (ef f)) st λb hb o e=>(kP _ _ λz:S=b=>by
   rw[<-z,hS,bu,eL] at hb;rcases hb with hb|hb<;>simp at hb).trans e
  have last:∀{z:aj}{zv:V}{h:az}{c t:af},L2.RelV zv z->Rep All H zv (if k then b else a)->(h.IsTupleIter (s.heap.objs.size+1) s.heap.objs.size 2/\h.IsTuple s.heap.objs.size #[u,w])->h.get? S=ab {cls:=.type "list",data:=.seq #[z,z] c}->(∀b o,s.heap.get? b=ab o->h.get? b=ab o)->codeAny (av X.prog X.w) X.A (.builtin (mdL m) ⟨[.ref (s.heap.objs.size+1),.none,.ref S],[]⟩) R {s with heap:=h,toks:=t}:=λrz rr st hs g=>by
   cases m
   all_goals
    refine iS (aK0 _) ?_;rw[jn (R7 _)];refine am (m:=zj (.ref S)) (gx hs rfl ?_);refine am (ng (m:=gN _) (W.done _ _ _ st λh' tk kp=>?_));exact am (m:=lh S _) (nh (kp S _ off hs) rfl (am (ki (aE (hR _ _ ⟨_,H,I.kept λb o e=>(up hS g kp b o e).1,rz,q.self rr λz=>by cases z⟩)))))
  cases m
  all_goals
   refine iS (aK0 _) ?_;rw[jn (R7 _)];refine am (m:=zj (.ref S)) (gx hs rfl ?_);refine am (ng (m:=gN _) (W.item 0 _ _ _ Nat.two_pos st λv0 h4 t4 p4 st4 k4=>?_));have s4:=k4 S _ off hs;refine am (m:=lh S _) (nh s4 rfl ?_)
   first|rw[aF7]|rw[aF8]
   refine aE ⟨li (R7 _) _,iS (aK0 _) ?_⟩;rw[jn (R7 _)];refine am (m:=zj (.ref S)) (gx (kh _ s4 rfl) rfl ?_);refine am (ng (m:=gN _) (W.item 1 _ _ _ Nat.one_lt_two (still st4) λv1 h5 t5 p5 st5 k5=>?_));cases p4;cases p5;have g5:=up (f:=id) hS (λb o e=>(up hS g k4 b o e).1) k5;have s5:=k5 S _ off (kh _ s4 rfl);refine am (aE ?_);refine am (ng (fq (am (m:=Bf _ w u) (RP (I.kept λb o e=>(g5 b o e).2) _ aY X.A.in1 (ui (BQ (by decide:13<=20) _) hu) he.2 he.1 r' r v' v hk X.prog X.w _ _ ?_))));refine am (fq (lP (am (ki (aE ?_)))));cases k
   ·refine am (ki ?_)
    first|rw[aF7]|rw[aF8]
    exact aE ⟨li (R7 _) _,last v r st5 s5 λb o e=>(g5 b o e).2⟩
   ·refine am (m:=lh S _) (nh s5 rfl (am (ki ?_)))
    first|rw[aF7]|rw[aF8]
    exact aE ⟨li (R7 _) _,last v' r' (still st5) (kh _ s5 rfl) λb o e=>(up hS (λb o e=>(up hS g k4 b o e).1) k5 b o e).1⟩
 cases m;refine Cq F.kind_min F.plain_min F.entry_min (F.args_min2 _ _) ?_
 rotate_left
 refine Cq F.kind_max F.plain_max F.entry_max (F.args_max2 _ _) ?_
 all_goals
  refine am (m:=D3 _ ["key","default"] 0 ⟨[],[]⟩) (Cr (a:=[ai,ai]) rfl ?_);refine am (m:=newTuple [u,w]) (jz (am (iP pl (am (jz ?_)))))
  first|rw[aF7]|rw[aF8]
  refine aE ⟨li (R7 _) _,?_⟩;have hJ:((s.heap.push {cls:=.type "tuple",data:=.seq #[u,w]}).push {cls:=.type "tuple_iterator",data:=.fields #[.ref s.heap.objs.size,.int 0 0]}).objs.size=s.heap.objs.size+2:=by rw[dE,hI]
  have it:((s.heap.push {cls:=.type "tuple",data:=.seq #[u,w]}).push {cls:=.type "tuple_iterator",data:=.fields #[.ref s.heap.objs.size,.int 0 0]}).IsTupleIter (s.heap.objs.size+1) s.heap.objs.size 0:=⟨_,hI▸cx _ rfl,rfl,rfl⟩
  have:=lp (c:=0) (R:=λr s'=>match r with|.ok (.ret v)=>EP X Ψ σ Q v s'|.ok _=>ck|.error e=>X.xe e s') hJ (W.frame _ _ _ ⟨it,pl.push _⟩ λb _ o e=>bw _ e) (cx _ rfl) (λb o e=>bw _ (bw _ (bw _ e))) λ_ _ h=>h
  rw[<-hI] at this;exact this
theorem aK1{X:Cx}(hu:X.A.units+20<bX)(hc:X.calm=ae):lE X (.builtin "min") (rs (nD .lt) ah):=aH8 ah hu hc
theorem aK2{X:Cx}(hu:X.A.units+20<bX)(hc:X.calm=ae):lE X (.builtin "max") (rs (nD .gt) ah):=aH8 ae hu hc
end
noncomputable def sCt:FS:=λρ=>.ok (.ct ρ)
section
variable [KFrag]
theorem aK3{X:Cx}{own:af->aq}{pos:cj}:PS X (.Continue pos) (tS own sCt):=PS.imp QZ λD σ H z0=>by
 obtain⟨ρ,fl,E,h,q⟩:=z0;cases h;exact q σ H (λa o e n=>⟨e,n⟩) E
end
inductive Srx where
 |par (i:af)
 |exp (f:FE)
def okF(d:D):aq:=d.pure||inner d
def xV(c f:Str)(fa:FE):FE:=λρ=>do
 let d <- fa ρ
 match d with
 |.ins c' fs=>if ϒ (c'=c) then ν (fs.lookup f) else .bad
 |_=>.bad
noncomputable def aU4:HO->aq
 |.tup _=>ae
 |.frz _ _=>ae
 |.ext _=>ae
 |_=>ah
section
variable [KFrag]
def R8(H H':Hp):Prop:=∀a o,H a=ab o->aU4 o=ae->H' a=ab o
theorem R8.tl(k:R8 H H')(a:ak)(o:HO)(e:H a=ab o)(h:RG o=ah):H' a=ab o:=k a o e (by
 cases o with
 |tup _=>rfl
 |frz _ u=>cases u<;>first|rfl|exact fx0 h.symm
 |_=>exact fx0 h.symm)
theorem Rep.uU{P P':ak->Prop}(k:R8 H H')(q:Rep P H v d)(h:d.pure=ae):Rep P' H' v d:=q.vK k.tl h
theorem bT.uU{P P':ak->Prop}(k:R8 H H')(q:bT P H v d)(h:θ d=ae):bT P' H' v d:=q.vK k.tl h
theorem iJ.uU(k:R8 H H'):∀{v:aa (Key×V)}{d:aa (D×D)},iJ P H v d->θ (d.map (·.2))=ae->iJ P' H' v d
 |_,_,.nil,_=>.nil
 |_,_,.cons r t,h=>by
  rw[bd,θ,aI] at h;exact .cons (r.uU k h.1) (iJ.uU k t h.2)
theorem o6.uU(k:R8 H H'):∀{v:aa (aa Key×V)}{d:aa (D×D)},o6 P H v d->θ (d.map (·.2))=ae->o6 P' H' v d
 |_,_,.nil,_=>.nil
 |_,_,.cons r t,h=>by
  rw[bd,θ,aI] at h;exact .cons (r.uU k h.1) (o6.uU k t h.2)
def aH9(x:ak)(H H':Hp):Prop:=∀a o,H a=ab o->a≠x->H' a=ab o
theorem aH9.upd:aH9 x H (upd H x o):=λa o' e n=>by rw[bG n];exact e
theorem aH9.use(b:aH9 x H H')(hx:H x=ab (.ins C dx fs)):R8 H H':=λa o e u=>b a o e λz=>by
 subst z;rw[hx] at e;cases e;cases u
theorem Rep.okK(b:aH9 x H H')(hx:H x=ab (.ins C dx fs))(m:∀a,P a->P' a)(r:Rep P H v d)(h:okF d=ae):Rep P' H' v d:=by
 have k:=b.use hx;rcases(fT _ _).mp h with h|h
 ·exact r.uU k h
 ·cases r with
  |lst e p r=>exact .lst (b _ _ e (GP e hx 0x7)) (m _ p) (r.uU k h)
  |cel e p r=>exact .cel (b _ _ e (GP e hx 0x7)) (m _ p) (r.uU k h)
  |dK e p r n=>exact .dK (b _ _ e (GP e hx 0x7)) (m _ p) (r.uU k h) n
  |dT e p r n=>exact .dT (b _ _ e (GP e hx 0x7)) (m _ p) (r.uU k h) n
  |dlK e p r n=>exact .dlK (b _ _ e (GP e hx 0x7)) (m _ p) (r.uU k h) n
  |dlT e p r n=>exact .dlT (b _ _ e (GP e hx 0x7)) (m _ p) (r.uU k h) n
  |_=>cases h
theorem n_.okK(b:aH9 x H H')(hx:H x=ab (.ins C dx fs))(m:∀a,P a->P' a):∀{v:aa (Str×V)}{d:aa (Str×D)},n_ P H v d->(d.all λp=>okF p.2)=ae->n_ P' H' v d
 |_,_,.nil,_=>.nil
 |_,_,.cons r t,h=>by
  rw[hZ,aI] at h;exact .cons (r.okK b hx m h.1) (n_.okK b hx m t h.2)
theorem n_.snoc(r1:Rep P H w e):∀{v:aa (Str×V)}{d:aa (Str×D)},n_ P H v d->n_ P H (v++[(f,w)]) (d++[(f,e)])
 |_,_,.nil=>.cons r1 .nil
 |_,_,.cons r t=>.cons r (n_.snoc r1 t)
theorem n_.look:∀{v:aa (Str×V)}{d:aa (Str×D)},n_ P H v d->d.lookup f=ab e->∃w,v.lookup f=ab w/\Rep P H w e
 |_,_,.nil,h=>by cases h
 |_,_,.cons r t,h=>by
  rw[iq] at h ⊢;split at h
  ·cases h;exact⟨_,rfl,r⟩
  ·exact n_.look t h
theorem WD:∀{vf:aa (Str×V)},f∉vf.map (·.1)->GR f y vf=vf++[(f,y)]
 |[],_=>rfl
 | (g,x)::r,h=>by
  rw[bd,bu,gw] at h;show(if g=f then (g,y)::r else (g,x)::GR f y r)=_;rw[au (λz=>h.1 z.symm),WD h.2];rfl
def sT:Srx->TE
 |.par i=>aQz i
 |.exp f=>gE f ae
def aS6(K:bi):aa (Str×Srx)->TS
 |[]=>aMz
 | (f,s)::r=>aR4 (aT2 K (aQz 0) (sT s) f) (aS6 K r)
section
variable {c:Str}
theorem aK4(hq:∀vs H',Q vs H'->Q' vs H')(h:gA fa rr σ H Q):gA fa rr σ H Q':=by
 obtain⟨ρ,ds,E,h1,q⟩:=h;exact⟨ρ,ds,E,h1,λvs H' s r n=>hq _ _ (q vs H' s r n)⟩
def Z3(K:bi)(c f:Str):Prop:=∀C,jh K cb c=ab (ab (.ref C))->Cls K C/\sZ K C f
theorem nY(hK:KFrag.K=X.K)(R:Z3 X.K c f)(he:PE X e (gE fe re))(hb:gn e f X.env (bc e X.env)=bc e X.env:=by rfl):PE X (.Attribute e f pos) (gE (xV c f fe) ah):=PE.imp (aNa he hb) λσ H Q z0=>by
 obtain⟨ρ,d,E,h,q⟩:=z0;obtain⟨d0,h1,h2⟩:=bB h;split at h2
 ·rename_i c' fs;split at h2
  ·rename_i hc;have hc:=c8 hc;subst hc;refine⟨ρ,_,E,h1,λv H1 s1 r1 _=>?_⟩;obtain⟨_,_,_,_,rfl,hn,hx,rf⟩:=r1.inv;rw[hK] at hn;obtain⟨k1,k2⟩:=R _ hn;cases hl:fs.lookup f with
   |none=>rw[hl] at h2;exact bx h2
   |some d1=>
    rw[hl] at h2;cases h2;obtain⟨w,g1,g2⟩:=rf.look hl;exact⟨_,_,_,_,w,rfl,hx,k1,k2,g1,q w H1 s1 g2 (λz=>by cases z)⟩
  ·exact bx h2
 ·exact bx h2
end
end
noncomputable def rowOf(s:bn)(j:af):bn:=match s with
 |.ClassDef _ _ _ b _ _ _ _ _ _ _=>b.getD j (.Pass ⟨0,0,0,0⟩)
 |_=>.Pass ⟨0,0,0,0⟩
section
variable [KFrag]
theorem n_.gW:∀{v:aa (Str×V)}{d:aa (Str×D)},n_ P H v d->d.lookup f=ai->v.lookup f=ai
 |_,_,.nil,_=>rfl
 |_,_,.cons r t,h=>by
  rw[iq] at h ⊢;split at h
  ·cases h
  ·exact n_.gW t h
noncomputable def own1(j:af):af->aq:=λi=>i==j
end
noncomputable def aMi(j:af)(fe:FE):FE:=λρ=>do
 let d <- fe ρ
 match d,ρ.getD j .uD with
 |.adr a,.cel b xs=>if a=b then .ok (.lst xs) else .bad
 |_,_=>.bad
def xP(j:af)(fo fe:FE):FS:=λρ=>do
 let o <- fo ρ
 let d <- fe ρ
 match o,ρ.getD j .uD with
 |.adr a,.cel b xs=>if ϒ (a=b)&&(ϒ (xs.length<lim)&&d.pure) then .ok (.nx (ρ.set j (.cel b (xs++[d])))) else .bad
 |_,_=>.bad
noncomputable def aS7(n:af):Fl->Res D
 |.rt (.tup (d::ρ))=>.ok (.tup [d,ρ.getD n .uD,ρ.getD (n+1) .uD])
 |.nx ρ=>.ok (.tup [.non,ρ.getD n .uD,ρ.getD (n+1) .uD])
 |_=>.bad
def fnG(n m:af)(f:FS):aa D->Res D:=λds=>do
 let r <- f (ds++bq (m-(n+2)) .uD)
 aS7 n r
noncomputable def FN(n:af):af->aq:=λi=>i==n||i==n+1
def tQ(c m:Str)(f:aa D->Res D)(n i j:af)(fa:FA):FX:=λρ=>do
 let d0 <- gM i ρ
 let ds <- fa ρ
 match d0,ρ.getD j .uD,ρ.getD (j+1) .uD with
 |.ins c' fs,.cel p xs,.cel t ys=>
  if ϒ (c'=c)&&((fs.lookup m).isNone&&ϒ (ds.length+1=n)) then (do
   let r <- f (.ins c' fs::ds++[.cel p xs,.cel t ys])
   match r with
   |.tup [d,.cel p' xs',.cel t' ys']=>if ϒ (p'=p)&&(ϒ (t'=t)&&(θ xs'&&θ ys')) then .ok (d,(ρ.set j (.cel p xs')).set (j+1) (.cel t ys')) else .bad
   |_=>.bad) else .bad
 |_,_,_=>.bad
noncomputable def gh(j:af)(p t:ak)(σ:L2.St):L2.St:=(σ.set j (ab (.ref p))).set (j+1) (ab (.ref t))
variable [KFrag]
section
theorem aC4(he:PE X e (gE fe re)):PE X e (gE (aMi j fe) ah):=PE.imp he λσ H Q z0=>by
 obtain⟨ρ,d,E,h,q⟩:=z0;obtain⟨d0,h1,h⟩:=bB h;split at h
 ·rename_i a b xs hb;split at h
  ·rename_i hab;subst hab;cases h;refine⟨ρ,_,E,h1,λv H' s r _=>?_⟩;obtain rfl:=r.inv;obtain⟨w,_,rw1⟩:=(E.same s) j (by rw[hb];intro z;cases z);rw[hb] at rw1;obtain⟨vs,rfl,e1,_,rr⟩:=rw1.inv;exact q _ _ s (.lst e1 trivial rr) (λz=>by cases z)
  ·exact bx h
 ·exact bx h
theorem tX{o e:Expr}(ho:own j=ae)(hob:PE X o (gE fo ro))(he:PE X e (gE fe re))
 (hbase:gn o "append" X.env (bc o X.env)=bc o X.env:=by rfl)
 (hs1:zSE X e []:=by rfl)
 (hfew:zFw X cpos [e]:=by rfl)
 (hline:(apos.endLine==cpos.line)=ae:=by rfl)
 (hs:dw (.Call (.Attribute o "append" apos) [e] [] cpos) ai pos.line X.env=pure ah:=by rfl) :
  PS X (.Expr (.Call (.Attribute o "append" apos) [e] [] cpos) pos) (tS own (xP j fo fe)):=
 PS.imp (vG (YF la sN yq uJ hob (eG he j8 hs1) hbase hfew hline hs1 rfl) hs) λD' σ H z0=>by
 obtain⟨ρ,fl,E,h0,q⟩:=z0;obtain⟨d0,h1,hA⟩:=bB h0;clear h0;obtain⟨d,h2,h⟩:=bB hA;clear hA;split at h
 ·rename_i a b xs hb;split at h
  ·rename_i hk;cases h;rw[aI,aI] at hk;have hab:=c8 hk.1;subst hab;obtain⟨a2,vs,hσ,hl,rr,hin,r,hba⟩:=vU E ho (xs:=xs) (by rw[hb];rfl);have:=hba a hb;subst this;have pn:θ (xs++[d])=ae:=by
    rw[lW];simp only[aI];exact⟨hin,by simp[θ,hk.2.2]⟩
   refine⟨ρ,_,E.er,h1,λu H1 s1 r1 _=>?_⟩;obtain rfl:=r1.inv;refine⟨.inl ⟨rfl,vs,.of (s1 _ _ hl)⟩,ρ,d,E.er.same s1,h2,λv H' s rv _=>⟨a,vs,v,rfl,rfl,s _ _ (s1 _ _ hl),by rw[rr.length];exact MF hk.2.1,?_⟩⟩;have E':=E.same (s1.trans s);have hl':=s _ _ (s1 _ _ hl);obtain⟨E2,k2⟩:=E'.mut ho hσ (o:=.lst (vs++[v])) rfl (.cel aK trivial (((rr.same (s1.trans s)).snoc rv).upd pn hl' rfl)) (by exact pn);exact q _ _ ((KU.same (s1.trans s)).trans k2) E2
  ·exact bx h
 ·exact bx h
def spG(f:aa D->Res D)(n:af):Sp:=λvs H Q _=>∃(ds:aa D)(p t:ak)(xs ys:aa D)(d:D)(xs' ys':aa D),vs.length=n/\ds.length=n/\ES (FN n) H ((vs++[V.ref p,V.ref t]).map ab) (ds++[.cel p xs,.cel t ys])/\f (ds++[.cel p xs,.cel t ys])=.ok (.tup [d,.cel p xs',.cel t ys'])/\
 ∀v H',(∀a o,H a=ab o->a≠p->a≠t->H' a=ab o)->Rep All H' (.ref p) (.cel p xs')->θ xs'=ae->Rep All H' (.ref t) (.cel t ys')->θ ys'=ae->Rep (New H) H' v d->Q v H'
theorem aHa{w:af->aq}{ws:aa V}{ds:aa D}{m k:af}(E0:ES w H (ws.map ab) ds)(hw:ws.length=m)(hd:ds.length=m)(hown:∀i,i<m->own i=w i)(hlt:∀i,w i=ae->i<m) :
  ES own H (ws.map ab++bq k ai) (ds++bq k .uD)/\∀a,Own own (ws.map ab++bq k ai) a↔Own w (ws.map ab) a:=by
 have low:∀i,i<m->(ws.map ab++bq k ai)[i]?=(ws.map ab)[i]?:=λi hi=>by rw[gq (by simp[hw,hi])]
 have high:∀i v,m<=i->(ws.map ab++bq k ai)[i]?≠ab (ab v):=λi v hi e=>by
  rw[gm (by simp[hw];lia),jc] at e;split at e<;>cases e
 have hO:∀a,Own own (ws.map ab++bq k ai) a↔Own w (ws.map ab) a:=λa=>by
  constructor
  ·rintro⟨i,hi,e⟩;by_cases h:i<m
   ·exact⟨i,by rw[<-hown i h];exact hi,by rw[<-low i h];exact e⟩
   ·exact ay e (high i _ 0x1)
  ·rintro⟨i,hi,e⟩;have h:=hlt i hi;exact⟨i,by rw[hown i h];exact hi,by rw[low i h];exact e⟩
 have hOf:(λa=>¬Own own (ws.map ab++bq k ai) a)=λa=>¬Own w (ws.map ab) a:=funext λa=>by rw[hO]
 have gd:∀i,i<m->(ds++bq k D.uD).getD i .uD=ds.getD i .uD:=λi hi=>by
  rw[b9,gq 0x1,b9]
 refine⟨⟨by simp[hw,hd],λi hi=>?_,λi v hi hv=>?_⟩,hO⟩
 ·have hl:i<m:=ou λhge=>hi (by
   rw[b9,gm 0x1,jc];split<;>rfl)
  rw[gd i hl] at hi ⊢;obtain⟨v,g1,g2⟩:=E0.at_ i hi;exact⟨v,by rw[low i hl];exact g1,λho=>by rw[hOf];exact g2 (by rw[<-hown i hl];exact ho)⟩
 ·have hl:i<m:=ou λhge=>high i v hge hv
  rw[low i hl] at hv;rw[gd i hl];obtain⟨a,o,g1,g2,g3,g4,g5,g6⟩:=E0.own i v (by rw[<-hown i hl];exact hi) hv;refine⟨a,o,g1,g2,g3,g4,g5,λj hj hs=>?_⟩;have hjl:j<m:=ou λhge=>high j _ hge hs
  exact g6 j (by rw[<-hown j hjl];exact hj) (by rw[<-low j hjl];exact hs)
theorem aF9{N:aa Str}{vs:aa V}{n:af}(hv:vs.length=n)(hN:n+2<=N.length):gh n p t (L2.start N vs)=(vs++[V.ref p,.ref t]).map ab++bq (N.length-(n+2)) ai:=by
 obtain⟨k,hk⟩:∃k,N.length=n+2+k:=⟨N.length-(n+2),by lia⟩
 unfold gh L2.start;rw[hv,hk,show n+2+k-n=k+2 by lia,show n+2+k-(n+2)=k by lia,uS,uS,b6];rw[Cs _ _ (by simp[hv]),Cs _ _ (by simp[hv])];simp[hv]
theorem aFa{n:af}{N:aa Str}{f:FS}{vs:aa V}{H:Hp}{Q:VK}{E:XK}(hx:own rtX=ae)(hown:∀i,i<n+2->own i=FN n i)(hN:n+2<=N.length)(h0:spG (fnG n N.length f) n vs H Q E):∃p t,tS own f {nx:=λ_ H'=>Q .non H',rt:=Q} (gh n p t (L2.start N vs)) H:=by
 obtain⟨ds,p,t,xs,ys,d,xs',ys',hvl,hl,E0,h,q⟩:=h0;obtain⟨fl,h1,h2⟩:=bB h;refine⟨p,t,?_⟩;rw[aF9 hvl hN];obtain⟨E1,hO⟩:=aHa (own:=own) (k:=N.length-(n+2)) E0 (m:=n+2) (by simp[hvl]) (by simp[hl]) hown (λi hi=>by simp[FN] at hi;lia);have hp:Own (FN n) ((vs++[V.ref p,.ref t]).map ab) p:=⟨n,by simp[FN],by simp[hvl]⟩
 have ht:Own (FN n) ((vs++[V.ref p,.ref t]).map ab) t:=⟨n+1,by simp[FN],by simp[hvl]⟩
 have hOn:∀a,Own (FN n) ((vs++[V.ref p,.ref t]).map ab) a->a=p\/a=t:=λa z0=>by
  obtain⟨i,hi,e⟩:=z0;simp only[FN,fT,ig] at hi;rcases hi with rfl|rfl
  ·simp[hvl] at e;exact .inl e.symm
  ·simp[hvl] at e;exact .inr e.symm
 have fin:∀v σ' H' ρ',ρ'.getD n .uD=.cel p xs'->ρ'.getD (n+1) .uD=.cel t ys'->KU own ((vs++[V.ref p,.ref t]).map ab++bq (N.length-(n+2)) ai) H σ' H'->ES own H' σ' ρ'->Rep (New H) H' v d->Q v H':=λv σ' H' ρ' g1 g2 ku E' r=>by
  have one:∀i b zs,own i=ae->ρ'.getD i .uD=.cel b zs->Rep All H' (.ref b) (.cel b zs)/\θ zs=ae:=λi b zs hoi g=>by
   obtain⟨w',z2,_⟩:=E'.at_ i (by rw[g];intro z;cases z);obtain⟨a,o,rfl,g4,g5,_⟩:=E'.own i w' hoi z2;rw[g] at g4 g5;have:=aBw g4;cases this;exact⟨g4,g5⟩
  obtain⟨a1,a2⟩:=one n p xs' (by rw[hown n 0x1];simp[FN]) g1;obtain⟨b1,b2⟩:=one (n+1) t ys' (by rw[hown (n+1) 0x1];simp[FN]) g2;exact q v H' (λa o e n1 n2=>(ku a o e (by rw[hO];intro z;rcases hOn a z with z|z;exact n1 z;exact n2 z)).1) a1 a2 b1 b2 r
 refine⟨_,fl,E1,h1,?_⟩;cases fl with
 |nx ρ'=>
  simp only[aS7] at h2;injection h2 with h2
  injection h2 with h2
  injection h2 with z1 z2
  injection z2 with z2 z3
  injection z3 with z3
  subst z1;exact λσ' H' ku E'=>fin .non σ' H' ρ' z2 z3 ku E' .non
 |bk ρ'=>exact bx h2
 |ct ρ'=>exact bx h2
 |rt d'=>
  show kRt own _ _ _ d';unfold kRt;rw[al hx];unfold aS7 at h2;split at h2
  ·rename_i d1 ρ' heq;cases heq;injection h2 with h2
   injection h2 with h2
   injection h2 with z1 z2
   injection z2 with z2 z3
   injection z3 with z3
   subst z1;refine⟨_,_,rfl,λv σ' H' ku E' r=>fin v σ' H' ρ' z2 z3 ku E' (r.mono λa ha=>?_)⟩;rcases ha.1 with ho|hn
   ·exfalso;rw[hO] at ho;rcases hOn a ho with rfl|rfl
    ·exact ha.2 n _ xs' z2 rfl
    ·exact ha.2 (n+1) _ ys' z3 rfl
   ·exact hn
  ·rename_i heq;cases heq
  ·exact bx h2
theorem aC5{X:Cx}{Ψ:aa (ak×bf)}{σ:L2.St}{H:Hp}{s:ao}{j:af}{v:V}(I:Inv X Ψ σ H s)(n:∀x,X.N[j]?=ab x->¬Vis X.env.scope x):Inv X Ψ (σ.set j (ab v)) H s:=
 ⟨I.ok,I.os,I.bare,I.base,let ⟨m,hn,hl⟩:=I.loc;⟨m,hn,λi x v e1 e2 e3=>hl i x v e1 (by
  by_cases h:j=i
  ·subst h;exact ay e3 (n x e1)
  ·rw[c5 h] at e2;exact e2) e3⟩,I.cell,I.free,I.freeC,I.pin,I.hok,by rw[kg];exact I.len⟩
def Hid(X:Cx)(j:af):Prop:=∀x,X.N[j]?=ab x->¬Vis X.env.scope x
theorem aHb{st:aa bn}(h:PSs X st t)(n1:Hid X j)(n2:Hid X (j+1)):PSs X st (λD σ H=>∃p q,t D (gh j p q σ) H):=λΨ s σ H D I ⟨p,q,h'⟩=>h Ψ s _ H D (aC5 (aC5 I n1) n2) h'
theorem uV{X:Cx}{j:af}{y:Str}(h:X.N[j]?=ab y)(hl:X.env.scope.names.lookup y=ai):Hid X j:=λx e v=>by
 rw[h] at e;cases e;unfold Vis at v;rw[hl] at v;rcases v with v|v|v<;>cases v
theorem aC6{P:b5}{w:br}{K:bi}{mg:Str->ar aj}{base:az}{x qual:Str}{st:bn}{fad:ak}{fd:dS}{N ps:aa Str}{k:af}{f:FS}(F:Fun K x qual st fad fd)(S:bV N ps (aL st))(own:af->aq)(hx:own rtX=ae)(hown:∀i,i<ps.length+2->own i=FN ps.length i)(hN:ps.length+2<=N.length){y1 y2:Str}(e1:N[ps.length]?=ab y1)(l1:(aL st).names.lookup y1=ai)(e2:N[ps.length+1]?=ab y2)(l2:(aL st).names.lookup y2=ai)
 (hbody:∀(cdv:aj) (A:cg) (outer:aa dg) (s:ao) (H:Hp) (E:XK),nZ k (A.deeper (fS qual (aL st) s.heap.objs.size fad cdv))->PSs (Z2 CX0 P w K mg base N qual (aL st) fad cdv A outer s H E).nox (d7 st) (tS own f)):vH P w K mg base CX0 (k+1) fad fd ps (spG (fnG ps.length N.length f) ps.length):=
 F.ok S (λvs H Q E ⟨_,_,_,_,_,_,_,_,e,_⟩=>e) λcdv A outer s H vs Q E hr h=>⟨_,aHb (hbody cdv A outer s H E hr) (uV e1 l1) (uV e2 l2),aFa hx hown hN h⟩
def aHc(P:b5)(w:br)(K:bi)(mg:Str->ar aj)(base:az)(k:af)(c m:Str)(n:af)(f:aa D->Res D):Prop:=
 ∃(C fm:ak)(fd:dS)(ps:aa Str),jh K cb c=ab (ab (.ref C))/\Cls K C/\Meth K C m fm/\vH P w K mg base CX0 k fm fd ps (spG f n)/\Binds K fd ps []
theorem aS8{p t:ak}{n:af}(hpt:p≠t)(hp:H p=ab (.lst vp))(rp:bT All H vp xs)(px:θ xs=ae)(ht:H t=ab (.lst vt))(rt:bT All H vt ys)(py:θ ys=ae)(rs:bT (λb=>b≠p/\b≠t) H vs ds)(hl:vs.length=n):ES (FN n) H ((vs++[V.ref p,.ref t]).map ab) (ds++[.cel p xs,.cel t ys]):=by
 have hd:ds.length=n:=by rw[<-rs.length];exact hl
 have hO:∀b,Own (FN n) ((vs++[V.ref p,.ref t]).map ab) b->b=p\/b=t:=λb z0=>by
  obtain⟨i,hi,e⟩:=z0;simp only[FN,fT,ig] at hi;rcases hi with rfl|rfl
  ·simp[hl] at e;exact .inl e.symm
  ·simp[hl] at e;exact .inr e.symm
 have g0:(ds++[D.cel p xs,.cel t ys]).getD n .uD=.cel p xs:=by simp[b9,hd]
 have g1:(ds++[D.cel p xs,.cel t ys]).getD (n+1) .uD=.cel t ys:=by simp[b9,hd]
 have v0:((vs++[V.ref p,.ref t]).map ab)[n]?=ab (ab (.ref p)):=by simp[hl]
 have v1:((vs++[V.ref p,.ref t]).map ab)[n+1]?=ab (ab (.ref t)):=by simp[hl]
 refine⟨by simp[hl,hd],λi hi=>?_,λi v hi hv=>?_⟩
 ·rcases Ct i n with h|h|h
  ·have e:(ds++[D.cel p xs,.cel t ys]).getD i .uD=ds.getD i .uD:=by rw[b9,gq 0x1,b9]
   rw[e] at hi ⊢;cases hq:ds[i]? with
   |none=>rw[b9,hq] at hi;exact ay rfl hi
   |some d=>
    obtain⟨v,z1,z2⟩:=rs.get hq;rw[b9,hq];refine⟨v,?_,λ_=>z2.mono λb hb ho=>?_⟩
    ·rw[gs,gq 0x1,z1];rfl
    ·rcases hO b ho with z|z
     ·exact hb.1 z
     ·exact hb.2 z
  ·subst h;exact⟨_,v0,λz=>by simp[FN] at z⟩
  ·by_cases h2:i=n+1
   ·subst h2;exact⟨_,v1,λz=>by simp[FN] at z⟩
   ·exfalso;apply hi;rw[b9,oI (by simp[hd];lia)];rfl
 ·simp only[FN,fT,ig] at hi;rcases hi with rfl|rfl
  ·rw[v0] at hv;cases hv;rw[g0];refine⟨p,_,rfl,.cel hp trivial rp,px,hp,rfl,λj hj hs=>?_⟩;simp only[FN,fT,ig] at hj;rcases hj with rfl|rfl
   ·rfl
   ·rw[v1] at hs;cases hs;exact ay rfl hpt
  ·rw[v1] at hv;cases hv;rw[g1];refine⟨t,_,rfl,.cel ht trivial rt,py,ht,rfl,λj hj hs=>?_⟩;simp only[FN,fT,ig] at hj;rcases hj with rfl|rfl
   ·rw[v0] at hs;cases hs;exact ay rfl hpt
   ·rfl
theorem uW(hK:KFrag.K=X.K)(R:aHc X.prog X.w X.K X.mg X.base k c m n f)(hr:nZ k' X.A)(hkk:k<=k')(ho:own i=ah)(hj:own j=ae)(hj2:own (j+1)=ae)(hN:X.N[i]?=ab y)(hv:Vis X.env.scope y)(ha:PA X (e::es) (gAO own fa))(hd:(y==("__debug__" : Str))=ah:=by decide)(hcd:(y==("__classdict__" : Str))=ah:=by decide)
 (hst:zSE X e es:=by rfl)(hpl:zSP X pos es:=by rfl)
 (ht:bc (.Call (.Attribute (.Name y py) m apos) (e::es) [] pos) X.env=(do
   let ov <- bc (.Name y py) X.env
   kC apos.atName
   let (f,first) <- i9 [ov] (sx ov m pl)
   sy pos f first (iw pos (bP (e::es) X.env)) (vx pos (vE [] X.env))):=by rfl) :
  PE X (.Call (.Attribute (.Name y py) m apos) (e::es) [] pos) (gX own (tQ c m f n i j fa)):=by
 obtain⟨C,fm,fd,ps,hn,cl,M,F,hb⟩:=R;refine PE.imp (aIj (fX hN hv hd hcd) cl M F (hr.mono hkk) hb .nil aAq ha hst hpl ht) λσ H Q ⟨ρ,d,ρ',E,h0,q⟩=>?_
 obtain⟨d0,h1,hA⟩:=bB h0;obtain⟨ds,h2,h⟩:=bB hA;clear h0 hA;split at h
 ·rename_i c' fs p xs t ys hp0 ht0;split at h
  ·rename_i hc;rw[aI,aI,Option.isNone_iff_eq_none] at hc;obtain⟨hc1,hc2,hc3⟩:=hc;have hc1:=c8 hc1;have hc3:=c8 hc3;subst hc1;obtain⟨r,h3,hB⟩:=bB h;clear h
   revert hB
   intro h;split at h
   ·rename_i d1 p' xs' t' ys';split at h
    ·rename_i hg;rw[aI,aI,aI] at hg;obtain⟨e1,e2,px',py'⟩:=hg;have e1:=c8 e1;have e2:=c8 e2;subst e1 e2;cases h;obtain⟨v,hσ,rv⟩:=aJu E ho h1;obtain⟨a,vp,hσp,hp,rp,px,_,hpa⟩:=vU E hj (xs:=xs) (by rw[hp0];rfl);have:=hpa _ hp0;subst this;obtain⟨b,vt,hσt,ht1,rt,py,_,htb⟩:=vU E hj2 (xs:=ys) (by rw[ht0];rfl);have:=htb _ ht0;subst this;have hpt:p'≠t':=λz=>by
      subst z;obtain⟨b,o,eb,_,_,_,_,huq⟩:=E.own j _ hj hσp;cases eb;have:=huq (j+1) hj2 hσt;lia
     have hOp:Own own σ p':=⟨j,hj,hσp⟩
     have hOt:Own own σ t':=⟨j+1,hj2,hσt⟩
     have rv0:=rv;obtain⟨x,C',dx,vf,rfl,hn',hx,rf⟩:=rv.inv;rw[hK,hn] at hn';cases hn';refine⟨_,hσ,x,dx,vf,rfl,hx,rf.gW hc2,ρ,ds,E,h2,λvs H1 s1 rs=>?_⟩;dsimp only;rw[dq];refine⟨.ins c' fs::ds,p',t',xs,ys,d,xs',ys',by rw[aS,rs.length];exact hc3,by rw[aS];exact hc3,aS8 hpt (s1 _ _ hp) (rp.same s1) px (s1 _ _ ht1) (rt.same s1) py ((bT.cons (rv0.same s1) rs).mono λb hb=>⟨λz=>hb (by rw[z];exact hOp),λz=>hb (by rw[z];exact hOt)⟩) (by rw[aS,rs.length];exact hc3),h3,λw H' k1 a1 _ b1 _ rn=>?_⟩;obtain⟨vp1,ep1,_,rp1⟩:=aBv a1 rfl;obtain⟨vt1,et1,_,rt1⟩:=aBv b1 rfl
     let Hm:Hp:=λb=>if b=t' then H1 b else H' b
     have hmc:Hm t'=H1 t':=al rfl;have hmn:∀b,b≠t'->Hm b=H' b:=λb n=>au n
     have raM:Rep All Hm (.ref p') (.cel p' xs'):=by
      refine .cel (by rw[hmn p' hpt];exact ep1) trivial ?_;refine((rp1.bM px':bT (λ_=>ck) H' vp1 xs')).keep (λb ob eb hb=>?_) λ_ z=>z.elim
      rw[hmn b λz=>?_]
      ·exact eb
      ·subst z;rw[et1] at eb;cases eb;rcases hb with hb|hb
       ·exact hb.elim
       ·cases hb
     obtain⟨E1,k1'⟩:=(E.same s1).aS2 hj hσp (λb ob e n=>by
      by_cases hbc:b=t'
      ·subst hbc;rw[hmc];exact e
      ·rw[hmn b hbc];exact k1 b ob e n hbc) (by rw[hmn p' hpt];exact ep1) rfl raM px'
     obtain⟨E2,k2'⟩:=E1.aS2 hj2 hσt (λb ob e n=>by rw[hmn b n] at e;exact e) et1 rfl b1 py';exact q w H' ((KU.same s1).trans (k1'.trans k2')) E2 ((NS.set hj).trans (.set hj2)) (rn.mono λb hb=>s1.free hb)
    ·exact bx h
   ·exact bx h
  ·exact bx h
 ·exact bx h
end
end Mi
namespace Wn
open PySem PySem.Spec
theorem aU5(l:ak)(items:ax aj)(n:af)(dd:ar ak)(sl:ax (ar aj)) :
  ji (de.«enumerate.__new__» ⟨[.type "enumerate",.ref l],[]⟩) (λ_ R s=>s.heap.get? l=ab (Wz.tuO items n dd sl)/\
   R (.ok (.ret (.ref (s.heap.push (Wz.itO l 0)).objs.size)))
    {s with heap:=(s.heap.push (Wz.itO l 0)).push {cls:=.type "enumerate",data:=.fields #[.none,.bool ah,.ref s.heap.objs.size,d6 0,.none,.none]}}):=
 .of_wp λprog w A R s h=>by
  obtain⟨hp,g,d,tk,os⟩:=s;obtain⟨hl,h⟩:=h;have hsub:=Cu;have hT:uv (ux ⟨hp,g,d,tk,os⟩) l items:=⟨_,hl,rfl,n,rfl⟩
  wp_walk using lj hl
  refine Cv λst=>aE ?_
  split
  ·rename_i c _ _ _ _ _;cases (c==fN "enumerate")
   ·wp_walk using lj hl,iP hT
    exact⟨_,rfl,h⟩
   ·wp_walk using lj hl,iP hT
    exact⟨_,rfl,h⟩
  ·wp_walk using lj hl,iP hT
   exact⟨_,rfl,h⟩
section
theorem aS9(hL:s.heap.get? l=ab (Wz.tuO items n dd sl))
 (h:∀h',IsEnum h' (s.heap.objs.size+1) s.heap.objs.size 0 .none->h'.get? s.heap.objs.size=ab (Wz.itO l 0)->
   (∀b o,s.heap.get? b=ab o->h'.get? b=ab o)->Q (.ref (s.heap.objs.size+1)) {s with heap:=h'}) :
  ϑ (av prog w) A (call (.type "enumerate") [.ref l]) Q E s:=by
 refine B7 u7 0x4 (F.typeCall_enumerate_1 _) (F.newCall_enumerate_1 _) (λobj=>F.args_object_init_2 obj _) Cw
  (aU5 l items n dd sl) ⟨hL,?_⟩
 have hz:(s.heap.push (Wz.itO l 0)).objs.size=s.heap.objs.size+1:=dE ..;show _/\_;rw[hz];have he:IsEnum ((s.heap.push (Wz.itO l 0)).push {cls:=.type "enumerate",data:=.fields #[.none,.bool ah,.ref s.heap.objs.size,d6 0,.none,.none]}) (s.heap.objs.size+1) s.heap.objs.size 0 .none:=by
  have:=cx (s.heap.push (Wz.itO l 0)) (o:={cls:=.type "enumerate",data:=.fields #[.none,.bool ah,.ref s.heap.objs.size,d6 0,.none,.none]}) rfl;rw[hz] at this;exact this
 exact⟨⟨_,he,rfl⟩,h _ he (bw _ (cx _ rfl)) λb o x=>bw _ (bw _ x)⟩
theorem drT(hh:A.handled=ai)(it t:ak)(hne:t≠it)(items:ax aj)(n:af)(dd:ar ak)(sl:ax (ar aj)) :
  ve prog w A it [it,t] items.size (λi v=>items[i]?=ab v) (λi h=>h.get? it=ab (Wz.itO t i)/\h.get? t=ab (Wz.tuO items n dd sl)) where
 live:=λ_ _ st=>⟨_,st.1⟩
 frame:=λ_ _ _ st hk=>⟨hk it 0x2 _ st.1,hk t 0x2 _ st.2⟩
 item:=λi s Q E hi st hQ=>by
  have hx:items[i]?=ab items[i]:=um hi;exact Wz.drawn st.1 st.2 hx λh' e k=>hQ _ h' s.toks hx ⟨e,(k.2 t hne).trans st.2⟩ k
 done:=λs Q E st hE=>Wz.over hh st.1 st.2 (uo (aT _)) hE
theorem ovT(hh:A.handled=ai)(it t:ak)(items:ax aj)(n:af)(dd:ar ak)(sl:ax (ar aj))(i:af)(hi:items[i]?=ai):ve prog w A it [it,t] 0 (λ_ _=>gz) (λ_ h=>h.get? it=ab (Wz.itO t i)/\h.get? t=ab (Wz.tuO items n dd sl)) where
 live:=λ_ _ st=>⟨_,st.1⟩
 frame:=λ_ _ _ st hk=>⟨hk it 0x2 _ st.1,hk t 0x2 _ st.2⟩
 item:=λj s Q E hj=>ay hj (ye _)
 done:=λs Q E st hE=>Wz.over hh st.1 st.2 hi hE
end
end Wn
namespace Mi
open PySem L2 PySem.SeqAt PySem.Spec PyProof.Rows
theorem WF(p:kx h a its):∃n dd sl,h.get? a=ab (Wz.tuO its n dd sl):=by
 obtain⟨⟨c,dd,d,sl⟩,e,hc,n,hd⟩:=p;simp only at hc hd;subst hc hd;exact⟨n,dd,sl,e⟩
theorem aC7{h:az}(e:h.get? a=ab o)(hc:o.cls=.type T)(e':h.get? b=ab u)(hc':u.cls=.type U)(ne:(fN T==fN U)=ah):a≠b:=λq=>by
 subst q;rw[e] at e';cases e';rw[hc] at hc';rw[hc'] at ne;simp at ne
variable [KFrag]
end Mi
namespace Lw
open PySem PySem.Spec
noncomputable abbrev enO(f0:aj)(fb:aq)(it:ak)(k:ag)(old:aj):bf:={cls:=.type "enumerate",data:=.fields #[f0,.bool fb,.ref it,d6 k,.none,old]}
section
variable {prog:b5} {w:br} {A:cg} {E:aj->ao->Prop} {s:ao}
noncomputable abbrev lsO(acc:ax aj)(c:af):bf:={cls:=.type "list",dict:=ai,data:=.seq acc c,slots:=#[]}
theorem aK5{T:eh}{R:md->ao->Prop}(ty:s.TypeIs (.ref I) T)(n1:(fN T==fN "list")=ah)(n2:(fN T==fN "tuple")=ah)(hSI:S≠I)(hS:s.heap.get? S=ab {cls:=.type "list",data:=.seq #[]})
 (it:∀(h:az) (tk:af) (Q:aj->ao->Prop) (E:aj->ao->Prop),(∀b o,b≠S->s.heap.get? b=ab o->h.get? b=ab o)->Q (.ref I) {s with heap:=h,toks:=tk}->ϑ (av prog w) A.in1 (kG (.ref I)) Q E {s with heap:=h,toks:=tk})
 (hint:∀(h:az) (tk:af) (Q:aq->ao->Prop) (E:aj->ao->Prop),(∀b o,b≠S->s.heap.get? b=ab o->h.get? b=ab o)->(∀b tk',Q b {s with heap:=h,toks:=tk'})->ϑ (av prog w) A.in1 (zk (.ref I)) Q E {s with heap:=h,toks:=tk})
 (key:∀(h:az) (c tk:af),(∀b o,b≠S->s.heap.get? b=ab o->h.get? b=ab o)->h.get? S=ab (lsO #[] c)->codeAny (av prog w) A (.builtin "list.extend.loop" ⟨[.ref S,.ref I,.none],[]⟩) R {s with heap:=h,toks:=tk}) :
  ϑ (av prog w) A.in1 (de.«list.__init__» ⟨[.ref S,.ref I],[]⟩)
   (λfin s'=>match fin with|.done f=>R (.ok f) s'|.again c'=>c'.quiet=ae/\codeAny (av prog w) A c' R s') (λe s'=>R (.error e) s') s:=by
 show ϑ _ _ (do let old <- Cy (.ref S);D4 (.ref S) (λ_=>#[]);letGo old.toList.reverse;oP (.ref S) (.ref I) .none) _ _ s;refine am ?_;unfold Cy;refine am (gx hS rfl (aE ?_));show ϑ _ _ (lh S (λ_=>#[]) >>= λ_=>letGo (#[]:ax aj).toList.reverse >>= λ_=>oP (.ref S) (.ref I) .none) _ _ s;refine am (nh hS rfl ?_);have hS₂:=kh (ef (λ_=>(#[]:ax aj))) hS rfl;have oth:∀b o,b≠S->s.heap.get? b=ab o->(s.heap.update S (ef (λ_=>(#[]:ax aj)))).get? b=ab o:=λb o hb z=>(kP _ _ (cq hb)).trans z
 refine am (ki ?_);generalize s.heap.update S (ef (λ_=>(#[]:ax aj)))=hA at hS₂ oth;unfold oP;refine am (jy (T:=T) (let ⟨o,e,c⟩:=ty;⟨o,oth _ o (cq hSI) e,c⟩) ?_);have d1:Cz (.ref S) (.ref I)=ah:=by simp[Cz,hSI]
 simp only[d1,n1,n2,xy,iN,gu];refine am (it hA s.toks _ _ oth ?_);refine am (fq (hint hA s.toks _ _ oth λb tk=>?_));refine zn (λ_=>?_) (λ_=>aE ⟨li CA _,key _ _ _ oth hS₂⟩);refine am (mI (am ?_));show ϑ _ _ (lh S (·.push .none) >>= λ_=>lh S (·.pop)) _ _ _;refine am (nh hS₂ rfl ?_);have hS₃:=kh (ef (·.push r_)) hS₂ rfl;refine nh (hz:=by seq_fits) hS₃ rfl ?_;have hS₄:=kh (ef (·.pop)) hS₃ rfl;exact aE ⟨li CA _,key _ _ _ (λb o hb z=>(kP _ _ (cq hb)).trans ((kP _ _ (cq hb)).trans (oth b o hb z))) hS₄⟩
end
section
variable {prog:b5} {w:br} {A:cg} {E:aj->ao->Prop} {s:ao} {m:ag}
theorem aSa{α:Type}{M:Model}{c:Prop}[zo c]{a b:ib α}{Q:α->ao->Prop}(h1:ϑ M A a Q E s)(h2:ϑ M A b Q E s):ϑ M A (if c then a else b) Q E s:=if h:c then (al h).symm▸h1 else (au h).symm▸h2
theorem aU6(l:ak)(items:ax aj)(n:af)(dd:ar ak)(sl:ax (ar aj))(t:dP)(hm:zq m=ae) :
  ji (de.«enumerate.__new__» ⟨[.type "enumerate",.ref l],[("start",.int m t)]⟩) (λ_ R s=>s.heap.get? l=ab (Wz.tuO items n dd sl)/\
   ∀h' e it tk,it=s.heap.objs.size->e=it+1->h'.get? e=ab (enO .none ah it m .none)->h'.get? it=ab (Wz.itO l 0)->(∀b o,s.heap.get? b=ab o->h'.get? b=ab o)->R (.ok (.ret (.ref e))) {s with heap:=h',toks:=tk}):=.of_wp λprog w A R s hs=>by
 obtain⟨hp,g,d,tk,os⟩:=s;obtain⟨hl,q⟩:=hs;have sub:=Cu;have p:uv (ux ⟨hp,g,d,tk,os⟩) l items:=⟨_,hl,rfl,n,rfl⟩
 have hz:(hp.push (Wz.itO l 0)).objs.size=hp.objs.size+1:=dE ..;have fin:∀(tk':af),R (.ok (.ret (.ref (hp.push (Wz.itO l 0)).objs.size))) ⟨(hp.push (Wz.itO l 0)).push (enO .none ah hp.objs.size m .none),g,d,tk',os⟩:=λtk'=>by
  refine q _ _ _ tk' rfl hz (cx _ rfl) (bw _ (cx _ rfl)) λb o e=>bw _ (bw _ e)
 have hm':(!Builtin.SmallTypes.fitsIndex m)=ah:=by rw[hm];rfl
 wp_walk using lj hl
 refine Cv λst=>aE ?_
 refine aSa ?_ ?_
 ·wp_walk using lj hl,iP p
  exact⟨_,rfl,fin tk⟩
 ·wp_walk using lj hl,iP p
  exact⟨_,rfl,fin tk⟩
theorem aSb(a:aj)(m:ag)(t:dP):checkTypeCall "enumerate" ⟨[a],[("start",.int m t)]⟩=pure ():=by kernel_rfl
theorem aSc(a:aj)(m:ag)(t:dP):checkBuiltinCall "enumerate.__new__" ⟨[.type "enumerate",a],[("start",.int m t)]⟩=pure ():=by kernel_rfl
theorem aSd(a b:aj)(m:ag)(t:dP):argsOk "object.__init__" ⟨[a,b],[("start",.int m t)]⟩:=by kernel_rfl
theorem aK6{self b:aj}{t:dP}{R:yw->ao->Prop}(hT:s.TypeIs self "enumerate")(q:R (.done (.ret .none)) s):ϑ (av prog w) A (de.«object.__init__» ⟨[self,b],[("start",.int m t)]⟩) R E s:=by
 have hl:=u7.init.lookup;have hm:=u7.made
 repeat (any_goals (first|assumption|wp_step))
theorem aK7{l:ak}{items:ax aj}{t:dP}{Q:aj->ao->Prop}(hm:zq m=ae)(e:s.heap.get? l=ab (Wz.tuO items n dd sl))
 (q:∀h' e it tk,it=s.heap.objs.size->e=it+1->h'.get? e=ab (enO .none ah it m .none)->h'.get? it=ab (Wz.itO l 0)->(∀b o,s.heap.get? b=ab o->h'.get? b=ab o)->Q (.ref e) {s with heap:=h',toks:=tk}) :
  ϑ (av prog w) A (call (.type "enumerate") [.ref l] [("start",.int m t)]) Q E s:=by
 have ft:=u7;obtain⟨c,tl,m0⟩:=ft.mro;have m1:=ft.made;have m2:=ft.sub;have m3:=ft.notType;have m4:=ft.canCreate;have k1:=aSb (.ref l) m t;refine wq (codeAny_of_tree (show ϑ _ _ (callAny (.type "enumerate") _) _ _ _ from aE ⟨oB _ 0x6,iS F.entry_type_call ?_⟩));rw[Around.under_plain (weight_type_call_type "enumerate" _ _) (units_type_call_type "enumerate" _ _)]
 repeat (any_goals (first|assumption|wp_step))
 have step:∀c (R:md->ao->Prop),c=(CB (.builtin "enumerate.__new__") ⟨[.type "enumerate",.ref l],[("start",.int m t)]⟩)->(∀h' e it tk,it=s.heap.objs.size->e=it+1->h'.get? e=ab (enO .none ah it m .none)->h'.get? it=ab (Wz.itO l 0)->(∀b o,s.heap.get? b=ab o->h'.get? b=ab o)->R (.ok (.ret (.ref e))) {s with heap:=h',toks:=tk})->codeAny (av prog w) A.in1 c R s:=λc R hc hq=>by
  subst hc;exact CC ft.plain Cw (Cr (aSc (.ref l) m t) (aU6 l items n dd sl t hm prog w A.in1 R s ⟨e,hq⟩))
 refine kL (step _ (λr s1=>∃h' a it tk,r=.ok (.ret (.ref a))/\s1={s with heap:=h',toks:=tk}/\h'.get? a=ab (enO .none ah it m .none)/\Q (.ref a) s1) rfl λh' a it tk x1 x2 x3 x4 x5=>⟨h',a,it,tk,rfl,rfl,x3,q h' a it tk x1 x2 x3 x4 x5⟩) λr s1 hr=>?_
 obtain⟨h',a,it,tk,rfl,rfl,x3,hq⟩:=hr;have hT:({s with heap:=h',toks:=tk}:ao).TypeIs (.ref a) "enumerate":=⟨_,x3,rfl⟩
 have hli:=ft.init.lookup;have hbi:=ft.init.bind (.ref a)
 repeat (any_goals (first|assumption|wp_step))
 have step2:∀c (R:md->ao->Prop),c=(CB (.builtin "object.__init__") ⟨[.ref a,.ref l],[("start",.int m t)]⟩)->R (.ok (.ret .none)) {s with heap:=h',toks:=tk}->codeAny (av prog w) A.in1 c R {s with heap:=h',toks:=tk}:=λc R hc hq=>by
  subst hc;exact CC ft.init.plain F.entry_object_init (ft.init.check _ _ _ _ _ _ _ _ hT (aSd _ _ _ _) (aK6 hT hq))
 refine kL (step2 _ (λr s2=>r=.ok (.ret .none)/\s2={s with heap:=h',toks:=tk}) rfl ⟨rfl,rfl⟩) λr s2 hr=>?_
 obtain⟨rfl,rfl⟩:=hr
 repeat (any_goals (first|assumption|wp_step))
end
end Lw
namespace Mi
open PySem L2 PySem.SeqAt PySem.Spec PyProof.Rows
variable [KFrag]
section
variable {pos:cj}
theorem aOr{M:Model}{A:cg}{E:aj->ao->Prop}{s:ao}{T:eh}{args:aa (aq×ib aj)}{kws:aa (ar Str×ib aj)}{Q:aj->ao->Prop}(hp:args.any (·.1)=ah)(hk:kws.any (·.1.isNone)=ah)
 (h:ϑ M A (evalArgs (.type T) ae args kws) (λa s₁=>ϑ M A (call (.type T) a.pos a.kw) Q E s₁) E s):ϑ M A (sy pos (.type T) [] args kws) Q E s:=by
 unfold sy;refine am (fq (gk h (λa s1 h1=>am (BN ?_)) λ_ _ x=>x));rw[hp,hk];exact am (aE (am (gk h1 (λr s2 hr=>am (fq (wpAny_point (aE hr)))) λ_ _ x=>x)))
end
end Mi
namespace Lw
open PySem PySem.Spec
theorem aK8:jI (.type "list_reverseiterator") "__len__"=pure ai:=by rw[kj,ko];kernel_rfl
theorem aFb:Slot "list_reverseiterator" "__length_hint__" "list_reverseiterator.__length_hint__":=
 .of (owner:= "list_reverseiterator") (n:= "__length_hint__") (by rw[kj,ko];kernel_rfl) 0x6 0x6 0x6
  (by first|exact .inl 0x6|exact .inr 0x6) (by rw[CD];kernel_rfl)
theorem aFc:isSubtype (.type "list_reverseiterator") (.type "list_reverseiterator")=pure ae:=by rw[CD];kernel_rfl
section
variable {prog:b5} {w:br} {A:cg} {E:aj->ao->Prop} {s:ao}
theorem aSe(ty:s.TypeIs (.ref I) "list_reverseiterator")(h:∀b tk,Q b {s with toks:=tk}):ϑ (av prog w) A (zk (.ref I)) Q E s:=by
 unfold zk;refine am (yp ty aK8 ?_);dsimp only;refine zn (λhab=>ay hab 0x6) (λ_=>?_);rw[au 0x2];refine am (yp ty aFb.lookup ?_);generalize hid:("list_reverseiterator.__length_hint__" : eh)=id0
 wp_delta
 rw[show splitId id0=ab ("list_reverseiterator","__length_hint__") from by subst hid;decide +kernel];subst hid;refine am (Cb (T:= "list_reverseiterator") (b:=ae) ty aFc ?_);refine zn (λhab=>ay hab 0x4) (λ_=>?_);rw[al 0x6,au 0x4];exact aE (h _ _)
theorem aFd{Q:aj->ao->Prop}(hh:A.handled=ai)(hn:xs.size<=ba)(hne:l≠I)(hit:s.heap.IsRevIter I l ((xs.size:ag)-1))(hl:s.heap.IsList l xs)
 (q:∀h' tk acc' c',(∀b o,b≠I->s.heap.get? b=ab o->h'.get? b=ab o)->h'.get? s.heap.objs.size=ab (lsO acc' c')->ItemsOf (λi v=>xs[xs.size-1-i]?=ab v) acc' xs.size->Q (.ref s.heap.objs.size) {s with heap:=h',toks:=tk}) :
  ϑ (av prog w) A (call (.type "list") [.ref I]) Q E s:=by
 refine zf (Q₁:=λobj s₁=>obj=.ref s.heap.objs.size/\s₁={s with heap:=s.heap.push {cls:=.type "list",data:=.seq #[]}}) PySem.F.called_list (PySem.F.typeCall_list_1 _) PySem.F.entry_list_init
  (code_list_new _ ⟨rfl,rfl⟩) λobj s₁ h₁=>?_
 obtain⟨rfl,rfl⟩:=h₁;have hS:(s.heap.push {cls:=.type "list",data:=.seq #[]}).get? s.heap.objs.size=ab {cls:=.type "list",data:=.seq #[]}:=cx _ rfl;have lt:∀{b:ak}{o:bf},s.heap.get? b=ab o->s.heap.objs.size≠b:=λz=>ic (bz z)
 have l1:s.heap.objs.size≠I:=let ⟨o,e,_⟩:=hit;lt e
 have l2:s.heap.objs.size≠l:=let ⟨o,e,_⟩:=hl;lt e
 have hit':=hit.at (h':=s.heap.push {cls:=.type "list",data:=.seq #[]}) λo e=>bw _ e
 have hl':(s.heap.push {cls:=.type "list",data:=.seq #[]}).IsList l xs:=hl.at λo e=>bw _ e
 refine⟨⟨_,hS,rfl⟩,PySem.F.args_list_init_2 _ _,?_⟩;refine aK5 (A:=A.in1) (T:= "list_reverseiterator") hit'.typeIs 0x4 0x4 l1 hS (λh tk Q E k z=>?_) (λh tk Q E k z=>?_) λh c tk k z=>?_
 ·exact wpAny_pyIter_revIter (hit'.at λo e=>k _ o (cq l1) e) z
 ·exact aSe (hit'.at λo e=>k _ o (cq l1) e).typeIs z
 ·have W:=Walks.listRev (prog:=prog) (w:=w) (A:=A.in1.in1) hh I l hne xs;refine codeAny_extend_loopS (A:=A.in1) W.toS hn s.heap.objs.size (by simp only[bu,lq,or_false,gw];exact⟨l1,l2⟩) .none xs.size 0 _ #[] c rfl (cz _) ⟨cz _,by simpa using hit'.at λo e=>k _ o (cq l1) e,hl'.at λo e=>k _ o (cq l2) e⟩ z (ItemsOf.nil _) λs' acc' c' hm hS' hacc=>?_
  rw[Moved.eq_with hm];refine⟨rfl,q s'.heap s'.toks acc' c' (λb o hb e=>hm.heap b o (λhmem=>?_) (k b o (cq (lt e)) (bw _ e))) hS' hacc⟩;rcases bu.mp hmem with e'|hmem
  ·exact lt e e'.symm
  ·exact hb (eL.mp hmem)
end
end Lw
namespace Mi
open PySem L2 PySem.SeqAt PySem.Spec PyProof.Rows
section
variable [KFrag]
section
variable {X:Cx} {e:Expr} {p p2 pos pos2:cj}
def tLR(t:TE):TE:=λσ H Q=>t σ H λv H1=>∃a xs,v=.ref a/\H1 a=ab (.lst xs)/\∀p,H1 p=ai->Q (.ref p) (upd H1 p (.lst xs.reverse))
theorem aK9{t:TE}(hc:X.calm=ae)(hg:Gl X "list")(hm:X.mg "list"=ai)(hg2:Gl X "reversed")(hm2:X.mg "reversed"=ai)(he:PE X e t)(hs:bP [e] X.env=[(ah,bc e X.env)]:=by rfl)
 (hs2:bP [.Call (.Name "reversed" p2) [e] [] pos2] X.env=[(ah,bc (.Call (.Name "reversed" p2) [e] [] pos2) X.env)]:=by rfl) :
  PE X (.Call (.Name "list" p) [.Call (.Name "reversed" p2) [e] [] pos2] [] pos) (tLR t):=by
 intro Ψ s σ H Q I h;refine ii (lM I hg hm RX ?_);refine iz ?_ hs2 rfl;rw[hs2];show ϑ _ _ (kA [(ah,bc (.Call (.Name "reversed" p2) [e] [] pos2) X.env)]) _ _ s;refine ma ?_;refine ii (lM I hg2 hm2 R5 ?_);refine iz ?_ hs rfl;rw[hs];show ϑ _ _ (kA [(ah,bc e X.env)]) _ _ s;refine ma (thn (he Ψ s σ H _ I h) λu s1 ⟨x,H1,I1,ru,t,xs,ex0,ex,q⟩=>?_);subst ex0;cases ru;obtain⟨hz,its,n,rv,ho⟩:=I1.hok t _ ex;have htt:s1.heap.IsList t its.toArray:=⟨_,ho,rfl,n,rfl⟩
 refine l8 ?_;have hz':its.toArray.size<=ba:=by rw[bS,<-rv.length];exact hz
 refine call_reversed_list htt ?_;refine l8 ?_;have hne:t≠s1.heap.objs.size:=cn (bz ho);generalize hO:s1.heap.push (revObj t ((its.toArray.size:ag)-1))=hB;have kB:∀b o,s1.heap.get? b=ab o->hB.get? b=ab o:=λb o z=>by rw[<-hO];exact bw _ z
 have iB:hB.IsRevIter s1.heap.objs.size t ((its.toArray.size:ag)-1):=by rw[<-hO];exact⟨_,cx _ rfl,rfl,rfl⟩
 have szB:hB.objs.size=s1.heap.objs.size+1:=by rw[<-hO];exact dE ..
 refine Lw.aFd (s:={s1 with heap:=hB}) (I:=s1.heap.objs.size) (l:=t) (xs:=its.toArray) (I1.ok.hd hc) hz' hne iB (htt.at λo e=>kB _ o e) λh' tk acc c k hS hacc=>?_
 have hS:h'.get? hB.objs.size=ab (Lw.lsO acc c):=hS;have k:∀b o,b≠s1.heap.objs.size->hB.get? b=ab o->h'.get? b=ab o:=k;have hfr:H1 hB.objs.size=ai:=I1.hok.fresh (by rw[szB];lia);have hlen:acc.toList.length=its.length:=by have:=hacc.1;simpa using this
 have hv:Vals xs.reverse acc.toList:=aF6 rv hlen λj v hj=>by
  have:=hacc.2 j v (by simpa using hj);simpa using this
 exact⟨.ref hB.objs.size,_,I1.laid (a:=hB.objs.size) (o:=.lst xs.reverse) (h':=h') (t':=tk) (λb o e=>k b o (cn (bz e)) (kB b o e)) (by rw[szB];lia) ⟨by rw[mE];exact hz,acc.toList,c,hv,by simpa using hS⟩,rfl,q _ hfr⟩
end
end
def evI(ρ:aa D):aa (Str×Srx)->Res (aa (Str×D))
 |[]=>.ok []
 | (f,.exp g)::r=>do
  let d <- g ρ
  let ds <- evI ρ r
  if inner d then .ok ((f,d)::ds) else .bad
 |_=>.bad
noncomputable def mkG(i j:af)(c f1 f2 f3 f4:Str)(d1 d2:D)(p t:ak)(ρ:aa D):aa D:=((ρ.set i (.ins c [(f1,d1),(f2,d2),(f3,.adr p),(f4,.adr t)])).set j (.cel p [])).set (j+1) (.cel t [])
open Classical in
def aQt(i j:af)(c:Str)(l:aa (Str×Srx))(n:af)(fa:FA)(g:FS):FS:=λρ=>do
 let ds <- fa ρ
 if ϒ (ds.length=n) then (do
  let fs <- evI (.uD::ds) l
  match fs with
  |[(f1,d1),(f2,d2),(f3,.lst []),(f4,.lst [])]=>if h:∃d,∀p t,p≠t->g (mkG i j c f1 f2 f3 f4 d1 d2 p t ρ)=.ok (.rt d) then .ok (.rt h.choose) else .bad
  |_=>.bad) else .bad
def xLR(f:FX):FX:=λρ=>do
 let p <- f ρ
 match p.1 with
 |.lst xs=>if θ xs then .ok (.lst xs.reverse,p.2) else .bad
 |_=>.bad
def aFe(i:af)(f:FX):FS:=λρ=>do
 let p <- f ρ
 match ρ.getD i .uD,p.2.getD i .uD,p.1 with
 |.lst _,.lst xs,.lst ys=>if ϒ (xs.length+ys.length<=lim)&&θ ys then .ok (.nx (p.2.set i (.lst (xs++ys)))) else .bad
 |_,_,_=>.bad
def aFf(j:af)(fo:FE)(f:FX):FS:=λρ=>do
 let o <- fo ρ
 let p <- f ρ
 match o,ρ.getD j .uD,p.2.getD j .uD with
 |.adr a,.cel b0 _,.cel b xs=>if ϒ (a=b0)&&(ϒ (a=b)&&(ϒ (xs.length<lim)&&p.1.pure)) then .ok (.nx (p.2.set j (.cel b (xs++[p.1])))) else .bad
 |_,_,_=>.bad
section
variable [KFrag]
section
theorem M_:∀{v:aa (Str×V)}{d:aa (Str×D)},n_ P H v d->(d.all λp=>inner p.2)=ae->∀w∈v.map (·.2),∃a o,w=.ref a/\H a=ab o
 |_,_,.nil,_,w,h=>by cases h
 |_,_,.cons r t,h,w,hw=>by
  rw[hZ,aI] at h;rcases bu.mp hw with rfl|hw
  ·obtain⟨a,o,e,_,e2,_⟩:=DW r h.1;exact⟨a,o,e,e2⟩
  ·exact M_ t h.2 w hw
theorem aOs{d:aa (Str×D)}(h:(d.all λp=>inner p.2)=ae):(d.all λp=>okF p.2)=ae:=by
 rw[fA] at h ⊢;exact λp hp=>by rw[okF,h p hp,yr]
theorem aC8{K:bi}(cls:Cls K C)(hx0:σ[0]?=ab (ab (.ref x)))(hn:H1 x=ai)(hρ:ER H1 σ ρ):∀(l:aa (Str×Srx))(H:Hp)(vf:aa (Str×V))(fs0 fs:aa (Str×D)),H x=ab (.ins C dx vf)->b_ H1 H->n_ (New H1) H vf fs0->(fs0.all λp=>inner p.2)=ae->(vf.map (·.2)).Nodup->evI ρ l=.ok fs->(vf.map (·.1)++l.map (·.1)).Nodup->(∀f∈l.map (·.1),sZ K C f)->vf.length+l.length<1000->
  (∀H' vf',b_ H1 H'->H' x=ab (.ins C dx vf')->n_ (New H1) H' vf' (fs0++fs)->(vf'.map (·.2)).Nodup->D'.nx σ H')->aS6 K l D' σ H
 |[],H,vf,fs0,fs,hx,sm,rf,ok0,nd2,he,nd,na,hl,q=>by
  cases he;exact q H vf sm hx (by rw[dq];exact rf) nd2
 | (f,.par i)::r,H,vf,fs0,fs,hx,sm,rf,ok0,nd2,he,nd,na,hl,q=>by exact bx he
 | (f,.exp g)::r,H,vf,fs0,fs,hx,sm,rf,ok0,nd2,he,nd,na,hl,q=>by
  obtain⟨d,h1,he⟩:=bB he;obtain⟨ds',h2,he⟩:=bB he;split at he
  ·rename_i hk;cases he;have hlf:f∉vf.map (·.1):=λz=>(jp.mp nd).2.2 f z f 0x2 rfl
   refine⟨ρ,d,hρ.same sm,h1,λy H2 s2 r2 n2=>?_⟩;have hx2:=s2 _ _ hx;refine⟨_,hx0,x,C,dx,vf,rfl,hx2,cls,na f 0x2,by lia,?_⟩;have sm':b_ H1 (upd H2 x (.ins C dx (GR f y vf))):=λa o e=>by
    rw[bG (λz=>by subst z;rw[hn] at e;cases e)];exact s2 _ _ (sm _ _ e)
   rw[WD hlf] at sm' ⊢;obtain⟨b,o,rfl,hb,_,_⟩:=DW (n2 rfl) hk;refine aC8 cls hx0 hn hρ r _ (vf++[(f,.ref b)]) (fs0++[(f,d)]) ds' aK sm' ?_ (by rw[List.all_append,ok0];simp[hk]) ?_ h2 (by simpa[dt] using nd) (λg hg=>na g (by simp at hg ⊢;exact .inr hg)) (by simp at hl ⊢;lia) (λH' vf' a b c n=>q H' vf' a b (by simpa using c) n)
   ·have z2:n_ (New H1) H2 vf fs0:=rf.keep (λa o e _=>s2 _ _ e) λ_ h=>h
    have okd:okF d=ae:=by rw[okF,hk,yr]
    exact n_.snoc (((n2 rfl).mono λa ha=>sm.free ha).okK aH9.upd hx2 (λ_ h=>h) okd) (z2.okK aH9.upd hx2 (λ_ h=>h) (aOs ok0))
   ·rw[b6,jp];refine⟨nd2,by simp,λw hw u hu z=>?_⟩;obtain⟨a,o,rfl,ea⟩:=M_ rf ok0 w hw;simp at hu;rw[hu] at z;cases z;rw[show H _=ai from hb] at ea;cases ea
  ·exact bx he
def aC9(C:ak)(l:aa (Str×Srx))(n:af):Sp:=λvs H Q _=>∃x dx H1 us ds fs,vs=.ref x::us/\us.length=n/\H x=ab (.ins C dx [])/\H1 x=ai/\b_ H1 H/\bT All H1 us ds/\evI (.uD::ds) l=.ok fs/\∀H' vf,b_ H1 H'->H' x=ab (.ins C dx vf)->n_ (New H1) H' vf fs->(vf.map (·.2)).Nodup->Q .non H'
theorem aKa{P:b5}{w:br}{K:bi}{mg:Str->ar aj}{base:az}{x qual:Str}{st:bn}{fad C:ak}{fd:dS}{N ps:aa Str}{k:af}{l:aa (Str×Srx)}(F:Fun K x qual st fad fd)(S:bV N ps (aL st))(hN:N.length=ps.length){n:af}(hp:ps.length=n+1)(cls:Cls K C)(nd:(l.map (·.1)).Nodup)(na:∀f∈l.map (·.1),sZ K C f)(hl:l.length<1000)
 (hbody:∀(cdv:aj) (A:cg) (outer:aa dg) (s:ao) (H:Hp) (E:XK),nZ k (A.deeper (fS qual (aL st) s.heap.objs.size fad cdv))->PSs (Z2 CX0 P w K mg base N qual (aL st) fad cdv A outer s H E).nox (d7 st) (aS6 K l)):vH P w K mg base CX0 (k+1) fad fd ps (aC9 C l n):=by
 refine F.ok S (λvs H Q E z0=>by obtain⟨_,_,_,us,_,_,e,h,_⟩:=z0;rw[e,hp,aS,h]) λcdv A outer s H vs Q E hr ⟨x,dx,H1,us,ds,fs,e,hu,hx,hn,sm,r,he,q⟩=>⟨_,hbody cdv A outer s H E hr,?_⟩
 subst e;have hst:L2.start N (V.ref x::us)=ab (.ref x)::us.map ab:=by
  unfold L2.start;rw[hN,hp,aS,hu,CF];simp
 rw[hst];refine aC8 cls rfl hn (λi hi=>?_) l H [] [] fs hx sm .nil rfl 0x2 he (by simpa using nd) na (by simpa using hl) λH' vf s' hx' rf n'=>q H' vf s' hx' (by simpa using rf) n'
 cases i with
 |zero=>exact ay rfl hi
 |succ i=>
  have e:(D.uD::ds).getD (i+1) .uD=ds.getD i .uD:=rfl;rw[e] at hi ⊢;cases hq:ds[i]? with
  |none=>rw[b9,hq] at hi;exact ay rfl hi
  |some d=>
   obtain⟨v,z1,z2⟩:=r.get hq;rw[b9,hq];exact⟨v,by simpa using z1,z2⟩
def aFg(P:b5)(w:br)(K:bi)(mg:Str->ar aj)(base:az)(k:af)(c:Str)(l:aa (Str×Srx))(n:af):Prop:=
 ∃(C fi:ak)(fd:dS)(ps:aa Str),jh K cb c=ab (ab (.ref C))/\mg c=ab (.ref C)/\Mk K C fi/\vH P w K mg base CX0 k fi fd ps (aC9 C l n)/\Binds K fd ps []
def aU7(K:bi)(c:Str)(l:aa (Str×Srx))(n:af)(t:TA):TE:=λσ H Q=>t σ H λus H1=>∃ds fs,us.length=n/\bT All H1 us ds/\evI (.uD::ds) l=.ok fs/\∀C x dx H' vf,jh K cb c=ab (ab (.ref C))->H1 x=ai->b_ H1 H'->H' x=ab (.ins C dx vf)->n_ (New H1) H' vf fs->(vf.map (·.2)).Nodup->Q (.ref x) H'
theorem aOt(R:aFg X.prog X.w X.K X.mg X.base k x l n)(hr:nZ k' X.A)(hkk:k+1<=k')(hg:Gl X x)(ha:PA X (e::es) t)(hdb:nDb x:=by decide)(he:zSE X e es:=by rfl)(hpl:zSP X pos es:=by rfl)(hmono:∀(σ:L2.St) (H:Hp) (Q Q':aa V->Hp->Prop),(∀vs H',Q vs H'->Q' vs H')->t σ H Q->t σ H Q') :
  PE X (.Call (.Name x p) (e::es) [] pos) (aU7 X.K x l n t):=by
 obtain⟨C,fi,fd,ps,hn,hm,M,F,hb⟩:=R;refine PE.imp (aIk M F (hr.mono hkk) hg hm hb .nil aAq ha hdb he hpl) λσ H Q h=>hmono σ H _ _ ?_ h
 rintro us H1 ⟨ds,fs,hl,r,he,q⟩ y dx hy hdx hne;refine⟨y,dx,H1,us,ds,fs,by rw[dq],hl,aK,hy,λa o e=>?_,r,he,λH' vf s' hx' rf n'=>⟨rfl,q C y dx H' vf hn hy s' hx' rf n'⟩⟩;rw[bG (dI e hy),bG (dI e hdx)];exact e
theorem aSf(h:n_ P H vf [(f1,d1),(f2,d2),(f3,d3),(f4,d4)]):∃v1 v2 v3 v4,vf=[(f1,v1),(f2,v2),(f3,v3),(f4,v4)]/\Rep P H v1 d1/\Rep P H v2 d2/\Rep P H v3 d3/\Rep P H v4 d4:=by
 cases h with|cons a h=>
 cases h with|cons b h=>
 cases h with|cons c h=>
 cases h with|cons d h=>
 cases h;exact⟨_,_,_,_,rfl,a,b,c,d⟩
theorem aKb{rest:aa bn}{c x:Str}(hK:KFrag.K=X.K)(R:aFg X.prog X.w X.K X.mg X.base k c l n)(hr:nZ k' X.A)(hkk:k+1<=k')(hg:Gl X c)(ha:PA X (e::es) (gA fa ra))(ho:own i=ah)(hj:own j=ae)(hj2:own (j+1)=ae)(hlj:j+1<X.N.length)(n1:Hid X j)(n2:Hid X (j+1))(hN:X.N.Nodup)(hi:X.N[i]?=ab x)(hx:Loc X.env.scope x)(h2:PSs X rest (tS own g))(hdb:(c==("__debug__" : Str))=ah:=by decide)(he:zSE X e es:=by rfl)(hpl:zSP X cpos es:=by rfl)
 (hs:dw (.Call (.Name c p) (e::es) [] cpos) (ab (.Name x pos')) pos.line X.env=pure ah:=by rfl)(hf:zFn X x:=by first|exact .inl rfl|exact .inr rfl|assumption) :
  PSs X (.Assign [.Name x pos'] (.Call (.Name c p) (e::es) [] cpos) pos::rest) (tS own (aQt i j c l n fa g)):=λΨ s σ H D' I z0=>by
 obtain⟨ρ,fl,E,h,q⟩:=z0;obtain⟨ds,h1,h⟩:=bB h;split at h
 ·rename_i hn;obtain⟨fs,h3,h⟩:=bB h;split at h
  ·rename_i f1 d1 f2 d2 f3 f4;split at h
   ·rename_i hex;cases h;refine mQ (CV hN hi hx (aOt R hr hkk hg ha hdb he hpl λ_ _ _ _=>aK4) hs hf) (aHb (j:=j) h2 n1 n2) Ψ s σ H D' I ⟨ρ,ds,E.er,h1,λus H1 s1 r1 _=>⟨ds,_,by rw[r1.length];exact c8 hn,r1,h3,λC y dx H' vf hn' hy s' hxi rf nd=>?_⟩⟩;have sH:b_ H H':=s1.trans s';have rfN:n_ (New H) H' vf [(f1,d1),(f2,d2),(f3,.lst []),(f4,.lst [])]:=rf.keep (λa o e _=>e) λa ha=>s1.free ha
    obtain⟨hin,_⟩:inner d1=ae/\inner d2=ae:=by
     have:∀(l:aa (Str×Srx))(fs:aa (Str×D)),evI (.uD::ds) l=.ok fs->(fs.all λp=>inner p.2)=ae:=by
      intro l;induction l with
      |nil=>intro fs h;cases h;rfl
      |cons a l ih=>
       intro fs h;obtain⟨f,s⟩:=a;cases s with
       |par i=>exact bx h
       |exp g=>
        obtain⟨d,_,h⟩:=bB h;obtain⟨ds',z2,h⟩:=bB h;split at h
        ·rename_i hk;cases h;rw[hZ,ih _ z2,hk];rfl
        ·exact bx h
     have:=this l _ h3;simp only[hZ,aI] at this;exact⟨this.1,this.2.1⟩
    rename_i hin2;obtain⟨v1,v2,v3,v4,rfl,r1,r2,r3,r4⟩:=aSf rfN;obtain⟨a1,o1,rfl,p1,e1,_⟩:=DW r1 hin;obtain⟨a2,o2,rfl,p2,e2,_⟩:=DW r2 hin2;obtain⟨p,vp,rfl,ep,pp,rp⟩:=r3.inv;obtain⟨t,vt,rfl,et,pt,rt⟩:=r4.inv;cases rp;cases rt;simp only[bd,io,c_,bu,lq,or_false,gw,V.ref.injEq,not_false_eq_true,fE,and_true] at nd;obtain⟨⟨n12,n1p,n1t⟩,⟨n2p,n2t⟩,npt⟩:=nd;have hl:i<σ.length:=by rw[I.len];exact(dj.mp hi).1
    have hij:i≠j:=λz=>by subst z;rw[ho] at hj;cases hj
    have hij2:i≠j+1:=λz=>by rw[<-z,ho] at hj2;cases hj2
    let Hm:Hp:=λb=>if b=t then ai else H' b
    have hmt:Hm t=ai:=al rfl;have hmn:∀b,b≠t->Hm b=H' b:=λb n=>au n
    have sm:b_ H Hm:=λb ob eb=>by
     rw[hmn b λz=>by subst z;rw[show H b=ai from pt] at eb;cases eb];exact sH _ _ eb
    have sm2:b_ Hm H':=λb ob eb=>by
     by_cases z:b=t
     ·rw[z,hmt] at eb;cases eb
     ·rw[hmn b z] at eb;exact eb
    obtain⟨E1,k1⟩:=E.aQq (i:=j) sm hj pp (.cel (ds:=[]) (by rw[hmn p npt];exact ep) trivial .nil) rfl (by rw[hmn p npt];exact ep) rfl;obtain⟨E2,k2⟩:=E1.aQq (i:=j+1) sm2 hj2 hmt (.cel (ds:=[]) et trivial .nil) rfl et rfl;have nO:∀a,H a=ai->a≠p->a≠t->¬Own own ((σ.set j (ab (.ref p))).set (j+1) (ab (.ref t))) a:=λa ha np nt z0=>by
     obtain⟨m,hm,em⟩:=z0;by_cases z1:j+1=m
     ·subst z1;rw[fg (by rw[kg,I.len];exact hlj)] at em;cases em;exact nt rfl
     ·rw[c5 z1] at em;by_cases z2:j=m
      ·subst z2;rw[fg (by rw[I.len];lia)] at em;cases em;exact np rfl
      ·rw[c5 z2] at em;obtain⟨o,e,_⟩:=E.live ⟨m,hm,em⟩;rw[ha] at e;cases e
    have hn2:jh KFrag.K cb c=ab (ab (.ref C)):=by rw[hK];exact hn'
    have E3:=E2.set (i:=i) (v:=.ref y) (d:=.ins c [(f1,d1),(f2,d2),(f3,.adr p),(f4,.adr t)]) ho (.ins hn2 hxi (.cons (r1.aMg hin (nO _ p1 n1p n1t)) (.cons (r2.aMg hin2 (nO _ p2 n2p n2t)) (.cons .adr (.cons .adr .nil)))));have k3:KU own ((σ.set j (ab (.ref p))).set (j+1) (ab (.ref t))) H' (((σ.set j (ab (.ref p))).set (j+1) (ab (.ref t))).set i (ab (.ref y))) H':=λa o e n=>⟨e,by rw[lK ho];exact n⟩
    have q3:=(q.step (k1.trans (k2.trans k3)))
    have es:((σ.set j (ab (V.ref p))).set (j+1) (ab (V.ref t))).set i (ab (.ref y))=gh j p t (σ.set i (ab (.ref y))):=by
     unfold gh;rw[vg _ _ (cq hij2),vg _ _ (cq hij)]
    have er:(((ρ.set j (D.cel p [])).set (j+1) (D.cel t [])).set i (.ins c [(f1,d1),(f2,d2),(f3,.adr p),(f4,.adr t)]))=mkG i j c f1 f2 f3 f4 d1 d2 p t ρ:=by
     unfold mkG;rw[vg _ _ (cq hij2),vg _ _ (cq hij)]
    rw[es,er] at E3;rw[es] at q3;exact⟨p,t,_,_,E3,hex.choose_spec p t npt,q3⟩
   ·exact bx h
  ·exact bx h
 ·exact bx h
theorem aKc(hc:X.calm=ae)(hg:Gl X "list")(hm:X.mg "list"=ai)(hg2:Gl X "reversed")(hm2:X.mg "reversed"=ai)(he:PE X e (gX own f))(hs:bP [e] X.env=[(ah,bc e X.env)]:=by rfl)
 (hs2:bP [.Call (.Name "reversed" p2) [e] [] pos2] X.env=[(ah,bc (.Call (.Name "reversed" p2) [e] [] pos2) X.env)]:=by rfl) :
  PE X (.Call (.Name "list" p) [.Call (.Name "reversed" p2) [e] [] pos2] [] pos) (gX own (xLR f)):=PE.imp (aK9 hc hg hm hg2 hm2 he hs hs2) λσ H Q z0=>by
 obtain⟨ρ,d,ρ',E,h,q⟩:=z0;obtain⟨⟨d0,ρ1⟩,h1,h⟩:=bB h;dsimp only at h;split at h
 ·rename_i xs;split at h
  ·rename_i hp;cases h;refine⟨ρ,_,_,E,h1,λv H1 k E1 ns r=>?_⟩;obtain⟨a,vs,rfl,e,_,rr⟩:=r.inv;refine⟨a,vs,rfl,e,λb hb=>?_⟩;have sp:b_ H1 (upd H1 b (.lst vs.reverse)):=b_.upd hb;exact q _ _ (k.trans (.same sp)) (E1.same sp) ns (.lst aK (aBx k E1 hb) ((rr.rev.bM (aC2 hp)).same sp))
  ·exact bx h
 ·exact bx h
theorem aKd(ho:own i=ae)(hN:X.N[i]?=ab x)(hv:Vis X.env.scope x)(he:PE X e (gX own f))(hd:nDb x:=by decide)(hcd:nCd x:=by decide)
 (hbase:gn (.Name x p1) "extend" X.env (bc (.Name x p1) X.env)=bc (.Name x p1) X.env:=by rfl)
 (hs1:zSE X e []:=by rfl)
 (hfew:zFw X cpos [e]:=by rfl)
 (hline:(apos.endLine==cpos.line)=ae:=by rfl)
 (hs:dw (.Call (.Attribute (.Name x p1) "extend" apos) [e] [] cpos) ai pos.line X.env=pure ah:=by rfl) :
  PS X (.Expr (.Call (.Attribute (.Name x p1) "extend" apos) [e] [] cpos) pos) (tS own (aFe i f)):=
 PS.imp (vG (YF la xC Cm KZ (fX hN hv hd hcd) (eG he j8 hs1) hbase hfew hline hs1 rfl) hs) λD' σ H z0=>by
 obtain⟨ρ,fl,E,h,q⟩:=z0;obtain⟨⟨d,ρ'⟩,h1,h2⟩:=bB h;dsimp only at h2;split at h2
 ·rename_i xs0 xs ys hx0 hx;split at h2
  ·rename_i hk;cases h2;rw[aI,dL] at hk;obtain⟨a,o,hσ,r,hin,ha,hm⟩:=E.ownAt ho (by rw[hx0];intro z;cases z);rw[hx0] at r;obtain⟨vs,hl,rr⟩:=DX r;refine⟨_,hσ,.inl ⟨rfl,vs,.of hl⟩,ρ,_,ρ',E,h1,λv H' k E' ns rv=>?_⟩;obtain⟨a2,o2,hσ2,r2,hin2,ha2,hm2⟩:=E'.ownAt ho (by rw[hx];intro z;cases z);rw[hσ] at hσ2;cases hσ2;rw[hx] at r2 hin2;obtain⟨vs2,hl2,rr2⟩:=DX r2;obtain⟨b,zs,rfl,hb,_,rz⟩:=rv.inv;refine⟨a,b,vs2,zs,rfl,rfl,hl2,hb,by rw[rr2.length,rz.length];exact c9 hk.1 (by rw[di];decide),?_⟩;have hp:θ (xs++ys)=ae:=by rw[lW,aI];exact⟨hin2,hk.2⟩
   obtain⟨E2,k2⟩:=E'.mut ho hσ rfl (.lst aK trivial ((rr2.append rz.all).upd hp hl2 rfl)) hp;exact q _ _ (k.trans k2) E2
  ·exact bx h2
 ·exact bx h2
theorem aKe{o e:Expr}(ho:own j=ae)(hob:PE X o (gE fo ro))(he:PE X e (gX own f))
 (hbase:gn o "append" X.env (bc o X.env)=bc o X.env:=by rfl)
 (hs1:zSE X e []:=by rfl)
 (hfew:zFw X cpos [e]:=by rfl)
 (hline:(apos.endLine==cpos.line)=ae:=by rfl)
 (hs:dw (.Call (.Attribute o "append" apos) [e] [] cpos) ai pos.line X.env=pure ah:=by rfl) :
  PS X (.Expr (.Call (.Attribute o "append" apos) [e] [] cpos) pos) (tS own (aFf j fo f)):=
 PS.imp (vG (YF la sN yq uJ hob (eG he j8 hs1) hbase hfew hline hs1 rfl) hs) λD' σ H z0=>by
 obtain⟨ρ,fl,E,h0,q⟩:=z0;obtain⟨d0,h1,hA⟩:=bB h0;obtain⟨⟨d,ρ'⟩,h2,h⟩:=bB hA;clear h0 hA;dsimp only at h;split at h
 ·rename_i a b0 xs0 b xs hb0 hb;split at h
  ·rename_i hk;cases h;simp only[aI,dL] at hk;obtain⟨rfl,rfl,hk1,hk2⟩:=hk;obtain⟨a2,vs,hσ,hl,rr,hin,r,hba⟩:=vU E ho (xs:=xs0) (by rw[hb0];rfl);have:=hba a hb0;subst this;refine⟨ρ,_,E.er,h1,λu H1 s1 r1 _=>?_⟩;obtain rfl:=r1.inv;refine⟨.inl ⟨rfl,vs,.of (s1 _ _ hl)⟩,ρ,d,ρ',E.same s1,h2,λv H' k E' ns rv=>?_⟩;obtain⟨a2,vs2,hσ2,hl2,rr2,hin2,r2,hba2⟩:=vU E' ho (xs:=xs) (by rw[hb];rfl);have:=hba2 a hb;subst this;have pn:θ (xs++[d])=ae:=by
    rw[lW];simp only[aI];exact⟨hin2,by simp[θ,hk2]⟩
   refine⟨a,vs2,v,rfl,rfl,hl2,by rw[rr2.length];exact MF (bh hk1),?_⟩;obtain⟨E2,k2⟩:=E'.mut ho hσ (o:=.lst (vs2++[v])) rfl (.cel aK trivial ((rr2.snoc rv.all).upd pn hl2 rfl)) (by exact pn);exact q _ _ ((KU.same s1).trans (k.trans k2)) E2
  ·exact bx h
 ·exact bx h
end
end
open PySem.W
def aOu(h:az)(d:ak)(es:ax nV)(ep:af):Prop:=∃o,h.get? d=ab o/\o.ExactDict/\o.data=.dict es ep
theorem aOu.ty{s:ao}{d:ak}{es:ax nV}{ep:af}(x:aOu s.heap d es ep):s.TypeIs (.ref d) "dict":=let ⟨o,e,c,_⟩:=x;⟨o,e,c.1⟩
section
variable {prog:b5} {w:br} {A:cg} {E:aj->ao->Prop} {s:ao} {d:ak} {es:ax nV} {ep:af}
theorem aKf{Q:aj->ao->Prop}(hd:(d==gf)=ah)(x:aOu s.heap d es ep)(hz:(es.size:ag)<2 ^ 63)(q:∀t t',Q (.int es.size t) {s with toks:=t'}):ϑ (av prog w) A (call (.builtin "len") [.ref d]) Q E s:=by
 have T:=x.ty;have m:MeetsIn prog w (de.«dict.__len__» ⟨[.ref d],[]⟩) (λ_ R s=>aOu s.heap d es ep/\R (.ok (.ret (.int es.size s.toks))) {s with toks:=s.toks+1}):=.of_wp λA R s z0=>by
  obtain⟨⟨o,e1,e2,e3⟩,h⟩:=z0;refine am (m:=zr d) (?_:ϑ _ _ (zr d) _ _ s);unfold zr;refine am (wpAny_dictEntries e1 e3 (aE (am (m:=D5 d) (wpAny_pendingCount_other hd (wpAny_ret_mkInt ?_)))));simpa using h
 refine Bp kind_len plain_len entry_len (args_len1 _) (?_:ϑ _ _ (de.«len» _) _ _ _);unfold de.«len»;refine am (m:=oneArg "len" _) (aE (am (m:=callSpecial? (.ref d) (CH "__len__")) (kN (name:=CH "__len__") T CI (call_meetsIn CI T F.entry_dict_len (F.args_dict_len_1 _) m ⟨x,(?_:ϑ _ _ _ _ _ {s with toks:=s.toks+1})⟩))));refine am (fq (aE (am (ki (?_:ϑ _ _ (if ((es.size:af):ag)<0 then _ else _) _ _ _)))));rw[au 0x1];refine(?_:ϑ _ _ (ite (((es.size:af):ag) >= 2 ^ 63) _ _) _ _ _);rw[au 0x1];exact am (wpAny_mkInt (aE ⟨_,rfl,q _ _⟩))
end
section
variable {prog:b5} {w:br} {A:cg} {E:aj->ao->Prop} {s:ao} {r:ak}
def aSg(s:ao)(F:ax aj->Prop)(q:md)(s':ao):Prop:=∃(h':az)(tk:af)(acc:ax aj)(c:af),q=.ok (.ret (.ref s.heap.objs.size))/\s'={s with heap:=h',toks:=tk}/\(∀b o,s.heap.get? b=ab o->h'.get? b=ab o)/\h'.get? s.heap.objs.size=ab {cls:=.type "list",dict:=ai,data:=.seq acc c,slots:=#[]}/\F acc
theorem aKg{Q:aa aj->ao->Prop}{F:ax aj->Prop}
 (key:ϑ (av prog w) A.in1 (oP (.ref s.heap.objs.size) (.ref r) (.ref s.heap.objs.size)) (λfin s'=>match fin with|.done f=>aSg s F (.ok f) s'|.again c'=>c'.quiet=ae/\codeAny (av prog w) A c' (aSg s F) s') (λe s'=>aSg s F (.error e) s') {s with heap:=s.heap.push {cls:=.type "list",data:=.seq ([]:aa aj).toArray}})
 (q:∀h' tk acc,(∀b o,s.heap.get? b=ab o->h'.get? b=ab o)->s.heap.objs.size<=h'.objs.size->F acc->Q acc.toList {s with heap:=h',toks:=tk}):ϑ (av prog w) A (oh (.ref r)) Q E s:=by
 have last:∀{h':az}{tk:af}{acc:ax aj}{c:af},(∀b o,s.heap.get? b=ab o->h'.get? b=ab o)->h'.get? s.heap.objs.size=ab {cls:=.type "list",dict:=ai,data:=.seq acc c,slots:=#[]}->F acc->ϑ (av prog w) A (load s.heap.objs.size >>= λo=>match o.data with|.seq xs _=>pure xs.toList|_=>unsupported "internal:collect") Q E {s with heap:=h',toks:=tk}:=λkp at_ f=>am (wpAny_load at_ (aE (q _ _ _ kp (lz (bz at_)) f)))
 unfold oh;refine am (wpAny_runValue (iS entry_proto_collect' (?_:ϑ _ _ (yb [] >>= λl=>again (.builtin "list.__iadd__" ⟨[l,.ref r],[]⟩)) _ _ s)));rw[jn PySem.F.plain_proto_collect];refine am (jz (aE ⟨li CL _,iS entry_list_iadd' (?_:ϑ _ _ (oP _ _ _) _ _ _)⟩));rw[jn CL];refine gk key (λfin s' x=>?_) λe s' ⟨_,_,_,_,z,_⟩=>nomatch z
 cases fin with
 |done f=>
  obtain⟨h',tk,acc,c,e,rfl,kp,at_,f⟩:=x;cases e;exact last kp at_ f
 |again c1=>
  refine⟨x.1,kL x.2 λp s2 y=>?_⟩;obtain⟨h',tk,acc,c,rfl,rfl,kp,at_,f⟩:=y;exact last kp at_ f
theorem aKh{Q:aa aj->ao->Prop}{o:bf}{its:ax aj}{n:af}(ho:s.heap.get? r=ab o)(hc:o.cls=.type "tuple")(hd:o.data=.seq its n)(hz:its.size<=ba)
 (q:∀h' tk,(∀b o,s.heap.get? b=ab o->h'.get? b=ab o)->s.heap.objs.size<=h'.objs.size->Q its.toList {s with heap:=h',toks:=tk}):ϑ (av prog w) A (oh (.ref r)) Q E s:=by
 have hS:=cx (h:=s.heap) (o:={cls:=.type "list",data:=.seq ([]:aa aj).toArray}) rfl;obtain⟨c,hc2⟩:∃c,((s.heap.push {cls:=.type "list",data:=.seq ([]:aa aj).toArray}).update s.heap.objs.size (ef (·++its))).get? s.heap.objs.size=ab {cls:=.type "list",dict:=ai,data:=.seq its c,slots:=#[]}:=by
  rw[kh (ef (·++its)) hS rfl];simp only[ef,Array.empty_append];exact⟨_,rfl⟩
 refine aKg (F:=λacc=>acc=its) (wpAny_extend_seq (hsz:=hz) (s:={s with heap:=s.heap.push {cls:=.type "list",data:=.seq ([]:aa aj).toArray}}) _ r _ 0 (.inr rfl) hS (bw _ ho) hc hd ⟨_,s.toks,its,c,rfl,rfl,λb o' hb=>?_,hc2,rfl⟩) λh' tk acc kp sz e=>by rw[e];exact q h' tk kp sz
 exact(kP _ _ (ic (bz hb))).trans ((bw _ hb))
end
section
variable [KFrag]
section
variable {X:Cx}
theorem aOv{H:Hp}{s:ao}{Ψ:aa (ak×bf)}{σ:L2.St}{a:ak}{kvs:aa (aa Key×V)}(I:Inv X Ψ σ H s)(e:H a=ab (.dT kvs)):∃(es:ax nV)(ep:af)(xs:aa (aa Key×ak×aj)),aOu s.heap a es ep/\(a==gf)=ah/\kvs.length<=ba/\KT H kvs xs/\es.toList=xs.map (entryOfKey (lr (cL X.prog X.w))):=by
 obtain⟨z,hd,xs,rel,o,es,ep,h1,h2,h3,h4,_⟩:=aEb I.hok e;exact⟨es,ep,xs,⟨o,h1,h2,h3⟩,hd,z,rel,h4⟩
def aOw:aa D->Res D
 |[.dct kvs]=>if kvs.all (λp=>isTup p.1) then .ok (.int kvs.length) else .bad
 |ds=>eQ ds
theorem aKi(hK:KFrag.K=X.K):lE X (.builtin "len") (rs aOw ae):=by
 rintro Ψ s σ H xs us Q I vr ⟨ds,d,r,e,k⟩;unfold aOw at e;split at e
 ·rename_i kvs;split at e
  ·rename_i hl;cases e;obtain⟨vv,uu,rfl,rfl,r,v⟩:=iY r vr;cases r with
   |dK e _ rk _=>
    cases rk with
    |cons r t=>rw[hZ,m8] at hl;cases hl
    |nil=>
     cases v;obtain⟨_,lo,vs,rel,dd⟩:=K4 I.hok e;have h0:vs.length=0:=by rw[<-rel.length];rfl
     refine BY lo dd 0x1 ?_;rw[h0];exact⟨.int 0,H,I.tok _,⟨_,rfl⟩,k.int⟩
   |dT e _ rt _=>
    cases v;obtain⟨es,ep,zs,raw,lo,hz,rel,he⟩:=aOv I e;have hl2:es.size=kvs.length:=by rw[<-lS,he,aw,<-jr rel,rt.length]
    refine aKf lo raw (by have:=rt.length;rw[di] at hz;lia) λt t'=>?_
    rw[hl2];exact⟨.int _,H,I.tok _,⟨_,rfl⟩,k.int⟩
  ·cases e
 ·exact cN hK Ψ s σ H xs us Q I vr ⟨_,d,r,e,k⟩
end
end
def lL:aa D->Res D
 |[.tup xs]=>if cG xs then .ok (.lst (yP xs)) else .bad
 |ds=>lG ds
variable [KFrag]
theorem Y0{X:Cx}(hu:X.A.units+20<bX):lE X (.builtin "sorted") (rs lL ae):=by
 rintro Ψ s σ H xs us Q I vr ⟨ds,d,r,e,k⟩;unfold lL at e;split at e
 ·rename_i ys;split at e
  ·rename_i hl;cases e;obtain⟨vv,uu,rfl,rfl,r,v⟩:=iY r vr;cases r with
   |tup e rr=>
    cases v;obtain⟨its,vr,o,ho,hc',n,hd⟩:=gR I e;have hz:=I.hok _ _ e;refine y_ I hu vr (by rw[<-vr.length];exact hz.1) rr hl (λQ' E' h=>aKh ho hc' hd (by rw[bS,<-vr.length];exact hz.1) λh1 tk kp sz=>by simpa using h h1 tk kp sz) λp xs' hp r'=>?_
    have sp:b_ H (upd H p (.lst xs')):=b_.upd hp;exact k _ _ sp (.lst aK trivial (r'.same sp)) λ_=>.lst aK hp ((r'.bM (zB hl)).same sp)
  ·exact bx e
 ·exact zE hu Ψ s σ H xs us Q I vr ⟨_,d,r,e,k⟩
end Mi
namespace Ws
open PySem PySem.Spec
theorem shift(D:ve prog w A it fp n P St)(m:af):ve prog w A it fp (m+n) (λj v=>P (j-m) v) (λj h=>∃i,j=m+i/\St i h) where
 live:=λj h z=>by obtain⟨i,_,st⟩:=z;exact D.live i h st
 frame:=λj h h' z k=>by obtain⟨i,e,st⟩:=z;exact⟨i,e,D.frame i h h' st k⟩
 item:=λj s Q E hj z hQ=>by
  obtain⟨i,e,st⟩:=z;exact D.item i s Q E 0x1 st λx h' tk px st' sb=>hQ x h' tk (by rw[e,CM];exact px) ⟨i+1,by lia,st'⟩ sb
 done:=λs Q E z hE=>by
  obtain⟨i,e,st⟩:=z;obtain rfl:n=i:=by lia
  exact D.done s Q E st hE
end Ws
namespace Mi
open PySem L2 PySem.SeqAt PySem.Spec PyProof.Rows
def aTb(m:af)(a:ak):It:=
 ⟨λi H=>∃xs x,H a=ab (.tup xs)/\xs[i]?=ab x,λi H v H'=>∃t x,(∀xs,H a=ab (.tup xs)->xs[i]?=ab x)/\v=.ref t/\H t=ai/\H'=upd H t (.tup [.int ((m+i:af):ag),x]),λi H=>∃xs,H a=ab (.tup xs)/\xs.length<=i⟩
noncomputable def uX(m:af):aa D->aa D
 |[]=>[]
 |x::xs=>.tup [.int ((m:af):ag),x]::uX (m+1) xs
def zN(m:af)(a:FE):FI:=λρ=>do let x <- a ρ;match x with|.tup xs=>(if θ xs then .ok (uX m xs,ae) else .bad)|_=>.bad
theorem WK:∀(xs:aa D)(m i:af),(uX m xs)[i]?=xs[i]?.map λx=>.tup [.int ((m+i:af):ag),x]
 |[],_,_=>rfl
 |_::_,_,0=>rfl
 |_::xs,m,i+1=>by
  show(uX (m+1) xs)[i]?=xs[i]?.map _;rw[WK xs (m+1) i,show m+1+i=m+(i+1) by lia]
theorem NB:∀(xs:aa D)(m:af),(uX m xs).length=xs.length
 |[],_=>rfl
 |_::xs,m=>cy (·+1) (NB xs (m+1))
section
variable [KFrag]
theorem ItQ.enS{K:bi}(m:af)(a:ak)(ds:aa D)(e:J=aTb m a)(r:Rep P H (.ref a) (.tup ds))(h:items=uX m ds):ItQ K P J H items:=by
 refine⟨λP H kk mm=>?_⟩;have r:=r.aEj kk mm;subst e h;obtain⟨a',xs,e,hq,rr⟩:=r.fH;cases e;refine⟨λi hi=>⟨xs,hq,by rw[rr.length,<-NB ds m];exact hi⟩,λi d hi=>?_⟩;rw[WK] at hi;obtain⟨y,hd,rfl⟩:=ka.mp hi;obtain⟨v,h1,h2⟩:=rr.get hd;refine⟨⟨xs,v,hq,h1⟩,λx H' z=>?_⟩;obtain⟨t,u,hy,e1,e2,e3⟩:=z;subst e1 e3;have:=hy xs hq;rw[h1] at this;cases this;have sp:b_ H (upd H t (.tup [.int ((m+i:af):ag),v])):=b_.upd e2;exact⟨sp,.tup aK (.cons (.int _) (.cons (h2.same sp) .nil))⟩
theorem FP{K:bi}{x1}(m:af)(a e it:ak)(hne:e≠it):Turn P w K (.Tuple elts x1 tp) (aTb m a) [e,it] e (λi h=>(∃old,IsEnum h e it ((m+i:af):ag) old)/\h.get? it=ab (Wz.itO a i)) where
 mem:=bj ..
 obj:=λi h z0 b hb=>by
  obtain⟨⟨old,h1⟩,h2⟩:=z0;simp only[bu,lq,or_false] at hb;rcases hb with rfl|rfl
  ·exact⟨_,h1,λv z=>nomatch(show vS _=vT v from z)⟩
  ·exact⟨_,h2,λv z=>nomatch(show vS _=vT v from z)⟩
 keep:=λi h h' ⟨⟨old,h1⟩,h2⟩ k=>⟨⟨old,k e (bj ..) _ h1⟩,k it 0x2 _ h2⟩
 item:=by
  rintro Y hP hw hK hc i Ψ s σ H E I hf ⟨⟨old,h1⟩,h2⟩ ⟨xs,x,hq,hx⟩;subst hP hw hK;obtain⟨its,rv,p,hz⟩:=I.tuple (.of hq);obtain⟨n,dd,sl,e3⟩:=WF p;obtain⟨u,hu,ru⟩:=rv.get hx;have hlt:e<s.heap.objs.size:=bz h1;have nai:a≠it:=aC7 e3 rfl h2 rfl 0x4;have nea:e≠a:=aC7 h1 rfl e3 rfl 0x4;have hil:i<its.toArray.size:=by
   have:=(dj.mp hu).1;simpa using this
  refine wpAny_pyNext_enum_itemD (Ws.shift (Wn.drT (show Y.A.in1.handled=ai from I.ok.hd hc) it a nai its.toArray n dd sl) m) h1 ⟨i,rfl,h2,e3⟩ 0x1 hne (by simp[hne,nea]) λv h' tk o0 o1 o2 o3 o4 o5=>?_
  rw[CM] at o0;obtain⟨i',ei,st1,st2⟩:=o2;obtain rfl:i'=i+1:=by lia
  obtain rfl:u=v:=by
   have:its[i]?=ab v:=by simpa using o0
   rw[hu] at this;exact cS this
  refine⟨_,rfl,wpAny_letOwnedTupleGo_enum o1 λh'' g1 g2=>?_⟩;have sb:gj e h' h'':=g2;have kk:∀b o,b∉[e,it]->s.heap.get? b=ab o->h''.get? b=ab o:=λb o hb eb=>by
   simp only[bu,lq,or_false,gw] at hb;exact(sb.2 b hb.1).trans (o5 b o hb.1 hb.2 eb)
  have t3:h''.get? s.heap.objs.size=ab {cls:=.type "tuple",data:=.seq #[.int ((m+i:af):ag) tk,u]}:=(sb.2 _ (ic hlt)).trans o3;refine⟨.ref s.heap.objs.size,upd H s.heap.objs.size (.tup [.int ((m+i:af):ag),x]),RZ (s:=s) I kk (λb hb=>hf b hb) (aT _) ?_,rfl,⟨_,x,λys hy=>by rw[hq] at hy;cases hy;exact hx,rfl,I.hok.fresh (aT _),rfl⟩,⟨⟨u,by rw[show((m+(i+1):af):ag)=((m+i:af):ag)+1 by lia];exact g1⟩,(sb.2 it (cq hne)).trans st1⟩,λb hb=>?_⟩
  ·exact⟨by show 2<=ba;rw[di];decide,[.int ((m+i:af):ag) tk,u],.cons ⟨_,rfl⟩ (.cons ru .nil),⟨_,t3,rfl,0,rfl⟩⟩
  ·rw[bG]
   ·exact(hf b hb).1
   ·intro z;simp only[bu,lq,or_false] at hb;rcases hb with h|h
    ·rw[<-h,z] at hlt;exact gL _ hlt
    ·have:=bz h2;rw[<-h,z] at this;exact gL _ this
 done:=by
  rintro Y hP hw hK hc i Ψ s σ H E I hf ⟨⟨old,h1⟩,h2⟩ ⟨xs,hq,hx⟩;subst hP hw hK;obtain⟨its,rv,p,hz⟩:=I.tuple (.of hq);obtain⟨n,dd,sl,e3⟩:=WF p;obtain⟨f0,f1,f2,f3,f4,f5⟩:=hf it 0x2;have hl:=rv.length;exact wpAny_pyNext_enum_endD (Wn.ovT (show Y.A.in1.handled=ai from I.ok.hd hc) it a its.toArray n dd sl i (by simp;lia)) h1 ⟨h2,e3⟩ λh' eb=>⟨rfl,I.turned (λb o hb e=>eb b o hb e) f0 f1 f3 f4 f5⟩
 self:=λ_ _ _ _ _ ⟨⟨old,h1⟩,_⟩ h=>zt h1 h
section
theorem aFh{x1}{m:af}(hf:zq (m:ag)=ae)(hg:Gl X "enumerate")(hm:X.mg "enumerate"=ai)(he:PE X e (gE fe re))(hs:bP [e] X.env=[(ah,bc e X.env)]:=by rfl) :
  PI X (.Tuple elts x1 tp) (.Call (.Name "enumerate" p2) [e] [⟨ab "start",.Constant (.int (m:ag)) j cp,kp⟩] pos2) (gI X.K (zN m fe)):=by
 rintro Ψ s σ H R I ⟨ρ,items,k,E,h,q⟩;obtain⟨d,h1,h⟩:=bB h;cases d<;>try (cases h;done)
 rename_i its;dsimp only at h;split at h
 ·rename_i hp;cases h;refine ii (lM I hg hm CO (aOr (by rw[hs];rfl) rfl ?_));have hA:=eG he j8 hs pos2 Ψ s σ H (λvs H1=>∃v,vs=[v]/\b_ H H1/\Rep All H1 v (.tup its)) I ⟨ρ,_,E,h1,λv H1 s1 r1 _=>⟨_,rfl,s1,r1⟩⟩;rw[hs] at hA ⊢;refine evalArgs_kwB rfl (thn hA λus s1 z=>?_);obtain⟨vs,H1,I1,r1,q1⟩:=z;refine kws_cons (Ai (kws_nil ?_));obtain⟨v,rfl,sm,rx⟩:=q1;cases r1 with
  |cons rv rr=>
   cases rr;have rx0:=rx;obtain⟨t,xs,rfl,ex,rr⟩:=rx.fH;cases rv;obtain⟨vs,rvs,pl,hz⟩:=I1.tuple (.of ex);obtain⟨n,dd,sl,e3⟩:=WF pl;refine Lw.aK7 hf e3 λh' en it tk e1 e2 e3 e4 e5=>?_
   subst e2;subst e1;refine zt e3 ?_;refine⟨_,[s1.heap.objs.size+1,s1.heap.objs.size],_,_,H1,rfl,I1.kept λb o e=>e5 b o e,FP m t (s1.heap.objs.size+1) s1.heap.objs.size (CS _),⟨⟨_,e3⟩,e4⟩,λb hb=>?_,q _ H1 sm (.enS m t its rfl rx0 rfl) λhk=>.enS m t its rfl (rx0.bM hp) rfl⟩;simp only[bu,lq,or_false] at hb;rcases hb with rfl|rfl
   ·exact I1.aE2 (gp _) (I1.hok.fresh (gp _))
   ·exact I1.aE2 (aT _) (I1.hok.fresh (aT _))
 ·cases h
end
end
noncomputable def aKj:aa Str->aa ak->aa (D×D)
 |x::xs,a::as=>(.str x,.adr a)::aKj xs as
 |_,_=>[]
noncomputable def kvA:aa Str->aa ak->aa (Key×V)
 |x::xs,a::as=>(.inr x,.ref a)::kvA xs as
 |_,_=>[]
noncomputable def pvA:aa Str->aa ak->aa (Key×aj)
 |x::xs,a::as=>(.inr x,.ref a)::pvA xs as
 |_,_=>[]
noncomputable def setC(j:af):aa ak->aa D->aa D
 |[],ρ=>ρ
 |a::as,ρ=>setC (j+1) as (ρ.set j (.cel a []))
noncomputable def setG(j:af):aa ak->L2.St->L2.St
 |[],σ=>σ
 |a::as,σ=>setG (j+1) as (σ.set j (ab (.ref a)))
open Classical in
def aQu(i j n:af)(it:FI)(g:FS):FS:=λρ=>do
 let p <- it ρ
 match zJ p.1 with
 |some xs=>(if ϒ (xs.length<=n)&&ϒ (xs.length<=1000) then (if h:∃d,∀as:aa ak,as.length=xs.length->as.Nodup->g (setC j as (ρ.set i (.dct (i_ [] (aKj xs as)))))=.ok (.rt d) then .ok (.rt h.choose) else .bad) else .bad)
 |none=>.bad
noncomputable def isAt(o c:D):aq:=match o,c with
 |.adr a,.cel b _=>ϒ (a=b)
 |_,_=>ah
def Z4(j n:af)(o:D)(ρ:aa D):af:=j+(bm n).findIdx λm=>isAt o (ρ.getD (j+m) .uD)
def aFi(j n:af)(fo fe:FE):FS:=λρ=>do
 let o <- fo ρ
 if ϒ (Z4 j n o ρ<j+n) then xP (Z4 j n o ρ) fo fe ρ else .bad
def aDv(ρ:aa D)(j n:af):aa (D×D)->ar (aa (D×D))
 |[]=>ab []
 | (k,.adr a)::r=>match ρ.getD (Z4 j n (.adr a) ρ) .uD with
  |.cel b xs=>if ϒ (a=b)&&ϒ (Z4 j n (.adr a) ρ<j+n) then (aDv ρ j n r).map ((k,.scr xs)::·) else ai
  |_=>ai
 |_=>ai
noncomputable def aQv(j:af):af->aa D->aa D
 |0,ρ=>ρ
 |n+1,ρ=>aQv j n (ρ.set (j+n) .uD)
noncomputable def aDw(j:af):af->L2.St->L2.St
 |0,σ=>σ
 |n+1,σ=>aDw j n (σ.set (j+n) ai)
noncomputable def isC:D->aq
 |.cel _ _=>ae
 |.uD=>ae
 |_=>ah
def aFj(i j n:af)(g:FS):FS:=λρ=>match ρ.getD i .uD with
 |.dct kvs=>match aDv ρ j n kvs with
  |some kvs'=>if (bm n).all (λm=>isC (ρ.getD (j+m) .uD)) then g ((aQv j n ρ).set i (.dct kvs')) else .bad
  |none=>.bad
 |_=>.bad
variable [KFrag]
section
def PrL(H:Hp):aa V->aa Str->aa ak->Prop
 |[],[],[]=>gz
 |v::vs,x::xs,a::as=>(∃t,v=.ref t/\H t=ab (.tup [.str x,.ref a]))/\PrL H vs xs as
 |_,_,_=>ck
theorem PrL.snoc:∀{vs:aa V}{xs:aa Str}{as:aa ak},PrL H vs xs as->H t=ab (.tup [.str x,.ref a])->PrL H (vs++[.ref t]) (xs++[x]) (as++[a])
 |[],[],[],_,e=>⟨⟨_,rfl,e⟩,trivial⟩
 |_::_,_::_,_::_,⟨h,r⟩,e=>⟨h,r.snoc e⟩
theorem PrL.keep(k:∀t ws,H t=ab (.tup ws)->H' t=ab (.tup ws)):∀{vs:aa V}{xs:aa Str}{as:aa ak},PrL H vs xs as->PrL H' vs xs as
 |[],[],[],_=>trivial
 |_::_,_::_,_::_,⟨⟨t,e1,e2⟩,r⟩=>⟨⟨t,e1,k _ _ e2⟩,PrL.keep k r⟩
theorem PrL.len:∀{vs:aa V}{xs:aa Str}{as:aa ak},PrL H vs xs as->vs.length=xs.length/\as.length=xs.length
 |[],[],[],_=>⟨rfl,rfl⟩
 |_::_,_::_,_::_,⟨_,r⟩=>by
  obtain⟨h1,h2⟩:=r.len;exact⟨cy (·+1) h1,cy (·+1) h2⟩
noncomputable def aSh(it:FI):TE:=λσ H Q=>∃ρ xs kk,ER H σ ρ/\it ρ=.ok (xs.map δ,kk)/\xs.length<=1000/\
 ∀H' p vs as,b_ H H'->H p=ai->H' p=ab (.lst vs)->PrL H' vs xs as->as.Nodup->(∀a∈as,H a=ai/\a≠p/\H' a=ab (.lst []))->Q (.ref p) H'
theorem aOx(S:cH X.N X.env.scope scope ownN)(hn:X.N.length=n)(hm:ownN.length=1)(hcalm:X.calm=ae)(hi:PI X tg iter (gI X.K it))(ht:TgC g jL n 1)(hg:∀X',c7 X X' scope ownN->PG X' tg g)(he:∀X',c7 X X' scope ownN->PE X' e1 (gE (gM n) ah))
 (hs:∀x,eB iter X.env x=pure x)(hs1:∀X',c7 X X' scope ownN->bP [e1,.List [] lp] X'.env=(ah,bc e1 X'.env)::bP [.List [] lp] X'.env)(hs2:∀X',c7 X X' scope ownN->bP [.List [] lp] X'.env=(ah,bc (.List [] lp) X'.env)::bP [] X'.env):PE X (.ListComp (.Tuple [e1,.List [] lp] x1 tp) [⟨tg,iter,[],0⟩] scope pos) (aSh it):=by
 intro Ψ s σ H Q I h;refine U8 S hcalm hi hg (λX' c=>aAc (eG (he X' c) (eG (aAd j8) j8 (hs2 X' c)) (hs1 X' c))) hs Ψ s σ H Q I ?_;rw[hm];obtain⟨ρ,xs,kk,E,h1,hl,q⟩:=h;refine⟨ρ,xs.map .str,kk,E,h1,λJ H1 s1 hJ _ p hp=>?_⟩;have hp0:H p=ai:=s1.free hp;refine⟨λi n' vs H'=>n'=xs.length-i/\i<=xs.length/\H' p=ab (.lst vs)/\b_ H1 H'/\∃as:aa ak,PrL H' vs (xs.take i) as/\as.Nodup/\∀a∈as,H a=ai/\a≠p/\H' a=ab (.lst []),⟨xs.length,?_⟩,?_⟩
 ·exact⟨rfl,cz _,aK,b_.upd hp,[],trivial,fE,λ_ h=>by cases h⟩
 ·rintro i n' vs H' ⟨rfl,hi,hH,sm,as,pr,nd,ha⟩;refine⟨hH,?_⟩;have hJ':ItQ X.K All J H' (xs.map .str):=hJ.keep (.same sm) λ_ z=>z
  rcases ke i xs.length with hlt|hge
  ·refine .inr ?_;have e:(xs.map δ)[i]?=ab (.str xs[i]):=by simp[hlt]
   obtain⟨g1,g2⟩:=hJ'.go e;refine⟨g1,?_,λx H2 hy=>?_⟩
   ·rw[pr.len.1,mf,di];lia
   ·obtain⟨sH,rx⟩:=g2 x H2 hy;refine ht x _ [.str xs[i]] σ H2 _ (I.len.trans hn) rx rfl λσ2 hx hbs=>⟨hx,?_⟩
    have E2:ER H2 σ2 (G5 n ρ++[.str xs[i]]):=(E.same (s1.trans (sm.trans sH))).ext (I.len.trans hn) hx hbs;have hpl:(G5 n ρ).length=n:=by unfold G5;simp
    show(if ae=ae then _ else _);rw[al rfl];refine⟨_,.str xs[i],E2,?_,λv H3 s3 r3 _=>?_⟩
    ·show gM n (G5 n ρ++[.str xs[i]])=_;unfold gM;rw[b9,gm 0x1,hpl,CF];rfl
    obtain rfl:=r3.inv;refine⟨cz _,λa hfa=>⟨by rw[di];show 2<=_;decide,λt hft=>?_⟩⟩;have hp3:H3 p=ab (.lst vs):=s3 _ _ (sH _ _ hH);have hap:a≠p:=λz=>by rw[z,hp3] at hfa;cases hfa
    have hta:t≠a:=λz=>by rw[z,aK] at hft;cases hft
    have ht3:H3 t=ai:=by rw[bG hta] at hft;exact hft
    have htp:t≠p:=λz=>by rw[z,hp3] at ht3;cases ht3
    have s13:b_ H1 H3:=sm.trans (sH.trans s3);have up:∀b,b≠p->b≠a->b≠t->upd (upd (upd H3 a (.lst [])) t (.tup [.str xs[i],.ref a])) p (.lst (vs++[.ref t])) b=H3 b:=λb n1 n2 n3=>by rw[bG n1,bG n3,bG n2]
    refine⟨by rw[bG (cq htp),bG (cq hap)];exact hp3,xs.length-(i+1),by lia,rfl,hlt,aK,λb o e=>?_,as++[a],?_,?_,λb hb=>?_⟩
    ·have e3:=s13 _ _ e;rw[up b (λz=>by rw[z,hp] at e;cases e) (λz=>by rw[z,hfa] at e3;cases e3) (λz=>by rw[z,ht3] at e3;cases e3)];exact e3
    ·rw[List.take_add_one,d5 hlt];refine PrL.snoc (PrL.keep (λt' ws e=>?_) pr) (by rw[bG htp,aK]);have e3:=s3 _ _ (sH _ _ e);rw[up t' (λz=>by rw[z,hH] at e;cases e) (λz=>by rw[z,hfa] at e3;cases e3) (λz=>by rw[z,ht3] at e3;cases e3)];exact e3
    ·rw[jp];refine⟨nd,by simp,λb hb c hc z=>?_⟩;simp at hc;subst hc;subst z;have:=s3 _ _ (sH _ _ (ha _ hb).2.2);rw[hfa] at this;cases this
    ·rcases dQ.mp hb with hb|hb
     ·obtain⟨z1,z2,z3⟩:=ha b hb;have e3:=s3 _ _ (sH _ _ z3);refine⟨z1,z2,?_⟩;rw[up b z2 (λz=>by rw[z,hfa] at e3;cases e3) (λz=>by rw[z,ht3] at e3;cases e3)];exact e3
     ·simp at hb;subst hb;exact⟨(s1.trans s13).free hfa,hap,by rw[bG hap,bG (cq hta),aK]⟩
  ·refine .inl ⟨hJ'.stop (by simpa using hge),?_⟩;rw[CU hge] at pr;exact q _ _ _ _ (s1.trans sm) hp0 hH pr nd ha
theorem aHd(I:Inv X Ψ σ H s):∀{vs:aa V}{xs:aa Str}{as:aa ak}{us:aa aj},PrL H vs xs as->Vals vs us->KV (kvA xs as) (pvA xs as)/\us.length=(pvA xs as).length/\∀(i:af)(kv:Key×aj),(pvA xs as)[i]?=ab kv->∃(p:ak)(x:aj)(o:bf)(n:af),us[i]?=ab (eo p)/\s.heap.get? p=ab o/\o.cls=.type "tuple"/\o.data=.seq #[x,kv.2] n/\(cL X.prog X.w).is kv.1 x=ae
 |[],[],[],_,_,.nil=>⟨.nil,rfl,λi kv h=>by simp[pvA] at h⟩
 |_::_,x::xs,a::as,_,⟨⟨t,e1,e2⟩,r⟩,.cons rv tv=>by
  obtain⟨g1,g2,g3⟩:=aHd I r tv;subst e1;cases rv;obtain⟨its,rvs,o,ho,hc,n,hd⟩:=gR I e2;cases rvs with
  |cons q1 rvs=>
   cases rvs with
   |cons q2 rvs=>
    cases rvs;cases q2;refine⟨.cons ⟨rfl,rfl⟩ g1,cy (·+1) g2,λi kv hi=>?_⟩;cases i with
    |zero=>
     cases hi;exact⟨t,_,o,n,rfl,ho,hc,hd,yM q1⟩
    |succ i=>
     obtain⟨p,x,o',n',z1,z2⟩:=g3 i kv hi;exact⟨p,x,o',n',z1,z2⟩
def tPd(it:FI):TE:=λσ H Q=>∃ρ xs kk,ER H σ ρ/\it ρ=.ok (xs.map δ,kk)/\xs.length<=1000/\
 ∀H' b as,b_ H H'->H b=ai->H' b=ab (.dK (dY [] (kvA xs as)))->as.length=xs.length->as.Nodup->(∀a∈as,H a=ai/\a≠b/\H' a=ab (.lst []))->Q (.ref b) H'
theorem aCa:∀{xs:aa Str}{as:aa ak},as.length=xs.length->(pvA xs as).length=xs.length/\(kvA xs as).length=xs.length
 |[],[],_=>⟨rfl,rfl⟩
 |_::_,_::_,h=>by
  obtain⟨h1,h2⟩:=aCa (lc h);exact⟨cy (·+1) h1,cy (·+1) h2⟩
theorem aSi(hc:X.calm=ae)(hg:Gl X "dict")(hm:X.mg "dict"=ai)(he:PE X e (aSh it))(hs:bP [e] X.env=[(ah,bc e X.env)]:=by rfl) :
  PE X (.Call (.Name "dict" p) [e] [] pos) (tPd it):=by
 rintro Ψ s σ H Q I ⟨ρ,xs,kk,E,h1,hl,q⟩;refine ii (lM I hg hm JB ?_);refine iz ?_ hs rfl;rw[hs];show ϑ _ _ (kA [(ah,bc e X.env)]) _ _ s;refine ma (thn (he Ψ s σ H (λv H1=>∃l vs as,v=.ref l/\b_ H H1/\H l=ai/\H1 l=ab (.lst vs)/\PrL H1 vs xs as/\as.Nodup/\∀a∈as,H a=ai/\a≠l/\H1 a=ab (.lst [])) I ⟨ρ,xs,kk,E,h1,hl,λH1 l vs as z1 z2 z3 z4 z5 z6=>⟨l,vs,as,rfl,z1,z2,z3,z4,z5,z6⟩⟩) λu s1 ⟨x,H1,I1,ru,l,vs,as,ex,sm,hl0,ea,pr,nd,ha⟩=>?_);subst ex;cases ru;refine l8 ?_;obtain⟨hz,its,nl,rv,hlst⟩:vs.length<=ba/\∃(its:aa aj)(n:af),Vals vs its/\s1.heap.get? l=ab {cls:=.type "list",data:=.seq its.toArray n}:=I1.hok l _ ea;obtain⟨g1,g4,g5⟩:=aHd I1 pr rv;obtain⟨l1,l2⟩:=pr.len;obtain⟨l3,l4⟩:=aCa l2;obtain⟨hp,g,dr,tk,os⟩:=s1;refine Wl.V9 (b:=ae) (knd:=cL X.prog X.w) (I1.ok.hd hc) hlst ⟨by rw[bS];exact g4,λi kv hi=>?_⟩ (by rw[bS];lia) λh' tk' hd kp=>?_
 ·obtain⟨p,x,o,n,z1,z2⟩:=g5 i kv hi;exact⟨p,x,o,n,by simpa using z1,z2⟩
 ·have hfr:H1 hp.objs.size=ai:=I1.hok.fresh (aT _);have rel:KV (dY [] (kvA xs as)) (kb [] (pvA xs as)):=g1.merge .nil;have hz2:(dY [] (kvA xs as)).length<=ba:=by
   have:=gQ (kvA xs as) [];rw[fw] at this;rw[di];lia
  have sp:b_ H1 (upd H1 hp.objs.size (.dK (dY [] (kvA xs as)))):=b_.upd hfr;refine⟨.ref hp.objs.size,_,I1.laid kp (aT _) (K6 hz2 (fI.mpr ?_) rel hd),rfl,?_⟩
  ·exact cq (cn I1.big)
  ·refine q _ _ as (sm.trans sp) (sm.free hfr) aK l2 nd λa hm=>?_
   obtain⟨z1,z2,z3⟩:=ha a hm;exact⟨z1,(λz=>by rw[z,hfr] at z3;cases z3),sp _ _ z3⟩
theorem aHe:∀(xs:aa Str)(as:aa ak),iJ P H (kvA xs as) (aKj xs as)
 |[],_=>.nil
 |_::_,[]=>.nil
 |x::xs,a::as=>.cons .adr (aHe xs as)
theorem aCb:∀(as:aa ak)(j:af)(H:Hp)(σ:L2.St)(ρ:aa D)(H':Hp),ES own H σ ρ->b_ H H'->(∀m,m<as.length->own (j+m)=ae)->as.Nodup->(∀a∈as,H a=ai/\H' a=ab (.lst []))->ES own H' (setG j as σ) (setC j as ρ)/\KU own σ H (setG j as σ) H'
 |[],j,H,σ,ρ,H',E,sm,_,_,_=>⟨E.same sm,KU.same sm⟩
 |a::as,j,H,σ,ρ,H',E,sm,ho,nd,ha=>by
  obtain⟨h1,h2⟩:=ha a (bj ..);rw[c_] at nd
  let Hm:Hp:=λb=>if b∈as then ai else H' b
  have hmi:∀b,b∈as->Hm b=ai:=λb h=>al h
  have hmn:∀b,b∉as->Hm b=H' b:=λb h=>au h
  have s1:b_ H Hm:=λb o e=>by
   rw[hmn b λz=>by rw[(ha b (bp _ z)).1] at e;cases e];exact sm _ _ e
  have s2:b_ Hm H':=λb o e=>by
   by_cases z:b∈as
   ·rw[hmi b z] at e;cases e
   ·rw[hmn b z] at e;exact e
  have ea:Hm a=ab (.lst []):=by rw[hmn a nd.1];exact h2
  obtain⟨E1,k1⟩:=E.aQq s1 (ho 0 (CY _)) h1 (.cel ea trivial .nil) rfl ea rfl;obtain⟨E2,k2⟩:=aCb as (j+1) Hm _ _ H' E1 s2 (λm hm=>by rw[zu,C0 1 m];exact ho (m+1) (C1 hm)) nd.2 λb hb=>⟨hmi b hb,(ha b (bp _ hb)).2⟩
  exact⟨E2,k1.trans k2⟩
theorem aHf:∀(as:aa ak)(j:af)(σ:L2.St),Inv X Ψ σ H s->(∀m,m<as.length->Hid X (j+m))->Inv X Ψ (setG j as σ) H s
 |[],_,_,I,_=>I
 |a::as,j,σ,I,h=>aHf as (j+1) _ (aC5 I (h 0 (CY _))) λm hm=>by rw[zu,C0 1 m];exact h (m+1) (C1 hm)
theorem NK:∀{ds:aa D}{xs:aa Str},zJ ds=ab xs->ds=xs.map δ
 |[],_,h=>by cases h;rfl
 |d::ds,xs,h=>by
  cases d with
  |str x=>
   obtain⟨ys,h1,rfl⟩:=ka.mp (show(zJ ds).map (x::·)=ab xs from h);rw[NK h1];rfl
  |_=>cases h
theorem aKk{rest:aa bn}(ho:own i=ah)(hj:∀m,m<n->own (j+m)=ae)(hid:∀m,m<n->Hid X (j+m))(hN:X.N.Nodup)(hi:X.N[i]?=ab x)(hx:Loc X.env.scope x)(he:PE X e (tPd it))(h2:PSs X rest (tS own g))
 (hs:zSw X e x pos' pos:=by rfl)(hf:zFn X x:=by first|exact .inl rfl|exact .inr rfl|assumption) :
  PSs X (.Assign [.Name x pos'] e pos::rest) (tS own (aQu i j n it g)):=λΨ s σ H D' I z=>by
 obtain⟨ρ,fl,E,h,q⟩:=z;obtain⟨⟨ds,kk⟩,h1,h⟩:=bB h;dsimp only at h;cases hx':zJ ds with
 |none=>rw[hx'] at h;exact bx h
 |some xs=>
  rw[hx'] at h;dsimp only at h;split at h
  ·rename_i hl;rw[aI] at hl;have hl1:=c8 hl.1;split at h
   ·rename_i hex;cases h;rw[NK hx'] at h1;refine mQ (CV hN hi hx he hs hf) (λΨ s σ H D I z=>by obtain⟨as,hal,z⟩:=z;exact h2 Ψ s _ H D (aHf as j σ I λm hm=>hid m (cK hm hal)) z:PSs X rest (λD σ H=>∃as:aa ak,as.length<=n/\tS own g D (setG j as σ) H)) Ψ s σ H D' I ⟨ρ,xs,kk,E.er,h1,c8 hl.2,λH' b as sm hb hd hal nd ha=>?_⟩
    let Hm:Hp:=λc=>if c∈as then ai else H' c
    have hmi:∀c,c∈as->Hm c=ai:=λc h=>al h
    have hmn:∀c,c∉as->Hm c=H' c:=λc h=>au h
    have s1:b_ H Hm:=λc o e=>by
     rw[hmn c λz=>by rw[(ha c z).1] at e;cases e];exact sm _ _ e
    have s2:b_ Hm H':=λc o e=>by
     by_cases z:c∈as
     ·rw[hmi c z] at e;cases e
     ·rw[hmn c z] at e;exact e
    have nb:¬Own own σ b:=λz=>by
     obtain⟨o,e,_⟩:=E.live z;rw[hb] at e;cases e
    obtain⟨rk,rn⟩:=vV (aHe xs as) iJ.nil fE;have eb:Hm b=ab (.dK (dY [] (kvA xs as))):=by rw[hmn b λz=>(ha b z).2.1 rfl];exact hd
    have E1:=(E.same s1).set ho (.dK eb nb rk rn);obtain⟨E2,k2⟩:=aCb as j Hm _ _ H' E1 s2 (λm hm=>hj m 0x1) nd λc hc=>⟨hmi c hc,(ha c hc).2.2⟩
    have k1:KU own σ H (σ.set i (ab (.ref b))) Hm:=λa o e n=>⟨s1 _ _ e,by rw[lK ho];exact n⟩
    exact⟨as,by lia,_,_,E2,hex.choose_spec as hal nd,q.step (k1.trans k2)⟩
   ·exact bx h
  ·exact bx h
theorem aCc:j<=Z4 j n o ρ:=jo ..
theorem aKl(hj:∀m,m<n->own (j+m)=ae)(hob:PE X o (gE fo ro))(he:PE X e (gE fe re))
 (hbase:gn o "append" X.env (bc o X.env)=bc o X.env:=by rfl)
 (hs1:zSE X e []:=by rfl)
 (hfew:zFw X cpos [e]:=by rfl)
 (hline:(apos.endLine==cpos.line)=ae:=by rfl)
 (hs:dw (.Call (.Attribute o "append" apos) [e] [] cpos) ai pos.line X.env=pure ah:=by rfl) :
  PS X (.Expr (.Call (.Attribute o "append" apos) [e] [] cpos) pos) (tS own (aFi j n fo fe)):=λΨ s σ H D' I z=>by
 obtain⟨ρ,fl,E,h,q⟩:=z;obtain⟨d,h1,h⟩:=bB h;split at h
 ·rename_i hk;have hk:=c8 hk;have hle:j<=Z4 j n d ρ:=aCc;exact tX (by have:=hj (Z4 j n d ρ-j) 0x1;rwa [zw hle] at this) hob he hbase hs1 hfew hline hs Ψ s σ H D' I ⟨ρ,fl,E,h,q⟩
 ·exact bx h
theorem aCd(E:ES own H σ ρ)(ho:own k=ae)(hk:∀b ob,H b=ab ob->σ[k]?≠ab (ab (.ref b))->H' b=ab ob) :
  ES own H' (σ.set k ai) (ρ.set k .uD)/\KU own σ H (σ.set k ai) H':=by
 have sub:∀b,Own own (σ.set k ai) b->Own own σ b:=λb z=>by
  obtain⟨m,hm,e⟩:=z;by_cases h:k=m
  ·subst h;rw[iu] at e;split at e
   ·split at e<;>cases e
   ·exact ay rfl ‹_›
  ·rw[c5 h] at e;exact⟨m,hm,e⟩
 have ku:KU own σ H (σ.set k ai) H':=λb ob e n=>⟨hk b ob e λz=>n ⟨k,ho,z⟩,λz=>n (sub b z)⟩
 refine⟨⟨by simp[E.len],λj hj=>?_,λj w hj hw=>?_⟩,ku⟩
 ·rw[dF] at hj ⊢;by_cases h:k=j/\k<ρ.length
  ·rw[al h] at hj;exact ay rfl hj
  ·rw[au h] at hj ⊢;obtain⟨w,h1,h2⟩:=E.at_ j hj;have hkj:k≠j:=λz=>h ⟨z,by rw[<-E.len,z];exact(dj.mp h1).1⟩
   exact⟨w,by rw[c5 hkj];exact h1,λhj=>ku.rep E (h2 hj)⟩
 ·by_cases hij:k=j
  ·subst hij;rw[iu] at hw;split at hw
   ·split at hw<;>cases hw
   ·exact ay rfl ‹_›
  ·rw[c5 hij] at hw;rw[dF,au λz=>hij z.1];obtain⟨b,ob,h1,h2,h3,h4,h5,h6⟩:=E.own j w hj hw;subst h1;have hba:∀c,c=b->σ[k]?≠ab (ab (.ref c)):=λc z e=>by subst z;exact hij (h6 k ho e)
   refine⟨b,ob,rfl,?_,h3,hk _ _ h4 (hba b rfl),h5,λm hm hs=>?_⟩
   ·refine(h2.aMg (P':=λc=>c=b) h3 rfl).keep (λc oc hc hp=>?_) λ_ _=>trivial
    refine hk _ _ hc λz=>?_
    rcases hp with hp|hp
    ·exact hba c hp z
    ·obtain⟨c',oc',z1,_,_,z4,z5,_⟩:=E.own k _ ho z;cases z1;rw[hc] at z4;cases z4;rw[hp] at z5;cases z5
   ·by_cases hkm:k=m
    ·subst hkm;rw[iu] at hs;split at hs
     ·split at hs<;>cases hs
     ·exact ay rfl ‹_›
    ·rw[c5 hkm] at hs;exact h6 m hm hs
theorem aHg(I:Inv X Ψ σ H s):Inv X Ψ (σ.set j ai) H s:=
 ⟨I.ok,I.os,I.bare,I.base,let ⟨m,hn,hl⟩:=I.loc;⟨m,hn,λi x v e1 e2 e3=>hl i x v e1 (by
  by_cases h:j=i
  ·subst h;rw[iu] at e2;split at e2
   ·split at e2<;>cases e2
   ·exact ay rfl ‹_›
  ·rw[c5 h] at e2;exact e2) e3⟩,I.cell,I.free,I.freeC,I.pin,I.hok,by rw[kg];exact I.len⟩
theorem aU8(I:Inv X Ψ σ H s)(E:ES own H σ ρ)(ho:own k=ae)(hc:isC (ρ.getD k .uD)=ae) :
  ∃H',Inv X Ψ (σ.set k ai) H' s/\ES own H' (σ.set k ai) (ρ.set k .uD)/\KU own σ H (σ.set k ai) H'/\(∀b o,H b=ab o->RG o=ah->H' b=ab o)/\∀a xs,ρ.getD k .uD=.cel a xs->θ xs=ae/\∀P:ak->Prop,Rep P H' (.ref a) (.scr xs):=by
 by_cases hu:∃a xs,ρ.getD k .uD=.cel a xs
 ·obtain⟨a,xs,hx⟩:=hu;obtain⟨a',vs,hσ,hl,rr,hin,r,hba⟩:=vU E ho (by rw[hx];rfl);have:=hba a hx;subst this;obtain⟨o,I2⟩:=FJ I hl;have kn:∀b o',H b=ab o'->RG o'=ah->upd H a (.frz o (.lst vs)) b=ab o':=λb o' e h=>by
   rw[bG λz=>by rw[z,hl] at e;cases e;cases h];exact e
  obtain⟨E2,k2⟩:=aCd E (H':=upd H a (.frz o (.lst vs))) ho λb ob e n=>by
   rw[bG λz=>n (by rw[z];exact hσ)];exact e
  refine⟨_,aHg I2,E2,k2,kn,λb ys e=>?_⟩;rw[hx] at e;cases e;exact⟨hin,λP=>.frz (.inl ⟨o,aK⟩) (rr.vK kn hin)⟩
 ·obtain⟨E2,k2⟩:=aCd E ho λb ob e n=>e
  exact⟨H,aHg I,E2,k2,λ_ _ e _=>e,λa xs e=>ay ⟨a,xs,e⟩ hu⟩
theorem aCe:∀(n:af)(σ:L2.St)(H:Hp)(ρ:aa D),Inv X Ψ σ H s->ES own H σ ρ->(∀m,m<n->own (j+m)=ae)->(∀m,m<n->isC (ρ.getD (j+m) .uD)=ae)->
  ∃H',Inv X Ψ (aDw j n σ) H' s/\ES own H' (aDw j n σ) (aQv j n ρ)/\KU own σ H (aDw j n σ) H'/\(∀b o,H b=ab o->RG o=ah->H' b=ab o)/\∀m a xs,m<n->ρ.getD (j+m) .uD=.cel a xs->∀P:ak->Prop,Rep P H' (.ref a) (.scr xs)
 |0,σ,H,ρ,I,E,_,_=>⟨H,I,E,.same (.refl H),λ_ _ e _=>e,λ_ _ _ h=>by cases h⟩
 |n+1,σ,H,ρ,I,E,ho,hc=>by
  obtain⟨H1,I1,E1,k1,n1,f1⟩:=aU8 I E (ho n (iE n)) (hc n (iE n));have low:∀m,m<n->(ρ.set (j+n) .uD).getD (j+m) .uD=ρ.getD (j+m) .uD:=λm hm=>by rw[dF,au 0x1]
  obtain⟨H',I',E',k',n',f'⟩:=aCe n _ H1 _ I1 E1 (λm hm=>ho m (g9 hm)) λm hm=>by rw[low m hm];exact hc m (g9 hm)
  refine⟨H',I',E',k1.trans k',λb o e h=>n' b o (n1 b o e h) h,λm a xs hm e P=>?_⟩;rcases ke m n with h|h
  ·exact f' m a xs h (by rw[low m h];exact e) P
  ·obtain rfl:m=n:=by lia
   obtain⟨z1,z2⟩:=f1 a xs e;exact(z2 P).vK n' z1
theorem WL(f:∀m a xs,m<n->ρ.getD (j+m) .uD=.cel a xs->∀P:ak->Prop,Rep P H' (.ref a) (.scr xs)):∀{kv:aa (Key×V)}{kvs kvs':aa (D×D)},iJ P H kv kvs->aDv ρ j n kvs=ab kvs'->iJ P' H' kv kvs'
 |[],_,_,.nil,h=>by cases h;exact .nil
 | (k,v)::kv,(_,d)::kvs,kvs',.cons r t,h=>by
  cases d with
  |adr a=>
   obtain rfl:=r.inv;simp only[aDv] at h;split at h
   ·rename_i b xs hb;split at h
    ·rename_i hk;rw[aI,dL,dL] at hk;obtain⟨rfl,hk⟩:=hk;obtain⟨ks,h1,rfl⟩:=ka.mp h;have hle:j<=Z4 j n (.adr a) ρ:=aCc;exact .cons (f (Z4 j n (.adr a) ρ-j) a xs 0x1 (by rw[zw hle];exact hb) P') (WL f t h1)
    ·cases h
   ·cases h
  |_=>cases h
theorem WM(f:∀m a xs,m<n->ρ.getD (j+m) .uD=.cel a xs->∀P:ak->Prop,Rep P H' (.ref a) (.scr xs)):∀{kv:aa (aa Key×V)}{kvs kvs':aa (D×D)},o6 P H kv kvs->aDv ρ j n kvs=ab kvs'->o6 P' H' kv kvs'
 |[],_,_,.nil,h=>by cases h;exact .nil
 | (k,v)::kv,(_,d)::kvs,kvs',.cons r t,h=>by
  cases d with
  |adr a=>
   obtain rfl:=r.inv;simp only[aDv] at h;split at h
   ·rename_i b xs hb;split at h
    ·rename_i hk;rw[aI,dL,dL] at hk;obtain⟨rfl,hk⟩:=hk;obtain⟨ks,h1,rfl⟩:=ka.mp h;have hle:j<=Z4 j n (.adr a) ρ:=aCc;exact .cons (f (Z4 j n (.adr a) ρ-j) a xs 0x1 (by rw[zw hle];exact hb) P') (WM f t h1)
    ·cases h
   ·cases h
  |_=>cases h
theorem aFk{rest:aa bn}(ho:own i=ah)(hj:∀m,m<n->own (j+m)=ae)(h2:PSs X rest (tS own g)):PSs X rest (tS own (aFj i j n g)):=λΨ s σ H D' I z=>by
 obtain⟨ρ,fl,E,h,q⟩:=z;unfold aFj at h;split at h
 ·rename_i kvs hd;split at h
  ·rename_i kvs' hf;split at h
   ·rename_i hc;rw[fA] at hc;obtain⟨H',I',E',k',n',f'⟩:=aCe n σ H ρ I E hj λm hm=>hc m (fx.mpr hm)
    obtain⟨v,hσ,hr⟩:=E.at_ i (by rw[hd];intro z;cases z);have hr:=hr ho;rw[hd] at hr;have hi:∀m,m<n->j+m≠i:=λm hm z=>by have:=hj m hm;rw[z,ho] at this;cases this
    have hσ':∀(n:af)(σ:L2.St),(∀m,m<n->j+m≠i)->(aDw j n σ)[i]?=σ[i]?:=λn=>by
     induction n with
     |zero=>intro σ _;rfl
     |succ n ih=>
      intro σ hne;show(aDw j n (σ.set (j+n) ai))[i]?=_;rw[ih _ λm hm=>hne m (g9 hm),c5 (hne n (iE n))]
    have eσ:(aDw j n σ).set i (ab v)=aDw j n σ:=by
     refine Cp λm=>?_
     rw[iu];split
     ·rename_i z;subst z;rw[hσ' n σ hi,hσ];split
      ·rfl
      ·rename_i z;exact ay (dj.mp (by rw[hσ' n σ hi];exact hσ:(aDw j n σ)[i]?=ab (ab v))).1 z
     ·rfl
    have r2:Rep (λa=>¬Own own (aDw j n σ) a) H' v (.dct kvs'):=by
     cases hr with
     |dK e p r nn=>exact .dK (k' _ _ e p).1 (k' _ _ e p).2 (WL f' r hf) nn
     |dT e p r nn=>exact .dT (k' _ _ e p).1 (k' _ _ e p).2 (WM f' r hf) nn
    have E2:=E'.set ho r2;rw[eσ] at E2;exact h2 Ψ s _ H' D' I' ⟨_,fl,E2,h,q.step k'⟩
   ·exact bx h
  ·exact bx h
 ·exact bx h
theorem aKm(S:cH X.N X.env.scope scope ownN)(hn:X.N.length=n)(hm:ownN.length=1)(hcalm:X.calm=ae)(hi:PI X tg iter (gI X.K it))(ht:TgC g jL n 1)(hg:∀y,PG (mkC X scope ownN y) tg g)(he:∀y,PE (mkC X scope ownN y) e1 (gE (gM n) ah))
 (hs:∀x,eB iter X.env x=pure x)(hs1:∀y,bP [e1,.List [] lp] (mkC X scope ownN y).env=(ah,bc e1 (mkC X scope ownN y).env)::bP [.List [] lp] (mkC X scope ownN y).env)(hs2:∀y,bP [.List [] lp] (mkC X scope ownN y).env=(ah,bc (.List [] lp) (mkC X scope ownN y).env)::bP [] (mkC X scope ownN y).env):PE X (.ListComp (.Tuple [e1,.List [] lp] x1 tp) [⟨tg,iter,[],0⟩] scope pos) (aSh it):=
 aOx S hn hm hcalm hi ht (λX' cc=>by obtain⟨y,rfl⟩:=iM cc;exact hg y) (λX' cc=>by obtain⟨y,rfl⟩:=iM cc;exact he y) hs (λX' cc=>by obtain⟨y,rfl⟩:=iM cc;exact hs1 y) (λX' cc=>by obtain⟨y,rfl⟩:=iM cc;exact hs2 y)
theorem kY{x1}(he:PE X (.Tuple el x1 tp) (gE fe re))(hes:PA X es (gA f r)):PA X (.Tuple el x1 tp::es) (gA (aC fe f) (re&&r)):=aA he hes rfl
theorem JD{x1 i1 i2}:PE X (.Tuple [.Constant (.int a) i1 p1,.Constant (.int b) i2 p2] x1 tp) (gE (cM (aC (bC (.int a)) (aC (bC (.int b)) aO))) ae):=bH (aA aF (aA aF aH))
noncomputable def aQw(f:FX):FS:=λρ=>do
 let p <- f ρ
 .ok (.nx p.2)
theorem aOy(he:PE X e (gX own f))(hs:dw e ai pos.line X.env=pure ah:=by rfl):PS X (.Expr e pos) (tS own (aQw f)):=PS.imp (vG he hs) λD' σ H z=>by
 obtain⟨ρ,fl,E,h,q⟩:=z;obtain⟨⟨d,ρ'⟩,h1,h2⟩:=bB h;cases h2;exact⟨ρ,d,ρ',E,h1,λv H' k E' ns r=>q _ _ k E'⟩
theorem hj5{own:af->aq}(h0:own j=ae)(h1:own (j+1)=ae)(h2:own (j+2)=ae)(h3:own (j+3)=ae)(h4:own (j+4)=ae):∀m,m<5->own (j+m)=ae
 |0,_=>h0
 |1,_=>h1
 |2,_=>h2
 |3,_=>h3
 |4,_=>h4
theorem hd5(h0:Hid X j)(h1:Hid X (j+1))(h2:Hid X (j+2))(h3:Hid X (j+3))(h4:Hid X (j+4)):∀m,m<5->Hid X (j+m)
 |0,_=>h0
 |1,_=>h1
 |2,_=>h2
 |3,_=>h3
 |4,_=>h4
end
end Mi
namespace HT
open PySem PySem.Spec PyProof.Rows
theorem vW{lo hi:ar ag}{Q:aj->ao->Prop}(ht:kx s.heap t items)(hs:s.heap.IsSliceOf sl vl vu .none)(pl:ik vl lo)(pu:ik vu hi)
 (h1:sIx items.size 0 lo=0)(h2:sIx items.size items.size hi=items.size)(h:Q (.ref t) s):ϑ (av prog w) A (jd (.ref t) (.ref sl)) Q E s:=by
 obtain⟨o,ho,hc,hd⟩:=id hs;have tS:s.TypeIs (.ref sl) "slice":=⟨o,ho,hc⟩
 have tT:=ht.typeIs;unfold jd
 try with_reducible refine fq ?_
 first|refine am (aE ?_)|skip
 refine am (AI tT 0x4 ?_);refine am (kN tT slot_tuple_getitem (nN slot_tuple_getitem tT AJ ?_ (AK _ _)));show ϑ _ _ (AL (.ref t) >>= _) _ _ s;refine am (AM ht (am (jy tS ?_)));rw[al 0x4];refine am (nQ hs pl pu ?_);rw[h1,h2];show ϑ _ _ (if (((0:af):ag)==0&&(1:ag)==1&&(items.size-0)==items.size)=ae then _ else _) _ _ s;rw[al 0x2];refine am (am (jy tT (aE ?_)));rw[al 0x4];exact am (mI (aE ⟨_,rfl,aE h⟩))
end HT
namespace Mi
open PySem L2 PySem.SeqAt PySem.Spec PyProof.Rows
def aSj:D->ar ag->ar ag->Res D
 |.tup xs,lo,hi=>if θ xs then .ok (.tup (cutD xs lo hi)) else .bad
 |d,lo,hi=>aDu d lo hi
def aCf(a:FE)(lo hi:aa D->Res (ar ag)):FE:=λρ=>do let x <- a ρ;let l <- lo ρ;let h <- hi ρ;aSj x l h
def aU9:D->Res aq
 |.scr xs=>.ok (!xs.isEmpty)
 |d=>aT5 d
def aSk(a:FE):FT:=λρ=>do let x <- a ρ;aU9 x
section
variable [KFrag]
section
theorem aOz(hK:KFrag.K=X.K):SlR X (λx lo hi H Q=>∃a d,Rep All H x a/\aSj a lo hi=.ok d/\kR H d ae Q):=by
 rintro Ψ s σ H x v vl vu lo hi sl Q I rx hs pl pu ⟨a,d,p,e,k⟩;by_cases hz:∃z,a=.tup z
 ·obtain⟨z,rfl⟩:=hz;replace e:(if θ z then ι (ξ (cutD z lo hi)) else .bad)=.ok d:=e;split at e
  ·rename_i hp;cases e;by_cases hw:G3 z.length 0 lo=0/\G3 z.length z.length hi=z.length
   ·have p0:=p;obtain⟨l,xs,rfl,ee,rr⟩:=p.fH;cases rx;obtain⟨its,r,ht,hsz⟩:=I.tuple (.of ee);have hlen:its.toArray.size=z.length:=by rw[bS,<-r.length,rr.length]
    refine⟨"tuple",_,slot_tuple_getitem.lookup,ht.typeIs,HT.vW ht hs pl pu (by rw[hlen,VM];exact hw.1) (by rw[hlen,VM];exact hw.2) ⟨.ref l,H,I,rfl,?_⟩⟩;have ec:cutD z lo hi=z:=by
     unfold cutD;rw[hw.1,hw.2,C3,C4,List.take_length]
    rw[ec] at k;exact k _ _ (.refl H) p0 λ_=>p0.bM (by rw[μ];exact hp)
   ·refine aBj hK Ψ s σ H x v vl vu lo hi sl Q I rx hs pl pu ⟨_,_,p,?_,k⟩;show(if !θ z||ϒ (G3 z.length 0 lo=0/\G3 z.length z.length hi=z.length) then (Res.bad:Res D) else ι (ξ (cutD z lo hi)))=_;rw[hp,cw hw];rfl
  ·exact bx e
 ·refine aBj hK Ψ s σ H x v vl vu lo hi sl Q I rx hs pl pu ⟨a,d,p,?_,k⟩;cases a<;>first|exact e|exact ay ⟨_,rfl⟩ hz
theorem WN{lo hi:ar Expr}(hK:KFrag.K=X.K)(he:PE X e (gE fe re))(hl:PO X lo (gO fl))(hh:PO X hi (gO fh)):PE X (.Subscript e (.Slice lo hi ai p2) pos) (gE (aCf fe fl fh) ae):=
 PE.imp (UV (aOz hK) he hl hh) λσ H Q z0=>by
  obtain⟨ρ,d,E,h,q⟩:=z0;obtain⟨x,h1,h⟩:=bB h;obtain⟨l,h2,h⟩:=bB h;obtain⟨u,h3,h⟩:=bB h;exact⟨ρ,x,E,h1,λv H1 s1 r1 _=>⟨ρ,l,E.same s1,h2,λH2 s2=>⟨ρ,u,E.same (s1.trans s2),h3,λH3 s3=>⟨x,d,r1.same (s2.trans s3),h,q.imp ((s1.trans s2).trans s3) id⟩⟩⟩⟩
theorem aKn(hK:KFrag.K=X.K)(ha:PE X a (gE fa ra))(he:∀whole,ky a X.env whole=(do let v <- whole;kC a.pos;i9 [v] (lI v)):=by intro _;rfl):PT X a (gT (aSk fa)):=
 PT.imp (UG ha he) λσ H Q z0=>by
  obtain⟨ρ,k,E,h,q⟩:=z0;obtain⟨d,h1,h2⟩:=bB h;refine⟨ρ,d,E,h1,λv H' s r _=>⟨k,?_,q H' s⟩⟩;by_cases hz:∃z,d=.scr z
  ·obtain⟨z,rfl⟩:=hz;cases h2;obtain⟨a,xs,rfl,e,rr⟩:=r.inv;exact .inl ⟨xs,e.sq hK,by cases rr<;>rfl⟩
  ·refine aT7 r ?_ ?_ λxs z=>hz ⟨xs,z⟩
   ·cases d<;>first|exact h2|exact bx h2|exact ay ⟨_,rfl⟩ hz
   ·rintro kvs rfl;exact bx h2
end
end
def bFz(f:FE):FE:=λρ=>do
 let d <- f ρ
 match d with
 |.lst xs=>if θ xs then .ok (.scr xs) else .bad
 |_=>.bad
noncomputable def aSl:D->ar (aa D)
 |.lst a=>ab a
 |.scr a=>ab a
 |_=>ai
def aKo(x y:D):Res D:=match aSl x,aSl y with
 |some a,ab b=>if ϒ (a.length+b.length<=lim)&&θ a&&θ b then .ok (.lst (a++b)) else .bad
 |_,_=>.bad
section
variable [KFrag]
section
variable {X:Cx} {e:Expr} {f:FE}
def tFz(t:TE):TE:=λσ H Q=>t σ H λv H1=>∃a vs,v=.ref a/\H1 a=ab (.lst vs)/\∀o,Q v (upd H1 a (.frz o (.lst vs)))
theorem aSm(h:PE X e t):PE X e (tFz t):=by
 intro Ψ s σ H Q I q;refine gk (h Ψ s σ H _ (I.wish _) q) (λu s1 ⟨v,H1,I1,r,a,vs,ev,ea,k⟩=>?_) λ_ _ z=>z
 obtain⟨o,I2⟩:=FJ I1 ea;exact⟨v,_,I2,r,k o⟩
theorem aP0(h:PE X e (gE f ae)):PE X e (gE (bFz f) ae):=PE.imp (aSm h) λσ H Q ⟨ρ,d,E,h,q⟩=>by
 obtain⟨d0,h1,h2⟩:=bB h;split at h2
 ·rename_i xs;split at h2
  ·rename_i hp;cases h2;refine⟨ρ,_,E,h1,λv H1 s1 r n=>?_⟩;cases n rfl with
   |@lst a vs _ ea pa ra=>
    refine⟨a,vs,rfl,ea,λo=>?_⟩;have noT:∀ob,H1 a=ab ob->RG ob=ae:=λob z=>by rw[ea] at z;cases z;rfl
    have s2:b_ H (upd H1 a (.frz o (.lst vs))):=λb ob eb=>by
     rw[bG (λz=>by rw[z,show H a=ai from pa] at eb;cases eb)];exact s1 b ob eb
    have rp:∀P:ak->Prop,Rep P (upd H1 a (.frz o (.lst vs))) (.ref a) (.scr xs):=λP=>.frz (.inl ⟨o,aK⟩) ((zL noT ra hp).bM hp)
    exact q _ _ s2 (rp _) λ_=>rp _
  ·exact bx h2
 ·exact bx h2
theorem aCg(hK:KFrag.K=X.K)(h:aSl d=ab ds)(r:Rep P H v d):∃a xs,v=.ref a/\SqL X.K H a xs/\bT P H xs ds:=by
 cases d with
 |lst a=>
  cases h;obtain⟨_,_,rfl,e,p,rr⟩:=r.inv;exact⟨_,_,rfl,.inl (.inl e),rr⟩
 |scr a=>
  cases h;obtain⟨_,_,rfl,e,rr⟩:=r.inv;exact⟨_,_,rfl,e.sq hK,rr⟩
 |_=>cases h
theorem aKp(hK:KFrag.K=X.K):OpR X (e6 .Add) (r2 aKo ae):=by
 intro Ψ s σ H x y v u Q I rx ry ⟨a,b,d,p,q,e,k⟩;unfold aKo at e;split at e
 ·rename_i xa xb ha hb;split at e
  ·rename_i hl;cases e;rw[aI,aI] at hl;obtain⟨⟨hl,hp1⟩,hp2⟩:=hl;obtain⟨l1,xs1,rfl,sq1,rr1⟩:=aCg hK ha p;obtain⟨l2,xs2,rfl,sq2,rr2⟩:=aCg hK hb q;cases rx;cases ry;obtain⟨its,vr1,⟨o1,n1,e1,c1,d1,t1⟩,_⟩:=I.list sq1;obtain⟨its2,vr2,⟨o2,n2,e2,c2,d2,t2⟩,_⟩:=I.list sq2;obtain⟨oc1,od1,ot1,os1⟩:=o1;obtain⟨oc2,od2,ot2,os2⟩:=o2;dsimp only at c1 d1 t1 c2 d2 t2;subst c1 d1 t1 c2 d2 t2;have hz:xs1.length+xs2.length<=ba:=by rw[rr1.length,rr2.length];exact m7 hl
   have z1:=vr1.length;have z2:=vr2.length;have ea:its.toArray++its2.toArray=(its++its2).toArray:=by simp
   refine sB ⟨_,e1,rfl⟩ ⟨_,e2,rfl⟩ noFill_list_add seq_list_add PySem.F.slot_list_add PySem.F.entry_list_add (PySem.F.args_list_add_2 _ _) (list_addW l1 l2 its.toArray its2.toArray n1 n2 ai ai os1 os2 (by rw[bS,bS];lia)) ⟨e1,e2,?_⟩;rw[ea];refine⟨.ref _,_,I.aT3 (vr1.append vr2) (by rw[bg];lia),rfl,?_⟩;have sp:b_ H (upd H s.heap.objs.size (.lst (xs1++xs2))):=b_.upd I.fresh;exact k _ _ sp (.lst aK trivial ((rr1.append rr2).same sp)) λ_=>.lst aK I.fresh (((rr1.bM hp1).append (rr2.bM hp2)).same sp)
  ·exact bx e
 ·exact bx e
end
end
noncomputable def bDc(i:af):FE:=λρ=>match ρ.getD i .uD with|.dcl _ kvs=>.ok (.dct kvs)|_=>.bad
def Y4(i:af)(f g:FE):FS:=λρ=>do
 let d <- g ρ
 let k <- f ρ
 match ρ.getD i .uD with
 |.dcl a kvs=>if ϒ (kvs.length<lim)&&GZ kvs k&&d.pure then .ok (.nx (ρ.set i (.dcl a (putD kvs k d)))) else .bad
 |_=>.bad
noncomputable def endC(j:af):Fl->Res D
 |.rt (.tup (d::ρ))=>.ok (.tup [d,ρ.getD j .uD])
 |_=>.bad
def fnC(j n m:af)(f:FS):aa D->Res D:=λds=>do
 let r <- f (ds++bq (m-n) .uD)
 endC j r
open Classical in
noncomputable def chD(f:aa D->Res D)(j:af)(kvs:aa (D×D))(ds:aa D):Res (D×aa (D×D)):=
 if h:∃p:D×aa (D×D),∀b,f (ds.set j (.dcl b kvs))=.ok (.tup [p.1,.dcl b p.2]) then .ok h.choose else .bad
theorem aP1(h:chD f j kvs ds=.ok p):∀b,f (ds.set j (.dcl b kvs))=.ok (.tup [p.1,.dcl b p.2]):=by
 unfold chD at h;split at h
 ·rename_i e;cases h;exact e.choose_spec
 ·exact bx h
theorem aP2(h:∀b,f (ds.set j (.dcl b kvs))=.ok (.tup [r,.dcl b kvs'])):chD f j kvs ds=.ok (r,kvs'):=by
 have e:∃p:D×aa (D×D),∀b,f (ds.set j (.dcl b kvs))=.ok (.tup [p.1,.dcl b p.2]):=⟨(r,kvs'),h⟩
 have q:chD f j kvs ds=.ok e.choose:=by unfold chD;rw[oj e]
 rw[q];have z:=e.choose_spec 0;rw[h 0] at z;injection z with z
 injection z with z
 injection z with z1 z2
 injection z2 with z2
 injection z2 with _ z2
 rw[z1,z2]
noncomputable def isU:D->aq
 |.uD=>ae
 |_=>ah
def NP(f:aa D->Res D)(n j i:af)(fs:FA):FX:=λρ=>do
 let ds <- fs ρ
 match ρ.getD i .uD with
 |.dct kvs=>if ϒ (ds.length=n)&&(ϒ (j<n)&&isU (ds.getD j .non)) then (do
   let p <- chD f j kvs ds
   if p.1.pure&&θ (p.2.map (·.2)) then .ok (p.1,ρ.set i (.dct p.2)) else .bad) else .bad
 |_=>.bad
def aFl(f:FX):FXT:=λρ=>do
 let (d,ρ') <- f ρ
 let b <- asB d
 pure (!b,ρ')
section
variable [KFrag]
section
variable {own:af->aq}
theorem aP3(hN:X.N[i]?=ab x)(hv:Vis X.env.scope x)(hd:nDb x:=by decide)(hcd:nCd x:=by decide):PE X (.Name x pos) (gE (bDc i) ah):=
 PE.imp (fX hN hv hd hcd) λσ H Q z0=>by
  obtain⟨ρ,d,E,h,q⟩:=z0;unfold bDc at h;split at h
  ·rename_i a kvs hx;cases h;obtain⟨v,h1,h2⟩:=E i (by rw[hx];intro z;cases z);rw[hx] at h2;obtain⟨rfl,r⟩:=h2.inv;exact⟨_,h1,q.self r (λz=>by cases z)⟩
  ·exact bx h
theorem aHh(r:Rep P H (.ref a) (.dct kvs)):Rep P H (.ref a) (.dcl a kvs):=by
 cases r with
 |dK e p r n=>exact .dlK e p r n
 |dT e p r n=>exact .dlT e p r n
theorem aCh(hu:X.A.units+20<bX)(ho:own i=ae)(hN:X.N[i]?=ab x)(hvi:Vis X.env.scope x)(hk:PE X k (gE fk rk))(hv:PE X value (gE fv rv))
 (hs:dw value (ab (.Subscript (.Name x p1) k pos')) pos.line X.env=pure ah:=by rfl)(hd:nDb x:=by decide)(hcd:nCd x:=by decide) :
  PS X (.Assign [.Subscript (.Name x p1) k pos'] value pos) (tS own (Y4 i fk fv)):=by
 rintro Ψ s σ H D' I ⟨ρ,fl,E,h,q⟩;obtain⟨d,h0,h⟩:=bB h;obtain⟨kd,h1,h2⟩:=bB h;split at h2
 ·rename_i b kvs hx;split at h2
  ·rename_i hg;cases h2;simp only[aI] at hg;obtain⟨⟨hg1,hg2⟩,hg3⟩:=hg;obtain⟨a,o,hσ,r,hin,ha,hm⟩:=E.ownAt ho (by rw[hx];intro z;cases z);rw[hx] at r hin;obtain⟨eb,r⟩:=r.inv;cases eb;refine PS.imp (aJz hu hN hvi hk hv hs hd hcd) (λD' σ H z=>z) Ψ s σ H D' I ⟨ρ,kd,d,kvs,b,E.er,h0,h1,hσ,r,hin,MF hg1,hg2,hg3,λH1 o1 sm hmo rp=>?_⟩;obtain⟨E2,k2⟩:=(E.same sm).mut ho hσ hmo (aHh rp) (lX hg3 hin);exact q _ _ ((KU.same sm).trans k2) E2
  ·exact bx h2
 ·exact bx h2
def aTc(f:aa D->Res D)(j n:af):Sp:=λvs H Q _=>∃(ds:aa D)(a:ak)(kvs kvs':aa (D×D))(d:D),vs.length=n/\ds.length=n/\j<n/\ES (own1 j) H (vs.map ab) ds/\ds.getD j .uD=.dcl a kvs/\f ds=.ok (.tup [d,.dcl a kvs'])/\d.pure=ae/\
 ∀v H',(∀b o,H b=ab o->b≠a->H' b=ab o)->Rep All H' (.ref a) (.dcl a kvs')->θ (kvs'.map (·.2))=ae->Rep All H' v d->Q v H'
theorem aFm{E:XK}(hx:own rtX=ae)(hN:n<=N.length)(hown:∀i,i<n->own i=own1 j i)(h0:aTc (fnC j n N.length f) j n vs H Q E):tS own f {nx:=λ_ H'=>Q .non H',rt:=Q} (L2.start N vs) H:=by
 obtain⟨ds,a,kvs,kvs',d,hvl,hl,hj,E0,hdj,h,dp,q⟩:=h0;obtain⟨fl,h1,h2⟩:=bB h;have hst:L2.start N vs=vs.map ab++bq (N.length-n) ai:=by
  show vs.map ab++bq (N.length-vs.length) ai=_;rw[hvl]
 rw[hst];obtain⟨E1,hO⟩:=aHa (k:=N.length-n) E0 hvl hl hown (λi hi=>by simp[own1] at hi;lia);have hOn:∀b,Own (own1 j) (vs.map ab) b->b=a:=λb z=>by
  obtain⟨i,hi,e⟩:=z;have:i=j:=by simpa[own1] using hi
  subst this;obtain⟨b',o,e1,g2,_⟩:=E0.own i _ hi e;cases e1;rw[hdj] at g2;obtain⟨z,_⟩:=g2.inv;cases z;rfl
 refine⟨_,fl,E1,h1,?_⟩;cases fl with
 |nx ρ'=>exact bx h2
 |bk ρ'=>exact bx h2
 |ct ρ'=>exact bx h2
 |rt d'=>
  show kRt own _ _ _ d';unfold kRt;rw[al hx];unfold endC at h2;split at h2
  ·rename_i d1 ρ' heq;cases heq;injection h2 with h2
   injection h2 with h2
   injection h2 with z1 z2
   injection z2 with z2
   subst z1;refine⟨_,_,rfl,λv σ' H' ku E' r=>?_⟩;obtain⟨w',y2,_⟩:=E'.at_ j (by rw[z2];intro z;cases z);obtain⟨b,o,rfl,g4,g5,_⟩:=E'.own j w' (by rw[hown j hj];simp[own1]) y2;rw[z2] at g4 g5;obtain⟨eb,_⟩:=g4.inv;cases eb;exact q v H' (λc o e n1=>(ku c o e (by rw[hO];exact λz=>n1 (hOn c z))).1) g4 g5 (r.bM dp)
  ·exact bx h2
def aQx(P:b5)(w:br)(K:bi)(mg:Str->ar aj)(base:az)(k:af)(x:Str)(n j:af)(f:aa D->Res D):Prop:=
 ∃(fad:ak)(fd:dS)(ps:aa Str),vH P w K mg base CX0 k fad fd ps (aTc f j n)/\mg x=ab (.ref fad)/\iA K (.ref fad)=ae/\Binds K fd ps []
theorem aKq{w:br}{K:bi}{mg:Str->ar aj}{base:az}{x:Str}{k:af}{st:bn}{fad:ak}{fd:dS}{N ps:aa Str}{fs:FS}(j:af)(F:Fun K x x st fad fd)(hm:mg x=ab (.ref fad))(hb:Binds K fd ps [])(S:bV N ps (aL st))(own:af->aq)(hown:∀i,i<ps.length->own i=own1 j i)(hN:ps.length<=N.length)
 (hbody:∀(cdv:aj) (A:cg) (outer:aa dg) (s:ao) (H:Hp) (E:XK),nZ k (A.deeper (fS x (aL st) s.heap.objs.size fad cdv))->PSs (Z2 CX0 P w K mg base N x (aL st) fad cdv A outer s H E).nox (d7 st) (tS own fs))(hx:own rtX=ae:=by rfl):aQx P w K mg base (k+1) x ps.length j (fnC j ps.length N.length fs):=
 ⟨fad,fd,ps,F.ok S (λvs H Q E h=>by obtain⟨_,_,_,_,_,h,_⟩:=h;exact h) λcdv A outer s H vs Q E hr h=>⟨_,hbody cdv A outer s H E hr,aFm hx hN hown h⟩,hm,F.kp,hb⟩
def RpU(own:af->aq)(σ:L2.St)(i:af)(H:Hp)(v:V)(d:D):Prop:=(d=.uD/\σ[i]?=ab (ab v))\/Rep (λa=>¬Own own σ a) H v d
def aKr(own:af->aq)(σ:L2.St)(i:af)(H:Hp):aa V->aa D->Prop
 |[],[]=>gz
 |v::vs,d::ds=>RpU own σ i H v d/\aKr own σ i H vs ds
 |_,_=>ck
theorem aKr.length:∀{vs:aa V}{ds:aa D},aKr own σ i H vs ds->vs.length=ds.length
 |[],[],_=>rfl
 |_::_,_::_,h=>cy (·+1) h.2.length
 |[],_::_,h=>h.elim
 |_::_,[],h=>h.elim
theorem aKr.at:∀{vs:aa V}{ds:aa D}{m:af},aKr own σ i H vs ds->m<ds.length->∃v,vs[m]?=ab v/\RpU own σ i H v (ds.getD m .uD)
 |[],[],_,_,h=>ay h (ye _)
 |v::_,_::_,0,r,_=>⟨v,rfl,r.1⟩
 |_::_,_::_,m+1,r,h=>r.2.at (Nat.lt_of_succ_lt_succ h)
 |[],_::_,_,h,_=>h.elim
 |_::_,[],_,h,_=>h.elim
noncomputable def gAD(own:af->aq)(i:af)(f:FA):TA:=λσ H Q=>∃ρ ds,ES own H σ ρ/\f ρ=.ok ds/\∀vs H',b_ H H'->aKr own σ i H' vs ds->Q vs H'
def bUo(i:af):FE:=λρ=>if isU (ρ.getD i .uD) then .bad else .ok .uD
theorem aP4:PA X [] (gAD own i aO):=PA.imp j8 λσ H Q z0=>by obtain⟨ρ,ds,E,h,q⟩:=z0;cases h;exact q [] H (b_.refl H) trivial
theorem aHi(ho:own m=ah)(hN:X.N[m]?=ab x)(hv:Vis X.env.scope x)(hes:PA X es (gAD own i f))(hd:nDb x:=by decide)(hcd:nCd x:=by decide)(hs:bP (.Name x pos::es) X.env=(ah,bc (.Name x pos) X.env)::bP es X.env:=by rfl):PA X (.Name x pos::es) (gAD own i (aC (gM m) f)):=PA.imp (eG (fX hN hv hd hcd) hes hs) λσ H Q z0=>by
 obtain⟨ρ,ds,E,h,q⟩:=z0;obtain⟨x,h1,h⟩:=bB h;obtain⟨xs,h2,h⟩:=bB h;cases h;obtain⟨v,hv,rv⟩:=aJu E ho h1;exact⟨v,hv,ρ,xs,E,h2,λvs H2 s2 r2=>q _ _ s2 ⟨.inr (rv.same s2),r2⟩⟩
theorem aP5(ho:own i=ae)(hN:X.N[i]?=ab x)(hv:Vis X.env.scope x)(hes:PA X es (gAD own i f))(hd:nDb x:=by decide)(hcd:nCd x:=by decide)(hs:bP (.Name x pos::es) X.env=(ah,bc (.Name x pos) X.env)::bP es X.env:=by rfl):PA X (.Name x pos::es) (gAD own i (aC (bUo i) f)):=PA.imp (eG (fX hN hv hd hcd) hes hs) λσ H Q z0=>by
 obtain⟨ρ,ds,E,h,q⟩:=z0;obtain⟨x,h1,h⟩:=bB h;obtain⟨xs,h2,h⟩:=bB h;cases h;unfold bUo at h1;split at h1
 ·exact bx h1
 ·rename_i hu;cases h1;obtain⟨v,hv,_⟩:=E.at_ i (λz=>hu (by rw[z];rfl));exact⟨v,hv,ρ,xs,E,h2,λvs H2 s2 r2=>q _ _ s2 ⟨.inl ⟨rfl,hv⟩,r2⟩⟩
theorem aP6(he:PE X e (gE fe re))(hes:PA X es (gAD own i f))(hs:zSE X e es:=by rfl):PA X (e::es) (gAD own i (aC (bPu fe) f)):=PA.imp (eG he hes hs) λσ H Q z0=>by
 obtain⟨ρ,ds,E,h,q⟩:=z0;obtain⟨x,h1,h⟩:=bB h;obtain⟨xs,h2,h⟩:=bB h;cases h;obtain⟨y,h3,h1⟩:=bB h1;split at h1
 ·rename_i hp;cases h1;exact⟨ρ,_,E.er,h3,λv H1 s1 r1 _=>⟨ρ,xs,E.same s1,h2,λvs H2 s2 r2=>q _ _ (s1.trans s2) ⟨.inr ((r1.bM hp).same s2),r2⟩⟩⟩
 ·exact bx h1
theorem aUa(E:ES own H σ ρ)(ho:own i=ae)(hσ:σ[i]?=ab (ab (.ref a)))(rs:aKr own σ i H vs ds)(hj:j<ds.length)(hu:isU (ds.getD j .non)=ae)(r:Rep All H (.ref a) (.dct kvs))(hin:θ (kvs.map (·.2))=ae)(ha:H a=ab o)(hm:LQ o=ae):ES (own1 j) H (vs.map ab) (ds.set j (.dcl a kvs)):=by
 have hl:=rs.length;have hOa:Own own σ a:=⟨i,ho,hσ⟩
 have vj:vs[j]?=ab (.ref a):=by
  obtain⟨v,e,h⟩:=rs.at hj;have u:ds.getD j .uD=.uD:=by
   rw[b9,d5 hj] at hu ⊢
   revert hu
   show isU ds[j]=ae->ds[j]=.uD;cases ds[j]<;>intro z<;>first|rfl|cases z
  rw[u] at h;rcases h with ⟨_,h⟩|h
  ·rw[hσ] at h;cases h;exact e
  ·exact(Rep.uD h).elim
 have hOn:∀b,Own (own1 j) (vs.map ab) b->b=a:=λb z=>by
  obtain⟨m,hm',e⟩:=z;have:m=j:=by simpa[own1] using hm'
  subst this;rw[gs,vj] at e;simpa using e.symm
 refine⟨by rw[aw,kg];exact hl,λm hm'=>?_,λm v hm' hv=>?_⟩
 ·by_cases z:m=j
  ·subst z;exact⟨.ref a,by rw[gs,vj];rfl,λq=>by simp[own1] at q⟩
  ·have e:(ds.set j (.dcl a kvs)).getD m .uD=ds.getD m .uD:=by
    rw[b9,c5 (cq z),b9]
   rw[e] at hm' ⊢;have hlt:m<ds.length:=ou λq=>hm' (by rw[b9,oI q];rfl)
   obtain⟨v,e1,h⟩:=rs.at hlt;refine⟨v,by rw[gs,e1];rfl,λ_=>?_⟩;rcases h with ⟨h,_⟩|h
   ·exact ay h hm'
   ·exact h.mono λb hb q=>hb (by rw[hOn b q];exact hOa)
 ·have:m=j:=by simpa[own1] using hm'
  subst this;rw[gs,vj] at hv;have hv:V.ref a=v:=by simpa using hv
  subst hv;have e:(ds.set m (.dcl a kvs)).getD m .uD=.dcl a kvs:=by
   rw[b9,fg hj];rfl
  rw[e];exact⟨a,o,rfl,aHh r,hin,ha,hm,λq hq _=>by simpa[own1] using hq⟩
theorem aP7(r:Rep P H (.ref a) (.dct kvs)):∃o,H a=ab o/\LQ o=ae:=by
 cases r with
 |dK e p r n=>exact⟨_,e,rfl⟩
 |dT e p r n=>exact⟨_,e,rfl⟩
theorem aFn(C:aQx X.prog X.w X.K X.mg X.base k x n j f)(hr:nZ k' X.A)(hkk:k<=k')(hg:Gl X x)(ho:own i=ae)(ha:PA X (e::es) (gAD own i fs))(hdb:nDb x:=by decide)
 (he:zSE X e es:=by rfl)(hpl:zSP X pos es:=by rfl):PE X (.Call (.Name x p) (e::es) [] pos) (gX own (NP f n j i fs)):=by
 obtain⟨fad,fd,ps,F,hm,hk,hb⟩:=C;refine PE.imp (Q3 F (hr.mono hkk) hg hm hk hb .nil aAq ha hdb he hpl) λσ H Q ⟨ρ,d,ρ',E,h,q⟩=>?_
 obtain⟨ds,h1,h⟩:=bB h;split at h
 ·rename_i kvs hx;split at h
  ·rename_i hn;rw[aI,aI] at hn;obtain⟨n1,n2,n3⟩:=hn;have n1:=c8 n1;have n2:=c8 n2;obtain⟨⟨r0,kvs'⟩,h2,h⟩:=bB h;split at h
   ·rename_i hp;rw[aI] at hp;cases h;obtain⟨a,o,hσ,r,hin,hHa,hmo⟩:=E.ownAt ho (by rw[hx];intro z;cases z);rw[hx] at r hin;refine⟨ρ,ds,E,h1,λvs H1 s1 rs=>?_⟩;dsimp only;rw[dq];have E1:=E.same s1;refine⟨ds.set j (.dcl a kvs),a,kvs,kvs',r0,by rw[rs.length,n1],by rw[kg,n1],n2,aUa E1 ho hσ rs 0x1 n3 (r.same s1) hin (s1 _ _ hHa) hmo,?_,aP1 h2 a,hp.1,λv H' k1 r1 hin1 rv=>?_⟩
    ·rw[b9,fg 0x1];rfl
    ·obtain⟨_,r2⟩:=r1.inv;obtain⟨o',e',m'⟩:=aP7 r2;obtain⟨E2,k2⟩:=E1.aS2 ho hσ k1 e' m' r2 hin1;exact q v H' ((KU.same s1).trans k2) E2 (.set ho) (rv.bM hp.1)
   ·exact bx h
  ·exact bx h
 ·exact bx h
theorem aKs(ha:PE X a (gX own xa))(he:∀whole,ky a X.env whole=(do let v <- whole;kC a.pos;i9 [v] (lI v)):=by intro _;rfl):PT X (.UnaryOp .Not a pos) (gXT own (aFl xa)):=
 PT.imp (aGk (aMt ha he)) λσ H Q z0=>by
  obtain⟨ρ,k,ρ',E,h,q⟩:=z0;obtain⟨⟨d,ρ1⟩,h1,h2⟩:=bB h;obtain⟨b,h3,h4⟩:=bB h2;cases h4;cases aB9 h3;refine⟨ρ,_,_,E,h1,λv H' k1 E1 ns r=>?_⟩;cases r.inv;exact⟨b,rfl,q H' k1 E1 ns⟩
end
end
variable [KFrag]
section
theorem WP{x1}(hg:Gl X "enumerate")(hm:X.mg "enumerate"=ai)(ha:PA X [a] (gA (aC fa aO) ra))(hs:bP [a] X.env=[(ah,bc a X.env)]:=by rfl) :
  PI X (.Tuple elts x1 tp) (.Call (.Name "enumerate" p) [a] [] pos) (gI X.K (zN 0 fa)):=by
 rintro Ψ s σ H R I ⟨ρ,items,k,E,h,q⟩;obtain⟨d,h1,h⟩:=bB h;cases d<;>try (cases h;done)
 rename_i its;dsimp only at h;split at h
 ·rename_i hp;cases h;have hb:aC fa aO ρ=.ok [ξ its]:=by
   unfold aC;rw[h1];rfl
  refine Call_ (lM I hg hm CO (iz (thn (ha pos Ψ s σ H (λvs H1=>∃v,vs=[v]/\b_ H H1/\Rep All H1 v (.tup its)) I ⟨ρ,_,E,hb,λvs H1 s1 r1 n1=>?_⟩) λus s1 ⟨vs,H1,I1,r1,q1⟩=>?_) hs rfl))
  ·cases r1 with
   |cons r t=>
    cases t;exact⟨_,rfl,s1,r⟩
  ·obtain⟨v,rfl,s1',r⟩:=q1;cases r1 with
   |cons rv rr=>
    cases rr;obtain⟨l,ys,rfl,hl,rr⟩:=r.fH;cases rv;obtain⟨vs,rvs,pl,hz⟩:=I1.tuple (.of hl);obtain⟨n,dd,sl,e3⟩:=WF pl;refine Wn.aS9 e3 λh' e1 e2 e4=>?_
    refine zt e1 ?_;refine⟨s1.heap.objs.size+1,[s1.heap.objs.size+1,s1.heap.objs.size],_,_,H1,rfl,I1.kept λb o e=>e4 b o e,FP 0 l (s1.heap.objs.size+1) s1.heap.objs.size (CS _),⟨⟨_,e1⟩,e2⟩,λb hb=>?_,q _ H1 s1' (.enS 0 l its rfl r rfl) λhk=>.enS 0 l its rfl (r.bM hp) rfl⟩;simp only[bu,lq,or_false] at hb;rcases hb with rfl|rfl
    ·exact I1.aE2 (gp _) (I1.hok.fresh (gp _))
    ·exact I1.aE2 (aT _) (I1.hok.fresh (aT _))
 ·cases h
end
end Mi
section
local macro_rules | `(tactic| trivial) => `(tactic| first | exact Or.inl rfl | exact Or.inr rfl | exact Or.inr (Or.inl rfl) | exact Or.inr (Or.inr rfl))
namespace Lk63
open PySem L2 Mi PySem.W
local macro_rules|`(0xb)=>`(aA aB (aA aF aH))|`(0xc)=>`(aA aB aH)|`(0xd)=>`(aX aB aF)
noncomputable def top(i:af):bn:=PySem.Challenge.pw_hookmill_k63_rule_nets.main.body.getD i (.Pass ⟨0,0,0,0⟩)
abbrev tY:bn:=top 13
noncomputable def R9:af->aq:=λi=>ah
def zO:FS:=bN (cR ah 2 bQ ae) (bN (sIf (bTB (b2 (cT (.ord .gt)) (aN eQ (aC cA aO)) bQ)) (cR ah 2 (b2 (bI .mod) (b2 getD cA (b2 (bI .mod) fG (aN eQ (aC cA aO)))) jG) ae) uF) (bN (cR ah 3 (b2 (bI .mod) (b2 vD (b2 (bI .add) (b2 (bI .add) fB cF) (b2 vD yQ (b2 (bI .fdiv) fG (aN max2 (aC cF (aC (aN eQ (aC cA aO)) aO)))))) G4) jG) ae) (nR (b2 (bI .mod) (b2 vD d9 d9) mY) ae)))
def aQ:aa D->Res D:=fnS 2 4 zO
abbrev tZ:bn:=top 14
noncomputable def R_:af->aq:=λi=>ah
def SJ:FS:=bN (cR ah 2 (bC (.str "abcdefghijklmnopqrstuvwxyz")) ae) (bN (sIf (aDt (bTB (b2 inX fG (cM (aC J_ (aC K9 aO))))) (bTB (b2 (cT .eq) (b2 (bI .mod) (aN (cP 2 aQ) (aC cA (aC (bC (.int 36)) aO))) aGq) cF))) (nR (b2 (bI .add) (b2 getD (BR (aC (bC (.str "drop")) (aC (bC (.str "copy")) aO))) (b2 (bI .fdiv) fG K9)) (b2 getD fB (b2 (bI .mod) (aN (cP 2 aQ) (aC cA (aC aIy aO))) K_))) ae) uF) (bN (cR ah 3 (aN (cP 2 aQ) (aC cA (aC bQ aO))) ae) (bN (cR ah 4 (b2 getD (BR (aC (b2 getD fB (b2 (bI .mod) d9 K_)) (aC (b2 getD (bC (.str "abdz")) (b2 (bI .mod) (b2 (bI .fdiv) d9 K_) J_)) aO))) (b2 (bI .mod) (b2 (bI .fdiv) d9 (bC (.int 104))) gP)) ah) (bN (cR ah 5 (b2 (bI .mod) (aN (cP 2 aQ) (aC cA (aC cF aO))) aEf) ae) (bN (cR ah 6 (b2 (bI .mod) (aN (cP 2 aQ) (aC cA (aC gP aO))) (b2 (bI .sub) aEf dZ)) ae) (bN (sIf (bTB (b2 (cT .eq) (b2 (bI .mod) (b2 (bI .fdiv) (aN (cP 2 aQ) (aC cA (aC cF aO))) aEf) gP) cF)) (cR ah 6 (b2 (bI .mod) (aN (cP 2 aQ) (aC cA (aC (b2 (bI .add) J_ fG) aO))) (b2 (bI .sub) aEf dZ)) ae) uF) (nR (b2 (bI .add) (b2 (bI .add) (b2 vD jT dZ) (b2 getD fB (b2 (bI .mod) (b2 (bI .add) fG (aN (cP 2 aQ) (aC cA (aC sW aO)))) K_))) (b2 vD jT lF)) ae)))))))
def a_:aa D->Res D:=fnS 2 7 SJ
abbrev jM:bn:=top 15
noncomputable def JF:af->aq:=λi=>i==2
def imk:FS:=bN (cR ah 6 (aN (cP 2 aQ) (aC cA (aC (b2 (bI .add) (b2 (bI .add) (bC (.int 40)) (b2 vD sW d9)) dZ) aO))) ae) (bN (cR ah 7 (b2 getD (BR (aC cF (aC (b2 (bI .mod) lF J_) aO))) (b2 (bI .sub) dZ cF)) ah) (bN (cR ah 8 (aN kE (aC (e_ 9 (jK (aC jF aO) tW) jL eU (aN (cP 2 a_) (aC cA (aC (b2 (bI .mod) (b2 (bI .fdiv) lF (b2 (bI .add) (bC (.int 6)) (b2 vD aQo BJ))) fG) aO))) ae) aO)) ah) (Q_ 2 (cM (aC (aN (cP 2 a_) (aC cA (aC (b2 (bI .add) (b2 (bI .add) sW (b2 vD sW d9)) dZ) aO))) (aC (aN (cP 2 a_) (aC cA (aC d9 aO))) (aC BK aO)))))))
def omk:FS:=bN (cR ah 4 (cM aO) ae) (bN (sIf (aDt (bTB (b2 (cT (.ord .gt)) d9 bQ)) (bTB (b2 (cT (.ord .gt)) (b2 (bI .mod) (b2 (bI .fdiv) (aN (cP 2 aQ) (aC cA (aC aIz aO))) d9) sW) bQ))) (cR ah 4 (cM (aC (aN (cP 2 a_) (aC cA (aC bQ aO))) aO)) ae) uF) (bN (Q_ 2 (cM (aC (aN (cP 2 a_) (aC cA (aC (b2 (bI .add) sW (b2 vD sW d9)) aO))) (aC (aN (cP 2 a_) (aC cA (aC d9 aO))) (aC jT aO))))) (xO (jK (aC cF (aC (b2 (bI .add) gP (b2 (bI .mod) (aN (cP 2 aQ) (aC cA (aC (b2 (bI .add) (bC (.int 40)) (b2 vD sW d9)) aO))) gP)) aO)) yS) (tg1 5) imk)))
def JG:FS:=bN (cR ae 2 (BR aO) ae) (bN (xO (jK (aC fG aO) tW) (tg1 3) omk) (nR (aN kE (aC fB aO)) ah))
def jN:aa D->Res D:=fnS 2 9 JG
abbrev jO:bn:=top 16
noncomputable def JH:af->aq:=λi=>i==2
def otk:FS:=bN (cR ah 4 (aN (cP 2 aQ) (aC cA (aC (b2 (bI .add) (bC (.int 51)) d9) aO))) ae) (bN (cR ah 5 (aN kE (aC (e_ 7 (jK (aC (b2 (bI .mod) (b2 (bI .fdiv) jT J_) sW) aO) tW) jL eU (aN (cP 2 a_) (aC cA (aC (b2 (bI .mod) (b2 (bI .fdiv) jT (b2 (bI .add) aEg (b2 vD aQo jF))) fG) aO))) ae) aO)) ah) (bN (cR ah 6 (cM (aC (aN (cP 2 a_) (aC cA (aC (b2 (bI .mod) jT fG) aO))) (aC (aN (cP 2 a_) (aC cA (aC (b2 (bI .mod) (b2 (bI .fdiv) jT gP) fG) aO))) aO))) ae) (Q_ 2 (b2 QR (b2 QR (cM (aC (aN (cP 2 a_) (aC cA (aC (b2 (bI .add) K9 d9) aO))) aO)) lF) (cM (aC dZ aO))))))
def JK:FS:=bN (cR ae 2 (BR aO) ae) (bN (xO (jK (aC (b2 (bI .mod) (aN (cP 2 aQ) (aC cA (aC (bC (.int 50)) aO))) J_) aO) tW) (tg1 3) otk) (nR (aN kE (aC fB aO)) ah))
def jP:aa D->Res D:=fnS 2 7 JK
abbrev cQ:bn:=top 17
noncomputable def NQ:af->aq:=λi=>i==7||i==8
def b4s:FS:=bN (cR ah 15 (b2 getD uN (b2 (bI .mod) (b2 (bI .fdiv) sS J_) (aN eQ (aC uN aO)))) ah) (bN (Q_ 7 (b2 getD BL bQ)) (bN (cR ah 16 (LC (b2 (cT (.ord .gt)) (aN aJl (aC d9 aO)) bQ) (b2 (cT (.ord .gt)) (b2 (bI .mod) (b2 (bI .fdiv) sS (bC (.int 64))) J_) bQ)) ae) (cR ae 8 (b2 (bI .add) (b2 (bI .add) (oN (aC (cM (aC (b2 getD BL gP) (aC BP aO))) aO)) (e_ 17 (bW (b2 getD BL sW) ah) jL eU (cM (aC j6 (aC (bC (.bl ah)) aO))) ah)) BK) ae)))
def b2s:FS:=bN (Q_ 7 (b2 getD (b2 (bI .add) n6 (oN (aC (b2 getD (b2 getD mW bQ) bQ) aO))) (b2 (bI .mod) (b2 (bI .fdiv) sS J_) (aN max2 (aC cF (aC (aN eQ (aC n6 aO)) aO)))))) (sIf (bTB (b2 (cT .eq) (aN eQ (aC n6 aO)) bQ)) (cR ae 8 (b2 (bI .add) (e_ 17 (bW (b2 getD (b2 getD mW bQ) gP) ah) jL eU (cM (aC j6 (aC (bC (.bl ae)) aO))) ah) BK) ae) uF)
def b3s:FS:=bN (cR ah 14 (b2 getD mW (b2 (bI .mod) (b2 (bI .fdiv) sS J_) (aN eQ (aC mW aO)))) ah) (bN (Q_ 7 (b2 getD mX bQ)) (cR ae 8 (b2 (bI .add) (e_ 17 (bW (b2 getD mX gP) ah) jL eU (cM (aC j6 (aC (bC (.bl ah)) aO))) ah) BK) ae))
def c2s:FT:=bOr (bTr (b2 getD BJ cF)) (bOr (bTB (b2 (cT (.ord .ge)) (b2 (bI .add) (aN eQ (aC jF aO)) (aN eQ (aC BK aO))) dZ)) (bTB (b2 (cT .eq) (b2 (bI .mod) sS J_) bQ)))
def b1s:FS:=bN (Q_ 7 (b2 getD (b2 getD mW cF) bQ)) (cR ae 8 (oN (aC (cM (aC (b2 getD (b2 getD (b2 getD mW cF) gP) bQ) (aC (bC (.bl ah)) aO))) aO)) ae)
def c3s:FT:=bOr (bTB (b2 (cT (.ord .lt)) (b2 (bI .mod) sS J_) sW)) (bTB (b2 (cT .eq) (aN eQ (aC uN aO)) bQ))
def c1s:FT:=aDt (bTB (b2 (cT (.ord .lt)) (aN eQ (aC jF aO)) lF)) (bTB (b2 (cT .eq) (aN eQ (aC BK aO)) bQ))
def wfit:FE:=aBo 17 3 jL (bTB (b2 (cT .eq) (b2 getD d9 j6) (b2 getD BJ bQ))) j6
def wO:FS:=bN (cR ae 7 (BR aO) ae) (bN (cR ae 8 (oN (aC (cM (aC jT (aC (bC (.bl ah)) aO))) aO)) ae) (bN (aT8 (bTB (b2 (cT (.ord .gt)) (aN eQ (aC BK aO)) bQ)) (bN (R3 8 9 bQ) (bN (cR ah 10 (aN (cP 2 aQ) (aC cA (aC (b2 (bI .add) fG (aN eQ (aC jF aO))) aO))) ae) (bN (cR ah 11 wfit ae) (bN (cR ah 12 (e_ 17 (bW (b2 getD fB bQ) ah) jL (bTB (b2 (cT .eq) (b2 getD j6 cF) (b2 getD BJ bQ))) j6 ah) ae) (bN (cR ah 13 (e_ 17 (bW (b2 getD fB cF) ah) jL (bTB (b2 (cT .eq) (b2 getD j6 cF) (b2 getD BJ bQ))) j6 ah) ae) (sIf c1s b1s (sIf c2s b2s (sIf c3s b3s b4s))))))))) (nR (aN kE (aC jF aO)) ah)))
def gB:aa D->Res D:=fnS 7 17 wO
abbrev kZ:bn:=top 18
noncomputable def NT:af->aq:=λi=>i==2
def inr:FS:=bN (cR ah 5 (b2 QR (b2 getD jT gP) (b2 getD d9 sW)) ah) (bN (cR ah 6 (aN (cP 2 aQ) (aC cA (aC (b2 (bI .add) K_ (aN eQ (aC fB aO))) aO))) ae) (bN (cR ah 7 (e_ 11 (jK (aC (aN eQ (aC dZ aO)) aO) tW) jL eU (aN (cP 2 a_) (aC cA (aC (b2 (bI .add) aEg (b2 (bI .mod) (b2 (bI .add) lF n6) aGq)) aO))) ae) ae) (bN (cR ah 7 (aN kE (aC (b2 getD (BR (aC jF (aC (b1 aJk jF) aO))) (b2 (bI .mod) (b2 (bI .fdiv) lF aGq) gP)) aO)) ah) (bN (cR ah 8 (aN E_ (aC jF (aC dZ aO))) ae) (bN (cR ah 9 (aN (λds=>cP 7 gB (ds++[.int 0])) (aC cA (aC (b2 (bI .add) (bC (.int 100)) (b2 vD (bC (.int 20)) (aN eQ (aC fB aO)))) (aC fG (aC BK (aC (b2 getD d9 cF) (aC aGq aO))))))) ae) (Q_ 2 (cM (aC (b2 getD d9 bQ) (aC (b2 getD jT bQ) (aC jF (aC BJ aO)))))))))))
def irs:FS:=sIf (bTB (b2 (cT .eq) (b2 getD jT cF) (b2 getD d9 gP))) inr uF
def wQ:FS:=bN (cR ae 2 (BR aO) ae) (bN (xO (bW (b2 getD fG cF) ah) (tg1 3) (xO (bW (b2 getD fG bQ) ah) (tg1 4) irs)) (bN (cR ah 10 (b2 (bI .mod) (aN (cP 2 aQ) (aC cA (aC (bC (.int 35)) aO))) (aN max2 (aC cF (aC (aN eQ (aC fB aO)) aO)))) ae) (nR (aN kE (aC (b2 (bI .add) (V3 fB (jH sS) jJ) (V3 fB jJ (jH sS))) aO)) ah)))
def k_:aa D->Res D:=fnS 2 11 wQ
abbrev iD:bn:=top 19
noncomputable def BV:af->aq:=λi=>ah
def BW:FS:=bN (cR ah 1 (b2 (bI .add) cF (b2 (bI .mod) (aN (cP 2 aQ) (aC cA (aC (bC (.int 39)) aO))) sW)) ae) (bN (cR ah 2 (cM (aC (aN (cP 2 jN) (aC cA (aC fG aO))) (aC (aN (cP 2 jP) (aC cA (aC fG aO))) aO))) ae) (bN (cR ah 3 (aN kE (aC (e_ 4 (jK (aC fG aO) tW) jL eU (aN (cP 2 a_) (aC cA (aC jT aO))) ae) aO)) ah) (nR (cM (aC d9 (aC (b2 getD fB bQ) (aC (b2 getD fB cF) (aC (aN (cP 2 k_) (aC cA (aC fB aO))) aO))))) ah)))
def iG:aa D->Res D:=fnS 1 4 BW
abbrev vX:bn:=top 5
noncomputable def Y5:af->aq:=λi=>i==1
def Y6:FS:=bN (cR ae 1 (bC (.dct [])) ae) (bN (xO (bW (b2 getD cA cF) ah) (tgN [2,3,4]) (yV 1 fB (aN eQ (aC jT aO)))) (bN (xO (bW (b2 getD cA gP) ah) (tgN [2,3,5,6]) (yV 1 fB (b2 (bI .add) cF (aN eQ (aC lF aO))))) (bN (yV 1 (bC (.str "copy")) gP) (bN (yV 1 (bC (.str "drop")) bQ) (YH 1)))))
def o8:aa D->Res D:=fnS 1 7 Y6
abbrev o9:bn:=top 1
noncomputable def Y7:af->aq:=λi=>ah
def Y8:FS:=bN (cR ah 3 (e_ 4 (bW fG ah) (aQp 2) eU (cM (aC (aN (nD .lt) (aC jT (aC dZ aO))) (aC (aN (nD .gt) (aC jT (aC dZ aO))) aO))) ah) ae) (nR (cM (aC (aN kE (aC (aN lG (aC cA aO)) aO)) (aC (aN kE (aC (aN lG (aC d9 aO)) aO)) (aC fB aO)))) ah)
def gC:aa D->Res D:=fnS 3 4 Y8
abbrev vY:bn:=top 3
noncomputable def Y9:af->aq:=λi=>i==1
def Y_:FS:=bN (cR ae 1 (bC (.dct [])) ae) (bN (xO (bW (b2 getD cA cF) ah) (tgN [2,3,4]) (yV 1 fB (cM (aC d9 (aC jT aO))))) (bN (xO (bW (b2 getD cA gP) ah) (tgN [2,3,5,6]) (yV 1 fB (cM (aC d9 (aC (b2 QR (cM (aC dZ aO)) lF) aO))))) (YH 1)))
def l_:aa D->Res D:=fnS 1 7 Y_
abbrev wR:bn:=rowOf (top 11) 0
def zP:aa (Str×Srx):=[("heads",.exp (aN (cP 1 l_) (aC fG aO))),("takers",.exp (b1 M9 (e_ 2 (bW (b2 getD fG gP) ah) jL eU (cM (aC (b2 getD fB bQ) (aC (bC (.bl ae)) aO))) ah))),("pieces",.exp (BR aO)),("ties",.exp (BR aO))]
abbrev fW:bn:=rowOf (top 11) 1
noncomputable def SM:af->aq:=λi=>i==2||i==3||i==1000000
def SN:FS:=bN (cR ah 4 (b2 (bI .add) (aN eQ (aC (aMi 2 (xV "Loom" "pieces" cA)) aO)) cF) ae) (bN (xP 2 (xV "Loom" "pieces" cA) (cM (aC jT (aC fG aO)))) (yU jT ah))
def dO:aa D->Res D:=fnG 2 5 SN
abbrev JL:bn:=rowOf (top 11) 2
noncomputable def aSn:af->aq:=λi=>i==3||i==4||i==1000000
def aSo:FS:=bN (R4 ah 5 (tQ "Loom" "add_piece" dO 2 0 3 (aC fG aO))) (bN (cR ah 6 (aN eQ (aC (b2 getD (b2 getD (xV "Loom" "heads" cA) fG) cF) aO)) ae) (bN (sIf (bTB (b2 inX fG (xV "Loom" "takers" cA))) (bN (xP 4 (xV "Loom" "ties" cA) (cM (aC (cM (aC dZ (aC cF aO))) (aC fB aO)))) (yU (b2 (bI .add) (oN (aC (cM (aC dZ (aC bQ aO))) aO)) (e_ 7 (jK (aC gP (aC (b2 (bI .add) lF cF) aO)) yS) jL eU (cM (aC dZ (aC jF aO))) ah)) ae)) uF) (bN (xP 4 (xV "Loom" "ties" cA) (cM (aC (cM (aC dZ (aC bQ aO))) (aC fB aO)))) (yU (e_ 7 (jK (aC cF (aC (b2 (bI .add) lF cF) aO)) yS) jL eU (cM (aC dZ (aC jF aO))) ah) ae))))
def ZC:aa D->Res D:=fnG 3 7 aSo
abbrev t_:bn:=rowOf (top 11) 3
noncomputable def aKt:af->aq:=λi=>i==3||i==4||i==1000000
def aKu:FS:=bN (R4 ah 6 (tQ "Loom" "add_piece" dO 2 0 3 (aC (bPu (bC (.str "copy"))) aO))) (bN (xP 4 (xV "Loom" "ties" cA) (cM (aC (cM (aC lF (aC bQ aO))) (aC fG aO)))) (bN (xP 4 (xV "Loom" "ties" cA) (cM (aC (cM (aC lF (aC cF aO))) (aC dZ aO)))) (cR ah 1 (cM (aC lF (aC gP aO))) ah)))
def aKv:FS:=sIf (KC (aSk fB)) (aFf 4 (xV "Loom" "ties" cA) (aOl (YX (aOl (YX (tQ "Loom" "add_piece" dO 2 0 3 (aC (bPu (bC (.str "drop"))) aO)) (wM bQ (aJs)))) (wM fG (aJs))))) (bN (xO (bW (V3 fB jJ (jH (b1 aAt cF))) ae) (tg1 5) aKu) (xP 4 (xV "Loom" "ties" cA) (cM (aC fG (aC (b2 getD fB (b1 aAt cF)) aO)))))
def vZ:aa D->Res D:=fnG 3 7 aKv
abbrev cW:bn:=top 10
noncomputable def NZ:af->aq:=λi=>i==3||i==4||i==5||i==6||i==7||i==8||i==9||i==12
def aFo:FS:=bN (YW 12 14) (sIf (bTB (b2 inX uN n6)) (aFi 5 5 (b2 getD n6 uN) mX) (aFe 12 (xLR (tQ "Loom" "lay" ZC 3 10 3 (aC uN (aC mX aO))))))
def aKw:FS:=aQw (tQ "Loom" "serve" vZ 3 10 3 (aC (bPu (cM (aC bQ (aC BL aO)))) (aC (bPu (b2 getD n6 BP)) aO)))
def vr2:FS:=bN (cR ae 12 (BR (aC (cM (aC bQ (aC bQ aO))) aO)) ae) (bN (RB 1 (tg1 13) aFo) (aFj 11 5 5 (bN (xO (zN 1 fB) (tgN [15,16]) aKw) (nR (aN (cP 3 gC) (aC (aMi 3 (xV "Loom" "pieces" sS)) (aC (aMi 4 (xV "Loom" "ties" sS)) (aC bQ aO)))) ae))))
def wU:FS:=aQt 10 3 "Loom" zP 1 (aC cA aO) (aQu 11 5 5 (bW fB ah) vr2)
def lA:aa D->Res D:=fnS 3 17 wU
abbrev v5:bn:=top 7
noncomputable def ZD:af->aq:=λi=>ah
def ZF:FS:=bN (cR ah 3 (b2 getD fG gP) ah) (nR (aN (cP 3 lA) (aC cA (aC (b2 getD fG sW) (aC (b2 QR (aCf d9 (jH fB) jJ) (aCf d9 jJ (jH fB))) aO)))) ae)
def mC:aa D->Res D:=fnS 3 4 ZF
abbrev v6:bn:=top 8
noncomputable def ZG:af->aq:=λi=>i==2||i==3
def aKx:FS:=bN (cR ah 5 (b2 (bI .add) jT gP) ae) (bN (Q_ 2 (cM (aC dZ (aC (bC (.str "copy")) aO)))) (aQr 3 (oN (aC (cM (aC (cM (aC dZ (aC bQ aO))) (aC (cM (aC bQ (aC (b2 (bI .add) jT cF) aO))) aO))) (aC (cM (aC (cM (aC dZ (aC cF aO))) (aC (cM (aC cF (aC jT aO))) aO))) (aC (cM (aC (cM (aC dZ (aC gP aO))) (aC (cM (aC gP (aC jT aO))) aO))) aO))))))
def ZJ:FS:=bN (cR ae 2 (oN (aC (cM (aC cF (aC cA aO))) (aC (cM (aC gP (aC cA aO))) aO))) ae) (bN (cR ae 3 (oN (aC (cM (aC (cM (aC cF (aC bQ aO))) (aC (cM (aC bQ (aC bQ aO))) aO))) (aC (cM (aC (cM (aC gP (aC bQ aO))) (aC (cM (aC bQ (aC cF aO))) aO))) aO))) ae) (bN (xO (jK (aC cF (aC (b2 (bI .add) fG cF) aO)) yS) (tg1 4) aKx) (nR (aN (cP 3 gC) (aC fB (aC d9 (aC bQ aO)))) ae)))
def mD:aa D->Res D:=fnS 2 6 ZJ
abbrev mF:bn:=top 9
noncomputable def ZK:af->aq:=λi=>ah
def ZL:FS:=bN (cR ah 1 (e_ 3 (jK (aC cF (aC (b2 (bI .add) cA cF) aO)) yS) jL eU (cM (aC d9 (aC (bC (.str "drop")) aO))) ah) ae) (bN (cR ah 2 (e_ 3 (jK (aC cF (aC (b2 (bI .add) cA cF) aO)) yS) jL eU (cM (aC (cM (aC d9 (aC bQ aO))) (aC (cM (aC bQ (aC (b2 (bI .sub) d9 cF) aO))) aO))) ah) ae) (nR (aN (cP 3 gC) (aC fG (aC fB (aC bQ aO)))) ae))
def mG:aa D->Res D:=fnS 1 3 ZL
abbrev o_:bn:=top 6
noncomputable def ZM:af->aq:=λi=>i==2
def aKy:FS:=bN (Q_ 2 (cM (aC (bC (.str "copy")) (aC d9 (aC (aN (cP 2 mD) (aC d9 (aC (aN eQ (aC dZ aO)) aO))) aO))))) (Q_ 2 (cM (aC (bC (.str "drop")) (aC d9 (aC (aN (cP 1 mG) (aC (aN eQ (aC dZ aO)) aO)) aO)))))
def ZP:FS:=bN (cR ah 1 (aN (cP 1 o8) (aC cA aO)) ae) (bN (cR ae 2 (e_ 6 (bW (b2 getD cA sW) ah) jL eU (cM (aC (b2 getD lF bQ) (aC (b2 getD lF cF) (aC (aN (cP 3 mC) (aC cA (aC lF (aC (b2 getD fG (b2 getD lF cF)) aO)))) aO)))) ah) ae) (bN (xO (bW (b2 getD cA cF) ah) (tgN [3,4,5]) aKy) (YH 2)))
def p_:aa D->Res D:=fnS 1 6 ZP
abbrev oR:bn:=top 23
noncomputable def N5:af->aq:=λi=>i==1
def N6:FS:=bN (cR ae 1 (aJv (bC (.str "copy")) gP (bC (.str "drop")) bQ) ae) (bN (xO (bW (b2 getD cA cF) ah) (tg1 2) (yV 1 (b2 getD fB bQ) (aN eQ (aC (b2 getD fB gP) aO)))) (bN (xO (bW (b2 getD cA gP) ah) (tg1 3) (yV 1 (b2 getD d9 bQ) (b2 (bI .add) (aN eQ (aC (b2 getD d9 sW) aO)) cF))) (YH 1)))
def gD:aa D->Res D:=fnS 1 4 N6
abbrev oU:bn:=top 20
noncomputable def N7:af->aq:=λi=>ah
def N8:FS:=nR (LC (b1 (vJ .int) cA) (aNq (b1 (vJ .bool) cA))) ae
def eE:aa D->Res D:=fnS 1 1 N8
abbrev v7:bn:=top 21
noncomputable def ZQ:af->aq:=λi=>ah
def ZR:FS:=nR (LC (b1 (vJ .tuple) cA) (LC (b2 (cT .eq) (aN eQ (aC cA aO)) gP) (LC (aN (cP 1 eE) (aC (b2 getD cA bQ) aO)) (aN (cP 1 eE) (aC (b2 getD cA cF) aO))))) ae
def mH:aa D->Res D:=fnS 1 1 ZR
abbrev iQ:bn:=top 22
noncomputable def N_:af->aq:=λi=>i==6
def aKz:FS:=bN (sIf (bOr (KC (bTr (b1 (vJ .tuple) dZ))) (bOr (bTB (b2 (cT .ne) (aN eQ (aC dZ aO)) gP)) (bOr (KC (bTr (aN (cP 1 eE) (aC (b2 getD dZ bQ) aO)))) (bTB (b2 (cT (.ord .le)) (b2 getD dZ bQ) jT))))) (nR (bC .non) ae) uF) (bN (sIf (bOr (KC (bTr (b1 (vJ .str) (b2 getD dZ cF)))) (bTB (b2 (cT .notin) (b2 getD dZ cF) fG))) (nR (bC .non) ae) uF) (bN (cR ah 4 (b2 getD dZ bQ) ah) (cR ah 3 (b2 (bI .add) d9 (e_ 9 (jK (aC (b2 (bI .add) (b2 getD fG (b2 getD dZ cF)) cF) aO) tW) jL eU (cM (aC jT (aC BJ aO))) ah)) ae)))
def aL0:FS:=bN (sIf (bOr (KC (bTr (b1 (vJ .tuple) jF))) (bOr (bTB (b2 (cT .ne) (aN eQ (aC jF aO)) gP)) (bOr (KC (bTr (aN (cP 1 mH) (aC (b2 getD jF bQ) aO)))) (KC (bTr (aN (cP 1 mH) (aC (b2 getD jF cF) aO))))))) (nR (bC .non) ae) uF) (bN (sIf (bOr (bTB (b2 (cT (.ord .ge)) (b2 getD jF bQ) (b2 getD jF cF))) (bOr (bTB (b2 inX (b2 getD jF bQ) lF)) (bTB (b2 inX (b2 getD jF cF) lF)))) (nR (bC .non) ae) uF) (bN (yV 6 (b2 getD jF bQ) (b2 getD jF cF)) (yV 6 (b2 getD jF cF) (b2 getD jF bQ))))
def aP8:FS:=sIf (bTB (b2 (cT .notin) BK lF)) (nR (bC .non) ae) uF
def wV:FS:=bN (sIf (bOr (KC (bTr (b1 (vJ .tuple) cA))) (bTB (b2 (cT .ne) (aN eQ (aC cA aO)) sW))) (nR (bC .non) ae) uF) (bN (sIf (bOr (KC (bTr (b1 (vJ .tuple) (b2 getD cA bQ)))) (bOr (KC (bTr (b1 (vJ .tuple) (b2 getD cA cF)))) (KC (bTr (aN (cP 1 eE) (aC (b2 getD cA gP) aO)))))) (nR (bC .non) ae) uF) (bN (cR ah 3 (e_ 9 (jK (aC fB aO) tW) jL eU (cM (aC bQ (aC BJ aO))) ah) ae) (bN (cR ah 4 bQ ae) (bN (xO (bW (b2 getD cA bQ) ah) (tg1 5) aKz) (bN (cR ae 6 (bC (.dct [])) ae) (bN (xO (bW (b2 getD cA cF) ah) (tg1 7) aL0) (bN (sIf (bOr (bTB (b2 (cT .ne) (aN aOw (aC lF aO)) (aN eQ (aC d9 aO)))) (bTB (b2 (cT .ne) (aN aEh (aC (b2 getD cA cF) aO)) (aN lL (aC (b2 getD cA cF) aO))))) (nR (bC .non) ae) uF) (bN (RB 3 (tg1 8) aP8) (YH 6)))))))))
def lB:aa D->Res D:=fnS 3 9 wV
abbrev nF:bn:=top 24
noncomputable def JM:af->aq:=λi=>i==2||i==1000000
def svb:FS:=bN (cR ah 5 (b2 getD cA d9) ah) (bN (sIf (bOr (bTB (b2 (cT .eq) (b2 getD dZ bQ) bQ)) (bOr (bTB (b2 inX (b2 getD dZ bQ) (bDc 2))) (bOr (bTB (b2 (cT .ne) (b2 getD dZ cF) bQ)) (bTB (b2 (cT .ne) (b2 getD fG (b2 getD dZ bQ)) (bC (.str "copy"))))))) (yU (bC (.bl ah)) ae) uF) (bN (sIf (bTB (b2 (cT .ne) (b2 getD cA (cM (aC (b2 getD dZ bQ) (aC cF aO)))) lF)) (yU (bC (.bl ah)) ae) uF) (bN (Y4 2 (b2 getD dZ bQ) (bC (.bl ae))) (cR ah 3 (cM (aC (b2 getD dZ bQ) (aC gP aO))) ah))))
def JN:FS:=bN (sIf (bTB (b2 (cT .eq) (aN eQ (aC jT aO)) bQ)) (bN (cR ah 5 (b2 getD cA d9) ah) (bN (sIf (bOr (bTB (b2 (cT .eq) (b2 getD dZ bQ) bQ)) (bOr (bTB (b2 inX (b2 getD dZ bQ) (bDc 2))) (bOr (bTB (b2 (cT .ne) (b2 getD dZ cF) bQ)) (bTB (b2 (cT .ne) (b2 getD fG (b2 getD dZ bQ)) (bC (.str "drop"))))))) (yU (bC (.bl ah)) ae) uF) (bN (Y4 2 (b2 getD dZ bQ) (bC (.bl ae))) (yU (bC (.bl ae)) ae)))) uF) (bN (xO (bW (V3 jT jJ (jH (b1 aAt cF))) ae) (tg1 6) svb) (yU (b2 (cT .eq) (b2 getD cA d9) (b2 getD jT (b1 aAt cF))) ae))
def gY:aa D->Res D:=fnC 2 5 7 JN
abbrev iR:bn:=top 25
noncomputable def OD:af->aq:=λi=>i==8||i==10||i==11
def wbd:FS:=bN (R3 10 13 bQ) (bN (sIf (bTB (b2 inX mW BK)) (bN (yV 8 mW (bFz (b2 aKo (b2 getD BK mW) (oN (aC uN aO))))) (sCt)) uF) (bN (cR ah 14 (b2 getD dZ uN) ah) (bN (sIf (bOr (bTB (b2 (cT .eq) (b2 getD mX bQ) bQ)) (bOr (bTB (b2 inX (b2 getD mX bQ) n6)) (bOr (bTB (b2 (cT .ne) (b2 getD jF (b2 getD mX bQ)) mW)) (bTB (b2 (cT .ne) (b2 getD mX cF) (aN aQs (aC (b2 inX mW lF) aO))))))) (nR (bC (.bl ah)) ae) uF) (bN (yV 11 (b2 getD mX bQ) (bC (.bl ae))) (cR ae 10 (b2 (bI .add) (e_ 16 (jK (aC (b2 (bI .add) (b2 getD jT mW) cF) aO) tW) jL (bTB (b2 (cT .ne) BP (b2 getD mX cF))) (cM (aC (b2 getD mX bQ) (aC BP aO))) ah) sS) ae)))))
def ebd:FS:=aT9 (aFl (NP gY 5 2 11 (aC dZ (aC jF (aC (bUo 11) (aC (bPu (cM (aC bQ (aC (b2 (bI .add) BL cF) aO)))) (aC (bPu (b2 getD BK BJ)) aO))))))) (nR (bC (.bl ah)) ae) uF
def wW:FS:=bN (cR ah 4 (aN (cP 1 gD) (aC d9 aO)) ae) (bN (cR ah 5 (aN (cP 3 lB) (aC cA (aC jT (aC (b2 (bI .add) (aN eQ (aC fB aO)) cF) aO)))) ae) (bN (sIf (bOr (bTB (b2 (cT .isN) dZ (bC .non))) (bTB (b2 (cT .ne) (b2 getD cA gP) bQ))) (nR (bC (.bl ah)) ae) uF) (bN (cR ah 6 (e_ 16 (bW (b2 getD d9 gP) ah) jL eU (b2 getD BP bQ) ah) ae) (bN (cR ah 7 (b1 zM (b2 getD cA bQ)) ae) (bN (cR ae 8 (bC (.dct [])) ae) (bN (RB 2 (tg1 9) (yV 8 BJ (bFz (BR aO)))) (bN (cR ae 10 (BR (aC (cM (aC bQ (aC bQ aO))) aO)) ae) (bN (cR ae 11 (bC (.dct [])) ae) (bN (RB 1 (tg1 12) wbd) (bN (xO (zN 0 fB) (tgN [15,9]) ebd) (nR (b2 (cT .eq) (aN aJl (aC n6 aO)) (aN eQ (aC (b2 getD cA bQ) aO))) ae)))))))))))
def fD:aa D->Res D:=fnS 4 16 wW
abbrev JP:bn:=top 26
noncomputable def o_law:af->aq:=λi=>ah
def lb:FS:=bN (cR ah 6 (b2 getD fB jT) ah) (bN (sIf (bOr (KC (bTr (b1 (vJ .tuple) lF))) (bOr (bTB (b2 (cT .ne) (aN eQ (aC lF aO)) sW)) (bTB (b2 (cT .ne) (V3 lF jJ (jH gP)) (V3 dZ jJ (jH gP)))))) (nR (bC (.bl ah)) ae) uF) (bN (cR ah 7 (b2 getD d9 (b2 getD dZ cF)) ah) (sIf (KC (bTr (aN (cP 4 fD) (aC (b2 getD lF gP) (aC (b2 getD dZ sW) (aC (b2 QR (aCf (b2 getD dZ gP) (jH jF) jJ) (aCf (b2 getD dZ gP) jJ (jH jF))) (aC fG aO))))))) (nR (bC (.bl ah)) ae) uF)))
def aSp:FS:=bN (cR ah 1 (aN (cP 1 iG) (aC cA aO)) ae) (bN (cR ah 2 (aN (cP 1 p_) (aC fG aO)) ae) (bN (sIf (bOr (KC (bTr (b1 (vJ .list) fB))) (bTB (b2 (cT (.ord .lt)) (aN eQ (aC fB aO)) (aN eQ (aC (b2 getD fG sW) aO))))) (nR (bC (.bl ah)) ae) uF) (bN (cR ah 3 (aN (cP 1 gD) (aC fG aO)) ae) (bN (xO (zN 0 (b2 getD fG sW)) (tgN [4,5]) lb) (nR (bC (.bl ae)) ae)))))
def ZV:aa D->Res D:=fnS 1 8 aSp
noncomputable abbrev zQ:aa Str:=["script","k","cell","mixed"]
noncomputable abbrev zR:aa Str:=["script","i","letters","draw","pad","place","tail"]
noncomputable abbrev jQ:aa Str:=["script","many","makers","j","first","i","draw","size","things"]
noncomputable abbrev jR:aa Str:=["script","many","takers","i","draw","more","kinds"]
noncomputable abbrev b8:aa Str:=["script","at","book","known","kind","most","least","words","wanted","here","draw","fit","own","able","maker","taker","leaf"]
noncomputable abbrev lC:aa Str:=["script","book","rules","taker","maker","kinds","draw","names","known","words","at"]
noncomputable abbrev iH:aa Str:=["script","many","book","kinds"]
noncomputable abbrev FQ:aa Str:=["program","stock","name","kind","parts","taken","more"]
noncomputable abbrev mJ:aa Str:=["pieces","ties","rings","rows"]
noncomputable abbrev FW:aa Str:=["program","heads","name","kind","parts","taken","more"]
noncomputable abbrev iT:aa Str:=["program","words","variables","#0","#1","#2","#3","#4","#5","#6","loom","places","waiting","word","place","k","name"]
noncomputable abbrev FZ:aa Str:=["program","rule","parts","names"]
noncomputable abbrev F_:aa Str:=["maker","parts","pieces","ties","j","number"]
noncomputable abbrev jU:aa Str:=["parts","pieces","ties"]
noncomputable abbrev q_:aa Str:=["program","sides","found","name","kind","parts"]
noncomputable abbrev wX:aa Str:=["program","stock","maker","taker"]
noncomputable abbrev wY:aa Str:=["found"]
noncomputable abbrev GC:aa Str:=["end"]
noncomputable abbrev gF:aa Str:=["net","stock","border","ends","last","piece","mates","tie","end"]
noncomputable abbrev uY:aa Str:=["mates","kinds","seen","end","places","at","place"]
noncomputable abbrev gG:aa Str:=["net","words","names","program","stock","mates","takers","kinds","places","name","waiting","seen","word","place","at","k"]
noncomputable abbrev aP9:aa Str:=["script","program","rules","stock","k","rule","found","many"]
theorem OJ:bV zQ ["script","k"] (aL tY):=0xa
theorem O3:bV zR ["script","i"] (aL tZ):=0xa
theorem BX:bV jQ ["script","many"] (aL jM):=0xa
theorem BZ:bV jR ["script","many"] (aL jO):=0xa
theorem JQ:bV b8 ["script","at","book","known","kind","most","least"] (aL cQ):=0xa
theorem JR:bV lC ["script","book"] (aL kZ):=0xa
theorem zT:bV iH ["script"] (aL iD):=0xa
theorem SQ:bV FQ ["program"] (aL vX):=0xa
theorem SX:bV mJ ["pieces","ties","rings"] (aL o9):=0xa
theorem S5:bV FW ["program"] (aL vY):=0xa
theorem aL1:bV (["self","program"]:aa Str) ["self","program"] (aL wR):=0xa
theorem O4:bV (["self","name","#0","#1","number"]:aa Str) ["self","name"] (aL fW):=0xa
theorem aPa:bV (["self","word","place","#0","#1","number","count"]:aa Str) ["self","word","place"] (aL JL):=0xa
theorem aFp:bV (["self","giver","places","#0","#1","place","number"]:aa Str) ["self","giver","places"] (aL t_):=0xa
theorem JS:bV iT ["program","words","variables"] (aL cW):=0xa
theorem S6:bV FZ ["program","rule","parts"] (aL v5):=0xa
theorem S7:bV F_ ["maker","parts"] (aL v6):=0xa
theorem S8:bV jU ["parts"] (aL mF):=0xa
theorem S9:bV q_ ["program"] (aL o_):=0xa
theorem JT:bV wX ["program"] (aL oR):=0xa
theorem JV:bV wY ["found"] (aL oU):=0xa
theorem S_:bV GC ["end"] (aL v7):=0xa
theorem JW:bV gF ["net","stock","border"] (aL iQ):=0xa
theorem B_:bV uY ["mates","kinds","seen","end","places"] (aL nF):=0xa
theorem JX:bV gG ["net","words","names","program"] (aL iR):=0xa
theorem aPb:bV aP9 ["script"] (aL JP):=0xa
section
variable [KFrag] {P:b5} {w:br} {K:Frag} {mg:Str->ar aj} {base:az} {fad C:ak} {fd:dS} (hK:KFrag.K=K) (B:Bt mg)
include hK B
theorem JZ(F:Fun K "_law_draw" "_law_draw" tY fad fd)(hm:mg "_law_draw"=ab (.ref fad)):cY P w K mg base 1 "_law_draw" 2 aQ:=by
 have sc:=OJ;have nd:=sc.nd;refine gV (ps:=["script","k"]) (N:=zQ) (k:=0) F hm (F.binds λ_ _ _ _ _ _ us hl=>by obtain⟨_,_,rfl⟩:=l2 hl;rfl) sc R9 0x4 0x4 λcdv A outer s H E hr=>?_
 have hu:=wJ hr;exact aG (bY aF) (aG (gK (bO (YM hu) (bD (cN hK) 0x3 B.len cJ 0xc) aF (bZ _)) (aR (bY (bF dC (aX aB (bF dC aB (bD (cN hK) 0x3 B.len cJ 0xc))) aF))) cV) (aG (bY (bF dC (bF iV (bF bU (bF bU aB aF) (bF iV aF (bF fU aB (bD (R6 0x3) 0x3 B.max V2 (aA aF (aA (bD (cN hK) 0x3 B.len cJ 0xc) aH)))))) aF) aF)) (aR (dM (bF dC (bF iV aB aB) aF)))))
theorem J0(p6:cY P w K mg base 1 "_law_draw" 2 aQ)(F:Fun K "_law_word" "_law_word" tZ fad fd)(hm:mg "_law_word"=ab (.ref fad)):cY P w K mg base 2 "_law_word" 2 a_:=by
 have sc:=O3;have nd:=sc.nd;refine gV (ps:=["script","i"]) (N:=zR) (k:=1) F hm (F.binds λ_ _ _ _ _ _ us hl=>by obtain⟨_,_,rfl⟩:=l2 hl;rfl) sc R_ 0x4 0x4 λcdv A outer s H E hr=>?_
 have hu:=wJ hr;exact aG (bY iW) (aG (gK (PW.pt (aBa (bO (tO hu) aB (bH (aA aF (aA aF aH))) 0x5) (RT (bO (oE hu) (bF dC (aZ p6 hr 0x4 0x3 0xb) aF) aF (bZ _))))) (aR (dM (bF bU (aX (lR (aA iW (aA iW aH))) (bF fU aB aF)) (aX aB (bF dC (aZ p6 hr 0x4 0x3 0xb) aF))))) cV) (aG (bY (aZ p6 hr 0x4 0x3 0xb)) (aG (bY (aX (lR (aA (aX aB (bF dC aB aF)) (aA (aX iW (bF dC (bF fU aB aF) aF)) aH))) (bF dC (bF fU aB aF) aF))) (aG (bY (bF dC (aZ p6 hr 0x4 0x3 0xb) aF)) (aG (bY (bF dC (aZ p6 hr 0x4 0x3 0xb) (bF VD aF aB))) (aG (gK (bO (oE hu) (bF dC (bF fU (aZ p6 hr 0x4 0x3 0xb) aF) aF) aF (bZ _)) (aR (bY (bF dC (aZ p6 hr 0x4 0x3 (aA aB (aA (bF bU aF aB) aH))) (bF VD aF aB)))) cV) (aR (dM (bF bU (bF bU (bF iV aB aB) (aX aB (bF dC (bF bU aB (aZ p6 hr 0x4 0x3 0xb)) aF))) (bF iV aB aB))))))))))
theorem zU(p6:cY P w K mg base 1 "_law_draw" 2 aQ)(p8:cY P w K mg base 2 "_law_word" 2 a_)(F:Fun K "_law_makers" "_law_makers" jM fad fd)(hm:mg "_law_makers"=ab (.ref fad)):cY P w K mg base 3 "_law_makers" 2 jN:=by
 have sc:=BX;have nd:=sc.nd;refine gV (ps:=["script","many"]) (N:=jQ) (k:=2) F hm (F.binds λ_ _ _ _ _ _ us hl=>by obtain⟨_,_,rfl⟩:=l2 hl;rfl) sc JF 0x4 0x4 λcdv A outer s H E hr=>?_
 have hu:=wJ hr;exact aG (bY (lR aH)) (aG (fZ dv rfl (m9 0x3 B.range 0xc) (fM rfl) (bA sc.nd rfl 0x0) (aG (bY (bH aH)) (aG (gK (PW.pt (aBa (bO (YM hu) aB aF (bZ _)) (RT (bO (YM hu) (bF dC (bF fU (aZ p6 hr 0x4 0x3 0xb) aB) aF) aF (bZ _))))) (aR (bY (bH (aA (aZ p8 hr 0x4 0x3 0xb) aH)))) cV) (aG (oH rfl rfl 0x0 (bH (aA (aZ p8 hr 0x4 0x3 (aA aB (aA (bF bU aF (bF iV aF aB)) aH))) (aA (aZ p8 hr 0x4 0x3 (aA aB 0xc)) 0xc)))) (aR (fZ dv rfl (vO 0x3 B.range (aA aF (aA (bF bU aF (bF dC (aZ p6 hr 0x4 0x3 (aA aB (aA (bF bU aF (bF iV aF aB)) aH))) aF)) aH))) (fM rfl) (bA sc.nd rfl 0x0) (aG (bY (aZ p6 hr 0x4 0x3 (aA aB (aA (bF bU (bF bU aF (bF iV aF aB)) aB) aH)))) (aG (bY (aX (lR (aA aF (aA (bF dC aB aF) aH))) (bF VD aB aF))) (aG (bY (eV h_ 0x3 B.tuple dR (aA (iC (ownN:=(["p"]:aa Str)) (show cH jQ (aL jM) _ (["p"]:aa Str) from 0x9) rfl rfl rfl (m9 0x3 B.range 0xc) (dW 9) (λ_=>bA (show((dz (fQ (["p"]:aa Str)) jQ++(["p"]:aa Str)):aa Str).Nodup from 0x6) rfl 0x0) (λ_=>aZ p8 hr 0x4 0x3 (aA aB (aA (bF dC (bF fU aB (bF bU aF (bF iV aF aB))) aB) aH))) (λ_=>rfl)) aH))) (aR (oH rfl rfl 0x0 (bH (aA (aZ p8 hr 0x4 0x3 (aA aB (aA (bF bU (bF bU aF (bF iV aF aB)) aB) aH))) (aA (aZ p8 hr 0x4 0x3 (aA aB 0xc)) 0xc)))))))))))))) (aR (dM (eV h_ 0x3 B.tuple dR 0xc))))
theorem zV(p6:cY P w K mg base 1 "_law_draw" 2 aQ)(p8:cY P w K mg base 2 "_law_word" 2 a_)(F:Fun K "_law_takers" "_law_takers" jO fad fd)(hm:mg "_law_takers"=ab (.ref fad)):cY P w K mg base 3 "_law_takers" 2 jP:=by
 have sc:=BZ;have nd:=sc.nd;refine gV (ps:=["script","many"]) (N:=jR) (k:=2) F hm (F.binds λ_ _ _ _ _ _ us hl=>by obtain⟨_,_,rfl⟩:=l2 hl;rfl) sc JH 0x4 0x4 λcdv A outer s H E hr=>?_
 have hu:=wJ hr;exact aG (bY (lR aH)) (aG (fZ dv rfl (m9 0x3 B.range (aA (bF dC (aZ p6 hr 0x4 0x3 0xb) aF) aH)) (fM rfl) (bA sc.nd rfl 0x0) (aG (bY (aZ p6 hr 0x4 0x3 (aA aB (aA (bF bU aF aB) aH)))) (aG (bY (eV h_ 0x3 B.tuple dR (aA (iC (ownN:=(["p"]:aa Str)) (show cH jR (aL jO) _ (["p"]:aa Str) from 0x9) rfl rfl rfl (m9 0x3 B.range (aA (bF dC (bF fU aB aF) aF) aH)) (dW 7) (λ_=>bA (show((dz (fQ (["p"]:aa Str)) jR++(["p"]:aa Str)):aa Str).Nodup from 0x6) rfl 0x0) (λ_=>aZ p8 hr 0x4 0x3 (aA aB (aA (bF dC (bF fU aB (bF bU aF (bF iV aF aB))) aB) aH))) (λ_=>rfl)) aH))) (aG (bY (bH (aA (aZ p8 hr 0x4 0x3 (aA aB (aA (bF dC aB aB) aH))) (aA (aZ p8 hr 0x4 0x3 (aA aB (aA (bF dC (bF fU aB aF) aB) aH))) aH)))) (aR (oH rfl rfl 0x0 (bF vR (bF vR (bH (aA (aZ p8 hr 0x4 0x3 (aA aB (aA (bF bU aF aB) aH))) aH)) aB) (bH 0xc)))))))) (aR (dM (eV h_ 0x3 B.tuple dR 0xc))))
theorem CG(p6:cY P w K mg base 1 "_law_draw" 2 aQ){T:ak}{its:ax aj}(F:aRy K "_law_words" "_law_words" cQ fad fd T its):vH P w K mg base CX0 2 fad fd ["script","at","book","known","kind","most","least"] (spD gB 7):=by
 have sc:=JQ;have nd:=sc.nd;refine aOc (ps:=["script","at","book","known","kind","most","least"]) (N:=b8) (k:=1) F sc NQ 0x4 λcdv A outer s H E hr=>?_
 have hu:=wJ hr
 exact aG (bY (lR aH)) (aG (bY (nC (aA (bH (aA aB (aA lQ aH))) aH))) (aG (aOd dv (bO (YM hu) (bD (cN hK) 0x3 B.len cJ 0xc) aF (bZ _)) (aG (aBq rfl rfl 0x0 sc.nd rfl 0x0 rfl aF) (aG (bY (aZ p6 hr 0x4 0x3 (aA aB (aA (bF bU aB (bD (cN hK) 0x3 B.len cJ 0xc)) aH)))) (aG (aF0 (show cH b8 (aL cQ) _ (["x"]:aa Str) from 0x9) rfl rfl rfl 0x0 (λ_=>bA (show((dz (fQ (["x"]:aa Str)) b8++(["x"]:aa Str)):aa Str).Nodup from 0x6) rfl 0x0) (λ_=>bO (oE hu) (aX aB aB) 0xd (bZ _)) (λ_=>aB) (λ_=>rfl) rfl sc.nd rfl 0x0 (ip rfl) 0x5) (aG (DY (ownN:=(["x"]:aa Str)) (show cH b8 (aL cQ) _ (["x"]:aa Str) from 0x9) rfl rfl rfl (dN 0xd) (dW 17) (λ_=>bA (show((dz (fQ (["x"]:aa Str)) b8++(["x"]:aa Str)):aa Str).Nodup from 0x6) rfl 0x0) (λ_=>bO (oE hu) 0xd 0xd (bZ _)) (λ_=>aB) (λ_=>rfl) rfl sc.nd rfl 0x0 (ip rfl) 0x5) (aG (DY (ownN:=(["x"]:aa Str)) (show cH b8 (aL cQ) _ (["x"]:aa Str) from 0x9) rfl rfl rfl (dN 0xd) (dW 17) (λ_=>bA (show((dz (fQ (["x"]:aa Str)) b8++(["x"]:aa Str)):aa Str).Nodup from 0x6) rfl 0x0) (λ_=>bO (oE hu) 0xd 0xd (bZ _)) (λ_=>aB) (λ_=>rfl) rfl sc.nd rfl 0x0 (ip rfl) 0x5) (aR (gK (PW.pt (aBa (bO (aJ7 hu) (bD (cN hK) 0x3 B.len cJ 0xc) aB (bZ _)) (RT (bO (oE hu) (bD (cN hK) 0x3 B.len cJ 0xc) aF (bZ _))))) (aG (oH rfl rfl 0x0 (aX 0xd aF)) (aR (bY (nC (aA (bH (aA (aX (aX 0xd aF) aF) (aA lQ aH))) aH))))) (aR (gK (PW.pt (gU (kJ 0xd) (gU (bO (aNy hu) (bF bU (bD (cN hK) 0x3 B.len cJ 0xc) (bD (cN hK) 0x3 B.len cJ 0xc)) aB (bZ _)) (jX (bO (oE hu) (bF dC aB aF) aF (bZ _)))))) (aG (oH rfl rfl 0x0 (aX (bF bU aB (nC (aA (aX 0xd aF) aH))) (bF dC (bF fU aB aF) (bD (R6 0x3) 0x3 B.max V2 (aA aF (aA (bD (cN hK) 0x3 B.len cJ 0xc) aH)))))) (aR (gK (bO (oE hu) (bD (cN hK) 0x3 B.len cJ 0xc) aF (bZ _)) (aR (bY (bF bU (iC (ownN:=(["x"]:aa Str)) (show cH b8 (aL cQ) _ (["x"]:aa Str) from 0x9) rfl rfl rfl (dN (aX 0xd aF)) (dW 17) (λ_=>bA (show((dz (fQ (["x"]:aa Str)) b8++(["x"]:aa Str)):aa Str).Nodup from 0x6) rfl 0x0) (λ_=>bH (aA aB (aA lQ aH))) (λ_=>rfl)) aB))) cV))) (aR (gK (PW.pt (gU (bO (aJ7 hu) (bF dC aB aF) aF (bZ _)) (jX (bO (oE hu) (bD (cN hK) 0x3 B.len cJ 0xc) aF (bZ _))))) (aG (bY (aX aB (bF dC (bF fU aB aF) (bD (cN hK) 0x3 B.len cJ 0xc)))) (aG (oH rfl rfl 0x0 0xd) (aR (bY (bF bU (iC (ownN:=(["x"]:aa Str)) (show cH b8 (aL cQ) _ (["x"]:aa Str) from 0x9) rfl rfl rfl (dN 0xd) (dW 17) (λ_=>bA (show((dz (fQ (["x"]:aa Str)) b8++(["x"]:aa Str)):aa Str).Nodup from 0x6) rfl 0x0) (λ_=>bH (aA aB (aA lQ aH))) (λ_=>rfl)) aB))))) (aG (bY (aX aB (bF dC (bF fU aB aF) (bD (cN hK) 0x3 B.len cJ 0xc)))) (aG (oH rfl rfl 0x0 0xd) (aG (bY (L_ (DQ (YM hu) (bD (aBp hK) 0x3 B.len cJ 0xc) aF (bZ _)) (aB8 (DQ (YM hu) (bF dC (bF fU aB aF) aF) aF (bZ _))))) (aR (bY (bF bU (bF bU (nC (aA (bH (aA 0xd 0xc)) aH)) (iC (ownN:=(["x"]:aa Str)) (show cH b8 (aL cQ) _ (["x"]:aa Str) from 0x9) rfl rfl rfl (dN 0xd) (dW 17) (λ_=>bA (show((dz (fQ (["x"]:aa Str)) b8++(["x"]:aa Str)):aa Str).Nodup from 0x6) rfl 0x0) (λ_=>bH (aA aB (aA lQ aH))) (λ_=>rfl))) aB)))))))))))))))))) (aR (dM (eV h_ 0x3 B.tuple dR 0xc)))))
theorem CJ(p6:cY P w K mg base 1 "_law_draw" 2 aQ)(p8:cY P w K mg base 2 "_law_word" 2 a_)(qM:aRz P w K mg base 2 "_law_words" "least" 6 (.int 0) gB)(F:Fun K "_law_rules" "_law_rules" kZ fad fd)(hm:mg "_law_rules"=ab (.ref fad)):cY P w K mg base 3 "_law_rules" 2 k_:=by
 have sc:=JR;have nd:=sc.nd;refine gV (ps:=["script","book"]) (N:=lC) (k:=2) F hm (F.binds λ_ _ _ _ _ _ us hl=>by obtain⟨_,_,rfl⟩:=l2 hl;rfl) sc NT 0x4 0x4 λcdv A outer s H E hr=>?_
 have hu:=wJ hr;exact aG (bY (lR aH)) (aG (fZ dv rfl (dN 0xd) (fM rfl) (bA sc.nd rfl 0x0) (aR (fZ dv rfl (dN 0xd) (fM rfl) (bA sc.nd rfl 0x0) (aR (gK (bO (oE hu) 0xd 0xd (bZ _)) (aG (bY (bF vR 0xd 0xd)) (aG (bY (aZ p6 hr 0x4 0x3 (aA aB (aA (bF bU aF (bD (cN hK) 0x3 B.len cJ 0xc)) aH)))) (aG (m_ (ownN:=(["i"]:aa Str)) (show cH lC (aL kZ) _ (["i"]:aa Str) from 0x9) rfl rfl rfl (m9 0x3 B.range (aA (bD (cN hK) 0x3 B.len cJ 0xc) aH)) (dW 11) (λ_=>bA (show((dz (fQ (["i"]:aa Str)) lC++(["i"]:aa Str)):aa Str).Nodup from 0x6) rfl 0x0) (λ_=>aZ p8 hr 0x4 0x3 (aA aB (aA (bF bU aF (bF dC (bF bU aB aB) aF)) aH))) (λ_=>rfl) rfl sc.nd rfl 0x0 (ip rfl) 0x5) (aG (bY (eV h_ 0x3 B.tuple dR (aA (aX (lR (aA aB (aA (aOe aB) aH))) (bF dC (bF fU aB aF) aF)) aH))) (aG (bY (aJp 0x3 B.dict 0x3 B.zip (aA aB 0xc))) (aG (bY (aBn qM hr 0x4 0x3 (aA aB (aA (bF bU aF (bF iV aF (bD (cN hK) 0x3 B.len cJ 0xc))) (aA aB (aA aB (aA 0xd (aA aF aH)))))))) (aR (oH rfl rfl 0x0 (bH (aA 0xd (aA 0xd (aA aB 0xc)))))))))))) cV))))) (aG (bY (bF dC (aZ p6 hr 0x4 0x3 0xb) (bD (R6 0x3) 0x3 B.max V2 (aA aF (aA (bD (cN hK) 0x3 B.len cJ 0xc) aH))))) (aR (dM (eV h_ 0x3 B.tuple dR (aA (bF bU (EY hK aB (lJ aB) (lH)) (EY hK aB (lH) (lJ aB))) aH))))))
theorem xQ(p6:cY P w K mg base 1 "_law_draw" 2 aQ)(qN:cY P w K mg base 3 "_law_takers" 2 jP)(qO:cY P w K mg base 3 "_law_makers" 2 jN)(p8:cY P w K mg base 2 "_law_word" 2 a_)(qP:cY P w K mg base 3 "_law_rules" 2 k_)(F:Fun K "_law_program" "_law_program" iD fad fd)(hm:mg "_law_program"=ab (.ref fad)):cY P w K mg base 4 "_law_program" 1 iG:=by
 have sc:=zT;have nd:=sc.nd;refine gV (ps:=["script"]) (N:=iH) (k:=3) F hm (F.binds λ_ _ _ _ _ _ us hl=>by obtain⟨_,rfl⟩:=l1 hl;rfl) sc BV 0x4 0x4 λcdv A outer s H E hr=>?_
 have hu:=wJ hr;exact aG (bY (bF bU aF (bF dC (aZ p6 hr 0x4 0x3 0xb) aF))) (aG (bY (bH (aA (aZ qO hr 0x4 0x3 (aA aB 0xc)) (aA (aZ qN hr 0x4 0x3 (aA aB 0xc)) aH)))) (aG (bY (eV h_ 0x3 B.tuple dR (aA (iC (ownN:=(["j"]:aa Str)) (show cH iH (aL iD) _ (["j"]:aa Str) from 0x9) rfl rfl rfl (m9 0x3 B.range 0xc) (dW 4) (λ_=>bA (show((dz (fQ (["j"]:aa Str)) iH++(["j"]:aa Str)):aa Str).Nodup from 0x6) rfl 0x0) (λ_=>aZ p8 hr 0x4 0x3 (aA aB 0xc)) (λ_=>rfl)) aH))) (aR (dM (bH (aA aB (aA 0xd (aA 0xd (aA (aZ qP hr 0x4 0x3 (aA aB 0xc)) aH)))))))))
theorem O5(F:Fun K "stock_of" "stock_of" vX fad fd)(hm:mg "stock_of"=ab (.ref fad)):cY P w K mg base 1 "stock_of" 1 o8:=by
 have sc:=SQ;have nd:=sc.nd;refine gV (ps:=["program"]) (N:=FQ) (k:=0) F hm (F.binds λ_ _ _ _ _ _ us hl=>by obtain⟨_,rfl⟩:=l1 hl;rfl) sc Y5 0x4 0x4 λcdv A outer s H E hr=>?_
 have hu:=wJ hr;exact aG (bY (uP)) (aG (fZ dv rfl (dN 0xd) (oJ _ 0x4) (uG rfl (cD (bA sc.nd rfl 0x0) (cD (bA sc.nd rfl 0x0) (cD (bA sc.nd rfl 0x0) (mR))))) (aR (lY hu rfl rfl 0x0 aB (bD (cN hK) 0x3 B.len cJ 0xc)))) (aG (fZ dv rfl (dN 0xd) (oJ _ 0x4) (uG rfl (cD (bA sc.nd rfl 0x0) (cD (bA sc.nd rfl 0x0) (cD (bA sc.nd rfl 0x0) (cD (bA sc.nd rfl 0x0) (mR)))))) (aR (lY hu rfl rfl 0x0 aB (bF bU aF (bD (cN hK) 0x3 B.len cJ 0xc))))) (aG (lY hu rfl rfl 0x0 iW aF) (aG (lY hu rfl rfl 0x0 iW aF) (aR (zG rfl rfl 0x0))))))
theorem O6(F:Fun K "arranged" "arranged" o9 fad fd)(hm:mg "arranged"=ab (.ref fad)):cY P w K mg base 1 "arranged" 3 gC:=by
 have sc:=SX;have nd:=sc.nd;refine gV (ps:=["pieces","ties","rings"]) (N:=mJ) (k:=0) F hm (F.binds λ_ _ _ _ _ _ us hl=>by obtain⟨_,_,_,rfl⟩:=l3 hl;rfl) sc Y7 0x4 0x4 λcdv A outer s H E hr=>?_
 have hu:=wJ hr;exact aG (m_ (ownN:=(["one","other"]:aa Str)) (show cH mJ (aL o9) _ (["one","other"]:aa Str) from 0x9) rfl rfl rfl (dN aB) (aJe _ 4 2) (λ_=>uG rfl (cD (bA (show((dz (fQ (["one","other"]:aa Str)) mJ++(["one","other"]:aa Str)):aa Str).Nodup from 0x6) rfl 0x0) (cD (bA (show((dz (fQ (["one","other"]:aa Str)) mJ++(["one","other"]:aa Str)):aa Str).Nodup from 0x6) rfl 0x0) (mR)))) (λ_=>bH (aA (bD (aK1 hu 0x3) 0x3 B.min aO6 (aA aB 0xc)) (aA (bD (aK2 hu 0x3) 0x3 B.max V2 (aA aB 0xc)) aH))) (λ_=>rfl) rfl sc.nd rfl 0x0 (ip rfl) 0x5) (aR (dM (bH (aA (eV h_ 0x3 B.tuple dR (aA (bD (zE hu) 0x3 B.sorted zH 0xc) aH)) (aA (eV h_ 0x3 B.tuple dR (aA (bD (zE hu) 0x3 B.sorted zH 0xc) aH)) 0xc)))))
theorem O7(F:Fun K "heads_of" "heads_of" vY fad fd)(hm:mg "heads_of"=ab (.ref fad)):cY P w K mg base 1 "heads_of" 1 l_:=by
 have sc:=S5;have nd:=sc.nd;refine gV (ps:=["program"]) (N:=FW) (k:=0) F hm (F.binds λ_ _ _ _ _ _ us hl=>by obtain⟨_,rfl⟩:=l1 hl;rfl) sc Y9 0x4 0x4 λcdv A outer s H E hr=>?_
 have hu:=wJ hr;exact aG (bY (uP)) (aG (fZ dv rfl (dN 0xd) (oJ _ 0x4) (uG rfl (cD (bA sc.nd rfl 0x0) (cD (bA sc.nd rfl 0x0) (cD (bA sc.nd rfl 0x0) (mR))))) (aR (lY hu rfl rfl 0x0 aB (bH (aA aB 0xc))))) (aG (fZ dv rfl (dN 0xd) (oJ _ 0x4) (uG rfl (cD (bA sc.nd rfl 0x0) (cD (bA sc.nd rfl 0x0) (cD (bA sc.nd rfl 0x0) (cD (bA sc.nd rfl 0x0) (mR)))))) (aR (lY hu rfl rfl 0x0 aB (bH (aA aB (aA (bF vR (bH 0xc) aB) aH)))))) (aR (zG rfl rfl 0x0))))
theorem aFq{C:ak}(qQ:cY P w K mg base 1 "heads_of" 1 l_)(cls:Cls K C)(na:∀f∈zP.map (·.1),sZ K C f)(F:Fun K "__init__" "Loom.__init__" wR fad fd):vH P w K mg base CX0 2 fad fd ["self","program"] (aC9 C zP 1):=by
 have sc:=aL1;have nd:=sc.nd;refine aKa (N:=(["self","program"]:aa Str)) (ps:=["self","program"]) (k:=1) F sc rfl rfl cls 0x6 na 0x4 λcdv A outer s H E hr=>?_
 have hu:=wJ hr;exact mQ (UJ (fX rfl 0x0) (aZ qQ hr 0x4 0x3 0xc) rfl) (mQ (UJ (fX rfl 0x0) (aC3 0x3 0x3 B.dict (iC (ownN:=(["taker"]:aa Str)) (show cH (["self","program"]:aa Str) (aL wR) _ (["taker"]:aa Str) from 0x9) rfl rfl rfl (dN 0xd) (dW 2) (λ_=>bA (show((dz (fQ (["taker"]:aa Str)) (["self","program"]:aa Str)++(["taker"]:aa Str)):aa Str).Nodup from 0x6) rfl 0x0) (λ_=>bH (aA 0xd (aA lQ aH))) (λ_=>rfl))) rfl) (mQ (UJ (fX rfl 0x0) (lR aH) rfl) (mQ (UJ (fX rfl 0x0) (lR aH) rfl) (aA2))))
theorem O8(fl_Loom_pieces:Z3 K "Loom" "pieces")(F:Fun K "add_piece" "Loom.add_piece" fW fad fd):vH P w K mg base CX0 1 fad fd ["self","name"] (spG dO 2):=by
 have sc:=O4;have nd:=sc.nd;refine aC6 (N:=(["self","name","#0","#1","number"]:aa Str)) (ps:=["self","name"]) (k:=0) F sc SM rfl 0x4 0x4 rfl 0x6 rfl 0x6 λcdv A outer s H E hr=>?_
 have hu:=wJ hr;exact aG (bY (bF bU (bD (cN hK) 0x3 B.len cJ (aA (aC4 (nY hK fl_Loom_pieces aB)) aH)) aF)) (aG (tX rfl (nY hK fl_Loom_pieces aB) (bH (aA aB 0xc))) (aR (oO aB)))
theorem aPc(pb:aHc P w K mg base 1 "Loom" "add_piece" 2 dO)(fl_Loom_heads:Z3 K "Loom" "heads")(fl_Loom_takers:Z3 K "Loom" "takers")(fl_Loom_ties:Z3 K "Loom" "ties")(F:Fun K "lay" "Loom.lay" JL fad fd):vH P w K mg base CX0 2 fad fd ["self","word","place"] (spG ZC 3):=by
 have sc:=aPa;have nd:=sc.nd;refine aC6 (N:=(["self","word","place","#0","#1","number","count"]:aa Str)) (ps:=["self","word","place"]) (k:=1) F sc aSn rfl 0x4 0x4 rfl 0x6 rfl 0x6 λcdv A outer s H E hr=>?_
 have hu:=wJ hr;exact aG (aH4 rfl sc.nd rfl 0x0 (uW hK pb hr 0x4 rfl rfl rfl rfl 0x0 (aC1 rfl rfl 0x0 (M8)))) (aG (bY (bD (cN hK) 0x3 B.len cJ (aA (aX (aX (nY hK fl_Loom_heads aB) aB) aF) aH))) (aG (gK (bO (tO hu) aB (nY hK fl_Loom_takers aB) 0x5) (aG (tX rfl (nY hK fl_Loom_ties aB) (bH (aA (bH 0xb) 0xc))) (aR (oO (bF bU (nC (aA (bH 0xb) aH)) (iC (ownN:=(["hook"]:aa Str)) (show cH (["self","word","place","#0","#1","number","count"]:aa Str) (aL JL) _ (["hook"]:aa Str) from 0x9) rfl rfl rfl (vO 0x3 B.range (aA aF (aA (bF bU aB aF) aH))) (dW 7) (λ_=>bA (show((dz (fQ (["hook"]:aa Str)) (["self","word","place","#0","#1","number","count"]:aa Str)++(["hook"]:aa Str)):aa Str).Nodup from 0x6) rfl 0x0) (λ_=>bH (aA aB 0xc)) (λ_=>rfl)))))) cV) (aG (tX rfl (nY hK fl_Loom_ties aB) (bH (aA (bH 0xb) 0xc))) (aR (oO (iC (ownN:=(["hook"]:aa Str)) (show cH (["self","word","place","#0","#1","number","count"]:aa Str) (aL JL) _ (["hook"]:aa Str) from 0x9) rfl rfl rfl (vO 0x3 B.range (aA aF (aA (bF bU aB aF) aH))) (dW 7) (λ_=>bA (show((dz (fQ (["hook"]:aa Str)) (["self","word","place","#0","#1","number","count"]:aa Str)++(["hook"]:aa Str)):aa Str).Nodup from 0x6) rfl 0x0) (λ_=>bH (aA aB 0xc)) (λ_=>rfl)))))))
theorem aFr(fl_Loom_ties:Z3 K "Loom" "ties")(pb:aHc P w K mg base 1 "Loom" "add_piece" 2 dO)(F:Fun K "serve" "Loom.serve" t_ fad fd):vH P w K mg base CX0 2 fad fd ["self","giver","places"] (spG vZ 3):=by
 have sc:=aFp;have nd:=sc.nd;refine aC6 (N:=(["self","giver","places","#0","#1","place","number"]:aa Str)) (ps:=["self","giver","places"]) (k:=1) F sc aKt rfl 0x4 0x4 rfl 0x6 rfl 0x6 λcdv A outer s H E hr=>?_
 have hu:=wJ hr;exact aR (gK (kO (aKn hK aB)) (aR (aKe rfl (nY hK fl_Loom_ties aB) (aH3 (aBz (aH3 (aBz (uW hK pb hr 0x4 rfl rfl rfl rfl 0x0 (aF5 iW (M8))) (V8 aF (aH2)))) (V8 aB (aH2)))))) (aG (fZ dv rfl (dN (EY hK aB (lH) (lJ (aB7 MJ aF)))) (fM rfl) (bA sc.nd rfl 0x0) (aG (aH4 rfl sc.nd rfl 0x0 (uW hK pb hr 0x4 rfl rfl rfl rfl 0x0 (aF5 iW (M8)))) (aG (tX rfl (nY hK fl_Loom_ties aB) (bH (aA (bH 0xb) 0xc))) (aG (tX rfl (nY hK fl_Loom_ties aB) (bH (aA (bH 0xb) 0xc))) (aR (bY (bH 0xb))))))) (aR (tX rfl (nY hK fl_Loom_ties aB) (bH (aA aB (aA (aX aB (aB7 MJ aF)) aH)))))))
theorem CK(ph:cY P w K mg base 1 "arranged" 3 gC)(pS:aHc P w K mg base 2 "Loom" "lay" 3 ZC)(pT:aHc P w K mg base 2 "Loom" "serve" 3 vZ)(fl_Loom_ties:Z3 K "Loom" "ties")(fl_Loom_pieces:Z3 K "Loom" "pieces")(q_Loom:aFg P w K mg base 2 "Loom" zP 1)(F:Fun K "woven_with" "woven_with" cW fad fd)(hm:mg "woven_with"=ab (.ref fad)):cY P w K mg base 4 "woven_with" 3 lA:=by
 have sc:=JS;have nd:=sc.nd;refine gV (ps:=["program","words","variables"]) (N:=iT) (k:=3) F hm (F.binds λ_ _ _ _ _ _ us hl=>by obtain⟨_,_,_,rfl⟩:=l3 hl;rfl) sc NZ 0x4 0x4 λcdv A outer s H E hr=>?_
 have hu:=wJ hr;exact aKb hK q_Loom hr 0x4 0x3 0xc rfl rfl rfl (show 4<iT.length from by decide) (uV rfl (show(aL cW).names.lookup ("#0" : Str)=ai from 0x6)) (uV rfl (show(aL cW).names.lookup ("#1" : Str)=ai from 0x6)) sc.nd rfl 0x0 (aKk rfl (hj5 rfl rfl rfl rfl rfl) (hd5 (uV rfl (show(aL cW).names.lookup ("#2" : Str)=ai from 0x6)) (uV rfl (show(aL cW).names.lookup ("#3" : Str)=ai from 0x6)) (uV rfl (show(aL cW).names.lookup ("#4" : Str)=ai from 0x6)) (uV rfl (show(aL cW).names.lookup ("#5" : Str)=ai from 0x6)) (uV rfl (show(aL cW).names.lookup ("#6" : Str)=ai from 0x6))) sc.nd rfl 0x0 (aSi 0x3 0x3 B.dict (aKm (ownN:=(["name"]:aa Str)) (show cH iT (aL cW) _ (["name"]:aa Str) from 0x9) rfl rfl rfl (dN aB) (dW 17) (λ_=>bA (show((dz (fQ (["name"]:aa Str)) iT++(["name"]:aa Str)):aa Str).Nodup from 0x6) rfl 0x0) (λ_=>aB) (λ_=>rfl) (λ_=>rfl) (λ_=>rfl))) (aG (bY (lR (kY (bH (aA aF (aA aF aH))) aH))) (aG (HX rfl dv rfl rfl 0x0 (fM rfl) (bA sc.nd rfl 0x0) (aG (aJr rfl rfl 0x0 sc.nd rfl 0x0 rfl) (aR (gK (bO (tO hu) aB aB 0x5) (aR (aKl (hj5 rfl rfl rfl rfl rfl) (aX aB aB) aB)) (aR (aKd rfl rfl 0x0 (aKc 0x3 0x3 B.list 0x3 B.reversed (uW hK pS hr 0x4 rfl rfl rfl rfl 0x0 (aC1 rfl rfl 0x0 (aC1 rfl rfl 0x0 (M8))))))))))) (aFk rfl (hj5 rfl rfl rfl rfl rfl) (aG (fZ dv rfl (aFh 0x4 0x3 B.enum aB) (oJ _ 0x4) (uG rfl (cD (bA sc.nd rfl 0x0) (cD (bA sc.nd rfl 0x0) (mR)))) (aR (aOy (uW hK pT hr 0x4 rfl rfl rfl rfl 0x0 (aF5 (bH (aA aF 0xc)) (aF5 (aX aB aB) (M8))))))) (aR (dM (aZ ph hr 0x4 0x3 (aA (aC4 (nY hK fl_Loom_pieces aB)) (aA (aC4 (nY hK fl_Loom_ties aB)) (aA aF aH)))))))))))
theorem O9(qR:cY P w K mg base 4 "woven_with" 3 lA)(F:Fun K "rule_net" "rule_net" v5 fad fd)(hm:mg "rule_net"=ab (.ref fad)):cY P w K mg base 5 "rule_net" 3 mC:=by
 have sc:=S6;have nd:=sc.nd;refine gV (ps:=["program","rule","parts"]) (N:=FZ) (k:=4) F hm (F.binds λ_ _ _ _ _ _ us hl=>by obtain⟨_,_,_,rfl⟩:=l3 hl;rfl) sc ZD 0x4 0x4 λcdv A outer s H E hr=>?_
 have hu:=wJ hr;exact aG (bY 0xd) (aR (dM (aZ qR hr 0x4 0x3 (aA aB (aA 0xd (aA (bF vR (WN hK aB (lJ aB) (lH)) (WN hK aB (lH) (lJ aB))) aH))))))
theorem O_(ph:cY P w K mg base 1 "arranged" 3 gC)(F:Fun K "copy_net" "copy_net" v6 fad fd)(hm:mg "copy_net"=ab (.ref fad)):cY P w K mg base 2 "copy_net" 2 mD:=by
 have sc:=S7;have nd:=sc.nd;refine gV (ps:=["maker","parts"]) (N:=F_) (k:=1) F hm (F.binds λ_ _ _ _ _ _ us hl=>by obtain⟨_,_,rfl⟩:=l2 hl;rfl) sc ZG 0x4 0x4 λcdv A outer s H E hr=>?_
 have hu:=wJ hr;refine aG ?_ ?_;exact(bY (nC (aA (bH (aA aF 0xc)) (aA (bH (aA aF 0xc)) aH))));refine aG ?_ ?_;refine aGx ?_ ?_ ?_ ?_ ?_ ?_ ?_;rfl;exact sc.nd;rfl;exact 0x0;refine nC (r:=ae) ?_;refine kY (re:=ae) (r:=ae) ?_ ?_;refine bH ?_;refine kY (re:=ae) (r:=ae) ?_ ?_;exact JD;refine kY (re:=ae) (r:=ae) ?_ ?_;exact JD;exact aH;refine kY (re:=ae) (r:=ae) ?_ ?_;refine bH ?_;refine kY (re:=ae) (r:=ae) ?_ ?_;exact JD;refine kY (re:=ae) (r:=ae) ?_ ?_;exact JD;exact aH;exact aH;rfl;exact .inr rfl;refine aG ?_ ?_;exact(fZ dv rfl (vO 0x3 B.range (aA aF (aA (bF bU aB aF) aH))) (fM rfl) (bA sc.nd rfl 0x0) (aG (bY (bF bU aB aF)) (aG (oH rfl rfl 0x0 (bH (aA aB (aA iW aH)))) (aR (aOk rfl rfl 0x0 (nC (aA (bH (aA (bH 0xb) (aA (bH (aA aF (aA (bF bU aB aF) aH))) aH))) (aA (bH (aA (bH 0xb) (aA (bH (aA aF 0xc)) aH))) (aA (bH (aA (bH 0xb) (aA (bH (aA aF 0xc)) aH))) aH)))))))));refine aR ?_;exact(dM (aZ ph hr 0x4 0x3 (aA aB 0xb)))
theorem PB(ph:cY P w K mg base 1 "arranged" 3 gC)(F:Fun K "drop_net" "drop_net" mF fad fd)(hm:mg "drop_net"=ab (.ref fad)):cY P w K mg base 2 "drop_net" 1 mG:=by
 have sc:=S8;have nd:=sc.nd;refine gV (ps:=["parts"]) (N:=jU) (k:=1) F hm (F.binds λ_ _ _ _ _ _ us hl=>by obtain⟨_,rfl⟩:=l1 hl;rfl) sc ZK 0x4 0x4 λcdv A outer s H E hr=>?_
 have hu:=wJ hr;exact aG (m_ (ownN:=(["j"]:aa Str)) (show cH jU (aL mF) _ (["j"]:aa Str) from 0x9) rfl rfl rfl (vO 0x3 B.range (aA aF (aA (bF bU aB aF) aH))) (dW 3) (λ_=>bA (show((dz (fQ (["j"]:aa Str)) jU++(["j"]:aa Str)):aa Str).Nodup from 0x6) rfl 0x0) (λ_=>bH (aA aB (aA iW aH))) (λ_=>rfl) rfl sc.nd rfl 0x0 (ip rfl) 0x5) (aG (m_ (ownN:=(["j"]:aa Str)) (show cH jU (aL mF) _ (["j"]:aa Str) from 0x9) rfl rfl rfl (vO 0x3 B.range (aA aF (aA (bF bU aB aF) aH))) (dW 3) (λ_=>bA (show((dz (fQ (["j"]:aa Str)) jU++(["j"]:aa Str)):aa Str).Nodup from 0x6) rfl 0x0) (λ_=>bH (aA (bH 0xb) (aA (bH (aA aF (aA (bF VD aB aF) aH))) aH))) (λ_=>rfl) rfl sc.nd rfl 0x0 (ip rfl) 0x5) (aR (dM (aZ ph hr 0x4 0x3 (aA aB 0xb)))))
theorem PJ(qS:cY P w K mg base 1 "stock_of" 1 o8)(qT:cY P w K mg base 5 "rule_net" 3 mC)(qU:cY P w K mg base 2 "copy_net" 2 mD)(qV:cY P w K mg base 2 "drop_net" 1 mG)(F:Fun K "rules_of" "rules_of" o_ fad fd)(hm:mg "rules_of"=ab (.ref fad)):cY P w K mg base 6 "rules_of" 1 p_:=by
 have sc:=S9;have nd:=sc.nd;refine gV (ps:=["program"]) (N:=q_) (k:=5) F hm (F.binds λ_ _ _ _ _ _ us hl=>by obtain⟨_,rfl⟩:=l1 hl;rfl) sc ZM 0x4 0x4 λcdv A outer s H E hr=>?_
 have hu:=wJ hr;exact aG (bY (aZ qS hr 0x4 0x3 0xc)) (aG (m_ (ownN:=(["rule"]:aa Str)) (show cH q_ (aL o_) _ (["rule"]:aa Str) from 0x9) rfl rfl rfl (dN 0xd) (dW 6) (λ_=>bA (show((dz (fQ (["rule"]:aa Str)) q_++(["rule"]:aa Str)):aa Str).Nodup from 0x6) rfl 0x0) (λ_=>bH (aA 0xd (aA 0xd (aA (aZ qT hr 0x4 0x3 (aA aB (aA aB (aA (aX aB 0xd) aH)))) aH)))) (λ_=>rfl) rfl sc.nd rfl 0x0 (ip rfl) 0x5) (aG (fZ dv rfl (dN 0xd) (oJ _ 0x4) (uG rfl (cD (bA sc.nd rfl 0x0) (cD (bA sc.nd rfl 0x0) (cD (bA sc.nd rfl 0x0) (mR))))) (aG (oH rfl rfl 0x0 (bH (aA iW (aA aB (aA (aZ qU hr 0x4 0x3 (aA aB (aA (bD (cN hK) 0x3 B.len cJ 0xc) aH))) aH))))) (aR (oH rfl rfl 0x0 (bH (aA iW (aA aB (aA (aZ qV hr 0x4 0x3 (aA (bD (cN hK) 0x3 B.len cJ 0xc) aH)) aH)))))))) (aR (zG rfl rfl 0x0))))
theorem CN(F:Fun K "_law_stock" "_law_stock" oR fad fd)(hm:mg "_law_stock"=ab (.ref fad)):cY P w K mg base 1 "_law_stock" 1 gD:=by
 have sc:=JT;have nd:=sc.nd;refine gV (ps:=["program"]) (N:=wX) (k:=0) F hm (F.binds λ_ _ _ _ _ _ us hl=>by obtain⟨_,rfl⟩:=l1 hl;rfl) sc N5 0x4 0x4 λcdv A outer s H E hr=>?_
 have hu:=wJ hr;exact aG (bY (aJw iW aF iW aF)) (aG (fZ dv rfl (dN 0xd) (fM rfl) (bA sc.nd rfl 0x0) (aR (lY hu rfl rfl 0x0 0xd (bD (cN hK) 0x3 B.len cJ (aA 0xd aH))))) (aG (fZ dv rfl (dN 0xd) (fM rfl) (bA sc.nd rfl 0x0) (aR (lY hu rfl rfl 0x0 0xd (bF bU (bD (cN hK) 0x3 B.len cJ (aA 0xd aH)) aF)))) (aR (zG rfl rfl 0x0))))
theorem CP(F:Fun K "_law_whole" "_law_whole" oU fad fd)(hm:mg "_law_whole"=ab (.ref fad)):cY P w K mg base 1 "_law_whole" 1 eE:=by
 have sc:=JV;have nd:=sc.nd;refine gV (ps:=["found"]) (N:=wY) (k:=0) F hm (F.binds λ_ _ _ _ _ _ us hl=>by obtain⟨_,rfl⟩:=l1 hl;rfl) sc N7 0x4 0x4 λcdv A outer s H E hr=>?_
 have hu:=wJ hr;exact aR (dM (L_ (oF .int aB 0x3 B.isi cO 0x3 B.int aGy) (aB8 (aNv (oF .bool aB 0x3 B.isi cO 0x3 B.bool aJi)))))
theorem PK(pi:cY P w K mg base 1 "_law_whole" 1 eE)(F:Fun K "_law_end" "_law_end" v7 fad fd)(hm:mg "_law_end"=ab (.ref fad)):cY P w K mg base 2 "_law_end" 1 mH:=by
 have sc:=S_;have nd:=sc.nd;refine gV (ps:=["end"]) (N:=GC) (k:=1) F hm (F.binds λ_ _ _ _ _ _ us hl=>by obtain⟨_,rfl⟩:=l1 hl;rfl) sc ZQ 0x4 0x4 λcdv A outer s H E hr=>?_
 have hu:=wJ hr;exact aR (dM (L_ (oF .tuple aB 0x3 B.isi cO 0x3 B.tuple dR) (L_ (DQ (oE hu) (bD (cN hK) 0x3 B.len cJ 0xc) aF (bZ _)) (L_ (aZ pi hr 0x4 0x3 (aA 0xd aH)) (aB8 (aZ pi hr 0x4 0x3 (aA 0xd aH)))))))
theorem CQ(pi:cY P w K mg base 1 "_law_whole" 1 eE)(qF:cY P w K mg base 2 "_law_end" 1 mH)(F:Fun K "_law_mates" "_law_mates" iQ fad fd)(hm:mg "_law_mates"=ab (.ref fad)):cY P w K mg base 3 "_law_mates" 3 lB:=by
 have sc:=JW;have nd:=sc.nd;refine gV (ps:=["net","stock","border"]) (N:=gF) (k:=2) F hm (F.binds λ_ _ _ _ _ _ us hl=>by obtain⟨_,_,_,rfl⟩:=l3 hl;rfl) sc N_ 0x4 0x4 λcdv A outer s H E hr=>?_
 have hu:=wJ hr
 exact aG (gK (PW.pt (gU (kO (kJ (oF .tuple aB 0x3 B.isi cO 0x3 B.tuple dR))) (jX (bO (sY hu) (bD (cN hK) 0x3 B.len cJ 0xc) aF (bZ _))))) (aR (dM uO)) cV) (aG (gK (PW.pt (gU (kO (kJ (oF .tuple 0xd 0x3 B.isi cO 0x3 B.tuple dR))) (gU (kO (kJ (oF .tuple 0xd 0x3 B.isi cO 0x3 B.tuple dR))) (jX (kO (kJ (aZ pi hr 0x4 0x3 (aA 0xd aH)))))))) (aR (dM uO)) cV) (aG (m_ (ownN:=(["k"]:aa Str)) (show cH gF (aL iQ) _ (["k"]:aa Str) from 0x9) rfl rfl rfl (m9 0x3 B.range 0xc) (dW 9) (λ_=>bA (show((dz (fQ (["k"]:aa Str)) gF++(["k"]:aa Str)):aa Str).Nodup from 0x6) rfl 0x0) (λ_=>bH (aA aF 0xc)) (λ_=>rfl) rfl sc.nd rfl 0x0 (ip rfl) 0x5) (aG (bY aF) (aG (fZ dv rfl (dN 0xd) (fM rfl) (bA sc.nd rfl 0x0) (aG (gK (PW.pt (gU (kO (kJ (oF .tuple aB 0x3 B.isi cO 0x3 B.tuple dR))) (gU (bO (sY hu) (bD (cN hK) 0x3 B.len cJ 0xc) aF (bZ _)) (gU (kO (kJ (aZ pi hr 0x4 0x3 (aA 0xd aH)))) (jX (bO (aRr hu) 0xd aB (bZ _))))))) (aR (dM uO)) cV) (aG (gK (PW.pt (gU (kO (kJ (oF .str 0xd 0x3 B.isi cO 0x3 B.str aO7))) (jX (bO (VJ hu) 0xd aB 0x5)))) (aR (dM uO)) cV) (aG (bY 0xd) (aR (bY (bF bU aB (iC (ownN:=(["hook"]:aa Str)) (show cH gF (aL iQ) _ (["hook"]:aa Str) from 0x9) rfl rfl rfl (m9 0x3 B.range (aA (bF bU (aX aB 0xd) aF) aH)) (dW 9) (λ_=>bA (show((dz (fQ (["hook"]:aa Str)) gF++(["hook"]:aa Str)):aa Str).Nodup from 0x6) rfl 0x0) (λ_=>bH (aA aB 0xc)) (λ_=>rfl))))))))) (aG (bY (uP)) (aG (fZ dv rfl (dN 0xd) (fM rfl) (bA sc.nd rfl 0x0) (aG (gK (PW.pt (gU (kO (kJ (oF .tuple aB 0x3 B.isi cO 0x3 B.tuple dR))) (gU (bO (sY hu) (bD (cN hK) 0x3 B.len cJ 0xc) aF (bZ _)) (gU (kO (kJ (aZ qF hr 0x4 0x3 (aA 0xd aH)))) (jX (kO (kJ (aZ qF hr 0x4 0x3 (aA 0xd aH))))))))) (aR (dM uO)) cV) (aG (gK (PW.pt (gU (bO (aNy hu) 0xd 0xd (bZ _)) (gU (bO (tO hu) 0xd aB 0x5) (jX (bO (tO hu) 0xd aB 0x5))))) (aR (dM uO)) cV) (aG (lY hu rfl rfl 0x0 0xd 0xd) (aR (lY hu rfl rfl 0x0 0xd 0xd)))))) (aG (gK (PW.pt (gU (bO (sY hu) (bD (aKi hK) 0x3 B.len cJ 0xc) (bD (cN hK) 0x3 B.len cJ 0xc) (bZ _)) (jX (bO (sY hu) (eV (aJc 0x3) 0x3 B.list RX (aA 0xd aH)) (bD (Y0 hu) 0x3 B.sorted zH (aA 0xd aH)) (bZ _))))) (aR (dM uO)) cV) (aG (HX rfl dv rfl rfl 0x0 (fM rfl) (bA sc.nd rfl 0x0) (aR (gK (bO (VJ hu) aB aB 0x5) (aR (dM uO)) cV))) (aR (zG rfl rfl 0x0))))))))))
theorem zW(F:Fun K "_law_served" "_law_served" nF fad fd)(hm:mg "_law_served"=ab (.ref fad)):aQx P w K mg base 1 "_law_served" 5 2 gY:=by
 have sc:=B_;have nd:=sc.nd;refine aKq (ps:=["mates","kinds","seen","end","places"]) (N:=uY) (k:=0) 2 F hm (F.binds λ_ _ _ _ _ _ us hl=>by obtain⟨_,_,_,_,_,rfl⟩:=l5 hl;rfl) sc JM 0x4 0x4 λcdv A outer s H E hr=>?_
 have hu:=wJ hr;exact aG (gK (bO (oE hu) (bD (cN hK) 0x3 B.len cJ 0xc) aF (bZ _)) (aG (bY (aX aB aB)) (aG (gK (PW.pt (gU (bO (oE hu) 0xd aF (bZ _)) (gU (bO (tO hu) 0xd (aP3 rfl 0x0) 0x5) (gU (bO (sY hu) 0xd aF (bZ _)) (jX (bO (sY hu) (aX aB 0xd) iW (bZ _))))))) (aR (oO lQ)) cV) (aG (aCh hu rfl rfl 0x0 0xd lQ) (aR (oO lQ))))) cV) (aG (fZ dv rfl (dN (EY hK aB (lH) (lJ (aB7 MJ aF)))) (fM rfl) (bA sc.nd rfl 0x0) (aG (bY (aX aB aB)) (aG (gK (PW.pt (gU (bO (oE hu) 0xd aF (bZ _)) (gU (bO (tO hu) 0xd (aP3 rfl 0x0) 0x5) (gU (bO (sY hu) 0xd aF (bZ _)) (jX (bO (sY hu) (aX aB 0xd) iW (bZ _))))))) (aR (oO lQ)) cV) (aG (gK (bO (sY hu) (aX aB (bH (aA 0xd (aA aF aH)))) aB (bZ _)) (aR (oO lQ)) cV) (aG (aCh hu rfl rfl 0x0 0xd lQ) (aR (bY (bH (aA 0xd (aA aF aH)))))))))) (aR (oO (DQ (oE hu) (aX aB aB) (aX aB (aB7 MJ aF)) (bZ _)))))
theorem CT(pW:cY P w K mg base 1 "_law_stock" 1 gD)(qW:cY P w K mg base 3 "_law_mates" 3 lB)(qX:aQx P w K mg base 1 "_law_served" 5 2 gY)(F:Fun K "_law_woven" "_law_woven" iR fad fd)(hm:mg "_law_woven"=ab (.ref fad)):cY P w K mg base 4 "_law_woven" 4 fD:=by
 have sc:=JX;have nd:=sc.nd;refine gV (ps:=["net","words","names","program"]) (N:=gG) (k:=3) F hm (F.binds λ_ _ _ _ _ _ us hl=>by obtain⟨_,_,_,_,rfl⟩:=l4 hl;rfl) sc OD 0x4 0x4 λcdv A outer s H E hr=>?_
 have hu:=wJ hr
 exact aG (bY (aZ pW hr 0x4 0x3 0xc)) (aG (bY (aZ qW hr 0x4 0x3 (aA aB (aA aB (aA (bF bU (bD (cN hK) 0x3 B.len cJ 0xc) aF) aH))))) (aG (gK (PW.pt (gU (bO aNz aB uO (bZ _)) (jX (bO (sY hu) 0xd aF (bZ _))))) (aR (dM lQ)) cV) (aG (m_ (ownN:=(["taker"]:aa Str)) (show cH gG (aL iR) _ (["taker"]:aa Str) from 0x9) rfl rfl rfl (dN 0xd) (dW 16) (λ_=>bA (show((dz (fQ (["taker"]:aa Str)) gG++(["taker"]:aa Str)):aa Str).Nodup from 0x6) rfl 0x0) (λ_=>aX aB aF) (λ_=>rfl) rfl sc.nd rfl 0x0 (ip rfl) 0x5) (aG (bY (YZ 0x3 0x3 B.dict 0xd)) (aG (bY (uP)) (aG (HX rfl dv rfl rfl 0x0 (fM rfl) (bA sc.nd rfl 0x0) (aR (lY hu rfl rfl 0x0 aB (aP0 (lR aH))))) (aG (bY (lR (kY (bH (aA aF (aA aF aH))) aH))) (aG (bY (uP)) (aG (HX rfl dv rfl rfl 0x0 (fM rfl) (bA sc.nd rfl 0x0) (aG (aBq rfl rfl 0x0 sc.nd rfl 0x0 rfl aF) (aG (gK (bO (tO hu) aB aB 0x5) (aG (lY hu rfl rfl 0x0 aB (aP0 (bF (aKp hK) (aX aB aB) (nC 0xc)))) (aR (aK3))) cV) (aG (bY (aX aB aB)) (aG (gK (PW.pt (gU (bO (oE hu) 0xd aF (bZ _)) (gU (bO (tO hu) 0xd aB 0x5) (gU (bO (sY hu) (aX aB 0xd) aB (bZ _)) (jX (bO (sY hu) 0xd (eV aJq 0x3 B.int aGy (aA (DQ (tO hu) aB aB 0x5) aH)) (bZ _))))))) (aR (dM lQ)) cV) (aG (lY hu rfl rfl 0x0 0xd lQ) (aR (bY (bF bU (YQ (ownN:=(["k"]:aa Str)) (show cH gG (aL iR) _ (["k"]:aa Str) from 0x9) rfl rfl rfl (m9 0x3 B.range (aA (bF bU (aX aB aB) aF) aH)) (dW 16) (λ_=>bA (show((dz (fQ (["k"]:aa Str)) gG++(["k"]:aa Str)):aa Str).Nodup from 0x6) rfl 0x0) (λ_=>bO (sY hu) aB 0xd (bZ _)) (λ_=>bH (aA 0xd 0xc)) (λ_=>rfl)) aB))))))))) (aG (fZ dv rfl (WP 0x3 B.enum 0xc) (oJ _ 0x4) (uG rfl (cD (bA sc.nd rfl 0x0) (cD (bA sc.nd rfl 0x0) (mR)))) (aR (aS3 (aKs (aFn qX hr 0x4 0x3 rfl (aHi rfl rfl 0x0 (aHi rfl rfl 0x0 (aP5 rfl rfl 0x0 (aP6 (bH (aA aF (aA (bF bU aB aF) aH))) (aP6 (aX aB aB) (aP4)))))))) (aR (dM lQ)) cV))) (aR (dM (DQ (oE hu) (bD (aBp hK) 0x3 B.len cJ 0xc) (bD (cN hK) 0x3 B.len cJ (aA 0xd aH)) (bZ _))))))))))))))
theorem aPd(qY:cY P w K mg base 4 "_law_program" 1 iG)(qZ:cY P w K mg base 6 "rules_of" 1 p_)(pW:cY P w K mg base 1 "_law_stock" 1 gD)(r6:cY P w K mg base 4 "_law_woven" 4 fD)(F:Fun K "law" "law" JP fad fd):vH P w K mg base CX0 7 fad fd ["script"] (spD ZV 1):=by
 have sc:=aPb;have nd:=sc.nd;refine aO5 (ps:=["script"]) (N:=aP9) (k:=6) F sc o_law 0x4 0x4 λcdv A outer s H E hr=>?_
 have hu:=wJ hr;exact aG (bY (aZ qY hr 0x4 0x3 0xc)) (aG (bY (aZ qZ hr 0x4 0x3 0xc)) (aG (gK (PW.pt (gU (kO (kJ (oF .list aB 0x3 B.isi cO 0x3 B.list RX))) (jX (bO (aJ7 hu) (bD (cN hK) 0x3 B.len cJ 0xc) (bD (cN hK) 0x3 B.len cJ (aA 0xd aH)) (bZ _))))) (aR (dM lQ)) cV) (aG (bY (aZ pW hr 0x4 0x3 0xc)) (aG (fZ dv rfl (WP 0x3 B.enum (aA 0xd aH)) (oJ _ 0x4) (uG rfl (cD (bA sc.nd rfl 0x0) (cD (bA sc.nd rfl 0x0) (mR)))) (aG (bY (aX aB aB)) (aG (gK (PW.pt (gU (kO (kJ (oF .tuple aB 0x3 B.isi cO 0x3 B.tuple dR))) (gU (bO (sY hu) (bD (cN hK) 0x3 B.len cJ 0xc) aF (bZ _)) (jX (bO (sY hu) (EY hK aB (lH) (lJ aF)) (EY hK aB (lH) (lJ aF)) (bZ _)))))) (aR (dM lQ)) cV) (aG (bY (aX aB 0xd)) (aR (gK (kO (kJ (aZ r6 hr 0x4 0x3 (aA 0xd (aA 0xd (aA (bF vR (WN hK 0xd (lJ aB) (lH)) (WN hK 0xd (lH) (lJ aB))) 0xc)))))) (aR (dM lQ)) cV)))))) (aR (dM lQ))))))
end
def AtN(K:Frag)(n:Str)(st:bn):Prop:=∃(f:ak)(fd:dS),nsIn K cb n=ab (ab (.ref f))/\Fun K n n st f fd
theorem aSq{K:Frag}{n:Str}{st:bn}{f:ak}{oc kV dc pm cd ct:aj}{od an:ar ak}{sl:ax (ar aj)}(a:nsIn K cb n=ab (ab (.ref f)))(l:K.lookup f=ab ⟨oc,od,.func (fnOf n n (g8 st) (d7 st) (aL st) .none kV dc pm an cd ct),sl⟩)(c:codeIn K cd n=ae)(k:keepIn K (.ref f)=ae):AtN K n st:=⟨f,_,a,tL (st:=st) l c k⟩
theorem aPe{l:OpenLaw}{w:br}{K:Frag}{h:az}{mg:Str->ar aj}{fa:ak}(X:K.In h)(G:h.Ns cb mg)(hfa:mg "law"=ab (.ref fa))(a0:AtN K "_law_draw" tY)(a1:AtN K "_law_word" tZ)(a2:AtN K "_law_makers" jM)(a3:AtN K "_law_takers" jO)
 {f4 T4:ak}{oc4 kV4 dc4 pm4 cd4 ct4 tc4:aj}{od4 an4 td4:ar ak}{sl4 tl4:ax (ar aj)}{tk4:dP}{tn4:af}(a4:nsIn K cb "_law_words"=ab (ab (.ref f4)))(l4:K.lookup f4=ab ⟨oc4,od4,.func (fnOf "_law_words" "_law_words" (g8 cQ) (d7 cQ) (aL cQ) (.ref T4) kV4 dc4 pm4 an4 cd4 ct4),sl4⟩)(c4:codeIn K cd4 "_law_words"=ae)(k4:keepIn K (.ref f4)=ae)(t4:K.lookup T4=ab ⟨tc4,td4,.seq #[.int 0 tk4] tn4,tl4⟩)(a5:AtN K "_law_rules" kZ)(a6:AtN K "_law_program" iD)(a7:AtN K "stock_of" vX)(a8:AtN K "arranged" o9)(a9:AtN K "heads_of" vY)(a10:AtN K "woven_with" cW)(a11:AtN K "rule_net" v5)(a12:AtN K "copy_net" v6)(a13:AtN K "drop_net" mF)(a14:AtN K "rules_of" o_)(a15:AtN K "_law_stock" oR)(a16:AtN K "_law_whole" oU)(a17:AtN K "_law_end" v7)(a18:AtN K "_law_mates" iQ)(a19:AtN K "_law_served" nF)(a20:AtN K "_law_woven" iR)
 {f21:ak}{oc21 kV21 dc21 pm21 cd21 ct21:aj}{od21 an21:ar ak}{sl21:ax (ar aj)}(a21:nsIn K cb "law"=ab (ab (.ref f21)))(l21:K.lookup f21=ab ⟨oc21,od21,.func (fnOf "law" "law" (g8 JP) (d7 JP) (aL JP) .none kV21 dc21 pm21 an21 cd21 ct21),sl21⟩)(c21:codeIn K cd21 "law"=ae)(k21:keepIn K (.ref f21)=ae)(pX:nsIn K cb "len"=ab ai)(pY:nsIn K cb "min"=ab ai)(pZ:nsIn K cb "max"=ab ai)(qa:nsIn K cb "list"=ab ai)(qb:nsIn K cb "tuple"=ab ai)(qc:nsIn K cb "sorted"=ab ai)(qd:nsIn K cb "range"=ab ai)(qe:nsIn K cb "isinstance"=ab ai)(qf:nsIn K cb "int"=ab ai)(qg:nsIn K cb "bool"=ab ai)(qh:nsIn K cb "str"=ab ai)(qi:nsIn K cb "dict"=ab ai)(qj:nsIn K cb "all"=ab ai)(qk:nsIn K cb "enumerate"=ab ai)(ql:nsIn K cb "sum"=ab ai)(qo:nsIn K cb "zip"=ab ai)(qp:nsIn K cb "abs"=ab ai)(qr:nsIn K cb "reversed"=ab ai){p7:ak}(p9:nsIn K cb "Loom"=ab (ab (.ref p7))){pj:ak}{r8 r9 rh ri qG rj:aj}{rq rA:ar ak}{rB:ax (ar aj)}{pk:ak}{rC rD rE rG qH rH:aj}{rJ rK:ar ak}{rL:ax (ar aj)}{pq:ak}{rM rN rO rP qI rQ:aj}{rR rS:ar ak}{rT:ax (ar aj)}{pw:ak}{rV rW rX rY qJ rZ:aj}{t0 t6:ar ak}{t7:ax (ar aj)}(pg_Loom:plainGet K p7 AB=ae)(qt:hasDictIn K p7=ae)(po_Loom:plainOver K p7=ae)(qu:findIn K (.ref p7) "__setattr__"=ab (ab (.builtin "object.__setattr__")))(mk_Loom:makesIn K p7=ae)(qv:keepIn K (.ref p7)=ae)(qw:findIn K (.ref p7) "__init__"=ab (ab (.ref pj)))(pD:K.lookup pj=ab ⟨r8,rq,.func (fnOf "__init__" "Loom.__init__" (g8 wR) (d7 wR) (aL wR) .none r9 rh ri rA qG rj),rB⟩)(pE:codeIn K qG "Loom.__init__"=ae)(pF:keepIn K (.ref pj)=ae)(qx:isFn K (.ref pj)=ae)(pG:findIn K (.ref p7) "heads"=ab ai)(pH:findIn K (.ref p7) "takers"=ab ai)(pI:findIn K (.ref p7) "pieces"=ab ai)(pJ:findIn K (.ref p7) "ties"=ab ai)(qy:findIn K (.ref p7) "add_piece"=ab (ab (.ref pk)))(pK:K.lookup pk=ab ⟨rC,rJ,.func (fnOf "add_piece" "Loom.add_piece" (g8 fW) (d7 fW) (aL fW) .none rD rE rG rK qH rH),rL⟩)(pL:codeIn K qH "Loom.add_piece"=ae)(pA:keepIn K (.ref pk)=ae)(qz:isFn K (.ref pk)=ae)(qA:findIn K (.ref p7) "lay"=ab (ab (.ref pq)))(pM:K.lookup pq=ab ⟨rM,rR,.func (fnOf "lay" "Loom.lay" (g8 JL) (d7 JL) (aL JL) .none rN rO rP rS qI rQ),rT⟩)(pN:codeIn K qI "Loom.lay"=ae)(pB:keepIn K (.ref pq)=ae)(qB:isFn K (.ref pq)=ae)(qC:findIn K (.ref p7) "serve"=ab (ab (.ref pw)))(pO:K.lookup pw=ab ⟨rV,t0,.func (fnOf "serve" "Loom.serve" (g8 t_) (d7 t_) (aL t_) .none rW rX rY t6 qJ rZ),t7⟩)(pQ:codeIn K qJ "Loom.serve"=ae)(pC:keepIn K (.ref pw)=ae)(qD:isFn K (.ref pw)=ae) :
  ∃fd:dS,(∀(s:ao)(v:aj),kK s fd ⟨[v],[]⟩ [("script",v)])/\∀base:az,K.In base->base.Ns cb mg->vH l.prog w K mg base CX0 7 fa fd ["script"] (@spD ⟨K⟩ ZV 1):=by
 have e:=hfa.symm.trans (mg_of X G a21);cases e
 letI:KFrag:=⟨K⟩
 have Y:=λ{n:Str}{v:aj}=>mg_of (n:=n) (v:=v) X G
 have Z:=λ{n:Str}=>mg_none_of (n:=n) X G
 obtain⟨f0,_,a0,F0⟩:=a0;obtain⟨f1,_,a1,F1⟩:=a1;obtain⟨f2,_,a2,F2⟩:=a2;obtain⟨f3,_,a3,F3⟩:=a3;obtain⟨f5,_,a5,F5⟩:=a5;obtain⟨f6,_,a6,F6⟩:=a6;obtain⟨f7,_,a7,F7⟩:=a7;obtain⟨f8,_,a8,F8⟩:=a8;obtain⟨f9,_,a9,F9⟩:=a9;obtain⟨f10,_,a10,F10⟩:=a10;obtain⟨f11,_,a11,F11⟩:=a11;obtain⟨f12,_,a12,F12⟩:=a12;obtain⟨f13,_,a13,F13⟩:=a13;obtain⟨f14,_,a14,F14⟩:=a14;obtain⟨f15,_,a15,F15⟩:=a15;obtain⟨f16,_,a16,F16⟩:=a16;obtain⟨f17,_,a17,F17⟩:=a17;obtain⟨f18,_,a18,F18⟩:=a18;obtain⟨f19,_,a19,F19⟩:=a19;obtain⟨f20,_,a20,F20⟩:=a20;have B:Bt mg:=⟨Z pX,Z pY,Z pZ,Z qa,Z qb,Z qc,Z qd,Z qe,Z qf,Z qg,Z qh,Z qi,Z qj,Z qk,Z ql,Z qo,Z qp,Z qr⟩
 refine⟨fnOf "law" "law" (g8 JP) (d7 JP) (aL JP) .none kV21 dc21 pm21 an21 cd21 ct21,λs v=>.of_eq rfl,λbase _ _=>?_⟩;have pf:=JZ (P:=l.prog) (w:=w) (base:=base) rfl B  F0 (Y a0);have pR:=J0 (P:=l.prog) (w:=w) (base:=base) rfl B pf F1 (Y a1);have t8:=zU (P:=l.prog) (w:=w) (base:=base) rfl B pf pR F2 (Y a2);have t9:=zV (P:=l.prog) (w:=w) (base:=base) rfl B pf pR F3 (Y a3);have F4:aRy K "_law_words" "_law_words" cQ f4 _ T4 #[.int 0 tk4]:=⟨⟨_,_,_,_,_,_,_,_,_,rfl,l4,c4⟩,k4,⟨_,_,_,_,t4⟩⟩
 have tf:aRz l.prog w K mg base 2 "_law_words" "least" 6 (.int 0) gB:=⟨⟨f4,_,["script","at","book","known","kind","most","least"],.int 0 tk4,.int 0,CG rfl B pf F4,Y a4,k4,(λs us X' hl=>by obtain⟨_,_,_,_,_,_,_,rfl⟩:=l7 (by simpa using hl);exact vh rfl (X' _ _ t4) rfl rfl rfl),(λs us X' hl=>by obtain⟨_,_,_,_,_,_,rfl⟩:=l6 (by simpa using hl);exact vh rfl (X' _ _ t4) rfl rfl rfl),⟨_,rfl⟩,λ_=>.int 0,λs us y X' hl=>by obtain⟨_,_,_,_,_,_,rfl⟩:=l6 hl;first|exact .of_eq rfl|exact .of_eq 0x5|exact vh rfl (X' _ _ t4) rfl rfl rfl|exact vh rfl (X' _ _ t4) rfl 0x5 0x5⟩⟩
 have tj:=CJ (P:=l.prog) (w:=w) (base:=base) rfl B pf pR tf F5 (Y a5);have tm:=xQ (P:=l.prog) (w:=w) (base:=base) rfl B pf t9 t8 pR tj F6 (Y a6);have tq:=O5 (P:=l.prog) (w:=w) (base:=base) rfl B  F7 (Y a7);have qE:=O6 (P:=l.prog) (w:=w) (base:=base) rfl B  F8 (Y a8);have tw:=O7 (P:=l.prog) (w:=w) (base:=base) rfl B  F9 (Y a9);have cl_Loom:Cls K p7:=⟨pg_Loom,qt,po_Loom,qu⟩
 have q_Loom:aFg l.prog w K mg base 2 "Loom" zP 1:=⟨p7,pj,_,_,p9,Y p9,⟨mk_Loom,qw,qx,qv⟩,aFq rfl B tw cl_Loom (vi.2 ⟨pG,(vi.2 ⟨pH,(vi.2 ⟨pI,(vi.2 ⟨pJ,(List.forall_mem_nil _)⟩)⟩)⟩)⟩) (tL (st:=wR) pD pE pF),((tL (st:=wR) pD pE pF).binds λ_ _ _ _ _ _ us hl=>by obtain⟨_,_,rfl⟩:=l2 hl;rfl)⟩
 have fl_Loom_heads:Z3 K "Loom" "heads":=λC h=>by cases (p9.symm.trans h);exact⟨cl_Loom,pG⟩
 have fl_Loom_takers:Z3 K "Loom" "takers":=λC h=>by cases (p9.symm.trans h);exact⟨cl_Loom,pH⟩
 have fl_Loom_pieces:Z3 K "Loom" "pieces":=λC h=>by cases (p9.symm.trans h);exact⟨cl_Loom,pI⟩
 have fl_Loom_ties:Z3 K "Loom" "ties":=λC h=>by cases (p9.symm.trans h);exact⟨cl_Loom,pJ⟩
 have pb:aHc l.prog w K mg base 1 "Loom" "add_piece" 2 dO:=⟨p7,pk,_,_,p9,cl_Loom,⟨qy,qz,pA⟩,O8 rfl B fl_Loom_pieces (tL (st:=fW) pK pL pA),((tL (st:=fW) pK pL pA).binds λ_ _ _ _ _ _ us hl=>by obtain⟨_,_,rfl⟩:=l2 hl;rfl)⟩
 have pS:aHc l.prog w K mg base 2 "Loom" "lay" 3 ZC:=⟨p7,pq,_,_,p9,cl_Loom,⟨qA,qB,pB⟩,aPc rfl B pb fl_Loom_heads fl_Loom_takers fl_Loom_ties (tL (st:=JL) pM pN pB),((tL (st:=JL) pM pN pB).binds λ_ _ _ _ _ _ us hl=>by obtain⟨_,_,_,rfl⟩:=l3 hl;rfl)⟩
 have pT:aHc l.prog w K mg base 2 "Loom" "serve" 3 vZ:=⟨p7,pw,_,_,p9,cl_Loom,⟨qC,qD,pC⟩,aFr rfl B fl_Loom_ties pb (tL (st:=t_) pO pQ pC),((tL (st:=t_) pO pQ pC).binds λ_ _ _ _ _ _ us hl=>by obtain⟨_,_,_,rfl⟩:=l3 hl;rfl)⟩
 have tx:=CK (P:=l.prog) (w:=w) (base:=base) rfl B qE pS pT fl_Loom_ties fl_Loom_pieces q_Loom F10 (Y a10);have tD:=O9 (P:=l.prog) (w:=w) (base:=base) rfl B tx F11 (Y a11);have tE:=O_ (P:=l.prog) (w:=w) (base:=base) rfl B qE F12 (Y a12);have tF:=PB (P:=l.prog) (w:=w) (base:=base) rfl B qE F13 (Y a13);have tG:=PJ (P:=l.prog) (w:=w) (base:=base) rfl B tq tD tE tF F14 (Y a14);have qK:=CN (P:=l.prog) (w:=w) (base:=base) rfl B  F15 (Y a15);have qL:=CP (P:=l.prog) (w:=w) (base:=base) rfl B  F16 (Y a16);have tH:=PK (P:=l.prog) (w:=w) (base:=base) rfl B qL F17 (Y a17);have tI:=CQ (P:=l.prog) (w:=w) (base:=base) rfl B qL tH F18 (Y a18);have tJ:=zW (P:=l.prog) (w:=w) (base:=base) rfl B  F19 (Y a19);have tK:=CT (P:=l.prog) (w:=w) (base:=base) rfl B qK tI tJ F20 (Y a20);exact aPd rfl B tm tG qK tK (tL (st:=JP) l21 c21 k21)
theorem walk{l:OpenLaw}{q:b5}{loose:aa Str}{XP:(Str->ar aj)->az->Prop}{YP:br->az->Prop}{d:DefRec}{K:Params->Frag}(main:∀ns:aa ag,ns.length<=63->ZV [.scr (ns.map ε)]=.ok (.bl ae))(hn:l.most=ab 63)(hdf:d.params.defaults=[])
 (hY:∀(w:br) (h:az),YP w h->(K w.params).In h)
 (F:∀(w:br) (mg:Str->ar aj) (fa:ak) (h:az),(K w.params).In h->h.Ns cb mg->mg d.name=ab (.ref fa)->
   ∃fd:dS,(∀(s:ao) (u:aj),kK s fd ⟨[u],[]⟩ [("script",u)])/\∀base:az,(K w.params).In base->base.Ns cb mg->vH l.prog w (K w.params) mg base CX0 7 fa fd ["script"] (@spD ⟨K w.params⟩ ZV 1)) :
  WalkO q loose XP YP l.row.toRowW d [] (λf vs=>xL f vs):=
 L2.aIv (n:=63) (k:=7) (x:= "script") (CX:=λ_=>CX0) (sp:=λw=>@spD ⟨K w.params⟩ ZV 1) hn 0x4 hdf ⟨rfl,by decide,by decide⟩ hY F (λw H a ns hl hO hS=>aBi main hl hO hS) λ_ _ _ _ _ z=>z
end Lk63
end
namespace Lk63
open PySem L2 Mi
local macro_rules|`(0xe)=>`(aD rfl (aD rfl rfl))|`(0xf)=>`(aD rfl rfl)
theorem call_v(h:f (ds++bq (m-n) D.uD)=.ok (.rt d)):fnS n m f ds=.ok d:=by
 unfold fnS;rw[h];rfl
theorem aCi(h:f ρ=.ok (.rt d)):bN f g ρ=.ok (.rt d):=by
 unfold bN;rw[h];rfl
theorem aCj(a:ag)(h1:0<=a)(h2:a<4294967296):lN a=ae:=by
 simp only[lN,aI,dL];lia
theorem aSr(n:af):max2 [.int 1,.int n]=.ok (.int (if (1:ag)<n then n else 1)):=by
 rfl
def drw(ns:aa ag)(k:ag):ag:=match aQ [.scr (ns.map ε),.int k] with
 |.ok (.int r)=>r
 |_=>0
theorem aL2(ns:aa ag)(hn:ns.length<=63)(k:ag):∃r:ag,aQ [.scr (ns.map ε),.int k]=.ok (.int r)/\0<=r/\r<2147483629:=by
 have hl:eQ [.scr (ns.map ε)]=.ok (.int ns.length):=by
  show ι (ε ((ns.map ε).length:ag))=_;rw[aw]
 have rest:∀cell:ag,∃r:ag,(bN (cR ah 3 (b2 (bI .mod) (b2 vD (b2 (bI .add) (b2 (bI .add) fB cF) (b2 vD yQ (b2 (bI .fdiv) fG (aN max2 (aC cF (aC (aN eQ (aC cA aO)) aO)))))) G4) jG) ae) (nR (b2 (bI .mod) (b2 vD d9 d9) mY) ae)) [.scr (ns.map ε),.int k,.int cell,.uD]=.ok (.rt (.int r))/\0<=r/\r<2147483629:=by
  intro cell;have hmx:=aSr ns.length;have hm:(0:ag)<(if (1:ag)<ns.length then (ns.length:ag) else 1)/\(if (1:ag)<ns.length then (ns.length:ag) else 1)<1073741824:=by split<;>lia
  generalize (if (1:ag)<ns.length then (ns.length:ag) else 1)=m at hmx hm;have f1:=fV k m hm.1 hm.2;have f2:=vP 104729 (k / m) 0x4;have f3:=cZ cell 1;have f4:=cZ (cell+1) (104729*(k / m));have f5:=aH0 (cell+1+104729*(k / m)) 48271 0x4;have f6:=dH ((cell+1+104729*(k / m))*48271) 2147483647 0x4;have x0:0<=(cell+1+104729*(k / m))*48271 % 2147483647:=eJ _ 0x4;have x1:(cell+1+104729*(k / m))*48271 % 2147483647<2147483647:=ff _ 0x4;generalize (cell+1+104729*(k / m))*48271 % 2147483647=x at f6 x0 x1;have f7:=aH0 x x (aCj x x0 0x1);have f8:=dH (x*x) 2147483629 0x4;refine⟨x*x % 2147483629,?_,eJ _ 0x4,ff _ 0x4⟩;refine aM (b7 (aJ (aJ (aJ (aJ rfl rfl f3) (aJ rfl (aJ rfl (aU (aD rfl (aD (aU 0xf hl) rfl)) hmx) f1) f2) f4) rfl f5) rfl f6)) ?_;exact kW (aJ (aJ rfl rfl f7) rfl f8) rfl
 have fin:∀cell:ag,zO [.scr (ns.map ε),.int k,.uD,.uD]=(bN (cR ah 3 (b2 (bI .mod) (b2 vD (b2 (bI .add) (b2 (bI .add) fB cF) (b2 vD yQ (b2 (bI .fdiv) fG (aN max2 (aC cF (aC (aN eQ (aC cA aO)) aO)))))) G4) jG) ae) (nR (b2 (bI .mod) (b2 vD d9 d9) mY) ae)) [.scr (ns.map ε),.int k,.int cell,.uD]->∃r:ag,aQ [.scr (ns.map ε),.int k]=.ok (.int r)/\0<=r/\r<2147483629:=λcell e=>by
  obtain⟨r,h1,h2⟩:=rest cell;exact⟨r,call_v (e.trans h1),h2⟩
 by_cases h0:(ns.length:ag) > 0
 ·have hc:cT (.ord .gt) (.int ns.length) (.int 0)=.ok (.bl ae):=by
   show ι (υ (ϒ (0<(ns.length:ag))))=_;rw[bh h0]
  have m1:=dH k ns.length h0;have i0:0<=k % (ns.length:ag):=eJ _ 0x1;have i1:k % (ns.length:ag)<ns.length:=ff _ h0;generalize k % (ns.length:ag)=i at m1 i0 i1;have hlt:i.toNat<(ns.map ε).length:=by rw[aw];lia
  have hg:getD (.scr (ns.map ε)) (.int i)=.ok (.int (ns[i.toNat]' 0x1)):=by
   show ν ((ixD (ns.map ε).length i).bind λj=>(ns.map ε)[j]?)=_;unfold ixD;rw[al i0,al (by rw[aw];exact i1)];simp only[ow];rw[d5 hlt,zx];rfl
  have m2:=dH (ns[i.toNat]' 0x1) 2147483647 0x4;refine fin _ (aM (b7 rfl) (aM (V4 (dG (aJ (aU 0xf hl) rfl hc)) (b7 (aJ (aJ rfl (aJ rfl (aU 0xf hl) m1) hg) rfl m2))) rfl))
 ·have hc:cT (.ord .gt) (.int ns.length) (.int 0)=.ok (.bl ah):=by
   show ι (υ (ϒ (0<(ns.length:ag))))=_;rw[cw h0]
  exact fin 0 (aM (b7 rfl) (aM (oK (dG (aJ (aU 0xf hl) rfl hc)) rfl) rfl))
theorem oV(hn:ns.length<=63)(k:ag):cP 2 aQ [.scr (ns.map ε),.int k]=.ok (.int (drw ns k))/\0<=drw ns k/\drw ns k<2147483629:=by
 obtain⟨r,h1,h2⟩:=aL2 ns hn k;have e:drw ns k=r:=by
  unfold drw;rw[h1]
 rw[e];exact⟨(eY rfl).trans h1,h2⟩
noncomputable def abc:Str:= "abcdefghijklmnopqrstuvwxyz"
theorem aCk(x:Str)(n:af)(hx:x.cps.toList.length=n)(hl:x.length<=lim)(i:ag)(h0:0<=i)(h1:i<n):getD (.str x) (.int i)=.ok (.str ⟨#[x.cps.toList.getD i.toNat 0]⟩):=by
 have hix:ixD x.cps.toList.length i=ab i.toNat:=by
  unfold ixD;rw[al h0,hx,al 0x1]
 have hlt:i.toNat<x.cps.toList.length:=by rw[hx];lia
 show(if ϒ (x.length<=lim) then ν (((ixD x.cps.toList.length i).bind λj=>x.cps.toList[j]?).map λc=>δ ⟨#[c]⟩) else .bad)=_;rw[bh hl,al rfl,hix];simp only[ow];rw[b9,d5 hlt];rfl
theorem aCl(i:ag)(h0:0<=i)(h1:i<26):getD (.str abc) (.int i)=.ok (.str ⟨#[abc.cps.toList.getD i.toNat 0]⟩):=aCk abc 26 0x6 0x6 i h0 h1
theorem aL3(i:ag)(h0:0<=i)(h1:i<4):getD (.str "abdz") (.int i)=.ok (.str ⟨#[("abdz" : Str).cps.toList.getD i.toNat 0]⟩):=aCk "abdz" 4 0x6 0x6 i h0 h1
noncomputable def one(c:af):Str:=⟨#[c]⟩
theorem PL(c:af)(n:af):(lf (one c) (n:ag)).cps.toList=bq n c:=by
 unfold lf;by_cases h:(n:ag)<1
 ·have:n=0:=by lia
  subst this;rw[al h];rfl
 ·rw[au h];by_cases h1:n=1
  ·subst h1;rfl
  ·rw[au]
   ·have:∀(m:af)(acc:ax af),((bq m (one c).cps).foldl (·++·) acc).toList=acc.toList++bq m c:=by
     intro m;induction m with
     |zero=>intro acc;simp
     |succ m ih=>
      intro acc;rw[uS,List.foldl_cons,ih,uS];simp[one]
    have:=this n #[];simpa using this
   ·have:(one c).length=1:=rfl;rw[this];simp;lia
theorem WQ{p q r t:af}(h1:p≠q)(h2:p≠r)(h3:p≠t)(h4:q≠r)(h5:q≠t)(h6:r≠t):bq a c++d::bq b c≠[p,q,r,t]:=by
 intro h;have hl:=cy me h;simp at hl;have:(a=0/\b=3)\/(a=1/\b=2)\/(a=2/\b=1)\/(a=3/\b=0):=by lia
 rcases this with ⟨rfl,rfl⟩|⟨rfl,rfl⟩|⟨rfl,rfl⟩|⟨rfl,rfl⟩<;>(simp[bq] at h;lia)
theorem WR{p q r t u:af}(h1:p≠q)(h2:p≠r)(h4:q≠r):bq a c++d::bq b c≠[p,q,r,t,u]\/(p=t\/q=t\/r=t):=by
 by_cases z:p=t\/q=t\/r=t
 ·exact .inr z
 refine .inl λh=>?_
 have hl:=cy me h;simp at hl;have:(a=0/\b=4)\/(a=1/\b=3)\/(a=2/\b=2)\/(a=3/\b=1)\/(a=4/\b=0):=by lia
 rcases this with ⟨rfl,rfl⟩|⟨rfl,rfl⟩|⟨rfl,rfl⟩|⟨rfl,rfl⟩|⟨rfl,rfl⟩<;>(simp[bq] at h;lia)
theorem aFs:∀k,k<26->abc.cps.toList.getD k 0=97+k:=0x6
theorem iU:(2:af)<=lim:=by rw[bR];lia
theorem aMj:(3:af)<=lim:=by rw[bR];lia
theorem tR(h:a ρ=.ok xs)(hl:xs.length<=lim):BR a ρ=.ok (.lst xs):=by
 unfold BR;rw[h,τ,al (bh hl)];rfl
theorem nG(h:a ρ=.ok xs)(hl:xs.length<=lim)(hp:θ xs=ae):oN a ρ=.ok (.lst xs):=by
 unfold oN;rw[h,τ,al (by rw[bh hl,hp];rfl)];rfl
theorem J1(a b:D)(i:ag)(h0:0<=i)(h1:i<2):getD (.lst [a,b]) (.int i)=.ok (if i=0 then a else b):=by
 have:i=0\/i=1:=by lia
 rcases this with rfl|rfl
 ·rfl
 ·rfl
theorem aTd(c:af)(n:ag)(h0:0<=n)(h1:n<=100):vD (.str (one c)) (.int n)=.ok (.str (lf (one c) n)):=by
 show(if ϒ (0<=n)&&ϒ (n<=100000)&&ϒ ((one c).length*n.toNat<=lim) then ι (δ (lf (one c) n)) else .bad)=_;rw[al];have:(one c).length=1:=rfl;rw[this,bh h0,bh 0x1,bh (by rw[bR];lia)];rfl
theorem zX(a b:Str):(a++b).cps.toList=a.cps.toList++b.cps.toList:=by
 show(a.cps++b.cps).toList=_;exact Array.toList_append
theorem J2(a:Str):a.length=a.cps.toList.length:=by
 show a.cps.size=_;rw[lS]
def wrd(ns:aa ag)(i:ag):Str:=match a_ [.scr (ns.map ε),.int i] with
 |.ok (.str x)=>x
 |_=>""
def Good(x:Str):Prop:=x ≠ "copy"/\x ≠ "drop"/\x.length<=100
theorem sE:("copy" : Str).cps.toList=[99,111,112,121]:=0x6
theorem sG:("drop" : Str).cps.toList=[100,114,111,112]:=0x6
theorem five(x:Str)(h:x.cps.toList.length=5):Good x:=by
 refine⟨λz=>?_,λz=>?_,by rw[J2,h];lia⟩
 ·rw[z,sE] at h;cases h
 ·rw[z,sG] at h;cases h
def Z5(ns:aa ag):af:=if drw ns 0 / 104 % 2=0 then abc.cps.toList.getD (drw ns 0 % 26).toNat 0 else ("abdz" : Str).cps.toList.getD (drw ns 0 / 26 % 4).toNat 0
def Sh(ns:aa ag)(i:ag)(x:Str):Prop:=(i=4/\∃c,x.cps.toList=[100,114,111,112,c])\/(i=17/\∃c,x.cps.toList=[99,111,112,121,c])\/∃t,x.cps.toList=bq (drw ns 1 % 8).toNat (Z5 ns)++(97+((i+drw ns 3) % 26).toNat)::bq t (Z5 ns)
theorem aL4(hn:ns.length<=63)(i:ag)(hi0:0<=i)(hi1:i<=33):∃x:Str,a_ [.scr (ns.map ε),.int i]=.ok (.str x)/\Good x/\Sh ns i x:=by
 -- a draw,put down as an argument
 have dr:∀{ρ:aa D}{f:FE}{k:ag},gM 0 ρ=.ok (.scr (ns.map ε))->f ρ=.ok (.int k)->aN (cP 2 aQ) (aC cA (aC f aO)) ρ=.ok (.int (drw ns k)):=λh1 h2=>aU (aD h1 (aD h2 rfl)) (oV hn _).1
 have d0:=λk=>(oV hn k).2.1
 have d1:=λk=>(oV hn k).2.2
 have hin:inX (.int i) (.tup [.int 4,.int 17])=.ok (.bl ((4==i)||((17==i)||false))):=rfl;have ht:cM (aC J_ (aC K9 aO)) [.scr (ns.map ε),.int i,.str abc,.uD,.uD,.uD,.uD]=.ok (.tup [.int 4,.int 17]):=bK 0xe iU;have m5:=dH (drw ns 36) 5 0x4;have ce:cT .eq (.int (drw ns 36 % 5)) (.int 1)=.ok (.bl (drw ns 36 % 5==1)):=rfl;by_cases hs:(i=4\/i=17)/\drw ns 36 % 5=1
 ·-- drop or copy and a letter
  have b1:((4==i)||((17==i)||false))=ae:=by
   rcases hs.1 with h|h<;>simp[h]
  rw[b1] at hin;rw[show(drw ns 36 % 5==1)=ae by simpa using hs.2] at ce;have f17:=fV i 17 0x4 0x4;have q0:0<=i / 17/\i / 17<2:=by rcases hs.1 with h|h<;>(rw[h];decide)
  have g1:=J1 (.str "drop") (.str "copy") (i / 17) q0.1 q0.2;have m26:=dH (drw ns 37) 26 0x4;have g2:=aCl (drw ns 37 % 26) (eJ _ 0x4) (ff _ 0x4);generalize abc.cps.toList.getD (drw ns 37 % 26).toNat 0=c at g2;obtain⟨w,hw,sw,g1'⟩:∃w:Str,w.cps.toList.length=4/\((i=4/\w.cps.toList=[100,114,111,112])\/(i=17/\w.cps.toList=[99,111,112,121]))/\getD (.lst [.str "drop",.str "copy"]) (.int (i / 17))=.ok (.str w):=by
   rcases hs.1 with z|z
   ·rw[al (by rw[z];rfl)] at g1;exact⟨"drop",by rw[sG];rfl,.inl ⟨z,sG⟩,g1⟩
   ·rw[au (by rw[z];decide)] at g1;exact⟨"copy",by rw[sE];rfl,.inr ⟨z,sE⟩,g1⟩
  have g2:getD (.str abc) (.int (drw ns 37 % 26))=.ok (.str (one c)):=g2;have g3:=R0 w (one c) (by rw[J2,hw,bR];show 4+1<=1000000;lia);refine⟨w++(one c),call_v ?_,five _ (by rw[zX,bg,hw];rfl),?_⟩
  rotate_left
  ·rcases sw with ⟨z,e⟩|⟨z,e⟩
   ·exact .inl ⟨z,c,by rw[zX,e];rfl⟩
   ·exact .inr (.inl ⟨z,c,by rw[zX,e];rfl⟩)
  refine aM (b7 rfl) ?_;refine aCi (V4 (aBl (dG (aJ rfl ht hin)) (dG (aJ (aJ (dr rfl rfl) rfl m5) rfl ce))) ?_);show nR (b2 (bI .add) (b2 getD (BR (aC (bC (.str "drop")) (aC (bC (.str "copy")) aO))) (b2 (bI .fdiv) fG K9)) (b2 getD fB (b2 (bI .mod) (aN (cP 2 aQ) (aC cA (aC aIy aO))) K_))) ae [.scr (ns.map ε),.int i,.str abc,.uD,.uD,.uD,.uD]=.ok (.rt (.str (w++(one c))));exact kW (aJ (aJ (tR 0xe iU) (aJ rfl rfl f17) g1') (aJ rfl (aJ (dr rfl rfl) rfl m26) g2) g3) rfl
 ·-- a word of one sign but one
  have hif:(sIf (aDt (bTB (b2 inX fG (cM (aC J_ (aC K9 aO))))) (bTB (b2 (cT .eq) (b2 (bI .mod) (aN (cP 2 aQ) (aC cA (aC (bC (.int 36)) aO))) aGq) cF))) (nR (b2 (bI .add) (b2 getD (BR (aC (bC (.str "drop")) (aC (bC (.str "copy")) aO))) (b2 (bI .fdiv) fG K9)) (b2 getD fB (b2 (bI .mod) (aN (cP 2 aQ) (aC cA (aC aIy aO))) K_))) ae) uF) [.scr (ns.map ε),.int i,.str abc,.uD,.uD,.uD,.uD]=.ok (.nx [.scr (ns.map ε),.int i,.str abc,.uD,.uD,.uD,.uD]):=by
   by_cases h1:i=4\/i=17
   ·have b1:((4==i)||((17==i)||false))=ae:=by rcases h1 with h|h<;>simp[h]
    have h2:¬drw ns 36 % 5=1:=λz=>hs ⟨h1,z⟩
    rw[b1] at hin;rw[show(drw ns 36 % 5==1)=ah by simpa using h2] at ce;exact oK (aBl (dG (aJ rfl ht hin)) (dG (aJ (aJ (dr rfl rfl) rfl m5) rfl ce))) rfl
   ·have b1:((4==i)||((17==i)||false))=ah:=by
     rw[gw] at h1;simp only[xy,zy,fI,ne_eq];lia
    rw[b1] at hin;exact oK (aJj (dG (aJ rfl ht hin))) rfl
  have a26:=dH (drw ns 0) 26 0x4;have b26:=fV (drw ns 0) 26 0x4 0x4;have b4:=dH (drw ns 0 / 26) 4 0x4;have c104:=fV (drw ns 0) 104 0x4 0x4;have c2:=dH (drw ns 0 / 104) 2 0x4;have g1:=aCl (drw ns 0 % 26) (eJ _ 0x4) (ff _ 0x4);have g2:=aL3 (drw ns 0 / 26 % 4) (eJ _ 0x4) (ff _ 0x4);have hpd:Z5 ns=if drw ns 0 / 104 % 2=0 then abc.cps.toList.getD (drw ns 0 % 26).toNat 0 else ("abdz" : Str).cps.toList.getD (drw ns 0 / 26 % 4).toNat 0:=rfl
  generalize abc.cps.toList.getD (drw ns 0 % 26).toNat 0=p1 at g1 hpd;generalize ("abdz" : Str).cps.toList.getD (drw ns 0 / 26 % 4).toNat 0=p2 at g2 hpd;have g3:getD (.lst [.str ⟨#[p1]⟩,.str ⟨#[p2]⟩]) (.int (drw ns 0 / 104 % 2))=.ok (.str (one (Z5 ns))):=by
   have:=J1 (.str ⟨#[p1]⟩) (.str ⟨#[p2]⟩) (drw ns 0 / 104 % 2) (eJ _ 0x4) (ff _ 0x4);rw[this,hpd];by_cases z:drw ns 0 / 104 % 2=0
   ·rw[al z,al z];rfl
   ·rw[au z,au z];rfl
  have hsh:∀(x:Str)(t:af),x.cps.toList=bq (drw ns 1 % 8).toNat (Z5 ns)++(97+((i+drw ns 3) % 26).toNat)::bq t (Z5 ns)->Sh ns i x:=λx t e=>.inr (.inr ⟨t,e⟩)
  generalize Z5 ns=pd at g3 hsh;have e8:=dH (drw ns 1) 8 0x4;have pl0:0<=drw ns 1 % 8:=eJ _ 0x4;have pl1:drw ns 1 % 8<8:=ff _ 0x4;generalize hpl:drw ns 1 % 8=pl at e8 pl0 pl1 hsh;have s8:=aGz 8 pl;have t1:=dH (drw ns 2) (8-pl) 0x1;have t2:=dH (drw ns (4+i)) (8-pl) 0x1;have f8:=fV (drw ns 1) 8 0x4 0x4;have f2:=dH (drw ns 1 / 8) 2 0x4;have ce2:cT .eq (.int (drw ns 1 / 8 % 2)) (.int 1)=.ok (.bl (drw ns 1 / 8 % 2==1)):=rfl;have l1:=cZ i (drw ns 3);have l2:=dH (i+drw ns 3) 26 0x4;have k0:0<=(i+drw ns 3) % 26:=eJ _ 0x4;have k1:(i+drw ns 3) % 26<26:=ff _ 0x4;have g4:=aCl ((i+drw ns 3) % 26) k0 k1;rw[aFs _ 0x1] at g4;generalize 97+((i+drw ns 3) % 26).toNat=c at g4 hsh
  -- the tail
  obtain⟨tl,tl0,tl1,htl⟩:∃tl:ag,0<=tl/\tl<8/\(bN (cR ah 6 (b2 (bI .mod) (aN (cP 2 aQ) (aC cA (aC gP aO))) (b2 (bI .sub) aEf dZ)) ae) (sIf (bTB (b2 (cT .eq) (b2 (bI .mod) (b2 (bI .fdiv) (aN (cP 2 aQ) (aC cA (aC cF aO))) aEf) gP) cF)) (cR ah 6 (b2 (bI .mod) (aN (cP 2 aQ) (aC cA (aC (b2 (bI .add) J_ fG) aO))) (b2 (bI .sub) aEf dZ)) ae) uF)) [.scr (ns.map ε),.int i,.str abc,.int (drw ns 0),.str (one pd),.int pl,.uD]=.ok (.nx [.scr (ns.map ε),.int i,.str abc,.int (drw ns 0),.str (one pd),.int pl,.int tl]):=by
   have first:(cR ah 6 (b2 (bI .mod) (aN (cP 2 aQ) (aC cA (aC gP aO))) (b2 (bI .sub) aEf dZ)) ae) [.scr (ns.map ε),.int i,.str abc,.int (drw ns 0),.str (one pd),.int pl,.uD]=.ok (.nx [.scr (ns.map ε),.int i,.str abc,.int (drw ns 0),.str (one pd),.int pl,.int (drw ns 2 % (8-pl))]):=b7 (aJ (dr rfl rfl) (aJ rfl rfl s8) t1)
   have tst:bTB (b2 (cT .eq) (b2 (bI .mod) (b2 (bI .fdiv) (aN (cP 2 aQ) (aC cA (aC cF aO))) aEf) gP) cF) [.scr (ns.map ε),.int i,.str abc,.int (drw ns 0),.str (one pd),.int pl,.int (drw ns 2 % (8-pl))]=.ok (drw ns 1 / 8 % 2==1):=dG (aJ (aJ (aJ (dr rfl rfl) rfl f8) rfl f2) rfl ce2);have u0:0<=drw ns 2 % (8-pl):=eJ _ 0x1;have u1:drw ns 2 % (8-pl)<8-pl:=ff _ 0x1;have v0:0<=drw ns (4+i) % (8-pl):=eJ _ 0x1;have v1:drw ns (4+i) % (8-pl)<8-pl:=ff _ 0x1;cases hb:(drw ns 1 / 8 % 2==1) with
   |true=>
    rw[hb] at tst;exact⟨_,v0,by lia,aM first (V4 tst (b7 (aJ (dr rfl (aJ rfl rfl (cZ 4 i))) (aJ rfl rfl s8) t2)))⟩
   |false=>
    rw[hb] at tst;exact⟨_,u0,by lia,aM first (oK tst rfl)⟩
  have mp:=aTd pd pl pl0 0x1;have mt:=aTd pd tl tl0 0x1;have cp:=PL pd pl.toNat;have ct:=PL pd tl.toNat;rw[show((pl.toNat:af):ag)=pl by lia] at cp;rw[show((tl.toNat:af):ag)=tl by lia] at ct;generalize lf (one pd) pl=xp at mp cp;generalize lf (one pd) tl=xt at mt ct;have lp:xp.length<=8:=by rw[J2,cp,nL];lia
  have lt:xt.length<=8:=by rw[J2,ct,nL];lia
  have a1:=R0 xp ⟨#[c]⟩ (by rw[bR];show xp.length+1<=1000000;lia);have l9:(xp++⟨#[c]⟩:Str).length=xp.length+1:=str_len xp ⟨#[c]⟩;have a2:=R0 (xp++⟨#[c]⟩) xt (by rw[l9,bR];lia);have codes:(xp++⟨#[c]⟩++xt:Str).cps.toList=bq pl.toNat pd++c::bq tl.toNat pd:=by
   rw[zX,zX,cp,ct,dt];rfl
  refine⟨xp++⟨#[c]⟩++xt,call_v ?_,⟨λz=>?_,λz=>?_,by rw[str_len,l9];lia⟩,hsh _ _ codes⟩
  ·refine aM (b7 rfl) ?_;refine aM hif ?_;refine aM (b7 (dr rfl rfl)) ?_;refine aM (eZ (aJ (tR (aD (aJ rfl (aJ rfl rfl a26) g1) (aD (aJ rfl (aJ (aJ rfl rfl b26) rfl b4) g2) rfl)) iU) (aJ (aJ rfl rfl c104) rfl c2) g3) rfl) ?_;refine aM (b7 (aJ (dr rfl rfl) rfl e8)) ?_;have split:∀{f g h:FS}{ρ ρ':aa D}{r:Res Fl},bN f g ρ=.ok (.nx ρ')->h ρ'=r->bN f (bN g h) ρ=r:=by
    intro f g h ρ ρ' r e1 e2;unfold bN at e1 ⊢;cases hf:f ρ with
    |bad=>rw[hf] at e1;cases e1
    |err c as=>rw[hf] at e1;cases e1
    |ok fl=>
     rw[hf] at e1;cases fl with
     |nx ρ1=>
      simp only[τ] at e1 ⊢;rw[e1];exact e2
     |rt d=>cases e1
     |bk d=>cases e1
     |ct d=>cases e1
   refine split htl ?_;exact kW (aJ (aJ (aJ rfl rfl mp) (aJ rfl (aJ (aJ rfl (dr rfl rfl) l1) rfl l2) g4) a1) (aJ rfl rfl mt) a2) rfl
  ·have:(xp++⟨#[c]⟩++xt:Str).cps.toList=_:=cy (λx:Str=>x.cps.toList) z;rw[codes,sE] at this;exact WQ 0x4 0x4 0x4 0x4 0x4 0x4 this
  ·have:(xp++⟨#[c]⟩++xt:Str).cps.toList=_:=cy (λx:Str=>x.cps.toList) z;rw[codes,sG] at this;exact WQ 0x4 0x4 0x4 0x4 0x4 0x4 this
theorem xW(hn:ns.length<=63)(hi0:0<=i)(hi1:i<=33):cP 2 a_ [.scr (ns.map ε),.int i]=.ok (.str (wrd ns i))/\Good (wrd ns i)/\Sh ns i (wrd ns i):=by
 obtain⟨x,h1,h2⟩:=aL4 hn i hi0 hi1;have e:wrd ns i=x:=by
  unfold wrd;rw[h1]
 rw[e];exact⟨(eY rfl).trans h1,h2⟩
theorem oW(hn:ns.length<=63)(hi0:0<=i)(hi1:i<=33):cP 2 a_ [.scr (ns.map ε),.int i]=.ok (.str (wrd ns i))/\Good (wrd ns i):=⟨(xW hn hi0 hi1).1,(xW hn hi0 hi1).2.1⟩
theorem v8(hn:ns.length<=63)(hi0:0<=i)(hi1:i<=25)(hj0:0<=j)(hj1:j<=25)(h:wrd ns i=wrd ns j):i=j:=by
 have si:=(xW hn hi0 0x1).2.2;have sj:=(xW hn hj0 0x1).2.2;rw[h] at si;have bad:∀{a b:af}{e u:af},(bq a (Z5 ns)++e::bq b (Z5 ns)=[100,114,111,112,u]->ck)/\(bq a (Z5 ns)++e::bq b (Z5 ns)=[99,111,112,121,u]->ck):=by
  intro a b e u;refine⟨λz=>?_,λz=>?_⟩
  ·rcases WR (p:=100) (q:=114) (r:=111) (t:=112) (u:=u) 0x4 0x4 0x4 with q|q
   ·exact q z
   ·lia
  ·rcases WR (c:=Z5 ns) (d:=e) (a:=a) (b:=b) (p:=99) (q:=111) (r:=112) (t:=121) (u:=u) 0x4 0x4 0x4 with q|q
   ·exact q z
   ·lia
 rcases si with ⟨a1,c1,e1⟩|⟨a1,c1,e1⟩|⟨t1,e1⟩<;>rcases sj with ⟨a2,c2,e2⟩|⟨a2,c2,e2⟩|⟨t2,e2⟩<;>rw[e1] at e2
 ·lia
 ·cases e2
 ·exact(bad.1 e2.symm).elim
 ·cases e2
 ·lia
 ·exact(bad.2 e2.symm).elim
 ·exact(bad.1 e2).elim
 ·exact(bad.2 e2).elim
 ·have:=List.append_cancel_left e2;injection this with q _
  have m1:=eJ (i+drw ns 3) (show(26:ag)≠0 by decide);have m2:=eJ (j+drw ns 3) (show(26:ag)≠0 by decide);lia
noncomputable abbrev Mk:=Str×Str×aa Str
noncomputable def mkD(m:Mk):D:=.tup [.str m.1,.str m.2.1,.tup (m.2.2.map δ)]
noncomputable abbrev Tk:=Str×Str×Str×aa Str
noncomputable def tkD(t:Tk):D:=.tup [.str t.1,.str t.2.1,.str t.2.2.1,.tup (t.2.2.2.map δ)]
theorem bJ:∀L:aa Str,θ (L.map δ)=ae
 |[]=>rfl
 |x::L=>by
  show((δ x).pure&&θ (L.map δ))=ae;rw[bJ L];rfl
theorem j5(m:Mk):(mkD m).pure=ae:=by
 show(ae&&(ae&&((ξ (m.2.2.map δ)).pure&&ae)))=ae;rw[μ,bJ];rfl
theorem nH(m:Tk):(tkD m).pure=ae:=by
 show(ae&&(ae&&(ae&&((ξ (m.2.2.2.map δ)).pure&&ae))))=ae;rw[μ,bJ];rfl
theorem aP{f:α->D}(h:∀a,(f a).pure=ae):∀L:aa α,θ (L.map f)=ae
 |[]=>rfl
 |x::L=>by
  show((f x).pure&&θ (L.map f))=ae;rw[h,aP h L];rfl
def IsK(ns:aa ag)(Ω:ag)(x:Str):Prop:=∃j:ag,0<=j/\j<Ω/\x=wrd ns j
theorem PN(g:aa D->D->Res (aa D))(d:α->D)(P:α->Prop):∀(xs acc:aa D),(∀x∈xs,∀acc,∃ys:aa α,(∀y∈ys,P y)/\ys.length<=1/\g acc x=.ok (acc++ys.map d))->∃zs:aa α,(∀z∈zs,P z)/\zs.length<=xs.length/\fK g acc xs=.ok (acc++zs.map d)
 |[],acc,_=>⟨[],λ_ h=>(by cases h),aT _,(by simp[fK])⟩
 |x::xs,acc,h=>by
  obtain⟨ys,h1,h2,h3⟩:=h x (bj ..) acc;obtain⟨zs,i1,i2,i3⟩:=PN g d P xs (acc++ys.map d) λy hy=>h y (bp _ hy)
  refine⟨ys++zs,λz hz=>?_,by rw[bg,aS];lia,?_⟩
  ·rcases dQ.mp hz with hz|hz
   ·exact h1 z hz
   ·exact i1 z hz
  ·rw[fK,h3];show fK g _ _=_;rw[i3,b6,dt]
theorem v_(g:aa D->D->Res (aa D))(d:α->D)(P:α->Prop):∀(xs acc:aa D),(∀x∈xs,∀acc,∃y:α,P y/\g acc x=.ok (acc++[d y]))->∃zs:aa α,(∀z∈zs,P z)/\zs.length=xs.length/\fK g acc xs=.ok (acc++zs.map d)
 |[],acc,_=>⟨[],λ_ h=>(by cases h),rfl,(by simp[fK])⟩
 |x::xs,acc,h=>by
  obtain⟨y,h1,h3⟩:=h x (bj ..) acc;obtain⟨zs,i1,i2,i3⟩:=v_ g d P xs (acc++[d y]) λy hy=>h y (bp _ hy)
  refine⟨y::zs,λz hz=>?_,by rw[aS,aS,i2],?_⟩
  ·rcases bu.mp hz with rfl|hz
   ·exact h1
   ·exact i1 z hz
  ·rw[fK,h3];show fK g _ _=_;rw[i3,dt];rfl
theorem d8(hρ:ρ.length=n)(ht:t x=.ok bs)(h1:c (ρ++bs)=.ok b)(h2:b=ae->f (ρ++bs)=.ok y/\(k||y.pure)=ae):iI n t c f k ρ acc x=.ok (if b then acc++[y] else acc):=by
 unfold iI;rw[ht,τ,M4 hρ,h1,τ];cases b with
 |false=>rfl
 |true=>
  obtain⟨h3,h4⟩:=h2 rfl;simp only[eI,h3,τ,h4];rfl
theorem GD(hn:ns.length<=63)(hm:0<Ω)(hm3:Ω<=3)(hρ:ρ.length=n)(h0:∀x:D,gM 0 (ρ++[x])=.ok (.scr (ns.map ε)))(hg:g ρ=.ok [.int sz])(hs0:0<=sz)(hs1:sz<=3)
 (hf:∀p:ag,0<=p->p<=3->∃j:ag,0<=j/\j<Ω/\f (ρ++[.int p])=.ok (.int j)) :
  ∃xs:aa Str,(∀x∈xs,IsK ns Ω x)/\(xs.length<=3/\xs.length=sz.toNat)/\aN kE (aC (e_ n (jK g tW) jL eU (aN (cP 2 a_) (aC cA (aC f aO))) ae) aO) ρ=.ok (.tup (xs.map δ)):=by
 obtain⟨xs,h1,h2,h3⟩:=v_ (iI n jL eU (aN (cP 2 a_) (aC cA (aC f aO))) ae ρ) δ (IsK ns Ω) ((bm sz.toNat).map λ(k:af)=>ε (0+(k:ag))) [] (λx hx acc=>by
  obtain⟨k,hk,rfl⟩:=bE.mp hx;have hk:=fx.mp hk;obtain⟨j,j0,j1,e⟩:=hf (0+(k:ag)) 0x1 0x1;have w:=(oW hn j0 (show j<=33 by lia)).1;refine⟨wrd ns j,⟨j,j0,j1,rfl⟩,?_⟩
  ·exact d8 (b:=ae) hρ rfl rfl λ_=>⟨aU (aD (h0 _) (aD e rfl)) w,rfl⟩)
 rw[c6] at h3;rw[aw,eg] at h2;exact⟨xs,h1,⟨by lia,h2⟩,aU (aD (fC (wK hg hs0 0x1) (by rw[aw,eg,bR];lia) h3) rfl) rfl⟩
def PP(ns:aa ag)(Ω:ag)(m:Mk):Prop:=Good m.1/\m.2.2.length<=3/\∀p∈m.2.2,IsK ns Ω p
theorem uZ(hn:ns.length<=63)(h1:gM 0 ρ=.ok (.scr (ns.map ε)))(h2:f ρ=.ok (.int k)):aN (cP 2 aQ) (aC cA (aC f aO)) ρ=.ok (.int (drw ns k)):=aU (aD h1 (aD h2 rfl)) (oV hn _).1
theorem wZ(hn:ns.length<=63)(h1:gM 0 ρ=.ok (.scr (ns.map ε)))(h2:f ρ=.ok (.int k))(h3:0<=k)(h4:k<=33):aN (cP 2 a_) (aC cA (aC f aO)) ρ=.ok (.str (wrd ns k)):=aU (aD h1 (aD h2 rfl)) (oW hn h3 h4).1
theorem aPf(hn:ns.length<=63)(hm:0<Ω)(hm3:Ω<=3)(hj0:0<=j)(hj:j<Ω)(hM:M.length<=100)(hi0:1<=i)(hi1:i<=2) :
  ∃(m:Mk)(y6 y7 y8:D),PP ns Ω m/\m.2.1=wrd ns j/\(m.1=wrd ns (3+3*j+i)/\(i=1->m.2.2.length=1))/\imk [.scr (ns.map ε),.int Ω,.lst (M.map mkD),.int j,x4,.int i,x6,x7,x8]=.ok (.nx [.scr (ns.map ε),.int Ω,.lst ((M++[m]).map mkD),.int j,x4,.int i,y6,y7,y8]):=by
 have a3:=vP 3 j 0x4;have a40:=cZ 40 (3*j);have a41:=cZ (40+3*j) i;have d0:=(oV hn (40+3*j+i)).2.1;generalize hdr:drw ns (40+3*j+i)=dr at d0;have m4:=dH dr 4 0x4;have s1:=aGz i 1;have g1:=J1 (.int 1) (.int (dr % 4)) (i-1) 0x1 0x1;obtain⟨sz,sz0,sz3,sz1,g1'⟩:∃sz:ag,0<=sz/\sz<=3/\(i=1->sz=1)/\getD (.lst [.int 1,.int (dr % 4)]) (.int (i-1))=.ok (.int sz):=by
  by_cases z:i-1=0
  ·rw[al z] at g1;exact⟨1,by decide,by decide,λ_=>rfl,g1⟩
  ·rw[au z] at g1;exact⟨dr % 4,by lia,by lia,λq=>ay 0x1 z,g1⟩
 obtain⟨xs,k1,k2,k3⟩:=GD (n:=9) (ρ:=[.scr (ns.map ε),.int Ω,.lst (M.map mkD),.int j,x4,.int i,.int dr,.int sz,x8]) (f:=b2 (bI .mod) (b2 (bI .fdiv) lF (b2 (bI .add) (bC (.int 6)) (b2 vD aQo BJ))) fG) (sz:=sz) (g:=aC jF aO) hn hm hm3 rfl (λ_=>rfl) 0xf sz0 sz3 (λp p0 p3=>by
  have e1:=vP 7 p 0x4;have e2:=cZ 6 (7*p);have e3:=fV dr (6+7*p) 0x1 0x1;have e4:=dH (dr / (6+7*p)) Ω hm;exact⟨_,eJ _ 0x1,ff _ hm,aJ (x:=.int (dr / (6+7*p))) (y:=.int Ω) (aJ (x:=.int dr) (y:=.int (6+7*p)) rfl (aJ (x:=.int 6) (y:=.int (7*p)) rfl (aJ (x:=.int 7) (y:=.int p) rfl rfl e1) e2) e3) rfl e4⟩)
 have w1:=oW hn (i:=3+3*j+i) 0x1 0x1;refine⟨(wrd ns (3+3*j+i),wrd ns j,xs),.int dr,.int sz,.tup (xs.map δ),⟨w1.2,k2.1,k1⟩,rfl,⟨rfl,λq=>by have:=sz1 q;have:=k2.2;show xs.length=1;lia⟩,?_⟩;refine aM (ρ':=[.scr (ns.map ε),.int Ω,.lst (M.map mkD),.int j,x4,.int i,.int dr,x7,x8]) (b7 (i:=6) (by rw[<-hdr];exact uZ hn rfl (aJ (x:=.int (40+3*j)) (y:=.int i) (aJ (x:=.int 40) (y:=.int (3*j)) rfl (aJ (x:=.int 3) (y:=.int j) rfl rfl a3) a40) rfl a41))) ?_;refine aM (ρ':=[.scr (ns.map ε),.int Ω,.lst (M.map mkD),.int j,x4,.int i,.int dr,.int sz,x8]) (eZ (i:=7) (aJ (x:=.lst [.int 1,.int (dr % 4)]) (y:=.int (i-1)) (tR (xs:=[.int 1,.int (dr % 4)]) (aD rfl (aD (aJ (x:=.int dr) rfl rfl m4) rfl)) iU) (aJ (x:=.int i) rfl rfl s1) g1') rfl) ?_;refine aM (ρ':=[.scr (ns.map ε),.int Ω,.lst (M.map mkD),.int j,x4,.int i,.int dr,.int sz,.tup (xs.map δ)]) (eZ (i:=8) k3 (by rw[μ,bJ])) ?_;have ap:=oM (i:=2) (ρ:=[.scr (ns.map ε),.int Ω,.lst (M.map mkD),.int j,x4,.int i,.int dr,.int sz,.tup (xs.map δ)]) (f:=cM (aC (aN (cP 2 a_) (aC cA (aC (b2 (bI .add) (b2 (bI .add) sW (b2 vD sW d9)) dZ) aO))) (aC (aN (cP 2 a_) (aC cA (aC d9 aO))) (aC BK aO)))) (xs:=M.map mkD) (d:=mkD (wrd ns (3+3*j+i),wrd ns j,xs)) (bK (xs:=[.str (wrd ns (3+3*j+i)),.str (wrd ns j),.tup (xs.map δ)]) (aD (wZ hn rfl (aJ (x:=.int (3+3*j)) (y:=.int i) (aJ (x:=.int 3) (y:=.int (3*j)) rfl (aJ (x:=.int 3) (y:=.int j) rfl rfl a3) (cZ _ _)) rfl (cZ _ _)) 0x1 0x1) (aD (wZ hn rfl rfl hj0 0x1) 0xf)) aMj) rfl (by rw[aw,bR];lia) (j5 _);rw[b6];exact ap
theorem WT(hn:ns.length<=63)(hm:0<Ω)(hm3:Ω<=3)(hj0:0<=j)(hj:j<Ω):∀(ks:aa af)(M:aa Mk)(x5 x6 x7 x8:D),(∀k∈ks,k<=1)->M.length+ks.length<=100->
  ∃(N:aa Mk)(y5 y6 y7 y8:D),(∀m∈N,PP ns Ω m/\m.2.1=wrd ns j)/\(N.map (·.1)=ks.map (λ(k:af)=>wrd ns (3+3*j+(1+(k:ag))))/\∀q,ks=0::q->∃m N',N=m::N'/\m.2.2.length=1)/\n8 (tg1 5) imk (ks.map λ(k:af)=>ε (1+(k:ag))) [.scr (ns.map ε),.int Ω,.lst (M.map mkD),.int j,x4,x5,x6,x7,x8]=.ok (.nx [.scr (ns.map ε),.int Ω,.lst ((M++N).map mkD),.int j,x4,y5,y6,y7,y8])
 |[],M,x5,x6,x7,x8,_,_=>⟨[],x5,x6,x7,x8,λ_ h=>(by cases h),⟨rfl,λ_ h=>(by cases h)⟩,by rw[dq];rfl⟩
 |k::ks,M,x5,x6,x7,x8,h,hl=>by
  rw[aS] at hl;have hk:=h k (bj ..);obtain⟨m,y6,y7,y8,h1,h2,h3,e⟩:=aPf hn hm hm3 hj0 hj (M:=M) 0x1 (i:=1+(k:ag)) 0x1 0x1 (x6:=x6) (x7:=x7) (x8:=x8);obtain⟨N,z5,z6,z7,z8,i1,i2,i3⟩:=WT (x4:=x4) hn hm hm3 hj0 hj ks (M++[m]) (.int (1+(k:ag))) y6 y7 y8 (λq hq=>h q (bp _ hq)) (by rw[bg];show M.length+1+ks.length<=100;lia);refine⟨m::N,z5,z6,z7,z8,λq hq=>?_,⟨by rw[bd,bd,i2.1,h3.1],λq hq=>⟨m,N,rfl,h3.2 (by injection hq with hq _;lia)⟩⟩,?_⟩
  ·rcases bu.mp hq with rfl|hq
   ·exact⟨h1,h2⟩
   ·exact i1 q hq
  ·rw[bd,show M++m::N=(M++[m])++N by simp];exact cC (ρ1:=[.scr (ns.map ε),.int Ω,.lst (M.map mkD),.int j,x4,.int (1+(k:ag)),x6,x7,x8]) rfl e i3
theorem zY(h:f ρ=.ok [.int a,.int b])(h1:-1000000<=a)(h2:a<=1000000)(h3:-1000000<=b)(h4:b<=1000000):jK f yS ρ=.ok ((bm (b-a).toNat).map λ(k:af)=>ε (a+(k:ag)),ae):=by
 unfold jK;rw[h,τ];have e1:jW a=ae:=by simp only[jW,dL,aI];lia
 have e2:jW b=ae:=by simp only[jW,dL,aI];lia
 rw[yS,e1,e2];rfl
theorem aMk(a b:ag):cT (.ord .gt) (.int a) (.int b)=.ok (.bl (ϒ (b<a))):=zK rfl rfl rfl
theorem aPg(hn:ns.length<=63)(hm:0<Ω)(hm3:Ω<=3)(hj0:0<=j)(hj:j<Ω)(hM:M.length<=50) :
  ∃(fs:aa Str)(N:aa Mk)(y4 y5 y6 y7 y8:D),(fs=[]\/(fs=[wrd ns 0]/\0<j))/\Good (wrd ns (3+3*j))/\(∀m∈N,PP ns Ω m/\m.2.1=wrd ns j)/\(∃c:af,(c=1\/c=2)/\N.map (·.1)=(bm c).map (λ(k:af)=>wrd ns (3+3*j+(1+(k:ag))))/\∃m N',N=m::N'/\m.2.2.length=1)/\omk [.scr (ns.map ε),.int Ω,.lst (M.map mkD),.int j,x4,x5,x6,x7,x8]=.ok (.nx [.scr (ns.map ε),.int Ω,.lst ((M++(wrd ns (3+3*j),wrd ns j,fs)::N).map mkD),.int j,y4,y5,y6,y7,y8]):=by
 have a3:=vP 3 j 0x4;have a40:=cZ 40 (3*j);have b3:=cZ 3 (3*j);obtain⟨fs,hfs,hif⟩:∃fs:aa Str,(fs=[]\/(fs=[wrd ns 0]/\0<j))/\sIf (aDt (bTB (b2 (cT (.ord .gt)) d9 bQ)) (bTB (b2 (cT (.ord .gt)) (b2 (bI .mod) (b2 (bI .fdiv) (aN (cP 2 aQ) (aC cA (aC aIz aO))) d9) sW) bQ))) (cR ah 4 (cM (aC (aN (cP 2 a_) (aC cA (aC bQ aO))) aO)) ae) uF [.scr (ns.map ε),.int Ω,.lst (M.map mkD),.int j,.tup [],x5,x6,x7,x8]=.ok (.nx [.scr (ns.map ε),.int Ω,.lst (M.map mkD),.int j,.tup (fs.map δ),x5,x6,x7,x8]):=by
  by_cases z:0<j
  ·have c0:bTB (b2 (cT (.ord .gt)) d9 bQ) [.scr (ns.map ε),.int Ω,.lst (M.map mkD),.int j,.tup [],x5,x6,x7,x8]=.ok ae:=dG (aJ rfl rfl ((aMk _ _).trans (by rw[bh z])));have d3:=fV (drw ns 38) j z 0x1;have m3:=dH (drw ns 38 / j) 3 0x4;have c1:∀k,ϒ (0<drw ns 38 / j % 3)=k->bTB (b2 (cT (.ord .gt)) (b2 (bI .mod) (b2 (bI .fdiv) (aN (cP 2 aQ) (aC cA (aC aIz aO))) d9) sW) bQ) [.scr (ns.map ε),.int Ω,.lst (M.map mkD),.int j,.tup [],x5,x6,x7,x8]=.ok k:=λk hk=>dG (aJ (aJ (aJ (uZ hn rfl rfl) rfl d3) rfl m3) rfl ((aMk _ _).trans (by rw[hk])))
   by_cases q:0<drw ns 38 / j % 3
   ·exact⟨[wrd ns 0],.inr ⟨rfl,z⟩,V4 (aBl c0 (c1 _ (bh q))) (b7 (bK (aD (wZ hn rfl rfl (C5 0) 0x4) rfl) (by rw[bR];exact dm rfl)))⟩
   ·exact⟨[],.inl rfl,oK (aBl c0 (c1 _ (cw q))) rfl⟩
  ·exact⟨[],.inl rfl,oK (aJj (dG (aJ rfl rfl ((aMk _ _).trans (by rw[cw z]))))) rfl⟩
 have w1:=oW hn (i:=3+3*j) 0x1 0x1;have d0:=(oV hn (40+3*j)).2.1;have m2:=dH (drw ns (40+3*j)) 2 0x4;have c2:=cZ 2 (drw ns (40+3*j) % 2);obtain⟨N,y5,y6,y7,y8,h1,h2,h3⟩:=WT hn hm hm3 hj0 hj (bm (2+drw ns (40+3*j) % 2-1).toNat) (M++[(wrd ns (3+3*j),wrd ns j,fs)]) x5 x6 x7 x8 (λk hk=>by have:=fx.mp hk;lia) (by rw[bg,eg];show M.length+1+_<=100;lia);have hc:(2+drw ns (40+3*j) % 2-1).toNat=1\/(2+drw ns (40+3*j) % 2-1).toNat=2:=by lia
 refine⟨fs,N,.tup (fs.map δ),y5,y6,y7,y8,hfs,w1.2,h1,⟨_,hc,h2.1,?_⟩,?_⟩
 ·rcases hc with q|q<;>rw[q] at h2
  ·exact h2.2 [] rfl
  ·exact h2.2 [1] rfl
 refine aM (b7 (i:=4) (bK (xs:=[]) rfl (cz _))) ?_;refine aM hif ?_;refine aM (ρ':=[.scr (ns.map ε),.int Ω,.lst ((M++[(wrd ns (3+3*j),wrd ns j,fs)]).map mkD),.int j,.tup (fs.map δ),x5,x6,x7,x8]) ?_ ?_
 ·have ap:=oM (i:=2) (ρ:=[.scr (ns.map ε),.int Ω,.lst (M.map mkD),.int j,.tup (fs.map δ),x5,x6,x7,x8]) (f:=cM (aC (aN (cP 2 a_) (aC cA (aC (b2 (bI .add) sW (b2 vD sW d9)) aO))) (aC (aN (cP 2 a_) (aC cA (aC d9 aO))) (aC jT aO)))) (xs:=M.map mkD) (d:=mkD (wrd ns (3+3*j),wrd ns j,fs)) (bK (xs:=[.str (wrd ns (3+3*j)),.str (wrd ns j),.tup (fs.map δ)]) (aD (wZ hn rfl (aJ (x:=.int 3) (y:=.int (3*j)) rfl (aJ (x:=.int 3) (y:=.int j) rfl rfl a3) b3) 0x1 0x1) (aD (wZ hn rfl rfl hj0 0x1) 0xf)) aMj) rfl (by rw[aw,bR];lia) (j5 _);rw[b6];exact ap
 ·refine nT (zY (a:=1) (b:=2+drw ns (40+3*j) % 2) (aD rfl (aD (aJ (x:=.int 2) (y:=.int (drw ns (40+3*j) % 2)) rfl (aJ (x:=.int (drw ns (40+3*j))) (uZ hn rfl (aJ (x:=.int 40) (y:=.int (3*j)) rfl (aJ (x:=.int 3) (y:=.int j) rfl rfl a3) a40)) rfl m2) c2) rfl)) 0x4 0x4 0x1 0x1) ?_;rw[h3];simp
structure MOk(ns:aa ag)(Ω:ag)(n:af)(M:aa Mk):Prop where
 part:∀m∈M,PP ns Ω m
 kind:∀m∈M,IsK ns n m.2.1
 len:M.length<=3*n
 find:∀K,IsK ns n K->∃m m2 R,M.filter (λm=>m.2.1==K)=m::m2::R/\(m.2.2=[]\/(m.2.2=[wrd ns 0]/\K≠wrd ns 0))/\m2.2.2.length=1
 names:∃ks:aa ag,M.map (·.1)=ks.map (wrd ns)/\ks.Pairwise (·<·)/\∀k∈ks,3<=k/\k<3+3*(n:ag)
theorem aFt(h:MOk ns Ω n M)(hm:(n:ag)<Ω)(hw:Good (wrd ns (3+3*(n:ag))))(hfs:fs=[]\/(fs=[wrd ns 0]/\0<(n:ag)))(hN:∀m∈N,PP ns Ω m/\m.2.1=wrd ns n)(hl:∃c:af,(c=1\/c=2)/\N.map (·.1)=(bm c).map (λ(k:af)=>wrd ns (3+3*(n:ag)+(1+(k:ag))))/\∃m N',N=m::N'/\m.2.2.length=1):MOk ns Ω (n+1) (M++(wrd ns (3+3*(n:ag)),wrd ns n,fs)::N):=by
 obtain⟨c,hc,hnm,m2,N',hN2,hm2⟩:=hl;refine⟨λm hq=>?_,λm hq=>?_,?_,λK hK=>?_,?_⟩
 ·rcases dQ.mp hq with hq|hq
  ·exact h.part m hq
  ·rcases bu.mp hq with rfl|hq
   ·refine⟨hw,?_,λp hp=>?_⟩
    ·rcases hfs with rfl|⟨rfl,_⟩<;>exact dm rfl
    ·rcases hfs with rfl|⟨rfl,_⟩
     ·cases hp
     ·exact⟨0,by decide,by lia,eL.mp hp⟩
   ·exact(hN m hq).1
 ·rcases dQ.mp hq with hq|hq
  ·obtain⟨j,j0,j1,e⟩:=h.kind m hq;exact⟨j,j0,by lia,e⟩
  ·rcases bu.mp hq with rfl|hq
   ·exact⟨n,by lia,by lia,rfl⟩
   ·exact⟨n,by lia,by lia,(hN m hq).2⟩
 ·have:=h.len;have e:=cy me hnm;rw[aw,aw,eg] at e;rw[bg,aS];lia
 ·rw[List.filter_append];by_cases z:IsK ns n K
  ·obtain⟨m,m',R,e,q⟩:=h.find K z;rw[e];exact⟨m,m',_,rfl,q⟩
  ·have e:K=wrd ns n:=by
    obtain⟨j,j0,j1,e⟩:=hK;by_cases y:j<n
    ·exact ay ⟨j,j0,y,e⟩ z
    ·have:j=n:=by lia
     rw[e,this]
   have e2:M.filter (λm=>m.2.1==K)=[]:=by
    rw[List.filter_eq_nil_iff];intro m hq y;have:=h.kind m hq;rw[eq_of_beq y] at this;exact z this
   subst hN2;rw[e2,c6,C6,al (by rw[e];exact dy _),C6,al (by rw[e,(hN m2 (bj ..)).2];exact dy _)];refine⟨_,_,_,rfl,?_,hm2⟩;rcases hfs with rfl|⟨rfl,y⟩
   ·exact .inl rfl
   ·exact .inr ⟨rfl,λq=>z ⟨0,by decide,y,q⟩⟩
 ·obtain⟨ks,k1,k2,k3⟩:=h.names;refine⟨ks++(3+3*(n:ag))::(bm c).map (λ(k:af)=>3+3*(n:ag)+(1+(k:ag))),?_,?_,?_⟩
  ·rw[b6,b6,bd,bd,k1,hnm,cu];rfl
  ·have cs:((3+3*(n:ag))::(bm c).map (λ(k:af)=>3+3*(n:ag)+(1+(k:ag)))).Pairwise (·<·):=by
    rcases hc with rfl|rfl
    ·simp[bm,C7];lia
    ·simp[bm,C7];lia
   rw[List.pairwise_append];refine⟨k2,cs,λa ha b hb=>?_⟩;have:=(k3 a ha).2;rcases bu.mp hb with rfl|hb
   ·lia
   ·obtain⟨q,hq,rfl⟩:=bE.mp hb;lia
  ·intro k hk;rcases dQ.mp hk with hk|hk
   ·have:=k3 k hk;lia
   ·rcases bu.mp hk with rfl|hk
    ·lia
    ·obtain⟨q,hq,rfl⟩:=bE.mp hk;have:=fx.mp hq;lia
theorem WW(hn:ns.length<=63)(hm:0<Ω)(hm3:Ω<=3):∀(c n:af)(M:aa Mk)(x3 x4 x5 x6 x7 x8:D),(n:ag)+c=Ω->MOk ns Ω n M->
  ∃(N:aa Mk)(y3 y4 y5 y6 y7 y8:D),MOk ns Ω (n+c) N/\n8 (tg1 3) omk ((BI n c).map λ(k:af)=>ε (0+(k:ag))) [.scr (ns.map ε),.int Ω,.lst (M.map mkD),x3,x4,x5,x6,x7,x8]=.ok (.nx [.scr (ns.map ε),.int Ω,.lst (N.map mkD),y3,y4,y5,y6,y7,y8])
 |0,n,M,x3,x4,x5,x6,x7,x8,_,h=>⟨M,x3,x4,x5,x6,x7,x8,h,rfl⟩
 |c+1,n,M,x3,x4,x5,x6,x7,x8,he,h=>by
  obtain⟨fs,N,y4,y5,y6,y7,y8,h1,h2,h3,h4,h5⟩:=aPg (j:=(n:ag)) hn hm hm3 0x1 0x1 (M:=M) (by have:=h.len;lia) (x4:=x4) (x5:=x5) (x6:=x6) (x7:=x7) (x8:=x8);obtain⟨N',z3,z4,z5,z6,z7,z8,i1,i2⟩:=WW hn hm hm3 c (n+1) _ (.int n) y4 y5 y6 y7 y8 0x1 (aFt h 0x1 h2 h1 h3 h4);refine⟨N',z3,z4,z5,z6,z7,z8,by rw[show n+(c+1)=n+1+c by lia];exact i1,?_⟩;rw[List.range'_succ,bd];exact cC (ρ1:=[.scr (ns.map ε),.int Ω,.lst (M.map mkD),.int n,x4,x5,x6,x7,x8]) (by rw[vk];rfl) h5 i2
theorem aCm(hn:ns.length<=63)(hm:0<Ω)(hm3:Ω<=3):∃M:aa Mk,MOk ns Ω Ω.toNat M/\cP 2 jN [.scr (ns.map ε),.int Ω]=.ok (.tup (M.map mkD)):=by
 obtain⟨N,y3,y4,y5,y6,y7,y8,h1,h2⟩:=WW hn hm hm3 Ω.toNat 0 [] .uD .uD .uD .uD .uD .uD 0x1 ⟨λ_ h=>(by cases h),λ_ h=>(by cases h),cz _,λK ⟨j,j0,j1,_⟩=>(by exfalso;lia),[],rfl,.nil,λ_ h=>(by cases h)⟩;rw[ia] at h1;refine⟨N,h1,(eY rfl).trans (call_v ?_)⟩;refine aM (dX (tR rfl (cz _)) rfl) ?_;refine aM (nT (wK 0xf 0x1 0x1) (by rw[List.range_eq_range'];exact h2)) ?_;exact kW (aU 0xf rfl) (by rw[μ,aP j5];rfl)
theorem wA(a b:aa D)(h:a.length+b.length<=1000):QR (.tup a) (.tup b)=.ok (.tup (a++b)):=by
 rw[QR,al (bh (by rw[bR];lia))]
def gZ(ns:aa ag)(Ω:ag)(t:Tk):Prop:=(∃k:ag,17<=k/\k<=20/\t.1=wrd ns k)/\IsK ns Ω t.2.1/\IsK ns Ω t.2.2.1/\t.2.2.2.length<=2/\∀p∈t.2.2.2,IsK ns Ω p
theorem aPh(hn:ns.length<=63)(hm:0<Ω)(hm3:Ω<=3)(hi0:0<=i)(hi:i<=3)(hM:M.length<=50) :
  ∃(t:Tk)(y4 y5 y6:D),(gZ ns Ω t/\t.1=wrd ns (17+i))/\otk [.scr (ns.map ε),.int Ω,.lst (M.map tkD),.int i,x4,x5,x6]=.ok (.nx [.scr (ns.map ε),.int Ω,.lst ((M++[t]).map tkD),.int i,y4,y5,y6]):=by
 have a51:=cZ 51 i;have a17:=cZ 17 i;have d0:=(oV hn (51+i)).2.1;generalize hdr:drw ns (51+i)=dr at d0;have f4:=fV dr 4 0x4 0x4;have m3:=dH (dr / 4) 3 0x4;have f2:=fV dr 2 0x4 0x4;have k1:=dH dr Ω hm;have k2:=dH (dr / 2) Ω hm;have p1:=eJ dr (show Ω≠0 by lia);have p2:=ff dr hm;have q1:=eJ (dr / 2) (show Ω≠0 by lia);have q2:=ff (dr / 2) hm;obtain⟨xs,c1,c2,c3⟩:=GD (ρ:=[.scr (ns.map ε),.int Ω,.lst (M.map tkD),.int i,.int dr,x5,x6]) (f:=b2 (bI .mod) (b2 (bI .fdiv) jT (b2 (bI .add) aEg (b2 vD aQo jF))) fG) (sz:=dr / 4 % 3) (g:=aC (b2 (bI .mod) (b2 (bI .fdiv) jT J_) sW) aO) hn hm hm3 rfl (λ_=>rfl) (aD (aJ (x:=.int (dr / 4)) (aJ (x:=.int dr) rfl rfl f4) rfl m3) rfl) 0x1 0x1 (λp p0 p3=>by
  have e1:=vP 7 p 0x4;have e2:=cZ 12 (7*p);have e3:=fV dr (12+7*p) 0x1 0x1;have e4:=dH (dr / (12+7*p)) Ω hm;exact⟨_,eJ _ 0x1,ff _ hm,aJ (x:=.int (dr / (12+7*p))) (y:=.int Ω) (aJ (x:=.int dr) (y:=.int (12+7*p)) rfl (aJ (x:=.int 12) (y:=.int (7*p)) rfl (aJ (x:=.int 7) (y:=.int p) rfl rfl e1) e2) e3) rfl e4⟩)
 have w1:=oW hn (i:=17+i) 0x1 0x1;have t1:=wA [.str (wrd ns (17+i))] [.str (wrd ns (dr % Ω)),.str (wrd ns (dr / 2 % Ω))] (dm rfl);have t2:=wA [.str (wrd ns (17+i)),.str (wrd ns (dr % Ω)),.str (wrd ns (dr / 2 % Ω))] [.tup (xs.map δ)] (dm rfl);refine⟨(wrd ns (17+i),wrd ns (dr % Ω),wrd ns (dr / 2 % Ω),xs),.int dr,.tup (xs.map δ),.tup [.str (wrd ns (dr % Ω)),.str (wrd ns (dr / 2 % Ω))],⟨⟨⟨17+i,by lia,by lia,rfl⟩,⟨_,p1,p2,rfl⟩,⟨_,q1,q2,rfl⟩,(by have:=c2.2;show xs.length<=2;lia),c1⟩,rfl⟩,?_⟩;refine aM (ρ':=[.scr (ns.map ε),.int Ω,.lst (M.map tkD),.int i,.int dr,x5,x6]) (b7 (i:=4) (by rw[<-hdr];exact uZ hn rfl (aJ (x:=.int 51) (y:=.int i) rfl rfl a51))) ?_;refine aM (ρ':=[.scr (ns.map ε),.int Ω,.lst (M.map tkD),.int i,.int dr,.tup (xs.map δ),x6]) (eZ (i:=5) c3 (by rw[μ,bJ])) ?_;refine aM (ρ':=[.scr (ns.map ε),.int Ω,.lst (M.map tkD),.int i,.int dr,.tup (xs.map δ),.tup [.str (wrd ns (dr % Ω)),.str (wrd ns (dr / 2 % Ω))]]) (b7 (i:=6) (bK (xs:=[.str (wrd ns (dr % Ω)),.str (wrd ns (dr / 2 % Ω))]) (aD (wZ hn rfl (aJ (x:=.int dr) (y:=.int Ω) rfl rfl k1) p1 0x1) (aD (wZ hn rfl (aJ (x:=.int (dr / 2)) (y:=.int Ω) (aJ (x:=.int dr) rfl rfl f2) rfl k2) q1 0x1) rfl)) iU)) ?_;have ap:=oM (i:=2) (ρ:=[.scr (ns.map ε),.int Ω,.lst (M.map tkD),.int i,.int dr,.tup (xs.map δ),.tup [.str (wrd ns (dr % Ω)),.str (wrd ns (dr / 2 % Ω))]]) (f:=b2 QR (b2 QR (cM (aC (aN (cP 2 a_) (aC cA (aC (b2 (bI .add) K9 d9) aO))) aO)) lF) (cM (aC dZ aO))) (xs:=M.map tkD) (d:=tkD (wrd ns (17+i),wrd ns (dr % Ω),wrd ns (dr / 2 % Ω),xs)) (aJ (aJ (bK (xs:=[.str (wrd ns (17+i))]) (aD (wZ hn rfl (aJ (x:=.int 17) (y:=.int i) rfl rfl a17) 0x1 0x1) rfl) (by rw[bR];exact dm rfl)) rfl t1) (bK (xs:=[.tup (xs.map δ)]) 0xf (by rw[bR];exact dm rfl)) t2) rfl (by rw[aw,bR];lia) (nH _);rw[b6];exact ap
theorem WX(hn:ns.length<=63)(hm:0<Ω)(hm3:Ω<=3):∀(ks:aa af)(M:aa Tk)(x3 x4 x5 x6:D),(∀k∈ks,k<=3)->M.length+ks.length<=50->(∀t∈M,gZ ns Ω t)->
  ∃(N:aa Tk)(y3 y4 y5 y6:D),(∀t∈N,gZ ns Ω t)/\N.map (·.1)=M.map (·.1)++ks.map (λ(k:af)=>wrd ns (17+(k:ag)))/\n8 (tg1 3) otk (ks.map λ(k:af)=>ε (0+(k:ag))) [.scr (ns.map ε),.int Ω,.lst (M.map tkD),x3,x4,x5,x6]=.ok (.nx [.scr (ns.map ε),.int Ω,.lst (N.map tkD),y3,y4,y5,y6])
 |[],M,x3,x4,x5,x6,_,_,h=>⟨M,x3,x4,x5,x6,h,(dq _).symm,rfl⟩
 |k::ks,M,x3,x4,x5,x6,h,hl,hM=>by
  rw[aS] at hl;have hk:=h k (bj ..);obtain⟨t,y4,y5,y6,h1,h2⟩:=aPh hn hm hm3 (i:=(k:ag)) 0x1 0x1 (M:=M) 0x1 (x4:=x4) (x5:=x5) (x6:=x6);obtain⟨N,z3,z4,z5,z6,i1,i2,i3⟩:=WX hn hm hm3 ks (M++[t]) (.int k) y4 y5 y6 (λq hq=>h q (bp _ hq)) (by rw[bg];show M.length+1+_<=50;lia) (λq hq=>by
   rcases dQ.mp hq with hq|hq
   ·exact hM q hq
   ·rw[eL.mp hq];exact h1.1)
  refine⟨N,z3,z4,z5,z6,i1,?_,?_⟩
  ·rw[i2,b6,bd,bd,io,h1.2,dt];rfl
  ·rw[bd];exact cC (ρ1:=[.scr (ns.map ε),.int Ω,.lst (M.map tkD),.int k,x4,x5,x6]) (by rw[vk];rfl) h2 i3
theorem aCn(hn:ns.length<=63)(hm:0<Ω)(hm3:Ω<=3):∃T:aa Tk,(∀t∈T,gZ ns Ω t)/\(T.length<=3/\T.map (·.1)=(bm T.length).map (λ(k:af)=>wrd ns (17+(k:ag))))/\cP 2 jP [.scr (ns.map ε),.int Ω]=.ok (.tup (T.map tkD)):=by
 have m4:=dH (drw ns 50) 4 0x4;obtain⟨N,y3,y4,y5,y6,h1,h2,h3⟩:=WX hn hm hm3 (bm (drw ns 50 % 4).toNat) [] .uD .uD .uD .uD (λk hk=>by have:=fx.mp hk;lia) (by rw[eg];show 0+_<=50;lia) (λ_ h=>by cases h);have hNl:N.length=(drw ns 50 % 4).toNat:=by
  have:=cy me h2;simpa using this
 refine⟨N,h1,⟨by lia,by rw[h2,hNl];rfl⟩,(eY rfl).trans (call_v ?_)⟩;refine aM (dX (tR rfl (cz _)) rfl) ?_;refine aM (nT (wK (aD (aJ (uZ hn rfl rfl) rfl m4) rfl) 0x1 0x1) h3) ?_;exact kW (aU 0xf rfl) (by rw[μ,aP nH];rfl)
theorem cX(h:n<=1000):n<=lim:=by rw[bR];lia
theorem fO(h1:a ρ=.ok (.tup xs)):bW a ah ρ=.ok (xs,ah||(ξ xs).pure):=by
 unfold bW;rw[h1,τ];rfl
theorem eq_str(a b:Str):cT .eq (.str a) (.str b)=.ok (.bl (a==b)):=rfl
theorem eq_int(a b:ag):cT .eq (.int a) (.int b)=.ok (.bl (a==b)):=rfl
theorem aUb(a b:ag):cT (.ord .ge) (.int a) (.int b)=.ok (.bl (ϒ (b<=a))):=zK rfl rfl rfl
theorem aSs(a b:ag):cT (.ord .lt) (.int a) (.int b)=.ok (.bl (ϒ (a<b))):=zK rfl rfl rfl
theorem aUc(h1:a ρ=.ok ae):bOr a b ρ=.ok ae:=by
 unfold bOr;rw[h1];rfl
theorem xX(h1:a ρ=.ok ah)(h2:b ρ=r):bOr a b ρ=r:=by
 unfold bOr;rw[h1];exact h2
theorem aL5(h1:a ρ=.ok x)(h2:b ρ=.ok y):bOr a b ρ=.ok (x||y):=by
 cases x with
 |true=>exact aUc h1
 |false=>exact xX h1 h2
theorem aL6(h1:a ρ=.ok (.bl x))(h2:b ρ=.ok (.bl y)):LC a b ρ=.ok (.bl (x&&y)):=by
 unfold LC;rw[h1,τ,aO8,τ];cases x with
 |true=>rw[al rfl,h2];rfl
 |false=>rfl
theorem ZW(h1:a ρ=.ok (.bl x)):bTr a ρ=.ok x:=by
 unfold bTr;rw[h1];rfl
noncomputable abbrev Wt:=Str×aq
noncomputable def wD(w:Wt):D:=.tup [.str w.1,.bl w.2]
theorem tU(w:Wt):(wD w).pure=ae:=rfl
noncomputable def knD(K:aa (Str×Str)):aa (D×D):=K.map λp=>(.str p.1,.str p.2)
def bkD(M:aa Mk)(T:aa Tk):D:=.tup [.tup (M.map mkD),.tup (T.map tkD)]
theorem aCo:∀(K:aa (Str×Str))(x:Str),x∈K.map (·.1)->∃y:Str,eX (knD K) (.str x)=ab (.str y)
 |[],x,h=>by cases h
 |p::K,x,h=>by
  show ∃y:Str,(if (p.1==x) then ab (δ p.2) else eX (knD K) (.str x))=ab (.str y);by_cases z:(p.1==x)=ae
  ·rw[al z];exact⟨_,rfl⟩
  ·rw[au z];refine aCo K x ?_;rcases bu.mp h with rfl|h
   ·exact ay (dy _) z
   ·exact h
theorem aCp(K:aa (Str×Str)):(knD K).all (λp=>!isTup p.1)=ae:=by
 rw[fA];intro p hp;obtain⟨q,_,rfl⟩:=bE.mp hp;rfl
theorem aL7(K:aa (Str×Str)):θ ((knD K).map (·.2))=ae:=by
 unfold knD;rw[cu];exact aP (λ_=>rfl) K
theorem aCq(K:aa (Str×Str)):sX (knD K)=(K.map (·.1)).map δ:=by
 unfold sX knD;rw[cu,cu];rfl
theorem aPi(hK:K.length<=1000) :
  ∃F:aa Str,F.length<=K.length/\(∀x∈F,x∈K.map (·.1))/\wfit [x0,x1,x2,.dct (knD K),x4,x5,x6,x7,x8,wD h,x10,x11,x12,x13,x14,x15,x16]=.ok (.lst (F.map δ)):=by
 generalize hρ:fzD 3 (knD K) [x0,x1,x2,.dct (knD K),x4,x5,x6,x7,x8,wD h,x10,x11,x12,x13,x14,x15,x16]=ρ;have l:ρ.length=17:=by rw[<-hρ];unfold fzD;rw[kg,aw];rfl
 have v3:∀x,gM 3 (ρ++[x])=.ok (.fdc (knD K)):=λx=>by rw[<-hρ];rfl
 have v9:∀x,gM 9 (ρ++[x])=.ok (wD h):=λx=>by rw[<-hρ];rfl
 have v17:∀x,x≠.uD->gM 17 (ρ++[x])=.ok x:=λx hx=>by
  have:(ρ++[x]).getD 17 .uD=x:=by rw[b9,gm 0x1,l];rfl
  unfold gM;rw[this];cases x<;>first|rfl|exact ay rfl hx
 obtain⟨F,hFm,h2,h3⟩:=PN (iI 17 jL (bTB (b2 (cT .eq) (b2 getD d9 j6) (b2 getD BJ bQ))) j6 ah ρ) δ (λx=>x∈K.map (·.1)) (sX (knD K)) [] (λd hd acc=>by
  rw[aCq] at hd;obtain⟨x,hx,rfl⟩:=bE.mp hd;obtain⟨y,hy⟩:=aCo K x hx;have g1:getD (.fdc (knD K)) (.str x)=.ok (.str y):=by
   show(if keyOk (.str x) then ν (eX (knD K) (.str x)) else .bad)=_;rw[al (show keyOk (.str x)=ae from rfl),hy];rfl
  have c:=uR (k:=ah) (acc:=acc) (c:=bTB (b2 (cT .eq) (b2 getD d9 j6) (b2 getD BJ bQ))) (f:=gM 17) (x:=.str x) (y:=.str x) (b:=(y==h.1)) l (dG (aJ (x:=.str y) (y:=.str h.1) (aJ (v3 _) (v17 _ (by intro q;cases q)) g1) (aJ (x:=wD h) (y:=.int 0) (v9 _) rfl rfl) (eq_str _ _))) (λ_=>⟨v17 _ (by intro q;cases q),rfl⟩);rw[c];by_cases z:(y==h.1)=ae
  ·exact⟨[x],λu hu=>by rw[eL.mp hu];exact hx,aT _,by rw[al z];rfl⟩
  ·exact⟨[],λ_ h=>(by cases h),cz _,by rw[au z];simp⟩)
 rw[c6] at h3;have hl:(sX (knD K)).length=K.length:=by rw[aCq,aw,aw]
 refine⟨F,by lia,hFm,?_⟩;have kl:(knD K).length<=lim:=by unfold knD;rw[aw];exact cX hK
 unfold wfit aBo;show(if ϒ ((knD K).length<=lim)&&((knD K).all (λp=>!isTup p.1)&&θ ((knD K).map (·.2))) then (do
   let ys <- fK (iI 17 jL (bTB (b2 (cT .eq) (b2 getD d9 j6) (b2 getD BJ bQ))) j6 ah (fzD 3 (knD K) [x0,x1,x2,.dct (knD K),x4,x5,x6,x7,x8,wD h,x10,x11,x12,x13,x14,x15,x16])) [] (sX (knD K))
   pure (π ys)) else .bad)=_
 rw[al (by rw[aCp,aL7,bh kl];rfl),hρ,h3];rfl
def aMl(k:ag):FE:=(e_ 17 (bW (b2 getD fB (bC (.int k))) ah) jL (bTB (b2 (cT .eq) (b2 getD j6 cF) (b2 getD BJ bQ))) j6 ah)
theorem aPj(hM:M.length<=1000) :
  aMl 0 [x0,x1,bkD M T,x3,x4,x5,x6,x7,x8,wD h,x10,x11,x12,x13,x14,x15,x16]=.ok (.lst ((M.filter λm=>m.2.1==h.1).map mkD)):=by
 refine fC (fO (aJ rfl rfl rfl)) (by rw[aw];exact cX hM) ?_;have c:=dU (iI 17 jL (bTB (b2 (cT .eq) (b2 getD j6 cF) (b2 getD BJ bQ))) j6 ah [x0,x1,bkD M T,x3,x4,x5,x6,x7,x8,wD h,x10,x11,x12,x13,x14,x15,x16]) mkD (λm=>m.2.1==h.1) mkD (λacc m=>uR rfl (dG (aJ (aJ rfl rfl rfl) (aJ rfl rfl rfl) (eq_str _ _))) (λ_=>⟨rfl,j5 m⟩)) M [];rw[c6] at c;exact c
theorem aL8(hT:T.length<=1000) :
  aMl 1 [x0,x1,bkD M T,x3,x4,x5,x6,x7,x8,wD h,x10,x11,x12,x13,x14,x15,x16]=.ok (.lst ((T.filter λm=>m.2.1==h.1).map tkD)):=by
 refine fC (fO (aJ rfl rfl rfl)) (by rw[aw];exact cX hT) ?_;have c:=dU (iI 17 jL (bTB (b2 (cT .eq) (b2 getD j6 cF) (b2 getD BJ bQ))) j6 ah [x0,x1,bkD M T,x3,x4,x5,x6,x7,x8,wD h,x10,x11,x12,x13,x14,x15,x16]) tkD (λm=>m.2.1==h.1) tkD (λacc m=>uR rfl (dG (aJ (aJ rfl rfl rfl) (aJ rfl rfl rfl) (eq_str _ _))) (λ_=>⟨rfl,nH m⟩)) T [];rw[c6] at c;exact c
theorem J3{n:af}{xs:aa Str}(hρ:ρ.length=17)(ha:a ρ=.ok (.tup (xs.map δ)))(hl:xs.length<=1000):e_ 17 (bW a ah) jL eU (cM (aC j6 (aC (bC (.bl b)) aO))) ah ρ=.ok (.lst ((xs.map λx=>(x,b)).map wD)):=by
 refine fC (fO ha) (by rw[aw];exact cX hl) ?_;have v17:∀x:Str,gM 17 (ρ++[.str x])=.ok (.str x):=λx=>by
  have:(ρ++[δ x]).getD 17 .uD=.str x:=by rw[b9,gm 0x1,hρ];rfl
  unfold gM;rw[this]
 have c:=dU (iI 17 jL eU (cM (aC j6 (aC (bC (.bl b)) aO))) ah ρ) δ (λ_=>ae) (λx=>wD (x,b)) (λacc x=>uR hρ rfl (λ_=>⟨bK (aD (v17 x) 0xf) iU,rfl⟩)) xs [];rw[c6,iX.mpr (λ_ _=>rfl)] at c;rw[c,cu];rfl
def wt(ns:aa ag)(w:Wt):af:=if w.1=wrd ns 0 then 1 else 2
def sm(ns:aa ag):aa Wt->af
 |[]=>0
 |w::L=>wt ns w+sm ns L
theorem aFu(ns:aa ag)(w:Wt):1<=wt ns w/\wt ns w<=2:=by unfold wt;split<;>lia
theorem PQ(ns:aa ag):∀L:aa Wt,L.length<=sm ns L/\sm ns L<=2*L.length
 |[]=>⟨aT _,aT _⟩
 |w::L=>by
  have:=aFu ns w;have:=PQ ns L;rw[aS,sm];lia
theorem WY(ns:aa ag):∀A B:aa Wt,sm ns (A++B)=sm ns A+sm ns B
 |[],B=>by rw[c6,sm,ia]
 |w::A,B=>by rw[eP,sm,WY ns A B,sm];lia
def mu(mo:af)(ns:aa ag)(n:af)(L:aa Wt):af:=(mo-n)*6+sm ns L
def ww(ns:aa ag)(at_:ag)(M:aa Mk)(T:aa Tk)(K:aa (Str×Str))(kind:Str)(mo le:af)(ws:aa Str)(L:aa Wt)(x9 x10 x11 x12 x13 x14 x15 x16:D):aa D:=[.scr (ns.map ε),.int at_,bkD M T,.dct (knD K),.str kind,.int (mo:af),.int (le:af),.lst (ws.map δ),.lst (L.map wD),x9,x10,x11,x12,x13,x14,x15,x16]
abbrev w9(ns:aa ag)(at_:ag)(M:aa Mk)(T:aa Tk)(K:aa (Str×Str))(kind:Str)(mo le:af)(ws:aa Str)(L:aa Wt)(h:Wt)(dr:ag)(F:aa Str)(R:aa Mk)(A:aa Tk)(x14 x15 x16:D):aa D:=ww ns at_ M T K kind mo le ws L (wD h) (.int dr) (.lst (F.map δ)) (.lst (R.map mkD)) (.lst (A.map tkD)) x14 x15 x16
def aL9:FS:=(bN (R3 8 9 bQ) (bN (cR ah 10 (aN (cP 2 aQ) (aC cA (aC (b2 (bI .add) fG (aN eQ (aC jF aO))) aO))) ae) (bN (cR ah 11 wfit ae) (bN (cR ah 12 (aMl 0) ae) (bN (cR ah 13 (aMl 1) ae) (sIf c1s b1s (sIf c2s b2s (sIf c3s b3s b4s))))))))
theorem GQ(f:α->D)(L:aa α)(i:ag)(h0:0<=i)(h1:i<L.length):∃a∈L,getD (.lst (L.map f)) (.int i)=.ok (f a):=by
 obtain⟨hl,e⟩:=H_ (L.map f) i h0 (by rw[aw];exact h1);rw[e,zx];exact⟨_,ol ..,rfl⟩
section
theorem aFv(f:α->D)(F G:aa α)(i:ag)(h0:0<=i)(h1:i<(F++G).length):∃a∈F++G,(i<F.length->a∈F)/\getD (.lst ((F++G).map f)) (.int i)=.ok (f a):=by
 have hl:i.toNat<(F++G).length:=by lia
 refine⟨(F++G)[i.toNat],ol _,λh=>?_,?_⟩
 ·rw[List.getElem_append_left (show i.toNat<F.length by lia)];exact ol _
 ·have:=(H_ ((F++G).map f) i h0 (by rw[aw];exact h1)).2;rw[this,zx]
theorem aLa(hw:ws.length<=600)(hr:r.length<=600)(hd:0<=dr)(hF:F.length<=100)(hm:m0.2.2.length<=3) :
  ∃(w:Str)(L:aa Wt),(L=r\/L=(m0.2.2.map λx=>(x,ae))++r)/\(F=[]->w=m0.1/\L=(m0.2.2.map λx=>(x,ae))++r)/\(F≠[]->w∈F/\L=r)/\b2s (w9 ns at_ M T K kind mo le ws r h dr F (m0::R) A x14 x15 x16)=.ok (.nx (w9 ns at_ M T K kind mo le (ws++[w]) L h dr F (m0::R) A x14 x15 x16)):=by
 have f4:=fV dr 4 0x4 0x4;obtain⟨n,n1,n2,hn⟩:∃n:ag,0<n/\n<(F++[m0.1]).length+1/\max2 [.int 1,.int (F.length:af)]=.ok (.int n)/\(n<=1\/n<=F.length):=by
  refine⟨_,?_,?_,aSr F.length,?_⟩
  ·split<;>lia
  ·rw[bg,aS];split<;>lia
  ·split<;>lia
 have m4:=dH (dr / 4) n n1;have p1:=eJ (dr / 4) (show n≠0 by lia);have p2:=ff (dr / 4) n1;obtain⟨w,hwm,hwF,hg⟩:=aFv δ F [m0.1] (dr / 4 % n) p1 0x1;rw[b6,show dz δ [m0.1]=[δ m0.1] from rfl] at hg;have g0:getD (.lst ((m0::R).map mkD)) (.int 0)=.ok (mkD m0):=(H_ ((m0::R).map mkD) 0 (C5 0) (by rw[aw,aS];lia)).2;have hap:Q_ 7 (b2 getD (b2 (bI .add) n6 (oN (aC (b2 getD (b2 getD mW bQ) bQ) aO))) (b2 (bI .mod) (b2 (bI .fdiv) sS J_) (aN max2 (aC cF (aC (aN eQ (aC n6 aO)) aO))))) (w9 ns at_ M T K kind mo le ws r h dr F (m0::R) A x14 x15 x16)=.ok (.nx (w9 ns at_ M T K kind mo le (ws++[w]) r h dr F (m0::R) A x14 x15 x16)):=by
  have e1:b2 (bI .add) n6 (oN (aC (b2 getD (b2 getD mW bQ) bQ) aO)) (w9 ns at_ M T K kind mo le ws r h dr F (m0::R) A x14 x15 x16)=.ok (.lst (F.map δ++[.str m0.1])):=aJ rfl (nG (aD (aJ (aJ rfl rfl g0) rfl rfl) rfl) (cX (dm rfl)) rfl) (nA _ _ (by rw[aw];exact cX (by show F.length+1<=1000;lia)) (bJ F) rfl);have e2:b2 (bI .mod) (b2 (bI .fdiv) sS J_) (aN max2 (aC cF (aC (aN eQ (aC n6 aO)) aO))) (w9 ns at_ M T K kind mo le ws r h dr F (m0::R) A x14 x15 x16)=.ok (.int (dr / 4 % n)):=aJ (aJ rfl rfl f4) (aU (aD rfl (aD (aU (xs:=[.lst (F.map δ)]) 0xf (by rw[iZ,aw])) rfl)) hn.1) m4;have e3:=aJ e1 e2 hg;have ap:=oM (i:=7) (xs:=ws.map δ) (d:=.str w) e3 rfl (by rw[aw];exact cK (show ws.length<1000 by lia) (cX (aT _))) rfl;unfold w9 ww;rw[b6];exact ap
 have hc:bTB (b2 (cT .eq) (aN eQ (aC n6 aO)) bQ) (w9 ns at_ M T K kind mo le (ws++[w]) r h dr F (m0::R) A x14 x15 x16)=.ok (((F.length:af):ag)==0):=dG (aJ (x:=.int (F.length:af)) (y:=.int 0) (aU (xs:=[.lst (F.map δ)]) 0xf (by rw[iZ,aw])) rfl (eq_int _ _));by_cases z:(((F.length:af):ag)==0)=ae
 ·rw[z] at hc;refine⟨w,_,.inr rfl,λq=>⟨by rw[q] at hwm;exact eL.mp hwm,rfl⟩,λq=>ay (C8.mp (by have:=eq_of_beq z;lia)) q,aM hap (V4 hc ?_)⟩;have e:=dX (i:=8) (d:=.lst ((m0.2.2.map λx=>(x,ae)).map wD++r.map wD)) (aJ (f:=bI .add) (x:=.lst ((m0.2.2.map λx=>(x,ae)).map wD)) (y:=.lst (r.map wD)) (J3 (n:=0) (ρ:=w9 ns at_ M T K kind mo le (ws++[w]) r h dr F (m0::R) A x14 x15 x16) (a:=b2 getD (b2 getD mW bQ) gP) (b:=ae) rfl (aJ (x:=mkD m0) (y:=.int 2) (aJ (x:=.lst ((m0::R).map mkD)) (y:=.int 0) rfl rfl g0) rfl rfl) 0x1) (b:=gM 8) rfl (nA _ _ (by simp only[aw];exact cX 0x1) (aP tU _) (aP tU _))) (by rw[<-b6];exact aP tU _);rw[e,<-b6];rfl
 ·rw[oQ] at z;rw[z] at hc;exact⟨w,r,.inl rfl,λq=>(by rw[q] at z;cases z),λq=>⟨hwF (by have h0:0<F.length:=C9.mpr q;rcases hn.2 with h|h<;>lia),rfl⟩,aM hap (oK hc rfl)⟩
theorem aLb(hw:ws.length<=600)(hm:m2.2.2=[p]) :
  b1s (w9 ns at_ M T K kind mo le ws [] h dr F (m0::m2::R) A x14 x15 x16)=.ok (.nx (w9 ns at_ M T K kind mo le (ws++[m2.1]) [(p,ah)] h dr F (m0::m2::R) A x14 x15 x16)):=by
 have g0:getD (.lst ((m0::m2::R).map mkD)) (.int 1)=.ok (mkD m2):=(H_ ((m0::m2::R).map mkD) 1 0x4 (by rw[aw,aS,aS];lia)).2;refine aM (ρ':=w9 ns at_ M T K kind mo le (ws++[m2.1]) [] h dr F (m0::m2::R) A x14 x15 x16) ?_ ?_
 ·have ap:=oM (i:=7) (ρ:=w9 ns at_ M T K kind mo le ws [] h dr F (m0::m2::R) A x14 x15 x16) (f:=b2 getD (b2 getD mW cF) bQ) (xs:=ws.map δ) (d:=.str m2.1) (aJ (x:=mkD m2) (y:=.int 0) (aJ (x:=.lst ((m0::m2::R).map mkD)) (y:=.int 1) rfl rfl g0) rfl rfl) rfl (by rw[aw];exact cK (show ws.length<1000 by lia) (cX (aT _))) rfl;unfold w9 ww;rw[b6];exact ap
 ·have g2:getD (mkD m2) (.int 2)=.ok (.tup [.str p]):=by
   show ι (ξ (m2.2.2.map δ))=_;rw[hm];rfl
  exact dX (i:=8) (d:=.lst [wD (p,ah)]) (nG (xs:=[wD (p,ah)]) (aD (bK (xs:=[.str p,.bl ah]) (aD (aJ (x:=.tup [.str p]) (y:=.int 0) (aJ (x:=mkD m2) (y:=.int 2) (aJ (x:=.lst ((m0::m2::R).map mkD)) (y:=.int 1) rfl rfl g0) rfl g2) rfl rfl) 0xf) iU) rfl) (cX (dm rfl)) rfl) rfl
theorem aLc(hw:ws.length<=600)(hr:r.length<=600)(hd:0<=dr)(hR:(m0::R).length<=100)(hm:∀m∈m0::R,m.2.2.length<=3) :
  ∃(m:Mk)(y14:D),m∈m0::R/\b3s (w9 ns at_ M T K kind mo le ws r h dr F (m0::R) A x14 x15 x16)=.ok (.nx (w9 ns at_ M T K kind mo le (ws++[m.1]) ((m.2.2.map λx=>(x,ah))++r) h dr F (m0::R) A y14 x15 x16)):=by
 have f4:=fV dr 4 0x4 0x4;have n1:(0:ag)<((m0::R).length:af):=by rw[aS];lia
 have m4:=dH (dr / 4) ((m0::R).length:af) n1;have p1:=eJ (dr / 4) (show(((m0::R).length:af):ag)≠0 by lia);have p2:=ff (dr / 4) n1;obtain⟨m,hmm,hg⟩:=GQ mkD (m0::R) (dr / 4 % ((m0::R).length:af)) p1 p2;have h3:=hm m hmm;refine⟨m,mkD m,hmm,?_⟩;refine aM (eZ (aJ rfl (aJ (aJ rfl rfl f4) (aU (xs:=[.lst ((m0::R).map mkD)]) 0xf (by rw[iZ,aw])) m4) hg) (j5 m)) ?_;refine aM (ρ':=w9 ns at_ M T K kind mo le (ws++[m.1]) r h dr F (m0::R) A (mkD m) x15 x16) ?_ ?_
 ·have ap:=oM (i:=7) (ρ:=w9 ns at_ M T K kind mo le ws r h dr F (m0::R) A (mkD m) x15 x16) (f:=b2 getD mX bQ) (xs:=ws.map δ) (d:=.str m.1) (aJ (x:=mkD m) (y:=.int 0) rfl rfl rfl) rfl (by rw[aw];exact cK (show ws.length<1000 by lia) (cX (aT _))) rfl;unfold w9 ww;rw[b6];exact ap
 ·have e:=dX (i:=8) (d:=.lst ((m.2.2.map λx=>(x,ah)).map wD++r.map wD)) (aJ (f:=bI .add) (x:=.lst ((m.2.2.map λx=>(x,ah)).map wD)) (y:=.lst (r.map wD)) (J3 (n:=0) (ρ:=w9 ns at_ M T K kind mo le (ws++[m.1]) r h dr F (m0::R) A (mkD m) x15 x16) (a:=b2 getD mX gP) (b:=ah) rfl (aJ (x:=mkD m) (y:=.int 2) rfl rfl rfl) 0x1) (b:=gM 8) rfl (nA _ _ (by simp only[aw];exact cX 0x1) (aP tU _) (aP tU _))) (by rw[<-b6];exact aP tU _);rw[e,<-b6];rfl
theorem aLd(hw:ws.length<=600)(hr:r.length<=600)(hd:0<=dr)(hA0:0<A.length)(hm:∀m∈A,m.2.2.2.length<=3) :
  ∃(m:Tk)(b:aq)(y15 y16:D),m∈A/\b4s (w9 ns at_ M T K kind mo le ws r h dr F (m0::R) A x14 x15 x16)=.ok (.nx (w9 ns at_ M T K kind mo le (ws++[m.1]) (((m.2.2.1,b)::(m.2.2.2.map λx=>(x,ah)))++r) h dr F (m0::R) A x14 y15 y16)):=by
 have f4:=fV dr 4 0x4 0x4;have f64:=fV dr 64 0x4 0x4;have m64:=dH (dr / 64) 4 0x4;have n1:(0:ag)<(A.length:af):=by lia
 have m4:=dH (dr / 4) (A.length:af) n1;have p1:=eJ (dr / 4) (show((A.length:af):ag)≠0 by lia);have p2:=ff (dr / 4) n1;obtain⟨m,hmm,hg⟩:=GQ tkD A (dr / 4 % (A.length:af)) p1 p2;have h3:=hm m hmm;refine⟨m,(ϒ ((0:ag)<((knD K).length:af))&&ϒ ((0:ag)<dr / 64 % 4)),tkD m,.bl (ϒ ((0:ag)<((knD K).length:af))&&ϒ ((0:ag)<dr / 64 % 4)),hmm,?_⟩;refine aM (eZ (aJ rfl (aJ (aJ rfl rfl f4) (aU (xs:=[.lst (A.map tkD)]) 0xf (by rw[iZ,aw])) m4) hg) (nH m)) ?_;refine aM (ρ':=w9 ns at_ M T K kind mo le (ws++[m.1]) r h dr F (m0::R) A x14 (tkD m) x16) ?_ ?_
 ·have ap:=oM (i:=7) (ρ:=w9 ns at_ M T K kind mo le ws r h dr F (m0::R) A x14 (tkD m) x16) (f:=b2 getD BL bQ) (xs:=ws.map δ) (d:=.str m.1) (aJ (x:=tkD m) (y:=.int 0) rfl rfl rfl) rfl (by rw[aw];exact cK (show ws.length<1000 by lia) (cX (aT _))) rfl;unfold w9 ww;rw[b6];exact ap
 have lx:aJl [.dct (knD K)]=.ok (.int ((knD K).length:af)):=by
  rw[aJl,al (aCp K)]
 generalize hb:(ϒ ((0:ag)<((knD K).length:af))&&ϒ ((0:ag)<dr / 64 % 4))=b;refine aM (ρ':=w9 ns at_ M T K kind mo le (ws++[m.1]) r h dr F (m0::R) A x14 (tkD m) (.bl b)) (b7 (i:=16) (by
  rw[<-hb];exact aL6 (aJ (x:=.int ((knD K).length:af)) (y:=.int 0) (aU (xs:=[.dct (knD K)]) 0xf lx) rfl (aMk _ _)) (aJ (x:=.int (dr / 64 % 4)) (y:=.int 0) (aJ (x:=.int (dr / 64)) (aJ (x:=.int dr) rfl rfl f64) rfl m64) rfl (aMk _ _)))) ?_
 have e:=dX (i:=8) (d:=.lst (([wD (m.2.2.1,b)]++(m.2.2.2.map λx=>(x,ah)).map wD)++r.map wD)) (aJ (f:=bI .add) (x:=.lst ([wD (m.2.2.1,b)]++(m.2.2.2.map λx=>(x,ah)).map wD)) (y:=.lst (r.map wD)) (aJ (f:=bI .add) (x:=.lst [wD (m.2.2.1,b)]) (y:=.lst ((m.2.2.2.map λx=>(x,ah)).map wD)) (nG (a:=aC (cM (aC (b2 getD BL gP) (aC BP aO))) aO) (xs:=[wD (m.2.2.1,b)]) (aD (bK (xs:=[.str m.2.2.1,.bl b]) (aD (aJ (x:=tkD m) (y:=.int 2) rfl rfl rfl) 0xf) iU) rfl) (cX (dm rfl)) rfl) (J3 (n:=0) (ρ:=w9 ns at_ M T K kind mo le (ws++[m.1]) r h dr F (m0::R) A x14 (tkD m) (.bl b)) (a:=b2 getD BL sW) (b:=ah) rfl (aJ (x:=tkD m) (y:=.int 3) rfl rfl rfl) 0x1) (nA _ _ (by simp only[aw];exact cX (by show 1+_<=1000;lia)) rfl (aP tU _))) (b:=gM 8) rfl (nA _ _ (by simp only[aw,bg];exact cX (by show 1+_+_<=1000;lia)) (aP tU ((m.2.2.1,b)::(m.2.2.2.map λx=>(x,ah)))) (aP tU _))) (by
  have:=aP tU (((m.2.2.1,b)::(m.2.2.2.map λx=>(x,ah)))++r);rw[b6] at this;exact this)
 have z:([wD (m.2.2.1,b)]++(m.2.2.2.map λx=>(x,ah)).map wD)++r.map wD=((((m.2.2.1,b)::(m.2.2.2.map λx=>(x,ah)))++r)).map wD:=by
  rw[b6];rfl
 rw[e,z];rfl
end
def Wd(M:aa Mk)(T:aa Tk)(w:Str)(a:af):Prop:=(∃m∈M,w=m.1/\a=m.2.2.length)\/∃t∈T,w=t.1/\a=t.2.2.2.length+1
def Wk(M:aa Mk)(T:aa Tk)(K:aa Str)(w:Str)(a:af):Prop:=Wd M T w a\/(w∈K/\a=0)
inductive Dk(M:aa Mk)(T:aa Tk)(K:aa Str):af->aa Str->Prop
 |nil:Dk M T K 0 []
 |cons {w:Str} {a n:af} {ws:aa Str}:Wk M T K w a->Dk M T K (a+n) ws->Dk M T K (n+1) (w::ws)
theorem aFw(xs:aa Str)(b:aq)(h:xs.length<=3):sm ns (xs.map λx=>(x,b))<=6:=by
 have:=(PQ ns (xs.map λx=>(x,b))).2;rw[aw] at this;lia
theorem aLe(hn:ns.length<=63)(hm:0<Ω)(hm3:Ω<=3)(hM:MOk ns Ω Ω.toNat M)(hT:∀t∈T,gZ ns Ω t)(hTl:T.length<=3)(hK:K.length<=100)(hw:ws.length<=600)(hr:r.length<=600)(hlm:le<=mo)(hk:∀q∈h::r,IsK ns Ω q.1) :
  ∃(w:Str)(L:aa Wt)(y9 y10 y11 y12 y13 y14 y15 y16:D),(∀q∈L,IsK ns Ω q.1)/\mu mo ns (ws.length+1) L+1<=mu mo ns ws.length (h::r)/\(∃a,Wk M T (K.map (·.1)) w a/\L.length=a+r.length)/\aL9 (ww ns at_ M T K kind mo le ws (h::r) x9 x10 x11 x12 x13 x14 x15 x16)=.ok (.nx (ww ns at_ M T K kind mo le (ws++[w]) L y9 y10 y11 y12 y13 y14 y15 y16)):=by
 have mm:((Ω.toNat:af):ag)=Ω:=by lia
 have hk0:=hk h (bj ..);have hkr:∀q∈r,IsK ns Ω q.1:=λq hq=>hk q (bp _ hq)
 have h1:R3 8 9 bQ (ww ns at_ M T K kind mo le ws (h::r) x9 x10 x11 x12 x13 x14 x15 x16)=.ok (.nx (ww ns at_ M T K kind mo le ws r (wD h) x10 x11 x12 x13 x14 x15 x16)):=rfl;have a1:=cZ at_ (ws.length:af);generalize hdr:drw ns (at_+(ws.length:af))=dr;have hd:0<=dr:=by rw[<-hdr];exact(oV hn _).2.1
 have h2:cR ah 10 (aN (cP 2 aQ) (aC cA (aC (b2 (bI .add) fG (aN eQ (aC jF aO))) aO))) ae (ww ns at_ M T K kind mo le ws r (wD h) x10 x11 x12 x13 x14 x15 x16)=.ok (.nx (ww ns at_ M T K kind mo le ws r (wD h) (.int dr) x11 x12 x13 x14 x15 x16)):=by
  refine b7 ?_;rw[<-hdr];exact uZ hn rfl (aJ rfl (aU (xs:=[.lst (ws.map δ)]) 0xf (by rw[iZ,aw])) a1)
 obtain⟨F,hF,hFm,eF⟩:=aPi (K:=K) (h:=h) 0x1 (x0:=.scr (ns.map ε)) (x1:=.int at_) (x2:=bkD M T) (x4:=.str kind) (x5:=.int (mo:af)) (x6:=.int (le:af)) (x7:=.lst (ws.map δ)) (x8:=.lst (r.map wD)) (x10:=.int dr) (x11:=x11) (x12:=x12) (x13:=x13) (x14:=x14) (x15:=x15) (x16:=x16);have h3:cR ah 11 wfit ae (ww ns at_ M T K kind mo le ws r (wD h) (.int dr) x11 x12 x13 x14 x15 x16)=.ok (.nx (ww ns at_ M T K kind mo le ws r (wD h) (.int dr) (.lst (F.map δ)) x12 x13 x14 x15 x16)):=b7 (i:=11) eF;obtain⟨m0,m2,R,hf,hq,hm2⟩:=hM.find h.1 (by rw[mm];exact hk0);have ml:=hM.len;have h4:cR ah 12 (aMl 0) ae (ww ns at_ M T K kind mo le ws r (wD h) (.int dr) (.lst (F.map δ)) x12 x13 x14 x15 x16)=.ok (.nx (ww ns at_ M T K kind mo le ws r (wD h) (.int dr) (.lst (F.map δ)) (.lst ((m0::m2::R).map mkD)) x13 x14 x15 x16)):=by
  rw[<-hf];exact b7 (i:=12) (aPj 0x1)
 generalize hA:(T.filter λm=>m.2.1==h.1)=A;have h5:cR ah 13 (aMl 1) ae (ww ns at_ M T K kind mo le ws r (wD h) (.int dr) (.lst (F.map δ)) (.lst ((m0::m2::R).map mkD)) x13 x14 x15 x16)=.ok (.nx (w9 ns at_ M T K kind mo le ws r h dr F (m0::m2::R) A x14 x15 x16)):=by
  rw[<-hA];exact b7 (i:=13) (aL8 0x1)
 have inM:∀m∈m0::m2::R,m∈M:=λm hq=>by
  rw[<-hf] at hq;exact(nr.mp hq).1
 have inT:∀m∈A,m∈T:=λm hq=>by
  rw[<-hA] at hq;exact(nr.mp hq).1
 have hlen:(m0::m2::R).length<=100:=by
  have:=List.length_filter_le (λm:Mk=>m.2.1==h.1) M;rw[hf] at this;lia
 have kd:∀m∈m0::m2::R,m.2.1=h.1:=λm hq=>by
  rw[<-hf] at hq;exact eq_of_beq (nr.mp hq).2
 have c1:c1s (w9 ns at_ M T K kind mo le ws r h dr F (m0::m2::R) A x14 x15 x16)=.ok (ϒ (((ws.length:af):ag)<(le:af))&&(((r.length:af):ag)==0)):=by
  have q1:bTB (b2 (cT (.ord .lt)) (aN eQ (aC jF aO)) lF) (w9 ns at_ M T K kind mo le ws r h dr F (m0::m2::R) A x14 x15 x16)=.ok (ϒ (((ws.length:af):ag)<(le:af))):=dG (aJ (x:=.int (ws.length:af)) (y:=.int (le:af)) (aU (xs:=[.lst (ws.map δ)]) 0xf (by rw[iZ,aw])) rfl (aSs _ _));have q2:bTB (b2 (cT .eq) (aN eQ (aC BK aO)) bQ) (w9 ns at_ M T K kind mo le ws r h dr F (m0::m2::R) A x14 x15 x16)=.ok (((r.length:af):ag)==0):=dG (aJ (x:=.int (r.length:af)) (y:=.int 0) (aU (xs:=[.lst (r.map wD)]) 0xf (by rw[iZ,aw])) rfl (eq_int _ _));cases hb:ϒ (((ws.length:af):ag)<(le:af)) with
  |true=>rw[hb] at q1;exact aBl q1 q2
  |false=>rw[hb] at q1;exact aJj q1
 have m4:=dH dr 4 0x4;have a2:=cZ (ws.length:af) (r.length:af);have c2:c2s (w9 ns at_ M T K kind mo le ws r h dr F (m0::m2::R) A x14 x15 x16)=.ok (h.2||(ϒ (((mo:af):ag)<=(ws.length:af)+(r.length:af))||(dr % 4==0))):=aL5 (ZW (aJ (x:=wD h) (y:=.int 1) rfl rfl rfl)) (aL5 (dG (aJ (x:=.int ((ws.length:af)+(r.length:af))) (y:=.int (mo:af)) (aJ (x:=.int (ws.length:af)) (y:=.int (r.length:af)) (aU (xs:=[.lst (ws.map δ)]) 0xf (by rw[iZ,aw])) (aU (xs:=[.lst (r.map wD)]) 0xf (by rw[iZ,aw])) a2) rfl (aUb _ _))) (dG (aJ (x:=.int (dr % 4)) (y:=.int 0) (aJ (x:=.int dr) rfl rfl m4) rfl (eq_int _ _))));have c3:c3s (w9 ns at_ M T K kind mo le ws r h dr F (m0::m2::R) A x14 x15 x16)=.ok (ϒ (dr % 4<3)||(((A.length:af):ag)==0)):=aL5 (dG (aJ (x:=.int (dr % 4)) (y:=.int 3) (aJ (x:=.int dr) rfl rfl m4) rfl (aSs _ _))) (dG (aJ (x:=.int (A.length:af)) (y:=.int 0) (aU (xs:=[.lst (A.map tkD)]) 0xf (by rw[iZ,aw])) rfl (eq_int _ _)));have fin:∀{res},sIf c1s b1s (sIf c2s b2s (sIf c3s b3s b4s)) (w9 ns at_ M T K kind mo le ws r h dr F (m0::m2::R) A x14 x15 x16)=res->aL9 (ww ns at_ M T K kind mo le ws (h::r) x9 x10 x11 x12 x13 x14 x15 x16)=res:=λe=>aM h1 (aM h2 (aM h3 (aM h4 (aM h5 e))))
 have wh:=aFu ns h;by_cases z1:(ϒ (((ws.length:af):ag)<(le:af))&&(((r.length:af):ag)==0))=ae
 ·rw[z1] at c1;rw[aI,dL] at z1;have hr0:r=[]:=C8.mp (by have:=eq_of_beq z1.2;lia);subst hr0;obtain⟨p,hp⟩:=BS.mp hm2;have mp:=hM.part m2 (inM m2 (bp _ (bj ..)));refine⟨m2.1,[(p,ah)],_,_,_,_,_,_,_,_,λq hql=>?_,?_,⟨1,.inl (.inl ⟨m2,inM m2 (bp _ (bj ..)),rfl,by rw[hp];rfl⟩),rfl⟩,fin (V4 c1 (aLb (ns:=ns) (at_:=at_) (M:=M) (T:=T) (K:=K) (kind:=kind) (mo:=mo) (le:=le) (h:=h) (R:=R) (A:=A) (x14:=x14) (x15:=x15) (x16:=x16) (F:=F) (m0:=m0) (p:=p) hw hp))⟩
  ·rw[eL.mp hql];exact mp.2.2 p (by rw[hp];exact bj ..)
  ·unfold mu;rw[sm,sm,sm,sm];have:=aFu ns (p,ah);lia
 rw[oQ] at z1;rw[z1] at c1;by_cases z:(h.2||(ϒ (((mo:af):ag)<=(ws.length:af)+(r.length:af))||(dr % 4==0)))=ae
 ·rw[z] at c2;obtain⟨w,L,hL,hL2,hL3,e⟩:=aLa (ns:=ns) (at_:=at_) (M:=M) (T:=T) (K:=K) (kind:=kind) (mo:=mo) (le:=le) (h:=h) (R:=m2::R) (A:=A) (x14:=x14) (x15:=x15) (x16:=x16) hw hr hd (F:=F) 0x1 (m0:=m0) (by rcases hq with q|⟨q,_⟩<;>rw[q]<;>exact dm rfl);refine⟨w,L,_,_,_,_,_,_,_,_,λq hql=>?_,?_,?_,fin (oK c1 (V4 c2 e))⟩
  rotate_right
  ·by_cases hF0:F=[]
   ·obtain⟨e1,e2⟩:=hL2 hF0;exact⟨_,.inl (.inl ⟨m0,inM m0 (bj ..),e1,rfl⟩),by rw[e2,bg,aw]⟩
   ·obtain⟨e1,e2⟩:=hL3 hF0;exact⟨0,.inr ⟨hFm w e1,rfl⟩,by rw[e2,ia]⟩
  ·rcases hL with rfl|rfl
   ·exact hkr q hql
   ·rcases dQ.mp hql with hql|hql
    ·obtain⟨x,hx,rfl⟩:=bE.mp hql;exact(hM.part m0 (inM m0 (bj ..))).2.2 x hx
    ·exact hkr q hql
  ·unfold mu;rw[sm];rcases hL with rfl|rfl
   ·lia
   ·rw[WY];rcases hq with q|⟨q,q2⟩
    ·rw[q];show _+(0+_)+1<=_;lia
    ·rw[q];have e1:sm ns ([wrd ns 0].map λx=>(x,ae))=1:=by
      show(if wrd ns 0=wrd ns 0 then 1 else 2)+0=1;rw[al rfl]
     have e2:wt ns h=2:=by
      unfold wt;rw[au q2]
     rw[e1,e2];lia
 ·rw[oQ] at z;rw[z] at c2;have lt:ws.length+r.length<mo:=by
   simp only[zy,s_] at z;lia
  by_cases y:(ϒ (dr % 4<3)||(((A.length:af):ag)==0))=ae
  ·rw[y] at c3;obtain⟨m,y14,hmm,e⟩:=aLc (ns:=ns) (at_:=at_) (M:=M) (T:=T) (K:=K) (kind:=kind) (mo:=mo) (le:=le) (h:=h) (F:=F) (A:=A) (x14:=x14) (x15:=x15) (x16:=x16) hw hr hd (m0:=m0) (R:=m2::R) hlen (λm hq=>(hM.part m (inM m hq)).2.1);have mp:=hM.part m (inM m hmm);refine⟨m.1,_,_,_,_,_,_,_,_,_,λq hql=>?_,?_,⟨_,.inl (.inl ⟨m,inM m hmm,rfl,rfl⟩),by rw[bg,aw]⟩,fin (oK c1 (oK c2 (V4 c3 e)))⟩
   ·rcases dQ.mp hql with hql|hql
    ·obtain⟨x,hx,rfl⟩:=bE.mp hql;exact mp.2.2 x hx
    ·exact hkr q hql
   ·unfold mu;have:=aFw (ns:=ns) m.2.2 ah mp.2.1;rw[sm,WY];lia
  ·rw[oQ] at y;rw[y] at c3;have hA0:0<A.length:=by
    simp only[zy,fI] at y;lia
   obtain⟨m,b,y15,y16,hmm,e⟩:=aLd (ns:=ns) (at_:=at_) (M:=M) (T:=T) (K:=K) (kind:=kind) (mo:=mo) (le:=le) (h:=h) (F:=F) (m0:=m0) (R:=m2::R) (x14:=x14) (x15:=x15) (x16:=x16) hw hr hd (A:=A) hA0 (λm hq=>yl (hT m (inT m hq)).2.2.2.1);have mp:=hT m (inT m hmm);refine⟨m.1,_,_,_,_,_,_,_,_,_,λq hql=>?_,?_,⟨_,.inl (.inr ⟨m,inT m hmm,rfl,rfl⟩),by simp only[bg,aS,aw]⟩,fin (oK c1 (oK c2 (oK c3 e)))⟩
   ·rcases dQ.mp hql with hql|hql
    ·rcases bu.mp hql with rfl|hql
     ·exact mp.2.2.1
     ·obtain⟨x,hx,rfl⟩:=bE.mp hql;exact mp.2.2.2.2 x hx
    ·exact hkr q hql
   ·unfold mu;have:=(PQ ns (m.2.2.2.map λx=>(x,ah))).2;rw[aw] at this;have:=mp.2.2.2.1;have:=aFu ns (m.2.2.1,b);rw[sm,WY,sm];lia
theorem aLf(hn:ns.length<=63)(hm:0<Ω)(hm3:Ω<=3)(hM:MOk ns Ω Ω.toNat M)(hT:∀t∈T,gZ ns Ω t)(hTl:T.length<=3)(hK:K.length<=100)(hlm:le<=mo) :
  ∀(n:af)(ws:aa Str)(L:aa Wt)(x9 x10 x11 x12 x13 x14 x15 x16:D),(∀q∈L,IsK ns Ω q.1)->mu mo ns ws.length L<n->ws.length+mu mo ns ws.length L<=600->
  ∃(vs:aa Str)(y9 y10 y11 y12 y13 y14 y15 y16:D),(vs.length<=mu mo ns ws.length L/\Dk M T (K.map (·.1)) L.length vs)/\aEw (bTB (b2 (cT (.ord .gt)) (aN eQ (aC BK aO)) bQ)) aL9 n (ww ns at_ M T K kind mo le ws L x9 x10 x11 x12 x13 x14 x15 x16)=.ok (.nx (ww ns at_ M T K kind mo le (ws++vs) [] y9 y10 y11 y12 y13 y14 y15 y16)):=by
 intro n;induction n with
 |zero=>intro ws L x9 x10 x11 x12 x13 x14 x15 x16 _ h;lia
 |succ n ih=>
  intro ws L x9 x10 x11 x12 x13 x14 x15 x16 hL h1 h2;have c:bTB (b2 (cT (.ord .gt)) (aN eQ (aC BK aO)) bQ) (ww ns at_ M T K kind mo le ws L x9 x10 x11 x12 x13 x14 x15 x16)=.ok (ϒ ((0:ag)<(L.length:af))):=dG (aJ (x:=.int (L.length:af)) (y:=.int 0) (aU (xs:=[.lst (L.map wD)]) 0xf (by rw[iZ,aw])) rfl (aMk _ _));cases L with
  |nil=>
   refine⟨[],x9,x10,x11,x12,x13,x14,x15,x16,⟨cz _,.nil⟩,?_⟩;rw[aEw,c,dq];rfl
  |cons h r=>
   have hl:=(PQ ns (h::r)).1;rw[aS] at hl;have hmu:sm ns (h::r)<=mu mo ns ws.length (h::r):=by unfold mu;lia
   obtain⟨w,L,y9,y10,y11,y12,y13,y14,y15,y16,i1,i2,i4,i3⟩:=aLe (at_:=at_) (kind:=kind) (mo:=mo) (le:=le) (x9:=x9) (x10:=x10) (x11:=x11) (x12:=x12) (x13:=x13) (x14:=x14) (x15:=x15) (x16:=x16) hn hm hm3 hM hT hTl hK (ws:=ws) (r:=r) (h:=h) 0x1 0x1 hlm hL;have wl:(ws++[w]).length=ws.length+1:=by rw[bg];rfl
   obtain⟨vs,z9,z10,z11,z12,z13,z14,z15,z16,j0,j⟩:=ih (ws++[w]) L y9 y10 y11 y12 y13 y14 y15 y16 i1 (by rw[wl];lia) (by rw[wl];lia);refine⟨w::vs,z9,z10,z11,z12,z13,z14,z15,z16,⟨by have:=j0.1;rw[wl] at this;rw[aS];lia,?_⟩,?_⟩
   ·obtain⟨a,k1,k2⟩:=i4;have d:=j0.2;rw[k2] at d;exact .cons k1 d
   rw[show ws++w::vs=ws++[w]++vs by simp];have:ϒ ((0:ag)<((h::r).length:af))=ae:=bh (by rw[aS];lia);rw[aEw,c,this,τ,al rfl,i3];exact j
theorem aFx(hn:ns.length<=63)(hm:0<Ω)(hm3:Ω<=3)(hM:MOk ns Ω Ω.toNat M)(hT:∀t∈T,gZ ns Ω t)(hTl:T.length<=3)(hK:K.length<=100)(hlm:le<=mo)(hmo:mo<=70)(hk:IsK ns Ω kind) :
  ∃vs:aa Str,(vs.length<=6*mo+2/\Dk M T (K.map (·.1)) 1 vs)/\cP 7 gB [.scr (ns.map ε),.int at_,bkD M T,.dct (knD K),.str kind,.int (mo:af),.int (le:af)]=.ok (.tup (vs.map δ)):=by
 have m1:mu mo ns ([]:aa Str).length [(kind,ah)]<=6*mo+2:=by
  have:=(PQ ns [(kind,ah)]).2;unfold mu;have e:[(kind,ah)].length=1:=rfl;have e2:([]:aa Str).length=0:=rfl;lia
 obtain⟨vs,z9,z10,z11,z12,z13,z14,z15,z16,j0,j⟩:=aLf hn hm hm3 hM hT hTl hK hlm 1000 [] [(kind,ah)] .uD .uD .uD .uD .uD .uD .uD .uD (λq hq=>by rw[eL.mp hq];exact hk) 0x1 (by show 0+_<=600;lia);refine⟨vs,⟨c9 j0.1 m1,j0.2⟩,(eY rfl).trans (call_v ?_)⟩;unfold wO;refine aM (dX (tR rfl (cz _)) rfl) ?_;refine aM (dX (nG (aD (bK 0xe iU) rfl) (cX (dm rfl)) rfl) rfl) ?_;refine aM j ?_;exact kW (aU 0xf rfl) (by rw[μ,bJ];rfl)
noncomputable abbrev Rl:=Str×Str×aa Str×aa Str
noncomputable def rlD(r:Rl):D:=.tup [.str r.1,.str r.2.1,.tup (r.2.2.1.map δ),.tup (r.2.2.2.map δ)]
theorem uA(r:Rl):(rlD r).pure=ae:=by
 show(ae&&(ae&&((ξ (r.2.2.1.map δ)).pure&&((ξ (r.2.2.2.map δ)).pure&&ae))))=ae;rw[μ,μ,bJ,bJ];rfl
theorem aHj:∀(K:aa (Str×Str))(x y:Str),∃K':aa (Str×Str),(K'.length<=K.length+1/\∀z∈K'.map (·.1),z∈K.map (·.1)\/z=x)/\putD (knD K) (.str x) (.str y)=knD K'
 |[],x,y=>⟨[(x,y)],⟨aT _,λz hz=>.inr (eL.mp hz)⟩,rfl⟩
 |p::K,x,y=>by
  show ∃K':aa (Str×Str),(K'.length<=(p::K).length+1/\∀z∈K'.map (·.1),z∈(p::K).map (·.1)\/z=x)/\(if (p.1==x) then (δ p.1,δ y)::knD K else (δ p.1,δ p.2)::putD (knD K) (.str x) (.str y))=knD K';by_cases z:(p.1==x)=ae
  ·rw[al z];exact⟨(p.1,y)::K,⟨by simp,λz hz=>.inl hz⟩,rfl⟩
  ·rw[au z];obtain⟨K',h1,h2⟩:=aHj K x y;rw[h2];refine⟨p::K',⟨?_,λz hz=>?_⟩,rfl⟩
   ·rw[aS,aS];have:=h1.1;lia
   ·rcases bu.mp hz with rfl|hz
    ·exact .inl (bj ..)
    ·exact(h1.2 z hz).imp (bp _) id
theorem aHk:∀(a b:aa Str)(K:aa (Str×Str)),∃K':aa (Str×Str),(K'.length<=K.length+a.length/\∀z∈K'.map (·.1),z∈K.map (·.1)\/z∈a)/\wL (a.map δ) (b.map δ) (knD K)=knD K'
 |[],b,K=>⟨K,⟨aT _,λz hz=>.inl hz⟩,by cases b<;>rfl⟩
 |x::a,[],K=>⟨K,⟨jo ..,λz hz=>.inl hz⟩,rfl⟩
 |x::a,y::b,K=>by
  obtain⟨K1,h1,h2⟩:=aHj K x y;obtain⟨K2,i1,i2⟩:=aHk a b K1;refine⟨K2,⟨by rw[aS];have:=h1.1;have:=i1.1;lia,λz hz=>?_⟩,?_⟩
  ·rcases i1.2 z hz with q|q
   ·rcases h1.2 z q with q|rfl
    ·exact .inl q
    ·exact .inr (bj ..)
   ·exact .inr (bp _ q)
  show wL (a.map δ) (b.map δ) (putD (knD K) (.str x) (.str y))=_;rw[h2,i2]
theorem aCr(a:aa Str):(a.map δ).all mV=ae:=by
 rw[fA];intro d hd;obtain⟨x,_,rfl⟩:=bE.mp hd;rfl
def rr(ns:aa ag)(M:aa Mk)(T:aa Tk)(R:aa Rl)(x3 x4 x5 x6 x7 x8 x9 x10:D):aa D:=[.scr (ns.map ε),bkD M T,.lst (R.map rlD),x3,x4,x5,x6,x7,x8,x9,x10]
theorem aFy(hn:ns.length<=63)(hρ:ρ.length=n)(h0:∀x:D,gM 0 (ρ++[x])=.ok (.scr (ns.map ε)))(hg:g ρ=.ok [.int sz])(hs1:sz<=100)
 (jf:ag->ag)(hf:∀p:ag,0<=jf p/\jf p<=33/\f (ρ++[.int p])=.ok (.int (jf p))) :
  e_ n (jK g tW) jL eU (aN (cP 2 a_) (aC cA (aC f aO))) ae ρ=.ok (.lst (((bm sz).map λ(k:af)=>wrd ns (jf (0+(k:ag)))).map δ)):=by
 have rg:=wK hg 0x1 0x1;rw[uq] at rg;refine fC rg (by rw[aw,eg,bR];lia) ?_;rw[dU _ (λ(k:af)=>ε (0+(k:ag))) (λ_=>ae) (λ(k:af)=>δ (wrd ns (jf (0+(k:ag)))))]
 ·rw[iX.mpr (λ_ _=>rfl),c6,cu];rfl
 ·intro acc k;obtain⟨j0,j1,e⟩:=hf (0+(k:ag));exact d8 hρ rfl rfl λ_=>⟨aU (aD (h0 _) (aD e rfl)) (oW hn j0 j1).1,rfl⟩
theorem aPk(a:aa Str):aJk (.lst (a.map δ))=.ok (.lst (a.reverse.map δ)):=by
 rw[aJk,al (bJ a),zz]
structure aDx(ns:aa ag)(M:aa Mk)(T:aa Tk)(r:Rl):Prop where
 tk:∃t∈T,r.1=t.1
 km:∃m∈M,r.2.1=m.1/\m.2.2.length<=r.2.2.1.length
 nm:∀x∈r.2.2.1,∃j:ag,(12<=j/\j<=16)/\x=wrd ns j
 ln:r.2.2.1.length<=5
 nd:r.2.2.1.Nodup
 wl:r.2.2.2.length<=32
 dk:Dk M T r.2.2.1 1 r.2.2.2
theorem Dk.mono(h:∀x∈K,x∈K'):Dk M T K n ws->Dk M T K' n ws
 |.nil=>.nil
 |.cons (.inl w) d=>.cons (.inl w) (Dk.mono h d)
 |.cons (.inr w) d=>.cons (.inr ⟨h _ w.1,w.2⟩) (Dk.mono h d)
theorem aPl(hn:ns.length<=63)(hm:0<Ω)(hm3:Ω<=3)(hM:MOk ns Ω Ω.toNat M)(hT:∀t∈T,gZ ns Ω t)(hTl:T.length<=3)(ht:t∈T)(hmm:m∈M)(hR:R.length<=200)(hR0:∀r∈R,aDx ns M T r) :
  ∃(R':aa Rl)(y5 y6 y7 y8 y9:D),(R'.length<=R.length+1/\∀r∈R',aDx ns M T r)/\irs (rr ns M T R (tkD t) (mkD m) x5 x6 x7 x8 x9 x10)=.ok (.nx (rr ns M T R' (tkD t) (mkD m) y5 y6 y7 y8 y9 x10)):=by
 have tp:=hT t ht;have mp:=hM.part m hmm;have c:bTB (b2 (cT .eq) (b2 getD jT cF) (b2 getD d9 gP)) (rr ns M T R (tkD t) (mkD m) x5 x6 x7 x8 x9 x10)=.ok (m.2.1==t.2.2.1):=dG (aJ (aJ rfl rfl rfl) (aJ rfl rfl rfl) (eq_str _ _));by_cases z:(m.2.1==t.2.2.1)=ae
 ·rw[z] at c;have at1:=wA (m.2.2.map δ) (t.2.2.2.map δ) (by rw[aw,aw];have:=mp.2.1;have:=tp.2.2.2.1;lia);rw[<-b6] at at1;generalize hks:m.2.2++t.2.2.2=ks at at1;have kl:ks.length<=5:=by rw[<-hks,bg];have:=mp.2.1;have:=tp.2.2.2.1;lia
  have km:m.2.2.length<=ks.length:=by rw[<-hks,bg];lia
  have a26:=cZ 26 (R.length:af);generalize hdr:drw ns (26+(R.length:af))=dr;have s1:cR ah 5 (b2 QR (b2 getD jT gP) (b2 getD d9 sW)) ah (rr ns M T R (tkD t) (mkD m) x5 x6 x7 x8 x9 x10)=.ok (.nx (rr ns M T R (tkD t) (mkD m) (.tup (ks.map δ)) x6 x7 x8 x9 x10)):=eZ (aJ (aJ rfl rfl rfl) (aJ rfl rfl rfl) at1) (by rw[μ,bJ]);have s2:cR ah 6 (aN (cP 2 aQ) (aC cA (aC (b2 (bI .add) K_ (aN eQ (aC fB aO))) aO))) ae (rr ns M T R (tkD t) (mkD m) (.tup (ks.map δ)) x6 x7 x8 x9 x10)=.ok (.nx (rr ns M T R (tkD t) (mkD m) (.tup (ks.map δ)) (.int dr) x7 x8 x9 x10)):=by
   refine b7 ?_;rw[<-hdr];exact uZ hn rfl (aJ rfl (aU (xs:=[.lst (R.map rlD)]) 0xf (by rw[iZ,aw])) a26)
  have en:=aFy (jf:=λp=>12+(dr+p) % 5) (n:=11) (ρ:=rr ns M T R (tkD t) (mkD m) (.tup (ks.map δ)) (.int dr) x7 x8 x9 x10) (f:=b2 (bI .add) aEg (b2 (bI .mod) (b2 (bI .add) lF n6) aGq)) (sz:=ks.length) (g:=aC (aN eQ (aC dZ aO)) aO) hn rfl (λ_=>rfl) (aD (aU (xs:=[.tup (ks.map δ)]) 0xf (show eQ [.tup (ks.map δ)]=.ok (.int (ks.length:af)) by rw[show eQ [.tup (ks.map δ)]=.ok (.int ((ks.map δ).length:af)) from rfl,aw])) rfl) 0x1 (λp=>by
   have e1:=cZ dr p;have e2:=dH (dr+p) 5 0x4;have e3:=cZ 12 ((dr+p) % 5);exact⟨by lia,by lia,aJ (x:=.int 12) (y:=.int ((dr+p) % 5)) rfl (aJ (x:=.int (dr+p)) (y:=.int 5) (aJ (x:=.int dr) (y:=.int p) rfl rfl e1) rfl e2) e3⟩)
  obtain⟨nm,hnm⟩:∃nm,nm=(bm ks.length).map λ(k:af)=>wrd ns (12+(dr+(0+(k:ag))) % 5):=⟨_,rfl⟩
  rw[<-hnm] at en;have nl:nm.length=ks.length:=by rw[hnm,aw,eg]
  have nP:∀x∈nm,∃j:ag,(12<=j/\j<=16)/\x=wrd ns j:=λx hx=>by
   rw[hnm] at hx;obtain⟨k,_,rfl⟩:=bE.mp hx;exact⟨_,by lia,rfl⟩
  have nnd:nm.Nodup:=by
   rw[hnm];unfold ni;rw[kf];refine(vm).imp_of_mem λ{a b} ha hb hab z=>?_
   have ha:=fx.mp ha;have hb:=fx.mp hb;have:=v8 hn 0x1 0x1 0x1 0x1 z;lia
  have s3:=b7 (i:=7) en;have f5:=fV dr 5 0x4 0x4;have m2:=dH (dr / 5) 2 0x4;have gt:=J1 (.lst (nm.map δ)) (.lst (nm.reverse.map δ)) (dr / 5 % 2) 0x1 0x1;obtain⟨nn,nnl,nnm,gt'⟩:∃nn:aa Str,nn.length=nm.length/\((∀x∈nn,x∈nm)/\nn.Nodup)/\getD (.lst [.lst (nm.map δ),.lst (nm.reverse.map δ)]) (.int (dr / 5 % 2))=.ok (.lst (nn.map δ)):=by
   by_cases y:dr / 5 % 2=0
   ·rw[al y] at gt;exact⟨nm,rfl,⟨λ_ h=>h,nnd⟩,gt⟩
   ·rw[au y] at gt;exact⟨nm.reverse,mE,⟨λ_ h=>Co.mp h,(List.reverse_perm nm).nodup_iff.mpr nnd⟩,gt⟩
  have s4:cR ah 7 (aN kE (aC (b2 getD (BR (aC jF (aC (b1 aJk jF) aO))) (b2 (bI .mod) (b2 (bI .fdiv) lF aGq) gP)) aO)) ah (rr ns M T R (tkD t) (mkD m) (.tup (ks.map δ)) (.int dr) (.lst (nm.map δ)) x8 x9 x10)=.ok (.nx (rr ns M T R (tkD t) (mkD m) (.tup (ks.map δ)) (.int dr) (.tup (nn.map δ)) x8 x9 x10)):=by
   have rv:b1 aJk jF (rr ns M T R (tkD t) (mkD m) (.tup (ks.map δ)) (.int dr) (.lst (nm.map δ)) x8 x9 x10)=.ok (.lst (nm.reverse.map δ)):=aPk nm;exact eZ (i:=7) (d:=.tup (nn.map δ)) (aU (xs:=[.lst (nn.map δ)]) (aD (aJ (tR (xs:=[.lst (nm.map δ),.lst (nm.reverse.map δ)]) (aD rfl (aD rv rfl)) iU) (aJ (x:=.int (dr / 5)) (aJ (x:=.int dr) rfl rfl f5) rfl m2) gt') rfl) rfl) (by rw[μ,bJ])
  obtain⟨K,⟨kk,kz⟩,ek⟩:=aHk nn ks [];rw[fw] at kk;have zp:E_ [.tup (nn.map δ),.tup (ks.map δ)]=.ok (.dct (knD K)):=by
   rw[E_,al (by rw[aCr,bJ,aw,aw,bh (show nn.length<=1000 by lia),bh (show ks.length=nn.length by lia)];rfl)];exact cy (λx=>ι (ψ x)) ek
  have s5:cR ah 8 (aN E_ (aC jF (aC dZ aO))) ae (rr ns M T R (tkD t) (mkD m) (.tup (ks.map δ)) (.int dr) (.tup (nn.map δ)) x8 x9 x10)=.ok (.nx (rr ns M T R (tkD t) (mkD m) (.tup (ks.map δ)) (.int dr) (.tup (nn.map δ)) (.dct (knD K)) x9 x10)):=b7 (i:=8) (aU (xs:=[.tup (nn.map δ),.tup (ks.map δ)]) 0xe zp);have m20:=vP 20 (R.length:af) 0x4;have a100:=cZ 100 (20*(R.length:af));obtain⟨vs,vd,ew⟩:=aFx (at_:=100+20*(R.length:af)) (K:=K) (kind:=t.2.1) (mo:=5) (le:=0) hn hm hm3 hM hT hTl 0x1 0x4 0x4 tp.2.1;have s6:cR ah 9 (aN (λds=>cP 7 gB (ds++[.int 0])) (aC cA (aC (b2 (bI .add) (bC (.int 100)) (b2 vD (bC (.int 20)) (aN eQ (aC fB aO)))) (aC fG (aC BK (aC (b2 getD d9 cF) (aC aGq aO))))))) ae (rr ns M T R (tkD t) (mkD m) (.tup (ks.map δ)) (.int dr) (.tup (nn.map δ)) (.dct (knD K)) x9 x10)=.ok (.nx (rr ns M T R (tkD t) (mkD m) (.tup (ks.map δ)) (.int dr) (.tup (nn.map δ)) (.dct (knD K)) (.tup (vs.map δ)) x10)):=b7 (i:=9) (aU (xs:=[.scr (ns.map ε),.int (100+20*(R.length:af)),bkD M T,.dct (knD K),.str t.2.1,.int 5]) (aD rfl (aD (aJ (x:=.int 100) (y:=.int (20*(R.length:af))) rfl (aJ (x:=.int 20) (y:=.int (R.length:af)) rfl (aU (xs:=[.lst (R.map rlD)]) 0xf (by rw[iZ,aw])) m20) a100) (aD rfl (aD rfl (aD (aJ (x:=tkD t) (y:=.int 1) rfl rfl rfl) 0xf))))) ew);have ap:=oM (i:=2) (ρ:=rr ns M T R (tkD t) (mkD m) (.tup (ks.map δ)) (.int dr) (.tup (nn.map δ)) (.dct (knD K)) (.tup (vs.map δ)) x10) (f:=cM (aC (b2 getD d9 bQ) (aC (b2 getD jT bQ) (aC jF (aC BJ aO))))) (xs:=R.map rlD) (d:=rlD (t.1,m.1,nn,vs)) (bK (xs:=[.str t.1,.str m.1,.tup (nn.map δ),.tup (vs.map δ)]) (aD (aJ (x:=tkD t) (y:=.int 0) rfl rfl rfl) (aD (aJ (x:=mkD m) (y:=.int 0) rfl rfl rfl) 0xe)) (cX (dm rfl))) rfl (by rw[aw,bR];lia) (uA _);refine⟨R++[(t.1,m.1,nn,vs)],.tup (ks.map δ),.int dr,.tup (nn.map δ),.dct (knD K),.tup (vs.map δ),⟨by rw[bg];exact aT _,λr hr=>?_⟩,V4 c (aM s1 (aM s2 (aM s3 (aM s4 (aM s5 (aM s6 ?_))))))⟩
  ·rcases dQ.mp hr with hr|hr
   ·exact hR0 r hr
   ·rw[eL.mp hr];exact⟨⟨t,ht,rfl⟩,⟨m,hmm,rfl,by show m.2.2.length<=nn.length;lia⟩,λx hx=>nP x (nnm.1 x hx),by show nn.length<=5;lia,nnm.2,vd.1,vd.2.mono λx hx=>(kz x hx).elim (λh=>by cases h) id⟩
  unfold rr;rw[b6];exact ap
 ·rw[oQ] at z;rw[z] at c;exact⟨R,x5,x6,x7,x8,x9,⟨gp _,hR0⟩,oK c rfl⟩
theorem W0(hn:ns.length<=63)(hm:0<Ω)(hm3:Ω<=3)(hM:MOk ns Ω Ω.toNat M)(hT:∀t∈T,gZ ns Ω t)(hTl:T.length<=3)(ht:t∈T) :
  ∀(N:aa Mk)(R:aa Rl)(x4 x5 x6 x7 x8 x9 x10:D),(∀m∈N,m∈M)->R.length+N.length<=200->(∀r∈R,aDx ns M T r)->∃(R':aa Rl)(y4 y5 y6 y7 y8 y9:D),(R'.length<=R.length+N.length/\∀r∈R',aDx ns M T r)/\n8 (tg1 4) irs (N.map mkD) (rr ns M T R (tkD t) x4 x5 x6 x7 x8 x9 x10)=.ok (.nx (rr ns M T R' (tkD t) y4 y5 y6 y7 y8 y9 x10))
 |[],R,x4,x5,x6,x7,x8,x9,x10,_,_,h0=>⟨R,x4,x5,x6,x7,x8,x9,⟨aT _,h0⟩,rfl⟩
 |m::N,R,x4,x5,x6,x7,x8,x9,x10,hN,hl,h0=>by
  rw[aS] at hl;obtain⟨R1,y5,y6,y7,y8,y9,h1,h2⟩:=aPl hn hm hm3 hM hT hTl ht (hN m (bj ..)) 0x1 h0;obtain⟨R2,z4,z5,z6,z7,z8,z9,i1,i2⟩:=W0 hn hm hm3 hM hT hTl ht N R1 (mkD m) y5 y6 y7 y8 y9 x10 (λq hq=>hN q (bp _ hq)) (by have:=h1.1;lia) h1.2;refine⟨R2,z4,z5,z6,z7,z8,z9,⟨by rw[aS];have:=h1.1;have:=i1.1;lia,i1.2⟩,?_⟩;exact cC rfl h2 i2
theorem W2(hn:ns.length<=63)(hm:0<Ω)(hm3:Ω<=3)(hM:MOk ns Ω Ω.toNat M)(hT:∀t∈T,gZ ns Ω t)(hTl:T.length<=3) :
  ∀(N:aa Tk)(R:aa Rl)(x3 x4 x5 x6 x7 x8 x9 x10:D),(∀m∈N,m∈T)->R.length+9*N.length<=200->(∀r∈R,aDx ns M T r)->∃(R':aa Rl)(y3 y4 y5 y6 y7 y8 y9:D),(R'.length<=R.length+9*N.length/\∀r∈R',aDx ns M T r)/\n8 (tg1 3) (xO (bW (b2 getD fG bQ) ah) (tg1 4) irs) (N.map tkD) (rr ns M T R x3 x4 x5 x6 x7 x8 x9 x10)=.ok (.nx (rr ns M T R' y3 y4 y5 y6 y7 y8 y9 x10))
 |[],R,x3,x4,x5,x6,x7,x8,x9,x10,_,_,h0=>⟨R,x3,x4,x5,x6,x7,x8,x9,⟨aT _,h0⟩,rfl⟩
 |t::N,R,x3,x4,x5,x6,x7,x8,x9,x10,hN,hl,h0=>by
  rw[aS] at hl;have ml:=hM.len;obtain⟨R1,y4,y5,y6,y7,y8,y9,h1,h2⟩:=W0 hn hm hm3 hM hT hTl (hN t (bj ..)) M R x4 x5 x6 x7 x8 x9 x10 (λ_ h=>h) 0x1 h0;obtain⟨R2,z3,z4,z5,z6,z7,z8,z9,i1,i2⟩:=W2 hn hm hm3 hM hT hTl N R1 (tkD t) y4 y5 y6 y7 y8 y9 x10 (λq hq=>hN q (bp _ hq)) (by have:=h1.1;lia) h1.2;refine⟨R2,z3,z4,z5,z6,z7,z8,z9,⟨by rw[aS];have:=h1.1;have:=i1.1;lia,i1.2⟩,?_⟩;have pm:(ah||(ξ (M.map mkD)).pure)=ae:=by rw[μ,aP j5];rfl
  have it:=fO (a:=b2 getD fG bQ) (ρ:=rr ns M T R (tkD t) x4 x5 x6 x7 x8 x9 x10) (aJ (x:=bkD M T) (y:=.int 0) rfl rfl rfl);rw[pm] at it;exact cC (ρ1:=rr ns M T R (tkD t) x4 x5 x6 x7 x8 x9 x10) rfl (nT it h2) i2
theorem xY(f:α->D)(L:aa α)(lo hi:ar ag):cutD (L.map f) lo hi=(cutD L lo hi).map f:=by
 unfold cutD;rw[aw,List.map_take,List.map_drop]
theorem sI(L:aa α)(lo hi:ar ag):(cutD L lo hi).length<=L.length:=by
 unfold cutD;exact c9 (List.length_take_le' ..) (by rw[mi];lia)
theorem aFz(hn:ns.length<=63)(hm:0<Ω)(hm3:Ω<=3)(hM:MOk ns Ω Ω.toNat M)(hT:∀t∈T,gZ ns Ω t)(hTl:T.length<=3):∃R:aa Rl,(R.length<=60/\∀r∈R,aDx ns M T r)/\cP 2 k_ [.scr (ns.map ε),bkD M T]=.ok (.tup (R.map rlD)):=by
 obtain⟨R,y3,y4,y5,y6,y7,y8,y9,h1,h2⟩:=W2 hn hm hm3 hM hT hTl T [] .uD .uD .uD .uD .uD .uD .uD .uD (λ_ h=>h) (by show 0+_<=200;lia) (λ_ h=>by cases h);rw[fw] at h1;have h1a:=h1.1;obtain⟨n,n1,hx⟩:∃n:ag,0<n/\max2 [.int 1,.int (R.length:af)]=.ok (.int n):=by
  refine⟨_,?_,aSr R.length⟩;split<;>lia
 have mn:=dH (drw ns 35) n n1;generalize hat:drw ns 35 % n=at_ at mn;have pt:(ah||(ξ (T.map tkD)).pure)=ae:=by rw[μ,aP nH];rfl
 have it:=fO (a:=b2 getD fG cF) (ρ:=rr ns M T [] .uD .uD .uD .uD .uD .uD .uD .uD) (xs:=T.map tkD) (aJ (x:=bkD M T) (y:=.int 1) rfl rfl rfl);rw[pt] at it;have cm:∀lo hi,∀r∈cutD R lo hi,r∈R:=λlo hi r h=>by
  unfold cutD at h;exact zC (zD h)
 refine⟨cutD R (ab at_) ai++cutD R ai (ab at_),⟨?_,λr hr=>?_⟩,(eY rfl).trans (call_v ?_)⟩
 ·have l1:=sI R (ab at_) ai;have l2:=sI R ai (ab at_);rw[bg];lia
 ·rcases dQ.mp hr with h|h
  ·exact h1.2 r (cm _ _ r h)
  ·exact h1.2 r (cm _ _ r h)
 unfold wQ;refine aM (ρ':=rr ns M T [] .uD .uD .uD .uD .uD .uD .uD .uD) (dX (i:=2) (tR (xs:=[]) rfl (cz _)) rfl) ?_;refine aM (nT it h2) ?_;refine aM (ρ':=rr ns M T R y3 y4 y5 y6 y7 y8 y9 (.int at_)) (b7 (i:=10) (aJ (x:=.int (drw ns 35)) (y:=.int n) (uZ hn rfl rfl) (aU (xs:=[.int 1,.int (R.length:af)]) (aD rfl (aD (aU (xs:=[.lst (R.map rlD)]) 0xf (by rw[iZ,aw])) rfl)) hx) mn)) ?_;have sl:∀lo hi,aDu (.lst (R.map rlD)) lo hi=.ok (.lst ((cutD R lo hi).map rlD)):=λlo hi=>by
  show aMd (.lst (R.map rlD)) lo hi=_;rw[aMd,al (aP uA R),xY]
 have e1:V3 fB (jH sS) jJ (rr ns M T R y3 y4 y5 y6 y7 y8 y9 (.int at_))=.ok (.lst ((cutD R (ab at_) ai).map rlD)):=sl (ab at_) ai;have e2:V3 fB jJ (jH sS) (rr ns M T R y3 y4 y5 y6 y7 y8 y9 (.int at_))=.ok (.lst ((cutD R ai (ab at_)).map rlD)):=sl ai (ab at_);have l1:=sI R (ab at_) ai;have l2:=sI R ai (ab at_);have e3:=nA ((cutD R (ab at_) ai).map rlD) ((cutD R ai (ab at_)).map rlD) (by rw[aw,aw];exact cX 0x1) (aP uA _) (aP uA _);rw[<-b6] at e3;exact kW (d:=.tup ((cutD R (ab at_) ai++cutD R ai (ab at_)).map rlD)) (aU (xs:=[.lst ((cutD R (ab at_) ai++cutD R ai (ab at_)).map rlD)]) (aD (aJ e1 e2 e3) rfl) rfl) (by rw[μ,aP uA];rfl)
def pgD(ks:aa Str)(M:aa Mk)(T:aa Tk)(R:aa Rl):D:=.tup [.tup (ks.map δ),.tup (M.map mkD),.tup (T.map tkD),.tup (R.map rlD)]
theorem aLg(ks:aa Str)(M:aa Mk)(T:aa Tk)(R:aa Rl):(pgD ks M T R).pure=ae:=by
 show((ξ (ks.map δ)).pure&&((ξ (M.map mkD)).pure&&((ξ (T.map tkD)).pure&&((ξ (R.map rlD)).pure&&ae))))=ae;rw[μ,μ,μ,μ,bJ,aP j5,aP nH,aP uA];rfl
theorem ZX(hn:ns.length<=63):∃(Ω:ag)(ks:aa Str)(M:aa Mk)(T:aa Tk)(R:aa Rl),(0<Ω/\Ω<=3)/\MOk ns Ω Ω.toNat M/\(∀t∈T,gZ ns Ω t)/\(T.length<=3/\T.map (·.1)=(bm T.length).map (λ(k:af)=>wrd ns (17+(k:ag))))/\((∀k∈ks,IsK ns Ω k)/\ks.length=Ω.toNat)/\(R.length<=60/\∀r∈R,aDx ns M T r)/\cP 1 iG [.scr (ns.map ε)]=.ok (pgD ks M T R):=by
 have m3:=dH (drw ns 39) 3 0x4;have a1:=cZ 1 (drw ns 39 % 3);generalize hmany:1+drw ns 39 % 3=Ω at a1;have hm:0<Ω:=by lia
 have hm3:Ω<=3:=by lia
 obtain⟨M,hM,eM⟩:=aCm hn hm hm3;obtain⟨T,hT,hTl,eT⟩:=aCn hn hm hm3;obtain⟨R,hR,eR⟩:=aFz hn hm hm3 hM hT hTl.1;have ml:=hM.len;obtain⟨ks,h1,h2,h3⟩:=v_ (iI 4 jL eU (aN (cP 2 a_) (aC cA (aC jT aO))) ae [.scr (ns.map ε),.int Ω,bkD M T,.uD]) δ (IsK ns Ω) ((bm Ω.toNat).map λ(k:af)=>ε (0+(k:ag))) [] (λx hx acc=>by
  obtain⟨k,hk,rfl⟩:=bE.mp hx;have hk:=fx.mp hk;have w:=(oW hn (i:=0+(k:ag)) 0x1 0x1).1;exact⟨wrd ns (0+(k:ag)),⟨_,by lia,by lia,rfl⟩,d8 (b:=ae) (bs:=[.int (0+(k:ag))]) (y:=.str (wrd ns (0+(k:ag)))) rfl rfl rfl λ_=>⟨aU (xs:=[.scr (ns.map ε),.int (0+(k:ag))]) 0xe w,rfl⟩⟩)
 rw[c6] at h3;rw[aw,eg] at h2;refine⟨Ω,ks,M,T,R,⟨hm,hm3⟩,hM,hT,hTl,⟨h1,h2⟩,hR,(eY rfl).trans (call_v ?_)⟩;refine aM (ρ':=[.scr (ns.map ε),.int Ω,.uD,.uD]) (b7 (i:=1) (aJ (x:=.int 1) (y:=.int (drw ns 39 % 3)) rfl (aJ (x:=.int (drw ns 39)) (uZ hn rfl rfl) rfl m3) a1)) ?_;refine aM (ρ':=[.scr (ns.map ε),.int Ω,bkD M T,.uD]) (b7 (i:=2) (bK (xs:=[.tup (M.map mkD),.tup (T.map tkD)]) (aD (aU (xs:=[.scr (ns.map ε),.int Ω]) 0xe eM) (aD (aU (xs:=[.scr (ns.map ε),.int Ω]) 0xe eT) rfl)) iU)) ?_;refine aM (ρ':=[.scr (ns.map ε),.int Ω,bkD M T,.tup (ks.map δ)]) (eZ (i:=3) (aU (xs:=[.lst (ks.map δ)]) (aD (fC (wK (n:=Ω) 0xf 0x1 0x1) (by rw[aw,eg,bR];lia) h3) rfl) rfl) (by rw[μ,bJ])) ?_;exact kW (d:=pgD ks M T R) (bK (xs:=[.tup (ks.map δ),.tup (M.map mkD),.tup (T.map tkD),.tup (R.map rlD)]) (aD rfl (aD (aJ (x:=bkD M T) (y:=.int 0) rfl rfl rfl) (aD (aJ (x:=bkD M T) (y:=.int 1) rfl rfl rfl) (aD (aU (xs:=[.scr (ns.map ε),bkD M T]) 0xe eR) rfl)))) (cX (dm rfl))) (by rw[aLg];rfl)
structure KE{α:Type}[cr α](ek:α->D):Prop where
 eq:∀a b,eqD (ek a) (ek b)=ϒ (a=b)
 ok:∀a,keyOk (ek a)=ae
 tu:∀a b,isTup (ek a)=isTup (ek b)
section
variable {α:Type} [cr α] {ek:α->D}
noncomputable def dD(ek:α->D)(L:aa (α×D)):aa (D×D):=L.map λp=>(ek p.1,p.2)
noncomputable def mK:aa (α×D)->α->D->aa (α×D)
 |[],a,v=>[(a,v)]
 |p::L,a,v=>if p.1=a then (p.1,v)::L else p::mK L a v
noncomputable def bL:aa (α×D)->α->ar D
 |[],_=>ai
 |p::L,a=>if p.1=a then ab p.2 else bL L a
def d_(L ps:aa (α×D)):aa (α×D):=ps.foldl (λL p=>mK L p.1 p.2) L
theorem jA(h:KE ek)(a:α)(v:D):∀L:aa (α×D),putD (dD ek L) (ek a) v=dD ek (mK L a v)
 |[]=>rfl
 |p::L=>by
  show(if eqD (ek p.1) (ek a) then _ else _)=_;rw[h.eq,mK];by_cases z:p.1=a
  ·rw[al z,al (bh z)];rfl
  ·rw[au z,au (by rw[cw z];simp)];show _::putD (dD ek L) (ek a) v=_;rw[jA h a v L];rfl
theorem uB(h:KE ek)(a:α):∀L:aa (α×D),eX (dD ek L) (ek a)=bL L a
 |[]=>rfl
 |p::L=>by
  show(if eqD (ek p.1) (ek a) then _ else _)=_;rw[h.eq,bL];by_cases z:p.1=a
  ·rw[al z,al (bh z)]
  ·rw[au z,au (by rw[cw z];simp)];exact uB h a L
theorem jB(h:KE ek)(L:aa (α×D))(a:α):GZ (dD ek L) (ek a)=ae:=by
 unfold GZ dD;rw[h.ok,uh,fA];intro p hp;obtain⟨q,_,rfl⟩:=bE.mp hp;rw[h.tu q.1 a];exact dy _
theorem jC(L:aa (α×D)):(dD ek L).length=L.length:=aw ..
theorem xZ(a:α)(v:D):∀L:aa (α×D),(mK L a v).length<=L.length+1
 |[]=>aT _
 |p::L=>by
  rw[mK];split
  ·exact gp _
  ·have:=xZ a v L;rw[aS,aS];lia
theorem mL:∀(ps L:aa (α×D)),(d_ L ps).length<=L.length+ps.length
 |[],_=>aT _
 |p::ps,L=>by
  have:=mL ps (mK L p.1 p.2);have:=xZ p.1 p.2 L;rw[aS];show(d_ (mK L p.1 p.2) ps).length<=_;lia
theorem sJ(a b:α)(v:D):∀L:aa (α×D),bL (mK L a v) b=if a=b then ab v else bL L b
 |[]=>rfl
 |p::L=>by
  rw[mK];by_cases z:p.1=a
  ·rw[al z,bL,bL,z];split<;>rfl
  ·rw[au z,bL,bL,sJ a b v L];by_cases y:p.1=b
   ·rw[al y,al y,au (λq=>z (y.trans q.symm))]
   ·rw[au y,au y]
theorem nJ(a:α):∀(ps L:aa (α×D)),a∉ps.map (·.1)->bL (d_ L ps) a=bL L a
 |[],_,_=>rfl
 |p::ps,L,h=>by
  rw[bd,bu,gw] at h;show bL (d_ (mK L p.1 p.2) ps) a=_;rw[nJ a ps _ h.2,sJ,au (λq=>h.1 q.symm)]
theorem uC(a:α)(v:D):∀(ps L:aa (α×D)),(ps.map (·.1)).Nodup->(a,v)∈ps->bL (d_ L ps) a=ab v
 |[],_,_,h=>by cases h
 |p::ps,L,hn,h=>by
  rw[bd,c_] at hn;show bL (d_ (mK L p.1 p.2) ps) a=_;rcases bu.mp h with rfl|h
  ·rw[nJ _ ps _ hn.1,sJ,al rfl]
  ·exact uC a v ps _ hn.2 h
theorem mO(h:KE ek)(e:bL L a=ab v):getD (.dct (dD ek L)) (ek a)=.ok v:=by
 have:getD (.dct (dD ek L)) (ek a)=(if keyOk (ek a) then ν (eX (dD ek L) (ek a)) else .bad):=by
  have:=h.ok a;generalize ek a=k at this ⊢;cases k<;>first|rfl|cases this
 rw[this,h.ok,al rfl,uB h,e];rfl
end
theorem aCs[cr α][BEq α][LawfulBEq α](a b:α):(a==b)=ϒ (a=b):=by
 by_cases z:a=b
 ·rw[bh z,z,dy]
 ·rw[cw z,fI];exact z
theorem cU:KE δ:=⟨λa b=>by show(a==b)=_;exact aCs a b,λ_=>rfl,λ_ _=>rfl⟩
theorem u9:KE ε:=⟨λa b=>by show(a==b)=_;exact aCs a b,λ_=>rfl,λ_ _=>rfl⟩
noncomputable abbrev En:=ag×ag
noncomputable def enD(e:En):D:=.tup [.int e.1,.int e.2]
theorem lD:KE enD:=⟨λa b=>by
 show((a.1==b.1)&&((a.2==b.2)&&ae))=_;rw[Be];by_cases z:a=b
 ·rw[bh z,z,dy,dy];rfl
 ·rw[cw z,Bool.and_eq_false_iff,fI,fI];by_cases y:a.1=b.1
  ·exact .inr λq=>z (xl y q)
  ·exact .inl y,λ_=>rfl,λ_ _=>rfl⟩
theorem eN(e:En):(enD e).pure=ae:=rfl
theorem aHl(xs:aa Str):eQ [.tup (xs.map δ)]=.ok (.int (xs.length:af)):=by
 rw[show eQ [.tup (xs.map δ)]=.ok (.int ((xs.map δ).length:af)) from rfl,aw]
theorem xF(h:n<=10000):n<lim:=by rw[bR];lia
theorem fJ(h1:a ρ=.ok (.tup xs))(hp:θ xs=ae)(h2:n8 t body xs ρ=r):xO (bW a ah) t body ρ=r:=by
 have it:=fO h1;rw[μ,hp] at it;exact nT it h2
theorem aG0(f:α->D):∀{l m:aa D},l.Perm m->∀U:aa α,m=U.map f->∃V:aa α,V.Perm U/\l=V.map f:=by
 intro l m h;induction h with
 |nil=>intro U e;exact⟨U,.refl _,e⟩
 |cons x _ ih=>
  intro U e;cases U with
  |nil=>cases e
  |cons u U=>
   injection e with e1 e2
   obtain⟨V,p,e⟩:=ih U e2;exact⟨u::V,p.cons u,by rw[e,e1];rfl⟩
 |swap x y l=>
  intro U e
  match U,e with
  |u::v::U,e=>
   injection e with e1 e2
   injection e2 with e2 e3
   exact⟨v::u::U,.swap u v U,by rw[e1,e2,e3];rfl⟩
 |trans _ _ ih1 ih2=>
  intro U e;obtain⟨V,p,e⟩:=ih2 U e;obtain⟨W,q,e'⟩:=ih1 V e;exact⟨W,q.trans p,e'⟩
theorem aHm(a b:En):(j_ .lt (enD a) (enD b)).isSome=ae:=by
 show(if eqD (.int a.1) (.int b.1) then (if eqD (.int a.2) (.int b.2) then ab (g_.lt.nat 0 0) else ab (g_.lt.int a.2 b.2)) else ab (g_.lt.int a.1 b.1)).isSome=ae;split
 ·split<;>rfl
 ·rfl
abbrev Ti:=En×En
def tiD(t:Ti):D:=.tup [enD t.1,enD t.2]
theorem nM(t:Ti):(tiD t).pure=ae:=rfl
theorem aPm(a b:Ti):(j_ .lt (tiD a) (tiD b)).isSome=ae:=by
 show(if eqD (enD a.1) (enD b.1) then (if eqD (enD a.2) (enD b.2) then ab (g_.lt.nat 0 0) else j_ .lt (enD a.2) (enD b.2)) else j_ .lt (enD a.1) (enD b.1)).isSome=ae;split
 ·split
  ·rfl
  ·exact aHm _ _
 ·exact aHm _ _
noncomputable abbrev Pi:=ag×Str
noncomputable def piD(p:Pi):D:=.tup [.int p.1,.str p.2]
theorem wB(t:Pi):(piD t).pure=ae:=rfl
theorem aPn(a b:Pi):(j_ .lt (piD a) (piD b)).isSome=ae:=by
 show(if eqD (.int a.1) (.int b.1) then (if eqD (.str a.2) (.str b.2) then ab (g_.lt.nat 0 0) else ab (g_.lt.str a.2 b.2)) else ab (g_.lt.int a.1 b.1)).isSome=ae;split
 ·split<;>rfl
 ·rfl
theorem sO[cr α](dB:β->D)(ps:β->aa (α×D))(hps:∀b,(ps b).length<=2)(R:aa (α×D)->aa D->Prop)
 (step:∀b L ρ,R L ρ->L.length<=5000->∃ρ1 ρ2,t (dB b) ρ=.ok ρ1/\body ρ1=.ok (.nx ρ2)/\R (d_ L (ps b)) ρ2) :
  ∀(bs:aa β)(L:aa (α×D))(ρ:aa D),R L ρ->L.length+2*bs.length<=5000->∃ρ',R (d_ L (bs.flatMap ps)) ρ'/\n8 t body (bs.map dB) ρ=.ok (.nx ρ')
 |[],L,ρ,h,_=>⟨ρ,h,rfl⟩
 |b::bs,L,ρ,h,hl=>by
  rw[aS] at hl;obtain⟨ρ1,ρ2,e1,e2,h2⟩:=step b L ρ h 0x1;have:=mL (ps b) L;have:=hps b;obtain⟨ρ',h3,e3⟩:=sO dB ps hps R step bs _ ρ2 h2 0x1;refine⟨ρ',?_,cC e1 e2 e3⟩;rw[i6];have:d_ L (ps b++bs.flatMap ps)=d_ (d_ L (ps b)) (bs.flatMap ps):=List.foldl_append ..;rw[this];exact h3
noncomputable def psM(M:aa Mk):aa (Str×D):=M.map λm=>(m.1,ε (m.2.2.length:af))
noncomputable def psT(T:aa Tk):aa (Str×D):=T.map λt=>(t.1,ε ((t.2.2.2.length:af)+1))
def stk(M:aa Mk)(T:aa Tk):aa (Str×D):=d_ (d_ [("copy",.int 2),("drop",.int 0)] (psM M)) (psT T)
theorem u_(f:α->β)(L:aa α):L.flatMap (λa=>[f a])=L.map f:=by
 induction L with
 |nil=>rfl
 |cons a L ih=>rw[i6,ih];rfl
theorem W3(hM:M.length<=9)(hT:T.length<=3):cP 1 gD [pgD ks M T R]=.ok (.dct (dD δ (stk M T))):=by
 refine(eY rfl).trans (call_v ?_);obtain⟨ρ1,⟨y2,y3,h1⟩,e1⟩:=sO (t:=tg1 2) (body:=yV 1 (b2 getD fB bQ) (aN eQ (aC (b2 getD fB gP) aO))) mkD (λm=>[(m.1,ε (m.2.2.length:af))]) (λ_=>dm rfl) (λL ρ=>∃x2 x3,ρ=[pgD ks M T R,.dct (dD δ L),x2,x3]) (λm L ρ z0 hl=>by
  obtain⟨x2,x3,h⟩:=z0;subst h;have p:=lZ (i:=1) (ρ:=[pgD ks M T R,.dct (dD δ L),mkD m,x3]) (f:=b2 getD fB bQ) (g:=aN eQ (aC (b2 getD fB gP) aO)) (kvs:=dD δ L) (k:=.str m.1) (d:=.int (m.2.2.length:af)) (aU (xs:=[.tup (m.2.2.map δ)]) (aD (aJ (x:=mkD m) (y:=.int 2) rfl rfl rfl) rfl) (aHl _)) (aJ (x:=mkD m) (y:=.int 0) rfl rfl rfl) rfl (by rw[jC];exact xF 0x1) (jB cU L m.1) rfl;rw[jA cU] at p;exact⟨_,_,rfl,p,_,_,rfl⟩) M [("copy",.int 2),("drop",.int 0)] [pgD ks M T R,.dct (dD δ [("copy",.int 2),("drop",.int 0)]),.uD,.uD] ⟨_,_,rfl⟩ (by show 2+_<=5000;lia)
 rw[u_] at h1;have l1:=mL (psM M) [("copy",.int 2),("drop",.int 0)];rw[psM,aw] at l1;obtain⟨ρ2,⟨z2,z3,h2⟩,e2⟩:=sO (t:=tg1 3) (body:=yV 1 (b2 getD d9 bQ) (b2 (bI .add) (aN eQ (aC (b2 getD d9 sW) aO)) cF)) tkD (λt=>[(t.1,ε ((t.2.2.2.length:af)+1))]) (λ_=>dm rfl) (λL ρ=>∃x2 x3,ρ=[pgD ks M T R,.dct (dD δ L),x2,x3]) (λm L ρ z0 hl=>by
  obtain⟨x2,x3,h⟩:=z0;subst h;have p:=lZ (i:=1) (ρ:=[pgD ks M T R,.dct (dD δ L),x2,tkD m]) (f:=b2 getD d9 bQ) (g:=b2 (bI .add) (aN eQ (aC (b2 getD d9 sW) aO)) cF) (kvs:=dD δ L) (k:=.str m.1) (d:=.int ((m.2.2.2.length:af)+1)) (aJ (x:=.int (m.2.2.2.length:af)) (y:=.int 1) (aU (xs:=[.tup (m.2.2.2.map δ)]) (aD (aJ (x:=tkD m) (y:=.int 3) rfl rfl rfl) rfl) (aHl _)) rfl (cZ _ _)) (aJ (x:=tkD m) (y:=.int 0) rfl rfl rfl) rfl (by rw[jC];exact xF 0x1) (jB cU L m.1) rfl;rw[jA cU] at p;exact⟨_,_,rfl,p,_,_,rfl⟩) T _ ρ1 ⟨_,_,h1⟩ (by have:([("copy",ε 2),("drop",ε 0)]:aa (Str×D)).length=2:=rfl;lia)
 rw[u_] at h2;refine aM (ρ':=[pgD ks M T R,.dct (dD δ [("copy",.int 2),("drop",.int 0)]),.uD,.uD]) (dX (i:=1) (d:=.dct (dD δ [("copy",.int 2),("drop",.int 0)])) (by unfold aJv;with_unfolding_all rfl) rfl) ?_;refine aM (fJ (xs:=M.map mkD) (aJ (x:=pgD ks M T R) (y:=.int 1) rfl rfl rfl) (aP j5 M) e1) ?_;subst h1;refine aM (fJ (xs:=T.map tkD) (aJ (x:=pgD ks M T R) (y:=.int 2) rfl rfl rfl) (aP nH T) e2) ?_;subst h2;rfl
noncomputable def hdM(m:Mk):Str×D:=(m.1,.tup [.str m.2.1,.tup (m.2.2.map δ)])
noncomputable def hdT(t:Tk):Str×D:=(t.1,.tup [.str t.2.1,.tup ((t.2.2.1::t.2.2.2).map δ)])
def hds(M:aa Mk)(T:aa Tk):aa (Str×D):=d_ (d_ [] (M.map hdM)) (T.map hdT)
theorem aG1(hM:M.length<=9)(hT:T.length<=3)(hTp:∀t∈T,t.2.2.2.length<=2):cP 1 l_ [pgD ks M T R]=.ok (.dct (dD δ (hds M T))):=by
 refine(eY rfl).trans (call_v ?_);obtain⟨ρ1,⟨y2,y3,y4,y5,y6,h1⟩,e1⟩:=sO (t:=tgN [2,3,4]) (body:=yV 1 fB (cM (aC d9 (aC jT aO)))) mkD (λm=>[hdM m]) (λ_=>dm rfl) (λL ρ=>∃x2 x3 x4 x5 x6,ρ=[pgD ks M T R,.dct (dD δ L),x2,x3,x4,x5,x6]) (λm L ρ z0 hl=>by
  obtain⟨x2,x3,x4,x5,x6,h⟩:=z0;subst h;have p:=lZ (i:=1) (ρ:=[pgD ks M T R,.dct (dD δ L),.str m.1,.str m.2.1,.tup (m.2.2.map δ),x5,x6]) (f:=gM 2) (g:=cM (aC d9 (aC jT aO))) (kvs:=dD δ L) (k:=.str m.1) (d:=.tup [.str m.2.1,.tup (m.2.2.map δ)]) (bK (xs:=[.str m.2.1,.tup (m.2.2.map δ)]) 0xe iU) rfl rfl (by rw[jC];exact xF 0x1) (jB cU L m.1) (by show((ξ (m.2.2.map δ)).pure&&ae)=ae;rw[μ,bJ];rfl);rw[jA cU] at p;exact⟨_,_,rfl,p,_,_,_,_,_,rfl⟩) M [] [pgD ks M T R,.dct [],.uD,.uD,.uD,.uD,.uD] ⟨_,_,_,_,_,rfl⟩ (by show 0+_<=5000;lia)
 rw[u_] at h1;have l1:=mL (M.map hdM) [];rw[aw,fw] at l1;have hU:∀(U:aa Tk),(∀t∈U,t.2.2.2.length<=2)->∀(L:aa (Str×D))(ρ:aa D),(∃x2 x3 x4 x5 x6,ρ=[pgD ks M T R,.dct (dD δ L),x2,x3,x4,x5,x6])->L.length+U.length<=5000->∃ρ',(∃x2 x3 x4 x5 x6,ρ'=[pgD ks M T R,.dct (dD δ (d_ L (U.map hdT))),x2,x3,x4,x5,x6])/\n8 (tgN [2,3,5,6]) (yV 1 fB (cM (aC d9 (aC (b2 QR (cM (aC dZ aO)) lF) aO)))) (U.map tkD) ρ=.ok (.nx ρ'):=by
  intro U;induction U with
  |nil=>intro _ L ρ h _;exact⟨ρ,h,rfl⟩
  |cons m U ih=>
   rintro hu L ρ ⟨x2,x3,x4,x5,x6,h⟩ hl;subst h;rw[aS] at hl;have h2:=hu m (bj ..);have p:=lZ (i:=1) (ρ:=[pgD ks M T R,.dct (dD δ L),.str m.1,.str m.2.1,x4,.str m.2.2.1,.tup (m.2.2.2.map δ)]) (f:=gM 2) (g:=cM (aC d9 (aC (b2 QR (cM (aC dZ aO)) lF) aO))) (kvs:=dD δ L) (k:=.str m.1) (d:=.tup [.str m.2.1,.tup ((m.2.2.1::m.2.2.2).map δ)]) (bK (xs:=[.str m.2.1,.tup ((m.2.2.1::m.2.2.2).map δ)]) (aD rfl (aD (aJ (x:=.tup [.str m.2.2.1]) (y:=.tup (m.2.2.2.map δ)) (bK (xs:=[.str m.2.2.1]) 0xf (cX (dm rfl))) rfl (wA _ _ (by rw[aw];show 1+_<=1000;lia))) rfl)) iU) rfl rfl (by rw[jC];exact xF 0x1) (jB cU L m.1) (by show((ξ ((m.2.2.1::m.2.2.2).map δ)).pure&&ae)=ae;rw[μ,bJ];rfl);rw[jA cU] at p;have pl:=xZ m.1 (.tup [.str m.2.1,.tup ((m.2.2.1::m.2.2.2).map δ)]) L;obtain⟨ρ',i1,i2⟩:=ih (λt ht=>hu t (bp _ ht)) (mK L m.1 (.tup [.str m.2.1,.tup ((m.2.2.1::m.2.2.2).map δ)])) [pgD ks M T R,.dct (dD δ (mK L m.1 (.tup [.str m.2.1,.tup ((m.2.2.1::m.2.2.2).map δ)]))),.str m.1,.str m.2.1,x4,.str m.2.2.1,.tup (m.2.2.2.map δ)] ⟨_,_,_,_,_,rfl⟩ 0x1;exact⟨ρ',i1,cC rfl p i2⟩
 obtain⟨ρ2,⟨z2,z3,z4,z5,z6,h2⟩,e2⟩:=hU T hTp _ ρ1 ⟨_,_,_,_,_,h1⟩ 0x1;refine aM (ρ':=[pgD ks M T R,.dct [],.uD,.uD,.uD,.uD,.uD]) (dX (i:=1) (d:=.dct []) rfl rfl) ?_;refine aM (fJ (xs:=M.map mkD) (aJ (x:=pgD ks M T R) (y:=.int 1) rfl rfl rfl) (aP j5 M) e1) ?_;subst h1;refine aM (fJ (xs:=T.map tkD) (aJ (x:=pgD ks M T R) (y:=.int 2) rfl rfl rfl) (aP nH T) e2) ?_;subst h2;rfl
theorem names_nodup(hn:ns.length<=63)(hm3:Ω<=3)(hM:MOk ns Ω Ω.toNat M):(M.map (·.1)).Nodup:=by
 obtain⟨ks,k1,k2,k3⟩:=hM.names;rw[k1];unfold ni;rw[kf];refine k2.imp_of_mem λ{a b} ha hb hab z=>?_
 have ha:=k3 a ha;have hb:=k3 b hb;have:=v8 hn 0x1 0x1 0x1 0x1 z;lia
noncomputable def tn(T:aa Tk):aa Str:=T.map (·.1)
theorem PX(hn:ns.length<=63)(hm3:Ω<=3)(hM:MOk ns Ω Ω.toNat M)(hT:∀t∈T,gZ ns Ω t)(hm:m∈M):m.1∉tn T:=λz=>by
 obtain⟨t,ht,e⟩:=bE.mp z;obtain⟨k,q1,q2,q3⟩:=(hT t ht).1;obtain⟨ks,k1,k2,k3⟩:=hM.names;have:m.1∈ks.map (wrd ns):=by rw[<-k1];exact bE.mpr ⟨m,hm,rfl⟩
 obtain⟨j,hj,ej⟩:=bE.mp this;have:=k3 j hj;have:=v8 hn (i:=j) (j:=k) 0x1 0x1 0x1 0x1 (by rw[ej,<-q3];exact e.symm);lia
theorem aG2(hn:ns.length<=63)(hT:T.length<=3/\T.map (·.1)=(bm T.length).map (λ(k:af)=>wrd ns (17+(k:ag)))):(tn T).Nodup:=by
 unfold tn;rw[hT.2];unfold ni;rw[kf];refine(vm).imp_of_mem λ{a b} ha hb hab z=>?_
 have ha:=fx.mp ha;have hb:=fx.mp hb;have:=v8 hn 0x1 0x1 0x1 0x1 z;lia
structure Wx(M:aa Mk)(T:aa Tk)(w:Str)(a:af):Prop where
 stk:bL (stk M T) w=ab (.int (a:af))
 hd:∃(kd:Str)(ps:aa Str),bL (hds M T) w=ab (.tup [.str kd,.tup (ps.map δ)])/\ps.length=a
 len:a<=3
 tk:w∈tn T->1<=a
theorem wx(hn:ns.length<=63)(hm3:Ω<=3)(hM:MOk ns Ω Ω.toNat M)(hT:∀t∈T,gZ ns Ω t)(hT2:T.length<=3/\T.map (·.1)=(bm T.length).map (λ(k:af)=>wrd ns (17+(k:ag))))(h:Wd M T w a):Wx M T w a:=by
 rcases h with ⟨m,hm,rfl,rfl⟩|⟨t,ht,rfl,rfl⟩
 ·have nd:=names_nodup hn hm3 hM;have nt:=PX hn hm3 hM hT hm;have n1:((psM M).map (·.1)).Nodup:=by unfold psM;rw[cu];exact nd
  have n2:((M.map hdM).map (·.1)).Nodup:=by rw[cu];exact nd
  have t1:m.1∉(psT T).map (·.1):=by unfold psT;rw[cu];exact nt
  have t2:m.1∉(T.map hdT).map (·.1):=by rw[cu];exact nt
  refine⟨?_,⟨m.2.1,m.2.2,?_,rfl⟩,(hM.part m hm).2.1,λz=>ay z nt⟩
  ·unfold Lk63.stk;rw[nJ _ _ _ t1];exact uC _ _ _ _ n1 (bE.mpr ⟨m,hm,rfl⟩)
  ·unfold Lk63.hds;rw[nJ _ _ _ t2];exact uC _ _ _ _ n2 (bE.mpr ⟨m,hm,rfl⟩)
 ·have nd:=aG2 hn hT2;have n1:((psT T).map (·.1)).Nodup:=by unfold psT;rw[cu];exact nd
  have n2:((T.map hdT).map (·.1)).Nodup:=by rw[cu];exact nd
  refine⟨?_,⟨t.2.1,t.2.2.1::t.2.2.2,?_,rfl⟩,?_,λ_=>by lia⟩
  ·unfold Lk63.stk;exact uC _ _ _ _ n1 (bE.mpr ⟨t,ht,rfl⟩)
  ·unfold Lk63.hds;exact uC _ _ _ _ n2 (bE.mpr ⟨t,ht,rfl⟩)
  ·have:=(hT t ht).2.2.2.1;lia
theorem x_[cr α](h:KE ek):∀(ps L:aa (α×D)),i_ (dD ek L) (dD ek ps)=dD ek (d_ L ps)
 |[],_=>rfl
 |p::ps,L=>by
  show i_ (putD (dD ek L) (ek p.1) p.2) (dD ek ps)=_;rw[jA h,x_ h ps];rfl
theorem J4(f:β->α×D)(ek:α->D)(hk:∀a,mV (ek a)=ae)(hp:∀b,(f b).2.pure=ae):∀L:aa β,nW (L.map λb=>.tup [ek (f b).1,(f b).2])=ab (dD ek (L.map f))
 |[]=>rfl
 |b::L=>by
  rw[bd,nW,hk,hp,jk,al rfl,J4 f ek hk hp L];rfl
def tks(T:aa Tk):aa (Str×D):=d_ [] (T.map λt=>(t.1,υ ae))
theorem aLh(T:aa Tk)(hT:T.length<=1000):M9 (.lst (T.map λt:Tk=>ξ [.str t.1,.bl ae]))=.ok (.dct (dD δ (tks T))):=by
 have e:nW (T.map λt:Tk=>ξ [.str t.1,.bl ae])=ab (dD δ (T.map λt:Tk=>(t.1,υ ae))):=J4 (λt:Tk=>(t.1,υ ae)) δ (λ_=>rfl) (λ_=>rfl) T;show(match nW (T.map λt:Tk=>ξ [.str t.1,.bl ae]) with|some ps=>(if ϒ ((T.map λt:Tk=>ξ [.str t.1,.bl ae]).length<=1000) then ι (ψ (i_ [] ps)) else .bad)|none=>.bad)=_;rw[e];show(if ϒ ((T.map λt:Tk=>ξ [.str t.1,.bl ae]).length<=1000) then ι (ψ (i_ [] (dD δ (T.map λt:Tk=>(t.1,υ ae))))) else .bad)=_;rw[aw,bh hT,al rfl];exact cy (λx=>ι (ψ x)) (x_ cU _ [])
theorem wC[cr α](a:α):∀(ps L:aa (α×D)),(bL (d_ L ps) a).isSome=((bL L a).isSome||ϒ (a∈ps.map (·.1)))
 |[],L=>by simp[d_]
 |p::ps,L=>by
  show(bL (d_ (mK L p.1 p.2) ps) a).isSome=_;rw[wC a ps,sJ,bd];by_cases z:p.1=a
  ·rw[al z];simp[z]
  ·rw[au z];have:(a∈p.1::ps.map (·.1))↔(a∈ps.map (·.1)):=by rw[bu];exact⟨λh=>h.resolve_left (cq z),.inr⟩
   rw[decide_eq_decide.mpr this]
theorem xG[cr α](h:KE ek)(L:aa (α×D))(a:α):cT .isin (ek a) (.dct (dD ek L))=.ok (.bl (bL L a).isSome):=by
 have f:=jB h L a;have l:=uB h a L;generalize ek a=k at f l ⊢;show(if GZ (dD ek L) k then ι (υ (eX (dD ek L) k).isSome) else .bad)=_;rw[f,l,al rfl]
theorem P0[cr α](h:KE ek)(L:aa (α×D))(a:α):cT .notin (ek a) (.dct (dD ek L))=.ok (.bl (!(bL L a).isSome)):=by
 have f:=jB h L a;have l:=uB h a L;generalize ek a=k at f l ⊢;show(if GZ (dD ek L) k then ι (υ (!(eX (dD ek L) k).isSome)) else .bad)=_;rw[f,l,al rfl]
theorem aPo(T:aa Tk)(w:Str):inX (.str w) (.dct (dD δ (tks T)))=.ok (.bl (ϒ (w∈tn T))):=by
 show cT .isin (.str w) (.dct (dD δ (tks T)))=_;rw[xG cU,tks,wC,cu];rfl
def gv(T:aa Tk)(w:Str):ag:=if w∈tn T then 1 else 0
def hk(T:aa Tk)(n:ag)(w:Str)(a:af):aa En:=if w∈tn T then (n,0)::(bm (a-1)).map λ(k:af)=>(n,2+(k:ag)) else (bm a).map λ(k:af)=>(n,1+(k:ag))
theorem xH(h:Wx M T w a)(n:ag):(hk T n w a).length=a:=by
 unfold hk;split
 ·rename_i z;have:=h.tk z;simp;lia
 ·simp
def lmD(M:aa Mk)(T:aa Tk)(p t:af):D:=.ins "Loom" [("heads",.dct (dD δ (hds M T))),("takers",.dct (dD δ (tks T))),("pieces",.adr p),("ties",.adr t)]
theorem P_(h:fa ρ=.ok (.ins c fs))(hl:fs.lookup f=ab d):xV c f fa ρ=.ok d:=by
 unfold xV;rw[h,τ];show(if ϒ (c=c)=ae then ν (fs.lookup f) else .bad)=_;rw[bh rfl,al rfl,hl];rfl
theorem aCt(h:fe ρ=.ok (.adr a))(hj:ρ.getD j .uD=.cel a xs):aMi j fe ρ=.ok (.lst xs):=by
 unfold aMi;rw[h,τ,hj];show(if a=a then ι (π xs) else .bad)=_;rw[al rfl]
theorem J5(h:fo ρ=.ok (.adr a))(h2:fe ρ=.ok d)(hj:ρ.getD j .uD=.cel a xs)(hl:xs.length<lim)(hp:d.pure=ae):xP j fo fe ρ=.ok (.nx (ρ.set j (.cel a (xs++[d])))):=by
 unfold xP;rw[h,τ,h2,τ,hj];show(if (ϒ (a=a)&&(ϒ (xs.length<lim)&&d.pure))=ae then _ else _)=_;rw[bh rfl,bh hl,hp];rfl
theorem J6(h:f ρ=.ok d)(hp:(k||d.pure)=ae):yU f k ρ=.ok (.rt (.tup (d::ρ))):=by
 unfold yU;rw[h,τ,al hp]
theorem yC(h0:gM i ρ=.ok (.ins c fs))(h1:fa ρ=.ok ds)(hj:ρ.getD j .uD=.cel p xs)(hj2:ρ.getD (j+1) .uD=.cel t ys)(hm:fs.lookup m=ai)(hl:ds.length+1=n)(hf:f (.ins c fs::ds++[.cel p xs,.cel t ys])=.ok (.tup [d,.cel p xs',.cel t ys']))(px:θ xs'=ae)(py:θ ys'=ae):tQ c m f n i j fa ρ=.ok (d,(ρ.set j (.cel p xs')).set (j+1) (.cel t ys')):=by
 unfold tQ;rw[h0,τ,h1,τ,hj,hj2];show(if (ϒ (c=c)&&((fs.lookup m).isNone&&ϒ (ds.length+1=n)))=ae then _ else _)=_;rw[bh rfl,hm,bh hl];show(f (.ins c fs::ds++[.cel p xs,.cel t ys]) >>= _)=_;rw[hf,τ];show(if (ϒ (p=p)&&(ϒ (t=t)&&(θ xs'&&θ ys')))=ae then _ else _)=_;rw[bh rfl,bh rfl,px,py];rfl
theorem aCu(h:f ρ=.ok (d,ρ')):R4 ah i f ρ=.ok (.nx (ρ'.set i d)):=by
 unfold R4;rw[h,τ];rfl
theorem aCv(h:f (ds++bq (m-(n+2)) .uD)=.ok (.rt (.tup (d::ρ)))):fnG n m f ds=.ok (.tup [d,ρ.getD n .uD,ρ.getD (n+1) .uD]):=by
 unfold fnG;rw[h,τ];rfl
theorem zZ(h k p t:D):fy ("pieces" : Str) [(("heads" : Str),h),("takers",k),("pieces",p),("ties",t)]=ab p:=by with_unfolding_all rfl
theorem TF(h k p t:D):fy ("ties" : Str) [(("heads" : Str),h),("takers",k),("pieces",p),("ties",t)]=ab t:=by with_unfolding_all rfl
theorem aG3(h k p t:D):fy ("heads" : Str) [(("heads" : Str),h),("takers",k),("pieces",p),("ties",t)]=ab h:=by with_unfolding_all rfl
theorem aCw(h k p t:D):fy ("takers" : Str) [(("heads" : Str),h),("takers",k),("pieces",p),("ties",t)]=ab k:=by with_unfolding_all rfl
theorem aHn(h k p t:D):fy ("add_piece" : Str) [(("heads" : Str),h),("takers",k),("pieces",p),("ties",t)]=ai:=by with_unfolding_all rfl
theorem aPp(h k p t:D):fy ("lay" : Str) [(("heads" : Str),h),("takers",k),("pieces",p),("ties",t)]=ai:=by with_unfolding_all rfl
theorem xJ(hP:P.length<=1000):dO [lmD M T p t,.str w,.cel p (P.map piD),.cel t ys]=.ok (.tup [.int ((P.length:af)+1),.cel p ((P++[((P.length:ag)+1,w)]).map piD),.cel t ys]):=by
 have a1:=cZ (P.length:af) 1;have e1:xV "Loom" "pieces" cA [lmD M T p t,.str w,.cel p (P.map piD),.cel t ys,.uD]=.ok (.adr p):=P_ rfl (zZ ..);have e2:xV "Loom" "pieces" cA [lmD M T p t,.str w,.cel p (P.map piD),.cel t ys,.int ((P.length:af)+1)]=.ok (.adr p):=P_ rfl (zZ ..);refine(aCv (ρ:=[lmD M T p t,.str w,.cel p ((P++[((P.length:ag)+1,w)]).map piD),.cel t ys,.int ((P.length:af)+1)]) ?_).trans rfl;refine aM (b7 (aJ (aU (aD (aCt e1 rfl) rfl) (by rw[iZ,aw])) rfl a1)) ?_;refine aM ?_ (J6 rfl rfl);have ap:=J5 (j:=2) (ρ:=[lmD M T p t,.str w,.cel p (P.map piD),.cel t ys,.int ((P.length:af)+1)]) (fe:=cM (aC jT (aC fG aO))) (xs:=P.map piD) (d:=piD ((P.length:ag)+1,w)) e2 (bK (xs:=[.int ((P.length:af)+1),.str w]) 0xe iU) rfl (by rw[aw,bR];lia) rfl;rw[b6];exact ap
theorem W4(n:ag)(hρ:ρ.length=N)(h5:∀x:D,gM 5 (ρ++[x])=.ok (.int n))(hv:∀x:D,gM N (ρ++[x])=.ok x\/x=.uD)(c:ag)(L:aa af)(acc:aa D):fK (iI N jL eU (cM (aC dZ (aC (gM N) aO))) ah ρ) acc (L.map λ(k:af)=>ε (c+(k:ag)))=.ok (acc++(L.map λ(k:af)=>(n,c+(k:ag))).map enD):=by
 rw[dU _ (λ(k:af)=>ε (c+(k:ag))) (λ_=>ae) (λ(k:af)=>enD (n,c+(k:ag))) (λacc k=>?_)]
 ·rw[iX.mpr (λ_ _=>rfl),cu];rfl
 ·refine d8 hρ rfl rfl λ_=>⟨bK (aD (h5 _) (aD ?_ rfl)) iU,rfl⟩
  rcases hv (.int (c+(k:ag))) with h|h
  ·exact h
  ·cases h
theorem aPq(hw:Wx M T w a)(hP:P.length<=1000)(hU:U.length<=1000) :
  ZC [lmD M T p t,.str w,enD e,.cel p (P.map piD),.cel t (U.map tiD)]=.ok (.tup [.lst ((hk T ((P.length:ag)+1) w a).map enD),.cel p ((P++[((P.length:ag)+1,w)]).map piD),.cel t ((U++[(((P.length:ag)+1,gv T w),e)]).map tiD)]):=by
 obtain⟨kd,ps,h1,h2⟩:=hw.hd;have ha:=hw.len;generalize hnn:(P.length:ag)+1=n;have ap:=xJ (M:=M) (T:=T) (p:=p) (t:=t) (w:=w) (P:=P) (ys:=U.map tiD) hP;rw[hnn] at ap;generalize hP2:(P++[(n,w)])=P2 at ap ⊢;have pP:θ (P2.map piD)=ae:=aP wB P2;have pU:θ (U.map tiD)=ae:=aP nM U;have f:∀(a:Str)(d x4 x5 x6:D),fy a [(("heads" : Str),ψ (dD δ (hds M T))),("takers",.dct (dD δ (tks T))),("pieces",.adr p),("ties",.adr t)]=ab d->xV "Loom" a cA [lmD M T p t,.str w,enD e,.cel p (P2.map piD),x4,x5,x6]=.ok d:=λa d x4 x5 x6 h=>P_ rfl h
 have s1:R4 ah 5 (tQ "Loom" "add_piece" dO 2 0 3 (aC fG aO)) [lmD M T p t,.str w,enD e,.cel p (P.map piD),.cel t (U.map tiD),.uD,.uD]=.ok (.nx [lmD M T p t,.str w,enD e,.cel p (P2.map piD),.cel t (U.map tiD),.int n,.uD]):=aCu (i:=5) (yC (i:=0) (j:=3) (c:= "Loom") (m:= "add_piece") (f:=dO) (n:=2) (ρ:=[lmD M T p t,.str w,enD e,.cel p (P.map piD),.cel t (U.map tiD),.uD,.uD]) (fa:=aC fG aO) (ds:=[.str w]) (fs:=[(("heads" : Str),ψ (dD δ (hds M T))),("takers",.dct (dD δ (tks T))),("pieces",.adr p),("ties",.adr t)]) rfl 0xf rfl rfl (aHn ..) rfl ap pP pU);have s2:cR ah 6 (aN eQ (aC (b2 getD (b2 getD (xV "Loom" "heads" cA) fG) cF) aO)) ae [lmD M T p t,.str w,enD e,.cel p (P2.map piD),.cel t (U.map tiD),.int n,.uD]=.ok (.nx [lmD M T p t,.str w,enD e,.cel p (P2.map piD),.cel t (U.map tiD),.int n,.int (a:af)]):=b7 (i:=6) (aU (xs:=[.tup (ps.map δ)]) (aD (aJ (x:=.tup [.str kd,.tup (ps.map δ)]) (y:=.int 1) (aJ (x:=.dct (dD δ (hds M T))) (y:=.str w) (f _ _ _ _ _ (aG3 ..)) rfl (mO cU h1)) rfl rfl) rfl) (by rw[aHl,h2]));have a1:=cZ (a:af) 1;have c1:bTB (b2 inX fG (xV "Loom" "takers" cA)) [lmD M T p t,.str w,enD e,.cel p (P2.map piD),.cel t (U.map tiD),.int n,.int (a:af)]=.ok (ϒ (w∈tn T)):=dG (aJ (x:=.str w) (y:=.dct (dD δ (tks T))) rfl (f _ _ _ _ _ (aCw ..)) (aPo T w));have st:∀g:ag,xP 4 (xV "Loom" "ties" cA) (cM (aC (cM (aC dZ (aC (bC (.int g)) aO))) (aC fB aO))) [lmD M T p t,.str w,enD e,.cel p (P2.map piD),.cel t (U.map tiD),.int n,.int (a:af)]=.ok (.nx [lmD M T p t,.str w,enD e,.cel p (P2.map piD),.cel t ((U++[((n,g),e)]).map tiD),.int n,.int (a:af)]):=λg=>by
  have ap:=J5 (j:=4) (ρ:=[lmD M T p t,.str w,enD e,.cel p (P2.map piD),.cel t (U.map tiD),.int n,.int (a:af)]) (fe:=cM (aC (cM (aC dZ (aC (bC (.int g)) aO))) (aC fB aO))) (xs:=U.map tiD) (d:=tiD ((n,g),e)) (f "ties" _ _ _ _ (TF ..)) (bK (xs:=[enD (n,g),enD e]) (aD (bK (xs:=[.int n,.int g]) 0xe iU) 0xf) iU) rfl (by rw[aw,bR];lia) rfl;rw[b6];exact ap
 by_cases z:w∈tn T
 ·rw[bh z] at c1;have hg:gv T w=1:=al z;have hh:hk T n w a=(n,0)::(bm (a-1)).map λ(k:af)=>(n,2+(k:ag)):=al z
  rw[hg,hh];refine(aCv (ρ:=[lmD M T p t,.str w,enD e,.cel p (P2.map piD),.cel t ((U++[((n,1),e)]).map tiD),.int n,.int (a:af)]) (d:=.lst (((n,0)::(bm (a-1)).map λ(k:af)=>(n,2+(k:ag))).map enD)) ?_).trans rfl;refine aM s1 (aM s2 (aCi (V4 c1 (aM (st 1) (J6 (aJ (x:=.lst [enD (n,0)]) (y:=.lst (((bm (a-1)).map λ(k:af)=>(n,2+(k:ag))).map enD)) (nG (xs:=[enD (n,0)]) (aD (bK (xs:=[.int n,.int 0]) 0xe iU) rfl) (cX (dm rfl)) rfl) (fC (zY (a:=2) (b:=(a:af)+1) (aD rfl (aD (aJ (x:=.int (a:af)) (y:=.int 1) rfl rfl a1) rfl)) 0x4 0x4 0x1 0x1) ?_ ?_) ?_) rfl)))))
  ·rw[aw,eg,bR];lia
  ·rw[show(((a:af):ag)+1-2).toNat=a-1 by have:=hw.tk z;lia];exact W4 n (N:=7) rfl (λ_=>rfl) (λx=>by cases x<;>first|exact .inl rfl|exact .inr rfl) 2 (bm (a-1)) []
  ·exact nA [enD (n,0)] (((bm (a-1)).map λ(k:af)=>(n,2+(k:ag))).map enD) (by rw[bR];simp;lia) rfl (aP eN _)
 ·rw[cw z] at c1;have hg:gv T w=0:=au z;have hh:hk T n w a=(bm a).map λ(k:af)=>(n,1+(k:ag)):=au z
  rw[hg,hh];refine(aCv (ρ:=[lmD M T p t,.str w,enD e,.cel p (P2.map piD),.cel t ((U++[((n,0),e)]).map tiD),.int n,.int (a:af)]) (d:=.lst (((bm a).map λ(k:af)=>(n,1+(k:ag))).map enD)) ?_).trans rfl;refine aM s1 (aM s2 (aM (oK c1 rfl) (aM (st 0) (J6 (fC (zY (a:=1) (b:=(a:af)+1) (aD rfl (aD (aJ (x:=.int (a:af)) (y:=.int 1) rfl rfl a1) rfl)) 0x4 0x4 0x1 0x1) ?_ ?_) rfl))))
  ·rw[aw,eg,bR];lia
  ·rw[show(((a:af):ag)+1-1).toNat=a by lia];exact W4 n (N:=7) rfl (λ_=>rfl) (λx=>by cases x<;>first|exact .inl rfl|exact .inr rfl) 1 (bm a) []
theorem aG4(h:isAt (.adr a) c=ae):∃X,c=.cel a X:=by
 cases c with
 |cel b X=>
  have:a=b:=c8 h;subst this;exact⟨X,rfl⟩
 |_=>cases h
theorem W5(h:∃m X,m<5/\ρ.getD (5+m) .uD=.cel a X):∃m X,m<5/\Z4 5 5 (.adr a) ρ=5+m/\ρ.getD (5+m) .uD=.cel a X:=by
 obtain⟨m,X,hm,e⟩:=h;have hlt:(bm 5).findIdx (λm=>isAt (.adr a) (ρ.getD (5+m) .uD))<(bm 5).length:=List.findIdx_lt_length_of_exists ⟨m,fx.mpr hm,by rw[e];exact bh rfl⟩;have h2:=List.findIdx_getElem (w:=hlt);rw[List.getElem_range] at h2;obtain⟨Y,hY⟩:=aG4 h2;rw[eg] at hlt;exact⟨_,Y,hlt,rfl,hY⟩
def wv(pg:D)(wa va:aa Str)(M:aa Mk)(T:aa Tk)(p t:af)(c0 c1 c2 c3 c4:D)(kv:aa (D×D))(P:aa Pi)(U:aa Ti)(W:aa En)(x13 x14 x15 x16:D):aa D:=[pg,.tup (wa.map δ),.tup (va.map δ),.cel p (P.map piD),.cel t (U.map tiD),c0,c1,c2,c3,c4,lmD M T p t,.dct kv,.lst (W.reverse.map enD),x13,x14,x15,x16]
theorem aCx(m:af)(hm:m<5):(wv pg wa va M T p t c0 c1 c2 c3 c4 kv P U W x13 x14 x15 x16).getD (5+m) .uD=[c0,c1,c2,c3,c4].getD m .uD:=by
 match m,hm with
 |0,_=>rfl
 |1,_=>rfl
 |2,_=>rfl
 |3,_=>rfl
 |4,_=>rfl
theorem aPr(m:af)(hm:m<5)(d:D):∃e0 e1 e2 e3 e4,(wv pg wa va M T p t c0 c1 c2 c3 c4 kv P U W x13 x14 x15 x16).set (5+m) d=wv pg wa va M T p t e0 e1 e2 e3 e4 kv P U W x13 x14 x15 x16/\[e0,e1,e2,e3,e4]=[c0,c1,c2,c3,c4].set m d:=by
 match m,hm with
 |0,_=>exact⟨_,_,_,_,_,rfl,rfl⟩
 |1,_=>exact⟨_,_,_,_,_,rfl,rfl⟩
 |2,_=>exact⟨_,_,_,_,_,rfl,rfl⟩
 |3,_=>exact⟨_,_,_,_,_,rfl,rfl⟩
 |4,_=>exact⟨_,_,_,_,_,rfl,rfl⟩
theorem aLi(l:aa D)(i j:af)(v:D):(l.set i v).getD j .uD=if i=j/\i<l.length then v else l.getD j .uD:=by
 rw[b9,iu];by_cases h:i=j
 ·subst h;rw[al rfl];by_cases h2:i<l.length
  ·rw[al h2,al ⟨rfl,h2⟩];rfl
  ·rw[au h2,au λz=>h2 z.2,b9,oI 0x1]
 ·rw[au h,au λz=>h z.1,b9]
def kvL(va:aa Str)(as:aa af):aa (Str×D):=d_ [] (va.zip (as.map ω))
theorem aCy:∀(va:aa Str)(as:aa af),aKj va as=dD δ (va.zip (as.map ω))
 |[],_=>rfl
 |_::_,[]=>rfl
 |x::va,a::as=>cy ((δ x,ω a)::·) (aCy va as)
theorem aPs(va:aa Str)(as:aa af):i_ [] (aKj va as)=dD δ (kvL va as):=by
 rw[aCy];exact x_ cU _ []
theorem aCz(h:as.length=va.length)(w:Str):(bL (kvL va as) w).isSome=ϒ (w∈va):=by
 unfold kvL;rw[wC,Bx (by rw[aw];lia)];rfl
theorem vA[cr α](a:α)(v:D):∀L:aa (α×D),bL L a=ab v->(a,v)∈L
 |[],h=>by cases h
 |p::L,h=>by
  rw[bL] at h;split at h
  ·rename_i z;cases h;rw[<-z];exact bj ..
  ·exact bp _ (vA a v L h)
theorem W6[cr α]{P:D->Prop}(a:α)(v:D)(hv:P v):∀L:aa (α×D),(∀p∈L,P p.2)->∀p∈mK L a v,P p.2
 |[],_,p,hp=>by
  rw[mK] at hp;rw[eL.mp hp];exact hv
 |q::L,h,p,hp=>by
  rw[mK] at hp;split at hp
  ·rcases bu.mp hp with rfl|hp
   ·exact hv
   ·exact h p (bp _ hp)
  ·rcases bu.mp hp with rfl|hp
   ·exact h _ (bj ..)
   ·exact W6 a v hv L (λp hp=>h p (bp _ hp)) p hp
theorem oX[cr α]{P:D->Prop}:∀(ps L:aa (α×D)),(∀p∈ps,P p.2)->(∀p∈L,P p.2)->∀p∈d_ L ps,P p.2
 |[],_,_,h=>h
 |q::ps,L,h1,h2=>oX ps (mK L q.1 q.2) (λp hp=>h1 p (bp _ hp)) (W6 q.1 q.2 (h1 q (bj ..)) L h2)
theorem aD0(va:aa Str)(as:aa af):∀p∈kvL va as,∃a∈as,p.2=.adr a:=oX (P:=λd=>∃a∈as,d=.adr a) _ _ (λp hp=>by
 obtain⟨x,d⟩:=p;obtain⟨a,ha,e⟩:=bE.mp (nI hp).2;exact⟨a,ha,e.symm⟩) (λp hp=>by cases hp)
theorem W7[cr α](a:α)(v:D):∀(L:aa (α×D)),∀p∈mK L a v,p∈L\/p=(a,v)
 |[],p,hp=>by
  rw[mK] at hp;exact .inr (eL.mp hp)
 |q::L,p,hp=>by
  rw[mK] at hp;split at hp
  ·rename_i z;rcases bu.mp hp with rfl|hp
   ·exact .inr (by rw[z])
   ·exact .inl (bp _ hp)
  ·rcases bu.mp hp with rfl|hp
   ·exact .inl (bj ..)
   ·exact(W7 a v L p hp).imp (bp _) id
theorem A_[cr α]:∀(ps L:aa (α×D)),∀p∈d_ L ps,p∈L\/p∈ps
 |[],_,p,h=>.inl h
 |q::ps,L,p,h=>by
  rcases A_ ps (mK L q.1 q.2) p h with h|h
  ·rcases W7 q.1 q.2 L p h with h|rfl
   ·exact .inl h
   ·exact .inr (bj ..)
  ·exact .inr (bp _ h)
theorem aD1:∀(va:aa Str)(as:aa af),as.Nodup->(x,ω a)∈va.zip (as.map ω)->(y,ω a)∈va.zip (as.map ω)->x=y
 |[],_,_,h,_=>by cases h
 |_::_,[],_,h,_=>by cases h
 |u::va,b::as,nd,h1,h2=>by
  rw[c_] at nd;have no:∀z,(z,ω b)∉va.zip (as.map ω):=λz hz=>by
   obtain⟨c,hc,e⟩:=bE.mp (nI hz).2;cases e;exact nd.1 hc
  rw[bd,n9] at h1 h2;rcases bu.mp h1 with k1|k1
  ·cases k1;rcases bu.mp h2 with k2|k2
   ·cases k2;rfl
   ·exact ay k2 (no y)
  ·rcases bu.mp h2 with k2|k2
   ·cases k2;exact ay k1 (no x)
   ·exact aD1 va as nd.2 k1 k2
theorem aPt(nd:as.Nodup)(h1:bL (kvL va as) x=ab (.adr a))(h2:bL (kvL va as) y=ab (.adr a)):x=y:=by
 rcases A_ _ _ _ (vA x _ _ h1) with z|z
 ·cases z
 ·rcases A_ _ _ _ (vA y _ _ h2) with q|q
  ·cases q
  ·exact aD1 va as nd z q
structure Hd(va:aa Str)(as:aa af)(N:af)(pl:Str->aa En)(cs:aa D):Prop where
 len:cs.length=5
 ok:∀m,m<5->isC (cs.getD m .uD)=ae
 un:∀m k a X Y,m<5->k<5->cs.getD m .uD=.cel a X->cs.getD k .uD=.cel a Y->m=k
 has:∀x a,bL (kvL va as) x=ab (.adr a)->∃m,m<5/\cs.getD m .uD=.cel a ((pl x).map enD)
 ln:∀x,(pl x).length<=N
noncomputable def plA(pl:Str->aa En)(w:Str)(e:En):Str->aa En:=λx=>if x=w then pl w++[e] else pl x
theorem aLj(h:fo ρ=.ok (.adr a))(h2:fe ρ=.ok (enD e))(hρ:ρ=wv pg wa va M T p t c0 c1 c2 c3 c4 kv P U W x13 x14 x15 x16)(hd:Hd va as N pl [c0,c1,c2,c3,c4])(nd:as.Nodup)(ha:bL (kvL va as) w=ab (.adr a))(hN:N<=1000) :
  ∃e0 e1 e2 e3 e4,Hd va as (N+1) (plA pl w e) [e0,e1,e2,e3,e4]/\aFi 5 5 fo fe ρ=.ok (.nx (wv pg wa va M T p t e0 e1 e2 e3 e4 kv P U W x13 x14 x15 x16)):=by
 obtain⟨m0,hm0,em0⟩:=hd.has w a ha;obtain⟨m,X,hm,hs,hX⟩:=W5 (ρ:=ρ) (a:=a) ⟨m0,_,hm0,by rw[hρ,aCx m0 hm0];exact em0⟩;have hX':=hX;rw[hρ,aCx m hm] at hX';obtain rfl:=hd.un m m0 a _ _ hm hm0 hX' em0;rw[hX'] at em0;injection em0 with _ em0
 subst em0;obtain⟨e0,e1,e2,e3,e4,q1,q2⟩:=aPr (pg:=pg) (wa:=wa) (va:=va) (M:=M) (T:=T) (p:=p) (t:=t) (c0:=c0) (c1:=c1) (c2:=c2) (c3:=c3) (c4:=c4) (kv:=kv) (P:=P) (U:=U) (W:=W) (x13:=x13) (x14:=x14) (x15:=x15) (x16:=x16) m hm (.cel a ((pl w++[e]).map enD));refine⟨e0,e1,e2,e3,e4,?_,?_⟩
 ·rw[q2];have at_:∀k,(([c0,c1,c2,c3,c4].set m (.cel a ((pl w++[e]).map enD))).getD k .uD)=if m=k/\m<5 then .cel a ((pl w++[e]).map enD) else [c0,c1,c2,c3,c4].getD k .uD:=λk=>aLi _ m k _
  have old:∀k b Y,k<5->(([c0,c1,c2,c3,c4].set m (.cel a ((pl w++[e]).map enD))).getD k .uD)=.cel b Y->∃Z,[c0,c1,c2,c3,c4].getD k .uD=.cel b Z:=λk b Y hk z=>by
   rw[at_] at z;split at z
   ·rename_i q;obtain⟨rfl,_⟩:=q;cases z;exact⟨_,hX'⟩
   ·exact⟨Y,z⟩
  refine⟨by rw[kg];rfl,λk hk=>?_,λk l b Y Z hk hl z1 z2=>?_,λx b hb=>?_,λx=>?_⟩
  ·rw[at_];split
   ·rfl
   ·exact hd.ok k hk
  ·obtain⟨Y',y1⟩:=old k b Y hk z1;obtain⟨Z',z1'⟩:=old l b Z hl z2;exact hd.un k l b Y' Z' hk hl y1 z1'
  ·by_cases hxw:x=w
   ·subst hxw;rw[ha] at hb;cases hb;exact⟨m,hm,by rw[at_,al ⟨rfl,hm⟩,plA,al rfl]⟩
   ·obtain⟨k,hk,ek⟩:=hd.has x b hb;refine⟨k,hk,?_⟩;rw[at_,au,plA,au hxw]
    ·exact ek
    ·rintro⟨rfl,_⟩;rw[hX'] at ek;injection ek with ek
     subst ek;exact hxw (aPt nd hb ha)
  ·unfold plA;have:=hd.ln w;have:=hd.ln x;split
   ·rw[bg];show _+1<=_;lia
   ·lia
 ·unfold aFi;rw[h,τ,hs,bh (show 5+m<5+5 by lia),al rfl];have:=hd.ln w;have g:=J5 (j:=5+m) h h2 hX (by rw[aw,bR];lia) rfl;rw[g,hρ,<-q1,b6];rfl
def Nm(P:aa Pi):Prop:=∀i (h:i<P.length),(P[i]).1=(i:ag)+1
theorem Nm.snoc(h:Nm P)(w:Str):Nm (P++[((P.length:ag)+1,w)]):=λi hi=>by
 rw[List.getElem_append];split
 ·exact h i _
 ·rename_i z;rw[bg] at hi;have:i=P.length:=by simp at hi;lia
  subst this;simp
theorem Nm.rise(h:Nm P):P.Pairwise λa b=>a.1<b.1:=ug.mpr λi j hi hj hij=>by
 rw[h i hi,h j hj];lia
theorem aLk(h:ρ.getD i .uD=.lst (xs++[x])):YW i j ρ=.ok (.nx ((ρ.set i (.lst xs)).set j x)):=by
 unfold YW;rw[h];show(match (xs++[x])[(xs++[x]).length-1]? with|some x=>_|none=>_)=_;have e1:(xs++[x])[(xs++[x]).length-1]?=ab x:=by simp
 rw[e1,List.dropLast_concat]
theorem aPu(h:f ρ=.ok (.lst xs,ρ'))(hp:θ xs=ae):xLR f ρ=.ok (.lst xs.reverse,ρ'):=by
 unfold xLR;rw[h,τ];show(if θ xs=ae then _ else _)=_;rw[al hp]
theorem aLl(h:f ρ=.ok (.lst ys,ρ'))(h0:ρ.getD i .uD=.lst xs0)(h1:ρ'.getD i .uD=.lst xs)(hl:xs.length+ys.length<=lim)(hp:θ ys=ae):aFe i f ρ=.ok (.nx (ρ'.set i (.lst (xs++ys)))):=by
 unfold aFe;rw[h,τ,h0];dsimp only;rw[h1];show(if (ϒ (xs.length+ys.length<=lim)&&θ ys)=ae then _ else _)=_;rw[bh hl,hp];rfl
theorem aHo:YW 12 14 (wv pg wa va M T p t c0 c1 c2 c3 c4 kv P U (e::W) x13 x14 x15 x16)=.ok (.nx (wv pg wa va M T p t c0 c1 c2 c3 c4 kv P U W x13 (enD e) x15 x16)):=aLk (by show π ((e::W).reverse.map enD)=_;rw[iL,b6];rfl)
theorem aPv(h:as.length=va.length)(w:Str):bTB (b2 inX uN n6) (wv pg wa va M T p t c0 c1 c2 c3 c4 (dD δ (kvL va as)) P U W (.str w) x14 x15 x16)=.ok (ϒ (w∈va)):=by
 refine dG (aJ rfl rfl ?_);show cT .isin (.str w) (.dct (dD δ (kvL va as)))=_;rw[xG cU,aCz h]
theorem aHp(h:as.length=va.length)(hw:w∈va):∃a,bL (kvL va as) w=ab (.adr a)/\Mi.getD (.dct (dD δ (kvL va as))) (.str w)=.ok (.adr a):=by
 have s:=aCz h w;rw[bh hw] at s;obtain⟨d,hd⟩:=wz.mp s;obtain⟨a,ha,e⟩:=aD0 va as _ (vA w d _ hd);replace e:d=.adr a:=e;subst e;refine⟨a,hd,?_⟩;show(if keyOk (.str w) then ν (eX (dD δ (kvL va as)) (.str w)) else .bad)=_;rw[al (show keyOk (.str w)=ae from rfl),uB cU,hd];rfl
theorem v_name(h:as.length=va.length)(nd:as.Nodup)(hw:w∈va)(hd:Hd va as N pl [c0,c1,c2,c3,c4])(hN:N<=1000) :
  ∃e0 e1 e2 e3 e4,Hd va as (N+1) (plA pl w e) [e0,e1,e2,e3,e4]/\aFo (wv pg wa va M T p t c0 c1 c2 c3 c4 (dD δ (kvL va as)) P U (e::W) (.str w) x14 x15 x16)=.ok (.nx (wv pg wa va M T p t e0 e1 e2 e3 e4 (dD δ (kvL va as)) P U W (.str w) (enD e) x15 x16)):=by
 obtain⟨a,ha,ga⟩:=aHp h hw;have c:=aPv (pg:=pg) (wa:=wa) (M:=M) (T:=T) (p:=p) (t:=t) (c0:=c0) (c1:=c1) (c2:=c2) (c3:=c3) (c4:=c4) (P:=P) (U:=U) (W:=W) (x14:=enD e) (x15:=x15) (x16:=x16) h w;rw[bh hw] at c;obtain⟨e0,e1,e2,e3,e4,q1,q2⟩:=aLj (fo:=b2 getD n6 uN) (fe:=gM 14) (aJ (x:=.dct (dD δ (kvL va as))) (y:=.str w) rfl rfl ga) rfl (rfl:wv pg wa va M T p t c0 c1 c2 c3 c4 (dD δ (kvL va as)) P U W (.str w) (enD e) x15 x16=_) hd nd ha hN;exact⟨e0,e1,e2,e3,e4,q1,aM aHo (V4 c q2)⟩
theorem aPw(h:as.length=va.length)(hv:w∉va)(hw:Wx M T w a)(hP:P.length<=1000)(hU:U.length<=1000)(hW:W.length<=3000) :
  aFo (wv pg wa va M T p t c0 c1 c2 c3 c4 (dD δ (kvL va as)) P U (e::W) (.str w) x14 x15 x16)=.ok (.nx (wv pg wa va M T p t c0 c1 c2 c3 c4 (dD δ (kvL va as)) (P++[((P.length:ag)+1,w)]) (U++[(((P.length:ag)+1,gv T w),e)]) (hk T ((P.length:ag)+1) w a++W) (.str w) (enD e) x15 x16)):=by
 have c:=aPv (pg:=pg) (wa:=wa) (M:=M) (T:=T) (p:=p) (t:=t) (c0:=c0) (c1:=c1) (c2:=c2) (c3:=c3) (c4:=c4) (P:=P) (U:=U) (W:=W) (x14:=enD e) (x15:=x15) (x16:=x16) h w;rw[cw hv] at c;have ly:=aPq (p:=p) (t:=t) (e:=e) hw hP hU;have hl:=xH hw ((P.length:ag)+1);have ha:=hw.len;generalize (P.length:ag)+1=n at ly hl ⊢;refine aM aHo (oK c ?_);have m:=yC (i:=10) (j:=3) (c:= "Loom") (m:= "lay") (f:=ZC) (n:=3) (ρ:=wv pg wa va M T p t c0 c1 c2 c3 c4 (dD δ (kvL va as)) P U W (.str w) (enD e) x15 x16) (fa:=aC uN (aC mX aO)) (ds:=[.str w,enD e]) (fs:=[(("heads" : Str),ψ (dD δ (hds M T))),("takers",.dct (dD δ (tks T))),("pieces",.adr p),("ties",.adr t)]) rfl 0xe rfl rfl (aPp ..) rfl ly (aP wB _) (aP nM _);have x:=aLl (i:=12) (xs0:=W.reverse.map enD) (xs:=W.reverse.map enD) (aPu m (aP eN _)) rfl rfl (by rw[aw,mE,mE,aw,bR,hl];lia) (by rw[<-zz];exact aP eN _);rw[show W.reverse.map enD++((hk T n w a).map enD).reverse=((hk T n w a++W).reverse).map enD from by rw[List.reverse_append,b6,<-zz]] at x;exact x
def arS(M:aa Mk)(T:aa Tk)(w:Str):af:=match bL (stk M T) w with
 |some (.int a)=>a.toNat
 |_=>0
theorem xK(h:Wx M T w a):arS M T w=a:=by
 unfold arS;rw[h.stk];show((a:af):ag).toNat=_;lia
def wr(M:aa Mk)(T:aa Tk)(va:aa Str):af->aa Str->aa En->(Str->aa En)->aa Pi×aa Ti×(Str->aa En)
 |_,[],_,pl=>([],[],pl)
 |_,_::_,[],pl=>([],[],pl)
 |k,w::ws,e::W,pl=>if w∈va then wr M T va k ws W (plA pl w e) else (((k:ag)+1,w)::(wr M T va (k+1) ws (hk T ((k:ag)+1) w (arS M T w)++W) pl).1,(((k:ag)+1,gv T w),e)::(wr M T va (k+1) ws (hk T ((k:ag)+1) w (arS M T w)++W) pl).2.1,(wr M T va (k+1) ws (hk T ((k:ag)+1) w (arS M T w)++W) pl).2.2)
theorem aD2(h:as.length=va.length)(nd:as.Nodup)(hx:∀w a,Wd M T w a->Wx M T w a/\w∉va):∀(ws:aa Str)(N:af)(pl:Str->aa En)(c0 c1 c2 c3 c4:D)(P:aa Pi)(U:aa Ti)(W:aa En)(x13 x14:D),Dk M T va W.length ws->Hd va as N pl [c0,c1,c2,c3,c4]->N+ws.length<=1000->P.length+ws.length<=1000->U.length+ws.length<=1000->W.length+3*ws.length<=3000->
  ∃(e0 e1 e2 e3 e4:D)(y13 y14:D),Hd va as (N+ws.length) (wr M T va P.length ws W pl).2.2 [e0,e1,e2,e3,e4]/\n8 (tg1 13) aFo (ws.map δ) (wv pg wa va M T p t c0 c1 c2 c3 c4 (dD δ (kvL va as)) P U W x13 x14 x15 x16)=.ok (.nx (wv pg wa va M T p t e0 e1 e2 e3 e4 (dD δ (kvL va as)) (P++(wr M T va P.length ws W pl).1) (U++(wr M T va P.length ws W pl).2.1) [] y13 y14 x15 x16))
 |[],N,pl,c0,c1,c2,c3,c4,P,U,W,x13,x14,hd,hh,_,_,_,_=>by
  cases W with
  |nil=>exact⟨c0,c1,c2,c3,c4,x13,x14,by rw[wr];exact hh,by rw[wr,dq,dq];rfl⟩
  |cons e W=>cases hd
 |w::ws,N,pl,c0,c1,c2,c3,c4,P,U,W,x13,x14,hd,hh,h0,h1,h2,h3=>by
  cases W with
  |nil=>cases hd
  |cons e W=>
   rw[aS] at hd h0 h1 h2 h3;rw[aS] at h3;cases hd with
   |@cons _ a _ _ wd d=>
    by_cases wn:w∈va
    ·have d':Dk M T va W.length ws:=by
      rcases wd with wd|⟨_,rfl⟩
      ·exact ay wn (hx w a wd).2
      ·rw[ia] at d;exact d
     obtain⟨b0,b1,b2_,b3,b4,q1,s⟩:=v_name (pg:=pg) (wa:=wa) (M:=M) (T:=T) (p:=p) (t:=t) (P:=P) (U:=U) (W:=W) (e:=e) (x14:=x14) (x15:=x15) (x16:=x16) h nd wn hh 0x1;obtain⟨e0,e1,e2,e3,e4,y13,y14,i1,i5⟩:=aD2 h nd hx ws (N+1) (plA pl w e) b0 b1 b2_ b3 b4 P U W (.str w) (enD e) d' q1 0x1 0x1 0x1 0x1;refine⟨e0,e1,e2,e3,e4,y13,y14,?_,?_⟩
     ·rw[wr,al wn,aS,show N+(ws.length+1)=N+1+ws.length by lia];exact i1
     ·rw[bd,wr,al wn];exact cC (ρ1:=wv pg wa va M T p t c0 c1 c2 c3 c4 (dD δ (kvL va as)) P U (e::W) (.str w) x14 x15 x16) rfl s i5
    ·obtain⟨wd',wx⟩:Wd M T w a/\Wx M T w a:=by
      rcases wd with wd|⟨z,_⟩
      ·exact⟨wd,(hx w a wd).1⟩
      ·exact ay z wn
     have ha:=wx.len;have hl:=xH wx ((P.length:ag)+1);have s:=aPw (pg:=pg) (wa:=wa) (p:=p) (t:=t) (c0:=c0) (c1:=c1) (c2:=c2) (c3:=c3) (c4:=c4) (P:=P) (U:=U) (W:=W) (e:=e) (x14:=x14) (x15:=x15) (x16:=x16) h wn wx 0x1 0x1 0x1;have pl_:(P++[((P.length:ag)+1,w)]).length=P.length+1:=by rw[bg];rfl
     have ul:(U++[(((P.length:ag)+1,gv T w),e)]).length=U.length+1:=by rw[bg];rfl
     obtain⟨e0,e1,e2,e3,e4,y13,y14,i1,i5⟩:=aD2 h nd hx ws N pl c0 c1 c2 c3 c4 (P++[((P.length:ag)+1,w)]) (U++[(((P.length:ag)+1,gv T w),e)]) (hk T ((P.length:ag)+1) w a++W) (.str w) (enD e) (by rw[bg,hl];exact d) hh 0x1 (by rw[pl_];lia) (by rw[ul];lia) (by rw[bg,hl];lia);rw[pl_] at i1 i5;refine⟨e0,e1,e2,e3,e4,y13,y14,?_,?_⟩
     ·rw[wr,au wn,xK wx,aS];exact⟨i1.len,i1.ok,i1.un,i1.has,λx=>c9 (i1.ln x) 0x1⟩
     ·rw[bd,wr,au wn,xK wx];refine cC (ρ1:=wv pg wa va M T p t c0 c1 c2 c3 c4 (dD δ (kvL va as)) P U (e::W) (.str w) x14 x15 x16) rfl s (i5.trans ?_);rw[dt,dt];rfl
theorem aLm(h:fo ρ=.ok (.adr a))(h2:f ρ=.ok (d,ρ'))(hj0:ρ.getD j .uD=.cel a ys)(hj:ρ'.getD j .uD=.cel a xs)(hl:xs.length<lim)(hp:d.pure=ae):aFf j fo f ρ=.ok (.nx (ρ'.set j (.cel a (xs++[d])))):=by
 unfold aFf;rw[h,τ,h2,τ,hj0];dsimp only;rw[hj];show(if (ϒ (a=a)&&(ϒ (a=a)&&(ϒ (xs.length<lim)&&d.pure)))=ae then _ else _)=_;rw[bh rfl,bh hl,hp];rfl
theorem aHq(h:f (ds++bq (m-(n+2)) .uD)=.ok (.nx ρ)):fnG n m f ds=.ok (.tup [.non,ρ.getD n .uD,ρ.getD (n+1) .uD]):=by
 unfold fnG;rw[h,τ];rfl
theorem aPx(h1:f ρ=.ok (d,ρ'))(h2:g ρ'=.ok e)(hd:d.pure=ae)(he:e.pure=ae):aOl (YX f (wM g aJs)) ρ=.ok (.tup [d,e],ρ'):=by
 have i1:wM g aJs ρ'=.ok ([e],ρ'):=by
  unfold wM;rw[h2,τ];show(if e.pure=ae then _ else _)=_;rw[al he]
 have i2:YX f (wM g aJs) ρ=.ok ([d,e],ρ'):=by
  unfold YX;rw[h1,τ];show(wM g aJs ρ' >>= _)=_;rw[i1,τ];show(if d.pure=ae then _ else _)=_;rw[al hd]
 unfold aOl;rw[i2,τ];show(if (ϒ (2<=lim)&&(d.pure&&(e.pure&&ae)))=ae then _ else _)=_;rw[bh iU,hd,he];rfl
def sv(M:aa Mk)(T:aa Tk)(p t:af)(X:aa En)(g:En)(P:aa Pi)(U:aa Ti)(x5 x6:D):aa D:=[lmD M T p t,enD g,.scr (X.map enD),.cel p (P.map piD),.cel t (U.map tiD),x5,x6]
theorem aHr(hP:P.length<=1000)(w:Str):tQ "Loom" "add_piece" dO 2 0 3 (aC (bPu (bC (.str w))) aO) (sv M T p t X g P U x5 x6)=.ok (.int ((P.length:af)+1),sv M T p t X g (P++[((P.length:ag)+1,w)]) U x5 x6):=
 yC rfl rfl rfl rfl (aHn ..) rfl (xJ hP) (aP wB _) (aP nM _)
theorem aD3:xV "Loom" "ties" cA (sv M T p t X g P U x5 x6)=.ok (.adr t):=P_ rfl (TF ..)
theorem aD4(h:fe (sv M T p t X g P U x5 x6)=.ok (tiD u))(hU:U.length<=2000):xP 4 (xV "Loom" "ties" cA) fe (sv M T p t X g P U x5 x6)=.ok (.nx (sv M T p t X g P (U++[u]) x5 x6)):=by
 have a:=J5 (j:=4) aD3 h rfl (by rw[aw,bR];lia) (nM u);rw[a];unfold sv;rw[b6];rfl
theorem aPy(hP:P.length<=1000)(hU:U.length<=1900)(e:En) :
  aKu (sv M T p t X g P U (enD e) x6)=.ok (.nx (sv M T p t X ((P.length:ag)+1,2) (P++[((P.length:ag)+1,("copy" : Str))]) (U++[(((P.length:ag)+1,0),g)]++[(((P.length:ag)+1,1),e)]) (enD e) (.int ((P.length:af)+1)))):=by
 refine aM (aCu (aHr hP "copy")) ?_;refine aM (aD4 (u:=(((P.length:ag)+1,0),g)) (bK (xs:=[enD ((P.length:ag)+1,0),enD g]) (aD (bK (xs:=[.int ((P.length:af)+1),.int 0]) 0xe iU) 0xf) iU) 0x1) ?_;refine aM (aD4 (u:=(((P.length:ag)+1,1),e)) (bK (xs:=[enD ((P.length:ag)+1,1),enD e]) (aD (bK (xs:=[.int ((P.length:af)+1),.int 1]) 0xe iU) 0xf) iU) (by rw[bg];show U.length+1<=_;lia)) ?_;exact eZ (i:=1) (d:=enD ((P.length:ag)+1,2)) (bK (xs:=[.int ((P.length:af)+1),.int 2]) 0xe iU) rfl
noncomputable def lp:af->aa En->En->aa Pi×aa Ti×En
 |_,[],g=>([],[],g)
 |k,e::Y,g=>(((k:ag)+1,("copy" : Str))::(lp (k+1) Y ((k:ag)+1,2)).1,(((k:ag)+1,0),g)::(((k:ag)+1,1),e)::(lp (k+1) Y ((k:ag)+1,2)).2.1,(lp (k+1) Y ((k:ag)+1,2)).2.2)
theorem W8:∀(Y:aa En)(k:af)(g:En),(lp k Y g).1.length=Y.length/\(lp k Y g).2.1.length=2*Y.length
 |[],_,_=>⟨rfl,rfl⟩
 |e::Y,k,g=>by
  obtain⟨h1,h2⟩:=W8 Y (k+1) ((k:ag)+1,2);refine⟨?_,?_⟩
  ·show(lp (k+1) Y ((k:ag)+1,2)).1.length+1=Y.length+1;rw[h1]
  ·show(lp (k+1) Y ((k:ag)+1,2)).2.1.length+1+1=2*(Y.length+1);lia
theorem aHs:∀(Y:aa En)(g:En)(P:aa Pi)(U:aa Ti)(x5 x6:D),P.length+Y.length<=1000->U.length+2*Y.length<=1900->
  ∃(y5 y6:D),n8 (tg1 5) aKu (Y.map enD) (sv M T p t X g P U x5 x6)=.ok (.nx (sv M T p t X (lp P.length Y g).2.2 (P++(lp P.length Y g).1) (U++(lp P.length Y g).2.1) y5 y6))
 |[],g,P,U,x5,x6,_,_=>⟨x5,x6,by simp only[lp,dq];rfl⟩
 |e::Y,g,P,U,x5,x6,h1,h2=>by
  rw[aS] at h1 h2;have s:=aPy (M:=M) (T:=T) (p:=p) (t:=t) (X:=X) (g:=g) (P:=P) (U:=U) (x6:=x6) 0x1 0x1 e;have pl:(P++[((P.length:ag)+1,("copy" : Str))]).length=P.length+1:=by rw[bg];rfl
  obtain⟨y5,y6,i4⟩:=aHs Y ((P.length:ag)+1,2) (P++[((P.length:ag)+1,("copy" : Str))]) (U++[(((P.length:ag)+1,0),g)]++[(((P.length:ag)+1,1),e)]) (enD e) (.int ((P.length:af)+1)) (by rw[pl];lia) (by rw[bg,bg];show U.length+1+1+_<=_;lia);refine⟨y5,y6,?_⟩;rw[bd];refine cC (ρ1:=sv M T p t X g P U (enD e) x6) rfl s (i4.trans ?_);rw[pl];simp only[lp,dt,eP,c6]
theorem aG5(X:aa En)(h:X≠[]):Mi.getD (.scr (X.map enD)) (.int (-1))=.ok (enD (X.getLastD (0,0))):=by
 have hl:0<X.length:=C9.mpr h;have el:X.getLastD (0,0)=X[X.length-1]:=by
  rw[zI,Da,d5 0x1];rfl
 rw[el];show ν ((ixD (X.map enD).length (-1)).bind λj=>(X.map enD)[j]?)=_;have e:ixD (X.map enD).length (-1)=ab (X.length-1):=by
  unfold ixD;rw[au 0x4,aw,al 0x1]
  congr 1
  lia
 rw[e];show ν ((X.map enD)[X.length-1]?)=_;rw[gs,d5 0x1];rfl
def sr(k:af)(X:aa En)(g:En):aa Pi×aa Ti:=match X with
 |[]=>([((k:ag)+1,("drop" : Str))],[(((k:ag)+1,0),g)])
 |x::Y=>((lp k (cutD (x::Y) ai (ab (-1))) g).1,(lp k (cutD (x::Y) ai (ab (-1))) g).2.1++[((lp k (cutD (x::Y) ai (ab (-1))) g).2.2,(x::Y).getLastD (0,0))])
theorem aD5(k:af)(X:aa En)(g:En):(sr k X g).1.length<=X.length+1/\(sr k X g).2.length<=2*X.length+1:=by
 cases X with
 |nil=>exact⟨aT _,aT _⟩
 |cons x X=>
  have hc:=sI (x::X) ai (ab (-1));obtain⟨h1,h2⟩:=W8 (cutD (x::X) ai (ab (-1))) k g;refine⟨?_,?_⟩
  ·show(lp k (cutD (x::X) ai (ab (-1))) g).1.length<=_;lia
  ·show((lp k (cutD (x::X) ai (ab (-1))) g).2.1++[_]).length<=_;rw[bg,h2];show _+1<=_;lia
theorem aPz:∀(Y:aa En)(P:aa Pi)(g:En),Nm P->Nm (P++(lp P.length Y g).1)
 |[],P,g,h=>by rw[lp,dq];exact h
 |e::Y,P,g,h=>by
  have pl:(P++[((P.length:ag)+1,("copy" : Str))]).length=P.length+1:=by rw[bg];rfl
  have i:=aPz Y (P++[((P.length:ag)+1,("copy" : Str))]) ((P.length:ag)+1,2) (h.snoc "copy");rw[pl,dt] at i;exact i
theorem aSt(X:aa En)(P:aa Pi)(g:En)(h:Nm P):Nm (P++(sr P.length X g).1):=by
 cases X with
 |nil=>exact h.snoc "drop"
 |cons x X=>exact aPz _ P g h
theorem aG6(h1:P.length+X.length<1000)(h2:U.length+2*X.length<=1800)(g:En) :
  vZ [lmD M T p t,enD g,.scr (X.map enD),.cel p (P.map piD),.cel t (U.map tiD)]=.ok (.tup [.non,.cel p ((P++(sr P.length X g).1).map piD),.cel t ((U++(sr P.length X g).2).map tiD)]):=by
 have c:KC (aSk fB) (sv M T p t X g P U .uD .uD)=.ok (!(!(X.map enD).isEmpty)):=rfl;cases X with
 |nil=>
  refine(aHq (ρ:=sv M T p t [] g (P++[((P.length:ag)+1,("drop" : Str))]) (U++[(((P.length:ag)+1,0),g)]) .uD .uD) ?_).trans rfl;refine V4 c ?_;have x1:=aPx (g:=bC (.int 0)) (aHr (M:=M) (T:=T) (p:=p) (t:=t) (X:=[]) (g:=g) (P:=P) (U:=U) (x5:=.uD) (x6:=.uD) 0x1 "drop") rfl rfl rfl;have x2:=aPx (g:=gM 1) (e:=enD g) x1 rfl rfl (eN g);have a:=aLm (j:=4) aD3 x2 rfl rfl (by rw[aw,bR];lia) (nM (((P.length:ag)+1,0),g));refine a.trans ?_;unfold sv;rw[b6 (f:=tiD)];rfl
 |cons x X=>
  have hz:=aG5 (x::X) 0x2;have sl:bW (V3 fB jJ (jH (b1 aAt cF))) ae (sv M T p t (x::X) g P U .uD .uD)=.ok ((cutD (x::X) ai (ab (-1))).map enD,ae):=by
   have e:aDu (.scr ((x::X).map enD)) ai (ab (-1))=.ok (.lst ((cutD (x::X) ai (ab (-1))).map enD)):=by
    show(if θ ((x::X).map enD) then ι (π (cutD ((x::X).map enD) ai (ab (-1)))) else .bad)=_;rw[al (aP eN _),xY]
   show(V3 fB jJ (jH (b1 aAt cF)) (sv M T p t (x::X) g P U .uD .uD) >>= λd=>(D_ d >>= λxs=>pure (xs,ae||d.pure)))=_;rw[show V3 fB jJ (jH (b1 aAt cF)) (sv M T p t (x::X) g P U .uD .uD)=.ok (.lst ((cutD (x::X) ai (ab (-1))).map enD)) from e];rfl
  have hc:=sI (x::X) ai (ab (-1));obtain⟨y5,y6,i4⟩:=aHs (M:=M) (T:=T) (p:=p) (t:=t) (X:=x::X) (cutD (x::X) ai (ab (-1))) g P U .uD .uD 0x1 0x1;obtain⟨q1,q2⟩:=W8 (cutD (x::X) ai (ab (-1))) P.length g;refine(aHq (ρ:=sv M T p t (x::X) (lp P.length (cutD (x::X) ai (ab (-1))) g).2.2 (P++(sr P.length (x::X) g).1) (U++(sr P.length (x::X) g).2) y5 y6) ?_).trans rfl;refine oK c (aM (nT sl i4) ?_);have ap:=aD4 (M:=M) (T:=T) (p:=p) (t:=t) (X:=x::X) (g:=(lp P.length (cutD (x::X) ai (ab (-1))) g).2.2) (P:=P++(lp P.length (cutD (x::X) ai (ab (-1))) g).1) (U:=U++(lp P.length (cutD (x::X) ai (ab (-1))) g).2.1) (x5:=y5) (x6:=y6) (fe:=cM (aC fG (aC (b2 getD fB (b1 aAt cF)) aO))) (u:=((lp P.length (cutD (x::X) ai (ab (-1))) g).2.2,(x::X).getLastD (0,0))) (bK (xs:=[enD (lp P.length (cutD (x::X) ai (ab (-1))) g).2.2,enD ((x::X).getLastD (0,0))]) (aD rfl (aD (aJ (x:=.scr ((x::X).map enD)) (y:=.int (-1)) rfl rfl hz) rfl)) iU) (by rw[bg,q2];lia);rw[dt] at ap;exact ap
def ltP(p q:En):Prop:=p.1<q.1\/p.1=q.1/\p.2<q.2
noncomputable instance (p q:En):zo (ltP p q):=by unfold ltP;infer_instance
theorem aQ0(p q:En):j_ .lt (enD p) (enD q)=ab (ϒ (ltP p q)):=by
 obtain⟨a,b⟩:=p;obtain⟨c,d⟩:=q;by_cases h1:a=c<;>by_cases h2:b=d<;>simp[enD,j_,jE,yO,h1,h2,g_.int,g_.nat,ltP]
theorem aQ1(p q:En):j_ .gt (enD p) (enD q)=ab (ϒ (ltP q p)):=by
 obtain⟨a,b⟩:=p;obtain⟨c,d⟩:=q;by_cases h1:a=c
 ·by_cases h2:b=d<;>simp[enD,j_,jE,yO,h1,h2,g_.int,g_.nat,ltP]
 ·simp[enD,j_,jE,yO,h1,g_.int];simp only[ltP];lia
theorem aQ2(p q:En):j_ .ge (enD p) (enD q)=ab (!ϒ (ltP p q)):=by
 obtain⟨a,b⟩:=p;obtain⟨c,d⟩:=q;by_cases h1:a=c
 ·by_cases h2:b=d
  ·simp[enD,j_,jE,yO,h1,h2,g_.int,g_.nat,ltP]
  ·simp[enD,j_,jE,yO,h1,h2,g_.int,g_.nat,ltP];by_cases h3:b<d
   ·rw[bh h3,cw 0x1];rfl
   ·rw[cw h3,bh 0x1];rfl
 ·simp[enD,j_,jE,yO,h1,g_.int,ltP];by_cases h3:a<c
  ·rw[bh h3,cw 0x1];rfl
  ·rw[cw h3,bh 0x1];rfl
theorem irr(a b:En)(h:ltP a b):¬ltP b a:=by
 simp only[ltP] at *;lia
theorem aSu(h:a≠b):ltP a b\/ltP b a:=by
 by_cases h1:a.1=b.1
 ·have:a.2≠b.2:=λz=>h (xl h1 z)
  simp only[ltP];lia
 ·simp only[ltP];lia
theorem aQ3(o:g_)(a b:En)(r:En->En->Prop)[∀x y,zo (r x y)](h:∀x y,j_ o (enD x) (enD y)=ab (ϒ (r x y))):nD o [enD a,enD b]=.ok (enD (if r b a then b else a)):=by
 show(match (enD a).fP aY&&(enD b).fP aY,j_ o (enD b) (enD a) with|true,ab k=>ι (if k then enD b else enD a)|_,_=>.bad)=_;rw[h];by_cases hr:r b a
 ·rw[bh hr,al hr];rfl
 ·rw[cw hr,au hr];rfl
noncomputable def norm(t:Ti):Ti:=(if ltP t.2 t.1 then t.2 else t.1,if ltP t.1 t.2 then t.2 else t.1)
theorem TJ(h:t.1≠t.2):ltP (norm t).1 (norm t).2/\(norm t=t\/norm t=(t.2,t.1)):=by
 unfold norm;rcases aSu h with z|z
 ·rw[au (irr _ _ z),al z];exact⟨z,.inl rfl⟩
 ·rw[al z,au (irr _ _ z)];exact⟨z,.inr rfl⟩
theorem vB(U:aa Ti):∃V:aa Ti,V.Perm U/\(U.length<64->lG [.lst (U.map tiD)]=.ok (.lst (V.map tiD))/\lL [.tup (V.map tiD)]=.ok (.lst (V.map tiD))):=by
 obtain⟨V,p,e⟩:=aG0 tiD (fY (U.map tiD)) U rfl;have c:∀U:aa Ti,U.length<64->cG (U.map tiD)=ae:=λU h64=>by
  unfold cG;rw[aw,bh h64,uh];refine fA.mpr λd hd=>?_
  obtain⟨t,ht,rfl⟩:=bE.mp hd;have hh:gH ((U.map tiD).headD .non)=5:=by
   cases U with
   |nil=>cases ht
   |cons u U=>rfl
  rw[hh,show gH (tiD t)=5 from rfl,show(tiD t).plain=ae from rfl,show(tiD t).fP aY=ae from rfl];refine fA.mpr λb hb=>?_
  obtain⟨u,_,rfl⟩:=bE.mp hb;exact aPm t u
 refine⟨V,p,λh64=>⟨?_,?_⟩⟩
 ·show(if cG (U.map tiD) then ι (π (yP (U.map tiD))) else .bad)=_;rw[c U h64,al rfl,e]
 ·show(if cG (V.map tiD) then ι (π (yP (V.map tiD))) else .bad)=_;rw[c V (by rw[p.length_eq];exact h64),al rfl]
  congr 2
  refine yW (λd hd=>?_) (fY _) (kI _) (by rw[<-e];exact kI _);obtain⟨t,_,rfl⟩:=bE.mp ((fY (V.map tiD)).mem_iff.mp hd);rfl
theorem aQ4(a b:Pi)(h:a.1≠b.1):j_ .lt (piD a) (piD b)=ab (ϒ (a.1<b.1)):=by
 have e:j_ .lt (piD a) (piD b)=(if eqD (.int a.1) (.int b.1) then (if eqD (.str a.2) (.str b.2) then ab (g_.lt.nat 0 0) else ab (g_.lt.str a.2 b.2)) else ab (g_.lt.int a.1 b.1)):=rfl;rw[e,show eqD (.int a.1) (.int b.1)=(a.1==b.1) from rfl,au (by simp[h])];rfl
theorem aLn{U:aa Pi}(h64:U.length<64)(h:U.Pairwise λa b=>a.1<b.1):lG [.lst (U.map piD)]=.ok (.lst (U.map piD)):=by
 have c:cG (U.map piD)=ae:=by
  unfold cG;rw[aw,bh h64,uh];refine fA.mpr λd hd=>?_
  obtain⟨t,ht,rfl⟩:=bE.mp hd;have hh:gH ((U.map piD).headD .non)=3:=by
   cases U with
   |nil=>cases ht
   |cons u U=>rfl
  rw[hh,show gH (piD t)=3 from rfl,show(piD t).plain=ae from rfl,show(piD t).fP aY=ae from rfl];refine fA.mpr λb hb=>?_
  obtain⟨u,_,rfl⟩:=bE.mp hb;exact aPn t u
 show(if cG (U.map piD) then ι (π (yP (U.map piD))) else .bad)=_;rw[c,al rfl]
 congr 2
 refine yW (λd hd=>?_) (fY _) (kI _) (kf.mpr (h.imp λ{a b} hab=>?_))
 ·obtain⟨t,_,rfl⟩:=bE.mp ((fY (U.map piD)).mem_iff.mp hd);rfl
 ·have e1:=RD (piD b) (piD a) _ rfl rfl (aQ4 b a 0x1);rw[cw 0x1] at e1;unfold leE;rw[<-e1];rfl
def ntD(P:aa Pi)(V:aa Ti):D:=.tup [.tup (P.map piD),.tup (V.map tiD),.int 0]
theorem aD6(P:aa Pi)(V:aa Ti):(ntD P V).pure=ae:=by
 show((ξ (P.map piD)).pure&&((ξ (V.map tiD)).pure&&ae))=ae;rw[μ,μ,aP wB,aP nM];rfl
theorem uE{U V:aa Ti}(h64:P.length<64)(hP:P.Pairwise λa b=>a.1<b.1)(hV:lG [.lst ((U.map norm).map tiD)]=.ok (.lst (V.map tiD)))(hl:U.length<=1000):cP 3 gC [.lst (P.map piD),.lst (U.map tiD),.int 0]=.ok (ntD P V):=by
 refine(eY rfl).trans (call_v ?_);have hf:fK (iI 4 (aQp 2) eU (cM (aC (aN (nD .lt) (aC jT (aC dZ aO))) (aC (aN (nD .gt) (aC jT (aC dZ aO))) aO))) ah [.lst (P.map piD),.lst (U.map tiD),.int 0,.uD]) [] (U.map tiD)=.ok ((U.map norm).map tiD):=by
  rw[dU _ tiD (λ_=>ae) (λt=>tiD (norm t))]
  ·rw[iX.mpr (λ_ _=>rfl),cu,c6];rfl
  ·intro acc t;have e1:=aQ3 .lt t.1 t.2 ltP aQ0;have e2:=aQ3 .gt t.1 t.2 (λx y=>ltP y x) aQ1;exact d8 rfl rfl rfl λ_=>⟨bK (aD (aU 0xe e1) (aD (aU 0xe e2) rfl)) iU,rfl⟩
 have it:bW fG ah [.lst (P.map piD),.lst (U.map tiD),.int 0,.uD]=.ok (U.map tiD,ah||(π (U.map tiD)).pure):=rfl;refine aM (b7 (fC it (by rw[aw,bR];lia) hf)) ?_;exact kW (bK (aD (aU (aD (aU 0xf (aLn h64 hP)) rfl) rfl) (aD (aU (aD (aU 0xf hV) rfl) rfl) 0xf)) (cX (dm rfl))) (by rw[aD6];rfl)
theorem aQ5(h1:fa ρ=.ok ds)(hl:ds.length=n)(h2:evI (.uD::ds) l=.ok [(f1,d1),(f2,d2),(f3,.lst []),(f4,.lst [])])(h3:∀p t,p≠t->g (mkG i j c f1 f2 f3 f4 d1 d2 p t ρ)=.ok (.rt d)):aQt i j c l n fa g ρ=.ok (.rt d):=by
 unfold aQt;rw[h1,τ,bh hl,al rfl,h2,τ];have ex:∃d,∀p t,p≠t->g (mkG i j c f1 f2 f3 f4 d1 d2 p t ρ)=.ok (.rt d):=⟨d,h3⟩
 dsimp only;rw[oj ex];have z:=ex.choose_spec 0 1 0x4;rw[h3 0 1 0x4] at z;injection z with z
 injection z with z
 rw[<-z]
theorem QB:∀L:aa D,(∀d∈L,d.pure=ae)->θ L=ae
 |[],_=>rfl
 |d::L,h=>by rw[θ,h d (bj ..),QB L λd hd=>h d (bp _ hd)];rfl
theorem aD7{L:aa (α×D)}(h:∀p∈L,p.2.pure=ae):inner (.dct (dD ek L))=ae:=by
 show θ ((dD ek L).map (·.2))=ae;unfold dD;rw[cu];exact QB _ λd hd=>by
  obtain⟨p,hp,rfl⟩:=bE.mp hd;exact h p hp
theorem aLo:inner (.dct (dD δ (hds M T)))=ae:=aD7 (oX (P:=λd=>d.pure=ae) (T.map hdT) (d_ [] (M.map hdM)) (λp hp=>by
 obtain⟨t,_,rfl⟩:=bE.mp hp;show(ae&&((ξ ((t.2.2.1::t.2.2.2).map δ)).pure&&ae))=ae;rw[μ,bJ];rfl) (oX (P:=λd=>d.pure=ae) (M.map hdM) [] (λp hp=>by
 obtain⟨m,_,rfl⟩:=bE.mp hp;show(ae&&((ξ (m.2.2.map δ)).pure&&ae))=ae;rw[μ,bJ];rfl) λp hp=>by cases hp))
theorem aLp:inner (.dct (dD δ (tks T)))=ae:=aD7 (oX (P:=λd=>d.pure=ae) (T.map λt:Tk=>(t.1,υ ae)) [] (λp hp=>by
 obtain⟨t,_,rfl⟩:=bE.mp hp;rfl) λp hp=>by cases hp)
theorem aLq(hM:M.length<=9)(hT:T.length<=3)(hTp:∀t∈T,t.2.2.2.length<=2):evI [.uD,pgD ks M T R] zP=.ok [("heads",.dct (dD δ (hds M T))),("takers",.dct (dD δ (tks T))),("pieces",.lst []),("ties",.lst [])]:=by
 have e1:aN (cP 1 l_) (aC fG aO) [.uD,pgD ks M T R]=.ok (.dct (dD δ (hds M T))):=aU 0xf (aG1 hM hT hTp);have cf:fK (iI 2 jL eU (cM (aC (b2 getD fB bQ) (aC (bC (.bl ae)) aO))) ah [.uD,pgD ks M T R]) [] (T.map tkD)=.ok (T.map λt=>ξ [.str t.1,.bl ae]):=by
  rw[dU _ tkD (λ_=>ae) (λt:Tk=>ξ [.str t.1,.bl ae])]
  ·rw[iX.mpr (λ_ _=>rfl),c6]
  ·intro acc t;exact d8 rfl rfl rfl λ_=>⟨bK (aD (aJ rfl rfl rfl) 0xf) iU,rfl⟩
 have it:=fO (a:=b2 getD fG gP) (ρ:=[.uD,pgD ks M T R]) (xs:=T.map tkD) (aJ (x:=pgD ks M T R) (y:=.int 2) rfl rfl rfl);have e2:b1 M9 (e_ 2 (bW (b2 getD fG gP) ah) jL eU (cM (aC (b2 getD fB bQ) (aC (bC (.bl ae)) aO))) ah) [.uD,pgD ks M T R]=.ok (.dct (dD δ (tks T))):=by
  unfold b1;rw[fC it (by rw[aw,bR];lia) cf,τ];exact aLh T 0x1
 have i1:inner (.dct (dD δ (hds M T)))=ae:=aLo;have i2:inner (.dct (dD δ (tks T)))=ae:=aLp;unfold zP;rw[evI,e1,τ,evI,e2,τ];show(do let ds <- (do let ds <- ι [(("pieces" : Str),π []),("ties",π [])];if inner (.dct (dD δ (tks T))) then ι ((("takers" : Str),ψ (dD δ (tks T)))::ds) else .bad);if inner (.dct (dD δ (hds M T))) then ι ((("heads" : Str),ψ (dD δ (hds M T)))::ds) else .bad)=_;rw[τ,al i2,τ,al i1]
theorem QC:∀xs:aa Str,zJ (xs.map δ)=ab xs
 |[]=>rfl
 |x::xs=>by
  show(zJ (xs.map δ)).map (x::·)=_;rw[QC xs];rfl
theorem aQ6(h1:it ρ=.ok (xs.map δ,k))(hl:xs.length<=n)(hl2:xs.length<=1000)(h3:∀as:aa af,as.length=xs.length->as.Nodup->g (setC j as (ρ.set i (.dct (i_ [] (aKj xs as)))))=.ok (.rt d)):aQu i j n it g ρ=.ok (.rt d):=by
 unfold aQu;rw[h1,τ];dsimp only;rw[QC];dsimp only;rw[bh hl,bh hl2];have ex:∃d,∀as:aa af,as.length=xs.length->as.Nodup->g (setC j as (ρ.set i (.dct (i_ [] (aKj xs as)))))=.ok (.rt d):=⟨d,h3⟩
 rw[al (show(ae&&ae)=ae from rfl),oj ex];have z:=ex.choose_spec (bm xs.length) eg Dc;rw[h3 _ eg Dc] at z;injection z with z
 injection z with z
 rw[<-z]
theorem W9[cr α](a:α)(v:D)(x:α):∀L:aa (α×D),x∈(mK L a v).map (·.1)->x∈L.map (·.1)\/x=a
 |[],h=>by
  rw[mK] at h;exact .inr (eL.mp h)
 |q::L,h=>by
  rw[mK] at h;split at h
  ·exact .inl h
  ·rw[bd] at h ⊢;rcases bu.mp h with h|h
   ·exact .inl (by rw[h];exact bj ..)
   ·exact(W9 a v x L h).imp (bp _) id
theorem aD8[cr α](a:α)(v:D):∀L:aa (α×D),(L.map (·.1)).Nodup->((mK L a v).map (·.1)).Nodup
 |[],_=>by rw[mK];exact c_.mpr ⟨by simp,fE⟩
 |q::L,h=>by
  rw[mK];rw[bd,c_] at h;split
  ·exact c_.mpr h
  ·rename_i z;rw[bd,c_];refine⟨λhq=>?_,aD8 a v L h.2⟩;rcases W9 a v q.1 L hq with k|k
   ·exact h.1 k
   ·exact z k
theorem W_[cr α]:∀(ps L:aa (α×D)),(L.map (·.1)).Nodup->((d_ L ps).map (·.1)).Nodup
 |[],_,h=>h
 |q::ps,L,h=>W_ ps (mK L q.1 q.2) (aD8 q.1 q.2 L h)
theorem aD9[cr α]:∀(L:aa (α×D)),(L.map (·.1)).Nodup->(a,v)∈L->bL L a=ab v
 |[],_,h=>by cases h
 |q::L,nd,h=>by
  rw[bd,c_] at nd;rw[bL];rcases bu.mp h with k|k
  ·rw[<-k,al rfl]
  ·rw[au λz=>nd.1 (by rw[z];exact bE.mpr ⟨_,k,rfl⟩)];exact aD9 L nd.2 k
theorem aLr(h:(x,ω a)∈kvL va as):bL (kvL va as) x=ab (.adr a):=aD9 _ (W_ _ [] fE) h
def kvS(va:aa Str)(as:aa af)(pl:Str->aa En):aa (Str×D):=(kvL va as).map λq=>(q.1,.scr ((pl q.1).map enD))
theorem aHt(hd:Hd va as N pl [c0,c1,c2,c3,c4])(hρ:ρ=wv pg wa va M T p t c0 c1 c2 c3 c4 kv P U W x13 x14 x15 x16):∀L:aa (Str×D),(∀q∈L,q∈kvL va as)->aDv ρ 5 5 (dD δ L)=ab (dD δ (L.map λq=>(q.1,.scr ((pl q.1).map enD))))
 |[],_=>rfl
 | (x,d)::L,h=>by
  have hx:=h _ (bj ..);obtain⟨a,_,e⟩:=aD0 va as _ hx;replace e:d=.adr a:=e;subst e;have lk:=aLr hx;obtain⟨m0,hm0,em0⟩:=hd.has x a lk;obtain⟨m,X,hm,hs,hX⟩:=W5 (ρ:=ρ) ⟨m0,_,hm0,by rw[hρ,aCx m0 hm0];exact em0⟩;have hX':=hX;rw[hρ,aCx m hm] at hX';obtain rfl:=hd.un m m0 a _ _ hm hm0 hX' em0;rw[hX'] at em0;injection em0 with _ em0
  subst em0;have ih:=aHt hd hρ L λq hq=>h q (bp _ hq)
  show aDv ρ 5 5 ((δ x,ω a)::dD δ L)=_;rw[aDv,hs,hX];dsimp only;rw[bh rfl,bh (show 5+m<5+5 by lia),ih];rfl
theorem XC(f:Str->D)(x:Str):∀L:aa (Str×D),bL (L.map λq=>(q.1,f q.1)) x=(bL L x).map λ_=>f x
 |[]=>rfl
 |q::L=>by
  rw[bd,bL,bL];by_cases z:q.1=x
  ·rw[al z,al z,z];rfl
  ·rw[au z,au z];exact XC f x L
def fv(pg:D)(wa va:aa Str)(M:aa Mk)(T:aa Tk)(p t:af)(kv:aa (D×D))(P:aa Pi)(U:aa Ti)(x13 x14 x15 x16:D):aa D:=wv pg wa va M T p t .uD .uD .uD .uD .uD kv P U [] x13 x14 x15 x16
theorem aLs(hd:Hd va as N pl [c0,c1,c2,c3,c4]):aFj 11 5 5 g (wv pg wa va M T p t c0 c1 c2 c3 c4 (dD δ (kvL va as)) P U [] x13 x14 x15 x16)=g (fv pg wa va M T p t (dD δ (kvS va as pl)) P U x13 x14 x15 x16):=by
 have f:=aHt (pg:=pg) (wa:=wa) (M:=M) (T:=T) (p:=p) (t:=t) (kv:=dD δ (kvL va as)) (P:=P) (U:=U) (W:=[]) (x13:=x13) (x14:=x14) (x15:=x15) (x16:=x16) hd rfl (kvL va as) λ_ h=>h
 have c:(bm 5).all (λm=>isC ((wv pg wa va M T p t c0 c1 c2 c3 c4 (dD δ (kvL va as)) P U [] x13 x14 x15 x16).getD (5+m) .uD))=ae:=fA.mpr λm hm=>by
  have hm:=fx.mp hm;rw[aCx m hm];exact hd.ok m hm
 show(match ψ (dD δ (kvL va as)) with|.dct kvs=>(match aDv (wv pg wa va M T p t c0 c1 c2 c3 c4 (dD δ (kvL va as)) P U [] x13 x14 x15 x16) 5 5 kvs with|some kvs'=>if (bm 5).all (λm=>isC ((wv pg wa va M T p t c0 c1 c2 c3 c4 (dD δ (kvL va as)) P U [] x13 x14 x15 x16).getD (5+m) .uD)) then g ((aQv 5 5 (wv pg wa va M T p t c0 c1 c2 c3 c4 (dD δ (kvL va as)) P U [] x13 x14 x15 x16)).set 11 (.dct kvs')) else .bad|none=>.bad)|_=>.bad)=_;dsimp only;rw[f];dsimp only;rw[al c];rfl
def srs:af->af->aa Str->(Str->aa En)->aa Pi×aa Ti
 |_,_,[],_=>([],[])
 |n,k,x::va,pl=>((sr n (pl x) (0,(k:ag))).1++(srs (n+(sr n (pl x) (0,(k:ag))).1.length) (k+1) va pl).1,(sr n (pl x) (0,(k:ag))).2++(srs (n+(sr n (pl x) (0,(k:ag))).1.length) (k+1) va pl).2)
noncomputable def tot(pl:Str->aa En):aa Str->af
 |[]=>0
 |x::va=>(pl x).length+tot pl va
theorem J7:∀(va:aa Str)(n k:af)(pl:Str->aa En),(srs n k va pl).1.length<=tot pl va+va.length/\(srs n k va pl).2.length<=2*tot pl va+va.length
 |[],_,_,_=>⟨cz _,cz _⟩
 |x::va,n,k,pl=>by
  obtain⟨h1,h2⟩:=aD5 n (pl x) (0,(k:ag));obtain⟨i1,i2⟩:=J7 va (n+(sr n (pl x) (0,(k:ag))).1.length) (k+1) pl;rw[srs,bg,bg,aS,tot];lia
theorem aDa:∀(va:aa Str)(k:af)(pl:Str->aa En)(P:aa Pi),Nm P->Nm (P++(srs P.length k va pl).1)
 |[],_,_,P,h=>by rw[srs,dq];exact h
 |x::va,k,pl,P,h=>by
  have i:=aDa va (k+1) pl (P++(sr P.length (pl x) (0,(k:ag))).1) (aSt (pl x) P _ h);rw[bg,dt] at i;rw[srs];exact i
theorem aQ7(h:f ρ=.ok (d,ρ')):aQw f ρ=.ok (.nx ρ'):=by
 unfold aQw;rw[h,τ]
theorem aG7(h:f ρ=.ok d)(hp:d.pure=ae):bPu f ρ=.ok d:=by
 unfold bPu;rw[h,τ,al hp]
theorem aG8(h k p t:D):fy ("serve" : Str) [(("heads" : Str),h),("takers",k),("pieces",p),("ties",t)]=ai:=by with_unfolding_all rfl
theorem aLt(h:as.length=va.length)(hx:x∈va):Mi.getD (.dct (dD δ (kvS va as pl))) (.str x)=.ok (.scr ((pl x).map enD)):=by
 obtain⟨a,ha,_⟩:=aHp h hx;show(if keyOk (.str x) then ν (eX (dD δ (kvS va as pl)) (.str x)) else .bad)=_;rw[al (show keyOk (.str x)=ae from rfl),uB cU];unfold kvS;rw[XC (λx=>.scr ((pl x).map enD)),ha];rfl
theorem aQ8(h:as.length=va.length)(hx:x∈va)(hN:(pl x).length<=N)(h1:P.length+N<1000)(h2:U.length+2*N<=1800) :
  aKw (fv pg wa va M T p t (dD δ (kvS va as pl)) P U x13 x14 (.int (k:af)) (.str x))=.ok (.nx (fv pg wa va M T p t (dD δ (kvS va as pl)) (P++(sr P.length (pl x) (0,(k:ag))).1) (U++(sr P.length (pl x) (0,(k:ag))).2) x13 x14 (.int (k:af)) (.str x))):=by
 have s:=aG6 (M:=M) (T:=T) (p:=p) (t:=t) (X:=pl x) (P:=P) (U:=U) 0x1 0x1 (0,(k:ag));have pu:(D.scr ((pl x).map enD)).pure=ae:=aP eN _;have a1:bPu (cM (aC bQ (aC BL aO))) (fv pg wa va M T p t (dD δ (kvS va as pl)) P U x13 x14 (.int (k:af)) (.str x))=.ok (enD (0,(k:ag))):=aG7 (bK (xs:=[.int 0,.int (k:af)]) 0xe iU) rfl;have a2:bPu (b2 getD n6 BP) (fv pg wa va M T p t (dD δ (kvS va as pl)) P U x13 x14 (.int (k:af)) (.str x))=.ok (.scr ((pl x).map enD)):=aG7 (aJ (x:=.dct (dD δ (kvS va as pl))) (y:=.str x) rfl rfl (aLt h hx)) pu;exact aQ7 (yC (i:=10) (j:=3) (c:= "Loom") (m:= "serve") (f:=vZ) (n:=3) (ρ:=fv pg wa va M T p t (dD δ (kvS va as pl)) P U x13 x14 (.int (k:af)) (.str x)) (ds:=[enD (0,(k:ag)),.scr ((pl x).map enD)]) (fs:=[(("heads" : Str),ψ (dD δ (hds M T))),("takers",.dct (dD δ (tks T))),("pieces",.adr p),("ties",.adr t)]) rfl (aD a1 (aD a2 rfl)) rfl rfl (aG8 ..) rfl s (aP wB _) (aP nM _))
theorem aHu(h:as.length=va.length)(hN:∀x,(pl x).length<=N):∀(vs:aa Str)(k:af)(P:aa Pi)(U:aa Ti)(x15 x16:D),(∀x∈vs,x∈va)->P.length+vs.length*(N+1)+N<1000->U.length+vs.length*(2*N+1)+2*N<=1800->
  ∃y15 y16:D,n8 (tgN [15,16]) aKw (uX k (vs.map δ)) (fv pg wa va M T p t (dD δ (kvS va as pl)) P U x13 x14 x15 x16)=.ok (.nx (fv pg wa va M T p t (dD δ (kvS va as pl)) (P++(srs P.length k vs pl).1) (U++(srs P.length k vs pl).2) x13 x14 y15 y16))
 |[],k,P,U,x15,x16,_,_,_=>⟨x15,x16,by rw[srs,dq,dq];rfl⟩
 |x::vs,k,P,U,x15,x16,hv,h1,h2=>by
  rw[aS,Nat.succ_mul] at h1 h2;have s:=aQ8 (pg:=pg) (wa:=wa) (M:=M) (T:=T) (p:=p) (t:=t) (P:=P) (U:=U) (k:=k) (x13:=x13) (x14:=x14) h (hv x (bj ..)) (hN x) 0x1 0x1;obtain⟨l1,l2⟩:=aD5 P.length (pl x) (0,(k:ag));have:=hN x;obtain⟨y15,y16,i⟩:=aHu h hN vs (k+1) (P++(sr P.length (pl x) (0,(k:ag))).1) (U++(sr P.length (pl x) (0,(k:ag))).2) (.int (k:af)) (.str x) (λy hy=>hv y (bp _ hy)) (by rw[bg];lia) (by rw[bg];lia);refine⟨y15,y16,?_⟩;rw[bg,dt,dt] at i;rw[srs];exact cC (ρ1:=fv pg wa va M T p t (dD δ (kvS va as pl)) P U x13 x14 (.int (k:af)) (.str x)) rfl s i
theorem ZZ(nd:as.Nodup)(h5:as.length<=5)(hcs:cs=as.map (λa=>D.cel a [])++bq (5-as.length) .uD):Hd va as 0 (λ_=>[]) cs:=by
 have at1:∀m (h:m<as.length),cs.getD m .uD=.cel as[m] []:=λm h=>by
  rw[hcs,b9,gq (by rw[aw];exact h),gs,d5 h];rfl
 have at2:∀m,as.length<=m->cs.getD m .uD=.uD:=λm h=>by
  rw[hcs,b9,gm (by rw[aw];exact h),jc];split<;>rfl
 have cel:∀m a X,cs.getD m .uD=.cel a X->∃h:m<as.length,as[m]=a:=λm a X e=>by
  rcases ke m as.length with h|h
  ·rw[at1 m h] at e;cases e;exact⟨h,rfl⟩
  ·rw[at2 m h] at e;cases e
 refine⟨by rw[hcs,bg,aw,nL];lia,λm _=>?_,λm k a X Y _ _ e1 e2=>?_,λx a hx=>?_,λ_=>aT _⟩
 ·rcases ke m as.length with h|h
  ·rw[at1 m h];rfl
  ·rw[at2 m h];rfl
 ·obtain⟨h1,q1⟩:=cel m a X e1;obtain⟨h2,q2⟩:=cel k a Y e2;rcases Ct m k with z|z|z
  ·exact ay (q1.trans q2.symm) (ug.mp nd m k h1 h2 z)
  ·exact z
  ·exact ay (q2.trans q1.symm) (ug.mp nd k m h2 h1 z)
 ·obtain⟨b,hb,e⟩:=aD0 va as _ (vA x _ _ hx);replace e:ω a=.adr b:=e;cases e;obtain⟨m,hm,e⟩:=ud hb;exact⟨m,by lia,by rw[at1 m hm,e];rfl⟩
theorem hd0(nd:as.Nodup)(h5:as.length<=5)(q0 q1 q2 q3 q4:D)(R:aa D):∃c0 c1 c2 c3 c4,Hd va as 0 (λ_=>[]) [c0,c1,c2,c3,c4]/\setC 5 as (q0::q1::q2::q3::q4::.uD::.uD::.uD::.uD::.uD::R)=q0::q1::q2::q3::q4::c0::c1::c2::c3::c4::R:=by
 match as,nd,h5 with
 |[],nd,h=>exact⟨_,_,_,_,_,ZZ nd h rfl,rfl⟩
 |[a],nd,h=>exact⟨_,_,_,_,_,ZZ nd h rfl,rfl⟩
 |[a,b],nd,h=>exact⟨_,_,_,_,_,ZZ nd h rfl,rfl⟩
 |[a,b,c],nd,h=>exact⟨_,_,_,_,_,ZZ nd h rfl,rfl⟩
 |[a,b,c,d],nd,h=>exact⟨_,_,_,_,_,ZZ nd h rfl,rfl⟩
 |[a,b,c,d,e],nd,h=>exact⟨_,_,_,_,_,ZZ nd h rfl,rfl⟩
theorem aDb(pl:Str->aa En)(w:Str)(e:En):∀va:aa Str,va.Nodup->tot (plA pl w e) va<=tot pl va+1/\(w∉va->tot (plA pl w e) va=tot pl va)
 |[],_=>⟨cz _,λ_=>rfl⟩
 |x::va,h=>by
  rw[c_] at h;obtain⟨i1,i2⟩:=aDb pl w e va h.2;rw[tot,tot];by_cases z:x=w
  ·subst z;have:=i2 h.1;have:(plA pl x e x).length=(pl x).length+1:=by simp[plA]
   exact⟨by lia,λq=>ay (bj ..) q⟩
  ·have:plA pl w e x=pl x:=by simp[plA,z]
   rw[this];exact⟨by lia,λq=>by rw[i2 λy=>q (bp _ y)]⟩
theorem XF(hx:∀w a,Wd M T w a->Wx M T w a/\w∉va)(nd:va.Nodup):∀(ws:aa Str)(k:af)(W:aa En)(pl:Str->aa En),Dk M T va W.length ws->∃u:af,3*u<=2*ws.length+W.length/\u<=ws.length/\tot (wr M T va k ws W pl).2.2 va<=tot pl va+u/\(wr M T va k ws W pl).1.length+u<=ws.length/\(wr M T va k ws W pl).2.1.length+u<=ws.length
 |[],k,W,pl,h=>by
  rw[wr];exact⟨0,cz _,cz _,aT _,cz _,cz _⟩
 |w::ws,k,[],pl,h=>by cases h
 |w::ws,k,e::W,pl,h=>by
  cases h with
  |@cons _ a _ _ wd d=>
   rw[wr,aS,aS];by_cases wn:w∈va
   ·rw[al wn];have d':Dk M T va W.length ws:=by
     rcases wd with wd|⟨_,rfl⟩
     ·exact ay wn (hx w a wd).2
     ·rw[ia] at d;exact d
    obtain⟨u,u1,u2,u3,u4,u5⟩:=XF hx nd ws k W (plA pl w e) d';have:=(aDb pl w e va nd).1;exact⟨u+1,by lia,by lia,by lia,by lia,by lia⟩
   ·rw[au wn];obtain⟨wd',wx⟩:Wd M T w a/\Wx M T w a:=by
     rcases wd with wd|⟨z,_⟩
     ·exact⟨wd,(hx w a wd).1⟩
     ·exact ay z wn
    have ha:=wx.len;rw[xK wx];obtain⟨u,u1,u2,u3,u4,u5⟩:=XF hx nd ws (k+1) (hk T ((k:ag)+1) w a++W) pl (by rw[bg,xH wx];exact d);rw[bg,xH wx] at u1;exact⟨u,by lia,by lia,u3,by rw[aS];lia,by rw[aS];lia⟩
theorem aG9:∀(ws:aa Str)(P:aa Pi)(W:aa En)(pl:Str->aa En),Nm P->Nm (P++(wr M T va P.length ws W pl).1)
 |[],P,_,_,h=>by rw[wr,dq];exact h
 |_::_,P,[],_,h=>by rw[wr,dq];exact h
 |w::ws,P,e::W,pl,h=>by
  rw[wr];split
  ·exact aG9 ws P W (plA pl w e) h
  ·have i:=aG9 (M:=M) (T:=T) (va:=va) ws (P++[((P.length:ag)+1,w)]) (hk T ((P.length:ag)+1) w (arS M T w)++W) pl (h.snoc w);rw[show(P++[((P.length:ag)+1,w)]).length=P.length+1 by rw[bg];rfl,dt] at i;exact i
def nP(M:aa Mk)(T:aa Tk)(va ws:aa Str):aa Pi:=(wr M T va 0 ws [(0,0)] (λ_=>[])).1++(srs (wr M T va 0 ws [(0,0)] (λ_=>[])).1.length 1 va (wr M T va 0 ws [(0,0)] (λ_=>[])).2.2).1
def nU(M:aa Mk)(T:aa Tk)(va ws:aa Str):aa Ti:=(wr M T va 0 ws [(0,0)] (λ_=>[])).2.1++(srs (wr M T va 0 ws [(0,0)] (λ_=>[])).1.length 1 va (wr M T va 0 ws [(0,0)] (λ_=>[])).2.2).2
theorem aGa(hx:∀w a,Wd M T w a->Wx M T w a/\w∉va)(hM:M.length<=9)(hT:T.length<=3)(hTp:∀t∈T,t.2.2.2.length<=2)(hd:Dk M T va 1 ws)(hl:ws.length<=32)(hv:va.length<=5)(nva:va.Nodup) :
  ∃V:aa Ti,(V.Perm ((nU M T va ws).map norm)/\lL [.tup (V.map tiD)]=.ok (.lst (V.map tiD)))/\cP 3 lA [pgD ks M T R,.tup (ws.map δ),.tup (va.map δ)]=.ok (ntD (nP M T va ws) V):=by
 unfold nP nU;generalize hpl:(wr M T va 0 ws [(0,0)] (λ_=>[])).2.2=pl;generalize hP1:(wr M T va 0 ws [(0,0)] (λ_=>[])).1=P1;generalize hU1:(wr M T va 0 ws [(0,0)] (λ_=>[])).2.1=U1;obtain⟨u,u1,u2,u3,l1,l2⟩:=XF hx nva ws 0 [(0,0)] (λ_=>[]) hd;have u0:tot (λ_=>[]) va=0:=by
  clear hd hv nva hx u1 u2 u3 l1 l2 hpl hP1 hU1;induction va with
  |nil=>rfl
  |cons x va ih=>rw[tot,ih];rfl
 rw[hpl,u0] at u3;rw[hP1] at l1;rw[hU1] at l2;have u1:3*u<=2*ws.length+1:=u1;have n1:Nm P1:=by
  have:=aG9 (M:=M) (T:=T) (va:=va) ws [] [(0,0)] (λ_=>[]) (λi h=>by cases h);rw[c6] at this;rw[<-hP1];exact this
 have n2:=aDa va 1 pl P1 n1;generalize hP2:P1++(srs P1.length 1 va pl).1=P2 at n2;generalize hU2:U1++(srs P1.length 1 va pl).2=U2;obtain⟨V,pV,hV⟩:=vB (U2.map norm);have lu:U2.length<64:=by
  obtain⟨s1,s2⟩:=J7 va P1.length 1 pl;rw[<-hU2,bg];lia
 refine⟨V,⟨pV,(hV (by rw[aw];exact lu)).2⟩,(eY rfl).trans (call_v ?_)⟩;unfold wU;refine aQ5 0xf rfl (aLq hM hT hTp) λp t hpt=>?_
 refine aQ6 (xs:=va) (fO rfl) hv 0x1 λas ha nd=>?_
 obtain⟨c0,c1,c2,c3,c4,h0,hs⟩:=hd0 (va:=va) nd 0x1 (pgD ks M T R) (.tup (ws.map δ)) (.tup (va.map δ)) (.cel p []) (.cel t []) [lmD M T p t,.dct (dD δ (kvL va as)),.uD,.uD,.uD,.uD,.uD];rw[aPs];refine(cy vr2 hs).trans ?_;obtain⟨e0,e1,e2,e3,e4,y13,y14,i1,i2⟩:=aD2 (pg:=pgD ks M T R) (wa:=ws) (p:=p) (t:=t) (x15:=.uD) (x16:=.uD) ha nd hx ws 0 (λ_=>[]) c0 c1 c2 c3 c4 [] [] [(0,0)] .uD .uD hd h0 0x1 (by show 0+_<=_;lia) (by show 0+_<=_;lia) (by show 1+_<=_;lia);rw[fw,hpl,ia] at i1;rw[fw,hP1,hU1,c6,c6] at i2;obtain⟨s1,s2⟩:=J7 va P1.length 1 pl;have m1:va.length*(ws.length+1)<=5*33:=Dd hv 0x1;have m2:va.length*(2*ws.length+1)<=5*65:=Dd hv 0x1;obtain⟨y15,y16,i3⟩:=aHu (pg:=pgD ks M T R) (wa:=ws) (M:=M) (T:=T) (p:=p) (t:=t) (x13:=y13) (x14:=y14) ha i1.ln va 1 P1 U1 .uD .uD (λ_ h=>h) 0x1 0x1;rw[hP2,hU2] at i3;have lp:P2.length<64:=by rw[<-hP2,bg];lia
 refine aM (ρ':=wv (pgD ks M T R) ws va M T p t c0 c1 c2 c3 c4 (dD δ (kvL va as)) [] [] [(0,0)] .uD .uD .uD .uD) (dX (i:=12) (tR (xs:=[enD (0,0)]) (aD (bK (xs:=[.int 0,.int 0]) 0xe iU) rfl) (cX (dm rfl))) rfl) ?_;refine aM (HY rfl rfl i2) ?_;rw[aLs i1];have it:zN 1 fB (fv (pgD ks M T R) ws va M T p t (dD δ (kvS va as pl)) P1 U1 y13 y14 .uD .uD)=.ok (uX 1 (va.map δ),ae):=by
  show(if θ (va.map δ) then ι (uX 1 (va.map δ),ae) else .bad)=_;rw[al (bJ va)]
 refine aM (nT it i3) ?_;have f:∀(a:Str)(d:D),fy a [(("heads" : Str),ψ (dD δ (hds M T))),("takers",.dct (dD δ (tks T))),("pieces",.adr p),("ties",.adr t)]=ab d->xV "Loom" a sS (fv (pgD ks M T R) ws va M T p t (dD δ (kvS va as pl)) P2 U2 y13 y14 y15 y16)=.ok d:=λa d h=>P_ rfl h
 exact kW (d:=ntD P2 V) (aU (xs:=[.lst (P2.map piD),.lst (U2.map tiD),.int 0]) (aD (aCt (f "pieces" _ (zZ ..)) rfl) (aD (aCt (f "ties" _ (TF ..)) rfl) 0xf)) (uE lp n2.rise (hV (by rw[aw];exact lu)).1 0x1)) rfl
theorem XH{va:aa Str}(hn:ns.length<=63)(hm3:Ω<=3)(hM:MOk ns Ω Ω.toNat M)(hT:∀t∈T,gZ ns Ω t)(hv:∀x∈va,∃j:ag,(12<=j/\j<=16)/\x=wrd ns j)(h:Wd M T w a):w∉va:=λz=>by
 obtain⟨j,hj,e⟩:=hv w z;rcases h with ⟨m,hm,rfl,_⟩|⟨t,ht,rfl,_⟩
 ·obtain⟨ks,k1,k2,k3⟩:=hM.names;have:m.1∈ks.map (wrd ns):=by rw[<-k1];exact bE.mpr ⟨m,hm,rfl⟩
  obtain⟨i,hi,ei⟩:=bE.mp this;have:=k3 i hi;have:=v8 hn (i:=i) (j:=j) 0x1 0x1 0x1 0x1 (by rw[ei];exact e);lia
 ·obtain⟨k,q1,q2,q3⟩:=(hT t ht).1;have:=v8 hn (i:=k) (j:=j) 0x1 0x1 0x1 0x1 (by rw[<-q3];exact e);lia
theorem slW(L:aa Str)(lo hi:ar ag):aSj (.tup (L.map δ)) lo hi=.ok (.tup ((cutD L lo hi).map δ)):=by
 show(if θ (L.map δ) then ι (ξ (cutD (L.map δ) lo hi)) else .bad)=_;rw[al (bJ L),xY]
theorem XJ(L:aa α)(n:af)(h:n<=L.length):cutD L (ab (n:ag)) ai=L.drop n:=by
 have e1:G3 L.length 0 (ab (n:ag))=n:=by simp only[G3];rw[au 0x1];lia
 have e2:G3 L.length L.length ai=L.length:=rfl;unfold cutD;rw[e1,e2];exact CU (by rw[mi];lia)
theorem aHv(L:aa α)(n:af)(h:n<=L.length):cutD L ai (ab (n:ag))=L.take n:=by
 have e1:G3 L.length L.length (ab (n:ag))=n:=by simp only[G3];rw[au 0x1];lia
 have e2:G3 L.length 0 ai=0:=rfl;unfold cutD;rw[e1,e2,C3,C4]
theorem TQ(hn:ns.length<=63)(hm3:Ω<=3)(hM:MOk ns Ω Ω.toNat M)(hT:∀t∈T,gZ ns Ω t)(hT2:T.length<=3/\T.map (·.1)=(bm T.length).map (λ(k:af)=>wrd ns (17+(k:ag))))(hMl:M.length<=9)(hTp:∀t∈T,t.2.2.2.length<=2)(hr:aDx ns M T r)(hk:n<=r.2.2.1.length) :
  ∃V:aa Ti,(V.Perm ((nU M T (r.2.2.1.drop n++r.2.2.1.take n) r.2.2.2).map norm)/\lL [.tup (V.map tiD)]=.ok (.lst (V.map tiD)))/\cP 3 mC [pgD ks M T R,rlD r,.int (n:af)]=.ok (ntD (nP M T (r.2.2.1.drop n++r.2.2.1.take n) r.2.2.2) V):=by
 have hv:∀x∈r.2.2.1.drop n++r.2.2.1.take n,x∈r.2.2.1:=λx hx=>by
  rcases dQ.mp hx with h|h
  ·exact zC h
  ·exact zD h
 have hv2:∀x∈r.2.2.1,x∈r.2.2.1.drop n++r.2.2.1.take n:=λx hx=>by
  rw[<-vn n r.2.2.1] at hx;rcases dQ.mp hx with h|h
  ·exact eu _ h
  ·exact i8 _ h
 have hl:(r.2.2.1.drop n++r.2.2.1.take n).length<=5:=by
  rw[bg,mi,mf];have:=hr.ln;lia
 obtain⟨V,hV,e⟩:=aGa (λw a h=>⟨wx hn hm3 hM hT hT2 h,XH hn hm3 hM hT (λx hx=>hr.nm x (hv x hx)) h⟩) hMl hT2.1 hTp (hr.dk.mono hv2) hr.wl hl (by
  have e:(r.2.2.1.drop n++r.2.2.1.take n).Perm r.2.2.1:=De.trans (by rw[vn]);exact e.nodup_iff.mpr hr.nd)
 refine⟨V,hV,(eY rfl).trans (call_v ?_)⟩;have s1:aCf d9 (jH fB) jJ [pgD ks M T R,rlD r,.int (n:af),.tup (r.2.2.1.map δ)]=.ok (.tup ((r.2.2.1.drop n).map δ)):=by
  have:=slW r.2.2.1 (ab (n:ag)) ai;rw[XJ _ n hk] at this;exact this
 have s2:aCf d9 jJ (jH fB) [pgD ks M T R,rlD r,.int (n:af),.tup (r.2.2.1.map δ)]=.ok (.tup ((r.2.2.1.take n).map δ)):=by
  have:=slW r.2.2.1 ai (ab (n:ag));rw[aHv _ n hk] at this;exact this
 have ad:=wA ((r.2.2.1.drop n).map δ) ((r.2.2.1.take n).map δ) (by rw[bg] at hl;rw[aw,aw];lia);rw[<-b6] at ad;refine aM (eZ (aJ rfl rfl rfl) (by rw[μ,bJ])) ?_;exact kW (aU (aD rfl (aD (aJ rfl rfl rfl) (aD (aJ s1 s2 ad) rfl))) e) rfl
noncomputable def cp3(j:ag):aa Ti:=[((j+2,0),(0,j+1)),((j+2,1),(1,j)),((j+2,2),(2,j))]
noncomputable def cpP(m:Str)(js:aa ag):aa Pi:=((1:ag),m)::(2,m)::js.map λj=>(j+2,("copy" : Str))
def cpU(js:aa ag):aa Ti:=((1,0),(0,0))::((2,0),(0,1))::js.flatMap cp3
noncomputable def to(n:af):aa ag:=(bm n).map λ(k:af)=>(1:ag)+(k:ag)
def cv(m:Str)(n:ag)(P:aa Pi)(U:aa Ti)(x4 x5:D):aa D:=[.str m,.int n,.lst (P.map piD),.lst (U.map tiD),x4,x5]
theorem aQ9(h:f ρ=.ok (.lst ys))(h1:ρ.getD i .uD=.lst xs)(hl:xs.length+ys.length<=lim)(hp:θ ys=ae):aQr i f ρ=.ok (.nx (ρ.set i (.lst (xs++ys)))):=by
 unfold aQr;rw[h,τ,h1];dsimp only
 first
  |rw[bh hl,hp];rfl
  | (rw[al (by rw[bh hl,hp];rfl)])
theorem aQa(j:ag)(hP:P.length<=100)(hU:U.length<=100):aKx (cv m n P U (.int j) x5)=.ok (.nx (cv m n (P++[(j+2,("copy" : Str))]) (U++cp3 j) (.int j) (.int (j+2)))):=by
 have a2:=cZ j 2;have a1:=cZ j 1;refine aM (b7 (aJ (y:=.int 2) rfl rfl a2)) ?_;have ap:=oM (i:=2) (ρ:=cv m n P U (.int j) (.int (j+2))) (f:=cM (aC dZ (aC (bC (.str "copy")) aO))) (xs:=P.map piD) (d:=piD (j+2,("copy" : Str))) (bK (xs:=[.int (j+2),.str "copy"]) 0xe iU) rfl (by rw[aw,bR];lia) rfl;refine aM (ρ':=cv m n (P++[(j+2,("copy" : Str))]) U (.int j) (.int (j+2))) (by unfold cv;rw[b6];exact ap) ?_;have t2:∀(a b c d:ag)(f g h k:FE)(ρ:aa D),f ρ=.ok (.int a)->g ρ=.ok (.int b)->h ρ=.ok (.int c)->k ρ=.ok (.int d)->cM (aC (cM (aC f (aC g aO))) (aC (cM (aC h (aC k aO))) aO)) ρ=.ok (tiD ((a,b),(c,d))):=λa b c d f g h k ρ h1 h2 h3 h4=>bK (xs:=[enD (a,b),enD (c,d)]) (aD (bK (xs:=[.int a,.int b]) (aD h1 (aD h2 rfl)) iU) (aD (bK (xs:=[.int c,.int d]) (aD h3 (aD h4 rfl)) iU) rfl)) iU
 refine(aQ9 (i:=3) (xs:=U.map tiD) (ys:=(cp3 j).map tiD) ?_ rfl (by rw[aw,aw,bR];show U.length+3<=_;lia) rfl).trans ?_
 ·exact nG (xs:=(cp3 j).map tiD) (aD (t2 (j+2) 0 0 (j+1) _ _ _ _ _ rfl rfl rfl (aJ (x:=.int j) (y:=.int 1) rfl rfl a1)) (aD (t2 (j+2) 1 1 j _ _ _ _ _ rfl rfl rfl rfl) (aD (t2 (j+2) 2 2 j _ _ _ _ _ rfl rfl rfl rfl) rfl))) aMj rfl
 ·unfold cv;rw[b6 (f:=tiD)];rfl
theorem aHw:∀(js:aa ag)(P:aa Pi)(U:aa Ti)(x4 x5:D),P.length+js.length<=50->U.length+3*js.length<=90->∃y4 y5:D,n8 (tg1 4) aKx (js.map ε) (cv m n P U x4 x5)=.ok (.nx (cv m n (P++js.map λj=>(j+2,("copy" : Str))) (U++js.flatMap cp3) y4 y5))
 |[],P,U,x4,x5,_,_=>⟨x4,x5,by simp only[io,Df,dq];rfl⟩
 |j::js,P,U,x4,x5,h1,h2=>by
  rw[aS] at h1 h2;have s:=aQa (m:=m) (n:=n) (P:=P) (U:=U) (x5:=x5) j 0x1 0x1;obtain⟨y4,y5,i⟩:=aHw js (P++[(j+2,("copy" : Str))]) (U++cp3 j) (.int j) (.int (j+2)) (by rw[bg];show P.length+1+_<=_;lia) (by rw[bg];show U.length+3+_<=_;lia);refine⟨y4,y5,?_⟩;rw[bd,bd,i6];rw[dt,dt] at i;exact cC (ρ1:=cv m n P U (.int j) x5) rfl s i
theorem aLu(m:Str)(h:n<=3):(cpP m (to n)).Pairwise λa b=>a.1<b.1:=by
 match n,h with
 |0,_=>simp[cpP,to]
 |1,_=>simp[cpP,to]
 |2,_=>simp[cpP,to,mB]
 |3,_=>simp[cpP,to,mB]
theorem TV:∀js:aa ag,(cpU js).length=2+3*js.length
 |[]=>rfl
 |j::js=>by
  have:=TV js;simp only[cpU,aS,i6,bg] at this ⊢;have e:(cp3 j).length=3:=rfl;lia
theorem aHx(n:af):(to n).length=n:=by unfold to;rw[aw,eg]
theorem aUd(h:n<=3):(cpU (to n)).length<64:=by rw[TV,aHx];lia
theorem TX{V:aa Ti}(m:Str)(hn:n<=3)(hV:lG [.lst (((cpU (to n)).map norm).map tiD)]=.ok (.lst (V.map tiD))):cP 2 mD [.str m,.int (n:af)]=.ok (ntD (cpP m (to n)) V):=by
 refine(eY rfl).trans (call_v ?_);have tl:(to n).length=n:=by unfold to;rw[aw,eg]
 obtain⟨y4,y5,e⟩:=aHw (n:=(n:af)) (to n) [(1,m),(2,m)] [((1,0),(0,0)),((2,0),(0,1))] .uD .uD (by rw[tl];show 2+n<=_;lia) (by rw[tl];show 2+3*n<=_;lia);have a1:=cZ (n:af) 1;have rg:=zY (f:=aC cF (aC (b2 (bI .add) fG cF) aO)) (ρ:=cv m (n:af) [(1,m),(2,m)] [((1,0),(0,0)),((2,0),(0,1))] .uD .uD) (a:=1) (b:=(n:af)+1) (aD rfl (aD (aJ (x:=.int (n:af)) (y:=.int 1) rfl rfl a1) rfl)) 0x4 0x4 0x1 0x1;rw[show(((n:af):ag)+1-1).toNat=n by lia] at rg;have ti_:(to n).map ε=(bm n).map λ(k:af)=>ε (1+(k:ag)):=by unfold to;rw[cu];rfl
 rw[ti_] at e;refine aM (ρ':=[.str m,.int (n:af),.lst [piD (1,m),piD (2,m)],.uD,.uD,.uD]) (dX (i:=2) (nG (xs:=[piD (1,m),piD (2,m)]) (aD (bK (xs:=[.int 1,.str m]) 0xe iU) (aD (bK (xs:=[.int 2,.str m]) 0xe iU) rfl)) iU rfl) rfl) ?_;refine aM (ρ':=cv m (n:af) [(1,m),(2,m)] [((1,0),(0,0)),((2,0),(0,1))] .uD .uD) (dX (i:=3) (nG (xs:=[tiD ((1,0),(0,0)),tiD ((2,0),(0,1))]) (aD (bK (xs:=[enD (1,0),enD (0,0)]) (aD (bK (xs:=[.int 1,.int 0]) 0xe iU) (aD (bK (xs:=[.int 0,.int 0]) 0xe iU) rfl)) iU) (aD (bK (xs:=[enD (2,0),enD (0,1)]) (aD (bK (xs:=[.int 2,.int 0]) 0xe iU) (aD (bK (xs:=[.int 0,.int 1]) 0xe iU) rfl)) iU) rfl)) iU rfl) rfl) ?_;refine aM (nT rg e) ?_;exact kW (d:=ntD (cpP m (to n)) V) (aU (xs:=[.lst ((cpP m (to n)).map piD),.lst ((cpU (to n)).map tiD),.int 0]) (aD rfl 0xe) (uE (by unfold cpP;rw[aS,aS,aw,tl];lia) (aLu m hn) hV (by rw[TV,tl];lia))) rfl
noncomputable def dpP(js:aa ag):aa Pi:=js.map λj=>(j,("drop" : Str))
noncomputable def dpU(js:aa ag):aa Ti:=js.map λj=>((j,0),(0,j-1))
theorem aLv(h:n<=3):(dpP (to n)).Pairwise λa b=>a.1<b.1:=by
 match n,h with
 |0,_=>simp[dpP,to]
 |1,_=>simp[dpP,to]
 |2,_=>simp[dpP,to,mB]
 |3,_=>simp[dpP,to,mB]
theorem aUe(h:n<=3):(dpU (to n)).length<64:=by unfold dpU;rw[aw,aHx];lia
theorem TY{V:aa Ti}(hn:n<=3)(hV:lG [.lst (((dpU (to n)).map norm).map tiD)]=.ok (.lst (V.map tiD))):cP 1 mG [.int (n:af)]=.ok (ntD (dpP (to n)) V):=by
 refine(eY rfl).trans (call_v ?_);have a1:=cZ (n:af) 1;have rg:∀x1:D,jK (aC cF (aC (b2 (bI .add) cA cF) aO)) yS [.int (n:af),x1,.uD]=.ok ((to n).map ε,ae):=λx1=>by
  have rg:=zY (f:=aC cF (aC (b2 (bI .add) cA cF) aO)) (ρ:=[.int (n:af),x1,.uD]) (a:=1) (b:=(n:af)+1) (aD rfl (aD (aJ (x:=.int (n:af)) (y:=.int 1) rfl rfl a1) rfl)) 0x4 0x4 0x1 0x1;rw[show(((n:af):ag)+1-1).toNat=n by lia] at rg;rw[rg];unfold to;rw[cu];rfl
 have tl:(to n).length=n:=by unfold to;rw[aw,eg]
 have ll:((to n).map ε).length<=lim:=by rw[aw,tl,bR];lia
 have f1:fK (iI 3 jL eU (cM (aC d9 (aC (bC (.str "drop")) aO))) ah [.int (n:af),.uD,.uD]) [] ((to n).map ε)=.ok ((dpP (to n)).map piD):=by
  rw[dU _ ε (λ_=>ae) (λj=>piD (j,("drop" : Str)))]
  ·rw[iX.mpr (λ_ _=>rfl),c6];unfold dpP;rw[cu];rfl
  ·intro acc j;exact d8 (bs:=[.int j]) rfl rfl rfl λ_=>⟨bK (xs:=[.int j,.str "drop"]) 0xe iU,rfl⟩
 have f2:fK (iI 3 jL eU (cM (aC (cM (aC d9 (aC bQ aO))) (aC (cM (aC bQ (aC (b2 (bI .sub) d9 cF) aO))) aO))) ah [.int (n:af),.lst ((dpP (to n)).map piD),.uD]) [] ((to n).map ε)=.ok ((dpU (to n)).map tiD):=by
  rw[dU _ ε (λ_=>ae) (λj=>tiD ((j,0),(0,j-1)))]
  ·rw[iX.mpr (λ_ _=>rfl),c6];unfold dpU;rw[cu];rfl
  ·intro acc j;have s1:bI .sub (.int j) (.int 1)=.ok (.int (j-1)):=rfl;exact d8 (bs:=[.int j]) rfl rfl rfl λ_=>⟨bK (xs:=[enD (j,0),enD (0,j-1)]) (aD (bK (xs:=[.int j,.int 0]) 0xe iU) (aD (bK (xs:=[.int 0,.int (j-1)]) (aD rfl (aD (aJ (x:=.int j) (y:=.int 1) rfl rfl s1) rfl)) iU) rfl)) iU,rfl⟩
 refine aM (ρ':=[.int (n:af),.lst ((dpP (to n)).map piD),.uD]) (b7 (i:=1) (fC (rg _) ll f1)) ?_;refine aM (ρ':=[.int (n:af),.lst ((dpP (to n)).map piD),.lst ((dpU (to n)).map tiD)]) (b7 (i:=2) (fC (rg _) ll f2)) ?_;exact kW (d:=ntD (dpP (to n)) V) (aU (xs:=[.lst ((dpP (to n)).map piD),.lst ((dpU (to n)).map tiD),.int 0]) (aD rfl 0xe) (uE (by unfold dpP;rw[aw,tl];lia) (aLv hn) hV (by unfold dpU;rw[aw,tl];lia))) rfl
noncomputable def psS(T:aa Tk):aa (Str×D):=T.map λt=>(t.1,ε (1+((t.2.2.2.length:af):ag)))
def stp(M:aa Mk)(T:aa Tk):aa (Str×D):=mK (mK (d_ (d_ [] (psM M)) (psS T)) "copy" (.int 2)) "drop" (.int 0)
theorem T3(hM:M.length<=9)(hT:T.length<=3):cP 1 o8 [pgD ks M T R]=.ok (.dct (dD δ (stp M T))):=by
 refine(eY rfl).trans (call_v ?_);obtain⟨ρ1,⟨y2,y3,y4,y5,y6,h1⟩,e1⟩:=sO (t:=tgN [2,3,4]) (body:=yV 1 fB (aN eQ (aC jT aO))) mkD (λm=>[(m.1,ε (m.2.2.length:af))]) (λ_=>dm rfl) (λL ρ=>∃x2 x3 x4 x5 x6,ρ=[pgD ks M T R,.dct (dD δ L),x2,x3,x4,x5,x6]) (λm L ρ z0 hl=>by
  obtain⟨x2,x3,x4,x5,x6,h⟩:=z0;subst h;have p:=lZ (i:=1) (ρ:=[pgD ks M T R,.dct (dD δ L),.str m.1,.str m.2.1,.tup (m.2.2.map δ),x5,x6]) (f:=gM 2) (g:=aN eQ (aC jT aO)) (kvs:=dD δ L) (k:=.str m.1) (d:=.int (m.2.2.length:af)) (aU (xs:=[.tup (m.2.2.map δ)]) 0xf (aHl _)) rfl rfl (by rw[jC];exact xF 0x1) (jB cU L m.1) rfl;rw[jA cU] at p;exact⟨_,_,rfl,p,_,_,_,_,_,rfl⟩) M [] [pgD ks M T R,.dct [],.uD,.uD,.uD,.uD,.uD] ⟨_,_,_,_,_,rfl⟩ (by show 0+_<=5000;lia)
 rw[u_] at h1;have l1:=mL (psM M) [];rw[psM,aw,fw] at l1;obtain⟨ρ2,⟨z2,z3,z4,z5,z6,h2⟩,e2⟩:=sO (t:=tgN [2,3,5,6]) (body:=yV 1 fB (b2 (bI .add) cF (aN eQ (aC lF aO)))) tkD (λt=>[(t.1,ε (1+((t.2.2.2.length:af):ag)))]) (λ_=>dm rfl) (λL ρ=>∃x2 x3 x4 x5 x6,ρ=[pgD ks M T R,.dct (dD δ L),x2,x3,x4,x5,x6]) (λm L ρ z0 hl=>by
  obtain⟨x2,x3,x4,x5,x6,h⟩:=z0;subst h;have a1:=cZ 1 (m.2.2.2.length:af);have p:=lZ (i:=1) (ρ:=[pgD ks M T R,.dct (dD δ L),.str m.1,.str m.2.1,x4,.str m.2.2.1,.tup (m.2.2.2.map δ)]) (f:=gM 2) (g:=b2 (bI .add) cF (aN eQ (aC lF aO))) (kvs:=dD δ L) (k:=.str m.1) (d:=.int (1+((m.2.2.2.length:af):ag))) (aJ (x:=.int 1) (y:=.int (m.2.2.2.length:af)) rfl (aU (xs:=[.tup (m.2.2.2.map δ)]) 0xf (aHl _)) a1) rfl rfl (by rw[jC];exact xF 0x1) (jB cU L m.1) rfl;rw[jA cU] at p;exact⟨_,_,rfl,p,_,_,_,_,_,rfl⟩) T _ ρ1 ⟨_,_,_,_,_,h1⟩ 0x1
 rw[u_] at h2;have l2:=mL (psS T) (d_ [] (psM M));rw[psS,psM,aw] at l2;refine aM (ρ':=[pgD ks M T R,.dct [],.uD,.uD,.uD,.uD,.uD]) (dX (i:=1) (d:=.dct []) rfl rfl) ?_;refine aM (fJ (xs:=M.map mkD) (aJ (x:=pgD ks M T R) (y:=.int 1) rfl rfl rfl) (aP j5 M) e1) ?_;subst h1;refine aM (fJ (xs:=T.map tkD) (aJ (x:=pgD ks M T R) (y:=.int 2) rfl rfl rfl) (aP nH T) e2) ?_;subst h2;have pc:=lZ (i:=1) (ρ:=[pgD ks M T R,.dct (dD δ (d_ (d_ [] (psM M)) (psS T))),z2,z3,z4,z5,z6]) (f:=bC (.str "copy")) (g:=bC (.int 2)) (kvs:=dD δ (d_ (d_ [] (psM M)) (psS T))) (k:=.str "copy") (d:=.int 2) rfl rfl rfl (by rw[jC];exact xF (by unfold psM psS;lia)) (jB cU _ _) rfl;rw[jA cU] at pc;have l3:=xZ ("copy" : Str) (.int 2) (d_ (d_ [] (psM M)) (psS T));refine aM pc ?_;have pd:=lZ (i:=1) (ρ:=[pgD ks M T R,.dct (dD δ (mK (d_ (d_ [] (psM M)) (psS T)) "copy" (.int 2))),z2,z3,z4,z5,z6]) (f:=bC (.str "drop")) (g:=bC (.int 0)) (kvs:=dD δ (mK (d_ (d_ [] (psM M)) (psS T)) "copy" (.int 2))) (k:=.str "drop") (d:=.int 0) rfl rfl rfl (by rw[jC];exact xF (by unfold psM psS at l3 ⊢;lia)) (jB cU _ _) rfl;rw[jA cU] at pd;exact aM pd rfl
def Vc(n:af):aa Ti:=(vB ((cpU (to n)).map norm)).choose
def Vd(n:af):aa Ti:=(vB ((dpU (to n)).map norm)).choose
abbrev Et:=Str×Str×aa Pi×aa Ti
def eD(a:Et):D:=.tup [.str a.1,.str a.2.1,ntD a.2.2.1 a.2.2.2]
theorem GF(a:Et):(eD a).pure=ae:=by
 show(ae&&(ae&&((ntD a.2.2.1 a.2.2.2).pure&&ae)))=ae;rw[aD6];rfl
def eC(m:Mk):Et:=("copy",m.1,cpP m.1 (to m.2.2.length),Vc m.2.2.length)
def eR(m:Mk):Et:=("drop",m.1,dpP (to m.2.2.length),Vd m.2.2.length)
def mk2(m:Mk):aa Et:=[eC m,eR m]
theorem aQb(m:Mk)(hm:m.2.2.length<=3)(hQ:Q.length<=500):aKy [pg,sd,.lst (Q.map eD),.str m.1,.str m.2.1,.tup (m.2.2.map δ)]=.ok (.nx [pg,sd,.lst ((Q++mk2 m).map eD),.str m.1,.str m.2.1,.tup (m.2.2.map δ)]):=by
 have c:=TX m.1 hm ((vB ((cpU (to m.2.2.length)).map norm)).choose_spec.2 (by rw[aw];exact aUd hm)).1;have d:=TY hm ((vB ((dpU (to m.2.2.length)).map norm)).choose_spec.2 (by rw[aw];exact aUe hm)).1;have a1:=oM (i:=2) (ρ:=[pg,sd,.lst (Q.map eD),.str m.1,.str m.2.1,.tup (m.2.2.map δ)]) (f:=cM (aC (bC (.str "copy")) (aC d9 (aC (aN (cP 2 mD) (aC d9 (aC (aN eQ (aC dZ aO)) aO))) aO)))) (xs:=Q.map eD) (d:=eD (eC m)) (bK (xs:=[.str "copy",.str m.1,ntD (cpP m.1 (to m.2.2.length)) (Vc m.2.2.length)]) (aD rfl (aD rfl (aD (aU (xs:=[.str m.1,.int (m.2.2.length:af)]) (aD rfl (aD (aU (xs:=[.tup (m.2.2.map δ)]) 0xf (aHl _)) rfl)) c) rfl))) aMj) rfl (by rw[aw,bR];lia) (GF _);refine aM (ρ':=[pg,sd,.lst ((Q++[eC m]).map eD),.str m.1,.str m.2.1,.tup (m.2.2.map δ)]) (by rw[b6];exact a1) ?_;have a2:=oM (i:=2) (ρ:=[pg,sd,.lst ((Q++[eC m]).map eD),.str m.1,.str m.2.1,.tup (m.2.2.map δ)]) (f:=cM (aC (bC (.str "drop")) (aC d9 (aC (aN (cP 1 mG) (aC (aN eQ (aC dZ aO)) aO)) aO)))) (xs:=(Q++[eC m]).map eD) (d:=eD (eR m)) (bK (xs:=[.str "drop",.str m.1,ntD (dpP (to m.2.2.length)) (Vd m.2.2.length)]) (aD rfl (aD rfl (aD (aU (xs:=[.int (m.2.2.length:af)]) (aD (aU (xs:=[.tup (m.2.2.map δ)]) 0xf (aHl _)) rfl) d) rfl))) aMj) rfl (by rw[aw,bg,bR];show Q.length+1<_;lia) (GF _);refine Eq.trans a2 ?_;rw[show Q++mk2 m=Q++[eC m]++[eR m] by rw[dt];rfl,b6 (l₂:=[eR m])];rfl
theorem aHy:∀(N:aa Mk)(Q:aa Et)(x3 x4 x5:D),(∀m∈N,m.2.2.length<=3)->Q.length+2*N.length<=500->∃y3 y4 y5:D,n8 (tgN [3,4,5]) aKy (N.map mkD) [pg,sd,.lst (Q.map eD),x3,x4,x5]=.ok (.nx [pg,sd,.lst ((Q++N.flatMap mk2).map eD),y3,y4,y5])
 |[],Q,x3,x4,x5,_,_=>⟨x3,x4,x5,by rw[Df,dq];rfl⟩
 |m::N,Q,x3,x4,x5,h,hl=>by
  rw[aS] at hl;have s:=aQb (pg:=pg) (sd:=sd) (Q:=Q) m (h m (bj ..)) 0x1;obtain⟨y3,y4,y5,i⟩:=aHy N (Q++mk2 m) (.str m.1) (.str m.2.1) (.tup (m.2.2.map δ)) (λq hq=>h q (bp _ hq)) (by rw[bg];show Q.length+2+_<=_;lia);refine⟨y3,y4,y5,?_⟩;rw[i6,<-dt];exact cC (ρ1:=[pg,sd,.lst (Q.map eD),.str m.1,.str m.2.1,.tup (m.2.2.map δ)]) rfl s i
theorem aDc(hn:ns.length<=63)(hm3:Ω<=3)(hM:MOk ns Ω Ω.toNat M)(hT:∀t∈T,gZ ns Ω t)(hm:m∈M)(g1:m.1 ≠ "copy")(g2:m.1 ≠ "drop"):bL (stp M T) m.1=ab (.int (m.2.2.length:af)):=by
 have nd:=names_nodup hn hm3 hM;have nt:=PX hn hm3 hM hT hm;have n1:((psM M).map (·.1)).Nodup:=by unfold psM;rw[cu];exact nd
 have t1:m.1∉(psS T).map (·.1):=by unfold psS;rw[cu];exact nt
 unfold stp;rw[sJ,au (cq g2),sJ,au (cq g1),nJ _ _ _ t1];exact uC _ _ _ _ n1 (bE.mpr ⟨m,hm,rfl⟩)
def ruE(M:aa Mk)(T:aa Tk)(r:Rl)(q:Et):Prop:=∃m∈M,r.2.1=m.1/\m.2.2.length<=r.2.2.1.length/\∃V:aa Ti,(V.Perm ((nU M T (r.2.2.1.drop m.2.2.length++r.2.2.1.take m.2.2.length) r.2.2.2).map norm)/\lL [.tup (V.map tiD)]=.ok (.lst (V.map tiD)))/\q=(r.1,r.2.1,nP M T (r.2.2.1.drop m.2.2.length++r.2.2.1.take m.2.2.length) r.2.2.2,V)
theorem QD(g:aa D->D->Res (aa D))(dr:β->D)(d:α->D)(P:β->α->Prop):∀(xs:aa β)(acc:aa D),(∀x∈xs,∀acc,∃y:α,P x y/\g acc (dr x)=.ok (acc++[d y]))->∃zs:aa α,(zs.length=xs.length/\∀(k:af)(x:β),xs[k]?=ab x->∃z,zs[k]?=ab z/\P x z)/\fK g acc (xs.map dr)=.ok (acc++zs.map d)
 |[],acc,_=>⟨[],⟨rfl,λ_ _ h=>by simp at h⟩,by simp[fK]⟩
 |x::xs,acc,h=>by
  obtain⟨y,h1,h3⟩:=h x (bj ..) acc;obtain⟨zs,⟨i1,i2⟩,i3⟩:=QD g dr d P xs (acc++[d y]) λy hy=>h y (bp _ hy)
  refine⟨y::zs,⟨by rw[aS,aS,i1],λk z hz=>?_⟩,?_⟩
  ·cases k with
   |zero=>
    rw[List.getElem?_cons_zero] at hz;cases hz;exact⟨y,rfl,h1⟩
   |succ k=>
    rw[yt] at hz;exact i2 k z hz
  ·rw[bd,fK,h3];show fK g _ _=_;rw[i3,dt];rfl
theorem T5(hn:ns.length<=63)(hm3:Ω<=3)(hM:MOk ns Ω Ω.toNat M)(hT:∀t∈T,gZ ns Ω t)(hT2:T.length<=3/\T.map (·.1)=(bm T.length).map (λ(k:af)=>wrd ns (17+(k:ag))))(hMl:M.length<=9)(hM3:∀m∈M,m.2.2.length<=3)(hMg:∀m∈M,m.1 ≠ "copy"/\m.1 ≠ "drop")(hTp:∀t∈T,t.2.2.2.length<=2)(hRl:R.length<=60)(hR:∀r∈R,aDx ns M T r) :
  ∃Q:aa Et,(Q.length=R.length/\∀(k:af)(r:Rl),R[k]?=ab r->∃q,Q[k]?=ab q/\ruE M T r q)/\cP 1 p_ [pgD ks M T R]=.ok (.lst ((Q++M.flatMap mk2).map eD)):=by
 have cf:∀x1,x1=ψ (dD δ (stp M T))->∃Q:aa Et,(Q.length=R.length/\∀(k:af)(r:Rl),R[k]?=ab r->∃q,Q[k]?=ab q/\ruE M T r q)/\fK (iI 6 jL eU (cM (aC (b2 getD lF bQ) (aC (b2 getD lF cF) (aC (aN (cP 3 mC) (aC cA (aC lF (aC (b2 getD fG (b2 getD lF cF)) aO)))) aO)))) ah [pgD ks M T R,x1,.uD,.uD,.uD,.uD]) [] (R.map rlD)=.ok ([]++Q.map eD):=λx1 hx1=>QD _ rlD eD (ruE M T) R [] (λr hr acc=>by
  have ro:=hR r hr;obtain⟨m,hm,e1,e2⟩:=ro.km;obtain⟨V,hV,e⟩:=TQ (R:=R) hn hm3 hM hT hT2 hMl hTp ro e2;have g:Mi.getD x1 (.str r.2.1)=.ok (.int (m.2.2.length:af)):=by
   rw[hx1];show(if keyOk (.str r.2.1) then ν (eX (dD δ (stp M T)) (.str r.2.1)) else .bad)=_;rw[al (show keyOk (.str r.2.1)=ae from rfl),uB cU,e1,aDc hn hm3 hM hT hm (hMg m hm).1 (hMg m hm).2];rfl
  subst hx1;generalize hP:nP M T (r.2.2.1.drop m.2.2.length++r.2.2.1.take m.2.2.length) r.2.2.2=P at e;refine⟨(r.1,r.2.1,P,V),⟨m,hm,e1,e2,V,hV,by rw[hP]⟩,d8 (b:=ae) (y:=eD (r.1,r.2.1,P,V)) (bs:=[rlD r]) rfl rfl rfl λ_=>⟨bK (xs:=[.str r.1,.str r.2.1,ntD P V]) (aD (aJ (x:=rlD r) (y:=.int 0) rfl rfl rfl) (aD (aJ (x:=rlD r) (y:=.int 1) rfl rfl rfl) (aD (aU (xs:=[pgD ks M T R,rlD r,.int (m.2.2.length:af)]) (aD rfl (aD rfl (aD (aJ (x:=.dct (dD δ (stp M T))) (y:=.str r.2.1) rfl (aJ (x:=rlD r) (y:=.int 1) rfl rfl rfl) g) rfl))) e) rfl))) aMj,by rw[GF];rfl⟩⟩)
 obtain⟨Q,q2,q3⟩:=cf _ rfl;rw[c6] at q3;obtain⟨y3,y4,y5,i⟩:=aHy (pg:=pgD ks M T R) (sd:=.dct (dD δ (stp M T))) M Q .uD .uD .uD hM3 (by have:=q2.1;lia);refine⟨Q,q2,(eY rfl).trans (call_v ?_)⟩;refine aM (ρ':=[pgD ks M T R,.dct (dD δ (stp M T)),.uD,.uD,.uD,.uD]) (b7 (i:=1) (aU (xs:=[pgD ks M T R]) 0xf (T3 hMl hT2.1))) ?_;refine aM (ρ':=[pgD ks M T R,.dct (dD δ (stp M T)),.lst (Q.map eD),.uD,.uD,.uD]) (dX (i:=2) (fC (fO (aJ (x:=pgD ks M T R) (y:=.int 3) rfl rfl rfl)) (by rw[aw,bR];lia) q3) (by show θ (Q.map eD)=ae;exact aP GF Q)) ?_;refine aM (fJ (xs:=M.map mkD) (aJ (x:=pgD ks M T R) (y:=.int 1) rfl rfl rfl) (aP j5 M) i) ?_;rfl
noncomputable def fl(U:aa Ti):aa En:=U.flatMap λt=>[t.1,t.2]
theorem wF(t:Ti)(U:aa Ti):fl (t::U)=t.1::t.2::fl U:=rfl
noncomputable def hks(n:ag)(a:af):aa En:=(bm (a+1)).map λ(k:af)=>(n,(k:ag))
def yD(M:aa Mk)(T:aa Tk)(P:aa Pi):aa En:=P.flatMap λp=>hks p.1 (arS M T p.2)
theorem aLw(h:t.1≠t.2):[(norm t).1,(norm t).2].Perm [t.1,t.2]:=by
 rcases(TJ h).2 with e|e<;>rw[e]
 exact vo ..
theorem XM:∀{U:aa Ti},(fl U).Nodup->(fl (U.map norm)).Perm (fl U)/\∀t∈U.map norm,ltP t.1 t.2
 |[],_=>⟨.refl _,λt h=>by cases h⟩
 |t::U,h=>by
  rw[wF,c_,c_] at h;have hne:t.1≠t.2:=λz=>h.1 (by rw[z];exact bj ..)
  obtain⟨i1,i2⟩:=XM h.2.2;refine⟨(aLw hne).append i1,λs hs=>?_⟩;rcases bu.mp hs with rfl|hs
  ·exact(TJ hne).1
  ·exact i2 s hs
theorem aLx{U V:aa Ti}(h:U.Perm V):(fl U).Perm (fl V):=h.flatMap_right _
theorem aDd(n:ag)(a:af):(hks n a).Nodup:=by
 unfold hks ni;rw[kf];refine(vm).imp λ{x y} h z=>?_
 injection z with _ z
 lia
theorem GJ:∀{P:aa Pi},P.Pairwise (λa b=>a.1<b.1)->(yD M T P).Nodup
 |[],_=>fE
 |p::P,h=>by
  rw[Dg] at h;show(hks p.1 (arS M T p.2)++yD M T P).Nodup;refine jp.mpr ⟨aDd _ _,GJ h.2,λx hx y hy z=>?_⟩;obtain⟨k,_,rfl⟩:=bE.mp hx;obtain⟨q,hq,hy⟩:=zS.mp hy;obtain⟨j,_,rfl⟩:=bE.mp hy;injection z with z _
  have:=h.1 q hq;lia
theorem aGb(i:ag):cP 1 eE [.int i]=.ok (.bl ae):=rfl
theorem aHz(e:En):cP 1 mH [enD e]=.ok (.bl ae):=rfl
theorem ne_int(a b:ag):cT .ne (.int a) (.int b)=.ok (.bl (!(a==b))):=rfl
theorem aUf(a b:ag):cT (.ord .le) (.int a) (.int b)=.ok (.bl (ϒ (a<=b))):=zK rfl rfl rfl
theorem QF(h:f ρ=.ok b):KC f ρ=.ok (!b):=by
 unfold KC;rw[h];rfl
theorem aQc{E:aa En}(h1:last<p.1)(hS:bL (stk M T) p.2=ab (.int (a:af)))(ha:a<=3)(hE:E.length<=5000):aKz [nt,.dct (dD δ (stk M T)),.int (bo:af),.lst (E.map enD),.int last,piD p,.uD,.uD,.uD]=.ok (.nx [nt,.dct (dD δ (stk M T)),.int (bo:af),.lst ((E++hks p.1 a).map enD),.int p.1,piD p,.uD,.uD,.uD]):=by
 have g0:b2 getD dZ bQ [nt,.dct (dD δ (stk M T)),.int (bo:af),.lst (E.map enD),.int last,piD p,.uD,.uD,.uD]=.ok (.int p.1):=aJ rfl rfl rfl;have g1:∀x4:D,b2 getD dZ cF [nt,.dct (dD δ (stk M T)),.int (bo:af),.lst (E.map enD),x4,piD p,.uD,.uD,.uD]=.ok (.str p.2):=λx4=>aJ rfl rfl rfl
 refine aM (oK (xX rfl (xX rfl (xX (QF (ZW (aU (xs:=[.int p.1]) (aD g0 rfl) (aGb _)))) (dG (aJ (x:=.int p.1) (y:=.int last) g0 rfl ((aUf _ _).trans (by rw[cw 0x1]))))))) rfl) ?_;have ns:=P0 cU (stk M T) p.2;rw[hS] at ns;have s1:b1 (vJ .str) (b2 getD dZ cF) [nt,.dct (dD δ (stk M T)),.int (bo:af),.lst (E.map enD),.int last,piD p,.uD,.uD,.uD]=.ok (.bl ae):=by
  unfold b1;rw[g1];rfl
 refine aM (oK (xX (QF (ZW s1)) (dG (aJ (x:=.str p.2) (y:=.dct (dD δ (stk M T))) (g1 _) rfl ns))) rfl) ?_;refine aM (ρ':=[nt,.dct (dD δ (stk M T)),.int (bo:af),.lst (E.map enD),.int p.1,piD p,.uD,.uD,.uD]) (eZ (i:=4) g0 rfl) ?_;have a1:=cZ (a:af) 1;have cf:fK (iI 9 jL eU (cM (aC jT (aC BJ aO))) ah [nt,.dct (dD δ (stk M T)),.int (bo:af),.lst (E.map enD),.int p.1,piD p,.uD,.uD,.uD]) [] ((bm (((a:af):ag)+1).toNat).map λ(k:af)=>ε (0+(k:ag)))=.ok ((hks p.1 a).map enD):=by
  rw[dU _ (λ(k:af)=>ε (0+(k:ag))) (λ_=>ae) (λ(k:af)=>enD (p.1,0+(k:ag)))]
  ·rw[iX.mpr (λ_ _=>rfl),c6,show(((a:af):ag)+1).toNat=a+1 by lia,hks,cu]
   congr 1
   refine mz λk _=>?_
   show enD (p.1,0+(k:ag))=enD (p.1,(k:ag));rw[vk]
  ·intro acc k;exact d8 (n:=9) (t:=jL) (c:=eU) (k:=ah) (acc:=acc) (x:=.int (0+(k:ag))) (ρ:=[nt,.dct (dD δ (stk M T)),.int (bo:af),.lst (E.map enD),.int p.1,piD p,.uD,.uD,.uD]) (b:=ae) (bs:=[.int (0+(k:ag))]) (y:=enD (p.1,0+(k:ag))) rfl rfl rfl λ_=>⟨bK (xs:=[.int p.1,.int (0+(k:ag))]) 0xe iU,rfl⟩
 have hl:(hks p.1 a).length=a+1:=by simp[hks]
 have ad:=nA (E.map enD) ((hks p.1 a).map enD) (by rw[aw,aw,hl,bR];lia) (aP eN _) (aP eN _);rw[<-b6] at ad;exact b7 (i:=3) (aJ (x:=.lst (E.map enD)) (y:=.lst ((hks p.1 a).map enD)) rfl (fC (wK (n:=(a:af)+1) (aD (aJ (x:=.int (a:af)) (y:=.int 1) (aJ (x:=.dct (dD δ (stk M T))) (y:=.str p.2) rfl (g1 _) (mO cU hS)) rfl a1) rfl) 0x1 0x1) (by rw[aw,eg,bR];lia) cf) ad)
theorem aI0:∀(P:aa Pi)(E:aa En)(last:ag)(x5:D),P.Pairwise (λa b=>a.1<b.1)->(∀p∈P,last<p.1)->(∀p∈P,bL (stk M T) p.2=ab (.int (arS M T p.2:af))/\arS M T p.2<=3)->E.length+4*P.length<=5000->
  ∃(y4 y5:D),n8 (tg1 5) aKz (P.map piD) [nt,.dct (dD δ (stk M T)),.int (bo:af),.lst (E.map enD),.int last,x5,.uD,.uD,.uD]=.ok (.nx [nt,.dct (dD δ (stk M T)),.int (bo:af),.lst ((E++yD M T P).map enD),y4,y5,.uD,.uD,.uD])
 |[],E,last,x5,_,_,_,_=>⟨.int last,x5,by rw[show yD M T []=[] from rfl,dq];rfl⟩
 |p::P,E,last,x5,h1,h2,h3,h4=>by
  rw[Dg] at h1;rw[aS] at h4;obtain⟨s1,s2⟩:=h3 p (bj ..);have st:=aQc (bo:=bo) (nt:=nt) (E:=E) (h2 p (bj ..)) s1 s2 0x1;have hl:(hks p.1 (arS M T p.2)).length<=4:=by simp[hks];lia
  obtain⟨y4,y5,ih⟩:=aI0 (nt:=nt) P (E++hks p.1 (arS M T p.2)) p.1 (piD p) h1.2 h1.1 (λq hq=>h3 q (bp _ hq)) (by rw[bg];lia);refine⟨y4,y5,?_⟩;rw[bd];refine cC (ρ1:=[nt,.dct (dD δ (stk M T)),.int (bo:af),.lst (E.map enD),.int last,piD p,.uD,.uD,.uD]) rfl st ?_;rw[ih,dt];rfl
def mtl(V:aa Ti):aa (En×D):=V.flatMap λt=>[(t.1,enD t.2),(t.2,enD t.1)]
theorem yE:∀V:aa Ti,(mtl V).map (·.1)=fl V
 |[]=>rfl
 |t::V=>by
  show t.1::t.2::(mtl V).map (·.1)=_;rw[yE V,wF]
theorem gW[cr α](a:α):∀L:aa (α×D),a∉L.map (·.1)->bL L a=ai
 |[],_=>rfl
 |p::L,h=>by
  rw[bd,bu,gw] at h;rw[bL,au (λz=>h.1 z.symm),gW a L h.2]
theorem oY[cr α](a:α)(v:D):∀L:aa (α×D),(L.map (·.1)).Nodup->(a,v)∈L->bL L a=ab v
 |[],_,h=>by cases h
 |p::L,hn,h=>by
  rw[bd,c_] at hn;rw[bL];rcases bu.mp h with rfl|h
  ·rw[al rfl]
  ·rw[au (λz=>hn.1 (by rw[z];exact bE.mpr ⟨_,h,rfl⟩))];exact oY a v L hn.2 h
theorem vC[cr α](a:α)(v:D):∀L:aa (α×D),a∉L.map (·.1)->mK L a v=L++[(a,v)]
 |[],_=>rfl
 |p::L,h=>by
  rw[bd,bu,gw] at h;rw[mK,au (λz=>h.1 z.symm),vC a v L h.2];rfl
theorem aQd(h:ltP t.1 t.2)(h1:t.1∉L.map (·.1))(h2:t.2∉L.map (·.1))(hne:t.1≠t.2)(hl:L.length<=5000):aL0 [x0,x1,x2,x3,x4,x5,.dct (dD enD L),tiD t,.uD]=.ok (.nx [x0,x1,x2,x3,x4,x5,.dct (dD enD (L++[(t.1,enD t.2),(t.2,enD t.1)])),tiD t,.uD]):=by
 have g0:∀x6:D,b2 getD jF bQ [x0,x1,x2,x3,x4,x5,x6,tiD t,.uD]=.ok (enD t.1):=λx6=>aJ rfl rfl rfl
 have g1:∀x6:D,b2 getD jF cF [x0,x1,x2,x3,x4,x5,x6,tiD t,.uD]=.ok (enD t.2):=λx6=>aJ rfl rfl rfl
 have n1:inX (enD t.1) (.dct (dD enD L))=.ok (.bl ah):=(xG lD L t.1).trans (by rw[gW _ _ h1];rfl);have n2:inX (enD t.2) (.dct (dD enD L))=.ok (.bl ah):=(xG lD L t.2).trans (by rw[gW _ _ h2];rfl);have ge:cT (.ord .ge) (enD t.1) (enD t.2)=.ok (.bl ah):=(zK rfl rfl (aQ2 _ _)).trans (by rw[bh h];rfl);refine aM (oK (xX rfl (xX rfl (xX (QF (ZW (aU (xs:=[enD t.1]) (aD (g0 _) rfl) (aHz _)))) (QF (ZW (aU (xs:=[enD t.2]) (aD (g1 _) rfl) (aHz _))))))) rfl) ?_;refine aM (oK (xX (dG (aJ (g0 _) (g1 _) ge)) (xX (dG (aJ (y:=.dct (dD enD L)) (g0 _) rfl n1)) (dG (aJ (y:=.dct (dD enD L)) (g1 _) rfl n2)))) rfl) ?_;have p1:=lZ (i:=6) (ρ:=[x0,x1,x2,x3,x4,x5,.dct (dD enD L),tiD t,.uD]) (f:=b2 getD jF bQ) (g:=b2 getD jF cF) (kvs:=dD enD L) (k:=enD t.1) (d:=enD t.2) (g1 _) (g0 _) rfl (by rw[jC,bR];lia) (jB lD L t.1) (eN _);rw[jA lD,vC _ _ _ h1] at p1;have k2:t.2∉(L++[(t.1,enD t.2)]).map (·.1):=by
  rw[b6,dQ,gw];exact⟨h2,λz=>hne (eL.mp z).symm⟩
 have p2:=lZ (i:=6) (ρ:=[x0,x1,x2,x3,x4,x5,.dct (dD enD (L++[(t.1,enD t.2)])),tiD t,.uD]) (f:=b2 getD jF cF) (g:=b2 getD jF bQ) (kvs:=dD enD (L++[(t.1,enD t.2)])) (k:=enD t.2) (d:=enD t.1) (g0 _) (g1 _) rfl (by rw[jC,bR,bg];show L.length+1<_;lia) (jB lD _ t.2) (eN _);rw[jA lD,vC _ _ _ k2,dt] at p2;exact aM p1 p2
theorem aI1:∀(V:aa Ti)(L:aa (En×D))(x7:D),(∀t∈V,ltP t.1 t.2)->(L.map (·.1)++fl V).Nodup->L.length+2*V.length<=5000->
  ∃y7:D,n8 (tg1 7) aL0 (V.map tiD) [x0,x1,x2,x3,x4,x5,.dct (dD enD L),x7,.uD]=.ok (.nx [x0,x1,x2,x3,x4,x5,.dct (dD enD (L++mtl V)),y7,.uD])
 |[],L,x7,_,_,_=>⟨x7,by rw[show mtl []=[] from rfl,dq];rfl⟩
 |t::V,L,x7,h1,h2,h3=>by
  rw[aS] at h3;rw[wF] at h2;have nd:=jp.mp h2;have nd2:=nd.2.1;rw[c_,c_] at nd2;have a1:t.1∉L.map (·.1):=λz=>nd.2.2 _ z _ (bj ..) rfl
  have a2:t.2∉L.map (·.1):=λz=>nd.2.2 _ z _ (bp _ (bj ..)) rfl
  have a3:t.1≠t.2:=λz=>nd2.1 (by rw[z];exact bj ..)
  have st:=aQd (x0:=x0) (x1:=x1) (x2:=x2) (x3:=x3) (x4:=x4) (x5:=x5) (h1 t (bj ..)) a1 a2 a3 0x1;obtain⟨y7,ih⟩:=aI1 (x0:=x0) (x1:=x1) (x2:=x2) (x3:=x3) (x4:=x4) (x5:=x5) V (L++[(t.1,enD t.2),(t.2,enD t.1)]) (tiD t) (λs hs=>h1 s (bp _ hs)) (by rw[b6,dt];exact h2) (by rw[bg];show L.length+2+_<=_;lia);refine⟨y7,?_⟩;rw[bd];refine cC (ρ1:=[x0,x1,x2,x3,x4,x5,.dct (dD enD L),tiD t,.uD]) rfl st ?_;rw[ih,dt];rfl
theorem aI2:∀(E:aa En)(x8:D),(∀e∈E,e∈L.map (·.1))->∃y8:D,n8 (tg1 8) aP8 (E.map enD) [x0,x1,x2,x3,x4,x5,.dct (dD enD L),x7,x8]=.ok (.nx [x0,x1,x2,x3,x4,x5,.dct (dD enD L),x7,y8])
 |[],x8,_=>⟨x8,rfl⟩
 |e::E,x8,h=>by
  obtain⟨y8,ih⟩:=aI2 E (enD e) (λd hd=>h d (bp _ hd));have hs:(bL L e).isSome=ae:=by
   have:∀L:aa (En×D),e∈L.map (·.1)->(bL L e).isSome=ae:=by
    intro L;induction L with
    |nil=>intro h;cases h
    |cons p L ih=>
     intro h;rw[bL];split
     ·rfl
     ·rename_i z;rw[bd] at h;exact ih ((bu.mp h).resolve_left λq=>z q.symm)
   exact this L (h e (bj ..))
  refine⟨y8,?_⟩;rw[bd];exact cC rfl (oK (dG (aJ rfl rfl ((P0 lD L e).trans (by rw[hs];rfl)))) rfl) ih
theorem aLy(L:aa (En×D)):aOw [.dct (dD enD L)]=.ok (.int (L.length:af)):=by
 have:((dD enD L).all λp=>isTup p.1)=ae:=fA.mpr λp hp=>by
  obtain⟨q,_,rfl⟩:=bE.mp hp;rfl
 show(if ((dD enD L).all λp=>isTup p.1)=ae then ι (ε ((dD enD L).length:af)) else .bad)=_;rw[this,al rfl,jC]
theorem aLz(V:aa Ti):cT .ne (.lst (V.map tiD)) (.lst (V.map tiD))=.ok (.bl ah):=by
 have q:∀L:aa Ti,ο 11 (L.map tiD)=ae:=by
  intro L;induction L with
  |nil=>rfl
  |cons x L ih=>
   rw[bd,ο,ih];rfl
 have e:∀L:aa Ti,xN (L.map tiD) (L.map tiD)=ae:=by
  intro L;induction L with
  |nil=>rfl
  |cons x L ih=>
   show((eqD (enD x.1) (enD x.1)&&(eqD (enD x.2) (enD x.2)&&ae))&&xN (L.map tiD) (L.map tiD))=ae;rw[ih,lD.eq,lD.eq,bh rfl,bh rfl];rfl
 show(if (π (V.map tiD)).fP aY&&(π (V.map tiD)).fP aY then ι (υ (!xN (V.map tiD) (V.map tiD))) else .bad)=_;rw[show(π (V.map tiD)).fP aY=ae from q V,e];rfl
noncomputable def rim(bo:af):aa En:=(bm bo).map λ(k:af)=>((0:ag),(0:ag)+(k:ag))
theorem aGc{V:aa Ti}(hb:bo<=100)(h1:P.Pairwise (λa b=>a.1<b.1))(h2:∀p∈P,(0:ag)<p.1)(h3:∀p∈P,bL (stk M T) p.2=ab (.int (arS M T p.2:af))/\arS M T p.2<=3)(h4:∀t∈V,ltP t.1 t.2)(h5:(fl V).Perm (rim bo++yD M T P))(h6:(fl V).Nodup)(h7:lL [.tup (V.map tiD)]=.ok (.lst (V.map tiD)))(hP:P.length<=1000)(hV:V.length<=1000) :
  cP 3 lB [ntD P V,.dct (dD δ (stk M T)),.int (bo:af)]=.ok (.dct (dD enD (mtl V))):=by
 refine(eY rfl).trans (call_v ?_);unfold wV;refine aM (oK (xX rfl rfl) rfl) ?_;refine aM (oK (xX rfl (xX rfl rfl)) rfl) ?_;have cf:fK (iI 9 jL eU (cM (aC bQ (aC BJ aO))) ah [ntD P V,.dct (dD δ (stk M T)),.int (bo:af),.uD,.uD,.uD,.uD,.uD,.uD]) [] ((bm bo).map λ(k:af)=>ε (0+(k:ag)))=.ok ((rim bo).map enD):=by
  rw[dU _ (λ(k:af)=>ε (0+(k:ag))) (λ_=>ae) (λ(k:af)=>enD (0,0+(k:ag)))]
  ·rw[iX.mpr (λ_ _=>rfl),c6];unfold rim;rw[cu];rfl
  ·intro acc k;exact d8 rfl rfl rfl λ_=>⟨bK (xs:=[.int 0,.int (0+(k:ag))]) 0xe iU,rfl⟩
 have rg:=wK (f:=aC fB aO) (ρ:=[ntD P V,.dct (dD δ (stk M T)),.int (bo:af),.uD,.uD,.uD,.uD,.uD,.uD]) (n:=(bo:af)) 0xf 0x1 0x1;rw[uq] at rg;have rl:(rim bo).length=bo:=by unfold rim;rw[aw,eg]
 refine aM (b7 (i:=3) (fC rg (by rw[aw,eg,bR];lia) cf)) ?_;refine aM (b7 rfl) ?_;obtain⟨y4,y5,e1⟩:=aI0 (bo:=bo) P (rim bo) 0 .uD h1 h2 h3 (by rw[rl];lia);refine aM (fJ (aJ rfl rfl rfl) (aP wB P) e1) ?_;refine aM (dX rfl rfl) ?_;obtain⟨y7,e2⟩:=aI1 V [] .uD h4 h6 (by show 0+_<=_;lia);rw[c6] at e2;refine aM (fJ (aJ (y:=.int 1) rfl rfl rfl) (aP nM V) e2) ?_;have hlen:(mtl V).length=(rim bo++yD M T P).length:=by
  have a:=cy me (yE V);rw[aw] at a;rw[a,h5.length_eq]
 have c1:bTB (b2 (cT .ne) (aN aOw (aC lF aO)) (aN eQ (aC d9 aO))) [ntD P V,.dct (dD δ (stk M T)),.int (bo:af),.lst ((rim bo++yD M T P).map enD),y4,y5,.dct (dD enD (mtl V)),y7,.uD]=.ok ah:=dG (aJ (x:=.int ((mtl V).length:af)) (y:=.int ((mtl V).length:af)) (aU (xs:=[.dct (dD enD (mtl V))]) 0xf (aLy _)) (aU (xs:=[.lst ((rim bo++yD M T P).map enD)]) 0xf (by rw[iZ,aw,hlen])) ((ne_int _ _).trans (by rw[dy];rfl)));have c2:bTB (b2 (cT .ne) (aN aEh (aC (b2 getD cA cF) aO)) (aN lL (aC (b2 getD cA cF) aO))) [ntD P V,.dct (dD δ (stk M T)),.int (bo:af),.lst ((rim bo++yD M T P).map enD),y4,y5,.dct (dD enD (mtl V)),y7,.uD]=.ok ah:=dG (aJ (x:=.lst (V.map tiD)) (y:=.lst (V.map tiD)) (aU (xs:=[.tup (V.map tiD)]) (aD (aJ (x:=ntD P V) (y:=.int 1) rfl rfl rfl) rfl) (by show(if θ (V.map tiD) then ι (π (V.map tiD)) else .bad)=_;rw[aP nM];rfl)) (aU (xs:=[.tup (V.map tiD)]) (aD (aJ (x:=ntD P V) (y:=.int 1) rfl rfl rfl) rfl) h7) (aLz V));refine aM (oK (xX c1 c2) rfl) ?_;obtain⟨y8,e3⟩:=aI2 (x0:=ntD P V) (x1:=.dct (dD δ (stk M T))) (x2:=.int (bo:af)) (x3:=.lst ((rim bo++yD M T P).map enD)) (x4:=y4) (x5:=y5) (x7:=y7) (L:=mtl V) (rim bo++yD M T P) .uD (λe he=>by rw[yE];exact h5.mem_iff.mpr he);refine aM (HY (i:=3) (d:=.lst ((rim bo++yD M T P).map enD)) rfl rfl e3) ?_;rfl
theorem aGd(h:Wx M T w a)(n:ag):((n,gv T w)::hk T n w a).Perm (hks n a):=by
 have h1:=h.len;have h2:=h.tk;unfold gv hk hks;by_cases z:w∈tn T
 ·rw[al z,al z]
  match a,h1,h2 z with
  |1,_,_=>exact vo ..
  |2,_,_=>exact vo ..
  |3,_,_=>exact vo ..
 ·rw[au z,au z]
  match a,h1 with
  |0,_=>exact .refl _
  |1,_=>exact .refl _
  |2,_=>exact .refl _
  |3,_=>exact .refl _
theorem QG(p:Pi)(P:aa Pi):yD M T (p::P)=hks p.1 (arS M T p.2)++yD M T P:=rfl
theorem XN(P Q:aa Pi):yD M T (P++Q)=yD M T P++yD M T Q:=Aa
theorem aDe(U V:aa Ti):fl (U++V)=fl U++fl V:=Aa
theorem XQ(pl:Str->aa En)(w:Str)(e x:En):∀va:aa Str,va.Nodup->(va.flatMap (plA pl w e)).count x=(va.flatMap pl).count x+if w∈va then [e].count x else 0
 |[],_=>by rfl
 |y::va,h=>by
  rw[c_] at h;have i:=XQ pl w e x va h.2;rw[i6,i6,i7,i7,i];by_cases z:y=w
  ·subst z;rw[au h.1,al (bj ..),show plA pl y e y=pl y++[e] by simp[plA],i7];lia
  ·rw[show plA pl w e y=pl y by simp[plA,z]];by_cases q:w∈va
   ·rw[al q,al (bp _ q)];lia
   ·rw[au q,au (λr=>(bu.mp r).elim (λr=>z r.symm) q)];lia
theorem T6(hx:∀w a,Wd M T w a->Wx M T w a/\w∉va)(nd:va.Nodup)(x:En):∀(ws:aa Str)(k:af)(W:aa En)(pl:Str->aa En),Dk M T va W.length ws->(fl (wr M T va k ws W pl).2.1).count x+(va.flatMap (wr M T va k ws W pl).2.2).count x=W.count x+(yD M T (wr M T va k ws W pl).1).count x+(va.flatMap pl).count x
 |[],k,W,pl,h=>by
  cases W with
  |nil=>rw[wr];rfl
  |cons e W=>cases h
 |w::ws,k,[],pl,h=>by cases h
 |w::ws,k,e::W,pl,h=>by
  cases h with
  |@cons _ a _ _ wd d=>
   rw[wr];by_cases wn:w∈va
   ·rw[al wn];have d':Dk M T va W.length ws:=by
     rcases wd with wd|⟨_,rfl⟩
     ·exact ay wn (hx w a wd).2
     ·rw[ia] at d;exact d
    have i:=T6 hx nd x ws k W (plA pl w e) d';rw[XQ pl w e x va nd,al wn] at i;rw[iv];rw[iv,nj] at i;lia
   ·rw[au wn];obtain⟨wd',wx⟩:Wd M T w a/\Wx M T w a:=by
     rcases wd with wd|⟨z,_⟩
     ·exact⟨wd,(hx w a wd).1⟩
     ·exact ay z wn
    dsimp only;rw[xK wx];have i:=T6 hx nd x ws (k+1) (hk T ((k:ag)+1) w a++W) pl (by rw[bg,xH wx];exact d);have hp:=(aGd wx ((k:ag)+1)).count_eq x;rw[iv] at hp;rw[i7] at i;rw[wF,QG];show jq x (((k:ag)+1,gv T w)::e::fl _)+_=_+jq x (hks ((k:ag)+1) (arS M T w)++_)+_;rw[xK wx,i7,iv,iv,iv];lia
theorem J8(e:En)(X:aa En):cutD (e::X) ai (ab (-1))=(e::X).dropLast:=by
 unfold cutD;have h1:G3 (e::X).length 0 ai=0:=rfl;have h2:G3 (e::X).length (e::X).length (ab (-1))=X.length:=by
  rw[aS];unfold G3;simp;lia
 rw[h1,h2,zg];rfl
theorem aDf(hc:arS M T "copy"=2)(x:En):∀(Y:aa En)(k:af)(g:En),(fl (lp k Y g).2.1).count x+[(lp k Y g).2.2].count x=[g].count x+Y.count x+(yD M T (lp k Y g).1).count x
 |[],k,g=>by
  show 0+jq x [g]=jq x [g]+0+0;lia
 |e::Y,k,g=>by
  have i:=aDf hc x Y (k+1) ((k:ag)+1,2);rw[lp,wF,wF,QG];show jq x (((k:ag)+1,(0:ag))::g::((k:ag)+1,(1:ag))::e::fl _)+_=_+_+jq x (hks ((k:ag)+1) (arS M T "copy")++_);rw[hc,show hks ((k:ag)+1) 2=[((k:ag)+1,(0:ag)),((k:ag)+1,1),((k:ag)+1,2)] from rfl,i7];simp only[iv,nj] at i ⊢;lia
theorem aM0(hc:arS M T "copy"=2)(hd:arS M T "drop"=0)(x:En)(k:af)(X:aa En)(g:En):(fl (sr k X g).2).count x=[g].count x+X.count x+(yD M T (sr k X g).1).count x:=by
 cases X with
 |nil=>
  show jq x [((k:ag)+1,(0:ag)),g]=_+_+jq x (hks ((k:ag)+1) (arS M T "drop")++[]);rw[hd,show hks ((k:ag)+1) 0=[((k:ag)+1,(0:ag))] from rfl];simp only[iv,nj,dq];lia
 |cons e X=>
  show(fl ((lp k (cutD (e::X) ai (ab (-1))) g).2.1++[((lp k (cutD (e::X) ai (ab (-1))) g).2.2,(e::X).getLastD (0,0))])).count x=[g].count x+(e::X).count x+(yD M T (lp k (cutD (e::X) ai (ab (-1))) g).1).count x;rw[J8,aDe];have i:=aDf hc x (e::X).dropLast k g;have c:(e::X).count x=((e::X).dropLast).count x+[(e::X).getLastD (0,0)].count x:=by
   rw[<-i7]
   congr 1
   rw[zI,List.getLast?_eq_getLast 0x2,xS];exact(List.dropLast_concat_getLast 0x2).symm
  rw[i7,c];generalize lp k (e::X).dropLast g=L at i;show _+jq x [L.2.2,_]=_;simp only[iv,nj] at i ⊢;lia
noncomputable def aM1(k m:af):aa En:=(bm m).map λ(i:af)=>((0:ag),((k+i:af):ag))
theorem QH(k m:af):aM1 k (m+1)=(0,(k:ag))::aM1 (k+1) m:=by
 unfold aM1;rw[Bb,bd,cu]
 congr 1
 refine mz λi _=>?_
 show((0:ag),((k+(i+1):af):ag))=(0,((k+1+i:af):ag));rw[show k+(i+1)=k+1+i by lia]
theorem XR(hc:arS M T "copy"=2)(hd:arS M T "drop"=0)(x:En)(pl:Str->aa En):∀(va:aa Str)(n k:af),(fl (srs n k va pl).2).count x=(aM1 k va.length).count x+(va.flatMap pl).count x+(yD M T (srs n k va pl).1).count x
 |[],_,_=>by rw[srs];rfl
 |y::va,n,k=>by
  have i:=XR hc hd x pl va (n+(sr n (pl y) (0,(k:ag))).1.length) (k+1);have s:=aM0 hc hd x n (pl y) (0,(k:ag));rw[srs,aDe,XN,i6,aS,QH];simp only[i7,iv,nj] at s i ⊢;lia
theorem aGe(hx:∀w a,Wd M T w a->Wx M T w a/\w∉va)(nd:va.Nodup)(hc:arS M T "copy"=2)(hd:arS M T "drop"=0)(h:Dk M T va 1 ws):(fl (nU M T va ws)).Perm (rim (va.length+1)++yD M T (nP M T va ws)):=by
 refine List.perm_iff_count.mpr λx=>?_
 have w:=T6 hx nd x ws 0 [(0,0)] (λ_=>[]) h;have s:=XR hc hd x (wr M T va 0 ws [(0,0)] (λ_=>[])).2.2 va (wr M T va 0 ws [(0,0)] (λ_=>[])).1.length 1;have e0:(va.flatMap λ_=>([]:aa En))=[]:=by
  clear hx nd h w s;induction va with
  |nil=>rfl
  |cons y va ih=>rw[i6,ih];rfl
 rw[e0] at w;have er:rim (va.length+1)=(0,0)::aM1 1 va.length:=by
  have:=QH 0 va.length;rw[<-show rim (va.length+1)=aM1 0 (va.length+1) by
   unfold rim aM1;refine mz λi _=>?_
   show((0:ag),(0:ag)+(i:ag))=(0,((0+i:af):ag));rw[ia,vk]] at this
  exact this
 unfold nU nP;rw[aDe,XN,er];simp only[i7,iv,nj] at w s ⊢;lia
theorem GK(n:af):∀L:aa Str,ο n (L.map δ)=ae
 |[]=>by rw[io,ο]
 |x::L=>by rw[bd,ο,GK n L];cases n<;>rfl
theorem aM2(w:Str)(L:aa Str):inX (.str w) (.lst (L.map δ))=.ok (.bl (ϒ (w∈L))):=by
 show(if (δ w).fP aY&&ο aY (L.map δ) then ι (υ ((L.map δ).any λy=>eqD y (.str w))) else .bad)=_;rw[GK,show(δ w).fP aY=ae from rfl,jk,al rfl]
 congr 2
 rw[List.any_map];by_cases z:w∈L
 ·rw[bh z,A5];exact⟨w,z,dy w⟩
 ·rw[cw z,Ax];intro x hx y;exact z (eq_of_beq (show(x==w)=ae from y)▸hx)
def nms(P:aa Pi):aa (ag×D):=d_ [] (P.map λp=>(p.1,δ p.2))
theorem aDg(P:aa Pi)(hP:P.length<=1000):zM (.tup (P.map piD))=.ok (.dct (dD ε (nms P))):=by
 have e:nW (P.map piD)=ab (dD ε (P.map λp=>(p.1,δ p.2))):=J4 (λp:Pi=>(p.1,δ p.2)) ε (λ_=>rfl) (λ_=>rfl) P;show(match nW (P.map piD) with|some ps=>(if ϒ ((P.map piD).length<=1000) then ι (ψ (i_ [] ps)) else .bad)|none=>.bad)=_;rw[e];show(if ϒ ((P.map piD).length<=1000) then ι (ψ (i_ [] (dD ε (P.map λp=>(p.1,δ p.2))))) else .bad)=_;rw[aw,bh hP,al rfl];exact cy (λx=>ι (ψ x)) (x_ u9 _ [])
theorem aGf(P:aa Pi)(h:P.Pairwise λa b=>a.1<b.1)(hp:p∈P):bL (nms P) p.1=ab (.str p.2):=by
 refine uC _ _ _ _ ?_ (bE.mpr ⟨p,hp,rfl⟩);rw[cu];unfold ni;rw[kf];exact h.imp λ{a b} h z=>by
  have z:a.1=b.1:=z;lia
noncomputable def sn(k:af):aa (ag×D):=(bm k).map λ(i:af)=>((i:ag)+1,υ ae)
theorem aDh(k:af):((k:ag)+1)∉(sn k).map (·.1):=λh=>by
 rw[sn,cu] at h;obtain⟨i,hi,e⟩:=bE.mp h;have:=fx.mp hi;have e:(i:ag)+1=(k:ag)+1:=e;lia
theorem aI3(k:af):mK (sn k) ((k:ag)+1) (.bl ae)=sn (k+1):=by
 rw[vC _ _ _ (aDh k),sn,sn,mB,b6];rfl
theorem aDi(h:Wx M T w a)(n:ag):((bm (a+1)).filter λ(k:af)=>!(((0:ag)+(k:ag))==gv T w)).map (λ(k:af)=>(n,(0:ag)+(k:ag)))=hk T n w a:=by
 have h1:=h.len;have h2:=h.tk;unfold gv hk;by_cases z:w∈tn T
 ·rw[al z,al z]
  match a,h1,h2 z with
  |1,_,_=>rfl
  |2,_,_=>rfl
  |3,_,_=>rfl
 ·rw[au z,au z]
  match a,h1 with
  |0,_=>rfl
  |1,_=>rfl
  |2,_=>rfl
  |3,_=>rfl
theorem aQe(h:f ρ=.ok (.ct ρ')):bN f g ρ=.ok (.ct ρ'):=by
 unfold bN;rw[h];rfl
def kvp(va:aa Str)(pl:Str->aa En):aa (Str×D):=va.map λx=>(x,.scr ((pl x).map enD))
theorem aGg(pl:Str->aa En)(h:w∉va):bL (kvp va pl) w=ai:=gW _ _ (by unfold kvp;rw[cu];exact λz=>h (by simpa using z))
theorem yF(pl:Str->aa En):∀{va:aa Str},w∈va->bL (kvp va pl) w=ab (.scr ((pl w).map enD))
 |[],h=>by cases h
 |x::va,h=>by
  show bL ((x,.scr ((pl x).map enD))::kvp va pl) w=_;rw[bL];by_cases z:x=w
  ·rw[al z,z]
  ·rw[au z,yF pl ((bu.mp h).resolve_left λq=>z q.symm)]
theorem aDj(pl:Str->aa En)(e:En):∀{va:aa Str},va.Nodup->w∈va->mK (kvp va pl) w (.scr ((pl w++[e]).map enD))=kvp va (plA pl w e)
 |[],_,h=>by cases h
 |x::va,nd,h=>by
  rw[c_] at nd;show mK ((x,.scr ((pl x).map enD))::kvp va pl) w _=(x,.scr ((plA pl w e x).map enD))::kvp va (plA pl w e);rw[mK];by_cases z:x=w
  ·subst z;rw[al rfl,show plA pl x e x=pl x++[e] by simp[plA]]
   congr 1
   unfold kvp;refine mz λy hy=>?_
   rw[show plA pl x e y=pl y by simp[plA,show y≠x from λq=>nd.1 (q▸hy)]]
  ·rw[au z,aDj pl e nd.2 ((bu.mp h).resolve_left λq=>z q.symm),show plA pl w e x=pl x by simp[plA,z]]
def lw(nt pg:D)(wa va:aa Str)(M:aa Mk)(T:aa Tk)(L:aa (En×D))(N:aa (ag×D))(pl:Str->aa En)(W:aa En)(k:af)(x9 x12 x13 x14:D):aa D:=[nt,.tup (wa.map δ),.tup (va.map δ),pg,.dct (dD δ (stk M T)),.dct (dD enD L),.lst ((tn T).map δ),.dct (dD ε N),.dct (dD δ (kvp va pl)),x9,.lst (W.map enD),.dct (dD ε (sn k)),x12,x13,x14,.uD]
theorem aQf{k a:af}(wn:w∉va)(hw:Wx M T w a)(hL:bL L e=ab (enD ((k:ag)+1,gv T w)))(hN:bL N ((k:ag)+1)=ab (.str w))(hk9:k<=1000)(hW:W.length<=3000) :
  wbd (lw nt pg wa va M T L N pl (e::W) k x9 (.str w) x13 x14)=.ok (.nx (lw nt pg wa va M T L N pl (hk T ((k:ag)+1) w a++W) (k+1) x9 (.str w) (enD e) (enD ((k:ag)+1,gv T w)))):=by
 have ha:=hw.len;have hs:=aDh k;have hp:=aI3 k;have hl:=xH hw ((k:ag)+1);have hf:=aDi hw ((k:ag)+1);have sl:(sn k).length=k:=by simp[sn]
 generalize hn:(k:ag)+1=n at *;have hn0:n≠0:=by lia
 have h1:R3 10 13 bQ (lw nt pg wa va M T L N pl (e::W) k x9 (.str w) x13 x14)=.ok (.nx (lw nt pg wa va M T L N pl W k x9 (.str w) (enD e) x14)):=rfl;have nin:inX (.str w) (.dct (dD δ (kvp va pl)))=.ok (.bl ah):=(xG cU _ w).trans (by rw[aGg pl wn];rfl);refine aM h1 (aM (oK (dG (aJ rfl rfl nin)) rfl) ?_);refine aM (eZ (aJ rfl rfl (mO lD hL)) (eN _)) ?_;have g0:∀W:aa En,b2 getD mX bQ (lw nt pg wa va M T L N pl W k x9 (.str w) (enD e) (enD (n,gv T w)))=.ok (.int n):=λW=>aJ rfl rfl rfl
 have g1:b2 getD mX cF (lw nt pg wa va M T L N pl W k x9 (.str w) (enD e) (enD (n,gv T w)))=.ok (.int (gv T w)):=aJ rfl rfl rfl;have c1:cT .eq (.int n) (.int 0)=.ok (.bl ah):=(eq_int _ _).trans (by rw[fI.mpr hn0]);have c2:inX (.int n) (.dct (dD ε (sn k)))=.ok (.bl ah):=(xG u9 (sn k) n).trans (by rw[gW _ _ hs];rfl);have c3:cT .ne (.str w) (.str w)=.ok (.bl ah):=by
  show ι (υ (!(w==w)))=_;rw[dy];rfl
 have gi:aQs [.bl (ϒ (w∈tn T))]=.ok (.int (gv T w)):=by
  show ι (ε (if ϒ (w∈tn T)=ae then 1 else 0))=_;unfold gv;by_cases z:w∈tn T
  ·rw[al z,bh z,al rfl]
  ·rw[au z,cw z,au 0x2]
 have c4:cT .ne (.int (gv T w)) (.int (gv T w))=.ok (.bl ah):=(ne_int _ _).trans (by rw[dy];rfl);refine aM (oK (xX (dG (aJ (g0 _) rfl c1)) (xX (dG (aJ (g0 _) rfl c2)) (xX (dG (aJ (aJ rfl (g0 _) (mO u9 hN)) rfl c3)) (dG (aJ g1 (aU (aD (aJ rfl rfl (aM2 w (tn T))) rfl) gi) c4))))) rfl) ?_;have p:=lZ (i:=11) (ρ:=lw nt pg wa va M T L N pl W k x9 (.str w) (enD e) (enD (n,gv T w))) (f:=b2 getD mX bQ) (g:=bC (.bl ae)) (kvs:=dD ε (sn k)) (k:=.int n) (d:=.bl ae) rfl (g0 _) rfl (by rw[jC,sl,bR];lia) (jB u9 (sn k) n) rfl;rw[jA u9,hp] at p;refine aM (ρ':=lw nt pg wa va M T L N pl W (k+1) x9 (.str w) (enD e) (enD (n,gv T w))) p ?_;have a1:=cZ (a:af) 1;have cf:fK (iI 16 jL (bTB (b2 (cT .ne) BP (b2 getD mX cF))) (cM (aC (b2 getD mX bQ) (aC BP aO))) ah (lw nt pg wa va M T L N pl W (k+1) x9 (.str w) (enD e) (enD (n,gv T w)))) [] ((bm (((a:af):ag)+1).toNat).map λ(j:af)=>ε (0+(j:ag)))=.ok ((hk T n w a).map enD):=by
  rw[dU _ (λ(j:af)=>ε (0+(j:ag))) (λ(j:af)=>!(((0:ag)+(j:ag))==gv T w)) (λ(j:af)=>enD (n,0+(j:ag)))]
  ·rw[c6,show(((a:af):ag)+1).toNat=a+1 by lia,<-hf,cu];rfl
  ·intro acc j;exact d8 (n:=16) (t:=jL) (k:=ah) (acc:=acc) (x:=.int (0+(j:ag))) (ρ:=lw nt pg wa va M T L N pl W (k+1) x9 (.str w) (enD e) (enD (n,gv T w))) (b:=!(((0:ag)+(j:ag))==gv T w)) (bs:=[.int (0+(j:ag))]) (y:=enD (n,0+(j:ag))) rfl rfl (dG (aJ (x:=.int (0+(j:ag))) (y:=.int (gv T w)) rfl (aJ (x:=enD (n,gv T w)) (y:=.int 1) rfl rfl rfl) (ne_int _ _))) λ_=>⟨bK (xs:=[.int n,.int (0+(j:ag))]) (aD (aJ (x:=enD (n,gv T w)) (y:=.int 0) rfl rfl rfl) 0xf) iU,rfl⟩
 have ad:=nA ((hk T n w a).map enD) (W.map enD) (by rw[aw,aw,hl,bR];lia) (aP eN _) (aP eN _);rw[<-b6] at ad;exact dX (i:=10) (aJ (x:=.lst ((hk T n w a).map enD)) (y:=.lst (W.map enD)) (fC (wK (n:=(a:af)+1) (aD (aJ (x:=.int (a:af)) (y:=.int 1) (aJ (x:=.dct (dD δ (stk M T))) (y:=.str w) rfl rfl (mO cU hw.stk)) rfl a1) rfl) 0x1 0x1) (by rw[aw,eg,bR];lia) cf) rfl ad) (aP eN _)
theorem aQg(nd:va.Nodup)(wn:w∈va)(hl:(pl w).length<=100)(hv:va.length<=5) :
  wbd (lw nt pg wa va M T L N pl (e::W) k x9 (.str w) x13 x14)=.ok (.ct (lw nt pg wa va M T L N (plA pl w e) W k x9 (.str w) (enD e) x14)):=by
 have h1:R3 10 13 bQ (lw nt pg wa va M T L N pl (e::W) k x9 (.str w) x13 x14)=.ok (.nx (lw nt pg wa va M T L N pl W k x9 (.str w) (enD e) x14)):=rfl;have yin:inX (.str w) (.dct (dD δ (kvp va pl)))=.ok (.bl ae):=(xG cU _ w).trans (by rw[yF pl wn];rfl);have ad:aKo (.scr ((pl w).map enD)) (.lst [enD e])=.ok (.lst ((pl w++[e]).map enD)):=by
  show(if ϒ (((pl w).map enD).length+1<=lim)&&θ ((pl w).map enD)&&θ [enD e] then ι (π ((pl w).map enD++[enD e])) else .bad)=_;rw[aP eN,aw,bh (show(pl w).length+1<=lim by rw[bR];lia),b6];rfl
 have fz:bFz (b2 aKo (b2 getD BK mW) (oN (aC uN aO))) (lw nt pg wa va M T L N pl W k x9 (.str w) (enD e) x14)=.ok (.scr ((pl w++[e]).map enD)):=by
  have q:b2 aKo (b2 getD BK mW) (oN (aC uN aO)) (lw nt pg wa va M T L N pl W k x9 (.str w) (enD e) x14)=.ok (.lst ((pl w++[e]).map enD)):=aJ (aJ rfl rfl (mO cU (yF pl wn))) (nG (xs:=[enD e]) 0xf (cX (dm rfl)) rfl) ad;unfold bFz;rw[q,τ];show(if θ ((pl w++[e]).map enD) then ι (D.scr ((pl w++[e]).map enD)) else .bad)=_;rw[aP eN];rfl
 have p:=lZ (i:=8) (ρ:=lw nt pg wa va M T L N pl W k x9 (.str w) (enD e) x14) (f:=gM 12) (g:=bFz (b2 aKo (b2 getD BK mW) (oN (aC uN aO)))) (kvs:=dD δ (kvp va pl)) (k:=.str w) (d:=.scr ((pl w++[e]).map enD)) fz rfl rfl (by rw[jC,show(kvp va pl).length=va.length by unfold kvp;rw[aw],bR];lia) (jB cU _ w) (by show θ ((pl w++[e]).map enD)=ae;rw[aP eN]);rw[jA cU,aDj pl e nd wn] at p;refine aM h1 (aQe (V4 (dG (aJ rfl rfl yin)) (aM p rfl)))
theorem aM3(h1:t x ρ=.ok ρ1)(h2:body ρ1=.ok (.ct ρ2))(h3:n8 t body xs ρ2=r):n8 t body (x::xs) ρ=r:=by
 rw[n8,h1,τ,h2,τ];exact h3
theorem aDk(hx:∀w a,Wd M T w a->Wx M T w a/\w∉va)(nd:va.Nodup)(hv:va.length<=5):∀(ws:aa Str)(k:af)(W:aa En)(pl:Str->aa En)(x12 x13 x14:D),Dk M T va W.length ws->(∀q∈(wr M T va k ws W pl).2.1,bL L q.2=ab (enD q.1))->(∀p∈(wr M T va k ws W pl).1,bL N p.1=ab (.str p.2))->(∀x,(pl x).length+ws.length<=100)->k+ws.length<=1000->W.length+3*ws.length<=3000->
  ∃(y12 y13 y14:D),n8 (tg1 12) wbd (ws.map δ) (lw nt pg wa va M T L N pl W k x9 x12 x13 x14)=.ok (.nx (lw nt pg wa va M T L N (wr M T va k ws W pl).2.2 [] (k+(wr M T va k ws W pl).1.length) x9 y12 y13 y14))
 |[],k,W,pl,x12,x13,x14,hd,_,_,_,_,_=>by
  cases W with
  |nil=>rw[wr];exact⟨x12,x13,x14,rfl⟩
  |cons e W=>cases hd
 |w::ws,k,[],pl,x12,x13,x14,hd,_,_,_,_,_=>by cases hd
 |w::ws,k,e::W,pl,x12,x13,x14,hd,h1,h2,h3,h4,h5=>by
  rw[aS] at h4 h5;rw[aS] at h5;cases hd with
  |@cons _ a _ _ wd d=>
   rw[wr] at h1 h2 ⊢;by_cases wn:w∈va
   ·rw[al wn] at h1 h2 ⊢;have d':Dk M T va W.length ws:=by
     rcases wd with wd|⟨_,rfl⟩
     ·exact ay wn (hx w a wd).2
     ·rw[ia] at d;exact d
    have hw:=h3 w;rw[aS] at hw;have st:=aQg (pl:=pl) (nt:=nt) (pg:=pg) (wa:=wa) (M:=M) (T:=T) (L:=L) (N:=N) (W:=W) (k:=k) (e:=e) (x9:=x9) (x13:=x13) (x14:=x14) nd wn 0x1 hv;obtain⟨y12,y13,y14,ih⟩:=aDk hx nd hv ws k W (plA pl w e) (.str w) (enD e) x14 d' h1 h2 (λx=>by
     have:=h3 x;rw[aS] at this;unfold plA;split
     ·rename_i q;rw[bg,<-q];show(pl x).length+1+_<=_;lia
     ·lia) 0x1 0x1
    exact⟨y12,y13,y14,aM3 (ρ1:=lw nt pg wa va M T L N pl (e::W) k x9 (.str w) x13 x14) rfl st ih⟩
   ·rw[au wn] at h1 h2 ⊢;obtain⟨wd',wx⟩:Wd M T w a/\Wx M T w a:=by
     rcases wd with wd|⟨z,_⟩
     ·exact⟨wd,(hx w a wd).1⟩
     ·exact ay z wn
    have ha:=wx.len;have hl:=xH wx ((k:ag)+1);rw[xK wx] at h1 h2 ⊢;have st:=aQf (nt:=nt) (pg:=pg) (wa:=wa) (pl:=pl) (W:=W) (x9:=x9) (x13:=x13) (x14:=x14) wn wx (h1 _ (bj ..)) (h2 _ (bj ..)) 0x1 0x1;obtain⟨y12,y13,y14,ih⟩:=aDk hx nd hv ws (k+1) (hk T ((k:ag)+1) w a++W) pl (.str w) (enD e) (enD ((k:ag)+1,gv T w)) (by rw[bg,hl];exact d) (λq hq=>h1 q (bp _ hq)) (λp hp=>h2 p (bp _ hp)) (λx=>by have:=h3 x;rw[aS] at this;lia) 0x1 (by rw[bg,hl];lia);refine⟨y12,y13,y14,?_⟩;rw[bd];refine cC (ρ1:=lw nt pg wa va M T L N pl (e::W) k x9 (.str w) x13 x14) rfl st ?_;rw[ih,aS,show k+1+(wr M T va (k+1) ws (hk T ((k:ag)+1) w a++W) pl).1.length=k+((wr M T va (k+1) ws (hk T ((k:ag)+1) w a++W) pl).1.length+1) by lia]
theorem aSv(a:Str):cT .ne (.str a) (.str a)=.ok (.bl ah):=by
 show ι (υ (!(a==a)))=_;rw[dy];rfl
theorem aSw(a:En):cT .ne (enD a) (enD a)=.ok (.bl ah):=by
 show ι (υ (!((a.1==a.1)&&((a.2==a.2)&&ae))))=_;rw[dy,dy];rfl
theorem aSx(a:En):cT .eq (enD a) (enD a)=.ok (.bl ae):=by
 show ι (υ ((a.1==a.1)&&((a.2==a.2)&&ae)))=_;rw[dy,dy];rfl
theorem aQh(h:a≠b):cT .eq (.int a) (.int b)=.ok (.bl ah):=(eq_int _ _).trans (by rw[fI.mpr h])
theorem aSy(h:f ρ=.ok (.int a))(h2:g ρ=.ok (.int b)):cM (aC f (aC g aO)) ρ=.ok (enD (a,b)):=bK (aD h (aD h2 rfl)) iU
def ls(L:aa (En×D))(N:aa (ag×D))(a m:af)(g:En)(X:aa En)(x5 x6:D):aa D:=[.dct (dD enD L),.dct (dD ε N),.dcl a (dD ε (sn m)),enD g,.scr (X.map enD),x5,x6]
theorem aM4(h1:g ρ=.ok d)(h2:f ρ=.ok k)(h3:ρ.getD i .uD=.dcl a kvs)(hl:kvs.length<lim)(hf:GZ kvs k=ae)(hp:d.pure=ae):Y4 i f g ρ=.ok (.nx (ρ.set i (.dcl a (putD kvs k d)))):=by
 unfold Y4;rw[h1,τ,h2,τ,h3];dsimp only;rw[al (by rw[bh hl,hf,hp];rfl)]
theorem aQi{m:af}(nm:Str)(hN:bL N ((m:ag)+1)=ab (.str nm)) :
  bOr (bTB (b2 (cT .eq) (b2 getD dZ bQ) bQ)) (bOr (bTB (b2 inX (b2 getD dZ bQ) (bDc 2))) (bOr (bTB (b2 (cT .ne) (b2 getD dZ cF) bQ)) (bTB (b2 (cT .ne) (b2 getD fG (b2 getD dZ bQ)) (bC (.str nm)))))) (ls L N a m g X (enD ((m:ag)+1,0)) x6)=.ok ah:=by
 have hs:=aDh m;have g5:b2 getD dZ bQ (ls L N a m g X (enD ((m:ag)+1,0)) x6)=.ok (.int ((m:ag)+1)):=aJ rfl rfl rfl;have c2:inX (.int ((m:ag)+1)) (.dct (dD ε (sn m)))=.ok (.bl ah):=(xG u9 (sn m) _).trans (by rw[gW _ _ hs];rfl);exact xX (dG (aJ g5 rfl (aQh 0x1))) (xX (dG (aJ g5 rfl c2)) (xX (dG (aJ rfl rfl rfl)) (dG (aJ (aJ rfl g5 (mO u9 hN)) rfl (aSv _)))))
theorem aI4(hm:m<=1000):Y4 2 (b2 getD dZ bQ) (bC (.bl ae)) (ls L N a m g X (enD ((m:ag)+1,0)) x6)=.ok (.nx (ls L N a (m+1) g X (enD ((m:ag)+1,0)) x6)):=by
 have sl:(sn m).length=m:=by simp[sn]
 have p:=aM4 (i:=2) (ρ:=ls L N a m g X (enD ((m:ag)+1,0)) x6) (f:=b2 getD dZ bQ) (g:=bC (.bl ae)) (kvs:=dD ε (sn m)) (k:=.int ((m:ag)+1)) (d:=.bl ae) (a:=a) rfl (aJ rfl rfl rfl) rfl (by rw[jC,sl,bR];lia) (jB u9 (sn m) _) rfl;rw[jA u9,aI3] at p;exact p
theorem aM5{m:af}(hm:m<=1000)(h1:bL L g=ab (enD ((m:ag)+1,0)))(h2:bL L ((m:ag)+1,1)=ab (enD e))(hN:bL N ((m:ag)+1)=ab (.str "copy")) :
  svb (ls L N a m g X x5 (enD e))=.ok (.nx (ls L N a (m+1) ((m:ag)+1,2) X (enD ((m:ag)+1,0)) (enD e))):=by
 refine aM (eZ (aJ rfl rfl (mO lD h1)) rfl) ?_;refine aM (oK (aQi "copy" hN) rfl) ?_;refine aM (oK (dG (aJ (aJ rfl (aSy (aJ rfl rfl rfl) rfl) (mO lD h2)) rfl (aSw e))) rfl) ?_;refine aM (aI4 hm) ?_;exact eZ (aSy (aJ rfl rfl rfl) rfl) rfl
theorem aDl:∀(Y:aa En)(m:af)(g:En)(x5 x6:D),(∀t∈(lp m Y g).2.1,bL L t.1=ab (enD t.2)/\bL L t.2=ab (enD t.1))->(∀p∈(lp m Y g).1,bL N p.1=ab (.str p.2))->m+Y.length<=1000->
  ∃y5 y6:D,n8 (tg1 6) svb (Y.map enD) (ls L N a m g X x5 x6)=.ok (.nx (ls L N a (m+Y.length) (lp m Y g).2.2 X y5 y6))
 |[],m,g,x5,x6,_,_,_=>⟨x5,x6,rfl⟩
 |e::Y,m,g,x5,x6,h1,h2,h3=>by
  rw[lp] at h1 h2;rw[aS] at h3 ⊢;obtain⟨_,q1⟩:=h1 (((m:ag)+1,0),g) (bj ..);obtain⟨q2,_⟩:=h1 (((m:ag)+1,1),e) (bp _ (bj ..));obtain⟨y5,y6,i⟩:=aDl Y (m+1) ((m:ag)+1,2) (enD ((m:ag)+1,0)) (enD e) (λt ht=>h1 t (bp _ (bp _ ht))) (λp hp=>h2 p (bp _ hp)) 0x1;refine⟨y5,y6,?_⟩;rw[lp,show m+(Y.length+1)=m+1+Y.length by lia];exact cC rfl (aM5 0x1 q1 q2 (h2 ((m:ag)+1,"copy") (bj ..))) i
theorem callC(h:f (ds++bq (m-n) .uD)=.ok (.rt (.tup (d::ρ)))):fnC j n m f ds=.ok (.tup [d,ρ.getD j .uD]):=by
 unfold fnC;rw[h];rfl
theorem aDm(m:af)(X:aa En)(g:En)(h1:∀t∈(sr m X g).2,bL L t.1=ab (enD t.2)/\bL L t.2=ab (enD t.1))(h2:∀p∈(sr m X g).1,bL N p.1=ab (.str p.2))(hl:m+X.length<=900)(a:af) :
  gY [.dct (dD enD L),.dct (dD ε N),.dcl a (dD ε (sn m)),enD g,.scr (X.map enD)]=.ok (.tup [.bl ae,.dcl a (dD ε (sn (m+(sr m X g).1.length)))]):=by
 have ln:aN eQ (aC jT aO) (ls L N a m g X .uD .uD)=.ok (.int (X.length:af)):=aU 0xf (by show ι (ε ((X.map enD).length:af))=_;rw[aw]);cases X with
 |nil=>
  obtain⟨_,q1⟩:=h1 (((m:ag)+1,0),g) (bj ..);have hN:=h2 ((m:ag)+1,"drop") (bj ..);refine callC (ρ:=ls L N a (m+1) g [] (enD ((m:ag)+1,0)) .uD) (d:=.bl ae) ?_;refine aCi (V4 (dG (aJ ln rfl rfl)) ?_);refine aM (ρ':=ls L N a m g [] (enD ((m:ag)+1,0)) .uD) (eZ (i:=5) (aJ rfl rfl (mO lD q1)) rfl) ?_;refine aM (oK (aQi "drop" hN) rfl) ?_;exact aM (aI4 0x1) rfl
 |cons e X=>
  have eS:sr m (e::X) g=((lp m (cutD (e::X) ai (ab (-1))) g).1,(lp m (cutD (e::X) ai (ab (-1))) g).2.1++[((lp m (cutD (e::X) ai (ab (-1))) g).2.2,(e::X).getLastD (0,0))]):=rfl;rw[eS,J8] at h1 h2 ⊢;have dl:(e::X).dropLast.length=X.length:=by rw[AZ];rfl
  rw[aS] at hl;obtain⟨y5,y6,lp_⟩:=aDl (L:=L) (N:=N) (a:=a) (X:=e::X) (e::X).dropLast m g .uD .uD (λt ht=>h1 t (i8 _ ht)) h2 (by rw[dl];lia);obtain⟨q1,_⟩:=h1 ((lp m (e::X).dropLast g).2.2,(e::X).getLastD (0,0)) (eu _ (eL.mpr rfl));have pl1:(lp m (e::X).dropLast g).1.length=(e::X).dropLast.length:=(W8 _ _ _).1;refine callC (ρ:=ls L N a (m+(e::X).dropLast.length) (lp m (e::X).dropLast g).2.2 (e::X) y5 y6) (d:=.bl ae) ?_ |>.trans (by rw[pl1];rfl)
  have ne0:cT .eq (.int ((e::X).length:af)) (.int 0)=.ok (.bl ah):=aQh (by rw[aS];lia);refine aM (oK (dG (aJ ln rfl ne0)) rfl) ?_;have sl:V3 jT jJ (jH (b1 aAt cF)) (ls L N a m g (e::X) .uD .uD)=.ok (.lst ((e::X).dropLast.map enD)):=by
   show(if θ ((e::X).map enD) then ι (π (cutD ((e::X).map enD) ai (ab (-1)))) else .bad)=_;rw[aP eN,al rfl,xY,J8]
  have it:bW (V3 jT jJ (jH (b1 aAt cF))) ae (ls L N a m g (e::X) .uD .uD)=.ok ((e::X).dropLast.map enD,ae):=by
   unfold bW;rw[sl];rfl
  refine aM (nT it lp_) ?_;have gl:getD (.scr ((e::X).map enD)) (.int (-1))=.ok (enD ((e::X).getLastD (0,0))):=by
   show ν ((ixD ((e::X).map enD).length (-1)).bind λj=>((e::X).map enD)[j]?)=_;have ix:ixD ((e::X).map enD).length (-1)=ab X.length:=by
    rw[aw,aS];unfold ixD;rw[au 0x1,al 0x1]
    congr 1
    lia
   rw[ix,ow,gs,zI,Da];rw[aS,Nat.add_sub_cancel,d5 (show X.length<(e::X).length by simp)];rfl
  exact J6 (d:=.bl ae) (aJ (x:=enD ((e::X).getLastD (0,0))) (y:=enD ((e::X).getLastD (0,0))) (aJ rfl rfl (mO lD q1)) (aJ (x:=.scr ((e::X).map enD)) (y:=.int (-1)) rfl rfl gl) (aSx _)) rfl
def lv(nt pg:D)(wa va:aa Str)(M:aa Mk)(T:aa Tk)(L:aa (En×D))(N:aa (ag×D))(pl:Str->aa En)(k:af)(x9 x10 x12 x13 x14 x15:D):aa D:=[nt,.tup (wa.map δ),.tup (va.map δ),pg,.dct (dD δ (stk M T)),.dct (dD enD L),.lst ((tn T).map δ),.dct (dD ε N),.dct (dD δ (kvp va pl)),x9,x10,.dct (dD ε (sn k)),x12,x13,x14,x15]
theorem aGh(m:af):θ ((dD ε (sn m)).map (·.2))=ae:=by
 have e:(dD ε (sn m)).map (·.2)=(bm m).map λ_=>υ ae:=by
  unfold dD sn;rw[cu,cu];rfl
 rw[e];exact aP (λ_=>rfl) _
theorem aGi(h1:fs ρ=.ok ds)(h2:ρ.getD i .uD=.dct kvs)(h3:ds.length=n)(h4:j<n)(h5:isU (ds.getD j .non)=ae)(h6:∀b,f (ds.set j (.dcl b kvs))=.ok (.tup [.bl ae,.dcl b kvs']))(h7:θ (kvs'.map (·.2))=ae):NP f n j i fs ρ=.ok (.bl ae,ρ.set i (.dct kvs')):=by
 unfold NP;rw[h1,τ,h2];dsimp only;rw[al (by rw[bh h3,bh h4,h5];rfl),aP2 h6,τ,al (by rw[h7];rfl)]
theorem aM6{q m:af}(hx:x∈va)(h1:∀t∈(sr m (pl x) (0,(q:ag)+1)).2,bL L t.1=ab (enD t.2)/\bL L t.2=ab (enD t.1))(h2:∀p∈(sr m (pl x) (0,(q:ag)+1)).1,bL N p.1=ab (.str p.2))(hl:m+(pl x).length<=900) :
  ebd (lv nt pg wa va M T L N pl m (.str x) x10 x12 x13 x14 (.int (q:af)))=.ok (.nx (lv nt pg wa va M T L N pl (m+(sr m (pl x) (0,(q:ag)+1)).1.length) (.str x) x10 x12 x13 x14 (.int (q:af)))):=by
 have a1:=cZ (q:af) 1;have fs:aC dZ (aC jF (aC (bUo 11) (aC (bPu (cM (aC bQ (aC (b2 (bI .add) BL cF) aO)))) (aC (bPu (b2 getD BK BJ)) aO)))) (lv nt pg wa va M T L N pl m (.str x) x10 x12 x13 x14 (.int (q:af)))=.ok [.dct (dD enD L),.dct (dD ε N),.uD,enD (0,(q:ag)+1),.scr ((pl x).map enD)]:=
  aD rfl (aD rfl (aD rfl (aD (aG7 (aSy rfl (aJ rfl rfl a1)) rfl) (aD (aG7 (aJ rfl rfl (mO cU (yF pl hx))) (by show θ ((pl x).map enD)=ae;rw[aP eN])) rfl))))
 have c:=aGi (n:=5) (j:=2) (i:=11) fs rfl rfl 0x4 rfl (λb=>aDm m (pl x) (0,(q:ag)+1) h1 h2 hl b) (aGh _);show(do let p <- aFl (NP gY 5 2 11 _) _;if p.1 then _ else _)=_;unfold aFl;rw[c];rfl
theorem aDn(hl:∀x,(pl x).length<=40):∀(vb:aa Str)(q m:af)(x9 x15:D),(∀x∈vb,x∈va)->(∀t∈(srs m (q+1) vb pl).2,bL L t.1=ab (enD t.2)/\bL L t.2=ab (enD t.1))->(∀p∈(srs m (q+1) vb pl).1,bL N p.1=ab (.str p.2))->m+41*vb.length<=800->
  ∃y9 y15:D,n8 (tgN [15,9]) ebd (uX q (vb.map δ)) (lv nt pg wa va M T L N pl m x9 x10 x12 x13 x14 x15)=.ok (.nx (lv nt pg wa va M T L N pl (m+(srs m (q+1) vb pl).1.length) y9 x10 x12 x13 x14 y15))
 |[],q,m,x9,x15,_,_,_,_=>⟨x9,x15,rfl⟩
 |x::vb,q,m,x9,x15,hv,h1,h2,h3=>by
  rw[aS] at h3;rw[srs] at h1 h2 ⊢;have:=hl x;have s1:=(aD5 m (pl x) (0,(q:ag)+1)).1;have st:=aM6 (nt:=nt) (pg:=pg) (wa:=wa) (M:=M) (T:=T) (x10:=x10) (x12:=x12) (x13:=x13) (x14:=x14) (q:=q) (m:=m) (hv x (bj ..)) (λt ht=>h1 t (i8 _ ht)) (λp hp=>h2 p (i8 _ hp)) 0x1;obtain⟨y9,y15,i⟩:=aDn (nt:=nt) (pg:=pg) (wa:=wa) (M:=M) (T:=T) (x10:=x10) (x12:=x12) (x13:=x13) (x14:=x14) hl vb (q+1) (m+(sr m (pl x) (0,(q:ag)+1)).1.length) (.str x) (.int (q:af)) (λy hy=>hv y (bp _ hy)) (λt ht=>h1 t (eu _ ht)) (λp hp=>h2 p (eu _ hp)) 0x1;refine⟨y9,y15,?_⟩;rw[bd,bg];refine cC (ρ1:=lv nt pg wa va M T L N pl m (.str x) x10 x12 x13 x14 (.int (q:af))) rfl st ?_;rw[i,zu];rfl
theorem aGj(pl:Str->aa En)(vb:aa Str)(x:Str)(h:x∉vb):mK (kvp vb pl) x (.scr ((pl x).map enD))=kvp (vb++[x]) pl:=by
 rw[vC _ _ _ (by unfold kvp;rw[cu];exact λz=>h (by simpa using z))];unfold kvp;rw[b6];rfl
theorem aI5(hz:vz.length<=5):∀(vc vb:aa Str)(x9:D),vb++vc=vz->vz.Nodup->∃y9:D,n8 (tg1 9) (yV 8 BJ (bFz (BR aO))) (vc.map δ) (q0::q1::q2::q3::q4::q5::q6::q7::.dct (dD δ (kvp vb λ_=>[]))::x9::R)=.ok (.nx (q0::q1::q2::q3::q4::q5::q6::q7::.dct (dD δ (kvp vz λ_=>[]))::y9::R))
 |[],vb,x9,h,_=>⟨x9,by rw[dq] at h;rw[h];rfl⟩
 |x::vc,vb,x9,h,nd=>by
  obtain⟨y9,i⟩:=aI5 hz vc (vb++[x]) (.str x) (by rw[<-h,dt];rfl) nd;have nx:x∉vb:=λz=>by
   rw[<-h] at nd;exact(jp.mp nd).2.2 x z x (bj ..) rfl
  have lb:vb.length<=5:=by
   rw[<-h,bg] at hz;lia
  have p:=lZ (i:=8) (ρ:=q0::q1::q2::q3::q4::q5::q6::q7::.dct (dD δ (kvp vb λ_=>[]))::.str x::R) (f:=gM 9) (g:=bFz (BR aO)) (kvs:=dD δ (kvp vb λ_=>[])) (k:=.str x) (d:=.scr []) rfl rfl rfl (by rw[jC,show(kvp vb λ_=>[]).length=vb.length by unfold kvp;rw[aw],bR];lia) (jB cU _ x) rfl;rw[jA cU,show D.scr []=.scr ((((λ_=>[]):Str->aa En) x).map enD) from rfl,aGj _ vb x nx] at p;exact⟨y9,cC (ρ1:=q0::q1::q2::q3::q4::q5::q6::q7::.dct (dD δ (kvp vb λ_=>[]))::.str x::R) rfl p i⟩
theorem J9(hx:∀w a,Wd M T w a->Wx M T w a/\w∉va):∀(ws:aa Str)(k:af)(W:aa En)(pl:Str->aa En),Dk M T va W.length ws->∀p∈(wr M T va k ws W pl).1,∃a,Wd M T p.2 a
 |[],k,W,pl,_,p,hp=>by rw[wr] at hp;cases hp
 |w::ws,k,[],pl,h,_,_=>by cases h
 |w::ws,k,e::W,pl,h,p,hp=>by
  cases h with
  |@cons _ a _ _ wd d=>
   rw[wr] at hp;by_cases wn:w∈va
   ·rw[al wn] at hp;have d':Dk M T va W.length ws:=by
     rcases wd with wd|⟨_,rfl⟩
     ·exact ay wn (hx w a wd).2
     ·rw[ia] at d;exact d
    exact J9 hx ws k W (plA pl w e) d' p hp
   ·rw[au wn] at hp;obtain⟨wd',wx⟩:Wd M T w a/\Wx M T w a:=by
     rcases wd with wd|⟨z,_⟩
     ·exact⟨wd,(hx w a wd).1⟩
     ·exact ay z wn
    dsimp only at hp;rw[xK wx] at hp;rcases bu.mp hp with rfl|hp
    ·exact⟨a,wd'⟩
    ·exact J9 hx ws (k+1) _ pl (by rw[bg,xH wx];exact d) p hp
theorem XS:∀(Y:aa En)(k:af)(g:En),∀p∈(lp k Y g).1,p.2="copy"
 |[],_,_,_,h=>by cases h
 |e::Y,k,g,p,h=>by
  rw[lp] at h;rcases bu.mp h with rfl|h
  ·rfl
  ·exact XS Y (k+1) _ p h
theorem QJ(pl:Str->aa En):∀(va:aa Str)(n k:af),∀p∈(srs n k va pl).1,p.2="copy"\/p.2="drop"
 |[],_,_,_,h=>by cases h
 |y::va,n,k,p,h=>by
  rw[srs] at h;rcases dQ.mp h with h|h
  ·unfold sr at h;split at h
   ·rw[eL.mp h];exact .inr rfl
   ·exact .inl (XS _ _ _ p h)
  ·exact QJ pl va _ (k+1) p h
theorem aDo(x:Str)(h1:x∉M.map (·.1))(h2:x∉T.map (·.1))(hx:bL [(("copy" : Str),ε 2),("drop",.int 0)] x=ab (.int (a:af))):arS M T x=a/\bL (stk M T) x=ab (.int (a:af)):=by
 have e:bL (stk M T) x=ab (.int (a:af)):=by
  unfold stk;rw[nJ _ _ _ (by unfold psT;rw[cu];exact h2),nJ _ _ _ (by unfold psM;rw[cu];exact h1)];exact hx
 refine⟨?_,e⟩;unfold arS;rw[e];show((a:af):ag).toNat=a;lia
theorem aQj{U V:aa Ti}(hV:V.Perm (U.map norm))(nd:(fl U).Nodup):(fl V).Perm (fl U)/\(fl V).Nodup/\(∀t∈V,ltP t.1 t.2)/\∀t∈U,bL (mtl V) t.1=ab (enD t.2)/\bL (mtl V) t.2=ab (enD t.1):=by
 obtain⟨f1,f2⟩:=XM nd;have p:(fl V).Perm (fl U):=(aLx hV).trans f1;have ndV:(fl V).Nodup:=p.nodup_iff.mpr nd;refine⟨p,ndV,λt ht=>f2 t (hV.mem_iff.mp ht),λt ht=>?_⟩;have hk:((mtl V).map (·.1)).Nodup:=by rw[yE];exact ndV
 have hn:norm t∈V:=hV.mem_iff.mpr (bE.mpr ⟨t,ht,rfl⟩);have hm:∀q∈[((norm t).1,enD (norm t).2),((norm t).2,enD (norm t).1)],q∈mtl V:=λq hq=>zS.mpr ⟨norm t,hn,hq⟩
 have hne:t.1≠t.2:=λz=>by
  obtain⟨A,B,e⟩:=List.append_of_mem ht;rw[e] at nd;unfold fl at nd;rw[Aa,i6] at nd;have:=(jp.mp nd).2.1;have:=(jp.mp this).1;rw[z] at this;simp at this
 obtain⟨_,e|e⟩:=TJ hne
 ·rw[e] at hm;exact⟨oY _ _ _ hk (hm _ 0x2),oY _ _ _ hk (hm _ 0x2)⟩
 ·rw[e] at hm;exact⟨oY _ _ _ hk (hm _ 0x2),oY _ _ _ hk (hm _ 0x2)⟩
theorem aM7:∀(ws:aa Str)(k:af)(W:aa En)(pl:Str->aa En)(x:Str),((wr M T va k ws W pl).2.2 x).length<=(pl x).length+ws.length
 |[],_,_,_,_=>by rw[wr];exact jo _ _
 |_::_,_,[],_,_=>by rw[wr];exact jo _ _
 |w::ws,k,e::W,pl,x=>by
  rw[wr,aS];split
  ·have:=aM7 (M:=M) (T:=T) (va:=va) ws k W (plA pl w e) x;have:(plA pl w e x).length<=(pl x).length+1:=by
    unfold plA;split
    ·rename_i q;rw[bg,q];exact aT _
    ·lia
   lia
  ·have:=aM7 (M:=M) (T:=T) (va:=va) ws (k+1) (hk T ((k:ag)+1) w (arS M T w)++W) pl x;dsimp only;lia
theorem aDp(bo:af):(rim bo).Nodup:=by
 unfold rim ni;rw[kf];refine(vm).imp λ{a b} h z=>?_
 injection z with _ z
 lia
theorem aM8(M:aa Mk)(T:aa Tk)(va ws:aa Str):Nm (nP M T va ws):=by
 have n1:=aG9 (M:=M) (T:=T) (va:=va) ws [] [(0,0)] (λ_=>[]) (λi h=>by cases h);rw[c6] at n1;exact aDa va 1 _ _ n1
theorem aI6(M:aa Mk)(T:aa Tk)(va ws:aa Str):∀p∈nP M T va ws,(0:ag)<p.1:=λp hp=>by
 obtain⟨i,hi,e⟩:=ud hp;rw[<-e,aM8 M T va ws i hi];lia
theorem aDq:(rim bo++yD M T (nP M T va ws)).Nodup:=by
 refine jp.mpr ⟨aDp bo,GJ (aM8 M T va ws).rise,λx hx y hy z=>?_⟩;unfold rim at hx;obtain⟨k,_,rfl⟩:=bE.mp hx;obtain⟨q,hq,hy⟩:=zS.mp hy;obtain⟨j,_,rfl⟩:=bE.mp hy;injection z with z _
 have:=aI6 M T va ws q hq;lia
theorem aM9(hx:∀w a,Wd M T w a->Wx M T w a/\w∉va)(nd:va.Nodup)(h:Dk M T va 1 ws)(hl:ws.length<=32)(hv:va.length<=5):(nP M T va ws).length<64/\(nU M T va ws).length<64/\(wr M T va 0 ws [(0,0)] (λ_=>[])).1.length<=32:=by
 obtain⟨u,u1,u2,u3,l1,l2⟩:=XF hx nd ws 0 [(0,0)] (λ_=>[]) h;have u0:tot (λ_=>[]) va=0:=by
  clear hv nd hx u1 u2 u3 l1 l2 h;induction va with
  |nil=>rfl
  |cons x va ih=>rw[tot,ih];rfl
 have u1:3*u<=2*ws.length+1:=u1;obtain⟨s1,s2⟩:=J7 va (wr M T va 0 ws [(0,0)] (λ_=>[])).1.length 1 (wr M T va 0 ws [(0,0)] (λ_=>[])).2.2;unfold nP nU;rw[bg,bg];lia
theorem aDr{V:aa Ti}(hx:∀w a,Wd M T w a->Wx M T w a/\w∉va)(nd:va.Nodup)(hM:M.length<=9)(hT:T.length<=3)(hc:arS M T "copy"=2/\bL (stk M T) "copy"=ab (.int (2:af)))(hd:arS M T "drop"=0/\bL (stk M T) "drop"=ab (.int (0:af)))(h:Dk M T va 1 ws)(hl:ws.length<=32)(hv:va.length<=5)(hV:V.Perm ((nU M T va ws).map norm))(hs:lL [.tup (V.map tiD)]=.ok (.lst (V.map tiD))) :
  cP 4 fD [ntD (nP M T va ws) V,.tup (ws.map δ),.tup (va.map δ),pgD ks M T R]=.ok (.bl ae):=by
 obtain⟨l1,l2,l3⟩:=aM9 hx nd h hl hv;have pe:=aGe hx nd hc.1 hd.1 h;have fn:(fl (nU M T va ws)).Nodup:=pe.nodup_iff.mpr aDq;obtain⟨q1,q2,q3,q4⟩:=aQj hV fn;have rs:=(aM8 M T va ws).rise;have em:=aGc (M:=M) (T:=T) (bo:=va.length+1) 0x1 rs (aI6 M T va ws) (λp hp=>by
  unfold nP at hp;rcases dQ.mp hp with hp|hp
  ·obtain⟨a,wd⟩:=J9 hx ws 0 [(0,0)] (λ_=>[]) h p hp;have wx:=(hx _ a wd).1;rw[xK wx];exact⟨wx.stk,wx.len⟩
  ·rcases QJ _ va _ 1 p hp with e|e
   ·rw[e,hc.1];exact⟨hc.2,by lia⟩
   ·rw[e,hd.1];exact⟨hd.2,by lia⟩) q3 (q1.trans pe) q2 hs 0x1 (by rw[hV.length_eq,aw];lia)
 have dk:=aDg (nP M T va ws) 0x1;have nk:=λp hp=>aGf (p:=p) (nP M T va ws) rs hp
 have lk:∀t∈nU M T va ws,bL (mtl V) t.1=ab (enD t.2)/\bL (mtl V) t.2=ab (enD t.1):=q4;have npl:(nP M T va ws).length=(wr M T va 0 ws [(0,0)] (λ_=>[])).1.length+(srs (wr M T va 0 ws [(0,0)] (λ_=>[])).1.length 1 va (wr M T va 0 ws [(0,0)] (λ_=>[])).2.2).1.length:=by unfold nP;rw[bg]
 have w1:∀q∈(wr M T va 0 ws [(0,0)] (λ_=>[])).2.1,q∈nU M T va ws:=λq hq=>by unfold nU;exact i8 _ hq
 have w2:∀p∈(wr M T va 0 ws [(0,0)] (λ_=>[])).1,p∈nP M T va ws:=λq hq=>by unfold nP;exact i8 _ hq
 have w3:∀q∈(srs (wr M T va 0 ws [(0,0)] (λ_=>[])).1.length 1 va (wr M T va 0 ws [(0,0)] (λ_=>[])).2.2).2,q∈nU M T va ws:=λq hq=>by unfold nU;exact eu _ hq
 have w4:∀p∈(srs (wr M T va 0 ws [(0,0)] (λ_=>[])).1.length 1 va (wr M T va 0 ws [(0,0)] (λ_=>[])).2.2).1,p∈nP M T va ws:=λq hq=>by unfold nP;exact eu _ hq
 have pz:∀x,((wr M T va 0 ws [(0,0)] (λ_=>[])).2.2 x).length<=40:=λx=>by
  have:=aM7 (M:=M) (T:=T) (va:=va) ws 0 [(0,0)] (λ_=>[]) x;have e:([]:aa En).length=0:=rfl;lia
 generalize hL:mtl V=L at em lk;generalize hN:nms (nP M T va ws)=N at dk nk;obtain⟨y9,pm⟩:=aI5 (q0:=ntD (nP M T va ws) V) (q1:=.tup (ws.map δ)) (q2:=.tup (va.map δ)) (q3:=pgD ks M T R) (q4:=.dct (dD δ (stk M T))) (q5:=.dct (dD enD L)) (q6:=.lst ((tn T).map δ)) (q7:=.dct (dD ε N)) (R:=[.uD,.uD,.uD,.uD,.uD,.uD]) (vz:=va) hv va [] .uD rfl nd;obtain⟨y12,y13,y14,wl⟩:=aDk (nt:=ntD (nP M T va ws) V) (pg:=pgD ks M T R) (wa:=ws) (L:=L) (N:=N) (x9:=y9) hx nd hv ws 0 [(0,0)] (λ_=>[]) .uD .uD .uD h (λq hq=>(lk q (w1 q hq)).2) (λp hp=>nk p (w2 p hp)) (λx=>by show 0+_<=_;lia) 0x1 (by show 1+_<=_;lia);obtain⟨z9,z15,el⟩:=aDn (nt:=ntD (nP M T va ws) V) (pg:=pgD ks M T R) (wa:=ws) (va:=va) (M:=M) (T:=T) (L:=L) (N:=N) (x10:=.lst (([]:aa En).map enD)) (x12:=y12) (x13:=y13) (x14:=y14) pz va 0 (wr M T va 0 ws [(0,0)] (λ_=>[])).1.length y9 .uD (λ_ h=>h) (λt ht=>lk t (w3 t ht)) (λp hp=>nk p (w4 p hp)) 0x1;rw[<-npl] at el;refine(eY rfl).trans (call_v ?_);unfold wW;have a1:=cZ (va.length:af) 1;refine aM (ρ':=[ntD (nP M T va ws) V,.tup (ws.map δ),.tup (va.map δ),pgD ks M T R,.dct (dD δ (stk M T)),.uD,.uD,.uD,.uD,.uD,.uD,.uD,.uD,.uD,.uD,.uD]) (b7 (i:=4) (aU (xs:=[pgD ks M T R]) 0xf (W3 hM hT))) ?_;refine aM (ρ':=[ntD (nP M T va ws) V,.tup (ws.map δ),.tup (va.map δ),pgD ks M T R,.dct (dD δ (stk M T)),.dct (dD enD L),.uD,.uD,.uD,.uD,.uD,.uD,.uD,.uD,.uD,.uD]) (b7 (i:=5) (aU (xs:=[ntD (nP M T va ws) V,.dct (dD δ (stk M T)),.int ((va.length+1:af):ag)]) (aD rfl (aD rfl (aD (aJ (x:=.int (va.length:af)) (y:=.int 1) (aU (xs:=[.tup (va.map δ)]) 0xf (aHl _)) rfl a1) rfl))) em)) ?_;refine aM (oK (xX rfl rfl) rfl) ?_;have cf:fK (iI 16 jL eU (b2 getD BP bQ) ah [ntD (nP M T va ws) V,.tup (ws.map δ),.tup (va.map δ),pgD ks M T R,.dct (dD δ (stk M T)),.dct (dD enD L),.uD,.uD,.uD,.uD,.uD,.uD,.uD,.uD,.uD,.uD]) [] (T.map tkD)=.ok ((tn T).map δ):=by
  rw[dU _ tkD (λ_=>ae) (λt:Tk=>δ t.1)]
  ·rw[iX.mpr (λ_ _=>rfl),c6,tn,cu];rfl
  ·intro acc t;exact d8 (b:=ae) (bs:=[tkD t]) (y:=.str t.1) rfl rfl rfl λ_=>⟨aJ (x:=tkD t) (y:=.int 0) rfl rfl rfl,rfl⟩
 have it:=fO (a:=b2 getD d9 gP) (ρ:=[ntD (nP M T va ws) V,.tup (ws.map δ),.tup (va.map δ),pgD ks M T R,.dct (dD δ (stk M T)),.dct (dD enD L),.uD,.uD,.uD,.uD,.uD,.uD,.uD,.uD,.uD,.uD]) (xs:=T.map tkD) (aJ (x:=pgD ks M T R) (y:=.int 2) rfl rfl rfl);refine aM (ρ':=[ntD (nP M T va ws) V,.tup (ws.map δ),.tup (va.map δ),pgD ks M T R,.dct (dD δ (stk M T)),.dct (dD enD L),.lst ((tn T).map δ),.uD,.uD,.uD,.uD,.uD,.uD,.uD,.uD,.uD]) (b7 (i:=6) (fC it (by rw[aw,bR];lia) cf)) ?_;have dk2:b1 zM (b2 getD cA bQ) [ntD (nP M T va ws) V,.tup (ws.map δ),.tup (va.map δ),pgD ks M T R,.dct (dD δ (stk M T)),.dct (dD enD L),.lst ((tn T).map δ),.uD,.uD,.uD,.uD,.uD,.uD,.uD,.uD,.uD]=.ok (.dct (dD ε N)):=by
  unfold b1;rw[aJ (x:=ntD (nP M T va ws) V) (y:=.int 0) (z:=.tup ((nP M T va ws).map piD)) rfl rfl rfl,τ];exact dk
 refine aM (b7 (i:=7) dk2) ?_;refine aM (dX (i:=8) (d:=.dct []) rfl rfl) ?_;refine aM (HY (i:=2) (d:=.tup (va.map δ)) (xs:=va.map δ) rfl rfl pm) ?_;refine aM (dX (i:=10) (d:=.lst [enD (0,0)]) (tR (xs:=[enD (0,0)]) (aD (bK (xs:=[.int 0,.int 0]) 0xe iU) rfl) (cX (dm rfl))) rfl) ?_;refine aM (ρ':=lw (ntD (nP M T va ws) V) (pgD ks M T R) ws va M T L N (λ_=>[]) [(0,0)] 0 y9 .uD .uD .uD) (dX (i:=11) (d:=.dct []) rfl rfl) ?_;refine aM (HY (i:=1) (d:=.tup (ws.map δ)) (xs:=ws.map δ) rfl rfl wl) ?_;rw[ia];have ie:zN 0 fB (lv (ntD (nP M T va ws) V) (pgD ks M T R) ws va M T L N (wr M T va 0 ws [(0,0)] (λ_=>[])).2.2 (wr M T va 0 ws [(0,0)] (λ_=>[])).1.length y9 (.lst (([]:aa En).map enD)) y12 y13 y14 .uD)=.ok (uX 0 (va.map δ),ae):=by
  show(if θ (va.map δ) then ι (uX 0 (va.map δ),ae) else .bad)=_;rw[al (bJ va)]
 refine aM (nT ie el) ?_;have lx:aJl [.dct (dD ε (sn (nP M T va ws).length))]=.ok (.int ((nP M T va ws).length:af)):=by
  have a:((dD ε (sn (nP M T va ws).length)).all λp=>!isTup p.1)=ae:=fA.mpr λp hp=>by
   obtain⟨q,_,rfl⟩:=bE.mp hp;rfl
  show(if ((dD ε (sn (nP M T va ws).length)).all λp=>!isTup p.1)=ae then ι (ε ((dD ε (sn (nP M T va ws).length)).length:af)) else .bad)=_;rw[a,al rfl,jC];simp[sn]
 have lp:eQ [.tup ((nP M T va ws).map piD)]=.ok (.int ((nP M T va ws).length:af)):=by
  show ι (ε (((nP M T va ws).map piD).length:af))=_;rw[aw]
 exact kW (d:=.bl ae) (aJ (x:=.int ((nP M T va ws).length:af)) (y:=.int ((nP M T va ws).length:af)) (aU (xs:=[.dct (dD ε (sn (nP M T va ws).length))]) 0xf lx) (aU (xs:=[.tup ((nP M T va ws).map piD)]) (aD (aJ (x:=ntD (nP M T va ws) V) (y:=.int 0) rfl rfl rfl) rfl) lp) ((eq_int _ _).trans (by rw[dy]))) rfl
theorem aQk{E:aa α}(h:E[k]?=ab e):getD (.lst (E.map f)) (.int (k:af))=.ok (f e):=by
 obtain⟨hl,_⟩:=dj.mp h;show ν ((ixD (E.map f).length (k:af)).bind λj=>(E.map f)[j]?)=_;have:ixD (E.map f).length ((k:af):ag)=ab k:=by
  unfold ixD;rw[al 0x1,aw,al 0x1]
  congr 1
 rw[this,ow,gs,h];rfl
theorem aUg(a b:Str):cT .ne (.tup [.str a,.str b]) (.tup [.str a,.str b])=.ok (.bl ah):=by
 show ι (υ (!((a==a)&&((b==b)&&ae))))=_;rw[dy,dy];rfl
theorem aUh(a b:Str)(P:aa Pi)(V:aa Ti):aDu (.tup [.str a,.str b,ntD P V]) ai (ab 2)=.ok (.tup [.str a,.str b]):=by
 show(if !θ [.str a,.str b,ntD P V]||_ then Res.bad else _)=_;rw[show θ [.str a,.str b,ntD P V]=ae from GF (a,b,P,V)];rfl
theorem aUi(r:Rl):aDu (rlD r) ai (ab 2)=.ok (.tup [.str r.1,.str r.2.1]):=by
 have pr:θ [.str r.1,.str r.2.1,.tup (r.2.2.1.map δ),.tup (r.2.2.2.map δ)]=ae:=by
  show(ae&&(ae&&((ξ (r.2.2.1.map δ)).pure&&((ξ (r.2.2.2.map δ)).pure&&ae))))=ae;rw[μ,μ,bJ,bJ];rfl
 show(if !θ [.str r.1,.str r.2.1,.tup (r.2.2.1.map δ),.tup (r.2.2.2.map δ)]||_ then Res.bad else _)=_;rw[pr];rfl
def lm(s pg:D)(E:aa Et)(sk:aa (D×D))(x4 x5 x6 x7:D):aa D:=[s,pg,.lst (E.map eD),.dct sk,x4,x5,x6,x7]
theorem aMa{E:aa Et}{k n:af}{r:Rl}{P:aa Pi}{V:aa Ti}(h1:E[k]?=ab (r.1,r.2.1,P,V))(h2:getD (.dct sk) (.str r.2.1)=.ok (.int (n:af)))(hn:n<=r.2.2.1.length)(h5:r.2.2.1.length<=5)(hw:cP 4 fD [ntD P V,.tup (r.2.2.2.map δ),.tup ((r.2.2.1.drop n++r.2.2.1.take n).map δ),pg]=.ok (.bl ae))(hpg:pg=.tup pgs) :
  lb (lm s pg E sk (.int (k:af)) (rlD r) x6 x7)=.ok (.nx (lm s pg E sk (.int (k:af)) (rlD r) (eD (r.1,r.2.1,P,V)) (.int (n:af)))):=by
 have g1:=aQk (f:=eD) h1;refine aM (eZ (i:=6) (aJ rfl rfl g1) (GF _)) ?_;refine aM (oK (xX rfl (xX rfl (dG (aJ (x:=.tup [.str r.1,.str r.2.1]) (y:=.tup [.str r.1,.str r.2.1]) (aUh ..) (aUi r) (aUg ..))))) rfl) ?_;refine aM (ρ':=lm s pg E sk (.int (k:af)) (rlD r) (eD (r.1,r.2.1,P,V)) (.int (n:af))) (eZ (i:=7) (aJ (x:=.dct sk) (y:=.str r.2.1) rfl (aJ (x:=rlD r) (y:=.int 1) rfl rfl rfl) h2) rfl) ?_;have s1:aCf (b2 getD dZ gP) (jH jF) jJ (lm s pg E sk (.int (k:af)) (rlD r) (eD (r.1,r.2.1,P,V)) (.int (n:af)))=.ok (.tup ((r.2.2.1.drop n).map δ)):=by
  have:=slW r.2.2.1 (ab (n:ag)) ai;rw[XJ _ n hn] at this;exact this
 have s2:aCf (b2 getD dZ gP) jJ (jH jF) (lm s pg E sk (.int (k:af)) (rlD r) (eD (r.1,r.2.1,P,V)) (.int (n:af)))=.ok (.tup ((r.2.2.1.take n).map δ)):=by
  have:=slW r.2.2.1 ai (ab (n:ag));rw[aHv _ n hn] at this;exact this
 have ad:=wA ((r.2.2.1.drop n).map δ) ((r.2.2.1.take n).map δ) (by rw[aw,aw,mi,mf];lia);rw[<-b6] at ad;subst hpg;have k1:aN (cP 4 fD) (aC (b2 getD lF gP) (aC (b2 getD dZ sW) (aC (b2 QR (aCf (b2 getD dZ gP) (jH jF) jJ) (aCf (b2 getD dZ gP) jJ (jH jF))) (aC fG aO)))) (lm s (.tup pgs) E sk (.int (k:af)) (rlD r) (eD (r.1,r.2.1,P,V)) (.int (n:af)))=.ok (.bl ae):=aU (xs:=[ntD P V,.tup (r.2.2.2.map δ),.tup ((r.2.2.1.drop n++r.2.2.1.take n).map δ),.tup pgs]) (aD (aJ (x:=eD (r.1,r.2.1,P,V)) (y:=.int 2) rfl rfl rfl) (aD (aJ (x:=rlD r) (y:=.int 3) rfl rfl rfl) (aD (aJ s1 s2 ad) 0xf))) hw;exact oK (QF (ZW k1)) rfl
theorem aDs{E:aa Et}(hpg:pg=.tup pgs):∀(Z:aa Rl)(q:af)(x4 x5 x6 x7:D),(∀(k:af)(r:Rl),Z[k]?=ab r->∃(P:aa Pi)(V:aa Ti)(n:af),E[q+k]?=ab (r.1,r.2.1,P,V)/\getD (.dct sk) (.str r.2.1)=.ok (.int (n:af))/\n<=r.2.2.1.length/\r.2.2.1.length<=5/\cP 4 fD [ntD P V,.tup (r.2.2.2.map δ),.tup ((r.2.2.1.drop n++r.2.2.1.take n).map δ),pg]=.ok (.bl ae))->
  ∃y4 y5 y6 y7:D,n8 (tgN [4,5]) lb (uX q (Z.map rlD)) (lm s pg E sk x4 x5 x6 x7)=.ok (.nx (lm s pg E sk y4 y5 y6 y7))
 |[],q,x4,x5,x6,x7,_=>⟨x4,x5,x6,x7,rfl⟩
 |r::Z,q,x4,x5,x6,x7,h=>by
  obtain⟨P,V,n,h1,h2,h3,h4,h5⟩:=h 0 r rfl;rw[BH] at h1;obtain⟨y4,y5,y6,y7,i⟩:=aDs hpg Z (q+1) (.int (q:af)) (rlD r) (eD (r.1,r.2.1,P,V)) (.int (n:af)) λk z hz=>by
   obtain⟨P,V,n,h1,h⟩:=h (k+1) z (by rw[yt];exact hz);exact⟨P,V,n,by rw[show q+1+k=q+(k+1) by lia];exact h1,h⟩
  exact⟨y4,y5,y6,y7,cC rfl (aMa h1 h2 h3 h4 h5 hpg) i⟩
theorem main:∀ns:aa ag,ns.length<=63->ZV [.scr (ns.map ε)]=.ok (.bl ae):=by
 intro ns hn;obtain⟨Ω,ks,M,T,R,⟨hm,hm3⟩,hM,hT,hTl,⟨hk1,hk2⟩,⟨hRl,hR⟩,ep⟩:=ZX hn;have hML:M.length<=9:=by have:=hM.len;lia
 have hM3:∀m∈M,m.2.2.length<=3:=λm h=>(hM.part m h).2.1
 have hG:∀m∈M,m.1 ≠ "copy"/\m.1 ≠ "drop":=λm h=>⟨(hM.part m h).1.1,(hM.part m h).1.2.1⟩
 obtain⟨Q,⟨q1,q2⟩,er⟩:=T5 hn hm3 hM hT hTl hML hM3 hG (λt ht=>(hT t ht).2.2.2.1) hRl hR;have es:=W3 (ks:=ks) (R:=R) hML hTl.1;have nM1:("copy" : Str)∉M.map (·.1):=λz=>by
  obtain⟨m,h,e⟩:=bE.mp z;exact(hG m h).1 e
 have nM2:("drop" : Str)∉M.map (·.1):=λz=>by
  obtain⟨m,h,e⟩:=bE.mp z;exact(hG m h).2 e
 have hTG:∀t∈T,t.1 ≠ "copy"/\t.1 ≠ "drop":=λt h=>by
  obtain⟨k,k1,k2,k3⟩:=(hT t h).1;have g:=(oW (i:=k) hn 0x1 0x1).2;rw[k3];exact⟨g.1,g.2.1⟩
 have nT1:("copy" : Str)∉T.map (·.1):=λz=>by
  obtain⟨m,h,e⟩:=bE.mp z;exact(hTG m h).1 e
 have nT2:("drop" : Str)∉T.map (·.1):=λz=>by
  obtain⟨m,h,e⟩:=bE.mp z;exact(hTG m h).2 e
 have c:=aDo (a:=2) (M:=M) (T:=T) "copy" nM1 nT1 rfl;have d:=aDo (a:=0) (M:=M) (T:=T) "drop" nM2 nT2 rfl;generalize hE:Q++M.flatMap mk2=E at er;have hEl:R.length<=E.length:=by rw[<-hE,bg,q1];lia
 obtain⟨pgs,hpg⟩:∃pgs,pgD ks M T R=.tup pgs:=⟨_,rfl⟩
 obtain⟨y4,y5,y6,y7,lp⟩:=aDs (s:=.scr (ns.map ε)) (pg:=pgD ks M T R) (E:=E) (sk:=dD δ (stk M T)) hpg R 0 .uD .uD .uD .uD λk r hr=>by
  have rm:=nK hr;have ro:=hR r rm;obtain⟨q,hq,m,mM,e1,e2,V,⟨pV,sV⟩,eq⟩:=q2 k r hr;have lk:=(wx (w:=m.1) (a:=m.2.2.length) hn hm3 hM hT hTl (.inl ⟨m,mM,rfl,rfl⟩)).stk;have hv:∀x∈r.2.2.1.drop m.2.2.length++r.2.2.1.take m.2.2.length,x∈r.2.2.1:=λx hx=>by
   rcases dQ.mp hx with h|h
   ·exact zC h
   ·exact zD h
  have hv2:∀x∈r.2.2.1,x∈r.2.2.1.drop m.2.2.length++r.2.2.1.take m.2.2.length:=λx hx=>by
   rw[<-vn m.2.2.length r.2.2.1] at hx;rcases dQ.mp hx with h|h
   ·exact eu _ h
   ·exact i8 _ h
  have ep:(r.2.2.1.drop m.2.2.length++r.2.2.1.take m.2.2.length).Perm r.2.2.1:=De.trans (by rw[vn]);refine⟨_,V,m.2.2.length,?_,by rw[e1];exact mO cU lk,e2,ro.ln,aDr (λw a h=>⟨wx hn hm3 hM hT hTl h,XH hn hm3 hM hT (λx hx=>ro.nm x (hv x hx)) h⟩) (ep.nodup_iff.mpr ro.nd) hML hTl.1 c d (ro.dk.mono hv2) ro.wl (by rw[ep.length_eq];exact ro.ln) pV sV⟩;rw[ia,<-hE,gq (by rw[q1];exact(dj.mp hr).1),hq,eq]
 refine call_v ?_;refine aM (ρ':=[.scr (ns.map ε),pgD ks M T R,.uD,.uD,.uD,.uD,.uD,.uD]) (b7 (i:=1) (aU (xs:=[.scr (ns.map ε)]) 0xf ep)) ?_;refine aM (ρ':=[.scr (ns.map ε),pgD ks M T R,.lst (E.map eD),.uD,.uD,.uD,.uD,.uD]) (b7 (i:=2) (aU (xs:=[pgD ks M T R]) 0xf er)) ?_;have l1:eQ [.lst (E.map eD)]=.ok (.int (E.length:af)):=by show ι (ε ((E.map eD).length:af))=_;rw[aw]
 have l2:eQ [.tup (R.map rlD)]=.ok (.int (R.length:af)):=by show ι (ε ((R.map rlD).length:af))=_;rw[aw]
 refine aM (oK (xX rfl (dG (aJ (x:=.int (E.length:af)) (y:=.int (R.length:af)) (aU (xs:=[.lst (E.map eD)]) 0xf l1) (aU (xs:=[.tup (R.map rlD)]) (aD (aJ (x:=pgD ks M T R) (y:=.int 3) rfl rfl rfl) rfl) l2) ((aSs _ _).trans (by rw[cw 0x1]))))) rfl) ?_;refine aM (ρ':=lm (.scr (ns.map ε)) (pgD ks M T R) E (dD δ (stk M T)) .uD .uD .uD .uD) (b7 (i:=3) (aU (xs:=[pgD ks M T R]) 0xf es)) ?_;refine aM (nT ?_ lp) rfl;show(if θ (R.map rlD) then ι (uX 0 (R.map rlD),ae) else .bad)=_;rw[aP uA,al rfl]
end Lk63
section
open PySem PySem.W PyProof.Rows
namespace PySem.W.Fast
def tw10897964675817782440:=()
def tw17600576348673123293:=()
def tw17878138938557743445:=()
def tw10786057952788047149:=()
def tw5362776195530071761:=()
def tw14767386185566894276:=()
def tw17601598867403513233:=()
def tw6709327109721435829:=()
def tw14923047842800336297:=()
def tw224647301008528666:=()
def tw18082735890711455122:=()
def tw11242619289996584249:=()
def tw12087526917733958381:=()
def tw2222974359171113579:=()
def tw3991391397070667228:=()
def tw2046271744394650336:=()
def tw12395485216510863459:=()
def tw10638036851482130640:=()
def tw8792614463933539945:=()
def tw4015412182808058666:=()
def tw7190769689248805973:=()
def tw6773740319761921826:=()
def tw3112816252856874565:=()
def tw5416998760429169897:=()
def tw1571619853450055003:=()
def tw3007181675276623333:=()
def tw7421828747129818128:=()
def tw3110153720332694344:=()
def tw10455874558353115378:=()
def tw13212865089737083608:=()
def tw9763075149947706655:=()
def tw5086755618427876777:=()
def tw6813356675198068677:=()
def tw4113550343679997509:=()
def tw3107760685930477756:=()
def tw16799130431831329821:=()
def tw18041215064153937114:=()
def tw5492519703940503547:=()
def tw5329222126197328479:=()
def tw4953371589870464899:=()
def tw14662423897339214751:=()
def tw12747094564383161830:=()
def tw5725888592900827740:=()
def tw13350196475044590144:=()
def tw17085269623599495140:=()
def tw2590407653210700413:=()
def tw15431125679736233932:=()
def tw5936706153646241916:=()
def tw674204873894060302:=()
def tw9294591660416190931:=()
def tw2622934926758546652:=()
def tw18266400351687711498:=()
def tw7629872772578646036:=()
def tw10835155929642661656:=()
def tw7489717976187469079:=()
def tw18390049881797856318:=()
def tw4459477492570924223:=()
def tw10616476169982344501:=()
def tw3973070532872011129:=()
def tw15733440326230725700:=()
def tw6405042480255522376:=()
def tw18440966780519041246:=()
def tw14404794031972845155:=()
def tw3670804267746759806:=()
def tw7581134117498368075:=()
def tw15521373023794363366:=()
def tw12440230025028229329:=()
def tw12149487605368174914:=()
def tw6616662917455388876:=()
def tw6902511154019366137:=()
def tw10840436406388015144:=()
def tw649359705874037156:=()
def tw5435239560239774912:=()
def tw9531249694382716677:=()
def tw16548771379918116279:=()
def tw15068869814401163221:=()
def tw17254131260228438998:=()
def tw11094874624303381745:=()
def tw6196720549861762112:=()
def tw3367972970626082358:=()
end PySem.W.Fast
set_option maxRecDepth 100000 in
set_option maxHeartbeats 0 in
theorem PySem.Challenge.cw_hookmill_k63_rule_nets_holds : PySem.Challenge.rw_hookmill_k63_rule_nets.Holds := by
 w_on;o_law;k_head;(case hw=>w_witness2)
 k_fill
 refine Lk63.walk (l:=PySem.Challenge.rw_hookmill_k63_rule_nets) Lk63.main rfl rfl (fun w h Y=>PySem.W.kIn_of Y) ?F
 case F=>
  intro w mg fa h KX G hmg
  refine' Lk63.aPe KX G hmg ?a0 ?a1 ?a2 ?a3 ?a4 ?l4 ?c4 ?k4 ?t4 ?a5 ?a6 ?a7 ?a8 ?a9 ?a10 ?a11 ?a12 ?a13 ?a14 ?a15 ?a16 ?a17 ?a18 ?a19 ?a20 ?a21 ?l21 ?c21 ?k21 ?pX ?pY ?pZ ?qa ?qb ?qc ?qd ?qe ?qf ?qg ?qh ?qi ?qj ?qk ?ql ?qo ?qp ?qr ?p9 ?pg_Loom ?qt ?po_Loom ?qu ?mk_Loom ?qv ?qw ?pD ?pE ?pF ?qx ?pG ?pH ?pI ?pJ ?qy ?pK ?pL ?pA ?qz ?qA ?pM ?pN ?pB ?qB ?qC ?pO ?pQ ?pC ?qD
  (case a0|a1|a2|a3|a5|a6|a7|a8|a9|a10|a11|a12|a13|a14|a15|a16|a17|a18|a19|a20=>refine' Lk63.aSq ?a ?b ?c ?d;(case a=>k_is);(case b=>k_is);(case c=>k_is);case d=>k_is)
  (case a4|l4|c4|k4|t4|a21|l21|c21|k21|pX|pY|pZ|qa|qb|qc|qd|qe|qf|qg|qh|qi|qj|qk|ql|qo|qp|qr|p9|pg_Loom|qt|po_Loom|qu|mk_Loom|qv|qw|pD|pE|pF|qx|pG|pH|pI|pJ|qy|pK|pL|pA|qz|qA|pM|pN|pB|qB|qC|pO|pQ|pC|qD=>k_is)
end
