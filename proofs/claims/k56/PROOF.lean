import PyProof.Rows.All
import Wide.All
import OpenK.AllK
import Wide.FinOn
import PySem.Challenge.RW_hookmill_k56_whole_adds_up
open Array renaming getElem?_eq_none->qo,getElem?_eq_some_iff->qB,length_toList->sf,getElem?_eq_getElem->ub,toList->vF,getElem?_toList->xi,ext'->yy,append_assoc->zq,forIn_toList->Bw
open Bool renaming true->ag,false->ak,and_eq_true->aS,false_eq_true->gn,false_ne_true->iw,or_eq_true->iS,and_true->kj,true_and->mw,and_self->mI,or_false->sM,true_or->sR,false_or->s_,not_eq_true'->tF,and_false->xg,and_assoc->xn,eq_false_iff->xv,beq_eq_decide_eq->zw,false_and->zS,or_true->AZ
open Classical renaming choose->C1,choose_spec->C3,byContradiction->C4
open False renaming elim->dQ
open ForInStep renaming yield->AE
open Function renaming comp_def->C0,comp->C5
open Int renaming toNat_natCast->ik,le_refl->nK,emod_nonneg->rg,emod_lt_of_pos->rh,add_assoc->rq,natCast_mul->t9,zero_add->yA,add_zero->zb,add_nonneg->zc,add_comm->ze,mul_one->Ab,natCast_sub->Cj,zero_mul->Cq,le_trans->Ct,not_lt->Cu
open List renaming length_map->az,map_cons->aI,length_append->aT,range->bj,length_cons->bp,replicate->bX,append_assoc->b3,append_nil->b5,size_toArray->b6,getD_eq_getElem?_getD->b9,mem_cons->cj,mem_map->ck,map_append->cu,mem_cons_of_mem->c8,mem_cons_self->de,map_map->di,getElem?_eq_getElem->dj,getElem?_set_ne->du,map->dv,mem_append->dz,getElem?_append_left->dA,getElem?_eq_some_iff->dE,length_singleton->dP,length_nil->ef,mem_map_of_mem->eh,nil_append->eJ,mem_append_right->eM,length_range->eT,getElem?_append_right->fg,getElem?_set_self->fy,nodup_cons->fz,getElem?_map->fA,length->fT,nodup_nil->gp,all_eq_true->gq,lookup_cons->gN,range'->hI,flatten_cons->hU,mem_range->hX,all_cons->ig,getElem?_eq_none->io,mem_append_left->ir,getElem?_replicate->iE,map_nil->iN,nodup_append->i6,forIn_nil->je,drop_eq_nil_of_le->jf,sum_cons->ji,reverse_cons->jn,length_reverse->jo,length_take->jz,mem_of_getElem?->jI,find?_cons->kb,any_cons->ke,drop_eq_getElem_cons->kl,range'_succ->kq,count_cons->kz,lookup->kK,length_zip->lp,mem_singleton->mj,forIn_cons->mq,mem_filter->nX,filterMap_cons->n4,of_mem_zip->oj,length_replicate->ot,length_drop->ou,getElem?_set->oI,drop_zero->qy,take_of_length_le->qz,take_append_drop->qV,cons_append->tJ,dropLast_eq_take->ui,getElem_map->vc,mem_filterMap->vT,length_set->w_,ext_getElem->xo,map_take->xq,getElem_mem->xw,mem_of_mem_take->xy,drop_succ_cons->yq,dropLast_concat->yr,reverse_append->yw,replicate_succ->yz,pairwise_map->yB,nodup_range'->yT,mem_range'_1->yY,range_eq_range'->y6,take_left->y8,drop_left->y9,filter_cons->zd,getElem_inj->zr,map_drop->A0,sum_append->A9,take_length->Ba,zip_nil_right->Bi,dropLast_subset->Bj,getElem_cons_zero->Bl,getElem_cons_succ->Bm,countP_cons->Bo,zipIdx_cons->Br,zipIdx_nil->Bs,getElem?_dropLast->BD,take_succ_cons->BE,take->BF,drop->BG,mem_reverse->BS,foldl_cons->B7,append_cancel_right->B8,nodup_iff_pairwise_ne->Ca,getElem_range->Cd,getElem?_range->Ce,length_range'->Cf,nodup_range->Cg,count_le_length->Ci,map_fst_zip->Ck,map_snd_zip->Cm,length_filter_le->Cp,count_nil->Cr
open List.Pairwise renaming imp_of_mem->Cb,nil->CY
open List.cons renaming inj->za,injEq->B9
open Nat renaming le_refl->bq,ne_of_lt->cw,le_trans->c_,lt_of_lt_of_le->dy,zero_le->d6,lt_irrefl->fN,lt_of_not_le->gS,ne_of_gt->iz,add_assoc->jp,lt_succ_of_lt->lf,zero_add->lu,add_mul->lx,lt_succ_self->l7,le_succ->md,lt_or_ge->mr,mul_le_mul_right->nI,lt_of_le_of_lt->oz,add_zero->oB,sub_self->qS,one_mul->rj,le_add_right->ut,lt_of_lt_of_eq->va,zero_mul->ve,le_of_lt->vq,le_of_eq->wj,not_lt_zero->xI,lt_of_succ_lt_succ->xL,add_right_comm->yt,add_comm->yu,min_eq_left->y4,lt_trans->AB,add_sub_cancel->BY,sub_zero->B4,min_eq_right->Cc,min_self->Co,zero_sub->Cs,not_lt->Cw
open Nat.succ renaming inj->tN
open Option renaming some->aa,none->aj,map_eq_some_iff->iO,isSome_iff_exists->wr,bind_some->yx,getD_none->Av,isSome_map->AA,getD_some->AF
open Option.some renaming inj->ft,injEq->Dq
open Or renaming inl->jd
open PyProof.Rows renaming envOfC->eR,AllBare->iq,IsTup->jr,callWith_type1->ju,slot_tuple_getitem->ow,IntsAre->oy,tupleItemsOf_->sD,subscriptTail->sK,tuple_addW2->Al,slicePart_none->Am,entry_tuple_getitem->Ap,args_tuple_getitem->Aq,subscriptTail_builtinR->As,len_tuple->BH,callWith_builtin1->CD,getItem_tuple->Dh
open PySem renaming Addr->al,Value->am,wpAny_bind->ao,Shared->au,model->ay,wpAny_pure->aE,Heap->bc,Obj->bn,sizeLine->bo,World->bu,Stmt->bz,mainGlobals->bE,Program->bS,Around->cf,starEach->cr,rawInt->cz,Env->cS,cLine->c9,sizeLine_eq->dg,wpAny_field->dh,FuncData->dm,Builtin->dn,Pos->dq,compareOp->dL,Tok->em,bootBuiltins->eu,binaryOp->eB,wpAny_holding->eD,swapsWith->eL,foldedSetIterable->eP,Scope->fx,strIterType->fF,wpAny_mono->fR,wpAny_of_eq->f_,tupleKind->gj,attributeBase->gm,wpAny_seqItems->gr,sysModules->gx,pyNext->gz,wpAny_Call_Name_kw->gL,IsPart->hZ,backTo->ip,behindInMarks->iu,NameKind->iA,wpAny_typeOf->iF,wpAny_newObj_type->iL,relabel->iP,typeLookup_type->i0,builtinLookup_eq_fast->i5,assignEach->i7,getItem->ja,wpAny_callSpecial?_slot->jb,stored->jc,codeAny_builtin->jg,wpAny_attempt->jh,wpAny_rule->jj,isSubtype_type->jk,rule->jt,holding->jv,wpAny_call->jw,bindL->jx,bindC->jy,wpAny_call_entry->jS,call_meets->ka,atKey->kf,spliced->kF,assign->kG,wpAny_passesOwn->kH,BindsTo->kL,typeLookup->kN,sliceBounds->kP,Slot->kQ,storedH->kT,merged->k9,callerA->la,wpAny_specialOf->lh,Meets->lj,wpAny_isInstance->ll,Paired->ly,wpAny_execs_nil->lz,PassesOwn->lI,pyIter->l6,codeAny_mono->ma,mem_of_lookup->me,valueAt->mh,compPost->mt,wpAny_pyIter_list->mE,numAt->mM,entryFor->nh,table->nj,wpAny_setField_rec->nt,plainId->nw,argsOk->ny,wpAny_setField->nB,letOwnedTupleGo->n9,wpAny_pyNext_list_item->og,wpAny_pyNext_list_end->oh,typeOf->ox,JoinOk->oQ,codeAny_call_builtin->qp,GenState->qr,Drawn->qt,OsState->qu,updateSeq->qw,wpAny_tryCatch->qx,wpAny_ite_split->qA,wpAny_updateSeq->qE,Str->rL,Within->rV,isTrue->rX,wpAny_BinOp->r_,CmpOp->se,unaryOp->sg,concat_meets->sr,noFill_tuple_add->su,seq_tuple_add->sv,subscripted->sL,tupleKind_room_in1->tf,ItemsOf->tI,getAttr?->ue,retInt->uj,wpAny_mkInt->ul,field->um,wpAny_letGo->uo,callType_codes->ur,plainId_quiet->uy,IsTupleKey->uz,builtinsNs->vo,wpAny_Name->vx,intBits_le_64->vz,wpAny_truthy_bool->vE,wpAny_execs_cons->vS,standAt->v8,getAttr->wa,getMethod->wf,cellsFrom->wo,seqIndex?->wu,seqIndex_of->wv,seqIndex_neg->wx,operate->wy,typeIs_str->wz,PlainAttrs->xf,call->xk,isInstance->xt,checkBuiltinCall->xu,Fin->xA,entryFor_alias->xB,entryFor_of_tree->xD,wpAny_onRaise->yc,dictSet->yf,kt_code_dict_new->yj,wpAny_notOrdered_dict->yl,signature?_of->ym,noteFrame->yp,keywordEach->zp,wpAny_isTrue_Compare1->zx,interactive->zy,assignInOrder->zz,swapsWithSole->zC,swappedStores->zD,wpAny_Assign_Name->zI,IsRangeIter->Aa,wpAny_loadPart->Af,recursionLimit->Ai,wpAny_sequenceKey->Ao,evalPart_none->Ar,slot_list_getitem->Au,call_list_seq->Aw,comprehension->AG,eval_ListComp->AH,wpAny_pyIter_tuple->AV,wpAny_standAt->AW,wpAny_Assign_Subscript->AX,wpAny_raiseAttrError->Bd,attrMsg_fits->Be,sub_AttributeError->Bg,getattributeRaised->Bh,slot_listiter_next->Bq,wpAny_newTuple->Bu,callType_new->By,isSubtype_stop->BB,wpAny_dictSet_pairs->BC,wpAny->ϑ
open Decidable renaming decide->ϒ
open PySem.Around renaming under_plainId->kx,under->wl
open PySem.AutoSeq1 renaming list_extend_list_list_0->CO
open PySem.BindsTo renaming of_defaults->rc
open PySem.Builtin.Builtins renaming bindParams->Do
open PySem.Builtin.Dict renaming addKeywords->ye
open PySem.Builtin.List renaming listTooLong->sN,listExtendWith->uv,listLengthHint->BM,listSameRef->BN,listItems->BQ,listFitsIndex->Dj,listUpdate->Dk
open PySem.Builtin.Range renaming rangeSize->Cy
open PySem.Builtin.Slice renaming slicePlaces->sB,sliceAdjust->wt,sliceApplied->An,slicePartIndex->CH,sliceFields->CI
open PySem.Builtin.SmallTypes renaming nextOf->km,ownedTupleIsFree->yd,ownedTupleHandOut->Da,newRecord->Dg,stopIteration->Di
open PySem.Builtin.Str renaming occurrences->Ac,strSliceIndices->AY,tooLong->C6,glued->Dp
open PySem.Builtin.Tuple renaming tupleItemsOf->sC
open PySem.Calls renaming spliced_nil->l8,spliced_cons->l9,Name_function_global->zt,callWith_builtin->Ax,evalArgs_plain->Ay
open PySem.CmpOp renaming In->zu,NotIn->zv
open PySem.Code renaming quiet_builtin->li,isFrame->wm,frames->Aj
open PySem.Data renaming seq->zn
open PySem.DictEntry renaming refKey->Cz
open PySem.EntryCells renaming newEntry->BU
open PySem.F renaming plainAttrs_list->iX,slot_list_append->mf,type_list_append->oP,slot_tuple_add->sw,entry_tuple_add->sx,args_tuple_add_2->sA,slot_list_pop->sQ,slot_tuple_iterator_next->uh,slot_zip_next->uq,plain_sum_loop->u7,slot_list_extend->xh,slot_zip_getattribute->xC,type_list_pop->xE,slot_tuple_index->ya,slot_tuple_count->yb,kt_called_dict->yg,kt_typeCall_dict_1->yh,entry_dict_init->yi,args_dict_init_2->yk,slot_list_getattribute->yo,excBase_ValueError->A4,excAttr_ValueError->A8,entry_tuple_iterator_next->Bb,args_tuple_iterator_next_1->Bc,type_list_extend->Bk,slot_dict_items->Bp,entry_zip_next->Bz,args_zip_next_1->BA,plain_extend_loop->BO,entry_sum_loop->B2,plainAttrs_tuple->B6
open PySem.Heap renaming lt_size->bw,get?_push_of_some->bP,get?_push_size->c6,size_push->dS,SameBut->e9,get?_update_self->ib,get?_update_other->j3,ExtBut->ug,MadeExcOf->A3,NewAttrErr->Bf,size_update->B3
open PySem.Heap.DictOf renaming new->xj
open PySem.Heap.DictOfH renaming new->Dl
open PySem.Heap.IsList renaming push->Dc
open PySem.Heap.IsSliceOf renaming new->CL
open PySem.Heap.Ns1 renaming of_empty->CC
open PySem.Heap.SameBut renaming update->ng,refl->Bv
open PySem.Heap.UpToSlots renaming trans->B0,of_keeps->Dm
open PySem.IsL renaming update->CM
open PySem.IsiPair renaming dict_int->AO,dict_str->AQ,dict_bool->AR,dict_list->AS,dict_tuple->AT,dict_dict->AU
open PySem.Manifest renaming owners->Dd,sig_reversed->Df
open PySem.MeetsSeq renaming EqGives->Bn,list_pop_last->CU
open PySem.NameKind renaming free->kh,cell->xl
open PySem.Obj renaming mapSeq->eI,mapFields->mT,data_mapFields->nE,isFreed_of_fields->yn,cls_mapFields->BI
open PySem.Paired renaming length->jq,snoc->Az
open PySem.PassesOwn renaming never->fj,leaving->B5
open PySem.SeqAt renaming RcNeAt->tj
open PySem.SeqAt.EqAt renaming int_str->zh,str_int->zi,same->AI,of_refs->AJ
open PySem.SeqAt.RcAt renaming lists->AK,lists_lengths->AM
open PySem.SeqAt.RcNeAt renaming lists->AL,lists_lengths->AN
open PySem.Shared renaming heap->Bx
open PySem.Str renaming ofString->lq,empty->Ah
open PySem.Txt renaming slice->ii,join->oS,mul->tP,slice_le->ua
open PySem.Value renaming ref->cK,type->fI,none->gu,int->nN,str->nV,builtin->uf,bool->vg,isInt->zf,isStrOf->zg,bytes->zj,float->zk
open PySem.Value.ref renaming inj->C7
open PySem.W renaming Frag->bi,keepIn->gl,findIn->i8,emptyDict->i9,instObj->js,fnOf->kM,nsIn->lc,kitOne->lr,lookIn->sh,plainGet->si,codeIn->sk,mroIn->ud,exmOne->uS,methodObj->vh,hideAll->vk,of_hideAll->vn,hasDictIn->v9,plainGet_of->wd,isFn->we,takerIn->wg,callWith_K->wn,excIn->xr,hideAll_get->zo,handedIn->Ad,plainOver->Ae,makesIn->Ag,cellsFrom_some->Ak,looks_mroIn->A6
open PySem.W.KF renaming slot_gs->A7
open PySem.W.Looks renaming ld->A5,here->CA
open PySem.W.WData renaming int->AC
open PySem.W.WShape renaming has->AD
open PySem.Within renaming cons->CB
open Std.Legacy.Range renaming forIn_eq_forIn_range'->C8,size->C9
open Sum renaming inl->kA,inr->kC
open _root_ renaming List->ae,Nat->ah,Int->ai,if_pos->aq,Option->ar,if_neg->aw,Bool->ax,absurd->bd,Array->br,decide_eq_true->bt,False->cg,decide_eq_true_eq->cv,decide_eq_false->cx,congrArg->cy,DecidableEq->dw,of_decide_eq_true->eg,if_true->ff,beq_eq_false_iff_ne->fq,if_false->fE,beq_iff_eq->fS,String->gf,True->gi,beq_self_eq_true->lg,not_or->mz,dif_pos->tw
theorem zA0(h:True:=by decide):True:=h
def Λ:Lean.Syntax:=zA0._auto_1
theorem zA1(h:True:=by rfl):True:=h
def Ω:Lean.Syntax:=zA1._auto_1
theorem zA2(h:True:=by first|exact .inl rfl|exact .inr rfl|assumption):True:=h
def Ξ:Lean.Syntax:=zA2._auto_1
set_option Elab.async false
set_option maxRecDepth 100000
set_option maxHeartbeats 4000000
noncomputable section
local macro_rules|`(0x0)=>`(by trivial)|`(0x1)=>`(by lia)|`(0x2)=>`(by simp)|`(0x3)=>`(by rfl)|`(0x4)=>`(by decide)|`(0x5)=>`(by with_unfolding_all rfl)|`(0x6)=>`(by decide +kernel)|`(0x7)=>`(by intro z;cases z)|`(0x8)=>`(by kernel_rfl)|`(0x9)=>`(by refine⟨rfl,?_,?_,?_,?_,?_,?_⟩<;>decide +kernel)|`(0xa)=>`(by refine⟨rfl,rfl,rfl,?_,rfl,?_,?_⟩<;>decide +kernel)
set_option linter.all false
set_option autoImplicit true
set_option genSizeOfSpec false
set_option genInjectivity true
abbrev nDb(x:rL):Prop:= (x==("__debug__" : rL))=ak
abbrev nCd(x:rL):Prop:= (x==("__classdict__" : rL))=ak
namespace L2
open PySem PySem.Spec PyProof.Rows
noncomputable abbrev Key:=Sum ai Str
noncomputable def HD:Key->am->ax
 |.inl k,v=>zf k v
 |.inr x,v=>zg x v
noncomputable def aR5(w:bu):Key->ai
 |.inl k=>hashInt k
 |.inr x=>hashStr w x
theorem cY:∀{k:Key}{v:am},HD k v=ag->(∃i t,k=kA i/\v=nN i t)\/(∃x t,k=kC x/\v=nV x t)
 |.inl i,v,h=>by
  obtain⟨t,e⟩:=Value.isInt_shape h;exact .inl ⟨i,t,rfl,e⟩
 |.inr x,v,h=>by
  obtain⟨t,e⟩:=Value.isStrOf_shape h;exact .inr ⟨x,t,rfl,e⟩
theorem T9(i:ai)(t:em):HD (.inl i) (.int i t)=ag:=by simp[HD,zf]
theorem T_(x:Str)(t:em):HD (.inr x) (.str x t)=ag:=by simp[HD,zg]
theorem aJb(a b:ai):ϒ ((kA a:Key)=kA b)=(a==b):=by
 by_cases e:a=b
 ·subst e;simp
 ·have h:¬(kA a:Key)=kA b:=λq=>e (Sum.inl.inj q)
  rw[cx h];exact(fq.mpr e).symm
theorem aJc(a b:Str):ϒ ((kC a:Key)=kC b)=ϒ (a=b):=by
 by_cases e:a=b
 ·subst e;simp
 ·have h:¬(kC a:Key)=kC b:=λq=>e (Sum.inr.inj q)
  rw[cx h,cx e]
theorem aJd(a:ai)(b:Str):ϒ ((kA a:Key)=kC b)=ak:=cx (λq=>nomatch q)
theorem aJe(a:Str)(b:ai):ϒ ((kC a:Key)=kA b)=ak:=cx (λq=>nomatch q)
def cH(prog:bS)(w:bu):PySem.KeyKind prog w Key where
 is:=HD
 hash:=aR5 w
 inj:=λv a b ha hb=>by
  rcases cY ha with ⟨i,t,rfl,rfl⟩|⟨x,t,rfl,rfl⟩
  ·rcases cY hb with ⟨j,u,rfl,e⟩|⟨y,u,rfl,e⟩
   ·injection e with e1 _;rw[e1]
   ·exact nomatch e
  ·rcases cY hb with ⟨j,u,rfl,e⟩|⟨y,u,rfl,e⟩
   ·exact nomatch e
   ·injection e with e1 _;rw[e1]
 byValue:=λk v h=>by
  rcases cY h with ⟨i,t,rfl,rfl⟩|⟨x,t,rfl,rfl⟩<;>rfl
 pyHash:=λhv h=>by
  rcases cY hv with ⟨i,t,rfl,rfl⟩|⟨x,t,rfl,rfl⟩
  ·exact wpAny_pyHash_int h
  ·exact wpAny_pyHash_str h
 eqBool:=λhu hv h=>by
  rcases cY hu with ⟨i,t,rfl,rfl⟩|⟨x,t,rfl,rfl⟩
  ·rcases cY hv with ⟨j,u,rfl,rfl⟩|⟨y,u,rfl,rfl⟩
   ·rw[aJb] at h;exact wpAny_eqBool_int h
   ·rw[aJd] at h;exact zh i t y u _ _ _ _ h
  ·rcases cY hv with ⟨j,u,rfl,rfl⟩|⟨y,u,rfl,rfl⟩
   ·rw[aJe] at h;exact zi x t j u _ _ _ _ h
   ·rw[aJc] at h;exact wpAny_eqBool_str h
 «strs»:=λk x t v h=>by
  rcases cY h with ⟨i,u,rfl,e⟩|⟨y,u,rfl,e⟩
  ·exact nomatch e
  ·injection e with e1 _
   subst e1;cases v<;>rfl
theorem HF(prog:bS)(w:bu)(i:ai)(t:em):(cH prog w).is (.inl i) (.int i t)=ag:=T9 i t
theorem HH(prog:bS)(w:bu)(x:Str)(t:em):(cH prog w).is (.inr x) (.str x t)=ag:=T_ x t
inductive V where
 |non|bl (b:ax)|int (i:ai)|str (x:Str)|byt (b:br UInt8)|flt (b:UInt64)|ref (a:al)|ty (n:gf)
 deriving dw
def RelV:V->am->Prop
 |.non,u=>u=gu
 |.bl b,u=>u=vg b
 |.int i,u=>∃t,u=nN i t
 |.str x,u=>∃t,u=nV x t
 |.byt b,u=>∃t,u=zj b t
 |.flt b,u=>∃t,u=zk b t
 |.ref a,u=>u=cK a
 |.ty n,u=>u=fI n
abbrev Vals:ae V->ae am->Prop:=ly RelV
theorem Vals.length(r:Vals xs us):xs.length=us.length:=jq r
theorem Vals.get:∀{xs:ae V}{us:ae am}{i:ah}{x:V},Vals xs us->xs[i]?=aa x->∃u,us[i]?=aa u/\RelV x u
 |_,_,_,_,.nil,e=>by simp at e
 |_,_,0,_,.cons r _,e=>by simp at e;subst e;exact⟨_,rfl,r⟩
 |_,_,i+1,x,.cons _ t,e=>by
  obtain⟨u,h1,h2⟩:=Vals.get t (by simpa using e);exact⟨u,by simpa using h1,h2⟩
theorem Vals.set(r:RelV x u):∀{xs:ae V}{us:ae am}(i:ah),Vals xs us->Vals (xs.set i x) (us.set i u)
 |_,_,_,.nil=>.nil
 |_,_,0,.cons _ t=>.cons r t
 |_,_,i+1,.cons q t=>.cons q (Vals.set r i t)
theorem Vals.append:∀{xs ys:ae V}{us ws:ae am},Vals xs us->Vals ys ws->Vals (xs++ys) (us++ws)
 |_,_,_,_,.nil,s=>s
 |_,_,_,_,.cons r t,s=>.cons r (Vals.append t s)
theorem Vals.take:∀{xs:ae V}{us:ae am}(n:ah),Vals xs us->Vals (xs.take n) (us.take n)
 |_,_,0,_=>.nil
 |_,_,_+1,.nil=>.nil
 |_,_,n+1,.cons r t=>.cons r (Vals.take n t)
theorem Vals.drop:∀{xs:ae V}{us:ae am}(n:ah),Vals xs us->Vals (xs.drop n) (us.drop n)
 |_,_,0,r=>r
 |_,_,_+1,.nil=>.nil
 |_,_,n+1,.cons _ t=>Vals.drop n t
def G8:ar V->ar am->Prop
 |some v,aa u=>RelV v u
 |none,aj=>gi
 |_,_=>cg
def KV{κ:Type}:ae (κ×V)->ae (κ×am)->Prop:=ly λ(p:κ×V)(q:κ×am)=>p.1=q.1/\RelV p.2 q.2
noncomputable def kV:Key->V
 |.inl i=>.int i
 |.inr x=>.str x
inductive HO where
 |lst (xs:ae V)
 |tup (xs:ae V)
 |dK (kvs:ae (Key×V))|dT (kvs:ae (ae Key×V))
 |set (S:ai->ax) (n:ah)
 |ins (C dx:al) (fs:ae (Str×V))
 |own (x:al)
 |xd (fs:ae (Str×V))
 |met (f x:al)
 |rng (lo hi:ai)
 |frz (o:bn) (u:HO)
 |tbl (ps:br am)
 |ext (φ:bc->Prop)
noncomputable abbrev Hp:=al->ar HO
noncomputable def upd(H:Hp)(a:al)(o:HO):Hp:=λb=>if b=a then aa o else H b
theorem aK:upd H a o a=aa o:=by unfold upd;rw[aq rfl]
theorem aP(h:b≠a):upd H a o b=H b:=by unfold upd;rw[aw h]
theorem HJ:upd (upd H a o) a u=upd H a u:=by
 funext b;unfold upd;split<;>rfl
theorem nJ{H:Hp}(h:H a=aa o)(h':H b=aa u)(d:o≠u):a≠b:=by
 intro e;subst e;rw[h] at h';exact d (ft h')
theorem bK{H:Hp}(h:H a=aa o)(h':H b=aj):a≠b:=by
 intro e;subst e;rw[h] at h';cases h'
def j6(h:bc)(a:al)(its:br am):Prop:=∃o,h.get? a=aa o/\o.cls=.type "tuple"/\∃n,(o.data,o.dict)=(zn its n,aj)
theorem j6.tup{h:bc}{a:al}{its:br am}(t:j6 h a its):jr h a its:=let ⟨o,e,c,n,d⟩:=t;⟨o,e,c,n,cy (·.1) d⟩
theorem j6.bare(t:j6 h a its):∃o,h.get? a=aa o/\o.dict=aj:=let ⟨o,e,_,_,d⟩:=t;⟨o,e,cy (·.2) d⟩
theorem j6.new(h:bc)(items:br am):j6 (h.push {cls:=.type "tuple",data:=.seq items}) h.objs.size items:=⟨_,c6 _ rfl,rfl,_,rfl⟩
section
variable (P:bS) (w:bu)
def gC(H:Hp)(h:bc)(a:al):HO->Prop
 |.lst xs=>xs.length<=bo/\∃(its:ae am)(n:ah),Vals xs its/\h.get? a=aa {cls:=.type "list",data:=.seq its.toArray n}
 |.tup xs=>xs.length<=bo/\∃its:ae am,Vals xs its/\j6 h a its.toArray
 |.dK kvs=>kvs.length<=bo/\(a==gx)=ak/\∃vs,KV kvs vs/\h.DictOf (cH P w) a vs
 |.dT kvs=>kvs.length<=bo/\(a==gx)=ak/\∃xs:ae (ae Key×al×am),
   ly (λ(p:ae Key×V)(q:ae Key×al×am)=>p.1=q.1/\H q.2.1=aa (.tup (p.1.map kV))/\RelV p.2 q.2.2) kvs xs/\
   ∃o es ep,h.get? a=aa o/\o.ExactDict/\o.data=.dict es ep/\es.toList=xs.map (entryOfKey (gj (cH P w)))/\(xs.map (·.1)).Nodup
 |.set S n=>h.SetOf (intKind P w) a S n
 |.ins C dx fs=>H dx=aa (.own a)/\fs.length<=1000/\dx≠a/\h.get? a=aa (js C dx)/\
   ∃mA,h.Ns1 dx mA/\(∀f,G8 (fs.lookup f) (mA f))/\rV mA (fs.map (·.1))
 |.own _=>∃o,h.get? a=aa o
 |.xd fs=>∃mA,h.Ns1 a mA/\∀f,G8 (fs.lookup f) (mA f)
 |.rng lo hi=>∃t u v,h.get? a=aa {cls:=.type "range",data:=.fields #[.int lo t,.int hi u,.int 1 v]}
 |.frz o u=>h.get? a=aa o/\gC H h a u
 |.tbl ps=>h.get? a=aa {cls:=.none,data:=.fields ps}
 |.met f x=>h.get? a=aa (vh (.ref f) (.ref x))
 |.ext φ=>φ h/\(∃o,h.get? a=aa o)/\∀h1 h2:bc,φ h1->(∀o,h1.get? a=aa o->h2.get? a=aa o)->φ h2
def HOk(H:Hp)(h:bc):Prop:=∀a o,H a=aa o->gC P w H h a o
end
section
variable {a:al}
theorem gC.lt(x:gC P w H h a o):a<h.objs.size:=by
 cases o with
 |lst xs=>obtain⟨_,_,_,_,e⟩:=x;exact bw e
 |tup xs=>obtain⟨_,_,_,p⟩:=x;exact p.tup.lt
 |dK kvs=>obtain⟨_,_,_,_,o,_,_,e,_⟩:=x;exact bw e
 |dT kvs=>obtain⟨_,_,_,_,o,_,_,e,_⟩:=x;exact bw e
 |set S n=>obtain⟨o,_,_,_,e,_⟩:=x;exact bw e
 |ins C dx fs=>obtain⟨_,_,_,e,_⟩:=x;exact bw e
 |own y=>obtain⟨_,e⟩:=x;exact bw e
 |xd fs=>obtain⟨_,⟨_,_,_,e,_⟩,_⟩:=x;exact bw e
 |rng lo hi=>obtain⟨_,_,_,e⟩:=x;exact bw e
 |frz ob u=>obtain⟨e,_⟩:=x;exact bw e
 |tbl ps=>exact bw (show h.get? a=aa _ from x)
 |met f y=>exact bw (show h.get? a=aa _ from x)
 |ext φ=>obtain⟨_,⟨_,e⟩,_⟩:=x;exact bw e
theorem Paired.aO0:∀{l₁:ae α}{l₂:ae β},ly F l₁ l₂->(∀a b,F a b->G a b)->ly G l₁ l₂
 |_,_,.nil,_=>.nil
 |_,_,.cons r t,f=>.cons (f _ _ r) (Paired.aO0 t f)
theorem gC.stay(x:gC P w H h a o)(k:∀b u,(b=a\/H b=aa (.own a))->h.get? b=aa u->h'.get? b=aa u)
 (ho:∀b,H b=aa (.own a)->H' b=aa (.own a))(ht:∀b xs,H b=aa (.tup xs)->H' b=aa (.tup xs)):gC P w H' h' a o:=by
 induction o with
 |lst xs=>obtain⟨z,its,n,r,e⟩:=x;exact⟨z,its,n,r,k _ _ (.inl rfl) e⟩
 |tup xs=>obtain⟨z,its,r,ob,e,c⟩:=x;exact⟨z,its,r,ob,k _ _ (.inl rfl) e,c⟩
 |dK kvs=>obtain⟨z,y,vs,r,ob,es,ep,e,c⟩:=x;exact⟨z,y,vs,r,ob,es,ep,k _ _ (.inl rfl) e,c⟩
 |dT kvs=>
  obtain⟨z,y,xs,r,ob,es,ep,e,c⟩:=x;exact⟨z,y,xs,Paired.aO0 r λp q z=>⟨z.1,ht _ _ z.2.1,z.2.2⟩,ob,es,ep,k _ _ (.inl rfl) e,c⟩
 |set S n=>obtain⟨ob,es,ep,t,e,c⟩:=x;exact⟨ob,es,ep,t,k _ _ (.inl rfl) e,c⟩
 |ins C dx fs=>
  obtain⟨d,z,ne,e,mA,⟨od,es,ep,e2,c⟩,r⟩:=x;exact⟨ho _ d,z,ne,k _ _ (.inl rfl) e,mA,⟨od,es,ep,k _ _ (.inr d) e2,c⟩,r⟩
 |own y=>obtain⟨ob,e⟩:=x;exact⟨ob,k _ _ (.inl rfl) e⟩
 |xd fs=>obtain⟨mA,⟨od,es,ep,e,c⟩,r⟩:=x;exact⟨mA,⟨od,es,ep,k _ _ (.inl rfl) e,c⟩,r⟩
 |rng lo hi=>obtain⟨t,u,v,e⟩:=x;exact⟨t,u,v,k _ _ (.inl rfl) e⟩
 |frz ob u ih=>obtain⟨e,q⟩:=x;exact⟨k _ _ (.inl rfl) e,ih q⟩
 |tbl ps=>
  have e:h.get? a=aa {cls:=.none,data:=.fields ps}:=x;show h'.get? a=aa {cls:=.none,data:=.fields ps};exact k a _ (.inl rfl) e
 |met f y=>
  have e:h.get? a=aa (vh (.ref f) (.ref y)):=x;show h'.get? a=aa (vh (.ref f) (.ref y));exact k a _ (.inl rfl) e
 |ext φ=>obtain⟨p,⟨o,e⟩,st⟩:=x;exact⟨st _ _ p λo q=>k _ _ (.inl rfl) q,⟨o,k _ _ (.inl rfl) e⟩,st⟩
theorem HOk.lt(x:HOk P w H h)(e:H a=aa o):a<h.objs.size:=(x a o e).lt
theorem HOk.fresh(x:HOk P w H h)(e:h.objs.size<=a):H a=aj:=by
 cases q:H a with
 |none=>rfl
 |some u=>exact bd (dy (x.lt q) e) (fN _)
theorem HOk.kept(x:HOk P w H h)(k:∀b u,h.get? b=aa u->h'.get? b=aa u):HOk P w H h':=λa o e=>
 (x a o e).stay (λb u _ q=>k b u q) (λ_ q=>q) λ_ _ q=>q
theorem HOk.laid(x:HOk P w H h)(k:∀b u,h.get? b=aa u->h'.get? b=aa u)(hp:h.objs.size<=a)(new:gC P w (upd H a o) h' a o):HOk P w (upd H a o) h':=λb u e=>by
 have hn:=x.fresh hp;by_cases hb:b=a
 ·subst hb;rw[aK] at e;cases e;exact new
 ·rw[aP hb] at e;exact(x b u e).stay (λc v _ q=>k c v q) (λc q=>by rw[aP (bK q hn)];exact q) λc xs q=>by rw[aP (bK q hn)];exact q
end
def Rd(H:Hp)(a:al)(u:HO):Prop:=H a=aa u\/∃o,H a=aa (.frz o u)
theorem Rd.of(h:H a=aa u):Rd H a u:=.inl h
theorem Rd.ok(r:Rd H a u)(x:HOk P w H h):gC P w H h a u:=by
 rcases r with r|⟨o,r⟩
 ·exact x a u r
 ·obtain⟨_,q⟩:=x a _ r;exact q
def Mut:ar HO->Prop
 |some (.lst _)=>gi
 |some (.dK _)=>gi
 |some (.dT _)=>gi
 |some (.set _ _)=>gi
 |some (.ins _ _ _)=>gi
 |some (.ext _)=>gi
 |_=>cg
section
variable {x e:al}
theorem HOk.write(ok:HOk P w H h)(mu:Mut (H x))(he:e=x\/H e=aa (.own x))(k:∀b u,b≠e->h.get? b=aa u->h'.get? b=aa u)(heo:∃u,h'.get? e=aa u)
 (new:gC P w (upd H x o') h' x o'):HOk P w (upd H x o') h':=λb u q=>by
 have nown:∀c y,H c=aa (.own y)->c≠x:=λc y r z=>by subst z;rw[r] at mu;exact mu
 have ntup:∀c xs,H c=aa (.tup xs)->c≠x:=λc xs r z=>by subst z;rw[r] at mu;exact mu
 by_cases hb:b=x
 ·subst hb;rw[aK] at q;cases q;exact new
 ·rw[aP hb] at q;by_cases hbe:b=e
  ·have q':H b=aa (.own x):=by
    rcases he with z|z
    ·exact bd (hbe.trans z) hb
    ·rw[hbe];exact z
   rw[q] at q';cases q';obtain⟨v,hv⟩:=heo;exact⟨v,by rw[hbe];exact hv⟩
  ·refine(ok b u q).stay (λc v hc r=>k c v ?_ r) (λc r=>by rw[aP (nown c b r)];exact r) λc xs r=>by rw[aP (ntup c xs r)];exact r
   rcases hc with rfl|hc
   ·exact hbe
   ·rintro rfl;rcases he with z|z
    ·exact nown c b hc z
    ·rw[hc] at z;cases z;exact hb rfl
end
structure Un(fs ex:ae al)(H H':Hp)(h h':bc):Prop where
 keep:∀b o,h.get? b=aa o->H b=aj->b∉fs->b∉ex->h'.get? b=aa o
 slot:∀b o,h.get? b=aa o->H b=aj->b∈fs->b∉ex->∃sl,h'.get? b=aa {o with slots:=sl}
 free:∀b o,h.get? b=aa o->H b=aj->b∉ex->H' b=aj
 there:∀b o,h.get? b=aa o->b∉ex->∃o',h'.get? b=aa o'
 tups:∀b xs,H b=aa (.tup xs)->H' b=aa (.tup xs)
 frzs:∀b o u,H b=aa (.frz o u)->H' b=aa (.frz o u)
 tbls:∀b ps,H b=aa (.tbl ps)->∃more,H' b=aa (.tbl (ps++more))
section
theorem Un.any(u:Un fs ex H H1 h h1)(q:h.get? b=aa ob)(n:H b=aj)(hx:b∉ex):∃sl,h1.get? b=aa {ob with slots:=sl}:=by
 by_cases hb:b∈fs
 ·exact u.slot b ob q n hb hx
 ·exact⟨ob.slots,u.keep b ob q n hb hx⟩
theorem Un.kept(k:∀b u,h.get? b=aa u->h'.get? b=aa u):Un fs ex H H h h':=
 ⟨λb ob q _ _ _=>k b ob q,λb ob q _ _ _=>⟨ob.slots,k b ob q⟩,λ_ _ _ n _=>n,λb ob q _=>⟨ob,k b ob q⟩,λ_ _ q=>q,λ_ _ _ q=>q,λ_ ps q=>⟨#[],by rw[q];simp⟩⟩
theorem Un.refl:Un fs ex H H h h:=Un.kept λ_ _ q=>q
theorem Un.laid(k:∀b u,h.get? b=aa u->h'.get? b=aa u)(hp:h.objs.size<=a)(hn:H a=aj):Un fs ex H (upd H a o) h h' where
 keep:=λb u q _ _ _=>k b u q
 slot:=λb u q _ _ _=>⟨u.slots,k b u q⟩
 free:=λb u q n _=>by rw[aP (cw (dy (bw q) hp))];exact n
 there:=λb u q _=>⟨u,k b u q⟩
 tups:=λb xs q=>by rw[aP (bK q hn)];exact q
 frzs:=λb u xs q=>by rw[aP (bK q hn)];exact q
 tbls:=λb ps q=>⟨#[],by rw[aP (bK q hn),q];simp⟩
theorem Un.write(mu:Mut (H x))(he:e=x\/H e=aa (.own x))(k:∀b u,b≠e->h.get? b=aa u->h'.get? b=aa u)(heo:∃u,h'.get? e=aa u):Un fs ex H (upd H x o) h h':=by
 have hx:∀b,H b=aj->b≠x:=λb n z=>by subst z;rw[n] at mu;exact mu
 have hb:∀b,H b=aj->b≠e:=λb n z=>by
  subst z;rcases he with r|r
  ·exact hx b n r
  ·rw[n] at r;cases r
 have hm:∀b u,H b=aa u->¬Mut (aa u)->b≠x:=λb u q nm z=>by subst z;rw[q] at mu;exact nm mu
 refine⟨λb u q n _ _=>k b u (hb b n) q,λb u q n _ _=>⟨u.slots,k b u (hb b n) q⟩,λb u q n _=>by rw[aP (hx b n)];exact n,λb u q _=>?_,
  λb xs q=>by rw[aP (hm b _ q λz=>z)];exact q,λb u xs q=>by rw[aP (hm b _ q λz=>z)];exact q,λb ps q=>⟨#[],by rw[aP (hm b _ q λz=>z),q];simp⟩⟩
 by_cases hbe:b=e
 ·subst hbe;exact heo
 ·exact⟨u,k b u hbe q⟩
end
noncomputable def trk(h:bc)(H:Hp):ae al:=(bj h.objs.size).filter λa=>(H a).isSome
def aB3(h:bc)(H:Hp):bc:=vk h (trk h H)
theorem UG(h:bc)(H:Hp):(aB3 h H).objs.size=h.objs.size:=PySem.W.hideAll_size _ _
theorem aB4(e:h.get? b=aa o)(n:H b=aj):(aB3 h H).get? b=aa o:=
 zo _ e λhm=>by
  have q:(H b).isSome=ag:=(nX.mp hm).2;rw[n] at q;simp at q
theorem aFf(e:(aB3 h H).get? b=aa o):h.get? b=aa o/\H b=aj:=by
 have e':h.get? b=aa o:=vn (trk h H) e;refine⟨e',?_⟩;cases q:H b with
 |none=>rfl
 |some x=>
  have hm:b∈trk h H:=nX.mpr ⟨hX.mpr (bw e'),by simp[q]⟩;have z:(aB3 h H).get? b=aj:=PySem.W.hideAll_none (trk h H) hm;rw[z] at e;cases e
structure Mod(K:bi)(mg:Str->ar am)(base:bc):Prop where
 kin:K.In base
 glob:base.Ns bE mg
 blt:∃mb,base.Ns vo mb/\∀x:Str,x ≠ "__name__"->mb x=eu x
 nolimit:base.NoLimit
/-- the context: a def's body (or a comprehension's block) running. base: fixed through the whole law;s₀,H₀: the entry;outer: the frames whose slots others may change (a def's callers);stack: all frames that run;
   ex: iterators that were made ahead of the entry and are walked here (a comprehension's);fn: the names whose cells were made at the entry (a def: all;a comprehension's block: its own);calm: not within an except suite;pn: Ψ that every state bears;xe: what is wanted of an exception that leaves the code -/
structure Cx where
 prog:bS
 w:bu
 K:bi
 mg:Str->ar am
 base:bc
 A:cf
 N:ae Str
 s₀:au
 H₀:Hp
 env:cS
 outer:ae cS
 stack:ae cS
 ex:ae al
 fn:Str->ax
 calm:ax
 pn:ae (al×bn)
 xe:am->au->Prop
noncomputable def frs(l:ae cS):ae al:=l.filterMap (·.frame)
abbrev Cx.fs(X:Cx):ae al:=frs X.outer
def Vis(sc:fx)(x:Str):Prop:=sc.names.lookup x=aa .local\/sc.names.lookup x=aa .cell\/sc.names.lookup x=aa .free
def Loc(sc:fx)(x:Str):Prop:=sc.names.lookup x=aa .local\/sc.names.lookup x=aa .cell
def Look(env:cS)(h:bc)(m:Str->ar am)(x:Str)(u:am):Prop:=
 (env.kindOf x=aa .local/\m x=aa u)\/((env.kindOf x=aa .cell\/env.kindOf x=aa .free)/\∃c,env.cells.lookup x=aa c/\h.IsCell c (aa u))
abbrev zSE(X:Cx)(e:Expr)(es:ae Expr):Prop:=cr (e::es) X.env=(ak,eval e X.env)::cr es X.env
abbrev zSP(X:Cx)(pos:dq)(es:ae Expr):Prop:=(ip pos (cr es X.env)).any (·.1)=ak
abbrev zFw(X:Cx)(cpos:dq)(es:ae Expr):Prop:=((ip cpos (cr es X.env)).all (λx=>!x.1)&&(backToKw cpos (zp [] X.env)).all (λx=>x.1.isSome)
  &&ϒ (es.length+([]:ae Keyword).length+(if ([]:ae Keyword).isEmpty then 0 else 1)<30))=ag
abbrev zSw(X:Cx)(e:Expr)(x:Str)(pos' pos:dq):Prop:=eL e (aa (.Name x pos')) pos.line X.env=pure ak
abbrev zFn(X:Cx)(x:Str):Prop:=X.fn x=ag\/X.env.scope.names.lookup x=aa .local
structure Cx.Ok(X:Cx):Prop where
 mod:Mod X.K X.mg X.base
 kind:X.env.scope.kind=.function
 glob:X.env.globals=bE
 blt:X.env.builtins=vo
 above:X.s₀.heap.objs.size<=X.env.locals
 inj:∀x y c,X.env.cells.lookup x=aa c->X.env.cells.lookup y=aa c->x=y
 has:∀x,(X.env.kindOf x=aa .cell\/X.env.kindOf x=aa .free)->∃c,X.env.cells.lookup x=aa c
 cab:∀x c,X.fn x=ag->X.env.cells.lookup x=aa c->X.s₀.heap.objs.size<=c
 hd:X.calm=ag->X.A.handled=aj
 frames:X.A.frames=aa X.stack
 stk:X.stack=X.outer\/(X.stack=X.env::X.outer/\X.env.frame=aa X.env.locals)
 exf:∀b∈X.ex,b≠X.env.locals/\∀x c,X.env.cells.lookup x=aa c->c≠b
 bs:∀b o,X.base.get? b=aa o->X.s₀.heap.get? b=aa o/\X.H₀ b=aj
 bsz:X.base.objs.size<=X.s₀.heap.objs.size
 noex:∀b o,X.base.get? b=aa o->b∉X.ex
 exfs:∀b∈X.ex,b∉X.fs
 Q8:X.s₀.heap.FunFrames X.base X.outer
 frf:∀b∈X.fs,X.H₀ b=aj
structure Inv(X:Cx)(Ψ:ae (al×bn))(σ:ae (ar V))(H:Hp)(s:au):Prop where
 ok:X.Ok
 os:s.os=X.s₀.os
 bare:iq s.gens
 base:Un X.fs X.ex X.H₀ H X.s₀.heap s.heap
 loc:∃m,s.heap.Ns X.env.locals m/\∀(i:ah)(x:Str)(v:V),X.N[i]?=aa x->σ[i]?=aa (aa v)->Vis X.env.scope x->∃u,RelV v u/\Look X.env s.heap m x u
 cell:∀x c,X.env.cells.lookup x=aa c->∃v,s.heap.IsCell c v
 free:H X.env.locals=aj
 freeC:∀x c,X.env.cells.lookup x=aa c->H c=aj
 pin:∀p∈X.pn++Ψ,s.heap.get? p.1=aa p.2/\H p.1=aj/\p.1≠X.env.locals/\p.1∉X.fs/\∀v,p.2.data≠.cell v
 hok:HOk X.prog X.w H s.heap
 len:σ.length=X.N.length
section
variable {X:Cx} {Ψ:ae (al×bn)} {σ:ae (ar V)} {H H':Hp} {s:au} {h':bc}
theorem Cx.Ok.aR6(ok:X.Ok)(e:X.base.get? b=aa o):b∉X.fs:=λhb=>by
 have:=(ok.Q8.mem hb).1;rw[e] at this;cases this
theorem Inv.bs(I:Inv X Ψ σ H s):∀b o,X.base.get? b=aa o->s.heap.get? b=aa o/\H b=aj:=λb o e=>
 ⟨I.base.keep b o (I.ok.bs b o e).1 (I.ok.bs b o e).2 (I.ok.aR6 e) (I.ok.noex b o e),I.base.free b o (I.ok.bs b o e).1 (I.ok.bs b o e).2 (I.ok.noex b o e)⟩
theorem Inv.bk(I:Inv X Ψ σ H s):∀b o,X.base.get? b=aa o->s.heap.get? b=aa o:=λb o e=>(I.bs b o e).1
theorem Inv.mod(I:Inv X Ψ σ H s):Mod X.K X.mg X.base:=I.ok.mod
theorem Inv.kIn(I:Inv X Ψ σ H s):X.K.In s.heap:=I.ok.mod.kin.keeps I.bk
theorem Inv.lt(I:Inv X Ψ σ H s):X.env.locals<s.heap.objs.size:=let ⟨_,hn,_⟩:=I.loc;hn.lt
theorem Inv.sz(I:Inv X Ψ σ H s):X.s₀.heap.objs.size<=s.heap.objs.size:=c_ I.ok.above (vq I.lt)
theorem Inv.aQc(I:Inv X Ψ σ H s)(h:s.heap.objs.size<=a):a∉X.fs:=λhb=>by
 obtain⟨_,o,ho,_⟩:=I.ok.Q8.mem hb;exact bd (dy (bw ho) (c_ I.sz h)) (fN _)
theorem Inv.cne(I:Inv X Ψ σ H s):∀x c,X.env.cells.lookup x=aa c->c≠X.env.locals:=λx c e z=>by
 obtain⟨v,o,ho,hd⟩:=I.cell x c e;obtain⟨m,⟨o',es,ep,ho',hd',_⟩,_⟩:=I.loc;rw[z,ho'] at ho;cases ho;rw[hd'] at hd;cases hd
theorem Inv.Q8(I:Inv X Ψ σ H s):s.heap.FunFrames X.base X.outer:=by
 have all:∀(l:ae cS),(∀b∈frs l,b∈X.fs)->X.s₀.heap.FunFrames X.base l->s.heap.FunFrames X.base l:=by
  intro l;induction l with
  |nil=>intro _ _;trivial
  |cons env r ih=>
   intro hs hl;obtain⟨hk,⟨L,o,hf,hn,ho,hd⟩,hr⟩:=hl;have hL:L∈X.fs:=hs L (by unfold frs;rw[n4,hf];exact de);obtain⟨sl,e⟩:=I.base.slot L o ho (I.ok.frf L hL) hL λz=>I.ok.exfs L z hL
   exact⟨hk,⟨L,_,hf,hn,e,hd⟩,ih (λb hb=>hs b (by unfold frs;rw[n4,hf];exact c8 _ hb)) hr⟩
 exact all X.outer (λ_ hb=>hb) I.ok.Q8
theorem Inv.stack(I:Inv X Ψ σ H s):s.heap.FunFrames X.base X.stack:=by
 rcases I.ok.stk with e|⟨e,hf⟩
 ·rw[e];exact I.Q8
 ·rw[e];obtain⟨m,hn,_⟩:=I.loc;refine .cons (by rw[I.ok.kind];decide) hf hn ?_ I.Q8;exact Heap.get?_none_of_le (c_ I.ok.bsz I.ok.above)
theorem Inv.K7(I:Inv X Ψ σ H s):∀b∈frs X.stack,b∈X.env.locals::X.fs:=λb hb=>by
 rcases I.ok.stk with e|⟨e,hf⟩
 ·rw[e] at hb;exact c8 _ hb
 ·rw[e] at hb;unfold frs at hb;rw[n4,hf] at hb;exact hb
theorem Inv.HN(I:Inv X Ψ σ H s):∀b∈frs X.stack,H b=aj:=λb hb=>by
 rcases cj.mp (I.K7 b hb) with e|hb
 ·rw[e];exact I.free
 ·obtain⟨_,o,ho,_⟩:=I.ok.Q8.mem hb;exact I.base.free b o ho (I.ok.frf b hb) λz=>I.ok.exfs b z hb
theorem Inv.step{ch:ae al}(I:Inv X Ψ σ H s)
 (hch:∀b∈ch,(b∈X.ex\/X.s₀.heap.objs.size<=b)/\b≠X.env.locals/\(∀x c,X.env.cells.lookup x=aa c->c≠b)/\∀p∈X.pn++Ψ,p.1≠b)
 (keep:∀b o,b≠X.env.locals->b∉X.fs->b∉ch->s.heap.get? b=aa o->H b=aj->h'.get? b=aa o)
 (slot:∀b o,b≠X.env.locals->b∈X.fs->b∉ch->s.heap.get? b=aa o->H b=aj->∃sl,h'.get? b=aa {o with slots:=sl})(free:∀b o,b∉ch->s.heap.get? b=aa o->H b=aj->H' b=aj)
 (there:∀b o,b∉ch->s.heap.get? b=aa o->∃o',h'.get? b=aa o')
 (tups:∀b xs,H b=aa (.tup xs)->H' b=aa (.tup xs))(frzs:∀b o u,H b=aa (.frz o u)->H' b=aa (.frz o u))(tbls:∀b ps,H b=aa (.tbl ps)->∃more,H' b=aa (.tbl (ps++more)))
 (ns:∀m,s.heap.Ns X.env.locals m->h'.Ns X.env.locals m)(hok:HOk X.prog X.w H' h')(hg:iq g') :
  Inv X Ψ σ H' {s with heap:=h',gens:=g',drawn:=d',toks:=t'}:=by
 have neL:∀b o,X.s₀.heap.get? b=aa o->b≠X.env.locals:=λb o e=>cw (dy (bw e) I.ok.above)
 have neC:∀b o,X.s₀.heap.get? b=aa o->b∉X.ex->b∉ch:=λb o e hx hb=>by
  rcases(hch b hb).1 with z|z
  ·exact hx z
  ·exact bd (dy (bw e) z) (fN _)
 have cellK:∀x c,X.env.cells.lookup x=aa c->∀v,s.heap.IsCell c v->h'.IsCell c v:=λx c e v ζ=>by
  obtain⟨o,ho,hd⟩:=ζ
  have nch:c∉ch:=λz=>(hch c z).2.2.1 x c e rfl
  by_cases hc:c∈X.fs
  ·obtain⟨sl,q⟩:=slot c o (I.cne x c e) hc nch ho (I.freeC x c e);exact⟨_,q,hd⟩
  ·exact⟨o,keep c o (I.cne x c e) hc nch ho (I.freeC x c e),hd⟩
 refine⟨I.ok,I.os,hg,⟨λb o e n hb hx=>?_,λb o e n hb hx=>?_,λb o e n hx=>?_,λb o e hx=>?_,λb xs e=>tups b xs (I.base.tups b xs e),λb o xs e=>frzs b o xs (I.base.frzs b o xs e),λb ps e=>?_⟩,?_,λx c e=>?_,?_,λx c e=>?_,λp hp=>?_,hok,I.len⟩
 ·exact keep b o (neL b o e) hb (neC b o e hx) (I.base.keep b o e n hb hx) (I.base.free b o e n hx)
 ·obtain⟨sl,e1⟩:=I.base.slot b o e n hb hx;obtain⟨sl',e2⟩:=slot b _ (neL b o e) hb (neC b o e hx) e1 (I.base.free b o e n hx);exact⟨sl',e2⟩
 ·obtain⟨o',e1⟩:=I.base.there b o e hx;exact free b o' (neC b o e hx) e1 (I.base.free b o e n hx)
 ·obtain⟨o',e1⟩:=I.base.there b o e hx;exact there b o' (neC b o e hx) e1
 ·obtain⟨m1,e1⟩:=I.base.tbls b ps e;obtain⟨m2,e2⟩:=tbls b _ e1;exact⟨m1++m2,by rw[e2,zq]⟩
 ·obtain⟨m,hn,hl⟩:=I.loc;refine⟨m,ns m hn,λi x v e1 e2 e3=>?_⟩;obtain⟨u,r,l⟩:=hl i x v e1 e2 e3;refine⟨u,r,?_⟩;rcases l with l|⟨k,c,e,z⟩
  ·exact .inl l
  ·exact .inr ⟨k,c,e,cellK x c e _ z⟩
 ·obtain⟨v,z⟩:=I.cell x c e;exact⟨v,cellK x c e v z⟩
 ·obtain⟨m,⟨o,_,_,ho,_⟩,_⟩:=I.loc;exact free _ o (λz=>(hch _ z).2.1 rfl) ho I.free
 ·obtain⟨v,o,ho,hd⟩:=I.cell x c e;exact free c o (λz=>(hch c z).2.2.1 x c e rfl) ho (I.freeC x c e)
 ·obtain⟨e,n,ne,nf,d⟩:=I.pin p hp;have nch:p.1∉ch:=λz=>(hch p.1 z).2.2.2 p hp rfl
  exact⟨keep p.1 p.2 ne nf nch e n,free p.1 p.2 nch e n,ne,nf,d⟩
theorem Inv.un(I:Inv X Ψ σ H s)(u:Un X.fs [] H H' s.heap h')(hok:HOk X.prog X.w H' h'):Inv X Ψ σ H' {s with heap:=h',toks:=t'}:=by
 obtain⟨m,⟨o,es,ep,ho,r⟩,_⟩:=id I.loc;obtain⟨sl,hL⟩:=u.any ho I.free 0x2;exact I.step (ch:=[]) (λ_ z=>nomatch z) (λb o _ hb _ e n=>u.keep b o e n hb 0x2) (λb o _ hb _ e n=>u.slot b o e n hb 0x2) (λb o _ e n=>u.free b o e n 0x2) (λb o _ e=>u.there b o e 0x2) u.tups u.frzs u.tbls (λm' hm=>by
  obtain⟨o',es',ep',ho',r'⟩:=hm;rw[ho] at ho';cases ho';exact⟨_,es',ep',hL,r'⟩) hok I.bare
theorem Inv.call(I:Inv X Ψ σ H s)(u:Un (frs X.stack) ch H H' s.heap h')(hok:HOk X.prog X.w H' h')(hg:iq g')
 (hch:∀b∈ch,(b∈X.ex\/X.s₀.heap.objs.size<=b)/\b≠X.env.locals/\(∀x c,X.env.cells.lookup x=aa c->c≠b)/\∀p∈X.pn++Ψ,p.1≠b) :
  Inv X Ψ σ H' {s with heap:=h',gens:=g',drawn:=d',toks:=t'}:=by
 obtain⟨m,⟨o,es,ep,ho,r⟩,_⟩:=id I.loc;obtain⟨sl,hL⟩:=u.any ho I.free λz=>(hch _ z).2.1 rfl
 exact I.step hch (λb o hL hb hc e n=>u.keep b o e n (λz=>(cj.mp (I.K7 b z)).elim hL hb) hc) (λb o _ _ hc e n=>u.any e n hc) (λb o hc e n=>u.free b o e n hc) (λb o hc e=>u.there b o e hc) u.tups u.frzs u.tbls (λm' hm=>by
  obtain⟨o',es',ep',ho',r'⟩:=hm;rw[ho] at ho';cases ho';exact⟨_,es',ep',hL,r'⟩) hok hg
theorem Inv.turned(I:Inv X Ψ σ H s)(k:∀b o,b≠it->s.heap.get? b=aa o->h'.get? b=aa o)(hn:H it=aj)(hL:it≠X.env.locals)
 (h1:it∈X.ex\/X.s₀.heap.objs.size<=it)(h2:∀x c,X.env.cells.lookup x=aa c->c≠it)(h3:∀p∈X.pn++Ψ,p.1≠it):Inv X Ψ σ H {s with heap:=h',toks:=t'}:=by
 have nit:∀b u,H b=aa u->b≠it:=λb u e z=>by rw[z,hn] at e;cases e
 refine I.step (ch:=[it]) (λb hb=>?_) (λb o _ _ hc e _=>k b o (λz=>hc (by simp[z])) e) (λb o _ _ hc e _=>⟨o.slots,k b o (λz=>hc (by simp[z])) e⟩) (λ_ _ _ _ n=>n)
  (λb o hc e=>⟨o,k b o (λz=>hc (by simp[z])) e⟩) (λ_ _ e=>e) (λ_ _ _ e=>e) (λb ps e=>⟨#[],by rw[e];simp⟩) (λm hm=>?_) (λb u e=>?_) I.bare
 ·have e:b=it:=by simpa using hb
  subst e;exact⟨h1,hL,h2,h3⟩
 ·obtain⟨o,es,ep,ho,r⟩:=hm;exact⟨o,es,ep,k _ o (Ne.symm hL) ho,r⟩
 ·refine(I.hok b u e).stay (λc v hc q=>k c v ?_ q) (λ_ q=>q) λ_ _ q=>q
  rcases hc with z|z
  ·rw[z];exact nit b u e
  ·exact nit c _ z
theorem Inv.tok(I:Inv X Ψ σ H s)(t:ah):Inv X Ψ σ H {s with toks:=t}:=I.un Un.refl I.hok
theorem Inv.kept(I:Inv X Ψ σ H s)(k:∀b u,s.heap.get? b=aa u->h'.get? b=aa u):Inv X Ψ σ H {s with heap:=h',toks:=t'}:=I.un (Un.kept k) (I.hok.kept k)
theorem Inv.laid(I:Inv X Ψ σ H s)(k:∀b u,s.heap.get? b=aa u->h'.get? b=aa u)(hp:s.heap.objs.size<=a)(new:gC X.prog X.w (upd H a o) h' a o) :
  Inv X Ψ σ (upd H a o) {s with heap:=h',toks:=t'}:=I.un (Un.laid k hp (I.hok.fresh hp)) (I.hok.laid k hp new)
theorem Inv.write(I:Inv X Ψ σ H s)(mu:Mut (H x))(he:e=x\/H e=aa (.own x))(k:∀b u,b≠e->s.heap.get? b=aa u->h'.get? b=aa u)(heo:∃u,h'.get? e=aa u)
 (new:gC X.prog X.w (upd H x o) h' x o):Inv X Ψ σ (upd H x o) {s with heap:=h',toks:=t'}:=I.un (Un.write mu he k heo) (I.hok.write mu he k heo new)
theorem Inv.weak(I:Inv X Ψ σ H s)(hl:σ'.length=σ.length)(w:∀(i:ah) v,σ'[i]?=aa (aa v)->σ[i]?=aa (aa v)):Inv X Ψ σ' H s:=
 ⟨I.ok,I.os,I.bare,I.base,let ⟨m,hn,hl'⟩:=I.loc;⟨m,hn,λi x v e1 e2 e3=>hl' i x v e1 (w i v e2) e3⟩,I.cell,I.free,I.freeC,I.pin,I.hok,hl.trans I.len⟩
theorem Inv.HQ(I:Inv X Ψ σ H s)(h:∀p∈pins',s.heap.get? p.1=aa p.2/\H p.1=aj/\p.1≠X.env.locals/\p.1∉X.fs/\∀v,p.2.data≠.cell v):Inv X pins' σ H s:=
 ⟨I.ok,I.os,I.bare,I.base,I.loc,I.cell,I.free,I.freeC,λp hp=>(dz.mp hp).elim (λz=>I.pin p (ir _ z)) (h p),I.hok,I.len⟩
theorem wH{N:ae Str}(hN:N.Nodup){i j:ah}(a:N[i]?=aa x)(b:N[j]?=aa x):i=j:=by
 obtain⟨h1,e1⟩:=dE.mp a;obtain⟨h2,e2⟩:=dE.mp b;exact(zr hN).mp (e1.trans e2.symm)
theorem zP(I:Inv X Ψ σ H s)(hN:X.N.Nodup)(hi:X.N[i]?=aa x)(hx:Loc X.env.scope x)(r:RelV v u)
 (h:∀s',Inv X Ψ (σ.set i (aa v)) H s'->(∃a,e9 a s.heap s'.heap/\(a=X.env.locals\/X.env.cells.lookup x=aa a))->Q () s')(hf:autoParam (zFn X x) Ξ):ϑ M A (storeName X.env x u) Q E s:=by
 obtain⟨m,hn,hl⟩:=id I.loc;have hcls:(X.env.scope.kind==.class||(X.env.scope.kind==.module&&X.env.locals !=X.env.globals))=ak:=by rw[I.ok.kind];rfl
 have hiσ:i<σ.length:=by rw[I.len];exact(dE.mp hi).1
 have cne:=I.cne;have tracked:∀{a:al}{h':bc},(∃o,s.heap.get? a=aa o/\H a=aj)->e9 a s.heap h'->HOk X.prog X.w H h':=λ{a h'} ha hs b ob e=>by
  obtain⟨_,_,hfree⟩:=ha;refine(I.hok b ob e).stay (λc w' hc q=>(hs.2 c ?_).trans q) (λ_ q=>q) λ_ _ q=>q
  rintro rfl;rcases hc with rfl|hc
  ·rw[hfree] at e;cases e
  ·rw[hfree] at hc;cases hc
 rcases hx with hk|hk
 ·refine wpAny_storeName_local hk hn (λh' hn' hs=>?_) hcls;obtain⟨oL,_,_,hoL,_⟩:=id hn;refine h _ ⟨I.ok,I.os,I.bare,⟨λb o e n hb hx=>?_,λb o e n hb hx=>?_,I.base.free,λb o e hx=>?_,I.base.tups,I.base.frzs,I.base.tbls⟩,⟨_,hn',λj y v' e1 e2 e3=>?_⟩,λy c e=>?_,I.free,I.freeC,λp hp=>?_,tracked ⟨oL,hoL,I.free⟩ hs,by simpa using I.len⟩ ⟨_,hs,.inl rfl⟩
  ·exact(hs.2 b (cw (dy (bw e) I.ok.above))).trans (I.base.keep b o e n hb hx)
  ·obtain⟨sl,e1⟩:=I.base.slot b o e n hb hx;exact⟨sl,(hs.2 b (cw (dy (bw e) I.ok.above))).trans e1⟩
  ·obtain⟨o',e1⟩:=I.base.there b o e hx;exact⟨o',(hs.2 b (cw (dy (bw e) I.ok.above))).trans e1⟩
  ·by_cases hj:j=i
   ·subst hj;rw[hi] at e1;cases e1;rw[fy hiσ] at e2;cases e2;exact⟨u,r,.inl ⟨hk,by simp⟩⟩
   ·rw[du (Ne.symm hj)] at e2;obtain⟨u',r',q⟩:=hl j y v' e1 e2 e3;refine⟨u',r',?_⟩;rcases q with ⟨k,e⟩|⟨k,c,e,z⟩
    ·refine .inl ⟨k,?_⟩;have:y≠x:=λe=>hj (wH hN e1 (e▸hi))
     simp[this,e]
    ·exact .inr ⟨k,c,e,z.sameBut hs (cne y c e)⟩
  ·obtain⟨w',z⟩:=I.cell y c e;exact⟨w',z.sameBut hs (cne y c e)⟩
  ·obtain⟨e,n,ne,nf,d⟩:=I.pin p hp;exact⟨(hs.2 p.1 ne).trans e,n,ne,nf,d⟩
 ·have hfn:X.fn x=ag:=by
   rcases hf with z|z
   ·exact z
   ·rw[z] at hk;cases hk
  obtain⟨c,hc⟩:=I.ok.has x (.inl hk);obtain⟨w',z⟩:=I.cell x c hc;refine wpAny_storeName_cell I.ok.kind hk hc z (λh' hc' hs=>?_);obtain⟨oc,hoc,hocd⟩:=id z;refine h {s with heap:=h'} ⟨I.ok,I.os,I.bare,⟨λb o e n hb hx=>?_,λb o e n hb hx=>?_,I.base.free,λb o e hx=>?_,I.base.tups,I.base.frzs,I.base.tbls⟩,⟨m,hn.sameBut hs (Ne.symm (cne x c hc)),λj y v' e1 e2 e3=>?_⟩,λy c' e=>?_,I.free,I.freeC,λp hp=>?_,tracked ⟨oc,hoc,I.freeC x c hc⟩ hs,by simpa using I.len⟩ ⟨c,hs,.inr hc⟩
  ·exact(hs.2 b (cw (dy (bw e) (I.ok.cab x c hfn hc)))).trans (I.base.keep b o e n hb hx)
  ·obtain⟨sl,e1⟩:=I.base.slot b o e n hb hx;exact⟨sl,(hs.2 b (cw (dy (bw e) (I.ok.cab x c hfn hc)))).trans e1⟩
  ·obtain⟨o',e1⟩:=I.base.there b o e hx;exact⟨o',(hs.2 b (cw (dy (bw e) (I.ok.cab x c hfn hc)))).trans e1⟩
  ·by_cases hj:j=i
   ·subst hj;rw[hi] at e1;cases e1;rw[fy hiσ] at e2;cases e2;exact⟨u,r,.inr ⟨.inl hk,c,hc,hc'⟩⟩
   ·rw[du (Ne.symm hj)] at e2;obtain⟨u',r',q⟩:=hl j y v' e1 e2 e3;refine⟨u',r',?_⟩;rcases q with q|⟨k,c',e,z'⟩
    ·exact .inl q
    ·refine .inr ⟨k,c',e,z'.sameBut hs ?_⟩;rintro rfl;exact hj (wH hN e1 (I.ok.inj _ _ _ e hc▸hi))
  ·by_cases hcc:c'=c
   ·subst hcc;exact⟨_,hc'⟩
   ·obtain⟨w2,z2⟩:=I.cell y c' e;exact⟨w2,z2.sameBut hs hcc⟩
  ·obtain⟨e,n,ne,nf,d⟩:=I.pin p hp;refine⟨(hs.2 p.1 ?_).trans e,n,ne,nf,d⟩;intro q;rw[q,hoc] at e;have q':oc=p.2:=ft e;exact d w' (by rw[<-q'];exact hocd)
theorem wI(I:Inv X Ψ σ H s)(hN:X.N.Nodup)(hi:X.N[i]?=aa x)(hx:Loc X.env.scope x)(r:RelV v u)
 (h:∀s',Inv X Ψ (σ.set i (aa v)) H s'->Q () s')(hf:autoParam (zFn X x) Ξ):ϑ M A (storeName X.env x u) Q E s:=
 zP I hN hi hx r (λs' I' _=>h s' I') hf
theorem Inv.call'(I:Inv X Ψ σ H s)(ho:s'.os=s.os)(u:Un (frs X.stack) ch H H' s.heap s'.heap)(hok:HOk X.prog X.w H' s'.heap)(hg:iq s'.gens)
 (hch:∀b∈ch,(b∈X.ex\/X.s₀.heap.objs.size<=b)/\b≠X.env.locals/\(∀x c,X.env.cells.lookup x=aa c->c≠b)/\∀p∈X.pn++Ψ,p.1≠b):Inv X Ψ σ H' s':=by
 obtain⟨h',g',d',t',o'⟩:=s';have e:o'=s.os:=ho;subst e;exact I.call u hok hg hch
end
abbrev XK:=am->ar al->Hp->Prop
noncomputable abbrev St:=ae (ar V)
abbrev VK:=V->Hp->Prop
abbrev TE:=St->Hp->VK->Prop
abbrev TT:=St->Hp->(ax->Hp->Prop)->Prop
abbrev TA:=St->Hp->(ae V->Hp->Prop)->Prop
structure Ends where
 nx:St->Hp->Prop
 rt:VK
 bk:St->Hp->Prop:=λ_ _=>cg
 ct:St->Hp->Prop:=λ_ _=>cg
abbrev TS:=Ends->St->Hp->Prop
def EP(X:Cx)(Ψ:ae (al×bn))(σ:St)(Q:VK)(u:am)(s':au):Prop:=∃v H',Inv X Ψ σ H' s'/\RelV v u/\Q v H'
def TP(X:Cx)(Ψ:ae (al×bn))(σ:St)(Q:ax->Hp->Prop)(b:ax)(s':au):Prop:=∃H',Inv X Ψ σ H' s'/\Q b H'
def AP(X:Cx)(Ψ:ae (al×bn))(σ:St)(Q:ae V->Hp->Prop)(us:ae am)(s':au):Prop:=∃vs H',Inv X Ψ σ H' s'/\Vals vs us/\Q vs H'
def SP(X:Cx)(Ψ:ae (al×bn))(D:Ends)(f:Flow)(s':au):Prop:=
 match f with
 |.next=>∃σ' H',Inv X Ψ σ' H' s'/\D.nx σ' H'
 |.brk=>∃σ' H',Inv X Ψ σ' H' s'/\D.bk σ' H'
 |.cont=>∃σ' H',Inv X Ψ σ' H' s'/\D.ct σ' H'
 |.ret u=>∃v σ' H',Inv X Ψ σ' H' s'/\RelV v u/\D.rt v H'
def PE(X:Cx)(e:Expr)(t:TE):Prop:=
 ∀(Ψ:ae (al×bn))(s:au)(σ:St)(H:Hp)(Q:VK),Inv X Ψ σ H s->t σ H Q->ϑ (ay X.prog X.w) X.A (eval e X.env) (EP X Ψ σ Q) X.xe s
def PT(X:Cx)(e:Expr)(t:TT):Prop:=
 ∀(Ψ:ae (al×bn))(s:au)(σ:St)(H:Hp)(Q:ax->Hp->Prop),Inv X Ψ σ H s->t σ H Q->ϑ (ay X.prog X.w) X.A (rX e X.env (eval e X.env)) (TP X Ψ σ Q) X.xe s
def PW(X:Cx)(e:Expr)(t:TT):Prop:=
 ∀(whole:Sem am)(Ψ:ae (al×bn))(s:au)(σ:St)(H:Hp)(Q:ax->Hp->Prop),Inv X Ψ σ H s->t σ H Q->ϑ (ay X.prog X.w) X.A (rX e X.env whole) (TP X Ψ σ Q) X.xe s
theorem PW.pt(h:PW X e t):PT X e t:=h _
def PA(X:Cx)(es:ae Expr)(t:TA):Prop:=
 ∀(pos:dq)(Ψ:ae (al×bn))(s:au)(σ:St)(H:Hp)(Q:ae V->Hp->Prop),Inv X Ψ σ H s->t σ H Q->ϑ (ay X.prog X.w) X.A (kF (ip pos (cr es X.env))) (AP X Ψ σ Q) X.xe s
def PS(X:Cx)(st:bz)(t:TS):Prop:=
 ∀(Ψ:ae (al×bn))(s:au)(σ:St)(H:Hp)(D:Ends),Inv X Ψ σ H s->t D σ H->ϑ (ay X.prog X.w) X.A (exec st X.env) (SP X Ψ D) X.xe s
def PSs(X:Cx)(st:ae bz)(t:TS):Prop:=
 ∀(Ψ:ae (al×bn))(s:au)(σ:St)(H:Hp)(D:Ends),Inv X Ψ σ H s->t D σ H->ϑ (ay X.prog X.w) X.A (execs st X.env) (SP X Ψ D) X.xe s
theorem thn(h:ϑ M A t Q E s)(hQ:∀a s,Q a s->Q' a s):ϑ M A t Q' E s:=fR h hQ λ_ _ x=>x
section
variable {X:Cx}
theorem bin(ha:PE X a ta)(hb:PE X b tb){R:V->V->Hp->Prop}(I:Inv X Ψ σ H s)(h:ta σ H λx H1=>tb σ H1 λy H2=>R x y H2)
 {α:Type}{Q:α->au->Prop}{f:am->am->Sem α}
 (hf:∀v u s2 x y H2,Inv X Ψ σ H2 s2->RelV x v->RelV y u->R x y H2->ϑ (ay X.prog X.w) X.A (f v u) Q X.xe s2) :
  ϑ (ay X.prog X.w) X.A (eval a X.env) (λv s₁=>ϑ (ay X.prog X.w) X.A (eval b X.env) (λu s₂=>ϑ (ay X.prog X.w) X.A (f v u) Q X.xe s₂) X.xe s₁) X.xe s:=by
 refine thn (ha Ψ s σ H _ I h) λv s1 ζ=>?_;obtain⟨x,H1,I1,r1,q1⟩:=ζ
 refine thn (hb Ψ s1 σ H1 _ I1 q1) λu s2 ζ=>?_;obtain⟨y,H2,I2,r2,q2⟩:=ζ
 exact hf v u s2 x y H2 I2 r1 r2 q2
noncomputable def gB(i:ah):TE:=λσ H Q=>∃v,σ[i]?=aa (aa v)/\Q v H
noncomputable def tC(v:V):TE:=λ_ H Q=>Q v H
theorem aV(hN:X.N[i]?=aa x)(hv:Vis X.env.scope x)(hd:autoParam (nDb x) Λ)(hcd:autoParam (nCd x) Λ):PE X (.Name x pos) (gB i):=by
 intro Ψ s σ H Q I h;obtain⟨v,e,h⟩:=h;obtain⟨m,hn,hl⟩:=I.loc;obtain⟨u,r,l⟩:=hl i x v hN e hv;have fin:EP X Ψ σ Q u s:=⟨v,H,I,r,h⟩
 rcases l with ⟨hk,hm⟩|⟨hk,c,hc,hcell⟩
 ·exact vx (wpAny_loadName_local I.ok.kind hk hn hm fin) hd
 ·rcases hk with hk|hk
  ·exact vx (wpAny_loadName_cell I.ok.kind hk hc hcell fin) hd
  ·exact vx (wpAny_loadName_free I.ok.kind hk hc hcell fin hcd) hd
theorem oY{i j pos}:PE X (.Constant (.int i) j pos) (tC (.int i)):=λ_ _ _ H _ I h=>wpAny_Constant_int ⟨.int i,H,I.tok _,⟨_,rfl⟩,h⟩
theorem aO1{b j pos}:PE X (.Constant (.bool b) j pos) (tC (.bl b)):=λ_ _ _ H _ I h=>Constant_bool ⟨.bl b,H,I,rfl,h⟩
theorem aJf{j pos}:PE X (.Constant .none j pos) (tC .non):=λ_ _ _ H _ I h=>Constant_none ⟨.non,H,I,rfl,h⟩
theorem aDw{x j pos}:PE X (.Constant (.str x) j pos) (tC (.str x)):=λ_ _ _ H _ I h=>Calls.Constant_str ⟨.str x,H,I.tok _,⟨_,rfl⟩,h⟩
def Gl(X:Cx)(x:Str):Prop:=X.env.kindOf x=aa .globalImplicit
theorem qM(I:Inv X Ψ σ H s)(hg:Gl X x)(hm:X.mg x=aa u)(h:Q u s)
 (hd:autoParam (nDb x) Λ):ϑ (ay X.prog X.w) X.A (eval (.Name x pos) X.env) Q E s:=
 zt I.ok.kind hg (Calls.loadGlobal_global (by rw[I.ok.glob];exact I.mod.glob.keeps I.bk) hm h) hd
theorem mQ(I:Inv X Ψ σ H s)(hg:Gl X x)(hm:X.mg x=aj)(hv:eu x=aa u)(h:Q u s)
 (hn:autoParam (x ≠ "__name__") Λ)(hd:autoParam (nDb x) Λ):ϑ (ay X.prog X.w) X.A (eval (.Name x pos) X.env) Q E s:=by
 obtain⟨mb,h1,h2⟩:=I.mod.blt;exact zt I.ok.kind hg (Calls.loadGlobal_builtin (by rw[I.ok.glob];exact I.mod.glob.keeps I.bk) hm (by rw[I.ok.blt];exact h1.keeps I.bk) ((h2 x hn).trans hv) h) hd
theorem aFg(hg:Gl X x)(hm:X.mg x=aa u)(r:RelV v u)(hd:autoParam (nDb x) Λ):PE X (.Name x pos) (tC v):=
 λ_ _ _ H _ I h=>qM I hg hm ⟨v,H,I,r,h⟩ hd
theorem aFh(hg:Gl X x)(hm:X.mg x=aj)(hv:eu x=aa u)(r:RelV v u)(hn:autoParam (x ≠ "__name__") Λ)(hd:autoParam (nDb x) Λ):PE X (.Name x pos) (tC v):=
 λ_ _ _ H _ I h=>mQ I hg hm hv ⟨v,H,I,r,h⟩ hn hd
def t2I(ta tb:TE)(k:ai->ai->Hp->Prop):St->Hp->Prop:=λσ H=>ta σ H λx H1=>tb σ H1 λy H2=>∃i j,x=.int i/\y=.int j/\k i j H2
noncomputable def aIy(ta tb:TE):TE:=λσ H Q=>t2I ta tb (λi j H2=>Q (.int (i+j)) H2) σ H
noncomputable def aO2(ta tb:TE):TE:=λσ H Q=>t2I ta tb (λi j H2=>Q (.int (i-j)) H2) σ H
noncomputable def aQd(ta tb:TE):TE:=λσ H Q=>t2I ta tb (λi j H2=>(-(2 ^ 64)<i/\i<2 ^ 64)/\Q (.int (i*j)) H2) σ H
variable {a b:Expr} {ta tb:TE} {pos:dq}
theorem zQ(ha:PE X a ta)(hb:PE X b tb):PE X (.BinOp a .Add b pos) (aIy ta tb):=by
 intro Ψ s σ H Q I h;refine r_ (bin ha hb I h λv u s2 x y H2 I2 rx ry q=>?_);obtain⟨i,j,rfl,rfl,q⟩:=q;obtain⟨t,rfl⟩:=rx;obtain⟨t',rfl⟩:=ry;exact add_int ⟨.int _,H2,I2.tok _,⟨_,rfl⟩,q⟩
theorem aDx(ha:PE X a ta)(hb:PE X b tb):PE X (.BinOp a .Sub b pos) (aO2 ta tb):=by
 intro Ψ s σ H Q I h;refine r_ (bin ha hb I h λv u s2 x y H2 I2 rx ry q=>?_);obtain⟨i,j,rfl,rfl,q⟩:=q;obtain⟨t,rfl⟩:=rx;obtain⟨t',rfl⟩:=ry;exact sub_int ⟨.int _,H2,I2.tok _,⟨_,rfl⟩,q⟩
theorem aJg(ha:PE X a ta)(hb:PE X b tb):PE X (.BinOp a .Mult b pos) (aQd ta tb):=by
 intro Ψ s σ H Q I h;refine r_ (bin ha hb I h λv u s2 x y H2 I2 rx ry q=>?_);obtain⟨i,j,rfl,rfl,⟨q1,q2⟩,q⟩:=q;obtain⟨t,rfl⟩:=rx;obtain⟨t',rfl⟩:=ry;exact mul_int ⟨.int _,H2,I2.tok _,⟨_,rfl⟩,q⟩ (.of_left (vz q1 q2))
def PC(X:Cx)(op:se)(a b:Expr)(t:TE):Prop:=
 ∀(Ψ:ae (al×bn))(s:au)(σ:St)(H:Hp)(Q:VK),Inv X Ψ σ H s->t σ H Q->
  ϑ (ay X.prog X.w) X.A (eval a X.env) (λv s₁=>ϑ (ay X.prog X.w) X.A (eval b X.env) (λu s₂=>ϑ (ay X.prog X.w) X.A (dL op v u) (EP X Ψ σ Q) X.xe s₂) X.xe s₁) X.xe s
theorem aB5(b:Expr)(h:op≠.In)(h2:op≠.NotIn):iu op b=ak:=by
 have e1:(op==zu)=ak:=by cases op<;>first|rfl|exact bd rfl h
 have e2:(op==zv)=ak:=by cases op<;>first|rfl|exact bd rfl h2
 cases b<;>simp[iu,e1,e2]
noncomputable def aO3(p:ai->ai->ax)(ta tb:TE):TE:=λσ H Q=>t2I ta tb (λi j H2=>Q (.bl (p i j)) H2) σ H
abbrev tGt:TE->TE->TE:=aO3 λi j=>ϒ (j<i)
abbrev aO4:TE->TE->TE:=aO3 λi j=>ϒ (i=j)
theorem aDy(ha:PE X a ta)(hb:PE X b tb)
 (jt:∀(i j:ai) (t u:em) (Q:am->au->Prop) (s:au),Q (.bool (p i j)) s->ϑ (ay X.prog X.w) X.A (dL op (.int i t) (.int j u)) Q X.xe s):PC X op a b (aO3 p ta tb):=by
 intro Ψ s σ H Q I h;refine bin ha hb I h λv u s2 x y H2 I2 rx ry q=>?_
 obtain⟨i,j,rfl,rfl,q⟩:=q;obtain⟨t,rfl⟩:=rx;obtain⟨t',rfl⟩:=ry;exact jt i j t t' _ s2 ⟨.bl _,H2,I2,rfl,q⟩
theorem aO5(ha:PE X a ta)(hb:PE X b tb):PC X .Gt a b (tGt ta tb):=aDy ha hb λ_ _ _ _ _ _ h=>gt_int h
theorem aDz(ha:PE X a ta)(hb:PE X b tb):PC X .Eq a b (aO4 ta tb):=aDy ha hb λ_ _ _ _ _ _ h=>eq_int (by rw[zw];exact h)
noncomputable def tB(t:TE):TT:=λσ H Q=>t σ H λx H1=>∃c,x=.bl c/\Q c H1
theorem UJ(h:PC X op a b t)(h1:iu op b=ak:=by first|exact aB5 _ 0x4 0x4|rfl):PT X (.Compare a [op] [b] pos) (tB t):=by
 intro Ψ s σ H Q I hw;refine zx (thn (h Ψ s σ H _ I hw) λv s1 h1=>thn h1 λu s2 h2=>thn h2 λc s3 ⟨x,H1,I1,r1,q1⟩=>?_) h1;obtain⟨d,rfl,q⟩:=q1;cases r1;exact vE ⟨H1,I1,q⟩
variable {tA tB':TT} {rest:ae Expr}
noncomputable def aR7(t u:TT):TT:=λσ H Q=>t σ H λc H1=>if c=ag then u σ H1 Q else Q ak H1
noncomputable def tOr(t u:TT):TT:=λσ H Q=>t σ H λc H1=>if c=ag then Q ag H1 else u σ H1 Q
noncomputable def aR8(t:TT):TT:=λσ H Q=>t σ H λc H1=>Q (!c) H1
theorem UL(ha:PT X a tA):PW X (.BoolOp .And [a] pos) tA:=by
 intro wh Ψ s σ H Q I h;refine isTrue_and (thn (ha Ψ s σ H Q I h) λc s1 e=>?_);cases c with
 |true=>exact isTrue_and_nil e
 |false=>exact e
theorem aJh(ha:PT X a tA):PW X (.BoolOp .Or [a] pos) tA:=by
 intro wh Ψ s σ H Q I h;refine isTrue_or (thn (ha Ψ s σ H Q I h) λc s1 e=>?_);cases c with
 |false=>exact isTrue_or_nil e
 |true=>exact e
theorem aE0(ha:PT X a tA)(hb:PW X (.BoolOp .And (b::rest) pos) tB'):PW X (.BoolOp .And (a::b::rest) pos) (aR7 tA tB'):=by
 intro wh Ψ s σ H Q I h;refine isTrue_and (thn (ha Ψ s σ H _ I h) λc s1 ζ=>?_);obtain⟨H1,I1,q1⟩:=ζ;cases c with
 |true=>exact hb wh Ψ s1 σ H1 Q I1 q1
 |false=>exact⟨H1,I1,q1⟩
theorem aO6(ha:PT X a tA)(hb:PW X (.BoolOp .Or (b::rest) pos) tB'):PW X (.BoolOp .Or (a::b::rest) pos) (tOr tA tB'):=by
 intro wh Ψ s σ H Q I h;refine isTrue_or (thn (ha Ψ s σ H _ I h) λc s1 ζ=>?_);obtain⟨H1,I1,q1⟩:=ζ;cases c with
 |true=>exact⟨H1,I1,q1⟩
 |false=>exact hb wh Ψ s1 σ H1 Q I1 q1
theorem aJi(ha:PT X a tA):PT X (.UnaryOp .Not a pos) (aR8 tA):=by
 intro Ψ s σ H Q I h;exact isTrue_not (ha Ψ s σ H (λc H1=>Q (!c) H1) I h)
end
def SqL(K:bi)(H:Hp)(a:al)(xs:ae V):Prop:=
 Rd H a (.lst xs)\/
  ∃(o:bn)(its:br am)(n:ah),K.lookup a=aa o/\o.cls=.type "list"/\o.dict=aj/\o.data=.seq its n/\its.size<=bo/\Vals xs its.toList
def SqT(K:bi)(H:Hp)(a:al)(xs:ae V):Prop:=
 Rd H a (.tup xs)\/
  ∃(o:bn)(its:br am)(n:ah),K.lookup a=aa o/\o.cls=.type "tuple"/\o.data=.seq its n/\its.size<=bo/\Vals xs its.toList
noncomputable def aR9:am->ar V
 |.none=>aa .non
 |.bool b=>aa (.bl b)
 |.int i _=>aa (.int i)
 |.str x _=>aa (.str x)
 |.bytes b _=>aa (.byt b)
 |.float b _=>aa (.flt b)
 |.ref a=>aa (.ref a)
 |.type n=>aa (.ty n)
 |_=>aj
theorem RelV.abs(r:RelV x u):aR9 u=aa x:=by
 cases x with
 |non=>cases r;rfl
 |bl _=>cases r;rfl
 |int _=>obtain⟨t,rfl⟩:=r;rfl
 |str _=>obtain⟨t,rfl⟩:=r;rfl
 |byt _=>obtain⟨t,rfl⟩:=r;rfl
 |flt _=>obtain⟨t,rfl⟩:=r;rfl
 |ref _=>cases r;rfl
 |ty _=>cases r;rfl
theorem RelV.inj(r:RelV x u)(q:RelV y u):x=y:=ft (r.abs.symm.trans q.abs)
theorem Vals.inj:∀{xs ys:ae V}{us:ae am},Vals xs us->Vals ys us->xs=ys:=by
 intro xs ys us a b;induction a generalizing ys with
 |nil=>cases b;rfl
 |cons r t ih=>cases b with|cons r' t'=>rw[r.inj r',ih t']
section
variable {X:Cx} {Ψ:ae (al×bn)} {σ:St} {H:Hp} {s:au} {a:al} {xs ys:ae V}
theorem SqL.of{K:bi}(h:H a=aa (.lst xs)):SqL K H a xs:=.inl (.inl h)
theorem SqT.of{K:bi}(h:H a=aa (.tup xs)):SqT K H a xs:=.inl (.inl h)
theorem Inv.list(I:Inv X Ψ σ H s)(h:SqL X.K H a xs):∃its:ae am,Vals xs its/\PlainL s.heap a its.toArray/\xs.length<=bo:=by
 rcases h with h|⟨o,its,n,hk,hc,hd,hs,hz,r⟩
 ·obtain⟨z,its,n,r,e⟩:=h.ok I.hok;exact⟨its,r,⟨_,n,e,rfl,rfl,rfl⟩,z⟩
 ·refine⟨its.toList,r,⟨o,n,I.kIn a o hk,hc,hd,by simpa using hs⟩,?_⟩;have e:=r.length;simp only[sf] at e;lia
theorem Inv.tuple(I:Inv X Ψ σ H s)(h:SqT X.K H a xs):∃its:ae am,Vals xs its/\jr s.heap a its.toArray/\xs.length<=bo:=by
 rcases h with h|⟨o,its,n,hk,hc,hs,hz,r⟩
 ·obtain⟨z,its,r,p⟩:=h.ok I.hok;exact⟨its,r,p.tup,z⟩
 ·refine⟨its.toList,r,⟨o,I.kIn a o hk,hc,n,by simpa using hs⟩,?_⟩;have e:=r.length;simp only[sf] at e;lia
theorem Inv.aB6(I:Inv X Ψ σ H s)(h:SqL X.K H a xs)(h':SqL X.K H a ys):xs=ys:=by
 obtain⟨its,r,⟨o,n,e,_,_,d⟩,_⟩:=I.list h;obtain⟨its',r',⟨o',n',e',_,_,d'⟩,_⟩:=I.list h';rw[e] at e';cases e';rw[d] at d';injection d' with d1 _
 have:its=its':=by simpa using cy vF d1
 subst this;exact r.inj r'
theorem Inv.UT(I:Inv X Ψ σ H s)(h:SqT X.K H a xs)(h':SqT X.K H a ys):xs=ys:=by
 obtain⟨its,r,⟨o,e,_,n,d⟩,_⟩:=I.tuple h;obtain⟨its',r',⟨o',e',_,n',d'⟩,_⟩:=I.tuple h';rw[e] at e';cases e';rw[d] at d';injection d' with d1 _
 have:its=its':=by simpa using cy vF d1
 subst this;exact r.inj r'
end
noncomputable abbrev Cx.wish(X:Cx)(E:am->au->Prop):Cx:={X with xe:=E}
noncomputable abbrev Cx.nox(X:Cx):Cx:=X.wish λ_ _=>cg
theorem Cx.Ok.wish{X:Cx}(ok:X.Ok)(E:am->au->Prop):(X.wish E).Ok:=
 ⟨ok.mod,ok.kind,ok.glob,ok.blt,ok.above,ok.inj,ok.has,ok.cab,ok.hd,ok.frames,ok.stk,ok.exf,ok.bs,ok.bsz,ok.noex,ok.exfs,ok.Q8,ok.frf⟩
theorem Cx.Ok.nU{X:Cx}(ok:(X.wish E).Ok):X.Ok:=
 ⟨ok.mod,ok.kind,ok.glob,ok.blt,ok.above,ok.inj,ok.has,ok.cab,ok.hd,ok.frames,ok.stk,ok.exf,ok.bs,ok.bsz,ok.noex,ok.exfs,ok.Q8,ok.frf⟩
section
theorem Inv.wish(I:Inv X Ψ σ H s)(E:am->au->Prop):Inv (X.wish E) Ψ σ H s:=⟨I.ok.wish E,I.os,I.bare,I.base,I.loc,I.cell,I.free,I.freeC,I.pin,I.hok,I.len⟩
theorem Inv.nU(I:Inv (X.wish E) Ψ σ H s):Inv X Ψ σ H s:=⟨I.ok.nU,I.os,I.bare,I.base,I.loc,I.cell,I.free,I.freeC,I.pin,I.hok,I.len⟩
theorem SP.nU(h:SP (X.wish E) Ψ D f s'):SP X Ψ D f s':=by
 cases f with
 |next=>obtain⟨σ',H',I,q⟩:=h;exact⟨σ',H',I.nU,q⟩
 |brk=>obtain⟨σ',H',I,q⟩:=h;exact⟨σ',H',I.nU,q⟩
 |cont=>obtain⟨σ',H',I,q⟩:=h;exact⟨σ',H',I.nU,q⟩
 |ret u=>obtain⟨v,σ',H',I,r,q⟩:=h;exact⟨v,σ',H',I.nU,r,q⟩
theorem PSs.nox{st:ae bz}(h:PSs X.nox st t):PSs X st t:=λΨ s σ H D I hw=>
 fR (h Ψ s σ H D (I.wish _) hw) (λ_ _ q=>q.nU) λ_ _ z=>dQ z
end
section
variable {X:Cx} {st:bz} {rest:ae bz} {t u:TS} {e:Expr} {te:TE} {pos:dq}
noncomputable def aFi:TS:=λD σ H=>D.nx σ H
noncomputable def u5(t u:TS):TS:=λD σ H=>t {D with nx:=u D} σ H
theorem wJ:PSs X [] aFi:=λ_ _ σ H _ I h=>lz ⟨σ,H,I,h⟩
theorem bW(h1:PS X st t)(h2:PSs X rest u):PSs X (st::rest) (u5 t u):=by
 intro Ψ s σ H D I h;refine vS (thn (h1 Ψ s σ H {D with nx:=u D} I h) λf s1 q=>?_);cases f with
 |next=>
  obtain⟨σ',H',I',q⟩:=q;exact h2 Ψ s1 σ' H' D I' q
 |ret v=>exact q
 |brk=>exact q
 |cont=>exact q
theorem d7(h1:PS X st t):PSs X [st] t:=by
 intro Ψ s σ H D I h;refine vS (thn (h1 Ψ s σ H D I h) λf s1 q=>?_);cases f with
 |next=>exact lz q
 |ret v=>exact q
 |brk=>exact q
 |cont=>exact q
theorem Inv.quiet(I:Inv X Ψ σ H s):zy X.env=ak:=by simp[zy,I.ok.kind]
noncomputable def wK(te:TE):TS:=λD σ H=>te σ H λ_ H1=>D.nx σ H1
theorem jU(he:PE X e te)(hs:autoParam (eL e aj pos.line X.env=pure ak) Ω):PS X (.Expr e pos) (wK te):=by
 intro Ψ s σ H D I h;exact wpAny_Expr_any (thn (he Ψ s σ H _ I h) λv s1 ⟨x,H1,I1,r1,q1⟩=>⟨σ,H1,I1,q1⟩) I.quiet hs
noncomputable def aJj(te:TE):TS:=λD σ H=>te σ H D.rt
theorem rK(he:PE X e te):PS X (.Return (aa e) pos) (aJj te):=by
 intro Ψ s σ H D I h;exact wpAny_Return_some (thn (he Ψ s σ H _ I h) λv s1 ⟨x,H1,I1,r1,q1⟩=>⟨x,σ,H1,I1,r1,q1⟩)
noncomputable def aIz(c:TT)(t u:TS):TS:=λD σ H=>c σ H λb H1=>if b=ag then t D σ H1 else u D σ H1
theorem HR(hc:PT X c tc)(ha:PSs X a t)(hb:PSs X b u):PS X (.If c a b pos) (aIz tc t u):=by
 intro Ψ s σ H D I h;refine wpAny_If (thn (hc Ψ s σ H _ I h) λd s1 ζ=>?_);obtain⟨H1,I1,q1⟩:=ζ;cases d with
 |true=>exact ha Ψ s1 σ H1 D I1 q1
 |false=>exact hb Ψ s1 σ H1 D I1 q1
end
abbrev TG:=V->St->Hp->(St->Hp->Prop)->Prop
abbrev TGs:=ae V->St->Hp->(St->Hp->Prop)->Prop
def PG(X:Cx)(target:Expr)(t:TG):Prop:=
 ∀(Ψ:ae (al×bn))(s:au)(σ:St)(H:Hp)(v:V)(u:am)(Q:St->Hp->Prop),Inv X Ψ σ H s->RelV v u->t v σ H Q->
  ϑ (ay X.prog X.w) X.A (kG target X.env u) (λ_ s'=>∃σ' H',Inv X Ψ σ' H' s'/\Q σ' H') X.xe s
def PGs(X:Cx)(ts:ae Expr)(t:TGs):Prop:=
 ∀(Ψ:ae (al×bn))(s:au)(σ:St)(H:Hp)(vs:ae V)(us:ae am)(Q:St->Hp->Prop),Inv X Ψ σ H s->Vals vs us->t vs σ H Q->
  ϑ (ay X.prog X.w) X.A (zz ((i7 ts X.env).map (·.2)) us) (λ_ s'=>∃σ' H',Inv X Ψ σ' H' s'/\Q σ' H') X.xe s
abbrev aRa:=V->V->V->Hp->(Hp->Prop)->Prop
def aRb(X:Cx)(t:aRa):Prop:=
 ∀(Ψ:ae (al×bn))(s:au)(σ:St)(H:Hp)(o i v:V)(ov iv u:am)(Q:Hp->Prop),Inv X Ψ σ H s->RelV o ov->RelV i iv->RelV v u->t o i v H Q->
  ϑ (ay X.prog X.w) X.A (setItem ov iv u) (λ_ s'=>∃H',Inv X Ψ σ H' s'/\Q H') X.xe s
section
variable {X:Cx}
noncomputable def fO(i:ah):TG:=λv σ H Q=>Q (σ.set i (aa v)) H
theorem aX(hN:X.N.Nodup)(hi:X.N[i]?=aa x)(hx:Loc X.env.scope x)(hf:autoParam (zFn X x) Ξ):PG X (.Name x pos) (fO i):=by
 intro Ψ s σ H v u Q I r h;exact wpAny_assign_Name (wI I hN hi hx r (λs' I'=>⟨_,H,I',h⟩) hf)
noncomputable def aNh:TGs:=λvs σ H Q=>vs=[]/\Q σ H
noncomputable def Q9(t:TG)(u:TGs):TGs:=λvs σ H Q=>∃v r,vs=v::r/\t v σ H λσ' H'=>u r σ' H' Q
theorem wM:PGs X [] aNh:=by
 intro Ψ s σ H vs us Q I r h;obtain⟨e,h⟩:=h;subst e;cases r;exact assignInOrder_nil ⟨σ,H,I,h⟩
theorem eU(h1:PG X e t)(h2:PGs X es u)
 (hs:autoParam ((i7 (e::es) X.env).map (·.2)=kG e X.env::(i7 es X.env).map (·.2)) Ω):PGs X (e::es) (Q9 t u):=by
 intro Ψ s σ H vs us Q I r h;obtain⟨v,vr,e1,h⟩:=h;subst e1;cases r with
 |cons r rr=>
  rw[hs];refine assignInOrder_cons (thn (h1 Ψ s σ H _ _ _ I r h) λ_ s1 ζ=>?_);obtain⟨σ1,H1,I1,q1⟩:=ζ;exact h2 Ψ s1 σ1 H1 _ _ Q I1 rr q1
noncomputable def aNi(K:bi)(n:ah)(t:TGs):TG:=λv σ H Q=>∃a xs,v=.ref a/\SqT K H a xs/\xs.length=n/\t xs σ H Q
theorem UV(hc:X.calm=ag)(h:PGs X es t)
 (hn:autoParam ((i7 es X.env).length=n) Ω)(hst:autoParam ((i7 es X.env).findIdx? (·.1)=aj) Ω):PG X (.Tuple es k pos) (aNi X.K n t):=by
 intro Ψ s σ H v u Q I r hw;obtain⟨a,xs,e1,hq,hl,hw⟩:=hw;subst e1;cases r;obtain⟨its,rv,ht,hz⟩:=I.tuple hq;refine assign_Tuple_tuple (I.ok.hd hc) ht (by simp[hn,<-hl,rv.length]) hst λh' hx=>?_
 have I1:Inv X Ψ σ H {s with heap:=h'}:=I.kept λb o e=>hx b o (cw (bw e)) e
 exact h Ψ _ σ H xs _ Q I1 (by simpa using rv) hw
noncomputable def wN(te:TE)(g:TG):TS:=λD σ H=>te σ H λx H1=>g x σ H1 D.nx
theorem nW(he:PE X e te)(hg:PG X tg g)(hs:autoParam (zC [tg] e pos.line X.env=pure ak) Ω)(hw:autoParam (zD [tg] e X.env=pure aj) Ω)
 (h1:autoParam ((i7 [tg] X.env).map (·.2)=[kG tg X.env]) Ω):PS X (.Assign [tg] e pos) (wN te g):=by
 intro Ψ s σ H D I h;refine wpAny_Assign_stores (thn (he Ψ s σ H _ I h) λv s1 ⟨x,H1,I1,r1,q1⟩=>?_) hs hw;rw[h1];exact thn (hg Ψ s1 σ H1 x v _ I1 r1 q1) λ_ s2 q=>q
theorem K8(hN:X.N.Nodup)(hi:X.N[i]?=aa x)(hx:Loc X.env.scope x)(he:PE X e te)(hs:autoParam (zSw X e x pos' pos) Ω)(hf:autoParam (zFn X x) Ξ) :
  PS X (.Assign [.Name x pos'] e pos) (wN te (fO i)):=by
 intro Ψ s σ H D I h;refine zI (thn (he Ψ s σ H _ I h) λv s1 ⟨y,H1,I1,r1,q1⟩=>?_) hs;exact wI I1 hN hi hx r1 (λs2 I2=>⟨_,H1,I2,q1⟩) hf
end
section
def UW(c:TT)(tb:TS):TS:=λD σ H=>∃W:ah->St->Hp->Prop,(∃m,W m σ H)/\∀m σ H,W m σ H->
 c σ H λb H1=>if b=ag then ∃N:St->Hp->Prop,(∀σ' H',N σ' H'->∃m',m'<m/\W m' σ' H')/\tb {D with nx:=N,ct:=N,bk:=D.nx} σ H1 else D.nx σ H1
theorem K9(hp:lI (ay X.prog X.w) X.A X.env X.xe)(hc:PT X c tc)(hb:PSs X body tb):PS X (.While c body [] pos) (UW tc tb):=by
 intro Ψ s σ H D I h;obtain⟨W,⟨m0,w0⟩,turn⟩:=h;refine wpAny_While (codeAny_whileLoop (λn s'=>∃σ' H',Inv X Ψ σ' H' s'/\W n σ' H') ?_ m0 ⟨σ,H,I,w0⟩);rintro n s1 ⟨σ1,H1,I1,w1⟩;refine kH hp (thn (hc Ψ s1 σ1 H1 _ I1 (turn n σ1 H1 w1)) λb s2 ζ=>?_);obtain⟨H2,I2,q2⟩:=ζ;cases b with
 |true=>
  obtain⟨N,hN,q2⟩:=q2;rw[aq rfl];refine kH hp (thn (hb Ψ s2 σ1 H2 _ I2 q2) λf s3 q3=>?_);cases f with
  |next=>
   obtain⟨σ3,H3,I3,n3⟩:=q3;obtain⟨m',hm,w3⟩:=hN σ3 H3 n3;exact⟨m',hm,σ3,H3,I3,w3⟩
  |cont=>
   obtain⟨σ3,H3,I3,n3⟩:=q3;obtain⟨m',hm,w3⟩:=hN σ3 H3 n3;exact⟨m',hm,σ3,H3,I3,w3⟩
  |brk=>exact q3
  |ret v=>exact q3
 |false=>
  rw[aw iw];exact lz ⟨σ1,H2,I2,q2⟩
end
structure It where
 go:ah->Hp->Prop
 yld:ah->Hp->V->Hp->Prop
 stop:ah->Hp->Prop
def T7(X:Cx)(Ψ:ae (al×bn))(H:Hp)(b:al):Prop:=
 H b=aj/\b≠X.env.locals/\b∉X.fs/\(b∈X.ex\/X.s₀.heap.objs.size<=b)/\(∀x c,X.env.cells.lookup x=aa c->c≠b)/\∀p∈X.pn++Ψ,p.1≠b
theorem Inv.aJk(I:Inv X Ψ σ H s)(hb:s.heap.objs.size<=b)(hn:H' b=aj):T7 X Ψ H' b:=by
 refine⟨hn,iz (dy I.lt hb),I.aQc hb,.inr (c_ I.sz hb),λx c e z=>?_,λp hp z=>?_⟩
 ·obtain⟨v,q⟩:=I.cell x c e;exact bd (dy q.lt (by rw[z];exact hb)) (fN _)
 ·exact bd (dy (bw (I.pin p hp).1) (by rw[z];exact hb)) (fN _)
structure Turn(P:bS)(w:bu)(K:bi)(tg:Expr)(J:It)(fp:ae al)(it:al)(tn:ah->bc->Prop):Prop where
 mem:it∈fp
 obj:∀i h,tn i h->∀b∈fp,∃o,h.get? b=aa o/\∀v,o.data≠.cell v
 keep:∀i h h',tn i h->(∀b∈fp,∀o,h.get? b=aa o->h'.get? b=aa o)->tn i h'
 item:∀(X:Cx),X.prog=P->X.w=w->X.K=K->X.calm=ag->∀(i:ah)(Ψ:ae (al×bn))(s:au)(σ:St)(H:Hp)(E:am->au->Prop),Inv X Ψ σ H s->(∀b∈fp,T7 X Ψ H b)->tn i s.heap->J.go i H->
  ϑ (ay P w) X.A (gz (.ref it)) (λr s1=>∃u,r=aa u/\
   ϑ (ay P w) X.A (n9 tg (.ref it) u) (λ_ s2=>∃x H',Inv X Ψ σ H' s2/\RelV x u/\J.yld i H x H'/\tn (i+1) s2.heap/\∀b∈fp,H' b=aj) E s1) E s
 done:∀(X:Cx),X.prog=P->X.w=w->X.K=K->X.calm=ag->∀(i:ah)(Ψ:ae (al×bn))(s:au)(σ:St)(H:Hp)(E:am->au->Prop),Inv X Ψ σ H s->(∀b∈fp,T7 X Ψ H b)->tn i s.heap->J.stop i H->
  ϑ (ay P w) X.A (gz (.ref it)) (λr s1=>r=aj/\Inv X Ψ σ H s1) E s
 self:∀(A:cf)(i:ah)(s:au)(Q:am->au->Prop)(E:am->au->Prop),tn i s.heap->Q (.ref it) s->ϑ (ay P w) A (l6 (.ref it)) Q E s
abbrev TI:=St->Hp->(It->Hp->Prop)->Prop
def PIE(X:Cx)(Ψ:ae (al×bn))(σ:St)(tg:Expr)(R:It->Hp->Prop)(itv:am)(s2:au):Prop:=
 ∃(it:al)(fp:ae al)(tn:ah->bc->Prop)(J:It)(H':Hp),itv=.ref it/\Inv X Ψ σ H' s2/\Turn X.prog X.w X.K tg J fp it tn/\tn 0 s2.heap/\(∀b∈fp,T7 X Ψ H' b)/\R J H'
def PI(X:Cx)(tg iter:Expr)(wi:TI):Prop:=
 ∀(Ψ:ae (al×bn))(s:au)(σ:St)(H:Hp)(R:It->Hp->Prop),Inv X Ψ σ H s->wi σ H R->
  ϑ (ay X.prog X.w) X.A (eval iter X.env) (λv s1=>ϑ (ay X.prog X.w) X.A (l6 v) (PIE X Ψ σ tg R) X.xe s1) X.xe s
theorem aB7(ho:s.heap.get? it=aa o)(hc:o.cls=.type n)(hd:o.data=.fields vs)
 (hn:["enumerate","zip","dict_itemiterator","dict_reverseitemiterator","odict_iterator","itertools.zip_longest","itertools.pairwise"].contains n=ak)(hQ:Q () s):ϑ M A (n9 tg (.ref it) u) Q E s:= by
  unfold n9;cases tg<;>first
    |exact aE hQ
    | (cases u<;>first
        |exact aE hQ
        | (refine ao (wpAny_load ho ?_)
           rw[hc,hd];show ϑ M A (if (["enumerate","zip","dict_itemiterator","dict_reverseitemiterator","odict_iterator","itertools.zip_longest","itertools.pairwise"].contains n&&vs[0]?==aa (cz _))=ag then _ else _) Q E s;rw[aw (by intro h;rw[hn,zS] at h;cases h)];exact aE hQ))
noncomputable def Itl(K:bi)(a:al):It:=
 ⟨λi H=>∃xs x,SqL K H a xs/\xs[i]?=aa x,λi H x H'=>H'=H/\∀xs,SqL K H a xs->xs[i]?=aa x,λi H=>∃xs,SqL K H a xs/\xs.length<=i⟩
noncomputable def Itt(K:bi)(a:al):It:=
 ⟨λi H=>∃xs x,SqT K H a xs/\xs[i]?=aa x,λi H x H'=>H'=H/\∀xs,SqT K H a xs->xs[i]?=aa x,λi H=>∃xs,SqT K H a xs/\xs.length<=i⟩
noncomputable def Itr(lo:ai)(n:ah):It:=⟨λi _=>i<n,λi H x H'=>H'=H/\x=.int (lo+i),λi _=>n<=i⟩
theorem U0{K:bi}(a it:al):Turn P w K tg (Itl K a) [it] it (λi h=>h.IsListIter it a i) where
 mem:=by simp
 obj:=λi h st b hb=>by
  have e:b=it:=by simpa using hb
  subst e;obtain⟨o,e,c,d⟩:=st;exact⟨o,e,λv z=>by rw[d] at z;cases z⟩
 keep:=λi h h' st k=>st.at λo e=>k it 0x2 o e
 item:=by
  intro X hP hw hK hc i Ψ s σ H E I hf st hg;subst hP hw hK;obtain⟨xs,x,hq,hx⟩:=hg;obtain⟨its,rv,p,hz⟩:=I.list hq;obtain⟨u,hu,ru⟩:=rv.get hx;obtain⟨f0,f1,f2,f3,f4,f5⟩:=hf it 0x2;refine og st p.isList (by simpa using hu) λh' st' sb=>?_
  have I1:Inv X Ψ σ H {s with heap:=h'}:=I.turned (λb o hb e=>(sb.2 b hb).trans e) f0 f1 f3 f4 f5;obtain⟨o,e,c,d⟩:=id st';exact⟨u,rfl,aB7 e c d 0x4 ⟨x,H,I1,ru,⟨rfl,λys hy=>by rw[I.aB6 hy hq];exact hx⟩,st',λb hb=>(hf b hb).1⟩⟩
 done:=by
  intro X hP hw hK hc i Ψ s σ H E I hf st hg;subst hP hw hK;obtain⟨xs,hq,hx⟩:=hg;obtain⟨its,rv,p,hz⟩:=I.list hq;obtain⟨f0,f1,f2,f3,f4,f5⟩:=hf it 0x2;have hl:=rv.length;exact oh (I.ok.hd hc) st p.isList (by simp;lia) λh' eb=>⟨rfl,I.turned (λb o hb e=>eb b o hb e) f0 f1 f3 f4 f5⟩
 self:=λ_ _ _ _ _ st h=>wpAny_pyIter_listiter st h
theorem Q_{K:bi}(a it:al):Turn P w K tg (Itt K a) [it] it (λi h=>h.IsTupleIter it a i) where
 mem:=by simp
 obj:=λi h st b hb=>by
  have e:b=it:=by simpa using hb
  subst e;obtain⟨o,e,c,d⟩:=st;exact⟨o,e,λv z=>by rw[d] at z;cases z⟩
 keep:=λi h h' st k=>st.at λo e=>k it 0x2 o e
 item:=by
  intro X hP hw hK hc i Ψ s σ H E I hf st hg;subst hP hw hK;obtain⟨xs,x,hq,hx⟩:=hg;obtain⟨its,rv,p,hz⟩:=I.tuple hq;obtain⟨u,hu,ru⟩:=rv.get hx;obtain⟨f0,f1,f2,f3,f4,f5⟩:=hf it 0x2;refine wpAny_pyNext_tuple_item st (show s.heap.IsTuple a its.toArray from p) (by simpa using hu) λh' st' sb=>?_
  have I1:Inv X Ψ σ H {s with heap:=h'}:=I.turned (λb o hb e=>(sb.2 b hb).trans e) f0 f1 f3 f4 f5;obtain⟨o,e,c,d⟩:=id st';exact⟨u,rfl,aB7 e c d 0x4 ⟨x,H,I1,ru,⟨rfl,λys hy=>by rw[I.UT hy hq];exact hx⟩,st',λb hb=>(hf b hb).1⟩⟩
 done:=by
  intro X hP hw hK hc i Ψ s σ H E I hf st hg;subst hP hw hK;obtain⟨xs,hq,hx⟩:=hg;obtain⟨its,rv,p,hz⟩:=I.tuple hq;obtain⟨f0,f1,f2,f3,f4,f5⟩:=hf it 0x2;have hl:=rv.length;exact wpAny_pyNext_tuple_end (I.ok.hd hc) st (show s.heap.IsTuple a its.toArray from p) (by simp;lia) λh' eb=>⟨rfl,I.turned (λb o hb e=>eb b o hb e) f0 f1 f3 f4 f5⟩
 self:=λ_ _ _ _ _ st h=>wpAny_pyIter_tupleiter st h
theorem RB{K:bi}(it:al)(lo:ai)(n:ah):Turn P w K tg (Itr lo n) [it] it (λi h=>Aa h it (lo+(i:ah)*1) ((n:ai)-(i:ah)) 1) where
 mem:=by simp
 obj:=λi h st b hb=>by
  have e:b=it:=by simpa using hb
  subst e;exact⟨_,st,λv z=>by
   have z':Data.fields _=Data.cell v:=z;cases z'⟩
 keep:=λi h h' st k=>k it 0x2 _ st
 item:=by
  intro X hP hw hK hc i Ψ s σ H E I hf st hg;subst hP hw hK;obtain⟨f0,f1,f2,f3,f4,f5⟩:=hf it 0x2;have W:=Walks.range (prog:=X.prog) (w:=X.w) (I.ok.hd hc) it lo 1 n;refine W.item i s _ _ hg st λv h' tk hv st' kk=>?_
  obtain⟨t,rfl⟩:=hv;have I1:Inv X Ψ σ H {s with heap:=h',toks:=tk}:=I.turned (λb o hb e=>kk b o (by simpa using hb) e) f0 f1 f3 f4 f5;refine⟨_,rfl,aB7 st' rfl rfl 0x4 ⟨.int (lo+i),H,I1,⟨t,?_⟩,⟨rfl,rfl⟩,st',λb hb=>(hf b hb).1⟩⟩;rw[Ab]
 done:=by
  intro X hP hw hK hc i Ψ s σ H E I hf st hg;subst hP hw hK;obtain⟨f0,f1,f2,f3,f4,f5⟩:=hf it 0x2;exact wpAny_pyNext_range_end (I.ok.hd hc) st (by have:n<=i:=hg;lia) λh' eb=>⟨rfl,I.turned (λb o hb e=>eb b o hb e) f0 f1 f3 f4 f5⟩
 self:=λ_ _ _ _ _ st h=>wpAny_pyIter_rangeiter st h
section
theorem aB8{lo hi:ai}{t u v:em}{tk:ah}(I:Inv X Ψ σ H s)(h1:-(2 ^ 62)<=lo)(h2:lo<2 ^ 62)(h3:-(2 ^ 62)<=hi)(h4:hi<2 ^ 62)
 (q:R (Itr lo (hi-lo).toNat) H):ϑ (ay X.prog X.w) X.A (l6 (.ref s.heap.objs.size)) (PIE X Ψ σ tg R) E {s with heap:=s.heap.push {cls:=.type "range",data:=.fields #[.int lo t,.int hi u,.int 1 v]},toks:=tk}:=by
 refine wpAny_pyIter_range (IsRange.new ..) (small_one h1 h2 h3 h4) ?_;have I1:Inv X Ψ σ H {s with heap:=s.heap.push {cls:=.type "range",data:=.fields #[.int lo t,.int hi u,.int 1 v]},toks:=tk}:=I.kept λb o e=>bP _ e
 refine⟨(s.heap.push {cls:=.type "range",data:=.fields #[.int lo t,.int hi u,.int 1 v]}).objs.size,[(s.heap.push {cls:=.type "range",data:=.fields #[.int lo t,.int hi u,.int 1 v]}).objs.size],_,_,H,rfl,
  I1.kept λb o e=>bP _ e,RB _ lo (hi-lo).toNat,?_,λb hb=>?_,q⟩
 ·have e1:lo+((0:ah):ai)*1=lo:=by simp
  have e2:(((hi-lo).toNat:ah):ai)-((0:ah):ai)=Cy lo hi 1:=by rw[rangeSize_one];split<;>lia
  show Aa _ _ (lo+((0:ah):ai)*1) ((((hi-lo).toNat:ah):ai)-((0:ah):ai)) 1;rw[e1,e2];exact c6 _ rfl
 ·have e:b=(s.heap.push {cls:=.type "range",data:=.fields #[.int lo t,.int hi u,.int 1 v]}).objs.size:=by simpa using hb
  subst e;exact I1.aJk (bq _) (I1.hok.fresh (bq _))
def aO7(ta:TA):TI:=λσ H R=>ta σ H λvs H1=>∃j:ai,vs=[.int j]/\-(2 ^ 62)<=j/\j<2 ^ 62/\R (Itr 0 j.toNat) H1
theorem zR{p pos:dq}(hg:Gl X "range")(hm:X.mg "range"=aj)(ha:PA X [a] ta)(hs:autoParam (cr [a] X.env=[(ak,eval a X.env)]) Ω):PI X tg (.Call (.Name "range" p) [a] [] pos) (aO7 ta):=by
 intro Ψ s σ H R I h;refine Call_ (mQ I hg hm boot_range (ju (thn (ha pos Ψ s σ H _ I h) λus s1 ⟨vs,H1,I1,r1,q1⟩=>?_) hs rfl));obtain⟨j,e,q1,q2,q⟩:=q1;subst e;cases r1 with
 |cons r rr=>
  cases rr;obtain⟨t,rfl⟩:=r;exact call_range_1 (aB8 I1 0x1 0x1 q1 q2 (by simpa using q))
def aQe(wi:TI)(g:TG)(tb:TS):TS:=λD σ H=>wi σ H λJ H1=>∃W:ah->ah->St->Hp->Prop,(∃m,W 0 m σ H1)/\∀i m σ H,W i m σ H->
 (J.stop i H/\D.nx σ H)\/(J.go i H/\∃N:St->Hp->Prop,(∀σ' H',N σ' H'->∃m',m'<m/\W (i+1) m' σ' H')/\∀x H',J.yld i H x H'->g x σ H' λσ2 H2=>tb {D with nx:=N,ct:=N,bk:=D.nx} σ2 H2)
noncomputable def sY(fp:ae al)(h:bc):ae (al×bn):=fp.filterMap λb=>(h.get? b).map λo=>(b,o)
theorem m_(hb:b∈fp)(e:h.get? b=aa o):(b,o)∈sY fp h:=vT.mpr ⟨b,hb,by rw[e];rfl⟩
theorem U3(hp:p∈sY fp h):p.1∈fp/\h.get? p.1=aa p.2:=by
 obtain⟨b,hb,e⟩:=vT.mp hp;cases q:h.get? b with
 |none=>rw[q] at e;cases e
 |some o=>
  rw[q] at e;have e':(b,o)=p:=ft e;subst e';exact⟨hb,q⟩
theorem Inv.pinned(I:Inv X Ψ σ H s)(hf:∀b∈fp,T7 X Ψ H b)(ho:∀b∈fp,∃o,s.heap.get? b=aa o/\∀v,o.data≠.cell v):Inv X (Ψ++sY fp s.heap) σ H s:=
 I.HQ λp hp=>(dz.mp hp).elim (λz=>I.pin p (eM _ z)) λz=>by
  obtain⟨hb,e⟩:=U3 z;obtain⟨f0,f1,f2,_⟩:=hf p.1 hb;obtain⟨o,e',d⟩:=ho p.1 hb;rw[e] at e';cases e';exact⟨e,f0,f1,f2,d⟩
theorem Inv.oZ(I:Inv X (Ψ++pl) σ H s):Inv X Ψ σ H s:=I.HQ λp hp=>I.pin p (eM _ (ir _ hp))
theorem K_(hp:lI (ay X.prog X.w) X.A X.env X.xe)(hc:X.calm=ag)(hi:PI X tg iter wi)(hg:PG X tg g)(hb:PSs X body tb)
 (hs:∀x,eP iter X.env x=pure x:=by intro _;rfl):PS X (.For tg iter body [] pos) (aQe wi g tb):=by
 intro Ψ s σ H D I h;refine wpAny_For (thn (hi Ψ s σ H _ I h) λv s1 h1=>thn h1 λitv s2 h2=>?_) hs;obtain⟨it,fp,tn,J,H2,e,I2,T,st2,f2,W,⟨m0,w0⟩,turn⟩:=h2;subst e
 -- what stays ag of the iterator's objects through the loop
 have stat:∀{H':Hp},(∀b∈fp,H' b=aj)->∀b∈fp,T7 X Ψ H' b:=λhn b hb=>⟨hn b hb,(f2 b hb).2⟩
 refine codeAny_forLoop_any (λn s'=>∃i σ' H',Inv X Ψ σ' H' s'/\tn i s'.heap/\(∀b∈fp,H' b=aj)/\W i n σ' H') ?_ m0 ⟨0,σ,H2,I2,st2,λb hb=>(f2 b hb).1,w0⟩;rintro n s3 ⟨i,σ3,H3,I3,st3,fr3,w3⟩;rcases turn i n σ3 H3 w3 with ⟨stop,qn⟩|⟨go,N,hN,step⟩
 ·refine kH hp (thn (T.done X rfl rfl rfl hc i Ψ s3 σ3 H3 X.xe I3 (stat fr3) st3 stop) λr s4 ζ=>?_);obtain⟨hr,I4⟩:=ζ;subst hr;exact lz ⟨σ3,H3,I4,qn⟩
 ·refine kH hp (thn (T.item X rfl rfl rfl hc i Ψ s3 σ3 H3 X.xe I3 (stat fr3) st3 go) λr s4 ζ=>?_);obtain⟨u,hr,h4⟩:=ζ;subst hr;refine kH hp (thn h4 λ_ s5 ζ=>?_);obtain⟨x,H5,I5,r5,y5,st5,fr5⟩:=ζ;have I5':=I5.pinned (stat fr5) (T.obj _ _ st5);refine kH hp (thn (hg _ s5 σ3 H5 x u _ I5' r5 (step x H5 y5)) λ_ s6 ζ=>?_);obtain⟨σ6,H6,I6,q6⟩:=ζ;refine kH hp (thn (hb _ s6 σ6 H6 _ I6 q6) λf s7 q7=>?_);have again:∀{σ7:St}{H7:Hp},Inv X (Ψ++sY fp s5.heap) σ7 H7 s7->N σ7 H7->∃m,m<n/\∃i σ' H',Inv X Ψ σ' H' s7/\tn i s7.heap/\(∀b∈fp,H' b=aj)/\W i m σ' H':=λ{σ7 H7} I7 n7=>by
   obtain⟨m',hm,w7⟩:=hN σ7 H7 n7;refine⟨m',hm,i+1,σ7,H7,I7.oZ,T.keep _ _ _ st5 λb hb o e=>(I7.pin (b,o) (eM _ (eM _ (m_ hb e)))).1,λb hb=>?_,w7⟩;obtain⟨o,e,d⟩:=T.obj _ _ st5 b hb;exact(I7.pin (b,o) (eM _ (eM _ (m_ hb e)))).2.1
  cases f with
  |next=>obtain⟨σ7,H7,I7,n7⟩:=q7;exact again I7 n7
  |cont=>obtain⟨σ7,H7,I7,n7⟩:=q7;exact again I7 n7
  |brk=>obtain⟨σ7,H7,I7,q7⟩:=q7;exact⟨σ7,H7,I7.oZ,q7⟩
  |ret v=>obtain⟨x7,σ7,H7,I7,r7,q7⟩:=q7;exact⟨x7,σ7,H7,I7.oZ,r7,q7⟩
end
abbrev R2:=V->V->Hp->VK->Prop
def OpR(X:Cx)(f:am->am->Sem am)(r:R2):Prop:=
 ∀(Ψ:ae (al×bn))(s:au)(σ:St)(H:Hp)(x y:V)(v u:am)(Q:VK),Inv X Ψ σ H s->RelV x v->RelV y u->r x y H Q->
  ϑ (ay X.prog X.w) X.A (f v u) (EP X Ψ σ Q) X.xe s
def UnR(X:Cx)(f:am->Sem am)(r:V->Hp->VK->Prop):Prop:=
 ∀(Ψ:ae (al×bn))(s:au)(σ:St)(H:Hp)(x:V)(v:am)(Q:VK),Inv X Ψ σ H s->RelV x v->r x H Q->
  ϑ (ay X.prog X.w) X.A (f v) (EP X Ψ σ Q) X.xe s
def nM(X:Cx)(f:am)(r:ae V->Hp->VK->Prop):Prop:=
 ∀(Ψ:ae (al×bn))(s:au)(σ:St)(H:Hp)(xs:ae V)(us:ae am)(Q:VK),Inv X Ψ σ H s->Vals xs us->r xs H Q->
  ϑ (ay X.prog X.w) X.A (call f us) (EP X Ψ σ Q) X.xe s
def aRc(X:Cx)(r:V->Hp->(ax->Hp->Prop)->Prop):Prop:=
 ∀(Ψ:ae (al×bn))(s:au)(σ:St)(H:Hp)(x:V)(v:am)(Q:ax->Hp->Prop),Inv X Ψ σ H s->RelV x v->r x H Q->
  ϑ (ay X.prog X.w) X.A (truthy v) (TP X Ψ σ Q) X.xe s
noncomputable def tOp(r:R2)(ta tb:TE):TE:=λσ H Q=>ta σ H λx H1=>tb σ H1 λy H2=>r x y H2 Q
noncomputable def tUn(r:V->Hp->VK->Prop)(ta:TE):TE:=λσ H Q=>ta σ H λx H1=>r x H1 Q
noncomputable def rI(C:ai->ai->Prop)(g:ai->ai->V):R2:=λx y H Q=>∃i j,x=.int i/\y=.int j/\C i j/\Q (g i j) H
noncomputable def rI0(g:ai->ai->V):R2:=λx y H Q=>∃i j,x=.int i/\y=.int j/\Q (g i j) H
def rU(g:ai->V):V->Hp->VK->Prop:=λx H Q=>∃i,x=.int i/\Q (g i) H
section
variable {a b:Expr}
theorem aO8(ha:PE X a ta)(hb:PE X b tb){R:V->V->Hp->Prop}(I:Inv X Ψ σ H s)
 (h:ta σ H λx H1=>tb σ H1 λy H2=>R x y H2){Q:am->au->Prop}{f:am->am->Sem am}
 (hf:∀v u s2 x y H2,Inv X Ψ σ H2 s2->RelV x v->RelV y u->R x y H2->ϑ (ay X.prog X.w) X.A (f v u) Q X.xe s2) :
  ϑ (ay X.prog X.w) X.A (eval a X.env) (λv s₁=>ϑ (ay X.prog X.w) X.A (eval b X.env) (λu s₂=>ϑ (ay X.prog X.w) X.A (f v u) Q X.xe s₂) X.xe s₁) X.xe s:=by
 refine thn (ha Ψ s σ H _ I h) λv s1 ζ=>?_;obtain⟨x,H1,I1,r1,q1⟩:=ζ
 refine thn (hb Ψ s1 σ H1 _ I1 q1) λu s2 ζ=>?_;obtain⟨y,H2,I2,r2,q2⟩:=ζ
 exact hf v u s2 x y H2 I2 r1 r2 q2
theorem aFj(ho:OpR X (eB op) r)(ha:PE X a ta)(hb:PE X b tb):PE X (.BinOp a op b pos) (tOp r ta tb):=by
 intro Ψ s σ H Q I h;exact r_ (aO8 ha hb I h λv u s2 x y H2 I2 rx ry q=>ho Ψ s2 σ H2 x y v u Q I2 rx ry q)
theorem aFk(ho:UnR X (sg op) r)(ha:PE X a ta):PE X (.UnaryOp op a pos) (tUn r ta):=by
 intro Ψ s σ H Q I h;exact UnaryOp_ (thn (ha Ψ s σ H _ I h) λv s1 ⟨x,H1,I1,r1,q1⟩=>ho Ψ s1 σ H1 x v Q I1 r1 q1)
theorem opI{g:ai->ai->ai}
 (jt:∀(i j:ai) (t u:em) (s:au) (Q:am->au->Prop) (E:am->au->Prop),C i j->Q (.int (g i j) s.toks) {s with toks:=s.toks+1}->ϑ (ay X.prog X.w) X.A (f (.int i t) (.int j u)) Q E s) :
  OpR X f (rI C λi j=>.int (g i j)):=by
 intro Ψ s σ H x y v u Q I rx ry h;obtain⟨i,j,rfl,rfl,hc,q⟩:=h;obtain⟨t,rfl⟩:=rx;obtain⟨t',rfl⟩:=ry;exact jt i j t t' s _ _ hc ⟨.int (g i j),H,I.tok _,⟨_,rfl⟩,q⟩
theorem aQf{g:ai->ai->ai}
 (jt:∀(i j:ai) (t u:em) (s:au) (Q:am->au->Prop) (E:am->au->Prop),Q (.int (g i j) s.toks) {s with toks:=s.toks+1}->ϑ (ay X.prog X.w) X.A (f (.int i t) (.int j u)) Q E s) :
  OpR X f (rI0 λi j=>.int (g i j)):=by
 intro Ψ s σ H x y v u Q I rx ry h;obtain⟨i,j,rfl,rfl,q⟩:=h;obtain⟨t,rfl⟩:=rx;obtain⟨t',rfl⟩:=ry;exact jt i j t t' s _ _ ⟨.int (g i j),H,I.tok _,⟨_,rfl⟩,q⟩
def aRd(i j:ai):Prop:=0<j/\j<1073741824
def aO9(i j:ai):Prop:=(-(2 ^ 64)<i/\i<2 ^ 64)\/(-(2 ^ 64)<j/\j<2 ^ 64)
theorem aO9.ok(h:aO9 i j):IntMulOk i j:=by
 rcases h with ⟨h1,h2⟩|⟨h1,h2⟩
 ·exact .of_left (vz h1 h2)
 ·exact .of_right (vz h1 h2)
theorem aJl:OpR X (eB .Add) (rI0 λi j=>.int (i+j)):=aQf λ_ _ _ _ _ _ _ q=>add_int q
theorem aJm:OpR X (eB .Sub) (rI0 λi j=>.int (i-j)):=aQf λ_ _ _ _ _ _ _ q=>sub_int q
theorem aJn:OpR X (eB .Mult) (rI aO9 λi j=>.int (i*j)):=opI λ_ _ _ _ _ _ _ hc q=>mul_int q hc.ok
theorem aFl:OpR X (eB .FloorDiv) (rI aRd λi j=>.int (i / j)):=opI λi j _ _ _ _ _ hc q=>by
 have h1:(0:ai)<j:=hc.1;have h2:j<1073741824:=hc.2;exact floordiv_int 0x1 (by rw[Int.fdiv_eq_ediv_of_nonneg i 0x1];exact q) (.inl (PyProof.noPylong_small 0x1))
theorem aJo:OpR X (eB .Mod) (rI (λ_ j=>0<j) λi j=>.int (i % j)):=opI λi j _ _ _ _ _ hc q=>by
 have h1:(0:ai)<j:=hc;exact mod_int' 0x1 (by rw[Int.fmod_eq_emod_of_nonneg i 0x1];exact q)
theorem unI{g:ai->ai}
 (jt:∀(i:ai) (t:em) (s:au) (Q:am->au->Prop) (E:am->au->Prop),Q (.int (g i) s.toks) {s with toks:=s.toks+1}->ϑ (ay X.prog X.w) X.A (f (.int i t)) Q E s) :
  UnR X f (rU λi=>.int (g i)):=by
 intro Ψ s σ H x v Q I rx h;obtain⟨i,rfl,q⟩:=h;obtain⟨t,rfl⟩:=rx;exact jt i t s _ _ ⟨.int (g i),H,I.tok _,⟨_,rfl⟩,q⟩
theorem U4:UnR X (sg .USub) (rU λi=>.int (-i)):=unI λ_ _ _ _ _ q=>neg_int q
end
section
variable {X:Cx} {a b c:Expr} {ta tb:TE} {pos:dq}
theorem aE1(I:Inv X Ψ σ H s)(q:Q (.bl k) H)(e:k=k'):EP X Ψ σ Q (.bool k') s:=by
 subst e;exact⟨.bl k,H,I,rfl,q⟩
theorem U5:OpR X (dL .In) (λx y H Q=>∃i j,x=.str i/\y=.str j/\Q (.bl (!(Ac j i 0 j.length 1).isEmpty)) H):=by
 intro Ψ s σ H x y v u Q I rx ry h;obtain⟨i,j,rfl,rfl,q⟩:=h;obtain⟨t,rfl⟩:=rx;obtain⟨t',rfl⟩:=ry;exact in_str (aE1 I q rfl)
theorem aFm:OpR X (dL .IsNot) (λx y H Q=>y=.non/\Q (.bl (!ϒ (x=.non))) H):=by
 intro Ψ s σ H x y v u Q I rx ry h;obtain⟨rfl,q⟩:=h;cases ry;refine isnot_none_gen (aE1 I q ?_);cases x<;>first
  | (cases rx;rfl)
  | (obtain⟨t,rfl⟩:=rx;rfl)
theorem cW(b:Expr)(h:autoParam (op≠.In) Λ)(h2:autoParam (op≠.NotIn) Λ):iu op b=ak:=by
 have e1:(op==zu)=ak:=by cases op<;>first|rfl|exact bd rfl h
 have e2:(op==zv)=ak:=by cases op<;>first|rfl|exact bd rfl h2
 cases b<;>simp[iu,e1,e2]
theorem aFn(ho:OpR X (dL op) r)(ha:PE X a ta)(hb:PE X b tb)(hm:iu op b=ak):PE X (.Compare a [op] [b] pos) (tOp r ta tb):=by
 intro Ψ s σ H Q I h;exact wpAny_Compare1 (aO8 ha hb I h λv u s2 x y H2 I2 rx ry q=>ho Ψ s2 σ H2 x y v u Q I2 rx ry q) hm
noncomputable def aOa(t:TE):TT:=λσ H Q=>t σ H λx H'=>∃k,x=.bl k/\Q k H'
theorem U6(ho:OpR X (dL op) r)(ha:PE X a ta)(hb:PE X b tb)(hm:iu op b=ak):PT X (.Compare a [op] [b] pos) (aOa (tOp r ta tb)):=by
 intro Ψ s σ H Q I h;refine zx (thn (ha Ψ s σ H _ I h) λv s1 ⟨x,H1,I1,r1,q1⟩=>thn (hb Ψ s1 σ H1 _ I1 q1) λu s2 ⟨y,H2,I2,r2,q2⟩=>
  thn (ho Ψ s2 σ H2 x y v u _ I2 r1 r2 q2) λc s3 ⟨z,H3,I3,r3,k,e,q3⟩=>?_) hm
 subst e;cases r3;exact vE ⟨H3,I3,q3⟩
def aNj(K:bi)(x:V)(H:Hp)(k:ax):Prop:=
 match x with
 |.non=>k=ak
 |.bl b=>k=b
 |.int i=>k=(i !=0)
 |.str y=>y.length<=bo/\k=((y.length:ai)!=0)
 |.byt y=>y.size<=bo/\k=((y.size:ai)!=0)
 |.ref p=>(∃xs,SqL K H p xs/\k=!xs.isEmpty)\/(∃xs,SqT K H p xs/\k=!xs.isEmpty)\/∃kvs,H p=aa (.dK kvs)/\k=!kvs.isEmpty
 |_=>cg
theorem RC(r:KV kvs vs):(!vs.isEmpty)=!kvs.isEmpty:=by
 cases r<;>rfl
theorem vJ(r:Vals xs its):(!its.toArray.isEmpty)=!xs.isEmpty:=by
 cases r<;>simp
theorem sZ:(bo:ah)<2 ^ 63:=by rw[dg];decide
theorem aJp:aRc X (λx H Q=>∃k,aNj X.K x H k/\Q k H):=by
 intro Ψ s σ H x v Q I rx h;obtain⟨k,e,q⟩:=h;have hl:=sZ;have hs:bo=16777216:=dg;cases x with
 |non=>
  cases rx;have e':k=ak:=e;subst e';exact truthy_none ⟨H,I,q⟩
 |bl b=>
  cases rx;have e':k=b:=e;subst e';exact vE ⟨H,I,q⟩
 |int i=>
  obtain⟨t,rfl⟩:=rx;have e':k=(i !=0):=e;subst e';exact PySem.P.truthy_int ⟨H,I,q⟩
 |str y=>
  obtain⟨t,rfl⟩:=rx;obtain⟨hy,e'⟩:y.length<=bo/\k=((y.length:ai)!=0):=e;subst e';exact PySem.P.truthy_str 0x1 ⟨H,I.tok _,q⟩
 |byt y=>
  obtain⟨t,rfl⟩:=rx;obtain⟨hy,e'⟩:y.size<=bo/\k=((y.size:ai)!=0):=e;subst e';exact PySem.W.truthy_bytes 0x1 ⟨H,I.tok _,q⟩
 |ref p=>
  cases rx;have e':(∃xs,SqL X.K H p xs/\k=!xs.isEmpty)\/(∃xs,SqT X.K H p xs/\k=!xs.isEmpty)\/∃kvs,H p=aa (.dK kvs)/\k=!kvs.isEmpty:=e;rcases e' with ⟨xs,hx,e'⟩|⟨xs,hx,e'⟩|⟨kvs,hx,e'⟩
  ·subst e';obtain⟨its,r,pl,hz⟩:=I.list hx;have hlen:=r.length;exact wpAny_truthy_list pl.isList (by simp only[b6];lia) ⟨H,I.tok _,by rw[vJ r];exact q⟩
  ·subst e';obtain⟨its,r,pl,hz⟩:=I.tuple hx;have hlen:=r.length;exact truthy_tuple pl (by simp only[b6];lia) ⟨H,I.tok _,by rw[vJ r];exact q⟩
  ·subst e';obtain⟨hz,hS,vs,r,m⟩:kvs.length<=bo/\(p==gx)=ak/\∃vs,KV kvs vs/\s.heap.DictOf (cH X.prog X.w) p vs:=I.hok p _ hx;have hlen:kvs.length=vs.length:=jq r;exact wpAny_truthy_dict hS m 0x1 ⟨H,I.tok _,by rw[RC r];exact q⟩
 |_=>exact(show cg from e).elim
theorem LC(ha:PE X a ta)(he:∀whole,rX a X.env whole=(do let v <- whole;v8 a.pos;jv [v] (truthy v))) :
  PT X a (λσ H Q=>ta σ H λx H'=>∃k,aNj X.K x H' k/\Q k H'):=by
 intro Ψ s σ H Q I h;exact isTrue_plain (thn (ha Ψ s σ H _ I h) λv s1 ⟨x,H1,I1,r1,q1⟩=>aJp Ψ s1 σ H1 x v Q I1 r1 q1) (he _)
theorem RD:OpR X (eB .Add) (λx y H Q=>∃i j,x=.str i/\y=.str j/\i.length+j.length<=bo/\Q (.str (i++j)) H):=by
 intro Ψ s σ H x y v u Q I rx ry h;obtain⟨i,j,rfl,rfl,hz,q⟩:=h;obtain⟨t,rfl⟩:=rx;obtain⟨t',rfl⟩:=ry;exact add_str (λt' tk=>⟨.str (i++j),H,I.tok _,⟨_,rfl⟩,q⟩) hz
theorem vals1(r:Vals [x] us):∃u,us=[u]/\RelV x u:=by
 cases r with
 |cons r1 r2=>cases r2;exact⟨_,rfl,r1⟩
end
structure aFo(h:bc)(x dx C:al)(mA:Str->ar am):Prop where
 obj:h.get? x=aa (js C dx)
 ns:h.Ns1 dx mA
 ne:dx≠x
theorem U7{h:bc}(n:h.Ns1 dx mA):∃od,h.get? dx=aa od/\∀name,sh name od=aa (mA name):=by
 obtain⟨o,es,ep,ho,hd,hk,_,hm⟩:=n;refine⟨o,ho,λname=>?_⟩;have e:=hm name;unfold nsFind findBy at e;rw[<-Array.find?_toList] at e;unfold sh;rw[hd];dsimp only;split
 ·rename_i y q;rw[q] at e;exact cy aa e
 ·rename_i q;rw[q] at e;have a:es.toList.any (·.refKey)=ak:=by
   rw[List.any_eq_false];intro y hy;obtain⟨z,t,hkey⟩:=hk y (Array.mem_toList_iff.mp hy);simp[Cz,hkey]
  have a':¬es.toList.any (·.refKey)=ag:=by rw[a];exact iw
  rw[aw a'];exact cy aa e
theorem aFo.look(I:aFo h x dx C mA):∃od,PySem.W.InstAt h x (js C dx) C (aa od)/\∀name,sh name od=aa (mA name):=
 let ⟨od,ho,hl⟩:=U7 I.ns
 ⟨od,⟨I.obj,rfl,rfl,ho⟩,hl⟩
section
variable {prog:bS} {w:bu} {A:cf} {E:am->au->Prop} {s:au} {K:bi} {x dx C f:al} {mA:Str->ar am} {name:Str} {v:am}
theorem fP(X:K.In s.heap)(I:aFo s.heap x dx C mA)(hg:si K C name=ag)(hh:v9 K C=ag)
 (ha:i8 K (.ref C) name=aa aj)(hv:mA name=aa v)(hv':Ad v=ag)(h:Q v {s with toks:=s.toks+1}) :
  ϑ (ay prog w) A (wa (.ref x) name expr) Q E s:=by
 obtain⟨od,J,hl⟩:=I.look;exact PySem.W.get_value X J (wd hg).1 (PySem.W.findObj_own hh ha rfl (by rw[hl,hv])) hv' h
theorem aB9(X:K.In s.heap)(I:aFo s.heap x dx C mA)(hg:si K C name=ag)
 (hf:i8 K (.ref C) name=aa (aa (.ref f)))(ht:we K (.ref f)=ag)(hv:mA name=aj)(h:Q (.ref f,[.ref x]) s) :
  ϑ (ay prog w) A (wf (.ref x) name pl) Q E s:=by
 obtain⟨od,J,hl⟩:=I.look;exact PySem.W.method_fn X J (wd hg).1 (wd hg).2 hf (fS.mp ht) (by show(sh name od).map (·.isSome)=aa ak;rw[hl,hv];rfl) h
theorem aFp(X:K.In s.heap)(I:aFo s.heap x dx C mA)
 (hs:i8 K (.ref C) "__setattr__"=aa (aa (.builtin "object.__setattr__")))(hp:Ae K C=ag)(ht:wg K C name=aa aj)(hh:v9 K C=ag)
 (hw:rV mA ns)(hsz:ns.length<=bo)
 (h:∀h',aFo h' x dx C (λy=>if y=name then aa v else mA y)->e9 dx s.heap h'->Q () {s with heap:=h',toks:=s.toks+2}) :
  ϑ (ay prog w) A (setAttr (.ref x) name v) Q E s:=by
 obtain⟨od,J,hl⟩:=I.look;refine PySem.W.set_plain X J hs (PySem.W.osa_open X J hp ht λb=>?_);obtain⟨cd,hc,hd'⟩:=PySem.W.any_some hh;have hx:s.heap.get? x=aa ⟨.ref C,aa dx,.plain,#[]⟩:=I.obj;refine ao (aE (ao (ao (Af hx (ao (CA (PySem.W.looks_clsIn X hc) ?_))))));rw[hd'];refine aE (ao (aE (ao ?_)));refine wpAny_nsSet1 I.ns λh' hn2 hs2=>?_
 obtain⟨oD,esD,epD,hoD,hdD,hcD⟩:=hn2.count (CB name v hw);refine ao (wpAny_lookBehind hoD (by rw[hdD];exact pastItsLine_dict (c_ hcD (by rw[bp];lia))) ?_);exact aE (h _ ⟨(hs2.2 _ (Ne.symm I.ne)).trans I.obj,hn2,I.ne⟩ hs2)
theorem aBa(X:K.In s.heap)(hm:Ag K C=ag)
 (hi:i8 K (.ref C) "__init__"=aa (aa (.ref f)))(hf:PySem.W.typeIn K (.ref f)=aa (.type "function"))
 (h:codeAny (ay prog w) (A.under (.builtin "type.__call__" ⟨.ref C::vs,kw⟩)) (.call (.ref f) ⟨.ref (s.heap.objs.size+1)::vs,kw⟩) (PySem.W.InitBack (s.heap.objs.size+1) R)
   {s with heap:=(s.heap.push i9).push (js C s.heap.objs.size)}) :
  codeAny (ay prog w) A (.call (.ref C) ⟨vs,kw⟩) R s:=by
 obtain⟨hh,g,d,t,os⟩:=s;exact PySem.W.make_core (PySem.W.makes_of X hm) (PySem.W.looks_findIn X hi) (λself=>PySem.W.bind_fn X self hf) (.inl rfl) h
end
noncomputable def rM(f:Str)(v:V):ae (Str×V)->ae (Str×V)
 |[]=>[(f,v)]
 | (g,x)::r=>if g=f then (g,v)::r else (g,x)::rM f v r
theorem tE(f g:Str)(v:V):∀fs:ae (Str×V),(rM f v fs).lookup g=if g=f then aa v else fs.lookup g
 |[]=>by
  show kK g [(f,v)]=_;by_cases h:g=f
  ·have hb:(g==f)=ag:=fS.mpr h;simp only[kK,hb,aq h]
  ·have hb:(g==f)=ak:=fq.mpr h;simp only[kK,hb,aw h]
 | (k,x)::r=>by
  have ih:=tE f g v r;rw[show rM f v ((k,x)::r)=(if k=f then (k,v)::r else (k,x)::rM f v r) from rfl];by_cases hk:k=f
  ·rw[aq hk];by_cases h:g=k
   ·have hb:(g==k)=ag:=fS.mpr h;simp only[kK,hb,aq (h.trans hk)]
   ·have hb:(g==k)=ak:=fq.mpr h;simp only[kK,hb,aw (λe:g=f=>h (e.trans hk.symm))]
  ·rw[aw hk];by_cases h:g=k
   ·have hb:(g==k)=ag:=fS.mpr h;simp only[kK,hb,aw (λe:g=f=>hk (h.symm.trans e))]
   ·have hb:(g==k)=ak:=fq.mpr h;simp only[kK,hb];exact ih
theorem tG(f:Str)(v:V):∀fs:ae (Str×V),f∈(rM f v fs).map (·.1)/\∀g,g∈fs.map (·.1)->g∈(rM f v fs).map (·.1)
 |[]=>⟨by simp[rM],λg h=>by simp at h⟩
 | (k,x)::r=>by
  obtain⟨i1,i2⟩:=tG f v r;rw[show rM f v ((k,x)::r)=(if k=f then (k,v)::r else (k,x)::rM f v r) from rfl];by_cases hk:k=f
  ·rw[aq hk];subst hk;exact⟨by simp,λg h=>by simpa using h⟩
  ·rw[aw hk];refine⟨?_,λg h=>?_⟩
   ·rw[aI];exact c8 _ i1
   ·rw[aI] at h ⊢;rcases cj.mp h with e|e
    ·exact cj.mpr (.inl e)
    ·exact c8 _ (i2 g e)
theorem tH(f:Str)(v:V):∀fs:ae (Str×V),(rM f v fs).length<=fs.length+1
 |[]=>by simp[rM]
 | (k,x)::r=>by
  have ih:=tH f v r;rw[show rM f v ((k,x)::r)=(if k=f then (k,v)::r else (k,x)::rM f v r) from rfl];by_cases hk:k=f
  ·rw[aq hk,bp,bp];lia
  ·rw[aw hk,bp,bp];lia
theorem G8.some_of(r:G8 (aa v) o):∃u,o=aa u/\RelV v u:=by
 cases o with
 |none=>exact(show cg from r).elim
 |some u=>exact⟨u,rfl,r⟩
theorem G8.none_of(r:G8 aj o):o=aj:=by
 cases o with
 |none=>rfl
 |some u=>exact(show cg from r).elim
theorem U8(r:RelV v u):Ad u=ag:=by
 cases v with
 |non=>cases (show u=gu from r);rfl
 |bl b=>cases (show u=vg b from r);rfl
 |int i=>obtain⟨t,e⟩:=(show ∃t,u=nN i t from r);cases e;rfl
 |str x=>obtain⟨t,e⟩:=(show ∃t,u=nV x t from r);cases e;rfl
 |byt b=>obtain⟨t,e⟩:=(show ∃t,u=zj b t from r);cases e;rfl
 |flt b=>obtain⟨t,e⟩:=(show ∃t,u=zk b t from r);cases e;rfl
 |ref a=>cases (show u=cK a from r);rfl
 |ty n=>cases (show u=fI n from r);rfl
section
theorem HS(hok:HOk P w H h)(e:H a=aa (.ins C dx fs)):∃mA,aFo h a dx C mA/\(∀f,G8 (fs.lookup f) (mA f))/\rV mA (fs.map (·.1))/\fs.length<=1000/\H dx=aa (.own a):=by
 obtain⟨d,z,ne,ob,mA,n,r,q⟩:=(show gC P w H h a (.ins C dx fs) from hok a _ e)
 exact⟨mA,⟨ob,n,ne⟩,r,q,z,d⟩
end
structure Cls(K:bi)(C:al):Prop where
 pg:si K C Ah=ag
 hd:v9 K C=ag
 po:Ae K C=ag
 sa:i8 K (.ref C) "__setattr__"=aa (aa (.builtin "object.__setattr__"))
theorem Cls.get{K:bi}(c:Cls K C)(f:Str):si K C f=ag:=c.pg
def cG(K:bi)(C:al)(f:Str):Prop:=i8 K (.ref C) f=aa aj
theorem cG.taker{K:bi}(n:cG K C f):wg K C f=aa aj:=by
 unfold wg;rw[show i8 K (.ref C) f=aa aj from n];rfl
structure Meth(K:bi)(C:al)(m:Str)(f:al):Prop where
 at_:i8 K (.ref C) m=aa (aa (.ref f))
 fn:we K (.ref f)=ag
 kp:gl K (.ref f)=ag
section
variable {a C dx:al}
theorem RG(I:Inv X Ψ σ H s)(e:H a=aa (.ins C dx fs))(c:Cls X.K C)(n:cG X.K C f)(l:fs.lookup f=aa v)
 (h:∀u s',Inv X Ψ σ H s'->RelV v u->Q u s'):ϑ (ay X.prog X.w) A (wa (.ref a) f b) Q E s:=by
 obtain⟨mA,O,r,_,_,_⟩:=HS I.hok e;obtain⟨u,hu,ru⟩:=G8.some_of (by rw[<-l];exact r f);exact fP I.kIn O (c.get f) c.hd n hu (U8 ru) (h u _ (I.tok _) ru)
theorem RJ(I:Inv X Ψ σ H s)(e:H a=aa (.ins C dx fs))(c:Cls X.K C)(k:Meth X.K C m g)(l:fs.lookup m=aj)
 (h:Q (.ref g,[.ref a]) s):ϑ (ay X.prog X.w) A (wf (.ref a) m pl) Q E s:=by
 obtain⟨mA,O,r,_,_,_⟩:=HS I.hok e;have hn:mA m=aj:=G8.none_of (by rw[<-l];exact r m);exact aB9 I.kIn O (c.get m) k.at_ k.fn hn h
theorem RK(I:Inv X Ψ σ H s)(e:H a=aa (.ins C dx fs))(c:Cls X.K C)(n:cG X.K C f)(hl:fs.length<1000)(ry:RelV y u)
 (h:∀s',Inv X Ψ σ (upd H a (.ins C dx (rM f y fs))) s'->Q () s'):ϑ (ay X.prog X.w) A (setAttr (.ref a) f u) Q E s:=by
 obtain⟨mA,O,r,wi,_,ho⟩:=HS I.hok e;have hz:(fs.map (·.1)).length<=bo:=by rw[az,dg];lia
 refine aFp I.kIn O c.sa c.po n.taker c.hd wi hz λh' O' sb=>h _ ?_
 have hd:∃o,h'.get? dx=aa o:=let ⟨o,_,_,e',_⟩:=O'.ns;⟨o,e'⟩
 refine I.write (by rw[e];exact True.intro) (.inr ho) (λb q hb z=>(sb.2 b hb).trans z) hd ?_;refine⟨by rw[aP O.ne];exact ho,?_,O.ne,O'.obj,_,O'.ns,λg=>?_,λg hg=>?_⟩
 ·have:=tH f y fs;lia
 ·show G8 ((rM f y fs).lookup g) (if g=f then aa u else mA g);rw[tE];by_cases q:g=f
  ·rw[aq q,aq q];exact ry
  ·rw[aw q,aw q];exact r g
 ·by_cases q:g=f
  ·rw[q];exact(tG f y fs).1
  ·refine(tG f y fs).2 g (wi g λz=>hg ?_);show(if g=f then aa u else mA g)=aj;rw[aw q];exact z
theorem Inv.made(I:Inv X Ψ σ H s):Inv X Ψ σ (upd (upd H s.heap.objs.size (.own (s.heap.objs.size+1))) (s.heap.objs.size+1) (.ins C s.heap.objs.size []))
  {s with heap:=(s.heap.push i9).push (js C s.heap.objs.size)}:=by
 have e1:(s.heap.push i9).get? s.heap.objs.size=aa i9:=c6 s.heap rfl;have e2:((s.heap.push i9).push (js C s.heap.objs.size)).get? (s.heap.objs.size+1)=aa (js C s.heap.objs.size):=by
  have:=c6 (s.heap.push i9) (o:=js C s.heap.objs.size) rfl;rwa [dS] at this
 have e3:(s.heap.push i9).Ns s.heap.objs.size (λ_=>aj):=⟨i9,#[],_,e1,rfl,(λe he=>bd he 0x2),λ_=>rfl⟩
 have I1:=I.laid (o:=.own (s.heap.objs.size+1)) (h':=s.heap.push i9) (t':=s.toks) (λb u q=>bP _ q) (bq _) ⟨_,e1⟩;refine I1.laid (a:=s.heap.objs.size+1) (o:=.ins C s.heap.objs.size []) (t':=s.toks) (λb u q=>bP _ q) (wj (dS _ _)) ?_;have ne:s.heap.objs.size≠s.heap.objs.size+1:=cw (l7 _);refine⟨by rw[aP ne,aK],d6 _,ne,e2,λ_=>aj,(CC e3).at λo q=>bP _ q,λ_=>True.intro,λy hy=>bd rfl hy⟩
theorem aFq(hb:gm e f env (eval e env)=eval e env)
 (h:ϑ (ay prog w) A (eval e env) (λo s₁=>ϑ (ay prog w) A (wa o f ag) Q E s₁) E s):ϑ (ay prog w) A (eval (.Attribute e f pos) env) Q E s:=
 Attribute_any_ h (by rw[arm_eval_Attribute,hb])
end
noncomputable def LK(K:bi)(ta:TE)(f:Str):TE:=λσ H Q=>ta σ H λx H1=>∃a C dx fs v,x=.ref a/\H1 a=aa (.ins C dx fs)/\Cls K C/\cG K C f/\fs.lookup f=aa v/\Q v H1
def aJ0(K:bi)(ta tv:TE)(f:Str):TS:=λD σ H=>tv σ H λy H1=>ta σ H1 λx H2=>∃a C dx fs,x=.ref a/\H2 a=aa (.ins C dx fs)/\Cls K C/\cG K C f/\fs.length<1000/\
 D.nx σ (upd H2 a (.ins C dx (rM f y fs)))
section
theorem jE(he:PE X e ta)(hb:gm e f X.env (eval e X.env)=eval e X.env):PE X (.Attribute e f pos) (LK X.K ta f):=by
 intro Ψ s σ H Q I h;refine aFq hb (thn (he Ψ s σ H _ I h) λu s1 ζ=>?_);obtain⟨x,H1,I1,rx,a,C,dx,fs,v,ex,ea,c,n,l,q⟩:=ζ;subst ex;obtain rfl:u=cK a:=rx;exact RG I1 ea c n l λu' s2 I2 ru=>⟨v,H1,I2,ru,q⟩
theorem jF(ha:PE X o ta)(hv:PE X value tv)(hs:eL value (aa (.Attribute o f pos')) pos.line X.env=pure ak):PS X (.Assign [.Attribute o f pos'] value pos) (aJ0 X.K ta tv f):=by
 intro Ψ s σ H D I h;refine plainObj_wpAny_Assign_Attribute (thn (hv Ψ s σ H _ I h) λu s1 ζ=>?_) hs;obtain⟨y,H1,I1,ry,q⟩:=ζ;refine thn (ha Ψ s1 σ H1 _ I1 q) λov s2 ζ=>?_;obtain⟨x,H2,I2,rx,a,C,dx,fs,ex,ea,c,n,l,q2⟩:=ζ;subst ex;obtain rfl:ov=cK a:=rx;exact RK I2 ea c n l ry λs3 I3=>⟨σ,_,I3,q2⟩
end
structure lH(k:ah)(A:cf):Prop where
 hd:A.handled=aj
 dp:A.depth+3*k+5<Ai
 un:A.units+16*k+200<c9
theorem lH.mono(r:lH k A)(h:j<=k):lH j A:=⟨r.hd,by have:=r.dp;lia,by have:=r.un;lia⟩
theorem lH.deeper(r:lH (k+1) A)(env:cS):lH k (A.deeper env):=
 ⟨r.hd,by have:=r.dp;show A.depth+1+3*k+5<_;lia,by have:=r.un;show A.units+3+16*k+200<_;lia⟩
theorem RL{A:cf}:(A.under (.builtin "type.__call__" ⟨.ref C::us,kw⟩)).depth=A.depth+1:=by
 first|rfl|simp[wl,Code.weight,Code.isCreation,Code.isGuard,Code.isCaller,Aj,wm,guardIds]
theorem RM{A:cf}:(A.under (.builtin "type.__call__" ⟨.ref C::us,kw⟩)).units=A.units+1:=by
 first|rfl|simp[wl,Code.cUnits,Aj,wm]
theorem lH.make(r:lH (k+1) A)(C:al)(us:ae am)(kw:ae (Str×am)):lH k (A.under (.builtin "type.__call__" ⟨.ref C::us,kw⟩)):=
 ⟨r.hd,by have:=r.dp;rw[RL];lia,by have:=r.un;rw[RM];lia⟩
theorem lH.depth(r:lH k A):A.depth<Ai:=by have:=r.dp;lia
theorem lH.units(r:lH k A):A.units+64<c9:=by have:=r.un;lia
noncomputable def tK:TA:=λ_ H Q=>Q [] H
noncomputable def dO(ta:TE)(tr:TA):TA:=λσ H Q=>ta σ H λx H1=>tr σ H1 λxs H2=>Q (x::xs) H2
section
variable {t:TA}
theorem dM:PA X [] tK:=λ_ _ _ _ H Q I h=>l8 ⟨[],H,I,.nil,h⟩
theorem bH(ha:PE X e te)(hr:PA X es t)(hs:autoParam (zSE X e es) Ω):PA X (e::es) (dO te t):=by
 intro pos Ψ s σ H Q I h;rw[hs];show ϑ _ _ (kF ((ak,eval e X.env)::ip pos (cr es X.env))) _ _ s;refine l9 (thn (ha Ψ s σ H _ I h) λu s1 ζ=>?_);obtain⟨x,H1,I1,r1,q1⟩:=ζ;exact thn (hr pos Ψ s1 σ H1 _ I1 q1) λus s2 ⟨xs,H2,I2,r2,q2⟩=>⟨x::xs,H2,I2,.cons r1 r2,q2⟩
def aQg(t:TA):TE:=λσ H Q=>t σ H λxs H1=>xs.length<=bo/\∀p,H1 p=aj->Q (.ref p) (upd H1 p (.tup xs))
def aNk(t:TA):TE:=λσ H Q=>t σ H λxs H1=>xs.length<=bo/\∀p,H1 p=aj->Q (.ref p) (upd H1 p (.lst xs))
theorem aE2{x1}(h:PA X es t):PE X (.Tuple es x1 pos) (aQg t):=by
 intro Ψ s σ H Q I hq;refine wpAny_Tuple_spliced (thn (h pos Ψ s σ H _ I hq) λus s1 ⟨xs,H1,I1,r,z,q⟩=>⟨by rw[<-r.length];exact z,?_⟩);have hf:H1 s1.heap.objs.size=aj:=I1.hok.fresh (bq _);refine⟨.ref s1.heap.objs.size,upd H1 s1.heap.objs.size (.tup xs),I1.laid (λb u e=>bP _ e) (bq _) ?_,rfl,q _ hf⟩;exact⟨z,us,r,⟨_,c6 _ rfl,rfl,_,rfl⟩⟩
theorem LQ(h:PA X es t):PE X (.List es pos) (aNk t):=by
 intro Ψ s σ H Q I hq;refine wpAny_List_spliced (thn (h pos Ψ s σ H _ I hq) λus s1 ⟨xs,H1,I1,r,z,q⟩=>⟨by rw[<-r.length];exact z,?_⟩);have hf:H1 s1.heap.objs.size=aj:=I1.hok.fresh (bq _);refine⟨.ref s1.heap.objs.size,upd H1 s1.heap.objs.size (.lst xs),I1.laid (λb u e=>bP _ e) (bq _) ?_,rfl,q _ hf⟩;exact⟨z,us,0,r,c6 _ rfl⟩
end
abbrev Sp:=ae V->Hp->VK->XK->Prop
abbrev CXT:=ae cS->Hp->au->XK->am->au->Prop
structure aFr(P:bS)(w:bu)(K:bi)(mg:Str->ar am)(base:bc)(A:cf)(outer:ae cS)(s:au)(H:Hp):Prop where
 frames:A.frames=aa outer
 mod:Mod K mg base
 bs:∀b o,base.get? b=aa o->s.heap.get? b=aa o/\H b=aj
 bsz:base.objs.size<=s.heap.objs.size
 Q8:s.heap.FunFrames base outer
 frf:∀b∈frs outer,H b=aj
 hok:HOk P w H s.heap
 bare:iq s.gens
def CE(outer:ae cS)(P:bS)(w:bu)(H:Hp)(s:au)(Q:VK)(u:am)(s':au):Prop:=
 ∃v H',s'.os=s.os/\iq s'.gens/\Un (frs outer) [] H H' s.heap s'.heap/\HOk P w H' s'.heap/\RelV v u/\Q v H'
def CR(CX:CXT)(outer:ae cS)(P:bS)(w:bu)(H:Hp)(s:au)(Q:VK)(E:XK)(r:Result)(s':au):Prop:=
 match r with
 |.ok (.ret u)=>CE outer P w H s Q u s'
 |.ok _=>cg
 |.error e=>CX outer H s E e s'
structure lJ(P:bS)(w:bu)(K:bi)(mg:Str->ar am)(base:bc)(CX:CXT)(k:ah)(f:al)(fd:dm)(ps:ae Str)(sp:Sp):Prop where
 len:∀vs H Q E,sp vs H Q E->vs.length=ps.length
 run:∀(A:cf)(outer:ae cS)(s:au)(H:Hp)(args:Args)(us:ae am)(vs:ae V)(Q:VK)(E:XK),lH k A->aFr P w K mg base A outer s H->kL s fd args (ps.zip us)->Vals vs us->sp vs H Q E->
  codeAny (ay P w) A (.call (.ref f) args) (CR CX outer P w H s Q E) s
theorem aFr.make{K:bi}{base:bc}{A:cf}{outer:ae cS}{s:au}{H:Hp}(e:aFr P w K mg base A outer s H)(C:al)(us:ae am)(kw:ae (Str×am)) :
  aFr P w K mg base (A.under (.builtin "type.__call__" ⟨.ref C::us,kw⟩)) outer s H:=⟨by first|exact e.frames|(simpa[wl,Code.envs,wm,pushEnvs] using e.frames),e.mod,e.bs,e.bsz,e.Q8,e.frf,e.hok,e.bare⟩
section
theorem Inv.env0(I:Inv X Ψ σ H s):aFr X.prog X.w X.K X.mg X.base X.A X.stack s H:=
 ⟨I.ok.frames,I.ok.mod,I.bs,c_ I.ok.bsz I.sz,I.stack,I.HN,I.hok,I.bare⟩
theorem Inv.after(I:Inv X Ψ σ H s)(h:CE X.stack X.prog X.w H s Q u s'):EP X Ψ σ Q u s':=by
 obtain⟨v,H',os,bare,un,hok,r,q⟩:=h;obtain⟨hh,g,d,t,os'⟩:=s';obtain rfl:os'=s.os:=os;exact⟨v,H',I.call un hok bare (λb z=>bd z 0x2),r,q⟩
end
noncomputable def aOb(sp:Sp)(dvs:ae V)(E:XK)(t:TA):TE:=λσ H Q=>t σ H λvs H1=>sp (vs++dvs) H1 Q E
noncomputable def RN(C:al)(m:Str)(sp:Sp)(dvs:ae V)(E:XK)(ta:TE)(t:TA):TE:=λσ H Q=>ta σ H λx H1=>∃a dx fs,x=.ref a/\H1 a=aa (.ins C dx fs)/\fs.lookup m=aj/\
 t σ H1 λvs H2=>sp (x::(vs++dvs)) H2 Q E
def aOc(C:al)(sp:Sp)(dvs:ae V)(E:XK)(t:TA):TE:=λσ H Q=>t σ H λvs H1=>∀x dx,H1 x=aj->H1 dx=aj->dx≠x->
 sp (.ref x::(vs++dvs)) (upd (upd H1 dx (.own x)) x (.ins C dx [])) (λv H2=>v=.non/\Q (.ref x) H2) E
def Binds(K:bi)(fd:dm)(ps:ae Str)(ds:ae am):Prop:=
 ∀(s:au)(us:ae am),K.In s.heap->(us++ds).length=ps.length->kL s fd ⟨us,[]⟩ (ps.zip (us++ds))
theorem Binds.all{K:bi}(h:∀us:ae am,us.length=ps.length->bindArgs fd ⟨us,[]⟩=pure (ps.zip us)):Binds K fd ps []:=λs us _ hl=>by
 rw[b5] at hl ⊢;exact .of_eq (h us hl)
def tL(CX:CXT)(X:Cx)(E:XK):Prop:=∀(Ψ:ae (al×bn))(σ:St)(H:Hp)(s:au)(e:am)(s':au),Inv X Ψ σ H s->CX X.stack H s E e s'->X.xe e s'
section
variable {f C:al} {e o:Expr}
theorem aE3(F:lJ X.prog X.w X.K X.mg X.base CX k f fd ps sp)(hr:lH k X.A)(hb:Binds X.K fd ps ds)(hd:Vals dvs ds)(hx:tL CX X E)
 (I:Inv X Ψ σ H s)(r:Vals vs us)(h:sp (vs++dvs) H Q E):ϑ (ay X.prog X.w) X.A (call (.ref f) us) (EP X Ψ σ Q) X.xe s:=by
 have r2:Vals (vs++dvs) (us++ds):=r.append hd;have hl:(us++ds).length=ps.length:=by rw[<-r2.length];exact F.len _ _ _ _ h
 refine jw (ma (F.run X.A X.stack s H ⟨us,[]⟩ (us++ds) (vs++dvs) Q E hr I.env0 (hb s us I.kIn hl) r2 h) λr s' hq=>?_);cases r with
 |error e=>exact hx Ψ σ H s e s' I hq
 |ok fl=>
  cases fl with
  |ret u=>exact I.after hq
  |next=>exact dQ hq
  |brk=>exact dQ hq
  |cont=>exact dQ hq
theorem HW(F:lJ X.prog X.w X.K X.mg X.base CX k f fd ps sp)(hr:lH k X.A)(hg:Gl X x)(hm:X.mg x=aa (.ref f))(hk:gl X.K (.ref f)=ag)(hb:Binds X.K fd ps ds)(hd:Vals dvs ds)(hx:tL CX X E)
 (ha:PA X (e::es) t)(hdb:autoParam (nDb x) Λ)(he:autoParam (zSE X e es) Ω)(hpl:autoParam (zSP X pos es) Ω) :
  PE X (.Call (.Name x p) (e::es) [] pos) (aOb sp dvs E t):=by
 intro Ψ s σ H Q I h;refine gL (qM I hg hm ?_ hdb);refine wn I.ok.mod.kin hk (thn (ha pos Ψ s σ H _ I h) λus s1 ⟨vs,H1,I1,r,q⟩=>⟨I1.kIn,?_⟩) he hpl;exact aE3 F hr hb hd hx I1 r q
theorem wO(he:PE X o ta)(c:Cls X.K C)(hm:Meth X.K C m f)(F:lJ X.prog X.w X.K X.mg X.base CX k f fd ps sp)(hr:lH k X.A)(hb:Binds X.K fd ps ds)(hd:Vals dvs ds)(hx:tL CX X E)(ha:PA X (e::es) t)
 (hst:autoParam (zSE X e es) Ω)(hpl:autoParam (zSP X pos es) Ω)
 (ht:autoParam (eval (.Call (.Attribute o m apos) (e::es) [] pos) X.env=(do
   let ov <- eval o X.env
   v8 apos.atName
   let (f,first) <- jv [ov] (wf ov m pl)
   callWith pos f first (ip pos (cr (e::es) X.env)) (backToKw pos (zp [] X.env)))) Ω) :
  PE X (.Call (.Attribute o m apos) (e::es) [] pos) (RN C m sp dvs E ta t):=by
 intro Ψ s σ H Q I h;refine PySem.W.methodCall_KW (thn (he Ψ s σ H _ I h) λu s1 ζ=>?_) ht;obtain⟨x,H1,I1,rx,a,dx,fs,ex,ea,l,q⟩:=ζ;subst ex;obtain rfl:u=cK a:=rx;refine RJ I1 ea c hm l ?_;refine wn I.ok.mod.kin hm.kp (thn (ha pos Ψ s1 σ H1 _ I1 q) λus s2 ⟨vs,H2,I2,r,q2⟩=>⟨I2.kIn,?_⟩) hst hpl;exact aE3 (vs:=.ref a::vs) F hr hb hd hx I2 (.cons rfl r) q2
structure Mk(K:bi)(C f:al):Prop where
 makes:Ag K C=ag
 init:i8 K (.ref C) "__init__"=aa (aa (.ref f))
 fn:we K (.ref f)=ag
 kp:gl K (.ref C)=ag
theorem aBb(M:Mk X.K C f)(F:lJ X.prog X.w X.K X.mg X.base CX k f fd ps sp)(hr:lH (k+1) X.A)(hb:Binds X.K fd ps ds)(hd:Vals dvs ds)
 (hx:tL CX X E)(I:Inv X Ψ σ H s)(r:Vals vs us)
 (h:∀x dx,H x=aj->H dx=aj->dx≠x->sp (.ref x::(vs++dvs)) (upd (upd H dx (.own x)) x (.ins C dx [])) (λv H2=>v=.non/\Q (.ref x) H2) E) :
  ϑ (ay X.prog X.w) X.A (call (.ref C) us) (EP X Ψ σ Q) X.xe s:=by
 have hq:=h (s.heap.objs.size+1) s.heap.objs.size (I.hok.fresh (md _)) (I.hok.fresh (bq _)) (cw (l7 _));have I2:=Inv.made (C:=C) I;have r2:Vals (V.ref (s.heap.objs.size+1)::(vs++dvs)) (cK (s.heap.objs.size+1)::(us++ds)):=.cons rfl (r.append hd);have hl:(cK (s.heap.objs.size+1)::us++ds).length=ps.length:=by
  have e:=r2.length;rw[F.len _ _ _ _ hq] at e;exact e.symm
 refine jw (aBa I.kIn M.makes M.init (fS.mp M.fn) (ma (F.run _ X.stack _ _ ⟨cK (s.heap.objs.size+1)::us,[]⟩ (cK (s.heap.objs.size+1)::(us++ds)) _ _ E (hr.make C us [])
  (I2.env0.make C us []) (hb _ (cK (s.heap.objs.size+1)::us) I2.kIn hl) r2 hq) λr s' hq'=>?_))
 cases r with
 |error e=>exact hx Ψ σ _ _ e s' I2 hq'
 |ok fl=>
  cases fl with
  |ret u=>
   obtain⟨v,H',I3,rv,ev,q3⟩:=I2.after hq';subst ev;exact⟨rv,⟨V.ref (s.heap.objs.size+1),H',I3,rfl,q3⟩⟩
  |next=>exact dQ hq'
  |brk=>exact dQ hq'
  |cont=>exact dQ hq'
theorem aFs(M:Mk X.K C f)(F:lJ X.prog X.w X.K X.mg X.base CX k f fd ps sp)(hr:lH (k+1) X.A)(hg:Gl X x)(hm:X.mg x=aa (.ref C))(hb:Binds X.K fd ps ds)(hd:Vals dvs ds)(hx:tL CX X E)
 (ha:PA X (e::es) t)(hdb:autoParam (nDb x) Λ)(he:autoParam (zSE X e es) Ω)(hpl:autoParam (zSP X pos es) Ω) :
  PE X (.Call (.Name x p) (e::es) [] pos) (aOc C sp dvs E t):=by
 intro Ψ s σ H Q I h;refine gL (qM I hg hm ?_ hdb);refine wn I.ok.mod.kin M.kp (thn (ha pos Ψ s σ H _ I h) λus s1 ⟨vs,H1,I1,r,q⟩=>⟨I1.kIn,?_⟩) he hpl;exact aBb M F hr hb hd hx I1 r q
end
structure bZ(N P:ae Str)(sc:fx):Prop where
 kind:sc.kind=.function
 co:sc.isCoroutine=ak
 gen:sc.isGenerator=ak
 nd:N.Nodup
 pre:N.take P.length=P
 par:∀x∈P,sc.names.lookup x=aa .local\/sc.names.lookup x=aa .cell
 nofree:∀y∈sc.names,y.2≠.free
theorem zT{kindOf:Str->ar iA}:∀{binds:ae (Str×am)}{m:Str->ar am},(∀v,(x,v)∉binds)->jx kindOf binds m x=m x
 |[],_,_=>rfl
 | (n,v)::r,m,h=>by
  unfold jx;rw[zT λw hw=>h w (c8 _ hw)];split
  ·have:x≠n:=by rintro rfl;exact h v de
   simp[this]
  ·rfl
theorem zU{kindOf:Str->ar iA}:∀{binds:ae (Str×am)}{m:Str->ar am},(∀v,(x,v)∉binds)->jy kindOf binds m x=m x
 |[],_,_=>rfl
 | (n,v)::r,m,h=>by
  unfold jy;rw[zU λw hw=>h w (c8 _ hw)];split
  ·rfl
  ·have:x≠n:=by rintro rfl;exact h v de
   simp[this]
theorem zV{kindOf:Str->ar iA}:∀{P:ae Str}{vs:ae am}{i:ah}{m:Str->ar am},P.Nodup->P[i]?=aa x->vs[i]?=aa v->kindOf x=aa .local->
  jx kindOf (P.zip vs) m x=aa v
 |[],_,_,_,_,h,_,_=>by simp at h
 |_::_,[],_,_,_,_,h,_=>by simp at h
 |p::P,w::vs,0,m,nd,h1,h2,hk=>by
  simp at h1 h2;subst h1;subst h2;show jx kindOf ((p,w)::P.zip vs) m p=_;unfold jx;rw[zT λv hv=>(fz.mp nd).1 (oj hv).1,aq hk];simp
 |p::P,w::vs,i+1,m,nd,h1,h2,hk=>by
  show jx kindOf ((p,w)::P.zip vs) m x=_;unfold jx;exact zV (fz.mp nd).2 (by simpa using h1) (by simpa using h2) hk
theorem zW{kindOf:Str->ar iA}:∀{P:ae Str}{vs:ae am}{i:ah}{m:Str->ar am},P.Nodup->P[i]?=aa x->vs[i]?=aa v->kindOf x≠aa .local->
  jy kindOf (P.zip vs) m x=aa v
 |[],_,_,_,_,h,_,_=>by simp at h
 |_::_,[],_,_,_,_,h,_=>by simp at h
 |p::P,w::vs,0,m,nd,h1,h2,hk=>by
  simp at h1 h2;subst h1;subst h2;show jy kindOf ((p,w)::P.zip vs) m p=_;unfold jy;rw[zU λv hv=>(fz.mp nd).1 (oj hv).1,aw hk];simp
 |p::P,w::vs,i+1,m,nd,h1,h2,hk=>by
  show jy kindOf ((p,w)::P.zip vs) m x=_;unfold jy;exact zW (fz.mp nd).2 (by simpa using h1) (by simpa using h2) hk
noncomputable def start(N:ae Str)(vs:ae V):St:=vs.map aa++bX (N.length-vs.length) aj
noncomputable def wQ(CX:CXT)(P:bS)(w:bu)(K:bi)(mg:Str->ar am)(base:bc)(N:ae Str)(qual:Str)(scope:fx)(f:al)(cd:am)(A:cf)(outer:ae cS)(s:au)(H:Hp)(E:XK):Cx where
 prog:=P
 w:=w
 K:=K
 mg:=mg
 base:=base
 A:=A.deeper (eR qual scope s.heap.objs.size f cd)
 N:=N
 s₀:=s
 H₀:=H
 env:=eR qual scope s.heap.objs.size f cd
 outer:=outer
 stack:=eR qual scope s.heap.objs.size f cd::outer
 ex:=[]
 calm:=ag
 fn:=λ_=>ag
 pn:=[]
 xe:=λe s'=>ϑ (ay P w) (A.deeper (eR qual scope s.heap.objs.size f cd)) (leaving (eR qual scope s.heap.objs.size f cd) e) (λ_ s''=>CX outer H s E e s'') (λe' s''=>CX outer H s E e' s'') s'
theorem LR{sc:fx}(h:sc.names.lookup x=aa .cell):∃c,(wo n sc.names []).lookup x=aa c:=by
 have q:=Ak sc.names n [] (.inl h);exact wr.mp q
theorem U9{CX:CXT}{P:bS}{w:bu}{K:bi}{mg:Str->ar am}{base:bc}{N ps:ae Str}{qual:Str}{scope:fx}{f:al}{cd:am}{A:cf}{outer:ae cS}{s s1:au}{H:Hp}{E:XK}{us:ae am}{vs:ae V}
 (S:bZ N ps scope)(hd:A.handled=aj)(e0:aFr P w K mg base A outer s H)(hl:vs.length=ps.length)(r:Vals vs us)
 (x:InCallC s s.heap.objs.size (jx (eR qual scope s.heap.objs.size f cd).kindOf (ps.zip us) λ_=>aj) (wo (s.heap.objs.size+1) scope.names []) (jy (eR qual scope s.heap.objs.size f cd).kindOf (ps.zip us) λ_=>aj) s1) :
  Inv (wQ CX P w K mg base N qual scope f cd A outer s H E) [] (start N vs) H s1:=by
 have hpl:ps.length<=N.length:=by have:=cy fT S.pre;rw[jz] at this;lia
 obtain⟨h1,tk,rfl,hk⟩:=x.done;have noA:∀b:al,b∉(wQ CX P w K mg base N qual scope f cd A outer s H E).ex:=λb z=>bd (show b∈([]:ae al) from z) 0x2
 refine⟨⟨e0.mod,S.kind,rfl,rfl,bq _,λy z c h1 h2=>?_,λy hy=>?_,λy c _ h=>?_,λ_=>hd,Around.frames_deeper e0.frames,.inr ⟨rfl,rfl⟩,λb z=>bd z (noA b),e0.bs,e0.bsz,λb _ _=>noA b,λb z=>bd z (noA b),e0.Q8,e0.frf⟩,
  rfl,e0.bare,Un.kept hk,⟨_,x.toInCall.ns,λi y v h1 h2 h3=>?_⟩,λy c h=>⟨_,x.cell y c h⟩,e0.hok.fresh (bq _),λy c h=>?_,λp hp=>bd (show p∈([]:ae (al×bn)) from hp) 0x2,e0.hok.kept hk,?_⟩
 ·exact name_of_addr x.apart (me h1) (me h2)
 ·have hy:scope.names.lookup y=aa .cell\/scope.names.lookup y=aa .free:=hy;rcases hy with hy|hy
  ·exact LR hy
  ·exact bd rfl (S.nofree _ (me hy))
 ·exact vq (x.above y c (me h))
 ·have hi:i<vs.length:=by
   unfold start at h2;by_cases hi:i<vs.length
   ·exact hi
   ·rw[fg (by simpa using hi)] at h2;rw[iE] at h2;split at h2<;>cases h2
  have ha:vs[i]?=aa v:=by
   unfold start at h2;rw[dA (by simpa using hi),fA] at h2;cases e:vs[i]? with
   |none=>rw[e] at h2;cases h2
   |some a=>rw[e] at h2;cases h2;rfl
  obtain⟨u,hu,rv⟩:=r.get ha;have hp:ps[i]?=aa y:=by
   rw[<-S.pre,List.getElem?_take_of_lt 0x1];exact h1
  have ndP:ps.Nodup:=by rw[<-S.pre];exact S.nd.sublist (List.take_sublist _ _)
  refine⟨u,rv,?_⟩;rcases S.par y (jI hp) with k|k
  ·exact .inl ⟨k,zV ndP hp hu k⟩
  ·obtain⟨c,e⟩:=LR k;refine .inr ⟨.inl k,c,e,?_⟩;have q:=x.cell y c e;rw[zW ndP hp hu (by show scope.names.lookup y≠_;rw[k];decide)] at q;exact q
 ·exact e0.hok.fresh (vq (x.above y c (me h)))
 ·unfold start;show _=N.length;rw[aT,az,ot];lia
theorem aFt{w:bu}{K:bi}{mg:Str->ar am}{base:bc}{k:ah}{f:al}{name qual:Str}{params:Arguments}{body:ae bz}{scope:fx}{dV kV doc pm cdv ct oc:am}{an od:ar al}
 {osl:br (ar am)}{N ps:ae Str}{sp:Sp}(lk:K.lookup f=aa ⟨oc,od,.func (kM name qual params body scope dV kV doc pm an cdv ct),osl⟩)(hcd:sk K cdv qual=ag)(S:bZ N ps scope)
 (len:∀vs H Q E,sp vs H Q E->vs.length=ps.length)
 (hbody:∀(A:cf) (outer:ae cS) (s:au) (H:Hp) (vs:ae V) (Q:VK) (E:XK),lH k (A.deeper (eR qual scope s.heap.objs.size f cdv))->sp vs H Q E->
   ∃t,PSs (wQ CX P w K mg base N qual scope f cdv A outer s H E) body t/\t {nx:=λ_ H'=>Q .non H',rt:=Q} (start N vs) H) :
  lJ P w K mg base CX (k+1) f (kM name qual params body scope dV kV doc pm an cdv ct) ps sp:=by
 refine⟨len,λA outer s H args us vs Q E hr e0 hb r hsp=>?_⟩;have hl:=len _ _ _ _ hsp;have KX:K.In s.heap:=e0.mod.kin.keeps λb o e=>(e0.bs b o e).1
 have lim:s.heap.NoLimit:=e0.mod.nolimit.keeps λb o e=>(e0.bs b o e).1
 have hkind:∀y∈ps.zip us,scope.names.lookup y.1=aa .local\/(scope.names.lookup y.1=aa .cell/\((wo (s.heap.objs.size+1) scope.names []).lookup y.1).isSome=ag):=λ⟨n,v⟩ hy=>by
  rcases S.par n (oj hy).1 with q|q
  ·exact .inl q
  ·exact .inr ⟨q,Ak _ _ _ (.inl q)⟩
 refine codeAny_call_function hr.depth (KX _ _ lk) rfl S.co S.gen rfl (PySem.W.codeRec_of KX hcd) (hb _ _ _ _ ?_);refine wpAny_newFunctionEnv_cells S.kind hkind λenv he s1 x=>?_
 subst he;refine⟨lim.keeps x.toInCall.keep,codeAny_func ?_⟩;obtain⟨t,ht,hq⟩:=hbody A outer s H vs Q E (hr.deeper _) hsp;have I:Inv (wQ CX P w K mg base N qual scope f cdv A outer s H E) [] (start N vs) H s1:=U9 S hr.hd e0 hl r x;refine fR (ht [] s1 (start N vs) H _ I hq) (λfl s' hs=>?_) λe s' hs=>hs
 have fin:∀{σ':St}{H':Hp}{v:V}{u:am},Inv (wQ CX P w K mg base N qual scope f cdv A outer s H E) [] σ' H' s'->RelV v u->Q v H'->CE outer P w H s Q u s':=
  λ{σ' H' v u} J rv q=>⟨v,H',J.os,J.bare,J.base,J.hok,rv,q⟩
 cases fl with
 |ret u=>
  obtain⟨v,σ',H',J,rv,q⟩:=hs;exact fin J rv q
 |next=>
  obtain⟨σ',H',J,q⟩:=hs;exact fin (v:=V.non) J rfl q
 |brk=>
  obtain⟨_,_,_,q⟩:=hs;exact dQ q
 |cont=>
  obtain⟨_,_,_,q⟩:=hs;exact dQ q
section
variable {e:Expr} {t:TA} {id T:gf} {r:ae V->Hp->VK->Prop}
noncomputable def tCB(r:ae V->Hp->VK->Prop)(t:TA):TE:=λσ H Q=>t σ H λvs H1=>r vs H1 Q
theorem wR(hc:nM X (.builtin id) r)(hg:Gl X x)(hm:X.mg x=aj)(hv:eu x=aa (.builtin id))(ha:PA X (e::es) t)(hn:autoParam (x ≠ "__name__") Λ)(hdb:autoParam (nDb x) Λ)
 (he:autoParam (zSE X e es) Ω)(hpl:autoParam (zSP X pos es) Ω):PE X (.Call (.Name x p) (e::es) [] pos) (tCB r t):=by
 intro Ψ s σ H Q I h;refine gL (mQ I hg hm hv ?_ hn hdb);exact CD (thn (ha pos Ψ s σ H _ I h) λus s1 ⟨vs,H1,I1,r1,q1⟩=>hc Ψ s1 σ H1 vs us Q I1 r1 q1) he hpl
theorem U_(hc:nM X (.type T) r)(hg:Gl X x)(hm:X.mg x=aj)(hv:eu x=aa (.type T))(ha:PA X (e::es) t)(hn:autoParam (x ≠ "__name__") Λ)(hdb:autoParam (nDb x) Λ)
 (he:autoParam (zSE X e es) Ω)(hpl:autoParam (zSP X pos es) Ω):PE X (.Call (.Name x p) (e::es) [] pos) (tCB r t):=by
 intro Ψ s σ H Q I h;refine gL (mQ I hg hm hv ?_ hn hdb);exact ju (thn (ha pos Ψ s σ H _ I h) λus s1 ⟨vs,H1,I1,r1,q1⟩=>hc Ψ s1 σ H1 vs us Q I1 r1 q1) he hpl
end
end L2
namespace HT
open PySem PyProof.Rows
section
variable {prog:bS} {w:bu} {A:cf} {E:am->au->Prop} {s:au}
theorem aFu(ht:jr s.heap t vs.toArray)(hb:jr s.heap b ws.toArray)(hv:vs≠[])
 (h1:ws=[]->Q (.ref t) s)(h2:ws≠[]->Q (.ref s.heap.objs.size) {s with heap:=s.heap.push {cls:=.type "tuple",data:=.seq (vs++ws).toArray}})
 (hsz:vs.length+ws.length<=bo):ϑ (ay prog w) A (eB .Add (.ref t) (.ref b)) Q E s:=by
 obtain⟨⟨cls,dd,data,sl⟩,ho,hc,n,hd⟩:=id ht;obtain⟨⟨cls2,dd2,data2,sl2⟩,ho2,hc2,n2,hd2⟩:=id hb;simp only at hc hd hc2 hd2;subst hc hd hc2 hd2;have e:vs.toArray++ws.toArray=(vs++ws).toArray:=by simp
 by_cases hw:ws=[]
 ·exact sr ⟨_,ho,rfl⟩ ⟨_,ho2,rfl⟩ su sv sw sx (sA _ _)
   (tuple_addW1 t b vs.toArray ws.toArray n n2 dd dd2 sl sl2 (by simpa using hv) (by simp[hw])) ⟨ho,ho2,h1 hw⟩
 ·refine sr ⟨_,ho,rfl⟩ ⟨_,ho2,rfl⟩ su sv sw sx (sA _ _)
   (Al t b vs.toArray ws.toArray n n2 dd dd2 sl sl2 (by simpa using hv) (by simpa using hw) (by rw[b6,b6];exact hsz)) ⟨ho,ho2,?_⟩
  rw[e];exact h2 hw
noncomputable def sIx(n d:ah):ar ai->ah
 |none=>d
 |some v=>if v<0 then (v+(n:ai)).toNat else min v.toNat n
theorem aJq(n d:ah)(hd:d<=n)(o:ar ai):sIx n d o<=n:=by
 cases o with
 |none=>exact hd
 |some v=>
  show(if v<0 then (v+(n:ai)).toNat else min v.toNat n)<=n;by_cases hv:v<0
  ·rw[aq hv];lia
  ·rw[aw hv];exact Nat.min_le_right _ _
theorem VB(v:ai)(n d:ah):(if v<0 then max (v+(n:ai)) 0 else min v (n:ai))=((sIx n d (aa v):ah):ai):=by
 show(if v<0 then max (v+(n:ai)) 0 else min v (n:ai))=(((if v<0 then (v+(n:ai)).toNat else min v.toNat n):ah):ai);by_cases hv:v<0
 ·simp only[aq hv];lia
 ·simp only[aw hv];lia
theorem RQ(lo hi:ar ai)(n:ah):wt lo hi 1 (n:ai)=(((sIx n 0 lo:ah):ai),((sIx n n hi:ah):ai)):=by
 have h1:¬((1:ai)<0):=by lia
 unfold wt;simp only[h1,fE];refine Prod.ext ?_ ?_
 ·cases lo with
  |none=>rfl
  |some v=>exact VB v n 0
 ·cases hi with
  |none=>rfl
  |some v=>exact VB v n n
theorem RT(i j:ah):sB (i:ai) (j:ai) 1=j-i:=by
 unfold sB;have h1:(1:ai) > 0:=by lia
 simp only[h1,ff,Int.ediv_one];split<;>lia
theorem vK(p:hZ v o)(h:Q o s):ϑ (ay prog w) A (CH v) Q E s:=by
 cases p with
 |none=>exact Am h
 |int i t=>exact slicePart_int h
theorem mD{lo hi:ar ai}{Q:ai×ai×ah->au->Prop}(hs:s.heap.IsSliceOf sl vl vu .none)(pl:hZ vl lo)(pu:hZ vu hi)
 (h:Q (((sIx n 0 lo:ah):ai),1,sIx n n hi-sIx n 0 lo) s):ϑ (ay prog w) A (An (.ref sl) (pure (n:ai))) Q E s:=by
 obtain⟨os,hos,hcs,hds⟩:=id hs;unfold An CI;refine ao (ao (dh hos hds rfl (ao (dh hos hds rfl (ao (dh hos hds rfl (aE ?_)))))));refine ao (Am ?_);show ϑ _ _ (if ((1:ai)==0)=ag then _ else _) _ _ s;rw[aw 0x4];refine ao (vK pl (ao (vK pu (ao (aE ?_)))));show ϑ _ _ (match wt lo hi 1 (n:ai) with|(lo,hi)=>pure (lo,(1:ai),sB lo hi 1)) _ _ s;rw[RQ lo hi n];show ϑ _ _ (pure (((sIx n 0 lo:ah):ai),(1:ai),sB ((sIx n 0 lo:ah):ai) ((sIx n n hi:ah):ai) 1)) _ _ s;rw[RT];exact aE h
theorem aBc(xs:br am)(i k:ah):((bj k).filterMap λ(m:ah)=>xs[((i:ai)+(m:ai)*1).toNat]?).toArray=((xs.toList.drop i).take k).toArray:=by
 have e:(λ(m:ah)=>xs[((i:ai)+(m:ai)*1).toNat]?)=λm=>xs[i+m]?:=by
  funext m
  have:((i:ai)+(m:ai)*1).toNat=i+m:=by lia
  rw[this]
 rw[e];have:=pick_run xs i k;rw[List.filterMap_map] at this;have e2:((λx=>xs[x]?) ∘ λx=>i+x)=λm=>xs[i+m]?:=rfl
 rw[e2] at this;rw[this]
theorem qN{lo hi:ar ai}{Q:am->au->Prop}(ht:jr s.heap t items)(hs:s.heap.IsSliceOf sl vl vu .none)(pl:hZ vl lo)(pu:hZ vu hi)
 (hw:¬(sIx items.size 0 lo=0/\sIx items.size items.size hi=items.size))
 (h:Q (.ref s.heap.objs.size) {s with heap:=s.heap.push {cls:=.type "tuple",data:=.seq ((items.toList.drop (sIx items.size 0 lo)).take (sIx items.size items.size hi-sIx items.size 0 lo)).toArray}})
 (hsz:items.size<=bo):ϑ (ay prog w) A (ja (.ref t) (.ref sl)) Q E s:=by
 have htake:sizeOk (.seq ((items.toList.drop (sIx items.size 0 lo)).take (sIx items.size items.size hi-sIx items.size 0 lo)).toArray):=by
  show((items.toList.drop (sIx items.size 0 lo)).take (sIx items.size items.size hi-sIx items.size 0 lo)).toArray.size<=bo;rw[b6,jz,ou,sf];lia
 have hj:sIx items.size items.size hi<=items.size:=aJq _ _ (bq _) hi;obtain⟨os,hos,hcs,hds⟩:=id hs;have hTs:s.TypeIs (.ref sl) "slice":=⟨os,hos,hcs⟩
 unfold ja
 try with_reducible refine eD ?_
 first|refine ao (aE ?_)|skip
 refine ao (Ao ht.typeIs 0x4 ?_);refine ao (jb ht.typeIs ow
  (jS ow ht.typeIs Ap ?_ (Aq _ _)))
 show ϑ _ _ (sC (.ref t) >>= _) _ _ s;refine ao (sD ht ?_);refine ao (iF hTs ?_);rw[aq 0x4];refine ao (mD hs pl pu ?_);have hno:¬((((sIx items.size 0 lo:ah):ai)==0&&(1:ai)==1&&(sIx items.size items.size hi-sIx items.size 0 lo)==items.size)=ag):=by
  intro q;rw[aS,aS] at q;have q1:((sIx items.size 0 lo:ah):ai)=0:=eq_of_beq q.1.1;have q2:sIx items.size items.size hi-sIx items.size 0 lo=items.size:=eq_of_beq q.2;exact hw ⟨by lia,by lia⟩
 show ϑ _ _ (if (((sIx items.size 0 lo:ah):ai)==0&&(1:ai)==1&&(sIx items.size items.size hi-sIx items.size 0 lo)==items.size)=ag then _ else _) _ _ s;rw[aw hno,aBc]
 first
  |exact ao (iL (aE ⟨_,rfl,aE h⟩) htake)
  |exact ao (iL (ao (aE (aE ⟨_,rfl,aE h⟩))) htake)
  |exact ao (ao (iL (aE (aE ⟨_,rfl,aE h⟩)) htake))
  |exact ao (ao (iL (aE ⟨_,rfl,aE h⟩) htake))
end
end HT
namespace L2
open PySem PySem.Spec PyProof.Rows
abbrev TO:=St->Hp->(ar ai->Hp->Prop)->Prop
def PO(X:Cx)(e:ar Expr)(t:TO):Prop:=
 ∀(Ψ:ae (al×bn))(s:au)(σ:St)(H:Hp)(Q:ar ai->Hp->Prop),Inv X Ψ σ H s->t σ H Q->
  ϑ (ay X.prog X.w) X.A (evalPart e X.env) (λu s'=>∃o H',Inv X Ψ σ H' s'/\hZ u o/\Q o H') X.xe s
noncomputable def aFv:TO:=λ_ H Q=>Q aj H
noncomputable def aOd(t:TE):TO:=λσ H Q=>t σ H λx H1=>∃i,x=.int i/\Q (aa i) H1
section
variable {X:Cx} {te:TE} {lo hi:ar Expr} {tl th:TO}
theorem aFw:PO X aj aFv:=by
 intro Ψ s σ H Q I h;rw[Ar];exact aE ⟨aj,H,I,.none,h⟩
theorem aFx(h:PE X e te):PO X (aa e) (aOd te):=by
 intro Ψ s σ H Q I hw;rw[evalPart_some];refine thn (h Ψ s σ H _ I hw) λu s1 ζ=>?_;obtain⟨x,H1,I1,r1,q1⟩:=ζ
 obtain⟨i,rfl,q⟩:=q1;obtain⟨t,rfl⟩:=r1;exact⟨aa i,H1,I1,.int i t,q⟩
def SlR(X:Cx)(r:V->ar ai->ar ai->Hp->VK->Prop):Prop:=
 ∀(Ψ:ae (al×bn))(s:au)(σ:St)(H:Hp)(x:V)(v vl vu:am)(lo hi:ar ai)(sl:al)(Q:VK),Inv X Ψ σ H s->RelV x v->s.heap.IsSliceOf sl vl vu .none->hZ vl lo->hZ vu hi->r x lo hi H Q->
  ∃T id,kN (.type T) "__getitem__"=pure (aa (.builtin id))/\s.TypeIs v T/\ϑ (ay X.prog X.w) X.A (ja v (.ref sl)) (EP X Ψ σ Q) X.xe s
noncomputable def tSl(r:V->ar ai->ar ai->Hp->VK->Prop)(te:TE)(tl th:TO):TE:=λσ H Q=>te σ H λx H1=>tl σ H1 λl H2=>th σ H2 λu H3=>r x l u H3 Q
theorem L_(hr:SlR X r)(he:PE X e te)(hl:PO X lo tl)(hu:PO X hi th):PE X (.Subscript e (.Slice lo hi aj p2) pos) (tSl r te tl th):=by
 intro Ψ s σ H Q I h;refine Subscript_ (thn (he Ψ s σ H _ I h) λv s1 ζ=>?_);obtain⟨x,H1,I1,r1,q1⟩:=ζ;refine wpAny_Slice (thn (hl Ψ s1 σ H1 _ I1 q1) λvl s2 ⟨l,H2,I2,pl,q2⟩=>thn (hu Ψ s2 σ H2 _ I2 q2) λvu s3 ζ=>?_);obtain⟨u,H3,I3,pu,q3⟩:=ζ;rw[Ar];refine aE ?_;have I4:Inv X Ψ σ H3 {s3 with heap:=s3.heap.push {cls:=.type "slice",data:=.fields #[vl,vu,.none]}}:=I3.kept λb ob q=>bP _ q
 obtain⟨T,id,hT,ht,hg⟩:=hr Ψ {s3 with heap:=s3.heap.push {cls:=.type "slice",data:=.fields #[vl,vu,.none]}} σ H3 x v vl vu l u s3.heap.objs.size Q I4 r1 (CL ..) pl pu q3;show ϑ (ay X.prog X.w) X.A (sK e (.Slice lo hi aj p2) v (.ref s3.heap.objs.size)) (EP X Ψ σ Q) X.xe {s3 with heap:=s3.heap.push {cls:=.type "slice",data:=.fields #[vl,vu,.none]}};exact tail_any ht hT hg 0x5
noncomputable def aBd(xs:ae V)(lo hi:ar ai):ae V:=(xs.drop (HT.sIx xs.length 0 lo)).take (HT.sIx xs.length xs.length hi-HT.sIx xs.length 0 lo)
theorem tM(xs:ae V)(lo hi:ar ai):(aBd xs lo hi).length<=xs.length:=by
 unfold aBd;rw[jz,ou];lia
def aRe(K:bi):V->ar ai->ar ai->Hp->VK->Prop:=λx lo hi H Q=>∃a xs,x=.ref a/\SqT K H a xs/\
 ¬(HT.sIx xs.length 0 lo=0/\HT.sIx xs.length xs.length hi=xs.length)/\∀p,H p=aj->Q (.ref p) (upd H p (.tup (aBd xs lo hi)))
theorem aJr:SlR X (aRe X.K):=by
 intro Ψ s σ H x v vl vu lo hi sl Q I rx hs pl pu h;obtain⟨a,xs,rfl,hx,hw,q⟩:=h;cases rx;obtain⟨its,r,ht,hz⟩:=I.tuple hx;have hlen:its.toArray.size=xs.length:=by rw[b6];exact r.length.symm
 refine⟨"tuple",_,ow.lookup,ht.typeIs,?_⟩;refine HT.qN ht hs pl pu (by rw[hlen];exact hw) ?_ (by rw[hlen];exact hz);rw[hlen];refine⟨.ref s.heap.objs.size,_,I.laid (λb ob q=>bP _ q) (bq _) ?_,rfl,q _ (I.hok.fresh (bq _))⟩;exact⟨c_ (tM xs lo hi) hz,_,(r.drop (HT.sIx xs.length 0 lo)).take (HT.sIx xs.length xs.length hi-HT.sIx xs.length 0 lo),j6.new _ _⟩
def aOe(K:bi):R2:=λx y H Q=>∃a b xs ys,x=.ref a/\y=.ref b/\SqT K H a xs/\SqT K H b ys/\xs≠[]/\xs.length+ys.length<=bo/\
 (ys=[]->Q (.ref a) H)/\(ys≠[]->∀p,H p=aj->Q (.ref p) (upd H p (.tup (xs++ys))))
theorem Vals.tO(r:Vals xs us):us=[]↔xs=[]:=by
 cases r with
 |nil=>simp
 |cons _ _=>simp
theorem aFy:OpR X (eB .Add) (aOe X.K):=by
 intro Ψ s σ H x y v u Q I rx ry h;obtain⟨a,b,xs,ys,rfl,rfl,ha,hb,hx,hz,q1,q2⟩:=h;cases rx;cases ry;obtain⟨its,r1,p1,_⟩:=I.tuple ha;obtain⟨its2,r2,p2,_⟩:=I.tuple hb;refine HT.aFu p1 p2 (λz=>hx (r1.tO.mp z)) (λz=>⟨.ref a,H,I,rfl,q1 (r2.tO.mp z)⟩) (λz=>?_) (by rw[<-r1.length,<-r2.length];exact hz);refine⟨.ref s.heap.objs.size,_,I.laid (λb ob q=>bP _ q) (bq _) ?_,rfl,q2 (λw=>z (r2.tO.mpr w)) _ (I.hok.fresh (bq _))⟩;exact⟨by rw[aT];exact hz,_,r1.append r2,j6.new _ _⟩
end
noncomputable def ixN(n:ah)(i:ai):ar ah:=if 0<=i then (if i<n then aa i.toNat else aj) else if -(n:ai)<=i then aa (i+n).toNat else aj
def atI{α:Type}(xs:ae α)(i:ai):ar α:=(ixN xs.length i).bind λj=>xs[j]?
theorem VD(h:ixN n i=aa j):wu i n=aa j/\j<n/\-(n:ai)<=i/\i<n:=by
 unfold ixN at h;by_cases h0:0<=i
 ·rw[aq h0] at h;by_cases h1:i<n
  ·rw[aq h1] at h;have e:i.toNat=j:=ft h;exact⟨by rw[wv h0 h1,e],by lia,by lia,h1⟩
  ·rw[aw h1] at h;cases h
 ·rw[aw h0] at h;by_cases h1:-(n:ai)<=i
  ·rw[aq h1] at h;have e:(i+n).toNat=j:=ft h;exact⟨by rw[wx 0x1 h1,e],by lia,h1,by lia⟩
  ·rw[aw h1] at h;cases h
theorem HX(h:atI xs i=aa v):∃j,wu i xs.length=aa j/\xs[j]?=aa v/\j<xs.length/\-(xs.length:ai)<=i/\i<xs.length:=by
 unfold atI at h;cases e:ixN xs.length i with
 |none=>rw[e] at h;cases h
 |some j=>
  rw[e] at h;obtain⟨h1,h2,h3,h4⟩:=VD e;exact⟨j,h1,h,h2,h3,h4⟩
theorem aFz{j:ah}(h:xs[j]?=aa v):atI xs (j:ai)=aa v:=by
 have hj:j<xs.length:=(dE.mp h).1;have e:ixN xs.length (j:ai)=aa j:=by
  unfold ixN;rw[aq 0x1,aq 0x1];simp
 unfold atI;rw[e];exact h
theorem MF(xs:ae α)(v:α):atI (xs++[v]) (-1)=aa v:=by
 have hl:(xs++[v]).length=xs.length+1:=by simp
 have e:ixN (xs++[v]).length (-1)=aa xs.length:=by
  unfold ixN;rw[hl,aw 0x4,aq 0x1]
  congr 1
  lia
 unfold atI;rw[e];show(xs++[v])[xs.length]?=aa v;simp
def wU(b:Expr):Prop:=∀o i,sL b ak o i=wy [o,i] (ja o i)
def IxR(X:Cx)(r:R2):Prop:=
 ∀(value slice:Expr)(Ψ:ae (al×bn))(s:au)(σ:St)(H:Hp)(x y:V)(v u:am)(Q:VK),Inv X Ψ σ H s->RelV x v->RelV y u->r x y H Q->
  sL slice ak v u=wy [v,u] (ja v u)->ϑ (ay X.prog X.w) X.A (sK value slice v u) (EP X Ψ σ Q) X.xe s
def MtR(X:Cx)(id:gf)(r:V->ae V->Hp->VK->Prop):Prop:=
 ∀(Ψ:ae (al×bn))(s:au)(σ:St)(H:Hp)(x:V)(xs:ae V)(v:am)(us:ae am)(Q:VK),Inv X Ψ σ H s->RelV x v->Vals xs us->r x xs H Q->
  ϑ (ay X.prog X.w) X.A (call (.builtin id) (v::us)) (EP X Ψ σ Q) X.xe s
section
variable {X:Cx} {a b:Expr} {ta tb:TE} {pos:dq}
theorem VF(hr:IxR X r)(ha:PE X a ta)(hb:PE X b tb)(hs:wU b):PE X (.Subscript a b pos) (tOp r ta tb):=by
 intro Ψ s σ H Q I h;exact Subscript_ (aO8 ha hb I h λv u s2 x y H2 I2 rx ry q=>hr a b Ψ s2 σ H2 x y v u Q I2 rx ry q (hs _ _))
def aNl(K:bi):R2:=λx y H Q=>∃p xs i v,x=.ref p/\y=.int i/\SqL K H p xs/\atI xs i=aa v/\Q v H
def aRf(K:bi):R2:=λx y H Q=>∃p xs i v,x=.ref p/\y=.int i/\SqT K H p xs/\atI xs i=aa v/\Q v H
def aRg:R2:=λx y H Q=>∃z i c,x=.str z/\y=.int i/\z.length<=bo/\atI z.cps.toList i=aa c/\Q (.str ⟨#[c]⟩) H
theorem qO:IxR X (aNl X.K):=by
 intro value slice Ψ s σ H x y v u Q I rx ry h hs;obtain⟨p,xs,i,z,rfl,rfl,hq,he,q⟩:=h;cases rx;obtain⟨t,rfl⟩:=ry;obtain⟨its,r,pl,hz⟩:=I.list hq;obtain⟨j,h1,h2,h3,h4,h5⟩:=HX he;obtain⟨w,ew,rw'⟩:=r.get h2;have hl:=r.length;have hn:=sZ;have fin:EP X Ψ σ Q w s:=⟨z,H,I,rw',q⟩
 by_cases h0:0<=i
 ·have hj:i.toNat=j:=by
   rw[wv h0 h5] at h1;exact ft h1
  exact item_listR pl.isList h0 0x1 (by rw[hj];simpa using ew) fin hs
 ·have hj:(i+(its.toArray.size:ai)).toNat=j:=by
   rw[wx 0x1 h4] at h1;rw[b6,<-hl];exact ft h1
  exact As pl.isList.typeIs Au.lookup
   (wpAny_getItem_list_neg pl.isList 0x1 (by rw[b6]<;>lia) 0x1 (by rw[hj];simpa using ew) ⟨rfl,fin⟩) hs
theorem aJs:IxR X (aRf X.K):=by
 intro value slice Ψ s σ H x y v u Q I rx ry h hs;obtain⟨p,xs,i,z,rfl,rfl,hq,he,q⟩:=h;cases rx;obtain⟨t,rfl⟩:=ry;obtain⟨its,r,pl,hz⟩:=I.tuple hq;obtain⟨j,h1,h2,h3,h4,h5⟩:=HX he;obtain⟨w,ew,rw'⟩:=r.get h2;have hl:=r.length;have hn:=sZ;have fin:EP X Ψ σ Q w s:=⟨z,H,I,rw',q⟩
 exact As pl.typeIs slot_tuple_getitem.lookup
  (getItem_tuple pl 0x1 0x1 (by rw[b6,<-hl];exact h1) (by simpa using ew) ⟨rfl,fin⟩) hs
theorem aJt:IxR X aRg:=by
 intro value slice Ψ s σ H x y v u Q I rx ry h hs;obtain⟨z,i,c,rfl,rfl,hz,he,q⟩:=h;obtain⟨t,rfl⟩:=rx;obtain⟨t',rfl⟩:=ry;obtain⟨j,h1,h2,h3,h4,h5⟩:=HX he;have hl:z.cps.toList.length=z.length:=by simp[Str.length]
 rw[hl] at h1 h4 h5;have hn:=sZ;exact tail_any (wz s z t) slot_str_getitem.lookup (getItem_str (by
  have e1:ϒ (i < -(2 ^ 63:ai))=ak:=cx 0x1;have e2:ϒ (i >= 2 ^ 63)=ak:=cx 0x1;rw[e1,e2,sM]) (by rw[h1];simpa using h2) ⟨.str ⟨#[c]⟩,H,I.tok _,⟨_,rfl⟩,q⟩) hs
theorem RV(its:ae am)(n j:ah)(u:am):eI (·.setIfInBounds j u) {cls:=.type "list",data:=.seq its.toArray n}={cls:=.type "list",data:=.seq (its.set j u).toArray n}:=by
 simp[eI]
theorem Inv.lst{Ψ:ae (al×bn)}{σ:St}{H:Hp}{s:au}{p:al}{xs:ae V}(I:Inv X Ψ σ H s)(h:H p=aa (.lst xs)) :
  ∃(its:ae am)(n:ah),Vals xs its/\s.heap.get? p=aa {cls:=.type "list",data:=.seq its.toArray n}/\xs.length<=bo:=by
 obtain⟨z,its,n,r,e⟩:=I.hok p _ h;exact⟨its,n,r,e,z⟩
theorem Inv.aJu{its its':ae am}{n n':ah}{f:bn->bn}(I:Inv X Ψ σ H s)(h:H p=aa (.lst xs))
 (ho:s.heap.get? p=aa {cls:=.type "list",data:=.seq its.toArray n})(hf:f {cls:=.type "list",data:=.seq its.toArray n}={cls:=.type "list",data:=.seq its'.toArray n'})(r:Vals ys its')(hz:ys.length<=bo)(t:ah) :
  Inv X Ψ σ (upd H p (.lst ys)) {s with heap:=s.heap.update p f,toks:=t}:=by
 have e:(s.heap.update p f).get? p=aa {cls:=.type "list",data:=.seq its'.toArray n'}:=by
  rw[ib f ho (by rw[hf]<;>rfl),hf]
 refine I.write (by rw[h];trivial) (.inl rfl) (λb u hb q=>(j3 _ _ (Ne.symm hb)).trans q) ⟨_,e⟩ ?_;exact⟨hz,its',n',r,e⟩
def aOf:V->V->V->Hp->(Hp->Prop)->Prop:=λo i v H Q=>∃p xs k j,o=.ref p/\i=.int k/\H p=aa (.lst xs)/\ixN xs.length k=aa j/\Q (upd H p (.lst (xs.set j v)))
theorem set_list:aRb X aOf:=by
 intro Ψ s σ H o i v ov iv u Q I ro ri rv h;obtain⟨p,xs,k,j,rfl,rfl,hp,hj,q⟩:=h;cases ro;obtain⟨t,rfl⟩:=ri;obtain⟨its,n,r,ho,hz⟩:=I.lst hp;obtain⟨h1,h2,h3,h4⟩:=VD hj;have hl:=r.length;have hn:=sZ;have I':Inv X Ψ σ (upd H p (.lst (xs.set j v))) {s with heap:=s.heap.update p (eI (·.setIfInBounds j u))}:=
  I.aJu hp ho (RV its n j u) (r.set rv j) (by rw[w_];exact hz) s.toks
 by_cases h0:0<=k
 ·have hk:k.toNat=j:=by
   rw[wv h0 h4] at h1;exact ft h1
  exact PySem.W.ki_setAt ho h0 0x1 (by rw[b6,<-hl];exact h4) (by rw[hk];exact⟨_,I',q⟩)
 ·have hk:(k+(its.toArray.size:ai)).toNat=j:=by
   rw[wx 0x1 h3] at h1;rw[b6,<-hl];exact ft h1
  exact PySem.W.ki_setBack ho 0x1 (by rw[b6,<-hl];exact h3) 0x1 (by rw[hk];exact⟨_,I',q⟩)
theorem zX(lo hi:ar ai)(n:ah):(kP lo hi aj n).1=((HT.sIx n 0 lo:ah):ai)/\(kP lo hi aj n).2.1=((HT.sIx n n hi:ah):ai)/\(kP lo hi aj n).2.2=1:=by
 refine⟨?_,?_,rfl⟩
 ·cases lo with
  |none=>simp[kP,HT.sIx]
  |some i=>
   simp only[kP,HT.sIx,Av,show(1:ai) > 0 by decide,ff];by_cases h:i<0
   ·simp only[h,ff]<;>lia
   ·simp only[h,fE]<;>lia
 ·cases hi with
  |none=>simp[kP,HT.sIx]
  |some i=>
   simp only[kP,HT.sIx,Av,show(1:ai) > 0 by decide,ff];by_cases h:i<0
   ·simp only[h,ff]<;>lia
   ·simp only[h,fE]<;>lia
theorem wV(its:ae am)(lo hi:ar ai):slicePick its.toArray lo hi aj=((its.drop (HT.sIx its.length 0 lo)).take (HT.sIx its.length its.length hi-HT.sIx its.length 0 lo)).toArray:=by
 obtain⟨h1,h2,h3⟩:=zX lo hi its.toArray.size;unfold slicePick;rw[h1,h2,h3];simp only[sliceRange_one,pick_run,b6]<;>rfl
def aRh(K:bi):V->ar ai->ar ai->Hp->VK->Prop:=λx lo hi H Q=>∃a xs,x=.ref a/\SqL K H a xs/\∀p,H p=aj->Q (.ref p) (upd H p (.lst (aBd xs lo hi)))
theorem VG:SlR X (aRh X.K):=by
 intro Ψ s σ H x v vl vu lo hi sl Q I rx hs pl pu h;obtain⟨a,xs,rfl,hx,q⟩:=h;cases rx;obtain⟨its,r,ht,hz⟩:=I.list hx;have hlen:=r.length;refine⟨"list",_,Au.lookup,ht.isList.typeIs,?_⟩;refine wpAny_getItem_list_slice ht.isList hs pl pu .none 0x2 ?_ (by rw[b6]<;>lia);rw[wV,<-hlen];refine⟨.ref s.heap.objs.size,_,I.laid (λb ob q=>bP _ q) (bq _) ?_,rfl,q _ (I.hok.fresh (bq _))⟩;exact⟨c_ (tM xs lo hi) hz,_,0,(r.drop (HT.sIx xs.length 0 lo)).take (HT.sIx xs.length xs.length hi-HT.sIx xs.length 0 lo),c6 _ rfl⟩
theorem jG:nM X (.builtin "len") (λxs H Q=>∃p ys,xs=[.ref p]/\(SqL X.K H p ys\/SqT X.K H p ys)/\Q (.int ys.length) H):=by
 intro Ψ s σ H xs us Q I r h;obtain⟨p,ys,rfl,hq,q⟩:=h;obtain⟨u,rfl,rx⟩:=vals1 r;cases rx;have hn:=sZ;rcases hq with hq|hq
 ·obtain⟨its,r',pl,hz⟩:=I.list hq;have hlen:=r'.length;exact Calls.call_len_list pl.isList (by simp only[b6]<;>lia) ⟨.int ys.length,H,I.tok _,⟨s.toks+1,by rw[b6,hlen]⟩,q⟩
 ·obtain⟨its,r',pl,hz⟩:=I.tuple hq;have hlen:=r'.length;exact len_tuple pl (by simp only[b6]<;>lia) ⟨.int ys.length,H,I.tok _,⟨s.toks+1,by rw[b6,hlen]⟩,q⟩
theorem zY:nM X (.builtin "len") (λxs H Q=>∃z,xs=[.str z]/\z.length<=bo/\Q (.int z.length) H):=by
 intro Ψ s σ H xs us Q I r h;obtain⟨z,rfl,hz,q⟩:=h;obtain⟨u,rfl,t,rfl⟩:=vals1 r;have hn:=sZ;exact len_str 0x1 ⟨.int z.length,H,I.tok _,⟨_,rfl⟩,q⟩
theorem rO:nM X (.type "list") (λxs H Q=>∃p ys,xs=[.ref p]/\(SqL X.K H p ys\/SqT X.K H p ys)/\∀l,H l=aj->Q (.ref l) (upd H l (.lst ys))):=by
 intro Ψ s σ H xs us Q I r h;obtain⟨p,ys,rfl,hq,q⟩:=h;obtain⟨u,rfl,rx⟩:=vals1 r;cases rx;have fin:∀(its:ae am),Vals ys its->ys.length<=bo->∀(h':bc)(c':ah),(∀b o',s.heap.get? b=aa o'->h'.get? b=aa o')->
   h'.get? s.heap.objs.size=aa {cls:=.type "list",dict:=aj,data:=.seq its.toArray c',slots:=#[]}->EP X Ψ σ Q (.ref s.heap.objs.size) {s with heap:=h'}:=λits r' hz h' c' kp e=>
  ⟨.ref s.heap.objs.size,_,I.laid kp (bq _) (show gC X.prog X.w _ h' _ (.lst ys) from ⟨hz,its,c',r',e⟩),rfl,q _ (I.hok.fresh (bq _))⟩
 rcases hq with hq|hq
 ·obtain⟨its,r',pl,hz⟩:=I.list hq;have hlen:=r'.length;obtain⟨o,ho,hc,n,hd⟩:=pl.isList;exact Aw p (.inl rfl) ho hc hd (λh' c' kp e=>fin its r' hz h' c' kp e) (by simp only[b6]<;>lia)
 ·obtain⟨its,r',pl,hz⟩:=I.tuple hq;have hlen:=r'.length;obtain⟨o,ho,hc,n,hd⟩:=pl;exact Aw p (.inr rfl) ho hc hd (λh' c' kp e=>fin its r' hz h' c' kp e) (by simp only[b6]<;>lia)
theorem o8:nM X (.type "tuple") (λxs H Q=>∃p ys,xs=[.ref p]/\((SqL X.K H p ys/\∀l,H l=aj->Q (.ref l) (upd H l (.tup ys)))\/(SqT X.K H p ys/\Q (.ref p) H))):=by
 intro Ψ s σ H xs us Q I r h;obtain⟨p,ys,rfl,h⟩:=h;obtain⟨u,rfl,rx⟩:=vals1 r;cases rx;rcases h with ⟨hq,q⟩|⟨hq,q⟩
 ·obtain⟨its,r',pl,hz⟩:=I.list hq;have hlen:=r'.length;refine call_tuple_list pl.isList (λh' kp=>?_) (by simp only[b6]<;>lia);have I1:Inv X Ψ σ H {s with heap:=h'}:=I.kept kp;have I2:Inv X Ψ σ (upd H h'.objs.size (.tup ys)) {s with heap:=h'.push {cls:=.type "tuple",data:=.seq its.toArray}}:=
   I1.laid (λb o e=>bP _ e) (bq _) (show gC X.prog X.w _ _ _ (.tup ys) from ⟨hz,its,r',j6.new _ _⟩)
  exact⟨.ref h'.objs.size,_,I2,rfl,q _ (I1.hok.fresh (bq _))⟩
 ·obtain⟨its,r',pl,hz⟩:=I.tuple hq;exact call_tuple_same pl ⟨.ref p,H,I,rfl,q⟩
def tyV(K:bi)(T:gf)(x:V)(H:Hp):Prop:=match x with
 |.str _=>T="str"
 |.int _=>T="int"
 |.ref p=>(T="list"/\∃xs,SqL K H p xs)\/(T="tuple"/\((∃o,K.lookup p=aa o/\o.cls=.type "tuple"/\o.dict=aj)\/∃xs,H p=aa (.tup xs)))\/
   (T="dict"/\((∃kvs,H p=aa (.dK kvs))\/∃kvs,H p=aa (.dT kvs)))\/(T="set"/\∃S n,H p=aa (.set S n))
 |_=>cg
theorem aE4(I:Inv X Ψ σ H s)(r:RelV x v)(ty:tyV X.K T x H) :
  s.TypeIs v T/\∀a,v=.ref a->∃ob,s.heap.get? a=aa ob/\ob.dict=aj:=by
 cases x with
 |str z=>
  obtain⟨t,rfl⟩:=r;cases (show T="str" from ty);exact⟨wz s z t,λ_ e=>nomatch e⟩
 |int i=>
  obtain⟨t,rfl⟩:=r;cases (show T="int" from ty);exact⟨typeIs_int s i t,λ_ e=>nomatch e⟩
 |ref p=>
  cases r;rcases ty with ⟨rfl,xs,hq⟩|⟨rfl,⟨o,hk,hc,hd⟩|⟨xs,hk⟩⟩|⟨rfl,hk⟩|⟨rfl,S,n,hk⟩
  ·obtain⟨its,_,pl,_⟩:=I.list hq;refine⟨pl.isList.typeIs,λa e=>?_⟩;cases e;obtain⟨o,n,e,c,hd,_⟩:=pl;exact⟨o,e,hd⟩
  ·refine⟨⟨o,I.kIn p o hk,hc⟩,λa e=>?_⟩;cases e;exact⟨o,I.kIn _ o hk,hd⟩
  ·obtain⟨_,its,_,pl⟩:=I.hok p _ hk;refine⟨(j6.tup pl).typeIs,λa e=>?_⟩;cases e;exact j6.bare pl
  ·have z:∃o,s.heap.get? p=aa o/\o.ExactDict:=by
    rcases hk with ⟨kvs,hk⟩|⟨kvs,hk⟩
    ·obtain⟨_,_,_,_,o,_,_,e,ex,_⟩:=I.hok p _ hk;exact⟨o,e,ex⟩
    ·obtain⟨_,_,_,_,o,_,_,e,ex,_⟩:=I.hok p _ hk;exact⟨o,e,ex⟩
   obtain⟨o,e,ex⟩:=z;refine⟨⟨o,e,ex.1⟩,λa e2=>?_⟩;cases e2;exact⟨o,e,ex.2.1⟩
  ·obtain⟨o,_,_,_,e,ex,_⟩:=I.hok p _ hk;refine⟨⟨o,e,ex.1⟩,λa e2=>?_⟩;cases e2;exact⟨o,e,ex.2.1⟩
 |_=>exact dQ ty
noncomputable def aQh(K:bi)(T:gf)(r:V->ae V->Hp->VK->Prop)(to:TE):TE:=λσ H Q=>to σ H λx H1=>tyV K T x H1/\r x [] H1 Q
noncomputable def tBM(K:bi)(T:gf)(r:V->ae V->Hp->VK->Prop)(to:TE)(t:TA):TE:=λσ H Q=>to σ H λx H1=>tyV K T x H1/\t σ H1 λxs H2=>r x xs H2 Q
variable {o e:Expr} {es:ae Expr} {to:TE} {t:TA} {name:Str} {apos cpos:dq} {T id:gf} {r:V->ae V->Hp->VK->Prop}
theorem MJ(pa:xf T)(slot:kQ T name id)(hty:ox (.builtin id)=pure (.type "method_descriptor"))(hm:MtR X id r)(ho:PE X o to)
 (hbase:autoParam (gm o name X.env (eval o X.env)=eval o X.env) Ω)(hline:autoParam ((apos.endLine==cpos.line)=ag) Ω):PE X (.Call (.Attribute o name apos) [] [] cpos) (aQh X.K T r to):=by
 intro Ψ s σ H Q I h;refine wpAny_Call_method0_late hbase hline (thn (ho Ψ s σ H _ I h) λv s1 ζ=>?_);obtain⟨x,H1,I1,r1,ty,q1⟩:=ζ;obtain⟨h1,h2⟩:=aE4 I1 r1 ty;exact⟨T,id,pa,slot,hty,h1,h2,Ax rfl (PySem.evalArgs_none (hm Ψ s1 σ H1 x [] v [] Q I1 r1 .nil q1))⟩
theorem zZ(pa:xf T)(slot:kQ T name id)(hty:ox (.builtin id)=pure (.type "method_descriptor"))(hm:MtR X id r)(ho:PE X o to)(ha:PA X (e::es) t)
 (hbase:autoParam (gm o name X.env (eval o X.env)=eval o X.env) Ω)
 (hfew:autoParam (zFw X cpos (e::es)) Ω)
 (hline:autoParam ((apos.endLine==cpos.line)=ag) Ω)(hs:autoParam (zSE X e es) Ω)(hplain:autoParam (zSP X cpos es) Ω) :
  PE X (.Call (.Attribute o name apos) (e::es) [] cpos) (tBM X.K T r to t):=by
 intro Ψ s σ H Q I h;refine wpAny_Call_method_late hbase hfew hline rfl (thn (ho Ψ s σ H _ I h) λv s1 ζ=>?_);obtain⟨x,H1,I1,r1,ty,q1⟩:=ζ;obtain⟨h1,h2⟩:=aE4 I1 r1 ty;refine⟨T,id,pa,slot,hty,h1,h2,?_⟩;have hA:=ha cpos Ψ s1 σ H1 _ I1 q1;rw[hs] at hA ⊢;refine Ax (by show(ak||(ip cpos (cr es X.env)).any (·.1))=ak;rw[hplain]<;>rfl) (Ay ?_);exact thn hA λus s2 ⟨vs,H2,I2,r2,q2⟩=>hm Ψ s2 σ H2 x vs v us Q I2 r1 r2 q2
end
def MtM(X:Cx)(id:gf)(r:V->ae V->Hp->VK->Prop):Prop:=
 ∀(Ψ:ae (al×bn))(s:au)(σ:St)(H:Hp)(x:V)(xs:ae V)(v:am)(us:ae am)(Q:VK),Inv X Ψ σ H s->RelV x v->Vals xs us->r x xs H Q->
  ϑ (ay X.prog X.w) X.A (call (.builtin id) (v::us)) (EP X Ψ σ Q) X.xe s
theorem Vals.one:∀{x:V}{us:ae am},Vals [x] us->∃u,us=[u]/\RelV x u:=by
 intro x us h;rcases h with _|⟨r,h⟩;cases h;exact⟨_,rfl,r⟩
theorem Vals.zero:∀{us:ae am},Vals [] us->us=[]
 |_,.nil=>rfl
theorem Vals.dropLast(h:Vals xs us):Vals xs.dropLast us.dropLast:=by
 induction h with
 |nil=>exact .nil
 |cons r t ih=>
  cases t with
  |nil=>exact .nil
  |cons q t'=>exact .cons r ih
theorem RW(l:ae α):l.eraseIdx (l.length-1)=l.dropLast:=by
 induction l with
 |nil=>rfl
 |cons a r ih=>
  cases r with
  |nil=>rfl
  |cons b r=>
   have e:(a::b::r).length-1=((b::r).length-1)+1:=by
    have h1:(a::b::r).length=r.length+2:=rfl;have h2:(b::r).length=r.length+1:=rfl;lia
   rw[e,List.eraseIdx_cons_succ,ih]
   all_goals rfl
section
theorem Inv.aOg{its its':ae am}(I:Inv X Ψ σ H s)(hH:H l=aa (.lst xs))
 (e:s.heap.get? l=aa {cls:=.type "list",data:=.seq its.toArray n})(hf:f its.toArray=its'.toArray)(hv:Vals ys its')(hz:ys.length<=bo) :
  Inv X Ψ σ (upd H l (.lst ys)) {s with heap:=s.heap.update l (eI f),toks:=t'}:=by
 have q:=CM e f;rw[hf] at q;refine I.write (by rw[hH];exact trivial) (.inl rfl) (λb' u hb hu=>(j3 s.heap (eI f) (Ne.symm hb)).trans hu) ⟨_,q⟩ ?_;exact⟨hz,its',_,hv,q⟩
theorem Inv.aRi(I:Inv X Ψ σ H s)(hv:Vals ys its)(hz:ys.length<=bo) :
  Inv X Ψ σ (upd H s.heap.objs.size (.lst ys)) {s with heap:=s.heap.push {cls:=.type "list",data:=.seq its.toArray},toks:=t'}:=
 I.laid (λ_ _ q=>bP _ q) (bq _) ⟨hz,its,0,hv,c6 _ rfl⟩
theorem Inv.fresh(I:Inv X Ψ σ H s):H s.heap.objs.size=aj:=I.hok.fresh (bq _)
theorem Inv.aNm(I:Inv X Ψ σ H s)(hH:H l=aa (.lst xs)):xs.length<=bo/\∃(its:ae am)(n:ah),Vals xs its/\xs.length=its.length/\s.heap.get? l=aa {cls:=.type "list",data:=.seq its.toArray n}:=by
 obtain⟨z,its,n,r,e⟩:=I.hok l _ hH;exact⟨z,its,n,r,r.length,e⟩
theorem aBe(h:n<=bo):sN n=ak:=by
 unfold sN;exact cx 0x1
end
section
variable {X:Cx}
def wW:V->ae V->Hp->VK->Prop:=λx vs H Q=>∃l xs y,x=.ref l/\vs=[y]/\H l=aa (.lst xs)/\xs.length<bo/\Q .non (upd H l (.lst (xs++[y])))
theorem j7:MtM X "list.append" wW:=by
 intro Ψ s σ H x vs v us Q I rx rv h;obtain⟨l,xs,y,rfl,rfl,hH,hz,q⟩:=h;cases rx;obtain⟨u,rfl,ru⟩:=rv.one;obtain⟨z,its,n,r,hl,e⟩:=I.aNm hH;refine ka mf ⟨_,e,rfl⟩ F.entry_list_append (F.args_list_append_2 _ _) (PySem.list_append l its.toArray n u (by rw[b6];lia)) ⟨e,?_⟩;refine⟨.non,_,I.aOg hH e 0x2 (r.append (.cons ru .nil)) ?_,rfl,q⟩;rw[aT,dP];lia
def aG0:V->ae V->Hp->VK->Prop:=λx vs H Q=>∃l b xs zs,x=.ref l/\vs=[.ref b]/\H l=aa (.lst xs)/\H b=aa (.lst zs)/\xs.length+zs.length<=bo/\Q .non (upd H l (.lst (xs++zs)))
theorem z6:MtM X "list.extend" aG0:=by
 intro Ψ s σ H x vs v us Q I rx rv h;obtain⟨l,b,xs,zs,rfl,rfl,hH,hB,hz,q⟩:=h;cases rx;obtain⟨u,rfl,ru⟩:=rv.one;cases ru;obtain⟨z,its,n,r,hl,e⟩:=I.aNm hH;obtain⟨z2,its2,n2,r2,hl2,e2⟩:=I.aNm hB;have hsz:its.toArray.size+its2.toArray.size<=bo:=by rw[b6,b6];lia
 have hlong:¬(!its.toArray.isEmpty&&sN (its.toArray.size+its2.toArray.size))=ag:=by
  rw[aBe hsz,xg];exact iw
 refine ka xh ⟨_,e,rfl⟩ F.entry_list_extend (F.args_list_extend_2 _ _)
  (CO l its.toArray n b its2.toArray n2 hlong (by rw[b6];lia) 0x1) ⟨e,e2,?_⟩
 refine⟨.non,_,I.aOg hH e 0x2 (r.append r2) ?_,rfl,q⟩;rw[aT];lia
def aQi:V->ae V->Hp->VK->Prop:=λx vs H Q=>∃l xs y,x=.ref l/\vs=[]/\H l=aa (.lst xs)/\xs[xs.length-1]?=aa y/\Q y (upd H l (.lst xs.dropLast))
theorem VH:MtM X "list.pop" aQi:=by
 intro Ψ s σ H x vs v us Q I rx rv h;obtain⟨l,xs,y,rfl,rfl,hH,hy,q⟩:=h;cases rx;have hus:=rv.zero;subst hus;obtain⟨z,its,n,r,hl,e⟩:=I.aNm hH;obtain⟨u,hu,ru⟩:=r.get hy;have hy':its.toArray[its.toArray.size-1]?=aa u:=by
  show its.toArray[its.length-1]?=aa u;rw[<-xi,<-hl];exact hu
 refine ka sQ ⟨_,e,rfl⟩ F.entry_list_pop (F.args_list_pop_1 _) (CU l its.toArray n u hy' (by rw[b6];lia)) ⟨e,?_⟩;refine⟨y,_,I.aOg hH e ?_ r.dropLast ?_,ru,q⟩
 ·show its.toArray.eraseIdxIfInBounds (its.toArray.size-1)=its.dropLast.toArray;rw[b6,List.eraseIdxIfInBounds_toArray,RW]
 ·rw[List.length_dropLast];lia
end
section
variable {κ:Type} [dw κ]
noncomputable def vL(kvs:ae (κ×V))(k:κ):ar V:=(kvs.find? λkv=>ϒ (kv.1=k)).map (·.2)
noncomputable def putK(kvs:ae (κ×V))(k:κ)(v:V):ae (κ×V):=
 if (kvs.any λkv=>ϒ (kv.1=k))=ag then kvs.map (λkv=>if kv.1=k then (kv.1,v) else kv) else kvs++[(k,v)]
theorem o9{k:κ}(e:p.1=k):vL (p::r) k=aa p.2:=by simp[vL,kb,e]
theorem o_{k:κ}(e:¬p.1=k):vL (p::r) k=vL r k:=by simp[vL,kb,e]
theorem p_(k:κ):∀kvs:ae (κ×V),(kvs.any λkv=>ϒ (kv.1=k))=(vL kvs k).isSome
 |[]=>rfl
 |p::r=>by
  rw[ke];by_cases e:p.1=k
  ·simp only[o9 e,bt e,sR,Option.isSome_some]
  ·rw[o_ e,cx e,s_];exact p_ k r
theorem lK(kvs:ae (κ×V))(k:κ)(v:V):(putK kvs k v).length<=kvs.length+1:=by
 unfold putK;split
 ·rw[az];lia
 ·rw[aT,bp,ef];lia
theorem aBf{k:κ}(v:V)(h:vL kvs k=aj):putK kvs k v=kvs++[(k,v)]:=by
 unfold putK;rw[p_,h];exact aw 0x4
theorem G8.tQ(r:G8 o u):o.isSome=u.isSome:=by
 cases o with
 |none=>cases u with
  |none=>rfl
  |some _=>exact(show cg from r).elim
 |some _=>cases u with
  |none=>exact(show cg from r).elim
  |some _=>rfl
theorem KV.val(r:KV kvs vs)(k:κ):G8 (vL kvs k) (mh vs k):=by
 unfold KV at r;induction r with
 |nil=>exact True.intro
 |@cons p q ps qs h t ih=>
  obtain⟨h1,h2⟩:=h;by_cases e:p.1=k
  ·have e':q.1=k:=h1.symm.trans e;have b:mh (q::qs) k=aa q.2:=by simp[mh,kb,e']
   rw[o9 e,b];exact h2
  ·have e':¬q.1=k:=λz=>e (h1.trans z)
   have b:mh (q::qs) k=mh qs k:=by simp[mh,kb,e']
   rw[o_ e,b];exact ih
theorem KV.any(r:KV kvs vs)(k:κ):(kvs.any λkv=>ϒ (kv.1=k))=vs.any λkv=>ϒ (kv.1=k):=by
 unfold KV at r;induction r with
 |nil=>rfl
 |cons h t ih=>rw[ke,ke,ih,h.1]
theorem KV.repl(r:KV kvs vs)(k:κ)(ry:RelV y u) :
  KV (kvs.map λkv=>if kv.1=k then (kv.1,y) else kv) (vs.map λkv=>if kv.1=k then (kv.1,u) else kv):=by
 unfold KV at r ⊢;induction r with
 |nil=>exact .nil
 |@cons p q ps qs h t ih=>
  rw[aI,aI];refine .cons ?_ ih;obtain⟨h1,h2⟩:=h;by_cases e:p.1=k
  ·rw[aq e,aq (h1.symm.trans e)];exact⟨h1,ry⟩
  ·rw[aw e,aw (λz=>e (h1.trans z))];exact⟨h1,h2⟩
theorem KV.put(r:KV kvs vs)(k:κ)(ry:RelV y u):KV (putK kvs k y) (jc vs k u):=by
 unfold putK jc;rw[r.any k];by_cases e:(vs.any λkv=>ϒ (kv.1=k))=ag
 ·rw[aq e,aq e];exact r.repl k ry
 ·rw[aw e,aw e];exact Az r ⟨rfl,ry⟩
theorem KV.length(r:KV kvs vs):kvs.length=vs.length:=jq r
end
theorem z7(r:RelV (kV k) u):(cH P w).is k u=ag:=by
 cases k with
 |inl i=>obtain⟨t,e⟩:=(show ∃t,u=nN i t from r);subst e;exact HF P w i t
 |inr x=>obtain⟨t,e⟩:=(show ∃t,u=nV x t from r);subst e;exact HH P w x t
theorem z8:∀{ks:ae Key}{us:ae am},Vals (ks.map kV) us->ItemsAre (cH P w) ks us
 |[],_,r=>by rw[iN] at r;cases r;exact .nil
 |k::ks,_,r=>by
  rw[aI] at r;cases r with
  |cons h t=>exact .cons (z7 h) (z8 t)
abbrev KT(H:Hp):ae (ae Key×V)->ae (ae Key×al×am)->Prop:=ly λp q=>p.1=q.1/\H q.2.1=aa (.tup (p.1.map kV))/\RelV p.2 q.2.2
theorem KT.val(r:KT H kvs xs)(k:ae Key):G8 (vL kvs k) ((kf xs k).map (·.2)):=by
 induction r with
 |nil=>exact True.intro
 |@cons p q ps qs h t ih=>
  obtain⟨h1,_,h2⟩:=h;by_cases e:p.1=k
  ·have e':q.1=k:=h1.symm.trans e;have b:kf (q::qs) k=aa q.2:=by simp[kf,kb,e']
   rw[o9 e,b];exact h2
  ·have e':¬q.1=k:=λz=>e (h1.trans z)
   have b:kf (q::qs) k=kf qs k:=by simp[kf,kb,e']
   rw[o_ e,b];exact ih
theorem KT.repl(r:KT H kvs xs)(k:ae Key)(ry:RelV y u) :
  KT H (kvs.map λkv=>if kv.1=k then (kv.1,y) else kv) (xs.map (putAt k u)):=by
 induction r with
 |nil=>exact .nil
 |@cons p q ps qs h t ih=>
  rw[aI,aI];refine .cons ?_ ih;obtain⟨h1,h2,h3⟩:=h;unfold putAt;by_cases e:p.1=k
  ·rw[aq e,aq (h1.symm.trans e)];exact⟨h1,h2,ry⟩
  ·rw[aw e,aw (λz=>e (h1.trans z))];exact⟨h1,h2,h3⟩
theorem KT.put(r:KT H kvs xs)(k:ae Key)(hb:H b=aa (.tup (k.map kV)))(ry:RelV y u) :
  KT H (putK kvs k y) (kT xs k b u):=by
 have e:(kvs.any λkv=>ϒ (kv.1=k))=(kf xs k).isSome:=by
  rw[p_,(r.val k).tQ,AA]
 unfold putK kT;rw[e];by_cases q:(kf xs k).isSome=ag
 ·rw[aq q,aq q];exact r.repl k ry
 ·rw[aw q,aw q];exact Az r ⟨rfl,hb,ry⟩
theorem KT.keeps(r:KT H kvs xs)(ht:∀b ys,H b=aa (.tup ys)->H' b=aa (.tup ys)):KT H' kvs xs:=
 Paired.aO0 r λ_ _ z=>⟨z.1,ht _ _ z.2.1,z.2.2⟩
section
variable {a:al}
theorem aG1(ok:HOk P w H h)(e:Rd H a u):gC P w H h a u:=e.ok ok
theorem aBg(ok:HOk P w H h)(e:Rd H a (.dK kvs)):kvs.length<=bo/\(a==gx)=ak/\∃vs,KV kvs vs/\h.DictOf (cH P w) a vs:=
 show gC P w H h a (.dK kvs) from aG1 ok e
theorem RX(ok:HOk P w H h)(e:H a=aa (.dK kvs)):kvs.length<=bo/\(a==gx)=ak/\∃vs,KV kvs vs/\h.DictOf (cH P w) a vs:=aBg ok (.inl e)
theorem z9(ok:HOk P w H h)(e:H a=aa (.tup (ks.map kV))):(gj (cH P w)).is h ks a:=by
 obtain⟨_,its,r,o,h1,h2,n,h3⟩:=(show gC P w H h a (.tup (ks.map kV)) from ok a _ e)
 exact⟨o,its.toArray,n,h1,h2,cy (·.1) h3,by simpa using z8 r⟩
theorem aBh(ok:HOk P w H h)(e:Rd H a (.dT kvs)):kvs.length<=bo/\(a==gx)=ak/\
  ∃xs,KT H kvs xs/\h.DictOfH (gj (cH P w)) a xs:=by
 obtain⟨z,y,xs,r,o,es,ep,h1,h2,h3,h4,h5⟩:=(show gC P w H h a (.dT kvs) from aG1 ok e)
 refine⟨z,y,xs,r,o,es,ep,h1,h2,h3,h4,λx hx=>?_,h5⟩;have all:∀{l:ae (ae Key×V)}{m:ae (ae Key×al×am)},KT H l m->∀x∈m,(gj (cH P w)).is h x.1 x.2.1:=by
  intro l m q;induction q with
  |nil=>intro x hx;exact nomatch hx
  |@cons p q ps qs hq t ih=>
   intro x hx;rcases cj.mp hx with e|hx
   ·subst e;exact z9 ok (by rw[<-hq.1];exact hq.2.1)
   ·exact ih x hx
 exact all r x hx
theorem aG2(ok:HOk P w H h)(e:H a=aa (.dT kvs)):kvs.length<=bo/\(a==gx)=ak/\
  ∃xs,KT H kvs xs/\h.DictOfH (gj (cH P w)) a xs:=aBh ok (.inl e)
end
def aAy(H:Hp)(a:al)(y:V)(r:ar V):Prop:=
 (∃kvs k,Rd H a (.dK kvs)/\y=kV k/\r=vL kvs k)\/∃kvs k b,Rd H a (.dT kvs)/\y=.ref b/\H b=aa (.tup (k.map kV))/\r=vL kvs k
def aE5(H:Hp)(a:al)(y v:V)(H':Hp):Prop:=
 (∃kvs k,H a=aa (.dK kvs)/\y=kV k/\kvs.length<bo/\H'=upd H a (.dK (putK kvs k v)))\/
 ∃kvs k b,H a=aa (.dT kvs)/\y=.ref b/\H b=aa (.tup (k.map kV))/\kvs.length<bo/\H'=upd H a (.dT (putK kvs k v))
theorem aAy.k{k:Key}(e:H a=aa (.dK kvs)):aAy H a (kV k) (vL kvs k):=.inl ⟨kvs,k,.inl e,rfl,rfl⟩
theorem aAy.t{k:ae Key}(e:H a=aa (.dT kvs))(eb:H b=aa (.tup (k.map kV))):aAy H a (.ref b) (vL kvs k):=.inr ⟨kvs,k,b,.inl e,rfl,eb,rfl⟩
theorem aE5.k{k:Key}{v:V}(e:H a=aa (.dK kvs))(hl:kvs.length<bo):aE5 H a (kV k) v (upd H a (.dK (putK kvs k v))):=.inl ⟨kvs,k,e,rfl,hl,rfl⟩
theorem aE5.t{H:Hp}{a b:al}{kvs:ae (ae Key×V)}{k:ae Key}{v:V}(e:H a=aa (.dT kvs))(eb:H b=aa (.tup (k.map kV)))(hl:kvs.length<bo) :
  aE5 H a (.ref b) v (upd H a (.dT (putK kvs k v))):=.inr ⟨kvs,k,b,e,rfl,eb,hl,rfl⟩
section
variable {a:al} {y v:V}
theorem Inv.big(I:Inv X Ψ σ H s):gx<s.heap.objs.size:=by
 have h:bE<s.heap.objs.size:=(I.mod.glob.keeps I.bk).lt;exact AB 0x4 h
theorem VJ(hu:A.units+1<c9)(I:Inv X Ψ σ H s)(g:aAy H a y (aa v))(ry:RelV y u)(h:∀w' s',Inv X Ψ σ H s'->RelV v w'->Q w' s') :
  ϑ (ay X.prog X.w) A (ja (.ref a) u) Q E s:=by
 rcases g with ⟨kvs,k,e,ey,l⟩|⟨kvs,k,b,e,ey,eb,l⟩
 ·subst ey;obtain⟨z,hd,vs,rel,dd⟩:=aBg I.hok e;obtain⟨w',hw,rw'⟩:=G8.some_of (by rw[l];exact rel.val k);exact wpAny_getItem_of (z7 ry) dd.mapOf hw (h w' _ (I.tok _) rw')
 ·subst ey;cases (show u=cK b from ry);obtain⟨z,hd,xs,rel,dd⟩:=aBh I.hok e;obtain⟨w',hw,rw'⟩:=G8.some_of (by rw[l];exact rel.val k);obtain⟨p,hp,hp2⟩:=iO.mp hw;refine wpAny_getItem_heap (tf hu) (z9 I.hok eb) dd hp ?_;rw[hp2];exact h w' _ (I.tok _) rw'
theorem aRj(hu:A.units+1<c9)(I:Inv X Ψ σ H s)(g:aAy H a y o)(ry:RelV y u)(h:∀s',Inv X Ψ σ H s'->Q (.bool o.isSome) s') :
  ϑ (ay X.prog X.w) A (dL .In u (.ref a)) Q E s:=by
 rcases g with ⟨kvs,k,e,ey,l⟩|⟨kvs,k,b,e,ey,eb,l⟩
 ·subst ey;obtain⟨z,hd,vs,rel,dd⟩:=aBg I.hok e;refine wpAny_in_of (z7 ry) hd dd.mapOf ?_;rw[<-(rel.val k).tQ,<-l];exact h _ (I.tok _)
 ·subst ey;cases (show u=cK b from ry);obtain⟨z,hd,xs,rel,dd⟩:=aBh I.hok e;refine wpAny_in_heap (tf hu) (z9 I.hok eb) hd dd ?_;have q:=(rel.val k).tQ;rw[AA] at q;rw[<-q,<-l];exact h _ (I.tok _)
theorem VL(I:Inv X Ψ σ H s)(mu:Mut (H a))(hs:e9 a s.heap h')(he:∃q,h'.get? a=aa q)(new:gC X.prog X.w (upd H a ob) h' a ob) :
  Inv X Ψ σ (upd H a ob) {s with heap:=h',toks:=t'}:=
 I.write mu (.inl rfl) (λb q hb z=>(hs.2 b hb).trans z) he new
theorem VM(z:kvs.length<=bo)(hd:(a==gx)=ak)(rel:KV kvs vs)(dd:h'.DictOf (cH P w) a vs) :
  gC P w H' h' a (.dK kvs):=⟨z,hd,vs,rel,dd⟩
theorem VN(hu:A.units+1<c9)(I:Inv X Ψ σ H s)(g:aE5 H a y v H')(ry:RelV y u)(rv:RelV v r)(h:∀s',Inv X Ψ σ H' s'->Q () s') :
  ϑ (ay X.prog X.w) A (setItem (.ref a) u r) Q E s:=by
 rcases g with ⟨kvs,k,e,ey,l,eH⟩|⟨kvs,k,b,e,ey,eb,l,eH⟩
 ·subst ey eH;obtain⟨z,hd,vs,rel,dd⟩:=RX I.hok e;have hz:vs.length<=bo:=by rw[<-rel.length];exact z
  have hl:(putK kvs k v).length<=bo:=by have:=lK kvs k v;lia
  refine wpAny_setItem_pairs (z7 ry) dd λh' dd' hs=>h _ ?_
  have he:∃q,h'.get? a=aa q:=let ⟨q,_,_,hq,_⟩:=dd';⟨q,hq⟩
  exact VL I (by rw[e];exact True.intro) hs he (VM hl hd (rel.put k rv) dd')
 ·subst ey eH;cases (show u=cK b from ry);obtain⟨z,hd,xs,rel,dd⟩:=aG2 I.hok e;have hz:xs.length<=bo:=by rw[<-jq rel];exact z
  have hl:(putK kvs k v).length<=bo:=by have:=lK kvs k v;lia
  refine wpAny_setItem_heap (tf hu) (z9 I.hok eb) dd λh' dd' hs=>h _ ?_
  obtain⟨q,es,ep,hq,h2,h3,h4,_,h5⟩:=dd';refine VL I (by rw[e];exact True.intro) hs ⟨q,hq⟩ ⟨hl,hd,_,(rel.put k eb rv).keeps λc ys ec=>?_,q,es,ep,hq,h2,h3,h4,h5⟩;rw[aP (nJ ec e (λz=>nomatch z))];exact ec
end
theorem HY(I:Inv X Ψ σ H s)(g:aAy H a y o):s.TypeIs (.ref a) "dict":=by
 rcases g with ⟨kvs,k,e,_,_⟩|⟨kvs,k,b,e,_,_,_⟩
 ·obtain⟨_,_,vs,_,dd⟩:=aBg I.hok e;exact dd.typeIs
 ·obtain⟨_,_,xs,_,dd⟩:=aBh I.hok e;exact dd.typeIs
theorem aBi(h:bc)(hb:gx<h.objs.size):gC P w H (h.push {cls:=.type "dict",data:=.dict #[]}) h.objs.size (.dK []):=
 ⟨d6 _,fq.mpr (Ne.symm (cw hb)),[],.nil,xj h⟩
def MK:TE:=λ_ H Q=>∀p,H p=aj->Q (.ref p) (upd H p (.dK []))
section
theorem MN:PE X (.Dict [] [] pos) MK:=λΨ s σ H Q I h=>
 wpAny_Dict_empty ⟨.ref s.heap.objs.size,_,I.laid (λ_ _ q=>bP _ q) (bq _) (aBi s.heap I.big),rfl,h _ (I.hok.fresh (bq _))⟩
end
def fQ(kvs more:ae (Key×V)):ae (Key×V):=more.foldl (λacc kv=>putK acc kv.1 kv.2) kvs
theorem KV.merge:∀{more:ae (Key×V)}{rs:ae (Key×am)}{kvs:ae (Key×V)}{vs:ae (Key×am)},KV more rs->KV kvs vs->KV (fQ kvs more) (k9 vs rs):=by
 intro more rs kvs vs r;unfold KV at r;induction r generalizing kvs vs with
 |nil=>intro q;exact q
 |@cons p q ps qs h t ih=>
  intro r0;have e:KV (putK kvs p.1 p.2) (jc vs q.1 q.2):=by
   have:=r0.put p.1 h.2;rw[<-h.1];exact this
  exact ih e
theorem lL:∀(more kvs:ae (Key×V)),(fQ kvs more).length<=kvs.length+more.length
 |[],kvs=>by show kvs.length<=kvs.length+0;lia
 |p::r,kvs=>by
  have h1:=lL r (putK kvs p.1 p.2);have h2:=lK kvs p.1 p.2;show(fQ (putK kvs p.1 p.2) r).length<=_;rw[bp];lia
end L2
namespace Att
open PySem PySem.W PySem.Calls PyProof.Rows
theorem tR:∀(ns:ae ai)(vs:ae am),WellAll P h vs (ns.map AC)->oy vs ns:=by
 intro ns;induction ns with
 |nil=>
  intro vs w;rw[iN] at w;cases w;exact .nil
 |cons n ns ih=>
  intro vs w;rw[aI] at w;cases w with
  |cons a b=>
   cases a;exact .cons _ _ (ih _ b)
theorem VP{l:OpenLaw}(hn:l.most=aa n)
 (hpre:l.row.toRowW.claim.pre args=ag)(hwl:WellAll P h vals args) :
  ∃a vs ns,vals=[cK a]/\args=[WData.list (ns.map AC)]/\h.get? a=aa {cls:=.type "list",data:=.seq vs.toArray}/\oy vs ns/\ns.length<=n:=by
 have hsh:WShape.hasAll [] args [.list .int]=ag:=(pre_splitW hpre).1;have hc:l.pre.holds [] {args:=args}=ag:=(pre_splitW hpre).2;obtain⟨d,r,rfl,h1,h2⟩:=hasAllW_cons hsh;obtain rfl:=hasAllW_nil h2;obtain⟨xs,rfl,h3⟩:=hasW_list h1;obtain⟨ns,rfl⟩:=items_int h3;have hlen:ns.length<=n:=by
  unfold OpenLaw.pre at hc;have h4:(WTm.not (.lt (.lit (.int (n:ai))) (.len (.arg 0)))).holds [] {args:=[.list (ns.map .int)]}=ag:=by
   have h4:=(holds_andW hc).1;rw[hn] at h4;exact h4
  have h5:=condW_of h4 (w_not (w_lt w_lit (w_len_list (w_arg rfl))));rw[az] at h5;refine Nat.le_of_not_lt λq=>?_
  have q':(n:ai)<((ns.length:ah):ai):=by lia
  first
   | (rw[bt q'] at h5;exact bd h5 0x4)
   | (simp at h5;lia)
 cases hwl with
 |cons w1 w2=>
  cases w2;cases w1 with
  |list ho hall=>exact⟨_,_,ns,rfl,rfl,ho,tR ns _ hall,hlen⟩
theorem VR(l:OpenLaw)(args:ae WData):l.row.toRowW.claim.post args (.bool ag) args=ag:=
 postW_of
  (show AD [] (.bool ag) .bool=ag by first|rfl|decide|simp[AD,WShape.arms,WShape.armsAll])
  (show(WTm.eq .res (.lit (.bool ag))).value [] {args:=args,res:=aa (.bool ag),after:=args}=aa (.bool (ag==ag)) from w_eq_bool (w_res rfl) w_lit) rfl
theorem H_{l:OpenLaw}
 (hn:l.most=aa n)(hdf:d.params.defaults=[])
 (call:∀(w:bu) (s₀ s₁:au) (mg mb:Str->ar am) (fa:al) (o:bn) (pm cd doc:am) (a:al) (vs:ae am) (ns:ae ai),
   Ground q loose [] XP w s₀ mg mb s₁.heap->YP w s₁.heap->
   s₁.heap.get? fa=aa o->o.data=.func (docDef d.name d.params d.body d.scope pm cd doc)->s₁.heap.CodeRec cd d.name->mg d.name=aa (.ref fa)->
   s₁.heap.get? a=aa {cls:=.type "list",data:=.seq vs.toArray}->oy vs ns->ns.length<=n->s₁.gens=#[]->
   codeAny (ay l.prog w) la (.call (.ref fa) ⟨[.ref a],[]⟩) (λr s'=>r=.ok (.ret (.bool ag))/\OldK s₁.heap s'.heap/\s'.os=s₁.os/\iq s'.gens) s₁) :
  WalkO q loose XP YP l.row.toRowW d [] (λf vs=>xk f vs):=by
 intro w s₀ s₁ mg mb G Y fa o pm cd doc dV kV ho hd hcd hD hmg hg args vals as hpre hlay hrd hwl hlo;obtain rfl:dV=.none:=Dflts.none hD hdf;obtain rfl:kV=.none:=Dflts.noKw hD;obtain⟨a,vs,ns,rfl,rfl,hobj,hints,hlen⟩:=VP hn hpre hwl;refine enter_call (ma (call w s₀ s₁ mg mb fa o pm cd doc a vs ns G Y ho (fd_plain hd) hcd hmg hobj hints hlen hg) λr s' hq=>?_);obtain⟨rfl,h2,h3,h4⟩:=hq;exact⟨.inl ⟨.bool ag,.bool ag,[],rfl,λ_=>rfl,.bool ag,VR l _,λ_=>⟨CY,λ_ hm=>(nomatch hm)⟩⟩,h2,h3,h4⟩
end Att
namespace L2
open PySem PySem.Spec PyProof.Rows
theorem mR:∀{vs:ae am}{ns:ae ai},oy vs ns->Vals (ns.map V.int) vs
 |_,_,.nil=>.nil
 |_,_,.cons n t h=>.cons ⟨t,rfl⟩ (mR h)
def Only(H:Hp):Prop:=∀b,H b=aj\/∃o xs,H b=aa (.frz o (.lst xs))
theorem aBj{K:bi}{mg mb:Str->ar am}{CX:CXT}{k:ah}{fa a:al}{fd:dm}{x:Str}{sp:Sp}{s₁:au}{vs:ae am}{ns:ae ai}
 (KX:K.In s₁.heap)(hns:s₁.heap.Ns bE mg)(hb:s₁.heap.Ns vo mb)(hbb:∀x:Str,x ≠ "__name__"->mb x=eu x)(hlim:s₁.heap.NoLimit)(hg:s₁.gens=#[])
 (ha:s₁.heap.get? a=aa {cls:=.type "list",data:=.seq vs.toArray})(hi:oy vs ns)(hl:ns.length<=bo)(hr:lH k la)
 (F:∀base:bc,K.In base->base.Ns bE mg->lJ P w K mg base CX k fa fd [x] sp)(hbind:∀(s:au) (u:am),kL s fd ⟨[u],[]⟩ [(x,u)])
 (hsp:∀H:Hp,Only H->SqL K H a (ns.map V.int)->sp [.ref a] H (λv _=>v=.bl ag) λ_ _ _=>cg)
 (hCX:∀H e s',CX [] H s₁ (λ_ _ _=>cg) e s'->cg) :
  codeAny (ay P w) la (.call (.ref fa) ⟨[.ref a],[]⟩) (λr s'=>r=.ok (.ret (.bool ag))/\OldK s₁.heap s'.heap/\s'.os=s₁.os/\iq s'.gens) s₁:=by
 have rv:=mR hi;have lenV:=hi.length
 -- from an abstract heap in which nothing but the script may be tracked
 have core:∀H:Hp,Only H->SqL K H a (ns.map V.int)->HOk P w H s₁.heap->(∀b,H b≠aj->b=a)->(H a≠aj->K.lookup a=aj)->
   codeAny (ay P w) la (.call (.ref fa) ⟨[.ref a],[]⟩) (λr s'=>r=.ok (.ret (.bool ag))/\OldK s₁.heap s'.heap/\s'.os=s₁.os/\iq s'.gens) s₁:=by
  intro H hO hS hok hA hK;have base_of:∀{b:al}{o:bn},s₁.heap.get? b=aa o->H b=aj->(aB3 s₁.heap H).get? b=aa o:=λe n=>aB4 e n
  have noA:∀{b:al}{o:bn}{es:br DictEntry}{ep:ah},s₁.heap.get? b=aa o->o.data=.dict es ep->H b=aj:=λ{b o es ep} e d=>by
   cases q:H b with
   |none=>rfl
   |some u=>
    have e':b=a:=hA b (by rw[q];simp);subst e';rw[ha] at e;cases e;have d':zn vs.toArray _=Data.dict es ep:=d;cases d'
  have nsK:∀{b:al}{m:Str->ar am},s₁.heap.Ns b m->(aB3 s₁.heap H).Ns b m:=λ{b m} ⟨o,es,ep,e,d,r⟩=>⟨o,es,ep,base_of e (noA e d),d,r⟩
  have hKb:K.In (aB3 s₁.heap H):=λb o e=>base_of (KX b o e) (by
   cases q:H b with
   |none=>rfl
   |some u=>
    have e':b=a:=hA b (by rw[q];simp);subst e';rw[hK (by rw[q];simp)] at e;cases e)
  have hM:Mod K mg (aB3 s₁.heap H):=⟨hKb,nsK hns,⟨mb,nsK hb,hbb⟩,let ⟨mc,h1,h2⟩:=hlim;⟨mc,nsK h1,h2⟩⟩
  have e0:aFr P w K mg (aB3 s₁.heap H) la [] s₁ H:=⟨rfl,hM,λb o e=>aFf e,wj (UG _ _),trivial,λb hb=>bd (show b∈([]:ae al) from hb) 0x2,hok,.of_eq hg⟩
  refine ma ((F _ hKb (nsK hns)).run la [] s₁ H ⟨[.ref a],[]⟩ [.ref a] [.ref a] _ _ hr e0 (hbind s₁ (.ref a)) (.cons rfl .nil) (hsp H hO hS)) λr s' h=>?_
  cases r with
  |error e=>exact(hCX H e s' h).elim
  |ok fl=>
   cases fl with
   |next=>exact dQ h
   |brk=>exact dQ h
   |cont=>exact dQ h
   |ret u=>
    obtain⟨v,H',os,bare,un,hok',r',q⟩:=h;have q':v=.bl ag:=q;subst q';obtain rfl:u=vg ag:=r';refine⟨rfl,OldK.of_keep λb o e=>?_,os,bare⟩;cases q:H b with
    |none=>exact un.keep b o e q (by intro z;exact bd (show b∈([]:ae al) from z) 0x2) 0x2
    |some u=>
     rcases hO b with z|⟨ob,xs,z⟩
     ·rw[q] at z;cases z
     ·have z2:=un.frzs b ob _ z;obtain⟨e1,_⟩:=hok b _ z;obtain⟨e2,_⟩:=hok' b _ z2;rw[e] at e1;cases e1;exact e2
 cases hk:K.lookup a with
 |some o=>
  -- the script is one of the module's own objects
  have e:=KX a o hk;rw[ha] at e;cases e;refine core (λ_=>aj) (λ_=>.inl rfl) (.inr ⟨_,vs.toArray,_,hk,rfl,rfl,rfl,by rw[b6,lenV];exact hl,by simpa using rv⟩) (λb u z=>by have z':(aj:ar HO)=aa u:=z;cases z') (λb z=>bd rfl z) λz=>bd rfl z
 |none=>
  refine core (λb=>if b=a then aa (.frz {cls:=.type "list",data:=.seq vs.toArray} (.lst (ns.map V.int))) else aj) (λb=>?_) (.inl (.inr ⟨{cls:=.type "list",data:=.seq vs.toArray},aq rfl⟩)) (λb u z=>?_) (λb z=>?_) λ_=>hk
  ·by_cases hb:b=a
   ·exact .inr ⟨_,_,aq hb⟩
   ·exact .inl (aw hb)
  ·by_cases hb:b=a
   ·have z':=(aq hb).symm.trans z;cases z';subst hb;exact⟨ha,by rw[az];exact hl,vs,_,rv,ha⟩
   ·have z':=(aw hb).symm.trans z;cases z'
  ·by_cases hb:b=a
   ·exact hb
   ·exact bd (aw hb) z
theorem aG3{l:PySem.W.OpenLaw}{YP:bu->bc->Prop}{d:DefRec}{K:Params->bi}{CX:bu->CXT}{sp:bu->Sp}{x:Str}
 (hn:l.most=aa n)(hn2:n<=bo)(hdf:d.params.defaults=[])(hr:lH k la)
 (hY:∀(w:bu) (h:bc),YP w h->(K w.params).In h)
 (F:∀(w:bu) (mg:Str->ar am) (fa:al) (h:bc),(K w.params).In h->h.Ns bE mg->mg d.name=aa (.ref fa)->
   ∃fd:dm,(∀(s:au) (u:am),kL s fd ⟨[u],[]⟩ [(x,u)])/\
    ∀base:bc,(K w.params).In base->base.Ns bE mg->lJ l.prog w (K w.params) mg base (CX w) k fa fd [x] (sp w))
 (hsp:∀(w:bu) (H:Hp) (a:al) (ns:ae ai),ns.length<=n->Only H->SqL (K w.params) H a (ns.map V.int)->sp w [.ref a] H (λv _=>v=.bl ag) λ_ _ _=>cg)
 (hCX:∀(w:bu) (H:Hp) (s:au) (e:am) (s':au),CX w [] H s (λ_ _ _=>cg) e s'->cg) :
  PySem.W.WalkO q loose XP YP l.row.toRowW d [] (λf vs=>xk f vs):=by
 refine Att.H_ hn hdf λw s₀ s₁ mg mb fa o pm cd doc a vs ns G Y ho hd hcd hmg hobj hints hlen hg=>?_
 have KX:=hY w _ Y;obtain⟨fd,hb,hF⟩:=F w mg fa _ KX G.T.g hmg;exact aBj KX G.T.g G.T.b G.T.builtins G.T.nolimit hg hobj hints (c_ hlen hn2) hr hF hb (λH hO hS=>hsp w H a ns hlen hO hS) λH e s'=>hCX w H s₁ e s'
noncomputable def jV(s:bz):Arguments:=match s with
 |.FunctionDef _ a _ _ _ _ _ _ _ _=>a
 |_=>{posonlyargs:=[],args:=[],vararg:=aj,kwonlyargs:=[],kw_defaults:=[],kwarg:=aj,defaults:=[]}
noncomputable def dR(s:bz):ae bz:=match s with
 |.FunctionDef _ _ b _ _ _ _ _ _ _=>b
 |_=>[]
noncomputable def aN(s:bz):fx:=match s with
 |.FunctionDef _ _ _ _ _ _ sc _ _ _=>sc
 |_=>{kind:=.function,names:=[],isGenerator:=ak,isCoroutine:=ak}
noncomputable abbrev CX0:CXT:=λ_ _ _ _ _ _=>cg
noncomputable abbrev E0:XK:=λ_ _ _=>cg
theorem VV:tL CX0 X E0:=λ_ _ _ _ _ _ _ h=>h.elim
structure Fun(K:bi)(x qual:Str)(st:bz)(f:al)(fd:dm):Prop where
 ex:∃(oc:am)(od:ar al)(kV doc pm:am)(an:ar al)(cdv ct:am)(osl:br (ar am)),
  fd=kM x qual (jV st) (dR st) (aN st) .none kV doc pm an cdv ct/\K.lookup f=aa ⟨oc,od,.func fd,osl⟩/\sk K cdv qual=ag
 kp:gl K (.ref f)=ag
section
variable {P:bS} {w:bu} {K:bi} {mg:Str->ar am} {base:bc}
theorem Fun.ok{st:bz}{fd:dm}{N ps:ae Str}{k:ah}{sp:Sp}(F:Fun K x qual st f fd)(S:bZ N ps (aN st))(len:∀vs H Q E,sp vs H Q E->vs.length=ps.length)
 (hbody:∀(cdv:am) (A:cf) (outer:ae cS) (s:au) (H:Hp) (vs:ae V) (Q:VK) (E:XK),lH k (A.deeper (eR qual (aN st) s.heap.objs.size f cdv))->sp vs H Q E->
   ∃t,PSs (wQ CX0 P w K mg base N qual (aN st) f cdv A outer s H E).nox (dR st) t/\t {nx:=λ_ H'=>Q .non H',rt:=Q} (start N vs) H):lJ P w K mg base CX0 (k+1) f fd ps sp:=by
 obtain⟨oc,od,kV,doc,pm,an,cdv,ct,osl,rfl,lk,hcd⟩:=F.ex;refine aFt lk hcd S len λA outer s H vs Q E hr hsp=>?_
 obtain⟨t,h,q⟩:=hbody cdv A outer s H vs Q E hr hsp;exact⟨t,h.nox,q⟩
theorem Fun.binds{st:bz}(F:Fun K x qual st f fd)
 (h:∀(kV doc pm:am) (an:ar al) (cdv ct:am) (us:ae am),us.length=ps.length->bindArgs (kM x qual (jV st) (dR st) (aN st) .none kV doc pm an cdv ct) ⟨us,[]⟩=pure (ps.zip us)):Binds K fd ps []:=by
 obtain⟨oc,od,kV,doc,pm,an,cdv,ct,osl,rfl,lk,hcd⟩:=F.ex;exact .all (h kV doc pm an cdv ct)
theorem V0{st:bz}{oc:am}{od an:ar al}{osl:br (ar am)}{kV doc pm cdv ct:am}(l:K.lookup f=aa ⟨oc,od,.func (kM x qual (jV st) (dR st) (aN st) .none kV doc pm an cdv ct),osl⟩)
 (c:sk K cdv qual=ag)(k:gl K (.ref f)=ag):Fun K x qual st f (kM x qual (jV st) (dR st) (aN st) .none kV doc pm an cdv ct):=⟨⟨oc,od,kV,doc,pm,an,cdv,ct,osl,rfl,l,c⟩,k⟩
end
def bU(H H':Hp):Prop:=∀b o,H b=aa o->H' b=aa o
theorem bU.refl(H:Hp):bU H H:=λ_ _ h=>h
theorem bU.trans(a:bU H H1)(b:bU H1 H2):bU H H2:=λc o h=>b c o (a c o h)
theorem bU.free(e:bU H H')(h:H' l=aj):H l=aj:=by
 cases q:H l with
 |none=>rfl
 |some o=>
  rw[e l o q] at h;cases h
section
variable [dw κ]
theorem aBk{kvs:ae (κ×V)}{k:κ}(h:vL kvs k=aj):¬k∈kvs.map (·.1):=by
 intro m;obtain⟨p,hp,e⟩:=ck.mp m;have q:(kvs.any λkv=>ϒ (kv.1=k))=ag:=List.any_eq_true.mpr ⟨p,hp,bt e⟩;rw[p_,h] at q;exact bd q 0x2
theorem V1:∀{l:ae κ}{k:κ},l.Nodup->¬k∈l->(l++[k]).Nodup
 |[],k,_,_=>by simp
 |a::r,k,h,hk=>by
  obtain⟨h1,h2⟩:=fz.mp h;show(a::(r++[k])).Nodup;refine fz.mpr ⟨λm=>?_,V1 h2 λm=>hk (cj.mpr (Or.inr m))⟩;rcases dz.mp m with q|q
  ·exact h1 q
  ·exact hk (cj.mpr (jd (mj.mp q).symm))
theorem aG4{kvs:ae (κ×V)}{k:κ}(v:V)(hn:(kvs.map (·.1)).Nodup)(h:vL kvs k=aj):((putK kvs k v).map (·.1)).Nodup:=by
 rw[aBf v h,cu];exact V1 hn (aBk h)
end
end L2
namespace Mi
open PySem
inductive D where
 |uD|non|bl (b:ax)|int (i:ai)|str (x:Str)
 |tup (xs:ae D)|lst (xs:ae D)|dct (kvs:ae (D×D))|scr (xs:ae D)|cel (a:ah) (xs:ae D)|exc (c:Str) (fs:ae (Str×Str))|ins (c:Str) (fs:ae (Str×D))
 deriving Inhabited
mutual
noncomputable def D.pure:D->ax
 |.tup xs=>D.aH xs
 |.lst _=>ak
 |.dct _=>ak
 |.uD=>ak
 |.scr xs=>D.aH xs
 |.cel _ _=>ak
 |.exc _ _=>ak
 |.ins _ _=>ak
 |_=>ag
noncomputable def D.aH:ae D->ax
 |[]=>ag
 |x::xs=>x.pure&&D.aH xs
end
mutual
noncomputable def eqD:D->D->ax
 |.non,.non=>ag
 |.bl a,.bl b=>a==b
 |.int a,.int b=>a==b
 |.bl a,.int b=>(if a then (1:ai) else 0)==b
 |.int a,.bl b=>a==(if b then (1:ai) else 0)
 |.str a,.str b=>a==b
 |.tup xs,.tup ys=>nA xs ys
 |.lst xs,.lst ys=>nA xs ys
 |_,_=>ak
noncomputable def nA:ae D->ae D->ax
 |[],[]=>ag
 |x::xs,y::ys=>eqD x y&&nA xs ys
 |_,_=>ak
end
theorem aJv(a b:ai):eqD (.int a) (.int b)=(a==b):=id rfl
theorem aJw(a b:Str):eqD (.str a) (.str b)=(a==b):=id rfl
theorem aJx(a:ai)(b:Str):eqD (.int a) (.str b)=ak:=id rfl
theorem aJy(a:Str)(b:ai):eqD (.str a) (.int b)=ak:=id rfl
theorem aJz(a b:ae D):eqD (.tup a) (.tup b)=nA a b:=id rfl
mutual
noncomputable def D.iK:ah->D->ax
 |n+1,.tup xs=>D.b7 n xs
 |n+1,.lst xs=>D.b7 n xs
 |0,.tup _=>ak
 |0,.lst _=>ak
 |_,.dct _=>ak
 |_,.uD=>ak
 |_,.scr _=>ak
 |_,.cel _ _=>ak
 |_,.exc _ _=>ak
 |_,.ins _ _=>ak
 |_,.non=>ak
 |_,.bl _=>ak
 |_,_=>ag
noncomputable def D.b7:ah->ae D->ax
 |_,[]=>ag
 |n,x::xs=>D.iK n x&&D.b7 n xs
end
inductive V3 where|lt|le|gt|ge
 deriving dw
noncomputable def V3.int:V3->ai->ai->ax
 |.lt,a,b=>ϒ (a<b)|.le,a,b=>ϒ (a<=b)|.gt,a,b=>ϒ (b<a)|.ge,a,b=>ϒ (b<=a)
noncomputable def V3.nat:V3->ah->ah->ax
 |.lt,a,b=>ϒ (a<b)|.le,a,b=>ϒ (a<=b)|.gt,a,b=>ϒ (b<a)|.ge,a,b=>ϒ (b<=a)
noncomputable def aBl(a b:Str):ax:=ϒ (a.cps.toList<b.cps.toList)
def V3.str:V3->Str->Str->ax
 |.lt,a,b=>aBl a b|.le,a,b=>!aBl b a|.gt,a,b=>aBl b a|.ge,a,b=>!aBl a b
mutual
noncomputable def aQj(o:V3):D->D->ar ax
 |.int a,.int b=>aa (o.int a b)
 |.str a,.str b=>aa (o.str a b)
 |.tup xs,.tup ys=>aK0 o xs ys
 |_,_=>aj
noncomputable def aK0(o:V3):ae D->ae D->ar ax
 |[],ys=>aa (o.nat 0 ys.length)
 |x::xs,[]=>aa (o.nat (x::xs).length 0)
 |x::xs,y::ys=>if eqD x y then aK0 o xs ys else aQj o x y
end
inductive Res(α:Type) where
 |ok (a:α)|err (c:Str) (as:ae D)|bad
noncomputable def Res.bind{α β:Type}:Res α->(α->Res β)->Res β
 |.ok a,f=>f a
 |.err c as,_=>.err c as
 |.bad,_=>.bad
noncomputable instance:Monad Res where
 pure:=.ok
 bind:=Res.bind
@[simp] theorem Res.aO(a:α)(f:α->Res β):((Res.ok a) >>= f)=f a:=rfl
@[simp] theorem Res.aNn(c:Str)(as:ae D)(f:α->Res β):((Res.err c as:Res α) >>= f)=.err c as:=rfl
@[simp] theorem Res.aNo(f:α->Res β):((Res.bad:Res α) >>= f)=.bad:=rfl
@[simp] theorem Res.pure_eq(a:α):(pure a:Res α)=.ok a:=rfl
theorem Res.aG5{f:α->Res β}(h:(m >>= f)=.ok b):∃a,m=.ok a/\f a=.ok b:=by
 cases m with
 |ok a=>exact⟨a,rfl,h⟩
 |err c as=>cases h
 |bad=>cases h
theorem bx{P:Prop}(h:(Res.bad:Res α)=.ok d):P:=by cases h
theorem fx0{P:Prop}(h:ak=ag):P:=by cases h
noncomputable def Res.ofOpt{α:Type}:ar α->Res α
 |some a=>.ok a
 |none=>.bad
@[simp] theorem Res.aJ1(a:α):Res.ofOpt (aa a)=.ok a:=rfl
theorem Res.lN(h:Res.ofOpt o=.ok a):o=aa a:=by
 cases o with
 |none=>cases h
 |some b=>cases h;rfl
noncomputable def lim:ah:=1000000
inductive Bop where|add|sub|mul|fdiv|mod|pow
 deriving dw
inductive Cop where|eq|ne|ord (o:V3)|isin|notin|notN
 deriving dw
noncomputable def gQ(i:ai):ax:=ϒ (-(2 ^ 64)<i)&&ϒ (i<2 ^ 64)
def bG:Bop->D->D->Res D
 |.add,.int a,.int b=>.ok (.int (a+b))
 |.sub,.int a,.int b=>.ok (.int (a-b))
 |.mul,.int a,.int b=>if gQ a||gQ b then .ok (.int (a*b)) else .bad
 |.fdiv,.int a,.int b=>if ϒ (0<b)&&ϒ (b<1073741824) then .ok (.int (a / b)) else .bad
 |.mod,.int a,.int b=>if ϒ (0<b) then .ok (.int (a % b)) else .bad
 |.pow,.int a,.int b=>if ϒ (0<=b)&&ϒ (b<=1000000)&&ϒ (a.natAbs<2 ^ 64) then .ok (.int (a ^ b.toNat)) else .bad
 |.add,.str a,.str b=>if ϒ (a.length+b.length<=lim) then .ok (.str (a++b)) else .bad
 |.add,.lst a,.lst b=>if ϒ (a.length+b.length<=lim)&&D.aH a&&D.aH b then .ok (.lst (a++b)) else .bad
 |_,_,_=>.bad
def aQk:D->Res ax
 |.non=>.ok ak
 |.bl b=>.ok b
 |.int i=>.ok (i !=0)
 |.str x=>if ϒ (x.length<=lim) then .ok ((x.length:ai)!=0) else .bad
 |.tup xs=>.ok (!xs.isEmpty)
 |.lst xs=>.ok (!xs.isEmpty)
 |.dct kvs=>.ok (!kvs.isEmpty)
 |.uD=>.bad
 |.cel _ _=>.bad
 |.exc _ _=>.bad
 |.ins _ _=>.bad
 |.scr xs=>.ok (!xs.isEmpty)
noncomputable def gD:D->ax
 |.int _=>ag
 |.str _=>ag
 |_=>ak
def keyOk:D->ax
 |.int _=>ag
 |.str _=>ag
 |.tup xs=>xs.all gD
 |_=>ak
noncomputable def isTup:D->ax
 |.tup _=>ag
 |_=>ak
def cN:ae (D×D)->D->ar D
 |[],_=>aj
 | (k,v)::r,q=>if eqD k q then aa v else cN r q
def putD:ae (D×D)->D->D->ae (D×D)
 |[],q,w=>[(q,w)]
 | (k,v)::r,q,w=>if eqD k q then (k,w)::r else (k,v)::putD r q w
def sJ(kvs:ae (D×D))(k:D):ax:=keyOk k&&kvs.all (λp=>isTup p.1==isTup k)
noncomputable def bB:ah:=12
def qnQ:D->Res D|.scr _=>.bad|.cel _ _=>.bad|.non=>.ok (.bl ak)|_=>.ok (.bl ag)
def lG:Cop->D->D->Res D
 |.eq,a,b=>if a.iK bB&&b.iK bB then .ok (.bl (eqD a b)) else .bad
 |.ne,a,b=>if a.iK bB&&b.iK bB then .ok (.bl (!eqD a b)) else .bad
 |.ord o,a,b=>if a.iK bB&&b.iK bB then (match aQj o a b with|some k=>.ok (.bl k)|none=>.bad) else .bad
 |.isin,a,.tup ys=>if a.iK bB&&D.b7 bB ys then .ok (.bl (ys.any λy=>eqD y a)) else .bad
 |.isin,a,.lst ys=>if a.iK bB&&D.b7 bB ys then .ok (.bl (ys.any λy=>eqD y a)) else .bad
 |.isin,a,.dct kvs=>if sJ kvs a then .ok (.bl (cN kvs a).isSome) else .bad
 |.notin,a,.tup ys=>if a.iK bB&&D.b7 bB ys then .ok (.bl (!(ys.any λy=>eqD y a))) else .bad
 |.notin,a,.lst ys=>if a.iK bB&&D.b7 bB ys then .ok (.bl (!(ys.any λy=>eqD y a))) else .bad
 |.notin,a,.dct kvs=>if sJ kvs a then .ok (.bl (!(cN kvs a).isSome)) else .bad
 |.notN,a,.non=>qnQ a
 |_,_,_=>.bad
noncomputable def ixD(n:ah)(i:ai):ar ah:=if 0<=i then (if i<n then aa i.toNat else aj) else if -(n:ai)<=i then aa (i+n).toNat else aj
def getD(d i:D):Res D:=
 match d,i with
 |.tup xs,.int i=>Res.ofOpt ((ixD xs.length i).bind λj=>xs[j]?)
 |.lst xs,.int i=>Res.ofOpt ((ixD xs.length i).bind λj=>xs[j]?)
 |.scr xs,.int i=>Res.ofOpt ((ixD xs.length i).bind λj=>xs[j]?)
 |.cel _ xs,.int i=>Res.ofOpt ((ixD xs.length i).bind λj=>xs[j]?)
 |.str x,.int i=>if ϒ (x.length<=lim) then Res.ofOpt (((ixD x.cps.toList.length i).bind λj=>x.cps.toList[j]?).map λc=>D.str ⟨#[c]⟩) else .bad
 |.dct kvs,k=>if keyOk k then Res.ofOpt (cN kvs k) else .bad
 |_,_=>.bad
noncomputable def G9(n d:ah):ar ai->ah
 |none=>d
 |some v=>if v<0 then (max (v+(n:ai)) 0).toNat else (min v (n:ai)).toNat
def cutD{α:Type}(xs:ae α)(lo hi:ar ai):ae α:=(xs.drop (G9 xs.length 0 lo)).take (G9 xs.length xs.length hi-G9 xs.length 0 lo)
inductive Ty where|int|str|bool|list|tuple|dict
 deriving dw
noncomputable def aOh:Ty->D->Res ax
 |.int,.int _=>.ok ag
 |.bool,.int _=>.ok ak
 |.tuple,.tup _=>.ok ag
 |_,_=>.bad
noncomputable def oF(i:ai):ax:=ϒ (-(2 ^ 62)<=i)&&ϒ (i<2 ^ 62)
noncomputable def asB:D->Res ax
 |.bl b=>.ok b
 |_=>.bad
noncomputable def asI:D->Res ai
 |.int i=>.ok i
 |_=>.bad
inductive Fl where
 |nx (ρ:ae D)|rt (d:D)|bk (ρ:ae D)|ct (ρ:ae D)
noncomputable def aRk:Fl->Res D
 |.rt d=>.ok d
 |.nx _=>.ok .non
 |_=>.bad
noncomputable abbrev FE:=ae D->Res D
noncomputable abbrev FT:=ae D->Res ax
noncomputable abbrev FA:=ae D->Res (ae D)
noncomputable def b8(i:ah):FE:=λρ=>match ρ.getD i .uD with|.uD=>.bad|d=>.ok d
noncomputable def bC(d:D):FE:=λ_=>.ok d
abbrev gF:FE:= b8 2
abbrev nO:FE:= b8 0
abbrev iT:FE:= b8 1
abbrev e_:FE:= b8 3
abbrev iI:FE:= b8 4
abbrev nQ:FE:= b8 6
abbrev nY:FE:= b8 7
abbrev jA:FE:= b8 5
abbrev qC:FE:= b8 10
abbrev jW:FE:= b8 11
abbrev oV:FE:= b8 8
abbrev j8:FE:= b8 12
abbrev tU:FE:= b8 13
abbrev rZ:FE:= b8 14
abbrev j5:FE:= b8 9
abbrev RZ:FE:= b8 18
abbrev R0:FE:= b8 16
abbrev wX:FE:= b8 17
abbrev fD:FE:= bC (.int 0)
abbrev iU:FE:= bC (.int 2)
abbrev c7:FE:= bC (.int 1)
abbrev jH:FE:= bC (.int 3)
abbrev sE:FE:= bC (.int 26)
abbrev aE6:FE:= bC (.int 4)
abbrev MP:FE:= bC (.int 6)
abbrev aJ2:FE:= bC (.int 5)
abbrev aNp:FE:= bC (.int 9)
abbrev aBm:FE:= bC (.int 18)
abbrev aK1:FE:= bC (.int 8)
abbrev aG6:FE:= bC (.int 40)
abbrev aG7:FE:= bC (.int 12)
abbrev V4:FE:= bC (.int 120)
noncomputable def b2(f:D->D->Res D)(a b:FE):FE:=λρ=>do let x <- a ρ;let y <- b ρ;f x y
noncomputable def b1(f:D->Res D)(a:FE):FE:=λρ=>do let x <- a ρ;f x
def bTB(a:FE):FT:=λρ=>do let x <- a ρ;asB x
noncomputable def aJ3(a:FT):FT:=λρ=>do let x <- a ρ;pure (!x)
noncomputable def aAz(a b:FT):FT:=λρ=>do let x <- a ρ;if x then b ρ else pure ak
noncomputable def bOr(a b:FT):FT:=λρ=>do let x <- a ρ;if x then pure ag else b ρ
noncomputable def aY:FA:=λ_=>.ok []
noncomputable def aF(a:FE)(b:FA):FA:=λρ=>do let x <- a ρ;let xs <- b ρ;pure (x::xs)
def jB(a:FA):FE:=λρ=>do let xs <- a ρ;if ϒ (xs.length<=lim) then pure (.tup xs) else .bad
def jJ(a:FA):FE:=λρ=>do let xs <- a ρ;if ϒ (xs.length<=lim) then pure (.lst xs) else .bad
noncomputable def bD(f:ae D->Res D)(a:FA):FE:=λρ=>do let xs <- a ρ;f xs
noncomputable def bM(f:D->ae D->Res D)(o:FE)(a:FA):FE:=λρ=>do let x <- o ρ;let xs <- a ρ;f x xs
def fZ(a:FE):ae D->Res (ar ai):=λρ=>do let x <- a ρ;let i <- asI x;pure (aa i)
noncomputable def gR:ae D->Res (ar ai):=λ_=>.ok aj
def aRl:D->Res ax
 |.dct _=>.bad
 |.scr _=>.bad
 |d=>aQk d
def bTr(a:FE):FT:=λρ=>do let x <- a ρ;aRl x
noncomputable def IK:D->Res D
 |.int i=>.ok (.int (-i))
 |_=>.bad
def aNq:D->ar ai->ar ai->Res D
 |.lst xs,lo,hi=>if D.aH xs then .ok (.lst (cutD xs lo hi)) else .bad
 |.scr xs,lo,hi=>if D.aH xs then .ok (.lst (cutD xs lo hi)) else .bad
 |.tup xs,lo,hi=>if !D.aH xs||ϒ (G9 xs.length 0 lo=0/\G9 xs.length xs.length hi=xs.length) then .bad else .ok (.tup (cutD xs lo hi))
 |_,_,_=>.bad
def mG:ae D->Res D
 |[.tup xs]=>.ok (.int xs.length)
 |[.lst xs]=>.ok (.int xs.length)
 |[.scr xs]=>.ok (.int xs.length)
 |[.cel _ xs]=>.ok (.int xs.length)
 |[.str x]=>if ϒ (x.length<=lim) then .ok (.int x.length) else .bad
 |_=>.bad
noncomputable def aK2(kvs:ae (D×D)):ae D:=kvs.map (·.1)
def aBn:ae D->Res D
 |[.tup xs]=>if D.aH xs then .ok (.lst xs) else .bad
 |[.lst xs]=>if D.aH xs then .ok (.lst xs) else .bad
 |[.dct kvs]=>if kvs.all (λp=>!isTup p.1) then .ok (.lst (aK2 kvs)) else .bad
 |_=>.bad
noncomputable def fU:ae D->Res D
 |[.tup xs]=>.ok (.tup xs)
 |[.lst xs]=>.ok (.tup xs)
 |_=>.bad
noncomputable def Ty.nm:Ty->gf
 |.int=>"int" | .str=>"str" | .bool=>"bool" | .list=>"list" | .tuple=>"tuple" | .dict=>"dict"
def V5(t:Ty)(d:D):Res D:=do let k <- aOh t d;pure (.bl k)
noncomputable def nZ(n:ah)(f:ae D->Res D):ae D->Res D:=λds=>if ϒ (ds.length=n) then f ds else .bad
noncomputable abbrev FI:=ae D->Res (ae D×ax)
noncomputable def tV:D->Res (ae D)
 |.lst xs=>.ok xs
 |.tup xs=>.ok xs
 |_=>.bad
def j9:ae D->Res (ae D×ax)
 |[.int n]=>if oF n then .ok ((bj n.toNat).map λ(k:ah)=>D.int (0+(k:ai)),ag) else .bad
 |_=>.bad
noncomputable def nR(f:FA)(g:ae D->Res (ae D×ax)):FI:=λρ=>do let xs <- f ρ;g xs
noncomputable def MT(n:ah)(ρ:ae D):ae D:=(bj n).map λi=>ρ.getD i .uD
noncomputable def oG:D->Res (ae D):=λd=>.ok [d]
def A_(n:ah)(t:D->Res (ae D))(c:FT)(f:FE)(k:ax)(ρ:ae D)(acc:ae D)(x:D):Res (ae D):=do
 let bs <- t x
 let ok <- c (MT n ρ++bs)
 if ok then (do
  let y <- f (MT n ρ++bs)
  if k||y.pure then pure (acc++[y]) else .bad)
 else pure acc
noncomputable def oH(g:ae D->D->Res (ae D)):ae D->ae D->Res (ae D)
 |acc,[]=>.ok acc
 |acc,x::xs=>do let a <- g acc x;oH g a xs
def d8(n:ah)(it:FI)(t:D->Res (ae D))(c:FT)(f:FE)(k:ax):FE:=λρ=>do
 let xs <- it ρ
 if ϒ (xs.1.length<=lim) then (do
  let ys <- oH (A_ n t c f k ρ) [] xs.1
  pure (.lst ys)) else .bad
noncomputable def gG:FT:=λ_=>.ok ag
noncomputable abbrev FS:=ae D->Res Fl
noncomputable def D.M3:D->ax
 |.cel _ _=>ak
 |_=>ag
def inner:D->ax
 |.lst xs=>D.aH xs
 |.dct kvs=>D.aH (kvs.map (·.2))
 |.cel _ xs=>D.aH xs
 |_=>ak
noncomputable def tW:FS:=λρ=>.ok (.nx ρ)
noncomputable def bF(f g:FS):FS:=λρ=>do
 let r <- f ρ
 match r with
 |.nx ρ'=>g ρ'
 |r=>.ok r
def cU(o:ax)(i:ah)(f:FE)(k:ax):FS:=λρ=>do
 let d <- f ρ
 if (if o then k&&inner d else k||d.pure) then .ok (.nx (ρ.set i d)) else .bad
noncomputable def sIf(c:FT)(f g:FS):FS:=λρ=>do
 let k <- c ρ
 if k then f ρ else g ρ
noncomputable def V6(f:FE)(k:ax):FS:=λρ=>do
 let d <- f ρ
 if k||d.pure then .ok (.rt d) else .bad
def aG8(i:ah):FS:=λρ=>do
 let d <- b8 i ρ
 .ok (.rt d)
noncomputable def rtX:ah:=1000000
noncomputable def qD(f:FE)(k:ax):FS:=λρ=>do
 let d <- f ρ
 if k||d.pure then .ok (.rt (.tup (d::ρ))) else .bad
def tX(i:ah):FS:=λρ=>do
 let d <- b8 i ρ
 if d.M3 then .ok (.rt (.tup (d::ρ))) else .bad
def R3(i:ah)(f:FE):FS:=λρ=>do
 let d <- f ρ
 match ρ.getD i .uD with
 |.lst xs=>if ϒ (xs.length<lim)&&d.pure then .ok (.nx (ρ.set i (.lst (xs++[d])))) else .bad
 |_=>.bad
def aBo(i:ah)(f:FE)(g:FE):FS:=λρ=>do
 let d <- g ρ
 let k <- f ρ
 match ρ.getD i .uD with
 |.dct kvs=>if ϒ (kvs.length<lim)&&sJ kvs k&&d.pure then .ok (.nx (ρ.set i (.dct (putD kvs k d)))) else .bad
 |_=>.bad
noncomputable def tg1(i:ah):D->ae D->Res (ae D):=λd ρ=>.ok (ρ.set i d)
noncomputable def IV:ae ah->ae D->ae D->ae D
 |i::is,d::ds,ρ=>IV is ds (ρ.set i d)
 |_,_,ρ=>ρ
def tgN(is:ae ah):D->ae D->Res (ae D)
 |.tup ds,ρ=>if ϒ (ds.length=is.length) then .ok (IV is ds ρ) else .bad
 |_,_=>.bad
noncomputable def oW(t:D->ae D->Res (ae D))(body:FS):ae D->ae D->Res Fl
 |[],ρ=>.ok (.nx ρ)
 |x::xs,ρ=>do
  let ρ1 <- t x ρ
  let r <- body ρ1
  match r with
  |.nx ρ'=>oW t body xs ρ'
  |.ct ρ'=>oW t body xs ρ'
  |.bk ρ'=>.ok (.nx ρ')
  |.rt d=>.ok (.rt d)
def IW(it:FI)(t:D->ae D->Res (ae D))(body:FS):FS:=λρ=>do
 let xs <- it ρ
 if xs.2 then oW t body xs.1 ρ else .bad
def I_(i:ah)(t:D->ae D->Res (ae D))(body:FS):FS:=λρ=>do
 let d <- b8 i ρ
 let xs <- tV d
 oW t body xs ρ
def fnS(n m:ah)(f:FS):ae D->Res D:=λds=>do
 let r <- f (ds++bX (m-n) .uD)
 aRk r
open L2
class KFrag where
 K:bi
variable [KFrag]
def aBp(H:Hp)(a:al)(xs:ae V):Prop:=(∃o,H a=aa (.frz o (.lst xs)))\/
 ∃(o:bn)(its:br am)(n:ah),KFrag.K.lookup a=aa o/\o.cls=.type "list"/\o.dict=aj/\o.data=.seq its n/\its.size<=bo/\Vals xs its.toList
theorem aBp.sq(h:aBp H a xs)(hK:KFrag.K=K):SqL K H a xs:=by
 subst hK;rcases h with ⟨o,h⟩|h
 ·exact .inl (.inr ⟨o,h⟩)
 ·exact .inr h
noncomputable def kD:Key->D
 |.inl i=>.int i
 |.inr x=>.str x
noncomputable def JB:HO->ax
 |.lst _=>ag
 |.dK _=>ag
 |.dT _=>ag
 |_=>ak
def XO(a C:al)(dx:ar al)(h:bc):Prop:=∃o,h.get? a=aa o/\o.cls=.ref C/\o.dict=dx/\∃vs,o.data=.fields vs
def XD(dx:al)(fs:ae (Str×Str))(h:bc):Prop:=∃mA,h.Ns1 dx mA/\rV mA (fs.map (·.1))/\∀f,match fs.lookup f with
 |some t=>∃tk,mA f=aa (.str t tk)
 |none=>mA f=aj
def XDs(H:Hp)(fs:ae (Str×Str)):ar al->Prop
 |none=>fs=[]
 |some d=>H d=aa (.ext (XD d fs))
mutual
inductive Rep(P:al->Prop)(H:Hp):V->D->Prop
 |non:Rep P H .non .non
 |bl (b:ax):Rep P H (.bl b) (.bl b)
 |int (i:ai):Rep P H (.int i) (.int i)
 |str (x:Str):Rep P H (.str x) (.str x)
 |tup {a:al} {xs:ae V} {ds:ae D}:H a=aa (.tup xs)->bJ P H xs ds->Rep P H (.ref a) (.tup ds)
 |lst {a:al} {xs:ae V} {ds:ae D}:H a=aa (.lst xs)->P a->bJ P H xs ds->Rep P H (.ref a) (.lst ds)
 |cel {a:al} {xs:ae V} {ds:ae D}:H a=aa (.lst xs)->P a->bJ P H xs ds->Rep P H (.ref a) (.cel a ds)
 |frz {a:al} {xs:ae V} {ds:ae D}:aBp H a xs->bJ P H xs ds->Rep P H (.ref a) (.scr ds)
 |dK {a:al} {kvs:ae (Key×V)} {ds:ae (D×D)}:H a=aa (.dK kvs)->P a->fV P H kvs ds->(kvs.map (·.1)).Nodup->Rep P H (.ref a) (.dct ds)
 |dT {a:al} {kvs:ae (ae Key×V)} {ds:ae (D×D)}:H a=aa (.dT kvs)->P a->mO P H kvs ds->(kvs.map (·.1)).Nodup->Rep P H (.ref a) (.dct ds)
 |exc {a C:al} {dx:ar al} {c:Str} {fs:ae (Str×Str)}:lc KFrag.K bE c=aa (aa (.ref C))->H a=aa (.ext (XO a C dx))->XDs H fs dx->Rep P H (.ref a) (.exc c fs)
 |ins {a C dx:al} {c:Str} {vs:ae (Str×V)} {fs:ae (Str×D)}:lc KFrag.K bE c=aa (aa (.ref C))->H a=aa (.ins C dx vs)->oX P H vs fs->Rep P H (.ref a) (.ins c fs)
inductive oX(P:al->Prop)(H:Hp):ae (Str×V)->ae (Str×D)->Prop
 |nil:oX P H [] []
 |cons {f:Str} {v:V} {d:D} {r:ae (Str×V)} {ds:ae (Str×D)}:Rep P H v d->oX P H r ds->oX P H ((f,v)::r) ((f,d)::ds)
inductive bJ(P:al->Prop)(H:Hp):ae V->ae D->Prop
 |nil:bJ P H [] []
 |cons {v:V} {d:D} {vs:ae V} {ds:ae D}:Rep P H v d->bJ P H vs ds->bJ P H (v::vs) (d::ds)
inductive fV(P:al->Prop)(H:Hp):ae (Key×V)->ae (D×D)->Prop
 |nil:fV P H [] []
 |cons {k:Key} {v:V} {d:D} {r:ae (Key×V)} {ds:ae (D×D)}:Rep P H v d->fV P H r ds->fV P H ((k,v)::r) ((kD k,d)::ds)
inductive mO(P:al->Prop)(H:Hp):ae (ae Key×V)->ae (D×D)->Prop
 |nil:mO P H [] []
 |cons {k:ae Key} {v:V} {d:D} {r:ae (ae Key×V)} {ds:ae (D×D)}:Rep P H v d->mO P H r ds->mO P H ((k,v)::r) ((.tup (k.map kD),d)::ds)
end
def u9(P:al->Prop)(H H':Hp):Prop:=∀a o,H a=aa o->(P a\/JB o=ak)->H' a=aa o
theorem u9.same(h:bU H H'):u9 P H H':=λa o e _=>h a o e
theorem XDs.keep{P:al->Prop}{H H':Hp}(k:u9 P H H')(q:XDs H fs dx):XDs H' fs dx:=by
 cases dx with
 |none=>exact q
 |some _=>exact k _ _ q (.inr rfl)
mutual
theorem Rep.fM{P P':al->Prop}{H H':Hp}(k:u9 P H H')(m:∀a o,H a=aa o->P a->P' a){v:V}{d:D}(q:Rep P H v d):Rep P' H' v d:=by
 cases q with
 |non=>exact .non
 |bl b=>exact .bl b
 |int i=>exact .int i
 |str x=>exact .str x
 |tup e r=>exact .tup (k _ _ e (.inr rfl)) (bJ.fM k m r)
 |lst e p r=>exact .lst (k _ _ e (.inl p)) (m _ _ e p) (bJ.fM k m r)
 |cel e p r=>exact .cel (k _ _ e (.inl p)) (m _ _ e p) (bJ.fM k m r)
 |frz e r=>exact .frz (e.imp (λz=>z.imp λo e=>k _ _ e (.inr rfl)) id) (bJ.fM k m r)
 |dK e p r n=>exact .dK (k _ _ e (.inl p)) (m _ _ e p) (fV.fM k m r) n
 |dT e p r n=>exact .dT (k _ _ e (.inl p)) (m _ _ e p) (mO.fM k m r) n
 |exc n e q=>exact .exc n (k _ _ e (.inr rfl)) (XDs.keep k q)
 |ins n e r=>exact .ins n (k _ _ e (.inr rfl)) (oX.fM k m r)
theorem bJ.fM{P P':al->Prop}{H H':Hp}(k:u9 P H H')(m:∀a o,H a=aa o->P a->P' a){v:ae V}{d:ae D}(q:bJ P H v d):bJ P' H' v d:=by
 cases q with
 |nil=>exact .nil
 |cons r t=>exact .cons (Rep.fM k m r) (bJ.fM k m t)
theorem oX.fM{P P':al->Prop}{H H':Hp}(k:u9 P H H')(m:∀a o,H a=aa o->P a->P' a){v:ae (Str×V)}{d:ae (Str×D)}(q:oX P H v d):oX P' H' v d:=by
 cases q with
 |nil=>exact .nil
 |cons r t=>exact .cons (Rep.fM k m r) (oX.fM k m t)
theorem fV.fM{P P':al->Prop}{H H':Hp}(k:u9 P H H')(m:∀a o,H a=aa o->P a->P' a){v:ae (Key×V)}{d:ae (D×D)}(q:fV P H v d):fV P' H' v d:=by
 cases q with
 |nil=>exact .nil
 |cons r t=>exact .cons (Rep.fM k m r) (fV.fM k m t)
theorem mO.fM{P P':al->Prop}{H H':Hp}(k:u9 P H H')(m:∀a o,H a=aa o->P a->P' a){v:ae (ae Key×V)}{d:ae (D×D)}(q:mO P H v d):mO P' H' v d:=by
 cases q with
 |nil=>exact .nil
 |cons r t=>exact .cons (Rep.fM k m r) (mO.fM k m t)
end
theorem Rep.keep(k:u9 P H H')(m:∀a,P a->P' a)(q:Rep P H v d):Rep P' H' v d:=q.fM k λa _ _=>m a
theorem bJ.keep(k:u9 P H H')(m:∀a,P a->P' a)(q:bJ P H v d):bJ P' H' v d:=q.fM k λa _ _=>m a
theorem oX.keep(k:u9 P H H')(m:∀a,P a->P' a)(q:oX P H v d):oX P' H' v d:=q.fM k λa _ _=>m a
theorem fV.keep(k:u9 P H H')(m:∀a,P a->P' a)(q:fV P H v d):fV P' H' v d:=q.fM k λa _ _=>m a
theorem mO.keep(k:u9 P H H')(m:∀a,P a->P' a)(q:mO P H v d):mO P' H' v d:=q.fM k λa _ _=>m a
theorem Rep.mono(r:Rep P H v d)(m:∀a,P a->P' a):Rep P' H v d:=r.keep (λ_ _ e _=>e) m
theorem bJ.mono(r:bJ P H v d)(m:∀a,P a->P' a):bJ P' H v d:=r.keep (λ_ _ e _=>e) m
theorem Rep.same(r:Rep P H v d)(s:bU H H'):Rep P H' v d:=r.keep (.same s) λ_ h=>h
theorem bJ.same(r:bJ P H v d)(s:bU H H'):bJ P H' v d:=r.keep (.same s) λ_ h=>h
noncomputable def M4:HO->ax
 |.tup _=>ak
 |.frz _ (.lst _)=>ak
 |_=>ag
mutual
theorem Rep.tY{P P':al->Prop}{H H':Hp}(k:∀a o,H a=aa o->M4 o=ak->H' a=aa o){v:V}{d:D}(q:Rep P H v d)(h:d.pure=ag):Rep P' H' v d:=by
 cases q with
 |non=>exact .non
 |bl b=>exact .bl b
 |int i=>exact .int i
 |str x=>exact .str x
 |tup e r=>exact .tup (k _ _ e rfl) (bJ.tY k r h)
 |frz e r=>exact .frz (e.imp (λz=>z.imp λo e=>k _ _ e rfl) id) (bJ.tY k r h)
 |_=>exact fx0 h
theorem bJ.tY{P P':al->Prop}{H H':Hp}(k:∀a o,H a=aa o->M4 o=ak->H' a=aa o){v:ae V}{d:ae D}(q:bJ P H v d)(h:D.aH d=ag):bJ P' H' v d:=by
 cases q with
 |nil=>exact .nil
 |cons r t=>
  rw[D.aH,aS] at h;exact .cons (Rep.tY k r h.1) (bJ.tY k t h.2)
end
theorem Rep.bL(r:Rep P H v d)(h:d.pure=ag):Rep P' H v d:=r.tY (λ_ _ e _=>e) h
theorem bJ.bL(r:bJ P H v d)(h:D.aH d=ag):bJ P' H v d:=r.tY (λ_ _ e _=>e) h
theorem bJ.length:∀{v:ae V}{d:ae D},bJ P H v d->v.length=d.length
 |_,_,.nil=>rfl
 |_,_,.cons _ t=>by rw[bp,bp,bJ.length t]
theorem bJ.get:∀{vs:ae V}{ds:ae D}{i:ah}{d:D},bJ P H vs ds->ds[i]?=aa d->∃v,vs[i]?=aa v/\Rep P H v d
 |_,_,_,_,.nil,e=>by simp at e
 |_,_,0,_,.cons r _,e=>by simp at e;subst e;exact⟨_,rfl,r⟩
 |_,_,i+1,d,.cons _ t,e=>by
  obtain⟨v,h1,h2⟩:=bJ.get t (by simpa using e);exact⟨v,by simpa using h1,h2⟩
theorem bJ.at:∀{vs:ae V}{ds:ae D}{i:ah}{v:V},bJ P H vs ds->vs[i]?=aa v->∃d,ds[i]?=aa d/\Rep P H v d
 |_,_,_,_,.nil,e=>by simp at e
 |_,_,0,_,.cons r _,e=>by simp at e;subst e;exact⟨_,rfl,r⟩
 |_,_,i+1,d,.cons _ t,e=>by
  obtain⟨v,h1,h2⟩:=bJ.at t (by simpa using e);exact⟨v,by simpa using h1,h2⟩
theorem bJ.append:∀{vs ws:ae V}{ds es:ae D},bJ P H vs ds->bJ P H ws es->bJ P H (vs++ws) (ds++es)
 |_,_,_,_,.nil,s=>s
 |_,_,_,_,.cons r t,s=>.cons r (bJ.append t s)
theorem bJ.take:∀{vs:ae V}{ds:ae D}(n:ah),bJ P H vs ds->bJ P H (vs.take n) (ds.take n)
 |_,_,0,_=>.nil
 |_,_,_+1,.nil=>.nil
 |_,_,n+1,.cons r t=>.cons r (bJ.take n t)
theorem bJ.drop:∀{vs:ae V}{ds:ae D}(n:ah),bJ P H vs ds->bJ P H (vs.drop n) (ds.drop n)
 |_,_,0,r=>r
 |_,_,_+1,.nil=>.nil
 |_,_,n+1,.cons _ t=>bJ.drop n t
theorem bJ.set(r:Rep P H v d):∀{vs:ae V}{ds:ae D}(n:ah),bJ P H vs ds->bJ P H (vs.set n v) (ds.set n d)
 |_,_,_,.nil=>.nil
 |_,_,0,.cons _ t=>.cons r t
 |_,_,n+1,.cons q t=>.cons q (bJ.set r n t)
theorem bJ.snoc(t:bJ P H vs ds)(r:Rep P H v d):bJ P H (vs++[v]) (ds++[d]):=t.append (.cons r .nil)
theorem Rep.uD:¬Rep P H v .uD:=λh=>by cases h
abbrev All:al->Prop:=λ_=>gi
abbrev New(H:Hp):al->Prop:=λa=>H a=aj
theorem Rep.all(r:Rep P H v d):Rep All H v d:=r.mono λ_ _=>trivial
theorem bJ.all(r:bJ P H v d):bJ All H v d:=r.mono λ_ _=>trivial
theorem bU.new(s:bU H H'):∀a,New H' a->New H a:=λa h=>s.free h
theorem bU.upd(h:H a=aj):bU H (upd H a o):=λb u e=>by rw[aP (bK e h)];exact e
def ER(H:Hp)(σ:St)(ρ:ae D):Prop:=∀i,ρ.getD i .uD≠.uD->∃v,σ[i]?=aa (aa v)/\Rep All H v (ρ.getD i .uD)
theorem ER.same(e:ER H σ ρ)(s:bU H H'):ER H' σ ρ:=λi h=>by
 obtain⟨v,h1,h2⟩:=e i h;exact⟨v,h1,h2.same s⟩
theorem PE.imp(h:PE X e t)(i:∀σ H Q,t' σ H Q->t σ H Q):PE X e t':=λΨ s σ H Q I q=>h Ψ s σ H Q I (i σ H Q q)
theorem PT.imp(h:PT X e t)(i:∀σ H Q,t' σ H Q->t σ H Q):PT X e t':=λΨ s σ H Q I q=>h Ψ s σ H Q I (i σ H Q q)
theorem PA.imp(h:PA X e t)(i:∀σ H Q,t' σ H Q->t σ H Q):PA X e t':=λpos Ψ s σ H Q I q=>h pos Ψ s σ H Q I (i σ H Q q)
theorem Rep.dom(r:Rep P H v d):Rep (λa=>P a/\H a≠aj) H v d:=r.fM (λ_ _ e _=>e) λa o e p=>⟨p,by rw[e];simp⟩
theorem Rep.aG9(r:Rep P H v d)(k:u9 P H H')(m:∀a o,H a=aa o->P a->P' a):Rep P' H' v d:=r.fM k m
def aRm(P:al->Prop)(H:Hp)(v:V):D->Prop
 |.non=>v=.non
 |.bl b=>v=.bl b
 |.int i=>v=.int i
 |.str x=>v=.str x
 |.tup ds=>∃a xs,v=.ref a/\H a=aa (.tup xs)/\bJ P H xs ds
 |.lst ds=>∃a xs,v=.ref a/\H a=aa (.lst xs)/\P a/\bJ P H xs ds
 |.cel b ds=>∃xs,v=.ref b/\H b=aa (.lst xs)/\P b/\bJ P H xs ds
 |.scr ds=>∃a xs,v=.ref a/\aBp H a xs/\bJ P H xs ds
 |.ins c fs=>∃a C dx vs,v=.ref a/\lc KFrag.K bE c=aa (aa (.ref C))/\H a=aa (.ins C dx vs)/\oX P H vs fs
 |.exc c fs=>∃a C dx,v=.ref a/\lc KFrag.K bE c=aa (aa (.ref C))/\H a=aa (.ext (XO a C dx))/\XDs H fs dx
 |.uD=>cg
 |_=>gi
theorem Rep.inv(r:Rep P H v d):aRm P H v d:=by
 cases r with
 |non=>rfl
 |bl=>rfl
 |int=>rfl
 |str=>rfl
 |tup e r=>exact⟨_,_,rfl,e,r⟩
 |lst e p r=>exact⟨_,_,rfl,e,p,r⟩
 |cel e p r=>exact⟨_,rfl,e,p,r⟩
 |frz e r=>exact⟨_,_,rfl,e,r⟩
 |ins n e r=>exact⟨_,_,_,_,rfl,n,e,r⟩
 |exc n e r=>exact⟨_,_,_,rfl,n,e,r⟩
 |_=>trivial
end Mi
open Mi.D renaming aH->ε,int->ι,tup->ν,pure->ξ,str->π,b7->υ,bl->χ,lst->ψ
open Mi.Res renaming ok->τ,aO->θ,ofOpt->ο
namespace L2
open PySem PySem.Spec PyProof.Rows
noncomputable def fW(own:ae Str)(x:Str):Str:=if own.contains x then x++(" " : Str) else x
def clF(env:cS):ae (Str×iA)->ae (Str×al)->ae (Str×al)
 |[],acc=>acc
 | (n,k)::r,acc=>clF env r (if k==.free then (n,(env.cells.lookup n).getD 0)::acc else acc)
theorem qP:∀(names:ae (Str×iA))(acc:ae (Str×al)),(∀y∈names,y.2=.free->∃c,env.cells.lookup y.1=aa c)->
  (forIn names acc λx cs=>(match x with
   | (name,kind)=>if (kind==.free)=ag then cellOf env name >>= λc=>pure (AE ((name,c)::cs)) else pure (AE cs):Sem (ForInStep (ae (Str×al)))))=(pure (clF env names acc):Sem _)
 |[],acc,_=>by rw[je];rfl
 | (n,k)::r,acc,h=>by
  rw[mq];by_cases hk:(k==.free)=ag
  ·have hk':k=.free:=by simpa using hk
   obtain⟨c,e⟩:=h (n,k) (de ..) hk';have e':cellOf env n=pure c:=by
    unfold cellOf;have e2:env.cells.lookup n=aa c:=e;rw[e2]
   dsimp only;rw[aq hk,e',pure_bind,pure_bind];dsimp only;rw[qP r _ λy hy=>h y (c8 _ hy)];have e2:env.cells.lookup n=aa c:=e;simp only[clF,hk,ff,e2,AF]
  ·dsimp only;rw[aw hk,pure_bind];dsimp only;rw[qP r _ λy hy=>h y (c8 _ hy)];simp only[clF,hk,gn,fE]
theorem R4(h:∀y∈scope.names,y.2=.free->∃c,env.cells.lookup y.1=aa c):closureFor scope env=pure (clF env scope.names []):=by
 unfold closureFor;have:=qP scope.names [] h;simp only[bind_pure] at *;exact this
theorem JC:∀{names:ae (Str×iA)}{acc:ae (Str×al)}{x:Str}{c:al},(∀y∈names,y.2=.free->∃c,env.cells.lookup y.1=aa c)->(∀x c,acc.lookup x=aa c->env.cells.lookup x=aa c)->
  (clF env names acc).lookup x=aa c->env.cells.lookup x=aa c
 |[],acc,x,c,_,h,e=>h x c e
 | (n,k)::r,acc,x,c,q,h,e=>by
  unfold clF at e;refine JC (λy hy=>q y (c8 _ hy)) (λy d hy=>?_) e;by_cases hk:(k==.free)=ag
  ·rw[aq hk,gN] at hy;obtain⟨c',e'⟩:=q (n,k) (de ..) (by simpa using hk);have e2:env.cells.lookup n=aa c':=e';cases hyn:y==n with
   |true=>
    rw[hyn] at hy;have:y=n:=by simpa using hyn
    subst this;rw[e2] at hy;simp only[AF] at hy;rw[e2];exact hy
   |false=>rw[hyn] at hy;exact h y d hy
  ·rw[aw hk] at hy;exact h y d hy
theorem V7:∀{names:ae (Str×iA)}{acc:ae (Str×al)}{x:Str},(∃c,acc.lookup x=aa c)->∃c,(clF env names acc).lookup x=aa c
 |[],_,_,h=>h
 | (n,k)::r,acc,x,⟨c,h⟩=>by
  unfold clF;refine V7 ?_;by_cases hk:(k==.free)=ag
  ·rw[aq hk,gN];cases x==n with
   |true=>exact⟨_,rfl⟩
   |false=>exact⟨c,h⟩
  ·rw[aw hk];exact⟨c,h⟩
theorem JD:∀{names:ae (Str×iA)}{acc:ae (Str×al)}{x:Str},(x,kh)∈names->∃c,(clF env names acc).lookup x=aa c
 | (n,k)::r,acc,x,h=>by
  unfold clF;rcases cj.mp h with e|h
  ·cases e;refine V7 ?_;rw[aq 0x4,gN];simp
  ·exact JD h
structure cO(N:ae Str)(sc scope:fx)(own:ae Str):Prop where
 kind:scope.kind=.function
 nocell:∀y∈scope.names,y.2≠.cell
 names:∀y∈scope.names,y.2=.local->scope.names.lookup y.1=aa .local
 free:∀y∈scope.names,y.2=.free->sc.names.lookup y.1=aa .cell\/sc.names.lookup y.1=aa .free
 ownl:∀x∈own,scope.names.lookup x=aa .local
 hid:∀x∈own,scope.names.lookup (x++(" " : Str))=aj
 loc:∀y∈scope.names,y.2=.local->y.1∈own\/y.1∉N
structure dC(X X':Cx)(scope:fx)(own:ae Str):Prop where
 prog:X'.prog=X.prog
 w:X'.w=X.w
 K:X'.K=X.K
 mg:X'.mg=X.mg
 base:X'.base=X.base
 A:X'.A=X.A
 N:X'.N=X.N.map (fW own)++own
 scope:X'.env.scope=iP scope X.env
 calm:X'.calm=X.calm
 xe:X'.xe=λ_ _=>cg
def M5(X:Cx)(scope:fx)(cl:ae (Str×al))(C:al)(own:ae Str)(s₂:au)(H₂:Hp)(fp:ae al):Cx:=
 {X with N:=X.N.map (fW own)++own,s₀:=s₂,H₀:=H₂,env:=compEnvC scope cl C X.env,outer:=X.stack,stack:=X.stack,ex:=fp,fn:=λ_=>ak,pn:=[],xe:=λ_ _=>cg}
theorem V8:dC X (M5 X scope cl C own s₂ H₂ fp) scope own:=
 ⟨rfl,rfl,rfl,rfl,rfl,rfl,rfl,rfl,rfl,rfl⟩
def Ext(σ σ2:St):Prop:=σ2.length=σ.length/\∀(i:ah) v,σ[i]?=aa (aa v)->σ2[i]?=aa (aa v)
def BJ(wi:TI)(g:TG)(tc:TT)(te:TE)(m:ah):TE:=λσ H Q=>wi σ H λJ H1=>∀p,H1 p=aj->
 ∃W:ah->ah->ae V->Hp->Prop,(∃n,W 0 n [] (upd H1 p (.lst [])))/\∀i n ys H,W i n ys H->H p=aa (.lst ys)/\((J.stop i H/\Q (.ref p) H)\/(J.go i H/\ys.length<bo/\
  ∀x H2,J.yld i H x H2->g x (σ++bX m aj) H2 λσ2 H3=>Ext (σ++bX m aj) σ2/\tc σ2 H3 λb H4=>if b=ag then te σ2 H4 λy H5=>H5 p=aa (.lst ys)/\∃n',n'<n/\W (i+1) n' (ys++[y]) (upd H5 p (.lst (ys++[y])))
   else ∃n',n'<n/\W (i+1) n' ys H4))
section
theorem Inv.comp(I:Inv X Ψ σ H2 s2)(S:cO X.N X.env.scope scope own)(hf:∀b∈fp,T7 X Ψ H2 b)
 (hfx:∀b∈fp,b<s2.heap.objs.size)(hns:h1.Ns (s2.heap.objs.size+1) (λ_=>aj))
 (hk:∀b o,s2.heap.get? b=aa o->h1.get? b=aa o)(hacc:h1.get? s2.heap.objs.size=aa {cls:=.type "list",data:=.seq #[]}) :
  Inv (M5 X scope (clF X.env scope.names []) (s2.heap.objs.size+1) own s2 H2 fp) [] (σ++bX own.length aj) (upd H2 s2.heap.objs.size (.lst [])) {s2 with heap:=h1,toks:=t1}:=by
 have hD:H2 s2.heap.objs.size=aj:=I.hok.fresh (bq _);have hC:H2 (s2.heap.objs.size+1)=aj:=I.hok.fresh (md _);have cells:∀y∈scope.names,y.2=.free->∃c,X.env.cells.lookup y.1=aa c:=λy hy hk=>I.ok.has y.1 (S.free y hy hk)
 have sub:∀x c,(clF X.env scope.names []).lookup x=aa c->X.env.cells.lookup x=aa c:=λx c e=>JC cells (λ_ _ h=>by simp at h) e
 have relk:∀x,(iP scope X.env).names.lookup x=aa .cell\/(iP scope X.env).names.lookup x=aa .free->(x,kh)∈scope.names:=by
  intro x hx;have go:∀(l:ae (Str×iA)),(∀y∈l,y.2≠.cell)->((l.map λ(n,k)=>if (k==kh&&X.env.scope.kind==.function&&X.env.kindOf n==aa .cell) then (n,xl) else (n,k)).lookup x=aa .cell\/(l.map λ(n,k)=>if (k==kh&&X.env.scope.kind==.function&&X.env.kindOf n==aa .cell) then (n,xl) else (n,k)).lookup x=aa .free)->(x,kh)∈l:=by
   intro l;induction l with
   |nil=>intro _ h;rcases h with h|h<;>simp at h
   |cons p l ih=>
    obtain⟨n,k⟩:=p;intro nc h;rw[aI] at h;dsimp only at h;by_cases hc:(k==kh&&X.env.scope.kind==.function&&X.env.kindOf n==aa .cell)=ag
    ·rw[aq hc] at h;rw[gN] at h;cases e:x==n with
     |true=>
      have:x=n:=by simpa using e
      subst this;simp only[aS] at hc;have:k=.free:=by simpa using hc.1.1
      subst this;exact de ..
     |false=>
      rw[e] at h;exact c8 _ (ih (λy hy=>nc y (c8 _ hy)) h)
    ·rw[aw hc] at h;rw[gN] at h;cases e:x==n with
     |true=>
      have:x=n:=by simpa using e
      subst this;rw[e] at h;dsimp only at h;rcases h with h|h
      ·exact bd (ft h) (nc (x,k) (de ..))
      ·have:=ft h;subst this;exact de ..
     |false=>
      rw[e] at h;exact c8 _ (ih (λy hy=>nc y (c8 _ hy)) h)
  exact go scope.names S.nocell hx
 have hne:s2.heap.objs.size≠s2.heap.objs.size+1:=cw (l7 _);have hlt:∀b o,s2.heap.get? b=aa o->b<s2.heap.objs.size:=λb o e=>bw e
 have hstk:∀b∈frs X.stack,b<s2.heap.objs.size:=λb hb=>by
  obtain⟨_,o,ho,_⟩:=I.stack.mem hb;exact hlt b o ho
 refine⟨⟨I.mod,?_,I.ok.glob,I.ok.blt,md _,λx y c e1 e2=>I.ok.inj x y c (sub x c e1) (sub y c e2),λx hx=>?_,λ_ _ h=>(by cases h),I.ok.hd,I.ok.frames,.inl rfl,λb hb=>?_,λb o e=>I.bs b o e,?_,λb o e hb=>?_,λb hb hz=>?_,I.stack,I.HN⟩,
  rfl,I.bare,Un.laid hk (bq _) hD,?_,λx c e=>?_,?_,λx c e=>?_,λp hp=>(by simp[M5] at hp),?_,?_⟩
 ·exact S.kind
 ·have hx':(iP scope X.env).names.lookup x=aa .cell\/(iP scope X.env).names.lookup x=aa .free:=hx;exact JD (relk x hx')
 ·refine⟨cw (lf (hfx b hb)),λx c e z=>?_⟩;exact(hf b hb).2.2.2.2.1 x c (sub x c e) z
 ·exact c_ I.ok.bsz I.sz
 ·rcases(hf b hb).2.2.2.1 with z|z
  ·exact I.ok.noex b o e z
  ·exact bd (dy (bw e) (c_ I.ok.bsz z)) (fN _)
 ·rcases cj.mp (I.K7 b hz) with z'|z'
  ·exact(hf b hb).2.1 z'
  ·exact(hf b hb).2.2.1 z'
 ·refine⟨_,hns,λi x v e1 e2 e3=>?_⟩;have hi:i<σ.length:=by
   rcases mr i σ.length with h|h
   ·exact h
   ·rw[fg h,iE] at e2;split at e2<;>cases e2
  rw[dA hi] at e2;have hiN:i<X.N.length:=by rw[<-I.len];exact hi
  have e1':(X.N.map (fW own))[i]?=aa x:=by
   have:(X.N.map (fW own)++own)[i]?=aa x:=e1;rwa [dA (by rw[az];exact hiN)] at this
  rw[fA] at e1';obtain⟨y,hy,ey⟩:=iO.mp e1';have hyN:y∈X.N:=jI hy;have e3':(iP scope X.env).names.lookup x=aa .local\/(iP scope X.env).names.lookup x=aa .cell\/(iP scope X.env).names.lookup x=aa .free:=e3;have keys:∀z k,(iP scope X.env).names.lookup z=aa k->∃k',scope.names.lookup z=aa k'/\(k=.local->k'=.local):=by
   intro z k;show(scope.names.map λ(n,k)=>if (k==kh&&X.env.scope.kind==.function&&X.env.kindOf n==aa .cell) then (n,xl) else (n,k)).lookup z=aa k->_;generalize scope.names=l;induction l with
   |nil=>intro h;simp at h
   |cons p l ih=>
    obtain⟨n,k0⟩:=p;intro h;rw[aI] at h;dsimp only at h;by_cases hc:(k0==kh&&X.env.scope.kind==.function&&X.env.kindOf n==aa .cell)=ag
    ·rw[aq hc,gN] at h;rw[gN];cases e:z==n with
     |true=>
      rw[e] at h;dsimp only at h;cases h;exact⟨k0,rfl,λq=>by cases q⟩
     |false=>rw[e] at h;exact ih h
    ·rw[aw hc,gN] at h;rw[gN];cases e:z==n with
     |true=>
      rw[e] at h;dsimp only at h;cases h;exact⟨_,rfl,λq=>q⟩
     |false=>rw[e] at h;exact ih h
  by_cases hown:own.contains y=ag
  ·exfalso;have ex:x=y++(" " : Str):=by rw[<-ey];unfold fW;rw[aq hown]
   have hn:=S.hid y (by simpa using hown);rw[<-ex] at hn;rcases e3' with q|q|q
   all_goals
    obtain⟨k',hk',_⟩:=keys _ _ q;rw[hn] at hk';cases hk'
  ·have ex:x=y:=by rw[<-ey];unfold fW;rw[aw hown]
   subst ex;rcases e3' with q|q
   ·exfalso;obtain⟨k',hk',hl⟩:=keys _ _ q;have:=hl rfl;subst this;rcases S.loc _ (me hk') rfl with z|z
    ·exact hown (by simpa using z)
    ·exact z hyN
   ·have hfr:=relk x q;have hv:=S.free _ hfr rfl;obtain⟨m,_,hl⟩:=I.loc;obtain⟨u,ru,lk⟩:=hl i x v hy e2 (.inr hv);refine⟨u,ru,.inr ⟨q,?_⟩⟩;rcases lk with ⟨z,_⟩|⟨_,c,hc,o,ho,hd⟩
    ·have z':X.env.scope.names.lookup x=aa .local:=z;rcases hv with hv|hv<;>(rw[z'] at hv;cases hv)
    ·obtain⟨c',hc'⟩:=JD hfr;have:=sub x c' hc';rw[hc] at this;cases this;exact⟨c,hc',o,hk c o ho,hd⟩
 ·obtain⟨v,z⟩:=I.cell x c (sub x c e);obtain⟨o,ho,hd⟩:=z;exact⟨v,o,hk c o ho,hd⟩
 ·show upd H2 _ _ (s2.heap.objs.size+1)=aj;rw[aP (Ne.symm hne)];exact hC
 ·obtain⟨v,o,ho,_⟩:=I.cell x c (sub x c e);show upd H2 _ _ c=aj;rw[aP (cw (hlt c o ho))];exact I.freeC x c (sub x c e)
 ·exact I.hok.laid hk (bq _) ⟨d6 _,[],0,.nil,hacc⟩
 ·show(σ++bX own.length aj).length=(X.N.map (fW own)++own).length;rw[aT,aT,ot,az,I.len]
end
section
variable {X:Cx} {scope:fx} {own:ae Str}
def cI(X':Cx)(σ:St)(fp:ae al)(tn:ah->bc->Prop)(W:ah->ah->ae V->Hp->Prop)(n:ah)(s:au):Prop:=∃i ys H',Inv X' [] σ H' s/\tn i s.heap/\(∀b∈fp,H' b=aj)/\W i n ys H'
abbrev cE(X X':Cx)(use:ar (am->Sem Unit))(QQ:am->au->Prop)(p:al):am->au->Prop:=notedBy (ay X.prog X.w) X.A X'.env λe s'=>mt (ay X.prog X.w) X.A X.xe use QQ (.ref p) (p+1) (.error e) s'
def cB(X':Cx)(σ:St)(fp:ae al)(tn:ah->bc->Prop)(W:ah->ah->ae V->Hp->Prop)(n i:ah)(h:bc):Prop:=∀{ys':ae V}{H9:Hp}{s9:au}{σ9:St},Ext σ σ9->Inv X' ([]++sY fp h) σ9 H9 s9->(∃n',n'<n/\W (i+1) n' ys' H9)->∃m,m<n/\cI X' σ fp tn W m s9
theorem JF(S:cO X.N X.env.scope scope own)(hcalm:X.calm=ag)(hi:PI X tg iter wi)
 (hg:∀X',dC X X' scope own->PG X' tg g)(hc:(ifs=[]/\tc=λ_ H Q=>Q ag H)\/∃c,ifs=[c]/\∀X',dC X X' scope own->PT X' c tc)(he:∀X',dC X X' scope own->PE X' elt te)
 (hs:∀x,eP iter X.env x=pure x)(I:Inv X Ψ σ H s)(h:BJ wi g tc te own.length σ H R)
 (last:∀{p C:al} {H5:Hp} {s6:au} {m6:Str->ar am},Inv X Ψ σ H5 s6->T7 X Ψ H5 C->s6.heap.Ns C m6->R (.ref p) H5->mt (ay X.prog X.w) X.A X.xe use QQ (.ref p) C (.ok .next) s6) :
  ϑ (ay X.prog X.w) X.A (AG (.ListComp elt [⟨tg,iter,ifs,0⟩] scope pos) scope X.env ps (newList []) ak (eval iter X.env) use) QQ X.xe s:=by
 have cells:∀y∈scope.names,y.2=.free->∃c,X.env.cells.lookup y.1=aa c:=λy hy hk=>I.ok.has y.1 (S.free y hy hk)
 refine wpAny_comprehension_free rfl hs (R4 cells) S.kind S.names (thn (hi Ψ s σ H _ I h) λxv s1 h1=>thn h1 λitv s2 h2=>?_);obtain⟨it,fp,tn,J,H2,e,I2,T,st2,f2,hW⟩:=h2;subst e;have hD:H2 s2.heap.objs.size=aj:=I2.hok.fresh (bq _);obtain⟨W,⟨n0,w0⟩,turn⟩:=hW _ hD;have hfx:∀b∈fp,b<s2.heap.objs.size:=λb hb=>by
  obtain⟨o,ho,_⟩:=T.obj 0 _ st2 b hb;exact bw ho
 refine iL (wpAny_newFunctionEnv S.nocell (by intro y hy;simp at hy) (λh₁ hns₁ hsb₁=>?_) S.kind);dsimp only at hns₁ hsb₁ ⊢;have hC:(s2.heap.push {cls:=.type "list",dict:=aj,data:=.seq ([]:ae am).toArray}).objs.size=s2.heap.objs.size+1:=dS ..;have hne:s2.heap.objs.size≠s2.heap.objs.size+1:=cw (l7 _);rw[hC] at hns₁ hsb₁ ⊢;have old:∀b o,s2.heap.get? b=aa o->h₁.get? b=aa o:=λb o e=>hsb₁.extBut b o (cw (lf (bw e))) (bP _ (bP _ e))
 have hacc:h₁.get? s2.heap.objs.size=aa {cls:=.type "list",data:=.seq #[]}:=hsb₁.extBut _ _ hne (bP _ (c6 _ rfl));have I4:=Inv.comp (t1:=s2.toks+([]:ae (Str×am)).length) I2 S f2 hfx hns₁ old hacc;generalize hX':M5 X scope (clF X.env scope.names []) (s2.heap.objs.size+1) own s2 H2 fp=X' at I4;have cc:dC X X' scope own:=by rw[<-hX'];exact V8
 have eenv:X'.env=compEnvC scope (clF X.env scope.names []) (s2.heap.objs.size+1) X.env:=by rw[<-hX'];rfl
 have eA:X'.A=X.A:=cc.A;have ep:X'.prog=X.prog:=cc.prog;have ew:X'.w=X.w:=cc.w;have efs:X'.fs=frs X.stack:=by rw[<-hX'];rfl
 have eex:X'.ex=fp:=by rw[<-hX'];rfl
 have es0:X'.s₀=s2:=by rw[<-hX'];rfl
 have eH0:X'.H₀=H2:=by rw[<-hX'];rfl
 have epn:X'.pn=[]:=by rw[<-hX'];rfl
 have eK:X'.K=X.K:=cc.K;have exe:=cc.xe;have ecalm:X'.calm=ag:=cc.calm.trans hcalm
 -- the iterator's records within the block
 have fpok:∀{H':Hp},(∀b∈fp,H' b=aj)->∀b∈fp,T7 X' [] H' b:=λ{H'} hn b hb=>by
  obtain⟨_,f1,f3,_,f5,_⟩:=f2 b hb;refine⟨hn b hb,?_,?_,.inl (by rw[eex];exact hb),λx c e=>?_,λp hp=>by rw[epn] at hp;simp at hp⟩
  ·rw[eenv];exact cw (lf (hfx b hb))
  ·rw[efs];intro z;rcases cj.mp (I2.K7 b z) with z|z
   ·exact f1 z
   ·exact f3 z
  ·rw[eenv] at e;exact f5 x c (JC cells (λ_ _ h=>by simp at h) e)
 have st4:tn 0 h₁:=T.keep _ _ _ st2 λb _ o e=>old b o e
 have fr4:∀b∈fp,(upd H2 s2.heap.objs.size (.lst [])) b=aj:=λb hb=>by rw[aP (cw (hfx b hb))];exact(f2 b hb).1
 have loop:∀s4:au,s4={s2 with heap:=h₁,toks:=s2.toks+([]:ae (Str×am)).length}->
   codeAny (ay X.prog X.w) X.A (.compLoop (.ListComp elt [⟨tg,iter,ifs,0⟩] scope pos) 0 (.ref it) (.ref s2.heap.objs.size) X'.env)
    (mt (ay X.prog X.w) X.A X.xe use QQ (.ref s2.heap.objs.size) (s2.heap.objs.size+1)) s4:=by
  rintro s4 rfl;have put:∀(n i:ah)(ys:ae V)(s7:au)(σ8:St)(H8:Hp)(s8:au),cB X' (σ++bX own.length aj) fp tn W n i s7.heap->Inv X' ([]++sY fp s7.heap) σ8 H8 s8->Ext (σ++bX own.length aj) σ8->ys.length<bo->(te σ8 H8 λy H5=>H5 s2.heap.objs.size=aa (.lst ys)/\∃n',n'<n/\W (i+1) n' (ys++[y]) (upd H5 s2.heap.objs.size (.lst (ys++[y]))))->
    ϑ (ay X.prog X.w) X.A (eval elt X'.env) (λx s₄=>ϑ (ay X.prog X.w) X.A (call (.builtin "list.append") [.ref s2.heap.objs.size,x]) (λ_ s₅=>∃m,m<n/\cI X' (σ++bX own.length aj) fp tn W m s₅) (cE X X' use QQ s2.heap.objs.size) s₄) (cE X X' use QQ s2.heap.objs.size) s8:=by
   intro n i ys s7 σ8 H8 s8 back I8 ext8 hlen q8;have he':=he X' cc _ s8 _ H8 _ I8 q8;rw[ep,ew,eA,exe] at he';refine fR he' (λyv s10 ⟨y,H10,I10,r10,p10,q10⟩=>?_) λ_ _ z=>dQ z
   have hm:=j7 _ s10 σ8 H10 (.ref s2.heap.objs.size) [y] (.ref s2.heap.objs.size) [yv] (λ_ H11=>∃n',n'<n/\W (i+1) n' (ys++[y]) H11) I10 rfl (.cons r10 .nil) ⟨s2.heap.objs.size,ys,y,rfl,rfl,p10,hlen,q10⟩;rw[ep,ew,eA,exe] at hm;exact fR hm (λ_ s11 ⟨_,H11,I11,_,q11⟩=>back ext8 I11 q11) λ_ _ z=>dQ z
  have key:∀(PO:ah->au->Prop),(∀(n i:ah)(ys:ae V)(s7:au)(σ8:St)(H8:Hp)(s8:au),cB X' (σ++bX own.length aj) fp tn W n i s7.heap->Inv X' ([]++sY fp s7.heap) σ8 H8 s8->Ext (σ++bX own.length aj) σ8->ys.length<bo->(tc σ8 H8 λb H4=>if b=ag then te σ8 H4 λy H5=>H5 s2.heap.objs.size=aa (.lst ys)/\∃n',n'<n/\W (i+1) n' (ys++[y]) (upd H5 s2.heap.objs.size (.lst (ys++[y]))) else ∃n',n'<n/\W (i+1) n' ys H4)->PO n s8)->
    ∀n s5,(cI X' (σ++bX own.length aj) fp tn W n s5)->ϑ (ay X.prog X.w) X.A (gz (.ref it)) (λr s₁=>match r with
     |none=>mt (ay X.prog X.w) X.A X.xe use QQ (.ref s2.heap.objs.size) (s2.heap.objs.size+1) (.ok .next) s₁
     |some v=>ϑ (ay X.prog X.w) X.A (n9 tg (.ref it) v) (λ_ s₀=>ϑ (ay X.prog X.w) X.A (kG tg X'.env v) (λ_ s₂=>PO n s₂) (cE X X' use QQ s2.heap.objs.size) s₀) (cE X X' use QQ s2.heap.objs.size) s₁) (cE X X' use QQ s2.heap.objs.size) s5:=by
   intro PO hPO;rintro n s5 ⟨i,ys,H5,I5,st5,fr5,w5⟩;obtain⟨hacc5,tr⟩:=turn i n ys H5 w5;rcases tr with ⟨stop,q⟩|⟨go,hlen,step⟩
   ·have done:=T.done X' ep ew eK ecalm i [] s5 _ H5 (cE X X' use QQ s2.heap.objs.size) I5 (fpok fr5) st5 stop;rw[eA] at done;refine thn done λr s6 ζ=>?_;obtain⟨hr,I6⟩:=ζ
    subst hr;obtain⟨m6,hn6,_⟩:=id I6.loc;rw[eenv] at hn6;have u6:Un (frs X.stack) fp H2 H5 s2.heap s6.heap:=by
     have:=I6.base;rw[efs,eex,eH0,es0] at this;exact this
    have hCn:H5 (s2.heap.objs.size+1)=aj:=by
     have:=I6.free;rw[eenv] at this;exact this
    have hok6:HOk X.prog X.w H5 s6.heap:=by
     have:=I6.hok;rw[ep,ew] at this;exact this
    have hos:s6.os=s2.os:=by have:=I6.os;rw[es0] at this;exact this
    obtain⟨hh,gg,dd,tt,oo⟩:=s6;obtain rfl:oo=s2.os:=hos;have fin:=Inv.call (g':=gg) (d':=dd) (t':=tt) (ch:=fp) I2 u6 hok6 I6.bare λb hb=>⟨(f2 b hb).2.2.2.1,(f2 b hb).2.1,(f2 b hb).2.2.2.2.1,(f2 b hb).2.2.2.2.2⟩
    refine last fin ⟨hCn,iz (lf I2.lt),I2.aQc (md _),.inr (c_ I2.sz (md _)),λx c e z=>?_,λp hp z=>?_⟩ hn6 q
    ·obtain⟨v,qq⟩:=I2.cell x c e;exact bd (lf qq.lt) (by rw[z];exact fN _)
    ·exact bd (lf (bw (I2.pin p hp).1)) (by rw[z];exact fN _)
   ·have item:=T.item X' ep ew eK ecalm i [] s5 _ H5 (cE X X' use QQ s2.heap.objs.size) I5 (fpok fr5) st5 go;rw[eA] at item;refine thn item λr s6 ζ=>?_;obtain⟨u,hr,h6⟩:=ζ
    subst hr;refine thn h6 λ_ s7 ζ=>?_;obtain⟨x,H7,I7,r7,y7,st7,fr7⟩:=ζ
    have I7':=I7.pinned (fpok fr7) (T.obj _ _ st7);have hg':=hg X' cc _ s7 _ H7 x u _ I7' r7 (step x H7 y7);rw[ep,ew,eA,exe] at hg';refine fR hg' (λ_ s8 ⟨σ8,H8,I8,ext8,q8⟩=>?_) λ_ _ z=>dQ z
    have back:cB X' (σ++bX own.length aj) fp tn W n i s7.heap:=by
     rintro ys' H9 s9 σ9 ex9 I9 ⟨n',hn',w9⟩;refine⟨n',hn',i+1,ys',H9,(I9.weak ex9.1.symm ex9.2).oZ,T.keep _ _ _ st7 λb hb o e=>(I9.pin (b,o) (eM _ (eM _ (m_ hb e)))).1,λb hb=>?_,w9⟩;obtain⟨o,e,d⟩:=T.obj _ _ st7 b hb;exact(I9.pin (b,o) (eM _ (eM _ (m_ hb e)))).2.1
    exact hPO n i ys s7 σ8 H8 s8 back I8 ext8 hlen q8
  rcases hc with ⟨rfl,rfl⟩|⟨c,rfl,hc⟩
  ·refine PySem.W.kcp_loop _ (key _ λn i ys s7 σ8 H8 s8 back I8 ext8 hlen q8=>?_) n0 ⟨0,[],_,I4,st4,fr4,w0⟩;simp only[ff] at q8;exact put n i ys s7 σ8 H8 s8 back I8 ext8 hlen q8
  ·refine PySem.W.kct_loop _ (key _ λn i ys s7 σ8 H8 s8 back I8 ext8 hlen q8=>?_) n0 ⟨0,[],_,I4,st4,fr4,w0⟩;have hc':=hc X' cc _ s8 _ H8 _ I8 q8;rw[ep,ew,eA,exe] at hc';refine fR hc' (λb s9 ⟨H9,I9,q9⟩=>?_) λ_ _ z=>dQ z
   cases b with
   |false=>
    simp only[gn,fE] at q9 ⊢;exact back ext8 I9 q9
   |true=>
    simp only[ff] at q9 ⊢;exact put n i ys s7 σ8 H9 s9 back I9 ext8 hlen q9
 have l4:=loop _ rfl;rw[eenv] at l4;exact codeAny_compStart_list l4 (T.self X.A 0 _ _ _ st4 l4)
theorem M6(f:Inv X Ψ σ H5 s6)(k:T7 X Ψ H5 C)(n:s6.heap.Ns C m6)(q:Q (.ref p) H5):mt (ay X.prog X.w) X.A X.xe aj (EP X Ψ σ Q) (.ref p) C (.ok .next) s6:=
 ⟨m6,n,λh' sb=>⟨.ref p,H5,Inv.turned f (λb o hb e=>sb.extBut b o hb e) k.1 k.2.1 k.2.2.2.1 k.2.2.2.2.1 k.2.2.2.2.2,rfl,q⟩⟩
theorem V9(S:cO X.N X.env.scope scope own)(hcalm:X.calm=ag)(hi:PI X tg iter wi)
 (hg:∀X',dC X X' scope own->PG X' tg g)(hc:∀X',dC X X' scope own->PT X' c tc)(he:∀X',dC X X' scope own->PE X' elt te)
 (hs:∀x,eP iter X.env x=pure x):PE X (.ListComp elt [⟨tg,iter,[c],0⟩] scope pos) (BJ wi g tc te own.length):=by
 intro Ψ s σ H Q I h;rw[AH];exact JF S hcalm hi hg (.inr ⟨c,rfl,hc⟩) he hs I h M6
theorem aBq(S:cO X.N X.env.scope scope own)(hcalm:X.calm=ag)(hi:PI X tg iter wi)
 (hg:∀X',dC X X' scope own->PG X' tg g)(he:∀X',dC X X' scope own->PE X' elt te)
 (hs:∀x,eP iter X.env x=pure x):PE X (.ListComp elt [⟨tg,iter,[],0⟩] scope pos) (BJ wi g (λ_ H Q=>Q ag H) te own.length):=by
 intro Ψ s σ H Q I h;rw[AH];exact JF S hcalm hi hg (.inl ⟨rfl,rfl⟩) he hs I h M6
end
end L2
namespace Mi
open PySem L2 PySem.SeqAt
section
variable [KFrag]
theorem j_(I:Inv X Ψ σ H s)(e:H a=aa (.tup xs)):∃its:ae am,Vals xs its/\s.heap.IsTuple a its.toArray:=by
 obtain⟨_,its,r,p⟩:xs.length<=bo/\∃its:ae am,Vals xs its/\j6 s.heap a its.toArray:=I.hok a _ e;exact⟨its,r,p.tup⟩
theorem mU(I:Inv X Ψ σ H s)(e:SqL X.K H a xs):∃its:ae am,Vals xs its/\s.heap.IsList a its.toArray:=by
 obtain⟨its,r,p,_⟩:=I.list e;exact⟨its,r,p.isList⟩
theorem Rep.mK(r:Rep P H v (.lst ds)):∃a xs,v=.ref a/\SqL K H a xs/\bJ P H xs ds:=by
 obtain⟨_,_,rfl,e,p,r⟩:=r.inv;exact⟨_,_,rfl,.inl (.inl e),r⟩
theorem Rep.iD(r:Rep P H v (.tup ds)):∃a xs,v=.ref a/\H a=aa (.tup xs)/\bJ P H xs ds:=by
 obtain⟨_,_,rfl,e,r⟩:=r.inv;exact⟨_,_,rfl,e,r⟩
mutual
theorem wY:∀(n:ah)(d:D),d.iK n=ag->eqD d d=ag
 |_,.int i,_=>by exact lg i
 |_,.str x,_=>by exact lg x
 |n+1,.tup xs,h=>by exact tZ n xs h
 |n+1,.lst xs,h=>by exact tZ n xs h
 |0,.tup xs,h=>by exact fx0 h
 |0,.lst xs,h=>by exact fx0 h
 |n,.non,h=>by cases n<;>exact fx0 h
 |n,.bl _,h=>by cases n<;>exact fx0 h
 |n,.dct _,h=>by cases n<;>exact fx0 h
 |n,.uD,h=>by cases n<;>exact fx0 h
 |n,.scr _,h=>by cases n<;>exact fx0 h
 |n,.exc _ _,h=>by cases n<;>exact fx0 h
 |n,.ins _ _,h=>by cases n<;>exact fx0 h
 |n,.cel _ _,h=>by cases n<;>exact fx0 h
theorem tZ:∀(n:ah)(ds:ae D),υ n ds=ag->nA ds ds=ag
 |_,[],_=>rfl
 |n,d::ds,h=>by
  rw[υ,aS] at h;rw[nA,wY n d h.1,tZ n ds h.2];rfl
end
theorem bJ.aQl{n:ah}{P P':al->Prop}{H:Hp}(ih:∀{v:V} {d e:D},d.iK n=ag->e.iK n=ag->Rep P H v d->Rep P' H v e->d=e){vs:ae V}:∀{ds es:ae D},υ n ds=ag->υ n es=ag->bJ P H vs ds->bJ P' H vs es->ds=es:=by
 induction vs with
 |nil=>intro ds es h h' r q;cases r;cases q;rfl
 |cons v vs ih2=>
  intro ds es h h' r q;cases r with
  |cons r t=>
   cases q with
   |cons r' t'=>
    rw[υ,aS] at h h';rw[ih h.1 h'.1 r r',ih2 h.2 h'.2 t t']
theorem Rep.inj{P P':al->Prop}{H:Hp}(n:ah):∀{v:V}{d e:D},d.iK n=ag->e.iK n=ag->Rep P H v d->Rep P' H v e->d=e:=by
 induction n with
 |zero=>
  intro v d e h h' r q;cases d with
  |int i=>obtain rfl:=r.inv;cases q;rfl
  |str x=>obtain rfl:=r.inv;cases q;rfl
  |_=>exact fx0 h
 |succ n ih=>
  intro v d e h h' r q;cases d with
  |int i=>obtain rfl:=r.inv;cases q;rfl
  |str x=>obtain rfl:=r.inv;cases q;rfl
  |tup ds=>
   obtain⟨a,xs,rfl,e1,r1⟩:=r.inv;cases q with
   |tup e2 r2=>
    rw[e1] at e2;cases e2;rw[bJ.aQl ih h h' r1 r2]
   |lst e2 _ _=>rw[e1] at e2;cases e2
   |dK e2 _ _ _=>rw[e1] at e2;cases e2
   |dT e2 _ _ _=>rw[e1] at e2;cases e2
   |_=>exact fx0 h'
  |lst ds=>
   obtain⟨a,xs,rfl,e1,_,r1⟩:=r.inv;cases q with
   |tup e2 r2=>rw[e1] at e2;cases e2
   |lst e2 _ r2=>
    rw[e1] at e2;cases e2;rw[bJ.aQl ih h h' r1 r2]
   |dK e2 _ _ _=>rw[e1] at e2;cases e2
   |dT e2 _ _ _=>rw[e1] at e2;cases e2
   |_=>exact fx0 h'
  |_=>exact fx0 h
theorem nC:∀(xs ys:ae D),nA xs ys=((bj (min xs.length ys.length)).all (λj=>eqD (xs.getD j .non) (ys.getD j .non))&&xs.length==ys.length)
 |[],[]=>by simp[nA]
 |[],y::ys=>by simp[nA]
 |x::xs,[]=>by simp[nA]
 |x::xs,y::ys=>by
  have e:min (x::xs).length (y::ys).length=min xs.length ys.length+1:=by simp only[bp];lia
  rw[nA,nC xs ys,e,List.range_succ_eq_map,ig,List.all_map,xn]
  congr 1
  simp[C0]
theorem kE:∀{ds:ae D}{j:ah},υ n ds=ag->j<ds.length->(ds.getD j .non).iK n=ag
 |[],j,_,h=>by simp at h
 |d::ds,0,h,_=>by rw[υ,aS] at h;exact h.1
 |d::ds,j+1,h,hj=>by
  rw[υ,aS] at h;simpa using kE h.2 (by simpa using hj)
theorem bJ.getD(r:bJ P H vs ds)(hj:j<ds.length):∃v,vs[j]?=aa v/\Rep P H v (ds.getD j .non):=by
 obtain⟨v,h1,h2⟩:=r.get (i:=j) (d:=ds.getD j .non) (by simp[hj]);exact⟨v,h1,h2⟩
section
theorem JG(ha:a.iK 0=ag)(hb:b.iK 0=ag)(rx:Rep All H x a)(ry:Rep All H y b)(ru:RelV x u)(rv:RelV y v):RcAt A s u v (eqD a b)/\tj A s u v (!eqD a b)/\EqAt A s u v (eqD a b):=by
 cases rx with
 |int _=>
  obtain⟨t,rfl⟩:=ru;cases ry with
  |int _=>obtain⟨t',rfl⟩:=rv;exact⟨RcAt.int_int _ _ _ _,RcNeAt.int_int _ _ _ _,EqAt.int_int _ _ _ _⟩
  |str _=>obtain⟨t',rfl⟩:=rv;exact⟨RcAt.int_str _ _ _ _,RcNeAt.int_str _ _ _ _,zh _ _ _ _⟩
  |_=>exact fx0 hb
 |str _=>
  obtain⟨t,rfl⟩:=ru;cases ry with
  |int _=>obtain⟨t',rfl⟩:=rv;exact⟨RcAt.str_int _ _ _ _,RcNeAt.str_int _ _ _ _,zi _ _ _ _⟩
  |str _=>obtain⟨t',rfl⟩:=rv;exact⟨RcAt.str_str _ _ _ _,RcNeAt.str_str _ _ _ _,EqAt.str_str _ _ _ _⟩
  |_=>exact fx0 hb
 |_=>exact fx0 ha
theorem M7(I:Inv X Ψ σ H s):∀(n:ah)(A:cf){x y:V}{a b:D}{u v:am},A.units+n<c9->a.iK n=ag->b.iK n=ag->Rep All H x a->Rep All H y b->RelV x u->RelV y v->
  RcAt A s u v (eqD a b)/\tj A s u v (!eqD a b)/\EqAt A s u v (eqD a b):=by
 intro n;induction n with
 |zero=>exact λA=>λ_ ha hb rx ry ru rv=>JG ha hb rx ry ru rv
 |succ n ih=>
  intro A x y a b u v hu ha hb rx ry ru rv;have hu0:A.units<c9:=by lia
  have hu1:A.in1.units+n<c9:=by show A.units+1+n<c9;lia
  have itm:∀{xs ys:ae V}{ds es:ae D}{i1 i2:ae am},υ n ds=ag->υ n es=ag->bJ All H xs ds->bJ All H ys es->Vals xs i1->Vals ys i2->∀j (g1:j<i1.toArray.size) (g2:j<i2.toArray.size),EqAt A.in1 s i1.toArray[j] i2.toArray[j] (eqD (ds.getD j .non) (es.getD j .non)):=by
   intro xs ys ds es i1 i2 ha hb r1 r2 vr1 vr2 j g1 g2;have z1:i1.toArray.size=ds.length:=by rw[b6,<-vr1.length,r1.length]
   have z2:i2.toArray.size=es.length:=by rw[b6,<-vr2.length,r2.length]
   obtain⟨v1,w1,rr1⟩:=r1.getD (j:=j) 0x1;obtain⟨v2,w2,rr2⟩:=r2.getD (j:=j) 0x1;obtain⟨u1,k1,l1⟩:=vr1.get w1;obtain⟨u2,k2,l2⟩:=vr2.get w2;have m1:i1.toArray[j]=u1:=by
    rw[dj (by simpa using g1)] at k1;simpa using ft k1
   have m2:i2.toArray[j]=u2:=by
    rw[dj (by simpa using g2)] at k2;simpa using ft k2
   rw[m1,m2];exact(ih A.in1 hu1 (kE ha 0x1) (kE hb 0x1) rr1 rr2 l1 l2).2.2
  cases a with
  |int _=>
   cases b with
   |tup es=>
    cases rx.inv;obtain⟨t1,rfl⟩:=ru;obtain⟨q,ys,rfl,e2,r2⟩:=ry.iD;cases rv;obtain⟨its2,vr2,h2⟩:=j_ I e2;exact⟨RcAt.int_tuple _ _ h2 hu0,RcNeAt.int_tuple _ _ h2 hu0,EqAt.int_tuple _ _ h2 hu0⟩
   |lst es=>
    cases rx.inv;obtain⟨t1,rfl⟩:=ru;obtain⟨q,ys,rfl,e2,r2⟩:=ry.mK (K:=X.K);cases rv;obtain⟨its2,vr2,h2⟩:=mU I e2;exact⟨RcAt.int_list _ _ h2 hu0,RcNeAt.int_list _ _ h2 hu0,EqAt.int_list _ _ h2 hu0⟩
   |_=>first|exact JG rfl rfl rx ry ru rv|exact bd ry Rep.uD|exact fx0 hb
  |str _=>
   cases b with
   |tup es=>
    cases rx.inv;obtain⟨t1,rfl⟩:=ru;obtain⟨q,ys,rfl,e2,r2⟩:=ry.iD;cases rv;obtain⟨its2,vr2,h2⟩:=j_ I e2;exact⟨RcAt.str_tuple _ _ h2 hu0,RcNeAt.str_tuple _ _ h2 hu0,EqAt.str_tuple _ _ h2 hu0⟩
   |lst es=>
    cases rx.inv;obtain⟨t1,rfl⟩:=ru;obtain⟨q,ys,rfl,e2,r2⟩:=ry.mK (K:=X.K);cases rv;obtain⟨its2,vr2,h2⟩:=mU I e2;exact⟨RcAt.str_list _ _ h2 hu0,RcNeAt.str_list _ _ h2 hu0,EqAt.str_list _ _ h2 hu0⟩
   |_=>first|exact JG rfl rfl rx ry ru rv|exact bd ry Rep.uD|exact fx0 hb
  |tup ds=>
   obtain⟨p,xs,rfl,e1,r1⟩:=rx.iD;cases ru;obtain⟨its1,vr1,h1⟩:=j_ I e1;replace ha:υ _ _=ag:=ha;cases b with
   |int _=>cases ry.inv;obtain⟨t2,rfl⟩:=rv;exact⟨RcAt.tuple_int _ _ h1 hu0,RcNeAt.tuple_int _ _ h1 hu0,EqAt.tuple_int _ _ h1 hu0⟩
   |str _=>cases ry.inv;obtain⟨t2,rfl⟩:=rv;exact⟨RcAt.tuple_str _ _ h1 hu0,RcNeAt.tuple_str _ _ h1 hu0,EqAt.tuple_str _ _ h1 hu0⟩
   |tup es=>
    obtain⟨q,ys,rfl,e2,r2⟩:=ry.iD;cases rv;obtain⟨its2,vr2,h2⟩:=j_ I e2;replace hb:υ _ _=ag:=hb;have z1:its1.toArray.size=ds.length:=by rw[b6,<-vr1.length,r1.length]
    have z2:its2.toArray.size=es.length:=by rw[b6,<-vr2.length,r2.length]
    have he:=itm ha hb r1 r2 vr1 vr2;have ee:eqD (.tup ds) (.tup es)=((bj (min its1.toArray.size its2.toArray.size)).all (λj=>eqD (ds.getD j .non) (es.getD j .non))&&its1.toArray.size==its2.toArray.size):=by
     rw[show eqD (.tup _) (.tup _)=nA _ _ from rfl,nC,z1,z2]
    have r0:=RcAt.tuples h1 h2 hu0 he;have r0':=RcNeAt.tuples h1 h2 hu0 he;rw[<-ee] at r0 r0';refine⟨r0,r0',?_⟩;by_cases hpq:p=q
    ·subst hpq;have hab:(ν ds)=(.tup es):=Rep.inj (n+1) ha hb rx ry;rw[<-hab,wY (n+1) (.tup ds) ha];exact AI _
    ·exact AJ hpq r0
   |lst es=>
    obtain⟨q,ys,rfl,e2,r2⟩:=ry.mK (K:=X.K);cases rv;obtain⟨its2,vr2,h2⟩:=mU I e2;exact⟨RcAt.tuple_list h1 h2 hu0,RcNeAt.tuple_list h1 h2 hu0,EqAt.tuple_list h1 h2 hu0⟩
   |_=>first|exact bd ry Rep.uD|exact fx0 hb
  |lst ds=>
   obtain⟨p,xs,rfl,e1,r1⟩:=rx.mK (K:=X.K);cases ru;obtain⟨its1,vr1,h1⟩:=mU I e1;replace ha:υ _ _=ag:=ha;cases b with
   |int _=>cases ry.inv;obtain⟨t2,rfl⟩:=rv;exact⟨RcAt.list_int _ _ h1 hu0,RcNeAt.list_int _ _ h1 hu0,EqAt.list_int _ _ h1 hu0⟩
   |str _=>cases ry.inv;obtain⟨t2,rfl⟩:=rv;exact⟨RcAt.list_str _ _ h1 hu0,RcNeAt.list_str _ _ h1 hu0,EqAt.list_str _ _ h1 hu0⟩
   |tup es=>
    obtain⟨q,ys,rfl,e2,r2⟩:=ry.iD;cases rv;obtain⟨its2,vr2,h2⟩:=j_ I e2;exact⟨RcAt.list_tuple h1 h2 hu0,RcNeAt.list_tuple h1 h2 hu0,EqAt.list_tuple h1 h2 hu0⟩
   |lst es=>
    obtain⟨q,ys,rfl,e2,r2⟩:=ry.mK (K:=X.K);cases rv;obtain⟨its2,vr2,h2⟩:=mU I e2;replace hb:υ _ _=ag:=hb;have z1:its1.toArray.size=ds.length:=by rw[b6,<-vr1.length,r1.length]
    have z2:its2.toArray.size=es.length:=by rw[b6,<-vr2.length,r2.length]
    have he:=itm ha hb r1 r2 vr1 vr2;have r00:RcAt A s (.ref p) (.ref q) (eqD (.lst ds) (.lst es))/\tj A s (.ref p) (.ref q) (!eqD (.lst ds) (.lst es)):=by
     rw[show eqD (.lst _) (.lst _)=nA _ _ from rfl,nC];by_cases hz:ds.length=es.length
     ·have r0:=AK h1 h2 0x1 hu0 he;have r0':=AL h1 h2 0x1 hu0 he;rw[z1] at r0 r0';rw[show min ds.length es.length=ds.length by lia,show(ds.length==es.length)=ag by simpa using hz,kj];exact⟨r0,r0'⟩
     ·have hz':(its1.toArray.size !=its2.toArray.size)=ag:=by rw[z1,z2];simpa using hz
      rw[show(ds.length==es.length)=ak by simpa using hz,xg];exact⟨AM h1 h2 hz' hu0,AN h1 h2 hz' hu0⟩
    obtain⟨r0,r0'⟩:=r00;refine⟨r0,r0',?_⟩;by_cases hpq:p=q
    ·subst hpq;have hab:(ψ ds)=(.lst es):=Rep.inj (n+1) ha hb rx ry;rw[<-hab,wY (n+1) (.lst ds) ha];exact AI _
    ·exact AJ hpq r0
   |_=>first|exact bd ry Rep.uD|exact fx0 hb
  |_=>first|exact bd rx Rep.uD|exact fx0 ha
end
end
open PySem.Spec PyProof.Rows
section
variable [KFrag]
def kR(H:Hp)(d:D)(fr:ax)(Q:VK):Prop:=∀v H',bU H H'->Rep All H' v d->(fr=ag->Rep (New H) H' v d)->Q v H'
noncomputable def gE(f:FE)(fr:ax):TE:=λσ H Q=>∃ρ d,ER H σ ρ/\f ρ=.ok d/\kR H d fr Q
noncomputable def gT(f:FT):TT:=λσ H Q=>∃ρ b,ER H σ ρ/\f ρ=.ok b/\∀H',bU H H'->Q b H'
noncomputable def gA(f:FA)(fr:ax):TA:=λσ H Q=>∃ρ ds,ER H σ ρ/\f ρ=.ok ds/\∀vs H',bU H H'->bJ All H' vs ds->(fr=ag->bJ (New H) H' vs ds)->Q vs H'
theorem kR.self{fr:ax}(q:kR H d fr Q)(r:Rep All H v d)(r2:fr=ag->Rep (New H) H v d):Q v H:=q v H (bU.refl H) r r2
theorem kR.imp{fr fr':ax}(q:kR H d fr Q)(s:bU H H')(h:fr=ag->fr'=ag):kR H' d fr' Q:=λv H2 s2 r n=>q v H2 (s.trans s2) r λhf=>(n (h hf)).mono (bU.new s)
theorem kR.int{fr:ax}{Q:VK}(q:kR H (.int i) fr Q):Q (.int i) H:=q.self (.int i) λ_=>.int i
theorem kR.bl{fr:ax}{Q:VK}(q:kR H (.bl i) fr Q):Q (.bl i) H:=q.self (.bl i) λ_=>.bl i
theorem kR.str{fr:ax}{Q:VK}(q:kR H (.str i) fr Q):Q (.str i) H:=q.self (.str i) λ_=>.str i
theorem kR.non{fr:ax}{Q:VK}(q:kR H .non fr Q):Q .non H:=q.self .non λ_=>.non
noncomputable def r2(f:D->D->Res D)(fr:ax):R2:=λx y H Q=>∃a b d,Rep All H x a/\Rep All H y b/\f a b=.ok d/\kR H d fr Q
def r1(f:D->Res D)(fr:ax):V->Hp->VK->Prop:=λx H Q=>∃a d,Rep All H x a/\f a=.ok d/\kR H d fr Q
def rs(f:ae D->Res D)(fr:ax):ae V->Hp->VK->Prop:=λxs H Q=>∃ds d,bJ All H xs ds/\f ds=.ok d/\kR H d fr Q
def rm(f:D->ae D->Res D)(fr:ax):V->ae V->Hp->VK->Prop:=λx xs H Q=>∃a ds d,Rep All H x a/\bJ All H xs ds/\f a ds=.ok d/\kR H d fr Q
theorem aU{f:α->Res β}(h:(do let x <- m;f x)=.ok b):∃a,m=.ok a/\f a=.ok b:=Res.aG5 h
section
variable {X:Cx} {a b e:Expr} {pos:dq} {fa fb fe:FE} {ra rb re:ax} {ga:FT}
theorem ER.var(E:ER H σ ρ)(h:b8 i ρ=.ok d):∃v,σ[i]?=aa (aa v)/\Rep All H v d/\ρ.getD i .uD=d:=by
 have:ρ.getD i .uD=d/\d≠.uD:=by
  unfold b8 at h;split at h
  ·exact bx h
  ·cases h;refine⟨rfl,λz=>?_⟩;rename_i q;exact q z
 obtain⟨e1,e2⟩:=this;obtain⟨v,h1,h2⟩:=E i (by rw[e1];exact e2);exact⟨v,h1,by rw[e1] at h2;exact h2,e1⟩
theorem aA(hN:X.N[i]?=aa x:=by exact rfl)(hv:Vis X.env.scope x:=by trivial)(hd:autoParam (nDb x) Λ)(hcd:autoParam (nCd x) Λ):PE X (.Name x pos) (gE (b8 i) ak):=
 PE.imp (aV hN hv hd hcd) λσ H Q z0=>by
  obtain⟨ρ,d,E,h,q⟩:=z0;obtain⟨v,h1,h2,_⟩:=E.var h;exact⟨v,h1,q.self h2 (λz=>by cases z)⟩
theorem aD{i j}:PE X (.Constant (.int i) j pos) (gE (bC (.int i)) ag):=PE.imp oY λσ H Q z0=>by obtain⟨ρ,d,E,h,q⟩:=z0;cases h;exact q.int
theorem V_{i j}:PE X (.Constant (.bool i) j pos) (gE (bC (.bl i)) ag):=PE.imp aO1 λσ H Q z0=>by obtain⟨ρ,d,E,h,q⟩:=z0;cases h;exact q.bl
theorem BK{i j}:PE X (.Constant (.str i) j pos) (gE (bC (.str i)) ag):=PE.imp aDw λσ H Q z0=>by obtain⟨ρ,d,E,h,q⟩:=z0;cases h;exact q.str
theorem WD{j}:PE X (.Constant .none j pos) (gE (bC .non) ag):=PE.imp aJf λσ H Q z0=>by obtain⟨ρ,d,E,h,q⟩:=z0;cases h;exact q.non
theorem two{fr:ax}{σ:L2.St}{H:Hp}{Q:VK}(h:gE (b2 f fa fb) fr σ H Q):tOp (r2 f fr) (gE fa ra) (gE fb rb) σ H Q:=by
 obtain⟨ρ,d,E,h,q⟩:=h;obtain⟨x,h1,h⟩:=aU h;obtain⟨y,h2,h⟩:=aU h;refine⟨ρ,x,E,h1,λv H1 s1 rp1 _=>⟨ρ,y,E.same s1,h2,λu H2 s2 rp2 _=>⟨x,y,d,rp1.same s2,rp2,h,q.imp (s1.trans s2) id⟩⟩⟩
theorem aR{o:Operator}{f:D->D->Res D}{fr:ax}(ho:OpR X (eB o) (r2 f fr))(ha:PE X a (gE fa ra))(hb:PE X b (gE fb rb)):PE X (.BinOp a o b pos) (gE (b2 f fa fb) fr):=PE.imp (aFj ho ha hb) λ_ _ _=>two
theorem aK3{o:se}{f:D->D->Res D}{fr:ax}(ho:OpR X (dL o) (r2 f fr))(ha:PE X a (gE fa ra))(hb:PE X b (gE fb rb))(hm:iu o b=ak):PE X (.Compare a [o] [b] pos) (gE (b2 f fa fb) fr):=PE.imp (aFn ho ha hb hm) λ_ _ _=>two
theorem cJ{o:se}{f:D->D->Res D}{fr:ax}(ho:OpR X (dL o) (r2 f fr))(ha:PE X a (gE fa ra))(hb:PE X b (gE fb rb))(hm:iu o b=ak):PT X (.Compare a [o] [b] pos) (gT (bTB (b2 f fa fb))):=
 PT.imp (U6 ho ha hb hm) λσ H Q z0=>by
  obtain⟨ρ,k,E,h,q⟩:=z0;obtain⟨d,h1,h2⟩:=aU h;refine two ⟨ρ,d,E,h1,λv H' s r _=>?_⟩;cases d<;>simp only[asB] at h2<;>cases h2
  cases r.inv;exact⟨_,rfl,q H' s⟩
theorem wZ{f:D->Res D}{fr:ax}(ho:UnR X (sg o) (r1 f fr))(ha:PE X a (gE fa ra)):PE X (.UnaryOp o a pos) (gE (b1 f fa) fr):=
 PE.imp (aFk ho ha) λσ H Q z0=>by
  obtain⟨ρ,d,E,h,q⟩:=z0;obtain⟨x,h1,h⟩:=aU h;exact⟨ρ,x,E,h1,λv H1 s1 rp1 _=>⟨x,d,rp1,h,q.imp s1 id⟩⟩
theorem aOi{f:D->D->Res D}{fr:ax}(ho:IxR X (r2 f fr))(ha:PE X a (gE fa ra))(hb:PE X b (gE fb rb))(hs:wU b):PE X (.Subscript a b pos) (gE (b2 f fa fb) fr):=PE.imp (VF ho ha hb hs) λ_ _ _=>two
theorem aRn(r:Rep All H v d)(h:aQk d=.ok k)(hd:∀kvs,d≠.dct kvs)(hs:∀xs,d≠.scr xs):aNj X.K v H k:=by
 cases r with
 |non=>cases h;rfl
 |bl b=>cases h;rfl
 |int i=>cases h;rfl
 |str x=>
  replace h:(if ϒ (x.length<=lim) then τ ((x.length:ai)!=0) else .bad)=.ok k:=h;split at h
  ·rename_i hl;cases h;exact⟨c_ (eg hl) (by rw[dg];decide),rfl⟩
  ·exact bx h
 |tup e rr=>cases h;exact .inr (.inl ⟨_,.of e,by cases rr<;>rfl⟩)
 |lst e p rr=>cases h;exact .inl ⟨_,.of e,by cases rr<;>rfl⟩
 |frz e rr=>exact bd rfl (hs _)
 |dK e p rr n=>exact bd rfl (hd _)
 |dT e p rr n=>exact bd rfl (hd _)
 |exc n e q=>exact bx h
 |ins n e q=>exact bx h
 |cel e p rr=>exact bx h
theorem vM(ha:PE X a (gE fa ra))(he:∀whole,rX a X.env whole=(do let v <- whole;v8 a.pos;jv [v] (truthy v)):=by intro _;rfl):PT X a (gT (bTr fa)):=
 PT.imp (LC ha he) λσ H Q z0=>by
  obtain⟨ρ,k,E,h,q⟩:=z0;obtain⟨d,h1,h2⟩:=aU h;refine⟨ρ,d,E,h1,λv H' s r _=>⟨k,aRn r ?_ ?_ ?_,q H' s⟩⟩
  ·cases d<;>first|exact h2|exact bx h2
  ·rintro kvs rfl;exact bx h2
  ·rintro kvs rfl;exact bx h2
theorem WF(ha:PT X a (gT ga)):PT X (.UnaryOp .Not a pos) (gT (aJ3 ga)):=PT.imp (aJi ha) λσ H Q z0=>by
  obtain⟨ρ,k,E,h,q⟩:=z0;obtain⟨d,h1,h2⟩:=aU h;cases h2;exact⟨ρ,d,E,h1,λH' s=>q H' s⟩
theorem aK4(h:asB d=.ok k):d=.bl k:=by cases d<;>simp only[asB] at h<;>cases h;rfl
theorem aK5(h:asI d=.ok k):d=.int k:=by cases d<;>simp only[asI] at h<;>cases h;rfl
theorem aM:PA X [] (gA aY ag):=PA.imp dM λσ H Q z0=>by obtain⟨ρ,ds,E,h,q⟩:=z0;cases h;exact q [] H (bU.refl H) .nil λ_=>.nil
theorem aB(he:PE X e (gE fe re))(hes:PA X es (gA f r))(hs:autoParam (zSE X e es) Ω):PA X (e::es) (gA (aF fe f) (re&&r)):=PA.imp (bH he hes hs) λσ H Q z0=>by
  obtain⟨ρ,ds,E,h,q⟩:=z0;obtain⟨x,h1,h⟩:=aU h;obtain⟨xs,h2,h⟩:=aU h;cases h;refine⟨ρ,x,E,h1,λv H1 s1 r1 n1=>⟨ρ,xs,E.same s1,h2,λvs H2 s2 r2 n2=>q _ _ (s1.trans s2) (.cons (r1.same s2) r2) λhf=>?_⟩⟩;obtain⟨f1,f2⟩:=(aS _ _▸hf:re=ag/\r=ag)
  exact .cons ((n1 f1).same s2) ((n2 f2).mono (bU.new s1))
theorem dD{x1}(h:PA X es (gA f r)):PE X (.Tuple es x1 pos) (gE (jB f) r):=PE.imp (aE2 h) λσ H Q z0=>by
  obtain⟨ρ,d,E,h,q⟩:=z0;obtain⟨xs,h1,h⟩:=aU h;split at h
  ·rename_i hl;cases h;refine⟨ρ,xs,E,h1,λvs H1 s1 r1 n1=>⟨?_,λp hp=>?_⟩⟩
   ·rw[r1.length];exact c_ (eg hl) (by rw[dg];decide)
   ·have sp:bU H1 (upd H1 p (.tup vs)):=bU.upd hp;exact q _ _ (s1.trans sp) (.tup aK (r1.same sp)) λhf=>.tup aK ((n1 hf).same sp)
  ·exact bx h
theorem cL(h:PA X es (gA f r)):PE X (.List es pos) (gE (jJ f) r):=PE.imp (LQ h) λσ H Q z0=>by
  obtain⟨ρ,d,E,h,q⟩:=z0;obtain⟨xs,h1,h⟩:=aU h;split at h
  ·rename_i hl;cases h;refine⟨ρ,xs,E,h1,λvs H1 s1 r1 n1=>⟨?_,λp hp=>?_⟩⟩
   ·rw[r1.length];exact c_ (eg hl) (by rw[dg];decide)
   ·have sp:bU H1 (upd H1 p (.lst vs)):=bU.upd hp;exact q _ _ (s1.trans sp) (.lst aK trivial (r1.same sp)) λhf=>.lst aK (s1.free hp) ((n1 hf).same sp)
  ·exact bx h
theorem M8:PE X (.Dict [] [] pos) (gE (bC (.dct [])) ag):=PE.imp MN λσ H Q z0=>by
  obtain⟨ρ,d,E,h,q⟩:=z0;cases h;exact λp hp=>q _ _ (bU.upd hp) (.dK aK trivial .nil gp) λ_=>.dK aK hp .nil gp
end
section
variable {a b e:Expr}
theorem jK(h:ϒ (n<=lim)=ag):n<=bo:=c_ (eg h) (by rw[dg];decide)
theorem WK(h:ϒ (n<lim)=ag):n<bo:=dy (eg h) (by rw[dg];decide)
theorem Rep.aK6(r:Rep P H v (.lst ds)):∃a xs,v=.ref a/\Rd H a (.lst xs)/\bJ P H xs ds:=by
 cases r with
 |lst e p rr=>exact⟨_,_,rfl,.inl e,rr⟩
theorem PW.imp(h:PW X e t)(i:∀σ H Q,t' σ H Q->t σ H Q):PW X e t':=λwh Ψ s σ H Q I q=>h wh Ψ s σ H Q I (i σ H Q q)
theorem xF(ha:PT X a (gT ga)):PW X (.BoolOp .And [a] pos) (gT ga):=UL ha
theorem BL(ha:PT X a (gT ga)):PW X (.BoolOp .Or [a] pos) (gT ga):=aJh ha
theorem M9{rest:ae Expr}(ha:PT X a (gT ga))(hb:PW X (.BoolOp .And (b::rest) pos) (gT gb)):PW X (.BoolOp .And (a::b::rest) pos) (gT (aAz ga gb)):=PW.imp (aE0 ha hb) λσ H Q z0=>by
 obtain⟨ρ,k,E,h,q⟩:=z0;obtain⟨z,h1,h3⟩:=aU h;refine⟨ρ,z,E,h1,λH' s=>?_⟩;cases z with
 |true=>rw[aq rfl];rw[aq rfl] at h3;exact⟨ρ,k,E.same s,h3,λH2 s2=>q H2 (s.trans s2)⟩
 |false=>rw[aw 0x2];rw[aw 0x2] at h3;cases h3;exact q H' s
theorem JH{rest:ae Expr}(ha:PT X a (gT ga))(hb:PW X (.BoolOp .Or (b::rest) pos) (gT gb)):PW X (.BoolOp .Or (a::b::rest) pos) (gT (bOr ga gb)):=PW.imp (aO6 ha hb) λσ H Q z0=>by
 obtain⟨ρ,k,E,h,q⟩:=z0;obtain⟨z,h1,h3⟩:=aU h;refine⟨ρ,z,E,h1,λH' s=>?_⟩;cases z with
 |true=>rw[aq rfl];rw[aq rfl] at h3;cases h3;exact q H' s
 |false=>rw[aw 0x2];rw[aw 0x2] at h3;exact⟨ρ,k,E.same s,h3,λH2 s2=>q H2 (s.trans s2)⟩
theorem bN:OpR X (eB .Add) (r2 (bG .add) ag):=by
 intro Ψ s σ H x y v u Q I rx ry h;obtain⟨a,b,d,p,q,e,k⟩:=h;cases p with
 |int i=>
  cases q with
  |int j=>cases e;exact aJl Ψ s σ H _ _ v u Q I rx ry ⟨i,j,rfl,rfl,k.int⟩
  |_=>exact bx e
 |str i=>
  cases q with
  |str j=>
   replace e:(if ϒ (i.length+j.length<=lim) then τ (π (i++j)) else .bad)=.ok d:=e;split at e
   ·rename_i hl;cases e;exact RD Ψ s σ H _ _ v u Q I rx ry ⟨i,j,rfl,rfl,jK hl,k.str⟩
   ·exact bx e
  |_=>exact bx e
 |non=>exact bx e
 |bl _=>exact bx e
 |tup _ _=>exact bx e
 |dK _ _ _ _=>exact bx e
 |dT _ _ _ _=>exact bx e
 |exc _ _ _=>exact bx e
 |ins _ _ _=>exact bx e
 |cel _ _ _=>exact bx e
 |@lst a1 xs ds e1 p1 r1=>
  have hR:Rep All H (.ref a1) (.lst ds):=.lst e1 p1 r1;cases b with
  |lst es=>
   replace e:(if ϒ (ds.length+es.length<=lim)&&ε ds&&ε es then τ (ψ (ds++es)) else .bad)=.ok d:=e;split at e
   ·rename_i hl;cases e;rw[aS,aS] at hl;obtain⟨⟨hl,hp1⟩,hp2⟩:=hl;obtain⟨l1,xs1,e1',rd1,rr1⟩:=hR.aK6;obtain⟨l2,xs2,rfl,rd2,rr2⟩:=q.aK6;cases e1';cases rx;cases ry;obtain⟨z,its,n,vr1,ee1⟩:=rd1.ok I.hok;obtain⟨z2,its2,n2,vr2,ee2⟩:=rd2.ok I.hok;have hz:xs1.length+xs2.length<=bo:=by rw[rr1.length,rr2.length];exact jK hl
    have t1:=vr1.length;have t2:=vr2.length;refine PySem.P.add_list ee1 ee2 ?_ (by rw[b6,b6];lia);have ea:its.toArray++its2.toArray=(its++its2).toArray:=by simp
    rw[ea];refine⟨.ref _,_,I.aRi (vr1.append vr2) (by rw[aT];lia),rfl,?_⟩;have sp:bU H (upd H s.heap.objs.size (.lst (xs1++xs2))):=bU.upd I.fresh;exact k _ _ sp (.lst aK trivial ((rr1.append rr2).same sp)) λ_=>.lst aK I.fresh (((rr1.bL hp1).append (rr2.bL hp2)).same sp)
   ·exact bx e
  |_=>exact bx e
 |frz _ _=>exact bx e
theorem JK(h:OpR X f (rI C g))
 (hi:∀i j d,op (.int i) (.int j)=.ok d->C i j/\∃k,d=.int k/\g i j=.int k)(hn:∀a b d,op a b=.ok d->(∃i,a=.int i)/\∃j,b=.int j):OpR X f (r2 op ag):=by
 rintro Ψ s σ H x y v u Q I rx ry ⟨a,b,d,p,q,e,k⟩;obtain⟨⟨i,rfl⟩,⟨j,rfl⟩⟩:=hn a b d e;cases p.inv;cases q.inv;obtain⟨hc,m,rfl,hm⟩:=hi i j d e;exact h Ψ s σ H _ _ v u Q I rx ry ⟨i,j,rfl,rfl,hc,by rw[hm];exact k.int⟩
theorem sO(ho:o≠.add){a b d:D}(e:bG o a b=.ok d):(∃i,a=.int i)/\∃j,b=.int j:=by
 cases a with
 |int i=>
  cases b with
  |int j=>exact⟨⟨i,rfl⟩,j,rfl⟩
  |_=>cases o<;>first|exact bx e|exact bd rfl ho
 |_=>cases o<;>first|exact bx e|exact bd rfl ho
theorem rP:OpR X (eB .Sub) (r2 (bG .sub) ag):=by
 rintro Ψ s σ H x y v u Q I rx ry ⟨a,b,d,p,q,e,k⟩;obtain⟨⟨i,rfl⟩,j,rfl⟩:=sO 0x4 e;cases p.inv;cases q.inv;cases e;exact aJm Ψ s σ H _ _ v u Q I rx ry ⟨_,_,rfl,rfl,k.int⟩
theorem aK7:OpR X (eB .Mult) (r2 (bG .mul) ag):=by
 refine JK aJn (λi j d e=>?_) λa b d e=>sO 0x4 e
 ·replace e:(if gQ i||gQ j then τ (ι (i*j)) else .bad)=.ok d:=e;split at e
  ·rename_i hl;cases e;refine⟨?_,_,rfl,rfl⟩;simp only[gQ,iS,aS,cv] at hl;exact hl
  ·exact bx e
theorem dU:OpR X (eB .FloorDiv) (r2 (bG .fdiv) ag):=by
 refine JK aFl (λi j d e=>?_) λa b d e=>sO 0x4 e
 ·replace e:(if ϒ (0<j)&&ϒ (j<1073741824) then τ (ι (i / j)) else .bad)=.ok d:=e;split at e
  ·rename_i hl;cases e;refine⟨?_,_,rfl,rfl⟩;simp only[aS,cv] at hl;exact hl
  ·exact bx e
theorem b_:OpR X (eB .Mod) (r2 (bG .mod) ag):=by
 refine JK aJo (λi j d e=>?_) λa b d e=>sO 0x4 e
 ·replace e:(if ϒ (0<j) then τ (ι (i % j)) else .bad)=.ok d:=e;split at e
  ·rename_i hl;cases e;refine⟨?_,_,rfl,rfl⟩;simp only[aS,cv] at hl;exact hl
  ·exact bx e
theorem qF:UnR X (sg .USub) (r1 IK ag):=by
 rintro Ψ s σ H x v Q I rx ⟨a,d,p,e,k⟩;cases a<;>try exact bx e
 cases e;cases p.inv;exact U4 Ψ s σ H _ v Q I rx ⟨_,rfl,k.int⟩
theorem oJ(hu:X.A.units+20<c9):OpR X (dL .Eq) (r2 (lG .eq) ag):=by
 rintro Ψ s σ H x y v u Q I rx ry ⟨a,b,d,p,q,e,k⟩;replace e:(if a.iK bB&&b.iK bB then τ (χ (eqD a b)) else .bad)=.ok d:=e;split at e
 ·rename_i hl;cases e;rw[aS] at hl;exact(M7 I bB X.A (by have:bB=12:=rfl;lia) hl.1 hl.2 p q rx ry).1 X.prog X.w X.xe _ ⟨.bl _,H,I,rfl,k.bl⟩
 ·exact bx e
theorem aGa(hu:X.A.units+20<c9):OpR X (dL .NotEq) (r2 (lG .ne) ag):=by
 rintro Ψ s σ H x y v u Q I rx ry ⟨a,b,d,p,q,e,k⟩;replace e:(if a.iK bB&&b.iK bB then τ (χ (!eqD a b)) else .bad)=.ok d:=e;split at e
 ·rename_i hl;cases e;rw[aS] at hl;exact(M7 I bB X.A (by have:bB=12:=rfl;lia) hl.1 hl.2 p q rx ry).2.1 X.prog X.w X.xe _ ⟨.bl _,H,I,rfl,k.bl⟩
 ·exact bx e
theorem aGb:OpR X (dL .IsNot) (r2 (lG .notN) ag):=by
 rintro Ψ s σ H x y v u Q I rx ry ⟨a,b,d,p,q,e,k⟩;have hb:b=.non:=by
  clear p q k;cases b with
  |non=>rfl
  |_=>exact bx e
 subst hb;cases q.inv;refine aFm Ψ s σ H x .non v u Q I rx ry ⟨rfl,?_⟩;by_cases hx:x=.non
 ·subst hx;cases p;cases e;exact k.bl
 ·obtain rfl:d=.bl ag:=by
   clear k;cases a<;>first|exact bx e|(cases e;rfl)|(cases p;exact bd rfl hx)
  have:=k.bl;simpa[hx] using this
end
end
variable [KFrag]
theorem WL(k q:Key):eqD (kD k) (kD q)=ϒ (k=q):=by
 cases k<;>cases q<;>simp[kD,aJv,aJw,aJx,aJy,zw]
theorem aE7:∀(k q:ae Key),nA (k.map kD) (q.map kD)=ϒ (k=q)
 |[],[]=>by simp[nA]
 |[],_::_=>by simp[nA]
 |_::_,[]=>by simp[nA]
 |a::k,b::q=>by
  rw[aI,aI,nA,WL,aE7 k q];by_cases h:a=b<;>by_cases h':k=q<;>simp[h,h']
theorem aGc(k q:ae Key):eqD (.tup (k.map kD)) (.tup (q.map kD))=ϒ (k=q):=by rw[aJz,aE7]
theorem aGd:∀{kvs:ae (Key×V)}{ds:ae (D×D)},fV P H kvs ds->(∃v d,vL kvs k=aa v/\cN ds (kD k)=aa d/\Rep P H v d)\/(vL kvs k=aj/\cN ds (kD k)=aj)
 |_,_,.nil=>.inr ⟨rfl,rfl⟩
 |_,_,.cons (k:=k') r t=>by
  by_cases h:k'=k
  ·subst h;exact .inl ⟨_,_,o9 rfl,by rw[cN,WL,aq 0x2],r⟩
  ·rw[cN,WL,aw (by simpa using h),o_ h];exact aGd t
theorem aGe:∀{kvs:ae (ae Key×V)}{ds:ae (D×D)},mO P H kvs ds->(∃v d,vL kvs k=aa v/\cN ds (.tup (k.map kD))=aa d/\Rep P H v d)\/(vL kvs k=aj/\cN ds (.tup (k.map kD))=aj)
 |_,_,.nil=>.inr ⟨rfl,rfl⟩
 |_,_,.cons (k:=k') r t=>by
  by_cases h:k'=k
  ·subst h;exact .inl ⟨_,_,o9 rfl,by rw[cN,aGc,aq 0x2],r⟩
  ·rw[cN,aGc,aw (by simpa using h),o_ h];exact aGe t
theorem xG(h:gD d=ag)(r:Rep All H v d):∃k,v=kV k/\d=kD k:=by
 cases r<;>simp[gD] at h
 ·exact⟨.inl _,rfl,rfl⟩
 ·exact⟨.inr _,rfl,rfl⟩
theorem flat_keys:∀{vs:ae V}{ds:ae D},ds.all gD=ag->bJ All H vs ds->∃ks:ae Key,vs=ks.map kV/\ds=ks.map kD:=by
 intro vs ds h a;induction ds generalizing vs with
 |nil=>cases a;exact⟨[],rfl,rfl⟩
 |cons d ds ih=>
  rcases a with _|⟨r,t⟩;rw[ig,aS] at h;obtain⟨k,rfl,rfl⟩:=xG h.1 r;obtain⟨ks,rfl,rfl⟩:=ih h.2 t;exact⟨k::ks,rfl,rfl⟩
theorem iV(h:keyOk k=ag)(r:Rep All H y k):(∃q,y=kV q/\k=kD q)\/∃(b:al)(ks:ae Key),y=.ref b/\H b=aa (.tup (ks.map kV))/\k=.tup (ks.map kD):=by
 cases k<;>simp[keyOk] at h
 ·exact .inl (xG rfl r)
 ·exact .inl (xG rfl r)
 ·obtain⟨a,xs,rfl,e,rr⟩:=r.iD;obtain⟨ks,rfl,rfl⟩:=flat_keys (gq.mpr h) rr;exact .inr ⟨a,ks,rfl,e,rfl⟩
theorem nD(k:Key):isTup (kD k)=ak:=by cases k<;>rfl
section
variable {a:al}
theorem xH(e:H a=aa o):upd (upd H a o') a o=H:=by
 rw[HJ]
 funext b
 by_cases h:b=a
 ·subst h;rw[aK,e]
 ·rw[aP h]
theorem nG(I:Inv X Ψ σ H s)(e:H a=aa (.dK [])):Inv X Ψ σ (upd H a (.dT [])) s:=by
 obtain⟨z,hd,vs,rel,o,es,ep,h1,h2,h3,h4,h5,h6⟩:=RX I.hok e;cases rel;refine I.write (by rw[e];trivial) (.inl rfl) (λ_ _ _ q=>q) ⟨o,h1⟩ ?_;refine⟨d6 _,hd,[],.nil,o,es,ep,h1,h2,h3,?_,gp⟩;cases h5':es.toList with
 |nil=>rfl
 |cons _ _=>rw[h5'] at h5;cases h5
theorem kI(I:Inv X Ψ σ H s)(e:H a=aa (.dT [])):Inv X Ψ σ (upd H a (.dK [])) s:=by
 obtain⟨z,hd,vs,rel,o,es,ep,h1,h2,h3,h4,h5,h6⟩:=aG2 I.hok e;cases rel;refine I.write (by rw[e];trivial) (.inl rfl) (λ_ _ _ q=>q) ⟨o,h1⟩ ?_;have h0:es.toList=[]:=h4;refine⟨d6 _,hd,[],.nil,o,es,ep,h1,h2,h3,?_,?_,gp⟩
 ·intro x hx;have:x∈es.toList:=by simpa using hx
  rw[h0] at this;cases this
 ·rw[h0];exact .nil
theorem M_:∀{kvs:ae (Key×V)}{ds:ae (D×D)},fV P H kvs ds->∀p∈ds,isTup p.1=ak
 |_,_,.nil,_,h=>by cases h
 |_,_,.cons r t,p,h=>by
  rcases cj.mp h with rfl|h
  ·exact nD _
  ·exact M_ t p h
theorem NB:∀{kvs:ae (ae Key×V)}{ds:ae (D×D)},mO P H kvs ds->∀p∈ds,isTup p.1=ag
 |_,_,.nil,_,h=>by cases h
 |_,_,.cons r t,p,h=>by
  rcases cj.mp h with rfl|h
  ·rfl
  ·exact NB t p h
theorem aK8(I:Inv X Ψ σ H s)(rd:Rep All H x (.dct ds))(rk:Rep All H y k)(hk:sJ ds k=ag) :
  ∃H1 a o,x=.ref a/\Inv X Ψ σ H1 s/\(∀s',Inv X Ψ σ H1 s'->Inv X Ψ σ H s')/\aAy H1 a y o/\((o=aj/\cN ds k=aj)\/∃v d,o=aa v/\cN ds k=aa d/\Rep All H v d):=by
 unfold sJ at hk;rw[aS] at hk;obtain⟨h1,h2⟩:=hk;cases rd with
 |@dK a kvs ds e _ r n=>
  rcases iV h1 rk with ⟨q,rfl,rfl⟩|⟨b,ks,rfl,eb,rfl⟩
  ·refine⟨H,a,_,rfl,I,λ_ h=>h,.k e,?_⟩;rcases aGd r with ⟨v,d,g1,g2,g3⟩|⟨g1,g2⟩
   ·exact .inr ⟨v,d,g1,g2,g3⟩
   ·exact .inl ⟨g1,g2⟩
  ·cases r with
   |nil=>
    have e2:=xH (o':=.dT []) e;refine⟨upd H a (.dT []),a,aj,rfl,nG I e,λs' I'=>?_,.t (k:=ks) aK (by rw[aP (nJ eb e 0x7)];exact eb),.inl ⟨rfl,rfl⟩⟩;have:=kI I' aK;rwa [e2] at this
   |cons r t=>
    rw[ig,nD] at h2;simp[isTup] at h2
 |@dT a kvs ds e _ r n=>
  rcases iV h1 rk with ⟨q,rfl,rfl⟩|⟨b,ks,rfl,eb,rfl⟩
  ·cases r with
   |nil=>
    have e2:=xH (o':=.dK []) e;refine⟨upd H a (.dK []),a,aj,rfl,kI I e,λs' I'=>?_,.k (k:=q) aK,.inl ⟨rfl,rfl⟩⟩;have:=nG I' aK;rwa [e2] at this
   |cons r t=>
    rw[ig,nD] at h2;simp[isTup] at h2
  ·refine⟨H,a,_,rfl,I,λ_ h=>h,.t e eb,?_⟩;rcases aGe (k:=ks) r with ⟨v,d,g1,g2,g3⟩|⟨g1,g2⟩
   ·exact .inr ⟨v,d,g1,g2,g3⟩
   ·exact .inl ⟨g1,g2⟩
theorem aBr(rd:Rep All H x (.dct ds))(hk:keyOk k=ag)(h:cN ds k=aa d):sJ ds k=ag:=by
 have one:∀{ds:ae (D×D)},cN ds k=aa d->∃p∈ds,eqD p.1 k=ag:=by
  intro ds;induction ds with
  |nil=>intro h;cases h
  |cons p ds ih=>
   intro h;obtain⟨p1,p2⟩:=p;rw[cN] at h;by_cases hq:eqD p1 k=ag
   ·exact⟨_,de ..,hq⟩
   ·rw[aw hq] at h;obtain⟨p,hp,e⟩:=ih h;exact⟨p,c8 _ hp,e⟩
 obtain⟨p,hp,he⟩:=one h;unfold sJ;rw[hk,mw,gq];intro q hq;have same:isTup p.1=isTup k:=by
  obtain⟨p1,p2⟩:=p;cases k with
  |int _=>cases p1<;>first|rfl|exact fx0 he
  |str _=>cases p1<;>first|rfl|exact fx0 he
  |tup _=>cases p1<;>first|rfl|exact fx0 he
  |_=>exact fx0 hk
 cases rd with
 |dK e _ r n=>rw[M_ r q hq,<-same,M_ r p hp];rfl
 |dT e _ r n=>rw[NB r q hq,<-same,NB r p hp];rfl
end
section
variable {X:Cx} {a b c e:Expr} {pos:dq} {fa fb:FE} {ra rb:ax}
def R5(H:Hp)(u:am):D:=by
 classical
 exact if h:∃d,d.iK bB=ag/\∃v,RelV v u/\Rep All H v d then C1 h else .non
theorem xJ(hq:d.iK bB=ag)(rv:RelV v u)(r:Rep All H v d):R5 H u=d:=by
 unfold R5;have h:∃d,d.iK bB=ag/\∃v,RelV v u/\Rep All H v d:=⟨d,hq,v,rv,r⟩
 rw[tw h];obtain⟨h2,v',rv',r'⟩:=C3 h;have:=rv'.inj rv;subst this;exact Rep.inj bB h2 hq r' r
theorem JL{a:D}:∀{xs:ae V}{ds:ae D}{its:ae am},υ bB ds=ag->bJ All H xs ds->Vals xs its->(its.any λu=>eqD (R5 H u) a)=ds.any λy=>eqD y a:=by
 intro xs ds its;induction ds generalizing xs its with
 |nil=>intro h c b;cases c;cases b;exact rfl
 |cons d ds ih=>
  intro h c b;rcases c with _|⟨r,t⟩;rcases b with _|⟨v,vt⟩
  rw[υ,aS] at h;rw[ke,ke,xJ h.1 v r,ih h.2 t vt]
theorem JM{s:au}(I:Inv X Ψ σ H s)(hu:X.A.units+20<c9){a:D}{x:V}{v:am}(ha:a.iK bB=ag)(rx:Rep All H x a)(rv:RelV x v)
 {xs:ae V}{ds:ae D}{its:ae am}(h:υ bB ds=ag)(r:bJ All H xs ds)(vr:Vals xs its)(u:am)(hm:u∈its):EqAt X.A.in1 s u v (eqD (R5 H u) a):=by
 obtain⟨j,hj,e⟩:=List.getElem_of_mem hm;have hj':j<ds.length:=by rw[<-r.length,vr.length];exact hj
 obtain⟨w,h1,h2⟩:=r.get (i:=j) (d:=ds[j]) (by simp[hj']);obtain⟨u',h3,h4⟩:=vr.get h1;rw[dj hj,e] at h3;cases h3;have hd:ds[j].iK bB=ag:=by
  have:=kE h hj';rwa [b9,dj hj'] at this
 rw[xJ hd h4 h2];exact(M7 I bB X.A.in1 (by show X.A.units+1+12<c9;lia) hd ha h2 rx h4 rv).2.2
theorem aOj(hu:X.A.units+20<c9):OpR X (dL .In) (r2 (lG .isin) ag):=by
 rintro Ψ s σ H x y v u Q I rx ry ⟨a,b,d,p,q,e,k⟩;cases b with
 |tup ys=>
  replace e:(if a.iK bB&&υ bB ys then τ (χ (ys.any λy=>eqD y a)) else .bad)=.ok d:=e;split at e
  ·rename_i hl;cases e;rw[aS] at hl;obtain⟨l,xs,rfl,ee,rr⟩:=q.iD;cases ry;obtain⟨its,vr,pl⟩:=j_ I ee;refine in_tupleAt (λu=>eqD (R5 H u) a) pl (λw hw=>JM I hu hl.1 p rx hl.2 rr vr w (by simpa using hw)) ⟨.bl _,H,I,rfl,?_⟩;rw[show its.toArray.any (λu=>eqD (R5 H u) a)=its.any (λu=>eqD (R5 H u) a) by simp,JL hl.2 rr vr];exact k.bl
  ·cases e
 |lst ys=>
  replace e:(if a.iK bB&&υ bB ys then τ (χ (ys.any λy=>eqD y a)) else .bad)=.ok d:=e;split at e
  ·rename_i hl;cases e;rw[aS] at hl;obtain⟨l,xs,rfl,ee,rr⟩:=q.mK;cases ry;obtain⟨its,vr,pl⟩:=mU I ee;refine in_listAt (λu=>eqD (R5 H u) a) pl (λw hw=>JM I hu hl.1 p rx hl.2 rr vr w (by simpa using hw)) ⟨.bl _,H,I,rfl,?_⟩;rw[show its.toArray.any (λu=>eqD (R5 H u) a)=its.any (λu=>eqD (R5 H u) a) by simp,JL hl.2 rr vr];exact k.bl
  ·cases e
 |dct kvs=>
  replace e:(if sJ kvs a then τ (χ ((cN kvs a).isSome)) else .bad)=.ok d:=e;split at e
  ·rename_i hl;cases e;obtain⟨H1,a1,o,rfl,I1,bk,g,hc⟩:=aK8 I q p hl;cases ry;refine aRj 0x1 I1 g rx λs' I'=>⟨.bl _,H,bk s' I',rfl,?_⟩
   rcases hc with ⟨rfl,h2⟩|⟨w,dd,rfl,h2,_⟩
   ·rw[h2] at k;exact k.bl
   ·rw[h2] at k;exact k.bl
  ·cases e
 |_=>exact bx e
theorem aK9(xs:ae α)(i:ai):L2.atI xs i=(ixD xs.length i).bind λj=>xs[j]?:=rfl
theorem bJ.atI(r:bJ P H xs ds)(h:((ixD ds.length i).bind λj=>ds[j]?)=aa d):∃v,L2.atI xs i=aa v/\Rep P H v d:=by
 rw[aK9,r.length];cases hi:ixD ds.length i with
 |none=>rw[hi] at h;cases h
 |some j=>
  rw[hi] at h;obtain⟨v,h1,h2⟩:=r.get h;exact⟨v,h1,h2⟩
theorem BP{a:al}{y v':V}{u:am}{Q:VK}(hu:X.A.units+20<c9)(I:Inv X Ψ σ H s)(g:aAy H a y (aa v'))(ry:RelV y u){H':Hp}
 (hs:sL slice ak (.ref a) u=wy [.ref a,u] (ja (.ref a) u))(bk:∀s',Inv X Ψ σ H s'->Inv X Ψ σ H' s')(q:Q v' H') :
  ϑ (ay X.prog X.w) X.A (sK value slice (.ref a) u) (EP X Ψ σ Q) X.xe s:=by
 have hT:=HY I g;unfold sK;refine ao ?_;rw[getitemInPython_of_ne hT.not_modules];refine ao (lh hT PySem.F.slot_dict_getitem.lookup ?_);have fin:ϑ (ay X.prog X.w) X.A (sL slice ak (.ref a) u) (λr s₃=>ϑ (ay X.prog X.w) X.A (letTemporaryGo value (.ref a) r >>= λ_=>pure r) (EP X Ψ σ Q) X.xe s₃) X.xe s:=by
  rw[hs];exact wpAny_operating (VJ 0x1 I g ry λw' s3 I3 rw'=>ao (wpAny_letTemporaryGo (aE ⟨v',H',bk s3 I3,rw',q⟩)))
 first
  |exact aE (ao fin)
  |exact ao (aE (ao fin))
  |exact ao fin
theorem NK:∀{ds:ae (D×D)},keyOk k=ag->cN ds k=aa d->∃p∈ds,isTup p.1=isTup k
 |[],_,h=>by cases h
 | (p1,p2)::ds,hk,h=>by
  rw[cN] at h;by_cases hq:eqD p1 k=ag
  ·refine⟨_,de ..,?_⟩;cases k with
   |int _=>cases p1<;>first|rfl|exact fx0 hq
   |str _=>cases p1<;>first|rfl|exact fx0 hq
   |tup _=>cases p1<;>first|rfl|exact fx0 hq
   |_=>exact fx0 hk
  ·rw[aw hq] at h;obtain⟨p,hp,e⟩:=NK hk h;exact⟨p,c8 _ hp,e⟩
theorem aKa(hK:KFrag.K=X.K)(hu:X.A.units+20<c9):IxR X (r2 getD ak):=by
 rintro value slice Ψ s σ H x y v u Q I rx ry ⟨a,b,d,p,q,e,k⟩ hs;cases a with
 |tup ys=>
  obtain⟨i,rfl⟩:∃i,b=.int i:=by cases b<;>first|exact bx e|exact⟨_,rfl⟩
  have e':=Res.lN e;obtain⟨l,xs,rfl,ee,rr⟩:=p.iD;cases q;obtain⟨w,h1,h2⟩:=rr.atI e';exact aJs value slice Ψ s σ H _ _ v u Q I rx ry ⟨l,xs,_,w,rfl,rfl,.of ee,h1,k.self h2 λz=>by cases z⟩ hs
 |lst ys=>
  obtain⟨i,rfl⟩:∃i,b=.int i:=by cases b<;>first|exact bx e|exact⟨_,rfl⟩
  have e':=Res.lN e;obtain⟨l,xs,rfl,ee,rr⟩:=p.mK;cases q;obtain⟨w,h1,h2⟩:=rr.atI e';exact qO value slice Ψ s σ H _ _ v u Q I rx ry ⟨l,xs,_,w,rfl,rfl,ee,h1,k.self h2 λz=>by cases z⟩ hs
 |cel ca ys=>
  obtain⟨i,rfl⟩:∃i,b=.int i:=by cases b<;>first|exact bx e|exact⟨_,rfl⟩
  have e':=Res.lN e;obtain⟨_,rfl,ee,pp,rr⟩:=p.inv;cases q;obtain⟨w,h1,h2⟩:=rr.atI e';exact qO value slice Ψ s σ H _ _ v u Q I rx ry ⟨_,_,_,w,rfl,rfl,.inl (.inl ee),h1,k.self h2 λz=>by cases z⟩ hs
 |scr ys=>
  obtain⟨i,rfl⟩:∃i,b=.int i:=by cases b<;>first|exact bx e|exact⟨_,rfl⟩
  have e':=Res.lN e;obtain⟨_,_,rfl,ee,rr⟩:=p.inv;cases q;obtain⟨w,h1,h2⟩:=rr.atI e';exact qO value slice Ψ s σ H _ _ v u Q I rx ry ⟨_,_,_,w,rfl,rfl,ee.sq hK,h1,k.self h2 λz=>by cases z⟩ hs
 |str z=>
  obtain⟨i,rfl⟩:∃i,b=.int i:=by cases b<;>first|exact bx e|exact⟨_,rfl⟩
  replace e:(if ϒ (z.length<=lim) then ο (((ixD z.cps.toList.length i).bind λj=>z.cps.toList[j]?).map λc=>π ⟨#[c]⟩) else .bad)=.ok d:=e;split at e
  ·rename_i hl;have e':=Res.lN e;obtain⟨cc,h1,h2⟩:=iO.mp e';subst h2;cases p;cases q;exact aJt value slice Ψ s σ H _ _ v u Q I rx ry ⟨z,_,cc,rfl,rfl,jK hl,h1,k.str⟩ hs
  ·cases e
 |dct kvs=>
  have e':keyOk b=ag/\cN kvs b=aa d:=by
   replace e:(if keyOk b then ο (cN kvs b) else .bad)=.ok d:=by cases b<;>exact e
   split at e
   ·rename_i hl;exact⟨hl,Res.lN e⟩
   ·exact bx e
  obtain⟨H1,a1,o,rfl,I1,bk,g,hc⟩:=aK8 I p q (aBr p e'.1 e'.2);cases rx;rcases hc with ⟨rfl,h2⟩|⟨w,dd,rfl,h2,h3⟩
  ·rw[h2] at e';cases e'.2
  ·rw[h2] at e';cases e'.2;exact BP hu I1 g ry hs bk (k.self h3 λz=>by cases z)
 |_=>exact(by cases b<;>exact bx e:False).elim
theorem aQ{X:Cx}{a b:Expr}{pos:dq}{fa fb:FE}{ra rb:ax}(ha:PE X a (gE fa ra))(hb:PE X b (gE fb rb))(hK:KFrag.K=X.K:=by assumption)(hu:X.A.units+20<c9:=by assumption)(hs:wU b:=by exact λ_ _=>rfl):PE X (.Subscript a b pos) (gE (b2 getD fa fb) ak):=aOi (aKa hK hu) ha hb hs
noncomputable def gO(f:ae D->Res (ar ai)):TO:=λσ H Q=>∃ρ i,ER H σ ρ/\f ρ=.ok i/\∀H',bU H H'->Q i H'
theorem PO.imp{X:Cx}{e:ar PySem.Expr}{t t':TO}(h:PO X e t)(i:∀σ H Q,t' σ H Q->t σ H Q):PO X e t':=λΨ s σ H Q I q=>h Ψ s σ H Q I (i σ H Q q)
theorem fJ:PO X aj (gO gR):=PO.imp aFw λσ H Q z0=>by obtain⟨ρ,i,E,h,q⟩:=z0;cases h;exact q H (bU.refl H)
theorem fK(ha:PE X a (gE fa ra)):PO X (aa a) (gO (fZ fa)):=PO.imp (aFx ha) λσ H Q z0=>by
 obtain⟨ρ,i,E,h,q⟩:=z0;obtain⟨x,h1,h⟩:=aU h;obtain⟨j,h2,h⟩:=aU h;cases h;have e:=aK5 h2;subst e;exact⟨ρ,_,E,h1,λv H' s r _=>by cases r;exact⟨j,rfl,q H' s⟩⟩
theorem NP(n d:ah)(o:ar ai):HT.sIx n d o=G9 n d o:=by
 cases o with
 |none=>rfl
 |some v=>
  show(if v<0 then (v+(n:ai)).toNat else min v.toNat n)=(if v<0 then (max (v+(n:ai)) 0).toNat else (min v (n:ai)).toNat);split<;>lia
theorem bJ.cut(r:bJ P H xs ds)(lo hi:ar ai):bJ P H (aBd xs lo hi) (cutD ds lo hi):=by
 unfold aBd cutD;rw[r.length];simp only[NP];exact(r.drop _).take _
theorem cQ:ε ds=ag↔∀d∈ds,d.pure=ag:=by
 induction ds with
 |nil=>simp[ε]
 |cons d ds ih=>rw[ε,aS,ih];simp
def rSl:V->ar ai->ar ai->Hp->VK->Prop:=λx lo hi H Q=>∃a d,Rep All H x a/\aNq a lo hi=.ok d/\kR H d ag Q
theorem aOl(hK:KFrag.K=X.K):SlR X rSl:=by
 rintro Ψ s σ H x v vl vu lo hi sl Q I rx hs pl pu ⟨a,d,p,e,k⟩;cases a<;>simp only[aNq] at e<;>(try (cases e;done))
 ·split at e
  ·cases e
  ·rename_i hw;cases e;obtain⟨l,xs,rfl,ee,rr⟩:=p.iD;refine aJr Ψ s σ H _ v vl vu lo hi sl Q I rx hs pl pu ⟨l,xs,rfl,.of ee,?_,λp hp=>?_⟩
   ·simp only[NP,rr.length];simp only[tF,iS,mz,Bool.not_eq_false',cv] at hw;exact hw.2
   ·have sp:bU H (upd H p (.tup (aBd xs lo hi))):=bU.upd hp;have hp2:ε ‹ae D›=ag:=by
     simp only[iS,mz,tF] at hw;simpa using hw.1
    exact k _ _ sp (.tup aK ((rr.cut lo hi).same sp)) λz=>.tup aK (((rr.bL hp2).cut lo hi).same sp)
 ·split at e
  ·rename_i hl;cases e;obtain⟨l,xs,rfl,ee,rr⟩:=p.mK;refine VG Ψ s σ H _ v vl vu lo hi sl Q I rx hs pl pu ⟨l,xs,rfl,ee,λp hp=>?_⟩;have sp:bU H (upd H p (.lst (aBd xs lo hi))):=bU.upd hp;exact k _ _ sp (.lst aK trivial ((rr.cut lo hi).same sp)) λz=>.lst aK hp (((rr.bL hl).cut lo hi).same sp)
  ·cases e
 ·split at e
  ·rename_i hl;cases e;cases p with
   |@frz l xs ds ee rr=>
    refine VG Ψ s σ H _ v vl vu lo hi sl Q I rx hs pl pu ⟨l,xs,rfl,ee.sq hK,λp hp=>?_⟩;have sp:bU H (upd H p (.lst (aBd xs lo hi))):=bU.upd hp;exact k _ _ sp (.lst aK trivial ((rr.cut lo hi).same sp)) λz=>.lst aK hp (((rr.bL hl).cut lo hi).same sp)
  ·cases e
end
end Mi
namespace PySem.Mm
open PySem PyProof.Rows PySem.W
theorem BR{K:Type}[dw K]{knd:KeyKind prog w K}{d:al}{kvs:ae (K×am)}{ep n:ah}(hh:A.handled=aj)(lo:(d==gx)=ak)
 (hm:s.heap.DictAt knd d kvs ep)(hn:kvs.length=n)(hl:n<=2 ^ 24)
 (q:∀h' tk acc c,(∀b o,s.heap.get? b=aa o->h'.get? b=aa o)->h'.get? s.heap.objs.size=aa {cls:=.type "list",dict:=aj,data:=.seq acc c,slots:=#[]}->
   tI (λi v=>∃k x,kvs[i]?=aa (k,x)/\knd.is k v=ag) acc n->Q (.ref s.heap.objs.size) {s with heap:=h',toks:=tk}):ϑ (ay prog w) A (call (.type "list") [.ref d]) Q E s:=by
 subst hn;exact kdl_call (kdl_dict lo) hh hm (kdl_size hl) q
end PySem.Mm
namespace Mi
open PySem L2 PySem.SeqAt PySem.Spec PyProof.Rows
section
variable [KFrag]
section
variable {a b e:Expr} {x:Str} {id T:gf}
theorem iJ(r:bJ P H xs [d])(vr:Vals xs us):∃v u,xs=[v]/\us=[u]/\Rep P H v d/\RelV v u:=by
 cases r with
 |cons r t=>
  cases t;cases vr with
  |cons v vt=>
   cases vt;exact⟨_,_,rfl,rfl,r,v⟩
theorem NQ{fr:ax}(h:gE (bD f fs) fr σ H Q):tCB (rs f fr) (gA fs rr) σ H Q:=by
 obtain⟨ρ,d,E,h,q⟩:=h;obtain⟨ds,h1,h2⟩:=aU h;exact⟨ρ,ds,E,h1,λvs H1 s1 r1 _=>⟨ds,d,r1,h2,q.imp s1 id⟩⟩
theorem bQ{fr:ax}(hc:nM X (.builtin id) (rs f fr))(hg:Gl X x)(hm:X.mg x=aj)(hv:eu x=aa (.builtin id))(ha:PA X (e::es) (gA fs rr))(hn:autoParam (x ≠ "__name__") Λ)(hdb:autoParam (nDb x) Λ)
 (he:autoParam (zSE X e es) Ω)(hpl:autoParam (zSP X pos es) Ω):PE X (.Call (.Name x p) (e::es) [] pos) (gE (bD f fs) fr):=
 PE.imp (wR hc hg hm hv ha hn hdb he hpl) λ_ _ _=>NQ
theorem cZ{fr:ax}(hc:nM X (.type T) (rs f fr))(hg:Gl X x)(hm:X.mg x=aj)(hv:eu x=aa (.type T))(ha:PA X (e::es) (gA fs rr))(hn:autoParam (x ≠ "__name__") Λ)(hdb:autoParam (nDb x) Λ)
 (he:autoParam (zSE X e es) Ω)(hpl:autoParam (zSP X pos es) Ω):PE X (.Call (.Name x p) (e::es) [] pos) (gE (bD f fs) fr):=
 PE.imp (U_ hc hg hm hv ha hn hdb he hpl) λ_ _ _=>NQ
theorem fB(hK:KFrag.K=X.K):nM X (.builtin "len") (rs mG ag):=by
 rintro Ψ s σ H xs us Q I vr ⟨ds,d,r,e,k⟩;unfold mG at e;split at e
 ·cases e;obtain⟨vv,uu,rfl,rfl,r,v⟩:=iJ r vr;obtain⟨l,ys,rfl,hl,rr⟩:=r.iD;cases v;exact jG Ψ s σ H [.ref l] [.ref l] Q I (.cons rfl .nil) ⟨l,ys,rfl,.inr (.of hl),by rw[rr.length];exact k.int⟩
 ·cases e;obtain⟨vv,uu,rfl,rfl,r,v⟩:=iJ r vr;obtain⟨l,ys,rfl,hl,rr⟩:=r.mK;cases v;exact jG Ψ s σ H [.ref l] [.ref l] Q I (.cons rfl .nil) ⟨l,ys,rfl,.inl hl,by rw[rr.length];exact k.int⟩
 ·cases e;obtain⟨vv,uu,rfl,rfl,r,v⟩:=iJ r vr;cases r with
  |@frz l xs ds ee rr=>
   cases v;exact jG Ψ s σ H [.ref l] [.ref l] Q I (.cons rfl .nil) ⟨l,xs,rfl,.inl (ee.sq hK),by rw[rr.length];exact k.int⟩
 ·cases e;obtain⟨vv,uu,rfl,rfl,r,v⟩:=iJ r vr;obtain⟨_,rfl,ee,pp,rr⟩:=r.inv;cases v;exact jG Ψ s σ H [.ref _] [.ref _] Q I (.cons rfl .nil) ⟨_,_,rfl,.inl (.inl (.inl ee)),by rw[rr.length];exact k.int⟩
 ·split at e
  ·rename_i hl;cases e;obtain⟨vv,uu,rfl,rfl,r,v⟩:=iJ r vr;cases r.inv;exact zY Ψ s σ H _ _ Q I (.cons v .nil) ⟨_,rfl,jK hl,k.int⟩
  ·exact bx e
 ·exact bx e
theorem fV.keys:∀{kvs:ae (Key×V)}{ds:ae (D×D)},fV P H kvs ds->bJ P' H (kvs.map λp=>kV p.1) (aK2 ds)
 |_,_,.nil=>.nil
 |_,_,.cons (k:=k) _ t=>.cons (by cases k<;>first|exact .int _|exact .str _) t.keys
theorem list_dict(hc:X.calm=ag)(I:Inv X Ψ σ H s)(e:H l=aa (.dK kvs))
 (q:∀p s',H p=aj->Inv X Ψ σ (upd H p (.lst (kvs.map λp=>kV p.1))) s'->(∀l0 o0,H l0=aa o0->l0≠p)->Q (.ref p) s'):ϑ (ay X.prog X.w) X.A (call (.type "list") [.ref l]) Q X.xe s:=by
 obtain⟨z,hd,vs,rel,dd⟩:=RX I.hok e;obtain⟨ep,da⟩:=dd.dictAt;have hlen:kvs.length=vs.length:=jq rel;refine Mm.BR (I.ok.hd hc) hd da rfl (by rw[<-hlen];rw[dg] at z;lia) λh' tk acc' c' kp e1 it=>?_
 obtain⟨i1,i2⟩:=it;have hfr:H s.heap.objs.size=aj:=I.hok.fresh (bq _);refine q _ _ hfr (I.laid kp (bq _) ?_) λl0 o0 h0=>bK h0 hfr
 refine⟨by rw[az];exact z,acc'.toList,c',?_,by simpa using e1⟩;have gen:∀(kvs:ae (Key×V))(vs:ae (Key×am))(xs:ae am),KV kvs vs->xs.length=vs.length->(∀(j:ah)(v:am),xs[j]?=aa v->∃k x,vs[j]?=aa (k,x)/\(cH X.prog X.w).is k v=ag)->Vals (kvs.map λp=>kV p.1) xs:=by
  intro kvs vs xs rel;induction rel generalizing xs with
  |nil=>intro hl _;cases xs with|nil=>exact .nil|cons _ _=>simp at hl
  |@cons p q ps qs hpq t ih=>
   intro hl g;cases xs with
   |nil=>simp at hl
   |cons x xs=>
    refine .cons ?_ (ih xs (by simpa using hl) λj v hv=>g (j+1) v (by simpa using hv));obtain⟨k,x',h1,h2⟩:=g 0 x rfl;have h1':q=(k,x'):=by simpa using h1
    show RelV (kV p.1) x;rw[hpq.1,h1'];rcases cY h2 with ⟨i,t,rfl,rfl⟩|⟨i,t,rfl,rfl⟩
    ·exact⟨t,rfl⟩
    ·exact⟨t,rfl⟩
 exact gen kvs vs acc'.toList rel (by simpa using i1) λj v hv=>i2 j v (by simpa using hv)
theorem aGf(hc:X.calm=ag):nM X (.type "list") (rs aBn ag):=by
 rintro Ψ s σ H xs us Q I vr ⟨ds,d,r,e,k⟩;unfold aBn at e;split at e
 ·split at e
  ·rename_i hl;cases e;obtain⟨vv,uu,rfl,rfl,r,v⟩:=iJ r vr;obtain⟨l,ys,rfl,hl',rr⟩:=r.iD;cases v;refine rO Ψ s σ H [.ref l] [.ref l] Q I (.cons rfl .nil) ⟨l,ys,rfl,.inr (.of hl'),λp hp=>?_⟩;have sp:bU H (upd H p (.lst ys)):=bU.upd hp;exact k _ _ sp (.lst aK trivial (rr.same sp)) λ_=>.lst aK hp ((rr.bL hl).same sp)
  ·exact bx e
 ·split at e
  ·rename_i hl;cases e;obtain⟨vv,uu,rfl,rfl,r,v⟩:=iJ r vr;obtain⟨l,ys,rfl,hl',rr⟩:=r.mK;cases v;refine rO Ψ s σ H [.ref l] [.ref l] Q I (.cons rfl .nil) ⟨l,ys,rfl,.inl hl',λp hp=>?_⟩;have sp:bU H (upd H p (.lst ys)):=bU.upd hp;exact k _ _ sp (.lst aK trivial (rr.same sp)) λ_=>.lst aK hp ((rr.bL hl).same sp)
  ·exact bx e
 ·split at e
  ·rename_i hl;cases e;obtain⟨vv,uu,rfl,rfl,r,v⟩:=iJ r vr;cases r with
   |@dK l kvs ds e _ r n=>
    cases v;refine list_dict hc I e λp s' hp I' _=>⟨.ref p,_,I',rfl,?_⟩
    have sp:bU H (upd H p (.lst (kvs.map λp=>kV p.1))):=bU.upd hp;exact k _ _ sp (.lst aK trivial (r.keys.same sp)) λ_=>.lst aK hp (r.keys.same sp)
   |@dT l kvs ds e _ r n=>
    cases v;cases r with
    |cons r t=>simp[isTup] at hl
    |nil=>
     have e2:=xH (o':=.dK []) e;refine list_dict hc (kI I e) aK λp s' hp I' hne=>?_
     have hp':p≠l:=λz=>by subst z;rw[aK] at hp;cases hp
     have hpn:H p=aj:=by rw[aP hp'] at hp;exact hp
     have hcm:upd (upd (upd H l (.dK [])) p (.lst [])) l (.dT [])=upd H p (.lst []):=by
      funext b
      by_cases hb:b=l
      ·subst hb;rw[aK,aP (Ne.symm hp'),e]
      ·rw[aP hb];by_cases hb2:b=p
       ·subst hb2;rw[aK,aK]
       ·rw[aP hb2,aP hb2,aP hb]
     have I2:=nG I' (by rw[aP (Ne.symm hp'),aK]);have I3:Inv X Ψ σ (upd H p (.lst [])) s':=by
      have:Inv X Ψ σ (upd (upd (upd H l (.dK [])) p (.lst [])) l (.dT [])) s':=I2;rwa [hcm] at this
     have sp:bU H (upd H p (.lst [])):=bU.upd hpn;exact⟨.ref p,_,I3,rfl,k _ _ sp (.lst aK trivial .nil) λ_=>.lst aK hpn .nil⟩
  ·exact bx e
 ·exact bx e
theorem fG:nM X (.type "tuple") (rs fU ak):=by
 rintro Ψ s σ H xs us Q I vr ⟨ds,d,r,e,k⟩;unfold fU at e;split at e
 ·cases e;obtain⟨vv,uu,rfl,rfl,r,v⟩:=iJ r vr;obtain⟨l,ys,rfl,hl',rr⟩:=r.iD;cases v;exact o8 Ψ s σ H [.ref l] [.ref l] Q I (.cons rfl .nil) ⟨l,ys,rfl,.inr ⟨.of hl',k.self (.tup hl' rr) λz=>by cases z⟩⟩
 ·cases e;obtain⟨vv,uu,rfl,rfl,r,v⟩:=iJ r vr;obtain⟨l,ys,rfl,hl',rr⟩:=r.mK;cases v;refine o8 Ψ s σ H [.ref l] [.ref l] Q I (.cons rfl .nil) ⟨l,ys,rfl,.inl ⟨hl',λp hp=>?_⟩⟩;have sp:bU H (upd H p (.tup ys)):=bU.upd hp;exact k _ _ sp (.tup aK (rr.same sp)) λz=>by cases z
 ·exact bx e
theorem isi(I:Inv X Ψ σ H s)(r:Rep All H v d)(ru:RelV v u)(h:aOh t d=.ok k)
 (q:∀tk,Q (.bool k) {s with toks:=tk}):ϑ (ay X.prog X.w) X.A (call (.builtin "isinstance") [u,.type t.nm]) Q X.xe s:=by
 have q0:Q (.bool k) s:=q s.toks;rcases(show (t=.int/\(∃i,d=.int i)/\k=ag)\/(t=.bool/\(∃i,d=.int i)/\k=ak)\/t=.tuple/\(∃l,d=.tup l)/\k=ag from by cases t<;>cases d<;>first|exact bx h|(cases h;simp)) with ⟨rfl,⟨i,rfl⟩,rfl⟩|⟨rfl,⟨i,rfl⟩,rfl⟩|⟨rfl,⟨l,rfl⟩,rfl⟩
 ·cases r;obtain⟨tt,rfl⟩:=ru;exact IsiPair.int_int q0
 ·cases r;obtain⟨tt,rfl⟩:=ru;exact IsiPair.int_bool (q _)
 ·cases r with
  |tup e rr=>cases ru;obtain⟨its,vr,o,ho,hc,_⟩:=j_ I e;exact IsiPair.tuple_tuple ho hc q0
def aRo(t:Ty):ae V->Hp->VK->Prop:=λxs H Q=>∃v d k,xs=[v,.ty t.nm]/\Rep All H v d/\aOh t d=.ok k/\Q (.bl k) H
theorem aKb(t:Ty):nM X (.builtin "isinstance") (aRo t):=by
 rintro Ψ s σ H xs us Q I vr ⟨v,d,k,e,r,h,q⟩;subst e;cases vr with
 |cons rv vt=>
  cases vt with
  |cons rt vt=>
   cases vt;cases rt;exact isi I r rv h λtk=>⟨.bl k,H,I.tok tk,rfl,q⟩
theorem NT(t:Ty)(ha:PE X a (gE fa ra))(hg:Gl X "isinstance")(hm:X.mg "isinstance"=aj)(hv:eu "isinstance"=aa (.builtin "isinstance"))(gy:Gl X y)(my:X.mg y=aj)(vy:eu y=aa (.type t.nm))
 (hy:autoParam (y ≠ "__name__") Λ)(hyd:autoParam ((y==("__debug__" : Str))=ak) Λ)
 (he:autoParam (cr [a,.Name y p2] X.env=(ak,eval a X.env)::cr [.Name y p2] X.env) Ω)(he2:autoParam (cr [.Name y p2] X.env=(ak,eval (.Name y p2) X.env)::cr [] X.env) Ω)
 (hpl:autoParam ((ip pos (cr [.Name y p2] X.env)).any (·.1)=ak) Ω):PE X (.Call (.Name "isinstance" p) [a,.Name y p2] [] pos) (gE (b1 (V5 t) fa) ag):=
 PE.imp (wR (aKb t) hg hm hv (bH ha (bH (aFh gy my vy (v:=.ty t.nm) rfl hy hyd) dM he2) he) 0x4 0x4 he hpl) λσ H Q z0=>by
  obtain⟨ρ,d,E,h,q⟩:=z0;obtain⟨x,h1,h⟩:=aU h;obtain⟨k,h2,h⟩:=aU h;cases h;exact⟨ρ,x,E,h1,λv H1 s1 r1 _=>⟨v,x,k,rfl,r1,h2,(q.imp s1 id).bl⟩⟩
theorem aGg{ro fr:ax}{name:Str}{apos cpos:dq}{f:D->ae D->Res D}(pa:xf T)(slot:kQ T name id)(hty:ox (.builtin id)=pure (.type "method_descriptor"))(hm:MtR X id (rm f fr))(ho:PE X o (gE fo ro))(ha:PA X (e::es) (gA fs rr))
 (hT:∀(d:D) (ds:ae D) (r:D) (v:V) (H:Hp),f d ds=.ok r->Rep All H v d->tyV X.K T v H)
 (hbase:autoParam (gm o name X.env (eval o X.env)=eval o X.env) Ω)
 (hfew:autoParam (zFw X cpos (e::es)) Ω)
 (hline:autoParam ((apos.endLine==cpos.line)=ag) Ω)(hs:autoParam (zSE X e es) Ω)(hplain:autoParam (zSP X cpos es) Ω) :
  PE X (.Call (.Attribute o name apos) (e::es) [] cpos) (gE (bM f fo fs) fr):=
 PE.imp (zZ pa slot hty hm ho ha hbase hfew hline hs hplain) λσ H Q z0=>by
  obtain⟨ρ,d,E,h,q⟩:=z0;obtain⟨x,h1,h⟩:=aU h;obtain⟨ds,h2,h⟩:=aU h;exact⟨ρ,x,E,h1,λv H1 s1 r1 _=>⟨hT x ds d v H1 h r1,ρ,ds,E.same s1,h2,λvs H2 s2 r2 _=>⟨x,ds,d,r1.same s2,r2,h,q.imp (s1.trans s2) λz=>z⟩⟩⟩
noncomputable def spD(f:ae D->Res D)(n:ah):Sp:=λvs H Q _=>∃ds d,ds.length=n/\bJ All H vs ds/\f ds=.ok d/\kR H d ag Q
theorem aGh{E:XK}(h:spD f n vs H Q E):vs.length=n:=by
 obtain⟨ds,d,h1,r,_⟩:=h;rw[r.length,h1]
theorem aGi(F:lJ X.prog X.w X.K X.mg X.base CX0 k fad fd ps (spD f n))(hr:lH k X.A)(hg:Gl X x)(hm:X.mg x=aa (.ref fad))(hk:gl X.K (.ref fad)=ag)(hb:Binds X.K fd ps [])
 (ha:PA X (e::es) (gA fs rr))(hdb:autoParam (nDb x) Λ)(he:autoParam (zSE X e es) Ω)(hpl:autoParam (zSP X pos es) Ω) :
  PE X (.Call (.Name x p) (e::es) [] pos) (gE (bD (nZ n f) fs) ag):=
 PE.imp (HW F hr hg hm hk hb .nil VV ha hdb he hpl) λσ H Q z0=>by
  obtain⟨ρ,d,E,h,q⟩:=z0;obtain⟨ds,h1,h⟩:=aU h;unfold nZ at h;split at h
  ·rename_i hl;exact⟨ρ,ds,E,h1,λvs H1 s1 r1 _=>⟨ds,d,eg hl,by rw[b5];exact r1,h,q.imp s1 id⟩⟩
  ·exact bx h
end
end
noncomputable def BV(x:Str):ae D:=x.cps.toList.map λc=>π ⟨#[c]⟩
section
variable [KFrag]
noncomputable def aOm(x:Str):It:=⟨λi _=>i<x.cps.size,λi H v H'=>H'=H/\∃c,x.cps[i]?=aa c/\v=.str ⟨#[c]⟩,λi _=>x.cps.size<=i⟩
structure ItQ(K:bi)(P:al->Prop)(J:It)(H:Hp)(items:ae D):Prop where
 it:∀(P':al->Prop)(H':Hp),u9 P H H'->(∀a o,H a=aa o->P a->P' a)->(∀i,items.length<=i->J.stop i H')/\∀i d,items[i]?=aa d->J.go i H'/\∀x H'',J.yld i H' x H''->bU H' H''/\Rep P' H'' x d
section
variable {K:bi} {P P':al->Prop} {J:It} {H H':Hp} {items:ae D}
theorem ItQ.keep'(h:ItQ K P J H items)(k:u9 P H H')(m:∀a o,H a=aa o->P a->P' a):ItQ K P' J H' items:=
 ⟨λP2 H2 k2 m2=>h.it P2 H2 (λa o e hp=>k2 a o (k a o e hp) (hp.imp (m a o e) id)) λa o e hp=>m2 a o (k a o e (.inl hp)) (m a o e hp)⟩
theorem ItQ.keep(h:ItQ K P J H items)(k:u9 P H H')(m:∀a,P a->P' a):ItQ K P' J H' items:=h.keep' k λa _ _=>m a
theorem ItQ.stop(h:ItQ K P J H items)(hi:items.length<=i):J.stop i H:=(h.it P H (λ_ _ e _=>e) λ_ _ _ hp=>hp).1 i hi
theorem ItQ.go(h:ItQ K P J H items)(hi:items[i]?=aa d):J.go i H/\∀x H',J.yld i H x H'->bU H H'/\Rep P H' x d:=(h.it P H (λ_ _ e _=>e) λ_ _ _ hp=>hp).2 i d hi
theorem ItQ.lst(a:al)(e:J=Itl K a)(r:Rep P H (.ref a) (.lst items)):ItQ K P J H items:=by
 refine⟨λP H kk mm=>?_⟩;have r:=r.aG9 kk mm;refine⟨λi hi=>?_,λi d hi=>?_⟩
 ·subst e;obtain⟨a',xs,e,hq,rr⟩:=r.mK;cases e;exact⟨xs,hq,by rw[rr.length];exact hi⟩
 ·subst e;obtain⟨a',xs,e,hq,rr⟩:=r.mK;cases e;obtain⟨v,h1,h2⟩:=rr.get hi;refine⟨⟨xs,v,hq,h1⟩,λx H' ζ=>?_⟩;obtain⟨e,hy⟩:=ζ;subst e;refine⟨bU.refl _,?_⟩;have:=hy xs hq;rw[h1] at this;cases this;exact h2
theorem ItQ.tup(a:al)(e:J=Itt K a)(r:Rep P H (.ref a) (.tup items)):ItQ K P J H items:=by
 refine⟨λP H kk mm=>?_⟩;have r:=r.aG9 kk mm;refine⟨λi hi=>?_,λi d hi=>?_⟩
 ·subst e;obtain⟨a',xs,e,hq,rr⟩:=r.iD;cases e;exact⟨xs,.of hq,by rw[rr.length];exact hi⟩
 ·subst e;obtain⟨a',xs,e,hq,rr⟩:=r.iD;cases e;obtain⟨v,h1,h2⟩:=rr.get hi;refine⟨⟨xs,v,.of hq,h1⟩,λx H' ζ=>?_⟩;obtain⟨e,hy⟩:=ζ;subst e;refine⟨bU.refl _,?_⟩;have:=hy xs (.of hq);rw[h1] at this;cases this;exact h2
theorem ItQ.rng(lo:ai)(n:ah)(e:J=Itr lo n)(r:items=(bj n).map λ(k:ah)=>ι (lo+k)):ItQ K P J H items:=by
 refine⟨λP H k m=>?_⟩;refine⟨λi hi=>?_,λi d hi=>?_⟩
 ·subst e r;show n<=i;simpa using hi
 ·subst e r;have hlt:i<n:=by
   have:=(dE.mp hi).1;simpa using this
  refine⟨hlt,λx H' ζ=>?_⟩;obtain⟨e,hy⟩:=ζ;subst e;have e2:ι (lo+(i:ai))=d:=by simpa[hlt] using hi
  rw[hy,<-e2];exact⟨bU.refl _,.int _⟩
theorem ItQ.chs(z:Str)(e:J=aOm z)(r:items=BV z):ItQ K P J H items:=by
 refine⟨λP H k m=>?_⟩;refine⟨λi hi=>?_,λi d hi=>?_⟩
 ·subst e r;show z.cps.size<=i;simpa[BV] using hi
 ·subst e r;have hlt:i<z.cps.size:=by
   have:=(dE.mp hi).1;simpa[BV] using this
  refine⟨hlt,λx H' ζ=>?_⟩;obtain⟨e,c,hc,hv⟩:=ζ;subst e hv;refine⟨bU.refl _,?_⟩;have e2:π ⟨#[c]⟩=d:=by
   unfold BV at hi;rw[fA,xi,hc] at hi;simpa using hi
  rw[<-e2];exact .str _
end
noncomputable def gI(K:bi)(f:FI):TI:=λσ H R=>∃ρ items k,ER H σ ρ/\f ρ=.ok (items,k)/\∀J H1,bU H H1->ItQ K All J H1 items->(k=ag->ItQ K (New H) J H1 items)->R J H1
def gIV(K:bi)(i:ah):TI:=λσ H R=>∃v d items,σ[i]?=aa (aa v)/\Rep All H v d/\tV d=.ok items/\∀J,(∀P:al->Prop,Rep P H v d->ItQ K P J H items)->R J H
section
variable {X:Cx} {tg l a b:Expr} {rr:ax} {fs:FA} {p pos:dq}
theorem NZ(I1:Inv X Ψ σ H1 s1)(r:Rep All H1 v d)(ru:RelV v u)(hi:tV d=.ok items)
 (q:∀J,(∀P:al->Prop,Rep P H1 v d->ItQ X.K P J H1 items)->R J H1):ϑ (ay X.prog X.w) X.A (l6 u) (PIE X Ψ σ tg R) X.xe s1:=by
 cases d<;>simp only[tV] at hi<;>cases hi
 ·obtain⟨a,xs,rfl,e,rr⟩:=r.iD;cases ru;obtain⟨its,rv,p,hz⟩:=I1.tuple (.of e);refine AV (show s1.heap.IsTuple a its.toArray from p) ?_;refine⟨s1.heap.objs.size,[s1.heap.objs.size],_,_,H1,rfl,I1.kept λb o e=>bP _ e,Q_ a _,⟨_,c6 _ rfl,rfl,rfl⟩,λb hb=>?_,q _ λP r=>.tup a rfl r⟩;have e:b=s1.heap.objs.size:=by simpa using hb
  subst e;exact I1.aJk (bq _) (I1.hok.fresh (bq _))
 ·obtain⟨a,xs,rfl,e,rr⟩:=r.mK;cases ru;obtain⟨its,rv,p,hz⟩:=I1.list e;refine mE p.isList ?_;refine⟨s1.heap.objs.size,[s1.heap.objs.size],_,_,H1,rfl,I1.kept λb o e=>bP _ e,U0 a _,⟨_,c6 _ rfl,rfl,rfl⟩,λb hb=>?_,q _ λP r=>.lst a rfl r⟩;have e:b=s1.heap.objs.size:=by simpa using hb
  subst e;exact I1.aJk (bq _) (I1.hok.fresh (bq _))
theorem aKc(hN:X.N[i]?=aa x)(hv:Vis X.env.scope x)(hd:autoParam (nDb x) Λ)(hcd:autoParam (nCd x) Λ):PI X tg (.Name x pos) (gIV X.K i):=by
 rintro Ψ s σ H R I ⟨v,d,items,hσ,r,hi,q⟩;exact thn (aV hN hv hd hcd Ψ s σ H (λw H1=>w=v/\H1=H) I ⟨v,hσ,rfl,rfl⟩) λu s1 z0=>by
  obtain⟨w,H1,I1,ru,e1,e2⟩:=z0;subst e1 e2;exact NZ I1 r ru hi q
theorem vN(h:oF i=ag):-(2 ^ 62)<=i/\i<2 ^ 62:=by
 simp only[oF,aS,cv] at h;exact h
theorem PI.imp(h:PI X tg l w)(i:∀σ H R,w' σ H R->w σ H R):PI X tg l w':=λΨ s σ H R I q=>h Ψ s σ H R I (i σ H R q)
theorem lO(hg:Gl X "range")(hm:X.mg "range"=aj)(ha:PA X [a] (gA fs rr))(hs:autoParam (cr [a] X.env=[(ak,eval a X.env)]) Ω):PI X tg (.Call (.Name "range" p) [a] [] pos) (gI X.K (nR fs j9)):=
 PI.imp (zR hg hm ha hs) λσ H R z0=>by
  obtain⟨ρ,items,k,E,h,q⟩:=z0;obtain⟨xs,h1,h⟩:=aU h;unfold j9 at h;split at h
  ·split at h
   ·rename_i hb;cases h;obtain⟨b1,b2⟩:=vN hb;refine⟨ρ,_,E,h1,λvs H1 s1 r1 _=>?_⟩;cases r1 with
    |cons r t=>
     cases t;cases r.inv;exact⟨_,rfl,b1,b2,q _ H1 s1 (.rng 0 _ rfl rfl) λ_=>.rng 0 _ rfl rfl⟩
   ·exact bx h
  ·exact bx h
end
theorem aBs(n:ah)(ρ bs:ae D)(i:ah)(h:i<n):(MT n ρ++bs).getD i .uD=ρ.getD i .uD:=by
 rw[b9,dA (by simp[MT];exact h)];simp[MT,h]
theorem N5(n:ah)(ρ:ae D):(MT n ρ).length=n:=by simp[MT]
def TgC(g:TG)(t:D->Res (ae D))(n m:ah):Prop:=∀(v:V)(d:D)(bs:ae D)(σ:L2.St)(H:Hp)(Q:L2.St->Hp->Prop),σ.length=n->Rep All H v d->t d=.ok bs->
 (∀σ2,Ext (σ++bX m aj) σ2->(∀j b,bs[j]?=aa b->∃w,σ2[n+j]?=aa (aa w)/\Rep All H w b)->Q σ2 H)->g v (σ++bX m aj) H Q
theorem ER.ext(E:ER H σ ρ)(hn:σ.length=n)(x:Ext (σ++bX m aj) σ2)(hb:∀j b,bs[j]?=aa b->∃w,σ2[n+j]?=aa (aa w)/\Rep All H w b):ER H σ2 (MT n ρ++bs):=by
 intro i hi;by_cases h:i<n
 ·rw[aBs n ρ bs i h] at hi ⊢;obtain⟨v,h1,h2⟩:=E i hi;exact⟨v,x.2 i v (by rw[dA (by rw[hn];exact h)];exact h1),h2⟩
 ·have e:(MT n ρ++bs).getD i .uD=bs.getD (i-n) .uD:=by
   rw[b9,fg (by rw[N5];lia),N5,<-b9]
  rw[e] at hi ⊢;cases hq:bs[i-n]? with
  |none=>rw[b9,hq] at hi;exact bd rfl hi
  |some b=>
   obtain⟨w,h1,h2⟩:=hb (i-n) b hq;rw[b9,hq];exact⟨w,by rw[<-h1];congr 1;lia,h2⟩
theorem qG{K:bi}{n m:ah}{g:TG}{tc:TT}(tg:TgC g t n m)(hc:∀σ H Q,gT c σ H Q->tc σ H Q){σ:L2.St}{H:Hp}{Q:VK}(hn:σ.length=n)(h:gE (d8 n it t c f k) ag σ H Q) :
  BJ (gI K it) g tc (gE f k) m σ H Q:=by
 obtain⟨ρ,d,E,h,q⟩:=h;obtain⟨⟨items,kk⟩,h1,h⟩:=aU h;split at h
 ·rename_i hlim;obtain⟨ys,h2,h⟩:=aU h;cases h;refine⟨ρ,items,kk,E,h1,λJ H1 s1 hJ _ p hp=>?_⟩;have hp0:H p=aj:=s1.free hp;refine⟨λi n' vs H'=>n'=items.length-i/\i<=items.length/\H' p=aa (.lst vs)/\bU H1 H'/\∃acc,acc.length<=i/\bJ (λa=>H a=aj/\a≠p) H' vs acc/\oH (A_ n t c f k ρ) acc (items.drop i)=.ok ys,⟨items.length,?_⟩,?_⟩
  ·exact⟨rfl,d6 _,aK,bU.upd hp,[],d6 _,.nil,h2⟩
  ·rintro i n' vs H' ⟨rfl,hi,hH,sm,acc,hal,racc,hf⟩;refine⟨hH,?_⟩;have hJ':ItQ K All J H' items:=hJ.keep (.same sm) λ_ z=>z
   rcases mr i items.length with hlt|hge
   ·refine .inr ?_;have e:items[i]?=aa items[i]:=dj hlt;obtain⟨g1,g2⟩:=hJ'.go e;have hl1:items.length<=lim:=eg hlim;refine⟨g1,?_,λx H2 hy=>?_⟩
    ·rw[racc.length];exact oz hal (dy hlt (c_ hl1 (by rw[dg];decide)))
    ·obtain⟨sH,rx⟩:=g2 x H2 hy;have hH:=sH p _ hH;have sm:=sm.trans sH;have racc:=racc.same sH;rw[kl hlt] at hf;obtain⟨acc2,hs,hf⟩:=aU hf;obtain⟨bs,hb,hs⟩:=aU hs;obtain⟨ok,hok,hs⟩:=aU hs;refine tg x items[i] bs σ H2 _ hn rx hb λσ2 hx hbs=>⟨hx,hc _ _ _ ?_⟩
     have E2:ER H2 σ2 (MT n ρ++bs):=(E.same (s1.trans sm)).ext hn hx hbs;refine⟨_,ok,E2,hok,λH4 s4=>?_⟩;cases ok with
     |true=>
      rw[aq rfl];rw[aq rfl] at hs;obtain⟨y,hy2,hs⟩:=aU hs;split at hs
      ·rename_i hk;cases hs;refine⟨_,y,E2.same s4,hy2,λw H5 s5 r5 n5=>⟨s5 p _ (s4 p _ hH),items.length-(i+1),by lia,rfl,hlt,aK,?_,acc++[y],?_,?_,hf⟩⟩
       ·exact λb o e=>by
         rw[aP (bK e hp)];exact s5 b o (s4 b o (sm b o e))
       ·rw[aT,dP];lia
       ·have hp5:H5 p=aa (.lst vs):=s5 p _ (s4 p _ hH);have ry:Rep (λa=>H a=aj/\a≠p) H5 w y:=by
         rw[iS] at hk;rcases hk with hk|hk
         ·exact(n5 hk).mono λa ha=>⟨((s1.trans sm).trans s4).free ha,λz=>by subst z;have h0:=s4 _ _ hH;rw[show H4 _=aj from ha] at h0;cases h0⟩
         ·exact r5.bL hk
        have all:bJ (λa=>H a=aj/\a≠p) H5 (vs++[w]) (acc++[y]):=(racc.same (s4.trans s5)).snoc ry;refine all.keep (λb o e hb=>?_) λ_ z=>z
        rw[aP]
        ·exact e
        ·rcases hb with hb|hb
         ·exact hb.2
         ·intro z;subst z;rw[hp5] at e;cases e;cases hb
      ·exact bx hs
     |false=>
      rw[aw 0x2];rw[aw 0x2] at hs;cases hs;exact⟨items.length-(i+1),by lia,rfl,hlt,s4 p _ hH,sm.trans s4,acc,by lia,racc.same s4,hf⟩
   ·refine .inl ⟨hJ'.stop hge,?_⟩;rw[jf hge] at hf;cases hf;exact q _ _ (s1.trans sm) (.lst hH trivial racc.all) λ_=>.lst hH hp0 (racc.mono λa z=>z.1)
 ·exact bx h
def gIx:ae ah->TGs
 |[]=>aNh
 |i::is=>Q9 (fO i) (gIx is)
noncomputable def R6:ae ah->ae V->L2.St->L2.St
 |i::is,v::vs,σ=>R6 is vs (σ.set i (aa v))
 |_,_,σ=>σ
theorem JN:∀(is:ae ah)(vs:ae V)(σ:L2.St),vs.length=is.length->Q (R6 is vs σ) H->gIx is vs σ H Q
 |[],[],σ,_,q=>⟨rfl,q⟩
 |i::is,v::vs,σ,h,q=>⟨v,vs,rfl,JN is vs (σ.set i (aa v)) (by simpa using h) q⟩
 |[],_::_,_,h,_=>by simp at h
 |_::_,[],_,h,_=>by simp at h
theorem d9(n:ah):TgC (fO n) oG n 1:=by
 intro v d bs σ H Q hn r h q;cases h;have hl:(σ++bX 1 (aj:ar V)).length=n+1:=by simp[hn]
 refine q _ ⟨by simp,λi w hi=>?_⟩ λj b hj=>?_
 ·have:i≠n:=λz=>by
   subst z;rw[fg 0x1] at hi;simp[hn] at hi
  rw[du (Ne.symm this)];exact hi
 ·have e:j=0:=by
   have:=(dE.mp hj).1;simp at this;exact this
  subst e;have e:d=b:=by simpa using hj
  subst e;exact⟨v,by rw[oB,fy 0x1],r⟩
section
theorem aGj(S:cO X.N X.env.scope scope ownN)(hn:X.N.length=n)(hm:ownN.length=m)(hcalm:X.calm=ag)(hi:PI X tg iter (gI X.K it))(ht:TgC g t n m)(hg:∀X',dC X X' scope ownN->PG X' tg g)(he:∀X',dC X X' scope ownN->PE X' elt (gE fe re))
 (hs:∀x,eP iter X.env x=pure x):PE X (.ListComp elt [⟨tg,iter,[],0⟩] scope pos) (gE (d8 n it t gG fe re) ag):=by
 intro Ψ s σ H Q I h;subst hm;exact aBq S hcalm hi hg he hs Ψ s σ H Q I (qG ht (λσ H Q h=>by obtain⟨ρ,b,E,h,q⟩:=h;cases h;exact q H (bU.refl H)) (I.len.trans hn) h)
theorem WM(S:cO X.N X.env.scope scope ownN)(hn:X.N.length=n)(hm:ownN.length=m)(hcalm:X.calm=ag)(hi:PI X tg iter (gI X.K it))(ht:TgC g t n m)(hg:∀X',dC X X' scope ownN->PG X' tg g)(hc:∀X',dC X X' scope ownN->PT X' c (gT gc))(he:∀X',dC X X' scope ownN->PE X' elt (gE fe re))
 (hs:∀x,eP iter X.env x=pure x):PE X (.ListComp elt [⟨tg,iter,[c],0⟩] scope pos) (gE (d8 n it t gc fe re) ag):=by
 intro Ψ s σ H Q I h;subst hm;exact V9 S hcalm hi hg hc he hs Ψ s σ H Q I (qG ht (λσ H Q h=>h) (I.len.trans hn) h)
end
end
variable [KFrag]
theorem fV.bL:∀{v:ae (Key×V)}{d:ae (D×D)},fV P H v d->ε (d.map (·.2))=ag->fV P' H v d
 |_,_,.nil,_=>.nil
 |_,_,.cons r t,h=>by
  rw[aI,ε,aS] at h;exact .cons (r.bL h.1) (t.bL h.2)
theorem mO.bL:∀{v:ae (ae Key×V)}{d:ae (D×D)},mO P H v d->ε (d.map (·.2))=ag->mO P' H v d
 |_,_,.nil,_=>.nil
 |_,_,.cons r t,h=>by
  rw[aI,ε,aS] at h;exact .cons (r.bL h.1) (t.bL h.2)
theorem Rep.sS(r:Rep P H (.ref a) d)(h:inner d=ag)(hp:P' a):Rep P' H (.ref a) d:=by
 cases r with
 |tup e r=>cases h
 |lst e p r=>exact .lst e hp (r.bL h)
 |cel e p r=>exact .cel e hp (r.bL h)
 |frz e r=>cases h
 |dK e p r n=>exact .dK e hp (r.bL h) n
 |dT e p r n=>exact .dT e hp (r.bL h) n
 |exc n e q=>cases h
 |ins n e q=>cases h
def Own(own:ah->ax)(σ:L2.St)(a:al):Prop:=∃i,own i=ag/\σ[i]?=aa (aa (.ref a))
structure ES(own:ah->ax)(H:Hp)(σ:L2.St)(ρ:ae D):Prop where
 len:σ.length=ρ.length
 at_:∀i,ρ.getD i .uD≠.uD->∃v,σ[i]?=aa (aa v)/\(own i=ak->Rep (λa=>¬Own own σ a) H v (ρ.getD i .uD))
 own:∀i v,own i=ag->σ[i]?=aa (aa v)->∃a o,v=.ref a/\Rep All H v (ρ.getD i .uD)/\inner (ρ.getD i .uD)=ag/\H a=aa o/\JB o=ag/\∀j,own j=ag->σ[j]?=aa (aa (.ref a))->j=i
variable {own:ah->ax}
theorem ES.er(e:ES own H σ ρ):ER H σ ρ:=λi hi=>by
 obtain⟨v,h1,h2⟩:=e.at_ i hi;cases ho:own i with
 |false=>exact⟨v,h1,(h2 ho).all⟩
 |true=>
  obtain⟨a,o,_,h3,_⟩:=e.own i v ho h1;exact⟨v,h1,h3⟩
theorem ES.live(e:ES own H σ ρ)(h:Own own σ a):∃o,H a=aa o/\JB o=ag:=by
 obtain⟨i,hi,hs⟩:=h;obtain⟨b,o,eb,_,_,h3,h4,_⟩:=e.own i _ hi hs;cases eb;exact⟨o,h3,h4⟩
theorem ES.same(e:ES own H σ ρ)(s:bU H H'):ES own H' σ ρ:=by
 refine⟨e.len,λi hi=>?_,λi v hi hv=>?_⟩
 ·obtain⟨v,h1,h2⟩:=e.at_ i hi;exact⟨v,h1,λho=>(h2 ho).same s⟩
 ·obtain⟨a,o,h1,h2,h3,h4,h5,h6⟩:=e.own i v hi hv;exact⟨a,o,h1,h2.same s,h3,s _ _ h4,h5,h6⟩
def KU(own:ah->ax)(σ:L2.St)(H:Hp)(σ':L2.St)(H':Hp):Prop:=∀a o,H a=aa o->¬Own own σ a->H' a=aa o/\¬Own own σ' a
theorem KU.trans(a:KU own σ H σ1 H1)(b:KU own σ1 H1 σ2 H2):KU own σ H σ2 H2:=λc o e n=>let ⟨e1,n1⟩:=a c o e n;b c o e1 n1
theorem KU.same(s:bU H H'):KU own σ H σ H':=λa o e n=>⟨s a o e,n⟩
theorem KU.keep(k:KU own σ H σ' H')(e:ES own H σ ρ):u9 (λa=>¬Own own σ a) H H':=λa o h hp=>by
 by_cases ho:Own own σ a
 ·obtain⟨o',h1,h2⟩:=e.live ho;rw[h] at h1;cases h1;rcases hp with hp|hp
  ·exact bd ho hp
  ·rw[h2] at hp;cases hp
 ·exact(k a o h ho).1
theorem KU.rep(k:KU own σ H σ' H')(e:ES own H σ ρ)(r:Rep (λa=>¬Own own σ a) H v d):Rep (λa=>¬Own own σ' a) H' v d:=r.aG9 (k.keep e) λa o h n=>(k a o h n).2
def kRt(own:ah->ax)(D:Ends)(σ:L2.St)(H:Hp)(d:Mi.D):Prop:=if own rtX=ag then ∃d0 ρ',d=.tup (d0::ρ')/\∀v σ' H',KU own σ H σ' H'->ES own H' σ' ρ'->Rep (λa=>(Own own σ a\/H a=aj)/\∀i b xs,ρ'.getD i .uD=.cel b xs->a≠b) H' v d0->D.rt v H'
  else ∀v H',(∀a o,H a=aa o->¬Own own σ a->H' a=aa o)->Rep (λa=>Own own σ a\/H a=aj) H' v d->D.rt v H'
theorem kRt.old{D:Ends}(h:kRt own D σ H d)(hx:own rtX=ak):∀v H',(∀a o,H a=aa o->¬Own own σ a->H' a=aa o)->Rep (λa=>Own own σ a\/H a=aj) H' v d->D.rt v H':=by
 unfold kRt at h;rw[aw (by rw[hx];simp)] at h;exact h
theorem kRt.mk{D:Ends}(hx:own rtX=ak)(h:∀v H',(∀a o,H a=aa o->¬Own own σ a->H' a=aa o)->Rep (λa=>Own own σ a\/H a=aj) H' v d->D.rt v H'):kRt own D σ H d:=by
 unfold kRt;rw[aw (by rw[hx];simp)];exact h
def kS(own:ah->ax)(D:Ends)(σ:L2.St)(H:Hp):Fl->Prop
 |.nx ρ=>∀σ' H',KU own σ H σ' H'->ES own H' σ' ρ->D.nx σ' H'
 |.bk ρ=>∀σ' H',KU own σ H σ' H'->ES own H' σ' ρ->D.bk σ' H'
 |.ct ρ=>∀σ' H',KU own σ H σ' H'->ES own H' σ' ρ->D.ct σ' H'
 |.rt d=>kRt own D σ H d
theorem kS.step{D:Ends}{σ σ':L2.St}{H H':Hp}{fl:Fl}(k:KU own σ H σ' H')(h:kS own D σ H fl):kS own D σ' H' fl:=by
 cases fl with
 |nx ρ=>exact λσ2 H2 k2 e=>h σ2 H2 (k.trans k2) e
 |bk ρ=>exact λσ2 H2 k2 e=>h σ2 H2 (k.trans k2) e
 |ct ρ=>exact λσ2 H2 k2 e=>h σ2 H2 (k.trans k2) e
 |rt d=>
  have old:∀a,(Own own σ' a\/H' a=aj)->Own own σ a\/H a=aj:=λa ha=>by
   cases q:H a with
   |none=>exact .inr rfl
   |some o=>
    refine .inl (C4 λn=>?_);obtain⟨e1,n1⟩:=k a o q n;rcases ha with ha|ha
    ·exact n1 ha
    ·rw[e1] at ha;cases ha
  have h:kRt own D σ H d:=h;show kRt own D σ' H' d;unfold kRt at h ⊢;by_cases hx:own rtX=ag
  ·rw[aq hx] at h ⊢;obtain⟨d0,ρ',e,g⟩:=h;exact⟨d0,ρ',e,λv σ2 H2 k2 E2 r=>g v σ2 H2 (k.trans k2) E2 (r.mono λa ha=>⟨old a ha.1,ha.2⟩)⟩
  ·rw[aw hx] at h ⊢;exact λv H2 hk r=>h v H2 (λa o e n=>let ⟨e1,n1⟩:=k a o e n;hk a o e1 n1) (r.mono λa ha=>old a ha)
noncomputable def tS(own:ah->ax)(f:FS):TS:=λD σ H=>∃ρ fl,ES own H σ ρ/\f ρ=.ok fl/\kS own D σ H fl
theorem PS.imp{st:bz}(h:PS X st t)(i:∀D σ H,t' D σ H->t D σ H):PS X st t':=λΨ s σ H D I q=>h Ψ s σ H D I (i D σ H q)
theorem PSs.imp{st:ae bz}{t t':TS}(h:PSs X st t)(i:∀D σ H,t' D σ H->t D σ H):PSs X st t':=λΨ s σ H D I q=>h Ψ s σ H D I (i D σ H q)
section
variable {X:Cx} {a b c e:Expr} {pos pos':dq} {fe:FE} {re:ax} {gc:FT} {f g:FS} {st:bz} {rest s1 s2:ae bz}
theorem dW:PSs X [] (tS own tW):=PSs.imp wJ λD σ H z0=>by
 obtain⟨ρ,fl,E,h,q⟩:=z0;cases h;exact q σ H (λa o e n=>⟨e,n⟩) E
theorem aGk{D:Ends}(h:tS own (bF f g) D σ H):u5 (tS own f) (tS own g) D σ H:=by
 obtain⟨ρ,fl,E,h,q⟩:=h;obtain⟨r,h1,h2⟩:=aU h;refine⟨ρ,r,E,h1,?_⟩;cases r with
 |nx ρ'=>exact λσ' H' k E'=>⟨ρ',fl,E',h2,q.step k⟩
 |bk ρ'=>cases h2;exact q
 |ct ρ'=>cases h2;exact q
 |rt d=>cases h2;exact q
theorem aG(h1:PS X st (tS own f))(h2:PSs X rest (tS own g)):PSs X (st::rest) (tS own (bF f g)):=PSs.imp (bW h1 h2) λ_ _ _=>aGk
theorem aW(h1:PS X st (tS own f)):PSs X [st] (tS own f):=d7 h1
theorem jC(hc:PT X c (gT gc))(ha:PSs X s1 (tS own f))(hb:PSs X s2 (tS own g)):PS X (.If c s1 s2 pos) (tS own (sIf gc f g)):=PS.imp (HR hc ha hb) λD σ H z0=>by
 obtain⟨ρ,fl,E,h,q⟩:=z0;obtain⟨k,h1,h2⟩:=aU h;refine⟨ρ,k,E.er,h1,λH' s=>?_⟩;cases k with
 |true=>rw[aq rfl];rw[aq rfl] at h2;exact⟨ρ,fl,E.same s,h2,q.step (.same s)⟩
 |false=>rw[aw 0x2];rw[aw 0x2] at h2;exact⟨ρ,fl,E.same s,h2,q.step (.same s)⟩
theorem rQ(he:PE X e (gE fe re))(hx:autoParam (own rtX=ak) Ω):PS X (.Return (aa e) pos) (tS own (V6 fe re)):=PS.imp (rK he) λD σ H z0=>by
 obtain⟨ρ,fl,E,h,q⟩:=z0;obtain⟨d,h1,h2⟩:=aU h;split at h2
 ·rename_i hk;cases h2;refine⟨ρ,d,E.er,h1,λv H' s r n=>q.old hx v H' (λa o e _=>s a o e) ?_⟩;rw[iS] at hk;rcases hk with hk|hk
  ·exact(n hk).mono λa ha=>.inr ha
  ·exact r.bL hk
 ·exact bx h2
theorem WN(ho:own i=ag)(hN:X.N[i]?=aa x)(hv:Vis X.env.scope x)(hd:autoParam (nDb x) Λ)(hcd:autoParam (nCd x) Λ)(hx:autoParam (own rtX=ak) Ω):PS X (.Return (aa (.Name x pos')) pos) (tS own (aG8 i)):=
 PS.imp (rK (aV hN hv hd hcd)) λD σ H z0=>by
 obtain⟨ρ,fl,E,h,q⟩:=z0;obtain⟨d,h1,h2⟩:=aU h;cases h2;obtain⟨v,hv,r,e⟩:=E.er.var h1;obtain⟨a,o,rfl,r2,hin,_⟩:=E.own i v ho hv;rw[e] at hin;exact⟨_,hv,q.old hx _ H (λa o e _=>e) (r.sS hin (.inl ⟨i,ho,hv⟩))⟩
theorem jX(ho:own i=ak)(a:al):Own own (σ.set i (aa v)) a↔Own own σ a:=by
 constructor
 ·rintro⟨j,hj,e⟩;have:i≠j:=λz=>by subst z;rw[ho] at hj;cases hj
  rw[du this] at e;exact⟨j,hj,e⟩
 ·rintro⟨j,hj,e⟩;have:i≠j:=λz=>by subst z;rw[ho] at hj;cases hj
  exact⟨j,hj,by rw[du this];exact e⟩
theorem dF{ρ:ae D}:(ρ.set i d).getD j .uD=if i=j/\i<ρ.length then d else ρ.getD j .uD:=by
 rw[b9,b9,oI];by_cases h:i=j
 ·subst h;by_cases h2:i<ρ.length
  ·simp[h2]
  ·simp[h2]
 ·simp[h]
theorem ES.set(E:ES own H σ ρ)(ho:own i=ak)(r:Rep (λa=>¬Own own σ a) H v d):ES own H (σ.set i (aa v)) (ρ.set i d):=by
 have hO:(λa=>¬Own own (σ.set i (aa v)) a)=λa=>¬Own own σ a:=funext λa=>by rw[jX ho]
 refine⟨by simp[E.len],λj hj=>?_,λj w hj hw=>?_⟩
 ·rw[dF] at hj ⊢;rw[hO];by_cases h:i=j/\i<ρ.length
  ·rw[aq h];obtain⟨rfl,hl⟩:=h;exact⟨v,by rw[fy (by rw[E.len];exact hl)],λ_=>r⟩
  ·rw[aw h] at hj ⊢;obtain⟨w,h1,h2⟩:=E.at_ j hj;by_cases hij:i=j
   ·subst hij;have:i<σ.length:=(dE.mp h1).1;rw[E.len] at this;exact bd ⟨rfl,this⟩ h
   ·exact⟨w,by rw[du hij];exact h1,h2⟩
 ·have hij:i≠j:=λz=>by subst z;rw[ho] at hj;cases hj
  rw[du hij] at hw;rw[dF,aw λz=>hij z.1];obtain⟨a,o,h1,h2,h3,h4,h5,h6⟩:=E.own j w hj hw;refine⟨a,o,h1,h2,h3,h4,h5,λk hk hs=>h6 k hk ?_⟩;have hik:i≠k:=λz=>by subst z;rw[ho] at hk;cases hk
  rwa [du hik] at hs
theorem ES.aRp{i:ah}{a:al}{o:HO}{d:D}(E:ES own H σ ρ)(s:bU H H')(ho:own i=ag)(hn:H a=aj)(r:Rep All H' (.ref a) d)(hin:inner d=ag)(ha:H' a=aa o)(hm:JB o=ag) :
  ES own H' (σ.set i (aa (.ref a))) (ρ.set i d)/\KU own σ H (σ.set i (aa (.ref a))) H':=by
 have hO:∀b,H b≠aj->¬Own own σ b->¬Own own (σ.set i (aa (.ref a))) b:=λb hb n z0=>by
  obtain⟨j,hj,e⟩:=z0;by_cases hij:i=j
  ·subst hij;by_cases hl:i<σ.length
   ·rw[fy hl] at e;cases e;exact hb hn
   ·rw[oI,aq rfl,aw hl] at e;cases e
  ·rw[du hij] at e;exact n ⟨j,hj,e⟩
 refine⟨⟨by simp[E.len],λj hj=>?_,λj w hj hw=>?_⟩,λb ob e n=>⟨s b ob e,hO b (by rw[e];simp) n⟩⟩
 ·rw[dF] at hj ⊢;by_cases h:i=j/\i<ρ.length
  ·rw[aq h];obtain⟨rfl,hl⟩:=h;exact⟨.ref a,by rw[fy (by rw[E.len];exact hl)],λz=>by rw[ho] at z;cases z⟩
  ·rw[aw h] at hj ⊢;obtain⟨w,h1,h2⟩:=E.at_ j hj;by_cases hij:i=j
   ·subst hij;have:i<σ.length:=(dE.mp h1).1;rw[E.len] at this;exact bd ⟨rfl,this⟩ h
   ·exact⟨w,by rw[du hij];exact h1,λhj=>((h2 hj).dom.same s).mono λb ⟨n,hb⟩=>hO b hb n⟩
 ·by_cases hij:i=j
  ·subst hij;have hl:i<σ.length:=by
    have:=(dE.mp hw).1;simpa using this
   rw[fy hl] at hw;cases hw;rw[dF,aq ⟨rfl,by rw[<-E.len];exact hl⟩];refine⟨a,o,rfl,r,hin,ha,hm,λk hk hs=>?_⟩;by_cases hik:i=k
   ·exact hik.symm
   ·rw[du hik] at hs;obtain⟨o',h1,_⟩:=E.live ⟨k,hk,hs⟩;rw[hn] at h1;cases h1
  ·rw[du hij] at hw;rw[dF,aw λz=>hij z.1];obtain⟨b,ob,h1,h2,h3,h4,h5,h6⟩:=E.own j w hj hw;refine⟨b,ob,h1,h2.same s,h3,s _ _ h4,h5,λk hk hs=>?_⟩;by_cases hik:i=k
   ·subst hik;by_cases hl:i<σ.length
    ·rw[fy hl] at hs;cases hs;rw[hn] at h4;cases h4
    ·rw[oI,aq rfl,aw hl] at hs;cases hs
   ·rw[du hik] at hs;exact h6 k hk hs
theorem aE8(r:Rep P H v d)(hin:inner d=ag):∃a o,v=.ref a/\P a/\H a=aa o/\JB o=ag:=by
 cases r with
 |lst e p r=>exact⟨_,_,rfl,p,e,rfl⟩
 |cel e p r=>exact⟨_,_,rfl,p,e,rfl⟩
 |dK e p r n=>exact⟨_,_,rfl,p,e,rfl⟩
 |dT e p r n=>exact⟨_,_,rfl,p,e,rfl⟩
 |_=>cases hin
theorem xK(E:ES own H σ ρ)(r:Rep (New H) H' v d):Rep (λa=>¬Own own σ a) H' v d:=r.mono λa ha ho=>by
 obtain⟨o,h1,_⟩:=E.live ho;rw[show H a=aj from ha] at h1;cases h1
theorem JP(ho:own i=o)(h:tS own (cU o i fe re) D' σ H):wN (gE fe re) (fO i) D' σ H:=by
 obtain⟨ρ,fl,E,h,q⟩:=h;obtain⟨d,h1,h2⟩:=aU h;cases o with
 |true=>
  simp only[ff] at h2;split at h2
  ·rename_i hk;cases h2;refine⟨ρ,d,E.er,h1,λv H' s r n=>?_⟩;rw[aS] at hk;obtain⟨a,ob,rfl,hn,ha,hm⟩:=aE8 (n hk.1) hk.2;obtain⟨E2,k⟩:=E.aRp s ho hn r hk.2 ha hm;exact q _ H' k E2
  ·exact bx h2
 |false=>
  simp only[gn,fE] at h2;split at h2
  ·rename_i hk;cases h2;refine⟨ρ,d,E.er,h1,λv H' s r n=>?_⟩;rw[iS] at hk;have r2:Rep (λa=>¬Own own σ a) H' v d:=by
    rcases hk with hk|hk
    ·exact xK E (n hk)
    ·exact r.bL hk
   exact q _ H' (λa ob e hn=>⟨s a ob e,by rw[jX ho];exact hn⟩) ((E.same s).set ho r2)
  ·exact bx h2
theorem aKd(ho:own i=o)(hN:X.N.Nodup)(hi:X.N[i]?=aa x)(hx:Loc X.env.scope x)(he:PE X e (gE fe re))(hs:autoParam (zSw X e x pos' pos) Ω)(hf:autoParam (zFn X x) Ξ) :
  PS X (.Assign [.Name x pos'] e pos) (tS own (cU o i fe re)):=PS.imp (K8 hN hi hx he hs hf) λ_ _ _=>JP ho
theorem bY{i:ah}{x:Str}{o:ax}(he:PE X e (gE fe re))(ho:autoParam (own i=o) Ω)(hN:X.N.Nodup:=by assumption)(hi:X.N[i]?=aa x:=by exact rfl)(hx:Loc X.env.scope x:=by trivial)(hs:autoParam (zSw X e x pos' pos) Ω)(hf:autoParam (zFn X x) Ξ):PS X (.Assign [.Name x pos'] e pos) (tS own (cU o i fe re)):=aKd ho hN hi hx he hs hf
theorem ES.mut{i:ah}{a:al}{o:HO}{d:D}(E:ES own H σ ρ)(ho:own i=ag)(hi:σ[i]?=aa (aa (.ref a)))(hm:JB o=ag)(r:Rep All (upd H a o) (.ref a) d)(hin:inner d=ag) :
  ES own (upd H a o) σ (ρ.set i d)/\KU own σ H σ (upd H a o):=by
 have hOa:Own own σ a:=⟨i,ho,hi⟩
 obtain⟨a',oa,ea,_,_,hHa,hma,huq⟩:=E.own i _ ho hi;cases ea;have k:KU own σ H σ (upd H a o):=λb ob e n=>⟨by rw[aP (λz=>by subst z;exact n hOa)];exact e,n⟩
 have hl:i<ρ.length:=by rw[<-E.len];exact(dE.mp hi).1
 refine⟨⟨by simp[E.len],λj hj=>?_,λj w hj hw=>?_⟩,k⟩
 ·rw[dF] at hj ⊢;by_cases h:i=j/\i<ρ.length
  ·obtain⟨rfl,_⟩:=h;exact⟨_,hi,λz=>by rw[ho] at z;cases z⟩
  ·rw[aw h] at hj ⊢;obtain⟨w,h1,h2⟩:=E.at_ j hj;exact⟨w,h1,λhj=>k.rep E (h2 hj)⟩
 ·by_cases hij:i=j
  ·subst hij;rw[hi] at hw;cases hw;rw[dF,aq ⟨rfl,hl⟩];exact⟨a,o,rfl,r,hin,aK,hm,huq⟩
  ·rw[dF,aw λz=>hij z.1];obtain⟨b,ob,h1,h2,h3,h4,h5,h6⟩:=E.own j w hj hw;subst h1;have hba:b≠a:=λz=>by subst z;exact hij (h6 i ho hi)
   refine⟨b,ob,rfl,?_,h3,by rw[aP hba];exact h4,h5,h6⟩;refine(h2.sS (P':=λc=>c=b) h3 rfl).keep (λc oc hc hp=>?_) λ_ _=>trivial
   rw[aP]
   ·exact hc
   ·intro z;subst z;rcases hp with hp|hp
    ·exact hba hp.symm
    ·rw[hHa] at hc;cases hc;rw[hma] at hp;cases hp
theorem ES.ownAt(E:ES own H σ ρ)(ho:own i=ag)(hd:ρ.getD i .uD≠.uD):∃a o,σ[i]?=aa (aa (.ref a))/\Rep All H (.ref a) (ρ.getD i .uD)/\inner (ρ.getD i .uD)=ag/\H a=aa o/\JB o=ag:=by
 obtain⟨v,h1,_⟩:=E.at_ i hd;obtain⟨a,o,rfl,h2,h3,h4,h5,_⟩:=E.own i v ho h1;exact⟨a,o,h1,h2,h3,h4,h5⟩
theorem BW{a:al}(r:Rep All H (.ref a) (.lst xs)):∃vs,H a=aa (.lst vs)/\bJ All H vs xs:=by
 cases r with
 |lst e _ r=>exact⟨_,e,r⟩
theorem bJ.upd{a:al}{xs:ae D}{o:HO}{ob:HO}(r:bJ All H vs xs)(hp:ε xs=ag)(ha:H a=aa ob)(hm:JB ob=ag):bJ All (upd H a o) vs xs:=by
 refine(r.bL (P':=λ_=>cg) hp).keep (λc oc hc h=>?_) λ_ h=>h.elim
 rw[aP]
 ·exact hc
 ·intro z;subst z;rcases h with h|h
  ·exact h
  ·rw[ha] at hc;cases hc;rw[hm] at h;cases h
theorem gU:ε (xs++ys)=(ε xs&&ε ys):=by
 induction xs with
 |nil=>simp[ε]
 |cons x xs ih=>rw[tJ,ε,ε,ih,xn]
theorem n6(ho:own i=ag)(hN:X.N[i]?=aa x)(hv:Vis X.env.scope x)(he:PE X e (gE fe re))(hd:autoParam (nDb x) Λ)(hcd:autoParam (nCd x) Λ)
 (hbase:autoParam (gm (.Name x p1) "append" X.env (eval (.Name x p1) X.env)=eval (.Name x p1) X.env) Ω)
 (hs1:autoParam (zSE X e []) Ω)
 (hfew:autoParam (zFw X cpos [e]) Ω)
 (hline:autoParam ((apos.endLine==cpos.line)=ag) Ω)
 (hs:autoParam (eL (.Call (.Attribute (.Name x p1) "append" apos) [e] [] cpos) aj pos.line X.env=pure ak) Ω) :
  PS X (.Expr (.Call (.Attribute (.Name x p1) "append" apos) [e] [] cpos) pos) (tS own (R3 i fe)):=
 PS.imp (jU (zZ iX mf oP j7 (aV hN hv hd hcd) (bH he dM hs1) hbase hfew hline hs1 rfl) hs) λD' σ H z0=>by
 obtain⟨ρ,fl,E,h,q⟩:=z0;obtain⟨d,h1,h2⟩:=aU h;split at h2
 ·rename_i xs hx;split at h2
  ·rename_i hk;cases h2;rw[aS] at hk;obtain⟨a,o,hσ,r,hin,ha,hm⟩:=E.ownAt ho (by rw[hx];intro z;cases z);rw[hx] at r hin;obtain⟨vs,hl,rr⟩:=BW r;refine⟨_,hσ,.inl ⟨rfl,vs,.of hl⟩,ρ,d,E.er,h1,λv H' s rv _=>⟨a,vs,v,rfl,rfl,s _ _ hl,by rw[rr.length];exact WK hk.1,?_⟩⟩;have E':=E.same s;have hl':=s _ _ hl;obtain⟨E2,k2⟩:=E'.mut ho hσ rfl (.lst aK trivial (((rr.same s).snoc rv).upd (by rw[gU];simp only[aS];exact⟨hin,by simp[ε,hk.2]⟩) hl' rfl)) (by show ε (xs++[d])=ag;rw[gU];simp only[aS];exact⟨hin,by simp[ε,hk.2]⟩);exact q _ _ ((KU.same s).trans k2) E2
  ·exact bx h2
 ·exact bx h2
end
end Mi
namespace L2
open PySem PySem.Spec PyProof.Rows
section
theorem aBt(hNn:X.N.Nodup)(hiy:X.N[iy]?=aa y)(hxy:Loc X.env.scope y)(hfy:zFn X y)(f:Inv X Ψ σ H5 s6)(k:T7 X Ψ H5 C)(n:s6.heap.Ns C m6)(q:fO iy (.ref p) σ H5 D.nx):mt (ay X.prog X.w) X.A X.xe (aa (kG (.Name y py) X.env)) (λ_ s'=>SP X Ψ D .next s') (.ref p) C (.ok .next) s6:=by
 obtain⟨oC,esC,epC,hoC,hdC,_⟩:=id n;have finP:=f.HQ (pins':=Ψ++[(C,oC)]) λp hp=>(dz.mp hp).elim (λz=>f.pin p (eM _ z)) λz=>by
  have z':p=(C,oC):=by simpa using z
  subst z';exact⟨hoC,k.1,k.2.1,k.2.2.1,λv z=>by rw[hdC] at z;cases z⟩
 refine thn (aX hNn hiy hxy hfy _ _ σ H5 (.ref p) (.ref p) D.nx finP rfl q) λ_ s7 ζ=>?_;obtain⟨σ7,H7,I7,q7⟩:=ζ
 obtain⟨g7,hC7,_⟩:=I7.pin (C,oC) (eM _ (eM _ 0x2));refine⟨m6,n.at' λo e=>?_,λh' sb=>⟨σ7,H7,Inv.turned I7.oZ (λb o hb e=>sb.extBut b o hb e) hC7 k.2.1 k.2.2.2.1 k.2.2.2.2.1 k.2.2.2.2.2,q7⟩⟩;rw[hoC] at e;cases e;exact g7
theorem aKe(S:cO X.N X.env.scope scope own)(hcalm:X.calm=ag)(hi:PI X tg iter wi)
 (hg:∀X',dC X X' scope own->PG X' tg g)(hc:(ifs=[]/\tc=λ_ H Q=>Q ag H)\/∃c,ifs=[c]/\∀X',dC X X' scope own->PT X' c tc)(he:∀X',dC X X' scope own->PE X' elt te)
 (hs:∀x,eP iter X.env x=pure x)(hNn:X.N.Nodup)(hiy:X.N[iy]?=aa y)(hxy:Loc X.env.scope y)(hfy:zFn X y)(hsw:eL (.ListComp elt [⟨tg,iter,ifs,0⟩] scope pos) (aa (.Name y py)) pos2.line X.env=pure ag):PS X (.Assign [.Name y py] (.ListComp elt [⟨tg,iter,ifs,0⟩] scope pos) pos2) (wN (BJ wi g tc te own.length) (fO iy)):=by
 intro Ψ s σ H D I h;rw[exec_Assign_Name_used _ _ _ _ hsw];refine ao (AW (ao ?_));show ϑ _ X.A (do let _ <- AG (.ListComp elt [⟨tg,iter,ifs,0⟩] scope pos) scope X.env _ (newList []) ak (eval iter X.env) (aa (kG (.Name y py) X.env))) _ _ s;exact ao (fR (JF S hcalm hi hg hc he hs I h (aBt hNn hiy hxy hfy)) (λ_ s' hq=>aE (aE hq)) λ_ _ e=>e)
theorem WP(S:cO X.N X.env.scope scope own)(hcalm:X.calm=ag)(hi:PI X tg iter wi)
 (hg:∀X',dC X X' scope own->PG X' tg g)(hc:∀X',dC X X' scope own->PT X' c tc)(he:∀X',dC X X' scope own->PE X' elt te)
 (hs:∀x,eP iter X.env x=pure x)(hNn:X.N.Nodup)(hiy:X.N[iy]?=aa y)(hxy:Loc X.env.scope y)(hfy:zFn X y)(hsw:eL (.ListComp elt [⟨tg,iter,[c],0⟩] scope pos) (aa (.Name y py)) pos2.line X.env=pure ag):PS X (.Assign [.Name y py] (.ListComp elt [⟨tg,iter,[c],0⟩] scope pos) pos2) (wN (BJ wi g tc te own.length) (fO iy)):=
 aKe S hcalm hi hg (.inr ⟨c,rfl,hc⟩) he hs hNn hiy hxy hfy hsw
theorem N6(S:cO X.N X.env.scope scope own)(hcalm:X.calm=ag)(hi:PI X tg iter wi)
 (hg:∀X',dC X X' scope own->PG X' tg g)(he:∀X',dC X X' scope own->PE X' elt te)
 (hs:∀x,eP iter X.env x=pure x)(hNn:X.N.Nodup)(hiy:X.N[iy]?=aa y)(hxy:Loc X.env.scope y)(hfy:zFn X y)(hsw:eL (.ListComp elt [⟨tg,iter,[],0⟩] scope pos) (aa (.Name y py)) pos2.line X.env=pure ag):PS X (.Assign [.Name y py] (.ListComp elt [⟨tg,iter,[],0⟩] scope pos) pos2) (wN (BJ wi g (λ_ H Q=>Q ag H) te own.length) (fO iy)):=
 aKe S hcalm hi hg (.inl ⟨rfl,rfl⟩) he hs hNn hiy hxy hfy hsw
end
end L2
namespace Mi
open PySem L2 PySem.SeqAt PySem.Spec PyProof.Rows
section
variable [KFrag]
variable {own:ah->ax}
section
variable {X:Cx} {a b c e:Expr} {pos pos':dq} {fb fe:FE} {re:ax} {gc:FT} {f g:FS} {st:bz} {s1 s2:ae bz}
variable {scope:fx} {ownN:ae Str} {elt iter tg:Expr} {it:FI} {t:D->Res (ae D)} {gt:TG}
theorem aGl(S:cO X.N X.env.scope scope ownN)(hn:X.N.length=n)(hm:ownN.length=m)(hcalm:X.calm=ag)(hi:PI X tg iter (gI X.K it))(ht:TgC gt t n m)(hg:∀X',dC X X' scope ownN->PG X' tg gt)(he:∀X',dC X X' scope ownN->PE X' elt (gE fe re))
 (hs:∀x,eP iter X.env x=pure x)(ho:own iy=o)(hNn:X.N.Nodup)(hiy:X.N[iy]?=aa y)(hxy:Loc X.env.scope y)(hfy:zFn X y)(hsw:eL (.ListComp elt [⟨tg,iter,[],0⟩] scope pos) (aa (.Name y py)) pos2.line X.env=pure ag) :
  PS X (.Assign [.Name y py] (.ListComp elt [⟨tg,iter,[],0⟩] scope pos) pos2) (tS own (cU o iy (d8 n it t gG fe re) ag)):=by
 intro Ψ s σ H D I h;subst hm;refine N6 S hcalm hi hg he hs hNn hiy hxy hfy hsw Ψ s σ H D I ?_;exact qG ht (λσ H Q h=>by obtain⟨ρ,b,E,h,q⟩:=h;cases h;exact q H (bU.refl H)) (I.len.trans hn) (JP ho h)
theorem WQ(S:cO X.N X.env.scope scope ownN)(hn:X.N.length=n)(hm:ownN.length=m)(hcalm:X.calm=ag)(hi:PI X tg iter (gI X.K it))(ht:TgC gt t n m)(hg:∀X',dC X X' scope ownN->PG X' tg gt)(hc:∀X',dC X X' scope ownN->PT X' c (gT gc))(he:∀X',dC X X' scope ownN->PE X' elt (gE fe re))
 (hs:∀x,eP iter X.env x=pure x)(ho:own iy=o)(hNn:X.N.Nodup)(hiy:X.N[iy]?=aa y)(hxy:Loc X.env.scope y)(hfy:zFn X y)(hsw:eL (.ListComp elt [⟨tg,iter,[c],0⟩] scope pos) (aa (.Name y py)) pos2.line X.env=pure ag) :
  PS X (.Assign [.Name y py] (.ListComp elt [⟨tg,iter,[c],0⟩] scope pos) pos2) (tS own (cU o iy (d8 n it t gc fe re) ag)):=by
 intro Ψ s σ H D I h;subst hm;refine WP S hcalm hi hg hc he hs hNn hiy hxy hfy hsw Ψ s σ H D I ?_;exact qG ht (λσ H Q h=>h) (I.len.trans hn) (JP ho h)
theorem xM[dw κ]{k:κ}{v:V}(e:p.1=k)(h:k∉r.map (·.1)):putK (p::r) k v=(k,v)::r:=by
 unfold putK;rw[aq (by simp[e]),aI,aq e,e]
 congr 1
 have:∀q∈r,(λkv:κ×V=>if kv.1=k then (kv.1,v) else kv) q=id q:=λq hq=>by
  have:q.1≠k:=λz=>h (ck.mpr ⟨q,hq,z⟩)
  simp[this]
 rw[List.map_congr_left this,List.map_id]
theorem xN[dw κ]{k:κ}{v:V}(e:¬p.1=k):putK (p::r) k v=p::putK r k v:=by
 unfold putK;rw[ke,cx e,s_];split
 ·rw[aI,aw e]
 ·rfl
theorem iW[dw κ]:∀{kvs:ae (κ×V)},(kvs.map (·.1)).Nodup->((putK kvs k v).map (·.1)).Nodup:=λ{kvs} h=>by
 by_cases hk:vL kvs k=aj
 ·exact aG4 v h hk
 ·unfold putK;rw[aq (by rw[p_];exact Option.isSome_iff_ne_none.mpr hk),di];have:(λx:κ×V=>x.1) ∘ (λkv:κ×V=>if kv.1=k then (kv.1,v) else kv)=λx=>x.1:=by
   funext q
   simp only[C5];split<;>rfl
  rw[this];exact h
theorem xO(rv:Rep P H v d):∀{kvs:ae (Key×V)}{ds:ae (D×D)},fV P H kvs ds->(kvs.map (·.1)).Nodup->fV P H (putK kvs k v) (putD ds (kD k) d)
 |_,_,.nil,_=>.cons rv .nil
 |_,_,.cons (k:=k') (v:=v') r t,hn=>by
  rw[aI] at hn;obtain⟨h1,h2⟩:=fz.mp hn;rw[putD,WL];by_cases h:k'=k
  ·subst h;rw[aq 0x2,xM rfl h1];exact .cons rv t
  ·rw[aw (by simpa using h),xN h];exact .cons r (xO rv t h2)
theorem sU(rv:Rep P H v d):∀{kvs:ae (ae Key×V)}{ds:ae (D×D)},mO P H kvs ds->(kvs.map (·.1)).Nodup->mO P H (putK kvs k v) (putD ds (.tup (k.map kD)) d):=by
 intro kvs ds a hn;induction ds generalizing kvs with
 |nil=>cases a;exact .cons rv .nil
 |cons _ ds ih=>
  cases a with
  |@cons k' v' _ _ _ r t=>
   rw[aI] at hn;obtain⟨h1,h2⟩:=fz.mp hn;rw[putD,aGc];by_cases h:k'=k
   ·subst h;rw[aq 0x2,xM rfl h1];exact .cons rv t
   ·rw[aw (by simpa using h),xN h];exact .cons r (ih t h2)
theorem fV.length:∀{kvs:ae (Key×V)}{ds:ae (D×D)},fV P H kvs ds->kvs.length=ds.length
 |_,_,.nil=>rfl
 |_,_,.cons _ t=>by rw[bp,bp,fV.length t]
theorem mO.length:∀{kvs:ae (ae Key×V)}{ds:ae (D×D)},mO P H kvs ds->kvs.length=ds.length
 |_,_,.nil=>rfl
 |_,_,.cons _ t=>by rw[bp,bp,mO.length t]
theorem t_{a:al}(ha:H a=aa ob)(hm:JB ob=ag):u9 (λ_=>cg) H (L2.upd H a o):=λc oc hc h=>by
 rw[aP]
 ·exact hc
 ·intro z;subst z;rcases h with h|h
  ·exact h.elim
  ·rw[ha] at hc;cases hc;rw[hm] at h;cases h
theorem kJ(hd:d.pure=ag):∀{ds:ae (D×D)},ε (ds.map (·.2))=ag->ε ((putD ds k d).map (·.2))=ag
 |[],_=>by simp[putD,ε,hd]
 | (q,w)::r,h=>by
  rw[aI,ε,aS] at h;rw[putD];split
  ·rw[aI,ε,aS];exact⟨hd,h.2⟩
  ·rw[aI,ε,aS];exact⟨h.1,kJ hd h.2⟩
theorem aOn{ad:al}{y v:V}{ds:ae (D×D)}{k d:D}(I:Inv X Ψ σ H s)(rd:Rep All H (.ref ad) (.dct ds))(hin:ε (ds.map (·.2))=ag)(rk:Rep All H y k)(hk:sJ ds k=ag)(hl:ds.length<bo)(rv:Rep All H v d)(hd:d.pure=ag) :
  ∃H1 o,Inv X Ψ σ H1 s/\aE5 H1 ad y v (L2.upd H ad o)/\JB o=ag/\Rep All (L2.upd H ad o) (.ref ad) (.dct (putD ds k d)):=by
 unfold sJ at hk;rw[aS] at hk;obtain⟨h1,h2⟩:=hk;have rv':Rep (λ_=>cg) H v d:=rv.bL hd;cases rd with
 |@dK _ kvs ds e _ r n=>
  have hlen:=r.length;rcases iV h1 rk with ⟨q,rfl,rfl⟩|⟨b,ks,rfl,eb,rfl⟩
  ·refine⟨H,.dK (putK kvs q v),I,.k e 0x1,rfl,.dK aK trivial ?_ (iW n)⟩;exact(xO rv' (r.bL hin) n).keep (t_ e rfl) λ_ z=>z.elim
  ·cases r with
   |nil=>
    refine⟨L2.upd H ad (.dT []),.dT (putK [] ks v),nG I e,?_,rfl,.dT aK trivial ?_ (iW gp)⟩
    ·have:=aE5.t (H:=L2.upd H ad (.dT [])) (a:=ad) (b:=b) (kvs:=[]) (k:=ks) (v:=v) aK (by rw[aP (nJ eb e 0x7)];exact eb) hl;rwa [HJ] at this
    ·exact(sU (k:=ks) rv' .nil gp).keep (t_ e rfl) λ_ z=>z.elim
   |cons r t=>
    rw[ig,nD] at h2;simp[isTup] at h2
 |@dT _ kvs ds e _ r n=>
  have hlen:=r.length;rcases iV h1 rk with ⟨q,rfl,rfl⟩|⟨b,ks,rfl,eb,rfl⟩
  ·cases r with
   |nil=>
    refine⟨L2.upd H ad (.dK []),.dK (putK [] q v),kI I e,?_,rfl,.dK aK trivial ?_ (iW gp)⟩
    ·have:=aE5.k (H:=L2.upd H ad (.dK [])) (a:=ad) (kvs:=[]) (k:=q) (v:=v) aK hl;rwa [HJ] at this
    ·exact(xO (k:=q) rv' .nil gp).keep (t_ e rfl) λ_ z=>z.elim
   |cons r t=>
    rw[ig,nD] at h2;simp[isTup] at h2
  ·refine⟨H,.dT (putK kvs ks v),I,.t e eb 0x1,rfl,.dT aK trivial ?_ (iW n)⟩;exact(sU rv' (r.bL hin) n).keep (t_ e rfl) λ_ z=>z.elim
theorem N7(hu:X.A.units+20<c9)(ho:own i=ag)(hN:X.N[i]?=aa x)(hvi:Vis X.env.scope x)(hk:PE X k (gE fk rk))(hv:PE X value (gE fv rv))
 (hs:autoParam (eL value (aa (.Subscript (.Name x p1) k pos')) pos.line X.env=pure ak) Ω)(hd:autoParam (nDb x) Λ)(hcd:autoParam (nCd x) Λ) :
  PS X (.Assign [.Subscript (.Name x p1) k pos'] value pos) (tS own (aBo i fk fv)):=by
 rintro Ψ s σ H D' I ⟨ρ,fl,E,h,q⟩;obtain⟨d,h0,h⟩:=aU h;obtain⟨kd,h1,h2⟩:=aU h;split at h2
 ·rename_i kvs hx;split at h2
  ·rename_i hg;cases h2;simp only[aS] at hg;obtain⟨⟨hg1,hg2⟩,hg3⟩:=hg;obtain⟨a,o,hσ,r,hin,ha,hm⟩:=E.ownAt ho (by rw[hx];intro z;cases z);rw[hx] at r hin;refine AX (thn (hv Ψ s σ H (λv H1=>bU H H1/\Rep All H1 v d) I ⟨ρ,d,E.er,h0,λv H1 s1 r1 _=>⟨s1,r1⟩⟩) λrr s1 ⟨v,H1,I1,rv1,sm1,rp1⟩=>
    thn (aV hN hvi hd hcd Ψ s1 σ H1 (λw H2=>w=.ref a/\H2=H1) I1 ⟨_,hσ,rfl,rfl⟩) λu s2 ⟨xx,H2,I2,rx,ex,eH⟩=>
    thn (hk Ψ s2 σ H2 (λw H3=>bU H2 H3/\Rep All H3 w kd) I2 ⟨ρ,kd,by rw[eH];exact E.er.same sm1,h1,λv H1 s1 r1 _=>⟨s1,r1⟩⟩) λiv s3 ⟨y,H3,I3,ry,sm3,rp3⟩=>?_) hs
   subst ex eH;obtain rfl:u=cK a:=rx;have sm:=sm1.trans sm3;obtain⟨H4,o4,I4,g,hmo,rp⟩:=aOn I3 (r.same sm) hin rp3 hg2 (WK hg1) (rp1.same sm3) hg3;obtain⟨E2,k2⟩:=(E.same sm).mut ho hσ hmo rp (kJ hg3 hin);exact VN 0x1 I4 g ry rv1 λs4 I5=>⟨σ,_,I5,q _ _ ((KU.same sm).trans k2) E2⟩
  ·exact bx h2
 ·exact bx h2
def TgS(own:ah->ax)(g:TG)(t:D->ae D->Res (ae D)):Prop:=∀(v:V)(d:D)(ρ ρ':ae D)(σ:L2.St)(H:Hp)(Q:L2.St->Hp->Prop),ES own H σ ρ->Rep (λa=>¬Own own σ a) H v d->t d ρ=.ok ρ'->
 (∀σ',ES own H σ' ρ'->(∀a,Own own σ' a↔Own own σ a)->Q σ' H)->g v σ H Q
theorem iG(ho:own i=ak):TgS own (fO i) (tg1 i):=λv d ρ ρ' σ H Q E r h q=>by
 cases h;exact q _ (E.set ho r) λa=>jX ho a
theorem ES.sets:∀{is:ae ah}{vs:ae V}{ds:ae D}{σ:L2.St}{ρ:ae D},(∀i∈is,own i=ak)->ES own H σ ρ->bJ (λa=>¬Own own σ a) H vs ds->ES own H (R6 is vs σ) (IV is ds ρ)/\∀a,Own own (R6 is vs σ) a↔Own own σ a
 |[],_,_,_,_,_,E,_=>by simp only[R6,IV];exact⟨E,λ_=>trivial⟩
 |i::is,_,_,σ,ρ,h,E,.nil=>by simp only[R6,IV];exact⟨E,λ_=>trivial⟩
 |i::is,_,_,σ,ρ,h,E,.cons (v:=v) r t=>by
  have ho:=h i (de ..);have hO:(λa=>¬Own own (σ.set i (aa v)) a)=λa=>¬Own own σ a:=funext λa=>by rw[jX ho]
  obtain⟨h1,h2⟩:=ES.sets (λj hj=>h j (c8 _ hj)) (E.set ho r) (by rw[hO];exact t);exact⟨h1,λa=>(h2 a).trans (jX ho a)⟩
theorem WR(K:bi)(ho:∀i∈is,own i=ak):TgS own (aNi K is.length (gIx is)) (tgN is):=λv d ρ ρ' σ H Q E r h q=>by
 cases d<;>simp only[tgN] at h<;>(try (exact bx h;done))
 split at h
 ·rename_i hl;cases h;have hl':=eg hl;obtain⟨a,xs,rfl,e,rr⟩:=r.iD;obtain⟨h1,h2⟩:=E.sets ho rr;exact⟨a,xs,rfl,.of e,by rw[rr.length];exact hl',JN _ _ _ (by rw[rr.length];exact hl') (q _ h1 h2)⟩
 ·exact bx h
theorem ItQ.ku{K:bi}(h:ItQ K (λa=>¬Own own σ a) J H items)(k:KU own σ H σ' H')(E:ES own H σ ρ):ItQ K (λa=>¬Own own σ' a) J H' items:=h.keep' (k.keep E) λa o e n=>(k a o e n).2
theorem xP{K:bi}{g:TG}{t:D->ae D->Res (ae D)}{body:FS}{D':Ends}{J:It}{items:ae D}{σ:L2.St}{H1:Hp}{ρ:ae D}{fl:Fl}(tg:TgS own g t)(E:ES own H1 σ ρ)(hJ:ItQ K (λa=>¬Own own σ a) J H1 items)(hf:oW t body items ρ=.ok fl)(q:kS own D' σ H1 fl) :
  ∃W:ah->ah->L2.St->Hp->Prop,(∃m,W 0 m σ H1)/\∀i m σ H,W i m σ H->
   (J.stop i H/\D'.nx σ H)\/(J.go i H/\∃N:L2.St->Hp->Prop,(∀σ' H',N σ' H'->∃m',m'<m/\W (i+1) m' σ' H')/\∀x H',J.yld i H x H'->g x σ H' λσ2 H2=>tS own body {D' with nx:=N,ct:=N,bk:=D'.nx} σ2 H2):=by
 refine⟨λi m σ' H'=>m=items.length-i/\i<=items.length/\ItQ K (λa=>¬Own own σ' a) J H' items/\∃ρ',ES own H' σ' ρ'/\oW t body (items.drop i) ρ'=.ok fl/\kS own D' σ' H' fl,⟨items.length,rfl,d6 _,hJ,ρ,E,hf,q⟩,?_⟩;rintro i m σ' H' ⟨rfl,hi,hJ',ρ',E',hf',q'⟩;rcases mr i items.length with hlt|hge
 ·refine .inr ?_;have e:items[i]?=aa items[i]:=dj hlt;obtain⟨g1,g2⟩:=hJ'.go e;rw[kl hlt] at hf';obtain⟨ρ1,h1,hf2⟩:=aU hf';obtain⟨r,h2,hf3⟩:=aU hf2;refine⟨g1,λσ2 H2=>ItQ K (λa=>¬Own own σ2 a) J H2 items/\∃ρ',ES own H2 σ2 ρ'/\oW t body (items.drop (i+1)) ρ'=.ok fl/\kS own D' σ2 H2 fl,λσ2 H2 ⟨n1,n2⟩=>⟨items.length-(i+1),by lia,rfl,hlt,n1,n2⟩,λx H2 hy=>?_⟩;obtain⟨sH,rx⟩:=g2 x H2 hy;have ks:KU own σ' H' σ' H2:=λa o e n=>⟨sH a o e,n⟩
  have hJ':=hJ'.ku ks E';have q':=q'.step ks;have E':=E'.same sH;refine tg x items[i] ρ' ρ1 σ' H2 _ E' rx h1 λσ2 E2 hO=>?_
  have k0:KU own σ' H2 σ2 H2:=λa o e n=>⟨e,by rw[hO];exact n⟩
  have hJ2:=hJ'.ku k0 E';have q2:=q'.step k0;refine⟨ρ1,r,E2,h2,?_⟩;cases r with
  |nx ρ2=>exact λσ3 H3 k3 E3=>⟨hJ2.ku k3 E2,ρ2,E3,hf3,q2.step k3⟩
  |ct ρ2=>exact λσ3 H3 k3 E3=>⟨hJ2.ku k3 E2,ρ2,E3,hf3,q2.step k3⟩
  |bk ρ2=>cases hf3;exact λσ3 H3 k3 E3=>q2 σ3 H3 k3 E3
  |rt d=>cases hf3;exact q2
 ·refine .inl ⟨hJ'.stop hge,?_⟩;rw[jf hge] at hf';cases hf';exact q' σ' H' (λa o e n=>⟨e,n⟩) E'
theorem n8{tg iter:Expr}{body:ae bz}{g:TG}{t:D->ae D->Res (ae D)}{it:FI}{fb:FS}(hp:lI (ay X.prog X.w) X.A X.env X.xe)(hc:X.calm=ag)(hi:PI X tg iter (gI X.K it))(ht:TgS own g t)(hg:PG X tg g)(hb:PSs X body (tS own fb))
 (hs:∀x,eP iter X.env x=pure x:=by intro _;rfl):PS X (.For tg iter body [] pos) (tS own (IW it t fb)):=PS.imp (K_ hp hc hi hg hb hs) λD' σ H z0=>by
 obtain⟨ρ,fl,E,h,q⟩:=z0;obtain⟨⟨items,k⟩,h1,h2⟩:=aU h;split at h2
 ·rename_i hk;exact⟨ρ,items,k,E.er,h1,λJ H1 s1 _ hJ=>xP ht (E.same s1) ((hJ hk).keep (λ_ _ e _=>e) λa ha ho=>by
   obtain⟨o,e1,_⟩:=E.live ho;rw[show H a=aj from ha] at e1;cases e1) h2 (q.step (.same s1))⟩
 ·exact bx h2
theorem JQ{g:TG}{t:D->ae D->Res (ae D)}{i:ah}{x:Str}{px:dq}{fb:FS}(ho:own i=ak)(hp:lI (ay X.prog X.w) X.A X.env X.xe)(hc:X.calm=ag)(hN:X.N[i]?=aa x)(hv:Vis X.env.scope x)(ht:TgS own g t)(hg:PG X tg g)(hb:PSs X body (tS own fb))
 (hs:∀z,eP (.Name x px) X.env z=pure z:=by intro _;rfl)(hd:autoParam (nDb x) Λ)(hcd:autoParam (nCd x) Λ):PS X (.For tg (.Name x px) body [] pos) (tS own (I_ i t fb)):=PS.imp (K_ hp hc (aKc hN hv hd hcd) hg hb hs) λD' σ H z0=>by
 obtain⟨ρ,fl,E,h,q⟩:=z0;obtain⟨d,h1,h⟩:=aU h;obtain⟨items,h2,h3⟩:=aU h;obtain⟨v,hv,r,e⟩:=E.er.var h1;have hne:ρ.getD i .uD≠.uD:=λz=>by
  rw[z] at e;subst e;exact Rep.uD r
 obtain⟨w,hw,hr⟩:=E.at_ i hne;rw[hv] at hw;cases hw;have r2:=hr ho;rw[e] at r2;exact⟨v,d,items,hv,r,h2,λJ hJ=>xP ht E (hJ _ r2) h3 q⟩
theorem aBu{N ps:ae Str}(hst:start N vs=vs.map aa++bX (N.length-ps.length) aj)(hl:ds.length=ps.length)(r:bJ All H vs ds)(hown:∀i,i<ps.length->own i=ak)(noown:∀a,¬Own own (start N vs) a):ES own H (start N vs) (ds++bX (N.length-ps.length) .uD):=by
 refine⟨by rw[hst];simp[r.length],λi hi=>?_,λi v hi hv=>?_⟩
 ·have hlt:i<ds.length:=gS λhge=>hi (by
   rw[b9,fg hge,iE];split<;>rfl)
  have e:(ds++bX (N.length-ps.length) D.uD).getD i .uD=ds[i]:=by
   rw[b9,dA hlt,dj hlt];rfl
  obtain⟨v,g1,g2⟩:=r.get (i:=i) (d:=ds[i]) (by simp[hlt]);refine⟨v,by rw[hst,dA (by simp[r.length,hlt])];simp[g1],λ_=>?_⟩;rw[e];exact g2.mono λa _=>noown a
 ·exfalso;rw[hst] at hv;by_cases h:i<ps.length
  ·rw[hown i h] at hi;cases hi
  ·rw[fg (by simp[r.length,hl];lia)] at hv;rw[iE] at hv;split at hv<;>cases hv
theorem aGm{N ps:ae Str}{f:FS}{vs:ae V}{H:Hp}{Q:VK}{E:XK}(hx:own rtX=ak)(hown:∀i,i<ps.length->own i=ak)(h0:spD (fnS ps.length N.length f) ps.length vs H Q E):tS own f {nx:=λ_ H'=>Q .non H',rt:=Q} (start N vs) H:=by
 obtain⟨ds,d,hl,r,h,q⟩:=h0
 ·obtain⟨fl,h1,h2⟩:=aU h;have hst:start N vs=vs.map aa++bX (N.length-ps.length) aj:=by
   show vs.map aa++bX (N.length-vs.length) aj=_;rw[r.length,hl]
  have noown:∀a,¬Own own (start N vs) a:=λa z0=>by
   obtain⟨i,hi,e⟩:=z0;rw[hst] at e;by_cases h:i<ps.length
   ·rw[hown i h] at hi;cases hi
   ·rw[fg (by simp[r.length,hl];lia)] at e;rw[iE] at e;split at e<;>cases e
  have E0:ES own H (start N vs) (ds++bX (N.length-ps.length) .uD):=aBu hst hl r hown noown;refine⟨_,fl,E0,h1,?_⟩;have sm:∀{σ':L2.St}{H':Hp},KU own (start N vs) H σ' H'->bU H H':=λk a o e=>(k a o e (noown a)).1
  cases fl with
  |nx ρ'=>cases h2;exact λσ' H' k E'=>q .non H' (sm k) .non λ_=>.non
  |rt d'=>
   cases h2;refine kRt.mk hx λv H' hk rp=>q v H' (λa o e=>hk a o e (noown a)) rp.all λ_=>rp.mono λa ha=>?_
   rcases ha with ha|ha
   ·exact bd ha (noown a)
   ·exact ha
  |bk ρ'=>exact bx h2
  |ct ρ'=>exact bx h2
theorem aKf{w:bu}{K:bi}{mg:Str->ar am}{base:bc}{x qual:Str}{st:bz}{fad:al}{fd:dm}{N ps:ae Str}{k:ah}{f:FS}(F:Fun K x qual st fad fd)(S:bZ N ps (aN st))(own:ah->ax)(hown:∀i,i<ps.length->own i=ak)(hNl:ps.length<=N.length)
 (hbody:∀(cdv:am) (A:cf) (outer:ae cS) (s:au) (H:Hp) (E:XK),lH k (A.deeper (eR qual (aN st) s.heap.objs.size fad cdv))->PSs (wQ CX0 P w K mg base N qual (aN st) fad cdv A outer s H E).nox (dR st) (tS own f))(hx:autoParam (own rtX=ak) Ω):lJ P w K mg base CX0 (k+1) fad fd ps (spD (fnS ps.length N.length f) ps.length):=
 F.ok S (λvs H Q E h=>aGh h) λcdv A outer s H vs Q E hr h=>⟨_,hbody cdv A outer s H E hr,aGm hx hown h⟩
end
end
variable [KFrag]
structure aOo where
 s₀:au
 H₀:Hp
 env:cS
 outer:ae cS
 stack:ae cS
 ex:ae al
 fn:Str->ax
 pn:ae (al×bn)
abbrev mkC(X:Cx)(scope:fx)(ownN:ae Str)(y:aOo):Cx:=
 {X with N:=X.N.map (fW ownN)++ownN,s₀:=y.s₀,H₀:=y.H₀,env:={y.env with scope:=iP scope X.env},outer:=y.outer,stack:=y.stack,ex:=y.ex,fn:=y.fn,pn:=y.pn,xe:=λ_ _=>cg}
theorem mH(cc:dC X X' scope ownN):∃y,X'=mkC X scope ownN y:=by
 refine⟨⟨X'.s₀,X'.H₀,X'.env,X'.outer,X'.stack,X'.ex,X'.fn,X'.pn⟩,?_⟩;obtain⟨h1,h2,h3,h4,h5,h6,h7,h8,h9,h10⟩:=cc;cases X' with
 |mk a b c d e f g h i j k l m n o p q=>
  cases j;dsimp only at *;subst h1 h2 h3 h4 h5 h6 h7 h8 h9 h10;rfl
section
theorem gP(S:cO X.N X.env.scope scope ownN)(hn:X.N.length=n)(hm:ownN.length=m)(hcalm:X.calm=ag)(hi:PI X tg iter (gI X.K it))(ht:TgC g t n m)(hg:∀y,PG (mkC X scope ownN y) tg g)(he:∀y,PE (mkC X scope ownN y) elt (gE fe re))
 (hs:∀x,eP iter X.env x=pure x):PE X (.ListComp elt [⟨tg,iter,[],0⟩] scope pos) (gE (d8 n it t gG fe re) ag):=
 aGj S hn hm hcalm hi ht (λX' cc=>by obtain⟨y,rfl⟩:=mH cc;exact hg y) (λX' cc=>by obtain⟨y,rfl⟩:=mH cc;exact he y) hs
theorem R7(S:cO X.N X.env.scope scope ownN)(hn:X.N.length=n)(hm:ownN.length=m)(hcalm:X.calm=ag)(hi:PI X tg iter (gI X.K it))(ht:TgC g t n m)(hg:∀y,PG (mkC X scope ownN y) tg g)(hc:∀y,PT (mkC X scope ownN y) c (gT gc))(he:∀y,PE (mkC X scope ownN y) elt (gE fe re))
 (hs:∀x,eP iter X.env x=pure x):PE X (.ListComp elt [⟨tg,iter,[c],0⟩] scope pos) (gE (d8 n it t gc fe re) ag):=
 WM S hn hm hcalm hi ht (λX' cc=>by obtain⟨y,rfl⟩:=mH cc;exact hg y) (λX' cc=>by obtain⟨y,rfl⟩:=mH cc;exact hc y) (λX' cc=>by obtain⟨y,rfl⟩:=mH cc;exact he y) hs
theorem qH(S:cO X.N X.env.scope scope ownN)(hn:X.N.length=n)(hm:ownN.length=m)(hcalm:X.calm=ag)(hi:PI X tg iter (gI X.K it))(ht:TgC g t n m)(hg:∀y,PG (mkC X scope ownN y) tg g)(he:∀y,PE (mkC X scope ownN y) elt (gE fe re))
 (hs:∀x,eP iter X.env x=pure x)(ho:own iy=o)(hNn:X.N.Nodup)(hiy:X.N[iy]?=aa y)(hxy:Loc X.env.scope y)(hfy:zFn X y)(hsw:eL (.ListComp elt [⟨tg,iter,[],0⟩] scope pos) (aa (.Name y py)) pos2.line X.env=pure ag) :
  PS X (.Assign [.Name y py] (.ListComp elt [⟨tg,iter,[],0⟩] scope pos) pos2) (tS own (cU o iy (d8 n it t gG fe re) ag)):=
 aGl S hn hm hcalm hi ht (λX' cc=>by obtain⟨y,rfl⟩:=mH cc;exact hg y) (λX' cc=>by obtain⟨y,rfl⟩:=mH cc;exact he y) hs ho hNn hiy hxy hfy hsw
theorem vO(S:cO X.N X.env.scope scope ownN)(hn:X.N.length=n)(hm:ownN.length=m)(hcalm:X.calm=ag)(hi:PI X tg iter (gI X.K it))(ht:TgC g t n m)(hg:∀y,PG (mkC X scope ownN y) tg g)(hc:∀y,PT (mkC X scope ownN y) c (gT gc))(he:∀y,PE (mkC X scope ownN y) elt (gE fe re))
 (hs:∀x,eP iter X.env x=pure x)(ho:own iy=o)(hNn:X.N.Nodup)(hiy:X.N[iy]?=aa y)(hxy:Loc X.env.scope y)(hfy:zFn X y)(hsw:eL (.ListComp elt [⟨tg,iter,[c],0⟩] scope pos) (aa (.Name y py)) pos2.line X.env=pure ag) :
  PS X (.Assign [.Name y py] (.ListComp elt [⟨tg,iter,[c],0⟩] scope pos) pos2) (tS own (cU o iy (d8 n it t gc fe re) ag)):=
 WQ S hn hm hcalm hi ht (λX' cc=>by obtain⟨y,rfl⟩:=mH cc;exact hg y) (λX' cc=>by obtain⟨y,rfl⟩:=mH cc;exact hc y) (λX' cc=>by obtain⟨y,rfl⟩:=mH cc;exact he y) hs ho hNn hiy hxy hfy hsw
end
def qQ(P:bS)(w:bu)(K:bi)(mg:Str->ar am)(base:bc)(k:ah)(x:Str)(n:ah)(f:ae D->Res D):Prop:=
 ∃(fad:al)(fd:dm)(ps:ae Str),lJ P w K mg base CX0 k fad fd ps (spD f n)/\mg x=aa (.ref fad)/\gl K (.ref fad)=ag/\Binds K fd ps []
section
theorem jL(C:qQ X.prog X.w X.K X.mg X.base k x n f)(hr:lH k' X.A)(hkk:k<=k')(hg:Gl X x)(ha:PA X (e::es) (gA fs rr))(hdb:autoParam (nDb x) Λ)(he:autoParam (zSE X e es) Ω)(hpl:autoParam (zSP X pos es) Ω) :
  PE X (.Call (.Name x p) (e::es) [] pos) (gE (bD (nZ n f) fs) ag):=by
 obtain⟨fad,fd,ps,F,hm,hk,hb⟩:=C;exact aGi F (hr.mono hkk) hg hm hk hb ha hdb he hpl
theorem BX{K:bi}{st:bz}{fad:al}{fd:dm}{N ps:ae Str}{fs:FS}(F:Fun K x x st fad fd)(hm:mg x=aa (.ref fad))(hb:Binds K fd ps [])(S:bZ N ps (aN st))(own:ah->ax)(hown:∀i,i<ps.length->own i=ak)(hNl:ps.length<=N.length)
 (hbody:∀(cdv:am) (A:cf) (outer:ae cS) (s:au) (H:Hp) (E:XK),lH k (A.deeper (eR x (aN st) s.heap.objs.size fad cdv))->PSs (wQ CX0 P w K mg base N x (aN st) fad cdv A outer s H E).nox (dR st) (tS own fs))(hx:autoParam (own rtX=ak) Ω):qQ P w K mg base (k+1) x ps.length (fnS ps.length N.length fs):=
 ⟨fad,fd,ps,aKf F S own hown hNl hbody hx,hm,F.kp,hb⟩
end
theorem zO(hr:lH k A):A.units+20<c9:=oz (Nat.add_le_add_left (by decide:20<=64) _) hr.units
structure Bt(mg:Str->ar am):Prop where
 len:mg "len"=aj
 min:mg "min"=aj
 max:mg "max"=aj
 list:mg "list"=aj
 tuple:mg "tuple"=aj
 sorted:mg "sorted"=aj
 range:mg "range"=aj
 isi:mg "isinstance"=aj
 int:mg "int"=aj
 bool:mg "bool"=aj
 str:mg "str"=aj
 dict:mg "dict"=aj
 all:mg "all"=aj
 enum:mg "enumerate"=aj
 sum:mg "sum"=aj
 zip:mg "zip"=aj
 abs:mg "abs"=aj
 reversed:mg "reversed"=aj
theorem fC:eu "len"=aa (.builtin "len"):=0x6
theorem aE9:eu "max"=aa (.builtin "max"):=0x6
theorem iM:eu "isinstance"=aa (.builtin "isinstance"):=0x6
theorem WT:eu "list"=aa (.type "list"):=0x6
theorem eE:eu "tuple"=aa (.type "tuple"):=0x6
theorem WW:eu "int"=aa (.type "int"):=0x6
theorem aGn:eu "bool"=aa (.type "bool"):=0x6
theorem ints_rep:∀ns:ae ai,bJ P H (ns.map V.int) (ns.map ι)
 |[]=>.nil
 |n::ns=>.cons (.int n) (ints_rep ns)
end Mi
namespace Mi
open PySem L2
theorem WX{ns:ae ai}{E:XK}(main:∀ns:ae ai,ns.length<=63->f [.scr (ns.map ι)]=.ok (.bl ag))(hl:ns.length<=63)(hO:Only H)(hS:SqL K H a (ns.map V.int)):@spD ⟨K⟩ f 1 [.ref a] H (λv _=>v=.bl ag) E:=by
 letI:KFrag:=⟨K⟩
 refine⟨[.scr (ns.map ι)],.bl ag,rfl,.cons (.frz ?_ (ints_rep ns)) .nil,main ns hl,λv H' s r n=>by cases r.inv;rfl⟩;rcases hS with (h|⟨o,h⟩)|h
 ·rcases hO a with z|⟨o,xs,z⟩
  ·rw[h] at z;cases z
  ·rw[h] at z;cases z
 ·exact .inl ⟨o,h⟩
 ·exact .inr h
end Mi
namespace Mi
universe u
section
variable {α:Type u} {us:ae α}
theorem l1(h:us.length=1):∃a,us=[a]:=List.length_eq_one_iff.mp h
theorem l2(h:us.length=2):∃a b,us=[a,b]:=by
 cases us with
 |nil=>cases h
 |cons a t=>obtain⟨b,rfl⟩:=l1 (tN h);exact⟨a,b,rfl⟩
theorem l3(h:us.length=3):∃a b c,us=[a,b,c]:=by
 cases us with
 |nil=>cases h
 |cons a t=>obtain⟨b,c,rfl⟩:=l2 (tN h);exact⟨a,b,c,rfl⟩
theorem l4(h:us.length=4):∃a b c d,us=[a,b,c,d]:=by
 cases us with
 |nil=>cases h
 |cons a t=>obtain⟨b,c,d,rfl⟩:=l3 (tN h);exact⟨a,b,c,d,rfl⟩
theorem l5(h:us.length=5):∃a b c d e,us=[a,b,c,d,e]:=by
 cases us with
 |nil=>cases h
 |cons a t=>obtain⟨b,c,d,e,rfl⟩:=l4 (tN h);exact⟨a,b,c,d,e,rfl⟩
end
open PySem L2 PySem.SeqAt PySem.Spec PyProof.Rows
noncomputable def u_(o:V3):D->D->Res D
 |.int a,.int b=>.ok (.bl (o.int a b))
 |.str a,.str b=>.ok (.bl (o.str a b))
 |_,_=>.bad
section
variable [KFrag]
theorem aGo{X:Cx}{op:se}{o:V3}(hi:∀(prog:bS) (w:bu) (A:cf) (E:am->au->Prop) (Q:am->au->Prop) (s:au) (i j:ai) (t t':em),Q (.bool (o.int i j)) s->ϑ (ay prog w) A (dL op (.int i t) (.int j t')) Q E s)
 (hs:∀(prog:bS) (w:bu) (A:cf) (E:am->au->Prop) (Q:am->au->Prop) (s:au) (i j:Str) (t t':em),Q (.bool (o.str i j)) s->ϑ (ay prog w) A (dL op (.str i t) (.str j t')) Q E s):OpR X (dL op) (r2 (u_ o) ag):=by
 intro Ψ s σ H x y v u Q I rx ry ⟨a,b,d,p,q,e,k⟩;unfold u_ at e;split at e
 ·cases e;cases p.inv;cases q.inv;obtain⟨t,rfl⟩:=rx;obtain⟨t',rfl⟩:=ry;exact hi _ _ _ _ _ _ _ _ _ _ ⟨.bl _,H,I,rfl,k.bl⟩
 ·cases e;cases p.inv;cases q.inv;obtain⟨t,rfl⟩:=rx;obtain⟨t',rfl⟩:=ry;exact hs _ _ _ _ _ _ _ _ _ _ ⟨.bl _,H,I,rfl,k.bl⟩
 ·exact bx e
theorem aBv{X:Cx}:OpR X (dL .Lt) (r2 (u_ .lt) ag):=aGo (λ_ _ _ _ _ _ _ _ _ _ h=>lt_int h) λ_ _ _ _ _ _ _ _ _ _ h=>lt_str h
theorem aOp{X:Cx}:OpR X (dL .LtE) (r2 (u_ .le) ag):=aGo (λ_ _ _ _ _ _ _ _ _ _ h=>le_int h) λ_ _ _ _ _ _ _ _ _ _ h=>PySem.P.le_str h
theorem aBw{X:Cx}:OpR X (dL .Gt) (r2 (u_ .gt) ag):=aGo (λ_ _ _ _ _ _ _ _ _ _ h=>gt_int h) λ_ _ _ _ _ _ _ _ _ _ h=>PySem.P.gt_str h
end
def xQ:D->D->Res D
 |.str x,.int n=>if ϒ (0<=n)&&ϒ (n<=100000)&&ϒ (x.length*n.toNat<=lim) then .ok (.str (tP x n)) else .bad
 |a,b=>bG .mul a b
def inX:D->D->Res D
 |.str c,.str x=>.ok (.bl (!(Ac x c 0 x.length 1).isEmpty))
 |a,b=>lG .isin a b
def aB0:D->ar ai->ar ai->Res D
 |.str x,lo,hi=>if ϒ (x.length<=lim) then .ok (.str (ii x lo hi)) else .bad
 |d,lo,hi=>aNq d lo hi
def oK(a:FE)(lo hi:ae D->Res (ar ai)):FE:=λρ=>do let x <- a ρ;let l <- lo ρ;let h <- hi ρ;aB0 x l h
def BZ:D->Res (ae D)
 |.str x=>if ϒ (x.length<=lim) then .ok (BV x) else .bad
 |d=>tV d
def bR(a:FE)(fr:ax):FI:=λρ=>do let x <- a ρ;let xs <- BZ x;pure (xs,fr||x.pure)
noncomputable def uA:ae D->ar (ae Str)
 |[]=>aa []
 |.str x::r=>(uA r).map (x::·)
 |_::_=>aj
def joinM:D->ae D->Res D
 |.str sep,[.lst ds]=>match uA ds with
  |some ts=>if oQ sep ts then .ok (.str (oS sep ts)) else .bad
  |none=>.bad
 |_,_=>.bad
variable [KFrag]
section
variable {X:Cx}
theorem jY:OpR X (eB .Mult) (r2 xQ ag):=by
 rintro Ψ s σ H x y v u Q I rx ry ⟨a,b,d,p,q,e,k⟩;by_cases hs:∃z n,a=.str z/\b=.int n
 ·obtain⟨z,n,rfl,rfl⟩:=hs;simp only[xQ] at e;split at e
  ·rename_i hl;cases e;simp only[aS,cv] at hl;obtain⟨⟨h0,h1⟩,h2⟩:=hl;cases p.inv;cases q.inv;obtain⟨t,rfl⟩:=rx;obtain⟨t',rfl⟩:=ry;have hz:z.length*n.toNat<=bo:=c_ h2 (by rw[dg];decide);refine SB.mul ⟨?_,λh3 _=>?_,λ_ _=>?_⟩ λt2 k2=>⟨.str _,H,I.tok k2,⟨t2,rfl⟩,k.str⟩
   ·rw[cx 0x1,cx 0x1];rfl
   ·have hn:0<n:=by lia
    have h4:(z.length:ai)*n<=2 ^ 63-1:=by
     have h5:((z.length*n.toNat:ah):ai)<=1000000:=by
      have:lim=1000000:=by unfold lim;exact Eq.refl _
      lia
     rw[t9,Int.toNat_of_nonneg h0] at h5;lia
    have h6:=(Int.le_ediv_iff_mul_le hn).mpr h4;lia
   ·unfold C6;exact cx 0x1
  ·exact bx e
 ·have he:xQ a b=bG .mul a b:=by
   unfold xQ;split
   ·exact bd ⟨_,_,rfl,rfl⟩ hs
   ·rfl
  rw[he] at e;exact aK7 Ψ s σ H x y v u Q I rx ry ⟨a,b,d,p,q,e,k⟩
theorem B_(hu:X.A.units+20<c9):OpR X (dL .In) (r2 inX ag):=by
 rintro Ψ s σ H x y v u Q I rx ry ⟨a,b,d,p,q,e,k⟩;by_cases hs:∃z n,a=.str z/\b=.str n
 ·obtain⟨z,n,rfl,rfl⟩:=hs;cases e;cases p.inv;cases q.inv;exact U5 Ψ s σ H _ _ v u Q I rx ry ⟨_,_,rfl,rfl,k.bl⟩
 ·have he:inX a b=lG .isin a b:=by
   unfold inX;split
   ·exact bd ⟨_,_,rfl,rfl⟩ hs
   ·rfl
  rw[he] at e;exact aOj hu Ψ s σ H x y v u Q I rx ry ⟨a,b,d,p,q,e,k⟩
theorem part_of(h:hZ v o):∃l:ar (ai×em),partValue l=v/\l.map (·.1)=o:=by
 cases h with
 |none=>exact⟨aj,rfl,rfl⟩
 |int i t=>exact⟨aa (i,t),rfl,rfl⟩
theorem WY(hK:KFrag.K=X.K):SlR X (λx lo hi H Q=>∃a d,Rep All H x a/\aB0 a lo hi=.ok d/\kR H d ag Q):=by
 rintro Ψ s σ H x v vl vu lo hi sl Q I rx hs pl pu ⟨a,d,p,e,k⟩;by_cases hz:∃z,a=.str z
 ·obtain⟨z,rfl⟩:=hz;simp only[aB0] at e;split at e
  ·rename_i hl;cases e;cases p.inv;obtain⟨t,rfl⟩:=rx;obtain⟨l,e1,e2⟩:=part_of pl;obtain⟨m,e3,e4⟩:=part_of pu;subst e1 e2 e3 e4;refine⟨"str",_,F.slot_str_getitem.lookup,wz _ _ _,?_⟩;obtain⟨o,ho,hc,hd⟩:=hs;refine wpAny_getItem_str_slice (st:=aj) ⟨o,ho,hc,hd⟩ rfl ?_;have hle:(ii z (l.map (·.1)) (m.map (·.1))).length<=bo:=c_ (ua ..) (jK hl);have q:∀(t':em)(k2:ah),EP X Ψ σ Q (.str (ii z (l.map (·.1)) (m.map (·.1))) t') {s with toks:=k2}:=λt' k2=>⟨.str _,H,I.tok k2,⟨t',rfl⟩,k.str⟩
   show Made.post (if ((1:ai)==1&&(AY (l.map (·.1)) (m.map (·.1)) 1 z.length).length==z.length)=ag then .val (.str z t) else .str ⟨((AY (l.map (·.1)) (m.map (·.1)) 1 z.length).filterMap (z.cps[·]?)).toArray⟩) _ s;unfold ii at hle q;split
   ·rename_i hh;have:=q t s.toks;rw[aq hh] at this;exact this
   ·rename_i hh;rw[aw hh] at hle;have:=q s.toks (s.toks+1);rw[aw hh] at this;exact⟨hle,this⟩
  ·exact bx e
 ·have he:aB0 a lo hi=aNq a lo hi:=by
   unfold aB0;split
   ·exact bd ⟨_,rfl⟩ hz
   ·rfl
  rw[he] at e;exact aOl hK Ψ s σ H x v vl vu lo hi sl Q I rx hs pl pu ⟨a,d,p,e,k⟩
theorem jM{lo hi:ar Expr}{p2:dq}{fl fh:ae D->Res (ar ai)}(hK:KFrag.K=X.K)(he:PE X e (gE fe re))(hl:PO X lo (gO fl))(hh:PO X hi (gO fh)):PE X (.Subscript e (.Slice lo hi aj p2) pos) (gE (oK fe fl fh) ag):=
 PE.imp (L_ (WY hK) he hl hh) λσ H Q z0=>by
  obtain⟨ρ,d,E,h,q⟩:=z0;obtain⟨x,h1,h⟩:=aU h;obtain⟨l,h2,h⟩:=aU h;obtain⟨u,h3,h⟩:=aU h;exact⟨ρ,x,E,h1,λv H1 s1 r1 _=>⟨ρ,l,E.same s1,h2,λH2 s2=>⟨ρ,u,E.same (s1.trans s2),h3,λH3 s3=>⟨x,d,r1.same (s2.trans s3),h,q.imp ((s1.trans s2).trans s3) id⟩⟩⟩⟩
theorem N8:∀{xs:ae V}{ds:ae D}{its:ae am}{ts:ae Str},bJ P H xs ds->Vals xs its->uA ds=aa ts->∃l:ae (Str×em),its=strValues l/\l.map (·.1)=ts:=by
 intro xs ds its ts;induction ds generalizing xs its ts with
 |nil=>intro a b h;cases a;cases b;cases h;exact⟨[],rfl,rfl⟩
 |cons d ds ih=>
  intro a b h;rcases a with _|⟨r,t⟩;rcases b with _|⟨rv,tv⟩
  cases d with
  |str z=>
   obtain⟨ts,h1,h2⟩:=iO.mp h;cases r.inv;obtain⟨tk,rfl⟩:=rv;obtain⟨l,e1,e2⟩:=ih t tv h1;refine⟨(z,tk)::l,?_,?_⟩
   ·rw[e1];rfl
   ·rw[<-h2,<-e2];rfl
  |_=>simp only[uA] at h;cases h
theorem aGp:MtR X "str.join" (rm joinM ag):=by
 rintro Ψ s σ H x xs v us Q I rv vr ⟨a,ds,d,ra,rs,h,k⟩;unfold joinM at h;split at h
 ·split at h
  ·rename_i ts hts;split at h
   ·rename_i hok;cases h;obtain⟨vv,uu,rfl,rfl,r,rk⟩:=iJ rs vr;obtain⟨l,ys,rfl,hl,rr⟩:=r.mK;cases rk;cases ra.inv;obtain⟨t,rfl⟩:=rv;obtain⟨its,vr',pl⟩:=mU I hl;obtain⟨l2,e1,e2⟩:=N8 rr vr' hts;subst e1;exact SC.join pl e2 hok λt' k2=>⟨.str _,H,I.tok k2,⟨t',rfl⟩,k.str⟩
   ·exact bx h
  ·exact bx h
 ·exact bx h
theorem aBx(h:joinM d ds=.ok r)(rp:Rep All H v d):tyV X.K "str" v H:=by
 have:∃z,d=.str z:=by
  unfold joinM at h;split at h
  ·exact⟨_,rfl⟩
  ·exact bx h
 obtain⟨z,rfl⟩:=this;cases rp.inv;rfl
theorem aBy{K:bi}(x:Str)(t:em)(it:al):Turn P w K tg (aOm x) [it] it (λi h=>h.IsStrIter it (fF x) x t i) where
 mem:=by simp
 obj:=λi h st b hb=>by
  have e:b=it:=by simpa using hb
  subst e;obtain⟨o,e,c,d⟩:=st;exact⟨o,e,λv z=>by rw[d] at z;cases z⟩
 keep:=λi h h' st k=>by
  obtain⟨o,e,r⟩:=st;exact⟨o,k it 0x2 o e,r⟩
 item:=by
  intro Y hP hw hK hc i Ψ s σ H E I hf st hg;subst hP hw hK;obtain⟨f0,f1,f2,f3,f4,f5⟩:=hf it 0x2;have hx:x.cps[i]?=aa x.cps[i]:=ub hg;have fin:∀(h':bc)(ty:gf),(["enumerate","zip","dict_itemiterator","dict_reverseitemiterator","odict_iterator","itertools.zip_longest","itertools.pairwise"].contains ty=ak)->fF x=ty->h'.IsStrIter it ty x t (i+1)->e9 it s.heap h'->
    ∃u,aa (nV ⟨#[x.cps[i]]⟩ s.toks)=aa u/\ϑ (ay Y.prog Y.w) Y.A (n9 tg (.ref it) u) (λ_ s2=>∃v H',Inv Y Ψ σ H' s2/\RelV v u/\(aOm x).yld i H v H'/\s2.heap.IsStrIter it (fF x) x t (i+1)/\∀b∈[it],H' b=aj) E {s with heap:=h',toks:=s.toks+1}:=by
   intro h' ty hn hty st' sb;have I1:Inv Y Ψ σ H {s with heap:=h',toks:=s.toks+1}:=I.turned (λb o hb e=>(sb.2 b hb).trans e) f0 f1 f3 f4 f5;obtain⟨o,e,c,d⟩:=id st';exact⟨_,rfl,aB7 e c d hn ⟨.str ⟨#[x.cps[i]]⟩,H,I1,⟨_,rfl⟩,⟨rfl,_,hx,rfl⟩,by rw[hty];exact st',λb hb=>(hf b hb).1⟩⟩
  cases ha:x.cps.all (·<128)
  ·have hty:fF x="str_iterator":=by simp[fF,ha]
   rw[hty] at st;exact wpAny_pyNext_wide_item st hx λh' st' sb=>fin h' _ 0x4 hty st' sb
  ·have hty:fF x="str_ascii_iterator":=by simp[fF,ha]
   rw[hty] at st;exact wpAny_pyNext_ascii_item st hx λh' st' sb=>fin h' _ 0x4 hty st' sb
 done:=by
  intro Y hP hw hK hc i Ψ s σ H E I hf st hg;subst hP hw hK;obtain⟨f0,f1,f2,f3,f4,f5⟩:=hf it 0x2;have hx:x.cps[i]?=aj:=qo hg;cases ha:x.cps.all (·<128)
  ·have hty:fF x="str_iterator":=by simp[fF,ha]
   rw[hty] at st;exact wpAny_pyNext_wide_end (I.ok.hd hc) st hx λh' eb=>⟨rfl,I.turned (λb o hb e=>eb b o hb e) f0 f1 f3 f4 f5⟩
  ·have hty:fF x="str_ascii_iterator":=by simp[fF,ha]
   rw[hty] at st;exact wpAny_pyNext_ascii_end (I.ok.hd hc) st hx λh' eb=>⟨rfl,I.turned (λb o hb e=>eb b o hb e) f0 f1 f3 f4 f5⟩
 self:=λ_ _ _ _ _ st h=>by
  cases ha:x.cps.all (·<128)
  ·have hty:fF x="str_iterator":=by simp[fF,ha]
   rw[hty] at st;exact wpAny_pyIter_striter_wide st h
  ·have hty:fF x="str_ascii_iterator":=by simp[fF,ha]
   rw[hty] at st;exact wpAny_pyIter_striter_ascii st h
section
variable {tg l a:Expr}
theorem W4(I1:Inv X Ψ σ H1 s1)(r:Rep All H1 v d)(ru:RelV v u)(hi:BZ d=.ok items)
 (q:∀J,(∀P:al->Prop,Rep P H1 v d->ItQ X.K P J H1 items)->R J H1):ϑ (ay X.prog X.w) X.A (l6 u) (PIE X Ψ σ tg R) X.xe s1:=by
 by_cases hz:∃z,d=.str z
 ·obtain⟨z,rfl⟩:=hz;simp only[BZ] at hi;split at hi
  ·cases hi;cases r.inv;obtain⟨t,rfl⟩:=ru;refine wpAny_pyIter_strU ?_;refine⟨s1.heap.objs.size,[s1.heap.objs.size],_,_,H1,rfl,I1.kept λb o e=>bP _ e,aBy z t _,⟨_,c6 _ rfl,rfl,rfl⟩,λb hb=>?_,q _ λP r=>.chs z rfl rfl⟩;have e:b=s1.heap.objs.size:=by simpa using hb
   subst e;exact I1.aJk (bq _) (I1.hok.fresh (bq _))
  ·exact bx hi
 ·have he:BZ d=tV d:=by
   unfold BZ;split
   ·exact bd ⟨_,rfl⟩ hz
   ·rfl
  rw[he] at hi;exact NZ I1 r ru hi q
theorem dI(hl:PE X l (gE fl rl)):PI X tg l (gI X.K (bR fl rl)):=by
 rintro Ψ s σ H R I ⟨ρ,items,k,E,h,q⟩;obtain⟨d,h1,h⟩:=aU h;obtain⟨its,h2,h⟩:=aU h;cases h;refine thn (hl Ψ s σ H _ I ⟨ρ,d,E,h1,λv H1 s1 r1 n1=>(show(∃d',Rep All H1 v d/\d'=d/\∀J,(∀P:al->Prop,Rep P H1 v d->ItQ X.K P J H1 items)->R J H1) from ⟨d,r1,rfl,λJ hJ=>q J H1 s1 (hJ _ r1) λhk=>hJ _ ?_⟩)⟩) λu s1 ⟨v,H1,I1,ru,d',r1,e,q1⟩=>W4 I1 r1 ru h2 q1
 rw[iS] at hk;rcases hk with hk|hk
 ·exact n1 hk
 ·exact r1.bL hk
theorem JR{ch:ae al}{a:al}{o:HO}(I:Inv X Ψ σ H s)(k:∀b u,b∉ch->s.heap.get? b=aa u->h'.get? b=aa u)(hf:∀b∈ch,T7 X Ψ H b)(hp:s.heap.objs.size<=a)
 (new:gC X.prog X.w (upd H a o) h' a o):Inv X Ψ σ (upd H a o) {s with heap:=h',toks:=t'}:=by
 have hn:H a=aj:=I.hok.fresh hp;have nch:∀b u,H b=aa u->b∉ch:=λb u e z=>by rw[(hf b z).1] at e;cases e
 have kU:∀b u,H b=aa u->upd H a o b=aa u:=λb u e=>by rw[aP (bK e hn)];exact e
 refine I.step (λb hb=>?_) (λb u _ _ hc e _=>k b u hc e) (λb u _ _ hc e _=>⟨u.slots,k b u hc e⟩) (λb u _ e n=>?_)
  (λb u hc e=>⟨u,k b u hc e⟩) (λb xs e=>kU b _ e) (λb u v e=>kU b _ e) (λb ps e=>⟨#[],by rw[kU b _ e];simp⟩) (λm hm=>?_) (λb u e=>?_) I.bare
 ·obtain⟨_,f1,_,f3,f4,f5⟩:=hf b hb;exact⟨f3,f1,f4,f5⟩
 ·rw[aP (λz=>bd (dy (bw e) hp) (by rw[z];exact fN _))];exact n
 ·obtain⟨u,es,ep,hu,r⟩:=hm;exact⟨u,es,ep,k _ u (λz=>(hf _ z).2.1 rfl) hu,r⟩
 ·by_cases hb:b=a
  ·subst hb;rw[aK] at e;cases e;exact new
  ·rw[aP hb] at e;refine(I.hok b u e).stay (λc v hc q=>k c v ?_ q) (λc q=>kU c _ q) λc xs q=>kU c _ q
   rcases hc with z|z
   ·rw[z];exact nch b u e
   ·exact nch c _ z
end
end
end Mi
namespace Mi
open PySem L2
theorem aZ:lim=1000000:=by unfold lim;exact Eq.refl _
theorem W5(h:ρ.length=n):MT n ρ=ρ:=by
 subst h;apply xo
 ·simp[MT]
 ·intro i h1 h2;simp[MT,h2]
theorem qR(h:ds.length=n):nZ n f ds=f ds:=by
 unfold nZ;rw[aq (by simp[h])]
theorem aJ(h1:a ρ=.ok x)(h2:b ρ=.ok y)(h3:f x y=.ok z):b2 f a b ρ=.ok z:=by
 unfold b2;rw[h1,θ,h2,θ,h3]
theorem bT(h:f ρ=.ok d):cU ak i f ag ρ=.ok (.nx (ρ.set i d)):=by
 unfold cU;rw[h,θ];rfl
theorem gH(h:f ρ=.ok d)(hp:d.pure=ag):cU ak i f ak ρ=.ok (.nx (ρ.set i d)):=by
 unfold cU;rw[h,θ];simp only[hp,s_,gn,fE,ff]
theorem eG(h:f ρ=.ok d)(hp:inner d=ag):cU ag i f ag ρ=.ok (.nx (ρ.set i d)):=by
 unfold cU;rw[h,θ];simp only[hp,mI,ff]
theorem aL(h1:f ρ=.ok (.nx ρ'))(h2:g ρ'=r):bF f g ρ=r:=by
 unfold bF;rw[h1,θ];exact h2
theorem aKg(h1:c ρ=.ok k)(h2:(if k then f ρ else g ρ)=r):sIf c f g ρ=r:=by
 unfold sIf;rw[h1,θ];exact h2
theorem xR(h1:c ρ=.ok ag)(h2:f ρ=r):sIf c f g ρ=r:=aKg h1 (by rw[aq rfl];exact h2)
theorem uB(h1:c ρ=.ok ak)(h2:g ρ=r):sIf c f g ρ=r:=aKg h1 (by rw[aw 0x2];exact h2)
theorem cX(h1:f ρ=.ok (.bl k)):bTB f ρ=.ok k:=by
 unfold bTB;rw[h1,θ];rfl
theorem R8(h1:a ρ=.ok ag)(h2:b ρ=r):aAz a b ρ=r:=by
 unfold aAz;rw[h1,θ,aq rfl,h2]
theorem W6(h1:a ρ=.ok ak):aAz a b ρ=.ok ak:=by
 unfold aAz;rw[h1,θ,aw 0x2];rfl
theorem aC(h1:a ρ=.ok x)(h2:b ρ=.ok xs):aF a b ρ=.ok (x::xs):=by
 unfold aF;rw[h1,θ,h2,θ];rfl
theorem bA(h1:a ρ=.ok xs)(h2:f xs=.ok d):bD f a ρ=.ok d:=by
 unfold bD;rw[h1,θ,h2]
theorem eF(h:a ρ=.ok xs)(hl:xs.length<=lim):jB a ρ=.ok (.tup xs):=by
 unfold jB;rw[h,θ,aq (bt hl)];rfl
theorem N_(h:f ρ=.ok d)(hp:(k||d.pure)=ag):V6 f k ρ=.ok (.rt d):=by
 unfold V6;rw[h,θ,aq hp]
theorem n_(h1:it ρ=.ok (xs,ag))(h2:oW t body xs ρ=r):IW it t body ρ=r:=by
 unfold IW;rw[h1,θ];exact h2
theorem JS(h1:b8 i ρ=.ok d)(h2:tV d=.ok xs)(h3:oW t body xs ρ=r):I_ i t body ρ=r:=by
 unfold I_;rw[h1,θ,h2,θ];exact h3
theorem rR(h:f ρ=.ok [.int n])(h1:0<=n)(h2:n<=1000000):nR f j9 ρ=.ok ((bj n.toNat).map λ(k:ah)=>ι (0+(k:ai)),ag):=by
 unfold nR;rw[h,θ];have:oF n=ag:=by
  simp only[oF,aS,cv];lia
 simp only[j9,this,ff]
theorem OD(h1:g ρ=.ok d)(h2:f ρ=.ok k)(h3:ρ.getD i .uD=.dct kvs)(h4:kvs.length<lim)(h5:sJ kvs k=ag)(h6:d.pure=ag):aBo i f g ρ=.ok (.nx (ρ.set i (.dct (putD kvs k d)))):=by
 unfold aBo;rw[h1,θ,h2,θ,h3];simp only[bt h4,h5,h6,mI,ff]
theorem oA(h1:f ρ=.ok d)(h3:ρ.getD i .uD=.lst xs)(h4:xs.length<lim)(h5:d.pure=ag):R3 i f ρ=.ok (.nx (ρ.set i (.lst (xs++[d])))):=by
 unfold R3;rw[h1,θ,h3];simp only[bt h4,h5,mI,ff]
theorem cR(h1:t x ρ=.ok ρ1)(h2:body ρ1=.ok (.nx ρ2))(h3:oW t body xs ρ2=r):oW t body (x::xs) ρ=r:=by
 rw[oW,h1,θ,h2,θ];exact h3
theorem JT(h1:it ρ=.ok (xs,kk))(h2:xs.length<=lim)(h3:oH (A_ n t c f k ρ) [] xs=.ok ys):d8 n it t c f k ρ=.ok (.lst ys):=by
 unfold d8;rw[h1,θ];simp only[bt h2,ff];rw[h3];rfl
theorem uC(hρ:ρ.length=n)(h1:c (ρ++[x])=.ok b)(h2:b=ag->f (ρ++[x])=.ok y/\(k||y.pure)=ag):A_ n oG c f k ρ acc x=.ok (if b then acc++[y] else acc):=by
 unfold A_;show(do let ok <- c (MT n ρ++[x]);_)=_;rw[W5 hρ,h1,θ];cases b with
 |true=>
  obtain⟨e1,e2⟩:=h2 rfl;rw[aq rfl,e1,θ,aq e2,aq rfl];rfl
 |false=>
  rw[aw 0x2,aw 0x2];rfl
theorem cV(a b:ai):bG .add (.int a) (.int b)=.ok (.int (a+b)):=rfl
theorem uE(a b:ai):bG .sub (.int a) (.int b)=.ok (.int (a-b)):=rfl
theorem aKh(a b:ai)(h:gQ b=ag):bG .mul (.int a) (.int b)=.ok (.int (a*b)):=by
 show(if gQ a||gQ b then τ (ι (a*b)) else .bad)=_;rw[h,AZ,aq rfl]
theorem dX(a b:ai)(h1:0<b)(h2:b<1073741824):bG .fdiv (.int a) (.int b)=.ok (.int (a / b)):=by
 show(if ϒ (0<b)&&ϒ (b<1073741824) then τ (ι (a / b)) else .bad)=_;rw[bt h1,bt h2,mI,aq rfl]
theorem cA(a b:ai)(h1:0<b):bG .mod (.int a) (.int b)=.ok (.int (a % b)):=by
 show(if ϒ (0<b) then τ (ι (a % b)) else .bad)=_;rw[bt h1,aq rfl]
theorem OJ(a:ai)(h1:-1000000<=a)(h2:a<=1000000):gQ a=ag:=by
 simp only[gQ,aS,cv];lia
theorem W7(a b:Str)(h:a.length+b.length<=lim):bG .add (.str a) (.str b)=.ok (.str (a++b)):=by
 show(if ϒ (a.length+b.length<=lim) then τ (π (a++b)) else .bad)=_;rw[bt h,aq rfl]
theorem uF(a b:ae D)(h:a.length+b.length<=lim)(ha:ε a=ag)(hb:ε b=ag):bG .add (.lst a) (.lst b)=.ok (.lst (a++b)):=by
 show(if ϒ (a.length+b.length<=lim)&&ε a&&ε b then τ (ψ (a++b)) else .bad)=_;rw[bt h,ha,hb,mI,mI,aq rfl]
theorem qT(S:ae ai):ε (S.map ι)=ag:=by
 induction S with
 |nil=>rfl
 |cons q Q ih=>rw[aI,ε,ih];rfl
theorem aGq(ns:ae ai)(lo hi:ar ai):cutD (ns.map ι) lo hi=(cutD ns lo hi).map ι:=by
 unfold cutD;rw[az,xq,A0]
open PySem.SeqAt PySem.Spec PyProof.Rows
theorem JV(x:gC P w H h a o):∃ob,h.get? a=aa ob:=by
 cases o with
 |lst xs=>obtain⟨_,_,_,_,e⟩:=x;exact⟨_,e⟩
 |tup xs=>obtain⟨_,_,_,_,e,_⟩:=x;exact⟨_,e⟩
 |dK kvs=>obtain⟨_,_,_,_,o,_,_,e,_⟩:=x;exact⟨_,e⟩
 |dT kvs=>obtain⟨_,_,_,_,o,_,_,e,_⟩:=x;exact⟨_,e⟩
 |set S n=>obtain⟨o,_,_,_,e,_⟩:=x;exact⟨_,e⟩
 |ins C dx fs=>obtain⟨_,_,_,e,_⟩:=x;exact⟨_,e⟩
 |own y=>exact x
 |xd fs=>obtain⟨_,⟨_,_,_,e,_⟩,_⟩:=x;exact⟨_,e⟩
 |rng lo hi=>obtain⟨_,_,_,e⟩:=x;exact⟨_,e⟩
 |frz ob u=>obtain⟨e,_⟩:=x;exact⟨_,e⟩
 |tbl ps=>exact⟨_,show h.get? a=aa _ from x⟩
 |met f y=>exact⟨_,show h.get? a=aa _ from x⟩
 |ext φ=>obtain⟨_,e,_⟩:=x;exact e
theorem aGr{K:bi}(X:K.In h)(q:xr K C bmB newId=ag) :
  ∃bm N nm qn bs hdct sn sub ab col dd k0 k1 k2 k3 k5 mN,h.get? C=aa (excClassObj nm qn C N bs bm hdct sn sub ab col dd k0 k1 k2 k3 k5 newId)/\h.Ns N mN/\mN "__init__"=aj/\OwnTail h bmB bm:=by
 unfold xr at q;split at q
 ·rename_i dd cd sl ho;split at q
  ·rename_i C' bm k0 k1 k2 k3 n k5 hm hs;rw[aS,aS,aS,aS,aS] at q;obtain⟨⟨⟨⟨⟨q1,q2⟩,q3⟩,q4⟩,q5⟩,q6⟩:=q;have q1:=fS.mp q1;have q2:=fS.mp q2;rw[tF] at q3;subst q1 q2;obtain⟨nm,bs,mro,ns,qn,hd,sn,sub,ab,col,del⟩:=cd;obtain⟨l⟩:=sl;dsimp only at hm q3 q5 q6 hs;subst hm q3 hs;exact⟨bm,ns,nm,qn,bs,hd,sn,sub,ab,col,dd,k0,k1,k2,k3,k5,_,X _ _ ho,.of_isNs (PySem.W.isNs_of_in X q5),PySem.W.nsMap_none_of_in X q5 (fS.mp q6),PySem.W.tail_of_in X q4⟩
  ·cases q
 ·cases q
abbrev aOq:ae am:=[.type "ValueError",.type "Exception",.type "BaseException",.type "object"]
theorem aBz(hc:X.calm=ag)(hg:Gl X x)(hm:X.mg x=aa (.ref C))(hq:xr X.K C aOq "ValueError.__new__"=ag)(ha:PA X [e] ta)
 (he:autoParam (cr [e] X.env=[(ak,eval e X.env)]) Ω)(hd:autoParam (nDb x) Λ) :
  PS X (.Raise (aa (.Call (.Name x np) [e] [] cpos)) aj pos) (λD σ H=>ta σ H λvs H1=>vs.length<=bo/\∀(Ψ:ae (al×bn))(s:au)(h2:bc)(a:al)(us:ae am),Inv X Ψ σ H1 s->A3 s.heap h2 a (.ref C) us->X.xe (.ref a) {s with heap:=h2}):=by
 intro Ψ s σ H D I h;obtain⟨bm,N,nm,qn,bs,hdct,sn,sub,ab,col,dd,k0,k1,k2,k3,k5,mN,hC,hN,hni,T⟩:=aGr I.mod.kin hq;refine wpAny_Raise_call_subT (nm:=nm) (q:=qn) (N:=N) (bs:=bs) (bm:=bm) (hdct:=hdct) (sn:=sn) (sub:=sub) (ab:=ab) (col:=col) (dd:=dd) (k0:=k0) (k1:=k1) (k2:=k2) (k3:=k3) (k5:=k5)
  A4 (mN:=mN) (T.hasType A4.hasBase) (I.ok.hd hc) (by rw[he];rfl) hni (qM I hg hm ⟨rfl,?_⟩ hd)
 rw[he];have h':=ha cpos Ψ s σ H _ I h;rw[he] at h';refine Ay (fR h' (λus s2 ⟨vs,H1,I1,r,hl,hx⟩=>⟨rfl,by rw[<-r.length];exact hl,I1.bk _ _ hC,hN.keeps I1.bk,T.keeps I1.bk,λh2 a hm=>hx Ψ s2 h2 a us I1 hm⟩) λ_ _ y=>y)
open PySem.W PySem.Builtin PySem.Builtin.ObjectAttr PySem.Builtin.Getset_descriptor
def ExcAt(a C:al)(h:bc):Prop:=∃o,h.get? a=aa o/\o.cls=.ref C
structure XC(K:Frag)(C:al):Prop where
 cl:(clsIn K C).isSome=ag
 ga:findIn K (.ref C) "__getattribute__"=aa (aa (.builtin "BaseException.__getattribute__"))
 gh:findIn K (.ref C) "__getattr__"=aa aj
 kc:findIn K (.ref C) "__class__"=aa (aa (.builtin "object.__class__"))
 kg:specialIn K (.builtin "object.__class__") "__get__"=aa (aa (.builtin "getset_descriptor.__get__"))
 kt:takesIn K (.builtin "object.__class__")=aa ag
 ob:ud K C (.type "object")=aa ag
 be:ud K C (.type "BaseException")=aa ag
section
variable {prog:bS} {w:bu} {A:cf} {E:am->au->Prop} {s:au} {K:Frag} {x C:al}
theorem CG(p:ExcAt x C h):Looks M h (ox (.ref x)) (.ref C):=by
 obtain⟨o,h1,h2⟩:=p;rw[<-h2];exact(A5 h1).andThen .now
theorem aC0(X:K.In h)(c:XC K C):Looks M h (find (.ref x) (.ref C) "__class__") (.bind (.builtin "getset_descriptor.__get__") (.builtin "object.__class__")):=by
 refine(looks_findIn X c.kc).andThen ((looks_specialIn X c.kg).andThen ?_);have L:Looks M h (dataDescriptor? (aa (.builtin "object.__class__")) (aa (.builtin "getset_descriptor.__get__"))) (aa (.builtin "getset_descriptor.__get__",.builtin "object.__class__")):=(looks_takesIn X c.kt).andThen .now;exact L.andThen (Looks.tag .now)
theorem aGs(X:K.In s.heap)(p:ExcAt x C s.heap)(c:XC K C)(h:R (.ok (.ret (.ref C))) s) :
  codeAny (ay prog w) A (.call (.builtin "getset_descriptor.__get__") ⟨[.builtin "object.__class__",.ref x,tp],[]⟩) R s:=by
 obtain⟨hh,g,d,t,os⟩:=s;have L0:=CG (M:=ay prog w) p;have L1:=A6 (M:=ay prog w) X c.ob;refine qp A7.plain KF.entry_gs (A7.check _ _ _ _ _ _ _ _ KF.type_class (KF.args_gs _ _ _) ?_)
 (unfold dn.«getset_descriptor.__get__» descrGet;rw[dga_obj];refine ao (aE ?_);unfold descrGetter descrCheckInstance descrNameAndClass xt;simp only[KF.owner_class])
 repeat lk
 refine⟨li _ 0x6,jg KF.entry_class ?_⟩
 (unfold dn.«object.__class__» shownTypeOf;repeat lk)
 exact h
theorem W8(X:K.In s.heap)(p:ExcAt x C s.heap)(c:XC K C)(h:Q (.done (.ret (.ref C))) s) :
  ϑ (ay prog w) A (dn.«object.__getattribute__» ⟨[.ref x,.str "__class__" tk],[]⟩) Q E s:=by
 obtain⟨hh,g,d,t,os⟩:=s;have L0:=CG (M:=ay prog w) p;have L1:=aC0 (M:=ay prog w) (x:=x) X c;unfold dn.«object.__getattribute__»;refine ao (aE ?_);refine ao (aE ?_);refine ao (L0.at (ao (L1.at ?_)));show ϑ _ _ (jv [_] (call _ [_,.ref x,.ref C]) >>= ret) _ _ _;exact ao (eD (jw (aGs X p c (aE h))))
theorem W9(X:K.In s.heap)(p:ExcAt x C s.heap)(c:XC K C)(h:Q () s):ϑ M A (xu "BaseException.__getattribute__" ⟨[.ref x,nv],[]⟩) Q E s:=by
 obtain⟨hh,g,d,t,os⟩:=s;have L0:Looks M hh (xt (.ref x) (.type "BaseException")) ag:=(CG p).andThen (A6 X c.be);have e1:builtinKind "BaseException.__getattribute__"=aa .slot:=by decide +kernel
 have e2:splitId "BaseException.__getattribute__"=aa ("BaseException","__getattribute__"):=by decide +kernel
 have ha:=F.args_bexc_ga (.ref x) nv;simp only[xu,e1,e2];refine ao (L0.at ?_)
 repeat (any_goals (first|assumption|wp_step))
theorem aGt(X:K.In s.heap)(p:ExcAt x C s.heap)(c:XC K C)(h:Q (aa (.ref C)) {s with toks:=s.toks+1}):ϑ (ay prog w) A (ue (.ref x) "__class__") Q E s:=by
 obtain⟨hh,g,d,t,os⟩:=s;have L0:=CG (M:=ay prog w) p;have L1:=looks_findIn (M:=ay prog w) X c.ga;have L2:=looks_findIn (M:=ay prog w) X c.gh;have e2:(uf "BaseException.__getattribute__"==uf "object.__getattribute__")=ak:=by decide +kernel
 have e1:(onTheHeap (cK C)&&uf "BaseException.__getattribute__"==uf "object.__getattribute__")=ak:=by rw[e2];rfl
 unfold ue getAttrBy? getAttrBy;refine ao (wpAny_mkText (ao (jh (eD (ao (L0.at (ao (L1.at ?_))))))));dsimp only;rw[e1,aw 0x4];unfold getAttrByItsOwn hookBefore callGetattribute boundAndCalled;rw[aq (show onTheHeap (cK C)=ag from rfl)];refine ao (L2.at (ao (jh (eD ?_))));rw[aw 0x4];refine ao (f_ (A8.ga.bind (.ref x)) ?_);refine jw (qp A8.ga.plain F.entry_bexc_ga (W9 (K:=K) (C:=C) X p c (W8 (K:=K) (C:=C) X p c ?_)));show ϑ _ _ (handedOut (.ref C)) _ _ _;exact aE (aE h)
theorem aC1(c:XC K C):KitX K (.ref x) (.ref C) (ExcAt x C) where
 ty:=λ_ _ _ p=>CG p
 it:=λM h X _=>by
  obtain⟨cd,hc⟩:=wr.mp c.cl;unfold clsIn at hc;split at hc
  ·rename_i ho;intro A' Q' E' s' k q
   (unfold isType loadHead;exact ao (Af (k _ _ (X _ _ ho)) (aE q)))
  ·cases hc
 ne:=λh tp dd its n sl X e=>by
  obtain⟨cd,hc⟩:=wr.mp c.cl;unfold clsIn at hc;split at hc
  ·rename_i ho;refine xv.mpr λq=>?_
   have z:C=tp:=C7 (fS.mp q);subst z;cases (X _ _ ho).symm.trans e
  ·cases hc
 ca:=λX p h=>aGt X p c h
end
end Mi
namespace Mi
open PySem L2 PySem.W PySem.SeqAt PySem.Spec PyProof.Rows
noncomputable abbrev mrk(X:Cx)(v:am):Cx:={X with A:=X.A.mark (aa v),calm:=ak}
section
variable {a:al}
theorem W_(I:Inv X Ψ σ H s)(v:am):Inv (mrk X v) Ψ σ H s:=
 ⟨⟨I.ok.mod,I.ok.kind,I.ok.glob,I.ok.blt,I.ok.above,I.ok.inj,I.ok.has,I.ok.cab,(λz=>nomatch z),I.ok.frames,I.ok.stk,I.ok.exf,I.ok.bs,I.ok.bsz,I.ok.noex,I.ok.exfs,I.ok.Q8,I.ok.frf⟩,I.os,I.bare,I.base,I.loc,I.cell,I.free,I.freeC,I.pin,I.hok,I.len⟩
theorem XF(ok:X.Ok)(I:Inv (mrk X v) Ψ σ H s):Inv X Ψ σ H s:=
 ⟨ok,I.os,I.bare,I.base,I.loc,I.cell,I.free,I.freeC,I.pin,I.hok,I.len⟩
theorem aKi(u:Un fs [] H H2 h h6)(hg:h.get? a=aj)(hn:H2 a=aj):Un fs [] H (upd H2 a o) h h6:=by
 have ne:∀b ob,h.get? b=aa ob->b≠a:=λb ob q z=>by rw[z,hg] at q;cases q
 refine⟨u.keep,u.slot,λb ob q n hx=>by rw[aP (ne b ob q)];exact u.free b ob q n hx,u.there,λb xs q=>?_,λb ob xs q=>?_,λb ps q=>?_⟩
 ·have z:=u.tups b xs q;rw[aP (bK z hn)];exact z
 ·have z:=u.frzs b ob xs q;rw[aP (bK z hn)];exact z
 ·obtain⟨m,z⟩:=u.tbls b ps q;exact⟨m,by rw[aP (bK z hn)];exact z⟩
theorem aGu(x:HOk P w H2 h6)(hn:H2 a=aj)(new:gC P w (upd H2 a o) h6 a o):HOk P w (upd H2 a o) h6:=λb u e=>by
 by_cases hb:b=a
 ·subst hb;rw[aK] at e;cases e;exact new
 ·rw[aP hb] at e;exact(x b u e).stay (λc v _ q=>q) (λc q=>by rw[aP (bK q hn)];exact q) λc xs q=>by rw[aP (bK q hn)];exact q
theorem aC2(I:Inv X Ψ σ H s)(hN:X.N.Nodup)(hi:X.N[i]?=aa x)(hn:s.heap.Ns X.env.locals m)
 (hl:∀(i:ah) (x:Str) (v:V),X.N[i]?=aa x->σ[i]?=aa (aa v)->Vis X.env.scope x->∃u,RelV v u/\Look X.env s.heap m x u)
 (hn':h'.Ns X.env.locals (λy=>if y=x then v else m y))(hs:e9 X.env.locals s.heap h'):Inv X Ψ (σ.set i aj) H {s with heap:=h',toks:=t'}:=by
 have hiσ:i<σ.length:=by rw[I.len];exact(dE.mp hi).1
 have cne:=I.cne;have ne:∀b o,X.s₀.heap.get? b=aa o->b≠X.env.locals:=λb o e=>cw (dy (bw e) I.ok.above)
 refine⟨I.ok,I.os,I.bare,⟨λb o e n hb hx=>(hs.2 b (ne b o e)).trans (I.base.keep b o e n hb hx),λb o e n hb hx=>?_,I.base.free,λb o e hx=>?_,I.base.tups,I.base.frzs,I.base.tbls⟩,⟨_,hn',λj y v' e1 e2 e3=>?_⟩,λy c e=>?_,I.free,I.freeC,λp hp=>?_,λb ob e=>?_,by simpa using I.len⟩
 ·obtain⟨sl,e1⟩:=I.base.slot b o e n hb hx;exact⟨sl,(hs.2 b (ne b o e)).trans e1⟩
 ·obtain⟨o',e1⟩:=I.base.there b o e hx;exact⟨o',(hs.2 b (ne b o e)).trans e1⟩
 ·by_cases hj:j=i
  ·subst hj;rw[fy hiσ] at e2;cases e2
  ·rw[du (Ne.symm hj)] at e2;obtain⟨u',r',q⟩:=hl j y v' e1 e2 e3;refine⟨u',r',?_⟩;rcases q with ⟨k,e⟩|⟨k,c,e,z⟩
   ·refine .inl ⟨k,?_⟩;have:y≠x:=λe=>hj (wH hN e1 (e▸hi))
    simp[this,e]
   ·exact .inr ⟨k,c,e,z.sameBut hs (cne y c e)⟩
 ·obtain⟨w',z⟩:=I.cell y c e;exact⟨w',z.sameBut hs (cne y c e)⟩
 ·obtain⟨e,n,ne,nf,d⟩:=I.pin p hp;exact⟨(hs.2 p.1 ne).trans e,n,ne,nf,d⟩
 ·refine(I.hok b ob e).stay (λc w' hc q=>(hs.2 c ?_).trans q) (λ_ q=>q) λ_ _ q=>q
  intro z;rcases hc with hc|hc
  ·rw[<-hc,z,I.free] at e;cases e
  ·rw[z,I.free] at hc;cases hc
end
variable [KFrag]
theorem aC3{H:Hp}{a:al}{o:HO}(h:H a=aj):bU H (upd H a o):=λb u e=>by rw[aP (bK e h)];exact e
end Mi
namespace Mi
open PySem L2 PySem.SeqAt PySem.Spec PyProof.Rows
noncomputable def intsOf:ae D->ar (ae ai)
 |[]=>aa []
 |.int i::r=>(intsOf r).map (i::·)
 |_::_=>aj
def uG:ae D->Res D
 |[.lst ds]=>match intsOf ds with
  |some ns=>if ns.all (λi=>ϒ (-9000<=i)&&ϒ (i<=9000))&&ϒ (ns.length<=100000) then .ok (.int ns.sum) else .bad
  |none=>.bad
 |_=>.bad
theorem CJ:∀{ds:ae D}{ns:ae ai},intsOf ds=aa ns->ds=ns.map ι
 |[],ns,h=>by cases h;rfl
 |d::ds,ns,h=>by
  unfold intsOf at h;split at h
  ·rename_i e;cases e
  ·rename_i i r e;cases e;obtain⟨ms,h1,h2⟩:=iO.mp h;subst h2;rw[aI,<-CJ h1]
  ·cases h
theorem XH(ps:ae (ai×em)):∀j,j<=ps.length->preSum (mM ps.toArray) j=((ps.map (·.1)).take j).sum:=by
 intro j;induction j with
 |zero=>intro _;simp[preSum]
 |succ j ih=>
  intro hj;have hlt:j<ps.length:=by lia
  have e:mM ps.toArray j=(ps.map (·.1))[j]'(by simpa using hlt):=by simp[mM,hlt]
  rw[preSum,ih 0x1,e,<-List.take_append_getElem (by simpa using hlt),A9];simp
theorem CK(c:ai)(hc:0<=c):∀(l:ae ai),(∀i∈l,-c<=i/\i<=c)->-(c*l.length)<=l.sum/\l.sum<=c*l.length
 |[],_=>by simp
 |x::l,h=>by
  have h1:=h x (de ..);have h2:=CK c hc l λi hi=>h i (c8 _ hi)
  simp only[ji,bp,Int.natCast_add,Int.mul_add];simp only[Int.natCast_one,Ab];lia
section
variable [KFrag]
section
variable {e:Expr}
theorem mR:∀{ns:ae ai}{ys:ae V}{its:ae am},bJ P H ys (ns.map ι)->Vals ys its->∃ps:ae (ai×em),its=ps.map (λp=>nN p.1 p.2)/\ps.map (·.1)=ns
 |[],_,_,.nil,.nil=>⟨[],rfl,rfl⟩
 |n::ns,_,_,.cons r t,.cons v vs=>by
  obtain⟨ps,h1,h2⟩:=mR t vs;cases r.inv;obtain⟨tk,rfl⟩:=v;exact⟨(n,tk)::ps,by rw[h1];rfl,by rw[aI,h2]⟩
theorem vP(hc:X.calm=ag):nM X (.builtin "sum") (rs uG ag):=by
 rintro Ψ s σ H xs us Q I vr ⟨ds,d,r,e,k⟩;unfold uG at e;split at e
 ·split at e
  ·rename_i ns hns;split at e
   ·rename_i hb;rw[aS] at hb;cases e;obtain⟨vv,uu,rfl,rfl,r,v⟩:=iJ r vr;obtain⟨l,ys,rfl,hl',rr⟩:=r.mK;cases v;rw[CJ hns] at rr;obtain⟨its,vi,il,_⟩:=I.list hl';obtain⟨ps,h1,h2⟩:=mR rr vi;subst h1;have hlen:ps.length=ns.length:=by rw[<-h2,az]
    have hn:ns.length<=100000:=eg hb.2;have hall:∀i∈ns,-9000<=i/\i<=9000:=λi hi=>by
     have:=gq.mp hb.1 i hi;rw[aS,cv,cv] at this;exact this
    have ia:s.heap.IsList l (intItems ps.toArray):=by
     obtain⟨o,n,e1,e2,e3,e4⟩:=il;exact⟨o,e1,e2,n,by simpa[intItems] using e4⟩
    refine sum_intList (I.ok.hd hc) ia (λj hj=>?_) λh' tk t' kp=>⟨.int ns.sum,H,I.kept kp,⟨t',?_⟩,k _ _ (bU.refl H) (.int _) λ_=>.int _⟩
    ·have hj':j<ps.length:=by simpa using hj
     refine⟨?_,?_⟩
     ·have hm:mM ps.toArray j∈ns:=by
       have e:mM ps.toArray j=(ps.map (·.1))[j]'(by simpa using hj'):=by simp[mM,hj']
       rw[e,<-h2];exact xw _
      have:=hall _ hm;unfold InLong;lia
     ·rw[XH ps (j+1) 0x1,h2];have:=CK 9000 0x4 (ns.take (j+1)) λi hi=>hall i (xy hi)
      have hl:(ns.take (j+1)).length<=100000:=c_ (List.length_take_le' ..) hn;unfold InLong;lia
    ·have:=XH ps ps.length (bq _);rw[h2,hlen,Ba] at this;rw[b6,hlen,this]
   ·exact bx e
  ·exact bx e
 ·exact bx e
theorem vQ:eu "sum"=aa (.builtin "sum"):=0x6
end
def DV(H:Hp)(a:al)(kvs:ae (Key×V)):Prop:=H a=aa (.dK kvs)\/(kvs=[]/\H a=aa (.dT []))
theorem aEa:∀{kvs:ae (κ×V)}{vs:ae (κ×am)}{i:ah}{p:κ×V},KV kvs vs->kvs[i]?=aa p->∃u,vs[i]?=aa (p.1,u)/\RelV p.2 u
 |_,_,_,_,.nil,h=>by simp at h
 |_,_,0,_,.cons r _,h=>by
  simp at h;subst h;exact⟨_,by simp[r.1],r.2⟩
 |_,_,i+1,_,.cons _ t,h=>by
  obtain⟨u,h1,h2⟩:=aEa t (by simpa using h);exact⟨u,by simpa using h1,h2⟩
section
variable {a:al}
theorem aKj(hu:DV H a kvs):L2.Mut (H a):=by
 rcases hu with h|⟨_,h⟩<;>rw[h]<;>trivial
theorem XJ(I:Inv X Ψ σ H s)(hu:DV H a kvs):kvs.length<=bo/\(a==gx)=ak/\∃vs,KV kvs vs/\s.heap.DictOf (cH X.prog X.w) a vs:=by
 rcases hu with h|⟨rfl,h⟩
 ·exact RX I.hok h
 ·exact RX (kI I h).hok aK
theorem aKk(I:Inv X Ψ σ H s)(hu:DV H a kvs)(ho:s.heap.get? a=aa o):∃u,H a=aa u/\∀(H':Hp)(h:bc),h.get? a=aa o->gC X.prog X.w H' h a u:=by
 rcases hu with h|⟨_,h⟩
 ·obtain⟨z,hs,vs,rel,o',es,ep,ho',c⟩:=I.hok a _ h;rw[ho] at ho';cases ho';exact⟨_,h,λH' h' e=>⟨z,hs,vs,rel,o,es,ep,e,c⟩⟩
 ·obtain⟨z,hs,xs,rel,o',es,ep,ho',c⟩:=I.hok a _ h;rw[ho] at ho';cases ho';cases rel;exact⟨_,h,λH' h' e=>⟨z,hs,[],.nil,o,es,ep,e,c⟩⟩
end
theorem O3(ea:∀ob,H a=aa ob->M4 ob=ag)(b:al)(o:HO)(e:H b=aa o)(h:M4 o=ak):upd H a u b=aa o:=by
 rw[aP λz=>by rw[z] at e;rw[ea _ e] at h;cases h];exact e
theorem xT{P:al->Prop}(ea:∀ob,H a=aa ob->M4 ob=ag)(q:Rep P H v d)(h:d.pure=ag):Rep P (upd H a u) v d:=q.tY (O3 ea) h
theorem uH{P:al->Prop}(ea:∀ob,H a=aa ob->M4 ob=ag)(q:bJ P H v d)(h:ε d=ag):bJ P (upd H a u) v d:=q.tY (O3 ea) h
structure aOr(K:bi)(x qual:Str)(st:bz)(f:al)(fd:dm)(T:al)(its:br am):Prop where
 ex:∃(oc:am)(od:ar al)(kV doc pm:am)(an:ar al)(cdv ct:am)(osl:br (ar am)),
  fd=kM x qual (jV st) (dR st) (aN st) (.ref T) kV doc pm an cdv ct/\K.lookup f=aa ⟨oc,od,.func fd,osl⟩/\sk K cdv qual=ag
 kp:gl K (.ref f)=ag
 df:∃(tc:am)(td:ar al)(tn:ah)(tl:br (ar am)),K.lookup T=aa ⟨tc,td,.seq its tn,tl⟩
structure aRq(P:bS)(w:bu)(K:bi)(mg:Str->ar am)(base:bc)(k:ah)(x kw:Str)(n:ah)(df:D)(f:ae D->Res D):Prop where
 ex:∃(fad:al)(fd:dm)(ps:ae Str)(u:am)(v:V),lJ P w K mg base CX0 k fad fd ps (spD f (n+1))/\mg x=aa (.ref fad)/\gl K (.ref fad)=ag/\Binds K fd ps []/\Binds K fd ps [u]/\RelV v u/\(∀H:Hp,Rep All H v df)/\
  ∀(s:au)(us:ae am)(y:am),K.In s.heap->us.length=n->kL s fd ⟨us,[(kw,y)]⟩ (ps.zip (us++[y]))
end
def xU:D->D->Res D
 |.tup a,.tup b=>if ϒ (a.length+b.length<=lim) then .ok (.tup (a++b)) else .bad
 |_,_=>.bad
def mV:ae D->ae D->ae (D×D)->ae (D×D)
 |k::ks,v::vs,m=>mV ks vs (putD m k v)
 |_,_,m=>m
noncomputable def O4(c:FT)(body:FS):ah->ae D->Res Fl
 |0,_=>.bad
 |n+1,ρ=>do
  let k <- c ρ
  if k then (do
   let r <- body ρ
   match r with
   |.nx ρ'=>O4 c body n ρ'
   |.ct ρ'=>O4 c body n ρ'
   |.bk ρ'=>.ok (.nx ρ')
   |.rt d=>.ok (.rt d))
  else .ok (.nx ρ)
def aNr(c:FT)(body:FS):FS:=λρ=>O4 c body 9000 ρ
section
variable [KFrag]
section
theorem mW:OpR X (eB .Add) (r2 xU ak):=by
 intro Ψ s σ H x y v u Q I rx ry h;obtain⟨a,b,d,p,q,e,k⟩:=h;unfold xU at e;split at e
 ·rename_i da db;split at e
  ·rename_i hl;cases e;obtain⟨l1,xs1,rfl,e1,r1⟩:=p.inv;obtain⟨l2,xs2,rfl,e2,r2⟩:=q.inv;cases rx;cases ry;have hz:xs1.length+xs2.length<=bo:=by rw[r1.length,r2.length];exact jK hl
   obtain⟨its,w1,p1,_⟩:=I.tuple (.of e1);obtain⟨its2,w2,p2,_⟩:=I.tuple (.of e2);obtain⟨⟨cls,dd,data,sl⟩,ho,hc,n,hd⟩:=id p1;obtain⟨⟨cls2,dd2,data2,sl2⟩,ho2,hc2,n2,hd2⟩:=id p2;simp only at hc hd hc2 hd2;by_cases hv:its=[]
   ·have:xs1=[]:=w1.tO.mp hv;subst this;cases r1;refine sr ⟨_,ho,hc⟩ ⟨_,ho2,hc2⟩ su sv sw sx (sA _ _)
     (tuple_addW0 l1 l2 its.toArray its2.toArray n n2 dd dd2 sl sl2 (by simp[hv])) ⟨by subst hc hd;exact ho,by subst hc2 hd2;exact ho2,.ref l2,H,I,rfl,?_⟩
    exact k.self (.tup e2 r2) (λz=>by cases z)
   ·refine aFy Ψ s σ H (.ref l1) (.ref l2) _ _ Q I rfl rfl ⟨l1,l2,xs1,xs2,rfl,rfl,.of e1,.of e2,λz=>hv (w1.tO.mpr z),hz,λz=>?_,λz p hp=>?_⟩
    ·subst z;cases r2;rw[b5] at k;exact k.self (.tup e1 r1) (λz=>by cases z)
    ·have sp:bU H (upd H p (.tup (xs1++xs2))):=bU.upd hp;exact k _ _ sp (.tup aK ((r1.append r2).same sp)) λz=>by cases z
  ·exact bx e
 ·exact bx e
theorem XM(hp:lI (ay X.prog X.w) X.A X.env X.xe)(hc:PT X c (gT gc))(hb:PSs X body (tS own fb)):PS X (.While c body [] pos) (tS own (aNr gc fb)):=
 PS.imp (K9 hp hc hb) λD σ H z0=>by
 obtain⟨ρ,fl,E,h,q⟩:=z0;refine⟨λm σ' H'=>∃ρ' ,ES own H' σ' ρ'/\O4 gc fb m ρ'=.ok fl/\kS own D σ' H' fl,⟨9000,ρ,E,h,q⟩,?_⟩;rintro m σ H ⟨ρ,E,h,q⟩;cases m with
 |zero=>exact bx h
 |succ m=>
  rw[O4] at h;obtain⟨k,h1,h2⟩:=aU h;refine⟨ρ,k,E.er,h1,λH1 s=>?_⟩;cases k with
  |true=>
   rw[aq rfl];rw[aq rfl] at h2;obtain⟨r,h3,h4⟩:=aU h2;refine⟨λσ' H'=>∃ρ',ES own H' σ' ρ'/\O4 gc fb m ρ'=.ok fl/\kS own D σ' H' fl,λσ' H' w=>⟨m,l7 m,w⟩,ρ,r,E.same s,h3,?_⟩;have q1:=q.step (.same s);cases r with
   |nx ρ'=>exact λσ' H' ku E'=>⟨ρ',E',h4,q1.step ku⟩
   |ct ρ'=>exact λσ' H' ku E'=>⟨ρ',E',h4,q1.step ku⟩
   |bk ρ'=>cases h4;exact λσ' H' ku E'=>q1 σ' H' ku E'
   |rt d=>cases h4;exact q1
  |false=>
   rw[aw 0x2];rw[aw 0x2] at h2;cases h2;exact(q.step (.same s)) σ H1 (λa o e n=>⟨e,n⟩) (E.same s)
end
end
variable [KFrag]
theorem aKl(h:(cH P w).is k v=ag):RelV (kV k) v:=by
 have h:HD k v=ag:=h;rcases cY h with ⟨i,t,rfl,rfl⟩|⟨x,t,rfl,rfl⟩
 ·exact⟨t,rfl⟩
 ·exact⟨t,rfl⟩
section
variable {a:al}
theorem aC4(I:Inv X Ψ σ H s)(e:H a=aa (.frz o u))(hn:∀o u,X.H₀ a≠aa (.frz o u)):Inv X Ψ σ (upd H a u) s:=by
 have ne:∀b,H b=aj->b≠a:=λb h z=>by subst z;rw[e] at h;cases h
 have keepT:∀b xs,H b=aa (.tup xs)->upd H a u b=aa (.tup xs):=λb xs h=>by
  rw[aP (λz=>by subst z;rw[e] at h;cases h)];exact h
 have keepO:∀b x,H b=aa (.own x)->upd H a u b=aa (.own x):=λb x h=>by
  rw[aP (λz=>by subst z;rw[e] at h;cases h)];exact h
 refine⟨I.ok,I.os,I.bare,⟨I.base.keep,I.base.slot,λb o h1 h2 h3=>?_,I.base.there,λb xs h=>?_,λb o' u' h=>?_,λb ps h=>?_⟩,I.loc,I.cell,?_,λx c h=>?_,λp hp=>?_,λb ob h=>?_,I.len⟩
 ·have:=I.base.free b o h1 h2 h3;rw[aP (ne b this)];exact this
 ·exact keepT b xs (I.base.tups b xs h)
 ·have:=I.base.frzs b o' u' h;rw[aP (λz=>by subst z;exact hn _ _ h)];exact this
 ·obtain⟨more,h1⟩:=I.base.tbls b ps h;refine⟨more,?_⟩;rw[aP (λz=>by subst z;rw[e] at h1;cases h1)];exact h1
 ·rw[aP (ne _ I.free)];exact I.free
 ·have:=I.freeC x c h;rw[aP (ne _ this)];exact this
 ·obtain⟨h1,h2,h3⟩:=I.pin p hp;exact⟨h1,by rw[aP (ne _ h2)];exact h2,h3⟩
 ·by_cases hb:b=a
  ·subst hb;rw[aK] at h;cases h;obtain⟨_,h2⟩:=I.hok b _ e;exact h2.stay (λ_ _ _ q=>q) (λc hc=>keepO c b hc) keepT
  ·rw[aP hb] at h;exact(I.hok b _ h).stay (λ_ _ _ q=>q) (λc hc=>keepO c b hc) keepT
end
end Mi
namespace Wz
open PySem PySem.Spec
noncomputable abbrev itO(t:al)(i:ah):bn:={cls:=.type "tuple_iterator",data:=.fields #[.ref t,.int i 0]}
noncomputable abbrev tuO(xs:br am)(n:ah)(dd:ar al)(sl:br (ar am)):bn:={cls:=.type "tuple",dict:=dd,data:=.seq xs n,slots:=sl}
abbrev zpO(f0 f1:am)(TI TO:al):bn:={cls:=.type "zip",data:=.fields #[f0,f1,.bool ak,.ref TI,.ref TO]}
noncomputable abbrev prO(a b:am):bn:={cls:=.type "tuple",data:=.seq #[a,b]}
theorem R9(it t:al)(i:ah)(xs:br am)(n:ah)(dd:ar al)(sl:br (ar am))(x:am)(hx:xs[i]?=aa x) :
  lj (dn.«tuple_iterator.__next__» ⟨[.ref it],[]⟩) (λ_ R s=>s.heap.get? it=aa (itO t i)/\s.heap.get? t=aa (tuO xs n dd sl)/\R (.ok (.ret x)) {s with heap:=s.heap.update it (mT (·.setIfInBounds 1 (cz (i+1))))}):=.of_wp λprog w A R s hs=>by
 obtain⟨hp,g,d,tk,os⟩:=s;obtain⟨e1,e2,hq⟩:=hs
 wp_walk
 rw[ik,hx]
 wp_walk
 exact⟨_,rfl,hq⟩
theorem R_(it t:al)(i:ah)(xs:br am)(n:ah)(dd:ar al)(sl:br (ar am))(hx:xs[i]?=aj) :
  lj (dn.«tuple_iterator.__next__» ⟨[.ref it],[]⟩) (λA R s=>A.handled=aj/\s.heap.get? it=aa (itO t i)/\s.heap.get? t=aa (tuO xs n dd sl)/\∀h' e,ug it s.heap h'->(∃o,h'.get? e=aa o/\o.cls=.type "StopIteration")->R (.error (.ref e)) {s with heap:=h'}):=.of_wp λprog w A R s hs=>by
 obtain⟨hp,g,d,tk,os⟩:=s;obtain⟨hh,e1,e2,hq⟩:=hs
 wp_walk
 rw[ik,hx]
 wp_walk
 have hh1:A.in1.handled=aj:=hh;unfold raiseNew
 wp_walk
 exact hq _ _ (((ng ..).extBut.push _).push _) ⟨_,c6 _ rfl,rfl⟩
section
variable {prog:bS} {w:bu} {A:cf} {E:am->au->Prop} {s:au} {it t:al} {i:ah} {xs:br am} {x:am} {n:ah} {dd:ar al} {sl:br (ar am)}
theorem drawn{Q:am->au->Prop}(e1:s.heap.get? it=aa (itO t i))(e2:s.heap.get? t=aa (tuO xs n dd sl))(hx:xs[i]?=aa x)
 (q:∀h',h'.get? it=aa (itO t (i+1))->e9 it s.heap h'->Q x {s with heap:=h'}):ϑ (ay prog w) A (km (.ref it)) Q E s:=by
 have ty:s.TypeIs (.ref it) "tuple_iterator":=⟨_,e1,rfl⟩
 refine ao (jb ty uh ?_);refine ka uh ty Bb (Bc _) (R9 it t i xs n dd sl x hx) ⟨e1,e2,aE (q _ ?_ (ng ..))⟩;exact ib _ e1 rfl
theorem over{Q:am->au->Prop}(hh:A.handled=aj)(e1:s.heap.get? it=aa (itO t i))(e2:s.heap.get? t=aa (tuO xs n dd sl))(hx:xs[i]?=aj)
 (q:∀h' e,ug it s.heap h'->(∃o,h'.get? e=aa o/\o.cls=.type "StopIteration")->E (.ref e) {s with heap:=h'}):ϑ (ay prog w) A (km (.ref it)) Q E s:=by
 have ty:s.TypeIs (.ref it) "tuple_iterator":=⟨_,e1,rfl⟩
 refine ao (jb ty uh ?_);exact ka uh ty Bb (Bc _) (R_ it t i xs n dd sl hx) ⟨hh,e1,e2,λh' e k o=>q h' e k o⟩
end
structure Apart(z TI TO i1 i2 l1 l2:al):Prop where
 zTI:z≠TI
 zTO:z≠TO
 z1:z≠i1
 z2:z≠i2
 zl:z≠l1
 zm:z≠l2
 TT:TI≠TO
 T1:TI≠i1
 T2:TI≠i2
 O1:TO≠i1
 O2:TO≠i2
 Ol:TO≠l1
 Om:TO≠l2
 ij:i1≠i2
 il:i1≠l1
 im:i1≠l2
 jl:i2≠l1
 jm:i2≠l2
def aC5(z TO i1 i2:al)(h h':bc):Prop:=∀c o,c≠z->c≠TO->c≠i1->c≠i2->h.get? c=aa o->h'.get? c=aa o
noncomputable abbrev nxt(z:al):Sem xA:=dn.«zip.__next__» ⟨[.ref z],[]⟩
abbrev Got(Q:am->au->Prop):xA->au->Prop:=λr t=>∃v,r=.done (.ret v)/\Q v t
section
theorem there(e:s.heap.get? c=aa o)(q:Q (aa o) s):ϑ (ay prog w) A (loadIfAlive c) Q E s:=λΓ p _=>by
 show Sem.wp _ Γ (.loadIfAlive c pure) _ _ p s;rw[Sem.wp_loadIfAlive,e];exact q
end
theorem five(h:bc)(a b c d e:bn)(fa:a.isFreed=ak)(fb:b.isFreed=ak)(fc:c.isFreed=ak)(fd:d.isFreed=ak)(fe:e.isFreed=ak) :
  (((((h.push a).push b).push c).push d).push e).get? h.objs.size=aa a/\(((((h.push a).push b).push c).push d).push e).get? (h.objs.size+1)=aa b/\(((((h.push a).push b).push c).push d).push e).get? (h.objs.size+2)=aa c/\(((((h.push a).push b).push c).push d).push e).get? (h.objs.size+3)=aa d/\(((((h.push a).push b).push c).push d).push e).get? (h.objs.size+4)=aa e/\
  (∀x o,h.get? x=aa o->(((((h.push a).push b).push c).push d).push e).get? x=aa o)/\(((((h.push a).push b).push c).push d).push e).objs.size=h.objs.size+5:=by
 have z1:(h.push a).objs.size=h.objs.size+1:=dS ..;have z2:((h.push a).push b).objs.size=h.objs.size+2:=(dS ..).trans (by rw[z1]);have z3:(((h.push a).push b).push c).objs.size=h.objs.size+3:=(dS ..).trans (by rw[z2]);have z4:((((h.push a).push b).push c).push d).objs.size=h.objs.size+4:=(dS ..).trans (by rw[z3]);have up:∀{h:bc}{x:al}{o q:bn},h.get? x=aa o->(h.push q).get? x=aa o:=λe=>bP _ e
 have g2:=c6 (h.push a) (o:=b) fb;have g3:=c6 ((h.push a).push b) (o:=c) fc;have g4:=c6 (((h.push a).push b).push c) (o:=d) fd;have g5:=c6 ((((h.push a).push b).push c).push d) (o:=e) fe;rw[z1] at g2;rw[z2] at g3;rw[z3] at g4;rw[z4] at g5;exact⟨up (up (up (up (c6 h fa)))),up (up (up g2)),up (up g3),up g4,g5,λx o q=>up (up (up (up (up q)))),(dS ..).trans (by rw[z4])⟩
theorem XN:kN (.type "zip") "keys"=pure aj:=by rw[i0,i5];kernel_rfl
theorem noGet:kN (.type "zip") "__getattr__"=pure aj:=by rw[i0,i5];kernel_rfl
theorem XQ:nh nj "zip.__getattribute__"=aa dn.«object.__getattribute__»:=xB (id':= "object.__getattribute__") 0x8 0x6 0x6 0x8
theorem oM(a:al)(f0 f1:am)(TI TO:al)(u:em):lj (dn.«object.__getattribute__» ⟨[.ref a,.str "keys" u],[]⟩) (λA R s=>s.heap.get? a=aa (zpO f0 f1 TI TO)/\raisesAttr (.ref a) "keys" A R s):=.of_wp λprog w A R s hs=>by
 obtain⟨hp,g,d,tk,os⟩:=s;obtain⟨e,hh,q⟩:=hs;have ty:(⟨hp,g,d,tk,os⟩:au).TypeIs (.ref a) "zip":=⟨_,e,rfl⟩
 have no:=XN
 wp_walk
 exact Bd hh q (Be 0x6 (by size_fits))
section
variable {prog:bS} {w:bu} {A:cf} {E:am->au->Prop} {hp:bc} {g:br qr} {d:qt} {tk:ah} {os:qu} {a TI TO:al} {f0 f1:am}
theorem gone{u:em}{kw:ae (Str×am)}{Q:am->au->Prop}(e:hp.get? a=aa (zpO f0 f1 TI TO))(hh:A.handled=aj)(hk:kw=[])(q:∀h' tk' x,Bf hp h' x (.ref a) "keys"->E (.ref x) ⟨h',g,d,tk',os⟩) :
  ϑ (ay prog w) A (call (.builtin "zip.__getattribute__") ([.ref a]++[.str "keys" u]) kw) Q E ⟨hp,g,d,tk,os⟩:=by
 subst hk;exact ka xC ⟨_,e,rfl⟩ XQ (F.args_zip_getattribute_2 _ _) (oM a f0 f1 TI TO u) ⟨e,hh,λh' tk' x hx=>q h' tk' x hx⟩
theorem lacks{Q:ar am->au->Prop}(e:hp.get? a=aa (zpO f0 f1 TI TO))(hh:A.handled=aj)(q:∀h' tk',(∀b o,hp.get? b=aa o->h'.get? b=aa o)->Q aj ⟨h',g,d,tk',os⟩):ϑ (ay prog w) A (ue (.ref a) "keys") Q E ⟨hp,g,d,tk,os⟩:=by
 have ty:∀tk',(⟨hp,g,d,tk',os⟩:au).TypeIs (.ref a) "zip":=λ_=>⟨_,e,rfl⟩
 have f3:=xC.lookup;have f4:=xC.bind (.ref a);have f5:=noGet;have sub:=Bg
 wp_walk using gone e hh
 case hk=>rfl
 intro h' tk' x hx;obtain⟨t,u,ex⟩:=hx.there;show ϑ _ _ (Bh _ _ _ _ _ _ _) _ _ _
 wp_walk
 exact q _ _ hx.keeps
end
section
variable {d:al}
theorem apart{h:bc}{c d:al}{o od:bn}{T:gf}(e:h.get? c=aa o)(hc:o.cls=.type T)(ed:h.get? d=aa od)(hd:od.cls=.type "dict")(ne:(fI T==fI "dict")=ak):c≠d:=λq=>by
 subst q;rw[e] at ed;cases ed;rw[hc] at hd;rw[hd] at ne;simp at ne
end
theorem kO:nh nj "dict.update.loop"=aa dn.«dict.update.loop»:=xD 0x8
end Wz
namespace Mi
open PySem L2 PySem.SeqAt PySem.Spec PyProof.Rows
section
variable [KFrag]
theorem boot_zip:eu "zip"=aa (.type "zip"):=0x6
theorem xV:eu "dict"=aa (.type "dict"):=0x6
theorem XR{pr:bS}:∀{vs:ae V}{us:ae am}{ds:ae D},bJ P H vs ds->Vals vs us->ds.all gD=ag->∃ks:ae Key,ks.map kD=ds/\ks.length=us.length/\∀(i:ah)(u:am),us[i]?=aa u->∃k,ks[i]?=aa k/\(cH pr w).is k u=ag:=by
 intro vs us ds;induction ds generalizing vs us with
 |nil=>intro a b h;cases a;cases b;exact ⟨[],rfl,rfl,λi u h=>by simp at h⟩
 |cons d ds ih=>
  intro a b h;rcases a with _|⟨r,t⟩;rcases b with _|⟨rv,tv⟩;rename_i u _
  rw[ig,aS] at h;obtain⟨ks,h1,h2,h3⟩:=ih t tv h.2;obtain⟨k,hk1,hk2⟩:∃k:Key,kD k=d/\(cH pr w).is k u=ag:=by
   cases r with
   |int i=>exact⟨.inl i,rfl,z7 rv⟩
   |str x=>exact⟨.inr x,rfl,z7 rv⟩
   |_=>cases h.1
  refine⟨k::ks,by rw[aI,hk1,h1],by rw[bp,bp,h2],λi u' hu=>?_⟩;cases i with
  |zero=>simp at hu;subst hu;exact⟨k,rfl,hk2⟩
  |succ i=>exact h3 i u' (by simpa using hu)
theorem xW(r:Rep P H v d):∀{kvs:ae (Key×V)}{ds:ae (D×D)},fV P H kvs ds->(kvs.map (·.1)).Nodup->fV P H (putK kvs k v) (putD ds (kD k) d)
 |_,_,.nil,_=>.cons r .nil
 |_,_,.cons (k:=k') r' t,hn=>by
  rw[aI,fz] at hn;rw[putD,WL];by_cases h:k'=k
  ·rw[xM h (by rw[<-h];exact hn.1),aq (bt h),h];exact .cons r t
  ·rw[xN h,aw (by simpa using h)];exact .cons r' (xW r t hn.2)
theorem O5:∀{ks:ae Key}{vs:ae V}{ds:ae D}{kvs:ae (Key×V)}{es:ae (D×D)},bJ P H vs ds->fV P H kvs es->(kvs.map (·.1)).Nodup->fV P H (fQ kvs (ks.zip vs)) (mV (ks.map kD) ds es)/\((fQ kvs (ks.zip vs)).map (·.1)).Nodup
 |[],_,_,_,_,_,r,n=>by
  rw[List.zip_nil_left];exact⟨by cases ‹ae D›<;>exact r,n⟩
 |k::ks,_,_,kvs,es,.nil,r,n=>⟨r,n⟩
 |k::ks,_,_,kvs,es,.cons rv tv,r,n=>O5 (ks:=ks) tv (xW rv r n) (iW n)
theorem aKm(r:Vals vs us):∀ks:ae Key,KV (ks.zip vs) (ks.zip us):=by
 induction r with
 |nil=>intro ks;rw[Bi,Bi];exact .nil
 |cons h t ih=>
  intro ks;cases ks with
  |nil=>exact .nil
  |cons k ks=>exact .cons ⟨rfl,h⟩ (ih ks)
theorem XS{n l m:ah}(hl:l<n)(hm:m<n):Wz.Apart (n+4) (n+2) (n+3) n (n+1) l m:=by
 constructor<;>(intro h;replace h:@Eq ah _ _:=h;lia)
end
noncomputable def SJ(i j:ah):FS:=λρ=>match ρ.getD i .uD with
 |.lst xs=>(match xs[xs.length-1]? with|some x=>.ok (.nx ((ρ.set i (.lst xs.dropLast)).set j x))|none=>.bad)
 |_=>.bad
def aKn(i:ah)(f:FE):FS:=λρ=>do
 let d <- f ρ
 match ρ.getD i .uD,d with
 |.lst xs,.lst ys=>if ϒ (xs.length+ys.length<=lim)&&ε ys then .ok (.nx (ρ.set i (.lst (xs++ys)))) else .bad
 |_,_=>.bad
noncomputable def aNs:ae D->Res D
 |[.bl b]=>.ok (.int (if b then 1 else 0))
 |[.int i]=>.ok (.int i)
 |_=>.bad
variable [KFrag]
theorem XX:nM X (.type "int") (rs aNs ag):=by
 rintro Ψ s σ H xs us Q I vr ⟨ds,d,r,e,k⟩;unfold aNs at e;split at e
 ·cases e;obtain⟨vv,uu,rfl,rfl,r,v⟩:=iJ r vr;cases r.inv;cases v;exact call_int_bool ⟨.int _,H,I.tok _,⟨_,rfl⟩,k.int⟩
 ·cases e;obtain⟨vv,uu,rfl,rfl,r,v⟩:=iJ r vr;cases r.inv;obtain⟨t,rfl⟩:=v;exact call_int_int ⟨.int _,H,I,⟨_,rfl⟩,k.int⟩
 ·exact bx e
section
theorem X3(ho:own i=ag)(hN:X.N[i]?=aa x)(hv:Vis X.env.scope x)(hnd:X.N.Nodup)(hj:X.N[j]?=aa y)(hy:Loc X.env.scope y)(hoj:own j=ak)(hd:autoParam (nDb x) Λ)(hcd:autoParam (nCd x) Λ)
 (hbase:autoParam (gm (.Name x p1) "pop" X.env (eval (.Name x p1) X.env)=eval (.Name x p1) X.env) Ω)
 (hline:autoParam ((apos.endLine==cpos.line)=ag) Ω)
 (hs:autoParam (eL (.Call (.Attribute (.Name x p1) "pop" apos) [] [] cpos) (aa (.Name y py)) pos.line X.env=pure ak) Ω)(hf:autoParam (zFn X y) Ξ) :
  PS X (.Assign [.Name y py] (.Call (.Attribute (.Name x p1) "pop" apos) [] [] cpos) pos) (tS own (SJ i j)):=
 PS.imp (K8 hnd hj hy (MJ iX sQ xE VH (aV hN hv hd hcd) hbase hline) hs hf) λD' σ H z0=>by
 obtain⟨ρ,fl,E,h,q⟩:=z0;unfold SJ at h;split at h
 ·rename_i xs hx;split at h
  ·rename_i dx hdx;cases h;obtain⟨a,o,hσ,r,hin,ha,hm⟩:=E.ownAt ho (by rw[hx];intro z;cases z);rw[hx] at r hin;obtain⟨vs,hl,rr⟩:=BW r;obtain⟨v,hvx,rv⟩:=rr.get hdx;have hlen:=rr.length;refine⟨_,hσ,.inl ⟨rfl,vs,.of hl⟩,a,vs,v,rfl,rfl,hl,by rw[hlen];exact hvx,?_⟩;have hin':ε xs=ag:=hin;have pall:∀y∈xs,y.pure=ag:=λy hy=>cQ.mp hin' y hy
   have pdx:dx.pure=ag:=pall dx (jI hdx);have pe:ε xs.dropLast=ag:=cQ.mpr λy hy=>pall y (Bj _ hy)
   have er:bJ All H vs.dropLast xs.dropLast:=by
    rw[ui,ui,hlen];exact rr.take _
   obtain⟨E2,k2⟩:=E.mut ho hσ rfl (.lst aK trivial (er.upd pe hl rfl)) pe;have r1:=(bJ.cons rv .nil).upd (o:=.lst vs.dropLast) (by rw[ε,pdx];rfl) hl rfl;cases r1 with
   |cons r1 _=>
    have E3:=E2.set hoj (r1.bL pdx);exact q _ _ (k2.trans λb ob eb nb=>⟨eb,by rw[jX hoj];exact nb⟩) E3
  ·exact bx h
 ·exact bx h
theorem aEb(ho:own i=ag)(hN:X.N[i]?=aa x)(hv:Vis X.env.scope x)(he:PE X e (gE fe re))(hd:autoParam (nDb x) Λ)(hcd:autoParam (nCd x) Λ)
 (hbase:autoParam (gm (.Name x p1) "extend" X.env (eval (.Name x p1) X.env)=eval (.Name x p1) X.env) Ω)
 (hs1:autoParam (zSE X e []) Ω)
 (hfew:autoParam (zFw X cpos [e]) Ω)
 (hline:autoParam ((apos.endLine==cpos.line)=ag) Ω)
 (hs:autoParam (eL (.Call (.Attribute (.Name x p1) "extend" apos) [e] [] cpos) aj pos.line X.env=pure ak) Ω) :
  PS X (.Expr (.Call (.Attribute (.Name x p1) "extend" apos) [e] [] cpos) pos) (tS own (aKn i fe)):=
 PS.imp (jU (zZ iX xh Bk z6 (aV hN hv hd hcd) (bH he dM hs1) hbase hfew hline hs1 rfl) hs) λD' σ H z0=>by
 obtain⟨ρ,fl,E,h,q⟩:=z0;obtain⟨d,h1,h2⟩:=aU h;split at h2
 ·rename_i xs ys hx;split at h2
  ·rename_i hk;cases h2;rw[aS,cv] at hk;obtain⟨a,o,hσ,r,hin,ha,hm⟩:=E.ownAt ho (by rw[hx];intro z;cases z);rw[hx] at r hin;obtain⟨vs,hl,rr⟩:=BW r;refine⟨_,hσ,.inl ⟨rfl,vs,.of hl⟩,ρ,_,E.er,h1,λv H' s rv _=>?_⟩;obtain⟨b,zs,rfl,hb,_,rz⟩:=rv.inv;have E':=E.same s;have hl':=s _ _ hl;refine⟨a,b,vs,zs,rfl,rfl,hl',hb,by rw[rr.length,rz.length];exact c_ hk.1 (by rw[dg];decide),?_⟩;have hp:ε (xs++ys)=ag:=by rw[gU,aS];exact⟨hin,hk.2⟩
   obtain⟨E2,k2⟩:=E'.mut ho hσ rfl (.lst aK trivial (((rr.same s).append rz).upd hp hl' rfl)) hp;exact q _ _ ((KU.same s).trans k2) E2
  ·exact bx h2
 ·exact bx h2
end
end Mi
namespace Ws
open PySem PySem.Spec PySem.Builtin PySem.SeqAt PyProof.Rows
section
theorem X4(e:am->ax)(hj:j<items.size)
 (hit:e items[j]=ag)(hno:∀m (hm:m<items.size),m<j->e items[m]=ak)(ht:jr s.heap l items)(he:∀y,y∈items->EqAt A s y x (e y))(h:R (.done (.ret (.int j s.toks))) {s with toks:=s.toks+1}) :
  ϑ (ay prog w) A (dn.«tuple.index» ⟨[.ref l,x],[]⟩) R E s:=by
 show ϑ _ _ (sC (.ref l) >>= _) _ _ s;refine ao (sD ht ?_);show ϑ _ _ (bind (forIn [0:Min.min items.size items.size] _ _) _) _ _ s;rw[C8];refine ao (wpAny_forIn_list _ (λrest b s'=>b.1=aj/\s'=s/\∃k,rest=hI k (items.size-k)/\k<=j) _ ?_ ?_ _ _ ⟨rfl,rfl,0,by simp[C9],d6 _⟩)
 ·rintro y rest b s' ⟨hb,rfl,k,hk,hkj⟩;have hlt:k<items.size:=oz hkj hj;rw[show items.size-k=(items.size-(k+1))+1 by lia,kq] at hk;injection hk with h1 h2
  subst h1;have hi:items[y]?=aa items[y]:=by simp[hlt]
  show ϑ _ _ (match items[y]? with|some z=>_|x=>_) _ _ s';rw[hi];refine ao (he _ (Array.getElem_mem hlt) prog w _ _ ?_);by_cases hyj:y=j
  ·subst hyj;rw[hit];show ϑ _ _ (uj y >>= _) _ _ s';unfold uj;exact ao (ao (ul (aE (aE (aE h)))))
  ·rw[hno y hlt 0x1];exact aE ⟨rfl,rfl,y+1,h2,by lia⟩
 ·rintro⟨b1,b2⟩ s' ⟨hb,rfl,k,hk,hkj⟩;rw[show items.size-k=(items.size-(k+1))+1 by lia,kq] at hk;cases hk
end
end Ws
namespace Mi
open PySem L2 PySem.SeqAt PySem.Spec PyProof.Rows
def aC6(y:D):ae D->ar ah
 |[]=>aj
 |z::r=>if eqD z y then aa 0 else (aC6 y r).map (·+1)
def vR:D->ae D->Res D
 |.tup xs,[y]=>if y.iK bB&&υ bB xs then (match aC6 y xs with|some j=>.ok (.int j)|none=>.bad) else .bad
 |_,_=>.bad
section
variable [KFrag]
theorem X5:∀{xs:ae V}{ds:ae D}{its:ae am}{j:ah},υ bB ds=ag->bJ All H xs ds->Vals xs its->aC6 a ds=aa j->∃hj:j<its.length,eqD (R5 H its[j]) a=ag/\∀m (hm:m<its.length),m<j->eqD (R5 H its[m]) a=ak:=by
 intro xs ds its j;induction ds generalizing xs its j with
 |nil=>intro hq c b h;cases c;cases b;cases h
 |cons d ds ih=>
  intro hq c b h;rcases c with _|⟨r,t⟩;rcases b with _|⟨v,vt⟩
  rw[υ,aS] at hq;rw[aC6] at h;split at h
  ·rename_i he;cases h;refine⟨Nat.zero_lt_succ _,?_,λm hm z=>bd z (xI _)⟩;rw[Bl,xJ hq.1 v r];exact he
  ·rename_i he;obtain⟨k,h1,rfl⟩:=iO.mp h;obtain⟨hj,h2,h3⟩:=ih hq.2 t vt h1;refine⟨Nat.succ_lt_succ hj,by rw[Bm];exact h2,λm hm z=>?_⟩;cases m with
   |zero=>rw[Bl,xJ hq.1 v r];exact xv.mpr he
   |succ m=>rw[Bm];exact h3 m (xL hm) (xL z)
section
variable {X:Cx}
theorem X6(hu:X.A.units+20<c9):MtR X "tuple.index" (rm vR ag):=by
 rintro Ψ s σ H x xs v us Q I rv vr ⟨a,ds,d,ra,rs,h,k⟩;unfold vR at h;split at h
 ·rename_i ys y;split at h
  ·rename_i hl;rw[aS] at hl;split at h
   ·rename_i j hj;cases h;obtain⟨vv,uu,rfl,rfl,r,rk⟩:=iJ rs vr;obtain⟨l,zs,rfl,ee,rr⟩:=ra.iD;cases rv;obtain⟨its,vr',pl⟩:=j_ I ee;obtain⟨h1,h2,h3⟩:=X5 hl.2 rr vr' hj;have mm:=λw hw=>JM I hu hl.1 r rk hl.2 rr vr' w hw
    obtain⟨⟨cls,dd,data,sl⟩,ho,hc,n,hd⟩:=id pl;have hfin:EP X Ψ σ Q (.int j s.toks) {s with toks:=s.toks+1}:=⟨.int j,H,I.tok _,⟨_,rfl⟩,k.int⟩
    refine jw (qp ya.plain F.entry_tuple_index (ya.check _ _ _ _ _ _ _ _ ⟨_,ho,hc⟩ (F.args_tuple_index_2 _ _) ?_));exact Ws.X4 (λu=>eqD (R5 H u) y) (by simpa using h1) (by simpa using h2) (λm hm hmj=>by simpa using h3 m (by simpa using hm) hmj) pl (λw hw=>mm w (by simpa using hw)) hfin
   ·exact bx h
  ·exact bx h
 ·exact bx h
theorem X7(h:vR d ds=.ok r)(rp:Rep All H v d):tyV X.K "tuple" v H:=by
 unfold vR at h;split at h
 ·obtain⟨a,xs,rfl,e,_⟩:=rp.iD;exact .inr (.inl ⟨rfl,.inr ⟨_,e⟩⟩)
 ·exact bx h
end
end
noncomputable def X8(x:Str):ae D->ar ah
 |[]=>aa 0
 |.str y::r=>(X8 x r).map λn=>(if y==x then n+1 else n)
 |_::_=>aj
def CN:D->ae D->Res D
 |.tup xs,[.str y]=>match X8 y xs with|some n=>.ok (.int n)|none=>.bad
 |_,_=>.bad
noncomputable def aC7(x:Str):am->ax
 |.str y _=>y==x
 |_=>ak
variable [KFrag]
theorem aEc:∀{zs:ae V}{ds:ae D}{its:ae am}{n:ah},X8 x ds=aa n->bJ P H zs ds->Vals zs its->its.countP (aC7 x)=n/\∀u∈its,Bn u (.str x t) (aC7 x u):=by
 intro zs ds its n;induction ds generalizing zs its n with
 |nil=>intro h a b;cases a;cases b;cases h;exact⟨rfl,λu hu=>by cases hu⟩
 |cons d ds ih=>
  intro h a b;rcases a with _|⟨r,rt⟩;rcases b with _|⟨v,vt⟩
  cases d with
  |str y=>
   obtain⟨m,h1,rfl⟩:=iO.mp h;obtain⟨i1,i2⟩:=ih h1 rt vt;cases r.inv;obtain⟨tk,rfl⟩:=v;refine⟨?_,λu hu=>?_⟩
   ·rw[Bo,i1];show m+(if (y==x)=ag then 1 else 0)=if (y==x)=ag then m+1 else m
    split<;>rfl
   ·rcases cj.mp hu with e|e
    ·subst e;exact eqGives_str y x tk t
    ·exact i2 u e
  |_=>cases h
theorem X_{E:am->au->Prop}{s:au}{l:al}{items:br am}{x:am}(e:am->ax){R:xA->au->Prop}(ht:jr s.heap l items)(he:∀y,y∈items->Bn y x (e y))(h:R (.done (.ret (.int (items.toList.countP e:ah) s.toks))) {s with toks:=s.toks+1}) :
  ϑ (ay prog w) A (dn.«tuple.count» ⟨[.ref l,x],[]⟩) R E s:=by
 show ϑ _ _ (sC (.ref l) >>= _) _ _ s;refine ao (sD ht ?_);refine ao (wpAny_forIn_array' _ (λrest (b:ah) s'=>s'=s/\(∀y,y∈rest->y∈items)/\b+rest.countP e=items.toList.countP e) _ ?_ ?_ _ _ ⟨rfl,λy hy=>by simpa using hy,by simp⟩)
 ·rintro y rest b s' ⟨rfl,hm,hb⟩;refine ao (he y (hm y 0x2) prog w _ _ _ _ ?_);rw[Bo] at hb;cases hy:e y with
  |true=>
   rw[hy] at hb;exact aE ⟨rfl,λz hz=>hm z (by simp[hz]),by rw[aq rfl] at hb;lia⟩
  |false=>
   rw[hy] at hb;exact aE ⟨rfl,λz hz=>hm z (by simp[hz]),by rw[aw iw] at hb;lia⟩
 ·rintro b s' ⟨rfl,_,hb⟩;rw[List.countP_nil,oB] at hb;subst hb;show ϑ _ _ (uj _) _ _ s';unfold uj;exact ao (ul (aE h))
section
variable {X:Cx}
theorem YB:MtR X "tuple.count" (rm CN ag):=by
 intro Ψ s σ H x xs v us Q I rv vr ⟨a,ds,d,ra,rs,h,k⟩;unfold CN at h;split at h
 ·rename_i ys y;split at h
  ·rename_i n hn;cases h;obtain⟨vv,uu,rfl,rfl,r,rk⟩:=iJ rs vr;obtain⟨l,zs,rfl,ee,rr⟩:=ra.iD;cases rv;cases r.inv;obtain⟨tk,rfl⟩:=rk;obtain⟨its,vr',pl⟩:=j_ I ee;obtain⟨c1,c2⟩:=aEc hn rr vr';obtain⟨⟨cls,dd,data,sl⟩,ho,hc,n',hd⟩:=id pl;refine jw (qp yb.plain F.entry_tuple_count (yb.check _ _ _ _ _ _ _ _ ⟨_,ho,hc⟩ (F.args_tuple_count_2 _ _) ?_));refine X_ (aC7 y) pl (λw hw=>c2 w (by simpa using hw)) ?_;rw[show(its.toArray.toList.countP (aC7 y))=n from by simpa using c1];exact⟨.int n,H,I.tok _,⟨_,rfl⟩,k.int⟩
  ·exact bx h
 ·exact bx h
theorem YC(h:CN d ds=.ok r)(rp:Rep All H v d):tyV X.K "tuple" v H:=by
 unfold CN at h;split at h
 ·obtain⟨a,xs,rfl,e,_⟩:=rp.iD;exact .inr (.inl ⟨rfl,.inr ⟨_,e⟩⟩)
 ·exact bx h
def Iti(a:al)(o:bn)(u:HO)(kvs:ae (Key×V)):It where
 go:=λi H=>H a=aa (.frz o u)/\∃p,kvs[i]?=aa p
 yld:=λi H x H'=>∃b p,kvs[i]?=aa p/\x=.ref b/\H b=aj/\H'=upd H b (.tup [kV p.1,p.2])
 stop:=λi H=>H a=aa (.frz o u)/\kvs.length<=i
theorem SM{K:bi}{x1}{a it:al}{o:bn}{u:HO}{kvs:ae (Key×V)}{vs:ae (Key×am)}{ep:ah}(hne:a≠it)(hd:∀h:bc,h.get? a=aa o->h.DictAt (cH P w) a vs ep)(rel:KV kvs vs) :
  Turn P w K (.Tuple elts x1 tp) (Iti a o u kvs) [it] it (λi h=>∃ok ov,IsItemIter h it a i vs.length ep ok ov) where
 mem:=by simp
 obj:=λi h ⟨ok,ov,e⟩ b hb=>by
  have eb:b=it:=by simpa using hb
  subst eb;exact⟨_,e,λv z=>by cases z⟩
 keep:=λi h h' ⟨ok,ov,e⟩ k=>⟨ok,ov,k it 0x2 _ e⟩
 item:=by
  intro X hP hw hK hc i Ψ s σ H E I hf ⟨ok,ov,st⟩ hg;subst hP hw hK;obtain⟨ea,⟨k,x⟩,hx⟩:=hg;obtain⟨px,_⟩:=I.hok a _ ea;obtain⟨v,hv,rv⟩:=aEa rel hx;refine wpAny_pyNext_items_item st (hd _ px) hv λkey h' hk st' ht hsz kp=>?_
  refine⟨_,rfl,wpAny_letOwnedTupleGo_items st' λh'' st'' sb=>?_⟩;have sb':e9 it h' h'':=sb;have lt:s.heap.objs.size≠it:=iz (bw st);have kk:∀c o,c∉[it]->s.heap.get? c=aa o->h''.get? c=aa o:=λc o hc e=>by
   have hc':c≠it:=by simpa using hc
   exact(sb'.2 c hc').trans (kp c o hc' e)
  refine⟨.ref s.heap.objs.size,upd H s.heap.objs.size (.tup [kV k,x]),JR (s:=s) I kk hf (bq _) ?_,rfl,⟨_,_,hx,rfl,I.hok.fresh (bq _),rfl⟩,⟨_,_,st''⟩,λc hc=>?_⟩
  ·exact⟨by show 2<=bo;rw[dg];decide,[key,v],.cons (aKl hk) (.cons rv .nil),⟨_,(sb'.2 _ lt).trans ht,rfl,0,rfl⟩⟩
  ·have hn:=(hf c hc).1;have hc':c=it:=by simpa using hc
   subst hc';rw[aP (Ne.symm lt)];exact hn
 done:=by
  intro X hP hw hK hc i Ψ s σ H E I hf ⟨ok,ov,st⟩ hg;subst hP hw hK;obtain⟨ea,hx⟩:=hg;obtain⟨px,_⟩:=I.hok a _ ea;obtain⟨f0,f1,f2,f3,f4,f5⟩:=hf it 0x2;have hl:kvs.length=vs.length:=jq rel;exact wpAny_pyNext_items_end (I.ok.hd hc) st (hd _ px) (List.getElem?_eq_none_iff.mpr 0x1) λh' eb=>⟨rfl,I.turned (λb o hb e=>eb b o hb e) f0 f1 f3 f4 f5⟩
 self:=λ_ _ _ _ _ ⟨ok,ov,st⟩ h=>PySem.W.kcp_self st h
theorem aC8:MtR X "dict.items" (λx xs H Q=>∃a kvs,x=.ref a/\xs=[]/\DV H a kvs/\∀vw,H vw=aj->Q (.ref vw) (upd H vw (.ext λh=>h.IsItemsView vw a))):=by
 intro Ψ s σ H x xs v us Q I rx rxs ⟨a,kvs,e1,e2,hu,q⟩;subst e1 e2;cases rx;cases rxs;obtain⟨z,hs,vs,rel,dd⟩:=XJ I hu;have hfr:H s.heap.objs.size=aj:=I.hok.fresh (bq _);refine call_meetsIn Bp dd.typeIs PySem.F.entry_dict_items (PySem.F.args_dict_items_1 _) (meets_dict_items (cH X.prog X.w) a hs) ⟨⟨vs,dd⟩,?_⟩;refine⟨.ref s.heap.objs.size,_,I.laid (λb o e=>bP _ e) (bq _) ?_,rfl,q _ hfr⟩;have hg:=c6 s.heap (o:={cls:=.type "dict_items",data:=.fields #[.ref a]}) rfl;exact⟨⟨_,hg,rfl,rfl⟩,⟨_,hg⟩,λh1 h2 ⟨o,e,r⟩ k=>⟨o,k o e,r⟩⟩
theorem aC9{x1}{x:Str}{i:ah}{np ap cp:dq}(hN:X.N[i]?=aa x)(hv:Vis X.env.scope x)(hd:autoParam (nDb x) Λ)(hcd:autoParam (nCd x) Λ)(hbase:autoParam (gm (.Name x np) "items" X.env (eval (.Name x np) X.env)=eval (.Name x np) X.env) Ω)(hline:autoParam ((ap.endLine==cp.line)=ag) Ω) :
  PI X (.Tuple elts x1 tp) (.Call (.Attribute (.Name x np) "items" ap) [] [] cp) (λσ H R=>∃a kvs u,σ[i]?=aa (aa (.ref a))/\DV H a kvs/\H a=aa u/\∀o H1,bU H H1->R (Iti a o u kvs) (upd H1 a (.frz o u))):=by
 intro Ψ s σ H R I ⟨a,kvs,u,hσ,hu,hua,q⟩;have ty:tyV X.K "dict" (.ref a) H:=by
  rcases hu with h|⟨_,h⟩
  ·exact .inr (.inr (.inl ⟨rfl,.inl ⟨_,h⟩⟩))
  ·exact .inr (.inr (.inl ⟨rfl,.inr ⟨_,h⟩⟩))
 have hp:=MJ PySem.F.plainAttrs_dict Bp PySem.F.type_dict_items aC8 (aV hN hv hd hcd) hbase hline;refine thn (hp Ψ s σ H (λv H1=>∃vw,v=.ref vw/\H1 vw=aa (.ext λh=>h.IsItemsView vw a)/\bU H H1) I ⟨.ref a,hσ,ty,a,kvs,rfl,rfl,hu,λvw hvw=>⟨vw,rfl,aK,bU.upd hvw⟩⟩) λy s1 ζ=>?_;obtain⟨v,H1,I1,r1,vw,e,evw,sm⟩:=ζ
 subst e;cases r1;have hu1:DV H1 a kvs:=by
  rcases hu with h|⟨h0,h⟩
  ·exact .inl (sm _ _ h)
  ·exact .inr ⟨h0,sm _ _ h⟩
 obtain⟨z,hs,vs,rel,dd⟩:=XJ I1 hu1;obtain⟨ep,da⟩:=dd.dictAt;obtain⟨o,es,ho,r⟩:=id da;have hda:∀h:bc,h.get? a=aa o->h.DictAt (cH X.prog X.w) a vs ep:=λh e=>⟨o,es,e,r⟩
 obtain⟨pv,_⟩:=I1.hok vw _ evw;obtain⟨u',hu2,fu⟩:=aKk I1 hu1 ho;rw[sm _ _ hua] at hu2;cases hu2;have If:Inv X Ψ σ (upd H1 a (.frz o u)) s1:=I1.write (aKj hu1) (.inl rfl) (λ_ _ _ q=>q) ⟨o,ho⟩ ⟨ho,fu _ _ ho⟩;refine wpAny_pyIter_items pv da ?_;have I2:Inv X Ψ σ (upd H1 a (.frz o u)) {s1 with heap:=s1.heap.push {cls:=.type "dict_itemiterator",data:=.fields #[.none,.bool ak,.ref a,.int 0 0,.int vs.length 0,.int ep 0,.none,.none]}}:=If.kept λb o e=>bP _ e
 refine⟨s1.heap.objs.size,[s1.heap.objs.size],λi h=>∃ok ov,IsItemIter h s1.heap.objs.size a i vs.length ep ok ov,Iti a o u kvs,_,rfl,I2,SM (cw (bw ho)) hda rel,⟨_,_,c6 _ rfl⟩,λb hb=>?_,q o H1 sm⟩;have e:b=s1.heap.objs.size:=by simpa using hb
 subst e;exact If.aJk (bq _) (If.hok.fresh (bq _))
end
end Mi
namespace Wy
open PySem PySem.Spec
open Wz
noncomputable abbrev liO(t:al)(i:ah):bn:={cls:=.type "list_iterator",data:=.fields #[.ref t,.int i 0]}
noncomputable abbrev lsO(xs:br am)(n:ah)(dd:ar al)(sl:br (ar am)):bn:={cls:=.type "list",dict:=dd,data:=.seq xs n,slots:=sl}
theorem JW(it t:al)(i:ah)(xs:br am)(n:ah)(dd:ar al)(sl:br (ar am))(x:am)(hx:xs[i]?=aa x) :
  lj (dn.«list_iterator.__next__» ⟨[.ref it],[]⟩) (λ_ R s=>s.heap.get? it=aa (liO t i)/\s.heap.get? t=aa (lsO xs n dd sl)/\R (.ok (.ret x)) {s with heap:=s.heap.update it (mT (·.setIfInBounds 1 (cz (i+1))))}):=.of_wp λprog w A R s hs=>by
 obtain⟨hp,g,d,tk,os⟩:=s;obtain⟨e1,e2,hq⟩:=hs
 wp_walk
 rw[ik,hx]
 wp_walk
 exact⟨_,rfl,hq⟩
section
variable {prog:bS} {w:bu} {A:cf} {E:am->au->Prop} {s:au} {it t:al} {i:ah} {xs:br am} {x:am} {n:ah} {dd:ar al} {sl:br (ar am)}
theorem aEd(e1:s.heap.get? it=aa (liO t i))(e2:s.heap.get? t=aa (lsO xs n dd sl))(hx:xs[i]?=aa x)
 (q:∀h',h'.get? it=aa (liO t (i+1))->e9 it s.heap h'->Q x {s with heap:=h'}):ϑ (ay prog w) A (km (.ref it)) Q E s:=by
 have ty:s.TypeIs (.ref it) "list_iterator":=⟨_,e1,rfl⟩
 refine ao (jb ty Bq ?_);refine ka Bq ty entry_listiter_next (args_listiter_next _) (JW it t i xs n dd sl x hx) ⟨e1,e2,aE (q _ ?_ (ng ..))⟩;exact ib _ e1 rfl
end
structure W(z TI TO i1 i2 l1 l2:al)(o1 o2:bn)(f0 f1 a b:am)(k1 k2:ah)(h:bc):Prop where
 z_:h.get? z=aa (zpO f0 f1 TI TO)
 ti:h.get? TI=aa (prO (.ref i1) (.ref i2))
 to:h.get? TO=aa (prO a b)
 j1:h.get? i1=aa (itO l1 k1)
 j2:h.get? i2=aa (liO l2 k2)
 t1:h.get? l1=aa o1
 t2:h.get? l2=aa o2
section
variable {z TI TO i1 i2 l1 l2:al} {o1 o2:bn} {f0 f1 g0 g1 a b c d:am} {k1 k2:ah} {h h':bc}
theorem W.onZ(x:W z TI TO i1 i2 l1 l2 o1 o2 f0 f1 a b k1 k2 h)(ap:Apart z TI TO i1 i2 l1 l2)(e:h'.get? z=aa (zpO g0 g1 TI TO))(k:e9 z h h'):W z TI TO i1 i2 l1 l2 o1 o2 g0 g1 a b k1 k2 h':=
 ⟨e,(k.2 _ ap.zTI.symm).trans x.ti,(k.2 _ ap.zTO.symm).trans x.to,(k.2 _ ap.z1.symm).trans x.j1,(k.2 _ ap.z2.symm).trans x.j2,(k.2 _ ap.zl.symm).trans x.t1,(k.2 _ ap.zm.symm).trans x.t2⟩
theorem W.onT(x:W z TI TO i1 i2 l1 l2 o1 o2 f0 f1 a b k1 k2 h)(ap:Apart z TI TO i1 i2 l1 l2)(e:h'.get? TO=aa (prO c d))(k:e9 TO h h'):W z TI TO i1 i2 l1 l2 o1 o2 f0 f1 c d k1 k2 h':=
 ⟨(k.2 _ ap.zTO).trans x.z_,(k.2 _ ap.TT).trans x.ti,e,(k.2 _ ap.O1.symm).trans x.j1,(k.2 _ ap.O2.symm).trans x.j2,(k.2 _ ap.Ol.symm).trans x.t1,(k.2 _ ap.Om.symm).trans x.t2⟩
theorem W.on1(x:W z TI TO i1 i2 l1 l2 o1 o2 f0 f1 a b k1 k2 h)(ap:Apart z TI TO i1 i2 l1 l2)(e:h'.get? i1=aa (itO l1 k))(s:e9 i1 h h'):W z TI TO i1 i2 l1 l2 o1 o2 f0 f1 a b k k2 h':=
 ⟨(s.2 _ ap.z1).trans x.z_,(s.2 _ ap.T1).trans x.ti,(s.2 _ ap.O1).trans x.to,e,(s.2 _ ap.ij.symm).trans x.j2,(s.2 _ ap.il.symm).trans x.t1,(s.2 _ ap.im.symm).trans x.t2⟩
theorem W.on2(x:W z TI TO i1 i2 l1 l2 o1 o2 f0 f1 a b k1 k2 h)(ap:Apart z TI TO i1 i2 l1 l2)(e:h'.get? i2=aa (liO l2 k))(s:e9 i2 h h'):W z TI TO i1 i2 l1 l2 o1 o2 f0 f1 a b k1 k h':=
 ⟨(s.2 _ ap.z2).trans x.z_,(s.2 _ ap.T2).trans x.ti,(s.2 _ ap.O2).trans x.to,(s.2 _ ap.ij).trans x.j1,e,(s.2 _ ap.jl.symm).trans x.t1,(s.2 _ ap.jm.symm).trans x.t2⟩
theorem W.up(x:W z TI TO i1 i2 l1 l2 o1 o2 f0 f1 a b k1 k2 h)(k:∀c o,c=z\/c=TI\/c=TO\/c=i1\/c=i2\/c=l1\/c=l2->h.get? c=aa o->h'.get? c=aa o):W z TI TO i1 i2 l1 l2 o1 o2 f0 f1 a b k1 k2 h':=
 ⟨k _ _ 0x2 x.z_,k _ _ 0x2 x.ti,k _ _ 0x2 x.to,k _ _ 0x2 x.j1,k _ _ 0x2 x.j2,k _ _ 0x2 x.t1,k _ _ 0x2 x.t2⟩
end
section
variable {s:au} {z TI TO i1 i2 l1 l2:al} {f0 f1 a b:am}
theorem W.ty(hw:W z TI TO i1 i2 l1 l2 o1 o2 f0 f1 a b k1 k2 s.heap):s.TypeIs (.ref z) "zip":=⟨_,hw.z_,rfl⟩
end
section
variable {prog:bS} {w:bu} {A:cf} {E:am->au->Prop} {s:au} {z TI TO i1 i2 l1 l2:al} {n1 n2:ah} {d1 d2:ar al} {s1 s2:br (ar am)} {f0 f1 a b x y:am} {k:ah} {xs ys:br am}
theorem keptAt(j:ah)(v c d:am)(hw:W z TI TO i1 i2 l1 l2 o1 o2 f0 f1 a b k1 k2 s.heap)(ap:Apart z TI TO i1 i2 l1 l2)(hj:(#[a,b]:br am).setIfInBounds j v=#[c,d])
 (q:∀h',W z TI TO i1 i2 l1 l2 o1 o2 f0 f1 c d k1 k2 h'->e9 TO s.heap h'->Q () {s with heap:=h'}):ϑ (ay prog w) A (qw TO (·.setIfInBounds j v)) Q E s:=
 wpAny_updateSeq_pair hw.to λh' e sb=>q h' (hw.onT ap (by rw[e,hj]) sb) sb
theorem first(ap:Apart z TI TO i1 i2 l1 l2)(hw:W z TI TO i1 i2 l1 l2 (tuO xs n1 d1 s1) (lsO ys n2 d2 s2) .none (.bool ak) a b k k s.heap)(hx:xs[k]?=aa x)(hy:ys[k]?=aa y)
 (q:∀(h':bc) (p:al),W z TI TO i1 i2 l1 l2 (tuO xs n1 d1 s1) (lsO ys n2 d2 s2) (cz p) (.bool ak) x y (k+1) (k+1) h'->h'.get? p=aa (prO x y)->p=s.heap.objs.size->aC5 z TO i1 i2 s.heap h'->Q (.ref p) {s with heap:=h'}) :
  ϑ (ay prog w) A (nxt z) (Got Q) E s:=by
 refine ao (m:=um (.ref z) 2) (dh hw.z_ rfl rfl (ao (dh hw.z_ rfl rfl (ao (gr hw.ti rfl ?_)))));refine ao (ao (dh hw.z_ rfl (x:=.none) rfl (aE ?_)));rw[aq rfl];refine ao (jj (ao (dh hw.z_ rfl (x:=.ref TO) rfl (ao (nt hw.z_ 0x2 λh1 e1 k1=>?_)))));have w1:W z TI TO i1 i2 l1 l2 (tuO xs n1 d1 s1) (lsO ys n2 d2 s2) .ellipsis (.bool ak) a b k k h1:=hw.onZ ap e1 k1;simp only[Br,Bs,mq,je];refine ao (ao (ao (yc (ao (m:=km (.ref i1)) (drawn w1.j1 w1.t1 hx λh2 e2 k2=>aE ?_)))));have w2:=w1.on1 ap e2 k2;refine ao (gr w2.to rfl (ao (keptAt 0 x x b w2 ap rfl λh3 w3 k3=>ao (uo (aE ?_)))));refine ao (ao (yc (ao (m:=km (.ref i2)) (aEd w3.j2 w3.t2 hy λh4 e4 k4=>aE ?_))));have w4:=w3.on2 ap e4 k4;refine ao (gr w4.to rfl (ao (keptAt 1 y x y w4 ap rfl λh5 w5 k5=>ao (uo (aE (aE ?_))))));have sd:aC5 z TO i1 i2 s.heap h5:=λc o c1 c2 c3 c4 e=>(k5.2 c c2).trans ((k4.2 c c4).trans ((k3.2 c c2).trans ((k2.2 c c3).trans ((k1.2 c c1).trans e))))
 have sz:h5.objs.size=s.heap.objs.size:=by rw[k5.1,k4.1,k3.1,k2.1,k1.1]
 refine ao (gr w5.to rfl (ao (Bu ?_)));have w6:W z TI TO i1 i2 l1 l2 (tuO xs n1 d1 s1) (lsO ys n2 d2 s2) .ellipsis (.bool ak) x y (k+1) (k+1) (h5.push (prO x y)):=w5.up λc o _ e=>bP _ e
 refine ao (m:=Da (.ref z) (.ref h5.objs.size)) (ao (nt w6.z_ 0x2 λh7 e7 k7=>?_));have w7:W z TI TO i1 i2 l1 l2 (tuO xs n1 d1 s1) (lsO ys n2 d2 s2) (cz h5.objs.size) (.bool ak) x y (k+1) (k+1) h7:=w6.onZ ap e7 k7;refine nt w7.z_ 0x2 λh8 e8 k8=>aE ⟨_,rfl,?_⟩
 have w8:W z TI TO i1 i2 l1 l2 (tuO xs n1 d1 s1) (lsO ys n2 d2 s2) (cz h5.objs.size) (.bool ak) x y (k+1) (k+1) h8:=w7.onZ ap e8 k8;have nz:h5.objs.size≠z:=iz (bw w5.z_);exact q h8 _ w8 ((k8.2 _ nz).trans ((k7.2 _ nz).trans (c6 _ rfl))) sz λc o c1 c2 c3 c4 e=>(k8.2 c c1).trans ((k7.2 c c1).trans (bP _ (sd c o c1 c2 c3 c4 e)))
theorem aCa(hh:A.handled=aj)(ap:Apart z TI TO i1 i2 l1 l2)(hw:W z TI TO i1 i2 l1 l2 (tuO xs n1 d1 s1) (lsO ys n2 d2 s2) .none (.bool ak) a b k k s.heap)(hx:xs[k]?=aj)
 (q:∀h' e,aC5 z TO i1 i2 s.heap h'->(∃o,h'.get? e=aa o/\o.cls=.type "StopIteration")->E (.ref e) {s with heap:=h'}) :
  ϑ (ay prog w) A (nxt z) Q E s:=by
 refine ao (m:=um (.ref z) 2) (dh hw.z_ rfl rfl (ao (dh hw.z_ rfl rfl (ao (gr hw.ti rfl ?_)))));refine ao (m:=yd (.ref z)) (ao (dh hw.z_ rfl (x:=.none) rfl (aE ?_)));rw[aq rfl];refine ao (jj (ao (dh hw.z_ rfl (x:=.ref TO) rfl (ao (nt hw.z_ 0x2 λh1 e1 k1=>?_)))));have w1:W z TI TO i1 i2 l1 l2 (tuO xs n1 d1 s1) (lsO ys n2 d2 s2) .ellipsis (.bool ak) a b k k h1:=hw.onZ ap e1 k1;simp only[Br,Bs,mq,je];refine ao (ao (ao (yc (ao (m:=km (.ref i1)) (over hh w1.j1 w1.t1 hx λh2 e k2 he=>?_)))));obtain⟨oe,he,hc⟩:=he;have ez:h2.get? z=aa (zpO .ellipsis (.bool ak) TI TO):=k2 _ _ ap.z1 w1.z_;have hez:e≠z:=λv=>by
  rw[v,ez] at he;cases he;exact bd (show fI "zip"=fI "StopIteration" from hc) 0x4
 exact nt ez 0x2 λh3 _ k3=>q h3 e (λc o c1 _ c3 _ v=>(k3.2 c c1).trans (k2 c o c3 ((k1.2 c c1).trans v))) ⟨oe,(k3.2 e hez).trans he,hc⟩
theorem taken{T:al}(ap:Apart z TI TO i1 i2 l1 l2)(hw:W z TI TO i1 i2 l1 l2 o1 o2 (cz T) (.bool bb) a b k1 k2 s.heap)(hT:s.heap.get? T=aa oT)
 (q:∀h',W z TI TO i1 i2 l1 l2 o1 o2 (cz T) (.bool ag) a b k1 k2 h'->e9 z s.heap h'->Q ak {s with heap:=h'}):ϑ (ay prog w) A (yd (.ref z)) Q E s:=by
 refine ao (dh hw.z_ rfl rfl (ao (there hT ?_)));refine ao (dh hw.z_ rfl rfl ?_);cases bb
 ·exact ao (nt hw.z_ 0x2 λh1 e1 k1=>aE (q h1 (hw.onZ ap e1 k1) k1))
 ·exact aE (q _ hw (Bv _ _))
theorem more{T:al}{bb:ax}{oT:bn}{Q:am->au->Prop}(ap:Apart z TI TO i1 i2 l1 l2)(hw:W z TI TO i1 i2 l1 l2 (tuO xs n1 d1 s1) (lsO ys n2 d2 s2) (cz T) (.bool bb) a b k k s.heap)(hT:s.heap.get? T=aa oT)(hx:xs[k]?=aa x)(hy:ys[k]?=aa y)
 (q:∀h' p,W z TI TO i1 i2 l1 l2 (tuO xs n1 d1 s1) (lsO ys n2 d2 s2) (cz T) (.bool ag) a b (k+1) (k+1) h'->h'.get? p=aa (prO x y)->aC5 z TO i1 i2 s.heap h'->Q (.ref p) {s with heap:=h'}) :
  ϑ (ay prog w) A (nxt z) (Got Q) E s:=by
 refine ao (m:=um (.ref z) 2) (dh hw.z_ rfl rfl (ao (dh hw.z_ rfl rfl (ao (gr hw.ti rfl ?_)))));refine ao (m:=yd (.ref z)) (taken ap hw hT λh1 w1 k1=>?_);rw[aw iw];dsimp only;rw[<-Bw];simp only[mq,je];refine ao (ao (ao (eD (ao (m:=km (.ref i1)) (drawn w1.j1 w1.t1 hx λh2 e2 k2=>aE (aE ?_))))));have w2:=w1.on1 ap e2 k2;refine ao (ao (eD (ao (m:=km (.ref i2)) (aEd w2.j2 w2.t2 hy λh3 e3 k3=>aE (aE (aE ?_))))));have w3:=w2.on2 ap e3 k3;refine ao (Bu (aE ⟨_,rfl,?_⟩) (hsz:=by show(2:ah)<=bo;decide));exact q _ _ (w3.up λc o _ e=>bP _ e) (c6 _ rfl) λc o c1 c2 c3 c4 e=>bP _ ((k3.2 c c4).trans ((k2.2 c c3).trans ((k1.2 c c1).trans e)))
theorem aGv{T:al}{bb:ax}{oT:bn}{Q:Fin->au->Prop}(hh:A.handled=aj)(ap:Apart z TI TO i1 i2 l1 l2)(hw:W z TI TO i1 i2 l1 l2 (tuO xs n1 d1 s1) (lsO ys n2 d2 s2) (cz T) (.bool bb) a b k k s.heap)(hT:s.heap.get? T=aa oT)(hx:xs[k]?=aj)
 (q:∀h' e,aC5 z TO i1 i2 s.heap h'->(∃o,h'.get? e=aa o/\o.cls=.type "StopIteration")->E (.ref e) {s with heap:=h'}) :
  ϑ (ay prog w) A (nxt z) Q E s:=by
 refine ao (m:=um (.ref z) 2) (dh hw.z_ rfl rfl (ao (dh hw.z_ rfl rfl (ao (gr hw.ti rfl ?_)))));refine ao (taken ap hw hT λh1 w1 k1=>?_);rw[aw iw];dsimp only;rw[<-Bw];simp only[mq,je];exact ao (ao (ao (eD (ao (over hh w1.j1 w1.t1 hx λh2 e k2 he=>q h2 e (λc o c1 _ c3 _ v=>k2 c o c3 ((k1.2 c c1).trans v)) he)))))
end
theorem YD(t u:al)(xs ys:br am) :
  lj (dn.«zip.__new__» ⟨[.type "zip",.ref t,.ref u],[]⟩) (λ_ R s=>s.heap.IsTuple t xs/\s.heap.IsList u ys/\∀h' n,n=s.heap.objs.size->h'.get? n=aa (itO t 0)->h'.get? (n+1)=aa (liO u 0)->h'.get? (n+2)=aa (prO (.ref n) (.ref (n+1)))->h'.get? (n+3)=aa (prO .none .none)->h'.get? (n+4)=aa (zpO .none (.bool ak) (n+2) (n+3))->
   (∀x o,s.heap.get? x=aa o->h'.get? x=aa o)->h'.objs.size=n+5->R (.ok (.ret (.ref (n+4)))) {s with heap:=h'}):=
 .of_wp λprog w A R s hs=>by
  obtain⟨hp,g,d,tk,os⟩:=s;obtain⟨ht,hu,q⟩:=hs;have sub:=sub_zip;have p1:Heap.IsTuple (Bx ⟨hp,g,d,tk,os⟩) t xs:=ht;have p2:Heap.IsList (Bx ⟨hp.push {cls:=.type "tuple_iterator",data:=.fields #[.ref t,.int 0 0]},g,d,tk,os⟩) u ys:=Dc hu _;have f:=five hp (itO t 0) (liO u 0) (prO (.ref hp.objs.size) (.ref (hp.objs.size+1))) (prO .none .none) (zpO .none (.bool ak) (hp.objs.size+2) (hp.objs.size+3)) rfl rfl rfl rfl rfl
  wp_walk using AV p1,mE p2
  refine⟨_,rfl,?_⟩;have fin:=q _ hp.objs.size rfl f.1 f.2.1 f.2.2.1 f.2.2.2.1 f.2.2.2.2.1 f.2.2.2.2.2.1 f.2.2.2.2.2.2;have gen:∀m1 m2 m3 m4:ah,m1=hp.objs.size+1->m2=hp.objs.size+2->m3=hp.objs.size+3->m4=hp.objs.size+4->R (.ok (.ret (.ref m4))) ⟨((((hp.push (itO t 0)).push (liO u 0)).push (prO (.ref hp.objs.size) (.ref m1))).push (prO .none .none)).push (zpO .none (.bool ak) m2 m3),g,d,tk,os⟩:=by
   intro m1 m2 m3 m4 q1 q2 q3 q4;subst q1 q2 q3 q4;exact fin
  exact gen _ _ _ _ (dS ..) ((dS ..).trans (cy (·+1) (dS ..))) ((dS ..).trans (cy (·+1) ((dS ..).trans (cy (·+1) (dS ..))))) ((dS ..).trans (cy (·+1) ((dS ..).trans (cy (·+1) ((dS ..).trans (cy (·+1) (dS ..)))))))
section
variable {prog:bS} {w:bu} {A:cf} {E:am->au->Prop} {s:au}
theorem aKo(ht:s.heap.IsTuple t xs)(hu:s.heap.IsList u ys)
 (q:∀h' n,n=s.heap.objs.size->h'.get? n=aa (itO t 0)->h'.get? (n+1)=aa (liO u 0)->h'.get? (n+2)=aa (prO (.ref n) (.ref (n+1)))->h'.get? (n+3)=aa (prO .none .none)->h'.get? (n+4)=aa (zpO .none (.bool ak) (n+2) (n+3))->
   (∀x o,s.heap.get? x=aa o->h'.get? x=aa o)->h'.objs.size=n+5->Q (.ref (n+4)) {s with heap:=h'}) :
  ϑ (ay prog w) A (call (.type "zip") [.ref t,.ref u]) Q E s:=
 By F.called_zip 0x4 (F.typeCall_zip_2 _ _) (F.newCall_zip_2 _ _) (λobj=>F.args_object_init_3 obj _ _) F.entry_zip_new (YD t u xs ys)
  ⟨ht,hu,λh' n e a1 a2 a3 a4 a5 k z=>⟨⟨_,a5,rfl⟩,q h' n e a1 a2 a3 a4 a5 k z⟩⟩
end
def ZS(z TI TO i1 i2 l1 l2:al)(o1 o2:bn)(k:ah)(h:bc):Prop:=∃f0 f1 a b,W z TI TO i1 i2 l1 l2 o1 o2 f0 f1 a b k k h/\
 ((f0=.none/\f1=.bool ak)\/∃(T:al)(bb:ax)(u v:am),f0=cz T/\f1=.bool bb/\h.get? T=aa (prO u v)/\T≠z/\T≠TO/\T≠i1/\T≠i2)
section
variable {prog:bS} {w:bu} {A:cf} {E:am->au->Prop} {s:au} {z TI TO i1 i2 l1 l2 d:al} {n1 n2:ah} {d1 d2:ar al} {s1 s2:br (ar am)} {x y:am} {k:ah} {xs ys:br am}
theorem ZS.keep(Z:ZS z TI TO i1 i2 l1 l2 (tuO xs n1 d1 s1) (lsO ys n2 d2 s2) k h)(ed:h.get? d=aa od)(hd:od.cls=.type "dict")(e:∀c o,c≠d->h.get? c=aa o->h'.get? c=aa o):ZS z TI TO i1 i2 l1 l2 (tuO xs n1 d1 s1) (lsO ys n2 d2 s2) k h':=by
 obtain⟨f0,f1,a,b,hw,hf⟩:=Z;refine⟨f0,f1,a,b,⟨e _ _ (Wz.apart hw.z_ rfl ed hd 0x4) hw.z_,e _ _ (Wz.apart hw.ti rfl ed hd 0x4) hw.ti,e _ _ (Wz.apart hw.to rfl ed hd 0x4) hw.to,e _ _ (Wz.apart hw.j1 rfl ed hd 0x4) hw.j1,e _ _ (Wz.apart hw.j2 rfl ed hd 0x4) hw.j2,e _ _ (Wz.apart hw.t1 rfl ed hd 0x4) hw.t1,e _ _ (Wz.apart hw.t2 rfl ed hd 0x4) hw.t2⟩,?_⟩;rcases hf with hf|⟨T,bb,u,v,h1,h2,h3,h4⟩
 ·exact .inl hf
 ·exact .inr ⟨T,bb,u,v,h1,h2,e _ _ (Wz.apart h3 rfl ed hd 0x4) h3,h4⟩
theorem aGw(ap:Apart z TI TO i1 i2 l1 l2)(Z:ZS z TI TO i1 i2 l1 l2 (tuO xs n1 d1 s1) (lsO ys n2 d2 s2) k s.heap)(hx:xs[k]?=aa x)(hy:ys[k]?=aa y)
 (q:∀h' p,ZS z TI TO i1 i2 l1 l2 (tuO xs n1 d1 s1) (lsO ys n2 d2 s2) (k+1) h'->h'.get? p=aa (prO x y)->aC5 z TO i1 i2 s.heap h'->Q (aa (.ref p)) {s with heap:=h'}):ϑ (ay prog w) A (gz (.ref z)) Q E s:=by
 obtain⟨f0,f1,a,b,hw,hf⟩:=Z;refine ao (jh (jb hw.ty uq (jS uq hw.ty Bz ?_ (BA _))));rcases hf with ⟨rfl,rfl⟩|⟨T,bb,u,v,rfl,rfl,hT,t1,t2,t3,t4⟩
 ·refine first ap hw hx hy λh' p w' ep pp sd=>aE (q h' p ⟨_,_,_,_,w',.inr ⟨p,ak,x,y,rfl,rfl,ep,?_⟩⟩ ep sd)
  subst pp;have lt:∀{c o},s.heap.get? c=aa o->s.heap.objs.size≠c:=λe=>iz (bw e)
  exact⟨lt hw.z_,lt hw.to,lt hw.j1,lt hw.j2⟩
 ·exact more ap hw hT hx hy λh' p w' ep sd=>aE (q h' p ⟨_,_,_,_,w',.inr ⟨T,ag,u,v,rfl,rfl,sd _ _ t1 t2 t3 t4 hT,t1,t2,t3,t4⟩⟩ ep sd)
theorem aKp(hh:A.handled=aj)(ap:Apart z TI TO i1 i2 l1 l2)(Z:ZS z TI TO i1 i2 l1 l2 (tuO xs n1 d1 s1) (lsO ys n2 d2 s2) k s.heap)(hx:xs[k]?=aj)
 (q:∀h',aC5 z TO i1 i2 s.heap h'->Q aj {s with heap:=h'}):ϑ (ay prog w) A (gz (.ref z)) Q E s:=by
 obtain⟨f0,f1,a,b,hw,hf⟩:=Z;refine ao (jh (jb hw.ty uq (jS uq hw.ty Bz ?_ (BA _))));have stop:∀h' e,aC5 z TO i1 i2 s.heap h'->(∃o,h'.get? e=aa o/\o.cls=.type "StopIteration")->ϑ (ay prog w) A (do if <- xt (.ref e) (.type "StopIteration") then pure aj else throw (.ref e)) Q E {s with heap:=h'}:=λh' e sd he=>ao (ll he BB (aE (q h' sd)))
 rcases hf with ⟨rfl,rfl⟩|⟨T,bb,u,v,rfl,rfl,hT,_⟩
 ·exact aCa hh ap hw hx λh' e sd he=>stop h' e sd he
 ·exact aGv hh ap hw hT hx λh' e sd he=>stop h' e sd he
end
section
variable {prog:bS} {w:bu} {K:Type} [dw K] {knd:KeyKind prog w K} {A:cf} {R:Except am Flow->au->Prop} {z TI TO i1 i2 l1 l2 d:al} {n1 n2:ah} {d1 d2:ar al} {s1 s2:br (ar am)} {xs ys:br am} {ks:ae K}
theorem xX(hh:A.handled=aj)(ap:Apart z TI TO i1 i2 l1 l2)(hdz:d≠z)(hdT:d≠TO)(hd1:d≠i1)(hd2:d≠i2)(hsz:ys.size=xs.size)(hk:∀(i:ah) (x:am),xs[i]?=aa x->∃k,ks[i]?=aa k/\knd.is k x=ag) :
  ∀(m k:ah)(s:au)(kvs:ae (K×am)),k+m=xs.size->kvs.length+m<=bo->ZS z TI TO i1 i2 l1 l2 (tuO xs n1 d1 s1) (lsO ys n2 d2 s2) k s.heap->s.heap.DictOf knd d kvs->
  (∀h' tk,h'.DictOf knd d (k9 kvs ((ks.zip ys.toList).drop k))->(∀c o,c≠d->c≠z->c≠TO->c≠i1->c≠i2->s.heap.get? c=aa o->h'.get? c=aa o)->R (.ok (.ret .none)) {s with heap:=h',toks:=tk})->
  codeAny (ay prog w) A (.builtin "dict.update.loop" ⟨[.ref d,.ref z,cz k,.none],[]⟩) R s:=by
 intro m;induction m with
 |zero=>
  intro k s kvs hkm hl Z hd q;refine jg kO ?_;rw[kx (show nw "dict.update.loop"=ag by decide +kernel) _];refine ao (aKp hh ap Z (qo 0x1) λh' kp=>?_);refine ao ?_;unfold ye;rw[je];refine ao (aE (aE (aE ?_)));have e:(ks.zip ys.toList).drop k=[]:=jf (by rw[lp];have:ys.toList.length=ys.size:=sf;lia);rw[e] at q;obtain⟨o,es,ep,ho,r⟩:=hd;exact q _ s.toks ⟨o,es,ep,kp d o hdz hdT hd1 hd2 ho,r⟩ λc o _ c1 c2 c3 c4 e=>kp c o c1 c2 c3 c4 e
 |succ m ih=>
  intro k s kvs hkm hl Z hd q;have hlt:k<xs.size:=by lia
  have hlt2:k<ys.size:=by lia
  have hx:xs[k]?=aa xs[k]:=ub hlt;have hy:ys[k]?=aa ys[k]:=ub hlt2;obtain⟨key,hkey,his⟩:=hk k _ hx;refine jg kO ?_;rw[kx (show nw "dict.update.loop"=ag by decide +kernel) _];refine ao (aGw ap Z hx hy λh' p Z' hp kp=>?_);refine ao (eD (ao (qx ?_)));refine ao (iF ⟨_,hp,rfl⟩ ?_);rw[aq 0x4];refine ao (gr hp rfl (aE ?_));show ϑ _ _ (jv [xs[k],ys[k]] (yf d xs[k] ys[k])) _ _ _;have hd':h'.DictOf knd d kvs:=let ⟨o,es,ep,ho,r⟩:=hd;⟨o,es,ep,kp d o hdz hdT hd1 hd2 ho,r⟩
  obtain⟨od,es,ep,ho,hc,_⟩:=id hd';refine eD (BC his hd' (λh2 hd2' sb=>?_) 0x1);refine aE ⟨li _ 0x6,?_⟩;have ek:(cz (k+1):am)=cz ((k+1:ah):ai):=rfl;rw[ek];have hzip:(ks.zip ys.toList).drop k=(key,ys[k])::(ks.zip ys.toList).drop (k+1):=by
   have hlz:(ks.zip ys.toList)[k]?=aa (key,ys[k]):=by
    rw[List.getElem?_zip_eq_some];exact⟨hkey,by rw[xi];exact hy⟩
   obtain⟨h1,h2⟩:=dE.mp hlz;rw[kl h1,h2]
  have ls:(jc kvs key ys[k]).length<=kvs.length+1:=by
   unfold jc;split
   ·rw[az];lia
   ·rw[aT];exact bq _
  refine ih (k+1) _ (jc kvs key ys[k]) 0x1 0x1 (Z'.keep ho hc.1 λc o hcd e=>(sb.2 c hcd).trans e) hd2' λh3 tk hd3 kp3=>?_
  refine q h3 tk (by rw[hzip];exact hd3) λc o c0 c1 c2 c3 c4 e=>kp3 c o c0 c1 c2 c3 c4 ((sb.2 c c0).trans (kp c o c1 c2 c3 c4 e))
end
section
variable {prog:bS} {w:bu} {K:Type} [dw K] {knd:KeyKind prog w K} {A:cf} {E:am->au->Prop} {hp:bc} {g:br qr} {dr:qt} {tk:ah} {os:qu} {z TI TO i1 i2 l1 l2:al} {n1 n2:ah} {d1 d2:ar al} {s1 s2:br (ar am)} {xs ys:br am} {ks:ae K}
theorem aCb(hh:A.handled=aj)(ap:Apart z TI TO i1 i2 l1 l2)(hw:W z TI TO i1 i2 l1 l2 (tuO xs n1 d1 s1) (lsO ys n2 d2 s2) .none (.bool ak) a b 0 0 hp)(hsz:ys.size=xs.size)(hxs:xs.size<=1000)(hk:∀(i:ah) (x:am),xs[i]?=aa x->∃k,ks[i]?=aa k/\knd.is k x=ag)
 (q:∀h' tk',h'.DictOf knd hp.objs.size (k9 [] (ks.zip ys.toList))->aC5 z TO i1 i2 hp h'->Q (.ref hp.objs.size) ⟨h',g,dr,tk',os⟩) :
  ϑ (ay prog w) A (call (.type "dict") [.ref z]) Q E ⟨hp,g,dr,tk,os⟩:=by
 have hnew:(hp.push {cls:=.type "dict",data:=.dict #[]}).DictOf knd hp.objs.size []:=xj hp;have up:∀c o,hp.get? c=aa o->(hp.push {cls:=.type "dict",data:=.dict #[]}).get? c=aa o:=λc o e=>bP _ e
 have lt:∀{c o},hp.get? c=aa o->hp.objs.size≠c:=λe=>iz (bw e)
 refine ur (Q₁:=λv s₁=>v=.ref hp.objs.size/\s₁=⟨hp.push {cls:=.type "dict",data:=.dict #[]},g,dr,tk,os⟩) yg (yh _) yi (yj _ ⟨rfl,rfl⟩) λv s₁ hv=>?_
 obtain⟨rfl,rfl⟩:=hv;have ty:(⟨hp.push {cls:=.type "dict",data:=.dict #[]},g,dr,tk,os⟩:au).TypeIs (.ref hp.objs.size) "dict":=hnew.typeIs;have ez:=up _ _ hw.z_;have tz:(⟨hp.push {cls:=.type "dict",data:=.dict #[]},g,dr,tk,os⟩:au).TypeIs (.ref z) "zip":=⟨_,ez,rfl⟩
 refine⟨ty,yk _ _,ao (ao (yl ty (aE ?_)))⟩;refine ao (iF tz ?_);rw[aq 0x4];refine ao (lacks ez hh λh' tk' kp=>?_);rw[aq (show(aj:ar am).isNone=ag from rfl)];refine ao (jj (ao (wpAny_pyIter_zip (TO:=TO) (f0:=.none) (kp _ _ ez) (aE ⟨li _ 0x6,?_⟩))));have hd':h'.DictOf knd hp.objs.size []:=let ⟨o,es,ep,ho,r⟩:=hnew;⟨o,es,ep,kp _ _ ho,r⟩
 refine xX (A:=A.in1) (ks:=ks) (show A.in1.handled=aj from hh) ap (lt hw.z_) (lt hw.to) (lt hw.j1) (lt hw.j2) hsz hk xs.size 0 ⟨h',g,dr,tk',os⟩ [] 0x1 (by rw[ef,dg];lia) ⟨_,_,_,_,hw.up λc o _ e=>kp c o (up c o e),.inl ⟨rfl,rfl⟩⟩ hd' λh2 tk2 hd2 kp2=>?_
 exact⟨rfl,q h2 tk2 hd2 λc o c1 c2 c3 c4 e=>kp2 c o (λx=>lt e x.symm) c1 c2 c3 c4 (kp c o (up c o e))⟩
end
end Wy
namespace Mi
open PySem L2 PySem.SeqAt PySem.Spec PyProof.Rows
def lR:ae D->Res D
 |[.tup xs,.lst ys]=>if ϒ (xs.length<=1000)&&ϒ (ys.length=xs.length)&&xs.all gD&&ε ys then .ok (.dct (mV xs ys [])) else .bad
 |_=>.bad
section
variable [KFrag]
theorem Rep.aOs(r:Rep P H v (.lst ds)):∃a vs,v=.ref a/\H a=aa (.lst vs)/\bJ P H vs ds:=by
 obtain⟨_,_,rfl,e,_,r⟩:=r.inv;exact⟨_,_,rfl,e,r⟩
section
theorem aCc(hg:Gl X "dict")(hm:X.mg "dict"=aj)(hg2:Gl X "zip")(hm2:X.mg "zip"=aj)(ha:PA X [a,b] (gA fs rr))(hc:autoParam (X.calm=ag) Ω)(hs2:autoParam (cr [a,b] X.env=(ak,eval a X.env)::cr [b] X.env) Ω)(hpl2:autoParam ((ip pos2 (cr [b] X.env)).any (·.1)=ak) Ω)
 (hs:autoParam (cr [.Call (.Name "zip" p2) [a,b] [] pos2] X.env=(ak,eval (.Call (.Name "zip" p2) [a,b] [] pos2) X.env)::cr [] X.env) Ω) :
  PE X (.Call (.Name "dict" p) [.Call (.Name "zip" p2) [a,b] [] pos2] [] pos) (gE (bD lR fs) ag):=by
 intro Ψ s σ H Q I ⟨ρ,d,E,h,q⟩;obtain⟨xs,h1,h2⟩:=aU h;unfold lR at h2;split at h2
 ·rename_i xs ys;split at h2
  ·rename_i hb;cases h2;simp only[aS,cv] at hb;obtain⟨⟨⟨hb1,hb2⟩,hb3⟩,hb4⟩:=hb;refine gL (mQ I hg hm xV ?_);refine ju ?_ hs rfl;rw[hs];show ϑ _ _ (kF ((ak,eval (.Call (.Name "zip" p2) [a,b] [] pos2) X.env)::ip pos (cr [] X.env))) _ _ s;refine l9 ?_;refine gL (mQ I hg2 hm2 boot_zip ?_);refine ju (thn (ha pos2 Ψ s σ H (λvs H1=>bU H H1/\bJ All H1 vs [.tup xs,.lst ys]) I ⟨ρ,_,E,h1,λvs H1 s1 r1 _=>⟨s1,r1⟩⟩) λus s1 ⟨vs,H1,I1,r1,sm,rp⟩=>?_) hs2 hpl2;cases rp with
   |cons rp1 rp=>
    cases rp with
    |cons rp2 rp=>
     cases rp;obtain⟨l1,vs1,rfl,e1,rr1⟩:=rp1.iD;obtain⟨l2,vs2,rfl,e2,rr2⟩:=rp2.aOs;cases r1 with
     |cons q1 r1=>
      cases r1 with
      |cons q2 r1=>
       cases r1;cases q1;cases q2;obtain⟨its1,w1,p1,_⟩:=I1.tuple (.of e1);obtain⟨_,its2,m2,w2,g2⟩:=I1.hok _ _ e2;have t1:s1.heap.IsTuple l1 its1.toArray:=p1;have t2:s1.heap.IsList l2 its2.toArray:=⟨_,g2,rfl,_,rfl⟩
       obtain⟨⟨c1,dd1,da1,sl1⟩,g1,hc1,m1,hd1⟩:=id p1;simp only at hc1 hd1;subst hc1 hd1;have hl1:=bw g1;have hl2:=bw g2;refine Wy.aKo t1 t2 λh' n hn z1 z2 z3 z4 z5 kp zsz=>?_
       subst hn;refine l8 ?_;have n1:=w1.length;have n2:=w2.length;have m1:=rr1.length;have m2:=rr2.length;obtain⟨ks,k1,k2,k3⟩:=XR rr1 w1 hb3;refine Wy.aCb (I1.ok.hd hc) (XS hl1 hl2) ⟨z5,z3,z4,z1,z2,kp _ _ g1,kp _ _ g2⟩ (by simp only[b6];lia) (by simp only[b6];lia) (λi u hu=>k3 i u (by simpa using hu)) λh2 tk dd kp2=>?_
       have hfr:H1 h'.objs.size=aj:=I1.hok.fresh (by rw[zsz];lia);have kall:∀c o,s1.heap.get? c=aa o->h2.get? c=aa o:=λc o e=>by
        have:=bw e;exact kp2 c o (cw (dy this (ut _ 4))) (cw (dy this (ut _ 3))) (cw this) (cw (dy this (ut _ 1))) (kp c o e)
       have rel:KV (fQ [] (ks.zip vs2)) (k9 [] (ks.zip its2)):=(aKm w2 ks).merge .nil;have hz:(fQ [] (ks.zip vs2)).length<=bo:=by
        have:=lL (ks.zip vs2) [];rw[ef,lp] at this;rw[dg];lia
       obtain⟨rk,nd⟩:=O5 (rr2) fV.nil gp;rw[k1] at rk;have sp:bU H1 (upd H1 h'.objs.size (.dK (fQ [] (ks.zip vs2)))):=bU.upd hfr;have pv:ε ((mV xs ys []).map (·.2))=ag:=by
        have go:∀(a b:ae D)(m:ae (D×D)),ε b=ag->ε (m.map (·.2))=ag->ε ((mV a b m).map (·.2))=ag:=by
         intro a;induction a with
         |nil=>intro b m _ hm;cases b<;>exact hm
         |cons x a ih=>
          intro b m hb hm;cases b with
          |nil=>exact hm
          |cons y b=>
           rw[ε,aS] at hb;refine ih b _ hb.2 ?_;have hp:=kJ (ds:=m) (k:=x) hb.1 hm;exact hp
        exact go xs ys [] hb4 rfl
       have rk2:∀{P:al->Prop},fV P (upd H1 h'.objs.size (.dK (fQ [] (ks.zip vs2)))) (fQ [] (ks.zip vs2)) (mV xs ys []):=λ{P}=>(rk.keep (.same sp) λ_ h=>h).bL pv
       refine⟨.ref h'.objs.size,_,I1.laid (a:=h'.objs.size) (t':=tk) (o:=.dK (fQ [] (ks.zip vs2))) kall (by rw[zsz];lia) (VM hz (fq.mpr ?_) rel (by simpa using dd)),rfl,?_⟩
       ·exact Ne.symm (cw (dy I1.big (by rw[zsz];exact ut _ 5)))
       ·exact q _ _ (sm.trans sp) (.dK aK trivial rk2 nd) λ_=>.dK aK (sm.free hfr) rk2 nd
  ·exact bx h2
 ·exact bx h2
end
end
noncomputable abbrev FX:=ae D->Res (D×ae D)
noncomputable abbrev FXT:=ae D->Res (ax×ae D)
noncomputable def xY:D->ar (ae D)
 |.lst xs=>aa xs
 |.cel _ xs=>aa xs
 |_=>aj
noncomputable def YF:D->ae D->D
 |.cel a _,xs=>.cel a xs
 |_,xs=>.lst xs
noncomputable def sS(k:ah):ah->ax:=λi=>ϒ (i<k)
open Classical in
noncomputable def ch1(f:ae D->Res D)(xs rest:ae D):Res (D×ae D):=
 if h:∃p:D×ae D,∀b,f (.cel b xs::rest)=.ok (.tup [p.1,.cel b p.2]) then .ok h.choose else .bad
theorem aKq{xs rest:ae D}(h:ch1 f xs rest=.ok p):∀b,f (.cel b xs::rest)=.ok (.tup [p.1,.cel b p.2]):=by
 unfold ch1 at h;split at h
 ·rename_i e;cases h;exact e.choose_spec
 ·exact bx h
theorem CP{xs rest xs':ae D}(h:∀b,f (.cel b xs::rest)=.ok (.tup [r,.cel b xs'])):ch1 f xs rest=.ok (r,xs'):=by
 have e:∃p:D×ae D,∀b,f (.cel b xs::rest)=.ok (.tup [p.1,.cel b p.2]):=⟨(r,xs'),h⟩
 have q:ch1 f xs rest=.ok e.choose:=by unfold ch1;rw[tw e]
 rw[q];have z:=e.choose_spec 0;rw[h 0] at z;injection z with z
 injection z with z
 injection z with z1 z2
 injection z2 with z2
 injection z2 with _ z2
 rw[z1,z2]
noncomputable def aOt(k:ah):Fl->Res D
 |.rt (.tup (d::ρ))=>.ok (.tup (d::ρ.take k))
 |.nx ρ=>.ok (.tup (.non::ρ.take k))
 |_=>.bad
def fnX(k n m:ah)(f:FS):ae D->Res D:=λds=>do
 let r <- f (ds++bX (m-n) .uD)
 aOt k r
def dZ(f:ae D->Res D)(n i:ah)(fs:FA):FX:=λρ=>do
 let rest <- fs ρ
 match xY (ρ.getD i .uD) with
 |some xs=>if ϒ (rest.length+1=n) then (do
   let p <- ch1 f xs rest
   if ε p.2 then .ok (p.1,ρ.set i (YF (ρ.getD i .uD) p.2)) else .bad) else .bad
 |none=>.bad
noncomputable def x2L(f:D->D->Res D)(fa:FX)(fb:FE):FX:=λρ=>do
 let p <- fa ρ
 if p.1.pure then (do
  let y <- fb p.2
  let d <- f p.1 y
  if d.pure then .ok (d,p.2) else .bad) else .bad
noncomputable def x2R(f:D->D->Res D)(fa:FE)(fb:FX):FX:=λρ=>do
 let x <- fa ρ
 let p <- fb ρ
 let d <- f x p.1
 if d.pure then .ok (d,p.2) else .bad
def xTB(f:FX):FXT:=λρ=>do
 let p <- f ρ
 let b <- asB p.1
 .ok (b,p.2)
def jD(o:ax)(i:ah)(f:FX):FS:=λρ=>do
 let p <- f ρ
 if (if o then inner p.1 else ag) then .ok (.nx (p.2.set i p.1)) else .bad
noncomputable def aNt(c:FXT)(f g:FS):FS:=λρ=>do
 let p <- c ρ
 if p.1 then f p.2 else g p.2
def JX(i:ah)(fk fv:FE):FS:=λρ=>do
 let d <- fv ρ
 let k <- fk ρ
 match xY (ρ.getD i .uD),k with
 |some xs,.int k=>if d.pure then (match ixD xs.length k with|some j=>.ok (.nx (ρ.set i (YF (ρ.getD i .uD) (xs.set j d))))|none=>.bad) else .bad
 |_,_=>.bad
noncomputable def bPu(f:FE):FE:=λρ=>do
 let d <- f ρ
 if d.pure then .ok d else .bad
noncomputable def isI:D->ax
 |.int _=>ag
 |_=>ak
def aGx:ae D->Res (ae D)
 |[]=>.bad
 |.lst ys::xs=>if ys.all isI&&ε xs then .ok (.scr ys::xs) else .bad
 |x::xs=>if x.pure then (do let r <- aGx xs;.ok (x::r)) else .bad
def aOu(f:FE):FE:=λρ=>do
 let d <- f ρ
 match d with
 |.lst xs=>(do let r <- aGx xs;.ok (.lst r))
 |_=>.bad
section
variable [KFrag]
section
variable {own:ah->ax}
theorem aEe(r:Rep P H (.ref a) d)(h:xY d=aa xs):∃vs,H a=aa (.lst vs)/\P a/\bJ P H vs xs:=by
 cases d<;>simp only[xY] at h<;>cases h<;>cases r
 ·exact⟨_,by assumption,by assumption,by assumption⟩
 ·exact⟨_,by assumption,by assumption,by assumption⟩
theorem xZ(r:Rep P H v (.cel b xs)):v=.ref b:=by cases r;rfl
theorem O6(r:Rep P H (.ref a) d)(h:xY d=aa xs)(e:H' a=aa (.lst vs'))(p:P' a)(r':bJ P' H' vs' xs'):Rep P' H' (.ref a) (YF d xs'):=by
 cases d<;>simp only[xY] at h<;>cases h<;>cases r
 ·exact .lst e p r'
 ·exact .cel e p r'
theorem aKr(h:xY d=aa xs):inner d=ε xs:=by
 cases d<;>simp only[xY] at h<;>cases h<;>rfl
theorem x_(h:xY d=aa xs):inner (YF d xs')=ε xs':=by
 cases d<;>simp only[xY] at h<;>cases h<;>rfl
theorem aKs(h:xY d=aa xs):d≠.uD:=λz=>by subst z;cases h
theorem ES.aOv(E:ES own H σ ρ)(ho:own i=ag)(hi:σ[i]?=aa (aa (.ref a)))(hk:∀b ob,H b=aa ob->b≠a->H' b=aa ob)(e:H' a=aa o)(hm:JB o=ag)(r:Rep All H' (.ref a) d)(hin:inner d=ag) :
  ES own H' σ (ρ.set i d)/\KU own σ H σ H':=by
 have hOa:Own own σ a:=⟨i,ho,hi⟩
 obtain⟨a',oa,ea,_,_,hHa,hma,huq⟩:=E.own i _ ho hi;cases ea;have k:KU own σ H σ H':=λb ob e n=>⟨hk b ob e (λz=>by subst z;exact n hOa),n⟩
 have hl:i<ρ.length:=by rw[<-E.len];exact(dE.mp hi).1
 refine⟨⟨by simp[E.len],λj hj=>?_,λj w hj hw=>?_⟩,k⟩
 ·rw[dF] at hj ⊢;by_cases h:i=j/\i<ρ.length
  ·obtain⟨rfl,_⟩:=h;exact⟨_,hi,λz=>by rw[ho] at z;cases z⟩
  ·rw[aw h] at hj ⊢;obtain⟨w,h1,h2⟩:=E.at_ j hj;exact⟨w,h1,λhj=>k.rep E (h2 hj)⟩
 ·by_cases hij:i=j
  ·subst hij;rw[hi] at hw;cases hw;rw[dF,aq ⟨rfl,hl⟩];exact⟨a,o,rfl,r,hin,e,hm,huq⟩
  ·rw[dF,aw λz=>hij z.1];obtain⟨b,ob,h1,h2,h3,h4,h5,h6⟩:=E.own j w hj hw;subst h1;have hba:b≠a:=λz=>by subst z;exact hij (h6 i ho hi)
   refine⟨b,ob,rfl,?_,h3,hk _ _ h4 hba,h5,h6⟩;refine(h2.sS (P':=λc=>c=b) h3 rfl).keep (λc oc hc hp=>?_) λ_ _=>trivial
   refine hk _ _ hc λz=>?_
   subst z;rcases hp with hp|hp
   ·exact hba hp.symm
   ·rw[hHa] at hc;cases hc;rw[hma] at hp;cases hp
def NS(own:ah->ax)(ρ ρ':ae D):Prop:=∀i,own i=ak->ρ'.getD i .uD=ρ.getD i .uD
theorem NS.refl:NS own ρ ρ:=λ_ _=>rfl
theorem NS.set(ho:own i=ag):NS own ρ (ρ.set i d):=λj hj=>by
 rw[dF,aw];rintro⟨rfl,_⟩;rw[ho] at hj;cases hj
def kX(own:ah->ax)(σ:L2.St)(H:Hp)(ρ:ae D)(d:D)(ρ':ae D)(Q:VK):Prop:=∀v H',KU own σ H σ H'->ES own H' σ ρ'->NS own ρ ρ'->Rep (New H) H' v d->Q v H'
noncomputable def gX(own:ah->ax)(f:FX):TE:=λσ H Q=>∃ρ d ρ',ES own H σ ρ/\f ρ=.ok (d,ρ')/\kX own σ H ρ d ρ' Q
noncomputable def gXT(own:ah->ax)(f:FXT):TT:=λσ H Q=>∃ρ d ρ',ES own H σ ρ/\f ρ=.ok (d,ρ')/\∀H',KU own σ H σ H'->ES own H' σ ρ'->NS own ρ ρ'->Q d H'
noncomputable def gAO(own:ah->ax)(f:FA):TA:=λσ H Q=>∃ρ ds,ES own H σ ρ/\f ρ=.ok ds/\∀vs H',bU H H'->bJ (λa=>¬Own own σ a) H' vs ds->Q vs H'
theorem uI(E:ES own H σ ρ)(h:H a=aj):¬Own own σ a:=λn=>by
 obtain⟨o',e,_⟩:=E.live n;rw[h] at e;cases e
theorem aGy(E:ES own H σ ρ)(E1:ES own H1 σ ρ1)(k:KU own σ H1 σ H2):u9 (New H) H1 H2:=λa o e hp=>by
 refine(k a o e ?_).1;rcases hp with hp|hp
 ·exact uI E hp
 ·intro n;obtain⟨o',e',hm⟩:=E1.live n;rw[e] at e';cases e';rw[hp] at hm;cases hm
theorem Rep.ku(r:Rep (New H) H1 v d)(E:ES own H σ ρ)(E1:ES own H1 σ ρ1)(k:KU own σ H1 σ H2):Rep (New H) H2 v d:=r.keep (aGy E E1 k) λ_ h=>h
theorem ES.aRr(E:ES own H σ ρ)(k:KU own σ H σ H')(E':ES own H' σ ρ')(ns:NS own ρ ρ')(ho:own i=ag)(hn:H a=aj)(r:Rep All H' (.ref a) d)(hin:inner d=ag)(ha:H' a=aa o)(hm:JB o=ag) :
  ES own H' (σ.set i (aa (.ref a))) (ρ'.set i d)/\KU own σ H (σ.set i (aa (.ref a))) H':=by
 have hO:∀b,H b≠aj->¬Own own σ b->¬Own own (σ.set i (aa (.ref a))) b:=λb hb n z0=>by
  obtain⟨j,hj,e⟩:=z0;by_cases hij:i=j
  ·subst hij;by_cases hl:i<σ.length
   ·rw[fy hl] at e;cases e;exact hb hn
   ·rw[oI,aq rfl,aw hl] at e;cases e
  ·rw[du hij] at e;exact n ⟨j,hj,e⟩
 have hna:¬Own own σ a:=uI E hn;refine⟨⟨by simp[E'.len],λj hj=>?_,λj w hj hw=>?_⟩,λb ob e n=>⟨(k b ob e n).1,hO b (by rw[e];simp) n⟩⟩
 ·rw[dF] at hj ⊢;by_cases h:i=j/\i<ρ'.length
  ·rw[aq h];obtain⟨rfl,hl⟩:=h;exact⟨.ref a,by rw[fy (by rw[E'.len];exact hl)],λz=>by rw[ho] at z;cases z⟩
  ·rw[aw h] at hj ⊢;obtain⟨w,h1,h2⟩:=E'.at_ j hj;by_cases hij:i=j
   ·subst hij;have:i<σ.length:=(dE.mp h1).1;rw[E'.len] at this;exact bd ⟨rfl,this⟩ h
   ·refine⟨w,by rw[du hij];exact h1,λhoj=>?_⟩;rw[ns j hoj] at hj ⊢;obtain⟨w',h1',h2'⟩:=E.at_ j hj;rw[h1] at h1';cases h1';exact(h2' hoj).dom.keep (λc oc hc hp=>k.keep E c oc hc (hp.imp And.left id)) λb ⟨n,hb⟩=>hO b hb n
 ·by_cases hij:i=j
  ·subst hij;have hl:i<σ.length:=by
    have:=(dE.mp hw).1;simpa using this
   rw[fy hl] at hw;cases hw;rw[dF,aq ⟨rfl,by rw[<-E'.len];exact hl⟩];refine⟨a,o,rfl,r,hin,ha,hm,λk hk hs=>?_⟩;by_cases hik:i=k
   ·exact hik.symm
   ·rw[du hik] at hs;exact bd ⟨k,hk,hs⟩ hna
  ·rw[du hij] at hw;rw[dF,aw λz=>hij z.1];obtain⟨b,ob,h1,h2,h3,h4,h5,h6⟩:=E'.own j w hj hw;refine⟨b,ob,h1,h2,h3,h4,h5,λk hk hs=>?_⟩;by_cases hik:i=k
   ·subst hik;by_cases hl:i<σ.length
    ·rw[fy hl] at hs;cases hs;subst h1;exact bd ⟨j,hj,hw⟩ hna
    ·rw[oI,aq rfl,aw hl] at hs;cases hs
   ·rw[du hik] at hs;exact h6 k hk hs
end
section
variable {own:ah->ax} {X:Cx} {a b c e:Expr} {pos pos':dq} {fa fb:FE} {rb:ax} {xa xb xe:FX}
theorem aQm{fr:ax}(h:gX own (x2L f xa fb) σ H Q):tOp (r2 f fr) (gX own xa) (gE fb rb) σ H Q:=by
 obtain⟨ρ,d,ρ',E,h,q⟩:=h;obtain⟨⟨x,ρ1⟩,h1,h⟩:=aU h;split at h
 ·rename_i hp;obtain⟨y,h2,h⟩:=aU h;obtain⟨z,h3,h⟩:=aU h;split at h
  ·rename_i hz;cases h;refine⟨ρ,x,ρ1,E,h1,λv H1 k1 E1 ns r1=>⟨ρ1,y,E1.er,h2,λw H2 s2 r2 _=>⟨x,y,_,(r1.same s2).all,r2,h3,λu H3 s3 r3 _=>?_⟩⟩⟩;exact q u H3 (k1.trans (.same (s2.trans s3))) (E1.same (s2.trans s3)) ns (r3.bL hz)
  ·exact bx h
 ·exact bx h
theorem CQ{fr:ax}(ho:OpR X (eB o) (r2 f fr))(ha:PE X a (gX own xa))(hb:PE X b (gE fb rb)):PE X (.BinOp a o b pos) (gX own (x2L f xa fb)):=PE.imp (aFj ho ha hb) λ_ _ _=>aQm
theorem aGz{fr:ax}(ho:OpR X (dL o) (r2 f fr))(ha:PE X a (gX own xa))(hb:PE X b (gE fb rb))(hm:iu o b=ak):PT X (.Compare a [o] [b] pos) (gXT own (xTB (x2L f xa fb))):=
 PT.imp (U6 ho ha hb hm) λσ H Q z0=>by
  obtain⟨ρ,k,ρ',E,h,q⟩:=z0;obtain⟨⟨d,ρ1⟩,h1,h2⟩:=aU h;obtain⟨b,h3,h4⟩:=aU h2;cases h4;refine aQm ⟨ρ,d,_,E,h1,λv H' k1 E1 ns r=>?_⟩;cases aK4 h3;cases r.inv;exact⟨_,rfl,q H' k1 E1 ns⟩
theorem aRs{fr:ax}(h:gX own (x2R f fa xb) σ H Q):tOp (r2 f fr) (gE fa ag) (gX own xb) σ H Q:=by
 obtain⟨ρ,d,ρ',E,h,q⟩:=h;obtain⟨x,h1,h⟩:=aU h;obtain⟨⟨y,ρ1⟩,h2,h⟩:=aU h;obtain⟨z,h3,h⟩:=aU h;split at h
 ·rename_i hz;cases h;refine⟨ρ,x,E.er,h1,λv H1 s1 r1 n1=>⟨ρ,y,ρ1,E.same s1,h2,λw H2 k2 E2 ns r2=>⟨x,y,_,((n1 rfl).ku E (E.same s1) k2).all,r2.all,h3,λu H3 s3 r3 _=>?_⟩⟩⟩;exact q u H3 ((KU.same s1).trans (k2.trans (.same s3))) (E2.same s3) ns (r3.bL hz)
 ·exact bx h
theorem aKt{fr:ax}(ho:OpR X (eB o) (r2 f fr))(ha:PE X a (gE fa ag))(hb:PE X b (gX own xb)):PE X (.BinOp a o b pos) (gX own (x2R f fa xb)):=PE.imp (aFj ho ha hb) λ_ _ _=>aRs
theorem aH0(E:ES own H σ ρ)(ho:own i=ak)(h:b8 i ρ=.ok d):∃v,σ[i]?=aa (aa v)/\Rep (λa=>¬Own own σ a) H v d:=by
 obtain⟨v,hv,r,e⟩:=E.er.var h;have hne:ρ.getD i .uD≠.uD:=λz=>by
  rw[z] at e;subst e;exact Rep.uD r
 obtain⟨w,hw,hr⟩:=E.at_ i hne;rw[hv] at hw;cases hw;have r2:=hr ho;rw[e] at r2;exact⟨v,hv,r2⟩
theorem aRt{fr:ax}{σ:L2.St}{H:Hp}{Q:VK}(ho:own i=ak)(h:gX own (x2R f (b8 i) xb) σ H Q):tOp (r2 f fr) (gB i) (gX own xb) σ H Q:=by
 obtain⟨ρ,d,ρ',E,h,q⟩:=h;obtain⟨x,h1,h⟩:=aU h;obtain⟨⟨y,ρ1⟩,h2,h⟩:=aU h;obtain⟨z,h3,h⟩:=aU h;obtain⟨v,hv,rv⟩:=aH0 E ho h1;split at h
 ·rename_i hz;cases h;refine⟨v,hv,ρ,y,ρ1,E,h2,λw H2 k2 E2 ns r2=>⟨x,y,_,(k2.rep E rv).all,r2.all,h3,λu H3 s3 r3 _=>?_⟩⟩;exact q u H3 (k2.trans (.same s3)) (E2.same s3) ns (r3.bL hz)
 ·exact bx h
theorem aKu{pv:dq}{f:D->D->Res D}{fr:ax}(ho:IxR X (r2 f fr))(hoi:own i=ak)(hN:X.N[i]?=aa x)(hv:Vis X.env.scope x)(hb:PE X b (gX own xb))(hs:wU b)(hd:autoParam (nDb x) Λ)(hcd:autoParam (nCd x) Λ):PE X (.Subscript (.Name x pv) b pos) (gX own (x2R f (b8 i) xb)):=PE.imp (VF ho (aV hN hv hd hcd) hb hs) λ_ _ _=>aRt hoi
theorem aCd(ho:own i=o)(h:tS own (jD o i xe) D' σ H):wN (gX own xe) (fO i) D' σ H:=by
 obtain⟨ρ,fl,E,h,q⟩:=h;obtain⟨⟨d,ρ1⟩,h1,h2⟩:=aU h;cases o with
 |true=>
  simp only[ff] at h2;split at h2
  ·rename_i hk;cases h2;refine⟨ρ,d,ρ1,E,h1,λv H' k E1 ns r=>?_⟩;obtain⟨a,ob,rfl,hn,ha,hm⟩:=aE8 r hk;obtain⟨E2,k2⟩:=E.aRr k E1 ns ho hn r.all hk ha hm;exact q _ H' k2 E2
  ·exact bx h2
 |false=>
  simp only[gn,fE,ff] at h2;cases h2;refine⟨ρ,d,ρ1,E,h1,λv H' k E1 ns r=>?_⟩;exact q _ H' (λa ob e hn=>⟨(k a ob e hn).1,by rw[jX ho];exact hn⟩) (E1.set ho (xK E r))
theorem jN(ho:own i=o)(hN:X.N.Nodup)(hi:X.N[i]?=aa x)(hx:Loc X.env.scope x)(he:PE X e (gX own xe))(hs:autoParam (zSw X e x pos' pos) Ω)(hf:autoParam (zFn X x) Ξ) :
  PS X (.Assign [.Name x pos'] e pos) (tS own (jD o i xe)):=PS.imp (K8 hN hi hx he hs hf) λ_ _ _=>aCd ho
theorem aOw(hc:PT X c (gXT own xc))(ha:PSs X s1 (tS own f))(hb:PSs X s2 (tS own g)):PS X (.If c s1 s2 pos) (tS own (aNt xc f g)):=PS.imp (HR hc ha hb) λD σ H z0=>by
 obtain⟨ρ,fl,E,h,q⟩:=z0;obtain⟨⟨k,ρ1⟩,h1,h2⟩:=aU h;refine⟨ρ,k,ρ1,E,h1,λH' ku E1 ns=>?_⟩;cases k with
 |true=>rw[aq rfl];rw[aq rfl] at h2;exact⟨ρ1,fl,E1,h2,q.step ku⟩
 |false=>rw[aw 0x2];rw[aw 0x2] at h2;exact⟨ρ1,fl,E1,h2,q.step ku⟩
end
section
variable {own:ah->ax} {X:Cx} {a b c e:Expr} {pos pos':dq} {fe:FE} {ra re:ax}
theorem kRt.new{D:Ends}(h:kRt own D σ H (.tup (d0::ρ')))(hx:own rtX=ag):∀v σ' H',KU own σ H σ' H'->ES own H' σ' ρ'->Rep (λa=>(Own own σ a\/H a=aj)/\∀i b xs,ρ'.getD i .uD=.cel b xs->a≠b) H' v d0->D.rt v H':=by
 unfold kRt at h;rw[aq hx] at h;obtain⟨d1,ρ1,e,g⟩:=h;cases e;exact g
theorem kW(E:ES own H σ ρ){i b:ah}{xs:ae D}(h:ρ.getD i .uD=.cel b xs):∃vs,σ[i]?=aa (aa (.ref b))/\H b=aa (.lst vs):=by
 obtain⟨v,h1,h2⟩:=E.er i (by rw[h];intro z;cases z);rw[h] at h2;obtain⟨_,rfl,e,_,_⟩:=h2.inv;exact⟨_,h1,e⟩
theorem jZ(he:PE X e (gE fe re))(hx:autoParam (own rtX=ag) Ω):PS X (.Return (aa e) pos) (tS own (qD fe re)):=PS.imp (rK he) λD σ H z0=>by
 obtain⟨ρ,fl,E,h,q⟩:=z0;obtain⟨d,h1,h2⟩:=aU h;split at h2
 ·rename_i hk;cases h2;refine⟨ρ,d,E.er,h1,λv H' s r n=>kRt.new q hx v σ H' (.same s) (E.same s) ?_⟩;rw[iS] at hk;rcases hk with hk|hk
  ·refine(n hk).mono λa ha=>⟨.inr ha,λi b xs hb z=>?_⟩
   obtain⟨vs,_,e⟩:=kW E hb;subst z;rw[show H a=aj from ha] at e;cases e
  ·exact r.bL hk
 ·exact bx h2
theorem yC(ho:own i=ag)(hN:X.N[i]?=aa x)(hv:Vis X.env.scope x)(hd:autoParam (nDb x) Λ)(hcd:autoParam (nCd x) Λ)(hx:autoParam (own rtX=ag) Ω):PS X (.Return (aa (.Name x pos')) pos) (tS own (tX i)):=
 PS.imp (rK (aV hN hv hd hcd)) λD σ H z0=>by
 obtain⟨ρ,fl,E,h,q⟩:=z0;obtain⟨d,h1,h2⟩:=aU h;split at h2
 ·rename_i hc;cases h2;obtain⟨v,hv,r,e⟩:=E.er.var h1;obtain⟨a,o,rfl,r2,hin,_,_,huq⟩:=E.own i v ho hv;rw[e] at hin;refine⟨_,hv,kRt.new q hx _ σ H (.same (bU.refl H)) E (r.sS hin ⟨.inl ⟨i,ho,hv⟩,λj b xs hb z=>?_⟩)⟩;obtain⟨vs,hj,eb⟩:=kW E hb;subst z;cases hoj:own j with
  |true=>
   have:=huq j hoj hj;subst this;rw[hb] at e;subst e;cases hc
  |false=>
   obtain⟨w,hw,hr⟩:=E.at_ j (by rw[hb];intro z;cases z);have r3:=hr hoj;rw[hb] at r3;obtain⟨_,rfl,e,p,r⟩:=r3.inv;exact p ⟨i,ho,hv⟩
 ·exact bx h2
def spV(k:ah)(f:ae D->Res D)(n:ah):Sp:=λvs H Q _=>∃ds d ds',ds.length=n/\vs.length=n/\ES (sS k) H (vs.map aa) ds/\(∀i,i<k->∃b xs xs',ds.getD i .uD=.cel b xs/\ds'.getD i .uD=.cel b xs')/\f ds=.ok (.tup (d::ds'))/\
 ∀v H',(∀a o,H a=aa o->¬Own (sS k) (vs.map aa) a->H' a=aa o)->(∀i v,i<k->vs[i]?=aa v->Rep All H' v (ds'.getD i .uD)/\inner (ds'.getD i .uD)=ag)->Rep (New H) H' v d->Q v H'
theorem aH1{E:XK}(h:spV k f n vs H Q E):vs.length=n:=by
 obtain⟨ds,d,ds',h1,h2,_⟩:=h;exact h2
theorem CT{ρ:ae D}(h:i<k):(ρ.take k).getD i .uD=ρ.getD i .uD:=by
 rw[b9,b9,List.getElem?_take,aq h]
theorem aCe{k:ah}{N ps:ae Str}{f:FS}{vs:ae V}{H:Hp}{Q:VK}{E:XK}(hx:own rtX=ag)(hown:∀i,i<ps.length->own i=sS k i)(hkn:k<=ps.length)(h0:spV k (fnX k ps.length N.length f) ps.length vs H Q E):tS own f {nx:=λ_ H'=>Q .non H',rt:=Q} (start N vs) H:=by
 obtain⟨ds,d,ds',hl,hvl,E0,hc,h,q⟩:=h0;obtain⟨fl,h1,h2⟩:=aU h;have hst:start N vs=vs.map aa++bX (N.length-ps.length) aj:=by
  show vs.map aa++bX (N.length-vs.length) aj=_;rw[hvl]
 have low:∀i,i<ps.length->(start N vs)[i]?=(vs.map aa)[i]?:=λi hi=>by rw[hst,dA (by simp[hvl,hi])]
 have high:∀i v,ps.length<=i->(start N vs)[i]?≠aa (aa v):=λi v hi e=>by
  rw[hst,fg (by simp[hvl];lia),iE] at e;split at e<;>cases e
 have hO:∀a,Own own (start N vs) a↔Own (sS k) (vs.map aa) a:=λa=>by
  constructor
  ·rintro⟨i,hi,e⟩;by_cases hlt:i<ps.length
   ·exact⟨i,by rw[<-hown i hlt];exact hi,by rw[<-low i hlt];exact e⟩
   ·exact bd e (high i _ 0x1)
  ·rintro⟨i,hi,e⟩;have hik:i<k:=by simpa[sS] using hi
   have hlt:i<ps.length:=by lia
   exact⟨i,by rw[hown i hlt];exact hi,by rw[low i hlt];exact e⟩
 have hOf:(λa=>¬Own own (start N vs) a)=λa=>¬Own (sS k) (vs.map aa) a:=funext λa=>by rw[hO]
 have gd:∀i,i<ps.length->(ds++bX (N.length-ps.length) D.uD).getD i .uD=ds.getD i .uD:=λi hi=>by
  rw[b9,dA 0x1,b9]
 have ES0:ES own H (start N vs) (ds++bX (N.length-ps.length) .uD):=by
  refine⟨by rw[hst];simp[hvl,hl],λi hi=>?_,λi v hi hv=>?_⟩
  ·have hlt:i<ps.length:=gS λhge=>hi (by
    rw[b9,fg 0x1,iE];split<;>rfl)
   rw[gd i hlt] at hi ⊢;obtain⟨v,g1,g2⟩:=E0.at_ i hi;exact⟨v,by rw[low i hlt];exact g1,λho=>by rw[hOf];exact g2 (by rw[<-hown i hlt];exact ho)⟩
  ·have hlt:i<ps.length:=gS λhge=>high i v hge hv
   rw[low i hlt] at hv;rw[gd i hlt];obtain⟨a,o,g1,g2,g3,g4,g5,g6⟩:=E0.own i v (by rw[<-hown i hlt];exact hi) hv;refine⟨a,o,g1,g2,g3,g4,g5,λj hj hs=>?_⟩;have hjl:j<ps.length:=gS λhge=>high j _ hge hs
   exact g6 j (by rw[<-hown j hjl];exact hj) (by rw[<-low j hjl];exact hs)
 have fin:∀v σ' H' ρ',ds'=ρ'.take k->KU own (start N vs) H σ' H'->ES own H' σ' ρ'->Rep (New H) H' v d->Q v H':=λv σ' H' ρ' ed ku E' r=>by
  refine q v H' (λa o e n=>(ku a o e (by rw[hO];exact n)).1) (λi w hi hw=>?_) r;have hlt:i<ps.length:=by lia
  obtain⟨b,xs,xs',g1,g2⟩:=hc i hi;have hoi:own i=ag:=by rw[hown i hlt];simp[sS,hi]
  have g3:ρ'.getD i .uD=.cel b xs':=by rw[ed,CT hi] at g2;exact g2
  obtain⟨vs0,z1,_⟩:=kW E0 g1;rw[fA,hw] at z1;cases z1;obtain⟨w',z2,_⟩:=E'.at_ i (by rw[g3];intro z;cases z);obtain⟨a,o,rfl,g4,g5,_⟩:=E'.own i w' hoi z2;rw[g3] at g4 g5;have:=xZ g4;cases this;rw[g2];exact⟨g4,g5⟩
 refine⟨_,fl,ES0,h1,?_⟩;cases fl with
 |nx ρ'=>
  simp only[aOt] at h2;injection h2 with h2
  injection h2 with h2
  injection h2 with z1 z2
  subst z1;exact λσ' H' ku E'=>fin .non σ' H' ρ' z2.symm ku E' .non
 |bk ρ'=>exact bx h2
 |ct ρ'=>exact bx h2
 |rt d'=>
  show kRt own _ _ _ d';unfold kRt;rw[aq hx];unfold aOt at h2;split at h2
  ·rename_i d1 ρ' heq;cases heq;injection h2 with h2
   injection h2 with h2
   injection h2 with z1 z2
   subst z1;refine⟨_,_,rfl,λv σ' H' ku E' r=>fin v σ' H' ρ' z2.symm ku E' (r.mono λa ha=>?_)⟩;rcases ha.1 with ⟨i,hi,e⟩|hn
   ·exfalso;have hlt:i<ps.length:=gS λhge=>high i _ hge e
    have hik:i<k:=by rw[hown i hlt] at hi;simpa[sS] using hi
    obtain⟨b,xs,xs',g1,g2⟩:=hc i hik;obtain⟨vs0,q1,_⟩:=kW E0 g1;rw[low i hlt,q1] at e;cases e;rw[<-z2,CT hik] at g2;exact ha.2 i _ xs' g2 rfl
   ·exact hn
  ·rename_i heq;cases heq
  ·exact bx h2
theorem aKv{P:bS}{w:bu}{K:bi}{mg:Str->ar am}{base:bc}{x qual:Str}{st:bz}{fad:al}{fd:dm}{N ps:ae Str}{k c:ah}{f:FS}(F:Fun K x qual st fad fd)(S:bZ N ps (aN st))(own:ah->ax)(hx:own rtX=ag)(hown:∀i,i<ps.length->own i=sS c i)(hkn:c<=ps.length)
 (hbody:∀(cdv:am) (A:cf) (outer:ae cS) (s:au) (H:Hp) (E:XK),lH k (A.deeper (eR qual (aN st) s.heap.objs.size fad cdv))->PSs (wQ CX0 P w K mg base N qual (aN st) fad cdv A outer s H E).nox (dR st) (tS own f)):lJ P w K mg base CX0 (k+1) fad fd ps (spV c (fnX c ps.length N.length f) ps.length):=
 F.ok S (λvs H Q E h=>aH1 h) λcdv A outer s H vs Q E hr h=>⟨_,hbody cdv A outer s H E hr,aCe hx hown hkn h⟩
def G_(P:bS)(w:bu)(K:bi)(mg:Str->ar am)(base:bc)(k:ah)(x:Str)(n c:ah)(f:ae D->Res D):Prop:=
 ∃(fad:al)(fd:dm)(ps:ae Str),lJ P w K mg base CX0 k fad fd ps (spV c f n)/\mg x=aa (.ref fad)/\gl K (.ref fad)=ag/\Binds K fd ps []
theorem uJ{w:bu}{K:bi}{mg:Str->ar am}{base:bc}{x:Str}{k:ah}{st:bz}{fad:al}{fd:dm}{N ps:ae Str}{fs:FS}(c:ah)(F:Fun K x x st fad fd)(hm:mg x=aa (.ref fad))(hb:Binds K fd ps [])(S:bZ N ps (aN st))(own:ah->ax)(hown:∀i,i<ps.length->own i=sS c i)(hkn:c<=ps.length)
 (hbody:∀(cdv:am) (A:cf) (outer:ae cS) (s:au) (H:Hp) (E:XK),lH k (A.deeper (eR x (aN st) s.heap.objs.size fad cdv))->PSs (wQ CX0 P w K mg base N x (aN st) fad cdv A outer s H E).nox (dR st) (tS own fs))(hx:autoParam (own rtX=ag) Ω):G_ P w K mg base (k+1) x ps.length c (fnX c ps.length N.length fs):=
 ⟨fad,fd,ps,aKv F S own hx hown hkn hbody,hm,F.kp,hb⟩
theorem gV:PA X [] (gAO own aY):=PA.imp dM λσ H Q z0=>by obtain⟨ρ,ds,E,h,q⟩:=z0;cases h;exact q [] H (bU.refl H) .nil
theorem kY(ho:own i=ak)(hN:X.N[i]?=aa x)(hv:Vis X.env.scope x)(hes:PA X es (gAO own f))(hd:autoParam (nDb x) Λ)(hcd:autoParam (nCd x) Λ)(hs:autoParam (cr (.Name x pos::es) X.env=(ak,eval (.Name x pos) X.env)::cr es X.env) Ω):PA X (.Name x pos::es) (gAO own (aF (b8 i) f)):=PA.imp (bH (aV hN hv hd hcd) hes hs) λσ H Q z0=>by
 obtain⟨ρ,ds,E,h,q⟩:=z0;obtain⟨x,h1,h⟩:=aU h;obtain⟨xs,h2,h⟩:=aU h;cases h;obtain⟨v,hv,rv⟩:=aH0 E ho h1;exact⟨v,hv,ρ,xs,E,h2,λvs H2 s2 r2=>q _ _ s2 (.cons (rv.same s2) r2)⟩
theorem aH2(he:PE X e (gE fe re))(hes:PA X es (gAO own f))(hs:autoParam (zSE X e es) Ω):PA X (e::es) (gAO own (aF (bPu fe) f)):=PA.imp (bH he hes hs) λσ H Q z0=>by
 obtain⟨ρ,ds,E,h,q⟩:=z0;obtain⟨x,h1,h⟩:=aU h;obtain⟨xs,h2,h⟩:=aU h;cases h;obtain⟨y,h3,h1⟩:=aU h1;split at h1
 ·rename_i hp;cases h1;exact⟨ρ,_,E.er,h3,λv H1 s1 r1 _=>⟨ρ,xs,E.same s1,h2,λvs H2 s2 r2=>q _ _ (s1.trans s2) (.cons ((r1.bL hp).same s2) r2)⟩⟩
 ·exact bx h1
theorem aKw(he:PE X e (gE fe ag))(hes:PA X es (gAO own f))(hs:autoParam (zSE X e es) Ω):PA X (e::es) (gAO own (aF fe f)):=PA.imp (bH he hes hs) λσ H Q z0=>by
 obtain⟨ρ,ds,E,h,q⟩:=z0;obtain⟨x,h1,h⟩:=aU h;obtain⟨xs,h2,h⟩:=aU h;cases h;exact⟨ρ,_,E.er,h1,λv H1 s1 r1 n1=>⟨ρ,xs,E.same s1,h2,λvs H2 s2 r2=>q _ _ (s1.trans s2) (.cons ((xK E (n1 rfl)).same s2) r2)⟩⟩
theorem aOx{a:al}{vs0:ae V}{vs:ae V}{rest:ae D}(ha:H a=aa (.lst vs0))(ra:bJ All H vs0 xs)(hp:ε xs=ag)(rs:bJ (λb=>b≠a) H vs rest):ES (sS 1) H ((V.ref a::vs).map aa) (.cel a xs::rest):=by
 have hO:∀b,Own (sS 1) ((V.ref a::vs).map aa) b->b=a:=λb z0=>by
  obtain⟨j,hj,e⟩:=z0;have:j=0:=by simp[sS] at hj;lia
  subst this;simp at e;exact e.symm
 refine⟨by simp[rs.length],λi hi=>?_,λi v hi hv=>?_⟩
 ·cases i with
  |zero=>exact⟨.ref a,rfl,λz=>by simp[sS] at z⟩
  |succ i=>
   have e:(D.cel a xs::rest).getD (i+1) .uD=rest.getD i .uD:=rfl;rw[e] at hi ⊢;cases hq:rest[i]? with
   |none=>rw[b9,hq] at hi;exact bd rfl hi
   |some d=>
    obtain⟨v,g1,g2⟩:=rs.get hq;rw[b9,hq];exact⟨v,by simp[g1],λ_=>g2.mono λb hb ho=>hb (hO b ho)⟩
 ·have:i=0:=by simp[sS] at hi;lia
  subst this;simp at hv;subst hv;exact⟨a,.lst vs0,rfl,.cel ha trivial ra,hp,ha,rfl,λj hj _=>by simp[sS] at hj;lia⟩
theorem uK(E:ES own H σ ρ)(ho:own i=ag)(h:xY (ρ.getD i .uD)=aa xs):∃a vs,σ[i]?=aa (aa (.ref a))/\H a=aa (.lst vs)/\bJ All H vs xs/\ε xs=ag/\Rep All H (.ref a) (ρ.getD i .uD)/\∀b,ρ.getD i .uD=.cel b xs->b=a:=by
 obtain⟨a,o,hσ,r,hin,ha,hm⟩:=E.ownAt ho (aKs h);obtain⟨vs,e,_,rr⟩:=aEe r h;exact⟨a,vs,hσ,e,rr,by rw[aKr h] at hin;exact hin,r,λb hb=>by rw[hb] at r;have:=xZ r;cases this;rfl⟩
theorem aKx{H H':Hp}{a:al}{d:D}{xs xs':ae D}(r:Rep All H (.ref a) d)(h:xY d=aa xs)(r':Rep All H' (.ref a) (.cel a xs')):∃vs,H' a=aa (.lst vs)/\Rep All H' (.ref a) (YF d xs'):=by
 obtain⟨vs,e,_,rr⟩:=aEe r' rfl;exact⟨vs,e,O6 r h e trivial rr⟩
theorem dG(C:G_ X.prog X.w X.K X.mg X.base k x n 1 f)(hr:lH k' X.A)(hkk:k<=k')(hg:Gl X x)(ho:own i=ag)(hN:X.N[i]?=aa y)(hv:Vis X.env.scope y)(ha:PA X es (gAO own fs))(hdb:autoParam (nDb x) Λ)(hd:autoParam ((y==("__debug__" : Str))=ak) Λ)(hcd:autoParam ((y==("__classdict__" : Str))=ak) Λ)
 (he:autoParam (cr (.Name y py::es) X.env=(ak,eval (.Name y py) X.env)::cr es X.env) Ω)(hpl:autoParam (zSP X pos es) Ω):PE X (.Call (.Name x p) (.Name y py::es) [] pos) (gX own (dZ f n i fs)):=by
 obtain⟨fad,fd,ps,F,hm,hk,hb⟩:=C;refine PE.imp (HW F (hr.mono hkk) hg hm hk hb .nil VV (bH (aV hN hv hd hcd) ha he) hdb he hpl) λσ H Q ζ=>?_;obtain⟨ρ,d,ρ',E,h,q⟩:=ζ
 obtain⟨rest,h1,h⟩:=aU h;split at h
 ·rename_i xs hx;split at h
  ·rename_i hn;obtain⟨⟨r0,xs'⟩,h2,h⟩:=aU h;split at h
   ·rename_i hp';cases h;obtain⟨a,vs0,hσ,e0,rr0,hp0,rp0,_⟩:=uK E ho hx;refine⟨_,hσ,ρ,rest,E,h1,λvs H1 s1 rs=>?_⟩;have hOa:Own own σ a:=⟨i,ho,hσ⟩
    have hl:rest.length+1=n:=eg hn;dsimp only;rw[b5];refine⟨.cel a xs::rest,_,[.cel a xs'],by simp;lia,by simp[rs.length];lia,aOx (s1 _ _ e0) (rr0.same s1) hp0 (rs.mono λb hb z=>by subst z;exact hb hOa),λj hj=>?_,aKq h2 a,λv H' k1 own1 rn=>?_⟩
    ·have:j=0:=by lia
     subst this;exact⟨a,xs,xs',rfl,rfl⟩
    ·obtain⟨r1,hin⟩:=own1 0 _ 0x1 rfl;have r1:Rep All H' (.ref a) (.cel a xs'):=r1;obtain⟨vs1,e1,r2⟩:=aKx (rp0.same s1) hx r1;have hk1:∀b ob,H1 b=aa ob->b≠a->H' b=aa ob:=λb ob e n=>k1 b ob e λz0=>by
      obtain⟨j,hj,ej⟩:=z0;have:j=0:=by simp[sS] at hj;lia
      subst this;simp at ej;exact n ej.symm
     obtain⟨E2,k2⟩:=(E.same s1).aOv ho hσ hk1 e1 rfl r2 (by rw[x_ hx];exact hp');exact q v H' ((KU.same s1).trans k2) E2 (.set ho) (rn.mono λb hb=>s1.free hb)
   ·exact bx h
  ·exact bx h
 ·exact bx h
end
end
noncomputable def xcf(f:FX):ae D->ae D->ae D->Res (ae D×ae D)
 |acc,[],ρ=>.ok (acc,ρ)
 |acc,x::xs,ρ=>do
  let p <- f (ρ++[x])
  if p.1.pure then xcf f (acc++[p.1]) xs p.2.dropLast else .bad
def YG(it:FI)(f:FX):FX:=λρ=>do
 let xs <- it ρ
 if xs.2&&ϒ (xs.1.length<=lim) then (do
  let p <- xcf f [] xs.1 ρ
  .ok (.lst p.1,p.2)) else .bad
section
variable [KFrag]
section
variable {own:ah->ax} {X:Cx} {a b c e:Expr} {pos pos':dq} {fa:FE}
theorem JZ(ho:own i=ag)(hN:X.N[i]?=aa x)(hvi:Vis X.env.scope x)(hk:PE X k (gE fk rk))(hv:PE X value (gE fv rv))(hs:autoParam (eL value (aa (.Subscript (.Name x p1) k pos')) pos.line X.env=pure ak) Ω)(hd:autoParam (nDb x) Λ)(hcd:autoParam (nCd x) Λ) :
  PS X (.Assign [.Subscript (.Name x p1) k pos'] value pos) (tS own (JX i fk fv)):=by
 rintro Ψ s σ H D' I ⟨ρ,fl,E,h,q⟩;obtain⟨d,h0,h⟩:=aU h;obtain⟨kd,h1,h2⟩:=aU h;split at h2
 ·rename_i xs kk hx;split at h2
  ·rename_i hp;split at h2
   ·rename_i j hj;cases h2;obtain⟨a,vs,hσ,e0,rr,hin,rp,_⟩:=uK E ho hx;have pn:ε (xs.set j d)=ag:=cQ.mpr λy hy=>by
     rcases List.mem_or_eq_of_mem_set hy with hy|hy
     ·exact cQ.mp hin y hy
     ·subst hy;exact hp
    have go:∀{v:V}{H2:Hp},bU H H2->Rep All H2 v d->D'.nx σ (upd H2 a (.lst (vs.set j v))):=λ{v H2} sm rv=>by
     have rn:bJ All (upd H2 a (.lst (vs.set j v))) (vs.set j v) (xs.set j d):=((rr.same sm).set rv j).upd pn (sm _ _ e0) rfl;obtain⟨E2,k2⟩:=(E.same sm).aOv ho hσ (λb ob e n=>by rw[aP n];exact e) aK rfl (O6 (rp.same sm) hx aK trivial rn) (by rw[x_ hx];exact pn);exact q _ _ ((KU.same sm).trans k2) E2
    refine AX (thn (hv Ψ s σ H (λv H1=>bU H H1/\Rep All H1 v d) I ⟨ρ,d,E.er,h0,λv H1 s1 r1 _=>⟨s1,r1⟩⟩) λu1 t1 ⟨v,H1,I1,rv1,sm1,rp1⟩=>
     thn (aV hN hvi hd hcd Ψ t1 σ H1 (λw H2=>w=.ref a/\H2=H1) I1 ⟨_,hσ,rfl,rfl⟩) λu2 t2 ⟨xx,H2,I2,rx,ex,eH⟩=>?_) hs
    subst ex;rw[eH] at I2;refine thn (hk Ψ t2 σ _ (λw H3=>bU H1 H3/\w=.int kk) I2 ⟨ρ,_,E.er.same sm1,h1,λw H3 s3 r3 _=>⟨s3,by cases r3.inv;rfl⟩⟩) λu3 t3 ζ=>?_;obtain⟨y,H3,I3,ry,sm3,ey⟩:=ζ
    subst ey;exact thn (set_list Ψ t3 σ H3 (.ref a) (.int kk) v u2 u3 u1 (λH4=>D'.nx σ H4) I3 rx ry rv1 ⟨a,vs,kk,j,rfl,rfl,(sm1.trans sm3) _ _ e0,by rw[rr.length];exact hj,go (sm1.trans sm3) (rp1.same sm3)⟩) λ_ t4 ⟨H4,I4,q4⟩=>⟨σ,H4,I4,q4⟩
   ·exact bx h2
  ·exact bx h2
 ·exact bx h2
theorem vU{a:al}{vs:ae V}(I:Inv X Ψ σ H s)(e:H a=aa (.lst vs)):∃o,Inv X Ψ σ (upd H a (.frz o (.lst vs))) s:=by
 obtain⟨its,n,r,ho,hz⟩:=I.lst e;refine⟨_,I.write (by rw[e];trivial) (.inl rfl) (λ_ _ _ q=>q) ⟨_,ho⟩ ⟨ho,hz,its,n,r,ho⟩⟩
theorem YH(h:ys.all isI=ag):ε ys=ag:=cQ.mpr λy hy=>by
 have:=gq.mp h y hy;cases y<;>first|rfl|cases this
theorem aEf:∀{xs r:ae D}{vs:ae V},aGx xs=.ok r->bJ (New H) H' vs xs->∃b ws,H b=aj/\H' b=aa (.lst ws)/\ε r=ag/\(∃(k:ah)(ys:ae D),vs[k]?=aa (V.ref b)/\bJ (New H) H' ws ys/\ys.all isI=ag)/\∀o,bJ (λc=>H c=aj) (upd H' b (.frz o (.lst ws))) vs r
 |[],r,vs,h,_=>by exact bx h
 |x::xs,r,_,h,.cons rx t=>by
  by_cases hl:∃ys,x=.lst ys
  ·obtain⟨ys,rfl⟩:=hl;simp only[aGx] at h;split at h
   ·rename_i hp;rw[aS] at hp;cases h;have hpi:=YH hp.1;obtain⟨b,ws,rfl,e,p,rr⟩:=rx.inv;have hne:∀ob,H' b=aa ob->M4 ob=ag:=λob z=>by rw[e] at z;cases z;rfl
    refine⟨b,ws,p,e,by rw[ε,aS];exact⟨hpi,hp.2⟩,⟨0,ys,rfl,rr,hp.1⟩,λo=>.cons (.frz (.inl ⟨o,aK⟩) ((uH hne rr hpi).bL hpi)) ((uH hne t hp.2).bL hp.2)⟩
   ·exact bx h
  ·have h':(if x.pure then (do let r <- aGx xs;.ok (x::r)) else .bad)=τ r:=by
    cases x<;>first|exact h|exact bd ⟨_,rfl⟩ hl
   split at h'
   ·rename_i hp;obtain⟨r',h1,h2⟩:=aU h';cases h2;obtain⟨b,ws,g1,g2,g3,⟨k,ys,g5,g6,g7⟩,g4⟩:=aEf h1 t;have hne:∀ob,H' b=aa ob->M4 ob=ag:=λob z=>by rw[g2] at z;cases z;rfl
    exact⟨b,ws,g1,g2,by rw[ε,aS];exact⟨hp,g3⟩,⟨k+1,ys,by simpa using g5,g6,g7⟩,λo=>.cons ((xT hne rx hp).bL hp) (g4 o)⟩
   ·exact bx h'
theorem aKy(ha:PE X a (gE fa ag)):PE X a (gE (aOu fa) ag):=by
 rintro Ψ s σ H Q I ⟨ρ,d,E,h,q⟩;obtain⟨x,h1,h⟩:=aU h;split at h
 ·rename_i xs;obtain⟨r,h2,h⟩:=aU h;cases h;refine thn (ha Ψ s σ H (λv H'=>bU H H'/\Rep (New H) H' v (.lst xs)) I ⟨ρ,_,E,h1,λv H' sm rr n=>⟨sm,n rfl⟩⟩) λu s' ζ=>?_;obtain⟨v,H',I',rv,sm,rn⟩:=ζ
  obtain⟨a,vs,rfl,e,p,rr⟩:=rn.inv;obtain⟨b,ws,g1,g2,g3,⟨k,ys,g5,g6,g7⟩,g4⟩:=aEf h2 rr;have hab:a≠b:=λz=>by
   subst z;rw[e] at g2;cases g2;obtain⟨d,hd,rd⟩:=g6.at g5;have:=gq.mp g7 d (jI hd);cases d<;>first|(cases this;done)|(cases rd;done)
  obtain⟨o,I2⟩:=vU I' g2;have s2:bU H (upd H' b (.frz o (.lst ws))):=λc oc hc=>by
   rw[aP (λz=>by subst z;rw[g1] at hc;cases hc)];exact sm c oc hc
  have e2:upd H' b (.frz o (.lst ws)) a=aa (.lst vs):=by rw[aP hab];exact e
  exact⟨.ref a,_,I2,rv,q _ _ s2 (.lst e2 trivial (g4 o).all) λ_=>.lst e2 p (g4 o)⟩
 ·exact bx h
theorem ES.aRu(E:ES own H σ ρ)(k:KU own σ H σ H5)(E5:ES own H5 σ ρ5)(ns:NS own ρ ρ5)(hp:H p=aj)(e5:H5 p=aa (.lst vs)):ES own (upd H5 p o) σ ρ5/\KU own σ H σ (upd H5 p o):=by
 have k':KU own σ H σ (upd H5 p o):=λb ob e n=>⟨by rw[aP (bK e hp)];exact(k b ob e n).1,n⟩
 refine⟨⟨E5.len,λj hj=>?_,λj w hj hw=>?_⟩,k'⟩
 ·obtain⟨w,h1,h2⟩:=E5.at_ j hj;refine⟨w,h1,λhoj=>?_⟩;rw[ns j hoj] at hj ⊢;obtain⟨w',h1',h2'⟩:=E.at_ j hj;rw[h1] at h1';cases h1';exact k'.rep E (h2' hoj)
 ·obtain⟨b,ob,h1,h2,h3,h4,h5,h6⟩:=E5.own j w hj hw;subst h1;have hbp:b≠p:=λz=>by subst z;exact uI E hp ⟨j,hj,hw⟩
  refine⟨b,ob,rfl,?_,h3,by rw[aP hbp];exact h4,h5,h6⟩;refine(h2.sS (P':=λc=>c=b) h3 rfl).keep (λc oc hc hq=>?_) λ_ _=>trivial
  rw[aP]
  ·exact hc
  ·intro z;subst z;rcases hq with hq|hq
   ·exact hbp hq.symm
   ·rw[e5] at hc;cases hc;cases hq
theorem ES.snoc(E:ES own H σ ρ)(ho:own σ.length=ak)(r:Rep (λa=>¬Own own σ a) H x d):ES own H (σ++[aa x]) (ρ++[d])/\∀a,Own own (σ++[aa x]) a↔Own own σ a:=by
 have hO:∀a,Own own (σ++[aa x]) a↔Own own σ a:=λa=>by
  constructor
  ·rintro⟨i,hi,e⟩;by_cases hl:i<σ.length
   ·exact⟨i,hi,by rw[dA hl] at e;exact e⟩
   ·by_cases hq:i=σ.length
    ·subst hq;rw[ho] at hi;cases hi
    ·rw[fg 0x1] at e;rw[io (by simp;lia)] at e;cases e
  ·rintro⟨i,hi,e⟩;exact⟨i,hi,by rw[dA (dE.mp e).1];exact e⟩
 have hOf:(λa=>¬Own own (σ++[aa x]) a)=λa=>¬Own own σ a:=funext λa=>by rw[hO]
 refine⟨⟨by simp[E.len],λi hi=>?_,λi v hi hv=>?_⟩,hO⟩
 ·rw[hOf];by_cases hl:i<σ.length
  ·have e:(ρ++[d]).getD i .uD=ρ.getD i .uD:=by rw[b9,dA (by rw[<-E.len];exact hl),b9]
   rw[e] at hi ⊢;obtain⟨v,h1,h2⟩:=E.at_ i hi;exact⟨v,by rw[dA hl];exact h1,h2⟩
  ·by_cases hq:i=σ.length
   ·subst hq;have e:(ρ++[d]).getD σ.length .uD=d:=by rw[E.len];simp
    rw[e];exact⟨x,by simp,λ_=>r⟩
   ·exfalso;apply hi;rw[b9,io (by simp;rw[<-E.len];lia)];rfl
 ·have hl:i<σ.length:=gS λhge=>by
   by_cases hq:i=σ.length
   ·subst hq;rw[ho] at hi;cases hi
   ·rw[io (by simp;lia)] at hv;cases hv
  rw[dA hl] at hv;have e:(ρ++[d]).getD i .uD=ρ.getD i .uD:=by rw[b9,dA (by rw[<-E.len];exact hl),b9]
  rw[e];obtain⟨b,ob,h1,h2,h3,h4,h5,h6⟩:=E.own i v hi hv;refine⟨b,ob,h1,h2,h3,h4,h5,λj hj hs=>?_⟩;have hjl:j<σ.length:=gS λhge=>by
   by_cases hq:j=σ.length
   ·subst hq;rw[ho] at hj;cases hj
   ·rw[io (by simp;lia)] at hs;cases hs
  exact h6 j hj (by rw[dA hjl] at hs;exact hs)
theorem ES.aKz(E:ES own H (σ++[x]) ρ)(hO:∀a,Own own (σ++[x]) a↔Own own σ a):ES own H σ ρ.dropLast:=by
 have hl:ρ.length=σ.length+1:=by rw[<-E.len];simp
 have gd:∀i,i<σ.length->ρ.dropLast.getD i .uD=ρ.getD i .uD:=λi hi=>by
  rw[b9,b9,BD,aq 0x1]
 have hOf:(λa=>¬Own own (σ++[x]) a)=λa=>¬Own own σ a:=funext λa=>by rw[hO]
 refine⟨by simp[hl],λi hi=>?_,λi v hi hv=>?_⟩
 ·have hlt:i<σ.length:=gS λhge=>hi (by rw[b9,io (by simp;lia)];rfl)
  rw[gd i hlt] at hi ⊢;obtain⟨v,h1,h2⟩:=E.at_ i hi;rw[hOf] at h2;exact⟨v,by rw[dA hlt] at h1;exact h1,h2⟩
 ·have hlt:i<σ.length:=(dE.mp hv).1;rw[gd i hlt];obtain⟨b,ob,h1,h2,h3,h4,h5,h6⟩:=E.own i v hi (by rw[dA hlt];exact hv);exact⟨b,ob,h1,h2,h3,h4,h5,λj hj hs=>h6 j hj (by rw[dA (dE.mp hs).1];exact hs)⟩
theorem SN{K:bi}(ho:own n=ak)(hn:σ.length=n)(h:gX own (YG it f) σ H Q) :
  BJ (gI K it) (fO n) (λ_ H Q=>Q ag H) (gX own f) 1 σ H Q:=by
 obtain⟨ρ,d,ρ',E,h,q⟩:=h;obtain⟨⟨items,kk⟩,h1,h⟩:=aU h;split at h
 ·rename_i hk;rw[aS] at hk;obtain⟨⟨ys,ρf⟩,h2,h⟩:=aU h;cases h;refine⟨ρ,items,kk,E.er,h1,λJ H1 s1 _ hJ p hp=>?_⟩;have hp0:H p=aj:=s1.free hp;have hJ1:ItQ K (λa=>¬Own own σ a) J H1 items:=(hJ hk.1).keep (λ_ _ e _=>e) λa ha=>uI E ha
  have E1:ES own H1 σ ρ:=E.same s1;refine⟨λi n' vs H'=>n'=items.length-i/\i<=items.length/\H' p=aa (.lst vs)/\KU own σ H1 σ H'/\∃acc ρc,acc.length<=i/\ε acc=ag/\bJ (λ_=>cg) H' vs acc/\ES own H' σ ρc/\NS own ρ ρc/\xcf f acc (items.drop i) ρc=.ok (ys,ρf),⟨items.length,?_⟩,?_⟩
  ·exact⟨rfl,d6 _,aK,.same (bU.upd hp),[],ρ,d6 _,rfl,.nil,E1.same (bU.upd hp),.refl,h2⟩
  ·rintro i n' vs H' ⟨rfl,hi,hH,ku,acc,ρc,hal,hpa,racc,Ec,ns,hf⟩;refine⟨hH,?_⟩;have hJ':ItQ K (λa=>¬Own own σ a) J H' items:=hJ1.ku ku E1;rcases mr i items.length with hlt|hge
   ·refine .inr ?_;have e:items[i]?=aa items[i]:=dj hlt;obtain⟨g1,g2⟩:=hJ'.go e;have hl1:items.length<=lim:=eg hk.2;refine⟨g1,?_,λx H2 hy=>?_⟩
    ·rw[racc.length];exact oz hal (dy hlt (c_ hl1 (by rw[dg];decide)))
    ·obtain⟨sH,rx⟩:=g2 x H2 hy;have es:(σ++bX 1 aj).set n (aa x)=σ++[aa x]:=by
      subst hn;simp
     show Ext _ ((σ++bX 1 aj).set n (aa x))/\_;rw[es];rw[kl hlt] at hf;obtain⟨⟨y,ρ2⟩,hfy,hf⟩:=aU hf;split at hf
     ·rename_i hpy;have Ec2:=Ec.same sH;obtain⟨E2,hO⟩:=Ec2.snoc (by rw[hn];exact ho) rx;refine⟨⟨by simp,λj v hv=>?_⟩,?_⟩
      ·by_cases hj:j<σ.length
       ·rw[dA hj] at hv ⊢;exact hv
       ·rw[fg 0x1,iE] at hv;split at hv<;>cases hv
      ·dsimp only;rw[aq rfl];refine⟨_,y,ρ2,E2,hfy,λw H5 k5 E5 ns5 r5=>?_⟩;have k5':KU own σ H2 σ H5:=λb ob eb nb=>⟨(k5 b ob eb (by rw[hO];exact nb)).1,nb⟩
       have hpn:¬Own own σ p:=uI E hp0;have hp5:H5 p=aa (.lst vs):=(k5' p _ (sH p _ hH) hpn).1;have E5':ES own H5 σ ρ2.dropLast:=E5.aKz hO;have hlc:ρc.length=σ.length:=Ec.len.symm;have nsc:NS own ρ ρ2.dropLast:=λj hj=>by
        by_cases hjl:j<σ.length
        ·have hl2:ρ2.length=σ.length+1:=by rw[<-E5.len];simp
         rw[<-ns j hj,b9,BD,aq 0x1,<-b9,ns5 j hj,b9,dA 0x1,<-b9]
        ·rw[b9,io (by rw[<-E5'.len];lia),b9,io (by rw[<-E.len];lia)]
       have ku5:KU own σ H1 σ H5:=ku.trans ((KU.same sH).trans k5');obtain⟨E6,k6⟩:=E1.aRu ku5 E5' nsc hp hp5;refine⟨hp5,items.length-(i+1),by lia,rfl,hlt,aK,k6,acc++[y],ρ2.dropLast,?_,?_,?_,E6,nsc,hf⟩
       ·rw[aT,dP];lia
       ·rw[gU,hpa];simp[ε,hpy]
       ·have hpk:u9 (λ_=>cg) H2 H5:=λc oc hc hq=>by
         refine(k5' c oc hc λnn=>?_).1;obtain⟨o',e',hm⟩:=Ec2.live nn;rw[hc] at e';cases e';rcases hq with hq|hq
         ·exact hq
         ·rw[hm] at hq;cases hq
        have r1:bJ (λ_=>cg) H5 vs acc:=(racc.same sH).keep hpk λ_ z=>z
        have r2:bJ (λ_=>cg) H5 (vs++[w]) (acc++[y]):=r1.snoc (r5.bL hpy);exact r2.keep (t_ hp5 rfl) λ_ z=>z
     ·exact bx hf
   ·refine .inl ⟨hJ'.stop hge,?_⟩;rw[jf hge] at hf;cases hf;exact q _ _ ((KU.same s1).trans ku) Ec ns (.lst hH hp0 (racc.mono λ_ z=>z.elim))
 ·exact bx h
end
section
theorem qU(ha:PE X a (gE fa ra)):PE X a (gE (bPu fa) ag):=PE.imp ha λσ H Q z0=>by
 obtain⟨ρ,d,E,h,q⟩:=z0;obtain⟨x,h1,h⟩:=aU h;split at h
 ·rename_i hp;cases h;exact⟨ρ,_,E,h1,λv H' s r _=>q v H' s r λ_=>r.bL hp⟩
 ·exact bx h
end
end
noncomputable def aH3(a:FT)(b:FXT):FXT:=λρ=>do
 let k <- a ρ
 if k then b ρ else .ok (ak,ρ)
def aNu(f:FX):ae D->Res (ae D×ae D):=λρ=>do
 let p <- f ρ
 let r <- j9 [p.1]
 .ok (r.1,p.2)
def aCf(it:ae D->Res (ae D×ae D))(t:D->ae D->Res (ae D))(body:FS):FS:=λρ=>do
 let p <- it ρ
 oW t body p.1 p.2
section
variable [KFrag]
section
variable {own:ah->ax} {a b:Expr}
theorem aH4(ha:PT X a (gXT own xb)):PW X (.BoolOp .And [a] pos) (gXT own xb):=UL ha
theorem aL0{rest:ae Expr}(ha:PT X a (gT ga))(hb:PW X (.BoolOp .And (b::rest) pos) (gXT own xb)):PW X (.BoolOp .And (a::b::rest) pos) (gXT own (aH3 ga xb)):=PW.imp (aE0 ha hb) λσ H Q z0=>by
 obtain⟨ρ,d,ρ',E,h,q⟩:=z0;obtain⟨k,h1,h2⟩:=aU h;refine⟨ρ,k,E.er,h1,λH' s=>?_⟩;cases k with
 |true=>
  rw[aq rfl];rw[aq rfl] at h2;exact⟨ρ,d,ρ',E.same s,h2,λH2 k2 E2 n2=>q H2 ((KU.same s).trans k2) E2 n2⟩
 |false=>
  rw[aw 0x2];rw[aw 0x2] at h2;cases h2;exact q H' (.same s) (E.same s) .refl
noncomputable def gIX(K:bi)(own:ah->ax)(f:ae D->Res (ae D×ae D)):TI:=λσ H R=>∃ρ items ρ',ES own H σ ρ/\f ρ=.ok (items,ρ')/\∀J H1,KU own σ H σ H1->ES own H1 σ ρ'->ItQ K (λa=>¬Own own σ a) J H1 items->R J H1
theorem aL1(hg:Gl X "range")(hm:X.mg "range"=aj)(ha:PE X a (gX own xa))(hs:autoParam (cr [a] X.env=[(ak,eval a X.env)]) Ω):PI X tg (.Call (.Name "range" p) [a] [] pos) (gIX X.K own (aNu xa)):=
 PI.imp (zR hg hm (bH ha dM hs) hs) λσ H R z0=>by
 obtain⟨ρ,items,ρ',E,h,q⟩:=z0;obtain⟨p,h1,h⟩:=aU h;obtain⟨r,h2,h⟩:=aU h;cases h;refine⟨ρ,p.1,p.2,E,h1,λv H1 k1 E1 n1 r1=>?_⟩;unfold j9 at h2;split at h2
 ·rename_i n he;split at h2
  ·rename_i hb;cases h2;obtain⟨b1,b2⟩:=vN hb;injection he with he _
   rw[he] at r1;cases r1.inv;exact⟨_,rfl,b1,b2,q _ H1 k1 E1 (.rng 0 _ rfl rfl)⟩
  ·exact bx h2
 ·exact bx h2
theorem aL2(hp:lI (ay X.prog X.w) X.A X.env X.xe)(hc:X.calm=ag)(hi:PI X tg iter (gIX X.K own it))(ht:TgS own g t)(hg:PG X tg g)(hb:PSs X body (tS own fb))
 (hs:∀x,eP iter X.env x=pure x:=by intro _;rfl):PS X (.For tg iter body [] pos) (tS own (aCf it t fb)):=PS.imp (K_ hp hc hi hg hb hs) λD' σ H z0=>by
 obtain⟨ρ,fl,E,h,q⟩:=z0;obtain⟨⟨items,ρ1⟩,h1,h2⟩:=aU h;exact⟨ρ,items,ρ1,E,h1,λJ H1 k1 E1 hJ=>xP ht E1 hJ h2 (q.step k1)⟩
end
end
def bOw(i:ah):FE:=λρ=>do
 let d <- b8 i ρ
 if d.M3 then .ok d else .bad
def O7(f:FA):FS:=λρ=>do
 let ds <- f ρ
 if ϒ (ds.length<=lim) then .ok (.rt (.tup (.lst ds::ρ))) else .bad
def aCg(f:FX)(is:ae ah):FS:=λρ=>do
 let p <- f ρ
 match p.1 with
 |.lst xs=>if ϒ (xs.length=is.length) then .ok (.nx (IV is xs p.2)) else .bad
 |_=>.bad
variable [KFrag]
section
variable {prog:bS} {w:bu} {A:cf} {E:am->au->Prop} {s:au}
theorem CV(hne:t≠it):∀(n i:ah)(s:au)(Q:ae am->au->Prop),s.heap.IsListIter it t i->s.heap.IsList t items->i+n<=items.size->
  (∀h',h'.IsListIter it t (i+n)->e9 it s.heap h'->Q ((items.toList.drop i).take n) {s with heap:=h'})->ϑ (ay prog w) A (draw (.ref it) n) Q E s
 |0,i,s,Q,hit,_,_,hQ=>by
  show ϑ _ _ (pure []) Q E s;exact aE (by simpa using hQ s.heap hit (Bv ..))
 |n+1,i,s,Q,hit,ht,hle,hQ=>by
  have hlt:i<items.size:=by lia
  have keep:∀{h h':bc},h.IsList t items->e9 it h h'->h'.IsList t items:=λ{h h'} ⟨o,e,r⟩ sb=>⟨o,(sb.2 t hne).trans e,r⟩
  show ϑ _ _ (gz (.ref it) >>= _) Q E s;refine ao (og hit ht (x:=items[i]) (by simp[hlt]) λh₁ hit₁ hs₁=>?_);refine ao (eD (CV hne n (i+1) _ _ hit₁ (keep ht hs₁) 0x1 λh₂ hit₂ hs₂=>aE ?_));have hd:items.toList.drop i=items[i]::items.toList.drop (i+1):=by simp[kl,hlt]
  have:=hQ h₂ (by rw[show i+(n+1)=i+1+n by lia];exact hit₂) (hs₁.trans hs₂);rw[hd,BE] at this;exact this
theorem J0(hh:A.handled=aj)(ht:s.heap.IsList t items)
 (hn:targets.length=items.size)(hstar:targets.findIdx? (·.1)=aj)
 (h:∀h',ug s.heap.objs.size s.heap h'->ϑ (ay prog w) A (zz (targets.map (·.2)) items.toList) Q E {s with heap:=h'}) :
  ϑ (ay prog w) A (unpack (.ref t) targets) Q E s:=by
 have hlt:t≠s.heap.objs.size:=by obtain⟨o,ho,_⟩:=ht;exact cw (bw ho)
 have push:∀o,(s.heap.push o).IsList t items:=λo=>let ⟨o',e,r⟩:=ht;⟨o',bP _ e,r⟩
 unfold unpack;rw[hn,hstar];refine ao (eD ?_);unfold unpackItems;refine ao ?_;unfold notIterableAtAll;refine ao (lh ht.typeIs PySem.F.slot_list_iter.lookup ?_);refine aE ?_;simp only[gn,fE];refine ao (eD (mE ht ?_));refine ao (eD (CV hlt items.size 0 _ _ ⟨_,c6 _ rfl,rfl,rfl⟩ (push _) 0x1 λh₁ hit₁ hs₁=>?_));have hall:BF items.size (BG 0 items.toList)=items.toList:=by
  rw[qy];exact qz 0x2
 rw[hall];rw[aw 0x2];have ht₁:h₁.IsList t items:=let ⟨o,e,r⟩:=push {cls:=.type "list_iterator",data:=.fields #[.ref t,.int 0 0]};⟨o,(hs₁.2 t hlt).trans e,r⟩
 refine ao (eD (oh hh hit₁ ht₁ 0x2 λh₂ he₂=>?_));simp only[Option.isSome_none,gn,fE];exact aE (h h₂ λb o hb e=>he₂ b o hb (hs₁.extBut b o hb (bP _ e)))
end
section
variable {X:Cx} {own:ah->ax} {e:Expr} {pos pos':dq} {fe:FE} {xe:FX}
noncomputable def aL3(K:bi)(n:ah)(t:TGs):TG:=λv σ H Q=>∃a xs,v=.ref a/\SqL K H a xs/\xs.length=n/\t xs σ H Q
theorem aH5(hc:X.calm=ag)(h:PGs X es t)
 (hn:autoParam ((i7 es X.env).length=n) Ω)(hst:autoParam ((i7 es X.env).findIdx? (·.1)=aj) Ω):PG X (.Tuple es k pos) (aL3 X.K n t):=by
 intro Ψ s σ H v u Q I r hw;obtain⟨a,xs,e1,hq,hl,hw⟩:=hw;subst e1;cases r;obtain⟨its,rv,ht,hz⟩:=I.list hq;rw[assign_Tuple];refine ao (AW (J0 (I.ok.hd hc) ht.isList (by simp[hn,<-hl,rv.length]) hst λh' hx=>?_));have I1:Inv X Ψ σ H {s with heap:=h'}:=I.kept λb o e=>hx b o (cw (bw e)) e
 exact h Ψ _ σ H xs _ Q I1 (by simpa using rv) hw
def RP(own:ah->ax)(σ:L2.St)(H:Hp)(ρ:ae D)(a:al):Prop:=(Own own σ a\/H a=aj)/\∀i b xs,ρ.getD i .uD=.cel b xs->a≠b
theorem RP.same(s:bU H H')(h:RP own σ H' ρ a):RP own σ H ρ a:=⟨h.1.imp id s.free,h.2⟩
theorem aEg(E:ES own H σ ρ)(h:H a=aj):RP own σ H ρ a:=⟨.inr h,λi b xs hb z=>by
 obtain⟨vs,_,e⟩:=kW E hb;subst z;rw[h] at e;cases e⟩
noncomputable def gAR(own:ah->ax)(f:FA):TA:=λσ H Q=>∃ρ ds,ES own H σ ρ/\f ρ=.ok ds/\∀vs H',bU H H'->bJ (RP own σ H ρ) H' vs ds->Q vs H'
theorem aL4:PA X [] (gAR own aY):=PA.imp dM λσ H Q z0=>by obtain⟨ρ,ds,E,h,q⟩:=z0;cases h;exact q [] H (bU.refl H) .nil
theorem YJ(ho:own i=ag)(hN:X.N[i]?=aa x)(hv:Vis X.env.scope x)(hes:PA X es (gAR own f))(hd:autoParam (nDb x) Λ)(hcd:autoParam (nCd x) Λ)(hs:autoParam (cr (.Name x pos::es) X.env=(ak,eval (.Name x pos) X.env)::cr es X.env) Ω):PA X (.Name x pos::es) (gAR own (aF (bOw i) f)):=PA.imp (bH (aV hN hv hd hcd) hes hs) λσ H Q z0=>by
 obtain⟨ρ,ds,E,h,q⟩:=z0;obtain⟨y,h1,h⟩:=aU h;obtain⟨xs,h2,h⟩:=aU h;cases h;obtain⟨d,h3,h1⟩:=aU h1;split at h1
 ·rename_i hc;cases h1;obtain⟨v,hv,r,e⟩:=E.er.var h3;obtain⟨a,o,rfl,r2,hin,_,_,huq⟩:=E.own i v ho hv;rw[e] at hin;have hp:RP own σ H ρ a:=⟨.inl ⟨i,ho,hv⟩,λj b xs hb z=>by
   obtain⟨vs,hj,eb⟩:=kW E hb;subst z;cases hoj:own j with
   |true=>
    have:=huq j hoj hj;subst this;rw[hb] at e;subst e;cases hc
   |false=>
    obtain⟨w,hw,hr⟩:=E.at_ j (by rw[hb];intro z;cases z);have r3:=hr hoj;rw[hb] at r3;obtain⟨_,rfl,e,p,r⟩:=r3.inv;exact p ⟨i,ho,hv⟩⟩
  exact⟨_,hv,ρ,xs,E,h2,λvs H2 s2 r2=>q _ _ s2 (.cons ((r.sS hin hp).same s2) r2)⟩
 ·exact bx h1
theorem aL5(he:PE X e (gE fe ag))(hes:PA X es (gAR own f))(hs:autoParam (zSE X e es) Ω):PA X (e::es) (gAR own (aF fe f)):=PA.imp (bH he hes hs) λσ H Q z0=>by
 obtain⟨ρ,ds,E,h,q⟩:=z0;obtain⟨y,h1,h⟩:=aU h;obtain⟨xs,h2,h⟩:=aU h;cases h;exact⟨ρ,_,E.er,h1,λv H1 s1 r1 n1=>⟨ρ,xs,E.same s1,h2,λvs H2 s2 r2=>q _ _ (s1.trans s2) (.cons (((n1 rfl).mono λa ha=>aEg E ha).same s2) (r2.mono λa ha=>ha.same s1))⟩⟩
theorem aCh(h:PA X es (gAR own f))(hx:autoParam (own rtX=ag) Ω):PS X (.Return (aa (.List es pos')) pos) (tS own (O7 f)):=PS.imp (rK (LQ h)) λD σ H z0=>by
 obtain⟨ρ,fl,E,h,q⟩:=z0;obtain⟨ds,h1,h2⟩:=aU h;split at h2
 ·rename_i hl;cases h2;refine⟨ρ,ds,E,h1,λvs H1 s1 r1=>⟨by rw[r1.length];exact jK hl,λp hp=>?_⟩⟩;have s2:bU H1 (upd H1 p (.lst vs)):=bU.upd hp;have hpH:H p=aj:=s1.free hp;exact kRt.new q hx _ σ _ (.same (s1.trans s2)) (E.same (s1.trans s2)) (.lst aK (aEg E hpH) (r1.same s2))
 ·exact bx h2
theorem aL6(ho:∀i∈is,own i=ak)(he:PE X e (gX own xe))(hg:PG X (.Tuple es k pt) (aL3 X.K is.length (gIx is)))(hs:autoParam (zC [.Tuple es k pt] e pos.line X.env=pure ak) Ω)(hw:autoParam (zD [.Tuple es k pt] e X.env=pure aj) Ω)
 (h1:autoParam ((i7 [.Tuple es k pt] X.env).map (·.2)=[kG (.Tuple es k pt) X.env]) Ω):PS X (.Assign [.Tuple es k pt] e pos) (tS own (aCg xe is)):=PS.imp (nW he hg hs hw h1) λD' σ H z0=>by
 obtain⟨ρ,fl,E,h,q⟩:=z0;obtain⟨p,h1,h2⟩:=aU h;refine⟨ρ,p.1,p.2,E,h1,λv H1 k1 E1 n1 r=>?_⟩;split at h2
 ·rename_i xs hxs;split at h2
  ·rename_i hl;cases h2;have hl':=eg hl;rw[hxs] at r;have r2:=xK E r;obtain⟨a,vs,rfl,sq,rr⟩:=r2.mK;refine⟨a,vs,rfl,sq,by rw[rr.length];exact hl',JN _ _ _ (by rw[rr.length];exact hl') ?_⟩;obtain⟨E2,hO⟩:=ES.sets ho E1 rr;exact q _ H1 (k1.trans λa o e n=>⟨e,by rw[hO];exact n⟩) E2
  ·exact bx h2
 ·exact bx h2
end
end Mi
namespace Mi
open PySem PySem.Spec
namespace Rv
theorem SQ:kN (.type "tuple") "__reversed__"=pure aj:=by rw[i0,i5];kernel_rfl
theorem SX:kN (.type "reversed") "__len__"=pure aj:=by rw[i0,i5];kernel_rfl
theorem slot_next:kQ "reversed" "__next__" "reversed.__next__":=
 .of (owner:= "reversed") (n:= "__next__") (by rw[i0,i5];kernel_rfl) 0x6 0x6 0x6
  (by first|exact .inl 0x6|exact .inr 0x6) (by rw[jk];kernel_rfl)
theorem uL:kQ "reversed" "__length_hint__" "reversed.__length_hint__":=
 .of (owner:= "reversed") (n:= "__length_hint__") (by rw[i0,i5];kernel_rfl) 0x6 0x6 0x6
  (by first|exact .inl 0x6|exact .inr 0x6) (by rw[jk];kernel_rfl)
theorem CW:kQ "reversed" "__iter__" "reversed.__iter__":=
 .of (owner:= "reversed") (n:= "__iter__") (by rw[i0,i5];kernel_rfl) 0x6 0x6 0x6
  (by first|exact .inl 0x6|exact .inr 0x6) (by rw[jk];kernel_rfl)
theorem entry_next:nh nj "reversed.__next__"=aa dn.«reversed.__next__»:=xD 0x8
theorem S5:nh nj "reversed.__length_hint__"=aa dn.«reversed.__length_hint__»:=xD 0x8
theorem S6:nh nj "reversed.__iter__"=aa dn.«dict_keyiterator.__iter__»:=
 xB (id':= "dict_keyiterator.__iter__") 0x8 (by first|rfl|decide +kernel|(unfold String.splitOn;simp +decide [String.splitOnAux])) 0x6 0x8
theorem owner:Dd.lookup (String.ofList ['d','e','s','r','e','v','e','r'].reverse)=aa Df:=by kernel_rfl
theorem args_next(a:am):ny "reversed.__next__" ⟨[a],[]⟩:=by
 unfold ny;rw[ym (n:=['_','_','t','x','e','n','_','_']) 0x8 owner];kernel_rfl
theorem YK(a:am):ny "reversed.__iter__" ⟨[a],[]⟩:=by
 unfold ny;rw[ym (n:=['_','_','r','e','t','i','_','_']) 0x8 owner];kernel_rfl
theorem YL(a:am):ny "reversed.__length_hint__" ⟨[a],[]⟩:=by
 unfold ny;rw[ym (n:=['_','_','t','n','i','h','_','h','t','g','n','e','l','_','_']) 0x8 owner];kernel_rfl
theorem YM:kQ "reversed" "__init__" "object.__init__":=
 .of (owner:= "object") (n:= "__init__") (by rw[i0,i5];kernel_rfl) 0x6 0x6 0x6
  (by first|exact .inl 0x6|exact .inr 0x6) (by rw[jk];kernel_rfl)
theorem called:TypeCalled "reversed" "reversed.__new__" "object.__init__":=
 ⟨by decide +kernel,by decide +kernel,⟨_,_,PySem.F.mro_reversed⟩,PySem.F.made_reversed,by decide +kernel,by rw[jk];kernel_rfl,YM⟩
noncomputable def obj(t:al)(i:ai):bn:={cls:=.type "reversed",data:=.fields #[.ref t,cz i]}
theorem YQ(t:al)(items:br am)(n:ah)(dct:ar al)(sl:br (ar am))(hz:(items.size:ai)<2 ^ 62) :
  lj (dn.«reversed.__new__» ⟨[.type "reversed",.ref t],[]⟩) (λ_ R s=>s.heap.get? t=aa {cls:=.type "tuple",dict:=dct,data:=.seq items n,slots:=sl}/\
   ∀tk,R (.ok (.ret (.ref s.heap.objs.size))) {s with heap:=s.heap.push (obj t ((items.size:ai)-1)),toks:=tk}):=
 .of_wp λprog w A R s h=>by
  obtain⟨hp,g,d,tk,os⟩:=s;obtain⟨hl,h⟩:=h;have hT:(Shared.mk hp g d tk os).TypeIs (.ref t) "tuple":=⟨_,hl,rfl⟩
  unfold dn.«reversed.__new__»;refine ao (f_ (newClass_reversed _) ?_)
  try dsimp only
  refine ao (f_ (by first|rfl|kernel_rfl) ?_);refine ao (f_ (by first|rfl|kernel_rfl) ?_)
  try dsimp only
  refine ao (lh hT SQ ?_)
  try dsimp only
  refine ao ?_;refine ao (ll (b:=ak) hT (by rw[jk];kernel_rfl) ?_);refine qA (λhab=>bd hab 0x4) (λ_=>?_);refine ao (lh hT ow.lookup ?_);dsimp only;rw[aq 0x6];refine aE ?_;rw[aw 0x4];refine ao (BH ⟨_,hl,rfl,n,rfl⟩ 0x1 ?_);refine ao (f_ rfl ?_);dsimp only;refine ao ?_;unfold Dg;exact iL (aE ⟨_,rfl,h _⟩)
theorem aCi{E:am->au->Prop}{s:au}{t:al}{items:br am}{Q:am->au->Prop}(hL:s.heap.IsTuple t items)(hz:(items.size:ai)<2 ^ 62)
 (h:∀tk,Q (.ref s.heap.objs.size) {s with heap:=s.heap.push (obj t ((items.size:ai)-1)),toks:=tk}):ϑ (ay prog w) A (call (.type "reversed") [.ref t]) Q E s:=by
 obtain⟨⟨c,dct,dt,sl⟩,hl,hc,n,hd⟩:=hL;replace hc:c=.type "tuple":=hc;replace hd:dt=.seq items n:=hd;subst hc hd;refine By called 0x4 (PySem.F.typeCall_reversed_1 _) (PySem.F.newCall_reversed_1 _) (λobj=>PySem.F.args_object_init_2 obj _) PySem.F.entry_reversed_new (YQ t items n dct sl hz) ⟨hl,λtk=>⟨⟨_,c6 _ rfl,rfl⟩,h tk⟩⟩
def Is(h:bc)(a t:al)(i:ai):Prop:=∃o,h.get? a=aa o/\o.cls=.type "reversed"/\o.data=.fields #[.ref t,cz i]
theorem Is.ty{s:au}(x:Is s.heap a t i):s.TypeIs (.ref a) "reversed":=let ⟨o,ho,hc,_⟩:=x;⟨o,ho,hc⟩
theorem Is.at(x:Is h a t i)(e:∀o,h.get? a=aa o->h'.get? a=aa o):Is h' a t i:=let ⟨o,ho,r⟩:=x;⟨o,e o ho,r⟩
section
variable {prog:bS} {w:bu} {A:cf} {E:am->au->Prop} {s:au}
theorem next_item{i:ah}{items:br am}{x:am}{Q:ar am->au->Prop}(hit:Is s.heap it t (i:ai))(hl:s.heap.IsTuple t items)(hx:items[i]?=aa x)(hz:(items.size:ai)<2 ^ 62)
 (hQ:∀h' tk,Is h' it t ((i:ai)-1)->e9 it s.heap h'->Q (aa x) {s with heap:=h',toks:=tk}):ϑ (ay prog w) A (gz (.ref it)) Q E s:=by
 obtain⟨o,ho,hc,hd⟩:=id hit;have hi:i<items.size:=(qB.mp hx).1;unfold gz;refine ao (jh (jb hit.ty slot_next
  (jS slot_next hit.ty entry_next ?_ (args_next _))))
 unfold dn.«reversed.__next__»;refine ao (f_ rfl ?_)
 try dsimp only
 refine ao (dh ho hd rfl ?_);refine ao (dh ho hd rfl ?_);show ϑ _ _ (if (i:ai)<0 then _ else _) _ _ s;rw[aw 0x1];refine ao (lh hl.typeIs ow.lookup ?_);rw[aw 0x2];refine ao (ul ?_);refine ao (jh (Dh hl 0x1 0x1 (by unfold wu;simp;lia) hx ?_));dsimp only;refine ao (dh ho hd rfl ?_);show ϑ _ _ (setField (.ref it) 1 (cz ((i:ai)-1)) >>= _) _ _ _;refine ao (nB ho hd 0x2 ?_);refine aE ⟨x,rfl,aE (hQ _ _ ?_ (ng ..))⟩;exact⟨_,ib _ ho (yn (nE hd _)),(BI ..).trans hc,by
  rw[nE hd];simp⟩
theorem next_end(hh:A.handled=aj)(hit:Is s.heap it t (-1))
 (hQ:∀h',ug it s.heap h'->Q aj {s with heap:=h'}):ϑ (ay prog w) A (gz (.ref it)) Q E s:=by
 obtain⟨o,ho,hc,hd⟩:=id hit;unfold gz;refine ao (jh (jb hit.ty slot_next
  (jS slot_next hit.ty entry_next ?_ (args_next _))))
 unfold dn.«reversed.__next__»;refine ao (f_ rfl ?_)
 try dsimp only
 refine ao (dh ho hd rfl ?_);refine ao (dh ho hd rfl ?_);show ϑ _ _ (if (-1:ai)<0 then _ else _) _ _ s;rw[aq 0x4];refine ao (jj ?_);refine ao ?_;refine ao (nB ho hd 0x2 ?_);have h1:=ib (mT (·.set! 1 (cz (-1)))) ho (yn (nE hd _));have hd1:(mT (·.set! 1 (cz (-1))) o).data=.fields #[.ref t,cz (-1)]:=by rw[nE hd];simp
 refine nB h1 hd1 0x2 ?_;refine ao ?_;unfold Di;simp only[newExc,newTuple];refine ao ?_;refine ao (iL ?_ (by size_fits));refine ao (f_ (by first|rfl|(simp only[firstArgMember];rfl)) ?_);refine iL ?_ (by size_fits);simp only[raiseNew];refine ao (wpAny_handled ?_)
 first|rw[show A.in1.handled=aj from hh]|rw[hh]
 refine ao (aE (wpAny_throw ?_));refine ao (ll ⟨_,c6 _ rfl,rfl⟩ BB ?_);exact aE (hQ _ ((((ng ..).trans (ng ..)).extBut.push _).push _))
theorem CZ(hit:Is s.heap it t i)(h:Q (.ref it) s):ϑ (ay prog w) A (l6 (.ref it)) Q E s:=by
 refine wpAny_pyIter_slot hit.ty CW (jS CW hit.ty S6 ?_ (YK _));show ϑ _ _ (ret (.ref it)) _ _ s;exact aE ⟨_,rfl,"reversed",_,hit.ty,slot_next.lookup,h⟩
end
theorem walks{prog:bS}(hh:A.handled=aj)(I l:al)(hne:l≠I)(items:br am)(hz:(items.size:ai)<2 ^ 62) :
  Walks prog w A I [I,l] [I] items.size (λi v=>items[items.size-1-i]?=aa v) (λi h=>i<=items.size/\Is h I l ((items.size:ai)-1-(i:ai))/\h.IsTuple l items) where
 sub:=λb hb=>by simp at hb;simp[hb]
 frame:=λ_ _ _ x hk=>⟨x.1,x.2.1.at λo e=>hk I 0x2 o e,let ⟨o,e,r⟩:=x.2.2;⟨o,hk l 0x2 o e,r⟩⟩
 item:=λi s Q E hi x hQ=>by
  have e:(items.size:ai)-1-(i:ai)=((items.size-1-i:ah):ai):=by lia
  have hit:=x.2.1;rw[e] at hit;have hx:items[items.size-1-i]?=aa (items[items.size-1-i]' 0x1):=ub 0x1;refine next_item hit x.2.2 hx hz λh' tk hit' hs'=>?_
  have e2:((items.size-1-i:ah):ai)-1=(items.size:ai)-1-((i+1:ah):ai):=by lia
  rw[e2] at hit';exact hQ _ h' tk hx ⟨hi,hit',let ⟨o,eo,r⟩:=x.2.2;⟨o,(hs'.2 l hne).trans eo,r⟩⟩ λb o hb eo=>hs'.extBut b o (λh=>hb (by simp[h])) eo
 done:=λs Q E x hQ=>by
  have e:(items.size:ai)-1-(items.size:ai)=-1:=by lia
  have hit:=x.2.1;rw[e] at hit;exact next_end hh hit λh' he'=>hQ h' s.toks λb o hb eo=>he' b o (λh=>hb (by simp[h])) eo
 self:=λ_ _ _ _ x hQ=>CZ x.2.1 hQ
section
variable {prog:bS} {w:bu} {A:cf} {E:am->au->Prop} {s:au}
theorem hint(hit:Is s.heap I l ((items.size:ai)-1))(hl:s.heap.IsTuple l items)(hz:items.size<=bo)(h:∀b tk,Q b {s with toks:=tk}):ϑ (ay prog w) A (BM (.ref I)) Q E s:=by
 unfold BM;refine ao (lh hit.ty SX ?_);dsimp only;refine qA (λhab=>bd hab 0x6) (λ_=>?_);rw[aw 0x2];refine ao (lh hit.ty uL.lookup ?_);generalize hid:("reversed.__length_hint__" : gf)=id0
 wp_delta
 rw[show splitId id0=aa ("reversed","__length_hint__") from by subst hid;decide +kernel];subst hid;refine ao (ll (T:= "reversed") (b:=ag) hit.ty PySem.F.sub_reversed_self ?_);refine qA (λhab=>bd hab 0x4) (λ_=>?_);refine qA (λhab=>bd hab 0x6) (λ_=>?_);refine ao (jj ?_);refine ao (f_ (uL.bind _) ?_);refine ao (jh (jS uL hit.ty S5 ?_ (YL _)));obtain⟨o,ho,hc,hd⟩:=id hit;unfold dn.«reversed.__length_hint__»;refine ao (f_ (a:=cK I) rfl ?_);refine ao (dh ho hd (x:=.ref l) rfl ?_);rw[aw (show ¬((cK l==gu)=ag) from iw)];rw[dg] at hz;refine ao (BH (items:=items) hl 0x1 ?_);refine ao (f_ (a:=aa (items.size:ai)) rfl ?_);dsimp only;refine ao (dh ho hd (x:=cz ((items.size:ai)-1)) rfl ?_);show ϑ _ _ (if (items.size:ai)<(items.size:ai)-1+1 then _ else _) _ _ _;rw[aw 0x1];refine ao (ul (aE ⟨_,rfl,?_⟩));dsimp only;refine ao (f_ (a:=aa ((items.size:ai)-1+1)) rfl ?_);dsimp only;rw[aw (by simp only[Dj,tF,Bool.not_eq_false,aS,cv];lia),aw 0x1,aw (by simp only[sN,cv,dg];lia)];exact aE (h _ _)
theorem extend(hh:A.handled=aj)(hit:Is s.heap I l ((items.size:ai)-1))(hl:s.heap.IsTuple l items)(hIl:l≠I)(S:al)(hSr:S≠I)(hSd:S≠l)(res:am)(c₀:ah)(hS:s.heap.get? S=aa {cls:=.type "list",data:=.seq #[] c₀})
 (hR:∀h' tk acc' c',(∀b o,b≠S->b≠I->s.heap.get? b=aa o->h'.get? b=aa o)->h'.get? S=aa {cls:=.type "list",dict:=aj,data:=.seq acc' c',slots:=#[]}->tI (λi v=>items[items.size-1-i]?=aa v) acc' items.size->R (.ok (.ret res)) {s with heap:=h',toks:=tk})(hn:items.size<=bo) :
  ϑ (ay prog w) A.in1 (uv (.ref S) (.ref I) res)
   (λfin s'=>match fin with|.done f=>R (.ok f) s'|.again c'=>c'.quiet=ag/\codeAny (ay prog w) A c' R s') (λe s'=>R (.error e) s') s:=by
 have hz:(items.size:ai)<2 ^ 62:=by rw[dg] at hn;lia
 have W:=walks (prog:=prog) (w:=w) (A:=A.in1) hh I l hIl items hz;have hSf:S∉[I,l]:=by simp only[cj,List.not_mem_nil,or_false,mz];exact⟨hSr,hSd⟩
 have st0:∀{h:bc},Is h I l ((items.size:ai)-1)->h.IsTuple l items->0<=items.size/\Is h I l ((items.size:ai)-1-((0:ah):ai))/\h.IsTuple l items:=λ{h} a b=>⟨d6 _,by simpa using a,b⟩
 have key:∀(h:bc)(c₁ tk:ah),Is h I l ((items.size:ai)-1)->h.IsTuple l items->(∀b o,b≠S->s.heap.get? b=aa o->h.get? b=aa o)->
   h.get? S=aa {cls:=.type "list",data:=.seq #[] c₁}->codeAny (ay prog w) A (.builtin "list.extend.loop" ⟨[.ref S,.ref I,res],[]⟩) R {s with heap:=h,toks:=tk}:=by
  intro h c₁ tk h1 h2 hk hS₁;refine codeAny_extend_loopS W.toS hn S hSf res items.size 0 _ #[] c₁ rfl (d6 _) (st0 h1 h2) hS₁ (ItemsOf.nil _) λs' acc' c' hm hS' hacc=>?_
  rw[Moved.eq_with hm];refine hR s'.heap s'.toks acc' c' (λb o hb hbI e=>hm.heap b o (λhmem=>?_) (hk b o hb e)) hS' hacc;rcases cj.mp hmem with e'|hmem
  ·exact hb e'
  ·exact hbI (mj.mp hmem)
 unfold uv;refine ao (iF (T:= "reversed") hit.ty ?_);have h1:BN (.ref S) (.ref I)=ak:=by simp[BN,hSr]
 have n1:(fI "reversed"==fI "list")=ak:=by decide
 have n2:(fI "reversed"==fI "tuple")=ak:=by decide
 simp only[h1,n1,n2,sM,gn,fE];refine ao (CZ hit ?_);refine ao (eD (hint hit hl hn λb tk=>?_));refine qA (λ_=>?_) (λ_=>aE ⟨uy BO _,key _ c₀ _ hit hl (λb o _ e=>e) hS⟩);refine ao (jj ?_);refine ao ?_;show ϑ _ _ (qw S (·.push .none) >>= λ_=>qw S (·.pop)) _ _ _;refine ao (qE hS rfl ?_);have hS₂:=ib (eI (·.push gu)) hS rfl;refine qE (hz:=by seq_fits) hS₂ rfl ?_;have hS₃:=ib (eI (·.pop)) hS₂ rfl;have oth:∀b o,b≠S->s.heap.get? b=aa o->((s.heap.update S (eI (·.push gu))).update S (eI (·.pop))).get? b=aa o:=λb o hb e=>(j3 _ _ (Ne.symm hb)).trans ((j3 _ _ (Ne.symm hb)).trans e)
 refine aE ⟨uy BO _,key _ _ _ (hit.at λo e=>oth I o (Ne.symm hSr) e) (let ⟨o,e,r⟩:=hl;⟨o,oth l o (Ne.symm hSd) e,r⟩) (λb o hb e=>oth b o hb e) hS₃⟩
theorem init(hh:A.handled=aj)(hit:Is s.heap I l ((items.size:ai)-1))(hl:s.heap.IsTuple l items)(hIl:l≠I)(S:al)(hSr:S≠I)(hSd:S≠l)(hS:s.heap.get? S=aa {cls:=.type "list",data:=.seq #[]})
 (hR:∀h' tk acc' c',(∀b o,b≠S->b≠I->s.heap.get? b=aa o->h'.get? b=aa o)->h'.get? S=aa {cls:=.type "list",dict:=aj,data:=.seq acc' c',slots:=#[]}->tI (λi v=>items[items.size-1-i]?=aa v) acc' items.size->R (.ok (.ret .none)) {s with heap:=h',toks:=tk})(hn:items.size<=bo) :
  ϑ (ay prog w) A.in1 (dn.«list.__init__» ⟨[.ref S,.ref I],[]⟩)
   (λfin s'=>match fin with|.done f=>R (.ok f) s'|.again c'=>c'.quiet=ag/\codeAny (ay prog w) A c' R s') (λe s'=>R (.error e) s') s:=by
 show ϑ _ _ (do let old <- BQ (.ref S);Dk (.ref S) (λ_=>#[]);letGo old.toList.reverse;uv (.ref S) (.ref I) .none) _ _ s;refine ao ?_;unfold BQ;refine ao (gr hS rfl (aE ?_));show ϑ _ _ (qw S (λ_=>#[]) >>= λ_=>letGo (#[]:br am).toList.reverse >>= λ_=>uv (.ref S) (.ref I) .none) _ _ s;refine ao (qE hS rfl ?_);have hS₂:=ib (eI (λ_=>(#[]:br am))) hS rfl;have oth:∀b o,b≠S->s.heap.get? b=aa o->(s.heap.update S (eI (λ_=>(#[]:br am)))).get? b=aa o:=
  λb o hb e=>(j3 _ _ (Ne.symm hb)).trans e
 refine ao (uo ?_);refine extend hh (hit.at λo e=>oth I o (Ne.symm hSr) e) (let ⟨o,e,r⟩:=hl;⟨o,oth l o (Ne.symm hSd) e,r⟩) hIl S hSr hSd .none _ hS₂ (λh' tk acc' c' hk hS' hacc=>?_) hn;exact hR h' tk acc' c' (λb o hb hbI e=>hk b o hb hbI (oth b o hb e)) hS' hacc
theorem YS(hh:A.handled=aj)(hit:Is s.heap I l ((items.size:ai)-1))(hl:s.heap.IsTuple l items)(hIl:l≠I)(hn:items.size<=bo)
 (hQ:∀h' tk acc' c',(∀b o,b≠I->s.heap.get? b=aa o->h'.get? b=aa o)->h'.get? s.heap.objs.size=aa {cls:=.type "list",dict:=aj,data:=.seq acc' c',slots:=#[]}->tI (λi v=>items[items.size-1-i]?=aa v) acc' items.size->Q (.ref s.heap.objs.size) {s with heap:=h',toks:=tk}) :
  ϑ (ay prog w) A (call (.type "list") [.ref I]) Q E s:=by
 refine ur (Q₁:=λobj s₁=>obj=.ref s.heap.objs.size/\s₁={s with heap:=s.heap.push {cls:=.type "list",data:=.seq #[]}}) PySem.F.called_list (PySem.F.typeCall_list_1 _) PySem.F.entry_list_init
  (code_list_new _ ⟨rfl,rfl⟩) λobj s₁ h₁=>?_
 obtain⟨rfl,rfl⟩:=h₁;have hS:(s.heap.push {cls:=.type "list",data:=.seq #[]}).get? s.heap.objs.size=aa {cls:=.type "list",data:=.seq #[]}:=c6 _ rfl;have lt:∀{b:al}{o:bn},s.heap.get? b=aa o->s.heap.objs.size≠b:=λe=>iz (bw e)
 have l1:s.heap.objs.size≠I:=let ⟨o,e,_⟩:=hit;lt e
 have l2:s.heap.objs.size≠l:=let ⟨o,e,_⟩:=hl;lt e
 refine⟨⟨_,hS,rfl⟩,PySem.F.args_list_init_2 _ _,init (A:=A.in1) hh (hit.at λo e=>bP _ e) (let ⟨o,e,r⟩:=hl;⟨o,bP _ e,r⟩) hIl _ l1 l2 hS (λh' tk acc' c' hk hS' hacc=>?_) hn⟩;exact⟨rfl,hQ h' tk acc' c' (λb o hb e=>hk b o (Ne.symm (lt e)) hb (bP _ e)) hS' hacc⟩
end
end Rv
open L2 PySem.SeqAt PyProof.Rows
def aL7:D->Res D
 |.tup xs=>if ε xs&&ϒ (xs.length<=lim) then .ok (.lst xs.reverse) else .bad
 |_=>.bad
theorem J1:eu "reversed"=aa (.type "reversed"):=0x6
variable [KFrag]
theorem bJ.rev:∀{vs:ae V}{ds:ae D},bJ P H vs ds->bJ P H vs.reverse ds.reverse
 |_,_,.nil=>.nil
 |_,_,.cons r t=>by rw[jn,jn];exact t.rev.snoc r
theorem gW(h:ε ds=ag):ε ds.reverse=ag:=cQ.mpr λy hy=>cQ.mp h y (BS.mp hy)
theorem aCj(r:Vals xs its)(hl:acc.length=its.length)(h:∀j v,acc[j]?=aa v->its[its.length-1-j]?=aa v):Vals xs.reverse acc:=by
 have e:acc=its.reverse:=by
  refine List.ext_getElem? λj=>?_
  by_cases hj:j<its.length
  ·have h1:acc[j]?=aa (acc[j]' 0x1):=dj 0x1;have h2:=h j _ h1;rw[h1,List.getElem?_reverse hj,h2]
  ·rw[io 0x1,io (by rw[jo];lia)]
 rw[e];clear e h hl;induction r with
 |nil=>exact .nil
 |cons h t ih=>
  rw[jn,jn];exact ih.append (.cons h .nil)
section
theorem YT(hc:X.calm=ag)(hg:Gl X "list")(hm:X.mg "list"=aj)(hg2:Gl X "reversed")(hm2:X.mg "reversed"=aj)(he:PE X e (gE fe re))(hs:autoParam (cr [e] X.env=[(ak,eval e X.env)]) Ω)
 (hs2:autoParam (cr [.Call (.Name "reversed" p2) [e] [] pos2] X.env=[(ak,eval (.Call (.Name "reversed" p2) [e] [] pos2) X.env)]) Ω) :
  PE X (.Call (.Name "list" p) [.Call (.Name "reversed" p2) [e] [] pos2] [] pos) (gE (b1 aL7 fe) ag):=by
 rintro Ψ s σ H Q I ⟨ρ,d,E,h,q⟩;obtain⟨d0,h1,h2⟩:=aU h;unfold aL7 at h2;split at h2
 rotate_left
 ·exact bx h2
 rename_i ds;split at h2
 rotate_left
 ·exact bx h2
 rename_i hb;cases h2;rw[aS] at hb;refine gL (mQ I hg hm WT ?_);refine ju ?_ hs2 rfl;rw[hs2];show ϑ _ _ (kF [(ak,eval (.Call (.Name "reversed" p2) [e] [] pos2) X.env)]) _ _ s;refine l9 ?_;refine gL (mQ I hg2 hm2 J1 ?_);refine ju ?_ hs rfl;rw[hs];show ϑ _ _ (kF [(ak,eval e X.env)]) _ _ s;refine l9 (thn (he Ψ s σ H (λv H1=>bU H H1/\Rep All H1 v (.tup ds)) I ⟨ρ,_,E,h1,λv H1 s1 r1 _=>⟨s1,r1⟩⟩) λu s1 ζ=>?_);obtain⟨x,H1,I1,ru,sm,rx⟩:=ζ;obtain⟨t,xs,rfl,ex,rr⟩:=rx.iD;cases ru;obtain⟨its,rv,ht,hz⟩:=I1.tuple (.of ex);have htt:s1.heap.IsTuple t its.toArray:=ht;refine l8 ?_;have hz':its.toArray.size<=bo:=by rw[b6,<-rv.length];exact hz
 refine Rv.aCi htt (by rw[dg] at hz';lia) λtk=>?_
 refine l8 ?_;have hne:t≠s1.heap.objs.size:=let ⟨o,e,_⟩:=htt;cw (bw e)
 refine Rv.YS (I1.ok.hd hc) ⟨_,c6 _ rfl,rfl,rfl⟩ (let ⟨o,e,r⟩:=htt;⟨o,bP _ e,r⟩) hne hz' λh' tk' acc c hk hS hacc=>?_
 have hsz:((s1.heap.push (Rv.obj t ((its.toArray.size:ai)-1))).objs.size)=s1.heap.objs.size+1:=dS ..;have hfr:H1 (s1.heap.push (Rv.obj t ((its.toArray.size:ai)-1))).objs.size=aj:=I1.hok.fresh (by rw[hsz];lia);have hlen:acc.toList.length=its.length:=by have:=hacc.1;simpa using this
 have hv:Vals xs.reverse acc.toList:=aCj rv hlen λj v hj=>by
  have:=hacc.2 j v (by simpa using hj);simpa using this
 have sm2:bU H1 (upd H1 (s1.heap.push (Rv.obj t ((its.toArray.size:ai)-1))).objs.size (.lst xs.reverse)):=bU.upd hfr;refine⟨.ref (s1.heap.push (Rv.obj t ((its.toArray.size:ai)-1))).objs.size,_,I1.laid (a:=(s1.heap.push (Rv.obj t ((its.toArray.size:ai)-1))).objs.size) (o:=.lst xs.reverse) (h':=h') (t':=tk') (λb o e=>hk b o (cw (bw e)) (bP _ e)) (by rw[hsz];lia) ⟨by rw[jo];exact hz,acc.toList,c,hv,by simpa using hS⟩,rfl,?_⟩;exact q _ _ (sm.trans sm2) (.lst aK trivial (rr.rev.same sm2)) λ_=>.lst aK (sm.free hfr) ((rr.rev.bL (gW hb.1)).same sm2)
end
end Mi
namespace Wl
open PySem PySem.Spec
noncomputable abbrev liO(xs:br am)(n:ah):bn:={cls:=.type "list",data:=.seq xs n}
theorem XN:kN (.type "list") "keys"=pure aj:=by rw[i0,i5];kernel_rfl
theorem noGet:kN (.type "list") "__getattr__"=pure aj:=by rw[i0,i5];kernel_rfl
theorem XQ:nh nj "list.__getattribute__"=aa dn.«object.__getattribute__»:=xB (id':= "object.__getattribute__") 0x8 0x6 0x6 0x8
theorem oM(a:al)(xs:br am)(n:ah)(u:em):lj (dn.«object.__getattribute__» ⟨[.ref a,.str "keys" u],[]⟩) (λA R s=>s.heap.get? a=aa (liO xs n)/\raisesAttr (.ref a) "keys" A R s):=.of_wp λprog w A R s hs=>by
 obtain⟨hp,g,d,tk,os⟩:=s;obtain⟨e,hh,q⟩:=hs;have ty:(⟨hp,g,d,tk,os⟩:au).TypeIs (.ref a) "list":=⟨_,e,rfl⟩
 have no:=XN
 wp_walk
 exact Bd hh q (Be 0x6 (by size_fits))
section
variable {prog:bS} {w:bu} {A:cf} {E:am->au->Prop} {hp:bc} {g:br qr} {d:qt} {tk:ah} {os:qu} {a:al} {xs:br am} {n:ah}
theorem gone(e:hp.get? a=aa (liO xs n))(hh:A.handled=aj)(hk:kw=[])(q:∀h' tk' x,Bf hp h' x (.ref a) "keys"->E (.ref x) ⟨h',g,d,tk',os⟩) :
  ϑ (ay prog w) A (call (.builtin "list.__getattribute__") ([.ref a]++[.str "keys" u]) kw) Q E ⟨hp,g,d,tk,os⟩:=by
 subst hk;exact ka yo ⟨_,e,rfl⟩ XQ (F.args_list_getattribute_2 _ _) (oM a xs n u) ⟨e,hh,λh' tk' x hx=>q h' tk' x hx⟩
theorem lacks(e:hp.get? a=aa (liO xs n))(hh:A.handled=aj)(q:∀h' tk',(∀b o,hp.get? b=aa o->h'.get? b=aa o)->Q aj ⟨h',g,d,tk',os⟩):ϑ (ay prog w) A (ue (.ref a) "keys") Q E ⟨hp,g,d,tk,os⟩:=by
 have ty:∀tk',(⟨hp,g,d,tk',os⟩:au).TypeIs (.ref a) "list":=λ_=>⟨_,e,rfl⟩
 have f3:=yo.lookup;have f4:=yo.bind (.ref a);have f5:=noGet;have sub:=Bg
 wp_walk using gone e hh
 case hk=>rfl
 intro h' tk' x hx;obtain⟨t,u,ex⟩:=hx.there;show ϑ _ _ (Bh _ _ _ _ _ _ _) _ _ _
 wp_walk
 exact q _ _ hx.keeps
end
theorem vV{h:bc}(e:h.get? c=aa o)(hc:o.cls=.type T)(ed:h.get? d=aa od)(hd:od.cls=.type U)(ne:(fI T==fI U)=ak):c≠d:=λq=>by
 subst q;rw[e] at ed;cases ed;rw[hc] at hd;rw[hd] at ne;simp at ne
def Prs{prog:bS}{w:bu}{K:Type}[dw K](knd:KeyKind prog w K)(items:br am)(ps:ae (K×am))(h:bc):Prop:=items.size=ps.length/\∀(i:ah)(kv:K×am),ps[i]?=aa kv->∃(p:al)(x:am)(o:bn)(n:ah),items[i]?=aa (cK p)/\h.get? p=aa o/\o.cls=.type "tuple"/\o.data=.seq #[x,kv.2] n/\knd.is kv.1 x=ag
theorem Prs.keep[dw K]{knd:KeyKind prog w K}{ps:ae (K×am)}{h h':bc}(x:Prs knd items ps h)(k:∀c o,o.cls=.type "tuple"->h.get? c=aa o->h'.get? c=aa o):Prs knd items ps h':=
 ⟨x.1,λi kv e=>by obtain⟨p,v,o,n,h1,h2,h3,h4,h5⟩:=x.2 i kv e;exact⟨p,v,o,n,h1,k p o h3 h2,h3,h4,h5⟩⟩
section
variable {prog:bS} {w:bu} {K:Type} [dw K] {knd:KeyKind prog w K} {A:cf} {R:Except am Flow->au->Prop} {it l d:al} {items:br am} {ps:ae (K×am)} {nl:ah}
theorem xX(hh:A.handled=aj)(hdi:d≠it)(hdl:d≠l)(hil:l≠it) :
  ∀(m k:ah)(s:au)(kvs:ae (K×am)),k+m=items.size->kvs.length+m<=bo->s.heap.IsListIter it l k->s.heap.get? l=aa (liO items nl)->Prs knd items ps s.heap->s.heap.DictOf knd d kvs->
  (∀h' tk,h'.DictOf knd d (k9 kvs (ps.drop k))->(∀c o,c≠d->c≠it->s.heap.get? c=aa o->h'.get? c=aa o)->R (.ok (.ret .none)) {s with heap:=h',toks:=tk})->
  codeAny (ay prog w) A (.builtin "dict.update.loop" ⟨[.ref d,.ref it,cz k,.none],[]⟩) R s:=by
 intro m;induction m with
 |zero=>
  intro k s kvs hkm hl Z el Pp hd q;refine jg Wz.kO ?_;rw[kx (show nw "dict.update.loop"=ag by decide +kernel) _];refine ao (oh hh Z ⟨_,el,rfl,_,rfl⟩ (qo 0x1) λh' kp=>?_);refine ao ?_;unfold ye;rw[je];refine ao (aE (aE (aE ?_)));have e:ps.drop k=[]:=jf (by have:=Pp.1;lia);rw[e] at q;obtain⟨o,es,ep,ho,r⟩:=hd;exact q _ s.toks ⟨o,es,ep,kp d o hdi ho,r⟩ λc o _ c1 e=>kp c o c1 e
 |succ m ih=>
  intro k s kvs hkm hl Z el Pp hd q;have hlp:k<ps.length:=by have:=Pp.1;lia
  obtain⟨p,x,o,n,hi,hp,hpc,hpd,his⟩:=Pp.2 k ps[k] (dj hlp);have hpi:p≠it:=let ⟨oi,ei,ci,_⟩:=Z;vV hp hpc ei ci 0x4
  refine jg Wz.kO ?_;rw[kx (show nw "dict.update.loop"=ag by decide +kernel) _];refine ao (og Z ⟨_,el,rfl,_,rfl⟩ hi λh' Z' kp=>?_);have hp':h'.get? p=aa o:=(kp.2 p hpi).trans hp;refine ao (eD (ao (qx ?_)));refine ao (iF ⟨_,hp',hpc⟩ ?_);rw[aq 0x4];refine ao (gr hp' hpd (aE ?_));show ϑ _ _ (jv [x,ps[k].2] (yf d x ps[k].2)) _ _ _;have hd':h'.DictOf knd d kvs:=let ⟨o,es,ep,ho,r⟩:=hd;⟨o,es,ep,(kp.2 d hdi).trans ho,r⟩
  obtain⟨od,es,ep,ho,hc,_⟩:=id hd';refine eD (BC his hd' (λh2 hd2' sb=>?_) 0x1);refine aE ⟨li _ 0x6,?_⟩;have ek:(cz (k+1):am)=cz ((k+1:ah):ai):=rfl;rw[ek];have hdrop:ps.drop k=ps[k]::ps.drop (k+1):=kl hlp;have ls:(jc kvs ps[k].1 ps[k].2).length<=kvs.length+1:=by
   unfold jc;split
   ·rw[az];lia
   ·rw[aT];exact bq _
  have keep:∀c o,c≠d->c≠it->s.heap.get? c=aa o->h2.get? c=aa o:=λc o c0 c1 e=>(sb.2 c c0).trans ((kp.2 c c1).trans e)
  have hdc:∀c (oc:bn),oc.cls=.type "tuple"->s.heap.get? c=aa oc->c≠d/\c≠it:=λc oc hoc e=>⟨let ⟨o1,_,_,e1,c1,_⟩:=hd;vV e hoc e1 c1.1 0x4,let ⟨oi,ei,ci,_⟩:=Z;vV e hoc ei ci 0x4⟩
  refine ih (k+1) _ (jc kvs ps[k].1 ps[k].2) 0x1 0x1 (let ⟨oi,ei,r⟩:=Z';⟨oi,(sb.2 it (Ne.symm hdi)).trans ei,r⟩) (keep l _ (Ne.symm hdl) hil el) (Pp.keep λc oc hoc e=>keep c oc (hdc c oc hoc e).1 (hdc c oc hoc e).2 e) hd2' λh3 tk hd3 kp3=>?_
  exact q h3 tk (by rw[hdrop];exact hd3) λc o c0 c1 e=>kp3 c o c0 c1 (keep c o c0 c1 e)
end
section
variable {prog:bS} {w:bu} {K:Type} [dw K] {knd:KeyKind prog w K} {A:cf} {E:am->au->Prop} {hp:bc} {g:br qr} {dr:qt} {tk:ah} {os:qu} {l:al} {items:br am} {ps:ae (K×am)} {nl:ah}
theorem dict_list(hh:A.handled=aj)(el:hp.get? l=aa (liO items nl))(Pp:Prs knd items ps hp)(hz:items.size<=1000000)
 (q:∀h' tk',h'.DictOf knd hp.objs.size (k9 [] ps)->(∀c o,hp.get? c=aa o->h'.get? c=aa o)->Q (.ref hp.objs.size) ⟨h',g,dr,tk',os⟩) :
  ϑ (ay prog w) A (call (.type "dict") [.ref l]) Q E ⟨hp,g,dr,tk,os⟩:=by
 have hnew:(hp.push {cls:=.type "dict",data:=.dict #[]}).DictOf knd hp.objs.size []:=xj hp;have up:∀c o,hp.get? c=aa o->(hp.push {cls:=.type "dict",data:=.dict #[]}).get? c=aa o:=λc o e=>bP _ e
 have lt:∀{c o},hp.get? c=aa o->hp.objs.size≠c:=λe=>iz (bw e)
 refine ur (Q₁:=λv s₁=>v=.ref hp.objs.size/\s₁=⟨hp.push {cls:=.type "dict",data:=.dict #[]},g,dr,tk,os⟩) yg (yh _) yi (yj _ ⟨rfl,rfl⟩) λv s₁ hv=>?_
 obtain⟨rfl,rfl⟩:=hv;have ty:(⟨hp.push {cls:=.type "dict",data:=.dict #[]},g,dr,tk,os⟩:au).TypeIs (.ref hp.objs.size) "dict":=hnew.typeIs;have ez:=up _ _ el;have tz:(⟨hp.push {cls:=.type "dict",data:=.dict #[]},g,dr,tk,os⟩:au).TypeIs (.ref l) "list":=⟨_,ez,rfl⟩
 refine⟨ty,yk _ _,ao (ao (yl ty (aE ?_)))⟩;refine ao (iF tz ?_);rw[aq 0x4];refine ao (lacks ez hh λh' tk' kp=>?_);rw[aq (show(aj:ar am).isNone=ag from rfl)];refine ao (jj (ao (mE ⟨_,kp _ _ ez,rfl,_,rfl⟩ (aE ⟨li _ 0x6,?_⟩))));have hd':h'.DictOf knd hp.objs.size []:=let ⟨o,es,ep,ho,r⟩:=hnew;⟨o,es,ep,kp _ _ ho,r⟩
 have ltd:hp.objs.size<h'.objs.size:=let ⟨o,es,ep,ho,r⟩:=hd';bw ho
 have ltl:l<h'.objs.size:=bw (kp _ _ ez);refine xX (ps:=ps) (it:=h'.objs.size) (l:=l) (items:=items) (nl:=nl) (show A.in1.handled=aj from hh) (cw ltd) (lt el) (cw ltl) items.size 0 _ [] 0x1 (by rw[ef,dg];lia) ⟨_,c6 _ rfl,rfl,rfl⟩ (bP _ (kp _ _ ez)) (Pp.keep λc o _ e=>bP _ (kp c o (up c o e))) (let ⟨o,es,ep,ho,r⟩:=hd';⟨o,es,ep,bP _ ho,r⟩) λh2 tk2 hd2 kp2=>?_
 exact⟨rfl,q h2 tk2 hd2 λc o e=>kp2 c o (λx=>lt e x.symm) (cw (bw (kp c o (up c o e)))) (bP _ (kp c o (up c o e)))⟩
end
end Wl
namespace Mi
open PySem L2 PySem.SeqAt PySem.Spec PyProof.Rows
def uM:ae D->ar (ae (D×D))
 |[]=>aa []
 |.tup [k,v]::r=>if gD k&&v.pure then (uM r).map ((k,v)::·) else aj
 |_::_=>aj
def kZ(kvs:ae (D×D))(more:ae (D×D)):ae (D×D):=more.foldl (λacc p=>putD acc p.1 p.2) kvs
def C_:D->Res D
 |.lst xs=>match uM xs with
  |some ps=>if ϒ (xs.length<=1000) then .ok (.dct (kZ [] ps)) else .bad
  |none=>.bad
 |_=>.bad
section
variable [KFrag]
theorem O8(I:Inv X Ψ σ H s):∀{xs:ae D}{vs:ae V}{us:ae am}{ps:ae (D×D)},bJ All H vs xs->Vals vs us->uM xs=aa ps->
  ∃(kvs:ae (Key×V))(prs:ae (Key×am)),KV kvs prs/\fV All H kvs ps/\ε (ps.map (·.2))=ag/\us.length=prs.length/\∀(i:ah)(kv:Key×am),prs[i]?=aa kv->∃(p:al)(x:am)(o:bn)(n:ah),us[i]?=aa (cK p)/\s.heap.get? p=aa o/\o.cls=.type "tuple"/\o.data=.seq #[x,kv.2] n/\(cH X.prog X.w).is kv.1 x=ag:=by
 intro xs vs us ps;induction xs generalizing vs us ps with
 |nil=>intro a b h;cases a;cases b;cases h;exact⟨[],[],.nil,.nil,rfl,rfl,λi kv h=>by simp at h⟩
 |cons d xs ih=>
  intro a b h;rcases a with _|⟨r,t⟩;rcases b with _|⟨rv,tv⟩
  unfold uM at h;split at h
  ·rename_i h0;cases h0
  ·rename_i k v r' h0;injection h0 with h0 h1
   subst h0 h1;split at h
   ·rename_i hf;rw[aS] at hf;obtain⟨ps',hp,rfl⟩:=iO.mp h;obtain⟨kvs,prs,g1,g2,g3,g4,g5⟩:=ih t tv hp;obtain⟨a,ws,rfl,ea,rr⟩:=r.iD;cases rv;obtain⟨its,rvs,o,ho,hc,n,hd⟩:=j_ I ea;cases rr with
    |cons rk rr=>
     cases rr with
     |cons rw_ rr=>
      cases rr;cases rvs with
      |cons q1 rvs=>
       cases rvs with
       |cons q2 rvs=>
        cases rvs;rename_i wk ww uk uw;obtain⟨key,hk1,hk2⟩:∃key:Key,kD key=k/\(cH X.prog X.w).is key uk=ag:=by
         cases rk with
         |int i=>exact⟨.inl i,rfl,z7 q1⟩
         |str x=>exact⟨.inr x,rfl,z7 q1⟩
         |_=>cases hf.1
        subst hk1;refine⟨(key,ww)::kvs,(key,uw)::prs,.cons ⟨rfl,q2⟩ g1,.cons rw_ g2,by rw[aI,ε,hf.2,g3];rfl,by rw[bp,bp,g4],λi kv hi=>?_⟩;cases i with
        |zero=>
         simp at hi;subst hi;exact⟨a,uk,o,n,rfl,ho,hc,hd,hk2⟩
        |succ i=>
         obtain⟨p,x,o',n',z1,z2⟩:=g5 i kv (by simpa using hi);exact⟨p,x,o',n',by simpa using z1,z2⟩
   ·cases h
  ·cases h
theorem vX:∀{more:ae (Key×V)}{ds:ae (D×D)}{kvs:ae (Key×V)}{es:ae (D×D)},fV P H more ds->fV P H kvs es->(kvs.map (·.1)).Nodup->fV P H (fQ kvs more) (kZ es ds)/\((fQ kvs more).map (·.1)).Nodup:=by
 intro more ds kvs es a;induction ds generalizing more kvs es with
 |nil=>cases a;intro r n;exact⟨r,n⟩
 |cons _ ds ih=>
  cases a with
  |@cons k _ _ _ _ rv t=>intro r n;have:=ih t (xW (k:=k) rv r n) (iW n);exact this
theorem mX:∀{ds es:ae (D×D)},ε (ds.map (·.2))=ag->ε (es.map (·.2))=ag->ε ((kZ es ds).map (·.2))=ag
 |[],_,_,h=>h
 | (k,v)::ds,es,h,h2=>by
  rw[aI,ε,aS] at h;exact mX (ds:=ds) h.2 (kJ h.1 h2)
section
theorem DG(hc:X.calm=ag)(hg:Gl X "dict")(hm:X.mg "dict"=aj)(he:PE X e (gE fe re))(hs:autoParam (cr [e] X.env=[(ak,eval e X.env)]) Ω) :
  PE X (.Call (.Name "dict" p) [e] [] pos) (gE (b1 C_ fe) ag):=by
 rintro Ψ s σ H Q I ⟨ρ,d,E,h,q⟩;obtain⟨d0,h1,h2⟩:=aU h;unfold C_ at h2;split at h2
 rotate_left
 ·exact bx h2
 rename_i xs;split at h2
 rotate_left
 ·exact bx h2
 rename_i ps hps;split at h2
 rotate_left
 ·exact bx h2
 rename_i hb;cases h2;have hb:=eg hb;refine gL (mQ I hg hm xV ?_);refine ju ?_ hs rfl;rw[hs];show ϑ _ _ (kF [(ak,eval e X.env)]) _ _ s;refine l9 (thn (he Ψ s σ H (λv H1=>bU H H1/\Rep All H1 v (.lst xs)) I ⟨ρ,_,E,h1,λv H1 s1 r1 _=>⟨s1,r1⟩⟩) λu s1 ζ=>?_);obtain⟨x,H1,I1,ru,sm,rx⟩:=ζ;obtain⟨a,vs,rfl,ea,rr⟩:∃a vs,x=.ref a/\H1 a=aa (.lst vs)/\bJ All H1 vs xs:=by
  obtain⟨_,_,rfl,e,p,r⟩:=rx.inv;exact⟨_,_,rfl,e,r⟩
 cases ru;refine l8 ?_;obtain⟨hz,its,nl,rv,hl⟩:vs.length<=bo/\∃(its:ae am)(n:ah),Vals vs its/\s1.heap.get? a=aa {cls:=.type "list",data:=.seq its.toArray n}:=I1.hok a _ ea;obtain⟨kvs,prs,g1,g2,g3,g4,g5⟩:=O8 I1 rr rv hps;have hlen:its.length<=1000:=by rw[<-rv.length,rr.length];exact hb
 obtain⟨hp,g,dr,tk,os⟩:=s1;refine Wl.dict_list (knd:=cH X.prog X.w) (ps:=prs) (items:=its.toArray) (I1.ok.hd hc) hl ⟨by rw[b6];exact g4,λi kv hi=>?_⟩ (by rw[b6];lia) λh' tk' hd kp=>?_
 ·obtain⟨p,x,o,n,z1,z2⟩:=g5 i kv hi;exact⟨p,x,o,n,by simpa using z1,z2⟩
 ·have hfr:H1 hp.objs.size=aj:=I1.hok.fresh (bq _);have rel:KV (fQ [] kvs) (k9 [] prs):=g1.merge .nil;have hz2:(fQ [] kvs).length<=bo:=by
   have:=lL kvs [];have l1:kvs.length=prs.length:=jq g1;rw[ef] at this;rw[dg];lia
  obtain⟨rk,nd⟩:=vX (kvs:=[]) g2 fV.nil gp;have sp:bU H1 (upd H1 hp.objs.size (.dK (fQ [] kvs))):=bU.upd hfr;have rk2:∀{P:al->Prop},fV P (upd H1 hp.objs.size (.dK (fQ [] kvs))) (fQ [] kvs) (kZ [] ps):=λ{P}=>(rk.keep (.same sp) λ_ h=>h).bL (mX g3 rfl)
  refine⟨.ref hp.objs.size,_,I1.laid (a:=hp.objs.size) (t':=tk') (o:=.dK (fQ [] kvs)) kp (bq _) (VM hz2 (fq.mpr ?_) rel hd),rfl,?_⟩
  ·exact Ne.symm (cw I1.big)
  ·exact q _ _ (sm.trans sp) (.dK aK trivial rk2 nd) λ_=>.dK aK (sm.free hfr) rk2 nd
end
end
inductive Srx where
 |par (i:ah)
 |exp (f:FE)
def Srx.ev(ρ:ae D):Srx->Res D
 |.par i=>b8 i ρ
 |.exp f=>f ρ
def okF(d:D):ax:=d.pure||inner d
def evS(ρ:ae D):ae (Str×Srx)->Res (ae (Str×D))
 |[]=>.ok []
 | (f,s)::r=>do
  let d <- s.ev ρ
  let ds <- evS ρ r
  if okF d then .ok ((f,d)::ds) else .bad
def aCk(c f:Str)(fa:FE):FE:=λρ=>do
 let d <- fa ρ
 match d with
 |.ins c' fs=>if ϒ (c'=c) then ο (fs.lookup f) else .bad
 |_=>.bad
noncomputable def aRv:HO->ax
 |.tup _=>ag
 |.frz _ _=>ag
 |.ext _=>ag
 |_=>ak
section
variable [KFrag]
def sG(H H':Hp):Prop:=∀a o,H a=aa o->aRv o=ag->H' a=aa o
theorem sG.tl(k:sG H H')(a:al)(o:HO)(e:H a=aa o)(h:M4 o=ak):H' a=aa o:=k a o e (by
 cases o with
 |tup _=>rfl
 |frz _ u=>cases u<;>first|rfl|exact fx0 h.symm
 |_=>exact fx0 h.symm)
theorem Rep.fX{P P':al->Prop}(k:sG H H')(q:Rep P H v d)(h:d.pure=ag):Rep P' H' v d:=q.tY k.tl h
theorem bJ.fX{P P':al->Prop}(k:sG H H')(q:bJ P H v d)(h:ε d=ag):bJ P' H' v d:=q.tY k.tl h
theorem fV.fX(k:sG H H'):∀{v:ae (Key×V)}{d:ae (D×D)},fV P H v d->ε (d.map (·.2))=ag->fV P' H' v d
 |_,_,.nil,_=>.nil
 |_,_,.cons r t,h=>by
  rw[aI,ε,aS] at h;exact .cons (r.fX k h.1) (fV.fX k t h.2)
theorem mO.fX(k:sG H H'):∀{v:ae (ae Key×V)}{d:ae (D×D)},mO P H v d->ε (d.map (·.2))=ag->mO P' H' v d:=by
 intro v d a h;induction d generalizing v with
 |nil=>cases a;exact .nil
 |cons _ d ih=>cases a with|cons r t=>rw[aI,ε,aS] at h;exact .cons (r.fX k h.1) (ih t h.2)
def mL(x:al)(H H':Hp):Prop:=∀a o,H a=aa o->a≠x->H' a=aa o
theorem mL.upd:mL x H (upd H x o):=λa o' e n=>by rw[aP n];exact e
theorem mL.same(s:bU H H'):mL x H H':=λa o e _=>s a o e
theorem mL.use(b:mL x H H')(hx:H x=aa (.ins C dx fs)):sG H H':=λa o e u=>b a o e λz=>by
 subst z;rw[hx] at e;cases e;cases u
theorem Rep.okK(b:mL x H H')(hx:H x=aa (.ins C dx fs))(m:∀a,P a->P' a)(r:Rep P H v d)(h:okF d=ag):Rep P' H' v d:=by
 have k:=b.use hx;rcases(iS _ _).mp h with h|h
 ·exact r.fX k h
 ·cases r with
  |lst e p r=>exact .lst (b _ _ e (nJ e hx 0x7)) (m _ p) (r.fX k h)
  |cel e p r=>exact .cel (b _ _ e (nJ e hx 0x7)) (m _ p) (r.fX k h)
  |dK e p r n=>exact .dK (b _ _ e (nJ e hx 0x7)) (m _ p) (r.fX k h) n
  |dT e p r n=>exact .dT (b _ _ e (nJ e hx 0x7)) (m _ p) (r.fX k h) n
  |_=>cases h
theorem oX.okK(b:mL x H H')(hx:H x=aa (.ins C dx fs))(m:∀a,P a->P' a):∀{v:ae (Str×V)}{d:ae (Str×D)},oX P H v d->(d.all λp=>okF p.2)=ag->oX P' H' v d
 |_,_,.nil,_=>.nil
 |_,_,.cons r t,h=>by
  rw[ig,aS] at h;exact .cons (r.okK b hx m h.1) (oX.okK b hx m t h.2)
theorem oX.snoc(r1:Rep P H w e):∀{v:ae (Str×V)}{d:ae (Str×D)},oX P H v d->oX P H (v++[(f,w)]) (d++[(f,e)])
 |_,_,.nil=>.cons r1 .nil
 |_,_,.cons r t=>.cons r (oX.snoc r1 t)
theorem oX.look:∀{v:ae (Str×V)}{d:ae (Str×D)},oX P H v d->d.lookup f=aa e->∃w,v.lookup f=aa w/\Rep P H w e
 |_,_,.nil,h=>by cases h
 |_,_,.cons r t,h=>by
  rw[gN] at h ⊢;split at h
  ·cases h;exact⟨_,rfl,r⟩
  ·exact oX.look t h
theorem O9:∀{vf:ae (Str×V)},f∉vf.map (·.1)->rM f y vf=vf++[(f,y)]
 |[],_=>rfl
 | (g,x)::r,h=>by
  rw[aI,cj,mz] at h;show(if g=f then (g,y)::r else (g,x)::rM f y r)=_;rw[aw (λz=>h.1 z.symm),O9 h.2];rfl
theorem aEh:∀{l:ae (Str×Srx)}{fs:ae (Str×D)},evS ρ l=.ok fs->(fs.all λp=>okF p.2)=ag/\fs.map (·.1)=l.map (·.1)
 |[],_,h=>by cases h;exact⟨rfl,rfl⟩
 | (f,s)::r,fs,h=>by
  obtain⟨d,h1,h⟩:=aU h;obtain⟨ds,h2,h⟩:=aU h;split at h
  ·rename_i hk;cases h;obtain⟨i1,i2⟩:=aEh h2;exact⟨by rw[ig,i1,hk];rfl,by rw[aI,aI,i2]⟩
  ·exact bx h
def sT:Srx->TE
 |.par i=>gB i
 |.exp f=>gE f ag
def aNv(K:bi):ae (Str×Srx)->TS
 |[]=>aFi
 | (f,s)::r=>u5 (aJ0 K (gB 0) (sT s) f) (aNv K r)
def RFx(H1:Hp)(us:ae V)(ds:ae D)(H:Hp)(vf:ae (Str×V))(fs:ae (Str×D)):Prop:=∀P:al->Prop,(∀a,H1 a=aj->P a)->bJ P H1 us ds->oX P H vf fs
theorem aEi{K:bi}(cls:Cls K C)(hx0:σ[0]?=aa (aa (.ref x)))(hn:H1 x=aj)(hr:bJ All H1 us ds)(hρ:∀i d,b8 i ρ=.ok d->∃v,σ[i]?=aa (aa v)/\∀P,bJ P H1 us ds->Rep P H1 v d):∀(l:ae (Str×Srx))(H:Hp)(vf:ae (Str×V))(fs0 fs:ae (Str×D)),H x=aa (.ins C dx vf)->bU H1 H->RFx H1 us ds H vf fs0->(fs0.all λp=>okF p.2)=ag->evS ρ l=.ok fs->(vf.map (·.1)++l.map (·.1)).Nodup->(∀f∈l.map (·.1),cG K C f)->vf.length+l.length<1000->
  (∀H' vf',bU H1 H'->H' x=aa (.ins C dx vf')->RFx H1 us ds H' vf' (fs0++fs)->D'.nx σ H')->aNv K l D' σ H
 |[],H,vf,fs0,fs,hx,sm,rf,ok0,he,nd,na,hl,q=>by
  cases he;exact q H vf sm hx (by rw[b5];exact rf)
 | (f,s)::r,H,vf,fs0,fs,hx,sm,rf,ok0,he,nd,na,hl,q=>by
  obtain⟨d,h1,he⟩:=aU he;obtain⟨ds',h2,he⟩:=aU he;split at he
  ·rename_i hk;cases he;have hlf:f∉vf.map (·.1):=λz=>(i6.mp nd).2.2 f z f 0x2 rfl
   have key:∀y H2,bU H H2->(∀P,(∀a,H1 a=aj->P a)->bJ P H1 us ds->Rep P H2 y d)->∃a C' dx' fs',gB 0 σ H2 λx' H3=>x'=.ref a/\H3 a=aa (.ins C' dx' fs')/\Cls K C'/\cG K C' f/\fs'.length<1000/\aNv K r D' σ (upd H3 a (.ins C' dx' (rM f y fs'))):=by
    intro y H2 s2 ry;have hx2:=s2 _ _ hx;refine⟨x,C,dx,vf,_,hx0,rfl,hx2,cls,na f 0x2,by lia,?_⟩;have sm':bU H1 (upd H2 x (.ins C dx (rM f y vf))):=λa o e=>by
     rw[aP (λz=>by subst z;rw[hn] at e;cases e)];exact s2 _ _ (sm _ _ e)
    rw[O9 hlf] at sm' ⊢;refine aEi cls hx0 hn hr hρ r _ (vf++[(f,y)]) (fs0++[(f,d)]) ds' aK sm' (λP hP hR=>?_) (by rw[List.all_append,ok0];simp[hk]) h2 ?_ (λg hg=>na g (by simp at hg ⊢;exact .inr hg)) (by simp at hl ⊢;lia) (λH' vf' a b c=>q H' vf' a b (by simpa using c))
    ·have z1:=(rf P hP hR)
     have z2:oX P H2 vf fs0:=z1.keep (λa o e _=>s2 _ _ e) λ_ h=>h
     exact oX.snoc ((ry P hP hR).okK mL.upd hx2 (λ_ h=>h) hk) (z2.okK mL.upd hx2 (λ_ h=>h) ok0)
    ·simpa[b3] using nd
   cases s with
   |par i=>
    obtain⟨v,e1,e2⟩:=hρ i d h1;obtain⟨a,C',dx',fs',z⟩:=key v H (bU.refl H) λP hP hR=>(e2 P hR).same sm
    obtain⟨v0,w1,w2⟩:=z;exact⟨v,e1,v0,w1,a,C',dx',fs',w2⟩
   |exp g=>
    refine⟨ρ,d,λi hi=>?_,h1,λy H2 s2 r2 n2=>?_⟩
    ·obtain⟨v,e1,e2⟩:=hρ i (ρ.getD i .uD) (by
      unfold b8;split
      ·rename_i q;exact bd q hi
      ·rfl)
     exact⟨v,e1,(e2 All hr).same sm⟩
    ·obtain⟨a,C',dx',fs',z⟩:=key y H2 s2 λP hP hR=>(n2 rfl).mono λa ha=>hP a (by
      cases hq:H1 a with
      |none=>rfl
      |some o=>have:=sm a o hq;rw[show H a=aj from ha] at this;cases this)
     obtain⟨v0,w1,w2⟩:=z;exact⟨v0,w1,a,C',dx',fs',w2⟩
  ·exact bx he
def aCl(C:al)(l:ae (Str×Srx))(n:ah):Sp:=λvs H Q _=>∃x dx H1 us ds fs,vs=.ref x::us/\us.length=n/\H x=aa (.ins C dx [])/\H1 x=aj/\bU H1 H/\bJ All H1 us ds/\evS (.uD::ds) l=.ok fs/\∀H' vf,bU H1 H'->H' x=aa (.ins C dx vf)->RFx H1 us ds H' vf fs->Q .non H'
theorem O_:∀{us:ae V}{ds:ae D}{i:ah}{d:D},us.length=ds.length->ds[i]?=aa d->∃v,us[i]?=aa v/\∀P,bJ P H us ds->Rep P H v d
 |[],[],_,_,_,h=>by simp at h
 |u::us,e::ds,0,d,_,h=>by
  simp at h;subst h;exact⟨u,rfl,λP r=>by cases r;assumption⟩
 |u::us,e::ds,i+1,d,hl,h=>by
  obtain⟨v,h1,h2⟩:=O_ (by simpa using hl) (by simpa using h);exact⟨v,by simpa using h1,λP r=>by cases r with|cons _ t=>exact h2 P t⟩
theorem aEj{P:bS}{w:bu}{K:bi}{mg:Str->ar am}{base:bc}{x qual:Str}{st:bz}{fad C:al}{fd:dm}{N ps:ae Str}{k:ah}{l:ae (Str×Srx)}(F:Fun K x qual st fad fd)(S:bZ N ps (aN st))(hN:N.length=ps.length){n:ah}(hp:ps.length=n+1)(cls:Cls K C)(nd:(l.map (·.1)).Nodup)(na:∀f∈l.map (·.1),cG K C f)(hl:l.length<1000)
 (hbody:∀(cdv:am) (A:cf) (outer:ae cS) (s:au) (H:Hp) (E:XK),lH k (A.deeper (eR qual (aN st) s.heap.objs.size fad cdv))->PSs (wQ CX0 P w K mg base N qual (aN st) fad cdv A outer s H E).nox (dR st) (aNv K l)):lJ P w K mg base CX0 (k+1) fad fd ps (aCl C l n):=by
 refine F.ok S (λvs H Q E z0=>by obtain⟨_,_,_,us,_,_,e,h,_⟩:=z0;rw[e,hp,bp,h]) ?_;intro cdv A outer s H vs Q E hr ζ;obtain⟨x,dx,H1,us,ds,fs,e,hu,hx,hn,sm,r,he,q⟩:=ζ;refine⟨_,hbody cdv A outer s H E hr,?_⟩;subst e;have hst:L2.start N (V.ref x::us)=aa (.ref x)::us.map aa:=by
  unfold L2.start;rw[hN,hp,bp,hu,qS];simp
 rw[hst];refine aEi cls rfl hn r (λi d hd=>?_) l H [] [] fs hx sm (λ_ _ _=>.nil) rfl he (by simpa using nd) na (by simpa using hl) λH' vf s' hx' rf=>q H' vf s' hx' (by simpa using rf)
 match i,hd with
 |0,hd=>exact bx hd
 |i+1,hd=>
  have hd':b8 i ds=.ok d:=hd;have hg:ds[i]?=aa d:=by
   unfold b8 at hd';rw[b9] at hd';cases hq:ds[i]? with
   |none=>rw[hq] at hd';exact bx hd'
   |some e=>
    rw[hq] at hd';have:e=d:=by
     revert hd'
     cases e<;>intro z<;>first|(exact bx z;done)|(cases z;rfl)
    rw[this]
  obtain⟨v,h1,h2⟩:=O_ r.length hg;exact⟨v,by simpa using h1,h2⟩
def aJ4(P:bS)(w:bu)(K:bi)(mg:Str->ar am)(base:bc)(k:ah)(c:Str)(l:ae (Str×Srx))(n:ah):Prop:=
 ∃(C fi:al)(fd:dm)(ps:ae Str),lc K bE c=aa (aa (.ref C))/\mg c=aa (.ref C)/\Mk K C fi/\lJ P w K mg base CX0 k fi fd ps (aCl C l n)/\Binds K fd ps []
def tMk(K:bi)(c:Str)(l:ae (Str×Srx))(n:ah)(t:TA):TE:=λσ H Q=>t σ H λus H1=>∃ds fs,us.length=n/\bJ All H1 us ds/\evS (.uD::ds) l=.ok fs/\∀C x dx H' vf,lc K bE c=aa (aa (.ref C))->H1 x=aj->bU H1 H'->H' x=aa (.ins C dx vf)->RFx H1 us ds H' vf fs->Q (.ref x) H'
section
variable {x c:Str}
theorem aH6(R:aJ4 X.prog X.w X.K X.mg X.base k x l n)(hr:lH k' X.A)(hkk:k+1<=k')(hg:Gl X x)(ha:PA X (e::es) t)(hdb:autoParam (nDb x) Λ)(he:autoParam (zSE X e es) Ω)(hpl:autoParam (zSP X pos es) Ω)(hmono:∀(σ:L2.St) (H:Hp) (Q Q':ae V->Hp->Prop),(∀vs H',Q vs H'->Q' vs H')->t σ H Q->t σ H Q') :
  PE X (.Call (.Name x p) (e::es) [] pos) (tMk X.K x l n t):=by
 obtain⟨C,fi,fd,ps,hn,hm,M,F,hb⟩:=R;refine PE.imp (aFs M F (hr.mono hkk) hg hm hb .nil VV ha hdb he hpl) λσ H Q h=>hmono σ H _ _ ?_ h
 rintro us H1 ⟨ds,fs,hl,r,he,q⟩ y dx hy hdx hne;refine⟨y,dx,H1,us,ds,fs,by rw[b5],hl,aK,hy,λa o e=>?_,r,he,λH' vf s' hx' rf=>⟨rfl,q C y dx H' vf hn hy s' hx' rf⟩⟩;rw[aP (bK e hy),aP (bK e hdx)];exact e
def aH7(K:bi)(c f:Str):Prop:=∀C,lc K bE c=aa (aa (.ref C))->Cls K C/\cG K C f
theorem DK(hK:KFrag.K=X.K)(R:aH7 X.K c f)(he:PE X e (gE fe re))(hb:autoParam (gm e f X.env (eval e X.env)=eval e X.env) Ω):PE X (.Attribute e f pos) (gE (aCk c f fe) ak):=PE.imp (jE he hb) λσ H Q z0=>by
 obtain⟨ρ,d,E,h,q⟩:=z0;obtain⟨d0,h1,h2⟩:=aU h;split at h2
 ·rename_i c' fs;split at h2
  ·rename_i hc;have hc:=eg hc;subst hc;refine⟨ρ,_,E,h1,λv H1 s1 r1 _=>?_⟩;obtain⟨_,_,_,_,rfl,hn,hx,rf⟩:=r1.inv;rw[hK] at hn;obtain⟨k1,k2⟩:=R _ hn;cases hl:fs.lookup f with
   |none=>rw[hl] at h2;exact bx h2
   |some d1=>
    rw[hl] at h2;cases h2;obtain⟨w,g1,g2⟩:=rf.look hl;exact⟨_,_,_,_,w,rfl,hx,k1,k2,g1,q w H1 s1 g2 (λz=>by cases z)⟩
  ·exact bx h2
 ·exact bx h2
end
end
noncomputable def rowOf(s:bz)(j:ah):bz:=match s with
 |.ClassDef _ _ _ b _ _ _ _ _ _ _=>b.getD j (.Pass ⟨0,0,0,0⟩)
 |_=>.Pass ⟨0,0,0,0⟩
def DN(i:ah):FX:=λρ=>match xY (ρ.getD i .uD) with
 |some xs=>(match xs[xs.length-1]? with|some x=>.ok (x,ρ.set i (YF (ρ.getD i .uD) xs.dropLast))|none=>.bad)
 |none=>.bad
def YW(i:ah)(f:FE):FS:=λρ=>do
 let d <- f ρ
 match xY (ρ.getD i .uD) with
 |some xs=>if ϒ (xs.length<lim)&&d.pure then .ok (.nx (ρ.set i (YF (ρ.getD i .uD) (xs++[d])))) else .bad
 |none=>.bad
section
variable [KFrag]
theorem oX.DP:∀{v:ae (Str×V)}{d:ae (Str×D)},oX P H v d->d.lookup f=aj->v.lookup f=aj
 |_,_,.nil,_=>rfl
 |_,_,.cons r t,h=>by
  rw[gN] at h ⊢;split at h
  ·cases h
  ·exact oX.DP t h
section
theorem aH8(ho:own i=ag)(hN:X.N[i]?=aa x)(hv:Vis X.env.scope x)(hd:autoParam (nDb x) Λ)(hcd:autoParam (nCd x) Λ)
 (hbase:autoParam (gm (.Name x p1) "pop" X.env (eval (.Name x p1) X.env)=eval (.Name x p1) X.env) Ω)
 (hline:autoParam ((apos.endLine==cpos.line)=ag) Ω) :
  PE X (.Call (.Attribute (.Name x p1) "pop" apos) [] [] cpos) (gX own (DN i)):=
 PE.imp (MJ iX sQ xE VH (aV hN hv hd hcd) hbase hline) λσ H Q z0=>by
 obtain⟨ρ,d,ρ',E,h,q⟩:=z0;unfold DN at h;split at h
 ·rename_i xs hx;split at h
  ·rename_i dx hdx;cases h;obtain⟨a,vs,hσ,hl,rr,hin,r,_⟩:=uK E ho hx;obtain⟨v,hvx,rv⟩:=rr.get hdx;have hlen:=rr.length;refine⟨_,hσ,.inl ⟨rfl,vs,.of hl⟩,a,vs,v,rfl,rfl,hl,by rw[hlen];exact hvx,?_⟩;have pall:∀y∈xs,y.pure=ag:=λy hy=>cQ.mp hin y hy
   have pdx:d.pure=ag:=pall d (jI hdx);have pe:ε xs.dropLast=ag:=cQ.mpr λy hy=>pall y (Bj _ hy)
   have er:bJ All H vs.dropLast xs.dropLast:=by
    rw[ui,ui,hlen];exact rr.take _
   obtain⟨E2,k2⟩:=E.mut ho hσ rfl (O6 r hx aK trivial (er.upd pe hl rfl)) (by rw[x_ hx];exact pe);have r1:=(bJ.cons rv .nil).upd (o:=.lst vs.dropLast) (by rw[ε,pdx];rfl) hl rfl;cases r1 with
   |cons r1 _=>exact q _ _ k2 E2 (.set ho) (r1.bL pdx)
  ·exact bx h
 ·exact bx h
theorem YX(ho:own i=ag)(hN:X.N[i]?=aa x)(hv:Vis X.env.scope x)(he:PE X e (gE fe re))(hd:autoParam (nDb x) Λ)(hcd:autoParam (nCd x) Λ)
 (hbase:autoParam (gm (.Name x p1) "append" X.env (eval (.Name x p1) X.env)=eval (.Name x p1) X.env) Ω)
 (hs1:autoParam (zSE X e []) Ω)
 (hfew:autoParam (zFw X cpos [e]) Ω)
 (hline:autoParam ((apos.endLine==cpos.line)=ag) Ω)
 (hs:autoParam (eL (.Call (.Attribute (.Name x p1) "append" apos) [e] [] cpos) aj pos.line X.env=pure ak) Ω) :
  PS X (.Expr (.Call (.Attribute (.Name x p1) "append" apos) [e] [] cpos) pos) (tS own (YW i fe)):=
 PS.imp (jU (zZ iX mf oP j7 (aV hN hv hd hcd) (bH he dM hs1) hbase hfew hline hs1 rfl) hs) λD' σ H z0=>by
 obtain⟨ρ,fl,E,h,q⟩:=z0;obtain⟨d,h1,h2⟩:=aU h;split at h2
 ·rename_i xs hx;split at h2
  ·rename_i hk;cases h2;rw[aS] at hk;obtain⟨a,vs,hσ,hl,rr,hin,r,_⟩:=uK E ho hx;have pn:ε (xs++[d])=ag:=by
    rw[gU];simp only[aS];exact⟨hin,by simp[ε,hk.2]⟩
   refine⟨_,hσ,.inl ⟨rfl,vs,.of hl⟩,ρ,d,E.er,h1,λv H' s rv _=>⟨a,vs,v,rfl,rfl,s _ _ hl,by rw[rr.length];exact WK hk.1,?_⟩⟩;have E':=E.same s;have hl':=s _ _ hl;obtain⟨E2,k2⟩:=E'.mut ho hσ rfl (O6 (r.same s) hx aK trivial (((rr.same s).snoc rv).upd pn hl' rfl)) (by rw[x_ hx];exact pn);exact q _ _ ((KU.same s).trans k2) E2
  ·exact bx h2
 ·exact bx h2
end
noncomputable def own1(j:ah):ah->ax:=λi=>i==j
end
variable [KFrag]
def aOy(K:bi)(i:ah):TE:=aQh K "list" aQi (gB i)
def tm1:TE:=tUn (rU λi=>.int (-i)) (tC (.int 1))
def aQn(K:bi)(i:ah):TT:=λσ H Q=>gB i σ H λx H'=>∃k,aNj K x H' k/\Q k H'
section
theorem aCm:rM "left" (.int (((j+1:ah):ai)-1)) [("words",w1),("left",.int ((j+1:ah):ai)),("known",w3)]=([("words",w1),("left",.int j),("known",w3)]:ae (Str×V)):=by
 have:((j+1:ah):ai)-1=j:=by lia
 rw[this];unfold rM;rw[aw 0x4];unfold rM;rw[aq rfl]
end
end Mi
namespace Wl
open PySem PySem.Spec
noncomputable abbrev aB1(K:Type):=ae K×al×am
noncomputable def uN{K:Type}[dw K](xs:ae (aB1 K))(ps:ae (aB1 K)):ae (aB1 K):=ps.foldl (λacc p=>kT acc p.1 p.2.1 p.2.2) xs
def PrH{prog:bS}{w:bu}{K:Type}[dw K](knd:KeyKind prog w K)(items:br am)(ps:ae (aB1 K))(h:bc):Prop:=items.size=ps.length/\∀(i:ah)(kv:aB1 K),ps[i]?=aa kv->uz knd h kv.1 kv.2.1/\∃(p:al)(o:bn)(n:ah),items[i]?=aa (cK p)/\h.get? p=aa o/\o.cls=.type "tuple"/\o.data=.seq #[.ref kv.2.1,kv.2.2] n
theorem yD[dw K]{knd:KeyKind prog w K}{a:al}{h h':bc}(x:uz knd h ks a)(k:∀c o,o.cls=.type "tuple"->h.get? c=aa o->h'.get? c=aa o):uz knd h' ks a:=
 let ⟨o,its,n,h1,h2,h3⟩:=x;⟨o,its,n,k a o h2 h1,h2,h3⟩
theorem PrH.keep[dw K]{knd:KeyKind prog w K}{items:br am}{ps:ae (aB1 K)}{h h':bc}(x:PrH knd items ps h)(k:∀c o,o.cls=.type "tuple"->h.get? c=aa o->h'.get? c=aa o):PrH knd items ps h':=
 ⟨x.1,λi kv e=>by obtain⟨z,p,o,n,h1,h2,h3,h4⟩:=x.2 i kv e;exact⟨yD z k,p,o,n,h1,k p o h3 h2,h3,h4⟩⟩
theorem sV[dw K]{knd:KeyKind prog w K}{d:al}{xs:ae (aB1 K)}{h h':bc}(x:h.DictOfH (gj knd) d xs)(hd:∀o,h.get? d=aa o->h'.get? d=aa o)(k:∀c o,o.cls=.type "tuple"->h.get? c=aa o->h'.get? c=aa o):h'.DictOfH (gj knd) d xs:=by
 obtain⟨o,es,ep,h1,h2,h3,h4,h5,h6⟩:=x;exact⟨o,es,ep,hd o h1,h2,h3,h4,λy hy=>yD (h5 y hy) k,h6⟩
section
variable {prog:bS} {w:bu} {K:Type} [dw K] {knd:KeyKind prog w K} {A:cf} {R:Except am Flow->au->Prop} {it l d:al} {items:br am} {ps:ae (aB1 K)} {nl:ah}
theorem aOz(hh:A.handled=aj)(hu:A.units+1<c9)(hdi:d≠it)(hdl:d≠l)(hil:l≠it) :
  ∀(m k:ah)(s:au)(kvs:ae (aB1 K)),k+m=items.size->kvs.length+m<=bo->s.heap.IsListIter it l k->s.heap.get? l=aa (liO items nl)->PrH knd items ps s.heap->s.heap.DictOfH (gj knd) d kvs->
  (∀h' tk,h'.DictOfH (gj knd) d (uN kvs (ps.drop k))->(∀c o,c≠d->c≠it->s.heap.get? c=aa o->h'.get? c=aa o)->R (.ok (.ret .none)) {s with heap:=h',toks:=tk})->
  codeAny (ay prog w) A (.builtin "dict.update.loop" ⟨[.ref d,.ref it,cz k,.none],[]⟩) R s:=by
 intro m;induction m with
 |zero=>
  intro k s kvs hkm hl Z el Pp hd q;refine jg Wz.kO ?_;rw[kx (show nw "dict.update.loop"=ag by decide +kernel) _];refine ao (oh hh Z ⟨_,el,rfl,_,rfl⟩ (qo 0x1) λh' kp=>?_);refine ao ?_;unfold ye;rw[je];refine ao (aE (aE (aE ?_)));have e:ps.drop k=[]:=jf (by have:=Pp.1;lia);rw[e] at q;have ni:∀c (oc:bn),oc.cls=.type "tuple"->s.heap.get? c=aa oc->c≠it:=λc oc hoc e=>let ⟨oi,ei,ci,_⟩:=Z;vV e hoc ei ci 0x4
  exact q _ s.toks (sV hd (λo ho=>kp d o hdi ho) λc o hc e=>kp c o (ni c o hc e) e) λc o _ c1 e=>kp c o c1 e
 |succ m ih=>
  intro k s kvs hkm hl Z el Pp hd q;have hlp:k<ps.length:=by have:=Pp.1;lia
  obtain⟨hik,p,o,n,hi,hp,hpc,hpd⟩:=Pp.2 k ps[k] (dj hlp);have ni:∀c (oc:bn),oc.cls=.type "tuple"->s.heap.get? c=aa oc->c≠it:=λc oc hoc e=>let ⟨oi,ei,ci,_⟩:=Z;vV e hoc ei ci 0x4
  have hpi:p≠it:=ni p o hpc hp;refine jg Wz.kO ?_;rw[kx (show nw "dict.update.loop"=ag by decide +kernel) _];refine ao (og Z ⟨_,el,rfl,_,rfl⟩ hi λh' Z' kp=>?_);have hp':h'.get? p=aa o:=(kp.2 p hpi).trans hp;refine ao (eD (ao (qx ?_)));refine ao (iF ⟨_,hp',hpc⟩ ?_);rw[aq 0x4];refine ao (gr hp' hpd (aE ?_));show ϑ _ _ (jv [.ref ps[k].2.1,ps[k].2.2] (yf d (.ref ps[k].2.1) ps[k].2.2)) _ _ _;have kt:∀c (oc:bn),oc.cls=.type "tuple"->s.heap.get? c=aa oc->h'.get? c=aa oc:=λc oc hoc e=>(kp.2 c (ni c oc hoc e)).trans e
  have hd':h'.DictOfH (gj knd) d kvs:=sV hd (λo ho=>(kp.2 d hdi).trans ho) kt;refine eD (wpAny_dictSet_heap (tf hu) (yD hik kt) hd' λh2 hd2' sb=>?_);refine aE ⟨li _ 0x6,?_⟩;have ek:(cz (k+1):am)=cz ((k+1:ah):ai):=rfl;rw[ek];have hdrop:ps.drop k=ps[k]::ps.drop (k+1):=kl hlp;have ls:(kT kvs ps[k].1 ps[k].2.1 ps[k].2.2).length<=kvs.length+1:=by
   unfold kT;split
   ·rw[az];lia
   ·rw[aT];exact bq _
  have keep:∀c o,c≠d->c≠it->s.heap.get? c=aa o->h2.get? c=aa o:=λc o c0 c1 e=>(sb.2 c c0).trans ((kp.2 c c1).trans e)
  have hdc:∀c (oc:bn),oc.cls=.type "tuple"->s.heap.get? c=aa oc->c≠d/\c≠it:=λc oc hoc e=>⟨let ⟨o1,_,_,e1,c1,_⟩:=hd;vV e hoc e1 c1.1 0x4,ni c oc hoc e⟩
  refine ih (k+1) _ (kT kvs ps[k].1 ps[k].2.1 ps[k].2.2) 0x1 0x1 (let ⟨oi,ei,r⟩:=Z';⟨oi,(sb.2 it (Ne.symm hdi)).trans ei,r⟩) (keep l _ (Ne.symm hdl) hil el) (Pp.keep λc oc hoc e=>keep c oc (hdc c oc hoc e).1 (hdc c oc hoc e).2 e) hd2' λh3 tk hd3 kp3=>?_
  exact q h3 tk (by rw[hdrop];exact hd3) λc o c0 c1 e=>kp3 c o c0 c1 (keep c o c0 c1 e)
end
section
variable {prog:bS} {w:bu} {K:Type} [dw K] {knd:KeyKind prog w K} {A:cf} {E:am->au->Prop} {hp:bc} {g:br qr} {dr:qt} {tk:ah} {os:qu} {l:al} {items:br am} {ps:ae (aB1 K)} {nl:ah}
theorem S7{Q:am->au->Prop}(hh:A.handled=aj)(hu:A.units+2<c9)(el:hp.get? l=aa (liO items nl))(Pp:PrH knd items ps hp)(hz:items.size<=1000000)
 (q:∀h' tk',h'.DictOfH (gj knd) hp.objs.size (uN [] ps)->(∀c o,hp.get? c=aa o->h'.get? c=aa o)->Q (.ref hp.objs.size) ⟨h',g,dr,tk',os⟩) :
  ϑ (ay prog w) A (call (.type "dict") [.ref l]) Q E ⟨hp,g,dr,tk,os⟩:=by
 have hnew:(hp.push {cls:=.type "dict",data:=.dict #[]}).DictOfH (gj knd) hp.objs.size []:=Dl hp;have up:∀c o,hp.get? c=aa o->(hp.push {cls:=.type "dict",data:=.dict #[]}).get? c=aa o:=λc o e=>bP _ e
 have lt:∀{c o},hp.get? c=aa o->hp.objs.size≠c:=λe=>iz (bw e)
 refine ur (Q₁:=λv s₁=>v=.ref hp.objs.size/\s₁=⟨hp.push {cls:=.type "dict",data:=.dict #[]},g,dr,tk,os⟩) yg (yh _) yi (yj _ ⟨rfl,rfl⟩) λv s₁ hv=>?_
 obtain⟨rfl,rfl⟩:=hv;have ty:(⟨hp.push {cls:=.type "dict",data:=.dict #[]},g,dr,tk,os⟩:au).TypeIs (.ref hp.objs.size) "dict":=hnew.typeIs;have ez:=up _ _ el;have tz:(⟨hp.push {cls:=.type "dict",data:=.dict #[]},g,dr,tk,os⟩:au).TypeIs (.ref l) "list":=⟨_,ez,rfl⟩
 refine⟨ty,yk _ _,ao (ao (yl ty (aE ?_)))⟩;refine ao (iF tz ?_);rw[aq 0x4];refine ao (lacks ez hh λh' tk' kp=>?_);rw[aq (show(aj:ar am).isNone=ag from rfl)];refine ao (jj (ao (mE ⟨_,kp _ _ ez,rfl,_,rfl⟩ (aE ⟨li _ 0x6,?_⟩))));have hd':h'.DictOfH (gj knd) hp.objs.size []:=sV hnew (λo ho=>kp _ _ ho) λc o _ e=>kp c o e
 have ltd:hp.objs.size<h'.objs.size:=let ⟨o,es,ep,ho,r⟩:=hd';bw ho
 have ltl:l<h'.objs.size:=bw (kp _ _ ez);refine aOz (ps:=ps) (it:=h'.objs.size) (l:=l) (items:=items) (nl:=nl) (show A.in1.handled=aj from hh) (show A.units+1+1<c9 from hu) (cw ltd) (lt el) (cw ltl) items.size 0 _ [] 0x1 (by rw[ef,dg];lia) ⟨_,c6 _ rfl,rfl,rfl⟩ (bP _ (kp _ _ ez)) (Pp.keep λc o _ e=>bP _ (kp c o (up c o e))) (sV hd' (λo ho=>bP _ ho) λc o _ e=>bP _ e) λh2 tk2 hd2 kp2=>?_
 exact⟨rfl,q h2 tk2 hd2 λc o e=>kp2 c o (λx=>lt e x.symm) (cw (bw (kp c o (up c o e)))) (bP _ (kp c o (up c o e)))⟩
end
end Wl
namespace Mi
open PySem L2 PySem.SeqAt PySem.Spec PyProof.Rows
def uO:ae D->ar (ae (D×D))
 |[]=>aa []
 |.tup [.tup ks,v]::r=>if ks.all gD&&v.pure then (uO r).map ((.tup ks,v)::·) else aj
 |_::_=>aj
def J2:D->Res D
 |.lst xs=>match uO xs with
  |some ps=>if ϒ (xs.length<=1000) then .ok (.dct (kZ [] ps)) else .bad
  |none=>.bad
 |_=>.bad
variable [KFrag]
theorem DQ(I:Inv X Ψ σ H s):∀{xs:ae D}{vs:ae V}{us:ae am}{ps:ae (D×D)},bJ All H vs xs->Vals vs us->uO xs=aa ps->
  ∃(kvs:ae (ae Key×V))(prs:ae (ae Key×al×am)),KT H kvs prs/\mO All H kvs ps/\ε (ps.map (·.2))=ag/\us.length=prs.length/\∀(i:ah)(kv:ae Key×al×am),prs[i]?=aa kv->uz (cH X.prog X.w) s.heap kv.1 kv.2.1/\∃(p:al)(o:bn)(n:ah),us[i]?=aa (cK p)/\s.heap.get? p=aa o/\o.cls=.type "tuple"/\o.data=.seq #[.ref kv.2.1,kv.2.2] n:=by
 intro xs vs us ps;induction xs generalizing vs us ps with
 |nil=>intro a b h;cases a;cases b;cases h;exact⟨[],[],.nil,.nil,rfl,rfl,λi kv h=>by simp at h⟩
 |cons d xs ih=>
  intro a b h;rcases a with _|⟨r,t⟩;rcases b with _|⟨rv,tv⟩
  unfold uO at h;split at h
  ·rename_i h0;cases h0
  ·rename_i k v r' h0;injection h0 with h0 h1
   subst h0 h1;split at h
   ·rename_i hf;rw[aS] at hf;obtain⟨ps',hp,rfl⟩:=iO.mp h;obtain⟨kvs,prs,g1,g2,g3,g4,g5⟩:=ih t tv hp;obtain⟨a,ws,rfl,ea,rr⟩:=r.iD;cases rv;obtain⟨its,rvs,o,ho,hc,n,hd⟩:=j_ I ea;cases rr with
    |cons rk rr=>
     cases rr with
     |cons rw_ rr=>
      cases rr;cases rvs with
      |cons q1 rvs=>
       cases rvs with
       |cons q2 rvs=>
        cases rvs;rename_i wk ww uk uw;rcases iV (k:=.tup k) hf.1 rk with ⟨q,_,e⟩|⟨b,ks,rfl,eb,e⟩
        ·cases q<;>cases e
        ·injection e with e
         subst e;cases q1;refine⟨(ks,ww)::kvs,(ks,b,uw)::prs,.cons ⟨rfl,eb,q2⟩ g1,.cons rw_ g2,by rw[aI,ε,hf.2,g3];rfl,by rw[bp,bp,g4],λi kv hi=>?_⟩;cases i with
         |zero=>
          simp at hi;subst hi;exact⟨z9 I.hok eb,a,o,n,rfl,ho,hc,hd⟩
         |succ i=>
          obtain⟨z0,p,o',n',z1,z2⟩:=g5 i kv (by simpa using hi);exact⟨z0,p,o',n',by simpa using z1,z2⟩
   ·cases h
  ·cases h
def mJ(kvs more:ae (ae Key×V)):ae (ae Key×V):=more.foldl (λacc p=>putK acc p.1 p.2) kvs
theorem vY:∀{more:ae (ae Key×V)}{ds:ae (D×D)}{kvs:ae (ae Key×V)}{es:ae (D×D)},mO P H more ds->mO P H kvs es->(kvs.map (·.1)).Nodup->mO P H (mJ kvs more) (kZ es ds)/\((mJ kvs more).map (·.1)).Nodup:=by
 intro more ds kvs es a;induction ds generalizing more kvs es with
 |nil=>cases a;intro r n;exact⟨r,n⟩
 |cons _ ds ih=>
  cases a with
  |@cons k _ _ _ _ rv t=>intro r n;have:=ih t (sU (k:=k) rv r n) (iW n);exact this
theorem PJ:∀{more:ae (ae Key×V)}{ms:ae (ae Key×al×am)}{kvs:ae (ae Key×V)}{xs:ae (ae Key×al×am)},KT H more ms->KT H kvs xs->KT H (mJ kvs more) (Wl.uN xs ms):=by
 intro more ms kvs xs a r;induction a generalizing kvs xs with
 |nil=>exact r
 |@cons p q _ _ h t ih=>
  have h1:=h.1;have:=ih (r.put p.1 h.2.1 h.2.2);show KT H (mJ (putK _ p.1 p.2) _) (Wl.uN (kT _ q.1 q.2.1 q.2.2) _);rw[<-h1];exact this
theorem vZ:∀(more kvs:ae (ae Key×V)),(mJ kvs more).length<=kvs.length+more.length
 |[],kvs=>bq _
 |p::r,kvs=>by
  have h1:=vZ r (putK kvs p.1 p.2);have h2:=lK kvs p.1 p.2;rw[bp];show(mJ (putK kvs p.1 p.2) r).length<=_;lia
section
theorem S8(hc:X.calm=ag)(hu:X.A.units+20<c9)(hg:Gl X "dict")(hm:X.mg "dict"=aj)(he:PE X e (gE fe re))(hs:autoParam (cr [e] X.env=[(ak,eval e X.env)]) Ω) :
  PE X (.Call (.Name "dict" p) [e] [] pos) (gE (b1 J2 fe) ag):=by
 intro Ψ s σ H Q I ⟨ρ,d,E,h,q⟩;obtain⟨d0,h1,h2⟩:=aU h;unfold J2 at h2;split at h2
 rotate_left
 ·exact bx h2
 rename_i xs;split at h2
 rotate_left
 ·exact bx h2
 rename_i ps hps;split at h2
 rotate_left
 ·exact bx h2
 rename_i hb;cases h2;have hb:=eg hb;refine gL (mQ I hg hm xV ?_);refine ju ?_ hs rfl;rw[hs];show ϑ _ _ (kF [(ak,eval e X.env)]) _ _ s;refine l9 (thn (he Ψ s σ H (λv H1=>bU H H1/\Rep All H1 v (.lst xs)) I ⟨ρ,_,E,h1,λv H1 s1 r1 _=>⟨s1,r1⟩⟩) λu s1 ζ=>?_);obtain⟨x,H1,I1,ru,sm,rx⟩:=ζ;obtain⟨a,vs,rfl,ea,rr⟩:∃a vs,x=.ref a/\H1 a=aa (.lst vs)/\bJ All H1 vs xs:=by
  obtain⟨_,_,rfl,e,p,r⟩:=rx.inv;exact⟨_,_,rfl,e,r⟩
 cases ru;refine l8 ?_;obtain⟨hz,its,nl,rv,hl⟩:vs.length<=bo/\∃(its:ae am)(n:ah),Vals vs its/\s1.heap.get? a=aa {cls:=.type "list",data:=.seq its.toArray n}:=I1.hok a _ ea;obtain⟨kvs,prs,g1,g2,g3,g4,g5⟩:=DQ I1 rr rv hps;have hlen:its.length<=1000:=by rw[<-rv.length,rr.length];exact hb
 obtain⟨hp,g,dr,tk,os⟩:=s1;refine Wl.S7 (knd:=cH X.prog X.w) (ps:=prs) (items:=its.toArray) (I1.ok.hd hc) 0x1 hl ⟨by rw[b6];exact g4,λi kv hi=>?_⟩ (by rw[b6];lia) λh' tk' hd kp=>?_
 ·obtain⟨z0,p,o,n,z1,z2⟩:=g5 i kv hi;exact⟨z0,p,o,n,by simpa using z1,z2⟩
 ·have hfr:H1 hp.objs.size=aj:=I1.hok.fresh (bq _);have rel:KT H1 (mJ [] kvs) (Wl.uN [] prs):=PJ g1 .nil;have hz2:(mJ [] kvs).length<=bo:=by
   have:=vZ kvs [];have l1:kvs.length=prs.length:=jq g1;rw[ef] at this;rw[dg];lia
  obtain⟨rk,nd⟩:=vY (kvs:=[]) g2 mO.nil gp;have sp:bU H1 (upd H1 hp.objs.size (.dT (mJ [] kvs))):=bU.upd hfr;have rk2:∀{P:al->Prop},mO P (upd H1 hp.objs.size (.dT (mJ [] kvs))) (mJ [] kvs) (kZ [] ps):=λ{P}=>(rk.keep (.same sp) λ_ h=>h).bL (mX g3 rfl)
  obtain⟨o,es,ep,k1,k2,k3,k4,_,k6⟩:=hd;refine⟨.ref hp.objs.size,_,I1.laid (a:=hp.objs.size) (t':=tk') (o:=.dT (mJ [] kvs)) kp (bq _) ⟨hz2,fq.mpr ?_,_,rel.keeps λb ys e=>sp _ _ e,o,es,ep,k1,k2,k3,k4,k6⟩,rfl,?_⟩
  ·exact Ne.symm (cw I1.big)
  ·exact q _ _ (sm.trans sp) (.dT aK trivial rk2 nd) λ_=>.dT aK (sm.free hfr) rk2 nd
end
end Mi
namespace Mi
open PySem
theorem YZ(o:bn)(f:br am->br am):(o.mapFields f).dict=o.dict:=by
 obtain⟨c,d,dt,sl⟩:=o;cases dt<;>rfl
theorem PK(T:al):(cK T !=gu)=ag:=by simp
theorem aCn(L:al):¬((gu==cz L)=ag):=by simp[cz]
def TrD(h B:bc)(e:al)(c:am)(dd:ar al)(fl:am):Prop:=
 ∃o vs T oT ts,(h.get? e=aa o/\o.cls=c/\o.dict=dd/\o.data=.fields vs)/\(vs[1]?=aa (.ref T)/\B.get? T=aj/\T≠e)/\h.get? T=aa oT/\oT.data=.fields ts/\ts[3]?=aa fl/\(dd≠aj->vs[2]?=aa .none)
def FD(B:bc)(l:ae cS)(e:al)(c:am)(dd:ar al)(fl:am)(h:bc):Prop:=B.StaysIn h/\B.get? e=aj/\h.FunFrames B l/\TrD h B e c dd fl
theorem FD.there(x:FD B l e c dd fl h):∃o,h.get? e=aa o/\o.cls=c/\o.dict=dd/\∃vs,o.data=.fields vs:=by
 obtain⟨_,_,_,o,vs,_,_,_,⟨a,b,d,f⟩,_⟩:=x;exact⟨o,a,b,d,vs,f⟩
section
variable {M:Model} {A:cf} {E:am->au->Prop} {s:au} {B:bc} {env:cS} {outer l:ae cS} {L e:al} {oe:bn} {vs:br am} {head c:am} {dd:ar al} {Q:Unit->au->Prop}
theorem J3{h:bc}(i:ah)(v:am)(ho:h.get? a=aa o)(hd:o.data=.fields ws) :
  ∃h2:bc,h2=h.update a (mT (·.setIfInBounds i v))/\(∀b,b≠a->h2.get? b=h.get? b)/\∃o2,h2.get? a=aa o2/\o2.cls=o.cls/\o2.dict=o.dict/\o2.data=.fields (ws.setIfInBounds i v):=
 ⟨_,rfl,λb hb=>j3 _ _ (Ne.symm hb),_,ib _ ho (yn (nE hd _)),BI _ _,YZ _ _,nE hd _⟩
theorem PN(hfr:A.frames=aa (env::outer))(hl:s.heap.FunFrames B (env::outer))(hf:env.frame=aa L)(he:s.heap.get? e=aa oe)(hB:B.StaysIn s.heap)(hn:B.get? e=aj)(hd:oe.data=.fields vs)(hz:1<vs.size)(h2:oe.dict≠aj->vs[2]?=aa .none)
 (q:∀h',FD B (env::outer) e oe.cls oe.dict (cz L) h'->s.heap.UpToSlots h'->Q () {s with heap:=h'}) :
  ϑ M A (do let a <- frameOf env;let pl <- entryPlaceOf L had;let b <- BU head a .none (cz L) .none pl;setField (.ref e) 1 b) Q E s:=by
 have nf:e∉(env::outer).filterMap (·.frame):=λz=>by
  obtain⟨_,o,ho,k⟩:=hl.mem z;cases he.symm.trans ho;exact k _ hd
 refine ao (wpAny_frameOf_fun hfr hl hf λh1 so=>ao (wpAny_entryPlaceOf λpl hp=>?_));unfold BU;unfold newFields;refine ao (iL ?_ (hp.sizeOk5 _ _ _ _ _));generalize hon:({cls:=.type "traceback",dict:=aj,data:=.fields ([head,.ref L,.none,cz L,.none]++(if pl.isEmpty then bX 6 gu else pl)).toArray}:bn)=on;have e1:h1.get? e=aa oe:=(so.2.1 e nf).trans he;have B1:B.StaysIn h1:=λb o k=>(so.2.1 b λz=>by rw[(hl.mem z).1] at k;cases k).trans (hB b o k)
 have e2:=bP on e1;obtain⟨h3,r3,k3,o3,g3,c3,d3,f3⟩:=J3 1 (.ref h1.objs.size) e2 hd;have ne:h1.objs.size≠e:=iz (bw e1);have t3:h3.get? h1.objs.size=aa on:=(k3 _ ne).trans (c6 h1 (by rw[<-hon];rfl));have keep:∀b o,b≠e->h1.get? b=aa o->h3.get? b=aa o:=λb o hb k=>(k3 b hb).trans (bP _ k)
 have nr:∀b o,s.heap.get? b=aa o->(∀vs,o.data≠.fields vs)->b≠e:=λb o k z w=>by
  rw[w] at k;cases he.symm.trans k;exact z _ hd
 have up:s.heap.UpToSlots h3:=λb o k z=>by
  obtain⟨sl,w⟩:=so.2.2 b o k;exact⟨sl,keep b _ (nr b o k z) w⟩
 refine nB e2 hd hz ?_;rw[<-r3];refine q h3 ⟨λb o k=>keep b o (λz=>by rw[z,hn] at k;cases k) (B1 b o k),hn,hl.of_keeps λb o k z=>let ⟨sl,w⟩:=up b o k z;⟨_,w,rfl⟩,?_⟩ up;have don:on.data=.fields ([head,.ref L,.none,cz L,.none]++(if pl.isEmpty then bX 6 gu else pl)).toArray:=by rw[<-hon]
 exact⟨o3,_,h1.objs.size,on,_,⟨g3,c3,d3,f3⟩,⟨by simp[hz],B1.fresh,ne⟩,t3,don,by simp,λz=>by rw[Array.getElem?_setIfInBounds,aw 0x4];exact h2 z⟩
theorem qI(x:FD B l e c dd fl s.heap)(q:∀h',FD B l e c dd .none h'->s.heap.UpToSlots h'->Q () {s with heap:=h'}):ϑ M A (setFlight (.ref e) aj) Q E s:=by
 obtain⟨k1,k2,k3,o,vs,T,oT,ts,⟨g1,g2,g3,g4⟩,⟨t1,t2,t3⟩,u1,u2,u3,u4⟩:=x;obtain⟨h2,r2,j2,o2,p1,p2,p3,p4⟩:=J3 3 gu u1 u2;have hz:3<ts.size:=(qB.mp u3).1;have up:∀b o,s.heap.get? b=aa o->(∀vs,o.data≠.fields vs)->h2.get? b=aa o:=λb o k z=>(j2 b λw=>by
  rw[w] at k;cases u1.symm.trans k;exact z _ u2).trans k
 unfold setFlight;refine ao (dh g1 g4 t1 ?_);rw[aq (PK T)];refine nB u1 u2 hz ?_;show Q () {s with heap:=s.heap.update T (mT (·.setIfInBounds 3 gu))};rw[<-r2];exact q h2 ⟨λb o k=>(j2 b λw=>by rw[w,t2] at k;cases k).trans (k1 b o k),k2,k3.of_keeps λb o k z=>⟨o,up b o k z,rfl⟩,o,vs,T,o2,_,⟨(j2 e (Ne.symm t3)).trans g1,g2,g3,g4⟩,⟨t1,t2,t3⟩,p1,p4,by simp[hz],u4⟩ λb o k z=>⟨o.slots,up b o k z⟩
theorem Y0(hfr:A.frames=aa (env::outer))(hf:env.frame=aa L)(x:FD B (env::outer) e c dd .none s.heap)(q:∀h',FD B (env::outer) e c dd (cz L) h'->s.heap.UpToSlots h'->Q () {s with heap:=h'}):ϑ M A (yp (.ref e) env) Q E s:=by
 obtain⟨k1,k2,k3,o,vs,T,oT,ts,⟨g1,g2,g3,g4⟩,⟨t1,t2,t3⟩,u1,u2,u3,u4⟩:=x;obtain⟨h2,r2,j2,o2,p1,p2,p3,p4⟩:=J3 3 gu u1 u2;have up:∀b o,s.heap.get? b=aa o->(∀vs,o.data≠.fields vs)->h2.get? b=aa o:=λb o k z=>(j2 b λw=>by
  rw[w] at k;cases u1.symm.trans k;exact z _ u2).trans k
 unfold yp;simp only[hf];refine ao (dh g1 g4 t1 ?_);rw[aq (PK T)];refine ao (dh u1 u2 u3 ?_);rw[aw (aCn L)];refine ao (nB u1 u2 (qB.mp u3).1 ?_);rw[<-r2];have g1':h2.get? e=aa o:=(j2 e (Ne.symm t3)).trans g1;subst g2 g3;refine PN hfr (k3.of_keeps λb o k z=>⟨o,up b o k z,rfl⟩) hf g1' (λb o k=>(j2 b λw=>by rw[w,t2] at k;cases k).trans (k1 b o k)) k2 g4 (qB.mp t1).1 u4 λh' y z=>q h' y λb o k w=>z b o (up b o k w) w
theorem aCo(hfr:A.frames=aa (env::outer))(hf:env.frame=aa L)(x:FD B (env::outer) e c dd .none s.heap)(q:∀h',FD B outer e c dd .none h'->s.heap.UpToSlots h'->Q () {s with heap:=h'}):ϑ M A (leaving env (.ref e)) Q E s:=by
 unfold leaving;refine ao (Y0 hfr hf x λh1 x1 u1=>qI x1 λh2 x2 u2=>q h2 ⟨x2.1,x2.2.1,x2.2.2.1.2.2,x2.2.2.2⟩ (u1.trans u2))
theorem aCp(hfr:A.frames=aa (env::outer))(hf:env.frame=aa L)(hl:s.heap.FunFrames B (env::outer))(he:s.heap.get? e=aa oe)(hB:B.StaysIn s.heap)(hn:B.get? e=aj)(hd:oe.data=.fields vs)(hv:vs[1]?=aa .none)(h2:oe.dict≠aj->vs[2]?=aa .none)
 (q:∀h',FD B outer e oe.cls oe.dict .none h'->s.heap.UpToSlots h'->Q () {s with heap:=h'}):ϑ M A (leaving env (.ref e)) Q E s:=by
 unfold leaving yp;simp only[hf];refine ao (ao (dh he hd hv ?_));rw[aw 0x4];exact PN hfr hl hf he hB hn hd (qB.mp hv).1 h2 λh1 x1 u1=>qI x1 λh2 x2 u2=>q h2 ⟨x2.1,x2.2.1,x2.2.2.1.2.2,x2.2.2.2⟩ (u1.trans u2)
end
open L2 PySem.W PySem.SeqAt PySem.Spec PyProof.Rows Builtin Builtin.ObjectAttr
theorem XO.stay(x:XO a C dx h1)(k:∀o,h1.get? a=aa o->h2.get? a=aa o):XO a C dx h2:=let ⟨o,e,r⟩:=x;⟨o,k _ e,r⟩
section
theorem aP0(x:XO a C dx h):gC P w H h a (.ext (XO a C dx)):=⟨x,let ⟨o,e,_⟩:=x;⟨o,e⟩,λ_ _ y k=>y.stay k⟩
end
def CX2(P:bS)(w:bu):CXT:=λouter H s E e s'=>∃(a C:al)(dd:ar al)(H1:Hp)(B:bc),e=.ref a/\s'.os=s.os/\iq s'.gens/\FD B outer a (.ref C) dd .none s'.heap/\
 (∀h6:bc,B.StaysIn h6->s'.heap.UpToSlots h6->Un (L2.frs outer) [] H H1 s.heap h6/\HOk P w H1 h6)/\H1 a=aj/\s.heap.get? a=aj/\E (.ref C) dd H1
section
variable {P:bS} {w:bu} {K:bi} {mg:Str->ar am} {base:bc} {N:ae Str} {qual:Str} {scope:fx} {f C:al} {cd:am} {A:cf} {outer:ae cS} {s:au} {H:Hp} {E:XK}
theorem qW:tL (CX2 P w) (wQ (CX2 P w) P w K mg base N qual scope f cd A outer s H E) E:=by
 intro Ψ σ Hm sm e s' I hx;obtain⟨a,C,dd,H1,B,rfl,os',bare',fly,clo,hn,hgone,hE⟩:=hx
 let env:=eR qual scope s.heap.objs.size f cd
 have hfr:L2.frs (env::outer)=s.heap.objs.size::L2.frs outer:=by
  unfold L2.frs;rw[n4];rfl
 have u0:Un (L2.frs outer) [] H Hm s.heap sm.heap:=I.base;show ϑ (ay P w) (A.deeper env) (leaving env (.ref a)) (λ_ s''=>CX2 P w outer H s E (.ref a) s'') (λe' s''=>CX2 P w outer H s E e' s'') s';refine aCo I.ok.frames rfl fly λh' x1 x4=>?_
 have hgone0:s.heap.get? a=aj:=by
  cases q:s.heap.get? a with
  |none=>rfl
  |some o=>
   obtain⟨o',e1⟩:=u0.there a o q 0x2;rw[hgone] at e1;cases e1
 refine⟨a,C,dd,H1,B,rfl,os'.trans I.os,bare',x1,λh6 st up=>?_,hn,hgone0,hE⟩;obtain⟨u2,hok⟩:=clo h6 st (x4.trans up);have nL:∀b o,s.heap.get? b=aa o->b∉L2.frs outer->b∉L2.frs (env::outer):=λb o eb hb z=>by
  rw[hfr] at z;rcases cj.mp z with z|z
  ·exact bd (bw eb) (by rw[z];exact fN _)
  ·exact hb z
 refine⟨⟨λb o eb hn hb hx'=>u2.keep b o (u0.keep b o eb hn hb hx') (u0.free b o eb hn hx') (nL b o eb hb) 0x2,λb o eb hn hb hx'=>?_,λb o eb hn hx'=>?_,λb o eb hx'=>?_,λb xs q=>u2.tups b xs (u0.tups b xs q),λb o u q=>u2.frzs b o u (u0.frzs b o u q),λb ps q=>?_⟩,hok⟩
 ·obtain⟨sl,e1⟩:=u0.slot b o eb hn hb hx';obtain⟨sl',e2⟩:=u2.slot b _ e1 (u0.free b o eb hn hx') (show b∈L2.frs (env::outer) by rw[hfr];exact c8 _ hb) 0x2;exact⟨sl',e2⟩
 ·obtain⟨o',e1⟩:=u0.there b o eb hx';exact u2.free b o' e1 (u0.free b o eb hn hx') 0x2
 ·obtain⟨o',e1⟩:=u0.there b o eb hx';exact u2.there b o' e1 0x2
 ·obtain⟨m1,q1⟩:=u0.tbls b ps q;obtain⟨m2,q2⟩:=u2.tbls b _ q1;exact⟨m1++m2,by rw[<-zq];exact q2⟩
end
end Mi
namespace Mi
open PySem L2 PySem.W PySem.SeqAt PySem.Spec PyProof.Rows
noncomputable def noE{α:Type}(f:ae D->Res α):ae D->Res α:=λρ=>match f ρ with|.ok a=>.ok a|_=>.bad
theorem aL8(h:f ρ=.ok a):noE f ρ=.ok a:=by unfold noE;rw[h]
theorem aL9{f:ae D->Res α}:(∃a,f ρ=.ok a/\noE f ρ=.ok a)\/noE f ρ=.bad:=by
 unfold noE;cases f ρ with
 |ok a=>exact .inl ⟨a,rfl,rfl⟩
 |err c as=>exact .inr rfl
 |bad=>exact .inr rfl
section
variable [KFrag]
def aP1(E:XK)(H:Hp)(c:Str)(as:ae D):Prop:=∃fs C,as=[.exc c fs]/\nsIn KFrag.K bE c=aa (aa (.ref C))/\∀H' dx,bU H H'->XDs H' fs dx->E (.ref C) dx H'
def kZE(E:XK)(H:Hp)(Q:VK):Res D->Prop
 |.ok d=>kR H d ag Q
 |.err c as=>aP1 E H c as
 |.bad=>cg
noncomputable def spZ(f:ae D->Res D)(n:ah):Sp:=λvs H Q E=>∃ds,ds.length=n/\bJ All H vs ds/\kZE E H Q (f ds)
def aCq(P:bS)(w:bu)(K:bi)(mg:Str->ar am)(base:bc)(k:ah)(x:Str)(n:ah)(f:ae D->Res D):Prop:=
 ∃(fad:al)(fd:dm)(ps:ae Str),lJ P w K mg base (CX2 P w) k fad fd ps (spZ f n)/\mg x=aa (.ref fad)/\gl K (.ref fad)=ag/\Binds K fd ps []
end
open Builtin Builtin.ObjectAttr
variable [KFrag]
theorem XO.exc(x:XO a C dx h):ExcAt a C h:=let ⟨o,e,c,_⟩:=x;⟨o,e,c⟩
end Mi
namespace Mi
open PySem L2 PySem.W PySem.SeqAt PySem.Spec PyProof.Rows
section
variable [KFrag]
theorem PP(ho:own i=ak)(a:al):Own own (σ.set i aj) a↔Own own σ a:=by
 constructor
 ·rintro⟨j,hj,e⟩;have:i≠j:=λz=>by subst z;rw[ho] at hj;cases hj
  rw[du this] at e;exact⟨j,hj,e⟩
 ·rintro⟨j,hj,e⟩;have:i≠j:=λz=>by subst z;rw[ho] at hj;cases hj
  exact⟨j,hj,by rw[du this];exact e⟩
theorem ES.drop{own:ah->ax}(ho:own i=ak)(es:ES own H σ ρ):ES own H (σ.set i aj) (ρ.set i .uD):=by
 refine⟨by simp[es.len],λj hj=>?_,λj v hj hv=>?_⟩
 ·rw[dF] at hj ⊢;by_cases h:i=j/\i<ρ.length
  ·rw[aq h] at hj;exact bd rfl hj
  ·rw[aw h] at hj ⊢;obtain⟨v,h1,h2⟩:=es.at_ j hj;have ne:i≠j:=λz=>by
    subst z;have:i<σ.length:=(dE.mp h1).1;exact h ⟨rfl,by rw[<-es.len];exact this⟩
   exact⟨v,by rw[du ne];exact h1,λo=>(h2 o).mono λa n z=>n ((PP ho a).mp z)⟩
 ·have ne:i≠j:=λz=>by subst z;rw[ho] at hj;cases hj
  rw[du ne] at hv;obtain⟨a,o,h1,h2,h3,h4,h5,h6⟩:=es.own j v hj hv;have e:(ρ.set i .uD).getD j .uD=ρ.getD j .uD:=by rw[dF,aw (λz=>ne z.1)]
  refine⟨a,o,h1,by rw[e];exact h2,by rw[e];exact h3,h4,h5,λl hl hs=>h6 l hl ?_⟩;have:i≠l:=λz=>by subst z;rw[ho] at hl;cases hl
  rwa [du this] at hs
section
theorem aH9(er:ER H σ ρ)(h:ρ.getD i .uD=.exc c fs):∃a C dx,σ[i]?=aa (aa (.ref a))/\nsIn KFrag.K bE c=aa (aa (.ref C))/\H a=aa (.ext (XO a C dx)):=by
 obtain⟨v,h1,r1⟩:=er i (by rw[h];intro z;cases z);rw[h] at r1;obtain⟨a,C,dx,rfl,n,e,q⟩:=r1.inv;exact⟨a,C,dx,h1,n,e⟩
end
end
def aP2(p:Str->ax->Prop):ae (Str×ax)->Prop
 |[]=>gi
 | (c,b)::r=>p c b/\aP2 p r
theorem Y4:∀{t:ae (Str×ax)},aP2 p t->∀c b,t.lookup c=aa b->p c b
 |[],_,_,_,h=>by cases h
 | (d,e)::r,⟨h1,h2⟩,c,b,h=>by
  rw[gN] at h;split at h
  ·rename_i z;rw[fS.mp z];cases h;exact h1
  ·exact Y4 h2 c b h
def aP3(p:Str->Prop):ae Str->Prop
 |[]=>gi
 |c::r=>p c/\aP3 p r
theorem Y5:∀{t:ae Str},aP3 p t->∀c,t.contains c=ag->p c
 |[],_,_,h=>by cases h
 |d::r,⟨h1,h2⟩,c,h=>by
  rw[List.contains_cons] at h;rcases(iS _ _).mp h with z|z
  ·rw[fS.mp z];exact h1
  ·exact Y5 h2 c z
section
variable [KFrag]
end
section
variable {P:bS} {w:bu} {K:bi} {mg:Str->ar am} {base:bc} {N:ae Str} {qual:Str} {scope:fx} {f C:al} {cd:am} {A:cf} {outer:ae cS} {s:au} {H:Hp} {E:XK}
theorem Y6(I:Inv (wQ (CX2 P w) P w K mg base N qual scope f cd A outer s H E) Ψ σ H1 s1)(keeps:∀b o,s1.heap.get? b=aa o->h2.get? b=aa o)(new:s1.heap.get? e=aj)(ht:h2.get? e=aa {cls:=.ref C,data:=.fields vs})(hv:vs[1]?=aa .none)(hE:E (.ref C) aj H1) :
  (wQ (CX2 P w) P w K mg base N qual scope f cd A outer s H E).xe (.ref e) {s1 with heap:=h2}:=by
 let env:=eR qual scope s.heap.objs.size f cd
 have hfr:L2.frs (env::outer)=s.heap.objs.size::L2.frs outer:=by
  unfold L2.frs;rw[n4];rfl
 have hin:∀v∈(env::outer),∀b,v.frame=aa b->b∈L2.frs (env::outer):=λv hv b hb=>vT.mpr ⟨v,hv,hb⟩
 have stk:s1.heap.FunFrames base (env::outer):=I.stack;have sfree:∀b∈L2.frs (env::outer),H1 b=aj:=I.HN;have u0:Un (L2.frs outer) [] H H1 s.heap s1.heap:=I.base;have hn0:(vk s1.heap (L2.frs (env::outer))).get? e=aj:=by
  cases q:(vk s1.heap (L2.frs (env::outer))).get? e with
  |none=>rfl
  |some o=>
   have e1:=vn _ q;rw[new] at e1;cases e1
 show ϑ (ay P w) (A.deeper env) (leaving env (.ref e)) (λ_ s''=>CX2 P w outer H s E (.ref e) s'') (λe' s''=>CX2 P w outer H s E e' s'') {s1 with heap:=h2};refine aCp I.ok.frames rfl ((PySem.W.funFrames_hide stk hin).of_keeps λb o k _=>⟨o,keeps b o k,rfl⟩) ht (λb o q=>keeps b o (vn _ q)) hn0 rfl hv (λz=>bd rfl z) λh' x1 x4=>?_
 have hgone:s.heap.get? e=aj:=by
  cases q:s.heap.get? e with
  |none=>rfl
  |some o=>
   obtain⟨o',e1⟩:=u0.there e o q 0x2;rw[new] at e1;cases e1
 have huntr:H1 e=aj:=by
  cases q:H1 e with
  |none=>rfl
  |some u=>
   obtain⟨o,e1⟩:=JV (I.hok e u q);rw[new] at e1;cases e1
 refine⟨e,C,aj,H1,_,rfl,I.os,I.bare,x1,λh6 st up=>?_,huntr,hgone,hE⟩;have k:∀b o,s1.heap.get? b=aa o->b∉L2.frs (env::outer)->h6.get? b=aa o:=λb o eb hb=>st b o (zo _ eb hb)
 have up6:s1.heap.UpToSlots h6:=((Dm keeps).trans x4).trans up;have nL:∀b o,s.heap.get? b=aa o->b∉L2.frs outer->b∉L2.frs (env::outer):=λb o eb hb z=>by
  rw[hfr] at z;rcases cj.mp z with z|z
  ·exact bd (bw eb) (by rw[z];exact fN _)
  ·exact hb z
 have slot:∀b o,s1.heap.get? b=aa o->b∈L2.frs outer->∃sl,h6.get? b=aa {o with slots:=sl}:=λb o eb hb=>by
  obtain⟨_,o',ho',hd⟩:=stk.mem (show b∈L2.frs (env::outer) by rw[hfr];exact c8 _ hb);rw[eb] at ho';cases ho';exact up6 b o eb hd
 refine⟨⟨λb o eb hn hb hx'=>k b o (u0.keep b o eb hn hb hx') (nL b o eb hb),λb o eb hn hb hx'=>?_,λb o eb hn hx'=>u0.free b o eb hn hx',λb o eb hx'=>?_,u0.tups,u0.frzs,u0.tbls⟩,λb u eb=>?_⟩
 ·obtain⟨sl,e1⟩:=u0.slot b o eb hn hb hx';obtain⟨sl',e2⟩:=slot b _ e1 hb;exact⟨sl',e2⟩
 ·obtain⟨o',e1⟩:=u0.there b o eb hx';by_cases hb:b∈L2.frs outer
  ·obtain⟨sl,e2⟩:=slot b o' e1 hb;exact⟨_,e2⟩
  ·exact⟨o',k b o' e1 (nL b o eb hb)⟩
 ·refine(I.hok b u eb).stay (λc v hc q=>k c v q λz=>?_) (λ_ q=>q) λ_ _ q=>q
  have:=sfree c z;rcases hc with hc|hc
  ·rw[hc,eb] at this;cases this
  ·rw[hc] at this;cases this
theorem Y7(I:Inv (wQ (CX2 P w) P w K mg base N qual scope f cd A outer s H E) Ψ σ H1 s1)(hx:A3 s1.heap h2 e (.ref C) args)(hE:E (.ref C) aj H1) :
  (wQ (CX2 P w) P w K mg base N qual scope f cd A outer s H E).xe (.ref e) {s1 with heap:=h2}:=
 let ⟨_,ht,_,_⟩:=hx.there
 Y6 I hx.keeps hx.new ht rfl hE
end
section
variable [KFrag]
end
structure Cn where
 c:ai
 p:ai
 d:ai
noncomputable def Cn.use(k:Cn)(u z:ai):Cn:=if u=0 then {k with d:=k.d+z} else {k with p:=k.p+(u-1)*z}
noncomputable def Cn.call(k:Cn):Cn:={k with c:=k.c+1}
noncomputable def prF(hd mk rl:ae (D×D))(m:ai)(k:Cn):ae (Str×D):=[("heads",.dct hd),("makers",.dct mk),("rules",.dct rl),("most",.int m),("calls",.int k.c),("copies",.int k.p),("drops",.int k.d)]
noncomputable def prV(h1 h2 h3:V)(m:ai)(k:Cn):ae (Str×V):=[("heads",h1),("makers",h2),("rules",h3),("most",.int m),("calls",.int k.c),("copies",.int k.p),("drops",.int k.d)]
def oN(ws:ae D):ae (D×D)->Cn->ar Cn
 |[],k=>aa k
 | (.str x,.tup [_,_,.int z])::r,k=>match X8 x ws with
  |some n=>if ϒ (n<1000000) then oN ws r (k.use n z) else aj
  |none=>aj
 |_::_,_=>aj
noncomputable def Y8:Res (ae D×ae (D×D)×Cn):=.err "Spent" [.exc "Spent" []]
def qgQ(d:D)(i:ah):D:=match d with|.tup l=>l.getD i .uD|_=>.uD
def qlQ(d:D):ae D:=match d with|.tup l=>l|_=>[]
def qcQ(m:ai)(k:Cn)(ws:ae D):Res D->Res (ae D×ae (D×D)×Cn)
 |.ok (.dct kn)=>(match oN ws kn k.call with
  |some k'=>if k'.c+k'.p+k'.d > m then Y8 else .ok (ws,kn,k')
  |none=>.bad)
 |_=>.bad
def qbQ(m:ai)(k:Cn)(xs more:ae D):Res D->Res (ae D×ae (D×D)×Cn)
 |.ok g=>@ite _ (g=.tup [qgQ g 0,qgQ g 1,.tup (qlQ (qgQ g 2)),.tup (qlQ (qgQ g 3))]) (Classical.propDecidable _) (if ϒ (xs.length+more.length<=1000)&&(ε xs&&(ε more&&ε (qlQ (qgQ g 3)))) then qcQ m k (qlQ (qgQ g 3)) (lR [.tup (qlQ (qgQ g 2)),.lst (xs++more)]) else .bad) .bad
 |_=>.bad
def aB2(rl:ae (D×D))(m:ai)(k:Cn)(tk:D):ae D->Res (ae D×ae (D×D)×Cn)
 |p::more=>@ite _ (p=.tup [qgQ p 0,.tup (qlQ (qgQ p 1)),qgQ p 2]) (Classical.propDecidable _) (qbQ m k (qlQ (qgQ p 1)) more (getD (.dct rl) (.tup [tk,qgQ p 0]))) .bad
 |_=>.bad
section
variable [KFrag]
def aNw(S:al->Prop)(H H':Hp):Prop:=∀b o,H b=aa o->¬S b->H' b=aa o
inductive EL(H:Hp):ae (ar V)->ae D->Prop
 |nil {σ:ae (ar V)}:EL H σ []
 |skip {o:ar V} {σ:ae (ar V)} {ρ:ae D}:EL H σ ρ->EL H (o::σ) (.uD::ρ)
 |cons {v:V} {d:D} {σ:ae (ar V)} {ρ:ae D}:Rep All H v d->EL H σ ρ->EL H (aa v::σ) (d::ρ)
theorem EL.er:∀{σ:ae (ar V)}{ρ:ae D},EL H σ ρ->ER H σ ρ
 |_,_,.nil=>λi hi=>bd 0x2 hi
 |_,_,.skip t=>λi hi=>match i,hi with
  |0,hi=>bd rfl hi
  |i+1,hi=>EL.er t i hi
 |_,_,.cons r t=>λi hi=>match i,hi with
  |0,_=>⟨_,rfl,r⟩
  |i+1,hi=>EL.er t i hi
theorem aP4{K:bi}{mg:Str->ar am}{base:bc}{x qual:Str}{st:bz}{f:al}{fd:dm}{N ps:ae Str}{k:ah}{sp:Sp}(F:Fun K x qual st f fd)(S:bZ N ps (aN st))(len:∀vs H Q E,sp vs H Q E->vs.length=ps.length)
 (hbody:∀(cdv:am) (A:cf) (outer:ae cS) (s:au) (H:Hp) (vs:ae V) (Q:VK) (E:XK),lH k (A.deeper (eR qual (aN st) s.heap.objs.size f cdv))->sp vs H Q E->
   ∃t,PSs (wQ (CX2 P w) P w K mg base N qual (aN st) f cdv A outer s H E) (dR st) t/\t {nx:=λ_ H'=>Q .non H',rt:=Q} (start N vs) H):lJ P w K mg base (CX2 P w) (k+1) f fd ps sp:=by
 obtain⟨oc,od,kV,doc,pm,an,cdv,ct,osl,rfl,lk,hcd⟩:=F.ex;exact aFt lk hcd S len λA outer s H vs Q E hr hsp=>hbody cdv A outer s H vs Q E hr hsp
def aQo(t:TS):TS:=λD σ H=>∃ad u0,H ad=aa u0/\JB u0=ag/\t {D with nx:=λσ' H'=>∃o u,H' ad=aa (.frz o u)/\D.nx σ' (upd H' ad u)} σ H
theorem aLa{st:bz}(h:PS X st t):PS X st (aQo t):=by
 intro Ψ s σ H D I ⟨ad,u0,h1,h2,h3⟩;have hn:∀o u,X.H₀ ad≠aa (.frz o u):=λo u z=>by
  have:=I.base.frzs ad o u z;rw[h1] at this;cases this;cases h2
 refine fR (h Ψ s σ H _ I h3) (λf s' q=>?_) λ_ _ z=>z
 cases f with
 |next=>
  obtain⟨σ',H',I',o,u,e,q⟩:=q;exact⟨σ',_,aC4 I' e hn,q⟩
 |brk=>exact q
 |cont=>exact q
 |ret v=>exact q
section
variable {K:bi} {C CF CS:al} {l:ae (Str×Srx)}
def tCU(K:bi):TS:=aIz (tB (aO4 (gB 1) (tC (.int 0))))
 (aJ0 K (gB 0) (aIy (LK K (gB 0) "drops") (gB 2)) "drops")
 (aJ0 K (gB 0) (aIy (LK K (gB 0) "copies") (aQd (aO2 (gB 1) (tC (.int 1))) (gB 2))) "copies")
def aJ5(C:al):Sp:=λvs H Q _=>∃(a dx:al)(h1 h2 h3:V)(m:ai)(k:Cn)(u z:ai),vs=[.ref a,.int u,.int z]/\H a=aa (.ins C dx (prV h1 h2 h3 m k))/\(-(2 ^ 64)<u-1/\u-1<2 ^ 64)/\Q .non (upd H a (.ins C dx (prV h1 h2 h3 m (k.use u z))))
theorem Y9:rM "drops" (.int y) (prV h1 h2 h3 m k)=prV h1 h2 h3 m {k with d:=y}:=rfl
theorem S9:rM "copies" (.int y) (prV h1 h2 h3 m k)=prV h1 h2 h3 m {k with p:=y}:=rfl
theorem Y_:rM "calls" (.int y) (prV h1 h2 h3 m k)=prV h1 h2 h3 m {k with c:=y}:=rfl
theorem aHa(hN:N.length=3)(cl:Cls K C)(n1:cG K C "drops")(n2:cG K C "copies"){E:XK}(h:aJ5 C vs H Q E):tCU K {nx:=λ_ H'=>Q .non H',rt:=Q} (L2.start N vs) H:=by
 obtain⟨a,dx,h1,h2,h3,m,k,u,z,rfl,ha,hu,q⟩:=h;have hst:L2.start N [V.ref a,.int u,.int z]=[aa (.ref a),aa (.int u),aa (.int z)]:=by
  unfold L2.start;rw[hN];rfl
 rw[hst];refine⟨.int u,rfl,u,0,rfl,rfl,_,rfl,?_⟩;dsimp only;by_cases hz:u=0
 ·rw[aq (bt hz)];unfold Cn.use at q;rw[aq hz] at q;refine⟨.ref a,rfl,a,C,dx,_,.int k.d,rfl,ha,cl,n1,rfl,.int z,rfl,k.d,z,rfl,rfl,.ref a,rfl,a,C,dx,_,rfl,ha,cl,n1,by show 7<1000;decide,?_⟩;rw[Y9];exact q
 ·rw[aw (by simp[hz])];unfold Cn.use at q;rw[aw hz] at q;refine⟨.ref a,rfl,a,C,dx,_,.int k.p,rfl,ha,cl,n2,rfl,.int u,rfl,u,1,rfl,rfl,.int z,rfl,u-1,z,rfl,rfl,hu,k.p,(u-1)*z,rfl,rfl,.ref a,rfl,a,C,dx,_,rfl,ha,cl,n2,by show 7<1000;decide,?_⟩;rw[S9];exact q
def FrA(CF:al)(H:Hp)(fr:al)(ws:ae D)(i:ah)(kn:ae (D×D)):Prop:=∃dx w1 w3,H fr=aa (.ins CF dx [("words",w1),("left",.int i),("known",w3)])/\Rep All H w1 (.tup ws)/\Rep All H w3 (.dct kn)
def aRw(CF CS:al)(a:al)(hd mk rl:ae (D×D))(m:ai)(H:Hp)(Q:VK)(E:XK):Res (ae D×ae (D×D)×Cn)->Prop
 |.ok (ws,kn,k')=>∀H' x,H x=aj->mL a H H'->Rep All H' (.ref a) (.ins "PlainRun" (prF hd mk rl m k'))->FrA CF H' x ws ws.length kn->Q (.ref x) H'
 |.err _ _=>∀H',mL a H H'->E (.ref CS) aj H'
 |.bad=>cg
def okR(hd mk rl:ae (D×D)):Prop:=ε (hd.map (·.2))=ag/\ε (mk.map (·.2))=ag/\ε (rl.map (·.2))=ag
def ZC(CF CS:al):Sp:=λvs H Q E=>∃a vt vp hd mk rl m k tk ps,vs=[.ref a,vt,vp]/\okR hd mk rl/\tk.pure=ag/\ε ps=ag/\Rep All H (.ref a) (.ins "PlainRun" (prF hd mk rl m k))/\Rep All H vt tk/\Rep All H vp (.lst ps)/\aRw CF CS a hd mk rl m H Q E (aB2 rl m k tk ps)
def cf1:FE:=b2 getD gF fD
def cf2:FE:=b2 getD (aCk "PlainRun" "rules" nO) (jB (aF iT (aF (b2 getD e_ fD) aY)))
def cf3:FE:=bD lR (aF (b2 getD iI iU) (aF (b2 (bG .add) (bD aBn (aF (b2 getD e_ c7) aY)) (oK gF (fZ c7) gR)) aY))
def aP5:FE:=bM CN (b2 getD iI jH) (aF nQ aY)
def aP6:FE:=b2 getD nY iU
def cf7:FE:=b2 getD iI jH
def aRx(i:ah):TI:=λσ H R=>∃a kvs u,σ[i]?=aa (aa (.ref a))/\DV H a kvs/\H a=aa u/\∀o H1,bU H H1->R (Iti a o u kvs) (upd H1 a (.frz o u))
def aQp(K:bi)(C CS:al)(l:ae (Str×Srx))(E:XK):TS:=
 u5 (wN (gE cf1 ak) (fO 3)) (u5 (wN (gE cf2 ak) (fO 4)) (u5 (wN (gE cf3 ag) (fO 5))
  (u5 (aJ0 K (gB 0) (aIy (LK K (gB 0) "calls") (tC (.int 1))) "calls")
   (u5 (aQo (aQe (aRx 5) (aNi K 2 (Q9 (fO 6) (Q9 (fO 7) aNh))) (wK (RN C "count_uses" (aJ5 C) [] E0 (gB 0) (dO (gE aP5 ag) (dO (gE aP6 ak) tK))))))
    (u5 (aIz (tB (tGt (aIy (aIy (LK K (gB 0) "calls") (LK K (gB 0) "copies")) (LK K (gB 0) "drops")) (LK K (gB 0) "most"))) (λ_ _ H=>E (.ref CS) aj H) aFi)
     (aJj (tMk K "Frame" l 2 (dO (gE cf7 ak) (dO (gB 5) tK)))))))))
theorem aLb:cf1 [.uD,.uD,.lst (d::ps)]=.ok d:=by
 show ο ((ixD (ps.length+1) 0).bind λj=>(d::ps)[j]?)=_;unfold ixD;rw[aq 0x1,aq 0x1];rfl
theorem aRy:getD (.tup (a::r)) (.int 0)=.ok a:=by
 show ο ((ixD (r.length+1) 0).bind λj=>(a::r)[j]?)=_;unfold ixD;rw[aq 0x1,aq 0x1];rfl
theorem ZD{d:D}(h:d.pure=ag):d≠.uD:=λz=>by subst z;cases h
theorem bV(h:ρ.getD i .uD=d)(hn:d≠.uD):b8 i ρ=.ok d:=by
 unfold b8;rw[h];cases d<;>first|rfl|exact bd rfl hn
theorem aLc(ht:tk.pure=ag)(h:getD (.dct rl) (.tup [tk,w0])=.ok d):cf2 [.ins "PlainRun" (prF hd mk rl m k),tk,u,.tup (w0::r)]=.ok d:=by
 have e1:aCk "PlainRun" "rules" nO [.ins "PlainRun" (prF hd mk rl m k),tk,u,.tup (w0::r)]=.ok (.dct rl):=rfl;have e2:b2 getD e_ fD [.ins "PlainRun" (prF hd mk rl m k),tk,u,.tup (w0::r)]=.ok w0:=aRy;have e3:b8 1 [.ins "PlainRun" (prF hd mk rl m k),tk,u,.tup (w0::r)]=.ok tk:=bV rfl (ZD ht);exact aJ e1 (eF (aC e3 (aC e2 rfl)) (by show 2<=lim;rw[aZ];lia)) h
theorem aLd{w0 z0 r0 r1 d:D}(hl:xs.length+more.length<=1000)(hx:ε xs=ag)(hm:ε more=ag)(hp0:(ν [w0,.tup xs,z0]).pure=ag)(h:lR [.tup own,.lst (xs++more)]=.ok d):cf3 [a,b,.lst (.tup [w0,.tup xs,z0]::more),.tup [w0,.tup xs,z0],.tup (r0::r1::.tup own::r)]=.ok d:=by
 generalize hρ:[a,b,.lst (.tup [w0,.tup xs,z0]::more),.tup [w0,.tup xs,z0],.tup (r0::r1::.tup own::r)]=ρ;have e1:b2 getD iI iU ρ=.ok (.tup own):=by
  subst hρ;show ο ((ixD (r.length+1+1+1) 2).bind λj=>(r0::r1::.tup own::r)[j]?)=_;unfold ixD;rw[aq 0x1,aq 0x1];rfl
 have e2:b2 getD e_ c7 ρ=.ok (.tup xs):=by subst hρ;rfl
 have e3:bD aBn (aF (b2 getD e_ c7) aY) ρ=.ok (.lst xs):=bA (aC e2 rfl) (by
  show(if ε xs=ag then τ (ψ xs) else .bad)=_;rw[aq hx])
 have e4:oK gF (fZ c7) gR ρ=.ok (.lst more):=by
  subst hρ;show(if ε (.tup [w0,.tup xs,z0]::more)=ag then τ (ψ (cutD (.tup [w0,.tup xs,z0]::more) (aa 1) aj)) else .bad)=_;rw[aq (by rw[ε,hp0,hm];rfl)];have:cutD (ν [w0,.tup xs,z0]::more) (aa 1) aj=more:=by
   show((ν [w0,.tup xs,z0]::more).drop ((min (1:ai) ((more.length+1:ah):ai)).toNat)).take ((more.length+1)-(min (1:ai) ((more.length+1:ah):ai)).toNat)=more;have:(min (1:ai) ((more.length+1:ah):ai)).toNat=1:=by lia
   rw[this,yq,qy,qz 0x1]
  rw[this]
 exact bA (aC e1 (aC (aJ e3 e4 (by
  show(if (ϒ (xs.length+more.length<=lim)&&ε xs&&ε more)=ag then τ (ψ (xs++more)) else .bad)=_;rw[aq (by rw[hx,hm,bt (by rw[aZ];lia)];rfl)])) rfl)) h
theorem aHb{r0 r1 r2:D}(h:X8 x ws=aa n):aP5 [a,b,c,d,.tup [r0,r1,r2,.tup ws],e,.str x,g]=.ok (.int n):=by
 show(match X8 x ws with|some n=>τ (ι n)|none=>.bad)=_;rw[h]
theorem aHc{r0 r1:D}:aP6 [a,b,c,d,e,f,g,.tup [r0,r1,.int z]]=.ok (.int z):=rfl
theorem aLe{r0 r1 r2:D}:cf7 [a,b,c,d,.tup [r0,r1,r2,.tup ws]]=.ok (.tup ws):=rfl
theorem yE(h:aB2 rl m k tk ps=res)(hne:res≠.bad):∃w0 xs z0 more r0 r1 own ws kn k',ps=.tup [w0,.tup xs,z0]::more/\getD (.dct rl) (.tup [tk,w0])=.ok (.tup [r0,r1,.tup own,.tup ws])/\xs.length+more.length<=1000/\ε xs=ag/\ε more=ag/\ε ws=ag/\lR [.tup own,.lst (xs++more)]=.ok (.dct kn)/\oN ws kn k.call=aa k'/\res=if k'.c+k'.p+k'.d > m then Y8 else .ok (ws,kn,k'):=by
 rcases ps with _|⟨p,more⟩
 ·exact bd h.symm hne
 dsimp only[aB2] at h;split at h
 ·rename_i e1;generalize hg:getD (.dct rl) (.tup [tk,qgQ p 0])=g at h;cases g with
  |ok g=>
   dsimp only[qbQ] at h;split at h
   ·rename_i e2;split at h
    ·rename_i hb;simp only[aS,cv] at hb;generalize hz:lR [.tup (qlQ (qgQ g 2)),.lst (qlQ (qgQ p 1)++more)]=z at h
     obtain⟨kn,rfl⟩:∃kn,z=.ok (.dct kn):=by
      cases z with
      |ok d=>
       cases d with
       |dct kn=>exact⟨kn,rfl⟩
       |_=>exact bd h.symm hne
      |_=>exact bd h.symm hne
     dsimp only[qcQ] at h;split at h
     ·rename_i k' hu;exact⟨_,_,_,_,_,_,_,_,kn,k',congrArg (·::more) e1,hg.trans (congrArg _ e2),hb.1,hb.2.1,hb.2.2.1,hb.2.2.2,hz,hu,h.symm⟩
     ·exact bd h.symm hne
    ·exact bd h.symm hne
   ·exact bd h.symm hne
  |_=>exact bd h.symm hne
 ·exact bd h.symm hne
theorem DR(h:oN ws (p::r) k=aa k'):∃x w y z n,p=(.str x,.tup [w,y,.int z])/\X8 x ws=aa n/\n<1000000/\oN ws r (k.use n z)=aa k':=by
 obtain⟨a,b⟩:=p;have key:∀a b,oN ws ((a,b)::r) k=aa k'->∃x w y z,a=.str x/\b=.tup [w,y,.int z]:=by
  intro a b h;cases a with
  |str x=>
   cases b with
   |tup l=>
    rcases l with _|⟨w,_|⟨y,_|⟨q,_|_⟩⟩⟩
    ·cases h
    ·cases h
    ·cases h
    ·cases q with
     |int z=>exact⟨x,w,y,z,rfl,rfl⟩
     |_=>cases h
    ·cases q<;>cases h
   |_=>cases h
  |_=>cases h
 obtain⟨x,w,y,z,rfl,rfl⟩:=key a b h;have h:(match X8 x ws with|some n=>if ϒ (n<1000000) then oN ws r (k.use n z) else aj|none=>aj)=aa k':=h;split at h
 ·rename_i n hn;split at h
  ·rename_i hb;exact⟨x,w,y,z,n,rfl,hn,eg hb,h⟩
  ·cases h
 ·cases h
theorem PQ:∀{kn:ae (D×D)}{k k':Cn},oN ws kn k=aa k'->kn.all (λp=>!isTup p.1)=ag
 |[],_,_,_=>rfl
 |p::r,_,_,h=>by
  obtain⟨x,w,y,z,n,rfl,_,_,h⟩:=DR h;rw[ig,PQ h];rfl
theorem fV.at_:∀{kvs:ae (Key×V)}{ds:ae (D×D)}{i:ah}{p:Key×V},fV P H kvs ds->kvs[i]?=aa p->∃d,ds[i]?=aa (kD p.1,d)/\Rep P H p.2 d
 |_,_,_,_,.nil,h=>by simp at h
 |_,_,0,_,.cons r t,h=>by simp at h;subst h;exact⟨_,rfl,r⟩
 |_,_,i+1,p,.cons r t,h=>by
  obtain⟨d,h1,h2⟩:=fV.at_ t (by simpa using h);exact⟨d,by simpa using h1,h2⟩
theorem fV.len:∀{kvs:ae (Key×V)}{ds:ae (D×D)},fV P H kvs ds->kvs.length=ds.length
 |_,_,.nil=>rfl
 |_,_,.cons r t=>by rw[bp,bp,fV.len t]
theorem aLf(r:Rep P H v (.dct kn))(hb:kn.all (λp=>!isTup p.1)=ag):∃kd kvs u,v=.ref kd/\P kd/\DV H kd kvs/\H kd=aa u/\JB u=ag/\fV P H kvs kn/\(kvs.map (·.1)).Nodup:=by
 cases r with
 |dK e p rk n=>exact⟨_,_,_,rfl,p,.inl e,e,rfl,rk,n⟩
 |dT e p rt n=>
  cases rt with
  |nil=>exact⟨_,[],_,rfl,p,.inr ⟨rfl,e⟩,e,rfl,.nil,by simp⟩
  |cons r t=>simp[isTup] at hb
theorem DV.rep(h:DV H kd kvs)(p:P kd)(r:fV P H kvs kn)(n:(kvs.map (·.1)).Nodup):Rep P H (.ref kd) (.dct kn):=by
 rcases h with h|⟨rfl,h⟩
 ·exact .dK h p r n
 ·cases r;exact .dT h p .nil 0x2
theorem PX(h:lR [.tup own,.lst ys]=.ok (.dct kn)):ε (kn.map (·.2))=ag:=by
 have h:(if ϒ (own.length<=1000)&&ϒ (ys.length=own.length)&&own.all gD&&ε ys then τ (D.dct (mV own ys [])) else .bad)=.ok (.dct kn):=h;split at h
 ·rename_i hb;cases h;simp only[aS,cv] at hb;have go:∀(a b:ae D)(m:ae (D×D)),ε b=ag->ε (m.map (·.2))=ag->ε ((mV a b m).map (·.2))=ag:=by
   intro a;induction a with
   |nil=>intro b m _ hm;cases b<;>exact hm
   |cons x a ih=>
    intro b m hb hm;cases b with
    |nil=>exact hm
    |cons y b=>
     rw[ε,aS] at hb;exact ih b _ hb.2 (kJ hb.1 hm)
  exact go _ _ [] hb.2 rfl
 ·exact bx h
theorem yF(h:ε (kn.map (·.2))=ag):okF (.dct kn)=ag:=by
 unfold okF;rw[show inner (.dct kn)=ε (kn.map (·.2)) from rfl,h];simp
theorem yG:∀{rl:ae (D×D)},ε (rl.map (·.2))=ag->cN rl q=aa d->d.pure=ag
 |[],_,z=>by cases z
 | (p1,p2)::r,hp,z=>by
  rw[aI,ε,aS] at hp;rw[cN] at z;split at z
  ·cases z;exact hp.1
  ·exact yG hp.2 z
theorem ZF(h:ε (rl.map (·.2))=ag)(hg:getD (.dct rl) q=.ok d):d.pure=ag:=by
 have e:getD (.dct rl) q=if keyOk q then ο (cN rl q) else .bad:=by cases q<;>rfl
 rw[e] at hg;split at hg
 ·cases hl:cN rl q with
  |none=>rw[hl] at hg;exact bx hg
  |some y=>
   rw[hl] at hg;cases hg;exact yG h hl
 ·exact bx hg
theorem lU(hK:KFrag.K=K)(hC:nsIn K bE "PlainRun"=aa (aa (.ref C)))(r:Rep All H (.ref a) (.ins "PlainRun" (prF hd mk rl m k))):∃dx h1 h2 h3,H a=aa (.ins C dx (prV h1 h2 h3 m k))/\Rep All H h1 (.dct hd)/\Rep All H h2 (.dct mk)/\Rep All H h3 (.dct rl):=by
 cases r with
 |ins hn hx rf=>
 rw[hK,hC] at hn;cases hn;cases rf with
 |cons r1 rf=>
 cases rf with
 |cons r2 rf=>
 cases rf with
 |cons r3 rf=>
 cases rf with
 |cons r4 rf=>
 cases rf with
 |cons r5 rf=>
 cases rf with
 |cons r6 rf=>
 cases rf with
 |cons r7 rf=>
 cases rf;cases r4.inv;cases r5.inv;cases r6.inv;cases r7.inv;exact⟨_,_,_,_,hx,r1,r2,r3⟩
theorem uP(hK:KFrag.K=K)(hC:nsIn K bE "PlainRun"=aa (aa (.ref C)))(hx:H a=aa (.ins C dx (prV h1 h2 h3 m k)))(r1:Rep P H h1 (.dct hd))(r2:Rep P H h2 (.dct mk))(r3:Rep P H h3 (.dct rl)):Rep P H (.ref a) (.ins "PlainRun" (prF hd mk rl m k)):=
 .ins (by rw[hK];exact hC) hx (.cons r1 (.cons r2 (.cons r3 (.cons (.int _) (.cons (.int _) (.cons (.int _) (.cons (.int _) .nil)))))))
theorem aCr{ws:ae D}{r0 r1 r2:D}{kn:ae (D×D)}{kvs:ae (Key×V)}{o:bn}{u:HO}{Hf:Hp}{D':Ends}{o6 o7:ar V}(cl:Cls K C)
 (ha:Hf a=aa (.ins C dx (prV h1 h2 h3 m k)))(hkd:Hf kd=aa (.frz o u))(hr:Rep All Hf v4 (.tup [r0,r1,r2,.tup ws]))(pr:(ν [r0,r1,r2,.tup ws]).pure=ag)(rk:fV All Hf kvs kn)(pk:ε (kn.map (·.2))=ag)(hu:oN ws kn k=aa k')
 (q:∀o6 o7 H',mL a Hf H'->H' a=aa (.ins C dx (prV h1 h2 h3 m k'))->D'.nx [aa (.ref a),aa vt,aa vp,aa v3,aa v4,aa (.ref kd),o6,o7] H') :
  ∃W:ah->ah->L2.St->Hp->Prop,(∃n,W 0 n [aa (.ref a),aa vt,aa vp,aa v3,aa v4,aa (.ref kd),o6,o7] Hf)/\∀i n σ H,W i n σ H->
   ((Iti kd o u kvs).stop i H/\D'.nx σ H)\/((Iti kd o u kvs).go i H/\∃N:L2.St->Hp->Prop,(∀σ' H',N σ' H'->∃n',n'<n/\W (i+1) n' σ' H')/\∀x H',(Iti kd o u kvs).yld i H x H'->aNi K 2 (Q9 (fO 6) (Q9 (fO 7) aNh)) x σ H' λσ2 H2=>wK (RN C "count_uses" (aJ5 C) [] E0 (gB 0) (dO (gE aP5 ag) (dO (gE aP6 ak) tK))) {D' with nx:=N,ct:=N,bk:=D'.nx} σ2 H2):=by
 have nka:kd≠a:=nJ hkd ha 0x7;refine⟨λi n σ H=>n=kvs.length-i/\i<=kvs.length/\(∃o6 o7,σ=[aa (.ref a),aa vt,aa vp,aa v3,aa v4,aa (.ref kd),o6,o7])/\mL a Hf H/\∃ki,H a=aa (.ins C dx (prV h1 h2 h3 m ki))/\oN ws (kn.drop i) ki=aa k',⟨kvs.length,rfl,d6 _,⟨_,_,rfl⟩,λ_ _ e _=>e,k,ha,hu⟩,?_⟩;rintro i n σ H ⟨rfl,hi,⟨o6,o7,rfl⟩,b,ki,hai,hui⟩;have lk:=rk.len;rcases mr i kvs.length with hlt|hge
 ·refine .inr ?_;have e:kvs[i]?=aa kvs[i]:=dj hlt;obtain⟨d,e2,rd⟩:=rk.at_ e;obtain⟨hlt2,e3⟩:=dE.mp e2;rw[kl hlt2,e3] at hui;obtain⟨x,w,y,z,c,ep,hc,hc2,hui2⟩:=DR hui;have ek:kD kvs[i].1=.str x:=cy (·.1) ep;have ed:d=.tup [w,y,.int z]:=cy (·.2) ep;subst ed;have pd:(ν [w,y,.int z]).pure=ag:=cQ.mp pk _ (ck.mpr ⟨_,jI e2,rfl⟩);have ekV:kV kvs[i].1=.str x:=by
   generalize kvs[i].1=key at ek;cases key with
   |inl j=>cases ek
   |inr t=>cases ek;rfl
  refine⟨⟨b _ _ hkd nka,_,e⟩,λσ' H'=>(∃o6 o7,σ'=[aa (.ref a),aa vt,aa vp,aa v3,aa v4,aa (.ref kd),o6,o7])/\mL a Hf H'/\∃ki,H' a=aa (.ins C dx (prV h1 h2 h3 m ki))/\oN ws (kn.drop (i+1)) ki=aa k',λσ' H' ⟨n1,n2⟩=>⟨kvs.length-(i+1),by lia,rfl,hlt,n1,n2⟩,λx' H2 hy=>?_⟩;obtain⟨bb,p,hp,rfl,hb,rfl⟩:=hy;rw[e] at hp;cases hp;have sm:bU H (upd H bb (.tup [kV kvs[i].1,kvs[i].2])):=bU.upd hb;have us:sG Hf (upd H bb (.tup [kV kvs[i].1,kvs[i].2])):=λc oc ec uc=>sm _ _ (b c oc ec λz=>by
   subst z;rw[ha] at ec;cases ec;cases uc)
  refine⟨bb,[kV kvs[i].1,kvs[i].2],rfl,.inl (.of aK),rfl,_,_,rfl,_,_,rfl,rfl,?_⟩;show wK _ _ [aa (.ref a),aa vt,aa vp,aa v3,aa v4,aa (.ref kd),aa (kV kvs[i].1),aa kvs[i].2] _;rw[ekV];have hr2:=hr.fX (P':=All) us pr;have rd2:=rd.fX (P':=All) us pd;rw[ekV] at sm hr2 rd2;refine⟨.ref a,rfl,a,dx,_,rfl,sm _ _ hai,rfl,[.uD,.uD,.uD,.uD,.tup [r0,r1,r2,.tup ws],.uD,.str x,.uD],.int c,(EL.skip (.skip (.skip (.skip (.cons hr2 (.skip (.cons (.str x) (.skip .nil)))))))).er,aHb hc,λv8 H3 s3 r8 _=>?_⟩;refine⟨[.uD,.uD,.uD,.uD,.uD,.uD,.uD,.tup [w,y,.int z]],.int z,(EL.skip (.skip (.skip (.skip (.skip (.skip (.skip (.cons (rd2.same s3) .nil)))))))).er,aHc,λv9 H4 s4 r9 _=>?_⟩;cases r8.inv;cases r9.inv;have ha4:=s4 _ _ (s3 _ _ (sm _ _ hai));refine⟨a,dx,h1,h2,h3,m,ki,c,z,rfl,ha4,⟨by lia,by lia⟩,⟨_,_,rfl⟩,λc' oc ec nc=>?_,_,aK,hui2⟩;rw[aP nc];exact s4 _ _ (s3 _ _ (sm _ _ (b c' oc ec nc)))
 ·refine .inl ⟨⟨b _ _ hkd nka,hge⟩,?_⟩;rw[jf 0x1] at hui;cases hui;exact q _ _ _ b hai
theorem aCs(hN:N.length=8)(hK:KFrag.K=K)(hC:nsIn K bE "PlainRun"=aa (aa (.ref C)))(hCF:nsIn K bE "Frame"=aa (aa (.ref CF)))(cl:Cls K C)(nc:cG K C "calls")(np:cG K C "copies")(nd:cG K C "drops")(nm:cG K C "most")
 (hl:∀ws kn,ε ws=ag->ε (kn.map (·.2))=ag->evS [.uD,.tup ws,.dct kn] l=.ok [("words",.tup ws),("left",.int ws.length),("known",.dct kn)]){Q:VK}{E:XK}(h:ZC CF CS vs H Q E):aQp K C CS l E {nx:=λ_ H'=>Q .non H',rt:=Q} (L2.start N vs) H:=by
 obtain⟨a,vt,vp,hd,mk,rl,m,k,tk,ps,rfl,⟨o1,o2,o3⟩,ptk,pps,ra,rt,rp,hc⟩:=h;have hst:L2.start N [V.ref a,vt,vp]=[aa (.ref a),aa vt,aa vp,aj,aj,aj,aj,aj]:=by
  unfold L2.start;rw[hN];rfl
 rw[hst];generalize hres:aB2 rl m k tk ps=res at hc;have hne:res≠.bad:=λz=>by subst z;exact hc
 obtain⟨w0,xs,z0,more,r0,r1,own,ws,kn,k',rfl,hg,hlen,px,pm,pw,hz,hu,rfl⟩:=yE hres hne;clear hres hne;rw[ε,aS] at pps;obtain⟨dx,h1,h2,h3,hsa,e1,e2,e3⟩:=lU hK hC ra;have prl:(ν [r0,r1,.tup own,.tup ws]).pure=ag:=by
  refine ZF o3 hg
 -- rows 1 to 3
 refine⟨[.uD,.uD,.lst (.tup [w0,.tup xs,z0]::more)],_,(EL.skip (.skip (.cons rp .nil))).er,aLb,λv3 Ha s1 rv3 _=>?_⟩;refine⟨[.ins "PlainRun" (prF hd mk rl m k),tk,.uD,.tup [w0,.tup xs,z0]],_,(EL.cons (ra.same s1) (.cons (rt.same s1) (.skip (.cons rv3 .nil)))).er,aLc ptk hg,λv4 Hb s2 rv4 _=>?_⟩;refine⟨[.uD,.uD,.lst (.tup [w0,.tup xs,z0]::more),.tup [w0,.tup xs,z0],.tup [r0,r1,.tup own,.tup ws]],_,(EL.skip (.skip (.cons (rp.same (s1.trans s2)) (.cons (rv3.same s2) (.cons rv4 .nil))))).er,aLd hlen px pm pps.1 hz,λv5 Hc s3 rv5 n5=>?_⟩;obtain⟨kd,kvs,u,rfl,fkd,hDV,hkd,hmu,rk,ndk⟩:=aLf (n5 rfl) (PQ hu);have pkn:=PX hz;have huk:∀o:bn,M4 (.frz o u)=ag/\M4 u=ag:=λo=>by
  rcases hDV with z|⟨_,z⟩<;>(rw[z] at hkd;cases hkd;exact⟨rfl,rfl⟩)
 have s13:=(s1.trans s2).trans s3;have hac:=s13 _ _ hsa
 -- row 4
 show u5 _ _ _ [aa (.ref a),aa vt,aa vp,aa v3,aa v4,aa (.ref kd),aj,aj] Hc;refine⟨.ref a,rfl,a,C,dx,_,.int k.c,rfl,hac,cl,nc,rfl,k.c,1,rfl,rfl,.ref a,rfl,a,C,dx,_,rfl,hac,cl,nc,by show 7<1000;decide,?_⟩;rw[Y_];have nka:kd≠a:=λz=>by
  subst z;rw[hac] at hkd;cases hkd;cases hmu
 have b4:mL a Hc (upd Hc a (.ins C dx (prV h1 h2 h3 m k.call))):=mL.upd;have had:upd Hc a (.ins C dx (prV h1 h2 h3 m k.call)) a=aa (.ins C dx (prV h1 h2 h3 m k.call)):=aK;show u5 _ _ _ [aa (.ref a),aa vt,aa vp,aa v3,aa v4,aa (.ref kd),aj,aj] (upd Hc a (.ins C dx (prV h1 h2 h3 m k.call)));generalize upd Hc a (.ins C dx (prV h1 h2 h3 m k.call))=Hd at b4 had;have hkd4:=b4 _ _ hkd nka;have hDV4:DV Hd kd kvs:=by
  rcases hDV with z|⟨z0,z⟩
  ·exact .inl (b4 _ _ z nka)
  ·exact .inr ⟨z0,b4 _ _ z nka⟩
 -- row 5
 refine⟨kd,u,hkd4,hmu,kd,kvs,u,rfl,hDV4,hkd4,λo He s5=>?_⟩;have hke:=s5 _ _ hkd4;have hae:=s5 _ _ had;have noT:∀ob,He kd=aa ob->M4 ob=ag:=λob z=>by
  rw[hke] at z;cases z;exact(huk o).2
 have toF:∀{v:V}{d:D},Rep All Hc v d->d.pure=ag->Rep All (upd He kd (.frz o u)) v d:=λr p=>xT noT ((r.fX (b4.use hac) p).same s5) p
 have rkF:fV All (upd He kd (.frz o u)) kvs kn:=by
  have go:∀{kvs:ae (Key×V)}{ds:ae (D×D)},fV (New Hb) Hc kvs ds->ε (ds.map (·.2))=ag->fV All (upd He kd (.frz o u)) kvs ds:=by
   intro kvs ds r;induction kvs generalizing ds with
   |nil=>cases r;intro _;exact .nil
   |cons p kvs ih=>cases r with
    |cons r t=>
     intro h;rw[aI,ε,aS] at h;exact .cons (toF r.all h.1) (ih t h.2)
  exact go rk pkn
 refine aCr cl (by rw[aP (Ne.symm nka)];exact hae) aK (toF (rv4.same s3) prl) prl rkF pkn hu λo6 o7 Hg bg hag=>⟨o,u,bg _ _ aK nka,?_⟩
 have hag2:upd Hg kd u a=aa (.ins C dx (prV h1 h2 h3 m k')):=by rw[aP (Ne.symm nka)];exact hag
 -- from the beginning on
 have ball:mL a H (upd Hg kd u):=λc oc ec nca=>by
  have c3:=s13 _ _ ec;have nck:c≠kd:=λz=>by
   subst z;have:=(s1.trans s2) _ _ ec;rw[show Hb c=aj from fkd] at this;cases this
  rw[aP nck];refine bg _ _ ?_ nca;rw[aP nck];exact s5 _ _ (b4 _ _ c3 nca)
 have noT2:∀ob,Hg kd=aa ob->M4 ob=ag:=λob z=>by
  rw[bg _ _ aK nka] at z;cases z;exact(huk o).1
 have useG:sG (upd He kd (.frz o u)) Hg:=λc oc ec uc=>bg c oc ec λz=>by
  subst z;rw[aP (Ne.symm nka),hae] at ec;cases ec;cases uc
 have toG:∀{v:V}{d:D},Rep All Hc v d->d.pure=ag->Rep All (upd Hg kd u) v d:=λr p=>xT noT2 ((toF r p).fX useG p) p
 have hkg:upd Hg kd u kd=aa u:=aK;have hDVg:DV (upd Hg kd u) kd kvs:=by
  rcases hDV with z|⟨z0,z⟩
  ·rw[z] at hkd;cases hkd;exact .inl hkg
  ·rw[z] at hkd;cases hkd;exact .inr ⟨z0,hkg⟩
 have rkG:fV All (upd Hg kd u) kvs kn:=by
  have go:∀{kvs:ae (Key×V)}{ds:ae (D×D)},fV (New Hb) Hc kvs ds->ε (ds.map (·.2))=ag->fV All (upd Hg kd u) kvs ds:=by
   intro kvs ds r;induction kvs generalizing ds with
   |nil=>cases r;intro _;exact .nil
   |cons p kvs ih=>cases r with
    |cons r t=>
     intro h;rw[aI,ε,aS] at h;exact .cons (toG r.all h.1) (ih t h.2)
  exact go rk pkn
 have rv4g:=toG (rv4.same s3) prl;have self4:∀H2,bU (upd Hg kd u) H2->Rep All H2 (.ref a) (.ins "PlainRun" (prF hd mk rl m k')):=λH2 sm=>by
  have t1:mL a H H2:=λc oc ec nca=>sm _ _ (ball c oc ec nca)
  exact uP hK hC (sm _ _ hag2) (e1.okK t1 hsa (λ_ h=>h) (yF o1)) (e2.okK t1 hsa (λ_ h=>h) (yF o2)) (e3.okK t1 hsa (λ_ h=>h) (yF o3))
 generalize upd Hg kd u=Hh at hag2 ball hDVg rkG rv4g self4 hkg
 -- row 6
 show u5 _ _ _ [aa (.ref a),aa vt,aa vp,aa v3,aa v4,aa (.ref kd),o6,o7] Hh;refine⟨.ref a,rfl,a,C,dx,_,.int k'.c,rfl,hag2,cl,nc,rfl,.ref a,rfl,a,C,dx,_,.int k'.p,rfl,hag2,cl,np,rfl,k'.c,k'.p,rfl,rfl,.ref a,rfl,a,C,dx,_,.int k'.d,rfl,hag2,cl,nd,rfl,k'.c+k'.p,k'.d,rfl,rfl,.ref a,rfl,a,C,dx,_,.int m,rfl,hag2,cl,nm,rfl,k'.c+k'.p+k'.d,m,rfl,rfl,_,rfl,?_⟩;dsimp only;by_cases hgt:k'.c+k'.p+k'.d > m
 ·rw[aq (by simpa using hgt)];rw[aq hgt] at hc;exact hc _ ball
 ·rw[aw (by simpa using hgt)];rw[aw hgt] at hc
  -- row 7
  show aJj (tMk K "Frame" l 2 (dO (gE cf7 ak) (dO (gB 5) tK))) {nx:=λ_ H'=>Q .non H',rt:=Q} [aa (.ref a),aa vt,aa vp,aa v3,aa v4,aa (.ref kd),o6,o7] Hh;refine⟨[.uD,.uD,.uD,.uD,.tup [r0,r1,.tup own,.tup ws]],.tup ws,(EL.skip (.skip (.skip (.skip (.cons rv4g .nil))))).er,aLe,λv10 Hi s10 r10 _=>⟨.ref kd,rfl,?_⟩⟩;have rkd:Rep All Hi (.ref kd) (.dct kn):=(hDVg.rep trivial rkG ndk).same s10;refine⟨[.tup ws,.dct kn],_,rfl,.cons r10 (.cons rkd .nil),hl ws kn pw pkn,λCF' x dxx Hj vf hn hx sj hxj rf=>?_⟩;rw[hCF] at hn;cases hn;have rfa:=rf All (λ_ _=>trivial) (.cons r10 (.cons rkd .nil));cases rfa with
  |cons q1 rfa=>
  cases rfa with
  |cons q2 rfa=>
  cases rfa with
  |cons q3 rfa=>
  cases rfa;cases q2.inv;refine hc Hj x ?_ (λc oc ec nca=>sj _ _ (s10 _ _ (ball c oc ec nca))) (self4 Hj (s10.trans sj)) ⟨_,_,_,hxj,q1,q3⟩;cases hq:H x with
  |none=>rfl
  |some oo=>
   by_cases hxa:x=a
   ·subst hxa;rw[s10 _ _ hag2] at hx;cases hx
   ·rw[s10 _ _ (ball _ _ hq hxa)] at hx;cases hx
end
end
noncomputable abbrev aCt:ai:=9000
noncomputable def aP7:D->ax
 |.str _=>ag
 |_=>ak
def tkN(hd:ae (D×D))(w:D):ar ah:=match getD (.dct hd) w with
 |.ok (.tup [_,.tup ks])=>if ε ks&&ϒ (ks.length<=1000) then aa ks.length else aj
 |_=>aj
def aCu:ae D->ar ai
 |[]=>aa 0
 |.tup [_,_,.int z]::r=>if ϒ (-aCt<=z)&&ϒ (z<=aCt) then (aCu r).map (z+·) else aj
 |_::_=>aj
def J4(hd mk rl:ae (D×D))(m:ai)(k:Cn)(kn:ae (D×D))(st:ae D)(w:D):Res (ae D×ar (ae D×ae (D×D))×Cn):=
  if aP7 w&&sJ kn w&&sJ mk w&&ϒ (st.length <= 100000) then (match cN kn w with
    |some v=>.ok (v::st,aj,k)
    |none=>match tkN hd w with
      |some n=>if n <= st.length then
          (if (cN mk w).isSome then (match aCu (st.take n) with|some z=>.ok (.tup [w,.tup (st.take n),.int (1+z)]::st.drop n,aj,k)|none=>.bad)
           else (match aB2 rl m k w (st.take n) with|.ok (ws,kn',k')=>.ok (st.drop n,aa (ws,kn'),k')|.err c as=>.err c as|.bad=>.bad))
        else .bad
      |none=>.bad)
  else .bad
def aQq:FT:=bTB (b2 inX e_ iI)
def tkg:FE:=b2 getD iI e_
def tki:FI:=bR (b2 getD (b2 getD (aCk "PlainRun" "heads" nO) e_) c7) ak
def aQr:FT:=bTB (b2 inX e_ (aCk "PlainRun" "makers" nO))
def tkv:FE:=jB (aF e_ (aF (bD fU (aF jA aY)) (aF (b2 (bG .add) c7 (bD uG (aF (d8 6 (bR jA ak) oG gG (b2 getD nQ iU) ak) aY))) aY)))
section
variable [KFrag]
theorem aHd(h:sJ kn (.str x)=ag):aQq [a,b,c,.str x,.dct kn]=.ok (cN kn (.str x)).isSome:=by
 show(do let y <- (if sJ kn (.str x) then τ (χ (cN kn (.str x)).isSome) else .bad);asB y)=_;rw[aq h];rfl
theorem aHe(h:sJ mk (.str x)=ag):aQr [.ins "PlainRun" (prF hd mk rl m k),b,c,.str x]=.ok (cN mk (.str x)).isSome:=by
 show(do let y <- (if sJ mk (.str x) then τ (χ (cN mk (.str x)).isSome) else .bad);asB y)=_;rw[aq h];rfl
theorem aLg(h:cN kn (.str x)=aa v):tkg [a,b,c,.str x,.dct kn]=.ok v:=by
 show(if keyOk (.str x)=ag then ο (cN kn (.str x)) else .bad)=_;rw[h];rfl
theorem aEk(h:tkN hd (.str x)=aa n):∃ks,ks.length=n/\n<=1000/\tki [.ins "PlainRun" (prF hd mk rl m k),b,c,.str x,e,f]=.ok (ks,ag):=by
 unfold tkN at h;split at h
 ·rename_i u ks hg;split at h
  ·rename_i hb;rw[aS,cv] at hb;cases h;refine⟨ks,rfl,hb.2,?_⟩;have e1:b2 getD (b2 getD (aCk "PlainRun" "heads" nO) e_) c7 [.ins "PlainRun" (prF hd mk rl m k),b,c,.str x,e,f]=.ok (.tup ks):=by
    have e0:b2 getD (aCk "PlainRun" "heads" nO) e_ [.ins "PlainRun" (prF hd mk rl m k),b,c,.str x,e,f]=.ok (.tup [u,.tup ks]):=hg;exact aJ e0 rfl rfl
   unfold tki bR;rw[e1];show τ (ks,ak||(ν ks).pure)=_;rw[ξ,hb.1];rfl
  ·cases h
 ·cases h
theorem aLh:∀(its ps acc:ae D),its.length=ps.length->ε ps=ag->xcf (DN 2) acc its [s,f,.cel b ((ps++vs).reverse),w,k,u]=.ok (acc++ps,[s,f,.cel b vs.reverse,w,k,u])
 |[],[],acc,_,_=>by
  show τ (acc,_)=_;rw[b5];rfl
 |i::its,p::ps,acc,hl,hp=>by
  rw[ε,aS] at hp;have e:((p::ps)++vs).reverse=(ps++vs).reverse++[p]:=by simp
  rw[e];have h1:DN 2 ([s,f,.cel b ((ps++vs).reverse++[p]),w,k,u]++[i])=.ok (p,[s,f,.cel b ((ps++vs).reverse),w,k,u,i]):=by
   show(match ((ps++vs).reverse++[p])[((ps++vs).reverse++[p]).length-1]? with|some x=>τ (x,[s,f,D.cel b ((ps++vs).reverse++[p]).dropLast,w,k,u,i])|none=>.bad)=_;rw[aT,dP,BY,fg (bq _),qS,yr];rfl
  show(do let q <- DN 2 ([s,f,.cel b ((ps++vs).reverse++[p]),w,k,u]++[i]);if q.1.pure then xcf (DN 2) (acc++[q.1]) its q.2.dropLast else .bad)=_;rw[h1,θ];rw[aq hp.1];have ih:=aLh (s:=s) (f:=f) (w:=w) (k:=k) (u:=u) (b:=b) (vs:=vs) its ps (acc++[p]) (by simpa using hl) hp.2;rw[b3] at ih;exact ih
theorem aLi{st:ae D}(h:tkN hd (.str x)=aa n)(hn:n<=st.length)(hp:ε st=ag):YG tki (DN 2) [.ins "PlainRun" (prF hd mk rl m k),f,.cel b st.reverse,.str x,e,u]=.ok (.lst (st.take n),[.ins "PlainRun" (prF hd mk rl m k),f,.cel b (st.drop n).reverse,.str x,e,u]):=by
 obtain⟨ks,hk,hb,he⟩:=aEk (hd:=hd) (mk:=mk) (rl:=rl) (m:=m) (k:=k) (b:=f) (c:=.cel b st.reverse) (e:=e) (f:=u) h;unfold YG;rw[he,θ];rw[aq (by rw[mw];exact bt (c_ (wj hk) (c_ hb 0x4)))];have hs:st=st.take n++st.drop n:=(qV n st).symm;have pt:ε (st.take n)=ag:=cQ.mpr λy hy=>cQ.mp hp y (xy hy)
 have:=aLh (s:=.ins "PlainRun" (prF hd mk rl m k)) (f:=f) (w:=.str x) (k:=e) (u:=u) (b:=b) (vs:=st.drop n) ks (st.take n) [] (by rw[hk,jz];lia) pt;rw[<-hs] at this;rw[this];rfl
theorem P_(hρ:ρ.length=6):∀{ps:ae D}{z:ai},aCu ps=aa z->∃ns:ae ai,ns.length=ps.length/\ns.sum=z/\(∀i∈ns,-aCt<=i/\i<=aCt)/\∀acc:ae D,oH (A_ 6 oG gG (b2 getD nQ iU) ak ρ) acc ps=.ok (acc++ns.map ι)
 |[],z,h=>by cases h;exact⟨[],rfl,rfl,(λi hi=>by cases hi),λacc=>by rw[iN,b5];rfl⟩
 |p::r,z,h=>by
  unfold aCu at h;split at h
  ·cases ‹_::_=[]›
  ·rename_i a b y r' e;cases e;split at h
   ·rename_i hb;rw[aS,cv,cv] at hb;obtain⟨z',h1,rfl⟩:=iO.mp h;obtain⟨ns,i1,i2,i3,i4⟩:=P_ hρ h1;refine⟨y::ns,by rw[bp,bp,i1],by rw[ji,i2],λi hi=>?_,λacc=>?_⟩
    ·rcases cj.mp hi with rfl|hi
     ·exact hb
     ·exact i3 i hi
    ·have e6:b8 6 (ρ++[ν [a,b,.int y]])=.ok (.tup [a,b,.int y]):=bV (by rw[b9,fg 0x1,hρ];rfl) 0x7;rw[oH,uC hρ rfl λ_=>⟨aJ e6 rfl rfl,rfl⟩];show oH _ (acc++[ι y]) _=_;rw[i4,b3];rfl
   ·cases h
  ·cases h
theorem QB:∀ns:ae ai,intsOf (ns.map ι)=aa ns
 |[]=>rfl
 |n::ns=>by
  show(intsOf (ns.map ι)).map (n::·)=_;rw[QB ns];rfl
theorem aLj(h:aCu ps=aa z)(hl:ps.length<=1000):tkv [a,b,c,.str x,e,.lst ps]=.ok (.tup [.str x,.tup ps,.int (1+z)]):=by
 obtain⟨ns,i1,i2,i3,i4⟩:=P_ (ρ:=[a,b,c,.str x,e,.lst ps]) rfl h;have e1:d8 6 (bR jA ak) oG gG (b2 getD nQ iU) ak [a,b,c,.str x,e,.lst ps]=.ok (.lst (ns.map ι)):=JT rfl (by rw[aZ];lia) (i4 []);have e2:uG [.lst (ns.map ι)]=.ok (.int z):=by
  show(match intsOf (ns.map ι) with|some ns=>if ns.all (λi=>ϒ (-aCt<=i)&&ϒ (i<=aCt))&&ϒ (ns.length<=100000) then τ (ι ns.sum) else .bad|none=>.bad)=_;rw[QB];dsimp only;rw[aq,i2];rw[aS,gq,cv];refine⟨λi hi=>?_,by lia⟩;rw[aS,cv,cv];exact i3 i hi
 exact eF (aC rfl (aC (bA (aC rfl rfl) (show fU [.lst ps]=.ok (.tup ps) from rfl)) (aC (aJ rfl (bA (aC e1 rfl) e2) rfl) rfl))) (by show 3<=lim;decide)
def kTk(CF CS:al)(a af av:al)(fl:ae V)(hd mk rl:ae (D×D))(m:ai)(H:Hp)(Q:VK)(E:XK):Res (ae D×ar (ae D×ae (D×D))×Cn)->Prop
 |.ok (st',aj,_)=>∀H' vs',mL av H H'->H' av=aa (.lst vs')->bJ All H' vs' st'.reverse->Q .non H'
 |.ok (st',aa (ws',kn'),k')=>∀H' vs' x,H x=aj->aNw (λb=>b=a\/b=af\/b=av) H H'->Rep All H' (.ref a) (.ins "PlainRun" (prF hd mk rl m k'))->H' af=aa (.lst (fl++[.ref x]))->FrA CF H' x ws' ws'.length kn'->H' av=aa (.lst vs')->bJ All H' vs' st'.reverse->Q .non H'
 |.err _ _=>∀H',aNw (λb=>b=a\/b=af\/b=av) H H'->E (.ref CS) aj H'
 |.bad=>cg
def aLk(CF CS:al):Sp:=λvs H Q E=>∃a af av vw hd mk rl m k kn st w fl fr ws i vs0,vs=[.ref a,.ref af,.ref av,vw]/\okR hd mk rl/\ε (kn.map (·.2))=ag/\ε st=ag/\Rep All H (.ref a) (.ins "PlainRun" (prF hd mk rl m k))/\H af=aa (.lst fl)/\fl.length<1000000/\atI fl (-1)=aa (.ref fr)/\FrA CF H fr ws i kn/\H av=aa (.lst vs0)/\bJ All H vs0 st.reverse/\af≠av/\Rep All H vw w/\kTk CF CS a af av fl hd mk rl m H Q E (J4 hd mk rl m k kn st w)
def aQs(K:bi)(C CF CS:al)(E:XK):TS:=aIz (gT aQr) (wK (tBM K "list" wW (gB 2) (dO (gE tkv ak) tK)))
 (wK (tBM K "list" wW (gB 1) (dO (RN C "called" (ZC CF CS) [] E (gB 0) (dO (gB 3) (dO (gB 5) tK))) tK)))
def aQt(K:bi)(C CF CS:al)(E:XK):TS:=aIz (gT aQq) (wK (tBM K "list" wW (gB 2) (dO (gE tkg ak) tK)))
 (u5 (wN (gX (own1 2) (YG tki (DN 2))) (fO 5)) (aQs K C CF CS E))
def tTk(K:bi)(C CF CS:al)(E:XK):TS:=u5 (wN (LK K (tOp (aNl K) (gB 1) tm1) "known") (fO 4)) (aQt K C CF CS E)
theorem aCv(S:cO X.N X.env.scope scope [cn])(hn:X.N.length=n)(hcalm:X.calm=ag)(hon:own n=ak)(hi:PI X tg iter (gI X.K it))(hg:∀y,PG (mkC X scope [cn] y) tg (fO n))(he:∀y,PE (mkC X scope [cn] y) elt (gX own f))
 (hs:∀x,eP iter X.env x=pure x)(hNn:X.N.Nodup)(hiy:X.N[iy]?=aa y)(hxy:Loc X.env.scope y)(hfy:zFn X y)(hsw:eL (.ListComp elt [⟨tg,iter,[],0⟩] scope pos) (aa (.Name y py)) pos2.line X.env=pure ag) :
  PS X (.Assign [.Name y py] (.ListComp elt [⟨tg,iter,[],0⟩] scope pos) pos2) (wN (gX own (YG it f)) (fO iy)):=by
 intro Ψ s σ H D I h;refine N6 S hcalm hi (λX' cc=>by obtain⟨y,rfl⟩:=mH cc;exact hg y) (λX' cc=>by obtain⟨y,rfl⟩:=mH cc;exact he y) hs hNn hiy hxy hfy hsw Ψ s σ H D I ?_;exact SN hon (I.len.trans hn) h
theorem lV(b:mL x H H')(hx:H x=aa (.lst xs))(r:Rep All H v (.dct kn))(p:ε (kn.map (·.2))=ag):Rep (λc=>c≠x) H' v (.dct kn):=by
 have k:sG H H':=λa o e u=>b a o e λz=>by
  subst z;rw[hx] at e;cases e;cases u
 cases r with
 |dK e _ r n=>
  have ne:=nJ e hx 0x7;exact .dK (b _ _ e ne) ne (r.fX k p) n
 |dT e _ r n=>
  have ne:=nJ e hx 0x7;exact .dT (b _ _ e ne) ne (r.fX k p) n
theorem qX{st:ae D}(h:ε st=ag):ε (st.drop n)=ag:=cQ.mpr λy hy=>cQ.mp h y (List.mem_of_mem_drop hy)
theorem v7{st:ae D}(h:ε st=ag):ε (st.take n)=ag:=cQ.mpr λy hy=>cQ.mp h y (xy hy)
theorem aLl(h:aB2 rl m k tk ps=.ok (ws,kn,k')):ε ws=ag:=by
 obtain⟨w0,xs,z0,more,r0,r1,own,ws',kn',k'',_,_,_,_,_,pw,hz,_,e⟩:=yE h 0x7;split at e
 ·cases e
 ·cases e;exact pw
theorem aQu(h:aB2 rl m k tk ps=.ok (ws,kn,k')):ε (kn.map (·.2))=ag:=by
 obtain⟨w0,xs,z0,more,r0,r1,own,ws',kn',k'',_,_,_,_,_,pw,hz,_,e⟩:=yE h 0x7;split at e
 ·cases e
 ·cases e;exact PX hz
section
theorem aHf{K:bi}{C CF CS:al}(hN:N.length=6)(hK:KFrag.K=K)(hC:nsIn K bE "PlainRun"=aa (aa (.ref C)))(clF:Cls K CF)(nk:cG K CF "known"){H:Hp}{Q:VK}{E:XK}(h:aLk CF CS vs H Q E):tTk K C CF CS E {nx:=λ_ H'=>Q .non H',rt:=Q} (L2.start N vs) H:=by
 obtain⟨a,af,av,vw,hd,mk,rl,m,k,kn,st,w,fl,fr,ws,i,vs0,rfl,⟨o1,o2,o3⟩,pkn,pst,ra,hf,hfl,hlast,⟨dxf,w1,w3,hfr,rw1,rw3⟩,hv,rv,hne,rw,hc⟩:=h;have hst:L2.start N [V.ref a,.ref af,.ref av,vw]=[aa (.ref a),aa (.ref af),aa (.ref av),aa vw,aj,aj]:=by
  unfold L2.start;rw[hN];rfl
 rw[hst];unfold J4 at hc;split at hc
 ·rename_i hb;simp only[aS,cv] at hb;obtain⟨⟨⟨hb1,hb2⟩,hb3⟩,hb4⟩:=hb;obtain⟨x,rfl⟩:∃x,w=.str x:=by
   cases w with
   |str x=>exact⟨x,rfl⟩
   |_=>cases hb1
  have lv:vs0.length<=100000:=by rw[rv.length,jo];exact hb4
  obtain⟨dx,h1,h2,h3,hsa,e1,e2,e3⟩:=lU hK hC ra;have nva:a≠av:=nJ hsa hv 0x7;have nfa:a≠af:=nJ hsa hf 0x7
  -- known
  refine⟨.ref af,rfl,1,rfl,af,fl,-1,.ref fr,rfl,rfl,.of hf,hlast,fr,CF,dxf,_,w3,rfl,hfr,clF,nk,rfl,?_⟩;show aQt K C CF CS E {nx:=λ_ H'=>Q .non H',rt:=Q} [aa (.ref a),aa (.ref af),aa (.ref av),aa vw,aa w3,aj] H;refine⟨[.uD,.uD,.uD,.str x,.dct kn],_,(EL.skip (.skip (.skip (.cons rw (.cons rw3 .nil))))).er,aHd hb2,λH1 s1=>?_⟩;split at hc
  ·rename_i v hlk;rw[hlk];show(if ag=ag then _ else _);rw[aq rfl];refine⟨.ref av,rfl,.inl ⟨rfl,_,.of (s1 _ _ hv)⟩,[.uD,.uD,.uD,.str x,.dct kn],v,(EL.skip (.skip (.skip (.cons (rw.same s1) (.cons (rw3.same s1) .nil))))).er,aLg hlk,λvv H2 s2 rvv _=>⟨av,vs0,vv,rfl,rfl,s2 _ _ (s1 _ _ hv),oz lv (by rw[dg];decide),?_⟩⟩;have hv2:=s2 _ _ (s1 _ _ hv);have pv:v.pure=ag:=yG pkn hlk;refine hc _ (vs0++[vv]) (λb o e nb=>?_) aK ?_
   ·rw[aP nb];exact s2 _ _ (s1 _ _ e)
   ·rw[jn];exact(((rv.same s1).same s2).snoc rvv).upd (by rw[gU,gW pst];simp[ε,pv]) hv2 rfl
  ·rename_i hlk;rw[hlk];show(if ak=ag then _ else _);rw[aw iw];split at hc
   ·rename_i n hn;split at hc
    ·rename_i hle;have b1:mL av H H1:=mL.same s1;have d1:=lV b1 hv e1 o1;have d2:=lV b1 hv e2 o2;have d3:=lV b1 hv e3 o3;have hv1:=s1 _ _ hv;have hO:∀b,Own (own1 2) [aa (.ref a),aa (.ref af),aa (.ref av),aa vw,aa w3,aj] b↔b=av:=λb=>by
      constructor
      ·rintro⟨j,hj,e⟩;have:j=2:=by simpa[own1] using hj
       subst this;cases e;rfl
      ·rintro rfl;exact⟨2,rfl,rfl⟩
     have hOf:(λb=>¬Own (own1 2) [aa (.ref a),aa (.ref af),aa (.ref av),aa vw,aa w3,aj] b)=λb=>b≠av:=funext λb=>by rw[hO]
     refine⟨[.ins "PlainRun" (prF hd mk rl m k),.uD,.cel av st.reverse,.str x,.uD,.uD],_,_,⟨rfl,λj hj=>?_,λj u hj hu=>?_⟩,aLi hn hle pst,λv5 H2 ku E2 _ r5=>?_⟩
     ·rw[hOf]
      match j,hj with
      |0,_=>exact⟨_,rfl,λ_=>uP hK hC (s1 _ _ hsa) d1 d2 d3⟩
      |1,hj=>exact bd rfl hj
      |2,_=>exact⟨_,rfl,λh=>by cases h⟩
      |3,_=>exact⟨_,rfl,λ_=>(rw.same s1).bL rfl⟩
      |4,hj=>exact bd rfl hj
      |5,hj=>exact bd rfl hj
      |j+6,hj=>exact bd rfl hj
     ·have:j=2:=by simpa[own1] using hj
      subst this;cases hu;exact⟨av,_,rfl,.cel hv1 trivial (rv.same s1),gW pst,hv1,rfl,λq hq _=>by simpa[own1] using hq⟩
     ·have b2:mL av H1 H2:=λb o e nb=>(ku b o e λz=>nb ((hO b).mp z)).1
      obtain⟨vs1,hv2,rv2⟩:∃vs1,H2 av=aa (.lst vs1)/\bJ All H2 vs1 (st.drop n).reverse:=by
       obtain⟨ad,o,ea,r,_⟩:=E2.own 2 (.ref av) rfl rfl;cases r with
       |cel e _ r=>exact⟨_,e,r⟩
      have hsa2:=b2 _ _ (s1 _ _ hsa) nva;have b12:mL av H H2:=λb o e nb=>b2 _ _ (s1 _ _ e) nb
      have ra2:Rep All H2 (.ref a) (.ins "PlainRun" (prF hd mk rl m k)):=uP hK hC hsa2 (lV b12 hv e1 o1).all (lV b12 hv e2 o2).all (lV b12 hv e3 o3).all;have rw2:Rep All H2 vw (.str x):=by cases rw.inv;exact .str x
      show aQs K C CF CS E {nx:=λ_ H'=>Q .non H',rt:=Q} [aa (.ref a),aa (.ref af),aa (.ref av),aa vw,aa w3,aa v5] H2;refine⟨[.ins "PlainRun" (prF hd mk rl m k),.uD,.uD,.str x],_,(EL.cons ra2 (.skip (.skip (.cons rw2 .nil)))).er,aHe hb3,λH3 s3=>?_⟩;split at hc
      ·rename_i hm;rw[hm];rw[aq rfl];split at hc
       ·rename_i z hz;refine⟨.ref av,rfl,.inl ⟨rfl,_,.of (s3 _ _ hv2)⟩,[.uD,.uD,.uD,.str x,.uD,.lst (st.take n)],_,(EL.skip (.skip (.skip (.cons (rw2.same s3) (.skip (.cons (r5.all.same s3) .nil)))))).er,aLj hz (by rw[jz];have:=aEk (mk:=mk) (rl:=rl) (m:=m) (k:=k) (b:=.uD) (c:=.uD) (e:=.uD) (f:=.uD) hn;obtain⟨_,_,q,_⟩:=this;lia),λvv H4 s4 rvv _=>⟨av,vs1,vv,rfl,rfl,s4 _ _ (s3 _ _ hv2),?_,?_⟩⟩
        ·have:=rv2.length;rw[jo,ou] at this;rw[dg];lia
        ·have hv4:=s4 _ _ (s3 _ _ hv2);refine hc _ (vs1++[vv]) (λb o e nb=>?_) aK ?_
         ·rw[aP nb];exact s4 _ _ (s3 _ _ (b12 _ _ e nb))
         ·rw[jn];refine(((rv2.same s3).same s4).snoc rvv).upd ?_ hv4 rfl;rw[gU,gW (qX pst)];simp[ε,ξ,v7 pst]
       ·exact hc.elim
      ·rename_i hm;rw[Bool.not_eq_true] at hm;rw[hm];rw[aw iw];have hf3:=s3 _ _ (b2 _ _ (s1 _ _ hf) hne);have hv3:=s3 _ _ hv2;have bs:∀H4,mL a H3 H4->aNw (λb=>b=a\/b=af\/b=av) H H4:=λH4 b4 b o e nb=>b4 _ _ (s3 _ _ (b12 _ _ e λz=>nb (.inr (.inr z)))) λz=>nb (.inl z)
       refine⟨.ref af,rfl,.inl ⟨rfl,_,.of hf3⟩,.ref a,rfl,a,dx,_,rfl,s3 _ _ hsa2,rfl,vw,rfl,v5,rfl,a,vw,v5,hd,mk,rl,m,k,.str x,st.take n,rfl,⟨o1,o2,o3⟩,rfl,v7 pst,ra2.same s3,rw2.same s3,r5.all.same s3,?_⟩;cases hq:aB2 rl m k (.str x) (st.take n) with
       |ok r=>
        obtain⟨ws',kn',k'⟩:=r;rw[hq] at hc;intro H4 xx hxx b4 rs fa;have hf4:=b4 _ _ hf3 (Ne.symm nfa);have hv4:=b4 _ _ hv3 (Ne.symm nva);refine⟨af,fl,.ref xx,rfl,rfl,hf4,by rw[dg];lia,?_⟩;have nxf:xx≠af:=λz=>by rw[z,hf3] at hxx;cases hxx
        have us:sG H4 (upd H4 af (.lst (fl++[.ref xx]))):=λb o e u=>by
         rw[aP (λz=>by subst z;rw[hf4] at e;cases e;cases u)];exact e
        have bf:mL af H4 (upd H4 af (.lst (fl++[.ref xx]))):=mL.upd;have dk:∀{v:V}{kk:ae (D×D)},Rep All H4 v (.dct kk)->ε (kk.map (·.2))=ag->Rep All (upd H4 af (.lst (fl++[.ref xx]))) v (.dct kk):=λr p=>(lV bf hf4 r p).all
        obtain⟨dx4,g1,g2,g3,hs4,q1,q2,q3⟩:=lU hK hC rs;obtain⟨dxx,y1,y3,hx4,ry1,ry3⟩:=fa;refine hc _ vs1 xx ?_ (λb o e nb=>?_) (uP hK hC (by rw[aP nfa];exact hs4) (dk q1 o1) (dk q2 o2) (dk q3 o3)) aK ⟨dxx,y1,y3,by rw[aP nxf];exact hx4,?_,?_⟩ (by rw[aP (Ne.symm hne)];exact hv4) ?_
        ·cases hh:H xx with
         |none=>rfl
         |some oo=>
          exfalso;by_cases hxv:xx=av
          ·rw[hxv,hv3] at hxx;cases hxx
          ·rw[s3 _ _ (b12 _ _ hh hxv)] at hxx;cases hxx
        ·rw[aP λz=>nb (.inr (.inl z))];exact bs H4 b4 b o e nb
        ·exact ry1.fX us (by rw[ξ];exact aLl hq)
        ·exact dk ry3 (aQu hq)
        ·have r4:bJ All H4 vs1 (st.drop n).reverse:=(rv2.same s3).fX (b4.use (s3 _ _ hsa2)) (gW (qX pst));exact r4.fX us (gW (qX pst))
       |err c as=>
        rw[hq] at hc;exact λH4 b4=>hc H4 (bs H4 b4)
       |bad=>
        rw[hq] at hc;exact hc.elim
    ·exact hc.elim
   ·exact hc.elim
 ·exact hc.elim
end
theorem aCw{st st' ws':ae D}{w:D}(h:J4 hd mk rl m k kn st w=.ok (st',aa (ws',kn'),k')):ε ws'=ag/\ε (kn'.map (·.2))=ag:=by
 unfold J4 at h;split at h
 ·split at h
  ·cases h
  ·split at h
   ·split at h
    ·split at h
     ·split at h<;>cases h
     ·split at h
      ·rename_i hq;cases h;exact⟨aLl hq,aQu hq⟩
      ·cases h
      ·exact bx h
    ·exact bx h
   ·exact bx h
 ·exact bx h
end
structure Fr where
 ws:ae D
 i:ah
 kn:ae (D×D)
def runN(hd mk rl:ae (D×D))(m:ai):ah->ae Fr->ae D->Cn->Res (ae D×Cn)
 |0,_,_,_=>.bad
 |_+1,[],st,k=>.ok (st,k)
 |n+1,⟨_,0,_⟩::r,st,k=>runN hd mk rl m n r st k
 |n+1,⟨ws,i+1,kn⟩::r,st,k=>match ws[i]? with
  |none=>.bad
  |some w=>if ϒ (r.length<900000) then (match J4 hd mk rl m k kn st w with
   |.ok (st',aj,_)=>if ε st' then runN hd mk rl m n (⟨ws,i,kn⟩::r) st' k else .bad
   |.ok (st',aa (ws',kn'),k')=>if ε st' then runN hd mk rl m n (⟨ws',ws'.length,kn'⟩::⟨ws,i,kn⟩::r) st' k' else .bad
   |.err c as=>.err c as
   |.bad=>.bad) else .bad
theorem jO:∀{n:ah}{fs:ae Fr}{st:ae D}{k:Cn}{r:Res (ae D×Cn)},runN hd mk rl m n fs st k=r->r≠.bad->∀j,runN hd mk rl m (n+j) fs st k=r
 |0,_,_,_,_,h,hr,_=>bd h.symm hr
 |n+1,[],st,k,r,h,hr,j=>by
  rw[yt];exact h
 |n+1,⟨ws,0,kn⟩::fs,st,k,r,h,hr,j=>by
  rw[yt];exact jO (fs:=fs) h hr j
 |n+1,⟨ws,i+1,kn⟩::fs,st,k,r,h,hr,j=>by
  rw[yt];unfold runN at h ⊢;split at h
  ·exact bd h.symm hr
  ·split at h
   ·rename_i hb;rw[aq hb];split at h
    ·split at h
     ·rename_i hp;rw[aq hp];exact jO h hr j
     ·exact bd h.symm hr
    ·split at h
     ·rename_i hp;rw[aq hp];exact jO h hr j
     ·exact bd h.symm hr
    ·exact h
    ·exact bd h.symm hr
   ·exact bd h.symm hr
theorem aHg{st:ae D}{k:Cn}{r r':Res (ae D×Cn)}(h:runN hd mk rl m n fs st k=r)(hr:r≠.bad)(h':runN hd mk rl m n' fs st k=r')(hr':r'≠.bad):r=r':=by
 have e1:=jO h hr n';have e2:=jO h' hr' n;rw[yu] at e2;exact e1.symm.trans e2
noncomputable def aLm:Res (ae D×Cn)->Res (D×Cn)
 |.ok (st,k)=>match st.getLast? with
  |some y=>.ok (y,k)
  |none=>.bad
 |.err c as=>.err c as
 |.bad=>.bad
open Classical in
def ZG(hd mk rl:ae (D×D))(m:ai)(ws:ae D):Res (D×Cn):=
 if h:∃r,r≠.bad/\∃n,runN hd mk rl m n [⟨ws,ws.length,[]⟩] [] ⟨0,0,0⟩=r then aLm h.choose else .bad
theorem J5(h:runN hd mk rl m n [⟨ws,ws.length,[]⟩] [] ⟨0,0,0⟩=r)(hr:r≠.bad):ZG hd mk rl m ws=aLm r:=by
 have e:∃r,r≠.bad/\∃n,runN hd mk rl m n [⟨ws,ws.length,[]⟩] [] ⟨0,0,0⟩=r:=⟨r,hr,n,h⟩
 obtain⟨h1,n',h2⟩:=e.choose_spec;unfold ZG;rw[tw e,aHg h2 h1 h hr]
theorem ZJ(h:ZG hd mk rl m ws=q)(hq:q≠.bad):∃r n,r≠.bad/\runN hd mk rl m n [⟨ws,ws.length,[]⟩] [] ⟨0,0,0⟩=r/\aLm r=q:=by
 unfold ZG at h;split at h
 ·rename_i e;obtain⟨h1,n',h2⟩:=e.choose_spec;exact⟨_,n',h1,h2,h⟩
 ·exact bd h.symm hq
section
variable [KFrag]
noncomputable def loud:HO->ax
 |.lst _=>ag
 |.ins _ _ _=>ag
 |_=>ak
structure Lb(S:al->Prop)(H H':Hp):Prop where
 bs:aNw S H H'
 ld:∀b,S b->∃o,H b=aa o/\loud o=ag
theorem Lb.use{S:al->Prop}(x:Lb S H H'):sG H H':=λb o e u=>x.bs b o e λz=>by
 obtain⟨o',e',hl⟩:=x.ld b z;rw[e] at e';cases e';cases o<;>first|(cases hl;done)|(cases u;done)
theorem Lb.same(s:bU H H'):Lb (λ_=>cg) H H':=⟨λb o e _=>s b o e,λ_ z=>z.elim⟩
theorem Lb.but(b:mL x H H')(hx:H x=aa o)(hl:loud o=ag):Lb (λc=>c=x) H H':=⟨λc oc e n=>b c oc e n,λc z=>by subst z;exact⟨o,hx,hl⟩⟩
theorem Lb.dct{S:al->Prop}(x:Lb S H H'){v:V}{kn:ae (D×D)}(r:Rep All H v (.dct kn))(p:ε (kn.map (·.2))=ag):Rep All H' v (.dct kn):=by
 cases r with
 |dK e _ r n=>exact .dK (x.bs _ _ e λz=>by obtain⟨o,e',hl⟩:=x.ld _ z;rw[e] at e';cases e';cases hl) trivial (r.fX x.use p) n
 |dT e _ r n=>exact .dT (x.bs _ _ e λz=>by obtain⟨o,e',hl⟩:=x.ld _ z;rw[e] at e';cases e';cases hl) trivial (r.fX x.use p) n
theorem Lb.fra{S:al->Prop}{H H':Hp}{CF fr:al}{ws:ae D}{i:ah}{kn:ae (D×D)}(x:Lb S H H')(h:FrA CF H fr ws i kn)(p:ε ws=ag)(pk:ε (kn.map (·.2))=ag)(n:¬S fr):FrA CF H' fr ws i kn:=by
 obtain⟨dx,w1,w3,e,r1,r3⟩:=h;exact⟨dx,w1,w3,x.bs _ _ e n,r1.fX x.use (by rw[ξ];exact p),x.dct r3 pk⟩
def T8(CF:al)(H0 H:Hp):ae al->ae Fr->Prop
 |[],[]=>gi
 |x::as,f::fs=>FrA CF H x f.ws f.i f.kn/\ε f.ws=ag/\ε (f.kn.map (·.2))=ag/\H0 x=aj/\x∉as/\T8 CF H0 H as fs
 |_,_=>cg
theorem Lb.frs{S:al->Prop}(x:Lb S H H'):∀{as:ae al}{fs:ae Fr},T8 CF H0 H as fs->(∀b∈as,¬S b)->T8 CF H0 H' as fs
 |[],[],_,_=>trivial
 |a::as,f::fs,⟨h1,h2,h3,h4,h5,h6⟩,n=>⟨x.fra h1 h2 h3 (n a 0x2),h2,h3,h4,h5,Lb.frs x h6 λb hb=>n b (by simp[hb])⟩
 |[],_::_,h,_=>h.elim
 |_::_,[],h,_=>h.elim
theorem T8.ins:∀{as:ae al}{fs:ae Fr},T8 CF H0 H as fs->∀b∈as,H0 b=aj/\∃C dx fs,H b=aa (.ins C dx fs)
 |[],[],_,b,hb=>by cases hb
 |a::as,f::fs,h,b,hb=>by
  obtain⟨⟨dx,w1,w3,e,_⟩,h2,h3,h4,h5,h6⟩:=h;rcases cj.mp hb with rfl|hb
  ·exact⟨h4,_,_,_,e⟩
  ·exact T8.ins h6 b hb
 |[],_::_,h,_,_=>h.elim
 |_::_,[],h,_,_=>h.elim
theorem T8.len:∀{as:ae al}{fs:ae Fr},T8 CF H0 H as fs->as.length=fs.length
 |[],[],_=>rfl
 |a::as,f::fs,⟨_,_,_,_,_,h6⟩=>by rw[bp,bp,T8.len h6]
 |[],_::_,h=>h.elim
 |_::_,[],h=>h.elim
structure VI(CF:al)(hd mk rl:ae (D×D))(m:ai)(H0:Hp)(a af av:al)(fs:ae Fr)(st:ae D)(k:Cn)(H:Hp):Prop where
 sm:mL a H0 H
 self:Rep All H (.ref a) (.ins "PlainRun" (prF hd mk rl m k))
 frs:∃as,H af=aa (.lst (as.map V.ref).reverse)/\T8 CF H0 H as fs
 val:∃vs,H av=aa (.lst vs)/\bJ All H vs st.reverse
 pv:ε st=ag
def aQv:FE:=b2 getD (aCk "Frame" "words" iI) (aCk "Frame" "left" iI)
noncomputable def frK(ws:ae D)(i:ah)(kn:ae (D×D)):D:=.ins "Frame" [("words",.tup ws),("left",.int i),("known",.dct kn)]
theorem aHh(h:ws[j]?=aa w):aQv [.uD,.uD,.uD,.uD,frK ws j kn]=.ok w:=by
 have hj:j<ws.length:=by
  rcases mr j ws.length with z|z
  ·exact z
  ·rw[io z] at h;cases h
 show(ο ((ixD ws.length (j:ai)).bind λi=>ws[i]?))=.ok w;unfold ixD;rw[aq 0x1,aq 0x1];show ο (ws[(j:ai).toNat]?)=.ok w;rw[ik,h];rfl
def aQw(C CF CS:al)(E:XK):TS:=wK (RN C "take_word" (aLk CF CS) [] E (gB 0) (dO (gB 2) (dO (gB 3) (dO (gE aQv ak) tK))))
def aQx(K:bi)(C CF CS:al)(E:XK):TS:=aIz (tB (aO4 (LK K (gB 4) "left") (tC (.int 0)))) (wK (aOy K 2))
  (u5 (aJ0 K (gB 4) (aO2 (LK K (gB 4) "left") (tC (.int 1))) "left") (aQw C CF CS E))
def tWB(K:bi)(C CF CS:al)(E:XK):TS:=u5 (wN (tOp (aNl K) (gB 2) tm1) (fO 4)) (aQx K C CF CS E)
def aQy(K:bi)(C CF CS:al)(l:ae (Str×Srx))(E:XK):TS:=
 u5 (wN (aNk (dO (tMk K "Frame" l 2 (dO (gB 1) (dO MK tK))) tK)) (fO 2))
  (u5 (wN (aNk tK) (fO 3))
   (u5 (UW (aQn K 2) (tWB K C CF CS E))
    (aJj (tOp (aNl K) (gB 3) (tC (.int 0))))))
def aRz(CS a:al)(hd mk rl:ae (D×D))(m:ai)(H:Hp)(Q:VK)(E:XK):Res (D×Cn)->Prop
 |.ok (y,k)=>∀v H',mL a H H'->Rep All H' (.ref a) (.ins "PlainRun" (prF hd mk rl m k))->Rep All H' v y->y.pure=ag->Q v H'
 |.err _ _=>∀H',mL a H H'->E (.ref CS) aj H'
 |.bad=>cg
def ZK(CS:al):Sp:=λvs H Q E=>∃a vw hd mk rl m ws,vs=[.ref a,vw]/\okR hd mk rl/\ε ws=ag/\Rep All H (.ref a) (.ins "PlainRun" (prF hd mk rl m ⟨0,0,0⟩))/\Rep All H vw (.tup ws)/\aRz CS a hd mk rl m H Q E (ZG hd mk rl m ws)
section
variable {K:bi} {C CF CS:al}
theorem J6{S:al->Prop}{H H':Hp}{a:al}{hd mk rl:ae (D×D)}{m:ai}{k:Cn}(hK:KFrag.K=K)(hC:nsIn K bE "PlainRun"=aa (aa (.ref C)))(x:Lb S H H')(o:okR hd mk rl)(n:¬S a)(r:Rep All H (.ref a) (.ins "PlainRun" (prF hd mk rl m k))):Rep All H' (.ref a) (.ins "PlainRun" (prF hd mk rl m k)):=by
 obtain⟨dx,h1,h2,h3,e,r1,r2,r3⟩:=lU hK hC r;exact uP hK hC (x.bs _ _ e n) (x.dct r1 o.1) (x.dct r2 o.2.1) (x.dct r3 o.2.2)
theorem aCx{hd mk rl:ae (D×D)}{m:ai}{H0:Hp}{vw:V}{a af av:al}{D':Ends}{E:XK}{res:Res (ae D×Cn)}(hK:KFrag.K=K)(hC:nsIn K bE "PlainRun"=aa (aa (.ref C)))(hCF:nsIn K bE "Frame"=aa (aa (.ref CF)))(clF:Cls K CF)(nl:cG K CF "left")(ok:okR hd mk rl)
 (hna:∃o,H0 a=aa o)(nf:H0 af=aj)(nv:H0 av=aj)(ne:af≠av){o4:ar V}{H:Hp}{f:Fr}{fs:ae Fr}{st:ae D}{k:Cn}{n:ah}(I:VI CF hd mk rl m H0 a af av (f::fs) st k H)(hr:runN hd mk rl m (n+1) (f::fs) st k=res)(hne:res≠.bad)
 (hE:∀c as,res=.err c as->∀H',mL a H0 H'->E (.ref CS) aj H')
 (hN:∀o4 H fs st k,VI CF hd mk rl m H0 a af av fs st k H->runN hd mk rl m n fs st k=res->D'.nx [aa (.ref a),aa vw,aa (.ref af),aa (.ref av),o4] H) :
  tWB K C CF CS E D' [aa (.ref a),aa vw,aa (.ref af),aa (.ref av),o4] H:=by
 obtain⟨sm,self,⟨as,hf,fr⟩,⟨vs,hv,rv⟩,pv⟩:=I;obtain⟨x,as,rfl⟩:∃x as',as=x::as':=by
  cases as with
  |nil=>exact fr.elim
  |cons x as=>exact⟨x,as,rfl⟩
 obtain⟨⟨dx,w1,w3,hx,r1,r3⟩,pw,pk,nx0,nxa,frr⟩:=fr;obtain⟨dxp,h1,h2,h3,hsa,e1,e2,e3⟩:=lU hK hC self;obtain⟨o0,hna⟩:=hna;have a0:∀{b:al},H0 b=aj->b≠a:=λh z=>by rw[z,hna] at h;cases h
 have ex:(dv V.ref (x::as)).reverse=(dv V.ref as).reverse++[.ref x]:=by simp
 rw[ex] at hf;have nxf:x≠af:=nJ hx hf 0x7;have nxv:x≠av:=nJ hx hv 0x7;refine⟨.ref af,rfl,1,rfl,af,_,-1,.ref x,rfl,rfl,.of hf,MF _ _,?_⟩;show aQx K C CF CS E D' [aa (.ref a),aa vw,aa (.ref af),aa (.ref av),aa (.ref x)] H;obtain⟨ws,i,kn⟩:=f;refine⟨.ref x,rfl,x,CF,dx,_,.int i,rfl,hx,clF,nl,rfl,i,0,rfl,rfl,_,rfl,?_⟩;have asi:=T8.ins frr;dsimp only;cases i with
 |zero=>
  rw[aq 0x3];have bf:Lb (λc=>c=af) H (upd H af (.lst (as.map V.ref).reverse)):=Lb.but mL.upd hf rfl;refine⟨.ref af,rfl,.inl ⟨rfl,_,.of hf⟩,af,_,.ref x,rfl,rfl,hf,by simp,?_⟩;rw[yr];refine hN _ _ fs st k ⟨λb o e nb=>?_,J6 hK hC bf ok (Ne.symm (a0 nf)) self,⟨as,aK,bf.frs frr λb hb z=>?_⟩,⟨vs,by rw[aP (Ne.symm ne)];exact hv,rv.fX bf.use (gW pv)⟩,pv⟩ hr
  ·rw[aP (bK e nf)];exact sm b o e nb
  ·obtain⟨_,C',dx',fs',e⟩:=asi b hb;rw[z,hf] at e;cases e
 |succ j=>
  rw[aw (λz=>by have:=eg z;lia)];refine⟨.ref x,rfl,x,CF,dx,_,.int ((j+1:ah):ai),rfl,hx,clF,nl,rfl,_,1,rfl,rfl,.ref x,rfl,x,CF,dx,_,rfl,hx,clF,nl,(by show 3<1000;decide),?_⟩;rw[aCm];have bx:Lb (λc=>c=x) H (upd H x (.ins CF dx [("words",w1),("left",.int j),("known",w3)])):=Lb.but mL.upd hx rfl;have hx2:upd H x (.ins CF dx [("words",w1),("left",.int j),("known",w3)]) x=aa (.ins CF dx [("words",w1),("left",.int j),("known",w3)]):=aK;have hf2:=bx.bs _ _ hf (Ne.symm nxf);have hv2:=bx.bs _ _ hv (Ne.symm nxv);have self2:=J6 hK hC bx ok (Ne.symm (a0 nx0)) self;have rv2:bJ All (upd H x (.ins CF dx [("words",w1),("left",.int j),("known",w3)])) vs st.reverse:=rv.fX bx.use (gW pv);have r12:Rep All (upd H x (.ins CF dx [("words",w1),("left",.int j),("known",w3)])) w1 (.tup ws):=r1.fX bx.use (by rw[ξ];exact pw);have r32:=bx.dct r3 pk;have sm2:mL a H0 (upd H x (.ins CF dx [("words",w1),("left",.int j),("known",w3)])):=λb o e nb=>bx.bs _ _ (sm b o e nb) (bK e nx0)
  have frr2:=bx.frs frr λb hb z=>by rw[z] at hb;exact nxa hb
  show aQw C CF CS E D' [aa (.ref a),aa vw,aa (.ref af),aa (.ref av),aa (.ref x)] (upd H x (.ins CF dx [("words",w1),("left",.int j),("known",w3)]));generalize upd H x (.ins CF dx [("words",w1),("left",.int j),("known",w3)])=H2 at hx2 hf2 hv2 self2 rv2 r12 r32 sm2 frr2;obtain⟨dxp2,g1,g2,g3,hsa2,_⟩:=lU hK hC self2;unfold runN at hr;split at hr
  ·exact bd hr.symm hne
  ·rename_i w hw;split at hr
   ·rename_i hlen;have hlen:=eg hlen;refine⟨.ref a,rfl,a,dxp2,_,rfl,hsa2,rfl,.ref af,rfl,.ref av,rfl,[.uD,.uD,.uD,.uD,frK ws j kn],w,(EL.skip (.skip (.skip (.skip (.cons (.ins (by rw[hK];exact hCF) hx2 (.cons r12 (.cons (.int _) (.cons r32 .nil)))) .nil))))).er,aHh hw,λvw3 H3 s3 rw3 _=>?_⟩;have hf3:=s3 _ _ hf2;have hv3:=s3 _ _ hv2;have hx3:=s3 _ _ hx2;have l3:=Lb.same s3;have frr3:=l3.frs frr2 λ_ _ z=>z
    have sm3:mL a H0 H3:=λb o e nb=>s3 _ _ (sm2 b o e nb)
    have asi3:=T8.ins frr3;have hal:=frr.len;refine⟨a,af,av,vw3,hd,mk,rl,m,k,kn,st,w,_,x,ws,j,vs,rfl,ok,pk,pv,self2.same s3,hf3,by rw[aT,jo,az,hal];simp;lia,MF _ _,⟨dx,w1,w3,hx3,r12.same s3,r32.same s3⟩,hv3,rv2.same s3,ne,rw3,?_⟩;split at hr
    ·rename_i st' k' ht;rw[ht];split at hr
     ·rename_i hps;intro H4 vs' b4 hv4 rv4;have l4:Lb (λc=>c=av) H3 H4:=Lb.but b4 hv3 rfl;refine hN _ _ (⟨ws,j,kn⟩::fs) st' k ⟨λb o e nb=>b4 _ _ (sm3 b o e nb) (bK e nv),J6 hK hC l4 ok (Ne.symm (a0 nv)) (self2.same s3),⟨x::as,by rw[ex];exact b4 _ _ hf3 ne,l4.fra ⟨dx,w1,w3,hx3,r12.same s3,r32.same s3⟩ pw pk nxv,pw,pk,nx0,nxa,l4.frs frr3 λb hb z=>?_⟩,⟨vs',hv4,rv4⟩,hps⟩ hr;obtain⟨_,C',dx',fs',e⟩:=asi3 b hb;rw[z,hv3] at e;cases e
     ·exact bd hr.symm hne
    ·rename_i st' ws' kn' k' ht;rw[ht];split at hr
     ·rename_i hps;intro H4 vs' y hy bs self4 hf4 fa hv4 rv4;obtain⟨dxp3,q1,q2,q3,hsa3,_⟩:=lU hK hC (self2.same s3);have l4:Lb (λb=>b=a\/b=af\/b=av) H3 H4:=⟨bs,λb hb=>by
       rcases hb with rfl|rfl|rfl
       ·exact⟨_,hsa3,rfl⟩
       ·exact⟨_,hf3,rfl⟩
       ·exact⟨_,hv3,rfl⟩⟩
      have old:∀b,(H0 b=aj/\∃C dx fs,H3 b=aa (.ins C dx fs))->¬(b=a\/b=af\/b=av):=λb ⟨z0,C',dx',fs',e⟩ z=>by
       rcases z with rfl|rfl|rfl
       ·exact a0 z0 rfl
       ·rw[hf3] at e;cases e
       ·rw[hv3] at e;cases e
      have nyx:y∉x::as:=λhb=>by
       rcases cj.mp hb with z|z
       ·rw[z,hx3] at hy;cases hy
       ·obtain⟨_,C',dx',fs',e⟩:=asi3 y z;rw[hy] at e;cases e
      have y0:H0 y=aj:=by
       cases hq:H0 y with
       |none=>rfl
       |some oo=>
        exfalso;by_cases hya:y=a
        ·rw[hya,hsa3] at hy;cases hy
        ·rw[sm3 _ _ hq hya] at hy;cases hy
      have pk':ε ws'=ag/\ε (kn'.map (·.2))=ag:=aCw ht;refine hN _ _ (⟨ws',ws'.length,kn'⟩::⟨ws,j,kn⟩::fs) st' k' ⟨λb o e nb=>?_,self4,⟨y::x::as,?_,fa,pk'.1,pk'.2,y0,nyx,l4.fra ⟨dx,w1,w3,hx3,r12.same s3,r32.same s3⟩ pw pk (old x ⟨nx0,_,_,_,hx3⟩),pw,pk,nx0,nxa,l4.frs frr3 λb hb=>old b (asi3 b hb)⟩,⟨vs',hv4,rv4⟩,hps⟩ hr
      ·refine bs _ _ (sm3 b o e nb) λz=>?_
       rcases z with z|z|z
       ·exact nb z
       ·rw[z,nf] at e;cases e
       ·rw[z,nv] at e;cases e
      ·rw[hf4];simp
     ·exact bd hr.symm hne
    ·rename_i c as' ht;rw[ht];intro H4 bs;refine hE c as' hr.symm H4 λb o e nb=>bs _ _ (sm3 b o e nb) λz=>?_
     rcases z with z|z|z
     ·exact nb z
     ·rw[z,nf] at e;cases e
     ·rw[z,nv] at e;cases e
    ·exact bd hr.symm hne
   ·exact bd hr.symm hne
end
end
def qdQ(f:ae (Str×D))(i:ah):ae (D×D):=match (f.map (λp=>p.2):ae D).getD i .uD with|.dct h=>h|_=>[]
def qiQ(f:ae (Str×D)):ai:=match (f.map (λp=>p.2):ae D).getD 3 .uD with|.int h=>h|_=>0
def aJ6(lP:ae (Str×Srx))(vW:ae D->Res D):ae D->Res D
 |[pr,.tup ws,.int m]=>if ε ws&&pr.pure then (match evS [.uD,pr,.int m] lP with
  |.ok f=>@ite _ (f.map (·.2)=[.dct (qdQ f 0),.dct (qdQ f 1),.dct (qdQ f 2),.int (qiQ f),.int 0,.int 0,.int 0]) (Classical.propDecidable _) (if ε ((qdQ f 0).map (·.2))&&(ε ((qdQ f 1).map (·.2))&&ε ((qdQ f 2).map (·.2))) then (match ZG (qdQ f 0) (qdQ f 1) (qdQ f 2) (qiQ f) ws with
    |.ok (y,k)=>(match vW [y] with
     |.ok d=>if d.pure then .ok (.tup [d,.int k.c,.int k.p,.int k.d]) else .bad
     |_=>.bad)
    |.err c as=>.err c as
    |.bad=>.bad) else .bad) .bad
  |_=>.bad) else .bad
 |_=>.bad
section
variable [KFrag]
theorem aCy(h:aB2 rl m k tk ps=.err c as):c="Spent"/\as=[.exc "Spent" []]:=by
 obtain⟨w0,xs,z0,more,r0,r1,own,ws',kn',k'',_,_,_,_,_,pw,hz,_,e⟩:=yE h 0x7;split at e
 ·cases e;exact⟨rfl,rfl⟩
 ·cases e
theorem aCz{st:ae D}{c:Str}{as:ae D}(h:J4 hd mk rl m k kn st w=.err c as):c="Spent"/\as=[.exc "Spent" []]:=by
 unfold J4 at h;split at h
 ·split at h
  ·cases h
  ·split at h
   ·split at h
    ·split at h
     ·split at h<;>cases h
     ·split at h
      ·cases h
      ·rename_i hq;cases h;exact aCy hq
      ·cases h
    ·cases h
   ·cases h
 ·cases h
theorem sW:∀{n:ah}{fs:ae Fr}{st:ae D}{k:Cn},runN hd mk rl m n fs st k=.err c as->c="Spent"/\as=[.exc "Spent" []]
 |0,_,_,_,h=>by cases h
 |n+1,[],st,k,h=>by cases h
 |n+1,⟨ws,0,kn⟩::fs,st,k,h=>sW (fs:=fs) h
 |n+1,⟨ws,i+1,kn⟩::fs,st,k,h=>by
  unfold runN at h;split at h
  ·cases h
  ·split at h
   ·split at h
    ·split at h
     ·exact sW h
     ·cases h
    ·split at h
     ·exact sW h
     ·cases h
    ·rename_i hq;cases h;exact aCz hq
    ·cases h
   ·cases h
theorem aD0(h:ZG hd mk rl m ws=.err c as):c="Spent"/\as=[.exc "Spent" []]:=by
 obtain⟨r,n,_,h1,h2⟩:=ZJ h 0x7;unfold aLm at h2;split at h2
 ·split at h2<;>cases h2
 ·cases h2;exact sW h1
 ·cases h2
section
variable {K:bi} {C CF CS:al} {l lP:ae (Str×Srx)} {vW:ae D->Res D}
theorem aD1(hN:N.length=5)(hK:KFrag.K=K)(hC:nsIn K bE "PlainRun"=aa (aa (.ref C)))(hCF:nsIn K bE "Frame"=aa (aa (.ref CF)))(clF:Cls K CF)(nl:cG K CF "left")
 (hl:∀ws kn,ε ws=ag->ε (kn.map (·.2))=ag->evS [.uD,.tup ws,.dct kn] l=.ok [("words",.tup ws),("left",.int ws.length),("known",.dct kn)]){E:XK}(h:ZK CS vs H Q E):aQy K C CF CS l E {nx:=λ_ H'=>Q .non H',rt:=Q} (L2.start N vs) H:=by
 obtain⟨a,vw,hd,mk,rl,m,ws,rfl,ok,pw,self,rw,hc⟩:=h;have hst:L2.start N [V.ref a,vw]=[aa (.ref a),aa vw,aj,aj,aj]:=by
  unfold L2.start;rw[hN];rfl
 rw[hst];generalize hres:ZG hd mk rl m ws=q at hc;have hq:q≠.bad:=λz=>by subst z;exact hc
 obtain⟨res,n0,hne,hr0,he⟩:=ZJ hres hq;obtain⟨dxp,g1,g2,g3,hsa,_⟩:=lU hK hC self;refine⟨vw,rfl,λp hp=>?_⟩;have s1:bU H (upd H p (.dK [])):=bU.upd hp;refine⟨[.tup ws,.dct []],_,rfl,.cons (rw.same s1) (.cons (.dK aK trivial .nil 0x2) .nil),hl ws [] pw rfl,λCF' x dx H2 vf hn2 hx s2 hx2 rf2=>?_⟩;rw[hCF] at hn2;cases hn2;have rfa:=rf2 All (λ_ _=>trivial) (.cons (rw.same s1) (.cons (.dK aK trivial .nil 0x2) .nil));cases rfa with
 |cons q1 rfa=>
 cases rfa with
 |cons q2 rfa=>
 cases rfa with
 |cons q3 rfa=>
 cases rfa;cases q2.inv;refine⟨by show 1<=bo;decide,λpf hpf=>?_⟩;show wN (aNk tK) (fO 3) _ [aa (.ref a),aa vw,aa (.ref pf),aj,aj] (upd H2 pf (.lst [.ref x]));refine⟨d6 _,λpv hpv=>?_⟩;have hnf:pf≠pv:=λz=>by
  subst z;rw[aK] at hpv;cases hpv
 have hpv2:H2 pv=aj:=by rw[aP (Ne.symm hnf)] at hpv;exact hpv
 have s3:bU H2 (upd (upd H2 pf (.lst [.ref x])) pv (.lst [])):=(bU.upd hpf).trans (bU.upd hpv);have s03:bU H (upd (upd H2 pf (.lst [.ref x])) pv (.lst [])):=(s1.trans s2).trans s3;have none0:∀b,H2 b=aj->H b=aj:=λb hb=>(s1.trans s2).free hb
 have hx0:H x=aj:=s1.free hx;have I0:VI CF hd mk rl m H a pf pv [⟨ws,ws.length,[]⟩] [] ⟨0,0,0⟩ (upd (upd H2 pf (.lst [.ref x])) pv (.lst [])):=
  ⟨λb o e _=>s03 b o e,self.same s03,⟨[x],by rw[aP hnf];exact aK,⟨dx,_,_,s3 _ _ hx2,q1.same s3,q3.same s3⟩,pw,rfl,hx0,by simp,trivial⟩,⟨[],aK,.nil⟩,rfl⟩
 show UW (aQn K 2) (tWB K C CF CS E) _ [aa (.ref a),aa vw,aa (.ref pf),aa (.ref pv),aj] (upd (upd H2 pf (.lst [.ref x])) pv (.lst []));refine⟨λn σ H'=>∃o4 fs st k,σ=[aa (.ref a),aa vw,aa (.ref pf),aa (.ref pv),o4]/\VI CF hd mk rl m H a pf pv fs st k H'/\runN hd mk rl m n fs st k=res,⟨n0,_,_,_,_,rfl,I0,hr0⟩,?_⟩;rintro n σ H' ⟨o4,fs,st,k,rfl,I,hr⟩;cases n with
 |zero=>exact bd hr.symm hne
 |succ n=>
 obtain⟨as,hf,fr⟩:=I.frs;refine⟨.ref pf,rfl,!((as.map V.ref).reverse).isEmpty,.inl ⟨_,.of hf,rfl⟩,?_⟩;cases fs with
 |nil=>
  cases as with
  |cons x as=>exact fr.elim
  |nil=>
  show(if ak=ag then _ else _);rw[aw iw];have hr:τ (st,k)=res:=hr;subst hr;unfold aLm at he;dsimp only at he;split at he
  ·rename_i y hy;subst he;obtain⟨vs,hv,rv⟩:=I.val;obtain⟨st',rfl⟩:∃st',st=st'++[y]:=by
    have hn:st≠[]:=λz=>by rw[z] at hy;cases hy
    refine⟨st.dropLast,?_⟩;rw[List.getLast?_eq_some_getLast hn] at hy;cases hy;exact(List.dropLast_concat_getLast hn).symm
   rw[yw,List.reverse_singleton] at rv;cases rv with
   |cons ry rr=>
   have py:y.pure=ag:=cQ.mp I.pv y 0x2;exact⟨.ref pv,rfl,pv,_,0,_,rfl,rfl,.of hv,aFz rfl,hc _ _ I.sm I.self ry py⟩
  ·exact bd he.symm hq
 |cons f fs=>
  cases as with
  |nil=>exact fr.elim
  |cons x as=>
  rw[aq 0x2];refine⟨λσ' H''=>∃n',n'<n+1/\∃o4 fs st k,σ'=[aa (.ref a),aa vw,aa (.ref pf),aa (.ref pv),o4]/\VI CF hd mk rl m H a pf pv fs st k H''/\runN hd mk rl m n' fs st k=res,λ_ _ z=>z,?_⟩;refine aCx hK hC hCF clF nl ok ⟨_,hsa⟩ (none0 _ hpf) (none0 _ hpv2) hnf I hr hne (λc as e H' b=>?_) λo4 H fs st k I hr=>⟨n,by lia,o4,fs,st,k,rfl,I,hr⟩
  subst e;subst he;exact hc H' b
def aLn(K:bi)(vW:ae D->Res D):TS:=aJj (aQg (dO (gE (bD (nZ 1 vW) (aF iI aY)) ag) (dO (LK K (gB 3) "calls") (dO (LK K (gB 3) "copies") (dO (LK K (gB 3) "drops") tK)))))
def aQz(K:bi)(C CS:al)(lP:ae (Str×Srx))(vW:ae D->Res D)(E:XK):TS:=
 u5 (wN (tMk K "PlainRun" lP 2 (dO (gB 0) (dO (gB 2) tK))) (fO 3))
  (u5 (wN (RN C "value_of" (ZK CS) [] E (gB 3) (dO (gB 1) tK)) (fO 4)) (aLn K vW))
theorem aD2(hN:N.length=5)(hK:KFrag.K=K)(hC:nsIn K bE "PlainRun"=aa (aa (.ref C)))(hS:nsIn K bE "Spent"=aa (aa (.ref CS)))(cl:Cls K C)(nc:cG K C "calls")(np:cG K C "copies")(nd:cG K C "drops")
 (hnm:lP.map (·.1)=([lq "heads",lq "makers",lq "rules",lq "most",lq "calls",lq "copies",lq "drops"]:ae Str)){E:XK}(h:spZ (aJ6 lP vW) 3 vs H Q E):aQz K C CS lP vW E {nx:=λ_ H'=>Q .non H',rt:=Q} (L2.start N vs) H:=by
 obtain⟨ds,hd3,r,h⟩:=h;generalize hw:aJ6 lP vW ds=w at h;unfold aJ6 at hw;split at hw
 ·rename_i pr ws m;split at hw
  ·rename_i hb;rw[aS] at hb;split at hw
   ·rename_i fs hev;split at hw
    ·rename_i hfs;generalize qdQ fs 0=hd at hfs hw;generalize qdQ fs 1=mk at hfs hw;generalize qdQ fs 2=rl at hfs hw;generalize qiQ fs=m' at hfs hw;split at hw
     ·rename_i hpu;simp only[aS] at hpu;have hf:fs=prF hd mk rl m' ⟨0,0,0⟩:=by
       have h1:=(aEh hev).2;rw[hnm] at h1;have:fs=(fs.map (·.1)).zip (fs.map (·.2)):=by
        clear hev hfs h1;induction fs with
        |nil=>rfl
        |cons p fs ih=>rw[aI,aI,List.zip_cons_cons,<-ih]
       rw[this,h1,hfs];rfl
      subst hf;cases r with
      |cons rp r=>
      cases r with
      |cons rws r=>
      cases r with
      |cons rm r=>
      cases r;rename_i vp vws vm;have hst:L2.start N [vp,vws,vm]=[aa vp,aa vws,aa vm,aj,aj]:=by
       unfold L2.start;rw[hN];rfl
      rw[hst];refine⟨vp,rfl,vm,rfl,[pr,.int m],_,rfl,.cons rp (.cons rm .nil),hev,λC' x dx H1 vf hn hx s1 hx1 rf=>?_⟩;rw[hC] at hn;cases hn;have rfa:=rf All (λ_ _=>trivial) (.cons rp (.cons rm .nil));have self1:Rep All H1 (.ref x) (.ins "PlainRun" (prF hd mk rl m' ⟨0,0,0⟩)):=.ins (by rw[hK];exact hC) hx1 rfa;have nx:∀{b:al}{o:HO},H b=aa o->b≠x:=λe=>bK e hx
      show u5 _ _ _ [aa vp,aa vws,aa vm,aa (.ref x),aj] H1;refine⟨.ref x,rfl,x,dx,_,rfl,hx1,rfa.DP rfl,vws,rfl,x,vws,hd,mk,rl,m',ws,rfl,⟨hpu.1,hpu.2.1,hpu.2.2⟩,hb.1,self1,rws.same s1,?_⟩;cases hv:ZG hd mk rl m' ws with
      |ok q=>
       obtain⟨y,k⟩:=q;rw[hv] at hw;dsimp only at hw;split at hw
       ·rename_i d hd';split at hw
        ·rename_i pd;subst hw;intro v H2 b2 self2 ry py;show aLn K vW {nx:=λ_ H'=>Q .non H',rt:=Q} [aa vp,aa vws,aa vm,aa (.ref x),aa v] H2;refine⟨[.uD,.uD,.uD,.uD,y],d,(EL.skip (.skip (.skip (.skip (.cons ry .nil))))).er,?_,λvd H3 s3 rd _=>?_⟩
         ·have e4:b8 4 [.uD,.uD,.uD,.uD,y]=.ok y:=bV rfl (ZD py);exact bA (aC e4 rfl) ((qR rfl).trans hd')
         ·obtain⟨dx2,g1,g2,g3,hx2,_⟩:=lU hK hC self2;have hx3:=s3 _ _ hx2;refine⟨.ref x,rfl,x,C,dx2,_,.int k.c,rfl,hx3,cl,nc,rfl,.ref x,rfl,x,C,dx2,_,.int k.p,rfl,hx3,cl,np,rfl,.ref x,rfl,x,C,dx2,_,.int k.d,rfl,hx3,cl,nd,rfl,by show 4<=bo;decide,λp hp=>?_⟩;have rt:Rep All (upd H3 p (.tup [vd,.int k.c,.int k.p,.int k.d])) (.ref p) (.tup [d,.int k.c,.int k.p,.int k.d]):=.tup aK (.cons (rd.same (bU.upd hp)) (.cons (.int _) (.cons (.int _) (.cons (.int _) .nil))));refine h _ _ (λb o e=>bU.upd hp b o (s3 _ _ (b2 _ _ (s1 _ _ e) (nx e)))) rt λ_=>rt.bL ?_
          rw[ξ];simp[ε,ξ,pd]
        ·subst hw;exact h.elim
       ·subst hw;exact h.elim
      |err c as=>
       rw[hv] at hw;subst hw;obtain⟨rfl,rfl⟩:=aD0 hv;obtain⟨fs',C',e1,e2,e3⟩:=h;cases e1;rw[hK,hS] at e2;cases e2;exact λH2 b2=>e3 H2 aj (λb o e=>b2 _ _ (s1 _ _ e) (nx e)) rfl
      |bad=>
       rw[hv] at hw;subst hw;exact h.elim
     ·subst hw;exact h.elim
    ·subst hw;exact h.elim
   ·subst hw;exact h.elim
  ·subst hw;exact h.elim
 ·subst hw;exact h.elim
end
theorem aLo{E:XK}(h:aJ5 C vs H Q E):vs.length=3:=by
 obtain⟨_,_,_,_,_,_,_,_,_,e,_⟩:=h;rw[e];rfl
theorem aHi{E:XK}(h:ZC CF CS vs H Q E):vs.length=3:=by
 obtain⟨_,_,_,_,_,_,_,_,_,_,e,_⟩:=h;rw[e];rfl
theorem aLp{E:XK}(h:aLk CF CS vs H Q E):vs.length=4:=by
 obtain⟨_,_,_,_,_,_,_,_,_,_,_,_,_,_,_,_,_,e,_⟩:=h;rw[e];rfl
theorem aHj{E:XK}(h:ZK CS vs H Q E):vs.length=2:=by
 obtain⟨_,_,_,_,_,_,_,e,_⟩:=h;rw[e];rfl
theorem aHk{E:XK}(h:spZ f n vs H Q E):vs.length=n:=by
 obtain⟨_,e,r,_⟩:=h;rw[r.length,e]
section
variable {P:bS} {w:bu} {K:bi} {mg:Str->ar am} {base:bc} {x qual:Str} {st:bz} {f T:al} {its:br am} {fd:dm} {N ps:ae Str} {k:ah}
theorem aP8(F:aOr K x qual st f fd T its)(S:bZ N ps (aN st))(len:∀vs H Q E,sp vs H Q E->vs.length=ps.length)
 (hbody:∀(cdv:am) (A:cf) (outer:ae cS) (s:au) (H:Hp) (vs:ae V) (Q:VK) (E:XK),lH k (A.deeper (eR qual (aN st) s.heap.objs.size f cdv))->sp vs H Q E->
   ∃t,PSs (wQ (CX2 P w) P w K mg base N qual (aN st) f cdv A outer s H E) (dR st) t/\t {nx:=λ_ H'=>Q .non H',rt:=Q} (start N vs) H):lJ P w K mg base (CX2 P w) (k+1) f fd ps sp:=by
 obtain⟨oc,od,kV,doc,pm,an,cdv,ct,osl,rfl,lk,hcd⟩:=F.ex;exact aFt lk hcd S len λA outer s H vs Q E hr hsp=>hbody cdv A outer s H vs Q E hr hsp
theorem _root_.L2.lJ.aS0(F:lJ P w K mg base (CX2 P w) k f fd ps (spZ v n)):lJ P w K mg base CX0 k f fd ps (spD v n):=by
 have go:∀{vs H Q E},spD v n vs H Q E->spZ v n vs H Q (λ_ _ _=>cg):=λ⟨ds,d,h1,r,h,q⟩=>⟨ds,h1,r,by rw[h];exact q⟩
 refine⟨λvs H Q E h=>F.len vs H Q _ (go h),λA outer s H args us vs Q E hr he hb hv h=>ma (F.run A outer s H args us vs Q _ hr he hb hv (go h)) λr s' hq=>?_⟩;cases r with
 |ok fl=>cases fl<;>exact hq
 |error e=>
  obtain⟨_,_,_,_,_,_,_,_,_,_,_,_,z⟩:=hq;exact z.elim
end
end
noncomputable def ZL(f:FS)(cs:ae Str)(ic ie:ah):FS:=λρ=>match f ρ with
 |.ok (.nx ρ')=>.ok (.nx ρ')
 |.err c [.exc c' fs]=>if c'==c&&cs.contains c&&ϒ (ie<ρ.length) then .ok (.nx (((ρ.set ie (.exc c fs)).set ic (.exc c fs)).set ie .uD)) else .bad
 |_=>.bad
def aD3(n:ah)(v:ae D->Res D)(dd:ae D):ae D->Res D:=λds=>nZ n v (ds++dd)
variable [KFrag]
def PB(X:Cx)(body:ae bz)(t:L2.St->Hp->(L2.St->Hp->Prop)->XK->Prop):Prop:=
 ∀(Ψ:ae (al×bn))(s:au)(σ:L2.St)(H:Hp)(Dn:L2.St->Hp->Prop)(De:XK),Inv X Ψ σ H s->t σ H Dn De->
  ϑ (ay X.prog X.w) X.A (execs body X.env) (λf s'=>f=.next/\∃σ' H',Inv X Ψ σ' H' s'/\Dn σ' H') (λe s'=>∃H1 s1,Inv X Ψ σ H1 s1/\CX2 X.prog X.w X.stack H1 s1 De e s') s
def kB(own:ah->ax)(σ:L2.St)(H:Hp)(Dn:L2.St->Hp->Prop)(De:XK):Res Fl->Prop
 |.ok (.nx ρ')=>∀σ' H',KU own σ H σ' H'->ES own H' σ' ρ'->Dn σ' H'
 |.err c as=>∃fs C,as=[.exc c fs]/\nsIn KFrag.K bE c=aa (aa (.ref C))/\∀H' dx,bU H H'->XDs H' fs dx->De (.ref C) dx H'
 |_=>cg
def tB3(own:ah->ax)(f:FS):L2.St->Hp->(L2.St->Hp->Prop)->XK->Prop:=λσ H Dn De=>∃ρ,ES own H σ ρ/\kB own σ H Dn De (f ρ)
def aP9(P:bS)(w:bu)(K:bi)(mg:Str->ar am)(base:bc)(k:ah)(x:Str)(n:ah)(v:ae D->Res D)(dd:ae D):Prop:=
 ∃(fad:al)(fd:dm)(ps:ae Str)(ds:ae am)(dvs:ae V),lJ P w K mg base (CX2 P w) k fad fd ps (spZ v n)/\mg x=aa (.ref fad)/\gl K (.ref fad)=ag/\Binds K fd ps ds/\Vals dvs ds/\∀H,bJ All H dvs dd
theorem aCq.g{K:bi}{base:bc}{k:ah}{x:Str}{n:ah}{v:ae D->Res D}(Z:aCq P w K mg base k x n v):aP9 P w K mg base k x n v []:=by
 obtain⟨fad,fd,ps,F,hm,hk,hb⟩:=Z;exact⟨fad,fd,ps,[],[],F,hm,hk,hb,.nil,λ_=>.nil⟩
section
variable {X:Cx} {e c:Expr}
def kCl(X:Cx)(Ψ:ae (al×bn))(σ:L2.St)(H:Hp)(De:XK)(Q:am->au->Prop):Res D->Prop
 |.ok d=>∀y u H' s',Inv X Ψ σ H' s'->RelV y u->bU H H'->Rep All H' y d->Rep (New H) H' y d->Q u s'
 |.err c as=>∃fs C,as=[.exc c fs]/\nsIn KFrag.K bE c=aa (aa (.ref C))/\∀H' dx,bU H H'->XDs H' fs dx->De (.ref C) dx H'
 |.bad=>cg
theorem aLq(R:aP9 X.prog X.w X.K X.mg X.base k f n v dd)(hr:lH k' X.A)(hkk:k<=k')(hg:Gl X f)(ha:PA X.nox (e::es) (gA fa ra))(hdb:(f==("__debug__" : Str))=ak)(he:zSE X e es)(hpl:zSP X cpos es)
 (I:Inv X Ψ σ H s)(E:ER H σ ρ)
 (q:kCl X Ψ σ H De Q (bD (aD3 n v dd) (noE fa) ρ)) :
  ϑ (ay X.prog X.w) X.A (eval (.Call (.Name f p) (e::es) [] cpos) X.env) Q (λe s'=>∃H1 s1,Inv X Ψ σ H1 s1/\CX2 X.prog X.w X.stack H1 s1 De e s') s:=by
 obtain⟨fm,fd,ps,ds,dvs,F,hm,hk,hb,hv,hdd⟩:=R;rcases aL9 with ⟨as,h1,h2⟩|h2
 ·have e1:bD (aD3 n v dd) (noE fa) ρ=nZ n v (as++dd):=by unfold bD;rw[h2];rfl
  rw[e1] at q;by_cases hl:(as++dd).length=n
  ·have e2:nZ n v (as++dd)=v (as++dd):=by unfold nZ;rw[aq (bt hl)]
   rw[e2] at q;refine gL (qM I hg hm ?_ hdb);refine callWith_K I.ok.mod.kin hk (fR (ha cpos Ψ s σ H (λvs H1=>bU H H1/\bJ All H1 vs as) (I.wish _) ⟨ρ,as,E,h1,λvs H' sm rs _=>⟨sm,rs⟩⟩) (λus s1 ⟨vs,H1,I1,r,sm,rs⟩=>⟨I1.kIn,?_⟩) λ_ _ z=>dQ z) he hpl;have I1:Inv X Ψ σ H1 s1:=I1.nU;have hsp:spZ v n (vs++dvs) H1 (λy H2=>bU H H2/\match v (as++dd) with|.ok d=>Rep All H2 y d/\Rep (New H) H2 y d|_=>cg) De:=by
    refine⟨as++dd,hl,rs.append (hdd H1),?_⟩;cases hv2:v (as++dd) with
    |ok d=>exact λy H2 s2 r2 n2=>⟨sm.trans s2,r2,(n2 rfl).mono λa ha=>sm.free ha⟩
    |err c as'=>
     rw[hv2] at q;obtain⟨fs,C,g1,g2,g3⟩:=q;exact⟨fs,C,g1,g2,λH2 dx s2 xd=>g3 H2 dx (sm.trans s2) xd⟩
    |bad=>rw[hv2] at q;exact q
   have r2:Vals (vs++dvs) (us++ds):=r.append hv;have hlen:(us++ds).length=ps.length:=by rw[<-r2.length];exact F.len _ _ _ _ hsp
   refine jw (ma (F.run X.A X.stack s1 H1 ⟨us,[]⟩ (us++ds) (vs++dvs) _ De (hr.mono hkk) I1.env0 (hb s1 us I1.kIn hlen) r2 hsp) λr s' hq=>?_);cases r with
   |error e=>exact⟨H1,s1,I1,hq⟩
   |ok fl=>
    cases fl with
    |ret u=>
     obtain⟨y,H2,I2,ry,sm2,z⟩:=I1.after hq;cases hv2:v (as++dd) with
     |ok d=>
      rw[hv2] at q z;exact q y u H2 s' I2 ry sm2 z.1 z.2
     |err c as'=>rw[hv2] at z;exact z.elim
     |bad=>rw[hv2] at z;exact z.elim
    |next=>exact dQ hq
    |brk=>exact dQ hq
    |cont=>exact dQ hq
  ·have e2:nZ n v (as++dd)=.bad:=by unfold nZ;rw[aw (by simpa using hl)]
   rw[e2] at q;exact q.elim
 ·have e1:bD (aD3 n v dd) (noE fa) ρ=.bad:=by unfold bD;rw[h2];rfl
  rw[e1] at q;exact q.elim
theorem aLr{o:ax}(R:aP9 X.prog X.w X.K X.mg X.base k f n v dd)(hr:lH k' X.A)(hkk:k<=k')(hg:Gl X f)(ha:PA X.nox (e::es) (gA fa ra))(ho:own i=ak)(hN:X.N.Nodup)(hi:X.N[i]?=aa x)(hx:Loc X.env.scope x)(hf:autoParam (zFn X x) Ξ)
 (hdb:autoParam ((f==("__debug__" : Str))=ak) Λ)(he:autoParam (zSE X e es) Ω)(hpl:autoParam (zSP X cpos es) Ω)(hs:autoParam (eL (.Call (.Name f p) (e::es) [] cpos) (aa (.Name x px)) xpos.line X.env=pure ak) Ω) :
  PB X [.Assign [.Name x px] (.Call (.Name f p) (e::es) [] cpos) xpos] (tB3 own (cU ak i (bD (aD3 n v dd) (noE fa)) ag)):=by
 intro Ψ s σ H Dn De I ⟨ρ,es',q⟩;refine vS (zI (aLq R hr hkk hg ha hdb he hpl I es'.er ?_) hs);cases hq:bD (aD3 n v dd) (noE fa) ρ with
 |ok d=>
  have e1:cU ak i (bD (aD3 n v dd) (noE fa)) ag ρ=.ok (.nx (ρ.set i d)):=by unfold cU;rw[hq];rfl
  rw[e1] at q;intro y u H' s' I' ry sm r1 r2;refine wI I' hN hi hx ry (λs2 I2=>lz ⟨rfl,_,H',I2,q _ H' (λb ob eb nb=>⟨sm b ob eb,λz=>nb ((jX ho b).mp z)⟩) ?_⟩) hf;refine(es'.same sm).set ho (r2.mono λb hb z=>?_);obtain⟨o',e',_⟩:=es'.live z;rw[show H b=aj from hb] at e';cases e'
 |err c as=>
  have e1:cU ak i (bD (aD3 n v dd) (noE fa)) ag ρ=.err c as:=by unfold cU;rw[hq];rfl
  rw[e1] at q;exact q
 |bad=>
  have e1:cU ak i (bD (aD3 n v dd) (noE fa)) ag ρ=.bad:=by unfold cU;rw[hq];rfl
  rw[e1] at q;exact q.elim
end
def aPa(K:Frag)(cM:am)(tb:L2.St->Hp->(L2.St->Hp->Prop)->XK->Prop)(ie:ah)(ts:TS):TS:=λD σ H=>tb σ H (λσ' H'=>D.nx σ' H') λCv dd H2=>∃C,Cv=.ref C/\uS K (.ref C) cM=aa ag/\∀a,H2 a=aj->ts {nx:=λσ' H'=>D.nx (σ'.set ie aj) H',rt:=λ_ _=>cg} (σ.set ie (aa (.ref a))) (upd H2 a (.ext (XO a C dd)))
theorem aHl
  (hst:X.stack=X.env::X.outer) (hfr:X.env.frame=aa X.env.locals) (hb:PB X body tb) (hgM:Gl X mx) (hmM:X.mg mx=aa cM) (hN:X.N.Nodup) (hin:X.N[ie]?=aa n) (hln:X.env.scope.names.lookup n=aa .local)
  (hs:∀v,PSs (mrk X v).nox (b0::suite) ts) (hdM:autoParam ((mx==("__debug__" : Str))=ak) Λ) :
  PS X (.Try body [.ExceptHandler (aa (.Name mx mp)) (aa n) (b0::suite) hpos] [] [] pos) (aPa X.K cM tb ie ts):=by
 intro Ψ s σ H D I h;refine wpAny_Try_except (fR (hb Ψ s σ H _ _ I h) (λf s' ⟨e,σ',H',I',q⟩=>?_) λe s' ⟨H1,s1,I1,hq⟩=>?_)
 ·subst e;exact lz ⟨σ',H',I',q⟩
 ·obtain⟨a,C',dd,H2,B,rfl,os',bare',fly,clo,hn,hgone,C,eC,hx,hE⟩:=hq;cases eC;rw[hst] at fly;refine Y0 (by rw[I.ok.frames,hst]) hfr fly λh4 held4 sm4=>?_
  refine qI held4 λh5 fly5 sm5=>?_
  have up5:s'.heap.UpToSlots h5:=B0 sm4 sm5;have I5:Inv X Ψ σ H2 {s' with heap:=h5}:=by
   obtain⟨un,hok⟩:=clo h5 fly5.1 up5;exact I1.call' os' un hok bare' (λb z=>bd z 0x2)
  refine wpAny_handleBy_cons (codeAny_handlers_test ?_) (by intro q;cases q);refine qM (W_ I5 _) hgM hmM ?_ hdM;have LT:Looks (ay X.prog X.w) h5 (ox (.ref a)) (.ref C'):=by
   obtain⟨ob,hob,hc,_⟩:=fly5.there;rw[<-hc];exact(A5 hob).andThen .now
  refine(exm_one I5.kIn LT hx).here ?_;refine codeAny_handlers_suite_as ?_;refine qI fly5 λh6 fly6 sm6=>?_
  obtain⟨un6,hok6⟩:=clo h6 fly6.1 (B0 up5 sm6);have I6:Inv X Ψ σ (upd H2 a (.ext (XO a C' dd))) {s' with heap:=h6}:=
   I1.call' os' (aKi un6 hgone hn) (aGu hok6 hn (aP0 fly6.there)) bare' (λb z=>bd z 0x2)
  refine zP (v:=.ref a) I6 hN hin (.inl hln) rfl (λs7 I7 _=>?_) (.inr hln);refine fR (hs (.ref a) Ψ s7 _ _ _ ((W_ I7 _).wish _) (hE a hn)) (λfl s8 q8=>?_) λ_ _ z=>dQ z
  cases fl with
  |ret u=>obtain⟨_,_,_,_,_,z⟩:=q8;exact z.elim
  |brk=>obtain⟨_,_,_,z⟩:=q8;exact z.elim
  |cont=>obtain⟨_,_,_,z⟩:=q8;exact z.elim
  |next=>
   obtain⟨σ8,H8,I8,q⟩:=q8;have I8:Inv X Ψ σ8 H8 s8:=XF I.ok I8.nU;obtain⟨m,hm8,hl8⟩:=id I8.loc;refine wpAny_nameGoes_keeps hln hm8 (by rw[I.ok.kind];rfl) λh9 v hn9 sb9=>?_
   exact⟨_,H8,aC2 I8 hN hin hm8 hl8 hn9 sb9,q⟩
theorem aHm
  (hK:KFrag.K=X.K) (hst:X.stack=X.env::X.outer) (hfr:X.env.frame=aa X.env.locals) (hb:PB X body (tB3 own f)) (hgM:Gl X mx) (hmM:X.mg mx=aa cM)
  (hcs:∀c,cs.contains c=ag->∃C,nsIn X.K bE c=aa (aa (.ref C))/\uS X.K (.ref C) cM=aa ag)
  (hN:X.N.Nodup) (hin:X.N[ie]?=aa nm) (hln:X.env.scope.names.lookup nm=aa .local) (hic:X.N[ic]?=aa cn) (hlc:Loc X.env.scope cn) (hfc:X.fn cn=ag\/X.env.scope.names.lookup cn=aa .local) (oc:own ic=ak) (oe:own ie=ak) (hne:ie≠ic)
  (hdM:autoParam ((mx==("__debug__" : Str))=ak) Λ) (hs2:autoParam (eL (.Name nm ep) (aa (.Name cn tp)) ap.line X.env=pure ak) Ω) (hd1:autoParam ((nm==("__debug__" : Str))=ak) Λ) (hd2:autoParam ((nm==("__classdict__" : Str))=ak) Λ) :
  PS X (.Try body [.ExceptHandler (aa (.Name mx mp)) (aa nm) [.Assign [.Name cn tp] (.Name nm ep) ap] hpos] [] [] pos) (tS own (ZL f cs ic ie)):=by
 refine PS.imp (aHl hst hfr hb hgM hmM hN hin hln (λv=>d7 (K8 hN hic hlc (aV hin (.inl hln) hd1 hd2) hs2 hfc)) hdM) λD σ H ζ=>?_;obtain⟨ρ,fl,es,h,q⟩:=ζ
 refine⟨ρ,es,?_⟩;unfold ZL at h;split at h
 ·rename_i ρ' hf;cases h;rw[hf];exact λσ' H' ku E'=>q σ' H' ku E'
 ·rename_i c c' fs hf;split at h
  ·rename_i hc;rw[aS,aS] at hc;have ec:=fS.mp hc.1.1;subst ec;cases h;rw[hf];obtain⟨C,hn,hx⟩:=hcs _ hc.1.2;refine⟨fs,C,rfl,by rw[hK];exact hn,λH2 dd s2 xd=>⟨C,rfl,hx,λa ha=>?_⟩⟩;have hl2:ie<σ.length:=by
    rw[es.len];exact eg hc.2
   have rp:∀P,Rep P (upd H2 a (.ext (XO a C dd))) (.ref a) (.exc c' fs):=λP=>.exc (by rw[hK];exact hn) aK (by
    cases dd with
    |none=>exact xd
    |some d=>
     have xd:H2 d=aa (.ext (XD d fs)):=xd;show upd _ _ _ d=_;rw[aP (λz=>by rw[z,ha] at xd;cases xd)];exact xd)
   have sm3:bU H (upd H2 a (.ext (XO a C dd))):=s2.trans (aC3 ha);have es3:=(((es.same sm3).set oe (rp _)).set oc (rp _)).drop oe;refine⟨.ref a,by rw[fy hl2],?_⟩;exact q _ _ (λb o eb nb=>⟨sm3 b o eb,λz=>nb ((jX oe b).mp ((jX oc b).mp ((PP oe b).mp z)))⟩) es3
  ·exact bx h
 ·exact bx h
end Mi
namespace Mi
open PySem L2 PySem.SeqAt PySem.Spec PyProof.Rows
def bFz(f:FE):FE:=λρ=>do
 let d <- f ρ
 match d with
 |.lst xs=>if ε xs then .ok (.scr xs) else .bad
 |_=>.bad
noncomputable def aHn:D->ar (ae D)
 |.lst a=>aa a
 |.scr a=>aa a
 |_=>aj
section
variable [KFrag]
section
variable {X:Cx} {e:Expr} {f:FE}
def tFz(t:TE):TE:=λσ H Q=>t σ H λv H1=>∃a vs,v=.ref a/\H1 a=aa (.lst vs)/\∀o,Q v (upd H1 a (.frz o (.lst vs)))
theorem aPb(h:PE X e t):PE X e (tFz t):=by
 intro Ψ s σ H Q I q;refine fR (h Ψ s σ H _ (I.wish _) q) (λu s1 ⟨v,H1,I1,r,a,vs,ev,ea,k⟩=>?_) λ_ _ z=>z
 obtain⟨o,I2⟩:=vU I1 ea;exact⟨v,_,I2,r,k o⟩
theorem DW(h:PE X e (gE f ag)):PE X e (gE (bFz f) ag):=PE.imp (aPb h) λσ H Q ζ=>by
 obtain⟨ρ,d,E,h,q⟩:=ζ
 obtain⟨d0,h1,h2⟩:=aU h;split at h2
 ·rename_i xs;split at h2
  ·rename_i hp;cases h2;refine⟨ρ,_,E,h1,λv H1 s1 r n=>?_⟩;cases n rfl with
   |@lst a vs _ ea pa ra=>
    refine⟨a,vs,rfl,ea,λo=>?_⟩;have noT:∀ob,H1 a=aa ob->M4 ob=ag:=λob z=>by rw[ea] at z;cases z;rfl
    have s2:bU H (upd H1 a (.frz o (.lst vs))):=λb ob eb=>by
     rw[aP (λz=>by rw[z,show H a=aj from pa] at eb;cases eb)];exact s1 b ob eb
    have rp:∀P:al->Prop,Rep P (upd H1 a (.frz o (.lst vs))) (.ref a) (.scr xs):=λP=>.frz (.inl ⟨o,aK⟩) ((uH noT ra hp).bL hp)
    exact q _ _ s2 (rp _) λ_=>rp _
  ·exact bx h2
 ·exact bx h2
theorem ZM(hK:KFrag.K=X.K)(h:aHn d=aa ds)(r:Rep P H v d):∃a xs,v=.ref a/\SqL X.K H a xs/\bJ P H xs ds:=by
 cases d with
 |lst a=>
  cases h;obtain⟨_,_,rfl,e,p,rr⟩:=r.inv;exact⟨_,_,rfl,.inl (.inl e),rr⟩
 |scr a=>
  cases h;obtain⟨_,_,rfl,e,rr⟩:=r.inv;exact⟨_,_,rfl,e.sq hK,rr⟩
 |_=>cases h
end
end
def S_(i:ah)(f:FX):FS:=λρ=>do
 let p <- f ρ
 match ρ.getD i .uD,p.2.getD i .uD,p.1 with
 |.lst _,.lst xs,.lst ys=>if ϒ (xs.length+ys.length<=lim)&&ε ys then .ok (.nx (p.2.set i (.lst (xs++ys)))) else .bad
 |_,_,_=>.bad
noncomputable def aHo(tbl:ae (Str×ax))(i:ah):FE:=λρ=>match ρ.getD i .uD with
 |.exc c _=>(match tbl.lookup c with|some b=>.ok (.bl b)|none=>.bad)
 |.non=>.ok (.bl ak)
 |_=>.bad
section
variable [KFrag]
section
theorem aHp(ho:own i=ag)(hN:X.N[i]?=aa x)(hv:Vis X.env.scope x)(he:PE X e (gX own f))(hd:autoParam (nDb x) Λ)(hcd:autoParam (nCd x) Λ)
 (hbase:autoParam (gm (.Name x p1) "extend" X.env (eval (.Name x p1) X.env)=eval (.Name x p1) X.env) Ω)
 (hs1:autoParam (zSE X e []) Ω)
 (hfew:autoParam (zFw X cpos [e]) Ω)
 (hline:autoParam ((apos.endLine==cpos.line)=ag) Ω)
 (hs:autoParam (eL (.Call (.Attribute (.Name x p1) "extend" apos) [e] [] cpos) aj pos.line X.env=pure ak) Ω) :
  PS X (.Expr (.Call (.Attribute (.Name x p1) "extend" apos) [e] [] cpos) pos) (tS own (S_ i f)):=
 PS.imp (jU (zZ iX xh Bk z6 (aV hN hv hd hcd) (bH he dM hs1) hbase hfew hline hs1 rfl) hs) λD' σ H ζ=>by
 obtain⟨ρ,fl,E,h,q⟩:=ζ
 obtain⟨⟨d,ρ'⟩,h1,h2⟩:=aU h;dsimp only at h2;split at h2
 ·rename_i xs0 xs ys hx0 hx;split at h2
  ·rename_i hk;cases h2;rw[aS,cv] at hk;obtain⟨a,o,hσ,r,hin,ha,hm⟩:=E.ownAt ho (by rw[hx0];intro z;cases z);rw[hx0] at r;obtain⟨vs,hl,rr⟩:=BW r;refine⟨_,hσ,.inl ⟨rfl,vs,.of hl⟩,ρ,_,ρ',E,h1,λv H' k E' ns rv=>?_⟩;obtain⟨a2,o2,hσ2,r2,hin2,ha2,hm2⟩:=E'.ownAt ho (by rw[hx];intro z;cases z);rw[hσ] at hσ2;cases hσ2;rw[hx] at r2 hin2;obtain⟨vs2,hl2,rr2⟩:=BW r2;obtain⟨b,zs,rfl,hb,_,rz⟩:=rv.inv;refine⟨a,b,vs2,zs,rfl,rfl,hl2,hb,by rw[rr2.length,rz.length];exact c_ hk.1 (by rw[dg];decide),?_⟩;have hp:ε (xs++ys)=ag:=by rw[gU,aS];exact⟨hin2,hk.2⟩
   obtain⟨E2,k2⟩:=E'.mut ho hσ rfl (.lst aK trivial ((rr2.append rz.all).upd hp hl2 rfl)) hp;exact q _ _ (k.trans k2) E2
  ·exact bx h2
 ·exact bx h2
end
section
open PySem.W
theorem aD4(hK:KFrag.K=X.K)(ht:∀c b,tbl.lookup c=aa b->∃C,nsIn X.K bE c=aa (aa (.ref C))/\XC X.K C/\lr X.K (.ref C) u=aa b)(hn:lr X.K (.type "NoneType") u=aa ak)(hu:∀u',RelV v u'->u'=u)(hg:Gl X "isinstance")(hm:X.mg "isinstance"=aj)(hN:X.N[i]?=aa y)(hv:Vis X.env.scope y)(ha:PE X ce (tC v))
 (hst:cr [ce] X.env=(ak,eval ce X.env)::cr [] X.env)(hpl:(ip pos (cr [ce] X.env)).any (·.1)=ak)
 (hd:autoParam ((y==("__debug__" : Str))=ak) Λ)(hcd:autoParam ((y==("__classdict__" : Str))=ak) Λ) :
  PE X (.Call (.Name "isinstance" p) [.Name y np,ce] [] pos) (gE (aHo tbl i) ag):=by
 have hc:nM X (.builtin "isinstance") (λvs H Q=>∃x b,vs=[x,v]/\((x=.non/\b=ak)\/∃a C dx,x=.ref a/\H a=aa (.ext (XO a C dx))/\XC X.K C/\lr X.K (.ref C) u=aa b)/\Q (.bl b) H):=by
  intro Ψ s σ H vs us Q I r ⟨x,b,e,hx,q⟩;subst e;cases r with
  |cons r1 r=>
   cases r with
   |cons r2 r=>
    cases r;have e2:=hu _ r2;subst e2;rcases hx with ⟨rfl,rfl⟩|⟨a,C,dx,rfl,ea,c,hk⟩
    ·cases r1;exact kia_one kitx_none I.kIn trivial hn 0x7 λtk=>⟨.bl ak,H,I.tok tk,rfl,q⟩
    ·cases r1;obtain⟨px,_⟩:=I.hok a _ ea;exact kia_one (aC1 c) I.kIn px.exc hk 0x7 λtk=>⟨.bl b,H,I.tok tk,rfl,q⟩
 refine PE.imp (wR hc hg hm 0x6 (bH (aV hN hv hd hcd) (bH ha dM hst)) (hpl:=hpl)) λσ H Q ζ=>?_;obtain⟨ρ,d,er,h,q⟩:=ζ
 unfold aHo at h;split at h
 ·rename_i c fs hρ;split at h
  ·rename_i b hb;cases h;obtain⟨a,C,dx,h1,n,e⟩:=aH9 er hρ;obtain⟨C',n',xc,hk⟩:=ht c b hb;rw[hK,n'] at n;cases n;exact⟨.ref a,h1,.ref a,b,rfl,.inr ⟨a,C,dx,rfl,e,xc,hk⟩,q _ _ (λ_ _ z=>z) (.bl b) λ_=>.bl b⟩
  ·exact bx h
 ·rename_i hρ;cases h;obtain⟨w,h1,r1⟩:=er i (by rw[hρ];intro z;cases z);rw[hρ] at r1;cases r1.inv;exact⟨.non,h1,.non,ak,rfl,.inl ⟨rfl,rfl⟩,q _ _ (λ_ _ z=>z) (.bl ak) λ_=>.bl ak⟩
 ·exact bx h
end
end
noncomputable def max2:ae D->Res D
 |[.int a,.int b]=>.ok (.int (if b > a then b else a))
 |_=>.bad
variable [KFrag]
theorem ZP{X:Cx}(hc:X.calm=ag):nM X (.builtin "max") (rs max2 ak):=by
 rintro Ψ s σ H xs us Q I vr ⟨ds,d,r,e,k⟩;unfold max2 at e;split at e
 ·cases e;cases r with
  |cons r t=>
   cases r.inv;cases t with
   |cons r t=>
    cases r.inv;cases t;cases vr with
    |cons v vt=>
     obtain⟨t1,rfl⟩:=v;cases vt with
     |cons v vt=>
      obtain⟨t2,rfl⟩:=v;cases vt;refine max_two_ints (I.ok.hd hc) λh' tk hk=>⟨_,H,I.kept hk,?_,k.int⟩
      split
      ·exact⟨_,rfl⟩
      ·exact⟨_,rfl⟩
 ·exact bx e
end Mi
namespace Wv
open PySem PySem.Spec PyProof.Rows
noncomputable abbrev stO(v:am)(c:ah):bn:={cls:=.type "list",dict:=aj,data:=.seq #[v] c,slots:=#[]}
noncomputable abbrev tuN(xs:br am):bn:={cls:=.type "tuple",data:=.seq xs}
theorem dif{h:bc}(e:h.get? a=aa o)(hc:o.cls=.type T)(e':h.get? b=aa o')(hc':o'.cls=.type U)(ne:(fI T==fI U)=ak):a≠b:=λq=>by
 subst q;rw[e] at e';cases e';rw[hc] at hc';rw[hc'] at ne;simp at ne
theorem aPc(hp:s.heap.IsTuple p xs.toArray)(hq:s.heap.IsTuple q ys.toArray)(h1:xs≠[])(h2:ys≠[])(hz:xs.length+ys.length<=bo)
 (h:Q (.ref s.heap.objs.size) {s with heap:=s.heap.push (tuN (xs++ys).toArray)}):ϑ (ay prog w) A (eB .Add (.ref p) (.ref q)) Q E s:=by
 obtain⟨⟨cls,dd,data,sl⟩,ho,hc,n,hd⟩:=hp;obtain⟨⟨cls2,dd2,data2,sl2⟩,ho2,hc2,n2,hd2⟩:=hq;simp only at hc hd hc2 hd2;subst hc hd hc2 hd2;refine sr ⟨_,ho,rfl⟩ ⟨_,ho2,rfl⟩ su sv sw sx (sA _ _)
  (Al p q xs.toArray ys.toArray n n2 dd dd2 sl sl2 (by simp[h1]) (by simp[h2]) (by simp only[b6];exact hz)) ⟨ho,ho2,?_⟩
 rw[show xs.toArray++ys.toArray=(xs++ys).toArray by simp];exact h
section
theorem loop(hh:A.handled=aj)(hSl:S≠l):∀(ts:ae (ae am))(k:ah)(s:au)(p:al)(acc:ae am)(c:ah),s.heap.IsListIter I l k->s.heap.IsList l items->items.size=k+ts.length->(∀(j:ah) t,ts[j]?=aa t->∃q,items[k+j]?=aa (.ref q)/\s.heap.IsTuple q t.toArray/\t≠[])->s.heap.get? S=aa (stO (.ref p) c)->s.heap.IsTuple p acc.toArray->acc≠[]->acc.length+ts.flatten.length<=bo->
  (∀h' p',(∀b o,b≠I->b≠S->s.heap.get? b=aa o->h'.get? b=aa o)->(ts=[]/\p'=p\/s.heap.objs.size<=p'/\h'.get? p'=aa (tuN (acc++ts.flatten).toArray))->R (.ok (.ret (.ref p'))) {s with heap:=h'})->
  codeAny (ay prog w) A (.builtin "sum.loop" ⟨[.ref I,.ref S,cz 2,cz 0],[]⟩) R s
 |[],k,s,p,acc,c,hit,hl,hn,hts,hS,hp,ha,hz,hR=>by
  refine jg B2 ?_;rw[kx u7 _];show ϑ _ A.in1 (seqItems? (.ref S) >>= _) _ _ s;refine ao (gr hS rfl ?_);show ϑ _ A.in1 (tryCatch (gz (.ref I)) _ >>= _) _ _ s;refine ao (qx (oh hh hit hl (by rw[qo];simp at hn;lia) λh' eb=>?_));exact aE (hR h' p (λb o hb _ e=>eb b o hb e) (.inl ⟨rfl,rfl⟩))
 |t::ts,k,s,p,acc,c,hit,hl,hn,hts,hS,hp,ha,hz,hR=>by
  obtain⟨q,hq,tq,tne⟩:=hts 0 t rfl;obtain⟨oi,ei,ci,_⟩:=id hit;obtain⟨ol,el,cl,_⟩:=id hl;obtain⟨op,ep,cp,_⟩:=id hp;obtain⟨oq,eq,cq,_⟩:=id tq;have n1:S≠I:=dif hS rfl ei ci 0x4;have n2:l≠I:=dif el cl ei ci 0x4;have n3:p≠I:=dif ep cp ei ci 0x4;have n5:q≠I:=dif eq cq ei ci 0x4;refine jg B2 ?_;rw[kx u7 _];show ϑ _ A.in1 (seqItems? (.ref S) >>= _) _ _ s;refine ao (gr hS rfl ?_);show ϑ _ A.in1 (tryCatch (gz (.ref I)) _ >>= _) _ _ s;refine ao (qx (og hit hl (by simpa using hq) λh1 it1 sb=>?_));have k1:∀b,b≠I->h1.get? b=s.heap.get? b:=λb hb=>sb.2 b hb
  have mv:∀{b:al}{xs:br am},b≠I->s.heap.IsTuple b xs->h1.IsTuple b xs:=λhb ⟨o,e,r⟩=>⟨o,(k1 _ hb).trans e,r⟩
  rw[hU,aT] at hz;show ϑ _ A.in1 ((jv [cK q] (eB .Add (.ref p) (.ref q))).attempt >>= _) _ _ _;refine ao (jh (eD (aPc (mv n3 hp) (mv n5 tq) ha tne 0x1 ?_)));have hS1:(h1.push (tuN (acc++t).toArray)).get? S=aa (stO (.ref p) c):=bP _ ((k1 S n1).trans hS);show ϑ _ A.in1 (qw S (λ_=>#[.ref h1.objs.size]) >>= _) _ _ _;refine ao (qE hS1 rfl ?_);have hS2:=ib (eI λ_=>#[cK h1.objs.size]) hS1 rfl;refine ao (uo ?_);refine ao (qE hS2 rfl (aE ⟨uy u7 _,?_⟩));have oth:∀b,b≠S->((((h1.push (tuN (acc++t).toArray)).update S (eI λ_=>#[cK h1.objs.size])).update S (eI λ_=>#[cK h1.objs.size])).get? b)=(h1.push (tuN (acc++t).toArray)).get? b:=λb hb=>by
   rw[j3 _ _ (Ne.symm hb),j3 _ _ (Ne.symm hb)]
  have keep:∀b o,b≠S->h1.get? b=aa o->((((h1.push (tuN (acc++t).toArray)).update S (eI λ_=>#[cK h1.objs.size])).update S (eI λ_=>#[cK h1.objs.size])).get? b)=aa o:=λb o hb e=>(oth b hb).trans (bP _ e)
  have hS3:=ib (eI λ_=>#[cK h1.objs.size]) hS2 rfl;have hz1:h1.objs.size=s.heap.objs.size:=sb.1;have nS:h1.objs.size≠S:=λz=>fN _ (show S<S from va (bw hS) (hz1.symm.trans z))
  have tz:((((h1.push (tuN (acc++t).toArray)).update S (eI λ_=>#[cK h1.objs.size])).update S (eI λ_=>#[cK h1.objs.size])).get? h1.objs.size)=aa (tuN (acc++t).toArray):=(oth _ nS).trans (c6 _ rfl);refine loop hh hSl ts (k+1) _ h1.objs.size (acc++t) _ ?_ ?_ (by rw[hn,bp];lia) ?_ hS3 ⟨_,tz,rfl,_,rfl⟩ (by simp[ha]) (by rw[aT];lia) ?_
  ·obtain⟨o,e,r⟩:=it1;exact⟨o,keep _ _ (Ne.symm n1) e,r⟩
  ·obtain⟨o,e,r⟩:=hl;exact⟨o,keep _ _ (Ne.symm hSl) ((k1 _ n2).trans e),r⟩
  ·intro j u hu;obtain⟨q',g1,⟨o,e,c',r⟩,g3⟩:=hts (j+1) u (by simpa using hu);have m1:q'≠I:=dif e c' ei ci 0x4;have m2:q'≠S:=dif e c' hS rfl 0x4;exact⟨q',by rw[jp,yu 1 j];exact g1,⟨o,keep _ _ m2 ((k1 _ m1).trans e),c',r⟩,g3⟩
  ·intro h' p' kk hp';refine hR h' p' (λb o hb hbS e=>kk b o hb hbS (keep b o hbS ((k1 b hb).trans e))) (.inr ?_);rcases hp' with ⟨rfl,rfl⟩|⟨g1,g2⟩
   ·refine⟨by lia,?_⟩;have m1:h1.objs.size≠I:=λz=>fN _ (show I<I from va (bw ei) (hz1.symm.trans z))
    have:=kk _ _ m1 nS tz;simpa using this
   ·refine⟨?_,by simpa using g2⟩;have:(s.heap.objs.size:ah)<=(((h1.push (tuN (acc++t).toArray)).update S (eI λ_=>#[cK h1.objs.size])).update S (eI λ_=>#[cK h1.objs.size])).objs.size:=by
     rw[B3,B3,dS];lia
    exact c_ this g1
end
theorem aHq(a b:am):xu "sum" ⟨[a],[("start",b)]⟩=pure ():=by kernel_rfl
theorem ZQ{E:am->au->Prop}{s:au}{l p:al}{items:br am}{ts:ae (ae am)}{acc:ae am}{Q:am->au->Prop}(hh:A.handled=aj)(hl:s.heap.IsList l items)(hn:items.size=ts.length)(hts:∀(j:ah) t,ts[j]?=aa t->∃q,items[j]?=aa (.ref q)/\s.heap.IsTuple q t.toArray/\t≠[])(hp:s.heap.IsTuple p acc.toArray)(ha:acc≠[])(hz:acc.length+ts.flatten.length<=bo)
 (hQ:∀h' p',(∀b o,s.heap.get? b=aa o->h'.get? b=aa o)->(ts=[]/\p'=p\/s.heap.objs.size<=p'/\h'.get? p'=aa (tuN (acc++ts.flatten).toArray))->Q (.ref p') {s with heap:=h'}) :
  ϑ (ay prog w) A (call (.builtin "sum") [.ref l] [("start",.ref p)]) Q E s:=by
 obtain⟨ol,el,cl,_⟩:=id hl;obtain⟨op,ep,cp,dp⟩:=id hp;refine jw (qp F.plain_sum F.entry_sum (f_ (aHq _ _) ?_));unfold dn.«sum»;simp only[bp,ef];rw[aw 0x4];refine ao (f_ (show Do "sum" ["start"] 0 ⟨[],[("start",.ref p)]⟩=pure [aa (.ref p)] from rfl) ?_);refine ao (mE hl ?_);refine ao (aE ?_);have ty:∀o,(Shared.TypeIs {s with heap:=s.heap.push o} (.ref p) "tuple"):=λo=>⟨op,bP _ ep,cp⟩
 simp only[mq,je];refine ao (ao (ao (ll (b:=ak) (ty _) (by rw[jk];kernel_rfl) ?_)));simp only[gn,fE];refine aE (ao (ao (ll (T:= "tuple") (b:=ak) (ty _) (by rw[jk];kernel_rfl) ?_)));simp only[gn,fE];refine aE (ao (ao (ll (T:= "tuple") (b:=ak) (ty _) (by rw[jk];kernel_rfl) ?_)));simp only[gn,fE];refine aE (aE ?_);refine ao (iL ?_);have z1:(s.heap.push {cls:=.type "list_iterator",data:=.fields #[.ref l,.int 0 0]}).objs.size=s.heap.objs.size+1:=dS ..;have k0:∀b o,s.heap.get? b=aa o->((s.heap.push {cls:=.type "list_iterator",data:=.fields #[.ref l,.int 0 0]}).push (stO (.ref p) 0)).get? b=aa o:=λb o e=>bP _ (bP _ e)
 have lts:=bw el;refine aE ⟨uy u7 _,loop (I:=s.heap.objs.size) (S:=(s.heap.push {cls:=.type "list_iterator",data:=.fields #[.ref l,.int 0 0]}).objs.size) (l:=l) (items:=items) hh (by rw[z1];exact λz=>fN _ (show l<l from AB (va lts rfl) (va (l7 _) z))) ts 0 _ p acc 0 ⟨_,bP _ (c6 _ rfl),rfl,rfl⟩ (let ⟨o,e,r⟩:=hl;⟨o,k0 _ _ e,r⟩) 0x1 (λj t ht=>?_) (c6 _ rfl) ⟨op,k0 _ _ ep,cp,dp⟩ ha hz λh' p' kk hp'=>?_⟩
 ·obtain⟨q,g1,⟨o,e,r⟩,g3⟩:=hts j t ht;exact⟨q,by rw[lu];exact g1,⟨o,k0 _ _ e,r⟩,g3⟩
 ·refine hQ h' p' (λb o e=>kk b o ?_ ?_ (k0 b o e)) ?_
  ·exact cw (bw e)
  ·rw[z1];exact cw (lf (bw e))
  ·rcases hp' with z|⟨g1,g2⟩
   ·exact .inl z
   ·exact .inr ⟨by rw[dS,z1] at g1;lia,g2⟩
end Wv
namespace Mi
open PySem L2 PySem.SeqAt PySem.Spec PyProof.Rows
noncomputable def rT:ae D->ar (ae (ae D))
 |[]=>aa []
 |.tup (x::xs)::r=>(rT r).map ((x::xs)::·)
 |_::_=>aj
def aPd:D->D->Res D
 |.lst vs,.tup (a::as)=>match rT vs with
  |some ts=>if ϒ ((a::as).length+ts.flatten.length<=lim) then .ok (.tup (a::as++ts.flatten)) else .bad
  |none=>.bad
 |_,_=>.bad
def eqS(neg:ax)(x y:D):Res D:=match aHn x,aHn y with
 |some a,aa b=>if υ 5 a&&υ 5 b then .ok (.bl (neg !=nA a b)) else .bad
 |_,_=>.bad
section
variable [KFrag]
section
theorem ZR(I:Inv X Ψ σ H s):∀{ds:ae D}{tss:ae (ae D)}{ys:ae V},rT ds=aa tss->bJ All H ys ds->∃P:ae (al×ae V×ae am),ys=P.map (λp=>V.ref p.1)/\(∀p∈P,s.heap.IsTuple p.1 p.2.2.toArray/\p.2.2≠[])/\Vals (P.map (·.2.1)).flatten (P.map (·.2.2)).flatten/\bJ All H (P.map (·.2.1)).flatten tss.flatten
 |[],tss,ys,h,r=>by
  cases h;cases r;exact⟨[],rfl,λp hp=>(by cases hp),.nil,.nil⟩
 |d::ds,tss,ys,h,r=>by
  unfold rT at h;split at h
  ·rename_i e;cases e
  ·rename_i x xs r0 e;injection e with e1 e2
   subst e1 e2;cases hq:rT ds with
   |none=>rw[hq] at h;cases h
   |some us=>
    rw[hq] at h;cases h;cases r with
    |cons r1 r2=>
     obtain⟨P,g1,g2,g3,g4⟩:=ZR I hq r2;obtain⟨p,vs,rfl,e1,rr⟩:=r1.inv;obtain⟨its,vr,ht⟩:=j_ I e1;refine⟨(p,vs,its)::P,by rw[aI,g1],λq hq=>?_,by rw[aI,aI,hU,hU];exact vr.append g3,by rw[aI,hU,hU];exact rr.append g4⟩;rcases cj.mp hq with rfl|hq
     ·refine⟨ht,λz=>?_⟩;have l1:=vr.length;have l2:=rr.length;dsimp only at z;rw[z] at l1;simp at l1;rw[l1] at l2;simp at l2
     ·exact g2 q hq
  ·cases h
theorem aHr(hc:X.calm=ag)(hg:Gl X "sum")(hm:X.mg "sum"=aj)(ha:PE X a (gE fa ra))(hb:PE X b (gE fb rb))
 (hs:autoParam (cr [a] X.env=(ak,eval a X.env)::cr [] X.env) Ω) :
  PE X (.Call (.Name "sum" p) [a] [⟨aa "start",b,kp⟩] pos) (gE (b2 aPd fa fb) ak):=by
 rintro Ψ s σ H Q I ⟨ρ,d,E,h,q⟩;obtain⟨x,h1,h⟩:=aU h;obtain⟨y,h2,h⟩:=aU h;unfold aPd at h;split at h
 ·rename_i vs a0 as _;split at h
  ·rename_i ts hts;split at h
   ·rename_i hl;cases h;refine gL (mQ I hg hm boot_sum (callWith_kw ?_ (by rw[hs];rfl) (by rw[hs];rfl) rfl rfl));refine thn (bH ha dM hs pos Ψ s σ H (λus H1=>∃v,us=[v]/\bU H H1/\Rep All H1 v (.lst vs)) I ⟨ρ,_,E,h1,λv H1 s1 r1 _=>⟨v,rfl,s1,r1⟩⟩) λus s1 ζ=>?_;obtain⟨us',H1,I1,rv,v1,ev,sm1,r1⟩:=ζ
    subst ev;refine kws_cons (thn (hb Ψ s1 σ H1 (λv2 H2=>bU H1 H2/\Rep All H2 v2 (.tup (a0::as))) I1 ⟨ρ,_,E.same sm1,h2,λv2 H2 s2 r2 _=>⟨s2,r2⟩⟩) λu2 s2 ⟨v2,H2,I2,rv2,sm2,r2⟩=>kws_nil ?_);cases rv with
    |cons rv rn=>
     cases rn;obtain⟨l,ys,rfl,hl1,rr⟩:=(r1.same sm2).mK (K:=X.K);obtain⟨p0,xs0,rfl,e0,rr0⟩:=r2.inv;cases rv;cases rv2;obtain⟨its,vr,pl⟩:=mU I2 hl1;obtain⟨its0,vr0,pt⟩:=j_ I2 e0;obtain⟨P,g1,g2,g3,g4⟩:=ZR I2 hts rr;have hz:xs0.length+(P.map (·.2.1)).flatten.length<=bo:=by
      rw[rr0.length,g4.length];exact jK hl
     have lz0:=vr0.length;have lz1:=g3.length;have len0:its0≠[]:=λz=>by
      have l2:=rr0.length;rw[z] at lz0;simp at lz0;rw[lz0] at l2;simp at l2
     have lP:its.length=P.length:=by rw[<-vr.length,g1,az]
     refine Wv.ZQ (ts:=P.map (·.2.2)) (acc:=its0) (I2.ok.hd hc) pl (by rw[b6,az,lP]) (λj t ht=>?_) pt len0 (by rw[<-lz0,<-lz1];exact hz) λh' p' kk hp'=>?_
     ·rw[fA] at ht;cases hp:P[j]? with
      |none=>rw[hp] at ht;cases ht
      |some pp=>
       rw[hp] at ht;cases ht;obtain⟨k1,k2⟩:=g2 pp (jI hp);obtain⟨u,hu,ru⟩:=vr.get (i:=j) (x:=V.ref pp.1) (by rw[g1,fA,hp];rfl);cases ru;exact⟨pp.1,by rw[List.getElem?_toArray];exact hu,k1,k2⟩
     ·rcases hp' with ⟨z,rfl⟩|⟨z1,z2⟩
      ·have:P=[]:=by simpa using z
       subst this;have e4:ts.flatten=[]:=by
        cases hq:ts.flatten with
        |nil=>rfl
        |cons _ _=>rw[hq] at g4;cases g4
       rw[e4,b5] at q;exact⟨.ref p',H2,I2.kept kk,rfl,q _ _ (sm1.trans sm2) (.tup e0 rr0) λz=>by cases z⟩
      ·have fr:H2 p'=aj:=I2.hok.fresh z1;have sp:bU H2 (upd H2 p' (.tup (xs0++(P.map (·.2.1)).flatten))):=bU.upd fr;refine⟨.ref p',_,I2.laid (t':=s2.toks) (o:=.tup (xs0++(P.map (·.2.1)).flatten)) kk z1 ?_,rfl,q _ _ ((sm1.trans sm2).trans sp) (.tup aK ((rr0.append g4).same sp)) λz=>by cases z⟩;exact⟨by rw[aT];exact hz,_,vr0.append g3,_,z2,rfl,_,rfl⟩
   ·exact bx h
  ·exact bx h
 ·exact bx h
theorem aEm(hK:KFrag.K=X.K)(hu:X.A.units+20<c9)(I:Inv X Ψ σ H s)(ha:aHn x=aa a)(hb:aHn y=aa b)(e1:υ 5 a=ag)(e2:υ 5 b=ag)(p:Rep All H v x)(q:Rep All H u y)(rv:RelV v v')(ru:RelV u u'):RcAt X.A s v' u' (nA a b)/\tj X.A s v' u' (!nA a b):=by
 obtain⟨l1,xs1,rfl,sq1,rr1⟩:=ZM hK ha p;obtain⟨l2,xs2,rfl,sq2,rr2⟩:=ZM hK hb q;cases rv;cases ru;obtain⟨i1,vr1,h1⟩:=mU I sq1;obtain⟨i2,vr2,h2⟩:=mU I sq2;have z1:i1.toArray.size=a.length:=by rw[b6,<-vr1.length,rr1.length]
 have z2:i2.toArray.size=b.length:=by rw[b6,<-vr2.length,rr2.length]
 have hu0:X.A.units<c9:=by lia
 have hu1:X.A.in1.units+5<c9:=by show X.A.units+1+5<c9;lia
 have he:∀j (g1:j<i1.toArray.size) (g2:j<i2.toArray.size),EqAt X.A.in1 s i1.toArray[j] i2.toArray[j] (eqD (a.getD j .non) (b.getD j .non)):=by
  intro j g1 g2;obtain⟨v1,w1,q1⟩:=rr1.getD (j:=j) 0x1;obtain⟨v2,w2,q2⟩:=rr2.getD (j:=j) 0x1;obtain⟨u1,k1,l1⟩:=vr1.get w1;obtain⟨u2,k2,l2⟩:=vr2.get w2;have m1:i1.toArray[j]=u1:=by
   rw[dj (by simpa using g1)] at k1;simpa using ft k1
  have m2:i2.toArray[j]=u2:=by
   rw[dj (by simpa using g2)] at k2;simpa using ft k2
  rw[m1,m2];exact(M7 I 5 X.A.in1 hu1 (kE e1 0x1) (kE e2 0x1) q1 q2 l1 l2).2.2
 rw[nC];by_cases hz:a.length=b.length
 ·have r0:=AK h1 h2 0x1 hu0 he;have r0':=AL h1 h2 0x1 hu0 he;rw[z1] at r0 r0';rw[show min a.length b.length=a.length by lia,show(a.length==b.length)=ag by simpa using hz,kj];exact⟨r0,r0'⟩
 ·have hz':(i1.toArray.size !=i2.toArray.size)=ag:=by rw[z1,z2];simpa using hz
  rw[show(a.length==b.length)=ak by simpa using hz,xg];exact⟨AM h1 h2 hz' hu0,AN h1 h2 hz' hu0⟩
theorem ZV(hK:KFrag.K=X.K)(hu:X.A.units+20<c9):OpR X (dL .Eq) (r2 (eqS ak) ag):=by
 rintro Ψ s σ H x y v u Q I rx ry ⟨a,b,d,p,q,e,k⟩;unfold eqS at e;split at e
 ·rename_i xa xb ha hb;split at e
  ·rename_i hl;cases e;rw[aS] at hl;exact(aEm hK hu I ha hb hl.1 hl.2 p q rx ry).1 X.prog X.w X.xe _ ⟨.bl _,H,I,rfl,by rw[Bool.false_bne] at k;exact k.bl⟩
  ·exact bx e
 ·exact bx e
theorem aEn(hK:KFrag.K=X.K)(hu:X.A.units+20<c9):OpR X (dL .NotEq) (r2 (eqS ag) ag):=by
 rintro Ψ s σ H x y v u Q I rx ry ⟨a,b,d,p,q,e,k⟩;unfold eqS at e;split at e
 ·rename_i xa xb ha hb;split at e
  ·rename_i hl;cases e;rw[aS] at hl;refine(aEm hK hu I ha hb hl.1 hl.2 p q rx ry).2 X.prog X.w X.xe _ ⟨.bl _,H,I,rfl,?_⟩;rw[show(!nA xa xb)=(ag !=nA xa xb) by cases nA xa xb<;>rfl];exact k.bl
  ·exact bx e
 ·exact bx e
end
section
theorem aLs{w:ah->ax}{ws:ae V}{ds:ae D}{m k:ah}(E0:ES w H (ws.map aa) ds)(hw:ws.length=m)(hd:ds.length=m)(hown:∀i,i<m->own i=w i)(hlt:∀i,w i=ag->i<m) :
  ES own H (ws.map aa++bX k aj) (ds++bX k .uD)/\∀a,Own own (ws.map aa++bX k aj) a↔Own w (ws.map aa) a:=by
 have low:∀i,i<m->(ws.map aa++bX k aj)[i]?=(ws.map aa)[i]?:=λi hi=>by rw[dA (by simp[hw,hi])]
 have high:∀i v,m<=i->(ws.map aa++bX k aj)[i]?≠aa (aa v):=λi v hi e=>by
  rw[fg (by simp[hw];lia),iE] at e;split at e<;>cases e
 have hO:∀a,Own own (ws.map aa++bX k aj) a↔Own w (ws.map aa) a:=λa=>by
  constructor
  ·rintro⟨i,hi,e⟩;by_cases h:i<m
   ·exact⟨i,by rw[<-hown i h];exact hi,by rw[<-low i h];exact e⟩
   ·exact bd e (high i _ 0x1)
  ·rintro⟨i,hi,e⟩;have h:=hlt i hi;exact⟨i,by rw[hown i h];exact hi,by rw[low i h];exact e⟩
 have hOf:(λa=>¬Own own (ws.map aa++bX k aj) a)=λa=>¬Own w (ws.map aa) a:=funext λa=>by rw[hO]
 have gd:∀i,i<m->(ds++bX k D.uD).getD i .uD=ds.getD i .uD:=λi hi=>by
  rw[b9,dA 0x1,b9]
 refine⟨⟨by simp[hw,hd],λi hi=>?_,λi v hi hv=>?_⟩,hO⟩
 ·have hl:i<m:=gS λhge=>hi (by
   rw[b9,fg 0x1,iE];split<;>rfl)
  rw[gd i hl] at hi ⊢;obtain⟨v,g1,g2⟩:=E0.at_ i hi;exact⟨v,by rw[low i hl];exact g1,λho=>by rw[hOf];exact g2 (by rw[<-hown i hl];exact ho)⟩
 ·have hl:i<m:=gS λhge=>high i v hge hv
  rw[low i hl] at hv;rw[gd i hl];obtain⟨a,o,g1,g2,g3,g4,g5,g6⟩:=E0.own i v (by rw[<-hown i hl];exact hi) hv;refine⟨a,o,g1,g2,g3,g4,g5,λj hj hs=>?_⟩;have hjl:j<m:=gS λhge=>high j _ hge hs
  exact g6 j (by rw[<-hown j hjl];exact hj) (by rw[<-low j hjl];exact hs)
end
end
noncomputable def endC(j:ah):Fl->Res D
 |.rt (.tup (d::ρ))=>.ok (.tup [d,ρ.getD j .uD])
 |_=>.bad
def fnC(j n m:ah)(f:FS):ae D->Res D:=λds=>do
 let r <- f (ds++bX (m-n) .uD)
 endC j r
noncomputable def isU:D->ax
 |.uD=>ag
 |_=>ak
section
variable [KFrag]
section
variable {own:ah->ax}
def RpU(own:ah->ax)(σ:L2.St)(i:ah)(H:Hp)(v:V)(d:D):Prop:=(d=.uD/\σ[i]?=aa (aa v))\/Rep (λa=>¬Own own σ a) H v d
def aHs(own:ah->ax)(σ:L2.St)(i:ah)(H:Hp):ae V->ae D->Prop
 |[],[]=>gi
 |v::vs,d::ds=>RpU own σ i H v d/\aHs own σ i H vs ds
 |_,_=>cg
theorem aHs.length:∀{vs:ae V}{ds:ae D},aHs own σ i H vs ds->vs.length=ds.length
 |[],[],_=>rfl
 |_::_,_::_,h=>cy (·+1) h.2.length
 |[],_::_,h=>h.elim
 |_::_,[],h=>h.elim
theorem aHs.at:∀{vs:ae V}{ds:ae D}{m:ah},aHs own σ i H vs ds->m<ds.length->∃v,vs[m]?=aa v/\RpU own σ i H v (ds.getD m .uD)
 |[],[],_,_,h=>bd h (xI _)
 |v::_,_::_,0,r,_=>⟨v,rfl,r.1⟩
 |_::_,_::_,m+1,r,h=>r.2.at (xL h)
 |[],_::_,_,h,_=>h.elim
 |_::_,[],_,h,_=>h.elim
noncomputable def gAD(own:ah->ax)(i:ah)(f:FA):TA:=λσ H Q=>∃ρ ds,ES own H σ ρ/\f ρ=.ok ds/\∀vs H',bU H H'->aHs own σ i H' vs ds->Q vs H'
def bUo(i:ah):FE:=λρ=>if isU (ρ.getD i .uD) then .bad else .ok .uD
theorem aLt:PA X [] (gAD own i aY):=PA.imp dM λσ H Q z0=>by obtain⟨ρ,ds,E,h,q⟩:=z0;cases h;exact q [] H (bU.refl H) trivial
theorem ZW(ho:own m=ak)(hN:X.N[m]?=aa x)(hv:Vis X.env.scope x)(hes:PA X es (gAD own i f))(hd:autoParam (nDb x) Λ)(hcd:autoParam (nCd x) Λ)(hs:autoParam (cr (.Name x pos::es) X.env=(ak,eval (.Name x pos) X.env)::cr es X.env) Ω):PA X (.Name x pos::es) (gAD own i (aF (b8 m) f)):=PA.imp (bH (aV hN hv hd hcd) hes hs) λσ H Q z0=>by
 obtain⟨ρ,ds,E,h,q⟩:=z0;obtain⟨x,h1,h⟩:=aU h;obtain⟨xs,h2,h⟩:=aU h;cases h;obtain⟨v,hv,rv⟩:=aH0 E ho h1;exact⟨v,hv,ρ,xs,E,h2,λvs H2 s2 r2=>q _ _ s2 ⟨.inr (rv.same s2),r2⟩⟩
theorem aLu(ho:own i=ag)(hN:X.N[i]?=aa x)(hv:Vis X.env.scope x)(hes:PA X es (gAD own i f))(hd:autoParam (nDb x) Λ)(hcd:autoParam (nCd x) Λ)(hs:autoParam (cr (.Name x pos::es) X.env=(ak,eval (.Name x pos) X.env)::cr es X.env) Ω):PA X (.Name x pos::es) (gAD own i (aF (bUo i) f)):=PA.imp (bH (aV hN hv hd hcd) hes hs) λσ H Q z0=>by
 obtain⟨ρ,ds,E,h,q⟩:=z0;obtain⟨x,h1,h⟩:=aU h;obtain⟨xs,h2,h⟩:=aU h;cases h;unfold bUo at h1;split at h1
 ·exact bx h1
 ·rename_i hu;cases h1;obtain⟨v,hv,_⟩:=E.at_ i (λz=>hu (by rw[z];rfl));exact⟨v,hv,ρ,xs,E,h2,λvs H2 s2 r2=>q _ _ s2 ⟨.inl ⟨rfl,hv⟩,r2⟩⟩
theorem aPe(he:PE X e (gE fe re))(hes:PA X es (gAD own i f))(hs:autoParam (zSE X e es) Ω):PA X (e::es) (gAD own i (aF (bPu fe) f)):=PA.imp (bH he hes hs) λσ H Q z0=>by
 obtain⟨ρ,ds,E,h,q⟩:=z0;obtain⟨x,h1,h⟩:=aU h;obtain⟨xs,h2,h⟩:=aU h;cases h;obtain⟨y,h3,h1⟩:=aU h1;split at h1
 ·rename_i hp;cases h1;exact⟨ρ,_,E.er,h3,λv H1 s1 r1 _=>⟨ρ,xs,E.same s1,h2,λvs H2 s2 r2=>q _ _ (s1.trans s2) ⟨.inr ((r1.bL hp).same s2),r2⟩⟩⟩
 ·exact bx h1
end
end
open Classical in
noncomputable def chL(f:ae D->Res D)(j:ah)(xs:ae D)(ds:ae D):Res (D×ae D):=
 if h:∃p:D×ae D,∀b,f (ds.set j (.cel b xs))=.ok (.tup [p.1,.cel b p.2]) then .ok h.choose else .bad
theorem aLv(h:chL f j xs ds=.ok p):∀b,f (ds.set j (.cel b xs))=.ok (.tup [p.1,.cel b p.2]):=by
 unfold chL at h;split at h
 ·rename_i e;cases h;exact e.choose_spec
 ·exact bx h
theorem aLw(h:∀b,f (ds.set j (.cel b xs))=.ok (.tup [r,.cel b xs'])):chL f j xs ds=.ok (r,xs'):=by
 have e:∃p:D×ae D,∀b,f (ds.set j (.cel b xs))=.ok (.tup [p.1,.cel b p.2]):=⟨(r,xs'),h⟩
 have q:chL f j xs ds=.ok e.choose:=by unfold chL;rw[tw e]
 rw[q];have z:=e.choose_spec 0;rw[h 0] at z;injection z with z
 injection z with z
 injection z with z1 z2
 injection z2 with z2
 injection z2 with _ z2
 rw[z1,z2]
def QC(f:ae D->Res D)(n j i:ah)(fs:FA):FX:=λρ=>do
 let ds <- fs ρ
 match ρ.getD i .uD with
 |.lst xs=>if ϒ (ds.length=n)&&(ϒ (j<n)&&isU (ds.getD j .non)) then (do
   let p <- chL f j xs ds
   if p.1.pure&&ε p.2 then .ok (p.1,ρ.set i (.lst p.2)) else .bad) else .bad
 |_=>.bad
variable [KFrag]
section
def aR0(f:ae D->Res D)(j n:ah):Sp:=λvs H Q _=>∃(ds:ae D)(a:al)(xs xs':ae D)(d:D),vs.length=n/\ds.length=n/\j<n/\ES (own1 j) H (vs.map aa) ds/\ds.getD j .uD=.cel a xs/\f ds=.ok (.tup [d,.cel a xs'])/\d.pure=ag/\
 ∀v H',(∀b o,H b=aa o->b≠a->H' b=aa o)->Rep All H' (.ref a) (.cel a xs')->ε xs'=ag->Rep All H' v d->Q v H'
theorem aD5{E:XK}(hx:own rtX=ag)(hN:n<=N.length)(hown:∀i,i<n->own i=own1 j i)(h0:aR0 (fnC j n N.length f) j n vs H Q E):tS own f {nx:=λ_ H'=>Q .non H',rt:=Q} (L2.start N vs) H:=by
 obtain⟨ds,a,xs,xs',d,hvl,hl,hj,E0,hdj,h,dp,q⟩:=h0;obtain⟨fl,h1,h2⟩:=aU h;have hst:L2.start N vs=vs.map aa++bX (N.length-n) aj:=by
  show vs.map aa++bX (N.length-vs.length) aj=_;rw[hvl]
 rw[hst];obtain⟨E1,hO⟩:=aLs (k:=N.length-n) E0 hvl hl hown (λi hi=>by simp[own1] at hi;lia);have hOn:∀b,Own (own1 j) (vs.map aa) b->b=a:=λb z=>by
  obtain⟨i,hi,e⟩:=z;have:i=j:=by simpa[own1] using hi
  subst this;obtain⟨b',o,e1,g2,_⟩:=E0.own i _ hi e;cases e1;rw[hdj] at g2;cases xZ g2;rfl
 refine⟨_,fl,E1,h1,?_⟩;cases fl with
 |nx ρ'=>exact bx h2
 |bk ρ'=>exact bx h2
 |ct ρ'=>exact bx h2
 |rt d'=>
  show kRt own _ _ _ d';unfold kRt;rw[aq hx];unfold endC at h2;split at h2
  ·rename_i d1 ρ' heq;cases heq;injection h2 with h2
   injection h2 with h2
   injection h2 with z1 z2
   injection z2 with z2
   subst z1;refine⟨_,_,rfl,λv σ' H' ku E' r=>?_⟩;obtain⟨w',y2,_⟩:=E'.at_ j (by rw[z2];intro z;cases z);obtain⟨b,o,rfl,g4,g5,_⟩:=E'.own j w' (by rw[hown j hj];simp[own1]) y2;rw[z2] at g4 g5;cases xZ g4;exact q v H' (λc o e n1=>(ku c o e (by rw[hO];exact λz=>n1 (hOn c z))).1) g4 g5 (r.bL dp)
  ·exact bx h2
def aNx(P:bS)(w:bu)(K:bi)(mg:Str->ar am)(base:bc)(k:ah)(x:Str)(n j:ah)(f:ae D->Res D):Prop:=
 ∃(fad:al)(fd:dm)(ps:ae Str),lJ P w K mg base CX0 k fad fd ps (aR0 f j n)/\mg x=aa (.ref fad)/\gl K (.ref fad)=ag/\Binds K fd ps []
theorem aHt{K:bi}{mg:Str->ar am}{base:bc}{x:Str}{k:ah}{st:bz}{fad:al}{fd:dm}{N ps:ae Str}{fs:FS}(j:ah)(F:Fun K x x st fad fd)(hm:mg x=aa (.ref fad))(hb:Binds K fd ps [])(S:bZ N ps (aN st))(own:ah->ax)(hown:∀i,i<ps.length->own i=own1 j i)(hN:ps.length<=N.length)
 (hbody:∀(cdv:am) (A:cf) (outer:ae cS) (s:au) (H:Hp) (E:XK),lH k (A.deeper (eR x (aN st) s.heap.objs.size fad cdv))->PSs (wQ CX0 P w K mg base N x (aN st) fad cdv A outer s H E).nox (dR st) (tS own fs))(hx:autoParam (own rtX=ag) Ω):aNx P w K mg base (k+1) x ps.length j (fnC j ps.length N.length fs):=
 ⟨fad,fd,ps,F.ok S (λvs H Q E h=>by obtain⟨_,_,_,_,_,h,_⟩:=h;exact h) λcdv A outer s H vs Q E hr h=>⟨_,hbody cdv A outer s H E hr,aD5 hx hN hown h⟩,hm,F.kp,hb⟩
theorem aS1(E:ES own H σ ρ)(ho:own i=ag)(hσ:σ[i]?=aa (aa (.ref a)))(rs:aHs own σ i H vs ds)(hj:j<ds.length)(hu:isU (ds.getD j .non)=ag)(r:Rep All H (.ref a) (.cel a xs))(hin:ε xs=ag)(ha:H a=aa o)(hm:JB o=ag):ES (own1 j) H (vs.map aa) (ds.set j (.cel a xs)):=by
 have hl:=rs.length;have hOa:Own own σ a:=⟨i,ho,hσ⟩
 have vj:vs[j]?=aa (.ref a):=by
  obtain⟨v,e,h⟩:=rs.at hj;have u:ds.getD j .uD=.uD:=by
   rw[b9,dj hj] at hu ⊢
   revert hu
   show isU ds[j]=ag->ds[j]=.uD;cases ds[j]<;>intro z<;>first|rfl|cases z
  rw[u] at h;rcases h with ⟨_,h⟩|h
  ·rw[hσ] at h;cases h;exact e
  ·exact(Rep.uD h).elim
 have hOn:∀b,Own (own1 j) (vs.map aa) b->b=a:=λb z=>by
  obtain⟨m,hm',e⟩:=z;have:m=j:=by simpa[own1] using hm'
  subst this;rw[fA,vj] at e;simpa using e.symm
 refine⟨by rw[az,w_];exact hl,λm hm'=>?_,λm v hm' hv=>?_⟩
 ·by_cases z:m=j
  ·subst z;exact⟨.ref a,by rw[fA,vj];rfl,λq=>by simp[own1] at q⟩
  ·have e:(ds.set j (.cel a xs)).getD m .uD=ds.getD m .uD:=by
    rw[b9,du (Ne.symm z),b9]
   rw[e] at hm' ⊢;have hlt:m<ds.length:=gS λq=>hm' (by rw[b9,io q];rfl)
   obtain⟨v,e1,h⟩:=rs.at hlt;refine⟨v,by rw[fA,e1];rfl,λ_=>?_⟩;rcases h with ⟨h,_⟩|h
   ·exact bd h hm'
   ·exact h.mono λb hb q=>hb (by rw[hOn b q];exact hOa)
 ·have:m=j:=by simpa[own1] using hm'
  subst this;rw[fA,vj] at hv;have hv:V.ref a=v:=by simpa using hv
  subst hv;have e:(ds.set m (.cel a xs)).getD m .uD=.cel a xs:=by
   rw[b9,fy hj];rfl
  rw[e];exact⟨a,o,rfl,r,hin,ha,hm,λq hq _=>by simpa[own1] using hq⟩
theorem aD6(C:aNx X.prog X.w X.K X.mg X.base k x n j f)(hr:lH k' X.A)(hkk:k<=k')(hg:Gl X x)(ho:own i=ag)(ha:PA X (e::es) (gAD own i fs))(hdb:autoParam (nDb x) Λ)
 (he:autoParam (zSE X e es) Ω)(hpl:autoParam (zSP X pos es) Ω):PE X (.Call (.Name x p) (e::es) [] pos) (gX own (QC f n j i fs)):=by
 obtain⟨fad,fd,ps,F,hm,hk,hb⟩:=C;refine PE.imp (HW F (hr.mono hkk) hg hm hk hb .nil VV ha hdb he hpl) λσ H Q ζ=>?_;obtain⟨ρ,d,ρ',E,h,q⟩:=ζ
 obtain⟨ds,h1,h⟩:=aU h;split at h
 ·rename_i xs hx;split at h
  ·rename_i hn;rw[aS,aS] at hn;obtain⟨n1,n2,n3⟩:=hn;have n1:=eg n1;have n2:=eg n2;obtain⟨⟨r0,xs'⟩,h2,h⟩:=aU h;split at h
   ·rename_i hp;rw[aS] at hp;cases h;have hcx:xY (ρ.getD i .uD)=aa xs:=by rw[hx];rfl
    obtain⟨a,vs0,hσ,hHa,rr,hin,r,_⟩:=uK E ho hcx;refine⟨ρ,ds,E,h1,λvs H1 s1 rs=>?_⟩;dsimp only;rw[b5];have E1:=E.same s1;refine⟨ds.set j (.cel a xs),a,xs,xs',r0,by rw[rs.length,n1],by rw[w_,n1],n2,aS1 E1 ho hσ rs 0x1 n3 (.cel (s1 _ _ hHa) trivial (rr.same s1)) hin (s1 _ _ hHa) rfl,?_,aLv h2 a,hp.1,λv H' k1 r1 hin1 rv=>?_⟩
    ·rw[b9,fy 0x1];rfl
    ·obtain⟨xs2,_,e2,_,rr2⟩:=r1.inv;obtain⟨E2,k2⟩:=E1.aOv ho hσ k1 e2 rfl (.lst e2 trivial rr2:Rep All H' (.ref a) (.lst xs')) hin1;exact q v H' ((KU.same s1).trans k2) E2 (.set ho) (rv.bL hp.1)
   ·exact bx h
  ·exact bx h
 ·exact bx h
end
end Mi
namespace HT
open PySem PySem.Spec PyProof.Rows
theorem qY{lo hi:ar ai}(ht:jr s.heap t items)(hs:s.heap.IsSliceOf sl vl vu .none)(pl:hZ vl lo)(pu:hZ vu hi)
 (h1:sIx items.size 0 lo=0)(h2:sIx items.size items.size hi=items.size)(h:Q (.ref t) s):ϑ (ay prog w) A (ja (.ref t) (.ref sl)) Q E s:=by
 obtain⟨o,ho,hc,hd⟩:=id hs;have tS:s.TypeIs (.ref sl) "slice":=⟨o,ho,hc⟩
 have tT:=ht.typeIs;unfold ja
 try with_reducible refine eD ?_
 first|refine ao (aE ?_)|skip
 refine ao (Ao tT 0x4 ?_);refine ao (jb tT slot_tuple_getitem (jS slot_tuple_getitem tT Ap ?_ (Aq _ _)));show ϑ _ _ (sC (.ref t) >>= _) _ _ s;refine ao (sD ht (ao (iF tS ?_)));rw[aq 0x4];refine ao (mD hs pl pu ?_);rw[h1,h2];show ϑ _ _ (if (((0:ah):ai)==0&&(1:ai)==1&&(items.size-0)==items.size)=ag then _ else _) _ _ s;rw[aq 0x2];refine ao (ao (iF tT (aE ?_)));rw[aq 0x4];exact ao (jj (aE ⟨_,rfl,aE h⟩))
end HT
namespace Mi
open PySem L2 PySem.SeqAt PySem.Spec PyProof.Rows
def aPf:D->ar ai->ar ai->Res D
 |.tup xs,lo,hi=>if ε xs then .ok (.tup (cutD xs lo hi)) else .bad
 |d,lo,hi=>aB0 d lo hi
def aR1(a:FE)(lo hi:ae D->Res (ar ai)):FE:=λρ=>do let x <- a ρ;let l <- lo ρ;let h <- hi ρ;aPf x l h
variable [KFrag]
section
theorem aLx(hK:KFrag.K=X.K):SlR X (λx lo hi H Q=>∃a d,Rep All H x a/\aPf a lo hi=.ok d/\kR H d ag Q):=by
 rintro Ψ s σ H x v vl vu lo hi sl Q I rx hs pl pu ⟨a,d,p,e,k⟩;by_cases hz:∃z,a=.tup z
 ·obtain⟨z,rfl⟩:=hz;replace e:(if ε z then τ (ν (cutD z lo hi)) else .bad)=.ok d:=e;split at e
  ·rename_i hp;cases e;by_cases hw:G9 z.length 0 lo=0/\G9 z.length z.length hi=z.length
   ·have p0:=p;obtain⟨l,xs,rfl,ee,rr⟩:=p.iD;cases rx;obtain⟨its,r,ht,hsz⟩:=I.tuple (.of ee);have hlen:its.toArray.size=z.length:=by rw[b6,<-r.length,rr.length]
    refine⟨"tuple",_,slot_tuple_getitem.lookup,ht.typeIs,HT.qY ht hs pl pu (by rw[hlen,NP];exact hw.1) (by rw[hlen,NP];exact hw.2) ⟨.ref l,H,I,rfl,?_⟩⟩;have ec:cutD z lo hi=z:=by
     unfold cutD;rw[hw.1,hw.2,qy,B4,Ba]
    rw[ec] at k;exact k _ _ (.refl H) p0 λ_=>p0.bL (by rw[ξ];exact hp)
   ·refine WY hK Ψ s σ H x v vl vu lo hi sl Q I rx hs pl pu ⟨_,_,p,?_,k⟩;show(if !ε z||ϒ (G9 z.length 0 lo=0/\G9 z.length z.length hi=z.length) then (Res.bad:Res D) else τ (ν (cutD z lo hi)))=_;rw[hp,cx hw];rfl
  ·exact bx e
 ·refine WY hK Ψ s σ H x v vl vu lo hi sl Q I rx hs pl pu ⟨a,d,p,?_,k⟩;cases a<;>first|exact e|exact bd ⟨_,rfl⟩ hz
theorem aLy{lo hi:ar Expr}(hK:KFrag.K=X.K)(he:PE X e (gE fe re))(hl:PO X lo (gO fl))(hh:PO X hi (gO fh)):PE X (.Subscript e (.Slice lo hi aj p2) pos) (gE (aR1 fe fl fh) ag):=
 PE.imp (L_ (aLx hK) he hl hh) λσ H Q z0=>by
  obtain⟨ρ,d,E,h,q⟩:=z0;obtain⟨x,h1,h⟩:=aU h;obtain⟨l,h2,h⟩:=aU h;obtain⟨u,h3,h⟩:=aU h;exact⟨ρ,x,E,h1,λv H1 s1 r1 _=>⟨ρ,l,E.same s1,h2,λH2 s2=>⟨ρ,u,E.same (s1.trans s2),h3,λH3 s3=>⟨x,d,r1.same (s2.trans s3),h,q.imp ((s1.trans s2).trans s3) id⟩⟩⟩⟩
end
end Mi
set_option hygiene false
local macro_rules|`(0xb)=>`(dJ N ks M T R)|`(0xc)=>`(bQ (fB hK) 0x3 B.len fC (aB aA aM))|`(0xd)=>`(aX sc.nd rfl 0x0)|`(0xe)=>`(ds N g w (hsD N M T) b z C cs V ak x8 x9 x10 (.scr (wL N W δ)))|`(0xf)=>`(aV rfl 0x0)|`(0x10)=>`((bj 26).map (sy N))|`(0x11)=>`(M++T.map tr)|`(0x12)=>`(aJ rfl rfl rfl)|`(0x13)=>`(aC rfl rfl)|`(0x14)=>`(dG p5 hr 0x4 0x3 rfl rfl 0x0 (gV))|`(0x15)=>`(LW ns cs N m M T R l n cell b x10 x11 x12 x13 x14 ks C a x18)|`(0x16)=>`(cZ fG 0x3 B.tuple eE (aB aA aM))|`(0x17)=>`(T.map (tkD N))|`(0x18)=>`(cT body A z0.call)|`(0x19)=>`(.tup (W0.map (sy N)))|`(0x1a)=>`(LW ns cs N m M T R l n cell b x10 x11 x12 x13 x14 ks (C++C') a (.scr X))|`(0x1b)=>`(W.map (sy N))|`(0x1c)=>`(dk cs (n+1))|`(0x1d)=>`((.int (most:ai)))|`(0x1e)=>`(.scr (wL N W δ))|`(0x1f)=>`(b2 (bG .mod) (b2 (bG .add) (b2 (bG .fdiv) jA aK1) (b2 xQ rZ (b2 (bG .add) iI (b2 (bG .mod) (b2 (bG .fdiv) jA aG6) aJ2)))) sE)|`(0x20)=>`((bj m).map (sy N))|`(0x21)=>`(.lst (V.map (sy N)))|`(0x22)=>`((ν (ks.map (sy N))).pure&&((ν (M.map (rwD N))).pure&&((ν 0x17).pure&&((ν (R.map (ruD N))).pure&&ag))))
set_option hygiene true
section
local macro_rules | `(tactic| trivial) => `(tactic| first | exact Or.inl rfl | exact Or.inr rfl | exact Or.inr (Or.inl rfl) | exact Or.inr (Or.inr rfl))
namespace Lk56
open PySem L2 Mi PySem.W
noncomputable def top(i:ah):bz:=PySem.Challenge.pw_hookmill_k56_whole_adds_up.main.body.getD i (.Pass ⟨0,0,0,0⟩)
abbrev qZ:bz:=top 4
noncomputable def TF:ah->ax:=λi=>i==1
def TJ:FS:=bF (cU ag 1 (bC (.dct [])) ag) (bF (IW (bR (b2 getD nO c7) ak) (tgN [2,3,4]) (aBo 1 gF (jB (aF e_ (aF iI aY))))) (bF (IW (bR (b2 getD nO iU) ak) (tgN [2,3,5,6]) (aBo 1 gF (jB (aF e_ (aF (b2 xU (jB (aF jA aY)) nQ) aY))))) (aG8 1)))
def iQ:ae D->Res D:=fnS 1 7 TJ
abbrev q_:bz:=top 7
noncomputable def TQ:ah->ax:=λi=>i==1||i==2
def ob:FS:=bF (SJ 2 3) (bF (R3 1 (b2 getD e_ fD)) (aKn 2 (b1 aL7 (b2 getD e_ c7))))
def oc:FT:=bTr gF
def v_:FS:=bF (cU ag 1 (jJ aY) ag) (bF (cU ag 2 (jJ (aF (bPu nO) aY)) ag) (bF (aNr oc ob) (V6 (bD fU (aF iT aY)) ak)))
def iR:ae D->Res D:=fnS 1 4 v_
abbrev J7:bz:=rowOf (top 8) 0
def lW:ae (Str×Srx):=[("words",.par 1),("left",.exp (bD mG (aF iT aY))),("known",.par 2)]
abbrev k_:bz:=rowOf (top 9) 0
def ruE:FE:=b1 J2 (d8 3 (bR (b2 getD iT jH) ak) oG gG (jB (aF (jB (aF (b2 getD e_ fD) (aF (b2 getD e_ c7) aY))) (aF e_ aY))) ak)
def mkE:FE:=b1 C_ (d8 3 (bR (b2 getD iT c7) ak) oG gG (jB (aF (b2 getD e_ fD) (aF (bC (.bl ag)) aY))) ak)
def eX:ae (Str×Srx):=[("heads",.exp (bD (nZ 1 iQ) (aF iT aY))),("makers",.exp mkE),("rules",.exp ruE),("most",.par 2),("calls",.exp fD),("copies",.exp fD),("drops",.exp fD)]
abbrev rA:bz:=rowOf (top 9) 1
abbrev iY:bz:=rowOf (top 9) 2
abbrev yH:bz:=rowOf (top 9) 3
abbrev mY:bz:=rowOf (top 9) 4
abbrev rB:bz:=top 6
def fY:ae D->Res D:=aJ6 eX iR
abbrev oO:bz:=top 11
noncomputable def J8:ah->ax:=λi=>i==0||i==1000000
def uQ:FS:=bF (cU ak 1 (b2 getD nO fD) ak) (bF (cU ak 2 (b2 getD nO c7) ak) (bF (JX 0 c7 (b2 (bG .add) gF c7)) (bF (sIf (bTB (b2 (u_ .lt) gF (bD mG (aF iT aY)))) (qD (b2 getD iT gF) ak) tW) (bF (sIf (bTB (b2 (lG .eq) (bD mG (aF iT aY)) fD)) (qD (b2 (bG .add) (b2 xQ (b2 xQ gF gF) jH) gF) ag) tW) (qD (b2 (bG .add) (b2 (bG .fdiv) (b2 getD iT (b2 (bG .mod) gF (bD mG (aF iT aY)))) iU) (b2 xQ gF gF)) ag)))))
def a_:ae D->Res D:=fnX 1 1 3 uQ
abbrev gY:bz:=top 12
noncomputable def DX:ah->ax:=λi=>i==0||i==9||i==1000000
def nb:FS:=bF (cU ak 11 (b2 (bG .mod) (b2 (bG .add) (b2 xQ qC e_) iI) sE) ag) (sIf (bTB (b2 (lG .eq) (b2 (bG .mod) gF jH) c7)) (R3 9 (b2 xQ (b2 getD iT (b2 (bG .mod) (b2 (bG .add) iI (b2 (bG .mod) jW aE6)) sE)) (b2 (bG .add) c7 (b2 (bG .fdiv) jW aE6)))) (sIf (bTB (b2 (lG .eq) (b2 (bG .mod) gF jH) iU)) (bF (cU ak 12 (b2 getD iT (b2 (bG .mod) (b2 (bG .add) iI (b2 (bG .mod) jW MP)) sE)) ak) (bF (cU ak 13 (b2 getD iT (b2 (bG .mod) (b2 (bG .add) iI (b2 (bG .fdiv) jW MP)) sE)) ak) (R3 9 (b2 (bG .add) (b2 (bG .add) (b2 (bG .add) (oK nY gR (fZ oV)) j8) tU) (oK nY (fZ oV) gR))))) (R3 9 (b2 (bG .add) (b2 (bG .add) (oK nY gR (fZ oV)) (b2 getD iT jW)) (oK nY (fZ oV) gR)))))
def sg0:FS:=jD ak 2 (dZ a_ 1 0 aY)
def DY:FS:=bF (cU ak 1 (bC (.str "abcdefghijklmnopqrstuvwxyz")) ag) (bF sg0 (bF (cU ak 3 (b2 getD (jJ (aF c7 (aF jH (aF aJ2 (aF (bC (.int 7)) (aF aNp (aF (bC (.int 25)) aY))))))) (b2 (bG .mod) (b2 (bG .fdiv) gF jH) MP)) ak) (bF (cU ak 4 (b2 (bG .mod) (b2 (bG .fdiv) gF aBm) sE) ag) (bF (jD ak 5 (dZ a_ 1 0 aY)) (bF (cU ak 6 (b2 (bG .mod) jA aK1) ag) (bF (cU ak 7 (bM joinM (bC (.str "")) (aF (d8 14 (nR (aF nQ aY) j9) oG gG (b2 getD iT 0x1f) ak) aY)) ag) (bF (jD ak 8 (x2L (bG .mod) (dZ a_ 1 0 aY) (b2 (bG .add) nQ c7))) (bF (sIf (bTB (b2 (lG .eq) (b2 (bG .mod) gF jH) iU)) (cU ak 7 (oK nY gR (fZ MP)) ag) tW) (bF (cU ag 9 (jJ aY) ag) (bF (IW (nR (aF sE aY) j9) (tg1 10) nb) (bF (sIf (bOr (bTB (b2 inX (bC (.str "copy")) j5)) (bTB (b2 inX (bC (.str "drop")) j5))) (cU ag 9 (d8 14 (bR j5 ak) oG gG (b2 (bG .add) rZ (bC (.str "e"))) ag) ag) tW) (tX 9))))))))))))
def gZ:ae D->Res D:=fnX 1 1 14 DY
abbrev gJ:bz:=top 13
noncomputable def TV:ah->ax:=λi=>i==0||i==4||i==5||i==6||i==11||i==1000000
def tkb:FS:=bF (jD ak 9 (dZ a_ 1 0 aY)) (bF (cU ak 12 (d8 13 (nR (aF (b2 (bG .mod) (b2 (bG .fdiv) j5 aNp) jH) aY) j9) oG gG (b2 getD iI (b2 (bG .mod) (b2 (bG .fdiv) j5 (b2 getD (jJ (aF (bC (.int 27)) (aF (bC (.int 81)) aY))) tU)) e_)) ak) ag) (R3 11 (jB (aF (b2 getD iT (b2 (bG .add) (bC (.int 10)) oV)) (aF (b2 getD iI (b2 (bG .mod) j5 e_)) (aF (b2 getD iI (b2 (bG .mod) (b2 (bG .fdiv) j5 jH) e_)) (aF (bD fU (aF j8 aY)) aY)))))))
def sg9:FS:=aCf (aNu (x2R (bG .add) c7 (x2L (bG .mod) (dZ a_ 1 0 aY) jH))) (tg1 8) tkb
def mkb:FS:=bF (jD ak 9 (dZ a_ 1 0 aY)) (bF (cU ak 7 (d8 13 (nR (aF (b2 (bG .mod) (b2 (bG .fdiv) j5 jH) aE6) aY) j9) oG gG (b2 getD iI (b2 (bG .mod) (b2 (bG .fdiv) j5 (b2 getD (jJ (aF aG7 (aF (bC (.int 36)) (aF (bC (.int 108)) aY)))) tU)) e_)) ak) ag) (R3 5 (jB (aF (b2 getD iT (b2 (bG .add) (b2 (bG .add) jH e_) oV)) (aF (b2 getD iI (b2 (bG .mod) j5 e_)) (aF (bD fU (aF nY aY)) aY))))))
def sg6:FS:=IW (nR (aF (b2 (bG .mod) (b2 (bG .fdiv) gF jH) aE6) aY) j9) (tg1 8) mkb
def sg5:FS:=aNt (aH3 (bTB (b2 (u_ .gt) e_ c7)) (xTB (x2L (lG .eq) (x2L (bG .mod) (dZ a_ 1 0 aY) jH) c7))) (bF (cU ak 7 (bD fU (aF (oK iI gR (fZ (b2 (bG .add) c7 (b2 (bG .mod) (b2 (bG .fdiv) gF aG7) (b2 (bG .sub) e_ c7))))) aY)) ak) (bF (JX 5 (b1 IK c7) (jB (aF (b2 getD iT (b2 (bG .add) iU e_)) (aF (b2 getD iI (b1 IK c7)) (aF nY aY))))) (aBo 6 (b2 getD iI (b1 IK c7)) (b2 (bG .add) c7 (bD mG (aF nY aY)))))) tW
def sg3:FS:=cU ag 5 (d8 13 (nR (aF e_ aY) j9) oG gG (jB (aF (b2 getD iT (b2 (bG .add) jH tU)) (aF (b2 getD iI tU) (aF (jB aY) aY)))) ak) ag
def aS2:FS:=O7 (aF (bOw 4) (aF (b2 (bG .add) (oK jA (fZ qC) gR) (oK jA gR (fZ qC))) (aF (bOw 11) (aF (bOw 6) aY))))
def sg4:FS:=cU ag 6 (b1 C_ (d8 13 (bR iI ak) oG gG (jB (aF tU (aF c7 aY))) ak)) ag
def sg7:FS:=cU ak 10 (b2 (bG .mod) (b2 (bG .fdiv) gF aG7) (bD mG (aF jA aY))) ag
def sg1:FS:=cU ak 3 (b2 (bG .add) c7 (b2 (bG .mod) gF jH)) ag
def sg2:FS:=cU ag 4 (oK iT gR (fZ e_)) ag
def sg8:FS:=cU ag 11 (jJ aY) ag
def rC:FS:=bF sg0 (bF sg1 (bF sg2 (bF sg3 (bF sg4 (bF sg5 (bF sg6 (bF sg7 (bF sg8 (bF sg9 aS2)))))))))
def lA:ae D->Res D:=fnX 1 2 13 rC
abbrev g_:bz:=top 14
noncomputable def D_:ah->ax:=λi=>i==0||i==5||i==6||i==1000000
def wb2:FS:=cU ak 10 (d8 12 (bR iT ak) oG (aAz (bTB (b2 (lG .eq) (b2 getD j8 c7) oV)) (bTB (b2 (u_ .le) (bD uG (aF (d8 13 (bR (b2 getD j8 iU) ak) oG gG (b2 getD iI tU) ak) aY)) j5))) j8 ak) ag
def wb7:FS:=cU ak 7 (b2 (bG .sub) j5 (bD uG (aF (d8 12 (bR (b2 getD jW iU) ak) oG gG (b2 getD iI j8) ak) aY))) ag
def wb5:FS:=jD ak 11 (x2R getD qC (x2L (bG .mod) (dZ a_ 1 0 aY) (bD mG (aF qC aY))))
def wb1:FS:=cU ak 9 (b2 (bG .sub) (b2 (bG .add) nY (b2 getD iI oV)) c7) ag
def wb8:FS:=aKn 6 (b1 aL7 (b2 getD jW iU))
def wb6:FS:=R3 5 (b2 getD jW fD)
def wb0:FS:=SJ 6 8
def wb:FS:=bF wb0 (bF wb1 (bF wb2 (bF wb5 (bF wb6 (bF wb7 wb8)))))
def wc:FT:=bTB (b2 (lG .ne) nQ (jJ aY))
def EY:FS:=bF (cU ag 5 (jJ aY) ag) (bF (cU ag 6 (jJ (aF (bPu gF) aY)) ag) (bF (cU ak 7 (bD max2 (aF fD (aF (b2 (bG .sub) e_ (b2 getD iI gF)) aY))) ak) (bF (aNr wc wb) (tX 5))))
def dH:ae D->Res D:=fnX 1 5 12 EY
abbrev fL:bz:=top 15
noncomputable def E_:ah->ax:=λi=>i==0||i==6||i==1000000
def ru2:FS:=cU ak 11 (d8 14 (nR (aF (bD mG (aF j5 aY)) aY) j9) oG gG (b2 getD e_ (b2 (bG .add) (bC (.int 13)) (b2 (bG .mod) (b2 (bG .add) (bD mG (aF nQ aY)) (b2 xQ rZ qC)) aJ2))) ak) ag
def ru3:FS:=cU ak 12 (d8 14 (nR (aF (bD mG (aF j5 aY)) aY) j9) oG gG (jB (aF (b2 getD jW rZ) (aF (b2 getD j5 rZ) (aF (jB aY) aY)))) ak) ag
def ru5:FS:=R3 6 (jB (aF (b2 getD nY fD) (aF (b2 getD oV fD) (aF (bD fU (aF jW aY)) (aF (bD fU (aF tU aY)) aY)))))
def ru4:FS:=jD ak 13 (dZ dH 5 0 (aF (b2 (bG .add) j8 jA) (aF (bPu (b2 getD nY c7)) (aF (bPu MP) (aF iI aY)))))
def ru1:FS:=cU ak 10 (b2 (bG .add) c7 (b2 (bG .mod) (bD mG (aF nQ aY)) aE6)) ag
def ru0:FS:=cU ak 9 (b2 xU (b2 getD oV iU) (b2 getD nY jH)) ak
def rub:FS:=sIf (bTB (b2 (lG .eq) (b2 getD oV c7) (b2 getD nY iU))) (bF ru0 (bF ru1 (bF ru2 (bF ru3 (bF ru4 ru5))))) tW
def du1:FS:=cU ag 6 (jJ aY) ag
def mZ:FS:=bF (cU ak 5 (b2 (bG .add) iT (d8 14 (bR gF ak) oG gG (jB (aF (b2 getD rZ fD) (aF (b2 getD rZ c7) (aF (b2 xU (jB (aF (b2 getD rZ iU) aY)) (b2 getD rZ jH)) aY)))) ak)) ag) (bF du1 (bF (I_ 2 (tg1 7) (I_ 1 (tg1 8) rub)) (tX 6)))
def jP:ae D->Res D:=fnX 1 5 14 mZ
abbrev lX:bz:=top 16
noncomputable def yI:ah->ax:=λi=>i==2||i==4
def bhC:FS:=JX 4 (b1 IK c7) (b2 xU (b2 getD iI (b1 IK c7)) (jB (aF nQ aY)))
def bhD:FS:=cU ak 5 (b2 (bG .add) (b2 (bG .sub) jA c7) (b2 getD gF nQ)) ag
def bhB:FS:=bF (sIf (bTB (b2 (lG .eq) jA fD)) (bF (R3 4 (jB aY)) (cU ak 5 c7 ag)) tW) (bF bhC bhD)
def bhA:FS:=aBo 2 (b2 getD e_ fD) (bD mG (aF (b2 getD e_ iU) aY))
def lY:FS:=bF (cU ag 2 (bC (.dct [])) ag) (bF (I_ 1 (tg1 3) bhA) (bF (cU ag 4 (jJ aY) ag) (bF (cU ak 5 fD ag) (bF (IW (bR (oK nO (fZ c7) gR) ag) (tg1 6) bhB) (aG8 4)))))
def dY:ae D->Res D:=fnS 2 7 lY
abbrev jQ:bz:=top 18
noncomputable def FJ:ah->ax:=λi=>ak
def goB:FS:=sIf (bTB (b2 inX e_ (b2 getD nO iU))) (cU ak 2 (b2 xU gF (b2 getD iT (bM vR (b2 getD nO iU) (aF e_ aY)))) ak) (cU ak 2 (b2 xU gF (jB (aF e_ aY))) ak)
def goT:FS:=cU ak 7 (bD mG (aF (d8 8 (bR (b2 getD nO jH) ak) oG (bTB (b2 (lG .eq) oV (b2 getD (b2 getD nO iU) nQ))) oV ak) aY)) ag
def goC:FS:=cU ak 4 (b2 (bG .add) iI (b2 xQ (bD max2 (aF fD (aF (b2 (bG .sub) nY c7) aY))) (bD mG (aF (b2 getD iT nQ) aY)))) ag
def goD:FS:=cU ak 5 (b2 (bG .add) jA (b2 xQ (bD aNs (aF (b2 (lG .eq) nY fD) aY)) (bD mG (aF (b2 getD iT nQ) aY)))) ag
def m5:FS:=bF (cU ak 2 (jB aY) ag) (bF (IW (bR (b2 getD nO jH) ak) (tg1 3) goB) (bF (cU ak 4 fD ag) (bF (cU ak 5 fD ag) (bF (IW (nR (aF (bD mG (aF iT aY)) aY) j9) (tg1 6) (bF goT (bF goC goD))) (V6 (jJ (aF (bPu gF) (aF c7 (aF (bPu iI) (aF (bPu jA) aY))))) ag)))))
def h_:ae D->Res D:=fnS 2 8 m5
abbrev m7:bz:=top 17
noncomputable def FN:ah->ax:=λi=>ak
def cb:FS:=sIf (bOr (aJ3 (bTr (b1 (V5 .int) jA))) (bOr (bTr (b1 (V5 .bool) jA)) (bTB (b2 (u_ .lt) jA fD)))) (V6 (jJ (aF (b1 IK c7) aY)) ag) tW
def asE:FE:=bD (aD3 3 fY []) (noE (aF nO (aF iT (aF gF aY))))
def iB:FS:=bF (cU ak 3 (bC .non) ag) (bF (cU ak 4 (bC .non) ag) (bF (ZL (cU ak 3 asE ag) ["Spent"] 4 6) (bF (sIf (bTB (b2 (lG .notN) iI (bC .non))) (V6 (jJ (aF (b2 (bG .sub) (bD aNs (aF (aHo [("Spent",ag)] 4) aY)) c7) aY)) ag) tW) (bF (sIf (bOr (aJ3 (bTr (b1 (V5 .tuple) e_))) (bOr (bTB (b2 (lG .ne) (bD mG (aF e_ aY)) aE6)) (aJ3 (bTr (b1 (V5 .tuple) (b2 getD e_ fD)))))) (V6 (jJ (aF (b1 IK c7) aY)) ag) tW) (bF (IW (bR (oK e_ (fZ c7) gR) ag) (tg1 5) cb) (V6 (jJ (aF (bPu (b2 getD e_ fD)) (aF (bPu (b2 getD e_ c7)) (aF (bPu (b2 getD e_ iU)) (aF (bPu (b2 getD e_ jH)) aY))))) ag))))))
def cC:ae D->Res D:=fnS 3 7 iB
abbrev nH:bz:=top 19
noncomputable def TX:ah->ax:=λi=>i==4||i==6||i==1000000
def dl3:FS:=sIf (bTB (b2 (eqS ak) j5 (jJ (aF fD aY)))) (cU ak 7 (bC (.bl ag)) ag) (bF (R3 6 (b2 getD j5 fD)) (cU ak 5 (jJ (aF (b2 (bG .add) (b2 getD jA fD) (b2 getD j5 c7)) (aF (b2 (bG .add) (b2 getD jA c7) (b2 getD j5 iU)) (aF (b2 (bG .add) (b2 getD jA iU) (b2 getD j5 jH)) aY)))) ag))
def dl1:FS:=cU ak 9 (bFz (bD (nZ 3 cC) (aF nO (aF oV (aF e_ aY))))) ag
def dl2:FS:=sIf (bTB (b2 (eqS ak) j5 (jJ (aF (b1 IK c7) aY)))) (qD j5 ak) tW
def dl0:FS:=YW 4 oV
def du3:FS:=IW (bR (bD (nZ 2 dY) (aF iT (aF gF aY))) ag) (tg1 8) (bF dl0 (bF dl1 (bF dl2 dl3)))
def rlC:FE:=d8 12 (bR (b2 getD nO jH) ak) oG (aAz wc (bTB (b2 (lG .eq) (jB (aF (b2 getD j8 fD) (aF (b2 getD j8 c7) aY))) (jB (aF (b2 getD iT fD) (aF (b2 getD (b2 getD nQ fD) fD) aY)))))) j8 ak
def du5:FS:=cU ak 10 rlC ag
def aHu:FS:=qD (bFz (jJ (aF (bPu (b2 getD j5 fD)) (aF (b2 (bG .add) (b2 getD jA fD) (b2 getD j5 c7)) (aF (b2 (bG .add) (b2 getD jA c7) (b2 getD j5 iU)) (aF (b2 (bG .add) (b2 getD jA iU) (b2 getD j5 jH)) aY)))))) ag
def du8:FS:=cU ak 5 (jJ (aF (b2 (bG .add) (b2 getD jA fD) c7) (aF (b2 (bG .add) (b2 getD jA c7) (b2 getD jW iU)) (aF (b2 (bG .add) (b2 getD jA iU) (b2 getD jW jH)) aY)))) ag
def du7:FS:=cU ak 11 (bFz (bD (nZ 2 h_) (aF (b2 getD qC fD) (aF (b2 (bG .add) (bD (nZ 2 dY) (aF (b2 getD nQ fD) (aF gF aY))) (oK nQ (fZ c7) gR)) aY)))) ag
def du6:FS:=sIf (bTB (b2 (lG .eq) qC (jJ aY))) (qD (bFz (b2 (bG .add) (jJ (aF (bPu (b2 aPd nQ (aR1 iT gR (fZ c7)))) aY)) jA)) ag) tW
def aJ7:FS:=cU ak 9 (bFz (bD (nZ 3 cC) (aF nO (aF (b2 getD jW fD) (aF (b2 (bG .sub) e_ (bD uG (aF jA aY))) aY))))) ag
def aJ8:FS:=sIf (bTB (b2 (u_ .gt) (bD mG (aF (b2 getD jW fD) aY)) (bC (.int 400)))) (qD (bFz (jJ (aF c7 aY))) ag) tW
def du4:FS:=sIf (bOr (bTr nY) (bTB (b2 (u_ .gt) (bD uG (aF jA aY)) e_))) (qD (bFz (jJ (aF fD aY))) ag) tW
def du9:FS:=sIf (bTB (b2 (u_ .gt) (bD uG (aF jA aY)) e_)) (qD (bFz (jJ (aF fD aY))) ag) tW
def aEo:FS:=sIf (bTB (b2 (lG .eq) (bD mG (aF j5 aY)) c7)) (qD j5 ak) tW
def du0:FS:=cU ak 5 (jJ (aF fD (aF fD (aF fD aY)))) ag
def aJ9:FS:=YW 4 (b2 getD jW fD)
def du2:FS:=cU ak 7 (bC (.bl ak)) ag
def lC:FS:=bF du0 (bF du1 (bF du2 (bF du3 (bF du4 (bF du5 (bF du6 (bF du7 (bF du8 (bF du9 (bF aJ8 (bF aJ9 (bF aJ7 (bF aEo aHu)))))))))))))
def lD:ae D->Res D:=fnC 4 5 12 lC
abbrev vA:bz:=top 20
noncomputable def o_law:ah->ax:=λi=>i==1||i==11||i==16
def aPg:FS:=sIf (bOr (bTB (b2 (eqS ak) RZ (jJ (aF (b1 IK c7) aY)))) (aAz (bTB (b2 (eqS ag) RZ (jJ (aF c7 aY)))) (bTB (b2 (eqS ag) (bD (nZ 3 cC) (aF (b8 15) (aF (b2 getD R0 wX) (aF e_ aY)))) RZ)))) (V6 (bC (.bl ak)) ag) tW
def aNy:FS:=jD ak 18 (QC lD 5 4 16 (aF (b8 15) (aF (bPu (b2 getD R0 wX)) (aF j5 (aF e_ (aF (bUo 16) aY))))))
def gwc:FT:=aAz (bTB (b2 (u_ .lt) wX (bD mG (aF R0 aY)))) (bTB (b2 (u_ .lt) wX MP))
def aPh:FS:=cU ak 17 (b2 (bG .add) wX c7) ag
def aPi:FS:=aNr gwc (bF aNy (bF aPg aPh))
def lw6:FS:=cU ak 9 (b2 (bG .add) nQ (d8 19 (bR nY ak) oG gG (jB (aF (b2 getD (b8 19) fD) (aF (b2 getD (b8 19) c7) (aF (b2 xU (jB (aF (b2 getD (b8 19) iU) aY)) (b2 getD (b8 19) jH)) aY)))) ak)) ag
def lw8:FS:=jD ag 11 (dZ dH 5 1 (aF j5 (aF (bPu (b2 getD jA (b2 (bG .mod) (b2 (bG .fdiv) gF MP) (bD mG (aF jA aY))))) (aF qC (aF oV aY)))))
def aPj:FS:=cU ak 15 (jB (aF (bD fU (aF jA aY)) (aF (bD fU (aF nQ aY)) (aF (bD fU (aF nY aY)) (aF (bD fU (aF rZ aY)) aY))))) ak
def lw7:FS:=cU ak 10 (b2 getD (jJ (aF jH (aF aNp (aF (bC (.int 30)) aY)))) (b2 (bG .mod) (b2 (bG .fdiv) gF iU) jH)) ak
def lw3:FS:=sIf (bTB (b2 (lG .eq) (b2 (bG .mod) (b2 (bG .fdiv) gF aBm) aE6) c7)) (cU ak 3 (b2 xQ e_ MP) ag) tW
def lx0:FS:=cU ak 12 (b2 getD nY (b2 (bG .mod) (b2 (bG .fdiv) gF MP) (bD mG (aF nY aY)))) ak
def lw0:FS:=cU ag 1 (aOu (jJ (aF (oK nO gR (fZ V4)) (aF fD aY)))) ag
def aPk:FS:=jD ak 14 (dZ jP 5 1 (aF nQ (aF nY (aF iI (aF oV aY)))))
def aPl:FS:=cU ag 16 (jJ (aF (bPu (bD fU (aF jW aY))) aY)) ag
def lx1:FS:=cU ag 11 (jJ (aF (bPu (b2 getD j8 fD)) aY)) ag
def lw2:FS:=jD ak 3 (x2L (bG .mod) (dZ a_ 1 1 aY) (bC (.int 31)))
def lw5:FS:=aCg (dZ lA 2 1 (aF iI aY)) [5,6,7,8]
def lw4:FS:=jD ak 4 (dZ gZ 1 1 aY)
def lw1:FS:=jD ak 2 (dZ a_ 1 1 aY)
def aPm:FS:=cU ak 17 fD ag
def aPn:FS:=V6 (bC (.bl ag)) ag
def aHv:FS:=bF lw0 (bF lw1 (bF lw2 (bF lw3 (bF lw4 (bF lw5 (bF lw6 (bF lw7 (bF lw8 (bF (sIf (bTB (b2 (lG .eq) (b2 (bG .mod) gF iU) fD)) (bF lx0 (bF lx1 (IW (bR (b2 xU (jB (aF (b2 getD j8 iU) aY)) (b2 getD j8 jH)) ak) (tg1 13) (S_ 11 (dZ dH 5 1 (aF j5 (aF tU (aF qC (aF oV aY))))))))) tW) (bF aPk (bF aPj (bF aPl (bF aPm (bF aPi aPn))))))))))))))
def ZX:ae D->Res D:=fnS 1 19 aHv
noncomputable abbrev TY:ae Str:=["program","heads","name","kind","parts","taken","more"]
noncomputable abbrev T3:ae Str:=["value","found","waiting","node"]
noncomputable abbrev aHw:ae Str:=["program","words","most","plain","value"]
noncomputable abbrev J9:ae Str:=["deck","cells","at"]
noncomputable abbrev iC:ae Str:=["deck","letters","choice","turn","shift","cell","size","base","at","names","k","spot","ahead","behind"]
noncomputable abbrev eY:ae Str:=["deck","names","cell","many","kinds","makers","least","behind","k","one","at","takers","more"]
noncomputable abbrev eN:ae Str:=["deck","heads","wanted","most","least","words","due","left","kind","room","some","pick"]
noncomputable abbrev eO:ae Str:=["deck","makers","takers","names","least","heads","rules","taker","maker","behind","step","own","known","words"]
noncomputable abbrev yJ:ae Str:=["words","heads","many","row","found","left","word"]
noncomputable abbrev m8:ae Str:=["rule","values","words","word","copies","drops","k","times"]
noncomputable abbrev FQ:ae Str:=["program","words","bound","found","caught","count","e"]
noncomputable abbrev rD:ae Str:=["program","words","heads","bound","come","counts","values","spent","part","found","rules","on"]
noncomputable abbrev aHx:ae Str:=["script","deck","cell","bound","names","kinds","makers","takers","least","heads","most","words","row","kind","rules","program","come","at","due"]
theorem J_:bZ TY ["program"] (aN qZ):=0xa
theorem FW[KFrag](hK:KFrag.K=K)(B:Bt mg)(F:Fun K "heads_of" "heads_of" qZ fad fd)(hm:mg "heads_of"=aa (.ref fad)):qQ P w K mg base 1 "heads_of" 1 iQ:=by
 have sc:=J_;have nd:=sc.nd;refine BX F hm (F.binds λ_ _ _ _ _ _ us hl=>by obtain⟨_,rfl⟩:=Mi.l1 hl;rfl) sc TF 0x4 0x4 λcdv A outer s H E hr=>?_
 have hu:=zO hr;exact aG (bY (M8)) (aG (n8 fj rfl (dI (aQ aA aD)) (WR _ 0x4) (UV rfl (eU 0xd (eU 0xd (eU 0xd (wM))))) (aW (N7 hu rfl rfl 0x0 aA (dD (aB aA (aB aA aM)))))) (aG (n8 fj rfl (dI (aQ aA aD)) (WR _ 0x4) (UV rfl (eU 0xd (eU 0xd (eU 0xd (eU 0xd (wM)))))) (aW (N7 hu rfl rfl 0x0 aA (dD (aB aA (aB (aR mW (dD (aB aA aM)) aA) aM)))))) (aW (WN rfl rfl 0x0))))
theorem KC:bZ T3 ["value"] (aN q_):=0xa
theorem FZ[KFrag](hK:KFrag.K=K)(B:Bt mg)(F:Fun K "words_of" "words_of" q_ fad fd)(hm:mg "words_of"=aa (.ref fad)):qQ P w K mg base 1 "words_of" 1 iR:=by
 have sc:=KC;have nd:=sc.nd;refine BX F hm (F.binds λ_ _ _ _ _ _ us hl=>by obtain⟨_,rfl⟩:=Mi.l1 hl;rfl) sc TQ 0x4 0x4 λcdv A outer s H E hr=>?_
 have hu:=zO hr;exact aG (bY (cL aM)) (aG (bY (cL (aB (qU aA) aM))) (aG (XM fj (vM aA) (aG (X3 rfl rfl 0x0 sc.nd rfl 0x0 rfl) (aG (n6 rfl rfl 0x0 (aQ aA aD)) (aW (aEb rfl rfl 0x0 (YT 0x3 0x3 B.list 0x3 B.reversed (aQ aA aD))))))) (aW (rQ 0x16))))
theorem aD7:bZ (["self","words","known"]:ae Str) ["self","words","known"] (aN J7):=0xa
theorem ZZ[KFrag](hK:KFrag.K=K)(B:Bt mg)(cls:Cls K C)(na:∀f∈lW.map (·.1),cG K C f)(F:Fun K "__init__" "Frame.__init__" J7 fad fd):lJ P w K mg base CX0 1 fad fd ["self","words","known"] (aCl C lW 2):=by
 have sc:=aD7;have nd:=sc.nd;refine aEj F sc rfl rfl cls 0x6 na 0x4 λcdv A outer s H E hr=>?_
 have hu:=zO hr;exact bW (jF 0xf 0xf rfl) (bW (jF 0xf 0xc rfl) (bW (jF 0xf 0xf rfl) (wJ)))
theorem KD:bZ (["self","program","most"]:ae Str) ["self","program","most"] (aN k_):=0xa
theorem F_[KFrag](hK:KFrag.K=K)(B:Bt mg)(pF:qQ P w K mg base 1 "heads_of" 1 iQ)(cls:Cls K C)(na:∀f∈eX.map (·.1),cG K C f)(F:Fun K "__init__" "PlainRun.__init__" k_ fad fd):lJ P w K mg base CX0 2 fad fd ["self","program","most"] (aCl C eX 2):=by
 have sc:=KD;have nd:=sc.nd;refine aEj F sc rfl rfl cls 0x6 na 0x4 λcdv A outer s H E hr=>?_
 have hu:=zO hr;exact bW (jF 0xf (jL pF hr 0x4 0x3 (aB aA aM)) rfl) (bW (jF 0xf (DG 0x3 0x3 B.dict (gP (show cO (["self","program","most"]:ae Str) (aN k_) _ (["maker"]:ae Str) from 0x9) rfl rfl rfl (dI (aQ aA aD)) (d9 3) (λ_=>aX (show((dv (fW (["maker"]:ae Str)) (["self","program","most"]:ae Str)++(["maker"]:ae Str)):ae Str).Nodup from 0x6) rfl 0x0) (λ_=>dD (aB (aQ aA aD) (aB V_ aM))) (λ_=>rfl))) rfl) (bW (jF 0xf (S8 0x3 hu 0x3 B.dict (gP (show cO (["self","program","most"]:ae Str) (aN k_) _ (["rule"]:ae Str) from 0x9) rfl rfl rfl (dI (aQ aA aD)) (d9 3) (λ_=>aX (show((dv (fW (["rule"]:ae Str)) (["self","program","most"]:ae Str)++(["rule"]:ae Str)):ae Str).Nodup from 0x6) rfl 0x0) (λ_=>dD (aB (dD (aB (aQ aA aD) (aB (aQ aA aD) aM))) (aB aA aM))) (λ_=>rfl))) rfl) (bW (jF 0xf 0xf rfl) (bW (jF 0xf aD rfl) (bW (jF 0xf aD rfl) (bW (jF 0xf aD rfl) (wJ)))))))
theorem KH:bZ (["self","words","frames","values","frame"]:ae Str) ["self","words"] (aN rA):=0xa
theorem GC:bZ (["self","frames","values","word","known","parts"]:ae Str) ["self","frames","values","word"] (aN iY):=0xa
theorem Z0:bZ (["self","taker","parts","taken","rule","known","name","value"]:ae Str) ["self","taker","parts"] (aN yH):=0xa
theorem yK:bZ (["self","uses","size"]:ae Str) ["self","uses","size"] (aN mY):=0xa
theorem aPo(σ:L2.St)(H:Hp)(Q Q':ae V->Hp->Prop)(h:∀vs H',Q vs H'->Q' vs H')(x:(dO (gB 1) (dO MK tK)) σ H Q):(dO (gB 1) (dO MK tK)) σ H Q':=by
 obtain⟨v,e,q⟩:=x;exact⟨v,e,λp hp=>h _ _ (q p hp)⟩
theorem aPp[KFrag](σ:L2.St)(H:Hp)(Q Q':ae V->Hp->Prop)(h:∀vs H',Q vs H'->Q' vs H')(x:(dO (gE cf7 ak) (dO (gB 5) tK)) σ H Q):(dO (gE cf7 ak) (dO (gB 5) tK)) σ H Q':=by
 obtain⟨ρ,d,e,e2,q⟩:=x;exact⟨ρ,d,e,e2,λv H' s r n=>let ⟨u,z,q⟩:=q v H' s r n;⟨u,z,h _ _ q⟩⟩
theorem aPq(σ:L2.St)(H:Hp)(Q Q':ae V->Hp->Prop)(h:∀vs H',Q vs H'->Q' vs H')(x:(dO (gB 0) (dO (gB 2) tK)) σ H Q):(dO (gB 0) (dO (gB 2) tK)) σ H Q':=by
 obtain⟨v,e,u,z,q⟩:=x;exact⟨v,e,u,z,h _ _ q⟩
theorem aLz[KFrag](ws:ae D)(kn:ae (D×D))(h:ε ws=ag)(hk:ε (kn.map (·.2))=ag):evS [.uD,.tup ws,.dct kn] lW=.ok [("words",.tup ws),("left",.int ws.length),("known",.dct kn)]:=by
 have h1:okF (.tup ws)=ag:=by unfold okF;rw[ξ,h];rfl
 have e3:evS [.uD,.tup ws,.dct kn] [("known",.par 2)]=.ok [("known",.dct kn)]:=by
  show(if okF (.dct kn)=ag then τ [(("known" : Str),D.dct kn)] else .bad)=_;rw[aq (yF hk)]
 have e2:evS [.uD,.tup ws,.dct kn] [("left",.exp (bD mG (aF iT aY))),("known",.par 2)]=.ok [("left",.int ws.length),("known",.dct kn)]:=by
  show(do let ds <- evS [.uD,.tup ws,.dct kn] [("known",.par 2)];if okF (.int ws.length)=ag then τ ((("left" : Str),ι ws.length)::ds) else .bad)=_;rw[e3];rfl
 show(do let ds <- evS [.uD,.tup ws,.dct kn] [("left",.exp (bD mG (aF iT aY))),("known",.par 2)];if okF (.tup ws)=ag then τ ((("words" : Str),ν ws)::ds) else .bad)=_;rw[e2,θ,aq h1]
theorem yL[KFrag](hK:KFrag.K=K)(B:Bt mg)(cl:Cls K C)(nq:cG K C "drops")(np:cG K C "copies")(F:Fun K "count_uses" "PlainRun.count_uses" mY fad fd):lJ P w K mg base CX0 1 fad fd ["self","uses","size"] (aJ5 C):=by
 have sc:=yK;have nd:=sc.nd;refine F.ok sc (λvs H Q E h=>aLo h) λcdv A outer s H vs Q E hr h=>⟨tCU K,?_,aHa rfl cl nq np h⟩
 exact(d7 (HR (UJ (aDz 0xf oY)) (d7 (jF 0xf (zQ (jE 0xf rfl) 0xf) rfl)) (d7 (jF 0xf (zQ (jE 0xf rfl) (aJg (aDx 0xf oY) 0xf)) rfl))))
theorem Z1[KFrag](hK:KFrag.K=K)(B:Bt mg)(q_Frame:aJ4 P w K mg base 1 "Frame" lW 2)(hC:nsIn K bE "PlainRun"=aa (aa (.ref C)))(hCF:nsIn K bE "Frame"=aa (aa (.ref CF)))(cl:Cls K C)(nc:cG K C "calls")(np:cG K C "copies")(nq:cG K C "drops")(nm:cG K C "most")(fr:aH7 K "PlainRun" "rules")(mS:mg "Spent"=aa (.ref CS))(xS:excIn K CS aOq "ValueError.__new__"=ag)(M:Meth K C "count_uses" fm)(T:lJ P w K mg base CX0 1 fm fdm psm (aJ5 C))(hb:Binds K fdm psm [])(F:Fun K "called" "PlainRun.called" yH fad fd):lJ P w K mg base (CX2 P w) 3 fad fd ["self","taker","parts"] (ZC CF CS):=by
 have sc:=Z0;have nd:=sc.nd;refine aP4 F sc (λvs H Q E h=>aHi h) λcdv A outer s H vs Q E hr h=>⟨aQp K C CS lW E,?_,aCs rfl hK hC hCF cl nc np nq nm aLz h⟩
 have hu:=zO hr;exact(bW (nW (aQ aA aD) 0xd) (bW (nW (aQ (DK hK fr aA) (dD (aB aA (aB (aQ aA aD) aM)))) 0xd) (bW (nW (aCc 0x3 B.dict 0x3 B.zip (aB (aQ aA aD) (aB (aR bN (cZ (aGf 0x3) 0x3 B.list WT (aB (aQ aA aD) aM)) (jM hK aA (fK aD) fJ)) aM))) 0xd) (bW (jF 0xf (zQ (jE 0xf rfl) oY) rfl) (bW (aLa (K_ B5 rfl (aC9 rfl 0x0) (UV rfl (eU 0xd (eU 0xd wM))) (d7 (jU (wO 0xf cl M T (hr.mono 0x4) hb .nil VV (bH (aGg B6 yb PySem.F.type_tuple_count YB (aQ aA aD) (aB aA aM) (λ_ _ _ _ _ h r=>YC h r)) (bH (aQ aA aD) dM))))))) (bW (HR (UJ (aO5 (zQ (zQ (jE 0xf rfl) (jE 0xf rfl)) (jE 0xf rfl)) (jE 0xf rfl))) (d7 (PS.imp (aBz rfl 0x3 mS xS (bH aDw dM)) λD σ H hE=>⟨by decide,λΨ s h2 a us I hx=>Y7 I hx hE⟩)) wJ) (d7 (rK (aH6 q_Frame hr 0x4 0x3 (bH (aQ aA aD) (bH 0xf dM)) (hmono:=aPp))))))))))
theorem GD[KFrag](hK:KFrag.K=K)(B:Bt mg)(hC:nsIn K bE "PlainRun"=aa (aa (.ref C)))(clF:Cls K CF)(nk:cG K CF "known")(cl:Cls K C)(fh:aH7 K "PlainRun" "heads")(fm_:aH7 K "PlainRun" "makers")(M:Meth K C "called" fm)(T:lJ P w K mg base (CX2 P w) 3 fm fdm psm (ZC CF CS))(hb:Binds K fdm psm [])(F:Fun K "take_word" "PlainRun.take_word" iY fad fd):lJ P w K mg base (CX2 P w) 4 fad fd ["self","frames","values","word"] (aLk CF CS):=by
 have sc:=GC;have nd:=sc.nd;refine aP4 F sc (λvs H Q E h=>aLp h) λcdv A outer s H vs Q E hr h=>⟨tTk K C CF CS E,?_,aHf rfl hK hC clF nk h⟩
 have hu:=zO hr;exact(bW (nW (jE (VF qO 0xf (aFk U4 oY) (λ_ _=>rfl)) rfl) 0xd) (d7 (HR (cJ (B_ hu) aA aA 0x5) (d7 (jU (zZ iX mf oP j7 0xf (by exact(bH (aQ aA aA) dM))))) (bW (aCv (show cO (["self","frames","values","word","known","parts"]:ae Str) (aN iY) _ (["kind"]:ae Str) from 0x9) rfl rfl rfl (dI (aQ (aQ (DK hK fh aA) aA) aD)) (λ_=>aX (show((dv (fW (["kind"]:ae Str)) (["self","frames","values","word","known","parts"]:ae Str)++(["kind"]:ae Str)):ae Str).Nodup from 0x6) rfl 0x0) (λ_=>aH8 rfl rfl 0x0) (λ_=>rfl) sc.nd rfl 0x0 (jd rfl) 0x5) (d7 (HR (cJ (B_ hu) aA (DK hK fm_ aA) 0x5) (d7 (jU (zZ iX mf oP j7 0xf (by exact(bH (dD (aB aA (aB 0x16 (aB (aR bN aD (bQ (vP 0x3) 0x3 B.sum vQ (aB (gP (show cO (["self","frames","values","word","known","parts"]:ae Str) (aN iY) _ (["part"]:ae Str) from 0x9) rfl rfl rfl (dI aA) (d9 6) (λ_=>aX (show((dv (fW (["part"]:ae Str)) (["self","frames","values","word","known","parts"]:ae Str)++(["part"]:ae Str)):ae Str).Nodup from 0x6) rfl 0x0) (λ_=>(aQ aA aD)) (λ_=>rfl)) aM))) aM)))) dM))))) (d7 (jU (zZ iX mf oP j7 0xf (by exact(bH (wO 0xf cl M T (hr.mono 0x4) hb .nil qW (bH 0xf (bH 0xf dM))) dM)))))))))))
theorem KJ[KFrag](hK:KFrag.K=K)(B:Bt mg)(q_Frame:aJ4 P w K mg base 1 "Frame" lW 2)(hC:nsIn K bE "PlainRun"=aa (aa (.ref C)))(hCF:nsIn K bE "Frame"=aa (aa (.ref CF)))(clF:Cls K CF)(nl:cG K CF "left")(cl:Cls K C)(M:Meth K C "take_word" fm)(T:lJ P w K mg base (CX2 P w) 4 fm fdm psm (aLk CF CS))(hb:Binds K fdm psm [])(fw:aH7 K "Frame" "words")(fl:aH7 K "Frame" "left")(F:Fun K "value_of" "PlainRun.value_of" rA fad fd):lJ P w K mg base (CX2 P w) 5 fad fd ["self","words"] (ZK CS):=by
 have sc:=KH;have nd:=sc.nd;refine aP4 F sc (λvs H Q E h=>aHj h) λcdv A outer s H vs Q E hr h=>⟨aQy K C CF CS lW E,?_,aD1 rfl hK hC hCF clF nl aLz h⟩
 have hu:=zO hr;exact(bW (nW (LQ (bH (aH6 q_Frame hr 0x4 0x3 (bH 0xf (bH MN dM)) (hmono:=aPo)) dM)) 0xd) (bW (nW (LQ dM) 0xd) (bW (K9 B5 (LC 0xf (λ_=>rfl)) (bW (nW (VF qO 0xf (aFk U4 oY) (λ_ _=>rfl)) 0xd) (d7 (HR (UJ (aDz (jE 0xf rfl) oY)) (d7 (jU (MJ iX sQ xE VH 0xf))) (bW (jF 0xf (aDx (jE 0xf rfl) oY) rfl) (d7 (jU (wO 0xf cl M T (hr.mono 0x4) hb .nil qW (bH 0xf (bH 0xf (bH (aQ (DK hK fw aA) (DK hK fl aA)) dM))))))))))) (d7 (rK (VF qO 0xf oY (λ_ _=>rfl)))))))
theorem aD8:bZ aHw ["program","words","most"] (aN rB):=0xa
theorem QD[KFrag](hK:KFrag.K=K)(B:Bt mg)(pG:qQ P w K mg base 1 "words_of" 1 iR)(q_PlainRun:aJ4 P w K mg base 2 "PlainRun" eX 2)(hC:nsIn K bE "PlainRun"=aa (aa (.ref C)))(hS:nsIn K bE "Spent"=aa (aa (.ref CS)))(cl:Cls K C)(nc:cG K C "calls")(np:cG K C "copies")(nq:cG K C "drops")(M:Meth K C "value_of" fm)(T:lJ P w K mg base (CX2 P w) 5 fm fdm psm (ZK CS))(hb:Binds K fdm psm [])(F:aOr K "worth" "worth" rB fad fd T' its):lJ P w K mg base (CX2 P w) 6 fad fd ["program","words","most"] (spZ fY 3):=by
 have sc:=aD8;have nd:=sc.nd;refine aP8 F sc (λvs H Q E h=>aHk h) λcdv A outer s H vs Q E hr h=>⟨aQz K C CS eX iR E,?_,aD2 rfl hK hC hS cl nc np nq rfl h⟩
 have hu:=zO hr;exact(bW (nW (aH6 q_PlainRun hr 0x4 0x3 (bH 0xf (bH 0xf dM)) (hmono:=aPq)) 0xd) (bW (nW (wO 0xf cl M T (hr.mono 0x4) hb .nil qW (bH 0xf dM)) 0xd) (d7 (rK (aE2 (bH (jL pG hr 0x4 0x3 (aB aA aM)) (bH (jE 0xf rfl) (bH (jE 0xf rfl) (bH (jE 0xf rfl) dM)))))))))
theorem GF:bZ J9 ["deck"] (aN oO):=0xa
theorem yM[KFrag](hK:KFrag.K=K)(B:Bt mg)(F:Fun K "_law_next" "_law_next" oO fad fd)(hm:mg "_law_next"=aa (.ref fad)):G_ P w K mg base 1 "_law_next" 1 1 a_:=by
 have sc:=GF;have nd:=sc.nd;refine uJ 1 F hm (F.binds λ_ _ _ _ _ _ us hl=>by obtain⟨_,rfl⟩:=Mi.l1 hl;rfl) sc J8 0x4 0x4 λcdv A outer s H E hr=>?_
 have hu:=zO hr;exact aG (bY (aQ aA aD)) (aG (bY (aQ aA aD)) (aG (JZ rfl rfl 0x0 aD (aR bN aA aD)) (aG (jC (cJ aBv aA 0xc (cW _)) (aW (jZ (aQ aA aA))) dW) (aG (jC (cJ (oJ hu) 0xc aD (cW _)) (aW (jZ (aR bN (aR jY (aR jY aA aA) aD) aA))) dW) (aW (jZ (aR bN (aR dU (aQ aA (aR b_ aA 0xc)) aD) (aR jY aA aA))))))))
theorem yN:bZ iC ["deck"] (aN gY):=0xa
theorem vB[KFrag](hK:KFrag.K=K)(B:Bt mg)(p5:G_ P w K mg base 1 "_law_next" 1 1 a_)(F:Fun K "_law_names" "_law_names" gY fad fd)(hm:mg "_law_names"=aa (.ref fad)):G_ P w K mg base 2 "_law_names" 1 1 gZ:=by
 have sc:=yN;have nd:=sc.nd;refine uJ 1 F hm (F.binds λ_ _ _ _ _ _ us hl=>by obtain⟨_,rfl⟩:=Mi.l1 hl;rfl) sc DX 0x4 0x4 λcdv A outer s H E hr=>?_
 have hu:=zO hr;exact aG (bY BK) (aG (jN rfl sc.nd rfl 0x0 0x14) (aG (bY (aQ (cL (aB aD (aB aD (aB aD (aB aD (aB aD (aB aD aM))))))) (aR b_ (aR dU aA aD) aD))) (aG (bY (aR b_ (aR dU aA aD) aD)) (aG (jN rfl sc.nd rfl 0x0 0x14) (aG (bY (aR b_ aA aD)) (aG (bY (aGg PySem.F.plainAttrs_str PySem.F.slot_str_join PySem.F.type_str_join aGp BK (aB (gP (show cO iC (aN gY) _ (["k"]:ae Str) from 0x9) rfl rfl rfl (lO 0x3 B.range (aB aA aM)) (d9 14) (λ_=>aX (show((dv (fW (["k"]:ae Str)) iC++(["k"]:ae Str)):ae Str).Nodup from 0x6) rfl 0x0) (λ_=>aQ aA (aR b_ (aR bN (aR dU aA aD) (aR jY aA (aR bN aA (aR b_ (aR dU aA aD) aD)))) aD)) (λ_=>rfl)) aM) (λ_ _ _ _ _ h r=>aBx h r))) (aG (jN rfl sc.nd rfl 0x0 (CQ b_ 0x14 (aR bN aA aD))) (aG (jC (cJ (oJ hu) (aR b_ aA aD) aD (cW _)) (aW (bY (jM hK aA (fJ) (fK aD)))) dW) (aG (bY (cL aM)) (aG (n8 fj rfl (lO 0x3 B.range (aB aD aM)) (iG rfl) 0xd (aG (bY (aR b_ (aR bN (aR jY aA aA) aA) aD)) (aW (jC (cJ (oJ hu) (aR b_ aA aD) aD (cW _)) (aW (n6 rfl rfl 0x0 (aR jY (aQ aA (aR b_ (aR bN aA (aR b_ aA aD)) aD)) (aR bN aD (aR dU aA aD))))) (aW (jC (cJ (oJ hu) (aR b_ aA aD) aD (cW _)) (aG (bY (aQ aA (aR b_ (aR bN aA (aR b_ aA aD)) aD))) (aG (bY (aQ aA (aR b_ (aR bN aA (aR dU aA aD)) aD))) (aW (n6 rfl rfl 0x0 (aR bN (aR bN (aR bN (jM hK aA (fJ) (fK aA)) aA) aA) (jM hK aA (fK aA) (fJ))))))) (aW (n6 rfl rfl 0x0 (aR bN (aR bN (jM hK aA (fJ) (fK aA)) (aQ aA aA)) (jM hK aA (fK aA) (fJ))))))))))) (aG (jC (PW.pt (JH (cJ (B_ hu) BK aA 0x5) (BL (cJ (B_ hu) BK aA 0x5)))) (aW (qH (show cO iC (aN gY) _ (["name"]:ae Str) from 0x9) rfl rfl rfl (dI aA) (d9 14) (λ_=>aX (show((dv (fW (["name"]:ae Str)) iC++(["name"]:ae Str)):ae Str).Nodup from 0x6) rfl 0x0) (λ_=>aR bN aA BK) (λ_=>rfl) rfl sc.nd rfl 0x0 (jd rfl) 0x5)) dW) (aW (yC rfl rfl 0x0)))))))))))))
theorem KN:bZ eY ["deck","names"] (aN gJ):=0xa
theorem GJ[KFrag](hK:KFrag.K=K)(B:Bt mg)(p5:G_ P w K mg base 1 "_law_next" 1 1 a_)(F:Fun K "_law_sig" "_law_sig" gJ fad fd)(hm:mg "_law_sig"=aa (.ref fad)):G_ P w K mg base 2 "_law_sig" 2 1 lA:=by
 have sc:=KN;have nd:=sc.nd;refine uJ 1 F hm (F.binds λ_ _ _ _ _ _ us hl=>by obtain⟨_,_,rfl⟩:=Mi.l2 hl;rfl) sc TV 0x4 0x4 λcdv A outer s H E hr=>?_
 have hu:=zO hr
 exact aG (jN rfl sc.nd rfl 0x0 0x14) (aG (bY (aR bN aD (aR b_ aA aD))) (aG (bY (jM hK aA (fJ) (fK aA))) (aG (qH (show cO eY (aN gJ) _ (["k"]:ae Str) from 0x9) rfl rfl rfl (lO 0x3 B.range (aB aA aM)) (d9 13) (λ_=>aX (show((dv (fW (["k"]:ae Str)) eY++(["k"]:ae Str)):ae Str).Nodup from 0x6) rfl 0x0) (λ_=>dD (aB (aQ aA (aR bN aD aA)) (aB (aQ aA aA) (aB (dD aM) aM)))) (λ_=>rfl) rfl sc.nd rfl 0x0 (jd rfl) 0x5) (aG (bY (DG 0x3 0x3 B.dict (gP (show cO eY (aN gJ) _ (["kind"]:ae Str) from 0x9) rfl rfl rfl (dI aA) (d9 13) (λ_=>aX (show((dv (fW (["kind"]:ae Str)) eY++(["kind"]:ae Str)):ae Str).Nodup from 0x6) rfl 0x0) (λ_=>dD (aB aA (aB aD aM))) (λ_=>rfl)))) (aG (aOw (PW.pt (aL0 (cJ aBw aA aD (cW _)) (aH4 (aGz (oJ hu) (CQ b_ 0x14 aD) aD (cW _))))) (aG (bY (cZ fG 0x3 B.tuple eE (aB (jM hK aA (fJ) (fK (aR bN aD (aR b_ (aR dU aA aD) (aR rP aA aD))))) aM))) (aG (JZ rfl rfl 0x0 (wZ qF aD) (dD (aB (aQ aA (aR bN aD aA)) (aB (aQ aA (wZ qF aD)) (aB aA aM))))) (aW (N7 hu rfl rfl 0x0 (aQ aA (wZ qF aD)) (aR bN aD 0xc))))) dW) (aG (n8 fj rfl (lO 0x3 B.range (aB (aR b_ (aR dU aA aD) aD) aM)) (iG rfl) 0xd (aG (jN rfl sc.nd rfl 0x0 0x14) (aG (qH (show cO eY (aN gJ) _ (["j"]:ae Str) from 0x9) rfl rfl rfl (lO 0x3 B.range (aB (aR b_ (aR dU aA aD) aD) aM)) (d9 13) (λ_=>aX (show((dv (fW (["j"]:ae Str)) eY++(["j"]:ae Str)):ae Str).Nodup from 0x6) rfl 0x0) (λ_=>aQ aA (aR b_ (aR dU aA (aQ (cL (aB aD (aB aD (aB aD aM)))) aA)) aA)) (λ_=>rfl) rfl sc.nd rfl 0x0 (jd rfl) 0x5) (aW (n6 rfl rfl 0x0 (dD (aB (aQ aA (aR bN (aR bN aD aA) aA)) (aB (aQ aA (aR b_ aA aA)) (aB 0x16 aM))))))))) (aG (bY (aR b_ (aR dU aA aD) 0xc)) (aG (bY (cL aM)) (aG (aL2 fj rfl (aL1 0x3 B.range (aKt bN aD (CQ b_ 0x14 aD))) (iG rfl) 0xd (aG (jN rfl sc.nd rfl 0x0 0x14) (aG (qH (show cO eY (aN gJ) _ (["j"]:ae Str) from 0x9) rfl rfl rfl (lO 0x3 B.range (aB (aR b_ (aR dU aA aD) aD) aM)) (d9 13) (λ_=>aX (show((dv (fW (["j"]:ae Str)) eY++(["j"]:ae Str)):ae Str).Nodup from 0x6) rfl 0x0) (λ_=>aQ aA (aR b_ (aR dU aA (aQ (cL (aB aD (aB aD aM))) aA)) aA)) (λ_=>rfl) rfl sc.nd rfl 0x0 (jd rfl) 0x5) (aW (n6 rfl rfl 0x0 (dD (aB (aQ aA (aR bN aD aA)) (aB (aQ aA (aR b_ aA aA)) (aB (aQ aA (aR b_ (aR dU aA aD) aA)) (aB 0x16 aM)))))))))) (aW (aCh (YJ rfl rfl 0x0 (aL5 (aR bN (jM hK aA (fK aA) (fJ)) (jM hK aA (fJ) (fK aA))) (YJ rfl rfl 0x0 (YJ rfl rfl 0x0 (aL4))))))))))))))))
theorem yO:bZ eN ["deck","heads","wanted","most","least"] (aN g_):=0xa
theorem vC[KFrag](hK:KFrag.K=K)(B:Bt mg)(p5:G_ P w K mg base 1 "_law_next" 1 1 a_)(F:Fun K "_law_words" "_law_words" g_ fad fd)(hm:mg "_law_words"=aa (.ref fad)):G_ P w K mg base 2 "_law_words" 5 1 dH:=by
 have sc:=yO;have nd:=sc.nd;refine uJ 1 F hm (F.binds λ_ _ _ _ _ _ us hl=>by obtain⟨_,_,_,_,_,rfl⟩:=Mi.l5 hl;rfl) sc D_ 0x4 0x4 λcdv A outer s H E hr=>?_
 have hu:=zO hr;exact aG (bY (cL aM)) (aG (bY (cL (aB (qU aA) aM))) (aG (bY (bQ (ZP 0x3) 0x3 B.max aE9 (aB aD (aB (aR rP aA (aQ aA aA)) aM)))) (aG (XM fj (cJ (aGa hu) aA (cL aM) (cW _)) (aG (X3 rfl rfl 0x0 sc.nd rfl 0x0 rfl) (aG (bY (aR rP (aR bN aA (aQ aA aA)) aD)) (aG (vO (show cO eN (aN g_) _ (["row"]:ae Str) from 0x9) rfl rfl rfl (dI aA) (d9 12) (λ_=>aX (show((dv (fW (["row"]:ae Str)) eN++(["row"]:ae Str)):ae Str).Nodup from 0x6) rfl 0x0) (λ_=>PW.pt (M9 (cJ (oJ hu) (aQ aA aD) aA (cW _)) (xF (cJ aOp (bQ (vP 0x3) 0x3 B.sum vQ (aB (gP (show cO (dv (fW (["row"]:ae Str)) eN++(["row"]:ae Str)) _ _ (["x"]:ae Str) from ⟨rfl,by decide +kernel,by decide +kernel,eg 0x3,by decide +kernel,by decide +kernel,by decide +kernel⟩) rfl rfl rfl (dI (aQ aA aD)) (d9 13) (λ_=>aX (show((dv (fW (["x"]:ae Str)) (dv (fW (["row"]:ae Str)) eN++(["row"]:ae Str))++(["x"]:ae Str)):ae Str).Nodup from 0x6) rfl 0x0) (λ_=>aQ aA aA) (λ_=>rfl)) aM)) aA (cW _))))) (λ_=>aA) (λ_=>rfl) rfl sc.nd rfl 0x0 (jd rfl) 0x5) (aG (jN rfl sc.nd rfl 0x0 (aKu (aKa hK hu) rfl rfl 0x0 (CQ b_ 0x14 0xc) (λ_ _=>rfl))) (aG (n6 rfl rfl 0x0 (aQ aA aD)) (aG (bY (aR rP aA (bQ (vP 0x3) 0x3 B.sum vQ (aB (gP (show cO eN (aN g_) _ (["x"]:ae Str) from 0x9) rfl rfl rfl (dI (aQ aA aD)) (d9 12) (λ_=>aX (show((dv (fW (["x"]:ae Str)) eN++(["x"]:ae Str)):ae Str).Nodup from 0x6) rfl 0x0) (λ_=>aQ aA aA) (λ_=>rfl)) aM)))) (aW (aEb rfl rfl 0x0 (YT 0x3 0x3 B.list 0x3 B.reversed (aQ aA aD))))))))))) (aW (yC rfl rfl 0x0)))))
theorem yP:bZ eO ["deck","makers","takers","names","least"] (aN fL):=0xa
theorem vD[KFrag](hK:KFrag.K=K)(B:Bt mg)(ph:G_ P w K mg base 2 "_law_words" 5 1 dH)(F:Fun K "_law_rules" "_law_rules" fL fad fd)(hm:mg "_law_rules"=aa (.ref fad)):G_ P w K mg base 3 "_law_rules" 5 1 jP:=by
 have sc:=yP;have nd:=sc.nd;refine uJ 1 F hm (F.binds λ_ _ _ _ _ _ us hl=>by obtain⟨_,_,_,_,_,rfl⟩:=Mi.l5 hl;rfl) sc E_ 0x4 0x4 λcdv A outer s H E hr=>?_
 have hu:=zO hr;exact aG (bY (aR bN aA (gP (show cO eO (aN fL) _ (["row"]:ae Str) from 0x9) rfl rfl rfl (dI aA) (d9 14) (λ_=>aX (show((dv (fW (["row"]:ae Str)) eO++(["row"]:ae Str)):ae Str).Nodup from 0x6) rfl 0x0) (λ_=>dD (aB (aQ aA aD) (aB (aQ aA aD) (aB (aR mW (dD (aB (aQ aA aD) aM)) (aQ aA aD)) aM)))) (λ_=>rfl)))) (aG (bY (cL aM)) (aG (JQ rfl fj rfl rfl 0x0 (iG rfl) 0xd (aW (JQ rfl fj rfl rfl 0x0 (iG rfl) 0xd (aW (jC (cJ (oJ hu) (aQ aA aD) (aQ aA aD) (cW _)) (aG (bY (aR mW (aQ aA aD) (aQ aA aD))) (aG (bY (aR bN aD (aR b_ 0xc aD))) (aG (bY (gP (show cO eO (aN fL) _ (["j"]:ae Str) from 0x9) rfl rfl rfl (lO 0x3 B.range (aB 0xc aM)) (d9 14) (λ_=>aX (show((dv (fW (["j"]:ae Str)) eO++(["j"]:ae Str)):ae Str).Nodup from 0x6) rfl 0x0) (λ_=>aQ aA (aR bN aD (aR b_ (aR bN 0xc (aR jY aA aA)) aD))) (λ_=>rfl))) (aG (qH (show cO eO (aN fL) _ (["j"]:ae Str) from 0x9) rfl rfl rfl (lO 0x3 B.range (aB 0xc aM)) (d9 14) (λ_=>aX (show((dv (fW (["j"]:ae Str)) eO++(["j"]:ae Str)):ae Str).Nodup from 0x6) rfl 0x0) (λ_=>dD (aB (aQ aA aA) (aB (aQ aA aA) (aB (dD aM) aM)))) (λ_=>rfl) rfl sc.nd rfl 0x0 (jd rfl) 0x5) (aG (jN rfl sc.nd rfl 0x0 (dG ph hr 0x4 0x3 rfl rfl 0x0 (aKw (aR bN aA aA) (aH2 (aQ aA aD) (aH2 aD (kY rfl rfl 0x0 (gV))))))) (aW (n6 rfl rfl 0x0 (dD (aB (aQ aA aD) (aB (aQ aA aD) (aB 0x16 (aB 0x16 aM)))))))))))) dW))))) (aW (yC rfl rfl 0x0))))
theorem vG:bZ yJ ["words","heads"] (aN lX):=0xa
theorem uR[KFrag](hK:KFrag.K=K)(B:Bt mg)(F:Fun K "_law_behind" "_law_behind" lX fad fd)(hm:mg "_law_behind"=aa (.ref fad)):qQ P w K mg base 1 "_law_behind" 2 dY:=by
 have sc:=vG;have nd:=sc.nd;refine BX F hm (F.binds λ_ _ _ _ _ _ us hl=>by obtain⟨_,_,rfl⟩:=Mi.l2 hl;rfl) sc yI 0x4 0x4 λcdv A outer s H E hr=>?_
 have hu:=zO hr;exact aG (bY (M8)) (aG (JQ rfl fj rfl rfl 0x0 (iG rfl) 0xd (aW (N7 hu rfl rfl 0x0 (aQ aA aD) (bQ (fB hK) 0x3 B.len fC (aB (aQ aA aD) aM))))) (aG (bY (cL aM)) (aG (bY aD) (aG (n8 fj rfl (dI (jM hK aA (fK aD) (fJ))) (iG rfl) 0xd (aG (jC (cJ (oJ hu) aA aD (cW _)) (aG (n6 rfl rfl 0x0 (dD aM)) (aW (bY aD))) dW) (aG (JZ rfl rfl 0x0 (wZ qF aD) (aR mW (aQ aA (wZ qF aD)) (dD (aB aA aM)))) (aW (bY (aR bN (aR rP aA aD) (aQ aA aA))))))) (aW (WN rfl rfl 0x0))))))
theorem yQ:bZ m8 ["rule","values"] (aN jQ):=0xa
theorem vH[KFrag](hK:KFrag.K=K)(B:Bt mg)(F:Fun K "_law_go_on" "_law_go_on" jQ fad fd)(hm:mg "_law_go_on"=aa (.ref fad)):qQ P w K mg base 1 "_law_go_on" 2 h_:=by
 have sc:=yQ;have nd:=sc.nd;refine BX F hm (F.binds λ_ _ _ _ _ _ us hl=>by obtain⟨_,_,rfl⟩:=Mi.l2 hl;rfl) sc FJ 0x4 0x4 λcdv A outer s H E hr=>?_
 have hu:=zO hr;exact aG (bY (dD aM)) (aG (n8 fj rfl (dI (aQ aA aD)) (iG rfl) 0xd (aW (jC (cJ (B_ hu) aA (aQ aA aD) 0x5) (aW (bY (aR mW aA (aQ aA (aGg B6 ya PySem.F.type_tuple_index (X6 hu) (aQ aA aD) (aB aA aM) (λ_ _ _ _ _ h r=>X7 h r)))))) (aW (bY (aR mW aA (dD (aB aA aM)))))))) (aG (bY aD) (aG (bY aD) (aG (n8 fj rfl (lO 0x3 B.range (aB 0xc aM)) (iG rfl) 0xd (aG (bY (bQ (fB hK) 0x3 B.len fC (aB (R7 (show cO m8 (aN jQ) _ (["word"]:ae Str) from 0x9) rfl rfl rfl (dI (aQ aA aD)) (d9 8) (λ_=>aX (show((dv (fW (["word"]:ae Str)) m8++(["word"]:ae Str)):ae Str).Nodup from 0x6) rfl 0x0) (λ_=>cJ (oJ hu) aA (aQ (aQ aA aD) aA) (cW _)) (λ_=>aA) (λ_=>rfl)) aM))) (aG (bY (aR bN aA (aR jY (bQ (ZP 0x3) 0x3 B.max aE9 (aB aD (aB (aR rP aA aD) aM))) (bQ (fB hK) 0x3 B.len fC (aB (aQ aA aA) aM))))) (aW (bY (aR bN aA (aR jY (cZ XX 0x3 B.int WW (aB (aK3 (oJ hu) aA aD (cW _)) aM)) (bQ (fB hK) 0x3 B.len fC (aB (aQ aA aA) aM))))))))) (aW (rQ (cL (aB (qU aA) (aB aD (aB (qU aA) (aB (qU aA) aM)))))))))))
theorem yR:bZ FQ ["program","words","bound"] (aN m7):=0xa
theorem vI[KFrag](hK:KFrag.K=K)(B:Bt mg)(pq:aCq P w K mg base 6 "worth" 3 fY)(pH:mg "MillError"=aa (.ref pI))(pJ:mg "Spent"=aa (.ref pz))(y1:aP3 (λc=>∃C,nsIn K bE c=aa (aa (.ref C))/\uS K (.ref C) (.ref pI)=aa ag) ["Spent"])(y2:aP2 (λc b=>∃C,nsIn K bE c=aa (aa (.ref C))/\XC K C/\lr K (.ref C) (.ref pz)=aa b) [("Spent",ag)]/\lr K (.type "NoneType") (.ref pz)=aa ak)(F:Fun K "_law_worth" "_law_worth" m7 fad fd)(hm:mg "_law_worth"=aa (.ref fad)):qQ P w K mg base 7 "_law_worth" 3 cC:=by
 have sc:=yR;have nd:=sc.nd;refine BX F hm (F.binds λ_ _ _ _ _ _ us hl=>by obtain⟨_,_,_,rfl⟩:=Mi.l3 hl;rfl) sc FN 0x4 0x4 λcdv A outer s H E hr=>?_
 have hu:=zO hr;exact aG (bY WD) (aG (bY WD) (aG (aHm hK rfl rfl (aLr (o:=ag) pq.g hr 0x4 0x3 (aB aA (aB aA (aB aA aM))) rfl sc.nd rfl 0x0 (.inl rfl)) 0x3 pH (Y5 y1) sc.nd rfl rfl rfl 0x0 (.inl rfl) rfl rfl 0x4) (aG (jC (cJ aGb aA WD (cW _)) (aW (rQ (cL (aB (aR rP (cZ XX 0x3 B.int WW (aB (aD4 (v:=.ref pz) hK (Y4 y2.1) y2.2 (λu r=>r) 0x3 B.isi rfl 0x0 (aFg 0x3 pJ rfl) rfl rfl) aM)) aD) aM)))) dW) (aG (jC (PW.pt (JH (WF (vM (NT .tuple aA 0x3 B.isi iM 0x3 B.tuple eE))) (JH (cJ (aGa hu) 0xc aD (cW _)) (BL (WF (vM (NT .tuple (aQ aA aD) 0x3 B.isi iM 0x3 B.tuple eE))))))) (aW (rQ (cL (aB (wZ qF aD) aM)))) dW) (aG (n8 fj rfl (dI (jM hK aA (fK aD) (fJ))) (iG rfl) 0xd (aW (jC (PW.pt (JH (WF (vM (NT .int aA 0x3 B.isi iM 0x3 B.int WW))) (JH (vM (NT .bool aA 0x3 B.isi iM 0x3 B.bool aGn)) (BL (cJ aBv aA aD (cW _)))))) (aW (rQ (cL (aB (wZ qF aD) aM)))) dW))) (aW (rQ (cL (aB (qU (aQ aA aD)) (aB (qU (aQ aA aD)) (aB (qU (aQ aA aD)) (aB (qU (aQ aA aD)) aM))))))))))))
theorem KQ:bZ rD ["program","words","heads","bound","come"] (aN nH):=0xa
theorem GK[KFrag](hK:KFrag.K=K)(B:Bt mg)(pi:qQ P w K mg base 7 "_law_worth" 3 cC)(pA:qQ P w K mg base 1 "_law_behind" 2 dY)(pK:qQ P w K mg base 1 "_law_go_on" 2 h_)(F:Fun K "_law_due" "_law_due" nH fad fd)(hm:mg "_law_due"=aa (.ref fad)):aNx P w K mg base 8 "_law_due" 5 4 lD:=by
 have sc:=KQ;have nd:=sc.nd;refine aHt 4 F hm (F.binds λ_ _ _ _ _ _ us hl=>by obtain⟨_,_,_,_,_,rfl⟩:=Mi.l5 hl;rfl) sc TX 0x4 0x4 λcdv A outer s H E hr=>?_
 have hu:=zO hr;exact aG (bY (cL (aB aD (aB aD (aB aD aM))))) (aG (bY (cL aM)) (aG (bY V_) (aG (n8 fj rfl (dI (jL pA hr 0x4 0x3 (aB aA (aB aA aM)))) (iG rfl) 0xd (aG (YX rfl rfl 0x0 aA) (aG (bY (DW (jL pi hr 0x4 0x3 (aB aA (aB aA (aB aA aM)))))) (aG (jC (cJ (ZV hK hu) aA (cL (aB (wZ qF aD) aM)) (cW _)) (aW (jZ aA)) dW) (aW (jC (cJ (ZV hK hu) aA (cL (aB aD aM)) (cW _)) (aW (bY V_)) (aG (n6 rfl rfl 0x0 (aQ aA aD)) (aW (bY (cL (aB (aR bN (aQ aA aD) (aQ aA aD)) (aB (aR bN (aQ aA aD) (aQ aA aD)) (aB (aR bN (aQ aA aD) (aQ aA aD)) aM))))))))))))) (aG (jC (PW.pt (JH (vM aA) (BL (cJ aBw (bQ (vP 0x3) 0x3 B.sum vQ (aB aA aM)) aA (cW _))))) (aW (jZ (DW (cL (aB aD aM))))) dW) (aG (vO (show cO rD (aN nH) _ (["row"]:ae Str) from 0x9) rfl rfl rfl (dI (aQ aA aD)) (d9 12) (λ_=>aX (show((dv (fW (["row"]:ae Str)) rD++(["row"]:ae Str)):ae Str).Nodup from 0x6) rfl 0x0) (λ_=>PW.pt (M9 (cJ (aGa hu) aA (cL aM) (cW _)) (xF (cJ (oJ hu) (dD (aB (aQ aA aD) (aB (aQ aA aD) aM))) (dD (aB (aQ aA aD) (aB (aQ (aQ aA aD) aD) aM))) (cW _))))) (λ_=>aA) (λ_=>rfl) rfl sc.nd rfl 0x0 (jd rfl) 0x5) (aG (jC (cJ (oJ hu) aA (cL aM) (cW _)) (aW (jZ (DW (aR bN (cL (aB (qU (aHr 0x3 0x3 B.sum aA (aLy hK aA (fJ) (fK aD)))) aM)) aA)))) dW) (aG (bY (DW (jL pK hr 0x4 0x3 (aB (aQ aA aD) (aB (aR bN (jL pA hr 0x4 0x3 (aB (aQ aA aD) (aB aA aM))) (jM hK aA (fK aD) (fJ))) aM))))) (aG (bY (cL (aB (aR bN (aQ aA aD) aD) (aB (aR bN (aQ aA aD) (aQ aA aD)) (aB (aR bN (aQ aA aD) (aQ aA aD)) aM))))) (aG (jC (cJ aBw (bQ (vP 0x3) 0x3 B.sum vQ (aB aA aM)) aA (cW _)) (aW (jZ (DW (cL (aB aD aM))))) dW) (aG (jC (cJ aBw (bQ (fB hK) 0x3 B.len fC (aB (aQ aA aD) aM)) aD (cW _)) (aW (jZ (DW (cL (aB aD aM))))) dW) (aG (YX rfl rfl 0x0 (aQ aA aD)) (aG (bY (DW (jL pi hr 0x4 0x3 (aB aA (aB (aQ aA aD) (aB (aR rP aA (bQ (vP 0x3) 0x3 B.sum vQ (aB aA aM))) aM)))))) (aG (jC (cJ (oJ hu) 0xc aD (cW _)) (aW (jZ aA)) dW) (aW (jZ (DW (cL (aB (qU (aQ aA aD)) (aB (aR bN (aQ aA aD) (aQ aA aD)) (aB (aR bN (aQ aA aD) (aQ aA aD)) (aB (aR bN (aQ aA aD) (aQ aA aD)) aM)))))))))))))))))))))
theorem aM0:bZ aHx ["script"] (aN vA):=0xa
theorem aM1[KFrag](hK:KFrag.K=K)(B:Bt mg)(p5:G_ P w K mg base 1 "_law_next" 1 1 a_)(pL:G_ P w K mg base 2 "_law_names" 1 1 gZ)(pM:G_ P w K mg base 2 "_law_sig" 2 1 lA)(ph:G_ P w K mg base 2 "_law_words" 5 1 dH)(pN:G_ P w K mg base 3 "_law_rules" 5 1 jP)(pO:aNx P w K mg base 8 "_law_due" 5 4 lD)(pi:qQ P w K mg base 7 "_law_worth" 3 cC)(F:Fun K "law" "law" vA fad fd):lJ P w K mg base CX0 9 fad fd ["script"] (spD ZX 1):=by
 have sc:=aM0;have nd:=sc.nd;refine aKf F sc o_law 0x4 0x4 λcdv A outer s H E hr=>?_
 have hu:=zO hr
 exact aG (bY (aKy (cL (aB (jM hK aA (fJ) (fK aD)) (aB aD aM))))) (aG (jN rfl sc.nd rfl 0x0 0x14) (aG (jN rfl sc.nd rfl 0x0 (CQ b_ 0x14 aD)) (aG (jC (cJ (oJ hu) (aR b_ (aR dU aA aD) aD) aD (cW _)) (aW (bY (aR jY aA aD))) dW) (aG (jN rfl sc.nd rfl 0x0 (dG pL hr 0x4 0x3 rfl rfl 0x0 (gV))) (aG (aL6 0x4 (dG pM hr 0x4 0x3 rfl rfl 0x0 (kY rfl rfl 0x0 (gV))) (aH5 rfl (eU 0xd (eU 0xd (eU 0xd (eU 0xd (wM))))))) (aG (bY (aR bN aA (gP (show cO aHx (aN vA) _ (["row"]:ae Str) from 0x9) rfl rfl rfl (dI aA) (d9 19) (λ_=>aX (show((dv (fW (["row"]:ae Str)) aHx++(["row"]:ae Str)):ae Str).Nodup from 0x6) rfl 0x0) (λ_=>dD (aB (aQ aA aD) (aB (aQ aA aD) (aB (aR mW (dD (aB (aQ aA aD) aM)) (aQ aA aD)) aM)))) (λ_=>rfl)))) (aG (bY (aQ (cL (aB aD (aB aD (aB aD aM)))) (aR b_ (aR dU aA aD) aD))) (aG (jN rfl sc.nd rfl 0x0 (dG ph hr 0x4 0x3 rfl rfl 0x0 (kY rfl rfl 0x0 (aH2 (aQ aA (aR b_ (aR dU aA aD) 0xc)) (kY rfl rfl 0x0 (kY rfl rfl 0x0 (gV))))))) (aG (jC (cJ (oJ hu) (aR b_ aA aD) aD (cW _)) (aG (bY (aQ aA (aR b_ (aR dU aA aD) 0xc))) (aG (bY (cL (aB (qU (aQ aA aD)) aM))) (aW (n8 fj rfl (dI (aR mW (dD (aB (aQ aA aD) aM)) (aQ aA aD))) (iG rfl) 0xd (aW (aHp rfl rfl 0x0 (dG ph hr 0x4 0x3 rfl rfl 0x0 (kY rfl rfl 0x0 (kY rfl rfl 0x0 (kY rfl rfl 0x0 (kY rfl rfl 0x0 (gV)))))))))))) dW) (aG (jN rfl sc.nd rfl 0x0 (dG pN hr 0x4 0x3 rfl rfl 0x0 (kY rfl rfl 0x0 (kY rfl rfl 0x0 (kY rfl rfl 0x0 (kY rfl rfl 0x0 (gV))))))) (aG (bY (dD (aB 0x16 (aB 0x16 (aB 0x16 (aB 0x16 aM)))))) (aG (bY (cL (aB (qU 0x16) aM))) (aG (bY aD) (aG (XM fj (PW.pt (M9 (cJ aBv aA 0xc (cW _)) (xF (cJ aBv aA aD (cW _))))) (aG (jN rfl sc.nd rfl 0x0 (aD6 pO hr 0x4 0x3 rfl (ZW rfl rfl 0x0 (aPe (aQ aA aA) (ZW rfl rfl 0x0 (ZW rfl rfl 0x0 (aLu rfl rfl 0x0 (aLt)))))))) (aG (jC (PW.pt (JH (cJ (ZV hK hu) aA (cL (aB (wZ qF aD) aM)) (cW _)) (BL (PW.pt (M9 (cJ (aEn hK hu) aA (cL (aB aD aM)) (cW _)) (xF (cJ (aEn hK hu) (jL pi hr 0x4 0x3 (aB aA (aB (aQ aA aA) (aB aA aM)))) aA (cW _)))))))) (aW (rQ V_)) dW) (aW (bY (aR bN aA aD)))))) (aW (rQ V_))))))))))))))))
def AtN(K:Frag)(n:Str)(st:bz):Prop:=∃(f:al)(fd:dm),nsIn K bE n=aa (aa (.ref f))/\Fun K n n st f fd
theorem aPr{oc kV dc pm cd ct:am}{od an:ar al}{sl:br (ar am)}(a:nsIn K bE n=aa (aa (.ref f)))(l:K.lookup f=aa ⟨oc,od,.func (fnOf n n (jV st) (dR st) (aN st) .none kV dc pm an cd ct),sl⟩)(c:codeIn K cd n=ag)(k:keepIn K (.ref f)=ag):AtN K n st:=⟨f,_,a,V0 l c k⟩
noncomputable def noI(K:Frag)(v:ar (ar am)):ax:=match v with|some aj=>ag|_=>ak
theorem aEp(h:noI K v=ag):v=aa aj:=by
 unfold noI at h;split at h
 ·rfl
 ·cases h
noncomputable def btN:ae Str:=["len","min","max","list","tuple","sorted","range","isinstance","int","bool","str","dict","all","enumerate","sum","zip","abs","reversed"]
def clC(K:Frag)(d:al)(fs:ae Str):ax:=plainGet K d Ah&&(hasDictIn K d&&(plainOver K d&&(makesIn K d&&(keepIn K (.ref d)&&fs.all λf=>noI K (findIn K (.ref d) f)))))
def AtM(K:Frag)(d:al)(q n:Str)(st:bz):Prop:=∃(f:al)(fd:dm),Meth K d n f/\Fun K n q st f fd
theorem aM2{oc kV dc pm cd ct:am}{od an:ar al}{sl:br (ar am)}(a:findIn K (.ref d) n=aa (aa (.ref f)))(l:K.lookup f=aa ⟨oc,od,.func (fnOf n q (jV st) (dR st) (aN st) .none kV dc pm an cd ct),sl⟩)(c:codeIn K cd q=ag)(k:keepIn K (.ref f)=ag)(i:isFn K (.ref f)=ag):AtM K d q n st:=⟨f,_,⟨a,i,k⟩,V0 l c k⟩
theorem aM3(s:findIn K (.ref d) "__setattr__"=aa (aa (.builtin "object.__setattr__")))(h:clC K d fs=ag):Cls K d/\makesIn K d=ag/\keepIn K (.ref d)=ag/\∀f∈fs,cG K d f:=by
 unfold clC at h;simp only[aS,gq] at h;obtain⟨a,b,c,e,g,n⟩:=h;exact⟨⟨a,b,c,s⟩,e,g,λf hf=>aEp (n f hf)⟩
theorem Z2(g:nsIn K bE c=aa (aa (.ref d)))(l:Cls K d)(n:cG K d f):aH7 K c f:=λC h=>by cases (g.symm.trans h);exact⟨l,n⟩
theorem aM4{l:OpenLaw}{K:Frag}{h:bc}{mg:Str->ar am}{fa:al}(X:K.In h)(G:h.Ns bE mg)(hfa:mg "law"=aa (.ref fa))(a0:AtN K "heads_of" qZ)(a1:AtN K "words_of" q_)
 {f2 T2:al}{oc2 kV2 dc2 pm2 cd2 ct2 tc2:am}{od2 an2 td2:ar al}{sl2 tl2:br (ar am)}{tk2:em}{tn2:ah}(a2:nsIn K bE "worth"=aa (aa (.ref f2)))(l2:K.lookup f2=aa ⟨oc2,od2,.func (fnOf "worth" "worth" (jV rB) (dR rB) (aN rB) (.ref T2) kV2 dc2 pm2 an2 cd2 ct2),sl2⟩)(c2:codeIn K cd2 "worth"=ag)(k2:keepIn K (.ref f2)=ag)(t2:K.lookup T2=aa ⟨tc2,td2,.seq #[.int 400 tk2] tn2,tl2⟩)(a3:AtN K "_law_next" oO)(a4:AtN K "_law_names" gY)(a5:AtN K "_law_sig" gJ)(a6:AtN K "_law_words" g_)(a7:AtN K "_law_rules" fL)(a8:AtN K "_law_behind" lX)(a9:AtN K "_law_go_on" jQ)(a10:AtN K "_law_worth" m7)(a11:AtN K "_law_due" nH)
 {f12:al}{oc12 kV12 dc12 pm12 cd12 ct12:am}{od12 an12:ar al}{sl12:br (ar am)}(a12:nsIn K bE "law"=aa (aa (.ref f12)))(l12:K.lookup f12=aa ⟨oc12,od12,.func (fnOf "law" "law" (jV vA) (dR vA) (aN vA) .none kV12 dc12 pm12 an12 cd12 ct12),sl12⟩)(c12:codeIn K cd12 "law"=ag)(k12:keepIn K (.ref f12)=ag)(zB:btN.all (λn=>noI K (nsIn K bE n))=ag){pB:al}(pP:nsIn K bE "MillError"=aa (aa (.ref pB))){p6:al}(p9:nsIn K bE "Spent"=aa (aa (.ref p6)))(pQ:uS K (.ref p6) (.ref pB)=aa ag)(pR:isClsIn K p6=ag)(pS:findIn K (.ref p6) "__getattribute__"=aa (aa (.builtin "BaseException.__getattribute__")))(pT:findIn K (.ref p6) "__getattr__"=aa aj)(pU:findIn K (.ref p6) "__class__"=aa (aa (.builtin "object.__class__")))(pV:specialIn K (.builtin "object.__class__") "__get__"=aa (aa (.builtin "getset_descriptor.__get__")))(pW:takesIn K (.builtin "object.__class__")=aa ag)(pX:ud K p6 (.type "object")=aa ag)(pY:ud K p6 (.type "BaseException")=aa ag)(pZ:lr K (.ref p6) (.ref p6)=aa ag)(kn_Spent:lr K (.type "NoneType") (.ref p6)=aa ak){pc:al}(pb:nsIn K bE "Frame"=aa (aa (.ref pc))){p8:al}(p7:nsIn K bE "PlainRun"=aa (aa (.ref p8)))(sF:findIn K (.ref pc) "__setattr__"=aa (aa (.builtin "object.__setattr__")))(cF:clC K pc (lW.map (·.1))=ag)(mF:AtM K pc "Frame.__init__" "__init__" J7)(sP:findIn K (.ref p8) "__setattr__"=aa (aa (.builtin "object.__setattr__")))(cP:clC K p8 (eX.map (·.1))=ag)(mP:AtM K p8 "PlainRun.__init__" "__init__" k_)(m1:AtM K p8 "PlainRun.take_word" "take_word" iY)(m2:AtM K p8 "PlainRun.value_of" "value_of" rA)(m3:AtM K p8 "PlainRun.called" "called" yH)(m4:AtM K p8 "PlainRun.count_uses" "count_uses" mY)(qa:excIn K p6 aOq "ValueError.__new__"=ag) :
  ∃fd:dm,(∀(s:au)(v:am),kL s fd ⟨[v],[]⟩ [("script",v)])/\∀base:bc,K.In base->base.Ns bE mg->lJ l.prog w K mg base CX0 9 fa fd ["script"] (@spD ⟨K⟩ ZX 1):=by
 have e:=hfa.symm.trans (mg_of X G a12);cases e
 letI:KFrag:=⟨K⟩
 have Y:=λ{n:Str}{v:am}=>mg_of (n:=n) (v:=v) X G
 have Z:=λ{n:Str}=>mg_none_of (n:=n) X G
 obtain⟨f0,_,a0,F0⟩:=a0;obtain⟨f1,_,a1,F1⟩:=a1;obtain⟨f3,_,a3,F3⟩:=a3;obtain⟨f4,_,a4,F4⟩:=a4;obtain⟨f5,_,a5,F5⟩:=a5;obtain⟨f6,_,a6,F6⟩:=a6;obtain⟨f7,_,a7,F7⟩:=a7;obtain⟨f8,_,a8,F8⟩:=a8;obtain⟨f9,_,a9,F9⟩:=a9;obtain⟨f10,_,a10,F10⟩:=a10;obtain⟨f11,_,a11,F11⟩:=a11;have U:=λn h=>Z (aEp (gq.mp zB n h))
 have B:Bt mg:=⟨U _ 0x4,U _ 0x4,U _ 0x4,U _ 0x4,U _ 0x4,U _ 0x4,U _ 0x4,U _ 0x4,U _ 0x4,U _ 0x4,U _ 0x4,U _ 0x4,U _ 0x4,U _ 0x4,U _ 0x4,U _ 0x4,U _ 0x4,U _ 0x4⟩
 obtain⟨cl_Frame,mk_Frame,qb,nF⟩:=aM3 sF cF;obtain⟨cl_PlainRun,mk_PlainRun,qc,nP⟩:=aM3 sP cP;obtain⟨qd,_,M_F,FF⟩:=mF;obtain⟨qe,_,M_P,FP⟩:=mP;obtain⟨_,_,M_take_word,F_take_word⟩:=m1;obtain⟨_,_,M_value_of,F_value_of⟩:=m2;obtain⟨_,_,M_called,F_called⟩:=m3;obtain⟨_,_,M_count_uses,F_count_uses⟩:=m4;refine⟨fnOf "law" "law" (jV vA) (dR vA) (aN vA) .none kV12 dc12 pm12 an12 cd12 ct12,λs v=>.of_eq rfl,λbase _ _=>?_⟩;have qf:=FW (P:=l.prog) (w:=w) (base:=base) rfl B  F0 (Y a0);have pC:=FZ (P:=l.prog) (w:=w) (base:=base) rfl B  F1 (Y a1);have q_Frame:aJ4 l.prog w K mg base 1 "Frame" lW 2:=⟨pc,qd,_,_,pb,Y pb,⟨mk_Frame,M_F.at_,M_F.fn,qb⟩,ZZ rfl B  cl_Frame nF FF,(FF.binds λ_ _ _ _ _ _ us hl=>by obtain⟨_,_,_,rfl⟩:=Mi.l3 hl;rfl)⟩
 have q_PlainRun:aJ4 l.prog w K mg base 2 "PlainRun" eX 2:=⟨p8,qe,_,_,p7,Y p7,⟨mk_PlainRun,M_P.at_,M_P.fn,qc⟩,F_ rfl B qf cl_PlainRun nP FP,(FP.binds λ_ _ _ _ _ _ us hl=>by obtain⟨_,_,_,rfl⟩:=Mi.l3 hl;rfl)⟩
 have y_1:=Lk56.yL (P:=l.prog) (w:=w) (mg:=mg) (base:=base) rfl B cl_PlainRun (nP _ 0x4) (nP _ 0x4) F_count_uses;have y_2:=Lk56.Z1 (P:=l.prog) (w:=w) (base:=base) rfl B q_Frame p7 pb cl_PlainRun (nP _ 0x4) (nP _ 0x4) (nP _ 0x4) (nP _ 0x4) (Z2 p7 cl_PlainRun (nP _ 0x4)) (Y p9) qa M_count_uses y_1 (F_count_uses.binds λ_ _ _ _ _ _ us hl=>by obtain⟨_,_,_,rfl⟩:=Mi.l3 hl;rfl) F_called;have y_3:=Lk56.GD (P:=l.prog) (w:=w) (base:=base) rfl B p7 cl_Frame (nF _ 0x4) cl_PlainRun (Z2 p7 cl_PlainRun (nP _ 0x4)) (Z2 p7 cl_PlainRun (nP _ 0x4)) M_called y_2 (F_called.binds λ_ _ _ _ _ _ us hl=>by obtain⟨_,_,_,rfl⟩:=Mi.l3 hl;rfl) F_take_word;have y_4:=Lk56.KJ (P:=l.prog) (w:=w) (base:=base) rfl B q_Frame p7 pb cl_Frame (nF _ 0x4) cl_PlainRun M_take_word y_3 (F_take_word.binds λ_ _ _ _ _ _ us hl=>by obtain⟨_,_,_,_,rfl⟩:=Mi.l4 hl;rfl) (Z2 pb cl_Frame (nF _ 0x4)) (Z2 pb cl_Frame (nF _ 0x4)) F_value_of;have F2:aOr K "worth" "worth" rB f2 _ T2 #[.int 400 tk2]:=⟨⟨_,_,_,_,_,_,_,_,_,rfl,l2,c2⟩,k2,⟨_,_,_,_,t2⟩⟩
 have qm:aRq l.prog w K mg base 6 "worth" "most" 2 (.int 400) fY:=⟨⟨f2,_,["program","words","most"],.int 400 tk2,.int 400,(QD rfl B pC q_PlainRun p7 p9 cl_PlainRun (nP _ 0x4) (nP _ 0x4) (nP _ 0x4) M_value_of y_4 (F_value_of.binds λ_ _ _ _ _ _ us hl=>by obtain⟨_,_,rfl⟩:=Mi.l2 hl;rfl) F2).aS0,Y a2,k2,(λs us X' hl=>by obtain⟨_,_,_,rfl⟩:=Mi.l3 (by simpa using hl);exact rc rfl (X' _ _ t2) rfl rfl rfl),(λs us X' hl=>by obtain⟨_,_,rfl⟩:=Mi.l2 (by simpa using hl);exact rc rfl (X' _ _ t2) rfl rfl rfl),⟨_,rfl⟩,λ_=>.int 400,λs us y X' hl=>by obtain⟨_,_,rfl⟩:=Mi.l2 hl;first|exact .of_eq rfl|exact .of_eq 0x5|exact rc rfl (X' _ _ t2) rfl rfl rfl|exact rc rfl (X' _ _ t2) rfl 0x5 0x5⟩⟩
 have pq:aCq l.prog w K mg base 6 "worth" 3 fY:=⟨f2,_,["program","words","most"],QD rfl B pC q_PlainRun p7 p9 cl_PlainRun (nP _ 0x4) (nP _ 0x4) (nP _ 0x4) M_value_of y_4 (F_value_of.binds λ_ _ _ _ _ _ us hl=>by obtain⟨_,_,rfl⟩:=Mi.l2 hl;rfl) F2,Y a2,k2,λs us X' hl=>by obtain⟨_,_,_,rfl⟩:=Mi.l3 (by simpa using hl);exact rc rfl (X' _ _ t2) rfl rfl rfl⟩
 have pj:=yM (P:=l.prog) (w:=w) (base:=base) rfl B  F3 (Y a3);have qg:=vB (P:=l.prog) (w:=w) (base:=base) rfl B pj F4 (Y a4);have qh:=GJ (P:=l.prog) (w:=w) (base:=base) rfl B pj F5 (Y a5);have pD:=vC (P:=l.prog) (w:=w) (base:=base) rfl B pj F6 (Y a6);have qi:=vD (P:=l.prog) (w:=w) (base:=base) rfl B pD F7 (Y a7);have qj:=uR (P:=l.prog) (w:=w) (base:=base) rfl B  F8 (Y a8);have qk:=vH (P:=l.prog) (w:=w) (base:=base) rfl B  F9 (Y a9);have pE:=vI (P:=l.prog) (w:=w) (base:=base) rfl B  pq (Y pP) (Y p9) ⟨⟨_,p9,pQ⟩,trivial⟩ ⟨⟨⟨_,p9,⟨pR,pS,pT,pU,pV,pW,pX,pY⟩,pZ⟩,trivial⟩,kn_Spent⟩ F10 (Y a10);have ql:=GK (P:=l.prog) (w:=w) (base:=base) rfl B pE qj qk F11 (Y a11);exact aM1 rfl B pj qg qh pD qi ql pE (V0 (st:=vA) l12 c12 k12)
theorem walk{l:OpenLaw}{d:DefRec}{K:Params->Frag}(main:∀ns:ae ai,ns.length<=63->ZX [.scr (ns.map ι)]=.ok (.bl ag))(hn:l.most=aa 63)(hdf:d.params.defaults=[])
 (hY:∀(w:bu) (h:bc),YP w h->(K w.params).In h)
 (F:∀(w:bu) (mg:Str->ar am) (fa:al) (h:bc),(K w.params).In h->h.Ns bE mg->mg d.name=aa (.ref fa)->
   ∃fd:dm,(∀(s:au) (u:am),kL s fd ⟨[u],[]⟩ [("script",u)])/\∀base:bc,(K w.params).In base->base.Ns bE mg->lJ l.prog w (K w.params) mg base CX0 9 fa fd ["script"] (@spD ⟨K w.params⟩ ZX 1)) :
  WalkO q loose XP YP l.row.toRowW d [] (λf vs=>xk f vs):=
 L2.aG3 hn 0x4 hdf ⟨rfl,by decide,by decide⟩ hY F (λw H a ns hl hO hS=>WX main hl hO hS) λ_ _ _ _ _ z=>z
end Lk56
end
namespace Lk56
open PySem L2 Mi
theorem iZ{ρ rest h h':ae D}(h1:fs ρ=.ok rest)(h2:xY (ρ.getD i .uD)=aa h)(h3:rest.length+1=n)(h4:ch1 f h rest=.ok (r,h'))(h5:ε h'=ag)(he:ρ.set i (YF (ρ.getD i .uD) h')=ρ'):dZ f n i fs ρ=.ok (r,ρ'):=by
 subst he;unfold dZ;rw[h1,θ,h2];dsimp only;rw[aq (bt h3),h4,θ];dsimp only;rw[aq h5]
theorem gK(h:f ρ=.ok (d,ρ'))(he:ρ'.set i d=ρ2):jD ak i f ρ=.ok (.nx ρ2):=by
 subst he;unfold jD;rw[h];rfl
theorem aD9(h:f ρ=.ok (d,ρ'))(hi:inner d=ag)(he:ρ'.set i d=ρ2):jD ag i f ρ=.ok (.nx ρ2):=by
 subst he;unfold jD;rw[h,θ];dsimp only;rw[aq rfl,aq hi]
theorem rW(h:f ρ=.ok (.rt d)):bF f g ρ=.ok (.rt d):=by
 unfold bF;rw[h];rfl
theorem KR(h1:fv ρ=.ok d)(h2:fk ρ=.ok (.int k))(h3:xY (ρ.getD i .uD)=aa xs)(hp:d.pure=ag)(hj:ixD xs.length k=aa j)(he:ρ.set i (YF (ρ.getD i .uD) (xs.set j d))=ρ'):JX i fk fv ρ=.ok (.nx ρ'):=by
 subst he;unfold JX;rw[h1,θ,h2,θ,h3];dsimp only;rw[aq hp,hj]
theorem j0(h:f ρ=.ok d)(hp:(k||d.pure)=ag):qD f k ρ=.ok (.rt (.tup (d::ρ))):=by
 unfold qD;rw[h,θ,aq hp]
theorem yS(h:b8 i ρ=.ok d)(hp:d.M3=ag):tX i ρ=.ok (.rt (.tup (d::ρ))):=by
 unfold tX;rw[h,θ,aq hp]
theorem nT(h:f ρ=.ok d)(hp:d.pure=ag):bPu f ρ=.ok d:=by
 unfold bPu;rw[h,θ,aq hp]
theorem wA(h1:fa ρ=.ok (x,ρ1))(hp:x.pure=ag)(h2:fb ρ1=.ok y)(h3:f x y=.ok d)(hd:d.pure=ag):x2L f fa fb ρ=.ok (d,ρ1):=by
 unfold x2L;rw[h1,θ];dsimp only;rw[aq hp,h2,θ,h3,θ,aq hd]
theorem aEq(h1:fa ρ=.ok x)(h2:fb ρ=.ok (y,ρ1))(h3:f x y=.ok d)(hd:d.pure=ag):x2R f fa fb ρ=.ok (d,ρ1):=by
 unfold x2R;rw[h1,θ,h2,θ];dsimp only;rw[h3,θ,aq hd]
theorem aM5(h:f ρ=.ok (.bl b,ρ1)):xTB f ρ=.ok (b,ρ1):=by
 unfold xTB;rw[h];rfl
theorem Z3(h1:c ρ=.ok (k,ρ1))(h2:(if k then f ρ1 else g ρ1)=r):aNt c f g ρ=r:=by
 unfold aNt;rw[h1];exact h2
theorem wB(h:f (ds++bX (m-n) .uD)=.ok (.rt (.tup (d::ρ)))):fnX k n m f ds=.ok (.tup (d::ρ.take k)):=by
 unfold fnX;rw[h];rfl
theorem lZ(a b:ai)(h:gQ b=ag):xQ (.int a) (.int b)=.ok (.int (a*b)):=by
 show bG .mul (.int a) (.int b)=_;exact aKh a b h
theorem uT(a:ai)(h1:-10000000000<=a)(h2:a<=10000000000):gQ a=ag:=by
 unfold gQ;rw[aS,cv,cv];lia
theorem aM6(a b:ai):u_ .le (.int a) (.int b)=.ok (.bl (ϒ (a<=b))):=rfl
theorem GP(a b:ai):u_ .lt (.int a) (.int b)=.ok (.bl (ϒ (a<b))):=rfl
theorem cmp_gt(a b:ai):u_ .gt (.int a) (.int b)=.ok (.bl (ϒ (b<a))):=rfl
theorem l_(a b:ai):lG .eq (.int a) (.int b)=.ok (.bl (a==b)):=rfl
theorem Z4(ns:ae ai)(i:ai)(h0:0<=i)(h1:i<ns.length):∃n,getD (.scr (ns.map ι)) (.int i)=.ok (.int n):=by
 have hl:i.toNat<ns.length:=by lia
 refine⟨ns[i.toNat],?_⟩;show ο ((ixD (ns.map ι).length i).bind λj=>(ns.map ι)[j]?)=_;unfold ixD;rw[aq h0,az,aq h1];simp[hl]
noncomputable def tx(cs:ae ah):Str:=⟨cs.toArray⟩
theorem rY(cs:ae ah):(tx cs).length=cs.length:=by
 show cs.toArray.size=_;simp
theorem Z5(a b:ae ah):tx a++tx b=tx (a++b):=by
 show(⟨a.toArray++b.toArray⟩:Str)=⟨(a++b).toArray⟩
 congr 1
 simp
theorem aEr(h:tx a=tx b):a=b:=by
 unfold tx at h;injection h with h
 have:=cy vF h;simpa using this
noncomputable def abc:Str:= "abcdefghijklmnopqrstuvwxyz"
theorem aM7:∀i,i<26->abc.cps.toList[i]?=aa (97+i):=0x6
theorem letter(i:ai)(h0:0<=i)(h1:i<26):getD (.str abc) (.int i)=.ok (.str (tx [97+i.toNat])):=by
 have hl:ϒ (abc.length<=lim)=ag:=by decide +kernel
 have h26:abc.cps.toList.length=26:=by decide +kernel
 have hix:ixD abc.cps.toList.length i=aa i.toNat:=by
  unfold ixD;rw[aq h0,h26,aq 0x1]
 show(if ϒ (abc.length<=lim) then ο (((ixD abc.cps.toList.length i).bind λj=>abc.cps.toList[j]?).map λc=>π ⟨#[c]⟩) else .bad)=_;rw[hl,aq rfl,hix];simp only[yx];rw[aM7 _ 0x1];rfl
noncomputable def dk(cs:ae ai)(n:ah):ae D:=[.scr (cs.map ι),.int n]
theorem jR(cs:ae ai)(n:ah):ε (dk cs n)=ag:=by
 show((D.scr (cs.map ι)).pure&&_)=ag;rw[ξ,qT];rfl
theorem aHy(cs:ae ai)(n:ah)(hn:n<=100000):∃r:ai,∀b,a_ [.cel b (dk cs n)]=.ok (.tup [.int r,.cel b 0x1c]):=by
 have hl:mG [.scr (cs.map ι)]=.ok (.int cs.length):=by
  show τ (ι ((cs.map ι).length:ai))=_;rw[az]
 have pre:∀(b:ah)(R:Res Fl)(g:FS),g [.cel b 0x1c,.scr (cs.map ι),.int n]=R->(bF (cU ak 1 (b2 getD nO fD) ak) (bF (cU ak 2 (b2 getD nO c7) ak) (bF (JX 0 c7 (b2 (bG .add) gF c7)) g))) [.cel b (dk cs n),.uD,.uD]=R:=λb R g hg=>by
  refine aL (gH 0x12 (qT cs)) ?_;refine aL (gH 0x12 rfl) ?_;exact aL (KR 0x12 rfl rfl rfl rfl rfl) hg
 have h0:∀(b:ah)(d:D)(ρ:ae D),uQ [.cel b (dk cs n),.uD,.uD]=.ok (.rt (.tup (d::.cel b 0x1c ::ρ)))->a_ [.cel b (dk cs n)]=.ok (.tup [d,.cel b 0x1c]):=λb d ρ h=>wB (k:=1) (ρ:=.cel b 0x1c ::ρ) h
 by_cases h1:n<cs.length
 ·obtain⟨r,hr⟩:=Z4 cs n 0x1 0x1;refine⟨r,λb=>h0 b _ _ (pre b _ _ (rW (xR (cX (aJ rfl (bA 0x13 hl) ((GP _ _).trans (by rw[bt 0x1])))) (j0 (aJ rfl rfl hr) rfl))))⟩
 ·have c1:∀b:ah,(sIf (bTB (b2 (u_ .lt) gF (bD mG (aF iT aY)))) (qD (b2 getD iT gF) ak) tW) [.cel b 0x1c,.scr (cs.map ι),.int n]=.ok (.nx [.cel b 0x1c,.scr (cs.map ι),.int n]):=λb=>uB (cX (aJ rfl (bA 0x13 hl) ((GP _ _).trans (by rw[cx 0x1])))) rfl
  have hs:gQ (n:ai)=ag:=uT _ 0x1 0x1;by_cases h2:cs.length=0
  ·refine⟨(n:ai)*n*3+n,λb=>h0 b _ _ (pre b _ _ (aL (c1 b) (rW (xR (cX (aJ (bA 0x13 hl) rfl ((l_ _ _).trans (by rw[h2];rfl)))) (j0 (aJ (aJ (aJ rfl rfl (lZ _ _ hs)) rfl (lZ _ _ rfl)) rfl (cV _ _)) rfl)))))⟩
  ·have hp:(0:ai)<cs.length:=by lia
   obtain⟨r,hr⟩:=Z4 cs ((n:ai) % cs.length) (rg _ 0x1) (rh _ hp);refine⟨r / 2+n*n,λb=>h0 b _ _ (pre b _ _ (aL (c1 b) (aL (ρ':=[.cel b 0x1c,.scr (cs.map ι),.int n]) (uB (cX (aJ (bA 0x13 hl) rfl ((l_ _ _).trans ?_))) rfl) (j0 (aJ (aJ (aJ rfl (aJ rfl (bA 0x13 hl) (cA _ _ hp)) hr) rfl (dX _ _ 0x4 0x4)) (aJ rfl rfl (lZ _ _ hs)) (cV _ _)) rfl))))⟩;have:((cs.length:ai)==0)=ak:=by simpa using h2
   rw[this]
theorem i_(cs:ae ai)(n:ah)(hn:n<=100000):∃r:ai,ch1 a_ (dk cs n) []=.ok (.int r,dk cs (n+1)):=by
 obtain⟨r,h⟩:=aHy cs n hn;exact⟨r,CP h⟩
theorem uU(e:ch1 a_ (dk cs n) []=.ok (.int r,dk cs (n+1)))(h2:xY (ρ.getD i .uD)=aa (dk cs n))(he:ρ.set i (YF (ρ.getD i .uD) 0x1c)=ρ'):dZ a_ 1 i aY ρ=.ok (.int r,ρ'):=
 iZ rfl h2 rfl e (jR cs (n+1)) he
noncomputable def one(c:ah):Str:=⟨#[c]⟩
theorem GQ:∀(cs:ae ah)(a:br ah),((cs.map one).foldl (λacc p=>acc++("" : Str).cps++p.cps) a)=a++cs.toArray
 |[],a=>by simp
 |c::cs,a=>by
  rw[aI,B7,GQ cs];apply yy;simp[one,show(("" : Str).cps)=#[] from rfl]
theorem join_one(cs:ae ah):oS ("" : Str) (cs.map one)=tx cs:=by
 unfold oS Dp tx;cases cs with
 |nil=>rfl
 |cons c cs=>
  rw[aI,yq,qy,List.headD_cons,GQ]
  congr 1
  apply yy;simp[one]
theorem GR:∀cs:ae ah,uA (cs.map λc=>π (one c))=aa (cs.map one)
 |[]=>rfl
 |c::cs=>by
  show(uA (cs.map λc=>π (one c))).map (one c::·)=_;rw[GR cs];rfl
theorem aHz(cs:ae ah)(h:cs.length<=100):joinM (.str "") [.lst (cs.map λc=>π (one c))]=.ok (.str (tx cs)):=by
 show(match uA (cs.map λc=>π (one c)) with|some ts=>if oQ "" ts then τ (π (oS "" ts)) else .bad|none=>.bad)=_;rw[GR];show(if oQ "" (cs.map one) then τ (π (oS "" (cs.map one))) else .bad)=_;have hok:oQ "" (cs.map one)=ag:=by
  unfold oQ;rw[StrLaws.joinFits (B:=1) (λy hy=>by obtain⟨c,_,rfl⟩:=ck.mp hy;exact bq _) (by rw[az,show(("" : Str).length)=0 from rfl];lia)];rfl
 rw[aq hok,join_one]
theorem aR2(h1:a ρ=.ok ag):bOr a b ρ=.ok ag:=by
 unfold bOr;rw[h1];rfl
theorem aEs(h1:a ρ=.ok ak)(h2:b ρ=r):bOr a b ρ=r:=by
 unfold bOr;rw[h1];exact h2
theorem aPs(h1:a ρ=.ok x)(h2:b ρ=.ok y):bOr a b ρ=.ok (x||y):=by
 cases x with
 |true=>exact aR2 h1
 |false=>exact aEs h1 h2
theorem oR(h:a ρ=.ok (.int i)):fZ a ρ=.ok (aa i):=by
 unfold fZ;rw[h];rfl
theorem KY(h1:a ρ=.ok (.str x))(h2:lo ρ=.ok l)(h3:hi ρ=.ok h)(hx:x.length<=1000):oK a lo hi ρ=.ok (.str (ii x l h)):=by
 unfold oK;rw[h1,θ,h2,θ,h3,θ];show(if ϒ (x.length<=lim) then τ (π (ii x l h)) else .bad)=_;rw[aq (by rw[aZ];exact bt 0x1)]
theorem aEt(x:Str):tx x.cps.toList=x:=rfl
theorem aI0(c:ah)(n:ah)(h:1<=n):tP (tx [c]) (n:ai)=tx (bX n c):=by
 unfold tP;rw[aw 0x1];split
 ·rename_i h1;have:n=1:=by
   simp[rY] at h1;lia
  subst this;rfl
 ·have:∀(m:ah)(a:ae ah),(bX m (tx [c]).cps).foldl (·++·) a.toArray=(a++bX m c).toArray:=by
   intro m;induction m with
   |zero=>intro a;simp
   |succ m ih=>
    intro a;rw[yz,B7];have:a.toArray++(tx [c]).cps=(a++[c]).toArray:=by
     apply yy;simp[tx]
    rw[this,ih,yz];simp
  have e:=this n [];rw[ik];show(⟨_⟩:Str)=⟨_⟩
  congr 1
theorem aDa(c:ah)(n:ah)(h:1<=n)(h2:n<=100):xQ (.str (tx [c])) (.int n)=.ok (.str (tx (bX n c))):=by
 show(if ϒ (0<=(n:ai))&&ϒ ((n:ai)<=100000)&&ϒ ((tx [c]).length*(n:ai).toNat<=lim) then τ (π (tP (tx [c]) n)) else .bad)=_;have e3:ϒ ((tx [c]).length*(n:ai).toNat<=lim)=ag:=by
  rw[rY,aZ];simp;lia
 rw[e3,bt 0x1,bt 0x1,aI0 c n h];rfl
abbrev ns(hD:D)(chce turn shift cell size:ai)(base:Str)(at_:ai)(NM:ae D)(a b c d:D):ae D:=[hD,.str abc,.int chce,.int turn,.int shift,.int cell,.int size,.str base,.int at_,.lst NM,a,b,c,d]
structure Nmf(nm:ah->ae ah):Prop where
 inj:∀s t,s<26->t<26->nm s=nm t->s=t
 len:∀s,s<26->(nm s).length<=100
theorem Z6(x:ai):∃s:ah,s<26/\x % 26=s:=⟨(x % 26).toNat,by lia,by lia⟩
theorem Z7{P Q A B:ae ah}(h:P++A++Q=P++B++Q):A=B:=by
 rw[b3,b3] at h;exact B8 (List.append_cancel_left h)
theorem aDb(hb:base.length<=10)(ht:gQ turn=ag)(hs0:0<=shift)(hs1:shift<26) :
  ∃nm:ah->ae ah,Nmf nm/\∀(k:ai)(s:ah),s<26->(k*turn+shift) % 26=s->∀(NM:ae D)(b c d:D),NM.length<100->∃b' c' d',∀hD,nb (ns hD chce turn shift cell size base at_ NM (.int k) b c d)=.ok (.nx (ns hD chce turn shift cell size base at_ (NM++[.str (tx (nm s))]) (.int k) b' c' d')):=by
 have sp:∀(k:ai)(s:ah)(hD:D)(NM:ae D)(b c d:D),(k*turn+shift) % 26=s->cU ak 11 (b2 (bG .mod) (b2 (bG .add) (b2 xQ qC e_) iI) sE) ag (ns hD chce turn shift cell size base at_ NM (.int k) b c d)=.ok (.nx (ns hD chce turn shift cell size base at_ NM (.int k) (.int s) c d)):=λk s hD NM b c d e=>by
  rw[<-e];exact bT (aJ (aJ (aJ rfl rfl (lZ _ _ ht)) rfl (cV _ _)) rfl (cA _ _ 0x4))
 have cm:∀(ρ:ae D)(j:ai),b8 2 ρ=.ok (.int chce)->bTB (b2 (lG .eq) (b2 (bG .mod) gF jH) (bC (.int j))) ρ=.ok (chce % 3==j):=λρ j h=>cX (aJ (aJ h rfl (cA _ _ 0x4)) rfl (l_ _ _))
 have lt:∀(ρ:ae D)(f:FE)(i:ai) ,b8 1 ρ=.ok (.str abc)->f ρ=.ok (.int i)->0<=i->i<26->b2 getD iT f ρ=.ok (.str (tx [97+i.toNat])):=λρ f i h1 h2 h3 h4=>aJ h1 h2 (letter i h3 h4)
 obtain⟨P,hP,lP⟩:∃P,ii base aj (aa at_)=tx P/\P.length<=10:=⟨_,(aEt _).symm,c_ (ua ..) hb⟩
 obtain⟨Q,hQ,lQ⟩:∃P,ii base (aa at_) aj=tx P/\P.length<=10:=⟨_,(aEt _).symm,c_ (ua ..) hb⟩
 have ap:∀(a b:ae ah),a.length<=100->b.length<=100->bG .add (.str (tx a)) (.str (tx b))=.ok (.str (tx (a++b))):=λa b h1 h2=>by
  rw[W7 _ _ (by rw[rY,rY,aZ];lia),Z5]
 have slP:∀ρ:ae D,b8 7 ρ=.ok (.str base)->b8 8 ρ=.ok (.int at_)->oK nY gR (fZ oV) ρ=.ok (.str (tx P)):=λρ g1 g2=>by
  rw[<-hP];exact KY g1 rfl (oR g2) 0x1
 have slQ:∀ρ:ae D,b8 7 ρ=.ok (.str base)->b8 8 ρ=.ok (.int at_)->oK nY (fZ oV) gR ρ=.ok (.str (tx Q)):=λρ g1 g2=>by
  rw[<-hQ];exact KY g1 (oR g2) rfl 0x1
 have zz:∀a b:ai,0<=a->a<26->0<=b->b<26->97+((shift+a) % 26).toNat=97+((shift+b) % 26).toNat->a=b:=λa b _ _ _ _ _=>by lia
 by_cases h1:chce % 3=1
 ·refine⟨λs=>bX (1+s / 4) (97+((shift+((s:ai) % 4)) % 26).toNat),⟨λs t hs ht e=>?_,λs hs=>by rw[ot];lia⟩,λk s hs hk NM b c d hN=>⟨.int s,c,d,λhD=>?_⟩⟩
  ·have e1:=cy fT e;rw[ot,ot] at e1;have e2:=cy (λl=>l.head?) e;simp only[yu 1,yz,List.head?_cons,Dq] at e2;lia
  ·refine aL (sp k s hD NM b c d hk) (xR ((cm _ _ rfl).trans (by rw[h1];rfl)) ?_);refine oA (aJ (lt _ _ _ rfl (aJ (aJ rfl (aJ rfl rfl (cA _ _ 0x4)) (cV _ _)) rfl (cA _ _ 0x4)) 0x1 0x1) (aJ rfl (aJ rfl rfl (dX _ _ 0x4 0x4)) ?_) (aDa _ _ 0x1 0x1)) rfl (by rw[aZ];lia) rfl;rw[cV]
   congr 2
 ·by_cases h2:chce % 3=2
  ·refine⟨λs=>P++[97+((shift+((s:ai) % 6)) % 26).toNat,97+((shift+((s:ai) / 6)) % 26).toNat]++Q,⟨λs t hs ht e=>?_,λs hs=>by simp only[aT,bp,ef];lia⟩,λk s hs hk NM b c d hN=>⟨.int s,.str (tx [97+((shift+((s:ai) % 6)) % 26).toNat]),.str (tx [97+((shift+((s:ai) / 6)) % 26).toNat]),λhD=>?_⟩⟩
   ·have e1:=Z7 e;simp only[B9,and_true] at e1;have y1:=zz _ _ (by lia) (by lia) (by lia) (by lia) e1.1;have y2:=zz _ _ (by lia) (by lia) (by lia) (by lia) e1.2;lia
   ·refine aL (sp k s hD NM b c d hk) (uB ((cm _ _ rfl).trans (by rw[h2];rfl)) (xR ((cm _ _ rfl).trans (by rw[h2];rfl)) ?_));refine aL (gH (lt _ _ _ rfl (aJ (aJ rfl (aJ rfl rfl (cA _ _ 0x4)) (cV _ _)) rfl (cA _ _ 0x4)) 0x1 0x1) rfl) ?_;refine aL (gH (lt _ _ _ rfl (aJ (aJ rfl (aJ rfl rfl (dX _ _ 0x4 0x4)) (cV _ _)) rfl (cA _ _ 0x4)) 0x1 0x1) rfl) ?_;refine(oA (aJ (aJ (aJ (slP _ rfl rfl) rfl (ap _ _ 0x1 0x2)) rfl (ap _ _ (by simp only[aT,dP];lia) 0x2)) (slQ _ rfl rfl) (ap _ _ (by simp only[aT,dP];lia) 0x1)) rfl (by rw[aZ];lia) rfl).trans ?_;simp only[b3,tJ,eJ];rfl
  ·refine⟨λs=>P++[97+s]++Q,⟨λs t hs ht e=>?_,λs hs=>by simp only[aT,bp,ef];lia⟩,λk s hs hk NM b c d hN=>⟨.int s,c,d,λhD=>?_⟩⟩
   ·have e1:=Z7 e;simp only[B9,and_true] at e1;lia
   ·refine aL (sp k s hD NM b c d hk) (uB ((cm _ _ rfl).trans (by rw[fq.mpr h1])) (uB ((cm _ _ rfl).trans (by rw[fq.mpr h2])) ?_));refine(oA (aJ (aJ (slP _ rfl rfl) (lt _ _ s rfl rfl 0x1 0x1) (ap _ _ 0x1 0x2)) (slQ _ rfl rfl) (ap _ _ (by simp only[aT,dP];lia) 0x1)) rfl (by rw[aZ];lia) rfl).trans ?_;rw[ik];rfl
theorem wC{nm:ah->ae ah}(G:∀(k:ai) (s:ah),s<26->(k*turn+shift) % 26=s->∀(NM:ae D) (b c d:D),NM.length<100->∃b' c' d',∀hD,nb (ns hD chce turn shift cell size base at_ NM (.int k) b c d)=.ok (.nx (ns hD chce turn shift cell size base at_ (NM++[.str (tx (nm s))]) (.int k) b' c' d'))):∀(m j:ah)(NM:ae D)(a b c d:D),NM.length+m<100->∃a' b' c' d',∀hD,oW (tg1 10) nb ((hI j m).map λ(k:ah)=>ι (0+(k:ai))) (ns hD chce turn shift cell size base at_ NM a b c d)=.ok (.nx (ns hD chce turn shift cell size base at_ (NM++(hI j m).map λ(k:ah)=>π (tx (nm (((k:ai)*turn+shift) % 26).toNat))) a' b' c' d'))
 |0,j,NM,a,b,c,d,_=>⟨a,b,c,d,λhD=>by
  rw[List.range'_zero,iN,iN,b5];rfl⟩
 |m+1,j,NM,a,b,c,d,h=>by
  obtain⟨s,hs,es⟩:=Z6 ((j:ai)*turn+shift);obtain⟨b1,c1,d1,e1⟩:=G (0+(j:ai)) s hs (by rw[yA];exact es) NM b c d 0x1;obtain⟨a2,b2,c2,d2,e2⟩:=wC G m (j+1) (NM++[.str (tx (nm s))]) (.int (0+(j:ai))) b1 c1 d1 (by rw[aT,dP];lia);refine⟨a2,b2,c2,d2,λhD=>?_⟩;rw[kq,aI,aI,es,ik];refine cR rfl (e1 hD) ?_;rw[e2 hD,b3];rfl
theorem aI1(i:ai)(h0:0<=i)(h1:i<6):∃t:ai,getD (.lst [.int 1,.int 3,.int 5,.int 7,.int 9,.int 25]) (.int i)=.ok (.int t)/\(t=1\/t=3\/t=5\/t=7\/t=9\/t=25):=by
 have:i=0\/i=1\/i=2\/i=3\/i=4\/i=5:=by lia
 rcases this with h|h|h|h|h|h<;>subst h
 ·exact⟨1,rfl,by decide⟩
 ·exact⟨3,rfl,by decide⟩
 ·exact⟨5,rfl,by decide⟩
 ·exact⟨7,rfl,by decide⟩
 ·exact⟨9,rfl,by decide⟩
 ·exact⟨25,rfl,by decide⟩
theorem aDc(ht:t=1\/t=3\/t=5\/t=7\/t=9\/t=25){j k:ah}(hj:j<26)(hk:k<26)(h:((j:ai)*t+s) % 26=((k:ai)*t+s) % 26):j=k:=by
 rcases ht with e|e|e|e|e|e<;>subst e<;>lia
theorem GX(n:ah):∀N:ae Str,υ n (N.map π)=ag
 |[]=>by rw[iN,υ]
 |x::N=>by
  rw[aI,υ,GX n N];cases n<;>rfl
theorem QF(x:Str):(π x).iK bB=ag:=by
 rfl
theorem GZ:∀N:ae Str,ε (N.map π)=ag
 |[]=>rfl
 |x::N=>by
  rw[aI,ε,GZ N];rfl
theorem Z8(x:Str):∀N:ae Str,(N.map π).any (λy=>eqD y (.str x))=ϒ (x∈N)
 |[]=>rfl
 |y::N=>by
  rw[aI,ke,Z8 x N];show((y==x)||_)=_;by_cases h:y=x
  ·simp[h]
  ·have h2:¬x=y:=λe=>h e.symm
   simp[h,h2]
theorem in_str(x:Str)(N:ae Str):lG .isin (.str x) (.lst (N.map π))=.ok (.bl (ϒ (x∈N))):=by
 show(if (π x).iK bB&&υ bB (N.map π) then τ (χ ((N.map π).any λy=>eqD y (.str x))) else .bad)=_;rw[QF,GX,Z8];rfl
theorem lF{fr:ax}(h:a ρ=.ok (.lst xs)):bR a fr ρ=.ok (xs,fr):=by
 unfold bR;rw[h,θ];show τ (xs,fr||false)=_;rw[sM]
theorem dB{fr:ax}(h:a ρ=.ok (.tup xs)):bR a fr ρ=.ok (xs,fr||ε xs):=by
 unfold bR;rw[h,θ];show τ (xs,fr||(ν xs).pure)=_;rw[ξ]
theorem fH(d y:α->D)(xs:ae α)(hρ:ρ.length=n)(h1:it ρ=.ok (xs.map d,kk))(h2:xs.length<=100000)(h3:∀a∈xs,f (ρ++[d a])=.ok (y a)/\(k||(y a).pure)=ag):d8 n it oG gG f k ρ=.ok (.lst (xs.map y)):=by
 refine JT h1 (by rw[az,aZ];lia) ?_;have:∀(xs:ae α)(acc:ae D),(∀a∈xs,f (ρ++[d a])=.ok (y a)/\(k||(y a).pure)=ag)->oH (A_ n oG gG f k ρ) acc (xs.map d)=.ok (acc++xs.map y):=by
  intro xs;induction xs with
  |nil=>intro acc _;simp[oH]
  |cons x xs ih=>
   intro acc h;rw[aI,oH,uC hρ rfl λ_=>h x (de ..)];show oH _ (acc++[y x]) _=_;rw[ih _ λa ha=>h a (c8 _ ha),b3];rfl
 exact(this xs [] h3).trans (by rw[eJ])
theorem yU(d y:α->D)(p:α->ax)(xs:ae α)(hρ:ρ.length=n)(h1:it ρ=.ok (xs.map d,kk))(h2:xs.length<=100000)(hc:∀a∈xs,c (ρ++[d a])=.ok (p a))(h3:∀a∈xs,p a=ag->f (ρ++[d a])=.ok (y a)/\(k||(y a).pure)=ag):d8 n it oG c f k ρ=.ok (.lst ((xs.filter p).map y)):=by
 refine JT h1 (by rw[az,aZ];lia) ?_;have:∀(xs:ae α)(acc:ae D),(∀a∈xs,c (ρ++[d a])=.ok (p a))->(∀a∈xs,p a=ag->f (ρ++[d a])=.ok (y a)/\(k||(y a).pure)=ag)->oH (A_ n oG c f k ρ) acc (xs.map d)=.ok (acc++(xs.filter p).map y):=by
  intro xs;induction xs with
  |nil=>intro acc _ _;simp[oH]
  |cons x xs ih=>
   intro acc hc h;rw[aI,oH,uC hρ (hc x (de ..)) λe=>h x (de ..) e];show oH _ _ _=_;rw[ih _ (λa ha=>hc a (c8 _ ha)) λa ha=>h a (c8 _ ha)];by_cases hp:p x
   ·simp[hp]
   ·simp[hp]
 exact(this xs [] hc h3).trans (by rw[eJ])
theorem aPt(h1:o ρ=.ok x)(h2:a ρ=.ok xs)(h3:f x xs=r):bM f o a ρ=r:=by
 unfold bM;rw[h1,θ,h2,θ,h3]
theorem aPu(a b:ae ah)(h:tx a++("e" : Str)=tx b++("e" : Str)):a=b:=by
 have e:("e" : Str)=tx [101]:=rfl;rw[e,Z5,Z5] at h;exact B8 (aEr h)
theorem aDd(cs:ae ai)(n:ah)(hn:n+3<=100000):∃N:ae Str,N.length=26/\N.Nodup/\∀b,gZ [.cel b (dk cs n)]=.ok (.tup [.lst (N.map π),.cel b (dk cs (n+3))]):=by
 obtain⟨chce,q1⟩:=i_ cs n 0x1;obtain⟨cell,q2⟩:=i_ cs (n+1) 0x1;obtain⟨raw,q3⟩:=i_ cs (n+2) 0x1;obtain⟨turn,t1,t2⟩:=aI1 (chce / 3 % 6) 0x1 0x1
 let shift:=chce / 18 % 26
 have hs0:0<=shift:=by show 0<=chce / 18 % 26;lia
 have hs1:shift<26:=by show chce / 18 % 26<26;lia
 let size:=cell % 8
 have hz0:0<=size:=by show 0<=cell % 8;lia
 have hz1:size<8:=by show cell % 8<8;lia
 let bcs:ae ah:=(bj size.toNat).map λ(k:ah)=>97+((cell / 8+(0+(k:ai))*(shift+cell / 40 % 5)) % 26).toNat
 have hbl:bcs.length<=10:=by show(dv _ _).length<=10;rw[az,eT];lia
 let at_:=raw % (size+1)
 let base:Str:=if chce % 3=2 then ii (tx bcs) aj (aa 6) else tx bcs
 have hbase:base.length<=10:=by
  show(if chce % 3=2 then ii (tx bcs) aj (aa 6) else tx bcs).length<=10;split
  ·exact c_ (ua ..) (by rw[rY];exact hbl)
  ·rw[rY];exact hbl
 have hts:gQ turn=ag:=OJ _ 0x1 0x1;obtain⟨nm,M,G⟩:=aDb hbase hts hs0 hs1;obtain⟨a',b',c',d',L⟩:=wC G 26 0 [] .uD .uD .uD .uD 0x4
 let sp:ah->ah:=λk=>(((k:ai)*turn+shift) % 26).toNat
 have spl:∀k,sp k<26:=λk=>by show(((k:ai)*turn+shift) % 26).toNat<26;lia
 have spi:∀j k,j<26->k<26->sp j=sp k->j=k:=λj k hj hk e=>aDc (s:=shift) t2 hj hk (by
  have e':(((j:ai)*turn+shift) % 26).toNat=(((k:ai)*turn+shift) % 26).toNat:=e;lia)
 have nod:∀g:ae ah->Str,(∀a b,g a=g b->a=b)->((hI 0 26).map λk=>g (nm (sp k))).Nodup:=λg hg=>by
  rw[Ca,yB];refine Cb ?_ (Ca.mp (yT (s:=0) (n:=26) (step:=1) 0x4));intro j k hj hk hne e;rw[yY] at hj hk;exact hne (spi j k 0x1 0x1 (M.inj _ _ (spl j) (spl k) (hg _ _ e)))
 have pre:∀(b:ah)(R:Res Fl)(g:FS),g (ns (.cel b (dk cs (n+3))) chce turn shift cell size base at_ (((hI 0 26).map λk=>tx (nm (sp k))).map π) a' b' c' d')=R->(bF (cU ak 1 (bC (.str "abcdefghijklmnopqrstuvwxyz")) ag) (bF (jD ak 2 (dZ a_ 1 0 aY)) (bF (cU ak 3 (b2 getD (jJ (aF c7 (aF jH (aF aJ2 (aF (bC (.int 7)) (aF aNp (aF (bC (.int 25)) aY))))))) (b2 (bG .mod) (b2 (bG .fdiv) gF jH) MP)) ak) (bF (cU ak 4 (b2 (bG .mod) (b2 (bG .fdiv) gF aBm) sE) ag) (bF (jD ak 5 (dZ a_ 1 0 aY)) (bF (cU ak 6 (b2 (bG .mod) jA aK1) ag) (bF (cU ak 7 (bM joinM (bC (.str "")) (aF (d8 14 (nR (aF nQ aY) j9) oG gG (b2 getD iT 0x1f) ak) aY)) ag) (bF (jD ak 8 (x2L (bG .mod) (dZ a_ 1 0 aY) (b2 (bG .add) nQ c7))) (bF (sIf (bTB (b2 (lG .eq) (b2 (bG .mod) gF jH) iU)) (cU ak 7 (oK nY gR (fZ MP)) ag) tW) (bF (cU ag 9 (jJ aY) ag) (bF (IW (nR (aF sE aY) j9) (tg1 10) nb) g))))))))))) [.cel b (dk cs n),.uD,.uD,.uD,.uD,.uD,.uD,.uD,.uD,.uD,.uD,.uD,.uD,.uD]=R:=λb R g hg=>by
  refine aL (ρ':=[.cel b (dk cs n),.str abc,.uD,.uD,.uD,.uD,.uD,.uD,.uD,.uD,.uD,.uD,.uD,.uD]) (bT (i:=1) rfl) ?_;refine aL (ρ':=[.cel b 0x1c,.str abc,.int chce,.uD,.uD,.uD,.uD,.uD,.uD,.uD,.uD,.uD,.uD,.uD]) (gK (i:=2) (uU q1 rfl rfl) rfl) ?_;refine aL (ρ':=[.cel b 0x1c,.str abc,.int chce,.int turn,.uD,.uD,.uD,.uD,.uD,.uD,.uD,.uD,.uD,.uD]) (gH (i:=3) (aJ rfl (aJ (aJ rfl rfl (dX _ _ 0x4 0x4)) rfl (cA _ _ 0x4)) t1) rfl) ?_;refine aL (ρ':=[.cel b 0x1c,.str abc,.int chce,.int turn,.int shift,.uD,.uD,.uD,.uD,.uD,.uD,.uD,.uD,.uD]) (bT (i:=4) (aJ (aJ rfl rfl (dX _ _ 0x4 0x4)) rfl (cA _ _ 0x4))) ?_;refine aL (ρ':=[.cel b (dk cs (n+2)),.str abc,.int chce,.int turn,.int shift,.int cell,.uD,.uD,.uD,.uD,.uD,.uD,.uD,.uD]) (gK (i:=5) (uU q2 rfl rfl) rfl) ?_;refine aL (ρ':=[.cel b (dk cs (n+2)),.str abc,.int chce,.int turn,.int shift,.int cell,.int size,.uD,.uD,.uD,.uD,.uD,.uD,.uD]) (bT (i:=6) (aJ rfl rfl (cA _ _ 0x4))) ?_;refine aL (ρ':=[.cel b (dk cs (n+2)),.str abc,.int chce,.int turn,.int shift,.int cell,.int size,.str (tx bcs),.uD,.uD,.uD,.uD,.uD,.uD]) (bT (i:=7) ?_) ?_
  ·have hc:=fH (n:=14) (it:=nR (aF nQ aY) j9) (f:=b2 getD iT 0x1f) (k:=ak) (ρ:=[.cel b (dk cs (n+2)),.str abc,.int chce,.int turn,.int shift,.int cell,.int size,.uD,.uD,.uD,.uD,.uD,.uD,.uD]) (λk:ah=>ι (0+(k:ai))) (λk:ah=>.str (one (97+((cell / 8+(0+(k:ai))*(shift+cell / 40 % 5)) % 26).toNat))) (bj size.toNat) rfl (rR (n:=size) 0x13 0x1 0x1) (by rw[eT];lia) (λk _=>⟨aJ (x:=.str abc) rfl (aJ (aJ (aJ (x:=.int cell) rfl rfl (dX _ _ 0x4 0x4)) (aJ (x:=.int (0+(k:ai))) rfl (aJ (x:=.int shift) rfl (aJ (aJ (x:=.int cell) rfl rfl (dX _ _ 0x4 0x4)) rfl (cA _ _ 0x4)) (cV _ _)) (lZ _ _ (OJ _ 0x1 0x1))) (cV _ _)) rfl (cA _ _ 0x4)) (letter _ 0x1 0x1),rfl⟩);have hj:=aHz bcs 0x1;rw[di] at hj;exact aPt rfl (aC hc rfl) hj
  refine aL (ρ':=[.cel b (dk cs (n+3)),.str abc,.int chce,.int turn,.int shift,.int cell,.int size,.str (tx bcs),.int at_,.uD,.uD,.uD,.uD,.uD]) (gK (i:=8) (wA (uU q3 rfl rfl) rfl (aJ (x:=.int size) rfl rfl (cV _ _)) (cA _ _ 0x1) rfl) rfl) ?_;refine aL (ρ':=[.cel b (dk cs (n+3)),.str abc,.int chce,.int turn,.int shift,.int cell,.int size,.str base,.int at_,.uD,.uD,.uD,.uD,.uD]) ?_ ?_
  ·by_cases h2:chce % 3=2
   ·have eb:base=ii (tx bcs) aj (aa 6):=aq h2;rw[eb];exact xR (cX (aJ (aJ rfl rfl (cA _ _ 0x4)) rfl ((l_ _ _).trans (by rw[h2];rfl)))) (bT (i:=7) (KY (x:=tx bcs) rfl rfl (oR rfl) (by rw[rY];lia)))
   ·have eb:base=tx bcs:=aw h2;rw[eb];exact uB (cX (aJ (aJ rfl rfl (cA _ _ 0x4)) rfl ((l_ _ _).trans (by rw[fq.mpr h2])))) rfl
  refine aL (ρ':=ns (.cel b (dk cs (n+3))) chce turn shift cell size base at_ [] .uD .uD .uD .uD) (eG (i:=9) rfl rfl) ?_;refine aL (n_ (rR (n:=26) 0x13 0x4 0x4) ?_) hg;have e:=L (.cel b (dk cs (n+3)));rw[eJ] at e;rw[di];exact e
 generalize hN0:((hI 0 26).map λk=>tx (nm (sp k)))=N0 at pre;have l0:N0.length=26:=by rw[<-hN0,az];rfl
 have n0:N0.Nodup:=hN0▸nod tx λ_ _ e=>aEr e
 have tl:∀x∈N0,x.length<=100:=λx hx=>by
  rw[<-hN0,ck] at hx;obtain⟨k,_,rfl⟩:=hx;rw[rY];exact M.len _ (spl k)
 have cond:∀(hD:D),(bOr (bTB (b2 inX (bC (.str "copy")) j5)) (bTB (b2 inX (bC (.str "drop")) j5))) (ns hD chce turn shift cell size base at_ (N0.map π) a' b' c' d')=.ok (ϒ (("copy" : Str)∈N0)||ϒ (("drop" : Str)∈N0)):=λhD=>aPs (cX (aJ rfl rfl (in_str _ _))) (cX (aJ rfl rfl (in_str _ _)))
 have fin:∀(b:ah)(N:ae Str),(tX 9) (ns (.cel b (dk cs (n+3))) chce turn shift cell size base at_ (N.map π) a' b' c' d')=.ok (.rt (.tup (.lst (N.map π)::ns (.cel b (dk cs (n+3))) chce turn shift cell size base at_ (N.map π) a' b' c' d'))):=λb N=>yS rfl rfl
 by_cases hc:(ϒ (("copy" : Str)∈N0)||ϒ (("drop" : Str)∈N0))=ag
 ·refine⟨N0.map λx=>x++("e" : Str),by rw[az,l0],?_,λb=>?_⟩
  ·rw[<-hN0,di];exact nod (λa=>tx a++("e" : Str)) aPu
  ·refine wB (k:=1) (ρ:=ns (.cel b (dk cs (n+3))) chce turn shift cell size base at_ ((N0.map λx=>x++("e" : Str)).map π) a' b' c' d') (pre b _ _ (aL (xR ((cond _).trans (by rw[hc])) (eG (i:=9) (d:=.lst ((N0.map λx=>x++("e" : Str)).map π)) ?_ (GZ _))) (fin b _)));rw[di];exact fH (n:=14) π (λx=>π (x++("e" : Str))) N0 rfl (lF rfl) 0x1 (λx hx=>⟨aJ rfl rfl (W7 _ _ (by have:=tl x hx;rw[aZ];show x.length+1<=_;lia)),rfl⟩)
 ·refine⟨N0,l0,n0,λb=>?_⟩;exact wB (k:=1) (ρ:=ns (.cel b (dk cs (n+3))) chce turn shift cell size base at_ (N0.map π) a' b' c' d') (pre b _ _ (aL (uB ((cond _).trans (by rw[xv.mpr hc])) rfl) (fin b _)))
theorem aDe(cs:ae ai)(n:ah)(hn:n+3<=100000):∃N:ae Str,N.length=26/\N.Nodup/\ch1 gZ (dk cs n) []=.ok (.lst (N.map π),dk cs (n+3)):=by
 obtain⟨N,h1,h2,h3⟩:=aDd cs n hn;exact⟨N,h1,h2,CP h3⟩
theorem KZ(n d a:ah):G9 n d (aa (a:ai))=min a n:=by
 show(if (a:ai)<0 then (max ((a:ai)+(n:ai)) 0).toNat else (min (a:ai) (n:ai)).toNat)=_;rw[aw 0x1];lia
theorem QG(n d:ah):G9 n d aj=d:=rfl
theorem Z9(xs:ae α)(a:ah):cutD xs aj (aa (a:ai))=xs.take a:=by
 unfold cutD;rw[KZ,QG,qy,B4];by_cases h:a<=xs.length
 ·rw[y4 h]
 ·rw[Cc 0x1,qz (bq _),qz 0x1]
theorem yV(xs:ae α)(a:ah):cutD xs (aa (a:ai)) aj=xs.drop a:=by
 unfold cutD;rw[KZ,QG];by_cases h:a<=xs.length
 ·rw[y4 h,qz (by rw[ou];exact bq _)]
 ·rw[Cc 0x1,jf (bq _),jf 0x1,List.take_nil]
noncomputable def sy(N:ae Str)(i:ah):D:=.str (N.getD i "")
theorem aM8(N:ae Str)(h:N.length=26):N.map π=(bj 26).map (sy N):=by
 apply xo
 ·simp[h]
 ·intro i h1 h2;rw[vc,vc,Cd];have h1':i<N.length:=by rw[az] at h1;exact h1
  show π (N[i]'h1')=π (N.getD i "");rw[b9,dj h1'];rfl
theorem oU(h:N.length=26)(hN:N.Nodup)(hi:i<26)(hj:j<26):eqD (sy N i) (sy N j)=ϒ (i=j):=by
 show((N.getD i "")==(N.getD j ""))=_;have hi':i<N.length:=by lia
 have hj':j<N.length:=by lia
 rw[b9,b9,dj hi',dj hj'];show(N[i]==N[j])=_;by_cases e:i=j
 ·subst e;simp
 ·have:¬N[i]=N[j]:=λg=>e ((zr hN).mp g)
  simp[e,this]
theorem bI(N:ae Str):∀l:ae ah,ε (l.map (sy N))=ag
 |[]=>rfl
 |i::l=>by
  rw[aI,ε,bI N l];rfl
theorem jT(N:ae Str)(n:ah):∀l:ae ah,υ n (l.map (sy N))=ag
 |[]=>by rw[iN,υ]
 |x::l=>by
  rw[aI,υ,jT N n l];cases n<;>rfl
theorem yW(N:ae Str)(i:ah):(sy N i).iK bB=ag:=QF _
theorem aEu(h:N.length=26)(hN:N.Nodup)(hi:i<26):∀l:ae ah,(∀j∈l,j<26)->(l.map (sy N)).any (λy=>eqD y (sy N i))=ϒ (i∈l)
 |[],_=>rfl
 |j::l,hl=>by
  rw[aI,ke,aEu h hN hi l λk hk=>hl k (c8 _ hk),oU h hN (hl j (de ..)) hi];by_cases e:j=i
  ·simp[e]
  ·have e2:¬i=j:=λg=>e g.symm
   simp[e,e2]
theorem fP{l:ae α}{i:ah}{a:α}{x:ai}(hx:x=i)(h:l[i]?=aa a):getD (.lst (l.map f)) (.int x)=.ok (f a):=by
 subst hx;obtain⟨hi,e⟩:=dE.mp h;show ο ((ixD (l.map f).length (i:ai)).bind λj=>(l.map f)[j]?)=_;unfold ixD;rw[aq 0x1,az,aq 0x1];simp[h]
theorem yX{α:Type}{f:α->D}{l:ae α}{i:ah}{a:α}{x:ai}(hx:x=i)(h:l[i]?=aa a):getD (.tup (l.map f)) (.int x)=.ok (f a):=fP hx h
theorem iH{n i:ah}{x:ai}(hx:x=i)(hi:i<n):getD (.lst ((bj n).map f)) (.int x)=.ok (f i):=fP hx (by rw[Ce hi])
noncomputable abbrev Rw:=ah×ah×ae ah
noncomputable abbrev Tk:=ah×ah×ah×ae ah
def rwD(N:ae Str)(r:Rw):D:=.tup [sy N r.1,sy N r.2.1,.tup (r.2.2.map (sy N))]
def tkD(N:ae Str)(r:Tk):D:=.tup [sy N r.1,sy N r.2.1,sy N r.2.2.1,.tup (r.2.2.2.map (sy N))]
theorem d_(N:ae Str)(r:Rw):(rwD N r).pure=ag:=by
 show((sy N r.1).pure&&((sy N r.2.1).pure&&((ν (r.2.2.map (sy N))).pure&&ag)))=ag;rw[ξ,bI];rfl
theorem rE(N:ae Str)(r:Tk):(tkD N r).pure=ag:=by
 show((sy N r.1).pure&&((sy N r.2.1).pure&&((sy N r.2.2.1).pure&&((ν (r.2.2.2.map (sy N))).pure&&ag))))=ag;rw[ξ,bI];rfl
theorem bO{f:α->D}(h:∀a,(f a).pure=ag):∀l:ae α,ε (l.map f)=ag
 |[]=>rfl
 |x::l=>by
  rw[aI,ε,h,bO h l];rfl
theorem yZ(h1:a ρ=.ok (.lst xs))(h2:lo ρ=.ok l)(h3:hi ρ=.ok h)(hx:ε xs=ag):oK a lo hi ρ=.ok (.lst (cutD xs l h)):=by
 unfold oK;rw[h1,θ,h2,θ,h3,θ];show(if ε xs then τ (ψ (cutD xs l h)) else .bad)=_;rw[aq hx]
def lsD(N:ae Str)(m:ah)(l:ah->ah):ae (D×D):=(bj m).map λk=>(sy N k,.int (l k))
theorem aEv(h:f ρ=.ok (.int i)):b1 IK f ρ=.ok (.int (-i)):=by
 unfold b1;rw[h];rfl
theorem y_(h:f ρ=.ok x)(h2:g x=.ok y):b1 g f ρ=.ok y:=by
 unfold b1;rw[h];exact h2
theorem aM9(h1:a ρ=.ok ag)(h2:b ρ=r):aH3 a b ρ=r:=by
 unfold aH3;rw[h1,θ,aq rfl,h2]
theorem aMa(h1:a ρ=.ok ak):aH3 a b ρ=.ok (ak,ρ):=by
 unfold aH3;rw[h1,θ,aw 0x2]
structure Base(m:ah)(q:ah->ae ah)(l:ah->ah):Prop where
 l1:∀k,k<m->1<=l k/\l k<=4
 q1:∀k,k<m->∀j∈q k,j<m
 q2:∀k,k<m->(q k).length<=3
 le:∀k,k<m->1+((q k).map l).sum<=l k
theorem base0(m:ah):Base m (λ_=>[]) (λ_=>1):=⟨λ_ _=>⟨by decide,by decide⟩,λ_ _ j hj=>by simp at hj,λ_ _=>by simp,λ_ _=>by simp⟩
theorem aPv(m p:ah)(hp:p<m)(hm:m<=3):Base m (λk=>if k=m-1 then bj p else []) (λk=>if k=m-1 then 1+p else 1):=by
 have:(m=1/\p=0)\/(m=2/\p=0)\/(m=2/\p=1)\/(m=3/\p=0)\/(m=3/\p=1)\/(m=3/\p=2):=by lia
 rcases this with ⟨rfl,rfl⟩|⟨rfl,rfl⟩|⟨rfl,rfl⟩|⟨rfl,rfl⟩|⟨rfl,rfl⟩|⟨rfl,rfl⟩<;>refine⟨?_,?_,?_,?_⟩<;>decide
abbrev ss(hD:D)(N:ae Str)(cell:ai)(m:ah)(M:ae Rw)(l:ah->ah)(a b c d e f:D):ae D:=[hD,.lst 0x10,.int cell,.int m,.lst 0x20,.lst (M.map (rwD N)),.dct (lsD N m l),a,b,c,d,e,f]
noncomputable def mk0(m:ah)(q:ah->ae ah):ae Rw:=(bj m).map λk=>(3+k,k,q k)
section
variable {cs:ae ai} {N:ae Str} (hN:N.length=26) (hd:N.Nodup)
theorem Z_(f:ah->D)(n a:ah)(h:a<=n):cutD ((bj n).map f) aj (aa (a:ai))=(bj a).map f:=by
 rw[Z9,<-xq,List.take_range,y4 h]
theorem aMb{m:ah}(hm:m<=26)(a b c d e f g h i:D):sg2 [hD,.lst 0x10,.int cell,.int m,a,b,c,d,e,f,g,h,i]=.ok (.nx [hD,.lst 0x10,.int cell,.int m,.lst 0x20,b,c,d,e,f,g,h,i]):=
 eG (by rw[<-Z_ (sy N) 26 m hm];exact yZ rfl rfl (oR rfl) (bI ..)) (bI ..)
theorem aMc{m:ah}(hm:m<=3)(b c d e f g h i:D):sg3 [hD,.lst 0x10,.int cell,.int m,.lst 0x20,b,c,d,e,f,g,h,i]=.ok (.nx [hD,.lst 0x10,.int cell,.int m,.lst 0x20,.lst ((mk0 m λ_=>[]).map (rwD N)),c,d,e,f,g,h,i]):=by
 refine eG ?_ (bO (d_ N) _);unfold mk0;rw[di];refine fH (λk:ah=>ι (0+(k:ai))) _ (bj m) rfl (rR (n:=(m:ai)) 0x13 0x1 0x1) (by rw[eT];lia) λk hk=>?_
 rw[hX] at hk;exact⟨eF (aC (aJ rfl (aJ rfl rfl (cV _ _)) (iH (i:=3+k) 0x1 0x1)) (aC (aJ rfl rfl (iH (i:=k) 0x1 hk)) (aC (eF (xs:=[]) rfl (by rw[aZ];simp)) rfl))) (by rw[aZ];simp),rfl⟩
include hN hd in
theorem aDf(h1:1<=m)(h3:m<=3):C_ (.lst ((bj m).map λk=>.tup [sy N k,.int 1]))=.ok (.dct (lsD N m λ_=>1)):=by
 have e:∀i j,i<3->j<3->¬i=j->eqD (sy N i) (sy N j)=ak:=λi j hi hj g=>by rw[oU hN hd 0x1 0x1];exact cx g
 have e01:=e 0 1 0x4 0x4 0x4;have e02:=e 0 2 0x4 0x4 0x4;have e12:=e 1 2 0x4 0x4 0x4;have:m=1\/m=2\/m=3:=by lia
 rcases this with g|g|g<;>subst g
 ·rfl
 ·show τ (D.dct (putD (putD [] (sy N 0) (.int 1)) (sy N 1) (.int 1)))=_;simp only[putD,e01,gn,fE];rfl
 ·show τ (D.dct (putD (putD (putD [] (sy N 0) (.int 1)) (sy N 1) (.int 1)) (sy N 2) (.int 1)))=_;simp only[putD,e01,e02,e12,gn,fE];rfl
theorem aI2(m:ah)(l:ah->ah):inner (.dct (lsD N m l))=ag:=by
 show ε ((lsD N m l).map (·.2))=ag;unfold lsD;rw[di];exact bO (λ_=>rfl) _
include hN hd in
theorem aMd{m:ah}(h1:1<=m)(hm:m<=3)(c d e f g h i:D):sg4 [hD,.lst 0x10,.int cell,.int m,.lst 0x20,M,c,d,e,f,g,h,i]=.ok (.nx [hD,.lst 0x10,.int cell,.int m,.lst 0x20,M,.dct (lsD N m λ_=>1),d,e,f,g,h,i]):=by
 refine eG (y_ ?_ (aDf hN hd h1 hm)) (aI2 m _);exact fH (sy N) (λk=>.tup [sy N k,.int 1]) (bj m) rfl (lF rfl) (by rw[eT];lia) λk hk=>⟨eF (aC rfl 0x13) (by rw[aZ];simp),rfl⟩
include hN hd in
theorem aMe(hn:n<=1000)(h1:1<=m)(hm:m<=3):∃(q:ah->ae ah)(l:ah->ah)(n':ah)(x:D),Base m q l/\n'<=n+1/\∀b,sg5 (ss (.cel b (dk cs n)) N cell m (mk0 m λ_=>[]) (λ_=>1) .uD .uD .uD .uD .uD .uD)=.ok (.nx (ss (.cel b (dk cs n')) N cell m (mk0 m q) l x .uD .uD .uD .uD .uD)):=by
 by_cases h2:1<m
 ·obtain⟨v,qv⟩:=i_ cs n 0x1;have hx:∀b,(aH3 (bTB (b2 (u_ .gt) e_ c7)) (xTB (x2L (lG .eq) (x2L (bG .mod) (dZ a_ 1 0 aY) jH) c7))) (ss (.cel b (dk cs n)) N cell m (mk0 m λ_=>[]) (λ_=>1) .uD .uD .uD .uD .uD .uD)=.ok (v % 3==1,ss (.cel b 0x1c) N cell m (mk0 m λ_=>[]) (λ_=>1) .uD .uD .uD .uD .uD .uD):=λb=>
   aM9 (cX (aJ rfl rfl ((cmp_gt _ _).trans (by rw[bt 0x1])))) (aM5 (wA (wA (uU qv rfl rfl) rfl rfl (cA _ _ 0x4) rfl) rfl rfl (l_ _ _) rfl))
  by_cases h3:v % 3=1
  ·let p:ah:=(1+cell / 12 % ((m:ai)-1)).toNat
   have p0:0<=cell / 12 % ((m:ai)-1):=rg _ 0x1;have p1:cell / 12 % ((m:ai)-1)<(m:ai)-1:=rh _ 0x1;have hp:(p:ai)=1+cell / 12 % ((m:ai)-1):=by
    show(((1+cell / 12 % ((m:ai)-1)).toNat:ah):ai)=_;lia
   refine⟨_,_,n+1,.tup ((bj p).map (sy N)),aPv m p 0x1 hm,bq _,λb=>Z3 (hx b) ?_⟩;rw[show(v % 3==1)=ag from by rw[h3];rfl,aq rfl];refine aL (gH (bA (aC (x:=.lst ((bj p).map (sy N))) ?_ rfl) rfl) (bI ..)) ?_
   ·rw[<-Z_ (sy N) m p 0x1,hp];exact yZ rfl rfl (oR (aJ rfl (aJ (aJ (x:=.int cell) rfl rfl (dX _ _ 0x4 0x4)) (aJ (x:=.int m) rfl rfl (uE _ _)) (cA _ _ 0x1)) (cV _ _))) (bI ..)
   have gk:∀(ρ:ae D),b8 4 ρ=.ok (.lst 0x20)->b2 getD iI (b1 IK c7) ρ=.ok (sy N (m-1)):=λρ hρ=>aJ hρ (aEv rfl) (by
    show ο ((ixD ((bj m).map (sy N)).length (-1:ai)).bind λj=> ((bj m).map (sy N))[j]?)=_;unfold ixD;rw[aw 0x4,az,eT,aq 0x1,show(((-1:ai)+(m:ai)).toNat)=m-1 from by lia];simp only[yx];rw[fA,Ce 0x1];rfl)
   have hrow:∀ρ:ae D,b8 1 ρ=.ok (.lst 0x10)->b8 3 ρ=.ok (.int m)->b8 4 ρ=.ok (.lst 0x20)->b8 7 ρ=.ok (.tup ((bj p).map (sy N)))->jB (aF (b2 getD iT (b2 (bG .add) iU e_)) (aF (b2 getD iI (b1 IK c7)) (aF nY aY))) ρ=.ok (rwD N (2+m,m-1,bj p)):=λρ g1 g3 g4 g7=>eF (aC (aJ g1 (aJ rfl g3 (cV _ _)) (iH (i:=2+m) 0x1 0x1)) (aC (gk _ g4) (aC g7 rfl))) (by rw[aZ];simp)
   refine aL (ρ':=ss (.cel b 0x1c) N cell m (mk0 m λk=>if k=m-1 then bj p else []) (λ_=>1) (.tup ((bj p).map (sy N))) .uD .uD .uD .uD .uD) (KR (i:=5) (j:=m-1) (k:=-1) (xs:=(mk0 m λ_=>[]).map (rwD N)) (d:=rwD N (2+m,m-1,bj p)) (hrow _ rfl rfl rfl rfl) (aEv rfl) rfl (d_ ..) ?_ ?_) ?_
   ·unfold ixD mk0;rw[aw 0x4,az,az,eT,aq 0x1]
    congr 1
    lia
   ·have:m=2\/m=3:=by lia
    rcases this with g|g<;>subst g<;>rfl
   refine(OD (f:=b2 getD iI (b1 IK c7)) (g:=b2 (bG .add) c7 (bD mG (aF nY aY))) (ρ:=ss (.cel b 0x1c) N cell m (mk0 m λk=>if k=m-1 then bj p else []) (λ_=>1) (.tup ((bj p).map (sy N))) .uD .uD .uD .uD .uD) (i:=6) (kvs:=lsD N m λ_=>1) (k:=sy N (m-1)) (d:=.int ((1+p:ah):ai)) (aJ (x:=.int 1) (y:=.int p) rfl (bA 0x13 ?_) ?_) (gk _ rfl) rfl ?_ ?_ rfl).trans ?_
   ·show τ (ι (((bj p).map (sy N)).length:ai))=_;rw[az,eT]
   ·rw[cV]
    congr 2
   ·unfold lsD;rw[az,eT,aZ];lia
   ·show(ag&&(lsD N m λ_=>1).all λp=>isTup p.1==ak)=ag;rw[mw,gq];intro y hy;unfold lsD at hy;obtain⟨k,_,rfl⟩:=ck.mp hy;rfl
   ·have e:∀i j,i<3->j<3->eqD (sy N i) (sy N j)=ϒ (i=j):=λi j hi hj=>oU hN hd 0x1 0x1
    have e01:=e 0 1 0x4 0x4;have e02:=e 0 2 0x4 0x4;have e12:=e 1 2 0x4 0x4;have e11:=e 1 1 0x4 0x4;have e22:=e 2 2 0x4 0x4;have:m=2\/m=3:=by lia
    rcases this with g|g<;>subst g
    ·have:putD (lsD N 2 λ_=>1) (sy N 1) (.int ((1+p:ah):ai))=lsD N 2 λk=>if k=2-1 then 1+p else 1:=by
      show putD [(sy N 0,.int 1),(sy N 1,.int 1)] (sy N 1) _=_;simp only[putD,e01,e11];rfl
     rw[this];rfl
    ·have:putD (lsD N 3 λ_=>1) (sy N 2) (.int ((1+p:ah):ai))=lsD N 3 λk=>if k=3-1 then 1+p else 1:=by
      show putD [(sy N 0,.int 1),(sy N 1,.int 1),(sy N 2,.int 1)] (sy N 2) _=_;simp only[putD,e02,e12,e22];rfl
     rw[this];rfl
  ·refine⟨_,_,n+1,.uD,base0 m,bq _,λb=>Z3 (hx b) ?_⟩;rw[show(v % 3==1)=ak from fq.mpr h3,aw 0x2];rfl
 ·refine⟨_,_,n,.uD,base0 m,md _,λb=>Z3 (k:=ak) (aMa (cX (aJ (x:=.int m) rfl rfl ((cmp_gt _ _).trans (by rw[cx 0x1]))))) ?_⟩;rw[aw 0x2];rfl
end
def Gr(m:ah)(r:Rw):Prop:=r.2.1<m/\(∀i∈r.2.2,i<m)/\r.2.2.length<=3
def Gt(m:ah)(t:Tk):Prop:=t.2.1<m/\t.2.2.1<m/\(∀i∈t.2.2.2,i<m)/\t.2.2.2.length<=2
noncomputable def w3:ah->ai
 |0=>12
 |1=>36
 |_=>108
noncomputable def w2:ah->ai
 |0=>27
 |_=>81
theorem aMf{j:ah}(h:j<3):getD (.lst [.int 12,.int 36,.int 108]) (.int (0+(j:ai)))=.ok (.int (w3 j)):=by
 have:j=0\/j=1\/j=2:=by lia
 rcases this with e|e|e<;>subst e<;>rfl
theorem aEw(j:ah):0<w3 j/\w3 j<1073741824:=by
 unfold w3;split<;>decide
theorem aMg{j:ah}(h:j<2):getD (.lst [.int 27,.int 81]) (.int (0+(j:ai)))=.ok (.int (w2 j)):=by
 have:j=0\/j=1:=by lia
 rcases this with e|e<;>subst e<;>rfl
theorem aEx(j:ah):0<w2 j/\w2 j<1073741824:=by
 unfold w2;split<;>decide
section
theorem kix(h1:1<=m)(v:ai):∃i:ah,i<m/\v % (m:ai)=i:=by
 have a:0<=v % (m:ai):=rg _ 0x1;have b:v % (m:ai)<m:=rh _ 0x1;exact⟨(v % (m:ai)).toNat,by lia,by lia⟩
theorem aMh(hn:n<=1000)(h1:1<=m)(hm:m<=3)(hj:j<3)(hM:M.length<100)(x o d e f:D) :
  ∃(r:Rw)(x' o':D),Gr m r/\r.1=3+m+j/\∀b,mkb (ss (.cel b (dk cs n)) N cell m M l x (.int (0+(j:ai))) o d e f)=.ok (.nx (ss (.cel b 0x1c) N cell m (M++[r]) l x' (.int (0+(j:ai))) o' d e f)):=by
 obtain⟨v,qv⟩:=i_ cs n 0x1;obtain⟨k,k1,k2⟩:=kix h1 v
 let ix:ah->ah:=λj=>((v / w3 j) % (m:ai)).toNat
 have ixm:∀j,ix j<m/\(v / w3 j) % (m:ai)=ix j:=λj=>by
  obtain⟨i,i1,i2⟩:=kix h1 (v / w3 j);have:ix j=i:=by show((v / w3 j) % (m:ai)).toNat=i;lia
  exact⟨by lia,by lia⟩
 let c:ah:=(v / 3 % 4).toNat
 have hc:(c:ai)=v / 3 % 4:=by show(((v / 3 % 4).toNat:ah):ai)=_;lia
 have c4:c<=3:=by lia
 let B:ae ah:=(bj c).map ix
 have lB:B.length<=3:=by show((bj c).map ix).length<=3;rw[az,eT];exact c4
 have mB:∀i∈B,i<m:=λi hi=>by obtain⟨a,_,rfl⟩:=ck.mp hi;exact(ixm a).1
 refine⟨(3+m+j,k,B),.lst (B.map (sy N)),.int v,⟨k1,mB,lB⟩,rfl,λb=>?_⟩;refine aL (gK (uU qv rfl rfl) rfl) ?_;refine aL (ρ':=ss (.cel b 0x1c) N cell m M l (.lst (B.map (sy N))) (.int (0+(j:ai))) (.int v) d e f) (bT (i:=7) ?_) ?_
 ·show _=τ (ψ (((bj c).map ix).map (sy N)));rw[di];refine fH (n:=13) (λk:ah=>ι (0+(k:ai))) (λj=>sy N (ix j)) (bj c) rfl (rR (n:=(c:ai)) (aC (aJ (aJ (x:=.int v) rfl rfl (dX _ _ 0x4 0x4)) rfl ((cA _ _ 0x4).trans (by rw[hc]))) rfl) 0x1 0x1) (by rw[eT];lia) λa ha=>?_
  rw[hX] at ha;exact⟨aJ (x:=.lst 0x20) rfl (aJ (aJ (x:=.int v) rfl (aJ rfl rfl (aMf 0x1)) (dX _ _ (aEw a).1 (aEw a).2)) (y:=.int m) rfl (cA _ _ 0x1)) (iH (ixm a).2 (ixm a).1),rfl⟩
 have hrow:∀ρ:ae D,b8 1 ρ=.ok (.lst 0x10)->b8 3 ρ=.ok (.int m)->b8 4 ρ=.ok (.lst 0x20)->b8 7 ρ=.ok (.lst (B.map (sy N)))->b8 8 ρ=.ok (.int (0+(j:ai)))->b8 9 ρ=.ok (.int v)->jB (aF (b2 getD iT (b2 (bG .add) (b2 (bG .add) jH e_) oV)) (aF (b2 getD iI (b2 (bG .mod) j5 e_)) (aF (bD fU (aF nY aY)) aY))) ρ=.ok (rwD N (3+m+j,k,B)):=λρ g1 g3 g4 g7 g8 g9=>eF (aC (aJ g1 (aJ (aJ rfl g3 (cV _ _)) g8 (cV _ _)) (iH (i:=3+m+j) 0x1 0x1)) (aC (aJ g4 (aJ g9 g3 (cA _ _ 0x1)) (iH k2 k1)) (aC (bA (aC g7 rfl) rfl) rfl))) (by rw[aZ];simp)
 have ha:=oA (i:=5) (ρ:=ss (.cel b 0x1c) N cell m M l (.lst (B.map (sy N))) (.int (0+(j:ai))) (.int v) d e f) (xs:=M.map (rwD N)) (hrow _ rfl rfl rfl rfl rfl rfl) rfl (by rw[az,aZ];lia) (d_ ..);refine ha.trans ?_;unfold ss;rw[cu];rfl
theorem aA0(h1:1<=m)(hm:m<=3):∀(c j n:ah)(M:ae Rw)(x k o d e f:D),n+c<=1000->j+c<=3->M.length+c<100->
  ∃(E:ae Rw)(x' k' o':D),(∀r∈E,Gr m r)/\E.map (·.1)=(hI (3+m+j) c)/\∀b,oW (tg1 8) mkb ((hI j c).map λ(k:ah)=>ι (0+(k:ai))) (ss (.cel b (dk cs n)) N cell m M l x k o d e f)=.ok (.nx (ss (.cel b (dk cs (n+c))) N cell m (M++E) l x' k' o' d e f))
 |0,j,n,M,x,k,o,d,e,f,_,_,_=>⟨[],x,k,o,λ_ h=>by simp at h,rfl,λb=>by rw[b5];rfl⟩
 |c+1,j,n,M,x,k,o,d,e,f,g1,g2,g3=>by
  obtain⟨r,x1,o1,r1,r2,r3⟩:=aMh (n:=n) (j:=j) (M:=M) (l:=l) 0x1 h1 hm 0x1 0x1 x o d e f;obtain⟨E,x2,k2,o2,e1,e2,e3⟩:=aA0 h1 hm c (j+1) (n+1) (M++[r]) x1 (.int (0+(j:ai))) o1 d e f 0x1 0x1 (by rw[aT,dP];lia);refine⟨r::E,x2,k2,o2,λy hy=>?_,?_,λb=>?_⟩
  ·rcases cj.mp hy with h|h
   ·exact h▸r1
   ·exact e1 y h
  ·rw[aI,kq,r2,e2];rfl
  ·rw[kq,aI];refine cR (ρ1:=ss (.cel b (dk cs n)) N cell m M l x (.int (0+(j:ai))) o d e f) rfl (r3 b) ?_;rw[e3 b,b3,show n+1+c=n+(c+1) from by lia];rfl
theorem aMi(hn:n<=1000)(h1:1<=m)(hm:m<=3)(hj:j<3)(hT:T.length<100)(x o d f:D) :
  ∃(r:Tk)(o' f':D),Gt m r/\r.1=10+j/\∀b,tkb (ss (.cel b (dk cs n)) N cell m M l x (.int (0+(j:ai))) o d (.lst 0x17) f)=.ok (.nx (ss (.cel b 0x1c) N cell m M l x (.int (0+(j:ai))) o' d (.lst ((T++[r]).map (tkD N))) f')):=by
 obtain⟨v,qv⟩:=i_ cs n 0x1;obtain⟨k,k1,k2⟩:=kix h1 v;obtain⟨p,p1,p2⟩:=kix h1 (v / 3)
 let ix:ah->ah:=λj=>((v / w2 j) % (m:ai)).toNat
 have ixm:∀j,ix j<m/\(v / w2 j) % (m:ai)=ix j:=λj=>by
  obtain⟨i,i1,i2⟩:=kix h1 (v / w2 j);have:ix j=i:=by show((v / w2 j) % (m:ai)).toNat=i;lia
  exact⟨by lia,by lia⟩
 let c:ah:=(v / 9 % 3).toNat
 have hc:(c:ai)=v / 9 % 3:=by show(((v / 9 % 3).toNat:ah):ai)=_;lia
 have c4:c<=2:=by lia
 let B:ae ah:=(bj c).map ix
 have lB:B.length<=2:=by show((bj c).map ix).length<=2;rw[az,eT];exact c4
 have mB:∀i∈B,i<m:=λi hi=>by obtain⟨a,_,rfl⟩:=ck.mp hi;exact(ixm a).1
 refine⟨(10+j,k,p,B),.int v,.lst (B.map (sy N)),⟨k1,p1,mB,lB⟩,rfl,λb=>?_⟩;refine aL (gK (uU qv rfl rfl) rfl) ?_;refine aL (ρ':=ss (.cel b 0x1c) N cell m M l x (.int (0+(j:ai))) (.int v) d (.lst 0x17) (.lst (B.map (sy N)))) (bT (i:=12) ?_) ?_
 ·show _=τ (ψ (((bj c).map ix).map (sy N)));rw[di];refine fH (n:=13) (λk:ah=>ι (0+(k:ai))) (λj=>sy N (ix j)) (bj c) rfl (rR (n:=(c:ai)) (aC (aJ (aJ (x:=.int v) rfl rfl (dX _ _ 0x4 0x4)) rfl ((cA _ _ 0x4).trans (by rw[hc]))) rfl) 0x1 0x1) (by rw[eT];lia) λa ha=>?_
  rw[hX] at ha;exact⟨aJ (x:=.lst 0x20) rfl (aJ (aJ (x:=.int v) rfl (aJ rfl rfl (aMg 0x1)) (dX _ _ (aEx a).1 (aEx a).2)) (y:=.int m) rfl (cA _ _ 0x1)) (iH (ixm a).2 (ixm a).1),rfl⟩
 have hrow:∀ρ:ae D,b8 1 ρ=.ok (.lst 0x10)->b8 3 ρ=.ok (.int m)->b8 4 ρ=.ok (.lst 0x20)->b8 12 ρ=.ok (.lst (B.map (sy N)))->b8 8 ρ=.ok (.int (0+(j:ai)))->b8 9 ρ=.ok (.int v)->jB (aF (b2 getD iT (b2 (bG .add) (bC (.int 10)) oV)) (aF (b2 getD iI (b2 (bG .mod) j5 e_)) (aF (b2 getD iI (b2 (bG .mod) (b2 (bG .fdiv) j5 jH) e_)) (aF (bD fU (aF j8 aY)) aY)))) ρ=.ok (tkD N (10+j,k,p,B)):=λρ g1 g3 g4 g7 g8 g9=>eF (aC (aJ g1 (aJ rfl g8 (cV _ _)) (iH (i:=10+j) 0x1 0x1)) (aC (aJ g4 (aJ g9 g3 (cA _ _ 0x1)) (iH k2 k1)) (aC (aJ g4 (aJ (aJ g9 rfl (dX _ _ 0x4 0x4)) g3 (cA _ _ 0x1)) (iH p2 p1)) (aC (bA (aC g7 rfl) rfl) rfl)))) (by rw[aZ];simp)
 have ha:=oA (i:=11) (ρ:=ss (.cel b 0x1c) N cell m M l x (.int (0+(j:ai))) (.int v) d (.lst 0x17) (.lst (B.map (sy N)))) (xs:=T.map (tkD N)) (hrow _ rfl rfl rfl rfl rfl rfl) rfl (by rw[az,aZ];lia) (rE ..);refine ha.trans ?_;unfold ss;rw[cu];rfl
theorem aA1(h1:1<=m)(hm:m<=3):∀(c j n:ah)(T:ae Tk)(x k o d f:D),n+c<=1000->j+c<=3->T.length+c<100->
  ∃(E:ae Tk)(k' o' f':D),(∀r∈E,Gt m r)/\E.map (·.1)=(hI (10+j) c)/\∀b,oW (tg1 8) tkb ((hI j c).map λ(k:ah)=>ι (0+(k:ai))) (ss (.cel b (dk cs n)) N cell m M l x k o d (.lst 0x17) f)=.ok (.nx (ss (.cel b (dk cs (n+c))) N cell m M l x k' o' d (.lst ((T++E).map (tkD N))) f'))
 |0,j,n,T,x,k,o,d,f,_,_,_=>⟨[],k,o,f,λ_ h=>by simp at h,rfl,λb=>by rw[b5];rfl⟩
 |c+1,j,n,T,x,k,o,d,f,g1,g2,g3=>by
  obtain⟨r,o1,f1,r1,r2,r3⟩:=aMi (cs:=cs) (N:=N) (cell:=cell) (m:=m) (n:=n) (j:=j) (M:=M) (l:=l) (T:=T) 0x1 h1 hm 0x1 0x1 x o d f;obtain⟨E,k2,o2,f2,e1,e2,e3⟩:=aA1 (M:=M) h1 hm c (j+1) (n+1) (T++[r]) x (.int (0+(j:ai))) o1 d f1 0x1 0x1 (by rw[aT,dP];lia);refine⟨r::E,k2,o2,f2,λy hy=>?_,?_,λb=>?_⟩
  ·rcases cj.mp hy with h|h
   ·exact h▸r1
   ·exact e1 y h
  ·rw[aI,kq,r2,e2];rfl
  ·rw[kq,aI];refine cR (ρ1:=ss (.cel b (dk cs n)) N cell m M l x (.int (0+(j:ai))) o d (.lst 0x17) f) rfl (r3 b) ?_;rw[e3 b,b3,show n+1+c=n+(c+1) from by lia];rfl
end
structure Sig(m:ah)(M:ae Rw)(T:ae Tk)(l:ah->ah):Prop where
 m1:1<=m
 m3:m<=3
 mg:∀r∈M,Gr m r
 tg:∀t∈T,Gt m t
 mn:(M.map (·.1)).Nodup
 mi:∀r∈M,3<=r.1/\r.1<10
 tn:(T.map (·.1)).Nodup
 ti:∀t∈T,10<=t.1/\t.1<13
 tl:T.length<=3
 ml:M.length<=6
 lb:∀k,k<m->1<=l k/\l k<=4
 ba:∀k,k<m->∃r∈M,r.1=3+k/\r.2.1=k/\1+(r.2.2.map l).sum<=l k
 t1:1<=T.length
theorem aI3(h:f ρ=.ok (.int n,ρ'))(h1:0<=n)(h2:n<=1000000):aNu f ρ=.ok ((bj n.toNat).map λ(k:ah)=>ι (0+(k:ai)),ρ'):=by
 unfold aNu;rw[h,θ];have:oF n=ag:=by
  simp only[oF,aS,cv];lia
 simp only[j9,this,ff];rfl
theorem aI4(h1:it ρ=.ok (xs,ρ'))(h2:oW t body xs ρ'=r):aCf it t body ρ=r:=by
 unfold aCf;rw[h1,θ];exact h2
theorem aI5(h:b8 i ρ=.ok d)(h2:d.M3=ag):bOw i ρ=.ok d:=by
 unfold bOw;rw[h,θ,aq h2]
theorem aDg(h:f ρ=.ok ds)(hl:ds.length<=100):O7 f ρ=.ok (.rt (.tup (.lst ds::ρ))):=by
 unfold O7;rw[h,θ,aq (by rw[aZ];exact bt 0x1)]
section
variable {N:ae Str} (hN:N.length=26) (hd:N.Nodup)
include hN hd
theorem aMj(cs:ae ai)(n:ah)(hn:n<=900):∃(m:ah)(M:ae Rw)(T:ae Tk)(l:ah->ah)(n':ah),Sig m M T l/\n'<=n+9/\∀b,lA [.cel b (dk cs n),.lst 0x10]=.ok (.tup [.lst [.lst 0x20,.lst (M.map (rwD N)),.lst 0x17,.dct (lsD N m l)],.cel b (dk cs n')]):=by
 obtain⟨cell,q1⟩:=i_ cs n 0x1
 let m:ah:=(1+cell % 3).toNat
 have hm:(m:ai)=1+cell % 3:=by show(((1+cell % 3).toNat:ah):ai)=_;lia
 have m1:1<=m:=by lia
 have m3:m<=3:=by lia
 obtain⟨q,l,n1,x1,B,hn1,s5⟩:=aMe hN hd (m:=m) (n:=n+1) 0x1 m1 m3
 let c:ah:=(cell / 3 % 4).toNat
 have hc:(c:ai)=cell / 3 % 4:=by show(((cell / 3 % 4).toNat:ah):ai)=_;lia
 have lm:(mk0 m q).length=m:=by unfold mk0;rw[az,eT]
 obtain⟨E,x2,k2,o2,E1,E2,s6⟩:=aA0 (cs:=cs) (N:=N) (cell:=cell) (m:=m) (l:=l) m1 m3 c 0 n1 (mk0 m q) x1 .uD .uD .uD .uD .uD 0x1 0x1 0x1;have lE:E.length=c:=by
  have:=cy fT E2;rw[az,Cf] at this;exact this
 generalize hM0:mk0 m q++E=M0 at s6;have lM:M0.length=m+c:=by rw[<-hM0,aT,lm,lE]
 obtain⟨a,a1,a2⟩:=kix (m:=M0.length) 0x1 (cell / 12);obtain⟨v,qv⟩:=i_ cs (n1+c) 0x1
 let t:ah:=(1+v % 3).toNat
 have ht:(t:ai)=1+v % 3:=by show(((1+v % 3).toNat:ah):ai)=_;lia
 obtain⟨T,k3,o3,f3,T1,T2,s9⟩:=aA1 (cs:=cs) (N:=N) (cell:=cell) (m:=m) (l:=l) (M:=M0) m1 m3 t 0 (n1+c+1) [] x2 k2 o2 (.int a) .uD 0x1 0x1 (by simp;lia);rw[eJ] at s9;have lT:T.length=t:=by
  have:=cy fT T2;rw[az,Cf] at this;exact this
 have pm:(M0.drop a++M0.take a).Perm M0:=by
  have:=List.perm_append_comm (l₁:=M0.drop a) (l₂:=M0.take a);rwa [qV] at this
 have mem0:∀r,r∈M0->(∃k,k<m/\r=(3+k,k,q k))\/r∈E:=λr hr=>by
  rw[<-hM0,dz] at hr;rcases hr with h|h
  ·unfold mk0 at h;obtain⟨k,hk,rfl⟩:=ck.mp h;exact .inl ⟨k,hX.mp hk,rfl⟩
  ·exact .inr h
 have hE:∀r∈E,3+m<=r.1/\r.1<3+m+c:=λr hr=>by
  have:=eh (f:=(·.1)) hr;rw[E2,yY] at this;exact this
 have nm:M0.map (·.1)=hI 3 (m+c):=by
  rw[<-hM0,cu,E2];unfold mk0;rw[di,oB,List.range'_append_1.symm]
  congr 1
  rw[List.range'_eq_map_range];rfl
 refine⟨m,M0.drop a++M0.take a,T,l,n1+c+1+t,⟨m1,m3,λr hr=>?_,T1,?_,λr hr=>?_,?_,λr hr=>?_,by lia,?_,B.l1,λk hk=>?_,by lia⟩,by lia,λb=>?_⟩
 ·rcases mem0 r (pm.mem_iff.mp hr) with ⟨k,hk,rfl⟩|h
  ·exact⟨hk,B.q1 k hk,B.q2 k hk⟩
  ·exact E1 r h
 ·rw[(pm.map _).nodup_iff,nm];exact yT
 ·rcases mem0 r (pm.mem_iff.mp hr) with ⟨k,hk,rfl⟩|h
  ·exact⟨by show 3<=3+k;lia,by show 3+k<10;lia⟩
  ·have:=hE r h;lia
 ·rw[T2];exact yT
 ·have:=eh (f:=(·.1)) hr;rw[T2,yY] at this;lia
 ·rw[pm.length_eq];lia
 ·refine⟨(3+k,k,q k),pm.mem_iff.mpr ?_,rfl,rfl,B.le k hk⟩;rw[<-hM0,dz]
  left
  unfold mk0;exact ck.mpr ⟨k,hX.mpr hk,rfl⟩
 ·refine wB (k:=1) (ρ:=ss (.cel b (dk cs (n1+c+1+t))) N cell m M0 l x2 k3 o3 (.int a) (.lst 0x17) f3) ?_;show rC [.cel b (dk cs n),.lst 0x10,.uD,.uD,.uD,.uD,.uD,.uD,.uD,.uD,.uD,.uD,.uD]=_;unfold rC;refine aL (ρ':=[.cel b 0x1c,.lst 0x10,.int cell,.uD,.uD,.uD,.uD,.uD,.uD,.uD,.uD,.uD,.uD]) (gK (i:=2) (uU q1 rfl rfl) rfl) ?_;refine aL (ρ':=[.cel b 0x1c,.lst 0x10,.int cell,.int m,.uD,.uD,.uD,.uD,.uD,.uD,.uD,.uD,.uD]) (bT (i:=3) (aJ (x:=.int 1) rfl (aJ (x:=.int cell) rfl rfl (cA _ _ 0x4)) (by rw[cV,hm]))) ?_;refine aL (aMb 0x1 ..) (aL (aMc m3 ..) (aL (aMd hN hd m1 m3 ..) (aL (s5 b) ?_)));refine aL (n_ (rR (n:=(c:ai)) (aC (aJ (aJ (x:=.int cell) rfl rfl (dX _ _ 0x4 0x4)) rfl ((cA _ _ 0x4).trans (by rw[hc]))) rfl) 0x1 0x1) (by rw[ik,y6];exact s6 b)) ?_;refine aL (ρ':=ss (.cel b (dk cs (n1+c))) N cell m M0 l x2 k2 o2 (.int a) .uD .uD) (bT (i:=10) (aJ (aJ (x:=.int cell) rfl rfl (dX _ _ 0x4 0x4)) (y:=.int M0.length) (bA 0x13 ?_) ((cA _ _ 0x1).trans (by rw[a2])))) ?_
  ·show τ (ι ((M0.map (rwD N)).length:ai))=_;rw[az]
  refine aL (ρ':=ss (.cel b (dk cs (n1+c))) N cell m M0 l x2 k2 o2 (.int a) (.lst []) .uD) (eG (i:=11) rfl rfl) ?_;refine aL (aI4 (aI3 (n:=(t:ai)) (ρ':=ss (.cel b (dk cs (n1+c+1))) N cell m M0 l x2 k2 o2 (.int a) (.lst []) .uD) (aEq rfl (wA (uU qv rfl rfl) rfl rfl (cA _ _ 0x4) rfl) ((cV _ _).trans (by rw[ht])) rfl) 0x1 0x1) (by rw[ik,y6];exact s9 b)) ?_;refine aDg (aC (aI5 rfl rfl) (aC ?_ (aC (aI5 rfl rfl) (aC (aI5 rfl rfl) rfl)))) 0x2;rw[cu];refine aJ (x:=.lst ((M0.drop a).map (rwD N))) (y:=.lst ((M0.take a).map (rwD N))) ?_ ?_ (uF _ _ ?_ (bO (d_ N) _) (bO (d_ N) _))
  ·rw[A0,<-yV];exact yZ rfl (oR rfl) rfl (bO (d_ N) _)
  ·rw[xq,<-Z9];exact yZ rfl rfl (oR rfl) (bO (d_ N) _)
  ·rw[az,az,ou,jz,aZ];lia
theorem aMk(cs:ae ai)(n:ah)(hn:n<=900):∃(m:ah)(M:ae Rw)(T:ae Tk)(l:ah->ah)(n':ah),Sig m M T l/\n'<=n+9/\ch1 lA (dk cs n) [.lst 0x10]=.ok (.lst [.lst 0x20,.lst (M.map (rwD N)),.lst 0x17,.dct (lsD N m l)],dk cs n'):=by
 obtain⟨m,M,T,l,n',h1,h2,h3⟩:=aMj hN hd cs n hn;exact⟨m,M,T,l,n',h1,h2,CP h3⟩
end
theorem zA(h1:c ρ=.ok ag)(h2:body ρ=.ok (.nx ρ'))(h3:O4 c body n ρ'=r):O4 c body (n+1) ρ=r:=by
 rw[O4,h1,θ,aq rfl,h2];exact h3
theorem zE(h1:c ρ=.ok ak):O4 c body (n+1) ρ=.ok (.nx ρ):=by
 rw[O4,h1];rfl
theorem wF:∀ns:ae ai,intsOf (ns.map ι)=aa ns
 |[]=>rfl
 |n::ns=>by
  show(intsOf (ns.map ι)).map (n::·)=_;rw[wF ns];rfl
inductive Run(H:ae Rw):ae ah->ae ah->Prop
 |nil:Run H [] []
 |step {r:Rw} {rest W:ae ah}:r∈H->Run H (r.2.2++rest) W->Run H (r.2.1::rest) (r.1::W)
theorem aA2(h:ρ.getD i .uD=.lst (xs++[x]))(he:(ρ.set i (.lst xs)).set j x=ρ'):SJ i j ρ=.ok (.nx ρ'):=by
 subst he;unfold SJ;rw[h];dsimp only;rw[aT,dP,BY,fg (bq _),qS,yr];rfl
theorem aEy(h1:f ρ=.ok (.lst ys))(h2:ρ.getD i .uD=.lst xs)(hl:xs.length+ys.length<=10000)(hp:ε ys=ag):aKn i f ρ=.ok (.nx (ρ.set i (.lst (xs++ys)))):=by
 unfold aKn;rw[h1,θ,h2];dsimp only;rw[aq (by rw[hp,aZ,bt 0x1];rfl)]
theorem rF(hN:N.length=26)(hd:N.Nodup)(nm:α->ah)(g:α->D):∀(L:ae α),(L.map nm).Nodup->(∀a∈L,nm a<26)->∀a∈L,cN (L.map λa=>(sy N (nm a),g a)) (sy N (nm a))=aa (g a)
 |[],_,_,a,ha=>by simp at ha
 |b::L,h1,h2,a,ha=>by
  rw[aI,cN,oU hN hd (h2 b (de ..)) (h2 a ha)];rw[aI,fz] at h1;rcases cj.mp ha with e|e
  ·subst e;rw[bt rfl,aq rfl]
  ·have:¬nm b=nm a:=λg=>h1.1 (g▸eh e)
   rw[cx this,aw 0x2];exact rF hN hd nm g L h1.2 (λc hc=>h2 c (c8 _ hc)) a e
section
variable {N:ae Str} (hN:N.length=26) (hd:N.Nodup)
include hN hd
theorem uV(hm:m<=3)(hk:k<m):getD (.dct (lsD N m l)) (sy N k)=.ok (.int (l k)):=by
 show(if ag then ο (cN (lsD N m l) (sy N k)) else .bad)=_;rw[aq rfl];have:=rF hN hd (λk:ah=>k) (λk=>ι (l k)) (bj m) (by rw[List.map_id'];exact Cg) (λa ha=>by have:=hX.mp ha;lia) k (hX.mpr hk);unfold lsD;rw[this];rfl
omit hN hd in
theorem QH(l:ah->ah):∀ps:ae ah,(ps.map λk=>((l k:ah):ai)).sum=(((ps.map l).sum:ah):ai)
 |[]=>rfl
 |p::ps=>by
  rw[aI,aI,ji,ji,QH l ps];lia
theorem aEz(hm:m<=3)(hl:∀k,k<m->1<=l k/\l k<=4){ps:ae ah}(hρ:ρ.length=n)(hf:f ρ=.ok (.tup (ps.map (sy N))))(hp:∀i∈ps,i<m)(hpl:ps.length<=100)(h5:∀k,b8 4 (ρ++[sy N k])=.ok (.dct (lsD N m l)))(hn:∀k,b8 n (ρ++[sy N k])=.ok (sy N k)) :
  bD uG (aF (d8 n (bR f ak) oG gG (b2 getD iI (b8 n)) ak) aY) ρ=.ok (.int ((ps.map l).sum:ah)):=by
 refine bA (aC (fH (sy N) (λk=>ι (l k)) ps hρ (dB hf) 0x1 λk hk=>⟨aJ (h5 k) (hn k) (uV hN hd hm (hp k hk)),rfl⟩) rfl) ?_;show(match intsOf (ps.map λk=>ι (l k)) with|some ns=>if ns.all (λi=>ϒ (-9000<=i)&&ϒ (i<=9000))&&ϒ (ns.length<=100000) then τ (ι ns.sum) else .bad|none=>.bad)=_;have e:(ps.map λk=>ι (l k))=(ps.map λk=>((l k:ah):ai)).map ι:=by rw[di];rfl
 rw[e,wF];dsimp only;rw[QH,aq];rw[aS,gq,cv,az];refine⟨λi hi=>?_,by lia⟩;obtain⟨k,hk,rfl⟩:=ck.mp hi;have:=hl k (hp k hk);rw[aS,cv,cv];lia
omit hN hd in
theorem m9(h:b8 i ρ=.ok (rwD N r)):b2 getD (b8 i) fD ρ=.ok (sy N r.1)/\b2 getD (b8 i) c7 ρ=.ok (sy N r.2.1)/\b2 getD (b8 i) iU ρ=.ok (.tup (r.2.2.map (sy N))):=⟨aJ h rfl rfl,aJ h rfl rfl,aJ h rfl rfl⟩
theorem aA3(hi:i<26)(hj:j<26):lG .eq (sy N i) (sy N j)=.ok (.bl (ϒ (i=j))):=by
 show(if (sy N i).iK bB&&(sy N j).iK bB then τ (χ (eqD (sy N i) (sy N j))) else .bad)=_;rw[yW,yW,oU hN hd hi hj];rfl
omit hN hd in
omit hN hd in
theorem aMl(l:ae ah):lG .ne (.lst (l.map (sy N))) (.lst [])=.ok (.bl (!l.isEmpty)):=by
 show(if υ 11 (l.map (sy N))&&υ 11 [] then τ (χ (!nA (l.map (sy N)) [])) else .bad)=_;rw[jT,υ];cases l<;>rfl
omit hN hd in
omit hN hd in
theorem aR3(v:ai):max2 [.int 0,.int v]=.ok (.int (if 0<v then v else 0)):=rfl
end
structure aNz(m:ah)(H:ae Rw)(l:ah->ah):Prop where
 m3:m<=3
 lb:∀k,k<m->1<=l k/\l k<=4
 hl:H.length<=100
 hg:∀r∈H,Gr m r
 ba:∀k,k<m->∃r∈H,r.2.1=k/\1+(r.2.2.map l).sum<=l k
abbrev wst(hD:D)(N:ae Str)(H:ae Rw)(w most:D)(m:ah)(l:ah->ah)(W st:ae ah)(left:ah)(a b c e:D):ae D:=[hD,.lst (H.map (rwD N)),w,most,.dct (lsD N m l),.lst 0x1b,.lst (st.reverse.map (sy N)),.int left,a,b,c,e]
theorem aI6{W rest:ae ah}{left:ah}{a b e:D}{S:ae Rw}{v:ai}{i:ah}{r:Rw}{z:ah}(qv:ch1 a_ (dk cs n) []=.ok (.int v,dk cs (n+1)))(lS:0<S.length)(i2:v % (S.length:ai)=i)(hi:S[i]?=aa r):wb5 (wst (.cel z (dk cs n)) N H w most m l W rest left a b (.lst (S.map (rwD N))) e)=.ok (.nx (wst (.cel z 0x1c) N H w most m l W rest left a b (.lst (S.map (rwD N))) (rwD N r))):=by
 have hl:∀ρ:ae D,b8 10 ρ=.ok (.lst (S.map (rwD N)))->(bD mG (aF qC aY)) ρ=.ok (.int S.length):=λρ h=>bA (aC h rfl) (by
  show τ (ι ((S.map (rwD N)).length:ai))=_;rw[az])
 exact gK (aEq rfl (wA (uU qv rfl rfl) rfl (hl _ rfl) (cA _ _ 0x1) rfl) (fP i2 hi) (d_ ..)) rfl
section
variable {N:ae Str} (hN:N.length=26) (hd:N.Nodup)
include hN hd
theorem turn{cs:ae ai}{n:ah}{H:ae Rw}{w most:D}{m:ah}{l:ah->ah}(P:aNz m H l){W rest:ae ah}{k left:ah}(hk:k<m)(hn:n<=10000)(hW:W.length<=10000)(hr:rest.length<=5000)(a b c e:D) :
  ∃r∈H,r.2.1=k/\∃(left':ah)(a' b' c' e':D),left'+(r.2.2.map l).sum+1=left+l k/\∀z,wb (wst (.cel z (dk cs n)) N H w most m l W (k::rest) left a b c e)=.ok (.nx (wst (.cel z 0x1c) N H w most m l (W++[r.1]) (r.2.2++rest) left' a' b' c' e')):=by
 have hk1:=P.lb k hk;have m3:=P.m3;obtain⟨v,qv⟩:=i_ cs n 0x1
 let room:ah:=left+l k-1
 have hroom:(left:ai)+(l k:ah)-1=(room:ai):=by show _=((left+l k-1:ah):ai);lia
 let p1:Rw->ax:=λr=>ϒ (r.2.1=k)&&ϒ ((((r.2.2.map l).sum:ah):ai)<=(room:ai))
 let S1:=H.filter p1
 have sub1:∀r∈S1,r∈H/\r.2.1=k/\(r.2.2.map l).sum<=room:=λr hr=>by
  have:=nX.mp hr;have h2:(ϒ (r.2.1=k)&&ϒ ((((r.2.2.map l).sum:ah):ai)<=(room:ai)))=ag:=this.2;rw[aS,cv,cv] at h2;exact⟨this.1,h2.1,by lia⟩
 have ne1:S1≠[]:=by
  obtain⟨r,hr,e1,e2⟩:=P.ba k hk;have:r∈S1:=nX.mpr ⟨hr,by
   show(ϒ (r.2.1=k)&&ϒ ((((r.2.2.map l).sum:ah):ai)<=(room:ai)))=ag;rw[aS,cv,cv];exact⟨e1,by lia⟩⟩
  exact List.ne_nil_of_mem this
 have lS:0<S1.length:=List.length_pos_iff.mpr ne1;obtain⟨i,i1,i2⟩:=kix (m:=S1.length) 0x1 v;have hi:S1[i]?=aa S1[i]:=dj i1;obtain⟨g1,g2,g3⟩:=sub1 _ (xw i1);generalize hr0:S1[i]=r at g1 g2 g3 hi;obtain⟨u1,u2,u3⟩:=P.hg r g1;refine⟨r,g1,g2,room-(r.2.2.map l).sum,sy N k,.int room,.lst (S1.map (rwD N)),rwD N r,by lia,λz=>?_⟩;have t0:wb0 (wst (.cel z (dk cs n)) N H w most m l W (k::rest) left a b c e)=.ok (.nx (wst (.cel z (dk cs n)) N H w most m l W rest left (sy N k) b c e)):=aA2 (i:=6) (j:=8) (xs:=rest.reverse.map (sy N)) (x:=sy N k) (by
  show ψ ((k::rest).reverse.map (sy N))=_;rw[jn,cu];rfl) rfl
 have t1:wb1 (wst (.cel z (dk cs n)) N H w most m l W rest left (sy N k) b c e)=.ok (.nx (wst (.cel z (dk cs n)) N H w most m l W rest left (sy N k) (.int room) c e)):=by
  rw[<-hroom];exact bT (i:=9) (aJ (aJ (x:=.int left) rfl (aJ rfl rfl (uV hN hd m3 hk)) (cV _ _)) rfl (uE _ _))
 have t2:wb2 (wst (.cel z (dk cs n)) N H w most m l W rest left (sy N k) (.int room) c e)=.ok (.nx (wst (.cel z (dk cs n)) N H w most m l W rest left (sy N k) (.int room) (.lst (S1.map (rwD N))) e)):=by
  refine bT (i:=10) (yU (n:=12) (rwD N) (rwD N) p1 H rfl (lF rfl) (by have:=P.hl;lia) (λr hr=>?_) λr hr _=>⟨rfl,d_ ..⟩);obtain⟨v1,v2,v3⟩:=P.hg r hr;have c1:∀ρ:ae D,b8 12 ρ=.ok (rwD N r)->b8 8 ρ=.ok (sy N k)->(bTB (b2 (lG .eq) (b2 getD j8 c7) oV)) ρ=.ok (ϒ (r.2.1=k)):=λρ e1 e2=>cX (aJ (m9 e1).2.1 e2 (aA3 hN hd 0x1 0x1))
  by_cases hrk:r.2.1=k
  ·refine(R8 ((c1 _ rfl rfl).trans (by rw[bt hrk])) (cX (aJ (aEz hN hd m3 P.lb (n:=13) rfl 0x12 v2 0x1 (λ_=>rfl) (λ_=>rfl)) rfl (aM6 _ _)))).trans ?_;show _=τ (ϒ (r.2.1=k)&&ϒ ((((r.2.2.map l).sum:ah):ai)<=(room:ai)));rw[bt hrk,mw]
  ·refine(W6 ((c1 _ rfl rfl).trans (by rw[cx hrk]))).trans ?_;show _=τ (ϒ (r.2.1=k)&&ϒ ((((r.2.2.map l).sum:ah):ai)<=(room:ai)));rw[cx hrk,zS]
 have t5:=aI6 (N:=N) (H:=H) (w:=w) (most:=most) (m:=m) (l:=l) (W:=W) (rest:=rest) (left:=left) (a:=sy N k) (b:=.int room) (e:=e) (z:=z) qv lS i2 hi;have t6:wb6 (wst (.cel z 0x1c) N H w most m l W rest left (sy N k) (.int room) (.lst (S1.map (rwD N))) (rwD N r))=.ok (.nx (wst (.cel z 0x1c) N H w most m l (W++[r.1]) rest left (sy N k) (.int room) (.lst (S1.map (rwD N))) (rwD N r))):=by
  have ha:=oA (i:=5) (ρ:=wst (.cel z 0x1c) N H w most m l W rest left (sy N k) (.int room) (.lst (S1.map (rwD N))) (rwD N r)) (xs:=W.map (sy N)) (m9 (i:=11) (r:=r) rfl).1 rfl (by rw[az,aZ];lia) rfl;refine ha.trans ?_;unfold wst;rw[cu];rfl
 have t7:wb7 (wst (.cel z 0x1c) N H w most m l (W++[r.1]) rest left (sy N k) (.int room) (.lst (S1.map (rwD N))) (rwD N r))=.ok (.nx (wst (.cel z 0x1c) N H w most m l (W++[r.1]) rest (room-(r.2.2.map l).sum) (sy N k) (.int room) (.lst (S1.map (rwD N))) (rwD N r))):=by
  have e:((room-(r.2.2.map l).sum:ah):ai)=(room:ai)-((r.2.2.map l).sum:ah):=by lia
  unfold wst;rw[e];exact bT (i:=7) (aJ (x:=.int room) rfl (aEz hN hd m3 P.lb (n:=12) rfl 0x12 u2 0x1 (λ_=>rfl) (λ_=>rfl)) (uE _ _))
 have t8:wb8 (wst (.cel z 0x1c) N H w most m l (W++[r.1]) rest (room-(r.2.2.map l).sum) (sy N k) (.int room) (.lst (S1.map (rwD N))) (rwD N r))=.ok (.nx (wst (.cel z 0x1c) N H w most m l (W++[r.1]) (r.2.2++rest) (room-(r.2.2.map l).sum) (sy N k) (.int room) (.lst (S1.map (rwD N))) (rwD N r))):=by
  have hx:=aEy (i:=6) (ρ:=wst (.cel z 0x1c) N H w most m l (W++[r.1]) rest (room-(r.2.2.map l).sum) (sy N k) (.int room) (.lst (S1.map (rwD N))) (rwD N r)) (f:=b1 aL7 (b2 getD jW iU)) (xs:=rest.reverse.map (sy N)) (ys:=r.2.2.reverse.map (sy N)) (y_ (m9 (i:=11) (r:=r) rfl).2.2 (by
   show(if ε (r.2.2.map (sy N))&&ϒ ((r.2.2.map (sy N)).length<=lim) then τ (ψ (r.2.2.map (sy N)).reverse) else .bad)=_;rw[bI,az,aZ,bt 0x1,<-List.map_reverse];rfl)) rfl (by rw[az,jo,az,jo];lia) (bI ..)
  refine hx.trans ?_;have e7:((r.2.2++rest).reverse.map (sy N))=rest.reverse.map (sy N)++r.2.2.reverse.map (sy N):=by rw[yw,cu]
  unfold wst;rw[e7];rfl
 exact aL t0 (aL t1 (aL t2 (aL t5 (aL t6 (aL t7 t8)))))
theorem aMm(P:aNz m H l):∀(μ n fuel:ah)(W st:ae ah)(left:ah)(a b c e:D),left+(st.map l).sum=μ->μ<fuel->n+μ<=5000->W.length+μ<=5000->(∀k∈st,k<m)->
  ∃(V:ae ah)(n':ah)(left':ah)(a' b' c' e':D),Run H st V/\V.length<=μ/\n'<=n+μ/\∀z,O4 wc wb fuel (wst (.cel z (dk cs n)) N H w most m l W st left a b c e)=.ok (.nx (wst (.cel z (dk cs n')) N H w most m l (W++V) [] left' a' b' c' e'))
 |μ,n,0,W,st,left,a,b,c,e,h1,h2,_,_,_=>bd h2 (xI _)
 |μ,n,fuel+1,W,[],left,a,b,c,e,h1,h2,_,_,_=>⟨[],n,left,a,b,c,e,.nil,d6 _,by lia,λz=>by
   rw[b5];exact zE (cX (aJ rfl rfl (aMl (N:=N) [])))⟩
 |0,n,fuel+1,W,k::rest,left,a,b,c,e,h1,h2,_,_,h5=>by
   have:=P.lb k (h5 k (de ..));rw[aI,ji] at h1;lia
 |μ+1,n,fuel+1,W,k::rest,left,a,b,c,e,h1,h2,h3,h4,h5=>by
   have hk:=h5 k (de ..);have lbs:∀st:ae ah,(∀k∈st,k<m)->st.length<=(st.map l).sum:=by
    intro st;induction st with
    |nil=>intro _;simp
    |cons x xs ih=>
     intro h;have:=ih λk hk=>h k (c8 _ hk)
     have:=P.lb x (h x (de ..));rw[aI,ji,bp];lia
   have hrest:∀k∈rest,k<m:=λj hj=>h5 j (c8 _ hj)
   have hlr:=lbs rest hrest;rw[aI,ji] at h1;obtain⟨r,r1,r2,left',a',b',c',e',r3,r4⟩:=turn hN hd (cs:=cs) (n:=n) (w:=w) (most:=most) P (W:=W) (rest:=rest) (k:=k) (left:=left) hk 0x1 0x1 0x1 a b c e;have hp:=(P.hg r r1).2.1;obtain⟨V,n',left2,a2,b2,c2,e2,q1,q2,q3,q4⟩:=aMm P μ (n+1) fuel (W++[r.1]) (r.2.2++rest) left' a' b' c' e' (by rw[cu,A9];lia) 0x1 0x1 (by rw[aT,dP];lia) (λj hj=>by
    rcases dz.mp hj with h|h
    ·exact hp j h
    ·exact hrest j h)
   refine⟨r.1::V,n',left2,a2,b2,c2,e2,r2▸.step r1 q1,by rw[bp];lia,by lia,λz=>?_⟩;refine zA (cX (aJ rfl rfl ((aMl (N:=N) (k::rest).reverse).trans ?_))) (r4 z) ?_
   ·rw[jn];cases rest.reverse<;>rfl
   ·rw[q4 z,b3];rfl
theorem zF(cs:ae ai)(P:aNz m H l)(hk:k<m)(hm:most<=390)(hn:n<=3000) :
  ∃(V:ae ah)(n':ah),Run H [k] V/\V.length<=max most 4/\n'<=n+max most 4/\ch1 dH (dk cs n) [.lst (H.map (rwD N)),sy N k,.int most,.dct (lsD N m l)]=.ok (.lst (V.map (sy N)),dk cs n'):=by
 have hk1:=P.lb k hk
 let left:ah:=most-l k
 have hle:left+l k<=max most 4:=by show most-l k+l k<=_;lia
 have hle2:max most 4<=390:=by lia
 obtain⟨V,n',left',a',b',c',e',h1,h2,h3,h4⟩:=aMm hN hd P (left+l k) n 9000 [] [k] left .uD .uD .uD .uD 0x2 0x1 0x1 (by show 0+_<=_;lia) (λj hj=>by rw[mj] at hj;lia);refine⟨V,n',h1,by lia,by lia,CP λz=>wB (ρ:=wst (.cel z (dk cs n')) N H (sy N k) (.int most) m l V [] left' a' b' c' e') ?_⟩;refine aL (ρ':=[.cel z (dk cs n),.lst (H.map (rwD N)),sy N k,.int most,.dct (lsD N m l),.lst [],.uD,.uD,.uD,.uD,.uD,.uD]) (eG (i:=5) rfl rfl) ?_;refine aL (ρ':=[.cel z (dk cs n),.lst (H.map (rwD N)),sy N k,.int most,.dct (lsD N m l),.lst [],.lst [sy N k],.uD,.uD,.uD,.uD,.uD]) (eG (i:=6) rfl rfl) ?_;refine aL (ρ':=wst (.cel z (dk cs n)) N H (sy N k) (.int most) m l [] [k] left .uD .uD .uD .uD) (gH (i:=7) (d:=.int left) (bA (aC rfl (aC (aJ (x:=.int most) rfl (aJ rfl rfl (uV hN hd P.m3 hk)) (uE _ _)) rfl)) ((aR3 _).trans ?_)) rfl) ?_
 ·congr 2
  show _=((most-l k:ah):ai);split<;>lia
 refine aL (h4 z) ?_;exact yS rfl rfl
end
theorem call_v(h:f (ds++bX (m-n) D.uD)=.ok (.rt d)):fnS n m f ds=.ok d:=by
 unfold fnS;rw[h];rfl
theorem aA4(h:a ρ=.ok b):aJ3 a ρ=.ok (!b):=by
 unfold aJ3;rw[h,θ];rfl
theorem K1(h:a ρ=.ok (.bl b)):bTr a ρ=.ok b:=by
 unfold bTr;rw[h,θ];rfl
def hdV(N:ae Str)(r:Rw):D:=.tup [sy N r.2.1,.tup (r.2.2.map (sy N))]
def hdD(N:ae Str)(F:ae Rw):ae (D×D):=F.map λr=>(sy N r.1,hdV N r)
noncomputable def tr(t:Tk):Rw:=(t.1,t.2.1,t.2.2.1::t.2.2.2)
theorem zG(N:ae Str)(r:Rw):(hdV N r).pure=ag:=by
 show((sy N r.2.1).pure&&((ν (r.2.2.map (sy N))).pure&&ag))=ag;rw[ξ,bI];rfl
theorem qJ:∀{ps:ae D},(∀p∈ps,p.pure=ag)->ε ps=ag
 |[],_=>rfl
 |p::ps,h=>by rw[ε,h p 0x2,qJ λq hq=>h q (by simp[hq])];rfl
def mkD(N:ae Str)(M:ae Rw):ae (D×D):=M.map λr=>(sy N r.1,.bl ag)
structure Hds(F:ae Rw):Prop where
 nd:(F.map (·.1)).Nodup
 lt:∀r∈F,r.1<26/\r.2.1<26/\(∀i∈r.2.2,i<26)/\r.2.2.length<=10
 ln:F.length<=100
section
variable {N:ae Str} (hN:N.length=26) (hd:N.Nodup)
include hN hd
theorem rG(nm:α->ah)(g:α->D)(hi:i<26)(v:D):∀(L:ae α),(∀a∈L,nm a<26)->i∉L.map nm->putD (L.map λa=>(sy N (nm a),g a)) (sy N i) v=(L.map λa=>(sy N (nm a),g a))++[(sy N i,v)]
 |[],_,_=>rfl
 |a::L,h1,h2=>by
  rw[aI,cj,mz] at h2;rw[aI,putD,oU hN hd (h1 a (de ..)) hi,cx (λg=>h2.1 g.symm),aw 0x2,rG nm g hi v L (λb hb=>h1 b (c8 _ hb)) h2.2];rfl
omit hN hd in
theorem qK(nm:α->ah)(g:α->D)(L:ae α)(i:ah):sJ (L.map λa=>(sy N (nm a),g a)) (sy N i)=ag:=by
 show(ag&&(L.map λa=>(sy N (nm a),g a)).all λp=>isTup p.1==ak)=ag;rw[mw,gq];intro y hy;obtain⟨k,_,rfl⟩:=ck.mp hy;rfl
theorem QJ{pr e f g h:D}(e5:D):∀(M L:ae Rw),((L++M).map (·.1)).Nodup->(∀r∈L++M,r.1<26)->L.length+M.length<=1000->∀(a b c:D),∃a' b' c',oW (tgN [2,3,4]) (aBo 1 gF (jB (aF e_ (aF iI aY)))) (M.map (rwD N)) [pr,.dct (hdD N L),a,b,c,e5,f]=.ok (.nx [pr,.dct (hdD N (L++M)),a',b',c',e5,f])
 |[],L,_,_,_,a,b,c=>⟨a,b,c,by rw[b5];rfl⟩
 |r::M,L,h1,h2,h3,a,b,c=>by
  have hr:r.1<26:=h2 r 0x2;have hn:r.1∉L.map (·.1):=λhm=>by
   rw[cu,aI,i6] at h1;exact h1.2.2 _ hm _ (de ..) rfl
  have e1:hdD N (L++[r])=putD (hdD N L) (sy N r.1) (hdV N r):=by
   unfold hdD;rw[rG hN hd (λr:Rw=>r.1) (hdV N) hr _ L (λx hx=>h2 x (by simp[hx])) hn,cu];rfl
  rw[bp] at h3;obtain⟨a',b',c',q⟩:=QJ (e:=e) (f:=f) (g:=g) (h:=h) e5 M (L++[r]) (by rw[b3];exact h1) (by rw[b3];exact h2) (by rw[aT,dP];lia) (sy N r.1) (sy N r.2.1) (.tup (r.2.2.map (sy N)));refine⟨a',b',c',?_⟩;rw[aI];rw[b3] at q;refine cR (ρ1:=[pr,.dct (hdD N L),sy N r.1,sy N r.2.1,.tup (r.2.2.map (sy N)),e5,f]) rfl (OD (i:=1) (kvs:=hdD N L) (k:=sy N r.1) (d:=hdV N r) (eF (aC rfl 0x13) (by rw[aZ];simp)) rfl rfl (by unfold hdD;rw[az,aZ];lia) (qK ..) (zG ..)) ?_;rw[<-e1];exact q
theorem QK{pr:D}:∀(T:ae Tk)(L:ae Rw),((L++T.map tr).map (·.1)).Nodup->(∀r∈L++T.map tr,r.1<26)->L.length+T.length<=1000->(∀t∈T,t.2.2.2.length<=10)->∀(a b c d e:D),∃a' b' c' d' e',oW (tgN [2,3,5,6]) (aBo 1 gF (jB (aF e_ (aF (b2 xU (jB (aF jA aY)) nQ) aY)))) 0x17 [pr,.dct (hdD N L),a,b,c,d,e]=.ok (.nx [pr,.dct (hdD N (L++T.map tr)),a',b',c',d',e'])
 |[],L,_,_,_,_,a,b,c,d,e=>⟨a,b,c,d,e,by rw[show L++dv tr []=L from b5 L];rfl⟩
 |t::T,L,h1,h2,h3,h4,a,b,c,d,e=>by
  have hr:(tr t).1<26:=h2 (tr t) 0x2;have hn:(tr t).1∉L.map (·.1):=λhm=>by
   rw[aI,cu,aI,i6] at h1;exact h1.2.2 _ hm _ (de ..) rfl
  have e1:hdD N (L++[tr t])=putD (hdD N L) (sy N (tr t).1) (hdV N (tr t)):=by
   unfold hdD;rw[rG hN hd (λr:Rw=>r.1) (hdV N) hr _ L (λx hx=>h2 x (ir _ hx)) hn,cu];rfl
  rw[bp] at h3;obtain⟨a',b',c',d',e',q⟩:=QK T (L++[tr t]) (by rw[b3];exact h1) (by rw[b3];exact h2) (by rw[aT,dP];lia) (λx hx=>h4 x (c8 _ hx)) (sy N t.1) (sy N t.2.1) c (sy N t.2.2.1) (.tup (t.2.2.2.map (sy N)));refine⟨a',b',c',d',e',?_⟩;rw[aI];rw[b3] at q;have hl:=h4 t (de ..);have had:xU (.tup [sy N t.2.2.1]) (.tup (t.2.2.2.map (sy N)))=.ok (.tup ((tr t).2.2.map (sy N))):=by
   show(if ϒ ([sy N t.2.2.1].length+(t.2.2.2.map (sy N)).length<=lim) then τ (ν ([sy N t.2.2.1]++t.2.2.2.map (sy N))) else .bad)=_;rw[az,aZ,bt (by simp;lia)];rfl
  refine cR rfl (OD (k:=sy N (tr t).1) (d:=hdV N (tr t)) (eF (aC rfl (aC (aJ (eF 0x13 (by rw[aZ];simp)) rfl had) rfl)) (by rw[aZ];simp)) rfl rfl (by unfold hdD;rw[az,aZ];lia) (qK ..) (zG ..)) ?_;rw[<-e1];exact q
theorem aDh{T:ae Tk}(F:Hds 0x11):iQ [.tup [P0,.tup (M.map (rwD N)),.tup 0x17,P3]]=.ok (.dct (hdD N 0x11)):=by
 have hl:=F.ln;rw[aT,az] at hl;obtain⟨a,b,c,q1⟩:=QJ hN hd (pr:=.tup [P0,.tup (M.map (rwD N)),.tup 0x17,P3]) (e:=.uD) (f:=.uD) (g:=.uD) (h:=.uD) .uD M [] (by have:=F.nd;rw[cu,i6] at this;exact this.1) (λr hr=>(F.lt r (ir _ hr)).1) (by simp;lia) .uD .uD .uD;obtain⟨a2,b2',c2,d2,e2,q2⟩:=QK hN hd (pr:=.tup [P0,.tup (M.map (rwD N)),.tup 0x17,P3]) T M F.nd (λr hr=>(F.lt r hr).1) 0x1 (λt ht=>by have:=(F.lt (tr t) (eM _ (eh ht))).2.2.2;have e:(tr t).2.2.length=t.2.2.2.length+1:=rfl;lia) a b c .uD .uD;refine call_v ?_;refine aL (ρ':=[.tup [P0,.tup (M.map (rwD N)),.tup 0x17,P3],.dct [],.uD,.uD,.uD,.uD,.uD]) (eG (i:=1) rfl rfl) ?_;refine aL (n_ ((dB 0x12).trans (by rw[bO (d_ N)];rfl)) q1) ?_;exact aL (n_ ((dB 0x12).trans (by rw[bO (rE N)];rfl)) q2) rfl
theorem aF0(hF:Hds F)(hr:r∈F):getD (.dct (hdD N F)) (sy N r.1)=.ok (hdV N r):=by
 show(if ag then ο (cN (hdD N F) (sy N r.1)) else .bad)=_;unfold hdD;rw[aq rfl,rF hN hd (λr:Rw=>r.1) (hdV N) F hF.nd (λa ha=>(hF.lt a ha).1) r hr];rfl
end
theorem aPw:eX=([("heads",.exp (bD (nZ 1 iQ) (aF iT aY))),("makers",.exp mkE),("rules",.exp ruE),("most",.par 2),("calls",.exp fD),("copies",.exp fD),("drops",.exp fD)]:ae (Str×Srx)):=rfl
theorem QL:∀M:ae Rw,uM (M.map λr=>ν [sy N r.1,.bl ag])=aa (mkD N M)
 |[]=>rfl
 |r::M=>by
  show(if gD (sy N r.1)&&(χ ag).pure then (uM (M.map λr=>ν [sy N r.1,.bl ag])).map ((sy N r.1,χ ag)::·) else aj)=_;rw[QL M];rfl
section
variable {N:ae Str} (hN:N.length=26) (hd:N.Nodup)
include hN hd
theorem QM:∀(M L:ae Rw),((L++M).map (·.1)).Nodup->(∀r∈L++M,r.1<26)->kZ (mkD N L) (mkD N M)=mkD N (L++M)
 |[],L,_,_=>by rw[b5];rfl
 |r::M,L,h1,h2=>by
  show kZ (putD (mkD N L) (sy N r.1) (.bl ag)) (mkD N M)=_;have hnot:r.1∉L.map (·.1):=λz=>by
   rw[cu,i6] at h1;exact h1.2.2 r.1 z r.1 0x2 rfl
  have e:=rG hN hd (λa:Rw=>a.1) (λ_=>χ ag) (h2 r 0x2) (.bl ag) L (λa ha=>h2 a (by simp[ha])) hnot;have e':putD (mkD N L) (sy N r.1) (.bl ag)=mkD N (L++[r]):=by
   show putD (L.map λa=>(sy N a.1,χ ag)) (sy N r.1) (.bl ag)=_;rw[e];unfold mkD;rw[cu];rfl
  rw[e',QM M (L++[r]) (by simpa using h1) (by simpa using h2)];simp
theorem aMn(hM:Hds M):mkE [.uD,.tup [P0,.tup (M.map (rwD N)),P2,P3],mo]=.ok (.dct (mkD N M)):=by
 have hl:=hM.ln;refine y_ (fH (rwD N) (λr:Rw=>ν [sy N r.1,.bl ag]) M rfl (dB 0x12) 0x1 λr hr=>⟨eF (aC (m9 rfl).1 0x13) (by rw[aZ];simp),rfl⟩) ?_;show(match uM (M.map λr:Rw=>ν [sy N r.1,.bl ag]) with|some ps=>if ϒ ((M.map λr:Rw=>ν [sy N r.1,.bl ag]).length<=1000) then τ (D.dct (kZ [] ps)) else .bad|none=>.bad)=_;rw[QL];dsimp only;rw[aq (by rw[az];exact bt 0x1)];have:=QM hN hd M [] hM.nd λr hr=>(hM.lt r hr).1
 rw[eJ] at this;exact cy (λz=>τ (D.dct z)) this
end
noncomputable abbrev Ru:=ah×ah×ae ah×ae ah
def ruD(N:ae Str)(r:Ru):D:=.tup [sy N r.1,sy N r.2.1,.tup (r.2.2.1.map (sy N)),.tup (r.2.2.2.map (sy N))]
def rlD(N:ae Str)(R:ae Ru):ae (D×D):=R.map λr=>(.tup [sy N r.1,sy N r.2.1],ruD N r)
theorem j4(N:ae Str)(r:Ru):(ruD N r).pure=ag:=by
 show((sy N r.1).pure&&((sy N r.2.1).pure&&((ν (r.2.2.1.map (sy N))).pure&&((ν (r.2.2.2.map (sy N))).pure&&ag))))=ag;rw[ξ,ξ,bI,bI];rfl
structure Rls(R:ae Ru):Prop where
 nd:(R.map λr=>(r.1,r.2.1)).Nodup
 lt:∀r∈R,r.1<26/\r.2.1<26
 ln:R.length<=100
theorem QR:∀R:ae Ru,uO (R.map λr=>ν [.tup [sy N r.1,sy N r.2.1],ruD N r])=aa (rlD N R)
 |[]=>rfl
 |r::R=>by
  show(if [sy N r.1,sy N r.2.1].all gD&&(ruD N r).pure then (uO (R.map λr=>ν [.tup [sy N r.1,sy N r.2.1],ruD N r])).map ((ν [sy N r.1,sy N r.2.1],ruD N r)::·) else aj)=_;rw[QR R,j4];rfl
section
variable {N:ae Str} (hN:N.length=26) (hd:N.Nodup)
include hN hd
theorem aA5(ha:a<26)(hb:b<26)(hc:c<26)(he:d<26):eqD (.tup [sy N a,sy N b]) (.tup [sy N c,sy N d])=ϒ ((a,b)=(c,d)):=by
 show(eqD (sy N a) (sy N c)&&(eqD (sy N b) (sy N d)&&ag))=_;rw[oU hN hd ha hc,oU hN hd hb he,kj];by_cases h:a=c<;>by_cases h2:b=d<;>simp[h,h2]
theorem aF1(hi:i<26)(hj:j<26)(v:D):∀(L:ae Ru),(∀r∈L,r.1<26/\r.2.1<26)->(i,j)∉(L.map λr=>(r.1,r.2.1))->putD (rlD N L) (.tup [sy N i,sy N j]) v=rlD N L++[(.tup [sy N i,sy N j],v)]
 |[],_,_=>rfl
 |a::L,h1,h2=>by
  rw[aI,cj,mz] at h2;have ha:=h1 a (de ..);show(if eqD (.tup [sy N a.1,sy N a.2.1]) (.tup [sy N i,sy N j]) then _ else (ν [sy N a.1,sy N a.2.1],ruD N a)::putD (rlD N L) (.tup [sy N i,sy N j]) v)=_;rw[aA5 hN hd ha.1 ha.2 hi hj,cx (λg=>h2.1 g.symm),aw 0x2,aF1 hi hj v L (λb hb=>h1 b (c8 _ hb)) h2.2];rfl
theorem QS:∀(R L:ae Ru),((L++R).map λr=>(r.1,r.2.1)).Nodup->(∀r∈L++R,r.1<26/\r.2.1<26)->kZ (rlD N L) (rlD N R)=rlD N (L++R)
 |[],L,_,_=>by rw[b5];rfl
 |r::R,L,h1,h2=>by
  show kZ (putD (rlD N L) (.tup [sy N r.1,sy N r.2.1]) (ruD N r)) (rlD N R)=_;have hnot:(r.1,r.2.1)∉(L.map λr=>(r.1,r.2.1)):=λz=>by
   rw[cu,i6] at h1;exact h1.2.2 (r.1,r.2.1) z (r.1,r.2.1) 0x2 rfl
  have hr:=h2 r 0x2;have e':putD (rlD N L) (.tup [sy N r.1,sy N r.2.1]) (ruD N r)=rlD N (L++[r]):=by
   rw[aF1 hN hd hr.1 hr.2 _ L (λb hb=>h2 b (by simp[hb])) hnot];unfold rlD;rw[cu];rfl
  rw[e',QS R (L++[r]) (by simpa using h1) (by simpa using h2)];simp
theorem aA6:∀(R:ae Ru),(R.map λr=>(r.1,r.2.1)).Nodup->(∀r∈R,r.1<26/\r.2.1<26)->∀r∈R,cN (rlD N R) (.tup [sy N r.1,sy N r.2.1])=aa (ruD N r)
 |[],_,_,r,hr=>by simp at hr
 |b::L,h1,h2,a,ha=>by
  have hb:=h2 b (de ..);have hA:=h2 a ha;show(if eqD (.tup [sy N b.1,sy N b.2.1]) (.tup [sy N a.1,sy N a.2.1]) then aa (ruD N b) else cN (rlD N L) (.tup [sy N a.1,sy N a.2.1]))=_;rw[aA5 hN hd hb.1 hb.2 hA.1 hA.2];rw[aI,fz] at h1;rcases cj.mp ha with e|e
  ·subst e;rw[bt rfl,aq rfl]
  ·have:¬(b.1,b.2.1)=(a.1,a.2.1):=λg=>h1.1 (g▸eh e)
   rw[cx this,aw 0x2,aA6 L h1.2 (λr hr=>h2 r (c8 _ hr)) a e]
theorem aMo(hR:Rls R)(hr:r∈R):getD (.dct (rlD N R)) (.tup [sy N r.1,sy N r.2.1])=.ok (ruD N r):=by
 show(if keyOk (.tup [sy N r.1,sy N r.2.1])=ag then ο (cN (rlD N R) (.tup [sy N r.1,sy N r.2.1])) else .bad)=_;rw[aq 0x3,aA6 hN hd R hR.nd hR.lt r hr];rfl
theorem aMp(hR:Rls R):ruE [.uD,.tup [P0,P1,P2,.tup (R.map (ruD N))],mo]=.ok (.dct (rlD N R)):=by
 have hl:=hR.ln;refine y_ (fH (ruD N) (λr:Ru=>ν [.tup [sy N r.1,sy N r.2.1],ruD N r]) R rfl (dB 0x12) 0x1 λr hr=>⟨eF (aC (eF (aC 0x12 (aC 0x12 rfl)) (by rw[aZ];simp)) 0x13) (by rw[aZ];simp),?_⟩) ?_
 ·show(ak||((ν [sy N r.1,sy N r.2.1]).pure&&((ruD N r).pure&&ag)))=ag;rw[j4];rfl
 ·show(match uO (R.map λr:Ru=>ν [.tup [sy N r.1,sy N r.2.1],ruD N r]) with|some ps=>if ϒ ((R.map λr:Ru=>ν [.tup [sy N r.1,sy N r.2.1],ruD N r]).length<=1000) then τ (D.dct (kZ [] ps)) else .bad|none=>.bad)=_;rw[QR];dsimp only;rw[aq (by rw[az];exact bt 0x1)];have:=QS hN hd R [] hR.nd hR.lt;rw[eJ] at this;exact cy (λz=>τ (D.dct z)) this
theorem zH(F:ae Rw):ε ((hdD N F).map (·.2))=ag:=qJ λp hp=>by
 unfold hdD at hp;rw[di] at hp;obtain⟨r,_,rfl⟩:=ck.mp hp;exact zG N r
theorem zJ(M:ae Rw):ε ((mkD N M).map (·.2))=ag:=qJ λp hp=>by
 unfold mkD at hp;rw[di] at hp;obtain⟨r,_,rfl⟩:=ck.mp hp;rfl
theorem zK(R:ae Ru):ε ((rlD N R).map (·.2))=ag:=qJ λp hp=>by
 unfold rlD at hp;rw[di] at hp;obtain⟨r,_,rfl⟩:=ck.mp hp;exact j4 N r
def dJ(N:ae Str)(ks:ae ah)(M:ae Rw)(T:ae Tk)(R:ae Ru):D:=.tup [.tup (ks.map (sy N)),.tup (M.map (rwD N)),.tup 0x17,.tup (R.map (ruD N))]
theorem aA7(hF:Hds 0x11)(hM:Hds M)(hR:Rls R):evS [.uD,dJ N ks M T R,.int b] eX=.ok (prF (hdD N 0x11) (mkD N M) (rlD N R) b ⟨0,0,0⟩):=by
 have h3:=aMp hN hd hR (P0:=.tup (ks.map (sy N))) (P1:=.tup (M.map (rwD N))) (P2:=.tup 0x17) (mo:=.int b);have h1:bD (nZ 1 iQ) (aF iT aY) [.uD,dJ N ks M T R,.int b]=.ok (.dct (hdD N 0x11)):=bA 0x13 ((qR rfl).trans (aDh hN hd hF));have h2:=aMn hN hd hM (P0:=.tup (ks.map (sy N))) (P2:=.tup 0x17) (P3:=.tup (R.map (ruD N))) (mo:=.int b);have k:∀kn:ae (D×D),ε (kn.map (·.2))=ag->okF (.dct kn)=ag:=λkn h=>by
  show(ak||ε (kn.map (·.2)))=ag;rw[h];rfl
 rw[aPw];have step:∀{ρ:ae D}{f:Str}{s:Srx}{r:ae (Str×Srx)}{d:D}{ds:ae (Str×D)},s.ev ρ=.ok d->okF d=ag->evS ρ r=.ok ds->evS ρ ((f,s)::r)=.ok ((f,d)::ds):=by
  intro ρ f s r d ds g1 g2 g3;show(do let d <- s.ev ρ;let ds <- evS ρ r;if okF d then τ ((f,d)::ds) else .bad)=_;rw[g1,θ,g3,θ,aq g2]
 exact step h1 (k _ (zH hN hd _)) (step h2 (k _ (zJ hN hd _)) (step h3 (k _ (zK hN hd _)) (step rfl rfl (step rfl rfl (step rfl rfl (step rfl rfl rfl))))))
theorem aDi(hF:Hds 0x11)(hM:Hds M)(hR:Rls R){W:ae ah}{y d:D}{k:Cn}(hv:ZG (hdD N 0x11) (mkD N M) (rlD N R) b 0x1b=.ok (y,k))(hw:iR [y]=.ok d)(pd:d.pure=ag):fY [dJ N ks M T R,.tup 0x1b,.int b]=.ok (.tup [d,.int k.c,.int k.p,.int k.d]):=by
 have pp: (dJ N ks M T R).pure=ag:=by
  show 0x22=ag;rw[ξ,ξ,ξ,ξ,bI,bO (d_ N),bO (rE N),bO (j4 N)];rfl
 unfold fY aJ6;dsimp only;rw[aq (by rw[bI,pp];rfl),aA7 hN hd hF hM hR];refine(aq (?_:_)).trans ?_
 ·rfl
 show(if (ε ((hdD N 0x11).map (·.2))&&(ε ((mkD N M).map (·.2))&&ε ((rlD N R).map (·.2))))=ag then _ else _)=_;rw[aq (by rw[zH hN hd,zJ hN hd,zK hN hd];rfl)];erw[hv];dsimp only;rw[hw];dsimp only;rw[aq pd]
theorem G3(hF:Hds 0x11)(hM:Hds M)(hR:Rls R){W:ae ah}{c:Str}{as:ae D}(hv:ZG (hdD N 0x11) (mkD N M) (rlD N R) b 0x1b=.err c as):fY [dJ N ks M T R,.tup 0x1b,.int b]=.err c as:=by
 have pp: (dJ N ks M T R).pure=ag:=by
  show 0x22=ag;rw[ξ,ξ,ξ,ξ,bI,bO (d_ N),bO (rE N),bO (j4 N)];rfl
 unfold fY aJ6;dsimp only;rw[aq (by rw[bI,pp];rfl),aA7 hN hd hF hM hR];refine(aq (?_:_)).trans ?_
 ·rfl
 show(if (ε ((hdD N 0x11).map (·.2))&&(ε ((mkD N M).map (·.2))&&ε ((rlD N R).map (·.2))))=ag then _ else _)=_;rw[aq (by rw[zH hN hd,zJ hN hd,zK hN hd];rfl)];erw[hv]
end
theorem eZ:∀a b:ae D,ε (a++b)=(ε a&&ε b)
 |[],b=>rfl
 |x::a,b=>by
  show(x.pure&&ε (a++b))=((x.pure&&ε a)&&ε b);rw[eZ a b,xn]
noncomputable def szD:D->ai
 |.tup [_,_,.int z]=>z
 |_=>0
def szs:ae D->ai
 |[]=>0
 |d::r=>szD d+szs r
theorem aA8:∀a b:ae D,szs (a++b)=szs a+szs b
 |[],b=>by show szs b=0+szs b;lia
 |d::a,b=>by show szD d+szs (a++b)=szD d+szs a+szs b;rw[aA8 a b];lia
inductive Rd(N:ae Str)(M:ae Rw):ae ah->ae ah->ae D->Prop
 |nil:Rd N M [] [] []
 |step {r:Rw} {ks W:ae ah} {ps vs:ae D}:r∈M->ps.length=r.2.2.length->Rd N M (r.2.2++ks) W (ps++vs)->Rd N M (r.2.1::ks) (r.1::W) (.tup [sy N r.1,.tup ps,.int (1+szs ps)]::vs)
section
theorem Rd.len(h:Rd N M ks W vs):vs.length=ks.length:=by
 induction h with
 |nil=>rfl
 |step hr hp h ih=>rw[aT,aT] at ih;rw[bp,bp];lia
theorem Rd.sz(h:Rd N M ks W vs):szs vs=W.length:=by
 induction h with
 |nil=>rfl
 |@step r ks W ps vs hr hp h ih=>
  rw[aA8] at ih;show 1+szs ps+szs vs=((W.length+1:ah):ai);lia
theorem Rd.run(h:Rd N M ks W vs):Run M ks W:=by
 induction h with
 |nil=>exact .nil
 |step hr hp h ih=>exact .step hr ih
theorem Rd.pure(h:Rd N M ks W vs):ε vs=ag:=by
 induction h with
 |nil=>rfl
 |@step r ks W ps vs hr hp h ih=>
  rw[eZ,aS] at ih;show((ν [sy N r.1,.tup ps,.int (1+szs ps)]).pure&&ε vs)=ag;rw[ih.2,kj];show((sy N r.1).pure&&((ν ps).pure&&ag))=ag;rw[ξ,ih.1];rfl
theorem aG1(h:Run M ks W):∃vs,Rd N M ks W vs:=by
 induction h with
 |nil=>exact⟨[],.nil⟩
 |@step r rest W hr h ih=>
  obtain⟨us,hu⟩:=ih;have hl:=hu.len;rw[aT] at hl;refine⟨_,.step (ps:=us.take r.2.2.length) hr (by rw[jz];lia) (by rw[qV];exact hu)⟩
theorem Rd.app(h:Rd N M ks W vs)(h2:Rd N M b W2 v2):Rd N M (ks++b) (W++W2) (vs++v2):=by
 induction h with
 |nil=>exact h2
 |@step r ks W ps vs hr hp h ih=>
  rw[b3,b3] at ih;exact .step hr hp ih
theorem Rd.split:∀(n:ah){a b W:ae ah}{vs:ae D},W.length<=n->Rd N M (a++b) W vs->∃W1 W2 v1 v2,W=W1++W2/\vs=v1++v2/\Rd N M a W1 v1/\Rd N M b W2 v2
 |_,[],b,W,vs,_,h=>⟨[],W,[],vs,rfl,rfl,.nil,h⟩
 |n,k::a,b,W,vs,hn,h=>by
  cases h with
  |@step r _ W' ps vs' hr hp h=>
   rw[bp] at hn;cases n with
   |zero=>lia
   |succ n=>
    have h:Rd N M (r.2.2++(a++b)) W' (ps++vs'):=h;rw[<-b3] at h;obtain⟨W1,W2,u1,v2,rfl,e,h1,h2⟩:=Rd.split n 0x1 h;have l1:=h1.len;rw[aT] at l1;have hle:ps.length<=u1.length:=by lia
    have e1:ps=u1.take ps.length:=by
     have:=cy (BF ps.length) e;rw[y8,List.take_append_of_le_length hle] at this;exact this
    have e2:vs'=u1.drop ps.length++v2:=by
     have:=cy (BG ps.length) e;rw[y9,List.drop_append_of_le_length hle] at this;exact this
    refine⟨r.1::W1,W2,_::u1.drop ps.length,v2,rfl,by rw[e2];rfl,.step hr hp ?_,h2⟩;have e3:ps++u1.drop ps.length=u1:=by
     conv=>lhs;arg 1;rw[e1]
     exact qV ..
    rw[e3];exact h1
theorem Rd.one(h:Rd N M [k] W [v]):∃r ps W',r∈M/\r.2.1=k/\W=r.1::W'/\v=.tup [sy N r.1,.tup ps,.int (1+szs ps)]/\Rd N M r.2.2 W' ps:=by
 cases h with
 |@step r _ W' ps _ hr hp h=>
  rw[b5,b5] at h;exact⟨r,ps,W',hr,rfl,rfl,rfl,h⟩
theorem Rd.sum:∀(n:ah){ks W:ae ah}{vs:ae D},W.length<=n->Rd N M ks W vs->W.length<=9000->∀ps us,vs=ps++us->aCu ps=aa (szs ps)
 |_,_,_,_,_,h,hl,[],us,e=>rfl
 |n,_,_,_,hn,h,hl,p::ps,us,e=>by
  cases h with
  |nil=>cases e
  |@step r ks W qs vs hr hq h=>
   rw[bp] at hl hn;cases n with
   |zero=>lia
   |succ n=>
   obtain⟨e1,e2⟩:=za e;subst e1;obtain⟨W1,W2,v1,v2,ew,ev,g1,g2⟩:=Rd.split W.length (bq _) h;have l1:v1.length=qs.length:=by rw[g1.len,hq]
   obtain⟨ea,eb⟩:=List.append_inj ev (by rw[l1]);subst ea eb;have lw:W.length=W1.length+W2.length:=by rw[ew,aT]
   have ih:=Rd.sum n 0x1 g2 0x1 ps us e2;have z1:=g1.sz;show(if (ϒ (-aCt<=1+szs qs)&&ϒ (1+szs qs<=aCt))=ag then (aCu ps).map (1+szs qs+·) else aj)=aa (1+szs qs+szs ps);have hb:aCt=9000:=rfl;rw[aq (by rw[aS,cv,cv,hb];lia),ih];rfl
end
noncomputable abbrev spn:Res (ae D×Cn):=.err "Spent" [.exc "Spent" []]
noncomputable abbrev tot(k:Cn):ai:=k.c+k.p+k.d
noncomputable abbrev Kn:=ah×ah×ae ah×D
def knD(N:ae Str)(L:ae Kn):ae (D×D):=L.map λp=>(sy N p.1,p.2.2.2)
noncomputable def kr(L:ae Kn):ae Rw:=L.map λp=>(p.1,p.2.1,[])
structure QT(N:ae Str)(M:ae Rw)(L:ae Kn):Prop where
 nd:(L.map (·.1)).Nodup
 lt:∀p∈L,13<=p.1/\p.1<26
 rd:∀p∈L,Rd N M [p.2.1] p.2.2.1 [p.2.2.2]
 ln:L.length<=10
noncomputable def cT(ws:ae ah):ae Kn->Cn->Cn
 |[],k=>k
 |p::L,k=>cT ws L (k.use (ws.count p.1) (p.2.2.1.length:ai))
structure Tab(M:ae Rw)(T:ae Tk)(R:ae Ru):Prop where
 rt:∀u∈R,10<=u.1
 hF:Hds 0x11
 hM:Hds M
 hR:Rls R
 mi:∀r∈M,r.1<10/\r.2.2.length<=3
 ti:∀t∈T,10<=t.1/\t.1<13/\t.2.2.2.length<=2
 ru:∀t∈T,∀r∈M,r.2.1=t.2.2.1->∃own ws,(t.1,r.1,own,ws)∈R/\own.length=r.2.2.length+t.2.2.2.length/\own.Nodup/\(∀i∈own,13<=i/\i<26)/\ws.length<=6/\(∀j∈ws,j<26)/\Run ((own.zip (r.2.2++t.2.2.2)).map (λp=>(p.1,p.2,[]))++ 0x11) [t.2.1] ws
section
variable {N:ae Str} (hN:N.length=26) (hd:N.Nodup)
include hN hd
theorem aF2(hi:i<26):∀L:ae ah,(∀j∈L,j<26)->X8 (N.getD i "") (L.map (sy N))=aa (L.count i)
 |[],_=>rfl
 |j::L,h=>by
  show(X8 (N.getD i "") (L.map (sy N))).map (λn=>if (N.getD j "")==(N.getD i "") then n+1 else n)=_;have e:((N.getD j "")==(N.getD i ""))=ϒ (j=i):=oU hN hd (h j 0x2) hi;rw[aF2 hi L λk hk=>h k (by simp[hk]),e,kz];by_cases hji:j=i
  ·rw[bt hji,aq (by simpa using hji)];rfl
  ·rw[cx hji,aw (by simpa using hji)];rfl
theorem aA9(hws:∀j∈ws,j<26)(hl:ws.length<=1000):∀(L:ae Kn),(∀p∈L,p.1<26)->(∀p∈L,Rd N M [p.2.1] p.2.2.1 [p.2.2.2])->∀k:Cn,oN (ws.map (sy N)) (knD N L) k=aa (cT ws L k)
 |[],_,_,k=>rfl
 |p::L,h,hr,k=>by
  have hp:=hr p 0x2;have hz:=hp.sz;obtain⟨r,ps,W',_,_,_,e,_⟩:=hp.one;have hc:=Ci (a:=p.1) (l:=ws);show oN (ws.map (sy N)) ((sy N p.1,p.2.2.2)::knD N L) k=aa (cT ws L (k.use (ws.count p.1) (p.2.2.1.length:ai)));rw[<-hz,e];show(match X8 (N.getD p.1 "") (ws.map (sy N)) with|some n'=>if ϒ (n'<1000000) then oN (ws.map (sy N)) (knD N L) (Cn.use k n' (1+szs ps)) else aj|none=>aj)=aa (cT ws L (k.use (ws.count p.1) (1+szs ps+0)));rw[aF2 hN hd (h p 0x2) ws hws];dsimp only;rw[aq (bt 0x1),aA9 hws hl L (λp hp=>h p (by simp[hp])) (λp hp=>hr p (by simp[hp])),zb]
theorem aI7(nd:(L.map (·.1)).Nodup)(lt:∀p∈L,p.1<26)(hp:p∈L):cN (knD N L) (sy N p.1)=aa p.2.2.2:=rF hN hd (λp:Kn=>p.1) (λp=>p.2.2.2) L nd lt p hp
theorem K3(hi:i<26):∀(L:ae Kn),(∀p∈L,p.1<26)->(∀p∈L,p.1≠i)->cN (knD N L) (sy N i)=aj
 |[],_,_=>rfl
 |p::L,h,hne=>by
  show(if eqD (sy N p.1) (sy N i) then _ else cN (knD N L) (sy N i))=_;rw[oU hN hd (h p 0x2) hi,cx (hne p 0x2),aw 0x2,K3 hi L (λp hp=>h p (by simp[hp])) λp hp=>hne p (by simp[hp])]
theorem aAa:∀(L A:ae Kn),((A++L).map (·.1)).Nodup->(∀p∈A++L,p.1<26)->mV (L.map λp=>sy N p.1) (L.map λp=>p.2.2.2) (knD N A)=knD N (A++L)
 |[],A,_,_=>by rw[b5];rfl
 |q::L,A,h1,h2=>by
  have hp:=rG hN hd (λp:Kn=>p.1) (λp=>p.2.2.2) (h2 q 0x2) q.2.2.2 A (λp hp=>h2 p (by simp[hp])) (by
   rw[cu,aI,i6] at h1;intro hz;exact h1.2.2 q.1 hz q.1 0x2 rfl)
  show mV (L.map λp=>sy N p.1) (L.map λp=>p.2.2.2) (putD (knD N A) (sy N q.1) q.2.2.2)=_;rw[show putD (knD N A) (sy N q.1) q.2.2.2=knD N (A++[q]) from by rw[show knD N (A++[q])=knD N A++[(sy N q.1,q.2.2.2)] from by simp[knD]];exact hp];rw[aAa L (A++[q]) (by rw[b3];exact h1) (by rw[b3];exact h2),b3];rfl
variable {M:ae Rw} {T:ae Tk} {R:ae Ru} (B:Tab M T R) {m:ai} {st:ae D} {L:ae Kn} (KL:QT N M L)
include B KL
theorem aPx(hp:p∈L)(hl:st.length<=100000):J4 (hdD N 0x11) (mkD N M) (rlD N R) m k (knD N L) st (sy N p.1)=.ok (p.2.2.2::st,aj,k):=by
 have fm:sJ (mkD N M) (sy N p.1)=ag:=qK (λr:Rw=>r.1) (λ_=>χ ag) M p.1;have fk:sJ (knD N L) (sy N p.1)=ag:=qK (λp:Kn=>p.1) (λp=>p.2.2.2) L p.1;unfold J4;rw[aq (by rw[fk,fm,bt hl];rfl),aI7 hN hd KL.nd (λp hp=>(KL.lt p hp).2) hp]
theorem aPy(hrM:r∈M)(hp:ps.length=r.2.2.length)(hz:aCu ps=aa z)(hl:(ps++st).length<=100000):J4 (hdD N 0x11) (mkD N M) (rlD N R) m k (knD N L) (ps++st) (sy N r.1)=.ok (.tup [sy N r.1,.tup ps,.int (1+z)]::st,aj,k):=by
 have hlt:=B.hM.lt r hrM;have h10:=(B.mi r hrM).1;have hg:=aF0 hN hd B.hF (ir _ hrM);have hn:tkN (hdD N 0x11) (sy N r.1)=aa r.2.2.length:=by
  unfold tkN;rw[hg];show(if (ε (r.2.2.map (sy N))&&ϒ ((r.2.2.map (sy N)).length<=1000))=ag then aa (r.2.2.map (sy N)).length else aj)=_;have:=hlt.2.2.2;rw[bI,az,aq (by rw[bt 0x1];rfl)]
 have fm:sJ (mkD N M) (sy N r.1)=ag:=qK (λr:Rw=>r.1) (λ_=>χ ag) M r.1;have fk:sJ (knD N L) (sy N r.1)=ag:=qK (λp:Kn=>p.1) (λp=>p.2.2.2) L r.1;have hk:=K3 hN hd hlt.1 L (λp hp=>(KL.lt p hp).2) λp hp=>by have:=KL.lt p hp;lia
 have hm:(cN (mkD N M) (sy N r.1)).isSome=ag:=by
  have:=rF hN hd (λr:Rw=>r.1) (λ_=>χ ag) M B.hM.nd (λr hr=>(B.hM.lt r hr).1) r hrM;show(cN (M.map λr:Rw=>(sy N r.1,χ ag)) (sy N r.1)).isSome=ag;rw[this];rfl
 unfold J4;rw[aq (by rw[fk,fm,bt hl];rfl),hk];dsimp only;rw[hn];dsimp only;rw[aq (by rw[aT];lia),aq hm,<-hp,y8,y9,hz]
omit KL in
theorem aPz(hi:i<26)(h10:10<=i):cN (mkD N M) (sy N i)=aj:=by
 have go:∀L:ae Rw,(∀r∈L,r.1<10)->cN (mkD N L) (sy N i)=aj:=by
  intro L;induction L with
  |nil=>intro _;rfl
  |cons r L ih=>
   intro h;have hr:=h r 0x2;show(if eqD (sy N r.1) (sy N i) then _ else cN (mkD N L) (sy N i))=_;rw[oU hN hd 0x1 hi,cx 0x1,aw 0x2,ih λq hq=>h q (by simp[hq])]
 exact go _ λr hr=>(B.mi r hr).1
theorem aI8(ht:t∈T)(KA:QT N M A)(hr:(t.1,mk,A.map (·.1),ws)∈R)(hv:xs++more=A.map λp=>p.2.2.2)(hml:more.length=t.2.2.2.length)(hws:∀j∈ws,j<26)(hwl:ws.length<=1000)(hpv:ε (xs++more)=ag)(hl:(more++st).length<=90000) :
  J4 (hdD N 0x11) (mkD N M) (rlD N R) m k (knD N L) (.tup [sy N mk,.tup xs,z]::(more++st)) (sy N t.1)=if tot (cT ws A k.call) > m then .err "Spent" [.exc "Spent" []] else .ok (st,aa (ws.map (sy N),knD N A),cT ws A k.call):=by
 obtain⟨h4,h13,h2⟩:=B.ti t ht;have h26:t.1<26:=by lia
 have hg:=aF0 hN hd B.hF (eM _ (ck.mpr ⟨t,ht,rfl⟩));have hn:tkN (hdD N 0x11) (sy N t.1)=aa (t.2.2.2.length+1):=by
  unfold tkN;rw[show getD (.dct (hdD N 0x11)) (sy N t.1)=_ from hg];show(if (ε ((t.2.2.1::t.2.2.2).map (sy N))&&ϒ (((t.2.2.1::t.2.2.2).map (sy N)).length<=1000))=ag then aa ((t.2.2.1::t.2.2.2).map (sy N)).length else aj)=_;rw[bI,az,bp,aq (by rw[bt 0x1];rfl)]
 have fm:sJ (mkD N M) (sy N t.1)=ag:=qK (λr:Rw=>r.1) (λ_=>χ ag) M t.1;have fk:sJ (knD N L) (sy N t.1)=ag:=qK (λp:Kn=>p.1) (λp=>p.2.2.2) L t.1;have hk:=K3 hN hd h26 L (λp hp=>(KL.lt p hp).2) λp hp=>by have:=KL.lt p hp;lia
 have hru:=aMo hN hd B.hR hr;have hlen:xs.length+more.length=A.length:=by rw[<-aT,hv,az]
 have hAl:=KA.ln;have px:ε xs=ag/\ε more=ag:=by
  rw[eZ,aS] at hpv;exact hpv
 have hz:lR [.tup ((A.map (·.1)).map (sy N)),.lst (xs++more)]=.ok (.dct (knD N A)):=by
  have fl:((A.map (·.1)).map (sy N)).all gD=ag:=by
   rw[gq];intro d hd';obtain⟨j,_,rfl⟩:=ck.mp hd';rfl
  show(if (ϒ (((A.map (·.1)).map (sy N)).length<=1000)&&ϒ ((xs++more).length=((A.map (·.1)).map (sy N)).length)&&((A.map (·.1)).map (sy N)).all gD&&ε (xs++more))=ag then τ (D.dct (mV ((A.map (·.1)).map (sy N)) (xs++more) [])) else .bad)=_;rw[hpv,fl,aq (by rw[az,az,aT,hlen,bt (show A.length<=1000 by lia),bt (show A.length=A.length from rfl)];rfl),hv,di];have:=aAa hN hd A [] KA.nd λp hp=>(KA.lt p hp).2
  exact cy (λz=>τ (D.dct z)) this
 have hc:aB2 (rlD N R) m k (sy N t.1) (.tup [sy N mk,.tup xs,z]::more)=if tot (cT ws A k.call) > m then .err "Spent" [.exc "Spent" []] else .ok (ws.map (sy N),knD N A,cT ws A k.call):=by
  refine(aq (?_:_)).trans ?_
  ·rfl
  show qbQ m k xs more (getD (.dct (rlD N R)) (.tup [sy N t.1,sy N mk]))=_;rw[hru];refine(aq (?_:_)).trans ?_
  ·rfl
  show(if (ϒ (xs.length+more.length<=1000)&&(ε xs&&(ε more&&ε (ws.map (sy N)))))=ag then qcQ m k (ws.map (sy N)) (lR [.tup ((A.map (·.1)).map (sy N)),.lst (xs++more)]) else .bad)=_;rw[px.1,px.2,bI,aq (by rw[bt 0x1];rfl),hz];unfold qcQ;dsimp only;rw[aA9 hN hd hws hwl A (λp hp=>(KA.lt p hp).2) KA.rd];rfl
 unfold J4;rw[aq (by rw[fk,fm,bt (by rw[bp];lia)];rfl),hk];dsimp only;rw[hn];dsimp only;rw[aq (by rw[bp,aT];lia),aPz hN hd B h26 h4,aw 0x2,BE,yq,<-hml,y8,y9,hc];by_cases hgt:tot (cT ws A k.call) > m
 ·rw[aq hgt,aq hgt]
 ·rw[aw hgt,aw hgt]
end
noncomputable def wt1(L:ae Kn)(x:ah):ah:=match L.find? (λp=>p.1==x) with
 |some p=>p.2.2.1.length
 |none=>1
def wgt(L:ae Kn):ae ah->ah
 |[]=>0
 |x::ws=>wt1 L x+wgt L ws
noncomputable def sl:ae Kn->ah
 |[]=>0
 |p::L=>p.2.2.1.length+sl L
noncomputable def cs'(ws:ae ah):ae Kn->ah
 |[]=>0
 |p::L=>ws.count p.1*p.2.2.1.length+cs' ws L
noncomputable def ux(ws:ae ah):ae Kn->ah
 |[]=>0
 |p::L=>(if ws.count p.1=0 then p.2.2.1.length else (ws.count p.1-1)*p.2.2.1.length)+ux ws L
theorem aAb(x:ah)(ws:ae ah):∀L:ae Kn,cs' ws L<=cs' (x::ws) L
 |[]=>bq _
 |p::L=>by
  have:=aAb x ws L;have h1:ws.count p.1<=(x::ws).count p.1:=by rw[kz];lia
  have:=nI p.2.2.1.length h1;show ws.count p.1*p.2.2.1.length+cs' ws L<=(x::ws).count p.1*p.2.2.1.length+cs' (x::ws) L;lia
theorem aAc(x:ah)(ws:ae ah):∀L:ae Kn,wt1 L x+cs' ws L<=1+cs' (x::ws) L
 |[]=>bq _
 |p::L=>by
  unfold wt1;rw[kb];show _+(ws.count p.1*p.2.2.1.length+cs' ws L)<=1+((x::ws).count p.1*p.2.2.1.length+cs' (x::ws) L);by_cases h:p.1=x
  ·rw[show(p.1==x)=ag from fS.mpr h];have:=aAb x ws L;have e:(x::ws).count p.1=ws.count p.1+1:=by rw[kz,aq (fS.mpr h.symm)]
   rw[e,lx,rj];show p.2.2.1.length+_<=_;lia
  ·rw[show(p.1==x)=ak from fq.mpr h];have:=aAc x ws L;unfold wt1 at this;dsimp only;have h1:ws.count p.1<=(x::ws).count p.1:=by rw[kz];lia
   have:=nI p.2.2.1.length h1;lia
theorem aAd(L:ae Kn):∀ws:ae ah,wgt L ws<=ws.length+cs' ws L
 |[]=>d6 _
 |x::ws=>by
  have:=aAd L ws;have:=aAc x ws L;show wt1 L x+wgt L ws<=(ws.length+1)+cs' (x::ws) L;lia
theorem aMq(ws:ae ah):∀L:ae Kn,cs' ws L<=sl L+ux ws L
 |[]=>d6 _
 |p::L=>by
  have:=aMq ws L;show ws.count p.1*p.2.2.1.length+cs' ws L<=p.2.2.1.length+sl L+((if ws.count p.1=0 then p.2.2.1.length else (ws.count p.1-1)*p.2.2.1.length)+ux ws L);by_cases h:ws.count p.1=0
  ·rw[aq h,h,ve];lia
  ·rw[aw h];have e:ws.count p.1*p.2.2.1.length=(ws.count p.1-1)*p.2.2.1.length+p.2.2.1.length:=by
    conv=>lhs;rw[show ws.count p.1=(ws.count p.1-1)+1 by lia]
    rw[lx,rj]
   lia
structure NN(q:Cn):Prop where
 c:0<=q.c
 p:0<=q.p
 d:0<=q.d
theorem zL(ws:ae ah):∀(L:ae Kn)(c:Cn),NN c->NN (cT ws L c)/\tot (cT ws L c)=tot c+(ux ws L:ah)
 |[],c,h=>⟨h,by show tot c=tot c+((0:ah):ai);lia⟩
 |p::L,c,h=>by
  have key:NN (c.use (ws.count p.1) (p.2.2.1.length:ai))/\tot (c.use (ws.count p.1) (p.2.2.1.length:ai))=tot c+((if ws.count p.1=0 then p.2.2.1.length else (ws.count p.1-1)*p.2.2.1.length:ah):ai):=by
   unfold Cn.use;by_cases hz:ws.count p.1=0
   ·rw[aq (by rw[hz];rfl),aq hz];refine⟨⟨h.c,h.p,?_⟩,?_⟩
    ·show 0<=c.d+(p.2.2.1.length:ai);have:=h.d;lia
    ·show c.c+c.p+(c.d+(p.2.2.1.length:ai))=c.c+c.p+c.d+(p.2.2.1.length:ai);lia
   ·rw[aw 0x1,aw hz];have e:((ws.count p.1:ai)-1)*(p.2.2.1.length:ai)=(((ws.count p.1-1)*p.2.2.1.length:ah):ai):=by
     rw[t9,Cj 0x1];rfl
    rw[e];generalize (ws.count p.1-1)*p.2.2.1.length=q;refine⟨⟨h.c,?_,h.d⟩,?_⟩
    ·show 0<=c.p+(q:ai);have:=h.p;lia
    ·show c.c+(c.p+(q:ai))+c.d=c.c+c.p+c.d+(q:ai);lia
  obtain⟨g1,g2⟩:=zL ws L _ key.1;refine⟨g1,?_⟩;show tot (cT ws L (c.use (ws.count p.1) (p.2.2.1.length:ai)))=tot c+(((if ws.count p.1=0 then p.2.2.1.length else (ws.count p.1-1)*p.2.2.1.length)+ux ws L:ah):ai);rw[g2,key.2];lia
inductive Ef(H:ae Rw):ae ah->ae ah->ae ah->Prop
 |nil {S:ae ah}:Ef H [] S S
 |step {r:Rw} {ws S S':ae ah}:r∈H->Ef H ws (r.2.1::S) S'->Ef H (r.1::ws) (r.2.2++S) S'
theorem Ef.trans{a b S S1 S2:ae ah}(h:Ef H a S S1)(h2:Ef H b S1 S2):Ef H (a++b) S S2:=by
 induction h with
 |nil=>exact h2
 |step hr h ih=>exact .step hr (ih h2)
theorem aAe:∀{ks W:ae ah}{vs:ae D},Rd N M ks W vs->∃Q:ae (ah×ae ah×D),Q.map (·.1)=ks/\Q.map (·.2.2)=vs/\(∀q∈Q,Rd N M [q.1] q.2.1 [q.2.2])/\(Q.map (·.2.1.length)).sum=W.length
 |[],W,vs,h=>by
  cases h;exact⟨[],rfl,rfl,λq hq=>(by cases hq),rfl⟩
 |k::ks,W,vs,h=>by
  obtain⟨W1,W2,v1,v2,rfl,rfl,g1,g2⟩:=Rd.split W.length (a:=[k]) (bq _) h;obtain⟨Q,q1,q2,q3,q4⟩:=aAe g2;have l1:=g1.len
  match v1,l1 with
  |[v],_=>
   refine⟨(k,W1,v)::Q,by rw[aI,q1],by rw[aI,q2];rfl,λq hq=>?_,by rw[aI,ji,q4,aT]⟩;rcases cj.mp hq with rfl|hq
   ·exact g1
   ·exact q3 q hq
theorem aF3:∀(own:ae ah)(Q:ae (ah×ae ah×D)),own.length=Q.length->sl (own.zip Q)=(Q.map (·.2.1.length)).sum
 |[],[],_=>rfl
 |[],_::_,h=>by simp at h
 |_::_,[],h=>by simp at h
 |o::own,q::Q,h=>by
  rw[bp,bp] at h;show q.2.1.length+sl (own.zip Q)=_;rw[aF3 own Q 0x1,aI,ji]
theorem aAf:∀(own:ae ah)(Q:ae (ah×ae ah×D)),kr (own.zip Q)=(own.zip (Q.map (·.1))).map λp=>(p.1,p.2,[])
 |[],_=>rfl
 |_::_,[]=>rfl
 |o::own,q::Q=>by
  show(o,q.1,[])::kr (own.zip Q)=_;rw[aAf own Q];rfl
theorem aQ0{L:ae Kn}(nd:(L.map (·.1)).Nodup)(hp:p∈L):L.find? (λq=>q.1==p.1)=aa p:=by
 induction L with
 |nil=>cases hp
 |cons q L ih=>
  rw[aI,fz] at nd;rw[kb];rcases cj.mp hp with rfl|hp
  ·rw[lg]
  ·have:q.1≠p.1:=λz=>nd.1 (z▸eh hp)
   rw[show(q.1==p.1)=ak from fq.mpr this];exact ih nd.2 hp
theorem aQ1{L:ae Kn}(h:∀p∈L,p.1≠x):L.find? (λq=>q.1==x)=aj:=by
 rw[List.find?_eq_none];intro q hq;rw[fq.mpr (h q hq)];simp
noncomputable def sb1(L:ae Kn)(x:ah):ae ah:=match L.find? (λp=>p.1==x) with
 |some p=>p.2.2.1
 |none=>[x]
def sub(L:ae Kn):ae ah->ae ah
 |[]=>[]
 |x::ws=>sb1 L x++sub L ws
theorem sub_len(L:ae Kn):∀ws:ae ah,(sub L ws).length=wgt L ws
 |[]=>rfl
 |x::ws=>by
  show(sb1 L x++sub L ws).length=wt1 L x+wgt L ws;rw[aT,sub_len L ws];unfold sb1 wt1;cases L.find? (λp=>p.1==x)<;>rfl
noncomputable def ad(a b:Cn):Cn:=⟨a.c+b.c,a.p+b.p,a.d+b.d⟩
noncomputable abbrev z0:Cn:=⟨0,0,0⟩
theorem dN(a b:Cn):tot (ad a b)=tot a+tot b:=by
 show a.c+b.c+(a.p+b.p)+(a.d+b.d)=a.c+a.p+a.d+(b.c+b.p+b.d);lia
theorem sX(a b c:Cn):ad (ad a b) c=ad a (ad b c):=by
 unfold ad;rw[rq,rq,rq]
theorem aF4(a:Cn):ad a z0=a:=by
 cases a;unfold ad;simp
theorem aR4(a:Cn):ad z0 a=a:=by
 cases a;unfold ad;simp
theorem NN.ad(h:NN a)(h':NN b):NN (ad a b):=⟨zc h.c h'.c,zc h.p h'.p,zc h.d h'.d⟩
theorem NN.tot(h:NN a):0<=tot a:=by
 have:=h.c;have:=h.p;have:=h.d;show 0<=a.c+a.p+a.d;lia
theorem nn0:NN z0:=⟨nK _,nK _,nK _⟩
theorem nn1:NN z0.call:=⟨by decide,nK _,nK _⟩
theorem aMr(c k:Cn)(u z:ai):(ad c k).use u z=ad c (k.use u z):=by
 unfold Cn.use ad;by_cases h:u=0
 ·rw[aq h,aq h];simp only[rq]
 ·rw[aw h,aw h];simp only[rq]
theorem aAg(ws:ae ah)(c:Cn):∀(L:ae Kn)(k:Cn),cT ws L (ad c k)=ad c (cT ws L k)
 |[],k=>rfl
 |p::L,k=>by
  show cT ws L ((ad c k).use _ _)=ad c (cT ws L (k.use _ _));rw[aMr,aAg ws c L]
theorem aI9(c:Cn):c.call=ad c z0.call:=by
 cases c;unfold Cn.call ad;simp
section
variable {N:ae Str} {M:ae Rw} {T:ae Tk} {R:ae Ru}
variable (N M T R) in
abbrev rN(m:ai):ah->ae Fr->ae D->Cn->Res (ae D×Cn):=Mi.runN (hdD N 0x11) (mkD N M) (rlD N R) m
variable (N) in
abbrev fa(L:ae Kn)(w:ae ah)(i:ah):Fr:=⟨w.map (sy N),i,knD N L⟩
variable (N M T R) in
def Ok(h:ah)(L:ae Kn)(ws:ae ah)(st st':ae D)(δ:Cn):Prop:=∀(pre post:ae ah)(fr:ae Fr)(rest:ae D)(m:ai)(c:Cn),ε rest=ag->rest.length+h<=90000->fr.length+h<=800000->tot c<=m->∃n,∀k,rN N M T R m (k+n) (fa N L (pre++ws++post) (pre.length+ws.length)::fr) (st++rest) c=if tot c+tot δ<=m then rN N M T R m k (fa N L (pre++ws++post) pre.length::fr) (st'++rest) (ad c δ) else spn
variable (N M T R) in
def Spd(h:ah)(b:ai)(L:ae Kn)(ws:ae ah)(st:ae D):Prop:=∀(pre post:ae ah)(fr:ae Fr)(rest:ae D)(m:ai)(c:Cn),ε rest=ag->rest.length+h<=90000->fr.length+h<=800000->tot c<=m->m<=tot c+b->∃n,∀k,rN N M T R m (k+n) (fa N L (pre++ws++post) (pre.length+ws.length)::fr) (st++rest) c=spn
theorem Ok.mono(hh:h<=h')(o:Ok N M T R h L ws st st' δ):Ok N M T R h' L ws st st' δ:=λpre post fr rest m c h1 h2 h3 h4=>o pre post fr rest m c h1 0x1 0x1 h4
theorem Spd.mono(hh:h<=h')(o:Spd N M T R h b L ws st):Spd N M T R h' b L ws st:=λpre post fr rest m c h1 h2 h3 h4 h5=>o pre post fr rest m c h1 0x1 0x1 h4 h5
theorem Ok.under(o:Ok N M T R h L ws st st' δ)(hs:ε s=ag):Ok N M T R (h+s.length) L ws (st++s) (st'++s) δ:=λpre post fr rest m c h1 h2 h3 h4=>by
 rw[b3 st,b3 st'];exact o pre post fr (s++rest) m c (by rw[eZ,hs,h1];rfl) (by rw[aT];lia) 0x1 h4
theorem Spd.under(o:Spd N M T R h b L ws st)(hs:ε s=ag):Spd N M T R (h+s.length) b L ws (st++s):=λpre post fr rest m c h1 h2 h3 h4 h5=>by
 rw[b3 st];exact o pre post fr (s++rest) m c (by rw[eZ,hs,h1];rfl) (by rw[aT];lia) 0x1 h4 h5
theorem Ok.app(o2:Ok N M T R h L ws2 st st1 δ2)(o1:Ok N M T R h L ws1 st1 st' δ1)(nn:NN δ1):Ok N M T R h L (ws1++ws2) st st' (ad δ2 δ1):=λpre post fr rest m c h1 h2 h3 h4=>by
 obtain⟨n2,e2⟩:=o2 (pre++ws1) post fr rest m c h1 h2 h3 h4;have t1:=nn.tot;have ea:pre++(ws1++ws2)++post=pre++ws1++ws2++post:=by simp only[b3]
 have eb:pre++ws1++ws2++post=pre++ws1++(ws2++post):=by simp only[b3]
 rw[ea,aT,<-jp,<-aT];rw[dN];by_cases hc:tot c+tot δ2<=m
 ·obtain⟨n1,e1⟩:=o1 pre (ws2++post) fr rest m (ad c δ2) h1 h2 h3 (by rw[dN];exact hc);refine⟨n1+n2,λk=>?_⟩;rw[<-jp,e2,aq hc,eb,aT,e1,dN,sX];by_cases hd:tot c+tot δ2+tot δ1<=m
  ·rw[aq hd,aq 0x1]
  ·rw[aw hd,aw 0x1]
 ·refine⟨n2,λk=>?_⟩;rw[e2,aw hc,aw 0x1]
theorem Spd.aJa(o2:Spd N M T R h b L ws2 st):Spd N M T R h b L (ws1++ws2) st:=λpre post fr rest m c h1 h2 h3 h4 h5=>by
 obtain⟨n2,e2⟩:=o2 (pre++ws1) post fr rest m c h1 h2 h3 h4 h5;have ea:pre++(ws1++ws2)++post=pre++ws1++ws2++post:=by simp only[b3]
 rw[ea,aT,<-jp,<-aT];exact⟨n2,e2⟩
theorem Ok.aIa(o2:Ok N M T R h L ws2 st st1 δ2)(o1:Spd N M T R h b' L ws1 st1)(hb:b<=b'+tot δ2):Spd N M T R h b L (ws1++ws2) st:=λpre post fr rest m c h1 h2 h3 h4 h5=>by
 obtain⟨n2,e2⟩:=o2 (pre++ws1) post fr rest m c h1 h2 h3 h4;have ea:pre++(ws1++ws2)++post=pre++ws1++ws2++post:=by simp only[b3]
 have eb:pre++ws1++ws2++post=pre++ws1++(ws2++post):=by simp only[b3]
 rw[ea,aT,<-jp,<-aT];by_cases hc:tot c+tot δ2<=m
 ·obtain⟨n1,e1⟩:=o1 pre (ws2++post) fr rest m (ad c δ2) h1 h2 h3 (by rw[dN];exact hc) (by rw[dN];lia);refine⟨n1+n2,λk=>?_⟩;rw[<-jp,e2,aq hc,eb,aT,e1]
 ·refine⟨n2,λk=>?_⟩;rw[e2,aw hc]
theorem Ok.over(o:Ok N M T R h L ws st st' δ)(hb:b<tot δ):Spd N M T R h b L ws st:=λpre post fr rest m c h1 h2 h3 h4 h5=>by
 obtain⟨n,e⟩:=o pre post fr rest m c h1 h2 h3 h4;refine⟨n,λk=>?_⟩;rw[e,aw 0x1]
theorem Ok.nil:Ok N M T R h L [] st st z0:=λpre post fr rest m c h1 h2 h3 h4=>⟨0,λk=>by
 rw[aq (by show tot c+0<=m;lia),aF4];rfl⟩
theorem aF5{w:ae ah}{r:ae Fr}{st st':ae D}{c:Cn}{x:ah}(hx:w[i]?=aa x)(hr:r.length<900000)(h:J4 (hdD N 0x11) (mkD N M) (rlD N R) m c kn st (sy N x)=.ok (st',aj,c))(hp:ε st'=ag):rN N M T R m (n+1) (⟨w.map (sy N),i+1,kn⟩::r) st c=rN N M T R m n (⟨w.map (sy N),i,kn⟩::r) st' c:=by
 have hw:(w.map (sy N))[i]?=aa (sy N x):=by rw[fA,hx];rfl
 unfold rN;rw[Mi.runN,hw];dsimp only;rw[aq (bt hr),h];dsimp only;rw[aq hp]
theorem aDj{w ws:ae ah}{r:ae Fr}{st st':ae D}{c c':Cn}{x:ah}(hx:w[i]?=aa x)(hr:r.length<900000)(h:J4 (hdD N 0x11) (mkD N M) (rlD N R) m c kn st (sy N x)=if tot c' > m then .err "Spent" [.exc "Spent" []] else .ok (st',aa (ws.map (sy N),kn'),c'))(hp:ε st'=ag):rN N M T R m (n+1) (⟨w.map (sy N),i+1,kn⟩::r) st c=if tot c' > m then spn else rN N M T R m n (⟨ws.map (sy N),ws.length,kn'⟩::⟨w.map (sy N),i,kn⟩::r) st' c':=by
 have hw:(w.map (sy N))[i]?=aa (sy N x):=by rw[fA,hx];rfl
 unfold rN;rw[Mi.runN,hw];dsimp only;rw[aq (bt hr),h];by_cases hg:tot c' > m
 ·rw[aq hg,aq hg]
 ·rw[aw hg,aw hg];dsimp only;rw[aq hp,az]
theorem mid(pre post:ae ah)(x:ah):(pre++[x]++post)[pre.length]?=aa x:=by simp
variable (hN:N.length=26) (hd:N.Nodup) (B:Tab M T R) (KL:QT N M L)
include hN hd B KL
theorem aQ2(hp:p∈L)(hs:ε st=ag)(hl:st.length<=h):Ok N M T R h L [p.1] st (p.2.2.2::st) z0:=λpre post fr rest m c h1 h2 h3 h4=>by
 refine⟨1,λk=>?_⟩;rw[aq (by show tot c+0<=m;lia),aF4];have pv:=(KL.rd p hp).pure;rw[ε,aS] at pv;exact aF5 (mid pre post p.1) 0x1 (aPx hN hd B KL hp (by rw[aT];lia)) (by show(p.2.2.2.pure&&ε (st++rest))=ag;rw[pv.1,eZ,hs,h1];rfl)
theorem aDk(hr:r∈M)(hp:ps.length=r.2.2.length)(hz:aCu ps=aa z)(hps:ε ps=ag)(hs:ε st=ag)(hl:(ps++st).length<=h):Ok N M T R h L [r.1] (ps++st) (.tup [sy N r.1,.tup ps,.int (1+z)]::st) z0:=λpre post fr rest m c h1 h2 h3 h4=>by
 refine⟨1,λk=>?_⟩;rw[aq (by show tot c+0<=m;lia),aF4,b3 ps];rw[aT] at hl;refine aF5 (mid pre post r.1) 0x1 (aPy hN hd B KL hr hp hz (by rw[aT,aT];lia)) ?_;show((ν [sy N r.1,.tup ps,.int (1+z)]).pure&&ε (st++rest))=ag;rw[eZ,hs,h1];show((sy N r.1).pure&&((ν ps).pure&&ag)&&(ag&&ag))=ag;rw[ξ,hps];rfl
theorem uW(ht:t∈T)(KA:QT N M A)(hr:(t.1,mk,A.map (·.1),body)∈R)(hv:xs++more=A.map λp=>p.2.2.2)(hml:more.length=t.2.2.2.length)(hws:∀j∈body,j<26)(hwl:body.length<=1000)(hpv:ε (xs++more)=ag)(hs:ε st=ag)(hl:(more++st).length<=h)
 (hb:h'+1+st.length<=h) :
  (∀δb vs,NN δb->Ok N M T R h' A body [] vs δb->Ok N M T R h L [t.1] (.tup [sy N mk,.tup xs,z]::(more++st)) (vs++st) (ad 0x18 δb))/\(∀b':ai,Spd N M T R h' b' A body []->∀b,b<=b'+tot 0x18->Spd N M T R h b L [t.1] (.tup [sy N mk,.tup xs,z]::(more++st)))/\(∀b,b<tot 0x18->Spd N M T R h b L [t.1] (.tup [sy N mk,.tup xs,z]::(more++st))):=by
 have e0:∀c:Cn,cT body A c.call=ad c 0x18 :=λc=>by rw[aI9,aAg]
 generalize hδ:cT body A z0.call=δ0 at e0;have step:∀(pre post:ae ah)(fr:ae Fr)(rest:ae D)(m:ai)(c:Cn),ε rest=ag->rest.length+h<=90000->fr.length+h<=800000->∀n,rN N M T R m (n+1) (fa N L (pre++[t.1]++post) (pre.length+[t.1].length)::fr) ((.tup [sy N mk,.tup xs,z]::(more++st))++rest) c=if tot (ad c δ0) > m then spn else rN N M T R m n (⟨body.map (sy N),body.length,knD N A⟩::fa N L (pre++[t.1]++post) pre.length::fr) (st++rest) (ad c δ0):=λpre post fr rest m c h1 h2 h3 n=>by
  rw[aT] at hl;have tkc:=aI8 hN hd B KL (m:=m) (st:=st++rest) (k:=c) (xs:=xs) (more:=more) (z:=z) (ws:=body) (mk:=mk) ht KA hr hv hml hws hwl hpv (by rw[aT,aT];lia);rw[e0,<-b3] at tkc;exact aDj (mid pre post t.1) 0x1 tkc (by rw[eZ,hs,h1];rfl)
 refine⟨λδb vs nb o pre post fr rest m c h1 h2 h3 h4=>?_,λb' o b hbb pre post fr rest m c h1 h2 h3 h4 h5=>?_,λb hbb pre post fr rest m c h1 h2 h3 h4 h5=>?_⟩
 ·have tb:=nb.tot;rw[dN];by_cases hg:tot (ad c δ0) > m
  ·refine⟨1,λk=>?_⟩;rw[step pre post fr rest m c h1 h2 h3,aq hg,aw (by rw[dN] at hg;lia)]
  ·obtain⟨n,e⟩:=o [] [] (fa N L (pre++[t.1]++post) pre.length::fr) (st++rest) m (ad c δ0) (by rw[eZ,hs,h1];rfl) (by rw[aT];lia) (by rw[bp];lia) 0x1;rw[eJ,b5,ef,lu,eJ] at e;refine⟨1+n+1,λk=>?_⟩;rw[<-jp,step pre post fr rest m c h1 h2 h3,aw hg,<-jp,e,dN,sX,<-b3];rw[dN] at hg;by_cases hg2:tot c+tot δ0+tot δb<=m
   ·rw[aq hg2,aq 0x1];rfl
   ·rw[aw hg2,aw 0x1]
 ·by_cases hg:tot (ad c δ0) > m
  ·refine⟨1,λk=>?_⟩;rw[step pre post fr rest m c h1 h2 h3,aq hg]
  ·obtain⟨n,e⟩:=o [] [] (fa N L (pre++[t.1]++post) pre.length::fr) (st++rest) m (ad c δ0) (by rw[eZ,hs,h1];rfl) (by rw[aT];lia) (by rw[bp];lia) 0x1 (by rw[dN];lia);rw[eJ,b5,ef,lu,eJ] at e;refine⟨n+1,λk=>?_⟩;rw[<-jp,step pre post fr rest m c h1 h2 h3,aw hg,e]
 ·refine⟨1,λk=>?_⟩;rw[step pre post fr rest m c h1 h2 h3,aq (by rw[dN];lia)]
end
theorem G4(h:Run M ks w):ks.length<=w.length:=by
 induction h with
 |nil=>exact bq _
 |step hr _ ih=>rw[aT] at ih;rw[bp,bp];lia
theorem aAh(h:Run H a v)(h2:Run H b w):Run H (a++b) (v++w):=by
 induction h with
 |nil=>exact h2
 |step hr h ih=>rw[b3] at ih;exact .step hr ih
theorem jO(hs:∀r∈H,r∈G)(h:Run H a v):Run G a v:=by
 induction h with
 |nil=>exact .nil
 |step hr h ih=>exact .step (hs _ hr) ih
theorem kn0:QT N M []:=⟨gp,λp hp=>(by cases hp),λp hp=>(by cases hp),by decide⟩
theorem aIb(nd:(L.map (·.1)).Nodup)(hp:p∈L):sb1 L p.1=p.2.2.1/\wt1 L p.1=p.2.2.1.length:=by
 unfold sb1 wt1;rw[aQ0 nd hp];exact⟨rfl,rfl⟩
theorem aIc(h:∀p∈L,p.1≠x):sb1 L x=[x]/\wt1 L x=1:=by
 unfold sb1 wt1;rw[aQ1 h];exact⟨rfl,rfl⟩
theorem aIe(KL:QT N M L)(hM:∀r∈M,r∈H)(hH:∀r∈H,r.1<13)(h:Run (kr L++H) ks ws):Run H ks (sub L ws):=by
 induction h with
 |nil=>exact .nil
 |@step r rest W hr h ih=>
  show Run H (r.2.1::rest) (sb1 L r.1++sub L W);rcases dz.mp hr with hk|hk
  ·obtain⟨p,hp,rfl⟩:=ck.mp hk;rw[(aIb KL.nd hp).1];exact aAh (jO hM (KL.rd p hp).run) ih
  ·rw[(aIc λp hp=>by have:=KL.lt p hp;have:=hH r hk;lia).1];exact .step hk ih
section
variable {N:ae Str} (hN:N.length=26) (hd:N.Nodup) {M:ae Rw} {T:ae Tk} {R:ae Ru} (B:Tab M T R)
include hN hd B
theorem aQ3(KL:QT N M L)(hr:Rd N M ks W vs):∀{h:ah},W.length<=9000->W.length<=h->Ok N M T R h L W [] vs z0:=by
 induction hr with
 |nil=>intro h _ _;exact Ok.nil
 |@step r ks W ps vs hr hp hh ih=>
  intro h h9 hl;rw[bp] at h9 hl;have o:=ih (h:=h) 0x1 0x1;have hz:=Rd.sum W.length (bq _) hh 0x1 ps vs rfl;have pp:=hh.pure;rw[eZ,aS] at pp;have l1:=hh.len;have l2:=G4 hh.run;have:=Ok.app o (aDk hN hd B KL hr hp hz pp.1 pp.2 0x1) nn0;rw[aF4] at this;exact this
theorem big(b:ah):∀{L:ae Kn},QT N M L->∀{ks ws:ae ah},Run (kr L++ 0x11) ks ws->wgt L ws+7*b<=8000->
  (Spd N M T R (wgt L ws+7*b) b L ws []/\Spd N M T R (wgt L ws+7*b) b [] (sub L ws) [])\/
  ∃W vs δ,Rd N M ks W vs/\NN δ/\tot δ<=b/\(W.length:ai)<=wgt L ws+6*tot δ/\Ok N M T R (wgt L ws+7*b) L ws [] vs δ/\Ok N M T R (wgt L ws+7*b) [] (sub L ws) [] vs δ:=by
 induction b using Nat.strongRecOn with
 |ind b IH=>
 intro L KL ks ws hrun;induction hrun with
 |nil=>exact λhb=>.inr ⟨[],[],z0,.nil,nn0,by show(0:ai)<=b;lia,by show(0:ai)<=_;show(0:ai)<=((0:ah):ai)+6*0;decide,Ok.nil,Ok.nil⟩
 |@step r rest W hr hrun ih=>
  intro hb;have ew:wgt L (r.1::W)=wt1 L r.1+wgt L W:=rfl;have es:sub L (r.1::W)=sb1 L r.1++sub L W:=rfl;rw[ew] at hb ⊢;rw[es];rcases ih 0x1 with ⟨s1,s2⟩|⟨W',vs,δ',rd,nn,tb,lw,o1,o2⟩
  ·exact .inl ⟨(s1.mono 0x1).aJa (ws1:=[r.1]),(s2.mono 0x1).aJa⟩
  ·have t0:=nn.tot;have l1:=rd.len;have l2:=G4 rd.run;have pp:=rd.pure;rcases dz.mp hr with hk|hk
   ·obtain⟨p,hp,rfl⟩:=ck.mp hk;have l1:vs.length=rest.length:=l1;have l2:rest.length<=W'.length:=l2;obtain⟨e1,e2⟩:=aIb KL.nd hp;rw[e1,e2];dsimp only at e2 hb ⊢;rw[e2] at hb;have q1:=Ok.app (o1.mono (h':=p.2.2.1.length+wgt L W+7*b) 0x1) (aQ2 hN hd B KL hp pp 0x1) nn0;have q2:=Ok.app (o2.mono (h':=p.2.2.1.length+wgt L W+7*b) 0x1) (((aQ3 hN hd B kn0 (KL.rd p hp) 0x1 (bq _)).under pp).mono 0x1) nn0;rw[aF4] at q1 q2;exact .inr ⟨p.2.2.1++W',p.2.2.2::vs,δ',(KL.rd p hp).app rd,nn,tb,by rw[aT];lia,q1,q2⟩
   ·have hlt:∀q∈M++T.map tr,q.1<13:=λq hq=>by
     rcases dz.mp hq with hq|hq
     ·have:=(B.mi q hq).1;lia
     ·obtain⟨t,ht,rfl⟩:=ck.mp hq;exact(B.ti t ht).2.1
    obtain⟨e1,e2⟩:=aIc (L:=L) (x:=r.1) λp hp=>by have:=KL.lt p hp;have:=hlt r hk;lia
    rw[e1,e2];rw[e2] at hb;rcases dz.mp hk with hk|hk
    ·-- a maker
     rw[aT] at l1 l2;have hpl:(vs.take r.2.2.length).length=r.2.2.length:=by rw[jz];lia
     have est:vs=vs.take r.2.2.length++vs.drop r.2.2.length:=(qV ..).symm;generalize vs.take r.2.2.length=ps at hpl est;generalize vs.drop r.2.2.length=st2 at est;subst est;have hz:=Rd.sum W'.length (bq _) rd 0x1 ps st2 rfl;rw[eZ,aS] at pp;have q1:=Ok.app (o1.mono (h':=1+wgt L W+7*b) 0x1) (aDk hN hd B KL hk hpl hz pp.1 pp.2 0x1) nn0;have q2:=Ok.app (o2.mono (h':=1+wgt L W+7*b) 0x1) (aDk hN hd B kn0 hk hpl hz pp.1 pp.2 0x1) nn0;rw[aF4] at q1 q2;exact .inr ⟨r.1::W',_::st2,δ',.step hk hpl rd,nn,tb,by rw[bp];lia,q1,q2⟩
    ·-- a call
     obtain⟨t,htT,rfl⟩:=ck.mp hk;have rd':Rd N M ([t.2.2.1]++(t.2.2.2++rest)) W' vs:=rd;obtain⟨W0,W3,v0,st3,eW,eS,r1,r3⟩:=Rd.split W'.length (bq _) rd';obtain⟨W1,W2,more,st2,eW3,eS3,r2,rS⟩:=Rd.split W3.length (bq _) r3;subst eS eS3 eW eW3;have k1:=r1.len
     match v0,k1,r1 with
     |[v],_,r1=>
      obtain⟨r0,xs,W0',hr0,hk0,eW0,ev,rx⟩:=r1.one;subst eW0 ev;obtain⟨own,body,hru,hol,hon,hoi,hwl,hw26,hbr⟩:=B.ru t htT r0 hr0 hk0;obtain⟨Q,q1,q2,q3,q4⟩:=aAe (rx.app r2);have hQl:own.length=Q.length:=by
       have:=cy fT q1;rw[az,aT] at this;lia
      have eA1:(own.zip Q).map (·.1)=own:=by rw[Ck 0x1]
      have eA2:(own.zip Q).map (·.2)=Q:=by rw[Cm 0x1]
      have KA:QT N M (own.zip Q):=by
       refine⟨by rw[eA1];exact hon,λp hp=>hoi p.1 (by rw[<-eA1];exact eh (f:=(·.1)) hp),λp hp=>q3 p.2 (by rw[<-eA2];exact eh (f:=(·.2)) hp),?_⟩;have:=(B.mi r0 hr0).2;rw[lp];have:=(B.ti t htT).2.2;lia
      have hv:xs++more=(own.zip Q).map λp=>p.2.2.2:=by
       rw[<-q2]
       conv=>lhs;rw[<-eA2]
       rw[di];rfl
      have hml:more.length=t.2.2.2.length:=r2.len;have hpv:ε (xs++more)=ag:=(rx.app r2).pure;have hslA:=aF3 own Q hQl;rw[q4,aT] at hslA;have hkr:=aAf own Q;rw[q1] at hkr;rw[<-hkr] at hbr;obtain⟨u1,u2⟩:=zL body (own.zip Q) z0.call nn1;have hwg:=aAd (own.zip Q) body;have hcu:=aMq body (own.zip Q);have tc:tot z0.call=1:=rfl;have hLw:((r0.1::W0')++(W1++W2)).length=W0'.length+1+(W1.length+W2.length):=by rw[aT,aT,bp]
      rw[hLw] at lw;have k2:=rS.len;have k3:=G4 rS.run;have k5:=r2.len;have k6:=G4 r2.run;have hru':(t.1,r0.1,(own.zip Q).map (·.1),body)∈R:=by rw[eA1];exact hru
      -- what is left behind the call's own counts
      by_cases hov:(b:ai)-tot δ'<tot (cT body (own.zip Q) z0.call)
      ·refine .inl ⟨?_,?_⟩
       ·exact Ok.aIa (b':=b-tot δ') (ws1:=[t.1]) (o1.mono 0x1) ((uW hN hd B KL htT KA hru' hv hml hw26 0x1 hpv rS.pure (by rw[aT];lia) (h':=0) 0x1).2.2 _ hov) 0x1
       ·exact Ok.aIa (b':=b-tot δ') (ws1:=[t.1]) (o2.mono 0x1) ((uW hN hd B kn0 htT KA hru' hv hml hw26 0x1 hpv rS.pure (by rw[aT];lia) (h':=0) 0x1).2.2 _ hov) 0x1
      ·generalize hδ:cT body (own.zip Q) z0.call=δ0 at hov u1 u2;obtain⟨b2,eb2⟩:∃b2:ah,(b2:ai)=b-tot δ'-tot δ0:=⟨((b:ai)-tot δ'-tot δ0).toNat,by lia⟩
       have bnd:wgt (own.zip Q) body+7*b2+1+st2.length<=1+wgt L W+7*b:=by lia
       have hm1:(more++st2).length<=1+wgt L W+7*b:=by rw[aT];lia
       have c1:=uW hN hd B KL htT KA hru' hv hml hw26 0x1 hpv rS.pure (z:=.int (1+szs xs)) hm1 bnd;have c2:=uW hN hd B kn0 htT KA hru' hv hml hw26 0x1 hpv rS.pure (z:=.int (1+szs xs)) hm1 bnd;rw[hδ] at c1 c2;rcases IH b2 0x1 KA hbr 0x1 with ⟨s1,_⟩|⟨Wb,vb,δb,rb,nb,tb2,lb,ob,_⟩
       ·refine .inl ⟨?_,?_⟩
        ·exact Ok.aIa (b':=b-tot δ') (ws1:=[t.1]) (o1.mono 0x1) (c1.2.1 b2 s1 _ 0x1) 0x1
        ·exact Ok.aIa (b':=b-tot δ') (ws1:=[t.1]) (o2.mono 0x1) (c2.2.1 b2 s1 _ 0x1) 0x1
       ·have n2:NN (ad δ0 δb):=u1.ad nb;refine .inr ⟨Wb++W2,vb++st2,ad δ' (ad δ0 δb),rb.app rS,nn.ad n2,by rw[dN,dN];lia,by rw[aT,dN,dN];lia,?_,?_⟩
        ·exact Ok.app (ws1:=[t.1]) (o1.mono 0x1) (c1.1 δb vb nb ob) n2
        ·exact Ok.app (ws1:=[t.1]) (o2.mono 0x1) (c2.1 δb vb nb ob) n2
end
theorem aMs(l:ae D):oc [a,b,.lst l,x]=.ok (!l.isEmpty):=rfl
theorem aIf(h:Rd N M ks W vs):∀(pre:ae D)(fuel:ah)(x:D),W.length<fuel->pre.length+W.length<=9000->∃x',O4 oc ob fuel [y,.lst pre,.lst vs.reverse,x]=.ok (.nx [y,.lst (pre++W.map (sy N)),.lst [],x']):=by
 induction h with
 |nil=>
  intro pre fuel x hf _;obtain⟨n,rfl⟩:∃n,fuel=n+1:=⟨fuel-1,by simp at hf;lia⟩
  refine⟨x,?_⟩;rw[iN,b5];exact zE (aMs [])
 |@step r ks W ps vs hr hl h ih=>
  intro pre fuel x hf hp;rw[bp] at hf hp;obtain⟨n,rfl⟩:∃n,fuel=n+1:=⟨fuel-1,by lia⟩
  generalize hv:ν [sy N r.1,.tup ps,.int (1+szs ps)]=v;obtain⟨x',hx⟩:=ih (pre++[sy N r.1]) n v 0x1 (by rw[aT,dP];lia);have h1:=h.len;have h2:=G4 h.run;rw[aT] at h1;have hps:ε ps=ag:=by
   have:=h.pure;rw[eZ,aS] at this;exact this.1
  have hpr:ε ps.reverse=ag:=by
   refine qJ λp hp=>?_
   replace hp:=BS.mp hp;clear hx hv ih h1 h2 h hl;induction ps with
   |nil=>cases hp
   |cons q ps ih=>
    rw[ε,aS] at hps;rcases cj.mp hp with rfl|hp
    ·exact hps.1
    ·exact ih hps.2 hp
  refine⟨x',?_⟩;refine zA (ρ':=[y,.lst (pre++[sy N r.1]),.lst (vs.reverse++ps.reverse),v]) ((aMs _).trans 0x2) ?_ ?_
  ·subst hv;refine aL (aA2 (by rw[jn];rfl) rfl) ?_;refine aL (ρ':=[y,.lst (pre++[sy N r.1]),.lst vs.reverse,.tup [sy N r.1,.tup ps,.int (1+szs ps)]]) (oA (d:=sy N r.1) 0x12 rfl (by rw[aZ];lia) rfl) ?_;refine aEy (ys:=ps.reverse) (y_ (x:=.tup ps) 0x12 ?_) rfl (by rw[jo,jo];lia) hpr;show(if ε ps&&ϒ (ps.length<=lim) then τ (ψ ps.reverse) else .bad)=_;rw[aq (by rw[hps,mw];exact bt (by rw[aZ];lia))]
  ·rw[<-yw,hx,b3];rfl
theorem K4(h:Rd N M [k] W [v])(hw:W.length<=8900):iR [v]=.ok (.tup 0x1b):=by
 have hv:v.pure=ag:=by
  have:=h.pure;rw[ε,aS] at this;exact this.1
 obtain⟨x',hx⟩:=aIf (y:=v) h [] 9000 .uD 0x1 (by simp;lia);obtain⟨r,ps,W',_,_,_,ev,_⟩:=h.one;refine call_v (m:=4) (n:=1) (d:=.tup 0x1b) ?_;unfold v_;refine aL (ρ':=[v,.lst [],.uD,.uD]) rfl ?_;refine aL (ρ':=[v,.lst [],.lst [v],.uD]) (eG (i:=2) ?_ ?_) ?_
 ·subst ev;have e1:bPu nO [ν [sy N r.1,.tup ps,.int (1+szs ps)],.lst [],.uD,.uD]=.ok (ν [sy N r.1,.tup ps,.int (1+szs ps)]):=nT rfl hv;unfold jJ;rw[aC (xs:=[]) (b:=aY) e1 rfl,θ,aq (by rw[aZ];rfl)];rfl
 ·show(v.pure&&ag)=ag;rw[hv];rfl
 refine aL hx ?_;exact N_ (d:=.tup 0x1b) (bA 0x13 rfl) (by rw[ξ,bI];rfl)
theorem oE(h:a ρ=.ok xs)(hl:xs.length<=lim):jJ a ρ=.ok (.lst xs):=by
 unfold jJ;rw[h,θ,aq (bt hl)];rfl
noncomputable abbrev aQ4:Res D:=.err "Spent" [.exc "Spent" []]
def wD(N:ae Str)(W:ae ah)(c:Cn):D:=.tup [.tup 0x1b,.int c.c,.int c.p,.int c.d]
def wL(N:ae Str)(W:ae ah)(c:Cn):ae D:=[.tup 0x1b,.int c.c,.int c.p,.int c.d]
theorem aIg(N:ae Str)(W:ae ah)(c:Cn):(wD N W c).pure=ag:=by
 show((ν 0x1b).pure&&_)=ag;rw[ξ,bI];rfl
theorem aDl(N:ae Str)(ks:ae ah)(M:ae Rw)(T:ae Tk)(R:ae Ru): (dJ N ks M T R).pure=ag:=by
 show 0x22=ag;rw[ξ,ξ,ξ,ξ,bI,bO (d_ N),bO (rE N),bO (j4 N)];rfl
section
variable {N:ae Str} (hN:N.length=26) (hd:N.Nodup) {M:ae Rw} {T:ae Tk} {R:ae Ru} (B:Tab M T R) {m:ai} {h:ah} {ks W0:ae ah}
include hN hd B
theorem aMt(o:Ok N M T R h [] W0 [] [v] δ)(rd:Rd N M [k] W [v])(hW:W.length<=8900)(hh:h<=90000)(h0:0<=m):fY [dJ N ks M T R,.tup (W0.map (sy N)),.int m]=if tot δ<=m then .ok (wD N W δ) else aQ4:=by
 obtain⟨n,e⟩:=o [] [] [] [] m z0 rfl (by rw[ef];lia) (by rw[ef];lia) h0;have e2:=e 2;rw[eJ,b5,ef,lu,aR4,b5,b5,show tot z0+tot δ=tot δ from yA _] at e2;have hl:(W0.map (sy N)).length=W0.length:=az ..;by_cases hz:tot δ<=m
 ·rw[aq hz] at e2 ⊢;have:=J5 (r:=.ok ([v],δ)) (by rw[hl];exact e2) 0x7;exact aDi hN hd B.hF B.hM B.hR this (K4 rd hW) (by rw[ξ,bI])
 ·rw[aw hz] at e2 ⊢;have:=J5 (r:=spn) (by rw[hl];exact e2) 0x7;exact G3 hN hd B.hF B.hM B.hR this
theorem aMu(o:Spd N M T R h b [] W0 [])(hh:h<=90000)(h0:0<=m)(hb:m<=b):fY [dJ N ks M T R,.tup (W0.map (sy N)),.int m]=aQ4:=by
 obtain⟨n,e⟩:=o [] [] [] [] m z0 rfl (by rw[ef];lia) (by rw[ef];lia) h0 (by show m<=0+b;lia);have e2:=e 0;rw[eJ,b5,ef,lu,lu] at e2;have hl:(W0.map (sy N)).length=W0.length:=az ..;have:=J5 (r:=spn) (by rw[hl];exact e2) 0x7;exact G3 hN hd B.hF B.hM B.hR this
end
section
variable {N:ae Str} {ks W0 W:ae ah} {M:ae Rw} {T:ae Tk} {R:ae Ru} {m:ai} {c:Cn}
noncomputable abbrev ws7(p w:D)(m:ai)(x3 x4 x5:D):ae D:=[p,w,.int m,x3,x4,x5,.uD]
theorem aMv(hv:b8 0 (ws7 p w m .non .non .uD)=.ok p)(hw:b8 1 (ws7 p w m .non .non .uD)=.ok w)(h:fY [p,w,.int m]=x):asE (ws7 p w m .non .non .uD)=x:=by
 have e:aF nO (aF iT (aF gF aY)) (ws7 p w m .non .non .uD)=.ok [p,w,.int m]:=aC hv (aC hw 0x13);unfold asE bD;rw[aL8 e,θ];exact h
theorem aIh(h:0<=z):cb (ws7 p w m x3 x4 (.int z))=.ok (.nx (ws7 p w m x3 x4 (.int z))):=uB (aEs (aA4 (b:=ag) (K1 (y_ rfl rfl))) (aEs (K1 (y_ rfl rfl)) (cX (aJ rfl rfl ((GP z 0).trans (by rw[cx 0x1])))))) rfl
theorem aQ5(h:fY [dJ N ks M T R,.tup (W0.map (sy N)),.int m]=.ok (wD N W c))(hc:NN c):nZ 3 cC [dJ N ks M T R,.tup (W0.map (sy N)),.int m]=.ok (.lst (wL N W c)):=by
 refine(qR rfl).trans (call_v ?_);show iB (ws7 0xb 0x19 m .uD .uD .uD)=_;unfold iB;refine aL (bT rfl) ?_;refine aL (ρ':=ws7 0xb 0x19 m .non .non .uD) (bT (i:=4) rfl) ?_;refine aL (ρ':=ws7 0xb 0x19 m (wD N W c) .non .uD) ?_ ?_
 ·unfold ZL;rw[show cU ak 3 asE ag (ws7 0xb 0x19 m .non .non .uD)=.ok (.nx (ws7 0xb 0x19 m (wD N W c) .non .uD)) from bT (i:=3) (aMv rfl rfl h)]
 have hs:bR (oK e_ (fZ c7) gR) ag (ws7 0xb 0x19 m (wD N W c) .non .uD)=.ok ([.int c.c,.int c.p,.int c.d],ag):=by
  have e:aB0 (wD N W c) (aa 1) aj=.ok (.tup [.int c.c,.int c.p,.int c.d]):=by
   show(if !ε [.tup 0x1b,.int c.c,.int c.p,.int c.d]||ϒ (G9 4 0 (aa 1)=0/\G9 4 4 aj=4) then Res.bad else τ (ν (cutD [.tup 0x1b,.int c.c,.int c.p,.int c.d] (aa 1) aj)))=_;have hp:ε [.tup 0x1b,.int c.c,.int c.p,.int c.d]=ag:=aIg N W c;rw[hp];rfl
  have e2:oK e_ (fZ c7) gR (ws7 0xb 0x19 m (wD N W c) .non .uD)=.ok (.tup [.int c.c,.int c.p,.int c.d]):=by
   exact e
  exact(dB e2).trans (by rw[sR])
 refine aL (ρ':=ws7 0xb 0x19 m (wD N W c) .non .uD) (uB (cX 0x12) rfl) ?_;refine aL (ρ':=ws7 0xb 0x19 m (wD N W c) .non .uD) (uB (aEs (aA4 (b:=ag) (K1 (y_ rfl rfl))) (aEs (cX 0x12) (aA4 (b:=ag) (K1 (y_ 0x12 rfl))))) rfl) ?_;refine aL (ρ':=ws7 0xb 0x19 m (wD N W c) .non (.int c.d)) (n_ hs (cR (ρ1:=ws7 0xb 0x19 m (wD N W c) .non (.int c.c)) rfl (aIh hc.c) (cR (ρ1:=ws7 0xb 0x19 m (wD N W c) .non (.int c.p)) rfl (aIh hc.p) (cR (ρ1:=ws7 0xb 0x19 m (wD N W c) .non (.int c.d)) rfl (aIh hc.d) rfl)))) ?_;refine N_ ?_ rfl;have px:(ν 0x1b).pure=ag:=by rw[ξ,bI]
 exact oE (aC (x:=.tup 0x1b) (xs:=[.int c.c,.int c.p,.int c.d]) (nT (aJ (x:=wD N W c) rfl rfl rfl) px) (aC (nT (aJ (x:=wD N W c) rfl rfl rfl) rfl) (aC (nT (aJ (x:=wD N W c) rfl rfl rfl) rfl) (aC (nT (aJ (x:=wD N W c) rfl rfl rfl) rfl) rfl)))) (by rw[aZ];show 4<=1000000;decide)
theorem aQ6(h:fY [dJ N ks M T R,.tup (W0.map (sy N)),.int m]=aQ4):nZ 3 cC [dJ N ks M T R,.tup (W0.map (sy N)),.int m]=.ok (.lst [.int 0]):=by
 refine(qR rfl).trans (call_v ?_);show iB (ws7 0xb 0x19 m .uD .uD .uD)=_;unfold iB;refine aL (bT rfl) ?_;refine aL (ρ':=ws7 0xb 0x19 m .non .non .uD) (bT (i:=4) rfl) ?_;refine aL (ρ':=ws7 0xb 0x19 m .non (.exc "Spent" []) .uD) ?_ ?_
 ·unfold ZL;have e:cU ak 3 asE ag (ws7 0xb 0x19 m .non .non .uD)=.err "Spent" [.exc "Spent" []]:=by
   unfold cU;rw[aMv rfl rfl h];rfl
  rw[e];rfl
 exact rW (xR (cX 0x12) (N_ (d:=.lst [.int 0]) rfl rfl))
end
theorem K5(a b:ae D)(h:a.length+b.length<=1000):xU (.tup a) (.tup b)=.ok (.tup (a++b)):=by
 show(if ϒ (a.length+b.length<=lim) then τ (ν (a++b)) else .bad)=_;rw[aq (bt (by rw[aZ];lia))]
theorem uX(h:b8 i ρ=.ok (tkD N t)):b2 getD (b8 i) fD ρ=.ok (sy N t.1)/\b2 getD (b8 i) c7 ρ=.ok (sy N t.2.1)/\b2 getD (b8 i) iU ρ=.ok (sy N t.2.2.1)/\b2 getD (b8 i) jH ρ=.ok (.tup (t.2.2.2.map (sy N))):=⟨aJ h rfl rfl,aJ h rfl rfl,aJ h rfl rfl,aJ h rfl rfl⟩
noncomputable def aIi(q n:ah):ae ah:=(bj n).map λj=>13+(q+j*(1+q % 4)) % 5
theorem aDm(q:ah)(hj:j<5)(hk:k<5)(h:(q+j*(1+q % 4)) % 5=(q+k*(1+q % 4)) % 5):j=k:=by
 have:q % 4=0\/q % 4=1\/q % 4=2\/q % 4=3:=by lia
 rcases this with e|e|e|e<;>rw[e] at h<;>lia
theorem aIj(q n:ah)(h:n<=5):(aIi q n).Nodup:=by
 unfold aIi;refine yB.mpr (Cb ?_ (Cg (n:=n)));intro a b ha hb hne z;rw[hX] at ha hb;exact hne (aDm q 0x1 0x1 0x1)
theorem aIk(q n:ah):∀i∈aIi q n,13<=i/\i<18:=λi hi=>by
 unfold aIi at hi;obtain⟨j,_,rfl⟩:=ck.mp hi;lia
def aQ7(M:ae Rw)(T:ae Tk)(t:Tk)(r:Rw)(u:Ru):Prop:=∃own ws,u=(t.1,r.1,own,ws)/\own.length=r.2.2.length+t.2.2.2.length/\own.Nodup/\(∀i∈own,13<=i/\i<26)/\ws.length<=6/\(∀j∈ws,j<26)/\Run ((own.zip (r.2.2++t.2.2.2)).map (λp=>(p.1,p.2,[]))++ 0x11) [t.2.1] ws
theorem aAi(h:Run H ks w):∀x∈w,∃r∈H,r.1=x:=by
 induction h with
 |nil=>intro x hx;cases hx
 |step hr _ ih=>
  intro x hx;rcases cj.mp hx with rfl|hx
  ·exact⟨_,hr,rfl⟩
  ·exact ih x hx
abbrev rst(cs:ae ai)(N:ae Str)(M:ae Rw)(T:ae Tk)(m:ah)(l:ah->ah)(z n:ah)(R:ae Ru)(a b c d e f g:D):ae D:=[.cel z (dk cs n),.lst (M.map (rwD N)),.lst 0x17,.lst 0x10,.dct (lsD N m l),.lst ((M++T.map tr).map (rwD N)),.lst (R.map (ruD N)),a,b,c,d,e,f,g]
theorem aMw{K:ae Rw}{V:ae ah}(v4:ch1 dH (dk cs n) [.lst ((K++ 0x11).map (rwD N)),sy N t.2.1,.int 6,.dct (lsD N m l)]=.ok (.lst (V.map (sy N)),dk cs n'))(hl:K.length+ (M++T.map tr).length<=1000):ru4 (rst cs N M T m l z n R (tkD N t) b c d e (.lst (K.map (rwD N))) g)=.ok (.nx (rst cs N M T m l z n' R (tkD N t) b c d e (.lst (K.map (rwD N))) 0x21)):=by
 have ha:aF (b2 (bG .add) j8 jA) (aF (bPu (b2 getD nY c7)) (aF (bPu MP) (aF iI aY))) (rst cs N M T m l z n R (tkD N t) b c d e (.lst (K.map (rwD N))) g)=.ok [.lst ((K++ 0x11).map (rwD N)),sy N t.2.1,.int 6,.dct (lsD N m l)]:=by
  refine aC (aJ (x:=.lst (K.map (rwD N))) (y:=.lst ((M++T.map tr).map (rwD N))) rfl rfl ?_) (aC (nT (uX (i:=7) (t:=t) rfl).2.1 rfl) (aC (nT rfl rfl) 0x13));rw[cu (l₁:=K)];exact uF _ _ (by rw[az,az,aZ];lia) (bO (d_ N) _) (bO (d_ N) _)
 exact gK (i:=13) (ρ:=rst cs N M T m l z n R (tkD N t) b c d e (.lst (K.map (rwD N))) g) (iZ (ρ:=rst cs N M T m l z n R (tkD N t) b c d e (.lst (K.map (rwD N))) g) (i:=0) (h:=dk cs n) (h':=dk cs n') (r:=.lst (V.map (sy N))) ha rfl rfl v4 (jR cs n') rfl) rfl
theorem aMx{c d f:D}{own V:ae ah}(hR:R.length<=100):ru5 (rst cs N M T m l z n R (tkD N t) (rwD N r) c d (.lst (own.map (sy N))) f 0x21)=.ok (.nx (rst cs N M T m l z n (R++[(t.1,r.1,own,V)]) (tkD N t) (rwD N r) c d (.lst (own.map (sy N))) f 0x21)):=by
 have hT:jB (aF (b2 getD nY fD) (aF (b2 getD oV fD) (aF (bD fU (aF jW aY)) (aF (bD fU (aF tU aY)) aY)))) (rst cs N M T m l z n R (tkD N t) (rwD N r) c d (.lst (own.map (sy N))) f 0x21)=.ok (ruD N (t.1,r.1,own,V)):=
  eF (aC (uX (i:=7) (t:=t) rfl).1 (aC (m9 (i:=8) (r:=r) rfl).1 (aC (bA (xs:=[.lst (own.map (sy N))]) 0x13 rfl) (aC (bA (xs:=[.lst (V.map (sy N))]) 0x13 rfl) rfl)))) (by rw[aZ];show 4<=1000000;decide)
 refine(oA (i:=6) (ρ:=rst cs N M T m l z n R (tkD N t) (rwD N r) c d (.lst (own.map (sy N))) f 0x21) (xs:=R.map (ruD N)) (d:=ruD N (t.1,r.1,own,V)) hT rfl (by rw[az,aZ];lia) (j4 ..)).trans ?_;unfold rst;rw[cu (l₁:=R)];rfl
section
variable {cs:ae ai} {N:ae Str} (hN:N.length=26) (hd:N.Nodup) {m:ah} {M:ae Rw} {T:ae Tk} {l:ah->ah} (G:Sig m M T l)
omit hN hd in
theorem rH(G:Sig m M T l)(K:ae Rw)(hK:∀r∈K,Gr m r)(hl:K.length<=10):aNz m (K++ 0x11) l:=by
 refine⟨G.m3,G.lb,?_,λr hr=>?_,λk hk=>?_⟩
 ·have:=G.ml;have:=G.tl;rw[aT,aT,az];lia
 ·rcases dz.mp hr with hr|hr
  ·exact hK r hr
  ·rcases dz.mp hr with hr|hr
   ·exact G.mg r hr
   ·obtain⟨t,ht,rfl⟩:=ck.mp hr;obtain⟨g1,g2,g3,g4⟩:=G.tg t ht;refine⟨g1,λi hi=>?_,by show t.2.2.2.length+1<=3;lia⟩;rcases cj.mp hi with rfl|hi
    ·exact g2
    ·exact g3 i hi
 ·obtain⟨r,hr,_,h2,h3⟩:=G.ba k hk;exact⟨r,eM _ (ir _ hr),h2,h3⟩
include hN hd G
theorem aDn(ht:t∈T)(hr:r∈M)(hn:n<=2500)(hR:R.length<=100)(c d e f g:D):∃(R':ae Ru)(n':ah)(c' d' e' f' g':D),R'.map (λu=>(u.1,u.2.1))=(if r.2.1=t.2.2.1 then [(t.1,r.1)] else [])/\(r.2.1=t.2.2.1->∃u∈R',aQ7 M T t r u)/\n'<=n+6/\∀z,rub (rst cs N M T m l z n R (tkD N t) (rwD N r) c d e f g)=.ok (.nx (rst cs N M T m l z n' (R++R') (tkD N t) (rwD N r) c' d' e' f' g')):=by
 obtain⟨gr1,gr2,gr3⟩:=G.mg r hr;obtain⟨gt1,gt2,gt3,gt4⟩:=G.tg t ht;have m3:=G.m3;have hc:∀z,bTB (b2 (lG .eq) (b2 getD oV c7) (b2 getD nY iU)) (rst cs N M T m l z n R (tkD N t) (rwD N r) c d e f g)=.ok (ϒ (r.2.1=t.2.2.1)):=λz=>cX (aJ (m9 (i:=8) (r:=r) rfl).2.1 (uX (i:=7) (t:=t) rfl).2.2.1 (aA3 hN hd 0x1 0x1))
 by_cases hk:r.2.1=t.2.2.1
 ·rw[aq hk];rw[bt hk] at hc
  -- kinds of the names
  generalize hbh:r.2.2++t.2.2.2=bh;have hbl:bh.length=r.2.2.length+t.2.2.2.length:=by rw[<-hbh,aT]
  have hbm:∀i∈bh,i<m:=λi hi=>by
   rw[<-hbh] at hi;rcases dz.mp hi with hi|hi
   ·exact gr2 i hi
   ·exact gt3 i hi
  generalize hown:aIi R.length bh.length=own;have hol:own.length=bh.length:=by rw[<-hown];unfold aIi;rw[az,eT]
  have ond:own.Nodup:=by rw[<-hown];exact aIj _ _ 0x1
  have olt:∀i∈own,13<=i/\i<18:=by rw[<-hown];exact aIk _ _
  generalize hkn:(own.zip bh).map (λp=>((p.1,p.2,[]):Rw))=K;have hKl:K.length=bh.length:=by rw[<-hkn,az,lp,hol,Co]
  have hKg:∀q∈K,Gr m q:=λq hq=>by
   rw[<-hkn] at hq;obtain⟨p,hp,rfl⟩:=ck.mp hq;exact⟨hbm p.2 (oj hp).2,λi hi=>(by cases hi),by show 0<=3;decide⟩
  have PL:=rH G K hKg 0x1;obtain⟨V,n',v1,v2,v3,v4⟩:=zF hN hd cs (n:=n) PL (k:=t.2.1) (most:=6) gt1 0x4 0x1;have hV26:∀x∈V,x<26:=λx hx=>by
   obtain⟨q,hq,rfl⟩:=aAi v1 x hx;rcases dz.mp hq with hq|hq
   ·rw[<-hkn] at hq;obtain⟨p,hp,rfl⟩:=ck.mp hq;have:=olt p.1 (oj hp).1;show p.1<26;lia
   ·rcases dz.mp hq with hq|hq
    ·have:=G.mi q hq;lia
    ·obtain⟨t',ht',rfl⟩:=ck.mp hq;have:=G.ti t' ht';show t'.1<26;lia
  refine⟨[(t.1,r.1,own,V)],n',.tup (bh.map (sy N)),.int (1+(R.length:ai) % 4),.lst (own.map (sy N)),.lst (K.map (rwD N)),.lst (V.map (sy N)),rfl,λ_=>⟨_,mj.mpr rfl,own,V,rfl,by lia,ond,λi hi=>by have:=olt i hi;lia,by lia,hV26,by rw[hbh,hkn];exact v1⟩,by lia,λz=>xR (hc z) ?_⟩;have t0:ru0 (rst cs N M T m l z n R (tkD N t) (rwD N r) c d e f g)=.ok (.nx (rst cs N M T m l z n R (tkD N t) (rwD N r) (.tup (bh.map (sy N))) d e f g)):=by
   refine gH (i:=9) (aJ (m9 (i:=8) (r:=r) rfl).2.2 (uX (i:=7) (t:=t) rfl).2.2.2 ((K5 _ _ (by rw[az,az];lia)).trans ?_)) (by rw[ξ,bI]);rw[<-cu,hbh]
  have hlen:∀z c d e f g,bD mG (aF nQ aY) (rst cs N M T m l z n R (tkD N t) (rwD N r) c d e f g)=.ok (.int (R.length:ai)):=λz c d e f g=>bA 0x13 (by show τ (ι ((R.map (ruD N)).length:ai))=_;rw[az])
  have t1:ru1 (rst cs N M T m l z n R (tkD N t) (rwD N r) (.tup (bh.map (sy N))) d e f g)=.ok (.nx (rst cs N M T m l z n R (tkD N t) (rwD N r) (.tup (bh.map (sy N))) (.int (1+(R.length:ai) % 4)) e f g)):=bT (i:=10) (aJ (x:=.int 1) rfl (aJ (hlen ..) rfl (cA _ _ 0x4)) (cV _ _));have hbt:∀e f g,nR (aF (bD mG (aF j5 aY)) aY) j9 (rst cs N M T m l z n R (tkD N t) (rwD N r) (.tup (bh.map (sy N))) (.int (1+(R.length:ai) % 4)) e f g)=.ok ((bj bh.length).map λ(k:ah)=>ι (0+(k:ai)),ag):=λe f g=>by
   have:=rR (ρ:=rst cs N M T m l z n R (tkD N t) (rwD N r) (.tup (bh.map (sy N))) (.int (1+(R.length:ai) % 4)) e f g) (f:=aF (bD mG (aF j5 aY)) aY) (n:=(bh.length:ai)) (aC (bA 0x13 (by show τ (ι ((bh.map (sy N)).length:ai))=_;rw[az])) rfl) 0x1 0x1;rw[ik] at this;exact this
  have t2:ru2 (rst cs N M T m l z n R (tkD N t) (rwD N r) (.tup (bh.map (sy N))) (.int (1+(R.length:ai) % 4)) e f g)=.ok (.nx (rst cs N M T m l z n R (tkD N t) (rwD N r) (.tup (bh.map (sy N))) (.int (1+(R.length:ai) % 4)) (.lst (own.map (sy N))) f g)):=by
   have eo:(own.map (sy N))=(bj bh.length).map λj=>sy N (13+(R.length+j*(1+R.length % 4)) % 5):=by rw[<-hown];unfold aIi;rw[di];rfl
   rw[eo];refine bT (i:=11) (fH (n:=14) (λ(k:ah)=>ι (0+(k:ai))) (λj=>sy N (13+(R.length+j*(1+R.length % 4)) % 5)) (bj bh.length) rfl (hbt ..) (by rw[eT];lia) λj hj=>?_);rw[hX] at hj;refine⟨aJ rfl (aJ (x:=.int 13) rfl (aJ (aJ (bA 0x13 (by show τ (ι ((R.map (ruD N)).length:ai))=_;rw[az])) (aJ rfl rfl (lZ _ _ (uT _ 0x1 0x1))) (cV _ _)) rfl (cA _ _ 0x4)) (cV _ _)) (iH (i:=13+(R.length+j*(1+R.length % 4)) % 5) ?_ 0x1),rfl⟩;have e1:(0+(j:ai))*(1+(R.length:ai) % 4)=((j*(1+R.length % 4):ah):ai):=by
    rw[yA,t9];rfl
   rw[e1];lia
  have t3:ru3 (rst cs N M T m l z n R (tkD N t) (rwD N r) (.tup (bh.map (sy N))) (.int (1+(R.length:ai) % 4)) (.lst (own.map (sy N))) f g)=.ok (.nx (rst cs N M T m l z n R (tkD N t) (rwD N r) (.tup (bh.map (sy N))) (.int (1+(R.length:ai) % 4)) (.lst (own.map (sy N))) (.lst (K.map (rwD N))) g)):=by
   have eK:K.map (rwD N)=(bj bh.length).map λj=>ν [sy N (own.getD j 0),sy N (bh.getD j 0),.tup []]:=by
    rw[<-hkn,di];refine xo (by rw[az,lp,hol,az,eT,Co]) λi h1 h2=>?_
    rw[az,eT] at h2;rw[vc,vc,Cd,List.getElem_zip,b9,dj 0x1,b9,dj 0x1];rfl
   rw[eK];refine bT (i:=12) (fH (n:=14) (λ(k:ah)=>ι (0+(k:ai))) (λj=>ν [sy N (own.getD j 0),sy N (bh.getD j 0),.tup []]) (bj bh.length) rfl (hbt ..) (by rw[eT];lia) λj hj=>?_);rw[hX] at hj;refine⟨eF (aC (aJ rfl rfl (fP (f:=sy N) (l:=own) (i:=j) 0x1 (by rw[dj 0x1,b9,dj 0x1];rfl))) (aC (aJ rfl rfl (yX (f:=sy N) (l:=bh) (i:=j) 0x1 (by rw[dj 0x1,b9,dj 0x1];rfl))) 0x13)) (by rw[aZ];show 3<=1000000;decide),rfl⟩
  have hk2: (M++T.map tr).length<=100:=by have:=G.ml;have:=G.tl;rw[aT,az];lia
  have t4:=aMw (cs:=cs) (N:=N) (M:=M) (T:=T) (m:=m) (l:=l) (z:=z) (n:=n) (n':=n') (R:=R) (t:=t) (b:=rwD N r) (c:=.tup (bh.map (sy N))) (d:=.int (1+(R.length:ai) % 4)) (e:=.lst (own.map (sy N))) (g:=g) (K:=K) (V:=V) v4 0x1;have t5:=aMx (cs:=cs) (N:=N) (M:=M) (T:=T) (m:=m) (l:=l) (z:=z) (n:=n') (R:=R) (t:=t) (r:=r) (c:=.tup (bh.map (sy N))) (d:=.int (1+(R.length:ai) % 4)) (f:=.lst (K.map (rwD N))) (own:=own) (V:=V) hR;exact aL t0 (aL t1 (aL t2 (aL t3 (aL t4 t5))))
 ·rw[aw hk];rw[cx hk] at hc;exact⟨[],n,c,d,e,f,g,rfl,λz=>bd z hk,by lia,λz=>uB (hc z) (by rw[b5];rfl)⟩
end
noncomputable abbrev ky(u:Ru):ah×ah:=(u.1,u.2.1)
noncomputable def sI(M:ae Rw)(t:Tk)(L:ae Rw):ae (ah×ah):=(L.filter λr=>ϒ (r.2.1=t.2.2.1)).map λr=>(t.1,r.1)
section
variable {cs:ae ai} {N:ae Str} (hN:N.length=26) (hd:N.Nodup) {m:ah} {M:ae Rw} {T:ae Tk} {l:ah->ah} (G:Sig m M T l)
include hN hd G
theorem aAj(ht:t∈T):∀(L:ae Rw),(∀r∈L,r∈M)->∀(R:ae Ru)(n:ah)(b c d e f g:D),n+6*L.length<=2500->R.length+L.length<=100->∃(R':ae Ru)(n':ah)(b' c' d' e' f' g':D),R'.map ky=sI M t L/\(∀r∈L,r.2.1=t.2.2.1->∃u∈R',aQ7 M T t r u)/\n'<=n+6*L.length/\∀z,oW (tg1 8) rub (L.map (rwD N)) (rst cs N M T m l z n R (tkD N t) b c d e f g)=.ok (.nx (rst cs N M T m l z n' (R++R') (tkD N t) b' c' d' e' f' g'))
 |[],_,R,n,b,c,d,e,f,g,_,_=>⟨[],n,b,c,d,e,f,g,rfl,λr hr=>(by cases hr),by lia,λz=>by rw[b5];rfl⟩
 |r::L,hL,R,n,b,c,d,e,f,g,hn,hR=>by
  rw[bp] at hn hR;obtain⟨R1,n1,c1,d1,e1,f1,g1,k1,k2,k3,k4⟩:=aDn hN hd G ht (hL r 0x2) (R:=R) (n:=n) 0x1 0x1 c d e f g;have l1:R1.length<=1:=by
   have:=cy fT k1;rw[az] at this;rw[this];split<;>simp
  obtain⟨R2,n2,b2,c2,d2,e2,f2,g2,q1,q2,q3,q4⟩:=aAj ht L (λx hx=>hL x (by simp[hx])) (R++R1) n1 (rwD N r) c1 d1 e1 f1 g1 0x1 (by rw[aT];lia);refine⟨R1++R2,n2,b2,c2,d2,e2,f2,g2,?_,λx hx hk=>?_,by rw[bp];lia,λz=>?_⟩
  ·rw[cu,q1];have k1':R1.map ky=if r.2.1=t.2.2.1 then [(t.1,r.1)] else []:=k1
   rw[k1'];unfold sI;rw[zd];by_cases h:r.2.1=t.2.2.1
   ·rw[aq h,aq (bt h)];rfl
   ·rw[aw h,aw (by rw[cx h];simp)];rfl
  ·rcases cj.mp hx with rfl|hx
   ·obtain⟨u,hu,o⟩:=k2 hk;exact⟨u,ir _ hu,o⟩
   ·obtain⟨u,hu,o⟩:=q2 x hx hk;exact⟨u,eM _ hu,o⟩
  ·rw[aI];refine cR (ρ1:=rst cs N M T m l z n R (tkD N t) (rwD N r) c d e f g) rfl (k4 z) ((q4 z).trans ?_);rw[b3]
theorem QV:∀(TL:ae Tk),(∀t∈TL,t∈T)->∀(R:ae Ru)(n:ah)(a b c d e f g:D),n+36*TL.length<=2500->R.length+6*TL.length<=100->∃(R':ae Ru)(n':ah)(a' b' c' d' e' f' g':D),R'.map ky=(TL.map λt=>sI M t M).flatten/\(∀t∈TL,∀r∈M,r.2.1=t.2.2.1->∃u∈R',aQ7 M T t r u)/\n'<=n+36*TL.length/\∀z,oW (tg1 7) (I_ 1 (tg1 8) rub) (TL.map (tkD N)) (rst cs N M T m l z n R a b c d e f g)=.ok (.nx (rst cs N M T m l z n' (R++R') a' b' c' d' e' f' g'))
 |[],_,R,n,a,b,c,d,e,f,g,_,_=>⟨[],n,a,b,c,d,e,f,g,rfl,λt ht=>(by cases ht),by lia,λz=>by rw[b5];rfl⟩
 |t::TL,hT,R,n,a,b,c,d,e,f,g,hn,hR=>by
  rw[bp] at hn hR;have hml:=G.ml;obtain⟨R1,n1,b1,c1,d1,e1,f1,g1,k1,k2,k3,k4⟩:=aAj hN hd G (hT t 0x2) M (λr hr=>hr) R n b c d e f g 0x1 0x1;have l1:R1.length<=6:=by
   have:=cy fT k1;unfold sI at this;rw[az,az] at this;have:=Cp (λr:Rw=>ϒ (r.2.1=t.2.2.1)) M;lia
  obtain⟨R2,n2,a2,b2,c2,d2,e2,f2,g2,q1,q2,q3,q4⟩:=QV TL (λx hx=>hT x (by simp[hx])) (R++R1) n1 (tkD N t) b1 c1 d1 e1 f1 g1 0x1 (by rw[aT];lia);refine⟨R1++R2,n2,a2,b2,c2,d2,e2,f2,g2,?_,λx hx r hr hk=>?_,by rw[bp];lia,λz=>?_⟩
  ·rw[cu,q1,k1,aI,hU]
  ·rcases cj.mp hx with rfl|hx
   ·obtain⟨u,hu,o⟩:=k2 r hr hk;exact⟨u,ir _ hu,o⟩
   ·obtain⟨u,hu,o⟩:=q2 x hx r hr hk;exact⟨u,eM _ hu,o⟩
  ·rw[aI];refine cR rfl (JS rfl rfl (k4 z)) ((q4 z).trans ?_);rw[b3]
omit hN hd in
theorem aAk:∀TL:ae Tk,(TL.map (·.1)).Nodup->((TL.map λt=>sI M t M).flatten).Nodup/\∀p∈(TL.map λt=>sI M t M).flatten,p.1∈TL.map (·.1)/\p.2∈M.map (·.1)
 |[],_=>⟨gp,λp hp=>by cases hp⟩
 |t::TL,h=>by
  rw[aI,fz] at h;obtain⟨i1,i2⟩:=aAk TL h.2;have hmem:∀p∈sI M t M,p.1=t.1/\p.2∈M.map (·.1):=λp hp=>by
   unfold sI at hp;obtain⟨r,hr,rfl⟩:=ck.mp hp;exact⟨rfl,eh (nX.mp hr).1⟩
  rw[aI,hU];refine⟨i6.mpr ⟨?_,i1,λa ha b hb z=>?_⟩,λp hp=>?_⟩
  ·unfold sI;have hs:((M.filter λr=>ϒ (r.2.1=t.2.2.1)).map (·.1)).Nodup:=G.mn.sublist ((List.filter_sublist).map _);have e:(M.filter λr=>ϒ (r.2.1=t.2.2.1)).map (λr=>(t.1,r.1))=((M.filter λr=>ϒ (r.2.1=t.2.2.1)).map (·.1)).map λx=>(t.1,x):=by rw[di];rfl
   rw[e];exact yB.mpr (hs.imp λh z=>h (by cases z;rfl))
  ·subst z;have:=(hmem a ha).1;exact h.1 (this▸(i2 a hb).1)
  ·rcases dz.mp hp with hp|hp
   ·have:=hmem p hp;exact⟨by rw[this.1,aI];exact de ..,this.2⟩
   ·have:=i2 p hp;exact⟨by rw[aI];exact c8 _ this.1,this.2⟩
theorem QW(hρ:ρ.length=n)(hi:b8 i ρ=.ok (.lst (M.map (rwD N))))(hj:b8 j ρ=.ok (.lst 0x17))(hn:∀t:Tk,b8 n (ρ++[tkD N t])=.ok (tkD N t)):b2 (bG .add) (b8 i) (d8 n (bR (b8 j) ak) oG gG (jB (aF (b2 getD (b8 n) fD) (aF (b2 getD (b8 n) c7) (aF (b2 xU (jB (aF (b2 getD (b8 n) iU) aY)) (b2 getD (b8 n) jH)) aY)))) ak) ρ=.ok (.lst ((M++T.map tr).map (rwD N))):=by
 have hc:d8 n (bR (b8 j) ak) oG gG (jB (aF (b2 getD (b8 n) fD) (aF (b2 getD (b8 n) c7) (aF (b2 xU (jB (aF (b2 getD (b8 n) iU) aY)) (b2 getD (b8 n) jH)) aY)))) ak ρ=.ok (.lst (T.map λt=>rwD N (tr t))):=by
  refine fH (tkD N) (λt=>rwD N (tr t)) T hρ (lF hj) (by have:=G.tl;lia) λt ht=>⟨?_,d_ ..⟩
  obtain⟨g1,g2,g3,g4⟩:=uX (hn t);have h2:=(G.tg t ht).2.2.2;exact eF (aC g1 (aC g2 (aC (aJ (eF (aC g3 rfl) (by rw[aZ];show 1<=1000000;decide)) g4 (K5 _ _ (by rw[az];show 1+_<=_;lia))) rfl))) (by rw[aZ];show 3<=1000000;decide)
 have e:(T.map λt=>rwD N (tr t))=(T.map tr).map (rwD N):=by rw[di];rfl
 rw[e] at hc;rw[cu];exact aJ hi hc (uF _ _ (by rw[az,az,az,aZ];have:=G.ml;have:=G.tl;lia) (bO (d_ N) _) (bO (d_ N) _))
omit hN hd in
theorem aIl:Hds 0x11 /\Hds M:=by
 have hmi:=G.mi;have hti:=G.ti;have m3:=G.m3;have hM:Hds M:=⟨G.mn,λr hr=>by
  obtain⟨a,b,c⟩:=G.mg r hr;have:=hmi r hr;exact⟨by lia,by lia,λi hi=>by have:=b i hi;lia,by lia⟩,by have:=G.ml;lia⟩
 refine⟨⟨?_,λr hr=>?_,by have:=G.ml;have:=G.tl;rw[aT,az];lia⟩,hM⟩
 ·rw[cu,di];refine i6.mpr ⟨G.mn,G.tn,λa ha b hb z=>?_⟩;obtain⟨r,hr,rfl⟩:=ck.mp ha;obtain⟨t,ht,rfl⟩:=ck.mp hb;have h1:=hmi r hr;have h2:=hti t ht;have:r.1=t.1:=z;lia
 ·rcases dz.mp hr with hr|hr
  ·exact hM.lt r hr
  ·obtain⟨t,ht,rfl⟩:=ck.mp hr;obtain⟨a,b,c,d⟩:=G.tg t ht;have h2:=hti t ht;refine⟨by show t.1<26;lia,by show t.2.1<26;lia,λi hi=>?_,by show t.2.2.2.length+1<=10;lia⟩;rcases cj.mp hi with rfl|hi
   ·lia
   ·have:=c i hi;lia
theorem aDo(hn:n<=2000):∃(R:ae Ru)(n':ah),Tab M T R/\n'<=n+108/\ch1 jP (dk cs n) [.lst (M.map (rwD N)),.lst 0x17,.lst 0x10,.dct (lsD N m l)]=.ok (.lst (R.map (ruD N)),dk cs n'):=by
 have htl:=G.tl;obtain⟨R,n',a,b,c,d,e,f,g,k1,k2,k3,k4⟩:=QV hN hd G T (λt ht=>ht) [] n .uD .uD .uD .uD .uD .uD .uD 0x1 (by simp;lia);obtain⟨hF,hM⟩:=aIl G;obtain⟨y1,y2⟩:=aAk G T G.tn;rw[<-k1] at y1 y2;have hR:Rls R:=by
  refine⟨y1,λu hu=>?_,?_⟩
  ·obtain⟨z1,z2⟩:=y2 (ky u) (eh hu);obtain⟨t,ht,e1⟩:=ck.mp z1;obtain⟨r,hr,e2⟩:=ck.mp z2;have h1:=G.ti t ht;have h2:=G.mi r hr;have e1:t.1=u.1:=e1;have e2:r.1=u.2.1:=e2;lia
  ·have hl:∀TL:ae Tk,((TL.map λt=>sI M t M).flatten).length<=6*TL.length:=by
    intro TL;induction TL with
    |nil=>exact bq _
    |cons t TL ih=>
     rw[aI,hU,aT,bp];have:(sI M t M).length<=6:=by
      unfold sI;rw[az];have:=Cp (λr:Rw=>ϒ (r.2.1=t.2.2.1)) M;have:=G.ml;lia
     lia
   have:=cy fT k1;rw[az] at this;have:=hl T;lia
 have hrt:∀u∈R,10<=u.1:=λu hu=>by
  obtain⟨z1,_⟩:=y2 (ky u) (eh hu);obtain⟨t,ht,e1⟩:=ck.mp z1;have h1:=G.ti t ht;have e1:t.1=u.1:=e1;lia
 refine⟨R,n',⟨hrt,hF,hM,hR,λr hr=>⟨(G.mi r hr).2,(G.mg r hr).2.2⟩,λt ht=>⟨(G.ti t ht).1,(G.ti t ht).2,(G.tg t ht).2.2.2⟩,λt ht r hr hk=>?_⟩,by lia,CP λz=>wB (ρ:=rst cs N M T m l z n' R a b c d e f g) ?_⟩
 ·obtain⟨u,hu,own,ws,rfl,o1,o2,o3,o4,o5,o6⟩:=k2 t ht r hr hk;exact⟨own,ws,hu,o1,o2,o3,o4,o5,o6⟩
 ·show mZ [.cel z (dk cs n),.lst (M.map (rwD N)),.lst 0x17,.lst 0x10,.dct (lsD N m l),.uD,.uD,.uD,.uD,.uD,.uD,.uD,.uD,.uD]=_;unfold mZ;refine aL (ρ':=[.cel z (dk cs n),.lst (M.map (rwD N)),.lst 0x17,.lst 0x10,.dct (lsD N m l),.lst ((M++T.map tr).map (rwD N)),.uD,.uD,.uD,.uD,.uD,.uD,.uD,.uD]) (bT (i:=5) (QW hN hd G (n:=14) rfl rfl rfl λt=>rfl)) ?_;refine aL (ρ':=rst cs N M T m l z n [] .uD .uD .uD .uD .uD .uD .uD) (eG (i:=6) rfl rfl) ?_;refine aL (JS (d:=.lst 0x17) (xs:=T.map (tkD N)) rfl rfl (k4 z)) ?_;rw[eJ];exact yS rfl rfl
end
def tD(N:ae Str)(p:ae ah):D:=.tup (p.map (sy N))
theorem gM(N:ae Str)(p:ae ah):(tD N p).pure=ag:=by
 unfold tD;rw[ξ,bI]
theorem qL(N:ae Str)(F:ae (ae ah)):ε (F.map (tD N))=ag:=bO (gM N) F
def mnD(N:ae Str)(F:ae Rw):ae (D×D):=F.map λr=>(sy N r.1,.int (r.2.2.length:ai))
theorem QX(a b:ae D)(h:a.length+b.length<=100000):xU (.tup a) (.tup b)=.ok (.tup (a++b)):=by
 show(if ϒ (a.length+b.length<=lim) then τ (ν (a++b)) else .bad)=_;rw[aq (bt (by rw[aZ];lia))]
abbrev bs(w hs:D)(N:ae Str)(H:ae Rw)(r:D)(F:ae (ae ah))(l:ai)(x:D):ae D:=[w,hs,.dct (mnD N H),r,.lst (F.map (tD N)),.int l,x]
theorem aIm(a b:ai):lG .eq (.int a) (.int b)=.ok (.bl (a==b)):=rfl
theorem G5:∀(n:ah){a b W:ae ah},W.length<=n->Run H (a++b) W->∃W1 W2,W=W1++W2/\Run H a W1/\Run H b W2
 |_,[],b,W,_,h=>⟨[],W,rfl,.nil,h⟩
 |n,k::a,b,W,hn,h=>by
  cases h with
  |@step r _ W' hr h=>
   rw[bp] at hn;cases n with
   |zero=>lia
   |succ n=>
    have h:Run H (r.2.2++(a++b)) W':=h;rw[<-b3] at h;obtain⟨W1,W2,rfl,h1,h2⟩:=G5 n 0x1 h;exact⟨r.1::W1,W2,rfl,.step hr h1,h2⟩
theorem G6:∀{ks W:ae ah},Run H ks W->∃Q:ae (ah×ae ah),Q.map (·.1)=ks/\(Q.map (·.2)).flatten=W/\∀q∈Q,Run H [q.1] q.2
 |[],W,h=>by
  cases h;exact⟨[],rfl,rfl,λq hq=>(by cases hq)⟩
 |k::ks,W,h=>by
  obtain⟨W1,W2,rfl,h1,h2⟩:=G5 W.length (a:=[k]) (bq _) h;obtain⟨Q,q1,q2,q3⟩:=G6 h2;refine⟨(k,W1)::Q,by rw[aI,q1],by rw[aI,hU,q2],λq hq=>?_⟩;rcases cj.mp hq with rfl|hq
  ·exact h1
  ·exact q3 q hq
section
variable {N:ae Str} (hN:N.length=26) (hd:N.Nodup) {H:ae Rw} (F:Hds H)
include hN hd
theorem aAl:∀(K L:ae Rw),((L++K).map (·.1)).Nodup->(∀r∈L++K,r.1<26)->L.length+K.length<=1000->∀c:D,∃c',oW (tg1 3) bhA (K.map (rwD N)) [w,hs,.dct (mnD N L),c,e,f,g]=.ok (.nx [w,hs,.dct (mnD N (L++K)),c',e,f,g])
 |[],L,_,_,_,c=>⟨c,by rw[b5];rfl⟩
 |r::K,L,h1,h2,h3,c=>by
  have hr:r.1<26:=h2 r 0x2;have hn:r.1∉L.map (·.1):=λhm=>by
   rw[cu,aI,i6] at h1;exact h1.2.2 _ hm _ (de ..) rfl
  have e1:mnD N (L++[r])=putD (mnD N L) (sy N r.1) (.int (r.2.2.length:ai)):=by
   unfold mnD;rw[rG hN hd (λr:Rw=>r.1) (λr=>.int (r.2.2.length:ai)) hr _ L (λa ha=>h2 a (by simp[ha])) hn,cu];rfl
  rw[bp] at h3;obtain⟨c',hc⟩:=aAl K (L++[r]) (by rw[b3];exact h1) (by rw[b3];exact h2) (by rw[aT,dP];lia) (rwD N r);rw[b3] at hc;refine⟨c',cR rfl ?_ hc⟩;have g1:=(m9 (ρ:=[w,hs,.dct (mnD N L),rwD N r,e,f,g]) (i:=3) (r:=r) rfl)
  refine(OD (i:=2) (kvs:=mnD N L) (bA (xs:=[.tup (r.2.2.map (sy N))]) (aC g1.2.2 rfl) rfl) g1.1 rfl (by unfold mnD;rw[az,aZ];lia) (qK (λr:Rw=>r.1) (λr=>.int (r.2.2.length:ai)) L r.1) rfl).trans ?_;rw[e1,az];rfl
include F
theorem aMy(hr:r∈H):getD (.dct (mnD N H)) (sy N r.1)=.ok (.int (r.2.2.length:ai)):=by
 show(if ag then ο (cN (mnD N H) (sy N r.1)) else .bad)=_;unfold mnD;rw[aq rfl,rF hN hd (λr:Rw=>r.1) (λr=>ι (r.2.2.length:ai)) H F.nd (λa ha=>(F.lt a ha).1) r hr];rfl
theorem aF6(hr:r∈H)(hG:G.length<=1000)(hq:q.length<=9000):bF bhC bhD (bs w hs N H r0 (G++[q]) l (sy N r.1))=.ok (.nx (bs w hs N H r0 (G++[q++[r.1]]) (l-1+(r.2.2.length:ai)) (sy N r.1))):=by
 have hl:((G++[q]).map (tD N)).length=G.length+1:=by rw[az,aT];rfl
 have ix:ixD ((G++[q]).map (tD N)).length (-1)=aa G.length:=by
  rw[hl];unfold ixD;rw[aw 0x4,aq 0x1]
  congr 1
  lia
 have lst:((G++[q]).map (tD N))[G.length]?=aa (tD N q):=by
  rw[fA,fg (bq _),qS];rfl
 refine aL (ρ':=bs w hs N H r0 (G++[q++[r.1]]) l (sy N r.1)) ?_ ?_
 ·refine KR (d:=tD N (q++[r.1])) (k:=-1) (j:=G.length) (aJ (x:=tD N q) (y:=.tup [sy N r.1]) (aJ (x:=.lst ((G++[q]).map (tD N))) (y:=.int (-1)) rfl rfl ?_) rfl ?_) rfl rfl (gM N _) ix ?_
  ·show ο ((ixD ((G++[q]).map (tD N)).length (-1)).bind λj=>((G++[q]).map (tD N))[j]?)=_;rw[ix,yx,lst];rfl
  ·unfold tD;rw[QX _ _ (by rw[az,dP];lia),cu];rfl
  ·show[w,hs,.dct (mnD N H),r0,.lst (((G++[q]).map (tD N)).set G.length (tD N (q++[r.1]))),.int l,sy N r.1]=_;have:((G++[q]).map (tD N)).set G.length (tD N (q++[r.1]))=(G++[q++[r.1]]).map (tD N):=by
    rw[cu,cu,List.set_append_right _ _ (by rw[az];exact bq _),az,qS];rfl
   rw[this]
 ·exact bT (i:=5) (aJ (aJ rfl rfl (uE _ _)) (aJ (x:=.dct (mnD N H)) (y:=sy N r.1) rfl rfl (aMy hN hd F hr)) (cV _ _))
theorem aMz(hG:G.length<=1000)(h:Run H ks W):∀(q:ae ah)(x:D)(rest:ae D),q.length+W.length<=9000->∃x',oW (tg1 6) bhB (W.map (sy N)++rest) (bs w hs N H r0 (G++[q]) (ks.length:ai) x)=oW (tg1 6) bhB rest (bs w hs N H r0 (G++[q++W]) 0 x'):=by
 induction h with
 |nil=>intro q x rest _;exact⟨x,by rw[b5];rfl⟩
 |@step r ks W hr h ih=>
  intro q x rest hl;rw[bp] at hl;obtain⟨x',hx⟩:=ih (q++[r.1]) (sy N r.1) rest (by rw[aT,dP];lia);refine⟨x',?_⟩;rw[aI,tJ];refine cR (ρ1:=bs w hs N H r0 (G++[q]) ((r.2.1::ks).length:ai) (sy N r.1)) (ρ2:=bs w hs N H r0 (G++[q++[r.1]]) ((r.2.2++ks).length:ai) (sy N r.1)) rfl ?_ ?_
  ·refine aL (uB (cX (aJ (x:=.int ((r.2.1::ks).length:ai)) (y:=.int 0) rfl rfl ((aIm _ _).trans ?_))) rfl) ((aF6 hN hd F hr hG 0x1).trans ?_)
   ·rw[bp]
    congr 2
   ·rw[bp,aT]
    congr 4
    try omega
  ·rw[hx,b3];rfl
theorem QZ:∀(Q:ae (ah×ae ah))(G:ae (ae ah))(x:D),(∀q∈Q,Run H [q.1] q.2)->G.length+Q.length<=900->(Q.map (·.2)).flatten.length<=8000->∃x',oW (tg1 6) bhB (((Q.map (·.2)).flatten).map (sy N)) (bs w hs N H r0 G 0 x)=.ok (.nx (bs w hs N H r0 (G++Q.map (·.2)) 0 x'))
 |[],G,x,_,_,_=>⟨x,by rw[iN,b5];rfl⟩
 |q::Q,G,x,hq,hl,hw=>by
  rw[aI,hU,aT] at hw;rw[bp] at hl;have hr:=hq q 0x2;obtain⟨k,p⟩:=q;cases hr with
  |@step r _ W hr h=>
   rw[b5] at h;have hw:(r.1::W).length+((Q.map (·.2)).flatten).length<=8000:=hw;rw[bp] at hw;obtain⟨x1,e1⟩:=aMz hN hd F (w:=w) (hs:=hs) (r0:=r0) (G:=G) 0x1 h [r.1] (sy N r.1) (((Q.map (·.2)).flatten).map (sy N)) (by rw[dP];lia);obtain⟨x',e2⟩:=QZ Q (G++[[r.1]++W]) x1 (λq hq'=>hq q (by simp[hq'])) (by rw[aT,dP];lia) 0x1;refine⟨x',?_⟩;show oW (tg1 6) bhB (((r.1::W)++(Q.map (·.2)).flatten).map (sy N)) _=.ok (.nx (bs w hs N H r0 (G++(r.1::W)::Q.map (·.2)) 0 x'));rw[cu,aI,tJ];refine cR (ρ1:=bs w hs N H r0 G 0 (sy N r.1)) (ρ2:=bs w hs N H r0 (G++[[r.1]]) (r.2.2.length:ai) (sy N r.1)) rfl ?_ (e1.trans (e2.trans ?_))
   ·refine aL (ρ':=bs w hs N H r0 (G++[[]]) 1 (sy N r.1)) (xR (cX 0x12) (aL (ρ':=bs w hs N H r0 (G++[[]]) 0 (sy N r.1)) ?_ (bT (i:=5) rfl))) ((aF6 hN hd F hr 0x1 (by rw[ef];lia)).trans ?_)
    ·refine(oA (i:=4) (xs:=G.map (tD N)) (d:=.tup []) rfl rfl (by rw[az,aZ];lia) rfl).trans ?_;show τ (Fl.nx [w,hs,.dct (mnD N H),r0,.lst (G.map (tD N)++[.tup []]),.int 0,sy N r.1])=_;rw[show G.map (tD N)++[.tup []]=(G++[[]]).map (tD N) by rw[cu];rfl]
    ·congr 4
     lia
   ·rw[b3];rfl
theorem G7{r:Rw}{Q:ae (ah×ae ah)}(hq:∀q∈Q,Run H [q.1] q.2)(hl:Q.length<=100)(hw:(Q.map (·.2)).flatten.length<=8000):nZ 2 dY [.tup ((r.1::(Q.map (·.2)).flatten).map (sy N)),.lst (H.map (rwD N))]=.ok (.lst ((Q.map (·.2)).map (tD N))):=by
 refine(qR rfl).trans (call_v ?_);generalize hP:(Q.map (·.2)).flatten=P at hw;show lY [.tup ((r.1::P).map (sy N)),.lst (H.map (rwD N)),.uD,.uD,.uD,.uD,.uD]=_;unfold lY;obtain⟨c,hc⟩:=aAl hN hd H [] F.nd (λr hr=>(F.lt r hr).1) (by have:=F.ln;simp;lia) .uD;obtain⟨x',hx⟩:=QZ hN hd F Q [] .uD hq (by simp;lia) (by rw[hP];exact hw);rw[hP] at hx;refine aL (eG rfl rfl) ?_;refine aL (JS rfl rfl hc) ?_;refine aL (eG rfl rfl) ?_;refine aL (bT rfl) ?_;refine aL (n_ ?_ hx) ?_
 ·have e:aB0 (.tup ((r.1::P).map (sy N))) (aa ((1:ah):ai)) aj=.ok (.tup (P.map (sy N))):=by
   show(if !ε ((r.1::P).map (sy N))||ϒ (G9 ((r.1::P).map (sy N)).length 0 (aa ((1:ah):ai))=0/\G9 ((r.1::P).map (sy N)).length ((r.1::P).map (sy N)).length aj=((r.1::P).map (sy N)).length) then Res.bad else τ (ν (cutD ((r.1::P).map (sy N)) (aa ((1:ah):ai)) aj)))=_;rw[bI,KZ,yV,aw]
   ·rfl
   ·rw[az,bp];simp
  have e2:oK nO (fZ c7) gR (bs (.tup ((r.1::P).map (sy N))) (.lst (H.map (rwD N))) N H c [] 0 .uD)=.ok (.tup (P.map (sy N))):=e;exact(dB e2).trans (by rw[sR])
 ·rfl
end
noncomputable def vls(A:ae Kn):ae (ae ah):=A.map λp=>p.2.2.1
noncomputable def okn(A:ae Kn):ae ah:=A.map (·.1)
abbrev gs(N:ae Str)(t mk:ah)(A:ae Kn)(body:ae ah)(W:ae ah)(x:D)(c4 c5 x6 x7:D):ae D:=[ruD N (t,mk,okn A,body),.lst ((vls A).map (tD N)),tD N W,x,c4,c5,x6,x7]
theorem Q0(ws:ae ah):∀(A:ae Kn)(p:Kn)(k:Cn),cT ws (A++[p]) k=(cT ws A k).use (ws.count p.1) (p.2.2.1.length:ai)
 |[],p,k=>rfl
 |q::A,p,k=>Q0 ws A p _
theorem aF7(ws:ae ah):∀(A:ae Kn)(k:Cn),(cT ws A k).c=k.c:=by
 intro A;induction A with
 |nil=>intro k;rfl
 |cons p A ih=>
  intro k;show(cT ws A (k.use _ _)).c=k.c;rw[ih];unfold Cn.use;split<;>rfl
section
variable {N:ae Str} (hN:N.length=26) (hd:N.Nodup)
include hN hd
theorem aF8:∀{A:ae Kn},(okn A).Nodup->(∀p∈A,p.1<26)->∀p∈A,∃j,aC6 (sy N p.1) ((okn A).map (sy N))=aa j/\(vls A)[j]?=aa p.2.2.1
 |[],_,_,p,hp=>by cases hp
 |q::A,nd,lt,p,hp=>by
  have nd':(q.1::okn A).Nodup:=nd;rw[fz] at nd';have e:eqD (sy N q.1) (sy N p.1)=ϒ (q.1=p.1):=oU hN hd (lt q 0x2) (lt p hp);show ∃j,aC6 (sy N p.1) (sy N q.1::(okn A).map (sy N))=aa j/\(q.2.2.1::vls A)[j]?=aa p.2.2.1;rcases cj.mp hp with rfl|hp
  ·refine⟨0,?_,rfl⟩;unfold aC6;rw[e,bt rfl];rfl
  ·have ne:q.1≠p.1:=λz=>nd'.1 (z▸eh hp)
   obtain⟨j,j1,j2⟩:=aF8 nd'.2 (λp hp=>lt p (by simp[hp])) p hp;refine⟨j+1,?_,by simpa using j2⟩;unfold aC6;rw[e,cx ne,j1];rfl
variable {M:ae Rw} {A:ae Kn} (KA:QT N M A) {t mk:ah} {body:ae ah} (hb:∀j∈body,j<26)
include KA
theorem aIn(hx:x<26)(hl:W.length+(sb1 A x).length<=100000):goB (gs N t mk A body W (sy N x) c4 c5 x6 x7)=.ok (.nx (gs N t mk A body (W++sb1 A x) (sy N x) c4 c5 x6 x7)):=by
 have hin:b2 inX e_ (b2 getD nO iU) (gs N t mk A body W (sy N x) c4 c5 x6 x7)=.ok (.bl (ϒ (x∈okn A))):=by
  refine aJ rfl 0x12 ?_;show(if (sy N x).iK bB&&υ bB ((okn A).map (sy N)) then τ (χ (((okn A).map (sy N)).any λy=>eqD y (sy N x))) else .bad)=_;rw[yW,jT,aEu hN hd hx _ (λj hj=>by obtain⟨p,hp,rfl⟩:=ck.mp hj;exact(KA.lt p hp).2)];rfl
 have tdA:∀(a b:ae ah),a.length+b.length<=100000->xU (tD N a) (tD N b)=.ok (tD N (a++b)):=λa b h=>by
  unfold tD;rw[QX _ _ (by rw[az,az];exact h),cu]
 by_cases hm:x∈okn A
 ·obtain⟨p,hp,rfl⟩:=ck.mp hm;obtain⟨j,j1,j2⟩:=aF8 hN hd KA.nd (λp hp=>(KA.lt p hp).2) p hp;rw[(aIb KA.nd hp).1] at hl ⊢;refine xR (cX (hin.trans (by rw[bt hm]))) ?_;refine gH (aJ rfl (aJ rfl ?_ (fP rfl j2)) (tdA _ _ hl)) (gM N _);show bM vR (b2 getD nO iU) (aF e_ aY) (gs N t mk A body W (sy N p.1) c4 c5 x6 x7)=_;show(if (sy N p.1).iK bB&&υ bB ((okn A).map (sy N)) then (match aC6 (sy N p.1) ((okn A).map (sy N)) with|some j=>τ (ι j)|none=>.bad) else .bad)=_;rw[yW,jT,j1];rfl
 ·rw[(aIc (x:=x) λp hp z=>hm (z▸eh (f:=(·.1)) hp)).1] at hl ⊢;refine uB (cX (hin.trans (by rw[cx hm]))) ?_;exact gH (i:=2) (d:=tD N (W++[x])) (aJ (x:=tD N W) (y:=tD N [x]) rfl rfl (tdA _ _ hl)) (gM N _)
theorem Q3{c4 c5 x6 x7:D}:∀(ws:ae ah),(∀j∈ws,j<26)->∀(W:ae ah)(x:D),W.length+(sub A ws).length<=100000->∃x',oW (tg1 3) goB (ws.map (sy N)) (gs N t mk A body W x c4 c5 x6 x7)=.ok (.nx (gs N t mk A body (W++sub A ws) x' c4 c5 x6 x7))
 |[],_,W,x,_=>⟨x,by rw[show sub A []=[] from rfl,b5];rfl⟩
 |y::ws,hw,W,x,hl=>by
  have hl:W.length+(sb1 A y++sub A ws).length<=100000:=hl;rw[aT] at hl;obtain⟨x',hx⟩:=Q3 ws (λj hj=>hw j (by simp[hj])) (W++sb1 A y) (sy N y) (by rw[aT];lia);refine⟨x',cR rfl (aIn hN hd KA (hw y 0x2) 0x1) (hx.trans ?_)⟩;rw[b3];rfl
include hb
theorem aN0(hA:A=A1++p::A2){k:Cn}(hbl:body.length<=1000)(hpl:p.2.2.1.length<=10000):bF goT (bF goC goD) (gs N t mk A body W x (.int k.p) (.int k.d) (.int (0+(A1.length:ai))) x7)=.ok (.nx (gs N t mk A body W x (.int (k.use (body.count p.1) (p.2.2.1.length:ai)).p) (.int (k.use (body.count p.1) (p.2.2.1.length:ai)).d) (.int (0+(A1.length:ai))) (.int (body.count p.1:ai)))):=by
 have hp:p∈A:=by rw[hA];simp
 have ga:(okn A)[A1.length]?=aa p.1:=by unfold okn;rw[hA,fA];simp
 have gv:(vls A)[A1.length]?=aa p.2.2.1:=by unfold vls;rw[hA,fA];simp
 have hcn:=Ci (a:=p.1) (l:=body);generalize hn:body.count p.1=n at hcn;have e1:d8 8 (bR (b2 getD nO jH) ak) oG (bTB (b2 (lG .eq) oV (b2 getD (b2 getD nO iU) nQ))) oV ak (gs N t mk A body W x (.int k.p) (.int k.d) (.int (0+(A1.length:ai))) x7)=.ok (.lst ((body.filter λj=>ϒ (j=p.1)).map (sy N))):=by
  refine yU (kk:=ag) (sy N) (sy N) (λj=>ϒ (j=p.1)) body rfl ((dB 0x12).trans (by rw[bI];rfl)) 0x1 (λj hj=>?_) λj hj _=>⟨rfl,rfl⟩
  exact cX (aJ (x:=sy N j) (y:=sy N p.1) rfl (aJ (x:=.tup ((okn A).map (sy N))) 0x12 rfl (yX 0x1 ga)) (aA3 hN hd (hb j hj) (KA.lt p hp).2))
 have e2:((body.filter λj=>ϒ (j=p.1)).map (sy N)).length=n:=by
  rw[az,<-hn,List.count_eq_length_filter]
  congr 1
 have glen:bD mG (aF (b2 getD iT nQ) aY) (gs N t mk A body W x (.int k.p) (.int k.d) (.int (0+(A1.length:ai))) (.int (n:ai)))=.ok (.int (p.2.2.1.length:ai)):=bA (xs:=[tD N p.2.2.1]) (aC (aJ (x:=.lst ((vls A).map (tD N))) rfl rfl (fP 0x1 gv)) rfl) (by show τ (ι ((p.2.2.1.map (sy N)).length:ai))=_;rw[az]);have glen2:∀z:ai,bD mG (aF (b2 getD iT nQ) aY) (gs N t mk A body W x (.int z) (.int k.d) (.int (0+(A1.length:ai))) (.int (n:ai)))=.ok (.int (p.2.2.1.length:ai)):=λz=>bA (xs:=[tD N p.2.2.1]) (aC (aJ (x:=.lst ((vls A).map (tD N))) rfl rfl (fP 0x1 gv)) rfl) (by show τ (ι ((p.2.2.1.map (sy N)).length:ai))=_;rw[az])
 have hs:gQ (p.2.2.1.length:ai)=ag:=uT _ 0x1 0x1;refine aL (ρ':=gs N t mk A body W x (.int k.p) (.int k.d) (.int (0+(A1.length:ai))) (.int (n:ai))) (bT (i:=7) (bA (aC e1 rfl) (by show τ (ι _)=_;rw[e2]))) ?_;have c1:k.p+(if (0:ai)<(n:ai)-1 then (n:ai)-1 else 0)*(p.2.2.1.length:ai)=(k.use (n:ai) (p.2.2.1.length:ai)).p:=by
  unfold Cn.use;by_cases hz:(n:ai)=0
  ·rw[aq hz,aw 0x1,Cq,zb]
  ·rw[aw hz];by_cases h1:(0:ai)<(n:ai)-1
   ·rw[aq h1]
   ·rw[aw h1,show(n:ai)-1=0 by lia]
 have c2:k.d+(if ((n:ai)==0)=ag then (1:ai) else 0)*(p.2.2.1.length:ai)=(k.use (n:ai) (p.2.2.1.length:ai)).d:=by
  unfold Cn.use;by_cases hz:(n:ai)=0
  ·rw[aq hz,aq (by rw[hz];rfl),Int.one_mul]
  ·rw[aw hz,aw (by simpa using hz),Cq,zb]
 refine aL (ρ':=gs N t mk A body W x (.int (k.use (n:ai) (p.2.2.1.length:ai)).p) (.int k.d) (.int (0+(A1.length:ai))) (.int (n:ai))) ?_ ?_
 ·rw[<-c1];exact bT (i:=4) (aJ (x:=.int k.p) rfl (aJ (bA (xs:=[.int 0,.int ((n:ai)-1)]) (aC rfl (aC (aJ rfl rfl (uE _ _)) rfl)) (aR3 _)) glen (lZ _ _ hs)) (cV _ _))
 ·rw[<-c2];exact bT (i:=5) (aJ (x:=.int k.d) rfl (aJ (bA (xs:=[.bl ((n:ai)==0)]) (aC (aJ rfl rfl (l_ _ _)) rfl) rfl) (glen2 _) (lZ _ _ hs)) (cV _ _))
theorem aAm{W:ae ah}{x:D}(hbl:body.length<=1000)(hpl:∀p∈A,p.2.2.1.length<=10000):∀(A2 A1:ae Kn),A=A1++A2->∀(x6 x7:D),∃x6' x7',oW (tg1 6) (bF goT (bF goC goD)) ((hI A1.length A2.length).map λk:ah=>ι (0+(k:ai))) (gs N t mk A body W x (.int (cT body A1 z0.call).p) (.int (cT body A1 z0.call).d) x6 x7)=.ok (.nx (gs N t mk A body W x (.int (cT body A z0.call).p) (.int (cT body A z0.call).d) x6' x7'))
 |[],A1,hA,x6,x7=>⟨x6,x7,by rw[hA,b5];rfl⟩
 |p::A2,A1,hA,x6,x7=>by
  obtain⟨x6',x7',e⟩:=aAm hbl hpl A2 (A1++[p]) (by rw[hA,b3];rfl) (.int (0+(A1.length:ai))) (.int (body.count p.1:ai));rw[Q0,aT,dP] at e;refine⟨x6',x7',?_⟩;rw[bp,kq,aI];exact cR rfl (aN0 hN hd KA hb hA hbl (hpl p (by rw[hA];simp))) e
theorem aQ8(hbl:body.length<=1000)(hpl:∀p∈A,p.2.2.1.length<=10000)(hsl:(sub A body).length<=90000):nZ 2 h_ [ruD N (t,mk,okn A,body),.lst ((vls A).map (tD N))]=.ok (.lst (wL N (sub A body) 0x18)):=by
 refine(qR rfl).trans (call_v ?_);show m5 [ruD N (t,mk,okn A,body),.lst ((vls A).map (tD N)),.uD,.uD,.uD,.uD,.uD,.uD]=_;unfold m5;obtain⟨x',hx⟩:=Q3 hN hd KA body hb [] .uD (by rw[ef];lia);rw[eJ] at hx;obtain⟨x6',x7',e⟩:=aAm hN hd KA hb hbl hpl A [] rfl .uD .uD;refine aL (bT rfl) ?_;refine aL (n_ ((dB 0x12).trans (by rw[bI];rfl)) hx) ?_;refine aL (bT rfl) ?_;refine aL (ρ':=gs N t mk A body (sub A body) x' (.int 0) (.int 0) .uD .uD) (bT (i:=5) rfl) ?_;refine aL (ρ':=gs N t mk A body (sub A body) x' (.int (cT body A z0.call).p) (.int (cT body A z0.call).d) x6' x7') (n_ (rR (n:=(A.length:ai)) (aC (bA 0x13 (by show τ (ι (((vls A).map (tD N)).length:ai))=_;unfold vls;rw[az,az])) rfl) 0x1 (by have:=KA.ln;lia)) ?_) ?_
 ·rw[ik,y6];exact e
 ·refine N_ ?_ rfl;have ec:(1:ai)=(cT body A z0.call).c:=by rw[aF7];rfl
  refine oE ?_ (by rw[aZ];show 4<=1000000;decide);unfold wL;rw[<-ec];exact aC (nT (f:=b8 2) rfl (gM N _)) (aC rfl (aC (nT (f:=b8 4) rfl rfl) (aC (nT (f:=b8 5) rfl rfl) rfl)))
end
theorem aAn(a b:Cn):ad a b=ad b a:=by
 unfold ad;rw[ze a.c,ze a.p,ze a.d]
theorem aAo:∀ws:ae ah,wgt [] ws=ws.length
 |[]=>rfl
 |x::ws=>by show 1+wgt [] ws=ws.length+1;rw[aAo ws];lia
theorem Q4:∀{ks W:ae ah}{vs:ae D},Rd N M ks W vs->∃Q:ae (ah×ae ah×D),Q.map (·.1)=ks/\Q.map (·.2.2)=vs/\(∀q∈Q,Rd N M [q.1] q.2.1 [q.2.2])/\(Q.map (·.2.1)).flatten=W
 |[],W,vs,h=>by
  cases h;exact⟨[],rfl,rfl,λq hq=>(by cases hq),rfl⟩
 |k::ks,W,vs,h=>by
  obtain⟨W1,W2,v1,v2,rfl,rfl,g1,g2⟩:=Rd.split W.length (a:=[k]) (bq _) h;obtain⟨Q,q1,q2,q3,q4⟩:=Q4 g2;have l1:=g1.len
  match v1,l1 with
  |[v],_=>
   refine⟨(k,W1,v)::Q,by rw[aI,q1],by rw[aI,q2];rfl,λq hq=>?_,by rw[aI,hU,q4]⟩;rcases cj.mp hq with rfl|hq
   ·exact g1
   ·exact q3 q hq
noncomputable abbrev Oc:=ar (ae ah×D×Cn)
abbrev Po:=(ah×ae ah)×Oc
noncomputable def spO:ae Po->ax
 |[]=>ak
 | (_,aj)::P=>ag
 | (_,aa _)::P=>spO P
def csO:ae Po->Cn
 |[]=>z0
 | (_,aj)::P=>csO P
 | (_,aa o)::P=>ad o.2.2 (csO P)
noncomputable def vsO:ae Po->ae (ae ah)
 |[]=>[]
 | (_,aj)::P=>vsO P
 | (_,aa o)::P=>o.1::vsO P
noncomputable def vvO:ae Po->ae D
 |[]=>[]
 | (_,aj)::P=>vvO P
 | (_,aa o)::P=>o.2.1::vvO P
noncomputable def wdO(P:ae Po):ae ah:=(P.map (·.1.2)).flatten
section
variable {N:ae Str} (hN:N.length=26) (hd:N.Nodup) {M:ae Rw} {T:ae Tk} {R:ae Ru} (B:Tab M T R) (b:ah) (hb:b<=200)
variable (N M T R) in
def Ot(q:ah×ae ah):Oc->Prop
 |none=>Spd N M T R 2000 b [] q.2 []
 |some (W,v,δ)=>Rd N M [q.1] W [v]/\NN δ/\tot δ<=b/\(W.length:ai)<=q.2.length+6*tot δ/\Ok N M T R 2000 [] q.2 [] [v] δ
include hN hd B hb
theorem aN1(hr:Run 0x11 [q.1] q.2)(hl:q.2.length<=400):∃o,Ot N M T R b q o:=by
 have hw:=aAo q.2;rcases big hN hd B b kn0 hr 0x1 with ⟨s1,_⟩|⟨W,vs,δ,rd,nn,tb,lw,o,_⟩
 ·exact⟨aj,s1.mono 0x1⟩
 ·have l1:=rd.len
  match vs,l1 with
  |[v],_=>exact⟨aa (W,v,δ),rd,nn,tb,by rw[hw] at lw;exact lw,o.mono 0x1⟩
omit hN hd B hb
theorem T4:∀(P:ae Po),(∀p∈P,Ot N M T R b p.1 p.2)->NN (csO P)
 |[],_=>nn0
 | (q,aj)::P,h=>T4 P λp hp=>h p (by simp[hp])
 | (q,aa (W,v,δ))::P,h=>by
  obtain⟨_,nn,_⟩:Ot N M T R b q (aa (W,v,δ)):=h (q,aa (W,v,δ)) 0x2;exact nn.ad (T4 P λp hp=>h p (by simp[hp]))
theorem mC:∀(P:ae Po),(∀p∈P,Ot N M T R b p.1 p.2)->
  (spO P=ak->Rd N M (P.map (·.1.1)) (vsO P).flatten (vvO P)/\(vvO P).length=P.length/\Ok N M T R (2000+P.length) [] (wdO P) [] (vvO P) (csO P)/\((vsO P).flatten.length:ai)<=(wdO P).length+6*tot (csO P))/\
  (spO P=ag->Spd N M T R (2000+P.length) b [] (wdO P) [])
 |[],_=>⟨λ_=>⟨.nil,rfl,Ok.nil,by decide⟩,λz=>by cases z⟩
 | (q,aj)::P,h=>by
  have s:Spd N M T R 2000 b [] q.2 []:=h (q,aj) 0x2;obtain⟨g1,g2⟩:=mC P λp hp=>h p (by simp[hp])
  refine⟨λz=>(by cases z),λ_=>?_⟩;show Spd N M T R (2000+(P.length+1)) b [] (q.2++wdO P) [];by_cases hz:spO P=ag
  ·exact((g2 hz).mono 0x1).aJa
  ·obtain⟨rd,hl,o,_⟩:=g1 (by simpa using hz);have nn:=T4 b P λp hp=>h p (by simp[hp])
   have s2:=s.under rd.pure;rw[eJ] at s2;exact Ok.aIa (o.mono 0x1) (s2.mono 0x1) (by have:=nn.tot;lia)
 | (q,aa (W,v,δ))::P,h=>by
  obtain⟨rd,nn,tb,lw,o⟩:Ot N M T R b q (aa (W,v,δ)):=h (q,aa (W,v,δ)) 0x2;obtain⟨g1,g2⟩:=mC P λp hp=>h p (by simp[hp])
  refine⟨λhz=>?_,λhz=>?_⟩
  ·obtain⟨rd2,hl,o2,lw2⟩:=g1 hz;have o1:=o.under rd2.pure;rw[eJ] at o1;refine⟨rd.app rd2,by show(vvO P).length+1=P.length+1;rw[hl],?_,?_⟩
   ·show Ok N M T R (2000+(P.length+1)) [] (q.2++wdO P) [] ([v]++vvO P) (ad δ (csO P));rw[aAn];exact Ok.app (o2.mono 0x1) (o1.mono 0x1) nn
   ·show((W++(vsO P).flatten).length:ai)<=((q.2++wdO P).length:ah)+6*tot (ad δ (csO P));rw[aT,aT,dN];lia
  ·show Spd N M T R (2000+(P.length+1)) b [] (q.2++wdO P) [];exact((g2 hz).mono 0x1).aJa
theorem zM{L:ae (ae α)}(h:x∈L):x.length<=L.flatten.length:=by
 induction L with
 |nil=>cases h
 |cons y L ih=>
  rw[hU,aT];rcases cj.mp h with rfl|h
  ·lia
  ·have:=ih h;lia
theorem aQ9:∀(P:ae Po),(∀p∈P,Ot N M T R b p.1 p.2)->spO P=ak->∃Q2:ae (ah×ae ah×D),Q2.map (·.1)=P.map (·.1.1)/\Q2.map (·.2.1)=vsO P/\(∀q∈Q2,Rd N M [q.1] q.2.1 [q.2.2])/\Q2.map (·.2.2)=vvO P
 |[],_,_=>⟨[],rfl,rfl,λq hq=>(by cases hq),rfl⟩
 | ((k,w),aj)::P,_,hs=>by cases hs
 | ((k,w),aa (W,v,δ))::P,h,hs=>by
  obtain⟨rd,_⟩:Ot N M T R b (k,w) (aa (W,v,δ)):=h ((k,w),aa (W,v,δ)) 0x2;obtain⟨Q2,c1,c2,c3,c4⟩:=aQ9 P (λp hp=>h p (by simp[hp])) hs;refine⟨(k,W,v)::Q2,by rw[aI,c1];rfl,by rw[aI,c2];rfl,λq hq=>?_,by rw[aI,c4];rfl⟩;rcases cj.mp hq with rfl|hq
  ·exact rd
  ·exact c3 q hq
def Ends(N:ae Str)(M:ae Rw)(T:ae Tk)(R:ae Ru)(b:ai)(k:ah)(w:ae ah):Oc->Prop
 |none=>∃h,h<=90000/\Spd N M T R h b [] w []
 |some (W,v,δ)=>∃h,h<=90000/\Ok N M T R h [] w [] [v] δ/\Rd N M [k] W [v]/\W.length<=8900/\NN δ/\tot δ<=b
def HB(N:ae Str):Oc->ae D
 |none=>[.int 0]
 |some o=>wL N o.1 o.2.2
include hN hd B in
theorem uY{b:ai}(h0:0<=b)(h:Ends N M T R b k w o):nZ 3 cC [dJ N ks M T R,tD N w,.int b]=.ok (.lst (HB N o)):=by
 match o,h with
 |none,⟨h,hh,s⟩=>exact aQ6 (aMu hN hd B s hh h0 (nK _))
 |some (W,v,δ),⟨h,hh,o,rd,hW,nn,tb⟩=>exact aQ5 ((aMt hN hd B o rd hW hh h0).trans (aq tb)) nn
theorem aN2(hb:b<=200)(hw:w.length<=400)(h:Ot N M T R b (k,w) o):Ends N M T R b k w o:=by
 match o,h with
 |none,s=>exact⟨2000,by decide,s⟩
 |some (W,v,δ),⟨rd,nn,tb,lw,o⟩=>exact⟨2000,by decide,o,rd,by have:(W.length:ai)<=w.length+6*tot δ:=lw;lia,nn,tb⟩
section
variable (hP:∀p∈P,Ot N M T R b p.1 p.2) (hl:P.length<=10) (hw:(wdO P).length<=400)
include hP hl
theorem aDp(hs:spO P=ag\/(spO P=ak/\(b:ai)<tot (csO P))):Ends N M T R b k (x::wdO P) aj:=by
 refine⟨2000+P.length,by lia,?_⟩;show Spd N M T R _ b [] ([x]++wdO P) [];rcases hs with hs|⟨hs,ht⟩
 ·exact((mC b P hP).2 hs).aJa
 ·obtain⟨rd,_,o,_⟩:=(mC b P hP).1 hs;exact(o.over ht).aJa
include hw hN hd B hb
theorem aDq(hr:r∈M)(hk:P.map (·.1.1)=r.2.2)(hs:spO P=ak)(ht:tot (csO P)<=b):∃v,Ends N M T R b r.2.1 (r.1::wdO P) (aa (r.1::(vsO P).flatten,v,csO P)):=by
 obtain⟨rd,hvl,o,lw⟩:=(mC b P hP).1 hs;have nn:=T4 b P hP;rw[hk] at rd;generalize vvO P=vs at rd hvl o;have hz:=Rd.sum _ (bq _) rd 0x1 vs [] (by rw[b5]);have hpl:vs.length=r.2.2.length:=rd.len;have o2:=aDk hN hd B kn0 hr hpl hz rd.pure rfl (h:=2000+P.length) (by rw[b5];lia);rw[b5] at o2;have o3:=Ok.app o o2 nn0;rw[aF4] at o3;have rd3:Rd N M (r.2.1::[]) (r.1::(vsO P).flatten) (.tup [sy N r.1,.tup vs,.int (1+szs vs)]::[]):=.step hr hpl (by rw[b5,b5];exact rd);exact⟨_,2000+P.length,by lia,o3,rd3,by rw[bp];lia,nn,ht⟩
theorem T5(ht:t∈T)(hk:P.map (·.1.1)=t.2.2.1::t.2.2.2)(hs:spO P=ak)(htc:tot (csO P)<=b):∃(r0:Rw)(W0:ae ah)(Vs:ae (ae ah))(Q1:ae (ah×ae ah))(A:ae Kn)(body:ae ah),vsO P=(r0.1::W0)::Vs/\r0∈M/\(Q1.map (·.2)).flatten=W0/\(∀q∈Q1,Run M [q.1] q.2)/\(t.1,r0.1,okn A,body)∈R/\QT N M A/\vls A=Q1.map (·.2)++Vs/\(∀j∈body,j<26)/\body.length<=6/\Run (kr A++ 0x11) [t.2.1] body/\(∀p∈A,p.2.2.1.length<=1700)/\W0.length<=1700/\A.length<=5/\NN 0x18 /\
  ((b:ai)<tot (ad (csO P) 0x18)->Ends N M T R b t.2.1 (t.1::wdO P) aj)/\
  (tot (ad (csO P) 0x18)<=b->(sub A body).length<=400->∃(o:Oc)(b2:ai),0<=b2/\b2=b-tot (ad (csO P) 0x18)/\Ends N M T R b2 t.2.1 (sub A body) o/\Ends N M T R b t.2.1 (t.1::wdO P) (o.map λz=>(z.1,z.2.1,ad (ad (csO P) 0x18) z.2.2))):=by
 match P,hk,hP,hs,hl,hw,htc with
 | ((k1,w1),aj)::P,_,_,hs,_,_,_=>cases hs
 | ((k1,w1),aa (W1,v,δ1))::P,hk,hP,hs,hl,hw,htc=>
  obtain⟨rdv,nd1,tb1,lw1,o1⟩:Ot N M T R b (k1,w1) (aa (W1,v,δ1)):=hP ((k1,w1),aa (W1,v,δ1)) 0x2;have hP2:∀p∈P,Ot N M T R b p.1 p.2:=λp hp=>hP p (by simp[hp])
  obtain⟨rdm,hml,om,lwm⟩:=(mC b P hP2).1 hs;have hk1:k1=t.2.2.1:=(za hk).1;have hk2:P.map (·.1.1)=t.2.2.2:=(za hk).2;subst hk1;rw[hk2] at rdm;have nd2:=T4 b P hP2
  -- the run of all parts
  have o1u:=o1.under rdm.pure;rw[eJ] at o1u;have oall:Ok N M T R 9000 [] (w1++wdO P) [] ([v]++vvO P) (csO (((t.2.2.1,w1),aa (W1,v,δ1))::P)):=by
   show Ok N M T R _ [] _ [] _ (ad δ1 (csO P));rw[aAn];exact Ok.app (om.mono (by rw[bp] at hl;lia)) (o1u.mono (by rw[bp] at hl;lia)) nd1
  have lw1:(W1.length:ai)<=w1.length+6*tot δ1:=lw1;have hwl:w1.length+(wdO P).length<=400:=by
   have:(w1++wdO P).length<=400:=hw;rw[aT] at this;exact this
  have tcs:tot (csO (((t.2.2.1,w1),aa (W1,v,δ1))::P))=tot δ1+tot (csO P):=dN _ _;have t2:=nd2.tot;have t1:=nd1.tot;have ncs:NN (csO (((t.2.2.1,w1),aa (W1,v,δ1))::P)):=nd1.ad nd2;rw[bp] at hl;generalize csO (((t.2.2.1,w1),aa (W1,v,δ1))::P)=cs at oall tcs ncs htc;obtain⟨r0,xs,W0,hr0,hk0,eW0,ev,rx⟩:=rdv.one;subst eW0 ev;rw[bp] at lw1;obtain⟨own,body,hru,hol,hon,hoi,hbl,hb26,hbr⟩:=B.ru t ht r0 hr0 hk0;obtain⟨Q1,a1,a2,a3,a4⟩:=Q4 rx;obtain⟨Q2,d1,d2,d3,d4⟩:=aQ9 b P hP2 hs;rw[hk2] at d1;generalize vvO P=more at rdm hml om o1u oall d4;have hQl:own.length=(Q1++Q2).length:=by
   have e1:=cy fT a1;have e2:=cy fT d1;rw[az] at e1 e2;rw[aT];lia
  have q1:(Q1++Q2).map (·.1)=r0.2.2++t.2.2.2:=by rw[cu,a1,d1]
  have q2:(Q1++Q2).map (·.2.2)=xs++more:=by rw[cu,a2,d4]
  have q3:∀q∈Q1++Q2,Rd N M [q.1] q.2.1 [q.2.2]:=λq hq=>by
   rcases dz.mp hq with hq|hq
   ·exact a3 q hq
   ·exact d3 q hq
  have q4:(Q1++Q2).map (·.2.1)=Q1.map (·.2.1)++vsO P:=by rw[cu,d2]
  have q5:∀q∈Q1++Q2,q.2.1.length<=1700:=λq hq=>by
   rcases dz.mp hq with hq|hq
   ·have:=zM (eh (f:=(·.2.1)) hq);rw[a4] at this;lia
   ·have:=zM (eh (f:=(·.2.1)) hq);rw[d2] at this;lia
  generalize Q1++Q2=Q at hQl q1 q2 q3 q4 q5;have eA1:(own.zip Q).map (·.1)=own:=by rw[Ck 0x1]
  have eA2:(own.zip Q).map (·.2)=Q:=by rw[Cm 0x1]
  have KA:QT N M (own.zip Q):=by
   refine⟨by rw[eA1];exact hon,λp hp=>hoi p.1 (by rw[<-eA1];exact eh (f:=(·.1)) hp),λp hp=>q3 p.2 (by rw[<-eA2];exact eh (f:=(·.2)) hp),?_⟩;have:=(B.mi r0 hr0).2;rw[lp];have:=(B.ti t ht).2.2;lia
  have hv:xs++more=(own.zip Q).map λp=>p.2.2.2:=by
   rw[<-q2]
   conv=>lhs;rw[<-eA2]
   rw[di];rfl
  have hvl2:vls (own.zip Q)=Q1.map (·.2.1)++vsO P:=by
   rw[<-q4];unfold vls
   conv=>rhs;rw[<-eA2]
   rw[di];rfl
  have hpv:ε (xs++more)=ag:=(rx.app rdm).pure;have hml2:more.length=t.2.2.2.length:=rdm.len;have hkr:=aAf own Q;rw[q1] at hkr;rw[<-hkr] at hbr;obtain⟨u1,u2⟩:=zL body (own.zip Q) z0.call nn1;have hru':(t.1,r0.1,(own.zip Q).map (·.1),body)∈R:=by rw[eA1];exact hru
  have t2b:=(B.ti t ht).2.2;have call:=λ(h':ah)(hh:h'+1<=9000)=>uW hN hd B kn0 ht KA hru' hv hml2 hb26 0x1 hpv (z:=.int (1+szs xs)) (st:=[]) rfl (h:=9000) (by rw[b5];lia) (h':=h') (by rw[ef];lia)
  simp only[b5] at call;refine⟨r0,W0,vsO P,Q1.map λq=>(q.1,q.2.1),own.zip Q,body,rfl,hr0,by rw[di];exact a4,λq hq=>?_,by unfold okn;rw[eA1];exact hru,KA,by rw[di];exact hvl2,hb26,hbl,hbr,λp hp=>q5 p.2 (by rw[<-eA2];exact eh (f:=(·.2)) hp),by lia,by have:=(B.mi r0 hr0).2;rw[lp];lia,u1,λho=>?_,λho hsl=>?_⟩
  ·obtain⟨q',hq',rfl⟩:=ck.mp hq;exact(a3 q' hq').run
  ·refine⟨9000,by decide,?_⟩;rw[dN] at ho;exact Ok.aIa (b':=b-tot cs) (ws1:=[t.1]) oall ((call 0 0x1).2.2 _ 0x1) 0x1
  ·generalize hδ:cT body (own.zip Q) z0.call=δ0 at ho u1 u2 call;rw[dN] at ho;have tu:=u1.tot;obtain⟨b2,eb2⟩:∃b2:ah,(b2:ai)=b-tot (ad cs δ0):=⟨((b:ai)-tot (ad cs δ0)).toNat,by rw[dN];lia⟩
   have hwA:=sub_len (own.zip Q) body;rw[dN] at eb2;have c:=call (wgt (own.zip Q) body+7*b2) 0x1;rcases big hN hd B b2 KA hbr 0x1 with ⟨s1,s2⟩|⟨Wb,vb,δb,rb,nb,tb2,lb,ob,ob2⟩
   ·refine⟨aj,b2,by lia,by rw[dN];exact eb2,⟨_,by lia,s2⟩,9000,by decide,?_⟩;exact Ok.aIa (b':=b-tot cs) (ws1:=[t.1]) oall (c.2.1 b2 s1 _ 0x1) 0x1
   ·have l1:=rb.len
    match vb,l1,rb,ob,ob2 with
    |[vb],_,rb,ob,ob2=>
     refine⟨aa (Wb,vb,δb),b2,by lia,by rw[dN];exact eb2,⟨_,by lia,ob2,rb,by lia,nb,tb2⟩,9000,by decide,?_,rb,by show Wb.length<=8900;lia,(ncs.ad u1).ad nb,by rw[dN,dN];show _+tot δb<=_;lia⟩;have n2:NN (ad δ0 δb):=u1.ad nb;have:=Ok.app (ws1:=[t.1]) oall (c.1 δb [vb] nb ob) n2;rw[<-sX] at this;exact this
end
end
noncomputable def cD(c:Cn):D:=.lst [.int c.c,.int c.p,.int c.d]
abbrev ds(N:ae Str)(g:D)(w:ae ah)(hs:D)(b:ai)(z:ah)(C:ae (ae ah))(cs:Cn)(V:ae (ae ah))(sp:ax)(x8 x9 x10 x11:D):ae D:=[g,tD N w,hs,.int b,.cel z (C.map (tD N)),cD cs,.lst (V.map (tD N)),.bl sp,x8,x9,x10,x11]
theorem rJ(N:ae Str)(W:ae ah)(c:Cn):ε (wL N W c)=ag:=by
 show((ν 0x1b).pure&&_)=ag;rw[ξ,bI];rfl
theorem Q5(N:ae Str)(o:Oc):ε (HB N o)=ag:=by
 cases o with
 |none=>rfl
 |some o=>exact rJ N _ _
theorem aAp(N:ae Str)(W:ae ah)(c:Cn):υ 5 (wL N W c)=ag:=by
 show((ν 0x1b).iK 5&&_)=ag;rw[show(ν 0x1b).iK 5=υ 4 0x1b from rfl,jT];rfl
theorem Q6(N:ae Str)(o:Oc):υ 5 (HB N o)=ag:=by
 cases o with
 |none=>rfl
 |some o=>exact aAp N _ _
theorem wG(h1:aHn x=aa a)(h2:aHn y=aa b)(e1:υ 5 a=ag)(e2:υ 5 b=ag):eqS neg x y=.ok (.bl (neg !=nA a b)):=by
 unfold eqS;rw[h1,h2];dsimp only;rw[aq (by rw[e1,e2];rfl)]
theorem K6(N:ae Str)(o:Oc)(i:ai)(hi:i≠0):nA (HB N o) [.int i]=ak:=by
 cases o with
 |none=>
  show((0:ai)==i&&ag)=ak;rw[kj];exact fq.mpr (Ne.symm hi)
 |some o=>rfl
theorem zN(h:f ρ=.ok (.lst xs))(hp:ε xs=ag):bFz f ρ=.ok (.scr xs):=by
 unfold bFz;rw[h,θ];dsimp only;rw[aq hp]
theorem aAq(h:f ρ=.ok d)(h2:ρ.getD i .uD=.cel z xs)(hl:xs.length<=100000)(hp:d.pure=ag):YW i f ρ=.ok (.nx (ρ.set i (.cel z (xs++[d])))):=by
 unfold YW;rw[h,θ,h2];show(if ϒ (xs.length<lim)&&d.pure then τ (Fl.nx (ρ.set i (YF (.cel z xs) (xs++[d])))) else .bad)=_;rw[aq (by rw[hp,bt (by rw[aZ];lia)];rfl)];rfl
theorem aQa(c:Cn)(h:NN c)(h1:c.c<=9000)(h2:c.p<=9000)(h3:c.d<=9000)(hv:b8 i ρ=.ok (cD c)):bD uG (aF (b8 i) aY) ρ=.ok (.int (tot c)):=by
 refine bA (aC hv rfl) ?_;have:=h.c;have:=h.p;have:=h.d;show(if ([c.c,c.p,c.d]:ae ai).all (λi=>ϒ (-9000<=i)&&ϒ (i<=9000))&&ϒ (([c.c,c.p,c.d]:ae ai).length<=100000) then τ (ι ([c.c,c.p,c.d]:ae ai).sum) else .bad)=_;rw[aq]
 ·congr 2
  show c.c+(c.p+(c.d+0))=c.c+c.p+c.d;lia
 ·simp only[ig,List.all_nil,kj,aS,cv];refine⟨⟨⟨by lia,by lia⟩,⟨by lia,by lia⟩,by lia,by lia⟩,by show 3<=100000;decide⟩
section
variable {N:ae Str} (hN:N.length=26) (hd:N.Nodup) {M:ae Rw} {T:ae Tk} {R:ae Ru} (B:Tab M T R) (b:ah) (hb:b<=200) {ks w:ae ah} {hs:D} {z:ah}
include hN hd B hb
theorem Q7:∀(P:ae Po),(∀p∈P,Ot N M T R b p.1 p.2/\p.1.2.length<=400)->∀(C V:ae (ae ah))(cs:Cn)(sp:ax)(x8 x9:D),C.length+P.length<=10000->V.length+P.length<=100->∃x8' x9',oW (tg1 8) (bF dl0 (bF dl1 (bF dl2 dl3))) ((P.map (·.1.2)).map (tD N)) (ds N 0xb w hs b z C cs V sp x8 x9 x10 x11)=.ok (.nx (ds N 0xb w hs b z (C++P.map (·.1.2)) (ad cs (csO P)) (V++vsO P) (sp||spO P) x8' x9' x10 x11))
 |[],_,C,V,cs,sp,x8,x9,_,_=>⟨x8,x9,by rw[iN,b5,show csO []=z0 from rfl,aF4,show vsO []=[] from rfl,b5,show spO []=ak from rfl,sM];rfl⟩
 | (q,o)::P,h,C,V,cs,sp,x8,x9,hC,hV=>by
  rw[bp] at hC hV;obtain⟨ho,hq⟩:=h (q,o) 0x2;have wq:=uY hN hd B (ks:=ks) 0x1 (aN2 b hb hq ho);have s0:dl0 (ds N 0xb w hs b z C cs V sp (tD N q.2) x9 x10 x11)=.ok (.nx (ds N 0xb w hs b z (C++[q.2]) cs V sp (tD N q.2) x9 x10 x11)):=by
   refine(aAq (i:=4) (xs:=C.map (tD N)) (d:=tD N q.2) rfl rfl (by rw[az];lia) (gM N _)).trans ?_;rw[show C.map (tD N)++[tD N q.2]=(C++[q.2]).map (tD N) by rw[cu];rfl];rfl
  have s1:dl1 (ds N 0xb w hs b z (C++[q.2]) cs V sp (tD N q.2) x9 x10 x11)=.ok (.nx (ds N 0xb w hs b z (C++[q.2]) cs V sp (tD N q.2) (.scr (HB N o)) x10 x11)):=bT (i:=9) (zN (bA (aC rfl (aC rfl 0x13)) wq) (Q5 N o));have s2:dl2 (ds N 0xb w hs b z (C++[q.2]) cs V sp (tD N q.2) (.scr (HB N o)) x10 x11)=.ok (.nx (ds N 0xb w hs b z (C++[q.2]) cs V sp (tD N q.2) (.scr (HB N o)) x10 x11)):=uB (cX (aJ (x:=.scr (HB N o)) (y:=.lst [.int (-1)]) rfl rfl ((wG rfl rfl (Q6 N o) rfl).trans (by rw[K6 N o _ 0x4];rfl)))) rfl;obtain⟨cs',V',sp',e3,ec,ev,es⟩:∃cs' V' sp',dl3 (ds N 0xb w hs b z (C++[q.2]) cs V sp (tD N q.2) (.scr (HB N o)) x10 x11)=.ok (.nx (ds N 0xb w hs b z (C++[q.2]) cs' V' sp' (tD N q.2) (.scr (HB N o)) x10 x11))/\ad cs (csO ((q,o)::P))=ad cs' (csO P)/\V++vsO ((q,o)::P)=V'++vsO P/\(sp||spO ((q,o)::P))=(sp'||spO P):=by
   cases o with
   |none=>exact⟨cs,V,ag,xR (cX (aJ (x:=.scr [.int 0]) (y:=.lst [.int 0]) rfl rfl rfl)) (bT (i:=7) rfl),rfl,rfl,by rw[show spO ((q,aj)::P)=ag from rfl,AZ,sR]⟩
   |some o=>
    obtain⟨W,v,δ⟩:=o;refine⟨ad cs δ,V++[W],sp,uB (cX (aJ (x:=.scr (wL N W δ)) (y:=.lst [.int 0]) rfl rfl ((wG rfl rfl (aAp N W δ) rfl).trans rfl))) (aL (ρ':=ds N 0xb w hs b z (C++[q.2]) cs (V++[W]) sp (tD N q.2) 0x1e x10 x11) ?_ ?_),(sX cs δ (csO P)).symm,by rw[b3];rfl,rfl⟩
    ·refine(oA (i:=6) (xs:=V.map (tD N)) (d:=tD N W) (aJ (x:=.scr (wL N W δ)) rfl rfl rfl) rfl (by rw[az,aZ];lia) (gM N _)).trans ?_;rw[show V.map (tD N)++[tD N W]=(V++[W]).map (tD N) by rw[cu];rfl];rfl
    ·have g:∀j x y,getD (cD cs) (.int j)=.ok (.int x)->getD 0x1e (.int (j+1))=.ok (.int y)->b2 (bG .add) (b2 getD jA (bC (.int j))) (b2 getD j5 (bC (.int (j+1)))) (ds N 0xb w hs b z (C++[q.2]) cs (V++[W]) sp (tD N q.2) 0x1e x10 x11)=.ok (.int (x+y)):=λj x y h1 h2=>aJ (aJ (x:=cD cs) rfl rfl h1) (aJ (x:=.scr (wL N W δ)) rfl rfl h2) (cV _ _)
     exact bT (i:=5) (oE (xs:=[.int (cs.c+δ.c),.int (cs.p+δ.p),.int (cs.d+δ.d)]) (aC (g 0 _ _ rfl rfl) (aC (g 1 _ _ rfl rfl) (aC (g 2 _ _ rfl rfl) rfl))) (by rw[aZ];show 3<=1000000;decide))
  have hV':V'.length<=V.length+1:=by
   have:=cy fT ev;rw[aT,aT] at this;have:(vsO ((q,o)::P)).length<=(vsO P).length+1:=by
    cases o with
    |none=>show(vsO P).length<=_;lia
    |some o=>show(vsO P).length+1<=_;lia
   lia
  obtain⟨x8',x9',e⟩:=Q7 P (λp hp=>h p (by simp[hp])) (C++[q.2]) V' cs' sp' (tD N q.2) (.scr (HB N o)) (by rw[aT,dP];lia) 0x1;refine⟨x8',x9',?_⟩;rw[ec,ev,es];refine cR (ρ1:=ds N 0xb w hs b z C cs V sp (tD N q.2) x9 x10 x11) rfl (aL s0 (aL s1 (aL s2 e3))) (e.trans ?_);rw[b3];rfl
end
theorem aIo(b:ah):∀(P:ae Po),(∀p∈P,Ot N M T R b p.1 p.2)->tot (csO P)<=(P.length*b:ah)
 |[],_=>by show(0:ai)<=_;lia
 | (q,aj)::P,h=>by
  have:=aIo b P λp hp=>h p (by simp[hp])
  show tot (csO P)<=(((P.length+1)*b:ah):ai);rw[lx];lia
 | (q,aa (W,v,δ))::P,h=>by
  obtain⟨_,_,tb,_⟩:Ot N M T R b q (aa (W,v,δ)):=h (q,aa (W,v,δ)) 0x2;have:=aIo b P λp hp=>h p (by simp[hp])
  show tot (ad δ (csO P))<=(((P.length+1)*b:ah):ai);rw[lx,dN];lia
theorem aAr(N:ae Str):∀V:ae (ae ah),(∀v∈V,v≠[])->rT (V.map (tD N))=aa (V.map λv=>v.map (sy N))
 |[],_=>rfl
 |[]::V,h=>bd rfl (h [] 0x2)
 | (x::v)::V,h=>by
  show(rT (V.map (tD N))).map ((sy N x::v.map (sy N))::·)=_;rw[aAr N V λv hv=>h v (by simp[hv])];rfl
theorem aDr(f:α->β)(V:ae (ae α)):(V.map λv=>v.map f).flatten=V.flatten.map f:=by
 rw[List.map_flatten]
theorem T6{R:ae Ru}(nd:(R.map λr=>(r.1,r.2.1)).Nodup)(hu:u∈R):R.filter (λr=>ϒ (r.1=u.1)&&ϒ (r.2.1=u.2.1))=[u]:=by
 induction R with
 |nil=>cases hu
 |cons x R ih=>
  rw[aI,fz] at nd;rcases cj.mp hu with rfl|hu
  ·rw[zd,aq (by rw[bt rfl,bt rfl];rfl)]
   congr 1
   rw[List.filter_eq_nil_iff];intro y hy z;rw[aS,cv,cv] at z;exact nd.1 (ck.mpr ⟨y,hy,by rw[z.1,z.2]⟩)
  ·have:¬(ϒ (x.1=u.1)&&ϒ (x.2.1=u.2.1))=ag:=λz=>by
    rw[aS,cv,cv] at z;exact nd.1 (ck.mpr ⟨u,hu,by rw[z.1,z.2]⟩)
   rw[zd,aw this,ih nd.2 hu]
theorem aIp(N:ae Str)(u:Ru)(n:ah):(ruD N u).iK (n+2)=ag:=by
 show(ag&&(ag&&(υ n (u.2.2.1.map (sy N))&&(υ n (u.2.2.2.map (sy N))&&ag))))=ag;rw[jT,jT];rfl
theorem aF9(V:ae D)(h:υ 11 V=ag):lG .ne (.lst V) (.lst [])=.ok (.bl (!V.isEmpty)):=by
 show(if υ 11 V&&ag then τ (χ (!nA V [])) else .bad)=_;rw[h];cases V<;>rfl
theorem aN3(V:ae D)(h:υ 11 V=ag):lG .eq (.lst V) (.lst [])=.ok (.bl V.isEmpty):=by
 show(if υ 11 V&&ag then τ (χ (nA V [])) else .bad)=_;rw[h];cases V<;>rfl
theorem uZ{f:α->D}(h:∀a,(f a).iK n=ag):∀L:ae α,υ n (L.map f)=ag
 |[]=>rfl
 |a::L=>by rw[aI,υ,h a,uZ h L];rfl
theorem aAs(N:ae Str)(w:ae ah)(n:ah):(tD N w).iK (n+1)=ag:=by
 show υ n (w.map (sy N))=ag;exact jT N n w
theorem tD0(N:ae Str)(x:ah)(w:ae ah):getD (tD N (x::w)) (.int 0)=.ok (sy N x):=yX rfl rfl
section
variable {N:ae Str} (hN:N.length=26) (hd:N.Nodup) {M:ae Rw} {T:ae Tk} {R:ae Ru} (B:Tab M T R) (b:ah) {ks w:ae ah} {hs:D} {z:ah} {C V:ae (ae ah)} {cs:Cn} {x8 x9 x10 x11:D}
include hN hd B
theorem aDs(hw:w=x::w')(hx:x<10)(hV:∀v∈V,∃y v',v=y::v'/\y<26):du5 (ds N 0xb w hs b z C cs V ak x8 x9 x10 x11)=.ok (.nx (ds N 0xb w hs b z C cs V ak x8 x9 (.lst []) x11)):=by
 subst hw;have hR:=B.hR.ln;have e:rlC (ds N 0xb (x::w') hs b z C cs V ak x8 x9 x10 x11)=.ok (.lst ((R.filter λ_=>ak).map (ruD N))):=by
  refine yU (kk:=ag) (ruD N) (ruD N) (λ_=>ak) R rfl ((dB 0x12).trans (by rw[bO (j4 N)];rfl)) 0x1 (λu hu=>?_) λu hu z=>by cases z
  match V,hV with
  |[],_=>exact W6 (cX 0x12)
  |v::V,hV=>
   obtain⟨y,v',rfl,hy⟩:=hV v 0x2;refine R8 (cX (aJ rfl rfl ((aF9 _ (uZ (λw=>aAs N w 10) _)).trans rfl))) ?_;have hu1:=B.rt u hu;have hu2:=B.hR.lt u hu;refine cX (aJ (eF (aC 0x12 (aC (aJ (x:=ruD N u) rfl rfl rfl) rfl)) (by rw[aZ];show 2<=1000000;decide)) (eF (aC (aJ (x:=tD N (x::w')) rfl rfl (tD0 ..)) (aC (aJ (x:=tD N (y::v')) (aJ (x:=.lst (((y::v')::V).map (tD N))) rfl rfl (fP (l:=(y::v')::V) (i:=0) rfl rfl)) rfl (tD0 ..)) rfl)) (by rw[aZ];show 2<=1000000;decide)) ?_);show τ (χ (eqD (sy N u.1) (sy N x)&&(eqD (sy N u.2.1) (sy N y)&&ag)))=_;rw[oU hN hd hu2.1 0x1,cx 0x1];rfl
 refine(bT (i:=10) e).trans ?_;rw[show(R.filter λ_=>ak)=[] by simp];rfl
theorem aIq(hu:u∈R)(hw:w=x::w')(hV:V=(y::v')::V')(h1:u.1=x)(h2:u.2.1=y):du5 (ds N 0xb w hs b z C cs V ak x8 x9 x10 x11)=.ok (.nx (ds N 0xb w hs b z C cs V ak x8 x9 (.lst [ruD N u]) x11)):=by
 subst hw hV h1 h2;have hR:=B.hR.ln;have hul:=B.hR.lt u hu;have e:rlC (ds N 0xb (u.1::w') hs b z C cs ((u.2.1::v')::V') ak x8 x9 x10 x11)=.ok (.lst ((R.filter λr=>ϒ (r.1=u.1)&&ϒ (r.2.1=u.2.1)).map (ruD N))):=by
  refine yU (kk:=ag) (ruD N) (ruD N) (λr=>ϒ (r.1=u.1)&&ϒ (r.2.1=u.2.1)) R rfl ((dB 0x12).trans (by rw[bO (j4 N)];rfl)) 0x1 (λr hr=>?_) λr hr _=>⟨rfl,j4 N r⟩
  refine R8 (cX (aJ rfl rfl ((aF9 _ (uZ (λw=>aAs N w 10) _)).trans rfl))) ?_;have hr2:=B.hR.lt r hr;refine cX (aJ (eF (aC 0x12 (aC (aJ (x:=ruD N r) rfl rfl rfl) rfl)) (by rw[aZ];show 2<=1000000;decide)) (eF (aC (aJ (x:=tD N (u.1::w')) rfl rfl (tD0 ..)) (aC (aJ (x:=tD N (u.2.1::v')) (aJ (x:=.lst (((u.2.1::v')::V').map (tD N))) rfl rfl (fP (l:=(u.2.1::v')::V') (i:=0) rfl rfl)) rfl (tD0 ..)) rfl)) (by rw[aZ];show 2<=1000000;decide)) ?_);show τ (χ (eqD (sy N r.1) (sy N u.1)&&(eqD (sy N r.2.1) (sy N u.2.1)&&ag)))=_;rw[oU hN hd hr2.1 hul.1,oU hN hd hr2.2 hul.2,kj]
 refine(bT (i:=10) e).trans ?_;rw[T6 B.hR.nd hu];rfl
omit hN hd B in
theorem aN4(hw:w=x::w')(hV:∀v∈V,v≠[])(hl:V.flatten.length<=9000):du6 (ds N g w hs b z C cs V ak x8 x9 (.lst []) x11)=.ok (.rt (.tup (.scr (wL N (x::V.flatten) cs)::ds N g w hs b z C cs V ak x8 x9 (.lst []) x11))):=by
 subst hw;refine xR (cX 0x12) (j0 (zN (aJ (x:=.lst [tD N (x::V.flatten)]) (oE (aC (nT (aJ (x:=.lst (V.map (tD N))) (y:=.tup [sy N x]) rfl ?_ ?_) (gM N _)) rfl) (by rw[aZ];show 1<=1000000;decide)) rfl ?_) (rJ N _ _)) rfl)
 ·show aPf (.tup ((x::w').map (sy N))) aj (aa ((1:ah):ai))=_;show(if ε ((x::w').map (sy N)) then τ (ν (cutD ((x::w').map (sy N)) aj (aa ((1:ah):ai)))) else .bad)=_;rw[bI,aq rfl,Z9];rfl
 ·show(match rT (V.map (tD N)) with|some ts=>if ϒ ([sy N x].length+ts.flatten.length<=lim) then τ (ν ([sy N x]++ts.flatten)) else .bad|none=>.bad)=_;rw[aAr N V hV];dsimp only;rw[aDr,az,aq (bt (by rw[aZ];show 1+_<=_;lia))];rfl
 ·exact uF [tD N (x::V.flatten)] [.int cs.c,.int cs.p,.int cs.d] (by rw[aZ];show 4<=1000000;decide) (by rw[ε,gM];rfl) rfl
end
noncomputable def cpN(ws:ae ah):ae Kn->ah
 |[]=>0
 |p::L=>(ws.count p.1-1)*p.2.2.1.length+cpN ws L
theorem aN5{a:FE}{lo hi:ae D->Res (ar ai)}{ρ:ae D}{x:D}{l h:ar ai}{r:Res D}(h1:a ρ=.ok x)(h2:lo ρ=.ok l)(h3:hi ρ=.ok h)(h4:aB0 x l h=r):oK a lo hi ρ=r:=by
 unfold oK;rw[h1,θ,h2,θ,h3,θ];exact h4
theorem aN6(x:ah)(ws:ae ah):∀(L:ae Kn),(∀p∈L,p.1≠x)->cs' (x::ws) L=cs' ws L
 |[],_=>rfl
 |p::L,h=>by
  show(x::ws).count p.1*_+cs' (x::ws) L=ws.count p.1*_+cs' ws L;rw[aN6 x ws L λp hp=>h p (by simp[hp]),kz,aw (by simpa using Ne.symm (h p 0x2)),oB]
theorem aFa(x:ah)(ws:ae ah):∀(L:ae Kn),(L.map (·.1)).Nodup->(∀p∈L,p.2.2.1.length<=mx)->cs' (x::ws) L<=cs' ws L+mx
 |[],_,_=>d6 _
 |p::L,nd,h=>by
  rw[aI,fz] at nd;show(x::ws).count p.1*_+cs' (x::ws) L<=ws.count p.1*_+cs' ws L+mx;by_cases hx:x=p.1
  ·rw[aN6 x ws L λq hq z=>nd.1 (by rw[<-hx,<-z];exact eh hq),kz,aq (by simpa using hx),lx,rj];have:=h p 0x2;lia
  ·have:=aFa x ws L nd.2 λp hp=>h p (by simp[hp])
   rw[kz,aw (by simpa using hx),oB];lia
theorem aAt(nd:(L.map (·.1)).Nodup)(h:∀p∈L,p.2.2.1.length<=mx):∀ws:ae ah,cs' ws L<=ws.length*mx
 |[]=>by
  have:∀L:ae Kn,cs' [] L=0:=by
   intro L;induction L with
   |nil=>rfl
   |cons p L ih=>show[].count p.1*_+cs' [] L=0;rw[ih,Cr,ve]
  rw[this];exact d6 _
 |x::ws=>by
  have:=aAt nd h ws;have:=aFa x ws L nd h;rw[bp,lx,rj];lia
theorem aN7(x:ah)(ws:ae ah):∀L:ae Kn,cpN (x::ws) L<=cs' ws L
 |[]=>bq _
 |p::L=>by
  have:=aN7 x ws L;show((x::ws).count p.1-1)*_+_<=ws.count p.1*_+_;have:(x::ws).count p.1-1<=ws.count p.1:=by rw[kz];split<;>lia
  have:=nI p.2.2.1.length this;lia
theorem aFb(ws:ae ah):∀(L:ae Kn)(k:Cn),(cT ws L k).p=k.p+(cpN ws L:ai)/\(cT ws L k).d<=k.d+(sl L:ai)
 |[],k=>⟨by show k.p=k.p+((0:ah):ai);lia,by show k.d<=k.d+((0:ah):ai);lia⟩
 |p::L,k=>by
  obtain⟨h1,h2⟩:=aFb ws L (k.use (ws.count p.1) (p.2.2.1.length:ai));show(cT ws L (k.use _ _)).p=k.p+(((ws.count p.1-1)*p.2.2.1.length+cpN ws L:ah):ai)/\(cT ws L (k.use _ _)).d<=k.d+((p.2.2.1.length+sl L:ah):ai);rw[h1];unfold Cn.use at h2 ⊢;by_cases hz:ws.count p.1=0
  ·rw[aq (by rw[hz];rfl)] at h2 ⊢;rw[hz,Cs,ve,lu];refine⟨rfl,?_⟩;have h2:_<=k.d+(p.2.2.1.length:ai)+(sl L:ai):=h2;refine Ct h2 ?_;lia
  ·rw[aw 0x1] at h2 ⊢;have e:((ws.count p.1:ai)-1)*(p.2.2.1.length:ai)=(((ws.count p.1-1)*p.2.2.1.length:ah):ai):=by
    rw[t9,Cj 0x1];rfl
   refine⟨?_,?_⟩
   ·show k.p+((ws.count p.1:ai)-1)*(p.2.2.1.length:ai)+(cpN ws L:ai)=_;rw[e];lia
   ·have h2:_<=k.d+(sl L:ai):=h2;refine Ct h2 ?_;lia
theorem aN8:∀(L:ae Kn),(∀p∈L,p.2.2.1.length<=mx)->sl L<=L.length*mx
 |[],_=>d6 _
 |p::L,h=>by
  have:=aN8 L λp hp=>h p (by simp[hp])
  have:=h p 0x2;show p.2.2.1.length+sl L<=(L.length+1)*mx;rw[lx,rj];lia
theorem aDt(KA:QT N M A)(h6:body.length<=6)(hm:∀p∈A,p.2.2.1.length<=1700)(h5:A.length<=5): (cT body A z0.call).p<=8500/\ (cT body A z0.call).d<=8500:=by
 obtain⟨h1,h2⟩:=aFb body A z0.call;have hs:=aN8 A hm;have h1: (cT body A z0.call).p=0+(cpN body A:ai):=h1;have h2: (cT body A z0.call).d<=0+(sl A:ai):=h2;have hs':sl A<=5*1700:=c_ hs (nI _ h5);refine⟨?_,by lia⟩;rw[h1];cases body with
 |nil=>
  have:∀L:ae Kn,cpN [] L=0:=by
   intro L;induction L with
   |nil=>rfl
   |cons p L ih=>show([].count p.1-1)*_+cpN [] L=0;rw[ih,Cr,Cs,ve]
  rw[this];decide
 |cons x ws=>
  have a:=aN7 x ws A;have c:=aAt KA.nd hm ws;rw[bp] at h6;have:ws.length*1700<=5*1700:=nI _ 0x1;lia
section
variable {N:ae Str} (hN:N.length=26) (hd:N.Nodup) {M:ae Rw} {T:ae Tk} {R:ae Ru} (B:Tab M T R) (b:ah) {ks w:ae ah} {z:ah} {C:ae (ae ah)} {cs:Cn} {x8 x9 x11:D}
abbrev hsD(N:ae Str)(M:ae Rw)(T:ae Tk):D:=.lst ((M++T.map tr).map (rwD N))
include hN hd B
theorem aN9{Q1:ae (ah×ae ah)}{A:ae Kn}{body:ae ah}{t:ah}{g:D}(h0:r0∈M)(hW:(Q1.map (·.2)).flatten=W0)(hQ:∀q∈Q1,Run M [q.1] q.2)(KA:QT N M A)(hv:vls A=Q1.map (·.2)++Vs)(h26:∀j∈body,j<26)(h6:body.length<=6)(hm:∀p∈A,p.2.2.1.length<=1700)(hWl:W0.length<=1700)(h5:A.length<=5):du7 (ds N g w (hsD N M T) b z C cs ((r0.1::W0)::Vs) ak x8 x9 (.lst [ruD N (t,r0.1,okn A,body)]) x11)=.ok (.nx (ds N g w (hsD N M T) b z C cs ((r0.1::W0)::Vs) ak x8 x9 (.lst [ruD N (t,r0.1,okn A,body)]) (.scr (wL N (sub A body) 0x18)))):=by
 have hQl:Q1.length+Vs.length<=5:=by
  have:=cy fT hv;unfold vls at this;rw[az,aT,az] at this;lia
 have bh:=G7 hN hd B.hF (r:=r0) (λq hq=>jO (λr hr=>ir _ hr) (hQ q hq)) 0x1 (by rw[hW];lia);rw[hW] at bh;have hsb:(sub A body).length<=90000:=by
  rw[sub_len];have:=aAd A body;have:=aAt KA.nd hm body;have:body.length*1700<=6*1700:=nI _ h6;lia
 have go:=aQ8 hN hd KA (t:=t) (mk:=r0.1) (body:=body) h26 0x1 (λp hp=>by have:=hm p hp;lia) hsb;rw[hv,cu] at go;generalize hρ:ds N g w (hsD N M T) b z C cs ((r0.1::W0)::Vs) ak x8 x9 (.lst [ruD N (t,r0.1,okn A,body)]) x11=ρ;have v6:b8 6 ρ=.ok (.lst (((r0.1::W0)::Vs).map (tD N))):=by rw[<-hρ];rfl
 have v2:b8 2 ρ=.ok (hsD N M T):=by rw[<-hρ];rfl
 have v10:b8 10 ρ=.ok (.lst [ruD N (t,r0.1,okn A,body)]):=by rw[<-hρ];rfl
 have e1:bD (nZ 2 dY) (aF (b2 getD nQ fD) (aF gF aY)) ρ=.ok (.lst ((Q1.map (·.2)).map (tD N))):=bA (xs:=[tD N (r0.1::W0),hsD N M T]) (aC (aJ v6 rfl (fP (l:=(r0.1::W0)::Vs) (i:=0) rfl rfl)) (aC v2 rfl)) bh;have e2:oK nQ (fZ c7) gR ρ=.ok (.lst (Vs.map (tD N))):=by
  refine aN5 v6 rfl rfl ?_;show aB0 (.lst (((r0.1::W0)::Vs).map (tD N))) (aa ((1:ah):ai)) aj=_;show(if ε (((r0.1::W0)::Vs).map (tD N)) then τ (ψ (cutD (((r0.1::W0)::Vs).map (tD N)) (aa ((1:ah):ai)) aj)) else .bad)=_;rw[qL,aq rfl,yV];rfl
 have e3:=bA (f:=nZ 2 h_) (ρ:=ρ) (xs:=[ruD N (t,r0.1,okn A,body),.lst ((Q1.map (·.2)).map (tD N)++Vs.map (tD N))]) (aC (aJ v10 (show bC (.int 0) ρ=.ok (.int 0) from rfl) (show getD (.lst [ruD N (t,r0.1,okn A,body)]) (.int 0)=.ok (ruD N (t,r0.1,okn A,body)) from rfl)) (aC (aJ e1 e2 (uF _ _ (by rw[az,az,az,aZ];lia) (qL N _) (qL N _))) (show aY ρ=.ok [] from rfl))) go;refine(bT (i:=11) (zN e3 (rJ N _ _))).trans ?_;rw[<-hρ];rfl
variable {V:ae (ae ah)} {x10:D} {g:D} {W:ae ah} {δ:Cn}
omit hN hd B
theorem aNa(h1:δ.c=1):du8 0xe=.ok (.nx (ds N g w (hsD N M T) b z C (ad cs δ) V ak x8 x9 x10 0x1e)):=by
 have e:(cs.c+1:ai)=(ad cs δ).c:=by show cs.c+1=cs.c+δ.c;rw[h1]
 have g1:∀(j:ai)(x:D),getD (cD cs) (.int j)=.ok x->b2 getD jA (bC (.int j)) 0xe=.ok x:=λj x h=>aJ rfl rfl h
 have g2:∀(j:ai)(x:D),getD 0x1e (.int j)=.ok x->b2 getD jW (bC (.int j)) 0xe=.ok x:=λj x h=>aJ rfl rfl h
 refine(bT (oE (xs:=[.int (cs.c+1),.int (cs.p+δ.p),.int (cs.d+δ.d)]) (aC (aJ (g1 0 _ rfl) rfl (cV _ _)) (aC (aJ (g1 1 _ rfl) (g2 2 _ rfl) (cV _ _)) (aC (aJ (g1 2 _ rfl) (g2 3 _ rfl) (cV _ _)) rfl))) (by rw[aZ];show 3<=1000000;decide))).trans ?_;rw[e];rfl
theorem aFc(hc:NN cs)(h1:cs.c<=9000)(h2:cs.p<=9000)(h3:cs.d<=9000):du9 (ds N g w (hsD N M T) b z C cs V ak x8 x9 x10 x11)=if (b:ai)<tot cs then .ok (.rt (.tup (.scr [.int 0]::ds N g w (hsD N M T) b z C cs V ak x8 x9 x10 x11))) else .ok (.nx (ds N g w (hsD N M T) b z C cs V ak x8 x9 x10 x11)):=by
 have t:=cX (aJ (aQa cs hc h1 h2 h3 (i:=5) rfl) (show b8 3 (ds N g w (hsD N M T) b z C cs V ak x8 x9 x10 x11)=.ok (.int b) from rfl) (cmp_gt _ _));by_cases hz:(b:ai)<tot cs
 ·rw[aq hz];rw[bt hz] at t;exact xR t (j0 (zN rfl rfl) rfl)
 ·rw[aw hz];rw[cx hz] at t;exact uB t rfl
theorem aFd(hc:NN cs)(h1:cs.c<=9000)(h2:cs.p<=9000)(h3:cs.d<=9000):du4 (ds N g w (hsD N M T) b z C cs V sp x8 x9 x10 x11)=if sp=ag\/(b:ai)<tot cs then .ok (.rt (.tup (.scr [.int 0]::ds N g w (hsD N M T) b z C cs V sp x8 x9 x10 x11))) else .ok (.nx (ds N g w (hsD N M T) b z C cs V sp x8 x9 x10 x11)):=by
 have t:=cX (aJ (aQa cs hc h1 h2 h3 (i:=5) rfl) (show b8 3 (ds N g w (hsD N M T) b z C cs V sp x8 x9 x10 x11)=.ok (.int b) from rfl) (cmp_gt _ _));cases sp with
 |true=>
  rw[aq (.inl rfl)];exact xR (aR2 (K1 rfl)) (j0 (zN rfl rfl) rfl)
 |false=>
  by_cases hz:(b:ai)<tot cs
  ·rw[aq (.inr hz)];rw[bt hz] at t;exact xR (aEs (K1 rfl) t) (j0 (zN rfl rfl) rfl)
  ·rw[aw (λq=>by rcases q with q|q;cases q;exact hz q)];rw[cx hz] at t;exact uB (aEs (K1 rfl) t) rfl
theorem aAu:aJ8 0xe=if 400<W.length then .ok (.rt (.tup (.scr [.int 1]::ds N g w (hsD N M T) b z C cs V ak x8 x9 x10 0x1e))) else .ok (.nx 0xe):=by
 have e:bD mG (aF (b2 getD jW fD) aY) 0xe=.ok (.int (W.length:ai)):=bA (aC 0x12 rfl) (by show τ (ι ((W.map (sy N)).length:ai))=_;rw[az]);have t:=cX (aJ e (show bC (.int 400) 0xe=.ok (.int 400) from rfl) (cmp_gt _ _));by_cases hz:400<W.length
 ·rw[aq hz];rw[bt 0x1] at t;exact xR t (j0 (zN rfl rfl) rfl)
 ·rw[aw hz];rw[cx 0x1] at t;exact uB t rfl
theorem aIr(hC:C.length<=10000):aJ9 0xe=.ok (.nx (ds N g w (hsD N M T) b z (C++[W]) cs V ak x8 x9 x10 0x1e)):=by
 refine(aAq 0x12 rfl (by rw[az];lia) (gM N _)).trans ?_;rw[show C.map (tD N)++[tD N W]=(C++[W]).map (tD N) by rw[cu];rfl];rfl
theorem aIs(hp:ε X=ag)(hc:NN cs)(h1:cs.c<=9000)(h2:cs.p<=9000)(h3:cs.d<=9000)(hw:nZ 3 cC [dJ N ks M T R,tD N W,.int (b-tot cs)]=.ok (.lst X)):aJ7 (ds N 0xb w (hsD N M T) b z C cs V ak x8 x9 x10 0x1e)=.ok (.nx (ds N 0xb w (hsD N M T) b z C cs V ak x8 (.scr X) x10 0x1e)):=by
 have e:=aQa cs hc h1 h2 h3 (ρ:=ds N 0xb w (hsD N M T) b z C cs V ak x8 x9 x10 0x1e) (i:=5) rfl;have v0:b8 0 (ds N 0xb w (hsD N M T) b z C cs V ak x8 x9 x10 0x1e)=.ok 0xb :=rfl;have v3:b8 3 (ds N 0xb w (hsD N M T) b z C cs V ak x8 x9 x10 0x1e)=.ok (.int b):=rfl;have v11:b2 getD jW fD (ds N 0xb w (hsD N M T) b z C cs V ak x8 x9 x10 0x1e)=.ok (tD N W):=aJ rfl rfl rfl;exact bT (zN (bA (aC v0 (aC v11 (aC (aJ v3 e (uE _ _)) rfl))) hw) hp)
theorem aDu:aEo (ds N g w (hsD N M T) b z C cs V ak x8 (.scr [.int 0]) x10 x11)=.ok (.rt (.tup (.scr [.int 0]::ds N g w (hsD N M T) b z C cs V ak x8 (.scr [.int 0]) x10 x11))):=xR (cX (aJ (bA 0x13 rfl) rfl rfl)) (j0 rfl rfl)
theorem aAv:aEo (ds N g w (hsD N M T) b z C cs V ak x8 0x1e x10 x11)=.ok (.nx (ds N g w (hsD N M T) b z C cs V ak x8 0x1e x10 x11)):=uB (cX (aJ (bA 0x13 rfl) rfl rfl)) rfl
theorem aIt:aHu (ds N g w (hsD N M T) b z C cs V ak x8 0x1e x10 x11)=.ok (.rt (.tup (.scr (wL N W (ad cs δ))::ds N g w (hsD N M T) b z C cs V ak x8 0x1e x10 x11))):=by
 have g1:∀(j:ai)(x:D),getD (cD cs) (.int j)=.ok x->b2 getD jA (bC (.int j)) (ds N g w (hsD N M T) b z C cs V ak x8 0x1e x10 x11)=.ok x:=λj x h=>aJ rfl rfl h
 have g2:∀(j:ai)(x:D),getD 0x1e (.int j)=.ok x->b2 getD j5 (bC (.int j)) (ds N g w (hsD N M T) b z C cs V ak x8 0x1e x10 x11)=.ok x:=λj x h=>aJ rfl rfl h
 exact j0 (zN (oE (aC (nT (g2 0 _ rfl) (gM N W)) (aC (aJ (g1 0 _ rfl) (g2 1 _ rfl) (cV _ _)) (aC (aJ (g1 1 _ rfl) (g2 2 _ rfl) (cV _ _)) (aC (aJ (g1 2 _ rfl) (g2 3 _ rfl) (cV _ _)) rfl)))) (by rw[aZ];show 4<=1000000;decide)) (rJ N _ _)) rfl
end
theorem aNb(h:f (xs++bX (m-n) .uD)=.ok (.rt (.tup (d::ρ)))):fnC j n m f xs=.ok (.tup [d,ρ.getD j .uD]):=by
 unfold fnC;rw[h];rfl
section
variable {N:ae Str} (hN:N.length=26) (hd:N.Nodup) {M:ae Rw} {T:ae Tk} {R:ae Ru} (B:Tab M T R) (b:ah) (hb:b<=200) {ks:ae ah}
include hN hd B hb
theorem aNc:∀(Q:ae (ah×ae ah)),(∀q∈Q,Run 0x11 [q.1] q.2/\q.2.length<=400)->∃P:ae Po,P.map (·.1)=Q/\∀p∈P,Ot N M T R b p.1 p.2
 |[],_=>⟨[],rfl,λp hp=>(by cases hp)⟩
 |q::Q,h=>by
  obtain⟨o,ho⟩:=aN1 hN hd B b hb (h q 0x2).1 (h q 0x2).2;obtain⟨P,p1,p2⟩:=aNc Q λq hq=>h q (by simp[hq])
  refine⟨(q,o)::P,by rw[aI,p1],λp hp=>?_⟩;rcases cj.mp hp with rfl|hp
  ·exact ho
  ·exact p2 p hp
def Tm(M:ae Rw)(T:ae Tk)(w:ae ah):Prop:=w.length<=400/\∃k,Run 0x11 [k] w
theorem aNd(hw:Tm M T w)(hC:C.length<=9000):∃(X:ae D)(C':ae (ae ah)),(∀z,lD [dJ N ks M T R,tD N w,hsD N M T,.int b,.cel z (C.map (tD N))]=.ok (.tup [.scr X,.cel z ((C++C').map (tD N))]))/\C'.length<=20/\(∀w'∈C',Tm M T w')/\ε X=ag/\(X=[.int 1]\/∃o,X=HB N o/\nZ 3 cC [dJ N ks M T R,tD N w,.int b]=.ok (.lst X)):=by
 obtain⟨hl,k,hr⟩:=hw;cases hr with
 |@step r _ W hr h=>
  rw[b5] at h;rw[bp] at hl;obtain⟨Q,q1,q2,q3⟩:=G6 h;have qlen:∀q∈Q,q.2.length<=400:=λq hq=>by
   have:=zM (eh (f:=(·.2)) hq);rw[q2] at this;lia
  obtain⟨P,p1,p2⟩:=aNc hN hd B b hb Q λq hq=>⟨q3 q hq,qlen q hq⟩
  have eW:wdO P=W:=by
   unfold wdO;rw[<-q2,<-p1,di];rfl
  have eK:P.map (·.1.1)=r.2.2:=by rw[<-q1,<-p1,di];rfl
  have eQ:Q.map (·.2)=P.map (·.1.2):=by rw[<-p1,di];rfl
  have hPl:P.length<=10:=by
   have:=cy fT eK;rw[az] at this;have:=(B.hF.lt r hr).2.2.2;lia
  have hT:∀w'∈P.map (·.1.2),Tm M T w':=λw' hw'=>by
   rw[<-eQ] at hw';obtain⟨q,hq,rfl⟩:=ck.mp hw';exact⟨qlen q hq,q.1,q3 q hq⟩
  have bh:=G7 hN hd B.hF (r:=r) (Q:=Q) q3 (by have:=cy fT p1;rw[az] at this;lia) (by rw[q2];lia);rw[q2,eQ] at bh;have hPO:∀p∈P,Ot N M T R b p.1 p.2/\p.1.2.length<=400:=λp hp=>⟨p2 p hp,qlen p.1 (by rw[<-p1];exact eh (f:=(·.1)) hp)⟩
  -- up to the loop's end
  have start:∀z,∃x8 x9,∀Y:Res Fl,bF du4 (bF du5 (bF du6 (bF du7 (bF du8 (bF du9 (bF aJ8 (bF aJ9 (bF aJ7 (bF aEo aHu))))))))) (ds N 0xb (r.1::W) (hsD N M T) b z (C++P.map (·.1.2)) (csO P) (vsO P) (spO P) x8 x9 .uD .uD)=Y->lC [dJ N ks M T R,tD N (r.1::W),hsD N M T,.int b,.cel z (C.map (tD N)),.uD,.uD,.uD,.uD,.uD,.uD,.uD]=Y:=λz=>by
   obtain⟨x8,x9,e⟩:=Q7 hN hd B b hb (ks:=ks) (w:=r.1::W) (hs:=hsD N M T) (z:=z) (x10:=.uD) (x11:=.uD) P hPO C [] z0 ak .uD .uD 0x1 (by rw[ef];lia);rw[aR4,eJ,s_] at e;refine⟨x8,x9,λY hY=>?_⟩;unfold lC;refine aL (ρ':=[dJ N ks M T R,tD N (r.1::W),hsD N M T,.int b,.cel z (C.map (tD N)),cD z0,.uD,.uD,.uD,.uD,.uD,.uD]) (bT (i:=5) rfl) ?_;refine aL (ρ':=[dJ N ks M T R,tD N (r.1::W),hsD N M T,.int b,.cel z (C.map (tD N)),cD z0,.lst [],.uD,.uD,.uD,.uD,.uD]) (eG (i:=6) rfl rfl) ?_;refine aL (ρ':=ds N 0xb (r.1::W) (hsD N M T) b z C z0 [] ak .uD .uD .uD .uD) (bT (i:=7) rfl) ?_;refine aL (n_ (xs:=(P.map (·.1.2)).map (tD N)) ?_ e) hY;have e1:bD (nZ 2 dY) (aF iT (aF gF aY)) (ds N 0xb (r.1::W) (hsD N M T) b z C z0 [] ak .uD .uD .uD .uD)=.ok (.lst ((P.map (·.1.2)).map (tD N))):=bA (xs:=[tD N (r.1::W),hsD N M T]) (aC rfl 0x13) bh;exact lF e1
  have fin:∀{z:ah}{X:ae D}{g:D}{w:ae ah}{hs:D}{C2:ae (ae ah)}{cs:Cn}{V:ae (ae ah)}{sp:ax}{x8 x9 x10 x11:D},lC [dJ N ks M T R,tD N (r.1::W),hsD N M T,.int b,.cel z (C.map (tD N)),.uD,.uD,.uD,.uD,.uD,.uD,.uD]=.ok (.rt (.tup (.scr X::ds N g w hs b z C2 cs V sp x8 x9 x10 x11)))->lD [dJ N ks M T R,tD N (r.1::W),hsD N M T,.int b,.cel z (C.map (tD N))]=.ok (.tup [.scr X,.cel z (C2.map (tD N))]):=λ{z X g w hs C2 cs V sp x8 x9 x10 x11} h=>by
   have:=aNb (j:=4) (n:=5) (m:=12) (f:=lC) (xs:=[dJ N ks M T R,tD N (r.1::W),hsD N M T,.int b,.cel z (C.map (tD N))]) (d:=.scr X) (ρ:=ds N g w hs b z C2 cs V sp x8 x9 x10 x11) h;exact this
  have ncs:=T4 b P p2;have lcs:=aIo b P p2;have lcs2:tot (csO P)<=2000:=by
   have:P.length*b<=10*200:=Nat.mul_le_mul hPl hb;lia
  have cc:(csO P).c<=9000/\(csO P).p<=9000/\(csO P).d<=9000:=by
   have:=ncs.c;have:=ncs.p;have:=ncs.d;have:(csO P).c+(csO P).p+(csO P).d<=2000:=lcs2;lia
  by_cases hsp:spO P=ag\/(b:ai)<tot (csO P)
  ·-- spent
   refine⟨[.int 0],P.map (·.1.2),λz=>?_,by rw[az];lia,hT,rfl,.inr ⟨aj,rfl,?_⟩⟩
   ·obtain⟨x8,x9,st⟩:=start z;exact fin (st _ (rW ((aFd b ncs cc.1 cc.2.1 cc.2.2).trans (aq hsp))))
   ·have:=aDp b p2 hPl (k:=r.2.1) (x:=r.1) (by
     rcases hsp with hsp|hsp
     ·exact .inl hsp
     ·by_cases hz:spO P=ag
      ·exact .inl hz
      ·exact .inr ⟨by simpa using hz,hsp⟩)
    rw[eW] at this;exact uY hN hd B 0x1 this
  ·have hs0:spO P=ak:=by
    cases hz:spO P with
    |true=>exact bd (.inl hz) hsp
    |false=>rfl
   have hle:tot (csO P)<=b:=Cu.mp λz=>hsp (.inr z)
   have hwd:(wdO P).length<=400:=by rw[eW];lia
   obtain⟨rdP,_,_,lwP⟩:=(mC b P p2).1 hs0;rw[eW] at lwP;have s4:∀(z:ah)(x8 x9:D),du4 (ds N 0xb (r.1::W) (hsD N M T) b z (C++P.map (·.1.2)) (csO P) (vsO P) (spO P) x8 x9 .uD .uD)=.ok (.nx (ds N 0xb (r.1::W) (hsD N M T) b z (C++P.map (·.1.2)) (csO P) (vsO P) ak x8 x9 .uD .uD)):=λz x8 x9=>by
    rw[aFd b ncs cc.1 cc.2.1 cc.2.2,aw hsp,hs0]
   have hvv:∀v∈vsO P,∃y v',v=y::v'/\y<26:=by
    obtain⟨Q2,d1,d2,d3,d4⟩:=aQ9 b P p2 hs0;intro v hv;rw[<-d2] at hv;obtain⟨q,hq,rfl⟩:=ck.mp hv;obtain⟨r0,ps,W',hr0,_,eq,_⟩:=(d3 q hq).one;exact⟨r0.1,W',eq,(B.hM.lt r0 hr0).1⟩
   rcases dz.mp hr with hM|hM
   ·-- a maker
    obtain⟨v,en⟩:=aDq hN hd B b hb p2 hPl hwd hM eK hs0 hle;rw[eW] at en;refine⟨wL N (r.1::(vsO P).flatten) (csO P),P.map (·.1.2),λz=>?_,by rw[az];lia,hT,rJ N _ _,.inr ⟨aa (r.1::(vsO P).flatten,v,csO P),rfl,uY hN hd B 0x1 en⟩⟩;obtain⟨x8,x9,st⟩:=start z;refine fin (st _ (aL (s4 z x8 x9) (aL (aDs hN hd B b rfl (B.mi r hM).1 hvv) (rW (aN4 b rfl (λv hv=>?_) 0x1)))));obtain⟨y,v',rfl,_⟩:=hvv v hv;exact List.cons_ne_nil _ _
   ·-- a call
    obtain⟨t,ht,rfl⟩:=ck.mp hM;obtain⟨r0,W0,Vs,Q1,A,body,eV,hr0,hW0,hQ1,hru,KA,hvl,h26,h6,hbr,hm,hWl,h5,nu,spc,okc⟩:=T5 hN hd B b hb p2 hPl hwd ht eK hs0 hle;rw[eW] at spc okc;have few:=aDt KA h6 hm h5;have uc: (cT body A z0.call).c=1:=by rw[aF7];rfl
    generalize hδ:cT body A z0.call=δ0 at nu spc okc few uc;have nad:=ncs.ad nu;have cd:(ad (csO P) δ0).c<=9000/\(ad (csO P) δ0).p<=9000/\(ad (csO P) δ0).d<=9000:=by
     have:=ncs.c;have:=ncs.p;have:=ncs.d;have:(csO P).c+(csO P).p+(csO P).d<=b:=hle;show(csO P).c+δ0.c<=9000/\(csO P).p+δ0.p<=9000/\(csO P).d+δ0.d<=9000;lia
    have mid:∀(z:ah)(x8 x9:D)(Y:Res Fl),bF du9 (bF aJ8 (bF aJ9 (bF aJ7 (bF aEo aHu)))) (ds N 0xb (t.1::W) (hsD N M T) b z (C++P.map (·.1.2)) (ad (csO P) δ0) (vsO P) ak x8 x9 (.lst [ruD N (t.1,r0.1,okn A,body)]) (.scr (wL N (sub A body) δ0)))=Y->bF du4 (bF du5 (bF du6 (bF du7 (bF du8 (bF du9 (bF aJ8 (bF aJ9 (bF aJ7 (bF aEo aHu))))))))) (ds N 0xb (t.1::W) (hsD N M T) b z (C++P.map (·.1.2)) (csO P) (vsO P) (spO P) x8 x9 .uD .uD)=Y:=λz x8 x9 Y hY=>by
     refine aL (s4 z x8 x9) (aL (aIq hN hd B b hru rfl eV rfl rfl) (aL (ρ':=ds N 0xb (t.1::W) (hsD N M T) b z (C++P.map (·.1.2)) (csO P) (vsO P) ak x8 x9 (.lst [ruD N (t.1,r0.1,okn A,body)]) .uD) ?_ ?_))
     ·refine uB (cX (aJ (x:=.lst [ruD N (t.1,r0.1,okn A,body)]) rfl rfl ((aN3 _ ?_).trans rfl))) rfl;show((ruD N (t.1,r0.1,okn A,body)).iK 11&&ag)=ag;rw[aIp N _ 9];rfl
     ·have s7:=aN9 hN hd B b (w:=t.1::W) (z:=z) (C:=C++P.map (·.1.2)) (cs:=csO P) (x8:=x8) (x9:=x9) (x11:=.uD) (t:=t.1) (g:=dJ N ks M T R) hr0 hW0 hQ1 KA hvl h26 h6 hm hWl h5;rw[<-eV,hδ] at s7;exact aL s7 (aL (aNa b uc) hY)
    by_cases ho:(b:ai)<tot (ad (csO P) δ0)
    ·refine⟨[.int 0],P.map (·.1.2),λz=>?_,by rw[az];lia,hT,rfl,.inr ⟨aj,rfl,uY hN hd B 0x1 (spc ho)⟩⟩;obtain⟨x8,x9,st⟩:=start z;exact fin (st _ (mid z x8 x9 _ (rW ((aFc b nad cd.1 cd.2.1 cd.2.2).trans (aq ho)))))
    ·have s9:∀(z:ah)(x8 x9 x10 x11:D),du9 (ds N 0xb (t.1::W) (hsD N M T) b z (C++P.map (·.1.2)) (ad (csO P) δ0) (vsO P) ak x8 x9 x10 x11)=.ok (.nx (ds N 0xb (t.1::W) (hsD N M T) b z (C++P.map (·.1.2)) (ad (csO P) δ0) (vsO P) ak x8 x9 x10 x11)):=λz x8 x9 x10 x11=>(aFc b nad cd.1 cd.2.1 cd.2.2).trans (aw ho)
     by_cases hlong:400<(sub A body).length
     ·refine⟨[.int 1],P.map (·.1.2),λz=>?_,by rw[az];lia,hT,rfl,.inl rfl⟩;obtain⟨x8,x9,st⟩:=start z;exact fin (st _ (mid z x8 x9 _ (aL (s9 z x8 x9 _ _) (rW ((aAu b).trans (aq hlong))))))
     ·obtain⟨o,b2,hb2,eb2,en2,en⟩:=okc (Cu.mp ho) (Cw.mp hlong);have w2:=uY hN hd B (ks:=ks) hb2 en2;rw[eb2] at w2;have hsub:Tm M T (sub A body):=⟨Cw.mp hlong,t.2.1,aIe KA (λr hr=>ir _ hr) (λq hq=>by
       rcases dz.mp hq with hq|hq
       ·have:=(B.mi q hq).1;lia
       ·obtain⟨t',ht',rfl⟩:=ck.mp hq;exact(B.ti t' ht').2.1) hbr⟩
      have tail:∀(z:ah)(x8 x9:D)(Y:Res Fl),bF aEo aHu (ds N 0xb (t.1::W) (hsD N M T) b z (C++P.map (·.1.2)++[sub A body]) (ad (csO P) δ0) (vsO P) ak x8 (.scr (HB N o)) (.lst [ruD N (t.1,r0.1,okn A,body)]) (.scr (wL N (sub A body) δ0)))=Y->bF du9 (bF aJ8 (bF aJ9 (bF aJ7 (bF aEo aHu)))) (ds N 0xb (t.1::W) (hsD N M T) b z (C++P.map (·.1.2)) (ad (csO P) δ0) (vsO P) ak x8 x9 (.lst [ruD N (t.1,r0.1,okn A,body)]) (.scr (wL N (sub A body) δ0)))=Y:=λz x8 x9 Y hY=>
       aL (s9 z x8 x9 _ _) (aL ((aAu b).trans (aw hlong)) (aL (aIr b (by rw[aT,az];lia)) (aL (aIs b (Q5 N o) nad cd.1 cd.2.1 cd.2.2 w2) hY)))
      have hC':(P.map (·.1.2)++[sub A body]).length<=20:=by rw[aT,az,dP];lia
      have hT':∀w'∈P.map (·.1.2)++[sub A body],Tm M T w':=λw' hw'=>by
       rcases dz.mp hw' with hw'|hw'
       ·exact hT w' hw'
       ·rw[mj] at hw';subst hw';exact hsub
      cases o with
      |none=>
       refine⟨[.int 0],P.map (·.1.2)++[sub A body],λz=>?_,hC',hT',rfl,.inr ⟨aj,rfl,uY hN hd B 0x1 en⟩⟩;obtain⟨x8,x9,st⟩:=start z;rw[<-b3];exact fin (st _ (mid z x8 x9 _ (tail z x8 x9 _ (rW (aDu b)))))
      |some o=>
       obtain⟨Wb,vb,δb⟩:=o;refine⟨wL N Wb (ad (ad (csO P) δ0) δb),P.map (·.1.2)++[sub A body],λz=>?_,hC',hT',rJ N _ _,.inr ⟨aa (Wb,vb,ad (ad (csO P) δ0) δb),rfl,uY hN hd B 0x1 en⟩⟩;obtain⟨x8,x9,st⟩:=start z;rw[<-b3];exact fin (st _ (mid z x8 x9 _ (tail z x8 x9 _ (aL (aAv b) (aIt b)))))
end
theorem aIu(h:f ρ=.ok (.lst ys,ρ'))(h0:ρ.getD i .uD=.lst xs0)(h1:ρ'.getD i .uD=.lst xs)(hl:xs.length+ys.length<=10000)(hp:ε ys=ag):S_ i f ρ=.ok (.nx (ρ'.set i (.lst (xs++ys)))):=by
 unfold S_;rw[h,θ,h0];dsimp only;rw[h1];dsimp only;rw[aq (by rw[hp,aZ,bt 0x1];rfl)]
def teX:FX:=dZ dH 5 1 (aF j5 (aF tU (aF qC (aF oV aY))))
def lx2:FS:=IW (bR (b2 xU (jB (aF (b2 getD j8 iU) aY)) (b2 getD j8 jH)) ak) (tg1 13) (S_ 11 teX)
def lw9:FS:=sIf (bTB (b2 (lG .eq) (b2 (bG .mod) gF iU) fD)) (bF lx0 (bF lx1 lx2)) tW
theorem aIv(h:f ρ=.ok (.lst xs,ρ1))(hl:xs.length=is.length)(he:IV is xs ρ1=ρ'):aCg f is ρ=.ok (.nx ρ'):=by
 subst he;unfold aCg;rw[h,θ];dsimp only;rw[aq (bt hl)]
theorem aS3(ns:ae ai):(ns.map ι).all isI=ag:=by
 rw[gq];intro x hx;obtain⟨i,_,rfl⟩:=ck.mp hx;rfl
theorem aNe(ns:ae ai)(r:ae D):∃cs:ae ai,lw0 (.scr (ns.map ι)::.uD::r)=.ok (.nx (.scr (ns.map ι)::.lst (dk cs 0)::r)):=by
 refine⟨cutD ns aj (aa 120),eG ?_ (jR _ _)⟩;have h1:oK nO gR (fZ V4) (.scr (ns.map ι)::.uD::r)=.ok (.lst ((cutD ns aj (aa 120)).map ι)):=by
  rw[<-aGq];show(if ε (ns.map ι) then τ (ψ (cutD (ns.map ι) aj (aa 120))) else .bad)=_;rw[qT];rfl
 have h2:jJ (aF (oK nO gR (fZ V4)) (aF fD aY)) (.scr (ns.map ι)::.uD::r)=.ok (.lst [.lst ((cutD ns aj (aa 120)).map ι),.int 0]):=oE (aC h1 rfl) (by rw[aZ];simp);unfold aOu;rw[h2,θ];show(do let r <- aGx [.lst ((cutD ns aj (aa 120)).map ι),.int 0];τ (ψ r))=_;have h3:aGx [.lst ((cutD ns aj (aa 120)).map ι),.int 0]=.ok (dk (cutD ns aj (aa 120)) 0):=by
  show(if ((cutD ns aj (aa 120)).map ι).all isI&&ε [.int 0] then τ (D.scr ((cutD ns aj (aa 120)).map ι)::[.int 0]) else .bad)=_;rw[aS3];rfl
 rw[h3];rfl
theorem aIw(i:ai)(h0:0<=i)(h1:i<3):∃t:ah,getD (.lst [.int 3,.int 9,.int 30]) (.int i)=.ok (.int (t:ai))/\t<=30:=by
 have:i=0\/i=1\/i=2:=by lia
 rcases this with h|h|h<;>subst h
 ·exact⟨3,rfl,by decide⟩
 ·exact⟨9,rfl,by decide⟩
 ·exact⟨30,rfl,by decide⟩
theorem aAw(h1:fs ρ=.ok vs)(h2:ρ.getD i .uD=.lst xs)(h3:(ϒ (vs.length=n)&&(ϒ (j<n)&&isU (vs.getD j .non)))=ag)(h4:∀b,f (vs.set j (.cel b xs))=.ok (.tup [r,.cel b xs']))(hp:r.pure=ag)(hq:ε xs'=ag):QC f n j i fs ρ=.ok (r,ρ.set i (.lst xs')):=by
 unfold QC;rw[h1,θ,h2];dsimp only;rw[aq h3,aLw h4,θ];dsimp only;rw[aq (by rw[hp,hq];rfl)]
abbrev LS(ns cs:ae ai)(n:ah)(x2 x3 x4 x5 x6 x7 x8 x9 x10 x11 x12 x13 x14 x15 x16 x17 x18:D):ae D:=[.scr (ns.map ι),.lst (dk cs n),x2,x3,x4,x5,x6,x7,x8,x9,x10,x11,x12,x13,x14,x15,x16,x17,x18]
theorem aNf{ns cs:ae ai}(q:ch1 a_ (dk cs n) []=.ok (.int v,dk cs (n+1))):lw2 (LS ns cs n x2 .uD .uD .uD .uD .uD .uD .uD .uD .uD .uD .uD .uD .uD .uD .uD .uD)=.ok (.nx (LS ns cs (n+1) x2 (.int (v % 31)) .uD .uD .uD .uD .uD .uD .uD .uD .uD .uD .uD .uD .uD .uD .uD)):=gK (wA (uU q rfl rfl) rfl rfl (cA _ _ 0x4) rfl) rfl
theorem aNg{ns cs:ae ai}(h0:0<=v)(h1:v<31):∃b:ah,b<=200/\lw3 (LS ns cs n (.int cell) (.int v) .uD .uD .uD .uD .uD .uD .uD .uD .uD .uD .uD .uD .uD .uD .uD)=.ok (.nx (LS ns cs n (.int cell) (.int (b:ai)) .uD .uD .uD .uD .uD .uD .uD .uD .uD .uD .uD .uD .uD .uD .uD)):=by
 have hc:bTB (b2 (lG .eq) (b2 (bG .mod) (b2 (bG .fdiv) gF aBm) aE6) c7) (LS ns cs n (.int cell) (.int v) .uD .uD .uD .uD .uD .uD .uD .uD .uD .uD .uD .uD .uD .uD .uD)=.ok (cell / 18 % 4==1):=cX (aJ (aJ (aJ rfl rfl (dX _ _ 0x4 0x4)) rfl (cA _ _ 0x4)) rfl (l_ _ _));cases hz:(cell / 18 % 4==1) with
 |true=>
  rw[hz] at hc;refine⟨(v*6).toNat,by lia,?_⟩;rw[show(((v*6).toNat:ah):ai)=v*6 by lia];exact xR hc (bT (aJ rfl rfl (lZ _ _ rfl)))
 |false=>
  rw[hz] at hc;refine⟨v.toNat,by lia,?_⟩;rw[show((v.toNat:ah):ai)=v by lia];exact uB hc rfl
abbrev LT(ns cs:ae ai)(N:ae Str)(m:ah)(M:ae Rw)(T:ae Tk)(l:ah->ah)(n:ah)(cell:ai)(b:ah)(x9 x10 x11 x12 x13 x14 x15 x16 x17 x18:D):ae D:=LS ns cs n (.int cell) (.int (b:ai)) (.lst 0x10) (.lst 0x20) (.lst (M.map (rwD N))) (.lst 0x17) (.dct (lsD N m l)) x9 x10 x11 x12 x13 x14 x15 x16 x17 x18
section
variable {ns cs:ae ai} {N:ae Str} (hN:N.length=26) (hd:N.Nodup) {m:ah} {M:ae Rw} {T:ae Tk} {l:ah->ah} (G:Sig m M T l) {cell:ai} {b most:ah} (hmo:most<=30)
include hN hd G hmo
theorem aAx:∀(ks:ae ah),(∀k∈ks,k<m)->∀(W:ae ah)(n:ah)(c:D),n+40*ks.length<=3000->W.length+40*ks.length<=5000->∃(V:ae ah)(n':ah)(c':D),Run 0x11 ks V/\V.length<=40*ks.length/\n'<=n+40*ks.length/\oW (tg1 13) (S_ 11 teX) (ks.map (sy N)) (LT ns cs N m M T l n cell b (hsD N M T) 0x1d (.lst 0x1b) x12 c .uD .uD .uD .uD .uD)=.ok (.nx (LT ns cs N m M T l n' cell b (hsD N M T) 0x1d (.lst ((W++V).map (sy N))) x12 c' .uD .uD .uD .uD .uD))
 |[],_,W,n,c,_,_=>⟨[],n,c,.nil,d6 _,by lia,by rw[b5];rfl⟩
 |k::ks,hk,W,n,c,hn,hW=>by
  rw[bp] at hn hW;have PL:=rH G [] (λr hr=>(by cases hr)) 0x4;rw[eJ] at PL;obtain⟨V,n1,v1,v2,v3,v4⟩:=zF hN hd cs (n:=n) PL (most:=most) (hk k 0x2) 0x1 0x1;have hm4:max most 4<=40:=by lia
  obtain⟨V2,n2,c2,q1,q2,q3,q4⟩:=aAx ks (λx hx=>hk x (by simp[hx])) (W++V) n1 (sy N k) 0x1 (by rw[aT];lia);refine⟨V++V2,n2,c2,aAh (a:=[k]) v1 q1,by rw[aT,bp];lia,by rw[bp];lia,?_⟩;rw[aI];have hx:teX (LT ns cs N m M T l n cell b (hsD N M T) 0x1d (.lst 0x1b) x12 (sy N k) .uD .uD .uD .uD .uD)=.ok (.lst (V.map (sy N)),LT ns cs N m M T l n1 cell b (hsD N M T) 0x1d (.lst 0x1b) x12 (sy N k) .uD .uD .uD .uD .uD):=iZ (ρ:=LT ns cs N m M T l n cell b (hsD N M T) 0x1d (.lst 0x1b) x12 (sy N k) .uD .uD .uD .uD .uD) (i:=1) (h:=dk cs n) (h':=dk cs n1) (r:=.lst (V.map (sy N))) (rest:=[hsD N M T,sy N k,.int most,.dct (lsD N m l)]) (aC rfl (aC rfl (aC rfl 0x13))) rfl rfl v4 (jR cs n1) rfl;refine cR (ρ1:=LT ns cs N m M T l n cell b (hsD N M T) 0x1d (.lst 0x1b) x12 (sy N k) .uD .uD .uD .uD .uD) (ρ2:=LT ns cs N m M T l n1 cell b (hsD N M T) 0x1d (.lst ((W++V).map (sy N))) x12 (sy N k) .uD .uD .uD .uD .uD) rfl ((aIu (i:=11) (xs0:=W.map (sy N)) (xs:=W.map (sy N)) (ys:=V.map (sy N)) hx rfl rfl (by rw[az,az];lia) (bI ..)).trans ?_) (q4.trans ?_)
  ·rw[<-cu];rfl
  ·rw[b3]
theorem aIx(hn:n<=1000):∃(V:ae ah)(n':ah)(x12 x13:D),Tm M T V/\n'<=n+200/\∀Y,bF aPk (bF aPj (bF aPl (bF aPm (bF aPi aPn)))) (LT ns cs N m M T l n' cell b (hsD N M T) 0x1d 0x21 x12 x13 .uD .uD .uD .uD .uD)=Y->bF lw8 (bF lw9 (bF aPk (bF aPj (bF aPl (bF aPm (bF aPi aPn)))))) (LT ns cs N m M T l n cell b (hsD N M T) 0x1d .uD .uD .uD .uD .uD .uD .uD .uD)=Y:=by
 have PL:=rH G [] (λr hr=>(by cases hr)) 0x4;rw[eJ] at PL;have m1:=G.m1;have hm4:max most 4<=40:=by lia
 obtain⟨k,k1,k2⟩:=kix m1 (cell / 6);obtain⟨V,n1,v1,v2,v3,v4⟩:=zF hN hd cs (n:=n) PL (k:=k) (most:=most) k1 0x1 0x1;have e8:lw8 (LT ns cs N m M T l n cell b (hsD N M T) 0x1d .uD .uD .uD .uD .uD .uD .uD .uD)=.ok (.nx (LT ns cs N m M T l n1 cell b (hsD N M T) 0x1d 0x21 .uD .uD .uD .uD .uD .uD .uD)):=by
  have ha:aF j5 (aF (bPu (b2 getD jA (b2 (bG .mod) (b2 (bG .fdiv) gF MP) (bD mG (aF jA aY))))) (aF qC (aF oV aY))) (LT ns cs N m M T l n cell b (hsD N M T) 0x1d .uD .uD .uD .uD .uD .uD .uD .uD)=.ok [hsD N M T,sy N k,.int (most:ai),.dct (lsD N m l)]:=by
   refine aC rfl (aC (nT (aJ rfl (aJ (aJ (x:=.int cell) rfl rfl (dX _ _ 0x4 0x4)) (y:=.int (m:ai)) (bA 0x13 ?_) (cA _ _ 0x1)) (iH k2 k1)) rfl) (aC rfl 0x13));show τ (ι (((bj m).map (sy N)).length:ai))=_;rw[az,eT]
  exact aD9 (i:=11) (iZ (ρ:=LT ns cs N m M T l n cell b (hsD N M T) 0x1d .uD .uD .uD .uD .uD .uD .uD .uD) (i:=1) (h:=dk cs n) (h':=dk cs n1) (r:=.lst (V.map (sy N))) ha rfl rfl v4 (jR cs n1) rfl) (bI N V) rfl
 have hc:bTB (b2 (lG .eq) (b2 (bG .mod) gF iU) fD) (LT ns cs N m M T l n1 cell b (hsD N M T) 0x1d 0x21 .uD .uD .uD .uD .uD .uD .uD)=.ok (cell % 2==0):=cX (aJ (aJ (x:=.int cell) rfl rfl (cA _ _ 0x4)) rfl (l_ _ _));cases hz:(cell % 2==0) with
 |false=>
  rw[hz] at hc;exact⟨V,n1,.uD,.uD,⟨by lia,k,v1⟩,by lia,λY hY=>aL e8 (aL (uB hc rfl) hY)⟩
 |true=>
  rw[hz] at hc;have lT:0<T.length:=G.t1;obtain⟨i,i1,i2⟩:=kix (m:=T.length) 0x1 (cell / 6);have hi:T[i]?=aa T[i]:=dj i1;have htT:T[i]∈T:=xw i1;generalize T[i]=t at hi htT;obtain⟨g1,g2,g3,g4⟩:=G.tg t htT;have hkl:(t.2.2.1::t.2.2.2).length<=3:=by rw[bp];lia
  obtain⟨V2,n2,c2,q1,q2,q3,q4⟩:=aAx (ns:=ns) (cs:=cs) hN hd G (cell:=cell) (b:=b) hmo (x12:=tkD N t) (t.2.2.1::t.2.2.2) (λk hk=>by
   rcases cj.mp hk with rfl|hk
   ·exact g2
   ·exact g3 k hk) [t.1] n1 .uD 0x1 (by show 1+_<=_;lia)
  have hrun:Run 0x11 [t.2.1] (t.1::V2):=.step (r:=tr t) (rest:=[]) (eM _ (eh (f:=tr) htT)) (by rw[b5];exact q1);refine⟨t.1::V2,n2,tkD N t,c2,⟨by rw[bp];lia,t.2.1,hrun⟩,by lia,λY hY=>aL e8 (aL (xR hc ?_) hY)⟩;refine aL (ρ':=LT ns cs N m M T l n1 cell b (hsD N M T) 0x1d 0x21 (tkD N t) .uD .uD .uD .uD .uD .uD) (gH (i:=12) (d:=tkD N t) (aJ (x:=.lst 0x17) rfl (aJ (aJ (x:=.int cell) rfl rfl (dX _ _ 0x4 0x4)) (y:=.int (T.length:ai)) (bA 0x13 ?_) (cA _ _ 0x1)) (fP i2 hi)) (rE ..)) ?_
  ·show τ (ι ((T.map (tkD N)).length:ai))=_;rw[az]
  have y1:=(uX (N:=N) (t:=t) (i:=12) (ρ:=LT ns cs N m M T l n1 cell b (hsD N M T) 0x1d 0x21 (tkD N t) .uD .uD .uD .uD .uD .uD) rfl).1;refine aL (ρ':=LT ns cs N m M T l n1 cell b (hsD N M T) 0x1d (.lst ([t.1].map (sy N))) (tkD N t) .uD .uD .uD .uD .uD .uD) (eG (i:=11) (oE (xs:=[sy N t.1]) (aC (nT y1 rfl) rfl) (by rw[aZ];show 1<=1000000;decide)) rfl) ?_;obtain⟨w1,w2,w3,w4⟩:=uX (N:=N) (t:=t) (i:=12) (ρ:=LT ns cs N m M T l n1 cell b (hsD N M T) 0x1d (.lst ([t.1].map (sy N))) (tkD N t) .uD .uD .uD .uD .uD .uD) rfl;have hit:bR (b2 xU (jB (aF (b2 getD j8 iU) aY)) (b2 getD j8 jH)) ak (LT ns cs N m M T l n1 cell b (hsD N M T) 0x1d (.lst ([t.1].map (sy N))) (tkD N t) .uD .uD .uD .uD .uD .uD)=.ok ((t.2.2.1::t.2.2.2).map (sy N),ag):=by
   refine(dB (xs:=(t.2.2.1::t.2.2.2).map (sy N)) (aJ (x:=.tup [sy N t.2.2.1]) (eF (aC (b:=aY) (xs:=[]) w3 rfl) (by rw[aZ];show 1<=1000000;decide)) w4 (K5 [sy N t.2.2.1] _ (by rw[az];show 1+_<=_;lia)))).trans ?_;rw[bI];rfl
  exact n_ hit q4
end
theorem aFe(N:ae Str):∀W:ae ah,nA 0x1b 0x1b=ag
 |[]=>rfl
 |x::W=>by
  show(eqD (sy N x) (sy N x)&&nA 0x1b 0x1b)=ag;rw[aFe N W,kj];exact lg (N.getD x "")
theorem aDv(N:ae Str)(o:Oc):nA (HB N o) (HB N o)=ag:=by
 cases o with
 |none=>rfl
 |some o=>
  show(nA (o.1.map (sy N)) (o.1.map (sy N))&&(o.2.2.c==o.2.2.c&&(o.2.2.p==o.2.2.p&&(o.2.2.d==o.2.2.d&&ag))))=ag;rw[aFe,lg,lg,lg];rfl
section
variable {ns cs:ae ai} {N:ae Str} (hN:N.length=26) (hd:N.Nodup) {m:ah} {M:ae Rw} {T:ae Tk} {R:ae Ru} (B:Tab M T R) {l:ah->ah} {cell:ai} {b:ah} (hb:b<=200) {n:ah} {ks:ae ah} {x10 x11 x12 x13 x14:D}
abbrev LW(ns cs:ae ai)(N:ae Str)(m:ah)(M:ae Rw)(T:ae Tk)(R:ae Ru)(l:ah->ah)(n:ah)(cell:ai)(b:ah)(x10 x11 x12 x13 x14:D)(ks:ae ah)(C:ae (ae ah))(a:ah)(x18:D):ae D:=LT ns cs N m M T l n cell b (hsD N M T) x10 x11 x12 x13 x14 0xb (.lst (C.map (tD N))) (.int (a:ai)) x18
include hN hd B hb
theorem gturn(hw:C[a]?=aa w)(hC:C.length<=9000)(hT:∀w∈C,Tm M T w)(x18:D):∃(C':ae (ae ah))(x':D),C'.length<=20/\(∀w∈C',Tm M T w)/\bF aNy (bF aPg aPh) 0x15=.ok (.nx (LW ns cs N m M T R l n cell b x10 x11 x12 x13 x14 ks (C++C') (a+1) x')):=by
 obtain⟨X,C',d1,d2,d3,d4,d5⟩:=aNd hN hd B b hb (hT w (jI hw)) hC;refine⟨C',.scr X,d2,d3,?_⟩;have gw:∀(C2:ae (ae ah))(y:D),(C++C2)[a]?=aa w->b2 getD R0 wX (LW ns cs N m M T R l n cell b x10 x11 x12 x13 x14 ks (C++C2) a y)=.ok (tD N w):=λC2 y h=>aJ (x:=.lst ((C++C2).map (tD N))) (y:=.int (a:ai)) rfl rfl (fP rfl h)
 have hlt:a<C.length:=(dE.mp hw).1;have ga:∀C2,(C++C2)[a]?=aa w:=λC2=>by rw[dA hlt];exact hw
 have gw0:=gw [] x18 (ga []);rw[b5] at gw0;have hu:bUo 16 0x15=.ok .uD:=rfl;have s0:aNy 0x15=.ok (.nx 0x1a):=gK (i:=18) (aAw (vs:=[dJ N ks M T R,tD N w,hsD N M T,.int (b:ai),.uD]) (xs:=C.map (tD N)) (xs':=(C++C').map (tD N)) (r:=.scr X) (aC rfl (aC (nT gw0 (gM N w)) (aC rfl (aC rfl (aC hu rfl))))) rfl rfl d1 d4 (qL N _)) rfl;have eok:υ 5 X=ag/\nA X [.int (-1)]=ak:=by
  rcases d5 with rfl|⟨o,rfl,_⟩
  ·exact⟨rfl,rfl⟩
  ·exact⟨Q6 N o,K6 N o _ 0x4⟩
 have v18:b8 18 0x1a=.ok (.scr X):=rfl;have t1:bTB (b2 (eqS ak) RZ (jJ (aF (b1 IK c7) aY))) 0x1a=.ok ak:=cX (aJ (y:=.lst [.int (-1)]) v18 rfl ((wG rfl rfl eok.1 rfl).trans (by rw[eok.2];rfl)));have t2:aAz (bTB (b2 (eqS ag) RZ (jJ (aF c7 aY)))) (bTB (b2 (eqS ag) (bD (nZ 3 cC) (aF (b8 15) (aF (b2 getD R0 wX) (aF e_ aY)))) RZ)) 0x1a=.ok ak:=by
  have v1:jJ (aF c7 aY) 0x1a=.ok (.lst [.int 1]):=rfl;rcases d5 with rfl|⟨o,rfl,hw⟩
  ·exact W6 (cX (aJ v18 v1 ((wG rfl rfl rfl rfl).trans rfl)))
  ·refine R8 (cX (aJ v18 v1 ((wG rfl rfl eok.1 rfl).trans (by rw[K6 N o _ 0x4];rfl)))) (cX (aJ (x:=.lst (HB N o)) (bA (aC rfl (aC (gw C' _ (ga C')) 0x13)) hw) v18 ((wG rfl rfl eok.1 eok.1).trans ?_)));rw[aDv N o];rfl
 refine aL s0 (aL (uB (aEs t1 t2) rfl) ?_);exact bT (i:=17) (aJ (x:=.int (a:ai)) rfl rfl (cV _ _))
theorem aQb:∀(j:ah){C:ae (ae ah)}{a:ah}(x18:D),a+j=6->C.length<=1000+20*a->(∀w∈C,Tm M T w)->∀k,∃(C':ae (ae ah))(a':ah)(x':D),O4 gwc (bF aNy (bF aPg aPh)) (k+(j+1)) 0x15=.ok (.nx (LW ns cs N m M T R l n cell b x10 x11 x12 x13 x14 ks C' a' x')):=by
 intro j;have len:∀(C:ae (ae ah))(a:ah)(x18:D),bTB (b2 (u_ .lt) wX (bD mG (aF R0 aY))) 0x15=.ok (ϒ ((a:ai)<C.length)):=λC a x18=>cX (aJ (x:=.int (a:ai)) (y:=.int (C.length:ai)) rfl (bA (xs:=[.lst (C.map (tD N))]) 0x13 (by show τ (ι ((C.map (tD N)).length:ai))=_;rw[az])) (GP _ _))
 have six:∀(C:ae (ae ah))(a:ah)(x18:D),bTB (b2 (u_ .lt) wX MP) 0x15=.ok (ϒ ((a:ai)<6)):=λC a x18=>cX (aJ (x:=.int (a:ai)) (y:=.int 6) rfl rfl (GP _ _))
 induction j with
 |zero=>
  intro C a x18 ha hC hT k;refine⟨C,a,x18,zE ?_⟩;have h6:=six C a x18;rw[cx 0x1] at h6;have hl:=len C a x18;cases hz:ϒ ((a:ai)<C.length) with
  |true=>rw[hz] at hl;exact R8 hl h6
  |false=>rw[hz] at hl;exact W6 hl
 |succ j ih=>
  intro C a x18 ha hC hT k;have h6:=six C a x18;rw[bt 0x1] at h6;have hl:=len C a x18;by_cases hz:a<C.length
  ·rw[bt 0x1] at hl;obtain⟨C',x',c1,c2,c3⟩:=gturn (ns:=ns) (cs:=cs) hN hd B (m:=m) (l:=l) (cell:=cell) hb (n:=n) (ks:=ks) (x10:=x10) (x11:=x11) (x12:=x12) (x13:=x13) (x14:=x14) (C:=C) (a:=a) (dj hz) 0x1 hT x18;obtain⟨C2,a2,x2,e⟩:=ih (C:=C++C') (a:=a+1) x' 0x1 (by rw[aT];lia) (λw hw=>by
    rcases dz.mp hw with hw|hw
    ·exact hT w hw
    ·exact c2 w hw) k
   exact⟨C2,a2,x2,zA (n:=k+(j+1)) (R8 hl h6) c3 e⟩
  ·rw[cx 0x1] at hl;exact⟨C,a,x18,zE (n:=k+(j+1)) (W6 hl)⟩
end
theorem main:∀ns:ae ai,ns.length<=63->ZX [.scr (ns.map ι)]=.ok (.bl ag):=λns _=>by
 obtain⟨cs,e0⟩:=aNe ns [.uD,.uD,.uD,.uD,.uD,.uD,.uD,.uD,.uD,.uD,.uD,.uD,.uD,.uD,.uD,.uD,.uD];obtain⟨cell,q1⟩:=i_ cs 0 0x1;obtain⟨v,q2⟩:=i_ cs 1 0x1;obtain⟨b,hb,e3⟩:=aNg (rg _ 0x4) (rh _ 0x4);obtain⟨N,hN,hd,q4⟩:=aDe cs 2 0x1;rw[aM8 N hN] at q4;obtain⟨m,M,T,l,n1,G,hn1,q5⟩:=aMk hN hd cs 5 0x1;obtain⟨most,o1,o2⟩:=aIw (cell / 2 % 3) (rg _ 0x4) (rh _ 0x4);obtain⟨V,n2,x12,x13,tm,hn2,e8⟩:=aIx hN hd G (cell:=cell) (b:=b) o2 (n:=n1) 0x1;obtain⟨R,n3,B,hn3,q11⟩:=aDo (cs:=cs) hN hd G (n:=n2) 0x1;obtain⟨C',a',x',ew⟩:=aQb (ns:=ns) (cs:=cs) hN hd B (m:=m) (l:=l) (cell:=cell) hb (n:=n3) (ks:=bj m) (x10:=.int (most:ai)) (x11:=.lst (V.map (sy N))) (x12:=x12) (x13:=x13) (x14:=.lst (R.map (ruD N))) 6 (C:=[V]) (a:=0) .uD rfl (by show 1<=_;lia) (λw hw=>by rw[mj] at hw;subst hw;exact tm) 8993;refine call_v ?_;show aHv (.scr (ns.map ι)::.uD::[.uD,.uD,.uD,.uD,.uD,.uD,.uD,.uD,.uD,.uD,.uD,.uD,.uD,.uD,.uD,.uD,.uD])=_;unfold aHv;refine aL e0 ?_;refine aL (ρ':=LS ns cs 1 (.int cell) .uD .uD .uD .uD .uD .uD .uD .uD .uD .uD .uD .uD .uD .uD .uD .uD) (gK (i:=2) (uU q1 rfl rfl) rfl) ?_;refine aL (aNf q2) ?_;refine aL e3 ?_;refine aL (ρ':=LS ns cs 5 (.int cell) (.int (b:ai)) (.lst 0x10) .uD .uD .uD .uD .uD .uD .uD .uD .uD .uD .uD .uD .uD .uD) (gK (i:=4) (iZ (fs:=aY) (i:=1) (rest:=[]) rfl rfl rfl q4 (jR ..) rfl) rfl) ?_;refine aL (ρ':=LT ns cs N m M T l n1 cell b .uD .uD .uD .uD .uD .uD .uD .uD .uD .uD) (aIv (iZ (i:=1) (fs:=aF iI aY) (rest:=[.lst 0x10]) 0x13 rfl rfl q5 (jR ..) rfl) rfl rfl) ?_;refine aL (ρ':=LT ns cs N m M T l n1 cell b (hsD N M T) .uD .uD .uD .uD .uD .uD .uD .uD .uD) (bT (i:=9) (QW hN hd G (n:=19) rfl rfl rfl λt=>rfl)) ?_;refine aL (ρ':=LT ns cs N m M T l n1 cell b (hsD N M T) 0x1d .uD .uD .uD .uD .uD .uD .uD .uD) (gH (i:=10) (aJ (x:=.lst [.int 3,.int 9,.int 30]) (oE (aC rfl (aC rfl 0x13)) (by rw[aZ];show 3<=1000000;decide)) (aJ (aJ (x:=.int cell) rfl rfl (dX _ _ 0x4 0x4)) rfl (cA _ _ 0x4)) o1) rfl) ?_;refine e8 _ ?_
 refine aL (ρ':=LT ns cs N m M T l n3 cell b (hsD N M T) 0x1d 0x21 x12 x13 (.lst (R.map (ruD N))) .uD .uD .uD .uD) (gK (i:=14) (iZ (i:=1) (h:=dk cs n2) (h':=dk cs n3) (r:=.lst (R.map (ruD N))) (fs:=aF nQ (aF nY (aF iI (aF oV aY)))) (rest:=[.lst (M.map (rwD N)),.lst 0x17,.lst 0x10,.dct (lsD N m l)]) (aC rfl (aC rfl (aC rfl 0x13))) rfl rfl q11 (jR ..) rfl) rfl) ?_;refine aL (ρ':=LT ns cs N m M T l n3 cell b (hsD N M T) 0x1d 0x21 x12 x13 (.lst (R.map (ruD N))) (dJ N (bj m) M T R) .uD .uD .uD) (gH (i:=15) (eF (aC (bA 0x13 rfl) (aC (bA 0x13 rfl) (aC (bA 0x13 rfl) (aC (bA 0x13 rfl) rfl)))) (by rw[aZ];show 4<=1000000;decide)) (aDl ..)) ?_;refine aL (ρ':=LT ns cs N m M T l n3 cell b (hsD N M T) 0x1d 0x21 x12 x13 (.lst (R.map (ruD N))) (dJ N (bj m) M T R) (.lst ([V].map (tD N))) .uD .uD) (eG (i:=16) (oE (xs:=[tD N V]) (aC (nT (bA (xs:=[.lst (V.map (sy N))]) 0x13 rfl) (gM N V)) rfl) (by rw[aZ];show 1<=1000000;decide)) (qL N [V])) ?_;refine aL (ρ':=LW ns cs N m M T R l n3 cell b 0x1d 0x21 x12 x13 (.lst (R.map (ruD N))) (bj m) [V] 0 .uD) (bT (i:=17) rfl) ?_;exact aL ew rfl
end Lk56
section
open PySem PySem.W PyProof.Rows
namespace PySem.W.Fast
def tw15324877998485624862:=()
def tw10161632313920301794:=()
def tw10275753910714549453:=()
def tw17834541134081291107:=()
def tw11564490487569701206:=()
def tw10845381056579349084:=()
def tw11163202387749977858:=()
def tw7155194648706207220:=()
def tw11016352440424863394:=()
def tw8634036213093501633:=()
def tw7711393995571471263:=()
def tw12990758918493165535:=()
def tw3846248700162651157:=()
def tw15067913429614417823:=()
def tw3083564427477116460:=()
def tw10966480591214819942:=()
def tw6465086903480401022:=()
def tw6916148186706718102:=()
def tw11057062122290103364:=()
def tw2589403739835867428:=()
def tw7846422338340138080:=()
def tw13181797052739811716:=()
def tw9481645100106180494:=()
def tw14115689253773667595:=()
def tw198396526826615260:=()
def tw15043844233598370083:=()
def tw13332014821198983894:=()
def tw14551635844442898814:=()
def tw12916265243777290230:=()
def tw7421382127555056653:=()
def tw5572362494324482740:=()
def tw6949190631964998545:=()
def tw3325134488853912235:=()
def tw3083537513743816672:=()
def tw5758330764230091726:=()
def tw5122305902498909006:=()
def tw7932100662590093601:=()
def tw14420279479846741610:=()
def tw17585594645076468678:=()
def tw14491968894670041983:=()
def tw9653256125171739272:=()
def tw1048327576871052808:=()
def tw15568135377203966002:=()
def tw15703147048577875818:=()
def tw6176248167879667269:=()
def tw12867232662318801713:=()
def tw4189329459374940847:=()
def tw12570288008000709648:=()
def tw475837597621968457:=()
def tw7942040382396909210:=()
def tw7631034217775251120:=()
def tw13889706225415091361:=()
def tw9085009792360352164:=()
def tw11999420189499811634:=()
def tw8862957078982989221:=()
def tw12142145065523097099:=()
def tw3819413927587996988:=()
def tw12320408653663549050:=()
def tw4047685912950026159:=()
def tw3001975232812521686:=()
end PySem.W.Fast
set_option maxRecDepth 100000 in
set_option maxHeartbeats 0 in
theorem PySem.Challenge.cw_hookmill_k56_whole_adds_up_holds : PySem.Challenge.rw_hookmill_k56_whole_adds_up.Holds := by
 w_on;o_law;k_head;(case hw=>w_witness2)
 k_fill
 refine Lk56.walk (l:=PySem.Challenge.rw_hookmill_k56_whole_adds_up) Lk56.main rfl rfl (fun w h Y=>PySem.W.kIn_of Y) ?F
 case F=>
  intro w mg fa h KX G hmg
  refine' Lk56.aM4 KX G hmg ?a0 ?a1 ?a2 ?l2 ?c2 ?k2 ?t2 ?a3 ?a4 ?a5 ?a6 ?a7 ?a8 ?a9 ?a10 ?a11 ?a12 ?l12 ?c12 ?k12 ?zB ?g1 ?g2 ?xm ?w1 ?w2 ?w3 ?w4 ?w5 ?w6 ?w7 ?w8 ?ko ?kn ?g3 ?g4 ?sF ?cF ?mF ?sP ?cP ?mP ?m1 ?m2 ?m3 ?m4 ?xp
  (case a0|a1|a3|a4|a5|a6|a7|a8|a9|a10|a11=>refine' Lk56.aPr ?a ?b ?c ?d;(case a=>k_is);(case b=>k_is);(case c=>k_is);case d=>k_is)
  (case a2|l2|c2|k2|t2|a12|l12|c12|k12|g1|g2|w1|w2|w3|w4|w5|w6|w7|w8|g3|g4|sF|sP=>k_is)
  (case mF|mP|m1|m2|m3|m4=>refine' Lk56.aM2 ?a ?b ?c ?d ?e;(case a=>k_is);(case b=>k_is);(case c=>k_is);(case d=>k_is);case e=>k_is)
  (case zB|cF|cP=>kernel_rfl)
  (case xm=>kts_exm)
  (case ko=>kit_is)
  (case kn=>kit_is)
  (case xp=>k_exc)
end
