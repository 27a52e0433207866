import PyProof.Rows.All
import Wide.All
import OpenK.AllK
import Wide.FinOn
import PySem.Challenge.RW_hookmill_k64_closed_terms
open Array renaming toList_append->gl,length_toList->hI,getElem?_toList->iO,getD->jh,toList_push->mE,toList_inj->om,toList_extract->oq,getElem?_eq_none->oS,toList_reverse->tI,getElem?_eq_getElem->uo,perm_iff_toList_perm->xq,toList->Af,size_setIfInBounds->AZ,toList_setIfInBounds->A0,size_extract->A2,toList_modify->A4,size_map->Bm,forIn_toList->B7
open Array.Perm renaming refl->ox
open Bool renaming true->ae,false->ag,and_eq_true->bq,false_eq_true->c8,or_eq_true->gm,and_self->kf,false_ne_true->lc,not_true->ol,not_eq_true'->oy,not_eq_true->rX,or_false->xf,false_or->xj,and_true->xC,or_true->yl,or_eq_false_iff->zt,and_false->AJ,true_or->AN,and_assoc->Ba,true_and->BA
open Classical renaming choose->Bq,choose_spec->Br,byContradiction->C8
open False renaming elim->fj
open ForInStep renaming yield->xu
open Function renaming comp_def->C1,comp->C9
open Int renaming emod_nonneg->eo,emod_lt_of_pos->e9,toNat_natCast->ym,zero_add->zu,le_refl->Cu
open List renaming length_map->bd,length_cons->bj,map_cons->bw,replicate->bX,mem_cons_self->b6,mem_cons->b9,mem_cons_of_mem->cg,size_toArray->cm,range->cr,length_append->cx,mem_map->cz,getD_eq_getElem?_getD->c9,map_append->c_,getElem?_eq_some_iff->dz,nil_append->dP,cons_append->eg,getElem?_eq_getElem->eh,getElem?_set_ne->eC,map_map->eD,length_nil->eL,append_assoc->eP,map->e6,nodup_cons->ff,all_eq_true->fE,getElem?_set_self->fN,lookup->gf,mem_append->gz,append_nil->gL,mem_append_right->hZ,getElem?_append_right->ic,all_cons->ik,nodup_nil->io,length_range->ip,getElem?_append_left->ir,cons_lt_cons_iff->iw,lookup_cons->iP,mem_range->i5,length->ja,reverse_cons->jd,map_nil->je,mem_singleton->jg,zip_cons_cons->jk,drop_eq_getElem_cons->jI,length_take->kx,getElem?_replicate->ky,forIn_nil->kL,not_mem_nil->kQ,getElem?_map->lm,pairwise_cons->lv,zip_nil_right->lP,find?_cons->mz,any_cons->mB,getElem_mem->mI,zip_nil_left->mN,pairwise_map->mP,drop_eq_nil_of_le->mT,length_reverse->ng,filter_eq_self->nr,mem_filter->nw,filterMap_cons->nB,mem_of_getElem?->nX,length_drop->n4,extract_eq_take_drop->ot,getElem?_drop->ou,getElem_of_mem->ow,forIn_cons->oz,toList_toArray->oB,getElem?_set->oP,nodup_append->rV,getElem?_take_of_lt->sC,length_replicate->sD,take_add_one->tx,length_set->ug,replicate_succ->vc,set_comm->vd,forall_mem_cons->vg,Nodup->vh,mem_flatMap->vk,of_mem_zip->wc,length_singleton->xi,pairwise_iff_getElem->xm,zipIdx_cons->xn,foldl_cons->xo,take_append_drop->xr,set_append_right->xw,map_congr_left->ye,getElem?_eq_none->zg,length_eq_zero_iff->zr,map_reverse->zv,flatMap_cons->zw,mem_append_left->Ac,mem_filterMap->An,any_eq_false->Aq,filterMap_map->AA,eraseIdxIfInBounds_toArray->AM,any_eq_true->AU,take_of_length_le->AV,take_zero->AX,drop_drop->AY,lt_of_le_of_lt->A6,not_lt->A7,lt_irrefl->Bu,eq_nil_of_length_eq_zero->Bv,foldl_append->BD,range'->BO,mem_range'_1->BQ,range_succ->B1,zipIdx_nil->B6,length_zip->Cc,dropLast_eq_take->Cd,length_eq_one_iff->Ck,getElem_map->Ct,filter_cons->Cv,pairwise_lt_range->Cy
open List.Pairwise renaming nil->AT
open List.Perm renaming swap->r_,cons->Cz,eq_of_pairwise->C0,trans->Dh,append_left->Di
open List.cons renaming injEq->lI
open List.range renaming loop->Cw
open Nat renaming le_refl->ba,ne_of_lt->cw,zero_le->di,lt_of_lt_of_le->dm,le_trans->dw,le_of_ble_eq_true->dQ,lt_irrefl->gw,le_succ->gN,ne_of_gt->iF,lt_succ_of_lt->kb,lt_succ_self->kq,le_of_lt->ny,le_of_eq->nV,le_add_right->rc,lt_or_ge->t0,zero_add->uf,lt_of_not_le->uh,le_succ_of_le->yb,lt_of_le_of_lt->yk,add_zero->A1,add_assoc->A3,succ_ne_self->Cj
open Nat.succ renaming inj->nq
open Ne renaming symm->c5
open Option renaming some->ab,none->aj,map_eq_some_iff->n9,bind_some->uq,isSome_iff_exists->wf,isSome_map->xk,getD_some->xy,getD_none->AF,isSome_some->AO
open Option.some renaming inj->cq
open Or renaming inl->kF
open Prod renaming ext->wz
open PyProof.Rows renaming arrOf->am,Keyed->ay,wpS_bind->aE,wpS_pure->bf,pendingOf->bo,SortSt->cn,wpS->de,mirror->dh,setArr->du,wpS_mono->d6,wpS_forRange->ef,seqObj->eS,failedOf->gj,envOfC->gS,pairsOf->gV,SortKind->ie,wpS_get->iv,callWith_type1->i7,wpS_modify->jz,wpS_reverse->jS,AllBare->kh,wpS_lift->kH,mirror_perm->kK,mirror_size->lz,IsTup->mf,IntsAre->og,subscriptTail->sP,setPending->tJ,bubble->tN,tuples'->ud,slot_tuple_getitem->wP,Subscript_->wT,tail_any->w_,keyKind'->xD,sortedHeap->xE,listUpdate_at->xI,seqEpoch_at->xL,slicePart_none->Ay,subscriptTail_builtinR->AE,lt_int->Bc,le_int->Bd,gt_int->Be,ge_int->Bf,lt_str->Bg,keyLt'_oneType->Bw,oneLt_int->Bx,oneLt_str->By,pairsOf_size->Bz,boot_enumerate->Ci,callWith_builtin1->CH,lt'_eq->C3,pairsOf_toList->C4,mem_zip_self->C5,collect_list->C6,size_push'->C7
open PyProof.Rows.SortSt renaming mk'->oj
open PySem renaming Value->ah,Addr->ak,Shared->al,wpAny_bind->ao,model->av,Heap->aI,wpAny_pure->aS,Obj->aT,World->bh,starEach->bi,eval->bm,sizeLine->bn,Program->bp,Around->bu,Stmt->bP,Pos->bS,cLine->ck,mainGlobals->cu,compareOp->c6,Env->dn,backTo->dq,Sem->dt,argBest->dv,rawInt->dA,sizeLine_eq->dE,bootBuiltins->dS,FuncData->d5,Tok->eB,swapsWith->eI,wpAny_holding->fg,foldedSetIterable->fw,binaryOp->fy,wpAny_field->fz,wpAny_seqItems->fI,wpAny_mono->fR,Scope->f_,codeAny_builtin->gn,strIterType->gq,sysModules->gu,pyNext->hX,wpAny_rule->ig,stored->iu,Meets->ix,wpAny_letGo->iz,CmpOp->iL,wpAny_Call_Name_kw->iN,wpAny_tryCatch->iS,plainId_quiet->iX,pyIter->i6,attributeBase->i8,NameKind->i9,wpAny_newObj_type->jb,Keyword->jc,merged->jf,relabel->ji,richCompare->jj,updateSeq->jo,wpAny_pyIter_tuple->jq,IsPart->jv,call_meets->jx,atKey->jy,wpAny_updateSeq->kc,GenState->ki,Drawn->kj,Model->km,Result->kn,bindL->kr,bindC->kt,wpAny_typeOf->kz,typeLookup->kA,sliceBounds->kC,typeLookup_type->kN,builtinLookup_eq_fast->kP,Paired->k9,spliced->la,wpAny_passesOwn->lb,rule->lf,holding->lg,BindsTo->lh,codeAny_mono->li,backToKw->lj,keywordEach->ll,getItem->lq,valueAt->lr,callerA->lu,tupleKind->mh,wpAny_truthy_bool->mi,behindInMarks->mj,mem_of_lookup->ms,data2->mv,wpAny_callSpecial?_slot->mw,typeOf->mx,compPost->mM,seqItems?->mS,wpAny_setField_rec->nh,OsState->ni,plainId->nj,assign->nE,assignEach->nI,PassesOwn->nK,letOwnedTupleGo->nL,DictEntry->oh,collect->oI,Str->se,Within->sh,isTrue->sk,wpAny_execs_nil->so,unaryOp->sr,standAt->ss,getMethod->sA,callWith->sB,wpAny_call_entry->sM,seqIndex?->sQ,subscripted->sR,slicePick->s_,tupleKind_room_in1->tj,Params->tq,Builtin->tw,wpAny_forIn_list->t9,richCompare_meets_room->ub,field->ut,entryFor->uS,table->u3,callType_codes->u8,wpAny_pyIter_enum->vb,builtinsNs->vn,wpAny_Name->vo,getAttr->vw,wpAny_call->vT,cellsFrom->we,concat_meets->wg,noFill_tuple_add->wj,seq_tuple_add->wm,evalPart_none->wS,operate->xa,slot_list_getitem->xb,typeIs_str->xc,call->xl,newList->xA,wpAny_newTuple->xS,wpAny_attempt->yd,wpAny_specialOf->yf,wpAny_of_eq->yj,Fin->yn,wpAny_onRaise->yo,entryFor_alias->yq,raisesAttr->yr,wpAny_raiseAttrError->yt,attrMsg_fits->yu,getAttr?->yz,sub_AttributeError->yA,getattributeRaised->yB,dictSet->yT,wpAny_dictSet_pairs->yY,kt_code_dict_new->zd,wpAny_notOrdered_dict->zf,wpAny_ite_split->zn,dictSize->zq,wpAny_Constant_int->Ad,wpAny_execs_cons->Ag,interactive->Ah,wpAny_pyNext_list_item->Ai,wpAny_pyNext_list_end->Aj,wpAny_pyNext_tuple_item->Ak,wpAny_pyNext_tuple_end->Al,IsRangeIter->Am,intBits_le_64->Ao,recursionLimit->Av,wpAny_Slice->AB,seqIndex_of->AD,wpAny_getItem_list_slice->AG,call_list_seq->AH,comprehension->A8,eval_ListComp->A9,wpAny_newList->Bk,call_function_tree->BB,wpAny_pyIter_list->BN,wpAny_standAt->BT,call_len_dict->BY,callType_new->B8,wpAny_isInstance->Cb,sub_enumerate->Ce,wpAny_stack_any->Cf,wpAny_pyNext_enum_endD->Ch,codeAny_call_builtin->Cp,isSubtype_type->Cq
open PySem.Around renaming under_plainId->g9,under->vF
open PySem.AutoSeq1 renaming wpAny_loadPart'->me,sub_tuple_tuple->t5,list_extend_list_list_0->CS
open PySem.BindsTo renaming of_defaults->ve
open PySem.Builtin.Builtins renaming bindParams->BC
open PySem.Builtin.Dict renaming addKeywords->u7,selfAndRest->De,pendingCount->Dg
open PySem.Builtin.List renaming listExtendWith->rS,listTooLong->xg,listLengthHint->zk,listItems->Cl,listSameRef->Cm,listUpdate->Df
open PySem.Builtin.Range renaming rangeSize->CA
open PySem.Builtin.Slice renaming slicePlaces->sL,sliceAdjust->wy,sliceApplied->Az,slicePartIndex->CI,sliceFields->CL
open PySem.Builtin.SmallTypes renaming nextOf->ma,ownedTupleIsFree->yp,fitsIndex->zo,ownedTupleHandOut->Db
open PySem.Builtin.Str renaming occurrences->Ap,strSliceIndices->BU,tooLong->Da
open PySem.Builtin.Tuple renaming tupleExact->sN,tupleCompareSizes->ua,tupleItemsOf->CM
open PySem.Calls renaming spliced_nil->mq,spliced_cons->mr,Name_function_global->Ae,callWith_builtin->AI,call_function_entry->Bp
open PySem.Code renaming quiet_builtin->md,isFrame->vS,frames->Aw,call->Co
open PySem.Data renaming fields->nN,cell->nS,seq->Ab
open PySem.DictEntry renaming refKey->CB
open PySem.F renaming plain_min_loop->lS,plain_max_loop->lT,plainAttrs_list->oQ,slot_list_pop->tf,slot_tuple_iterator_next->ur,slot_zip_next->u4,called_enumerate->va,slot_tuple_add->wn,entry_tuple_add->wo,args_tuple_add_2->wu,slot_list_append->xh,entry_min_loop->yg,entry_max_loop->yh,slot_zip_getattribute->yx,kt_called_dict->za,kt_typeCall_dict_1->zb,entry_dict_init->zc,args_dict_init_2->ze,slot_list_getattribute->zh,slot_tuple_getattribute->zi,slot_list_extend->AK,entry_list_pop->AL,type_list_append->BS,type_list_pop->B0,entry_tuple_iterator_next->B4,args_tuple_iterator_next_1->B5,entry_zip_next->B9,args_zip_next_1->Ca,entry_enumerate_new->Cg,plain_extend_loop->Cn,slot_dict_len->Cr,plain_list_iadd->Cs
open PySem.Heap renaming get?_push_of_some->bz,lt_size->bE,get?_push_size->cS,size_push->dL,SameBut->hG,get?_update_other->jw,get?_update_self->ke,IsTuple->uv,size_update->ya,NewAttrErr->yw,get?_push_ne->Bl,get?_update_ne->Bo,ExtBut->B2
open PySem.Heap.DictOf renaming new->tm
open PySem.Heap.IsSliceOf renaming new->AC
open PySem.Heap.IsTuple renaming push->Dd
open PySem.Heap.Ns1 renaming of_empty->CF
open PySem.Heap.SameBut renaming update->B3,refl->Dc
open PySem.IsL renaming update->CO
open PySem.IsiPair renaming dict_int->BE,dict_str->BF,dict_bool->BG,dict_list->BH,dict_tuple->BI,dict_dict->BM
open PySem.MeetsSeq renaming list_pop_last->CU,list_pop_at->CY
open PySem.NameKind renaming free->kM,cell->xz
open PySem.Obj renaming mapSeq->eJ
open PySem.P renaming le_str->Bh,gt_str->Bi,ge_str->Bj
open PySem.Paired renaming length->jr,snoc->AQ
open PySem.PassesOwn renaming never->fx
open PySem.SeqAt.EqAt renaming same->xB,int_str->zD,str_int->zI,of_refs->Bb
open PySem.Shared renaming heap->uz
open PySem.Str renaming ofString->wE,empty->Au
open PySem.Txt renaming mul->l8,slice->um
open PySem.Value renaming ref->fq,type->fT,bool->k6,str->nu,none->nv,int->sg,notImplemented->uc,isInt->zz,isStrOf->zC,bytes->zS,float->Aa
open PySem.W renaming Frag->br,findIn->js,emptyDict->jt,keepIn->ju,nsIn->ka,instObj->kg,fnOf->ln,lookIn->su,plainGet->sv,codeIn->sK,methodObj->vm,hasDictIn->vq,plainGet_of->vx,isFn->vz,takerIn->vE,callWith_K->wb,kat_kind->yc,handedIn->Ar,plainOver->As,makesIn->At,cellsFrom_some->Ax
open PySem.W.Looks renaming of_pure->ue,here->CC
open PySem.W.WData renaming int->AR
open PySem.W.WShape renaming has->AS
open PySem.Within renaming cons->CD
open Sum renaming inr->fS,inl->kT
open True renaming intro->ko
open _root_ renaming List->aa,Nat->af,Int->ai,Bool->aq,if_pos->au,Array->aw,Option->ax,if_neg->az,absurd->bg,decide_eq_true->cb,False->cv,if_true->cy,if_false->cK,DecidableEq->dg,decide_eq_false->dj,congrArg->dl,String->dy,of_decide_eq_true->eW,beq_self_eq_true->fA,decide_eq_true_eq->fF,beq_eq_false_iff_ne->gr,not_or->ii,beq_iff_eq->iq,True->iA,Unit->iE,eq_iff_iff->jn,StateT->kG,Decidable->tF,dif_pos->tP,decide_eq_false_iff_not->tT,eq_false_of_ne_true->AW,getElem?_pos->A5,bne_self_eq_false->Bn
set_option Elab.async false
set_option maxRecDepth 100000
set_option maxHeartbeats 4000000
noncomputable section
local macro_rules|`(0x0)=>`(by trivial)|`(0x1)=>`(by lia)|`(0x2)=>`(by simp)|`(0x3)=>`(by rfl)|`(0x4)=>`(by decide)|`(0x5)=>`(by with_unfolding_all rfl)|`(0x6)=>`(by decide +kernel)|`(0x7)=>`(by intro z;cases z)|`(0x8)=>`(by kernel_rfl)
set_option linter.all false
set_option autoImplicit true
set_option genSizeOfSpec false
set_option genInjectivity true
abbrev nDb(x:se):Prop:= (x==("__debug__" : se))=ag
abbrev nCd(x:se):Prop:= (x==("__classdict__" : se))=ag
namespace L2
open PySem PySem.Spec PyProof.Rows
noncomputable abbrev Key:=Sum ai Str
noncomputable def L_:Key->ah->aq
 |.inl k,v=>zz k v
 |.inr x,v=>zC x v
noncomputable def aO2(w:bh):Key->ai
 |.inl k=>hashInt k
 |.inr x=>hashStr w x
theorem cX:∀{k:Key}{v:ah},L_ k v=ae->(∃i t,k=kT i/\v=sg i t)\/(∃x t,k=fS x/\v=nu x t)
 |.inl i,v,h=>by
  obtain⟨t,e⟩:=Value.isInt_shape (k:=i) (v:=v) h;exact .inl ⟨i,t,rfl,e⟩
 |.inr x,v,h=>by
  obtain⟨t,e⟩:=Value.isStrOf_shape (x:=x) (v:=v) h;exact .inr ⟨x,t,rfl,e⟩
theorem WX(i:ai)(t:eB):L_ (.inl i) (.int i t)=ae:=by simp[L_,zz]
theorem WY(x:Str)(t:eB):L_ (.inr x) (.str x t)=ae:=by simp[L_,zC]
theorem aI9(a b:ai):decide ((kT a:Key)=kT b)=(a==b):=by
 by_cases e:a=b
 ·subst e;simp
 ·have h:¬(kT a:Key)=kT b:=λq=>e (Sum.inl.inj q)
  rw[dj h];exact(gr.mpr e).symm
theorem aIa(a b:Str):decide ((fS a:Key)=fS b)=decide (a=b):=by
 by_cases e:a=b
 ·subst e;simp
 ·have h:¬(fS a:Key)=fS b:=λq=>e (Sum.inr.inj q)
  rw[dj h,dj e]
theorem aIb(a:ai)(b:Str):decide ((kT a:Key)=fS b)=ag:=dj (λq=>nomatch q)
theorem aIc(a:Str)(b:ai):decide ((fS a:Key)=kT b)=ag:=dj (λq=>nomatch q)
def cD(prog:bp)(w:bh):PySem.KeyKind prog w Key where
 is:=L_
 hash:=aO2 w
 inj:=λv a b ha hb=>by
  rcases cX ha with ⟨i,t,rfl,rfl⟩|⟨x,t,rfl,rfl⟩
  ·rcases cX hb with ⟨j,u,rfl,e⟩|⟨y,u,rfl,e⟩
   ·injection e with e1 _;rw[e1]
   ·exact nomatch e
  ·rcases cX hb with ⟨j,u,rfl,e⟩|⟨y,u,rfl,e⟩
   ·exact nomatch e
   ·injection e with e1 _;rw[e1]
 byValue:=λk v h=>by
  rcases cX h with ⟨i,t,rfl,rfl⟩|⟨x,t,rfl,rfl⟩<;>rfl
 pyHash:=λhv h=>by
  rcases cX hv with ⟨i,t,rfl,rfl⟩|⟨x,t,rfl,rfl⟩
  ·exact wpAny_pyHash_int h
  ·exact wpAny_pyHash_str h
 eqBool:=λhu hv h=>by
  rcases cX hu with ⟨i,t,rfl,rfl⟩|⟨x,t,rfl,rfl⟩
  ·rcases cX hv with ⟨j,u,rfl,rfl⟩|⟨y,u,rfl,rfl⟩
   ·rw[aI9] at h;exact wpAny_eqBool_int h
   ·rw[aIb] at h;exact zD i t y u _ _ _ _ h
  ·rcases cX hv with ⟨j,u,rfl,rfl⟩|⟨y,u,rfl,rfl⟩
   ·rw[aIc] at h;exact zI x t j u _ _ _ _ h
   ·rw[aIa] at h;exact wpAny_eqBool_str h
 «strs»:=λk x t v h=>by
  rcases cX h with ⟨i,u,rfl,e⟩|⟨y,u,rfl,e⟩
  ·exact nomatch e
  ·injection e with e1 _
   subst e1;cases v<;>rfl
theorem MF(prog:bp)(w:bh)(i:ai)(t:eB):(cD prog w).is (.inl i) (.int i t)=ae:=WX i t
theorem MJ(prog:bp)(w:bh)(x:Str)(t:eB):(cD prog w).is (.inr x) (.str x t)=ae:=WY x t
inductive V where
 |non|bl (b:aq)|int (i:ai)|str (x:Str)|byt (b:aw UInt8)|flt (b:UInt64)|ref (a:ak)|ty (n:dy)
 deriving dg
def RelV:V->ah->Prop
 |.non,u=>u=nv
 |.bl b,u=>u=k6 b
 |.int i,u=>∃t,u=sg i t
 |.str x,u=>∃t,u=nu x t
 |.byt b,u=>∃t,u=zS b t
 |.flt b,u=>∃t,u=Aa b t
 |.ref a,u=>u=fq a
 |.ty n,u=>u=fT n
abbrev Vals:aa V->aa ah->Prop:=k9 RelV
theorem Vals.length{xs:aa V}{us:aa ah}(r:Vals xs us):xs.length=us.length:=jr r
theorem Vals.get:∀{xs:aa V}{us:aa ah}{i:af}{x:V},Vals xs us->xs[i]?=ab x->∃u,us[i]?=ab u/\RelV x u
 |_,_,_,_,.nil,e=>by simp at e
 |_,_,0,_,.cons r _,e=>by simp at e;subst e;exact⟨_,rfl,r⟩
 |_,_,i+1,x,.cons _ t,e=>by
  obtain⟨u,h1,h2⟩:=Vals.get (i:=i) (x:=x) t (by simpa using e);exact⟨u,by simpa using h1,h2⟩
theorem Vals.append:∀{xs ys:aa V}{us ws:aa ah},Vals xs us->Vals ys ws->Vals (xs++ys) (us++ws)
 |_,_,_,_,.nil,s=>s
 |_,_,_,_,.cons r t,s=>.cons r (Vals.append t s)
theorem Vals.take:∀{xs:aa V}{us:aa ah}(n:af),Vals xs us->Vals (xs.take n) (us.take n)
 |_,_,0,_=>.nil
 |_,_,_+1,.nil=>.nil
 |_,_,n+1,.cons r t=>.cons r (Vals.take n t)
theorem Vals.drop:∀{xs:aa V}{us:aa ah}(n:af),Vals xs us->Vals (xs.drop n) (us.drop n)
 |_,_,0,r=>r
 |_,_,_+1,.nil=>.nil
 |_,_,n+1,.cons _ t=>Vals.drop n t
def K_:ax V->ax ah->Prop
 |some v,ab u=>RelV v u
 |none,aj=>iA
 |_,_=>cv
def KV{κ:Type}:aa (κ×V)->aa (κ×ah)->Prop:=k9 λ(p:κ×V)(q:κ×ah)=>p.1=q.1/\RelV p.2 q.2
noncomputable def kV:Key->V
 |.inl i=>.int i
 |.inr x=>.str x
inductive HO where
 |lst (xs:aa V)
 |tup (xs:aa V)
 |dK (kvs:aa (Key×V))|dT (kvs:aa (aa Key×V))
 |set (S:ai->aq) (n:af)
 |ins (C dx:ak) (fs:aa (Str×V))
 |own (x:ak)
 |xd (fs:aa (Str×V))
 |met (f x:ak)
 |rng (lo hi:ai)
 |frz (o:aT) (u:HO)
 |tbl (ps:aw ah)
 |ext (φ:aI->Prop)
noncomputable abbrev Hp:=ak->ax HO
noncomputable def upd(H:Hp)(a:ak)(o:HO):Hp:=λb=>if b=a then ab o else H b
theorem aM{H:Hp}{a:ak}{o:HO}:upd H a o a=ab o:=by unfold upd;rw[au rfl]
theorem bF{H:Hp}{a b:ak}{o:HO}(h:b≠a):upd H a o b=H b:=by unfold upd;rw[az h]
theorem MK{H:Hp}{a:ak}{o u:HO}:upd (upd H a o) a u=upd H a u:=by
 funext b;unfold upd;split<;>rfl
theorem MN{H:Hp}{a b:ak}{o u:HO}(h:H a=ab o)(h':H b=ab u)(d:o≠u):a≠b:=by
 intro e;subst e;rw[h] at h';exact d (cq h')
theorem cW{H:Hp}{a b:ak}{o:HO}(h:H a=ab o)(h':H b=aj):a≠b:=by
 intro e;subst e;rw[h] at h';cases h'
def jY(h:aI)(a:ak)(its:aw ah):Prop:=∃o,h.get? a=ab o/\o.cls=.type "tuple"/\∃n,(o.data,o.dict)=(Ab its n,aj)
theorem jY.tup{h:aI}{a:ak}{its:aw ah}(t:jY h a its):mf h a its:=let ⟨o,e,c,n,d⟩:=t;⟨o,e,c,n,dl (·.1) d⟩
theorem jY.bare{h:aI}{a:ak}{its:aw ah}(t:jY h a its):∃o,h.get? a=ab o/\o.dict=aj:=let ⟨o,e,_,_,d⟩:=t;⟨o,e,dl (·.2) d⟩
theorem jY.new(h:aI)(items:aw ah):jY (h.push {cls:=.type "tuple",data:=.seq items}) h.objs.size items:=⟨_,cS _ rfl,rfl,_,rfl⟩
section
variable (P:bp) (w:bh)
def iV(H:Hp)(h:aI)(a:ak):HO->Prop
 |.lst xs=>xs.length<=bn/\∃(its:aa ah)(n:af),Vals xs its/\h.get? a=ab {cls:=.type "list",data:=.seq its.toArray n}
 |.tup xs=>xs.length<=bn/\∃its:aa ah,Vals xs its/\jY h a its.toArray
 |.dK kvs=>kvs.length<=bn/\(a==gu)=ag/\∃vs,KV kvs vs/\h.DictOf (cD P w) a vs
 |.dT kvs=>kvs.length<=bn/\(a==gu)=ag/\∃xs:aa (aa Key×ak×ah),
   k9 (λ(p:aa Key×V)(q:aa Key×ak×ah)=>p.1=q.1/\H q.2.1=ab (.tup (p.1.map kV))/\RelV p.2 q.2.2) kvs xs/\
   ∃o es ep,h.get? a=ab o/\o.ExactDict/\o.data=.dict es ep/\es.toList=xs.map (entryOfKey (mh (cD P w)))/\(xs.map (·.1)).Nodup
 |.set S n=>h.SetOf (intKind P w) a S n
 |.ins C dx fs=>H dx=ab (.own a)/\fs.length<=1000/\dx≠a/\h.get? a=ab (kg C dx)/\
   ∃mA,h.Ns1 dx mA/\(∀f,K_ (fs.lookup f) (mA f))/\sh mA (fs.map (·.1))
 |.own _=>∃o,h.get? a=ab o
 |.xd fs=>∃mA,h.Ns1 a mA/\∀f,K_ (fs.lookup f) (mA f)
 |.rng lo hi=>∃t u v,h.get? a=ab {cls:=.type "range",data:=.fields #[.int lo t,.int hi u,.int 1 v]}
 |.frz o u=>h.get? a=ab o/\iV H h a u
 |.tbl ps=>h.get? a=ab {cls:=.none,data:=.fields ps}
 |.met f x=>h.get? a=ab (vm (.ref f) (.ref x))
 |.ext φ=>φ h/\(∃o,h.get? a=ab o)/\∀h1 h2:aI,φ h1->(∀o,h1.get? a=ab o->h2.get? a=ab o)->φ h2
def HOk(H:Hp)(h:aI):Prop:=∀a o,H a=ab o->iV P w H h a o
end
section
variable {P:bp} {w:bh} {H H':Hp} {h h':aI} {a:ak} {o:HO}
theorem iV.lt(x:iV P w H h a o):a<h.objs.size:=by
 cases o with
 |lst xs=>obtain⟨_,_,_,_,e⟩:=x;exact bE e
 |tup xs=>obtain⟨_,_,_,p⟩:=x;exact p.tup.lt
 |dK kvs=>obtain⟨_,_,_,_,o,_,_,e,_⟩:=x;exact bE e
 |dT kvs=>obtain⟨_,_,_,_,o,_,_,e,_⟩:=x;exact bE e
 |set S n=>obtain⟨o,_,_,_,e,_⟩:=x;exact bE e
 |ins C dx fs=>obtain⟨_,_,_,e,_⟩:=x;exact bE e
 |own y=>obtain⟨_,e⟩:=x;exact bE e
 |xd fs=>obtain⟨_,⟨_,_,_,e,_⟩,_⟩:=x;exact bE e
 |rng lo hi=>obtain⟨_,_,_,e⟩:=x;exact bE e
 |frz ob u=>obtain⟨e,_⟩:=x;exact bE e
 |tbl ps=>exact bE (show h.get? a=ab _ from x)
 |met f y=>exact bE (show h.get? a=ab _ from x)
 |ext φ=>obtain⟨_,⟨_,e⟩,_⟩:=x;exact bE e
theorem Paired.aLy{α β:Type}{F G:α->β->Prop}:∀{l₁:aa α}{l₂:aa β},k9 F l₁ l₂->(∀a b,F a b->G a b)->k9 G l₁ l₂
 |_,_,.nil,_=>.nil
 |_,_,.cons r t,f=>.cons (f _ _ r) (Paired.aLy t f)
theorem iV.stay(x:iV P w H h a o)(k:∀b u,(b=a\/H b=ab (.own a))->h.get? b=ab u->h'.get? b=ab u)
 (ho:∀b,H b=ab (.own a)->H' b=ab (.own a))(ht:∀b xs,H b=ab (.tup xs)->H' b=ab (.tup xs)):iV P w H' h' a o:=by
 induction o with
 |lst xs=>obtain⟨z,its,n,r,e⟩:=x;exact⟨z,its,n,r,k _ _ (.inl rfl) e⟩
 |tup xs=>obtain⟨z,its,r,ob,e,c⟩:=x;exact⟨z,its,r,ob,k _ _ (.inl rfl) e,c⟩
 |dK kvs=>obtain⟨z,y,vs,r,ob,es,ep,e,c⟩:=x;exact⟨z,y,vs,r,ob,es,ep,k _ _ (.inl rfl) e,c⟩
 |dT kvs=>
  obtain⟨z,y,xs,r,ob,es,ep,e,c⟩:=x;exact⟨z,y,xs,Paired.aLy r λp q z=>⟨z.1,ht _ _ z.2.1,z.2.2⟩,ob,es,ep,k _ _ (.inl rfl) e,c⟩
 |set S n=>obtain⟨ob,es,ep,t,e,c⟩:=x;exact⟨ob,es,ep,t,k _ _ (.inl rfl) e,c⟩
 |ins C dx fs=>
  obtain⟨d,z,ne,e,mA,⟨od,es,ep,e2,c⟩,r⟩:=x;exact⟨ho _ d,z,ne,k _ _ (.inl rfl) e,mA,⟨od,es,ep,k _ _ (.inr d) e2,c⟩,r⟩
 |own y=>obtain⟨ob,e⟩:=x;exact⟨ob,k _ _ (.inl rfl) e⟩
 |xd fs=>obtain⟨mA,⟨od,es,ep,e,c⟩,r⟩:=x;exact⟨mA,⟨od,es,ep,k _ _ (.inl rfl) e,c⟩,r⟩
 |rng lo hi=>obtain⟨t,u,v,e⟩:=x;exact⟨t,u,v,k _ _ (.inl rfl) e⟩
 |frz ob u ih=>obtain⟨e,q⟩:=x;exact⟨k _ _ (.inl rfl) e,ih q⟩
 |tbl ps=>
  have e:h.get? a=ab {cls:=.none,data:=.fields ps}:=x;show h'.get? a=ab {cls:=.none,data:=.fields ps};exact k a _ (.inl rfl) e
 |met f y=>
  have e:h.get? a=ab (vm (.ref f) (.ref y)):=x;show h'.get? a=ab (vm (.ref f) (.ref y));exact k a _ (.inl rfl) e
 |ext φ=>obtain⟨p,⟨o,e⟩,st⟩:=x;exact⟨st _ _ p λo q=>k _ _ (.inl rfl) q,⟨o,k _ _ (.inl rfl) e⟩,st⟩
theorem HOk.lt(x:HOk P w H h)(e:H a=ab o):a<h.objs.size:=(x a o e).lt
theorem HOk.fresh(x:HOk P w H h)(e:h.objs.size<=a):H a=aj:=by
 cases q:H a with
 |none=>rfl
 |some u=>exact bg (dm (x.lt q) e) (gw _)
theorem HOk.kept(x:HOk P w H h)(k:∀b u,h.get? b=ab u->h'.get? b=ab u):HOk P w H h':=λa o e=>
 (x a o e).stay (λb u _ q=>k b u q) (λ_ q=>q) λ_ _ q=>q
theorem HOk.laid(x:HOk P w H h)(k:∀b u,h.get? b=ab u->h'.get? b=ab u)(hp:h.objs.size<=a)(new:iV P w (upd H a o) h' a o):HOk P w (upd H a o) h':=λb u e=>by
 have hn:=x.fresh hp;by_cases hb:b=a
 ·subst hb;rw[aM] at e;cases e;exact new
 ·rw[bF hb] at e;exact(x b u e).stay (λc v _ q=>k c v q) (λc q=>by rw[bF (cW q hn)];exact q) λc xs q=>by rw[bF (cW q hn)];exact q
end
def Rd(H:Hp)(a:ak)(u:HO):Prop:=H a=ab u\/∃o,H a=ab (.frz o u)
theorem Rd.ok{P:bp}{w:bh}{H:Hp}{h:aI}{a:ak}{u:HO}(r:Rd H a u)(x:HOk P w H h):iV P w H h a u:=by
 rcases r with r|⟨o,r⟩
 ·exact x a u r
 ·obtain⟨_,q⟩:=x a _ r;exact q
def Mut:ax HO->Prop
 |some (.lst _)=>iA
 |some (.dK _)=>iA
 |some (.dT _)=>iA
 |some (.set _ _)=>iA
 |some (.ins _ _ _)=>iA
 |some (.ext _)=>iA
 |_=>cv
section
variable {P:bp} {w:bh} {H:Hp} {h h':aI} {x e:ak} {o':HO}
theorem HOk.write(ok:HOk P w H h)(mu:Mut (H x))(he:e=x\/H e=ab (.own x))(k:∀b u,b≠e->h.get? b=ab u->h'.get? b=ab u)(heo:∃u,h'.get? e=ab u)
 (new:iV P w (upd H x o') h' x o'):HOk P w (upd H x o') h':=λb u q=>by
 have nown:∀c y,H c=ab (.own y)->c≠x:=λc y r z=>by subst z;rw[r] at mu;exact mu
 have ntup:∀c xs,H c=ab (.tup xs)->c≠x:=λc xs r z=>by subst z;rw[r] at mu;exact mu
 by_cases hb:b=x
 ·subst hb;rw[aM] at q;cases q;exact new
 ·rw[bF hb] at q;by_cases hbe:b=e
  ·have q':H b=ab (.own x):=by
    rcases he with z|z
    ·exact bg (hbe.trans z) hb
    ·rw[hbe];exact z
   rw[q] at q';cases q';obtain⟨v,hv⟩:=heo;exact⟨v,by rw[hbe];exact hv⟩
  ·refine(ok b u q).stay (λc v hc r=>k c v ?_ r) (λc r=>by rw[bF (nown c b r)];exact r) λc xs r=>by rw[bF (ntup c xs r)];exact r
   rcases hc with rfl|hc
   ·exact hbe
   ·rintro rfl;rcases he with z|z
    ·exact nown c b hc z
    ·rw[hc] at z;cases z;exact hb rfl
end
structure Un(fs ex:aa ak)(H H':Hp)(h h':aI):Prop where
 keep:∀b o,h.get? b=ab o->H b=aj->b∉fs->b∉ex->h'.get? b=ab o
 slot:∀b o,h.get? b=ab o->H b=aj->b∈fs->b∉ex->∃sl,h'.get? b=ab {o with slots:=sl}
 free:∀b o,h.get? b=ab o->H b=aj->b∉ex->H' b=aj
 there:∀b o,h.get? b=ab o->b∉ex->∃o',h'.get? b=ab o'
 tups:∀b xs,H b=ab (.tup xs)->H' b=ab (.tup xs)
 frzs:∀b o u,H b=ab (.frz o u)->H' b=ab (.frz o u)
 tbls:∀b ps,H b=ab (.tbl ps)->∃more,H' b=ab (.tbl (ps++more))
section
variable {fs ex:aa ak} {H H1:Hp} {h h1 h':aI} {a x e:ak} {o:HO}
theorem Un.any(u:Un fs ex H H1 h h1){b:ak}{ob:aT}(q:h.get? b=ab ob)(n:H b=aj)(hx:b∉ex):∃sl,h1.get? b=ab {ob with slots:=sl}:=by
 by_cases hb:b∈fs
 ·exact u.slot b ob q n hb hx
 ·exact⟨ob.slots,u.keep b ob q n hb hx⟩
theorem Un.kept(k:∀b u,h.get? b=ab u->h'.get? b=ab u):Un fs ex H H h h':=
 ⟨λb ob q _ _ _=>k b ob q,λb ob q _ _ _=>⟨ob.slots,k b ob q⟩,λ_ _ _ n _=>n,λb ob q _=>⟨ob,k b ob q⟩,λ_ _ q=>q,λ_ _ _ q=>q,λ_ ps q=>⟨#[],by rw[q];simp⟩⟩
theorem Un.refl:Un fs ex H H h h:=Un.kept λ_ _ q=>q
theorem Un.laid(k:∀b u,h.get? b=ab u->h'.get? b=ab u)(hp:h.objs.size<=a)(hn:H a=aj):Un fs ex H (upd H a o) h h' where
 keep:=λb u q _ _ _=>k b u q
 slot:=λb u q _ _ _=>⟨u.slots,k b u q⟩
 free:=λb u q n _=>by rw[bF (cw (dm (bE q) hp))];exact n
 there:=λb u q _=>⟨u,k b u q⟩
 tups:=λb xs q=>by rw[bF (cW q hn)];exact q
 frzs:=λb u xs q=>by rw[bF (cW q hn)];exact q
 tbls:=λb ps q=>⟨#[],by rw[bF (cW q hn),q];simp⟩
theorem Un.write(mu:Mut (H x))(he:e=x\/H e=ab (.own x))(k:∀b u,b≠e->h.get? b=ab u->h'.get? b=ab u)(heo:∃u,h'.get? e=ab u):Un fs ex H (upd H x o) h h':=by
 have hx:∀b,H b=aj->b≠x:=λb n z=>by subst z;rw[n] at mu;exact mu
 have hb:∀b,H b=aj->b≠e:=λb n z=>by
  subst z;rcases he with r|r
  ·exact hx b n r
  ·rw[n] at r;cases r
 have hm:∀b u,H b=ab u->¬Mut (ab u)->b≠x:=λb u q nm z=>by subst z;rw[q] at mu;exact nm mu
 refine⟨λb u q n _ _=>k b u (hb b n) q,λb u q n _ _=>⟨u.slots,k b u (hb b n) q⟩,λb u q n _=>by rw[bF (hx b n)];exact n,λb u q _=>?_,
  λb xs q=>by rw[bF (hm b _ q λz=>z)];exact q,λb u xs q=>by rw[bF (hm b _ q λz=>z)];exact q,λb ps q=>⟨#[],by rw[bF (hm b _ q λz=>z),q];simp⟩⟩
 by_cases hbe:b=e
 ·subst hbe;exact heo
 ·exact⟨u,k b u hbe q⟩
end
noncomputable def trk(h:aI)(H:Hp):aa ak:=(cr h.objs.size).filter λa=>(H a).isSome
def aBh(h:aI)(H:Hp):aI:=PySem.W.hideAll h (trk h H)
theorem W0(h:aI)(H:Hp):(aBh h H).objs.size=h.objs.size:=PySem.W.hideAll_size _ _
theorem aBi{h:aI}{H:Hp}{b:ak}{o:aT}(e:h.get? b=ab o)(n:H b=aj):(aBh h H).get? b=ab o:=
 PySem.W.hideAll_get _ e λhm=>by
  have q:(H b).isSome=ae:=(nw.mp hm).2;rw[n] at q;simp at q
theorem aEq{h:aI}{H:Hp}{b:ak}{o:aT}(e:(aBh h H).get? b=ab o):h.get? b=ab o/\H b=aj:=by
 have e':h.get? b=ab o:=PySem.W.of_hideAll (trk h H) e;refine⟨e',?_⟩;cases q:H b with
 |none=>rfl
 |some x=>
  have hm:b∈trk h H:=nw.mpr ⟨i5.mpr (bE e'),by simp[q]⟩;have z:(aBh h H).get? b=aj:=PySem.W.hideAll_none (trk h H) hm;rw[z] at e;cases e
structure Mod(K:br)(mg:Str->ax ah)(base:aI):Prop where
 kin:K.In base
 glob:base.Ns cu mg
 blt:∃mb,base.Ns vn mb/\∀x:Str,x ≠ "__name__"->mb x=dS x
 nolimit:base.NoLimit
/-- the context: a def's body (or a comprehension's block) running. base: fixed through the whole law;s₀,H₀: the entry;outer: the frames whose slots others may change (a def's callers);stack: all frames that run;
   ex: iterators that were made ahead of the entry and are walked here (a comprehension's);fn: the names whose cells were made at the entry (a def: all;a comprehension's block: its own);calm: not within an except suite;pn: pins that every state bears;xe: what is wanted of an exception that leaves the code -/
structure Cx where
 prog:bp
 w:bh
 K:br
 mg:Str->ax ah
 base:aI
 A:bu
 N:aa Str
 s₀:al
 H₀:Hp
 env:dn
 outer:aa dn
 stack:aa dn
 ex:aa ak
 fn:Str->aq
 calm:aq
 pn:aa (ak×aT)
 xe:ah->al->Prop
noncomputable def frs(l:aa dn):aa ak:=l.filterMap (·.frame)
abbrev Cx.fs(X:Cx):aa ak:=frs X.outer
def Vis(sc:f_)(x:Str):Prop:=sc.names.lookup x=ab .local\/sc.names.lookup x=ab .cell\/sc.names.lookup x=ab .free
def Loc(sc:f_)(x:Str):Prop:=sc.names.lookup x=ab .local\/sc.names.lookup x=ab .cell
def Look(env:dn)(h:aI)(m:Str->ax ah)(x:Str)(u:ah):Prop:=
 (env.kindOf x=ab .local/\m x=ab u)\/((env.kindOf x=ab .cell\/env.kindOf x=ab .free)/\∃c,env.cells.lookup x=ab c/\h.IsCell c (ab u))
structure Cx.Ok(X:Cx):Prop where
 mod:Mod X.K X.mg X.base
 kind:X.env.scope.kind=.function
 glob:X.env.globals=cu
 blt:X.env.builtins=vn
 above:X.s₀.heap.objs.size<=X.env.locals
 inj:∀x y c,X.env.cells.lookup x=ab c->X.env.cells.lookup y=ab c->x=y
 has:∀x,(X.env.kindOf x=ab .cell\/X.env.kindOf x=ab .free)->∃c,X.env.cells.lookup x=ab c
 cab:∀x c,X.fn x=ae->X.env.cells.lookup x=ab c->X.s₀.heap.objs.size<=c
 hd:X.calm=ae->X.A.handled=aj
 frames:X.A.frames=ab X.stack
 stk:X.stack=X.outer\/(X.stack=X.env::X.outer/\X.env.frame=ab X.env.locals)
 exf:∀b∈X.ex,b≠X.env.locals/\∀x c,X.env.cells.lookup x=ab c->c≠b
 bs:∀b o,X.base.get? b=ab o->X.s₀.heap.get? b=ab o/\X.H₀ b=aj
 bsz:X.base.objs.size<=X.s₀.heap.objs.size
 noex:∀b o,X.base.get? b=ab o->b∉X.ex
 exfs:∀b∈X.ex,b∉X.fs
 WQ:X.s₀.heap.FunFrames X.base X.outer
 frf:∀b∈X.fs,X.H₀ b=aj
structure Inv(X:Cx)(pins:aa (ak×aT))(σ:aa (ax V))(H:Hp)(s:al):Prop where
 ok:X.Ok
 os:s.os=X.s₀.os
 bare:kh s.gens
 base:Un X.fs X.ex X.H₀ H X.s₀.heap s.heap
 loc:∃m,s.heap.Ns X.env.locals m/\∀(i:af)(x:Str)(v:V),X.N[i]?=ab x->σ[i]?=ab (ab v)->Vis X.env.scope x->∃u,RelV v u/\Look X.env s.heap m x u
 cell:∀x c,X.env.cells.lookup x=ab c->∃v,s.heap.IsCell c v
 free:H X.env.locals=aj
 freeC:∀x c,X.env.cells.lookup x=ab c->H c=aj
 pin:∀p∈X.pn++pins,s.heap.get? p.1=ab p.2/\H p.1=aj/\p.1≠X.env.locals/\p.1∉X.fs/\∀v,p.2.data≠.cell v
 hok:HOk X.prog X.w H s.heap
 len:σ.length=X.N.length
section
variable {X:Cx} {pins:aa (ak×aT)} {σ:aa (ax V)} {H H':Hp} {s:al} {h':aI}
theorem Cx.Ok.aO3(ok:X.Ok){b:ak}{o:aT}(e:X.base.get? b=ab o):b∉X.fs:=λhb=>by
 have:=(ok.WQ.mem hb).1;rw[e] at this;cases this
theorem Inv.bs(I:Inv X pins σ H s):∀b o,X.base.get? b=ab o->s.heap.get? b=ab o/\H b=aj:=λb o e=>
 ⟨I.base.keep b o (I.ok.bs b o e).1 (I.ok.bs b o e).2 (I.ok.aO3 e) (I.ok.noex b o e),I.base.free b o (I.ok.bs b o e).1 (I.ok.bs b o e).2 (I.ok.noex b o e)⟩
theorem Inv.bk(I:Inv X pins σ H s):∀b o,X.base.get? b=ab o->s.heap.get? b=ab o:=λb o e=>(I.bs b o e).1
theorem Inv.mod(I:Inv X pins σ H s):Mod X.K X.mg X.base:=I.ok.mod
theorem Inv.kIn(I:Inv X pins σ H s):X.K.In s.heap:=I.ok.mod.kin.keeps I.bk
theorem Inv.lt(I:Inv X pins σ H s):X.env.locals<s.heap.objs.size:=let ⟨_,hn,_⟩:=I.loc;hn.lt
theorem Inv.sz(I:Inv X pins σ H s):X.s₀.heap.objs.size<=s.heap.objs.size:=dw I.ok.above (ny I.lt)
theorem Inv.aNo(I:Inv X pins σ H s){a:ak}(h:s.heap.objs.size<=a):a∉X.fs:=λhb=>by
 obtain⟨_,o,ho,_⟩:=I.ok.WQ.mem hb;exact bg (dm (bE ho) (dw I.sz h)) (gw _)
theorem Inv.cne(I:Inv X pins σ H s):∀x c,X.env.cells.lookup x=ab c->c≠X.env.locals:=λx c e z=>by
 obtain⟨v,o,ho,hd⟩:=I.cell x c e;obtain⟨m,⟨o',es,ep,ho',hd',_⟩,_⟩:=I.loc;rw[z,ho'] at ho;cases ho;rw[hd'] at hd;cases hd
theorem Inv.WQ(I:Inv X pins σ H s):s.heap.FunFrames X.base X.outer:=by
 have all:∀(l:aa dn),(∀b∈frs l,b∈X.fs)->X.s₀.heap.FunFrames X.base l->s.heap.FunFrames X.base l:=by
  intro l;induction l with
  |nil=>intro _ _;trivial
  |cons env r ih=>
   intro hs hl;obtain⟨hk,⟨L,o,hf,hn,ho,hd⟩,hr⟩:=hl;have hL:L∈X.fs:=hs L (by unfold frs;rw[nB,hf];exact b6);obtain⟨sl,e⟩:=I.base.slot L o ho (I.ok.frf L hL) hL λz=>I.ok.exfs L z hL
   exact⟨hk,⟨L,_,hf,hn,e,hd⟩,ih (λb hb=>hs b (by unfold frs;rw[nB,hf];exact cg _ hb)) hr⟩
 exact all X.outer (λ_ hb=>hb) I.ok.WQ
theorem Inv.stack(I:Inv X pins σ H s):s.heap.FunFrames X.base X.stack:=by
 rcases I.ok.stk with e|⟨e,hf⟩
 ·rw[e];exact I.WQ
 ·rw[e];obtain⟨m,hn,_⟩:=I.loc;refine .cons (by rw[I.ok.kind];decide) hf hn ?_ I.WQ;exact Heap.get?_none_of_le (dw I.ok.bsz I.ok.above)
theorem Inv.Q4(I:Inv X pins σ H s):∀b∈frs X.stack,b∈X.env.locals::X.fs:=λb hb=>by
 rcases I.ok.stk with e|⟨e,hf⟩
 ·rw[e] at hb;exact cg _ hb
 ·rw[e] at hb;unfold frs at hb;rw[nB,hf] at hb;exact hb
theorem Inv.W2(I:Inv X pins σ H s):∀b∈frs X.stack,H b=aj:=λb hb=>by
 rcases b9.mp (I.Q4 b hb) with e|hb
 ·rw[e];exact I.free
 ·obtain⟨_,o,ho,_⟩:=I.ok.WQ.mem hb;exact I.base.free b o ho (I.ok.frf b hb) λz=>I.ok.exfs b z hb
theorem Inv.step{g':aw ki}{t':af}{d':kj}{ch:aa ak}(I:Inv X pins σ H s)
 (hch:∀b∈ch,(b∈X.ex\/X.s₀.heap.objs.size<=b)/\b≠X.env.locals/\(∀x c,X.env.cells.lookup x=ab c->c≠b)/\∀p∈X.pn++pins,p.1≠b)
 (keep:∀b o,b≠X.env.locals->b∉X.fs->b∉ch->s.heap.get? b=ab o->H b=aj->h'.get? b=ab o)
 (slot:∀b o,b≠X.env.locals->b∈X.fs->b∉ch->s.heap.get? b=ab o->H b=aj->∃sl,h'.get? b=ab {o with slots:=sl})(free:∀b o,b∉ch->s.heap.get? b=ab o->H b=aj->H' b=aj)
 (there:∀b o,b∉ch->s.heap.get? b=ab o->∃o',h'.get? b=ab o')
 (tups:∀b xs,H b=ab (.tup xs)->H' b=ab (.tup xs))(frzs:∀b o u,H b=ab (.frz o u)->H' b=ab (.frz o u))(tbls:∀b ps,H b=ab (.tbl ps)->∃more,H' b=ab (.tbl (ps++more)))
 (ns:∀m,s.heap.Ns X.env.locals m->h'.Ns X.env.locals m)(hok:HOk X.prog X.w H' h')(hg:kh g') :
  Inv X pins σ H' {s with heap:=h',gens:=g',drawn:=d',toks:=t'}:=by
 have neL:∀b o,X.s₀.heap.get? b=ab o->b≠X.env.locals:=λb o e=>cw (dm (bE e) I.ok.above)
 have neC:∀b o,X.s₀.heap.get? b=ab o->b∉X.ex->b∉ch:=λb o e hx hb=>by
  rcases(hch b hb).1 with z|z
  ·exact hx z
  ·exact bg (dm (bE e) z) (gw _)
 have cellK:∀x c,X.env.cells.lookup x=ab c->∀v,s.heap.IsCell c v->h'.IsCell c v:=λx c e v z0=>by
  obtain⟨o,ho,hd⟩:=z0;have nch:c∉ch:=λz=>(hch c z).2.2.1 x c e rfl
  by_cases hc:c∈X.fs
  ·obtain⟨sl,q⟩:=slot c o (I.cne x c e) hc nch ho (I.freeC x c e);exact⟨_,q,hd⟩
  ·exact⟨o,keep c o (I.cne x c e) hc nch ho (I.freeC x c e),hd⟩
 refine⟨I.ok,I.os,hg,⟨λb o e n hb hx=>?_,λb o e n hb hx=>?_,λb o e n hx=>?_,λb o e hx=>?_,λb xs e=>tups b xs (I.base.tups b xs e),λb o xs e=>frzs b o xs (I.base.frzs b o xs e),λb ps e=>?_⟩,?_,λx c e=>?_,?_,λx c e=>?_,λp hp=>?_,hok,I.len⟩
 ·exact keep b o (neL b o e) hb (neC b o e hx) (I.base.keep b o e n hb hx) (I.base.free b o e n hx)
 ·obtain⟨sl,e1⟩:=I.base.slot b o e n hb hx;obtain⟨sl',e2⟩:=slot b _ (neL b o e) hb (neC b o e hx) e1 (I.base.free b o e n hx);exact⟨sl',e2⟩
 ·obtain⟨o',e1⟩:=I.base.there b o e hx;exact free b o' (neC b o e hx) e1 (I.base.free b o e n hx)
 ·obtain⟨o',e1⟩:=I.base.there b o e hx;exact there b o' (neC b o e hx) e1
 ·obtain⟨m1,e1⟩:=I.base.tbls b ps e;obtain⟨m2,e2⟩:=tbls b _ e1;exact⟨m1++m2,by rw[e2,Array.append_assoc]⟩
 ·obtain⟨m,hn,hl⟩:=I.loc;refine⟨m,ns m hn,λi x v e1 e2 e3=>?_⟩;obtain⟨u,r,l⟩:=hl i x v e1 e2 e3;refine⟨u,r,?_⟩;rcases l with l|⟨k,c,e,z⟩
  ·exact .inl l
  ·exact .inr ⟨k,c,e,cellK x c e _ z⟩
 ·obtain⟨v,z⟩:=I.cell x c e;exact⟨v,cellK x c e v z⟩
 ·obtain⟨m,⟨o,_,_,ho,_⟩,_⟩:=I.loc;exact free _ o (λz=>(hch _ z).2.1 rfl) ho I.free
 ·obtain⟨v,o,ho,hd⟩:=I.cell x c e;exact free c o (λz=>(hch c z).2.2.1 x c e rfl) ho (I.freeC x c e)
 ·obtain⟨e,n,ne,nf,d⟩:=I.pin p hp;have nch:p.1∉ch:=λz=>(hch p.1 z).2.2.2 p hp rfl
  exact⟨keep p.1 p.2 ne nf nch e n,free p.1 p.2 nch e n,ne,nf,d⟩
theorem Inv.un{t':af}(I:Inv X pins σ H s)(u:Un X.fs [] H H' s.heap h')(hok:HOk X.prog X.w H' h'):Inv X pins σ H' {s with heap:=h',toks:=t'}:=by
 obtain⟨m,⟨o,es,ep,ho,r⟩,_⟩:=id I.loc;obtain⟨sl,hL⟩:=u.any ho I.free 0x2;exact I.step (g':=s.gens) (d':=s.drawn) (ch:=[]) (λ_ z=>nomatch z) (λb o _ hb _ e n=>u.keep b o e n hb 0x2) (λb o _ hb _ e n=>u.slot b o e n hb 0x2) (λb o _ e n=>u.free b o e n 0x2) (λb o _ e=>u.there b o e 0x2) u.tups u.frzs u.tbls (λm' hm=>by
  obtain⟨o',es',ep',ho',r'⟩:=hm;rw[ho] at ho';cases ho';exact⟨_,es',ep',hL,r'⟩) hok I.bare
theorem Inv.call{g':aw ki}{t':af}{d':kj}{ch:aa ak}(I:Inv X pins σ H s)(u:Un (frs X.stack) ch H H' s.heap h')(hok:HOk X.prog X.w H' h')(hg:kh g')
 (hch:∀b∈ch,(b∈X.ex\/X.s₀.heap.objs.size<=b)/\b≠X.env.locals/\(∀x c,X.env.cells.lookup x=ab c->c≠b)/\∀p∈X.pn++pins,p.1≠b) :
  Inv X pins σ H' {s with heap:=h',gens:=g',drawn:=d',toks:=t'}:=by
 obtain⟨m,⟨o,es,ep,ho,r⟩,_⟩:=id I.loc;obtain⟨sl,hL⟩:=u.any ho I.free λz=>(hch _ z).2.1 rfl
 exact I.step (ch:=ch) hch (λb o hL hb hc e n=>u.keep b o e n (λz=>(b9.mp (I.Q4 b z)).elim hL hb) hc) (λb o _ _ hc e n=>u.any e n hc) (λb o hc e n=>u.free b o e n hc) (λb o hc e=>u.there b o e hc) u.tups u.frzs u.tbls (λm' hm=>by
  obtain⟨o',es',ep',ho',r'⟩:=hm;rw[ho] at ho';cases ho';exact⟨_,es',ep',hL,r'⟩) hok hg
theorem Inv.turned{t':af}{it:ak}(I:Inv X pins σ H s)(k:∀b o,b≠it->s.heap.get? b=ab o->h'.get? b=ab o)(hn:H it=aj)(hL:it≠X.env.locals)
 (h1:it∈X.ex\/X.s₀.heap.objs.size<=it)(h2:∀x c,X.env.cells.lookup x=ab c->c≠it)(h3:∀p∈X.pn++pins,p.1≠it):Inv X pins σ H {s with heap:=h',toks:=t'}:=by
 have nit:∀b u,H b=ab u->b≠it:=λb u e z=>by rw[z,hn] at e;cases e
 refine I.step (g':=s.gens) (d':=s.drawn) (ch:=[it]) (λb hb=>?_) (λb o _ _ hc e _=>k b o (λz=>hc (by simp[z])) e) (λb o _ _ hc e _=>⟨o.slots,k b o (λz=>hc (by simp[z])) e⟩) (λ_ _ _ _ n=>n)
  (λb o hc e=>⟨o,k b o (λz=>hc (by simp[z])) e⟩) (λ_ _ e=>e) (λ_ _ _ e=>e) (λb ps e=>⟨#[],by rw[e];simp⟩) (λm hm=>?_) (λb u e=>?_) I.bare
 ·have e:b=it:=by simpa using hb
  subst e;exact⟨h1,hL,h2,h3⟩
 ·obtain⟨o,es,ep,ho,r⟩:=hm;exact⟨o,es,ep,k _ o (c5 hL) ho,r⟩
 ·refine(I.hok b u e).stay (λc v hc q=>k c v ?_ q) (λ_ q=>q) λ_ _ q=>q
  rcases hc with z|z
  ·rw[z];exact nit b u e
  ·exact nit c _ z
theorem Inv.tok(I:Inv X pins σ H s)(t:af):Inv X pins σ H {s with toks:=t}:=I.un (h':=s.heap) (t':=t) Un.refl I.hok
theorem Inv.kept{t':af}(I:Inv X pins σ H s)(k:∀b u,s.heap.get? b=ab u->h'.get? b=ab u):Inv X pins σ H {s with heap:=h',toks:=t'}:=I.un (Un.kept k) (I.hok.kept k)
theorem Inv.laid{a:ak}{o:HO}{t':af}(I:Inv X pins σ H s)(k:∀b u,s.heap.get? b=ab u->h'.get? b=ab u)(hp:s.heap.objs.size<=a)(new:iV X.prog X.w (upd H a o) h' a o) :
  Inv X pins σ (upd H a o) {s with heap:=h',toks:=t'}:=I.un (Un.laid k hp (I.hok.fresh hp)) (I.hok.laid k hp new)
theorem Inv.write{x e:ak}{o:HO}{t':af}(I:Inv X pins σ H s)(mu:Mut (H x))(he:e=x\/H e=ab (.own x))(k:∀b u,b≠e->s.heap.get? b=ab u->h'.get? b=ab u)(heo:∃u,h'.get? e=ab u)
 (new:iV X.prog X.w (upd H x o) h' x o):Inv X pins σ (upd H x o) {s with heap:=h',toks:=t'}:=I.un (Un.write mu he k heo) (I.hok.write mu he k heo new)
theorem Inv.weak{σ':aa (ax V)}(I:Inv X pins σ H s)(hl:σ'.length=σ.length)(w:∀(i:af) v,σ'[i]?=ab (ab v)->σ[i]?=ab (ab v)):Inv X pins σ' H s:=
 ⟨I.ok,I.os,I.bare,I.base,let ⟨m,hn,hl'⟩:=I.loc;⟨m,hn,λi x v e1 e2 e3=>hl' i x v e1 (w i v e2) e3⟩,I.cell,I.free,I.freeC,I.pin,I.hok,hl.trans I.len⟩
theorem Inv.MP{pins':aa (ak×aT)}(I:Inv X pins σ H s)(h:∀p∈pins',s.heap.get? p.1=ab p.2/\H p.1=aj/\p.1≠X.env.locals/\p.1∉X.fs/\∀v,p.2.data≠.cell v):Inv X pins' σ H s:=
 ⟨I.ok,I.os,I.bare,I.base,I.loc,I.cell,I.free,I.freeC,λp hp=>(gz.mp hp).elim (λz=>I.pin p (Ac _ z)) (h p),I.hok,I.len⟩
theorem Q5{N:aa Str}(hN:N.Nodup){i j:af}{x:Str}(a:N[i]?=ab x)(b:N[j]?=ab x):i=j:=by
 obtain⟨h1,e1⟩:=dz.mp a;obtain⟨h2,e2⟩:=dz.mp b;exact(List.getElem_inj hN).mp (e1.trans e2.symm)
theorem W3{M:km}{A:bu}{E:ah->al->Prop}{i:af}{x:Str}{v:V}{u:ah}{Q:iE->al->Prop}(I:Inv X pins σ H s)(hN:X.N.Nodup)(hi:X.N[i]?=ab x)(hx:Loc X.env.scope x)(r:RelV v u)
 (h:∀s',Inv X pins (σ.set i (ab v)) H s'->(∃a,hG a s.heap s'.heap/\(a=X.env.locals\/X.env.cells.lookup x=ab a))->Q () s')(hf:X.fn x=ae\/X.env.scope.names.lookup x=ab .local:=by first|exact .inl rfl|exact .inr rfl|assumption):wpAny M A (storeName X.env x u) Q E s:=by
 obtain⟨m,hn,hl⟩:=id I.loc;have hcls:(X.env.scope.kind==.class||(X.env.scope.kind==.module&&X.env.locals !=X.env.globals))=ag:=by rw[I.ok.kind];rfl
 have hiσ:i<σ.length:=by rw[I.len];exact(dz.mp hi).1
 have cne:=I.cne;have tracked:∀{a:ak}{h':aI},(∃o,s.heap.get? a=ab o/\H a=aj)->hG a s.heap h'->HOk X.prog X.w H h':=λ{a h'} ha hs b ob e=>by
  obtain⟨_,_,hfree⟩:=ha;refine(I.hok b ob e).stay (λc w' hc q=>(hs.2 c ?_).trans q) (λ_ q=>q) λ_ _ q=>q
  rintro rfl;rcases hc with rfl|hc
  ·rw[hfree] at e;cases e
  ·rw[hfree] at hc;cases hc
 rcases hx with hk|hk
 ·refine wpAny_storeName_local hk hn (λh' hn' hs=>?_) hcls;obtain⟨oL,_,_,hoL,_⟩:=id hn;refine h _ ⟨I.ok,I.os,I.bare,⟨λb o e n hb hx=>?_,λb o e n hb hx=>?_,I.base.free,λb o e hx=>?_,I.base.tups,I.base.frzs,I.base.tbls⟩,⟨_,hn',λj y v' e1 e2 e3=>?_⟩,λy c e=>?_,I.free,I.freeC,λp hp=>?_,tracked ⟨oL,hoL,I.free⟩ hs,by simpa using I.len⟩ ⟨_,hs,.inl rfl⟩
  ·exact(hs.2 b (cw (dm (bE e) I.ok.above))).trans (I.base.keep b o e n hb hx)
  ·obtain⟨sl,e1⟩:=I.base.slot b o e n hb hx;exact⟨sl,(hs.2 b (cw (dm (bE e) I.ok.above))).trans e1⟩
  ·obtain⟨o',e1⟩:=I.base.there b o e hx;exact⟨o',(hs.2 b (cw (dm (bE e) I.ok.above))).trans e1⟩
  ·by_cases hj:j=i
   ·subst hj;rw[hi] at e1;cases e1;rw[fN hiσ] at e2;cases e2;exact⟨u,r,.inl ⟨hk,by simp⟩⟩
   ·rw[eC (c5 hj)] at e2;obtain⟨u',r',q⟩:=hl j y v' e1 e2 e3;refine⟨u',r',?_⟩;rcases q with ⟨k,e⟩|⟨k,c,e,z⟩
    ·refine .inl ⟨k,?_⟩;have:y≠x:=λe=>hj (Q5 hN e1 (e▸hi))
     simp[this,e]
    ·exact .inr ⟨k,c,e,z.sameBut hs (cne y c e)⟩
  ·obtain⟨w',z⟩:=I.cell y c e;exact⟨w',z.sameBut hs (cne y c e)⟩
  ·obtain⟨e,n,ne,nf,d⟩:=I.pin p hp;exact⟨(hs.2 p.1 ne).trans e,n,ne,nf,d⟩
 ·have hfn:X.fn x=ae:=by
   rcases hf with z|z
   ·exact z
   ·rw[z] at hk;cases hk
  obtain⟨c,hc⟩:=I.ok.has x (.inl hk);obtain⟨w',z⟩:=I.cell x c hc;refine wpAny_storeName_cell I.ok.kind hk hc z (λh' hc' hs=>?_);obtain⟨oc,hoc,hocd⟩:=id z;refine h {s with heap:=h'} ⟨I.ok,I.os,I.bare,⟨λb o e n hb hx=>?_,λb o e n hb hx=>?_,I.base.free,λb o e hx=>?_,I.base.tups,I.base.frzs,I.base.tbls⟩,⟨m,hn.sameBut hs (c5 (cne x c hc)),λj y v' e1 e2 e3=>?_⟩,λy c' e=>?_,I.free,I.freeC,λp hp=>?_,tracked ⟨oc,hoc,I.freeC x c hc⟩ hs,by simpa using I.len⟩ ⟨c,hs,.inr hc⟩
  ·exact(hs.2 b (cw (dm (bE e) (I.ok.cab x c hfn hc)))).trans (I.base.keep b o e n hb hx)
  ·obtain⟨sl,e1⟩:=I.base.slot b o e n hb hx;exact⟨sl,(hs.2 b (cw (dm (bE e) (I.ok.cab x c hfn hc)))).trans e1⟩
  ·obtain⟨o',e1⟩:=I.base.there b o e hx;exact⟨o',(hs.2 b (cw (dm (bE e) (I.ok.cab x c hfn hc)))).trans e1⟩
  ·by_cases hj:j=i
   ·subst hj;rw[hi] at e1;cases e1;rw[fN hiσ] at e2;cases e2;exact⟨u,r,.inr ⟨.inl hk,c,hc,hc'⟩⟩
   ·rw[eC (c5 hj)] at e2;obtain⟨u',r',q⟩:=hl j y v' e1 e2 e3;refine⟨u',r',?_⟩;rcases q with q|⟨k,c',e,z'⟩
    ·exact .inl q
    ·refine .inr ⟨k,c',e,z'.sameBut hs ?_⟩;rintro rfl;exact hj (Q5 hN e1 (I.ok.inj _ _ _ e hc▸hi))
  ·by_cases hcc:c'=c
   ·subst hcc;exact⟨_,hc'⟩
   ·obtain⟨w2,z2⟩:=I.cell y c' e;exact⟨w2,z2.sameBut hs hcc⟩
  ·obtain⟨e,n,ne,nf,d⟩:=I.pin p hp;refine⟨(hs.2 p.1 ?_).trans e,n,ne,nf,d⟩;intro q;rw[q,hoc] at e;have q':oc=p.2:=cq e;exact d w' (by rw[<-q'];exact hocd)
theorem Q6{M:km}{A:bu}{E:ah->al->Prop}{i:af}{x:Str}{v:V}{u:ah}{Q:iE->al->Prop}(I:Inv X pins σ H s)(hN:X.N.Nodup)(hi:X.N[i]?=ab x)(hx:Loc X.env.scope x)(r:RelV v u)
 (h:∀s',Inv X pins (σ.set i (ab v)) H s'->Q () s')(hf:X.fn x=ae\/X.env.scope.names.lookup x=ab .local:=by first|exact .inl rfl|exact .inr rfl|assumption):wpAny M A (storeName X.env x u) Q E s:=
 W3 I hN hi hx r (λs' I' _=>h s' I') hf
end
abbrev XK:=ah->ax ak->Hp->Prop
noncomputable abbrev St:=aa (ax V)
abbrev VK:=V->Hp->Prop
abbrev TE:=St->Hp->VK->Prop
abbrev TT:=St->Hp->(aq->Hp->Prop)->Prop
abbrev TA:=St->Hp->(aa V->Hp->Prop)->Prop
structure Ends where
 nx:St->Hp->Prop
 rt:VK
 bk:St->Hp->Prop:=λ_ _=>cv
 ct:St->Hp->Prop:=λ_ _=>cv
abbrev TS:=Ends->St->Hp->Prop
def EP(X:Cx)(pins:aa (ak×aT))(σ:St)(Q:VK)(u:ah)(s':al):Prop:=∃v H',Inv X pins σ H' s'/\RelV v u/\Q v H'
def TP(X:Cx)(pins:aa (ak×aT))(σ:St)(Q:aq->Hp->Prop)(b:aq)(s':al):Prop:=∃H',Inv X pins σ H' s'/\Q b H'
def AP(X:Cx)(pins:aa (ak×aT))(σ:St)(Q:aa V->Hp->Prop)(us:aa ah)(s':al):Prop:=∃vs H',Inv X pins σ H' s'/\Vals vs us/\Q vs H'
def SP(X:Cx)(pins:aa (ak×aT))(D:Ends)(f:Flow)(s':al):Prop:=
 match f with
 |.next=>∃σ' H',Inv X pins σ' H' s'/\D.nx σ' H'
 |.brk=>∃σ' H',Inv X pins σ' H' s'/\D.bk σ' H'
 |.cont=>∃σ' H',Inv X pins σ' H' s'/\D.ct σ' H'
 |.ret u=>∃v σ' H',Inv X pins σ' H' s'/\RelV v u/\D.rt v H'
def PE(X:Cx)(e:Expr)(t:TE):Prop:=
 ∀(pins:aa (ak×aT))(s:al)(σ:St)(H:Hp)(Q:VK),Inv X pins σ H s->t σ H Q->wpAny (av X.prog X.w) X.A (bm e X.env) (EP X pins σ Q) X.xe s
def PT(X:Cx)(e:Expr)(t:TT):Prop:=
 ∀(pins:aa (ak×aT))(s:al)(σ:St)(H:Hp)(Q:aq->Hp->Prop),Inv X pins σ H s->t σ H Q->wpAny (av X.prog X.w) X.A (sk e X.env (bm e X.env)) (TP X pins σ Q) X.xe s
def PW(X:Cx)(e:Expr)(t:TT):Prop:=
 ∀(whole:dt ah)(pins:aa (ak×aT))(s:al)(σ:St)(H:Hp)(Q:aq->Hp->Prop),Inv X pins σ H s->t σ H Q->wpAny (av X.prog X.w) X.A (sk e X.env whole) (TP X pins σ Q) X.xe s
theorem PW.pt{X:Cx}{e:Expr}{t:TT}(h:PW X e t):PT X e t:=h _
def PA(X:Cx)(es:aa Expr)(t:TA):Prop:=
 ∀(pos:bS)(pins:aa (ak×aT))(s:al)(σ:St)(H:Hp)(Q:aa V->Hp->Prop),Inv X pins σ H s->t σ H Q->wpAny (av X.prog X.w) X.A (la (dq pos (bi es X.env))) (AP X pins σ Q) X.xe s
def PS(X:Cx)(st:bP)(t:TS):Prop:=
 ∀(pins:aa (ak×aT))(s:al)(σ:St)(H:Hp)(D:Ends),Inv X pins σ H s->t D σ H->wpAny (av X.prog X.w) X.A (exec st X.env) (SP X pins D) X.xe s
def PSs(X:Cx)(st:aa bP)(t:TS):Prop:=
 ∀(pins:aa (ak×aT))(s:al)(σ:St)(H:Hp)(D:Ends),Inv X pins σ H s->t D σ H->wpAny (av X.prog X.w) X.A (execs st X.env) (SP X pins D) X.xe s
theorem thn{α:Type}{t:dt α}{Q Q':α->al->Prop}{M:km}{A:bu}{E:ah->al->Prop}{s:al}(h:wpAny M A t Q E s)(hQ:∀a s,Q a s->Q' a s):wpAny M A t Q' E s:=fR h hQ λ_ _ x=>x
section
variable {X:Cx}
noncomputable def aLz(i:af):TE:=λσ H Q=>∃v,σ[i]?=ab (ab v)/\Q v H
noncomputable def tC(v:V):TE:=λ_ H Q=>Q v H
theorem jJ{i:af}{x:Str}{pos:bS}(hN:X.N[i]?=ab x)(hv:Vis X.env.scope x)(hd:nDb x:=by decide)(hcd:nCd x:=by decide):PE X (.Name x pos) (aLz i):=by
 intro pins s σ H Q I h;obtain⟨v,e,h⟩:=h;obtain⟨m,hn,hl⟩:=I.loc;obtain⟨u,r,l⟩:=hl i x v hN e hv;have fin:EP X pins σ Q u s:=⟨v,H,I,r,h⟩
 rcases l with ⟨hk,hm⟩|⟨hk,c,hc,hcell⟩
 ·exact vo (wpAny_loadName_local I.ok.kind hk hn hm fin) hd
 ·rcases hk with hk|hk
  ·exact vo (wpAny_loadName_cell I.ok.kind hk hc hcell fin) hd
  ·exact vo (wpAny_loadName_free I.ok.kind hk hc hcell fin hcd) hd
theorem aIe{i j pos}:PE X (.Constant (.int i) j pos) (tC (.int i)):=λ_ _ _ H _ I h=>Ad ⟨.int i,H,I.tok _,⟨_,rfl⟩,h⟩
theorem aM0{b j pos}:PE X (.Constant (.bool b) j pos) (tC (.bl b)):=λ_ _ _ H _ I h=>Constant_bool ⟨.bl b,H,I,rfl,h⟩
theorem aIf{j pos}:PE X (.Constant .none j pos) (tC .non):=λ_ _ _ H _ I h=>Constant_none ⟨.non,H,I,rfl,h⟩
theorem aIg{x j pos}:PE X (.Constant (.str x) j pos) (tC (.str x)):=λ_ _ _ H _ I h=>Calls.Constant_str ⟨.str x,H,I.tok _,⟨_,rfl⟩,h⟩
def Gl(X:Cx)(x:Str):Prop:=X.env.kindOf x=ab .globalImplicit
theorem W4{E:ah->al->Prop}{pins:aa (ak×aT)}{s:al}{σ:St}{H:Hp}{x:Str}{u:ah}{pos:bS}{Q:ah->al->Prop}(I:Inv X pins σ H s)(hg:Gl X x)(hm:X.mg x=ab u)(h:Q u s)
 (hd:nDb x:=by decide):wpAny (av X.prog X.w) X.A (bm (.Name x pos) X.env) Q E s:=
 Ae I.ok.kind hg (Calls.loadGlobal_global (by rw[I.ok.glob];exact I.mod.glob.keeps I.bk) hm h) hd
theorem kW{E:ah->al->Prop}{pins:aa (ak×aT)}{s:al}{σ:St}{H:Hp}{x:Str}{u:ah}{pos:bS}{Q:ah->al->Prop}(I:Inv X pins σ H s)(hg:Gl X x)(hm:X.mg x=aj)(hv:dS x=ab u)(h:Q u s)
 (hn:x ≠ "__name__":=by decide)(hd:nDb x:=by decide):wpAny (av X.prog X.w) X.A (bm (.Name x pos) X.env) Q E s:=by
 obtain⟨mb,h1,h2⟩:=I.mod.blt;exact Ae I.ok.kind hg (Calls.loadGlobal_builtin (by rw[I.ok.glob];exact I.mod.glob.keeps I.bk) hm (by rw[I.ok.blt];exact h1.keeps I.bk) ((h2 x hn).trans hv) h) hd
theorem aEr{x:Str}{v:V}{u:ah}{pos:bS}(hg:Gl X x)(hm:X.mg x=aj)(hv:dS x=ab u)(r:RelV v u)(hn:x ≠ "__name__":=by decide)(hd:nDb x:=by decide):PE X (.Name x pos) (tC v):=
 λ_ _ _ H _ I h=>kW I hg hm hv ⟨v,H,I,r,h⟩ hn hd
variable {a b:Expr} {ta tb:TE} {pos:bS}
variable {tA tB':TT} {rest:aa Expr}
noncomputable def aO4(t u:TT):TT:=λσ H Q=>t σ H λc H1=>if c=ae then u σ H1 Q else Q ag H1
noncomputable def tOr(t u:TT):TT:=λσ H Q=>t σ H λc H1=>if c=ae then Q ae H1 else u σ H1 Q
noncomputable def aO5(t:TT):TT:=λσ H Q=>t σ H λc H1=>Q (!c) H1
theorem aEs(ha:PT X a tA):PW X (.BoolOp .And [a] pos) tA:=by
 intro wh pins s σ H Q I h;refine isTrue_and (thn (ha pins s σ H Q I h) λc s1 e=>?_);cases c with
 |true=>exact isTrue_and_nil e
 |false=>exact e
theorem aIh(ha:PT X a tA):PW X (.BoolOp .Or [a] pos) tA:=by
 intro wh pins s σ H Q I h;refine isTrue_or (thn (ha pins s σ H Q I h) λc s1 e=>?_);cases c with
 |false=>exact isTrue_or_nil e
 |true=>exact e
theorem aIi(ha:PT X a tA)(hb:PW X (.BoolOp .And (b::rest) pos) tB'):PW X (.BoolOp .And (a::b::rest) pos) (aO4 tA tB'):=by
 intro wh pins s σ H Q I h;refine isTrue_and (thn (ha pins s σ H _ I h) λc s1 ⟨H1,I1,q1⟩=>?_);cases c with
 |true=>exact hb wh pins s1 σ H1 Q I1 q1
 |false=>exact⟨H1,I1,q1⟩
theorem aM1(ha:PT X a tA)(hb:PW X (.BoolOp .Or (b::rest) pos) tB'):PW X (.BoolOp .Or (a::b::rest) pos) (tOr tA tB'):=by
 intro wh pins s σ H Q I h;refine isTrue_or (thn (ha pins s σ H _ I h) λc s1 ⟨H1,I1,q1⟩=>?_);cases c with
 |true=>exact⟨H1,I1,q1⟩
 |false=>exact hb wh pins s1 σ H1 Q I1 q1
theorem aIj(ha:PT X a tA):PT X (.UnaryOp .Not a pos) (aO5 tA):=by
 intro pins s σ H Q I h;exact isTrue_not (ha pins s σ H (λc H1=>Q (!c) H1) I h)
noncomputable def aM2(ta tb:TE):TE:=λσ H Q=>ta σ H λx H1=>∃c,x=.bl c/\if c=ae then tb σ H1 Q else Q (.bl ag) H1
noncomputable def aM3(ta:TE):TE:=λσ H Q=>ta σ H λx H1=>∃c,x=.bl c/\Q (.bl (!c)) H1
theorem aIk{op}{t:TE}(h:PE X a t):PE X (.BoolOp op [a] pos) t:=λpins s σ H Q I hw=>BoolOp_one (h pins s σ H Q I hw)
theorem aIl(ha:PE X a ta)(hb:PE X (.BoolOp .And (b::rest) pos) tb):PE X (.BoolOp .And (a::b::rest) pos) (aM2 ta tb):=by
 intro pins s σ H Q I h;refine BoolOp_and (thn (ha pins s σ H _ I h) λv s1 ⟨x,H1,I1,r1,q1⟩=>?_);obtain⟨c,rfl,q1⟩:=q1;cases r1;refine mi ?_;cases c with
 |true=>exact hb pins s1 σ H1 Q I1 q1
 |false=>exact⟨.bl ag,H1,I1,rfl,q1⟩
theorem aIm(ha:PE X a ta):PE X (.UnaryOp .Not a pos) (aM3 ta):=by
 intro pins s σ H Q I h;refine UnaryOp_ (thn (ha pins s σ H _ I h) λv s1 ⟨x,H1,I1,r1,q1⟩=>?_);obtain⟨c,rfl,q1⟩:=q1;cases r1;exact not_of (mi ⟨.bl (!c),H1,I1,rfl,q1⟩)
end
def SqL(K:br)(H:Hp)(a:ak)(xs:aa V):Prop:=
 Rd H a (.lst xs)\/
  ∃(o:aT)(its:aw ah)(n:af),K.lookup a=ab o/\o.cls=.type "list"/\o.dict=aj/\o.data=.seq its n/\its.size<=bn/\Vals xs its.toList
def SqT(K:br)(H:Hp)(a:ak)(xs:aa V):Prop:=
 Rd H a (.tup xs)\/
  ∃(o:aT)(its:aw ah)(n:af),K.lookup a=ab o/\o.cls=.type "tuple"/\o.data=.seq its n/\its.size<=bn/\Vals xs its.toList
noncomputable def aO6:ah->ax V
 |.none=>ab .non
 |.bool b=>ab (.bl b)
 |.int i _=>ab (.int i)
 |.str x _=>ab (.str x)
 |.bytes b _=>ab (.byt b)
 |.float b _=>ab (.flt b)
 |.ref a=>ab (.ref a)
 |.type n=>ab (.ty n)
 |_=>aj
theorem RelV.abs{x:V}{u:ah}(r:RelV x u):aO6 u=ab x:=by
 cases x with
 |non=>cases r;rfl
 |bl _=>cases r;rfl
 |int _=>obtain⟨t,rfl⟩:=r;rfl
 |str _=>obtain⟨t,rfl⟩:=r;rfl
 |byt _=>obtain⟨t,rfl⟩:=r;rfl
 |flt _=>obtain⟨t,rfl⟩:=r;rfl
 |ref _=>cases r;rfl
 |ty _=>cases r;rfl
theorem RelV.inj{x y:V}{u:ah}(r:RelV x u)(q:RelV y u):x=y:=cq (r.abs.symm.trans q.abs)
theorem Vals.inj:∀{xs ys:aa V}{us:aa ah},Vals xs us->Vals ys us->xs=ys
 |_,_,_,.nil,.nil=>rfl
 |_,_,_,.cons r t,.cons r' t'=>by rw[r.inj r',Vals.inj t t']
section
variable {X:Cx} {pins:aa (ak×aT)} {σ:St} {H:Hp} {s:al} {a:ak} {xs ys:aa V}
theorem SqL.of{K:br}(h:H a=ab (.lst xs)):SqL K H a xs:=.inl (.inl h)
theorem SqT.of{K:br}(h:H a=ab (.tup xs)):SqT K H a xs:=.inl (.inl h)
theorem Inv.list(I:Inv X pins σ H s)(h:SqL X.K H a xs):∃its:aa ah,Vals xs its/\PlainL s.heap a its.toArray/\xs.length<=bn:=by
 rcases h with h|⟨o,its,n,hk,hc,hd,hs,hz,r⟩
 ·obtain⟨z,its,n,r,e⟩:=h.ok I.hok;exact⟨its,r,⟨_,n,e,rfl,rfl,rfl⟩,z⟩
 ·refine⟨its.toList,r,⟨o,n,I.kIn a o hk,hc,hd,by simpa using hs⟩,?_⟩;have e:=r.length;simp only[hI] at e;lia
theorem Inv.tuple(I:Inv X pins σ H s)(h:SqT X.K H a xs):∃its:aa ah,Vals xs its/\mf s.heap a its.toArray/\xs.length<=bn:=by
 rcases h with h|⟨o,its,n,hk,hc,hs,hz,r⟩
 ·obtain⟨z,its,r,p⟩:=h.ok I.hok;exact⟨its,r,p.tup,z⟩
 ·refine⟨its.toList,r,⟨o,I.kIn a o hk,hc,n,by simpa using hs⟩,?_⟩;have e:=r.length;simp only[hI] at e;lia
theorem Inv.aBj(I:Inv X pins σ H s)(h:SqL X.K H a xs)(h':SqL X.K H a ys):xs=ys:=by
 obtain⟨its,r,⟨o,n,e,_,_,d⟩,_⟩:=I.list h;obtain⟨its',r',⟨o',n',e',_,_,d'⟩,_⟩:=I.list h';rw[e] at e';cases e';rw[d] at d';injection d' with d1 _
 have:its=its':=by simpa using dl Af d1
 subst this;exact r.inj r'
theorem Inv.W5(I:Inv X pins σ H s)(h:SqT X.K H a xs)(h':SqT X.K H a ys):xs=ys:=by
 obtain⟨its,r,⟨o,e,_,n,d⟩,_⟩:=I.tuple h;obtain⟨its',r',⟨o',e',_,n',d'⟩,_⟩:=I.tuple h';rw[e] at e';cases e';rw[d] at d';injection d' with d1 _
 have:its=its':=by simpa using dl Af d1
 subst this;exact r.inj r'
end
noncomputable abbrev Cx.wish(X:Cx)(E:ah->al->Prop):Cx:={X with xe:=E}
noncomputable abbrev Cx.nox(X:Cx):Cx:=X.wish λ_ _=>cv
theorem Cx.Ok.wish{X:Cx}(ok:X.Ok)(E:ah->al->Prop):(X.wish E).Ok:=
 ⟨ok.mod,ok.kind,ok.glob,ok.blt,ok.above,ok.inj,ok.has,ok.cab,ok.hd,ok.frames,ok.stk,ok.exf,ok.bs,ok.bsz,ok.noex,ok.exfs,ok.WQ,ok.frf⟩
theorem Cx.Ok.tU{X:Cx}{E:ah->al->Prop}(ok:(X.wish E).Ok):X.Ok:=
 ⟨ok.mod,ok.kind,ok.glob,ok.blt,ok.above,ok.inj,ok.has,ok.cab,ok.hd,ok.frames,ok.stk,ok.exf,ok.bs,ok.bsz,ok.noex,ok.exfs,ok.WQ,ok.frf⟩
section
variable {X:Cx} {pins:aa (ak×aT)} {σ:St} {H:Hp} {s:al} {E:ah->al->Prop}
theorem Inv.wish(I:Inv X pins σ H s)(E:ah->al->Prop):Inv (X.wish E) pins σ H s:=⟨I.ok.wish E,I.os,I.bare,I.base,I.loc,I.cell,I.free,I.freeC,I.pin,I.hok,I.len⟩
theorem Inv.tU(I:Inv (X.wish E) pins σ H s):Inv X pins σ H s:=⟨I.ok.tU,I.os,I.bare,I.base,I.loc,I.cell,I.free,I.freeC,I.pin,I.hok,I.len⟩
theorem SP.tU{D:Ends}{f:Flow}{s':al}(h:SP (X.wish E) pins D f s'):SP X pins D f s':=by
 cases f with
 |next=>obtain⟨σ',H',I,q⟩:=h;exact⟨σ',H',I.tU,q⟩
 |brk=>obtain⟨σ',H',I,q⟩:=h;exact⟨σ',H',I.tU,q⟩
 |cont=>obtain⟨σ',H',I,q⟩:=h;exact⟨σ',H',I.tU,q⟩
 |ret u=>obtain⟨v,σ',H',I,r,q⟩:=h;exact⟨v,σ',H',I.tU,r,q⟩
theorem PSs.nox{st:aa bP}{t:TS}(h:PSs X.nox st t):PSs X st t:=λpins s σ H D I hw=>
 fR (h pins s σ H D (I.wish _) hw) (λ_ _ q=>q.tU) λ_ _ z=>fj z
end
section
variable {X:Cx} {st:bP} {rest:aa bP} {t u:TS} {e:Expr} {te:TE} {pos:bS}
noncomputable def aIn:TS:=λD σ H=>D.nx σ H
noncomputable def aM4(t u:TS):TS:=λD σ H=>t {D with nx:=u D} σ H
theorem W6:PSs X [] aIn:=λ_ _ σ H _ I h=>so ⟨σ,H,I,h⟩
theorem nG(h1:PS X st t)(h2:PSs X rest u):PSs X (st::rest) (aM4 t u):=by
 intro pins s σ H D I h;refine Ag (thn (h1 pins s σ H {D with nx:=u D} I h) λf s1 q=>?_);cases f with
 |next=>
  obtain⟨σ',H',I',q⟩:=q;exact h2 pins s1 σ' H' D I' q
 |ret v=>exact q
 |brk=>exact q
 |cont=>exact q
theorem aEt(h1:PS X st t):PSs X [st] t:=by
 intro pins s σ H D I h;refine Ag (thn (h1 pins s σ H D I h) λf s1 q=>?_);cases f with
 |next=>exact so q
 |ret v=>exact q
 |brk=>exact q
 |cont=>exact q
noncomputable def aM5:TS:=λD σ H=>D.ct σ H
theorem MT:PS X (.Continue pos) aM5:=λ_ _ σ H _ I h=>wpAny_Continue ⟨σ,H,I,h⟩
theorem Inv.quiet{pins:aa (ak×aT)}{σ:St}{H:Hp}{s:al}(I:Inv X pins σ H s):Ah X.env=ag:=by simp[Ah,I.ok.kind]
noncomputable def aM6(te:TE):TS:=λD σ H=>te σ H λ_ H1=>D.nx σ H1
theorem M3(he:PE X e te)(hs:eI e aj pos.line X.env=pure ag:=by rfl):PS X (.Expr e pos) (aM6 te):=by
 intro pins s σ H D I h;exact wpAny_Expr_any (thn (he pins s σ H _ I h) λv s1 ⟨x,H1,I1,r1,q1⟩=>⟨σ,H1,I1,q1⟩) I.quiet hs
noncomputable def aO7(te:TE):TS:=λD σ H=>te σ H D.rt
theorem W7(he:PE X e te):PS X (.Return (ab e) pos) (aO7 te):=by
 intro pins s σ H D I h;exact wpAny_Return_some (thn (he pins s σ H _ I h) λv s1 ⟨x,H1,I1,r1,q1⟩=>⟨x,σ,H1,I1,r1,q1⟩)
noncomputable def aO8(c:TT)(t u:TS):TS:=λD σ H=>c σ H λb H1=>if b=ae then t D σ H1 else u D σ H1
theorem aM7{c:Expr}{a b:aa bP}{tc:TT}(hc:PT X c tc)(ha:PSs X a t)(hb:PSs X b u):PS X (.If c a b pos) (aO8 tc t u):=by
 intro pins s σ H D I h;refine wpAny_If (thn (hc pins s σ H _ I h) λd s1 ⟨H1,I1,q1⟩=>?_);cases d with
 |true=>exact ha pins s1 σ H1 D I1 q1
 |false=>exact hb pins s1 σ H1 D I1 q1
end
abbrev TG:=V->St->Hp->(St->Hp->Prop)->Prop
abbrev TGs:=aa V->St->Hp->(St->Hp->Prop)->Prop
def PG(X:Cx)(target:Expr)(t:TG):Prop:=
 ∀(pins:aa (ak×aT))(s:al)(σ:St)(H:Hp)(v:V)(u:ah)(Q:St->Hp->Prop),Inv X pins σ H s->RelV v u->t v σ H Q->
  wpAny (av X.prog X.w) X.A (nE target X.env u) (λ_ s'=>∃σ' H',Inv X pins σ' H' s'/\Q σ' H') X.xe s
def PGs(X:Cx)(ts:aa Expr)(t:TGs):Prop:=
 ∀(pins:aa (ak×aT))(s:al)(σ:St)(H:Hp)(vs:aa V)(us:aa ah)(Q:St->Hp->Prop),Inv X pins σ H s->Vals vs us->t vs σ H Q->
  wpAny (av X.prog X.w) X.A (assignInOrder ((nI ts X.env).map (·.2)) us) (λ_ s'=>∃σ' H',Inv X pins σ' H' s'/\Q σ' H') X.xe s
section
variable {X:Cx} {pos:bS}
noncomputable def uP(i:af):TG:=λv σ H Q=>Q (σ.set i (ab v)) H
theorem bH{i:af}{x:Str}(hN:X.N.Nodup)(hi:X.N[i]?=ab x)(hx:Loc X.env.scope x)(hf:X.fn x=ae\/X.env.scope.names.lookup x=ab .local:=by first|exact .inl rfl|exact .inr rfl|assumption):PG X (.Name x pos) (uP i):=by
 intro pins s σ H v u Q I r h;exact wpAny_assign_Name (Q6 I hN hi hx r (λs' I'=>⟨_,H,I',h⟩) hf)
noncomputable def aNp:TGs:=λvs σ H Q=>vs=[]/\Q σ H
noncomputable def aIo(t:TG)(u:TGs):TGs:=λvs σ H Q=>∃v r,vs=v::r/\t v σ H λσ' H'=>u r σ' H' Q
theorem vK:PGs X [] aNp:=by
 intro pins s σ H vs us Q I r h;obtain⟨e,h⟩:=h;subst e;cases r;exact assignInOrder_nil ⟨σ,H,I,h⟩
theorem eO{e:Expr}{es:aa Expr}{t:TG}{u:TGs}(h1:PG X e t)(h2:PGs X es u)
 (hs:(nI (e::es) X.env).map (·.2)=nE e X.env::(nI es X.env).map (·.2):=by rfl):PGs X (e::es) (aIo t u):=by
 intro pins s σ H vs us Q I r h;obtain⟨v,vr,e1,h⟩:=h;subst e1;cases r with
 |cons r rr=>
  rw[hs];refine assignInOrder_cons (thn (h1 pins s σ H _ _ _ I r h) λ_ s1 ⟨σ1,H1,I1,q1⟩=>?_);exact h2 pins s1 σ1 H1 _ _ Q I1 rr q1
noncomputable def aM8(K:br)(n:af)(t:TGs):TG:=λv σ H Q=>∃a xs,v=.ref a/\SqT K H a xs/\xs.length=n/\t xs σ H Q
theorem G6{es:aa Expr}{k:af}{t:TGs}{n:af}(hc:X.calm=ae)(h:PGs X es t)
 (hn:(nI es X.env).length=n:=by rfl)(hst:(nI es X.env).findIdx? (·.1)=aj:=by rfl):PG X (.Tuple es k pos) (aM8 X.K n t):=by
 intro pins s σ H v u Q I r hw;obtain⟨a,xs,e1,hq,hl,hw⟩:=hw;subst e1;cases r;obtain⟨its,rv,ht,hz⟩:=I.tuple hq;refine assign_Tuple_tuple (I.ok.hd hc) ht (by simp[hn,<-hl,rv.length]) hst λh' hx=>?_
 have I1:Inv X pins σ H {s with heap:=h'}:=I.kept (t':=s.toks) λb o e=>hx b o (cw (bE e)) e
 exact h pins _ σ H xs _ Q I1 (by simpa using rv) hw
noncomputable def aHw(te:TE)(g:TG):TS:=λD σ H=>te σ H λx H1=>g x σ H1 D.nx
theorem G7{i:af}{x:Str}{e:Expr}{te:TE}{pos':bS}(hN:X.N.Nodup)(hi:X.N[i]?=ab x)(hx:Loc X.env.scope x)(he:PE X e te)(hs:eI e (ab (.Name x pos')) pos.line X.env=pure ag:=by rfl)(hf:X.fn x=ae\/X.env.scope.names.lookup x=ab .local:=by first|exact .inl rfl|exact .inr rfl|assumption) :
  PS X (.Assign [.Name x pos'] e pos) (aHw te (uP i)):=by
 intro pins s σ H D I h;refine wpAny_Assign_Name (thn (he pins s σ H _ I h) λv s1 ⟨y,H1,I1,r1,q1⟩=>?_) hs;exact Q6 I1 hN hi hx r1 (λs2 I2=>⟨_,H1,I2,q1⟩) hf
def aIp(c:TT)(tb:TS):TS:=λD σ H=>∃W:af->St->Hp->Prop,(∃m,W m σ H)/\∀m σ H,W m σ H->
 c σ H λb H1=>if b=ae then ∃N:St->Hp->Prop,(∀σ' H',N σ' H'->∃m',m'<m/\W m' σ' H')/\tb {D with nx:=N,ct:=N,bk:=D.nx} σ H1 else D.nx σ H1
theorem aBk{c:Expr}{body:aa bP}{tc:TT}{tb:TS}(hp:nK (av X.prog X.w) X.A X.env X.xe)(hc:PT X c tc)(hb:PSs X body tb):PS X (.While c body [] pos) (aIp tc tb):=by
 intro pins s σ H D I h;obtain⟨W,⟨m0,w0⟩,turn⟩:=h;refine wpAny_While (codeAny_whileLoop (λn s'=>∃σ' H',Inv X pins σ' H' s'/\W n σ' H') ?_ m0 ⟨σ,H,I,w0⟩);rintro n s1 ⟨σ1,H1,I1,w1⟩;refine lb hp (thn (hc pins s1 σ1 H1 _ I1 (turn n σ1 H1 w1)) λb s2 ⟨H2,I2,q2⟩=>?_);cases b with
 |true=>
  obtain⟨N,hN,q2⟩:=q2;rw[au rfl];refine lb hp (thn (hb pins s2 σ1 H2 _ I2 q2) λf s3 q3=>?_);cases f with
  |next=>
   obtain⟨σ3,H3,I3,n3⟩:=q3;obtain⟨m',hm,w3⟩:=hN σ3 H3 n3;exact⟨m',hm,σ3,H3,I3,w3⟩
  |cont=>
   obtain⟨σ3,H3,I3,n3⟩:=q3;obtain⟨m',hm,w3⟩:=hN σ3 H3 n3;exact⟨m',hm,σ3,H3,I3,w3⟩
  |brk=>exact q3
  |ret v=>exact q3
 |false=>
  rw[az lc];exact so ⟨σ1,H2,I2,q2⟩
end
structure It where
 go:af->Hp->Prop
 yld:af->Hp->V->Hp->Prop
 stop:af->Hp->Prop
def WR(X:Cx)(pins:aa (ak×aT))(H:Hp)(b:ak):Prop:=
 H b=aj/\b≠X.env.locals/\b∉X.fs/\(b∈X.ex\/X.s₀.heap.objs.size<=b)/\(∀x c,X.env.cells.lookup x=ab c->c≠b)/\∀p∈X.pn++pins,p.1≠b
theorem Inv.aBl{X:Cx}{pins:aa (ak×aT)}{σ:St}{H H':Hp}{s:al}{b:ak}(I:Inv X pins σ H s)(hb:s.heap.objs.size<=b)(hn:H' b=aj):WR X pins H' b:=by
 refine⟨hn,iF (dm I.lt hb),I.aNo hb,.inr (dw I.sz hb),λx c e z=>?_,λp hp z=>?_⟩
 ·obtain⟨v,q⟩:=I.cell x c e;exact bg (dm q.lt (by rw[z];exact hb)) (gw _)
 ·exact bg (dm (bE (I.pin p hp).1) (by rw[z];exact hb)) (gw _)
structure Turn(P:bp)(w:bh)(K:br)(tg:Expr)(J:It)(fp:aa ak)(it:ak)(tn:af->aI->Prop):Prop where
 mem:it∈fp
 obj:∀i h,tn i h->∀b∈fp,∃o,h.get? b=ab o/\∀v,o.data≠.cell v
 keep:∀i h h',tn i h->(∀b∈fp,∀o,h.get? b=ab o->h'.get? b=ab o)->tn i h'
 item:∀(X:Cx),X.prog=P->X.w=w->X.K=K->X.calm=ae->∀(i:af)(pins:aa (ak×aT))(s:al)(σ:St)(H:Hp)(E:ah->al->Prop),Inv X pins σ H s->(∀b∈fp,WR X pins H b)->tn i s.heap->J.go i H->
  wpAny (av P w) X.A (hX (.ref it)) (λr s1=>∃u,r=ab u/\
   wpAny (av P w) X.A (nL tg (.ref it) u) (λ_ s2=>∃x H',Inv X pins σ H' s2/\RelV x u/\J.yld i H x H'/\tn (i+1) s2.heap/\∀b∈fp,H' b=aj) E s1) E s
 done:∀(X:Cx),X.prog=P->X.w=w->X.K=K->X.calm=ae->∀(i:af)(pins:aa (ak×aT))(s:al)(σ:St)(H:Hp)(E:ah->al->Prop),Inv X pins σ H s->(∀b∈fp,WR X pins H b)->tn i s.heap->J.stop i H->
  wpAny (av P w) X.A (hX (.ref it)) (λr s1=>r=aj/\Inv X pins σ H s1) E s
 self:∀(A:bu)(i:af)(s:al)(Q:ah->al->Prop)(E:ah->al->Prop),tn i s.heap->Q (.ref it) s->wpAny (av P w) A (i6 (.ref it)) Q E s
abbrev TI:=St->Hp->(It->Hp->Prop)->Prop
def PIE(X:Cx)(pins:aa (ak×aT))(σ:St)(tg:Expr)(R:It->Hp->Prop)(itv:ah)(s2:al):Prop:=
 ∃(it:ak)(fp:aa ak)(tn:af->aI->Prop)(J:It)(H':Hp),itv=.ref it/\Inv X pins σ H' s2/\Turn X.prog X.w X.K tg J fp it tn/\tn 0 s2.heap/\(∀b∈fp,WR X pins H' b)/\R J H'
def PI(X:Cx)(tg iter:Expr)(wi:TI):Prop:=
 ∀(pins:aa (ak×aT))(s:al)(σ:St)(H:Hp)(R:It->Hp->Prop),Inv X pins σ H s->wi σ H R->
  wpAny (av X.prog X.w) X.A (bm iter X.env) (λv s1=>wpAny (av X.prog X.w) X.A (i6 v) (PIE X pins σ tg R) X.xe s1) X.xe s
theorem W8{M:km}{A:bu}{E:ah->al->Prop}{s:al}{tg:Expr}{it:ak}{u:ah}{o:aT}{n:dy}{vs:aw ah}{Q:iE->al->Prop}(ho:s.heap.get? it=ab o)(hc:o.cls=.type n)(hd:o.data=.fields vs)
 (hn:["enumerate","zip","dict_itemiterator","dict_reverseitemiterator","odict_iterator","itertools.zip_longest","itertools.pairwise"].contains n=ag)(hQ:Q () s):wpAny M A (nL tg (.ref it) u) Q E s:= by
  unfold nL;cases tg<;>first
    |exact aS hQ
    | (cases u<;>first
        |exact aS hQ
        | (refine ao (wpAny_load ho ?_)
           rw[hc,hd];show wpAny M A (if (["enumerate","zip","dict_itemiterator","dict_reverseitemiterator","odict_iterator","itertools.zip_longest","itertools.pairwise"].contains n&&vs[0]?==ab (dA _))=ae then _ else _) Q E s;rw[az (by intro h;rw[hn,Bool.false_and] at h;cases h)];exact aS hQ))
noncomputable def Itl(K:br)(a:ak):It:=
 ⟨λi H=>∃xs x,SqL K H a xs/\xs[i]?=ab x,λi H x H'=>H'=H/\∀xs,SqL K H a xs->xs[i]?=ab x,λi H=>∃xs,SqL K H a xs/\xs.length<=i⟩
noncomputable def Itt(K:br)(a:ak):It:=
 ⟨λi H=>∃xs x,SqT K H a xs/\xs[i]?=ab x,λi H x H'=>H'=H/\∀xs,SqT K H a xs->xs[i]?=ab x,λi H=>∃xs,SqT K H a xs/\xs.length<=i⟩
noncomputable def Itr(lo:ai)(n:af):It:=⟨λi _=>i<n,λi H x H'=>H'=H/\x=.int (lo+i),λi _=>n<=i⟩
theorem W9{P:bp}{w:bh}{K:br}{tg:Expr}(a it:ak):Turn P w K tg (Itl K a) [it] it (λi h=>h.IsListIter it a i) where
 mem:=by simp
 obj:=λi h st b hb=>by
  have e:b=it:=by simpa using hb
  subst e;obtain⟨o,e,c,d⟩:=st;exact⟨o,e,λv z=>by rw[d] at z;cases z⟩
 keep:=λi h h' st k=>st.at λo e=>k it 0x2 o e
 item:=by
  intro X hP hw hK hc i pins s σ H E I hf st hg;subst hP hw hK;obtain⟨xs,x,hq,hx⟩:=hg;obtain⟨its,rv,p,hz⟩:=I.list hq;obtain⟨u,hu,ru⟩:=rv.get hx;obtain⟨f0,f1,f2,f3,f4,f5⟩:=hf it 0x2;refine Ai st p.isList (x:=u) (by simpa using hu) λh' st' sb=>?_
  have I1:Inv X pins σ H {s with heap:=h'}:=I.turned (t':=s.toks) (λb o hb e=>(sb.2 b hb).trans e) f0 f1 f3 f4 f5;obtain⟨o,e,c,d⟩:=id st';exact⟨u,rfl,W8 (s:={s with heap:=h'}) e c d 0x4 ⟨x,H,I1,ru,⟨rfl,λys hy=>by rw[I.aBj hy hq];exact hx⟩,st',λb hb=>(hf b hb).1⟩⟩
 done:=by
  intro X hP hw hK hc i pins s σ H E I hf st hg;subst hP hw hK;obtain⟨xs,hq,hx⟩:=hg;obtain⟨its,rv,p,hz⟩:=I.list hq;obtain⟨f0,f1,f2,f3,f4,f5⟩:=hf it 0x2;have hl:=rv.length;exact Aj (I.ok.hd hc) st p.isList (by simp;lia) λh' eb=>⟨rfl,I.turned (t':=s.toks) (λb o hb e=>eb b o hb e) f0 f1 f3 f4 f5⟩
 self:=λ_ _ _ _ _ st h=>wpAny_pyIter_listiter st h
theorem UG{P:bp}{w:bh}{K:br}{tg:Expr}(a it:ak):Turn P w K tg (Itt K a) [it] it (λi h=>h.IsTupleIter it a i) where
 mem:=by simp
 obj:=λi h st b hb=>by
  have e:b=it:=by simpa using hb
  subst e;obtain⟨o,e,c,d⟩:=st;exact⟨o,e,λv z=>by rw[d] at z;cases z⟩
 keep:=λi h h' st k=>st.at λo e=>k it 0x2 o e
 item:=by
  intro X hP hw hK hc i pins s σ H E I hf st hg;subst hP hw hK;obtain⟨xs,x,hq,hx⟩:=hg;obtain⟨its,rv,p,hz⟩:=I.tuple hq;obtain⟨u,hu,ru⟩:=rv.get hx;obtain⟨f0,f1,f2,f3,f4,f5⟩:=hf it 0x2;refine Ak st (show s.heap.IsTuple a its.toArray from p) (x:=u) (by simpa using hu) λh' st' sb=>?_
  have I1:Inv X pins σ H {s with heap:=h'}:=I.turned (t':=s.toks) (λb o hb e=>(sb.2 b hb).trans e) f0 f1 f3 f4 f5;obtain⟨o,e,c,d⟩:=id st';exact⟨u,rfl,W8 (s:={s with heap:=h'}) e c d 0x4 ⟨x,H,I1,ru,⟨rfl,λys hy=>by rw[I.W5 hy hq];exact hx⟩,st',λb hb=>(hf b hb).1⟩⟩
 done:=by
  intro X hP hw hK hc i pins s σ H E I hf st hg;subst hP hw hK;obtain⟨xs,hq,hx⟩:=hg;obtain⟨its,rv,p,hz⟩:=I.tuple hq;obtain⟨f0,f1,f2,f3,f4,f5⟩:=hf it 0x2;have hl:=rv.length;exact Al (I.ok.hd hc) st (show s.heap.IsTuple a its.toArray from p) (by simp;lia) λh' eb=>⟨rfl,I.turned (t':=s.toks) (λb o hb e=>eb b o hb e) f0 f1 f3 f4 f5⟩
 self:=λ_ _ _ _ _ st h=>wpAny_pyIter_tupleiter st h
theorem UJ{P:bp}{w:bh}{K:br}{tg:Expr}(it:ak)(lo:ai)(n:af):Turn P w K tg (Itr lo n) [it] it (λi h=>Am h it (lo+(i:af)*1) ((n:ai)-(i:af)) 1) where
 mem:=by simp
 obj:=λi h st b hb=>by
  have e:b=it:=by simpa using hb
  subst e;exact⟨_,st,λv z=>by
   have z':nN _=nS v:=z;cases z'⟩
 keep:=λi h h' st k=>k it 0x2 _ st
 item:=by
  intro X hP hw hK hc i pins s σ H E I hf st hg;subst hP hw hK;obtain⟨f0,f1,f2,f3,f4,f5⟩:=hf it 0x2;have W:=Walks.range (prog:=X.prog) (w:=X.w) (I.ok.hd hc) it lo 1 n;refine W.item i s _ _ hg st λv h' tk hv st' kk=>?_
  obtain⟨t,rfl⟩:=hv;have I1:Inv X pins σ H {s with heap:=h',toks:=tk}:=I.turned (λb o hb e=>kk b o (by simpa using hb) e) f0 f1 f3 f4 f5;refine⟨_,rfl,W8 (s:={s with heap:=h',toks:=tk}) (n:= "range_iterator") st' rfl rfl 0x4 ⟨.int (lo+i),H,I1,⟨t,?_⟩,⟨rfl,rfl⟩,st',λb hb=>(hf b hb).1⟩⟩;rw[Int.mul_one]
 done:=by
  intro X hP hw hK hc i pins s σ H E I hf st hg;subst hP hw hK;obtain⟨f0,f1,f2,f3,f4,f5⟩:=hf it 0x2;exact wpAny_pyNext_range_end (I.ok.hd hc) st (by have:n<=i:=hg;lia) λh' eb=>⟨rfl,I.turned (t':=s.toks) (λb o hb e=>eb b o hb e) f0 f1 f3 f4 f5⟩
 self:=λ_ _ _ _ _ st h=>wpAny_pyIter_rangeiter st h
section
variable {X:Cx} {tg:Expr}
theorem Q7{pins:aa (ak×aT)}{σ:St}{H:Hp}{s:al}{R:It->Hp->Prop}{E:ah->al->Prop}{lo hi:ai}{t u v:eB}{tk:af}(I:Inv X pins σ H s)(h1:-(2 ^ 62)<=lo)(h2:lo<2 ^ 62)(h3:-(2 ^ 62)<=hi)(h4:hi<2 ^ 62)
 (q:R (Itr lo (hi-lo).toNat) H):wpAny (av X.prog X.w) X.A (i6 (.ref s.heap.objs.size)) (PIE X pins σ tg R) E {s with heap:=s.heap.push {cls:=.type "range",data:=.fields #[.int lo t,.int hi u,.int 1 v]},toks:=tk}:=by
 refine wpAny_pyIter_range (IsRange.new ..) (small_one h1 h2 h3 h4) ?_;have I1:Inv X pins σ H {s with heap:=s.heap.push {cls:=.type "range",data:=.fields #[.int lo t,.int hi u,.int 1 v]},toks:=tk}:=I.kept λb o e=>bz _ e
 refine⟨(s.heap.push {cls:=.type "range",data:=.fields #[.int lo t,.int hi u,.int 1 v]}).objs.size,[(s.heap.push {cls:=.type "range",data:=.fields #[.int lo t,.int hi u,.int 1 v]}).objs.size],_,_,H,rfl,
  I1.kept (t':=tk) λb o e=>bz _ e,UJ _ lo (hi-lo).toNat,?_,λb hb=>?_,q⟩
 ·have e1:lo+((0:af):ai)*1=lo:=by simp
  have e2:(((hi-lo).toNat:af):ai)-((0:af):ai)=CA lo hi 1:=by rw[rangeSize_one];split<;>lia
  show Am _ _ (lo+((0:af):ai)*1) ((((hi-lo).toNat:af):ai)-((0:af):ai)) 1;rw[e1,e2];exact cS _ rfl
 ·have e:b=(s.heap.push {cls:=.type "range",data:=.fields #[.int lo t,.int hi u,.int 1 v]}).objs.size:=by simpa using hb
  subst e;exact I1.aBl (ba _) (I1.hok.fresh (ba _))
def aM9(ta:TA):TI:=λσ H R=>ta σ H λvs H1=>∃j:ai,vs=[.int j]/\-(2 ^ 62)<=j/\j<2 ^ 62/\R (Itr 0 j.toNat) H1
def aMa(ta:TA):TI:=λσ H R=>ta σ H λvs H1=>∃i j:ai,vs=[.int i,.int j]/\(-(2 ^ 62)<=i/\i<2 ^ 62/\-(2 ^ 62)<=j/\j<2 ^ 62)/\R (Itr i (j-i).toNat) H1
theorem W_{a:Expr}{ta:TA}{p pos:bS}(hg:Gl X "range")(hm:X.mg "range"=aj)(ha:PA X [a] ta)(hs:bi [a] X.env=[(ag,bm a X.env)]:=by rfl):PI X tg (.Call (.Name "range" p) [a] [] pos) (aM9 ta):=by
 intro pins s σ H R I h;refine Call_ (kW I hg hm boot_range (i7 (thn (ha pos pins s σ H _ I h) λus s1 ⟨vs,H1,I1,r1,q1⟩=>?_) hs rfl));obtain⟨j,e,q1,q2,q⟩:=q1;subst e;cases r1 with
 |cons r rr=>
  cases rr;obtain⟨t,rfl⟩:=r;exact call_range_1 (Q7 I1 0x1 0x1 q1 q2 (by simpa using q))
theorem XC{a b:Expr}{ta:TA}{p pos:bS}(hg:Gl X "range")(hm:X.mg "range"=aj)(ha:PA X [a,b] ta)(hs:bi [a,b] X.env=[(ag,bm a X.env),(ag,bm b X.env)]:=by rfl)(hs2:bi [b] X.env=[(ag,bm b X.env)]:=by rfl) :
  PI X tg (.Call (.Name "range" p) [a,b] [] pos) (aMa ta):=by
 intro pins s σ H R I h;refine Call_ (kW I hg hm boot_range (i7 (thn (ha pos pins s σ H _ I h) λus s1 ⟨vs,H1,I1,r1,q1⟩=>?_) (by rw[hs,hs2]) (by rw[hs2];rfl)));obtain⟨i,j,e,⟨q1,q2,q3,q4⟩,q⟩:=q1;subst e;cases r1 with
 |cons r rr=>
  cases rr with
  |cons r' rr=>
   cases rr;obtain⟨t,rfl⟩:=r;obtain⟨t',rfl⟩:=r';exact call_range_2 (Q7 I1 q1 q2 q3 q4 q)
def aO9(wi:TI)(g:TG)(tb:TS):TS:=λD σ H=>wi σ H λJ H1=>∃W:af->af->St->Hp->Prop,(∃m,W 0 m σ H1)/\∀i m σ H,W i m σ H->
 (J.stop i H/\D.nx σ H)\/(J.go i H/\∃N:St->Hp->Prop,(∀σ' H',N σ' H'->∃m',m'<m/\W (i+1) m' σ' H')/\∀x H',J.yld i H x H'->g x σ H' λσ2 H2=>tb {D with nx:=N,ct:=N,bk:=D.nx} σ2 H2)
noncomputable def vL(fp:aa ak)(h:aI):aa (ak×aT):=fp.filterMap λb=>(h.get? b).map λo=>(b,o)
theorem nH{fp:aa ak}{h:aI}{b:ak}{o:aT}(hb:b∈fp)(e:h.get? b=ab o):(b,o)∈vL fp h:=An.mpr ⟨b,hb,by rw[e];rfl⟩
theorem XF{fp:aa ak}{h:aI}{p:ak×aT}(hp:p∈vL fp h):p.1∈fp/\h.get? p.1=ab p.2:=by
 obtain⟨b,hb,e⟩:=An.mp hp;cases q:h.get? b with
 |none=>rw[q] at e;cases e
 |some o=>
  rw[q] at e;have e':(b,o)=p:=cq e;subst e';exact⟨hb,q⟩
theorem Inv.pinned{pins:aa (ak×aT)}{σ:St}{H:Hp}{s:al}{fp:aa ak}(I:Inv X pins σ H s)(hf:∀b∈fp,WR X pins H b)(ho:∀b∈fp,∃o,s.heap.get? b=ab o/\∀v,o.data≠.cell v):Inv X (pins++vL fp s.heap) σ H s:=
 I.MP λp hp=>(gz.mp hp).elim (λz=>I.pin p (hZ _ z)) λz=>by
  obtain⟨hb,e⟩:=XF z;obtain⟨f0,f1,f2,_⟩:=hf p.1 hb;obtain⟨o,e',d⟩:=ho p.1 hb;rw[e] at e';cases e';exact⟨e,f0,f1,f2,d⟩
theorem Inv.oV{pins pl:aa (ak×aT)}{σ:St}{H:Hp}{s:al}(I:Inv X (pins++pl) σ H s):Inv X pins σ H s:=I.MP λp hp=>I.pin p (hZ _ (Ac _ hp))
theorem aDo{iter:Expr}{body:aa bP}{wi:TI}{g:TG}{tb:TS}{pos:bS}(hp:nK (av X.prog X.w) X.A X.env X.xe)(hc:X.calm=ae)(hi:PI X tg iter wi)(hg:PG X tg g)(hb:PSs X body tb)
 (hs:∀x,fw iter X.env x=pure x:=by intro _;rfl):PS X (.For tg iter body [] pos) (aO9 wi g tb):=by
 intro pins s σ H D I h;refine wpAny_For (thn (hi pins s σ H _ I h) λv s1 h1=>thn h1 λitv s2 h2=>?_) hs;obtain⟨it,fp,tn,J,H2,e,I2,T,st2,f2,W,⟨m0,w0⟩,turn⟩:=h2;subst e
 -- what stays ae of the iterator's objects through the loop
 have stat:∀{H':Hp},(∀b∈fp,H' b=aj)->∀b∈fp,WR X pins H' b:=λhn b hb=>⟨hn b hb,(f2 b hb).2⟩
 refine codeAny_forLoop_any (λn s'=>∃i σ' H',Inv X pins σ' H' s'/\tn i s'.heap/\(∀b∈fp,H' b=aj)/\W i n σ' H') ?_ m0 ⟨0,σ,H2,I2,st2,λb hb=>(f2 b hb).1,w0⟩;rintro n s3 ⟨i,σ3,H3,I3,st3,fr3,w3⟩;rcases turn i n σ3 H3 w3 with ⟨stop,qn⟩|⟨go,N,hN,step⟩
 ·refine lb hp (thn (T.done X rfl rfl rfl hc i pins s3 σ3 H3 X.xe I3 (stat fr3) st3 stop) λr s4 ⟨hr,I4⟩=>?_);subst hr;exact so ⟨σ3,H3,I4,qn⟩
 ·refine lb hp (thn (T.item X rfl rfl rfl hc i pins s3 σ3 H3 X.xe I3 (stat fr3) st3 go) λr s4 ⟨u,hr,h4⟩=>?_);subst hr;refine lb hp (thn h4 λ_ s5 ⟨x,H5,I5,r5,y5,st5,fr5⟩=>?_);have I5':=I5.pinned (stat fr5) (T.obj _ _ st5);refine lb hp (thn (hg _ s5 σ3 H5 x u _ I5' r5 (step x H5 y5)) λ_ s6 ⟨σ6,H6,I6,q6⟩=>?_);refine lb hp (thn (hb _ s6 σ6 H6 _ I6 q6) λf s7 q7=>?_);have again:∀{σ7:St}{H7:Hp},Inv X (pins++vL fp s5.heap) σ7 H7 s7->N σ7 H7->∃m,m<n/\∃i σ' H',Inv X pins σ' H' s7/\tn i s7.heap/\(∀b∈fp,H' b=aj)/\W i m σ' H':=λ{σ7 H7} I7 n7=>by
   obtain⟨m',hm,w7⟩:=hN σ7 H7 n7;refine⟨m',hm,i+1,σ7,H7,I7.oV,T.keep _ _ _ st5 λb hb o e=>(I7.pin (b,o) (hZ _ (hZ _ (nH hb e)))).1,λb hb=>?_,w7⟩;obtain⟨o,e,d⟩:=T.obj _ _ st5 b hb;exact(I7.pin (b,o) (hZ _ (hZ _ (nH hb e)))).2.1
  cases f with
  |next=>obtain⟨σ7,H7,I7,n7⟩:=q7;exact again I7 n7
  |cont=>obtain⟨σ7,H7,I7,n7⟩:=q7;exact again I7 n7
  |brk=>obtain⟨σ7,H7,I7,q7⟩:=q7;exact⟨σ7,H7,I7.oV,q7⟩
  |ret v=>obtain⟨x7,σ7,H7,I7,r7,q7⟩:=q7;exact⟨x7,σ7,H7,I7.oV,r7,q7⟩
end
abbrev R2:=V->V->Hp->VK->Prop
def OpR(X:Cx)(f:ah->ah->dt ah)(r:R2):Prop:=
 ∀(pins:aa (ak×aT))(s:al)(σ:St)(H:Hp)(x y:V)(v u:ah)(Q:VK),Inv X pins σ H s->RelV x v->RelV y u->r x y H Q->
  wpAny (av X.prog X.w) X.A (f v u) (EP X pins σ Q) X.xe s
def UnR(X:Cx)(f:ah->dt ah)(r:V->Hp->VK->Prop):Prop:=
 ∀(pins:aa (ak×aT))(s:al)(σ:St)(H:Hp)(x:V)(v:ah)(Q:VK),Inv X pins σ H s->RelV x v->r x H Q->
  wpAny (av X.prog X.w) X.A (f v) (EP X pins σ Q) X.xe s
def kJ(X:Cx)(f:ah)(r:aa V->Hp->VK->Prop):Prop:=
 ∀(pins:aa (ak×aT))(s:al)(σ:St)(H:Hp)(xs:aa V)(us:aa ah)(Q:VK),Inv X pins σ H s->Vals xs us->r xs H Q->
  wpAny (av X.prog X.w) X.A (call f us) (EP X pins σ Q) X.xe s
def aOa(X:Cx)(r:V->Hp->(aq->Hp->Prop)->Prop):Prop:=
 ∀(pins:aa (ak×aT))(s:al)(σ:St)(H:Hp)(x:V)(v:ah)(Q:aq->Hp->Prop),Inv X pins σ H s->RelV x v->r x H Q->
  wpAny (av X.prog X.w) X.A (truthy v) (TP X pins σ Q) X.xe s
noncomputable def tOp(r:R2)(ta tb:TE):TE:=λσ H Q=>ta σ H λx H1=>tb σ H1 λy H2=>r x y H2 Q
noncomputable def tUn(r:V->Hp->VK->Prop)(ta:TE):TE:=λσ H Q=>ta σ H λx H1=>r x H1 Q
noncomputable def rI(C:ai->ai->Prop)(g:ai->ai->V):R2:=λx y H Q=>∃i j,x=.int i/\y=.int j/\C i j/\Q (g i j) H
noncomputable def rI0(g:ai->ai->V):R2:=λx y H Q=>∃i j,x=.int i/\y=.int j/\Q (g i j) H
def rU(g:ai->V):V->Hp->VK->Prop:=λx H Q=>∃i,x=.int i/\Q (g i) H
section
variable {X:Cx} {a b:Expr} {ta tb:TE} {pos:bS}
theorem aMb(ha:PE X a ta)(hb:PE X b tb){pins:aa (ak×aT)}{s:al}{σ:St}{H:Hp}{R:V->V->Hp->Prop}(I:Inv X pins σ H s)
 (h:ta σ H λx H1=>tb σ H1 λy H2=>R x y H2){Q:ah->al->Prop}{f:ah->ah->dt ah}
 (hf:∀v u s2 x y H2,Inv X pins σ H2 s2->RelV x v->RelV y u->R x y H2->wpAny (av X.prog X.w) X.A (f v u) Q X.xe s2) :
  wpAny (av X.prog X.w) X.A (bm a X.env) (λv s₁=>wpAny (av X.prog X.w) X.A (bm b X.env) (λu s₂=>wpAny (av X.prog X.w) X.A (f v u) Q X.xe s₂) X.xe s₁) X.xe s:=by
 refine thn (ha pins s σ H _ I h) λv s1 ⟨x,H1,I1,r1,q1⟩=>?_
 refine thn (hb pins s1 σ H1 _ I1 q1) λu s2 ⟨y,H2,I2,r2,q2⟩=>?_
 exact hf v u s2 x y H2 I2 r1 r2 q2
theorem aMc{op:Operator}{r:R2}(ho:OpR X (fy op) r)(ha:PE X a ta)(hb:PE X b tb):PE X (.BinOp a op b pos) (tOp r ta tb):=by
 intro pins s σ H Q I h;exact wpAny_BinOp (aMb ha hb I h λv u s2 x y H2 I2 rx ry q=>ho pins s2 σ H2 x y v u Q I2 rx ry q)
theorem aMd{op:UnaryOp}{r:V->Hp->VK->Prop}(ho:UnR X (sr op) r)(ha:PE X a ta):PE X (.UnaryOp op a pos) (tUn r ta):=by
 intro pins s σ H Q I h;exact UnaryOp_ (thn (ha pins s σ H _ I h) λv s1 ⟨x,H1,I1,r1,q1⟩=>ho pins s1 σ H1 x v Q I1 r1 q1)
theorem opI{f:ah->ah->dt ah}{C:ai->ai->Prop}{g:ai->ai->ai}
 (lf:∀(i j:ai) (t u:eB) (s:al) (Q:ah->al->Prop) (E:ah->al->Prop),C i j->Q (.int (g i j) s.toks) {s with toks:=s.toks+1}->wpAny (av X.prog X.w) X.A (f (.int i t) (.int j u)) Q E s) :
  OpR X f (rI C λi j=>.int (g i j)):=by
 intro pins s σ H x y v u Q I rx ry h;obtain⟨i,j,rfl,rfl,hc,q⟩:=h;obtain⟨t,rfl⟩:=rx;obtain⟨t',rfl⟩:=ry;exact lf i j t t' s _ _ hc ⟨.int (g i j),H,I.tok _,⟨_,rfl⟩,q⟩
theorem aNq{f:ah->ah->dt ah}{g:ai->ai->ai}
 (lf:∀(i j:ai) (t u:eB) (s:al) (Q:ah->al->Prop) (E:ah->al->Prop),Q (.int (g i j) s.toks) {s with toks:=s.toks+1}->wpAny (av X.prog X.w) X.A (f (.int i t) (.int j u)) Q E s) :
  OpR X f (rI0 λi j=>.int (g i j)):=by
 intro pins s σ H x y v u Q I rx ry h;obtain⟨i,j,rfl,rfl,q⟩:=h;obtain⟨t,rfl⟩:=rx;obtain⟨t',rfl⟩:=ry;exact lf i j t t' s _ _ ⟨.int (g i j),H,I.tok _,⟨_,rfl⟩,q⟩
def aOb(i j:ai):Prop:=0<j/\j<1073741824
def aMe(i j:ai):Prop:=(-(2 ^ 64)<i/\i<2 ^ 64)\/(-(2 ^ 64)<j/\j<2 ^ 64)
theorem aMe.ok{i j:ai}(h:aMe i j):IntMulOk i j:=by
 rcases h with ⟨h1,h2⟩|⟨h1,h2⟩
 ·exact .of_left (Ao h1 h2)
 ·exact .of_right (Ao h1 h2)
theorem aIq:OpR X (fy .Add) (rI0 λi j=>.int (i+j)):=aNq λ_ _ _ _ _ _ _ q=>add_int q
theorem aIr:OpR X (fy .Sub) (rI0 λi j=>.int (i-j)):=aNq λ_ _ _ _ _ _ _ q=>sub_int q
theorem aIs:OpR X (fy .Mult) (rI aMe λi j=>.int (i*j)):=opI λ_ _ _ _ _ _ _ hc q=>mul_int q hc.ok
theorem aEu:OpR X (fy .FloorDiv) (rI aOb λi j=>.int (i / j)):=opI λi j _ _ _ _ _ hc q=>by
 have h1:(0:ai)<j:=hc.1;have h2:j<1073741824:=hc.2;exact floordiv_int 0x1 (by rw[Int.fdiv_eq_ediv_of_nonneg i 0x1];exact q) (.inl (PyProof.noPylong_small 0x1))
theorem aIt:OpR X (fy .Mod) (rI (λ_ j=>0<j) λi j=>.int (i % j)):=opI λi j _ _ _ _ _ hc q=>by
 have h1:(0:ai)<j:=hc;exact mod_int' 0x1 (by rw[Int.fmod_eq_emod_of_nonneg i 0x1];exact q)
theorem unI{f:ah->dt ah}{g:ai->ai}
 (lf:∀(i:ai) (t:eB) (s:al) (Q:ah->al->Prop) (E:ah->al->Prop),Q (.int (g i) s.toks) {s with toks:=s.toks+1}->wpAny (av X.prog X.w) X.A (f (.int i t)) Q E s) :
  UnR X f (rU λi=>.int (g i)):=by
 intro pins s σ H x v Q I rx h;obtain⟨i,rfl,q⟩:=h;obtain⟨t,rfl⟩:=rx;exact lf i t s _ _ ⟨.int (g i),H,I.tok _,⟨_,rfl⟩,q⟩
theorem aIu:UnR X (sr .USub) (rU λi=>.int (-i)):=unI λ_ _ _ _ _ q=>neg_int q
end
section
variable {X:Cx} {a b c:Expr} {ta tb:TE} {pos:bS}
theorem aDp{pins:aa (ak×aT)}{σ:St}{H:Hp}{s:al}{Q:VK}{k k':aq}(I:Inv X pins σ H s)(q:Q (.bl k) H)(e:k=k'):EP X pins σ Q (.bool k') s:=by
 subst e;exact⟨.bl k,H,I,rfl,q⟩
theorem XH:OpR X (c6 .In) (λx y H Q=>∃i j,x=.str i/\y=.str j/\Q (.bl (!(Ap j i 0 j.length 1).isEmpty)) H):=by
 intro pins s σ H x y v u Q I rx ry h;obtain⟨i,j,rfl,rfl,q⟩:=h;obtain⟨t,rfl⟩:=rx;obtain⟨t',rfl⟩:=ry;exact in_str (aDp I q rfl)
theorem aIv:OpR X (c6 .Is) (λx y H Q=>y=.non/\Q (.bl (decide (x=.non))) H):=by
 intro pins s σ H x y v u Q I rx ry h;obtain⟨rfl,q⟩:=h;cases ry;refine is_none_gen (aDp I q ?_);cases x<;>first
  | (cases rx;rfl)
  | (obtain⟨t,rfl⟩:=rx;rfl)
theorem cP(b:Expr){op:iL}(h:op≠.In:=by decide)(h2:op≠.NotIn:=by decide):mj op b=ag:=by
 have e1:(op==CmpOp.In)=ag:=by cases op<;>first|rfl|exact bg rfl h
 have e2:(op==CmpOp.NotIn)=ag:=by cases op<;>first|rfl|exact bg rfl h2
 cases b<;>simp[mj,e1,e2]
theorem aEv{op:iL}{r:R2}(ho:OpR X (c6 op) r)(ha:PE X a ta)(hb:PE X b tb)(hm:mj op b=ag):PE X (.Compare a [op] [b] pos) (tOp r ta tb):=by
 intro pins s σ H Q I h;exact wpAny_Compare1 (aMb ha hb I h λv u s2 x y H2 I2 rx ry q=>ho pins s2 σ H2 x y v u Q I2 rx ry q) hm
noncomputable def aMf(t:TE):TT:=λσ H Q=>t σ H λx H'=>∃k,x=.bl k/\Q k H'
theorem aEw{op:iL}{r:R2}(ho:OpR X (c6 op) r)(ha:PE X a ta)(hb:PE X b tb)(hm:mj op b=ag):PT X (.Compare a [op] [b] pos) (aMf (tOp r ta tb)):=by
 intro pins s σ H Q I h;refine wpAny_isTrue_Compare1 (thn (ha pins s σ H _ I h) λv s1 ⟨x,H1,I1,r1,q1⟩=>thn (hb pins s1 σ H1 _ I1 q1) λu s2 ⟨y,H2,I2,r2,q2⟩=>
  thn (ho pins s2 σ H2 x y v u _ I2 r1 r2 q2) λc s3 ⟨z,H3,I3,r3,k,e,q3⟩=>?_) hm
 subst e;cases r3;exact mi ⟨H3,I3,q3⟩
def aMg(K:br)(x:V)(H:Hp)(k:aq):Prop:=
 match x with
 |.non=>k=ag
 |.bl b=>k=b
 |.int i=>k=(i !=0)
 |.str y=>y.length<=bn/\k=((y.length:ai)!=0)
 |.byt y=>y.size<=bn/\k=((y.size:ai)!=0)
 |.ref p=>(∃xs,SqL K H p xs/\k=!xs.isEmpty)\/(∃xs,SqT K H p xs/\k=!xs.isEmpty)\/∃kvs,H p=ab (.dK kvs)/\k=!kvs.isEmpty
 |_=>cv
theorem UL{κ:Type}{kvs:aa (κ×V)}{vs:aa (κ×ah)}(r:KV kvs vs):(!vs.isEmpty)=!kvs.isEmpty:=by
 cases r<;>rfl
theorem yH{xs:aa V}{its:aa ah}(r:Vals xs its):(!its.toArray.isEmpty)=!xs.isEmpty:=by
 cases r<;>simp
theorem yI:(bn:af)<2 ^ 63:=by rw[dE];decide
theorem aIw:aOa X (λx H Q=>∃k,aMg X.K x H k/\Q k H):=by
 intro pins s σ H x v Q I rx h;obtain⟨k,e,q⟩:=h;have hl:=yI;have hs:bn=16777216:=dE;cases x with
 |non=>
  cases rx;have e':k=ag:=e;subst e';exact truthy_none ⟨H,I,q⟩
 |bl b=>
  cases rx;have e':k=b:=e;subst e';exact mi ⟨H,I,q⟩
 |int i=>
  obtain⟨t,rfl⟩:=rx;have e':k=(i !=0):=e;subst e';exact PySem.P.truthy_int ⟨H,I,q⟩
 |str y=>
  obtain⟨t,rfl⟩:=rx;obtain⟨hy,e'⟩:y.length<=bn/\k=((y.length:ai)!=0):=e;subst e';exact PySem.P.truthy_str 0x1 ⟨H,I.tok _,q⟩
 |byt y=>
  obtain⟨t,rfl⟩:=rx;obtain⟨hy,e'⟩:y.size<=bn/\k=((y.size:ai)!=0):=e;subst e';exact PySem.W.truthy_bytes 0x1 ⟨H,I.tok _,q⟩
 |ref p=>
  cases rx;have e':(∃xs,SqL X.K H p xs/\k=!xs.isEmpty)\/(∃xs,SqT X.K H p xs/\k=!xs.isEmpty)\/∃kvs,H p=ab (.dK kvs)/\k=!kvs.isEmpty:=e;rcases e' with ⟨xs,hx,e'⟩|⟨xs,hx,e'⟩|⟨kvs,hx,e'⟩
  ·subst e';obtain⟨its,r,pl,hz⟩:=I.list hx;have hlen:=r.length;exact wpAny_truthy_list pl.isList (by simp only[cm];lia) ⟨H,I.tok _,by rw[yH r];exact q⟩
  ·subst e';obtain⟨its,r,pl,hz⟩:=I.tuple hx;have hlen:=r.length;exact truthy_tuple pl (by simp only[cm];lia) ⟨H,I.tok _,by rw[yH r];exact q⟩
  ·subst e';obtain⟨hz,hS,vs,r,m⟩:kvs.length<=bn/\(p==gu)=ag/\∃vs,KV kvs vs/\s.heap.DictOf (cD X.prog X.w) p vs:=I.hok p _ hx;have hlen:kvs.length=vs.length:=jr r;exact wpAny_truthy_dict hS m 0x1 ⟨H,I.tok _,by rw[UL r];exact q⟩
 |_=>exact(show cv from e).elim
theorem aBm(ha:PE X a ta)(he:∀whole,sk a X.env whole=(do let v <- whole;ss a.pos;lg [v] (truthy v))) :
  PT X a (λσ H Q=>ta σ H λx H'=>∃k,aMg X.K x H' k/\Q k H'):=by
 intro pins s σ H Q I h;exact isTrue_plain (thn (ha pins s σ H _ I h) λv s1 ⟨x,H1,I1,r1,q1⟩=>aIw pins s1 σ H1 x v Q I1 r1 q1) (he _)
theorem UT:OpR X (fy .Add) (λx y H Q=>∃i j,x=.str i/\y=.str j/\i.length+j.length<=bn/\Q (.str (i++j)) H):=by
 intro pins s σ H x y v u Q I rx ry h;obtain⟨i,j,rfl,rfl,hz,q⟩:=h;obtain⟨t,rfl⟩:=rx;obtain⟨t',rfl⟩:=ry;exact add_str (λt' tk=>⟨.str (i++j),H,I.tok _,⟨_,rfl⟩,q⟩) hz
theorem vals1{x:V}{us:aa ah}(r:Vals [x] us):∃u,us=[u]/\RelV x u:=by
 cases r with
 |cons r1 r2=>cases r2;exact⟨_,rfl,r1⟩
end
structure aEx(h:aI)(x dx C:ak)(mA:Str->ax ah):Prop where
 obj:h.get? x=ab (kg C dx)
 ns:h.Ns1 dx mA
 ne:dx≠x
theorem XJ{h:aI}{dx:ak}{mA:Str->ax ah}(n:h.Ns1 dx mA):∃od,h.get? dx=ab od/\∀name,su name od=ab (mA name):=by
 obtain⟨o,es,ep,ho,hd,hk,_,hm⟩:=n;refine⟨o,ho,λname=>?_⟩;have e:=hm name;unfold nsFind findBy at e;rw[<-Array.find?_toList] at e;unfold su;rw[hd];dsimp only;split
 ·rename_i y q;rw[q] at e;exact dl ab e
 ·rename_i q;rw[q] at e;have a:es.toList.any (·.refKey)=ag:=by
   rw[Aq];intro y hy;obtain⟨z,t,hkey⟩:=hk y (Array.mem_toList_iff.mp hy);simp[CB,hkey]
  have a':¬es.toList.any (·.refKey)=ae:=by rw[a];exact lc
  rw[az a'];exact dl ab e
theorem aEx.look{h:aI}{x dx C:ak}{mA:Str->ax ah}(I:aEx h x dx C mA):∃od,PySem.W.InstAt h x (kg C dx) C (ab od)/\∀name,su name od=ab (mA name):=
 let ⟨od,ho,hl⟩:=XJ I.ns
 ⟨od,⟨I.obj,rfl,rfl,ho⟩,hl⟩
section
variable {prog:bp} {w:bh} {A:bu} {E:ah->al->Prop} {s:al} {K:br} {x dx C f:ak} {mA:Str->ax ah} {name:Str} {v:ah}
theorem vM{expr:aq}{Q:ah->al->Prop}(X:K.In s.heap)(I:aEx s.heap x dx C mA)(hg:sv K C name=ae)(hh:vq K C=ae)
 (ha:js K (.ref C) name=ab aj)(hv:mA name=ab v)(hv':Ar v=ae)(h:Q v {s with toks:=s.toks+1}) :
  wpAny (av prog w) A (vw (.ref x) name expr) Q E s:=by
 obtain⟨od,J,hl⟩:=I.look;exact PySem.W.get_value X J (vx hg).1 (PySem.W.findObj_own hh ha rfl (by rw[hl,hv])) hv' h
theorem aBn{pl:dt aq}{Q:ah×aa ah->al->Prop}(X:K.In s.heap)(I:aEx s.heap x dx C mA)(hg:sv K C name=ae)
 (hf:js K (.ref C) name=ab (ab (.ref f)))(ht:vz K (.ref f)=ae)(hv:mA name=aj)(h:Q (.ref f,[.ref x]) s) :
  wpAny (av prog w) A (sA (.ref x) name pl) Q E s:=by
 obtain⟨od,J,hl⟩:=I.look;exact PySem.W.method_fn X J (vx hg).1 (vx hg).2 hf (iq.mp ht) (by show(su name od).map (·.isSome)=ab ag;rw[hl,hv];rfl) h
theorem aEy{ns:aa Str}{Q:iE->al->Prop}(X:K.In s.heap)(I:aEx s.heap x dx C mA)
 (hs:js K (.ref C) "__setattr__"=ab (ab (.builtin "object.__setattr__")))(hp:As K C=ae)(ht:vE K C name=ab aj)(hh:vq K C=ae)
 (hw:sh mA ns)(hsz:ns.length<=bn)
 (h:∀h',aEx h' x dx C (λy=>if y=name then ab v else mA y)->hG dx s.heap h'->Q () {s with heap:=h',toks:=s.toks+2}) :
  wpAny (av prog w) A (setAttr (.ref x) name v) Q E s:=by
 obtain⟨od,J,hl⟩:=I.look;refine PySem.W.set_plain X J hs (PySem.W.osa_open (s:={s with toks:=s.toks+1}) (r:=aj) X J hp ht λb=>?_);obtain⟨cd,hc,hd'⟩:=PySem.W.any_some hh;have hx:s.heap.get? x=ab ⟨.ref C,ab dx,.plain,#[]⟩:=I.obj;refine ao (aS (ao (ao (wpAny_loadPart hx (ao (CC (s:={s with toks:=s.toks+1}) (PySem.W.looks_clsIn X hc) ?_))))));rw[hd'];refine aS (a:=ab dx) (ao (aS (ao ?_)));refine wpAny_nsSet1 (s:={s with toks:=s.toks+1}) I.ns λh' hn2 hs2=>?_
 obtain⟨oD,esD,epD,hoD,hdD,hcD⟩:=hn2.count (CD name v hw);refine ao (wpAny_lookBehind hoD (by rw[hdD];exact pastItsLine_dict (dw hcD (by rw[bj];lia))) ?_);exact aS (h _ ⟨(hs2.2 _ (c5 I.ne)).trans I.obj,hn2,I.ne⟩ hs2)
theorem aBo{R:kn->al->Prop}{vs:aa ah}{kw:aa (Str×ah)}(X:K.In s.heap)(hm:At K C=ae)
 (hi:js K (.ref C) "__init__"=ab (ab (.ref f)))(hf:PySem.W.typeIn K (.ref f)=ab (.type "function"))
 (h:codeAny (av prog w) (A.under (.builtin "type.__call__" ⟨.ref C::vs,kw⟩)) (.call (.ref f) ⟨.ref (s.heap.objs.size+1)::vs,kw⟩) (PySem.W.InitBack (s.heap.objs.size+1) R)
   {s with heap:=(s.heap.push jt).push (kg C s.heap.objs.size)}) :
  codeAny (av prog w) A (.call (.ref C) ⟨vs,kw⟩) R s:=by
 obtain⟨hh,g,d,t,os⟩:=s;exact PySem.W.make_core (PySem.W.makes_of X hm) (PySem.W.looks_findIn X hi) (λself=>PySem.W.bind_fn X self hf) (.inl rfl) h
end
noncomputable def zH(f:Str)(v:V):aa (Str×V)->aa (Str×V)
 |[]=>[(f,v)]
 | (g,x)::r=>if g=f then (g,v)::r else (g,x)::zH f v r
theorem vN(f g:Str)(v:V):∀fs:aa (Str×V),(zH f v fs).lookup g=if g=f then ab v else fs.lookup g
 |[]=>by
  show gf g [(f,v)]=_;by_cases h:g=f
  ·have hb:(g==f)=ae:=iq.mpr h;simp only[gf,hb,au h]
  ·have hb:(g==f)=ag:=gr.mpr h;simp only[gf,hb,az h]
 | (k,x)::r=>by
  have ih:=vN f g v r;rw[show zH f v ((k,x)::r)=(if k=f then (k,v)::r else (k,x)::zH f v r) from rfl];by_cases hk:k=f
  ·rw[au hk];by_cases h:g=k
   ·have hb:(g==k)=ae:=iq.mpr h;simp only[gf,hb,au (h.trans hk)]
   ·have hb:(g==k)=ag:=gr.mpr h;simp only[gf,hb,az (λe:g=f=>h (e.trans hk.symm))]
  ·rw[az hk];by_cases h:g=k
   ·have hb:(g==k)=ae:=iq.mpr h;simp only[gf,hb,az (λe:g=f=>hk (h.symm.trans e))]
   ·have hb:(g==k)=ag:=gr.mpr h;simp only[gf,hb];exact ih
theorem vO(f:Str)(v:V):∀fs:aa (Str×V),f∈(zH f v fs).map (·.1)/\∀g,g∈fs.map (·.1)->g∈(zH f v fs).map (·.1)
 |[]=>⟨by simp[zH],λg h=>by simp at h⟩
 | (k,x)::r=>by
  obtain⟨i1,i2⟩:=vO f v r;rw[show zH f v ((k,x)::r)=(if k=f then (k,v)::r else (k,x)::zH f v r) from rfl];by_cases hk:k=f
  ·rw[au hk];subst hk;exact⟨by simp,λg h=>by simpa using h⟩
  ·rw[az hk];refine⟨?_,λg h=>?_⟩
   ·rw[bw];exact cg _ i1
   ·rw[bw] at h ⊢;rcases b9.mp h with e|e
    ·exact b9.mpr (.inl e)
    ·exact cg _ (i2 g e)
theorem vP(f:Str)(v:V):∀fs:aa (Str×V),(zH f v fs).length<=fs.length+1
 |[]=>by simp[zH]
 | (k,x)::r=>by
  have ih:=vP f v r;rw[show zH f v ((k,x)::r)=(if k=f then (k,v)::r else (k,x)::zH f v r) from rfl];by_cases hk:k=f
  ·rw[au hk,bj,bj];lia
  ·rw[az hk,bj,bj];lia
theorem K_.some_of{v:V}{o:ax ah}(r:K_ (ab v) o):∃u,o=ab u/\RelV v u:=by
 cases o with
 |none=>exact(show cv from r).elim
 |some u=>exact⟨u,rfl,r⟩
theorem K_.none_of{o:ax ah}(r:K_ aj o):o=aj:=by
 cases o with
 |none=>rfl
 |some u=>exact(show cv from r).elim
theorem XM{v:V}{u:ah}(r:RelV v u):Ar u=ae:=by
 cases v with
 |non=>cases (show u=nv from r);rfl
 |bl b=>cases (show u=k6 b from r);rfl
 |int i=>obtain⟨t,e⟩:=(show ∃t,u=sg i t from r);cases e;rfl
 |str x=>obtain⟨t,e⟩:=(show ∃t,u=nu x t from r);cases e;rfl
 |byt b=>obtain⟨t,e⟩:=(show ∃t,u=zS b t from r);cases e;rfl
 |flt b=>obtain⟨t,e⟩:=(show ∃t,u=Aa b t from r);cases e;rfl
 |ref a=>cases (show u=fq a from r);rfl
 |ty n=>cases (show u=fT n from r);rfl
section
variable {P:bp} {w:bh} {H:Hp} {h:aI} {a C dx:ak} {fs:aa (Str×V)}
theorem M4(hok:HOk P w H h)(e:H a=ab (.ins C dx fs)):∃mA,aEx h a dx C mA/\(∀f,K_ (fs.lookup f) (mA f))/\sh mA (fs.map (·.1))/\fs.length<=1000/\H dx=ab (.own a):=by
 obtain⟨d,z,ne,ob,mA,n,r,q⟩:=(show iV P w H h a (.ins C dx fs) from hok a _ e)
 exact⟨mA,⟨ob,n,ne⟩,r,q,z,d⟩
end
structure Cls(K:br)(C:ak):Prop where
 pg:sv K C Au=ae
 hd:vq K C=ae
 po:As K C=ae
 sa:js K (.ref C) "__setattr__"=ab (ab (.builtin "object.__setattr__"))
theorem Cls.get{K:br}{C:ak}(c:Cls K C)(f:Str):sv K C f=ae:=c.pg
def n8(K:br)(C:ak)(f:Str):Prop:=js K (.ref C) f=ab aj
theorem n8.taker{K:br}{C:ak}{f:Str}(n:n8 K C f):vE K C f=ab aj:=by
 unfold vE;rw[show js K (.ref C) f=ab aj from n];rfl
structure Meth(K:br)(C:ak)(m:Str)(f:ak):Prop where
 at_:js K (.ref C) m=ab (ab (.ref f))
 fn:vz K (.ref f)=ae
 kp:ju K (.ref f)=ae
section
variable {X:Cx} {pins:aa (ak×aT)} {σ:St} {H:Hp} {s:al} {a C dx:ak} {fs:aa (Str×V)} {f:Str} {v:V} {A:bu} {E:ah->al->Prop}
theorem UV{b:aq}{Q:ah->al->Prop}(I:Inv X pins σ H s)(e:H a=ab (.ins C dx fs))(c:Cls X.K C)(n:n8 X.K C f)(l:fs.lookup f=ab v)
 (h:∀u s',Inv X pins σ H s'->RelV v u->Q u s'):wpAny (av X.prog X.w) A (vw (.ref a) f b) Q E s:=by
 obtain⟨mA,O,r,_,_,_⟩:=M4 I.hok e;obtain⟨u,hu,ru⟩:=K_.some_of (v:=v) (o:=mA f) (by rw[<-l];exact r f);exact vM I.kIn O (c.get f) c.hd n hu (XM ru) (h u _ (I.tok _) ru)
theorem UW{m:Str}{g:ak}{pl:dt aq}{Q:ah×aa ah->al->Prop}(I:Inv X pins σ H s)(e:H a=ab (.ins C dx fs))(c:Cls X.K C)(k:Meth X.K C m g)(l:fs.lookup m=aj)
 (h:Q (.ref g,[.ref a]) s):wpAny (av X.prog X.w) A (sA (.ref a) m pl) Q E s:=by
 obtain⟨mA,O,r,_,_,_⟩:=M4 I.hok e;have hn:mA m=aj:=K_.none_of (by rw[<-l];exact r m);exact aBn I.kIn O (c.get m) k.at_ k.fn hn h
theorem U0{y:V}{u:ah}{Q:iE->al->Prop}(I:Inv X pins σ H s)(e:H a=ab (.ins C dx fs))(c:Cls X.K C)(n:n8 X.K C f)(hl:fs.length<1000)(ry:RelV y u)
 (h:∀s',Inv X pins σ (upd H a (.ins C dx (zH f y fs))) s'->Q () s'):wpAny (av X.prog X.w) A (setAttr (.ref a) f u) Q E s:=by
 obtain⟨mA,O,r,wi,_,ho⟩:=M4 I.hok e;have hz:(fs.map (·.1)).length<=bn:=by rw[bd,dE];lia
 refine aEy I.kIn O c.sa c.po n.taker c.hd wi hz λh' O' sb=>h _ ?_
 have hd:∃o,h'.get? dx=ab o:=let ⟨o,_,_,e',_⟩:=O'.ns;⟨o,e'⟩
 refine I.write (x:=a) (e:=dx) (by rw[e];exact ko) (.inr ho) (λb q hb z=>(sb.2 b hb).trans z) hd ?_;refine⟨by rw[bF O.ne];exact ho,?_,O.ne,O'.obj,_,O'.ns,λg=>?_,λg hg=>?_⟩
 ·have:=vP f y fs;lia
 ·show K_ ((zH f y fs).lookup g) (if g=f then ab u else mA g);rw[vN];by_cases q:g=f
  ·rw[au q,au q];exact ry
  ·rw[az q,az q];exact r g
 ·by_cases q:g=f
  ·rw[q];exact(vO f y fs).1
  ·refine(vO f y fs).2 g (wi g λz=>hg ?_);show(if g=f then ab u else mA g)=aj;rw[az q];exact z
theorem Inv.made(I:Inv X pins σ H s):Inv X pins σ (upd (upd H s.heap.objs.size (.own (s.heap.objs.size+1))) (s.heap.objs.size+1) (.ins C s.heap.objs.size []))
  {s with heap:=(s.heap.push jt).push (kg C s.heap.objs.size)}:=by
 have e1:(s.heap.push jt).get? s.heap.objs.size=ab jt:=cS s.heap rfl;have e2:((s.heap.push jt).push (kg C s.heap.objs.size)).get? (s.heap.objs.size+1)=ab (kg C s.heap.objs.size):=by
  have:=cS (s.heap.push jt) (o:=kg C s.heap.objs.size) rfl;rwa [dL] at this
 have e3:(s.heap.push jt).Ns s.heap.objs.size (λ_=>aj):=⟨jt,#[],_,e1,rfl,(λe he=>bg he 0x2),λ_=>rfl⟩
 have I1:=I.laid (a:=s.heap.objs.size) (o:=.own (s.heap.objs.size+1)) (h':=s.heap.push jt) (t':=s.toks) (λb u q=>bz _ q) (ba _) ⟨_,e1⟩;refine I1.laid (a:=s.heap.objs.size+1) (o:=.ins C s.heap.objs.size []) (t':=s.toks) (λb u q=>bz _ q) (nV (dL _ _)) ?_;have ne:s.heap.objs.size≠s.heap.objs.size+1:=cw (kq _);refine⟨by rw[bF ne,aM],di _,ne,e2,λ_=>aj,(CF e3).at λo q=>bz _ q,λ_=>ko,λy hy=>bg rfl hy⟩
theorem aEz{prog:bp}{w:bh}{env:dn}{e:Expr}{f:Str}{pos:bS}{s:al}{Q:ah->al->Prop}(hb:i8 e f env (bm e env)=bm e env)
 (h:wpAny (av prog w) A (bm e env) (λo s₁=>wpAny (av prog w) A (vw o f ae) Q E s₁) E s):wpAny (av prog w) A (bm (.Attribute e f pos) env) Q E s:=
 Attribute_any_ h (by rw[arm_eval_Attribute,hb])
end
noncomputable def aOc(K:br)(ta:TE)(f:Str):TE:=λσ H Q=>ta σ H λx H1=>∃a C dx fs v,x=.ref a/\H1 a=ab (.ins C dx fs)/\Cls K C/\n8 K C f/\fs.lookup f=ab v/\Q v H1
def aNr(K:br)(ta tv:TE)(f:Str):TS:=λD σ H=>tv σ H λy H1=>ta σ H1 λx H2=>∃a C dx fs,x=.ref a/\H2 a=ab (.ins C dx fs)/\Cls K C/\n8 K C f/\fs.length<1000/\
 D.nx σ (upd H2 a (.ins C dx (zH f y fs)))
section
variable {X:Cx} {o e value:Expr} {f:Str} {pos pos':bS} {ta tv:TE}
theorem aIx(he:PE X e ta)(hb:i8 e f X.env (bm e X.env)=bm e X.env):PE X (.Attribute e f pos) (aOc X.K ta f):=by
 intro pins s σ H Q I h;refine aEz hb (thn (he pins s σ H _ I h) λu s1 ⟨x,H1,I1,rx,a,C,dx,fs,v,ex,ea,c,n,l,q⟩=>?_);subst ex;obtain rfl:u=fq a:=rx;exact UV I1 ea c n l λu' s2 I2 ru=>⟨v,H1,I2,ru,q⟩
theorem Q8(ha:PE X o ta)(hv:PE X value tv)(hs:eI value (ab (.Attribute o f pos')) pos.line X.env=pure ag):PS X (.Assign [.Attribute o f pos'] value pos) (aNr X.K ta tv f):=by
 intro pins s σ H D I h;refine plainObj_wpAny_Assign_Attribute (thn (hv pins s σ H _ I h) λu s1 ⟨y,H1,I1,ry,q⟩=>thn (ha pins s1 σ H1 _ I1 q) λov s2 ⟨x,H2,I2,rx,a,C,dx,fs,ex,ea,c,n,l,q2⟩=>?_) hs;subst ex;obtain rfl:ov=fq a:=rx;exact U0 I2 ea c n l ry λs3 I3=>⟨σ,_,I3,q2⟩
end
structure mJ(k:af)(A:bu):Prop where
 hd:A.handled=aj
 dp:A.depth+3*k+5<Av
 un:A.units+16*k+200<ck
theorem mJ.mono{j k:af}{A:bu}(r:mJ k A)(h:j<=k):mJ j A:=⟨r.hd,by have:=r.dp;lia,by have:=r.un;lia⟩
theorem mJ.deeper{k:af}{A:bu}(r:mJ (k+1) A)(env:dn):mJ k (A.deeper env):=
 ⟨r.hd,by have:=r.dp;show A.depth+1+3*k+5<_;lia,by have:=r.un;show A.units+3+16*k+200<_;lia⟩
theorem U3{A:bu}{C:ak}{us:aa ah}{kw:aa (Str×ah)}:(A.under (.builtin "type.__call__" ⟨.ref C::us,kw⟩)).depth=A.depth+1:=by
 first|rfl|simp[vF,Code.weight,Code.isCreation,Code.isGuard,Code.isCaller,Aw,vS,guardIds]
theorem U4{A:bu}{C:ak}{us:aa ah}{kw:aa (Str×ah)}:(A.under (.builtin "type.__call__" ⟨.ref C::us,kw⟩)).units=A.units+1:=by
 first|rfl|simp[vF,Code.cUnits,Aw,vS]
theorem mJ.make{k:af}{A:bu}(r:mJ (k+1) A)(C:ak)(us:aa ah)(kw:aa (Str×ah)):mJ k (A.under (.builtin "type.__call__" ⟨.ref C::us,kw⟩)):=
 ⟨r.hd,by have:=r.dp;rw[U3];lia,by have:=r.un;rw[U4];lia⟩
theorem mJ.depth{k:af}{A:bu}(r:mJ k A):A.depth<Av:=by have:=r.dp;lia
theorem mJ.units{k:af}{A:bu}(r:mJ k A):A.units+64<ck:=by have:=r.un;lia
noncomputable def aOd:TA:=λ_ H Q=>Q [] H
noncomputable def aMh(ta:TE)(tr:TA):TA:=λσ H Q=>ta σ H λx H1=>tr σ H1 λxs H2=>Q (x::xs) H2
section
variable {X:Cx} {e:Expr} {es:aa Expr} {te:TE} {t:TA} {pos:bS}
theorem tV:PA X [] aOd:=λ_ _ _ _ H Q I h=>mq ⟨[],H,I,.nil,h⟩
theorem lJ(ha:PE X e te)(hr:PA X es t)(hs:bi (e::es) X.env=(ag,bm e X.env)::bi es X.env:=by rfl):PA X (e::es) (aMh te t):=by
 intro pos pins s σ H Q I h;rw[hs];show wpAny _ _ (la ((ag,bm e X.env)::dq pos (bi es X.env))) _ _ s;refine mr (thn (ha pins s σ H _ I h) λu s1 ⟨x,H1,I1,r1,q1⟩=>?_);exact thn (hr pos pins s1 σ H1 _ I1 q1) λus s2 ⟨xs,H2,I2,r2,q2⟩=>⟨x::xs,H2,I2,.cons r1 r2,q2⟩
def aOe(t:TA):TE:=λσ H Q=>t σ H λxs H1=>xs.length<=bn/\∀p,H1 p=aj->Q (.ref p) (upd H1 p (.tup xs))
def aOf(t:TA):TE:=λσ H Q=>t σ H λxs H1=>xs.length<=bn/\∀p,H1 p=aj->Q (.ref p) (upd H1 p (.lst xs))
theorem aIy{x1}(h:PA X es t):PE X (.Tuple es x1 pos) (aOe t):=by
 intro pins s σ H Q I hq;refine wpAny_Tuple_spliced (thn (h pos pins s σ H _ I hq) λus s1 ⟨xs,H1,I1,r,z,q⟩=>⟨by rw[<-r.length];exact z,?_⟩);have hf:H1 s1.heap.objs.size=aj:=I1.hok.fresh (ba _);refine⟨.ref s1.heap.objs.size,upd H1 s1.heap.objs.size (.tup xs),I1.laid (t':=s1.toks) (λb u e=>bz _ e) (ba _) ?_,rfl,q _ hf⟩;exact⟨z,us,r,⟨_,cS _ rfl,rfl,_,rfl⟩⟩
theorem aDq(h:PA X es t):PE X (.List es pos) (aOf t):=by
 intro pins s σ H Q I hq;refine wpAny_List_spliced (thn (h pos pins s σ H _ I hq) λus s1 ⟨xs,H1,I1,r,z,q⟩=>⟨by rw[<-r.length];exact z,?_⟩);have hf:H1 s1.heap.objs.size=aj:=I1.hok.fresh (ba _);refine⟨.ref s1.heap.objs.size,upd H1 s1.heap.objs.size (.lst xs),I1.laid (t':=s1.toks) (λb u e=>bz _ e) (ba _) ?_,rfl,q _ hf⟩;exact⟨z,us,0,r,cS _ rfl⟩
end
abbrev Sp:=aa V->Hp->VK->XK->Prop
abbrev CXT:=aa dn->Hp->al->XK->ah->al->Prop
structure aF0(P:bp)(w:bh)(K:br)(mg:Str->ax ah)(base:aI)(A:bu)(outer:aa dn)(s:al)(H:Hp):Prop where
 frames:A.frames=ab outer
 mod:Mod K mg base
 bs:∀b o,base.get? b=ab o->s.heap.get? b=ab o/\H b=aj
 bsz:base.objs.size<=s.heap.objs.size
 WQ:s.heap.FunFrames base outer
 frf:∀b∈frs outer,H b=aj
 hok:HOk P w H s.heap
 bare:kh s.gens
def CE(outer:aa dn)(P:bp)(w:bh)(H:Hp)(s:al)(Q:VK)(u:ah)(s':al):Prop:=
 ∃v H',s'.os=s.os/\kh s'.gens/\Un (frs outer) [] H H' s.heap s'.heap/\HOk P w H' s'.heap/\RelV v u/\Q v H'
def CR(CX:CXT)(outer:aa dn)(P:bp)(w:bh)(H:Hp)(s:al)(Q:VK)(E:XK)(r:kn)(s':al):Prop:=
 match r with
 |.ok (.ret u)=>CE outer P w H s Q u s'
 |.ok _=>cv
 |.error e=>CX outer H s E e s'
structure uQ(P:bp)(w:bh)(K:br)(mg:Str->ax ah)(base:aI)(CX:CXT)(k:af)(f:ak)(fd:d5)(ps:aa Str)(sp:Sp):Prop where
 len:∀vs H Q E,sp vs H Q E->vs.length=ps.length
 run:∀(A:bu)(outer:aa dn)(s:al)(H:Hp)(args:Args)(us:aa ah)(vs:aa V)(Q:VK)(E:XK),mJ k A->aF0 P w K mg base A outer s H->lh s fd args (ps.zip us)->Vals vs us->sp vs H Q E->
  codeAny (av P w) A (.call (.ref f) args) (CR CX outer P w H s Q E) s
theorem aF0.make{P:bp}{w:bh}{K:br}{mg:Str->ax ah}{base:aI}{A:bu}{outer:aa dn}{s:al}{H:Hp}(e:aF0 P w K mg base A outer s H)(C:ak)(us:aa ah)(kw:aa (Str×ah)) :
  aF0 P w K mg base (A.under (.builtin "type.__call__" ⟨.ref C::us,kw⟩)) outer s H:=⟨by first|exact e.frames|(simpa[vF,Code.envs,vS,pushEnvs] using e.frames),e.mod,e.bs,e.bsz,e.WQ,e.frf,e.hok,e.bare⟩
section
variable {X:Cx} {pins:aa (ak×aT)} {σ:St} {H:Hp} {s s':al}
theorem Inv.env0(I:Inv X pins σ H s):aF0 X.prog X.w X.K X.mg X.base X.A X.stack s H:=
 ⟨I.ok.frames,I.ok.mod,I.bs,dw I.ok.bsz I.sz,I.stack,I.W2,I.hok,I.bare⟩
theorem Inv.after{Q:VK}{u:ah}(I:Inv X pins σ H s)(h:CE X.stack X.prog X.w H s Q u s'):EP X pins σ Q u s':=by
 obtain⟨v,H',os,bare,un,hok,r,q⟩:=h;obtain⟨hh,g,d,t,os'⟩:=s';obtain rfl:os'=s.os:=os;exact⟨v,H',I.call (h':=hh) (g':=g) (d':=d) (t':=t) (ch:=[]) un hok bare (λb z=>bg z 0x2),r,q⟩
end
noncomputable def aMi(sp:Sp)(dvs:aa V)(E:XK)(t:TA):TE:=λσ H Q=>t σ H λvs H1=>sp (vs++dvs) H1 Q E
noncomputable def aMj(C:ak)(m:Str)(sp:Sp)(dvs:aa V)(E:XK)(ta:TE)(t:TA):TE:=λσ H Q=>ta σ H λx H1=>∃a dx fs,x=.ref a/\H1 a=ab (.ins C dx fs)/\fs.lookup m=aj/\
 t σ H1 λvs H2=>sp (x::(vs++dvs)) H2 Q E
def aMk(C:ak)(sp:Sp)(dvs:aa V)(E:XK)(t:TA):TE:=λσ H Q=>t σ H λvs H1=>∀x dx,H1 x=aj->H1 dx=aj->dx≠x->
 sp (.ref x::(vs++dvs)) (upd (upd H1 dx (.own x)) x (.ins C dx [])) (λv H2=>v=.non/\Q (.ref x) H2) E
def Binds(K:br)(fd:d5)(ps:aa Str)(ds:aa ah):Prop:=
 ∀(s:al)(us:aa ah),K.In s.heap->(us++ds).length=ps.length->lh s fd ⟨us,[]⟩ (ps.zip (us++ds))
theorem Binds.all{K:br}{fd:d5}{ps:aa Str}(h:∀us:aa ah,us.length=ps.length->bindArgs fd ⟨us,[]⟩=pure (ps.zip us)):Binds K fd ps []:=λs us _ hl=>by
 rw[gL] at hl ⊢;exact .of_eq (h us hl)
def yJ(CX:CXT)(X:Cx)(E:XK):Prop:=∀(pins:aa (ak×aT))(σ:St)(H:Hp)(s:al)(e:ah)(s':al),Inv X pins σ H s->CX X.stack H s E e s'->X.xe e s'
section
variable {X:Cx} {CX:CXT} {k:af} {f C:ak} {fd:d5} {ps:aa Str} {sp:Sp} {dvs:aa V} {ds:aa ah} {E:XK} {x m:Str} {p pos apos:bS} {e o:Expr} {es:aa Expr} {ta:TE} {t:TA}
theorem aDr{pins:aa (ak×aT)}{σ:St}{H:Hp}{s:al}{Q:VK}{us:aa ah}{vs:aa V}(F:uQ X.prog X.w X.K X.mg X.base CX k f fd ps sp)(hr:mJ k X.A)(hb:Binds X.K fd ps ds)(hd:Vals dvs ds)(hx:yJ CX X E)
 (I:Inv X pins σ H s)(r:Vals vs us)(h:sp (vs++dvs) H Q E):wpAny (av X.prog X.w) X.A (call (.ref f) us) (EP X pins σ Q) X.xe s:=by
 have r2:Vals (vs++dvs) (us++ds):=r.append hd;have hl:(us++ds).length=ps.length:=by rw[<-r2.length];exact F.len _ _ _ _ h
 refine vT (li (F.run X.A X.stack s H ⟨us,[]⟩ (us++ds) (vs++dvs) Q E hr I.env0 (hb s us I.kIn hl) r2 h) λr s' hq=>?_);cases r with
 |error e=>exact hx pins σ H s e s' I hq
 |ok fl=>
  cases fl with
  |ret u=>exact I.after hq
  |next=>exact fj hq
  |brk=>exact fj hq
  |cont=>exact fj hq
theorem XN(F:uQ X.prog X.w X.K X.mg X.base CX k f fd ps sp)(hr:mJ k X.A)(hg:Gl X x)(hm:X.mg x=ab (.ref f))(hk:ju X.K (.ref f)=ae)(hb:Binds X.K fd ps ds)(hd:Vals dvs ds)(hx:yJ CX X E)
 (ha:PA X (e::es) t)(hdb:nDb x:=by decide)(he:bi (e::es) X.env=(ag,bm e X.env)::bi es X.env:=by rfl)(hpl:(dq pos (bi es X.env)).any (·.1)=ag:=by rfl) :
  PE X (.Call (.Name x p) (e::es) [] pos) (aMi sp dvs E t):=by
 intro pins s σ H Q I h;refine iN (W4 I hg hm ?_ hdb);refine wb (h₀:=X.base) I.ok.mod.kin hk (thn (ha pos pins s σ H _ I h) λus s1 ⟨vs,H1,I1,r,q⟩=>⟨I1.kIn,?_⟩) he hpl;exact aDr F hr hb hd hx I1 r q
theorem aF1{pl:dt aq}(he:PE X o ta)(c:Cls X.K C)(hm:Meth X.K C m f)(F:uQ X.prog X.w X.K X.mg X.base CX k f fd ps sp)(hr:mJ k X.A)(hb:Binds X.K fd ps ds)(hd:Vals dvs ds)(hx:yJ CX X E)(ha:PA X (e::es) t)
 (hst:bi (e::es) X.env=(ag,bm e X.env)::bi es X.env:=by rfl)(hpl:(dq pos (bi es X.env)).any (·.1)=ag:=by rfl)
 (ht:bm (.Call (.Attribute o m apos) (e::es) [] pos) X.env=(do
   let ov <- bm o X.env
   ss apos.atName
   let (f,first) <- lg [ov] (sA ov m pl)
   sB pos f first (dq pos (bi (e::es) X.env)) (lj pos (ll [] X.env))):=by rfl) :
  PE X (.Call (.Attribute o m apos) (e::es) [] pos) (aMj C m sp dvs E ta t):=by
 intro pins s σ H Q I h;refine PySem.W.methodCall_KW (pl:=pl) (thn (he pins s σ H _ I h) λu s1 ⟨x,H1,I1,rx,a,dx,fs,ex,ea,l,q⟩=>?_) ht;subst ex;obtain rfl:u=fq a:=rx;refine UW I1 ea c hm l ?_;refine wb (first:=[.ref a]) (h₀:=X.base) I.ok.mod.kin hm.kp (thn (ha pos pins s1 σ H1 _ I1 q) λus s2 ⟨vs,H2,I2,r,q2⟩=>⟨I2.kIn,?_⟩) hst hpl;exact aDr (us:=.ref a::us) (vs:=.ref a::vs) F hr hb hd hx I2 (.cons rfl r) q2
structure Mk(K:br)(C f:ak):Prop where
 makes:At K C=ae
 init:js K (.ref C) "__init__"=ab (ab (.ref f))
 fn:vz K (.ref f)=ae
 kp:ju K (.ref C)=ae
theorem aBp{pins:aa (ak×aT)}{σ:St}{H:Hp}{s:al}{Q:VK}{us:aa ah}{vs:aa V}(M:Mk X.K C f)(F:uQ X.prog X.w X.K X.mg X.base CX k f fd ps sp)(hr:mJ (k+1) X.A)(hb:Binds X.K fd ps ds)(hd:Vals dvs ds)
 (hx:yJ CX X E)(I:Inv X pins σ H s)(r:Vals vs us)
 (h:∀x dx,H x=aj->H dx=aj->dx≠x->sp (.ref x::(vs++dvs)) (upd (upd H dx (.own x)) x (.ins C dx [])) (λv H2=>v=.non/\Q (.ref x) H2) E) :
  wpAny (av X.prog X.w) X.A (call (.ref C) us) (EP X pins σ Q) X.xe s:=by
 have hq:=h (s.heap.objs.size+1) s.heap.objs.size (I.hok.fresh (gN _)) (I.hok.fresh (ba _)) (cw (kq _));have I2:=Inv.made (C:=C) I;have r2:Vals (V.ref (s.heap.objs.size+1)::(vs++dvs)) (fq (s.heap.objs.size+1)::(us++ds)):=.cons rfl (r.append hd);have hl:(fq (s.heap.objs.size+1)::us++ds).length=ps.length:=by
  have e:=r2.length;rw[F.len _ _ _ _ hq] at e;exact e.symm
 refine vT (aBo (f:=f) I.kIn M.makes M.init (iq.mp M.fn) (li (F.run _ X.stack _ _ ⟨fq (s.heap.objs.size+1)::us,[]⟩ (fq (s.heap.objs.size+1)::(us++ds)) _ _ E (hr.make C us [])
  (I2.env0.make C us []) (hb _ (fq (s.heap.objs.size+1)::us) I2.kIn hl) r2 hq) λr s' hq'=>?_))
 cases r with
 |error e=>exact hx pins σ _ _ e s' I2 hq'
 |ok fl=>
  cases fl with
  |ret u=>
   obtain⟨v,H',I3,rv,ev,q3⟩:=I2.after hq';subst ev;exact⟨rv,⟨V.ref (s.heap.objs.size+1),H',I3,rfl,q3⟩⟩
  |next=>exact fj hq'
  |brk=>exact fj hq'
  |cont=>exact fj hq'
theorem aF2(M:Mk X.K C f)(F:uQ X.prog X.w X.K X.mg X.base CX k f fd ps sp)(hr:mJ (k+1) X.A)(hg:Gl X x)(hm:X.mg x=ab (.ref C))(hb:Binds X.K fd ps ds)(hd:Vals dvs ds)(hx:yJ CX X E)
 (ha:PA X (e::es) t)(hdb:nDb x:=by decide)(he:bi (e::es) X.env=(ag,bm e X.env)::bi es X.env:=by rfl)(hpl:(dq pos (bi es X.env)).any (·.1)=ag:=by rfl) :
  PE X (.Call (.Name x p) (e::es) [] pos) (aMk C sp dvs E t):=by
 intro pins s σ H Q I h;refine iN (W4 I hg hm ?_ hdb);refine wb (h₀:=X.base) I.ok.mod.kin M.kp (thn (ha pos pins s σ H _ I h) λus s1 ⟨vs,H1,I1,r,q⟩=>⟨I1.kIn,?_⟩) he hpl;exact aBp M F hr hb hd hx I1 r q
end
structure cF(N P:aa Str)(sc:f_):Prop where
 kind:sc.kind=.function
 co:sc.isCoroutine=ag
 gen:sc.isGenerator=ag
 nd:N.Nodup
 pre:N.take P.length=P
 par:∀x∈P,sc.names.lookup x=ab .local\/sc.names.lookup x=ab .cell
 nofree:∀y∈sc.names,y.2≠.free
theorem G8{kindOf:Str->ax i9}{x:Str}:∀{binds:aa (Str×ah)}{m:Str->ax ah},(∀v,(x,v)∉binds)->kr kindOf binds m x=m x
 |[],_,_=>rfl
 | (n,v)::r,m,h=>by
  unfold kr;rw[G8 λw hw=>h w (cg _ hw)];split
  ·have:x≠n:=by rintro rfl;exact h v b6
   simp[this]
  ·rfl
theorem G9{kindOf:Str->ax i9}{x:Str}:∀{binds:aa (Str×ah)}{m:Str->ax ah},(∀v,(x,v)∉binds)->kt kindOf binds m x=m x
 |[],_,_=>rfl
 | (n,v)::r,m,h=>by
  unfold kt;rw[G9 λw hw=>h w (cg _ hw)];split
  ·rfl
  ·have:x≠n:=by rintro rfl;exact h v b6
   simp[this]
theorem G_{kindOf:Str->ax i9}{x:Str}{v:ah}:∀{P:aa Str}{vs:aa ah}{i:af}{m:Str->ax ah},P.Nodup->P[i]?=ab x->vs[i]?=ab v->kindOf x=ab .local->
  kr kindOf (P.zip vs) m x=ab v
 |[],_,_,_,_,h,_,_=>by simp at h
 |_::_,[],_,_,_,_,h,_=>by simp at h
 |p::P,w::vs,0,m,nd,h1,h2,hk=>by
  simp at h1 h2;subst h1;subst h2;show kr kindOf ((p,w)::P.zip vs) m p=_;unfold kr;rw[G8 λv hv=>(ff.mp nd).1 (wc hv).1,au hk];simp
 |p::P,w::vs,i+1,m,nd,h1,h2,hk=>by
  show kr kindOf ((p,w)::P.zip vs) m x=_;unfold kr;exact G_ (i:=i) (ff.mp nd).2 (by simpa using h1) (by simpa using h2) hk
theorem HB{kindOf:Str->ax i9}{x:Str}{v:ah}:∀{P:aa Str}{vs:aa ah}{i:af}{m:Str->ax ah},P.Nodup->P[i]?=ab x->vs[i]?=ab v->kindOf x≠ab .local->
  kt kindOf (P.zip vs) m x=ab v
 |[],_,_,_,_,h,_,_=>by simp at h
 |_::_,[],_,_,_,_,h,_=>by simp at h
 |p::P,w::vs,0,m,nd,h1,h2,hk=>by
  simp at h1 h2;subst h1;subst h2;show kt kindOf ((p,w)::P.zip vs) m p=_;unfold kt;rw[G9 λv hv=>(ff.mp nd).1 (wc hv).1,az hk];simp
 |p::P,w::vs,i+1,m,nd,h1,h2,hk=>by
  show kt kindOf ((p,w)::P.zip vs) m x=_;unfold kt;exact HB (i:=i) (ff.mp nd).2 (by simpa using h1) (by simpa using h2) hk
noncomputable def start(N:aa Str)(vs:aa V):St:=vs.map ab++bX (N.length-vs.length) aj
noncomputable def XQ(CX:CXT)(P:bp)(w:bh)(K:br)(mg:Str->ax ah)(base:aI)(N:aa Str)(qual:Str)(scope:f_)(f:ak)(cd:ah)(A:bu)(outer:aa dn)(s:al)(H:Hp)(E:XK):Cx where
 prog:=P
 w:=w
 K:=K
 mg:=mg
 base:=base
 A:=A.deeper (gS qual scope s.heap.objs.size f cd)
 N:=N
 s₀:=s
 H₀:=H
 env:=gS qual scope s.heap.objs.size f cd
 outer:=outer
 stack:=gS qual scope s.heap.objs.size f cd::outer
 ex:=[]
 calm:=ae
 fn:=λ_=>ae
 pn:=[]
 xe:=λe s'=>wpAny (av P w) (A.deeper (gS qual scope s.heap.objs.size f cd)) (leaving (gS qual scope s.heap.objs.size f cd) e) (λ_ s''=>CX outer H s E e s'') (λe' s''=>CX outer H s E e' s'') s'
theorem Q9{sc:f_}{n:af}{x:Str}(h:sc.names.lookup x=ab .cell):∃c,(we n sc.names []).lookup x=ab c:=by
 have q:=Ax sc.names n [] (.inl h);exact wf.mp q
theorem XR{CX:CXT}{P:bp}{w:bh}{K:br}{mg:Str->ax ah}{base:aI}{N ps:aa Str}{qual:Str}{scope:f_}{f:ak}{cd:ah}{A:bu}{outer:aa dn}{s s1:al}{H:Hp}{E:XK}{us:aa ah}{vs:aa V}
 (S:cF N ps scope)(hd:A.handled=aj)(e0:aF0 P w K mg base A outer s H)(hl:vs.length=ps.length)(r:Vals vs us)
 (x:InCallC s s.heap.objs.size (kr (gS qual scope s.heap.objs.size f cd).kindOf (ps.zip us) λ_=>aj) (we (s.heap.objs.size+1) scope.names []) (kt (gS qual scope s.heap.objs.size f cd).kindOf (ps.zip us) λ_=>aj) s1) :
  Inv (XQ CX P w K mg base N qual scope f cd A outer s H E) [] (start N vs) H s1:=by
 have hpl:ps.length<=N.length:=by have:=dl ja S.pre;rw[kx] at this;lia
 obtain⟨h1,tk,rfl,hk⟩:=x.done;have noA:∀b:ak,b∉(XQ CX P w K mg base N qual scope f cd A outer s H E).ex:=λb z=>bg (show b∈([]:aa ak) from z) 0x2
 refine⟨⟨e0.mod,S.kind,rfl,rfl,ba _,λy z c h1 h2=>?_,λy hy=>?_,λy c _ h=>?_,λ_=>hd,Around.frames_deeper e0.frames,.inr ⟨rfl,rfl⟩,λb z=>bg z (noA b),e0.bs,e0.bsz,λb _ _=>noA b,λb z=>bg z (noA b),e0.WQ,e0.frf⟩,
  rfl,e0.bare,Un.kept hk,⟨_,x.toInCall.ns,λi y v h1 h2 h3=>?_⟩,λy c h=>⟨_,x.cell y c h⟩,e0.hok.fresh (ba _),λy c h=>?_,λp hp=>bg (show p∈([]:aa (ak×aT)) from hp) 0x2,e0.hok.kept hk,?_⟩
 ·exact name_of_addr x.apart (ms h1) (ms h2)
 ·have hy:scope.names.lookup y=ab .cell\/scope.names.lookup y=ab .free:=hy;rcases hy with hy|hy
  ·exact Q9 hy
  ·exact bg rfl (S.nofree _ (ms hy))
 ·exact ny (x.above y c (ms h))
 ·have hi:i<vs.length:=by
   unfold start at h2;by_cases hi:i<vs.length
   ·exact hi
   ·rw[ic (by simpa using hi)] at h2;rw[ky] at h2;split at h2<;>cases h2
  have ha:vs[i]?=ab v:=by
   unfold start at h2;rw[ir (by simpa using hi),lm] at h2;cases e:vs[i]? with
   |none=>rw[e] at h2;cases h2
   |some a=>rw[e] at h2;cases h2;rfl
  obtain⟨u,hu,rv⟩:=r.get ha;have hp:ps[i]?=ab y:=by
   rw[<-S.pre,sC 0x1];exact h1
  have ndP:ps.Nodup:=by rw[<-S.pre];exact S.nd.sublist (List.take_sublist _ _)
  refine⟨u,rv,?_⟩;rcases S.par y (nX hp) with k|k
  ·exact .inl ⟨k,G_ ndP hp hu k⟩
  ·obtain⟨c,e⟩:=Q9 (n:=s.heap.objs.size+1) k;refine .inr ⟨.inl k,c,e,?_⟩;have q:=x.cell y c e;rw[HB ndP hp hu (by show scope.names.lookup y≠_;rw[k];decide)] at q;exact q
 ·exact e0.hok.fresh (ny (x.above y c (ms h)))
 ·unfold start;show _=N.length;rw[cx,bd,sD];lia
theorem aIz{CX:CXT}{P:bp}{w:bh}{K:br}{mg:Str->ax ah}{base:aI}{k:af}{f:ak}{name qual:Str}{params:Arguments}{body:aa bP}{scope:f_}{dV kV doc pm cdv ct oc:ah}{an od:ax ak}
 {osl:aw (ax ah)}{N ps:aa Str}{sp:Sp}(lk:K.lookup f=ab ⟨oc,od,.func (ln name qual params body scope dV kV doc pm an cdv ct),osl⟩)(hcd:sK K cdv qual=ae)(S:cF N ps scope)
 (len:∀vs H Q E,sp vs H Q E->vs.length=ps.length)
 (hbody:∀(A:bu) (outer:aa dn) (s:al) (H:Hp) (vs:aa V) (Q:VK) (E:XK),mJ k (A.deeper (gS qual scope s.heap.objs.size f cdv))->sp vs H Q E->
   ∃t,PSs (XQ CX P w K mg base N qual scope f cdv A outer s H E) body t/\t {nx:=λ_ H'=>Q .non H',rt:=Q} (start N vs) H) :
  uQ P w K mg base CX (k+1) f (ln name qual params body scope dV kV doc pm an cdv ct) ps sp:=by
 refine⟨len,λA outer s H args us vs Q E hr e0 hb r hsp=>?_⟩;have hl:=len _ _ _ _ hsp;have KX:K.In s.heap:=e0.mod.kin.keeps λb o e=>(e0.bs b o e).1
 have lim:s.heap.NoLimit:=e0.mod.nolimit.keeps λb o e=>(e0.bs b o e).1
 have hkind:∀y∈ps.zip us,scope.names.lookup y.1=ab .local\/(scope.names.lookup y.1=ab .cell/\((we (s.heap.objs.size+1) scope.names []).lookup y.1).isSome=ae):=λz0 hy=>by
  obtain⟨n,v⟩:=z0;rcases S.par n (wc hy).1 with q|q
  ·exact .inl q
  ·exact .inr ⟨q,Ax _ _ _ (.inl q)⟩
 refine codeAny_call_function hr.depth (KX _ _ lk) rfl S.co S.gen rfl (PySem.W.codeRec_of KX hcd) (hb _ _ _ _ ?_);refine wpAny_newFunctionEnv_cells S.kind hkind λenv he s1 x=>?_
 subst he;refine⟨lim.keeps x.toInCall.keep,codeAny_func ?_⟩;obtain⟨t,ht,hq⟩:=hbody A outer s H vs Q E (hr.deeper _) hsp;have I:Inv (XQ CX P w K mg base N qual scope f cdv A outer s H E) [] (start N vs) H s1:=XR S hr.hd e0 hl r x;refine fR (ht [] s1 (start N vs) H _ I hq) (λfl s' hs=>?_) λe s' hs=>hs
 have fin:∀{σ':St}{H':Hp}{v:V}{u:ah},Inv (XQ CX P w K mg base N qual scope f cdv A outer s H E) [] σ' H' s'->RelV v u->Q v H'->CE outer P w H s Q u s':=
  λ{σ' H' v u} J rv q=>⟨v,H',J.os,J.bare,J.base,J.hok,rv,q⟩
 cases fl with
 |ret u=>
  obtain⟨v,σ',H',J,rv,q⟩:=hs;exact fin J rv q
 |next=>
  obtain⟨σ',H',J,q⟩:=hs;exact fin (v:=V.non) (u:=nv) J rfl q
 |brk=>
  obtain⟨_,_,_,q⟩:=hs;exact fj q
 |cont=>
  obtain⟨_,_,_,q⟩:=hs;exact fj q
section
variable {X:Cx} {x:Str} {p pos:bS} {e:Expr} {es:aa Expr} {t:TA} {id T:dy} {r:aa V->Hp->VK->Prop}
noncomputable def tCB(r:aa V->Hp->VK->Prop)(t:TA):TE:=λσ H Q=>t σ H λvs H1=>r vs H1 Q
theorem Q_(hc:kJ X (.builtin id) r)(hg:Gl X x)(hm:X.mg x=aj)(hv:dS x=ab (.builtin id))(ha:PA X (e::es) t)(hn:x ≠ "__name__":=by decide)(hdb:nDb x:=by decide)
 (he:bi (e::es) X.env=(ag,bm e X.env)::bi es X.env:=by rfl)(hpl:(dq pos (bi es X.env)).any (·.1)=ag:=by rfl):PE X (.Call (.Name x p) (e::es) [] pos) (tCB r t):=by
 intro pins s σ H Q I h;refine iN (kW I hg hm hv ?_ hn hdb);exact CH (thn (ha pos pins s σ H _ I h) λus s1 ⟨vs,H1,I1,r1,q1⟩=>hc pins s1 σ H1 vs us Q I1 r1 q1) he hpl
theorem XS(hc:kJ X (.type T) r)(hg:Gl X x)(hm:X.mg x=aj)(hv:dS x=ab (.type T))(ha:PA X (e::es) t)(hn:x ≠ "__name__":=by decide)(hdb:nDb x:=by decide)
 (he:bi (e::es) X.env=(ag,bm e X.env)::bi es X.env:=by rfl)(hpl:(dq pos (bi es X.env)).any (·.1)=ag:=by rfl):PE X (.Call (.Name x p) (e::es) [] pos) (tCB r t):=by
 intro pins s σ H Q I h;refine iN (kW I hg hm hv ?_ hn hdb);exact i7 (thn (ha pos pins s σ H _ I h) λus s1 ⟨vs,H1,I1,r1,q1⟩=>hc pins s1 σ H1 vs us Q I1 r1 q1) he hpl
end
end L2
namespace HT
open PySem PyProof.Rows
section
variable {prog:bp} {w:bh} {A:bu} {E:ah->al->Prop} {s:al}
theorem aF3{t b:ak}{vs ws:aa ah}{Q:ah->al->Prop}(ht:mf s.heap t vs.toArray)(hb:mf s.heap b ws.toArray)(hv:vs≠[])
 (h1:ws=[]->Q (.ref t) s)(h2:ws≠[]->Q (.ref s.heap.objs.size) {s with heap:=s.heap.push {cls:=.type "tuple",data:=.seq (vs++ws).toArray}})
 (hsz:vs.length+ws.length<=bn):wpAny (av prog w) A (fy .Add (.ref t) (.ref b)) Q E s:=by
 obtain⟨⟨cls,dd,data,sl⟩,ho,hc,n,hd⟩:=id ht;obtain⟨⟨cls2,dd2,mv,sl2⟩,ho2,hc2,n2,hd2⟩:=id hb;simp only at hc hd hc2 hd2;subst hc hd hc2 hd2;have e:vs.toArray++ws.toArray=(vs++ws).toArray:=by simp
 by_cases hw:ws=[]
 ·exact wg ⟨_,ho,rfl⟩ ⟨_,ho2,rfl⟩ wj wm wn wo (wu _ _)
   (tuple_addW1 t b vs.toArray ws.toArray n n2 dd dd2 sl sl2 (by simpa using hv) (by simp[hw])) ⟨ho,ho2,h1 hw⟩
 ·refine wg ⟨_,ho,rfl⟩ ⟨_,ho2,rfl⟩ wj wm wn wo (wu _ _)
   (tuple_addW2 t b vs.toArray ws.toArray n n2 dd dd2 sl sl2 (by simpa using hv) (by simpa using hw) (by rw[cm,cm];exact hsz)) ⟨ho,ho2,?_⟩
  rw[e];exact h2 hw
noncomputable def sIx(n d:af):ax ai->af
 |none=>d
 |some v=>if v<0 then (v+(n:ai)).toNat else min v.toNat n
theorem aJ0(n d:af)(hd:d<=n)(o:ax ai):sIx n d o<=n:=by
 cases o with
 |none=>exact hd
 |some v=>
  show(if v<0 then (v+(n:ai)).toNat else min v.toNat n)<=n;by_cases hv:v<0
  ·rw[au hv];lia
  ·rw[az hv];exact Nat.min_le_right _ _
theorem XX(v:ai)(n d:af):(if v<0 then max (v+(n:ai)) 0 else min v (n:ai))=((sIx n d (ab v):af):ai):=by
 show(if v<0 then max (v+(n:ai)) 0 else min v (n:ai))=(((if v<0 then (v+(n:ai)).toNat else min v.toNat n):af):ai);by_cases hv:v<0
 ·simp only[au hv];lia
 ·simp only[az hv];lia
theorem U5(lo hi:ax ai)(n:af):wy lo hi 1 (n:ai)=(((sIx n 0 lo:af):ai),((sIx n n hi:af):ai)):=by
 have h1:¬((1:ai)<0):=by lia
 unfold wy;simp only[h1,cK];refine wz ?_ ?_
 ·cases lo with
  |none=>rfl
  |some v=>exact XX v n 0
 ·cases hi with
  |none=>rfl
  |some v=>exact XX v n n
theorem U6(i j:af):sL (i:ai) (j:ai) 1=j-i:=by
 unfold sL;have h1:(1:ai) > 0:=by lia
 simp only[h1,cy,Int.ediv_one];split<;>lia
theorem yK{v:ah}{o:ax ai}{Q:ax ai->al->Prop}(p:jv v o)(h:Q o s):wpAny (av prog w) A (CI v) Q E s:=by
 cases p with
 |none=>exact Ay h
 |int i t=>exact slicePart_int h
theorem uR{sl:ak}{vl vu:ah}{lo hi:ax ai}{n:af}{Q:ai×ai×af->al->Prop}(hs:s.heap.IsSliceOf sl vl vu .none)(pl:jv vl lo)(pu:jv vu hi)
 (h:Q (((sIx n 0 lo:af):ai),1,sIx n n hi-sIx n 0 lo) s):wpAny (av prog w) A (Az (.ref sl) (pure (n:ai))) Q E s:=by
 obtain⟨os,hos,hcs,hds⟩:=id hs;unfold Az CL;refine ao (ao (fz hos hds (x:=vl) rfl (ao (fz hos hds (x:=vu) rfl (ao (fz hos hds (x:=.none) rfl (aS ?_)))))));refine ao (Ay ?_);show wpAny _ _ (if ((1:ai)==0)=ae then _ else _) _ _ s;rw[az 0x4];refine ao (yK pl (ao (yK pu (ao (aS ?_)))));show wpAny _ _ (match wy lo hi 1 (n:ai) with|(lo,hi)=>pure (lo,(1:ai),sL lo hi 1)) _ _ s;rw[U5 lo hi n];show wpAny _ _ (pure (((sIx n 0 lo:af):ai),(1:ai),sL ((sIx n 0 lo:af):ai) ((sIx n n hi:af):ai) 1)) _ _ s;rw[U6];exact aS h
theorem aBq(xs:aw ah)(i k:af):((cr k).filterMap λ(m:af)=>xs[((i:ai)+(m:ai)*1).toNat]?).toArray=((xs.toList.drop i).take k).toArray:=by
 have e:(λ(m:af)=>xs[((i:ai)+(m:ai)*1).toNat]?)=λm=>xs[i+m]?:=by
  funext m
  have:((i:ai)+(m:ai)*1).toNat=i+m:=by lia
  rw[this]
 rw[e];have:=pick_run xs i k;rw[AA] at this;have e2:((λx=>xs[x]?) ∘ λx=>i+x)=λm=>xs[i+m]?:=rfl
 rw[e2] at this;rw[this]
theorem sI{t sl:ak}{items:aw ah}{vl vu:ah}{lo hi:ax ai}{Q:ah->al->Prop}(ht:mf s.heap t items)(hs:s.heap.IsSliceOf sl vl vu .none)(pl:jv vl lo)(pu:jv vu hi)
 (hw:¬(sIx items.size 0 lo=0/\sIx items.size items.size hi=items.size))
 (h:Q (.ref s.heap.objs.size) {s with heap:=s.heap.push {cls:=.type "tuple",data:=.seq ((items.toList.drop (sIx items.size 0 lo)).take (sIx items.size items.size hi-sIx items.size 0 lo)).toArray}})
 (hsz:items.size<=bn):wpAny (av prog w) A (lq (.ref t) (.ref sl)) Q E s:=by
 have htake:sizeOk (.seq ((items.toList.drop (sIx items.size 0 lo)).take (sIx items.size items.size hi-sIx items.size 0 lo)).toArray):=by
  show((items.toList.drop (sIx items.size 0 lo)).take (sIx items.size items.size hi-sIx items.size 0 lo)).toArray.size<=bn;rw[cm,kx,n4,hI];lia
 have hj:sIx items.size items.size hi<=items.size:=aJ0 _ _ (ba _) hi;obtain⟨os,hos,hcs,hds⟩:=id hs;have hTs:s.TypeIs (.ref sl) "slice":=⟨os,hos,hcs⟩
 unfold lq
 try with_reducible refine fg ?_
 first|refine ao (aS ?_)|skip
 refine ao (wpAny_sequenceKey ht.typeIs 0x4 ?_);refine ao (mw (name:=wE "__getitem__") ht.typeIs wP
  (sM wP ht.typeIs entry_tuple_getitem ?_ (args_tuple_getitem _ _)))
 show wpAny _ _ (CM (.ref t) >>= _) _ _ s;refine ao (tupleItemsOf_ ht ?_);refine ao (kz hTs ?_);rw[au 0x4];refine ao (uR hs pl pu ?_);have hno:¬((((sIx items.size 0 lo:af):ai)==0&&(1:ai)==1&&(sIx items.size items.size hi-sIx items.size 0 lo)==items.size)=ae):=by
  intro q;rw[bq,bq] at q;have q1:((sIx items.size 0 lo:af):ai)=0:=eq_of_beq q.1.1;have q2:sIx items.size items.size hi-sIx items.size 0 lo=items.size:=eq_of_beq q.2;exact hw ⟨by lia,by lia⟩
 show wpAny _ _ (if (((sIx items.size 0 lo:af):ai)==0&&(1:ai)==1&&(sIx items.size items.size hi-sIx items.size 0 lo)==items.size)=ae then _ else _) _ _ s;rw[az hno,aBq]
 first
  |exact ao (m:=sN _) (jb (aS ⟨_,rfl,aS h⟩) htake)
  |exact ao (m:=sN _) (jb (ao (aS (aS ⟨_,rfl,aS h⟩))) htake)
  |exact ao (ao (m:=sN _) (jb (aS (aS ⟨_,rfl,aS h⟩)) htake))
  |exact ao (ao (m:=sN _) (jb (aS ⟨_,rfl,aS h⟩) htake))
end
end HT
namespace L2
open PySem PySem.Spec PyProof.Rows
abbrev TO:=St->Hp->(ax ai->Hp->Prop)->Prop
def PO(X:Cx)(e:ax Expr)(t:TO):Prop:=
 ∀(pins:aa (ak×aT))(s:al)(σ:St)(H:Hp)(Q:ax ai->Hp->Prop),Inv X pins σ H s->t σ H Q->
  wpAny (av X.prog X.w) X.A (evalPart e X.env) (λu s'=>∃o H',Inv X pins σ H' s'/\jv u o/\Q o H') X.xe s
noncomputable def aF4:TO:=λ_ H Q=>Q aj H
noncomputable def aMl(t:TE):TO:=λσ H Q=>t σ H λx H1=>∃i,x=.int i/\Q (ab i) H1
section
variable {X:Cx} {e:Expr} {te:TE} {lo hi:ax Expr} {tl th:TO} {pos p2:bS}
theorem aF5:PO X aj aF4:=by
 intro pins s σ H Q I h;rw[wS];exact aS ⟨aj,H,I,.none,h⟩
theorem X3(h:PE X e te):PO X (ab e) (aMl te):=by
 intro pins s σ H Q I hw;rw[evalPart_some];refine thn (h pins s σ H _ I hw) λu s1 ⟨x,H1,I1,r1,q1⟩=>?_
 obtain⟨i,rfl,q⟩:=q1;obtain⟨t,rfl⟩:=r1;exact⟨ab i,H1,I1,.int i t,q⟩
def SlR(X:Cx)(r:V->ax ai->ax ai->Hp->VK->Prop):Prop:=
 ∀(pins:aa (ak×aT))(s:al)(σ:St)(H:Hp)(x:V)(v vl vu:ah)(lo hi:ax ai)(sl:ak)(Q:VK),Inv X pins σ H s->RelV x v->s.heap.IsSliceOf sl vl vu .none->jv vl lo->jv vu hi->r x lo hi H Q->
  ∃T id,kA (.type T) "__getitem__"=pure (ab (.builtin id))/\s.TypeIs v T/\wpAny (av X.prog X.w) X.A (lq v (.ref sl)) (EP X pins σ Q) X.xe s
noncomputable def tSl(r:V->ax ai->ax ai->Hp->VK->Prop)(te:TE)(tl th:TO):TE:=λσ H Q=>te σ H λx H1=>tl σ H1 λl H2=>th σ H2 λu H3=>r x l u H3 Q
theorem aBr{r:V->ax ai->ax ai->Hp->VK->Prop}(hr:SlR X r)(he:PE X e te)(hl:PO X lo tl)(hu:PO X hi th):PE X (.Subscript e (.Slice lo hi aj p2) pos) (tSl r te tl th):=by
 intro pins s σ H Q I h;refine wT (thn (he pins s σ H _ I h) λv s1 ⟨x,H1,I1,r1,q1⟩=>?_);refine AB (thn (hl pins s1 σ H1 _ I1 q1) λvl s2 ⟨l,H2,I2,pl,q2⟩=>thn (hu pins s2 σ H2 _ I2 q2) λvu s3 ⟨u,H3,I3,pu,q3⟩=>?_);rw[wS];refine aS ?_;have I4:Inv X pins σ H3 {s3 with heap:=s3.heap.push {cls:=.type "slice",data:=.fields #[vl,vu,.none]}}:=I3.kept (t':=s3.toks) λb ob q=>bz _ q
 obtain⟨T,id,hT,ht,hg⟩:=hr pins {s3 with heap:=s3.heap.push {cls:=.type "slice",data:=.fields #[vl,vu,.none]}} σ H3 x v vl vu l u s3.heap.objs.size Q I4 r1 (AC ..) pl pu q3;show wpAny (av X.prog X.w) X.A (sP e (.Slice lo hi aj p2) v (.ref s3.heap.objs.size)) (EP X pins σ Q) X.xe {s3 with heap:=s3.heap.push {cls:=.type "slice",data:=.fields #[vl,vu,.none]}};exact w_ (ops:=[.ref s3.heap.objs.size,v]) ht hT hg 0x5
noncomputable def X4(xs:aa V)(lo hi:ax ai):aa V:=(xs.drop (HT.sIx xs.length 0 lo)).take (HT.sIx xs.length xs.length hi-HT.sIx xs.length 0 lo)
theorem vQ(xs:aa V)(lo hi:ax ai):(X4 xs lo hi).length<=xs.length:=by
 unfold X4;rw[kx,n4];lia
def aOg(K:br):V->ax ai->ax ai->Hp->VK->Prop:=λx lo hi H Q=>∃a xs,x=.ref a/\SqT K H a xs/\
 ¬(HT.sIx xs.length 0 lo=0/\HT.sIx xs.length xs.length hi=xs.length)/\∀p,H p=aj->Q (.ref p) (upd H p (.tup (X4 xs lo hi)))
theorem aJ1:SlR X (aOg X.K):=by
 intro pins s σ H x v vl vu lo hi sl Q I rx hs pl pu h;obtain⟨a,xs,rfl,hx,hw,q⟩:=h;cases rx;obtain⟨its,r,ht,hz⟩:=I.tuple hx;have hlen:its.toArray.size=xs.length:=by rw[cm];exact r.length.symm
 refine⟨"tuple",_,wP.lookup,ht.typeIs,?_⟩;refine HT.sI ht hs pl pu (by rw[hlen];exact hw) ?_ (by rw[hlen];exact hz);rw[hlen];refine⟨.ref s.heap.objs.size,_,I.laid (t':=s.toks) (o:=.tup (X4 xs lo hi)) (λb ob q=>bz _ q) (ba _) ?_,rfl,q _ (I.hok.fresh (ba _))⟩;exact⟨dw (vQ xs lo hi) hz,_,(r.drop (HT.sIx xs.length 0 lo)).take (HT.sIx xs.length xs.length hi-HT.sIx xs.length 0 lo),jY.new _ _⟩
def aMm(K:br):R2:=λx y H Q=>∃a b xs ys,x=.ref a/\y=.ref b/\SqT K H a xs/\SqT K H b ys/\xs≠[]/\xs.length+ys.length<=bn/\
 (ys=[]->Q (.ref a) H)/\(ys≠[]->∀p,H p=aj->Q (.ref p) (upd H p (.tup (xs++ys))))
theorem Vals.vR{xs:aa V}{us:aa ah}(r:Vals xs us):us=[]↔xs=[]:=by
 cases r with
 |nil=>simp
 |cons _ _=>simp
theorem aF6:OpR X (fy .Add) (aMm X.K):=by
 intro pins s σ H x y v u Q I rx ry h;obtain⟨a,b,xs,ys,rfl,rfl,ha,hb,hx,hz,q1,q2⟩:=h;cases rx;cases ry;obtain⟨its,r1,p1,_⟩:=I.tuple ha;obtain⟨its2,r2,p2,_⟩:=I.tuple hb;refine HT.aF3 p1 p2 (λz=>hx (r1.vR.mp z)) (λz=>⟨.ref a,H,I,rfl,q1 (r2.vR.mp z)⟩) (λz=>?_) (by rw[<-r1.length,<-r2.length];exact hz);refine⟨.ref s.heap.objs.size,_,I.laid (t':=s.toks) (o:=.tup (xs++ys)) (λb ob q=>bz _ q) (ba _) ?_,rfl,q2 (λw=>z (r2.vR.mpr w)) _ (I.hok.fresh (ba _))⟩;exact⟨by rw[cx];exact hz,_,r1.append r2,jY.new _ _⟩
end
noncomputable def ixN(n:af)(i:ai):ax af:=if 0<=i then (if i<n then ab i.toNat else aj) else if -(n:ai)<=i then ab (i+n).toNat else aj
def atI{α:Type}(xs:aa α)(i:ai):ax α:=(ixN xs.length i).bind λj=>xs[j]?
theorem aF7{n:af}{i:ai}{j:af}(h:ixN n i=ab j):sQ i n=ab j/\j<n/\-(n:ai)<=i/\i<n:=by
 unfold ixN at h;by_cases h0:0<=i
 ·rw[au h0] at h;by_cases h1:i<n
  ·rw[au h1] at h;have e:i.toNat=j:=cq h;exact⟨by rw[AD h0 h1,e],by lia,by lia,h1⟩
  ·rw[az h1] at h;cases h
 ·rw[az h0] at h;by_cases h1:-(n:ai)<=i
  ·rw[au h1] at h;have e:(i+n).toNat=j:=cq h;exact⟨by rw[seqIndex_neg 0x1 h1,e],by lia,h1,by lia⟩
  ·rw[az h1] at h;cases h
theorem M5{α:Type}{xs:aa α}{i:ai}{v:α}(h:atI xs i=ab v):∃j,sQ i xs.length=ab j/\xs[j]?=ab v/\j<xs.length/\-(xs.length:ai)<=i/\i<xs.length:=by
 unfold atI at h;cases e:ixN xs.length i with
 |none=>rw[e] at h;cases h
 |some j=>
  rw[e] at h;obtain⟨h1,h2,h3,h4⟩:=aF7 e;exact⟨j,h1,h,h2,h3,h4⟩
def M6(b:Expr):Prop:=∀o i,sR b ag o i=xa [o,i] (lq o i)
def IxR(X:Cx)(r:R2):Prop:=
 ∀(value slice:Expr)(pins:aa (ak×aT))(s:al)(σ:St)(H:Hp)(x y:V)(v u:ah)(Q:VK),Inv X pins σ H s->RelV x v->RelV y u->r x y H Q->
  sR slice ag v u=xa [v,u] (lq v u)->wpAny (av X.prog X.w) X.A (sP value slice v u) (EP X pins σ Q) X.xe s
def MtR(X:Cx)(id:dy)(r:V->aa V->Hp->VK->Prop):Prop:=
 ∀(pins:aa (ak×aT))(s:al)(σ:St)(H:Hp)(x:V)(xs:aa V)(v:ah)(us:aa ah)(Q:VK),Inv X pins σ H s->RelV x v->Vals xs us->r x xs H Q->
  wpAny (av X.prog X.w) X.A (call (.builtin id) (v::us)) (EP X pins σ Q) X.xe s
section
variable {X:Cx} {a b:Expr} {ta tb:TE} {pos:bS}
theorem aMn{r:R2}(hr:IxR X r)(ha:PE X a ta)(hb:PE X b tb)(hs:M6 b):PE X (.Subscript a b pos) (tOp r ta tb):=by
 intro pins s σ H Q I h;exact wT (aMb ha hb I h λv u s2 x y H2 I2 rx ry q=>hr a b pins s2 σ H2 x y v u Q I2 rx ry q (hs _ _))
def aOh(K:br):R2:=λx y H Q=>∃p xs i v,x=.ref p/\y=.int i/\SqL K H p xs/\atI xs i=ab v/\Q v H
def aOi(K:br):R2:=λx y H Q=>∃p xs i v,x=.ref p/\y=.int i/\SqT K H p xs/\atI xs i=ab v/\Q v H
def aOj:R2:=λx y H Q=>∃z i c,x=.str z/\y=.int i/\z.length<=bn/\atI z.cps.toList i=ab c/\Q (.str ⟨#[c]⟩) H
theorem M7:IxR X (aOh X.K):=by
 intro value slice pins s σ H x y v u Q I rx ry h hs;obtain⟨p,xs,i,z,rfl,rfl,hq,he,q⟩:=h;cases rx;obtain⟨t,rfl⟩:=ry;obtain⟨its,r,pl,hz⟩:=I.list hq;obtain⟨j,h1,h2,h3,h4,h5⟩:=M5 he;obtain⟨w,ew,rw'⟩:=r.get h2;have hl:=r.length;have hn:=yI;have fin:EP X pins σ Q w s:=⟨z,H,I,rw',q⟩
 by_cases h0:0<=i
 ·have hj:i.toNat=j:=by
   rw[AD h0 h5] at h1;exact cq h1
  exact item_listR pl.isList h0 0x1 (by rw[hj];simpa using ew) fin hs
 ·have hj:(i+(its.toArray.size:ai)).toNat=j:=by
   rw[seqIndex_neg 0x1 h4] at h1;rw[cm,<-hl];exact cq h1
  exact AE (x:=w) pl.isList.typeIs xb.lookup
   (wpAny_getItem_list_neg (Q:=λr s'=>r=w/\EP X pins σ Q r s') pl.isList 0x1 (by rw[cm]<;>lia) 0x1 (by rw[hj];simpa using ew) ⟨rfl,fin⟩) hs
theorem aJ2:IxR X (aOi X.K):=by
 intro value slice pins s σ H x y v u Q I rx ry h hs;obtain⟨p,xs,i,z,rfl,rfl,hq,he,q⟩:=h;cases rx;obtain⟨t,rfl⟩:=ry;obtain⟨its,r,pl,hz⟩:=I.tuple hq;obtain⟨j,h1,h2,h3,h4,h5⟩:=M5 he;obtain⟨w,ew,rw'⟩:=r.get h2;have hl:=r.length;have hn:=yI;have fin:EP X pins σ Q w s:=⟨z,H,I,rw',q⟩
 exact AE (x:=w) pl.typeIs slot_tuple_getitem.lookup
  (getItem_tuple (j:=j) (Q:=λr s'=>r=w/\EP X pins σ Q r s') pl 0x1 0x1 (by rw[cm,<-hl];exact h1) (by simpa using ew) ⟨rfl,fin⟩) hs
theorem aJ3:IxR X aOj:=by
 intro value slice pins s σ H x y v u Q I rx ry h hs;obtain⟨z,i,c,rfl,rfl,hz,he,q⟩:=h;obtain⟨t,rfl⟩:=rx;obtain⟨t',rfl⟩:=ry;obtain⟨j,h1,h2,h3,h4,h5⟩:=M5 he;have hl:z.cps.toList.length=z.length:=by simp[Str.length]
 rw[hl] at h1 h4 h5;have hn:=yI;exact w_ (xc s z t) slot_str_getitem.lookup (getItem_str (c:=c) (by
  have e1:decide (i < -(2 ^ 63:ai))=ag:=dj 0x1;have e2:decide (i >= 2 ^ 63)=ag:=dj 0x1;rw[e1,e2,xf]) (by rw[h1];simpa using h2) ⟨.str ⟨#[c]⟩,H,I.tok _,⟨_,rfl⟩,q⟩) hs
theorem HD(lo hi:ax ai)(n:af):(kC lo hi aj n).1=((HT.sIx n 0 lo:af):ai)/\(kC lo hi aj n).2.1=((HT.sIx n n hi:af):ai)/\(kC lo hi aj n).2.2=1:=by
 refine⟨?_,?_,rfl⟩
 ·cases lo with
  |none=>simp[kC,HT.sIx]
  |some i=>
   simp only[kC,HT.sIx,AF,show(1:ai) > 0 by decide,cy];by_cases h:i<0
   ·simp only[h,cy]<;>lia
   ·simp only[h,cK]<;>lia
 ·cases hi with
  |none=>simp[kC,HT.sIx]
  |some i=>
   simp only[kC,HT.sIx,AF,show(1:ai) > 0 by decide,cy];by_cases h:i<0
   ·simp only[h,cy]<;>lia
   ·simp only[h,cK]<;>lia
theorem zJ(its:aa ah)(lo hi:ax ai):s_ its.toArray lo hi aj=((its.drop (HT.sIx its.length 0 lo)).take (HT.sIx its.length its.length hi-HT.sIx its.length 0 lo)).toArray:=by
 obtain⟨h1,h2,h3⟩:=HD lo hi its.toArray.size;unfold s_;rw[h1,h2,h3];simp only[sliceRange_one,pick_run,cm]<;>rfl
def aOk(K:br):V->ax ai->ax ai->Hp->VK->Prop:=λx lo hi H Q=>∃a xs,x=.ref a/\SqL K H a xs/\∀p,H p=aj->Q (.ref p) (upd H p (.lst (X4 xs lo hi)))
theorem X5:SlR X (aOk X.K):=by
 intro pins s σ H x v vl vu lo hi sl Q I rx hs pl pu h;obtain⟨a,xs,rfl,hx,q⟩:=h;cases rx;obtain⟨its,r,ht,hz⟩:=I.list hx;have hlen:=r.length;refine⟨"list",_,xb.lookup,ht.isList.typeIs,?_⟩;refine AG ht.isList hs pl pu .none 0x2 ?_ (by rw[cm]<;>lia);rw[zJ,<-hlen];refine⟨.ref s.heap.objs.size,_,I.laid (t':=s.toks) (o:=.lst (X4 xs lo hi)) (λb ob q=>bz _ q) (ba _) ?_,rfl,q _ (I.hok.fresh (ba _))⟩;exact⟨dw (vQ xs lo hi) hz,_,0,(r.drop (HT.sIx xs.length 0 lo)).take (HT.sIx xs.length xs.length hi-HT.sIx xs.length 0 lo),cS _ rfl⟩
theorem jZ:kJ X (.builtin "len") (λxs H Q=>∃p ys,xs=[.ref p]/\(SqL X.K H p ys\/SqT X.K H p ys)/\Q (.int ys.length) H):=by
 intro pins s σ H xs us Q I r h;obtain⟨p,ys,rfl,hq,q⟩:=h;obtain⟨u,rfl,rx⟩:=vals1 r;cases rx;have hn:=yI;rcases hq with hq|hq
 ·obtain⟨its,r',pl,hz⟩:=I.list hq;have hlen:=r'.length;exact Calls.call_len_list pl.isList (by simp only[cm]<;>lia) ⟨.int ys.length,H,I.tok _,⟨s.toks+1,by rw[cm,hlen]⟩,q⟩
 ·obtain⟨its,r',pl,hz⟩:=I.tuple hq;have hlen:=r'.length;exact len_tuple pl (by simp only[cm]<;>lia) ⟨.int ys.length,H,I.tok _,⟨s.toks+1,by rw[cm,hlen]⟩,q⟩
theorem HF:kJ X (.builtin "len") (λxs H Q=>∃z,xs=[.str z]/\z.length<=bn/\Q (.int z.length) H):=by
 intro pins s σ H xs us Q I r h;obtain⟨z,rfl,hz,q⟩:=h;obtain⟨u,rfl,t,rfl⟩:=vals1 r;have hn:=yI;exact len_str 0x1 ⟨.int z.length,H,I.tok _,⟨_,rfl⟩,q⟩
theorem tW:kJ X (.type "list") (λxs H Q=>∃p ys,xs=[.ref p]/\(SqL X.K H p ys\/SqT X.K H p ys)/\∀l,H l=aj->Q (.ref l) (upd H l (.lst ys))):=by
 intro pins s σ H xs us Q I r h;obtain⟨p,ys,rfl,hq,q⟩:=h;obtain⟨u,rfl,rx⟩:=vals1 r;cases rx;have fin:∀(its:aa ah),Vals ys its->ys.length<=bn->∀(h':aI)(c':af),(∀b o',s.heap.get? b=ab o'->h'.get? b=ab o')->
   h'.get? s.heap.objs.size=ab {cls:=.type "list",dict:=aj,data:=.seq its.toArray c',slots:=#[]}->EP X pins σ Q (.ref s.heap.objs.size) {s with heap:=h'}:=λits r' hz h' c' kp e=>
  ⟨.ref s.heap.objs.size,_,I.laid (t':=s.toks) kp (ba _) (show iV X.prog X.w _ h' _ (.lst ys) from ⟨hz,its,c',r',e⟩),rfl,q _ (I.hok.fresh (ba _))⟩
 rcases hq with hq|hq
 ·obtain⟨its,r',pl,hz⟩:=I.list hq;have hlen:=r'.length;obtain⟨o,ho,hc,n,hd⟩:=pl.isList;exact AH p (.inl rfl) ho hc hd (λh' c' kp e=>fin its r' hz h' c' kp e) (by simp only[cm]<;>lia)
 ·obtain⟨its,r',pl,hz⟩:=I.tuple hq;have hlen:=r'.length;obtain⟨o,ho,hc,n,hd⟩:=pl;exact AH p (.inr rfl) ho hc hd (λh' c' kp e=>fin its r' hz h' c' kp e) (by simp only[cm]<;>lia)
theorem oW:kJ X (.type "tuple") (λxs H Q=>∃p ys,xs=[.ref p]/\((SqL X.K H p ys/\∀l,H l=aj->Q (.ref l) (upd H l (.tup ys)))\/(SqT X.K H p ys/\Q (.ref p) H))):=by
 intro pins s σ H xs us Q I r h;obtain⟨p,ys,rfl,h⟩:=h;obtain⟨u,rfl,rx⟩:=vals1 r;cases rx;rcases h with ⟨hq,q⟩|⟨hq,q⟩
 ·obtain⟨its,r',pl,hz⟩:=I.list hq;have hlen:=r'.length;refine call_tuple_list pl.isList (λh' kp=>?_) (by simp only[cm]<;>lia);have I1:Inv X pins σ H {s with heap:=h'}:=I.kept (t':=s.toks) kp;have I2:Inv X pins σ (upd H h'.objs.size (.tup ys)) {s with heap:=h'.push {cls:=.type "tuple",data:=.seq its.toArray}}:=
   I1.laid (t':=s.toks) (λb o e=>bz _ e) (ba _) (show iV X.prog X.w _ _ _ (.tup ys) from ⟨hz,its,r',jY.new _ _⟩)
  exact⟨.ref h'.objs.size,_,I2,rfl,q _ (I1.hok.fresh (ba _))⟩
 ·obtain⟨its,r',pl,hz⟩:=I.tuple hq;exact call_tuple_same pl ⟨.ref p,H,I,rfl,q⟩
def tyV(K:br)(T:dy)(x:V)(H:Hp):Prop:=match x with
 |.str _=>T="str"
 |.int _=>T="int"
 |.ref p=>(T="list"/\∃xs,SqL K H p xs)\/(T="tuple"/\((∃o,K.lookup p=ab o/\o.cls=.type "tuple"/\o.dict=aj)\/∃xs,H p=ab (.tup xs)))\/
   (T="dict"/\((∃kvs,H p=ab (.dK kvs))\/∃kvs,H p=ab (.dT kvs)))\/(T="set"/\∃S n,H p=ab (.set S n))
 |_=>cv
theorem aDs{pins:aa (ak×aT)}{σ:St}{H:Hp}{s:al}{T:dy}{x:V}{v:ah}(I:Inv X pins σ H s)(r:RelV x v)(ty:tyV X.K T x H) :
  s.TypeIs v T/\∀a,v=.ref a->∃ob,s.heap.get? a=ab ob/\ob.dict=aj:=by
 cases x with
 |str z=>
  obtain⟨t,rfl⟩:=r;cases (show T="str" from ty);exact⟨xc s z t,λ_ e=>nomatch e⟩
 |int i=>
  obtain⟨t,rfl⟩:=r;cases (show T="int" from ty);exact⟨typeIs_int s i t,λ_ e=>nomatch e⟩
 |ref p=>
  cases r;rcases ty with ⟨rfl,xs,hq⟩|⟨rfl,⟨o,hk,hc,hd⟩|⟨xs,hk⟩⟩|⟨rfl,hk⟩|⟨rfl,S,n,hk⟩
  ·obtain⟨its,_,pl,_⟩:=I.list hq;refine⟨pl.isList.typeIs,λa e=>?_⟩;cases e;obtain⟨o,n,e,c,hd,_⟩:=pl;exact⟨o,e,hd⟩
  ·refine⟨⟨o,I.kIn p o hk,hc⟩,λa e=>?_⟩;cases e;exact⟨o,I.kIn _ o hk,hd⟩
  ·obtain⟨_,its,_,pl⟩:=I.hok p _ hk;refine⟨(jY.tup pl).typeIs,λa e=>?_⟩;cases e;exact jY.bare pl
  ·have z:∃o,s.heap.get? p=ab o/\o.ExactDict:=by
    rcases hk with ⟨kvs,hk⟩|⟨kvs,hk⟩
    ·obtain⟨_,_,_,_,o,_,_,e,ex,_⟩:=I.hok p _ hk;exact⟨o,e,ex⟩
    ·obtain⟨_,_,_,_,o,_,_,e,ex,_⟩:=I.hok p _ hk;exact⟨o,e,ex⟩
   obtain⟨o,e,ex⟩:=z;refine⟨⟨o,e,ex.1⟩,λa e2=>?_⟩;cases e2;exact⟨o,e,ex.2.1⟩
  ·obtain⟨o,_,_,_,e,ex,_⟩:=I.hok p _ hk;refine⟨⟨o,e,ex.1⟩,λa e2=>?_⟩;cases e2;exact⟨o,e,ex.2.1⟩
 |_=>exact fj ty
noncomputable def aOl(K:br)(T:dy)(r:V->aa V->Hp->VK->Prop)(to:TE):TE:=λσ H Q=>to σ H λx H1=>tyV K T x H1/\r x [] H1 Q
noncomputable def tBM(K:br)(T:dy)(r:V->aa V->Hp->VK->Prop)(to:TE)(t:TA):TE:=λσ H Q=>to σ H λx H1=>tyV K T x H1/\t σ H1 λxs H2=>r x xs H2 Q
variable {o e:Expr} {es:aa Expr} {to:TE} {t:TA} {name:Str} {apos cpos:bS} {T id:dy} {r:V->aa V->Hp->VK->Prop}
theorem aJ4(pa:PlainAttrs T)(slot:Slot T name id)(hty:mx (.builtin id)=pure (.type "method_descriptor"))(hm:MtR X id r)(ho:PE X o to)
 (hbase:i8 o name X.env (bm o X.env)=bm o X.env:=by rfl)(hline:(apos.endLine==cpos.line)=ae:=by rfl):PE X (.Call (.Attribute o name apos) [] [] cpos) (aOl X.K T r to):=by
 intro pins s σ H Q I h;refine wpAny_Call_method0_late hbase hline (thn (ho pins s σ H _ I h) λv s1 ⟨x,H1,I1,r1,ty,q1⟩=>?_);obtain⟨h1,h2⟩:=aDs I1 r1 ty;exact⟨T,id,pa,slot,hty,h1,h2,AI rfl (PySem.evalArgs_none (hm pins s1 σ H1 x [] v [] Q I1 r1 .nil q1))⟩
theorem aBs(pa:PlainAttrs T)(slot:Slot T name id)(hty:mx (.builtin id)=pure (.type "method_descriptor"))(hm:MtR X id r)(ho:PE X o to)(ha:PA X (e::es) t)
 (hbase:i8 o name X.env (bm o X.env)=bm o X.env:=by rfl)
 (hfew:((dq cpos (bi (e::es) X.env)).all (λx=>!x.1)&&(lj cpos (ll [] X.env)).all (λx=>x.1.isSome)
  &&decide ((e::es).length+([]:aa jc).length+(if ([]:aa jc).isEmpty then 0 else 1)<30))=ae:=by rfl)
 (hline:(apos.endLine==cpos.line)=ae:=by rfl)(hs:bi (e::es) X.env=(ag,bm e X.env)::bi es X.env:=by rfl)(hplain:(dq cpos (bi es X.env)).any (·.1)=ag:=by rfl) :
  PE X (.Call (.Attribute o name apos) (e::es) [] cpos) (tBM X.K T r to t):=by
 intro pins s σ H Q I h;refine wpAny_Call_method_late hbase hfew hline rfl (thn (ho pins s σ H _ I h) λv s1 ⟨x,H1,I1,r1,ty,q1⟩=>?_);obtain⟨h1,h2⟩:=aDs I1 r1 ty;refine⟨T,id,pa,slot,hty,h1,h2,?_⟩;have hA:=ha cpos pins s1 σ H1 _ I1 q1;rw[hs] at hA ⊢;refine AI (by show(ag||(dq cpos (bi es X.env)).any (·.1))=ag;rw[hplain]<;>rfl) (Calls.evalArgs_plain ?_);exact thn hA λus s2 ⟨vs,H2,I2,r2,q2⟩=>hm pins s2 σ H2 x vs v us Q I2 r1 r2 q2
end
def MtM(X:Cx)(id:dy)(r:V->aa V->Hp->VK->Prop):Prop:=
 ∀(pins:aa (ak×aT))(s:al)(σ:St)(H:Hp)(x:V)(xs:aa V)(v:ah)(us:aa ah)(Q:VK),Inv X pins σ H s->RelV x v->Vals xs us->r x xs H Q->
  wpAny (av X.prog X.w) X.A (call (.builtin id) (v::us)) (EP X pins σ Q) X.xe s
theorem Vals.one:∀{x:V}{us:aa ah},Vals [x] us->∃u,us=[u]/\RelV x u
 |_,_,.cons r .nil=>⟨_,rfl,r⟩
theorem Vals.zero:∀{us:aa ah},Vals [] us->us=[]
 |_,.nil=>rfl
theorem Vals.dropLast{xs:aa V}{us:aa ah}(h:Vals xs us):Vals xs.dropLast us.dropLast:=by
 induction h with
 |nil=>exact .nil
 |cons r t ih=>
  cases t with
  |nil=>exact .nil
  |cons q t'=>exact .cons r ih
theorem Vals.eraseIdx:∀{xs:aa V}{us:aa ah}(i:af),Vals xs us->Vals (xs.eraseIdx i) (us.eraseIdx i)
 |_,_,_,.nil=>.nil
 |_,_,0,.cons _ t=>t
 |_,_,i+1,.cons r t=>.cons r (Vals.eraseIdx i t)
theorem Vals.reverse{xs:aa V}{us:aa ah}(h:Vals xs us):Vals xs.reverse us.reverse:=by
 induction h with
 |nil=>exact .nil
 |cons r t ih=>rw[jd,jd];exact Vals.append ih (.cons r .nil)
theorem U7{α:Type}(l:aa α):l.eraseIdx (l.length-1)=l.dropLast:=by
 induction l with
 |nil=>rfl
 |cons a r ih=>
  cases r with
  |nil=>rfl
  |cons b r=>
   have e:(a::b::r).length-1=((b::r).length-1)+1:=by
    have h1:(a::b::r).length=r.length+2:=rfl;have h2:(b::r).length=r.length+1:=rfl;lia
   rw[e,List.eraseIdx_cons_succ,ih]
   all_goals rfl
theorem HH{α:Type}:∀(l:aa α)(i:af),(l.eraseIdx i).length<=l.length
 |[],_=>ba _
 |_::_,0=>gN _
 |_::r,i+1=>Nat.succ_le_succ (HH r i)
section
variable {X:Cx} {pins:aa (ak×aT)} {σ:St} {H:Hp} {s:al} {l:ak} {xs ys:aa V}
theorem Inv.aLs{its its':aa ah}{n:af}{f:aw ah->aw ah}{t':af}(I:Inv X pins σ H s)(hH:H l=ab (.lst xs))
 (e:s.heap.get? l=ab {cls:=.type "list",data:=.seq its.toArray n})(hf:f its.toArray=its'.toArray)(hv:Vals ys its')(hz:ys.length<=bn) :
  Inv X pins σ (upd H l (.lst ys)) {s with heap:=s.heap.update l (eJ f),toks:=t'}:=by
 have q:=CO e f;rw[hf] at q;refine I.write (x:=l) (e:=l) (by rw[hH];exact trivial) (.inl rfl) (λb' u hb hu=>(jw s.heap (eJ f) (c5 hb)).trans hu) ⟨_,q⟩ ?_;exact⟨hz,its',_,hv,q⟩
theorem Inv.aOm{its:aa ah}{t':af}(I:Inv X pins σ H s)(hv:Vals ys its)(hz:ys.length<=bn) :
  Inv X pins σ (upd H s.heap.objs.size (.lst ys)) {s with heap:=s.heap.push {cls:=.type "list",data:=.seq its.toArray},toks:=t'}:=
 I.laid (λ_ _ q=>bz _ q) (ba _) ⟨hz,its,0,hv,cS _ rfl⟩
theorem Inv.fresh(I:Inv X pins σ H s):H s.heap.objs.size=aj:=I.hok.fresh (ba _)
theorem Inv.aJ5(I:Inv X pins σ H s)(hH:H l=ab (.lst xs)):xs.length<=bn/\∃(its:aa ah)(n:af),Vals xs its/\xs.length=its.length/\s.heap.get? l=ab {cls:=.type "list",data:=.seq its.toArray n}:=by
 obtain⟨z,its,n,r,e⟩:=I.hok l _ hH;exact⟨z,its,n,r,r.length,e⟩
theorem aBt{n:af}(h:n<=bn):xg n=ag:=by
 unfold xg;exact dj 0x1
end
section
variable {X:Cx}
def aF8:V->aa V->Hp->VK->Prop:=λx vs H Q=>∃l xs y,x=.ref l/\vs=[y]/\H l=ab (.lst xs)/\xs.length<bn/\Q .non (upd H l (.lst (xs++[y])))
theorem vU:MtM X "list.append" aF8:=by
 intro pins s σ H x vs v us Q I rx rv h;obtain⟨l,xs,y,rfl,rfl,hH,hz,q⟩:=h;cases rx;obtain⟨u,rfl,ru⟩:=rv.one;obtain⟨z,its,n,r,hl,e⟩:=I.aJ5 hH;refine jx xh ⟨_,e,rfl⟩ F.entry_list_append (F.args_list_append_2 _ _) (PySem.list_append l its.toArray n u (by rw[cm];lia)) ⟨e,?_⟩;refine⟨.non,_,I.aLs (its':=its++[u]) hH e 0x2 (r.append (.cons ru .nil)) ?_,rfl,q⟩;rw[cx,xi];lia
def aF9:V->aa V->Hp->VK->Prop:=λx vs H Q=>∃l b xs zs,x=.ref l/\vs=[.ref b]/\H l=ab (.lst xs)/\H b=ab (.lst zs)/\xs.length+zs.length<=bn/\Q .non (upd H l (.lst (xs++zs)))
theorem X6:MtM X "list.extend" aF9:=by
 intro pins s σ H x vs v us Q I rx rv h;obtain⟨l,b,xs,zs,rfl,rfl,hH,hB,hz,q⟩:=h;cases rx;obtain⟨u,rfl,ru⟩:=rv.one;cases ru;obtain⟨z,its,n,r,hl,e⟩:=I.aJ5 hH;obtain⟨z2,its2,n2,r2,hl2,e2⟩:=I.aJ5 hB;have hsz:its.toArray.size+its2.toArray.size<=bn:=by rw[cm,cm];lia
 have hlong:¬(!its.toArray.isEmpty&&xg (its.toArray.size+its2.toArray.size))=ae:=by
  rw[aBt hsz,AJ];exact lc
 refine jx AK ⟨_,e,rfl⟩ F.entry_list_extend (F.args_list_extend_2 _ _)
  (CS l its.toArray n b its2.toArray n2 hlong (by rw[cm];lia) 0x1) ⟨e,e2,?_⟩
 refine⟨.non,_,I.aLs (its':=its++its2) hH e 0x2 (r.append r2) ?_,rfl,q⟩;rw[cx];lia
def aOn:V->aa V->Hp->VK->Prop:=λx vs H Q=>∃l xs y,x=.ref l/\vs=[]/\H l=ab (.lst xs)/\xs[xs.length-1]?=ab y/\Q y (upd H l (.lst xs.dropLast))
theorem aJ6:MtM X "list.pop" aOn:=by
 intro pins s σ H x vs v us Q I rx rv h;obtain⟨l,xs,y,rfl,rfl,hH,hy,q⟩:=h;cases rx;have hus:=rv.zero;subst hus;obtain⟨z,its,n,r,hl,e⟩:=I.aJ5 hH;obtain⟨u,hu,ru⟩:=r.get hy;have hy':its.toArray[its.toArray.size-1]?=ab u:=by
  show its.toArray[its.length-1]?=ab u;rw[<-iO,<-hl];exact hu
 refine jx tf ⟨_,e,rfl⟩ AL (F.args_list_pop_1 _) (CU l its.toArray n u hy' (by rw[cm];lia)) ⟨e,?_⟩;refine⟨y,_,I.aLs (its':=its.dropLast) hH e ?_ r.dropLast ?_,ru,q⟩
 ·show its.toArray.eraseIdxIfInBounds (its.toArray.size-1)=its.dropLast.toArray;rw[cm,AM,U7]
 ·rw[List.length_dropLast];lia
def aJ7:V->aa V->Hp->VK->Prop:=λx vs H Q=>∃l xs i k y,x=.ref l/\vs=[.int i]/\H l=ab (.lst xs)/\-(2 ^ 63)<=i/\i<2 ^ 63/\sQ i xs.length=ab k/\xs[k]?=ab y/\Q y (upd H l (.lst (xs.eraseIdx k)))
theorem aBu:MtM X "list.pop" aJ7:=by
 intro pins s σ H x vs v us Q I rx rv h;obtain⟨l,xs,i,k,y,rfl,rfl,hH,h1,h2,hk,hy,q⟩:=h;cases rx;obtain⟨u,rfl,ru⟩:=rv.one;obtain⟨t,rfl⟩:=ru;obtain⟨z,its,n,r,hl,e⟩:=I.aJ5 hH;obtain⟨w,hw,rw'⟩:=r.get hy;refine jx tf ⟨_,e,rfl⟩ AL (F.args_list_pop_2 _ _)
  (CY l its.toArray n i t k w (fitsIndex_both h1 h2) (by rw[cm,<-hl];exact hk) (by rw[<-iO];exact hw) (by rw[cm];lia)) ⟨e,?_⟩
 refine⟨y,_,I.aLs (its':=its.eraseIdx k) hH e ?_ (r.eraseIdx k) ?_,rw',q⟩
 ·show its.toArray.eraseIdxIfInBounds k=(its.eraseIdx k).toArray;rw[AM]
 ·have:=HH xs k;lia
end
section
variable {κ:Type} [dg κ]
noncomputable def yL(kvs:aa (κ×V))(k:κ):ax V:=(kvs.find? λkv=>decide (kv.1=k)).map (·.2)
noncomputable def putK(kvs:aa (κ×V))(k:κ)(v:V):aa (κ×V):=
 if (kvs.any λkv=>decide (kv.1=k))=ae then kvs.map (λkv=>if kv.1=k then (kv.1,v) else kv) else kvs++[(k,v)]
theorem oX{p:κ×V}{r:aa (κ×V)}{k:κ}(e:p.1=k):yL (p::r) k=ab p.2:=by simp[yL,mz,e]
theorem oY{p:κ×V}{r:aa (κ×V)}{k:κ}(e:¬p.1=k):yL (p::r) k=yL r k:=by simp[yL,mz,e]
theorem oZ(k:κ):∀kvs:aa (κ×V),(kvs.any λkv=>decide (kv.1=k))=(yL kvs k).isSome
 |[]=>rfl
 |p::r=>by
  rw[mB];by_cases e:p.1=k
  ·simp only[oX e,cb e,AN,AO]
  ·rw[oY e,dj e,xj];exact oZ k r
theorem oH(kvs:aa (κ×V))(k:κ)(v:V):(putK kvs k v).length<=kvs.length+1:=by
 unfold putK;split
 ·rw[bd];lia
 ·rw[cx,bj,eL];lia
theorem aBv{kvs:aa (κ×V)}{k:κ}(v:V)(h:yL kvs k=aj):putK kvs k v=kvs++[(k,v)]:=by
 unfold putK;rw[oZ,h];exact az 0x4
theorem K_.mK{o:ax V}{u:ax ah}(r:K_ o u):o.isSome=u.isSome:=by
 cases o with
 |none=>cases u with
  |none=>rfl
  |some _=>exact(show cv from r).elim
 |some _=>cases u with
  |none=>exact(show cv from r).elim
  |some _=>rfl
theorem KV.val{kvs:aa (κ×V)}{vs:aa (κ×ah)}(r:KV kvs vs)(k:κ):K_ (yL kvs k) (lr vs k):=by
 unfold KV at r;induction r with
 |nil=>exact ko
 |@cons p q ps qs h t ih=>
  obtain⟨h1,h2⟩:=h;by_cases e:p.1=k
  ·have e':q.1=k:=h1.symm.trans e;have b:lr (q::qs) k=ab q.2:=by simp[lr,mz,e']
   rw[oX e,b];exact h2
  ·have e':¬q.1=k:=λz=>e (h1.trans z)
   have b:lr (q::qs) k=lr qs k:=by simp[lr,mz,e']
   rw[oY e,b];exact ih
theorem KV.any{kvs:aa (κ×V)}{vs:aa (κ×ah)}(r:KV kvs vs)(k:κ):(kvs.any λkv=>decide (kv.1=k))=vs.any λkv=>decide (kv.1=k):=by
 unfold KV at r;induction r with
 |nil=>rfl
 |cons h t ih=>rw[mB,mB,ih,h.1]
theorem KV.repl{kvs:aa (κ×V)}{vs:aa (κ×ah)}(r:KV kvs vs)(k:κ){y:V}{u:ah}(ry:RelV y u) :
  KV (kvs.map λkv=>if kv.1=k then (kv.1,y) else kv) (vs.map λkv=>if kv.1=k then (kv.1,u) else kv):=by
 unfold KV at r ⊢;induction r with
 |nil=>exact .nil
 |@cons p q ps qs h t ih=>
  rw[bw,bw];refine .cons ?_ ih;obtain⟨h1,h2⟩:=h;by_cases e:p.1=k
  ·rw[au e,au (h1.symm.trans e)];exact⟨h1,ry⟩
  ·rw[az e,az (λz=>e (h1.trans z))];exact⟨h1,h2⟩
theorem KV.put{kvs:aa (κ×V)}{vs:aa (κ×ah)}(r:KV kvs vs)(k:κ){y:V}{u:ah}(ry:RelV y u):KV (putK kvs k y) (iu vs k u):=by
 unfold putK iu;rw[r.any k];by_cases e:(vs.any λkv=>decide (kv.1=k))=ae
 ·rw[au e,au e];exact r.repl k ry
 ·rw[az e,az e];exact AQ r ⟨rfl,ry⟩
theorem KV.length{kvs:aa (κ×V)}{vs:aa (κ×ah)}(r:KV kvs vs):kvs.length=vs.length:=jr r
end
theorem xR{P:bp}{w:bh}{k:Key}{u:ah}(r:RelV (kV k) u):(cD P w).is k u=ae:=by
 cases k with
 |inl i=>obtain⟨t,e⟩:=(show ∃t,u=sg i t from r);subst e;exact MF P w i t
 |inr x=>obtain⟨t,e⟩:=(show ∃t,u=nu x t from r);subst e;exact MJ P w x t
theorem HJ{P:bp}{w:bh}:∀{ks:aa Key}{us:aa ah},Vals (ks.map kV) us->ItemsAre (cD P w) ks us
 |[],_,r=>by rw[je] at r;cases r;exact .nil
 |k::ks,_,r=>by
  rw[bw] at r;cases r with
  |cons h t=>exact .cons (xR h) (HJ t)
abbrev KT(H:Hp):aa (aa Key×V)->aa (aa Key×ak×ah)->Prop:=k9 λp q=>p.1=q.1/\H q.2.1=ab (.tup (p.1.map kV))/\RelV p.2 q.2.2
theorem KT.val{H:Hp}{kvs:aa (aa Key×V)}{xs:aa (aa Key×ak×ah)}(r:KT H kvs xs)(k:aa Key):K_ (yL kvs k) ((jy xs k).map (·.2)):=by
 induction r with
 |nil=>exact ko
 |@cons p q ps qs h t ih=>
  obtain⟨h1,_,h2⟩:=h;by_cases e:p.1=k
  ·have e':q.1=k:=h1.symm.trans e;have b:jy (q::qs) k=ab q.2:=by simp[jy,mz,e']
   rw[oX e,b];exact h2
  ·have e':¬q.1=k:=λz=>e (h1.trans z)
   have b:jy (q::qs) k=jy qs k:=by simp[jy,mz,e']
   rw[oY e,b];exact ih
theorem KT.repl{H:Hp}{kvs:aa (aa Key×V)}{xs:aa (aa Key×ak×ah)}(r:KT H kvs xs)(k:aa Key){y:V}{u:ah}(ry:RelV y u) :
  KT H (kvs.map λkv=>if kv.1=k then (kv.1,y) else kv) (xs.map (putAt k u)):=by
 induction r with
 |nil=>exact .nil
 |@cons p q ps qs h t ih=>
  rw[bw,bw];refine .cons ?_ ih;obtain⟨h1,h2,h3⟩:=h;unfold putAt;by_cases e:p.1=k
  ·rw[au e,au (h1.symm.trans e)];exact⟨h1,h2,ry⟩
  ·rw[az e,az (λz=>e (h1.trans z))];exact⟨h1,h2,h3⟩
theorem KT.put{H:Hp}{kvs:aa (aa Key×V)}{xs:aa (aa Key×ak×ah)}(r:KT H kvs xs)(k:aa Key){b:ak}{y:V}{u:ah}(hb:H b=ab (.tup (k.map kV)))(ry:RelV y u) :
  KT H (putK kvs k y) (storedH xs k b u):=by
 have e:(kvs.any λkv=>decide (kv.1=k))=(jy xs k).isSome:=by
  rw[oZ,(r.val k).mK,xk]
 unfold putK storedH;rw[e];by_cases q:(jy xs k).isSome=ae
 ·rw[au q,au q];exact r.repl k ry
 ·rw[az q,az q];exact AQ r ⟨rfl,hb,ry⟩
theorem KT.keeps{H H':Hp}{kvs:aa (aa Key×V)}{xs:aa (aa Key×ak×ah)}(r:KT H kvs xs)(ht:∀b ys,H b=ab (.tup ys)->H' b=ab (.tup ys)):KT H' kvs xs:=
 Paired.aLy r λ_ _ z=>⟨z.1,ht _ _ z.2.1,z.2.2⟩
section
variable {P:bp} {w:bh} {H:Hp} {h:aI} {a:ak}
theorem aJ8{u:HO}(ok:HOk P w H h)(e:Rd H a u):iV P w H h a u:=e.ok ok
theorem X7{kvs:aa (Key×V)}(ok:HOk P w H h)(e:Rd H a (.dK kvs)):kvs.length<=bn/\(a==gu)=ag/\∃vs,KV kvs vs/\h.DictOf (cD P w) a vs:=
 show iV P w H h a (.dK kvs) from aJ8 ok e
theorem HN{kvs:aa (Key×V)}(ok:HOk P w H h)(e:H a=ab (.dK kvs)):kvs.length<=bn/\(a==gu)=ag/\∃vs,KV kvs vs/\h.DictOf (cD P w) a vs:=X7 ok (.inl e)
theorem HQ{ks:aa Key}(ok:HOk P w H h)(e:H a=ab (.tup (ks.map kV))):(mh (cD P w)).is h ks a:=by
 obtain⟨_,its,r,o,h1,h2,n,h3⟩:=(show iV P w H h a (.tup (ks.map kV)) from ok a _ e)
 exact⟨o,its.toArray,n,h1,h2,dl (·.1) h3,by simpa using HJ r⟩
theorem X8{kvs:aa (aa Key×V)}(ok:HOk P w H h)(e:Rd H a (.dT kvs)):kvs.length<=bn/\(a==gu)=ag/\
  ∃xs,KT H kvs xs/\h.DictOfH (mh (cD P w)) a xs:=by
 obtain⟨z,y,xs,r,o,es,ep,h1,h2,h3,h4,h5⟩:=(show iV P w H h a (.dT kvs) from aJ8 ok e)
 refine⟨z,y,xs,r,o,es,ep,h1,h2,h3,h4,λx hx=>?_,h5⟩;have all:∀{l:aa (aa Key×V)}{m:aa (aa Key×ak×ah)},KT H l m->∀x∈m,(mh (cD P w)).is h x.1 x.2.1:=by
  intro l m q;induction q with
  |nil=>intro x hx;exact nomatch hx
  |@cons p q ps qs hq t ih=>
   intro x hx;rcases b9.mp hx with e|hx
   ·subst e;exact HQ ok (by rw[<-hq.1];exact hq.2.1)
   ·exact ih x hx
 exact all r x hx
theorem aBw{kvs:aa (aa Key×V)}(ok:HOk P w H h)(e:H a=ab (.dT kvs)):kvs.length<=bn/\(a==gu)=ag/\
  ∃xs,KT H kvs xs/\h.DictOfH (mh (cD P w)) a xs:=X8 ok (.inl e)
end
def X_(H:Hp)(a:ak)(y:V)(r:ax V):Prop:=
 (∃kvs k,Rd H a (.dK kvs)/\y=kV k/\r=yL kvs k)\/∃kvs k b,Rd H a (.dT kvs)/\y=.ref b/\H b=ab (.tup (k.map kV))/\r=yL kvs k
def aDt(H:Hp)(a:ak)(y v:V)(H':Hp):Prop:=
 (∃kvs k,H a=ab (.dK kvs)/\y=kV k/\kvs.length<bn/\H'=upd H a (.dK (putK kvs k v)))\/
 ∃kvs k b,H a=ab (.dT kvs)/\y=.ref b/\H b=ab (.tup (k.map kV))/\kvs.length<bn/\H'=upd H a (.dT (putK kvs k v))
theorem X_.k{H:Hp}{a:ak}{kvs:aa (Key×V)}{k:Key}(e:H a=ab (.dK kvs)):X_ H a (kV k) (yL kvs k):=.inl ⟨kvs,k,.inl e,rfl,rfl⟩
theorem X_.t{H:Hp}{a b:ak}{kvs:aa (aa Key×V)}{k:aa Key}(e:H a=ab (.dT kvs))(eb:H b=ab (.tup (k.map kV))):X_ H a (.ref b) (yL kvs k):=.inr ⟨kvs,k,b,.inl e,rfl,eb,rfl⟩
theorem aDt.k{H:Hp}{a:ak}{kvs:aa (Key×V)}{k:Key}{v:V}(e:H a=ab (.dK kvs))(hl:kvs.length<bn):aDt H a (kV k) v (upd H a (.dK (putK kvs k v))):=.inl ⟨kvs,k,e,rfl,hl,rfl⟩
theorem aDt.t{H:Hp}{a b:ak}{kvs:aa (aa Key×V)}{k:aa Key}{v:V}(e:H a=ab (.dT kvs))(eb:H b=ab (.tup (k.map kV)))(hl:kvs.length<bn) :
  aDt H a (.ref b) v (upd H a (.dT (putK kvs k v))):=.inr ⟨kvs,k,b,e,rfl,eb,hl,rfl⟩
section
variable {X:Cx} {pins:aa (ak×aT)} {σ:St} {H:Hp} {s:al} {a:ak} {y v:V} {u r:ah} {o:ax V} {A:bu} {E:ah->al->Prop}
theorem Inv.big(I:Inv X pins σ H s):gu<s.heap.objs.size:=by
 have h:cu<s.heap.objs.size:=(I.mod.glob.keeps I.bk).lt;exact Nat.lt_trans 0x4 h
theorem YB{Q:ah->al->Prop}(hu:A.units+1<ck)(I:Inv X pins σ H s)(g:X_ H a y (ab v))(ry:RelV y u)(h:∀w' s',Inv X pins σ H s'->RelV v w'->Q w' s') :
  wpAny (av X.prog X.w) A (lq (.ref a) u) Q E s:=by
 rcases g with ⟨kvs,k,e,ey,l⟩|⟨kvs,k,b,e,ey,eb,l⟩
 ·subst ey;obtain⟨z,hd,vs,rel,dd⟩:=X7 I.hok e;obtain⟨w',hw,rw'⟩:=K_.some_of (v:=v) (o:=lr vs k) (by rw[l];exact rel.val k);exact wpAny_getItem_of (xR ry) dd.mapOf hw (h w' _ (I.tok _) rw')
 ·subst ey;cases (show u=fq b from ry);obtain⟨z,hd,xs,rel,dd⟩:=X8 I.hok e;obtain⟨w',hw,rw'⟩:=K_.some_of (v:=v) (o:=(jy xs k).map (·.2)) (by rw[l];exact rel.val k);obtain⟨p,hp,hp2⟩:=n9.mp hw;refine wpAny_getItem_heap (tj hu) (HQ I.hok eb) dd hp ?_;rw[hp2];exact h w' _ (I.tok _) rw'
theorem aOo{Q:ah->al->Prop}(hu:A.units+1<ck)(I:Inv X pins σ H s)(g:X_ H a y o)(ry:RelV y u)(h:∀s',Inv X pins σ H s'->Q (.bool o.isSome) s') :
  wpAny (av X.prog X.w) A (c6 .In u (.ref a)) Q E s:=by
 rcases g with ⟨kvs,k,e,ey,l⟩|⟨kvs,k,b,e,ey,eb,l⟩
 ·subst ey;obtain⟨z,hd,vs,rel,dd⟩:=X7 I.hok e;refine wpAny_in_of (xR ry) hd dd.mapOf ?_;rw[<-(rel.val k).mK,<-l];exact h _ (I.tok _)
 ·subst ey;cases (show u=fq b from ry);obtain⟨z,hd,xs,rel,dd⟩:=X8 I.hok e;refine wpAny_in_heap (tj hu) (HQ I.hok eb) hd dd ?_;have q:=(rel.val k).mK;rw[xk] at q;rw[<-q,<-l];exact h _ (I.tok _)
theorem aFa{Q:ah->al->Prop}(hu:A.units+1<ck)(I:Inv X pins σ H s)(g:X_ H a y o)(ry:RelV y u)(h:∀s',Inv X pins σ H s'->Q (.bool (!o.isSome)) s') :
  wpAny (av X.prog X.w) A (c6 .NotIn u (.ref a)) Q E s:=by
 rcases g with ⟨kvs,k,e,ey,l⟩|⟨kvs,k,b,e,ey,eb,l⟩
 ·subst ey;obtain⟨z,hd,vs,rel,dd⟩:=X7 I.hok e;refine wpAny_notIn_of (xR ry) hd dd.mapOf ?_;rw[<-(rel.val k).mK,<-l];exact h _ (I.tok _)
 ·subst ey;cases (show u=fq b from ry);obtain⟨z,hd,xs,rel,dd⟩:=X8 I.hok e;refine wpAny_notIn_heap (tj hu) (HQ I.hok eb) hd dd ?_;have q:=(rel.val k).mK;rw[xk] at q;rw[<-q,<-l];exact h _ (I.tok _)
theorem M8{h':aI}{t':af}{ob:HO}(I:Inv X pins σ H s)(mu:Mut (H a))(hs:hG a s.heap h')(he:∃q,h'.get? a=ab q)(new:iV X.prog X.w (upd H a ob) h' a ob) :
  Inv X pins σ (upd H a ob) {s with heap:=h',toks:=t'}:=
 I.write (x:=a) (e:=a) mu (.inl rfl) (λb q hb z=>(hs.2 b hb).trans z) he new
theorem HR{P:bp}{w:bh}{H':Hp}{h':aI}{kvs:aa (Key×V)}{vs:aa (Key×ah)}(z:kvs.length<=bn)(hd:(a==gu)=ag)(rel:KV kvs vs)(dd:h'.DictOf (cD P w) a vs) :
  iV P w H' h' a (.dK kvs):=⟨z,hd,vs,rel,dd⟩
theorem YC{H':Hp}{Q:iE->al->Prop}(hu:A.units+1<ck)(I:Inv X pins σ H s)(g:aDt H a y v H')(ry:RelV y u)(rv:RelV v r)(h:∀s',Inv X pins σ H' s'->Q () s') :
  wpAny (av X.prog X.w) A (setItem (.ref a) u r) Q E s:=by
 rcases g with ⟨kvs,k,e,ey,l,eH⟩|⟨kvs,k,b,e,ey,eb,l,eH⟩
 ·subst ey eH;obtain⟨z,hd,vs,rel,dd⟩:=HN I.hok e;have hz:vs.length<=bn:=by rw[<-rel.length];exact z
  have hl:(putK kvs k v).length<=bn:=by have:=oH kvs k v;lia
  refine wpAny_setItem_pairs (hsz:=hz) (xR ry) dd λh' dd' hs=>h _ ?_
  have he:∃q,h'.get? a=ab q:=let ⟨q,_,_,hq,_⟩:=dd';⟨q,hq⟩
  exact M8 I (by rw[e];exact ko) hs he (HR hl hd (rel.put k rv) dd')
 ·subst ey eH;cases (show u=fq b from ry);obtain⟨z,hd,xs,rel,dd⟩:=aBw I.hok e;have hz:xs.length<=bn:=by rw[<-jr rel];exact z
  have hl:(putK kvs k v).length<=bn:=by have:=oH kvs k v;lia
  refine wpAny_setItem_heap (hsz:=hz) (tj hu) (HQ I.hok eb) dd λh' dd' hs=>h _ ?_
  obtain⟨q,es,ep,hq,h2,h3,h4,_,h5⟩:=dd';refine M8 I (by rw[e];exact ko) hs ⟨q,hq⟩ ⟨hl,hd,_,(rel.put k eb rv).keeps λc ys ec=>?_,q,es,ep,hq,h2,h3,h4,h5⟩;rw[bF (MN ec e (λz=>nomatch z))];exact ec
end
theorem M9{X:Cx}{pins:aa (ak×aT)}{σ:St}{H:Hp}{s:al}{a:ak}{y:V}{o:ax V}(I:Inv X pins σ H s)(g:X_ H a y o):s.TypeIs (.ref a) "dict":=by
 rcases g with ⟨kvs,k,e,_,_⟩|⟨kvs,k,b,e,_,_,_⟩
 ·obtain⟨_,_,vs,_,dd⟩:=X7 I.hok e;exact dd.typeIs
 ·obtain⟨_,_,xs,_,dd⟩:=X8 I.hok e;exact dd.typeIs
theorem RB{P:bp}{w:bh}{H:Hp}(h:aI)(hb:gu<h.objs.size):iV P w H (h.push {cls:=.type "dict",data:=.dict #[]}) h.objs.size (.dK []):=
 ⟨di _,gr.mpr (c5 (cw hb)),[],.nil,tm h⟩
def aJ9:TE:=λ_ H Q=>∀p,H p=aj->Q (.ref p) (upd H p (.dK []))
section
variable {X:Cx} {pos:bS}
theorem aBx:PE X (.Dict [] [] pos) aJ9:=λpins s σ H Q I h=>
 wpAny_Dict_empty ⟨.ref s.heap.objs.size,_,I.laid (a:=s.heap.objs.size) (o:=.dK []) (t':=s.toks) (λ_ _ q=>bz _ q) (ba _) (RB s.heap I.big),rfl,h _ (I.hok.fresh (ba _))⟩
end
def YD:aa (TE×TE)->St->Hp->(aa (V×V)->Hp->Prop)->Prop
 |[],_,H,Q=>Q [] H
 | (tk,tv)::r,σ,H,Q=>tk σ H λx H1=>tv σ H1 λy H2=>YD r σ H2 λps H3=>Q ((x,y)::ps) H3
abbrev VV:aa (V×V)->aa (ah×ah)->Prop:=k9 λp q=>RelV p.1 q.1/\RelV p.2 q.2
def PPs(X:Cx)(pos:bS)(keys:aa (ax Expr))(values:aa Expr)(trs:aa (TE×TE)):Prop:=
 ∀(pins:aa (ak×aT))(s:al)(σ:St)(H:Hp)(Q:aa (V×V)->Hp->Prop),Inv X pins σ H s->YD trs σ H Q->
  wpAny (av X.prog X.w) X.A (evalPairs (pairTrees keys values X.env pos)) (λvs s'=>∃ps H',Inv X pins σ H' s'/\VV ps vs/\Q ps H') X.xe s
theorem aFb{X:Cx}{pos:bS}:PPs X pos [] [] []:=λpins s σ H Q I h=>pairTrees_nil_walk ⟨[],H,I,.nil,h⟩
theorem RC{X:Cx}{pos:bS}{k v:Expr}{ks:aa (ax Expr)}{vs:aa Expr}{tk tv:TE}{trs:aa (TE×TE)}(hk:PE X k tk)(hv:PE X v tv)(hr:PPs X pos ks vs trs) :
  PPs X pos (ab k::ks) (v::vs) ((tk,tv)::trs):=λpins s σ H Q I h=>
 pairTrees_cons_walk (thn (hk pins s σ H _ I h) λu s1 ⟨x,H1,I1,rx,q1⟩=>thn (hv pins s1 σ H1 _ I1 q1) λw2 s2 ⟨y,H2,I2,ry,q2⟩=>
  thn (hr pins s2 σ H2 _ I2 q2) λws s3 ⟨ps,H3,I3,rel,q3⟩=>⟨(x,y)::ps,H3,I3,.cons ⟨rx,ry⟩ rel,q3⟩)
def c7(kvs more:aa (Key×V)):aa (Key×V):=more.foldl (λacc kv=>putK acc kv.1 kv.2) kvs
theorem KV.merge:∀{more:aa (Key×V)}{rs:aa (Key×ah)}{kvs:aa (Key×V)}{vs:aa (Key×ah)},KV more rs->KV kvs vs->KV (c7 kvs more) (jf vs rs):=by
 intro more rs kvs vs r;unfold KV at r;induction r generalizing kvs vs with
 |nil=>intro q;exact q
 |@cons p q ps qs h t ih=>
  intro r0;have e:KV (putK kvs p.1 p.2) (iu vs q.1 q.2):=by
   have:=r0.put p.1 h.2;rw[<-h.1];exact this
  exact ih e
theorem fW:∀(more kvs:aa (Key×V)),(c7 kvs more).length<=kvs.length+more.length
 |[],kvs=>by show kvs.length<=kvs.length+0;lia
 |p::r,kvs=>by
  have h1:=fW r (putK kvs p.1 p.2);have h2:=oH kvs p.1 p.2;show(c7 (putK kvs p.1 p.2) r).length<=_;rw[bj];lia
theorem yM{P:bp}{w:bh}:∀{kvs:aa (Key×V)}{ws:aa (ah×ah)},VV (kvs.map λkv=>(kV kv.1,kv.2)) ws->∃rs,Carries (cD P w) ws rs/\KV kvs rs
 |[],_,r=>by rw[je] at r;cases r;exact⟨[],ko,.nil⟩
 |p::kvs,_,r=>by
  rw[bw] at r;cases r with
  |@cons a b as bs h t=>
   obtain⟨rs,c,q⟩:=yM (P:=P) (w:=w) t;obtain⟨b1,b2⟩:=b;exact⟨(p.1,b2)::rs,⟨xR h.1,rfl,c⟩,.cons ⟨rfl,h.2⟩ q⟩
def aMo(trs:aa (TE×TE)):TE:=λσ H Q=>∀p,H p=aj->YD trs σ (upd H p (.dK [])) λps H2=>H2 p=ab (.dK [])/\∃kvs:aa (Key×V),ps=kvs.map (λkv=>(kV kv.1,kv.2))/\kvs.length<=15/\Q (.ref p) (upd H2 p (.dK (c7 [] kvs)))
theorem aFc{X:Cx}{pos:bS}{keys:aa (ax Expr)}{values:aa Expr}{trs:aa (TE×TE)}(h:PPs X pos keys values trs)(hall:keys.all (·.isSome)=ae)(hl:keys.length=values.length)(h0:keys≠[])
 (h15:keys.length<=15):PE X (.Dict keys values pos) (aMo trs):=by
 intro pins s σ H Q I q;have hn:=I.hok.fresh (ba s.heap.objs.size);have I1:=I.laid (a:=s.heap.objs.size) (o:=.dK []) (h':=s.heap.push {cls:=.type "dict",data:=.dict #[]}) (t':=s.toks) (λ_ _ q=>bz _ q) (ba _) (RB s.heap I.big);refine wpAny_Dict_walk (knd:=cD X.prog X.w) hall hl h0 h15 (thn (h pins _ σ _ _ I1 (q _ hn)) λws s2 ⟨ps,H2,I2,rel,e,kvs,ep,lk,q2⟩=>?_);subst ep;obtain⟨rs,c,rk⟩:=yM (P:=X.prog) (w:=X.w) rel;obtain⟨z,hd,vs0,r0,dd⟩:=HN I2.hok e;cases r0;refine⟨rs,c,dd,λh' dd' hs=>⟨.ref s.heap.objs.size,_,?_,rfl,q2⟩⟩;have hz:(c7 [] kvs).length<=bn:=by
  have h1:=fW kvs [];rw[eL] at h1;rw[dE];lia
 have he:∃q,h'.get? s.heap.objs.size=ab q:=let ⟨q,_,_,hq,_⟩:=dd';⟨q,hq⟩
 exact M8 I2 (by rw[e];exact ko) hs he (HR hz hd (rk.merge .nil) dd')
end L2
namespace Att
open PySem PySem.W PySem.Calls PyProof.Rows
theorem vV{P:tq}{h:aI}:∀(ns:aa ai)(vs:aa ah),WellAll P h vs (ns.map AR)->og vs ns:=by
 intro ns;induction ns with
 |nil=>
  intro vs w;rw[je] at w;cases w;exact .nil
 |cons n ns ih=>
  intro vs w;rw[bw] at w;cases w with
  |cons a b=>
   cases a;exact .cons _ _ (ih _ b)
theorem YF{l:OpenLaw}{n:af}(hn:l.most=ab n){P:tq}{h:aI}{args:aa WData}{vals:aa ah}
 (hpre:l.row.toRowW.claim.pre args=ae)(hwl:WellAll P h vals args) :
  ∃a vs ns,vals=[fq a]/\args=[WData.list (ns.map AR)]/\h.get? a=ab {cls:=.type "list",data:=.seq vs.toArray}/\og vs ns/\ns.length<=n:=by
 have hsh:WShape.hasAll [] args [.list .int]=ae:=(pre_splitW hpre).1;have hc:l.pre.holds [] {args:=args}=ae:=(pre_splitW hpre).2;obtain⟨d,r,rfl,h1,h2⟩:=hasAllW_cons hsh;obtain rfl:=hasAllW_nil h2;obtain⟨xs,rfl,h3⟩:=hasW_list h1;obtain⟨ns,rfl⟩:=items_int h3;have hlen:ns.length<=n:=by
  unfold OpenLaw.pre at hc;have h4:(WTm.not (.lt (.lit (.int (n:ai))) (.len (.arg 0)))).holds [] {args:=[.list (ns.map .int)]}=ae:=by
   have h4:=(holds_andW hc).1;rw[hn] at h4;exact h4
  have h5:=condW_of h4 (w_not (w_lt w_lit (w_len_list (w_arg rfl))));rw[bd] at h5;refine Nat.le_of_not_lt λq=>?_
  have q':(n:ai)<((ns.length:af):ai):=by lia
  first
   | (rw[cb q'] at h5;exact bg h5 0x4)
   | (simp at h5;lia)
 cases hwl with
 |cons w1 w2=>
  cases w2;cases w1 with
  |list ho hall=>exact⟨_,_,ns,rfl,rfl,ho,vV ns _ hall,hlen⟩
theorem YG(l:OpenLaw)(args:aa WData):l.row.toRowW.claim.post args (.bool ae) args=ae:=
 postW_of (r:=l.row.toRowW) (X:=(ae==ae))
  (show AS [] (.bool ae) .bool=ae by first|rfl|decide|simp[AS,WShape.arms,WShape.armsAll])
  (show(WTm.eq .res (.lit (.bool ae))).value [] {args:=args,res:=ab (.bool ae),after:=args}=ab (.bool (ae==ae)) from w_eq_bool (w_res rfl) w_lit) rfl
theorem M_{l:OpenLaw}{n:af}{q:bp}{loose:aa Str}{XP:(Str->ax ah)->aI->Prop}{YP:bh->aI->Prop}{d:DefRec}
 (hn:l.most=ab n)(hdf:d.params.defaults=[])
 (call:∀(w:bh) (s₀ s₁:al) (mg mb:Str->ax ah) (fa:ak) (o:aT) (pm cd doc:ah) (a:ak) (vs:aa ah) (ns:aa ai),
   Ground q loose [] XP w s₀ mg mb s₁.heap->YP w s₁.heap->
   s₁.heap.get? fa=ab o->o.data=.func (docDef d.name d.params d.body d.scope pm cd doc)->s₁.heap.CodeRec cd d.name->mg d.name=ab (.ref fa)->
   s₁.heap.get? a=ab {cls:=.type "list",data:=.seq vs.toArray}->og vs ns->ns.length<=n->s₁.gens=#[]->
   codeAny (av l.prog w) lu (.call (.ref fa) ⟨[.ref a],[]⟩) (λr s'=>r=.ok (.ret (.bool ae))/\OldK s₁.heap s'.heap/\s'.os=s₁.os/\kh s'.gens) s₁) :
  WalkO q loose XP YP l.row.toRowW d [] (λf vs=>xl f vs):=by
 intro w s₀ s₁ mg mb G Y fa o pm cd doc dV kV ho hd hcd hD hmg hg args vals as hpre hlay hrd hwl hlo;obtain rfl:dV=.none:=Dflts.none hD hdf;obtain rfl:kV=.none:=Dflts.noKw hD;obtain⟨a,vs,ns,rfl,rfl,hobj,hints,hlen⟩:=YF hn hpre hwl;refine enter_call (li (call w s₀ s₁ mg mb fa o pm cd doc a vs ns G Y ho (fd_plain hd) hcd hmg hobj hints hlen hg) λr s' hq=>?_);obtain⟨rfl,h2,h3,h4⟩:=hq;exact⟨.inl ⟨.bool ae,.bool ae,[],rfl,λ_=>rfl,.bool ae,YG l _,λ_=>⟨AT,λ_ hm=>(nomatch hm)⟩⟩,h2,h3,h4⟩
end Att
namespace L2
open PySem PySem.Spec PyProof.Rows
theorem HS:∀{vs:aa ah}{ns:aa ai},og vs ns->Vals (ns.map V.int) vs
 |_,_,.nil=>.nil
 |_,_,.cons n t h=>.cons ⟨t,rfl⟩ (HS h)
def Only(H:Hp):Prop:=∀b,H b=aj\/∃o xs,H b=ab (.frz o (.lst xs))
theorem aBy{P:bp}{w:bh}{K:br}{mg mb:Str->ax ah}{CX:CXT}{k:af}{fa a:ak}{fd:d5}{x:Str}{sp:Sp}{s₁:al}{vs:aa ah}{ns:aa ai}
 (KX:K.In s₁.heap)(hns:s₁.heap.Ns cu mg)(hb:s₁.heap.Ns vn mb)(hbb:∀x:Str,x ≠ "__name__"->mb x=dS x)(hlim:s₁.heap.NoLimit)(hg:s₁.gens=#[])
 (ha:s₁.heap.get? a=ab {cls:=.type "list",data:=.seq vs.toArray})(hi:og vs ns)(hl:ns.length<=bn)(hr:mJ k lu)
 (F:∀base:aI,K.In base->base.Ns cu mg->uQ P w K mg base CX k fa fd [x] sp)(hbind:∀(s:al) (u:ah),lh s fd ⟨[u],[]⟩ [(x,u)])
 (hsp:∀H:Hp,Only H->SqL K H a (ns.map V.int)->sp [.ref a] H (λv _=>v=.bl ae) λ_ _ _=>cv)
 (hCX:∀H e s',CX [] H s₁ (λ_ _ _=>cv) e s'->cv) :
  codeAny (av P w) lu (.call (.ref fa) ⟨[.ref a],[]⟩) (λr s'=>r=.ok (.ret (.bool ae))/\OldK s₁.heap s'.heap/\s'.os=s₁.os/\kh s'.gens) s₁:=by
 have rv:=HS hi;have lenV:=hi.length
 -- from an abstract heap in which nothing but the script may be tracked
 have core:∀H:Hp,Only H->SqL K H a (ns.map V.int)->HOk P w H s₁.heap->(∀b,H b≠aj->b=a)->(H a≠aj->K.lookup a=aj)->
   codeAny (av P w) lu (.call (.ref fa) ⟨[.ref a],[]⟩) (λr s'=>r=.ok (.ret (.bool ae))/\OldK s₁.heap s'.heap/\s'.os=s₁.os/\kh s'.gens) s₁:=by
  intro H hO hS hok hA hK;have base_of:∀{b:ak}{o:aT},s₁.heap.get? b=ab o->H b=aj->(aBh s₁.heap H).get? b=ab o:=λe n=>aBi e n
  have noA:∀{b:ak}{o:aT}{es:aw oh}{ep:af},s₁.heap.get? b=ab o->o.data=.dict es ep->H b=aj:=λ{b o es ep} e d=>by
   cases q:H b with
   |none=>rfl
   |some u=>
    have e':b=a:=hA b (by rw[q];simp);subst e';rw[ha] at e;cases e;have d':Ab vs.toArray _=Data.dict es ep:=d;cases d'
  have nsK:∀{b:ak}{m:Str->ax ah},s₁.heap.Ns b m->(aBh s₁.heap H).Ns b m:=λ{b m} ⟨o,es,ep,e,d,r⟩=>⟨o,es,ep,base_of e (noA e d),d,r⟩
  have hKb:K.In (aBh s₁.heap H):=λb o e=>base_of (KX b o e) (by
   cases q:H b with
   |none=>rfl
   |some u=>
    have e':b=a:=hA b (by rw[q];simp);subst e';rw[hK (by rw[q];simp)] at e;cases e)
  have hM:Mod K mg (aBh s₁.heap H):=⟨hKb,nsK hns,⟨mb,nsK hb,hbb⟩,let ⟨mc,h1,h2⟩:=hlim;⟨mc,nsK h1,h2⟩⟩
  have e0:aF0 P w K mg (aBh s₁.heap H) lu [] s₁ H:=⟨rfl,hM,λb o e=>aEq e,nV (W0 _ _),trivial,λb hb=>bg (show b∈([]:aa ak) from hb) 0x2,hok,.of_eq hg⟩
  refine li ((F _ hKb (nsK hns)).run lu [] s₁ H ⟨[.ref a],[]⟩ [.ref a] [.ref a] _ _ hr e0 (hbind s₁ (.ref a)) (.cons rfl .nil) (hsp H hO hS)) λr s' h=>?_
  cases r with
  |error e=>exact(hCX H e s' h).elim
  |ok fl=>
   cases fl with
   |next=>exact fj h
   |brk=>exact fj h
   |cont=>exact fj h
   |ret u=>
    obtain⟨v,H',os,bare,un,hok',r',q⟩:=h;have q':v=.bl ae:=q;subst q';obtain rfl:u=k6 ae:=r';refine⟨rfl,OldK.of_keep λb o e=>?_,os,bare⟩;cases q:H b with
    |none=>exact un.keep b o e q (by intro z;exact bg (show b∈([]:aa ak) from z) 0x2) 0x2
    |some u=>
     rcases hO b with z|⟨ob,xs,z⟩
     ·rw[q] at z;cases z
     ·have z2:=un.frzs b ob _ z;obtain⟨e1,_⟩:=hok b _ z;obtain⟨e2,_⟩:=hok' b _ z2;rw[e] at e1;cases e1;exact e2
 cases hk:K.lookup a with
 |some o=>
  -- the script is one of the module's own objects
  have e:=KX a o hk;rw[ha] at e;cases e;refine core (λ_=>aj) (λ_=>.inl rfl) (.inr ⟨_,vs.toArray,_,hk,rfl,rfl,rfl,by rw[cm,lenV];exact hl,by simpa using rv⟩) (λb u z=>by have z':(aj:ax HO)=ab u:=z;cases z') (λb z=>bg rfl z) λz=>bg rfl z
 |none=>
  refine core (λb=>if b=a then ab (.frz {cls:=.type "list",data:=.seq vs.toArray} (.lst (ns.map V.int))) else aj) (λb=>?_) (.inl (.inr ⟨{cls:=.type "list",data:=.seq vs.toArray},au rfl⟩)) (λb u z=>?_) (λb z=>?_) λ_=>hk
  ·by_cases hb:b=a
   ·exact .inr ⟨_,_,au hb⟩
   ·exact .inl (az hb)
  ·by_cases hb:b=a
   ·have z':=(au hb).symm.trans z;cases z';subst hb;exact⟨ha,by rw[bd];exact hl,vs,_,rv,ha⟩
   ·have z':=(az hb).symm.trans z;cases z'
  ·by_cases hb:b=a
   ·exact hb
   ·exact bg (az hb) z
theorem aFd{l:PySem.W.OpenLaw}{n k:af}{q:bp}{loose:aa Str}{XP:(Str->ax ah)->aI->Prop}{YP:bh->aI->Prop}{d:DefRec}{K:tq->br}{CX:bh->CXT}{sp:bh->Sp}{x:Str}
 (hn:l.most=ab n)(hn2:n<=bn)(hdf:d.params.defaults=[])(hr:mJ k lu)
 (hY:∀(w:bh) (h:aI),YP w h->(K w.params).In h)
 (F:∀(w:bh) (mg:Str->ax ah) (fa:ak) (h:aI),(K w.params).In h->h.Ns cu mg->mg d.name=ab (.ref fa)->
   ∃fd:d5,(∀(s:al) (u:ah),lh s fd ⟨[u],[]⟩ [(x,u)])/\
    ∀base:aI,(K w.params).In base->base.Ns cu mg->uQ l.prog w (K w.params) mg base (CX w) k fa fd [x] (sp w))
 (hsp:∀(w:bh) (H:Hp) (a:ak) (ns:aa ai),ns.length<=n->Only H->SqL (K w.params) H a (ns.map V.int)->sp w [.ref a] H (λv _=>v=.bl ae) λ_ _ _=>cv)
 (hCX:∀(w:bh) (H:Hp) (s:al) (e:ah) (s':al),CX w [] H s (λ_ _ _=>cv) e s'->cv) :
  PySem.W.WalkO q loose XP YP l.row.toRowW d [] (λf vs=>xl f vs):=by
 refine Att.M_ hn hdf λw s₀ s₁ mg mb fa o pm cd doc a vs ns G Y ho hd hcd hmg hobj hints hlen hg=>?_
 have KX:=hY w _ Y;obtain⟨fd,hb,hF⟩:=F w mg fa _ KX G.T.g hmg;exact aBy KX G.T.g G.T.b G.T.builtins G.T.nolimit hg hobj hints (dw hlen hn2) hr hF hb (λH hO hS=>hsp w H a ns hlen hO hS) λH e s'=>hCX w H s₁ e s'
noncomputable def iJ(s:bP):Arguments:=match s with
 |.FunctionDef _ a _ _ _ _ _ _ _ _=>a
 |_=>{posonlyargs:=[],args:=[],vararg:=aj,kwonlyargs:=[],kw_defaults:=[],kwarg:=aj,defaults:=[]}
noncomputable def d8(s:bP):aa bP:=match s with
 |.FunctionDef _ _ b _ _ _ _ _ _ _=>b
 |_=>[]
noncomputable def aO(s:bP):f_:=match s with
 |.FunctionDef _ _ _ _ _ _ sc _ _ _=>sc
 |_=>{kind:=.function,names:=[],isGenerator:=ag,isCoroutine:=ag}
noncomputable abbrev CX0:CXT:=λ_ _ _ _ _ _=>cv
noncomputable abbrev E0:XK:=λ_ _ _=>cv
theorem aBz{X:Cx}:yJ CX0 X E0:=λ_ _ _ _ _ _ _ h=>h.elim
structure Fun(K:br)(x qual:Str)(st:bP)(f:ak)(fd:d5):Prop where
 ex:∃(oc:ah)(od:ax ak)(kV doc pm:ah)(an:ax ak)(cdv ct:ah)(osl:aw (ax ah)),
  fd=ln x qual (iJ st) (d8 st) (aO st) .none kV doc pm an cdv ct/\K.lookup f=ab ⟨oc,od,.func fd,osl⟩/\sK K cdv qual=ae
 kp:ju K (.ref f)=ae
section
variable {P:bp} {w:bh} {K:br} {mg:Str->ax ah} {base:aI}
theorem Fun.ok{x qual:Str}{st:bP}{f:ak}{fd:d5}{N ps:aa Str}{k:af}{sp:Sp}(F:Fun K x qual st f fd)(S:cF N ps (aO st))(len:∀vs H Q E,sp vs H Q E->vs.length=ps.length)
 (hbody:∀(cdv:ah) (A:bu) (outer:aa dn) (s:al) (H:Hp) (vs:aa V) (Q:VK) (E:XK),mJ k (A.deeper (gS qual (aO st) s.heap.objs.size f cdv))->sp vs H Q E->
   ∃t,PSs (XQ CX0 P w K mg base N qual (aO st) f cdv A outer s H E).nox (d8 st) t/\t {nx:=λ_ H'=>Q .non H',rt:=Q} (start N vs) H):uQ P w K mg base CX0 (k+1) f fd ps sp:=by
 obtain⟨oc,od,kV,doc,pm,an,cdv,ct,osl,rfl,lk,hcd⟩:=F.ex;refine aIz lk hcd S len λA outer s H vs Q E hr hsp=>?_
 obtain⟨t,h,q⟩:=hbody cdv A outer s H vs Q E hr hsp;exact⟨t,h.nox,q⟩
theorem Fun.binds{x qual:Str}{st:bP}{f:ak}{fd:d5}{ps:aa Str}(F:Fun K x qual st f fd)
 (h:∀(kV doc pm:ah) (an:ax ak) (cdv ct:ah) (us:aa ah),us.length=ps.length->bindArgs (ln x qual (iJ st) (d8 st) (aO st) .none kV doc pm an cdv ct) ⟨us,[]⟩=pure (ps.zip us)):Binds K fd ps []:=by
 obtain⟨oc,od,kV,doc,pm,an,cdv,ct,osl,rfl,lk,hcd⟩:=F.ex;exact .all (h kV doc pm an cdv ct)
theorem tX{x qual:Str}{st:bP}{f:ak}{oc:ah}{od an:ax ak}{osl:aw (ax ah)}{kV doc pm cdv ct:ah}(l:K.lookup f=ab ⟨oc,od,.func (ln x qual (iJ st) (d8 st) (aO st) .none kV doc pm an cdv ct),osl⟩)
 (c:sK K cdv qual=ae)(k:ju K (.ref f)=ae):Fun K x qual st f (ln x qual (iJ st) (d8 st) (aO st) .none kV doc pm an cdv ct):=⟨⟨oc,od,kV,doc,pm,an,cdv,ct,osl,rfl,l,c⟩,k⟩
end
def cG(H H':Hp):Prop:=∀b o,H b=ab o->H' b=ab o
theorem cG.refl(H:Hp):cG H H:=λ_ _ h=>h
theorem cG.trans{H H1 H2:Hp}(a:cG H H1)(b:cG H1 H2):cG H H2:=λc o h=>b c o (a c o h)
theorem cG.free{H H':Hp}(e:cG H H'){l:ak}(h:H' l=aj):H l=aj:=by
 cases q:H l with
 |none=>rfl
 |some o=>
  rw[e l o q] at h;cases h
section
variable {κ:Type} [dg κ]
theorem aC0{kvs:aa (κ×V)}{k:κ}(h:yL kvs k=aj):¬k∈kvs.map (·.1):=by
 intro m;obtain⟨p,hp,e⟩:=cz.mp m;have q:(kvs.any λkv=>decide (kv.1=k))=ae:=AU.mpr ⟨p,hp,cb e⟩;rw[oZ,h] at q;exact bg q 0x2
theorem YH:∀{l:aa κ}{k:κ},l.Nodup->¬k∈l->(l++[k]).Nodup
 |[],k,_,_=>by simp
 |a::r,k,h,hk=>by
  obtain⟨h1,h2⟩:=ff.mp h;show(a::(r++[k])).Nodup;refine ff.mpr ⟨λm=>?_,YH h2 λm=>hk (b9.mpr (Or.inr m))⟩;rcases gz.mp m with q|q
  ·exact h1 q
  ·exact hk (b9.mpr (kF (jg.mp q).symm))
theorem aFe{kvs:aa (κ×V)}{k:κ}(v:V)(hn:(kvs.map (·.1)).Nodup)(h:yL kvs k=aj):((putK kvs k v).map (·.1)).Nodup:=by
 rw[aBv v h,c_];exact YH hn (aC0 h)
end
end L2
namespace TS
open PySem PyProof.Rows
noncomputable def YJ:aq->ay->aw ay->af->af->af->kG cn dt (ax af):=sortPriv% PySem.Builtin.gallop
noncomputable def zK:af->kG cn dt iE:=sortPriv% PySem.Builtin.setMinGallop
noncomputable def aC1:aw ay->aw ay->kG cn dt (aw ay):=sortPriv% PySem.Builtin.mergeLo
noncomputable def aC2:aw ay->aw ay->kG cn dt (aw ay):=sortPriv% PySem.Builtin.mergeHi
noncomputable def NB(left:aq)(key:ay)(arr:aw ay)(base i:af):kG cn dt (ax aq):=
 elem' arr (base+i) >>= λx=>if left=ae then lt' x key else lt' key x >>= λr=>pure (Option.map (λb=>!b) r)
theorem nJ{prog:bp}{w:bh}{A:bu}{E:ah->al->Prop}{s:al}{g:af}{st:cn}{Q:iE->cn->Prop}
 (h:Q () (oj (kindOf st) (am st) (bo st) g (gj st))):de (av prog w) A E s (zK g) Q st:=jz h
section
variable {prog:bp} {w:bh} {A:bu} {E:ah->al->Prop} {s:al}
theorem U8{left:aq}{key:ay}{arr:aw ay}{base n hint:af}{st:cn}{Q:ax af->cn->Prop}(p:af->aq)
 (hp:∀i (R:ax aq->cn->Prop),i<n->R (ab (p i)) st->de (av prog w) A E s (NB left key arr base i) R st)
 (hm:∀i j,i<=j->j<n->p j=ae->p i=ae)(hh:hint<n)
 (h:∀k,k<=n->(∀i,i<k->p i=ae)->(∀i,k<=i->i<n->p i=ag)->Q (ab k) st) :
  de (av prog w) A E s (YJ left key arr base n hint) Q st:=by
 with_unfolding_all refine aE (hp _ _ hh ?_)
 dsimp only;cases hr:p hint with
 |true=>
  simp only[cy];refine aE (d6 (ef
   (I:=λx c st'=>st'=st/\∃l o,c=(aj,l,o)/\l<o/\x+1<=o/\hint+l<n/\p (hint+l)=ae)
   (Q:=λc st'=>st'=st/\∃l o,c=(aj,l,o)/\l<o/\hint+l<n/\p (hint+l)=ae/\(n-hint<=o\/(hint+o<n/\p (hint+o)=ag))) ?step ?fin ?init) ?post)
  case init=>exact⟨rfl,0,1,rfl,by lia,by lia,hh,hr⟩
  case fin=>
   rintro c st' ⟨rfl,l,o,rfl,a1,a2,a3,a4⟩;exact⟨rfl,l,o,rfl,a1,a3,a4,.inl 0x1⟩
  case step=>
   rintro x c st' _ hx ⟨rfl,l,o,rfl,a1,a2,a3,a4⟩;dsimp only;by_cases hge:o >= n-hint
   ·rw[au hge];exact bf ⟨rfl,l,o,rfl,a1,a3,a4,.inl hge⟩
   ·rw[az hge];refine aE (hp _ _ 0x1 ?_);dsimp only;cases hb:p (hint+o) with
    |true=>
     simp only[ol,c8,cK];exact bf ⟨rfl,_,_,rfl,by lia,by lia,by lia,hb⟩
    |false=>
     simp only[Bool.not_false,cy];exact bf ⟨rfl,_,_,rfl,a1,a3,a4,.inr ⟨by lia,hb⟩⟩
  case post=>
   rintro c st₀ ⟨rfl,l,o,rfl,a1,a3,a4,a5⟩;dsimp only;have H1:∀i,i<hint+l+1->p i=ae:=λi hi=>hm i (hint+l) 0x1 a3 a4
   have H2:∀i,hint+min o (n-hint)<=i->i<n->p i=ag:=by
    intro i i1 i2;rcases a5 with a5|⟨a5,a6⟩
    ·lia
    ·cases hq:p i with
     |false=>rfl
     |true=>rw[hm (hint+o) i 0x1 i2 hq] at a6;cases a6
   refine aE (d6 (ef
    (I:=λx c st'=>st'=st₀/\∃l r,c=(aj,l,r)/\l<=r/\r<=n/\r-l<=n-x/\(∀i,i<l->p i=ae)/\(∀i,r<=i->i<n->p i=ag))
    (Q:=λc st'=>st'=st₀/\∃l r,c=(aj,l,r)/\l=r/\r<=n/\(∀i,i<l->p i=ae)/\(∀i,r<=i->i<n->p i=ag)) ?step2 ?fin2 ?init2) ?post2)
   case init2=>exact⟨rfl,_,_,rfl,by lia,by lia,by lia,H1,H2⟩
   case fin2=>
    rintro c st' ⟨rfl,l,r,rfl,a1,a2,a3,a4,a5⟩;exact⟨rfl,l,r,rfl,by lia,a2,a4,a5⟩
   case step2=>
    rintro x c st' _ hx ⟨rfl,l,r,rfl,a1,a2,a3,a4,a5⟩;dsimp only;by_cases hge:l >= r
    ·rw[au hge];exact bf ⟨rfl,l,r,rfl,by lia,a2,a4,a5⟩
    ·rw[az hge];refine aE (hp _ _ 0x1 ?_);dsimp only;cases hb:p (l+(r-l) / 2) with
     |true=>
      simp only[cy];exact bf ⟨rfl,_,_,rfl,by lia,a2,by lia,λi hi=>hm i _ 0x1 0x1 hb,a5⟩
     |false=>
      simp only[c8,cK];refine bf ⟨rfl,_,_,rfl,by lia,by lia,by lia,a4,λi i1 i2=>?_⟩;cases hq:p i with
      |false=>rfl
      |true=>rw[hm _ i i1 i2 hq] at hb;cases hb
   case post2=>
    rintro c st' ⟨rfl,l,r,rfl,rfl,a2,a4,a5⟩;exact bf (h l a2 a4 a5)
 |false=>
  simp only[c8,cK];refine aE (d6 (ef
   (I:=λx c st'=>st'=st/\∃l o,c=(aj,l,o)/\l<o/\x+1<=o/\l<=hint/\p (hint-l)=ag)
   (Q:=λc st'=>st'=st/\∃l o,c=(aj,l,o)/\l<o/\l<=hint/\p (hint-l)=ag/\(hint+1<=o\/(o<=hint/\p (hint-o)=ae))) ?step ?fin ?init) ?post)
  case init=>exact⟨rfl,0,1,rfl,by lia,by lia,by lia,hr⟩
  case fin=>
   rintro c st' ⟨rfl,l,o,rfl,a1,a2,a3,a4⟩;exact⟨rfl,l,o,rfl,a1,a3,a4,.inl 0x1⟩
  case step=>
   rintro x c st' _ hx ⟨rfl,l,o,rfl,a1,a2,a3,a4⟩;dsimp only;by_cases hge:o >= hint+1
   ·rw[au hge];exact bf ⟨rfl,l,o,rfl,a1,a3,a4,.inl hge⟩
   ·rw[az hge];refine aE (hp _ _ 0x1 ?_);dsimp only;cases hb:p (hint-o) with
    |false=>
     simp only[c8,cK];exact bf ⟨rfl,_,_,rfl,by lia,by lia,by lia,hb⟩
    |true=>
     simp only[cy];exact bf ⟨rfl,_,_,rfl,a1,a3,a4,.inr ⟨by lia,hb⟩⟩
  case post=>
   rintro c st₀ ⟨rfl,l,o,rfl,a1,a3,a4,a5⟩;dsimp only;have H1:∀i,i<hint+1-min o (hint+1)->p i=ae:=by
    intro i hi;rcases a5 with a5|⟨a5,a6⟩
    ·lia
    ·exact hm i (hint-o) 0x1 0x1 a6
   have H2:∀i,hint-l<=i->i<n->p i=ag:=by
    intro i i1 i2;cases hq:p i with
    |false=>rfl
    |true=>rw[hm (hint-l) i 0x1 i2 hq] at a4;cases a4
   refine aE (d6 (ef
    (I:=λx c st'=>st'=st₀/\∃l r,c=(aj,l,r)/\l<=r/\r<=n/\r-l<=n-x/\(∀i,i<l->p i=ae)/\(∀i,r<=i->i<n->p i=ag))
    (Q:=λc st'=>st'=st₀/\∃l r,c=(aj,l,r)/\l=r/\r<=n/\(∀i,i<l->p i=ae)/\(∀i,r<=i->i<n->p i=ag)) ?step2 ?fin2 ?init2) ?post2)
   case init2=>exact⟨rfl,_,_,rfl,by lia,by lia,by lia,H1,H2⟩
   case fin2=>
    rintro c st' ⟨rfl,l,r,rfl,a1,a2,a3,a4,a5⟩;exact⟨rfl,l,r,rfl,by lia,a2,a4,a5⟩
   case step2=>
    rintro x c st' _ hx ⟨rfl,l,r,rfl,a1,a2,a3,a4,a5⟩;dsimp only;by_cases hge:l >= r
    ·rw[au hge];exact bf ⟨rfl,l,r,rfl,by lia,a2,a4,a5⟩
    ·rw[az hge];refine aE (hp _ _ 0x1 ?_);dsimp only;cases hb:p (l+(r-l) / 2) with
     |true=>
      simp only[cy];exact bf ⟨rfl,_,_,rfl,by lia,a2,by lia,λi hi=>hm i _ 0x1 0x1 hb,a5⟩
     |false=>
      simp only[c8,cK];refine bf ⟨rfl,_,_,rfl,by lia,by lia,by lia,a4,λi i1 i2=>?_⟩;cases hq:p i with
      |false=>rfl
      |true=>rw[hm _ i i1 i2 hq] at hb;cases hb
   case post2=>
    rintro c st' ⟨rfl,l,r,rfl,rfl,a2,a4,a5⟩;exact bf (h l a2 a4 a5)
end
structure Ord(U:ay->Prop)(blt:ay->ay->aq):Prop where
 irr:∀x,U x->blt x x=ag
 tr:∀x y z,U x->U y->U z->blt x y=ae->blt y z=ae->blt x z=ae
 ntr:∀x y z,U x->U y->U z->blt x z=ae->blt x y=ae\/blt y z=ae
noncomputable abbrev dk:ay:=(.none,.none)
def gt(a:aw ay)(i:af):ay:=a.getD i dk
theorem mL{a:aw ay}{i:af}(h:i<a.size):a[i]?=ab (gt a i):=by
 unfold gt;simp[jh,h]
def o6(U:ay->Prop)(a:aw ay):Prop:=∀i,i<a.size->U (gt a i)
def Srt(blt:ay->ay->aq)(a:aw ay)(lo hi:af):Prop:=∀i j,lo<=i->i<=j->j<hi->blt (gt a j) (gt a i)=ag
def U9(prog:bp)(w:bh)(A:bu)(E:ah->al->Prop)(s:al)(kd:ie)(U:ay->Prop)(blt:ay->ay->aq):Prop:=
 ∀(x y:ay)(st:cn)(Q:ax aq->cn->Prop),U x->U y->kindOf st=kd->Q (ab (blt x y)) st->de (av prog w) A E s (lt' x y) Q st
section
variable {prog:bp} {w:bh} {A:bu} {E:ah->al->Prop} {s:al} {kd:ie} {U:ay->Prop} {blt:ay->ay->aq}
theorem b8{arr:aw ay}{i:af}{st:cn}{Q:ay->cn->Prop}(hi:i<arr.size)(h:Q (gt arr i) st):de (av prog w) A E s (elem' arr i) Q st:=by
 rw[elem'_eq,mL hi];exact bf h
def gp(blt:ay->ay->aq)(left:aq)(key:ay)(arr:aw ay)(base i:af):aq:=if left then blt (gt arr (base+i)) key else !blt key (gt arr (base+i))
theorem U_(hL:U9 prog w A E s kd U blt){left:aq}{key:ay}{arr:aw ay}{base i:af}{st:cn}{R:ax aq->cn->Prop}(hk:kindOf st=kd)(hi:base+i<arr.size)(hU:o6 U arr)(hK:U key)
 (h:R (ab (gp blt left key arr base i)) st):de (av prog w) A E s (NB left key arr base i) R st:=by
 unfold NB;refine aE (b8 hi ?_);unfold gp at h;cases left with
 |true=>
  simp only[cy] at h ⊢;exact hL _ _ _ _ (hU _ hi) hK hk h
 |false=>
  simp only[c8,cK] at h ⊢;refine aE (hL _ _ _ _ hK (hU _ hi) hk (bf ?_));exact h
theorem aFf(O:Ord U blt){left:aq}{key:ay}{arr:aw ay}{base n:af}(hn:base+n<=arr.size)(hU:o6 U arr)(hK:U key)(hs:Srt blt arr base (base+n)) :
  ∀i j,i<=j->j<n->gp blt left key arr base j=ae->gp blt left key arr base i=ae:=by
 intro i j hij hj h;have h0:=hs (base+i) (base+j) 0x1 0x1 0x1;have ui:=hU (base+i) 0x1;have uj:=hU (base+j) 0x1;unfold gp at h ⊢;cases left with
 |true=>
  simp only[cy] at h ⊢;rcases O.ntr _ (gt arr (base+i)) _ uj ui hK h with q|q
  ·rw[h0] at q;cases q
  ·exact q
 |false=>
  simp only[c8,cK] at h ⊢;cases q:blt key (gt arr (base+i)) with
  |false=>rfl
  |true=>
   rcases O.ntr _ (gt arr (base+j)) _ hK uj ui q with z|z
   ·rw[z] at h;cases h
   ·rw[h0] at z;cases z
theorem sJ(O:Ord U blt)(hL:U9 prog w A E s kd U blt){left:aq}{key:ay}{arr:aw ay}{base n hint:af}{st:cn}{Q:ax af->cn->Prop}(hk:kindOf st=kd)(hn:base+n<=arr.size)(hU:o6 U arr)(hK:U key)
 (hs:Srt blt arr base (base+n))(hh:hint<n)
 (h:∀k,k<=n->(∀i,i<k->gp blt left key arr base i=ae)->(∀i,k<=i->i<n->gp blt left key arr base i=ag)->Q (ab k) st):de (av prog w) A E s (YJ left key arr base n hint) Q st:=
 U8 (gp blt left key arr base) (λi R hi r=>U_ hL hk 0x1 hU hK r) (aFf O hn hU hK hs) hh h
end
section
variable (blt:ay->ay->aq)
noncomputable abbrev le(x y:ay):aq:=!blt y x
def mrg(xs ys:aa ay):aa ay:=xs.merge ys (le blt)
variable {blt}
theorem mO{a:aw ay}{i:af}(h:i<a.size):a.toList.drop i=gt a i::a.toList.drop (i+1):=by
 rw[jI (by simpa using h)]
 congr 1
 unfold gt;simp[jh,h]
theorem zL{a:aw ay}{i:af}(h:a.size<=i):a.toList.drop i=[]:=List.drop_of_length_le (by simpa using h)
theorem mQ(xs:aa ay):mrg blt xs []=xs:=List.merge_right xs
theorem oJ(ys:aa ay):mrg blt [] ys=ys:=List.nil_merge ys
theorem gW(x y:ay)(xs ys:aa ay):mrg blt (x::xs) (y::ys)=if blt y x then y::mrg blt (x::xs) ys else x::mrg blt xs (y::ys):=by
 unfold mrg;rw[List.cons_merge_cons];cases h:blt y x<;>simp[le,h]
def J(blt:ay->ay->aq)(a b:aw ay)(out:aw ay)(ia ib:af):Prop:=
 out.toList++mrg blt (a.toList.drop ia) (b.toList.drop ib)=mrg blt a.toList b.toList
variable {a b out:aw ay} {ia ib:af}
theorem J.pb(h:J blt a b out ia ib)(ha:ia<a.size)(hb:ib<b.size)(q:blt (gt b ib) (gt a ia)=ae):J blt a b (out.push (gt b ib)) ia (ib+1):=by
 unfold J at h ⊢;rw[<-h,mO ha,mO hb,gW,au q,<-mO ha];simp
theorem J.pa(h:J blt a b out ia ib)(ha:ia<a.size)(hb:ib<b.size)(q:blt (gt b ib) (gt a ia)=ag):J blt a b (out.push (gt a ia)) (ia+1) ib:=by
 unfold J at h ⊢;rw[<-h,mO ha,mO hb,gW,az (by simp[q]),<-mO hb];simp
theorem RD{a:aw ay}{i k:af}(h:i+k<a.size)(out:aw ay):out++a.extract i (i+(k+1))=(out++a.extract i (i+k)).push (gt a (i+k)):=by
 apply om.mp;simp only[gl,oq,ot,mE];rw[show i+(k+1)-i=k+1 by lia,show i+k-i=k by lia,tx,eP]
 congr 2
 rw[ou];have:a.toList[i+k]?=ab (gt a (i+k)):=by rw[iO];exact mL h
 rw[this];rfl
theorem RG(a:aw ay)(i:af)(out:aw ay):out++a.extract i (i+0)=out:=by
 apply om.mp;simp
theorem J.ga(h:J blt a b out ia ib)(hb:ib<b.size):∀k,ia+k<=a.size->(∀i,i<k->blt (gt b ib) (gt a (ia+i))=ag)->J blt a b (out++a.extract ia (ia+k)) (ia+k) ib
 |0,_,_=>by rw[RG];exact h
 |k+1,hk,q=>by
  have ih:=J.ga h hb k 0x1 λi hi=>q i 0x1
  rw[RD 0x1];exact J.pa ih 0x1 hb (q k 0x1)
theorem J.gb(h:J blt a b out ia ib)(ha:ia<a.size):∀k,ib+k<=b.size->(∀i,i<k->blt (gt b (ib+i)) (gt a ia)=ae)->J blt a b (out++b.extract ib (ib+k)) ia (ib+k)
 |0,_,_=>by rw[RG];exact h
 |k+1,hk,q=>by
  have ih:=J.gb h ha k 0x1 λi hi=>q i 0x1
  rw[RD 0x1];exact J.pb ih ha 0x1 (q k 0x1)
theorem nM(a:aw ay)(i:af):(a.extract i a.size).toList=a.toList.drop i:=by
 simp[oq,ot,AV]
theorem J.VB(h:J blt a b out ia ib)(hb:ib=b.size):(out++a.extract ia a.size++b.extract ib b.size).toList=mrg blt a.toList b.toList:=by
 rw[<-h,gl,gl,nM,nM,zL (nV hb.symm),mQ];simp
theorem J.VD(h:J blt a b out ia ib)(ha:ia=a.size):(out++a.extract ia a.size++b.extract ib b.size).toList=mrg blt a.toList b.toList:=by
 rw[<-h,gl,gl,nM,nM,zL (nV ha.symm),oJ];simp
theorem zM(x:ay):∀ys:aa ay,(∀y∈ys,blt y x=ae)->mrg blt [x] ys=ys++[x]
 |[],_=>mQ _
 |y::ys,h=>by
  rw[gW,au (h y (b6 ..)),zM x ys λz hz=>h z (cg _ hz)];rfl
theorem aDu{a:aw ay}{x:ay}(h:x∈a.toList):∃i,i<a.size/\x=gt a i:=by
 obtain⟨i,hi,e⟩:=ow h;refine⟨i,by simpa using hi,?_⟩;unfold gt;rw[<-e];have hi':i<a.size:=by simpa using hi
 simp[jh,hi']
theorem J.last(h:J blt a b out ia ib)(ha:ia+1=a.size)(q:∀i,i<b.size->blt (gt b i) (gt a ia)=ae):(out++b.extract ib b.size++a.extract ia a.size).toList=mrg blt a.toList b.toList:=by
 rw[<-h,gl,gl,nM,nM,mO (by lia:ia<a.size),zL (a:=a) (i:=ia+1) 0x1,zM,eP];intro y hy;obtain⟨i,hi,e⟩:=aDu (List.mem_of_mem_drop hy);rw[e];exact q i hi
end
structure Sim(st st':cn):Prop where
 kd:kindOf st'=kindOf st
 ar:am st'=am st
 pd:bo st'=bo st
 fl:gj st'=gj st
section
variable {σ α:Type} {M:km} {A:bu} {E:ah->al->Prop} {s:al} {st:σ} {Q:α->σ->Prop}
theorem uZ{m:kG σ dt α}(h:∀Q':α->σ->Prop,(∀c s',Q c s'->Q' c s')->de M A E s m Q' st):de M A E s m Q st:=h Q λ_ _ x=>x
variable {p q:kG σ dt α}
theorem e_{c:Prop}[tF c](h1:c->de M A E s p Q st)(h2:¬c->de M A E s q Q st):de M A E s (if c then p else q) Q st:=if h:c then (au h).symm▸h1 h else (az h).symm▸h2 h
theorem d9{x y:af}(h1:x=y->de M A E s p Q st)(h2:x≠y->de M A E s q Q st):de M A E s (if (x==y)=ae then p else q) Q st:=e_ (λh=>h1 (eq_of_beq h)) λh=>h2 λe=>h (iq.mpr e)
end
section
variable {prog:bp} {w:bh} {A:bu} {E:ah->al->Prop} {s:al} {kd:ie} {U:ay->Prop} {blt:ay->ay->aq}
theorem NK(O:Ord U blt)(hL:U9 prog w A E s kd U blt){a b:aw ay}{st:cn}{Q:aw ay->cn->Prop}(hk:kindOf st=kd)(hUa:o6 U a)(hUb:o6 U b)(hsa:Srt blt a 0 a.size)(hsb:Srt blt b 0 b.size)
 (ha:0<a.size)(hb:0<b.size)(hf:blt (gt b 0) (gt a 0)=ae)(hl:∀i,i<b.size->blt (gt b i) (gt a (a.size-1))=ae)
 (h:∀r st',Sim st st'->r.toList=mrg blt a.toList b.toList->Q r st'):de (av prog w) A E s (aC1 a b) Q st:=by
 have lastAt:∀{j:af},j+1=a.size->∀i,i<b.size->blt (gt b i) (gt a j)=ae:=λ{j} hj i hi=>by
  have:=hl i hi;rwa [show a.size-1=j by lia] at this
 with_unfolding_all refine aE (kH (ig ⟨rfl,?_⟩))
 refine aE (b8 hb ?_);have J0:J blt a b #[gt b 0] 0 1:=J.pb (out:=#[]) (by unfold J;simp) ha hb hf;have sim0:Sim st st:=⟨rfl,rfl,rfl,rfl⟩
 refine d9 (λe=>bf (h _ _ sim0 (J0.VB e))) λe1=>d9 (λe=>bf (h _ _ sim0 (J0.last e (lastAt e)))) λe2=>aE (iv (aE (d6 (ef
  (I:=λx c st'=>Sim st st'/\∃out ia ib mg,c=(aj,out,ia,ib,mg)/\J blt a b out ia ib/\ia+1<a.size/\ib<b.size/\x<=ia+ib)
  (Q:=λc st'=>Sim st st'/\∃r,c.1=ab r/\r.toList=mrg blt a.toList b.toList) ?step ?fin ?init) ?post)))
 case init=>exact⟨sim0,_,_,_,_,rfl,J0,by lia,by lia,by lia⟩
 case fin=>
  rintro c st' ⟨_,out,ia,ib,mg,rfl,_,h1,h2,h3⟩;lia
 case post=>
  rintro⟨c1,c2⟩ st' ⟨sim,r,rfl,hr⟩;exact bf (h r st' sim hr)
 case step=>
  rintro x₀ c st1 _ hx0 ⟨sim,out,ia,ib,mg,rfl,j1,h1,h2,h3⟩;refine aE (d6 (ef
   (I:=λx c st'=>Sim st st'/\∃out ia ib ac bc,c=(aj,out,ia,ib,ac,bc)/\J blt a b out ia ib/\ia+1<a.size/\ib<b.size/\x₀<=ia+ib/\x<=ia+ib)
   (Q:=λc st'=>Sim st st'/\((∃r,c.1=ab r/\r.toList=mrg blt a.toList b.toList)\/∃out ia ib ac bc,c=(aj,out,ia,ib,ac,bc)/\J blt a b out ia ib/\ia+1<a.size/\ib<b.size/\x₀+1<=ia+ib)) ?step2 ?fin2 ?init2) ?post2)
  case init2=>exact⟨sim,out,ia,ib,_,_,rfl,j1,h1,h2,h3,by lia⟩
  case fin2=>
   rintro c st' ⟨_,out,ia,ib,ac,bc,rfl,_,h1,h2,_,h3⟩;lia
  case step2=>
   rintro x c st2 _ hx ⟨sim,out,ia,ib,ac,bc,rfl,j2,h1,h2,h3,h4⟩;refine uZ λQ hQ=>?_
   have hd:∀r d,r.toList=mrg blt a.toList b.toList->Q (.done (ab r,d)) st2:=λr d e=>hQ _ _ ⟨sim,.inl ⟨r,rfl,e⟩⟩
   have hb':∀out ia ib ac bc,J blt a b out ia ib->ia+1<a.size/\ib<b.size/\x₀+1<=ia+ib->Q (.done (aj,out,ia,ib,ac,bc)) st2:=λ_ _ _ _ _ j q=>hQ _ _ ⟨sim,.inr ⟨_,_,_,_,_,rfl,j,q⟩⟩
   have hy:∀out ia ib ac bc,J blt a b out ia ib->ia+1<a.size/\ib<b.size/\x₀<=ia+ib/\x+1<=ia+ib->Q (.yield (aj,out,ia,ib,ac,bc)) st2:=λ_ _ _ _ _ j q=>hQ _ _ ⟨sim,_,_,_,_,_,rfl,j,q⟩
   clear hQ;dsimp only;refine aE (b8 h2 (aE (b8 (i:=ia) 0x1 (aE (hL _ _ _ _ (hUb _ h2) (hUa _ 0x1) (sim.1.trans hk) ?_)))));refine e_ (λq=>aE (b8 h2 ?_)) λq=>aE (b8 (i:=ia) 0x1 ?_)
   ·have j3:=J.pb j2 0x1 h2 q;exact d9 (λe=>bf (hd _ _ (j3.VB e))) λe=>e_ (λ_=>bf (hb' _ _ _ _ _ j3 0x1)) λ_=>bf (hy _ _ _ _ _ j3 0x1)
   ·have j3:=J.pa j2 0x1 h2 (AW q);exact d9 (λe=>bf (hd _ _ (j3.last e (lastAt e)))) λe=>e_ (λ_=>bf (hb' _ _ _ _ _ j3 0x1)) λ_=>bf (hy _ _ _ _ _ j3 0x1)
  case post2=>
   rintro⟨c1,c2⟩ st2 ⟨sim,⟨r,e,hr⟩|⟨out,ia,ib,ac,bc,e,j2,h1,h2,h3⟩⟩
   ·subst e;exact bf ⟨sim,r,rfl,hr⟩
   ·cases e;refine aE (kH (ig ⟨rfl,aE (d6 (ef
     (I:=λx c st'=>Sim st st'/\∃out ia ib mg ac bc,c=(aj,out,ia,ib,mg,ac,bc)/\J blt a b out ia ib/\ia+1<a.size/\ib<b.size/\x₀+1<=ia+ib/\x<=ia+ib)
     (Q:=λc st'=>Sim st st'/\((∃r,c.1=ab r/\r.toList=mrg blt a.toList b.toList)\/∃out ia ib mg ac bc,c=(aj,out,ia,ib,mg,ac,bc)/\J blt a b out ia ib/\ia+1<a.size/\ib<b.size/\x₀+1<=ia+ib)) ?step3 ?fin3 ?init3) ?post3)⟩))
    case init3=>exact⟨sim,out,ia,ib,_,_,_,rfl,j2,h1,h2,h3,by lia⟩
    case fin3=>
     rintro c st' ⟨_,out,ia,ib,mg,ac,bc,rfl,_,h1,h2,_,h3⟩;lia
    case post3=>
     rintro⟨c1,c2⟩ st3 ⟨sim,⟨r,e,hr⟩|⟨out,ia,ib,mg,ac,bc,e,j3,h1,h2,h3⟩⟩
     ·subst e;exact bf ⟨sim,r,rfl,hr⟩
     ·cases e;refine aE (nJ (bf ⟨⟨sim.1,sim.2,sim.3,sim.4⟩,_,_,_,_,rfl,j3,h1,h2,by lia⟩))
    case step3=>
     rintro x c st3 _ hx ⟨sim,out,ia,ib,mg,ac,bc,rfl,j3,h1,h2,h3,h4⟩;refine uZ λQ hQ=>?_
     have hd:∀r d st',Sim st st'->r.toList=mrg blt a.toList b.toList->Q (.done (ab r,d)) st':=λr d st' m e=>hQ _ _ ⟨m,.inl ⟨r,rfl,e⟩⟩
     have hb':∀out ia ib mg ac bc st',Sim st st'->J blt a b out ia ib->ia+1<a.size/\ib<b.size/\x₀+1<=ia+ib->Q (.done (aj,out,ia,ib,mg,ac,bc)) st':=λ_ _ _ _ _ _ _ m j q=>hQ _ _ ⟨m,.inr ⟨_,_,_,_,_,_,rfl,j,q⟩⟩
     have hy:∀out ia ib mg ac bc st',Sim st st'->J blt a b out ia ib->ia+1<a.size/\ib<b.size/\x₀+1<=ia+ib/\x+1<=ia+ib->Q (.yield (aj,out,ia,ib,mg,ac,bc)) st':=λ_ _ _ _ _ _ _ m j q=>hQ _ _ ⟨m,_,_,_,_,_,_,rfl,j,q⟩
     clear hQ
     extract_lets -underBinder s0 o1 s1 a1 s2 b1 s3 m1 s4 c1 d1 jp m2
     have K1:∀m,de (av prog w) A E s (jp () m) Q st3:=λm=>by
      dsimp -zeta only [jp,s0,o1,s1,a1,s2,b1,s3,m1,s4,c1,d1];refine aE (nJ ?_);have sim':Sim st (oj (kindOf st3) (am st3) (bo st3) m (gj st3)):=⟨sim.1,sim.2,sim.3,sim.4⟩
      generalize oj (kindOf st3) (am st3) (bo st3) m (gj st3)=st4 at sim' ⊢;have hk':=sim'.1.trans hk;refine aE (b8 0x1 (aE (sJ O hL hk' 0x1 hUa (hUb _ 0x1) (λi j i1 i2 i3=>hsa i j 0x1 i2 0x1) 0x1 λk hk1 y1 y2=>?_)));dsimp -zeta only
      extract_lets -underBinder n1 jp2 n2 n3
      have K2:∀out ia,J blt a b out ia ib->ia+1<a.size->x₀+1<=ia+ib->x<=ia+ib->blt (gt b ib) (gt a ia)=ae->de (av prog w) A E s (jp2 () out ia) Q st4:=λout ia j1 h1 h3 h4 hz=>by
       dsimp -zeta only [jp2];refine aE (b8 h2 ?_);have j2:=J.pb j1 0x1 h2 hz;refine d9 (λe=>bf (hd _ _ _ sim' (j2.VB e))) λe=>aE (b8 0x1 (aE (sJ O hL hk' 0x1 hUb (hUa _ 0x1) (λi j i1 i2 i3=>hsb i j 0x1 i2 0x1) 0x1 λk1 hk1 y1 y2=>?_)))
       dsimp -zeta only
       extract_lets -underBinder n1 jp3 n2 n3
       have K3:∀out ib',J blt a b out ia ib'->ib'<b.size->ib<=ib'->blt (gt b ib') (gt a ia)=ag->de (av prog w) A E s (jp3 () out ib') Q st4:=λout ib' j3 h2 h5 hz=>by
        dsimp -zeta only [jp3];refine aE (b8 0x1 ?_);have j4:=J.pa j3 0x1 h2 hz;refine d9 (λe=>bf (hd _ _ _ sim' (j4.last e (lastAt e)))) λe=>e_ (λ_=>bf (hb' _ _ _ _ _ _ _ sim' j4 0x1)) λ_=>bf (hy _ _ _ _ _ _ _ sim' j4 0x1)
       refine e_ (λkp=>d9 (λe3=>bf (hd _ _ _ sim' ((J.gb j2 0x1 k1 0x1 λi hi=>by have:=y1 i hi;simpa[gp] using this).VB e3))) λe3=>K3 _ _ (J.gb j2 0x1 k1 0x1 λi hi=>by have:=y1 i hi;simpa[gp] using this) 0x1 0x1 (by have:=y2 k1 (ba _) 0x1;simpa[gp] using this)) λkp=>K3 _ _ j2 0x1 0x1 (by have:=y2 0 0x1 0x1;simpa[gp] using this)
      have j5:∀i,i<k->blt (gt b ib) (gt a (ia+i))=ag:=λi hi=>by have:=y1 i hi;simpa[gp] using this
      refine e_ (λkp=>?_) λkp=>K2 _ _ j3 h1 h3 h4 (by have:=y2 0 0x1 0x1;simpa[gp] using this)
      have j1:=J.ga j3 h2 k 0x1 j5;refine d9 (λe=>bf (hd _ _ _ sim' (j1.last e (lastAt e)))) λe=>d9 (λe=>bf (hd _ _ _ sim' (j1.VD e))) λe'=>K2 _ _ j1 0x1 0x1 0x1 (by have:=y2 k (ba _) 0x1;simpa[gp] using this)
     exact e_ (λ_=>K1 _) λ_=>K1 _
end
section
variable {blt:ay->ay->aq}
theorem NP{a:aw ay}{n:af}(h:n<a.size):a.toList.take (n+1)=a.toList.take n++[gt a n]:=by
 rw[tx];have:a.toList[n]?=ab (gt a n):=by rw[iO];exact mL h
 rw[this];rfl
theorem vW{a:aw ay}{n:af}{z:ay}(h:z∈a.toList.take n):∃i,i<n/\i<a.size/\z=gt a i:= by
  obtain⟨i,hi,e⟩:= ow h;rw[kx] at hi;have h2:i<a.size:= by simpa using (show i<a.toList.length by lia)
  refine⟨i,by lia,h2,?_⟩;rw[<-e,List.getElem_take];unfold gt;simp[jh,h2]
theorem vX(x:ay):∀(xs zs:aa ay),(∀z∈zs,blt z x=ae)->mrg blt (xs++[x]) zs=mrg blt xs zs++[x]
 |[],zs,h=>by rw[dP,zM x zs h,oJ]
 |x0::xs,[],_=>by rw[mQ,mQ]
 |x0::xs,z::zs,h=>by
  rw[eg,gW,gW];by_cases q:blt z x0=ae
  ·rw[au q,au q,<-eg,vX x (x0::xs) zs λy hy=>h y (cg _ hy)];rfl
  ·rw[az q,az q,vX x xs (z::zs) h];rfl
 termination_by xs zs=>xs.length+zs.length
theorem HW(y:ay):∀zs:aa ay,(∀z∈zs,blt y z=ag)->mrg blt zs [y]=zs++[y]
 |[],_=>oJ _
 |z::zs,h=>by
  rw[gW,az (by simp[h z (b6 ..)]),HW y zs λu hu=>h u (cg _ hu)];rfl
theorem vY(y:ay):∀(zs ys:aa ay),(∀z∈zs,blt y z=ag)->mrg blt zs (ys++[y])=mrg blt zs ys++[y]
 |zs,[],h=>by rw[dP,HW y zs h,mQ]
 |[],y0::ys,_=>by rw[oJ,oJ]
 |z::zs,y0::ys,h=>by
  rw[eg,gW,gW];by_cases q:blt y0 z=ae
  ·rw[au q,au q,vY y (z::zs) ys h];rfl
  ·rw[az q,az q,<-eg,vY y zs (y0::ys) λu hu=>h u (cg _ hu)];rfl
 termination_by zs ys=>zs.length+ys.length
def JH(blt:ay->ay->aq)(a b:aw ay)(out:aw ay)(na nb:af):Prop:=
 mrg blt (a.toList.take na) (b.toList.take nb)++out.toList.reverse=mrg blt a.toList b.toList
variable {a b out:aw ay} {na nb:af}
theorem JH.pa(h:JH blt a b out na nb)(ha:0<na)(h1:na<=a.size)(h2:nb<=b.size)(q:∀i,i<nb->blt (gt b i) (gt a (na-1))=ae):JH blt a b (out.push (gt a (na-1))) (na-1) nb:=by
 unfold JH at h ⊢;obtain⟨n,rfl⟩:∃n,na=n+1:=⟨na-1,by lia⟩
 rw[NP 0x1,vX _ _ _ (λz hz=>by obtain⟨i,i1,i2,rfl⟩:=vW hz;exact q i i1)] at h;rw[<-h];simp
theorem JH.pb(h:JH blt a b out na nb)(hb:0<nb)(h1:na<=a.size)(h2:nb<=b.size)(q:∀i,i<na->blt (gt b (nb-1)) (gt a i)=ag):JH blt a b (out.push (gt b (nb-1))) na (nb-1):=by
 unfold JH at h ⊢;obtain⟨n,rfl⟩:∃n,nb=n+1:=⟨nb-1,by lia⟩
 rw[NP 0x1,vY _ _ _ (λz hz=>by obtain⟨i,i1,i2,rfl⟩:=vW hz;exact q i i1)] at h;rw[<-h];simp
theorem YK{a:aw ay}{i n:af}(h:i<n)(hn:n<=a.size)(out:aw ay):out++(a.extract i n).reverse=(out.push (gt a (n-1)))++(a.extract i (n-1)).reverse:=by
 apply om.mp;simp only[gl,tI,oq,ot,mE];obtain⟨m,rfl⟩:∃m,n=m+1:=⟨n-1,by lia⟩
 rw[show m+1-i=(m-i)+1 by lia,tx,ou,show i+(m-i)=m by lia];have:a.toList[m]?=ab (gt a m):=by rw[iO];exact mL 0x1
 rw[this];simp
theorem u5{a:aw ay}{i:af}(out:aw ay):out++(a.extract i i).reverse=out:=by
 apply om.mp;simp
theorem JH.ga:∀{na:af}{out:aw ay},JH blt a b out na nb->na<=a.size->nb<=b.size->∀at_,at_<=na->(∀i,at_<=i->i<na->∀z,z<nb->blt (gt b z) (gt a i)=ae)->JH blt a b (out++(a.extract at_ na).reverse) at_ nb
 |0,out,h,_,_,at_,h0,_=>by
  obtain rfl:at_=0:=by lia
  rw[u5];exact h
 |n+1,out,h,h1,h2,at_,h0,q=>by
  by_cases e:at_=n+1
  ·subst e;rw[u5];exact h
  ·rw[YK 0x1 h1];exact JH.ga (na:=n) (JH.pa h 0x1 h1 h2 (q n 0x1 0x1)) 0x1 h2 at_ 0x1 λi i1 i2=>q i i1 0x1
theorem JH.gb:∀{nb:af}{out:aw ay},JH blt a b out na nb->na<=a.size->nb<=b.size->∀at_,at_<=nb->(∀i,at_<=i->i<nb->∀z,z<na->blt (gt b i) (gt a z)=ag)->JH blt a b (out++(b.extract at_ nb).reverse) na at_
 |0,out,h,_,_,at_,h0,_=>by
  obtain rfl:at_=0:=by lia
  rw[u5];exact h
 |n+1,out,h,h1,h2,at_,h0,q=>by
  by_cases e:at_=n+1
  ·subst e;rw[u5];exact h
  ·rw[YK 0x1 h2];exact JH.gb (nb:=n) (JH.pb h 0x1 h1 h2 (q n 0x1 0x1)) h1 0x1 at_ 0x1 λi i1 i2=>q i i1 0x1
theorem nP(a:aw ay)(n:af):(a.extract 0 n).toList=a.toList.take n:=by
 simp[oq,ot]
theorem JH.VD(h:JH blt a b out na nb)(e:na=0):(a.extract 0 na++b.extract 0 nb++out.reverse).toList=mrg blt a.toList b.toList:=by
 subst e;rw[<-h,gl,gl,nP,nP,tI,AX,oJ];rfl
theorem JH.VB(h:JH blt a b out na nb)(e:nb=0):(a.extract 0 na++b.extract 0 nb++out.reverse).toList=mrg blt a.toList b.toList:=by
 subst e;rw[<-h,gl,gl,nP,nP,tI,AX,mQ,gL]
theorem JH.first(h:JH blt a b out na nb)(e:nb=1)(ha:0<a.size)(hb:0<b.size)(hf:blt (gt b 0) (gt a 0)=ae)(hn:0<na):(b.extract 0 nb++a.extract 0 na++out.reverse).toList=mrg blt a.toList b.toList:=by
 subst e;rw[<-h,gl,gl,nP,nP,tI];have e1:b.toList.take 1=[gt b 0]:=by rw[NP (a:=b) (n:=0) hb];rfl
 obtain⟨m,rfl⟩:∃m,na=m+1:=⟨na-1,by lia⟩
 have e2:a.toList.take (m+1)=gt a 0::(a.toList.drop 1).take m:=by
  have:=mO (a:=a) (i:=0) ha;rw[List.drop_zero] at this;rw[this];rfl
 rw[e1,e2,gW,au hf,mQ];rfl
variable {U:ay->Prop}
theorem leA(O:Ord U blt)(hUa:o6 U a)(hUb:o6 U b)(hsa:Srt blt a 0 a.size){n i z:af}(hn:n<=a.size)(hi:i<b.size)(hz:z<n)(q:blt (gt b i) (gt a (n-1))=ag):blt (gt b i) (gt a z)=ag:=by
 cases e:blt (gt b i) (gt a z) with
 |false=>rfl
 |true=>
  rcases O.ntr _ (gt a (n-1)) _ (hUb i hi) (hUa _ 0x1) (hUa z 0x1) e with p|p
  ·rw[q] at p;cases p
  ·rw[hsa z (n-1) 0x1 0x1 0x1] at p;cases p
theorem aNs(O:Ord U blt)(hUa:o6 U a)(hUb:o6 U b)(hsb:Srt blt b 0 b.size){n i z:af}(hn:n<=b.size)(hi:i<a.size)(hz:z<n)(q:blt (gt b (n-1)) (gt a i)=ae):blt (gt b z) (gt a i)=ae:=by
 rcases O.ntr _ (gt b z) _ (hUb (n-1) 0x1) (hUb z 0x1) (hUa i hi) q with p|p
 ·rw[hsb z (n-1) 0x1 0x1 0x1] at p;cases p
 ·exact p
end
section
variable {prog:bp} {w:bh} {A:bu} {E:ah->al->Prop} {s:al} {kd:ie} {U:ay->Prop} {blt:ay->ay->aq}
theorem NQ(O:Ord U blt)(hL:U9 prog w A E s kd U blt){a b:aw ay}{st:cn}{Q:aw ay->cn->Prop}(hk:kindOf st=kd)(hUa:o6 U a)(hUb:o6 U b)(hsa:Srt blt a 0 a.size)(hsb:Srt blt b 0 b.size)
 (ha:0<a.size)(hb:0<b.size)(hf:blt (gt b 0) (gt a 0)=ae)(hl:∀i,i<b.size->blt (gt b i) (gt a (a.size-1))=ae)
 (h:∀r st',Sim st st'->r.toList=mrg blt a.toList b.toList->Q r st'):de (av prog w) A E s (aC2 a b) Q st:=by
 with_unfolding_all refine aE (kH (ig ⟨rfl,?_⟩))
 refine aE (b8 0x1 ?_);have J0:JH blt a b #[gt a (a.size-1)] (a.size-1) b.size:=JH.pa (out:=#[]) (na:=a.size) (by unfold JH;simp[AV]) ha (ba _) (ba _) hl;have sim0:Sim st st:=⟨rfl,rfl,rfl,rfl⟩
 refine d9 (λe=>bf (h _ _ sim0 (J0.VD e))) λe1=>d9 (λe=>bf (h _ _ sim0 (J0.first e ha hb hf 0x1))) λe2=>aE (iv (aE (d6 (ef
  (I:=λx c st'=>Sim st st'/\∃out na nb mg,c=(aj,na,nb,out,mg)/\JH blt a b out na nb/\0<na/\1<nb/\na<a.size/\nb<=b.size/\x+na+nb<=a.size+b.size)
  (Q:=λc st'=>Sim st st'/\∃r,c.1=ab r/\r.toList=mrg blt a.toList b.toList) ?step ?fin ?init) ?post)))
 case init=>exact⟨sim0,_,_,_,_,rfl,J0,by lia,by lia,by lia,by lia,by lia⟩
 case fin=>
  rintro c st' ⟨_,out,na,nb,mg,rfl,_,h1,h2,h3,h4,h5⟩;lia
 case post=>
  rintro⟨c1,c2⟩ st' ⟨sim,r,rfl,hr⟩;exact bf (h r st' sim hr)
 case step=>
  rintro x₀ c st1 _ hx0 ⟨sim,out,na,nb,mg,rfl,j1,h1,h2,h3,h4,h5⟩;dsimp -zeta only;refine aE (d6 (ef
   (I:=λx c st'=>Sim st st'/\∃out na nb ac bc,c=(aj,na,nb,out,ac,bc)/\JH blt a b out na nb/\0<na/\1<nb/\na<a.size/\nb<=b.size/\x₀+na+nb<=a.size+b.size/\x+na+nb<=a.size+b.size)
   (Q:=λc st'=>Sim st st'/\((∃r,c.1=ab r/\r.toList=mrg blt a.toList b.toList)\/∃out na nb ac bc,c=(aj,na,nb,out,ac,bc)/\JH blt a b out na nb/\0<na/\1<nb/\na<a.size/\nb<=b.size/\x₀+1+na+nb<=a.size+b.size)) ?step2 ?fin2 ?init2) ?post2)
  case init2=>exact⟨sim,out,na,nb,_,_,rfl,j1,h1,h2,h3,h4,h5,by lia⟩
  case fin2=>
   rintro c st' ⟨_,out,na,nb,ac,bc,rfl,_,h1,h2,h3,h4,_,h5⟩;lia
  case step2=>
   rintro x c st2 _ hx ⟨sim,out,na,nb,ac,bc,rfl,j2,h1,h2,h3,h4,h5,h6⟩;refine uZ λQ hQ=>?_
   have hd:∀r d,r.toList=mrg blt a.toList b.toList->Q (.done (ab r,d)) st2:=λr d e=>hQ _ _ ⟨sim,.inl ⟨r,rfl,e⟩⟩
   have hb':∀out na nb ac bc,JH blt a b out na nb->0<na/\1<nb/\na<a.size/\nb<=b.size/\x₀+1+na+nb<=a.size+b.size->Q (.done (aj,na,nb,out,ac,bc)) st2:=λ_ _ _ _ _ j q=>hQ _ _ ⟨sim,.inr ⟨_,_,_,_,_,rfl,j,q⟩⟩
   have hy:∀out na nb ac bc,JH blt a b out na nb->0<na/\1<nb/\na<a.size/\nb<=b.size/\x₀+na+nb<=a.size+b.size/\x+1+na+nb<=a.size+b.size->Q (.yield (aj,na,nb,out,ac,bc)) st2:=λ_ _ _ _ _ j q=>hQ _ _ ⟨sim,_,_,_,_,_,rfl,j,q⟩
   clear hQ;dsimp only;refine aE (b8 (i:=nb-1) 0x1 (aE (b8 (i:=na-1) 0x1 (aE (hL _ _ _ _ (hUb _ 0x1) (hUa _ 0x1) (sim.1.trans hk) ?_)))));refine e_ (λq=>aE (b8 (i:=na-1) 0x1 ?_)) λq=>aE (b8 (i:=nb-1) 0x1 ?_)
   ·have j3:=JH.pa j2 0x1 0x1 h4 (λi hi=>aNs O hUa hUb hsb h4 0x1 hi q);exact d9 (λe=>bf (hd _ _ (j3.VD e))) λe=>e_ (λ_=>bf (hb' _ _ _ _ _ j3 0x1)) λ_=>bf (hy _ _ _ _ _ j3 0x1)
   ·have j3:=JH.pb j2 0x1 0x1 h4 (λi hi=>leA O hUa hUb hsa 0x1 0x1 hi (AW q));exact d9 (λe=>bf (hd _ _ (j3.first e ha hb hf 0x1))) λe=>e_ (λ_=>bf (hb' _ _ _ _ _ j3 0x1)) λ_=>bf (hy _ _ _ _ _ j3 0x1)
  case post2=>
   rintro⟨c1,c2⟩ st2 ⟨sim,⟨r,rfl,hr⟩|⟨out,na,nb,ac,bc,e,j2,h1,h2,h3,h4,h5⟩⟩
   ·exact bf ⟨sim,r,rfl,hr⟩
   ·cases e;dsimp -zeta only;refine aE (kH (ig ⟨rfl,aE (d6 (ef
     (I:=λx c st'=>Sim st st'/\∃out na nb mg ac bc,c=(aj,na,nb,out,mg,ac,bc)/\JH blt a b out na nb/\0<na/\1<nb/\na<a.size/\nb<=b.size/\x₀+1+na+nb<=a.size+b.size/\x+na+nb<=a.size+b.size)
     (Q:=λc st'=>Sim st st'/\((∃r,c.1=ab r/\r.toList=mrg blt a.toList b.toList)\/∃out na nb mg ac bc,c=(aj,na,nb,out,mg,ac,bc)/\JH blt a b out na nb/\0<na/\1<nb/\na<a.size/\nb<=b.size/\x₀+1+na+nb<=a.size+b.size)) ?step3 ?fin3 ?init3) ?post3)⟩))
    case init3=>exact⟨sim,out,na,nb,_,_,_,rfl,j2,h1,h2,h3,h4,h5,by lia⟩
    case fin3=>
     rintro c st' ⟨_,out,na,nb,mg,ac,bc,rfl,_,h1,h2,h3,h4,_,h5⟩;lia
    case post3=>
     rintro⟨c1,c2⟩ st3 ⟨sim,⟨r,rfl,hr⟩|⟨out,na,nb,mg,ac,bc,e,j3,h1,h2,h3,h4,h5⟩⟩
     ·exact bf ⟨sim,r,rfl,hr⟩
     ·cases e;exact aE (nJ (bf ⟨⟨sim.1,sim.2,sim.3,sim.4⟩,_,_,_,_,rfl,j3,h1,h2,h3,h4,by lia⟩))
    case step3=>
     rintro x c st3 _ hx ⟨sim,out,na,nb,mg,ac,bc,rfl,j3,h1,h2,h3,h4,h5,h6⟩;refine uZ λQ hQ=>?_
     have hd:∀r d st',Sim st st'->r.toList=mrg blt a.toList b.toList->Q (.done (ab r,d)) st':=λr d _ m e=>hQ _ _ ⟨m,.inl ⟨r,rfl,e⟩⟩
     have hb':∀out na nb mg ac bc st',Sim st st'->JH blt a b out na nb->0<na/\1<nb/\na<a.size/\nb<=b.size/\x₀+1+na+nb<=a.size+b.size->Q (.done (aj,na,nb,out,mg,ac,bc)) st':=λ_ _ _ _ _ _ _ m j q=>hQ _ _ ⟨m,.inr ⟨_,_,_,_,_,_,rfl,j,q⟩⟩
     have hy:∀out na nb mg ac bc st',Sim st st'->JH blt a b out na nb->0<na/\1<nb/\na<a.size/\nb<=b.size/\x₀+1+na+nb<=a.size+b.size/\x+1+na+nb<=a.size+b.size->Q (.yield (aj,na,nb,out,mg,ac,bc)) st':=λ_ _ _ _ _ _ _ m j q=>hQ _ _ ⟨m,_,_,_,_,_,_,rfl,j,q⟩
     clear hQ
     extract_lets -underBinder s0 o1 s1 a1 s2 b1 s3 m1 s4 c1 d1 jp m2
     have K1:∀m,de (av prog w) A E s (jp () m) Q st3:=λm=>by
      dsimp -zeta only [jp,s0,o1,s1,a1,s2,b1,s3,m1,s4,c1,d1];refine aE (nJ ?_);have sim':Sim st (oj (kindOf st3) (am st3) (bo st3) m (gj st3)):=⟨sim.1,sim.2,sim.3,sim.4⟩
      generalize oj (kindOf st3) (am st3) (bo st3) m (gj st3)=st4 at sim' ⊢;have hk':=sim'.1.trans hk;refine aE (b8 0x1 (aE (sJ O hL hk' 0x1 hUa (hUb _ 0x1) (λi j i1 i2 i3=>hsa i j 0x1 i2 0x1) 0x1 λat_ hk1 y1 y2=>?_)));dsimp -zeta only;have y1':∀i,i<at_->blt (gt b (nb-1)) (gt a i)=ag:=λi hi=>by have:=y1 i hi;simpa[gp] using this
      have y2':∀i,at_<=i->i<na->blt (gt b (nb-1)) (gt a i)=ae:=λi i1 i2=>by have:=y2 i i1 i2;simpa[gp] using this
      clear y1 y2
      extract_lets -underBinder n1 n2 jp2 n3
      have K2:∀na out,JH blt a b out na nb->0<na->na<a.size->x₀+1+na+nb<=a.size+b.size->x+na+nb<=a.size+b.size->(∀z,z<na->blt (gt b (nb-1)) (gt a z)=ag)->de (av prog w) A E s (jp2 () na out) Q st4:=λna out j1 h1 h3 h5 h6 hz=>by
       dsimp -zeta only [jp2];refine aE (b8 0x1 ?_);have j2:=JH.pb j1 0x1 0x1 0x1 hz;refine d9 (λe=>bf (hd _ _ _ sim' (j2.first e ha hb hf 0x1))) λe=>aE (b8 0x1 (aE (sJ O hL hk' 0x1 hUb (hUa _ 0x1) (λi j i1 i2 i3=>hsb i j 0x1 i2 0x1) 0x1 λk1 hk1 y1 y2=>?_)))
       dsimp -zeta only;have y1':∀i,i<k1->blt (gt b i) (gt a (na-1))=ae:=λi hi=>by have:=y1 i hi;simpa[gp] using this
       have y2':∀i,k1<=i->i<nb-1->blt (gt b i) (gt a (na-1))=ag:=λi i1 i2=>by have:=y2 i i1 i2;simpa[gp] using this
       clear y1 y2
       extract_lets -underBinder n1 n2 jp3 n3
       have K3:∀nb' out,JH blt a b out na nb'->1<nb'->nb'<nb->(∀z,z<nb'->blt (gt b z) (gt a (na-1))=ae)->de (av prog w) A E s (jp3 () nb' out) Q st4:=λnb' out j3 q1 q2 hz=>by
        dsimp -zeta only [jp3];refine aE (b8 0x1 ?_);have j4:=JH.pa j3 0x1 0x1 0x1 hz;exact d9 (λe=>bf (hd _ _ _ sim' (j4.VD e))) λe=>e_ (λ_=>bf (hb' _ _ _ _ _ _ _ sim' j4 0x1)) λ_=>bf (hy _ _ _ _ _ _ _ sim' j4 0x1)
       refine e_ (λkp=>?_) λkp=>K3 _ _ j2 0x1 0x1 λz hz=>y1' z 0x1
       have j3:=JH.gb j2 0x1 0x1 k1 0x1 (λi i1 i2 z hz=>leA O hUa hUb hsa 0x1 0x1 hz (y2' i i1 i2));exact d9 (λe=>bf (hd _ _ _ sim' (j3.first e ha hb hf 0x1))) λe=>d9 (λe=>bf (hd _ _ _ sim' (j3.VB e))) λe'=>K3 _ _ j3 0x1 0x1 y1'
      refine e_ (λkp=>?_) λkp=>K2 _ _ j3 h1 h3 h5 h6 λz hz=>y1' z 0x1
      have j1:=JH.ga j3 0x1 0x1 at_ 0x1 (λi i1 i2 z hz=>aNs O hUa hUb hsb 0x1 0x1 hz (y2' i i1 i2));exact d9 (λe=>bf (hd _ _ _ sim' (j1.VD e))) λe=>K2 _ _ j1 0x1 0x1 0x1 0x1 y1'
     exact e_ (λ_=>K1 _) λ_=>K1 _
end
section
variable {blt:ay->ay->aq} {U:ay->Prop}
def SL(blt:ay->ay->aq)(l:aa ay):Prop:=l.Pairwise λu v=>blt v u=ag
theorem zN(xs ys:aa ay):(mrg blt xs ys).Perm (xs++ys):=List.merge_perm_append _
theorem NT{xs ys:aa ay}{z:ay}:z∈mrg blt xs ys↔z∈xs\/z∈ys:=by
 rw[(zN xs ys).mem_iff,gz]
theorem Ord.le_trans(O:Ord U blt){x y z:ay}(hx:U x)(hy:U y)(hz:U z)(h1:blt y x=ag)(h2:blt z y=ag):blt z x=ag:=by
 cases e:blt z x with
 |false=>rfl
 |true=>
  rcases O.ntr _ y _ hz hy hx e with p|p
  ·rw[h2] at p;cases p
  ·rw[h1] at p;cases p
theorem Ord.aFg(O:Ord U blt){x y:ay}(hx:U x)(hy:U y)(h:blt x y=ae):blt y x=ag:=by
 cases e:blt y x with
 |false=>rfl
 |true=>
  have:=O.tr _ _ _ hx hy hx h e;rw[O.irr x hx] at this;cases this
theorem YL(O:Ord U blt):∀(xs ys:aa ay),(∀z∈xs,U z)->(∀z∈ys,U z)->SL blt xs->SL blt ys->SL blt (mrg blt xs ys)
 |[],ys,_,_,_,h=>by rw[oJ];exact h
 |x::xs,[],_,_,h,_=>by rw[mQ];exact h
 |x::xs,y::ys,ux,uy,sx,sy=>by
  rw[gW];have ux0:=ux x (b6 ..);have uy0:=uy y (b6 ..);have sx':=lv.mp sx;have sy':=lv.mp sy;by_cases q:blt y x=ae
  ·rw[au q];refine lv.mpr ⟨λz hz=>?_,YL O (x::xs) ys ux (λz hz=>uy z (cg _ hz)) sx sy'.2⟩;rcases NT.mp hz with hz|hz
   ·rcases b9.mp hz with rfl|hz
    ·exact O.aFg uy0 ux0 q
    ·exact O.le_trans uy0 ux0 (ux z (cg _ hz)) (O.aFg uy0 ux0 q) (sx'.1 z hz)
   ·exact sy'.1 z hz
  ·rw[az q];have q':blt y x=ag:=by simpa using q
   refine lv.mpr ⟨λz hz=>?_,YL O xs (y::ys) (λz hz=>ux z (cg _ hz)) uy sx'.2 sy⟩;rcases NT.mp hz with hz|hz
   ·exact sx'.1 z hz
   ·rcases b9.mp hz with rfl|hz
    ·exact q'
    ·exact O.le_trans ux0 uy0 (uy z (cg _ hz)) q' (sy'.1 z hz)
 termination_by xs ys=>xs.length+ys.length
noncomputable def str(a:aw ay)(lo n:af):aa ay:=(a.toList.drop lo).take n
theorem oK{a:aw ay}{lo n i:af}(hi:i<n)(h:lo+n<=a.size):(str a lo n)[i]?=ab (gt a (lo+i)):=by
 unfold str;rw[sC hi,ou,iO];exact mL 0x1
theorem str_len{a:aw ay}{lo n:af}(h:lo+n<=a.size):(str a lo n).length=n:=by
 unfold str;rw[kx,n4,hI];lia
theorem Srt.sl{a:aw ay}{lo n:af}(h:Srt blt a lo (lo+n))(hn:lo+n<=a.size):SL blt (str a lo n):=by
 unfold SL;rw[xm];intro i j hi hj hij;rw[str_len hn] at hi hj;have e1:=oK (a:=a) (lo:=lo) hi hn;have e2:=oK (a:=a) (lo:=lo) hj hn;rw[eh (by rw[str_len hn];exact hi)] at e1;rw[eh (by rw[str_len hn];exact hj)] at e2;rw[cq e1,cq e2];exact h _ _ 0x1 0x1 0x1
theorem SL.srt{a:aw ay}{lo n:af}(O:Ord U blt)(hU:o6 U a)(h:SL blt (str a lo n))(hn:lo+n<=a.size):Srt blt a lo (lo+n):=by
 intro i j h1 h2 h3;by_cases e:i=j
 ·subst e;exact O.irr _ (hU _ 0x1)
 ·unfold SL at h;rw[xm] at h;have q:=h (i-lo) (j-lo) (by rw[str_len hn];lia) (by rw[str_len hn];lia) 0x1;have e1:=oK (a:=a) (lo:=lo) (i:=i-lo) (n:=n) 0x1 hn;have e2:=oK (a:=a) (lo:=lo) (i:=j-lo) (n:=n) 0x1 hn;rw[eh (by rw[str_len hn];lia)] at e1 e2;rw[cq e1,cq e2,show lo+(i-lo)=i by lia,show lo+(j-lo)=j by lia] at q;exact q
theorem vZ(a:aw ay)(lo m n:af):str a lo (m+n)=str a lo m++str a (lo+m) n:=by
 unfold str;rw[List.take_add,AY]
theorem zO{a:aw ay}{lo n:af}{z:ay}(h:z∈str a lo n):∃i,lo<=i/\i<lo+n/\i<a.size/\z=gt a i:=by
 obtain⟨i,hi,e⟩:=ow h;unfold str at hi;rw[kx,n4,hI] at hi;refine⟨lo+i,by lia,by lia,by lia,?_⟩;have h2:(str a lo n)[i]?=ab z:=by rw[<-e];exact eh _
 unfold str at h2;rw[sC 0x1,ou,iO,mL 0x1] at h2;exact(cq h2).symm
theorem YM(a:aw ay)(i j:af):(a.extract i j).toList=str a i (j-i):=by
 unfold str;rw[oq,ot]
noncomputable def put(a:aw ay)(off:af)(l:aa ay):aw ay:=l.zipIdx.foldl (λa (p,j)=>a.setIfInBounds (off+j) p) a
theorem aDv(off:af):∀(l:aa ay)(k:af)(a:aw ay),off+k+l.length<=a.size->
  ((l.zipIdx k).foldl (λa (p,j)=>a.setIfInBounds (off+j) p) a).toList=a.toList.take (off+k)++l++a.toList.drop (off+k+l.length)
 |[],k,a,_=>by simp
 |x::l,k,a,h=>by
  rw[xn,xo];rw[bj] at h;rw[aDv off l (k+1) _ (by rw[AZ];lia)];rw[A0];have e1:(a.toList.set (off+k) x).take (off+(k+1))=a.toList.take (off+k)++[x]:=by
   rw[show off+(k+1)=(off+k)+1 by lia,tx,List.take_set_of_le (ba _),fN (by rw[hI];lia)];rfl
  have e2:(a.toList.set (off+k) x).drop (off+(k+1)+l.length)=a.toList.drop (off+k+(x::l).length):=by
   rw[List.drop_set_of_lt 0x1,bj]
   congr 1
   lia
  rw[e1,e2];simp
theorem zP{a:aw ay}{off:af}{l:aa ay}(h:off+l.length<=a.size):(put a off l).toList=a.toList.take off++l++a.toList.drop (off+l.length):=by
 have:=aDv off l 0 a 0x1;rw[A1] at this;exact this
theorem NZ{a:aw ay}{i:af}:gt a i=a.toList.getD i dk:=by
 unfold gt;by_cases h:i<a.size
 ·simp[jh,h]
 ·simp[jh,h]
structure Stp(lo hi:af)(st st':cn):Prop where
 kd:kindOf st'=kindOf st
 fl:gj st'=gj st
 pm:(am st').Perm (am st)
 out:∀j,j<lo\/hi<=j->gt (am st') j=gt (am st) j
theorem Stp.sz{lo hi:af}{st st':cn}(h:Stp lo hi st st'):(am st').size=(am st).size:=h.pm.size_eq
theorem bJ{a b:aw ay}(hU:o6 U a)(p:b.Perm a):o6 U b:=λi hi=>by
 have:gt b i∈b.toList:=by
  rw[NZ,c9,eh (by simpa using hi)];exact mI _
 obtain⟨j,hj,e⟩:=aDu ((xq.mp p).mem_iff.mp this);rw[e];exact hU j hj
theorem Srt.mono{a:aw ay}{lo hi lo' hi':af}(h:Srt blt a lo hi)(h1:lo<=lo')(h2:hi'<=hi):Srt blt a lo' hi':=λi j a1 a2 a3=>h i j 0x1 a2 0x1
theorem Srt.out{a b:aw ay}{lo hi:af}(h:Srt blt a lo hi)(e:∀j,lo<=j->j<hi->gt b j=gt a j):Srt blt b lo hi:=λi j a1 a2 a3=>by
 rw[e i 0x1 0x1,e j 0x1 a3];exact h i j a1 a2 a3
theorem VF(a:aw ay)(i m n:af):a.toList=a.toList.take i++(str a i m++str a (i+m) n)++a.toList.drop (i+(m+n)):=by
 rw[<-vZ];unfold str;rw[eP,<-AY,xr,xr]
theorem aFh{a:aw ay}{off:af}{l:aa ay}(h:off+l.length<=a.size):str (put a off l) off l.length=l:=by
 unfold str;rw[zP h,eP,List.drop_left' (by rw[kx,hI];lia),List.take_left' rfl]
theorem v5{a:aw ay}{off:af}{l:aa ay}(h:off+l.length<=a.size){j:af}(hj:j<off\/off+l.length<=j):gt (put a off l) j=gt a j:=by
 rw[NZ,NZ,zP h,c9,c9]
 congr 1
 have hl:(a.toList.take off).length=off:=by rw[kx,hI];lia
 rcases hj with hj|hj
 ·rw[eP,ir 0x1,sC hj]
 ·rw[ic (by rw[cx];lia),cx,hl,ou]
  congr 1
  lia
end
section
variable {prog:bp} {w:bh} {A:bu} {E:ah->al->Prop} {s:al} {kd:ie} {U:ay->Prop} {blt:ay->ay->aq}
theorem aFi{σ:Type}{M:km}{st st':σ}{Q:PUnit->σ->Prop}(h:Q ⟨⟩ st'):de M A E s (set st':kG σ dt PUnit) Q st:=by
 unfold de;rw[StateT.run_set];exact aS ⟨rfl,h⟩
theorem N5(O:Ord U blt)(hL:U9 prog w A E s kd U blt){i:af}{st:cn}{Q:aq->cn->Prop}(hk:kindOf st=kd)(hU:o6 U (am st))(hF:gj st=aj){sa na pw sb nb pw2:af}
 (p1:(bo st)[i]?=ab (sa,na,pw))(p2:(bo st)[i+1]?=ab (sb,nb,pw2))(hsb:sb=sa+na)(hsz:sb+nb<=(am st).size)(hna:0<na)(hnb:0<nb)
 (s1:Srt blt (am st) sa (sa+na))(s2:Srt blt (am st) sb (sb+nb))
 (h:∀st',Stp sa (sb+nb) st st'->Srt blt (am st') sa (sb+nb)->bo st'=((bo st).setIfInBounds i (sa,na+nb,pw)).eraseIdxIfInBounds (i+1)->Q ae st') :
  de (av prog w) A E s (mergeAt' i) Q st:=by
 subst hsb
 with_unfolding_all refine aE (iv ?_)
 dsimp only;rw[p1,p2];dsimp only;refine aE (aFi ?_);have hk':kindOf (tJ st (((bo st).setIfInBounds i (sa,na+nb,pw)).eraseIdxIfInBounds (i+1)))=kd:=hk;refine aE (b8 (arr:=am st) 0x1 ?_);refine aE (sJ (arr:=am st) O hL hk' 0x1 hU (hU _ 0x1) (s1.mono (ba _) 0x1) 0x1 λk hk1 y1 y2=>?_);dsimp only;have y1':∀i,i<k->blt (gt (am st) (sa+na)) (gt (am st) (sa+i))=ag:=λi hi=>by have:=y1 i hi;simpa[gp] using this
 have y2':∀i,k<=i->i<na->blt (gt (am st) (sa+na)) (gt (am st) (sa+i))=ae:=λi i1 i2=>by have:=y2 i i1 i2;simpa[gp] using this
 -- the whole stretch is sorted as soon as the first part's last is no more than the second's first
 have whole:(∀i j,sa<=i->i<sa+na->sa+na<=j->j<sa+na+nb->blt (gt (am st) j) (gt (am st) i)=ag)->Srt blt (am st) sa (sa+na+nb):=λq i j a1 a2 a3=>by
  by_cases c1:j<sa+na
  ·exact s1 i j a1 a2 c1
  ·by_cases c2:sa+na<=i
   ·exact s2 i j c2 a2 a3
   ·exact q i j a1 0x1 0x1 a3
 have stp0:Stp sa (sa+na+nb) st (tJ st (((bo st).setIfInBounds i (sa,na+nb,pw)).eraseIdxIfInBounds (i+1))):=⟨rfl,rfl,ox _,λ_ _=>rfl⟩
 by_cases e1:na-k=0
 ·rw[au (by simpa using e1)];refine bf (h _ stp0 (whole λi j i1 i2 j1 j2=>?_) rfl);have q:=y1' (i-sa) 0x1;rw[show sa+(i-sa)=i by lia] at q;exact O.le_trans (hU _ 0x1) (hU _ 0x1) (hU _ 0x1) q (s2 _ _ (ba _) j1 j2)
 rw[az (by simpa using e1)];refine aE (b8 (arr:=am st) 0x1 ?_);refine aE (sJ (arr:=am st) O hL hk' 0x1 hU (hU _ 0x1) (s2.mono (ba _) 0x1) 0x1 λnb' hnb1 z1 z2=>?_);dsimp only;have ez:sa+k+(na-k)-1=sa+na-1:=by lia
 have z1':∀i,i<nb'->blt (gt (am st) (sa+na+i)) (gt (am st) (sa+na-1))=ae:=λi hi=>by have:=z1 i hi;rw[ez] at this;simpa[gp] using this
 have z2':∀i,nb'<=i->i<nb->blt (gt (am st) (sa+na+i)) (gt (am st) (sa+na-1))=ag:=λi i1 i2=>by have:=z2 i i1 i2;rw[ez] at this;simpa[gp] using this
 by_cases e2:nb'=0
 ·rw[au (by simpa using e2)];refine bf (h _ stp0 (whole λi j i1 i2 j1 j2=>?_) rfl);have q:=z2' (j-(sa+na)) 0x1 0x1;rw[show sa+na+(j-(sa+na))=j by lia] at q;exact O.le_trans (hU _ 0x1) (hU (sa+na-1) 0x1) (hU _ 0x1) (s1 i (sa+na-1) i1 0x1 0x1) q
 rw[az (by simpa using e2)];have ex:((am st).extract (sa+k) (sa+na)).toList=str (am st) (sa+k) (na-k):=by rw[YM];congr 1;lia
 have ey:((am st).extract (sa+na) (sa+na+nb')).toList=str (am st) (sa+na) nb':=by rw[YM];congr 1;lia
 have zx:((am st).extract (sa+k) (sa+na)).size=na-k:=by rw[A2];lia
 have zy:((am st).extract (sa+na) (sa+na+nb')).size=nb':=by rw[A2];lia
 have gx:∀i,i<na-k->gt ((am st).extract (sa+k) (sa+na)) i=gt (am st) (sa+k+i):=λi hi=>by
  have e:=oK (a:=am st) (lo:=sa+k) (i:=i) (n:=na-k) hi 0x1;rw[<-ex,iO,mL 0x1] at e;exact cq e
 have gy:∀i,i<nb'->gt ((am st).extract (sa+na) (sa+na+nb')) i=gt (am st) (sa+na+i):=λi hi=>by
  have e:=oK (a:=am st) (lo:=sa+na) (i:=i) (n:=nb') hi 0x1;rw[<-ey,iO,mL 0x1] at e;exact cq e
 have fin:∀(r:aw ay)(st2:cn),Sim (tJ st (((bo st).setIfInBounds i (sa,na+nb,pw)).eraseIdxIfInBounds (i+1))) st2->
   r.toList=mrg blt ((am st).extract (sa+k) (sa+na)).toList ((am st).extract (sa+na) (sa+na+nb')).toList->
   de (av prog w) A E s (do
    modify λs=>du s (r.toList.zipIdx.foldl (λa (p,j)=>a.setIfInBounds (sa+k+j) p) (am s))
    return (gj (<- get)).isNone) Q st2:=by
  intro r st2 sim hr;rw[ex,ey] at hr;have hlen:r.toList.length=(na-k)+nb':=by
   rw[hr,(zN _ _).length_eq,cx,str_len 0x1,str_len 0x1]
  have hfit:sa+k+r.toList.length<=(am st).size:=by lia
  have ear:am st2=am st:=sim.ar;refine aE (jz (aE (iv (bf ?_))));show Q (gj st2).isNone (du st2 (put (am st2) (sa+k) r.toList));rw[sim.fl,show gj (tJ st _)=aj from hF,ear];have hp:(put (am st) (sa+k) r.toList).Perm (am st):=by
   rw[xq,zP hfit,hlen];have sp:=VF (am st) (sa+k) (na-k) nb';rw[show sa+k+(na-k)=sa+na by lia] at sp
   conv=>rhs;rw[sp]
   rw[hr];exact(((zN _ _).append_left _).append_right _)
  have hU':=bJ hU hp;refine h _ ⟨sim.kd,sim.fl,hp,λj hj=>?_⟩ ?_ ?_
  ·show gt (put (am st) (sa+k) r.toList) j=gt (am st) j;exact v5 hfit 0x1
  ·show Srt blt (put (am st) (sa+k) r.toList) sa (sa+na+nb);have hsz':(put (am st) (sa+k) r.toList).size=(am st).size:=hp.size_eq;have e0:str (put (am st) (sa+k) r.toList) (sa+k) ((na-k)+nb')=mrg blt (str (am st) (sa+k) (na-k)) (str (am st) (sa+na) nb'):=by
    rw[<-hlen,aFh hfit,hr]
   have ux:∀z∈str (am st) (sa+k) (na-k),U z:=λz hz=>by obtain⟨i,_,_,i3,rfl⟩:=zO hz;exact hU i i3
   have uy:∀z∈str (am st) (sa+na) nb',U z:=λz hz=>by obtain⟨i,_,_,i3,rfl⟩:=zO hz;exact hU i i3
   have sm:SL blt (mrg blt (str (am st) (sa+k) (na-k)) (str (am st) (sa+na) nb')):=
    YL O _ _ ux uy (Srt.sl (s1.mono 0x1 0x1) 0x1) (Srt.sl (s2.mono (ba _) 0x1) 0x1)
   have mid:Srt blt (put (am st) (sa+k) r.toList) (sa+k) (sa+k+((na-k)+nb')):=SL.srt O hU' (by rw[e0];exact sm) 0x1;have inmid:∀j,sa+k<=j->j<sa+na+nb'->∃q,gt (put (am st) (sa+k) r.toList) j=gt (am st) q/\((sa+k<=q/\q<sa+na)\/(sa+na<=q/\q<sa+na+nb')):=by
    intro j j1 j2;have e:=oK (a:=put (am st) (sa+k) r.toList) (lo:=sa+k) (i:=j-(sa+k)) (n:=(na-k)+nb') 0x1 0x1;rw[e0,show sa+k+(j-(sa+k))=j by lia] at e;have hm:=nX e;rcases NT.mp hm with hm|hm
    ·obtain⟨q,q1,q2,q3,q4⟩:=zO hm;exact⟨q,q4,.inl ⟨q1,by lia⟩⟩
    ·obtain⟨q,q1,q2,q3,q4⟩:=zO hm;exact⟨q,q4,.inr ⟨q1,q2⟩⟩
   intro i j a1 a2 a3
   -- three zones
   by_cases ci:i<sa+k
   ·have ei:gt (put (am st) (sa+k) r.toList) i=gt (am st) i:=v5 hfit 0x1;by_cases cj:j<sa+k
    ·have ej:gt (put (am st) (sa+k) r.toList) j=gt (am st) j:=v5 hfit 0x1;rw[ei,ej];exact s1 i j a1 a2 0x1
    ·have yi:=y1' (i-sa) 0x1;rw[show sa+(i-sa)=i by lia] at yi;have leB:∀q,sa+na<=q->q<sa+na+nb->blt (gt (am st) q) (gt (am st) i)=ag:=λq q1 q2=>
      O.le_trans (hU _ 0x1) (hU _ 0x1) (hU _ 0x1) yi (s2 _ _ (ba _) q1 q2)
     by_cases cj2:j<sa+na+nb'
     ·obtain⟨q,eq,hq⟩:=inmid j 0x1 cj2;rw[ei,eq];rcases hq with ⟨q1,q2⟩|⟨q1,q2⟩
      ·exact s1 i q a1 0x1 q2
      ·exact leB q q1 0x1
     ·have ej:gt (put (am st) (sa+k) r.toList) j=gt (am st) j:=v5 hfit 0x1;rw[ei,ej];exact leB j 0x1 a3
   ·by_cases ci2:i<sa+na+nb'
    ·by_cases cj2:j<sa+na+nb'
     ·exact mid i j 0x1 a2 0x1
     ·have ej:gt (put (am st) (sa+k) r.toList) j=gt (am st) j:=v5 hfit 0x1;obtain⟨q,eq,hq⟩:=inmid i 0x1 ci2;rw[eq,ej];rcases hq with ⟨q1,q2⟩|⟨q1,q2⟩
      ·have zj:=z2' (j-(sa+na)) 0x1 0x1;rw[show sa+na+(j-(sa+na))=j by lia] at zj;exact O.le_trans (hU _ 0x1) (hU (sa+na-1) 0x1) (hU _ 0x1) (s1 q (sa+na-1) 0x1 0x1 0x1) zj
      ·exact s2 q j q1 0x1 a3
    ·have ei:gt (put (am st) (sa+k) r.toList) i=gt (am st) i:=v5 hfit 0x1;have ej:gt (put (am st) (sa+k) r.toList) j=gt (am st) j:=v5 hfit 0x1;rw[ei,ej];exact s2 i j 0x1 a2 a3
  ·show bo st2=_;exact sim.pd
 have hUx:o6 U ((am st).extract (sa+k) (sa+na)):=λi hi=>by rw[zx] at hi;rw[gx i hi];exact hU _ 0x1
 have hUy:o6 U ((am st).extract (sa+na) (sa+na+nb')):=λi hi=>by rw[zy] at hi;rw[gy i hi];exact hU _ 0x1
 have hsx:Srt blt ((am st).extract (sa+k) (sa+na)) 0 ((am st).extract (sa+k) (sa+na)).size:=λi j a1 a2 a3=>by
  rw[zx] at a3;rw[gx i 0x1,gx j a3];exact s1 _ _ 0x1 0x1 0x1
 have hsy:Srt blt ((am st).extract (sa+na) (sa+na+nb')) 0 ((am st).extract (sa+na) (sa+na+nb')).size:=λi j a1 a2 a3=>by
  rw[zy] at a3;rw[gy i 0x1,gy j a3];exact s2 _ _ 0x1 0x1 0x1
 have hfst:blt (gt ((am st).extract (sa+na) (sa+na+nb')) 0) (gt ((am st).extract (sa+k) (sa+na)) 0)=ae:=by
  rw[gx 0 0x1,gy 0 0x1];exact y2' k (ba _) 0x1
 have hlst:∀i,i<((am st).extract (sa+na) (sa+na+nb')).size->blt (gt ((am st).extract (sa+na) (sa+na+nb')) i) (gt ((am st).extract (sa+k) (sa+na)) (((am st).extract (sa+k) (sa+na)).size-1))=ae:=λi hi=>by
  rw[zy] at hi;rw[zx,gx (na-k-1) 0x1,gy i hi,show sa+k+(na-k-1)=sa+na-1 by lia];exact z1' i hi
 by_cases ce:na-k<=nb'
 ·rw[au ce];exact aE (NK (a:=(am st).extract (sa+k) (sa+na)) (b:=(am st).extract (sa+na) (sa+na+nb')) O hL hk' hUx hUy hsx hsy 0x1 0x1 hfst hlst fin)
 ·rw[az ce];exact aE (NQ (a:=(am st).extract (sa+k) (sa+na)) (b:=(am st).extract (sa+na) (sa+na+nb')) O hL hk' hUx hUy hsx hsy 0x1 0x1 hfst hlst fin)
end
section
variable {blt:ay->ay->aq} {U:ay->Prop}
def Eqv(blt:ay->ay->aq)(x y:ay):Prop:=blt x y=ag/\blt y x=ag
theorem Eqv.aBe(O:Ord U blt){x:ay}(h:U x):Eqv blt x x:=⟨O.irr x h,O.irr x h⟩
theorem Eqv.symm{x y:ay}(h:Eqv blt x y):Eqv blt y x:=⟨h.2,h.1⟩
theorem Eqv.trans(O:Ord U blt){x y z:ay}(hx:U x)(hy:U y)(hz:U z)(h:Eqv blt x y)(g:Eqv blt y z):Eqv blt x z:=⟨O.le_trans hz hy hx g.1 h.1,O.le_trans hx hy hz h.2 g.2⟩
def NonInc(blt:ay->ay->aq)(a:aw ay)(lo n:af):Prop:=∀i j,lo<=i->i<=j->j<lo+n->blt (gt a i) (gt a j)=ag
theorem aLt(a:aw ay)(i:af):gt a i=(a[i]?).getD dk:=by
 unfold gt;by_cases h:i<a.size
 ·simp[jh,h]
 ·simp[jh,h]
theorem mR{a:aw ay}{i j:af}(hj:j<=a.size)(k:af):gt (dh a i j ((j-i) / 2)) k=if i<=k/\k<j then gt a (i+j-1-k) else gt a k:=by
 rw[aLt,getElem?_mirror_all hj];split<;>rw[aLt]
theorem Stp.mir{lo hi:af}{st st':cn}(h:Stp lo hi st st'){i j:af}(hi':lo<=i)(hj:j<=hi)(hs:j<=(am st').size):Stp lo hi st (du st' (dh (am st') i j ((j-i) / 2))):=
 ⟨h.kd,h.fl,(kK _ _ _ _).trans h.pm,λk hk=>by
  show gt (dh (am st') i j ((j-i) / 2)) k=_;rw[mR hs,az 0x1];exact h.out k hk⟩
theorem o7(O:Ord U blt){a:aw ay}{lo x:af}(hU:o6 U a)(hx:lo+x<a.size)(h0:1<=x)(h:Srt blt a lo (lo+x))(e:blt (gt a (lo+x)) (gt a (lo+x-1))=ag):Srt blt a lo (lo+(x+1)):=λi j a1 a2 a3=>by
 by_cases c:j<lo+x
 ·exact h i j a1 a2 c
 ·obtain rfl:j=lo+x:=by lia
  by_cases d:i=lo+x
  ·rw[d];exact O.irr _ (hU _ hx)
  ·exact O.le_trans (hU _ 0x1) (hU _ 0x1) (hU _ hx) (h i (lo+x-1) a1 0x1 0x1) e
theorem sO(O:Ord U blt){a:aw ay}{lo x:af}(hU:o6 U a)(hx:lo+x<a.size)(h0:1<=x)(h:NonInc blt a lo x)(e:blt (gt a (lo+x-1)) (gt a (lo+x))=ag):NonInc blt a lo (x+1):=λi j a1 a2 a3=>by
 by_cases c:j<lo+x
 ·exact h i j a1 a2 c
 ·obtain rfl:j=lo+x:=by lia
  by_cases d:i=lo+x
  ·rw[d];exact O.irr _ (hU _ hx)
  ·exact O.le_trans (hU _ hx) (hU _ 0x1) (hU _ 0x1) e (h i (lo+x-1) a1 0x1 0x1)
theorem zQ{a:aw ay}{lo m:af}(hs:lo+m<=a.size)(h:NonInc blt a lo m):Srt blt (dh a lo (lo+m) ((lo+m-lo) / 2)) lo (lo+m):=λi j a1 a2 a3=>by
 rw[mR hs,mR hs,au 0x1,au 0x1];exact h _ _ 0x1 0x1 0x1
theorem zR(O:Ord U blt){a:aw ay}{lo m neq:af}(hU:o6 U a)(hs:lo+m<=a.size)(hq:neq+1<=m)(h:∀i,lo+m-(neq+1)<=i->i<lo+m->Eqv blt (gt a i) (gt a (lo+m-1))) :
  ∀k,k<a.size->Eqv blt (gt (dh a (lo+m-(neq+1)) (lo+m) ((lo+m-(lo+m-(neq+1))) / 2)) k) (gt a k):=λk hk=>by
 rw[mR hs];by_cases c:lo+m-(neq+1)<=k/\k<lo+m
 ·rw[au c];exact(h _ 0x1 0x1).trans O (hU _ 0x1) (hU _ 0x1) (hU _ 0x1) (h k c.1 c.2).symm
 ·rw[az c];exact Eqv.aBe O (hU _ hk)
theorem HX(O:Ord U blt){a b:aw ay}{lo n:af}(hU:o6 U a)(hV:o6 U b)(hs:lo+n<=a.size)(ht:lo+n<=b.size)(h:NonInc blt a lo n)(e:∀k,k<a.size->Eqv blt (gt b k) (gt a k)):NonInc blt b lo n:=λi j a1 a2 a3=>
 O.le_trans (hV j 0x1) (hU j 0x1) (hV i 0x1) (e j 0x1).2 (O.le_trans (hU j 0x1) (hU i 0x1) (hV i 0x1) (h i j a1 a2 a3) (e i 0x1).1)
end
section
variable {prog:bp} {w:bh} {A:bu} {E:ah->al->Prop} {s:al} {kd:ie} {U:ay->Prop} {blt:ay->ay->aq}
theorem wpS_ltAt(hL:U9 prog w A E s kd U blt){i j:af}{st:cn}{Q:ax aq->cn->Prop}(hk:kindOf st=kd)(hU:o6 U (am st))(hi:i<(am st).size)(hj:j<(am st).size)
 (h:Q (ab (blt (gt (am st) i) (gt (am st) j))) st):de (av prog w) A E s (ltAt' i j) Q st:=by
 rw[ltAt'_eq];exact aE (iv (aE (b8 hi (aE (b8 hj (hL _ _ _ _ (hU _ hi) (hU _ hj) hk h))))))
noncomputable abbrev mrA(st3:cn)(lo m neq:af):cn:=du st3 (dh (am st3) (lo+m-(neq+1)) (lo+m) ((lo+m-(lo+m-(neq+1))) / 2))
noncomputable abbrev mrB(st3:cn)(lo m:af):cn:=du st3 (dh (am st3) lo (lo+m) ((lo+m-lo) / 2))
theorem wpS_countRun(O:Ord U blt)(hL:U9 prog w A E s kd U blt){lo nrem:af}{st:cn}{Q:ax af->cn->Prop}(hk:kindOf st=kd)(hU:o6 U (am st))(hn:lo+nrem<=(am st).size)(h1:1<=nrem)
 (h:∀m st',Stp lo (lo+nrem) st st'->bo st'=bo st->1<=m->m<=nrem->Srt blt (am st') lo (lo+m)->Q (ab m) st'):de (av prog w) A E s (countRun' lo nrem) Q st:=by
 rw[countRun'_eq];have stp0:Stp lo (lo+nrem) st st:=⟨rfl,rfl,ox _,λ_ _=>rfl⟩
 refine aE (d6 (ef
  (I:=λx c st'=>st'=st/\c=(aj,x)/\Srt blt (am st) lo (lo+x))
  (Q:=λc st'=>st'=st/\∃m,c=(aj,m)/\1<=m/\m<=nrem/\Srt blt (am st) lo (lo+m)/\(m=nrem\/(m<nrem/\blt (gt (am st) (lo+m)) (gt (am st) (lo+m-1))=ae))) ?step ?fin ?init) ?post)
 case init=>exact⟨rfl,rfl,λi j a1 a2 a3=>by rw[show i=lo by lia,show j=lo by lia];exact O.irr _ (hU _ 0x1)⟩
 case fin=>
  rintro c st' ⟨rfl,rfl,q⟩;rw[show max 1 nrem=nrem by lia] at q ⊢;exact⟨rfl,nrem,rfl,h1,ba _,q,.inl rfl⟩
 case step=>
  rintro x c st' x1 x2 ⟨rfl,rfl,q⟩;dsimp only;refine aE (wpS_ltAt hL hk hU 0x1 0x1 ?_);dsimp only;cases e:blt (gt (am st') (lo+x)) (gt (am st') (lo+x-1)) with
  |true=>
   simp only[cy];exact bf ⟨rfl,x,rfl,x1,by lia,q,.inr ⟨x2,e⟩⟩
  |false=>
   simp only[c8,cK];exact bf ⟨rfl,rfl,o7 O hU 0x1 x1 q e⟩
 case post=>
  rintro c st ⟨hst,n,rfl,n1,n2,q,hor⟩;have hst:=hst.symm;subst hst;dsimp only;by_cases hnn:n=nrem
  ·rw[au (by simpa using hnn)];exact bf (h n _ stp0 rfl n1 n2 q)
  rw[az (by simpa using hnn)];obtain⟨n3,hlt⟩:=hor.resolve_left hnn;by_cases hgt:n > 1
  ·rw[au hgt];refine aE (wpS_ltAt hL hk hU 0x1 0x1 ?_);dsimp only;cases e:blt (gt (am st) lo) (gt (am st) (lo+n-1)) with
   |true=>
    simp only[cy];exact bf (h n _ stp0 rfl n1 n2 q)
   |false=>
    simp only[c8,cK];refine aE (jS ?_);have stp2:Stp lo (lo+nrem) st (du st (dh (am st) lo (lo+n) ((lo+n-lo) / 2))):=stp0.mir (ba _) 0x1 0x1;have pd2:bo (du st (dh (am st) lo (lo+n) ((lo+n-lo) / 2)))=bo st:=rfl;have ev:∀i,lo<=i->i<lo+n->Eqv blt (gt (am st) i) (gt (am st) (lo+n-1)):=λi i1 i2=>by
     refine⟨?_,q i (lo+n-1) i1 0x1 0x1⟩
     ·cases z:blt (gt (am st) i) (gt (am st) (lo+n-1)) with
      |false=>rfl
      |true=>
       rcases O.ntr _ (gt (am st) lo) _ (hU i 0x1) (hU lo 0x1) (hU (lo+n-1) 0x1) z with p|p
       ·rw[q lo i (ba _) i1 i2] at p;cases p
       ·rw[e] at p;cases p
    have hm:∀k,k<(am st).size->Eqv blt (gt (dh (am st) lo (lo+n) ((lo+n-lo) / 2)) k) (gt (am st) k):=λk hk'=>by
     rw[mR 0x1];by_cases c:lo<=k/\k<lo+n
     ·rw[au c];exact(ev _ 0x1 0x1).trans O (hU _ 0x1) (hU _ 0x1) (hU _ 0x1) (ev k c.1 c.2).symm
     ·rw[az c];exact Eqv.aBe O (hU _ hk')
    have ni1:NonInc blt (am st) lo n:=λi j a1 a2 a3=>((ev i a1 0x1).trans O (hU _ 0x1) (hU _ 0x1) (hU _ 0x1) (ev j 0x1 a3).symm).1
    have ni2:NonInc blt (am (du st (dh (am st) lo (lo+n) ((lo+n-lo) / 2)))) lo (n+1):=
     HX O hU (bJ hU (kK _ _ _ _)) 0x1 (by show lo+(n+1)<=(dh _ _ _ _).size;rw[lz];lia) (sO O hU 0x1 n1 ni1 (O.aFg (hU _ 0x1) (hU _ 0x1) hlt)) hm
    refine aE (kH (ig ⟨rfl,?_⟩));refine aE (d6 (ef
     (I:=λx c st'=>∃neq,c=(aj,x,neq)/\Stp lo (lo+nrem) st st'/\bo st'=bo st/\NonInc blt (am st') lo x/\neq+1<=x/\∀i,lo+x-(neq+1)<=i->i<lo+x->Eqv blt (gt (am st') i) (gt (am st') (lo+x-1)))
     (Q:=λc st'=>∃m neq,c=(aj,m,neq)/\n+1<=m/\m<=nrem/\Stp lo (lo+nrem) st st'/\bo st'=bo st/\NonInc blt (am st') lo m/\neq+1<=m/\∀i,lo+m-(neq+1)<=i->i<lo+m->Eqv blt (gt (am st') i) (gt (am st') (lo+m-1))) ?dstep ?dfin ?dinit) ?dpost)
    case dinit=>exact⟨0,rfl,stp2,pd2,ni2,by lia,λi i1 i2=>by rw[show i=lo+(n+1)-1 by lia];exact Eqv.aBe O (bJ hU stp2.pm _ (by rw[stp2.sz];lia))⟩
    case dfin=>
     rintro c st' ⟨neq,rfl,q1,q2,q3,q4,q5⟩;rw[show max (n+1) nrem=nrem by lia] at q3 q4 q5 ⊢;exact⟨nrem,neq,rfl,by lia,ba _,q1,q2,q3,q4,q5⟩
    case dstep=>
     rintro x c st' x1 x2 ⟨neq,rfl,q1,q2,q3,q4,q5⟩;dsimp only;have hUx:=bJ hU q1.pm;have hzx:lo+nrem<=(am st').size:=by rw[q1.sz];lia
     refine aE (wpS_ltAt hL (q1.kd.trans hk) hUx 0x1 0x1 ?_);dsimp only;cases e:blt (gt (am st') (lo+x)) (gt (am st') (lo+x-1)) with
     |true=>
      simp only[cy];have ni':NonInc blt (am st') lo (x+1):=sO O hUx 0x1 0x1 q3 (O.aFg (hUx _ 0x1) (hUx _ 0x1) e);by_cases hq:neq > 0
      ·rw[au hq];refine aE (jS (bf ⟨0,rfl,q1.mir 0x1 0x1 0x1,q2,?_,by lia,λi i1 i2=>?_⟩))
       ·exact HX O hUx (bJ hUx (kK _ _ _ _)) 0x1 (by rw[lz];lia) ni' (zR O hUx 0x1 0x1 q5)
       ·rw[show i=lo+(x+1)-1 by lia];exact Eqv.aBe O (bJ hUx (kK _ _ _ _) _ (by rw[lz];lia))
      ·rw[az hq];exact bf ⟨0,rfl,q1,q2,ni',by lia,λi i1 i2=>by rw[show i=lo+(x+1)-1 by lia];exact Eqv.aBe O (hUx _ 0x1)⟩
     |false=>
      simp only[c8,cK];refine aE (wpS_ltAt hL (q1.kd.trans hk) hUx 0x1 0x1 ?_);dsimp only;cases e2:blt (gt (am st') (lo+x-1)) (gt (am st') (lo+x)) with
      |true=>
       simp only[cy];exact bf ⟨x,neq,rfl,x1,by lia,q1,q2,q3,q4,q5⟩
      |false=>
       simp only[c8,cK];refine bf ⟨neq+1,rfl,q1,q2,sO O hUx 0x1 0x1 q3 e2,by lia,λi i1 i2=>?_⟩;rw[show lo+(x+1)-1=lo+x by lia];by_cases c:i=lo+x
       ·rw[c];exact Eqv.aBe O (hUx _ 0x1)
       ·exact(q5 i 0x1 0x1).trans O (hUx _ 0x1) (hUx _ 0x1) (hUx _ 0x1) ⟨e2,e⟩
    case dpost=>
     rintro c st3 ⟨m,neq,rfl,m1,m2,q1,q2,q3,q4,q5⟩;dsimp only;have hU3:=bJ hU q1.pm;have hz3:lo+nrem<=(am st3).size:=by rw[q1.sz];lia
     by_cases hq:neq > 0
     ·rw[au hq];refine aE (jS ?_);have stp4:=q1.mir (i:=lo+m-(neq+1)) (j:=lo+m) 0x1 0x1 0x1;have ni4:NonInc blt (dh (am st3) (lo+m-(neq+1)) (lo+m) ((lo+m-(lo+m-(neq+1))) / 2)) lo m:=
       HX O hU3 (bJ hU3 (kK _ _ _ _)) 0x1 (by rw[lz];lia) q3 (zR O hU3 0x1 0x1 q5)
      refine aE (jS ?_);have stpA:Stp lo (lo+nrem) st (du (mrA st3 lo m neq) (dh (am (mrA st3 lo m neq)) lo (lo+m) ((lo+m-lo) / 2))):=stp4.mir (ba _) 0x1 (by rw[stp4.sz];lia);have pdA:bo (du (mrA st3 lo m neq) (dh (am (mrA st3 lo m neq)) lo (lo+m) ((lo+m-lo) / 2)))=bo st:=q2;have hsA:Srt blt (am (du (mrA st3 lo m neq) (dh (am (mrA st3 lo m neq)) lo (lo+m) ((lo+m-lo) / 2)))) lo (lo+m):=zQ (by rw[stp4.sz];lia) ni4;refine aE (d6 (ef
       (I:=λx c st'=>st'=(du (mrA st3 lo m neq) (dh (am (mrA st3 lo m neq)) lo (lo+m) ((lo+m-lo) / 2)))/\c=(aj,x)/\Srt blt (am (du (mrA st3 lo m neq) (dh (am (mrA st3 lo m neq)) lo (lo+m) ((lo+m-lo) / 2)))) lo (lo+x))
       (Q:=λc st'=>st'=(du (mrA st3 lo m neq) (dh (am (mrA st3 lo m neq)) lo (lo+m) ((lo+m-lo) / 2)))/\∃mm,c=(aj,mm)/\m<=mm/\mm<=nrem/\Srt blt (am (du (mrA st3 lo m neq) (dh (am (mrA st3 lo m neq)) lo (lo+m) ((lo+m-lo) / 2)))) lo (lo+mm)) ?stepA ?finA ?initA) ?postA)
      case initA=>exact⟨rfl,rfl,hsA⟩
      case finA=>
       rintro c st' ⟨rfl,rfl,q⟩;rw[show max m nrem=nrem by lia] at q ⊢;exact⟨rfl,nrem,rfl,by lia,ba _,q⟩
      case postA=>
       rintro c st' ⟨rfl,mm,rfl,mm1,mm2,q⟩;exact bf (h mm _ stpA pdA 0x1 mm2 q)
      case stepA=>
       rintro x c st' x1 x2 ⟨rfl,rfl,q⟩;dsimp only;refine aE (wpS_ltAt hL (stpA.kd.trans hk) (bJ hU stpA.pm) (by rw[stpA.sz];lia) (by rw[stpA.sz];lia) ?_);dsimp only;cases e:blt (gt (am (du (mrA st3 lo m neq) (dh (am (mrA st3 lo m neq)) lo (lo+m) ((lo+m-lo) / 2)))) (lo+x)) (gt (am (du (mrA st3 lo m neq) (dh (am (mrA st3 lo m neq)) lo (lo+m) ((lo+m-lo) / 2)))) (lo+x-1)) with
       |true=>
        simp only[cy];exact bf ⟨rfl,x,rfl,x1,by lia,q⟩
       |false=>
        simp only[c8,cK];exact bf ⟨rfl,rfl,o7 O (bJ hU stpA.pm) (by rw[stpA.sz];lia) 0x1 q e⟩
     ·rw[az hq];refine aE (jS ?_);have stpB:Stp lo (lo+nrem) st (mrB st3 lo m):=q1.mir (ba _) 0x1 (by rw[q1.sz];lia);have pdB:bo (mrB st3 lo m)=bo st:=q2;have hsB:Srt blt (am (mrB st3 lo m)) lo (lo+m):=zQ (by rw[q1.sz];lia) q3;refine aE (d6 (ef
       (I:=λx c st'=>st'=(mrB st3 lo m)/\c=(aj,x)/\Srt blt (am (mrB st3 lo m)) lo (lo+x))
       (Q:=λc st'=>st'=(mrB st3 lo m)/\∃mm,c=(aj,mm)/\m<=mm/\mm<=nrem/\Srt blt (am (mrB st3 lo m)) lo (lo+mm)) ?stepB ?finB ?initB) ?postB)
      case initB=>exact⟨rfl,rfl,hsB⟩
      case finB=>
       rintro c st' ⟨rfl,rfl,q⟩;rw[show max m nrem=nrem by lia] at q ⊢;exact⟨rfl,nrem,rfl,by lia,ba _,q⟩
      case postB=>
       rintro c st' ⟨rfl,mm,rfl,mm1,mm2,q⟩;exact bf (h mm _ stpB pdB 0x1 mm2 q)
      case stepB=>
       rintro x c st' x1 x2 ⟨rfl,rfl,q⟩;dsimp only;refine aE (wpS_ltAt hL (stpB.kd.trans hk) (bJ hU stpB.pm) (by rw[stpB.sz];lia) (by rw[stpB.sz];lia) ?_);dsimp only;cases e:blt (gt (am (mrB st3 lo m)) (lo+x)) (gt (am (mrB st3 lo m)) (lo+x-1)) with
       |true=>
        simp only[cy];exact bf ⟨rfl,x,rfl,x1,by lia,q⟩
       |false=>
        simp only[c8,cK];exact bf ⟨rfl,rfl,o7 O (bJ hU stpB.pm) (by rw[stpB.sz];lia) 0x1 q e⟩
  ·rw[az hgt];obtain rfl:n=1:=by lia
   have stp2:=stp0;have pd2:bo st=bo st:=rfl;have ni2:NonInc blt (am st) lo (1+1):=sO O hU 0x1 (ba _) (λi j a1 a2 a3=>by rw[show i=lo by lia,show j=lo by lia];exact O.irr _ (hU _ 0x1)) (O.aFg (hU _ 0x1) (hU _ 0x1) hlt);refine aE (kH (ig ⟨rfl,?_⟩));refine aE (d6 (ef
    (I:=λx c st'=>∃neq,c=(aj,x,neq)/\Stp lo (lo+nrem) st st'/\bo st'=bo st/\NonInc blt (am st') lo x/\neq+1<=x/\∀i,lo+x-(neq+1)<=i->i<lo+x->Eqv blt (gt (am st') i) (gt (am st') (lo+x-1)))
    (Q:=λc st'=>∃m neq,c=(aj,m,neq)/\1+1<=m/\m<=nrem/\Stp lo (lo+nrem) st st'/\bo st'=bo st/\NonInc blt (am st') lo m/\neq+1<=m/\∀i,lo+m-(neq+1)<=i->i<lo+m->Eqv blt (gt (am st') i) (gt (am st') (lo+m-1))) ?dstep ?dfin ?dinit) ?dpost)
   case dinit=>exact⟨0,rfl,stp2,pd2,ni2,by lia,λi i1 i2=>by rw[show i=lo+(1+1)-1 by lia];exact Eqv.aBe O (bJ hU stp2.pm _ (by rw[stp2.sz];lia))⟩
   case dfin=>
    rintro c st' ⟨neq,rfl,q1,q2,q3,q4,q5⟩;rw[show max (1+1) nrem=nrem by lia] at q3 q4 q5 ⊢;exact⟨nrem,neq,rfl,by lia,ba _,q1,q2,q3,q4,q5⟩
   case dstep=>
    rintro x c st' x1 x2 ⟨neq,rfl,q1,q2,q3,q4,q5⟩;dsimp only;have hUx:=bJ hU q1.pm;have hzx:lo+nrem<=(am st').size:=by rw[q1.sz];lia
    refine aE (wpS_ltAt hL (q1.kd.trans hk) hUx 0x1 0x1 ?_);dsimp only;cases e:blt (gt (am st') (lo+x)) (gt (am st') (lo+x-1)) with
    |true=>
     simp only[cy];have ni':NonInc blt (am st') lo (x+1):=sO O hUx 0x1 0x1 q3 (O.aFg (hUx _ 0x1) (hUx _ 0x1) e);by_cases hq:neq > 0
     ·rw[au hq];refine aE (jS (bf ⟨0,rfl,q1.mir 0x1 0x1 0x1,q2,?_,by lia,λi i1 i2=>?_⟩))
      ·exact HX O hUx (bJ hUx (kK _ _ _ _)) 0x1 (by rw[lz];lia) ni' (zR O hUx 0x1 0x1 q5)
      ·rw[show i=lo+(x+1)-1 by lia];exact Eqv.aBe O (bJ hUx (kK _ _ _ _) _ (by rw[lz];lia))
     ·rw[az hq];exact bf ⟨0,rfl,q1,q2,ni',by lia,λi i1 i2=>by rw[show i=lo+(x+1)-1 by lia];exact Eqv.aBe O (hUx _ 0x1)⟩
    |false=>
     simp only[c8,cK];refine aE (wpS_ltAt hL (q1.kd.trans hk) hUx 0x1 0x1 ?_);dsimp only;cases e2:blt (gt (am st') (lo+x-1)) (gt (am st') (lo+x)) with
     |true=>
      simp only[cy];exact bf ⟨x,neq,rfl,x1,by lia,q1,q2,q3,q4,q5⟩
     |false=>
      simp only[c8,cK];refine bf ⟨neq+1,rfl,q1,q2,sO O hUx 0x1 0x1 q3 e2,by lia,λi i1 i2=>?_⟩;rw[show lo+(x+1)-1=lo+x by lia];by_cases c:i=lo+x
      ·rw[c];exact Eqv.aBe O (hUx _ 0x1)
      ·exact(q5 i 0x1 0x1).trans O (hUx _ 0x1) (hUx _ 0x1) (hUx _ 0x1) ⟨e2,e⟩
   case dpost=>
    rintro c st3 ⟨m,neq,rfl,m1,m2,q1,q2,q3,q4,q5⟩;dsimp only;have hU3:=bJ hU q1.pm;have hz3:lo+nrem<=(am st3).size:=by rw[q1.sz];lia
    by_cases hq:neq > 0
    ·rw[au hq];refine aE (jS ?_);have stp4:=q1.mir (i:=lo+m-(neq+1)) (j:=lo+m) 0x1 0x1 0x1;have ni4:NonInc blt (dh (am st3) (lo+m-(neq+1)) (lo+m) ((lo+m-(lo+m-(neq+1))) / 2)) lo m:=
      HX O hU3 (bJ hU3 (kK _ _ _ _)) 0x1 (by rw[lz];lia) q3 (zR O hU3 0x1 0x1 q5)
     refine aE (jS ?_);have stpA:Stp lo (lo+nrem) st (du (mrA st3 lo m neq) (dh (am (mrA st3 lo m neq)) lo (lo+m) ((lo+m-lo) / 2))):=stp4.mir (ba _) 0x1 (by rw[stp4.sz];lia);have pdA:bo (du (mrA st3 lo m neq) (dh (am (mrA st3 lo m neq)) lo (lo+m) ((lo+m-lo) / 2)))=bo st:=q2;have hsA:Srt blt (am (du (mrA st3 lo m neq) (dh (am (mrA st3 lo m neq)) lo (lo+m) ((lo+m-lo) / 2)))) lo (lo+m):=zQ (by rw[stp4.sz];lia) ni4;refine aE (d6 (ef
      (I:=λx c st'=>st'=(du (mrA st3 lo m neq) (dh (am (mrA st3 lo m neq)) lo (lo+m) ((lo+m-lo) / 2)))/\c=(aj,x)/\Srt blt (am (du (mrA st3 lo m neq) (dh (am (mrA st3 lo m neq)) lo (lo+m) ((lo+m-lo) / 2)))) lo (lo+x))
      (Q:=λc st'=>st'=(du (mrA st3 lo m neq) (dh (am (mrA st3 lo m neq)) lo (lo+m) ((lo+m-lo) / 2)))/\∃mm,c=(aj,mm)/\m<=mm/\mm<=nrem/\Srt blt (am (du (mrA st3 lo m neq) (dh (am (mrA st3 lo m neq)) lo (lo+m) ((lo+m-lo) / 2)))) lo (lo+mm)) ?stepA ?finA ?initA) ?postA)
     case initA=>exact⟨rfl,rfl,hsA⟩
     case finA=>
      rintro c st' ⟨rfl,rfl,q⟩;rw[show max m nrem=nrem by lia] at q ⊢;exact⟨rfl,nrem,rfl,by lia,ba _,q⟩
     case postA=>
      rintro c st' ⟨rfl,mm,rfl,mm1,mm2,q⟩;exact bf (h mm _ stpA pdA 0x1 mm2 q)
     case stepA=>
      rintro x c st' x1 x2 ⟨rfl,rfl,q⟩;dsimp only;refine aE (wpS_ltAt hL (stpA.kd.trans hk) (bJ hU stpA.pm) (by rw[stpA.sz];lia) (by rw[stpA.sz];lia) ?_);dsimp only;cases e:blt (gt (am (du (mrA st3 lo m neq) (dh (am (mrA st3 lo m neq)) lo (lo+m) ((lo+m-lo) / 2)))) (lo+x)) (gt (am (du (mrA st3 lo m neq) (dh (am (mrA st3 lo m neq)) lo (lo+m) ((lo+m-lo) / 2)))) (lo+x-1)) with
      |true=>
       simp only[cy];exact bf ⟨rfl,x,rfl,x1,by lia,q⟩
      |false=>
       simp only[c8,cK];exact bf ⟨rfl,rfl,o7 O (bJ hU stpA.pm) (by rw[stpA.sz];lia) 0x1 q e⟩
    ·rw[az hq];refine aE (jS ?_);have stpB:Stp lo (lo+nrem) st (mrB st3 lo m):=q1.mir (ba _) 0x1 (by rw[q1.sz];lia);have pdB:bo (mrB st3 lo m)=bo st:=q2;have hsB:Srt blt (am (mrB st3 lo m)) lo (lo+m):=zQ (by rw[q1.sz];lia) q3;refine aE (d6 (ef
      (I:=λx c st'=>st'=(mrB st3 lo m)/\c=(aj,x)/\Srt blt (am (mrB st3 lo m)) lo (lo+x))
      (Q:=λc st'=>st'=(mrB st3 lo m)/\∃mm,c=(aj,mm)/\m<=mm/\mm<=nrem/\Srt blt (am (mrB st3 lo m)) lo (lo+mm)) ?stepB ?finB ?initB) ?postB)
     case initB=>exact⟨rfl,rfl,hsB⟩
     case finB=>
      rintro c st' ⟨rfl,rfl,q⟩;rw[show max m nrem=nrem by lia] at q ⊢;exact⟨rfl,nrem,rfl,by lia,ba _,q⟩
     case postB=>
      rintro c st' ⟨rfl,mm,rfl,mm1,mm2,q⟩;exact bf (h mm _ stpB pdB 0x1 mm2 q)
     case stepB=>
      rintro x c st' x1 x2 ⟨rfl,rfl,q⟩;dsimp only;refine aE (wpS_ltAt hL (stpB.kd.trans hk) (bJ hU stpB.pm) (by rw[stpB.sz];lia) (by rw[stpB.sz];lia) ?_);dsimp only;cases e:blt (gt (am (mrB st3 lo m)) (lo+x)) (gt (am (mrB st3 lo m)) (lo+x-1)) with
      |true=>
       simp only[cy];exact bf ⟨rfl,x,rfl,x1,by lia,q⟩
      |false=>
       simp only[c8,cK];exact bf ⟨rfl,rfl,o7 O (bJ hU stpB.pm) (by rw[stpB.sz];lia) 0x1 q e⟩
end
section
theorem v6{a:aw ay}{src d:af}(hs:src<a.size)(hd:d<=src)(k:af) :
  gt (tN a src d) k=if k=src-d then gt a src else if src-d<k/\k<=src then gt a (k-1) else gt a k:=by
 rw[aLt,getElem?_bubble hs d hd]
 repeat' split
 all_goals rw[aLt]
end
section
variable {prog:bp} {w:bh} {A:bu} {E:ah->al->Prop} {s:al} {kd:ie} {U:ay->Prop} {blt:ay->ay->aq}
theorem wpS_binarySort(O:Ord U blt)(hL:U9 prog w A E s kd U blt){lo n ok:af}{st:cn}{Q:aq->cn->Prop}(hk:kindOf st=kd)(hU:o6 U (am st))(hn:lo+n<=(am st).size)(hok:ok<=n)
 (hs:Srt blt (am st) lo (lo+ok))
 (h:∀st',Stp lo (lo+n) st st'->bo st'=bo st->Srt blt (am st') lo (lo+n)->Q ae st'):de (av prog w) A E s (binarySort' lo n ok) Q st:=by
 rw[binarySort'_eq];have stp0:Stp lo (lo+n) st st:=⟨rfl,rfl,ox _,λ_ _=>rfl⟩
 refine aE (d6 (ef (I:=λk c st'=>c=(aj,())/\Stp lo (lo+n) st st'/\bo st'=bo st/\Srt blt (am st') lo (lo+min k n))
  (Q:=λc st'=>c=(aj,())/\Stp lo (lo+n) st st'/\bo st'=bo st/\Srt blt (am st') lo (lo+n)) ?step ?fin ?init) ?post)
 case post=>
  rintro c st' ⟨rfl,q1,q2,q3⟩;exact bf (h st' q1 q2 q3)
 case init=>
  refine⟨rfl,stp0,rfl,λi j a1 a2 a3=>?_⟩;by_cases h1:ok=0
  ·rw[show i=j by lia];exact O.irr _ (hU _ 0x1)
  ·exact hs i j a1 a2 0x1
 case fin=>
  rintro c st' ⟨hc,q1,q2,q3⟩;rw[show min (max (max ok 1) n) n=n by lia] at q3;exact⟨hc,q1,q2,q3⟩
 case step=>
  rintro k c st' k1 k2 ⟨rfl,q1,q2,q3⟩;rw[show min k n=k by lia] at q3;have hU':=bJ hU q1.pm;have hz:lo+n<=(am st').size:=by rw[q1.sz];exact hn
  refine aE (d6 (ef (I:=λx c st''=>st''=st'/\∃l r,c=(aj,l,r)/\l<=r/\r<=k/\r-l<=k-x/\
    (∀i,lo<=i->i<lo+l->blt (gt (am st') (lo+k)) (gt (am st') i)=ag)/\(∀i,lo+r<=i->i<lo+k->blt (gt (am st') (lo+k)) (gt (am st') i)=ae))
   (Q:=λc st''=>st''=st'/\∃l r,c=(aj,l,r)/\l<=k/\
    (∀i,lo<=i->i<lo+l->blt (gt (am st') (lo+k)) (gt (am st') i)=ag)/\(∀i,lo+l<=i->i<lo+k->blt (gt (am st') (lo+k)) (gt (am st') i)=ae)) ?istep ?ifin ?iinit) ?ipost)
  case iinit=>exact⟨rfl,0,k,rfl,by lia,by lia,by lia,λi i1 i2=>by lia,λi i1 i2=>by lia⟩
  case ifin=>
   rintro c st'' ⟨rfl,l,r,rfl,b1,b2,b3,b4,b5⟩;obtain rfl:l=r:=by lia
   exact⟨rfl,l,l,rfl,b2,b4,b5⟩
  case istep=>
   rintro x c st'' _ hx ⟨rfl,l,r,rfl,b1,b2,b3,b4,b5⟩;dsimp only;by_cases hge:l >= r
   ·rw[au hge];obtain rfl:l=r:=by lia
    exact bf ⟨rfl,l,l,rfl,b2,b4,b5⟩
   ·rw[az hge];refine aE (wpS_ltAt hL (q1.kd.trans hk) hU' 0x1 0x1 ?_);dsimp only;cases e:blt (gt (am st'') (lo+k)) (gt (am st'') (lo+(l+r) / 2)) with
    |true=>
     simp only[cy];refine bf ⟨rfl,l,(l+r) / 2,rfl,by lia,by lia,by lia,b4,λi i1 i2=>?_⟩;rcases O.ntr _ (gt (am st'') i) _ (hU' _ 0x1) (hU' i 0x1) (hU' _ 0x1) e with p|p
     ·exact p
     ·rw[q3 _ i 0x1 i1 0x1] at p;cases p
    |false=>
     simp only[c8,cK];refine bf ⟨rfl,(l+r) / 2+1,r,rfl,by lia,by lia,by lia,λi i1 i2=>?_,b5⟩;exact O.le_trans (hU' _ 0x1) (hU' (lo+(l+r) / 2) 0x1) (hU' _ 0x1) (q3 i (lo+(l+r) / 2) i1 0x1 0x1) e
  case ipost=>
   rintro c st'' ⟨rfl,l,r,rfl,b1,b4,b5⟩;show de _ _ _ _ (moveDown' (lo+k) (lo+l) >>= λ_=>pure (xu (aj,()))) _ _;rw[moveDown'_eq];refine aE (jz (bf ⟨rfl,⟨q1.kd,q1.fl,(bubble_perm _ _ _).trans q1.pm,λj hj=>?_⟩,q2,?_⟩))
   ·show gt (tN (am st'') (lo+k) (lo+k-(lo+l))) j=_;rw[v6 0x1 0x1,az 0x1,az 0x1];exact q1.out j hj
   ·rw[show min (k+1) n=k+1 by lia];intro i j a1 a2 a3;show blt (gt (tN (am st'') (lo+k) (lo+k-(lo+l))) j) (gt (tN (am st'') (lo+k) (lo+k-(lo+l))) i)=ag;rw[v6 0x1 0x1,v6 0x1 0x1,show lo+k-(lo+k-(lo+l))=lo+l by lia]
    repeat' split
    all_goals first
     | (exfalso;lia)
     |exact O.irr _ (hU' _ 0x1)
     |exact b4 _ 0x1 0x1
     |exact O.aFg (hU' _ 0x1) (hU' _ 0x1) (b5 _ 0x1 0x1)
     |exact q3 _ _ 0x1 0x1 0x1
end
section
variable {blt:ay->ay->aq}
def Runs(blt:ay->ay->aq)(a:aw ay):aa (af×af×af)->af->af->Prop
 |[],b,e=>b=e
 | (s,n,_)::r,b,e=>s=b/\0<n/\Srt blt a b (b+n)/\Runs blt a r (b+n) e
theorem Runs.le{a:aw ay}:∀{l:aa (af×af×af)}{b e:af},Runs blt a l b e->b+l.length<=e
 |[],b,e,h=>by have:b=e:=h;simp;lia
 | (s,n,p)::r,b,e,h=>by
  obtain⟨_,h1,_,h2⟩:=h;have:=Runs.le h2;rw[bj];lia
theorem Runs.app{a:aw ay}:∀{l r:aa (af×af×af)}{b e:af},Runs blt a (l++r) b e↔∃m,Runs blt a l b m/\Runs blt a r m e
 |[],r,b,e=>⟨λh=>⟨b,rfl,h⟩,λz0=>by obtain⟨m,h1,h2⟩:=z0;have:b=m:=h1;subst this;exact h2⟩
 | (s,n,p)::l,r,b,e=>by
  constructor
  ·rintro⟨h1,h2,h3,h4⟩;obtain⟨m,h5,h6⟩:=Runs.app.mp h4;exact⟨m,⟨h1,h2,h3,h5⟩,h6⟩
  ·rintro⟨m,⟨h1,h2,h3,h5⟩,h6⟩;exact⟨h1,h2,h3,Runs.app.mpr ⟨m,h5,h6⟩⟩
theorem Runs.out{a a':aw ay}:∀{l:aa (af×af×af)}{b e:af},Runs blt a l b e->(∀j,b<=j->j<e->gt a' j=gt a j)->Runs blt a' l b e
 |[],b,e,h,_=>h
 | (s,n,p)::l,b,e,⟨h1,h2,h3,h4⟩,q=>by
  have:=h4.le;exact⟨h1,h2,h3.out λj j1 j2=>q j j1 0x1,Runs.out h4 λj j1 j2=>q j 0x1 j2⟩
theorem Runs.two{a : aw ay}{l1 l2 : aa (af × af × af)}{sa na p sb nb q b e : af}(h : Runs blt a (l1 ++ (sa,na,p) :: (sb,nb,q) :: l2) b e) :
  b<=sa/\sb=sa+na/\0<na/\0<nb/\sb+nb<=e/\Srt blt a sa (sa+na)/\Srt blt a sb (sb+nb):=by
 obtain⟨m,h1,h2,h3,h4,h5,h6,h7,h8⟩:=Runs.app.mp h;subst h2 h5;have e1:=h1.le;have e2:=h8.le;exact⟨by lia,rfl,h3,h6,by lia,h4,h7⟩
theorem Runs.merge{a a':aw ay}{l1 l2:aa (af×af×af)}{sa na p sb nb q b e:af}(h:Runs blt a (l1++(sa,na,p)::(sb,nb,q)::l2) b e)
 (ho:∀j,j<sa\/sb+nb<=j->gt a' j=gt a j)(hs:Srt blt a' sa (sb+nb)):Runs blt a' (l1++(sa,na+nb,p)::l2) b e:=by
 obtain⟨m,h1,h2,h3,h4,h5,h6,h7,h8⟩:=Runs.app.mp h;subst h2 h5;have e1:=h1.le;have e2:=h8.le;refine Runs.app.mpr ⟨sa,h1.out λj _ j2=>ho j 0x1,rfl,by lia,?_,?_⟩
 ·rw[<-A3];exact hs
 ·rw[<-A3];exact h8.out λj j1 _=>ho j 0x1
theorem ers{p:aw (af×af×af)}{i:af}{x y v:af×af×af}{l1 l2:aa (af×af×af)}(h:p.toList=l1++x::y::l2)(hi:l1.length=i) :
  ((p.setIfInBounds i v).eraseIdxIfInBounds (i+1)).toList=l1++v::l2:=by
 have hz:p.size=l1.length+(l2.length+2):=by
  have:=dl ja h;simpa using this
 have:i+1<(p.setIfInBounds i v).size:=by rw[AZ];lia
 rw[Array.eraseIdxIfInBounds,tP this,Array.toList_eraseIdx,A0,h,xw _ _ 0x1,show i-l1.length=0 by lia,List.set_cons_zero,
  List.eraseIdx_append_of_length_le 0x1,show i+1-l1.length=1 by lia]
 rfl
theorem aJa{p:aw (af×af×af)}{i:af}(h:i+1<p.size):∃x y l1 l2,p.toList=l1++x::y::l2/\l1.length=i/\p[i]?=ab x/\p[i+1]?=ab y:=by
 refine⟨p[i],p[i+1],p.toList.take i,p.toList.drop (i+2),?_,?_,by simp,by simp⟩
 ·conv=>lhs;rw[<-xr i p.toList]
  rw[jI (by simp;lia),jI (i:=i+1) (by simp;lia)];rfl
 ·simp;lia
end
section
variable {prog:bp} {w:bh} {A:bu} {E:ah->al->Prop} {s:al} {kd:ie} {U:ay->Prop} {blt:ay->ay->aq}
structure Bs(U:ay->Prop)(kd:ie)(a₀:aw ay)(st:cn):Prop where
 kd:kindOf st=kd
 fl:gj st=aj
 pm:(am st).Perm a₀
theorem Bs.stp{a₀:aw ay}{st st':cn}{lo hi:af}(b:Bs U kd a₀ st)(h:Stp lo hi st st'):Bs U kd a₀ st':=⟨h.kd.trans b.kd,h.fl.trans b.fl,h.pm.trans b.pm⟩
theorem zT{a:aw ay}(pw:af):∀(i:af){l:aa (af×af×af)}{b e:af},Runs blt a l b e->Runs blt a (l.modify i λx=>(x.1,x.2.1,pw)) b e
 |_,[],_,_,h=>by
  rw[List.modify_nil];exact h
 |0,(s,n,p)::l,b,e,h=>h
 |i+1,(s,n,p)::l,b,e,⟨h1,h2,h3,h4⟩=>⟨h1,h2,h3,zT pw i h4⟩
theorem v7(O:Ord U blt)(hL:U9 prog w A E s kd U blt){a₀:aw ay}(hU:o6 U a₀){st:cn}{e i:af}{Q:aq->cn->Prop}(B:Bs U kd a₀ st)(he:e<=a₀.size)(R:Runs blt (am st) (bo st).toList 0 e)
 (hi:i+1<(bo st).size)
 (h:∀st',Bs U kd a₀ st'->Runs blt (am st') (bo st').toList 0 e->(bo st').size+1=(bo st).size->(∀j,e<=j->gt (am st') j=gt (am st) j)->Q ae st'):de (av prog w) A E s (mergeAt' i) Q st:=by
 obtain⟨⟨sa,na,p⟩,⟨sb,nb,q⟩,l1,l2,e1,e2,e3,e4⟩:=aJa hi;rw[e1] at R;obtain⟨r1,r2,r3,r4,r5,r6,r7⟩:=R.two;have hz:(am st).size=a₀.size:=B.pm.size_eq;refine N5 O hL B.kd (bJ hU B.pm) B.fl e3 e4 r2 0x1 r3 r4 r6 r7 λst' S Z P=>?_
 have P':(bo st').toList=l1++(sa,na+nb,p)::l2:=by rw[P];exact ers e1 e2
 refine h st' (B.stp S) ?_ ?_ λj hj=>S.out j 0x1
 ·rw[P'];exact R.merge S.out Z
 ·have h1:=dl ja P';have h2:=dl ja e1;simp at h1 h2;lia
theorem wpS_sortRuns(O:Ord U blt)(hL:U9 prog w A E s kd U blt){a₀:aw ay}(hU:o6 U a₀){st:cn}{Q:iE->cn->Prop}(B:Bs U kd a₀ st)(hp:bo st=#[])(hz:0<a₀.size)
 (h:∀st',Bs U kd a₀ st'->Srt blt (am st') 0 a₀.size->Q () st'):de (av prog w) A E s sortRuns' Q st:=by
 have sz:∀{st':cn},Bs U kd a₀ st'->(am st').size=a₀.size:=λb=>b.pm.size_eq
 rw[sortRuns'_eq];refine aE (iv ?_);dsimp only;rw[sz B];generalize minRun' a₀.size a₀.size 0=minrun;refine aE (d6 (ef
  (I:=λx c st'=>∃lo,c=(aj,lo)/\lo<=a₀.size/\(x<=lo\/lo=a₀.size)/\Bs U kd a₀ st'/\Runs blt (am st') (bo st').toList 0 lo)
  (Q:=λc st'=>c=(aj,a₀.size)/\Bs U kd a₀ st'/\Runs blt (am st') (bo st').toList 0 a₀.size) ?step ?fin ?init) ?post)
 case init=>exact⟨0,rfl,di _,.inl (ba _),B,by rw[hp];rfl⟩
 case fin=>
  rintro c st' ⟨lo,rfl,a1,a2,b,r⟩;obtain rfl:lo=a₀.size:=by lia
  exact⟨rfl,b,r⟩
 case step=>
  rintro x c st1 _ hx ⟨lo,rfl,a1,a2,b,r⟩;dsimp only;by_cases hge:lo >= a₀.size
  ·rw[au hge];obtain rfl:lo=a₀.size:=by lia
   exact bf ⟨rfl,b,r⟩
  rw[az hge];refine aE (wpS_countRun O hL b.kd (bJ hU b.pm) (by rw[sz b];lia) 0x1 λm st2 S2 P2 m1 m2 Z2=>?_);dsimp only;have b2:=b.stp S2;have r2:Runs blt (am st2) (bo st2).toList 0 lo:=by rw[P2];exact r.out λj _ j2=>S2.out j (.inl j2)
  have rest:∀(n:af),1<=n->lo+n<=a₀.size->∀(st4:cn),Bs U kd a₀ st4->∀l,(bo st4).toList=l++[(lo,n,0)]->Runs blt (am st4) l 0 lo->Srt blt (am st4) lo (lo+n)->
    ∃lo',((aj,lo+n):ax iE×af)=(aj,lo')/\lo'<=a₀.size/\(x+1<=lo'\/lo'=a₀.size)/\Bs U kd a₀ st4/\Runs blt (am st4) (bo st4).toList 0 lo':=by
   intro n n1 n2 st4 b4 l e r4 z4;refine⟨lo+n,rfl,n2,?_,b4,?_⟩
   ·rcases a2 with a2|a2
    ·exact .inl 0x1
    ·lia
   ·rw[e];exact Runs.app.mpr ⟨lo,r4,rfl,by lia,z4,rfl⟩
  by_cases hm:m<minrun
  ·rw[au hm];refine aE (kH (ig ⟨rfl,?_⟩));refine aE (wpS_binarySort O hL b2.kd (bJ hU b2.pm) (by rw[sz b2];lia) 0x1 Z2 λst3 S3 P3 Z3=>?_);simp only[ol,c8,cK];have b3:=b2.stp S3;have r3:Runs blt (am st3) (bo st3).toList 0 lo:=by rw[P3];exact r2.out λj _ j2=>S3.out j (.inl j2)
   have hmm:1<=min (a₀.size-lo) minrun/\lo+min (a₀.size-lo) minrun<=a₀.size:=⟨by lia,by lia⟩
   refine aE (iv ?_);cases hbk:(bo st3).back? with
   |none=>
    dsimp only;refine aE (jz (bf (rest (min (a₀.size-lo) minrun) 0x1 0x1 _ ⟨b3.kd,b3.fl,b3.pm⟩ _ ?_ r3 Z3)));show((bo st3).push (lo,(min (a₀.size-lo) minrun),0)).toList=_;rw[mE]
   |some t=>
    obtain⟨s1,n1',pw1⟩:=t;dsimp only;refine aE (d6 (ef
     (I:=λy c st'=>c=(aj,())/\Bs U kd a₀ st'/\Runs blt (am st') (bo st').toList 0 lo/\∀j,lo<=j->gt (am st') j=gt (am st3) j)
     (Q:=λc st'=>c=(aj,())/\Bs U kd a₀ st'/\Runs blt (am st') (bo st').toList 0 lo/\∀j,lo<=j->gt (am st') j=gt (am st3) j) ?mstep (λc st' q=>q) ⟨rfl,b3,r3,λ_ _=>rfl⟩) ?mpost)
    case mpost=>
     rintro c st4 ⟨rfl,b4,r4,o4⟩;dsimp only;refine aE (jz (aE (jz (bf (rest (min (a₀.size-lo) minrun) 0x1 0x1 _ ⟨b4.kd,b4.fl,b4.pm⟩ _ ?_ (zT (power' a₀.size (2*s1+n1') (2*s1+n1'+n1'+min (a₀.size-lo) minrun) a₀.size) ((bo st4).size-1) r4) (Z3.out λj j1 j2=>o4 j j1))))));show(((bo st4).modify _ _).push (lo,(min (a₀.size-lo) minrun),0)).toList=_;rw[mE,A4]
    case mstep=>
     rintro y c st4 _ hy ⟨rfl,b4,r4,o4⟩;refine aE (iv ?_);by_cases hp:(bo st4).size > 1
     ·rw[au hp];obtain⟨t,ht⟩:∃t,(bo st4)[(bo st4).size-2]?=ab t:=⟨_,A5 _ _ 0x1⟩
      rw[ht];obtain⟨t1,t2,older⟩:=t;dsimp only;split
      ·exact bf ⟨rfl,b4,r4,o4⟩
      ·refine aE (v7 O hL hU b4 0x1 r4 0x1 λst5 b5 r5 _ o5=>?_);simp only[ol,c8,cK];exact bf ⟨rfl,b5,r5,λj hj=>(o5 j hj).trans (o4 j hj)⟩
     ·rw[az hp];exact bf ⟨rfl,b4,r4,o4⟩
  ·rw[az hm];refine aE (iv ?_);cases hbk:(bo st2).back? with
   |none=>
    dsimp only;refine aE (jz (bf (rest m 0x1 0x1 _ ⟨b2.kd,b2.fl,b2.pm⟩ _ ?_ r2 Z2)));show((bo st2).push (lo,m,0)).toList=_;rw[mE]
   |some t=>
    obtain⟨s1,n1',pw1⟩:=t;dsimp only;refine aE (d6 (ef
     (I:=λy c st'=>c=(aj,())/\Bs U kd a₀ st'/\Runs blt (am st') (bo st').toList 0 lo/\∀j,lo<=j->gt (am st') j=gt (am st2) j)
     (Q:=λc st'=>c=(aj,())/\Bs U kd a₀ st'/\Runs blt (am st') (bo st').toList 0 lo/\∀j,lo<=j->gt (am st') j=gt (am st2) j) ?mstep (λc st' q=>q) ⟨rfl,b2,r2,λ_ _=>rfl⟩) ?mpost)
    case mpost=>
     rintro c st4 ⟨rfl,b4,r4,o4⟩;dsimp only;refine aE (jz (aE (jz (bf (rest m 0x1 0x1 _ ⟨b4.kd,b4.fl,b4.pm⟩ _ ?_ (zT (power' a₀.size (2*s1+n1') (2*s1+n1'+n1'+m) a₀.size) ((bo st4).size-1) r4) (Z2.out λj j1 j2=>o4 j j1))))));show(((bo st4).modify _ _).push (lo,m,0)).toList=_;rw[mE,A4]
    case mstep=>
     rintro y c st4 _ hy ⟨rfl,b4,r4,o4⟩;refine aE (iv ?_);by_cases hp:(bo st4).size > 1
     ·rw[au hp];obtain⟨t,ht⟩:∃t,(bo st4)[(bo st4).size-2]?=ab t:=⟨_,A5 _ _ 0x1⟩
      rw[ht];obtain⟨t1,t2,older⟩:=t;dsimp only;split
      ·exact bf ⟨rfl,b4,r4,o4⟩
      ·refine aE (v7 O hL hU b4 0x1 r4 0x1 λst5 b5 r5 _ o5=>?_);simp only[ol,c8,cK];exact bf ⟨rfl,b5,r5,λj hj=>(o5 j hj).trans (o4 j hj)⟩
     ·rw[az hp];exact bf ⟨rfl,b4,r4,o4⟩
 case post=>
  rintro c st1 ⟨rfl,b,r⟩;dsimp only;have hle:=r.le;rw[hI] at hle;refine aE (d6 (ef
   (I:=λx c st'=>c=(aj,())/\Bs U kd a₀ st'/\Runs blt (am st') (bo st').toList 0 a₀.size/\((bo st').size+x<=a₀.size\/(bo st').size<=1))
   (Q:=λc st'=>c=(aj,())/\Bs U kd a₀ st'/\Runs blt (am st') (bo st').toList 0 a₀.size/\(bo st').size<=1) ?fstep ?ffin ?finit) ?fpost)
  case finit=>exact⟨rfl,b,r,.inl 0x1⟩
  case ffin=>
   rintro c st' ⟨rfl,q1,q2,q3⟩;exact⟨rfl,q1,q2,by lia⟩
  case fpost=>
   rintro c st' ⟨rfl,q1,q2,q3⟩;refine bf (h st' q1 ?_)
   match hl:(bo st').toList with
   |[]=>rw[hl] at q2;have:0=a₀.size:=q2;lia
   |[(s0,n0,p0)]=>
    rw[hl] at q2;obtain⟨_,_,z,e⟩:=q2;have e:0+n0=a₀.size:=e;rw[e] at z;exact z
   |_::_::_=>
    have:=dl ja hl;rw[hI] at this;simp at this;lia
  case fstep=>
   rintro x c st4 _ hx ⟨rfl,b4,r4,o4⟩;refine aE (iv ?_);by_cases hp1:(bo st4).size<=1
   ·rw[au hp1];exact bf ⟨rfl,b4,r4,hp1⟩
   rw[az hp1];refine aE (v7 O hL hU b4 (ba _) r4 ?hi λst5 b5 r5 e5 _=>?_)
   case hi=>
    repeat' split
    all_goals lia
   simp only[ol,c8,cK];exact bf ⟨rfl,b5,r5,by lia⟩
end
end TS
namespace Mi
open PySem
inductive D where
 |uD|non|bl (b:aq)|int (i:ai)|str (x:Str)
 |tup (xs:aa D)|lst (xs:aa D)|dct (kvs:aa (D×D))|scr (xs:aa D)|fdc (kvs:aa (D×D))|cel (a:af) (xs:aa D)|exc (c:Str) (fs:aa (Str×Str))|ins (c:Str) (fs:aa (Str×D))|adr (a:af)
 deriving Inhabited
mutual
noncomputable def D.pure:D->aq
 |.tup xs=>D.aW xs
 |.lst _=>ag
 |.dct _=>ag
 |.uD=>ag
 |.scr xs=>D.aW xs
 |.fdc _=>ag
 |.cel _ _=>ag
 |.exc _ _=>ag
 |.ins _ _=>ag
 |.adr _=>ag
 |_=>ae
noncomputable def D.aW:aa D->aq
 |[]=>ae
 |x::xs=>x.pure&&D.aW xs
end
mutual
noncomputable def eqD:D->D->aq
 |.non,.non=>ae
 |.bl a,.bl b=>a==b
 |.int a,.int b=>a==b
 |.bl a,.int b=>(if a then (1:ai) else 0)==b
 |.int a,.bl b=>a==(if b then (1:ai) else 0)
 |.str a,.str b=>a==b
 |.tup xs,.tup ys=>uT xs ys
 |.lst xs,.lst ys=>uT xs ys
 |_,_=>ag
noncomputable def uT:aa D->aa D->aq
 |[],[]=>ae
 |x::xs,y::ys=>eqD x y&&uT xs ys
 |_,_=>ag
end
theorem v8(a b:ai):eqD (.int a) (.int b)=(a==b):=rfl
theorem aJb(a b:Str):eqD (.str a) (.str b)=(a==b):=rfl
theorem aJc(a:ai)(b:Str):eqD (.int a) (.str b)=ag:=rfl
theorem aJd(a:Str)(b:ai):eqD (.str a) (.int b)=ag:=rfl
theorem aJe(a b:aa D):eqD (.tup a) (.tup b)=uT a b:=rfl
mutual
noncomputable def D.fQ:af->D->aq
 |n+1,.tup xs=>D.dX n xs
 |n+1,.lst xs=>D.dX n xs
 |0,.tup _=>ag
 |0,.lst _=>ag
 |_,.dct _=>ag
 |_,.uD=>ag
 |_,.scr _=>ag
 |_,.fdc _=>ag
 |_,.cel _ _=>ag
 |_,.exc _ _=>ag
 |_,.ins _ _=>ag
 |_,.adr _=>ag
 |_,_=>ae
noncomputable def D.dX:af->aa D->aq
 |_,[]=>ae
 |n,x::xs=>D.fQ n x&&D.dX n xs
end
inductive gF where|lt|le|gt|ge
 deriving dg
def gF.int:gF->ai->ai->aq
 |.lt,a,b=>decide (a<b)|.le,a,b=>decide (a<=b)|.gt,a,b=>decide (b<a)|.ge,a,b=>decide (b<=a)
def gF.nat:gF->af->af->aq
 |.lt,a,b=>decide (a<b)|.le,a,b=>decide (a<=b)|.gt,a,b=>decide (b<a)|.ge,a,b=>decide (b<=a)
noncomputable def YQ(a b:Str):aq:=decide (a.cps.toList<b.cps.toList)
def gF.str:gF->Str->Str->aq
 |.lt,a,b=>YQ a b|.le,a,b=>!YQ b a|.gt,a,b=>YQ b a|.ge,a,b=>!YQ a b
mutual
noncomputable def iR(o:gF):D->D->ax aq
 |.int a,.int b=>ab (o.int a b)
 |.str a,.str b=>ab (o.str a b)
 |.tup xs,.tup ys=>dJ o xs ys
 |_,_=>aj
noncomputable def dJ(o:gF):aa D->aa D->ax aq
 |[],ys=>ab (o.nat 0 ys.length)
 |x::xs,[]=>ab (o.nat (x::xs).length 0)
 |x::xs,y::ys=>if eqD x y then dJ o xs ys else iR o x y
end
inductive Res(α:Type) where
 |ok (a:α)|err (c:Str) (as:aa D)|bad
noncomputable def Res.bind{α β:Type}:Res α->(α->Res β)->Res β
 |.ok a,f=>f a
 |.err c as,_=>.err c as
 |.bad,_=>.bad
noncomputable instance:Monad Res where
 pure:=.ok
 bind:=Res.bind
@[simp] theorem Res.aZ(a:α)(f:α->Res β):((Res.ok a) >>= f)=f a:=rfl
@[simp] theorem Res.aLu(c:Str)(as:aa D)(f:α->Res β):((Res.err c as:Res α) >>= f)=.err c as:=rfl
@[simp] theorem Res.aLv(f:α->Res β):((Res.bad:Res α) >>= f)=.bad:=rfl
@[simp] theorem Res.pure_eq(a:α):(pure a:Res α)=.ok a:=rfl
theorem Res.aFj{f:α->Res β}(h:(m >>= f)=.ok b):∃a,m=.ok a/\f a=.ok b:=by
 cases m with
 |ok a=>exact⟨a,rfl,h⟩
 |err c as=>cases h
 |bad=>cases h
theorem bx{P:Prop}(h:(Res.bad:Res α)=.ok d):P:=by cases h
theorem fx0{P:Prop}(h:ag=ae):P:=by cases h
theorem nx0{P:Prop}(h:(aj:ax α)=ab d):P:=by cases h
noncomputable def Res.ofOpt{α:Type}:ax α->Res α
 |some a=>.ok a
 |none=>.bad
@[simp] theorem Res.aHx(a:α):Res.ofOpt (ab a)=.ok a:=rfl
theorem Res.lK(h:Res.ofOpt o=.ok a):o=ab a:=by
 cases o with
 |none=>cases h
 |some b=>cases h;rfl
noncomputable def lim:af:=1000000
inductive Bop where|add|sub|mul|fdiv|mod|pow
 deriving dg
inductive Cop where|eq|ne|ord (o:gF)|isin|notin|isN|notN
 deriving dg
noncomputable def kY(i:ai):aq:=decide (-(2 ^ 64)<i)&&decide (i<2 ^ 64)
def a_:Bop->D->D->Res D
 |.add,.int a,.int b=>.ok (.int (a+b))
 |.sub,.int a,.int b=>.ok (.int (a-b))
 |.mul,.int a,.int b=>if kY a||kY b then .ok (.int (a*b)) else .bad
 |.fdiv,.int a,.int b=>if decide (0<b)&&decide (b<1073741824) then .ok (.int (a / b)) else .bad
 |.mod,.int a,.int b=>if decide (0<b) then .ok (.int (a % b)) else .bad
 |.pow,.int a,.int b=>if decide (0<=b)&&decide (b<=1000000)&&decide (a.natAbs<2 ^ 64) then .ok (.int (a ^ b.toNat)) else .bad
 |.add,.str a,.str b=>if decide (a.length+b.length<=lim) then .ok (.str (a++b)) else .bad
 |.add,.lst a,.lst b=>if decide (a.length+b.length<=lim)&&D.aW a&&D.aW b then .ok (.lst (a++b)) else .bad
 |_,_,_=>.bad
def aNt:D->Res aq
 |.non=>.ok ag
 |.bl b=>.ok b
 |.int i=>.ok (i !=0)
 |.str x=>if decide (x.length<=lim) then .ok ((x.length:ai)!=0) else .bad
 |.tup xs=>.ok (!xs.isEmpty)
 |.lst xs=>.ok (!xs.isEmpty)
 |.dct kvs=>.ok (!kvs.isEmpty)
 |.uD=>.bad
 |.fdc _=>.bad
 |.cel _ _=>.bad
 |.exc _ _=>.bad
 |.ins _ _=>.bad
 |.adr _=>.bad
 |.scr xs=>.ok (!xs.isEmpty)
def lL:D->aq
 |.int _=>ae
 |.str _=>ae
 |_=>ag
def keyOk:D->aq
 |.int _=>ae
 |.str _=>ae
 |.tup xs=>xs.all lL
 |_=>ag
noncomputable def isTup:D->aq
 |.tup _=>ae
 |_=>ag
def eQ:aa (D×D)->D->ax D
 |[],_=>aj
 | (k,v)::r,q=>if eqD k q then ab v else eQ r q
def putD:aa (D×D)->D->D->aa (D×D)
 |[],q,w=>[(q,w)]
 | (k,v)::r,q,w=>if eqD k q then (k,w)::r else (k,v)::putD r q w
def LC(kvs:aa (D×D))(k:D):aq:=keyOk k&&kvs.all (λp=>isTup p.1==isTup k)
noncomputable def aV:af:=12
def b7:Cop->D->D->Res D
 |.eq,a,b=>if a.fQ aV&&b.fQ aV then .ok (.bl (eqD a b)) else .bad
 |.ne,a,b=>if a.fQ aV&&b.fQ aV then .ok (.bl (!eqD a b)) else .bad
 |.ord o,a,b=>if a.fQ aV&&b.fQ aV then (match iR o a b with|some k=>.ok (.bl k)|none=>.bad) else .bad
 |.isin,a,.tup ys=>if a.fQ aV&&D.dX aV ys then .ok (.bl (ys.any λy=>eqD y a)) else .bad
 |.isin,a,.lst ys=>if a.fQ aV&&D.dX aV ys then .ok (.bl (ys.any λy=>eqD y a)) else .bad
 |.isin,a,.dct kvs=>if LC kvs a then .ok (.bl (eQ kvs a).isSome) else .bad
 |.notin,a,.tup ys=>if a.fQ aV&&D.dX aV ys then .ok (.bl (!(ys.any λy=>eqD y a))) else .bad
 |.notin,a,.lst ys=>if a.fQ aV&&D.dX aV ys then .ok (.bl (!(ys.any λy=>eqD y a))) else .bad
 |.notin,a,.dct kvs=>if LC kvs a then .ok (.bl (!(eQ kvs a).isSome)) else .bad
 |.isN,.scr _,.non=>.bad
 |.notN,.scr _,.non=>.bad
 |.isN,.fdc _,.non=>.bad
 |.notN,.fdc _,.non=>.bad
 |.isN,.cel _ _,.non=>.bad
 |.notN,.cel _ _,.non=>.bad
 |.isN,.non,.non=>.ok (.bl ae)
 |.isN,a,.non=>.ok (.bl ag)
 |.notN,.non,.non=>.ok (.bl ag)
 |.notN,a,.non=>.ok (.bl ae)
 |_,_,_=>.bad
noncomputable def ixD(n:af)(i:ai):ax af:=if 0<=i then (if i<n then ab i.toNat else aj) else if -(n:ai)<=i then ab (i+n).toNat else aj
def getD(d i:D):Res D:=
 match d,i with
 |.tup xs,.int i=>Res.ofOpt ((ixD xs.length i).bind λj=>xs[j]?)
 |.lst xs,.int i=>Res.ofOpt ((ixD xs.length i).bind λj=>xs[j]?)
 |.scr xs,.int i=>Res.ofOpt ((ixD xs.length i).bind λj=>xs[j]?)
 |.cel _ xs,.int i=>Res.ofOpt ((ixD xs.length i).bind λj=>xs[j]?)
 |.str x,.int i=>if decide (x.length<=lim) then Res.ofOpt (((ixD x.cps.toList.length i).bind λj=>x.cps.toList[j]?).map λc=>D.str ⟨#[c]⟩) else .bad
 |.dct kvs,k=>if keyOk k then Res.ofOpt (eQ kvs k) else .bad
 |.fdc kvs,k=>if keyOk k then Res.ofOpt (eQ kvs k) else .bad
 |_,_=>.bad
noncomputable def aHy(n d:af):ax ai->af
 |none=>d
 |some v=>if v<0 then (max (v+(n:ai)) 0).toNat else (min v (n:ai)).toNat
def cutD{α:Type}(xs:aa α)(lo hi:ax ai):aa α:=(xs.drop (aHy xs.length 0 lo)).take (aHy xs.length xs.length hi-aHy xs.length 0 lo)
inductive Ty where|int|str|bool|list|tuple|dict
 deriving dg
def aMp:Ty->D->Res aq
 |_,.uD=>.bad
 |_,.scr _=>.bad
 |_,.fdc _=>.bad
 |_,.cel _ _=>.bad
 |_,.exc _ _=>.bad
 |_,.ins _ _=>.bad
 |_,.adr _=>.bad
 |.int,.int _=>.ok ae
 |.int,.bl _=>.ok ae
 |.bool,.bl _=>.ok ae
 |.str,.str _=>.ok ae
 |.tuple,.tup _=>.ok ae
 |.list,.lst _=>.ok ae
 |.dict,.dct _=>.ok ae
 |_,_=>.ok ag
mutual
noncomputable def D.plain:D->aq
 |.int _=>ae
 |.str _=>ae
 |.tup xs=>D.jK xs
 |_=>ag
noncomputable def D.jK:aa D->aq
 |[]=>ae
 |x::xs=>x.plain&&D.jK xs
end
mutual
noncomputable def enc:D->aa ai
 |.int i=>[0,i]
 |.str x=>1::(x.cps.toList.map (λ(c:af)=>(c:ai)+1)++[0])
 |.tup xs=>2::LK xs
 |_=>[]
noncomputable def LK:aa D->aa ai
 |[]=>[0]
 |x::xs=>1::(enc x++LK xs)
end
def fU:D->af
 |.int _=>1
 |.str _=>2
 |.tup (.int _::_)=>3
 |.tup (.str _::_)=>4
 |.tup (.tup _::_)=>5
 |_=>0
def cA(xs:aa D):aq:=xs.all λa=>a.plain&&a.fQ aV&&fU a !=0&&fU a==fU (xs.headD .non)&&xs.all λb=>(iR .lt a b).isSome
def leE(a b:D):aq:=!decide (enc b<enc a)
def v_(xs:aa D):aa D:=xs.mergeSort leE
noncomputable def jL(i:ai):aq:=decide (-(2 ^ 62)<=i)&&decide (i<2 ^ 62)
noncomputable def asB:D->Res aq
 |.bl b=>.ok b
 |_=>.bad
noncomputable def asI:D->Res ai
 |.int i=>.ok i
 |_=>.bad
inductive Fl where
 |nx (ρ:aa D)|rt (d:D)|bk (ρ:aa D)|ct (ρ:aa D)
noncomputable def aOp:Fl->Res D
 |.rt d=>.ok d
 |.nx _=>.ok .non
 |_=>.bad
noncomputable abbrev FE:=aa D->Res D
noncomputable abbrev FT:=aa D->Res aq
noncomputable abbrev FA:=aa D->Res (aa D)
noncomputable def iW(i:af):FE:=λρ=>match ρ.getD i .uD with|.uD=>.bad|d=>.ok d
noncomputable def bC(d:D):FE:=λ_=>.ok d
abbrev bN:FE:= iW 0
abbrev eY:FE:= iW 1
abbrev fV:FE:= iW 2
abbrev dO:FE:= iW 3
abbrev eV:FE:= iW 5
abbrev iY:FE:= iW 4
abbrev mF:FE:= iW 6
abbrev fB:FE:= iW 7
abbrev sG:FE:= iW 9
abbrev n_:FE:= iW 8
abbrev gM:FE:= iW 17
abbrev fC:FE:= iW 12
abbrev jW:FE:= iW 10
abbrev mC:FE:= iW 11
abbrev xT:FE:= iW 13
abbrev iK:FE:= iW 14
abbrev zU:FE:= iW 15
abbrev uU:FE:= iW 16
abbrev bK:FE:= bC (.int 0)
abbrev iZ:FE:= bC (.int 2147483647)
abbrev cJ:FE:= bC (.int 1)
abbrev wA:FE:= bC (.int 104729)
abbrev zV:FE:= bC (.int 48271)
abbrev lM:FE:= bC (.int 2147483629)
abbrev sS:FE:= bC (.int 4)
abbrev zW:FE:= bC (.int 17)
abbrev YS:FE:= bC (.int 5)
abbrev aFk:FE:= bC (.int 37)
abbrev zX:FE:= bC (.int 26)
abbrev gG:FE:= bC (.int 2)
abbrev aBf:FE:= bC (.int 8)
abbrev lY:FE:= bC (.int 3)
abbrev aC3:FE:= bC (.int 38)
abbrev YT:FE:= bC (.int 40)
abbrev aMq:FE:= bC (.int 6)
abbrev aHz:FE:= bC (.int 7)
abbrev VG:FE:= bC (.int 12)
abbrev YW:FE:= bC (.int 100)
abbrev aFl:FE:= bC (.int 20)
noncomputable def b2(f:D->D->Res D)(a b:FE):FE:=λρ=>do let x <- a ρ;let y <- b ρ;f x y
noncomputable def b1(f:D->Res D)(a:FE):FE:=λρ=>do let x <- a ρ;f x
def bTB(a:FE):FT:=λρ=>do let x <- a ρ;asB x
noncomputable def wB(a:FT):FT:=λρ=>do let x <- a ρ;pure (!x)
noncomputable def WT(a b:FT):FT:=λρ=>do let x <- a ρ;if x then b ρ else pure ag
noncomputable def bOr(a b:FT):FT:=λρ=>do let x <- a ρ;if x then pure ae else b ρ
def aJf(a:FE):FE:=λρ=>do let x <- a ρ;let k <- asB x;pure (.bl (!k))
def zY(a b:FE):FE:=λρ=>do let x <- a ρ;let k <- asB x;if k then b ρ else pure (.bl ag)
noncomputable def aN:FA:=λ_=>.ok []
noncomputable def aA(a:FE)(b:FA):FA:=λρ=>do let x <- a ρ;let xs <- b ρ;pure (x::xs)
def cZ(a:FA):FE:=λρ=>do let xs <- a ρ;if decide (xs.length<=lim) then pure (.tup xs) else .bad
def oR(a:FA):FE:=λρ=>do let xs <- a ρ;if decide (xs.length<=lim) then pure (.lst xs) else .bad
noncomputable def aK(f:aa D->Res D)(a:FA):FE:=λρ=>do let xs <- a ρ;f xs
def N6(a:FE):aa D->Res (ax ai):=λρ=>do let x <- a ρ;let i <- asI x;pure (ab i)
noncomputable def N7:aa D->Res (ax ai):=λ_=>.ok aj
def aOq:D->Res aq
 |.dct _=>.bad
 |.scr _=>.bad
 |.fdc _=>.bad
 |d=>aNt d
def bTr(a:FE):FT:=λρ=>do let x <- a ρ;aOq x
noncomputable def aOr:D->Res D
 |.int i=>.ok (.int (-i))
 |_=>.bad
def aI0:D->ax ai->ax ai->Res D
 |.lst xs,lo,hi=>if D.aW xs then .ok (.lst (cutD xs lo hi)) else .bad
 |.scr xs,lo,hi=>if D.aW xs then .ok (.lst (cutD xs lo hi)) else .bad
 |.tup xs,lo,hi=>if !D.aW xs||decide (aHy xs.length 0 lo=0/\aHy xs.length xs.length hi=xs.length) then .bad else .ok (.tup (cutD xs lo hi))
 |_,_,_=>.bad
def HY(o:gF):aa D->Res D
 |[]=>.bad
 |x::xs=>if ((x::xs).all λa=>a.fQ aV&&(x::xs).all λb=>(iR o a b).isSome) then .ok (xs.foldl (λm y=>if (iR o y m).getD ag then y else m) x) else .bad
def btD(o:gF)(ds:aa D)(i j:af):aq:=(iR o (ds.getD i .non) (ds.getD j .non)).getD ag
def dR:aa D->Res D
 |[.tup xs]=>.ok (.int xs.length)
 |[.lst xs]=>.ok (.int xs.length)
 |[.scr xs]=>.ok (.int xs.length)
 |[.cel _ xs]=>.ok (.int xs.length)
 |[.str x]=>if decide (x.length<=lim) then .ok (.int x.length) else .bad
 |_=>.bad
noncomputable def nZ(kvs:aa (D×D)):aa D:=kvs.map (·.1)
def YX:aa D->Res D
 |[.tup xs]=>if D.aW xs then .ok (.lst xs) else .bad
 |[.lst xs]=>if D.aW xs then .ok (.lst xs) else .bad
 |[.dct kvs]=>if kvs.all (λp=>!isTup p.1) then .ok (.lst (nZ kvs)) else .bad
 |_=>.bad
noncomputable def fX:aa D->Res D
 |[.tup xs]=>.ok (.tup xs)
 |[.lst xs]=>.ok (.tup xs)
 |_=>.bad
def lN:aa D->Res D
 |[.lst xs]=>if cA xs then .ok (.lst (v_ xs)) else .bad
 |_=>.bad
def Ty.nm:Ty->dy
 |.int=>"int" | .str=>"str" | .bool=>"bool" | .list=>"list" | .tuple=>"tuple" | .dict=>"dict"
def mU(t:Ty)(d:D):Res D:=do let k <- aMp t d;pure (.bl k)
noncomputable def bV(n:af)(f:aa D->Res D):aa D->Res D:=λds=>if decide (ds.length=n) then f ds else .bad
noncomputable abbrev FI:=aa D->Res (aa D×aq)
noncomputable def wC:D->Res (aa D)
 |.lst xs=>.ok xs
 |.tup xs=>.ok xs
 |_=>.bad
def kO:aa D->Res (aa D×aq)
 |[.int n]=>if jL n then .ok ((cr n.toNat).map λ(k:af)=>D.int (0+(k:ai)),ae) else .bad
 |_=>.bad
def H_:aa D->Res (aa D×aq)
 |[.int a,.int b]=>if jL a&&jL b then .ok ((cr (b-a).toNat).map λ(k:af)=>D.int (a+(k:ai)),ae) else .bad
 |_=>.bad
noncomputable def gP(f:FA)(g:aa D->Res (aa D×aq)):FI:=λρ=>do let xs <- f ρ;g xs
noncomputable def N8(n:af)(ρ:aa D):aa D:=(cr n).map λi=>ρ.getD i .uD
noncomputable def gQ:D->Res (aa D):=λd=>.ok [d]
noncomputable def aLw(m:af):D->Res (aa D)
 |.tup ds=>if decide (ds.length=m) then .ok ds else .bad
 |_=>.bad
def jM(n:af)(t:D->Res (aa D))(c:FT)(f:FE)(k:aq)(ρ:aa D)(acc:aa D)(x:D):Res (aa D):=do
 let bs <- t x
 let ok <- c (N8 n ρ++bs)
 if ok then (do
  let y <- f (N8 n ρ++bs)
  if k||y.pure then pure (acc++[y]) else .bad)
 else pure acc
noncomputable def fY(g:aa D->D->Res (aa D)):aa D->aa D->Res (aa D)
 |acc,[]=>.ok acc
 |acc,x::xs=>do let a <- g acc x;fY g a xs
def cY(n:af)(it:FI)(t:D->Res (aa D))(c:FT)(f:FE)(k:aq):FE:=λρ=>do
 let xs <- it ρ
 if decide (xs.1.length<=lim) then (do
  let ys <- fY (jM n t c f k ρ) [] xs.1
  pure (.lst ys)) else .bad
noncomputable def dC:FT:=λ_=>.ok ae
noncomputable abbrev FS:=aa D->Res Fl
def inner:D->aq
 |.lst xs=>D.aW xs
 |.dct kvs=>D.aW (kvs.map (·.2))
 |.cel _ xs=>D.aW xs
 |_=>ag
noncomputable def mG:FS:=λρ=>.ok (.nx ρ)
noncomputable def bG(f g:FS):FS:=λρ=>do
 let r <- f ρ
 match r with
 |.nx ρ'=>g ρ'
 |r=>.ok r
def bO(o:aq)(i:af)(f:FE)(k:aq):FS:=λρ=>do
 let d <- f ρ
 if (if o then k&&inner d else k||d.pure) then .ok (.nx (ρ.set i d)) else .bad
noncomputable def sIf(c:FT)(f g:FS):FS:=λρ=>do
 let k <- c ρ
 if k then f ρ else g ρ
noncomputable def jV(f:FE)(k:aq):FS:=λρ=>do
 let d <- f ρ
 if k||d.pure then .ok (.rt d) else .bad
def YZ(i:af):FS:=λρ=>do
 let d <- iW i ρ
 .ok (.rt d)
noncomputable def rtX:af:=1000000
noncomputable def VH(f:FE)(k:aq):FS:=λρ=>do
 let d <- f ρ
 if k||d.pure then .ok (.rt (.tup (d::ρ))) else .bad
def yN(i:af)(f:FE):FS:=λρ=>do
 let d <- f ρ
 match ρ.getD i .uD with
 |.lst xs=>if decide (xs.length<lim)&&d.pure then .ok (.nx (ρ.set i (.lst (xs++[d])))) else .bad
 |_=>.bad
def xU(i:af)(f:FE)(g:FE):FS:=λρ=>do
 let d <- g ρ
 let k <- f ρ
 match ρ.getD i .uD with
 |.dct kvs=>if decide (kvs.length<lim)&&LC kvs k&&d.pure then .ok (.nx (ρ.set i (.dct (putD kvs k d)))) else .bad
 |_=>.bad
noncomputable def tg1(i:af):D->aa D->Res (aa D):=λd ρ=>.ok (ρ.set i d)
noncomputable def Y0:aa af->aa D->aa D->aa D
 |i::is,d::ds,ρ=>Y0 is ds (ρ.set i d)
 |_,_,ρ=>ρ
def tgN(is:aa af):D->aa D->Res (aa D)
 |.tup ds,ρ=>if decide (ds.length=is.length) then .ok (Y0 is ds ρ) else .bad
 |_,_=>.bad
noncomputable def uV(t:D->aa D->Res (aa D))(body:FS):aa D->aa D->Res Fl
 |[],ρ=>.ok (.nx ρ)
 |x::xs,ρ=>do
  let ρ1 <- t x ρ
  let r <- body ρ1
  match r with
  |.nx ρ'=>uV t body xs ρ'
  |.ct ρ'=>uV t body xs ρ'
  |.bk ρ'=>.ok (.nx ρ')
  |.rt d=>.ok (.rt d)
def uW(it:FI)(t:D->aa D->Res (aa D))(body:FS):FS:=λρ=>do
 let xs <- it ρ
 if xs.2 then uV t body xs.1 ρ else .bad
def wF(i:af)(t:D->aa D->Res (aa D))(body:FS):FS:=λρ=>do
 let d <- iW i ρ
 let xs <- wC d
 uV t body xs ρ
def fnS(n m:af)(f:FS):aa D->Res D:=λds=>do
 let r <- f (ds++bX (m-n) .uD)
 aOp r
mutual
theorem aDw(a b:D)(h1:a.plain=ae)(h2:b.plain=ae)(h:eqD a b=ae):a=b:=by
 cases a with
 |int i=>
  cases b with
  |int j=>rw[eq_of_beq (show(i==j)=ae from h)]
  |str _=>exact fx0 h
  |tup _=>exact fx0 h
  |_=>exact fx0 h2
 |str i=>
  cases b with
  |str j=>rw[eq_of_beq (show(i==j)=ae from h)]
  |int _=>exact fx0 h
  |tup _=>exact fx0 h
  |_=>exact fx0 h2
 |tup xs=>
  cases b with
  |tup ys=>rw[Y4 xs ys h1 h2 h]
  |int _=>exact fx0 h
  |str _=>exact fx0 h
  |_=>exact fx0 h2
 |_=>exact fx0 h1
theorem Y4:∀(a b:aa D),D.jK a=ae->D.jK b=ae->uT a b=ae->a=b
 |[],[],_,_,_=>rfl
 |x::xs,y::ys,h1,h2,h=>by
  rw[D.jK,bq] at h1 h2;rw[uT,bq] at h;rw[aDw x y h1.1 h2.1 h.1,Y4 xs ys h1.2 h2.2 h.2]
 |[],_::_,_,_,h=>by exact fx0 h
 |_::_,[],_,_,h=>by exact fx0 h
end
mutual
theorem RJ(a:D)(h:a.plain=ae):eqD a a=ae:=by
 cases a with
 |int i=>exact fA i
 |str i=>exact fA i
 |tup xs=>exact IK xs h
 |_=>exact fx0 h
theorem IK:∀(a:aa D),D.jK a=ae->uT a a=ae
 |[],_=>rfl
 |x::xs,h=>by
  rw[D.jK,bq] at h;rw[uT,RJ x h.1,IK xs h.2];rfl
end
theorem Y5:∀(a b:aa af)(r t:aa ai),(a.map (λ(c:af)=>(c:ai)+1)++[0])++r=(b.map (λ(c:af)=>(c:ai)+1)++[0])++t->a=b/\r=t
 |[],[],r,t,h=>by simpa using h
 |[],c::b,r,t,h=>by
  simp only[je,dP,eg,bw,lI] at h;lia
 |c::a,[],r,t,h=>by
  simp only[je,dP,eg,bw,lI] at h;lia
 |c::a,d::b,r,t,h=>by
  simp only[eg,bw,lI] at h;obtain⟨e1,e2⟩:=Y5 a b r t h.2;exact⟨by rw[e1,show c=d by lia],e2⟩
mutual
theorem zZ:∀(a b:D)(r t:aa ai),a.plain=ae->b.plain=ae->enc a++r=enc b++t->a=b/\r=t
 |.int i,b,r,t,_,h2,h=>by
  cases b<;>simp only[enc,D.plain,c8,eg,lI,dP] at h h2<;>try omega
  ·exact⟨by rw[h.2.1],h.2.2⟩
 |.str x,b,r,t,_,h2,h=>by
  cases b with
  |str y=>
   simp only[enc,eg,lI,true_and] at h;obtain⟨e1,e2⟩:=Y5 _ _ _ _ h;refine⟨?_,e2⟩;cases x;cases y;simp only[] at e1
   congr 2
   exact om.mp e1
  |_=>simp[enc,D.plain] at h h2
 |.tup xs,b,r,t,h1,h2,h=>by
  cases b with
  |tup ys=>
   rw[D.plain] at h1 h2;simp only[enc,eg,lI,true_and] at h;obtain⟨e1,e2⟩:=RK xs ys r t h1 h2 h;exact⟨by rw[e1],e2⟩
  |_=>simp[enc,D.plain] at h h2
 |.uD,_,_,_,h,_,_=>by simp[D.plain] at h
 |.scr _,_,_,_,h,_,_=>by simp[D.plain] at h
 |.non,_,_,_,h,_,_=>by simp[D.plain] at h
 |.bl _,_,_,_,h,_,_=>by simp[D.plain] at h
 |.lst _,_,_,_,h,_,_=>by simp[D.plain] at h
 |.dct _,_,_,_,h,_,_=>by simp[D.plain] at h
theorem RK:∀(a b:aa D)(r t:aa ai),D.jK a=ae->D.jK b=ae->LK a++r=LK b++t->a=b/\r=t
 |[],[],r,t,_,_,h=>by simpa[LK] using h
 |[],_::_,r,t,_,_,h=>by simp[LK] at h
 |_::_,[],r,t,_,_,h=>by simp[LK] at h
 |x::xs,y::ys,r,t,h1,h2,h=>by
  rw[D.jK,bq] at h1 h2;simp only[LK,eg,lI,true_and,eP] at h;obtain⟨e1,e2⟩:=zZ x y _ _ h1.1 h2.1 h;obtain⟨e3,e4⟩:=RK xs ys r t h1.2 h2.2 e2;exact⟨by rw[e1,e3],e4⟩
end
theorem aFm(h1:a.plain=ae)(h2:b.plain=ae)(h:enc a=enc b):a=b:=(zZ a b [] [] h1 h2 (by rw[h])).1
theorem N_(p:aa ai)(r t:aa ai):p++r<p++t↔r<t:=by
 induction p with
 |nil=>rfl
 |cons x p ih=>rw[eg,eg,iw];simp[ih]
theorem aDx:∀(u v r t:aa ai),(∀z,u++z≠v)->(∀z,v++z≠u)->(u++r<v++t↔u<v)
 |[],v,_,_,h,_=>bg rfl (h v)
 |u,[],_,_,_,h=>bg rfl (h u)
 |x::u,y::v,r,t,h1,h2=>by
  rw[eg,eg,iw,iw];by_cases e:x=y
  ·subst e;have:=aDx u v r t (λz hz=>h1 z (by rw[eg,hz])) (λz hz=>h2 z (by rw[eg,hz]));simp[this]
  ·simp[e]
theorem Y6:∀(a b:aa af),(a.map (λ(c:af)=>(c:ai)+1)++[0]<b.map (λ(c:af)=>(c:ai)+1)++[0])↔a<b
 |[],[]=>by simp
 |[],c::b=>by
  simp only[je,dP,bw,eg,iw,List.nil_lt_cons,iff_true]
  left;lia
 |c::a,[]=>by
  simp only[je,dP,bw,eg,iw,List.not_lt_nil,iff_false,ii,not_and];exact⟨by lia,λh=>by lia⟩
 |c::a,d::b=>by
  simp only[bw,eg,iw,Y6 a b];constructor
  ·rintro(h|⟨h,k⟩)
   ·left;lia
   ·right;exact⟨by lia,k⟩
  ·rintro(h|⟨h,k⟩)
   ·left;lia
   ·right;exact⟨by lia,k⟩
mutual
theorem OD:∀(a b:D)(k:aq),a.plain=ae->b.plain=ae->iR .lt a b=ab k->k=decide (enc a<enc b)
 |.int i,.int j,k,_,_,h=>by
  rw[iR] at h;rw[<-cq h];simp[enc,gF.int,iw]
 |.str x,.str y,k,_,_,h=>by
  rw[iR] at h;rw[<-cq h];have:=Y6 x.cps.toList y.cps.toList;simp only[enc,gF.str,YQ,iw,true_and];simp[this]
 |.tup xs,.tup ys,k,h1,h2,h=>by
  rw[D.plain] at h1 h2;rw[iR] at h;rw[RL xs ys k h1 h2 h];simp[enc,iw]
 |.int _,.str _,_,_,_,h=>by exact nx0 h
 |.int _,.tup _,_,_,_,h=>by exact nx0 h
 |.int _,.uD,_,_,_,h=>by exact nx0 h
 |.int _,.scr _,_,_,_,h=>by exact nx0 h
 |.int _,.non,_,_,_,h=>by exact nx0 h
 |.int _,.bl _,_,_,_,h=>by exact nx0 h
 |.int _,.lst _,_,_,_,h=>by exact nx0 h
 |.int _,.dct _,_,_,_,h=>by exact nx0 h
 |.str _,.int _,_,_,_,h=>by exact nx0 h
 |.str _,.tup _,_,_,_,h=>by exact nx0 h
 |.str _,.uD,_,_,_,h=>by exact nx0 h
 |.str _,.scr _,_,_,_,h=>by exact nx0 h
 |.str _,.non,_,_,_,h=>by exact nx0 h
 |.str _,.bl _,_,_,_,h=>by exact nx0 h
 |.str _,.lst _,_,_,_,h=>by exact nx0 h
 |.str _,.dct _,_,_,_,h=>by exact nx0 h
 |.tup _,.int _,_,_,_,h=>by exact nx0 h
 |.tup _,.str _,_,_,_,h=>by exact nx0 h
 |.tup _,.uD,_,_,_,h=>by exact nx0 h
 |.tup _,.scr _,_,_,_,h=>by exact nx0 h
 |.tup _,.non,_,_,_,h=>by exact nx0 h
 |.tup _,.bl _,_,_,_,h=>by exact nx0 h
 |.tup _,.lst _,_,_,_,h=>by exact nx0 h
 |.tup _,.dct _,_,_,_,h=>by exact nx0 h
 |.uD,_,_,h,_,_=>by simp[D.plain] at h
 |.scr _,_,_,h,_,_=>by simp[D.plain] at h
 |.non,_,_,h,_,_=>by simp[D.plain] at h
 |.bl _,_,_,h,_,_=>by simp[D.plain] at h
 |.lst _,_,_,h,_,_=>by simp[D.plain] at h
 |.dct _,_,_,h,_,_=>by simp[D.plain] at h
theorem RL:∀(a b:aa D)(k:aq),D.jK a=ae->D.jK b=ae->dJ .lt a b=ab k->k=decide (LK a<LK b)
 |[],[],k,_,_,h=>by rw[dJ] at h;rw[<-cq h];simp[LK,gF.nat]
 |[],y::ys,k,_,_,h=>by rw[dJ] at h;rw[<-cq h];simp[LK,gF.nat,iw]
 |x::xs,[],k,_,_,h=>by rw[dJ] at h;rw[<-cq h];simp[LK,gF.nat,iw]
 |x::xs,y::ys,k,h1,h2,h=>by
  rw[D.jK,bq] at h1 h2;rw[dJ] at h;simp only[LK,iw,true_and,Int.lt_irrefl,false_or];cases e:eqD x y with
  |true=>
   rw[e,au rfl] at h;have:=aDw x y h1.1 h2.1 e;subst this;rw[RL xs ys k h1.2 h2.2 h];simp[N_]
  |false=>
   rw[e,az 0x2] at h;rw[OD x y k h1.1 h2.1 h];have hne:x≠y:=λz=>by subst z;rw[RJ x h1.1] at e;cases e
   have:=aDx (enc x) (enc y) (LK xs) (LK ys) (λz hz=>hne (zZ x y z [] h1.1 h2.1 (by simpa using hz)).1) (λz hz=>hne (zZ y x z [] h2.1 h1.1 (by simpa using hz)).1.symm);simp[this]
end
theorem Y7(a b c:D)(h1:leE a b=ae)(h2:leE b c=ae):leE a c=ae:=by
 simp only[leE,oy,tT] at *;exact λh=>by
  rcases(inferInstance:Std.Trichotomous (α:=aa ai) (·<·)) with _
  exact h1 (A6 (A7.mp h2) h)
theorem Y8(a b:D):(leE a b||leE b a)=ae:=by
 simp only[leE,gm,oy,tT];by_cases h:enc b<enc a
 ·right;exact List.lt_asymm h
 ·left;exact h
theorem fL(ds:aa D):(v_ ds).Perm ds:=List.mergeSort_perm ds leE
theorem j6(ds:aa D):(v_ ds).Pairwise λa b=>leE a b=ae:=List.pairwise_mergeSort (λa b c=>Y7 a b c) (λa b=>Y8 a b) ds
theorem wG{ds es:aa D}(hp:∀d∈ds,d.plain=ae)(h:ds.Perm es)(h1:ds.Pairwise λa b=>leE a b=ae)(h2:es.Pairwise λa b=>leE a b=ae):ds=es:=by
 refine C0 (λa b ha hb h1 h2=>?_) h1 h2 h;simp only[leE,oy,tT] at h1 h2;exact aFm (hp a ha) (hp b (h.mem_iff.mpr hb)) (List.le_antisymm h1 h2)
open L2
class KFrag where
 K:br
variable [KFrag]
def aC4(H:Hp)(a:ak)(xs:aa V):Prop:=(∃o,H a=ab (.frz o (.lst xs)))\/
 ∃(o:aT)(its:aw ah)(n:af),KFrag.K.lookup a=ab o/\o.cls=.type "list"/\o.dict=aj/\o.data=.seq its n/\its.size<=bn/\Vals xs its.toList
theorem aC4.sq(h:aC4 H a xs)(hK:KFrag.K=K):SqL K H a xs:=by
 subst hK;rcases h with ⟨o,h⟩|h
 ·exact .inl (.inr ⟨o,h⟩)
 ·exact .inr h
def kD:Key->D
 |.inl i=>.int i
 |.inr x=>.str x
noncomputable def RM:HO->aq
 |.lst _=>ae
 |.dK _=>ae
 |.dT _=>ae
 |_=>ag
def XO(a C:ak)(dx:ax ak)(h:aI):Prop:=∃o,h.get? a=ab o/\o.cls=.ref C/\o.dict=dx/\∃vs,o.data=.fields vs
def XD(dx:ak)(fs:aa (Str×Str))(h:aI):Prop:=∃mA,h.Ns1 dx mA/\sh mA (fs.map (·.1))/\∀f,match fs.lookup f with
 |some t=>∃tk,mA f=ab (.str t tk)
 |none=>mA f=aj
def XDs(H:Hp)(fs:aa (Str×Str)):ax ak->Prop
 |none=>fs=[]
 |some d=>H d=ab (.ext (XD d fs))
mutual
inductive Rep(P:ak->Prop)(H:Hp):V->D->Prop
 |non:Rep P H .non .non
 |bl (b:aq):Rep P H (.bl b) (.bl b)
 |int (i:ai):Rep P H (.int i) (.int i)
 |str (x:Str):Rep P H (.str x) (.str x)
 |tup {a:ak} {xs:aa V} {ds:aa D}:H a=ab (.tup xs)->bL P H xs ds->Rep P H (.ref a) (.tup ds)
 |lst {a:ak} {xs:aa V} {ds:aa D}:H a=ab (.lst xs)->P a->bL P H xs ds->Rep P H (.ref a) (.lst ds)
 |cel {a:ak} {xs:aa V} {ds:aa D}:H a=ab (.lst xs)->P a->bL P H xs ds->Rep P H (.ref a) (.cel a ds)
 |frz {a:ak} {xs:aa V} {ds:aa D}:aC4 H a xs->bL P H xs ds->Rep P H (.ref a) (.scr ds)
 |dK {a:ak} {kvs:aa (Key×V)} {ds:aa (D×D)}:H a=ab (.dK kvs)->P a->i_ P H kvs ds->(kvs.map (·.1)).Nodup->Rep P H (.ref a) (.dct ds)
 |dT {a:ak} {kvs:aa (aa Key×V)} {ds:aa (D×D)}:H a=ab (.dT kvs)->P a->oU P H kvs ds->(kvs.map (·.1)).Nodup->Rep P H (.ref a) (.dct ds)
 |fdK {a:ak} {o:aT} {kvs:aa (Key×V)} {ds:aa (D×D)}:H a=ab (.frz o (.dK kvs))->i_ P H kvs ds->(kvs.map (·.1)).Nodup->Rep P H (.ref a) (.fdc ds)
 |fdT {a:ak} {o:aT} {kvs:aa (aa Key×V)} {ds:aa (D×D)}:H a=ab (.frz o (.dT kvs))->oU P H kvs ds->(kvs.map (·.1)).Nodup->Rep P H (.ref a) (.fdc ds)
 |exc {a C:ak} {dx:ax ak} {c:Str} {fs:aa (Str×Str)}:ka KFrag.K cu c=ab (ab (.ref C))->H a=ab (.ext (XO a C dx))->XDs H fs dx->Rep P H (.ref a) (.exc c fs)
 |ins {a C dx:ak} {c:Str} {vs:aa (Str×V)} {fs:aa (Str×D)}:ka KFrag.K cu c=ab (ab (.ref C))->H a=ab (.ins C dx vs)->mH P H vs fs->Rep P H (.ref a) (.ins c fs)
 |adr {a:ak}:Rep P H (.ref a) (.adr a)
inductive mH(P:ak->Prop)(H:Hp):aa (Str×V)->aa (Str×D)->Prop
 |nil:mH P H [] []
 |cons {f:Str} {v:V} {d:D} {r:aa (Str×V)} {ds:aa (Str×D)}:Rep P H v d->mH P H r ds->mH P H ((f,v)::r) ((f,d)::ds)
inductive bL(P:ak->Prop)(H:Hp):aa V->aa D->Prop
 |nil:bL P H [] []
 |cons {v:V} {d:D} {vs:aa V} {ds:aa D}:Rep P H v d->bL P H vs ds->bL P H (v::vs) (d::ds)
inductive i_(P:ak->Prop)(H:Hp):aa (Key×V)->aa (D×D)->Prop
 |nil:i_ P H [] []
 |cons {k:Key} {v:V} {d:D} {r:aa (Key×V)} {ds:aa (D×D)}:Rep P H v d->i_ P H r ds->i_ P H ((k,v)::r) ((kD k,d)::ds)
inductive oU(P:ak->Prop)(H:Hp):aa (aa Key×V)->aa (D×D)->Prop
 |nil:oU P H [] []
 |cons {k:aa Key} {v:V} {d:D} {r:aa (aa Key×V)} {ds:aa (D×D)}:Rep P H v d->oU P H r ds->oU P H ((k,v)::r) ((.tup (k.map kD),d)::ds)
end
def A_(P:ak->Prop)(H H':Hp):Prop:=∀a o,H a=ab o->(P a\/RM o=ag)->H' a=ab o
theorem A_.same(h:cG H H'):A_ P H H':=λa o e _=>h a o e
theorem XDs.keep{P:ak->Prop}{H H':Hp}(k:A_ P H H')(q:XDs H fs dx):XDs H' fs dx:=by
 cases dx with
 |none=>exact q
 |some _=>exact k _ _ q (.inr rfl)
mutual
theorem Rep.gH{P P':ak->Prop}{H H':Hp}(k:A_ P H H')(m:∀a o,H a=ab o->P a->P' a){v:V}{d:D}(q:Rep P H v d):Rep P' H' v d:=by
 cases q with
 |non=>exact .non
 |bl b=>exact .bl b
 |int i=>exact .int i
 |str x=>exact .str x
 |tup e r=>exact .tup (k _ _ e (.inr rfl)) (bL.gH k m r)
 |lst e p r=>exact .lst (k _ _ e (.inl p)) (m _ _ e p) (bL.gH k m r)
 |cel e p r=>exact .cel (k _ _ e (.inl p)) (m _ _ e p) (bL.gH k m r)
 |frz e r=>exact .frz (e.imp (λz=>z.imp λo e=>k _ _ e (.inr rfl)) id) (bL.gH k m r)
 |dK e p r n=>exact .dK (k _ _ e (.inl p)) (m _ _ e p) (i_.gH k m r) n
 |dT e p r n=>exact .dT (k _ _ e (.inl p)) (m _ _ e p) (oU.gH k m r) n
 |fdK e r n=>exact .fdK (k _ _ e (.inr rfl)) (i_.gH k m r) n
 |fdT e r n=>exact .fdT (k _ _ e (.inr rfl)) (oU.gH k m r) n
 |exc n e q=>exact .exc n (k _ _ e (.inr rfl)) (XDs.keep k q)
 |ins n e r=>exact .ins n (k _ _ e (.inr rfl)) (mH.gH k m r)
 |adr=>exact .adr
theorem bL.gH{P P':ak->Prop}{H H':Hp}(k:A_ P H H')(m:∀a o,H a=ab o->P a->P' a){v:aa V}{d:aa D}(q:bL P H v d):bL P' H' v d:=by
 cases q with
 |nil=>exact .nil
 |cons r t=>exact .cons (Rep.gH k m r) (bL.gH k m t)
theorem mH.gH{P P':ak->Prop}{H H':Hp}(k:A_ P H H')(m:∀a o,H a=ab o->P a->P' a){v:aa (Str×V)}{d:aa (Str×D)}(q:mH P H v d):mH P' H' v d:=by
 cases q with
 |nil=>exact .nil
 |cons r t=>exact .cons (Rep.gH k m r) (mH.gH k m t)
theorem i_.gH{P P':ak->Prop}{H H':Hp}(k:A_ P H H')(m:∀a o,H a=ab o->P a->P' a){v:aa (Key×V)}{d:aa (D×D)}(q:i_ P H v d):i_ P' H' v d:=by
 cases q with
 |nil=>exact .nil
 |cons r t=>exact .cons (Rep.gH k m r) (i_.gH k m t)
theorem oU.gH{P P':ak->Prop}{H H':Hp}(k:A_ P H H')(m:∀a o,H a=ab o->P a->P' a){v:aa (aa Key×V)}{d:aa (D×D)}(q:oU P H v d):oU P' H' v d:=by
 cases q with
 |nil=>exact .nil
 |cons r t=>exact .cons (Rep.gH k m r) (oU.gH k m t)
end
theorem Rep.keep(k:A_ P H H')(m:∀a,P a->P' a)(q:Rep P H v d):Rep P' H' v d:=q.gH k λa _ _=>m a
theorem bL.keep(k:A_ P H H')(m:∀a,P a->P' a)(q:bL P H v d):bL P' H' v d:=q.gH k λa _ _=>m a
theorem mH.keep(k:A_ P H H')(m:∀a,P a->P' a)(q:mH P H v d):mH P' H' v d:=q.gH k λa _ _=>m a
theorem i_.keep(k:A_ P H H')(m:∀a,P a->P' a)(q:i_ P H v d):i_ P' H' v d:=q.gH k λa _ _=>m a
theorem oU.keep(k:A_ P H H')(m:∀a,P a->P' a)(q:oU P H v d):oU P' H' v d:=q.gH k λa _ _=>m a
theorem Rep.mono(r:Rep P H v d)(m:∀a,P a->P' a):Rep P' H v d:=r.keep (λ_ _ e _=>e) m
theorem bL.mono(r:bL P H v d)(m:∀a,P a->P' a):bL P' H v d:=r.keep (λ_ _ e _=>e) m
theorem Rep.same(r:Rep P H v d)(s:cG H H'):Rep P H' v d:=r.keep (.same s) λ_ h=>h
theorem bL.same(r:bL P H v d)(s:cG H H'):bL P H' v d:=r.keep (.same s) λ_ h=>h
noncomputable def Y9:HO->aq
 |.tup _=>ag
 |.frz _ (.lst _)=>ag
 |_=>ae
mutual
theorem Rep.wH{P P':ak->Prop}{H H':Hp}(k:∀a o,H a=ab o->Y9 o=ag->H' a=ab o){v:V}{d:D}(q:Rep P H v d)(h:d.pure=ae):Rep P' H' v d:=by
 cases q with
 |non=>exact .non
 |bl b=>exact .bl b
 |int i=>exact .int i
 |str x=>exact .str x
 |tup e r=>exact .tup (k _ _ e rfl) (bL.wH k r h)
 |frz e r=>exact .frz (e.imp (λz=>z.imp λo e=>k _ _ e rfl) id) (bL.wH k r h)
 |_=>exact fx0 h
theorem bL.wH{P P':ak->Prop}{H H':Hp}(k:∀a o,H a=ab o->Y9 o=ag->H' a=ab o){v:aa V}{d:aa D}(q:bL P H v d)(h:D.aW d=ae):bL P' H' v d:=by
 cases q with
 |nil=>exact .nil
 |cons r t=>
  rw[D.aW,bq] at h;exact .cons (Rep.wH k r h.1) (bL.wH k t h.2)
end
theorem Rep.bT(r:Rep P H v d)(h:d.pure=ae):Rep P' H v d:=r.wH (λ_ _ e _=>e) h
theorem bL.bT(r:bL P H v d)(h:D.aW d=ae):bL P' H v d:=r.wH (λ_ _ e _=>e) h
theorem bL.length:∀{v:aa V}{d:aa D},bL P H v d->v.length=d.length
 |_,_,.nil=>rfl
 |_,_,.cons _ t=>by rw[bj,bj,bL.length t]
theorem bL.get:∀{vs:aa V}{ds:aa D}{i:af}{d:D},bL P H vs ds->ds[i]?=ab d->∃v,vs[i]?=ab v/\Rep P H v d
 |_,_,_,_,.nil,e=>by simp at e
 |_,_,0,_,.cons r _,e=>by simp at e;subst e;exact⟨_,rfl,r⟩
 |_,_,i+1,d,.cons _ t,e=>by
  obtain⟨v,h1,h2⟩:=bL.get t (by simpa using e);exact⟨v,by simpa using h1,h2⟩
theorem bL.at:∀{vs:aa V}{ds:aa D}{i:af}{v:V},bL P H vs ds->vs[i]?=ab v->∃d,ds[i]?=ab d/\Rep P H v d
 |_,_,_,_,.nil,e=>by simp at e
 |_,_,0,_,.cons r _,e=>by simp at e;subst e;exact⟨_,rfl,r⟩
 |_,_,i+1,d,.cons _ t,e=>by
  obtain⟨v,h1,h2⟩:=bL.at t (by simpa using e);exact⟨v,by simpa using h1,h2⟩
theorem bL.append:∀{vs ws:aa V}{ds es:aa D},bL P H vs ds->bL P H ws es->bL P H (vs++ws) (ds++es)
 |_,_,_,_,.nil,s=>s
 |_,_,_,_,.cons r t,s=>.cons r (bL.append t s)
theorem bL.take:∀{vs:aa V}{ds:aa D}(n:af),bL P H vs ds->bL P H (vs.take n) (ds.take n)
 |_,_,0,_=>.nil
 |_,_,_+1,.nil=>.nil
 |_,_,n+1,.cons r t=>.cons r (bL.take n t)
theorem bL.drop:∀{vs:aa V}{ds:aa D}(n:af),bL P H vs ds->bL P H (vs.drop n) (ds.drop n)
 |_,_,0,r=>r
 |_,_,_+1,.nil=>.nil
 |_,_,n+1,.cons _ t=>bL.drop n t
theorem bL.snoc(t:bL P H vs ds)(r:Rep P H v d):bL P H (vs++[v]) (ds++[d]):=t.append (.cons r .nil)
theorem Rep.uD:¬Rep P H v .uD:=λh=>by cases h
abbrev All:ak->Prop:=λ_=>iA
abbrev New(H:Hp):ak->Prop:=λa=>H a=aj
theorem Rep.all(r:Rep P H v d):Rep All H v d:=r.mono λ_ _=>trivial
theorem bL.all(r:bL P H v d):bL All H v d:=r.mono λ_ _=>trivial
theorem cG.new(s:cG H H'):∀a,New H' a->New H a:=λa h=>s.free h
theorem cG.upd(h:H a=aj):cG H (upd H a o):=λb u e=>by rw[bF (cW e h)];exact e
def ER(H:Hp)(σ:St)(ρ:aa D):Prop:=∀i,ρ.getD i .uD≠.uD->∃v,σ[i]?=ab (ab v)/\Rep All H v (ρ.getD i .uD)
theorem ER.same(e:ER H σ ρ)(s:cG H H'):ER H' σ ρ:=λi h=>by
 obtain⟨v,h1,h2⟩:=e i h;exact⟨v,h1,h2.same s⟩
theorem PE.imp(h:PE X e t)(i:∀σ H Q,t' σ H Q->t σ H Q):PE X e t':=λpins s σ H Q I q=>h pins s σ H Q I (i σ H Q q)
theorem PT.imp(h:PT X e t)(i:∀σ H Q,t' σ H Q->t σ H Q):PT X e t':=λpins s σ H Q I q=>h pins s σ H Q I (i σ H Q q)
theorem PA.imp(h:PA X e t)(i:∀σ H Q,t' σ H Q->t σ H Q):PA X e t':=λpos pins s σ H Q I q=>h pos pins s σ H Q I (i σ H Q q)
theorem Rep.dom(r:Rep P H v d):Rep (λa=>P a/\H a≠aj) H v d:=r.gH (λ_ _ e _=>e) λa o e p=>⟨p,by rw[e];simp⟩
theorem Rep.Y_(r:Rep P H v d)(k:A_ P H H')(m:∀a o,H a=ab o->P a->P' a):Rep P' H' v d:=r.gH k m
def aOs(P:ak->Prop)(H:Hp)(v:V):D->Prop
 |.non=>v=.non
 |.bl b=>v=.bl b
 |.int i=>v=.int i
 |.str x=>v=.str x
 |.tup ds=>∃a xs,v=.ref a/\H a=ab (.tup xs)/\bL P H xs ds
 |.lst ds=>∃a xs,v=.ref a/\H a=ab (.lst xs)/\P a/\bL P H xs ds
 |.cel b ds=>∃xs,v=.ref b/\H b=ab (.lst xs)/\P b/\bL P H xs ds
 |.scr ds=>∃a xs,v=.ref a/\aC4 H a xs/\bL P H xs ds
 |.ins c fs=>∃a C dx vs,v=.ref a/\ka KFrag.K cu c=ab (ab (.ref C))/\H a=ab (.ins C dx vs)/\mH P H vs fs
 |.exc c fs=>∃a C dx,v=.ref a/\ka KFrag.K cu c=ab (ab (.ref C))/\H a=ab (.ext (XO a C dx))/\XDs H fs dx
 |.uD=>cv
 |.adr b=>v=.ref b
 |_=>iA
theorem Rep.inv(r:Rep P H v d):aOs P H v d:=by
 cases r with
 |non=>rfl
 |bl=>rfl
 |int=>rfl
 |str=>rfl
 |tup e r=>exact⟨_,_,rfl,e,r⟩
 |lst e p r=>exact⟨_,_,rfl,e,p,r⟩
 |cel e p r=>exact⟨_,rfl,e,p,r⟩
 |frz e r=>exact⟨_,_,rfl,e,r⟩
 |ins n e r=>exact⟨_,_,_,_,rfl,n,e,r⟩
 |exc n e r=>exact⟨_,_,_,rfl,n,e,r⟩
 |adr=>rfl
 |_=>trivial
end Mi
namespace L2
open PySem PySem.Spec PyProof.Rows
noncomputable def gJ(own:aa Str)(x:Str):Str:=if own.contains x then x++(" " : Str) else x
def clF(env:dn):aa (Str×i9)->aa (Str×ak)->aa (Str×ak)
 |[],acc=>acc
 | (n,k)::r,acc=>clF env r (if k==.free then (n,(env.cells.lookup n).getD 0)::acc else acc)
theorem sW:∀(names:aa (Str×i9))(acc:aa (Str×ak)),(∀y∈names,y.2=.free->∃c,env.cells.lookup y.1=ab c)->
  (forIn names acc λx cs=>(match x with
   | (name,kind)=>if (kind==.free)=ae then cellOf env name >>= λc=>pure (xu ((name,c)::cs)) else pure (xu cs):dt (ForInStep (aa (Str×ak)))))=(pure (clF env names acc):dt _)
 |[],acc,_=>by rw[kL];rfl
 | (n,k)::r,acc,h=>by
  rw[oz];by_cases hk:(k==.free)=ae
  ·have hk':k=.free:=by simpa using hk
   obtain⟨c,e⟩:=h (n,k) (b6 ..) hk';have e':cellOf env n=pure c:=by
    unfold cellOf;have e2:env.cells.lookup n=ab c:=e;rw[e2]
   dsimp only;rw[au hk,e',pure_bind,pure_bind];dsimp only;rw[sW r _ λy hy=>h y (cg _ hy)];have e2:env.cells.lookup n=ab c:=e;simp only[clF,hk,cy,e2,xy]
  ·dsimp only;rw[az hk,pure_bind];dsimp only;rw[sW r _ λy hy=>h y (cg _ hy)];simp only[clF,hk,c8,cK]
theorem VJ(h:∀y∈scope.names,y.2=.free->∃c,env.cells.lookup y.1=ab c):closureFor scope env=pure (clF env scope.names []):=by
 unfold closureFor;have:=sW scope.names [] h;simp only[bind_pure] at *;exact this
theorem OJ:∀{names:aa (Str×i9)}{acc:aa (Str×ak)}{x:Str}{c:ak},(∀y∈names,y.2=.free->∃c,env.cells.lookup y.1=ab c)->(∀x c,acc.lookup x=ab c->env.cells.lookup x=ab c)->
  (clF env names acc).lookup x=ab c->env.cells.lookup x=ab c
 |[],acc,x,c,_,h,e=>h x c e
 | (n,k)::r,acc,x,c,q,h,e=>by
  unfold clF at e;refine OJ (λy hy=>q y (cg _ hy)) (λy d hy=>?_) e;by_cases hk:(k==.free)=ae
  ·rw[au hk,iP] at hy;obtain⟨c',e'⟩:=q (n,k) (b6 ..) (by simpa using hk);have e2:env.cells.lookup n=ab c':=e';cases hyn:y==n with
   |true=>
    rw[hyn] at hy;have:y=n:=by simpa using hyn
    subst this;rw[e2] at hy;simp only[xy] at hy;rw[e2];exact hy
   |false=>rw[hyn] at hy;exact h y d hy
  ·rw[az hk] at hy;exact h y d hy
theorem ZC:∀{names:aa (Str×i9)}{acc:aa (Str×ak)}{x:Str},(∃c,acc.lookup x=ab c)->∃c,(clF env names acc).lookup x=ab c
 |[],_,_,h=>h
 | (n,k)::r,acc,x,⟨c,h⟩=>by
  unfold clF;refine ZC ?_;by_cases hk:(k==.free)=ae
  ·rw[au hk,iP];cases x==n with
   |true=>exact⟨_,rfl⟩
   |false=>exact⟨c,h⟩
  ·rw[az hk];exact⟨c,h⟩
theorem O3:∀{names:aa (Str×i9)}{acc:aa (Str×ak)}{x:Str},(x,kM)∈names->∃c,(clF env names acc).lookup x=ab c
 | (n,k)::r,acc,x,h=>by
  unfold clF;rcases b9.mp h with e|h
  ·cases e;refine ZC ?_;rw[au 0x4,iP];simp
  ·exact O3 h
structure cL(N:aa Str)(sc scope:f_)(own:aa Str):Prop where
 kind:scope.kind=.function
 nocell:∀y∈scope.names,y.2≠.cell
 names:∀y∈scope.names,y.2=.local->scope.names.lookup y.1=ab .local
 free:∀y∈scope.names,y.2=.free->sc.names.lookup y.1=ab .cell\/sc.names.lookup y.1=ab .free
 ownl:∀x∈own,scope.names.lookup x=ab .local
 hid:∀x∈own,scope.names.lookup (x++(" " : Str))=aj
 loc:∀y∈scope.names,y.2=.local->y.1∈own\/y.1∉N
structure dF(X X':Cx)(scope:f_)(own:aa Str):Prop where
 prog:X'.prog=X.prog
 w:X'.w=X.w
 K:X'.K=X.K
 mg:X'.mg=X.mg
 base:X'.base=X.base
 A:X'.A=X.A
 N:X'.N=X.N.map (gJ own)++own
 scope:X'.env.scope=ji scope X.env
 calm:X'.calm=X.calm
 xe:X'.xe=λ_ _=>cv
def RN(X:Cx)(scope:f_)(cl:aa (Str×ak))(C:ak)(own:aa Str)(s₂:al)(H₂:Hp)(fp:aa ak):Cx:=
 {X with N:=X.N.map (gJ own)++own,s₀:=s₂,H₀:=H₂,env:=compEnvC scope cl C X.env,outer:=X.stack,stack:=X.stack,ex:=fp,fn:=λ_=>ag,pn:=[],xe:=λ_ _=>cv}
theorem ZD:dF X (RN X scope cl C own s₂ H₂ fp) scope own:=
 ⟨rfl,rfl,rfl,rfl,rfl,rfl,rfl,rfl,rfl,rfl⟩
def Ext(σ σ2:St):Prop:=σ2.length=σ.length/\∀(i:af) v,σ[i]?=ab (ab v)->σ2[i]?=ab (ab v)
def O4(wi:TI)(g:TG)(tc:TT)(te:TE)(m:af):TE:=λσ H Q=>wi σ H λJ H1=>∀p,H1 p=aj->
 ∃W:af->af->aa V->Hp->Prop,(∃n,W 0 n [] (upd H1 p (.lst [])))/\∀i n ys H,W i n ys H->H p=ab (.lst ys)/\((J.stop i H/\Q (.ref p) H)\/(J.go i H/\ys.length<bn/\
  ∀x H2,J.yld i H x H2->g x (σ++bX m aj) H2 λσ2 H3=>Ext (σ++bX m aj) σ2/\tc σ2 H3 λb H4=>if b=ae then te σ2 H4 λy H5=>H5 p=ab (.lst ys)/\∃n',n'<n/\W (i+1) n' (ys++[y]) (upd H5 p (.lst (ys++[y])))
   else ∃n',n'<n/\W (i+1) n' ys H4))
section
theorem Inv.comp(I:Inv X pins σ H2 s2)(S:cL X.N X.env.scope scope own)(hf:∀b∈fp,WR X pins H2 b)
 (hfx:∀b∈fp,b<s2.heap.objs.size)(hns:h1.Ns (s2.heap.objs.size+1) (λ_=>aj))
 (hk:∀b o,s2.heap.get? b=ab o->h1.get? b=ab o)(hacc:h1.get? s2.heap.objs.size=ab {cls:=.type "list",data:=.seq #[]}) :
  Inv (RN X scope (clF X.env scope.names []) (s2.heap.objs.size+1) own s2 H2 fp) [] (σ++bX own.length aj) (upd H2 s2.heap.objs.size (.lst [])) {s2 with heap:=h1,toks:=t1}:=by
 have hD:H2 s2.heap.objs.size=aj:=I.hok.fresh (ba _);have hC:H2 (s2.heap.objs.size+1)=aj:=I.hok.fresh (gN _);have cells:∀y∈scope.names,y.2=.free->∃c,X.env.cells.lookup y.1=ab c:=λy hy hk=>I.ok.has y.1 (S.free y hy hk)
 have sub:∀x c,(clF X.env scope.names []).lookup x=ab c->X.env.cells.lookup x=ab c:=λx c e=>OJ cells (λ_ _ h=>by simp at h) e
 have relk:∀x,(ji scope X.env).names.lookup x=ab .cell\/(ji scope X.env).names.lookup x=ab .free->(x,kM)∈scope.names:=by
  intro x hx;have go:∀(l:aa (Str×i9)),(∀y∈l,y.2≠.cell)->((l.map λ(n,k)=>if (k==kM&&X.env.scope.kind==.function&&X.env.kindOf n==ab .cell) then (n,xz) else (n,k)).lookup x=ab .cell\/(l.map λ(n,k)=>if (k==kM&&X.env.scope.kind==.function&&X.env.kindOf n==ab .cell) then (n,xz) else (n,k)).lookup x=ab .free)->(x,kM)∈l:=by
   intro l;induction l with
   |nil=>intro _ h;rcases h with h|h<;>simp at h
   |cons p l ih=>
    obtain⟨n,k⟩:=p;intro nc h;rw[bw] at h;dsimp only at h;by_cases hc:(k==kM&&X.env.scope.kind==.function&&X.env.kindOf n==ab .cell)=ae
    ·rw[au hc] at h;rw[iP] at h;cases e:x==n with
     |true=>
      have:x=n:=by simpa using e
      subst this;simp only[bq] at hc;have:k=.free:=by simpa using hc.1.1
      subst this;exact b6 ..
     |false=>
      rw[e] at h;exact cg _ (ih (λy hy=>nc y (cg _ hy)) h)
    ·rw[az hc] at h;rw[iP] at h;cases e:x==n with
     |true=>
      have:x=n:=by simpa using e
      subst this;rw[e] at h;dsimp only at h;rcases h with h|h
      ·exact bg (cq h) (nc (x,k) (b6 ..))
      ·have:=cq h;subst this;exact b6 ..
     |false=>
      rw[e] at h;exact cg _ (ih (λy hy=>nc y (cg _ hy)) h)
  exact go scope.names S.nocell hx
 have hne:s2.heap.objs.size≠s2.heap.objs.size+1:=cw (kq _);have hlt:∀b o,s2.heap.get? b=ab o->b<s2.heap.objs.size:=λb o e=>bE e
 have hstk:∀b∈frs X.stack,b<s2.heap.objs.size:=λb hb=>by
  obtain⟨_,o,ho,_⟩:=I.stack.mem hb;exact hlt b o ho
 refine⟨⟨I.mod,?_,I.ok.glob,I.ok.blt,gN _,λx y c e1 e2=>I.ok.inj x y c (sub x c e1) (sub y c e2),λx hx=>?_,λ_ _ h=>(by cases h),I.ok.hd,I.ok.frames,.inl rfl,λb hb=>?_,λb o e=>I.bs b o e,?_,λb o e hb=>?_,λb hb hz=>?_,I.stack,I.W2⟩,
  rfl,I.bare,Un.laid hk (ba _) hD,?_,λx c e=>?_,?_,λx c e=>?_,λp hp=>(by simp[RN] at hp),?_,?_⟩
 ·exact S.kind
 ·have hx':(ji scope X.env).names.lookup x=ab .cell\/(ji scope X.env).names.lookup x=ab .free:=hx;exact O3 (relk x hx')
 ·refine⟨cw (kb (hfx b hb)),λx c e z=>?_⟩;exact(hf b hb).2.2.2.2.1 x c (sub x c e) z
 ·exact dw I.ok.bsz I.sz
 ·rcases(hf b hb).2.2.2.1 with z|z
  ·exact I.ok.noex b o e z
  ·exact bg (dm (bE e) (dw I.ok.bsz z)) (gw _)
 ·rcases b9.mp (I.Q4 b hz) with z'|z'
  ·exact(hf b hb).2.1 z'
  ·exact(hf b hb).2.2.1 z'
 ·refine⟨_,hns,λi x v e1 e2 e3=>?_⟩;have hi:i<σ.length:=by
   rcases t0 i σ.length with h|h
   ·exact h
   ·rw[ic h,ky] at e2;split at e2<;>cases e2
  rw[ir hi] at e2;have hiN:i<X.N.length:=by rw[<-I.len];exact hi
  have e1':(X.N.map (gJ own))[i]?=ab x:=by
   have:(X.N.map (gJ own)++own)[i]?=ab x:=e1;rwa [ir (by rw[bd];exact hiN)] at this
  rw[lm] at e1';obtain⟨y,hy,ey⟩:=n9.mp e1';have hyN:y∈X.N:=nX hy;have e3':(ji scope X.env).names.lookup x=ab .local\/(ji scope X.env).names.lookup x=ab .cell\/(ji scope X.env).names.lookup x=ab .free:=e3;have keys:∀z k,(ji scope X.env).names.lookup z=ab k->∃k',scope.names.lookup z=ab k'/\(k=.local->k'=.local):=by
   intro z k;show(scope.names.map λ(n,k)=>if (k==kM&&X.env.scope.kind==.function&&X.env.kindOf n==ab .cell) then (n,xz) else (n,k)).lookup z=ab k->_;generalize scope.names=l;induction l with
   |nil=>intro h;simp at h
   |cons p l ih=>
    obtain⟨n,k0⟩:=p;intro h;rw[bw] at h;dsimp only at h;by_cases hc:(k0==kM&&X.env.scope.kind==.function&&X.env.kindOf n==ab .cell)=ae
    ·rw[au hc,iP] at h;rw[iP];cases e:z==n with
     |true=>
      rw[e] at h;dsimp only at h;cases h;exact⟨k0,rfl,λq=>by cases q⟩
     |false=>rw[e] at h;exact ih h
    ·rw[az hc,iP] at h;rw[iP];cases e:z==n with
     |true=>
      rw[e] at h;dsimp only at h;cases h;exact⟨_,rfl,λq=>q⟩
     |false=>rw[e] at h;exact ih h
  by_cases hown:own.contains y=ae
  ·exfalso;have ex:x=y++(" " : Str):=by rw[<-ey];unfold gJ;rw[au hown]
   have hn:=S.hid y (by simpa using hown);rw[<-ex] at hn;rcases e3' with q|q|q
   all_goals
    obtain⟨k',hk',_⟩:=keys _ _ q;rw[hn] at hk';cases hk'
  ·have ex:x=y:=by rw[<-ey];unfold gJ;rw[az hown]
   subst ex;rcases e3' with q|q
   ·exfalso;obtain⟨k',hk',hl⟩:=keys _ _ q;have:=hl rfl;subst this;rcases S.loc _ (ms hk') rfl with z|z
    ·exact hown (by simpa using z)
    ·exact z hyN
   ·have hfr:=relk x q;have hv:=S.free _ hfr rfl;obtain⟨m,_,hl⟩:=I.loc;obtain⟨u,ru,lk⟩:=hl i x v hy e2 (.inr hv);refine⟨u,ru,.inr ⟨q,?_⟩⟩;rcases lk with ⟨z,_⟩|⟨_,c,hc,o,ho,hd⟩
    ·have z':X.env.scope.names.lookup x=ab .local:=z;rcases hv with hv|hv<;>(rw[z'] at hv;cases hv)
    ·obtain⟨c',hc'⟩:=O3 hfr;have:=sub x c' hc';rw[hc] at this;cases this;exact⟨c,hc',o,hk c o ho,hd⟩
 ·obtain⟨v,z⟩:=I.cell x c (sub x c e);obtain⟨o,ho,hd⟩:=z;exact⟨v,o,hk c o ho,hd⟩
 ·show upd H2 _ _ (s2.heap.objs.size+1)=aj;rw[bF (c5 hne)];exact hC
 ·obtain⟨v,o,ho,_⟩:=I.cell x c (sub x c e);show upd H2 _ _ c=aj;rw[bF (cw (hlt c o ho))];exact I.freeC x c (sub x c e)
 ·exact I.hok.laid hk (ba _) ⟨di _,[],0,.nil,hacc⟩
 ·show(σ++bX own.length aj).length=(X.N.map (gJ own)++own).length;rw[cx,cx,sD,bd,I.len]
end
section
variable {X:Cx} {scope:f_} {own:aa Str}
def cI(X':Cx)(σ:St)(fp:aa ak)(tn:af->aI->Prop)(W:af->af->aa V->Hp->Prop)(n:af)(s:al):Prop:=∃i ys H',Inv X' [] σ H' s/\tn i s.heap/\(∀b∈fp,H' b=aj)/\W i n ys H'
abbrev cE(X X':Cx)(use:ax (ah->dt iE))(QQ:ah->al->Prop)(p:ak):ah->al->Prop:=notedBy (av X.prog X.w) X.A X'.env λe s'=>mM (av X.prog X.w) X.A X.xe use QQ (.ref p) (p+1) (.error e) s'
def cB(X':Cx)(σ:St)(fp:aa ak)(tn:af->aI->Prop)(W:af->af->aa V->Hp->Prop)(n i:af)(h:aI):Prop:=∀{ys':aa V}{H9:Hp}{s9:al}{σ9:St},Ext σ σ9->Inv X' ([]++vL fp h) σ9 H9 s9->(∃n',n'<n/\W (i+1) n' ys' H9)->∃m,m<n/\cI X' σ fp tn W m s9
theorem O5(S:cL X.N X.env.scope scope own)(hcalm:X.calm=ae)(hi:PI X tg iter wi)
 (hg:∀X',dF X X' scope own->PG X' tg g)(hc:(ifs=[]/\tc=λ_ H Q=>Q ae H)\/∃c,ifs=[c]/\∀X',dF X X' scope own->PT X' c tc)(he:∀X',dF X X' scope own->PE X' elt te)
 (hs:∀x,fw iter X.env x=pure x)(I:Inv X pins σ H s)(h:O4 wi g tc te own.length σ H R)
 (last:∀{p C:ak} {H5:Hp} {s6:al} {m6:Str->ax ah},Inv X pins σ H5 s6->WR X pins H5 C->s6.heap.Ns C m6->R (.ref p) H5->mM (av X.prog X.w) X.A X.xe use QQ (.ref p) C (.ok .next) s6) :
  wpAny (av X.prog X.w) X.A (A8 (.ListComp elt [⟨tg,iter,ifs,0⟩] scope pos) scope X.env ps (xA []) ag (bm iter X.env) use) QQ X.xe s:=by
 have cells:∀y∈scope.names,y.2=.free->∃c,X.env.cells.lookup y.1=ab c:=λy hy hk=>I.ok.has y.1 (S.free y hy hk)
 refine wpAny_comprehension_free rfl hs (VJ cells) S.kind S.names (thn (hi pins s σ H _ I h) λxv s1 h1=>thn h1 λitv s2 h2=>?_);obtain⟨it,fp,tn,J,H2,e,I2,T,st2,f2,hW⟩:=h2;subst e;have hD:H2 s2.heap.objs.size=aj:=I2.hok.fresh (ba _);obtain⟨W,⟨n0,w0⟩,turn⟩:=hW _ hD;have hfx:∀b∈fp,b<s2.heap.objs.size:=λb hb=>by
  obtain⟨o,ho,_⟩:=T.obj 0 _ st2 b hb;exact bE ho
 refine jb (wpAny_newFunctionEnv S.nocell (by intro y hy;simp at hy) (λh₁ hns₁ hsb₁=>?_) S.kind);dsimp only at hns₁ hsb₁ ⊢;have hC:(s2.heap.push {cls:=.type "list",dict:=aj,data:=.seq ([]:aa ah).toArray}).objs.size=s2.heap.objs.size+1:=dL ..;have hne:s2.heap.objs.size≠s2.heap.objs.size+1:=cw (kq _);rw[hC] at hns₁ hsb₁ ⊢;have old:∀b o,s2.heap.get? b=ab o->h₁.get? b=ab o:=λb o e=>hsb₁.extBut b o (cw (kb (bE e))) (bz _ (bz _ e))
 have hacc:h₁.get? s2.heap.objs.size=ab {cls:=.type "list",data:=.seq #[]}:=hsb₁.extBut _ _ hne (bz _ (cS _ rfl));have I4:=Inv.comp (t1:=s2.toks+([]:aa (Str×ah)).length) I2 S f2 hfx hns₁ old hacc;generalize hX':RN X scope (clF X.env scope.names []) (s2.heap.objs.size+1) own s2 H2 fp=X' at I4;have cc:dF X X' scope own:=by rw[<-hX'];exact ZD
 have eenv:X'.env=compEnvC scope (clF X.env scope.names []) (s2.heap.objs.size+1) X.env:=by rw[<-hX'];rfl
 have eA:X'.A=X.A:=cc.A;have ep:X'.prog=X.prog:=cc.prog;have ew:X'.w=X.w:=cc.w;have efs:X'.fs=frs X.stack:=by rw[<-hX'];rfl
 have eex:X'.ex=fp:=by rw[<-hX'];rfl
 have es0:X'.s₀=s2:=by rw[<-hX'];rfl
 have eH0:X'.H₀=H2:=by rw[<-hX'];rfl
 have epn:X'.pn=[]:=by rw[<-hX'];rfl
 have eK:X'.K=X.K:=cc.K;have exe:=cc.xe;have ecalm:X'.calm=ae:=cc.calm.trans hcalm
 -- the iterator's records within the block
 have fpok:∀{H':Hp},(∀b∈fp,H' b=aj)->∀b∈fp,WR X' [] H' b:=λ{H'} hn b hb=>by
  obtain⟨_,f1,f3,_,f5,_⟩:=f2 b hb;refine⟨hn b hb,?_,?_,.inl (by rw[eex];exact hb),λx c e=>?_,λp hp=>by rw[epn] at hp;simp at hp⟩
  ·rw[eenv];exact cw (kb (hfx b hb))
  ·rw[efs];intro z;rcases b9.mp (I2.Q4 b z) with z|z
   ·exact f1 z
   ·exact f3 z
  ·rw[eenv] at e;exact f5 x c (OJ cells (λ_ _ h=>by simp at h) e)
 have st4:tn 0 h₁:=T.keep _ _ _ st2 λb _ o e=>old b o e
 have fr4:∀b∈fp,(upd H2 s2.heap.objs.size (.lst [])) b=aj:=λb hb=>by rw[bF (cw (hfx b hb))];exact(f2 b hb).1
 have loop:∀s4:al,s4={s2 with heap:=h₁,toks:=s2.toks+([]:aa (Str×ah)).length}->
   codeAny (av X.prog X.w) X.A (.compLoop (.ListComp elt [⟨tg,iter,ifs,0⟩] scope pos) 0 (.ref it) (.ref s2.heap.objs.size) X'.env)
    (mM (av X.prog X.w) X.A X.xe use QQ (.ref s2.heap.objs.size) (s2.heap.objs.size+1)) s4:=by
  rintro s4 rfl;have put:∀(n i:af)(ys:aa V)(s7:al)(σ8:St)(H8:Hp)(s8:al),cB X' (σ++bX own.length aj) fp tn W n i s7.heap->Inv X' ([]++vL fp s7.heap) σ8 H8 s8->Ext (σ++bX own.length aj) σ8->ys.length<bn->(te σ8 H8 λy H5=>H5 s2.heap.objs.size=ab (.lst ys)/\∃n',n'<n/\W (i+1) n' (ys++[y]) (upd H5 s2.heap.objs.size (.lst (ys++[y]))))->
    wpAny (av X.prog X.w) X.A (bm elt X'.env) (λx s₄=>wpAny (av X.prog X.w) X.A (call (.builtin "list.append") [.ref s2.heap.objs.size,x]) (λ_ s₅=>∃m,m<n/\cI X' (σ++bX own.length aj) fp tn W m s₅) (cE X X' use QQ s2.heap.objs.size) s₄) (cE X X' use QQ s2.heap.objs.size) s8:=by
   intro n i ys s7 σ8 H8 s8 back I8 ext8 hlen q8;have he':=he X' cc _ s8 _ H8 _ I8 q8;rw[ep,ew,eA,exe] at he';refine fR he' (λyv s10 ⟨y,H10,I10,r10,p10,q10⟩=>?_) λ_ _ z=>fj z
   have hm:=vU _ s10 σ8 H10 (.ref s2.heap.objs.size) [y] (.ref s2.heap.objs.size) [yv] (λ_ H11=>∃n',n'<n/\W (i+1) n' (ys++[y]) H11) I10 rfl (.cons r10 .nil) ⟨s2.heap.objs.size,ys,y,rfl,rfl,p10,hlen,q10⟩;rw[ep,ew,eA,exe] at hm;exact fR hm (λ_ s11 ⟨_,H11,I11,_,q11⟩=>back ext8 I11 q11) λ_ _ z=>fj z
  have key:∀(PO:af->al->Prop),(∀(n i:af)(ys:aa V)(s7:al)(σ8:St)(H8:Hp)(s8:al),cB X' (σ++bX own.length aj) fp tn W n i s7.heap->Inv X' ([]++vL fp s7.heap) σ8 H8 s8->Ext (σ++bX own.length aj) σ8->ys.length<bn->(tc σ8 H8 λb H4=>if b=ae then te σ8 H4 λy H5=>H5 s2.heap.objs.size=ab (.lst ys)/\∃n',n'<n/\W (i+1) n' (ys++[y]) (upd H5 s2.heap.objs.size (.lst (ys++[y]))) else ∃n',n'<n/\W (i+1) n' ys H4)->PO n s8)->
    ∀n s5,(cI X' (σ++bX own.length aj) fp tn W n s5)->wpAny (av X.prog X.w) X.A (hX (.ref it)) (λr s₁=>match r with
     |none=>mM (av X.prog X.w) X.A X.xe use QQ (.ref s2.heap.objs.size) (s2.heap.objs.size+1) (.ok .next) s₁
     |some v=>wpAny (av X.prog X.w) X.A (nL tg (.ref it) v) (λ_ s₀=>wpAny (av X.prog X.w) X.A (nE tg X'.env v) (λ_ s₂=>PO n s₂) (cE X X' use QQ s2.heap.objs.size) s₀) (cE X X' use QQ s2.heap.objs.size) s₁) (cE X X' use QQ s2.heap.objs.size) s5:=by
   intro PO hPO;rintro n s5 ⟨i,ys,H5,I5,st5,fr5,w5⟩;obtain⟨hacc5,tr⟩:=turn i n ys H5 w5;rcases tr with ⟨stop,q⟩|⟨go,hlen,step⟩
   ·have done:=T.done X' ep ew eK ecalm i [] s5 _ H5 (cE X X' use QQ s2.heap.objs.size) I5 (fpok fr5) st5 stop;rw[eA] at done;refine thn done λr s6 ⟨hr,I6⟩=>?_
    subst hr;obtain⟨m6,hn6,_⟩:=id I6.loc;rw[eenv] at hn6;have u6:Un (frs X.stack) fp H2 H5 s2.heap s6.heap:=by
     have:=I6.base;rw[efs,eex,eH0,es0] at this;exact this
    have hCn:H5 (s2.heap.objs.size+1)=aj:=by
     have:=I6.free;rw[eenv] at this;exact this
    have hok6:HOk X.prog X.w H5 s6.heap:=by
     have:=I6.hok;rw[ep,ew] at this;exact this
    have hos:s6.os=s2.os:=by have:=I6.os;rw[es0] at this;exact this
    obtain⟨hh,gg,dd,tt,oo⟩:=s6;obtain rfl:oo=s2.os:=hos;have fin:=Inv.call (g':=gg) (d':=dd) (t':=tt) (ch:=fp) I2 u6 hok6 I6.bare λb hb=>⟨(f2 b hb).2.2.2.1,(f2 b hb).2.1,(f2 b hb).2.2.2.2.1,(f2 b hb).2.2.2.2.2⟩
    refine last fin ⟨hCn,iF (kb I2.lt),I2.aNo (gN _),.inr (dw I2.sz (gN _)),λx c e z=>?_,λp hp z=>?_⟩ hn6 q
    ·obtain⟨v,qq⟩:=I2.cell x c e;exact bg (kb qq.lt) (by rw[z];exact gw _)
    ·exact bg (kb (bE (I2.pin p hp).1)) (by rw[z];exact gw _)
   ·have item:=T.item X' ep ew eK ecalm i [] s5 _ H5 (cE X X' use QQ s2.heap.objs.size) I5 (fpok fr5) st5 go;rw[eA] at item;refine thn item λr s6 ⟨u,hr,h6⟩=>?_
    subst hr;refine thn h6 λ_ s7 ⟨x,H7,I7,r7,y7,st7,fr7⟩=>?_
    have I7':=I7.pinned (fpok fr7) (T.obj _ _ st7);have hg':=hg X' cc _ s7 _ H7 x u _ I7' r7 (step x H7 y7);rw[ep,ew,eA,exe] at hg';refine fR hg' (λ_ s8 ⟨σ8,H8,I8,ext8,q8⟩=>?_) λ_ _ z=>fj z
    have back:cB X' (σ++bX own.length aj) fp tn W n i s7.heap:=by
     rintro ys' H9 s9 σ9 ex9 I9 ⟨n',hn',w9⟩;refine⟨n',hn',i+1,ys',H9,(I9.weak ex9.1.symm ex9.2).oV,T.keep _ _ _ st7 λb hb o e=>(I9.pin (b,o) (hZ _ (hZ _ (nH hb e)))).1,λb hb=>?_,w9⟩;obtain⟨o,e,d⟩:=T.obj _ _ st7 b hb;exact(I9.pin (b,o) (hZ _ (hZ _ (nH hb e)))).2.1
    exact hPO n i ys s7 σ8 H8 s8 back I8 ext8 hlen q8
  rcases hc with ⟨rfl,rfl⟩|⟨c,rfl,hc⟩
  ·refine PySem.W.kcp_loop _ (key _ λn i ys s7 σ8 H8 s8 back I8 ext8 hlen q8=>?_) n0 ⟨0,[],_,I4,st4,fr4,w0⟩;simp only[cy] at q8;exact put n i ys s7 σ8 H8 s8 back I8 ext8 hlen q8
  ·refine PySem.W.kct_loop _ (key _ λn i ys s7 σ8 H8 s8 back I8 ext8 hlen q8=>?_) n0 ⟨0,[],_,I4,st4,fr4,w0⟩;have hc':=hc X' cc _ s8 _ H8 _ I8 q8;rw[ep,ew,eA,exe] at hc';refine fR hc' (λb s9 ⟨H9,I9,q9⟩=>?_) λ_ _ z=>fj z
   cases b with
   |false=>
    simp only[c8,cK] at q9 ⊢;exact back ext8 I9 q9
   |true=>
    simp only[cy] at q9 ⊢;exact put n i ys s7 σ8 H9 s9 back I9 ext8 hlen q9
 have l4:=loop _ rfl;rw[eenv] at l4;exact codeAny_compStart_list l4 (T.self X.A 0 _ _ _ st4 l4)
theorem RP(f:Inv X pins σ H5 s6)(k:WR X pins H5 C)(n:s6.heap.Ns C m6)(q:Q (.ref p) H5):mM (av X.prog X.w) X.A X.xe aj (EP X pins σ Q) (.ref p) C (.ok .next) s6:=
 ⟨m6,n,λh' sb=>⟨.ref p,H5,Inv.turned f (λb o hb e=>sb.extBut b o hb e) k.1 k.2.1 k.2.2.2.1 k.2.2.2.2.1 k.2.2.2.2.2,rfl,q⟩⟩
theorem ZF(S:cL X.N X.env.scope scope own)(hcalm:X.calm=ae)(hi:PI X tg iter wi)
 (hg:∀X',dF X X' scope own->PG X' tg g)(hc:∀X',dF X X' scope own->PT X' c tc)(he:∀X',dF X X' scope own->PE X' elt te)
 (hs:∀x,fw iter X.env x=pure x):PE X (.ListComp elt [⟨tg,iter,[c],0⟩] scope pos) (O4 wi g tc te own.length):=by
 intro pins s σ H Q I h;rw[A9];exact O5 S hcalm hi hg (.inr ⟨c,rfl,hc⟩) he hs I h RP
theorem aC5(S:cL X.N X.env.scope scope own)(hcalm:X.calm=ae)(hi:PI X tg iter wi)
 (hg:∀X',dF X X' scope own->PG X' tg g)(he:∀X',dF X X' scope own->PE X' elt te)
 (hs:∀x,fw iter X.env x=pure x):PE X (.ListComp elt [⟨tg,iter,[],0⟩] scope pos) (O4 wi g (λ_ H Q=>Q ae H) te own.length):=by
 intro pins s σ H Q I h;rw[A9];exact O5 S hcalm hi hg (.inl ⟨rfl,rfl⟩) he hs I h RP
end
end L2
namespace Mi
open PySem L2 PySem.SeqAt
section
variable [KFrag]
theorem gK(I:Inv X pins σ H s)(e:H a=ab (.tup xs)):∃its:aa ah,Vals xs its/\s.heap.IsTuple a its.toArray:=by
 obtain⟨_,its,r,p⟩:xs.length<=bn/\∃its:aa ah,Vals xs its/\jY s.heap a its.toArray:=I.hok a _ e;exact⟨its,r,p.tup⟩
theorem oA(I:Inv X pins σ H s)(e:SqL X.K H a xs):∃its:aa ah,Vals xs its/\s.heap.IsList a its.toArray:=by
 obtain⟨its,r,p,_⟩:=I.list e;exact⟨its,r,p.isList⟩
theorem Rep.lO(r:Rep P H v (.lst ds)):∃a xs,v=.ref a/\SqL K H a xs/\bL P H xs ds:=by
 obtain⟨_,_,rfl,e,p,r⟩:=r.inv;exact⟨_,_,rfl,.inl (.inl e),r⟩
theorem Rep.eU(r:Rep P H v (.tup ds)):∃a xs,v=.ref a/\H a=ab (.tup xs)/\bL P H xs ds:=by
 obtain⟨_,_,rfl,e,r⟩:=r.inv;exact⟨_,_,rfl,e,r⟩
mutual
theorem BJ:∀(n:af)(d:D),d.fQ n=ae->eqD d d=ae
 |_,.non,_=>rfl
 |_,.bl b,_=>by exact fA b
 |_,.int i,_=>by exact fA i
 |_,.str x,_=>by exact fA x
 |n+1,.tup xs,h=>by exact wI n xs h
 |n+1,.lst xs,h=>by exact wI n xs h
 |0,.tup xs,h=>by exact fx0 h
 |0,.lst xs,h=>by exact fx0 h
 |n,.dct _,h=>by cases n<;>exact fx0 h
 |n,.uD,h=>by cases n<;>exact fx0 h
 |n,.scr _,h=>by cases n<;>exact fx0 h
 |n,.fdc _,h=>by cases n<;>exact fx0 h
 |n,.exc _ _,h=>by cases n<;>exact fx0 h
 |n,.ins _ _,h=>by cases n<;>exact fx0 h
 |n,.adr _,h=>by cases n<;>exact fx0 h
 |n,.cel _ _,h=>by cases n<;>exact fx0 h
theorem wI:∀(n:af)(ds:aa D),D.dX n ds=ae->uT ds ds=ae
 |_,[],_=>rfl
 |n,d::ds,h=>by
  rw[D.dX,bq] at h;rw[uT,BJ n d h.1,wI n ds h.2];rfl
end
theorem bL.aNu{n:af}{P P':ak->Prop}{H:Hp}(ih:∀{v:V} {d e:D},d.fQ n=ae->e.fQ n=ae->Rep P H v d->Rep P' H v e->d=e){vs:aa V}:∀{ds es:aa D},D.dX n ds=ae->D.dX n es=ae->bL P H vs ds->bL P' H vs es->ds=es:=by
 induction vs with
 |nil=>intro ds es h h' r q;cases r;cases q;rfl
 |cons v vs ih2=>
  intro ds es h h' r q;cases r with
  |cons r t=>
   cases q with
   |cons r' t'=>
    rw[D.dX,bq] at h h';rw[ih h.1 h'.1 r r',ih2 h.2 h'.2 t t']
theorem Rep.inj{P P':ak->Prop}{H:Hp}(n:af):∀{v:V}{d e:D},d.fQ n=ae->e.fQ n=ae->Rep P H v d->Rep P' H v e->d=e:=by
 induction n with
 |zero=>
  intro v d e h h' r q;cases d with
  |non=>obtain rfl:=r.inv;cases q;rfl
  |bl b=>obtain rfl:=r.inv;cases q;rfl
  |int i=>obtain rfl:=r.inv;cases q;rfl
  |str x=>obtain rfl:=r.inv;cases q;rfl
  |_=>exact fx0 h
 |succ n ih=>
  intro v d e h h' r q;cases d with
  |non=>obtain rfl:=r.inv;cases q;rfl
  |bl b=>obtain rfl:=r.inv;cases q;rfl
  |int i=>obtain rfl:=r.inv;cases q;rfl
  |str x=>obtain rfl:=r.inv;cases q;rfl
  |tup ds=>
   obtain⟨a,xs,rfl,e1,r1⟩:=r.inv;cases q with
   |tup e2 r2=>
    rw[e1] at e2;cases e2;rw[bL.aNu ih h h' r1 r2]
   |lst e2 _ _=>rw[e1] at e2;cases e2
   |dK e2 _ _ _=>rw[e1] at e2;cases e2
   |dT e2 _ _ _=>rw[e1] at e2;cases e2
   |_=>exact fx0 h'
  |lst ds=>
   obtain⟨a,xs,rfl,e1,_,r1⟩:=r.inv;cases q with
   |tup e2 r2=>rw[e1] at e2;cases e2
   |lst e2 _ r2=>
    rw[e1] at e2;cases e2;rw[bL.aNu ih h h' r1 r2]
   |dK e2 _ _ _=>rw[e1] at e2;cases e2
   |dT e2 _ _ _=>rw[e1] at e2;cases e2
   |_=>exact fx0 h'
  |_=>exact fx0 h
theorem sX:∀(xs ys:aa D),uT xs ys=((cr (min xs.length ys.length)).all (λj=>eqD (xs.getD j .non) (ys.getD j .non))&&xs.length==ys.length)
 |[],[]=>by simp[uT]
 |[],y::ys=>by simp[uT]
 |x::xs,[]=>by simp[uT]
 |x::xs,y::ys=>by
  have e:min (x::xs).length (y::ys).length=min xs.length ys.length+1:=by simp only[bj];lia
  rw[uT,sX xs ys,e,List.range_succ_eq_map,ik,List.all_map,Ba]
  congr 1
  simp[C1]
theorem h_:∀{ds:aa D}{j:af},D.dX n ds=ae->j<ds.length->(ds.getD j .non).fQ n=ae
 |[],j,_,h=>by simp at h
 |d::ds,0,h,_=>by rw[D.dX,bq] at h;exact h.1
 |d::ds,j+1,h,hj=>by
  rw[D.dX,bq] at h;simpa using h_ h.2 (by simpa using hj)
theorem bL.getD(r:bL P H vs ds)(hj:j<ds.length):∃v,vs[j]?=ab v/\Rep P H v (ds.getD j .non):=by
 obtain⟨v,h1,h2⟩:=r.get (i:=j) (d:=ds.getD j .non) (by simp[hj]);exact⟨v,h1,h2⟩
section
theorem wJ(ha:a.fQ 0=ae)(hb:b.fQ 0=ae)(rx:Rep All H x a)(ry:Rep All H y b)(ru:RelV x u)(rv:RelV y v):RcAt A s u v (eqD a b)/\RcNeAt A s u v (!eqD a b)/\EqAt A s u v (eqD a b):=by
 cases rx with
 |non=>
  cases ru;cases ry with
  |non=>cases rv;exact⟨RcAt.none_none,RcNeAt.none_none,xB _⟩
  |bl _=>cases rv;exact⟨RcAt.none_bool _,RcNeAt.none_bool _,EqAt.none_bool _⟩
  |int _=>obtain⟨t,rfl⟩:=rv;exact⟨RcAt.none_int _ _,RcNeAt.none_int _ _,EqAt.none_int _ _⟩
  |str _=>obtain⟨t,rfl⟩:=rv;exact⟨RcAt.none_str _ _,RcNeAt.none_str _ _,EqAt.none_str _ _⟩
  |_=>exact fx0 hb
 |bl _=>
  cases ru;cases ry with
  |non=>cases rv;exact⟨RcAt.bool_none _,RcNeAt.bool_none _,EqAt.bool_none _⟩
  |bl _=>cases rv;exact⟨RcAt.bool_bool _ _,RcNeAt.bool_bool _ _,EqAt.bool_bool _ _⟩
  |int _=>obtain⟨t,rfl⟩:=rv;exact⟨RcAt.bool_int _ _ _,RcNeAt.bool_int _ _ _,EqAt.bool_int _ _ _⟩
  |str _=>obtain⟨t,rfl⟩:=rv;exact⟨RcAt.bool_str _ _ _,RcNeAt.bool_str _ _ _,EqAt.bool_str _ _ _⟩
  |_=>exact fx0 hb
 |int _=>
  obtain⟨t,rfl⟩:=ru;cases ry with
  |non=>cases rv;exact⟨RcAt.int_none _ _,RcNeAt.int_none _ _,EqAt.int_none _ _⟩
  |bl _=>cases rv;exact⟨RcAt.int_bool _ _ _,RcNeAt.int_bool _ _ _,EqAt.int_bool _ _ _⟩
  |int _=>obtain⟨t',rfl⟩:=rv;exact⟨RcAt.int_int _ _ _ _,RcNeAt.int_int _ _ _ _,EqAt.int_int _ _ _ _⟩
  |str _=>obtain⟨t',rfl⟩:=rv;exact⟨RcAt.int_str _ _ _ _,RcNeAt.int_str _ _ _ _,zD _ _ _ _⟩
  |_=>exact fx0 hb
 |str _=>
  obtain⟨t,rfl⟩:=ru;cases ry with
  |non=>cases rv;exact⟨RcAt.str_none _ _,RcNeAt.str_none _ _,EqAt.str_none _ _⟩
  |bl _=>cases rv;exact⟨RcAt.str_bool _ _ _,RcNeAt.str_bool _ _ _,EqAt.str_bool _ _ _⟩
  |int _=>obtain⟨t',rfl⟩:=rv;exact⟨RcAt.str_int _ _ _ _,RcNeAt.str_int _ _ _ _,zI _ _ _ _⟩
  |str _=>obtain⟨t',rfl⟩:=rv;exact⟨RcAt.str_str _ _ _ _,RcNeAt.str_str _ _ _ _,EqAt.str_str _ _ _ _⟩
  |_=>exact fx0 hb
 |_=>exact fx0 ha
theorem IV(I:Inv X pins σ H s):∀(n:af)(A:bu){x y:V}{a b:D}{u v:ah},A.units+n<ck->a.fQ n=ae->b.fQ n=ae->Rep All H x a->Rep All H y b->RelV x u->RelV y v->
  RcAt A s u v (eqD a b)/\RcNeAt A s u v (!eqD a b)/\EqAt A s u v (eqD a b):=by
 intro n;induction n with
 |zero=>exact λA=>λ_ ha hb rx ry ru rv=>wJ ha hb rx ry ru rv
 |succ n ih=>
  intro A x y a b u v hu ha hb rx ry ru rv;have hu0:A.units<ck:=by lia
  have hu1:A.in1.units+n<ck:=by show A.units+1+n<ck;lia
  have itm:∀{xs ys:aa V}{ds es:aa D}{i1 i2:aa ah},D.dX n ds=ae->D.dX n es=ae->bL All H xs ds->bL All H ys es->Vals xs i1->Vals ys i2->∀j (g1:j<i1.toArray.size) (g2:j<i2.toArray.size),EqAt A.in1 s i1.toArray[j] i2.toArray[j] (eqD (ds.getD j .non) (es.getD j .non)):=by
   intro xs ys ds es i1 i2 ha hb r1 r2 vr1 vr2 j g1 g2;have z1:i1.toArray.size=ds.length:=by rw[cm,<-vr1.length,r1.length]
   have z2:i2.toArray.size=es.length:=by rw[cm,<-vr2.length,r2.length]
   obtain⟨v1,w1,rr1⟩:=r1.getD (j:=j) 0x1;obtain⟨v2,w2,rr2⟩:=r2.getD (j:=j) 0x1;obtain⟨u1,k1,l1⟩:=vr1.get w1;obtain⟨u2,k2,l2⟩:=vr2.get w2;have m1:i1.toArray[j]=u1:=by
    rw[eh (by simpa using g1)] at k1;simpa using cq k1
   have m2:i2.toArray[j]=u2:=by
    rw[eh (by simpa using g2)] at k2;simpa using cq k2
   rw[m1,m2];exact(ih A.in1 hu1 (h_ ha 0x1) (h_ hb 0x1) rr1 rr2 l1 l2).2.2
  cases a with
  |non=>
   cases b with
   |tup es=>
    cases rx.inv;cases ru;obtain⟨q,ys,rfl,e2,r2⟩:=ry.eU;cases rv;obtain⟨its2,vr2,h2⟩:=gK I e2;exact⟨RcAt.none_tuple h2 hu0,RcNeAt.none_tuple h2 hu0,EqAt.none_tuple h2 hu0⟩
   |lst es=>
    cases rx.inv;cases ru;obtain⟨q,ys,rfl,e2,r2⟩:=ry.lO (K:=X.K);cases rv;obtain⟨its2,vr2,h2⟩:=oA I e2;exact⟨RcAt.none_list h2 hu0,RcNeAt.none_list h2 hu0,EqAt.none_list h2 hu0⟩
   |_=>first|exact wJ rfl rfl rx ry ru rv|exact bg ry Rep.uD|exact fx0 hb
  |bl _=>
   cases b with
   |tup es=>
    cases rx.inv;cases ru;obtain⟨q,ys,rfl,e2,r2⟩:=ry.eU;cases rv;obtain⟨its2,vr2,h2⟩:=gK I e2;exact⟨RcAt.bool_tuple _ h2 hu0,RcNeAt.bool_tuple _ h2 hu0,EqAt.bool_tuple _ h2 hu0⟩
   |lst es=>
    cases rx.inv;cases ru;obtain⟨q,ys,rfl,e2,r2⟩:=ry.lO (K:=X.K);cases rv;obtain⟨its2,vr2,h2⟩:=oA I e2;exact⟨RcAt.bool_list _ h2 hu0,RcNeAt.bool_list _ h2 hu0,EqAt.bool_list _ h2 hu0⟩
   |_=>first|exact wJ rfl rfl rx ry ru rv|exact bg ry Rep.uD|exact fx0 hb
  |int _=>
   cases b with
   |tup es=>
    cases rx.inv;obtain⟨t1,rfl⟩:=ru;obtain⟨q,ys,rfl,e2,r2⟩:=ry.eU;cases rv;obtain⟨its2,vr2,h2⟩:=gK I e2;exact⟨RcAt.int_tuple _ _ h2 hu0,RcNeAt.int_tuple _ _ h2 hu0,EqAt.int_tuple _ _ h2 hu0⟩
   |lst es=>
    cases rx.inv;obtain⟨t1,rfl⟩:=ru;obtain⟨q,ys,rfl,e2,r2⟩:=ry.lO (K:=X.K);cases rv;obtain⟨its2,vr2,h2⟩:=oA I e2;exact⟨RcAt.int_list _ _ h2 hu0,RcNeAt.int_list _ _ h2 hu0,EqAt.int_list _ _ h2 hu0⟩
   |_=>first|exact wJ rfl rfl rx ry ru rv|exact bg ry Rep.uD|exact fx0 hb
  |str _=>
   cases b with
   |tup es=>
    cases rx.inv;obtain⟨t1,rfl⟩:=ru;obtain⟨q,ys,rfl,e2,r2⟩:=ry.eU;cases rv;obtain⟨its2,vr2,h2⟩:=gK I e2;exact⟨RcAt.str_tuple _ _ h2 hu0,RcNeAt.str_tuple _ _ h2 hu0,EqAt.str_tuple _ _ h2 hu0⟩
   |lst es=>
    cases rx.inv;obtain⟨t1,rfl⟩:=ru;obtain⟨q,ys,rfl,e2,r2⟩:=ry.lO (K:=X.K);cases rv;obtain⟨its2,vr2,h2⟩:=oA I e2;exact⟨RcAt.str_list _ _ h2 hu0,RcNeAt.str_list _ _ h2 hu0,EqAt.str_list _ _ h2 hu0⟩
   |_=>first|exact wJ rfl rfl rx ry ru rv|exact bg ry Rep.uD|exact fx0 hb
  |tup ds=>
   obtain⟨p,xs,rfl,e1,r1⟩:=rx.eU;cases ru;obtain⟨its1,vr1,h1⟩:=gK I e1;replace ha:D.dX _ _=ae:=ha;cases b with
   |non=>cases ry.inv;cases rv;exact⟨RcAt.tuple_none h1 hu0,RcNeAt.tuple_none h1 hu0,EqAt.tuple_none h1 hu0⟩
   |bl _=>cases ry.inv;cases rv;exact⟨RcAt.tuple_bool _ h1 hu0,RcNeAt.tuple_bool _ h1 hu0,EqAt.tuple_bool _ h1 hu0⟩
   |int _=>cases ry.inv;obtain⟨t2,rfl⟩:=rv;exact⟨RcAt.tuple_int _ _ h1 hu0,RcNeAt.tuple_int _ _ h1 hu0,EqAt.tuple_int _ _ h1 hu0⟩
   |str _=>cases ry.inv;obtain⟨t2,rfl⟩:=rv;exact⟨RcAt.tuple_str _ _ h1 hu0,RcNeAt.tuple_str _ _ h1 hu0,EqAt.tuple_str _ _ h1 hu0⟩
   |tup es=>
    obtain⟨q,ys,rfl,e2,r2⟩:=ry.eU;cases rv;obtain⟨its2,vr2,h2⟩:=gK I e2;replace hb:D.dX _ _=ae:=hb;have z1:its1.toArray.size=ds.length:=by rw[cm,<-vr1.length,r1.length]
    have z2:its2.toArray.size=es.length:=by rw[cm,<-vr2.length,r2.length]
    have he:=itm ha hb r1 r2 vr1 vr2;have ee:eqD (.tup ds) (.tup es)=((cr (min its1.toArray.size its2.toArray.size)).all (λj=>eqD (ds.getD j .non) (es.getD j .non))&&its1.toArray.size==its2.toArray.size):=by
     rw[show eqD (.tup _) (.tup _)=uT _ _ from rfl,sX,z1,z2]
    have r0:=RcAt.tuples h1 h2 hu0 he;have r0':=RcNeAt.tuples h1 h2 hu0 he;rw[<-ee] at r0 r0';refine⟨r0,r0',?_⟩;by_cases hpq:p=q
    ·subst hpq;have hab:(D.tup ds)=(.tup es):=Rep.inj (n+1) ha hb rx ry;rw[<-hab,BJ (n+1) (.tup ds) ha];exact xB _
    ·exact Bb hpq r0
   |lst es=>
    obtain⟨q,ys,rfl,e2,r2⟩:=ry.lO (K:=X.K);cases rv;obtain⟨its2,vr2,h2⟩:=oA I e2;exact⟨RcAt.tuple_list h1 h2 hu0,RcNeAt.tuple_list h1 h2 hu0,EqAt.tuple_list h1 h2 hu0⟩
   |_=>first|exact bg ry Rep.uD|exact fx0 hb
  |lst ds=>
   obtain⟨p,xs,rfl,e1,r1⟩:=rx.lO (K:=X.K);cases ru;obtain⟨its1,vr1,h1⟩:=oA I e1;replace ha:D.dX _ _=ae:=ha;cases b with
   |non=>cases ry.inv;cases rv;exact⟨RcAt.list_none h1 hu0,RcNeAt.list_none h1 hu0,EqAt.list_none h1 hu0⟩
   |bl _=>cases ry.inv;cases rv;exact⟨RcAt.list_bool _ h1 hu0,RcNeAt.list_bool _ h1 hu0,EqAt.list_bool _ h1 hu0⟩
   |int _=>cases ry.inv;obtain⟨t2,rfl⟩:=rv;exact⟨RcAt.list_int _ _ h1 hu0,RcNeAt.list_int _ _ h1 hu0,EqAt.list_int _ _ h1 hu0⟩
   |str _=>cases ry.inv;obtain⟨t2,rfl⟩:=rv;exact⟨RcAt.list_str _ _ h1 hu0,RcNeAt.list_str _ _ h1 hu0,EqAt.list_str _ _ h1 hu0⟩
   |tup es=>
    obtain⟨q,ys,rfl,e2,r2⟩:=ry.eU;cases rv;obtain⟨its2,vr2,h2⟩:=gK I e2;exact⟨RcAt.list_tuple h1 h2 hu0,RcNeAt.list_tuple h1 h2 hu0,EqAt.list_tuple h1 h2 hu0⟩
   |lst es=>
    obtain⟨q,ys,rfl,e2,r2⟩:=ry.lO (K:=X.K);cases rv;obtain⟨its2,vr2,h2⟩:=oA I e2;replace hb:D.dX _ _=ae:=hb;have z1:its1.toArray.size=ds.length:=by rw[cm,<-vr1.length,r1.length]
    have z2:its2.toArray.size=es.length:=by rw[cm,<-vr2.length,r2.length]
    have he:=itm ha hb r1 r2 vr1 vr2;have r00:RcAt A s (.ref p) (.ref q) (eqD (.lst ds) (.lst es))/\RcNeAt A s (.ref p) (.ref q) (!eqD (.lst ds) (.lst es)):=by
     rw[show eqD (.lst _) (.lst _)=uT _ _ from rfl,sX];by_cases hz:ds.length=es.length
     ·have r0:=RcAt.lists h1 h2 0x1 hu0 he;have r0':=RcNeAt.lists h1 h2 0x1 hu0 he;rw[z1] at r0 r0';rw[show min ds.length es.length=ds.length by lia,show(ds.length==es.length)=ae by simpa using hz,xC];exact⟨r0,r0'⟩
     ·have hz':(its1.toArray.size !=its2.toArray.size)=ae:=by rw[z1,z2];simpa using hz
      rw[show(ds.length==es.length)=ag by simpa using hz,AJ];exact⟨RcAt.lists_lengths h1 h2 hz' hu0,RcNeAt.lists_lengths h1 h2 hz' hu0⟩
    obtain⟨r0,r0'⟩:=r00;refine⟨r0,r0',?_⟩;by_cases hpq:p=q
    ·subst hpq;have hab:(D.lst ds)=(.lst es):=Rep.inj (n+1) ha hb rx ry;rw[<-hab,BJ (n+1) (.lst ds) ha];exact xB _
    ·exact Bb hpq r0
   |_=>first|exact bg ry Rep.uD|exact fx0 hb
  |_=>first|exact bg rx Rep.uD|exact fx0 ha
end
end
open PySem.AutoSeq1 (wpAny_loadPart')
open PySem.MeetsSeq PySem.MeetsSeq2 PySem.MeetsSeq3
variable [KFrag]
def gF.op:gF->iL
 |.lt=>.Lt|.le=>.LtE|.gt=>.Gt|.ge=>.GtE
def RQ(op:iL)(A:bu)(s:al)(u v:ah)(b:aq):Prop:=
 ∀(prog:bp)(w:bh)(E:ah->al->Prop)(Q:ah->al->Prop),Q (.bool b) s->wpAny (av prog w) A (jj op u v) Q E s
def C2(o:gF)(A:bu)(s:al)(vs ws:aa ah)(xs ys:aa D):Prop:=
 vs.length=xs.length/\ws.length=ys.length/\∀(j:af)(v w:ah)(x y:D),vs[j]?=ab v->ws[j]?=ab w->xs[j]?=ab x->ys[j]?=ab y->
  EqAt A s v w (eqD x y)/\(eqD x y=ag->∀k,iR o x y=ab k->RQ o.op A s v w k)
theorem C2.tail(h:C2 o A s (v::vs) (w::ws) (x::xs) (y::ys)):C2 o A s vs ws xs ys:=
 ⟨by simpa using h.1,by simpa using h.2.1,λj a b c d e1 e2 e3 e4=>h.2.2 (j+1) a b c d (by simpa using e1) (by simpa using e2) (by simpa using e3) (by simpa using e4)⟩
theorem VL(l b:ak)(items items2:aw ah)(n n2:af)(dd dd2:ax ak)(sl sl2:aw (ax ah))(xs ys:aa D)(res:aq)(hr:dJ .lt xs ys=ab res) :
  ix (Builtin.«tuple.__lt__» ⟨[.ref l,.ref b],[]⟩)
   (λA R s=>s.heap.get? l=ab {cls:=.type "tuple",dict:=dd,data:=.seq items n,slots:=sl}/\s.heap.get? b=ab {cls:=.type "tuple",dict:=dd2,data:=.seq items2 n2,slots:=sl2}/\
    C2 .lt A.in1 s items.toList items2.toList xs ys/\R (.ok (.ret (.bool res))) s):=
 .of_wp λprog w A R s h=>by
  obtain⟨hp,g,d,tk,os⟩:=s;obtain⟨hl,hb,hC,h⟩:=h;have f2:=t5;have z1:items.size=xs.length:=by rw[<-hC.1];simp
  have z2:items2.size=ys.length:=by rw[<-hC.2.1];simp
  wp_walk using wpAny_loadPart' hl,wpAny_loadPart' hb,t9 _ (λrest b s'=>b.1=aj/\s'=⟨hp,g,d,tk,os⟩/\∃(vs ws:aa ah)(xs' ys':aa D),rest=vs.zip ws/\
   C2 .lt A.in1 ⟨hp,g,d,tk,os⟩ vs ws xs' ys'/\xs'.length+items2.size=ys'.length+items.size/\dJ .lt xs' ys'=ab res) _
  case turn=>
   rintro⟨y,x⟩ rest b s' ⟨hb',rfl,vs,ws,xs',ys',hz,hC',hlen,hR⟩;cases vs with
   |nil=>rw[mN] at hz;cases hz
   |cons v vs=>
    cases ws with
    |nil=>rw[lP] at hz;cases hz
    |cons w' ws=>
     rw[jk] at hz;injection hz with hyx hrest
     injection hyx with hy hx
     subst hy hx;cases xs' with
     |nil=>exact bg hC'.1 0x2
     |cons x0 xs'=>
      cases ys' with
      |nil=>exact bg hC'.2.1 0x2
      |cons y0 ys'=>
       rw[dJ] at hR;simp only[bj] at hlen;obtain⟨he,hlt⟩:=hC'.2.2 0 _ _ _ _ rfl rfl rfl rfl;refine ao (he prog w _ _ ?_);cases e:eqD x0 y0 with
       |true=>
        rw[e] at hR;simp only[cy] at hR
        wp_walk
        exact⟨rfl,rfl,_,_,_,_,hrest,hC'.tail,by lia,hR⟩
       |false=>
        rw[e] at hR;simp only[c8,cK] at hR;have hri:∀(E:ah->al->Prop)(Q:ah->al->Prop),Q (.bool res) ⟨hp,g,d,tk,os⟩->wpAny (av prog w) A.in1 (jj .Lt _ _) Q E ⟨hp,g,d,tk,os⟩:=λE Q q=>hlt e res hR prog w E Q q
        wp_walk using hri
        exact⟨_,rfl,by simpa using h⟩
  case fin=>
   rintro⟨b1,b2⟩ s' ⟨hb',rfl,vs,ws,xs',ys',hz,hC',hlen,hR⟩;simp only at hb';subst hb';have hv:res=decide (items.size<items2.size):=by
    cases xs' with
    |nil=>
     rw[dJ] at hR;have:=cq hR;rw[<-this];simp only[eL] at hlen;simp only[gF.nat]
     congr 1
     simp only[jn];lia
    |cons x0 xs'=>
     cases ys' with
     |nil=>
      rw[dJ] at hR;have:=cq hR;rw[<-this];simp only[eL,bj] at hlen;simp only[gF.nat,bj]
      congr 1
      simp only[jn];lia
     |cons y0 ys'=>
      exfalso;cases vs with
      |nil=>exact bg hC'.1 0x2
      |cons v vs=>
       cases ws with
       |nil=>exact bg hC'.2.1 0x2
       |cons w' ws=>rw[jk] at hz;cases hz
   rw[hv] at h
   wp_walk
   exact⟨_,rfl,by simpa[ua] using h⟩
  case h=>
   exact⟨rfl,rfl,items.toList,items2.toList,xs,ys,rfl,hC,by lia,hr⟩
theorem RQ.aJg(hl:s.heap.IsTuple l items)(hb:s.heap.IsTuple b items2)(hC:C2 .lt A.in1 s items.toList items2.toList xs ys)(hr:dJ .lt xs ys=ab res)(hu:A.units<ck) :
  RQ .Lt A s (.ref l) (.ref b) res:=λprog w E Q h=>by
 obtain⟨⟨cls,dd,data,sl⟩,ho,hc,n,hd⟩:=id hl;obtain⟨⟨cls2,dd2,mv,sl2⟩,ho2,hc2,n2,hd2⟩:=id hb;simp only at hc hd hc2 hd2;subst hc hd hc2 hd2;exact ub ⟨_,ho,rfl⟩ ⟨_,ho2,rfl⟩ PySem.F.slot_tuple_lt PySem.F.entry_tuple_lt (PySem.F.args_tuple_lt_2 _ _) (VL l b items items2 n n2 dd dd2 sl sl2 xs ys res hr)
  ⟨ho,ho2,hC,show k6 res≠uc/\Q (.bool res) s from ⟨(λx=>nomatch x),h⟩⟩ hu
theorem VM(l b:ak)(items items2:aw ah)(n n2:af)(dd dd2:ax ak)(sl sl2:aw (ax ah))(xs ys:aa D)(res:aq)(hr:dJ .le xs ys=ab res) :
  ix (Builtin.«tuple.__le__» ⟨[.ref l,.ref b],[]⟩)
   (λA R s=>s.heap.get? l=ab {cls:=.type "tuple",dict:=dd,data:=.seq items n,slots:=sl}/\s.heap.get? b=ab {cls:=.type "tuple",dict:=dd2,data:=.seq items2 n2,slots:=sl2}/\
    C2 .le A.in1 s items.toList items2.toList xs ys/\R (.ok (.ret (.bool res))) s):=
 .of_wp λprog w A R s h=>by
  obtain⟨hp,g,d,tk,os⟩:=s;obtain⟨hl,hb,hC,h⟩:=h;have f2:=t5;have z1:items.size=xs.length:=by rw[<-hC.1];simp
  have z2:items2.size=ys.length:=by rw[<-hC.2.1];simp
  wp_walk using wpAny_loadPart' hl,wpAny_loadPart' hb,t9 _ (λrest b s'=>b.1=aj/\s'=⟨hp,g,d,tk,os⟩/\∃(vs ws:aa ah)(xs' ys':aa D),rest=vs.zip ws/\
   C2 .le A.in1 ⟨hp,g,d,tk,os⟩ vs ws xs' ys'/\xs'.length+items2.size=ys'.length+items.size/\dJ .le xs' ys'=ab res) _
  case turn=>
   rintro⟨y,x⟩ rest b s' ⟨hb',rfl,vs,ws,xs',ys',hz,hC',hlen,hR⟩;cases vs with
   |nil=>rw[mN] at hz;cases hz
   |cons v vs=>
    cases ws with
    |nil=>rw[lP] at hz;cases hz
    |cons w' ws=>
     rw[jk] at hz;injection hz with hyx hrest
     injection hyx with hy hx
     subst hy hx;cases xs' with
     |nil=>exact bg hC'.1 0x2
     |cons x0 xs'=>
      cases ys' with
      |nil=>exact bg hC'.2.1 0x2
      |cons y0 ys'=>
       rw[dJ] at hR;simp only[bj] at hlen;obtain⟨he,hlt⟩:=hC'.2.2 0 _ _ _ _ rfl rfl rfl rfl;refine ao (he prog w _ _ ?_);cases e:eqD x0 y0 with
       |true=>
        rw[e] at hR;simp only[cy] at hR
        wp_walk
        exact⟨rfl,rfl,_,_,_,_,hrest,hC'.tail,by lia,hR⟩
       |false=>
        rw[e] at hR;simp only[c8,cK] at hR;have hri:∀(E:ah->al->Prop)(Q:ah->al->Prop),Q (.bool res) ⟨hp,g,d,tk,os⟩->wpAny (av prog w) A.in1 (jj .LtE _ _) Q E ⟨hp,g,d,tk,os⟩:=λE Q q=>hlt e res hR prog w E Q q
        wp_walk using hri
        exact⟨_,rfl,by simpa using h⟩
  case fin=>
   rintro⟨b1,b2⟩ s' ⟨hb',rfl,vs,ws,xs',ys',hz,hC',hlen,hR⟩;simp only at hb';subst hb';have hv:res=decide (items.size<=items2.size):=by
    cases xs' with
    |nil=>
     rw[dJ] at hR;have:=cq hR;rw[<-this];simp only[eL] at hlen;simp only[gF.nat]
     congr 1
     simp only[jn];lia
    |cons x0 xs'=>
     cases ys' with
     |nil=>
      rw[dJ] at hR;have:=cq hR;rw[<-this];simp only[eL,bj] at hlen;simp only[gF.nat,bj]
      congr 1
      simp only[jn];lia
     |cons y0 ys'=>
      exfalso;cases vs with
      |nil=>exact bg hC'.1 0x2
      |cons v vs=>
       cases ws with
       |nil=>exact bg hC'.2.1 0x2
       |cons w' ws=>rw[jk] at hz;cases hz
   rw[hv] at h
   wp_walk
   exact⟨_,rfl,by simpa[ua] using h⟩
  case h=>
   exact⟨rfl,rfl,items.toList,items2.toList,xs,ys,rfl,hC,by lia,hr⟩
theorem RQ.aJh(hl:s.heap.IsTuple l items)(hb:s.heap.IsTuple b items2)(hC:C2 .le A.in1 s items.toList items2.toList xs ys)(hr:dJ .le xs ys=ab res)(hu:A.units<ck) :
  RQ .LtE A s (.ref l) (.ref b) res:=λprog w E Q h=>by
 obtain⟨⟨cls,dd,data,sl⟩,ho,hc,n,hd⟩:=id hl;obtain⟨⟨cls2,dd2,mv,sl2⟩,ho2,hc2,n2,hd2⟩:=id hb;simp only at hc hd hc2 hd2;subst hc hd hc2 hd2;exact ub ⟨_,ho,rfl⟩ ⟨_,ho2,rfl⟩ PySem.F.slot_tuple_le PySem.F.entry_tuple_le (PySem.F.args_tuple_le_2 _ _) (VM l b items items2 n n2 dd dd2 sl sl2 xs ys res hr)
  ⟨ho,ho2,hC,show k6 res≠uc/\Q (.bool res) s from ⟨(λx=>nomatch x),h⟩⟩ hu
theorem VN(l b:ak)(items items2:aw ah)(n n2:af)(dd dd2:ax ak)(sl sl2:aw (ax ah))(xs ys:aa D)(res:aq)(hr:dJ .gt xs ys=ab res) :
  ix (Builtin.«tuple.__gt__» ⟨[.ref l,.ref b],[]⟩)
   (λA R s=>s.heap.get? l=ab {cls:=.type "tuple",dict:=dd,data:=.seq items n,slots:=sl}/\s.heap.get? b=ab {cls:=.type "tuple",dict:=dd2,data:=.seq items2 n2,slots:=sl2}/\
    C2 .gt A.in1 s items.toList items2.toList xs ys/\R (.ok (.ret (.bool res))) s):=
 .of_wp λprog w A R s h=>by
  obtain⟨hp,g,d,tk,os⟩:=s;obtain⟨hl,hb,hC,h⟩:=h;have f2:=t5;have z1:items.size=xs.length:=by rw[<-hC.1];simp
  have z2:items2.size=ys.length:=by rw[<-hC.2.1];simp
  wp_walk using wpAny_loadPart' hl,wpAny_loadPart' hb,t9 _ (λrest b s'=>b.1=aj/\s'=⟨hp,g,d,tk,os⟩/\∃(vs ws:aa ah)(xs' ys':aa D),rest=vs.zip ws/\
   C2 .gt A.in1 ⟨hp,g,d,tk,os⟩ vs ws xs' ys'/\xs'.length+items2.size=ys'.length+items.size/\dJ .gt xs' ys'=ab res) _
  case turn=>
   rintro⟨y,x⟩ rest b s' ⟨hb',rfl,vs,ws,xs',ys',hz,hC',hlen,hR⟩;cases vs with
   |nil=>rw[mN] at hz;cases hz
   |cons v vs=>
    cases ws with
    |nil=>rw[lP] at hz;cases hz
    |cons w' ws=>
     rw[jk] at hz;injection hz with hyx hrest
     injection hyx with hy hx
     subst hy hx;cases xs' with
     |nil=>exact bg hC'.1 0x2
     |cons x0 xs'=>
      cases ys' with
      |nil=>exact bg hC'.2.1 0x2
      |cons y0 ys'=>
       rw[dJ] at hR;simp only[bj] at hlen;obtain⟨he,hlt⟩:=hC'.2.2 0 _ _ _ _ rfl rfl rfl rfl;refine ao (he prog w _ _ ?_);cases e:eqD x0 y0 with
       |true=>
        rw[e] at hR;simp only[cy] at hR
        wp_walk
        exact⟨rfl,rfl,_,_,_,_,hrest,hC'.tail,by lia,hR⟩
       |false=>
        rw[e] at hR;simp only[c8,cK] at hR;have hri:∀(E:ah->al->Prop)(Q:ah->al->Prop),Q (.bool res) ⟨hp,g,d,tk,os⟩->wpAny (av prog w) A.in1 (jj .Gt _ _) Q E ⟨hp,g,d,tk,os⟩:=λE Q q=>hlt e res hR prog w E Q q
        wp_walk using hri
        exact⟨_,rfl,by simpa using h⟩
  case fin=>
   rintro⟨b1,b2⟩ s' ⟨hb',rfl,vs,ws,xs',ys',hz,hC',hlen,hR⟩;simp only at hb';subst hb';have hv:res=decide (items2.size<items.size):=by
    cases xs' with
    |nil=>
     rw[dJ] at hR;have:=cq hR;rw[<-this];simp only[eL] at hlen;simp only[gF.nat]
     congr 1
     simp only[jn];lia
    |cons x0 xs'=>
     cases ys' with
     |nil=>
      rw[dJ] at hR;have:=cq hR;rw[<-this];simp only[eL,bj] at hlen;simp only[gF.nat,bj]
      congr 1
      simp only[jn];lia
     |cons y0 ys'=>
      exfalso;cases vs with
      |nil=>exact bg hC'.1 0x2
      |cons v vs=>
       cases ws with
       |nil=>exact bg hC'.2.1 0x2
       |cons w' ws=>rw[jk] at hz;cases hz
   rw[hv] at h
   wp_walk
   exact⟨_,rfl,by simpa[ua] using h⟩
  case h=>
   exact⟨rfl,rfl,items.toList,items2.toList,xs,ys,rfl,hC,by lia,hr⟩
theorem RQ.aJi(hl:s.heap.IsTuple l items)(hb:s.heap.IsTuple b items2)(hC:C2 .gt A.in1 s items.toList items2.toList xs ys)(hr:dJ .gt xs ys=ab res)(hu:A.units<ck) :
  RQ .Gt A s (.ref l) (.ref b) res:=λprog w E Q h=>by
 obtain⟨⟨cls,dd,data,sl⟩,ho,hc,n,hd⟩:=id hl;obtain⟨⟨cls2,dd2,mv,sl2⟩,ho2,hc2,n2,hd2⟩:=id hb;simp only at hc hd hc2 hd2;subst hc hd hc2 hd2;exact ub ⟨_,ho,rfl⟩ ⟨_,ho2,rfl⟩ PySem.F.slot_tuple_gt PySem.F.entry_tuple_gt (PySem.F.args_tuple_gt_2 _ _) (VN l b items items2 n n2 dd dd2 sl sl2 xs ys res hr)
  ⟨ho,ho2,hC,show k6 res≠uc/\Q (.bool res) s from ⟨(λx=>nomatch x),h⟩⟩ hu
theorem VP(l b:ak)(items items2:aw ah)(n n2:af)(dd dd2:ax ak)(sl sl2:aw (ax ah))(xs ys:aa D)(res:aq)(hr:dJ .ge xs ys=ab res) :
  ix (Builtin.«tuple.__ge__» ⟨[.ref l,.ref b],[]⟩)
   (λA R s=>s.heap.get? l=ab {cls:=.type "tuple",dict:=dd,data:=.seq items n,slots:=sl}/\s.heap.get? b=ab {cls:=.type "tuple",dict:=dd2,data:=.seq items2 n2,slots:=sl2}/\
    C2 .ge A.in1 s items.toList items2.toList xs ys/\R (.ok (.ret (.bool res))) s):=
 .of_wp λprog w A R s h=>by
  obtain⟨hp,g,d,tk,os⟩:=s;obtain⟨hl,hb,hC,h⟩:=h;have f2:=t5;have z1:items.size=xs.length:=by rw[<-hC.1];simp
  have z2:items2.size=ys.length:=by rw[<-hC.2.1];simp
  wp_walk using wpAny_loadPart' hl,wpAny_loadPart' hb,t9 _ (λrest b s'=>b.1=aj/\s'=⟨hp,g,d,tk,os⟩/\∃(vs ws:aa ah)(xs' ys':aa D),rest=vs.zip ws/\
   C2 .ge A.in1 ⟨hp,g,d,tk,os⟩ vs ws xs' ys'/\xs'.length+items2.size=ys'.length+items.size/\dJ .ge xs' ys'=ab res) _
  case turn=>
   rintro⟨y,x⟩ rest b s' ⟨hb',rfl,vs,ws,xs',ys',hz,hC',hlen,hR⟩;cases vs with
   |nil=>rw[mN] at hz;cases hz
   |cons v vs=>
    cases ws with
    |nil=>rw[lP] at hz;cases hz
    |cons w' ws=>
     rw[jk] at hz;injection hz with hyx hrest
     injection hyx with hy hx
     subst hy hx;cases xs' with
     |nil=>exact bg hC'.1 0x2
     |cons x0 xs'=>
      cases ys' with
      |nil=>exact bg hC'.2.1 0x2
      |cons y0 ys'=>
       rw[dJ] at hR;simp only[bj] at hlen;obtain⟨he,hlt⟩:=hC'.2.2 0 _ _ _ _ rfl rfl rfl rfl;refine ao (he prog w _ _ ?_);cases e:eqD x0 y0 with
       |true=>
        rw[e] at hR;simp only[cy] at hR
        wp_walk
        exact⟨rfl,rfl,_,_,_,_,hrest,hC'.tail,by lia,hR⟩
       |false=>
        rw[e] at hR;simp only[c8,cK] at hR;have hri:∀(E:ah->al->Prop)(Q:ah->al->Prop),Q (.bool res) ⟨hp,g,d,tk,os⟩->wpAny (av prog w) A.in1 (jj .GtE _ _) Q E ⟨hp,g,d,tk,os⟩:=λE Q q=>hlt e res hR prog w E Q q
        wp_walk using hri
        exact⟨_,rfl,by simpa using h⟩
  case fin=>
   rintro⟨b1,b2⟩ s' ⟨hb',rfl,vs,ws,xs',ys',hz,hC',hlen,hR⟩;simp only at hb';subst hb';have hv:res=decide (items2.size<=items.size):=by
    cases xs' with
    |nil=>
     rw[dJ] at hR;have:=cq hR;rw[<-this];simp only[eL] at hlen;simp only[gF.nat]
     congr 1
     simp only[jn];lia
    |cons x0 xs'=>
     cases ys' with
     |nil=>
      rw[dJ] at hR;have:=cq hR;rw[<-this];simp only[eL,bj] at hlen;simp only[gF.nat,bj]
      congr 1
      simp only[jn];lia
     |cons y0 ys'=>
      exfalso;cases vs with
      |nil=>exact bg hC'.1 0x2
      |cons v vs=>
       cases ws with
       |nil=>exact bg hC'.2.1 0x2
       |cons w' ws=>rw[jk] at hz;cases hz
   rw[hv] at h
   wp_walk
   exact⟨_,rfl,by simpa[ua] using h⟩
  case h=>
   exact⟨rfl,rfl,items.toList,items2.toList,xs,ys,rfl,hC,by lia,hr⟩
theorem RQ.aJj(hl:s.heap.IsTuple l items)(hb:s.heap.IsTuple b items2)(hC:C2 .ge A.in1 s items.toList items2.toList xs ys)(hr:dJ .ge xs ys=ab res)(hu:A.units<ck) :
  RQ .GtE A s (.ref l) (.ref b) res:=λprog w E Q h=>by
 obtain⟨⟨cls,dd,data,sl⟩,ho,hc,n,hd⟩:=id hl;obtain⟨⟨cls2,dd2,mv,sl2⟩,ho2,hc2,n2,hd2⟩:=id hb;simp only at hc hd hc2 hd2;subst hc hd hc2 hd2;exact ub ⟨_,ho,rfl⟩ ⟨_,ho2,rfl⟩ PySem.F.slot_tuple_ge PySem.F.entry_tuple_ge (PySem.F.args_tuple_ge_2 _ _) (VP l b items items2 n n2 dd dd2 sl sl2 xs ys res hr)
  ⟨ho,ho2,hC,show k6 res≠uc/\Q (.bool res) s from ⟨(λx=>nomatch x),h⟩⟩ hu
section
theorem O6(I:Inv X pins σ H s)(o:gF):∀(n:af)(A:bu){x y:V}{a b:D}{u v:ah}{k:aq},A.units+n<ck->a.fQ n=ae->b.fQ n=ae->Rep All H x a->Rep All H y b->RelV x u->RelV y v->
  iR o a b=ab k->RQ o.op A s u v k:=by
 intro n;induction n with
 |zero=>
  intro A x y a b u v k hu ha hb rx ry ru rv hk;cases a with
  |int i=>
   cases b with
   |int j=>
    cases rx;cases ry;obtain⟨t,rfl⟩:=ru;obtain⟨t',rfl⟩:=rv;rw[iR] at hk;have:=cq hk;subst this;cases o with
    |lt=>exact λprog w E Q h=>(Bc h:wpAny (av prog w) A (c6 .Lt (.int i t) (.int j t')) Q E s)
    |le=>exact λprog w E Q h=>(Bd h:wpAny (av prog w) A (c6 .LtE (.int i t) (.int j t')) Q E s)
    |gt=>exact λprog w E Q h=>(Be h:wpAny (av prog w) A (c6 .Gt (.int i t) (.int j t')) Q E s)
    |ge=>exact λprog w E Q h=>(Bf h:wpAny (av prog w) A (c6 .GtE (.int i t) (.int j t')) Q E s)
   |_=>exact nx0 hk
  |str i=>
   cases b with
   |str j=>
    cases rx;cases ry;obtain⟨t,rfl⟩:=ru;obtain⟨t',rfl⟩:=rv;rw[iR] at hk;have:=cq hk;subst this;cases o with
    |lt=>exact λprog w E Q h=>(Bg h:wpAny (av prog w) A (c6 .Lt (.str i t) (.str j t')) Q E s)
    |le=>exact λprog w E Q h=>(Bh h:wpAny (av prog w) A (c6 .LtE (.str i t) (.str j t')) Q E s)
    |gt=>exact λprog w E Q h=>(Bi h:wpAny (av prog w) A (c6 .Gt (.str i t) (.str j t')) Q E s)
    |ge=>exact λprog w E Q h=>(Bj h:wpAny (av prog w) A (c6 .GtE (.str i t) (.str j t')) Q E s)
   |_=>exact nx0 hk
  |tup _=>exact fx0 ha
  |_=>cases b<;>exact nx0 hk
 |succ n ih=>
  intro A x y a b u v k hu ha hb rx ry ru rv hk;have hu0:A.units<ck:=by lia
  have hu1:A.in1.units+n<ck:=by show A.units+1+n<ck;lia
  cases a with
  |int i=>
   cases b with
   |int j=>
    cases rx;cases ry;obtain⟨t,rfl⟩:=ru;obtain⟨t',rfl⟩:=rv;rw[iR] at hk;have:=cq hk;subst this;cases o with
    |lt=>exact λprog w E Q h=>(Bc h:wpAny (av prog w) A (c6 .Lt (.int i t) (.int j t')) Q E s)
    |le=>exact λprog w E Q h=>(Bd h:wpAny (av prog w) A (c6 .LtE (.int i t) (.int j t')) Q E s)
    |gt=>exact λprog w E Q h=>(Be h:wpAny (av prog w) A (c6 .Gt (.int i t) (.int j t')) Q E s)
    |ge=>exact λprog w E Q h=>(Bf h:wpAny (av prog w) A (c6 .GtE (.int i t) (.int j t')) Q E s)
   |_=>exact nx0 hk
  |str i=>
   cases b with
   |str j=>
    cases rx;cases ry;obtain⟨t,rfl⟩:=ru;obtain⟨t',rfl⟩:=rv;rw[iR] at hk;have:=cq hk;subst this;cases o with
    |lt=>exact λprog w E Q h=>(Bg h:wpAny (av prog w) A (c6 .Lt (.str i t) (.str j t')) Q E s)
    |le=>exact λprog w E Q h=>(Bh h:wpAny (av prog w) A (c6 .LtE (.str i t) (.str j t')) Q E s)
    |gt=>exact λprog w E Q h=>(Bi h:wpAny (av prog w) A (c6 .Gt (.str i t) (.str j t')) Q E s)
    |ge=>exact λprog w E Q h=>(Bj h:wpAny (av prog w) A (c6 .GtE (.str i t) (.str j t')) Q E s)
   |_=>exact nx0 hk
  |tup ds=>
   cases b with
   |tup es=>
    obtain⟨p,xs,rfl,e1,r1⟩:=rx.eU;cases ru;obtain⟨its1,vr1,h1⟩:=gK I e1;obtain⟨q,ys,rfl,e2,r2⟩:=ry.eU;cases rv;obtain⟨its2,vr2,h2⟩:=gK I e2;rw[D.fQ] at ha hb;rw[iR] at hk;have hC:∀o',o'=o->C2 o' A.in1 s its1.toArray.toList its2.toArray.toList ds es:=by
     rintro o' rfl;refine⟨by rw[oB,<-vr1.length,r1.length],by rw[oB,<-vr2.length,r2.length],λj v w x y a1 a2 a3 a4=>?_⟩;rw[oB] at a1 a2;obtain⟨v1,w1,rr1⟩:=r1.get a3;obtain⟨v2,w2,rr2⟩:=r2.get a4;obtain⟨u1,k1,l1⟩:=vr1.get w1;obtain⟨u2,k2,l2⟩:=vr2.get w2;rw[a1] at k1;cases k1;rw[a2] at k2;cases k2;have g1:x.fQ n=ae:=by
      have:=h_ ha (dz.mp a3).1;rwa [c9,a3] at this
     have g2:y.fQ n=ae:=by
      have:=h_ hb (dz.mp a4).1;rwa [c9,a4] at this
     exact⟨(IV I n A.in1 hu1 g1 g2 rr1 rr2 l1 l2).2.2,λ_ k hk=>ih A.in1 hu1 g1 g2 rr1 rr2 l1 l2 hk⟩
    cases o with
    |lt=>exact RQ.aJg h1 h2 (hC .lt rfl) hk hu0
    |le=>exact RQ.aJh h1 h2 (hC .le rfl) hk hu0
    |gt=>exact RQ.aJi h1 h2 (hC .gt rfl) hk hu0
    |ge=>exact RQ.aJj h1 h2 (hC .ge rfl) hk hu0
   |_=>exact nx0 hk
  |_=>cases b<;>exact nx0 hk
end
end Mi
namespace TS
open PySem PyProof.Rows
theorem BK(ho:s.heap.get? a=ab (eS "list" vs.toArray n))(hn:vs.length<=bn)
 (hk:2<=vs.length->∃κ U blt,Ord U blt/\o6 U (gV vs)/\
   (∀Q:ie->al->Prop,Q κ {s with heap:=((s.heap.update a (eJ λ_=>(#[]:aw ah))).push (eS "tuple" vs.toArray 0)).push (eS "list" #[] 0)}->wpAny (av prog w) A (xD vs.toArray) Q E {s with heap:=((s.heap.update a (eJ λ_=>(#[]:aw ah))).push (eS "tuple" vs.toArray 0)).push (eS "list" #[] 0)})/\
   U9 prog w A E {s with heap:=((s.heap.update a (eJ λ_=>(#[]:aw ah))).push (eS "tuple" vs.toArray 0)).push (eS "list" #[] 0)} κ U blt/\
   ∀arr:aw ay,arr.Perm (gV vs)->Srt blt arr 0 (gV vs).size->P (.done (.ret .none)) {s with heap:=xE s.heap a vs (arr.map (·.2))})
 (h1:vs.length<2->P (.done (.ret .none)) {s with heap:=xE s.heap a vs ((gV vs).map (·.2))}) :
  wpAny (av prog w) A (Builtin.«list.sort» ⟨[.ref a],[]⟩) P E s:=by
 rw[list_sort_plain];have ha:a<s.heap.objs.size:=bE ho;refine ao (listItems_at ho rfl ?_);refine ao (xI ho rfl ?_ (by rw[cm];exact hn) (di _));obtain⟨e1,ho1⟩:∃e1,(s.heap.update a (eJ λ_=>(#[]:aw ah))).get? a=ab (eS "list" #[] e1):=⟨_,get?_update_seq ho (λ_=>#[])⟩
 refine ao (xL ho1 rfl ?_);refine ao (xS ?_ (by show vs.length<=_;exact hn));refine ao (Bk ?_ (di _));refine fg ?_;have ho6:(((s.heap.update a (eJ λ_=>(#[]:aw ah))).push (eS "tuple" vs.toArray 0)).push (eS "list" #[] 0)).get? a=ab (eS "list" #[] e1):=by
  rw[Bl _ _ _ (by rw[size_push',ya];exact cw (kb ha)),Bl _ _ _ (by rw[ya];exact cw ha)];exact ho1
 show wpAny (av prog w) A _ P E {s with heap:=((s.heap.update a (eJ λ_=>(#[]:aw ah))).push (eS "tuple" vs.toArray 0)).push (eS "list" #[] 0)};dsimp only;have hsz:vs.toArray.size=vs.length:=by simp
 by_cases h2:vs.toArray.size<2
 ·rw[au h2,au h2];refine ao (aS ?_);rw[StateT.run_pure];refine ao (aS ?_);dsimp only;refine ao (xL ho6 rfl ?_);refine ao (xI ho6 rfl ?_ (di _) (hsz2:=by rw[Bm];show(gV vs).size<=_;rw[pairsOf_size];exact yb hn));simp only[Bn,c8,cK];exact aS (h1 0x1)
 ·rw[az h2,az h2];obtain⟨κ,U,blt,O,hU,hkk,hL,fin⟩:=hk 0x1;refine ao (hkk _ ?_);refine ao (fR (wpS_sortRuns
   (Q:=λ_ st'=>(am st').Perm (gV vs)/\gj st'=aj/\Srt blt (am st') 0 (gV vs).size) O hL hU ⟨rfl,rfl,ox _⟩ rfl (by rw[pairsOf_size];lia) λst' b z=>⟨b.pm,b.fl,z⟩) ?_ λ_ _ e=>e)
  rintro⟨⟨⟩,st'⟩ s' ⟨rfl,hp,hf,hs⟩;dsimp only;refine ao (xL ho6 rfl ?_);refine ao (xI ho6 rfl ?_ (di _) (hsz2:=by refine dw (nV ((Bm ..).trans (hp.size_eq.trans (pairsOf_size _)))) ?_;exact yb hn));rw[hf];simp only[Bn,c8,cK];exact aS (fin (am st') hp hs)
noncomputable def aI1(h:aI)(vs:aa ah):aI:=
 (((h.push (eS "list" vs.toArray 0)).update h.objs.size (eJ λ_=>(#[]:aw ah))).push (eS "tuple" vs.toArray 0)).push (eS "list" #[] 0)
theorem aC6(hb:h.get? b=ab o):(aI1 h vs).get? b=ab o:=by
 have hlt:b<h.objs.size:=bE hb;unfold aI1;refine bz _ (bz _ ?_);rw[Bo _ _ _ _ (cw hlt)];exact bz _ hb
noncomputable def aI2(h:aI)(vs:aa ah)(out:aw ah):aI:=xE (h.push (eS "list" vs.toArray 0)) h.objs.size vs out
theorem aC7(hb:h.get? b=ab o):(aI2 h vs out).get? b=ab o:=by
 have hlt:b<h.objs.size:=bE hb;unfold aI2;rw[sortedHeap_old (cw hlt) (by rw[size_push'];exact kb hlt)];exact bz _ hb
theorem aFn(h:aI)(vs:aa ah)(out:aw ah):∃e,(aI2 h vs out).get? h.objs.size=ab (eS "list" out e):=sortedHeap_at (cS _ rfl)
theorem VR(hn:vs.length<=bn)
 (hcol:∀(Q':aa ah->al->Prop) (E':ah->al->Prop),(∀h1 tk,(∀b o,s.heap.get? b=ab o->h1.get? b=ab o)->s.heap.objs.size<=h1.objs.size->Q' vs {s with heap:=h1,toks:=tk})->wpAny (av prog w) A.in1 (oI v) Q' E' s)
 (hk:∀h1 tk,(∀b o,s.heap.get? b=ab o->h1.get? b=ab o)->s.heap.objs.size<=h1.objs.size->2<=vs.length->∃κ U blt,Ord U blt/\o6 U (gV vs)/\
   (∀Q:ie->al->Prop,Q κ {s with heap:=aI1 h1 vs,toks:=tk}->wpAny (av prog w) A.in1.in1 (xD vs.toArray) Q (λ_ _=>cv) {s with heap:=aI1 h1 vs,toks:=tk})/\
   U9 prog w A.in1.in1 (λ_ _=>cv) {s with heap:=aI1 h1 vs,toks:=tk} κ U blt/\
   ∀arr:aw ay,arr.Perm (gV vs)->Srt blt arr 0 (gV vs).size->Q (.ref h1.objs.size) {s with heap:=aI2 h1 vs (arr.map (·.2)),toks:=tk})
 (h1:∀h1 tk,(∀b o,s.heap.get? b=ab o->h1.get? b=ab o)->s.heap.objs.size<=h1.objs.size->vs.length<2->Q (.ref h1.objs.size) {s with heap:=aI2 h1 vs ((gV vs).map (·.2)),toks:=tk}) :
  wpAny (av prog w) A (call (.builtin "sorted") [v]) Q E s:=by
 refine Bp kind_sorted plain_sorted entry_sorted (args_sorted1 _) ?_;unfold Builtin.«sorted»;refine ao (aS ?_);refine ao (hcol _ _ λhh tk kp hle=>?_);refine ao (Bk ?_ hn);have hoL:(hh.push (eS "list" vs.toArray 0)).get? hh.objs.size=ab (eS "list" vs.toArray 0):=cS _ rfl;show wpAny _ _ _ _ _ {s with heap:=hh.push (eS "list" vs.toArray 0),toks:=tk};refine ao (fg (sM slot_list_sort ⟨_,hoL,rfl⟩ entry_list_sort ?body (args_list_sort _)))
 case body=>
  refine fR (BK (E:=λ_ _=>cv) (P:=λf s'=>∃v,f=.done (.ret v)/\v=nv/\Q (.ref hh.objs.size) s') hoL hn (λh2=>?_) (λh2=>⟨_,rfl,rfl,h1 hh tk kp hle h2⟩)) (λf s' h=>?_) λ_ _ z=>fj z
  ·obtain⟨κ,U,blt,O,hU,hkk,hL,fin⟩:=hk hh tk kp hle h2;exact⟨κ,U,blt,O,hU,hkk,hL,λarr p z=>⟨_,rfl,rfl,fin arr p z⟩⟩
  ·obtain⟨v,rfl,rfl,q⟩:=h;exact⟨_,rfl,aS ⟨_,rfl,q⟩⟩
end TS
namespace Mi
open PySem L2 PySem.SeqAt
open PyProof.Rows (Keyed lt' keyLt' oneLt' SortKind SortSt kindOf tuples' oneType' pairsOf wpS wpS_bind wpS_pure wpS_get wpS_lift keyKind')
section
variable [KFrag]
def mD(H:Hp)(u:ah):D:=by
 classical
 exact if h:∃d,d.plain=ae/\d.fQ aV=ae/\∃v,RelV v u/\Rep All H v d then Bq h else .non
theorem u9(hp:d.plain=ae)(hq:d.fQ aV=ae)(rv:RelV v u)(r:Rep All H v d):mD H u=d:=by
 unfold mD;have h:∃d,d.plain=ae/\d.fQ aV=ae/\∃v,RelV v u/\Rep All H v d:=⟨d,hp,hq,v,rv,r⟩
 rw[tP h];obtain⟨h1,h2,v',rv',r'⟩:=Br h;have:=rv'.inj rv;subst this;exact Rep.inj aV h2 hq r' r
theorem eX(h:cA ds=ae)(ha:a∈ds):a.plain=ae/\a.fQ aV=ae/\fU a≠0/\fU a=fU (ds.headD .non)/\∀b∈ds,∃k,iR .lt a b=ab k:=by
 unfold cA at h;have:=fE.mp h a ha;simp only[bq,bne_iff_ne,iq] at this;obtain⟨⟨⟨⟨h1,h2⟩,h3⟩,h4⟩,h5⟩:=this;refine⟨h1,h2,h3,h4,λb hb=>wf.mp (fE.mp h5 b hb)⟩
theorem aJk(h:cA ds=ae)(ha:a∈ds)(hb:b∈ds):iR .lt a b=ab (decide (enc a<enc b)):=by
 obtain⟨p1,_,_,_,q⟩:=eX h ha;obtain⟨p2,_⟩:=eX h hb;obtain⟨k,hk⟩:=q b hb;rw[hk,OD a b k p1 p2 hk]
def sU(H:Hp)(ds:aa D)(k:ay):Prop:=∃v d,RelV v k.1/\Rep All H v d/\d∈ds
def sLt(H:Hp)(x y:ay):aq:=decide (enc (mD H x.1)<enc (mD H y.1))
theorem aOt(H:Hp)(ds:aa D):TS.Ord (sU H ds) (sLt H):=by
 refine⟨λx _=>?_,λx y z _ _ _ h1 h2=>?_,λx y z _ _ _ h=>?_⟩
 ·simp[sLt,Bu]
 ·simp only[sLt,fF] at *;exact List.lt_trans h1 h2
 ·simp only[sLt,fF] at *;by_cases q:enc (mD H x.1)<enc (mD H y.1)
  ·exact .inl q
  ·exact .inr (A6 (A7.mp q) h)
section
variable {X:Cx} {pins:aa (ak×aT)} {σ:L2.St} {H:Hp} {s:al}
open PySem.W in
theorem BL:∀(vs ws:aa ah)(xs ys:aa D)(i:af),(b&&i==0)=ag->C2 .lt A s vs ws xs ys->dJ .lt xs ys=ab k->xs.length+n2=ys.length+n1->Q k s->
  KatLex prog w A b (decide (n1<n2)) Q (vs.zip ws) i s
 |[],ws,xs,ys,i,_,hC,hk,hf,q=>by
  have:xs=[]:=Bv hC.1.symm;subst this;rw[mN];rw[dJ] at hk;have e:k=decide (n1<n2):=by
   rw[<-cq hk];simp only[gF.nat,eL] at hf ⊢
   congr 1
   simp only[jn];lia
  rw[<-e];exact q
 |v::vs,[],xs,ys,i,_,hC,hk,hf,q=>by
  have:ys=[]:=Bv hC.2.1.symm;subst this;rw[lP];cases xs with
  |nil=>exact bg hC.1 0x2
  |cons x xs=>
   rw[dJ] at hk;have e:k=decide (n1<n2):=by
    rw[<-cq hk];simp only[gF.nat,eL,bj] at hf ⊢
    congr 1
    simp only[jn];lia
   rw[<-e];exact q
 |v::vs,w'::ws,[],ys,i,_,hC,hk,hf,q=>bg hC.1 0x2
 |v::vs,w'::ws,x::xs,[],i,_,hC,hk,hf,q=>bg hC.2.1 0x2
 |v::vs,w'::ws,x::xs,y::ys,i,hi,hC,hk,hf,q=>by
  rw[jk];obtain⟨he,hlt⟩:=hC.2.2 0 _ _ _ _ rfl rfl rfl rfl;rw[dJ] at hk;refine kat_cons (he prog w _ _ ?_);cases e:eqD x y with
  |true=>
   rw[e,au rfl] at hk;exact kat_yes (BL vs ws xs ys (i+1) 0x2 hC.tail hk (by simp only[bj] at hf;lia) q)
  |false=>
   rw[e,az 0x2] at hk;refine kat_no ?_;rw[hi];exact kat_one _ _ (hlt e k hk prog w _ _ q)
theorem aMr(I:Inv X pins σ H s)(hu:A.units+n<ck)(ha:D.dX n ds=ae)(hb:D.dX n es=ae)(r1:bL All H xs ds)(r2:bL All H ys es)(vr1:Vals xs its1)(vr2:Vals ys its2) :
  C2 .lt A s its1 its2 ds es:=by
 refine⟨by rw[<-vr1.length,r1.length],by rw[<-vr2.length,r2.length],λj v w x y a1 a2 a3 a4=>?_⟩;obtain⟨v1,w1,rr1⟩:=r1.get a3;obtain⟨v2,w2,rr2⟩:=r2.get a4;obtain⟨u1,k1,l1⟩:=vr1.get w1;obtain⟨u2,k2,l2⟩:=vr2.get w2;rw[a1] at k1;cases k1;rw[a2] at k2;cases k2;have g1:x.fQ n=ae:=by
  have:=h_ ha (dz.mp a3).1;rwa [c9,a3] at this
 have g2:y.fQ n=ae:=by
  have:=h_ hb (dz.mp a4).1;rwa [c9,a4] at this
 exact⟨(IV I n A hu g1 g2 rr1 rr2 l1 l2).2.2,λ_ k hk=>O6 I .lt n A hu g1 g2 rr1 rr2 l1 l2 hk⟩
theorem kind_le(d:D):fU d<=5:=by
 unfold fU;split<;>lia
theorem aFo(h:fU d=1):∃i,d=.int i:=by
 unfold fU at h;split at h<;>first|lia|exact⟨_,rfl⟩
theorem aFp(h:fU d=2):∃i,d=.str i:=by
 unfold fU at h;split at h<;>first|lia|exact⟨_,rfl⟩
theorem aC8(h:fU d=3):∃i r,d=.tup (.int i::r):=by
 unfold fU at h;split at h<;>first|lia|exact⟨_,_,rfl⟩
theorem aC9(h:fU d=4):∃i r,d=.tup (.str i::r):=by
 unfold fU at h;split at h<;>first|lia|exact⟨_,_,rfl⟩
theorem aJl(h:fU d=5):∃i r,d=.tup (.tup i::r):=by
 unfold fU at h;split at h<;>first|lia|exact⟨_,_,rfl⟩
theorem RT(r:bL All H xs ds)(vr:Vals xs its)(hu:u∈its):∃v d,RelV v u/\Rep All H v d/\d∈ds:=by
 obtain⟨j,hj,e⟩:=ow hu;have hj':j<ds.length:=by rw[<-r.length,vr.length];exact hj
 obtain⟨v,h1,h2⟩:=r.get (i:=j) (d:=ds[j]) (by simp[hj']);obtain⟨u',h3,h4⟩:=vr.get h1;rw[eh hj,e] at h3;cases h3;exact⟨v,_,h4,h2,mI _⟩
open PySem.W in
theorem BP(I:Inv X pins σ H s){F:D->Prop}(hF:∀(d:D) (v:V) (u:ah),F d->RelV v u->Rep All H v d->Looks (av X.prog X.w) s.heap (mx u) T) :
  ∀{xs:aa V}{ds:aa D}{its:aa ah},bL All H xs ds->Vals xs its->(∀d∈ds,∃f r,d=.tup (f::r)/\F f)->∃fs,KatTups s.heap its fs/\fs.length=its.length/\∀f∈fs,Looks (av X.prog X.w) s.heap (mx f) T
 |_,_,_,.nil,.nil,_=>⟨[],.nil,rfl,λ_ h=>by simp at h⟩
 |_,_,_,.cons r t,.cons v vt,h=>by
  obtain⟨fs,h1,h2,h3⟩:=BP I hF t vt λd hd=>h d (cg _ hd)
  obtain⟨f,rr,rfl,hf⟩:=h _ (b6 ..);obtain⟨a,ys,rfl,e,rs⟩:=r.eU;cases v;obtain⟨its2,vr2,o,ho,hc,n,hd⟩:=gK I e;cases rs with
  |cons r0 rs=>
   cases vr2 with
   |cons v0 vr2=>
    refine⟨_::fs,.cons ho hc hd rfl h1,by simp[h2],λg hg=>?_⟩;rcases b9.mp hg with rfl|hg
    ·exact hF _ _ _ hf v0 r0
    ·exact h3 g hg
open PySem.W in
theorem ZG(I:Inv X pins σ H s)(hu:A.units+aV<ck)(hc:cA ds=ae)(r:bL All H xs ds)(vr:Vals xs its)(h2:2<=its.length) :
  ∃κ:ie,(∀Q:ie->al->Prop,Q κ s->wpAny (av X.prog X.w) A (xD its.toArray) Q (λ_ _=>cv) s)/\
   ∀(x y:ay)(Q:aq->al->Prop),sU H ds x->sU H ds y->Q (sLt H x y) s->wpAny (av X.prog X.w) A (keyLt' κ x.1 y.1) Q (λ_ _=>cv) s:=by
 have hlen:ds.length=its.length:=by rw[<-r.length,vr.length]
 have hkind:∀d∈ds,fU d=fU (ds.headD .non):=λd hd=>(eX hc hd).2.2.2.1
 have hne:fU (ds.headD .non)≠0:=by
  have hd:ds.headD .non∈ds:=by
   cases ds with
   |nil=>simp at hlen;lia
   |cons d ds=>simp
  exact(eX hc hd).2.2.1
 have lty:∀{x y:ay}{v v':V}{d d':D},RelV v x.1->Rep All H v d->d∈ds->RelV v' y.1->Rep All H v' d'->d'∈ds->iR .lt d d'=ab (sLt H x y):=λ{x y v v' d d'} rv rp hd rv' rp' hd'=>by
  have e1:=u9 (eX hc hd).1 (eX hc hd).2.1 rv rp;have e2:=u9 (eX hc hd').1 (eX hc hd').2.1 rv' rp';rw[aJk hc hd hd'];unfold sLt;rw[e1,e2]
 -- two tuples whose first items are told by a lf of their own,or by the common one
 have tupl:∀(b:aq)(x y:ay)(Q:aq->al->Prop),sU H ds x->sU H ds y->(∀d∈ds,∃f r,d=.tup (f::r))->
   (b=ae->∀(f g:D)(v v':V)(u u':ah)(k:aq)(Q:aq->al->Prop),(∃r,D.tup (f::r)∈ds)->(∃r,D.tup (g::r)∈ds)->RelV v u->Rep All H v f->RelV v' u'->Rep All H v' g->iR .lt f g=ab k->Q k s->wpAny (av X.prog X.w) A (oneLt' ae u u') Q (λ_ _=>cv) s)->
   Q (sLt H x y) s->wpAny (av X.prog X.w) A (keyLt' (ud b) x.1 y.1) Q (λ_ _=>cv) s:=by
  rintro b ⟨x1,x2⟩ ⟨y1,y2⟩ Q ⟨v,d,rv,rp,hd⟩ ⟨v',d',rv',rp',hd'⟩ htup hone q;have hk:=lty rv rp hd rv' rp' hd';have q1:=(eX hc hd).2.1;have q2:=(eX hc hd').2.1;obtain⟨f,rr,rfl⟩:=htup d hd;obtain⟨g,rr',rfl⟩:=htup d' hd';obtain⟨a,ys,rfl,e,rs⟩:=rp.eU;obtain⟨a',ys',rfl,e',rs'⟩:=rp'.eU;cases rv;cases rv';obtain⟨i1,vr1,o1,ho1,hc1,n1,hd1⟩:=gK I e;obtain⟨i2,vr2,o2,ho2,hc2,n2,hd2⟩:=gK I e';rw[iR] at hk;have q1':D.dX 11 (f::rr)=ae:=q1;have q2':D.dX 11 (g::rr')=ae:=q2;have hu':A.units+11<ck:=by have:A.units+12<ck:=hu;lia
  have C:=aMr I hu' q1' q2' rs rs' vr1 vr2;refine kat_lt ho1 hd1 ho2 hd2 ?_;have z1:i1.toArray.size=(f::rr).length:=by rw[cm,<-vr1.length,rs.length]
  have z2:i2.toArray.size=(g::rr').length:=by rw[cm,<-vr2.length,rs'.length]
  rw[oB,oB,z1,z2];cases b with
  |false=>exact BL i1 i2 (f::rr) (g::rr') 0 rfl C hk 0x1 q
  |true=>
   cases rs with
   |cons r0 rs=>
    cases rs' with
    |cons r0' rs'=>
     cases vr1 with
     |cons v0 vr1=>
      cases vr2 with
      |cons v0' vr2=>
       rw[jk];obtain⟨he,_⟩:=C.2.2 0 _ _ _ _ rfl rfl rfl rfl;rw[dJ] at hk;refine kat_cons (he X.prog X.w _ _ ?_);cases e0:eqD f g with
       |true=>
        rw[e0,au rfl] at hk;exact kat_yes (BL _ _ rr rr' 1 0x2 C.tail hk (by simp only[bj];lia) q)
       |false=>
        rw[e0,az 0x2] at hk;refine kat_no ?_;exact hone rfl f g _ _ _ _ _ Q ⟨_,hd⟩ ⟨_,hd'⟩ v0 r0 v0' r0' hk q
 have h5:=kind_le (ds.headD .non);have cases5:fU (ds.headD .non)=1\/fU (ds.headD .non)=2\/fU (ds.headD .non)=3\/fU (ds.headD .non)=4\/fU (ds.headD .non)=5:=by lia
 rcases cases5 with c|c|c|c|c
 ·refine⟨oneType',λQ q=>kas_kind (T:=.type "int") h2 (λu hm=>?_) 0x4 0x4 q,λx y Q hx hy q=>?_⟩
  ·obtain⟨v,d,rv,rp,hd⟩:=RT r vr hm;obtain⟨i,rfl⟩:=aFo ((hkind d hd).trans c);cases rp.inv;obtain⟨t,rfl⟩:=rv;exact ue rfl
  ·obtain⟨v,d,rv,rp,hd⟩:=hx;obtain⟨v',d',rv',rp',hd'⟩:=hy;have hk:=lty rv rp hd rv' rp' hd';obtain⟨i,rfl⟩:=aFo ((hkind d hd).trans c);obtain⟨j,rfl⟩:=aFo ((hkind d' hd').trans c);cases rp.inv;cases rp'.inv;obtain⟨t,e1⟩:=rv;obtain⟨t',e2⟩:=rv';rw[iR] at hk;rw[<-cq hk] at q;rw[e1,e2,Bw];exact Bx q
 ·refine⟨oneType',λQ q=>kas_kind (T:=.type "str") h2 (λu hm=>?_) 0x4 0x4 q,λx y Q hx hy q=>?_⟩
  ·obtain⟨v,d,rv,rp,hd⟩:=RT r vr hm;obtain⟨i,rfl⟩:=aFp ((hkind d hd).trans c);cases rp.inv;obtain⟨t,rfl⟩:=rv;exact ue rfl
  ·obtain⟨v,d,rv,rp,hd⟩:=hx;obtain⟨v',d',rv',rp',hd'⟩:=hy;have hk:=lty rv rp hd rv' rp' hd';obtain⟨i,rfl⟩:=aFp ((hkind d hd).trans c);obtain⟨j,rfl⟩:=aFp ((hkind d' hd').trans c);cases rp.inv;cases rp'.inv;obtain⟨t,e1⟩:=rv;obtain⟨t',e2⟩:=rv';rw[iR] at hk;rw[<-cq hk] at q;rw[e1,e2,Bw];exact By q
 ·obtain⟨fs,t1,t2,t3⟩:=BP I (T:=.type "int") (F:=λf=>∃i,f=.int i) (λd v u hf rv rp=>by
   obtain⟨i,rfl⟩:=hf;cases rp.inv;obtain⟨t,rfl⟩:=rv;exact ue rfl) r vr (λd hd=>by
   obtain⟨i,rr,rfl⟩:=aC8 ((hkind d hd).trans c);exact⟨_,_,rfl,i,rfl⟩)
  refine⟨ud ae,λQ q=>yc (T:=.type "int") t1 0x1 t3 0x4 q,λx y Q hx hy q=>tupl ae x y Q hx hy (λd hd=>?_) (λ_ f g v v' u u' k Q hf hg rv rp rv' rp' hk q=>?_) q⟩
  ·obtain⟨i,rr,rfl⟩:=aC8 ((hkind d hd).trans c);exact⟨_,_,rfl⟩
  ·obtain⟨r1,hf⟩:=hf;obtain⟨r2,hg⟩:=hg;obtain⟨i,rr,e1⟩:=aC8 ((hkind _ hf).trans c);obtain⟨j,rr',e2⟩:=aC8 ((hkind _ hg).trans c);cases e1;cases e2;cases rp.inv;cases rp'.inv;obtain⟨t,rfl⟩:=rv;obtain⟨t',rfl⟩:=rv';rw[iR] at hk;rw[<-cq hk] at q;exact Bx q
 ·obtain⟨fs,t1,t2,t3⟩:=BP I (T:=.type "str") (F:=λf=>∃i,f=.str i) (λd v u hf rv rp=>by
   obtain⟨i,rfl⟩:=hf;cases rp.inv;obtain⟨t,rfl⟩:=rv;exact ue rfl) r vr (λd hd=>by
   obtain⟨i,rr,rfl⟩:=aC9 ((hkind d hd).trans c);exact⟨_,_,rfl,i,rfl⟩)
  refine⟨ud ae,λQ q=>yc (T:=.type "str") t1 0x1 t3 0x4 q,λx y Q hx hy q=>tupl ae x y Q hx hy (λd hd=>?_) (λ_ f g v v' u u' k Q hf hg rv rp rv' rp' hk q=>?_) q⟩
  ·obtain⟨i,rr,rfl⟩:=aC9 ((hkind d hd).trans c);exact⟨_,_,rfl⟩
  ·obtain⟨r1,hf⟩:=hf;obtain⟨r2,hg⟩:=hg;obtain⟨i,rr,e1⟩:=aC9 ((hkind _ hf).trans c);obtain⟨j,rr',e2⟩:=aC9 ((hkind _ hg).trans c);cases e1;cases e2;cases rp.inv;cases rp'.inv;obtain⟨t,rfl⟩:=rv;obtain⟨t',rfl⟩:=rv';rw[iR] at hk;rw[<-cq hk] at q;exact By q
 ·obtain⟨fs,t1,t2,t3⟩:=BP I (T:=.type "tuple") (F:=λf=>∃i,f=.tup i) (λd v u hf rv rp=>by
   obtain⟨i,rfl⟩:=hf;obtain⟨a,ys,rfl,e,rs⟩:=rp.eU;cases rv;obtain⟨i1,vr1,o1,ho1,hc1,n1,hd1⟩:=gK I e;have:=(show Looks (av X.prog X.w) s.heap (mx (.ref a)) o1.cls from (Looks.ld ho1).andThen .now)
   rwa [hc1] at this) r vr (λd hd=>by
   obtain⟨i,rr,rfl⟩:=aJl ((hkind d hd).trans c);exact⟨_,_,rfl,i,rfl⟩)
  refine⟨ud ag,λQ q=>yc (T:=.type "tuple") t1 0x1 t3 0x4 q,λx y Q hx hy q=>tupl ag x y Q hx hy (λd hd=>?_) (λh=>by cases h) q⟩;obtain⟨i,rr,rfl⟩:=aJl ((hkind d hd).trans c);exact⟨_,_,rfl⟩
theorem aFq(I:Inv X pins σ H s)(h:∀(x y:ay) (Q:aq->al->Prop),sU H ds x->sU H ds y->Q (sLt H x y) s->wpAny (av X.prog X.w) A (keyLt' κ x.1 y.1) Q (λ_ _=>cv) s) :
  TS.U9 X.prog X.w A (λ_ _=>cv) s κ (sU H ds) (sLt H):=by
 intro x y st Q hx hy hk q;rw[C3];refine aE (iv ?_);rw[hk];refine aE (kH (yd (fR (h x y (λb s'=>s'=s/\b=sLt H x y) hx hy ⟨rfl,rfl⟩) (λb s' ⟨e1,e2⟩=>⟨e1,?_⟩) λ_ _ z=>fj z)));subst e2;exact bf q
theorem wK(I:Inv X pins σ H s)(hu:X.A.units+20<ck)(vr:Vals xs its)(hn:its.length<=bn)(r:bL All H xs ds)(hc:cA ds=ae)
 (hcol:∀(Q':aa ah->al->Prop) (E':ah->al->Prop),(∀h1 tk,(∀b o,s.heap.get? b=ab o->h1.get? b=ab o)->s.heap.objs.size<=h1.objs.size->Q' its {s with heap:=h1,toks:=tk})->wpAny (av X.prog X.w) X.A.in1 (oI v) Q' E' s)
 (q:∀p xs',H p=aj->bL All H xs' (v_ ds)->Q (.ref p) (upd H p (.lst xs'))):wpAny (av X.prog X.w) X.A (call (.builtin "sorted") [v]) (EP X pins σ Q) X.xe s:=by
 have hz:xs.length<=bn:=by rw[vr.length];exact hn
 -- what comes,told by its data
 have fin:∀(h1:aI)(tk:af),(∀b o,s.heap.get? b=ab o->h1.get? b=ab o)->s.heap.objs.size<=h1.objs.size->∀arr:aw ay,arr.Perm (gV its)->(∀i j,i<=j->j<arr.size->leE (mD H (TS.gt arr i).1) (mD H (TS.gt arr j).1)=ae)->EP X pins σ Q (.ref h1.objs.size) {s with heap:=TS.aI2 h1 its (arr.map (·.2)),toks:=tk}:=by
  intro h1' tk kp hle arr hp hs;have hpl:arr.toList.Perm (its.zip its):=by rw[<-C4];exact xq.mp hp
  have hmem:∀p∈arr.toList,p.1=p.2/\p.1∈its:=λp hp'=>C5 (hpl.mem_iff.mp hp')
  have e1:(arr.map (·.2)).toList=arr.toList.map (·.1):=by
   rw[Array.toList_map];exact ye λp hp'=>(hmem p hp').1.symm
  -- the values and their data
  have all:∀l:aa ay,(∀p∈l,p∈arr.toList)->∃ys,Vals ys (l.map (·.1))/\bL All H ys (l.map λp=>mD H p.1):=by
   intro l;induction l with
   |nil=>intro _;exact⟨[],.nil,.nil⟩
   |cons p l ih=>
    intro h;obtain⟨ys,h1,h2⟩:=ih λp hp'=>h p (cg _ hp')
    obtain⟨v,d,rv,rp,hd⟩:=RT r vr (hmem p (h p (b6 ..))).2;refine⟨v::ys,.cons rv h1,?_⟩;rw[bw,u9 (eX hc hd).1 (eX hc hd).2.1 rv rp];exact .cons rp h2
  obtain⟨ys,h1,h2⟩:=all arr.toList λ_ h=>h
  have dats:its.map (mD H)=ds:=by
   clear all h1 h2 hp hs hpl hmem e1;have:∀{xs:aa V}{es:aa D}{us:aa ah},bL All H xs es->Vals xs us->(∀d∈es,d∈ds)->us.map (mD H)=es:=by
    intro xs es us r;induction us generalizing xs es with
    |nil=>intro v _;cases v;cases r;rfl
    |cons u us ih=>
     intro v hsub;cases v with
     |cons v0 vt=>
      cases r with
      |cons r0 rt=>
       have hd:=hsub _ (b6 ..);rw[bw,ih rt vt λd hd=>hsub d (cg _ hd),u9 (eX hc hd).1 (eX hc hd).2.1 v0 r0]
   exact this r vr λ_ h=>h
  have hperm:(arr.toList.map λp=>mD H p.1).Perm ds:=by
   have:=hpl.map λp=>mD H p.1
   have e2:(its.zip its).map (λp=>mD H p.1)=ds:=by
    have:(its.zip its).map (λp=>mD H p.1)=((its.zip its).map Prod.fst).map (mD H):=by rw[eD];rfl
    rw[this,List.map_fst_zip (ba _),dats]
   rwa [e2] at this
  have hsorted:(arr.toList.map λp=>mD H p.1).Pairwise λa b=>leE a b=ae:=by
   rw[mP,xm];intro i j hi hj hij;have:=hs i j (ny hij) (by simpa using hj);have g:∀k (hk:k<arr.toList.length),TS.gt arr k=arr.toList[k]:=λk hk=>by
    unfold TS.gt;have hk':k<arr.size:=by simpa using hk
    simp[jh,hk']
   rwa [g i hi,g j hj] at this
  have eq:(arr.toList.map λp=>mD H p.1)=v_ ds:=by
   refine wG (λd hd=>?_) (hperm.trans (fL ds).symm) hsorted (j6 ds);exact(eX hc (hperm.mem_iff.mp hd)).1
  rw[eq] at h2;rw[<-e1] at h1;have hfr:H h1'.objs.size=aj:=I.hok.fresh hle;obtain⟨ee,he⟩:=TS.aFn h1' its (arr.map (·.2));refine⟨.ref h1'.objs.size,_,I.laid (λb o e=>TS.aC7 (kp b o e)) hle ?_,rfl,q _ ys hfr h2⟩;refine⟨?_,(arr.map (·.2)).toList,ee,h1,by rw[he]⟩;rw[h2.length,(fL ds).length_eq,<-r.length];exact hz
 refine TS.VR hn hcol (λhh tk kp hle h2=>?_) (λhh tk kp hle h2=>?_)
 ·have I':Inv X pins σ H {s with heap:=TS.aI1 hh its,toks:=tk}:=I.kept λb o e=>TS.aC6 (kp b o e)
  have hu2:X.A.in1.in1.units+aV<ck:=by show X.A.units+1+1+12<ck;lia
  obtain⟨κ,k1,k2⟩:=ZG I' hu2 hc r vr h2;refine⟨κ,sU H ds,sLt H,aOt H ds,λi hi=>?_,k1,aFq I' k2,λarr p z=>fin hh tk kp hle arr p λi j a1 a2=>?_⟩
  ·rw[Bz] at hi;have e:TS.gt (gV its) i=(its[i],its[i]):=by
    unfold TS.gt gV;simp[jh,hi]
   rw[e];exact RT r vr (mI hi)
  ·have:=z i j (di _) a1 (by rw[<-p.size_eq];exact a2);unfold leE;unfold sLt at this;rw[this];rfl
 ·refine fin hh tk kp hle _ (ox _) λi j a1 a2=>?_
  rw[Bz] at a2;rw[show i=j by lia];simp[leE,Bu]
theorem V0(I:Inv X pins σ H s)(hu:X.A.units+20<ck)(hl:SqL X.K H l xs)(r:bL All H xs ds)(hc:cA ds=ae)
 (q:∀p xs',H p=aj->bL All H xs' (v_ ds)->Q (.ref p) (upd H p (.lst xs'))):wpAny (av X.prog X.w) X.A (call (.builtin "sorted") [.ref l]) (EP X pins σ Q) X.xe s:=by
 obtain⟨its,vr,pl,hz⟩:=I.list hl;have hn:its.length<=bn:=by rw[<-vr.length];exact hz
 refine wK I hu vr hn r hc (λQ' E' h=>C6 pl.isList (h _ s.toks (λb o e=>?_) ?_) hn) q
 ·rw[Bo _ _ _ _ (cw (bE e))];exact bz _ e
 ·rw[ya,C7];exact gN _
end
end
open PySem.Spec PyProof.Rows
section
variable [KFrag]
def kR(H:Hp)(d:D)(fr:aq)(Q:VK):Prop:=∀v H',cG H H'->Rep All H' v d->(fr=ae->Rep (New H) H' v d)->Q v H'
noncomputable def gE(f:FE)(fr:aq):TE:=λσ H Q=>∃ρ d,ER H σ ρ/\f ρ=.ok d/\kR H d fr Q
noncomputable def gT(f:FT):TT:=λσ H Q=>∃ρ b,ER H σ ρ/\f ρ=.ok b/\∀H',cG H H'->Q b H'
noncomputable def gA(f:FA)(fr:aq):TA:=λσ H Q=>∃ρ ds,ER H σ ρ/\f ρ=.ok ds/\∀vs H',cG H H'->bL All H' vs ds->(fr=ae->bL (New H) H' vs ds)->Q vs H'
theorem kR.self{fr:aq}(q:kR H d fr Q)(r:Rep All H v d)(r2:fr=ae->Rep (New H) H v d):Q v H:=q v H (cG.refl H) r r2
theorem kR.imp{fr fr':aq}(q:kR H d fr Q)(s:cG H H')(h:fr=ae->fr'=ae):kR H' d fr' Q:=λv H2 s2 r n=>q v H2 (s.trans s2) r λhf=>(n (h hf)).mono (cG.new s)
theorem kR.int{fr:aq}{Q:VK}(q:kR H (.int i) fr Q):Q (.int i) H:=q.self (.int i) λ_=>.int i
theorem kR.bl{fr:aq}{Q:VK}(q:kR H (.bl i) fr Q):Q (.bl i) H:=q.self (.bl i) λ_=>.bl i
theorem kR.str{fr:aq}{Q:VK}(q:kR H (.str i) fr Q):Q (.str i) H:=q.self (.str i) λ_=>.str i
theorem kR.non{fr:aq}{Q:VK}(q:kR H .non fr Q):Q .non H:=q.self .non λ_=>.non
noncomputable def r2(f:D->D->Res D)(fr:aq):R2:=λx y H Q=>∃a b d,Rep All H x a/\Rep All H y b/\f a b=.ok d/\kR H d fr Q
def r1(f:D->Res D)(fr:aq):V->Hp->VK->Prop:=λx H Q=>∃a d,Rep All H x a/\f a=.ok d/\kR H d fr Q
def rs(f:aa D->Res D)(fr:aq):aa V->Hp->VK->Prop:=λxs H Q=>∃ds d,bL All H xs ds/\f ds=.ok d/\kR H d fr Q
theorem bI{f:α->Res β}(h:(do let x <- m;f x)=.ok b):∃a,m=.ok a/\f a=.ok b:=Res.aFj h
section
variable {X:Cx} {a b e:Expr} {pos:bS} {fa fb fe:FE} {ra rb re:aq} {ga:FT}
theorem ER.var(E:ER H σ ρ)(h:iW i ρ=.ok d):∃v,σ[i]?=ab (ab v)/\Rep All H v d/\ρ.getD i .uD=d:=by
 have:ρ.getD i .uD=d/\d≠.uD:=by
  unfold iW at h;split at h
  ·exact bx h
  ·cases h;refine⟨rfl,λz=>?_⟩;rename_i q;exact q z
 obtain⟨e1,e2⟩:=this;obtain⟨v,h1,h2⟩:=E i (by rw[e1];exact e2);exact⟨v,h1,by rw[e1] at h2;exact h2,e1⟩
theorem aC(hN:X.N[i]?=ab x:=by exact rfl)(hv:Vis X.env.scope x:=by trivial)(hd:nDb x:=by decide)(hcd:nCd x:=by decide):PE X (.Name x pos) (gE (iW i) ag):=
 PE.imp (jJ hN hv hd hcd) λσ H Q z0=>by
  obtain⟨ρ,d,E,h,q⟩:=z0;obtain⟨v,h1,h2,_⟩:=E.var h;exact⟨v,h1,q.self h2 (λz=>by cases z)⟩
theorem aF{i j}:PE X (.Constant (.int i) j pos) (gE (bC (.int i)) ae):=PE.imp aIe λσ H Q z0=>by obtain⟨ρ,d,E,h,q⟩:=z0;cases h;exact q.int
theorem BR{i j}:PE X (.Constant (.bool i) j pos) (gE (bC (.bl i)) ae):=PE.imp aM0 λσ H Q z0=>by obtain⟨ρ,d,E,h,q⟩:=z0;cases h;exact q.bl
theorem yO{i j}:PE X (.Constant (.str i) j pos) (gE (bC (.str i)) ae):=PE.imp aIg λσ H Q z0=>by obtain⟨ρ,d,E,h,q⟩:=z0;cases h;exact q.str
theorem o8{j}:PE X (.Constant .none j pos) (gE (bC .non) ae):=PE.imp aIf λσ H Q z0=>by obtain⟨ρ,d,E,h,q⟩:=z0;cases h;exact q.non
theorem two{fr:aq}{σ:L2.St}{H:Hp}{Q:VK}(h:gE (b2 f fa fb) fr σ H Q):tOp (r2 f fr) (gE fa ra) (gE fb rb) σ H Q:=by
 obtain⟨ρ,d,E,h,q⟩:=h;obtain⟨x,h1,h⟩:=bI h;obtain⟨y,h2,h⟩:=bI h;refine⟨ρ,x,E,h1,λv H1 s1 rp1 _=>⟨ρ,y,E.same s1,h2,λu H2 s2 rp2 _=>⟨x,y,d,rp1.same s2,rp2,h,q.imp (s1.trans s2) id⟩⟩⟩
theorem bA{o:Operator}{f:D->D->Res D}{fr:aq}(ho:OpR X (fy o) (r2 f fr))(ha:PE X a (gE fa ra))(hb:PE X b (gE fb rb)):PE X (.BinOp a o b pos) (gE (b2 f fa fb) fr):=PE.imp (aMc ho ha hb) λ_ _ _=>two
theorem IW{o:iL}{f:D->D->Res D}{fr:aq}(ho:OpR X (c6 o) (r2 f fr))(ha:PE X a (gE fa ra))(hb:PE X b (gE fb rb))(hm:mj o b=ag):PE X (.Compare a [o] [b] pos) (gE (b2 f fa fb) fr):=PE.imp (aEv ho ha hb hm) λ_ _ _=>two
theorem b_{o:iL}{f:D->D->Res D}{fr:aq}(ho:OpR X (c6 o) (r2 f fr))(ha:PE X a (gE fa ra))(hb:PE X b (gE fb rb))(hm:mj o b=ag):PT X (.Compare a [o] [b] pos) (gT (bTB (b2 f fa fb))):=
 PT.imp (aEw ho ha hb hm) λσ H Q z0=>by
  obtain⟨ρ,k,E,h,q⟩:=z0;obtain⟨d,h1,h2⟩:=bI h;refine two ⟨ρ,d,E,h1,λv H' s r _=>?_⟩;cases d<;>simp only[asB] at h2<;>cases h2
  cases r.inv;exact⟨_,rfl,q H' s⟩
theorem aMs{f:D->Res D}{fr:aq}(ho:UnR X (sr o) (r1 f fr))(ha:PE X a (gE fa ra)):PE X (.UnaryOp o a pos) (gE (b1 f fa) fr):=
 PE.imp (aMd ho ha) λσ H Q z0=>by
  obtain⟨ρ,d,E,h,q⟩:=z0;obtain⟨x,h1,h⟩:=bI h;exact⟨ρ,x,E,h1,λv H1 s1 rp1 _=>⟨x,d,rp1,h,q.imp s1 id⟩⟩
theorem aMt{f:D->D->Res D}{fr:aq}(ho:IxR X (r2 f fr))(ha:PE X a (gE fa ra))(hb:PE X b (gE fb rb))(hs:M6 b):PE X (.Subscript a b pos) (gE (b2 f fa fb) fr):=PE.imp (aMn ho ha hb hs) λ_ _ _=>two
theorem aOu(r:Rep All H v d)(h:aNt d=.ok k)(hd:∀kvs,d≠.dct kvs)(hs:∀xs,d≠.scr xs):aMg X.K v H k:=by
 cases r with
 |non=>cases h;rfl
 |bl b=>cases h;rfl
 |int i=>cases h;rfl
 |str x=>
  replace h:(if decide (x.length<=lim) then Res.ok ((x.length:ai)!=0) else .bad)=.ok k:=h;split at h
  ·rename_i hl;cases h;exact⟨dw (eW hl) (by rw[dE];decide),rfl⟩
  ·exact bx h
 |tup e rr=>cases h;exact .inr (.inl ⟨_,.of e,by cases rr<;>rfl⟩)
 |lst e p rr=>cases h;exact .inl ⟨_,.of e,by cases rr<;>rfl⟩
 |frz e rr=>exact bg rfl (hs _)
 |dK e p rr n=>exact bg rfl (hd _)
 |dT e p rr n=>exact bg rfl (hd _)
 |fdK e rr n=>exact bx h
 |fdT e rr n=>exact bx h
 |exc n e q=>exact bx h
 |ins n e q=>exact bx h
 |adr=>exact bx h
 |cel e p rr=>exact bx h
theorem mV(ha:PE X a (gE fa ra))(he:∀whole,sk a X.env whole=(do let v <- whole;ss a.pos;lg [v] (truthy v)):=by intro _;rfl):PT X a (gT (bTr fa)):=
 PT.imp (aBm ha he) λσ H Q z0=>by
  obtain⟨ρ,k,E,h,q⟩:=z0;obtain⟨d,h1,h2⟩:=bI h;refine⟨ρ,d,E,h1,λv H' s r _=>⟨k,aOu r ?_ ?_ ?_,q H' s⟩⟩
  ·cases d<;>first|exact h2|exact bx h2
  ·rintro kvs rfl;exact bx h2
  ·rintro kvs rfl;exact bx h2
theorem oE(ha:PT X a (gT ga)):PT X (.UnaryOp .Not a pos) (gT (wB ga)):=PT.imp (aIj ha) λσ H Q z0=>by
  obtain⟨ρ,k,E,h,q⟩:=z0;obtain⟨d,h1,h2⟩:=bI h;cases h2;exact⟨ρ,d,E,h1,λH' s=>q H' s⟩
theorem ZJ{op}(ha:PE X a (gE fa ra)):PE X (.BoolOp op [a] pos) (gE fa ra):=aIk ha
theorem aDy(h:asB d=.ok k):d=.bl k:=by cases d<;>simp only[asB] at h<;>cases h;rfl
theorem aJm(h:asI d=.ok k):d=.int k:=by cases d<;>simp only[asI] at h<;>cases h;rfl
theorem aJn(ha:PE X a (gE fa ra)):PE X (.UnaryOp .Not a pos) (gE (aJf fa) ae):=PE.imp (aIm ha) λσ H Q z0=>by
  obtain⟨ρ,k,E,h,q⟩:=z0;obtain⟨d,h1,h⟩:=bI h;obtain⟨z,h2,h⟩:=bI h;cases h;cases aDy h2;exact⟨ρ,_,E,h1,λv H' s r _=>by cases r.inv;exact⟨_,rfl,(q.imp s id).bl⟩⟩
theorem I_{rest:aa Expr}(ha:PE X a (gE fa ra))(hb:PE X (.BoolOp .And (b::rest) pos) (gE fb rb)):PE X (.BoolOp .And (a::b::rest) pos) (gE (zY fa fb) rb):=PE.imp (aIl ha hb) λσ H Q z0=>by
  obtain⟨ρ,k,E,h,q⟩:=z0;obtain⟨d,h1,h⟩:=bI h;obtain⟨z,h2,h3⟩:=bI h;cases aDy h2;refine⟨ρ,_,E,h1,λv H' s r _=>?_⟩;cases r.inv;refine⟨_,rfl,?_⟩;cases z with
  |true=>rw[au rfl];rw[au rfl] at h3;exact⟨ρ,k,E.same s,h3,q.imp s id⟩
  |false=>rw[az 0x2];rw[az 0x2] at h3;cases h3;exact(q.imp s id).bl
theorem aG:PA X [] (gA aN ae):=PA.imp tV λσ H Q z0=>by obtain⟨ρ,ds,E,h,q⟩:=z0;cases h;exact q [] H (cG.refl H) .nil λ_=>.nil
theorem aB(he:PE X e (gE fe re))(hes:PA X es (gA f r))(hs:bi (e::es) X.env=(ag,bm e X.env)::bi es X.env:=by rfl):PA X (e::es) (gA (aA fe f) (re&&r)):=PA.imp (lJ he hes hs) λσ H Q z0=>by
  obtain⟨ρ,ds,E,h,q⟩:=z0;obtain⟨x,h1,h⟩:=bI h;obtain⟨xs,h2,h⟩:=bI h;cases h;refine⟨ρ,x,E,h1,λv H1 s1 r1 n1=>⟨ρ,xs,E.same s1,h2,λvs H2 s2 r2 n2=>q _ _ (s1.trans s2) (.cons (r1.same s2) r2) λhf=>?_⟩⟩;obtain⟨f1,f2⟩:=(bq _ _▸hf:re=ae/\r=ae)
  exact .cons ((n1 f1).same s2) ((n2 f2).mono (cG.new s1))
theorem bZ{x1}(h:PA X es (gA f r)):PE X (.Tuple es x1 pos) (gE (cZ f) r):=PE.imp (aIy h) λσ H Q z0=>by
  obtain⟨ρ,d,E,h,q⟩:=z0;obtain⟨xs,h1,h⟩:=bI h;split at h
  ·rename_i hl;cases h;refine⟨ρ,xs,E,h1,λvs H1 s1 r1 n1=>⟨?_,λp hp=>?_⟩⟩
   ·rw[r1.length];exact dw (eW hl) (by rw[dE];decide)
   ·have sp:cG H1 (upd H1 p (.tup vs)):=cG.upd hp;exact q _ _ (s1.trans sp) (.tup aM (r1.same sp)) λhf=>.tup aM ((n1 hf).same sp)
  ·exact bx h
theorem jN(h:PA X es (gA f r)):PE X (.List es pos) (gE (oR f) r):=PE.imp (aDq h) λσ H Q z0=>by
  obtain⟨ρ,d,E,h,q⟩:=z0;obtain⟨xs,h1,h⟩:=bI h;split at h
  ·rename_i hl;cases h;refine⟨ρ,xs,E,h1,λvs H1 s1 r1 n1=>⟨?_,λp hp=>?_⟩⟩
   ·rw[r1.length];exact dw (eW hl) (by rw[dE];decide)
   ·have sp:cG H1 (upd H1 p (.lst vs)):=cG.upd hp;exact q _ _ (s1.trans sp) (.lst aM trivial (r1.same sp)) λhf=>.lst aM (s1.free hp) ((n1 hf).same sp)
  ·exact bx h
theorem o9:PE X (.Dict [] [] pos) (gE (bC (.dct [])) ae):=PE.imp aBx λσ H Q z0=>by
  obtain⟨ρ,d,E,h,q⟩:=z0;cases h;exact λp hp=>q _ _ (cG.upd hp) (.dK aM trivial .nil io) λ_=>.dK aM hp .nil io
end
section
variable {a b e:Expr}
theorem nQ(h:decide (n<=lim)=ae):n<=bn:=dw (eW h) (by rw[dE];decide)
theorem ZK(h:decide (n<lim)=ae):n<bn:=dm (eW h) (by rw[dE];decide)
theorem Rep.aJo(r:Rep P H v (.lst ds)):∃a xs,v=.ref a/\Rd H a (.lst xs)/\bL P H xs ds:=by
 cases r with
 |lst e p rr=>exact⟨_,_,rfl,.inl e,rr⟩
theorem PW.imp(h:PW X e t)(i:∀σ H Q,t' σ H Q->t σ H Q):PW X e t':=λwh pins s σ H Q I q=>h wh pins s σ H Q I (i σ H Q q)
theorem O7(ha:PT X a (gT ga)):PW X (.BoolOp .And [a] pos) (gT ga):=aEs ha
theorem mW(ha:PT X a (gT ga)):PW X (.BoolOp .Or [a] pos) (gT ga):=aIh ha
theorem ZL{rest:aa Expr}(ha:PT X a (gT ga))(hb:PW X (.BoolOp .And (b::rest) pos) (gT gb)):PW X (.BoolOp .And (a::b::rest) pos) (gT (WT ga gb)):=PW.imp (aIi ha hb) λσ H Q z0=>by
 obtain⟨ρ,k,E,h,q⟩:=z0;obtain⟨z,h1,h3⟩:=bI h;refine⟨ρ,z,E,h1,λH' s=>?_⟩;cases z with
 |true=>rw[au rfl];rw[au rfl] at h3;exact⟨ρ,k,E.same s,h3,λH2 s2=>q H2 (s.trans s2)⟩
 |false=>rw[az 0x2];rw[az 0x2] at h3;cases h3;exact q H' s
theorem kZ{rest:aa Expr}(ha:PT X a (gT ga))(hb:PW X (.BoolOp .Or (b::rest) pos) (gT gb)):PW X (.BoolOp .Or (a::b::rest) pos) (gT (bOr ga gb)):=PW.imp (aM1 ha hb) λσ H Q z0=>by
 obtain⟨ρ,k,E,h,q⟩:=z0;obtain⟨z,h1,h3⟩:=bI h;refine⟨ρ,z,E,h1,λH' s=>?_⟩;cases z with
 |true=>rw[au rfl];rw[au rfl] at h3;cases h3;exact q H' s
 |false=>rw[az 0x2];rw[az 0x2] at h3;exact⟨ρ,k,E.same s,h3,λH2 s2=>q H2 (s.trans s2)⟩
theorem bU:OpR X (fy .Add) (r2 (a_ .add) ae):=by
 intro pins s σ H x y v u Q I rx ry h;obtain⟨a,b,d,p,q,e,k⟩:=h;cases p with
 |int i=>
  cases q with
  |int j=>cases e;exact aIq pins s σ H _ _ v u Q I rx ry ⟨i,j,rfl,rfl,k.int⟩
  |_=>exact bx e
 |str i=>
  cases q with
  |str j=>
   replace e:(if decide (i.length+j.length<=lim) then Res.ok (D.str (i++j)) else .bad)=.ok d:=e;split at e
   ·rename_i hl;cases e;exact UT pins s σ H _ _ v u Q I rx ry ⟨i,j,rfl,rfl,nQ hl,k.str⟩
   ·exact bx e
  |_=>exact bx e
 |non=>exact bx e
 |bl _=>exact bx e
 |tup _ _=>exact bx e
 |dK _ _ _ _=>exact bx e
 |dT _ _ _ _=>exact bx e
 |fdK _ _ _=>exact bx e
 |fdT _ _ _=>exact bx e
 |exc _ _ _=>exact bx e
 |ins _ _ _=>exact bx e
 |adr=>exact bx e
 |cel _ _ _=>exact bx e
 |@lst a1 xs ds e1 p1 r1=>
  have hR:Rep All H (.ref a1) (.lst ds):=.lst e1 p1 r1;cases b with
  |lst es=>
   replace e:(if decide (ds.length+es.length<=lim)&&D.aW ds&&D.aW es then Res.ok (D.lst (ds++es)) else .bad)=.ok d:=e;split at e
   ·rename_i hl;cases e;rw[bq,bq] at hl;obtain⟨⟨hl,hp1⟩,hp2⟩:=hl;obtain⟨l1,xs1,e1',rd1,rr1⟩:=hR.aJo;obtain⟨l2,xs2,rfl,rd2,rr2⟩:=q.aJo;cases e1';cases rx;cases ry;obtain⟨z,its,n,vr1,ee1⟩:=rd1.ok I.hok;obtain⟨z2,its2,n2,vr2,ee2⟩:=rd2.ok I.hok;have hz:xs1.length+xs2.length<=bn:=by rw[rr1.length,rr2.length];exact nQ hl
    have t1:=vr1.length;have t2:=vr2.length;refine PySem.P.add_list ee1 ee2 ?_ (by rw[cm,cm];lia);have ea:its.toArray++its2.toArray=(its++its2).toArray:=by simp
    rw[ea];refine⟨.ref _,_,I.aOm (vr1.append vr2) (by rw[cx];lia),rfl,?_⟩;have sp:cG H (upd H s.heap.objs.size (.lst (xs1++xs2))):=cG.upd I.fresh;exact k _ _ sp (.lst aM trivial ((rr1.append rr2).same sp)) λ_=>.lst aM I.fresh (((rr1.bT hp1).append (rr2.bT hp2)).same sp)
   ·exact bx e
  |_=>exact bx e
 |frz _ _=>exact bx e
theorem O8(h:OpR X f (rI C g))
 (hi:∀i j d,op (.int i) (.int j)=.ok d->C i j/\∃k,d=.int k/\g i j=.int k)(hn:∀a b d,op a b=.ok d->(∃i,a=.int i)/\∃j,b=.int j):OpR X f (r2 op ae):=by
 rintro pins s σ H x y v u Q I rx ry ⟨a,b,d,p,q,e,k⟩;obtain⟨⟨i,rfl⟩,⟨j,rfl⟩⟩:=hn a b d e;cases p.inv;cases q.inv;obtain⟨hc,m,rfl,hm⟩:=hi i j d e;exact h pins s σ H _ _ v u Q I rx ry ⟨i,j,rfl,rfl,hc,by rw[hm];exact k.int⟩
theorem u_(ho:o≠.add){a b d:D}(e:a_ o a b=.ok d):(∃i,a=.int i)/\∃j,b=.int j:=by
 cases a with
 |int i=>
  cases b with
  |int j=>exact⟨⟨i,rfl⟩,j,rfl⟩
  |_=>cases o<;>first|exact bx e|exact bg rfl ho
 |_=>cases o<;>first|exact bx e|exact bg rfl ho
theorem ZM:OpR X (fy .Sub) (r2 (a_ .sub) ae):=by
 rintro pins s σ H x y v u Q I rx ry ⟨a,b,d,p,q,e,k⟩;obtain⟨⟨i,rfl⟩,j,rfl⟩:=u_ 0x4 e;cases p.inv;cases q.inv;cases e;exact aIr pins s σ H _ _ v u Q I rx ry ⟨_,_,rfl,rfl,k.int⟩
theorem aJp:OpR X (fy .Mult) (r2 (a_ .mul) ae):=by
 refine O8 aIs (λi j d e=>?_) λa b d e=>u_ 0x4 e
 ·replace e:(if kY i||kY j then Res.ok (D.int (i*j)) else .bad)=.ok d:=e;split at e
  ·rename_i hl;cases e;refine⟨?_,_,rfl,rfl⟩;simp only[kY,gm,bq,fF] at hl;exact hl
  ·exact bx e
theorem fD:OpR X (fy .FloorDiv) (r2 (a_ .fdiv) ae):=by
 refine O8 aEu (λi j d e=>?_) λa b d e=>u_ 0x4 e
 ·replace e:(if decide (0<j)&&decide (j<1073741824) then Res.ok (D.int (i / j)) else .bad)=.ok d:=e;split at e
  ·rename_i hl;cases e;refine⟨?_,_,rfl,rfl⟩;simp only[bq,fF] at hl;exact hl
  ·exact bx e
theorem cH:OpR X (fy .Mod) (r2 (a_ .mod) ae):=by
 refine O8 aIt (λi j d e=>?_) λa b d e=>u_ 0x4 e
 ·replace e:(if decide (0<j) then Res.ok (D.int (i % j)) else .bad)=.ok d:=e;split at e
  ·rename_i hl;cases e;refine⟨?_,_,rfl,rfl⟩;simp only[bq,fF] at hl;exact hl
  ·exact bx e
theorem aJq:UnR X (sr .USub) (r1 aOr ae):=by
 rintro pins s σ H x v Q I rx ⟨a,d,p,e,k⟩;cases a<;>try exact bx e
 cases e;cases p.inv;exact aIu pins s σ H _ v Q I rx ⟨_,rfl,k.int⟩
theorem sY(hu:X.A.units+20<ck):OpR X (c6 .Eq) (r2 (b7 .eq) ae):=by
 rintro pins s σ H x y v u Q I rx ry ⟨a,b,d,p,q,e,k⟩;replace e:(if a.fQ aV&&b.fQ aV then Res.ok (D.bl (eqD a b)) else .bad)=.ok d:=e;split at e
 ·rename_i hl;cases e;rw[bq] at hl;exact(IV I aV X.A (by have:aV=12:=rfl;lia) hl.1 hl.2 p q rx ry).1 X.prog X.w X.xe _ ⟨.bl _,H,I,rfl,k.bl⟩
 ·exact bx e
theorem BV(hu:X.A.units+20<ck):OpR X (c6 .NotEq) (r2 (b7 .ne) ae):=by
 rintro pins s σ H x y v u Q I rx ry ⟨a,b,d,p,q,e,k⟩;replace e:(if a.fQ aV&&b.fQ aV then Res.ok (D.bl (!eqD a b)) else .bad)=.ok d:=e;split at e
 ·rename_i hl;cases e;rw[bq] at hl;exact(IV I aV X.A (by have:aV=12:=rfl;lia) hl.1 hl.2 p q rx ry).2.1 X.prog X.w X.xe _ ⟨.bl _,H,I,rfl,k.bl⟩
 ·exact bx e
theorem RV(o:gF)(hu:X.A.units+20<ck):OpR X (c6 o.op) (r2 (b7 (.ord o)) ae):=by
 rintro pins s σ H x y v u Q I rx ry ⟨a,b,d,p,q,e,k⟩;replace e:(if a.fQ aV&&b.fQ aV then (match iR o a b with|some k=>Res.ok (D.bl k)|none=>.bad) else .bad)=.ok d:=e;split at e
 ·rename_i hl;rw[bq] at hl;split at e
  ·rename_i m hm;cases e;have:=O6 I o aV X.A (by have:aV=12:=rfl;lia) hl.1 hl.2 p q rx ry hm X.prog X.w X.xe _ (show EP X pins σ Q (.bool m) s from ⟨.bl _,H,I,rfl,k.bl⟩);cases o<;>exact this
  ·exact bx e
 ·exact bx e
theorem aJr(hu:X.A.units+20<ck):OpR X (c6 .Lt) (r2 (b7 (.ord .lt)) ae):=RV .lt hu
theorem aMu(hu:X.A.units+20<ck):OpR X (c6 .LtE) (r2 (b7 (.ord .le)) ae):=RV .le hu
theorem V1(hu:X.A.units+20<ck):OpR X (c6 .Gt) (r2 (b7 (.ord .gt)) ae):=RV .gt hu
theorem aJs(hu:X.A.units+20<ck):OpR X (c6 .GtE) (r2 (b7 (.ord .ge)) ae):=RV .ge hu
theorem aJt:OpR X (c6 .Is) (r2 (b7 .isN) ae):=by
 rintro pins s σ H x y v u Q I rx ry ⟨a,b,d,p,q,e,k⟩;have hb:b=.non:=by
  cases b with
  |non=>rfl
  |_=>cases a<;>exact bx e
 subst hb;cases q.inv;refine aIv pins s σ H x .non v u Q I rx ry ⟨rfl,?_⟩;cases p<;>cases e<;>exact k.bl
end
end
variable [KFrag]
theorem ZP(k q:Key):eqD (kD k) (kD q)=decide (k=q):=by
 cases k<;>cases q<;>simp[kD,v8,aJb,aJc,aJd,Bool.beq_eq_decide_eq]
theorem aDz:∀(k q:aa Key),uT (k.map kD) (q.map kD)=decide (k=q)
 |[],[]=>by simp[uT]
 |[],_::_=>by simp[uT]
 |_::_,[]=>by simp[uT]
 |a::k,b::q=>by
  rw[bw,bw,uT,ZP,aDz k q];by_cases h:a=b<;>by_cases h':k=q<;>simp[h,h']
theorem aFr(k q:aa Key):eqD (.tup (k.map kD)) (.tup (q.map kD))=decide (k=q):=by rw[aJe,aDz]
theorem aFs:∀{kvs:aa (Key×V)}{ds:aa (D×D)},i_ P H kvs ds->(∃v d,yL kvs k=ab v/\eQ ds (kD k)=ab d/\Rep P H v d)\/(yL kvs k=aj/\eQ ds (kD k)=aj)
 |_,_,.nil=>.inr ⟨rfl,rfl⟩
 |_,_,.cons (k:=k') r t=>by
  by_cases h:k'=k
  ·subst h;exact .inl ⟨_,_,oX rfl,by rw[eQ,ZP,au 0x2],r⟩
  ·rw[eQ,ZP,az (by simpa using h),oY h];exact aFs t
theorem aFt:∀{kvs:aa (aa Key×V)}{ds:aa (D×D)},oU P H kvs ds->(∃v d,yL kvs k=ab v/\eQ ds (.tup (k.map kD))=ab d/\Rep P H v d)\/(yL kvs k=aj/\eQ ds (.tup (k.map kD))=aj)
 |_,_,.nil=>.inr ⟨rfl,rfl⟩
 |_,_,.cons (k:=k') r t=>by
  by_cases h:k'=k
  ·subst h;exact .inl ⟨_,_,oX rfl,by rw[eQ,aFr,au 0x2],r⟩
  ·rw[eQ,aFr,az (by simpa using h),oY h];exact aFt t
theorem BW(h:lL d=ae)(r:Rep All H v d):∃k,v=kV k/\d=kD k:=by
 cases r<;>simp[lL] at h
 ·exact⟨.inl _,rfl,rfl⟩
 ·exact⟨.inr _,rfl,rfl⟩
theorem flat_keys:∀{vs:aa V}{ds:aa D},ds.all lL=ae->bL All H vs ds->∃ks:aa Key,vs=ks.map kV/\ds=ks.map kD
 |_,_,_,.nil=>⟨[],rfl,rfl⟩
 |_,_,h,.cons r t=>by
  rw[ik,bq] at h;obtain⟨k,rfl,rfl⟩:=BW h.1 r;obtain⟨ks,rfl,rfl⟩:=flat_keys h.2 t;exact⟨k::ks,rfl,rfl⟩
theorem k_(h:keyOk k=ae)(r:Rep All H y k):(∃q,y=kV q/\k=kD q)\/∃(b:ak)(ks:aa Key),y=.ref b/\H b=ab (.tup (ks.map kV))/\k=.tup (ks.map kD):=by
 cases k<;>simp[keyOk] at h
 ·exact .inl (BW rfl r)
 ·exact .inl (BW rfl r)
 ·obtain⟨a,xs,rfl,e,rr⟩:=r.eU;obtain⟨ks,rfl,rfl⟩:=flat_keys (fE.mpr h) rr;exact .inr ⟨a,ks,rfl,e,rfl⟩
theorem lQ(k:Key):isTup (kD k)=ag:=by cases k<;>rfl
section
variable {a:ak}
theorem BX(e:H a=ab o):upd (upd H a o') a o=H:=by
 rw[MK]
 funext b
 by_cases h:b=a
 ·subst h;rw[aM,e]
 ·rw[bF h]
theorem nR(I:Inv X pins σ H s)(e:H a=ab (.dK [])):Inv X pins σ (upd H a (.dT [])) s:=by
 obtain⟨z,hd,vs,rel,o,es,ep,h1,h2,h3,h4,h5,h6⟩:=HN I.hok e;cases rel;refine I.write (by rw[e];trivial) (.inl rfl) (λ_ _ _ q=>q) ⟨o,h1⟩ ?_;refine⟨di _,hd,[],.nil,o,es,ep,h1,h2,h3,?_,io⟩;cases h5':es.toList with
 |nil=>rfl
 |cons _ _=>rw[h5'] at h5;cases h5
theorem lA(I:Inv X pins σ H s)(e:H a=ab (.dT [])):Inv X pins σ (upd H a (.dK [])) s:=by
 obtain⟨z,hd,vs,rel,o,es,ep,h1,h2,h3,h4,h5,h6⟩:=aBw I.hok e;cases rel;refine I.write (by rw[e];trivial) (.inl rfl) (λ_ _ _ q=>q) ⟨o,h1⟩ ?_;have h0:es.toList=[]:=h4;refine⟨di _,hd,[],.nil,o,es,ep,h1,h2,h3,?_,?_,io⟩
 ·intro x hx;have:x∈es.toList:=by simpa using hx
  rw[h0] at this;cases this
 ·rw[h0];exact .nil
theorem RW:∀{kvs:aa (Key×V)}{ds:aa (D×D)},i_ P H kvs ds->∀p∈ds,isTup p.1=ag
 |_,_,.nil,_,h=>by cases h
 |_,_,.cons r t,p,h=>by
  rcases b9.mp h with rfl|h
  ·exact lQ _
  ·exact RW t p h
theorem RX:∀{kvs:aa (aa Key×V)}{ds:aa (D×D)},oU P H kvs ds->∀p∈ds,isTup p.1=ae
 |_,_,.nil,_,h=>by cases h
 |_,_,.cons r t,p,h=>by
  rcases b9.mp h with rfl|h
  ·rfl
  ·exact RX t p h
theorem aFu(I:Inv X pins σ H s)(rd:Rep All H x (.dct ds))(rk:Rep All H y k)(hk:LC ds k=ae) :
  ∃H1 a o,x=.ref a/\Inv X pins σ H1 s/\(∀s',Inv X pins σ H1 s'->Inv X pins σ H s')/\X_ H1 a y o/\((o=aj/\eQ ds k=aj)\/∃v d,o=ab v/\eQ ds k=ab d/\Rep All H v d):=by
 unfold LC at hk;rw[bq] at hk;obtain⟨h1,h2⟩:=hk;cases rd with
 |@dK a kvs ds e _ r n=>
  rcases k_ h1 rk with ⟨q,rfl,rfl⟩|⟨b,ks,rfl,eb,rfl⟩
  ·refine⟨H,a,_,rfl,I,λ_ h=>h,.k e,?_⟩;rcases aFs r with ⟨v,d,g1,g2,g3⟩|⟨g1,g2⟩
   ·exact .inr ⟨v,d,g1,g2,g3⟩
   ·exact .inl ⟨g1,g2⟩
  ·cases r with
   |nil=>
    have e2:=BX (o':=.dT []) e;refine⟨upd H a (.dT []),a,aj,rfl,nR I e,λs' I'=>?_,.t (k:=ks) aM (by rw[bF (MN eb e 0x7)];exact eb),.inl ⟨rfl,rfl⟩⟩;have:=lA I' aM;rwa [e2] at this
   |cons r t=>
    rw[ik,lQ] at h2;simp[isTup] at h2
 |@dT a kvs ds e _ r n=>
  rcases k_ h1 rk with ⟨q,rfl,rfl⟩|⟨b,ks,rfl,eb,rfl⟩
  ·cases r with
   |nil=>
    have e2:=BX (o':=.dK []) e;refine⟨upd H a (.dK []),a,aj,rfl,lA I e,λs' I'=>?_,.k (k:=q) aM,.inl ⟨rfl,rfl⟩⟩;have:=nR I' aM;rwa [e2] at this
   |cons r t=>
    rw[ik,lQ] at h2;simp[isTup] at h2
  ·refine⟨H,a,_,rfl,I,λ_ h=>h,.t e eb,?_⟩;rcases aFt (k:=ks) r with ⟨v,d,g1,g2,g3⟩|⟨g1,g2⟩
   ·exact .inr ⟨v,d,g1,g2,g3⟩
   ·exact .inl ⟨g1,g2⟩
theorem aCa(rd:Rep All H x (.dct ds))(hk:keyOk k=ae)(h:eQ ds k=ab d):LC ds k=ae:=by
 have one:∀{ds:aa (D×D)},eQ ds k=ab d->∃p∈ds,eqD p.1 k=ae:=by
  intro ds;induction ds with
  |nil=>intro h;cases h
  |cons p ds ih=>
   intro h;obtain⟨p1,p2⟩:=p;rw[eQ] at h;by_cases hq:eqD p1 k=ae
   ·exact⟨_,b6 ..,hq⟩
   ·rw[az hq] at h;obtain⟨p,hp,e⟩:=ih h;exact⟨p,cg _ hp,e⟩
 obtain⟨p,hp,he⟩:=one h;unfold LC;rw[hk,BA,fE];intro q hq;have same:isTup p.1=isTup k:=by
  obtain⟨p1,p2⟩:=p;cases k with
  |int _=>cases p1<;>first|rfl|exact fx0 he
  |str _=>cases p1<;>first|rfl|exact fx0 he
  |tup _=>cases p1<;>first|rfl|exact fx0 he
  |_=>exact fx0 hk
 cases rd with
 |dK e _ r n=>rw[RW r q hq,<-same,RW r p hp];rfl
 |dT e _ r n=>rw[RX r q hq,<-same,RX r p hp];rfl
end
section
variable {X:Cx} {a b c e:Expr} {pos:bS} {fa fb:FE} {ra rb:aq}
def LQ(H:Hp)(u:ah):D:=by
 classical
 exact if h:∃d,d.fQ aV=ae/\∃v,RelV v u/\Rep All H v d then Bq h else .non
theorem ZQ(hq:d.fQ aV=ae)(rv:RelV v u)(r:Rep All H v d):LQ H u=d:=by
 unfold LQ;have h:∃d,d.fQ aV=ae/\∃v,RelV v u/\Rep All H v d:=⟨d,hq,v,rv,r⟩
 rw[tP h];obtain⟨h2,v',rv',r'⟩:=Br h;have:=rv'.inj rv;subst this;exact Rep.inj aV h2 hq r' r
theorem wL{a:D}:∀{xs:aa V}{ds:aa D}{its:aa ah},D.dX aV ds=ae->bL All H xs ds->Vals xs its->(its.any λu=>eqD (LQ H u) a)=ds.any λy=>eqD y a
 |_,_,_,_,.nil,.nil=>rfl
 |_,_,_,h,.cons r t,.cons v vt=>by
  rw[D.dX,bq] at h;rw[mB,mB,ZQ h.1 v r,wL h.2 t vt]
theorem BZ{s:al}(I:Inv X pins σ H s)(hu:X.A.units+20<ck){a:D}{x:V}{v:ah}(ha:a.fQ aV=ae)(rx:Rep All H x a)(rv:RelV x v)
 {xs:aa V}{ds:aa D}{its:aa ah}(h:D.dX aV ds=ae)(r:bL All H xs ds)(vr:Vals xs its)(u:ah)(hm:u∈its):EqAt X.A.in1 s u v (eqD (LQ H u) a):=by
 obtain⟨j,hj,e⟩:=ow hm;have hj':j<ds.length:=by rw[<-r.length,vr.length];exact hj
 obtain⟨w,h1,h2⟩:=r.get (i:=j) (d:=ds[j]) (by simp[hj']);obtain⟨u',h3,h4⟩:=vr.get h1;rw[eh hj,e] at h3;cases h3;have hd:ds[j].fQ aV=ae:=by
  have:=h_ h hj';rwa [c9,eh hj'] at this
 rw[ZQ hd h4 h2];exact(IV I aV X.A.in1 (by show X.A.units+1+12<ck;lia) hd ha h2 rx h4 rv).2.2
theorem aMv(hu:X.A.units+20<ck):OpR X (c6 .In) (r2 (b7 .isin) ae):=by
 rintro pins s σ H x y v u Q I rx ry ⟨a,b,d,p,q,e,k⟩;cases b with
 |tup ys=>
  replace e:(if a.fQ aV&&D.dX aV ys then Res.ok (D.bl (ys.any λy=>eqD y a)) else .bad)=.ok d:=e;split at e
  ·rename_i hl;cases e;rw[bq] at hl;obtain⟨l,xs,rfl,ee,rr⟩:=q.eU;cases ry;obtain⟨its,vr,pl⟩:=gK I ee;refine in_tupleAt (λu=>eqD (LQ H u) a) pl (λw hw=>BZ I hu hl.1 p rx hl.2 rr vr w (by simpa using hw)) ⟨.bl _,H,I,rfl,?_⟩;rw[show its.toArray.any (λu=>eqD (LQ H u) a)=its.any (λu=>eqD (LQ H u) a) by simp,wL hl.2 rr vr];exact k.bl
  ·cases e
 |lst ys=>
  replace e:(if a.fQ aV&&D.dX aV ys then Res.ok (D.bl (ys.any λy=>eqD y a)) else .bad)=.ok d:=e;split at e
  ·rename_i hl;cases e;rw[bq] at hl;obtain⟨l,xs,rfl,ee,rr⟩:=q.lO;cases ry;obtain⟨its,vr,pl⟩:=oA I ee;refine in_listAt (λu=>eqD (LQ H u) a) pl (λw hw=>BZ I hu hl.1 p rx hl.2 rr vr w (by simpa using hw)) ⟨.bl _,H,I,rfl,?_⟩;rw[show its.toArray.any (λu=>eqD (LQ H u) a)=its.any (λu=>eqD (LQ H u) a) by simp,wL hl.2 rr vr];exact k.bl
  ·cases e
 |dct kvs=>
  replace e:(if LC kvs a then Res.ok (D.bl ((eQ kvs a).isSome)) else .bad)=.ok d:=e;split at e
  ·rename_i hl;cases e;obtain⟨H1,a1,o,rfl,I1,bk,g,hc⟩:=aFu I q p hl;cases ry;refine aOo 0x1 I1 g rx λs' I'=>⟨.bl _,H,bk s' I',rfl,?_⟩
   rcases hc with ⟨rfl,h2⟩|⟨w,dd,rfl,h2,_⟩
   ·rw[h2] at k;exact k.bl
   ·rw[h2] at k;exact k.bl
  ·cases e
 |_=>exact bx e
theorem RZ(hu:X.A.units+20<ck):OpR X (c6 .NotIn) (r2 (b7 .notin) ae):=by
 rintro pins s σ H x y v u Q I rx ry ⟨a,b,d,p,q,e,k⟩;cases b with
 |tup ys=>
  replace e:(if a.fQ aV&&D.dX aV ys then Res.ok (D.bl (!(ys.any λy=>eqD y a))) else .bad)=.ok d:=e;split at e
  ·rename_i hl;cases e;rw[bq] at hl;obtain⟨l,xs,rfl,ee,rr⟩:=q.eU;cases ry;obtain⟨its,vr,pl⟩:=gK I ee;refine notIn_tupleAt (λu=>eqD (LQ H u) a) pl (λw hw=>BZ I hu hl.1 p rx hl.2 rr vr w (by simpa using hw)) ⟨.bl _,H,I,rfl,?_⟩;rw[show its.toArray.any (λu=>eqD (LQ H u) a)=its.any (λu=>eqD (LQ H u) a) by simp,wL hl.2 rr vr];exact k.bl
  ·cases e
 |lst ys=>
  replace e:(if a.fQ aV&&D.dX aV ys then Res.ok (D.bl (!(ys.any λy=>eqD y a))) else .bad)=.ok d:=e;split at e
  ·rename_i hl;cases e;rw[bq] at hl;obtain⟨l,xs,rfl,ee,rr⟩:=q.lO;cases ry;obtain⟨its,vr,pl⟩:=oA I ee;refine notIn_listAt (λu=>eqD (LQ H u) a) pl (λw hw=>BZ I hu hl.1 p rx hl.2 rr vr w (by simpa using hw)) ⟨.bl _,H,I,rfl,?_⟩;rw[show its.toArray.any (λu=>eqD (LQ H u) a)=its.any (λu=>eqD (LQ H u) a) by simp,wL hl.2 rr vr];exact k.bl
  ·cases e
 |dct kvs=>
  replace e:(if LC kvs a then Res.ok (D.bl (!((eQ kvs a).isSome))) else .bad)=.ok d:=e;split at e
  ·rename_i hl;cases e;obtain⟨H1,a1,o,rfl,I1,bk,g,hc⟩:=aFu I q p hl;cases ry;refine aFa 0x1 I1 g rx λs' I'=>⟨.bl _,H,bk s' I',rfl,?_⟩
   rcases hc with ⟨rfl,h2⟩|⟨w,dd,rfl,h2,_⟩
   ·rw[h2] at k;exact k.bl
   ·rw[h2] at k;exact k.bl
  ·cases e
 |_=>exact bx e
theorem aJu(xs:aa α)(i:ai):L2.atI xs i=(ixD xs.length i).bind λj=>xs[j]?:=rfl
theorem bL.atI(r:bL P H xs ds)(h:((ixD ds.length i).bind λj=>ds[j]?)=ab d):∃v,L2.atI xs i=ab v/\Rep P H v d:=by
 rw[aJu,r.length];cases hi:ixD ds.length i with
 |none=>rw[hi] at h;cases h
 |some j=>
  rw[hi] at h;obtain⟨v,h1,h2⟩:=r.get h;exact⟨v,h1,h2⟩
theorem JB{a:ak}{y v':V}{u:ah}{Q:VK}(hu:X.A.units+20<ck)(I:Inv X pins σ H s)(g:X_ H a y (ab v'))(ry:RelV y u){H':Hp}
 (hs:sR slice ag (.ref a) u=xa [.ref a,u] (lq (.ref a) u))(bk:∀s',Inv X pins σ H s'->Inv X pins σ H' s')(q:Q v' H') :
  wpAny (av X.prog X.w) X.A (sP value slice (.ref a) u) (EP X pins σ Q) X.xe s:=by
 have hT:=M9 I g;unfold sP;refine ao ?_;rw[getitemInPython_of_ne hT.not_modules];refine ao (yf hT PySem.F.slot_dict_getitem.lookup ?_);have fin:wpAny (av X.prog X.w) X.A (sR slice ag (.ref a) u) (λr s₃=>wpAny (av X.prog X.w) X.A (letTemporaryGo value (.ref a) r >>= λ_=>pure r) (EP X pins σ Q) X.xe s₃) X.xe s:=by
  rw[hs];exact wpAny_operating (YB 0x1 I g ry λw' s3 I3 rw'=>ao (wpAny_letTemporaryGo (aS ⟨v',H',bk s3 I3,rw',q⟩)))
 first
  |exact aS (ao fin)
  |exact ao (aS (ao fin))
  |exact ao fin
theorem R0:∀{ds:aa (D×D)},keyOk k=ae->eQ ds k=ab d->∃p∈ds,isTup p.1=isTup k
 |[],_,h=>by cases h
 | (p1,p2)::ds,hk,h=>by
  rw[eQ] at h;by_cases hq:eqD p1 k=ae
  ·refine⟨_,b6 ..,?_⟩;cases k with
   |int _=>cases p1<;>first|rfl|exact fx0 hq
   |str _=>cases p1<;>first|rfl|exact fx0 hq
   |tup _=>cases p1<;>first|rfl|exact fx0 hq
   |_=>exact fx0 hk
  ·rw[az hq] at h;obtain⟨p,hp,e⟩:=R0 hk h;exact⟨p,cg _ hp,e⟩
theorem aMw(rd:Rep All H x (.fdc ds))(rk:Rep All H y k)(hk:keyOk k=ae)(h:eQ ds k=ab d):∃a v,x=.ref a/\X_ H a y (ab v)/\Rep All H v d:=by
 obtain⟨p,hp,et⟩:=R0 hk h;cases rd with
 |@fdK a o kvs ds e r n=>
  rcases k_ hk rk with ⟨q,rfl,rfl⟩|⟨b,ks,rfl,eb,rfl⟩
  ·rcases aFs r with ⟨v,d',g1,g2,g3⟩|⟨g1,g2⟩
   ·rw[g2] at h;cases h;exact⟨a,v,rfl,.inl ⟨kvs,q,.inr ⟨o,e⟩,rfl,g1.symm⟩,g3⟩
   ·rw[g2] at h;cases h
  ·rw[RW r p hp] at et;cases et
 |@fdT a o kvs ds e r n=>
  rcases k_ hk rk with ⟨q,rfl,rfl⟩|⟨b,ks,rfl,eb,rfl⟩
  ·rw[RX r p hp,lQ] at et;cases et
  ·rcases aFt r with ⟨v,d',g1,g2,g3⟩|⟨g1,g2⟩
   ·rw[g2] at h;cases h;exact⟨a,v,rfl,.inr ⟨kvs,ks,b,.inr ⟨o,e⟩,rfl,eb,g1.symm⟩,g3⟩
   ·rw[g2] at h;cases h
theorem aMx(hK:KFrag.K=X.K)(hu:X.A.units+20<ck):IxR X (r2 getD ag):=by
 rintro value slice pins s σ H x y v u Q I rx ry ⟨a,b,d,p,q,e,k⟩ hs;cases a with
 |tup ys=>
  cases b<;>try exact bx e
  have e':=Res.lK e;obtain⟨l,xs,rfl,ee,rr⟩:=p.eU;cases q;obtain⟨w,h1,h2⟩:=rr.atI e';exact aJ2 value slice pins s σ H _ _ v u Q I rx ry ⟨l,xs,_,w,rfl,rfl,.of ee,h1,k.self h2 λz=>by cases z⟩ hs
 |lst ys=>
  cases b<;>try exact bx e
  have e':=Res.lK e;obtain⟨l,xs,rfl,ee,rr⟩:=p.lO;cases q;obtain⟨w,h1,h2⟩:=rr.atI e';exact M7 value slice pins s σ H _ _ v u Q I rx ry ⟨l,xs,_,w,rfl,rfl,ee,h1,k.self h2 λz=>by cases z⟩ hs
 |cel ca ys=>
  cases b<;>try exact bx e
  have e':=Res.lK e;obtain⟨_,rfl,ee,pp,rr⟩:=p.inv;cases q;obtain⟨w,h1,h2⟩:=rr.atI e';exact M7 value slice pins s σ H _ _ v u Q I rx ry ⟨_,_,_,w,rfl,rfl,.inl (.inl ee),h1,k.self h2 λz=>by cases z⟩ hs
 |scr ys=>
  cases b<;>try exact bx e
  have e':=Res.lK e;obtain⟨_,_,rfl,ee,rr⟩:=p.inv;cases q;obtain⟨w,h1,h2⟩:=rr.atI e';exact M7 value slice pins s σ H _ _ v u Q I rx ry ⟨_,_,_,w,rfl,rfl,ee.sq hK,h1,k.self h2 λz=>by cases z⟩ hs
 |str z=>
  cases b<;>try exact bx e
  rename_i i;replace e:(if decide (z.length<=lim) then Res.ofOpt (((ixD z.cps.toList.length i).bind λj=>z.cps.toList[j]?).map λc=>D.str ⟨#[c]⟩) else .bad)=.ok d:=e;split at e
  ·rename_i hl;have e':=Res.lK e;obtain⟨cc,h1,h2⟩:=n9.mp e';subst h2;cases p;cases q;exact aJ3 value slice pins s σ H _ _ v u Q I rx ry ⟨z,_,cc,rfl,rfl,nQ hl,h1,k.str⟩ hs
  ·cases e
 |dct kvs=>
  have e':keyOk b=ae/\eQ kvs b=ab d:=by
   replace e:(if keyOk b then Res.ofOpt (eQ kvs b) else .bad)=.ok d:=by cases b<;>exact e
   split at e
   ·rename_i hl;exact⟨hl,Res.lK e⟩
   ·exact bx e
  obtain⟨H1,a1,o,rfl,I1,bk,g,hc⟩:=aFu I p q (aCa p e'.1 e'.2);cases rx;rcases hc with ⟨rfl,h2⟩|⟨w,dd,rfl,h2,h3⟩
  ·rw[h2] at e';cases e'.2
  ·rw[h2] at e';cases e'.2;exact JB hu I1 g ry hs bk (k.self h3 λz=>by cases z)
 |fdc kvs=>
  have e':keyOk b=ae/\eQ kvs b=ab d:=by
   replace e:(if keyOk b then Res.ofOpt (eQ kvs b) else .bad)=.ok d:=by cases b<;>exact e
   split at e
   ·rename_i hl;exact⟨hl,Res.lK e⟩
   ·exact bx e
  obtain⟨a1,w,rfl,g,h3⟩:=aMw p q e'.1 e'.2;cases rx;exact JB hu I g ry hs (λ_ h=>h) (k.self h3 λz=>by cases z)
 |_=>cases b<;>exact bx e
theorem bB{X:Cx}{a b:Expr}{pos:bS}{fa fb:FE}{ra rb:aq}(ha:PE X a (gE fa ra))(hb:PE X b (gE fb rb))(hK:KFrag.K=X.K:=by assumption)(hu:X.A.units+20<ck:=by assumption)(hs:M6 b:=by exact λ_ _=>rfl):PE X (.Subscript a b pos) (gE (b2 getD fa fb) ag):=aMt (aMx hK hu) ha hb hs
noncomputable def gO(f:aa D->Res (ax ai)):TO:=λσ H Q=>∃ρ i,ER H σ ρ/\f ρ=.ok i/\∀H',cG H H'->Q i H'
theorem PO.imp{X:Cx}{e:ax PySem.Expr}{t t':TO}(h:PO X e t)(i:∀σ H Q,t' σ H Q->t σ H Q):PO X e t':=λpins s σ H Q I q=>h pins s σ H Q I (i σ H Q q)
theorem ZR:PO X aj (gO N7):=PO.imp aF5 λσ H Q z0=>by obtain⟨ρ,i,E,h,q⟩:=z0;cases h;exact q H (cG.refl H)
theorem ZV(ha:PE X a (gE fa ra)):PO X (ab a) (gO (N6 fa)):=PO.imp (X3 ha) λσ H Q z0=>by
 obtain⟨ρ,i,E,h,q⟩:=z0;obtain⟨x,h1,h⟩:=bI h;obtain⟨j,h2,h⟩:=bI h;cases h;have e:=aJm h2;subst e;exact⟨ρ,_,E,h1,λv H' s r _=>by cases r;exact⟨j,rfl,q H' s⟩⟩
theorem aE0(n d:af)(o:ax ai):HT.sIx n d o=aHy n d o:=by
 cases o with
 |none=>rfl
 |some v=>
  show(if v<0 then (v+(n:ai)).toNat else min v.toNat n)=(if v<0 then (max (v+(n:ai)) 0).toNat else (min v (n:ai)).toNat);split<;>lia
theorem bL.cut(r:bL P H xs ds)(lo hi:ax ai):bL P H (X4 xs lo hi) (cutD ds lo hi):=by
 unfold X4 cutD;rw[r.length];simp only[aE0];exact(r.drop _).take _
theorem jO:D.aW ds=ae↔∀d∈ds,d.pure=ae:=by
 induction ds with
 |nil=>simp[D.aW]
 |cons d ds ih=>rw[D.aW,bq,ih];simp
def rSl:V->ax ai->ax ai->Hp->VK->Prop:=λx lo hi H Q=>∃a d,Rep All H x a/\aI0 a lo hi=.ok d/\kR H d ae Q
theorem aMy(hK:KFrag.K=X.K):SlR X rSl:=by
 rintro pins s σ H x v vl vu lo hi sl Q I rx hs pl pu ⟨a,d,p,e,k⟩;cases a<;>simp only[aI0] at e<;>(try (cases e;done))
 ·split at e
  ·cases e
  ·rename_i hw;cases e;obtain⟨l,xs,rfl,ee,rr⟩:=p.eU;refine aJ1 pins s σ H _ v vl vu lo hi sl Q I rx hs pl pu ⟨l,xs,rfl,.of ee,?_,λp hp=>?_⟩
   ·simp only[aE0,rr.length];simp only[oy,gm,ii,Bool.not_eq_false',fF] at hw;exact hw.2
   ·have sp:cG H (upd H p (.tup (X4 xs lo hi))):=cG.upd hp;have hp2:D.aW ‹aa D›=ae:=by
     simp only[gm,ii,oy] at hw;simpa using hw.1
    exact k _ _ sp (.tup aM ((rr.cut lo hi).same sp)) λz=>.tup aM (((rr.bT hp2).cut lo hi).same sp)
 ·split at e
  ·rename_i hl;cases e;obtain⟨l,xs,rfl,ee,rr⟩:=p.lO;refine X5 pins s σ H _ v vl vu lo hi sl Q I rx hs pl pu ⟨l,xs,rfl,ee,λp hp=>?_⟩;have sp:cG H (upd H p (.lst (X4 xs lo hi))):=cG.upd hp;exact k _ _ sp (.lst aM trivial ((rr.cut lo hi).same sp)) λz=>.lst aM hp (((rr.bT hl).cut lo hi).same sp)
  ·cases e
 ·split at e
  ·rename_i hl;cases e;cases p with
   |@frz l xs ds ee rr=>
    refine X5 pins s σ H _ v vl vu lo hi sl Q I rx hs pl pu ⟨l,xs,rfl,ee.sq hK,λp hp=>?_⟩;have sp:cG H (upd H p (.lst (X4 xs lo hi))):=cG.upd hp;exact k _ _ sp (.lst aM trivial ((rr.cut lo hi).same sp)) λz=>.lst aM hp (((rr.bT hl).cut lo hi).same sp)
  ·cases e
end
end Mi
namespace PySem.Mm
open PySem
noncomputable def wdL:aq->dy
 |false=>"min.loop"
 |true=>"max.loop"
noncomputable def wdO:aq->iL
 |false=>.Lt
 |true=>.Gt
section
variable {prog:bp} {w:bh} {A:bu} {R:kn->al->Prop} {I S:ak} {fp wr:aa ak} {n:af} {P:af->ah->Prop} {St:af->aI->Prop} {bt:af->af->aq} {Gd:al->Prop} {op:iL}
structure aJv(prog:bp)(w:bh)(A:bu)(op:iL)(P:af->ah->Prop)(bt:af->af->aq)(wr:aa ak)(top:af)(Gd:al->Prop):Prop where
 keep:∀s h' tk,Gd s->(∀b o,b∉wr->b<top->s.heap.get? b=ab o->h'.get? b=ab o)->Gd {s with heap:=h',toks:=tk}
 says:∀i j vi vj s Q E,Gd s->P i vi->P j vj->Q (.bool (bt i j)) s->wpAny (av prog w) A (jj op vi vj) Q E s
def aNv(P:af->ah->Prop)(bt:af->af->aq)(n:af):af->aw ah->Prop
 |0,a=>a=#[]/\0<n
 |j+1,a=>∃v,a=#[v,v]/\P (dv bt j) v
theorem touched(J:aJv prog w A op P bt wr S Gd){s:al}{f:aw ah->aw ah}(g:Gd s):Gd {s with heap:=s.heap.update S (eJ f)}:=
 J.keep s _ s.toks g λb o _ hb e=>(jw _ _ (iF hb)).trans e
theorem turn(m:aq)(W:Walks prog w A.in1 I fp wr n P St)(hS:S∉fp)(J:aJv prog w A.in1 (wdO m) P bt wr S Gd):∀(k j:af)(s:al)(a:aw ah)(c:af),j+k=n->St j s.heap->Gd s->aNv P bt n j a->
  s.heap.get? S=ab {cls:=.type "list",dict:=aj,data:=.seq a c,slots:=#[]}->
  (∀v h' tk,P (dv bt (n-1)) v->(∀b o,b∉wr->b≠S->s.heap.get? b=ab o->h'.get? b=ab o)->R (.ok (.ret v)) {s with heap:=h',toks:=tk})->
  codeAny (av prog w) A (.builtin (wdL m) ⟨[.ref I,.none,.ref S],[]⟩) R s:=by
 have off:S∉wr:=λh=>hS (W.sub _ h)
 have still:∀{j:af}{h:aI}{f:aw ah->aw ah},St j h->St j (h.update S (eJ f)):=λst=>
  W.frame _ _ _ st λb hb o e=>(jw _ _ λz:S=b=>hS (z▸hb)).trans e
 intro k;induction k with
 |zero=>
  intro j s a c hj st g hb hs fin;have hjn:j=n:=hj;subst hjn;cases j with
  |zero=>exact bg hb.2 (gw 0)
  |succ j=>
   obtain⟨v,rfl,hv⟩:=hb;have last:∀(h':aI)(tk:af),(∀b o,b∉wr->s.heap.get? b=ab o->h'.get? b=ab o)->R (.ok (.ret v)) {s with heap:=h'.update S (eJ λ_=>#[]),toks:=tk}:=λh' tk kp=>
    fin v _ tk hv λb o h1 h2 e=>(jw _ _ (c5 h2)).trans (kp b o h1 e)
   cases m
   ·show codeAny (av prog w) A (.builtin "min.loop" ⟨[.ref I,.none,.ref S],[]⟩) R s;refine gn yg ?_;rw[g9 lS];refine ao (m:=mS (.ref S)) (fI hs rfl ?_);refine ao (iS (m:=hX (.ref I)) (W.done s _ _ st λh' tk kp=>?_));exact ao (m:=jo S _) (kc (kp S _ off hs) rfl (ao (iz (aS (last h' tk kp)))))
   ·show codeAny (av prog w) A (.builtin "max.loop" ⟨[.ref I,.none,.ref S],[]⟩) R s;refine gn yh ?_;rw[g9 lT];refine ao (m:=mS (.ref S)) (fI hs rfl ?_);refine ao (iS (m:=hX (.ref I)) (W.done s _ _ st λh' tk kp=>?_));exact ao (m:=jo S _) (kc (kp S _ off hs) rfl (ao (iz (aS (last h' tk kp)))))
 |succ k ih=>
  intro j s a c hj st g hb hs fin;have hjn:j<n:=by lia
  /- what is left to do behind the list's change,or without one -/
  have on:∀(v:ah)(h':aI)(tk:af),P j v->St (j+1) h'->(∀b o,b∉wr->s.heap.get? b=ab o->h'.get? b=ab o)->(∀(a':aw ah)(c':af)(h2:aI),aNv P bt n (j+1) a'->h2.get? S=ab {cls:=.type "list",dict:=aj,data:=.seq a' c',slots:=#[]}->(h2=h'\/∃f:aw ah->aw ah,h2=h'.update S (eJ f))->
    codeAny (av prog w) A (.builtin (wdL m) ⟨[.ref I,.none,.ref S],[]⟩) R {s with heap:=h2,toks:=tk}):=by
   intro v h' tk _ st' kp a' c' h2 hb' hs' hh;have g':Gd {s with heap:=h',toks:=tk}:=J.keep s h' tk g λb o h1 _ e=>kp b o h1 e
   rcases hh with rfl|⟨f,rfl⟩
   ·exact ih (j+1) _ a' c' 0x1 st' g' hb' hs' λu h3 t3 hu k3=>fin u h3 t3 hu λb o h1 h2 e=>k3 b o h1 h2 (kp b o h1 e)
   ·exact ih (j+1) _ a' c' 0x1 (still st') (touched J g') hb' hs' λu h3 t3 hu k3=>fin u h3 t3 hu λb o h1 h2 e=>k3 b o h1 h2 ((jw _ _ (c5 h2)).trans (kp b o h1 e))
  have nmn:(toString "min" ++ toString ".loop" : dy)="min.loop":=by decide
  have nmx:(toString "max" ++ toString ".loop" : dy)="max.loop":=by decide
  cases j with
  |zero=>
   obtain⟨rfl,_⟩:=hb;cases m
   ·show codeAny (av prog w) A (.builtin "min.loop" ⟨[.ref I,.none,.ref S],[]⟩) R s;refine gn yg ?_;rw[g9 lS];refine ao (m:=mS (.ref S)) (fI hs rfl ?_);refine ao (iS (m:=hX (.ref I)) (W.item 0 s _ _ hjn st λv h' tk pv st' kp=>?_));have hs':=kp S _ off hs;refine ao (m:=jo S _) (kc hs' rfl ?_);rw[nmn];exact aS ⟨iX lS _,on v h' tk pv st' kp #[v,v] _ _ ⟨v,rfl,pv⟩ (ke _ hs' rfl) (.inr ⟨_,rfl⟩)⟩
   ·show codeAny (av prog w) A (.builtin "max.loop" ⟨[.ref I,.none,.ref S],[]⟩) R s;refine gn yh ?_;rw[g9 lT];refine ao (m:=mS (.ref S)) (fI hs rfl ?_);refine ao (iS (m:=hX (.ref I)) (W.item 0 s _ _ hjn st λv h' tk pv st' kp=>?_));have hs':=kp S _ off hs;refine ao (m:=jo S _) (kc hs' rfl ?_);rw[nmx];exact aS ⟨iX lT _,on v h' tk pv st' kp #[v,v] _ _ ⟨v,rfl,pv⟩ (ke _ hs' rfl) (.inr ⟨_,rfl⟩)⟩
  |succ j=>
   obtain⟨u,rfl,hu⟩:=hb;cases m
   ·show codeAny (av prog w) A (.builtin "min.loop" ⟨[.ref I,.none,.ref S],[]⟩) R s;refine gn yg ?_;rw[g9 lS];refine ao (m:=mS (.ref S)) (fI hs rfl ?_);refine ao (iS (m:=hX (.ref I)) (W.item (j+1) s _ _ hjn st λv h' tk pv st' kp=>?_));have hs':=kp S _ off hs;refine ao (aS ?_);refine ao (iS (fg (ao (m:=jj .Lt v u) (J.says (j+1) (dv bt j) v u _ _ _ (J.keep s h' tk g λb o h1 _ e=>kp b o h1 e) pv hu ?_))));refine ao (fg (mi (ao (iz (aS ?_)))));cases hx:bt (j+1) (dv bt j)
    ·rw[az lc];refine ao (iz ?_);rw[nmn];exact aS ⟨iX lS _,on v h' tk pv st' kp _ _ _ ⟨u,rfl,by rw[dv,hx];exact hu⟩ hs' (.inl rfl)⟩
    ·rw[au rfl];refine ao (m:=jo S _) (kc hs' rfl (ao (iz ?_)));rw[nmn];exact aS ⟨iX lS _,on v h' tk pv st' kp #[v,v] _ _ ⟨v,rfl,by rw[dv,hx];exact pv⟩ (ke _ hs' rfl) (.inr ⟨_,rfl⟩)⟩
   ·show codeAny (av prog w) A (.builtin "max.loop" ⟨[.ref I,.none,.ref S],[]⟩) R s;refine gn yh ?_;rw[g9 lT];refine ao (m:=mS (.ref S)) (fI hs rfl ?_);refine ao (iS (m:=hX (.ref I)) (W.item (j+1) s _ _ hjn st λv h' tk pv st' kp=>?_));have hs':=kp S _ off hs;refine ao (aS ?_);refine ao (iS (fg (ao (m:=jj .Gt v u) (J.says (j+1) (dv bt j) v u _ _ _ (J.keep s h' tk g λb o h1 _ e=>kp b o h1 e) pv hu ?_))));refine ao (fg (mi (ao (iz (aS ?_)))));cases hx:bt (j+1) (dv bt j)
    ·rw[az lc];refine ao (iz ?_);rw[nmx];exact aS ⟨iX lT _,on v h' tk pv st' kp _ _ _ ⟨u,rfl,by rw[dv,hx];exact hu⟩ hs' (.inl rfl)⟩
    ·rw[au rfl];refine ao (m:=jo S _) (kc hs' rfl (ao (iz ?_)));rw[nmx];exact aS ⟨iX lT _,on v h' tk pv st' kp #[v,v] _ _ ⟨v,rfl,by rw[dv,hx];exact pv⟩ (ke _ hs' rfl) (.inr ⟨_,rfl⟩)⟩
end
section
variable {prog:bp} {w:bh} {A:bu} {E:ah->al->Prop} {s:al} {Q:ah->al->Prop}
abbrev Seen(prog:bp)(w:bh)(A:bu)(op:iL)(Q:ah->al->Prop)(it:ah)(t:al):Prop:=
 ∃(I:ak)(fp wr:aa ak)(n:af)(P:af->ah->Prop)(St:af->aI->Prop)(bt:af->af->aq),it=.ref I/\Walks prog w A I fp wr n P St/\St 0 t.heap/\(∀b∈fp,b<t.heap.objs.size)/\0<n/\
  (∃Gd:al->Prop,Gd t/\(∀s h' tk,Gd s->(∀b o,b∉wr->b<t.heap.objs.size->s.heap.get? b=ab o->h'.get? b=ab o)->Gd {s with heap:=h',toks:=tk})/\
   ∀i j vi vj s Q E,Gd s->P i vi->P j vj->Q (.bool (bt i j)) s->wpAny (av prog w) A (jj op vi vj) Q E s)/\
  ∀v h' tk,P (dv bt (n-1)) v->(∀b o,b∉wr->t.heap.get? b=ab o->h'.get? b=ab o)->Q v {t with heap:=h',toks:=tk}
theorem begun(m:aq){it:ah}{t:al}{R:kn->al->Prop}(hR:∀v s,Q v s->R (.ok (.ret v)) s)(h:Seen prog w A.in1 (wdO m) Q it t) :
  codeAny (av prog w) A (.builtin (wdL m) ⟨[it,.none,.ref t.heap.objs.size],[]⟩) R {t with heap:=t.heap.push {cls:=.type "list",data:=.seq #[]}}:=by
 obtain⟨I,fp,wr,n,P,St,bt,rfl,W,st,hfp,hn,⟨Gd,g,gk,gs⟩,q⟩:=h;have up:∀b o,t.heap.get? b=ab o->(t.heap.push {cls:=.type "list",data:=.seq #[]}).get? b=ab o:=λb o e=>bz _ e
 refine turn m W (λz=>gw _ (hfp _ z)) ⟨gk,gs⟩ n 0 _ #[] _ (uf n) (W.frame _ _ _ st λb _ o e=>up b o e) (gk t _ t.toks g λb o _ _ e=>up b o e) ⟨rfl,hn⟩ (cS _ rfl) λv h' tk hv kp=>?_
 exact hR _ _ (q v h' tk hv λb o h1 e=>kp b o h1 (cw (bE e)) (up b o e))
theorem O9{a b:ah}(h:wpAny (av prog w) A.in1 (i6 (.ref s.heap.objs.size)) (Seen prog w A.in1 .Lt Q) E {s with heap:=s.heap.push {cls:=.type "tuple",data:=.seq #[a,b]}}):wpAny (av prog w) A (call (.builtin "min") [a,b]) Q E s:=by
 have nmn:(toString "min" ++ toString ".loop" : dy)="min.loop":=by decide
 refine BB F.kind_min F.plain_min F.entry_min (F.args_min2 _ _) ?_;refine ao (m:=BC "min" ["key","default"] 0 ⟨[],[]⟩) (yj (a:=[aj,aj]) rfl ?_);refine ao (m:=newTuple [a,b]) (jb (ao (fR h (λit t ht=>ao (jb ?_)) λ_ _ e=>e)));rw[nmn];exact aS ⟨iX lS _,begun ag (λ_ _ q=>q) ht⟩
theorem O_{a b:ah}(h:wpAny (av prog w) A.in1 (i6 (.ref s.heap.objs.size)) (Seen prog w A.in1 .Gt Q) E {s with heap:=s.heap.push {cls:=.type "tuple",data:=.seq #[a,b]}}):wpAny (av prog w) A (call (.builtin "max") [a,b]) Q E s:=by
 have nmx:(toString "max" ++ toString ".loop" : dy)="max.loop":=by decide
 refine BB F.kind_max F.plain_max F.entry_max (F.args_max2 _ _) ?_;refine ao (m:=BC "max" ["key","default"] 0 ⟨[],[]⟩) (yj (a:=[aj,aj]) rfl ?_);refine ao (m:=newTuple [a,b]) (jb (ao (fR h (λit t ht=>ao (jb ?_)) λ_ _ e=>e)));rw[nmx];exact aS ⟨iX lT _,begun ae (λ_ _ q=>q) ht⟩
end
end PySem.Mm
namespace Mi
open PySem L2 PySem.SeqAt PySem.Spec PyProof.Rows
variable [KFrag]
theorem JC(o:gF)(x:D)(xs:aa D):∀k,k<=xs.length->(xs.take k).foldl (λm y=>if (iR o y m).getD ag then y else m) x=(x::xs).getD (dv (btD o (x::xs)) k) .non
 |0,_=>by simp[dv]
 |k+1,h=>by
  have ih:=JC o x xs k 0x1;have hk:k<xs.length:=by lia
  rw[List.take_succ_eq_append_getElem hk,BD,ih];have e:(x::xs).getD (k+1) .non=xs[k]:=by simp[hk]
  have hb:btD o (x::xs) (k+1) (dv (btD o (x::xs)) k)=(iR o xs[k] ((x::xs).getD (dv (btD o (x::xs)) k) .non)).getD ag:=by unfold btD;rw[e]
  show(if (iR o xs[k] ((x::xs).getD (dv (btD o (x::xs)) k) .non)).getD ag then xs[k] else (x::xs).getD (dv (btD o (x::xs)) k) .non)=(x::xs).getD (if btD o (x::xs) (k+1) (dv (btD o (x::xs)) k) then k+1 else dv (btD o (x::xs)) k) .non;rw[<-hb];cases btD o (x::xs) (k+1) (dv (btD o (x::xs)) k) with
  |true=>rw[au rfl,au rfl,e]
  |false=>rw[az 0x2,az 0x2]
section
variable {X:Cx} {pins:aa (ak×aT)} {σ:L2.St} {H:Hp} {s:al}
def Gds(s:al)(s':al):Prop:=∃h' tk,s'={s with heap:=h',toks:=tk}/\∀b o,s.heap.get? b=ab o->h'.get? b=ab o
theorem aCb(I:Inv X pins σ H s)(hu:X.A.units+20<ck){o:gF}{xs:aa V}{ds:aa D}{its:aa ah}{d:D}(r:bL All H xs ds)(vr:Vals xs its)(h:HY o ds=.ok d)(i j:af)(vi vj:ah)(s':al)(Q:ah->al->Prop)(E:ah->al->Prop)
 (g:Gds s s')(hi:its.toArray[i]?=ab vi)(hj:its.toArray[j]?=ab vj)(q:Q (.bool (btD o ds i j)) s'):wpAny (av X.prog X.w) X.A.in1 (jj o.op vi vj) Q E s':=by
 obtain⟨h',tk,rfl,hk⟩:=g;have I':Inv X pins σ H {s with heap:=h',toks:=tk}:=I.kept hk;have hi':its[i]?=ab vi:=by simpa using hi
 have hj':its[j]?=ab vj:=by simpa using hj
 have at_:∀{i:af}{v:ah},its[i]?=ab v->∃d w,ds.getD i .non=d/\d∈ds/\RelV w v/\Rep All H w d:=by
  intro i v hv;have hlt:i<its.length:=(dz.mp hv).1;have hlt':i<ds.length:=by rw[<-r.length,vr.length];exact hlt
  obtain⟨w,h1,h2⟩:=r.get (i:=i) (d:=ds[i]) (by simp[hlt']);obtain⟨u,h3,h4⟩:=vr.get h1;rw[hv] at h3;cases h3;exact⟨ds[i],w,by simp[hlt'],mI _,h4,h2⟩
 obtain⟨d1,w1,e1,m1,v1,r1⟩:=at_ hi';obtain⟨d2,w2,e2,m2,v2,r2⟩:=at_ hj';cases ds with
 |nil=>cases m1
 |cons x xs'=>
  simp only[HY] at h;split at h
  ·rename_i hall;have h1:=fE.mp hall d1 m1;have h2:=fE.mp hall d2 m2;rw[bq] at h1 h2;obtain⟨k,hk⟩:=wf.mp (fE.mp h1.2 d2 m2);have:btD o (x::xs') i j=k:=by unfold btD;rw[e1,e2,hk];rfl
   rw[this] at q;exact O6 I' o aV X.A.in1 (by show X.A.units+1+12<ck;lia) h1.1 h2.1 r1 r2 v1 v2 hk X.prog X.w E Q q
  ·exact bx h
theorem aFv{o:gF}{xs:aa V}{ds:aa D}{its:aa ah}{d:D}(r:bL All H xs ds)(vr:Vals xs its)(h:HY o ds=.ok d){v:ah}(hv:its.toArray[dv (btD o ds) (its.length-1)]?=ab v):∃w,RelV w v/\Rep All H w d:=by
 have hv':its[dv (btD o ds) (its.length-1)]?=ab v:=by simpa using hv
 cases ds with
 |nil=>exact bx h
 |cons x xs'=>
  simp only[HY] at h;split at h
  ·cases h;have hl:its.length-1=xs'.length:=by rw[<-vr.length,r.length];simp
   rw[hl] at hv';have fb:=JC o x xs' xs'.length (ba _);rw[List.take_length] at fb;have hlt:dv (btD o (x::xs')) xs'.length<its.length:=(dz.mp hv').1;have hlt':dv (btD o (x::xs')) xs'.length<(x::xs').length:=by rw[<-r.length,vr.length];exact hlt
   obtain⟨w,h1,h2⟩:=r.get (i:=dv (btD o (x::xs')) xs'.length) (d:=(x::xs')[dv (btD o (x::xs')) xs'.length]) (by simp[hlt']);obtain⟨u,h3,h4⟩:=vr.get h1;rw[hv'] at h3;cases h3;refine⟨w,h4,?_⟩;rw[fb,c9,eh hlt'];exact h2
  ·exact bx h
theorem Gds.grow{s':al}{h1:aI}{tk1:af}(g:Gds s s'){wq:aa ak}{n:af}(hw:∀b∈wq,s.heap.objs.size<=b)(hn:s.heap.objs.size<=n)
 (kk:∀b o,b∉wq->b<n->s'.heap.get? b=ab o->h1.get? b=ab o):Gds s {s' with heap:=h1,toks:=tk1}:=by
 obtain⟨h',tk,rfl,hk⟩:=g;refine⟨h1,tk1,rfl,λb o e=>kk b o (λhb=>?_) (dm (bE e) hn) (hk b o e)⟩;exact bg (dm (bE e) (hw b hb)) (gw _)
end
section
variable {X:Cx}
theorem ZW{o:gF}{nm:dy}(two:∀{prog:bp} {w:bh} {A:bu} {Q:ah->al->Prop} {E:ah->al->Prop} {s:al} {a b:ah},wpAny (av prog w) A.in1 (i6 (.ref s.heap.objs.size)) (Mm.Seen prog w A.in1 o.op Q) E {s with heap:=s.heap.push {cls:=.type "tuple",data:=.seq #[a,b]}}->wpAny (av prog w) A (call (.builtin nm) [a,b]) Q E s)(hu:X.A.units+20<ck)(hc:X.calm=ae){pins:aa (ak×aT)}{σ:L2.St}{H:Hp}{s:al}{x y:V}{u w:ah}{a b d:D}{Q:VK}(I:Inv X pins σ H s)(rx:Rep All H x a)(ry:Rep All H y b)(ru:RelV x u)(rw':RelV y w)(h:HY o [a,b]=.ok d)(q:kR H d ag Q) :
  wpAny (av X.prog X.w) X.A (call (.builtin nm) [u,w]) (EP X pins σ Q) X.xe s:=by
 have r:bL All H [x,y] [a,b]:=.cons rx (.cons ry .nil);have vr:Vals [x,y] [u,w]:=.cons ru (.cons rw' .nil);have pl:(s.heap.push {cls:=.type "tuple",data:=.seq #[u,w]}).IsTuple s.heap.objs.size [u,w].toArray:=⟨_,cS _ rfl,rfl,0,rfl⟩
 have hsz:(s.heap.push {cls:=.type "tuple",data:=.seq #[u,w]}).objs.size=s.heap.objs.size+1:=dL ..;refine two (jq pl ?_);refine⟨_,_,_,_,_,_,btD o [a,b],rfl,Walks.tuple (A:=X.A.in1) (I.ok.hd hc) _ s.heap.objs.size (by rw[hsz];exact cw (kq _)) [u,w].toArray,⟨⟨_,cS _ rfl,rfl,rfl⟩,pl.push _⟩,λb hb=>?_,by simp,⟨Gds s,⟨_,s.toks,rfl,λb o e=>bz _ (bz _ e)⟩,λs' h' tk g kk=>g.grow (wq:=[s.heap.objs.size+1]) (n:=s.heap.objs.size+2) (λb hb=>?_) 0x1 λb o h1 h2 e=>kk b o (by rw[hsz];exact h1) (by show b<((s.heap.push _).push _).objs.size;rw[dL,hsz];exact h2) e,λi j vi vj s' Q E g h1 h2 q=>aCb I hu r vr h i j vi vj s' Q E g h1 h2 q⟩,λv h' tk hP hk=>?_⟩
 ·show b<((s.heap.push _).push _).objs.size;rw[dL,hsz];rcases b9.mp hb with rfl|hb
  ·rw[hsz];exact kq _
  ·rcases b9.mp hb with rfl|hb
   ·exact kb (kq _)
   ·cases hb
 ·rcases b9.mp hb with rfl|hb
  ·lia
  ·cases hb
 ·obtain⟨w,v1,r1⟩:=aFv r vr h (by simpa using hP);refine⟨w,H,I.kept λb o e=>hk b o (λhb=>?_) (bz _ (bz _ e)),v1,q.self r1 λz=>by cases z⟩;rcases b9.mp hb with hb|hb
  ·have:=bE e;rw[hb,hsz] at this;exact bg this (Nat.not_lt.mpr (gN _))
  ·cases hb
end
end Mi
namespace PySem.Mm
open PySem PyProof.Rows PySem.W
theorem JD{K:Type}[dg K]{knd:KeyKind prog w K}{d:ak}{kvs:aa (K×ah)}{ep n:af}(hh:A.handled=aj)(lo:(d==gu)=ag)
 (hm:s.heap.DictAt knd d kvs ep)(hn:kvs.length=n)(hl:n<=2 ^ 24)
 (q:∀h' tk acc c,(∀b o,s.heap.get? b=ab o->h'.get? b=ab o)->h'.get? s.heap.objs.size=ab {cls:=.type "list",dict:=aj,data:=.seq acc c,slots:=#[]}->
   ItemsOf (λi v=>∃k x,kvs[i]?=ab (k,x)/\knd.is k v=ae) acc n->Q (.ref s.heap.objs.size) {s with heap:=h',toks:=tk}):wpAny (av prog w) A (call (.type "list") [.ref d]) Q E s:=by
 subst hn;exact kdl_call (kdl_dict lo) hh hm (kdl_size hl) q
end PySem.Mm
namespace Mi
open PySem L2 PySem.SeqAt PySem.Spec PyProof.Rows
section
variable [KFrag]
section
variable {a b e:Expr} {x:Str} {id T:dy}
theorem iT(r:bL P H xs [d])(vr:Vals xs us):∃v u,xs=[v]/\us=[u]/\Rep P H v d/\RelV v u:=by
 cases r with
 |cons r t=>
  cases t;cases vr with
  |cons v vt=>
   cases vt;exact⟨_,_,rfl,rfl,r,v⟩
theorem R3{fr:aq}(h:gE (aK f fs) fr σ H Q):tCB (rs f fr) (gA fs rr) σ H Q:=by
 obtain⟨ρ,d,E,h,q⟩:=h;obtain⟨ds,h1,h2⟩:=bI h;exact⟨ρ,ds,E,h1,λvs H1 s1 r1 _=>⟨ds,d,r1,h2,q.imp s1 id⟩⟩
theorem bD{fr:aq}(hc:kJ X (.builtin id) (rs f fr))(hg:Gl X x)(hm:X.mg x=aj)(hv:dS x=ab (.builtin id))(ha:PA X (e::es) (gA fs rr))(hn:x ≠ "__name__":=by decide)(hdb:nDb x:=by decide)
 (he:bi (e::es) X.env=(ag,bm e X.env)::bi es X.env:=by rfl)(hpl:(dq pos (bi es X.env)).any (·.1)=ag:=by rfl):PE X (.Call (.Name x p) (e::es) [] pos) (gE (aK f fs) fr):=
 PE.imp (Q_ hc hg hm hv ha hn hdb he hpl) λ_ _ _=>R3
theorem dY{fr:aq}(hc:kJ X (.type T) (rs f fr))(hg:Gl X x)(hm:X.mg x=aj)(hv:dS x=ab (.type T))(ha:PA X (e::es) (gA fs rr))(hn:x ≠ "__name__":=by decide)(hdb:nDb x:=by decide)
 (he:bi (e::es) X.env=(ag,bm e X.env)::bi es X.env:=by rfl)(hpl:(dq pos (bi es X.env)).any (·.1)=ag:=by rfl):PE X (.Call (.Name x p) (e::es) [] pos) (gE (aK f fs) fr):=
 PE.imp (XS hc hg hm hv ha hn hdb he hpl) λ_ _ _=>R3
theorem cU(hK:KFrag.K=X.K):kJ X (.builtin "len") (rs dR ae):=by
 rintro pins s σ H xs us Q I vr ⟨ds,d,r,e,k⟩;unfold dR at e;split at e
 ·cases e;obtain⟨vv,uu,rfl,rfl,r,v⟩:=iT r vr;obtain⟨l,ys,rfl,hl,rr⟩:=r.eU;cases v;exact jZ pins s σ H [.ref l] [.ref l] Q I (.cons rfl .nil) ⟨l,ys,rfl,.inr (.of hl),by rw[rr.length];exact k.int⟩
 ·cases e;obtain⟨vv,uu,rfl,rfl,r,v⟩:=iT r vr;obtain⟨l,ys,rfl,hl,rr⟩:=r.lO;cases v;exact jZ pins s σ H [.ref l] [.ref l] Q I (.cons rfl .nil) ⟨l,ys,rfl,.inl hl,by rw[rr.length];exact k.int⟩
 ·cases e;obtain⟨vv,uu,rfl,rfl,r,v⟩:=iT r vr;cases r with
  |@frz l xs ds ee rr=>
   cases v;exact jZ pins s σ H [.ref l] [.ref l] Q I (.cons rfl .nil) ⟨l,xs,rfl,.inl (ee.sq hK),by rw[rr.length];exact k.int⟩
 ·cases e;obtain⟨vv,uu,rfl,rfl,r,v⟩:=iT r vr;obtain⟨_,rfl,ee,pp,rr⟩:=r.inv;cases v;exact jZ pins s σ H [.ref _] [.ref _] Q I (.cons rfl .nil) ⟨_,_,rfl,.inl (.inl (.inl ee)),by rw[rr.length];exact k.int⟩
 ·split at e
  ·rename_i hl;cases e;obtain⟨vv,uu,rfl,rfl,r,v⟩:=iT r vr;cases r.inv;exact HF pins s σ H _ _ Q I (.cons v .nil) ⟨_,rfl,nQ hl,k.int⟩
  ·exact bx e
 ·exact bx e
theorem i_.keys:∀{kvs:aa (Key×V)}{ds:aa (D×D)},i_ P H kvs ds->bL P' H (kvs.map λp=>kV p.1) (nZ ds)
 |_,_,.nil=>.nil
 |_,_,.cons (k:=k) _ t=>.cons (by cases k<;>first|exact .int _|exact .str _) t.keys
theorem list_dict(hc:X.calm=ae)(I:Inv X pins σ H s)(e:H l=ab (.dK kvs))
 (q:∀p s',H p=aj->Inv X pins σ (upd H p (.lst (kvs.map λp=>kV p.1))) s'->(∀l0 o0,H l0=ab o0->l0≠p)->Q (.ref p) s'):wpAny (av X.prog X.w) X.A (call (.type "list") [.ref l]) Q X.xe s:=by
 obtain⟨z,hd,vs,rel,dd⟩:=HN I.hok e;obtain⟨ep,da⟩:=dd.dictAt;have hlen:kvs.length=vs.length:=jr rel;refine Mm.JD (I.ok.hd hc) hd da rfl (by rw[<-hlen];rw[dE] at z;lia) λh' tk acc' c' kp e1 it=>?_
 obtain⟨i1,i2⟩:=it;have hfr:H s.heap.objs.size=aj:=I.hok.fresh (ba _);refine q _ _ hfr (I.laid kp (ba _) ?_) λl0 o0 h0=>cW h0 hfr
 refine⟨by rw[bd];exact z,acc'.toList,c',?_,by simpa using e1⟩;have gen:∀(kvs:aa (Key×V))(vs:aa (Key×ah))(xs:aa ah),KV kvs vs->xs.length=vs.length->(∀(j:af)(v:ah),xs[j]?=ab v->∃k x,vs[j]?=ab (k,x)/\(cD X.prog X.w).is k v=ae)->Vals (kvs.map λp=>kV p.1) xs:=by
  intro kvs vs xs rel;induction rel generalizing xs with
  |nil=>intro hl _;cases xs with|nil=>exact .nil|cons _ _=>simp at hl
  |@cons p q ps qs hpq t ih=>
   intro hl g;cases xs with
   |nil=>simp at hl
   |cons x xs=>
    refine .cons ?_ (ih xs (by simpa using hl) λj v hv=>g (j+1) v (by simpa using hv));obtain⟨k,x',h1,h2⟩:=g 0 x rfl;have h1':q=(k,x'):=by simpa using h1
    show RelV (kV p.1) x;rw[hpq.1,h1'];rcases cX h2 with ⟨i,t,rfl,rfl⟩|⟨i,t,rfl,rfl⟩
    ·exact⟨t,rfl⟩
    ·exact⟨t,rfl⟩
 exact gen kvs vs acc'.toList rel (by simpa using i1) λj v hv=>i2 j v (by simpa using hv)
theorem aFw(hc:X.calm=ae):kJ X (.type "list") (rs YX ae):=by
 rintro pins s σ H xs us Q I vr ⟨ds,d,r,e,k⟩;unfold YX at e;split at e
 ·split at e
  ·rename_i hl;cases e;obtain⟨vv,uu,rfl,rfl,r,v⟩:=iT r vr;obtain⟨l,ys,rfl,hl',rr⟩:=r.eU;cases v;refine tW pins s σ H [.ref l] [.ref l] Q I (.cons rfl .nil) ⟨l,ys,rfl,.inr (.of hl'),λp hp=>?_⟩;have sp:cG H (upd H p (.lst ys)):=cG.upd hp;exact k _ _ sp (.lst aM trivial (rr.same sp)) λ_=>.lst aM hp ((rr.bT hl).same sp)
  ·exact bx e
 ·split at e
  ·rename_i hl;cases e;obtain⟨vv,uu,rfl,rfl,r,v⟩:=iT r vr;obtain⟨l,ys,rfl,hl',rr⟩:=r.lO;cases v;refine tW pins s σ H [.ref l] [.ref l] Q I (.cons rfl .nil) ⟨l,ys,rfl,.inl hl',λp hp=>?_⟩;have sp:cG H (upd H p (.lst ys)):=cG.upd hp;exact k _ _ sp (.lst aM trivial (rr.same sp)) λ_=>.lst aM hp ((rr.bT hl).same sp)
  ·exact bx e
 ·split at e
  ·rename_i hl;cases e;obtain⟨vv,uu,rfl,rfl,r,v⟩:=iT r vr;cases r with
   |@dK l kvs ds e _ r n=>
    cases v;refine list_dict hc I e λp s' hp I' _=>⟨.ref p,_,I',rfl,?_⟩
    have sp:cG H (upd H p (.lst (kvs.map λp=>kV p.1))):=cG.upd hp;exact k _ _ sp (.lst aM trivial (r.keys.same sp)) λ_=>.lst aM hp (r.keys.same sp)
   |@dT l kvs ds e _ r n=>
    cases v;cases r with
    |cons r t=>simp[isTup] at hl
    |nil=>
     have e2:=BX (o':=.dK []) e;refine list_dict hc (lA I e) aM λp s' hp I' hne=>?_
     have hp':p≠l:=λz=>by subst z;rw[aM] at hp;cases hp
     have hpn:H p=aj:=by rw[bF hp'] at hp;exact hp
     have hcm:upd (upd (upd H l (.dK [])) p (.lst [])) l (.dT [])=upd H p (.lst []):=by
      funext b
      by_cases hb:b=l
      ·subst hb;rw[aM,bF (c5 hp'),e]
      ·rw[bF hb];by_cases hb2:b=p
       ·subst hb2;rw[aM,aM]
       ·rw[bF hb2,bF hb2,bF hb]
     have I2:=nR I' (by rw[bF (c5 hp'),aM]);have I3:Inv X pins σ (upd H p (.lst [])) s':=by
      have:Inv X pins σ (upd (upd (upd H l (.dK [])) p (.lst [])) l (.dT [])) s':=I2;rwa [hcm] at this
     have sp:cG H (upd H p (.lst [])):=cG.upd hpn;exact⟨.ref p,_,I3,rfl,k _ _ sp (.lst aM trivial .nil) λ_=>.lst aM hpn .nil⟩
  ·exact bx e
 ·exact bx e
theorem gY:kJ X (.type "tuple") (rs fX ag):=by
 rintro pins s σ H xs us Q I vr ⟨ds,d,r,e,k⟩;unfold fX at e;split at e
 ·cases e;obtain⟨vv,uu,rfl,rfl,r,v⟩:=iT r vr;obtain⟨l,ys,rfl,hl',rr⟩:=r.eU;cases v;exact oW pins s σ H [.ref l] [.ref l] Q I (.cons rfl .nil) ⟨l,ys,rfl,.inr ⟨.of hl',k.self (.tup hl' rr) λz=>by cases z⟩⟩
 ·cases e;obtain⟨vv,uu,rfl,rfl,r,v⟩:=iT r vr;obtain⟨l,ys,rfl,hl',rr⟩:=r.lO;cases v;refine oW pins s σ H [.ref l] [.ref l] Q I (.cons rfl .nil) ⟨l,ys,rfl,.inl ⟨hl',λp hp=>?_⟩⟩;have sp:cG H (upd H p (.tup ys)):=cG.upd hp;exact k _ _ sp (.tup aM (rr.same sp)) λz=>by cases z
 ·exact bx e
mutual
theorem yP:∀(d:D),d.plain=ae->d.pure=ae
 |.tup xs,h=>by rw[D.plain] at h;rw[D.pure];exact tY xs h
 |.int _,_=>rfl
 |.str _,_=>rfl
 |.uD,h=>by simp[D.plain] at h
 |.non,_=>rfl
 |.bl _,_=>rfl
 |.lst _,h=>by simp[D.plain] at h
 |.dct _,h=>by simp[D.plain] at h
 |.scr _,h=>by simp[D.plain] at h
 |.fdc _,h=>by simp[D.plain] at h
 |.exc _ _,h=>by simp[D.plain] at h
 |.ins _ _,h=>by simp[D.plain] at h
 |.adr _,h=>by simp[D.plain] at h
 |.cel _ _,h=>by simp[D.plain] at h
theorem tY:∀(ds:aa D),D.jK ds=ae->D.aW ds=ae
 |[],_=>rfl
 |x::xs,h=>by rw[D.jK,bq] at h;rw[D.aW,bq];exact⟨yP x h.1,tY xs h.2⟩
end
theorem wM(h:cA ds=ae):D.aW (v_ ds)=ae:=jO.mpr λd hd=>yP d (eX h ((fL ds).mem_iff.mp hd)).1
theorem wN(hu:X.A.units+20<ck):kJ X (.builtin "sorted") (rs lN ae):=by
 rintro pins s σ H xs us Q I vr ⟨ds,d,r,e,k⟩;unfold lN at e;split at e
 ·split at e
  ·rename_i hl;cases e;obtain⟨vv,uu,rfl,rfl,r,v⟩:=iT r vr;obtain⟨l,ys,rfl,hl',rr⟩:=r.lO;cases v;refine V0 I hu hl' rr hl λp xs' hp r'=>?_
   have sp:cG H (upd H p (.lst xs')):=cG.upd hp;exact k _ _ sp (.lst aM trivial (r'.same sp)) λ_=>.lst aM hp ((r'.bT (wM hl)).same sp)
  ·exact bx e
 ·exact bx e
theorem isi(I:Inv X pins σ H s)(r:Rep All H v d)(ru:RelV v u)(h:aMp t d=.ok k)
 (q:∀tk,Q (.bool k) {s with toks:=tk}):wpAny (av X.prog X.w) X.A (call (.builtin "isinstance") [u,.type t.nm]) Q X.xe s:=by
 have q0:Q (.bool k) s:=q s.toks;cases r with
 |non=>cases ru;cases t<;>cases h<;>first|exact IsiPair.NoneType_int (q _)|exact IsiPair.NoneType_str (q _)|exact IsiPair.NoneType_bool (q _)|exact IsiPair.NoneType_list (q _)|exact IsiPair.NoneType_tuple (q _)|exact IsiPair.NoneType_dict (q _)
 |bl b=>cases ru;cases t<;>cases h<;>first|exact IsiPair.bool_int q0|exact IsiPair.bool_str (q _)|exact IsiPair.bool_bool q0|exact IsiPair.bool_list (q _)|exact IsiPair.bool_tuple (q _)|exact IsiPair.bool_dict (q _)
 |int b=>obtain⟨tt,rfl⟩:=ru;cases t<;>cases h<;>first|exact IsiPair.int_int q0|exact IsiPair.int_str (q _)|exact IsiPair.int_bool (q _)|exact IsiPair.int_list (q _)|exact IsiPair.int_tuple (q _)|exact IsiPair.int_dict (q _)
 |str b=>obtain⟨tt,rfl⟩:=ru;cases t<;>cases h<;>first|exact IsiPair.str_int (q _)|exact IsiPair.str_str q0|exact IsiPair.str_bool (q _)|exact IsiPair.str_list (q _)|exact IsiPair.str_tuple (q _)|exact IsiPair.str_dict (q _)
 |tup e rr=>
  cases ru;obtain⟨its,vr,o,ho,hc,_⟩:=gK I e;cases t<;>cases h<;>first|exact IsiPair.tuple_int ho hc (q _)|exact IsiPair.tuple_str ho hc (q _)|exact IsiPair.tuple_bool ho hc (q _)|exact IsiPair.tuple_list ho hc (q _)|exact IsiPair.tuple_tuple ho hc q0|exact IsiPair.tuple_dict ho hc (q _)
 |lst e p rr=>
  cases ru;obtain⟨its,vr,o,ho,hc,_⟩:=oA I (.of e);cases t<;>cases h<;>first|exact IsiPair.list_int ho hc (q _)|exact IsiPair.list_str ho hc (q _)|exact IsiPair.list_bool ho hc (q _)|exact IsiPair.list_list ho hc q0|exact IsiPair.list_tuple ho hc (q _)|exact IsiPair.list_dict ho hc (q _)
 |frz e rr=>cases t<;>exact bx h
 |fdK e rr n=>cases t<;>exact bx h
 |fdT e rr n=>cases t<;>exact bx h
 |exc n e q=>cases t<;>exact bx h
 |ins n e q=>cases t<;>exact bx h
 |adr=>cases t<;>exact bx h
 |cel e p rr=>cases t<;>exact bx h
 |dK e p rr n=>
  cases ru;obtain⟨_,_,_,_,o,_,_,ho,hx,_⟩:=HN I.hok e;have hc:=hx.1;cases t<;>cases h<;>first|exact BE ho hc (q _)|exact BF ho hc (q _)|exact BG ho hc (q _)|exact BH ho hc (q _)|exact BI ho hc (q _)|exact BM ho hc q0
 |dT e p rr n=>
  cases ru;obtain⟨_,_,_,_,o,_,_,ho,hx,_⟩:=aBw I.hok e;have hc:=hx.1;cases t<;>cases h<;>first|exact BE ho hc (q _)|exact BF ho hc (q _)|exact BG ho hc (q _)|exact BH ho hc (q _)|exact BI ho hc (q _)|exact BM ho hc q0
def aOv(t:Ty):aa V->Hp->VK->Prop:=λxs H Q=>∃v d k,xs=[v,.ty t.nm]/\Rep All H v d/\aMp t d=.ok k/\Q (.bl k) H
theorem aJw(t:Ty):kJ X (.builtin "isinstance") (aOv t):=by
 rintro pins s σ H xs us Q I vr ⟨v,d,k,e,r,h,q⟩;subst e;cases vr with
 |cons rv vt=>
  cases vt with
  |cons rt vt=>
   cases vt;cases rt;exact isi I r rv h λtk=>⟨.bl k,H,I.tok tk,rfl,q⟩
theorem o_(t:Ty)(ha:PE X a (gE fa ra))(hg:Gl X "isinstance")(hm:X.mg "isinstance"=aj)(hv:dS "isinstance"=ab (.builtin "isinstance"))(gy:Gl X y)(my:X.mg y=aj)(vy:dS y=ab (.type t.nm))
 (hy:y ≠ "__name__":=by decide)(hyd:(y==("__debug__" : Str))=ag:=by decide)
 (he:bi [a,.Name y p2] X.env=(ag,bm a X.env)::bi [.Name y p2] X.env:=by rfl)(he2:bi [.Name y p2] X.env=(ag,bm (.Name y p2) X.env)::bi [] X.env:=by rfl)
 (hpl:(dq pos (bi [.Name y p2] X.env)).any (·.1)=ag:=by rfl):PE X (.Call (.Name "isinstance" p) [a,.Name y p2] [] pos) (gE (b1 (mU t) fa) ae):=
 PE.imp (Q_ (aJw t) hg hm hv (lJ ha (lJ (aEr gy my vy (v:=.ty t.nm) rfl hy hyd) tV he2) he) 0x4 0x4 he hpl) λσ H Q z0=>by
  obtain⟨ρ,d,E,h,q⟩:=z0;obtain⟨x,h1,h⟩:=bI h;obtain⟨k,h2,h⟩:=bI h;cases h;exact⟨ρ,x,E,h1,λv H1 s1 r1 _=>⟨v,x,k,rfl,r1,h2,(q.imp s1 id).bl⟩⟩
noncomputable def spD(f:aa D->Res D)(n:af):Sp:=λvs H Q _=>∃ds d,ds.length=n/\bL All H vs ds/\f ds=.ok d/\kR H d ae Q
theorem ZX{E:XK}(h:spD f n vs H Q E):vs.length=n:=by
 obtain⟨ds,d,h1,r,_⟩:=h;rw[r.length,h1]
theorem aFx(F:uQ X.prog X.w X.K X.mg X.base CX0 k fad fd ps (spD f n))(hr:mJ k X.A)(hg:Gl X x)(hm:X.mg x=ab (.ref fad))(hk:ju X.K (.ref fad)=ae)(hb:Binds X.K fd ps [])
 (ha:PA X (e::es) (gA fs rr))(hdb:nDb x:=by decide)(he:bi (e::es) X.env=(ag,bm e X.env)::bi es X.env:=by rfl)(hpl:(dq pos (bi es X.env)).any (·.1)=ag:=by rfl) :
  PE X (.Call (.Name x p) (e::es) [] pos) (gE (aK (bV n f) fs) ae):=
 PE.imp (XN F hr hg hm hk hb .nil aBz ha hdb he hpl) λσ H Q z0=>by
  obtain⟨ρ,d,E,h,q⟩:=z0;obtain⟨ds,h1,h⟩:=bI h;unfold bV at h;split at h
  ·rename_i hl;exact⟨ρ,ds,E,h1,λvs H1 s1 r1 _=>⟨ds,d,eW hl,by rw[gL];exact r1,h,q.imp s1 id⟩⟩
  ·exact bx h
end
end
noncomputable def JF(x:Str):aa D:=x.cps.toList.map λc=>D.str ⟨#[c]⟩
noncomputable def V2(xs:aa D):aa D:=xs.zipIdx.map λp=>.tup [.int p.2,p.1]
section
variable [KFrag]
def aMz(x:Str):It:=⟨λi _=>i<x.cps.size,λi H v H'=>H'=H/\∃c,x.cps[i]?=ab c/\v=.str ⟨#[c]⟩,λi _=>x.cps.size<=i⟩
theorem aCc{i:af}:(V2 xs)[i]?=(xs[i]?).map λd=>.tup [.int i,d]:=by
 unfold V2;rw[lm,List.getElem?_zipIdx,uf];cases xs[i]?<;>rfl
theorem ZZ(xs:aa D):(V2 xs).length=xs.length:=by simp[V2]
structure ItQ(K:br)(P:ak->Prop)(J:It)(H:Hp)(items:aa D):Prop where
 it:∀(P':ak->Prop)(H':Hp),A_ P H H'->(∀a o,H a=ab o->P a->P' a)->(∀i,items.length<=i->J.stop i H')/\∀i d,items[i]?=ab d->J.go i H'/\∀x H'',J.yld i H' x H''->cG H' H''/\Rep P' H'' x d
section
variable {K:br} {P P':ak->Prop} {J:It} {H H':Hp} {items:aa D}
theorem ItQ.keep'(h:ItQ K P J H items)(k:A_ P H H')(m:∀a o,H a=ab o->P a->P' a):ItQ K P' J H' items:=
 ⟨λP2 H2 k2 m2=>h.it P2 H2 (λa o e hp=>k2 a o (k a o e hp) (hp.imp (m a o e) id)) λa o e hp=>m2 a o (k a o e (.inl hp)) (m a o e hp)⟩
theorem ItQ.keep(h:ItQ K P J H items)(k:A_ P H H')(m:∀a,P a->P' a):ItQ K P' J H' items:=h.keep' k λa _ _=>m a
theorem ItQ.stop(h:ItQ K P J H items)(hi:items.length<=i):J.stop i H:=(h.it P H (λ_ _ e _=>e) λ_ _ _ hp=>hp).1 i hi
theorem ItQ.go(h:ItQ K P J H items)(hi:items[i]?=ab d):J.go i H/\∀x H',J.yld i H x H'->cG H H'/\Rep P H' x d:=(h.it P H (λ_ _ e _=>e) λ_ _ _ hp=>hp).2 i d hi
theorem ItQ.lst(a:ak)(e:J=Itl K a)(r:Rep P H (.ref a) (.lst items)):ItQ K P J H items:=by
 refine⟨λP H kk mm=>?_⟩;have r:=r.Y_ kk mm;refine⟨λi hi=>?_,λi d hi=>?_⟩
 ·subst e;obtain⟨a',xs,e,hq,rr⟩:=r.lO;cases e;exact⟨xs,hq,by rw[rr.length];exact hi⟩
 ·subst e;obtain⟨a',xs,e,hq,rr⟩:=r.lO;cases e;obtain⟨v,h1,h2⟩:=rr.get hi;refine⟨⟨xs,v,hq,h1⟩,λx H' ⟨e,hy⟩=>?_⟩;subst e;refine⟨cG.refl _,?_⟩;have:=hy xs hq;rw[h1] at this;cases this;exact h2
theorem ItQ.tup(a:ak)(e:J=Itt K a)(r:Rep P H (.ref a) (.tup items)):ItQ K P J H items:=by
 refine⟨λP H kk mm=>?_⟩;have r:=r.Y_ kk mm;refine⟨λi hi=>?_,λi d hi=>?_⟩
 ·subst e;obtain⟨a',xs,e,hq,rr⟩:=r.eU;cases e;exact⟨xs,.of hq,by rw[rr.length];exact hi⟩
 ·subst e;obtain⟨a',xs,e,hq,rr⟩:=r.eU;cases e;obtain⟨v,h1,h2⟩:=rr.get hi;refine⟨⟨xs,v,.of hq,h1⟩,λx H' ⟨e,hy⟩=>?_⟩;subst e;refine⟨cG.refl _,?_⟩;have:=hy xs (.of hq);rw[h1] at this;cases this;exact h2
theorem ItQ.rng(lo:ai)(n:af)(e:J=Itr lo n)(r:items=(cr n).map λ(k:af)=>D.int (lo+k)):ItQ K P J H items:=by
 refine⟨λP H k m=>?_⟩;refine⟨λi hi=>?_,λi d hi=>?_⟩
 ·subst e r;show n<=i;simpa using hi
 ·subst e r;have hlt:i<n:=by
   have:=(dz.mp hi).1;simpa using this
  refine⟨hlt,λx H' ⟨e,hy⟩=>?_⟩;subst e;have e2:D.int (lo+(i:ai))=d:=by simpa[hlt] using hi
  rw[hy,<-e2];exact⟨cG.refl _,.int _⟩
theorem ItQ.chs(z:Str)(e:J=aMz z)(r:items=JF z):ItQ K P J H items:=by
 refine⟨λP H k m=>?_⟩;refine⟨λi hi=>?_,λi d hi=>?_⟩
 ·subst e r;show z.cps.size<=i;simpa[JF] using hi
 ·subst e r;have hlt:i<z.cps.size:=by
   have:=(dz.mp hi).1;simpa[JF] using this
  refine⟨hlt,λx H' ⟨e,c,hc,hv⟩=>?_⟩;subst e hv;refine⟨cG.refl _,?_⟩;have e2:D.str ⟨#[c]⟩=d:=by
   unfold JF at hi;rw[lm,iO,hc] at hi;simpa using hi
  rw[<-e2];exact .str _
end
noncomputable def gI(K:br)(f:FI):TI:=λσ H R=>∃ρ items k,ER H σ ρ/\f ρ=.ok (items,k)/\∀J H1,cG H H1->ItQ K All J H1 items->(k=ae->ItQ K (New H) J H1 items)->R J H1
def gIV(K:br)(i:af):TI:=λσ H R=>∃v d items,σ[i]?=ab (ab v)/\Rep All H v d/\wC d=.ok items/\∀J,(∀P:ak->Prop,Rep P H v d->ItQ K P J H items)->R J H
section
variable {X:Cx} {tg l a b:Expr} {rr:aq} {fs:FA} {p pos:bS}
theorem R4(I1:Inv X pins σ H1 s1)(r:Rep All H1 v d)(ru:RelV v u)(hi:wC d=.ok items)
 (q:∀J,(∀P:ak->Prop,Rep P H1 v d->ItQ X.K P J H1 items)->R J H1):wpAny (av X.prog X.w) X.A (i6 u) (PIE X pins σ tg R) X.xe s1:=by
 cases d<;>simp only[wC] at hi<;>cases hi
 ·obtain⟨a,xs,rfl,e,rr⟩:=r.eU;cases ru;obtain⟨its,rv,p,hz⟩:=I1.tuple (.of e);refine jq (show s1.heap.IsTuple a its.toArray from p) ?_;refine⟨s1.heap.objs.size,[s1.heap.objs.size],_,_,H1,rfl,I1.kept λb o e=>bz _ e,UG a _,⟨_,cS _ rfl,rfl,rfl⟩,λb hb=>?_,q _ λP r=>.tup a rfl r⟩;have e:b=s1.heap.objs.size:=by simpa using hb
  subst e;exact I1.aBl (ba _) (I1.hok.fresh (ba _))
 ·obtain⟨a,xs,rfl,e,rr⟩:=r.lO;cases ru;obtain⟨its,rv,p,hz⟩:=I1.list e;refine BN p.isList ?_;refine⟨s1.heap.objs.size,[s1.heap.objs.size],_,_,H1,rfl,I1.kept λb o e=>bz _ e,W9 a _,⟨_,cS _ rfl,rfl,rfl⟩,λb hb=>?_,q _ λP r=>.lst a rfl r⟩;have e:b=s1.heap.objs.size:=by simpa using hb
  subst e;exact I1.aBl (ba _) (I1.hok.fresh (ba _))
theorem aJx(hN:X.N[i]?=ab x)(hv:Vis X.env.scope x)(hd:nDb x:=by decide)(hcd:nCd x:=by decide):PI X tg (.Name x pos) (gIV X.K i):=by
 rintro pins s σ H R I ⟨v,d,items,hσ,r,hi,q⟩;exact thn (jJ hN hv hd hcd pins s σ H (λw H1=>w=v/\H1=H) I ⟨v,hσ,rfl,rfl⟩) λu s1 z0=>by
  obtain⟨w,H1,I1,ru,e1,e2⟩:=z0;subst e1 e2;exact R4 I1 r ru hi q
theorem sZ(h:jL i=ae):-(2 ^ 62)<=i/\i<2 ^ 62:=by
 simp only[jL,bq,fF] at h;exact h
theorem PI.imp(h:PI X tg l w)(i:∀σ H R,w' σ H R->w σ H R):PI X tg l w':=λpins s σ H R I q=>h pins s σ H R I (i σ H R q)
theorem lR(hg:Gl X "range")(hm:X.mg "range"=aj)(ha:PA X [a] (gA fs rr))(hs:bi [a] X.env=[(ag,bm a X.env)]:=by rfl):PI X tg (.Call (.Name "range" p) [a] [] pos) (gI X.K (gP fs kO)):=
 PI.imp (W_ hg hm ha hs) λσ H R z0=>by
  obtain⟨ρ,items,k,E,h,q⟩:=z0;obtain⟨xs,h1,h⟩:=bI h;unfold kO at h;split at h
  ·split at h
   ·rename_i hb;cases h;obtain⟨b1,b2⟩:=sZ hb;refine⟨ρ,_,E,h1,λvs H1 s1 r1 _=>?_⟩;cases r1 with
    |cons r t=>
     cases t;cases r.inv;exact⟨_,rfl,b1,b2,q _ H1 s1 (.rng 0 _ rfl rfl) λ_=>.rng 0 _ rfl rfl⟩
   ·exact bx h
  ·exact bx h
theorem PB(hg:Gl X "range")(hm:X.mg "range"=aj)(ha:PA X [a,b] (gA fs rr))(hs:bi [a,b] X.env=[(ag,bm a X.env),(ag,bm b X.env)]:=by rfl)(hs2:bi [b] X.env=[(ag,bm b X.env)]:=by rfl):PI X tg (.Call (.Name "range" p) [a,b] [] pos) (gI X.K (gP fs H_)):=
 PI.imp (XC hg hm ha hs hs2) λσ H R z0=>by
  obtain⟨ρ,items,k,E,h,q⟩:=z0;obtain⟨xs,h1,h⟩:=bI h;unfold H_ at h;split at h
  ·split at h
   ·rename_i hb;cases h;rw[bq] at hb;obtain⟨b1,b2⟩:=sZ hb.1;obtain⟨b3,b4⟩:=sZ hb.2;refine⟨ρ,_,E,h1,λvs H1 s1 r1 _=>?_⟩;cases r1 with
    |cons r t=>
     cases t with
     |cons r' t=>
      cases t;cases r.inv;cases r'.inv;exact⟨_,_,rfl,⟨b1,b2,b3,b4⟩,q _ H1 s1 (.rng _ _ rfl rfl) λ_=>.rng _ _ rfl rfl⟩
   ·exact bx h
  ·exact bx h
end
theorem aCd(n:af)(ρ bs:aa D)(i:af)(h:i<n):(N8 n ρ++bs).getD i .uD=ρ.getD i .uD:=by
 rw[c9,ir (by simp[N8];exact h)];simp[N8,h]
theorem R5(n:af)(ρ:aa D):(N8 n ρ).length=n:=by simp[N8]
def TgC(g:TG)(t:D->Res (aa D))(n m:af):Prop:=∀(v:V)(d:D)(bs:aa D)(σ:L2.St)(H:Hp)(Q:L2.St->Hp->Prop),σ.length=n->Rep All H v d->t d=.ok bs->
 (∀σ2,Ext (σ++bX m aj) σ2->(∀j b,bs[j]?=ab b->∃w,σ2[n+j]?=ab (ab w)/\Rep All H w b)->Q σ2 H)->g v (σ++bX m aj) H Q
theorem ER.ext(E:ER H σ ρ)(hn:σ.length=n)(x:Ext (σ++bX m aj) σ2)(hb:∀j b,bs[j]?=ab b->∃w,σ2[n+j]?=ab (ab w)/\Rep All H w b):ER H σ2 (N8 n ρ++bs):=by
 intro i hi;by_cases h:i<n
 ·rw[aCd n ρ bs i h] at hi ⊢;obtain⟨v,h1,h2⟩:=E i hi;exact⟨v,x.2 i v (by rw[ir (by rw[hn];exact h)];exact h1),h2⟩
 ·have e:(N8 n ρ++bs).getD i .uD=bs.getD (i-n) .uD:=by
   rw[c9,ic (by rw[R5];lia),R5,<-c9]
  rw[e] at hi ⊢;cases hq:bs[i-n]? with
  |none=>rw[c9,hq] at hi;exact bg rfl hi
  |some b=>
   obtain⟨w,h1,h2⟩:=hb (i-n) b hq;rw[c9,hq];exact⟨w,by rw[<-h1];congr 1;lia,h2⟩
theorem p_{K:br}{n m:af}{g:TG}{tc:TT}(tg:TgC g t n m)(hc:∀σ H Q,gT c σ H Q->tc σ H Q){σ:L2.St}{H:Hp}{Q:VK}(hn:σ.length=n)(h:gE (cY n it t c f k) ae σ H Q) :
  O4 (gI K it) g tc (gE f k) m σ H Q:=by
 obtain⟨ρ,d,E,h,q⟩:=h;obtain⟨⟨items,kk⟩,h1,h⟩:=bI h;split at h
 ·rename_i hlim;obtain⟨ys,h2,h⟩:=bI h;cases h;refine⟨ρ,items,kk,E,h1,λJ H1 s1 hJ _ p hp=>?_⟩;have hp0:H p=aj:=s1.free hp;refine⟨λi n' vs H'=>n'=items.length-i/\i<=items.length/\H' p=ab (.lst vs)/\cG H1 H'/\∃acc,acc.length<=i/\bL (λa=>H a=aj/\a≠p) H' vs acc/\fY (jM n t c f k ρ) acc (items.drop i)=.ok ys,⟨items.length,?_⟩,?_⟩
  ·exact⟨rfl,di _,aM,cG.upd hp,[],di _,.nil,h2⟩
  ·rintro i n' vs H' ⟨rfl,hi,hH,sm,acc,hal,racc,hf⟩;refine⟨hH,?_⟩;have hJ':ItQ K All J H' items:=hJ.keep (.same sm) λ_ z=>z
   rcases t0 i items.length with hlt|hge
   ·refine .inr ?_;have e:items[i]?=ab items[i]:=eh hlt;obtain⟨g1,g2⟩:=hJ'.go e;have hl1:items.length<=lim:=eW hlim;refine⟨g1,?_,λx H2 hy=>?_⟩
    ·rw[racc.length];exact yk hal (dm hlt (dw hl1 (by rw[dE];decide)))
    ·obtain⟨sH,rx⟩:=g2 x H2 hy;have hH:=sH p _ hH;have sm:=sm.trans sH;have racc:=racc.same sH;rw[jI hlt] at hf;obtain⟨acc2,hs,hf⟩:=bI hf;obtain⟨bs,hb,hs⟩:=bI hs;obtain⟨ok,hok,hs⟩:=bI hs;refine tg x items[i] bs σ H2 _ hn rx hb λσ2 hx hbs=>⟨hx,hc _ _ _ ?_⟩
     have E2:ER H2 σ2 (N8 n ρ++bs):=(E.same (s1.trans sm)).ext hn hx hbs;refine⟨_,ok,E2,hok,λH4 s4=>?_⟩;cases ok with
     |true=>
      rw[au rfl];rw[au rfl] at hs;obtain⟨y,hy2,hs⟩:=bI hs;split at hs
      ·rename_i hk;cases hs;refine⟨_,y,E2.same s4,hy2,λw H5 s5 r5 n5=>⟨s5 p _ (s4 p _ hH),items.length-(i+1),by lia,rfl,hlt,aM,?_,acc++[y],?_,?_,hf⟩⟩
       ·exact λb o e=>by
         rw[bF (cW e hp)];exact s5 b o (s4 b o (sm b o e))
       ·rw[cx,xi];lia
       ·have hp5:H5 p=ab (.lst vs):=s5 p _ (s4 p _ hH);have ry:Rep (λa=>H a=aj/\a≠p) H5 w y:=by
         rw[gm] at hk;rcases hk with hk|hk
         ·exact(n5 hk).mono λa ha=>⟨((s1.trans sm).trans s4).free ha,λz=>by subst z;have h0:=s4 _ _ hH;rw[show H4 _=aj from ha] at h0;cases h0⟩
         ·exact r5.bT hk
        have all:bL (λa=>H a=aj/\a≠p) H5 (vs++[w]) (acc++[y]):=(racc.same (s4.trans s5)).snoc ry;refine all.keep (λb o e hb=>?_) λ_ z=>z
        rw[bF]
        ·exact e
        ·rcases hb with hb|hb
         ·exact hb.2
         ·intro z;subst z;rw[hp5] at e;cases e;cases hb
      ·exact bx hs
     |false=>
      rw[az 0x2];rw[az 0x2] at hs;cases hs;exact⟨items.length-(i+1),by lia,rfl,hlt,s4 p _ hH,sm.trans s4,acc,by lia,racc.same s4,hf⟩
   ·refine .inl ⟨hJ'.stop hge,?_⟩;rw[mT hge] at hf;cases hf;exact q _ _ (s1.trans sm) (.lst hH trivial racc.all) λ_=>.lst hH hp0 (racc.mono λa z=>z.1)
 ·exact bx h
def gIx:aa af->TGs
 |[]=>aNp
 |i::is=>aIo (uP i) (gIx is)
noncomputable def mX:aa af->aa V->L2.St->L2.St
 |i::is,v::vs,σ=>mX is vs (σ.set i (ab v))
 |_,_,σ=>σ
theorem PJ:∀(is:aa af)(vs:aa V)(σ:L2.St),vs.length=is.length->Q (mX is vs σ) H->gIx is vs σ H Q
 |[],[],σ,_,q=>⟨rfl,q⟩
 |i::is,v::vs,σ,h,q=>⟨v,vs,rfl,PJ is vs (σ.set i (ab v)) (by simpa using h) q⟩
 |[],_::_,_,h,_=>by simp at h
 |_::_,[],_,h,_=>by simp at h
theorem JG:∀(is:aa af)(vs:aa V)(σ:L2.St),(mX is vs σ).length=σ.length
 |[],_,_=>by simp[mX]
 |_::_,[],_=>by simp[mX]
 |i::is,v::vs,σ=>by rw[mX,JG is vs];simp
theorem wO:∀(is:aa af)(vs:aa V)(σ:L2.St)(k:af),k∉is->(mX is vs σ)[k]?=σ[k]?
 |[],_,_,_,_=>by simp[mX]
 |_::_,[],_,_,_=>by simp[mX]
 |i::is,v::vs,σ,k,h=>by
  rw[b9,ii] at h;rw[mX,wO is vs _ k h.2,eC (c5 h.1)]
theorem R6:∀(is:aa af)(vs:aa V)(σ:L2.St)(j i:af)(v:V),is.Nodup->(∀i∈is,i<σ.length)->is[j]?=ab i->vs[j]?=ab v->(mX is vs σ)[i]?=ab (ab v)
 |[],_,_,_,_,_,_,_,h,_=>by simp at h
 |_::_,[],_,_,_,_,_,_,_,h=>by simp at h
 |a::is,w::vs,σ,0,i,v,hn,hl,h1,h2=>by
  have e1:a=i:=by simpa using h1
  have e2:w=v:=by simpa using h2
  subst e1 e2;rw[mX,wO is vs _ a (ff.mp hn).1,fN (hl a (b6 ..))]
 |a::is,w::vs,σ,j+1,i,v,hn,hl,h1,h2=>by
  rw[mX];exact R6 is vs _ j i v (ff.mp hn).2 (λi hi=>by rw[ug];exact hl i (cg _ hi)) (by simpa using h1) (by simpa using h2)
theorem d_(n:af):TgC (uP n) gQ n 1:=by
 intro v d bs σ H Q hn r h q;cases h;have hl:(σ++bX 1 (aj:ax V)).length=n+1:=by simp[hn]
 refine q _ ⟨by simp,λi w hi=>?_⟩ λj b hj=>?_
 ·have:i≠n:=λz=>by
   subst z;rw[ic 0x1] at hi;simp[hn] at hi
  rw[eC (c5 this)];exact hi
 ·have e:j=0:=by
   have:=(dz.mp hj).1;simp at this;exact this
  subst e;have e:d=b:=by simpa using hj
  subst e;exact⟨v,by rw[A1,fN 0x1],r⟩
theorem aFy(K:br)(n m:af):TgC (aM8 K m (gIx (BO n m))) (aLw m) n m:=by
 intro v d bs σ H Q hn r h q;cases d<;>simp only[aLw] at h<;>(try (exact bx h;done))
 split at h
 ·rename_i hm;cases h;have hm':=eW hm;obtain⟨a,xs,rfl,e,rr⟩:=r.eU;refine⟨a,xs,rfl,.of e,by rw[rr.length];exact hm',PJ _ _ _ (by rw[rr.length,hm'];simp) ?_⟩;refine q _ ⟨by rw[JG],λi w hi=>?_⟩ λj b hj=>?_
  ·rw[wO]
   ·exact hi
   ·intro hmem;have:=BQ.mp hmem;rw[ic 0x1] at hi;rw[ky] at hi;split at hi<;>cases hi
  ·obtain⟨w,h1,h2⟩:=rr.get hj;have hjm:j<m:=by rw[<-hm'];exact(dz.mp hj).1
   refine⟨w,R6 _ _ _ j (n+j) w (List.nodup_range' ..) (λi hi=>?_) ?_ h1,h2⟩
   ·have:=BQ.mp hi;simp[hn];lia
   ·rw[List.getElem?_range' hjm];simp
 ·exact bx h
section
theorem aFz(S:cL X.N X.env.scope scope ownN)(hn:X.N.length=n)(hm:ownN.length=m)(hcalm:X.calm=ae)(hi:PI X tg iter (gI X.K it))(ht:TgC g t n m)(hg:∀X',dF X X' scope ownN->PG X' tg g)(he:∀X',dF X X' scope ownN->PE X' elt (gE fe re))
 (hs:∀x,fw iter X.env x=pure x):PE X (.ListComp elt [⟨tg,iter,[],0⟩] scope pos) (gE (cY n it t dC fe re) ae):=by
 intro pins s σ H Q I h;subst hm;exact aC5 S hcalm hi hg he hs pins s σ H Q I (p_ ht (λσ H Q h=>by obtain⟨ρ,b,E,h,q⟩:=h;cases h;exact q H (cG.refl H)) (I.len.trans hn) h)
theorem Z0(S:cL X.N X.env.scope scope ownN)(hn:X.N.length=n)(hm:ownN.length=m)(hcalm:X.calm=ae)(hi:PI X tg iter (gI X.K it))(ht:TgC g t n m)(hg:∀X',dF X X' scope ownN->PG X' tg g)(hc:∀X',dF X X' scope ownN->PT X' c (gT gc))(he:∀X',dF X X' scope ownN->PE X' elt (gE fe re))
 (hs:∀x,fw iter X.env x=pure x):PE X (.ListComp elt [⟨tg,iter,[c],0⟩] scope pos) (gE (cY n it t gc fe re) ae):=by
 intro pins s σ H Q I h;subst hm;exact ZF S hcalm hi hg hc he hs pins s σ H Q I (p_ ht (λσ H Q h=>h) (I.len.trans hn) h)
end
end
variable [KFrag]
theorem i_.bT:∀{v:aa (Key×V)}{d:aa (D×D)},i_ P H v d->D.aW (d.map (·.2))=ae->i_ P' H v d
 |_,_,.nil,_=>.nil
 |_,_,.cons r t,h=>by
  rw[bw,D.aW,bq] at h;exact .cons (r.bT h.1) (t.bT h.2)
theorem oU.bT:∀{v:aa (aa Key×V)}{d:aa (D×D)},oU P H v d->D.aW (d.map (·.2))=ae->oU P' H v d
 |_,_,.nil,_=>.nil
 |_,_,.cons r t,h=>by
  rw[bw,D.aW,bq] at h;exact .cons (r.bT h.1) (t.bT h.2)
theorem Rep.aJy(r:Rep P H (.ref a) d)(h:inner d=ae)(hp:P' a):Rep P' H (.ref a) d:=by
 cases r with
 |tup e r=>cases h
 |lst e p r=>exact .lst e hp (r.bT h)
 |cel e p r=>exact .cel e hp (r.bT h)
 |frz e r=>cases h
 |dK e p r n=>exact .dK e hp (r.bT h) n
 |dT e p r n=>exact .dT e hp (r.bT h) n
 |fdK e r n=>cases h
 |fdT e r n=>cases h
 |exc n e q=>cases h
 |ins n e q=>cases h
 |adr=>cases h
def Own(own:af->aq)(σ:L2.St)(a:ak):Prop:=∃i,own i=ae/\σ[i]?=ab (ab (.ref a))
structure ES(own:af->aq)(H:Hp)(σ:L2.St)(ρ:aa D):Prop where
 len:σ.length=ρ.length
 at_:∀i,ρ.getD i .uD≠.uD->∃v,σ[i]?=ab (ab v)/\(own i=ag->Rep (λa=>¬Own own σ a) H v (ρ.getD i .uD))
 own:∀i v,own i=ae->σ[i]?=ab (ab v)->∃a o,v=.ref a/\Rep All H v (ρ.getD i .uD)/\inner (ρ.getD i .uD)=ae/\H a=ab o/\RM o=ae/\∀j,own j=ae->σ[j]?=ab (ab (.ref a))->j=i
variable {own:af->aq}
theorem ES.er(e:ES own H σ ρ):ER H σ ρ:=λi hi=>by
 obtain⟨v,h1,h2⟩:=e.at_ i hi;cases ho:own i with
 |false=>exact⟨v,h1,(h2 ho).all⟩
 |true=>
  obtain⟨a,o,_,h3,_⟩:=e.own i v ho h1;exact⟨v,h1,h3⟩
theorem ES.live(e:ES own H σ ρ)(h:Own own σ a):∃o,H a=ab o/\RM o=ae:=by
 obtain⟨i,hi,hs⟩:=h;obtain⟨b,o,eb,_,_,h3,h4,_⟩:=e.own i _ hi hs;cases eb;exact⟨o,h3,h4⟩
theorem ES.same(e:ES own H σ ρ)(s:cG H H'):ES own H' σ ρ:=by
 refine⟨e.len,λi hi=>?_,λi v hi hv=>?_⟩
 ·obtain⟨v,h1,h2⟩:=e.at_ i hi;exact⟨v,h1,λho=>(h2 ho).same s⟩
 ·obtain⟨a,o,h1,h2,h3,h4,h5,h6⟩:=e.own i v hi hv;exact⟨a,o,h1,h2.same s,h3,s _ _ h4,h5,h6⟩
def KU(own:af->aq)(σ:L2.St)(H:Hp)(σ':L2.St)(H':Hp):Prop:=∀a o,H a=ab o->¬Own own σ a->H' a=ab o/\¬Own own σ' a
theorem KU.trans(a:KU own σ H σ1 H1)(b:KU own σ1 H1 σ2 H2):KU own σ H σ2 H2:=λc o e n=>let ⟨e1,n1⟩:=a c o e n;b c o e1 n1
theorem KU.same(s:cG H H'):KU own σ H σ H':=λa o e n=>⟨s a o e,n⟩
theorem KU.keep(k:KU own σ H σ' H')(e:ES own H σ ρ):A_ (λa=>¬Own own σ a) H H':=λa o h hp=>by
 by_cases ho:Own own σ a
 ·obtain⟨o',h1,h2⟩:=e.live ho;rw[h] at h1;cases h1;rcases hp with hp|hp
  ·exact bg ho hp
  ·rw[h2] at hp;cases hp
 ·exact(k a o h ho).1
theorem KU.rep(k:KU own σ H σ' H')(e:ES own H σ ρ)(r:Rep (λa=>¬Own own σ a) H v d):Rep (λa=>¬Own own σ' a) H' v d:=r.Y_ (k.keep e) λa o h n=>(k a o h n).2
def kRt(own:af->aq)(D:Ends)(σ:L2.St)(H:Hp)(d:Mi.D):Prop:=if own rtX=ae then ∃d0 ρ',d=.tup (d0::ρ')/\∀v σ' H',KU own σ H σ' H'->ES own H' σ' ρ'->Rep (λa=>(Own own σ a\/H a=aj)/\∀i b xs,ρ'.getD i .uD=.cel b xs->a≠b) H' v d0->D.rt v H'
  else ∀v H',(∀a o,H a=ab o->¬Own own σ a->H' a=ab o)->Rep (λa=>Own own σ a\/H a=aj) H' v d->D.rt v H'
theorem kRt.old{D:Ends}(h:kRt own D σ H d)(hx:own rtX=ag):∀v H',(∀a o,H a=ab o->¬Own own σ a->H' a=ab o)->Rep (λa=>Own own σ a\/H a=aj) H' v d->D.rt v H':=by
 unfold kRt at h;rw[az (by rw[hx];simp)] at h;exact h
theorem kRt.mk{D:Ends}(hx:own rtX=ag)(h:∀v H',(∀a o,H a=ab o->¬Own own σ a->H' a=ab o)->Rep (λa=>Own own σ a\/H a=aj) H' v d->D.rt v H'):kRt own D σ H d:=by
 unfold kRt;rw[az (by rw[hx];simp)];exact h
def kS(own:af->aq)(D:Ends)(σ:L2.St)(H:Hp):Fl->Prop
 |.nx ρ=>∀σ' H',KU own σ H σ' H'->ES own H' σ' ρ->D.nx σ' H'
 |.bk ρ=>∀σ' H',KU own σ H σ' H'->ES own H' σ' ρ->D.bk σ' H'
 |.ct ρ=>∀σ' H',KU own σ H σ' H'->ES own H' σ' ρ->D.ct σ' H'
 |.rt d=>kRt own D σ H d
theorem kS.step{D:Ends}{σ σ':L2.St}{H H':Hp}{fl:Fl}(k:KU own σ H σ' H')(h:kS own D σ H fl):kS own D σ' H' fl:=by
 cases fl with
 |nx ρ=>exact λσ2 H2 k2 e=>h σ2 H2 (k.trans k2) e
 |bk ρ=>exact λσ2 H2 k2 e=>h σ2 H2 (k.trans k2) e
 |ct ρ=>exact λσ2 H2 k2 e=>h σ2 H2 (k.trans k2) e
 |rt d=>
  have old:∀a,(Own own σ' a\/H' a=aj)->Own own σ a\/H a=aj:=λa ha=>by
   cases q:H a with
   |none=>exact .inr rfl
   |some o=>
    refine .inl (C8 λn=>?_);obtain⟨e1,n1⟩:=k a o q n;rcases ha with ha|ha
    ·exact n1 ha
    ·rw[e1] at ha;cases ha
  have h:kRt own D σ H d:=h;show kRt own D σ' H' d;unfold kRt at h ⊢;by_cases hx:own rtX=ae
  ·rw[au hx] at h ⊢;obtain⟨d0,ρ',e,g⟩:=h;exact⟨d0,ρ',e,λv σ2 H2 k2 E2 r=>g v σ2 H2 (k.trans k2) E2 (r.mono λa ha=>⟨old a ha.1,ha.2⟩)⟩
  ·rw[az hx] at h ⊢;exact λv H2 hk r=>h v H2 (λa o e n=>let ⟨e1,n1⟩:=k a o e n;hk a o e1 n1) (r.mono λa ha=>old a ha)
noncomputable def tS(own:af->aq)(f:FS):TS:=λD σ H=>∃ρ fl,ES own H σ ρ/\f ρ=.ok fl/\kS own D σ H fl
theorem PS.imp{st:bP}(h:PS X st t)(i:∀D σ H,t' D σ H->t D σ H):PS X st t':=λpins s σ H D I q=>h pins s σ H D I (i D σ H q)
theorem PSs.imp{st:aa bP}{t t':TS}(h:PSs X st t)(i:∀D σ H,t' D σ H->t D σ H):PSs X st t':=λpins s σ H D I q=>h pins s σ H D I (i D σ H q)
section
variable {X:Cx} {a b c e:Expr} {pos pos':bS} {fe:FE} {re:aq} {gc:FT} {f g:FS} {st:bP} {rest s1 s2:aa bP}
theorem eE:PSs X [] (tS own mG):=PSs.imp W6 λD σ H z0=>by
 obtain⟨ρ,fl,E,h,q⟩:=z0;cases h;exact q σ H (λa o e n=>⟨e,n⟩) E
theorem aG0{D:Ends}(h:tS own (bG f g) D σ H):aM4 (tS own f) (tS own g) D σ H:=by
 obtain⟨ρ,fl,E,h,q⟩:=h;obtain⟨r,h1,h2⟩:=bI h;refine⟨ρ,r,E,h1,?_⟩;cases r with
 |nx ρ'=>exact λσ' H' k E'=>⟨ρ',fl,E',h2,q.step k⟩
 |bk ρ'=>cases h2;exact q
 |ct ρ'=>cases h2;exact q
 |rt d=>cases h2;exact q
theorem aH(h1:PS X st (tS own f))(h2:PSs X rest (tS own g)):PSs X (st::rest) (tS own (bG f g)):=PSs.imp (nG h1 h2) λ_ _ _=>aG0
theorem aX(h1:PS X st (tS own f)):PSs X [st] (tS own f):=aEt h1
theorem jX(hc:PT X c (gT gc))(ha:PSs X s1 (tS own f))(hb:PSs X s2 (tS own g)):PS X (.If c s1 s2 pos) (tS own (sIf gc f g)):=PS.imp (aM7 hc ha hb) λD σ H z0=>by
 obtain⟨ρ,fl,E,h,q⟩:=z0;obtain⟨k,h1,h2⟩:=bI h;refine⟨ρ,k,E.er,h1,λH' s=>?_⟩;cases k with
 |true=>rw[au rfl];rw[au rfl] at h2;exact⟨ρ,fl,E.same s,h2,q.step (.same s)⟩
 |false=>rw[az 0x2];rw[az 0x2] at h2;exact⟨ρ,fl,E.same s,h2,q.step (.same s)⟩
theorem dZ(he:PE X e (gE fe re))(hx:own rtX=ag:=by rfl):PS X (.Return (ab e) pos) (tS own (jV fe re)):=PS.imp (W7 he) λD σ H z0=>by
 obtain⟨ρ,fl,E,h,q⟩:=z0;obtain⟨d,h1,h2⟩:=bI h;split at h2
 ·rename_i hk;cases h2;refine⟨ρ,d,E.er,h1,λv H' s r n=>q.old hx v H' (λa o e _=>s a o e) ?_⟩;rw[gm] at hk;rcases hk with hk|hk
  ·exact(n hk).mono λa ha=>.inr ha
  ·exact r.bT hk
 ·exact bx h2
theorem PK(ho:own i=ae)(hN:X.N[i]?=ab x)(hv:Vis X.env.scope x)(hd:nDb x:=by decide)(hcd:nCd x:=by decide)(hx:own rtX=ag:=by rfl):PS X (.Return (ab (.Name x pos')) pos) (tS own (YZ i)):=
 PS.imp (W7 (jJ hN hv hd hcd)) λD σ H z0=>by
 obtain⟨ρ,fl,E,h,q⟩:=z0;obtain⟨d,h1,h2⟩:=bI h;cases h2;obtain⟨v,hv,r,e⟩:=E.er.var h1;obtain⟨a,o,rfl,r2,hin,_⟩:=E.own i v ho hv;rw[e] at hin;exact⟨_,hv,q.old hx _ H (λa o e _=>e) (r.aJy hin (.inl ⟨i,ho,hv⟩))⟩
theorem lU(ho:own i=ag)(a:ak):Own own (σ.set i (ab v)) a↔Own own σ a:=by
 constructor
 ·rintro⟨j,hj,e⟩;have:i≠j:=λz=>by subst z;rw[ho] at hj;cases hj
  rw[eC this] at e;exact⟨j,hj,e⟩
 ·rintro⟨j,hj,e⟩;have:i≠j:=λz=>by subst z;rw[ho] at hj;cases hj
  exact⟨j,hj,by rw[eC this];exact e⟩
theorem dM{ρ:aa D}:(ρ.set i d).getD j .uD=if i=j/\i<ρ.length then d else ρ.getD j .uD:=by
 rw[c9,c9,oP];by_cases h:i=j
 ·subst h;by_cases h2:i<ρ.length
  ·simp[h2]
  ·simp[h2]
 ·simp[h]
theorem ES.set(E:ES own H σ ρ)(ho:own i=ag)(r:Rep (λa=>¬Own own σ a) H v d):ES own H (σ.set i (ab v)) (ρ.set i d):=by
 have hO:(λa=>¬Own own (σ.set i (ab v)) a)=λa=>¬Own own σ a:=funext λa=>by rw[lU ho]
 refine⟨by simp[E.len],λj hj=>?_,λj w hj hw=>?_⟩
 ·rw[dM] at hj ⊢;rw[hO];by_cases h:i=j/\i<ρ.length
  ·rw[au h];obtain⟨rfl,hl⟩:=h;exact⟨v,by rw[fN (by rw[E.len];exact hl)],λ_=>r⟩
  ·rw[az h] at hj ⊢;obtain⟨w,h1,h2⟩:=E.at_ j hj;by_cases hij:i=j
   ·subst hij;have:i<σ.length:=(dz.mp h1).1;rw[E.len] at this;exact bg ⟨rfl,this⟩ h
   ·exact⟨w,by rw[eC hij];exact h1,h2⟩
 ·have hij:i≠j:=λz=>by subst z;rw[ho] at hj;cases hj
  rw[eC hij] at hw;rw[dM,az λz=>hij z.1];obtain⟨a,o,h1,h2,h3,h4,h5,h6⟩:=E.own j w hj hw;refine⟨a,o,h1,h2,h3,h4,h5,λk hk hs=>h6 k hk ?_⟩;have hik:i≠k:=λz=>by subst z;rw[ho] at hk;cases hk
  rwa [eC hik] at hs
theorem ES.aN0{i:af}{a:ak}{o:HO}{d:D}(E:ES own H σ ρ)(s:cG H H')(ho:own i=ae)(hn:H a=aj)(r:Rep All H' (.ref a) d)(hin:inner d=ae)(ha:H' a=ab o)(hm:RM o=ae) :
  ES own H' (σ.set i (ab (.ref a))) (ρ.set i d)/\KU own σ H (σ.set i (ab (.ref a))) H':=by
 have hO:∀b,H b≠aj->¬Own own σ b->¬Own own (σ.set i (ab (.ref a))) b:=λb hb n z0=>by
  obtain⟨j,hj,e⟩:=z0;by_cases hij:i=j
  ·subst hij;by_cases hl:i<σ.length
   ·rw[fN hl] at e;cases e;exact hb hn
   ·rw[oP,au rfl,az hl] at e;cases e
  ·rw[eC hij] at e;exact n ⟨j,hj,e⟩
 refine⟨⟨by simp[E.len],λj hj=>?_,λj w hj hw=>?_⟩,λb ob e n=>⟨s b ob e,hO b (by rw[e];simp) n⟩⟩
 ·rw[dM] at hj ⊢;by_cases h:i=j/\i<ρ.length
  ·rw[au h];obtain⟨rfl,hl⟩:=h;exact⟨.ref a,by rw[fN (by rw[E.len];exact hl)],λz=>by rw[ho] at z;cases z⟩
  ·rw[az h] at hj ⊢;obtain⟨w,h1,h2⟩:=E.at_ j hj;by_cases hij:i=j
   ·subst hij;have:i<σ.length:=(dz.mp h1).1;rw[E.len] at this;exact bg ⟨rfl,this⟩ h
   ·exact⟨w,by rw[eC hij];exact h1,λhj=>((h2 hj).dom.same s).mono λb ⟨n,hb⟩=>hO b hb n⟩
 ·by_cases hij:i=j
  ·subst hij;have hl:i<σ.length:=by
    have:=(dz.mp hw).1;simpa using this
   rw[fN hl] at hw;cases hw;rw[dM,au ⟨rfl,by rw[<-E.len];exact hl⟩];refine⟨a,o,rfl,r,hin,ha,hm,λk hk hs=>?_⟩;by_cases hik:i=k
   ·exact hik.symm
   ·rw[eC hik] at hs;obtain⟨o',h1,_⟩:=E.live ⟨k,hk,hs⟩;rw[hn] at h1;cases h1
  ·rw[eC hij] at hw;rw[dM,az λz=>hij z.1];obtain⟨b,ob,h1,h2,h3,h4,h5,h6⟩:=E.own j w hj hw;refine⟨b,ob,h1,h2.same s,h3,s _ _ h4,h5,λk hk hs=>?_⟩;by_cases hik:i=k
   ·subst hik;by_cases hl:i<σ.length
    ·rw[fN hl] at hs;cases hs;rw[hn] at h4;cases h4
    ·rw[oP,au rfl,az hl] at hs;cases hs
   ·rw[eC hik] at hs;exact h6 k hk hs
theorem yQ(r:Rep P H v d)(hin:inner d=ae):∃a o,v=.ref a/\P a/\H a=ab o/\RM o=ae:=by
 cases r with
 |lst e p r=>exact⟨_,_,rfl,p,e,rfl⟩
 |cel e p r=>exact⟨_,_,rfl,p,e,rfl⟩
 |dK e p r n=>exact⟨_,_,rfl,p,e,rfl⟩
 |dT e p r n=>exact⟨_,_,rfl,p,e,rfl⟩
 |fdK e r n=>cases hin
 |fdT e r n=>cases hin
 |_=>cases hin
theorem Z1(E:ES own H σ ρ)(r:Rep (New H) H' v d):Rep (λa=>¬Own own σ a) H' v d:=r.mono λa ha ho=>by
 obtain⟨o,h1,_⟩:=E.live ho;rw[show H a=aj from ha] at h1;cases h1
theorem B_(ho:own i=o)(h:tS own (bO o i fe re) D' σ H):aHw (gE fe re) (uP i) D' σ H:=by
 obtain⟨ρ,fl,E,h,q⟩:=h;obtain⟨d,h1,h2⟩:=bI h;cases o with
 |true=>
  simp only[cy] at h2;split at h2
  ·rename_i hk;cases h2;refine⟨ρ,d,E.er,h1,λv H' s r n=>?_⟩;rw[bq] at hk;obtain⟨a,ob,rfl,hn,ha,hm⟩:=yQ (n hk.1) hk.2;obtain⟨E2,k⟩:=E.aN0 s ho hn r hk.2 ha hm;exact q _ H' k E2
  ·exact bx h2
 |false=>
  simp only[c8,cK] at h2;split at h2
  ·rename_i hk;cases h2;refine⟨ρ,d,E.er,h1,λv H' s r n=>?_⟩;rw[gm] at hk;have r2:Rep (λa=>¬Own own σ a) H' v d:=by
    rcases hk with hk|hk
    ·exact Z1 E (n hk)
    ·exact r.bT hk
   exact q _ H' (λa ob e hn=>⟨s a ob e,by rw[lU ho];exact hn⟩) ((E.same s).set ho r2)
  ·exact bx h2
theorem aJz(ho:own i=o)(hN:X.N.Nodup)(hi:X.N[i]?=ab x)(hx:Loc X.env.scope x)(he:PE X e (gE fe re))(hs:eI e (ab (.Name x pos')) pos.line X.env=pure ag:=by rfl)(hf:X.fn x=ae\/X.env.scope.names.lookup x=ab .local:=by first|exact .inl rfl|exact .inr rfl|assumption) :
  PS X (.Assign [.Name x pos'] e pos) (tS own (bO o i fe re)):=PS.imp (G7 hN hi hx he hs hf) λ_ _ _=>B_ ho
theorem bY{i:af}{x:Str}{o:aq}(he:PE X e (gE fe re))(ho:own i=o:=by rfl)(hN:X.N.Nodup:=by assumption)(hi:X.N[i]?=ab x:=by exact rfl)(hx:Loc X.env.scope x:=by trivial)(hs:eI e (ab (.Name x pos')) pos.line X.env=pure ag:=by rfl)(hf:X.fn x=ae\/X.env.scope.names.lookup x=ab .local:=by first|exact .inl rfl|exact .inr rfl|assumption):PS X (.Assign [.Name x pos'] e pos) (tS own (bO o i fe re)):=aJz ho hN hi hx he hs hf
theorem ES.mut{i:af}{a:ak}{o:HO}{d:D}(E:ES own H σ ρ)(ho:own i=ae)(hi:σ[i]?=ab (ab (.ref a)))(hm:RM o=ae)(r:Rep All (upd H a o) (.ref a) d)(hin:inner d=ae) :
  ES own (upd H a o) σ (ρ.set i d)/\KU own σ H σ (upd H a o):=by
 have hOa:Own own σ a:=⟨i,ho,hi⟩
 obtain⟨a',oa,ea,_,_,hHa,hma,huq⟩:=E.own i _ ho hi;cases ea;have k:KU own σ H σ (upd H a o):=λb ob e n=>⟨by rw[bF (λz=>by subst z;exact n hOa)];exact e,n⟩
 have hl:i<ρ.length:=by rw[<-E.len];exact(dz.mp hi).1
 refine⟨⟨by simp[E.len],λj hj=>?_,λj w hj hw=>?_⟩,k⟩
 ·rw[dM] at hj ⊢;by_cases h:i=j/\i<ρ.length
  ·obtain⟨rfl,_⟩:=h;exact⟨_,hi,λz=>by rw[ho] at z;cases z⟩
  ·rw[az h] at hj ⊢;obtain⟨w,h1,h2⟩:=E.at_ j hj;exact⟨w,h1,λhj=>k.rep E (h2 hj)⟩
 ·by_cases hij:i=j
  ·subst hij;rw[hi] at hw;cases hw;rw[dM,au ⟨rfl,hl⟩];exact⟨a,o,rfl,r,hin,aM,hm,huq⟩
  ·rw[dM,az λz=>hij z.1];obtain⟨b,ob,h1,h2,h3,h4,h5,h6⟩:=E.own j w hj hw;subst h1;have hba:b≠a:=λz=>by subst z;exact hij (h6 i ho hi)
   refine⟨b,ob,rfl,?_,h3,by rw[bF hba];exact h4,h5,h6⟩;refine(h2.aJy (P':=λc=>c=b) h3 rfl).keep (λc oc hc hp=>?_) λ_ _=>trivial
   rw[bF]
   ·exact hc
   ·intro z;subst z;rcases hp with hp|hp
    ·exact hba hp.symm
    ·rw[hHa] at hc;cases hc;rw[hma] at hp;cases hp
theorem ES.ownAt(E:ES own H σ ρ)(ho:own i=ae)(hd:ρ.getD i .uD≠.uD):∃a o,σ[i]?=ab (ab (.ref a))/\Rep All H (.ref a) (ρ.getD i .uD)/\inner (ρ.getD i .uD)=ae/\H a=ab o/\RM o=ae:=by
 obtain⟨v,h1,_⟩:=E.at_ i hd;obtain⟨a,o,rfl,h2,h3,h4,h5,_⟩:=E.own i v ho h1;exact⟨a,o,h1,h2,h3,h4,h5⟩
theorem JK{a:ak}(r:Rep All H (.ref a) (.lst xs)):∃vs,H a=ab (.lst vs)/\bL All H vs xs:=by
 cases r with
 |lst e _ r=>exact⟨_,e,r⟩
theorem bL.upd{a:ak}{xs:aa D}{o:HO}{ob:HO}(r:bL All H vs xs)(hp:D.aW xs=ae)(ha:H a=ab ob)(hm:RM ob=ae):bL All (upd H a o) vs xs:=by
 refine(r.bT (P':=λ_=>cv) hp).keep (λc oc hc h=>?_) λ_ h=>h.elim
 rw[bF]
 ·exact hc
 ·intro z;subst z;rcases h with h|h
  ·exact h
  ·rw[ha] at hc;cases hc;rw[hm] at h;cases h
theorem q_:D.aW (xs++ys)=(D.aW xs&&D.aW ys):=by
 induction xs with
 |nil=>simp[D.aW]
 |cons x xs ih=>rw[eg,D.aW,D.aW,ih,Ba]
theorem tZ(ho:own i=ae)(hN:X.N[i]?=ab x)(hv:Vis X.env.scope x)(he:PE X e (gE fe re))(hd:nDb x:=by decide)(hcd:nCd x:=by decide)
 (hbase:i8 (.Name x p1) "append" X.env (bm (.Name x p1) X.env)=bm (.Name x p1) X.env:=by rfl)
 (hs1:bi [e] X.env=(ag,bm e X.env)::bi [] X.env:=by rfl)
 (hfew:((dq cpos (bi [e] X.env)).all (λx=>!x.1)&&(lj cpos (ll [] X.env)).all (λx=>x.1.isSome)
  &&decide (([e]:aa Expr).length+([]:aa jc).length+(if ([]:aa jc).isEmpty then 0 else 1)<30))=ae:=by rfl)
 (hline:(apos.endLine==cpos.line)=ae:=by rfl)
 (hs:eI (.Call (.Attribute (.Name x p1) "append" apos) [e] [] cpos) aj pos.line X.env=pure ag:=by rfl) :
  PS X (.Expr (.Call (.Attribute (.Name x p1) "append" apos) [e] [] cpos) pos) (tS own (yN i fe)):=
 PS.imp (M3 (aBs oQ xh BS vU (jJ hN hv hd hcd) (lJ he tV hs1) hbase hfew hline hs1 rfl) hs) λD' σ H z0=>by
 obtain⟨ρ,fl,E,h,q⟩:=z0;obtain⟨d,h1,h2⟩:=bI h;split at h2
 ·rename_i xs hx;split at h2
  ·rename_i hk;cases h2;rw[bq] at hk;obtain⟨a,o,hσ,r,hin,ha,hm⟩:=E.ownAt ho (by rw[hx];intro z;cases z);rw[hx] at r hin;obtain⟨vs,hl,rr⟩:=JK r;refine⟨_,hσ,.inl ⟨rfl,vs,.of hl⟩,ρ,d,E.er,h1,λv H' s rv _=>⟨a,vs,v,rfl,rfl,s _ _ hl,by rw[rr.length];exact ZK hk.1,?_⟩⟩;have E':=E.same s;have hl':=s _ _ hl;obtain⟨E2,k2⟩:=E'.mut ho hσ rfl (.lst aM trivial (((rr.same s).snoc rv).upd (by rw[q_];simp only[bq];exact⟨hin,by simp[D.aW,hk.2]⟩) hl' rfl)) (by show D.aW (xs++[d])=ae;rw[q_];simp only[bq];exact⟨hin,by simp[D.aW,hk.2]⟩);exact q _ _ ((KU.same s).trans k2) E2
  ·exact bx h2
 ·exact bx h2
end
end Mi
namespace L2
open PySem PySem.Spec PyProof.Rows
section
variable {X:Cx} {scope:f_} {own:aa Str}
theorem aCe{y:Str}{py:bS}{iy:af}(hNn:X.N.Nodup)(hiy:X.N[iy]?=ab y)(hxy:Loc X.env.scope y)(hfy:X.fn y=ae\/X.env.scope.names.lookup y=ab .local){pins:aa (ak×aT)}{σ:St}{D:Ends}{p C:ak}{H5:Hp}{s6:al}{m6:Str->ax ah}(f:Inv X pins σ H5 s6)(k:WR X pins H5 C)(n:s6.heap.Ns C m6)(q:uP iy (.ref p) σ H5 D.nx):mM (av X.prog X.w) X.A X.xe (ab (nE (.Name y py) X.env)) (λ_ s'=>SP X pins D .next s') (.ref p) C (.ok .next) s6:=by
 obtain⟨oC,esC,epC,hoC,hdC,_⟩:=id n;have finP:=f.MP (pins':=pins++[(C,oC)]) λp hp=>(gz.mp hp).elim (λz=>f.pin p (hZ _ z)) λz=>by
  have z':p=(C,oC):=by simpa using z
  subst z';exact⟨hoC,k.1,k.2.1,k.2.2.1,λv z=>by rw[hdC] at z;cases z⟩
 refine thn (bH (pos:=py) hNn hiy hxy hfy _ _ σ H5 (.ref p) (.ref p) D.nx finP rfl q) λ_ s7 ⟨σ7,H7,I7,q7⟩=>?_
 obtain⟨g7,hC7,_⟩:=I7.pin (C,oC) (hZ _ (hZ _ 0x2));refine⟨m6,n.at' λo e=>?_,λh' sb=>⟨σ7,H7,Inv.turned (t':=s7.toks) I7.oV (λb o hb e=>sb.extBut b o hb e) hC7 k.2.1 k.2.2.2.1 k.2.2.2.2.1 k.2.2.2.2.2,q7⟩⟩;rw[hoC] at e;cases e;exact g7
theorem aK0{elt iter tg:Expr}{ifs:aa Expr}{wi:TI}{g:TG}{tc:TT}{te:TE}{pos:bS}(S:cL X.N X.env.scope scope own)(hcalm:X.calm=ae)(hi:PI X tg iter wi)
 (hg:∀X',dF X X' scope own->PG X' tg g)(hc:(ifs=[]/\tc=λ_ H Q=>Q ae H)\/∃c,ifs=[c]/\∀X',dF X X' scope own->PT X' c tc)(he:∀X',dF X X' scope own->PE X' elt te)
 (hs:∀x,fw iter X.env x=pure x){y:Str}{py pos2:bS}{iy:af}(hNn:X.N.Nodup)(hiy:X.N[iy]?=ab y)(hxy:Loc X.env.scope y)(hfy:X.fn y=ae\/X.env.scope.names.lookup y=ab .local)(hsw:eI (.ListComp elt [⟨tg,iter,ifs,0⟩] scope pos) (ab (.Name y py)) pos2.line X.env=pure ae):PS X (.Assign [.Name y py] (.ListComp elt [⟨tg,iter,ifs,0⟩] scope pos) pos2) (aHw (O4 wi g tc te own.length) (uP iy)):=by
 intro pins s σ H D I h;rw[exec_Assign_Name_used _ _ _ _ hsw];refine ao (BT (ao ?_));show wpAny _ X.A (do let _ <- A8 (.ListComp elt [⟨tg,iter,ifs,0⟩] scope pos) scope X.env _ (xA []) ag (bm iter X.env) (ab (nE (.Name y py) X.env))) _ _ s;exact ao (fR (O5 (QQ:=λ_ s'=>SP X pins D .next s') S hcalm hi hg hc he hs I h (aCe hNn hiy hxy hfy)) (λ_ s' hq=>aS (aS hq)) λ_ _ e=>e)
theorem JL{elt iter tg c:Expr}{wi:TI}{g:TG}{tc:TT}{te:TE}{pos:bS}(S:cL X.N X.env.scope scope own)(hcalm:X.calm=ae)(hi:PI X tg iter wi)
 (hg:∀X',dF X X' scope own->PG X' tg g)(hc:∀X',dF X X' scope own->PT X' c tc)(he:∀X',dF X X' scope own->PE X' elt te)
 (hs:∀x,fw iter X.env x=pure x){y:Str}{py pos2:bS}{iy:af}(hNn:X.N.Nodup)(hiy:X.N[iy]?=ab y)(hxy:Loc X.env.scope y)(hfy:X.fn y=ae\/X.env.scope.names.lookup y=ab .local)(hsw:eI (.ListComp elt [⟨tg,iter,[c],0⟩] scope pos) (ab (.Name y py)) pos2.line X.env=pure ae):PS X (.Assign [.Name y py] (.ListComp elt [⟨tg,iter,[c],0⟩] scope pos) pos2) (aHw (O4 wi g tc te own.length) (uP iy)):=
 aK0 S hcalm hi hg (.inr ⟨c,rfl,hc⟩) he hs hNn hiy hxy hfy hsw
theorem aCf{elt iter tg:Expr}{wi:TI}{g:TG}{te:TE}{pos:bS}(S:cL X.N X.env.scope scope own)(hcalm:X.calm=ae)(hi:PI X tg iter wi)
 (hg:∀X',dF X X' scope own->PG X' tg g)(he:∀X',dF X X' scope own->PE X' elt te)
 (hs:∀x,fw iter X.env x=pure x){y:Str}{py pos2:bS}{iy:af}(hNn:X.N.Nodup)(hiy:X.N[iy]?=ab y)(hxy:Loc X.env.scope y)(hfy:X.fn y=ae\/X.env.scope.names.lookup y=ab .local)(hsw:eI (.ListComp elt [⟨tg,iter,[],0⟩] scope pos) (ab (.Name y py)) pos2.line X.env=pure ae):PS X (.Assign [.Name y py] (.ListComp elt [⟨tg,iter,[],0⟩] scope pos) pos2) (aHw (O4 wi g (λ_ H Q=>Q ae H) te own.length) (uP iy)):=
 aK0 S hcalm hi hg (.inl ⟨rfl,rfl⟩) he hs hNn hiy hxy hfy hsw
end
end L2
namespace Mi
open PySem L2 PySem.SeqAt PySem.Spec PyProof.Rows
section
variable [KFrag]
variable {own:af->aq}
section
variable {X:Cx} {a b c e:Expr} {pos pos':bS} {fb fe:FE} {re:aq} {gc:FT} {f g:FS} {st:bP} {s1 s2:aa bP}
variable {scope:f_} {ownN:aa Str} {elt iter tg:Expr} {it:FI} {t:D->Res (aa D)} {gt:TG}
theorem aG1(S:cL X.N X.env.scope scope ownN)(hn:X.N.length=n)(hm:ownN.length=m)(hcalm:X.calm=ae)(hi:PI X tg iter (gI X.K it))(ht:TgC gt t n m)(hg:∀X',dF X X' scope ownN->PG X' tg gt)(he:∀X',dF X X' scope ownN->PE X' elt (gE fe re))
 (hs:∀x,fw iter X.env x=pure x)(ho:own iy=o)(hNn:X.N.Nodup)(hiy:X.N[iy]?=ab y)(hxy:Loc X.env.scope y)(hfy:X.fn y=ae\/X.env.scope.names.lookup y=ab .local)(hsw:eI (.ListComp elt [⟨tg,iter,[],0⟩] scope pos) (ab (.Name y py)) pos2.line X.env=pure ae) :
  PS X (.Assign [.Name y py] (.ListComp elt [⟨tg,iter,[],0⟩] scope pos) pos2) (tS own (bO o iy (cY n it t dC fe re) ae)):=by
 intro pins s σ H D I h;subst hm;refine aCf S hcalm hi hg he hs hNn hiy hxy hfy hsw pins s σ H D I ?_;exact p_ ht (λσ H Q h=>by obtain⟨ρ,b,E,h,q⟩:=h;cases h;exact q H (cG.refl H)) (I.len.trans hn) (B_ ho h)
theorem Z4(S:cL X.N X.env.scope scope ownN)(hn:X.N.length=n)(hm:ownN.length=m)(hcalm:X.calm=ae)(hi:PI X tg iter (gI X.K it))(ht:TgC gt t n m)(hg:∀X',dF X X' scope ownN->PG X' tg gt)(hc:∀X',dF X X' scope ownN->PT X' c (gT gc))(he:∀X',dF X X' scope ownN->PE X' elt (gE fe re))
 (hs:∀x,fw iter X.env x=pure x)(ho:own iy=o)(hNn:X.N.Nodup)(hiy:X.N[iy]?=ab y)(hxy:Loc X.env.scope y)(hfy:X.fn y=ae\/X.env.scope.names.lookup y=ab .local)(hsw:eI (.ListComp elt [⟨tg,iter,[c],0⟩] scope pos) (ab (.Name y py)) pos2.line X.env=pure ae) :
  PS X (.Assign [.Name y py] (.ListComp elt [⟨tg,iter,[c],0⟩] scope pos) pos2) (tS own (bO o iy (cY n it t gc fe re) ae)):=by
 intro pins s σ H D I h;subst hm;refine JL S hcalm hi hg hc he hs hNn hiy hxy hfy hsw pins s σ H D I ?_;exact p_ ht (λσ H Q h=>h) (I.len.trans hn) (B_ ho h)
theorem CG[dg κ]{k:κ}{v:V}(e:p.1=k)(h:k∉r.map (·.1)):putK (p::r) k v=(k,v)::r:=by
 unfold putK;rw[au (by simp[e]),bw,au e,e]
 congr 1
 have:∀q∈r,(λkv:κ×V=>if kv.1=k then (kv.1,v) else kv) q=id q:=λq hq=>by
  have:q.1≠k:=λz=>h (cz.mpr ⟨q,hq,z⟩)
  simp[this]
 rw[ye this,List.map_id]
theorem CJ[dg κ]{k:κ}{v:V}(e:¬p.1=k):putK (p::r) k v=p::putK r k v:=by
 unfold putK;rw[mB,dj e,xj];split
 ·rw[bw,az e]
 ·rfl
theorem jP[dg κ]:∀{kvs:aa (κ×V)},(kvs.map (·.1)).Nodup->((putK kvs k v).map (·.1)).Nodup:=λ{kvs} h=>by
 by_cases hk:yL kvs k=aj
 ·exact aFe v h hk
 ·unfold putK;rw[au (by rw[oZ];exact Option.isSome_iff_ne_none.mpr hk),eD];have:(λx:κ×V=>x.1) ∘ (λkv:κ×V=>if kv.1=k then (kv.1,v) else kv)=λx=>x.1:=by
   funext q
   simp only[C9];split<;>rfl
  rw[this];exact h
theorem vA(rv:Rep P H v d):∀{kvs:aa (Key×V)}{ds:aa (D×D)},i_ P H kvs ds->(kvs.map (·.1)).Nodup->i_ P H (putK kvs k v) (putD ds (kD k) d)
 |_,_,.nil,_=>.cons rv .nil
 |_,_,.cons (k:=k') (v:=v') r t,hn=>by
  rw[bw] at hn;obtain⟨h1,h2⟩:=ff.mp hn;rw[putD,ZP];by_cases h:k'=k
  ·subst h;rw[au 0x2,CG rfl h1];exact .cons rv t
  ·rw[az (by simpa using h),CJ h];exact .cons r (vA rv t h2)
theorem CK(rv:Rep P H v d):∀{kvs:aa (aa Key×V)}{ds:aa (D×D)},oU P H kvs ds->(kvs.map (·.1)).Nodup->oU P H (putK kvs k v) (putD ds (.tup (k.map kD)) d)
 |_,_,.nil,_=>.cons rv .nil
 |_,_,.cons (k:=k') (v:=v') r t,hn=>by
  rw[bw] at hn;obtain⟨h1,h2⟩:=ff.mp hn;rw[putD,aFr];by_cases h:k'=k
  ·subst h;rw[au 0x2,CG rfl h1];exact .cons rv t
  ·rw[az (by simpa using h),CJ h];exact .cons r (CK rv t h2)
theorem i_.length:∀{kvs:aa (Key×V)}{ds:aa (D×D)},i_ P H kvs ds->kvs.length=ds.length
 |_,_,.nil=>rfl
 |_,_,.cons _ t=>by rw[bj,bj,i_.length t]
theorem oU.length:∀{kvs:aa (aa Key×V)}{ds:aa (D×D)},oU P H kvs ds->kvs.length=ds.length
 |_,_,.nil=>rfl
 |_,_,.cons _ t=>by rw[bj,bj,oU.length t]
theorem CN{a:ak}(ha:H a=ab ob)(hm:RM ob=ae):A_ (λ_=>cv) H (L2.upd H a o):=λc oc hc h=>by
 rw[bF]
 ·exact hc
 ·intro z;subst z;rcases h with h|h
  ·exact h.elim
  ·rw[ha] at hc;cases hc;rw[hm] at h;cases h
theorem nT(hd:d.pure=ae):∀{ds:aa (D×D)},D.aW (ds.map (·.2))=ae->D.aW ((putD ds k d).map (·.2))=ae
 |[],_=>by simp[putD,D.aW,hd]
 | (q,w)::r,h=>by
  rw[bw,D.aW,bq] at h;rw[putD];split
  ·rw[bw,D.aW,bq];exact⟨hd,h.2⟩
  ·rw[bw,D.aW,bq];exact⟨h.1,nT hd h.2⟩
theorem aN1{ad:ak}{y v:V}{ds:aa (D×D)}{k d:D}(I:Inv X pins σ H s)(rd:Rep All H (.ref ad) (.dct ds))(hin:D.aW (ds.map (·.2))=ae)(rk:Rep All H y k)(hk:LC ds k=ae)(hl:ds.length<bn)(rv:Rep All H v d)(hd:d.pure=ae) :
  ∃H1 o,Inv X pins σ H1 s/\aDt H1 ad y v (L2.upd H ad o)/\RM o=ae/\Rep All (L2.upd H ad o) (.ref ad) (.dct (putD ds k d)):=by
 unfold LC at hk;rw[bq] at hk;obtain⟨h1,h2⟩:=hk;have rv':Rep (λ_=>cv) H v d:=rv.bT hd;cases rd with
 |@dK _ kvs ds e _ r n=>
  have hlen:=r.length;rcases k_ h1 rk with ⟨q,rfl,rfl⟩|⟨b,ks,rfl,eb,rfl⟩
  ·refine⟨H,.dK (putK kvs q v),I,.k e 0x1,rfl,.dK aM trivial ?_ (jP n)⟩;exact(vA rv' (r.bT hin) n).keep (CN e rfl) λ_ z=>z.elim
  ·cases r with
   |nil=>
    refine⟨L2.upd H ad (.dT []),.dT (putK [] ks v),nR I e,?_,rfl,.dT aM trivial ?_ (jP io)⟩
    ·have:=aDt.t (H:=L2.upd H ad (.dT [])) (a:=ad) (b:=b) (kvs:=[]) (k:=ks) (v:=v) aM (by rw[bF (MN eb e 0x7)];exact eb) hl;rwa [MK] at this
    ·exact(CK (k:=ks) rv' .nil io).keep (CN e rfl) λ_ z=>z.elim
   |cons r t=>
    rw[ik,lQ] at h2;simp[isTup] at h2
 |@dT _ kvs ds e _ r n=>
  have hlen:=r.length;rcases k_ h1 rk with ⟨q,rfl,rfl⟩|⟨b,ks,rfl,eb,rfl⟩
  ·cases r with
   |nil=>
    refine⟨L2.upd H ad (.dK []),.dK (putK [] q v),lA I e,?_,rfl,.dK aM trivial ?_ (jP io)⟩
    ·have:=aDt.k (H:=L2.upd H ad (.dK [])) (a:=ad) (kvs:=[]) (k:=q) (v:=v) aM hl;rwa [MK] at this
    ·exact(vA (k:=q) rv' .nil io).keep (CN e rfl) λ_ z=>z.elim
   |cons r t=>
    rw[ik,lQ] at h2;simp[isTup] at h2
  ·refine⟨H,.dT (putK kvs ks v),I,.t e eb 0x1,rfl,.dT aM trivial ?_ (jP n)⟩;exact(CK rv' (r.bT hin) n).keep (CN e rfl) λ_ z=>z.elim
theorem rP(hu:X.A.units+20<ck)(ho:own i=ae)(hN:X.N[i]?=ab x)(hvi:Vis X.env.scope x)(hk:PE X k (gE fk rk))(hv:PE X value (gE fv rv))
 (hs:eI value (ab (.Subscript (.Name x p1) k pos')) pos.line X.env=pure ag:=by rfl)(hd:nDb x:=by decide)(hcd:nCd x:=by decide) :
  PS X (.Assign [.Subscript (.Name x p1) k pos'] value pos) (tS own (xU i fk fv)):=by
 rintro pins s σ H D' I ⟨ρ,fl,E,h,q⟩;obtain⟨d,h0,h⟩:=bI h;obtain⟨kd,h1,h2⟩:=bI h;split at h2
 ·rename_i kvs hx;split at h2
  ·rename_i hg;cases h2;simp only[bq] at hg;obtain⟨⟨hg1,hg2⟩,hg3⟩:=hg;obtain⟨a,o,hσ,r,hin,ha,hm⟩:=E.ownAt ho (by rw[hx];intro z;cases z);rw[hx] at r hin;refine wpAny_Assign_Subscript (thn (hv pins s σ H (λv H1=>cG H H1/\Rep All H1 v d) I ⟨ρ,d,E.er,h0,λv H1 s1 r1 _=>⟨s1,r1⟩⟩) λrr s1 ⟨v,H1,I1,rv1,sm1,rp1⟩=>
    thn (jJ hN hvi hd hcd pins s1 σ H1 (λw H2=>w=.ref a/\H2=H1) I1 ⟨_,hσ,rfl,rfl⟩) λu s2 ⟨xx,H2,I2,rx,ex,eH⟩=>
    thn (hk pins s2 σ H2 (λw H3=>cG H2 H3/\Rep All H3 w kd) I2 ⟨ρ,kd,by rw[eH];exact E.er.same sm1,h1,λv H1 s1 r1 _=>⟨s1,r1⟩⟩) λiv s3 ⟨y,H3,I3,ry,sm3,rp3⟩=>?_) hs
   subst ex eH;obtain rfl:u=fq a:=rx;have sm:=sm1.trans sm3;obtain⟨H4,o4,I4,g,hmo,rp⟩:=aN1 I3 (r.same sm) hin rp3 hg2 (ZK hg1) (rp1.same sm3) hg3;obtain⟨E2,k2⟩:=(E.same sm).mut ho hσ hmo rp (nT hg3 hin);exact YC 0x1 I4 g ry rv1 λs4 I5=>⟨σ,_,I5,q _ _ ((KU.same sm).trans k2) E2⟩
  ·exact bx h2
 ·exact bx h2
def TgS(own:af->aq)(g:TG)(t:D->aa D->Res (aa D)):Prop:=∀(v:V)(d:D)(ρ ρ':aa D)(σ:L2.St)(H:Hp)(Q:L2.St->Hp->Prop),ES own H σ ρ->Rep (λa=>¬Own own σ a) H v d->t d ρ=.ok ρ'->
 (∀σ',ES own H σ' ρ'->(∀a,Own own σ' a↔Own own σ a)->Q σ' H)->g v σ H Q
theorem gR(ho:own i=ag):TgS own (uP i) (tg1 i):=λv d ρ ρ' σ H Q E r h q=>by
 cases h;exact q _ (E.set ho r) λa=>lU ho a
theorem ES.sets:∀{is:aa af}{vs:aa V}{ds:aa D}{σ:L2.St}{ρ:aa D},(∀i∈is,own i=ag)->ES own H σ ρ->bL (λa=>¬Own own σ a) H vs ds->ES own H (mX is vs σ) (Y0 is ds ρ)/\∀a,Own own (mX is vs σ) a↔Own own σ a
 |[],_,_,_,_,_,E,_=>by simp only[mX,Y0];exact⟨E,λ_=>trivial⟩
 |i::is,_,_,σ,ρ,h,E,.nil=>by simp only[mX,Y0];exact⟨E,λ_=>trivial⟩
 |i::is,_,_,σ,ρ,h,E,.cons (v:=v) r t=>by
  have ho:=h i (b6 ..);have hO:(λa=>¬Own own (σ.set i (ab v)) a)=λa=>¬Own own σ a:=funext λa=>by rw[lU ho]
  obtain⟨h1,h2⟩:=ES.sets (λj hj=>h j (cg _ hj)) (E.set ho r) (by rw[hO];exact t);exact⟨h1,λa=>(h2 a).trans (lU ho a)⟩
theorem CP(K:br)(ho:∀i∈is,own i=ag):TgS own (aM8 K is.length (gIx is)) (tgN is):=λv d ρ ρ' σ H Q E r h q=>by
 cases d<;>simp only[tgN] at h<;>(try (exact bx h;done))
 split at h
 ·rename_i hl;cases h;have hl':=eW hl;obtain⟨a,xs,rfl,e,rr⟩:=r.eU;obtain⟨h1,h2⟩:=E.sets ho rr;exact⟨a,xs,rfl,.of e,by rw[rr.length];exact hl',PJ _ _ _ (by rw[rr.length];exact hl') (q _ h1 h2)⟩
 ·exact bx h
theorem ItQ.ku{K:br}(h:ItQ K (λa=>¬Own own σ a) J H items)(k:KU own σ H σ' H')(E:ES own H σ ρ):ItQ K (λa=>¬Own own σ' a) J H' items:=h.keep' (k.keep E) λa o e n=>(k a o e n).2
theorem R7{K:br}{g:TG}{t:D->aa D->Res (aa D)}{body:FS}{D':Ends}{J:It}{items:aa D}{σ:L2.St}{H1:Hp}{ρ:aa D}{fl:Fl}(tg:TgS own g t)(E:ES own H1 σ ρ)(hJ:ItQ K (λa=>¬Own own σ a) J H1 items)(hf:uV t body items ρ=.ok fl)(q:kS own D' σ H1 fl) :
  ∃W:af->af->L2.St->Hp->Prop,(∃m,W 0 m σ H1)/\∀i m σ H,W i m σ H->
   (J.stop i H/\D'.nx σ H)\/(J.go i H/\∃N:L2.St->Hp->Prop,(∀σ' H',N σ' H'->∃m',m'<m/\W (i+1) m' σ' H')/\∀x H',J.yld i H x H'->g x σ H' λσ2 H2=>tS own body {D' with nx:=N,ct:=N,bk:=D'.nx} σ2 H2):=by
 refine⟨λi m σ' H'=>m=items.length-i/\i<=items.length/\ItQ K (λa=>¬Own own σ' a) J H' items/\∃ρ',ES own H' σ' ρ'/\uV t body (items.drop i) ρ'=.ok fl/\kS own D' σ' H' fl,⟨items.length,rfl,di _,hJ,ρ,E,hf,q⟩,?_⟩;rintro i m σ' H' ⟨rfl,hi,hJ',ρ',E',hf',q'⟩;rcases t0 i items.length with hlt|hge
 ·refine .inr ?_;have e:items[i]?=ab items[i]:=eh hlt;obtain⟨g1,g2⟩:=hJ'.go e;rw[jI hlt] at hf';obtain⟨ρ1,h1,hf2⟩:=bI hf';obtain⟨r,h2,hf3⟩:=bI hf2;refine⟨g1,λσ2 H2=>ItQ K (λa=>¬Own own σ2 a) J H2 items/\∃ρ',ES own H2 σ2 ρ'/\uV t body (items.drop (i+1)) ρ'=.ok fl/\kS own D' σ2 H2 fl,λσ2 H2 ⟨n1,n2⟩=>⟨items.length-(i+1),by lia,rfl,hlt,n1,n2⟩,λx H2 hy=>?_⟩;obtain⟨sH,rx⟩:=g2 x H2 hy;have ks:KU own σ' H' σ' H2:=λa o e n=>⟨sH a o e,n⟩
  have hJ':=hJ'.ku ks E';have q':=q'.step ks;have E':=E'.same sH;refine tg x items[i] ρ' ρ1 σ' H2 _ E' rx h1 λσ2 E2 hO=>?_
  have k0:KU own σ' H2 σ2 H2:=λa o e n=>⟨e,by rw[hO];exact n⟩
  have hJ2:=hJ'.ku k0 E';have q2:=q'.step k0;refine⟨ρ1,r,E2,h2,?_⟩;cases r with
  |nx ρ2=>exact λσ3 H3 k3 E3=>⟨hJ2.ku k3 E2,ρ2,E3,hf3,q2.step k3⟩
  |ct ρ2=>exact λσ3 H3 k3 E3=>⟨hJ2.ku k3 E2,ρ2,E3,hf3,q2.step k3⟩
  |bk ρ2=>cases hf3;exact λσ3 H3 k3 E3=>q2 σ3 H3 k3 E3
  |rt d=>cases hf3;exact q2
 ·refine .inl ⟨hJ'.stop hge,?_⟩;rw[mT hge] at hf';cases hf';exact q' σ' H' (λa o e n=>⟨e,n⟩) E'
theorem lB{tg iter:Expr}{body:aa bP}{g:TG}{t:D->aa D->Res (aa D)}{it:FI}{fb:FS}(hp:nK (av X.prog X.w) X.A X.env X.xe)(hc:X.calm=ae)(hi:PI X tg iter (gI X.K it))(ht:TgS own g t)(hg:PG X tg g)(hb:PSs X body (tS own fb))
 (hs:∀x,fw iter X.env x=pure x:=by intro _;rfl):PS X (.For tg iter body [] pos) (tS own (uW it t fb)):=PS.imp (aDo hp hc hi hg hb hs) λD' σ H z0=>by
 obtain⟨ρ,fl,E,h,q⟩:=z0;obtain⟨⟨items,k⟩,h1,h2⟩:=bI h;split at h2
 ·rename_i hk;exact⟨ρ,items,k,E.er,h1,λJ H1 s1 _ hJ=>R7 ht (E.same s1) ((hJ hk).keep (λ_ _ e _=>e) λa ha ho=>by
   obtain⟨o,e1,_⟩:=E.live ho;rw[show H a=aj from ha] at e1;cases e1) h2 (q.step (.same s1))⟩
 ·exact bx h2
theorem CQ{g:TG}{t:D->aa D->Res (aa D)}{i:af}{x:Str}{px:bS}{fb:FS}(ho:own i=ag)(hp:nK (av X.prog X.w) X.A X.env X.xe)(hc:X.calm=ae)(hN:X.N[i]?=ab x)(hv:Vis X.env.scope x)(ht:TgS own g t)(hg:PG X tg g)(hb:PSs X body (tS own fb))
 (hs:∀z,fw (.Name x px) X.env z=pure z:=by intro _;rfl)(hd:nDb x:=by decide)(hcd:nCd x:=by decide):PS X (.For tg (.Name x px) body [] pos) (tS own (wF i t fb)):=PS.imp (aDo hp hc (aJx hN hv hd hcd) hg hb hs) λD' σ H z0=>by
 obtain⟨ρ,fl,E,h,q⟩:=z0;obtain⟨d,h1,h⟩:=bI h;obtain⟨items,h2,h3⟩:=bI h;obtain⟨v,hv,r,e⟩:=E.er.var h1;have hne:ρ.getD i .uD≠.uD:=λz=>by
  rw[z] at e;subst e;exact Rep.uD r
 obtain⟨w,hw,hr⟩:=E.at_ i hne;rw[hv] at hw;cases hw;have r2:=hr ho;rw[e] at r2;exact⟨v,d,items,hv,r,h2,λJ hJ=>R7 ht E (hJ _ r2) h3 q⟩
theorem aCg{N ps:aa Str}(hst:start N vs=vs.map ab++bX (N.length-ps.length) aj)(hl:ds.length=ps.length)(r:bL All H vs ds)(hown:∀i,i<ps.length->own i=ag)(noown:∀a,¬Own own (start N vs) a):ES own H (start N vs) (ds++bX (N.length-ps.length) .uD):=by
 refine⟨by rw[hst];simp[r.length],λi hi=>?_,λi v hi hv=>?_⟩
 ·have hlt:i<ds.length:=uh λhge=>hi (by
   rw[c9,ic hge,ky];split<;>rfl)
  have e:(ds++bX (N.length-ps.length) D.uD).getD i .uD=ds[i]:=by
   rw[c9,ir hlt,eh hlt];rfl
  obtain⟨v,g1,g2⟩:=r.get (i:=i) (d:=ds[i]) (by simp[hlt]);refine⟨v,by rw[hst,ir (by simp[r.length,hlt])];simp[g1],λ_=>?_⟩;rw[e];exact g2.mono λa _=>noown a
 ·exfalso;rw[hst] at hv;by_cases h:i<ps.length
  ·rw[hown i h] at hi;cases hi
  ·rw[ic (by simp[r.length,hl];lia)] at hv;rw[ky] at hv;split at hv<;>cases hv
theorem Z5{N ps:aa Str}{f:FS}{vs:aa V}{H:Hp}{Q:VK}{E:XK}(hx:own rtX=ag)(hown:∀i,i<ps.length->own i=ag)(h0:spD (fnS ps.length N.length f) ps.length vs H Q E):tS own f {nx:=λ_ H'=>Q .non H',rt:=Q} (start N vs) H:=by
 obtain⟨ds,d,hl,r,h,q⟩:=h0
 ·obtain⟨fl,h1,h2⟩:=bI h;have hst:start N vs=vs.map ab++bX (N.length-ps.length) aj:=by
   show vs.map ab++bX (N.length-vs.length) aj=_;rw[r.length,hl]
  have noown:∀a,¬Own own (start N vs) a:=λa z0=>by
   obtain⟨i,hi,e⟩:=z0;rw[hst] at e;by_cases h:i<ps.length
   ·rw[hown i h] at hi;cases hi
   ·rw[ic (by simp[r.length,hl];lia)] at e;rw[ky] at e;split at e<;>cases e
  have E0:ES own H (start N vs) (ds++bX (N.length-ps.length) .uD):=aCg hst hl r hown noown;refine⟨_,fl,E0,h1,?_⟩;have sm:∀{σ':L2.St}{H':Hp},KU own (start N vs) H σ' H'->cG H H':=λk a o e=>(k a o e (noown a)).1
  cases fl with
  |nx ρ'=>cases h2;exact λσ' H' k E'=>q .non H' (sm k) .non λ_=>.non
  |rt d'=>
   cases h2;refine kRt.mk hx λv H' hk rp=>q v H' (λa o e=>hk a o e (noown a)) rp.all λ_=>rp.mono λa ha=>?_
   rcases ha with ha|ha
   ·exact bg ha (noown a)
   ·exact ha
  |bk ρ'=>exact bx h2
  |ct ρ'=>exact bx h2
theorem aK1{w:bh}{K:br}{mg:Str->ax ah}{base:aI}{x qual:Str}{st:bP}{fad:ak}{fd:d5}{N ps:aa Str}{k:af}{f:FS}(F:Fun K x qual st fad fd)(S:cF N ps (aO st))(own:af->aq)(hown:∀i,i<ps.length->own i=ag)(hNl:ps.length<=N.length)
 (hbody:∀(cdv:ah) (A:bu) (outer:aa dn) (s:al) (H:Hp) (E:XK),mJ k (A.deeper (gS qual (aO st) s.heap.objs.size fad cdv))->PSs (XQ CX0 P w K mg base N qual (aO st) fad cdv A outer s H E).nox (d8 st) (tS own f))(hx:own rtX=ag:=by rfl):uQ P w K mg base CX0 (k+1) fad fd ps (spD (fnS ps.length N.length f) ps.length):=
 F.ok S (λvs H Q E h=>ZX h) λcdv A outer s H vs Q E hr h=>⟨_,hbody cdv A outer s H E hr,Z5 hx hown h⟩
end
end
variable [KFrag]
structure aN2 where
 s₀:al
 H₀:Hp
 env:dn
 outer:aa dn
 stack:aa dn
 ex:aa ak
 fn:Str->aq
 pn:aa (ak×aT)
abbrev mkC(X:Cx)(scope:f_)(ownN:aa Str)(y:aN2):Cx:=
 {X with N:=X.N.map (gJ ownN)++ownN,s₀:=y.s₀,H₀:=y.H₀,env:={y.env with scope:=ji scope X.env},outer:=y.outer,stack:=y.stack,ex:=y.ex,fn:=y.fn,pn:=y.pn,xe:=λ_ _=>cv}
theorem lC(cc:dF X X' scope ownN):∃y,X'=mkC X scope ownN y:=by
 refine⟨⟨X'.s₀,X'.H₀,X'.env,X'.outer,X'.stack,X'.ex,X'.fn,X'.pn⟩,?_⟩;obtain⟨h1,h2,h3,h4,h5,h6,h7,h8,h9,h10⟩:=cc;cases X' with
 |mk a b c d e f g h i j k l m n o p q=>
  cases j;dsimp only at *;subst h1 h2 h3 h4 h5 h6 h7 h8 h9 h10;rfl
section
theorem fZ(S:cL X.N X.env.scope scope ownN)(hn:X.N.length=n)(hm:ownN.length=m)(hcalm:X.calm=ae)(hi:PI X tg iter (gI X.K it))(ht:TgC g t n m)(hg:∀y,PG (mkC X scope ownN y) tg g)(he:∀y,PE (mkC X scope ownN y) elt (gE fe re))
 (hs:∀x,fw iter X.env x=pure x):PE X (.ListComp elt [⟨tg,iter,[],0⟩] scope pos) (gE (cY n it t dC fe re) ae):=
 aFz S hn hm hcalm hi ht (λX' cc=>by obtain⟨y,rfl⟩:=lC cc;exact hg y) (λX' cc=>by obtain⟨y,rfl⟩:=lC cc;exact he y) hs
theorem V3(S:cL X.N X.env.scope scope ownN)(hn:X.N.length=n)(hm:ownN.length=m)(hcalm:X.calm=ae)(hi:PI X tg iter (gI X.K it))(ht:TgC g t n m)(hg:∀y,PG (mkC X scope ownN y) tg g)(hc:∀y,PT (mkC X scope ownN y) c (gT gc))(he:∀y,PE (mkC X scope ownN y) elt (gE fe re))
 (hs:∀x,fw iter X.env x=pure x):PE X (.ListComp elt [⟨tg,iter,[c],0⟩] scope pos) (gE (cY n it t gc fe re) ae):=
 Z0 S hn hm hcalm hi ht (λX' cc=>by obtain⟨y,rfl⟩:=lC cc;exact hg y) (λX' cc=>by obtain⟨y,rfl⟩:=lC cc;exact hc y) (λX' cc=>by obtain⟨y,rfl⟩:=lC cc;exact he y) hs
theorem vB(S:cL X.N X.env.scope scope ownN)(hn:X.N.length=n)(hm:ownN.length=m)(hcalm:X.calm=ae)(hi:PI X tg iter (gI X.K it))(ht:TgC g t n m)(hg:∀y,PG (mkC X scope ownN y) tg g)(he:∀y,PE (mkC X scope ownN y) elt (gE fe re))
 (hs:∀x,fw iter X.env x=pure x)(ho:own iy=o)(hNn:X.N.Nodup)(hiy:X.N[iy]?=ab y)(hxy:Loc X.env.scope y)(hfy:X.fn y=ae\/X.env.scope.names.lookup y=ab .local)(hsw:eI (.ListComp elt [⟨tg,iter,[],0⟩] scope pos) (ab (.Name y py)) pos2.line X.env=pure ae) :
  PS X (.Assign [.Name y py] (.ListComp elt [⟨tg,iter,[],0⟩] scope pos) pos2) (tS own (bO o iy (cY n it t dC fe re) ae)):=
 aG1 S hn hm hcalm hi ht (λX' cc=>by obtain⟨y,rfl⟩:=lC cc;exact hg y) (λX' cc=>by obtain⟨y,rfl⟩:=lC cc;exact he y) hs ho hNn hiy hxy hfy hsw
theorem yR(S:cL X.N X.env.scope scope ownN)(hn:X.N.length=n)(hm:ownN.length=m)(hcalm:X.calm=ae)(hi:PI X tg iter (gI X.K it))(ht:TgC g t n m)(hg:∀y,PG (mkC X scope ownN y) tg g)(hc:∀y,PT (mkC X scope ownN y) c (gT gc))(he:∀y,PE (mkC X scope ownN y) elt (gE fe re))
 (hs:∀x,fw iter X.env x=pure x)(ho:own iy=o)(hNn:X.N.Nodup)(hiy:X.N[iy]?=ab y)(hxy:Loc X.env.scope y)(hfy:X.fn y=ae\/X.env.scope.names.lookup y=ab .local)(hsw:eI (.ListComp elt [⟨tg,iter,[c],0⟩] scope pos) (ab (.Name y py)) pos2.line X.env=pure ae) :
  PS X (.Assign [.Name y py] (.ListComp elt [⟨tg,iter,[c],0⟩] scope pos) pos2) (tS own (bO o iy (cY n it t gc fe re) ae)):=
 Z4 S hn hm hcalm hi ht (λX' cc=>by obtain⟨y,rfl⟩:=lC cc;exact hg y) (λX' cc=>by obtain⟨y,rfl⟩:=lC cc;exact hc y) (λX' cc=>by obtain⟨y,rfl⟩:=lC cc;exact he y) hs ho hNn hiy hxy hfy hsw
end
noncomputable def aG2:FS:=λ_=>.bad
theorem Z6{st:bP}:PS X st (tS own aG2):=λpins s σ H D I h=>by
 obtain⟨_,_,_,h,_⟩:=h;exact bx h
def dI(P:bp)(w:bh)(K:br)(mg:Str->ax ah)(base:aI)(k:af)(x:Str)(n:af)(f:aa D->Res D):Prop:=
 ∃(fad:ak)(fd:d5)(ps:aa Str),uQ P w K mg base CX0 k fad fd ps (spD f n)/\mg x=ab (.ref fad)/\ju K (.ref fad)=ae/\Binds K fd ps []
section
theorem aY(C:dI X.prog X.w X.K X.mg X.base k x n f)(hr:mJ k' X.A)(hkk:k<=k')(hg:Gl X x)(ha:PA X (e::es) (gA fs rr))(hdb:nDb x:=by decide)(he:bi (e::es) X.env=(ag,bm e X.env)::bi es X.env:=by rfl)(hpl:(dq pos (bi es X.env)).any (·.1)=ag:=by rfl) :
  PE X (.Call (.Name x p) (e::es) [] pos) (gE (aK (bV n f) fs) ae):=by
 obtain⟨fad,fd,ps,F,hm,hk,hb⟩:=C;exact aFx F (hr.mono hkk) hg hm hk hb ha hdb he hpl
theorem jQ{K:br}{st:bP}{fad:ak}{fd:d5}{N ps:aa Str}{fs:FS}(F:Fun K x x st fad fd)(hm:mg x=ab (.ref fad))(hb:Binds K fd ps [])(S:cF N ps (aO st))(own:af->aq)(hown:∀i,i<ps.length->own i=ag)(hNl:ps.length<=N.length)
 (hbody:∀(cdv:ah) (A:bu) (outer:aa dn) (s:al) (H:Hp) (E:XK),mJ k (A.deeper (gS x (aO st) s.heap.objs.size fad cdv))->PSs (XQ CX0 P w K mg base N x (aO st) fad cdv A outer s H E).nox (d8 st) (tS own fs))(hx:own rtX=ag:=by rfl):dI P w K mg base (k+1) x ps.length (fnS ps.length N.length fs):=
 ⟨fad,fd,ps,aK1 F S own hown hNl hbody hx,hm,F.kp,hb⟩
end
theorem yS(hr:mJ k A):A.units+20<ck:=yk (Nat.add_le_add_left (by decide:20<=64) _) hr.units
structure Bt(mg:Str->ax ah):Prop where
 len:mg "len"=aj
 min:mg "min"=aj
 max:mg "max"=aj
 list:mg "list"=aj
 tuple:mg "tuple"=aj
 sorted:mg "sorted"=aj
 range:mg "range"=aj
 isi:mg "isinstance"=aj
 int:mg "int"=aj
 bool:mg "bool"=aj
 str:mg "str"=aj
 dict:mg "dict"=aj
 all:mg "all"=aj
 enum:mg "enumerate"=aj
 sum:mg "sum"=aj
 zip:mg "zip"=aj
 abs:mg "abs"=aj
 reversed:mg "reversed"=aj
theorem cQ:dS "len"=ab (.builtin "len"):=by decide +kernel
theorem aK2:dS "min"=ab (.builtin "min"):=by decide +kernel
theorem R8:dS "max"=ab (.builtin "max"):=by decide +kernel
theorem wQ:dS "sorted"=ab (.builtin "sorted"):=by decide +kernel
theorem cT:dS "isinstance"=ab (.builtin "isinstance"):=by decide +kernel
theorem Z7:dS "list"=ab (.type "list"):=by decide +kernel
theorem dN:dS "tuple"=ab (.type "tuple"):=by decide +kernel
theorem aE1:dS "int"=ab (.type "int"):=by decide +kernel
theorem aG3:dS "bool"=ab (.type "bool"):=by decide +kernel
theorem aK3:dS "str"=ab (.type "str"):=by decide +kernel
theorem ints_rep:∀ns:aa ai,bL P H (ns.map V.int) (ns.map D.int)
 |[]=>.nil
 |n::ns=>.cons (.int n) (ints_rep ns)
end Mi
namespace Mi
open PySem L2
theorem Z8{ns:aa ai}{E:XK}(main:∀ns:aa ai,ns.length<=63->f [.scr (ns.map D.int)]=.ok (.bl ae))(hl:ns.length<=63)(hO:Only H)(hS:SqL K H a (ns.map V.int)):@spD ⟨K⟩ f 1 [.ref a] H (λv _=>v=.bl ae) E:=by
 letI:KFrag:=⟨K⟩
 refine⟨[.scr (ns.map D.int)],.bl ae,rfl,.cons (.frz ?_ (ints_rep ns)) .nil,main ns hl,λv H' s r n=>by cases r.inv;rfl⟩;rcases hS with (h|⟨o,h⟩)|h
 ·rcases hO a with z|⟨o,xs,z⟩
  ·rw[h] at z;cases z
  ·rw[h] at z;cases z
 ·exact .inl ⟨o,h⟩
 ·exact .inr h
open PySem.SeqAt PySem.Spec PyProof.Rows
def mY:D->D->Res D
 |.str x,.int n=>if decide (0<=n)&&decide (n<=100000)&&decide (x.length*n.toNat<=lim) then .ok (.str (l8 x n)) else .bad
 |a,b=>a_ .mul a b
def inX:D->D->Res D
 |.str c,.str x=>.ok (.bl (!(Ap x c 0 x.length 1).isEmpty))
 |a,b=>b7 .isin a b
def aI3:D->ax ai->ax ai->Res D
 |.str x,lo,hi=>if decide (x.length<=lim) then .ok (.str (um x lo hi)) else .bad
 |d,lo,hi=>aI0 d lo hi
def aG4(a:FE)(lo hi:aa D->Res (ax ai)):FE:=λρ=>do let x <- a ρ;let l <- lo ρ;let h <- hi ρ;aI3 x l h
def JM:D->Res (aa D)
 |.str x=>if decide (x.length<=lim) then .ok (JF x) else .bad
 |d=>wC d
def bM(a:FE)(fr:aq):FI:=λρ=>do let x <- a ρ;let xs <- JM x;pure (xs,fr||x.pure)
variable [KFrag]
section
variable {X:Cx}
theorem iM:OpR X (fy .Mult) (r2 mY ae):=by
 rintro pins s σ H x y v u Q I rx ry ⟨a,b,d,p,q,e,k⟩;by_cases hs:∃z n,a=.str z/\b=.int n
 ·obtain⟨z,n,rfl,rfl⟩:=hs;simp only[mY] at e;split at e
  ·rename_i hl;cases e;simp only[bq,fF] at hl;obtain⟨⟨h0,h1⟩,h2⟩:=hl;cases p.inv;cases q.inv;obtain⟨t,rfl⟩:=rx;obtain⟨t',rfl⟩:=ry;have hz:z.length*n.toNat<=bn:=dw h2 (by rw[dE];decide);refine SB.mul ⟨?_,λh3 _=>?_,λ_ _=>?_⟩ λt2 k2=>⟨.str _,H,I.tok k2,⟨t2,rfl⟩,k.str⟩
   ·rw[dj 0x1,dj 0x1];rfl
   ·have hn:0<n:=by lia
    have h4:(z.length:ai)*n<=2 ^ 63-1:=by
     have h5:((z.length*n.toNat:af):ai)<=1000000:=by
      have:lim=1000000:=by unfold lim;exact Eq.refl _
      lia
     rw[Int.natCast_mul,Int.toNat_of_nonneg h0] at h5;lia
    have h6:=(Int.le_ediv_iff_mul_le hn).mpr h4;lia
   ·unfold Da;exact dj 0x1
  ·exact bx e
 ·have he:mY a b=a_ .mul a b:=by
   unfold mY;split
   ·exact bg ⟨_,_,rfl,rfl⟩ hs
   ·rfl
  rw[he] at e;exact aJp pins s σ H x y v u Q I rx ry ⟨a,b,d,p,q,e,k⟩
theorem t6(hu:X.A.units+20<ck):OpR X (c6 .In) (r2 inX ae):=by
 rintro pins s σ H x y v u Q I rx ry ⟨a,b,d,p,q,e,k⟩;by_cases hs:∃z n,a=.str z/\b=.str n
 ·obtain⟨z,n,rfl,rfl⟩:=hs;cases e;cases p.inv;cases q.inv;exact XH pins s σ H _ _ v u Q I rx ry ⟨_,_,rfl,rfl,k.bl⟩
 ·have he:inX a b=b7 .isin a b:=by
   unfold inX;split
   ·exact bg ⟨_,_,rfl,rfl⟩ hs
   ·rfl
  rw[he] at e;exact aMv hu pins s σ H x y v u Q I rx ry ⟨a,b,d,p,q,e,k⟩
theorem part_of(h:jv v o):∃l:ax (ai×eB),partValue l=v/\l.map (·.1)=o:=by
 cases h with
 |none=>exact⟨aj,rfl,rfl⟩
 |int i t=>exact⟨ab (i,t),rfl,rfl⟩
theorem aK4(hK:KFrag.K=X.K):SlR X (λx lo hi H Q=>∃a d,Rep All H x a/\aI3 a lo hi=.ok d/\kR H d ae Q):=by
 rintro pins s σ H x v vl vu lo hi sl Q I rx hs pl pu ⟨a,d,p,e,k⟩;by_cases hz:∃z,a=.str z
 ·obtain⟨z,rfl⟩:=hz;simp only[aI3] at e;split at e
  ·rename_i hl;cases e;cases p.inv;obtain⟨t,rfl⟩:=rx;obtain⟨l,e1,e2⟩:=part_of pl;obtain⟨m,e3,e4⟩:=part_of pu;subst e1 e2 e3 e4;refine⟨"str",_,F.slot_str_getitem.lookup,xc _ _ _,?_⟩;obtain⟨o,ho,hc,hd⟩:=hs;refine wpAny_getItem_str_slice (st:=aj) ⟨o,ho,hc,hd⟩ rfl ?_;have hle:(um z (l.map (·.1)) (m.map (·.1))).length<=bn:=dw (Txt.slice_le ..) (nQ hl);have q:∀(t':eB)(k2:af),EP X pins σ Q (.str (um z (l.map (·.1)) (m.map (·.1))) t') {s with toks:=k2}:=λt' k2=>⟨.str _,H,I.tok k2,⟨t',rfl⟩,k.str⟩
   show Made.post (if ((1:ai)==1&&(BU (l.map (·.1)) (m.map (·.1)) 1 z.length).length==z.length)=ae then .val (.str z t) else .str ⟨((BU (l.map (·.1)) (m.map (·.1)) 1 z.length).filterMap (z.cps[·]?)).toArray⟩) _ s;unfold um at hle q;split
   ·rename_i hh;have:=q t s.toks;rw[au hh] at this;exact this
   ·rename_i hh;rw[az hh] at hle;have:=q s.toks (s.toks+1);rw[az hh] at this;exact⟨hle,this⟩
  ·exact bx e
 ·have he:aI3 a lo hi=aI0 a lo hi:=by
   unfold aI3;split
   ·exact bg ⟨_,rfl⟩ hz
   ·rfl
  rw[he] at e;exact aMy hK pins s σ H x v vl vu lo hi sl Q I rx hs pl pu ⟨a,d,p,e,k⟩
theorem aE2{lo hi:ax Expr}{p2:bS}{fl fh:aa D->Res (ax ai)}(hK:KFrag.K=X.K)(he:PE X e (gE fe re))(hl:PO X lo (gO fl))(hh:PO X hi (gO fh)):PE X (.Subscript e (.Slice lo hi aj p2) pos) (gE (aG4 fe fl fh) ae):=
 PE.imp (aBr (aK4 hK) he hl hh) λσ H Q z0=>by
  obtain⟨ρ,d,E,h,q⟩:=z0;obtain⟨x,h1,h⟩:=bI h;obtain⟨l,h2,h⟩:=bI h;obtain⟨u,h3,h⟩:=bI h;exact⟨ρ,x,E,h1,λv H1 s1 r1 _=>⟨ρ,l,E.same s1,h2,λH2 s2=>⟨ρ,u,E.same (s1.trans s2),h3,λH3 s3=>⟨x,d,r1.same (s2.trans s3),h,q.imp ((s1.trans s2).trans s3) id⟩⟩⟩⟩
theorem aCh{K:br}(x:Str)(t:eB)(it:ak):Turn P w K tg (aMz x) [it] it (λi h=>h.IsStrIter it (gq x) x t i) where
 mem:=by simp
 obj:=λi h st b hb=>by
  have e:b=it:=by simpa using hb
  subst e;obtain⟨o,e,c,d⟩:=st;exact⟨o,e,λv z=>by rw[d] at z;cases z⟩
 keep:=λi h h' st k=>by
  obtain⟨o,e,r⟩:=st;exact⟨o,k it 0x2 o e,r⟩
 item:=by
  intro Y hP hw hK hc i pins s σ H E I hf st hg;subst hP hw hK;obtain⟨f0,f1,f2,f3,f4,f5⟩:=hf it 0x2;have hx:x.cps[i]?=ab x.cps[i]:=uo hg;have fin:∀(h':aI)(ty:dy),(["enumerate","zip","dict_itemiterator","dict_reverseitemiterator","odict_iterator","itertools.zip_longest","itertools.pairwise"].contains ty=ag)->gq x=ty->h'.IsStrIter it ty x t (i+1)->hG it s.heap h'->
    ∃u,ab (nu ⟨#[x.cps[i]]⟩ s.toks)=ab u/\wpAny (av Y.prog Y.w) Y.A (nL tg (.ref it) u) (λ_ s2=>∃v H',Inv Y pins σ H' s2/\RelV v u/\(aMz x).yld i H v H'/\s2.heap.IsStrIter it (gq x) x t (i+1)/\∀b∈[it],H' b=aj) E {s with heap:=h',toks:=s.toks+1}:=by
   intro h' ty hn hty st' sb;have I1:Inv Y pins σ H {s with heap:=h',toks:=s.toks+1}:=I.turned (λb o hb e=>(sb.2 b hb).trans e) f0 f1 f3 f4 f5;obtain⟨o,e,c,d⟩:=id st';exact⟨_,rfl,W8 e c d hn ⟨.str ⟨#[x.cps[i]]⟩,H,I1,⟨_,rfl⟩,⟨rfl,_,hx,rfl⟩,by rw[hty];exact st',λb hb=>(hf b hb).1⟩⟩
  cases ha:x.cps.all (·<128)
  ·have hty:gq x="str_iterator":=by simp[gq,ha]
   rw[hty] at st;exact wpAny_pyNext_wide_item st hx λh' st' sb=>fin h' _ 0x4 hty st' sb
  ·have hty:gq x="str_ascii_iterator":=by simp[gq,ha]
   rw[hty] at st;exact wpAny_pyNext_ascii_item st hx λh' st' sb=>fin h' _ 0x4 hty st' sb
 done:=by
  intro Y hP hw hK hc i pins s σ H E I hf st hg;subst hP hw hK;obtain⟨f0,f1,f2,f3,f4,f5⟩:=hf it 0x2;have hx:x.cps[i]?=aj:=oS hg;cases ha:x.cps.all (·<128)
  ·have hty:gq x="str_iterator":=by simp[gq,ha]
   rw[hty] at st;exact wpAny_pyNext_wide_end (I.ok.hd hc) st hx λh' eb=>⟨rfl,I.turned (λb o hb e=>eb b o hb e) f0 f1 f3 f4 f5⟩
  ·have hty:gq x="str_ascii_iterator":=by simp[gq,ha]
   rw[hty] at st;exact wpAny_pyNext_ascii_end (I.ok.hd hc) st hx λh' eb=>⟨rfl,I.turned (λb o hb e=>eb b o hb e) f0 f1 f3 f4 f5⟩
 self:=λ_ _ _ _ _ st h=>by
  cases ha:x.cps.all (·<128)
  ·have hty:gq x="str_iterator":=by simp[gq,ha]
   rw[hty] at st;exact wpAny_pyIter_striter_wide st h
  ·have hty:gq x="str_ascii_iterator":=by simp[gq,ha]
   rw[hty] at st;exact wpAny_pyIter_striter_ascii st h
section
variable {tg l a:Expr}
theorem Z9(I1:Inv X pins σ H1 s1)(r:Rep All H1 v d)(ru:RelV v u)(hi:JM d=.ok items)
 (q:∀J,(∀P:ak->Prop,Rep P H1 v d->ItQ X.K P J H1 items)->R J H1):wpAny (av X.prog X.w) X.A (i6 u) (PIE X pins σ tg R) X.xe s1:=by
 by_cases hz:∃z,d=.str z
 ·obtain⟨z,rfl⟩:=hz;simp only[JM] at hi;split at hi
  ·cases hi;cases r.inv;obtain⟨t,rfl⟩:=ru;refine wpAny_pyIter_strU ?_;refine⟨s1.heap.objs.size,[s1.heap.objs.size],_,_,H1,rfl,I1.kept λb o e=>bz _ e,aCh z t _,⟨_,cS _ rfl,rfl,rfl⟩,λb hb=>?_,q _ λP r=>.chs z rfl rfl⟩;have e:b=s1.heap.objs.size:=by simpa using hb
   subst e;exact I1.aBl (ba _) (I1.hok.fresh (ba _))
  ·exact bx hi
 ·have he:JM d=wC d:=by
   unfold JM;split
   ·exact bg ⟨_,rfl⟩ hz
   ·rfl
  rw[he] at hi;exact R4 I1 r ru hi q
theorem eG(hl:PE X l (gE fl rl)):PI X tg l (gI X.K (bM fl rl)):=by
 rintro pins s σ H R I ⟨ρ,items,k,E,h,q⟩;obtain⟨d,h1,h⟩:=bI h;obtain⟨its,h2,h⟩:=bI h;cases h;refine thn (hl pins s σ H _ I ⟨ρ,d,E,h1,λv H1 s1 r1 n1=>(show(∃d',Rep All H1 v d/\d'=d/\∀J,(∀P:ak->Prop,Rep P H1 v d->ItQ X.K P J H1 items)->R J H1) from ⟨d,r1,rfl,λJ hJ=>q J H1 s1 (hJ _ r1) λhk=>hJ _ ?_⟩)⟩) λu s1 ⟨v,H1,I1,ru,d',r1,e,q1⟩=>Z9 I1 r1 ru h2 q1
 rw[gm] at hk;rcases hk with hk|hk
 ·exact n1 hk
 ·exact r1.bT hk
theorem PL{ch:aa ak}{a:ak}{o:HO}(I:Inv X pins σ H s)(k:∀b u,b∉ch->s.heap.get? b=ab u->h'.get? b=ab u)(hf:∀b∈ch,WR X pins H b)(hp:s.heap.objs.size<=a)
 (new:iV X.prog X.w (upd H a o) h' a o):Inv X pins σ (upd H a o) {s with heap:=h',toks:=t'}:=by
 have hn:H a=aj:=I.hok.fresh hp;have nch:∀b u,H b=ab u->b∉ch:=λb u e z=>by rw[(hf b z).1] at e;cases e
 have kU:∀b u,H b=ab u->upd H a o b=ab u:=λb u e=>by rw[bF (cW e hn)];exact e
 refine I.step (λb hb=>?_) (λb u _ _ hc e _=>k b u hc e) (λb u _ _ hc e _=>⟨u.slots,k b u hc e⟩) (λb u _ e n=>?_)
  (λb u hc e=>⟨u,k b u hc e⟩) (λb xs e=>kU b _ e) (λb u v e=>kU b _ e) (λb ps e=>⟨#[],by rw[kU b _ e];simp⟩) (λm hm=>?_) (λb u e=>?_) I.bare
 ·obtain⟨_,f1,_,f3,f4,f5⟩:=hf b hb;exact⟨f3,f1,f4,f5⟩
 ·rw[bF (λz=>bg (dm (bE e) hp) (by rw[z];exact gw _))];exact n
 ·obtain⟨u,es,ep,hu,r⟩:=hm;exact⟨u,es,ep,k _ u (λz=>(hf _ z).2.1 rfl) hu,r⟩
 ·by_cases hb:b=a
  ·subst hb;rw[aM] at e;cases e;exact new
  ·rw[bF hb] at e;refine(I.hok b u e).stay (λc v hc q=>k c v ?_ q) (λc q=>kU c _ q) λc xs q=>kU c _ q
   rcases hc with z|z
   ·rw[z];exact nch b u e
   ·exact nch c _ z
end
end
end Mi
namespace Mi
open PySem L2
theorem aK5(b:aq):asB (.bl b)=.ok b:=rfl
theorem cM:lim=1000000:=by unfold lim;exact Eq.refl _
theorem JN(h:ρ.length=n):N8 n ρ=ρ:=by
 subst h;apply List.ext_getElem
 ·simp[N8]
 ·intro i h1 h2;simp[N8,h2]
theorem gB(h:ds.length=n):bV n f ds=f ds:=by
 unfold bV;rw[au (by simp[h])]
theorem aJ(h1:a ρ=.ok x)(h2:b ρ=.ok y)(h3:f x y=.ok z):b2 f a b ρ=.ok z:=by
 unfold b2;rw[h1,Res.aZ,h2,Res.aZ,h3]
theorem bW(h:f ρ=.ok d):bO ag i f ae ρ=.ok (.nx (ρ.set i d)):=by
 unfold bO;rw[h,Res.aZ];rfl
theorem iQ(h:f ρ=.ok d)(hp:d.pure=ae):bO ag i f ag ρ=.ok (.nx (ρ.set i d)):=by
 unfold bO;rw[h,Res.aZ];simp only[hp,xj,c8,cK,cy]
theorem eN(h:f ρ=.ok d)(hp:inner d=ae):bO ae i f ae ρ=.ok (.nx (ρ.set i d)):=by
 unfold bO;rw[h,Res.aZ];simp only[hp,kf,cy]
theorem aQ(h1:f ρ=.ok (.nx ρ'))(h2:g ρ'=r):bG f g ρ=r:=by
 unfold bG;rw[h1,Res.aZ];exact h2
theorem aK6(h1:c ρ=.ok k)(h2:(if k then f ρ else g ρ)=r):sIf c f g ρ=r:=by
 unfold sIf;rw[h1,Res.aZ];exact h2
theorem aBg(h1:c ρ=.ok ae)(h2:f ρ=r):sIf c f g ρ=r:=aK6 h1 (by rw[au rfl];exact h2)
theorem tB(h1:c ρ=.ok ag)(h2:g ρ=r):sIf c f g ρ=r:=aK6 h1 (by rw[az 0x2];exact h2)
theorem dW(h1:f ρ=.ok (.bl k)):bTB f ρ=.ok k:=by
 unfold bTB;rw[h1,Res.aZ];rfl
theorem Z_(h1:a ρ=.ok ae)(h2:b ρ=r):WT a b ρ=r:=by
 unfold WT;rw[h1,Res.aZ,au rfl,h2]
theorem aG5(h1:a ρ=.ok ag):WT a b ρ=.ok ag:=by
 unfold WT;rw[h1,Res.aZ,az 0x2];rfl
theorem aD(h1:a ρ=.ok x)(h2:b ρ=.ok xs):aA a b ρ=.ok (x::xs):=by
 unfold aA;rw[h1,Res.aZ,h2,Res.aZ];rfl
theorem aR(h1:a ρ=.ok xs)(h2:f xs=.ok d):aK f a ρ=.ok d:=by
 unfold aK;rw[h1,Res.aZ,h2]
theorem cR(h:a ρ=.ok xs)(hl:xs.length<=lim):cZ a ρ=.ok (.tup xs):=by
 unfold cZ;rw[h,Res.aZ,au (cb hl)];rfl
theorem lD(h:f ρ=.ok d)(hp:(k||d.pure)=ae):jV f k ρ=.ok (.rt d):=by
 unfold jV;rw[h,Res.aZ,au hp]
theorem t7(h1:it ρ=.ok (xs,ae))(h2:uV t body xs ρ=r):uW it t body ρ=r:=by
 unfold uW;rw[h1,Res.aZ];exact h2
theorem CT(h1:iW i ρ=.ok d)(h2:wC d=.ok xs)(h3:uV t body xs ρ=r):wF i t body ρ=r:=by
 unfold wF;rw[h1,Res.aZ,h2,Res.aZ];exact h3
theorem t8(h:f ρ=.ok [.int n])(h1:0<=n)(h2:n<=1000000):gP f kO ρ=.ok ((cr n.toNat).map λ(k:af)=>D.int (0+(k:ai)),ae):=by
 unfold gP;rw[h,Res.aZ];have:jL n=ae:=by
  simp only[jL,bq,fF];lia
 simp only[kO,this,cy]
theorem wR(h1:g ρ=.ok d)(h2:f ρ=.ok k)(h3:ρ.getD i .uD=.dct kvs)(h4:kvs.length<lim)(h5:LC kvs k=ae)(h6:d.pure=ae):xU i f g ρ=.ok (.nx (ρ.set i (.dct (putD kvs k d)))):=by
 unfold xU;rw[h1,Res.aZ,h2,Res.aZ,h3];simp only[cb h4,h5,h6,kf,cy]
theorem t_(h1:f ρ=.ok d)(h3:ρ.getD i .uD=.lst xs)(h4:xs.length<lim)(h5:d.pure=ae):yN i f ρ=.ok (.nx (ρ.set i (.lst (xs++[d])))):=by
 unfold yN;rw[h1,Res.aZ,h3];simp only[cb h4,h5,kf,cy]
theorem d7(h1:t x ρ=.ok ρ1)(h2:body ρ1=.ok (.nx ρ2))(h3:uV t body xs ρ2=r):uV t body (x::xs) ρ=r:=by
 rw[uV,h1,Res.aZ,h2,Res.aZ];exact h3
theorem PN(L:aa D)(i:ai)(h0:0<=i)(h1:i<L.length):∃(h:i.toNat<L.length),getD (.lst L) (.int i)=.ok L[i.toNat]:=by
 have hlt:i.toNat<L.length:=by lia
 refine⟨hlt,?_⟩;show Res.ofOpt ((ixD L.length i).bind λj=>L[j]?)=_;unfold ixD;rw[au h0,au h1];simp only[uq];rw[eh hlt];rfl
theorem iU(L:aa D):dR [.lst L]=.ok (.int L.length):=rfl
theorem fG(h1:it ρ=.ok (xs,kk))(h2:xs.length<=lim)(h3:fY (jM n t c f k ρ) [] xs=.ok ys):cY n it t c f k ρ=.ok (.lst ys):=by
 unfold cY;rw[h1,Res.aZ];simp only[cb h2,cy];rw[h3];rfl
theorem rQ(hρ:ρ.length=n)(h1:c (ρ++[x])=.ok b)(h2:b=ae->f (ρ++[x])=.ok y/\(k||y.pure)=ae):jM n gQ c f k ρ acc x=.ok (if b then acc++[y] else acc):=by
 unfold jM;show(do let ok <- c (N8 n ρ++[x]);_)=_;rw[JN hρ,h1,Res.aZ];cases b with
 |true=>
  obtain⟨e1,e2⟩:=h2 rfl;rw[au rfl,e1,Res.aZ,au e2,au rfl];rfl
 |false=>
  rw[az 0x2,az 0x2];rfl
theorem eZ(g:aa D->D->Res (aa D))(d:α->D)(p:α->aq)(y:α->D)(h:∀acc a,g acc (d a)=.ok (if p a then acc++[y a] else acc)):∀(xs:aa α)(acc:aa D),fY g acc (xs.map d)=.ok (acc++(xs.filter p).map y)
 |[],acc=>by simp[fY]
 |x::xs,acc=>by
  rw[bw,fY,h];show fY g _ _=_;rw[eZ g d p y h xs];by_cases hp:p x
  ·simp[hp]
  ·simp[hp]
theorem dG(a b:ai):a_ .add (.int a) (.int b)=.ok (.int (a+b)):=rfl
theorem aE3(a b:ai):a_ .sub (.int a) (.int b)=.ok (.int (a-b)):=rfl
theorem aE4(a b:ai)(h:kY b=ae):a_ .mul (.int a) (.int b)=.ok (.int (a*b)):=by
 show(if kY a||kY b then Res.ok (D.int (a*b)) else .bad)=_;rw[h,yl,au rfl]
theorem tD(a b:ai)(h:kY a=ae):a_ .mul (.int a) (.int b)=.ok (.int (a*b)):=by
 show(if kY a||kY b then Res.ok (D.int (a*b)) else .bad)=_;rw[h,AN,au rfl]
theorem fH(a b:ai)(h1:0<b)(h2:b<1073741824):a_ .fdiv (.int a) (.int b)=.ok (.int (a / b)):=by
 show(if decide (0<b)&&decide (b<1073741824) then Res.ok (D.int (a / b)) else .bad)=_;rw[cb h1,cb h2,kf,au rfl]
theorem cN(a b:ai)(h1:0<b):a_ .mod (.int a) (.int b)=.ok (.int (a % b)):=by
 show(if decide (0<b) then Res.ok (D.int (a % b)) else .bad)=_;rw[cb h1,au rfl]
theorem vZ(a b:Str)(h:a.length+b.length<=lim):a_ .add (.str a) (.str b)=.ok (.str (a++b)):=by
 show(if decide (a.length+b.length<=lim) then Res.ok (D.str (a++b)) else .bad)=_;rw[cb h,au rfl]
theorem str_len(a b:Str):(a++b).length=a.length+b.length:=by
 show(a.cps++b.cps).size=_;rw[Array.size_append];rfl
theorem wU(h1:a.fQ aV=ae)(h2:b.fQ aV=ae)(h:iR o a b=ab k):b7 (.ord o) a b=.ok (.bl k):=by
 show(if a.fQ aV&&b.fQ aV then (match iR o a b with|some k=>Res.ok (D.bl k)|none=>.bad) else .bad)=_;rw[h1,h2,h,kf,au rfl]
theorem lV(a b:aa D)(h:a.length+b.length<=lim)(ha:D.aW a=ae)(hb:D.aW b=ae):a_ .add (.lst a) (.lst b)=.ok (.lst (a++b)):=by
 show(if decide (a.length+b.length<=lim)&&D.aW a&&D.aW b then Res.ok (D.lst (a++b)) else .bad)=_;rw[cb h,ha,hb,kf,kf,au rfl]
open PySem.W PySem.SeqAt PySem.Spec PyProof.Rows
variable [KFrag]
def n6(a:FA):FE:=λρ=>do let xs <- a ρ;if decide (xs.length<=lim)&&D.aW xs then pure (.lst xs) else .bad
theorem tE{X:Cx}{pos:bS}{es:aa Expr}{f:FA}{r:aq}(h:PA X es (gA f r)):PE X (.List es pos) (gE (n6 f) ae):=PE.imp (aDq h) λσ H Q z0=>by
  obtain⟨ρ,d,E,h,q⟩:=z0;obtain⟨xs,h1,h⟩:=bI h;split at h
  ·rename_i hl;rw[bq] at hl;cases h;refine⟨ρ,xs,E,h1,λvs H1 s1 r1 n1=>⟨?_,λp hp=>?_⟩⟩
   ·rw[r1.length];exact dw (eW hl.1) (by rw[dE];decide)
   ·have sp:cG H1 (upd H1 p (.lst vs)):=cG.upd hp;exact q _ _ (s1.trans sp) (.lst aM trivial (r1.same sp)) λ_=>.lst aM (s1.free hp) ((r1.bT hl.2).same sp)
  ·exact bx h
end Mi
namespace Mi
open PySem L2 PySem.SeqAt PySem.Spec PyProof.Rows
section
variable [KFrag]
def DV(H:Hp)(a:ak)(kvs:aa (Key×V)):Prop:=H a=ab (.dK kvs)\/(kvs=[]/\H a=ab (.dT []))
theorem aE5:∀{kvs:aa (κ×V)}{vs:aa (κ×ah)}{i:af}{p:κ×V},KV kvs vs->kvs[i]?=ab p->∃u,vs[i]?=ab (p.1,u)/\RelV p.2 u
 |_,_,_,_,.nil,h=>by simp at h
 |_,_,0,_,.cons r _,h=>by
  simp at h;subst h;exact⟨_,by simp[r.1],r.2⟩
 |_,_,i+1,_,.cons _ t,h=>by
  obtain⟨u,h1,h2⟩:=aE5 t (by simpa using h);exact⟨u,by simpa using h1,h2⟩
section
variable {a:ak}
theorem aK7(hu:DV H a kvs):L2.Mut (H a):=by
 rcases hu with h|⟨_,h⟩<;>rw[h]<;>trivial
theorem aA0(I:Inv X pins σ H s)(hu:DV H a kvs):kvs.length<=bn/\(a==gu)=ag/\∃vs,KV kvs vs/\s.heap.DictOf (cD X.prog X.w) a vs:=by
 rcases hu with h|⟨rfl,h⟩
 ·exact HN I.hok h
 ·exact HN (lA I h).hok aM
theorem aK8(I:Inv X pins σ H s)(hu:DV H a kvs)(ho:s.heap.get? a=ab o):∃u,H a=ab u/\∀(H':Hp)(h:aI),h.get? a=ab o->iV X.prog X.w H' h a u:=by
 rcases hu with h|⟨_,h⟩
 ·obtain⟨z,hs,vs,rel,o',es,ep,ho',c⟩:=I.hok a _ h;rw[ho] at ho';cases ho';exact⟨_,h,λH' h' e=>⟨z,hs,vs,rel,o,es,ep,e,c⟩⟩
 ·obtain⟨z,hs,xs,rel,o',es,ep,ho',c⟩:=I.hok a _ h;rw[ho] at ho';cases ho';cases rel;exact⟨_,h,λH' h' e=>⟨z,hs,[],.nil,o,es,ep,e,c⟩⟩
end
theorem R9(ea:∀ob,H a=ab ob->Y9 ob=ae)(b:ak)(o:HO)(e:H b=ab o)(h:Y9 o=ag):upd H a u b=ab o:=by
 rw[bF λz=>by rw[z] at e;rw[ea _ e] at h;cases h];exact e
theorem CV{P:ak->Prop}(ea:∀ob,H a=ab ob->Y9 ob=ae)(q:Rep P H v d)(h:d.pure=ae):Rep P (upd H a u) v d:=q.wH (R9 ea) h
theorem JP{P:ak->Prop}(ea:∀ob,H a=ab ob->Y9 ob=ae)(q:bL P H v d)(h:D.aW d=ae):bL P (upd H a u) v d:=q.wH (R9 ea) h
theorem tG:∀{acc:aa D}{y:D},D.aW acc=ae->y.pure=ae->D.aW (acc++[y])=ae
 |[],y,_,h=>by show(y.pure&&ae)=ae;rw[h];rfl
 |x::acc,y,h,hy=>by
  rw[D.aW,bq] at h;show(x.pure&&D.aW (acc++[y]))=ae;rw[h.1,tG h.2 hy];rfl
theorem JQ{P:ak->Prop}{H:Hp}:∀{kvs:aa (Key×V)}{ds:aa (D×D)},i_ P H kvs ds->bL P H (kvs.map (·.2)) (ds.map (·.2))
 |_,_,.nil=>.nil
 |_,_,.cons r t=>.cons r (JQ t)
structure aN3(K:br)(x qual:Str)(st:bP)(f:ak)(fd:d5)(T:ak)(its:aw ah):Prop where
 ex:∃(oc:ah)(od:ax ak)(kV doc pm:ah)(an:ax ak)(cdv ct:ah)(osl:aw (ax ah)),
  fd=ln x qual (iJ st) (d8 st) (aO st) (.ref T) kV doc pm an cdv ct/\K.lookup f=ab ⟨oc,od,.func fd,osl⟩/\sK K cdv qual=ae
 kp:ju K (.ref f)=ae
 df:∃(tc:ah)(td:ax ak)(tn:af)(tl:aw (ax ah)),K.lookup T=ab ⟨tc,td,.seq its tn,tl⟩
section
variable {P:bp} {w:bh} {K:br} {mg:Str->ax ah} {base:aI} {x qual:Str} {st:bP} {fad T:ak} {its:aw ah} {fd:d5} {N ps:aa Str} {k:af} {f:FS}
theorem aK9(F:aN3 K x qual st fad fd T its)(S:cF N ps (aO st))(own:af->aq)(hown:∀i,i<ps.length->own i=ag)
 (hbody:∀(cdv:ah) (A:bu) (outer:aa dn) (s:al) (H:Hp) (E:XK),mJ k (A.deeper (gS qual (aO st) s.heap.objs.size fad cdv))->PSs (XQ CX0 P w K mg base N qual (aO st) fad cdv A outer s H E).nox (d8 st) (tS own f))(hx:own rtX=ag:=by rfl):uQ P w K mg base CX0 (k+1) fad fd ps (spD (fnS ps.length N.length f) ps.length):=by
 obtain⟨oc,od,kV,doc,pm,an,cdv,ct,osl,rfl,lk,hcd⟩:=F.ex;exact aIz lk hcd S (λvs H Q E h=>ZX h) λA outer s H vs Q E hr h=>⟨_,(hbody cdv A outer s H E hr).nox,Z5 hx hown h⟩
end
structure aI4(P:bp)(w:bh)(K:br)(mg:Str->ax ah)(base:aI)(k:af)(x kw:Str)(n:af)(df:D)(f:aa D->Res D):Prop where
 ex:∃(fad:ak)(fd:d5)(ps:aa Str)(u:ah)(v:V),uQ P w K mg base CX0 k fad fd ps (spD f (n+1))/\mg x=ab (.ref fad)/\ju K (.ref fad)=ae/\Binds K fd ps []/\Binds K fd ps [u]/\RelV v u/\(∀H:Hp,Rep All H v df)/\
  ∀(s:al)(us:aa ah)(y:ah),K.In s.heap->us.length=n->lh s fd ⟨us,[(kw,y)]⟩ (ps.zip (us++[y]))
theorem aI4.cal{P:bp}{w:bh}{K:br}{mg:Str->ax ah}{base:aI}{k:af}{x kw:Str}{n:af}{df:D}{f:aa D->Res D}(C:aI4 P w K mg base k x kw n df f):dI P w K mg base k x (n+1) f:=by
 obtain⟨fad,fd,ps,u,v,F,hm,hk,hb,_⟩:=C.ex;exact⟨fad,fd,ps,F,hm,hk,hb⟩
section
variable {X:Cx} {e:Expr} {es:aa Expr} {pos p:bS} {fs:FA} {rr:aq} {x kw:Str} {k k' n:af} {df:D} {f:aa D->Res D}
theorem aA1(C:aI4 X.prog X.w X.K X.mg X.base k x kw n df f)(hr:mJ k' X.A)(hkk:k<=k')(hg:Gl X x)(ha:PA X (e::es) (gA fs rr))(hdb:nDb x:=by decide)(he:bi (e::es) X.env=(ag,bm e X.env)::bi es X.env:=by rfl)(hpl:(dq pos (bi es X.env)).any (·.1)=ag:=by rfl) :
  PE X (.Call (.Name x p) (e::es) [] pos) (gE (aK (λds=>bV (n+1) f (ds++[df])) fs) ae):=by
 obtain⟨fad,fd,ps,u,v,F,hm,hk,hb,hb1,ru,rv,_⟩:=C.ex;refine PE.imp (XN F (hr.mono hkk) hg hm hk hb1 (.cons ru .nil) aBz ha hdb he hpl) λσ H Q h0=>?_
 obtain⟨ρ,d,E,h,q⟩:=h0;obtain⟨ds,h1,h⟩:=bI h;unfold bV at h;split at h
 ·rename_i hl;exact⟨ρ,ds,E,h1,λvs H1 s1 r1 _=>⟨ds++[df],d,eW hl,r1.append (.cons (rv H1) .nil),h,q.imp s1 id⟩⟩
 ·exact bx h
end
end
def LR:D->D->Res D
 |.tup a,.tup b=>if decide (a.length+b.length<=lim) then .ok (.tup (a++b)) else .bad
 |_,_=>.bad
def aE6:D->Res D
 |.lst xs=>if D.aW xs then .ok (.lst xs.reverse) else .bad
 |_=>.bad
def uA:aa D->aa D->aa (D×D)->aa (D×D)
 |k::ks,v::vs,m=>uA ks vs (putD m k v)
 |_,_,m=>m
def wV:aa D->Res D
 |[.tup xs,.tup ys]=>if decide (xs.length<=1000)&&decide (ys.length=xs.length)&&xs.all lL&&D.aW ys then .ok (.dct (uA xs ys [])) else .bad
 |_=>.bad
noncomputable def aCi(c:FT)(body:FS):af->aa D->Res Fl
 |0,_=>.bad
 |n+1,ρ=>do
  let k <- c ρ
  if k then (do
   let r <- body ρ
   match r with
   |.nx ρ'=>aCi c body n ρ'
   |.ct ρ'=>aCi c body n ρ'
   |.bk ρ'=>.ok (.nx ρ')
   |.rt d=>.ok (.rt d))
  else .ok (.nx ρ)
def aN4(c:FT)(body:FS):FS:=λρ=>aCi c body 1000 ρ
noncomputable def PP(i j:af)(f:FE):FS:=λρ=>do
 let k <- f ρ
 match ρ.getD i .uD,k with
 |.lst xs,.int k=>if decide (0<=k)&&decide (k<=1000000) then (match xs[k.toNat]? with|some x=>.ok (.nx ((ρ.set i (.lst (xs.eraseIdx k.toNat))).set j x))|none=>.bad) else .bad
 |_,_=>.bad
def aCj:aa D->Res D
 |[.dct kvs]=>if kvs.all (λp=>!isTup p.1) then .ok (.int kvs.length) else .bad
 |ds=>dR ds
noncomputable def fzD(i:af)(kvs:aa (D×D))(ρ:aa D):aa D:=(ρ.map λd=>if d.pure then d else .uD).set i (.fdc kvs)
def R_(n i:af)(t:D->Res (aa D))(c:FT)(f:FE):FE:=λρ=>do
 let d <- iW i ρ
 match d with
 |.dct kvs=>if decide (kvs.length<=lim)&&(kvs.all (λp=>!isTup p.1)&&D.aW (kvs.map (·.2))) then (do
   let ys <- fY (jM n t c f ag (fzD i kvs ρ)) [] (nZ kvs)
   pure (.lst ys)) else .bad
 |_=>.bad
section
variable [KFrag]
section
theorem CW:OpR X (fy .Add) (r2 LR ag):=by
 intro pins s σ H x y v u Q I rx ry h;obtain⟨a,b,d,p,q,e,k⟩:=h;unfold LR at e;split at e
 ·rename_i da db;split at e
  ·rename_i hl;cases e;obtain⟨l1,xs1,rfl,e1,r1⟩:=p.inv;obtain⟨l2,xs2,rfl,e2,r2⟩:=q.inv;cases rx;cases ry;have hz:xs1.length+xs2.length<=bn:=by rw[r1.length,r2.length];exact nQ hl
   obtain⟨its,w1,p1,_⟩:=I.tuple (.of e1);obtain⟨its2,w2,p2,_⟩:=I.tuple (.of e2);obtain⟨⟨cls,dd,data,sl⟩,ho,hc,n,hd⟩:=id p1;obtain⟨⟨cls2,dd2,mv,sl2⟩,ho2,hc2,n2,hd2⟩:=id p2;simp only at hc hd hc2 hd2;by_cases hv:its=[]
   ·have:xs1=[]:=w1.vR.mp hv;subst this;cases r1;refine wg ⟨_,ho,hc⟩ ⟨_,ho2,hc2⟩ wj wm wn wo (wu _ _)
     (tuple_addW0 l1 l2 its.toArray its2.toArray n n2 dd dd2 sl sl2 (by simp[hv])) ⟨by subst hc hd;exact ho,by subst hc2 hd2;exact ho2,.ref l2,H,I,rfl,?_⟩
    exact k.self (.tup e2 r2) (λz=>by cases z)
   ·refine aF6 pins s σ H (.ref l1) (.ref l2) _ _ Q I rfl rfl ⟨l1,l2,xs1,xs2,rfl,rfl,.of e1,.of e2,λz=>hv (w1.vR.mpr z),hz,λz=>?_,λz p hp=>?_⟩
    ·subst z;cases r2;rw[gL] at k;exact k.self (.tup e1 r1) (λz=>by cases z)
    ·have sp:cG H (upd H p (.tup (xs1++xs2))):=cG.upd hp;exact k _ _ sp (.tup aM ((r1.append r2).same sp)) λz=>by cases z
  ·exact bx e
 ·exact bx e
theorem aA2(hK:KFrag.K=X.K):kJ X (.builtin "len") (rs aCj ae):=by
 rintro pins s σ H xs us Q I vr ⟨ds,d,r,e,k⟩;unfold aCj at e;split at e
 ·rename_i ds;split at e
  ·rename_i hb;cases e;obtain⟨vv,uu,rfl,rfl,r,v⟩:=iT r vr;obtain⟨a,kvs,rfl,hu,rl⟩:∃a kvs,vv=.ref a/\DV H a kvs/\kvs.length=ds.length:=by
    cases r with
    |dK e _ rk _=>exact⟨_,_,rfl,.inl e,by have:=(JQ rk).length;simpa using this⟩
    |dT e _ rt _=>
     cases rt with
     |nil=>exact⟨_,[],rfl,.inr ⟨rfl,e⟩,rfl⟩
     |cons r t=>simp[isTup] at hb
   cases v;obtain⟨z,hs,vs,rel,dd⟩:=aA0 I hu;refine BY hs dd (by rw[<-rel.length];rw[dE] at z;lia) ?_;rw[<-rel.length,rl];exact⟨.int _,H,I.tok _,⟨_,rfl⟩,k.int⟩
  ·exact bx e
 ·exact cU hK pins s σ H xs us Q I vr ⟨_,d,r,e,k⟩
theorem aKa(hp:nK (av X.prog X.w) X.A X.env X.xe)(hc:PT X c (gT gc))(hb:PSs X body (tS own fb)):PS X (.While c body [] pos) (tS own (aN4 gc fb)):=
 PS.imp (aBk hp hc hb) λD σ H z0=>by
 obtain⟨ρ,fl,E,h,q⟩:=z0;refine⟨λm σ' H'=>∃ρ' ,ES own H' σ' ρ'/\aCi gc fb m ρ'=.ok fl/\kS own D σ' H' fl,⟨1000,ρ,E,h,q⟩,?_⟩;rintro m σ H ⟨ρ,E,h,q⟩;cases m with
 |zero=>exact bx h
 |succ m=>
  rw[aCi] at h;obtain⟨k,h1,h2⟩:=bI h;refine⟨ρ,k,E.er,h1,λH1 s=>?_⟩;cases k with
  |true=>
   rw[au rfl];rw[au rfl] at h2;obtain⟨r,h3,h4⟩:=bI h2;refine⟨λσ' H'=>∃ρ',ES own H' σ' ρ'/\aCi gc fb m ρ'=.ok fl/\kS own D σ' H' fl,λσ' H' w=>⟨m,kq m,w⟩,ρ,r,E.same s,h3,?_⟩;have q1:=q.step (.same s);cases r with
   |nx ρ'=>exact λσ' H' ku E'=>⟨ρ',E',h4,q1.step ku⟩
   |ct ρ'=>exact λσ' H' ku E'=>⟨ρ',E',h4,q1.step ku⟩
   |bk ρ'=>cases h4;exact λσ' H' ku E'=>q1 σ' H' ku E'
   |rt d=>cases h4;exact q1
  |false=>
   rw[az 0x2];rw[az 0x2] at h2;cases h2;exact(q.step (.same s)) σ H1 (λa o e n=>⟨e,n⟩) (E.same s)
end
section
theorem aA3(ho:own i=ae)(hN:X.N[i]?=ab x)(hv:Vis X.env.scope x)(hnd:X.N.Nodup)(hj:X.N[j]?=ab y)(hy:Loc X.env.scope y)(hoj:own j=ag)(he:PE X e (gE fe re))(hd:nDb x:=by decide)(hcd:nCd x:=by decide)
 (hbase:i8 (.Name x p1) "pop" X.env (bm (.Name x p1) X.env)=bm (.Name x p1) X.env:=by rfl)
 (hs1:bi [e] X.env=(ag,bm e X.env)::bi [] X.env:=by rfl)
 (hfew:((dq cpos (bi [e] X.env)).all (λx=>!x.1)&&(lj cpos (ll [] X.env)).all (λx=>x.1.isSome)
  &&decide (([e]:aa Expr).length+([]:aa jc).length+(if ([]:aa jc).isEmpty then 0 else 1)<30))=ae:=by rfl)
 (hline:(apos.endLine==cpos.line)=ae:=by rfl)
 (hs:eI (.Call (.Attribute (.Name x p1) "pop" apos) [e] [] cpos) (ab (.Name y py)) pos.line X.env=pure ag:=by rfl)(hf:X.fn y=ae\/X.env.scope.names.lookup y=ab .local:=by first|exact .inl rfl|exact .inr rfl|assumption) :
  PS X (.Assign [.Name y py] (.Call (.Attribute (.Name x p1) "pop" apos) [e] [] cpos) pos) (tS own (PP i j fe)):=
 PS.imp (G7 hnd hj hy (aBs oQ tf B0 aBu (jJ hN hv hd hcd) (lJ he tV hs1) hbase hfew hline hs1 rfl) hs hf) λD' σ H z0=>by
 obtain⟨ρ,fl,E,h,q⟩:=z0;obtain⟨d,h1,h2⟩:=bI h;split at h2
 ·rename_i xs k hx;split at h2
  ·rename_i hk;rw[bq,fF,fF] at hk;split at h2
   ·rename_i dx hdx;cases h2;obtain⟨a,o,hσ,r,hin,ha,hm⟩:=E.ownAt ho (by rw[hx];intro z;cases z);rw[hx] at r hin;obtain⟨vs,hl,rr⟩:=JK r;obtain⟨v,hvx,rv⟩:=rr.get hdx;refine⟨_,hσ,.inl ⟨rfl,vs,.of hl⟩,ρ,_,E.er,h1,λu H' s ru _=>?_⟩;cases ru.inv;have hlt:k.toNat<vs.length:=(dz.mp hvx).1;refine⟨a,vs,k,k.toNat,v,rfl,rfl,s _ _ hl,by lia,by lia,?_,hvx,?_⟩
    ·unfold sQ;have h3:¬k<0:=by lia
     have h4:k<vs.length:=by lia
     first
      | (simp only[h3,cK,hk.1,h4,and_self,cy];done)
      | (simp[h3,hk.1,h4];done)
      | (simp[h3,hk.1,h4,hlt])
    ·have E':=E.same s;have hl':=s _ _ hl;have hin':D.aW xs=ae:=hin;have pall:∀y∈xs,y.pure=ae:=λy hy=>jO.mp hin' y hy
     have pdx:dx.pure=ae:=pall dx (nX hdx);have pe:D.aW (xs.eraseIdx k.toNat)=ae:=jO.mpr λy hy=>pall y (List.mem_of_mem_eraseIdx hy)
     have er:∀{vs:aa V}{ds:aa D}(n:af),bL All H' vs ds->bL All H' (vs.eraseIdx n) (ds.eraseIdx n):=by
      intro vs ds n r;induction n generalizing vs ds with
      |zero=>cases r with
       |nil=>exact .nil
       |cons _ t=>exact t
      |succ n ih=>cases r with
       |nil=>exact .nil
       |cons r t=>exact .cons r (ih t)
     obtain⟨E2,k2⟩:=E'.mut ho hσ rfl (.lst aM trivial ((er k.toNat (rr.same s)).upd pe hl' rfl)) pe;have r1:=(bL.cons (rv.same s) .nil).upd (o:=.lst (vs.eraseIdx k.toNat)) (by rw[D.aW,pdx];rfl) hl' rfl;cases r1 with
     |cons r1 _=>
      have E3:=E2.set hoj (r1.bT pdx);exact q _ _ (((KU.same s).trans k2).trans λb ob eb nb=>⟨eb,by rw[lU hoj];exact nb⟩) E3
   ·exact bx h2
  ·exact bx h2
 ·exact bx h2
theorem CZ:∀l:aa α,(∀a∈l,f a=g a)->l.filterMap f=l.filterMap g
 |[],_=>rfl
 |a::l,h=>by rw[nB,nB,h a (b6 ..),CZ l λb hb=>h b (cg _ hb)]
theorem SJ:∀its:aa ah,(cr its.length).filterMap (λk=>its[its.length-1-k]?)=its.reverse
 |[]=>rfl
 |a::r=>by
  rw[bj,B1,List.filterMap_append,jd];have e1:(cr r.length).filterMap (λk=>(a::r)[r.length+1-1-k]?)=(cr r.length).filterMap (λk=>r[r.length-1-k]?):=by
   apply CZ;intro k hk;have hk:=i5.mp hk;have:r.length+1-1-k=(r.length-1-k)+1:=by lia
   rw[this,List.getElem?_cons_succ]
  rw[e1,SJ r]
  congr 1
  simp
theorem C_(its:aa ah):s_ its.toArray aj aj (ab (-1))=its.reverse.toArray:=by
 have hr:sliceRange ((its.length:ai)-1) (-1) (-1)=(cr its.length).map λk=>its.length-1-k:=picked_rev its.length
 have hb:kC aj aj (ab (-1)) its.toArray.size=(((its.length:ai)-1),-1,-1):=rfl;unfold s_;rw[hb];show((sliceRange ((its.length:ai)-1) (-1) (-1)).filterMap (its.toArray[·]?)).toArray=_;rw[hr,AA,<-SJ its];exact dl List.toArray (CZ _ λk _=>by simp)
theorem aKb(he:PE X e (gE fe re)):PE X (.Subscript e (.Slice aj aj (ab (.UnaryOp .USub (.Constant (.int 1) j p1) p3)) p2) pos) (gE (b1 aE6 fe) ae):=by
 rintro pins s σ H Q I ⟨ρ,d,E,h,q⟩;obtain⟨x,h1,h2⟩:=bI h;refine wT (thn (he pins s σ H (λv H1=>cG H H1/\Rep All H1 v x) I ⟨ρ,x,E,h1,λv H1 s1 r1 _=>⟨s1,r1⟩⟩) λv s1 ⟨xv,H1,I1,r1,sm,rx⟩=>?_);refine AB ?_;rw[wS];refine aS (aS ?_);refine thn (X3 (aMs aJq aF) pins s1 σ H1 (λst H2=>st=ab (-1)/\cG H1 H2) I1 ⟨ρ,.int (-1),E.same sm,rfl,λv H2 s2 r2 _=>by cases r2.inv;exact⟨-1,rfl,rfl,s2⟩⟩) λvs s2 ⟨st,H2,I2,ps,est,sm2⟩=>?_
 subst est;have I4:Inv X pins σ H2 {s2 with heap:=s2.heap.push {cls:=.type "slice",data:=.fields #[.none,.none,vs]}}:=I2.kept λb ob q=>bz _ q
 unfold aE6 at h2;split at h2
 ·rename_i ds;split at h2
  ·rename_i hp;cases h2;obtain⟨l,xs,rfl,hl,rr⟩:=(rx.same sm2).lO;cases r1;obtain⟨its,r,ht,hz⟩:=I4.list hl;have hlen:=r.length;refine w_ ht.isList.typeIs xb.lookup ?_ 0x5;refine AG ht.isList (AC ..) .none .none ps 0x2 ?_ (by rw[cm]<;>lia);rw[C_];refine⟨.ref _,_,I4.laid (o:=.lst xs.reverse) (λb ob q=>bz _ q) (ba _) ⟨by rw[ng];exact hz,_,0,r.reverse,cS _ rfl⟩,rfl,?_⟩;have hfr:H2 (s2.heap.push {cls:=.type "slice",data:=.fields #[.none,.none,vs]}).objs.size=aj:=I4.hok.fresh (ba _);have sp:=cG.upd (o:=.lst xs.reverse) hfr;have rev:∀{P:ak->Prop}{vs:aa V}{ds:aa D},bL P H2 vs ds->bL P H2 vs.reverse ds.reverse:=by
    intro P vs ds r;induction vs generalizing ds with
    |nil=>cases r;exact .nil
    |cons v vs ih=>cases r with
     |cons r t=>
      rw[jd,jd];exact(ih t).snoc r
   refine q _ _ ((sm.trans sm2).trans sp) (.lst aM trivial ((rev rr).same sp)) λ_=>.lst aM ?_ ((rev (rr.bT hp)).same sp)
   exact(sm.trans sm2).free hfr
  ·exact bx h2
 ·exact bx h2
end
def Itk(a:ak)(o:aT)(u:HO)(kvs:aa (Key×V)):It where
 go:=λi H=>H a=ab (.frz o u)/\∃p,kvs[i]?=ab p
 yld:=λi H x H'=>H'=H/\∃p,kvs[i]?=ab p/\x=kV p.1
 stop:=λi H=>H a=ab (.frz o u)/\kvs.length<=i
theorem aKc(h:(cD P w).is k v=ae):RelV (kV k) v:=by
 have h:L_ k v=ae:=h;rcases cX h with ⟨i,t,rfl,rfl⟩|⟨x,t,rfl,rfl⟩
 ·exact⟨t,rfl⟩
 ·exact⟨t,rfl⟩
theorem aA4{K:br}{o:aT}{u:HO}{kvs:aa (Key×V)}{vs:aa (Key×ah)}{ep:af}(hd:∀h:aI,h.get? a=ab o->h.DictAt (cD P w) a vs ep)(rel:KV kvs vs) :
  Turn P w K tg (Itk a o u kvs) [it] it (λi h=>h.IsKeyIter it a i vs.length ep) where
 mem:=by simp
 obj:=λi h st b hb=>by
  have e:b=it:=by simpa using hb
  subst e;obtain⟨o,e,c,d⟩:=st;exact⟨o,e,λv z=>by rw[d] at z;cases z⟩
 keep:=λi h h' st k=>st.at λo e=>k it 0x2 o e
 item:=by
  intro X hP hw hK hc i pins s σ H E I hf st hg;subst hP hw hK;obtain⟨ea,⟨k,x⟩,hx⟩:=hg;obtain⟨px,_⟩:=I.hok a _ ea;obtain⟨v,hv,rv⟩:=aE5 rel hx;obtain⟨f0,f1,f2,f3,f4,f5⟩:=hf it 0x2;refine wpAny_pyNext_dict_item st (hd _ px) hv λkey h' hk st' sb=>?_
  have I1:Inv X pins σ H {s with heap:=h'}:=I.turned (λb o hb e=>(sb.2 b hb).trans e) f0 f1 f3 f4 f5;obtain⟨o',e,c,d⟩:=id st';exact⟨key,rfl,W8 e c d 0x4 ⟨kV k,H,I1,aKc hk,⟨rfl,_,hx,rfl⟩,st',λb hb=>(hf b hb).1⟩⟩
 done:=by
  intro X hP hw hK hc i pins s σ H E I hf st hg;subst hP hw hK;obtain⟨ea,hx⟩:=hg;obtain⟨px,_⟩:=I.hok a _ ea;obtain⟨f0,f1,f2,f3,f4,f5⟩:=hf it 0x2;have hl:kvs.length=vs.length:=jr rel;exact wpAny_pyNext_dict_end (I.ok.hd hc) st (hd _ px) (List.getElem?_eq_none_iff.mpr 0x1) λh' eb=>⟨rfl,I.turned (λb o hb e=>eb b o hb e) f0 f1 f3 f4 f5⟩
 self:=λ_ _ _ _ _ st h=>wpAny_pyIter_keyiter st h
section
variable {a:ak}
theorem aCk(I:Inv X pins σ H s)(e:H a=ab (.frz o u))(hn:∀o u,X.H₀ a≠ab (.frz o u)):Inv X pins σ (upd H a u) s:=by
 have ne:∀b,H b=aj->b≠a:=λb h z=>by subst z;rw[e] at h;cases h
 have keepT:∀b xs,H b=ab (.tup xs)->upd H a u b=ab (.tup xs):=λb xs h=>by
  rw[bF (λz=>by subst z;rw[e] at h;cases h)];exact h
 have keepO:∀b x,H b=ab (.own x)->upd H a u b=ab (.own x):=λb x h=>by
  rw[bF (λz=>by subst z;rw[e] at h;cases h)];exact h
 refine⟨I.ok,I.os,I.bare,⟨I.base.keep,I.base.slot,λb o h1 h2 h3=>?_,I.base.there,λb xs h=>?_,λb o' u' h=>?_,λb ps h=>?_⟩,I.loc,I.cell,?_,λx c h=>?_,λp hp=>?_,λb ob h=>?_,I.len⟩
 ·have:=I.base.free b o h1 h2 h3;rw[bF (ne b this)];exact this
 ·exact keepT b xs (I.base.tups b xs h)
 ·have:=I.base.frzs b o' u' h;rw[bF (λz=>by subst z;exact hn _ _ h)];exact this
 ·obtain⟨more,h1⟩:=I.base.tbls b ps h;refine⟨more,?_⟩;rw[bF (λz=>by subst z;rw[e] at h1;cases h1)];exact h1
 ·rw[bF (ne _ I.free)];exact I.free
 ·have:=I.freeC x c h;rw[bF (ne _ this)];exact this
 ·obtain⟨h1,h2,h3⟩:=I.pin p hp;exact⟨h1,by rw[bF (ne _ h2)];exact h2,h3⟩
 ·by_cases hb:b=a
  ·subst hb;rw[aM] at h;cases h;obtain⟨_,h2⟩:=I.hok b _ e;exact h2.stay (λ_ _ _ q=>q) (λc hc=>keepO c b hc) keepT
  ·rw[bF hb] at h;exact(I.hok b _ h).stay (λ_ _ _ q=>q) (λc hc=>keepO c b hc) keepT
theorem aCl(I:Inv X pins σ H s)(hu:DV H a kvs):∀o u,X.H₀ a≠ab (.frz o u):=λo u h=>by
 have:=I.base.frzs a o u h;rcases hu with h|⟨_,h⟩<;>(rw[h] at this;cases this)
theorem aG6{i:af}{np:bS}(hN:X.N[i]?=ab x)(hv:Vis X.env.scope x)(hd:nDb x:=by decide)(hcd:nCd x:=by decide) :
  PI X tg (.Name x np) (λσ H R=>∃a kvs u,σ[i]?=ab (ab (.ref a))/\DV H a kvs/\H a=ab u/\∀o,R (Itk a o u kvs) (upd H a (.frz o u))):=by
 rintro pins s σ H R I ⟨a,kvs,u,hσ,hu,hua,q⟩;refine thn (jJ hN hv hd hcd pins s σ H (λv H1=>v=.ref a/\H1=H) I ⟨_,hσ,rfl,rfl⟩) λv s1 ⟨w,H1,I1,r1,e1,e2⟩=>?_
 subst e1 e2;cases r1;obtain⟨z,hs,vs,rel,dd⟩:=aA0 I1 hu;obtain⟨ep,da⟩:=dd.dictAt;obtain⟨o,es,ho,r⟩:=id da;have hda:∀h:aI,h.get? a=ab o->h.DictAt (cD X.prog X.w) a vs ep:=λh e=>⟨o,es,e,r⟩
 obtain⟨u',hu2,fu⟩:=aK8 I1 hu ho;rw[hua] at hu2;cases hu2;have If:Inv X pins σ (upd H1 a (.frz o u)) s1:=I1.write (aK7 hu) (.inl rfl) (λ_ _ _ q=>q) ⟨o,ho⟩ ⟨ho,fu _ _ ho⟩;refine wpAny_pyIter_dict hs da ?_;have I2:Inv X pins σ (upd H1 a (.frz o u)) {s1 with heap:=s1.heap.push {cls:=.type "dict_keyiterator",data:=.fields #[.ref a,.int 0 0,.int vs.length 0,.int ep 0]}}:=If.kept λb o e=>bz _ e
 refine⟨s1.heap.objs.size,[s1.heap.objs.size],λi h=>h.IsKeyIter s1.heap.objs.size a i vs.length ep,Itk a o u kvs,_,rfl,I2,aA4 hda rel,⟨_,cS _ rfl,rfl,rfl⟩,λb hb=>?_,q o⟩;have e:b=s1.heap.objs.size:=by simpa using hb
 subst e;exact If.aBl (ba _) (If.hok.fresh (ba _))
end
theorem aKd(r:Rep P H (.ref a) (.dct ds))(hua:H a=ab u)(hp:D.aW (ds.map (·.2))=ae):Rep P' (upd H a (.frz o u)) (.ref a) (.fdc ds):=by
 have hna:∀ob,H a=ab ob->Y9 ob=ae:=λxs z=>by
  cases r with
  |dK e _ _ _=>rw[e] at z;cases z;rfl
  |dT e _ _ _=>rw[e] at z;cases z;rfl
 have goK:∀{kvs:aa (Key×V)}{ds:aa (D×D)},i_ P H kvs ds->D.aW (ds.map (·.2))=ae->i_ P' (upd H a (.frz o u)) kvs ds:=by
  intro kvs ds r;induction kvs generalizing ds with
  |nil=>cases r;intro _;exact .nil
  |cons p kvs ih=>cases r with
   |cons r t=>
    intro h;rw[bw,D.aW,bq] at h;exact .cons ((CV hna r h.1).bT h.1) (ih t h.2)
 have goT:∀{kvs:aa (aa Key×V)}{ds:aa (D×D)},oU P H kvs ds->D.aW (ds.map (·.2))=ae->oU P' (upd H a (.frz o u)) kvs ds:=by
  intro kvs ds r;induction kvs generalizing ds with
  |nil=>cases r;intro _;exact .nil
  |cons p kvs ih=>cases r with
   |cons r t=>
    intro h;rw[bw,D.aW,bq] at h;exact .cons ((CV hna r h.1).bT h.1) (ih t h.2)
 cases r with
 |dK e _ r n=>rw[e] at hua;cases hua;exact .fdK aM (goK r hp) n
 |dT e _ r n=>rw[e] at hua;cases hua;exact .fdT aM (goT r hp) n
theorem aN5(r:Rep P H v (.dct ds))(hb:ds.all (λp=>!isTup p.1)=ae):∃a kvs u,v=.ref a/\DV H a kvs/\H a=ab u/\RM u=ae/\∀{P'},∀H',bL P' H' (kvs.map λp=>kV p.1) (nZ ds):=by
 cases r with
 |dK e _ rk _=>
  refine⟨_,_,_,rfl,.inl e,e,rfl,λ{P'} H'=>?_⟩;clear e;rename_i n;clear n;have go:∀{kvs:aa (Key×V)}{ds:aa (D×D)},i_ P H kvs ds->bL P' H' (kvs.map λp=>kV p.1) (nZ ds):=by
   intro kvs ds r;induction kvs generalizing ds with
   |nil=>cases r;exact .nil
   |cons p kvs ih=>cases r with
    |@cons k v d r ds h t=>exact .cons (by cases k<;>first|exact .int _|exact .str _) (ih t)
  exact go rk
 |dT e _ rt _=>
  cases rt with
  |nil=>exact⟨_,[],_,rfl,.inr ⟨rfl,e⟩,e,rfl,λH'=>.nil⟩
  |cons r t=>simp[isTup] at hb
end
variable [KFrag]
theorem aCm{ρ:aa D}{f:D->D}(h:f .uD=.uD)(j:af):(ρ.map f).getD j .uD=f (ρ.getD j .uD):=by
 rw[c9,c9,lm];cases ρ[j]? with
 |none=>exact h.symm
 |some d=>rfl
theorem aN6(E:ER H σ ρ)(hσ:σ[i]?=ab (ab (.ref a)))(r:Rep All H (.ref a) (.dct ds))(hua:H a=ab u)(hmu:RM u=ae)(hp:D.aW (ds.map (·.2))=ae):ER (upd H a (.frz o u)) σ (fzD i ds ρ):=by
 have hna:∀ob,H a=ab ob->Y9 ob=ae:=λxs z=>by rw[hua] at z;cases z;cases u<;>first|rfl|cases hmu
 intro j hj;unfold fzD at hj ⊢;rw[dM] at hj ⊢;by_cases h:i=j/\i<(ρ.map λd=>if d.pure then d else .uD).length
 ·rw[au h];obtain⟨rfl,_⟩:=h;exact⟨_,hσ,aKd r hua hp⟩
 ·rw[az h] at hj ⊢;rw[aCm 0x3] at hj ⊢;by_cases hpu:(ρ.getD j .uD).pure=ae
  ·rw[au hpu] at hj ⊢;obtain⟨v,h1,h2⟩:=E j hj;exact⟨v,h1,CV hna h2 hpu⟩
  ·rw[az hpu] at hj;exact bg rfl hj
section
variable {x c y:Str}
theorem aCn(S:cL X.N X.env.scope scope [c])(hn:X.N.length=n)(hcalm:X.calm=ae)(hN:X.N[i]?=ab x)(hv:Vis X.env.scope x)(hg:∀y,PG (mkC X scope [c] y) (.Name c cpos) (uP n))(hc:∀y,PT (mkC X scope [c] y) cnd (gT gc))(he:∀y,PE (mkC X scope [c] y) elt (gE fe re))
 (hs:∀z,fw (.Name x np) X.env z=pure z)(ho:own iy=o)(hNn:X.N.Nodup)(hiy:X.N[iy]?=ab y)(hxy:Loc X.env.scope y)(hfy:X.fn y=ae\/X.env.scope.names.lookup y=ab .local)(hsw:eI (.ListComp elt [⟨.Name c cpos,.Name x np,[cnd],0⟩] scope pos) (ab (.Name y py)) pos2.line X.env=pure ae)
 (hd:nDb x:=by decide)(hcd:nCd x:=by decide) :
  PS X (.Assign [.Name y py] (.ListComp elt [⟨.Name c cpos,.Name x np,[cnd],0⟩] scope pos) pos2) (tS own (bO o iy (R_ n i gQ gc fe) ae)):=by
 intro pins s σ H Dn I h;obtain⟨ρ,d,E,hcomp,q⟩:=B_ ho h;obtain⟨d0,h1,h2⟩:=bI hcomp;obtain⟨v,hσ,r,ed⟩:=E.var h1;split at h2
 ·rename_i ds;split at h2
  ·rename_i hb;rw[bq,bq] at hb;obtain⟨ys,h3,h4⟩:=bI h2;cases h4;obtain⟨a,kvs,u,rfl,hu,hua,hmu,rk⟩:=aN5 r hb.2.1;have hlen:kvs.length=(nZ ds).length:=by have:=(rk (P':=All) H).length;simpa using this
   have hlim:(nZ ds).length<=lim:=by unfold nZ;rw[bd];exact eW hb.1
   have hno:=aCl I hu;have hσl:σ.length=n:=I.len.trans hn;have tg:=d_ n;refine thn (JL S hcalm (aG6 hN hv hd hcd) (λX' cc=>by obtain⟨y,rfl⟩:=lC cc;exact hg y) (λX' cc=>by obtain⟨y,rfl⟩:=lC cc;exact hc y) (λX' cc=>by obtain⟨y,rfl⟩:=lC cc;exact he y) hs hNn hiy hxy hfy hsw pins s σ H
    {Dn with nx:=λσ' H'=>∃o,H' a=ab (.frz o u)/\Dn.nx σ' (upd H' a u)} I ⟨a,kvs,u,hσ,hu,hua,λo p hp=>?_⟩) λf s' hq=>?_
   ·have hpa:p≠a:=λz=>by subst z;rw[aM] at hp;cases hp
    have hp0:H p=aj:=by rw[bF hpa] at hp;exact hp
    have EF:ER (upd H a (.frz o u)) σ (fzD i ds ρ):=aN6 E hσ r hua hmu hb.2.2;refine⟨λi' n' vs H'=>n'=kvs.length-i'/\i'<=kvs.length/\H' p=ab (.lst vs)/\cG (upd H a (.frz o u)) H'/\∃acc,acc.length<=i'/\D.aW acc=ae/\bL All H' vs acc/\fY (jM n gQ gc fe ag (fzD i ds ρ)) acc ((nZ ds).drop i')=.ok ys,⟨kvs.length,rfl,di _,aM,cG.upd hp,[],di _,rfl,.nil,h3⟩,?_⟩;rintro i' n' vs H' ⟨rfl,hi,hH,sm,acc,hal,pacc,racc,hf⟩;have ea:H' a=ab (.frz o u):=sm a _ aM;refine⟨hH,?_⟩;rcases t0 i' kvs.length with hlt|hge
    ·refine .inr ⟨⟨ea,_,eh hlt⟩,?_,λx H2 hy=>?_⟩
     ·rw[racc.length];exact yk hal (dm (hlen▸hlt) (dw hlim (by rw[dE];decide)))
     ·obtain⟨rfl,pr,hx,rfl⟩:=hy;have hlt2:i'<(nZ ds).length:=hlen▸hlt;obtain⟨dx,hdx,rx⟩:=(rk H2).at (i:=i') (v:=kV pr.1) (by simp[hx]);have edx:(nZ ds)[i']=dx:=by
       have:=eh hlt2;rw[hdx] at this;exact(cq this).symm
      rw[jI hlt2,edx] at hf;obtain⟨acc2,hs,hf⟩:=bI hf;obtain⟨bs,hbs,hs⟩:=bI hs;obtain⟨ok,hok,hs⟩:=bI hs;refine tg (kV pr.1) dx bs σ H2 _ hσl rx hbs λσ2 hx2 hbs2=>⟨hx2,?_⟩
      have E2:ER H2 σ2 (N8 n (fzD i ds ρ)++bs):=(EF.same sm).ext hσl hx2 hbs2;refine⟨_,ok,E2,hok,λH4 s4=>?_⟩;cases ok with
      |true=>
       rw[au rfl];rw[au rfl] at hs;obtain⟨yy,hy2,hs⟩:=bI hs;split at hs
       ·rename_i hk;cases hs;have py:yy.pure=ae:=by simpa using hk
        refine⟨_,yy,E2.same s4,hy2,λw H5 s5 r5 n5=>⟨s5 p _ (s4 p _ hH),kvs.length-(i'+1),by lia,rfl,hlt,aM,?_,acc++[yy],?_,tG pacc py,?_,hf⟩⟩
        ·exact λb ob e=>by
          rw[bF (cW e hp)];exact s5 b ob (s4 b ob (sm b ob e))
        ·rw[cx,xi];lia
        ·have hp5:H5 p=ab (.lst vs):=s5 p _ (s4 p _ hH);have hpn:∀ob,H5 p=ab ob->Y9 ob=ae:=λxs z=>by rw[hp5] at z;cases z;rfl
         exact JP hpn ((racc.same (s4.trans s5)).snoc r5) (tG pacc py)
       ·exact bx hs
      |false=>
       rw[az 0x2];rw[az 0x2] at hs;cases hs;exact⟨kvs.length-(i'+1),by lia,rfl,hlt,s4 p _ hH,sm.trans s4,acc,by lia,pacc,racc.same s4,hf⟩
    ·refine .inl ⟨⟨ea,hge⟩,o,ea,?_⟩;rw[mT 0x1] at hf;cases hf;have hna:∀ob,H' a=ab ob->Y9 ob=ae:=λxs z=>by rw[ea] at z;cases z;rcases hu with h|⟨_,h⟩<;>(rw[hua] at h;cases h;rfl)
     have sF:cG H (upd H' a u):=λb ob e=>by
      by_cases hba:b=a
      ·subst hba;rw[aM,<-hua];exact e
      ·rw[bF hba];exact sm b ob (by rw[bF hba];exact e)
     have hpF:upd H' a u p=ab (.lst vs):=by rw[bF hpa];exact hH
     have rF:∀{P:ak->Prop},bL P (upd H' a u) vs ys:=λ{P}=>(JP hna racc pacc).bT pacc
     exact q _ _ sF (.lst hpF trivial rF) λ_=>.lst hpF hp0 rF
   ·cases f with
    |next=>
     obtain⟨σ',H',I',o,ea,q'⟩:=hq;exact⟨σ',_,aCk I' ea hno,q'⟩
    |brk=>exact hq
    |cont=>exact hq
    |ret u=>exact hq
  ·exact bx h2
 ·exact bx h2
end
end Mi
namespace Wz
open PySem PySem.Spec
noncomputable abbrev itO(t:ak)(i:af):aT:={cls:=.type "tuple_iterator",data:=.fields #[.ref t,.int i 0]}
noncomputable abbrev tuO(xs:aw ah)(n:af)(dd:ax ak)(sl:aw (ax ah)):aT:={cls:=.type "tuple",dict:=dd,data:=.seq xs n,slots:=sl}
abbrev zpO(f0 f1:ah)(TI TO:ak):aT:={cls:=.type "zip",data:=.fields #[f0,f1,.bool ag,.ref TI,.ref TO]}
noncomputable abbrev prO(a b:ah):aT:={cls:=.type "tuple",data:=.seq #[a,b]}
theorem V4(it t:ak)(i:af)(xs:aw ah)(n:af)(dd:ax ak)(sl:aw (ax ah))(x:ah)(hx:xs[i]?=ab x) :
  ix (Builtin.«tuple_iterator.__next__» ⟨[.ref it],[]⟩) (λ_ R s=>s.heap.get? it=ab (itO t i)/\s.heap.get? t=ab (tuO xs n dd sl)/\R (.ok (.ret x)) {s with heap:=s.heap.update it (Obj.mapFields (·.setIfInBounds 1 (dA (i+1))))}):=.of_wp λprog w A R s hs=>by
 obtain⟨hp,g,d,tk,os⟩:=s;obtain⟨e1,e2,hq⟩:=hs
 wp_walk
 rw[ym,hx]
 wp_walk
 exact⟨_,rfl,hq⟩
theorem V5(it t:ak)(i:af)(xs:aw ah)(n:af)(dd:ax ak)(sl:aw (ax ah))(hx:xs[i]?=aj) :
  ix (Builtin.«tuple_iterator.__next__» ⟨[.ref it],[]⟩) (λA R s=>A.handled=aj/\s.heap.get? it=ab (itO t i)/\s.heap.get? t=ab (tuO xs n dd sl)/\∀h' e,B2 it s.heap h'->(∃o,h'.get? e=ab o/\o.cls=.type "StopIteration")->R (.error (.ref e)) {s with heap:=h'}):=.of_wp λprog w A R s hs=>by
 obtain⟨hp,g,d,tk,os⟩:=s;obtain⟨hh,e1,e2,hq⟩:=hs
 wp_walk
 rw[ym,hx]
 wp_walk
 have hh1:A.in1.handled=aj:=hh;unfold raiseNew
 wp_walk
 exact hq _ _ (((B3 ..).extBut.push _).push _) ⟨_,cS _ rfl,rfl⟩
section
variable {prog:bp} {w:bh} {A:bu} {E:ah->al->Prop} {s:al} {it t:ak} {i:af} {xs:aw ah} {x:ah} {n:af} {dd:ax ak} {sl:aw (ax ah)}
theorem drawn{Q:ah->al->Prop}(e1:s.heap.get? it=ab (itO t i))(e2:s.heap.get? t=ab (tuO xs n dd sl))(hx:xs[i]?=ab x)
 (q:∀h',h'.get? it=ab (itO t (i+1))->hG it s.heap h'->Q x {s with heap:=h'}):wpAny (av prog w) A (ma (.ref it)) Q E s:=by
 have ty:s.TypeIs (.ref it) "tuple_iterator":=⟨_,e1,rfl⟩
 refine ao (mw ty ur ?_);refine jx ur ty B4 (B5 _) (V4 it t i xs n dd sl x hx) ⟨e1,e2,aS (q _ ?_ (B3 ..))⟩;exact ke _ e1 rfl
theorem over{Q:ah->al->Prop}(hh:A.handled=aj)(e1:s.heap.get? it=ab (itO t i))(e2:s.heap.get? t=ab (tuO xs n dd sl))(hx:xs[i]?=aj)
 (q:∀h' e,B2 it s.heap h'->(∃o,h'.get? e=ab o/\o.cls=.type "StopIteration")->E (.ref e) {s with heap:=h'}):wpAny (av prog w) A (ma (.ref it)) Q E s:=by
 have ty:s.TypeIs (.ref it) "tuple_iterator":=⟨_,e1,rfl⟩
 refine ao (mw ty ur ?_);exact jx ur ty B4 (B5 _) (V5 it t i xs n dd sl hx) ⟨hh,e1,e2,λh' e k o=>q h' e k o⟩
end
structure Apart(z TI TO i1 i2 l1 l2:ak):Prop where
 zTI:z≠TI
 zTO:z≠TO
 z1:z≠i1
 z2:z≠i2
 zl:z≠l1
 zm:z≠l2
 TT:TI≠TO
 T1:TI≠i1
 T2:TI≠i2
 O1:TO≠i1
 O2:TO≠i2
 Ol:TO≠l1
 Om:TO≠l2
 ij:i1≠i2
 il:i1≠l1
 im:i1≠l2
 jl:i2≠l1
 jm:i2≠l2
structure W(z TI TO i1 i2 l1 l2:ak)(o1 o2:aT)(f0 f1 a b:ah)(k1 k2:af)(h:aI):Prop where
 z_:h.get? z=ab (zpO f0 f1 TI TO)
 ti:h.get? TI=ab (prO (.ref i1) (.ref i2))
 to:h.get? TO=ab (prO a b)
 j1:h.get? i1=ab (itO l1 k1)
 j2:h.get? i2=ab (itO l2 k2)
 t1:h.get? l1=ab o1
 t2:h.get? l2=ab o2
section
variable {z TI TO i1 i2 l1 l2:ak} {o1 o2:aT} {f0 f1 g0 g1 a b c d:ah} {k1 k2:af} {h h':aI}
theorem W.onZ(x:W z TI TO i1 i2 l1 l2 o1 o2 f0 f1 a b k1 k2 h)(ap:Apart z TI TO i1 i2 l1 l2)(e:h'.get? z=ab (zpO g0 g1 TI TO))(k:hG z h h'):W z TI TO i1 i2 l1 l2 o1 o2 g0 g1 a b k1 k2 h':=
 ⟨e,(k.2 _ ap.zTI.symm).trans x.ti,(k.2 _ ap.zTO.symm).trans x.to,(k.2 _ ap.z1.symm).trans x.j1,(k.2 _ ap.z2.symm).trans x.j2,(k.2 _ ap.zl.symm).trans x.t1,(k.2 _ ap.zm.symm).trans x.t2⟩
theorem W.onT(x:W z TI TO i1 i2 l1 l2 o1 o2 f0 f1 a b k1 k2 h)(ap:Apart z TI TO i1 i2 l1 l2)(e:h'.get? TO=ab (prO c d))(k:hG TO h h'):W z TI TO i1 i2 l1 l2 o1 o2 f0 f1 c d k1 k2 h':=
 ⟨(k.2 _ ap.zTO).trans x.z_,(k.2 _ ap.TT).trans x.ti,e,(k.2 _ ap.O1.symm).trans x.j1,(k.2 _ ap.O2.symm).trans x.j2,(k.2 _ ap.Ol.symm).trans x.t1,(k.2 _ ap.Om.symm).trans x.t2⟩
theorem W.on1{k:af}(x:W z TI TO i1 i2 l1 l2 o1 o2 f0 f1 a b k1 k2 h)(ap:Apart z TI TO i1 i2 l1 l2)(e:h'.get? i1=ab (itO l1 k))(s:hG i1 h h'):W z TI TO i1 i2 l1 l2 o1 o2 f0 f1 a b k k2 h':=
 ⟨(s.2 _ ap.z1).trans x.z_,(s.2 _ ap.T1).trans x.ti,(s.2 _ ap.O1).trans x.to,e,(s.2 _ ap.ij.symm).trans x.j2,(s.2 _ ap.il.symm).trans x.t1,(s.2 _ ap.im.symm).trans x.t2⟩
theorem W.on2{k:af}(x:W z TI TO i1 i2 l1 l2 o1 o2 f0 f1 a b k1 k2 h)(ap:Apart z TI TO i1 i2 l1 l2)(e:h'.get? i2=ab (itO l2 k))(s:hG i2 h h'):W z TI TO i1 i2 l1 l2 o1 o2 f0 f1 a b k1 k h':=
 ⟨(s.2 _ ap.z2).trans x.z_,(s.2 _ ap.T2).trans x.ti,(s.2 _ ap.O2).trans x.to,(s.2 _ ap.ij).trans x.j1,e,(s.2 _ ap.jl.symm).trans x.t1,(s.2 _ ap.jm.symm).trans x.t2⟩
theorem W.up(x:W z TI TO i1 i2 l1 l2 o1 o2 f0 f1 a b k1 k2 h)(k:∀c o,c=z\/c=TI\/c=TO\/c=i1\/c=i2\/c=l1\/c=l2->h.get? c=ab o->h'.get? c=ab o):W z TI TO i1 i2 l1 l2 o1 o2 f0 f1 a b k1 k2 h':=
 ⟨k _ _ 0x2 x.z_,k _ _ 0x2 x.ti,k _ _ 0x2 x.to,k _ _ 0x2 x.j1,k _ _ 0x2 x.j2,k _ _ 0x2 x.t1,k _ _ 0x2 x.t2⟩
end
def aCo(z TO i1 i2:ak)(h h':aI):Prop:=∀c o,c≠z->c≠TO->c≠i1->c≠i2->h.get? c=ab o->h'.get? c=ab o
section
variable {s:al} {z TI TO i1 i2 l1 l2:ak} {f0 f1 a b:ah}
theorem W.ty{o1 o2:aT}{k1 k2:af}(hw:W z TI TO i1 i2 l1 l2 o1 o2 f0 f1 a b k1 k2 s.heap):s.TypeIs (.ref z) "zip":=⟨_,hw.z_,rfl⟩
end
noncomputable abbrev nxt(z:ak):dt yn:=Builtin.«zip.__next__» ⟨[.ref z],[]⟩
abbrev Got(Q:ah->al->Prop):yn->al->Prop:=λr t=>∃v,r=.done (.ret v)/\Q v t
section
theorem there(e:s.heap.get? c=ab o)(q:Q (ab o) s):wpAny (av prog w) A (loadIfAlive c) Q E s:=λΓ p _=>by
 show Sem.wp _ Γ (.loadIfAlive c pure) _ _ p s;rw[Sem.wp_loadIfAlive,e];exact q
theorem keptAt(j:af)(v c d:ah)(hw:W z TI TO i1 i2 l1 l2 o1 o2 f0 f1 a b k1 k2 s.heap)(ap:Apart z TI TO i1 i2 l1 l2)(hj:(#[a,b]:aw ah).setIfInBounds j v=#[c,d])
 (q:∀h',W z TI TO i1 i2 l1 l2 o1 o2 f0 f1 c d k1 k2 h'->hG TO s.heap h'->Q () {s with heap:=h'}):wpAny (av prog w) A (jo TO (·.setIfInBounds j v)) Q E s:=
 wpAny_updateSeq_pair hw.to λh' e sb=>q h' (hw.onT ap (by rw[e,hj]) sb) sb
theorem first(ap:Apart z TI TO i1 i2 l1 l2)(hw:W z TI TO i1 i2 l1 l2 (tuO xs n1 d1 s1) (tuO ys n2 d2 s2) .none (.bool ag) a b k k s.heap)(hx:xs[k]?=ab x)(hy:ys[k]?=ab y)
 (q:∀(h':aI) (p:ak),W z TI TO i1 i2 l1 l2 (tuO xs n1 d1 s1) (tuO ys n2 d2 s2) (dA p) (.bool ag) x y (k+1) (k+1) h'->h'.get? p=ab (prO x y)->p=s.heap.objs.size->aCo z TO i1 i2 s.heap h'->Q (.ref p) {s with heap:=h'}) :
  wpAny (av prog w) A (nxt z) (Got Q) E s:=by
 refine ao (m:=ut (.ref z) 2) (fz hw.z_ rfl rfl (ao (fz hw.z_ rfl rfl (ao (fI hw.ti rfl ?_)))));refine ao (ao (fz hw.z_ rfl (x:=.none) rfl (aS ?_)));rw[au rfl];refine ao (ig (ao (fz hw.z_ rfl (x:=.ref TO) rfl (ao (nh hw.z_ 0x2 λh1 e1 k1=>?_)))));have w1:W z TI TO i1 i2 l1 l2 (tuO xs n1 d1 s1) (tuO ys n2 d2 s2) .ellipsis (.bool ag) a b k k h1:=hw.onZ ap e1 k1;simp only[xn,B6,oz,kL];refine ao (ao (ao (yo (ao (m:=ma (.ref i1)) (drawn w1.j1 w1.t1 hx λh2 e2 k2=>aS ?_)))));have w2:=w1.on1 ap e2 k2;refine ao (fI w2.to rfl (ao (keptAt 0 x x b w2 ap rfl λh3 w3 k3=>ao (iz (aS ?_)))));refine ao (ao (yo (ao (m:=ma (.ref i2)) (drawn w3.j2 w3.t2 hy λh4 e4 k4=>aS ?_))));have w4:=w3.on2 ap e4 k4;refine ao (fI w4.to rfl (ao (keptAt 1 y x y w4 ap rfl λh5 w5 k5=>ao (iz (aS (aS ?_))))));have sd:aCo z TO i1 i2 s.heap h5:=λc o c1 c2 c3 c4 e=>(k5.2 c c2).trans ((k4.2 c c4).trans ((k3.2 c c2).trans ((k2.2 c c3).trans ((k1.2 c c1).trans e))))
 have sz:h5.objs.size=s.heap.objs.size:=by rw[k5.1,k4.1,k3.1,k2.1,k1.1]
 refine ao (fI w5.to rfl (ao (xS ?_)));have w6:W z TI TO i1 i2 l1 l2 (tuO xs n1 d1 s1) (tuO ys n2 d2 s2) .ellipsis (.bool ag) x y (k+1) (k+1) (h5.push (prO x y)):=w5.up λc o _ e=>bz _ e
 refine ao (m:=Db (.ref z) (.ref h5.objs.size)) (ao (nh w6.z_ 0x2 λh7 e7 k7=>?_));have w7:W z TI TO i1 i2 l1 l2 (tuO xs n1 d1 s1) (tuO ys n2 d2 s2) (dA h5.objs.size) (.bool ag) x y (k+1) (k+1) h7:=w6.onZ ap e7 k7;refine nh w7.z_ 0x2 λh8 e8 k8=>aS ⟨_,rfl,?_⟩
 have w8:W z TI TO i1 i2 l1 l2 (tuO xs n1 d1 s1) (tuO ys n2 d2 s2) (dA h5.objs.size) (.bool ag) x y (k+1) (k+1) h8:=w7.onZ ap e8 k8;have nz:h5.objs.size≠z:=iF (bE w5.z_);exact q h8 _ w8 ((k8.2 _ nz).trans ((k7.2 _ nz).trans (cS _ rfl))) sz λc o c1 c2 c3 c4 e=>(k8.2 c c1).trans ((k7.2 c c1).trans (bz _ (sd c o c1 c2 c3 c4 e)))
theorem aCp(hh:A.handled=aj)(ap:Apart z TI TO i1 i2 l1 l2)(hw:W z TI TO i1 i2 l1 l2 (tuO xs n1 d1 s1) (tuO ys n2 d2 s2) .none (.bool ag) a b k k s.heap)(hx:xs[k]?=aj)
 (q:∀h' e,aCo z TO i1 i2 s.heap h'->(∃o,h'.get? e=ab o/\o.cls=.type "StopIteration")->E (.ref e) {s with heap:=h'}) :
  wpAny (av prog w) A (nxt z) Q E s:=by
 refine ao (m:=ut (.ref z) 2) (fz hw.z_ rfl rfl (ao (fz hw.z_ rfl rfl (ao (fI hw.ti rfl ?_)))));refine ao (m:=yp (.ref z)) (ao (fz hw.z_ rfl (x:=.none) rfl (aS ?_)));rw[au rfl];refine ao (ig (ao (fz hw.z_ rfl (x:=.ref TO) rfl (ao (nh hw.z_ 0x2 λh1 e1 k1=>?_)))));have w1:W z TI TO i1 i2 l1 l2 (tuO xs n1 d1 s1) (tuO ys n2 d2 s2) .ellipsis (.bool ag) a b k k h1:=hw.onZ ap e1 k1;simp only[xn,B6,oz,kL];refine ao (ao (ao (yo (ao (m:=ma (.ref i1)) (over hh w1.j1 w1.t1 hx λh2 e k2 he=>?_)))));obtain⟨oe,he,hc⟩:=he;have ez:h2.get? z=ab (zpO .ellipsis (.bool ag) TI TO):=k2 _ _ ap.z1 w1.z_;have hez:e≠z:=λv=>by
  rw[v,ez] at he;cases he;exact bg (show fT "zip"=fT "StopIteration" from hc) 0x4
 exact nh ez 0x2 λh3 _ k3=>q h3 e (λc o c1 _ c3 _ v=>(k3.2 c c1).trans (k2 c o c3 ((k1.2 c c1).trans v))) ⟨oe,(k3.2 e hez).trans he,hc⟩
theorem taken{T:ak}(ap:Apart z TI TO i1 i2 l1 l2)(hw:W z TI TO i1 i2 l1 l2 o1 o2 (dA T) (.bool bb) a b k1 k2 s.heap)(hT:s.heap.get? T=ab oT)
 (q:∀h',W z TI TO i1 i2 l1 l2 o1 o2 (dA T) (.bool ae) a b k1 k2 h'->hG z s.heap h'->Q ag {s with heap:=h'}):wpAny (av prog w) A (yp (.ref z)) Q E s:=by
 refine ao (fz hw.z_ rfl rfl (ao (there hT ?_)));refine ao (fz hw.z_ rfl rfl ?_);cases bb
 ·exact ao (nh hw.z_ 0x2 λh1 e1 k1=>aS (q h1 (hw.onZ ap e1 k1) k1))
 ·exact aS (q _ hw (Dc _ _))
theorem more{T:ak}{bb:aq}{oT:aT}{Q:ah->al->Prop}(ap:Apart z TI TO i1 i2 l1 l2)(hw:W z TI TO i1 i2 l1 l2 (tuO xs n1 d1 s1) (tuO ys n2 d2 s2) (dA T) (.bool bb) a b k k s.heap)(hT:s.heap.get? T=ab oT)(hx:xs[k]?=ab x)(hy:ys[k]?=ab y)
 (q:∀h' p,W z TI TO i1 i2 l1 l2 (tuO xs n1 d1 s1) (tuO ys n2 d2 s2) (dA T) (.bool ae) a b (k+1) (k+1) h'->h'.get? p=ab (prO x y)->aCo z TO i1 i2 s.heap h'->Q (.ref p) {s with heap:=h'}) :
  wpAny (av prog w) A (nxt z) (Got Q) E s:=by
 refine ao (m:=ut (.ref z) 2) (fz hw.z_ rfl rfl (ao (fz hw.z_ rfl rfl (ao (fI hw.ti rfl ?_)))));refine ao (m:=yp (.ref z)) (taken ap hw hT λh1 w1 k1=>?_);rw[az lc];dsimp only;rw[<-B7];simp only[oz,kL];refine ao (ao (ao (fg (ao (m:=ma (.ref i1)) (drawn w1.j1 w1.t1 hx λh2 e2 k2=>aS (aS ?_))))));have w2:=w1.on1 ap e2 k2;refine ao (ao (fg (ao (m:=ma (.ref i2)) (drawn w2.j2 w2.t2 hy λh3 e3 k3=>aS (aS (aS ?_))))));have w3:=w2.on2 ap e3 k3;refine ao (xS (aS ⟨_,rfl,?_⟩) (hsz:=by show(2:af)<=bn;decide));exact q _ _ (w3.up λc o _ e=>bz _ e) (cS _ rfl) λc o c1 c2 c3 c4 e=>bz _ ((k3.2 c c4).trans ((k2.2 c c3).trans ((k1.2 c c1).trans e)))
theorem aG7{T:ak}{bb:aq}{oT:aT}{Q:Fin->al->Prop}(hh:A.handled=aj)(ap:Apart z TI TO i1 i2 l1 l2)(hw:W z TI TO i1 i2 l1 l2 (tuO xs n1 d1 s1) (tuO ys n2 d2 s2) (dA T) (.bool bb) a b k k s.heap)(hT:s.heap.get? T=ab oT)(hx:xs[k]?=aj)
 (q:∀h' e,aCo z TO i1 i2 s.heap h'->(∃o,h'.get? e=ab o/\o.cls=.type "StopIteration")->E (.ref e) {s with heap:=h'}) :
  wpAny (av prog w) A (nxt z) Q E s:=by
 refine ao (m:=ut (.ref z) 2) (fz hw.z_ rfl rfl (ao (fz hw.z_ rfl rfl (ao (fI hw.ti rfl ?_)))));refine ao (taken ap hw hT λh1 w1 k1=>?_);rw[az lc];dsimp only;rw[<-B7];simp only[oz,kL];exact ao (ao (ao (fg (ao (over hh w1.j1 w1.t1 hx λh2 e k2 he=>q h2 e (λc o c1 _ c3 _ v=>k2 c o c3 ((k1.2 c c1).trans v)) he)))))
end
theorem five(h:aI)(a b c d e:aT)(fa:a.isFreed=ag)(fb:b.isFreed=ag)(fc:c.isFreed=ag)(fd:d.isFreed=ag)(fe:e.isFreed=ag) :
  (((((h.push a).push b).push c).push d).push e).get? h.objs.size=ab a/\(((((h.push a).push b).push c).push d).push e).get? (h.objs.size+1)=ab b/\(((((h.push a).push b).push c).push d).push e).get? (h.objs.size+2)=ab c/\(((((h.push a).push b).push c).push d).push e).get? (h.objs.size+3)=ab d/\(((((h.push a).push b).push c).push d).push e).get? (h.objs.size+4)=ab e/\
  (∀x o,h.get? x=ab o->(((((h.push a).push b).push c).push d).push e).get? x=ab o)/\(((((h.push a).push b).push c).push d).push e).objs.size=h.objs.size+5:=by
 have z1:(h.push a).objs.size=h.objs.size+1:=dL ..;have z2:((h.push a).push b).objs.size=h.objs.size+2:=(dL ..).trans (by rw[z1]);have z3:(((h.push a).push b).push c).objs.size=h.objs.size+3:=(dL ..).trans (by rw[z2]);have z4:((((h.push a).push b).push c).push d).objs.size=h.objs.size+4:=(dL ..).trans (by rw[z3]);have up:∀{h:aI}{x:ak}{o q:aT},h.get? x=ab o->(h.push q).get? x=ab o:=λe=>bz _ e
 have g2:=cS (h.push a) (o:=b) fb;have g3:=cS ((h.push a).push b) (o:=c) fc;have g4:=cS (((h.push a).push b).push c) (o:=d) fd;have g5:=cS ((((h.push a).push b).push c).push d) (o:=e) fe;rw[z1] at g2;rw[z2] at g3;rw[z3] at g4;rw[z4] at g5;exact⟨up (up (up (up (cS h fa)))),up (up (up g2)),up (up g3),up g4,g5,λx o q=>up (up (up (up (up q)))),(dL ..).trans (by rw[z4])⟩
theorem aA5(t u:ak)(xs ys:aw ah) :
  ix (Builtin.«zip.__new__» ⟨[.type "zip",.ref t,.ref u],[]⟩) (λ_ R s=>s.heap.IsTuple t xs/\s.heap.IsTuple u ys/\∀h' n,n=s.heap.objs.size->h'.get? n=ab (itO t 0)->h'.get? (n+1)=ab (itO u 0)->h'.get? (n+2)=ab (prO (.ref n) (.ref (n+1)))->h'.get? (n+3)=ab (prO .none .none)->h'.get? (n+4)=ab (zpO .none (.bool ag) (n+2) (n+3))->
   (∀x o,s.heap.get? x=ab o->h'.get? x=ab o)->h'.objs.size=n+5->R (.ok (.ret (.ref (n+4)))) {s with heap:=h'}):=
 .of_wp λprog w A R s hs=>by
  obtain⟨hp,g,d,tk,os⟩:=s;obtain⟨ht,hu,q⟩:=hs;have sub:=sub_zip;have p1:uv (uz ⟨hp,g,d,tk,os⟩) t xs:=ht;have p2:uv (uz ⟨hp.push {cls:=.type "tuple_iterator",data:=.fields #[.ref t,.int 0 0]},g,d,tk,os⟩) u ys:=Dd hu _;have f:=five hp (itO t 0) (itO u 0) (prO (.ref hp.objs.size) (.ref (hp.objs.size+1))) (prO .none .none) (zpO .none (.bool ag) (hp.objs.size+2) (hp.objs.size+3)) rfl rfl rfl rfl rfl
  wp_walk using jq p1,jq p2
  refine⟨_,rfl,?_⟩;have fin:=q _ hp.objs.size rfl f.1 f.2.1 f.2.2.1 f.2.2.2.1 f.2.2.2.2.1 f.2.2.2.2.2.1 f.2.2.2.2.2.2;have gen:∀m1 m2 m3 m4:af,m1=hp.objs.size+1->m2=hp.objs.size+2->m3=hp.objs.size+3->m4=hp.objs.size+4->R (.ok (.ret (.ref m4))) ⟨((((hp.push (itO t 0)).push (itO u 0)).push (prO (.ref hp.objs.size) (.ref m1))).push (prO .none .none)).push (zpO .none (.bool ag) m2 m3),g,d,tk,os⟩:=by
   intro m1 m2 m3 m4 q1 q2 q3 q4;subst q1 q2 q3 q4;exact fin
  exact gen _ _ _ _ (dL ..) ((dL ..).trans (dl (·+1) (dL ..))) ((dL ..).trans (dl (·+1) ((dL ..).trans (dl (·+1) (dL ..))))) ((dL ..).trans (dl (·+1) ((dL ..).trans (dl (·+1) ((dL ..).trans (dl (·+1) (dL ..)))))))
section
variable {prog:bp} {w:bh} {A:bu} {E:ah->al->Prop} {s:al}
theorem aKe{t u:ak}{xs ys:aw ah}{Q:ah->al->Prop}(ht:s.heap.IsTuple t xs)(hu:s.heap.IsTuple u ys)
 (q:∀h' n,n=s.heap.objs.size->h'.get? n=ab (itO t 0)->h'.get? (n+1)=ab (itO u 0)->h'.get? (n+2)=ab (prO (.ref n) (.ref (n+1)))->h'.get? (n+3)=ab (prO .none .none)->h'.get? (n+4)=ab (zpO .none (.bool ag) (n+2) (n+3))->
   (∀x o,s.heap.get? x=ab o->h'.get? x=ab o)->h'.objs.size=n+5->Q (.ref (n+4)) {s with heap:=h'}) :
  wpAny (av prog w) A (call (.type "zip") [.ref t,.ref u]) Q E s:=
 B8 F.called_zip 0x4 (F.typeCall_zip_2 _ _) (F.newCall_zip_2 _ _) (λobj=>F.args_object_init_3 obj _ _) F.entry_zip_new (aA5 t u xs ys)
  ⟨ht,hu,λh' n e a1 a2 a3 a4 a5 k z=>⟨⟨_,a5,rfl⟩,q h' n e a1 a2 a3 a4 a5 k z⟩⟩
end
theorem JR:kA (.type "zip") "keys"=pure aj:=by rw[kN,kP];kernel_rfl
theorem noGet:kA (.type "zip") "__getattr__"=pure aj:=by rw[kN,kP];kernel_rfl
theorem JS:uS u3 "zip.__getattribute__"=ab Builtin.«object.__getattribute__»:=yq (id':= "object.__getattribute__") 0x8 0x6 0x6 0x8
theorem jR(a:ak)(f0 f1:ah)(TI TO:ak)(u:eB):ix (Builtin.«object.__getattribute__» ⟨[.ref a,.str "keys" u],[]⟩) (λA R s=>s.heap.get? a=ab (zpO f0 f1 TI TO)/\yr (.ref a) "keys" A R s):=.of_wp λprog w A R s hs=>by
 obtain⟨hp,g,d,tk,os⟩:=s;obtain⟨e,hh,q⟩:=hs;have ty:(⟨hp,g,d,tk,os⟩:al).TypeIs (.ref a) "zip":=⟨_,e,rfl⟩
 have no:=JR
 wp_walk
 exact yt hh q (yu 0x6 (by size_fits))
section
variable {prog:bp} {w:bh} {A:bu} {E:ah->al->Prop} {hp:aI} {g:aw ki} {d:kj} {tk:af} {os:ni} {a TI TO:ak} {f0 f1:ah}
theorem gone{u:eB}{kw:aa (Str×ah)}{Q:ah->al->Prop}(e:hp.get? a=ab (zpO f0 f1 TI TO))(hh:A.handled=aj)(hk:kw=[])(q:∀h' tk' x,yw hp h' x (.ref a) "keys"->E (.ref x) ⟨h',g,d,tk',os⟩) :
  wpAny (av prog w) A (call (.builtin "zip.__getattribute__") ([.ref a]++[.str "keys" u]) kw) Q E ⟨hp,g,d,tk,os⟩:=by
 subst hk;exact jx yx ⟨_,e,rfl⟩ JS (F.args_zip_getattribute_2 _ _) (jR a f0 f1 TI TO u) ⟨e,hh,λh' tk' x hx=>q h' tk' x hx⟩
theorem lacks{Q:ax ah->al->Prop}(e:hp.get? a=ab (zpO f0 f1 TI TO))(hh:A.handled=aj)(q:∀h' tk',(∀b o,hp.get? b=ab o->h'.get? b=ab o)->Q aj ⟨h',g,d,tk',os⟩):wpAny (av prog w) A (yz (.ref a) "keys") Q E ⟨hp,g,d,tk,os⟩:=by
 have ty:∀tk',(⟨hp,g,d,tk',os⟩:al).TypeIs (.ref a) "zip":=λ_=>⟨_,e,rfl⟩
 have f3:=yx.lookup;have f4:=yx.bind (.ref a);have f5:=noGet;have sub:=yA
 wp_walk using gone e hh
 case hk=>rfl
 intro h' tk' x hx;obtain⟨t,u,ex⟩:=hx.there;show wpAny _ _ (yB _ _ _ _ _ _ _) _ _ _
 wp_walk
 exact q _ _ hx.keeps
end
def ZS(z TI TO i1 i2 l1 l2:ak)(o1 o2:aT)(k:af)(h:aI):Prop:=∃f0 f1 a b,W z TI TO i1 i2 l1 l2 o1 o2 f0 f1 a b k k h/\
 ((f0=.none/\f1=.bool ag)\/∃(T:ak)(bb:aq)(u v:ah),f0=dA T/\f1=.bool bb/\h.get? T=ab (prO u v)/\T≠z/\T≠TO/\T≠i1/\T≠i2)
section
variable {prog:bp} {w:bh} {A:bu} {E:ah->al->Prop} {s:al} {z TI TO i1 i2 l1 l2 d:ak} {n1 n2:af} {d1 d2:ax ak} {s1 s2:aw (ax ah)} {x y:ah} {k:af} {xs ys:aw ah}
theorem apart{h:aI}{c d:ak}{o od:aT}{T:dy}(e:h.get? c=ab o)(hc:o.cls=.type T)(ed:h.get? d=ab od)(hd:od.cls=.type "dict")(ne:(fT T==fT "dict")=ag):c≠d:=λq=>by
 subst q;rw[e] at ed;cases ed;rw[hc] at hd;rw[hd] at ne;simp at ne
theorem ZS.keep{h h':aI}{od:aT}(Z:ZS z TI TO i1 i2 l1 l2 (tuO xs n1 d1 s1) (tuO ys n2 d2 s2) k h)(ed:h.get? d=ab od)(hd:od.cls=.type "dict")(e:∀c o,c≠d->h.get? c=ab o->h'.get? c=ab o):ZS z TI TO i1 i2 l1 l2 (tuO xs n1 d1 s1) (tuO ys n2 d2 s2) k h':=by
 obtain⟨f0,f1,a,b,hw,hf⟩:=Z;refine⟨f0,f1,a,b,⟨e _ _ (apart hw.z_ rfl ed hd 0x4) hw.z_,e _ _ (apart hw.ti rfl ed hd 0x4) hw.ti,e _ _ (apart hw.to rfl ed hd 0x4) hw.to,e _ _ (apart hw.j1 rfl ed hd 0x4) hw.j1,e _ _ (apart hw.j2 rfl ed hd 0x4) hw.j2,e _ _ (apart hw.t1 rfl ed hd 0x4) hw.t1,e _ _ (apart hw.t2 rfl ed hd 0x4) hw.t2⟩,?_⟩;rcases hf with hf|⟨T,bb,u,v,h1,h2,h3,h4⟩
 ·exact .inl hf
 ·exact .inr ⟨T,bb,u,v,h1,h2,e _ _ (apart h3 rfl ed hd 0x4) h3,h4⟩
theorem aG8{Q:ax ah->al->Prop}(ap:Apart z TI TO i1 i2 l1 l2)(Z:ZS z TI TO i1 i2 l1 l2 (tuO xs n1 d1 s1) (tuO ys n2 d2 s2) k s.heap)(hx:xs[k]?=ab x)(hy:ys[k]?=ab y)
 (q:∀h' p,ZS z TI TO i1 i2 l1 l2 (tuO xs n1 d1 s1) (tuO ys n2 d2 s2) (k+1) h'->h'.get? p=ab (prO x y)->aCo z TO i1 i2 s.heap h'->Q (ab (.ref p)) {s with heap:=h'}):wpAny (av prog w) A (hX (.ref z)) Q E s:=by
 obtain⟨f0,f1,a,b,hw,hf⟩:=Z;refine ao (yd (mw hw.ty u4 (sM u4 hw.ty B9 ?_ (Ca _))));rcases hf with ⟨rfl,rfl⟩|⟨T,bb,u,v,rfl,rfl,hT,t1,t2,t3,t4⟩
 ·refine first ap hw hx hy λh' p w' ep pp sd=>aS (q h' p ⟨_,_,_,_,w',.inr ⟨p,ag,x,y,rfl,rfl,ep,?_⟩⟩ ep sd)
  subst pp;have lt:∀{c o},s.heap.get? c=ab o->s.heap.objs.size≠c:=λe=>iF (bE e)
  exact⟨lt hw.z_,lt hw.to,lt hw.j1,lt hw.j2⟩
 ·exact more ap hw hT hx hy λh' p w' ep sd=>aS (q h' p ⟨_,_,_,_,w',.inr ⟨T,ae,u,v,rfl,rfl,sd _ _ t1 t2 t3 t4 hT,t1,t2,t3,t4⟩⟩ ep sd)
theorem aKf{Q:ax ah->al->Prop}(hh:A.handled=aj)(ap:Apart z TI TO i1 i2 l1 l2)(Z:ZS z TI TO i1 i2 l1 l2 (tuO xs n1 d1 s1) (tuO ys n2 d2 s2) k s.heap)(hx:xs[k]?=aj)
 (q:∀h',aCo z TO i1 i2 s.heap h'->Q aj {s with heap:=h'}):wpAny (av prog w) A (hX (.ref z)) Q E s:=by
 obtain⟨f0,f1,a,b,hw,hf⟩:=Z;refine ao (yd (mw hw.ty u4 (sM u4 hw.ty B9 ?_ (Ca _))));have stop:∀h' e,aCo z TO i1 i2 s.heap h'->(∃o,h'.get? e=ab o/\o.cls=.type "StopIteration")->wpAny (av prog w) A (do if <- isInstance (.ref e) (.type "StopIteration") then pure aj else throw (.ref e)) Q E {s with heap:=h'}:=λh' e sd he=>ao (Cb (T:= "StopIteration") (b:=ae) he isSubtype_stop (aS (q h' sd)))
 rcases hf with ⟨rfl,rfl⟩|⟨T,bb,u,v,rfl,rfl,hT,_⟩
 ·exact aCp hh ap hw hx λh' e sd he=>stop h' e sd he
 ·exact aG7 hh ap hw hT hx λh' e sd he=>stop h' e sd he
end
theorem lE:uS u3 "dict.update.loop"=ab Builtin.«dict.update.loop»:=entryFor_of_tree 0x8
section
variable {prog:bp} {w:bh} {K:Type} [dg K] {knd:KeyKind prog w K} {A:bu} {R:Except ah Flow->al->Prop} {z TI TO i1 i2 l1 l2 d:ak} {n1 n2:af} {d1 d2:ax ak} {s1 s2:aw (ax ah)} {xs ys:aw ah} {ks:aa K}
theorem rR(hh:A.handled=aj)(ap:Apart z TI TO i1 i2 l1 l2)(hdz:d≠z)(hdT:d≠TO)(hd1:d≠i1)(hd2:d≠i2)(hsz:ys.size=xs.size)(hk:∀(i:af) (x:ah),xs[i]?=ab x->∃k,ks[i]?=ab k/\knd.is k x=ae) :
  ∀(m k:af)(s:al)(kvs:aa (K×ah)),k+m=xs.size->kvs.length+m<=bn->ZS z TI TO i1 i2 l1 l2 (tuO xs n1 d1 s1) (tuO ys n2 d2 s2) k s.heap->s.heap.DictOf knd d kvs->
  (∀h' tk,h'.DictOf knd d (jf kvs ((ks.zip ys.toList).drop k))->(∀c o,c≠d->c≠z->c≠TO->c≠i1->c≠i2->s.heap.get? c=ab o->h'.get? c=ab o)->R (.ok (.ret .none)) {s with heap:=h',toks:=tk})->
  codeAny (av prog w) A (.builtin "dict.update.loop" ⟨[.ref d,.ref z,dA k,.none],[]⟩) R s:=by
 intro m;induction m with
 |zero=>
  intro k s kvs hkm hl Z hd q;refine gn lE ?_;rw[g9 (show nj "dict.update.loop"=ae by decide +kernel) _];refine ao (m:=hX (.ref z)) (aKf hh ap Z (oS 0x1) λh' kp=>?_);refine ao (m:=u7 d []) ?_;unfold u7;rw[kL];refine ao (aS (aS (aS ?_)));have e:(ks.zip ys.toList).drop k=[]:=mT (by rw[Cc];have:ys.toList.length=ys.size:=hI;lia);rw[e] at q;obtain⟨o,es,ep,ho,r⟩:=hd;exact q _ s.toks ⟨o,es,ep,kp d o hdz hdT hd1 hd2 ho,r⟩ λc o _ c1 c2 c3 c4 e=>kp c o c1 c2 c3 c4 e
 |succ m ih=>
  intro k s kvs hkm hl Z hd q;have hlt:k<xs.size:=by lia
  have hlt2:k<ys.size:=by lia
  have hx:xs[k]?=ab xs[k]:=uo hlt;have hy:ys[k]?=ab ys[k]:=uo hlt2;obtain⟨key,hkey,his⟩:=hk k _ hx;refine gn lE ?_;rw[g9 (show nj "dict.update.loop"=ae by decide +kernel) _];refine ao (m:=hX (.ref z)) (aG8 ap Z hx hy λh' p Z' hp kp=>?_);refine ao (fg (ao (iS ?_)));refine ao (kz (T:= "tuple") ⟨_,hp,rfl⟩ ?_);rw[au 0x4];refine ao (fI hp rfl (aS ?_));show wpAny _ _ (lg [xs[k],ys[k]] (yT d xs[k] ys[k])) _ _ _;have hd':h'.DictOf knd d kvs:=let ⟨o,es,ep,ho,r⟩:=hd;⟨o,es,ep,kp d o hdz hdT hd1 hd2 ho,r⟩
  obtain⟨od,es,ep,ho,hc,_⟩:=id hd';refine fg (yY his hd' (λh2 hd2' sb=>?_) 0x1);refine aS ⟨md _ 0x6,?_⟩;have ek:(dA (k+1):ah)=dA ((k+1:af):ai):=rfl;rw[ek];have hzip:(ks.zip ys.toList).drop k=(key,ys[k])::(ks.zip ys.toList).drop (k+1):=by
   have hlz:(ks.zip ys.toList)[k]?=ab (key,ys[k]):=by
    rw[List.getElem?_zip_eq_some];exact⟨hkey,by rw[iO];exact hy⟩
   obtain⟨h1,h2⟩:=dz.mp hlz;rw[jI h1,h2]
  have ls:(iu kvs key ys[k]).length<=kvs.length+1:=by
   unfold iu;split
   ·rw[bd];lia
   ·rw[cx];exact ba _
  refine ih (k+1) _ (iu kvs key ys[k]) 0x1 0x1 (Z'.keep ho hc.1 λc o hcd e=>(sb.2 c hcd).trans e) hd2' λh3 tk hd3 kp3=>?_
  refine q h3 tk (by rw[hzip];exact hd3) λc o c0 c1 c2 c3 c4 e=>kp3 c o c0 c1 c2 c3 c4 ((sb.2 c c0).trans (kp c o c1 c2 c3 c4 e))
end
section
variable {prog:bp} {w:bh} {K:Type} [dg K] {knd:KeyKind prog w K} {A:bu} {E:ah->al->Prop} {hp:aI} {g:aw ki} {dr:kj} {tk:af} {os:ni} {z TI TO i1 i2 l1 l2:ak} {n1 n2:af} {d1 d2:ax ak} {s1 s2:aw (ax ah)} {xs ys:aw ah} {ks:aa K}
theorem aCq{Q:ah->al->Prop}(hh:A.handled=aj)(ap:Apart z TI TO i1 i2 l1 l2){a b:ah}(hw:W z TI TO i1 i2 l1 l2 (tuO xs n1 d1 s1) (tuO ys n2 d2 s2) .none (.bool ag) a b 0 0 hp)(hsz:ys.size=xs.size)(hxs:xs.size<=1000)(hk:∀(i:af) (x:ah),xs[i]?=ab x->∃k,ks[i]?=ab k/\knd.is k x=ae)
 (q:∀h' tk',h'.DictOf knd hp.objs.size (jf [] (ks.zip ys.toList))->aCo z TO i1 i2 hp h'->Q (.ref hp.objs.size) ⟨h',g,dr,tk',os⟩) :
  wpAny (av prog w) A (call (.type "dict") [.ref z]) Q E ⟨hp,g,dr,tk,os⟩:=by
 have hnew:(hp.push {cls:=.type "dict",data:=.dict #[]}).DictOf knd hp.objs.size []:=tm hp;have up:∀c o,hp.get? c=ab o->(hp.push {cls:=.type "dict",data:=.dict #[]}).get? c=ab o:=λc o e=>bz _ e
 have lt:∀{c o},hp.get? c=ab o->hp.objs.size≠c:=λe=>iF (bE e)
 refine u8 (Q₁:=λv s₁=>v=.ref hp.objs.size/\s₁=⟨hp.push {cls:=.type "dict",data:=.dict #[]},g,dr,tk,os⟩) za (zb _) zc (zd _ ⟨rfl,rfl⟩) λv s₁ hv=>?_
 obtain⟨rfl,rfl⟩:=hv;have ty:(⟨hp.push {cls:=.type "dict",data:=.dict #[]},g,dr,tk,os⟩:al).TypeIs (.ref hp.objs.size) "dict":=hnew.typeIs;have ez:=up _ _ hw.z_;have tz:(⟨hp.push {cls:=.type "dict",data:=.dict #[]},g,dr,tk,os⟩:al).TypeIs (.ref z) "zip":=⟨_,ez,rfl⟩
 refine⟨ty,ze _ _,ao (m:=De "__init__" _) (ao (zf ty (aS ?_)))⟩;refine ao (m:=mx (.ref z)) (kz tz ?_);rw[au 0x4];refine ao (lacks ez hh λh' tk' kp=>?_);rw[au (show(aj:ax ah).isNone=ae from rfl)];refine ao (ig (ao (wpAny_pyIter_zip (TI:=TI) (TO:=TO) (f0:=.none) (kp _ _ ez) (aS ⟨md _ 0x6,?_⟩))));have hd':h'.DictOf knd hp.objs.size []:=let ⟨o,es,ep,ho,r⟩:=hnew;⟨o,es,ep,kp _ _ ho,r⟩
 refine rR (A:=A.in1) (ks:=ks) (show A.in1.handled=aj from hh) ap (lt hw.z_) (lt hw.to) (lt hw.j1) (lt hw.j2) hsz hk xs.size 0 ⟨h',g,dr,tk',os⟩ [] 0x1 (by rw[eL,dE];lia) ⟨_,_,_,_,hw.up λc o _ e=>kp c o (up c o e),.inl ⟨rfl,rfl⟩⟩ hd' λh2 tk2 hd2 kp2=>?_
 exact⟨rfl,q h2 tk2 hd2 λc o c1 c2 c3 c4 e=>kp2 c o (λx=>lt e x.symm) c1 c2 c3 c4 (kp c o (up c o e))⟩
end
end Wz
namespace Mi
open PySem L2 PySem.SeqAt PySem.Spec PyProof.Rows
section
variable [KFrag]
theorem boot_zip:dS "zip"=ab (.type "zip"):=by decide +kernel
theorem DG:dS "dict"=ab (.type "dict"):=by decide +kernel
theorem aA6{pr:bp}:∀{vs:aa V}{us:aa ah}{ds:aa D},bL P H vs ds->Vals vs us->ds.all lL=ae->∃ks:aa Key,ks.map kD=ds/\ks.length=us.length/\∀(i:af)(u:ah),us[i]?=ab u->∃k,ks[i]?=ab k/\(cD pr w).is k u=ae
 |_,_,_,.nil,.nil,_=>⟨[],rfl,rfl,λi u h=>by simp at h⟩
 |v::vs,u::us,d::ds,.cons r t,.cons rv tv,h=>by
  rw[ik,bq] at h;obtain⟨ks,h1,h2,h3⟩:=aA6 t tv h.2;obtain⟨k,hk1,hk2⟩:∃k:Key,kD k=d/\(cD pr w).is k u=ae:=by
   cases r with
   |int i=>exact⟨.inl i,rfl,xR rv⟩
   |str x=>exact⟨.inr x,rfl,xR rv⟩
   |_=>cases h.1
  refine⟨k::ks,by rw[bw,hk1,h1],by rw[bj,bj,h2],λi u' hu=>?_⟩;cases i with
  |zero=>simp at hu;subst hu;exact⟨k,rfl,hk2⟩
  |succ i=>exact h3 i u' (by simpa using hu)
theorem DK(r:Rep P H v d):∀{kvs:aa (Key×V)}{ds:aa (D×D)},i_ P H kvs ds->(kvs.map (·.1)).Nodup->i_ P H (putK kvs k v) (putD ds (kD k) d)
 |_,_,.nil,_=>.cons r .nil
 |_,_,.cons (k:=k') r' t,hn=>by
  rw[bw,ff] at hn;rw[putD,ZP];by_cases h:k'=k
  ·rw[CG h (by rw[<-h];exact hn.1),au (cb h),h];exact .cons r t
  ·rw[CJ h,az (by simpa using h)];exact .cons r' (DK r t hn.2)
theorem SM:∀{ks:aa Key}{vs:aa V}{ds:aa D}{kvs:aa (Key×V)}{es:aa (D×D)},bL P H vs ds->i_ P H kvs es->(kvs.map (·.1)).Nodup->i_ P H (c7 kvs (ks.zip vs)) (uA (ks.map kD) ds es)/\((c7 kvs (ks.zip vs)).map (·.1)).Nodup
 |[],_,_,_,_,_,r,n=>by
  rw[mN];exact⟨by cases ‹aa D›<;>exact r,n⟩
 |k::ks,_,_,kvs,es,.nil,r,n=>⟨r,n⟩
 |k::ks,_,_,kvs,es,.cons rv tv,r,n=>SM (ks:=ks) tv (DK rv r n) (jP n)
theorem aKg(r:Vals vs us):∀ks:aa Key,KV (ks.zip vs) (ks.zip us):=by
 induction r with
 |nil=>intro ks;rw[lP,lP];exact .nil
 |cons h t ih=>
  intro ks;cases ks with
  |nil=>exact .nil
  |cons k ks=>exact .cons ⟨rfl,h⟩ (ih ks)
theorem aA7{n l m:af}(hl:l<n)(hm:m<n):Wz.Apart (n+4) (n+2) (n+3) n (n+1) l m:=by
 constructor<;>(intro h;replace h:@Eq af _ _:=h;lia)
section
theorem aG9(hg:Gl X "dict")(hm:X.mg "dict"=aj)(hg2:Gl X "zip")(hm2:X.mg "zip"=aj)(ha:PA X [a,b] (gA fs rr))(hc:X.calm=ae:=by rfl)(hs2:bi [a,b] X.env=(ag,bm a X.env)::bi [b] X.env:=by rfl)(hpl2:(dq pos2 (bi [b] X.env)).any (·.1)=ag:=by rfl)
 (hs:bi [.Call (.Name "zip" p2) [a,b] [] pos2] X.env=(ag,bm (.Call (.Name "zip" p2) [a,b] [] pos2) X.env)::bi [] X.env:=by rfl) :
  PE X (.Call (.Name "dict" p) [.Call (.Name "zip" p2) [a,b] [] pos2] [] pos) (gE (aK wV fs) ae):=by
 rintro pins s σ H Q I ⟨ρ,d,E,h,q⟩;obtain⟨xs,h1,h2⟩:=bI h;unfold wV at h2;split at h2
 ·rename_i xs ys;split at h2
  ·rename_i hb;cases h2;simp only[bq,fF] at hb;obtain⟨⟨⟨hb1,hb2⟩,hb3⟩,hb4⟩:=hb;refine iN (kW I hg hm DG ?_);refine i7 ?_ hs rfl;rw[hs];show wpAny _ _ (la ((ag,bm (.Call (.Name "zip" p2) [a,b] [] pos2) X.env)::dq pos (bi [] X.env))) _ _ s;refine mr ?_;refine iN (kW I hg2 hm2 boot_zip ?_);refine i7 (thn (ha pos2 pins s σ H (λvs H1=>cG H H1/\bL All H1 vs [.tup xs,.tup ys]) I ⟨ρ,_,E,h1,λvs H1 s1 r1 _=>⟨s1,r1⟩⟩) λus s1 ⟨vs,H1,I1,r1,sm,rp⟩=>?_) hs2 hpl2;cases rp with
   |cons rp1 rp=>
    cases rp with
    |cons rp2 rp=>
     cases rp;obtain⟨l1,vs1,rfl,e1,rr1⟩:=rp1.eU;obtain⟨l2,vs2,rfl,e2,rr2⟩:=rp2.eU;cases r1 with
     |cons q1 r1=>
      cases r1 with
      |cons q2 r1=>
       cases r1;cases q1;cases q2;obtain⟨its1,w1,p1,_⟩:=I1.tuple (.of e1);obtain⟨its2,w2,p2,_⟩:=I1.tuple (.of e2);have t1:s1.heap.IsTuple l1 its1.toArray:=p1;have t2:s1.heap.IsTuple l2 its2.toArray:=p2;obtain⟨⟨c1,dd1,da1,sl1⟩,g1,hc1,m1,hd1⟩:=id p1;obtain⟨⟨c2,dd2,da2,sl2⟩,g2,hc2,m2,hd2⟩:=id p2;simp only at hc1 hd1 hc2 hd2;subst hc1 hd1 hc2 hd2;have hl1:=bE g1;have hl2:=bE g2;refine Wz.aKe t1 t2 λh' n hn z1 z2 z3 z4 z5 kp zsz=>?_
       subst hn;refine mq ?_;have n1:=w1.length;have n2:=w2.length;have m1:=rr1.length;have m2:=rr2.length;obtain⟨ks,k1,k2,k3⟩:=aA6 rr1 w1 hb3;refine Wz.aCq (I1.ok.hd hc) (aA7 hl1 hl2) ⟨z5,z3,z4,z1,z2,kp _ _ g1,kp _ _ g2⟩ (by simp only[cm];lia) (by simp only[cm];lia) (λi u hu=>k3 i u (by simpa using hu)) λh2 tk dd kp2=>?_
       have hfr:H1 h'.objs.size=aj:=I1.hok.fresh (by rw[zsz];lia);have kall:∀c o,s1.heap.get? c=ab o->h2.get? c=ab o:=λc o e=>by
        have:=bE e;exact kp2 c o (cw (dm this (rc _ 4))) (cw (dm this (rc _ 3))) (cw this) (cw (dm this (rc _ 1))) (kp c o e)
       have rel:KV (c7 [] (ks.zip vs2)) (jf [] (ks.zip its2)):=(aKg w2 ks).merge .nil;have hz:(c7 [] (ks.zip vs2)).length<=bn:=by
        have:=fW (ks.zip vs2) [];rw[eL,Cc] at this;rw[dE];lia
       obtain⟨rk,nd⟩:=SM (rr2) i_.nil io;rw[k1] at rk;have sp:cG H1 (upd H1 h'.objs.size (.dK (c7 [] (ks.zip vs2)))):=cG.upd hfr;have pv:D.aW ((uA xs ys []).map (·.2))=ae:=by
        have go:∀(a b:aa D)(m:aa (D×D)),D.aW b=ae->D.aW (m.map (·.2))=ae->D.aW ((uA a b m).map (·.2))=ae:=by
         intro a;induction a with
         |nil=>intro b m _ hm;cases b<;>exact hm
         |cons x a ih=>
          intro b m hb hm;cases b with
          |nil=>exact hm
          |cons y b=>
           rw[D.aW,bq] at hb;refine ih b _ hb.2 ?_;have hp:=nT (ds:=m) (k:=x) hb.1 hm;exact hp
        exact go xs ys [] hb4 rfl
       have rk2:∀{P:ak->Prop},i_ P (upd H1 h'.objs.size (.dK (c7 [] (ks.zip vs2)))) (c7 [] (ks.zip vs2)) (uA xs ys []):=λ{P}=>(rk.keep (.same sp) λ_ h=>h).bT pv
       refine⟨.ref h'.objs.size,_,I1.laid (a:=h'.objs.size) (t':=tk) (o:=.dK (c7 [] (ks.zip vs2))) kall (by rw[zsz];lia) (HR hz (gr.mpr ?_) rel (by simpa using dd)),rfl,?_⟩
       ·exact c5 (cw (dm I1.big (by rw[zsz];exact rc _ 5)))
       ·exact q _ _ (sm.trans sp) (.dK aM trivial rk2 nd) λ_=>.dK aM (sm.free hfr) rk2 nd
  ·exact bx h2
 ·exact bx h2
end
end
noncomputable def PQ(i j:af):FS:=λρ=>match ρ.getD i .uD with
 |.lst xs=>(match xs[xs.length-1]? with|some x=>.ok (.nx ((ρ.set i (.lst xs.dropLast)).set j x))|none=>.bad)
 |_=>.bad
noncomputable def aKh:aa D->Res D
 |[.bl b]=>.ok (.int (if b then 1 else 0))
 |[.int i]=>.ok (.int i)
 |_=>.bad
section
variable [KFrag]
theorem aGa{X:Cx}:kJ X (.type "int") (rs aKh ae):=by
 rintro pins s σ H xs us Q I vr ⟨ds,d,r,e,k⟩;unfold aKh at e;split at e
 ·cases e;obtain⟨vv,uu,rfl,rfl,r,v⟩:=iT r vr;cases r.inv;cases v;exact call_int_bool ⟨.int _,H,I.tok _,⟨_,rfl⟩,k.int⟩
 ·cases e;obtain⟨vv,uu,rfl,rfl,r,v⟩:=iT r vr;cases r.inv;obtain⟨t,rfl⟩:=v;exact call_int_int ⟨.int _,H,I,⟨_,rfl⟩,k.int⟩
 ·exact bx e
section
variable {X:Cx} {own:af->aq} {pos:bS}
theorem aGb{i j:af}{x y:Str}{p1 py apos cpos:bS}(ho:own i=ae)(hN:X.N[i]?=ab x)(hv:Vis X.env.scope x)(hnd:X.N.Nodup)(hj:X.N[j]?=ab y)(hy:Loc X.env.scope y)(hoj:own j=ag)(hd:nDb x:=by decide)(hcd:nCd x:=by decide)
 (hbase:i8 (.Name x p1) "pop" X.env (bm (.Name x p1) X.env)=bm (.Name x p1) X.env:=by rfl)
 (hline:(apos.endLine==cpos.line)=ae:=by rfl)
 (hs:eI (.Call (.Attribute (.Name x p1) "pop" apos) [] [] cpos) (ab (.Name y py)) pos.line X.env=pure ag:=by rfl)(hf:X.fn y=ae\/X.env.scope.names.lookup y=ab .local:=by first|exact .inl rfl|exact .inr rfl|assumption) :
  PS X (.Assign [.Name y py] (.Call (.Attribute (.Name x p1) "pop" apos) [] [] cpos) pos) (tS own (PQ i j)):=
 PS.imp (G7 hnd hj hy (aJ4 oQ tf B0 aJ6 (jJ hN hv hd hcd) hbase hline) hs hf) λD' σ H z0=>by
 obtain⟨ρ,fl,E,h,q⟩:=z0;unfold PQ at h;split at h
 ·rename_i xs hx;split at h
  ·rename_i dx hdx;cases h;obtain⟨a,o,hσ,r,hin,ha,hm⟩:=E.ownAt ho (by rw[hx];intro z;cases z);rw[hx] at r hin;obtain⟨vs,hl,rr⟩:=JK r;obtain⟨v,hvx,rv⟩:=rr.get hdx;have hlen:=rr.length;refine⟨_,hσ,.inl ⟨rfl,vs,.of hl⟩,a,vs,v,rfl,rfl,hl,by rw[hlen];exact hvx,?_⟩;have hin':D.aW xs=ae:=hin;have pall:∀y∈xs,y.pure=ae:=λy hy=>jO.mp hin' y hy
   have pdx:dx.pure=ae:=pall dx (nX hdx);have pe:D.aW xs.dropLast=ae:=jO.mpr λy hy=>pall y (List.dropLast_subset _ hy)
   have er:bL All H vs.dropLast xs.dropLast:=by
    rw[Cd,Cd,hlen];exact rr.take _
   obtain⟨E2,k2⟩:=E.mut (o:=.lst vs.dropLast) (d:=.lst xs.dropLast) ho hσ rfl (.lst aM trivial (er.upd pe hl rfl)) pe;have r1:=(bL.cons rv .nil).upd (o:=.lst vs.dropLast) (by rw[D.aW,pdx];rfl) hl rfl;cases r1 with
   |cons r1 _=>
    have E3:=E2.set hoj (v:=v) (d:=dx) (r1.bT pdx);exact q _ _ (k2.trans λb ob eb nb=>⟨eb,by rw[lU hoj];exact nb⟩) E3
  ·exact bx h
 ·exact bx h
end
end
noncomputable abbrev FX:=aa D->Res (D×aa D)
noncomputable def aI5:D->ax (aa D)
 |.lst xs=>ab xs
 |.cel _ xs=>ab xs
 |_=>aj
def V6(o:aq)(i:af)(f:FX):FS:=λρ=>do
 let p <- f ρ
 if (if o then inner p.1 else ae) then .ok (.nx (p.2.set i p.1)) else .bad
section
variable [KFrag]
section
variable {own:af->aq}
theorem aA8(r:Rep P H (.ref a) d)(h:aI5 d=ab xs):∃vs,H a=ab (.lst vs)/\P a/\bL P H vs xs:=by
 cases d<;>simp only[aI5] at h<;>cases h<;>cases r
 ·exact⟨_,by assumption,by assumption,by assumption⟩
 ·exact⟨_,by assumption,by assumption,by assumption⟩
theorem aA9(r:Rep P H v (.cel b xs)):v=.ref b:=by cases r;rfl
theorem aKi(h:aI5 d=ab xs):inner d=D.aW xs:=by
 cases d<;>simp only[aI5] at h<;>cases h<;>rfl
theorem aKj(h:aI5 d=ab xs):d≠.uD:=λz=>by subst z;cases h
theorem ES.aNw(E:ES own H σ ρ)(ho:own i=ae)(hi:σ[i]?=ab (ab (.ref a)))(hk:∀b ob,H b=ab ob->b≠a->H' b=ab ob)(e:H' a=ab o)(hm:RM o=ae)(r:Rep All H' (.ref a) d)(hin:inner d=ae) :
  ES own H' σ (ρ.set i d)/\KU own σ H σ H':=by
 have hOa:Own own σ a:=⟨i,ho,hi⟩
 obtain⟨a',oa,ea,_,_,hHa,hma,huq⟩:=E.own i _ ho hi;cases ea;have k:KU own σ H σ H':=λb ob e n=>⟨hk b ob e (λz=>by subst z;exact n hOa),n⟩
 have hl:i<ρ.length:=by rw[<-E.len];exact(dz.mp hi).1
 refine⟨⟨by simp[E.len],λj hj=>?_,λj w hj hw=>?_⟩,k⟩
 ·rw[dM] at hj ⊢;by_cases h:i=j/\i<ρ.length
  ·obtain⟨rfl,_⟩:=h;exact⟨_,hi,λz=>by rw[ho] at z;cases z⟩
  ·rw[az h] at hj ⊢;obtain⟨w,h1,h2⟩:=E.at_ j hj;exact⟨w,h1,λhj=>k.rep E (h2 hj)⟩
 ·by_cases hij:i=j
  ·subst hij;rw[hi] at hw;cases hw;rw[dM,au ⟨rfl,hl⟩];exact⟨a,o,rfl,r,hin,e,hm,huq⟩
  ·rw[dM,az λz=>hij z.1];obtain⟨b,ob,h1,h2,h3,h4,h5,h6⟩:=E.own j w hj hw;subst h1;have hba:b≠a:=λz=>by subst z;exact hij (h6 i ho hi)
   refine⟨b,ob,rfl,?_,h3,hk _ _ h4 hba,h5,h6⟩;refine(h2.aJy (P':=λc=>c=b) h3 rfl).keep (λc oc hc hp=>?_) λ_ _=>trivial
   refine hk _ _ hc λz=>?_
   subst z;rcases hp with hp|hp
   ·exact hba hp.symm
   ·rw[hHa] at hc;cases hc;rw[hma] at hp;cases hp
def NS(own:af->aq)(ρ ρ':aa D):Prop:=∀i,own i=ag->ρ'.getD i .uD=ρ.getD i .uD
theorem NS.trans(a:NS own ρ ρ1)(b:NS own ρ1 ρ2):NS own ρ ρ2:=λi h=>(b i h).trans (a i h)
theorem NS.set(ho:own i=ae):NS own ρ (ρ.set i d):=λj hj=>by
 rw[dM,az];rintro⟨rfl,_⟩;rw[ho] at hj;cases hj
def kX(own:af->aq)(σ:L2.St)(H:Hp)(ρ:aa D)(d:D)(ρ':aa D)(Q:VK):Prop:=∀v H',KU own σ H σ H'->ES own H' σ ρ'->NS own ρ ρ'->Rep (New H) H' v d->Q v H'
noncomputable def gX(own:af->aq)(f:FX):TE:=λσ H Q=>∃ρ d ρ',ES own H σ ρ/\f ρ=.ok (d,ρ')/\kX own σ H ρ d ρ' Q
noncomputable def gAO(own:af->aq)(f:FA):TA:=λσ H Q=>∃ρ ds,ES own H σ ρ/\f ρ=.ok ds/\∀vs H',cG H H'->bL (λa=>¬Own own σ a) H' vs ds->Q vs H'
theorem aGc(k:KU own σ H σ H1)(E1:ES own H1 σ ρ1)(h:H1 a=aj):H a=aj:=by
 cases q:H a with
 |none=>rfl
 |some o=>
  by_cases n:Own own σ a
  ·obtain⟨o',e,_⟩:=E1.live n;rw[h] at e;cases e
  ·have:=(k a o q n).1;rw[h] at this;cases this
theorem aGd(E:ES own H σ ρ)(h:H a=aj):¬Own own σ a:=λn=>by
 obtain⟨o',e,_⟩:=E.live n;rw[h] at e;cases e
theorem ES.aOw(E:ES own H σ ρ)(k:KU own σ H σ H')(E':ES own H' σ ρ')(ns:NS own ρ ρ')(ho:own i=ae)(hn:H a=aj)(r:Rep All H' (.ref a) d)(hin:inner d=ae)(ha:H' a=ab o)(hm:RM o=ae) :
  ES own H' (σ.set i (ab (.ref a))) (ρ'.set i d)/\KU own σ H (σ.set i (ab (.ref a))) H':=by
 have hO:∀b,H b≠aj->¬Own own σ b->¬Own own (σ.set i (ab (.ref a))) b:=λb hb n z0=>by
  obtain⟨j,hj,e⟩:=z0;by_cases hij:i=j
  ·subst hij;by_cases hl:i<σ.length
   ·rw[fN hl] at e;cases e;exact hb hn
   ·rw[oP,au rfl,az hl] at e;cases e
  ·rw[eC hij] at e;exact n ⟨j,hj,e⟩
 have hna:¬Own own σ a:=aGd E hn;refine⟨⟨by simp[E'.len],λj hj=>?_,λj w hj hw=>?_⟩,λb ob e n=>⟨(k b ob e n).1,hO b (by rw[e];simp) n⟩⟩
 ·rw[dM] at hj ⊢;by_cases h:i=j/\i<ρ'.length
  ·rw[au h];obtain⟨rfl,hl⟩:=h;exact⟨.ref a,by rw[fN (by rw[E'.len];exact hl)],λz=>by rw[ho] at z;cases z⟩
  ·rw[az h] at hj ⊢;obtain⟨w,h1,h2⟩:=E'.at_ j hj;by_cases hij:i=j
   ·subst hij;have:i<σ.length:=(dz.mp h1).1;rw[E'.len] at this;exact bg ⟨rfl,this⟩ h
   ·refine⟨w,by rw[eC hij];exact h1,λhoj=>?_⟩;rw[ns j hoj] at hj ⊢;obtain⟨w',h1',h2'⟩:=E.at_ j hj;rw[h1] at h1';cases h1';exact(h2' hoj).dom.keep (λc oc hc hp=>k.keep E c oc hc (hp.imp And.left id)) λb ⟨n,hb⟩=>hO b hb n
 ·by_cases hij:i=j
  ·subst hij;have hl:i<σ.length:=by
    have:=(dz.mp hw).1;simpa using this
   rw[fN hl] at hw;cases hw;rw[dM,au ⟨rfl,by rw[<-E'.len];exact hl⟩];refine⟨a,o,rfl,r,hin,ha,hm,λk hk hs=>?_⟩;by_cases hik:i=k
   ·exact hik.symm
   ·rw[eC hik] at hs;exact bg ⟨k,hk,hs⟩ hna
  ·rw[eC hij] at hw;rw[dM,az λz=>hij z.1];obtain⟨b,ob,h1,h2,h3,h4,h5,h6⟩:=E'.own j w hj hw;refine⟨b,ob,h1,h2,h3,h4,h5,λk hk hs=>?_⟩;by_cases hik:i=k
   ·subst hik;by_cases hl:i<σ.length
    ·rw[fN hl] at hs;cases hs;subst h1;exact bg ⟨j,hj,hw⟩ hna
    ·rw[oP,au rfl,az hl] at hs;cases hs
   ·rw[eC hik] at hs;exact h6 k hk hs
end
section
variable {own:af->aq} {X:Cx} {a e:Expr} {pos pos':bS} {xe:FX}
theorem aKk(E:ES own H σ ρ)(ho:own i=ag)(h:iW i ρ=.ok d):∃v,σ[i]?=ab (ab v)/\Rep (λa=>¬Own own σ a) H v d:=by
 obtain⟨v,hv,r,e⟩:=E.er.var h;have hne:ρ.getD i .uD≠.uD:=λz=>by
  rw[z] at e;subst e;exact Rep.uD r
 obtain⟨w,hw,hr⟩:=E.at_ i hne;rw[hv] at hw;cases hw;have r2:=hr ho;rw[e] at r2;exact⟨v,hv,r2⟩
theorem aCr(ho:own i=o)(h:tS own (V6 o i xe) D' σ H):aHw (gX own xe) (uP i) D' σ H:=by
 obtain⟨ρ,fl,E,h,q⟩:=h;obtain⟨⟨d,ρ1⟩,h1,h2⟩:=bI h;cases o with
 |true=>
  simp only[cy] at h2;split at h2
  ·rename_i hk;cases h2;refine⟨ρ,d,ρ1,E,h1,λv H' k E1 ns r=>?_⟩;obtain⟨a,ob,rfl,hn,ha,hm⟩:=yQ r hk;obtain⟨E2,k2⟩:=E.aOw k E1 ns ho hn r.all hk ha hm;exact q _ H' k2 E2
  ·exact bx h2
 |false=>
  simp only[c8,cK,cy] at h2;cases h2;refine⟨ρ,d,ρ1,E,h1,λv H' k E1 ns r=>?_⟩;exact q _ H' (λa ob e hn=>⟨(k a ob e hn).1,by rw[lU ho];exact hn⟩) (E1.set ho (Z1 E r))
theorem aKl(ho:own i=o)(hN:X.N.Nodup)(hi:X.N[i]?=ab x)(hx:Loc X.env.scope x)(he:PE X e (gX own xe))(hs:eI e (ab (.Name x pos')) pos.line X.env=pure ag:=by rfl)(hf:X.fn x=ae\/X.env.scope.names.lookup x=ab .local:=by first|exact .inl rfl|exact .inr rfl|assumption) :
  PS X (.Assign [.Name x pos'] e pos) (tS own (V6 o i xe)):=PS.imp (G7 hN hi hx he hs hf) λ_ _ _=>aCr ho
end
section
variable {own:af->aq} {X:Cx} {a b e:Expr} {pos:bS} {fe:FE} {re:aq}
theorem kRt.new{D:Ends}(h:kRt own D σ H (.tup (d0::ρ')))(hx:own rtX=ae):∀v σ' H',KU own σ H σ' H'->ES own H' σ' ρ'->Rep (λa=>(Own own σ a\/H a=aj)/\∀i b xs,ρ'.getD i .uD=.cel b xs->a≠b) H' v d0->D.rt v H':=by
 unfold kRt at h;rw[au hx] at h;obtain⟨d1,ρ1,e,g⟩:=h;cases e;exact g
theorem aAa(E:ES own H σ ρ){i b:af}{xs:aa D}(h:ρ.getD i .uD=.cel b xs):∃vs,σ[i]?=ab (ab (.ref b))/\H b=ab (.lst vs):=by
 obtain⟨v,h1,h2⟩:=E.er i (by rw[h];intro z;cases z);rw[h] at h2;obtain⟨_,rfl,e,_,_⟩:=h2.inv;exact⟨_,h1,e⟩
theorem PX(he:PE X e (gE fe re))(hx:own rtX=ae:=by rfl):PS X (.Return (ab e) pos) (tS own (VH fe re)):=PS.imp (W7 he) λD σ H z0=>by
 obtain⟨ρ,fl,E,h,q⟩:=z0;obtain⟨d,h1,h2⟩:=bI h;split at h2
 ·rename_i hk;cases h2;refine⟨ρ,d,E.er,h1,λv H' s r n=>kRt.new q hx v σ H' (.same s) (E.same s) ?_⟩;rw[gm] at hk;rcases hk with hk|hk
  ·refine(n hk).mono λa ha=>⟨.inr ha,λi b xs hb z=>?_⟩
   obtain⟨vs,_,e⟩:=aAa E hb;subst z;rw[show H a=aj from ha] at e;cases e
  ·exact r.bT hk
 ·exact bx h2
theorem aE7:PA X [] (gAO own aN):=PA.imp tV λσ H Q z0=>by obtain⟨ρ,ds,E,h,q⟩:=z0;cases h;exact q [] H (cG.refl H) .nil
theorem aAb(ho:own i=ag)(hN:X.N[i]?=ab x)(hv:Vis X.env.scope x)(hes:PA X es (gAO own f))(hd:nDb x:=by decide)(hcd:nCd x:=by decide)(hs:bi (.Name x pos::es) X.env=(ag,bm (.Name x pos) X.env)::bi es X.env:=by rfl):PA X (.Name x pos::es) (gAO own (aA (iW i) f)):=PA.imp (lJ (jJ hN hv hd hcd) hes hs) λσ H Q z0=>by
 obtain⟨ρ,ds,E,h,q⟩:=z0;obtain⟨x,h1,h⟩:=bI h;obtain⟨xs,h2,h⟩:=bI h;cases h;obtain⟨v,hv,rv⟩:=aKk E ho h1;exact⟨v,hv,ρ,xs,E,h2,λvs H2 s2 r2=>q _ _ s2 (.cons (rv.same s2) r2)⟩
theorem P0(E:ES own H σ ρ)(ho:own i=ae)(h:aI5 (ρ.getD i .uD)=ab xs):∃a vs,σ[i]?=ab (ab (.ref a))/\H a=ab (.lst vs)/\bL All H vs xs/\D.aW xs=ae/\Rep All H (.ref a) (ρ.getD i .uD)/\∀b,ρ.getD i .uD=.cel b xs->b=a:=by
 obtain⟨a,o,hσ,r,hin,ha,hm⟩:=E.ownAt ho (aKj h);obtain⟨vs,e,_,rr⟩:=aA8 r h;exact⟨a,vs,hσ,e,rr,by rw[aKi h] at hin;exact hin,r,λb hb=>by rw[hb] at r;have:=aA9 r;cases this;rfl⟩
end
end
def aNx:D->D->D->D->Res D
 |.str a,.int i,.str b,.int j=>.ok (.dct (putD [(.str a,.int i)] (.str b) (.int j)))
 |_,_,_,_=>.bad
def aGe(k v l w:FE):FE:=λρ=>do
 let k <- k ρ
 let v <- v ρ
 let l <- l ρ
 let w <- w ρ
 aNx k v l w
section
variable [KFrag]
section
variable {X:Cx} {b e:Expr} {pos:bS}
theorem aGf{r1 r2 r3 r4:aq}(hk1:PE X k1 (gE g1 r1))(hv1:PE X v1 (gE h1 r2))(hk2:PE X k2 (gE g2 r3))(hv2:PE X v2 (gE h2 r4)):PE X (.Dict [ab k1,ab k2] [v1,v2] pos) (gE (aGe g1 h1 g2 h2) ae):=
 PE.imp (aFc (RC hk1 hv1 (RC hk2 hv2 aFb)) rfl rfl 0x2 (dQ rfl)) λσ H Q z0=>by
 obtain⟨ρ,d,E,h,q⟩:=z0;obtain⟨a1,e1,hA⟩:=bI h;obtain⟨a2,e2,hB⟩:=bI hA;obtain⟨a3,e3,hC⟩:=bI hB;obtain⟨a4,e4,hD⟩:=bI hC;clear h hA hB hC;unfold aNx at hD;split at hD
 ·rename_i x i y j;cases hD;intro p hp;have s0:cG H (upd H p (.dK [])):=cG.upd hp;refine⟨ρ,_,E.same s0,e1,λw1 H1 s1 q1 _=>?_⟩;cases q1.inv;refine⟨ρ,_,(E.same s0).same s1,e2,λw2 H2 s2 q2 _=>?_⟩;cases q2.inv;refine⟨ρ,_,((E.same s0).same s1).same s2,e3,λw3 H3 s3 q3 _=>?_⟩;cases q3.inv;refine⟨ρ,_,(((E.same s0).same s1).same s2).same s3,e4,λw4 H4 s4 q4 _=>?_⟩;cases q4.inv;have sm:cG (upd H p (.dK [])) H4:=((s1.trans s2).trans s3).trans s4;refine⟨sm _ _ aM,[(.inr x,.int i),(.inr y,.int j)],rfl,dQ rfl,?_⟩;have sf:cG H (upd H4 p (.dK (c7 [] [(fS x,V.int i),(fS y,V.int j)]))):=λb o e=>by
   rw[bF (cW e hp)];exact sm b o (s0 b o e)
  have rk:∀P:ak->Prop,i_ P (upd H4 p (.dK (c7 [] [(fS x,V.int i),(fS y,V.int j)]))) (putK [(fS x,V.int i)] (fS y) (V.int j)) (putD [(.str x,.int i)] (.str y) (.int j)):=λP=>vA (.int j) (.cons (.int i) .nil) 0x2
  have nd:((putK [(fS x,V.int i)] (fS y:Key) (V.int j)).map (·.1)).Nodup:=jP 0x2;exact q _ _ sf (.dK aM trivial (rk All) nd) λ_=>.dK aM hp (rk _) nd
 ·exact bx hD
end
end
theorem P_:dS "reversed"=ab (.type "reversed"):=by decide +kernel
variable [KFrag]
theorem bL.rev{P:ak->Prop}{H:Hp}:∀{vs:aa V}{ds:aa D},bL P H vs ds->bL P H vs.reverse ds.reverse
 |_,_,.nil=>.nil
 |_,_,.cons r t=>by rw[jd,jd];exact t.rev.snoc r
theorem aAc{ds:aa D}(h:D.aW ds=ae):D.aW ds.reverse=ae:=jO.mpr λy hy=>jO.mp h y (List.mem_reverse.mp hy)
theorem aCs{xs:aa V}{its acc:aa ah}(r:Vals xs its)(hl:acc.length=its.length)(h:∀j v,acc[j]?=ab v->its[its.length-1-j]?=ab v):Vals xs.reverse acc:=by
 have e:acc=its.reverse:=by
  refine List.ext_getElem? λj=>?_
  by_cases hj:j<its.length
  ·have h1:acc[j]?=ab (acc[j]' 0x1):=eh 0x1;have h2:=h j _ h1;rw[h1,List.getElem?_reverse hj,h2]
  ·rw[zg 0x1,zg (by rw[ng];lia)]
 rw[e];clear e h hl;induction r with
 |nil=>exact .nil
 |cons h t ih=>
  rw[jd,jd];exact ih.append (.cons h .nil)
end Mi
namespace Wl
open PySem PySem.Spec
noncomputable abbrev liO(xs:aw ah)(n:af):aT:={cls:=.type "list",data:=.seq xs n}
theorem JR:kA (.type "list") "keys"=pure aj:=by rw[kN,kP];kernel_rfl
theorem noGet:kA (.type "list") "__getattr__"=pure aj:=by rw[kN,kP];kernel_rfl
theorem JS:uS u3 "list.__getattribute__"=ab Builtin.«object.__getattribute__»:=yq (id':= "object.__getattribute__") 0x8 0x6 0x6 0x8
theorem jR(a:ak)(xs:aw ah)(n:af)(u:eB):ix (Builtin.«object.__getattribute__» ⟨[.ref a,.str "keys" u],[]⟩) (λA R s=>s.heap.get? a=ab (liO xs n)/\yr (.ref a) "keys" A R s):=.of_wp λprog w A R s hs=>by
 obtain⟨hp,g,d,tk,os⟩:=s;obtain⟨e,hh,q⟩:=hs;have ty:(⟨hp,g,d,tk,os⟩:al).TypeIs (.ref a) "list":=⟨_,e,rfl⟩
 have no:=JR
 wp_walk
 exact yt hh q (yu 0x6 (by size_fits))
section
variable {prog:bp} {w:bh} {A:bu} {E:ah->al->Prop} {hp:aI} {g:aw ki} {d:kj} {tk:af} {os:ni} {a:ak} {xs:aw ah} {n:af}
theorem gone(e:hp.get? a=ab (liO xs n))(hh:A.handled=aj)(hk:kw=[])(q:∀h' tk' x,yw hp h' x (.ref a) "keys"->E (.ref x) ⟨h',g,d,tk',os⟩) :
  wpAny (av prog w) A (call (.builtin "list.__getattribute__") ([.ref a]++[.str "keys" u]) kw) Q E ⟨hp,g,d,tk,os⟩:=by
 subst hk;exact jx zh ⟨_,e,rfl⟩ JS (F.args_list_getattribute_2 _ _) (jR a xs n u) ⟨e,hh,λh' tk' x hx=>q h' tk' x hx⟩
theorem lacks(e:hp.get? a=ab (liO xs n))(hh:A.handled=aj)(q:∀h' tk',(∀b o,hp.get? b=ab o->h'.get? b=ab o)->Q aj ⟨h',g,d,tk',os⟩):wpAny (av prog w) A (yz (.ref a) "keys") Q E ⟨hp,g,d,tk,os⟩:=by
 have ty:∀tk',(⟨hp,g,d,tk',os⟩:al).TypeIs (.ref a) "list":=λ_=>⟨_,e,rfl⟩
 have f3:=zh.lookup;have f4:=zh.bind (.ref a);have f5:=noGet;have sub:=yA
 wp_walk using gone e hh
 case hk=>rfl
 intro h' tk' x hx;obtain⟨t,u,ex⟩:=hx.there;show wpAny _ _ (yB _ _ _ _ _ _ _) _ _ _
 wp_walk
 exact q _ _ hx.keeps
end
theorem yU{h:aI}(e:h.get? c=ab o)(hc:o.cls=.type T)(ed:h.get? d=ab od)(hd:od.cls=.type U)(ne:(fT T==fT U)=ag):c≠d:=λq=>by
 subst q;rw[e] at ed;cases ed;rw[hc] at hd;rw[hd] at ne;simp at ne
def Prs{prog:bp}{w:bh}{K:Type}[dg K](knd:KeyKind prog w K)(items:aw ah)(ps:aa (K×ah))(h:aI):Prop:=items.size=ps.length/\∀(i:af)(kv:K×ah),ps[i]?=ab kv->∃(p:ak)(x:ah)(o:aT)(n:af),items[i]?=ab (fq p)/\h.get? p=ab o/\o.cls=.type "tuple"/\o.data=.seq #[x,kv.2] n/\knd.is kv.1 x=ae
theorem Prs.keep[dg K]{knd:KeyKind prog w K}{ps:aa (K×ah)}{h h':aI}(x:Prs knd items ps h)(k:∀c o,o.cls=.type "tuple"->h.get? c=ab o->h'.get? c=ab o):Prs knd items ps h':=
 ⟨x.1,λi kv e=>let ⟨p,v,o,n,h1,h2,h3,h4,h5⟩:=x.2 i kv e;⟨p,v,o,n,h1,k p o h3 h2,h3,h4,h5⟩⟩
section
variable {prog:bp} {w:bh} {K:Type} [dg K] {knd:KeyKind prog w K} {A:bu} {R:Except ah Flow->al->Prop} {it l d:ak} {items:aw ah} {ps:aa (K×ah)} {nl:af}
theorem rR(hh:A.handled=aj)(hdi:d≠it)(hdl:d≠l)(hil:l≠it) :
  ∀(m k:af)(s:al)(kvs:aa (K×ah)),k+m=items.size->kvs.length+m<=bn->s.heap.IsListIter it l k->s.heap.get? l=ab (liO items nl)->Prs knd items ps s.heap->s.heap.DictOf knd d kvs->
  (∀h' tk,h'.DictOf knd d (jf kvs (ps.drop k))->(∀c o,c≠d->c≠it->s.heap.get? c=ab o->h'.get? c=ab o)->R (.ok (.ret .none)) {s with heap:=h',toks:=tk})->
  codeAny (av prog w) A (.builtin "dict.update.loop" ⟨[.ref d,.ref it,dA k,.none],[]⟩) R s:=by
 intro m;induction m with
 |zero=>
  intro k s kvs hkm hl Z el Pp hd q;refine gn Wz.lE ?_;rw[g9 (show nj "dict.update.loop"=ae by decide +kernel) _];refine ao (Aj hh Z ⟨_,el,rfl,_,rfl⟩ (oS 0x1) λh' kp=>?_);refine ao ?_;unfold u7;rw[kL];refine ao (aS (aS (aS ?_)));have e:ps.drop k=[]:=mT (by have:=Pp.1;lia);rw[e] at q;obtain⟨o,es,ep,ho,r⟩:=hd;exact q _ s.toks ⟨o,es,ep,kp d o hdi ho,r⟩ λc o _ c1 e=>kp c o c1 e
 |succ m ih=>
  intro k s kvs hkm hl Z el Pp hd q;have hlp:k<ps.length:=by have:=Pp.1;lia
  obtain⟨p,x,o,n,hi,hp,hpc,hpd,his⟩:=Pp.2 k ps[k] (eh hlp);have hpi:p≠it:=let ⟨oi,ei,ci,_⟩:=Z;yU hp hpc ei ci 0x4
  refine gn Wz.lE ?_;rw[g9 (show nj "dict.update.loop"=ae by decide +kernel) _];refine ao (Ai Z ⟨_,el,rfl,_,rfl⟩ hi λh' Z' kp=>?_);have hp':h'.get? p=ab o:=(kp.2 p hpi).trans hp;refine ao (fg (ao (iS ?_)));refine ao (kz ⟨_,hp',hpc⟩ ?_);rw[au 0x4];refine ao (fI hp' hpd (aS ?_));show wpAny _ _ (lg [x,ps[k].2] (yT d x ps[k].2)) _ _ _;have hd':h'.DictOf knd d kvs:=let ⟨o,es,ep,ho,r⟩:=hd;⟨o,es,ep,(kp.2 d hdi).trans ho,r⟩
  obtain⟨od,es,ep,ho,hc,_⟩:=id hd';refine fg (yY his hd' (λh2 hd2' sb=>?_) 0x1);refine aS ⟨md _ 0x6,?_⟩;have ek:(dA (k+1):ah)=dA ((k+1:af):ai):=rfl;rw[ek];have hdrop:ps.drop k=ps[k]::ps.drop (k+1):=jI hlp;have ls:(iu kvs ps[k].1 ps[k].2).length<=kvs.length+1:=by
   unfold iu;split
   ·rw[bd];lia
   ·rw[cx];exact ba _
  have keep:∀c o,c≠d->c≠it->s.heap.get? c=ab o->h2.get? c=ab o:=λc o c0 c1 e=>(sb.2 c c0).trans ((kp.2 c c1).trans e)
  have hdc:∀c (oc:aT),oc.cls=.type "tuple"->s.heap.get? c=ab oc->c≠d/\c≠it:=λc oc hoc e=>⟨let ⟨o1,_,_,e1,c1,_⟩:=hd;yU e hoc e1 c1.1 0x4,let ⟨oi,ei,ci,_⟩:=Z;yU e hoc ei ci 0x4⟩
  refine ih (k+1) _ (iu kvs ps[k].1 ps[k].2) 0x1 0x1 (let ⟨oi,ei,r⟩:=Z';⟨oi,(sb.2 it (c5 hdi)).trans ei,r⟩) (keep l _ (c5 hdl) hil el) (Pp.keep λc oc hoc e=>keep c oc (hdc c oc hoc e).1 (hdc c oc hoc e).2 e) hd2' λh3 tk hd3 kp3=>?_
  exact q h3 tk (by rw[hdrop];exact hd3) λc o c0 c1 e=>kp3 c o c0 c1 (keep c o c0 c1 e)
end
section
variable {prog:bp} {w:bh} {K:Type} [dg K] {knd:KeyKind prog w K} {A:bu} {E:ah->al->Prop} {hp:aI} {g:aw ki} {dr:kj} {tk:af} {os:ni} {l:ak} {items:aw ah} {ps:aa (K×ah)} {nl:af}
theorem dict_list(hh:A.handled=aj)(el:hp.get? l=ab (liO items nl))(Pp:Prs knd items ps hp)(hz:items.size<=1000000)
 (q:∀h' tk',h'.DictOf knd hp.objs.size (jf [] ps)->(∀c o,hp.get? c=ab o->h'.get? c=ab o)->Q (.ref hp.objs.size) ⟨h',g,dr,tk',os⟩) :
  wpAny (av prog w) A (call (.type "dict") [.ref l]) Q E ⟨hp,g,dr,tk,os⟩:=by
 have hnew:(hp.push {cls:=.type "dict",data:=.dict #[]}).DictOf knd hp.objs.size []:=tm hp;have up:∀c o,hp.get? c=ab o->(hp.push {cls:=.type "dict",data:=.dict #[]}).get? c=ab o:=λc o e=>bz _ e
 have lt:∀{c o},hp.get? c=ab o->hp.objs.size≠c:=λe=>iF (bE e)
 refine u8 (Q₁:=λv s₁=>v=.ref hp.objs.size/\s₁=⟨hp.push {cls:=.type "dict",data:=.dict #[]},g,dr,tk,os⟩) za (zb _) zc (zd _ ⟨rfl,rfl⟩) λv s₁ hv=>?_
 obtain⟨rfl,rfl⟩:=hv;have ty:(⟨hp.push {cls:=.type "dict",data:=.dict #[]},g,dr,tk,os⟩:al).TypeIs (.ref hp.objs.size) "dict":=hnew.typeIs;have ez:=up _ _ el;have tz:(⟨hp.push {cls:=.type "dict",data:=.dict #[]},g,dr,tk,os⟩:al).TypeIs (.ref l) "list":=⟨_,ez,rfl⟩
 refine⟨ty,ze _ _,ao (ao (zf ty (aS ?_)))⟩;refine ao (kz tz ?_);rw[au 0x4];refine ao (lacks ez hh λh' tk' kp=>?_);rw[au (show(aj:ax ah).isNone=ae from rfl)];refine ao (ig (ao (BN ⟨_,kp _ _ ez,rfl,_,rfl⟩ (aS ⟨md _ 0x6,?_⟩))));have hd':h'.DictOf knd hp.objs.size []:=let ⟨o,es,ep,ho,r⟩:=hnew;⟨o,es,ep,kp _ _ ho,r⟩
 have ltd:hp.objs.size<h'.objs.size:=let ⟨o,es,ep,ho,r⟩:=hd';bE ho
 have ltl:l<h'.objs.size:=bE (kp _ _ ez);refine rR (ps:=ps) (it:=h'.objs.size) (l:=l) (items:=items) (nl:=nl) (show A.in1.handled=aj from hh) (cw ltd) (lt el) (cw ltl) items.size 0 _ [] 0x1 (by rw[eL,dE];lia) ⟨_,cS _ rfl,rfl,rfl⟩ (bz _ (kp _ _ ez)) (Pp.keep λc o _ e=>bz _ (kp c o (up c o e))) (let ⟨o,es,ep,ho,r⟩:=hd';⟨o,es,ep,bz _ ho,r⟩) λh2 tk2 hd2 kp2=>?_
 exact⟨rfl,q h2 tk2 hd2 λc o e=>kp2 c o (λx=>lt e x.symm) (cw (bE (kp c o (up c o e)))) (bz _ (kp c o (up c o e)))⟩
end
end Wl
namespace Mi
open PySem L2 PySem.SeqAt PySem.Spec PyProof.Rows
def mZ:aa D->ax (aa (D×D))
 |[]=>ab []
 |.tup [k,v]::r=>if lL k&&v.pure then (mZ r).map ((k,v)::·) else aj
 |_::_=>aj
def lZ(kvs:aa (D×D))(more:aa (D×D)):aa (D×D):=more.foldl (λacc p=>putD acc p.1 p.2) kvs
def uB:D->Res D
 |.lst xs=>match mZ xs with
  |some ps=>if decide (xs.length<=1000) then .ok (.dct (lZ [] ps)) else .bad
  |none=>.bad
 |_=>.bad
variable [KFrag]
theorem DN(I:Inv X pins σ H s):∀{xs:aa D}{vs:aa V}{us:aa ah}{ps:aa (D×D)},bL All H vs xs->Vals vs us->mZ xs=ab ps->
  ∃(kvs:aa (Key×V))(prs:aa (Key×ah)),KV kvs prs/\i_ All H kvs ps/\D.aW (ps.map (·.2))=ae/\us.length=prs.length/\∀(i:af)(kv:Key×ah),prs[i]?=ab kv->∃(p:ak)(x:ah)(o:aT)(n:af),us[i]?=ab (fq p)/\s.heap.get? p=ab o/\o.cls=.type "tuple"/\o.data=.seq #[x,kv.2] n/\(cD X.prog X.w).is kv.1 x=ae
 |[],_,_,_,.nil,.nil,h=>by
  cases h;exact⟨[],[],.nil,.nil,rfl,rfl,λi kv h=>by simp at h⟩
 |d::xs,_,_,ps,.cons r t,.cons rv tv,h=>by
  unfold mZ at h;split at h
  ·rename_i h0;cases h0
  ·rename_i k v r' h0;injection h0 with h0 h1
   subst h0 h1;split at h
   ·rename_i hf;rw[bq] at hf;obtain⟨ps',hp,rfl⟩:=n9.mp h;obtain⟨kvs,prs,g1,g2,g3,g4,g5⟩:=DN I t tv hp;obtain⟨a,ws,rfl,ea,rr⟩:=r.eU;cases rv;obtain⟨its,rvs,o,ho,hc,n,hd⟩:=gK I ea;cases rr with
    |cons rk rr=>
     cases rr with
     |cons rw_ rr=>
      cases rr;cases rvs with
      |cons q1 rvs=>
       cases rvs with
       |cons q2 rvs=>
        cases rvs;rename_i wk ww uk uw;obtain⟨key,hk1,hk2⟩:∃key:Key,kD key=k/\(cD X.prog X.w).is key uk=ae:=by
         cases rk with
         |int i=>exact⟨.inl i,rfl,xR q1⟩
         |str x=>exact⟨.inr x,rfl,xR q1⟩
         |_=>cases hf.1
        subst hk1;refine⟨(key,ww)::kvs,(key,uw)::prs,.cons ⟨rfl,q2⟩ g1,.cons rw_ g2,by rw[bw,D.aW,hf.2,g3];rfl,by rw[bj,bj,g4],λi kv hi=>?_⟩;cases i with
        |zero=>
         simp at hi;subst hi;exact⟨a,uk,o,n,rfl,ho,hc,hd,hk2⟩
        |succ i=>
         obtain⟨p,x,o',n',z1,z2⟩:=g5 i kv (by simpa using hi);exact⟨p,x,o',n',by simpa using z1,z2⟩
   ·cases h
  ·cases h
theorem tH:∀{more:aa (Key×V)}{ds:aa (D×D)}{kvs:aa (Key×V)}{es:aa (D×D)},i_ P H more ds->i_ P H kvs es->(kvs.map (·.1)).Nodup->i_ P H (c7 kvs more) (lZ es ds)/\((c7 kvs more).map (·.1)).Nodup
 |_,_,_,_,.nil,r,n=>⟨r,n⟩
 |_,_,_,_,.cons (k:=k) rv t,r,n=>by have:=tH t (DK (k:=k) rv r n) (jP n);exact this
theorem m7:∀{ds es:aa (D×D)},D.aW (ds.map (·.2))=ae->D.aW (es.map (·.2))=ae->D.aW ((lZ es ds).map (·.2))=ae
 |[],_,_,h=>h
 | (k,v)::ds,es,h,h2=>by
  rw[bw,D.aW,bq] at h;exact m7 (ds:=ds) h.2 (nT h.1 h2)
section
theorem JT(hc:X.calm=ae)(hg:Gl X "dict")(hm:X.mg "dict"=aj)(he:PE X e (gE fe re))(hs:bi [e] X.env=[(ag,bm e X.env)]:=by rfl) :
  PE X (.Call (.Name "dict" p) [e] [] pos) (gE (b1 uB fe) ae):=by
 rintro pins s σ H Q I ⟨ρ,d,E,h,q⟩;obtain⟨d0,h1,h2⟩:=bI h;unfold uB at h2;split at h2
 rotate_left
 ·exact bx h2
 rename_i xs;split at h2
 rotate_left
 ·exact bx h2
 rename_i ps hps;split at h2
 rotate_left
 ·exact bx h2
 rename_i hb;cases h2;have hb:=eW hb;refine iN (kW I hg hm DG ?_);refine i7 ?_ hs rfl;rw[hs];show wpAny _ _ (la [(ag,bm e X.env)]) _ _ s;refine mr (thn (he pins s σ H (λv H1=>cG H H1/\Rep All H1 v (.lst xs)) I ⟨ρ,_,E,h1,λv H1 s1 r1 _=>⟨s1,r1⟩⟩) λu s1 ⟨x,H1,I1,ru,sm,rx⟩=>?_);obtain⟨a,vs,rfl,ea,rr⟩:∃a vs,x=.ref a/\H1 a=ab (.lst vs)/\bL All H1 vs xs:=by
  obtain⟨_,_,rfl,e,p,r⟩:=rx.inv;exact⟨_,_,rfl,e,r⟩
 cases ru;refine mq ?_;obtain⟨hz,its,nl,rv,hl⟩:vs.length<=bn/\∃(its:aa ah)(n:af),Vals vs its/\s1.heap.get? a=ab {cls:=.type "list",data:=.seq its.toArray n}:=I1.hok a _ ea;obtain⟨kvs,prs,g1,g2,g3,g4,g5⟩:=DN I1 rr rv hps;have hlen:its.length<=1000:=by rw[<-rv.length,rr.length];exact hb
 obtain⟨hp,g,dr,tk,os⟩:=s1;refine Wl.dict_list (knd:=cD X.prog X.w) (ps:=prs) (items:=its.toArray) (I1.ok.hd hc) hl ⟨by rw[cm];exact g4,λi kv hi=>?_⟩ (by rw[cm];lia) λh' tk' hd kp=>?_
 ·obtain⟨p,x,o,n,z1,z2⟩:=g5 i kv hi;exact⟨p,x,o,n,by simpa using z1,z2⟩
 ·have hfr:H1 hp.objs.size=aj:=I1.hok.fresh (ba _);have rel:KV (c7 [] kvs) (jf [] prs):=g1.merge .nil;have hz2:(c7 [] kvs).length<=bn:=by
   have:=fW kvs [];have l1:kvs.length=prs.length:=jr g1;rw[eL] at this;rw[dE];lia
  obtain⟨rk,nd⟩:=tH (kvs:=[]) g2 i_.nil io;have sp:cG H1 (upd H1 hp.objs.size (.dK (c7 [] kvs))):=cG.upd hfr;have rk2:∀{P:ak->Prop},i_ P (upd H1 hp.objs.size (.dK (c7 [] kvs))) (c7 [] kvs) (lZ [] ps):=λ{P}=>(rk.keep (.same sp) λ_ h=>h).bT (m7 g3 rfl)
  refine⟨.ref hp.objs.size,_,I1.laid (a:=hp.objs.size) (t':=tk') (o:=.dK (c7 [] kvs)) kp (ba _) (HR hz2 (gr.mpr ?_) rel hd),rfl,?_⟩
  ·exact c5 (cw I1.big)
  ·exact q _ _ (sm.trans sp) (.dK aM trivial rk2 nd) λ_=>.dK aM (sm.free hfr) rk2 nd
end
end Mi
namespace Wn
open PySem PySem.Spec
theorem aOx(l:ak)(items:aw ah)(n:af)(dd:ax ak)(sl:aw (ax ah)) :
  ix (Builtin.«enumerate.__new__» ⟨[.type "enumerate",.ref l],[]⟩) (λ_ R s=>s.heap.get? l=ab (Wz.tuO items n dd sl)/\
   R (.ok (.ret (.ref (s.heap.push (Wz.itO l 0)).objs.size)))
    {s with heap:=(s.heap.push (Wz.itO l 0)).push {cls:=.type "enumerate",data:=.fields #[.none,.bool ag,.ref s.heap.objs.size,dA 0,.none,.none]}}):=
 .of_wp λprog w A R s h=>by
  obtain⟨hp,g,d,tk,os⟩:=s;obtain⟨hl,h⟩:=h;have hsub:=Ce;have hT:uv (uz ⟨hp,g,d,tk,os⟩) l items:=⟨_,hl,rfl,n,rfl⟩
  wp_walk using me hl
  refine Cf λst=>aS ?_
  split
  ·rename_i c _ _ _ _ _;cases (c==fT "enumerate")
   ·wp_walk using me hl,jq hT
    exact⟨_,rfl,h⟩
   ·wp_walk using me hl,jq hT
    exact⟨_,rfl,h⟩
  ·wp_walk using me hl,jq hT
   exact⟨_,rfl,h⟩
section
theorem aN7(hL:s.heap.get? l=ab (Wz.tuO items n dd sl))
 (h:∀h',IsEnum h' (s.heap.objs.size+1) s.heap.objs.size 0 .none->h'.get? s.heap.objs.size=ab (Wz.itO l 0)->
   (∀b o,s.heap.get? b=ab o->h'.get? b=ab o)->Q (.ref (s.heap.objs.size+1)) {s with heap:=h'}) :
  wpAny (av prog w) A (call (.type "enumerate") [.ref l]) Q E s:=by
 refine B8 va 0x4 (F.typeCall_enumerate_1 _) (F.newCall_enumerate_1 _) (λobj=>F.args_object_init_2 obj _) Cg
  (aOx l items n dd sl) ⟨hL,?_⟩
 have hz:(s.heap.push (Wz.itO l 0)).objs.size=s.heap.objs.size+1:=dL ..;show _/\_;rw[hz];have he:IsEnum ((s.heap.push (Wz.itO l 0)).push {cls:=.type "enumerate",data:=.fields #[.none,.bool ag,.ref s.heap.objs.size,dA 0,.none,.none]}) (s.heap.objs.size+1) s.heap.objs.size 0 .none:=by
  have:=cS (s.heap.push (Wz.itO l 0)) (o:={cls:=.type "enumerate",data:=.fields #[.none,.bool ag,.ref s.heap.objs.size,dA 0,.none,.none]}) rfl;rw[hz] at this;exact this
 exact⟨⟨_,he,rfl⟩,h _ he (bz _ (cS _ rfl)) λb o x=>bz _ (bz _ x)⟩
theorem drT(hh:A.handled=aj)(it t:ak)(hne:t≠it)(items:aw ah)(n:af)(dd:ax ak)(sl:aw (ax ah)) :
  Draws prog w A it [it,t] items.size (λi v=>items[i]?=ab v) (λi h=>h.get? it=ab (Wz.itO t i)/\h.get? t=ab (Wz.tuO items n dd sl)) where
 live:=λ_ _ st=>⟨_,st.1⟩
 frame:=λ_ _ _ st hk=>⟨hk it 0x2 _ st.1,hk t 0x2 _ st.2⟩
 item:=λi s Q E hi st hQ=>by
  have hx:items[i]?=ab items[i]:=uo hi;exact Wz.drawn st.1 st.2 hx λh' e k=>hQ _ h' s.toks hx ⟨e,(k.2 t hne).trans st.2⟩ k
 done:=λs Q E st hE=>Wz.over hh st.1 st.2 (oS (ba _)) hE
theorem ovT(hh:A.handled=aj)(it t:ak)(items:aw ah)(n:af)(dd:ax ak)(sl:aw (ax ah))(i:af)(hi:items[i]?=aj):Draws prog w A it [it,t] 0 (λ_ _=>iA) (λ_ h=>h.get? it=ab (Wz.itO t i)/\h.get? t=ab (Wz.tuO items n dd sl)) where
 live:=λ_ _ st=>⟨_,st.1⟩
 frame:=λ_ _ _ st hk=>⟨hk it 0x2 _ st.1,hk t 0x2 _ st.2⟩
 item:=λj s Q E hj=>bg hj (Nat.not_lt_zero _)
 done:=λs Q E st hE=>Wz.over hh st.1 st.2 hi hE
end
end Wn
namespace Mi
open PySem L2 PySem.SeqAt PySem.Spec PyProof.Rows
def aNy(a:ak):It:=
 ⟨λi H=>∃xs x,H a=ab (.tup xs)/\xs[i]?=ab x,λi H v H'=>∃t x,(∀xs,H a=ab (.tup xs)->xs[i]?=ab x)/\v=.ref t/\H t=aj/\H'=upd H t (.tup [.int i,x]),λi H=>∃xs,H a=ab (.tup xs)/\xs.length<=i⟩
def aAd(a:FE):FI:=λρ=>do let x <- a ρ;match x with|.tup xs=>(if D.aW xs then .ok (V2 xs,ae) else .bad)|_=>.bad
theorem JV(p:mf h a its):∃n dd sl,h.get? a=ab (Wz.tuO its n dd sl):=by
 obtain⟨⟨c,dd,d,sl⟩,e,hc,n,hd⟩:=p;simp only at hc hd;subst hc hd;exact⟨n,dd,sl,e⟩
theorem aAe{h:aI}(e:h.get? a=ab o)(hc:o.cls=.type T)(e':h.get? b=ab u)(hc':u.cls=.type U)(ne:(fT T==fT U)=ag):a≠b:=λq=>by
 subst q;rw[e] at e';cases e';rw[hc] at hc';rw[hc'] at ne;simp at ne
variable [KFrag]
theorem ItQ.ent{K:br}(a:ak)(ds:aa D)(e:J=aNy a)(r:Rep P H (.ref a) (.tup ds))(h:items=V2 ds):ItQ K P J H items:=by
 refine⟨λP H kk mm=>?_⟩;have r:=r.Y_ kk mm;subst e h;obtain⟨a',xs,e,hq,rr⟩:=r.eU;cases e;refine⟨λi hi=>⟨xs,hq,by rw[rr.length,<-ZZ];exact hi⟩,λi d hi=>?_⟩;rw[aCc] at hi;obtain⟨y,hd,rfl⟩:=n9.mp hi;obtain⟨v,h1,h2⟩:=rr.get hd;refine⟨⟨xs,v,hq,h1⟩,λx H' ⟨t,u,hy,e1,e2,e3⟩=>?_⟩;subst e1 e3;have:=hy xs hq;rw[h1] at this;cases this;have sp:cG H (upd H t (.tup [.int i,v])):=cG.upd e2;exact⟨sp,.tup aM (.cons (.int _) (.cons (h2.same sp) .nil))⟩
theorem V7{K:br}{elts:aa Expr}{x1}{tp:bS}(a e it:ak)(hne:e≠it):Turn P w K (.Tuple elts x1 tp) (aNy a) [e,it] e (λi h=>(∃old,IsEnum h e it i old)/\h.get? it=ab (Wz.itO a i)) where
 mem:=b6 ..
 obj:=λi h z0 b hb=>by
  obtain⟨⟨old,h1⟩,h2⟩:=z0;simp only[b9,kQ,or_false] at hb;rcases hb with rfl|rfl
  ·exact⟨_,h1,λv z=>nomatch(show nN _=nS v from z)⟩
  ·exact⟨_,h2,λv z=>nomatch(show nN _=nS v from z)⟩
 keep:=λi h h' ⟨⟨old,h1⟩,h2⟩ k=>⟨⟨old,k e (b6 ..) _ h1⟩,k it 0x2 _ h2⟩
 item:=by
  rintro Y hP hw hK hc i pins s σ H E I hf ⟨⟨old,h1⟩,h2⟩ ⟨xs,x,hq,hx⟩;subst hP hw hK;obtain⟨its,rv,p,hz⟩:=I.tuple (.of hq);obtain⟨n,dd,sl,e3⟩:=JV p;obtain⟨u,hu,ru⟩:=rv.get hx;have hlt:e<s.heap.objs.size:=bE h1;have nai:a≠it:=aAe e3 rfl h2 rfl 0x4;have nea:e≠a:=aAe h1 rfl e3 rfl 0x4;have hil:i<its.toArray.size:=by
   have:=(dz.mp hu).1;simpa using this
  refine wpAny_pyNext_enum_itemD (Wn.drT (show Y.A.in1.handled=aj from I.ok.hd hc) it a nai its.toArray n dd sl) h1 ⟨h2,e3⟩ hil hne (by simp[hne,nea]) λv h' tk o0 o1 o2 o3 o4 o5=>?_
  obtain rfl:u=v:=by
   have:its[i]?=ab v:=by simpa using o0
   rw[hu] at this;exact cq this
  refine⟨_,rfl,wpAny_letOwnedTupleGo_enum o1 λh'' g1 g2=>?_⟩;have sb:hG e h' h'':=g2;have kk:∀b o,b∉[e,it]->s.heap.get? b=ab o->h''.get? b=ab o:=λb o hb eb=>by
   simp only[b9,kQ,or_false,ii] at hb;exact(sb.2 b hb.1).trans (o5 b o hb.1 hb.2 eb)
  have t3:h''.get? s.heap.objs.size=ab {cls:=.type "tuple",data:=.seq #[.int i tk,u]}:=(sb.2 _ (iF hlt)).trans o3;refine⟨.ref s.heap.objs.size,upd H s.heap.objs.size (.tup [.int i,x]),PL (s:=s) I kk (λb hb=>hf b hb) (ba _) ?_,rfl,⟨_,x,λys hy=>by rw[hq] at hy;cases hy;exact hx,rfl,I.hok.fresh (ba _),rfl⟩,⟨⟨u,g1⟩,(sb.2 it (c5 hne)).trans o2.1⟩,λb hb=>?_⟩
  ·exact⟨by show 2<=bn;rw[dE];decide,[.int i tk,u],.cons ⟨_,rfl⟩ (.cons ru .nil),⟨_,t3,rfl,0,rfl⟩⟩
  ·rw[bF]
   ·exact(hf b hb).1
   ·intro z;simp only[b9,kQ,or_false] at hb;rcases hb with h|h
    ·rw[<-h,z] at hlt;exact gw _ hlt
    ·have:=bE h2;rw[<-h,z] at this;exact gw _ this
 done:=by
  rintro Y hP hw hK hc i pins s σ H E I hf ⟨⟨old,h1⟩,h2⟩ ⟨xs,hq,hx⟩;subst hP hw hK;obtain⟨its,rv,p,hz⟩:=I.tuple (.of hq);obtain⟨n,dd,sl,e3⟩:=JV p;obtain⟨f0,f1,f2,f3,f4,f5⟩:=hf it 0x2;have hl:=rv.length;exact Ch (Wn.ovT (show Y.A.in1.handled=aj from I.ok.hd hc) it a its.toArray n dd sl i (by simp;lia)) h1 ⟨h2,e3⟩ λh' eb=>⟨rfl,I.turned (λb o hb e=>eb b o hb e) f0 f1 f3 f4 f5⟩
 self:=λ_ _ _ _ _ ⟨⟨old,h1⟩,_⟩ h=>vb h1 h
section
theorem aCt{x1}(hg:Gl X "enumerate")(hm:X.mg "enumerate"=aj)(ha:PA X [a] (gA (aA fa aN) ra))(hs:bi [a] X.env=[(ag,bm a X.env)]:=by rfl) :
  PI X (.Tuple elts x1 tp) (.Call (.Name "enumerate" p) [a] [] pos) (gI X.K (aAd fa)):=by
 rintro pins s σ H R I ⟨ρ,items,k,E,h,q⟩;obtain⟨d,h1,h⟩:=bI h;cases d<;>try (cases h;done)
 rename_i its;dsimp only at h;split at h
 ·rename_i hp;cases h;have hb:aA fa aN ρ=.ok [D.tup its]:=by
   unfold aA;rw[h1];rfl
  refine Call_ (kW I hg hm Ci (i7 (thn (ha pos pins s σ H (λvs H1=>∃v,vs=[v]/\cG H H1/\Rep All H1 v (.tup its)) I ⟨ρ,_,E,hb,λvs H1 s1 r1 n1=>?_⟩) λus s1 ⟨vs,H1,I1,r1,q1⟩=>?_) hs rfl))
  ·cases r1 with
   |cons r t=>
    cases t;exact⟨_,rfl,s1,r⟩
  ·obtain⟨v,rfl,s1',r⟩:=q1;cases r1 with
   |cons rv rr=>
    cases rr;obtain⟨l,ys,rfl,hl,rr⟩:=r.eU;cases rv;obtain⟨vs,rvs,pl,hz⟩:=I1.tuple (.of hl);obtain⟨n,dd,sl,e3⟩:=JV pl;refine Wn.aN7 e3 λh' e1 e2 e4=>?_
    refine vb e1 ?_;refine⟨s1.heap.objs.size+1,[s1.heap.objs.size+1,s1.heap.objs.size],_,_,H1,rfl,I1.kept λb o e=>e4 b o e,V7 l (s1.heap.objs.size+1) s1.heap.objs.size (Cj _),⟨⟨_,e1⟩,e2⟩,λb hb=>?_,q _ H1 s1' (.ent l its rfl r rfl) λhk=>.ent l its rfl (r.bT hp) rfl⟩;simp only[b9,kQ,or_false] at hb;rcases hb with rfl|rfl
    ·exact I1.aBl (gN _) (I1.hok.fresh (gN _))
    ·exact I1.aBl (ba _) (I1.hok.fresh (ba _))
 ·cases h
end
end Mi
namespace Wt
open PySem PySem.Spec
open Wl
noncomputable abbrev tpO(xs:aw ah)(n:af)(sl:aw (ax ah)):aT:={cls:=.type "tuple",data:=.seq xs n,slots:=sl}
theorem JR:kA (.type "tuple") "keys"=pure aj:=by rw[kN,kP];kernel_rfl
theorem noGet:kA (.type "tuple") "__getattr__"=pure aj:=by rw[kN,kP];kernel_rfl
theorem JS:uS u3 "tuple.__getattribute__"=ab Builtin.«object.__getattribute__»:=yq (id':= "object.__getattribute__") 0x8 0x6 0x6 0x8
theorem jR(a:ak)(xs:aw ah)(n:af)(sl:aw (ax ah))(u:eB):ix (Builtin.«object.__getattribute__» ⟨[.ref a,.str "keys" u],[]⟩) (λA R s=>s.heap.get? a=ab (tpO xs n sl)/\yr (.ref a) "keys" A R s):=.of_wp λprog w A R s hs=>by
 obtain⟨hp,g,d,tk,os⟩:=s;obtain⟨e,hh,q⟩:=hs;have ty:(⟨hp,g,d,tk,os⟩:al).TypeIs (.ref a) "tuple":=⟨_,e,rfl⟩
 have no:=JR
 wp_walk
 exact yt hh q (yu 0x6 (by size_fits))
section
variable {prog:bp} {w:bh} {A:bu} {E:ah->al->Prop} {hp:aI} {g:aw ki} {d:kj} {tk:af} {os:ni} {a:ak} {xs:aw ah} {n:af} {sl:aw (ax ah)}
theorem gone(e:hp.get? a=ab (tpO xs n sl))(hh:A.handled=aj)(hk:kw=[])(q:∀h' tk' x,yw hp h' x (.ref a) "keys"->E (.ref x) ⟨h',g,d,tk',os⟩) :
  wpAny (av prog w) A (call (.builtin "tuple.__getattribute__") ([.ref a]++[.str "keys" u]) kw) Q E ⟨hp,g,d,tk,os⟩:=by
 subst hk;exact jx zi ⟨_,e,rfl⟩ JS (F.args_tuple_getattribute_2 _ _) (jR a xs n sl u) ⟨e,hh,λh' tk' x hx=>q h' tk' x hx⟩
theorem lacks(e:hp.get? a=ab (tpO xs n sl))(hh:A.handled=aj)(q:∀h' tk',(∀b o,hp.get? b=ab o->h'.get? b=ab o)->Q aj ⟨h',g,d,tk',os⟩):wpAny (av prog w) A (yz (.ref a) "keys") Q E ⟨hp,g,d,tk,os⟩:=by
 have ty:∀tk',(⟨hp,g,d,tk',os⟩:al).TypeIs (.ref a) "tuple":=λ_=>⟨_,e,rfl⟩
 have f3:=zi.lookup;have f4:=zi.bind (.ref a);have f5:=noGet;have sub:=yA
 wp_walk using gone e hh
 case hk=>rfl
 intro h' tk' x hx;obtain⟨t,u,ex⟩:=hx.there;show wpAny _ _ (yB _ _ _ _ _ _ _) _ _ _
 wp_walk
 exact q _ _ hx.keeps
end
section
variable {prog:bp} {w:bh} {K:Type} [dg K] {knd:KeyKind prog w K} {A:bu} {R:Except ah Flow->al->Prop} {it l d:ak} {items:aw ah} {ps:aa (K×ah)} {nl:af} {sl:aw (ax ah)}
theorem rR(hh:A.handled=aj)(hdi:d≠it)(hdl:d≠l)(hil:l≠it) :
  ∀(m k:af)(s:al)(kvs:aa (K×ah)),k+m=items.size->kvs.length+m<=bn->s.heap.IsTupleIter it l k->s.heap.get? l=ab (tpO items nl sl)->Prs knd items ps s.heap->s.heap.DictOf knd d kvs->
  (∀h' tk,h'.DictOf knd d (jf kvs (ps.drop k))->(∀c o,c≠d->c≠it->s.heap.get? c=ab o->h'.get? c=ab o)->R (.ok (.ret .none)) {s with heap:=h',toks:=tk})->
  codeAny (av prog w) A (.builtin "dict.update.loop" ⟨[.ref d,.ref it,dA k,.none],[]⟩) R s:=by
 intro m;induction m with
 |zero=>
  intro k s kvs hkm hl Z el Pp hd q;refine gn Wz.lE ?_;rw[g9 (show nj "dict.update.loop"=ae by decide +kernel) _];refine ao (Al hh Z ⟨_,el,rfl,_,rfl⟩ (oS 0x1) λh' kp=>?_);refine ao ?_;unfold u7;rw[kL];refine ao (aS (aS (aS ?_)));have e:ps.drop k=[]:=mT (by have:=Pp.1;lia);rw[e] at q;obtain⟨o,es,ep,ho,r⟩:=hd;exact q _ s.toks ⟨o,es,ep,kp d o hdi ho,r⟩ λc o _ c1 e=>kp c o c1 e
 |succ m ih=>
  intro k s kvs hkm hl Z el Pp hd q;have hlp:k<ps.length:=by have:=Pp.1;lia
  obtain⟨p,x,o,n,hi,hp,hpc,hpd,his⟩:=Pp.2 k ps[k] (eh hlp);have hpi:p≠it:=let ⟨oi,ei,ci,_⟩:=Z;yU hp hpc ei ci 0x4
  refine gn Wz.lE ?_;rw[g9 (show nj "dict.update.loop"=ae by decide +kernel) _];refine ao (Ak Z ⟨_,el,rfl,_,rfl⟩ hi λh' Z' kp=>?_);have hp':h'.get? p=ab o:=(kp.2 p hpi).trans hp;refine ao (fg (ao (iS ?_)));refine ao (kz ⟨_,hp',hpc⟩ ?_);rw[au 0x4];refine ao (fI hp' hpd (aS ?_));show wpAny _ _ (lg [x,ps[k].2] (yT d x ps[k].2)) _ _ _;have hd':h'.DictOf knd d kvs:=let ⟨o,es,ep,ho,r⟩:=hd;⟨o,es,ep,(kp.2 d hdi).trans ho,r⟩
  obtain⟨od,es,ep,ho,hc,_⟩:=id hd';refine fg (yY his hd' (λh2 hd2' sb=>?_) 0x1);refine aS ⟨md _ 0x6,?_⟩;have ek:(dA (k+1):ah)=dA ((k+1:af):ai):=rfl;rw[ek];have hdrop:ps.drop k=ps[k]::ps.drop (k+1):=jI hlp;have ls:(iu kvs ps[k].1 ps[k].2).length<=kvs.length+1:=by
   unfold iu;split
   ·rw[bd];lia
   ·rw[cx];exact ba _
  have keep:∀c o,c≠d->c≠it->s.heap.get? c=ab o->h2.get? c=ab o:=λc o c0 c1 e=>(sb.2 c c0).trans ((kp.2 c c1).trans e)
  have hdc:∀c (oc:aT),oc.cls=.type "tuple"->s.heap.get? c=ab oc->c≠d/\c≠it:=λc oc hoc e=>⟨let ⟨o1,_,_,e1,c1,_⟩:=hd;yU e hoc e1 c1.1 0x4,let ⟨oi,ei,ci,_⟩:=Z;yU e hoc ei ci 0x4⟩
  refine ih (k+1) _ (iu kvs ps[k].1 ps[k].2) 0x1 0x1 (let ⟨oi,ei,r⟩:=Z';⟨oi,(sb.2 it (c5 hdi)).trans ei,r⟩) (keep l _ (c5 hdl) hil el) (Pp.keep λc oc hoc e=>keep c oc (hdc c oc hoc e).1 (hdc c oc hoc e).2 e) hd2' λh3 tk hd3 kp3=>?_
  exact q h3 tk (by rw[hdrop];exact hd3) λc o c0 c1 e=>kp3 c o c0 c1 (keep c o c0 c1 e)
end
section
variable {prog:bp} {w:bh} {K:Type} [dg K] {knd:KeyKind prog w K} {A:bu} {E:ah->al->Prop} {hp:aI} {g:aw ki} {dr:kj} {tk:af} {os:ni} {l:ak} {items:aw ah} {ps:aa (K×ah)} {nl:af} {sl:aw (ax ah)}
theorem aCu(hh:A.handled=aj)(el:hp.get? l=ab (tpO items nl sl))(Pp:Prs knd items ps hp)(hz:items.size<=1000000)
 (q:∀h' tk',h'.DictOf knd hp.objs.size (jf [] ps)->(∀c o,hp.get? c=ab o->h'.get? c=ab o)->Q (.ref hp.objs.size) ⟨h',g,dr,tk',os⟩) :
  wpAny (av prog w) A (call (.type "dict") [.ref l]) Q E ⟨hp,g,dr,tk,os⟩:=by
 have hnew:(hp.push {cls:=.type "dict",data:=.dict #[]}).DictOf knd hp.objs.size []:=tm hp;have up:∀c o,hp.get? c=ab o->(hp.push {cls:=.type "dict",data:=.dict #[]}).get? c=ab o:=λc o e=>bz _ e
 have lt:∀{c o},hp.get? c=ab o->hp.objs.size≠c:=λe=>iF (bE e)
 refine u8 (Q₁:=λv s₁=>v=.ref hp.objs.size/\s₁=⟨hp.push {cls:=.type "dict",data:=.dict #[]},g,dr,tk,os⟩) za (zb _) zc (zd _ ⟨rfl,rfl⟩) λv s₁ hv=>?_
 obtain⟨rfl,rfl⟩:=hv;have ty:(⟨hp.push {cls:=.type "dict",data:=.dict #[]},g,dr,tk,os⟩:al).TypeIs (.ref hp.objs.size) "dict":=hnew.typeIs;have ez:=up _ _ el;have tz:(⟨hp.push {cls:=.type "dict",data:=.dict #[]},g,dr,tk,os⟩:al).TypeIs (.ref l) "tuple":=⟨_,ez,rfl⟩
 refine⟨ty,ze _ _,ao (ao (zf ty (aS ?_)))⟩;refine ao (kz tz ?_);rw[au 0x4];refine ao (lacks ez hh λh' tk' kp=>?_);rw[au (show(aj:ax ah).isNone=ae from rfl)];refine ao (ig (ao (jq ⟨_,kp _ _ ez,rfl,_,rfl⟩ (aS ⟨md _ 0x6,?_⟩))));have hd':h'.DictOf knd hp.objs.size []:=let ⟨o,es,ep,ho,r⟩:=hnew;⟨o,es,ep,kp _ _ ho,r⟩
 have ltd:hp.objs.size<h'.objs.size:=let ⟨o,es,ep,ho,r⟩:=hd';bE ho
 have ltl:l<h'.objs.size:=bE (kp _ _ ez);refine rR (ps:=ps) (it:=h'.objs.size) (l:=l) (items:=items) (nl:=nl) (show A.in1.handled=aj from hh) (cw ltd) (lt el) (cw ltl) items.size 0 _ [] 0x1 (by rw[eL,dE];lia) ⟨_,cS _ rfl,rfl,rfl⟩ (bz _ (kp _ _ ez)) (Pp.keep λc o _ e=>bz _ (kp c o (up c o e))) (let ⟨o,es,ep,ho,r⟩:=hd';⟨o,es,ep,bz _ ho,r⟩) λh2 tk2 hd2 kp2=>?_
 exact⟨rfl,q h2 tk2 hd2 λc o e=>kp2 c o (λx=>lt e x.symm) (cw (bE (kp c o (up c o e)))) (bz _ (kp c o (up c o e)))⟩
end
end Wt
namespace Mi
open PySem L2 PySem.SeqAt PySem.Spec PyProof.Rows
def tK:D->Res D
 |.tup xs=>match mZ xs with
  |some ps=>if decide (xs.length<=1000) then .ok (.dct (lZ [] ps)) else .bad
  |none=>.bad
 |_=>.bad
section
variable [KFrag]
theorem V8{X:Cx}{e:Expr}{fe:FE}{re:aq}{p pos:bS}(hc:X.calm=ae)(hg:Gl X "dict")(hm:X.mg "dict"=aj)(he:PE X e (gE fe re))(hs:bi [e] X.env=[(ag,bm e X.env)]:=by rfl) :
  PE X (.Call (.Name "dict" p) [e] [] pos) (gE (b1 tK fe) ae):=by
 rintro pins s σ H Q I ⟨ρ,d,E,h,q⟩;obtain⟨d0,h1,h2⟩:=bI h;unfold tK at h2;split at h2
 rotate_left
 ·exact bx h2
 rename_i xs;split at h2
 rotate_left
 ·exact bx h2
 rename_i ps hps;split at h2
 rotate_left
 ·exact bx h2
 rename_i hb;cases h2;have hb:=eW hb;refine iN (kW I hg hm DG ?_);refine i7 ?_ hs rfl;rw[hs];show wpAny _ _ (la [(ag,bm e X.env)]) _ _ s;refine mr (thn (he pins s σ H (λv H1=>cG H H1/\Rep All H1 v (.tup xs)) I ⟨ρ,_,E,h1,λv H1 s1 r1 _=>⟨s1,r1⟩⟩) λu s1 ⟨x,H1,I1,ru,sm,rx⟩=>?_);obtain⟨a,vs,rfl,ea,rr⟩:=rx.eU;cases ru;refine mq ?_;obtain⟨hz,its,rv,⟨cl,dd,da,sl⟩,hl,e1,nl,e2⟩:vs.length<=bn/\∃its:aa ah,Vals vs its/\jY s1.heap a its.toArray:=I1.hok a _ ea;simp only[Prod.mk.injEq] at e1 e2;obtain⟨e2,e3⟩:=e2;subst e1 e2 e3;obtain⟨kvs,prs,g1,g2,g3,g4,g5⟩:=DN I1 rr rv hps;have hlen:its.length<=1000:=by rw[<-rv.length,rr.length];exact hb
 obtain⟨hp,g,dr,tk,os⟩:=s1;refine Wt.aCu (knd:=cD X.prog X.w) (ps:=prs) (items:=its.toArray) (I1.ok.hd hc) hl ⟨by rw[cm];exact g4,λi kv hi=>?_⟩ (by rw[cm];lia) λh' tk' hd kp=>?_
 ·obtain⟨p,x,o,n,z1,z2⟩:=g5 i kv hi;exact⟨p,x,o,n,by simpa using z1,z2⟩
 ·have hfr:H1 hp.objs.size=aj:=I1.hok.fresh (ba _);have rel:KV (c7 [] kvs) (jf [] prs):=g1.merge .nil;have hz2:(c7 [] kvs).length<=bn:=by
   have:=fW kvs [];have l1:kvs.length=prs.length:=jr g1;rw[eL] at this;rw[dE];lia
  obtain⟨rk,nd⟩:=tH (kvs:=[]) g2 i_.nil io;have sp:cG H1 (upd H1 hp.objs.size (.dK (c7 [] kvs))):=cG.upd hfr;have rk2:∀{P:ak->Prop},i_ P (upd H1 hp.objs.size (.dK (c7 [] kvs))) (c7 [] kvs) (lZ [] ps):=λ{P}=>(rk.keep (.same sp) λ_ h=>h).bT (m7 g3 rfl)
  refine⟨.ref hp.objs.size,_,I1.laid (a:=hp.objs.size) (t':=tk') (o:=.dK (c7 [] kvs)) kp (ba _) (HR hz2 (gr.mpr ?_) rel hd),rfl,?_⟩
  ·exact c5 (cw I1.big)
  ·exact q _ _ (sm.trans sp) (.dK aM trivial rk2 nd) λ_=>.dK aM (sm.free hfr) rk2 nd
end
noncomputable def max2:aa D->Res D
 |[.int a,.int b]=>.ok (.int (if b > a then b else a))
 |_=>.bad
section
variable [KFrag]
theorem QB{X:Cx}(hc:X.calm=ae):kJ X (.builtin "max") (rs max2 ag):=by
 rintro pins s σ H xs us Q I vr ⟨ds,d,r,e,k⟩;unfold max2 at e;split at e
 ·cases e;cases r with
  |cons r t=>
   cases r.inv;cases t with
   |cons r t=>
    cases r.inv;cases t;cases vr with
    |cons v vt=>
     obtain⟨t1,rfl⟩:=v;cases vt with
     |cons v vt=>
      obtain⟨t2,rfl⟩:=v;cases vt;refine max_two_ints (I.ok.hd hc) λh' tk hk=>⟨_,H,I.kept hk,?_,k.int⟩
      split
      ·exact⟨_,rfl⟩
      ·exact⟨_,rfl⟩
 ·exact bx e
end
def lW(o:gF):aa D->Res D
 |[a,b]=>HY o [a,b]
 |_=>.bad
section
variable [KFrag]
section
variable {X:Cx}
theorem aE8{o:gF}{nm:dy}(two:∀{prog:bp} {w:bh} {A:bu} {Q:ah->al->Prop} {E:ah->al->Prop} {s:al} {a b:ah},wpAny (av prog w) A.in1 (i6 (.ref s.heap.objs.size)) (Mm.Seen prog w A.in1 o.op Q) E {s with heap:=s.heap.push {cls:=.type "tuple",data:=.seq #[a,b]}}->wpAny (av prog w) A (call (.builtin nm) [a,b]) Q E s)(hu:X.A.units+20<ck)(hc:X.calm=ae):kJ X (.builtin nm) (rs (lW o) ag):=by
 rintro pins s σ H xs us Q I vr ⟨ds,d,r,e,k⟩;unfold lW at e;split at e
 ·cases r with
  |cons r t=>
   cases t with
   |cons r' t=>
    cases t;cases vr with
    |cons v vt=>
     cases vt with
     |cons v' vt=>
      cases vt;exact ZW two hu hc I r r' v v' e k
 ·exact bx e
theorem aGg(hu:X.A.units+20<ck)(hc:X.calm=ae):kJ X (.builtin "min") (rs (lW .lt) ag):=aE8 Mm.O9 hu hc
theorem aGh(hu:X.A.units+20<ck)(hc:X.calm=ae):kJ X (.builtin "max") (rs (lW .gt) ag):=aE8 Mm.O_ hu hc
end
end
noncomputable def sCt:FS:=λρ=>.ok (.ct ρ)
section
variable [KFrag]
theorem aGi{X:Cx}{own:af->aq}{pos:bS}:PS X (.Continue pos) (tS own sCt):=PS.imp MT λD σ H z0=>by
 obtain⟨ρ,fl,E,h,q⟩:=z0;cases h;exact q σ H (λa o e n=>⟨e,n⟩) E
end
inductive Srx where
 |par (i:af)
 |exp (f:FE)
def okF(d:D):aq:=d.pure||inner d
def yV(c f:Str)(fa:FE):FE:=λρ=>do
 let d <- fa ρ
 match d with
 |.ins c' fs=>if decide (c'=c) then Res.ofOpt (fs.lookup f) else .bad
 |_=>.bad
noncomputable def aOy:HO->aq
 |.tup _=>ae
 |.frz _ _=>ae
 |.ext _=>ae
 |_=>ag
section
variable [KFrag]
def QC(H H':Hp):Prop:=∀a o,H a=ab o->aOy o=ae->H' a=ab o
theorem QC.tl(k:QC H H')(a:ak)(o:HO)(e:H a=ab o)(h:Y9 o=ag):H' a=ab o:=k a o e (by
 cases o with
 |tup _=>rfl
 |frz _ u=>cases u<;>first|rfl|exact fx0 h.symm
 |_=>exact fx0 h.symm)
theorem Rep.uX{P P':ak->Prop}(k:QC H H')(q:Rep P H v d)(h:d.pure=ae):Rep P' H' v d:=q.wH k.tl h
theorem bL.uX{P P':ak->Prop}(k:QC H H')(q:bL P H v d)(h:D.aW d=ae):bL P' H' v d:=q.wH k.tl h
theorem i_.uX(k:QC H H'):∀{v:aa (Key×V)}{d:aa (D×D)},i_ P H v d->D.aW (d.map (·.2))=ae->i_ P' H' v d
 |_,_,.nil,_=>.nil
 |_,_,.cons r t,h=>by
  rw[bw,D.aW,bq] at h;exact .cons (r.uX k h.1) (i_.uX k t h.2)
theorem oU.uX(k:QC H H'):∀{v:aa (aa Key×V)}{d:aa (D×D)},oU P H v d->D.aW (d.map (·.2))=ae->oU P' H' v d
 |_,_,.nil,_=>.nil
 |_,_,.cons r t,h=>by
  rw[bw,D.aW,bq] at h;exact .cons (r.uX k h.1) (oU.uX k t h.2)
def aE9(x:ak)(H H':Hp):Prop:=∀a o,H a=ab o->a≠x->H' a=ab o
theorem aE9.upd:aE9 x H (upd H x o):=λa o' e n=>by rw[bF n];exact e
theorem aE9.use(b:aE9 x H H')(hx:H x=ab (.ins C dx fs)):QC H H':=λa o e u=>b a o e λz=>by
 subst z;rw[hx] at e;cases e;cases u
theorem Rep.okK(b:aE9 x H H')(hx:H x=ab (.ins C dx fs))(m:∀a,P a->P' a)(r:Rep P H v d)(h:okF d=ae):Rep P' H' v d:=by
 have k:=b.use hx;rcases(gm _ _).mp h with h|h
 ·exact r.uX k h
 ·cases r with
  |lst e p r=>exact .lst (b _ _ e (MN e hx 0x7)) (m _ p) (r.uX k h)
  |cel e p r=>exact .cel (b _ _ e (MN e hx 0x7)) (m _ p) (r.uX k h)
  |dK e p r n=>exact .dK (b _ _ e (MN e hx 0x7)) (m _ p) (r.uX k h) n
  |dT e p r n=>exact .dT (b _ _ e (MN e hx 0x7)) (m _ p) (r.uX k h) n
  |_=>cases h
theorem mH.okK(b:aE9 x H H')(hx:H x=ab (.ins C dx fs))(m:∀a,P a->P' a):∀{v:aa (Str×V)}{d:aa (Str×D)},mH P H v d->(d.all λp=>okF p.2)=ae->mH P' H' v d
 |_,_,.nil,_=>.nil
 |_,_,.cons r t,h=>by
  rw[ik,bq] at h;exact .cons (r.okK b hx m h.1) (mH.okK b hx m t h.2)
theorem mH.snoc(r1:Rep P H w e):∀{v:aa (Str×V)}{d:aa (Str×D)},mH P H v d->mH P H (v++[(f,w)]) (d++[(f,e)])
 |_,_,.nil=>.cons r1 .nil
 |_,_,.cons r t=>.cons r (mH.snoc r1 t)
theorem mH.look:∀{v:aa (Str×V)}{d:aa (Str×D)},mH P H v d->d.lookup f=ab e->∃w,v.lookup f=ab w/\Rep P H w e
 |_,_,.nil,h=>by cases h
 |_,_,.cons r t,h=>by
  rw[iP] at h ⊢;split at h
  ·cases h;exact⟨_,rfl,r⟩
  ·exact mH.look t h
theorem SN:∀{vf:aa (Str×V)},f∉vf.map (·.1)->zH f y vf=vf++[(f,y)]
 |[],_=>rfl
 | (g,x)::r,h=>by
  rw[bw,b9,ii] at h;show(if g=f then (g,y)::r else (g,x)::zH f y r)=_;rw[az (λz=>h.1 z.symm),SN h.2];rfl
def sT:Srx->TE
 |.par i=>aLz i
 |.exp f=>gE f ae
def aN8(K:br):aa (Str×Srx)->TS
 |[]=>aIn
 | (f,s)::r=>aM4 (aNr K (aLz 0) (sT s) f) (aN8 K r)
section
variable {c:Str}
theorem aGj(hq:∀vs H',Q vs H'->Q' vs H')(h:gA fa rr σ H Q):gA fa rr σ H Q':=by
 obtain⟨ρ,ds,E,h1,q⟩:=h;exact⟨ρ,ds,E,h1,λvs H' s r n=>hq _ _ (q vs H' s r n)⟩
def aAf(K:br)(c f:Str):Prop:=∀C,ka K cu c=ab (ab (.ref C))->Cls K C/\n8 K C f
theorem uC(hK:KFrag.K=X.K)(R:aAf X.K c f)(he:PE X e (gE fe re))(hb:i8 e f X.env (bm e X.env)=bm e X.env:=by rfl):PE X (.Attribute e f pos) (gE (yV c f fe) ag):=PE.imp (aIx he hb) λσ H Q z0=>by
 obtain⟨ρ,d,E,h,q⟩:=z0;obtain⟨d0,h1,h2⟩:=bI h;split at h2
 ·rename_i c' fs;split at h2
  ·rename_i hc;have hc:=eW hc;subst hc;refine⟨ρ,_,E,h1,λv H1 s1 r1 _=>?_⟩;obtain⟨_,_,_,_,rfl,hn,hx,rf⟩:=r1.inv;rw[hK] at hn;obtain⟨k1,k2⟩:=R _ hn;cases hl:fs.lookup f with
   |none=>rw[hl] at h2;exact bx h2
   |some d1=>
    rw[hl] at h2;cases h2;obtain⟨w,g1,g2⟩:=rf.look hl;exact⟨_,_,_,_,w,rfl,hx,k1,k2,g1,q w H1 s1 g2 (λz=>by cases z)⟩
  ·exact bx h2
 ·exact bx h2
end
end
noncomputable def rowOf(s:bP)(j:af):bP:=match s with
 |.ClassDef _ _ _ b _ _ _ _ _ _ _=>b.getD j (.Pass ⟨0,0,0,0⟩)
 |_=>.Pass ⟨0,0,0,0⟩
section
variable [KFrag]
theorem mH.jT:∀{v:aa (Str×V)}{d:aa (Str×D)},mH P H v d->d.lookup f=aj->v.lookup f=aj
 |_,_,.nil,_=>rfl
 |_,_,.cons r t,h=>by
  rw[iP] at h ⊢;split at h
  ·cases h
  ·exact mH.jT t h
end
noncomputable def aEa(j:af)(fe:FE):FE:=λρ=>do
 let d <- fe ρ
 match d,ρ.getD j .uD with
 |.adr a,.cel b xs=>if a=b then .ok (.lst xs) else .bad
 |_,_=>.bad
def QD(j:af)(fo fe:FE):FS:=λρ=>do
 let o <- fo ρ
 let d <- fe ρ
 match o,ρ.getD j .uD with
 |.adr a,.cel b xs=>if decide (a=b)&&(decide (xs.length<lim)&&d.pure) then .ok (.nx (ρ.set j (.cel b (xs++[d])))) else .bad
 |_,_=>.bad
noncomputable def aN9(n:af):Fl->Res D
 |.rt (.tup (d::ρ))=>.ok (.tup [d,ρ.getD n .uD,ρ.getD (n+1) .uD])
 |.nx ρ=>.ok (.tup [.non,ρ.getD n .uD,ρ.getD (n+1) .uD])
 |_=>.bad
def fnG(n m:af)(f:FS):aa D->Res D:=λds=>do
 let r <- f (ds++bX (m-(n+2)) .uD)
 aN9 n r
noncomputable def yW(n:af):af->aq:=λi=>i==n||i==n+1
def wW(c m:Str)(f:aa D->Res D)(n i j:af)(fa:FA):FX:=λρ=>do
 let d0 <- iW i ρ
 let ds <- fa ρ
 match d0,ρ.getD j .uD,ρ.getD (j+1) .uD with
 |.ins c' fs,.cel p xs,.cel t ys=>
  if decide (c'=c)&&((fs.lookup m).isNone&&decide (ds.length+1=n)) then (do
   let r <- f (.ins c' fs::ds++[.cel p xs,.cel t ys])
   match r with
   |.tup [d,.cel p' xs',.cel t' ys']=>if decide (p'=p)&&(decide (t'=t)&&(D.aW xs'&&D.aW ys')) then .ok (d,(ρ.set j (.cel p xs')).set (j+1) (.cel t ys')) else .bad
   |_=>.bad) else .bad
 |_,_,_=>.bad
noncomputable def gh(j:af)(p t:ak)(σ:L2.St):L2.St:=(σ.set j (ab (.ref p))).set (j+1) (ab (.ref t))
variable [KFrag]
section
theorem aAg(he:PE X e (gE fe re)):PE X e (gE (aEa j fe) ag):=PE.imp he λσ H Q z0=>by
 obtain⟨ρ,d,E,h,q⟩:=z0;obtain⟨d0,h1,h⟩:=bI h;split at h
 ·rename_i a b xs hb;split at h
  ·rename_i hab;subst hab;cases h;refine⟨ρ,_,E,h1,λv H' s r _=>?_⟩;obtain rfl:=r.inv;obtain⟨w,_,rw1⟩:=(E.same s) j (by rw[hb];intro z;cases z);rw[hb] at rw1;obtain⟨vs,rfl,e1,_,rr⟩:=rw1.inv;exact q _ _ s (.lst e1 trivial rr) (λz=>by cases z)
  ·exact bx h
 ·exact bx h
theorem QF{o e:Expr}(ho:own j=ae)(hob:PE X o (gE fo ro))(he:PE X e (gE fe re))
 (hbase:i8 o "append" X.env (bm o X.env)=bm o X.env:=by rfl)
 (hs1:bi [e] X.env=(ag,bm e X.env)::bi [] X.env:=by rfl)
 (hfew:((dq cpos (bi [e] X.env)).all (λx=>!x.1)&&(lj cpos (ll [] X.env)).all (λx=>x.1.isSome)
  &&decide (([e]:aa Expr).length+([]:aa jc).length+(if ([]:aa jc).isEmpty then 0 else 1)<30))=ae:=by rfl)
 (hline:(apos.endLine==cpos.line)=ae:=by rfl)
 (hs:eI (.Call (.Attribute o "append" apos) [e] [] cpos) aj pos.line X.env=pure ag:=by rfl) :
  PS X (.Expr (.Call (.Attribute o "append" apos) [e] [] cpos) pos) (tS own (QD j fo fe)):=
 PS.imp (M3 (aBs oQ xh BS vU hob (lJ he tV hs1) hbase hfew hline hs1 rfl) hs) λD' σ H z0=>by
 obtain⟨ρ,fl,E,h0,q⟩:=z0;obtain⟨d0,h1,hA⟩:=bI h0;clear h0;obtain⟨d,h2,h⟩:=bI hA;clear hA;split at h
 ·rename_i a b xs hb;split at h
  ·rename_i hk;cases h;rw[bq,bq] at hk;have hab:=eW hk.1;subst hab;obtain⟨a2,vs,hσ,hl,rr,hin,r,hba⟩:=P0 E ho (xs:=xs) (by rw[hb];rfl);have:=hba a hb;subst this;have pn:D.aW (xs++[d])=ae:=by
    rw[q_];simp only[bq];exact⟨hin,by simp[D.aW,hk.2.2]⟩
   refine⟨ρ,_,E.er,h1,λu H1 s1 r1 _=>?_⟩;obtain rfl:=r1.inv;refine⟨.inl ⟨rfl,vs,.of (s1 _ _ hl)⟩,ρ,d,E.er.same s1,h2,λv H' s rv _=>⟨a,vs,v,rfl,rfl,s _ _ (s1 _ _ hl),by rw[rr.length];exact ZK hk.2.1,?_⟩⟩;have E':=E.same (s1.trans s);have hl':=s _ _ (s1 _ _ hl);obtain⟨E2,k2⟩:=E'.mut ho hσ (o:=.lst (vs++[v])) rfl (.cel aM trivial (((rr.same (s1.trans s)).snoc rv).upd pn hl' rfl)) (by exact pn);exact q _ _ ((KU.same (s1.trans s)).trans k2) E2
  ·exact bx h
 ·exact bx h
def spG(f:aa D->Res D)(n:af):Sp:=λvs H Q _=>∃(ds:aa D)(p t:ak)(xs ys:aa D)(d:D)(xs' ys':aa D),vs.length=n/\ds.length=n/\ES (yW n) H ((vs++[V.ref p,V.ref t]).map ab) (ds++[.cel p xs,.cel t ys])/\f (ds++[.cel p xs,.cel t ys])=.ok (.tup [d,.cel p xs',.cel t ys'])/\
 ∀v H',(∀a o,H a=ab o->a≠p->a≠t->H' a=ab o)->Rep All H' (.ref p) (.cel p xs')->D.aW xs'=ae->Rep All H' (.ref t) (.cel t ys')->D.aW ys'=ae->Rep (New H) H' v d->Q v H'
theorem aKm{w:af->aq}{ws:aa V}{ds:aa D}{m k:af}(E0:ES w H (ws.map ab) ds)(hw:ws.length=m)(hd:ds.length=m)(hown:∀i,i<m->own i=w i)(hlt:∀i,w i=ae->i<m) :
  ES own H (ws.map ab++bX k aj) (ds++bX k .uD)/\∀a,Own own (ws.map ab++bX k aj) a↔Own w (ws.map ab) a:=by
 have low:∀i,i<m->(ws.map ab++bX k aj)[i]?=(ws.map ab)[i]?:=λi hi=>by rw[ir (by simp[hw,hi])]
 have high:∀i v,m<=i->(ws.map ab++bX k aj)[i]?≠ab (ab v):=λi v hi e=>by
  rw[ic (by simp[hw];lia),ky] at e;split at e<;>cases e
 have hO:∀a,Own own (ws.map ab++bX k aj) a↔Own w (ws.map ab) a:=λa=>by
  constructor
  ·rintro⟨i,hi,e⟩;by_cases h:i<m
   ·exact⟨i,by rw[<-hown i h];exact hi,by rw[<-low i h];exact e⟩
   ·exact bg e (high i _ 0x1)
  ·rintro⟨i,hi,e⟩;have h:=hlt i hi;exact⟨i,by rw[hown i h];exact hi,by rw[low i h];exact e⟩
 have hOf:(λa=>¬Own own (ws.map ab++bX k aj) a)=λa=>¬Own w (ws.map ab) a:=funext λa=>by rw[hO]
 have gd:∀i,i<m->(ds++bX k D.uD).getD i .uD=ds.getD i .uD:=λi hi=>by
  rw[c9,ir 0x1,c9]
 refine⟨⟨by simp[hw,hd],λi hi=>?_,λi v hi hv=>?_⟩,hO⟩
 ·have hl:i<m:=uh λhge=>hi (by
   rw[c9,ic 0x1,ky];split<;>rfl)
  rw[gd i hl] at hi ⊢;obtain⟨v,g1,g2⟩:=E0.at_ i hi;exact⟨v,by rw[low i hl];exact g1,λho=>by rw[hOf];exact g2 (by rw[<-hown i hl];exact ho)⟩
 ·have hl:i<m:=uh λhge=>high i v hge hv
  rw[low i hl] at hv;rw[gd i hl];obtain⟨a,o,g1,g2,g3,g4,g5,g6⟩:=E0.own i v (by rw[<-hown i hl];exact hi) hv;refine⟨a,o,g1,g2,g3,g4,g5,λj hj hs=>?_⟩;have hjl:j<m:=uh λhge=>high j _ hge hs
  exact g6 j (by rw[<-hown j hjl];exact hj) (by rw[<-low j hjl];exact hs)
theorem aCv{N:aa Str}{vs:aa V}{n:af}(hv:vs.length=n)(hN:n+2<=N.length):gh n p t (L2.start N vs)=(vs++[V.ref p,.ref t]).map ab++bX (N.length-(n+2)) aj:=by
 obtain⟨k,hk⟩:∃k,N.length=n+2+k:=⟨N.length-(n+2),by lia⟩
 unfold gh L2.start;rw[hv,hk,show n+2+k-n=k+2 by lia,show n+2+k-(n+2)=k by lia,vc,vc,c_];rw[xw _ _ (by simp[hv]),xw _ _ (by simp[hv])];simp[hv]
theorem aCw{n:af}{N:aa Str}{f:FS}{vs:aa V}{H:Hp}{Q:VK}{E:XK}(hx:own rtX=ae)(hown:∀i,i<n+2->own i=yW n i)(hN:n+2<=N.length)(h0:spG (fnG n N.length f) n vs H Q E):∃p t,tS own f {nx:=λ_ H'=>Q .non H',rt:=Q} (gh n p t (L2.start N vs)) H:=by
 obtain⟨ds,p,t,xs,ys,d,xs',ys',hvl,hl,E0,h,q⟩:=h0;obtain⟨fl,h1,h2⟩:=bI h;refine⟨p,t,?_⟩;rw[aCv hvl hN];obtain⟨E1,hO⟩:=aKm (own:=own) (k:=N.length-(n+2)) E0 (m:=n+2) (by simp[hvl]) (by simp[hl]) hown (λi hi=>by simp[yW] at hi;lia);have hp:Own (yW n) ((vs++[V.ref p,.ref t]).map ab) p:=⟨n,by simp[yW],by simp[hvl]⟩
 have ht:Own (yW n) ((vs++[V.ref p,.ref t]).map ab) t:=⟨n+1,by simp[yW],by simp[hvl]⟩
 have hOn:∀a,Own (yW n) ((vs++[V.ref p,.ref t]).map ab) a->a=p\/a=t:=λa z0=>by
  obtain⟨i,hi,e⟩:=z0;simp only[yW,gm,iq] at hi;rcases hi with rfl|rfl
  ·simp[hvl] at e;exact .inl e.symm
  ·simp[hvl] at e;exact .inr e.symm
 have fin:∀v σ' H' ρ',ρ'.getD n .uD=.cel p xs'->ρ'.getD (n+1) .uD=.cel t ys'->KU own ((vs++[V.ref p,.ref t]).map ab++bX (N.length-(n+2)) aj) H σ' H'->ES own H' σ' ρ'->Rep (New H) H' v d->Q v H':=λv σ' H' ρ' g1 g2 ku E' r=>by
  have one:∀i b zs,own i=ae->ρ'.getD i .uD=.cel b zs->Rep All H' (.ref b) (.cel b zs)/\D.aW zs=ae:=λi b zs hoi g=>by
   obtain⟨w',z2,_⟩:=E'.at_ i (by rw[g];intro z;cases z);obtain⟨a,o,rfl,g4,g5,_⟩:=E'.own i w' hoi z2;rw[g] at g4 g5;have:=aA9 g4;cases this;exact⟨g4,g5⟩
  obtain⟨a1,a2⟩:=one n p xs' (by rw[hown n 0x1];simp[yW]) g1;obtain⟨b1,b2⟩:=one (n+1) t ys' (by rw[hown (n+1) 0x1];simp[yW]) g2;exact q v H' (λa o e n1 n2=>(ku a o e (by rw[hO];intro z;rcases hOn a z with z|z;exact n1 z;exact n2 z)).1) a1 a2 b1 b2 r
 refine⟨_,fl,E1,h1,?_⟩;cases fl with
 |nx ρ'=>
  simp only[aN9] at h2;injection h2 with h2
  injection h2 with h2
  injection h2 with z1 z2
  injection z2 with z2 z3
  injection z3 with z3
  subst z1;exact λσ' H' ku E'=>fin .non σ' H' ρ' z2 z3 ku E' .non
 |bk ρ'=>exact bx h2
 |ct ρ'=>exact bx h2
 |rt d'=>
  show kRt own _ _ _ d';unfold kRt;rw[au hx];unfold aN9 at h2;split at h2
  ·rename_i d1 ρ' heq;cases heq;injection h2 with h2
   injection h2 with h2
   injection h2 with z1 z2
   injection z2 with z2 z3
   injection z3 with z3
   subst z1;refine⟨_,_,rfl,λv σ' H' ku E' r=>fin v σ' H' ρ' z2 z3 ku E' (r.mono λa ha=>?_)⟩;rcases ha.1 with ho|hn
   ·exfalso;rw[hO] at ho;rcases hOn a ho with rfl|rfl
    ·exact ha.2 n _ xs' z2 rfl
    ·exact ha.2 (n+1) _ ys' z3 rfl
   ·exact hn
  ·rename_i heq;cases heq
  ·exact bx h2
theorem aEb{X:Cx}{pins:aa (ak×aT)}{σ:L2.St}{H:Hp}{s:al}{j:af}{v:V}(I:Inv X pins σ H s)(n:∀x,X.N[j]?=ab x->¬Vis X.env.scope x):Inv X pins (σ.set j (ab v)) H s:=
 ⟨I.ok,I.os,I.bare,I.base,let ⟨m,hn,hl⟩:=I.loc;⟨m,hn,λi x v e1 e2 e3=>hl i x v e1 (by
  by_cases h:j=i
  ·subst h;exact bg e3 (n x e1)
  ·rw[eC h] at e2;exact e2) e3⟩,I.cell,I.free,I.freeC,I.pin,I.hok,by rw[ug];exact I.len⟩
def Hid(X:Cx)(j:af):Prop:=∀x,X.N[j]?=ab x->¬Vis X.env.scope x
theorem aEc{st:aa bP}(h:PSs X st t)(n1:Hid X j)(n2:Hid X (j+1)):PSs X st (λD σ H=>∃p q,t D (gh j p q σ) H):=λpins s σ H D I ⟨p,q,h'⟩=>h pins s _ H D (aEb (aEb I n1) n2) h'
theorem SQ{X:Cx}{j:af}{y:Str}(h:X.N[j]?=ab y)(hl:X.env.scope.names.lookup y=aj):Hid X j:=λx e v=>by
 rw[h] at e;cases e;unfold Vis at v;rw[hl] at v;rcases v with v|v|v<;>cases v
theorem aEd{P:bp}{w:bh}{K:br}{mg:Str->ax ah}{base:aI}{x qual:Str}{st:bP}{fad:ak}{fd:d5}{N ps:aa Str}{k:af}{f:FS}(F:Fun K x qual st fad fd)(S:cF N ps (aO st))(own:af->aq)(hx:own rtX=ae)(hown:∀i,i<ps.length+2->own i=yW ps.length i)(hN:ps.length+2<=N.length){y1 y2:Str}(e1:N[ps.length]?=ab y1)(l1:(aO st).names.lookup y1=aj)(e2:N[ps.length+1]?=ab y2)(l2:(aO st).names.lookup y2=aj)
 (hbody:∀(cdv:ah) (A:bu) (outer:aa dn) (s:al) (H:Hp) (E:XK),mJ k (A.deeper (gS qual (aO st) s.heap.objs.size fad cdv))->PSs (XQ CX0 P w K mg base N qual (aO st) fad cdv A outer s H E).nox (d8 st) (tS own f)):uQ P w K mg base CX0 (k+1) fad fd ps (spG (fnG ps.length N.length f) ps.length):=
 F.ok S (λvs H Q E ⟨_,_,_,_,_,_,_,_,e,_⟩=>e) λcdv A outer s H vs Q E hr h=>⟨_,aEc (hbody cdv A outer s H E hr) (SQ e1 l1) (SQ e2 l2),aCw hx hown hN h⟩
def aKn(P:bp)(w:bh)(K:br)(mg:Str->ax ah)(base:aI)(k:af)(c m:Str)(n:af)(f:aa D->Res D):Prop:=
 ∃(C fm:ak)(fd:d5)(ps:aa Str),ka K cu c=ab (ab (.ref C))/\Cls K C/\Meth K C m fm/\uQ P w K mg base CX0 k fm fd ps (spG f n)/\Binds K fd ps []
theorem aNa{p t:ak}{n:af}(hpt:p≠t)(hp:H p=ab (.lst vp))(rp:bL All H vp xs)(px:D.aW xs=ae)(ht:H t=ab (.lst vt))(rt:bL All H vt ys)(py:D.aW ys=ae)(rs:bL (λb=>b≠p/\b≠t) H vs ds)(hl:vs.length=n):ES (yW n) H ((vs++[V.ref p,.ref t]).map ab) (ds++[.cel p xs,.cel t ys]):=by
 have hd:ds.length=n:=by rw[<-rs.length];exact hl
 have hO:∀b,Own (yW n) ((vs++[V.ref p,.ref t]).map ab) b->b=p\/b=t:=λb z0=>by
  obtain⟨i,hi,e⟩:=z0;simp only[yW,gm,iq] at hi;rcases hi with rfl|rfl
  ·simp[hl] at e;exact .inl e.symm
  ·simp[hl] at e;exact .inr e.symm
 have g0:(ds++[D.cel p xs,.cel t ys]).getD n .uD=.cel p xs:=by simp[c9,hd]
 have g1:(ds++[D.cel p xs,.cel t ys]).getD (n+1) .uD=.cel t ys:=by simp[c9,hd]
 have v0:((vs++[V.ref p,.ref t]).map ab)[n]?=ab (ab (.ref p)):=by simp[hl]
 have v1:((vs++[V.ref p,.ref t]).map ab)[n+1]?=ab (ab (.ref t)):=by simp[hl]
 refine⟨by simp[hl,hd],λi hi=>?_,λi v hi hv=>?_⟩
 ·rcases Nat.lt_trichotomy i n with h|h|h
  ·have e:(ds++[D.cel p xs,.cel t ys]).getD i .uD=ds.getD i .uD:=by rw[c9,ir 0x1,c9]
   rw[e] at hi ⊢;cases hq:ds[i]? with
   |none=>rw[c9,hq] at hi;exact bg rfl hi
   |some d=>
    obtain⟨v,z1,z2⟩:=rs.get hq;rw[c9,hq];refine⟨v,?_,λ_=>z2.mono λb hb ho=>?_⟩
    ·rw[lm,ir 0x1,z1];rfl
    ·rcases hO b ho with z|z
     ·exact hb.1 z
     ·exact hb.2 z
  ·subst h;exact⟨_,v0,λz=>by simp[yW] at z⟩
  ·by_cases h2:i=n+1
   ·subst h2;exact⟨_,v1,λz=>by simp[yW] at z⟩
   ·exfalso;apply hi;rw[c9,zg (by simp[hd];lia)];rfl
 ·simp only[yW,gm,iq] at hi;rcases hi with rfl|rfl
  ·rw[v0] at hv;cases hv;rw[g0];refine⟨p,_,rfl,.cel hp trivial rp,px,hp,rfl,λj hj hs=>?_⟩;simp only[yW,gm,iq] at hj;rcases hj with rfl|rfl
   ·rfl
   ·rw[v1] at hs;cases hs;exact bg rfl hpt
  ·rw[v1] at hv;cases hv;rw[g1];refine⟨t,_,rfl,.cel ht trivial rt,py,ht,rfl,λj hj hs=>?_⟩;simp only[yW,gm,iq] at hj;rcases hj with rfl|rfl
   ·rw[v0] at hs;cases hs;exact bg rfl hpt
   ·rfl
theorem SX(hK:KFrag.K=X.K)(R:aKn X.prog X.w X.K X.mg X.base k c m n f)(hr:mJ k' X.A)(hkk:k<=k')(ho:own i=ag)(hj:own j=ae)(hj2:own (j+1)=ae)(hN:X.N[i]?=ab y)(hv:Vis X.env.scope y)(ha:PA X (e::es) (gAO own fa))(hd:(y==("__debug__" : Str))=ag:=by decide)(hcd:(y==("__classdict__" : Str))=ag:=by decide)
 (hst:bi (e::es) X.env=(ag,bm e X.env)::bi es X.env:=by rfl)(hpl:(dq pos (bi es X.env)).any (·.1)=ag:=by rfl)
 (ht:bm (.Call (.Attribute (.Name y py) m apos) (e::es) [] pos) X.env=(do
   let ov <- bm (.Name y py) X.env
   ss apos.atName
   let (f,first) <- lg [ov] (sA ov m pl)
   sB pos f first (dq pos (bi (e::es) X.env)) (lj pos (ll [] X.env))):=by rfl) :
  PE X (.Call (.Attribute (.Name y py) m apos) (e::es) [] pos) (gX own (wW c m f n i j fa)):=by
 obtain⟨C,fm,fd,ps,hn,cl,M,F,hb⟩:=R;refine PE.imp (aF1 (jJ hN hv hd hcd) cl M F (hr.mono hkk) hb .nil aBz ha hst hpl ht) λσ H Q ⟨ρ,d,ρ',E,h0,q⟩=>?_
 obtain⟨d0,h1,hA⟩:=bI h0;obtain⟨ds,h2,h⟩:=bI hA;clear h0 hA;split at h
 ·rename_i c' fs p xs t ys hp0 ht0;split at h
  ·rename_i hc;rw[bq,bq,Option.isNone_iff_eq_none] at hc;obtain⟨hc1,hc2,hc3⟩:=hc;have hc1:=eW hc1;have hc3:=eW hc3;subst hc1;obtain⟨r,h3,hB⟩:=bI h;clear h
   revert hB
   intro h;split at h
   ·rename_i d1 p' xs' t' ys';split at h
    ·rename_i hg;rw[bq,bq,bq] at hg;obtain⟨e1,e2,px',py'⟩:=hg;have e1:=eW e1;have e2:=eW e2;subst e1 e2;cases h;obtain⟨v,hσ,rv⟩:=aKk E ho h1;obtain⟨a,vp,hσp,hp,rp,px,_,hpa⟩:=P0 E hj (xs:=xs) (by rw[hp0];rfl);have:=hpa _ hp0;subst this;obtain⟨b,vt,hσt,ht1,rt,py,_,htb⟩:=P0 E hj2 (xs:=ys) (by rw[ht0];rfl);have:=htb _ ht0;subst this;have hpt:p'≠t':=λz=>by
      subst z;obtain⟨b,o,eb,_,_,_,_,huq⟩:=E.own j _ hj hσp;cases eb;have:=huq (j+1) hj2 hσt;lia
     have hOp:Own own σ p':=⟨j,hj,hσp⟩
     have hOt:Own own σ t':=⟨j+1,hj2,hσt⟩
     have rv0:=rv;obtain⟨x,C',dx,vf,rfl,hn',hx,rf⟩:=rv.inv;rw[hK,hn] at hn';cases hn';refine⟨_,hσ,x,dx,vf,rfl,hx,rf.jT hc2,ρ,ds,E,h2,λvs H1 s1 rs=>?_⟩;dsimp only;rw[gL];refine⟨.ins c' fs::ds,p',t',xs,ys,d,xs',ys',by rw[bj,rs.length];exact hc3,by rw[bj];exact hc3,aNa hpt (s1 _ _ hp) (rp.same s1) px (s1 _ _ ht1) (rt.same s1) py ((bL.cons (rv0.same s1) rs).mono λb hb=>⟨λz=>hb (by rw[z];exact hOp),λz=>hb (by rw[z];exact hOt)⟩) (by rw[bj,rs.length];exact hc3),h3,λw H' k1 a1 _ b1 _ rn=>?_⟩;obtain⟨vp1,ep1,_,rp1⟩:=aA8 a1 rfl;obtain⟨vt1,et1,_,rt1⟩:=aA8 b1 rfl
     let Hm:Hp:=λb=>if b=t' then H1 b else H' b
     have hmc:Hm t'=H1 t':=au rfl;have hmn:∀b,b≠t'->Hm b=H' b:=λb n=>az n
     have raM:Rep All Hm (.ref p') (.cel p' xs'):=by
      refine .cel (by rw[hmn p' hpt];exact ep1) trivial ?_;refine((rp1.bT px':bL (λ_=>cv) H' vp1 xs')).keep (λb ob eb hb=>?_) λ_ z=>z.elim
      rw[hmn b λz=>?_]
      ·exact eb
      ·subst z;rw[et1] at eb;cases eb;rcases hb with hb|hb
       ·exact hb.elim
       ·cases hb
     obtain⟨E1,k1'⟩:=(E.same s1).aNw hj hσp (λb ob e n=>by
      by_cases hbc:b=t'
      ·subst hbc;rw[hmc];exact e
      ·rw[hmn b hbc];exact k1 b ob e n hbc) (by rw[hmn p' hpt];exact ep1) rfl raM px'
     obtain⟨E2,k2'⟩:=E1.aNw hj2 hσt (λb ob e n=>by rw[hmn b n] at e;exact e) et1 rfl b1 py';exact q w H' ((KU.same s1).trans (k1'.trans k2')) E2 ((NS.set hj).trans (.set hj2)) (rn.mono λb hb=>s1.free hb)
    ·exact bx h
   ·exact bx h
  ·exact bx h
 ·exact bx h
end
end Mi
namespace Mi
universe u
variable {α:Type u} {us:aa α}
theorem l1(h:us.length=1):∃a,us=[a]:=Ck.mp h
theorem l2(h:us.length=2):∃a b,us=[a,b]:=by
 cases us with
 |nil=>cases h
 |cons a t=>obtain⟨b,rfl⟩:=l1 (nq h);exact⟨a,b,rfl⟩
theorem l3(h:us.length=3):∃a b c,us=[a,b,c]:=by
 cases us with
 |nil=>cases h
 |cons a t=>obtain⟨b,c,rfl⟩:=l2 (nq h);exact⟨a,b,c,rfl⟩
theorem l4(h:us.length=4):∃a b c d,us=[a,b,c,d]:=by
 cases us with
 |nil=>cases h
 |cons a t=>obtain⟨b,c,d,rfl⟩:=l3 (nq h);exact⟨a,b,c,d,rfl⟩
theorem l5(h:us.length=5):∃a b c d e,us=[a,b,c,d,e]:=by
 cases us with
 |nil=>cases h
 |cons a t=>obtain⟨b,c,d,e,rfl⟩:=l4 (nq h);exact⟨a,b,c,d,e,rfl⟩
theorem l6(h:us.length=6):∃a b c d e f,us=[a,b,c,d,e,f]:=by
 cases us with
 |nil=>cases h
 |cons a t=>obtain⟨b,c,d,e,f,rfl⟩:=l5 (nq h);exact⟨a,b,c,d,e,f,rfl⟩
theorem l7(h:us.length=7):∃a b c d e f g,us=[a,b,c,d,e,f,g]:=by
 cases us with
 |nil=>cases h
 |cons a t=>obtain⟨b,c,d,e,f,g,rfl⟩:=l6 (nq h);exact⟨a,b,c,d,e,f,g,rfl⟩
end Mi
namespace Lw
open PySem PySem.Spec
noncomputable abbrev enO(f0:ah)(fb:aq)(it:ak)(k:ai)(old:ah):aT:={cls:=.type "enumerate",data:=.fields #[f0,.bool fb,.ref it,dA k,.none,old]}
section
variable {prog:bp} {w:bh} {A:bu} {E:ah->al->Prop} {s:al}
noncomputable abbrev lsO(acc:aw ah)(c:af):aT:={cls:=.type "list",dict:=aj,data:=.seq acc c,slots:=#[]}
theorem aGk{T:dy}{R:kn->al->Prop}(ty:s.TypeIs (.ref I) T)(n1:(fT T==fT "list")=ag)(n2:(fT T==fT "tuple")=ag)(hSI:S≠I)(hS:s.heap.get? S=ab {cls:=.type "list",data:=.seq #[]})
 (it:∀(h:aI) (tk:af) (Q:ah->al->Prop) (E:ah->al->Prop),(∀b o,b≠S->s.heap.get? b=ab o->h.get? b=ab o)->Q (.ref I) {s with heap:=h,toks:=tk}->wpAny (av prog w) A.in1 (i6 (.ref I)) Q E {s with heap:=h,toks:=tk})
 (hint:∀(h:aI) (tk:af) (Q:aq->al->Prop) (E:ah->al->Prop),(∀b o,b≠S->s.heap.get? b=ab o->h.get? b=ab o)->(∀b tk',Q b {s with heap:=h,toks:=tk'})->wpAny (av prog w) A.in1 (zk (.ref I)) Q E {s with heap:=h,toks:=tk})
 (key:∀(h:aI) (c tk:af),(∀b o,b≠S->s.heap.get? b=ab o->h.get? b=ab o)->h.get? S=ab (lsO #[] c)->codeAny (av prog w) A (.builtin "list.extend.loop" ⟨[.ref S,.ref I,.none],[]⟩) R {s with heap:=h,toks:=tk}) :
  wpAny (av prog w) A.in1 (Builtin.«list.__init__» ⟨[.ref S,.ref I],[]⟩)
   (λfin s'=>match fin with|.done f=>R (.ok f) s'|.again c'=>c'.quiet=ae/\codeAny (av prog w) A c' R s') (λe s'=>R (.error e) s') s:=by
 show wpAny _ _ (do let old <- Cl (.ref S);Df (.ref S) (λ_=>#[]);letGo old.toList.reverse;rS (.ref S) (.ref I) .none) _ _ s;refine ao ?_;unfold Cl;refine ao (fI hS rfl (aS ?_));show wpAny _ _ (jo S (λ_=>#[]) >>= λ_=>letGo (#[]:aw ah).toList.reverse >>= λ_=>rS (.ref S) (.ref I) .none) _ _ s;refine ao (kc hS rfl ?_);have hS₂:=ke (eJ (λ_=>(#[]:aw ah))) hS rfl;have oth:∀b o,b≠S->s.heap.get? b=ab o->(s.heap.update S (eJ (λ_=>(#[]:aw ah)))).get? b=ab o:=λb o hb z=>(jw _ _ (c5 hb)).trans z
 refine ao (iz ?_);generalize s.heap.update S (eJ (λ_=>(#[]:aw ah)))=hA at hS₂ oth;unfold rS;refine ao (kz (T:=T) (let ⟨o,e,c⟩:=ty;⟨o,oth _ o (c5 hSI) e,c⟩) ?_);have d1:Cm (.ref S) (.ref I)=ag:=by simp[Cm,hSI]
 simp only[d1,n1,n2,xf,c8,cK];refine ao (it hA s.toks _ _ oth ?_);refine ao (fg (hint hA s.toks _ _ oth λb tk=>?_));refine zn (λ_=>?_) (λ_=>aS ⟨iX Cn _,key _ _ _ oth hS₂⟩);refine ao (ig (ao ?_));show wpAny _ _ (jo S (·.push .none) >>= λ_=>jo S (·.pop)) _ _ _;refine ao (kc hS₂ rfl ?_);have hS₃:=ke (eJ (·.push nv)) hS₂ rfl;refine kc (hz:=by seq_fits) hS₃ rfl ?_;have hS₄:=ke (eJ (·.pop)) hS₃ rfl;exact aS ⟨iX Cn _,key _ _ _ (λb o hb z=>(jw _ _ (c5 hb)).trans ((jw _ _ (c5 hb)).trans (oth b o hb z))) hS₄⟩
end
section
variable {prog:bp} {w:bh} {A:bu} {E:ah->al->Prop} {s:al} {m:ai}
theorem aNb{α:Type}{M:km}{c:Prop}[tF c]{a b:dt α}{Q:α->al->Prop}(h1:wpAny M A a Q E s)(h2:wpAny M A b Q E s):wpAny M A (if c then a else b) Q E s:=if h:c then (au h).symm▸h1 else (az h).symm▸h2
theorem aOz(l:ak)(items:aw ah)(n:af)(dd:ax ak)(sl:aw (ax ah))(t:eB)(hm:zo m=ae) :
  ix (Builtin.«enumerate.__new__» ⟨[.type "enumerate",.ref l],[("start",.int m t)]⟩) (λ_ R s=>s.heap.get? l=ab (Wz.tuO items n dd sl)/\
   ∀h' e it tk,it=s.heap.objs.size->e=it+1->h'.get? e=ab (enO .none ag it m .none)->h'.get? it=ab (Wz.itO l 0)->(∀b o,s.heap.get? b=ab o->h'.get? b=ab o)->R (.ok (.ret (.ref e))) {s with heap:=h',toks:=tk}):=.of_wp λprog w A R s hs=>by
 obtain⟨hp,g,d,tk,os⟩:=s;obtain⟨hl,q⟩:=hs;have sub:=Ce;have p:uv (uz ⟨hp,g,d,tk,os⟩) l items:=⟨_,hl,rfl,n,rfl⟩
 have hz:(hp.push (Wz.itO l 0)).objs.size=hp.objs.size+1:=dL ..;have fin:∀(tk':af),R (.ok (.ret (.ref (hp.push (Wz.itO l 0)).objs.size))) ⟨(hp.push (Wz.itO l 0)).push (enO .none ag hp.objs.size m .none),g,d,tk',os⟩:=λtk'=>by
  refine q _ _ _ tk' rfl hz (cS _ rfl) (bz _ (cS _ rfl)) λb o e=>bz _ (bz _ e)
 have hm':(!Builtin.SmallTypes.fitsIndex m)=ag:=by rw[hm];rfl
 wp_walk using me hl
 refine Cf λst=>aS ?_
 refine aNb ?_ ?_
 ·wp_walk using me hl,jq p
  exact⟨_,rfl,fin tk⟩
 ·wp_walk using me hl,jq p
  exact⟨_,rfl,fin tk⟩
theorem aNc(a:ah)(m:ai)(t:eB):checkTypeCall "enumerate" ⟨[a],[("start",.int m t)]⟩=pure ():=by kernel_rfl
theorem aNd(a:ah)(m:ai)(t:eB):checkBuiltinCall "enumerate.__new__" ⟨[.type "enumerate",a],[("start",.int m t)]⟩=pure ():=by kernel_rfl
theorem aNe(a b:ah)(m:ai)(t:eB):argsOk "object.__init__" ⟨[a,b],[("start",.int m t)]⟩:=by kernel_rfl
theorem aGl{self b:ah}{t:eB}{R:yn->al->Prop}(hT:s.TypeIs self "enumerate")(q:R (.done (.ret .none)) s):wpAny (av prog w) A (Builtin.«object.__init__» ⟨[self,b],[("start",.int m t)]⟩) R E s:=by
 have hl:=va.init.lookup;have hm:=va.made
 repeat (any_goals (first|assumption|wp_step))
theorem aGm{l:ak}{items:aw ah}{t:eB}{Q:ah->al->Prop}(hm:zo m=ae)(e:s.heap.get? l=ab (Wz.tuO items n dd sl))
 (q:∀h' e it tk,it=s.heap.objs.size->e=it+1->h'.get? e=ab (enO .none ag it m .none)->h'.get? it=ab (Wz.itO l 0)->(∀b o,s.heap.get? b=ab o->h'.get? b=ab o)->Q (.ref e) {s with heap:=h',toks:=tk}) :
  wpAny (av prog w) A (call (.type "enumerate") [.ref l] [("start",.int m t)]) Q E s:=by
 have ft:=va;obtain⟨c,tl,m0⟩:=ft.mro;have m1:=ft.made;have m2:=ft.sub;have m3:=ft.notType;have m4:=ft.canCreate;have k1:=aNc (.ref l) m t;refine vT (codeAny_of_tree (show wpAny _ _ (callAny (.type "enumerate") _) _ _ _ from aS ⟨md _ 0x6,gn F.entry_type_call ?_⟩));rw[Around.under_plain (weight_type_call_type "enumerate" _ _) (units_type_call_type "enumerate" _ _)]
 repeat (any_goals (first|assumption|wp_step))
 have step:∀c (R:kn->al->Prop),c=(Co (.builtin "enumerate.__new__") ⟨[.type "enumerate",.ref l],[("start",.int m t)]⟩)->(∀h' e it tk,it=s.heap.objs.size->e=it+1->h'.get? e=ab (enO .none ag it m .none)->h'.get? it=ab (Wz.itO l 0)->(∀b o,s.heap.get? b=ab o->h'.get? b=ab o)->R (.ok (.ret (.ref e))) {s with heap:=h',toks:=tk})->codeAny (av prog w) A.in1 c R s:=λc R hc hq=>by
  subst hc;exact Cp ft.plain Cg (yj (aNd (.ref l) m t) (aOz l items n dd sl t hm prog w A.in1 R s ⟨e,hq⟩))
 refine li (step _ (λr s1=>∃h' a it tk,r=.ok (.ret (.ref a))/\s1={s with heap:=h',toks:=tk}/\h'.get? a=ab (enO .none ag it m .none)/\Q (.ref a) s1) rfl λh' a it tk x1 x2 x3 x4 x5=>⟨h',a,it,tk,rfl,rfl,x3,q h' a it tk x1 x2 x3 x4 x5⟩) λr s1 hr=>?_
 obtain⟨h',a,it,tk,rfl,rfl,x3,hq⟩:=hr;have hT:({s with heap:=h',toks:=tk}:al).TypeIs (.ref a) "enumerate":=⟨_,x3,rfl⟩
 have hli:=ft.init.lookup;have hbi:=ft.init.bind (.ref a)
 repeat (any_goals (first|assumption|wp_step))
 have step2:∀c (R:kn->al->Prop),c=(Co (.builtin "object.__init__") ⟨[.ref a,.ref l],[("start",.int m t)]⟩)->R (.ok (.ret .none)) {s with heap:=h',toks:=tk}->codeAny (av prog w) A.in1 c R {s with heap:=h',toks:=tk}:=λc R hc hq=>by
  subst hc;exact Cp ft.init.plain F.entry_object_init (ft.init.check _ _ _ _ _ _ _ _ hT (aNe _ _ _ _) (aGl hT hq))
 refine li (step2 _ (λr s2=>r=.ok (.ret .none)/\s2={s with heap:=h',toks:=tk}) rfl ⟨rfl,rfl⟩) λr s2 hr=>?_
 obtain⟨rfl,rfl⟩:=hr
 repeat (any_goals (first|assumption|wp_step))
end
end Lw
namespace Mi
open PySem L2 PySem.SeqAt PySem.Spec PyProof.Rows
variable [KFrag]
section
variable {pos:bS}
theorem aKo{M:km}{A:bu}{E:ah->al->Prop}{s:al}{T:dy}{args:aa (aq×dt ah)}{kws:aa (ax Str×dt ah)}{Q:ah->al->Prop}(hp:args.any (·.1)=ag)(hk:kws.any (·.1.isNone)=ag)
 (h:wpAny M A (evalArgs (.type T) ae args kws) (λa s₁=>wpAny M A (call (.type T) a.pos a.kw) Q E s₁) E s):wpAny M A (sB pos (.type T) [] args kws) Q E s:=by
 unfold sB;refine ao (fg (fR h (λa s1 h1=>ao (BT ?_)) λ_ _ x=>x));rw[hp,hk];exact ao (aS (ao (fR h1 (λr s2 hr=>ao (fg (wpAny_point (aS hr)))) λ_ _ x=>x)))
end
end Mi
namespace Lw
open PySem PySem.Spec
theorem aGn:kA (.type "list_reverseiterator") "__len__"=pure aj:=by rw[kN,kP];kernel_rfl
theorem aCx:Slot "list_reverseiterator" "__length_hint__" "list_reverseiterator.__length_hint__":=
 .of (owner:= "list_reverseiterator") (n:= "__length_hint__") (by rw[kN,kP];kernel_rfl) 0x6 0x6 0x6
  (by first|exact .inl 0x6|exact .inr 0x6) (by rw[Cq];kernel_rfl)
theorem aCy:isSubtype (.type "list_reverseiterator") (.type "list_reverseiterator")=pure ae:=by rw[Cq];kernel_rfl
section
variable {prog:bp} {w:bh} {A:bu} {E:ah->al->Prop} {s:al}
theorem aNf(ty:s.TypeIs (.ref I) "list_reverseiterator")(h:∀b tk,Q b {s with toks:=tk}):wpAny (av prog w) A (zk (.ref I)) Q E s:=by
 unfold zk;refine ao (yf ty aGn ?_);dsimp only;refine zn (λhab=>bg hab 0x6) (λ_=>?_);rw[az 0x2];refine ao (yf ty aCx.lookup ?_);generalize hid:("list_reverseiterator.__length_hint__" : dy)=id0
 wp_delta
 rw[show splitId id0=ab ("list_reverseiterator","__length_hint__") from by subst hid;decide +kernel];subst hid;refine ao (Cb (T:= "list_reverseiterator") (b:=ae) ty aCy ?_);refine zn (λhab=>bg hab 0x4) (λ_=>?_);rw[au 0x6,az 0x4];exact aS (h _ _)
theorem aCz{Q:ah->al->Prop}(hh:A.handled=aj)(hn:xs.size<=bn)(hne:l≠I)(hit:s.heap.IsRevIter I l ((xs.size:ai)-1))(hl:s.heap.IsList l xs)
 (q:∀h' tk acc' c',(∀b o,b≠I->s.heap.get? b=ab o->h'.get? b=ab o)->h'.get? s.heap.objs.size=ab (lsO acc' c')->ItemsOf (λi v=>xs[xs.size-1-i]?=ab v) acc' xs.size->Q (.ref s.heap.objs.size) {s with heap:=h',toks:=tk}) :
  wpAny (av prog w) A (call (.type "list") [.ref I]) Q E s:=by
 refine u8 (Q₁:=λobj s₁=>obj=.ref s.heap.objs.size/\s₁={s with heap:=s.heap.push {cls:=.type "list",data:=.seq #[]}}) PySem.F.called_list (PySem.F.typeCall_list_1 _) PySem.F.entry_list_init
  (code_list_new _ ⟨rfl,rfl⟩) λobj s₁ h₁=>?_
 obtain⟨rfl,rfl⟩:=h₁;have hS:(s.heap.push {cls:=.type "list",data:=.seq #[]}).get? s.heap.objs.size=ab {cls:=.type "list",data:=.seq #[]}:=cS _ rfl;have lt:∀{b:ak}{o:aT},s.heap.get? b=ab o->s.heap.objs.size≠b:=λz=>iF (bE z)
 have l1:s.heap.objs.size≠I:=let ⟨o,e,_⟩:=hit;lt e
 have l2:s.heap.objs.size≠l:=let ⟨o,e,_⟩:=hl;lt e
 have hit':=hit.at (h':=s.heap.push {cls:=.type "list",data:=.seq #[]}) λo e=>bz _ e
 have hl':(s.heap.push {cls:=.type "list",data:=.seq #[]}).IsList l xs:=hl.at λo e=>bz _ e
 refine⟨⟨_,hS,rfl⟩,PySem.F.args_list_init_2 _ _,?_⟩;refine aGk (A:=A.in1) (T:= "list_reverseiterator") hit'.typeIs 0x4 0x4 l1 hS (λh tk Q E k z=>?_) (λh tk Q E k z=>?_) λh c tk k z=>?_
 ·exact wpAny_pyIter_revIter (hit'.at λo e=>k _ o (c5 l1) e) z
 ·exact aNf (hit'.at λo e=>k _ o (c5 l1) e).typeIs z
 ·have W:=Walks.listRev (prog:=prog) (w:=w) (A:=A.in1.in1) hh I l hne xs;refine codeAny_extend_loopS (A:=A.in1) W.toS hn s.heap.objs.size (by simp only[b9,kQ,or_false,ii];exact⟨l1,l2⟩) .none xs.size 0 _ #[] c rfl (di _) ⟨di _,by simpa using hit'.at λo e=>k _ o (c5 l1) e,hl'.at λo e=>k _ o (c5 l2) e⟩ z (ItemsOf.nil _) λs' acc' c' hm hS' hacc=>?_
  rw[Moved.eq_with hm];refine⟨rfl,q s'.heap s'.toks acc' c' (λb o hb e=>hm.heap b o (λhmem=>?_) (k b o (c5 (lt e)) (bz _ e))) hS' hacc⟩;rcases b9.mp hmem with e'|hmem
  ·exact lt e e'.symm
  ·exact hb (jg.mp hmem)
end
end Lw
namespace Mi
open PySem L2 PySem.SeqAt PySem.Spec PyProof.Rows
section
variable [KFrag]
section
variable {X:Cx} {e:Expr} {p p2 pos pos2:bS}
def tLR(t:TE):TE:=λσ H Q=>t σ H λv H1=>∃a xs,v=.ref a/\H1 a=ab (.lst xs)/\∀p,H1 p=aj->Q (.ref p) (upd H1 p (.lst xs.reverse))
theorem aGo{t:TE}(hc:X.calm=ae)(hg:Gl X "list")(hm:X.mg "list"=aj)(hg2:Gl X "reversed")(hm2:X.mg "reversed"=aj)(he:PE X e t)(hs:bi [e] X.env=[(ag,bm e X.env)]:=by rfl)
 (hs2:bi [.Call (.Name "reversed" p2) [e] [] pos2] X.env=[(ag,bm (.Call (.Name "reversed" p2) [e] [] pos2) X.env)]:=by rfl) :
  PE X (.Call (.Name "list" p) [.Call (.Name "reversed" p2) [e] [] pos2] [] pos) (tLR t):=by
 intro pins s σ H Q I h;refine iN (kW I hg hm Z7 ?_);refine i7 ?_ hs2 rfl;rw[hs2];show wpAny _ _ (la [(ag,bm (.Call (.Name "reversed" p2) [e] [] pos2) X.env)]) _ _ s;refine mr ?_;refine iN (kW I hg2 hm2 P_ ?_);refine i7 ?_ hs rfl;rw[hs];show wpAny _ _ (la [(ag,bm e X.env)]) _ _ s;refine mr (thn (he pins s σ H _ I h) λu s1 ⟨x,H1,I1,ru,t,xs,ex0,ex,q⟩=>?_);subst ex0;cases ru;obtain⟨hz,its,n,rv,ho⟩:=I1.hok t _ ex;have htt:s1.heap.IsList t its.toArray:=⟨_,ho,rfl,n,rfl⟩
 refine mq ?_;have hz':its.toArray.size<=bn:=by rw[cm,<-rv.length];exact hz
 refine call_reversed_list htt ?_;refine mq ?_;have hne:t≠s1.heap.objs.size:=cw (bE ho);generalize hO:s1.heap.push (revObj t ((its.toArray.size:ai)-1))=hB;have kB:∀b o,s1.heap.get? b=ab o->hB.get? b=ab o:=λb o z=>by rw[<-hO];exact bz _ z
 have iB:hB.IsRevIter s1.heap.objs.size t ((its.toArray.size:ai)-1):=by rw[<-hO];exact⟨_,cS _ rfl,rfl,rfl⟩
 have szB:hB.objs.size=s1.heap.objs.size+1:=by rw[<-hO];exact dL ..
 refine Lw.aCz (s:={s1 with heap:=hB}) (I:=s1.heap.objs.size) (l:=t) (xs:=its.toArray) (I1.ok.hd hc) hz' hne iB (htt.at λo e=>kB _ o e) λh' tk acc c k hS hacc=>?_
 have hS:h'.get? hB.objs.size=ab (Lw.lsO acc c):=hS;have k:∀b o,b≠s1.heap.objs.size->hB.get? b=ab o->h'.get? b=ab o:=k;have hfr:H1 hB.objs.size=aj:=I1.hok.fresh (by rw[szB];lia);have hlen:acc.toList.length=its.length:=by have:=hacc.1;simpa using this
 have hv:Vals xs.reverse acc.toList:=aCs rv hlen λj v hj=>by
  have:=hacc.2 j v (by simpa using hj);simpa using this
 exact⟨.ref hB.objs.size,_,I1.laid (a:=hB.objs.size) (o:=.lst xs.reverse) (h':=h') (t':=tk) (λb o e=>k b o (cw (bE e)) (kB b o e)) (by rw[szB];lia) ⟨by rw[ng];exact hz,acc.toList,c,hv,by simpa using hS⟩,rfl,q _ hfr⟩
end
end
def evI(ρ:aa D):aa (Str×Srx)->Res (aa (Str×D))
 |[]=>.ok []
 | (f,.exp g)::r=>do
  let d <- g ρ
  let ds <- evI ρ r
  if inner d then .ok ((f,d)::ds) else .bad
 |_=>.bad
noncomputable def mkG(i j:af)(c f1 f2 f3 f4:Str)(d1 d2:D)(p t:ak)(ρ:aa D):aa D:=((ρ.set i (.ins c [(f1,d1),(f2,d2),(f3,.adr p),(f4,.adr t)])).set j (.cel p [])).set (j+1) (.cel t [])
open Classical in
def aKp(i j:af)(c:Str)(l:aa (Str×Srx))(n:af)(fa:FA)(g:FS):FS:=λρ=>do
 let ds <- fa ρ
 if decide (ds.length=n) then (do
  let fs <- evI (.uD::ds) l
  match fs with
  |[(f1,d1),(f2,d2),(f3,.lst []),(f4,.lst [])]=>if h:∃d,∀p t,p≠t->g (mkG i j c f1 f2 f3 f4 d1 d2 p t ρ)=.ok (.rt d) then .ok (.rt h.choose) else .bad
  |_=>.bad) else .bad
def xLR(f:FX):FX:=λρ=>do
 let p <- f ρ
 match p.1 with
 |.lst xs=>if D.aW xs then .ok (.lst xs.reverse,p.2) else .bad
 |_=>.bad
def aAh(i:af)(f:FX):FS:=λρ=>do
 let p <- f ρ
 match ρ.getD i .uD,p.2.getD i .uD,p.1 with
 |.lst _,.lst xs,.lst ys=>if decide (xs.length+ys.length<=lim)&&D.aW ys then .ok (.nx (p.2.set i (.lst (xs++ys)))) else .bad
 |_,_,_=>.bad
section
variable [KFrag]
section
theorem JW:∀{v:aa (Str×V)}{d:aa (Str×D)},mH P H v d->(d.all λp=>inner p.2)=ae->∀w∈v.map (·.2),∃a o,w=.ref a/\H a=ab o
 |_,_,.nil,_,w,h=>by cases h
 |_,_,.cons r t,h,w,hw=>by
  rw[ik,bq] at h;rcases b9.mp hw with rfl|hw
  ·obtain⟨a,o,e,_,e2,_⟩:=yQ r h.1;exact⟨a,o,e,e2⟩
  ·exact JW t h.2 w hw
theorem aKq{d:aa (Str×D)}(h:(d.all λp=>inner p.2)=ae):(d.all λp=>okF p.2)=ae:=by
 rw[fE] at h ⊢;exact λp hp=>by rw[okF,h p hp,yl]
theorem aAi{K:br}(cls:Cls K C)(hx0:σ[0]?=ab (ab (.ref x)))(hn:H1 x=aj)(hρ:ER H1 σ ρ):∀(l:aa (Str×Srx))(H:Hp)(vf:aa (Str×V))(fs0 fs:aa (Str×D)),H x=ab (.ins C dx vf)->cG H1 H->mH (New H1) H vf fs0->(fs0.all λp=>inner p.2)=ae->(vf.map (·.2)).Nodup->evI ρ l=.ok fs->(vf.map (·.1)++l.map (·.1)).Nodup->(∀f∈l.map (·.1),n8 K C f)->vf.length+l.length<1000->
  (∀H' vf',cG H1 H'->H' x=ab (.ins C dx vf')->mH (New H1) H' vf' (fs0++fs)->(vf'.map (·.2)).Nodup->D'.nx σ H')->aN8 K l D' σ H
 |[],H,vf,fs0,fs,hx,sm,rf,ok0,nd2,he,nd,na,hl,q=>by
  cases he;exact q H vf sm hx (by rw[gL];exact rf) nd2
 | (f,.par i)::r,H,vf,fs0,fs,hx,sm,rf,ok0,nd2,he,nd,na,hl,q=>by exact bx he
 | (f,.exp g)::r,H,vf,fs0,fs,hx,sm,rf,ok0,nd2,he,nd,na,hl,q=>by
  obtain⟨d,h1,he⟩:=bI he;obtain⟨ds',h2,he⟩:=bI he;split at he
  ·rename_i hk;cases he;have hlf:f∉vf.map (·.1):=λz=>(rV.mp nd).2.2 f z f 0x2 rfl
   refine⟨ρ,d,hρ.same sm,h1,λy H2 s2 r2 n2=>?_⟩;have hx2:=s2 _ _ hx;refine⟨_,hx0,x,C,dx,vf,rfl,hx2,cls,na f 0x2,by lia,?_⟩;have sm':cG H1 (upd H2 x (.ins C dx (zH f y vf))):=λa o e=>by
    rw[bF (λz=>by subst z;rw[hn] at e;cases e)];exact s2 _ _ (sm _ _ e)
   rw[SN hlf] at sm' ⊢;obtain⟨b,o,rfl,hb,_,_⟩:=yQ (n2 rfl) hk;refine aAi cls hx0 hn hρ r _ (vf++[(f,.ref b)]) (fs0++[(f,d)]) ds' aM sm' ?_ (by rw[List.all_append,ok0];simp[hk]) ?_ h2 (by simpa[eP] using nd) (λg hg=>na g (by simp at hg ⊢;exact .inr hg)) (by simp at hl ⊢;lia) (λH' vf' a b c n=>q H' vf' a b (by simpa using c) n)
   ·have z2:mH (New H1) H2 vf fs0:=rf.keep (λa o e _=>s2 _ _ e) λ_ h=>h
    have okd:okF d=ae:=by rw[okF,hk,yl]
    exact mH.snoc (((n2 rfl).mono λa ha=>sm.free ha).okK aE9.upd hx2 (λ_ h=>h) okd) (z2.okK aE9.upd hx2 (λ_ h=>h) (aKq ok0))
   ·rw[c_,rV];refine⟨nd2,by simp,λw hw u hu z=>?_⟩;obtain⟨a,o,rfl,ea⟩:=JW rf ok0 w hw;simp at hu;rw[hu] at z;cases z;rw[show H _=aj from hb] at ea;cases ea
  ·exact bx he
def aAj(C:ak)(l:aa (Str×Srx))(n:af):Sp:=λvs H Q _=>∃x dx H1 us ds fs,vs=.ref x::us/\us.length=n/\H x=ab (.ins C dx [])/\H1 x=aj/\cG H1 H/\bL All H1 us ds/\evI (.uD::ds) l=.ok fs/\∀H' vf,cG H1 H'->H' x=ab (.ins C dx vf)->mH (New H1) H' vf fs->(vf.map (·.2)).Nodup->Q .non H'
theorem aGp{P:bp}{w:bh}{K:br}{mg:Str->ax ah}{base:aI}{x qual:Str}{st:bP}{fad C:ak}{fd:d5}{N ps:aa Str}{k:af}{l:aa (Str×Srx)}(F:Fun K x qual st fad fd)(S:cF N ps (aO st))(hN:N.length=ps.length){n:af}(hp:ps.length=n+1)(cls:Cls K C)(nd:(l.map (·.1)).Nodup)(na:∀f∈l.map (·.1),n8 K C f)(hl:l.length<1000)
 (hbody:∀(cdv:ah) (A:bu) (outer:aa dn) (s:al) (H:Hp) (E:XK),mJ k (A.deeper (gS qual (aO st) s.heap.objs.size fad cdv))->PSs (XQ CX0 P w K mg base N qual (aO st) fad cdv A outer s H E).nox (d8 st) (aN8 K l)):uQ P w K mg base CX0 (k+1) fad fd ps (aAj C l n):=by
 refine F.ok S (λvs H Q E z0=>by obtain⟨_,_,_,us,_,_,e,h,_⟩:=z0;rw[e,hp,bj,h]) λcdv A outer s H vs Q E hr ⟨x,dx,H1,us,ds,fs,e,hu,hx,hn,sm,r,he,q⟩=>⟨_,hbody cdv A outer s H E hr,?_⟩
 subst e;have hst:L2.start N (V.ref x::us)=ab (.ref x)::us.map ab:=by
  unfold L2.start;rw[hN,hp,bj,hu,Nat.sub_self];simp
 rw[hst];refine aAi cls rfl hn (λi hi=>?_) l H [] [] fs hx sm .nil rfl 0x2 he (by simpa using nd) na (by simpa using hl) λH' vf s' hx' rf n'=>q H' vf s' hx' (by simpa using rf) n'
 cases i with
 |zero=>exact bg rfl hi
 |succ i=>
  have e:(D.uD::ds).getD (i+1) .uD=ds.getD i .uD:=rfl;rw[e] at hi ⊢;cases hq:ds[i]? with
  |none=>rw[c9,hq] at hi;exact bg rfl hi
  |some d=>
   obtain⟨v,z1,z2⟩:=r.get hq;rw[c9,hq];exact⟨v,by simpa using z1,z2⟩
def aD0(P:bp)(w:bh)(K:br)(mg:Str->ax ah)(base:aI)(k:af)(c:Str)(l:aa (Str×Srx))(n:af):Prop:=
 ∃(C fi:ak)(fd:d5)(ps:aa Str),ka K cu c=ab (ab (.ref C))/\mg c=ab (.ref C)/\Mk K C fi/\uQ P w K mg base CX0 k fi fd ps (aAj C l n)/\Binds K fd ps []
def aP0(K:br)(c:Str)(l:aa (Str×Srx))(n:af)(t:TA):TE:=λσ H Q=>t σ H λus H1=>∃ds fs,us.length=n/\bL All H1 us ds/\evI (.uD::ds) l=.ok fs/\∀C x dx H' vf,ka K cu c=ab (ab (.ref C))->H1 x=aj->cG H1 H'->H' x=ab (.ins C dx vf)->mH (New H1) H' vf fs->(vf.map (·.2)).Nodup->Q (.ref x) H'
theorem aKr(R:aD0 X.prog X.w X.K X.mg X.base k x l n)(hr:mJ k' X.A)(hkk:k+1<=k')(hg:Gl X x)(ha:PA X (e::es) t)(hdb:nDb x:=by decide)(he:bi (e::es) X.env=(ag,bm e X.env)::bi es X.env:=by rfl)(hpl:(dq pos (bi es X.env)).any (·.1)=ag:=by rfl)(hmono:∀(σ:L2.St) (H:Hp) (Q Q':aa V->Hp->Prop),(∀vs H',Q vs H'->Q' vs H')->t σ H Q->t σ H Q') :
  PE X (.Call (.Name x p) (e::es) [] pos) (aP0 X.K x l n t):=by
 obtain⟨C,fi,fd,ps,hn,hm,M,F,hb⟩:=R;refine PE.imp (aF2 M F (hr.mono hkk) hg hm hb .nil aBz ha hdb he hpl) λσ H Q h=>hmono σ H _ _ ?_ h
 rintro us H1 ⟨ds,fs,hl,r,he,q⟩ y dx hy hdx hne;refine⟨y,dx,H1,us,ds,fs,by rw[gL],hl,aM,hy,λa o e=>?_,r,he,λH' vf s' hx' rf n'=>⟨rfl,q C y dx H' vf hn hy s' hx' rf n'⟩⟩;rw[bF (cW e hy),bF (cW e hdx)];exact e
theorem aNg(h:mH P H vf [(f1,d1),(f2,d2),(f3,d3),(f4,d4)]):∃v1 v2 v3 v4,vf=[(f1,v1),(f2,v2),(f3,v3),(f4,v4)]/\Rep P H v1 d1/\Rep P H v2 d2/\Rep P H v3 d3/\Rep P H v4 d4:=by
 cases h with|cons a h=>
 cases h with|cons b h=>
 cases h with|cons c h=>
 cases h with|cons d h=>
 cases h;exact⟨_,_,_,_,rfl,a,b,c,d⟩
theorem aGq{rest:aa bP}{c x:Str}(hK:KFrag.K=X.K)(R:aD0 X.prog X.w X.K X.mg X.base k c l n)(hr:mJ k' X.A)(hkk:k+1<=k')(hg:Gl X c)(ha:PA X (e::es) (gA fa ra))(ho:own i=ag)(hj:own j=ae)(hj2:own (j+1)=ae)(hlj:j+1<X.N.length)(n1:Hid X j)(n2:Hid X (j+1))(hN:X.N.Nodup)(hi:X.N[i]?=ab x)(hx:Loc X.env.scope x)(h2:PSs X rest (tS own g))(hdb:(c==("__debug__" : Str))=ag:=by decide)(he:bi (e::es) X.env=(ag,bm e X.env)::bi es X.env:=by rfl)(hpl:(dq cpos (bi es X.env)).any (·.1)=ag:=by rfl)
 (hs:eI (.Call (.Name c p) (e::es) [] cpos) (ab (.Name x pos')) pos.line X.env=pure ag:=by rfl)(hf:X.fn x=ae\/X.env.scope.names.lookup x=ab .local:=by first|exact .inl rfl|exact .inr rfl|assumption) :
  PSs X (.Assign [.Name x pos'] (.Call (.Name c p) (e::es) [] cpos) pos::rest) (tS own (aKp i j c l n fa g)):=λpins s σ H D' I z0=>by
 obtain⟨ρ,fl,E,h,q⟩:=z0;obtain⟨ds,h1,h⟩:=bI h;split at h
 ·rename_i hn;obtain⟨fs,h3,h⟩:=bI h;split at h
  ·rename_i f1 d1 f2 d2 f3 f4;split at h
   ·rename_i hex;cases h;refine nG (G7 hN hi hx (aKr R hr hkk hg ha hdb he hpl λ_ _ _ _=>aGj) hs hf) (aEc (j:=j) h2 n1 n2) pins s σ H D' I ⟨ρ,ds,E.er,h1,λus H1 s1 r1 _=>⟨ds,_,by rw[r1.length];exact eW hn,r1,h3,λC y dx H' vf hn' hy s' hxi rf nd=>?_⟩⟩;have sH:cG H H':=s1.trans s';have rfN:mH (New H) H' vf [(f1,d1),(f2,d2),(f3,.lst []),(f4,.lst [])]:=rf.keep (λa o e _=>e) λa ha=>s1.free ha
    obtain⟨hin,_⟩:inner d1=ae/\inner d2=ae:=by
     have:∀(l:aa (Str×Srx))(fs:aa (Str×D)),evI (.uD::ds) l=.ok fs->(fs.all λp=>inner p.2)=ae:=by
      intro l;induction l with
      |nil=>intro fs h;cases h;rfl
      |cons a l ih=>
       intro fs h;obtain⟨f,s⟩:=a;cases s with
       |par i=>exact bx h
       |exp g=>
        obtain⟨d,_,h⟩:=bI h;obtain⟨ds',z2,h⟩:=bI h;split at h
        ·rename_i hk;cases h;rw[ik,ih _ z2,hk];rfl
        ·exact bx h
     have:=this l _ h3;simp only[ik,bq] at this;exact⟨this.1,this.2.1⟩
    rename_i hin2;obtain⟨v1,v2,v3,v4,rfl,r1,r2,r3,r4⟩:=aNg rfN;obtain⟨a1,o1,rfl,p1,e1,_⟩:=yQ r1 hin;obtain⟨a2,o2,rfl,p2,e2,_⟩:=yQ r2 hin2;obtain⟨p,vp,rfl,ep,pp,rp⟩:=r3.inv;obtain⟨t,vt,rfl,et,pt,rt⟩:=r4.inv;cases rp;cases rt;simp only[bw,je,ff,b9,kQ,or_false,ii,V.ref.injEq,not_false_eq_true,io,and_true] at nd;obtain⟨⟨n12,n1p,n1t⟩,⟨n2p,n2t⟩,npt⟩:=nd;have hl:i<σ.length:=by rw[I.len];exact(dz.mp hi).1
    have hij:i≠j:=λz=>by subst z;rw[ho] at hj;cases hj
    have hij2:i≠j+1:=λz=>by rw[<-z,ho] at hj2;cases hj2
    let Hm:Hp:=λb=>if b=t then aj else H' b
    have hmt:Hm t=aj:=au rfl;have hmn:∀b,b≠t->Hm b=H' b:=λb n=>az n
    have sm:cG H Hm:=λb ob eb=>by
     rw[hmn b λz=>by subst z;rw[show H b=aj from pt] at eb;cases eb];exact sH _ _ eb
    have sm2:cG Hm H':=λb ob eb=>by
     by_cases z:b=t
     ·rw[z,hmt] at eb;cases eb
     ·rw[hmn b z] at eb;exact eb
    obtain⟨E1,k1⟩:=E.aN0 (i:=j) sm hj pp (.cel (ds:=[]) (by rw[hmn p npt];exact ep) trivial .nil) rfl (by rw[hmn p npt];exact ep) rfl;obtain⟨E2,k2⟩:=E1.aN0 (i:=j+1) sm2 hj2 hmt (.cel (ds:=[]) et trivial .nil) rfl et rfl;have nO:∀a,H a=aj->a≠p->a≠t->¬Own own ((σ.set j (ab (.ref p))).set (j+1) (ab (.ref t))) a:=λa ha np nt z0=>by
     obtain⟨m,hm,em⟩:=z0;by_cases z1:j+1=m
     ·subst z1;rw[fN (by rw[ug,I.len];exact hlj)] at em;cases em;exact nt rfl
     ·rw[eC z1] at em;by_cases z2:j=m
      ·subst z2;rw[fN (by rw[I.len];lia)] at em;cases em;exact np rfl
      ·rw[eC z2] at em;obtain⟨o,e,_⟩:=E.live ⟨m,hm,em⟩;rw[ha] at e;cases e
    have hn2:ka KFrag.K cu c=ab (ab (.ref C)):=by rw[hK];exact hn'
    have E3:=E2.set (i:=i) (v:=.ref y) (d:=.ins c [(f1,d1),(f2,d2),(f3,.adr p),(f4,.adr t)]) ho (.ins hn2 hxi (.cons (r1.aJy hin (nO _ p1 n1p n1t)) (.cons (r2.aJy hin2 (nO _ p2 n2p n2t)) (.cons .adr (.cons .adr .nil)))));have k3:KU own ((σ.set j (ab (.ref p))).set (j+1) (ab (.ref t))) H' (((σ.set j (ab (.ref p))).set (j+1) (ab (.ref t))).set i (ab (.ref y))) H':=λa o e n=>⟨e,by rw[lU ho];exact n⟩
    have q3:=(q.step (k1.trans (k2.trans k3)))
    have es:((σ.set j (ab (V.ref p))).set (j+1) (ab (V.ref t))).set i (ab (.ref y))=gh j p t (σ.set i (ab (.ref y))):=by
     unfold gh;rw[vd _ _ (c5 hij2),vd _ _ (c5 hij)]
    have er:(((ρ.set j (D.cel p [])).set (j+1) (D.cel t [])).set i (.ins c [(f1,d1),(f2,d2),(f3,.adr p),(f4,.adr t)]))=mkG i j c f1 f2 f3 f4 d1 d2 p t ρ:=by
     unfold mkG;rw[vd _ _ (c5 hij2),vd _ _ (c5 hij)]
    rw[es,er] at E3;rw[es] at q3;exact⟨p,t,_,_,E3,hex.choose_spec p t npt,q3⟩
   ·exact bx h
  ·exact bx h
 ·exact bx h
theorem aGr(hc:X.calm=ae)(hg:Gl X "list")(hm:X.mg "list"=aj)(hg2:Gl X "reversed")(hm2:X.mg "reversed"=aj)(he:PE X e (gX own f))(hs:bi [e] X.env=[(ag,bm e X.env)]:=by rfl)
 (hs2:bi [.Call (.Name "reversed" p2) [e] [] pos2] X.env=[(ag,bm (.Call (.Name "reversed" p2) [e] [] pos2) X.env)]:=by rfl) :
  PE X (.Call (.Name "list" p) [.Call (.Name "reversed" p2) [e] [] pos2] [] pos) (gX own (xLR f)):=PE.imp (aGo hc hg hm hg2 hm2 he hs hs2) λσ H Q z0=>by
 obtain⟨ρ,d,ρ',E,h,q⟩:=z0;obtain⟨⟨d0,ρ1⟩,h1,h⟩:=bI h;dsimp only at h;split at h
 ·rename_i xs;split at h
  ·rename_i hp;cases h;refine⟨ρ,_,_,E,h1,λv H1 k E1 ns r=>?_⟩;obtain⟨a,vs,rfl,e,_,rr⟩:=r.inv;refine⟨a,vs,rfl,e,λb hb=>?_⟩;have sp:cG H1 (upd H1 b (.lst vs.reverse)):=cG.upd hb;exact q _ _ (k.trans (.same sp)) (E1.same sp) ns (.lst aM (aGc k E1 hb) ((rr.rev.bT (aAc hp)).same sp))
  ·exact bx h
 ·exact bx h
theorem aGs(ho:own i=ae)(hN:X.N[i]?=ab x)(hv:Vis X.env.scope x)(he:PE X e (gX own f))(hd:nDb x:=by decide)(hcd:nCd x:=by decide)
 (hbase:i8 (.Name x p1) "extend" X.env (bm (.Name x p1) X.env)=bm (.Name x p1) X.env:=by rfl)
 (hs1:bi [e] X.env=(ag,bm e X.env)::bi [] X.env:=by rfl)
 (hfew:((dq cpos (bi [e] X.env)).all (λx=>!x.1)&&(lj cpos (ll [] X.env)).all (λx=>x.1.isSome)
  &&decide (([e]:aa Expr).length+([]:aa jc).length+(if ([]:aa jc).isEmpty then 0 else 1)<30))=ae:=by rfl)
 (hline:(apos.endLine==cpos.line)=ae:=by rfl)
 (hs:eI (.Call (.Attribute (.Name x p1) "extend" apos) [e] [] cpos) aj pos.line X.env=pure ag:=by rfl) :
  PS X (.Expr (.Call (.Attribute (.Name x p1) "extend" apos) [e] [] cpos) pos) (tS own (aAh i f)):=
 PS.imp (M3 (aBs oQ AK PySem.F.type_list_extend X6 (jJ hN hv hd hcd) (lJ he tV hs1) hbase hfew hline hs1 rfl) hs) λD' σ H z0=>by
 obtain⟨ρ,fl,E,h,q⟩:=z0;obtain⟨⟨d,ρ'⟩,h1,h2⟩:=bI h;dsimp only at h2;split at h2
 ·rename_i xs0 xs ys hx0 hx;split at h2
  ·rename_i hk;cases h2;rw[bq,fF] at hk;obtain⟨a,o,hσ,r,hin,ha,hm⟩:=E.ownAt ho (by rw[hx0];intro z;cases z);rw[hx0] at r;obtain⟨vs,hl,rr⟩:=JK r;refine⟨_,hσ,.inl ⟨rfl,vs,.of hl⟩,ρ,_,ρ',E,h1,λv H' k E' ns rv=>?_⟩;obtain⟨a2,o2,hσ2,r2,hin2,ha2,hm2⟩:=E'.ownAt ho (by rw[hx];intro z;cases z);rw[hσ] at hσ2;cases hσ2;rw[hx] at r2 hin2;obtain⟨vs2,hl2,rr2⟩:=JK r2;obtain⟨b,zs,rfl,hb,_,rz⟩:=rv.inv;refine⟨a,b,vs2,zs,rfl,rfl,hl2,hb,by rw[rr2.length,rz.length];exact dw hk.1 (by rw[dE];decide),?_⟩;have hp:D.aW (xs++ys)=ae:=by rw[q_,bq];exact⟨hin2,hk.2⟩
   obtain⟨E2,k2⟩:=E'.mut ho hσ rfl (.lst aM trivial ((rr2.append rz.all).upd hp hl2 rfl)) hp;exact q _ _ (k.trans k2) E2
  ·exact bx h2
 ·exact bx h2
end
end
open PySem.W
def aKs(h:aI)(d:ak)(es:aw oh)(ep:af):Prop:=∃o,h.get? d=ab o/\o.ExactDict/\o.data=.dict es ep
theorem aKs.ty{s:al}{d:ak}{es:aw oh}{ep:af}(x:aKs s.heap d es ep):s.TypeIs (.ref d) "dict":=let ⟨o,e,c,_⟩:=x;⟨o,e,c.1⟩
section
variable {prog:bp} {w:bh} {A:bu} {E:ah->al->Prop} {s:al} {d:ak} {es:aw oh} {ep:af}
theorem aGt{Q:ah->al->Prop}(hd:(d==gu)=ag)(x:aKs s.heap d es ep)(hz:(es.size:ai)<2 ^ 63)(q:∀t t',Q (.int es.size t) {s with toks:=t'}):wpAny (av prog w) A (call (.builtin "len") [.ref d]) Q E s:=by
 have T:=x.ty;have m:MeetsIn prog w (Builtin.«dict.__len__» ⟨[.ref d],[]⟩) (λ_ R s=>aKs s.heap d es ep/\R (.ok (.ret (.int es.size s.toks))) {s with toks:=s.toks+1}):=.of_wp λA R s z0=>by
  obtain⟨⟨o,e1,e2,e3⟩,h⟩:=z0;refine ao (m:=zq d) (?_:wpAny _ _ (zq d) _ _ s);unfold zq;refine ao (wpAny_dictEntries e1 e3 (aS (ao (m:=Dg d) (wpAny_pendingCount_other hd (wpAny_ret_mkInt ?_)))));simpa using h
 refine Bp kind_len plain_len entry_len (args_len1 _) (?_:wpAny _ _ (Builtin.«len» _) _ _ _);unfold Builtin.«len»;refine ao (m:=oneArg "len" _) (aS (ao (m:=callSpecial? (.ref d) (wE "__len__")) (mw (name:=wE "__len__") T Cr (call_meetsIn Cr T F.entry_dict_len (F.args_dict_len_1 _) m ⟨x,(?_:wpAny _ _ _ _ _ {s with toks:=s.toks+1})⟩))));refine ao (fg (aS (ao (iz (?_:wpAny _ _ (if ((es.size:af):ai)<0 then _ else _) _ _ _)))));rw[az 0x1];refine(?_:wpAny _ _ (ite (((es.size:af):ai) >= 2 ^ 63) _ _) _ _ _);rw[az 0x1];exact ao (wpAny_mkInt (aS ⟨_,rfl,q _ _⟩))
end
section
variable {prog:bp} {w:bh} {A:bu} {E:ah->al->Prop} {s:al} {r:ak}
def aNh(s:al)(F:aw ah->Prop)(q:kn)(s':al):Prop:=∃(h':aI)(tk:af)(acc:aw ah)(c:af),q=.ok (.ret (.ref s.heap.objs.size))/\s'={s with heap:=h',toks:=tk}/\(∀b o,s.heap.get? b=ab o->h'.get? b=ab o)/\h'.get? s.heap.objs.size=ab {cls:=.type "list",dict:=aj,data:=.seq acc c,slots:=#[]}/\F acc
theorem aGu{Q:aa ah->al->Prop}{F:aw ah->Prop}
 (key:wpAny (av prog w) A.in1 (rS (.ref s.heap.objs.size) (.ref r) (.ref s.heap.objs.size)) (λfin s'=>match fin with|.done f=>aNh s F (.ok f) s'|.again c'=>c'.quiet=ae/\codeAny (av prog w) A c' (aNh s F) s') (λe s'=>aNh s F (.error e) s') {s with heap:=s.heap.push {cls:=.type "list",data:=.seq ([]:aa ah).toArray}})
 (q:∀h' tk acc,(∀b o,s.heap.get? b=ab o->h'.get? b=ab o)->s.heap.objs.size<=h'.objs.size->F acc->Q acc.toList {s with heap:=h',toks:=tk}):wpAny (av prog w) A (oI (.ref r)) Q E s:=by
 have last:∀{h':aI}{tk:af}{acc:aw ah}{c:af},(∀b o,s.heap.get? b=ab o->h'.get? b=ab o)->h'.get? s.heap.objs.size=ab {cls:=.type "list",dict:=aj,data:=.seq acc c,slots:=#[]}->F acc->wpAny (av prog w) A (load s.heap.objs.size >>= λo=>match o.data with|.seq xs _=>pure xs.toList|_=>unsupported "internal:collect") Q E {s with heap:=h',toks:=tk}:=λkp at_ f=>ao (wpAny_load at_ (aS (q _ _ _ kp (ny (bE at_)) f)))
 unfold oI;refine ao (wpAny_runValue (gn entry_proto_collect' (?_:wpAny _ _ (xA [] >>= λl=>again (.builtin "list.__iadd__" ⟨[l,.ref r],[]⟩)) _ _ s)));rw[g9 PySem.F.plain_proto_collect];refine ao (jb (aS ⟨iX Cs _,gn entry_list_iadd' (?_:wpAny _ _ (rS _ _ _) _ _ _)⟩));rw[g9 Cs];refine fR key (λfin s' x=>?_) λe s' ⟨_,_,_,_,z,_⟩=>nomatch z
 cases fin with
 |done f=>
  obtain⟨h',tk,acc,c,e,rfl,kp,at_,f⟩:=x;cases e;exact last kp at_ f
 |again c1=>
  refine⟨x.1,li x.2 λp s2 y=>?_⟩;obtain⟨h',tk,acc,c,rfl,rfl,kp,at_,f⟩:=y;exact last kp at_ f
theorem aGv{Q:aa ah->al->Prop}{o:aT}{its:aw ah}{n:af}(ho:s.heap.get? r=ab o)(hc:o.cls=.type "tuple")(hd:o.data=.seq its n)(hz:its.size<=bn)
 (q:∀h' tk,(∀b o,s.heap.get? b=ab o->h'.get? b=ab o)->s.heap.objs.size<=h'.objs.size->Q its.toList {s with heap:=h',toks:=tk}):wpAny (av prog w) A (oI (.ref r)) Q E s:=by
 have hS:=cS (h:=s.heap) (o:={cls:=.type "list",data:=.seq ([]:aa ah).toArray}) rfl;obtain⟨c,hc2⟩:∃c,((s.heap.push {cls:=.type "list",data:=.seq ([]:aa ah).toArray}).update s.heap.objs.size (eJ (·++its))).get? s.heap.objs.size=ab {cls:=.type "list",dict:=aj,data:=.seq its c,slots:=#[]}:=by
  rw[ke (eJ (·++its)) hS rfl];simp only[eJ,Array.empty_append];exact⟨_,rfl⟩
 refine aGu (F:=λacc=>acc=its) (wpAny_extend_seq (hsz:=hz) (s:={s with heap:=s.heap.push {cls:=.type "list",data:=.seq ([]:aa ah).toArray}}) _ r _ 0 (.inr rfl) hS (bz _ ho) hc hd ⟨_,s.toks,its,c,rfl,rfl,λb o' hb=>?_,hc2,rfl⟩) λh' tk acc kp sz e=>by rw[e];exact q h' tk kp sz
 exact(jw _ _ (iF (bE hb))).trans ((bz _ hb))
end
section
variable [KFrag]
section
variable {X:Cx}
theorem aKt{H:Hp}{s:al}{pins:aa (ak×aT)}{σ:L2.St}{a:ak}{kvs:aa (aa Key×V)}(I:Inv X pins σ H s)(e:H a=ab (.dT kvs)):∃(es:aw oh)(ep:af)(xs:aa (aa Key×ak×ah)),aKs s.heap a es ep/\(a==gu)=ag/\kvs.length<=bn/\KT H kvs xs/\es.toList=xs.map (entryOfKey (mh (cD X.prog X.w))):=by
 obtain⟨z,hd,xs,rel,o,es,ep,h1,h2,h3,h4,_⟩:=aBw I.hok e;exact⟨es,ep,xs,⟨o,h1,h2,h3⟩,hd,z,rel,h4⟩
def aI6:aa D->Res D
 |[.dct kvs]=>if kvs.all (λp=>isTup p.1) then .ok (.int kvs.length) else .bad
 |ds=>dR ds
theorem aGw(hK:KFrag.K=X.K):kJ X (.builtin "len") (rs aI6 ae):=by
 rintro pins s σ H xs us Q I vr ⟨ds,d,r,e,k⟩;unfold aI6 at e;split at e
 ·rename_i kvs;split at e
  ·rename_i hl;cases e;obtain⟨vv,uu,rfl,rfl,r,v⟩:=iT r vr;cases r with
   |dK e _ rk _=>
    cases rk with
    |cons r t=>rw[ik,lQ] at hl;cases hl
    |nil=>
     cases v;obtain⟨_,lo,vs,rel,dd⟩:=HN I.hok e;have h0:vs.length=0:=by rw[<-rel.length];rfl
     refine BY lo dd 0x1 ?_;rw[h0];exact⟨.int 0,H,I.tok _,⟨_,rfl⟩,k.int⟩
   |dT e _ rt _=>
    cases v;obtain⟨es,ep,zs,raw,lo,hz,rel,he⟩:=aKt I e;have hl2:es.size=kvs.length:=by rw[<-hI,he,bd,<-jr rel,rt.length]
    refine aGt lo raw (by have:=rt.length;rw[dE] at hz;lia) λt t'=>?_
    rw[hl2];exact⟨.int _,H,I.tok _,⟨_,rfl⟩,k.int⟩
  ·cases e
 ·exact cU hK pins s σ H xs us Q I vr ⟨_,d,r,e,k⟩
end
end
def m8:aa D->Res D
 |[.tup xs]=>if cA xs then .ok (.lst (v_ xs)) else .bad
 |ds=>lN ds
variable [KFrag]
theorem V9{X:Cx}(hu:X.A.units+20<ck):kJ X (.builtin "sorted") (rs m8 ae):=by
 rintro pins s σ H xs us Q I vr ⟨ds,d,r,e,k⟩;unfold m8 at e;split at e
 ·rename_i ys;split at e
  ·rename_i hl;cases e;obtain⟨vv,uu,rfl,rfl,r,v⟩:=iT r vr;cases r with
   |tup e rr=>
    cases v;obtain⟨its,vr,o,ho,hc',n,hd⟩:=gK I e;have hz:=I.hok _ _ e;refine wK I hu vr (by rw[<-vr.length];exact hz.1) rr hl (λQ' E' h=>aGv ho hc' hd (by rw[cm,<-vr.length];exact hz.1) λh1 tk kp sz=>by simpa using h h1 tk kp sz) λp xs' hp r'=>?_
    have sp:cG H (upd H p (.lst xs')):=cG.upd hp;exact k _ _ sp (.lst aM trivial (r'.same sp)) λ_=>.lst aM hp ((r'.bT (wM hl)).same sp)
  ·exact bx e
 ·exact wN hu pins s σ H xs us Q I vr ⟨_,d,r,e,k⟩
end Mi
namespace Mi
open PySem L2 PySem.SeqAt PySem.Spec PyProof.Rows
noncomputable def It0(a:ak):It:=⟨λ_ _=>cv,λ_ _ _ _=>cv,λ_ H=>H a=ab (.tup [])⟩
noncomputable def aAk(a:FE):FI:=λρ=>do let x <- a ρ;match x with|.tup []=>.ok ([],ae)|_=>.bad
variable [KFrag]
theorem ItQ.it0{K:br}(a:ak)(e:J=It0 a)(r:Rep P H (.ref a) (.tup [])):ItQ K P J H []:=by
 refine⟨λP H kk mm=>?_⟩;have r:=r.Y_ kk mm;subst e;obtain⟨a',xs,e,hq,rr⟩:=r.eU;cases e;cases rr;exact⟨λi hi=>hq,λi d hi=>by simp at hi⟩
theorem aD1{K:br}{elts:aa Expr}{x1}{tp:bS}{k:ai}(a e it:ak)(hne:e≠it):Turn P w K (.Tuple elts x1 tp) (It0 a) [e,it] e (λi h=>i=0/\h.get? e=ab (Lw.enO .none ag it k .none)/\h.get? it=ab (Wz.itO a 0)) where
 mem:=b6 ..
 obj:=λi h z0 b hb=>by
  obtain⟨_,h1,h2⟩:=z0;simp only[b9,kQ,or_false] at hb;rcases hb with rfl|rfl
  ·exact⟨_,h1,λv z=>nomatch(show nN _=nS v from z)⟩
  ·exact⟨_,h2,λv z=>nomatch(show nN _=nS v from z)⟩
 keep:=λi h h' ⟨h0,h1,h2⟩ k=>⟨h0,k e (b6 ..) _ h1,k it 0x2 _ h2⟩
 item:=by
  intro Y hP hw hK hc i pins s σ H E I hf st z;exact z.elim
 done:=by
  rintro Y hP hw hK hc i pins s σ H E I hf ⟨h0,h1,h2⟩ hq;subst hP hw hK h0;obtain⟨its,rv,p,hz⟩:=I.tuple (.of (show H a=ab (.tup []) from hq));obtain⟨n,dd,sl,e3⟩:=JV p;obtain⟨f0,f1,f2,f3,f4,f5⟩:=hf it 0x2;have hl:=rv.length;exact Ch (Wn.ovT (show Y.A.in1.handled=aj from I.ok.hd hc) it a its.toArray n dd sl 0 (by have:its.length=0:=hl.symm;simp[zr.mp this])) h1 ⟨h2,e3⟩ λh' eb=>⟨rfl,I.turned (λb o hb e=>eb b o hb e) f0 f1 f3 f4 f5⟩
 self:=λ_ _ _ _ _ ⟨_,h1,_⟩ h=>vb h1 h
section
theorem aD2{x1}{e:Expr}{fe:FE}{re:aq}{m:ai}(hf:zo m=ae)(hg:Gl X "enumerate")(hm:X.mg "enumerate"=aj)(he:PE X e (gE fe re))(hs:bi [e] X.env=[(ag,bm e X.env)]:=by rfl) :
  PI X (.Tuple elts x1 tp) (.Call (.Name "enumerate" p2) [e] [⟨ab "start",.Constant (.int m) j cp,kp⟩] pos2) (gI X.K (aAk fe)):=by
 rintro pins s σ H R I ⟨ρ,items,k,E,h,q⟩;obtain⟨d,h1,h⟩:=bI h;split at h
 ·cases h;refine iN (kW I hg hm Ci (aKo (by rw[hs];rfl) rfl ?_));have hA:=lJ (X:=X) he tV hs pos2 pins s σ H (λvs H1=>∃v,vs=[v]/\cG H H1/\Rep All H1 v (.tup [])) I ⟨ρ,_,E,h1,λv H1 s1 r1 _=>⟨_,rfl,s1,r1⟩⟩;rw[hs] at hA ⊢;refine evalArgs_kwB rfl (thn hA λus s1 ⟨vs,H1,I1,r1,q1⟩=>kws_cons (Ad (kws_nil ?_)));obtain⟨v,rfl,sm,rx⟩:=q1;cases r1 with
  |cons rv rr=>
   cases rr;have rx0:=rx;obtain⟨t,xs,rfl,ex,rr⟩:=rx.eU;cases rv;obtain⟨vs,rvs,pl,hz⟩:=I1.tuple (.of ex);obtain⟨n,dd,sl,e3⟩:=JV pl;refine Lw.aGm (s:={s1 with toks:=s1.toks+1}) hf e3 λh' en it tk e1 e2 e3 e4 e5=>?_
   subst e2;subst e1;refine vb e3 ?_;refine⟨_,[s1.heap.objs.size+1,s1.heap.objs.size],_,_,H1,rfl,I1.kept λb o e=>e5 b o e,aD1 t (s1.heap.objs.size+1) s1.heap.objs.size (Cj _),⟨rfl,e3,e4⟩,λb hb=>?_,q _ H1 sm (.it0 t rfl rx0) λhk=>.it0 t rfl (rx0.bT rfl)⟩;simp only[b9,kQ,or_false] at hb;rcases hb with rfl|rfl
   ·exact I1.aBl (gN _) (I1.hok.fresh (gN _))
   ·exact I1.aBl (ba _) (I1.hok.fresh (ba _))
 ·cases h
end
end Mi
section
local macro_rules | `(tactic| trivial) => `(tactic| first | exact Or.inl rfl | exact Or.inr rfl | exact Or.inr (Or.inl rfl) | exact Or.inr (Or.inr rfl))
namespace Lk64
open PySem L2 Mi PySem.W
noncomputable def top(i:af):bP:=PySem.Challenge.pw_hookmill_k64_closed_terms.main.body.getD i (.Pass ⟨0,0,0,0⟩)
abbrev oM:bP:=top 9
noncomputable def QG:af->aq:=λi=>ag
def wX:FS:=bG (bO ag 2 bK ae) (bG (sIf (bTB (b2 (b7 (.ord .gt)) (aK dR (aA bN aN)) bK)) (bO ag 2 (b2 (a_ .mod) (b2 getD bN (b2 (a_ .mod) eY (aK dR (aA bN aN)))) iZ) ae) mG) (bG (bO ag 3 (b2 (a_ .mod) (b2 mY (b2 (a_ .add) (b2 (a_ .add) fV cJ) (b2 mY wA (b2 (a_ .fdiv) eY (aK max2 (aA cJ (aA (aK dR (aA bN aN)) aN)))))) zV) iZ) ae) (jV (b2 (a_ .mod) (b2 mY dO dO) lM) ae)))
def aL:aa D->Res D:=fnS 2 4 wX
abbrev oN:bP:=top 10
noncomputable def QH:af->aq:=λi=>ag
def QJ:FS:=bG (bO ag 2 (bC (.str "abcdefghijklmnopqrstuvwxyz")) ae) (bG (sIf (WT (bTB (b2 inX eY (cZ (aA sS (aA zW aN))))) (bTB (b2 (b7 .eq) (b2 (a_ .mod) (aK (bV 2 aL) (aA bN (aA (bC (.int 36)) aN))) YS) cJ))) (jV (b2 (a_ .add) (b2 getD (oR (aA (bC (.str "drop")) (aA (bC (.str "copy")) aN))) (b2 (a_ .fdiv) eY zW)) (b2 getD fV (b2 (a_ .mod) (aK (bV 2 aL) (aA bN (aA aFk aN))) zX))) ae) mG) (bG (bO ag 3 (aK (bV 2 aL) (aA bN (aA bK aN))) ae) (bG (bO ag 4 (b2 getD (oR (aA (b2 getD fV (b2 (a_ .mod) dO zX)) (aA (b2 getD (bC (.str "abdz")) (b2 (a_ .mod) (b2 (a_ .fdiv) dO zX) sS)) aN))) (b2 (a_ .mod) (b2 (a_ .fdiv) dO (bC (.int 104))) gG)) ag) (bG (bO ag 5 (b2 (a_ .mod) (aK (bV 2 aL) (aA bN (aA cJ aN))) aBf) ae) (bG (bO ag 6 (b2 (a_ .mod) (aK (bV 2 aL) (aA bN (aA gG aN))) (b2 (a_ .sub) aBf eV)) ae) (bG (sIf (bTB (b2 (b7 .eq) (b2 (a_ .mod) (b2 (a_ .fdiv) (aK (bV 2 aL) (aA bN (aA cJ aN))) aBf) gG) cJ)) (bO ag 6 (b2 (a_ .mod) (aK (bV 2 aL) (aA bN (aA (b2 (a_ .add) sS eY) aN))) (b2 (a_ .sub) aBf eV)) ae) mG) (jV (b2 (a_ .add) (b2 (a_ .add) (b2 mY iY eV) (b2 getD fV (b2 (a_ .mod) (b2 (a_ .add) eY (aK (bV 2 aL) (aA bN (aA lY aN)))) zX))) (b2 mY iY mF)) ae)))))))
def aP:aa D->Res D:=fnS 2 7 QJ
abbrev jA:bP:=top 11
noncomputable def DP:af->aq:=λi=>i==2
def DQ:FS:=bG (bO ae 2 (oR aN) ae) (bG (uW (gP (aA eY aN) kO) (tg1 3) (bG (bO ag 4 (cZ aN) ae) (bG (sIf (WT (bTB (b2 (b7 (.ord .gt)) dO bK)) (bTB (b2 (b7 (.ord .gt)) (b2 (a_ .mod) (b2 (a_ .fdiv) (aK (bV 2 aL) (aA bN (aA aC3 aN))) dO) lY) bK))) (bO ag 4 (cZ (aA (aK (bV 2 aP) (aA bN (aA bK aN))) aN)) ae) mG) (bG (yN 2 (cZ (aA (aK (bV 2 aP) (aA bN (aA (b2 (a_ .add) lY (b2 mY lY dO)) aN))) (aA (aK (bV 2 aP) (aA bN (aA dO aN))) (aA iY aN))))) (uW (gP (aA cJ (aA (b2 (a_ .add) gG (b2 (a_ .mod) (aK (bV 2 aL) (aA bN (aA (b2 (a_ .add) YT (b2 mY lY dO)) aN))) gG)) aN)) H_) (tg1 5) (bG (bO ag 6 (aK (bV 2 aL) (aA bN (aA (b2 (a_ .add) (b2 (a_ .add) YT (b2 mY lY dO)) eV) aN))) ae) (bG (bO ag 7 (b2 getD (oR (aA cJ (aA (b2 (a_ .mod) mF sS) aN))) (b2 (a_ .sub) eV cJ)) ag) (bG (bO ag 8 (aK fX (aA (cY 9 (gP (aA fB aN) kO) gQ dC (aK (bV 2 aP) (aA bN (aA (b2 (a_ .mod) (b2 (a_ .fdiv) mF (b2 (a_ .add) aMq (b2 mY aHz sG))) eY) aN))) ae) aN)) ag) (yN 2 (cZ (aA (aK (bV 2 aP) (aA bN (aA (b2 (a_ .add) (b2 (a_ .add) lY (b2 mY lY dO)) eV) aN))) (aA (aK (bV 2 aP) (aA bN (aA dO aN))) (aA n_ aN))))))))))))) (jV (aK fX (aA fV aN)) ag))
def jB:aa D->Res D:=fnS 2 9 DQ
abbrev jC:bP:=top 12
noncomputable def DR:af->aq:=λi=>i==2
def DW:FS:=bG (bO ae 2 (oR aN) ae) (bG (uW (gP (aA (b2 (a_ .mod) (aK (bV 2 aL) (aA bN (aA (bC (.int 50)) aN))) sS) aN) kO) (tg1 3) (bG (bO ag 4 (aK (bV 2 aL) (aA bN (aA (b2 (a_ .add) (bC (.int 51)) dO) aN))) ae) (bG (bO ag 5 (aK fX (aA (cY 7 (gP (aA (b2 (a_ .mod) (b2 (a_ .fdiv) iY sS) lY) aN) kO) gQ dC (aK (bV 2 aP) (aA bN (aA (b2 (a_ .mod) (b2 (a_ .fdiv) iY (b2 (a_ .add) VG (b2 mY aHz fB))) eY) aN))) ae) aN)) ag) (bG (bO ag 6 (cZ (aA (aK (bV 2 aP) (aA bN (aA (b2 (a_ .mod) iY eY) aN))) (aA (aK (bV 2 aP) (aA bN (aA (b2 (a_ .mod) (b2 (a_ .fdiv) iY gG) eY) aN))) aN))) ae) (yN 2 (b2 LR (b2 LR (cZ (aA (aK (bV 2 aP) (aA bN (aA (b2 (a_ .add) zW dO) aN))) aN)) mF) (cZ (aA eV aN)))))))) (jV (aK fX (aA fV aN)) ag))
def jD:aa D->Res D:=fnS 2 7 DW
abbrev cC:bP:=top 13
noncomputable def JX:af->aq:=λi=>i==7||i==8
def uE:FS:=bG (bO ae 7 (oR aN) ae) (bG (bO ae 8 (n6 (aA (cZ (aA iY (aA (bC (.bl ag)) aN))) aN)) ae) (bG (aN4 (bTB (b2 (b7 (.ord .gt)) (aK dR (aA n_ aN)) bK)) (bG (PP 8 9 bK) (bG (bO ag 10 (aK (bV 2 aL) (aA bN (aA (b2 (a_ .add) eY (aK dR (aA fB aN))) aN))) ae) (bG (bO ag 11 (R_ 17 3 gQ (bTB (b2 (b7 .eq) (b2 getD dO gM) (b2 getD sG bK))) gM) ae) (bG (bO ag 12 (cY 17 (bM (b2 getD fV bK) ag) gQ (bTB (b2 (b7 .eq) (b2 getD gM cJ) (b2 getD sG bK))) gM ag) ae) (bG (bO ag 13 (cY 17 (bM (b2 getD fV cJ) ag) gQ (bTB (b2 (b7 .eq) (b2 getD gM cJ) (b2 getD sG bK))) gM ag) ae) (sIf (WT (bTB (b2 (b7 (.ord .lt)) (aK dR (aA fB aN)) mF)) (bTB (b2 (b7 .eq) (aK dR (aA n_ aN)) bK))) (bG (yN 7 (b2 getD (b2 getD fC cJ) bK)) (bO ae 8 (n6 (aA (cZ (aA (b2 getD (b2 getD (b2 getD fC cJ) gG) bK) (aA (bC (.bl ag)) aN))) aN)) ae)) (sIf (bOr (bTr (b2 getD sG cJ)) (bOr (bTB (b2 (b7 (.ord .ge)) (b2 (a_ .add) (aK dR (aA fB aN)) (aK dR (aA n_ aN))) eV)) (bTB (b2 (b7 .eq) (b2 (a_ .mod) jW sS) bK)))) (bG (yN 7 (b2 getD (b2 (a_ .add) mC (n6 (aA (b2 getD (b2 getD fC bK) bK) aN))) (b2 (a_ .mod) (b2 (a_ .fdiv) jW sS) (aK max2 (aA cJ (aA (aK dR (aA mC aN)) aN)))))) (sIf (bTB (b2 (b7 .eq) (aK dR (aA mC aN)) bK)) (bO ae 8 (b2 (a_ .add) (cY 17 (bM (b2 getD (b2 getD fC bK) gG) ag) gQ dC (cZ (aA gM (aA (bC (.bl ae)) aN))) ag) n_) ae) mG)) (sIf (bOr (bTB (b2 (b7 (.ord .lt)) (b2 (a_ .mod) jW sS) lY)) (bTB (b2 (b7 .eq) (aK dR (aA xT aN)) bK))) (bG (bO ag 14 (b2 getD fC (b2 (a_ .mod) (b2 (a_ .fdiv) jW sS) (aK dR (aA fC aN)))) ag) (bG (yN 7 (b2 getD iK bK)) (bO ae 8 (b2 (a_ .add) (cY 17 (bM (b2 getD iK gG) ag) gQ dC (cZ (aA gM (aA (bC (.bl ag)) aN))) ag) n_) ae))) (bG (bO ag 15 (b2 getD xT (b2 (a_ .mod) (b2 (a_ .fdiv) jW sS) (aK dR (aA xT aN)))) ag) (bG (yN 7 (b2 getD zU bK)) (bG (bO ag 16 (zY (b2 (b7 (.ord .gt)) (aK aCj (aA dO aN)) bK) (b2 (b7 (.ord .gt)) (b2 (a_ .mod) (b2 (a_ .fdiv) jW (bC (.int 64))) sS) bK)) ae) (bO ae 8 (b2 (a_ .add) (b2 (a_ .add) (n6 (aA (cZ (aA (b2 getD zU gG) (aA uU aN))) aN)) (cY 17 (bM (b2 getD zU lY) ag) gQ dC (cZ (aA gM (aA (bC (.bl ag)) aN))) ag)) n_) ae))))))))))))) (jV (aK fX (aA fB aN)) ag)))
def dH:aa D->Res D:=fnS 7 17 uE
abbrev j7:bP:=top 14
noncomputable def JZ:af->aq:=λi=>i==2
def uF:FS:=bG (bO ae 2 (oR aN) ae) (bG (uW (bM (b2 getD eY cJ) ag) (tg1 3) (uW (bM (b2 getD eY bK) ag) (tg1 4) (sIf (bTB (b2 (b7 .eq) (b2 getD iY cJ) (b2 getD dO gG))) (bG (bO ag 5 (b2 LR (b2 getD iY gG) (b2 getD dO lY)) ag) (bG (bO ag 6 (aK (bV 2 aL) (aA bN (aA (b2 (a_ .add) zX (aK dR (aA fV aN))) aN))) ae) (bG (bO ag 7 (cY 11 (gP (aA (aK dR (aA eV aN)) aN) kO) gQ dC (aK (bV 2 aP) (aA bN (aA (b2 (a_ .add) VG (b2 (a_ .mod) (b2 (a_ .add) mF mC) YS)) aN))) ae) ae) (bG (bO ag 7 (aK fX (aA (b2 getD (oR (aA fB (aA (b1 aE6 fB) aN))) (b2 (a_ .mod) (b2 (a_ .fdiv) mF YS) gG)) aN)) ag) (bG (bO ag 8 (aK wV (aA fB (aA eV aN))) ae) (bG (bO ag 9 (aK (λds=>bV 7 dH (ds++[.int 0])) (aA bN (aA (b2 (a_ .add) YW (b2 mY aFl (aK dR (aA fV aN)))) (aA eY (aA n_ (aA (b2 getD dO cJ) (aA YS aN))))))) ae) (yN 2 (cZ (aA (b2 getD dO bK) (aA (b2 getD iY bK) (aA fB (aA sG aN)))))))))))) mG))) (bG (bO ag 10 (b2 (a_ .mod) (aK (bV 2 aL) (aA bN (aA (bC (.int 35)) aN))) (aK max2 (aA cJ (aA (aK dR (aA fV aN)) aN)))) ae) (jV (aK fX (aA (b2 (a_ .add) (aG4 fV (N6 jW) N7) (aG4 fV N7 (N6 jW))) aN)) ag)))
def j8:aa D->Res D:=fnS 2 11 uF
abbrev gZ:bP:=top 15
noncomputable def xV:af->aq:=λi=>ag
def xW:FS:=bG (bO ag 1 (b2 (a_ .add) cJ (b2 (a_ .mod) (aK (bV 2 aL) (aA bN (aA (bC (.int 39)) aN))) lY)) ae) (bG (bO ag 2 (cZ (aA (aK (bV 2 jB) (aA bN (aA eY aN))) (aA (aK (bV 2 jD) (aA bN (aA eY aN))) aN))) ae) (bG (bO ag 3 (aK fX (aA (cY 4 (gP (aA eY aN) kO) gQ dC (aK (bV 2 aP) (aA bN (aA iY aN))) ae) aN)) ag) (jV (cZ (aA dO (aA (b2 getD fV bK) (aA (b2 getD fV cJ) (aA (aK (bV 2 j8) (aA bN (aA fV aN))) aN))))) ag)))
def g8:aa D->Res D:=fnS 1 4 xW
abbrev m9:bP:=top 19
noncomputable def J1:af->aq:=λi=>i==1
def J2:FS:=bG (bO ae 1 (aGe (bC (.str "copy")) gG (bC (.str "drop")) bK) ae) (bG (uW (bM (b2 getD bN cJ) ag) (tg1 2) (xU 1 (b2 getD fV bK) (aK dR (aA (b2 getD fV gG) aN)))) (bG (uW (bM (b2 getD bN gG) ag) (tg1 3) (xU 1 (b2 getD dO bK) (b2 (a_ .add) (aK dR (aA (b2 getD dO lY) aN)) cJ))) (YZ 1)))
def iC:aa D->Res D:=fnS 1 4 J2
abbrev m_:bP:=top 16
noncomputable def J3:af->aq:=λi=>ag
def J4:FS:=jV (zY (b1 (mU .int) bN) (aJf (b1 (mU .bool) bN))) ae
def cV:aa D->Res D:=fnS 1 1 J4
abbrev tL:bP:=top 17
noncomputable def V_:af->aq:=λi=>ag
def WD:FS:=jV (zY (b1 (mU .tuple) bN) (zY (b2 (b7 .eq) (aK dR (aA bN aN)) gG) (zY (aK (bV 1 cV) (aA (b2 getD bN bK) aN)) (aK (bV 1 cV) (aA (b2 getD bN cJ) aN))))) ae
def gU:aa D->Res D:=fnS 1 1 WD
abbrev iD:bP:=top 18
noncomputable def J5:af->aq:=λi=>i==6
def uG:FS:=bG (sIf (bOr (wB (bTr (b1 (mU .tuple) bN))) (bTB (b2 (b7 .ne) (aK dR (aA bN aN)) lY))) (jV (bC .non) ae) mG) (bG (sIf (bOr (wB (bTr (b1 (mU .tuple) (b2 getD bN bK)))) (bOr (wB (bTr (b1 (mU .tuple) (b2 getD bN cJ)))) (wB (bTr (aK (bV 1 cV) (aA (b2 getD bN gG) aN)))))) (jV (bC .non) ae) mG) (bG (bO ag 3 (cY 9 (gP (aA fV aN) kO) gQ dC (cZ (aA bK (aA sG aN))) ag) ae) (bG (bO ag 4 bK ae) (bG (uW (bM (b2 getD bN bK) ag) (tg1 5) (bG (sIf (bOr (wB (bTr (b1 (mU .tuple) eV))) (bOr (bTB (b2 (b7 .ne) (aK dR (aA eV aN)) gG)) (bOr (wB (bTr (aK (bV 1 cV) (aA (b2 getD eV bK) aN)))) (bTB (b2 (b7 (.ord .le)) (b2 getD eV bK) iY))))) (jV (bC .non) ae) mG) (bG (sIf (bOr (wB (bTr (b1 (mU .str) (b2 getD eV cJ)))) (bTB (b2 (b7 .notin) (b2 getD eV cJ) eY))) (jV (bC .non) ae) mG) (bG (bO ag 4 (b2 getD eV bK) ag) (bO ag 3 (b2 (a_ .add) dO (cY 9 (gP (aA (b2 (a_ .add) (b2 getD eY (b2 getD eV cJ)) cJ) aN) kO) gQ dC (cZ (aA iY (aA sG aN))) ag)) ae))))) (bG (bO ae 6 (bC (.dct [])) ae) (bG (uW (bM (b2 getD bN cJ) ag) (tg1 7) (bG (sIf (bOr (wB (bTr (b1 (mU .tuple) fB))) (bOr (bTB (b2 (b7 .ne) (aK dR (aA fB aN)) gG)) (bOr (wB (bTr (aK (bV 1 gU) (aA (b2 getD fB bK) aN)))) (wB (bTr (aK (bV 1 gU) (aA (b2 getD fB cJ) aN))))))) (jV (bC .non) ae) mG) (bG (sIf (bOr (bTB (b2 (b7 (.ord .ge)) (b2 getD fB bK) (b2 getD fB cJ))) (bOr (bTB (b2 inX (b2 getD fB bK) mF)) (bTB (b2 inX (b2 getD fB cJ) mF)))) (jV (bC .non) ae) mG) (bG (xU 6 (b2 getD fB bK) (b2 getD fB cJ)) (xU 6 (b2 getD fB cJ) (b2 getD fB bK)))))) (bG (sIf (bOr (bTB (b2 (b7 .ne) (aK aI6 (aA mF aN)) (aK dR (aA dO aN)))) (bTB (b2 (b7 .ne) (aK YX (aA (b2 getD bN cJ) aN)) (aK m8 (aA (b2 getD bN cJ) aN))))) (jV (bC .non) ae) mG) (bG (wF 3 (tg1 8) (sIf (bTB (b2 (b7 .notin) n_ mF)) (jV (bC .non) ae) mG)) (YZ 6)))))))))
def iG:aa D->Res D:=fnS 3 9 uG
abbrev iH:bP:=top 21
noncomputable def J6:af->aq:=λi=>i==8||i==10||i==11
def uH:FS:=bG (bO ag 4 (aK (bV 1 iC) (aA dO aN)) ae) (bG (bO ag 5 (aK (bV 3 iG) (aA bN (aA iY (aA (b2 (a_ .add) (aK dR (aA fV aN)) cJ) aN)))) ae) (bG (sIf (bOr (bTB (b2 (b7 .isN) eV (bC .non))) (bTB (b2 (b7 .ne) (b2 getD bN gG) bK))) (jV (bC (.bl ag)) ae) mG) (bG (bO ag 6 (cY 16 (bM (b2 getD dO gG) ag) gQ dC (b2 getD uU bK) ag) ae) (bG (bO ag 7 (b1 tK (b2 getD bN bK)) ae) (bG (bO ae 8 (bC (.dct [])) ae) (bG (wF 2 (tg1 9) (xU 8 sG (oR aN))) (bG (bO ae 10 (oR (aA (cZ (aA bK (aA bK aN))) aN)) ae) (bG (bO ae 11 (bC (.dct [])) ae) (bG (wF 1 (tg1 12) (bG (PP 10 13 bK) (bG (sIf (bTB (b2 inX fC n_)) (bG (xU 8 fC (b2 (a_ .add) (b2 getD n_ fC) (n6 (aA xT aN)))) (sCt)) mG) (bG (bO ag 14 (b2 getD eV xT) ag) (bG (sIf (bOr (bTB (b2 (b7 .eq) (b2 getD iK bK) bK)) (bOr (bTB (b2 inX (b2 getD iK bK) mC)) (bOr (bTB (b2 (b7 .ne) (b2 getD fB (b2 getD iK bK)) fC)) (bTB (b2 (b7 .ne) (b2 getD iK cJ) (aK aKh (aA (b2 inX fC mF) aN))))))) (jV (bC (.bl ag)) ae) mG) (bG (xU 11 (b2 getD iK bK) (bC (.bl ae))) (bO ae 10 (b2 (a_ .add) (cY 16 (gP (aA (b2 (a_ .add) (b2 getD iY fC) cJ) aN) kO) gQ (bTB (b2 (b7 .ne) uU (b2 getD iK cJ))) (cZ (aA (b2 getD iK bK) (aA uU aN))) ag) jW) ae))))))) (bG (uW (aAd fV) (tgN [15,9]) aG2) (jV (b2 (b7 .eq) (aK aCj (aA mC aN)) (aK dR (aA (b2 getD bN bK) aN))) ae)))))))))))
def j9:aa D->Res D:=fnS 4 16 uH
abbrev nU:bP:=top 1
noncomputable def WF:af->aq:=λi=>ag
def WK:FS:=bG (bO ag 3 (cY 4 (bM eY ag) (aLw 2) dC (cZ (aA (aK (lW .lt) (aA iY (aA eV aN))) (aA (aK (lW .gt) (aA iY (aA eV aN))) aN))) ag) ae) (jV (cZ (aA (aK fX (aA (aK lN (aA bN aN)) aN)) (aA (aK fX (aA (aK lN (aA dO aN)) aN)) (aA fV aN)))) ag)
def lF:aa D->Res D:=fnS 3 4 WK
abbrev tM:bP:=top 3
noncomputable def WL:af->aq:=λi=>i==1
def WM:FS:=bG (bO ae 1 (bC (.dct [])) ae) (bG (uW (bM (b2 getD bN cJ) ag) (tgN [2,3,4]) (xU 1 fV (cZ (aA dO (aA iY aN))))) (bG (uW (bM (b2 getD bN gG) ag) (tgN [2,3,5,6]) (xU 1 fV (cZ (aA dO (aA (b2 LR (cZ (aA eV aN)) mF) aN))))) (YZ 1)))
def lG:aa D->Res D:=fnS 1 7 WM
abbrev uI:bP:=rowOf (top 7) 0
def uJ:aa (Str×Srx):=[("heads",.exp (aK (bV 1 lG) (aA eY aN))),("takers",.exp (b1 uB (cY 2 (bM (b2 getD eY gG) ag) gQ dC (cZ (aA (b2 getD fV bK) (aA (bC (.bl ae)) aN))) ag))),("pieces",.exp (oR aN)),("ties",.exp (oR aN))]
abbrev fJ:bP:=rowOf (top 7) 1
noncomputable def QK:af->aq:=λi=>i==2||i==3||i==1000000
def QL:FS:=bG (bO ag 4 (b2 (a_ .add) (aK dR (aA (aEa 2 (yV "Loom" "pieces" bN)) aN)) cJ) ae) (bG (QD 2 (yV "Loom" "pieces" bN) (cZ (aA iY (aA eY aN)))) (VH iY ag))
def fK:aa D->Res D:=fnG 2 5 QL
abbrev DX:bP:=rowOf (top 7) 2
noncomputable def aNi:af->aq:=λi=>i==3||i==4||i==1000000
def aNj:FS:=bG (V6 ag 5 (wW "Loom" "add_piece" fK 2 0 3 (aA eY aN))) (bG (bO ag 6 (aK dR (aA (b2 getD (b2 getD (yV "Loom" "heads" bN) eY) cJ) aN)) ae) (bG (sIf (bTB (b2 inX eY (yV "Loom" "takers" bN))) (bG (QD 4 (yV "Loom" "ties" bN) (cZ (aA (cZ (aA eV (aA cJ aN))) (aA fV aN)))) (VH (b2 (a_ .add) (n6 (aA (cZ (aA eV (aA bK aN))) aN)) (cY 7 (gP (aA gG (aA (b2 (a_ .add) mF cJ) aN)) H_) gQ dC (cZ (aA eV (aA fB aN))) ag)) ae)) mG) (bG (QD 4 (yV "Loom" "ties" bN) (cZ (aA (cZ (aA eV (aA bK aN))) (aA fV aN)))) (VH (cY 7 (gP (aA cJ (aA (b2 (a_ .add) mF cJ) aN)) H_) gQ dC (cZ (aA eV (aA fB aN))) ag) ae))))
def QM:aa D->Res D:=fnG 3 7 aNj
abbrev fM:bP:=top 6
noncomputable def J7:af->aq:=λi=>i==3||i==4||i==7
def uK:FS:=aKp 5 3 "Loom" uJ 1 (aA bN aN) (bG (bO ag 6 (b1 uB (cY 12 (bM fV ag) gQ dC (cZ (aA fC (aA (oR aN) aN))) ag)) ae) (bG (bO ae 7 (oR (aA (cZ (aA bK (aA bK aN))) aN)) ae) (bG (wF 1 (tg1 8) (bG (PQ 7 9) (sIf (bTB (b2 inX n_ mF)) aG2 (aAh 7 (xLR (wW "Loom" "lay" QM 3 5 3 (aA n_ (aA sG aN)))))))) (bG (uW (aAk fV) (tgN [10,11]) aG2) (jV (aK (bV 3 lF) (aA (aEa 3 (yV "Loom" "pieces" eV)) (aA (aEa 4 (yV "Loom" "ties" eV)) (aA bK aN)))) ae)))))
def nA:aa D->Res D:=fnS 3 12 uK
abbrev QR:bP:=top 5
noncomputable def aGx:af->aq:=λi=>ag
def aGy:FS:=jV (aK (bV 3 nA) (aA bN (aA eY (aA (cZ aN) aN)))) ae
def DY:aa D->Res D:=fnS 2 2 aGy
abbrev D_:bP:=top 22
noncomputable def o_law:af->aq:=λi=>ag
def aNk:FS:=bG (bO ag 1 (aK (bV 1 g8) (aA bN aN)) ae) (bG (bO ag 2 (b2 getD (b2 getD eY bK) (b2 (a_ .mod) (aK (bV 2 aL) (aA bN (aA (bC (.int 60)) aN))) (aK dR (aA (b2 getD eY bK) aN)))) ag) (bG (bO ag 3 (b2 (a_ .mod) (aK (bV 2 aL) (aA bN (aA (bC (.int 61)) aN))) (b2 getD (oR (aA sS (aA YT aN))) (b2 (a_ .mod) (aK (bV 2 aL) (aA bN (aA (bC (.int 62)) aN))) gG))) ae) (bG (bO ag 4 (aK (bV 7 dH) (aA bN (aA (bC (.int 400)) (aA (cZ (aA (b2 getD eY cJ) (aA (b2 getD eY gG) aN))) (aA (bC (.dct [])) (aA fV (aA (b2 (a_ .add) dO aBf) (aA dO aN)))))))) ae) (jV (aK (bV 4 j9) (aA (aK (bV 2 DY) (aA eY (aA iY aN))) (aA iY (aA (cZ aN) (aA eY aN))))) ae))))
def WN:aa D->Res D:=fnS 1 5 aNk
noncomputable abbrev wY:aa Str:=["script","k","cell","mixed"]
noncomputable abbrev wZ:aa Str:=["script","i","letters","draw","pad","place","tail"]
noncomputable abbrev jE:aa Str:=["script","many","makers","j","first","i","draw","size","things"]
noncomputable abbrev jF:aa Str:=["script","many","takers","i","draw","more","kinds"]
noncomputable abbrev bR:aa Str:=["script","at","book","known","kind","most","least","words","wanted","here","draw","fit","own","able","maker","taker","leaf"]
noncomputable abbrev j_:aa Str:=["script","book","rules","taker","maker","kinds","draw","names","known","words","at"]
noncomputable abbrev g_:aa Str:=["script","many","book","kinds"]
noncomputable abbrev uL:aa Str:=["program","stock","maker","taker"]
noncomputable abbrev uM:aa Str:=["found"]
noncomputable abbrev yX:aa Str:=["end"]
noncomputable abbrev fO:aa Str:=["net","stock","border","ends","last","piece","mates","tie","end"]
noncomputable abbrev fP:aa Str:=["net","words","names","program","stock","mates","takers","kinds","places","name","waiting","seen","word","place","at","k"]
noncomputable abbrev lH:aa Str:=["pieces","ties","rings","rows"]
noncomputable abbrev yZ:aa Str:=["program","heads","name","kind","parts","taken","more"]
noncomputable abbrev iI:aa Str:=["program","words","variables","#0","#1","loom","places","waiting","word","place","k","name"]
noncomputable abbrev aAl:aa Str:=["program","words"]
noncomputable abbrev aKu:aa Str:=["script","program","kind","least","words"]
theorem J8:cF wY ["script","k"] (aO oM):=by refine⟨rfl,rfl,rfl,?_,rfl,?_,?_⟩<;>decide +kernel
theorem J9:cF wZ ["script","i"] (aO oN):=by refine⟨rfl,rfl,rfl,?_,rfl,?_,?_⟩<;>decide +kernel
theorem xX:cF jE ["script","many"] (aO jA):=by refine⟨rfl,rfl,rfl,?_,rfl,?_,?_⟩<;>decide +kernel
theorem xY:cF jF ["script","many"] (aO jC):=by refine⟨rfl,rfl,rfl,?_,rfl,?_,?_⟩<;>decide +kernel
theorem EY:cF bR ["script","at","book","known","kind","most","least"] (aO cC):=by refine⟨rfl,rfl,rfl,?_,rfl,?_,?_⟩<;>decide +kernel
theorem E_:cF j_ ["script","book"] (aO j7):=by refine⟨rfl,rfl,rfl,?_,rfl,?_,?_⟩<;>decide +kernel
theorem xF:cF g_ ["script"] (aO gZ):=by refine⟨rfl,rfl,rfl,?_,rfl,?_,?_⟩<;>decide +kernel
theorem FJ:cF uL ["program"] (aO m9):=by refine⟨rfl,rfl,rfl,?_,rfl,?_,?_⟩<;>decide +kernel
theorem FN:cF uM ["found"] (aO m_):=by refine⟨rfl,rfl,rfl,?_,rfl,?_,?_⟩<;>decide +kernel
theorem QS:cF yX ["end"] (aO tL):=by refine⟨rfl,rfl,rfl,?_,rfl,?_,?_⟩<;>decide +kernel
theorem FP:cF fO ["net","stock","border"] (aO iD):=by refine⟨rfl,rfl,rfl,?_,rfl,?_,?_⟩<;>decide +kernel
theorem FQ:cF fP ["net","words","names","program"] (aO iH):=by refine⟨rfl,rfl,rfl,?_,rfl,?_,?_⟩<;>decide +kernel
theorem QT:cF lH ["pieces","ties","rings"] (aO nU):=by refine⟨rfl,rfl,rfl,?_,rfl,?_,?_⟩<;>decide +kernel
theorem QV:cF yZ ["program"] (aO tM):=by refine⟨rfl,rfl,rfl,?_,rfl,?_,?_⟩<;>decide +kernel
theorem aGz:cF (["self","program"]:aa Str) ["self","program"] (aO uI):=by refine⟨rfl,rfl,rfl,?_,rfl,?_,?_⟩<;>decide +kernel
theorem J_:cF (["self","name","#0","#1","number"]:aa Str) ["self","name"] (aO fJ):=by refine⟨rfl,rfl,rfl,?_,rfl,?_,?_⟩<;>decide +kernel
theorem aKv:cF (["self","word","place","#0","#1","number","count"]:aa Str) ["self","word","place"] (aO DX):=by refine⟨rfl,rfl,rfl,?_,rfl,?_,?_⟩<;>decide +kernel
theorem FW:cF iI ["program","words","variables"] (aO fM):=by refine⟨rfl,rfl,rfl,?_,rfl,?_,?_⟩<;>decide +kernel
theorem aD3:cF aAl ["program","words"] (aO QR):=by refine⟨rfl,rfl,rfl,?_,rfl,?_,?_⟩<;>decide +kernel
theorem aKw:cF aKu ["script"] (aO D_):=by refine⟨rfl,rfl,rfl,?_,rfl,?_,?_⟩<;>decide +kernel
section
variable [KFrag] {P:bp} {w:bh} {K:Frag} {mg:Str->ax ah} {base:aI} {fad C:ak} {fd:d5} (hK:KFrag.K=K) (B:Bt mg)
include hK B
theorem FZ(F:Fun K "_law_draw" "_law_draw" oM fad fd)(hm:mg "_law_draw"=ab (.ref fad)):dI P w K mg base 1 "_law_draw" 2 aL:=by
 have sc:=J8;have nd:=sc.nd;refine jQ (ps:=["script","k"]) (N:=wY) (k:=0) F hm (F.binds λ_ _ _ _ _ _ us hl=>by obtain⟨_,_,rfl⟩:=l2 hl;rfl) sc QG 0x4 0x4 λcdv A outer s H E hr=>?_
 have hu:=yS hr;exact aH (bY aF) (aH (jX (b_ (V1 hu) (bD (cU hK) 0x3 B.len cQ (aB aC aG)) aF (cP _)) (aX (bY (bA cH (bB aC (bA cH aC (bD (cU hK) 0x3 B.len cQ (aB aC aG)))) aF))) eE) (aH (bY (bA cH (bA iM (bA bU (bA bU aC aF) (bA iM aF (bA fD aC (bD (QB 0x3) 0x3 B.max R8 (aB aF (aB (bD (cU hK) 0x3 B.len cQ (aB aC aG)) aG)))))) aF) aF)) (aX (dZ (bA cH (bA iM aC aC) aF)))))
theorem F_(p4:dI P w K mg base 1 "_law_draw" 2 aL)(F:Fun K "_law_word" "_law_word" oN fad fd)(hm:mg "_law_word"=ab (.ref fad)):dI P w K mg base 2 "_law_word" 2 aP:=by
 have sc:=J9;have nd:=sc.nd;refine jQ (ps:=["script","i"]) (N:=wZ) (k:=1) F hm (F.binds λ_ _ _ _ _ _ us hl=>by obtain⟨_,_,rfl⟩:=l2 hl;rfl) sc QH 0x4 0x4 λcdv A outer s H E hr=>?_
 have hu:=yS hr;exact aH (bY yO) (aH (jX (PW.pt (ZL (b_ (t6 hu) aC (bZ (aB aF (aB aF aG))) 0x5) (O7 (b_ (sY hu) (bA cH (aY p4 hr 0x4 0x3 (aB aC (aB aF aG))) aF) aF (cP _))))) (aX (dZ (bA bU (bB (jN (aB yO (aB yO aG))) (bA fD aC aF)) (bB aC (bA cH (aY p4 hr 0x4 0x3 (aB aC (aB aF aG))) aF))))) eE) (aH (bY (aY p4 hr 0x4 0x3 (aB aC (aB aF aG)))) (aH (bY (bB (jN (aB (bB aC (bA cH aC aF)) (aB (bB yO (bA cH (bA fD aC aF) aF)) aG))) (bA cH (bA fD aC aF) aF))) (aH (bY (bA cH (aY p4 hr 0x4 0x3 (aB aC (aB aF aG))) aF)) (aH (bY (bA cH (aY p4 hr 0x4 0x3 (aB aC (aB aF aG))) (bA ZM aF aC))) (aH (jX (b_ (sY hu) (bA cH (bA fD (aY p4 hr 0x4 0x3 (aB aC (aB aF aG))) aF) aF) aF (cP _)) (aX (bY (bA cH (aY p4 hr 0x4 0x3 (aB aC (aB (bA bU aF aC) aG))) (bA ZM aF aC)))) eE) (aX (dZ (bA bU (bA bU (bA iM aC aC) (bB aC (bA cH (bA bU aC (aY p4 hr 0x4 0x3 (aB aC (aB aF aG)))) aF))) (bA iM aC aC))))))))))
theorem xG(p4:dI P w K mg base 1 "_law_draw" 2 aL)(p6:dI P w K mg base 2 "_law_word" 2 aP)(F:Fun K "_law_makers" "_law_makers" jA fad fd)(hm:mg "_law_makers"=ab (.ref fad)):dI P w K mg base 3 "_law_makers" 2 jB:=by
 have sc:=xX;have nd:=sc.nd;refine jQ (ps:=["script","many"]) (N:=jE) (k:=2) F hm (F.binds λ_ _ _ _ _ _ us hl=>by obtain⟨_,_,rfl⟩:=l2 hl;rfl) sc DP 0x4 0x4 λcdv A outer s H E hr=>?_
 have hu:=yS hr;exact aH (bY (jN aG)) (aH (lB fx rfl (lR 0x3 B.range (aB aC aG)) (gR rfl) (bH sc.nd rfl 0x0) (aH (bY (bZ aG)) (aH (jX (PW.pt (ZL (b_ (V1 hu) aC aF (cP _)) (O7 (b_ (V1 hu) (bA cH (bA fD (aY p4 hr 0x4 0x3 (aB aC (aB aF aG))) aC) aF) aF (cP _))))) (aX (bY (bZ (aB (aY p6 hr 0x4 0x3 (aB aC (aB aF aG))) aG)))) eE) (aH (tZ rfl rfl 0x0 (bZ (aB (aY p6 hr 0x4 0x3 (aB aC (aB (bA bU aF (bA iM aF aC)) aG))) (aB (aY p6 hr 0x4 0x3 (aB aC (aB aC aG))) (aB aC aG))))) (aX (lB fx rfl (PB 0x3 B.range (aB aF (aB (bA bU aF (bA cH (aY p4 hr 0x4 0x3 (aB aC (aB (bA bU aF (bA iM aF aC)) aG))) aF)) aG))) (gR rfl) (bH sc.nd rfl 0x0) (aH (bY (aY p4 hr 0x4 0x3 (aB aC (aB (bA bU (bA bU aF (bA iM aF aC)) aC) aG)))) (aH (bY (bB (jN (aB aF (aB (bA cH aC aF) aG))) (bA ZM aC aF))) (aH (bY (dY gY 0x3 B.tuple dN (aB (fZ (ownN:=(["p"]:aa Str)) (show cL jE (aO jA) _ (["p"]:aa Str) from by refine⟨rfl,?_,?_,?_,?_,?_,?_⟩<;>decide +kernel) rfl rfl rfl (lR 0x3 B.range (aB aC aG)) (d_ 9) (λ_=>bH (show((e6 (gJ (["p"]:aa Str)) jE++(["p"]:aa Str)):aa Str).Nodup from by decide +kernel) rfl 0x0) (λ_=>aY p6 hr 0x4 0x3 (aB aC (aB (bA cH (bA fD aC (bA bU aF (bA iM aF aC))) aC) aG))) (λ_=>rfl)) aG))) (aX (tZ rfl rfl 0x0 (bZ (aB (aY p6 hr 0x4 0x3 (aB aC (aB (bA bU (bA bU aF (bA iM aF aC)) aC) aG))) (aB (aY p6 hr 0x4 0x3 (aB aC (aB aC aG))) (aB aC aG))))))))))))))) (aX (dZ (dY gY 0x3 B.tuple dN (aB aC aG)))))
theorem xH(p4:dI P w K mg base 1 "_law_draw" 2 aL)(p6:dI P w K mg base 2 "_law_word" 2 aP)(F:Fun K "_law_takers" "_law_takers" jC fad fd)(hm:mg "_law_takers"=ab (.ref fad)):dI P w K mg base 3 "_law_takers" 2 jD:=by
 have sc:=xY;have nd:=sc.nd;refine jQ (ps:=["script","many"]) (N:=jF) (k:=2) F hm (F.binds λ_ _ _ _ _ _ us hl=>by obtain⟨_,_,rfl⟩:=l2 hl;rfl) sc DR 0x4 0x4 λcdv A outer s H E hr=>?_
 have hu:=yS hr;exact aH (bY (jN aG)) (aH (lB fx rfl (lR 0x3 B.range (aB (bA cH (aY p4 hr 0x4 0x3 (aB aC (aB aF aG))) aF) aG)) (gR rfl) (bH sc.nd rfl 0x0) (aH (bY (aY p4 hr 0x4 0x3 (aB aC (aB (bA bU aF aC) aG)))) (aH (bY (dY gY 0x3 B.tuple dN (aB (fZ (ownN:=(["p"]:aa Str)) (show cL jF (aO jC) _ (["p"]:aa Str) from by refine⟨rfl,?_,?_,?_,?_,?_,?_⟩<;>decide +kernel) rfl rfl rfl (lR 0x3 B.range (aB (bA cH (bA fD aC aF) aF) aG)) (d_ 7) (λ_=>bH (show((e6 (gJ (["p"]:aa Str)) jF++(["p"]:aa Str)):aa Str).Nodup from by decide +kernel) rfl 0x0) (λ_=>aY p6 hr 0x4 0x3 (aB aC (aB (bA cH (bA fD aC (bA bU aF (bA iM aF aC))) aC) aG))) (λ_=>rfl)) aG))) (aH (bY (bZ (aB (aY p6 hr 0x4 0x3 (aB aC (aB (bA cH aC aC) aG))) (aB (aY p6 hr 0x4 0x3 (aB aC (aB (bA cH (bA fD aC aF) aC) aG))) aG)))) (aX (tZ rfl rfl 0x0 (bA CW (bA CW (bZ (aB (aY p6 hr 0x4 0x3 (aB aC (aB (bA bU aF aC) aG))) aG)) aC) (bZ (aB aC aG))))))))) (aX (dZ (dY gY 0x3 B.tuple dN (aB aC aG)))))
theorem xZ(p4:dI P w K mg base 1 "_law_draw" 2 aL){T:ak}{its:aw ah}(F:aN3 K "_law_words" "_law_words" cC fad fd T its):uQ P w K mg base CX0 2 fad fd ["script","at","book","known","kind","most","least"] (spD dH 7):=by
 have sc:=EY;have nd:=sc.nd;refine aK9 (ps:=["script","at","book","known","kind","most","least"]) (N:=bR) (k:=1) F sc JX 0x4 λcdv A outer s H E hr=>?_
 have hu:=yS hr
 exact aH (bY (jN aG)) (aH (bY (tE (aB (bZ (aB aC (aB BR aG))) aG))) (aH (aKa fx (b_ (V1 hu) (bD (cU hK) 0x3 B.len cQ (aB aC aG)) aF (cP _)) (aH (aA3 rfl rfl 0x0 sc.nd rfl 0x0 rfl aF) (aH (bY (aY p4 hr 0x4 0x3 (aB aC (aB (bA bU aC (bD (cU hK) 0x3 B.len cQ (aB aC aG))) aG)))) (aH (aCn (show cL bR (aO cC) _ (["x"]:aa Str) from by refine⟨rfl,?_,?_,?_,?_,?_,?_⟩<;>decide +kernel) rfl rfl rfl 0x0 (λ_=>bH (show((e6 (gJ (["x"]:aa Str)) bR++(["x"]:aa Str)):aa Str).Nodup from by decide +kernel) rfl 0x0) (λ_=>b_ (sY hu) (bB aC aC) (bB aC aF) (cP _)) (λ_=>aC) (λ_=>rfl) rfl sc.nd rfl 0x0 (kF rfl) 0x5) (aH (yR (ownN:=(["x"]:aa Str)) (show cL bR (aO cC) _ (["x"]:aa Str) from by refine⟨rfl,?_,?_,?_,?_,?_,?_⟩<;>decide +kernel) rfl rfl rfl (eG (bB aC aF)) (d_ 17) (λ_=>bH (show((e6 (gJ (["x"]:aa Str)) bR++(["x"]:aa Str)):aa Str).Nodup from by decide +kernel) rfl 0x0) (λ_=>b_ (sY hu) (bB aC aF) (bB aC aF) (cP _)) (λ_=>aC) (λ_=>rfl) rfl sc.nd rfl 0x0 (kF rfl) 0x5) (aH (yR (ownN:=(["x"]:aa Str)) (show cL bR (aO cC) _ (["x"]:aa Str) from by refine⟨rfl,?_,?_,?_,?_,?_,?_⟩<;>decide +kernel) rfl rfl rfl (eG (bB aC aF)) (d_ 17) (λ_=>bH (show((e6 (gJ (["x"]:aa Str)) bR++(["x"]:aa Str)):aa Str).Nodup from by decide +kernel) rfl 0x0) (λ_=>b_ (sY hu) (bB aC aF) (bB aC aF) (cP _)) (λ_=>aC) (λ_=>rfl) rfl sc.nd rfl 0x0 (kF rfl) 0x5) (aX (jX (PW.pt (ZL (b_ (aJr hu) (bD (cU hK) 0x3 B.len cQ (aB aC aG)) aC (cP _)) (O7 (b_ (sY hu) (bD (cU hK) 0x3 B.len cQ (aB aC aG)) aF (cP _))))) (aH (tZ rfl rfl 0x0 (bB (bB aC aF) aF)) (aX (bY (tE (aB (bZ (aB (bB (bB (bB aC aF) aF) aF) (aB BR aG))) aG))))) (aX (jX (PW.pt (kZ (mV (bB aC aF)) (kZ (b_ (aJs hu) (bA bU (bD (cU hK) 0x3 B.len cQ (aB aC aG)) (bD (cU hK) 0x3 B.len cQ (aB aC aG))) aC (cP _)) (mW (b_ (sY hu) (bA cH aC aF) aF (cP _)))))) (aH (tZ rfl rfl 0x0 (bB (bA bU aC (tE (aB (bB (bB aC aF) aF) aG))) (bA cH (bA fD aC aF) (bD (QB 0x3) 0x3 B.max R8 (aB aF (aB (bD (cU hK) 0x3 B.len cQ (aB aC aG)) aG)))))) (aX (jX (b_ (sY hu) (bD (cU hK) 0x3 B.len cQ (aB aC aG)) aF (cP _)) (aX (bY (bA bU (fZ (ownN:=(["x"]:aa Str)) (show cL bR (aO cC) _ (["x"]:aa Str) from by refine⟨rfl,?_,?_,?_,?_,?_,?_⟩<;>decide +kernel) rfl rfl rfl (eG (bB (bB aC aF) aF)) (d_ 17) (λ_=>bH (show((e6 (gJ (["x"]:aa Str)) bR++(["x"]:aa Str)):aa Str).Nodup from by decide +kernel) rfl 0x0) (λ_=>bZ (aB aC (aB BR aG))) (λ_=>rfl)) aC))) eE))) (aX (jX (PW.pt (kZ (b_ (aJr hu) (bA cH aC aF) aF (cP _)) (mW (b_ (sY hu) (bD (cU hK) 0x3 B.len cQ (aB aC aG)) aF (cP _))))) (aH (bY (bB aC (bA cH (bA fD aC aF) (bD (cU hK) 0x3 B.len cQ (aB aC aG))))) (aH (tZ rfl rfl 0x0 (bB aC aF)) (aX (bY (bA bU (fZ (ownN:=(["x"]:aa Str)) (show cL bR (aO cC) _ (["x"]:aa Str) from by refine⟨rfl,?_,?_,?_,?_,?_,?_⟩<;>decide +kernel) rfl rfl rfl (eG (bB aC aF)) (d_ 17) (λ_=>bH (show((e6 (gJ (["x"]:aa Str)) bR++(["x"]:aa Str)):aa Str).Nodup from by decide +kernel) rfl 0x0) (λ_=>bZ (aB aC (aB BR aG))) (λ_=>rfl)) aC))))) (aH (bY (bB aC (bA cH (bA fD aC aF) (bD (cU hK) 0x3 B.len cQ (aB aC aG))))) (aH (tZ rfl rfl 0x0 (bB aC aF)) (aH (bY (I_ (IW (V1 hu) (bD (aA2 hK) 0x3 B.len cQ (aB aC aG)) aF (cP _)) (ZJ (IW (V1 hu) (bA cH (bA fD aC aF) aF) aF (cP _))))) (aX (bY (bA bU (bA bU (tE (aB (bZ (aB (bB aC aF) (aB aC aG))) aG)) (fZ (ownN:=(["x"]:aa Str)) (show cL bR (aO cC) _ (["x"]:aa Str) from by refine⟨rfl,?_,?_,?_,?_,?_,?_⟩<;>decide +kernel) rfl rfl rfl (eG (bB aC aF)) (d_ 17) (λ_=>bH (show((e6 (gJ (["x"]:aa Str)) bR++(["x"]:aa Str)):aa Str).Nodup from by decide +kernel) rfl 0x0) (λ_=>bZ (aB aC (aB BR aG))) (λ_=>rfl))) aC)))))))))))))))))) (aX (dZ (dY gY 0x3 B.tuple dN (aB aC aG))))))
theorem x_(p4:dI P w K mg base 1 "_law_draw" 2 aL)(p6:dI P w K mg base 2 "_law_word" 2 aP)(pJ:aI4 P w K mg base 2 "_law_words" "least" 6 (.int 0) dH)(F:Fun K "_law_rules" "_law_rules" j7 fad fd)(hm:mg "_law_rules"=ab (.ref fad)):dI P w K mg base 3 "_law_rules" 2 j8:=by
 have sc:=E_;have nd:=sc.nd;refine jQ (ps:=["script","book"]) (N:=j_) (k:=2) F hm (F.binds λ_ _ _ _ _ _ us hl=>by obtain⟨_,_,rfl⟩:=l2 hl;rfl) sc JZ 0x4 0x4 λcdv A outer s H E hr=>?_
 have hu:=yS hr;exact aH (bY (jN aG)) (aH (lB fx rfl (eG (bB aC aF)) (gR rfl) (bH sc.nd rfl 0x0) (aX (lB fx rfl (eG (bB aC aF)) (gR rfl) (bH sc.nd rfl 0x0) (aX (jX (b_ (sY hu) (bB aC aF) (bB aC aF) (cP _)) (aH (bY (bA CW (bB aC aF) (bB aC aF))) (aH (bY (aY p4 hr 0x4 0x3 (aB aC (aB (bA bU aF (bD (cU hK) 0x3 B.len cQ (aB aC aG))) aG)))) (aH (vB (ownN:=(["i"]:aa Str)) (show cL j_ (aO j7) _ (["i"]:aa Str) from by refine⟨rfl,?_,?_,?_,?_,?_,?_⟩<;>decide +kernel) rfl rfl rfl (lR 0x3 B.range (aB (bD (cU hK) 0x3 B.len cQ (aB aC aG)) aG)) (d_ 11) (λ_=>bH (show((e6 (gJ (["i"]:aa Str)) j_++(["i"]:aa Str)):aa Str).Nodup from by decide +kernel) rfl 0x0) (λ_=>aY p6 hr 0x4 0x3 (aB aC (aB (bA bU aF (bA cH (bA bU aC aC) aF)) aG))) (λ_=>rfl) rfl sc.nd rfl 0x0 (kF rfl) 0x5) (aH (bY (dY gY 0x3 B.tuple dN (aB (bB (jN (aB aC (aB (aKb aC) aG))) (bA cH (bA fD aC aF) aF)) aG))) (aH (bY (aG9 0x3 B.dict 0x3 B.zip (aB aC (aB aC aG)))) (aH (bY (aA1 pJ hr 0x4 0x3 (aB aC (aB (bA bU aF (bA iM aF (bD (cU hK) 0x3 B.len cQ (aB aC aG)))) (aB aC (aB aC (aB (bB aC aF) (aB aF aG)))))))) (aX (tZ rfl rfl 0x0 (bZ (aB (bB aC aF) (aB (bB aC aF) (aB aC (aB aC aG))))))))))))) eE))))) (aH (bY (bA cH (aY p4 hr 0x4 0x3 (aB aC (aB aF aG))) (bD (QB 0x3) 0x3 B.max R8 (aB aF (aB (bD (cU hK) 0x3 B.len cQ (aB aC aG)) aG))))) (aX (dZ (dY gY 0x3 B.tuple dN (aB (bA bU (aE2 hK aC (ZV aC) (ZR)) (aE2 hK aC (ZR) (ZV aC))) aG))))))
theorem uY(p4:dI P w K mg base 1 "_law_draw" 2 aL)(qz:dI P w K mg base 3 "_law_takers" 2 jD)(qA:dI P w K mg base 3 "_law_makers" 2 jB)(p6:dI P w K mg base 2 "_law_word" 2 aP)(qB:dI P w K mg base 3 "_law_rules" 2 j8)(F:Fun K "_law_program" "_law_program" gZ fad fd)(hm:mg "_law_program"=ab (.ref fad)):dI P w K mg base 4 "_law_program" 1 g8:=by
 have sc:=xF;have nd:=sc.nd;refine jQ (ps:=["script"]) (N:=g_) (k:=3) F hm (F.binds λ_ _ _ _ _ _ us hl=>by obtain⟨_,rfl⟩:=l1 hl;rfl) sc xV 0x4 0x4 λcdv A outer s H E hr=>?_
 have hu:=yS hr;exact aH (bY (bA bU aF (bA cH (aY p4 hr 0x4 0x3 (aB aC (aB aF aG))) aF))) (aH (bY (bZ (aB (aY qA hr 0x4 0x3 (aB aC (aB aC aG))) (aB (aY qz hr 0x4 0x3 (aB aC (aB aC aG))) aG)))) (aH (bY (dY gY 0x3 B.tuple dN (aB (fZ (ownN:=(["j"]:aa Str)) (show cL g_ (aO gZ) _ (["j"]:aa Str) from by refine⟨rfl,?_,?_,?_,?_,?_,?_⟩<;>decide +kernel) rfl rfl rfl (lR 0x3 B.range (aB aC aG)) (d_ 4) (λ_=>bH (show((e6 (gJ (["j"]:aa Str)) g_++(["j"]:aa Str)):aa Str).Nodup from by decide +kernel) rfl 0x0) (λ_=>aY p6 hr 0x4 0x3 (aB aC (aB aC aG))) (λ_=>rfl)) aG))) (aX (dZ (bZ (aB aC (aB (bB aC aF) (aB (bB aC aF) (aB (aY qB hr 0x4 0x3 (aB aC (aB aC aG))) aG)))))))))
theorem yC(F:Fun K "_law_stock" "_law_stock" m9 fad fd)(hm:mg "_law_stock"=ab (.ref fad)):dI P w K mg base 1 "_law_stock" 1 iC:=by
 have sc:=FJ;have nd:=sc.nd;refine jQ (ps:=["program"]) (N:=uL) (k:=0) F hm (F.binds λ_ _ _ _ _ _ us hl=>by obtain⟨_,rfl⟩:=l1 hl;rfl) sc J1 0x4 0x4 λcdv A outer s H E hr=>?_
 have hu:=yS hr;exact aH (bY (aGf yO aF yO aF)) (aH (lB fx rfl (eG (bB aC aF)) (gR rfl) (bH sc.nd rfl 0x0) (aX (rP hu rfl rfl 0x0 (bB aC aF) (bD (cU hK) 0x3 B.len cQ (aB (bB aC aF) aG))))) (aH (lB fx rfl (eG (bB aC aF)) (gR rfl) (bH sc.nd rfl 0x0) (aX (rP hu rfl rfl 0x0 (bB aC aF) (bA bU (bD (cU hK) 0x3 B.len cQ (aB (bB aC aF) aG)) aF)))) (aX (PK rfl rfl 0x0))))
theorem yD(F:Fun K "_law_whole" "_law_whole" m_ fad fd)(hm:mg "_law_whole"=ab (.ref fad)):dI P w K mg base 1 "_law_whole" 1 cV:=by
 have sc:=FN;have nd:=sc.nd;refine jQ (ps:=["found"]) (N:=uM) (k:=0) F hm (F.binds λ_ _ _ _ _ _ us hl=>by obtain⟨_,rfl⟩:=l1 hl;rfl) sc J3 0x4 0x4 λcdv A outer s H E hr=>?_
 have hu:=yS hr;exact aX (dZ (I_ (o_ .int aC 0x3 B.isi cT 0x3 B.int aE1) (ZJ (aJn (o_ .bool aC 0x3 B.isi cT 0x3 B.bool aG3)))))
theorem KC(p9:dI P w K mg base 1 "_law_whole" 1 cV)(F:Fun K "_law_end" "_law_end" tL fad fd)(hm:mg "_law_end"=ab (.ref fad)):dI P w K mg base 2 "_law_end" 1 gU:=by
 have sc:=QS;have nd:=sc.nd;refine jQ (ps:=["end"]) (N:=yX) (k:=1) F hm (F.binds λ_ _ _ _ _ _ us hl=>by obtain⟨_,rfl⟩:=l1 hl;rfl) sc V_ 0x4 0x4 λcdv A outer s H E hr=>?_
 have hu:=yS hr;exact aX (dZ (I_ (o_ .tuple aC 0x3 B.isi cT 0x3 B.tuple dN) (I_ (IW (sY hu) (bD (cU hK) 0x3 B.len cQ (aB aC aG)) aF (cP _)) (I_ (aY p9 hr 0x4 0x3 (aB (bB aC aF) aG)) (ZJ (aY p9 hr 0x4 0x3 (aB (bB aC aF) aG)))))))
theorem yE(p9:dI P w K mg base 1 "_law_whole" 1 cV)(qt:dI P w K mg base 2 "_law_end" 1 gU)(F:Fun K "_law_mates" "_law_mates" iD fad fd)(hm:mg "_law_mates"=ab (.ref fad)):dI P w K mg base 3 "_law_mates" 3 iG:=by
 have sc:=FP;have nd:=sc.nd;refine jQ (ps:=["net","stock","border"]) (N:=fO) (k:=2) F hm (F.binds λ_ _ _ _ _ _ us hl=>by obtain⟨_,_,_,rfl⟩:=l3 hl;rfl) sc J5 0x4 0x4 λcdv A outer s H E hr=>?_
 have hu:=yS hr
 exact aH (jX (PW.pt (kZ (oE (mV (o_ .tuple aC 0x3 B.isi cT 0x3 B.tuple dN))) (mW (b_ (BV hu) (bD (cU hK) 0x3 B.len cQ (aB aC aG)) aF (cP _))))) (aX (dZ o8)) eE) (aH (jX (PW.pt (kZ (oE (mV (o_ .tuple (bB aC aF) 0x3 B.isi cT 0x3 B.tuple dN))) (kZ (oE (mV (o_ .tuple (bB aC aF) 0x3 B.isi cT 0x3 B.tuple dN))) (mW (oE (mV (aY p9 hr 0x4 0x3 (aB (bB aC aF) aG)))))))) (aX (dZ o8)) eE) (aH (vB (ownN:=(["k"]:aa Str)) (show cL fO (aO iD) _ (["k"]:aa Str) from by refine⟨rfl,?_,?_,?_,?_,?_,?_⟩<;>decide +kernel) rfl rfl rfl (lR 0x3 B.range (aB aC aG)) (d_ 9) (λ_=>bH (show((e6 (gJ (["k"]:aa Str)) fO++(["k"]:aa Str)):aa Str).Nodup from by decide +kernel) rfl 0x0) (λ_=>bZ (aB aF (aB aC aG))) (λ_=>rfl) rfl sc.nd rfl 0x0 (kF rfl) 0x5) (aH (bY aF) (aH (lB fx rfl (eG (bB aC aF)) (gR rfl) (bH sc.nd rfl 0x0) (aH (jX (PW.pt (kZ (oE (mV (o_ .tuple aC 0x3 B.isi cT 0x3 B.tuple dN))) (kZ (b_ (BV hu) (bD (cU hK) 0x3 B.len cQ (aB aC aG)) aF (cP _)) (kZ (oE (mV (aY p9 hr 0x4 0x3 (aB (bB aC aF) aG)))) (mW (b_ (aMu hu) (bB aC aF) aC (cP _))))))) (aX (dZ o8)) eE) (aH (jX (PW.pt (kZ (oE (mV (o_ .str (bB aC aF) 0x3 B.isi cT 0x3 B.str aK3))) (mW (b_ (RZ hu) (bB aC aF) aC 0x5)))) (aX (dZ o8)) eE) (aH (bY (bB aC aF)) (aX (bY (bA bU aC (fZ (ownN:=(["hook"]:aa Str)) (show cL fO (aO iD) _ (["hook"]:aa Str) from by refine⟨rfl,?_,?_,?_,?_,?_,?_⟩<;>decide +kernel) rfl rfl rfl (lR 0x3 B.range (aB (bA bU (bB aC (bB aC aF)) aF) aG)) (d_ 9) (λ_=>bH (show((e6 (gJ (["hook"]:aa Str)) fO++(["hook"]:aa Str)):aa Str).Nodup from by decide +kernel) rfl 0x0) (λ_=>bZ (aB aC (aB aC aG))) (λ_=>rfl))))))))) (aH (bY (o9)) (aH (lB fx rfl (eG (bB aC aF)) (gR rfl) (bH sc.nd rfl 0x0) (aH (jX (PW.pt (kZ (oE (mV (o_ .tuple aC 0x3 B.isi cT 0x3 B.tuple dN))) (kZ (b_ (BV hu) (bD (cU hK) 0x3 B.len cQ (aB aC aG)) aF (cP _)) (kZ (oE (mV (aY qt hr 0x4 0x3 (aB (bB aC aF) aG)))) (mW (oE (mV (aY qt hr 0x4 0x3 (aB (bB aC aF) aG))))))))) (aX (dZ o8)) eE) (aH (jX (PW.pt (kZ (b_ (aJs hu) (bB aC aF) (bB aC aF) (cP _)) (kZ (b_ (t6 hu) (bB aC aF) aC 0x5) (mW (b_ (t6 hu) (bB aC aF) aC 0x5))))) (aX (dZ o8)) eE) (aH (rP hu rfl rfl 0x0 (bB aC aF) (bB aC aF)) (aX (rP hu rfl rfl 0x0 (bB aC aF) (bB aC aF))))))) (aH (jX (PW.pt (kZ (b_ (BV hu) (bD (aGw hK) 0x3 B.len cQ (aB aC aG)) (bD (cU hK) 0x3 B.len cQ (aB aC aG)) (cP _)) (mW (b_ (BV hu) (dY (aFw 0x3) 0x3 B.list Z7 (aB (bB aC aF) aG)) (bD (V9 hu) 0x3 B.sorted wQ (aB (bB aC aF) aG)) (cP _))))) (aX (dZ o8)) eE) (aH (CQ rfl fx rfl rfl 0x0 (gR rfl) (bH sc.nd rfl 0x0) (aX (jX (b_ (RZ hu) aC aC 0x5) (aX (dZ o8)) eE))) (aX (PK rfl rfl 0x0))))))))))
theorem yF(qC:dI P w K mg base 1 "_law_stock" 1 iC)(qD:dI P w K mg base 3 "_law_mates" 3 iG)(F:Fun K "_law_woven" "_law_woven" iH fad fd)(hm:mg "_law_woven"=ab (.ref fad)):dI P w K mg base 4 "_law_woven" 4 j9:=by
 have sc:=FQ;have nd:=sc.nd;refine jQ (ps:=["net","words","names","program"]) (N:=fP) (k:=3) F hm (F.binds λ_ _ _ _ _ _ us hl=>by obtain⟨_,_,_,_,rfl⟩:=l4 hl;rfl) sc J6 0x4 0x4 λcdv A outer s H E hr=>?_
 have hu:=yS hr;exact aH (bY (aY qC hr 0x4 0x3 (aB aC aG))) (aH (bY (aY qD hr 0x4 0x3 (aB aC (aB aC (aB (bA bU (bD (cU hK) 0x3 B.len cQ (aB aC aG)) aF) aG))))) (aH (jX (PW.pt (kZ (b_ aJt aC o8 (cP _)) (mW (b_ (BV hu) (bB aC aF) aF (cP _))))) (aX (dZ BR)) eE) (aH (vB (ownN:=(["taker"]:aa Str)) (show cL fP (aO iH) _ (["taker"]:aa Str) from by refine⟨rfl,?_,?_,?_,?_,?_,?_⟩<;>decide +kernel) rfl rfl rfl (eG (bB aC aF)) (d_ 16) (λ_=>bH (show((e6 (gJ (["taker"]:aa Str)) fP++(["taker"]:aa Str)):aa Str).Nodup from by decide +kernel) rfl 0x0) (λ_=>bB aC aF) (λ_=>rfl) rfl sc.nd rfl 0x0 (kF rfl) 0x5) (aH (bY (V8 0x3 0x3 B.dict (bB aC aF))) (aH (bY (o9)) (aH (CQ rfl fx rfl rfl 0x0 (gR rfl) (bH sc.nd rfl 0x0) (aX (rP hu rfl rfl 0x0 aC (jN aG)))) (aH (bY (jN (aB (bZ (aB aF (aB aF aG))) aG))) (aH (bY (o9)) (aH (CQ rfl fx rfl rfl 0x0 (gR rfl) (bH sc.nd rfl 0x0) (aH (aA3 rfl rfl 0x0 sc.nd rfl 0x0 rfl aF) (aH (jX (b_ (t6 hu) aC aC 0x5) (aH (rP hu rfl rfl 0x0 aC (bA bU (bB aC aC) (tE (aB aC aG)))) (aX (aGi))) eE) (aH (bY (bB aC aC)) (aH (jX (PW.pt (kZ (b_ (sY hu) (bB aC aF) aF (cP _)) (kZ (b_ (t6 hu) (bB aC aF) aC 0x5) (kZ (b_ (BV hu) (bB aC (bB aC aF)) aC (cP _)) (mW (b_ (BV hu) (bB aC aF) (dY aGa 0x3 B.int aE1 (aB (IW (t6 hu) aC aC 0x5) aG)) (cP _))))))) (aX (dZ BR)) eE) (aH (rP hu rfl rfl 0x0 (bB aC aF) BR) (aX (bY (bA bU (V3 (ownN:=(["k"]:aa Str)) (show cL fP (aO iH) _ (["k"]:aa Str) from by refine⟨rfl,?_,?_,?_,?_,?_,?_⟩<;>decide +kernel) rfl rfl rfl (lR 0x3 B.range (aB (bA bU (bB aC aC) aF) aG)) (d_ 16) (λ_=>bH (show((e6 (gJ (["k"]:aa Str)) fP++(["k"]:aa Str)):aa Str).Nodup from by decide +kernel) rfl 0x0) (λ_=>b_ (BV hu) aC (bB aC aF) (cP _)) (λ_=>bZ (aB (bB aC aF) (aB aC aG))) (λ_=>rfl)) aC))))))))) (aH (lB fx rfl (aCt 0x3 B.enum (aB aC aG)) (CP _ 0x4) (G6 rfl (eO (bH sc.nd rfl 0x0) (eO (bH sc.nd rfl 0x0) (vK)))) (aX (Z6))) (aX (dZ (IW (sY hu) (bD (aA2 hK) 0x3 B.len cQ (aB aC aG)) (bD (cU hK) 0x3 B.len cQ (aB (bB aC aF) aG)) (cP _))))))))))))))
theorem KD(F:Fun K "arranged" "arranged" nU fad fd)(hm:mg "arranged"=ab (.ref fad)):dI P w K mg base 1 "arranged" 3 lF:=by
 have sc:=QT;have nd:=sc.nd;refine jQ (ps:=["pieces","ties","rings"]) (N:=lH) (k:=0) F hm (F.binds λ_ _ _ _ _ _ us hl=>by obtain⟨_,_,_,rfl⟩:=l3 hl;rfl) sc WF 0x4 0x4 λcdv A outer s H E hr=>?_
 have hu:=yS hr;exact aH (vB (ownN:=(["one","other"]:aa Str)) (show cL lH (aO nU) _ (["one","other"]:aa Str) from by refine⟨rfl,?_,?_,?_,?_,?_,?_⟩<;>decide +kernel) rfl rfl rfl (eG aC) (aFy _ 4 2) (λ_=>G6 rfl (eO (bH (show((e6 (gJ (["one","other"]:aa Str)) lH++(["one","other"]:aa Str)):aa Str).Nodup from by decide +kernel) rfl 0x0) (eO (bH (show((e6 (gJ (["one","other"]:aa Str)) lH++(["one","other"]:aa Str)):aa Str).Nodup from by decide +kernel) rfl 0x0) (vK)))) (λ_=>bZ (aB (bD (aGg hu 0x3) 0x3 B.min aK2 (aB aC (aB aC aG))) (aB (bD (aGh hu 0x3) 0x3 B.max R8 (aB aC (aB aC aG))) aG))) (λ_=>rfl) rfl sc.nd rfl 0x0 (kF rfl) 0x5) (aX (dZ (bZ (aB (dY gY 0x3 B.tuple dN (aB (bD (wN hu) 0x3 B.sorted wQ (aB aC aG)) aG)) (aB (dY gY 0x3 B.tuple dN (aB (bD (wN hu) 0x3 B.sorted wQ (aB aC aG)) aG)) (aB aC aG))))))
theorem KH(F:Fun K "heads_of" "heads_of" tM fad fd)(hm:mg "heads_of"=ab (.ref fad)):dI P w K mg base 1 "heads_of" 1 lG:=by
 have sc:=QV;have nd:=sc.nd;refine jQ (ps:=["program"]) (N:=yZ) (k:=0) F hm (F.binds λ_ _ _ _ _ _ us hl=>by obtain⟨_,rfl⟩:=l1 hl;rfl) sc WL 0x4 0x4 λcdv A outer s H E hr=>?_
 have hu:=yS hr;exact aH (bY (o9)) (aH (lB fx rfl (eG (bB aC aF)) (CP _ 0x4) (G6 rfl (eO (bH sc.nd rfl 0x0) (eO (bH sc.nd rfl 0x0) (eO (bH sc.nd rfl 0x0) (vK))))) (aX (rP hu rfl rfl 0x0 aC (bZ (aB aC (aB aC aG)))))) (aH (lB fx rfl (eG (bB aC aF)) (CP _ 0x4) (G6 rfl (eO (bH sc.nd rfl 0x0) (eO (bH sc.nd rfl 0x0) (eO (bH sc.nd rfl 0x0) (eO (bH sc.nd rfl 0x0) (vK)))))) (aX (rP hu rfl rfl 0x0 aC (bZ (aB aC (aB (bA CW (bZ (aB aC aG)) aC) aG)))))) (aX (PK rfl rfl 0x0))))
theorem aD4{C:ak}(qE:dI P w K mg base 1 "heads_of" 1 lG)(cls:Cls K C)(na:∀f∈uJ.map (·.1),n8 K C f)(F:Fun K "__init__" "Loom.__init__" uI fad fd):uQ P w K mg base CX0 2 fad fd ["self","program"] (aAj C uJ 1):=by
 have sc:=aGz;have nd:=sc.nd;refine aGp (N:=(["self","program"]:aa Str)) (ps:=["self","program"]) (k:=1) F sc rfl rfl cls 0x6 na 0x4 λcdv A outer s H E hr=>?_
 have hu:=yS hr;exact nG (Q8 (jJ rfl 0x0) (aY qE hr 0x4 0x3 (aB aC aG)) rfl) (nG (Q8 (jJ rfl 0x0) (JT 0x3 0x3 B.dict (fZ (ownN:=(["taker"]:aa Str)) (show cL (["self","program"]:aa Str) (aO uI) _ (["taker"]:aa Str) from by refine⟨rfl,?_,?_,?_,?_,?_,?_⟩<;>decide +kernel) rfl rfl rfl (eG (bB aC aF)) (d_ 2) (λ_=>bH (show((e6 (gJ (["taker"]:aa Str)) (["self","program"]:aa Str)++(["taker"]:aa Str)):aa Str).Nodup from by decide +kernel) rfl 0x0) (λ_=>bZ (aB (bB aC aF) (aB BR aG))) (λ_=>rfl))) rfl) (nG (Q8 (jJ rfl 0x0) (jN aG) rfl) (nG (Q8 (jJ rfl 0x0) (jN aG) rfl) (W6))))
theorem KJ(fl_Loom_pieces:aAf K "Loom" "pieces")(F:Fun K "add_piece" "Loom.add_piece" fJ fad fd):uQ P w K mg base CX0 1 fad fd ["self","name"] (spG fK 2):=by
 have sc:=J_;have nd:=sc.nd;refine aEd (N:=(["self","name","#0","#1","number"]:aa Str)) (ps:=["self","name"]) (k:=0) F sc QK rfl 0x4 0x4 rfl 0x6 rfl 0x6 λcdv A outer s H E hr=>?_
 have hu:=yS hr;exact aH (bY (bA bU (bD (cU hK) 0x3 B.len cQ (aB (aAg (uC hK fl_Loom_pieces aC)) aG)) aF)) (aH (QF rfl (uC hK fl_Loom_pieces aC) (bZ (aB aC (aB aC aG)))) (aX (PX aC)))
theorem aKx(pK:aKn P w K mg base 1 "Loom" "add_piece" 2 fK)(fl_Loom_heads:aAf K "Loom" "heads")(fl_Loom_takers:aAf K "Loom" "takers")(fl_Loom_ties:aAf K "Loom" "ties")(F:Fun K "lay" "Loom.lay" DX fad fd):uQ P w K mg base CX0 2 fad fd ["self","word","place"] (spG QM 3):=by
 have sc:=aKv;have nd:=sc.nd;refine aEd (N:=(["self","word","place","#0","#1","number","count"]:aa Str)) (ps:=["self","word","place"]) (k:=1) F sc aNi rfl 0x4 0x4 rfl 0x6 rfl 0x6 λcdv A outer s H E hr=>?_
 have hu:=yS hr;exact aH (aKl rfl sc.nd rfl 0x0 (SX hK pK hr 0x4 rfl rfl rfl rfl 0x0 (aAb rfl rfl 0x0 (aE7)))) (aH (bY (bD (cU hK) 0x3 B.len cQ (aB (bB (bB (uC hK fl_Loom_heads aC) aC) aF) aG))) (aH (jX (b_ (t6 hu) aC (uC hK fl_Loom_takers aC) 0x5) (aH (QF rfl (uC hK fl_Loom_ties aC) (bZ (aB (bZ (aB aC (aB aF aG))) (aB aC aG)))) (aX (PX (bA bU (tE (aB (bZ (aB aC (aB aF aG))) aG)) (fZ (ownN:=(["hook"]:aa Str)) (show cL (["self","word","place","#0","#1","number","count"]:aa Str) (aO DX) _ (["hook"]:aa Str) from by refine⟨rfl,?_,?_,?_,?_,?_,?_⟩<;>decide +kernel) rfl rfl rfl (PB 0x3 B.range (aB aF (aB (bA bU aC aF) aG))) (d_ 7) (λ_=>bH (show((e6 (gJ (["hook"]:aa Str)) (["self","word","place","#0","#1","number","count"]:aa Str)++(["hook"]:aa Str)):aa Str).Nodup from by decide +kernel) rfl 0x0) (λ_=>bZ (aB aC (aB aC aG))) (λ_=>rfl)))))) eE) (aH (QF rfl (uC hK fl_Loom_ties aC) (bZ (aB (bZ (aB aC (aB aF aG))) (aB aC aG)))) (aX (PX (fZ (ownN:=(["hook"]:aa Str)) (show cL (["self","word","place","#0","#1","number","count"]:aa Str) (aO DX) _ (["hook"]:aa Str) from by refine⟨rfl,?_,?_,?_,?_,?_,?_⟩<;>decide +kernel) rfl rfl rfl (PB 0x3 B.range (aB aF (aB (bA bU aC aF) aG))) (d_ 7) (λ_=>bH (show((e6 (gJ (["hook"]:aa Str)) (["self","word","place","#0","#1","number","count"]:aa Str)++(["hook"]:aa Str)):aa Str).Nodup from by decide +kernel) rfl 0x0) (λ_=>bZ (aB aC (aB aC aG))) (λ_=>rfl)))))))
theorem yG(qF:dI P w K mg base 1 "arranged" 3 lF)(pL:aKn P w K mg base 2 "Loom" "lay" 3 QM)(fl_Loom_ties:aAf K "Loom" "ties")(fl_Loom_pieces:aAf K "Loom" "pieces")(q_Loom:aD0 P w K mg base 2 "Loom" uJ 1)(F:Fun K "woven_with" "woven_with" fM fad fd)(hm:mg "woven_with"=ab (.ref fad)):dI P w K mg base 4 "woven_with" 3 nA:=by
 have sc:=FW;have nd:=sc.nd;refine jQ (ps:=["program","words","variables"]) (N:=iI) (k:=3) F hm (F.binds λ_ _ _ _ _ _ us hl=>by obtain⟨_,_,_,rfl⟩:=l3 hl;rfl) sc J7 0x4 0x4 λcdv A outer s H E hr=>?_
 have hu:=yS hr;exact aGq hK q_Loom hr 0x4 0x3 (aB aC aG) rfl rfl rfl (show 4<iI.length from by decide) (SQ rfl (show(aO fM).names.lookup ("#0" : Str)=aj from by decide +kernel)) (SQ rfl (show(aO fM).names.lookup ("#1" : Str)=aj from by decide +kernel)) sc.nd rfl 0x0 (aH (bY (JT 0x3 0x3 B.dict (fZ (ownN:=(["name"]:aa Str)) (show cL iI (aO fM) _ (["name"]:aa Str) from by refine⟨rfl,?_,?_,?_,?_,?_,?_⟩<;>decide +kernel) rfl rfl rfl (eG aC) (d_ 12) (λ_=>bH (show((e6 (gJ (["name"]:aa Str)) iI++(["name"]:aa Str)):aa Str).Nodup from by decide +kernel) rfl 0x0) (λ_=>bZ (aB aC (aB (jN aG) aG))) (λ_=>rfl)))) (aH (bY (jN (aB (bZ (aB aF (aB aF aG))) aG))) (aH (CQ rfl fx rfl rfl 0x0 (gR rfl) (bH sc.nd rfl 0x0) (aH (aGb rfl rfl 0x0 sc.nd rfl 0x0 rfl) (aX (jX (b_ (t6 hu) aC aC 0x5) (aX (Z6)) (aX (aGs rfl rfl 0x0 (aGr 0x3 0x3 B.list 0x3 B.reversed (SX hK pL hr 0x4 rfl rfl rfl rfl 0x0 (aAb rfl rfl 0x0 (aAb rfl rfl 0x0 (aE7))))))))))) (aH (lB fx rfl (aD2 0x4 0x3 B.enum aC) (CP _ 0x4) (G6 rfl (eO (bH sc.nd rfl 0x0) (eO (bH sc.nd rfl 0x0) (vK)))) (aX (Z6))) (aX (dZ (aY qF hr 0x4 0x3 (aB (aAg (uC hK fl_Loom_pieces aC)) (aB (aAg (uC hK fl_Loom_ties aC)) (aB aF aG))))))))))
theorem aAm(qG:dI P w K mg base 4 "woven_with" 3 nA)(F:Fun K "woven" "woven" QR fad fd)(hm:mg "woven"=ab (.ref fad)):dI P w K mg base 5 "woven" 2 DY:=by
 have sc:=aD3;have nd:=sc.nd;refine jQ (ps:=["program","words"]) (N:=aAl) (k:=4) F hm (F.binds λ_ _ _ _ _ _ us hl=>by obtain⟨_,_,rfl⟩:=l2 hl;rfl) sc aGx 0x4 0x4 λcdv A outer s H E hr=>?_
 have hu:=yS hr;exact aX (dZ (aY qG hr 0x4 0x3 (aB aC (aB aC (aB (bZ aG) aG)))))
theorem aKy(qH:dI P w K mg base 4 "_law_program" 1 g8)(p4:dI P w K mg base 1 "_law_draw" 2 aL)(pJ:aI4 P w K mg base 2 "_law_words" "least" 6 (.int 0) dH)(qI:dI P w K mg base 5 "woven" 2 DY)(qJ:dI P w K mg base 4 "_law_woven" 4 j9)(F:Fun K "law" "law" D_ fad fd):uQ P w K mg base CX0 6 fad fd ["script"] (spD WN 1):=by
 have sc:=aKw;have nd:=sc.nd;refine aK1 (ps:=["script"]) (N:=aKu) (k:=5) F sc o_law 0x4 0x4 λcdv A outer s H E hr=>?_
 have hu:=yS hr;exact aH (bY (aY qH hr 0x4 0x3 (aB aC aG))) (aH (bY (bB (bB aC aF) (bA cH (aY p4 hr 0x4 0x3 (aB aC (aB aF aG))) (bD (cU hK) 0x3 B.len cQ (aB (bB aC aF) aG))))) (aH (bY (bA cH (aY p4 hr 0x4 0x3 (aB aC (aB aF aG))) (bB (jN (aB aF (aB aF aG))) (bA cH (aY p4 hr 0x4 0x3 (aB aC (aB aF aG))) aF)))) (aH (bY (aY pJ.cal hr 0x4 0x3 (aB aC (aB aF (aB (bZ (aB (bB aC aF) (aB (bB aC aF) aG))) (aB (o9) (aB aC (aB (bA bU aC aF) (aB aC aG))))))))) (aX (dZ (aY qJ hr 0x4 0x3 (aB (aY qI hr 0x4 0x3 (aB aC (aB aC aG))) (aB aC (aB (bZ aG) (aB aC aG))))))))))
end
def AtN(K:Frag)(n:Str)(st:bP):Prop:=∃(f:ak)(fd:d5),nsIn K cu n=ab (ab (.ref f))/\Fun K n n st f fd
theorem aNl{K:Frag}{n:Str}{st:bP}{f:ak}{oc kV dc pm cd ct:ah}{od an:ax ak}{sl:aw (ax ah)}(a:nsIn K cu n=ab (ab (.ref f)))(l:K.lookup f=ab ⟨oc,od,.func (fnOf n n (iJ st) (d8 st) (aO st) .none kV dc pm an cd ct),sl⟩)(c:codeIn K cd n=ae)(k:keepIn K (.ref f)=ae):AtN K n st:=⟨f,_,a,tX (st:=st) l c k⟩
theorem aKz{l:OpenLaw}{w:bh}{K:Frag}{h:aI}{mg:Str->ax ah}{fa:ak}(X:K.In h)(G:h.Ns cu mg)(hfa:mg "law"=ab (.ref fa))(a0:AtN K "_law_draw" oM)(a1:AtN K "_law_word" oN)(a2:AtN K "_law_makers" jA)(a3:AtN K "_law_takers" jC)
 {f4 T4:ak}{oc4 kV4 dc4 pm4 cd4 ct4 tc4:ah}{od4 an4 td4:ax ak}{sl4 tl4:aw (ax ah)}{tk4:eB}{tn4:af}(a4:nsIn K cu "_law_words"=ab (ab (.ref f4)))(l4:K.lookup f4=ab ⟨oc4,od4,.func (fnOf "_law_words" "_law_words" (iJ cC) (d8 cC) (aO cC) (.ref T4) kV4 dc4 pm4 an4 cd4 ct4),sl4⟩)(c4:codeIn K cd4 "_law_words"=ae)(k4:keepIn K (.ref f4)=ae)(t4:K.lookup T4=ab ⟨tc4,td4,.seq #[.int 0 tk4] tn4,tl4⟩)(a5:AtN K "_law_rules" j7)(a6:AtN K "_law_program" gZ)(a7:AtN K "_law_stock" m9)(a8:AtN K "_law_whole" m_)(a9:AtN K "_law_end" tL)(a10:AtN K "_law_mates" iD)(a11:AtN K "_law_woven" iH)(a12:AtN K "arranged" nU)(a13:AtN K "heads_of" tM)(a14:AtN K "woven_with" fM)(a15:AtN K "woven" QR)
 {f16:ak}{oc16 kV16 dc16 pm16 cd16 ct16:ah}{od16 an16:ax ak}{sl16:aw (ax ah)}(a16:nsIn K cu "law"=ab (ab (.ref f16)))(l16:K.lookup f16=ab ⟨oc16,od16,.func (fnOf "law" "law" (iJ D_) (d8 D_) (aO D_) .none kV16 dc16 pm16 an16 cd16 ct16),sl16⟩)(c16:codeIn K cd16 "law"=ae)(k16:keepIn K (.ref f16)=ae)(pM:nsIn K cu "len"=ab aj)(pN:nsIn K cu "min"=ab aj)(pO:nsIn K cu "max"=ab aj)(pQ:nsIn K cu "list"=ab aj)(pR:nsIn K cu "tuple"=ab aj)(pS:nsIn K cu "sorted"=ab aj)(pT:nsIn K cu "range"=ab aj)(pW:nsIn K cu "isinstance"=ab aj)(pX:nsIn K cu "int"=ab aj)(pY:nsIn K cu "bool"=ab aj)(pZ:nsIn K cu "str"=ab aj)(qa:nsIn K cu "dict"=ab aj)(qb:nsIn K cu "all"=ab aj)(qc:nsIn K cu "enumerate"=ab aj)(qd:nsIn K cu "sum"=ab aj)(qe:nsIn K cu "zip"=ab aj)(qf:nsIn K cu "abs"=ab aj)(qg:nsIn K cu "reversed"=ab aj){p5:ak}(p7:nsIn K cu "Loom"=ab (ab (.ref p5))){pc:ak}{qK qL qM qN qu qO:ah}{qP qQ:ax ak}{qR:aw (ax ah)}{pf:ak}{qS qT qU qV qv qW:ah}{qX qY:ax ak}{qZ:aw (ax ah)}{ph:ak}{r8 r9 rh ri qw rj:ah}{rm rq:ax ak}{rA:aw (ax ah)}(pg_Loom:plainGet K p5 Au=ae)(qh:hasDictIn K p5=ae)(po_Loom:plainOver K p5=ae)(qi:findIn K (.ref p5) "__setattr__"=ab (ab (.builtin "object.__setattr__")))(mk_Loom:makesIn K p5=ae)(qj:keepIn K (.ref p5)=ae)(qk:findIn K (.ref p5) "__init__"=ab (ab (.ref pc)))(pk:K.lookup pc=ab ⟨qK,qP,.func (fnOf "__init__" "Loom.__init__" (iJ uI) (d8 uI) (aO uI) .none qL qM qN qQ qu qO),qR⟩)(pq:codeIn K qu "Loom.__init__"=ae)(pz:keepIn K (.ref pc)=ae)(ql:isFn K (.ref pc)=ae)(pA:findIn K (.ref p5) "heads"=ab aj)(pB:findIn K (.ref p5) "takers"=ab aj)(pC:findIn K (.ref p5) "pieces"=ab aj)(pD:findIn K (.ref p5) "ties"=ab aj)(qm:findIn K (.ref p5) "add_piece"=ab (ab (.ref pf)))(pE:K.lookup pf=ab ⟨qS,qX,.func (fnOf "add_piece" "Loom.add_piece" (iJ fJ) (d8 fJ) (aO fJ) .none qT qU qV qY qv qW),qZ⟩)(pF:codeIn K qv "Loom.add_piece"=ae)(pi:keepIn K (.ref pf)=ae)(qo:isFn K (.ref pf)=ae)(qp:findIn K (.ref p5) "lay"=ab (ab (.ref ph)))(pG:K.lookup ph=ab ⟨r8,rm,.func (fnOf "lay" "Loom.lay" (iJ DX) (d8 DX) (aO DX) .none r9 rh ri rq qw rj),rA⟩)(pH:codeIn K qw "Loom.lay"=ae)(pj:keepIn K (.ref ph)=ae)(qr:isFn K (.ref ph)=ae) :
  ∃fd:d5,(∀(s:al)(v:ah),lh s fd ⟨[v],[]⟩ [("script",v)])/\∀base:aI,K.In base->base.Ns cu mg->uQ l.prog w K mg base CX0 6 fa fd ["script"] (@spD ⟨K⟩ WN 1):=by
 have e:=hfa.symm.trans (mg_of X G a16);cases e
 letI:KFrag:=⟨K⟩
 have Y:=λ{n:Str}{v:ah}=>mg_of (n:=n) (v:=v) X G
 have Z:=λ{n:Str}=>mg_none_of (n:=n) X G
 obtain⟨f0,_,a0,F0⟩:=a0;obtain⟨f1,_,a1,F1⟩:=a1;obtain⟨f2,_,a2,F2⟩:=a2;obtain⟨f3,_,a3,F3⟩:=a3;obtain⟨f5,_,a5,F5⟩:=a5;obtain⟨f6,_,a6,F6⟩:=a6;obtain⟨f7,_,a7,F7⟩:=a7;obtain⟨f8,_,a8,F8⟩:=a8;obtain⟨f9,_,a9,F9⟩:=a9;obtain⟨f10,_,a10,F10⟩:=a10;obtain⟨f11,_,a11,F11⟩:=a11;obtain⟨f12,_,a12,F12⟩:=a12;obtain⟨f13,_,a13,F13⟩:=a13;obtain⟨f14,_,a14,F14⟩:=a14;obtain⟨f15,_,a15,F15⟩:=a15;have B:Bt mg:=⟨Z pM,Z pN,Z pO,Z pQ,Z pR,Z pS,Z pT,Z pW,Z pX,Z pY,Z pZ,Z qa,Z qb,Z qc,Z qd,Z qe,Z qf,Z qg⟩
 refine⟨fnOf "law" "law" (iJ D_) (d8 D_) (aO D_) .none kV16 dc16 pm16 an16 cd16 ct16,λs v=>.of_eq rfl,λbase _ _=>?_⟩;have p8:=FZ (P:=l.prog) (w:=w) (base:=base) rfl B  F0 (Y a0);have pI:=F_ (P:=l.prog) (w:=w) (base:=base) rfl B p8 F1 (Y a1);have rB:=xG (P:=l.prog) (w:=w) (base:=base) rfl B p8 pI F2 (Y a2);have rC:=xH (P:=l.prog) (w:=w) (base:=base) rfl B p8 pI F3 (Y a3);have F4:aN3 K "_law_words" "_law_words" cC f4 _ T4 #[.int 0 tk4]:=⟨⟨_,_,_,_,_,_,_,_,_,rfl,l4,c4⟩,k4,⟨_,_,_,_,t4⟩⟩
 have qx:aI4 l.prog w K mg base 2 "_law_words" "least" 6 (.int 0) dH:=⟨⟨f4,_,["script","at","book","known","kind","most","least"],.int 0 tk4,.int 0,xZ rfl B p8 F4,Y a4,k4,(λs us X' hl=>by obtain⟨_,_,_,_,_,_,_,rfl⟩:=l7 (by simpa using hl);exact ve rfl (X' _ _ t4) rfl rfl rfl),(λs us X' hl=>by obtain⟨_,_,_,_,_,_,rfl⟩:=l6 (by simpa using hl);exact ve rfl (X' _ _ t4) rfl rfl rfl),⟨_,rfl⟩,λ_=>.int 0,λs us y X' hl=>by obtain⟨_,_,_,_,_,_,rfl⟩:=l6 hl;first|exact .of_eq rfl|exact .of_eq 0x5|exact ve rfl (X' _ _ t4) rfl rfl rfl|exact ve rfl (X' _ _ t4) rfl 0x5 0x5⟩⟩
 have rD:=x_ (P:=l.prog) (w:=w) (base:=base) rfl B p8 pI qx F5 (Y a5);have rE:=uY (P:=l.prog) (w:=w) (base:=base) rfl B p8 rC rB pI rD F6 (Y a6);have rG:=yC (P:=l.prog) (w:=w) (base:=base) rfl B  F7 (Y a7);have qy:=yD (P:=l.prog) (w:=w) (base:=base) rfl B  F8 (Y a8);have rH:=KC (P:=l.prog) (w:=w) (base:=base) rfl B qy F9 (Y a9);have rJ:=yE (P:=l.prog) (w:=w) (base:=base) rfl B qy rH F10 (Y a10);have rK:=yF (P:=l.prog) (w:=w) (base:=base) rfl B rG rJ F11 (Y a11);have rL:=KD (P:=l.prog) (w:=w) (base:=base) rfl B  F12 (Y a12);have rM:=KH (P:=l.prog) (w:=w) (base:=base) rfl B  F13 (Y a13);have cl_Loom:Cls K p5:=⟨pg_Loom,qh,po_Loom,qi⟩
 have q_Loom:aD0 l.prog w K mg base 2 "Loom" uJ 1:=⟨p5,pc,_,_,p7,Y p7,⟨mk_Loom,qk,ql,qj⟩,aD4 rfl B rM cl_Loom (vg.2 ⟨pA,(vg.2 ⟨pB,(vg.2 ⟨pC,(vg.2 ⟨pD,(List.forall_mem_nil _)⟩)⟩)⟩)⟩) (tX (st:=uI) pk pq pz),((tX (st:=uI) pk pq pz).binds λ_ _ _ _ _ _ us hl=>by obtain⟨_,_,rfl⟩:=l2 hl;rfl)⟩
 have fl_Loom_heads:aAf K "Loom" "heads":=λC h=>by cases (p7.symm.trans h);exact⟨cl_Loom,pA⟩
 have fl_Loom_takers:aAf K "Loom" "takers":=λC h=>by cases (p7.symm.trans h);exact⟨cl_Loom,pB⟩
 have fl_Loom_pieces:aAf K "Loom" "pieces":=λC h=>by cases (p7.symm.trans h);exact⟨cl_Loom,pC⟩
 have fl_Loom_ties:aAf K "Loom" "ties":=λC h=>by cases (p7.symm.trans h);exact⟨cl_Loom,pD⟩
 have pK:aKn l.prog w K mg base 1 "Loom" "add_piece" 2 fK:=⟨p5,pf,_,_,p7,cl_Loom,⟨qm,qo,pi⟩,KJ rfl B fl_Loom_pieces (tX (st:=fJ) pE pF pi),((tX (st:=fJ) pE pF pi).binds λ_ _ _ _ _ _ us hl=>by obtain⟨_,_,rfl⟩:=l2 hl;rfl)⟩
 have pL:aKn l.prog w K mg base 2 "Loom" "lay" 3 QM:=⟨p5,ph,_,_,p7,cl_Loom,⟨qp,qr,pj⟩,aKx rfl B pK fl_Loom_heads fl_Loom_takers fl_Loom_ties (tX (st:=DX) pG pH pj),((tX (st:=DX) pG pH pj).binds λ_ _ _ _ _ _ us hl=>by obtain⟨_,_,_,rfl⟩:=l3 hl;rfl)⟩
 have rN:=yG (P:=l.prog) (w:=w) (base:=base) rfl B rL pL fl_Loom_ties fl_Loom_pieces q_Loom F14 (Y a14);have rO:=aAm (P:=l.prog) (w:=w) (base:=base) rfl B rN F15 (Y a15);exact aKy rfl B rE p8 qx rO rK (tX (st:=D_) l16 c16 k16)
theorem walk{l:OpenLaw}{q:bp}{loose:aa Str}{XP:(Str->ax ah)->aI->Prop}{YP:bh->aI->Prop}{d:DefRec}{K:tq->Frag}(main:∀ns:aa ai,ns.length<=63->WN [.scr (ns.map D.int)]=.ok (.bl ae))(hn:l.most=ab 63)(hdf:d.params.defaults=[])
 (hY:∀(w:bh) (h:aI),YP w h->(K w.params).In h)
 (F:∀(w:bh) (mg:Str->ax ah) (fa:ak) (h:aI),(K w.params).In h->h.Ns cu mg->mg d.name=ab (.ref fa)->
   ∃fd:d5,(∀(s:al) (u:ah),lh s fd ⟨[u],[]⟩ [("script",u)])/\∀base:aI,(K w.params).In base->base.Ns cu mg->uQ l.prog w (K w.params) mg base CX0 6 fa fd ["script"] (@spD ⟨K w.params⟩ WN 1)) :
  WalkO q loose XP YP l.row.toRowW d [] (λf vs=>xl f vs):=
 L2.aFd (n:=63) (k:=6) (x:= "script") (CX:=λ_=>CX0) (sp:=λw=>@spD ⟨K w.params⟩ WN 1) hn 0x4 hdf ⟨rfl,by decide,by decide⟩ hY F (λw H a ns hl hO hS=>Z8 main hl hO hS) λ_ _ _ _ _ z=>z
end Lk64
end
namespace Lk64
open PySem L2 Mi
theorem call_v(h:f (ds++bX (m-n) D.uD)=.ok (.rt d)):fnS n m f ds=.ok d:=by
 unfold fnS;rw[h];rfl
theorem aEe(h:f ρ=.ok (.rt d)):bG f g ρ=.ok (.rt d):=by
 unfold bG;rw[h];rfl
theorem aAn(a:ai)(h1:0<=a)(h2:a<4294967296):kY a=ae:=by
 simp only[kY,bq,fF];lia
theorem aNm(n:af):max2 [.int 1,.int n]=.ok (.int (if (1:ai)<n then n else 1)):=by
 rfl
def drw(ns:aa ai)(k:ai):ai:=match aL [.scr (ns.map D.int),.int k] with
 |.ok (.int r)=>r
 |_=>0
theorem aH0(ns:aa ai)(hn:ns.length<=63)(k:ai):∃r:ai,aL [.scr (ns.map D.int),.int k]=.ok (.int r)/\0<=r/\r<2147483629:=by
 have hl:dR [.scr (ns.map D.int)]=.ok (.int ns.length):=by
  show Res.ok (D.int ((ns.map D.int).length:ai))=_;rw[bd]
 have rest:∀cell:ai,∃r:ai,(bG (bO ag 3 (b2 (a_ .mod) (b2 mY (b2 (a_ .add) (b2 (a_ .add) fV cJ) (b2 mY wA (b2 (a_ .fdiv) eY (aK max2 (aA cJ (aA (aK dR (aA bN aN)) aN)))))) zV) iZ) ae) (jV (b2 (a_ .mod) (b2 mY dO dO) lM) ae)) [.scr (ns.map D.int),.int k,.int cell,.uD]=.ok (.rt (.int r))/\0<=r/\r<2147483629:=by
  intro cell;have hmx:=aNm ns.length;have hm:(0:ai)<(if (1:ai)<ns.length then (ns.length:ai) else 1)/\(if (1:ai)<ns.length then (ns.length:ai) else 1)<1073741824:=by split<;>lia
  generalize (if (1:ai)<ns.length then (ns.length:ai) else 1)=m at hmx hm;have f1:=fH k m hm.1 hm.2;have f2:=tD 104729 (k / m) 0x4;have f3:=dG cell 1;have f4:=dG (cell+1) (104729*(k / m));have f5:=aE4 (cell+1+104729*(k / m)) 48271 0x4;have f6:=cN ((cell+1+104729*(k / m))*48271) 2147483647 0x4;have x0:0<=(cell+1+104729*(k / m))*48271 % 2147483647:=eo _ 0x4;have x1:(cell+1+104729*(k / m))*48271 % 2147483647<2147483647:=e9 _ 0x4;generalize (cell+1+104729*(k / m))*48271 % 2147483647=x at f6 x0 x1;have f7:=aE4 x x (aAn x x0 0x1);have f8:=cN (x*x) 2147483629 0x4;refine⟨x*x % 2147483629,?_,eo _ 0x4,e9 _ 0x4⟩;refine aQ (bW (aJ (aJ (aJ (aJ rfl rfl f3) (aJ rfl (aJ rfl (aR (aD rfl (aD (aR (aD rfl rfl) hl) rfl)) hmx) f1) f2) f4) rfl f5) rfl f6)) ?_;exact lD (aJ (aJ rfl rfl f7) rfl f8) rfl
 have fin:∀cell:ai,wX [.scr (ns.map D.int),.int k,.uD,.uD]=(bG (bO ag 3 (b2 (a_ .mod) (b2 mY (b2 (a_ .add) (b2 (a_ .add) fV cJ) (b2 mY wA (b2 (a_ .fdiv) eY (aK max2 (aA cJ (aA (aK dR (aA bN aN)) aN)))))) zV) iZ) ae) (jV (b2 (a_ .mod) (b2 mY dO dO) lM) ae)) [.scr (ns.map D.int),.int k,.int cell,.uD]->∃r:ai,aL [.scr (ns.map D.int),.int k]=.ok (.int r)/\0<=r/\r<2147483629:=λcell e=>by
  obtain⟨r,h1,h2⟩:=rest cell;exact⟨r,call_v (e.trans h1),h2⟩
 by_cases h0:(ns.length:ai) > 0
 ·have hc:b7 (.ord .gt) (.int ns.length) (.int 0)=.ok (.bl ae):=by
   show Res.ok (D.bl (decide (0<(ns.length:ai))))=_;rw[cb h0]
  have m1:=cN k ns.length h0;have i0:0<=k % (ns.length:ai):=eo _ 0x1;have i1:k % (ns.length:ai)<ns.length:=e9 _ h0;generalize k % (ns.length:ai)=i at m1 i0 i1;have hlt:i.toNat<(ns.map D.int).length:=by rw[bd];lia
  have hg:getD (.scr (ns.map D.int)) (.int i)=.ok (.int (ns[i.toNat]' 0x1)):=by
   show Res.ofOpt ((ixD (ns.map D.int).length i).bind λj=>(ns.map D.int)[j]?)=_;unfold ixD;rw[au i0,au (by rw[bd];exact i1)];simp only[uq];rw[eh hlt,Ct];rfl
  have m2:=cN (ns[i.toNat]' 0x1) 2147483647 0x4;refine fin _ (aQ (bW rfl) (aQ (aBg (dW (aJ (aR (aD rfl rfl) hl) rfl hc)) (bW (aJ (aJ rfl (aJ rfl (aR (aD rfl rfl) hl) m1) hg) rfl m2))) rfl))
 ·have hc:b7 (.ord .gt) (.int ns.length) (.int 0)=.ok (.bl ag):=by
   show Res.ok (D.bl (decide (0<(ns.length:ai))))=_;rw[dj h0]
  exact fin 0 (aQ (bW rfl) (aQ (tB (dW (aJ (aR (aD rfl rfl) hl) rfl hc)) rfl) rfl))
theorem nC(hn:ns.length<=63)(k:ai):bV 2 aL [.scr (ns.map D.int),.int k]=.ok (.int (drw ns k))/\0<=drw ns k/\drw ns k<2147483629:=by
 obtain⟨r,h1,h2⟩:=aH0 ns hn k;have e:drw ns k=r:=by
  unfold drw;rw[h1]
 rw[e];exact⟨(gB rfl).trans h1,h2⟩
noncomputable def abc:Str:= "abcdefghijklmnopqrstuvwxyz"
theorem aAo(x:Str)(n:af)(hx:x.cps.toList.length=n)(hl:x.length<=lim)(i:ai)(h0:0<=i)(h1:i<n):getD (.str x) (.int i)=.ok (.str ⟨#[x.cps.toList.getD i.toNat 0]⟩):=by
 have hix:ixD x.cps.toList.length i=ab i.toNat:=by
  unfold ixD;rw[au h0,hx,au 0x1]
 have hlt:i.toNat<x.cps.toList.length:=by rw[hx];lia
 show(if decide (x.length<=lim) then Res.ofOpt (((ixD x.cps.toList.length i).bind λj=>x.cps.toList[j]?).map λc=>D.str ⟨#[c]⟩) else .bad)=_;rw[cb hl,au rfl,hix];simp only[uq];rw[c9,eh hlt];rfl
theorem aAp(i:ai)(h0:0<=i)(h1:i<26):getD (.str abc) (.int i)=.ok (.str ⟨#[abc.cps.toList.getD i.toNat 0]⟩):=aAo abc 26 0x6 0x6 i h0 h1
theorem aH1(i:ai)(h0:0<=i)(h1:i<4):getD (.str "abdz") (.int i)=.ok (.str ⟨#[("abdz" : Str).cps.toList.getD i.toNat 0]⟩):=aAo "abdz" 4 0x6 0x6 i h0 h1
noncomputable def one(c:af):Str:=⟨#[c]⟩
theorem KN(c:af)(n:af):(l8 (one c) (n:ai)).cps.toList=bX n c:=by
 unfold l8;by_cases h:(n:ai)<1
 ·have:n=0:=by lia
  subst this;rw[au h];rfl
 ·rw[az h];by_cases h1:n=1
  ·subst h1;rfl
  ·rw[az]
   ·have:∀(m:af)(acc:aw af),((bX m (one c).cps).foldl (·++·) acc).toList=acc.toList++bX m c:=by
     intro m;induction m with
     |zero=>intro acc;simp
     |succ m ih=>
      intro acc;rw[vc,xo,ih,vc];simp[one]
    have:=this n #[];simpa using this
   ·have:(one c).length=1:=rfl;rw[this];simp;lia
theorem S5{p q r t:af}(h1:p≠q)(h2:p≠r)(h3:p≠t)(h4:q≠r)(h5:q≠t)(h6:r≠t):bX a c++d::bX b c≠[p,q,r,t]:=by
 intro h;have hl:=dl ja h;simp at hl;have:(a=0/\b=3)\/(a=1/\b=2)\/(a=2/\b=1)\/(a=3/\b=0):=by lia
 rcases this with ⟨rfl,rfl⟩|⟨rfl,rfl⟩|⟨rfl,rfl⟩|⟨rfl,rfl⟩<;>(simp[bX] at h;lia)
theorem S6{p q r t u:af}(h1:p≠q)(h2:p≠r)(h4:q≠r):bX a c++d::bX b c≠[p,q,r,t,u]\/(p=t\/q=t\/r=t):=by
 by_cases z:p=t\/q=t\/r=t
 ·exact .inr z
 refine .inl λh=>?_
 have hl:=dl ja h;simp at hl;have:(a=0/\b=4)\/(a=1/\b=3)\/(a=2/\b=2)\/(a=3/\b=1)\/(a=4/\b=0):=by lia
 rcases this with ⟨rfl,rfl⟩|⟨rfl,rfl⟩|⟨rfl,rfl⟩|⟨rfl,rfl⟩|⟨rfl,rfl⟩<;>(simp[bX] at h;lia)
theorem aD5:∀k,k<26->abc.cps.toList.getD k 0=97+k:=by decide +kernel
theorem uN:(2:af)<=lim:=by rw[cM];lia
theorem aNz:(3:af)<=lim:=by rw[cM];lia
theorem nD(h:a ρ=.ok xs)(hl:xs.length<=lim):oR a ρ=.ok (.lst xs):=by
 unfold oR;rw[h,Res.aZ,au (cb hl)];rfl
theorem xJ(h:a ρ=.ok xs)(hl:xs.length<=lim)(hp:D.aW xs=ae):n6 a ρ=.ok (.lst xs):=by
 unfold n6;rw[h,Res.aZ,au (by rw[cb hl,hp];rfl)];rfl
theorem xK(a b:D)(i:ai)(h0:0<=i)(h1:i<2):getD (.lst [a,b]) (.int i)=.ok (if i=0 then a else b):=by
 have:i=0\/i=1:=by lia
 rcases this with rfl|rfl
 ·rfl
 ·rfl
theorem aO0(c:af)(n:ai)(h0:0<=n)(h1:n<=100):mY (.str (one c)) (.int n)=.ok (.str (l8 (one c) n)):=by
 show(if decide (0<=n)&&decide (n<=100000)&&decide ((one c).length*n.toNat<=lim) then Res.ok (D.str (l8 (one c) n)) else .bad)=_;rw[au];have:(one c).length=1:=rfl;rw[this,cb h0,cb 0x1,cb (by rw[cM];lia)];rfl
theorem xM(a b:Str):(a++b).cps.toList=a.cps.toList++b.cps.toList:=by
 show(a.cps++b.cps).toList=_;exact gl
theorem GC(a:Str):a.length=a.cps.toList.length:=by
 show a.cps.size=_;rw[hI]
def wrd(ns:aa ai)(i:ai):Str:=match aP [.scr (ns.map D.int),.int i] with
 |.ok (.str x)=>x
 |_=>""
def Good(x:Str):Prop:=x ≠ "copy"/\x ≠ "drop"/\x.length<=100
theorem nW:("copy" : Str).cps.toList=[99,111,112,121]:=by decide +kernel
theorem nY:("drop" : Str).cps.toList=[100,114,111,112]:=by decide +kernel
theorem five(x:Str)(h:x.cps.toList.length=5):Good x:=by
 refine⟨λz=>?_,λz=>?_,by rw[GC,h];lia⟩
 ·rw[z,nW] at h;cases h
 ·rw[z,nY] at h;cases h
def WW(ns:aa ai):af:=if drw ns 0 / 104 % 2=0 then abc.cps.toList.getD (drw ns 0 % 26).toNat 0 else ("abdz" : Str).cps.toList.getD (drw ns 0 / 26 % 4).toNat 0
def Sh(ns:aa ai)(i:ai)(x:Str):Prop:=(i=4/\∃c,x.cps.toList=[100,114,111,112,c])\/(i=17/\∃c,x.cps.toList=[99,111,112,121,c])\/∃t,x.cps.toList=bX (drw ns 1 % 8).toNat (WW ns)++(97+((i+drw ns 3) % 26).toNat)::bX t (WW ns)
theorem aH2(hn:ns.length<=63)(i:ai)(hi0:0<=i)(hi1:i<=33):∃x:Str,aP [.scr (ns.map D.int),.int i]=.ok (.str x)/\Good x/\Sh ns i x:=by
 -- a draw,put down as an argument
 have dr:∀{ρ:aa D}{f:FE}{k:ai},iW 0 ρ=.ok (.scr (ns.map D.int))->f ρ=.ok (.int k)->aK (bV 2 aL) (aA bN (aA f aN)) ρ=.ok (.int (drw ns k)):=λh1 h2=>aR (aD h1 (aD h2 rfl)) (nC hn _).1
 have d0:=λk=>(nC hn k).2.1
 have d1:=λk=>(nC hn k).2.2
 have hin:inX (.int i) (.tup [.int 4,.int 17])=.ok (.bl ((4==i)||((17==i)||false))):=rfl;have ht:cZ (aA sS (aA zW aN)) [.scr (ns.map D.int),.int i,.str abc,.uD,.uD,.uD,.uD]=.ok (.tup [.int 4,.int 17]):=cR (aD rfl (aD rfl rfl)) uN;have m5:=cN (drw ns 36) 5 0x4;have ce:b7 .eq (.int (drw ns 36 % 5)) (.int 1)=.ok (.bl (drw ns 36 % 5==1)):=rfl;by_cases hs:(i=4\/i=17)/\drw ns 36 % 5=1
 ·-- drop or copy and a letter
  have b1:((4==i)||((17==i)||false))=ae:=by
   rcases hs.1 with h|h<;>simp[h]
  rw[b1] at hin;rw[show(drw ns 36 % 5==1)=ae by simpa using hs.2] at ce;have f17:=fH i 17 0x4 0x4;have q0:0<=i / 17/\i / 17<2:=by rcases hs.1 with h|h<;>(rw[h];decide)
  have g1:=xK (.str "drop") (.str "copy") (i / 17) q0.1 q0.2;have m26:=cN (drw ns 37) 26 0x4;have g2:=aAp (drw ns 37 % 26) (eo _ 0x4) (e9 _ 0x4);generalize abc.cps.toList.getD (drw ns 37 % 26).toNat 0=c at g2;obtain⟨w,hw,sw,g1'⟩:∃w:Str,w.cps.toList.length=4/\((i=4/\w.cps.toList=[100,114,111,112])\/(i=17/\w.cps.toList=[99,111,112,121]))/\getD (.lst [.str "drop",.str "copy"]) (.int (i / 17))=.ok (.str w):=by
   rcases hs.1 with z|z
   ·rw[au (by rw[z];rfl)] at g1;exact⟨"drop",by rw[nY];rfl,.inl ⟨z,nY⟩,g1⟩
   ·rw[az (by rw[z];decide)] at g1;exact⟨"copy",by rw[nW];rfl,.inr ⟨z,nW⟩,g1⟩
  have g2:getD (.str abc) (.int (drw ns 37 % 26))=.ok (.str (one c)):=g2;have g3:=vZ w (one c) (by rw[GC,hw,cM];show 4+1<=1000000;lia);refine⟨w++(one c),call_v ?_,five _ (by rw[xM,cx,hw];rfl),?_⟩
  rotate_left
  ·rcases sw with ⟨z,e⟩|⟨z,e⟩
   ·exact .inl ⟨z,c,by rw[xM,e];rfl⟩
   ·exact .inr (.inl ⟨z,c,by rw[xM,e];rfl⟩)
  refine aQ (bW rfl) ?_;refine aEe (aBg (Z_ (dW (aJ rfl ht hin)) (dW (aJ (aJ (dr rfl rfl) rfl m5) rfl ce))) ?_);show jV (b2 (a_ .add) (b2 getD (oR (aA (bC (.str "drop")) (aA (bC (.str "copy")) aN))) (b2 (a_ .fdiv) eY zW)) (b2 getD fV (b2 (a_ .mod) (aK (bV 2 aL) (aA bN (aA aFk aN))) zX))) ae [.scr (ns.map D.int),.int i,.str abc,.uD,.uD,.uD,.uD]=.ok (.rt (.str (w++(one c))));exact lD (aJ (aJ (nD (aD rfl (aD rfl rfl)) uN) (aJ rfl rfl f17) g1') (aJ rfl (aJ (dr rfl rfl) rfl m26) g2) g3) rfl
 ·-- a word of one sign but one
  have hif:(sIf (WT (bTB (b2 inX eY (cZ (aA sS (aA zW aN))))) (bTB (b2 (b7 .eq) (b2 (a_ .mod) (aK (bV 2 aL) (aA bN (aA (bC (.int 36)) aN))) YS) cJ))) (jV (b2 (a_ .add) (b2 getD (oR (aA (bC (.str "drop")) (aA (bC (.str "copy")) aN))) (b2 (a_ .fdiv) eY zW)) (b2 getD fV (b2 (a_ .mod) (aK (bV 2 aL) (aA bN (aA aFk aN))) zX))) ae) mG) [.scr (ns.map D.int),.int i,.str abc,.uD,.uD,.uD,.uD]=.ok (.nx [.scr (ns.map D.int),.int i,.str abc,.uD,.uD,.uD,.uD]):=by
   by_cases h1:i=4\/i=17
   ·have b1:((4==i)||((17==i)||false))=ae:=by rcases h1 with h|h<;>simp[h]
    have h2:¬drw ns 36 % 5=1:=λz=>hs ⟨h1,z⟩
    rw[b1] at hin;rw[show(drw ns 36 % 5==1)=ag by simpa using h2] at ce;exact tB (Z_ (dW (aJ rfl ht hin)) (dW (aJ (aJ (dr rfl rfl) rfl m5) rfl ce))) rfl
   ·have b1:((4==i)||((17==i)||false))=ag:=by
     rw[ii] at h1;simp only[xf,zt,gr,ne_eq];lia
    rw[b1] at hin;exact tB (aG5 (dW (aJ rfl ht hin))) rfl
  have a26:=cN (drw ns 0) 26 0x4;have b26:=fH (drw ns 0) 26 0x4 0x4;have b4:=cN (drw ns 0 / 26) 4 0x4;have c104:=fH (drw ns 0) 104 0x4 0x4;have c2:=cN (drw ns 0 / 104) 2 0x4;have g1:=aAp (drw ns 0 % 26) (eo _ 0x4) (e9 _ 0x4);have g2:=aH1 (drw ns 0 / 26 % 4) (eo _ 0x4) (e9 _ 0x4);have hpd:WW ns=if drw ns 0 / 104 % 2=0 then abc.cps.toList.getD (drw ns 0 % 26).toNat 0 else ("abdz" : Str).cps.toList.getD (drw ns 0 / 26 % 4).toNat 0:=rfl
  generalize abc.cps.toList.getD (drw ns 0 % 26).toNat 0=p1 at g1 hpd;generalize ("abdz" : Str).cps.toList.getD (drw ns 0 / 26 % 4).toNat 0=p2 at g2 hpd;have g3:getD (.lst [.str ⟨#[p1]⟩,.str ⟨#[p2]⟩]) (.int (drw ns 0 / 104 % 2))=.ok (.str (one (WW ns))):=by
   have:=xK (.str ⟨#[p1]⟩) (.str ⟨#[p2]⟩) (drw ns 0 / 104 % 2) (eo _ 0x4) (e9 _ 0x4);rw[this,hpd];by_cases z:drw ns 0 / 104 % 2=0
   ·rw[au z,au z];rfl
   ·rw[az z,az z];rfl
  have hsh:∀(x:Str)(t:af),x.cps.toList=bX (drw ns 1 % 8).toNat (WW ns)++(97+((i+drw ns 3) % 26).toNat)::bX t (WW ns)->Sh ns i x:=λx t e=>.inr (.inr ⟨t,e⟩)
  generalize WW ns=pd at g3 hsh;have e8:=cN (drw ns 1) 8 0x4;have pl0:0<=drw ns 1 % 8:=eo _ 0x4;have pl1:drw ns 1 % 8<8:=e9 _ 0x4;generalize hpl:drw ns 1 % 8=pl at e8 pl0 pl1 hsh;have s8:=aE3 8 pl;have t1:=cN (drw ns 2) (8-pl) 0x1;have t2:=cN (drw ns (4+i)) (8-pl) 0x1;have f8:=fH (drw ns 1) 8 0x4 0x4;have f2:=cN (drw ns 1 / 8) 2 0x4;have ce2:b7 .eq (.int (drw ns 1 / 8 % 2)) (.int 1)=.ok (.bl (drw ns 1 / 8 % 2==1)):=rfl;have l1:=dG i (drw ns 3);have l2:=cN (i+drw ns 3) 26 0x4;have k0:0<=(i+drw ns 3) % 26:=eo _ 0x4;have k1:(i+drw ns 3) % 26<26:=e9 _ 0x4;have g4:=aAp ((i+drw ns 3) % 26) k0 k1;rw[aD5 _ 0x1] at g4;generalize 97+((i+drw ns 3) % 26).toNat=c at g4 hsh
  -- the tail
  obtain⟨tl,tl0,tl1,htl⟩:∃tl:ai,0<=tl/\tl<8/\(bG (bO ag 6 (b2 (a_ .mod) (aK (bV 2 aL) (aA bN (aA gG aN))) (b2 (a_ .sub) aBf eV)) ae) (sIf (bTB (b2 (b7 .eq) (b2 (a_ .mod) (b2 (a_ .fdiv) (aK (bV 2 aL) (aA bN (aA cJ aN))) aBf) gG) cJ)) (bO ag 6 (b2 (a_ .mod) (aK (bV 2 aL) (aA bN (aA (b2 (a_ .add) sS eY) aN))) (b2 (a_ .sub) aBf eV)) ae) mG)) [.scr (ns.map D.int),.int i,.str abc,.int (drw ns 0),.str (one pd),.int pl,.uD]=.ok (.nx [.scr (ns.map D.int),.int i,.str abc,.int (drw ns 0),.str (one pd),.int pl,.int tl]):=by
   have first:(bO ag 6 (b2 (a_ .mod) (aK (bV 2 aL) (aA bN (aA gG aN))) (b2 (a_ .sub) aBf eV)) ae) [.scr (ns.map D.int),.int i,.str abc,.int (drw ns 0),.str (one pd),.int pl,.uD]=.ok (.nx [.scr (ns.map D.int),.int i,.str abc,.int (drw ns 0),.str (one pd),.int pl,.int (drw ns 2 % (8-pl))]):=bW (aJ (dr rfl rfl) (aJ rfl rfl s8) t1)
   have tst:bTB (b2 (b7 .eq) (b2 (a_ .mod) (b2 (a_ .fdiv) (aK (bV 2 aL) (aA bN (aA cJ aN))) aBf) gG) cJ) [.scr (ns.map D.int),.int i,.str abc,.int (drw ns 0),.str (one pd),.int pl,.int (drw ns 2 % (8-pl))]=.ok (drw ns 1 / 8 % 2==1):=dW (aJ (aJ (aJ (dr rfl rfl) rfl f8) rfl f2) rfl ce2);have u0:0<=drw ns 2 % (8-pl):=eo _ 0x1;have u1:drw ns 2 % (8-pl)<8-pl:=e9 _ 0x1;have v0:0<=drw ns (4+i) % (8-pl):=eo _ 0x1;have v1:drw ns (4+i) % (8-pl)<8-pl:=e9 _ 0x1;cases hb:(drw ns 1 / 8 % 2==1) with
   |true=>
    rw[hb] at tst;exact⟨_,v0,by lia,aQ first (aBg tst (bW (aJ (dr rfl (aJ rfl rfl (dG 4 i))) (aJ rfl rfl s8) t2)))⟩
   |false=>
    rw[hb] at tst;exact⟨_,u0,by lia,aQ first (tB tst rfl)⟩
  have mp:=aO0 pd pl pl0 0x1;have mt:=aO0 pd tl tl0 0x1;have cp:=KN pd pl.toNat;have ct:=KN pd tl.toNat;rw[show((pl.toNat:af):ai)=pl by lia] at cp;rw[show((tl.toNat:af):ai)=tl by lia] at ct;generalize l8 (one pd) pl=xp at mp cp;generalize l8 (one pd) tl=xt at mt ct;have lp:xp.length<=8:=by rw[GC,cp,sD];lia
  have lt:xt.length<=8:=by rw[GC,ct,sD];lia
  have a1:=vZ xp ⟨#[c]⟩ (by rw[cM];show xp.length+1<=1000000;lia);have l9:(xp++⟨#[c]⟩:Str).length=xp.length+1:=str_len xp ⟨#[c]⟩;have a2:=vZ (xp++⟨#[c]⟩) xt (by rw[l9,cM];lia);have codes:(xp++⟨#[c]⟩++xt:Str).cps.toList=bX pl.toNat pd++c::bX tl.toNat pd:=by
   rw[xM,xM,cp,ct,eP];rfl
  refine⟨xp++⟨#[c]⟩++xt,call_v ?_,⟨λz=>?_,λz=>?_,by rw[str_len,l9];lia⟩,hsh _ _ codes⟩
  ·refine aQ (bW rfl) ?_;refine aQ hif ?_;refine aQ (bW (dr rfl rfl)) ?_;refine aQ (iQ (aJ (nD (aD (aJ rfl (aJ rfl rfl a26) g1) (aD (aJ rfl (aJ (aJ rfl rfl b26) rfl b4) g2) rfl)) uN) (aJ (aJ rfl rfl c104) rfl c2) g3) rfl) ?_;refine aQ (bW (aJ (dr rfl rfl) rfl e8)) ?_;have split:∀{f g h:FS}{ρ ρ':aa D}{r:Res Fl},bG f g ρ=.ok (.nx ρ')->h ρ'=r->bG f (bG g h) ρ=r:=by
    intro f g h ρ ρ' r e1 e2;unfold bG at e1 ⊢;cases hf:f ρ with
    |bad=>rw[hf] at e1;cases e1
    |err c as=>rw[hf] at e1;cases e1
    |ok fl=>
     rw[hf] at e1;cases fl with
     |nx ρ1=>
      simp only[Res.aZ] at e1 ⊢;rw[e1];exact e2
     |rt d=>cases e1
     |bk d=>cases e1
     |ct d=>cases e1
   refine split htl ?_;exact lD (aJ (aJ (aJ rfl rfl mp) (aJ rfl (aJ (aJ rfl (dr rfl rfl) l1) rfl l2) g4) a1) (aJ rfl rfl mt) a2) rfl
  ·have:(xp++⟨#[c]⟩++xt:Str).cps.toList=_:=dl (λx:Str=>x.cps.toList) z;rw[codes,nW] at this;exact S5 0x4 0x4 0x4 0x4 0x4 0x4 this
  ·have:(xp++⟨#[c]⟩++xt:Str).cps.toList=_:=dl (λx:Str=>x.cps.toList) z;rw[codes,nY] at this;exact S5 0x4 0x4 0x4 0x4 0x4 0x4 this
theorem vC(hn:ns.length<=63)(hi0:0<=i)(hi1:i<=33):bV 2 aP [.scr (ns.map D.int),.int i]=.ok (.str (wrd ns i))/\Good (wrd ns i)/\Sh ns i (wrd ns i):=by
 obtain⟨x,h1,h2⟩:=aH2 hn i hi0 hi1;have e:wrd ns i=x:=by
  unfold wrd;rw[h1]
 rw[e];exact⟨(gB rfl).trans h1,h2⟩
theorem oO(hn:ns.length<=63)(hi0:0<=i)(hi1:i<=33):bV 2 aP [.scr (ns.map D.int),.int i]=.ok (.str (wrd ns i))/\Good (wrd ns i):=⟨(vC hn hi0 hi1).1,(vC hn hi0 hi1).2.1⟩
theorem QW(hn:ns.length<=63)(hi0:0<=i)(hi1:i<=25)(hj0:0<=j)(hj1:j<=25)(h:wrd ns i=wrd ns j):i=j:=by
 have si:=(vC hn hi0 0x1).2.2;have sj:=(vC hn hj0 0x1).2.2;rw[h] at si;have bad:∀{a b:af}{e u:af},(bX a (WW ns)++e::bX b (WW ns)=[100,114,111,112,u]->cv)/\(bX a (WW ns)++e::bX b (WW ns)=[99,111,112,121,u]->cv):=by
  intro a b e u;refine⟨λz=>?_,λz=>?_⟩
  ·rcases S6 (p:=100) (q:=114) (r:=111) (t:=112) (u:=u) 0x4 0x4 0x4 with q|q
   ·exact q z
   ·lia
  ·rcases S6 (c:=WW ns) (d:=e) (a:=a) (b:=b) (p:=99) (q:=111) (r:=112) (t:=121) (u:=u) 0x4 0x4 0x4 with q|q
   ·exact q z
   ·lia
 rcases si with ⟨a1,c1,e1⟩|⟨a1,c1,e1⟩|⟨t1,e1⟩<;>rcases sj with ⟨a2,c2,e2⟩|⟨a2,c2,e2⟩|⟨t2,e2⟩<;>rw[e1] at e2
 ·lia
 ·cases e2
 ·exact(bad.1 e2.symm).elim
 ·cases e2
 ·lia
 ·exact(bad.2 e2.symm).elim
 ·exact(bad.1 e2).elim
 ·exact(bad.2 e2).elim
 ·have:=List.append_cancel_left e2;injection this with q _
  have m1:=eo (i+drw ns 3) (show(26:ai)≠0 by decide);have m2:=eo (j+drw ns 3) (show(26:ai)≠0 by decide);lia
noncomputable abbrev Mk:=Str×Str×aa Str
def mkD(m:Mk):D:=.tup [.str m.1,.str m.2.1,.tup (m.2.2.map D.str)]
noncomputable abbrev Tk:=Str×Str×Str×aa Str
def tkD(t:Tk):D:=.tup [.str t.1,.str t.2.1,.str t.2.2.1,.tup (t.2.2.2.map D.str)]
theorem bQ:∀L:aa Str,D.aW (L.map D.str)=ae
 |[]=>rfl
 |x::L=>by
  show((D.str x).pure&&D.aW (L.map D.str))=ae;rw[bQ L];rfl
theorem lX(m:Mk):(mkD m).pure=ae:=by
 show(ae&&(ae&&((D.tup (m.2.2.map D.str)).pure&&ae)))=ae;rw[D.pure,bQ];rfl
theorem nF(m:Tk):(tkD m).pure=ae:=by
 show(ae&&(ae&&(ae&&((D.tup (m.2.2.2.map D.str)).pure&&ae))))=ae;rw[D.pure,bQ];rfl
theorem aU{f:α->D}(h:∀a,(f a).pure=ae):∀L:aa α,D.aW (L.map f)=ae
 |[]=>rfl
 |x::L=>by
  show((f x).pure&&D.aW (L.map f))=ae;rw[h,aU h L];rfl
def IsK(ns:aa ai)(many:ai)(x:Str):Prop:=∃j:ai,0<=j/\j<many/\x=wrd ns j
theorem KQ(g:aa D->D->Res (aa D))(d:α->D)(P:α->Prop):∀(xs acc:aa D),(∀x∈xs,∀acc,∃ys:aa α,(∀y∈ys,P y)/\ys.length<=1/\g acc x=.ok (acc++ys.map d))->∃zs:aa α,(∀z∈zs,P z)/\zs.length<=xs.length/\fY g acc xs=.ok (acc++zs.map d)
 |[],acc,_=>⟨[],λ_ h=>(by cases h),ba _,(by simp[fY])⟩
 |x::xs,acc,h=>by
  obtain⟨ys,h1,h2,h3⟩:=h x (b6 ..) acc;obtain⟨zs,i1,i2,i3⟩:=KQ g d P xs (acc++ys.map d) λy hy=>h y (cg _ hy)
  refine⟨ys++zs,λz hz=>?_,by rw[cx,bj];lia,?_⟩
  ·rcases gz.mp hz with hz|hz
   ·exact h1 z hz
   ·exact i1 z hz
  ·rw[fY,h3];show fY g _ _=_;rw[i3,c_,eP]
theorem tO(g:aa D->D->Res (aa D))(d:α->D)(P:α->Prop):∀(xs acc:aa D),(∀x∈xs,∀acc,∃y:α,P y/\g acc x=.ok (acc++[d y]))->∃zs:aa α,(∀z∈zs,P z)/\zs.length=xs.length/\fY g acc xs=.ok (acc++zs.map d)
 |[],acc,_=>⟨[],λ_ h=>(by cases h),rfl,(by simp[fY])⟩
 |x::xs,acc,h=>by
  obtain⟨y,h1,h3⟩:=h x (b6 ..) acc;obtain⟨zs,i1,i2,i3⟩:=tO g d P xs (acc++[d y]) λy hy=>h y (cg _ hy)
  refine⟨y::zs,λz hz=>?_,by rw[bj,bj,i2],?_⟩
  ·rcases b9.mp hz with rfl|hz
   ·exact h1
   ·exact i1 z hz
  ·rw[fY,h3];show fY g _ _=_;rw[i3,eP];rfl
theorem gC(hρ:ρ.length=n)(ht:t x=.ok bs)(h1:c (ρ++bs)=.ok b)(h2:b=ae->f (ρ++bs)=.ok y/\(k||y.pure)=ae):jM n t c f k ρ acc x=.ok (if b then acc++[y] else acc):=by
 unfold jM;rw[ht,Res.aZ,JN hρ,h1,Res.aZ];cases b with
 |false=>rfl
 |true=>
  obtain⟨h3,h4⟩:=h2 rfl;simp only[cy,h3,Res.aZ,h4];rfl
theorem y_(hn:ns.length<=63)(hm:0<many)(hm3:many<=3)(hρ:ρ.length=n)(h0:∀x:D,iW 0 (ρ++[x])=.ok (.scr (ns.map D.int)))(hg:g ρ=.ok [.int sz])(hs0:0<=sz)(hs1:sz<=3)
 (hf:∀p:ai,0<=p->p<=3->∃j:ai,0<=j/\j<many/\f (ρ++[.int p])=.ok (.int j)) :
  ∃xs:aa Str,(∀x∈xs,IsK ns many x)/\(xs.length<=3/\xs.length=sz.toNat)/\aK fX (aA (cY n (gP g kO) gQ dC (aK (bV 2 aP) (aA bN (aA f aN))) ae) aN) ρ=.ok (.tup (xs.map D.str)):=by
 obtain⟨xs,h1,h2,h3⟩:=tO (jM n gQ dC (aK (bV 2 aP) (aA bN (aA f aN))) ae ρ) D.str (IsK ns many) ((cr sz.toNat).map λ(k:af)=>D.int (0+(k:ai))) [] (λx hx acc=>by
  obtain⟨k,hk,rfl⟩:=cz.mp hx;have hk:=i5.mp hk;obtain⟨j,j0,j1,e⟩:=hf (0+(k:ai)) 0x1 0x1;have w:=(oO hn j0 (show j<=33 by lia)).1;refine⟨wrd ns j,⟨j,j0,j1,rfl⟩,?_⟩
  ·exact gC (b:=ae) hρ rfl rfl λ_=>⟨aR (aD (h0 _) (aD e rfl)) w,rfl⟩)
 rw[dP] at h3;rw[bd,ip] at h2;exact⟨xs,h1,⟨by lia,h2⟩,aR (aD (fG (t8 hg hs0 0x1) (by rw[bd,ip,cM];lia) h3) rfl) rfl⟩
def imk:FS:=(bG (bO ag 6 (aK (bV 2 aL) (aA bN (aA (b2 (a_ .add) (b2 (a_ .add) YT (b2 mY lY dO)) eV) aN))) ae) (bG (bO ag 7 (b2 getD (oR (aA cJ (aA (b2 (a_ .mod) mF sS) aN))) (b2 (a_ .sub) eV cJ)) ag) (bG (bO ag 8 (aK fX (aA (cY 9 (gP (aA fB aN) kO) gQ dC (aK (bV 2 aP) (aA bN (aA (b2 (a_ .mod) (b2 (a_ .fdiv) mF (b2 (a_ .add) aMq (b2 mY aHz sG))) eY) aN))) ae) aN)) ag) (yN 2 (cZ (aA (aK (bV 2 aP) (aA bN (aA (b2 (a_ .add) (b2 (a_ .add) lY (b2 mY lY dO)) eV) aN))) (aA (aK (bV 2 aP) (aA bN (aA dO aN))) (aA n_ aN))))))))
def KR(ns:aa ai)(many:ai)(m:Mk):Prop:=Good m.1/\m.2.2.length<=3/\∀p∈m.2.2,IsK ns many p
theorem l_(hn:ns.length<=63)(h1:iW 0 ρ=.ok (.scr (ns.map D.int)))(h2:f ρ=.ok (.int k)):aK (bV 2 aL) (aA bN (aA f aN)) ρ=.ok (.int (drw ns k)):=aR (aD h1 (aD h2 rfl)) (nC hn _).1
theorem uO(hn:ns.length<=63)(h1:iW 0 ρ=.ok (.scr (ns.map D.int)))(h2:f ρ=.ok (.int k))(h3:0<=k)(h4:k<=33):aK (bV 2 aP) (aA bN (aA f aN)) ρ=.ok (.str (wrd ns k)):=aR (aD h1 (aD h2 rfl)) (oO hn h3 h4).1
theorem aL0(hn:ns.length<=63)(hm:0<many)(hm3:many<=3)(hj0:0<=j)(hj:j<many)(hM:M.length<=100)(hi0:1<=i)(hi1:i<=2) :
  ∃(m:Mk)(y6 y7 y8:D),KR ns many m/\m.2.1=wrd ns j/\(m.1=wrd ns (3+3*j+i)/\(i=1->m.2.2.length=1))/\imk [.scr (ns.map D.int),.int many,.lst (M.map mkD),.int j,x4,.int i,x6,x7,x8]=.ok (.nx [.scr (ns.map D.int),.int many,.lst ((M++[m]).map mkD),.int j,x4,.int i,y6,y7,y8]):=by
 have a3:=tD 3 j 0x4;have a40:=dG 40 (3*j);have a41:=dG (40+3*j) i;have d0:=(nC hn (40+3*j+i)).2.1;generalize hdr:drw ns (40+3*j+i)=dr at d0;have m4:=cN dr 4 0x4;have s1:=aE3 i 1;have g1:=xK (.int 1) (.int (dr % 4)) (i-1) 0x1 0x1;obtain⟨sz,sz0,sz3,sz1,g1'⟩:∃sz:ai,0<=sz/\sz<=3/\(i=1->sz=1)/\getD (.lst [.int 1,.int (dr % 4)]) (.int (i-1))=.ok (.int sz):=by
  by_cases z:i-1=0
  ·rw[au z] at g1;exact⟨1,by decide,by decide,λ_=>rfl,g1⟩
  ·rw[az z] at g1;exact⟨dr % 4,by lia,by lia,λq=>bg 0x1 z,g1⟩
 obtain⟨xs,k1,k2,k3⟩:=y_ (n:=9) (ρ:=[.scr (ns.map D.int),.int many,.lst (M.map mkD),.int j,x4,.int i,.int dr,.int sz,x8]) (f:=b2 (a_ .mod) (b2 (a_ .fdiv) mF (b2 (a_ .add) aMq (b2 mY aHz sG))) eY) (sz:=sz) (g:=aA fB aN) hn hm hm3 rfl (λ_=>rfl) (aD rfl rfl) sz0 sz3 (λp p0 p3=>by
  have e1:=tD 7 p 0x4;have e2:=dG 6 (7*p);have e3:=fH dr (6+7*p) 0x1 0x1;have e4:=cN (dr / (6+7*p)) many hm;exact⟨_,eo _ 0x1,e9 _ hm,aJ (x:=.int (dr / (6+7*p))) (y:=.int many) (aJ (x:=.int dr) (y:=.int (6+7*p)) rfl (aJ (x:=.int 6) (y:=.int (7*p)) rfl (aJ (x:=.int 7) (y:=.int p) rfl rfl e1) e2) e3) rfl e4⟩)
 have w1:=oO hn (i:=3+3*j+i) 0x1 0x1;refine⟨(wrd ns (3+3*j+i),wrd ns j,xs),.int dr,.int sz,.tup (xs.map D.str),⟨w1.2,k2.1,k1⟩,rfl,⟨rfl,λq=>by have:=sz1 q;have:=k2.2;show xs.length=1;lia⟩,?_⟩;refine aQ (ρ':=[.scr (ns.map D.int),.int many,.lst (M.map mkD),.int j,x4,.int i,.int dr,x7,x8]) (bW (i:=6) (by rw[<-hdr];exact l_ hn rfl (aJ (x:=.int (40+3*j)) (y:=.int i) (aJ (x:=.int 40) (y:=.int (3*j)) rfl (aJ (x:=.int 3) (y:=.int j) rfl rfl a3) a40) rfl a41))) ?_;refine aQ (ρ':=[.scr (ns.map D.int),.int many,.lst (M.map mkD),.int j,x4,.int i,.int dr,.int sz,x8]) (iQ (i:=7) (aJ (x:=.lst [.int 1,.int (dr % 4)]) (y:=.int (i-1)) (nD (xs:=[.int 1,.int (dr % 4)]) (aD rfl (aD (aJ (x:=.int dr) rfl rfl m4) rfl)) uN) (aJ (x:=.int i) rfl rfl s1) g1') rfl) ?_;refine aQ (ρ':=[.scr (ns.map D.int),.int many,.lst (M.map mkD),.int j,x4,.int i,.int dr,.int sz,.tup (xs.map D.str)]) (iQ (i:=8) k3 (by rw[D.pure,bQ])) ?_;have ap:=t_ (i:=2) (ρ:=[.scr (ns.map D.int),.int many,.lst (M.map mkD),.int j,x4,.int i,.int dr,.int sz,.tup (xs.map D.str)]) (f:=cZ (aA (aK (bV 2 aP) (aA bN (aA (b2 (a_ .add) (b2 (a_ .add) lY (b2 mY lY dO)) eV) aN))) (aA (aK (bV 2 aP) (aA bN (aA dO aN))) (aA n_ aN)))) (xs:=M.map mkD) (d:=mkD (wrd ns (3+3*j+i),wrd ns j,xs)) (cR (xs:=[.str (wrd ns (3+3*j+i)),.str (wrd ns j),.tup (xs.map D.str)]) (aD (uO hn rfl (aJ (x:=.int (3+3*j)) (y:=.int i) (aJ (x:=.int 3) (y:=.int (3*j)) rfl (aJ (x:=.int 3) (y:=.int j) rfl rfl a3) (dG _ _)) rfl (dG _ _)) 0x1 0x1) (aD (uO hn rfl rfl hj0 0x1) (aD rfl rfl))) aNz) rfl (by rw[bd,cM];lia) (lX _);rw[c_];exact ap
theorem S7(hn:ns.length<=63)(hm:0<many)(hm3:many<=3)(hj0:0<=j)(hj:j<many):∀(ks:aa af)(M:aa Mk)(x5 x6 x7 x8:D),(∀k∈ks,k<=1)->M.length+ks.length<=100->
  ∃(N:aa Mk)(y5 y6 y7 y8:D),(∀m∈N,KR ns many m/\m.2.1=wrd ns j)/\(N.map (·.1)=ks.map (λ(k:af)=>wrd ns (3+3*j+(1+(k:ai))))/\∀q,ks=0::q->∃m N',N=m::N'/\m.2.2.length=1)/\uV (tg1 5) imk (ks.map λ(k:af)=>D.int (1+(k:ai))) [.scr (ns.map D.int),.int many,.lst (M.map mkD),.int j,x4,x5,x6,x7,x8]=.ok (.nx [.scr (ns.map D.int),.int many,.lst ((M++N).map mkD),.int j,x4,y5,y6,y7,y8])
 |[],M,x5,x6,x7,x8,_,_=>⟨[],x5,x6,x7,x8,λ_ h=>(by cases h),⟨rfl,λ_ h=>(by cases h)⟩,by rw[gL];rfl⟩
 |k::ks,M,x5,x6,x7,x8,h,hl=>by
  rw[bj] at hl;have hk:=h k (b6 ..);obtain⟨m,y6,y7,y8,h1,h2,h3,e⟩:=aL0 hn hm hm3 hj0 hj (M:=M) 0x1 (i:=1+(k:ai)) 0x1 0x1 (x6:=x6) (x7:=x7) (x8:=x8);obtain⟨N,z5,z6,z7,z8,i1,i2,i3⟩:=S7 (x4:=x4) hn hm hm3 hj0 hj ks (M++[m]) (.int (1+(k:ai))) y6 y7 y8 (λq hq=>h q (cg _ hq)) (by rw[cx];show M.length+1+ks.length<=100;lia);refine⟨m::N,z5,z6,z7,z8,λq hq=>?_,⟨by rw[bw,bw,i2.1,h3.1],λq hq=>⟨m,N,rfl,h3.2 (by injection hq with hq _;lia)⟩⟩,?_⟩
  ·rcases b9.mp hq with rfl|hq
   ·exact⟨h1,h2⟩
   ·exact i1 q hq
  ·rw[bw,show M++m::N=(M++[m])++N by simp];exact d7 (ρ1:=[.scr (ns.map D.int),.int many,.lst (M.map mkD),.int j,x4,.int (1+(k:ai)),x6,x7,x8]) rfl e i3
theorem QX(h:f ρ=.ok [.int a,.int b])(h1:-1000000<=a)(h2:a<=1000000)(h3:-1000000<=b)(h4:b<=1000000):gP f H_ ρ=.ok ((cr (b-a).toNat).map λ(k:af)=>D.int (a+(k:ai)),ae):=by
 unfold gP;rw[h,Res.aZ];have e1:jL a=ae:=by simp only[jL,fF,bq];lia
 have e2:jL b=ae:=by simp only[jL,fF,bq];lia
 rw[H_,e1,e2];rfl
theorem aI7(a b:ai):b7 (.ord .gt) (.int a) (.int b)=.ok (.bl (decide (b<a))):=wU rfl rfl rfl
def omk:FS:=(bG (bO ag 4 (cZ aN) ae) (bG (sIf (WT (bTB (b2 (b7 (.ord .gt)) dO bK)) (bTB (b2 (b7 (.ord .gt)) (b2 (a_ .mod) (b2 (a_ .fdiv) (aK (bV 2 aL) (aA bN (aA aC3 aN))) dO) lY) bK))) (bO ag 4 (cZ (aA (aK (bV 2 aP) (aA bN (aA bK aN))) aN)) ae) mG) (bG (yN 2 (cZ (aA (aK (bV 2 aP) (aA bN (aA (b2 (a_ .add) lY (b2 mY lY dO)) aN))) (aA (aK (bV 2 aP) (aA bN (aA dO aN))) (aA iY aN))))) (uW (gP (aA cJ (aA (b2 (a_ .add) gG (b2 (a_ .mod) (aK (bV 2 aL) (aA bN (aA (b2 (a_ .add) YT (b2 mY lY dO)) aN))) gG)) aN)) H_) (tg1 5) imk))))
theorem aL1(hn:ns.length<=63)(hm:0<many)(hm3:many<=3)(hj0:0<=j)(hj:j<many)(hM:M.length<=50) :
  ∃(fs:aa Str)(N:aa Mk)(y4 y5 y6 y7 y8:D),(fs=[]\/(fs=[wrd ns 0]/\0<j))/\Good (wrd ns (3+3*j))/\(∀m∈N,KR ns many m/\m.2.1=wrd ns j)/\(∃c:af,(c=1\/c=2)/\N.map (·.1)=(cr c).map (λ(k:af)=>wrd ns (3+3*j+(1+(k:ai))))/\∃m N',N=m::N'/\m.2.2.length=1)/\omk [.scr (ns.map D.int),.int many,.lst (M.map mkD),.int j,x4,x5,x6,x7,x8]=.ok (.nx [.scr (ns.map D.int),.int many,.lst ((M++(wrd ns (3+3*j),wrd ns j,fs)::N).map mkD),.int j,y4,y5,y6,y7,y8]):=by
 have a3:=tD 3 j 0x4;have a40:=dG 40 (3*j);have b3:=dG 3 (3*j);obtain⟨fs,hfs,hif⟩:∃fs:aa Str,(fs=[]\/(fs=[wrd ns 0]/\0<j))/\sIf (WT (bTB (b2 (b7 (.ord .gt)) dO bK)) (bTB (b2 (b7 (.ord .gt)) (b2 (a_ .mod) (b2 (a_ .fdiv) (aK (bV 2 aL) (aA bN (aA aC3 aN))) dO) lY) bK))) (bO ag 4 (cZ (aA (aK (bV 2 aP) (aA bN (aA bK aN))) aN)) ae) mG [.scr (ns.map D.int),.int many,.lst (M.map mkD),.int j,.tup [],x5,x6,x7,x8]=.ok (.nx [.scr (ns.map D.int),.int many,.lst (M.map mkD),.int j,.tup (fs.map D.str),x5,x6,x7,x8]):=by
  by_cases z:0<j
  ·have c0:bTB (b2 (b7 (.ord .gt)) dO bK) [.scr (ns.map D.int),.int many,.lst (M.map mkD),.int j,.tup [],x5,x6,x7,x8]=.ok ae:=dW (aJ rfl rfl ((aI7 _ _).trans (by rw[cb z])));have d3:=fH (drw ns 38) j z 0x1;have m3:=cN (drw ns 38 / j) 3 0x4;have c1:∀k,decide (0<drw ns 38 / j % 3)=k->bTB (b2 (b7 (.ord .gt)) (b2 (a_ .mod) (b2 (a_ .fdiv) (aK (bV 2 aL) (aA bN (aA aC3 aN))) dO) lY) bK) [.scr (ns.map D.int),.int many,.lst (M.map mkD),.int j,.tup [],x5,x6,x7,x8]=.ok k:=λk hk=>dW (aJ (aJ (aJ (l_ hn rfl rfl) rfl d3) rfl m3) rfl ((aI7 _ _).trans (by rw[hk])))
   by_cases q:0<drw ns 38 / j % 3
   ·exact⟨[wrd ns 0],.inr ⟨rfl,z⟩,aBg (Z_ c0 (c1 _ (cb q))) (bW (cR (aD (uO hn rfl rfl (Cu 0) 0x4) rfl) (by rw[cM];exact dQ rfl)))⟩
   ·exact⟨[],.inl rfl,tB (Z_ c0 (c1 _ (dj q))) rfl⟩
  ·exact⟨[],.inl rfl,tB (aG5 (dW (aJ rfl rfl ((aI7 _ _).trans (by rw[dj z]))))) rfl⟩
 have w1:=oO hn (i:=3+3*j) 0x1 0x1;have d0:=(nC hn (40+3*j)).2.1;have m2:=cN (drw ns (40+3*j)) 2 0x4;have c2:=dG 2 (drw ns (40+3*j) % 2);obtain⟨N,y5,y6,y7,y8,h1,h2,h3⟩:=S7 (x4:=.tup (fs.map D.str)) hn hm hm3 hj0 hj (cr (2+drw ns (40+3*j) % 2-1).toNat) (M++[(wrd ns (3+3*j),wrd ns j,fs)]) x5 x6 x7 x8 (λk hk=>by have:=i5.mp hk;lia) (by rw[cx,ip];show M.length+1+_<=100;lia);have hc:(2+drw ns (40+3*j) % 2-1).toNat=1\/(2+drw ns (40+3*j) % 2-1).toNat=2:=by lia
 refine⟨fs,N,.tup (fs.map D.str),y5,y6,y7,y8,hfs,w1.2,h1,⟨_,hc,h2.1,?_⟩,?_⟩
 ·rcases hc with q|q<;>rw[q] at h2
  ·exact h2.2 [] rfl
  ·exact h2.2 [1] rfl
 refine aQ (ρ':=[.scr (ns.map D.int),.int many,.lst (M.map mkD),.int j,.tup [],x5,x6,x7,x8]) (bW (i:=4) (cR (xs:=[]) rfl (di _))) ?_;refine aQ hif ?_;refine aQ (ρ':=[.scr (ns.map D.int),.int many,.lst ((M++[(wrd ns (3+3*j),wrd ns j,fs)]).map mkD),.int j,.tup (fs.map D.str),x5,x6,x7,x8]) ?_ ?_
 ·have ap:=t_ (i:=2) (ρ:=[.scr (ns.map D.int),.int many,.lst (M.map mkD),.int j,.tup (fs.map D.str),x5,x6,x7,x8]) (f:=cZ (aA (aK (bV 2 aP) (aA bN (aA (b2 (a_ .add) lY (b2 mY lY dO)) aN))) (aA (aK (bV 2 aP) (aA bN (aA dO aN))) (aA iY aN)))) (xs:=M.map mkD) (d:=mkD (wrd ns (3+3*j),wrd ns j,fs)) (cR (xs:=[.str (wrd ns (3+3*j)),.str (wrd ns j),.tup (fs.map D.str)]) (aD (uO hn rfl (aJ (x:=.int 3) (y:=.int (3*j)) rfl (aJ (x:=.int 3) (y:=.int j) rfl rfl a3) b3) 0x1 0x1) (aD (uO hn rfl rfl hj0 0x1) (aD rfl rfl))) aNz) rfl (by rw[bd,cM];lia) (lX _);rw[c_];exact ap
 ·refine t7 (QX (a:=1) (b:=2+drw ns (40+3*j) % 2) (aD rfl (aD (aJ (x:=.int 2) (y:=.int (drw ns (40+3*j) % 2)) rfl (aJ (x:=.int (drw ns (40+3*j))) (l_ hn rfl (aJ (x:=.int 40) (y:=.int (3*j)) rfl (aJ (x:=.int 3) (y:=.int j) rfl rfl a3) a40)) rfl m2) c2) rfl)) 0x4 0x4 0x1 0x1) ?_;rw[h3];simp
structure MOk(ns:aa ai)(many:ai)(n:af)(M:aa Mk):Prop where
 part:∀m∈M,KR ns many m
 kind:∀m∈M,IsK ns n m.2.1
 len:M.length<=3*n
 find:∀K,IsK ns n K->∃m m2 R,M.filter (λm=>m.2.1==K)=m::m2::R/\(m.2.2=[]\/(m.2.2=[wrd ns 0]/\K≠wrd ns 0))/\m2.2.2.length=1
 names:∃ks:aa ai,M.map (·.1)=ks.map (wrd ns)/\ks.Pairwise (·<·)/\∀k∈ks,3<=k/\k<3+3*(n:ai)
theorem aD6(h:MOk ns many n M)(hm:(n:ai)<many)(hw:Good (wrd ns (3+3*(n:ai))))(hfs:fs=[]\/(fs=[wrd ns 0]/\0<(n:ai)))(hN:∀m∈N,KR ns many m/\m.2.1=wrd ns n)(hl:∃c:af,(c=1\/c=2)/\N.map (·.1)=(cr c).map (λ(k:af)=>wrd ns (3+3*(n:ai)+(1+(k:ai))))/\∃m N',N=m::N'/\m.2.2.length=1):MOk ns many (n+1) (M++(wrd ns (3+3*(n:ai)),wrd ns n,fs)::N):=by
 obtain⟨c,hc,hnm,m2,N',hN2,hm2⟩:=hl;refine⟨λm hq=>?_,λm hq=>?_,?_,λK hK=>?_,?_⟩
 ·rcases gz.mp hq with hq|hq
  ·exact h.part m hq
  ·rcases b9.mp hq with rfl|hq
   ·refine⟨hw,?_,λp hp=>?_⟩
    ·rcases hfs with rfl|⟨rfl,_⟩<;>exact dQ rfl
    ·rcases hfs with rfl|⟨rfl,_⟩
     ·cases hp
     ·exact⟨0,by decide,by lia,jg.mp hp⟩
   ·exact(hN m hq).1
 ·rcases gz.mp hq with hq|hq
  ·obtain⟨j,j0,j1,e⟩:=h.kind m hq;exact⟨j,j0,by lia,e⟩
  ·rcases b9.mp hq with rfl|hq
   ·exact⟨n,by lia,by lia,rfl⟩
   ·exact⟨n,by lia,by lia,(hN m hq).2⟩
 ·have:=h.len;have e:=dl ja hnm;rw[bd,bd,ip] at e;rw[cx,bj];lia
 ·rw[List.filter_append];by_cases z:IsK ns n K
  ·obtain⟨m,m',R,e,q⟩:=h.find K z;rw[e];exact⟨m,m',_,rfl,q⟩
  ·have e:K=wrd ns n:=by
    obtain⟨j,j0,j1,e⟩:=hK;by_cases y:j<n
    ·exact bg ⟨j,j0,y,e⟩ z
    ·have:j=n:=by lia
     rw[e,this]
   have e2:M.filter (λm=>m.2.1==K)=[]:=by
    rw[List.filter_eq_nil_iff];intro m hq y;have:=h.kind m hq;rw[eq_of_beq y] at this;exact z this
   subst hN2;rw[e2,dP,Cv,au (by rw[e];exact fA _),Cv,au (by rw[e,(hN m2 (b6 ..)).2];exact fA _)];refine⟨_,_,_,rfl,?_,hm2⟩;rcases hfs with rfl|⟨rfl,y⟩
   ·exact .inl rfl
   ·exact .inr ⟨rfl,λq=>z ⟨0,by decide,y,q⟩⟩
 ·obtain⟨ks,k1,k2,k3⟩:=h.names;refine⟨ks++(3+3*(n:ai))::(cr c).map (λ(k:af)=>3+3*(n:ai)+(1+(k:ai))),?_,?_,?_⟩
  ·rw[c_,c_,bw,bw,k1,hnm,eD];rfl
  ·have cs:((3+3*(n:ai))::(cr c).map (λ(k:af)=>3+3*(n:ai)+(1+(k:ai)))).Pairwise (·<·):=by
    rcases hc with rfl|rfl
    ·simp[cr,Cw];lia
    ·simp[cr,Cw];lia
   rw[List.pairwise_append];refine⟨k2,cs,λa ha b hb=>?_⟩;have:=(k3 a ha).2;rcases b9.mp hb with rfl|hb
   ·lia
   ·obtain⟨q,hq,rfl⟩:=cz.mp hb;lia
  ·intro k hk;rcases gz.mp hk with hk|hk
   ·have:=k3 k hk;lia
   ·rcases b9.mp hk with rfl|hk
    ·lia
    ·obtain⟨q,hq,rfl⟩:=cz.mp hk;have:=i5.mp hq;lia
theorem S8(hn:ns.length<=63)(hm:0<many)(hm3:many<=3):∀(c n:af)(M:aa Mk)(x3 x4 x5 x6 x7 x8:D),(n:ai)+c=many->MOk ns many n M->
  ∃(N:aa Mk)(y3 y4 y5 y6 y7 y8:D),MOk ns many (n+c) N/\uV (tg1 3) omk ((BO n c).map λ(k:af)=>D.int (0+(k:ai))) [.scr (ns.map D.int),.int many,.lst (M.map mkD),x3,x4,x5,x6,x7,x8]=.ok (.nx [.scr (ns.map D.int),.int many,.lst (N.map mkD),y3,y4,y5,y6,y7,y8])
 |0,n,M,x3,x4,x5,x6,x7,x8,_,h=>⟨M,x3,x4,x5,x6,x7,x8,h,rfl⟩
 |c+1,n,M,x3,x4,x5,x6,x7,x8,he,h=>by
  obtain⟨fs,N,y4,y5,y6,y7,y8,h1,h2,h3,h4,h5⟩:=aL1 (j:=(n:ai)) hn hm hm3 0x1 0x1 (M:=M) (by have:=h.len;lia) (x4:=x4) (x5:=x5) (x6:=x6) (x7:=x7) (x8:=x8);obtain⟨N',z3,z4,z5,z6,z7,z8,i1,i2⟩:=S8 hn hm hm3 c (n+1) _ (.int n) y4 y5 y6 y7 y8 0x1 (aD6 h 0x1 h2 h1 h3 h4);refine⟨N',z3,z4,z5,z6,z7,z8,by rw[show n+(c+1)=n+1+c by lia];exact i1,?_⟩;rw[List.range'_succ,bw];exact d7 (ρ1:=[.scr (ns.map D.int),.int many,.lst (M.map mkD),.int n,x4,x5,x6,x7,x8]) (by rw[zu];rfl) h5 i2
theorem aAq(hn:ns.length<=63)(hm:0<many)(hm3:many<=3):∃M:aa Mk,MOk ns many many.toNat M/\bV 2 jB [.scr (ns.map D.int),.int many]=.ok (.tup (M.map mkD)):=by
 obtain⟨N,y3,y4,y5,y6,y7,y8,h1,h2⟩:=S8 hn hm hm3 many.toNat 0 [] .uD .uD .uD .uD .uD .uD 0x1 ⟨λ_ h=>(by cases h),λ_ h=>(by cases h),di _,λK ⟨j,j0,j1,_⟩=>(by exfalso;lia),[],rfl,.nil,λ_ h=>(by cases h)⟩;rw[uf] at h1;refine⟨N,h1,(gB rfl).trans (call_v ?_)⟩;refine aQ (eN (nD rfl (di _)) rfl) ?_;refine aQ (t7 (t8 (aD rfl rfl) 0x1 0x1) (by rw[List.range_eq_range'];exact h2)) ?_;exact lD (aR (aD rfl rfl) rfl) (by rw[D.pure,aU lX];rfl)
theorem GD(a b:aa D)(h:a.length+b.length<=1000):LR (.tup a) (.tup b)=.ok (.tup (a++b)):=by
 rw[LR,au (cb (by rw[cM];lia))]
def kE(ns:aa ai)(many:ai)(t:Tk):Prop:=(∃k:ai,17<=k/\k<=20/\t.1=wrd ns k)/\IsK ns many t.2.1/\IsK ns many t.2.2.1/\t.2.2.2.length<=2/\∀p∈t.2.2.2,IsK ns many p
def otk:FS:=(bG (bO ag 4 (aK (bV 2 aL) (aA bN (aA (b2 (a_ .add) (bC (.int 51)) dO) aN))) ae) (bG (bO ag 5 (aK fX (aA (cY 7 (gP (aA (b2 (a_ .mod) (b2 (a_ .fdiv) iY sS) lY) aN) kO) gQ dC (aK (bV 2 aP) (aA bN (aA (b2 (a_ .mod) (b2 (a_ .fdiv) iY (b2 (a_ .add) VG (b2 mY aHz fB))) eY) aN))) ae) aN)) ag) (bG (bO ag 6 (cZ (aA (aK (bV 2 aP) (aA bN (aA (b2 (a_ .mod) iY eY) aN))) (aA (aK (bV 2 aP) (aA bN (aA (b2 (a_ .mod) (b2 (a_ .fdiv) iY gG) eY) aN))) aN))) ae) (yN 2 (b2 LR (b2 LR (cZ (aA (aK (bV 2 aP) (aA bN (aA (b2 (a_ .add) zW dO) aN))) aN)) mF) (cZ (aA eV aN)))))))
theorem aL2(hn:ns.length<=63)(hm:0<many)(hm3:many<=3)(hi0:0<=i)(hi:i<=3)(hM:M.length<=50) :
  ∃(t:Tk)(y4 y5 y6:D),(kE ns many t/\t.1=wrd ns (17+i))/\otk [.scr (ns.map D.int),.int many,.lst (M.map tkD),.int i,x4,x5,x6]=.ok (.nx [.scr (ns.map D.int),.int many,.lst ((M++[t]).map tkD),.int i,y4,y5,y6]):=by
 have a51:=dG 51 i;have a17:=dG 17 i;have d0:=(nC hn (51+i)).2.1;generalize hdr:drw ns (51+i)=dr at d0;have f4:=fH dr 4 0x4 0x4;have m3:=cN (dr / 4) 3 0x4;have f2:=fH dr 2 0x4 0x4;have k1:=cN dr many hm;have k2:=cN (dr / 2) many hm;have p1:=eo dr (show many≠0 by lia);have p2:=e9 dr hm;have q1:=eo (dr / 2) (show many≠0 by lia);have q2:=e9 (dr / 2) hm;obtain⟨xs,c1,c2,c3⟩:=y_ (ρ:=[.scr (ns.map D.int),.int many,.lst (M.map tkD),.int i,.int dr,x5,x6]) (f:=b2 (a_ .mod) (b2 (a_ .fdiv) iY (b2 (a_ .add) VG (b2 mY aHz fB))) eY) (sz:=dr / 4 % 3) (g:=aA (b2 (a_ .mod) (b2 (a_ .fdiv) iY sS) lY) aN) hn hm hm3 rfl (λ_=>rfl) (aD (aJ (x:=.int (dr / 4)) (aJ (x:=.int dr) rfl rfl f4) rfl m3) rfl) 0x1 0x1 (λp p0 p3=>by
  have e1:=tD 7 p 0x4;have e2:=dG 12 (7*p);have e3:=fH dr (12+7*p) 0x1 0x1;have e4:=cN (dr / (12+7*p)) many hm;exact⟨_,eo _ 0x1,e9 _ hm,aJ (x:=.int (dr / (12+7*p))) (y:=.int many) (aJ (x:=.int dr) (y:=.int (12+7*p)) rfl (aJ (x:=.int 12) (y:=.int (7*p)) rfl (aJ (x:=.int 7) (y:=.int p) rfl rfl e1) e2) e3) rfl e4⟩)
 have w1:=oO hn (i:=17+i) 0x1 0x1;have t1:=GD [.str (wrd ns (17+i))] [.str (wrd ns (dr % many)),.str (wrd ns (dr / 2 % many))] (dQ rfl);have t2:=GD [.str (wrd ns (17+i)),.str (wrd ns (dr % many)),.str (wrd ns (dr / 2 % many))] [.tup (xs.map D.str)] (dQ rfl);refine⟨(wrd ns (17+i),wrd ns (dr % many),wrd ns (dr / 2 % many),xs),.int dr,.tup (xs.map D.str),.tup [.str (wrd ns (dr % many)),.str (wrd ns (dr / 2 % many))],⟨⟨⟨17+i,by lia,by lia,rfl⟩,⟨_,p1,p2,rfl⟩,⟨_,q1,q2,rfl⟩,(by have:=c2.2;show xs.length<=2;lia),c1⟩,rfl⟩,?_⟩;refine aQ (ρ':=[.scr (ns.map D.int),.int many,.lst (M.map tkD),.int i,.int dr,x5,x6]) (bW (i:=4) (by rw[<-hdr];exact l_ hn rfl (aJ (x:=.int 51) (y:=.int i) rfl rfl a51))) ?_;refine aQ (ρ':=[.scr (ns.map D.int),.int many,.lst (M.map tkD),.int i,.int dr,.tup (xs.map D.str),x6]) (iQ (i:=5) c3 (by rw[D.pure,bQ])) ?_;refine aQ (ρ':=[.scr (ns.map D.int),.int many,.lst (M.map tkD),.int i,.int dr,.tup (xs.map D.str),.tup [.str (wrd ns (dr % many)),.str (wrd ns (dr / 2 % many))]]) (bW (i:=6) (cR (xs:=[.str (wrd ns (dr % many)),.str (wrd ns (dr / 2 % many))]) (aD (uO hn rfl (aJ (x:=.int dr) (y:=.int many) rfl rfl k1) p1 0x1) (aD (uO hn rfl (aJ (x:=.int (dr / 2)) (y:=.int many) (aJ (x:=.int dr) rfl rfl f2) rfl k2) q1 0x1) rfl)) uN)) ?_;have ap:=t_ (i:=2) (ρ:=[.scr (ns.map D.int),.int many,.lst (M.map tkD),.int i,.int dr,.tup (xs.map D.str),.tup [.str (wrd ns (dr % many)),.str (wrd ns (dr / 2 % many))]]) (f:=b2 LR (b2 LR (cZ (aA (aK (bV 2 aP) (aA bN (aA (b2 (a_ .add) zW dO) aN))) aN)) mF) (cZ (aA eV aN))) (xs:=M.map tkD) (d:=tkD (wrd ns (17+i),wrd ns (dr % many),wrd ns (dr / 2 % many),xs)) (aJ (aJ (cR (xs:=[.str (wrd ns (17+i))]) (aD (uO hn rfl (aJ (x:=.int 17) (y:=.int i) rfl rfl a17) 0x1 0x1) rfl) (by rw[cM];exact dQ rfl)) rfl t1) (cR (xs:=[.tup (xs.map D.str)]) (aD rfl rfl) (by rw[cM];exact dQ rfl)) t2) rfl (by rw[bd,cM];lia) (nF _);rw[c_];exact ap
theorem S9(hn:ns.length<=63)(hm:0<many)(hm3:many<=3):∀(ks:aa af)(M:aa Tk)(x3 x4 x5 x6:D),(∀k∈ks,k<=3)->M.length+ks.length<=50->(∀t∈M,kE ns many t)->
  ∃(N:aa Tk)(y3 y4 y5 y6:D),(∀t∈N,kE ns many t)/\N.map (·.1)=M.map (·.1)++ks.map (λ(k:af)=>wrd ns (17+(k:ai)))/\uV (tg1 3) otk (ks.map λ(k:af)=>D.int (0+(k:ai))) [.scr (ns.map D.int),.int many,.lst (M.map tkD),x3,x4,x5,x6]=.ok (.nx [.scr (ns.map D.int),.int many,.lst (N.map tkD),y3,y4,y5,y6])
 |[],M,x3,x4,x5,x6,_,_,h=>⟨M,x3,x4,x5,x6,h,(gL _).symm,rfl⟩
 |k::ks,M,x3,x4,x5,x6,h,hl,hM=>by
  rw[bj] at hl;have hk:=h k (b6 ..);obtain⟨t,y4,y5,y6,h1,h2⟩:=aL2 hn hm hm3 (i:=(k:ai)) 0x1 0x1 (M:=M) 0x1 (x4:=x4) (x5:=x5) (x6:=x6);obtain⟨N,z3,z4,z5,z6,i1,i2,i3⟩:=S9 hn hm hm3 ks (M++[t]) (.int k) y4 y5 y6 (λq hq=>h q (cg _ hq)) (by rw[cx];show M.length+1+_<=50;lia) (λq hq=>by
   rcases gz.mp hq with hq|hq
   ·exact hM q hq
   ·rw[jg.mp hq];exact h1.1)
  refine⟨N,z3,z4,z5,z6,i1,?_,?_⟩
  ·rw[i2,c_,bw,bw,je,h1.2,eP];rfl
  ·rw[bw];exact d7 (ρ1:=[.scr (ns.map D.int),.int many,.lst (M.map tkD),.int k,x4,x5,x6]) (by rw[zu];rfl) h2 i3
theorem aAr(hn:ns.length<=63)(hm:0<many)(hm3:many<=3):∃T:aa Tk,(∀t∈T,kE ns many t)/\(T.length<=3/\T.map (·.1)=(cr T.length).map (λ(k:af)=>wrd ns (17+(k:ai))))/\bV 2 jD [.scr (ns.map D.int),.int many]=.ok (.tup (T.map tkD)):=by
 have m4:=cN (drw ns 50) 4 0x4;obtain⟨N,y3,y4,y5,y6,h1,h2,h3⟩:=S9 hn hm hm3 (cr (drw ns 50 % 4).toNat) [] .uD .uD .uD .uD (λk hk=>by have:=i5.mp hk;lia) (by rw[ip];show 0+_<=50;lia) (λ_ h=>by cases h);have hNl:N.length=(drw ns 50 % 4).toNat:=by
  have:=dl ja h2;simpa using this
 refine⟨N,h1,⟨by lia,by rw[h2,hNl];rfl⟩,(gB rfl).trans (call_v ?_)⟩;refine aQ (eN (nD rfl (di _)) rfl) ?_;refine aQ (t7 (t8 (aD (aJ (l_ hn rfl rfl) rfl m4) rfl) 0x1 0x1) h3) ?_;exact lD (aR (aD rfl rfl) rfl) (by rw[D.pure,aU nF];rfl)
theorem cO(h:n<=1000):n<=lim:=by rw[cM];lia
theorem gD(h1:a ρ=.ok (.tup xs)):bM a ag ρ=.ok (xs,ag||(D.tup xs).pure):=by
 unfold bM;rw[h1,Res.aZ];rfl
theorem eq_str(a b:Str):b7 .eq (.str a) (.str b)=.ok (.bl (a==b)):=rfl
theorem eq_int(a b:ai):b7 .eq (.int a) (.int b)=.ok (.bl (a==b)):=rfl
theorem aP1(a b:ai):b7 (.ord .ge) (.int a) (.int b)=.ok (.bl (decide (b<=a))):=wU rfl rfl rfl
theorem aO1(a b:ai):b7 (.ord .lt) (.int a) (.int b)=.ok (.bl (decide (a<b))):=wU rfl rfl rfl
theorem aP2(h1:a ρ=.ok ae):bOr a b ρ=.ok ae:=by
 unfold bOr;rw[h1];rfl
theorem G4(h1:a ρ=.ok ag)(h2:b ρ=r):bOr a b ρ=r:=by
 unfold bOr;rw[h1];exact h2
theorem aH3(h1:a ρ=.ok x)(h2:b ρ=.ok y):bOr a b ρ=.ok (x||y):=by
 cases x with
 |true=>exact aP2 h1
 |false=>exact G4 h1 h2
theorem aH4(h1:a ρ=.ok (.bl x))(h2:b ρ=.ok (.bl y)):zY a b ρ=.ok (.bl (x&&y)):=by
 unfold zY;rw[h1,Res.aZ,aK5,Res.aZ];cases x with
 |true=>rw[au rfl,h2];rfl
 |false=>rfl
theorem aAs(h1:a ρ=.ok (.bl x)):bTr a ρ=.ok x:=by
 unfold bTr;rw[h1];rfl
noncomputable abbrev Wt:=Str×aq
def wD(w:Wt):D:=.tup [.str w.1,.bl w.2]
theorem oF(w:Wt):(wD w).pure=ae:=rfl
def knD(K:aa (Str×Str)):aa (D×D):=K.map λp=>(.str p.1,.str p.2)
def bkD(M:aa Mk)(T:aa Tk):D:=.tup [.tup (M.map mkD),.tup (T.map tkD)]
theorem aAt:∀(K:aa (Str×Str))(x:Str),x∈K.map (·.1)->∃y:Str,eQ (knD K) (.str x)=ab (.str y)
 |[],x,h=>by cases h
 |p::K,x,h=>by
  show ∃y:Str,(if (p.1==x) then ab (D.str p.2) else eQ (knD K) (.str x))=ab (.str y);by_cases z:(p.1==x)=ae
  ·rw[au z];exact⟨_,rfl⟩
  ·rw[az z];refine aAt K x ?_;rcases b9.mp h with rfl|h
   ·exact bg (fA _) z
   ·exact h
theorem aAu(K:aa (Str×Str)):(knD K).all (λp=>!isTup p.1)=ae:=by
 rw[fE];intro p hp;obtain⟨q,_,rfl⟩:=cz.mp hp;rfl
theorem aH5(K:aa (Str×Str)):D.aW ((knD K).map (·.2))=ae:=by
 unfold knD;rw[eD];exact aU (λ_=>rfl) K
theorem aAv(K:aa (Str×Str)):nZ (knD K)=(K.map (·.1)).map D.str:=by
 unfold nZ knD;rw[eD,eD];rfl
def wfit:FE:=(R_ 17 3 gQ (bTB (b2 (b7 .eq) (b2 getD dO gM) (b2 getD sG bK))) gM)
theorem aL3(hK:K.length<=1000) :
  ∃F:aa Str,F.length<=K.length/\wfit [x0,x1,x2,.dct (knD K),x4,x5,x6,x7,x8,wD h,x10,x11,x12,x13,x14,x15,x16]=.ok (.lst (F.map D.str)):=by
 generalize hρ:fzD 3 (knD K) [x0,x1,x2,.dct (knD K),x4,x5,x6,x7,x8,wD h,x10,x11,x12,x13,x14,x15,x16]=ρ;have l:ρ.length=17:=by rw[<-hρ];unfold fzD;rw[ug,bd];rfl
 have v3:∀x,iW 3 (ρ++[x])=.ok (.fdc (knD K)):=λx=>by rw[<-hρ];rfl
 have v9:∀x,iW 9 (ρ++[x])=.ok (wD h):=λx=>by rw[<-hρ];rfl
 have v17:∀x,x≠.uD->iW 17 (ρ++[x])=.ok x:=λx hx=>by
  have:(ρ++[x]).getD 17 .uD=x:=by rw[c9,ic 0x1,l];rfl
  unfold iW;rw[this];cases x<;>first|rfl|exact bg rfl hx
 obtain⟨F,_,h2,h3⟩:=KQ (jM 17 gQ (bTB (b2 (b7 .eq) (b2 getD dO gM) (b2 getD sG bK))) gM ag ρ) D.str (λ_=>iA) (nZ (knD K)) [] (λd hd acc=>by
  rw[aAv] at hd;obtain⟨x,hx,rfl⟩:=cz.mp hd;obtain⟨y,hy⟩:=aAt K x hx;have g1:getD (.fdc (knD K)) (.str x)=.ok (.str y):=by
   show(if keyOk (.str x) then Res.ofOpt (eQ (knD K) (.str x)) else .bad)=_;rw[au (show keyOk (.str x)=ae from rfl),hy];rfl
  have c:=rQ (k:=ag) (acc:=acc) (c:=bTB (b2 (b7 .eq) (b2 getD dO gM) (b2 getD sG bK))) (f:=iW 17) (x:=.str x) (y:=.str x) (b:=(y==h.1)) l (dW (aJ (x:=.str y) (y:=.str h.1) (aJ (v3 _) (v17 _ (by intro q;cases q)) g1) (aJ (x:=wD h) (y:=.int 0) (v9 _) rfl rfl) (eq_str _ _))) (λ_=>⟨v17 _ (by intro q;cases q),rfl⟩);rw[c];by_cases z:(y==h.1)=ae
  ·exact⟨[x],λ_ _=>trivial,ba _,by rw[au z];rfl⟩
  ·exact⟨[],λ_ _=>trivial,di _,by rw[az z];simp⟩)
 rw[dP] at h3;have hl:(nZ (knD K)).length=K.length:=by rw[aAv,bd,bd]
 refine⟨F,by lia,?_⟩;have kl:(knD K).length<=lim:=by unfold knD;rw[bd];exact cO hK
 unfold wfit R_;show(if decide ((knD K).length<=lim)&&((knD K).all (λp=>!isTup p.1)&&D.aW ((knD K).map (·.2))) then (do
   let ys <- fY (jM 17 gQ (bTB (b2 (b7 .eq) (b2 getD dO gM) (b2 getD sG bK))) gM ag (fzD 3 (knD K) [x0,x1,x2,.dct (knD K),x4,x5,x6,x7,x8,wD h,x10,x11,x12,x13,x14,x15,x16])) [] (nZ (knD K))
   pure (D.lst ys)) else .bad)=_
 rw[au (by rw[aAu,aH5,cb kl];rfl),hρ,h3];rfl
def aI8(k:ai):FE:=(cY 17 (bM (b2 getD fV (bC (.int k))) ag) gQ (bTB (b2 (b7 .eq) (b2 getD gM cJ) (b2 getD sG bK))) gM ag)
theorem aL4(hM:M.length<=1000) :
  aI8 0 [x0,x1,bkD M T,x3,x4,x5,x6,x7,x8,wD h,x10,x11,x12,x13,x14,x15,x16]=.ok (.lst ((M.filter λm=>m.2.1==h.1).map mkD)):=by
 refine fG (gD (aJ rfl rfl rfl)) (by rw[bd];exact cO hM) ?_;have c:=eZ (jM 17 gQ (bTB (b2 (b7 .eq) (b2 getD gM cJ) (b2 getD sG bK))) gM ag [x0,x1,bkD M T,x3,x4,x5,x6,x7,x8,wD h,x10,x11,x12,x13,x14,x15,x16]) mkD (λm=>m.2.1==h.1) mkD (λacc m=>rQ rfl (dW (aJ (aJ rfl rfl rfl) (aJ rfl rfl rfl) (eq_str _ _))) (λ_=>⟨rfl,lX m⟩)) M [];rw[dP] at c;exact c
theorem aH6(hT:T.length<=1000) :
  aI8 1 [x0,x1,bkD M T,x3,x4,x5,x6,x7,x8,wD h,x10,x11,x12,x13,x14,x15,x16]=.ok (.lst ((T.filter λm=>m.2.1==h.1).map tkD)):=by
 refine fG (gD (aJ rfl rfl rfl)) (by rw[bd];exact cO hT) ?_;have c:=eZ (jM 17 gQ (bTB (b2 (b7 .eq) (b2 getD gM cJ) (b2 getD sG bK))) gM ag [x0,x1,bkD M T,x3,x4,x5,x6,x7,x8,wD h,x10,x11,x12,x13,x14,x15,x16]) tkD (λm=>m.2.1==h.1) tkD (λacc m=>rQ rfl (dW (aJ (aJ rfl rfl rfl) (aJ rfl rfl rfl) (eq_str _ _))) (λ_=>⟨rfl,nF m⟩)) T [];rw[dP] at c;exact c
theorem GF{n:af}{xs:aa Str}(hρ:ρ.length=17)(ha:a ρ=.ok (.tup (xs.map D.str)))(hl:xs.length<=1000):cY 17 (bM a ag) gQ dC (cZ (aA gM (aA (bC (.bl b)) aN))) ag ρ=.ok (.lst ((xs.map λx=>(x,b)).map wD)):=by
 refine fG (gD ha) (by rw[bd];exact cO hl) ?_;have v17:∀x:Str,iW 17 (ρ++[.str x])=.ok (.str x):=λx=>by
  have:(ρ++[D.str x]).getD 17 .uD=.str x:=by rw[c9,ic 0x1,hρ];rfl
  unfold iW;rw[this]
 have c:=eZ (jM 17 gQ dC (cZ (aA gM (aA (bC (.bl b)) aN))) ag ρ) D.str (λ_=>ae) (λx=>wD (x,b)) (λacc x=>rQ hρ rfl (λ_=>⟨cR (aD (v17 x) (aD rfl rfl)) uN,rfl⟩)) xs [];rw[dP,nr.mpr (λ_ _=>rfl)] at c;rw[c,eD];rfl
def wt(ns:aa ai)(w:Wt):af:=if w.1=wrd ns 0 then 1 else 2
def sm(ns:aa ai):aa Wt->af
 |[]=>0
 |w::L=>wt ns w+sm ns L
theorem aD7(ns:aa ai)(w:Wt):1<=wt ns w/\wt ns w<=2:=by unfold wt;split<;>lia
theorem KY(ns:aa ai):∀L:aa Wt,L.length<=sm ns L/\sm ns L<=2*L.length
 |[]=>⟨ba _,ba _⟩
 |w::L=>by
  have:=aD7 ns w;have:=KY ns L;rw[bj,sm];lia
theorem S_(ns:aa ai):∀A B:aa Wt,sm ns (A++B)=sm ns A+sm ns B
 |[],B=>by rw[dP,sm,uf]
 |w::A,B=>by rw[eg,sm,S_ ns A B,sm];lia
def mu(mo:af)(ns:aa ai)(n:af)(L:aa Wt):af:=(mo-n)*6+sm ns L
def ww(ns:aa ai)(at_:ai)(M:aa Mk)(T:aa Tk)(K:aa (Str×Str))(kind:Str)(mo le:af)(ws:aa Str)(L:aa Wt)(x9 x10 x11 x12 x13 x14 x15 x16:D):aa D:=[.scr (ns.map D.int),.int at_,bkD M T,.dct (knD K),.str kind,.int (mo:af),.int (le:af),.lst (ws.map D.str),.lst (L.map wD),x9,x10,x11,x12,x13,x14,x15,x16]
def b2s:FS:=(bG (yN 7 (b2 getD (b2 (a_ .add) mC (n6 (aA (b2 getD (b2 getD fC bK) bK) aN))) (b2 (a_ .mod) (b2 (a_ .fdiv) jW sS) (aK max2 (aA cJ (aA (aK dR (aA mC aN)) aN)))))) (sIf (bTB (b2 (b7 .eq) (aK dR (aA mC aN)) bK)) (bO ae 8 (b2 (a_ .add) (cY 17 (bM (b2 getD (b2 getD fC bK) gG) ag) gQ dC (cZ (aA gM (aA (bC (.bl ae)) aN))) ag) n_) ae) mG))
def b3s:FS:=(bG (bO ag 14 (b2 getD fC (b2 (a_ .mod) (b2 (a_ .fdiv) jW sS) (aK dR (aA fC aN)))) ag) (bG (yN 7 (b2 getD iK bK)) (bO ae 8 (b2 (a_ .add) (cY 17 (bM (b2 getD iK gG) ag) gQ dC (cZ (aA gM (aA (bC (.bl ag)) aN))) ag) n_) ae)))
def b4s:FS:=(bG (bO ag 15 (b2 getD xT (b2 (a_ .mod) (b2 (a_ .fdiv) jW sS) (aK dR (aA xT aN)))) ag) (bG (yN 7 (b2 getD zU bK)) (bG (bO ag 16 (zY (b2 (b7 (.ord .gt)) (aK aCj (aA dO aN)) bK) (b2 (b7 (.ord .gt)) (b2 (a_ .mod) (b2 (a_ .fdiv) jW (bC (.int 64))) sS) bK)) ae) (bO ae 8 (b2 (a_ .add) (b2 (a_ .add) (n6 (aA (cZ (aA (b2 getD zU gG) (aA uU aN))) aN)) (cY 17 (bM (b2 getD zU lY) ag) gQ dC (cZ (aA gM (aA (bC (.bl ag)) aN))) ag)) n_) ae))))
def c1s:FT:=(WT (bTB (b2 (b7 (.ord .lt)) (aK dR (aA fB aN)) mF)) (bTB (b2 (b7 .eq) (aK dR (aA n_ aN)) bK)))
def c2s:FT:=(bOr (bTr (b2 getD sG cJ)) (bOr (bTB (b2 (b7 (.ord .ge)) (b2 (a_ .add) (aK dR (aA fB aN)) (aK dR (aA n_ aN))) eV)) (bTB (b2 (b7 .eq) (b2 (a_ .mod) jW sS) bK))))
def c3s:FT:=(bOr (bTB (b2 (b7 (.ord .lt)) (b2 (a_ .mod) jW sS) lY)) (bTB (b2 (b7 .eq) (aK dR (aA xT aN)) bK)))
def b1s:FS:=(bG (yN 7 (b2 getD (b2 getD fC cJ) bK)) (bO ae 8 (n6 (aA (cZ (aA (b2 getD (b2 getD (b2 getD fC cJ) gG) bK) (aA (bC (.bl ag)) aN))) aN)) ae))
def aD8:FS:=(bG (PP 8 9 bK) (bG (bO ag 10 (aK (bV 2 aL) (aA bN (aA (b2 (a_ .add) eY (aK dR (aA fB aN))) aN))) ae) (bG (bO ag 11 wfit ae) (bG (bO ag 12 (aI8 0) ae) (bG (bO ag 13 (aI8 1) ae) (sIf c1s b1s (sIf c2s b2s (sIf c3s b3s b4s))))))))
theorem aAw:uE=bG (bO ae 7 (oR aN) ae) (bG (bO ae 8 (n6 (aA (cZ (aA iY (aA (bC (.bl ag)) aN))) aN)) ae) (bG (aN4 (bTB (b2 (b7 (.ord .gt)) (aK dR (aA n_ aN)) bK)) aD8) (jV (aK fX (aA fB aN)) ag))):=rfl
theorem vM(f:α->D)(L:aa α)(i:ai)(h0:0<=i)(h1:i<L.length):∃a∈L,getD (.lst (L.map f)) (.int i)=.ok (f a):=by
 obtain⟨hl,e⟩:=PN (L.map f) i h0 (by rw[bd];exact h1);rw[e,Ct];exact⟨_,mI ..,rfl⟩
section
variable {ns:aa ai} {at_:ai} {M:aa Mk} {T:aa Tk} {K:aa (Str×Str)} {kind:Str} {mo le:af} {ws:aa Str} {r:aa Wt} {h:Wt} {dr:ai} {F:aa Str} {m0:Mk} {R:aa Mk} {A:aa Tk} {x14 x15 x16:D}
theorem aH7(hw:ws.length<=600)(hr:r.length<=600)(hd:0<=dr)(hF:F.length<=100)(hm:m0.2.2.length<=3) :
  ∃(w:Str)(L:aa Wt),(L=r\/L=(m0.2.2.map λx=>(x,ae))++r)/\(F=[]->w=m0.1/\L=(m0.2.2.map λx=>(x,ae))++r)/\b2s (ww ns at_ M T K kind mo le ws r (wD h) (.int dr) (.lst (F.map D.str)) (.lst ((m0::R).map mkD)) (.lst (A.map tkD)) x14 x15 x16)=.ok (.nx (ww ns at_ M T K kind mo le (ws++[w]) L (wD h) (.int dr) (.lst (F.map D.str)) (.lst ((m0::R).map mkD)) (.lst (A.map tkD)) x14 x15 x16)):=by
 have f4:=fH dr 4 0x4 0x4;obtain⟨n,n1,n2,hn⟩:∃n:ai,0<n/\n<(F++[m0.1]).length+1/\max2 [.int 1,.int (F.length:af)]=.ok (.int n)/\(n<=1\/n<=F.length):=by
  refine⟨_,?_,?_,aNm F.length,?_⟩
  ·split<;>lia
  ·rw[cx,bj];split<;>lia
  ·split<;>lia
 have m4:=cN (dr / 4) n n1;have p1:=eo (dr / 4) (show n≠0 by lia);have p2:=e9 (dr / 4) n1;obtain⟨w,hwm,hg⟩:=vM D.str (F++[m0.1]) (dr / 4 % n) p1 0x1;rw[c_,show e6 D.str [m0.1]=[D.str m0.1] from rfl] at hg;have g0:getD (.lst ((m0::R).map mkD)) (.int 0)=.ok (mkD m0):=(PN ((m0::R).map mkD) 0 (Cu 0) (by rw[bd,bj];lia)).2;have hap:yN 7 (b2 getD (b2 (a_ .add) mC (n6 (aA (b2 getD (b2 getD fC bK) bK) aN))) (b2 (a_ .mod) (b2 (a_ .fdiv) jW sS) (aK max2 (aA cJ (aA (aK dR (aA mC aN)) aN))))) (ww ns at_ M T K kind mo le ws r (wD h) (.int dr) (.lst (F.map D.str)) (.lst ((m0::R).map mkD)) (.lst (A.map tkD)) x14 x15 x16)=.ok (.nx (ww ns at_ M T K kind mo le (ws++[w]) r (wD h) (.int dr) (.lst (F.map D.str)) (.lst ((m0::R).map mkD)) (.lst (A.map tkD)) x14 x15 x16)):=by
  have e1:b2 (a_ .add) mC (n6 (aA (b2 getD (b2 getD fC bK) bK) aN)) (ww ns at_ M T K kind mo le ws r (wD h) (.int dr) (.lst (F.map D.str)) (.lst ((m0::R).map mkD)) (.lst (A.map tkD)) x14 x15 x16)=.ok (.lst (F.map D.str++[.str m0.1])):=aJ rfl (xJ (aD (aJ (aJ rfl rfl g0) rfl rfl) rfl) (cO (dQ rfl)) rfl) (lV _ _ (by rw[bd];exact cO (by show F.length+1<=1000;lia)) (bQ F) rfl);have e2:b2 (a_ .mod) (b2 (a_ .fdiv) jW sS) (aK max2 (aA cJ (aA (aK dR (aA mC aN)) aN))) (ww ns at_ M T K kind mo le ws r (wD h) (.int dr) (.lst (F.map D.str)) (.lst ((m0::R).map mkD)) (.lst (A.map tkD)) x14 x15 x16)=.ok (.int (dr / 4 % n)):=aJ (aJ rfl rfl f4) (aR (aD rfl (aD (aR (xs:=[.lst (F.map D.str)]) (aD rfl rfl) (by rw[iU,bd])) rfl)) hn.1) m4;have e3:=aJ e1 e2 hg;have ap:=t_ (i:=7) (xs:=ws.map D.str) (d:=.str w) e3 rfl (by rw[bd];exact dm (show ws.length<1000 by lia) (cO (ba _))) rfl;unfold ww;rw[c_];exact ap
 have hc:bTB (b2 (b7 .eq) (aK dR (aA mC aN)) bK) (ww ns at_ M T K kind mo le (ws++[w]) r (wD h) (.int dr) (.lst (F.map D.str)) (.lst ((m0::R).map mkD)) (.lst (A.map tkD)) x14 x15 x16)=.ok (((F.length:af):ai)==0):=dW (aJ (x:=.int (F.length:af)) (y:=.int 0) (aR (xs:=[.lst (F.map D.str)]) (aD rfl rfl) (by rw[iU,bd])) rfl (eq_int _ _));by_cases z:(((F.length:af):ai)==0)=ae
 ·rw[z] at hc;refine⟨w,_,.inr rfl,λq=>⟨by rw[q] at hwm;exact jg.mp hwm,rfl⟩,aQ hap (aBg hc ?_)⟩;have e:=eN (i:=8) (d:=.lst ((m0.2.2.map λx=>(x,ae)).map wD++r.map wD)) (aJ (f:=a_ .add) (x:=.lst ((m0.2.2.map λx=>(x,ae)).map wD)) (y:=.lst (r.map wD)) (GF (n:=0) (ρ:=ww ns at_ M T K kind mo le (ws++[w]) r (wD h) (.int dr) (.lst (F.map D.str)) (.lst ((m0::R).map mkD)) (.lst (A.map tkD)) x14 x15 x16) (a:=b2 getD (b2 getD fC bK) gG) (b:=ae) rfl (aJ (x:=mkD m0) (y:=.int 2) (aJ (x:=.lst ((m0::R).map mkD)) (y:=.int 0) rfl rfl g0) rfl rfl) 0x1) (b:=iW 8) rfl (lV _ _ (by simp only[bd];exact cO 0x1) (aU oF _) (aU oF _))) (by rw[<-c_];exact aU oF _);rw[e,<-c_];rfl
 ·rw[rX] at z;rw[z] at hc;exact⟨w,r,.inl rfl,λq=>(by rw[q] at z;cases z),aQ hap (tB hc rfl)⟩
theorem aH8(hw:ws.length<=600)(hm:m2.2.2=[p]) :
  b1s (ww ns at_ M T K kind mo le ws [] (wD h) (.int dr) (.lst (F.map D.str)) (.lst ((m0::m2::R).map mkD)) (.lst (A.map tkD)) x14 x15 x16)=.ok (.nx (ww ns at_ M T K kind mo le (ws++[m2.1]) [(p,ag)] (wD h) (.int dr) (.lst (F.map D.str)) (.lst ((m0::m2::R).map mkD)) (.lst (A.map tkD)) x14 x15 x16)):=by
 have g0:getD (.lst ((m0::m2::R).map mkD)) (.int 1)=.ok (mkD m2):=(PN ((m0::m2::R).map mkD) 1 0x4 (by rw[bd,bj,bj];lia)).2;refine aQ (ρ':=ww ns at_ M T K kind mo le (ws++[m2.1]) [] (wD h) (.int dr) (.lst (F.map D.str)) (.lst ((m0::m2::R).map mkD)) (.lst (A.map tkD)) x14 x15 x16) ?_ ?_
 ·have ap:=t_ (i:=7) (ρ:=ww ns at_ M T K kind mo le ws [] (wD h) (.int dr) (.lst (F.map D.str)) (.lst ((m0::m2::R).map mkD)) (.lst (A.map tkD)) x14 x15 x16) (f:=b2 getD (b2 getD fC cJ) bK) (xs:=ws.map D.str) (d:=.str m2.1) (aJ (x:=mkD m2) (y:=.int 0) (aJ (x:=.lst ((m0::m2::R).map mkD)) (y:=.int 1) rfl rfl g0) rfl rfl) rfl (by rw[bd];exact dm (show ws.length<1000 by lia) (cO (ba _))) rfl;unfold ww;rw[c_];exact ap
 ·have g2:getD (mkD m2) (.int 2)=.ok (.tup [.str p]):=by
   show Res.ok (D.tup (m2.2.2.map D.str))=_;rw[hm];rfl
  exact eN (i:=8) (d:=.lst [wD (p,ag)]) (xJ (xs:=[wD (p,ag)]) (aD (cR (xs:=[.str p,.bl ag]) (aD (aJ (x:=.tup [.str p]) (y:=.int 0) (aJ (x:=mkD m2) (y:=.int 2) (aJ (x:=.lst ((m0::m2::R).map mkD)) (y:=.int 1) rfl rfl g0) rfl g2) rfl rfl) (aD rfl rfl)) uN) rfl) (cO (dQ rfl)) rfl) rfl
theorem aH9(hw:ws.length<=600)(hr:r.length<=600)(hd:0<=dr)(hR:(m0::R).length<=100)(hm:∀m∈m0::R,m.2.2.length<=3) :
  ∃(m:Mk)(y14:D),m∈m0::R/\b3s (ww ns at_ M T K kind mo le ws r (wD h) (.int dr) (.lst (F.map D.str)) (.lst ((m0::R).map mkD)) (.lst (A.map tkD)) x14 x15 x16)=.ok (.nx (ww ns at_ M T K kind mo le (ws++[m.1]) ((m.2.2.map λx=>(x,ag))++r) (wD h) (.int dr) (.lst (F.map D.str)) (.lst ((m0::R).map mkD)) (.lst (A.map tkD)) y14 x15 x16)):=by
 have f4:=fH dr 4 0x4 0x4;have n1:(0:ai)<((m0::R).length:af):=by rw[bj];lia
 have m4:=cN (dr / 4) ((m0::R).length:af) n1;have p1:=eo (dr / 4) (show(((m0::R).length:af):ai)≠0 by lia);have p2:=e9 (dr / 4) n1;obtain⟨m,hmm,hg⟩:=vM mkD (m0::R) (dr / 4 % ((m0::R).length:af)) p1 p2;have h3:=hm m hmm;refine⟨m,mkD m,hmm,?_⟩;refine aQ (iQ (aJ rfl (aJ (aJ rfl rfl f4) (aR (xs:=[.lst ((m0::R).map mkD)]) (aD rfl rfl) (by rw[iU,bd])) m4) hg) (lX m)) ?_;refine aQ (ρ':=ww ns at_ M T K kind mo le (ws++[m.1]) r (wD h) (.int dr) (.lst (F.map D.str)) (.lst ((m0::R).map mkD)) (.lst (A.map tkD)) (mkD m) x15 x16) ?_ ?_
 ·have ap:=t_ (i:=7) (ρ:=ww ns at_ M T K kind mo le ws r (wD h) (.int dr) (.lst (F.map D.str)) (.lst ((m0::R).map mkD)) (.lst (A.map tkD)) (mkD m) x15 x16) (f:=b2 getD iK bK) (xs:=ws.map D.str) (d:=.str m.1) (aJ (x:=mkD m) (y:=.int 0) rfl rfl rfl) rfl (by rw[bd];exact dm (show ws.length<1000 by lia) (cO (ba _))) rfl;unfold ww;rw[c_];exact ap
 ·have e:=eN (i:=8) (d:=.lst ((m.2.2.map λx=>(x,ag)).map wD++r.map wD)) (aJ (f:=a_ .add) (x:=.lst ((m.2.2.map λx=>(x,ag)).map wD)) (y:=.lst (r.map wD)) (GF (n:=0) (ρ:=ww ns at_ M T K kind mo le (ws++[m.1]) r (wD h) (.int dr) (.lst (F.map D.str)) (.lst ((m0::R).map mkD)) (.lst (A.map tkD)) (mkD m) x15 x16) (a:=b2 getD iK gG) (b:=ag) rfl (aJ (x:=mkD m) (y:=.int 2) rfl rfl rfl) 0x1) (b:=iW 8) rfl (lV _ _ (by simp only[bd];exact cO 0x1) (aU oF _) (aU oF _))) (by rw[<-c_];exact aU oF _);rw[e,<-c_];rfl
theorem aHa(hw:ws.length<=600)(hr:r.length<=600)(hd:0<=dr)(hA0:0<A.length)(hm:∀m∈A,m.2.2.2.length<=3) :
  ∃(m:Tk)(b:aq)(y15 y16:D),m∈A/\b4s (ww ns at_ M T K kind mo le ws r (wD h) (.int dr) (.lst (F.map D.str)) (.lst ((m0::R).map mkD)) (.lst (A.map tkD)) x14 x15 x16)=.ok (.nx (ww ns at_ M T K kind mo le (ws++[m.1]) (((m.2.2.1,b)::(m.2.2.2.map λx=>(x,ag)))++r) (wD h) (.int dr) (.lst (F.map D.str)) (.lst ((m0::R).map mkD)) (.lst (A.map tkD)) x14 y15 y16)):=by
 have f4:=fH dr 4 0x4 0x4;have f64:=fH dr 64 0x4 0x4;have m64:=cN (dr / 64) 4 0x4;have n1:(0:ai)<(A.length:af):=by lia
 have m4:=cN (dr / 4) (A.length:af) n1;have p1:=eo (dr / 4) (show((A.length:af):ai)≠0 by lia);have p2:=e9 (dr / 4) n1;obtain⟨m,hmm,hg⟩:=vM tkD A (dr / 4 % (A.length:af)) p1 p2;have h3:=hm m hmm;refine⟨m,(decide ((0:ai)<((knD K).length:af))&&decide ((0:ai)<dr / 64 % 4)),tkD m,.bl (decide ((0:ai)<((knD K).length:af))&&decide ((0:ai)<dr / 64 % 4)),hmm,?_⟩;refine aQ (iQ (aJ rfl (aJ (aJ rfl rfl f4) (aR (xs:=[.lst (A.map tkD)]) (aD rfl rfl) (by rw[iU,bd])) m4) hg) (nF m)) ?_;refine aQ (ρ':=ww ns at_ M T K kind mo le (ws++[m.1]) r (wD h) (.int dr) (.lst (F.map D.str)) (.lst ((m0::R).map mkD)) (.lst (A.map tkD)) x14 (tkD m) x16) ?_ ?_
 ·have ap:=t_ (i:=7) (ρ:=ww ns at_ M T K kind mo le ws r (wD h) (.int dr) (.lst (F.map D.str)) (.lst ((m0::R).map mkD)) (.lst (A.map tkD)) x14 (tkD m) x16) (f:=b2 getD zU bK) (xs:=ws.map D.str) (d:=.str m.1) (aJ (x:=tkD m) (y:=.int 0) rfl rfl rfl) rfl (by rw[bd];exact dm (show ws.length<1000 by lia) (cO (ba _))) rfl;unfold ww;rw[c_];exact ap
 have lx:aCj [.dct (knD K)]=.ok (.int ((knD K).length:af)):=by
  rw[aCj,au (aAu K)]
 generalize hb:(decide ((0:ai)<((knD K).length:af))&&decide ((0:ai)<dr / 64 % 4))=b;refine aQ (ρ':=ww ns at_ M T K kind mo le (ws++[m.1]) r (wD h) (.int dr) (.lst (F.map D.str)) (.lst ((m0::R).map mkD)) (.lst (A.map tkD)) x14 (tkD m) (.bl b)) (bW (i:=16) (by
  rw[<-hb];exact aH4 (aJ (x:=.int ((knD K).length:af)) (y:=.int 0) (aR (xs:=[.dct (knD K)]) (aD rfl rfl) lx) rfl (aI7 _ _)) (aJ (x:=.int (dr / 64 % 4)) (y:=.int 0) (aJ (x:=.int (dr / 64)) (aJ (x:=.int dr) rfl rfl f64) rfl m64) rfl (aI7 _ _)))) ?_
 have e:=eN (i:=8) (d:=.lst (([wD (m.2.2.1,b)]++(m.2.2.2.map λx=>(x,ag)).map wD)++r.map wD)) (aJ (f:=a_ .add) (x:=.lst ([wD (m.2.2.1,b)]++(m.2.2.2.map λx=>(x,ag)).map wD)) (y:=.lst (r.map wD)) (aJ (f:=a_ .add) (x:=.lst [wD (m.2.2.1,b)]) (y:=.lst ((m.2.2.2.map λx=>(x,ag)).map wD)) (xJ (a:=aA (cZ (aA (b2 getD zU gG) (aA uU aN))) aN) (xs:=[wD (m.2.2.1,b)]) (aD (cR (xs:=[.str m.2.2.1,.bl b]) (aD (aJ (x:=tkD m) (y:=.int 2) rfl rfl rfl) (aD rfl rfl)) uN) rfl) (cO (dQ rfl)) rfl) (GF (n:=0) (ρ:=ww ns at_ M T K kind mo le (ws++[m.1]) r (wD h) (.int dr) (.lst (F.map D.str)) (.lst ((m0::R).map mkD)) (.lst (A.map tkD)) x14 (tkD m) (.bl b)) (a:=b2 getD zU lY) (b:=ag) rfl (aJ (x:=tkD m) (y:=.int 3) rfl rfl rfl) 0x1) (lV _ _ (by simp only[bd];exact cO (by show 1+_<=1000;lia)) rfl (aU oF _))) (b:=iW 8) rfl (lV _ _ (by simp only[bd,cx];exact cO (by show 1+_+_<=1000;lia)) (aU oF ((m.2.2.1,b)::(m.2.2.2.map λx=>(x,ag)))) (aU oF _))) (by
  have:=aU oF (((m.2.2.1,b)::(m.2.2.2.map λx=>(x,ag)))++r);rw[c_] at this;exact this)
 have z:([wD (m.2.2.1,b)]++(m.2.2.2.map λx=>(x,ag)).map wD)++r.map wD=((((m.2.2.1,b)::(m.2.2.2.map λx=>(x,ag)))++r)).map wD:=by
  rw[c_];rfl
 rw[e,z];rfl
end
def Wd(M:aa Mk)(T:aa Tk)(w:Str)(a:af):Prop:=(∃m∈M,w=m.1/\a=m.2.2.length)\/∃t∈T,w=t.1/\a=t.2.2.2.length+1
inductive Dn(M:aa Mk)(T:aa Tk):af->aa Str->Prop
 |nil:Dn M T 0 []
 |cons {w:Str} {a n:af} {ws:aa Str}:Wd M T w a->Dn M T (a+n) ws->Dn M T (n+1) (w::ws)
theorem aD9(xs:aa Str)(b:aq)(h:xs.length<=3):sm ns (xs.map λx=>(x,b))<=6:=by
 have:=(KY ns (xs.map λx=>(x,b))).2;rw[bd] at this;lia
theorem aHb(hn:ns.length<=63)(hm:0<many)(hm3:many<=3)(hM:MOk ns many many.toNat M)(hT:∀t∈T,kE ns many t)(hTl:T.length<=3)(hK:K.length<=100)(hw:ws.length<=600)(hr:r.length<=600)(hlm:le<=mo)(hk:∀q∈h::r,IsK ns many q.1) :
  ∃(w:Str)(L:aa Wt)(y9 y10 y11 y12 y13 y14 y15 y16:D),(∀q∈L,IsK ns many q.1)/\mu mo ns (ws.length+1) L+1<=mu mo ns ws.length (h::r)/\(K=[]->∃a,Wd M T w a/\L.length=a+r.length)/\aD8 (ww ns at_ M T K kind mo le ws (h::r) x9 x10 x11 x12 x13 x14 x15 x16)=.ok (.nx (ww ns at_ M T K kind mo le (ws++[w]) L y9 y10 y11 y12 y13 y14 y15 y16)):=by
 have mm:((many.toNat:af):ai)=many:=by lia
 have hk0:=hk h (b6 ..);have hkr:∀q∈r,IsK ns many q.1:=λq hq=>hk q (cg _ hq)
 have h1:PP 8 9 bK (ww ns at_ M T K kind mo le ws (h::r) x9 x10 x11 x12 x13 x14 x15 x16)=.ok (.nx (ww ns at_ M T K kind mo le ws r (wD h) x10 x11 x12 x13 x14 x15 x16)):=rfl;have a1:=dG at_ (ws.length:af);generalize hdr:drw ns (at_+(ws.length:af))=dr;have hd:0<=dr:=by rw[<-hdr];exact(nC hn _).2.1
 have h2:bO ag 10 (aK (bV 2 aL) (aA bN (aA (b2 (a_ .add) eY (aK dR (aA fB aN))) aN))) ae (ww ns at_ M T K kind mo le ws r (wD h) x10 x11 x12 x13 x14 x15 x16)=.ok (.nx (ww ns at_ M T K kind mo le ws r (wD h) (.int dr) x11 x12 x13 x14 x15 x16)):=by
  refine bW ?_;rw[<-hdr];exact l_ hn rfl (aJ rfl (aR (xs:=[.lst (ws.map D.str)]) (aD rfl rfl) (by rw[iU,bd])) a1)
 obtain⟨F,hF,eF⟩:=aL3 (K:=K) (h:=h) 0x1 (x0:=.scr (ns.map D.int)) (x1:=.int at_) (x2:=bkD M T) (x4:=.str kind) (x5:=.int (mo:af)) (x6:=.int (le:af)) (x7:=.lst (ws.map D.str)) (x8:=.lst (r.map wD)) (x10:=.int dr) (x11:=x11) (x12:=x12) (x13:=x13) (x14:=x14) (x15:=x15) (x16:=x16);have h3:bO ag 11 wfit ae (ww ns at_ M T K kind mo le ws r (wD h) (.int dr) x11 x12 x13 x14 x15 x16)=.ok (.nx (ww ns at_ M T K kind mo le ws r (wD h) (.int dr) (.lst (F.map D.str)) x12 x13 x14 x15 x16)):=bW (i:=11) eF;obtain⟨m0,m2,R,hf,hq,hm2⟩:=hM.find h.1 (by rw[mm];exact hk0);have ml:=hM.len;have h4:bO ag 12 (aI8 0) ae (ww ns at_ M T K kind mo le ws r (wD h) (.int dr) (.lst (F.map D.str)) x12 x13 x14 x15 x16)=.ok (.nx (ww ns at_ M T K kind mo le ws r (wD h) (.int dr) (.lst (F.map D.str)) (.lst ((m0::m2::R).map mkD)) x13 x14 x15 x16)):=by
  rw[<-hf];exact bW (i:=12) (aL4 0x1)
 generalize hA:(T.filter λm=>m.2.1==h.1)=A;have h5:bO ag 13 (aI8 1) ae (ww ns at_ M T K kind mo le ws r (wD h) (.int dr) (.lst (F.map D.str)) (.lst ((m0::m2::R).map mkD)) x13 x14 x15 x16)=.ok (.nx (ww ns at_ M T K kind mo le ws r (wD h) (.int dr) (.lst (F.map D.str)) (.lst ((m0::m2::R).map mkD)) (.lst (A.map tkD)) x14 x15 x16)):=by
  rw[<-hA];exact bW (i:=13) (aH6 0x1)
 have inM:∀m∈m0::m2::R,m∈M:=λm hq=>by
  rw[<-hf] at hq;exact(nw.mp hq).1
 have inT:∀m∈A,m∈T:=λm hq=>by
  rw[<-hA] at hq;exact(nw.mp hq).1
 have hlen:(m0::m2::R).length<=100:=by
  have:=List.length_filter_le (λm:Mk=>m.2.1==h.1) M;rw[hf] at this;lia
 have kd:∀m∈m0::m2::R,m.2.1=h.1:=λm hq=>by
  rw[<-hf] at hq;exact eq_of_beq (nw.mp hq).2
 have c1:c1s (ww ns at_ M T K kind mo le ws r (wD h) (.int dr) (.lst (F.map D.str)) (.lst ((m0::m2::R).map mkD)) (.lst (A.map tkD)) x14 x15 x16)=.ok (decide (((ws.length:af):ai)<(le:af))&&(((r.length:af):ai)==0)):=by
  have q1:bTB (b2 (b7 (.ord .lt)) (aK dR (aA fB aN)) mF) (ww ns at_ M T K kind mo le ws r (wD h) (.int dr) (.lst (F.map D.str)) (.lst ((m0::m2::R).map mkD)) (.lst (A.map tkD)) x14 x15 x16)=.ok (decide (((ws.length:af):ai)<(le:af))):=dW (aJ (x:=.int (ws.length:af)) (y:=.int (le:af)) (aR (xs:=[.lst (ws.map D.str)]) (aD rfl rfl) (by rw[iU,bd])) rfl (aO1 _ _));have q2:bTB (b2 (b7 .eq) (aK dR (aA n_ aN)) bK) (ww ns at_ M T K kind mo le ws r (wD h) (.int dr) (.lst (F.map D.str)) (.lst ((m0::m2::R).map mkD)) (.lst (A.map tkD)) x14 x15 x16)=.ok (((r.length:af):ai)==0):=dW (aJ (x:=.int (r.length:af)) (y:=.int 0) (aR (xs:=[.lst (r.map wD)]) (aD rfl rfl) (by rw[iU,bd])) rfl (eq_int _ _));cases hb:decide (((ws.length:af):ai)<(le:af)) with
  |true=>rw[hb] at q1;exact Z_ q1 q2
  |false=>rw[hb] at q1;exact aG5 q1
 have m4:=cN dr 4 0x4;have a2:=dG (ws.length:af) (r.length:af);have c2:c2s (ww ns at_ M T K kind mo le ws r (wD h) (.int dr) (.lst (F.map D.str)) (.lst ((m0::m2::R).map mkD)) (.lst (A.map tkD)) x14 x15 x16)=.ok (h.2||(decide (((mo:af):ai)<=(ws.length:af)+(r.length:af))||(dr % 4==0))):=aH3 (aAs (aJ (x:=wD h) (y:=.int 1) rfl rfl rfl)) (aH3 (dW (aJ (x:=.int ((ws.length:af)+(r.length:af))) (y:=.int (mo:af)) (aJ (x:=.int (ws.length:af)) (y:=.int (r.length:af)) (aR (xs:=[.lst (ws.map D.str)]) (aD rfl rfl) (by rw[iU,bd])) (aR (xs:=[.lst (r.map wD)]) (aD rfl rfl) (by rw[iU,bd])) a2) rfl (aP1 _ _))) (dW (aJ (x:=.int (dr % 4)) (y:=.int 0) (aJ (x:=.int dr) rfl rfl m4) rfl (eq_int _ _))));have c3:c3s (ww ns at_ M T K kind mo le ws r (wD h) (.int dr) (.lst (F.map D.str)) (.lst ((m0::m2::R).map mkD)) (.lst (A.map tkD)) x14 x15 x16)=.ok (decide (dr % 4<3)||(((A.length:af):ai)==0)):=aH3 (dW (aJ (x:=.int (dr % 4)) (y:=.int 3) (aJ (x:=.int dr) rfl rfl m4) rfl (aO1 _ _))) (dW (aJ (x:=.int (A.length:af)) (y:=.int 0) (aR (xs:=[.lst (A.map tkD)]) (aD rfl rfl) (by rw[iU,bd])) rfl (eq_int _ _)));have fin:∀{res},sIf c1s b1s (sIf c2s b2s (sIf c3s b3s b4s)) (ww ns at_ M T K kind mo le ws r (wD h) (.int dr) (.lst (F.map D.str)) (.lst ((m0::m2::R).map mkD)) (.lst (A.map tkD)) x14 x15 x16)=res->aD8 (ww ns at_ M T K kind mo le ws (h::r) x9 x10 x11 x12 x13 x14 x15 x16)=res:=λe=>aQ h1 (aQ h2 (aQ h3 (aQ h4 (aQ h5 e))))
 have wh:=aD7 ns h;by_cases z1:(decide (((ws.length:af):ai)<(le:af))&&(((r.length:af):ai)==0))=ae
 ·rw[z1] at c1;rw[bq,fF] at z1;have hr0:r=[]:=zr.mp (by have:=eq_of_beq z1.2;lia);subst hr0;obtain⟨p,hp⟩:=Ck.mp hm2;have mp:=hM.part m2 (inM m2 (cg _ (b6 ..)));refine⟨m2.1,[(p,ag)],_,_,_,_,_,_,_,_,λq hql=>?_,?_,λ_=>⟨1,.inl ⟨m2,inM m2 (cg _ (b6 ..)),rfl,by rw[hp];rfl⟩,rfl⟩,fin (aBg c1 (aH8 (ns:=ns) (at_:=at_) (M:=M) (T:=T) (K:=K) (kind:=kind) (mo:=mo) (le:=le) (h:=h) (R:=R) (A:=A) (x14:=x14) (x15:=x15) (x16:=x16) (F:=F) (m0:=m0) (p:=p) hw hp))⟩
  ·rw[jg.mp hql];exact mp.2.2 p (by rw[hp];exact b6 ..)
  ·unfold mu;rw[sm,sm,sm,sm];have:=aD7 ns (p,ag);lia
 rw[rX] at z1;rw[z1] at c1;by_cases z:(h.2||(decide (((mo:af):ai)<=(ws.length:af)+(r.length:af))||(dr % 4==0)))=ae
 ·rw[z] at c2;obtain⟨w,L,hL,hL2,e⟩:=aH7 (ns:=ns) (at_:=at_) (M:=M) (T:=T) (K:=K) (kind:=kind) (mo:=mo) (le:=le) (h:=h) (R:=m2::R) (A:=A) (x14:=x14) (x15:=x15) (x16:=x16) hw hr hd (F:=F) 0x1 (m0:=m0) (by rcases hq with q|⟨q,_⟩<;>rw[q]<;>exact dQ rfl);refine⟨w,L,_,_,_,_,_,_,_,_,λq hql=>?_,?_,λhK0=>?_,fin (tB c1 (aBg c2 e))⟩
  rotate_right
  ·have hF0:F=[]:=zr.mp (by rw[hK0] at hF;simpa using hF);obtain⟨e1,e2⟩:=hL2 hF0;exact⟨_,.inl ⟨m0,inM m0 (b6 ..),e1,rfl⟩,by rw[e2,cx,bd]⟩
  ·rcases hL with rfl|rfl
   ·exact hkr q hql
   ·rcases gz.mp hql with hql|hql
    ·obtain⟨x,hx,rfl⟩:=cz.mp hql;exact(hM.part m0 (inM m0 (b6 ..))).2.2 x hx
    ·exact hkr q hql
  ·unfold mu;rw[sm];rcases hL with rfl|rfl
   ·lia
   ·rw[S_];rcases hq with q|⟨q,q2⟩
    ·rw[q];show _+(0+_)+1<=_;lia
    ·rw[q];have e1:sm ns ([wrd ns 0].map λx=>(x,ae))=1:=by
      show(if wrd ns 0=wrd ns 0 then 1 else 2)+0=1;rw[au rfl]
     have e2:wt ns h=2:=by
      unfold wt;rw[az q2]
     rw[e1,e2];lia
 ·rw[rX] at z;rw[z] at c2;have lt:ws.length+r.length<mo:=by
   simp only[zt,tT] at z;lia
  by_cases y:(decide (dr % 4<3)||(((A.length:af):ai)==0))=ae
  ·rw[y] at c3;obtain⟨m,y14,hmm,e⟩:=aH9 (ns:=ns) (at_:=at_) (M:=M) (T:=T) (K:=K) (kind:=kind) (mo:=mo) (le:=le) (h:=h) (F:=F) (A:=A) (x14:=x14) (x15:=x15) (x16:=x16) hw hr hd (m0:=m0) (R:=m2::R) hlen (λm hq=>(hM.part m (inM m hq)).2.1);have mp:=hM.part m (inM m hmm);refine⟨m.1,_,_,_,_,_,_,_,_,_,λq hql=>?_,?_,λ_=>⟨_,.inl ⟨m,inM m hmm,rfl,rfl⟩,by rw[cx,bd]⟩,fin (tB c1 (tB c2 (aBg c3 e)))⟩
   ·rcases gz.mp hql with hql|hql
    ·obtain⟨x,hx,rfl⟩:=cz.mp hql;exact mp.2.2 x hx
    ·exact hkr q hql
   ·unfold mu;have:=aD9 (ns:=ns) m.2.2 ag mp.2.1;rw[sm,S_];lia
  ·rw[rX] at y;rw[y] at c3;have hA0:0<A.length:=by
    simp only[zt,gr] at y;lia
   obtain⟨m,b,y15,y16,hmm,e⟩:=aHa (ns:=ns) (at_:=at_) (M:=M) (T:=T) (K:=K) (kind:=kind) (mo:=mo) (le:=le) (h:=h) (F:=F) (m0:=m0) (R:=m2::R) (x14:=x14) (x15:=x15) (x16:=x16) hw hr hd (A:=A) hA0 (λm hq=>yb (hT m (inT m hq)).2.2.2.1);have mp:=hT m (inT m hmm);refine⟨m.1,_,_,_,_,_,_,_,_,_,λq hql=>?_,?_,λ_=>⟨_,.inr ⟨m,inT m hmm,rfl,rfl⟩,by simp only[cx,bj,bd]⟩,fin (tB c1 (tB c2 (tB c3 e)))⟩
   ·rcases gz.mp hql with hql|hql
    ·rcases b9.mp hql with rfl|hql
     ·exact mp.2.2.1
     ·obtain⟨x,hx,rfl⟩:=cz.mp hql;exact mp.2.2.2.2 x hx
    ·exact hkr q hql
   ·unfold mu;have:=(KY ns (m.2.2.2.map λx=>(x,ag))).2;rw[bd] at this;have:=mp.2.2.2.1;have:=aD7 ns (m.2.2.1,b);rw[sm,S_,sm];lia
theorem aHc(hn:ns.length<=63)(hm:0<many)(hm3:many<=3)(hM:MOk ns many many.toNat M)(hT:∀t∈T,kE ns many t)(hTl:T.length<=3)(hK:K.length<=100)(hlm:le<=mo) :
  ∀(n:af)(ws:aa Str)(L:aa Wt)(x9 x10 x11 x12 x13 x14 x15 x16:D),(∀q∈L,IsK ns many q.1)->mu mo ns ws.length L<n->ws.length+mu mo ns ws.length L<=600->
  ∃(vs:aa Str)(y9 y10 y11 y12 y13 y14 y15 y16:D),(vs.length<=mu mo ns ws.length L/\(K=[]->Dn M T L.length vs))/\aCi (bTB (b2 (b7 (.ord .gt)) (aK dR (aA n_ aN)) bK)) aD8 n (ww ns at_ M T K kind mo le ws L x9 x10 x11 x12 x13 x14 x15 x16)=.ok (.nx (ww ns at_ M T K kind mo le (ws++vs) [] y9 y10 y11 y12 y13 y14 y15 y16)):=by
 intro n;induction n with
 |zero=>intro ws L x9 x10 x11 x12 x13 x14 x15 x16 _ h;lia
 |succ n ih=>
  intro ws L x9 x10 x11 x12 x13 x14 x15 x16 hL h1 h2;have c:bTB (b2 (b7 (.ord .gt)) (aK dR (aA n_ aN)) bK) (ww ns at_ M T K kind mo le ws L x9 x10 x11 x12 x13 x14 x15 x16)=.ok (decide ((0:ai)<(L.length:af))):=dW (aJ (x:=.int (L.length:af)) (y:=.int 0) (aR (xs:=[.lst (L.map wD)]) (aD rfl rfl) (by rw[iU,bd])) rfl (aI7 _ _));cases L with
  |nil=>
   refine⟨[],x9,x10,x11,x12,x13,x14,x15,x16,⟨di _,λ_=>.nil⟩,?_⟩;rw[aCi,c,gL];rfl
  |cons h r=>
   have hl:=(KY ns (h::r)).1;rw[bj] at hl;have hmu:sm ns (h::r)<=mu mo ns ws.length (h::r):=by unfold mu;lia
   obtain⟨w,L,y9,y10,y11,y12,y13,y14,y15,y16,i1,i2,i4,i3⟩:=aHb (at_:=at_) (kind:=kind) (mo:=mo) (le:=le) (x9:=x9) (x10:=x10) (x11:=x11) (x12:=x12) (x13:=x13) (x14:=x14) (x15:=x15) (x16:=x16) hn hm hm3 hM hT hTl hK (ws:=ws) (r:=r) (h:=h) 0x1 0x1 hlm hL;have wl:(ws++[w]).length=ws.length+1:=by rw[cx];rfl
   obtain⟨vs,z9,z10,z11,z12,z13,z14,z15,z16,j0,j⟩:=ih (ws++[w]) L y9 y10 y11 y12 y13 y14 y15 y16 i1 (by rw[wl];lia) (by rw[wl];lia);refine⟨w::vs,z9,z10,z11,z12,z13,z14,z15,z16,⟨by have:=j0.1;rw[wl] at this;rw[bj];lia,λhK0=>?_⟩,?_⟩
   ·obtain⟨a,k1,k2⟩:=i4 hK0;have d:=j0.2 hK0;rw[k2] at d;exact .cons k1 d
   rw[show ws++w::vs=ws++[w]++vs by simp];have:decide ((0:ai)<((h::r).length:af))=ae:=cb (by rw[bj];lia);rw[aCi,c,this,Res.aZ,au rfl,i3];exact j
theorem TF(hn:ns.length<=63)(hm:0<many)(hm3:many<=3)(hM:MOk ns many many.toNat M)(hT:∀t∈T,kE ns many t)(hTl:T.length<=3)(hK:K.length<=100)(hlm:le<=mo)(hmo:mo<=70)(hk:IsK ns many kind) :
  ∃vs:aa Str,(vs.length<=450/\(K=[]->Dn M T 1 vs))/\bV 7 dH [.scr (ns.map D.int),.int at_,bkD M T,.dct (knD K),.str kind,.int (mo:af),.int (le:af)]=.ok (.tup (vs.map D.str)):=by
 have m1:mu mo ns ([]:aa Str).length [(kind,ag)]<=450:=by
  have:=(KY ns [(kind,ag)]).2;unfold mu;have e:[(kind,ag)].length=1:=rfl;have e2:([]:aa Str).length=0:=rfl;lia
 obtain⟨vs,z9,z10,z11,z12,z13,z14,z15,z16,j0,j⟩:=aHc hn hm hm3 hM hT hTl hK hlm 1000 [] [(kind,ag)] .uD .uD .uD .uD .uD .uD .uD .uD (λq hq=>by rw[jg.mp hq];exact hk) 0x1 (by show 0+_<=600;lia);refine⟨vs,⟨dw j0.1 m1,j0.2⟩,(gB rfl).trans (call_v ?_)⟩;rw[aAw];refine aQ (eN (nD rfl (di _)) rfl) ?_;refine aQ (eN (xJ (aD (cR (aD rfl (aD rfl rfl)) uN) rfl) (cO (dQ rfl)) rfl) rfl) ?_;refine aQ j ?_;exact lD (aR (aD rfl rfl) rfl) (by rw[D.pure,bQ];rfl)
noncomputable abbrev Rl:=Str×Str×aa Str×aa Str
def rlD(r:Rl):D:=.tup [.str r.1,.str r.2.1,.tup (r.2.2.1.map D.str),.tup (r.2.2.2.map D.str)]
theorem tQ(r:Rl):(rlD r).pure=ae:=by
 show(ae&&(ae&&((D.tup (r.2.2.1.map D.str)).pure&&((D.tup (r.2.2.2.map D.str)).pure&&ae))))=ae;rw[D.pure,D.pure,bQ,bQ];rfl
theorem aEf:∀(K:aa (Str×Str))(x y:Str),∃K':aa (Str×Str),K'.length<=K.length+1/\putD (knD K) (.str x) (.str y)=knD K'
 |[],x,y=>⟨[(x,y)],ba _,rfl⟩
 |p::K,x,y=>by
  show ∃K':aa (Str×Str),K'.length<=(p::K).length+1/\(if (p.1==x) then (D.str p.1,D.str y)::knD K else (D.str p.1,D.str p.2)::putD (knD K) (.str x) (.str y))=knD K';by_cases z:(p.1==x)=ae
  ·rw[au z];exact⟨(p.1,y)::K,by simp,rfl⟩
  ·rw[az z];obtain⟨K',h1,h2⟩:=aEf K x y;rw[h2];refine⟨p::K',?_,rfl⟩;rw[bj,bj];lia
theorem aEg:∀(a b:aa Str)(K:aa (Str×Str)),∃K':aa (Str×Str),K'.length<=K.length+a.length/\uA (a.map D.str) (b.map D.str) (knD K)=knD K'
 |[],b,K=>⟨K,ba _,by cases b<;>rfl⟩
 |x::a,[],K=>⟨K,rc ..,rfl⟩
 |x::a,y::b,K=>by
  obtain⟨K1,h1,h2⟩:=aEf K x y;obtain⟨K2,i1,i2⟩:=aEg a b K1;refine⟨K2,by rw[bj];lia,?_⟩;show uA (a.map D.str) (b.map D.str) (putD (knD K) (.str x) (.str y))=_;rw[h2,i2]
theorem aAx(a:aa Str):(a.map D.str).all lL=ae:=by
 rw[fE];intro d hd;obtain⟨x,_,rfl⟩:=cz.mp hd;rfl
def inr:FS:=(bG (bO ag 5 (b2 LR (b2 getD iY gG) (b2 getD dO lY)) ag) (bG (bO ag 6 (aK (bV 2 aL) (aA bN (aA (b2 (a_ .add) zX (aK dR (aA fV aN))) aN))) ae) (bG (bO ag 7 (cY 11 (gP (aA (aK dR (aA eV aN)) aN) kO) gQ dC (aK (bV 2 aP) (aA bN (aA (b2 (a_ .add) VG (b2 (a_ .mod) (b2 (a_ .add) mF mC) YS)) aN))) ae) ae) (bG (bO ag 7 (aK fX (aA (b2 getD (oR (aA fB (aA (b1 aE6 fB) aN))) (b2 (a_ .mod) (b2 (a_ .fdiv) mF YS) gG)) aN)) ag) (bG (bO ag 8 (aK wV (aA fB (aA eV aN))) ae) (bG (bO ag 9 (aK (λds=>bV 7 dH (ds++[.int 0])) (aA bN (aA (b2 (a_ .add) YW (b2 mY aFl (aK dR (aA fV aN)))) (aA eY (aA n_ (aA (b2 getD dO cJ) (aA YS aN))))))) ae) (yN 2 (cZ (aA (b2 getD dO bK) (aA (b2 getD iY bK) (aA fB (aA sG aN))))))))))))
def irs:FS:=(sIf (bTB (b2 (b7 .eq) (b2 getD iY cJ) (b2 getD dO gG))) inr mG)
theorem aAy:uF=bG (bO ae 2 (oR aN) ae) (bG (uW (bM (b2 getD eY cJ) ag) (tg1 3) (uW (bM (b2 getD eY bK) ag) (tg1 4) irs)) (bG (bO ag 10 (b2 (a_ .mod) (aK (bV 2 aL) (aA bN (aA (bC (.int 35)) aN))) (aK max2 (aA cJ (aA (aK dR (aA fV aN)) aN)))) ae) (jV (aK fX (aA (b2 (a_ .add) (aG4 fV (N6 jW) N7) (aG4 fV N7 (N6 jW))) aN)) ag))):=rfl
def rr(ns:aa ai)(M:aa Mk)(T:aa Tk)(R:aa Rl)(x3 x4 x5 x6 x7 x8 x9 x10:D):aa D:=[.scr (ns.map D.int),bkD M T,.lst (R.map rlD),x3,x4,x5,x6,x7,x8,x9,x10]
theorem KZ(g:aa D->D->Res (aa D))(d:α->D):∀(xs acc:aa D),(∀x∈xs,∀acc,∃y:α,g acc x=.ok (acc++[d y]))->∃zs:aa α,zs.length=xs.length/\fY g acc xs=.ok (acc++zs.map d)
 |[],acc,_=>⟨[],rfl,(by simp[fY])⟩
 |x::xs,acc,h=>by
  obtain⟨y,h3⟩:=h x (b6 ..) acc;obtain⟨zs,i2,i3⟩:=KZ g d xs (acc++[d y]) λy hy=>h y (cg _ hy)
  refine⟨y::zs,by rw[bj,bj,i2],?_⟩;rw[fY,h3];show fY g _ _=_;rw[i3,bw,eP];rfl
theorem aDa{ns:aa ai}(hn:ns.length<=63)(hρ:ρ.length=n)(h0:∀x:D,iW 0 (ρ++[x])=.ok (.scr (ns.map D.int)))(hg:g ρ=.ok [.int sz])(hs1:sz<=100)
 (hf:∀p:ai,∃j:ai,0<=j/\j<=33/\f (ρ++[.int p])=.ok (.int j)) :
  ∃xs:aa Str,xs.length=sz/\cY n (gP g kO) gQ dC (aK (bV 2 aP) (aA bN (aA f aN))) ae ρ=.ok (.lst (xs.map D.str)):=by
 obtain⟨xs,h2,h3⟩:=KZ (jM n gQ dC (aK (bV 2 aP) (aA bN (aA f aN))) ae ρ) D.str ((cr sz).map λ(k:af)=>D.int (0+(k:ai))) [] (λx hx acc=>by
  obtain⟨k,hk,rfl⟩:=cz.mp hx;obtain⟨j,j0,j1,e⟩:=hf (0+(k:ai));have w:=(oO hn j0 j1).1;refine⟨wrd ns j,?_⟩;exact gC (b:=ae) hρ rfl rfl λ_=>⟨aR (aD (h0 _) (aD e rfl)) w,rfl⟩)
 rw[dP] at h3;rw[bd,ip] at h2;have rg:=t8 hg 0x1 0x1;rw[ym] at rg;exact⟨xs,h2,fG rg (by rw[bd,ip,cM];lia) h3⟩
theorem aL5(a:aa Str):aE6 (.lst (a.map D.str))=.ok (.lst (a.reverse.map D.str)):=by
 rw[aE6,au (bQ a),zv]
theorem aL6(hn:ns.length<=63)(hm:0<many)(hm3:many<=3)(hM:MOk ns many many.toNat M)(hT:∀t∈T,kE ns many t)(hTl:T.length<=3)(ht:t∈T)(hmm:m∈M)(hR:R.length<=200) :
  ∃(R':aa Rl)(y5 y6 y7 y8 y9:D),R'.length<=R.length+1/\irs (rr ns M T R (tkD t) (mkD m) x5 x6 x7 x8 x9 x10)=.ok (.nx (rr ns M T R' (tkD t) (mkD m) y5 y6 y7 y8 y9 x10)):=by
 have tp:=hT t ht;have mp:=hM.part m hmm;have c:bTB (b2 (b7 .eq) (b2 getD iY cJ) (b2 getD dO gG)) (rr ns M T R (tkD t) (mkD m) x5 x6 x7 x8 x9 x10)=.ok (m.2.1==t.2.2.1):=dW (aJ (aJ rfl rfl rfl) (aJ rfl rfl rfl) (eq_str _ _));by_cases z:(m.2.1==t.2.2.1)=ae
 ·rw[z] at c;have at1:=GD (m.2.2.map D.str) (t.2.2.2.map D.str) (by rw[bd,bd];have:=mp.2.1;have:=tp.2.2.2.1;lia);rw[<-c_] at at1;generalize hks:m.2.2++t.2.2.2=ks at at1;have kl:ks.length<=6:=by rw[<-hks,cx];have:=mp.2.1;have:=tp.2.2.2.1;lia
  have a26:=dG 26 (R.length:af);generalize hdr:drw ns (26+(R.length:af))=dr;have s1:bO ag 5 (b2 LR (b2 getD iY gG) (b2 getD dO lY)) ag (rr ns M T R (tkD t) (mkD m) x5 x6 x7 x8 x9 x10)=.ok (.nx (rr ns M T R (tkD t) (mkD m) (.tup (ks.map D.str)) x6 x7 x8 x9 x10)):=iQ (aJ (aJ rfl rfl rfl) (aJ rfl rfl rfl) at1) (by rw[D.pure,bQ]);have s2:bO ag 6 (aK (bV 2 aL) (aA bN (aA (b2 (a_ .add) zX (aK dR (aA fV aN))) aN))) ae (rr ns M T R (tkD t) (mkD m) (.tup (ks.map D.str)) x6 x7 x8 x9 x10)=.ok (.nx (rr ns M T R (tkD t) (mkD m) (.tup (ks.map D.str)) (.int dr) x7 x8 x9 x10)):=by
   refine bW ?_;rw[<-hdr];exact l_ hn rfl (aJ (y:=.int (R.length:af)) rfl (aR (xs:=[.lst (R.map rlD)]) (aD rfl rfl) (by rw[iU,bd])) a26)
  obtain⟨nm,nl,en⟩:=aDa (n:=11) (ρ:=rr ns M T R (tkD t) (mkD m) (.tup (ks.map D.str)) (.int dr) x7 x8 x9 x10) (f:=b2 (a_ .add) VG (b2 (a_ .mod) (b2 (a_ .add) mF mC) YS)) (sz:=ks.length) (g:=aA (aK dR (aA eV aN)) aN) hn rfl (λ_=>rfl) (aD (aR (xs:=[.tup (ks.map D.str)]) (aD rfl rfl) (show dR [.tup (ks.map D.str)]=.ok (.int (ks.length:af)) by rw[show dR [.tup (ks.map D.str)]=.ok (.int ((ks.map D.str).length:af)) from rfl,bd])) rfl) 0x1 (λp=>by
   have e1:=dG dr p;have e2:=cN (dr+p) 5 0x4;have e3:=dG 12 ((dr+p) % 5);exact⟨12+(dr+p) % 5,by lia,by lia,aJ (x:=.int 12) (y:=.int ((dr+p) % 5)) rfl (aJ (x:=.int (dr+p)) (y:=.int 5) (aJ (x:=.int dr) (y:=.int p) rfl rfl e1) rfl e2) e3⟩)
  have s3:=bW (i:=7) en;have f5:=fH dr 5 0x4 0x4;have m2:=cN (dr / 5) 2 0x4;have gt:=xK (.lst (nm.map D.str)) (.lst (nm.reverse.map D.str)) (dr / 5 % 2) 0x1 0x1;obtain⟨nn,nnl,gt'⟩:∃nn:aa Str,nn.length=nm.length/\getD (.lst [.lst (nm.map D.str),.lst (nm.reverse.map D.str)]) (.int (dr / 5 % 2))=.ok (.lst (nn.map D.str)):=by
   by_cases y:dr / 5 % 2=0
   ·rw[au y] at gt;exact⟨nm,rfl,gt⟩
   ·rw[az y] at gt;exact⟨nm.reverse,ng,gt⟩
  have s4:bO ag 7 (aK fX (aA (b2 getD (oR (aA fB (aA (b1 aE6 fB) aN))) (b2 (a_ .mod) (b2 (a_ .fdiv) mF YS) gG)) aN)) ag (rr ns M T R (tkD t) (mkD m) (.tup (ks.map D.str)) (.int dr) (.lst (nm.map D.str)) x8 x9 x10)=.ok (.nx (rr ns M T R (tkD t) (mkD m) (.tup (ks.map D.str)) (.int dr) (.tup (nn.map D.str)) x8 x9 x10)):=by
   have rv:b1 aE6 fB (rr ns M T R (tkD t) (mkD m) (.tup (ks.map D.str)) (.int dr) (.lst (nm.map D.str)) x8 x9 x10)=.ok (.lst (nm.reverse.map D.str)):=aL5 nm;exact iQ (i:=7) (d:=.tup (nn.map D.str)) (aR (xs:=[.lst (nn.map D.str)]) (aD (aJ (nD (xs:=[.lst (nm.map D.str),.lst (nm.reverse.map D.str)]) (aD rfl (aD rv rfl)) uN) (aJ (x:=.int (dr / 5)) (aJ (x:=.int dr) rfl rfl f5) rfl m2) gt') rfl) rfl) (by rw[D.pure,bQ])
  obtain⟨K,kk,ek⟩:=aEg nn ks [];rw[eL] at kk;have zp:wV [.tup (nn.map D.str),.tup (ks.map D.str)]=.ok (.dct (knD K)):=by
   rw[wV,au (by rw[aAx,bQ,bd,bd,cb (show nn.length<=1000 by lia),cb (show ks.length=nn.length by lia)];rfl)];exact dl (λx=>Res.ok (D.dct x)) ek
  have s5:bO ag 8 (aK wV (aA fB (aA eV aN))) ae (rr ns M T R (tkD t) (mkD m) (.tup (ks.map D.str)) (.int dr) (.tup (nn.map D.str)) x8 x9 x10)=.ok (.nx (rr ns M T R (tkD t) (mkD m) (.tup (ks.map D.str)) (.int dr) (.tup (nn.map D.str)) (.dct (knD K)) x9 x10)):=bW (i:=8) (aR (xs:=[.tup (nn.map D.str),.tup (ks.map D.str)]) (aD rfl (aD rfl rfl)) zp);have m20:=tD 20 (R.length:af) 0x4;have a100:=dG 100 (20*(R.length:af));obtain⟨vs,_,ew⟩:=TF (at_:=100+20*(R.length:af)) (K:=K) (kind:=t.2.1) (mo:=5) (le:=0) hn hm hm3 hM hT hTl 0x1 0x4 0x4 tp.2.1;have s6:bO ag 9 (aK (λds=>bV 7 dH (ds++[.int 0])) (aA bN (aA (b2 (a_ .add) YW (b2 mY aFl (aK dR (aA fV aN)))) (aA eY (aA n_ (aA (b2 getD dO cJ) (aA YS aN))))))) ae (rr ns M T R (tkD t) (mkD m) (.tup (ks.map D.str)) (.int dr) (.tup (nn.map D.str)) (.dct (knD K)) x9 x10)=.ok (.nx (rr ns M T R (tkD t) (mkD m) (.tup (ks.map D.str)) (.int dr) (.tup (nn.map D.str)) (.dct (knD K)) (.tup (vs.map D.str)) x10)):=bW (i:=9) (aR (xs:=[.scr (ns.map D.int),.int (100+20*(R.length:af)),bkD M T,.dct (knD K),.str t.2.1,.int 5]) (aD rfl (aD (aJ (x:=.int 100) (y:=.int (20*(R.length:af))) rfl (aJ (x:=.int 20) (y:=.int (R.length:af)) rfl (aR (xs:=[.lst (R.map rlD)]) (aD rfl rfl) (by rw[iU,bd])) m20) a100) (aD rfl (aD rfl (aD (aJ (x:=tkD t) (y:=.int 1) rfl rfl rfl) (aD rfl rfl)))))) ew);have ap:=t_ (i:=2) (ρ:=rr ns M T R (tkD t) (mkD m) (.tup (ks.map D.str)) (.int dr) (.tup (nn.map D.str)) (.dct (knD K)) (.tup (vs.map D.str)) x10) (f:=cZ (aA (b2 getD dO bK) (aA (b2 getD iY bK) (aA fB (aA sG aN))))) (xs:=R.map rlD) (d:=rlD (t.1,m.1,nn,vs)) (cR (xs:=[.str t.1,.str m.1,.tup (nn.map D.str),.tup (vs.map D.str)]) (aD (aJ (x:=tkD t) (y:=.int 0) rfl rfl rfl) (aD (aJ (x:=mkD m) (y:=.int 0) rfl rfl rfl) (aD rfl (aD rfl rfl)))) (cO (dQ rfl))) rfl (by rw[bd,cM];lia) (tQ _);refine⟨R++[(t.1,m.1,nn,vs)],.tup (ks.map D.str),.int dr,.tup (nn.map D.str),.dct (knD K),.tup (vs.map D.str),by rw[cx];exact ba _,aBg c (aQ s1 (aQ s2 (aQ s3 (aQ s4 (aQ s5 (aQ s6 ?_))))))⟩;unfold rr;rw[c_];exact ap
 ·rw[rX] at z;rw[z] at c;exact⟨R,x5,x6,x7,x8,x9,gN _,tB c rfl⟩
theorem TJ(hn:ns.length<=63)(hm:0<many)(hm3:many<=3)(hM:MOk ns many many.toNat M)(hT:∀t∈T,kE ns many t)(hTl:T.length<=3)(ht:t∈T) :
  ∀(N:aa Mk)(R:aa Rl)(x4 x5 x6 x7 x8 x9 x10:D),(∀m∈N,m∈M)->R.length+N.length<=200->∃(R':aa Rl)(y4 y5 y6 y7 y8 y9:D),R'.length<=R.length+N.length/\uV (tg1 4) irs (N.map mkD) (rr ns M T R (tkD t) x4 x5 x6 x7 x8 x9 x10)=.ok (.nx (rr ns M T R' (tkD t) y4 y5 y6 y7 y8 y9 x10))
 |[],R,x4,x5,x6,x7,x8,x9,x10,_,_=>⟨R,x4,x5,x6,x7,x8,x9,ba _,rfl⟩
 |m::N,R,x4,x5,x6,x7,x8,x9,x10,hN,hl=>by
  rw[bj] at hl;obtain⟨R1,y5,y6,y7,y8,y9,h1,h2⟩:=aL6 hn hm hm3 hM hT hTl ht (hN m (b6 ..)) (R:=R) 0x1;obtain⟨R2,z4,z5,z6,z7,z8,z9,i1,i2⟩:=TJ hn hm hm3 hM hT hTl ht N R1 (mkD m) y5 y6 y7 y8 y9 x10 (λq hq=>hN q (cg _ hq)) 0x1;refine⟨R2,z4,z5,z6,z7,z8,z9,by rw[bj];lia,?_⟩;exact d7 (ρ1:=rr ns M T R (tkD t) (mkD m) x5 x6 x7 x8 x9 x10) rfl h2 i2
theorem TQ(hn:ns.length<=63)(hm:0<many)(hm3:many<=3)(hM:MOk ns many many.toNat M)(hT:∀t∈T,kE ns many t)(hTl:T.length<=3) :
  ∀(N:aa Tk)(R:aa Rl)(x3 x4 x5 x6 x7 x8 x9 x10:D),(∀m∈N,m∈T)->R.length+9*N.length<=200->∃(R':aa Rl)(y3 y4 y5 y6 y7 y8 y9:D),R'.length<=R.length+9*N.length/\uV (tg1 3) (uW (bM (b2 getD eY bK) ag) (tg1 4) irs) (N.map tkD) (rr ns M T R x3 x4 x5 x6 x7 x8 x9 x10)=.ok (.nx (rr ns M T R' y3 y4 y5 y6 y7 y8 y9 x10))
 |[],R,x3,x4,x5,x6,x7,x8,x9,x10,_,_=>⟨R,x3,x4,x5,x6,x7,x8,x9,ba _,rfl⟩
 |t::N,R,x3,x4,x5,x6,x7,x8,x9,x10,hN,hl=>by
  rw[bj] at hl;have ml:=hM.len;obtain⟨R1,y4,y5,y6,y7,y8,y9,h1,h2⟩:=TJ hn hm hm3 hM hT hTl (hN t (b6 ..)) M R x4 x5 x6 x7 x8 x9 x10 (λ_ h=>h) 0x1;obtain⟨R2,z3,z4,z5,z6,z7,z8,z9,i1,i2⟩:=TQ hn hm hm3 hM hT hTl N R1 (tkD t) y4 y5 y6 y7 y8 y9 x10 (λq hq=>hN q (cg _ hq)) 0x1;refine⟨R2,z3,z4,z5,z6,z7,z8,z9,by rw[bj];lia,?_⟩;have pm:(ag||(D.tup (M.map mkD)).pure)=ae:=by rw[D.pure,aU lX];rfl
  have it:=gD (a:=b2 getD eY bK) (ρ:=rr ns M T R (tkD t) x4 x5 x6 x7 x8 x9 x10) (xs:=M.map mkD) (aJ (x:=bkD M T) (y:=.int 0) rfl rfl rfl);rw[pm] at it;exact d7 (ρ1:=rr ns M T R (tkD t) x4 x5 x6 x7 x8 x9 x10) rfl (t7 it h2) i2
theorem aDb(f:α->D)(L:aa α)(lo hi:ax ai):cutD (L.map f) lo hi=(cutD L lo hi).map f:=by
 unfold cutD;rw[bd,List.map_take,List.map_drop]
theorem TV(L:aa α)(lo hi:ax ai):(cutD L lo hi).length<=L.length:=by
 unfold cutD;exact dw (List.length_take_le' ..) (by rw[n4];lia)
theorem aDc(hn:ns.length<=63)(hm:0<many)(hm3:many<=3)(hM:MOk ns many many.toNat M)(hT:∀t∈T,kE ns many t)(hTl:T.length<=3):∃R:aa Rl,bV 2 j8 [.scr (ns.map D.int),bkD M T]=.ok (.tup (R.map rlD)):=by
 obtain⟨R,y3,y4,y5,y6,y7,y8,y9,h1,h2⟩:=TQ hn hm hm3 hM hT hTl T [] .uD .uD .uD .uD .uD .uD .uD .uD (λ_ h=>h) (by show 0+_<=200;lia);rw[eL] at h1;obtain⟨n,n1,hx⟩:∃n:ai,0<n/\max2 [.int 1,.int (R.length:af)]=.ok (.int n):=by
  refine⟨_,?_,aNm R.length⟩;split<;>lia
 have mn:=cN (drw ns 35) n n1;generalize hat:drw ns 35 % n=at_ at mn;have pt:(ag||(D.tup (T.map tkD)).pure)=ae:=by rw[D.pure,aU nF];rfl
 have it:=gD (a:=b2 getD eY cJ) (ρ:=rr ns M T [] .uD .uD .uD .uD .uD .uD .uD .uD) (xs:=T.map tkD) (aJ (x:=bkD M T) (y:=.int 1) rfl rfl rfl);rw[pt] at it;refine⟨cutD R (ab at_) aj++cutD R aj (ab at_),(gB rfl).trans (call_v ?_)⟩;rw[aAy];refine aQ (ρ':=rr ns M T [] .uD .uD .uD .uD .uD .uD .uD .uD) (eN (i:=2) (nD (xs:=[]) rfl (di _)) rfl) ?_;refine aQ (t7 it h2) ?_;refine aQ (ρ':=rr ns M T R y3 y4 y5 y6 y7 y8 y9 (.int at_)) (bW (i:=10) (aJ (x:=.int (drw ns 35)) (y:=.int n) (l_ hn rfl rfl) (aR (xs:=[.int 1,.int (R.length:af)]) (aD rfl (aD (aR (xs:=[.lst (R.map rlD)]) (aD rfl rfl) (by rw[iU,bd])) rfl)) hx) mn)) ?_;have sl:∀lo hi,aI3 (.lst (R.map rlD)) lo hi=.ok (.lst ((cutD R lo hi).map rlD)):=λlo hi=>by
  show aI0 (.lst (R.map rlD)) lo hi=_;rw[aI0,au (aU tQ R),aDb]
 have e1:aG4 fV (N6 jW) N7 (rr ns M T R y3 y4 y5 y6 y7 y8 y9 (.int at_))=.ok (.lst ((cutD R (ab at_) aj).map rlD)):=sl (ab at_) aj;have e2:aG4 fV N7 (N6 jW) (rr ns M T R y3 y4 y5 y6 y7 y8 y9 (.int at_))=.ok (.lst ((cutD R aj (ab at_)).map rlD)):=sl aj (ab at_);have l1:=TV R (ab at_) aj;have l2:=TV R aj (ab at_);have e3:=lV ((cutD R (ab at_) aj).map rlD) ((cutD R aj (ab at_)).map rlD) (by rw[bd,bd];exact cO 0x1) (aU tQ _) (aU tQ _);rw[<-c_] at e3;exact lD (d:=.tup ((cutD R (ab at_) aj++cutD R aj (ab at_)).map rlD)) (aR (xs:=[.lst ((cutD R (ab at_) aj++cutD R aj (ab at_)).map rlD)]) (aD (aJ e1 e2 e3) rfl) rfl) (by rw[D.pure,aU tQ];rfl)
def pgD(ks:aa Str)(M:aa Mk)(T:aa Tk)(R:aa Rl):D:=.tup [.tup (ks.map D.str),.tup (M.map mkD),.tup (T.map tkD),.tup (R.map rlD)]
theorem aHd(ks:aa Str)(M:aa Mk)(T:aa Tk)(R:aa Rl):(pgD ks M T R).pure=ae:=by
 show((D.tup (ks.map D.str)).pure&&((D.tup (M.map mkD)).pure&&((D.tup (T.map tkD)).pure&&((D.tup (R.map rlD)).pure&&ae))))=ae;rw[D.pure,D.pure,D.pure,D.pure,bQ,aU lX,aU nF,aU tQ];rfl
theorem WP(hn:ns.length<=63):∃(many:ai)(ks:aa Str)(M:aa Mk)(T:aa Tk)(R:aa Rl),(0<many/\many<=3)/\MOk ns many many.toNat M/\(∀t∈T,kE ns many t)/\(T.length<=3/\T.map (·.1)=(cr T.length).map (λ(k:af)=>wrd ns (17+(k:ai))))/\((∀k∈ks,IsK ns many k)/\ks.length=many.toNat)/\bV 1 g8 [.scr (ns.map D.int)]=.ok (pgD ks M T R):=by
 have m3:=cN (drw ns 39) 3 0x4;have a1:=dG 1 (drw ns 39 % 3);generalize hmany:1+drw ns 39 % 3=many at a1;have hm:0<many:=by lia
 have hm3:many<=3:=by lia
 obtain⟨M,hM,eM⟩:=aAq hn hm hm3;obtain⟨T,hT,hTl,eT⟩:=aAr hn hm hm3;obtain⟨R,eR⟩:=aDc hn hm hm3 hM hT hTl.1;have ml:=hM.len;obtain⟨ks,h1,h2,h3⟩:=tO (jM 4 gQ dC (aK (bV 2 aP) (aA bN (aA iY aN))) ae [.scr (ns.map D.int),.int many,bkD M T,.uD]) D.str (IsK ns many) ((cr many.toNat).map λ(k:af)=>D.int (0+(k:ai))) [] (λx hx acc=>by
  obtain⟨k,hk,rfl⟩:=cz.mp hx;have hk:=i5.mp hk;have w:=(oO hn (i:=0+(k:ai)) 0x1 0x1).1;exact⟨wrd ns (0+(k:ai)),⟨_,by lia,by lia,rfl⟩,gC (b:=ae) (bs:=[.int (0+(k:ai))]) (y:=.str (wrd ns (0+(k:ai)))) rfl rfl rfl λ_=>⟨aR (xs:=[.scr (ns.map D.int),.int (0+(k:ai))]) (aD rfl (aD rfl rfl)) w,rfl⟩⟩)
 rw[dP] at h3;rw[bd,ip] at h2;refine⟨many,ks,M,T,R,⟨hm,hm3⟩,hM,hT,hTl,⟨h1,h2⟩,(gB rfl).trans (call_v ?_)⟩;refine aQ (ρ':=[.scr (ns.map D.int),.int many,.uD,.uD]) (bW (i:=1) (aJ (x:=.int 1) (y:=.int (drw ns 39 % 3)) rfl (aJ (x:=.int (drw ns 39)) (l_ hn rfl rfl) rfl m3) a1)) ?_;refine aQ (ρ':=[.scr (ns.map D.int),.int many,bkD M T,.uD]) (bW (i:=2) (cR (xs:=[.tup (M.map mkD),.tup (T.map tkD)]) (aD (aR (xs:=[.scr (ns.map D.int),.int many]) (aD rfl (aD rfl rfl)) eM) (aD (aR (xs:=[.scr (ns.map D.int),.int many]) (aD rfl (aD rfl rfl)) eT) rfl)) uN)) ?_;refine aQ (ρ':=[.scr (ns.map D.int),.int many,bkD M T,.tup (ks.map D.str)]) (iQ (i:=3) (aR (xs:=[.lst (ks.map D.str)]) (aD (fG (t8 (n:=many) (aD rfl rfl) 0x1 0x1) (by rw[bd,ip,cM];lia) h3) rfl) rfl) (by rw[D.pure,bQ])) ?_;exact lD (d:=pgD ks M T R) (cR (xs:=[.tup (ks.map D.str),.tup (M.map mkD),.tup (T.map tkD),.tup (R.map rlD)]) (aD rfl (aD (aJ (x:=bkD M T) (y:=.int 0) rfl rfl rfl) (aD (aJ (x:=bkD M T) (y:=.int 1) rfl rfl rfl) (aD (aR (xs:=[.scr (ns.map D.int),bkD M T]) (aD rfl (aD rfl rfl)) eR) rfl)))) (cO (dQ rfl))) (by rw[aHd];rfl)
structure KE{α:Type}[dg α](ek:α->D):Prop where
 eq:∀a b,eqD (ek a) (ek b)=decide (a=b)
 ok:∀a,keyOk (ek a)=ae
 tu:∀a b,isTup (ek a)=isTup (ek b)
section
variable {α:Type} [dg α] {ek:α->D}
noncomputable def dD(ek:α->D)(L:aa (α×D)):aa (D×D):=L.map λp=>(ek p.1,p.2)
noncomputable def xQ:aa (α×D)->α->D->aa (α×D)
 |[],a,v=>[(a,v)]
 |p::L,a,v=>if p.1=a then (p.1,v)::L else p::xQ L a v
noncomputable def dU:aa (α×D)->α->ax D
 |[],_=>aj
 |p::L,a=>if p.1=a then ab p.2 else dU L a
def jG(L ps:aa (α×D)):aa (α×D):=ps.foldl (λL p=>xQ L p.1 p.2) L
theorem rT(h:KE ek)(a:α)(v:D):∀L:aa (α×D),putD (dD ek L) (ek a) v=dD ek (xQ L a v)
 |[]=>rfl
 |p::L=>by
  show(if eqD (ek p.1) (ek a) then _ else _)=_;rw[h.eq,xQ];by_cases z:p.1=a
  ·rw[au z,au (cb z)];rfl
  ·rw[az z,az (by rw[dj z];simp)];show _::putD (dD ek L) (ek a) v=_;rw[rT h a v L];rfl
theorem GJ(h:KE ek)(a:α):∀L:aa (α×D),eQ (dD ek L) (ek a)=dU L a
 |[]=>rfl
 |p::L=>by
  show(if eqD (ek p.1) (ek a) then _ else _)=_;rw[h.eq,dU];by_cases z:p.1=a
  ·rw[au z,au (cb z)]
  ·rw[az z,az (by rw[dj z];simp)];exact GJ h a L
theorem rW(h:KE ek)(L:aa (α×D))(a:α):LC (dD ek L) (ek a)=ae:=by
 unfold LC dD;rw[h.ok,BA,fE];intro p hp;obtain⟨q,_,rfl⟩:=cz.mp hp;rw[h.tu q.1 a];exact fA _
theorem rY(L:aa (α×D)):(dD ek L).length=L.length:=bd ..
theorem GK(a:α)(v:D):∀L:aa (α×D),(xQ L a v).length<=L.length+1
 |[]=>ba _
 |p::L=>by
  rw[xQ];split
  ·exact gN _
  ·have:=GK a v L;rw[bj,bj];lia
theorem rZ:∀(ps L:aa (α×D)),(jG L ps).length<=L.length+ps.length
 |[],_=>ba _
 |p::ps,L=>by
  have:=rZ ps (xQ L p.1 p.2);have:=GK p.1 p.2 L;rw[bj];show(jG (xQ L p.1 p.2) ps).length<=_;lia
theorem vD(a b:α)(v:D):∀L:aa (α×D),dU (xQ L a v) b=if a=b then ab v else dU L b
 |[]=>rfl
 |p::L=>by
  rw[xQ];by_cases z:p.1=a
  ·rw[au z,dU,dU,z];split<;>rfl
  ·rw[az z,dU,dU,vD a b v L];by_cases y:p.1=b
   ·rw[au y,au y,az (λq=>z (y.trans q.symm))]
   ·rw[az y,az y]
theorem vG(a:α):∀(ps L:aa (α×D)),a∉ps.map (·.1)->dU (jG L ps) a=dU L a
 |[],_,_=>rfl
 |p::ps,L,h=>by
  rw[bw,b9,ii] at h;show dU (jG (xQ L p.1 p.2) ps) a=_;rw[vG a ps _ h.2,vD,az (λq=>h.1 q.symm)]
theorem tR(a:α)(v:D):∀(ps L:aa (α×D)),(ps.map (·.1)).Nodup->(a,v)∈ps->dU (jG L ps) a=ab v
 |[],_,_,h=>by cases h
 |p::ps,L,hn,h=>by
  rw[bw,ff] at hn;show dU (jG (xQ L p.1 p.2) ps) a=_;rcases b9.mp h with rfl|h
  ·rw[vG _ ps _ hn.1,vD,au rfl]
  ·exact tR a v ps _ hn.2 h
theorem K4(h:KE ek)(e:dU L a=ab v):getD (.dct (dD ek L)) (ek a)=.ok v:=by
 have:getD (.dct (dD ek L)) (ek a)=(if keyOk (ek a) then Res.ofOpt (eQ (dD ek L) (ek a)) else .bad):=by
  have:=h.ok a;generalize ek a=k at this ⊢;cases k<;>first|rfl|cases this
 rw[this,h.ok,au rfl,GJ h,e];rfl
end
theorem aAz[dg α][BEq α][LawfulBEq α](a b:α):(a==b)=decide (a=b):=by
 by_cases z:a=b
 ·rw[cb z,z,fA]
 ·rw[dj z,gr];exact z
theorem kI:KE D.str:=⟨λa b=>by show(a==b)=_;exact aAz a b,λ_=>rfl,λ_ _=>rfl⟩
theorem K5:KE D.int:=⟨λa b=>by show(a==b)=_;exact aAz a b,λ_=>rfl,λ_ _=>rfl⟩
noncomputable abbrev En:=ai×ai
noncomputable def enD(e:En):D:=.tup [.int e.1,.int e.2]
theorem oG:KE enD:=⟨λa b=>by
 show((a.1==b.1)&&((a.2==b.2)&&ae))=_;rw[xC];by_cases z:a=b
 ·rw[cb z,z,fA,fA];rfl
 ·rw[dj z,Bool.and_eq_false_iff,gr,gr];by_cases y:a.1=b.1
  ·exact .inr λq=>z (wz y q)
  ·exact .inl y,λ_=>rfl,λ_ _=>rfl⟩
theorem jU(e:En):(enD e).pure=ae:=rfl
theorem aLx(xs:aa Str):dR [.tup (xs.map D.str)]=.ok (.int (xs.length:af)):=by
 rw[show dR [.tup (xs.map D.str)]=.ok (.int ((xs.map D.str).length:af)) from rfl,bd]
theorem TX(h:n<=10000):n<lim:=by rw[cM];lia
theorem jH(h1:a ρ=.ok (.tup xs))(hp:D.aW xs=ae)(h2:uV t body xs ρ=r):uW (bM a ag) t body ρ=r:=by
 have it:=gD h1;rw[D.pure,hp] at it;exact t7 it h2
theorem aDd(f:α->D):∀{l m:aa D},l.Perm m->∀U:aa α,m=U.map f->∃V:aa α,V.Perm U/\l=V.map f:=by
 intro l m h;induction h with
 |nil=>intro U e;exact⟨U,.refl _,e⟩
 |cons x _ ih=>
  intro U e;cases U with
  |nil=>cases e
  |cons u U=>
   injection e with e1 e2
   obtain⟨V,p,e⟩:=ih U e2;exact⟨u::V,p.cons u,by rw[e,e1];rfl⟩
 |swap x y l=>
  intro U e
  match U,e with
  |u::v::U,e=>
   injection e with e1 e2
   injection e2 with e2 e3
   exact⟨v::u::U,.swap u v U,by rw[e1,e2,e3];rfl⟩
 |trans _ _ ih1 ih2=>
  intro U e;obtain⟨V,p,e⟩:=ih2 U e;obtain⟨W,q,e'⟩:=ih1 V e;exact⟨W,q.trans p,e'⟩
theorem aEh(a b:En):(iR .lt (enD a) (enD b)).isSome=ae:=by
 show(if eqD (.int a.1) (.int b.1) then (if eqD (.int a.2) (.int b.2) then ab (gF.lt.nat 0 0) else ab (gF.lt.int a.2 b.2)) else ab (gF.lt.int a.1 b.1)).isSome=ae;split
 ·split<;>rfl
 ·rfl
abbrev Ti:=En×En
def tiD(t:Ti):D:=.tup [enD t.1,enD t.2]
theorem xN(t:Ti):(tiD t).pure=ae:=rfl
theorem aL7(a b:Ti):(iR .lt (tiD a) (tiD b)).isSome=ae:=by
 show(if eqD (enD a.1) (enD b.1) then (if eqD (enD a.2) (enD b.2) then ab (gF.lt.nat 0 0) else iR .lt (enD a.2) (enD b.2)) else iR .lt (enD a.1) (enD b.1)).isSome=ae;split
 ·split
  ·rfl
  ·exact aEh _ _
 ·exact aEh _ _
noncomputable abbrev Pi:=ai×Str
def piD(p:Pi):D:=.tup [.int p.1,.str p.2]
theorem GP(t:Pi):(piD t).pure=ae:=rfl
theorem aL8(a b:Pi):(iR .lt (piD a) (piD b)).isSome=ae:=by
 show(if eqD (.int a.1) (.int b.1) then (if eqD (.str a.2) (.str b.2) then ab (gF.lt.nat 0 0) else ab (gF.lt.str a.2 b.2)) else ab (gF.lt.int a.1 b.1)).isSome=ae;split
 ·split<;>rfl
 ·rfl
theorem vH[dg α](dB:β->D)(ps:β->aa (α×D))(hps:∀b,(ps b).length<=2)(R:aa (α×D)->aa D->Prop)
 (step:∀b L ρ,R L ρ->L.length<=5000->∃ρ1 ρ2,t (dB b) ρ=.ok ρ1/\body ρ1=.ok (.nx ρ2)/\R (jG L (ps b)) ρ2) :
  ∀(bs:aa β)(L:aa (α×D))(ρ:aa D),R L ρ->L.length+2*bs.length<=5000->∃ρ',R (jG L (bs.flatMap ps)) ρ'/\uV t body (bs.map dB) ρ=.ok (.nx ρ')
 |[],L,ρ,h,_=>⟨ρ,h,rfl⟩
 |b::bs,L,ρ,h,hl=>by
  rw[bj] at hl;obtain⟨ρ1,ρ2,e1,e2,h2⟩:=step b L ρ h 0x1;have:=rZ (ps b) L;have:=hps b;obtain⟨ρ',h3,e3⟩:=vH dB ps hps R step bs _ ρ2 h2 0x1;refine⟨ρ',?_,d7 e1 e2 e3⟩;rw[zw];have:jG L (ps b++bs.flatMap ps)=jG (jG L (ps b)) (bs.flatMap ps):=BD ..;rw[this];exact h3
noncomputable def psM(M:aa Mk):aa (Str×D):=M.map λm=>(m.1,D.int (m.2.2.length:af))
noncomputable def psT(T:aa Tk):aa (Str×D):=T.map λt=>(t.1,D.int ((t.2.2.2.length:af)+1))
def stk(M:aa Mk)(T:aa Tk):aa (Str×D):=jG (jG [("copy",.int 2),("drop",.int 0)] (psM M)) (psT T)
theorem GQ(f:α->β)(L:aa α):L.flatMap (λa=>[f a])=L.map f:=by
 induction L with
 |nil=>rfl
 |cons a L ih=>rw[zw,ih];rfl
theorem aDe(hM:M.length<=9)(hT:T.length<=3):bV 1 iC [pgD ks M T R]=.ok (.dct (dD D.str (stk M T))):=by
 refine(gB rfl).trans (call_v ?_);obtain⟨ρ1,⟨y2,y3,h1⟩,e1⟩:=vH (t:=tg1 2) (body:=xU 1 (b2 getD fV bK) (aK dR (aA (b2 getD fV gG) aN))) mkD (λm=>[(m.1,D.int (m.2.2.length:af))]) (λ_=>dQ rfl) (λL ρ=>∃x2 x3,ρ=[pgD ks M T R,.dct (dD D.str L),x2,x3]) (λm L ρ z0 hl=>by
  obtain⟨x2,x3,h⟩:=z0;subst h;have p:=wR (i:=1) (ρ:=[pgD ks M T R,.dct (dD D.str L),mkD m,x3]) (f:=b2 getD fV bK) (g:=aK dR (aA (b2 getD fV gG) aN)) (kvs:=dD D.str L) (k:=.str m.1) (d:=.int (m.2.2.length:af)) (aR (xs:=[.tup (m.2.2.map D.str)]) (aD (aJ (x:=mkD m) (y:=.int 2) rfl rfl rfl) rfl) (aLx _)) (aJ (x:=mkD m) (y:=.int 0) rfl rfl rfl) rfl (by rw[rY];exact TX 0x1) (rW kI L m.1) rfl;rw[rT kI] at p;exact⟨_,_,rfl,p,_,_,rfl⟩) M [("copy",.int 2),("drop",.int 0)] [pgD ks M T R,.dct (dD D.str [("copy",.int 2),("drop",.int 0)]),.uD,.uD] ⟨_,_,rfl⟩ (by show 2+_<=5000;lia)
 rw[GQ] at h1;have l1:=rZ (psM M) [("copy",.int 2),("drop",.int 0)];rw[psM,bd] at l1;obtain⟨ρ2,⟨z2,z3,h2⟩,e2⟩:=vH (t:=tg1 3) (body:=xU 1 (b2 getD dO bK) (b2 (a_ .add) (aK dR (aA (b2 getD dO lY) aN)) cJ)) tkD (λt=>[(t.1,D.int ((t.2.2.2.length:af)+1))]) (λ_=>dQ rfl) (λL ρ=>∃x2 x3,ρ=[pgD ks M T R,.dct (dD D.str L),x2,x3]) (λm L ρ z0 hl=>by
  obtain⟨x2,x3,h⟩:=z0;subst h;have p:=wR (i:=1) (ρ:=[pgD ks M T R,.dct (dD D.str L),x2,tkD m]) (f:=b2 getD dO bK) (g:=b2 (a_ .add) (aK dR (aA (b2 getD dO lY) aN)) cJ) (kvs:=dD D.str L) (k:=.str m.1) (d:=.int ((m.2.2.2.length:af)+1)) (aJ (x:=.int (m.2.2.2.length:af)) (y:=.int 1) (aR (xs:=[.tup (m.2.2.2.map D.str)]) (aD (aJ (x:=tkD m) (y:=.int 3) rfl rfl rfl) rfl) (aLx _)) rfl (dG _ _)) (aJ (x:=tkD m) (y:=.int 0) rfl rfl rfl) rfl (by rw[rY];exact TX 0x1) (rW kI L m.1) rfl;rw[rT kI] at p;exact⟨_,_,rfl,p,_,_,rfl⟩) T _ ρ1 ⟨_,_,h1⟩ (by have:([("copy",D.int 2),("drop",D.int 0)]:aa (Str×D)).length=2:=rfl;lia)
 rw[GQ] at h2;refine aQ (ρ':=[pgD ks M T R,.dct (dD D.str [("copy",.int 2),("drop",.int 0)]),.uD,.uD]) (eN (i:=1) (d:=.dct (dD D.str [("copy",.int 2),("drop",.int 0)])) (by unfold aGe;with_unfolding_all rfl) rfl) ?_;refine aQ (jH (xs:=M.map mkD) (aJ (x:=pgD ks M T R) (y:=.int 1) rfl rfl rfl) (aU lX M) e1) ?_;subst h1;refine aQ (jH (xs:=T.map tkD) (aJ (x:=pgD ks M T R) (y:=.int 2) rfl rfl rfl) (aU nF T) e2) ?_;subst h2;rfl
def hdM(m:Mk):Str×D:=(m.1,.tup [.str m.2.1,.tup (m.2.2.map D.str)])
def hdT(t:Tk):Str×D:=(t.1,.tup [.str t.2.1,.tup ((t.2.2.1::t.2.2.2).map D.str)])
def hds(M:aa Mk)(T:aa Tk):aa (Str×D):=jG (jG [] (M.map hdM)) (T.map hdT)
theorem aDf(hM:M.length<=9)(hT:T.length<=3)(hTp:∀t∈T,t.2.2.2.length<=2):bV 1 lG [pgD ks M T R]=.ok (.dct (dD D.str (hds M T))):=by
 refine(gB rfl).trans (call_v ?_);obtain⟨ρ1,⟨y2,y3,y4,y5,y6,h1⟩,e1⟩:=vH (t:=tgN [2,3,4]) (body:=xU 1 fV (cZ (aA dO (aA iY aN)))) mkD (λm=>[hdM m]) (λ_=>dQ rfl) (λL ρ=>∃x2 x3 x4 x5 x6,ρ=[pgD ks M T R,.dct (dD D.str L),x2,x3,x4,x5,x6]) (λm L ρ z0 hl=>by
  obtain⟨x2,x3,x4,x5,x6,h⟩:=z0;subst h;have p:=wR (i:=1) (ρ:=[pgD ks M T R,.dct (dD D.str L),.str m.1,.str m.2.1,.tup (m.2.2.map D.str),x5,x6]) (f:=iW 2) (g:=cZ (aA dO (aA iY aN))) (kvs:=dD D.str L) (k:=.str m.1) (d:=.tup [.str m.2.1,.tup (m.2.2.map D.str)]) (cR (xs:=[.str m.2.1,.tup (m.2.2.map D.str)]) (aD rfl (aD rfl rfl)) uN) rfl rfl (by rw[rY];exact TX 0x1) (rW kI L m.1) (by show((D.tup (m.2.2.map D.str)).pure&&ae)=ae;rw[D.pure,bQ];rfl);rw[rT kI] at p;exact⟨_,_,rfl,p,_,_,_,_,_,rfl⟩) M [] [pgD ks M T R,.dct [],.uD,.uD,.uD,.uD,.uD] ⟨_,_,_,_,_,rfl⟩ (by show 0+_<=5000;lia)
 rw[GQ] at h1;have l1:=rZ (M.map hdM) [];rw[bd,eL] at l1;have hU:∀(U:aa Tk),(∀t∈U,t.2.2.2.length<=2)->∀(L:aa (Str×D))(ρ:aa D),(∃x2 x3 x4 x5 x6,ρ=[pgD ks M T R,.dct (dD D.str L),x2,x3,x4,x5,x6])->L.length+U.length<=5000->∃ρ',(∃x2 x3 x4 x5 x6,ρ'=[pgD ks M T R,.dct (dD D.str (jG L (U.map hdT))),x2,x3,x4,x5,x6])/\uV (tgN [2,3,5,6]) (xU 1 fV (cZ (aA dO (aA (b2 LR (cZ (aA eV aN)) mF) aN)))) (U.map tkD) ρ=.ok (.nx ρ'):=by
  intro U;induction U with
  |nil=>intro _ L ρ h _;exact⟨ρ,h,rfl⟩
  |cons m U ih=>
   rintro hu L ρ ⟨x2,x3,x4,x5,x6,h⟩ hl;subst h;rw[bj] at hl;have h2:=hu m (b6 ..);have p:=wR (i:=1) (ρ:=[pgD ks M T R,.dct (dD D.str L),.str m.1,.str m.2.1,x4,.str m.2.2.1,.tup (m.2.2.2.map D.str)]) (f:=iW 2) (g:=cZ (aA dO (aA (b2 LR (cZ (aA eV aN)) mF) aN))) (kvs:=dD D.str L) (k:=.str m.1) (d:=.tup [.str m.2.1,.tup ((m.2.2.1::m.2.2.2).map D.str)]) (cR (xs:=[.str m.2.1,.tup ((m.2.2.1::m.2.2.2).map D.str)]) (aD rfl (aD (aJ (x:=.tup [.str m.2.2.1]) (y:=.tup (m.2.2.2.map D.str)) (cR (xs:=[.str m.2.2.1]) (aD rfl rfl) (cO (dQ rfl))) rfl (GD _ _ (by rw[bd];show 1+_<=1000;lia))) rfl)) uN) rfl rfl (by rw[rY];exact TX 0x1) (rW kI L m.1) (by show((D.tup ((m.2.2.1::m.2.2.2).map D.str)).pure&&ae)=ae;rw[D.pure,bQ];rfl);rw[rT kI] at p;have pl:=GK m.1 (.tup [.str m.2.1,.tup ((m.2.2.1::m.2.2.2).map D.str)]) L;obtain⟨ρ',i1,i2⟩:=ih (λt ht=>hu t (cg _ ht)) (xQ L m.1 (.tup [.str m.2.1,.tup ((m.2.2.1::m.2.2.2).map D.str)])) [pgD ks M T R,.dct (dD D.str (xQ L m.1 (.tup [.str m.2.1,.tup ((m.2.2.1::m.2.2.2).map D.str)]))),.str m.1,.str m.2.1,x4,.str m.2.2.1,.tup (m.2.2.2.map D.str)] ⟨_,_,_,_,_,rfl⟩ 0x1;exact⟨ρ',i1,d7 rfl p i2⟩
 obtain⟨ρ2,⟨z2,z3,z4,z5,z6,h2⟩,e2⟩:=hU T hTp _ ρ1 ⟨_,_,_,_,_,h1⟩ 0x1;refine aQ (ρ':=[pgD ks M T R,.dct [],.uD,.uD,.uD,.uD,.uD]) (eN (i:=1) (d:=.dct []) rfl rfl) ?_;refine aQ (jH (xs:=M.map mkD) (aJ (x:=pgD ks M T R) (y:=.int 1) rfl rfl rfl) (aU lX M) e1) ?_;subst h1;refine aQ (jH (xs:=T.map tkD) (aJ (x:=pgD ks M T R) (y:=.int 2) rfl rfl rfl) (aU nF T) e2) ?_;subst h2;rfl
theorem names_nodup(hn:ns.length<=63)(hm3:many<=3)(hM:MOk ns many many.toNat M):(M.map (·.1)).Nodup:=by
 obtain⟨ks,k1,k2,k3⟩:=hM.names;rw[k1];unfold vh;rw[mP];refine k2.imp_of_mem λ{a b} ha hb hab z=>?_
 have ha:=k3 a ha;have hb:=k3 b hb;have:=QW hn 0x1 0x1 0x1 0x1 z;lia
noncomputable def tn(T:aa Tk):aa Str:=T.map (·.1)
theorem aB0(hn:ns.length<=63)(hm3:many<=3)(hM:MOk ns many many.toNat M)(hT:∀t∈T,kE ns many t)(hm:m∈M):m.1∉tn T:=λz=>by
 obtain⟨t,ht,e⟩:=cz.mp z;obtain⟨k,q1,q2,q3⟩:=(hT t ht).1;obtain⟨ks,k1,k2,k3⟩:=hM.names;have:m.1∈ks.map (wrd ns):=by rw[<-k1];exact cz.mpr ⟨m,hm,rfl⟩
 obtain⟨j,hj,ej⟩:=cz.mp this;have:=k3 j hj;have:=QW hn (i:=j) (j:=k) 0x1 0x1 0x1 0x1 (by rw[ej,<-q3];exact e.symm);lia
theorem aDg(hn:ns.length<=63)(hT:T.length<=3/\T.map (·.1)=(cr T.length).map (λ(k:af)=>wrd ns (17+(k:ai)))):(tn T).Nodup:=by
 unfold tn;rw[hT.2];unfold vh;rw[mP];refine(Cy).imp_of_mem λ{a b} ha hb hab z=>?_
 have ha:=i5.mp ha;have hb:=i5.mp hb;have:=QW hn 0x1 0x1 0x1 0x1 z;lia
structure Wx(M:aa Mk)(T:aa Tk)(w:Str)(a:af):Prop where
 stk:dU (stk M T) w=ab (.int (a:af))
 hd:∃(kd:Str)(ps:aa Str),dU (hds M T) w=ab (.tup [.str kd,.tup (ps.map D.str)])/\ps.length=a
 len:a<=3
 tk:w∈tn T->1<=a
theorem wx(hn:ns.length<=63)(hm3:many<=3)(hM:MOk ns many many.toNat M)(hT:∀t∈T,kE ns many t)(hT2:T.length<=3/\T.map (·.1)=(cr T.length).map (λ(k:af)=>wrd ns (17+(k:ai))))(h:Wd M T w a):Wx M T w a:=by
 rcases h with ⟨m,hm,rfl,rfl⟩|⟨t,ht,rfl,rfl⟩
 ·have nd:=names_nodup hn hm3 hM;have nt:=aB0 hn hm3 hM hT hm;have n1:((psM M).map (·.1)).Nodup:=by unfold psM;rw[eD];exact nd
  have n2:((M.map hdM).map (·.1)).Nodup:=by rw[eD];exact nd
  have t1:m.1∉(psT T).map (·.1):=by unfold psT;rw[eD];exact nt
  have t2:m.1∉(T.map hdT).map (·.1):=by rw[eD];exact nt
  refine⟨?_,⟨m.2.1,m.2.2,?_,rfl⟩,(hM.part m hm).2.1,λz=>bg z nt⟩
  ·unfold Lk64.stk;rw[vG _ _ _ t1];exact tR _ _ _ _ n1 (cz.mpr ⟨m,hm,rfl⟩)
  ·unfold Lk64.hds;rw[vG _ _ _ t2];exact tR _ _ _ _ n2 (cz.mpr ⟨m,hm,rfl⟩)
 ·have nd:=aDg hn hT2;have n1:((psT T).map (·.1)).Nodup:=by unfold psT;rw[eD];exact nd
  have n2:((T.map hdT).map (·.1)).Nodup:=by rw[eD];exact nd
  refine⟨?_,⟨t.2.1,t.2.2.1::t.2.2.2,?_,rfl⟩,?_,λ_=>by lia⟩
  ·unfold Lk64.stk;exact tR _ _ _ _ n1 (cz.mpr ⟨t,ht,rfl⟩)
  ·unfold Lk64.hds;exact tR _ _ _ _ n2 (cz.mpr ⟨t,ht,rfl⟩)
  ·have:=(hT t ht).2.2.2.1;lia
theorem GR[dg α](h:KE ek):∀(ps L:aa (α×D)),lZ (dD ek L) (dD ek ps)=dD ek (jG L ps)
 |[],_=>rfl
 |p::ps,L=>by
  show lZ (putD (dD ek L) (ek p.1) p.2) (dD ek ps)=_;rw[rT h,GR h ps];rfl
theorem GX(f:β->α×D)(ek:α->D)(hk:∀a,lL (ek a)=ae)(hp:∀b,(f b).2.pure=ae):∀L:aa β,mZ (L.map λb=>.tup [ek (f b).1,(f b).2])=ab (dD ek (L.map f))
 |[]=>rfl
 |b::L=>by
  rw[bw,mZ,hk,hp,kf,au rfl,GX f ek hk hp L];rfl
def tks(T:aa Tk):aa (Str×D):=jG [] (T.map λt=>(t.1,D.bl ae))
theorem aHe(T:aa Tk)(hT:T.length<=1000):uB (.lst (T.map λt:Tk=>D.tup [.str t.1,.bl ae]))=.ok (.dct (dD D.str (tks T))):=by
 have e:mZ (T.map λt:Tk=>D.tup [.str t.1,.bl ae])=ab (dD D.str (T.map λt:Tk=>(t.1,D.bl ae))):=GX (λt:Tk=>(t.1,D.bl ae)) D.str (λ_=>rfl) (λ_=>rfl) T;show(match mZ (T.map λt:Tk=>D.tup [.str t.1,.bl ae]) with|some ps=>(if decide ((T.map λt:Tk=>D.tup [.str t.1,.bl ae]).length<=1000) then Res.ok (D.dct (lZ [] ps)) else .bad)|none=>.bad)=_;rw[e];show(if decide ((T.map λt:Tk=>D.tup [.str t.1,.bl ae]).length<=1000) then Res.ok (D.dct (lZ [] (dD D.str (T.map λt:Tk=>(t.1,D.bl ae))))) else .bad)=_;rw[bd,cb hT,au rfl];exact dl (λx=>Res.ok (D.dct x)) (GR kI _ [])
theorem zA[dg α](a:α):∀(ps L:aa (α×D)),(dU (jG L ps) a).isSome=((dU L a).isSome||decide (a∈ps.map (·.1)))
 |[],L=>by simp[jG]
 |p::ps,L=>by
  show(dU (jG (xQ L p.1 p.2) ps) a).isSome=_;rw[zA a ps,vD,bw];by_cases z:p.1=a
  ·rw[au z];simp[z]
  ·rw[az z];have:(a∈p.1::ps.map (·.1))↔(a∈ps.map (·.1)):=by rw[b9];exact⟨λh=>h.resolve_left (c5 z),.inr⟩
   rw[decide_eq_decide.mpr this]
theorem TY[dg α](h:KE ek)(L:aa (α×D))(a:α):b7 .isin (ek a) (.dct (dD ek L))=.ok (.bl (dU L a).isSome):=by
 have f:=rW h L a;have l:=GJ h a L;generalize ek a=k at f l ⊢;show(if LC (dD ek L) k then Res.ok (D.bl (eQ (dD ek L) k).isSome) else .bad)=_;rw[f,l,au rfl]
theorem K6[dg α](h:KE ek)(L:aa (α×D))(a:α):b7 .notin (ek a) (.dct (dD ek L))=.ok (.bl (!(dU L a).isSome)):=by
 have f:=rW h L a;have l:=GJ h a L;generalize ek a=k at f l ⊢;show(if LC (dD ek L) k then Res.ok (D.bl (!(eQ (dD ek L) k).isSome)) else .bad)=_;rw[f,l,au rfl]
theorem aL9(T:aa Tk)(w:Str):inX (.str w) (.dct (dD D.str (tks T)))=.ok (.bl (decide (w∈tn T))):=by
 show b7 .isin (.str w) (.dct (dD D.str (tks T)))=_;rw[TY kI,tks,zA,eD];rfl
def gv(T:aa Tk)(w:Str):ai:=if w∈tn T then 1 else 0
def hk(T:aa Tk)(n:ai)(w:Str)(a:af):aa En:=if w∈tn T then (n,0)::(cr (a-1)).map λ(k:af)=>(n,2+(k:ai)) else (cr a).map λ(k:af)=>(n,1+(k:ai))
theorem zB(h:Wx M T w a)(n:ai):(hk T n w a).length=a:=by
 unfold hk;split
 ·rename_i z;have:=h.tk z;simp;lia
 ·simp
def lmD(M:aa Mk)(T:aa Tk)(p t:af):D:=.ins "Loom" [("heads",.dct (dD D.str (hds M T))),("takers",.dct (dD D.str (tks T))),("pieces",.adr p),("ties",.adr t)]
theorem T3(h:fa ρ=.ok (.ins c fs))(hl:fs.lookup f=ab d):yV c f fa ρ=.ok d:=by
 unfold yV;rw[h,Res.aZ];show(if decide (c=c)=ae then Res.ofOpt (fs.lookup f) else .bad)=_;rw[cb rfl,au rfl,hl];rfl
theorem aB1(h:fe ρ=.ok (.adr a))(hj:ρ.getD j .uD=.cel a xs):aEa j fe ρ=.ok (.lst xs):=by
 unfold aEa;rw[h,Res.aZ,hj];show(if a=a then Res.ok (D.lst xs) else .bad)=_;rw[au rfl]
theorem aB2(h:fo ρ=.ok (.adr a))(h2:fe ρ=.ok d)(hj:ρ.getD j .uD=.cel a xs)(hl:xs.length<lim)(hp:d.pure=ae):QD j fo fe ρ=.ok (.nx (ρ.set j (.cel a (xs++[d])))):=by
 unfold QD;rw[h,Res.aZ,h2,Res.aZ,hj];show(if (decide (a=a)&&(decide (xs.length<lim)&&d.pure))=ae then _ else _)=_;rw[cb rfl,cb hl,hp];rfl
theorem QZ(h:f ρ=.ok d)(hp:(k||d.pure)=ae):VH f k ρ=.ok (.rt (.tup (d::ρ))):=by
 unfold VH;rw[h,Res.aZ,au hp]
theorem T5(h0:iW i ρ=.ok (.ins c fs))(h1:fa ρ=.ok ds)(hj:ρ.getD j .uD=.cel p xs)(hj2:ρ.getD (j+1) .uD=.cel t ys)(hm:fs.lookup m=aj)(hl:ds.length+1=n)(hf:f (.ins c fs::ds++[.cel p xs,.cel t ys])=.ok (.tup [d,.cel p xs',.cel t ys']))(px:D.aW xs'=ae)(py:D.aW ys'=ae):wW c m f n i j fa ρ=.ok (d,(ρ.set j (.cel p xs')).set (j+1) (.cel t ys')):=by
 unfold wW;rw[h0,Res.aZ,h1,Res.aZ,hj,hj2];show(if (decide (c=c)&&((fs.lookup m).isNone&&decide (ds.length+1=n)))=ae then _ else _)=_;rw[cb rfl,hm,cb hl];show(f (.ins c fs::ds++[.cel p xs,.cel t ys]) >>= _)=_;rw[hf,Res.aZ];show(if (decide (p=p)&&(decide (t=t)&&(D.aW xs'&&D.aW ys')))=ae then _ else _)=_;rw[cb rfl,cb rfl,px,py];rfl
theorem aHf(h:f ρ=.ok (d,ρ')):V6 ag i f ρ=.ok (.nx (ρ'.set i d)):=by
 unfold V6;rw[h,Res.aZ];rfl
theorem aB3(h:f (ds++bX (m-(n+2)) .uD)=.ok (.rt (.tup (d::ρ)))):fnG n m f ds=.ok (.tup [d,ρ.getD n .uD,ρ.getD (n+1) .uD]):=by
 unfold fnG;rw[h,Res.aZ];rfl
theorem xO(h k p t:D):gf ("pieces" : Str) [(("heads" : Str),h),("takers",k),("pieces",p),("ties",t)]=ab p:=by with_unfolding_all rfl
theorem aB4(h k p t:D):gf ("ties" : Str) [(("heads" : Str),h),("takers",k),("pieces",p),("ties",t)]=ab t:=by with_unfolding_all rfl
theorem aDh(h k p t:D):gf ("heads" : Str) [(("heads" : Str),h),("takers",k),("pieces",p),("ties",t)]=ab h:=by with_unfolding_all rfl
theorem aB5(h k p t:D):gf ("takers" : Str) [(("heads" : Str),h),("takers",k),("pieces",p),("ties",t)]=ab k:=by with_unfolding_all rfl
theorem aLa(h k p t:D):gf ("add_piece" : Str) [(("heads" : Str),h),("takers",k),("pieces",p),("ties",t)]=aj:=by with_unfolding_all rfl
theorem aLb(h k p t:D):gf ("lay" : Str) [(("heads" : Str),h),("takers",k),("pieces",p),("ties",t)]=aj:=by with_unfolding_all rfl
theorem K7(hP:P.length<=1000):fK [lmD M T p t,.str w,.cel p (P.map piD),.cel t ys]=.ok (.tup [.int ((P.length:af)+1),.cel p ((P++[((P.length:ai)+1,w)]).map piD),.cel t ys]):=by
 have a1:=dG (P.length:af) 1;have e1:yV "Loom" "pieces" bN [lmD M T p t,.str w,.cel p (P.map piD),.cel t ys,.uD]=.ok (.adr p):=T3 rfl (xO ..);have e2:yV "Loom" "pieces" bN [lmD M T p t,.str w,.cel p (P.map piD),.cel t ys,.int ((P.length:af)+1)]=.ok (.adr p):=T3 rfl (xO ..);refine(aB3 (ρ:=[lmD M T p t,.str w,.cel p ((P++[((P.length:ai)+1,w)]).map piD),.cel t ys,.int ((P.length:af)+1)]) ?_).trans rfl;refine aQ (bW (aJ (aR (aD (aB1 e1 rfl) rfl) (by rw[iU,bd])) rfl a1)) ?_;refine aQ (ρ':=[lmD M T p t,.str w,.cel p ((P++[((P.length:ai)+1,w)]).map piD),.cel t ys,.int ((P.length:af)+1)]) ?_ (QZ rfl rfl);have ap:=aB2 (j:=2) (ρ:=[lmD M T p t,.str w,.cel p (P.map piD),.cel t ys,.int ((P.length:af)+1)]) (fe:=cZ (aA iY (aA eY aN))) (xs:=P.map piD) (d:=piD ((P.length:ai)+1,w)) e2 (cR (xs:=[.int ((P.length:af)+1),.str w]) (aD rfl (aD rfl rfl)) uN) rfl (by rw[bd,cM];lia) rfl;rw[c_];exact ap
theorem T6(n:ai)(hρ:ρ.length=N)(h5:∀x:D,iW 5 (ρ++[x])=.ok (.int n))(hv:∀x:D,iW N (ρ++[x])=.ok x\/x=.uD)(c:ai)(L:aa af)(acc:aa D):fY (jM N gQ dC (cZ (aA eV (aA (iW N) aN))) ag ρ) acc (L.map λ(k:af)=>D.int (c+(k:ai)))=.ok (acc++(L.map λ(k:af)=>(n,c+(k:ai))).map enD):=by
 rw[eZ _ (λ(k:af)=>D.int (c+(k:ai))) (λ_=>ae) (λ(k:af)=>enD (n,c+(k:ai))) (λacc k=>?_)]
 ·rw[nr.mpr (λ_ _=>rfl),eD];rfl
 ·refine gC hρ rfl rfl λ_=>⟨cR (aD (h5 _) (aD ?_ rfl)) uN,rfl⟩
  rcases hv (.int (c+(k:ai))) with h|h
  ·exact h
  ·cases h
theorem aLc(hw:Wx M T w a)(hP:P.length<=1000)(hU:U.length<=1000) :
  QM [lmD M T p t,.str w,enD e,.cel p (P.map piD),.cel t (U.map tiD)]=.ok (.tup [.lst ((hk T ((P.length:ai)+1) w a).map enD),.cel p ((P++[((P.length:ai)+1,w)]).map piD),.cel t ((U++[(((P.length:ai)+1,gv T w),e)]).map tiD)]):=by
 obtain⟨kd,ps,h1,h2⟩:=hw.hd;have ha:=hw.len;generalize hnn:(P.length:ai)+1=n;have ap:=K7 (M:=M) (T:=T) (p:=p) (t:=t) (w:=w) (P:=P) (ys:=U.map tiD) hP;rw[hnn] at ap;generalize hP2:(P++[(n,w)])=P2 at ap ⊢;have pP:D.aW (P2.map piD)=ae:=aU GP P2;have pU:D.aW (U.map tiD)=ae:=aU xN U;have f:∀(a:Str)(d x4 x5 x6:D),gf a [(("heads" : Str),D.dct (dD D.str (hds M T))),("takers",.dct (dD D.str (tks T))),("pieces",.adr p),("ties",.adr t)]=ab d->yV "Loom" a bN [lmD M T p t,.str w,enD e,.cel p (P2.map piD),x4,x5,x6]=.ok d:=λa d x4 x5 x6 h=>T3 rfl h
 have s1:V6 ag 5 (wW "Loom" "add_piece" fK 2 0 3 (aA eY aN)) [lmD M T p t,.str w,enD e,.cel p (P.map piD),.cel t (U.map tiD),.uD,.uD]=.ok (.nx [lmD M T p t,.str w,enD e,.cel p (P2.map piD),.cel t (U.map tiD),.int n,.uD]):=aHf (i:=5) (T5 (i:=0) (j:=3) (c:= "Loom") (m:= "add_piece") (f:=fK) (n:=2) (ρ:=[lmD M T p t,.str w,enD e,.cel p (P.map piD),.cel t (U.map tiD),.uD,.uD]) (fa:=aA eY aN) (ds:=[.str w]) (fs:=[(("heads" : Str),D.dct (dD D.str (hds M T))),("takers",.dct (dD D.str (tks T))),("pieces",.adr p),("ties",.adr t)]) rfl (aD rfl rfl) rfl rfl (aLa ..) rfl ap pP pU);have s2:bO ag 6 (aK dR (aA (b2 getD (b2 getD (yV "Loom" "heads" bN) eY) cJ) aN)) ae [lmD M T p t,.str w,enD e,.cel p (P2.map piD),.cel t (U.map tiD),.int n,.uD]=.ok (.nx [lmD M T p t,.str w,enD e,.cel p (P2.map piD),.cel t (U.map tiD),.int n,.int (a:af)]):=bW (i:=6) (aR (xs:=[.tup (ps.map D.str)]) (aD (aJ (x:=.tup [.str kd,.tup (ps.map D.str)]) (y:=.int 1) (aJ (x:=.dct (dD D.str (hds M T))) (y:=.str w) (f _ _ _ _ _ (aDh ..)) rfl (K4 kI h1)) rfl rfl) rfl) (by rw[aLx,h2]));have a1:=dG (a:af) 1;have c1:bTB (b2 inX eY (yV "Loom" "takers" bN)) [lmD M T p t,.str w,enD e,.cel p (P2.map piD),.cel t (U.map tiD),.int n,.int (a:af)]=.ok (decide (w∈tn T)):=dW (aJ (x:=.str w) (y:=.dct (dD D.str (tks T))) rfl (f _ _ _ _ _ (aB5 ..)) (aL9 T w));have st:∀g:ai,QD 4 (yV "Loom" "ties" bN) (cZ (aA (cZ (aA eV (aA (bC (.int g)) aN))) (aA fV aN))) [lmD M T p t,.str w,enD e,.cel p (P2.map piD),.cel t (U.map tiD),.int n,.int (a:af)]=.ok (.nx [lmD M T p t,.str w,enD e,.cel p (P2.map piD),.cel t ((U++[((n,g),e)]).map tiD),.int n,.int (a:af)]):=λg=>by
  have ap:=aB2 (j:=4) (ρ:=[lmD M T p t,.str w,enD e,.cel p (P2.map piD),.cel t (U.map tiD),.int n,.int (a:af)]) (fe:=cZ (aA (cZ (aA eV (aA (bC (.int g)) aN))) (aA fV aN))) (xs:=U.map tiD) (d:=tiD ((n,g),e)) (f "ties" _ _ _ _ (aB4 ..)) (cR (xs:=[enD (n,g),enD e]) (aD (cR (xs:=[.int n,.int g]) (aD rfl (aD rfl rfl)) uN) (aD rfl rfl)) uN) rfl (by rw[bd,cM];lia) rfl;rw[c_];exact ap
 by_cases z:w∈tn T
 ·rw[cb z] at c1;have hg:gv T w=1:=au z;have hh:hk T n w a=(n,0)::(cr (a-1)).map λ(k:af)=>(n,2+(k:ai)):=au z
  rw[hg,hh];refine(aB3 (ρ:=[lmD M T p t,.str w,enD e,.cel p (P2.map piD),.cel t ((U++[((n,1),e)]).map tiD),.int n,.int (a:af)]) (d:=.lst (((n,0)::(cr (a-1)).map λ(k:af)=>(n,2+(k:ai))).map enD)) ?_).trans rfl;refine aQ s1 (aQ s2 (aEe (aBg c1 (aQ (st 1) (QZ (aJ (x:=.lst [enD (n,0)]) (y:=.lst (((cr (a-1)).map λ(k:af)=>(n,2+(k:ai))).map enD)) (xJ (xs:=[enD (n,0)]) (aD (cR (xs:=[.int n,.int 0]) (aD rfl (aD rfl rfl)) uN) rfl) (cO (dQ rfl)) rfl) (fG (QX (a:=2) (b:=(a:af)+1) (aD rfl (aD (aJ (x:=.int (a:af)) (y:=.int 1) rfl rfl a1) rfl)) 0x4 0x4 0x1 0x1) ?_ ?_) ?_) rfl)))))
  ·rw[bd,ip,cM];lia
  ·rw[show(((a:af):ai)+1-2).toNat=a-1 by have:=hw.tk z;lia];exact T6 n (N:=7) rfl (λ_=>rfl) (λx=>by cases x<;>first|exact .inl rfl|exact .inr rfl) 2 (cr (a-1)) []
  ·exact lV [enD (n,0)] (((cr (a-1)).map λ(k:af)=>(n,2+(k:ai))).map enD) (by rw[cM];simp;lia) rfl (aU jU _)
 ·rw[dj z] at c1;have hg:gv T w=0:=az z;have hh:hk T n w a=(cr a).map λ(k:af)=>(n,1+(k:ai)):=az z
  rw[hg,hh];refine(aB3 (ρ:=[lmD M T p t,.str w,enD e,.cel p (P2.map piD),.cel t ((U++[((n,0),e)]).map tiD),.int n,.int (a:af)]) (d:=.lst (((cr a).map λ(k:af)=>(n,1+(k:ai))).map enD)) ?_).trans rfl;refine aQ s1 (aQ s2 (aQ (tB c1 rfl) (aQ (st 0) (QZ (fG (QX (a:=1) (b:=(a:af)+1) (aD rfl (aD (aJ (x:=.int (a:af)) (y:=.int 1) rfl rfl a1) rfl)) 0x4 0x4 0x1 0x1) ?_ ?_) rfl))))
  ·rw[bd,ip,cM];lia
  ·rw[show(((a:af):ai)+1-1).toNat=a by lia];exact T6 n (N:=7) rfl (λ_=>rfl) (λx=>by cases x<;>first|exact .inl rfl|exact .inr rfl) 1 (cr a) []
def arS(M:aa Mk)(T:aa Tk)(w:Str):af:=match dU (stk M T) w with
 |some (.int a)=>a.toNat
 |_=>0
theorem zE(h:Wx M T w a):arS M T w=a:=by
 unfold arS;rw[h.stk];show((a:af):ai).toNat=_;lia
def pr(M:aa Mk)(T:aa Tk):af->aa Str->aa En->aa Ti
 |k,w::ws,e::W=>(((k:ai)+1,gv T w),e)::pr M T (k+1) ws (hk T ((k:ai)+1) w (arS M T w)++W)
 |_,[],_=>[]
 |_,_::_,[]=>[]
noncomputable def pcs:af->aa Str->aa Pi
 |k,w::ws=>((k:ai)+1,w)::pcs (k+1) ws
 |_,[]=>[]
theorem GZ:∀(ws:aa Str)(k:af),(pcs k ws).length=ws.length
 |[],_=>rfl
 |_::ws,k=>by rw[pcs,bj,bj,GZ ws]
def aHg:FS:=(bG (PQ 7 9) (sIf (bTB (b2 inX n_ mF)) aG2 (aAh 7 (xLR (wW "Loom" "lay" QM 3 5 3 (aA n_ (aA sG aN)))))))
def aLd:FS:=(bG (bO ag 6 (b1 uB (cY 12 (bM fV ag) gQ dC (cZ (aA fC (aA (oR aN) aN))) ag)) ae) (bG (bO ae 7 (oR (aA (cZ (aA bK (aA bK aN))) aN)) ae) (bG (wF 1 (tg1 8) aHg) (bG (uW (aAk fV) (tgN [10,11]) aG2) (jV (aK (bV 3 lF) (aA (aEa 3 (yV "Loom" "pieces" eV)) (aA (aEa 4 (yV "Loom" "ties" eV)) (aA bK aN)))) ae)))))
theorem aLe:uK=aKp 5 3 "Loom" uJ 1 (aA bN aN) aLd:=rfl
def wv(pg:D)(wa:aa Str)(M:aa Mk)(T:aa Tk)(p t:af)(P:aa Pi)(U:aa Ti)(W:aa En)(x8 x9:D):aa D:=[pg,.tup (wa.map D.str),.tup [],.cel p (P.map piD),.cel t (U.map tiD),lmD M T p t,.dct [],.lst (W.reverse.map enD),x8,x9,.uD,.uD]
theorem aHh(h:ρ.getD i .uD=.lst (xs++[x])):PQ i j ρ=.ok (.nx ((ρ.set i (.lst xs)).set j x)):=by
 unfold PQ;rw[h];show(match (xs++[x])[(xs++[x]).length-1]? with|some x=>_|none=>_)=_;have e1:(xs++[x])[(xs++[x]).length-1]?=ab x:=by simp
 rw[e1,List.dropLast_concat]
theorem aLf(h:f ρ=.ok (.lst xs,ρ'))(hp:D.aW xs=ae):xLR f ρ=.ok (.lst xs.reverse,ρ'):=by
 unfold xLR;rw[h,Res.aZ];show(if D.aW xs=ae then _ else _)=_;rw[au hp]
theorem aHi(h:f ρ=.ok (.lst ys,ρ'))(h0:ρ.getD i .uD=.lst xs0)(h1:ρ'.getD i .uD=.lst xs)(hl:xs.length+ys.length<=lim)(hp:D.aW ys=ae):aAh i f ρ=.ok (.nx (ρ'.set i (.lst (xs++ys)))):=by
 unfold aAh;rw[h,Res.aZ,h0];dsimp only;rw[h1];show(if (decide (xs.length+ys.length<=lim)&&D.aW ys)=ae then _ else _)=_;rw[cb hl,hp];rfl
theorem v_step(hw:Wx M T w a)(hP:P.length<=1000)(hU:U.length<=1000)(hW:W.length<=3000) :
  aHg (wv pg wa M T p t P U (e::W) (.str w) x9)=.ok (.nx (wv pg wa M T p t (P++[((P.length:ai)+1,w)]) (U++[(((P.length:ai)+1,gv T w),e)]) (hk T ((P.length:ai)+1) w a++W) (.str w) (enD e))):=by
 have ly:=aLc (p:=p) (t:=t) (e:=e) hw hP hU;have hl:=zB hw ((P.length:ai)+1);have ha:=hw.len;generalize (P.length:ai)+1=n at ly hl ⊢;have hpo:PQ 7 9 (wv pg wa M T p t P U (e::W) (.str w) x9)=.ok (.nx (wv pg wa M T p t P U W (.str w) (enD e))):=aHh (i:=7) (j:=9) (xs:=W.reverse.map enD) (x:=enD e) (by show D.lst ((e::W).reverse.map enD)=_;rw[jd,c_];rfl);refine aQ hpo (tB (dW (aJ (x:=.str w) (y:=.dct []) rfl rfl rfl)) ?_);have m:=T5 (i:=5) (j:=3) (c:= "Loom") (m:= "lay") (f:=QM) (n:=3) (ρ:=wv pg wa M T p t P U W (.str w) (enD e)) (fa:=aA n_ (aA sG aN)) (ds:=[.str w,enD e]) (fs:=[(("heads" : Str),D.dct (dD D.str (hds M T))),("takers",.dct (dD D.str (tks T))),("pieces",.adr p),("ties",.adr t)]) rfl (aD rfl (aD rfl rfl)) rfl rfl (aLb ..) rfl ly (aU GP _) (aU xN _);have x:=aHi (i:=7) (xs0:=W.reverse.map enD) (xs:=W.reverse.map enD) (aLf m (aU jU _)) rfl rfl (by rw[bd,ng,ng,bd,cM,hl];lia) (by rw[<-zv];exact aU jU _);rw[show W.reverse.map enD++((hk T n w a).map enD).reverse=((hk T n w a++W).reverse).map enD from by rw[List.reverse_append,c_,<-zv]] at x;exact x
theorem aEi(hw:∀w a,Wd M T w a->Wx M T w a):∀(ws:aa Str)(P:aa Pi)(U:aa Ti)(W:aa En)(x8 x9:D),Dn M T W.length ws->P.length+ws.length<=1000->U.length+ws.length<=1000->W.length+3*ws.length<=3000->
  ∃y8 y9:D,uV (tg1 8) aHg (ws.map D.str) (wv pg wa M T p t P U W x8 x9)=.ok (.nx (wv pg wa M T p t (P++pcs P.length ws) (U++pr M T P.length ws W) [] y8 y9))
 |[],P,U,W,x8,x9,hd,_,_,_=>by
  cases W with
  |nil=>exact⟨x8,x9,by rw[pcs,pr,gL,gL];rfl⟩
  |cons e W=>cases hd
 |w::ws,P,U,W,x8,x9,hd,h1,h2,h3=>by
  cases W with
  |nil=>cases hd
  |cons e W=>
   rw[bj] at hd h1 h2 h3;rw[bj] at h3;cases hd with
   |@cons _ a _ _ wd d=>
    have wx:=hw w a wd;have ha:=wx.len;have hl:=zB wx ((P.length:ai)+1);have s:=v_step (pg:=pg) (wa:=wa) (p:=p) (t:=t) (P:=P) (U:=U) (W:=W) (e:=e) (x9:=x9) wx 0x1 0x1 0x1;have pl:(P++[((P.length:ai)+1,w)]).length=P.length+1:=by rw[cx];rfl
    obtain⟨y8,y9,ih⟩:=aEi hw ws (P++[((P.length:ai)+1,w)]) (U++[(((P.length:ai)+1,gv T w),e)]) (hk T ((P.length:ai)+1) w a++W) (.str w) (enD e) (by rw[cx,hl];exact d) (by rw[pl];lia) (by rw[cx];show U.length+1+_<=_;lia) (by rw[cx,hl];lia);refine⟨y8,y9,?_⟩;rw[bw];refine d7 (ρ1:=wv pg wa M T p t P U (e::W) (.str w) x9) rfl s ?_;rw[ih,pl,pcs,pr,zE wx,eP,eP];rfl
def ltP(p q:En):Prop:=p.1<q.1\/p.1=q.1/\p.2<q.2
noncomputable instance (p q:En):tF (ltP p q):=by unfold ltP;infer_instance
theorem aLg(p q:En):iR .lt (enD p) (enD q)=ab (decide (ltP p q)):=by
 obtain⟨a,b⟩:=p;obtain⟨c,d⟩:=q;by_cases h1:a=c<;>by_cases h2:b=d<;>simp[enD,iR,dJ,v8,h1,h2,gF.int,gF.nat,ltP]
theorem aLh(p q:En):iR .gt (enD p) (enD q)=ab (decide (ltP q p)):=by
 obtain⟨a,b⟩:=p;obtain⟨c,d⟩:=q;by_cases h1:a=c
 ·by_cases h2:b=d<;>simp[enD,iR,dJ,v8,h1,h2,gF.int,gF.nat,ltP]
 ·simp[enD,iR,dJ,v8,h1,gF.int];simp only[ltP];lia
theorem aLi(p q:En):iR .ge (enD p) (enD q)=ab (!decide (ltP p q)):=by
 obtain⟨a,b⟩:=p;obtain⟨c,d⟩:=q;by_cases h1:a=c
 ·by_cases h2:b=d
  ·simp[enD,iR,dJ,v8,h1,h2,gF.int,gF.nat,ltP]
  ·simp[enD,iR,dJ,v8,h1,h2,gF.int,gF.nat,ltP];by_cases h3:b<d
   ·rw[cb h3,dj 0x1];rfl
   ·rw[dj h3,cb 0x1];rfl
 ·simp[enD,iR,dJ,v8,h1,gF.int,ltP];by_cases h3:a<c
  ·rw[cb h3,dj 0x1];rfl
  ·rw[dj h3,cb 0x1];rfl
theorem irr(a b:En)(h:ltP a b):¬ltP b a:=by
 simp only[ltP] at *;lia
theorem aNn(h:a≠b):ltP a b\/ltP b a:=by
 by_cases h1:a.1=b.1
 ·have:a.2≠b.2:=λz=>h (wz h1 z)
  simp only[ltP];lia
 ·simp only[ltP];lia
theorem aLj(o:gF)(a b:En)(r:En->En->Prop)[∀x y,tF (r x y)](h:∀x y,iR o (enD x) (enD y)=ab (decide (r x y))):lW o [enD a,enD b]=.ok (enD (if r b a then b else a)):=by
 show HY o [enD a,enD b]=_;have hall:([enD a,enD b].all λx=>x.fQ aV&&[enD a,enD b].all λy=>(iR o x y).isSome)=ae:=by
  simp only[ik,List.all_nil,h,AO,xC];rfl
 rw[HY,au hall];simp only[xo,List.foldl_nil,h,xy];by_cases hr:r b a
 ·simp[hr]
 ·simp[hr]
noncomputable def norm(t:Ti):Ti:=(if ltP t.2 t.1 then t.2 else t.1,if ltP t.1 t.2 then t.2 else t.1)
theorem Q0(h:t.1≠t.2):ltP (norm t).1 (norm t).2/\(norm t=t\/norm t=(t.2,t.1)):=by
 unfold norm;rcases aNn h with z|z
 ·rw[az (irr _ _ z),au z];exact⟨z,.inl rfl⟩
 ·rw[au z,az (irr _ _ z)];exact⟨z,.inr rfl⟩
theorem aDi(U:aa Ti):∃V:aa Ti,V.Perm U/\lN [.lst (U.map tiD)]=.ok (.lst (V.map tiD))/\m8 [.tup (V.map tiD)]=.ok (.lst (V.map tiD)):=by
 obtain⟨V,p,e⟩:=aDd tiD (fL (U.map tiD)) U rfl;have c:∀U:aa Ti,cA (U.map tiD)=ae:=λU=>by
  unfold cA;refine fE.mpr λd hd=>?_
  obtain⟨t,ht,rfl⟩:=cz.mp hd;have hh:fU ((U.map tiD).headD .non)=5:=by
   cases U with
   |nil=>cases ht
   |cons u U=>rfl
  rw[hh,show fU (tiD t)=5 from rfl,show(tiD t).plain=ae from rfl,show(tiD t).fQ aV=ae from rfl];refine fE.mpr λb hb=>?_
  obtain⟨u,_,rfl⟩:=cz.mp hb;exact aL7 t u
 refine⟨V,p,?_,?_⟩
 ·show(if cA (U.map tiD) then Res.ok (D.lst (v_ (U.map tiD))) else .bad)=_;rw[c,au rfl,e]
 ·show(if cA (V.map tiD) then Res.ok (D.lst (v_ (V.map tiD))) else .bad)=_;rw[c,au rfl]
  congr 2
  refine wG (λd hd=>?_) (fL _) (j6 _) (by rw[<-e];exact j6 _);obtain⟨t,_,rfl⟩:=cz.mp ((fL (V.map tiD)).mem_iff.mp hd);rfl
theorem aLk(a b:Pi)(h:a.1≠b.1):iR .lt (piD a) (piD b)=ab (decide (a.1<b.1)):=by
 have e:iR .lt (piD a) (piD b)=(if eqD (.int a.1) (.int b.1) then (if eqD (.str a.2) (.str b.2) then ab (gF.lt.nat 0 0) else ab (gF.lt.str a.2 b.2)) else ab (gF.lt.int a.1 b.1)):=rfl;rw[e,show eqD (.int a.1) (.int b.1)=(a.1==b.1) from rfl,az (by simp[h])];rfl
theorem aHj{U:aa Pi}(h:U.Pairwise λa b=>a.1<b.1):lN [.lst (U.map piD)]=.ok (.lst (U.map piD)):=by
 have c:cA (U.map piD)=ae:=by
  unfold cA;refine fE.mpr λd hd=>?_
  obtain⟨t,ht,rfl⟩:=cz.mp hd;have hh:fU ((U.map piD).headD .non)=3:=by
   cases U with
   |nil=>cases ht
   |cons u U=>rfl
  rw[hh,show fU (piD t)=3 from rfl,show(piD t).plain=ae from rfl,show(piD t).fQ aV=ae from rfl];refine fE.mpr λb hb=>?_
  obtain⟨u,_,rfl⟩:=cz.mp hb;exact aL8 t u
 show(if cA (U.map piD) then Res.ok (D.lst (v_ (U.map piD))) else .bad)=_;rw[c,au rfl]
 congr 2
 refine wG (λd hd=>?_) (fL _) (j6 _) (mP.mpr (h.imp λ{a b} hab=>?_))
 ·obtain⟨t,_,rfl⟩:=cz.mp ((fL (U.map piD)).mem_iff.mp hd);rfl
 ·have e1:=OD (piD b) (piD a) _ rfl rfl (aLk b a 0x1);rw[dj 0x1] at e1;unfold leE;rw[<-e1];rfl
def ntD(P:aa Pi)(V:aa Ti):D:=.tup [.tup (P.map piD),.tup (V.map tiD),.int 0]
theorem aHk(P:aa Pi)(V:aa Ti):(ntD P V).pure=ae:=by
 show((D.tup (P.map piD)).pure&&((D.tup (V.map tiD)).pure&&ae))=ae;rw[D.pure,D.pure,aU GP,aU xN];rfl
theorem Q3{U V:aa Ti}(hP:P.Pairwise λa b=>a.1<b.1)(hV:lN [.lst ((U.map norm).map tiD)]=.ok (.lst (V.map tiD)))(hl:U.length<=1000):bV 3 lF [.lst (P.map piD),.lst (U.map tiD),.int 0]=.ok (ntD P V):=by
 refine(gB rfl).trans (call_v ?_);have hf:fY (jM 4 (aLw 2) dC (cZ (aA (aK (lW .lt) (aA iY (aA eV aN))) (aA (aK (lW .gt) (aA iY (aA eV aN))) aN))) ag [.lst (P.map piD),.lst (U.map tiD),.int 0,.uD]) [] (U.map tiD)=.ok ((U.map norm).map tiD):=by
  rw[eZ _ tiD (λ_=>ae) (λt=>tiD (norm t))]
  ·rw[nr.mpr (λ_ _=>rfl),eD,dP];rfl
  ·intro acc t;have e1:=aLj .lt t.1 t.2 ltP aLg;have e2:=aLj .gt t.1 t.2 (λx y=>ltP y x) aLh;exact gC rfl rfl rfl λ_=>⟨cR (aD (aR (aD rfl (aD rfl rfl)) e1) (aD (aR (aD rfl (aD rfl rfl)) e2) rfl)) uN,rfl⟩
 have it:bM eY ag [.lst (P.map piD),.lst (U.map tiD),.int 0,.uD]=.ok (U.map tiD,ag||(D.lst (U.map tiD)).pure):=rfl;refine aQ (bW (fG it (by rw[bd,cM];lia) hf)) ?_;exact lD (cR (aD (aR (aD (aR (aD rfl rfl) (aHj hP)) rfl) rfl) (aD (aR (aD (aR (aD rfl rfl) hV) rfl) rfl) (aD rfl rfl))) (cO (dQ rfl))) (by rw[aHk];rfl)
theorem G3:∀(ws:aa Str)(k:af),(pcs k ws).Pairwise (λa b=>a.1<b.1)/\∀p∈pcs k ws,(k:ai)<p.1
 |[],k=>⟨AT,λp h=>by cases h⟩
 |w::ws,k=>by
  obtain⟨h1,h2⟩:=G3 ws (k+1);rw[pcs];refine⟨lv.mpr ⟨λp hp=>?_,h1⟩,λp hp=>?_⟩
  ·have:=h2 p hp;show(k:ai)+1<p.1;lia
  ·rcases b9.mp hp with rfl|hp
   ·show(k:ai)<(k:ai)+1;lia
   ·have:=h2 p hp;lia
theorem aLl(h1:fa ρ=.ok ds)(hl:ds.length=n)(h2:evI (.uD::ds) l=.ok [(f1,d1),(f2,d2),(f3,.lst []),(f4,.lst [])])(h3:∀p t,p≠t->g (mkG i j c f1 f2 f3 f4 d1 d2 p t ρ)=.ok (.rt d)):aKp i j c l n fa g ρ=.ok (.rt d):=by
 unfold aKp;rw[h1,Res.aZ,cb hl,au rfl,h2,Res.aZ];have ex:∃d,∀p t,p≠t->g (mkG i j c f1 f2 f3 f4 d1 d2 p t ρ)=.ok (.rt d):=⟨d,h3⟩
 dsimp only;rw[tP ex];have z:=ex.choose_spec 0 1 0x4;rw[h3 0 1 0x4] at z;injection z with z
 injection z with z
 rw[<-z]
theorem T7[dg α]{P:D->Prop}(a:α)(v:D)(hv:P v):∀L:aa (α×D),(∀p∈L,P p.2)->∀p∈xQ L a v,P p.2
 |[],_,p,hp=>by
  rw[xQ] at hp;rw[jg.mp hp];exact hv
 |q::L,h,p,hp=>by
  rw[xQ] at hp;split at hp
  ·rcases b9.mp hp with rfl|hp
   ·exact hv
   ·exact h p (cg _ hp)
  ·rcases b9.mp hp with rfl|hp
   ·exact h _ (b6 ..)
   ·exact T7 a v hv L (λp hp=>h p (cg _ hp)) p hp
theorem sE[dg α]{P:D->Prop}:∀(ps L:aa (α×D)),(∀p∈ps,P p.2)->(∀p∈L,P p.2)->∀p∈jG L ps,P p.2
 |[],_,_,h=>h
 |q::ps,L,h1,h2=>sE ps (xQ L q.1 q.2) (λp hp=>h1 p (cg _ hp)) (T7 q.1 q.2 (h1 q (b6 ..)) L h2)
theorem K8:∀L:aa D,(∀d∈L,d.pure=ae)->D.aW L=ae
 |[],_=>rfl
 |d::L,h=>by rw[D.aW,h d (b6 ..),K8 L λd hd=>h d (cg _ hd)];rfl
theorem aB6{L:aa (α×D)}(h:∀p∈L,p.2.pure=ae):inner (.dct (dD ek L))=ae:=by
 show D.aW ((dD ek L).map (·.2))=ae;unfold dD;rw[eD];exact K8 _ λd hd=>by
  obtain⟨p,hp,rfl⟩:=cz.mp hd;exact h p hp
theorem aHl:inner (.dct (dD D.str (hds M T)))=ae:=aB6 (sE (P:=λd=>d.pure=ae) (T.map hdT) (jG [] (M.map hdM)) (λp hp=>by
 obtain⟨t,_,rfl⟩:=cz.mp hp;show(ae&&((D.tup ((t.2.2.1::t.2.2.2).map D.str)).pure&&ae))=ae;rw[D.pure,bQ];rfl) (sE (P:=λd=>d.pure=ae) (M.map hdM) [] (λp hp=>by
 obtain⟨m,_,rfl⟩:=cz.mp hp;show(ae&&((D.tup (m.2.2.map D.str)).pure&&ae))=ae;rw[D.pure,bQ];rfl) λp hp=>by cases hp))
theorem aHm:inner (.dct (dD D.str (tks T)))=ae:=aB6 (sE (P:=λd=>d.pure=ae) (T.map λt:Tk=>(t.1,D.bl ae)) [] (λp hp=>by
 obtain⟨t,_,rfl⟩:=cz.mp hp;rfl) λp hp=>by cases hp)
theorem aHn(hM:M.length<=9)(hT:T.length<=3)(hTp:∀t∈T,t.2.2.2.length<=2):evI [.uD,pgD ks M T R] uJ=.ok [("heads",.dct (dD D.str (hds M T))),("takers",.dct (dD D.str (tks T))),("pieces",.lst []),("ties",.lst [])]:=by
 have e1:aK (bV 1 lG) (aA eY aN) [.uD,pgD ks M T R]=.ok (.dct (dD D.str (hds M T))):=aR (aD rfl rfl) (aDf hM hT hTp);have cf:fY (jM 2 gQ dC (cZ (aA (b2 getD fV bK) (aA (bC (.bl ae)) aN))) ag [.uD,pgD ks M T R]) [] (T.map tkD)=.ok (T.map λt=>D.tup [.str t.1,.bl ae]):=by
  rw[eZ _ tkD (λ_=>ae) (λt:Tk=>D.tup [.str t.1,.bl ae])]
  ·rw[nr.mpr (λ_ _=>rfl),dP]
  ·intro acc t;exact gC (bs:=[tkD t]) (y:=.tup [.str t.1,.bl ae]) rfl rfl rfl λ_=>⟨cR (xs:=[.str t.1,.bl ae]) (aD (aJ (x:=tkD t) (y:=.int 0) rfl rfl rfl) (aD rfl rfl)) uN,rfl⟩
 have it:=gD (a:=b2 getD eY gG) (ρ:=[.uD,pgD ks M T R]) (xs:=T.map tkD) (aJ (x:=pgD ks M T R) (y:=.int 2) rfl rfl rfl);have e2:b1 uB (cY 2 (bM (b2 getD eY gG) ag) gQ dC (cZ (aA (b2 getD fV bK) (aA (bC (.bl ae)) aN))) ag) [.uD,pgD ks M T R]=.ok (.dct (dD D.str (tks T))):=by
  unfold b1;rw[fG it (by rw[bd,cM];lia) cf,Res.aZ];exact aHe T 0x1
 have i1:inner (.dct (dD D.str (hds M T)))=ae:=aHl;have i2:inner (.dct (dD D.str (tks T)))=ae:=aHm;unfold uJ;rw[evI,e1,Res.aZ,evI,e2,Res.aZ];show(do let ds <- (do let ds <- Res.ok [(("pieces" : Str),D.lst []),("ties",D.lst [])];if inner (.dct (dD D.str (tks T))) then Res.ok ((("takers" : Str),D.dct (dD D.str (tks T)))::ds) else .bad);if inner (.dct (dD D.str (hds M T))) then Res.ok ((("heads" : Str),D.dct (dD D.str (hds M T)))::ds) else .bad)=_;rw[Res.aZ,au i2,Res.aZ,au i1]
theorem aB7(hw:∀w a,Wd M T w a->Wx M T w a):∀(ws:aa Str)(k:af)(W:aa En),Dn M T W.length ws->(pr M T k ws W).length=ws.length
 |[],k,W,_=>by rw[pr];rfl
 |w::ws,k,W,hd=>by
  cases W with
  |nil=>cases hd
  |cons e W=>
   rw[bj] at hd;cases hd with
   |@cons _ a _ _ wd d=>
    rw[pr,bj,bj,zE (hw w a wd),aB7 hw ws (k+1) _ (by rw[cx,zB (hw w a wd)];exact d)]
theorem aDj{V:aa Ti}(hw:∀w a,Wd M T w a->Wx M T w a)(hM:M.length<=9)(hT:T.length<=3)(hTp:∀t∈T,t.2.2.2.length<=2)(hd:Dn M T 1 ws)(hl:ws.length<=450)(hV:lN [.lst (((pr M T 0 ws [(0,0)]).map norm).map tiD)]=.ok (.lst (V.map tiD))):bV 2 DY [pgD ks M T R,.tup (ws.map D.str)]=.ok (ntD (pcs 0 ws) V):=by
 refine(gB rfl).trans (call_v (lD (aR (aD rfl (aD rfl (aD (cR rfl (di _)) rfl))) ((gB rfl).trans (call_v ?_))) rfl));rw[aLe];refine aLl (aD rfl rfl) rfl (aHn hM hT hTp) λp t hpt=>?_
 show aLd [pgD ks M T R,.tup (ws.map D.str),.tup [],.cel p [],.cel t [],lmD M T p t,.uD,.uD,.uD,.uD,.uD,.uD]=_;have d0:b1 uB (cY 12 (bM fV ag) gQ dC (cZ (aA fC (aA (oR aN) aN))) ag) [pgD ks M T R,.tup (ws.map D.str),.tup [],.cel p [],.cel t [],lmD M T p t,.uD,.uD,.uD,.uD,.uD,.uD]=.ok (.dct []):=by
  unfold b1;rw[fG (gD rfl) (di _) rfl];rfl
 obtain⟨y8,y9,e⟩:=aEi hw ws [] [] [(0,0)] .uD .uD hd (by show 0+_<=_;lia) (by show 0+_<=_;lia) (by show 1+_<=_;lia);rw[dP,dP] at e;refine aQ (bW d0) ?_;refine aQ (eN (nD (aD (cR (aD rfl (aD rfl rfl)) uN) rfl) (cO (dQ rfl))) rfl) ?_;refine aQ (CT rfl rfl e) ?_;refine aQ (t7 (xs:=[]) rfl rfl) ?_;have f:∀(a:Str)(d:D),gf a [(("heads" : Str),D.dct (dD D.str (hds M T))),("takers",.dct (dD D.str (tks T))),("pieces",.adr p),("ties",.adr t)]=ab d->yV "Loom" a eV (wv (pgD ks M T R) ws M T p t (pcs 0 ws) (pr M T 0 ws [(0,0)]) [] y8 y9)=.ok d:=λa d h=>T3 rfl h
 exact lD (d:=ntD (pcs 0 ws) V) (aR (xs:=[.lst ((pcs 0 ws).map piD),.lst ((pr M T 0 ws [(0,0)]).map tiD),.int 0]) (aD (aB1 (f "pieces" _ (xO ..)) rfl) (aD (aB1 (f "ties" _ (aB4 ..)) rfl) (aD rfl rfl))) (Q3 (G3 ws 0).1 hV (by rw[aB7 hw ws 0 [(0,0)] hd];lia))) rfl
noncomputable def fl(U:aa Ti):aa En:=U.flatMap λt=>[t.1,t.2]
theorem xP(t:Ti)(U:aa Ti):fl (t::U)=t.1::t.2::fl U:=rfl
noncomputable def hks(n:ai)(a:af):aa En:=(cr (a+1)).map λ(k:af)=>(n,(k:ai))
theorem aDk(h:Wx M T w a)(n:ai):((n,gv T w)::hk T n w a).Perm (hks n a):=by
 have h1:=h.len;have h2:=h.tk;unfold gv hk hks;by_cases z:w∈tn T
 ·rw[au z,au z]
  match a,h1,h2 z with
  |1,_,_=>exact r_ ..
  |2,_,_=>exact r_ ..
  |3,_,_=>exact r_ ..
 ·rw[az z,az z]
  match a,h1 with
  |0,_=>exact .refl _
  |1,_=>exact .refl _
  |2,_=>exact .refl _
  |3,_=>exact .refl _
theorem aB8(h:Wx M T w a)(n:ai):((cr (a+1)).filter λ(k:af)=>!(((0:ai)+(k:ai))==gv T w)).map (λ(k:af)=>(n,(0:ai)+(k:ai)))=hk T n w a:=by
 have h1:=h.len;have h2:=h.tk;unfold gv hk;by_cases z:w∈tn T
 ·rw[au z,au z]
  match a,h1,h2 z with
  |1,_,_=>rfl
  |2,_,_=>rfl
  |3,_,_=>rfl
 ·rw[az z,az z]
  match a,h1 with
  |0,_=>rfl
  |1,_=>rfl
  |2,_=>rfl
  |3,_=>rfl
def G5(M:aa Mk)(T:aa Tk)(P:aa Pi):aa En:=P.flatMap λp=>hks p.1 (arS M T p.2)
theorem aB9(hw:∀w a,Wd M T w a->Wx M T w a):∀(ws:aa Str)(k:af)(W:aa En),Dn M T W.length ws->(fl (pr M T k ws W)).Perm (W++G5 M T (pcs k ws))
 |[],k,W,hd=>by
  cases W with
  |nil=>exact .refl _
  |cons e W=>cases hd
 |w::ws,k,W,hd=>by
  cases W with
  |nil=>cases hd
  |cons e W=>
   rw[bj] at hd;cases hd with
   |@cons _ a _ _ wd d=>
    have wx:=hw w a wd;have ih:=aB9 hw ws (k+1) (hk T ((k:ai)+1) w a++W) (by rw[cx,zB wx];exact d);have hp:=aDk wx ((k:ai)+1);have e1:G5 M T (pcs k (w::ws))=hks ((k:ai)+1) a++G5 M T (pcs (k+1) ws):=by
     unfold G5;rw[pcs,zw];show hks ((k:ai)+1) (arS M T w)++_=_;rw[zE wx]
    rw[pr,xP,e1,zE wx];show(((k:ai)+1,gv T w)::e::fl (pr M T (k+1) ws (hk T ((k:ai)+1) w a++W))).Perm (e::W++(hks ((k:ai)+1) a++G5 M T (pcs (k+1) ws)));refine(r_ ..).trans (Cz _ ?_);refine(Cz _ ih).trans ?_;refine Dh ?_ (Di W (hp.append_right _));rw[eP,<-eg,<-eP];refine(List.perm_append_comm.append_right _).trans ?_;rw[eP]
theorem aHo(h:t.1≠t.2):[(norm t).1,(norm t).2].Perm [t.1,t.2]:=by
 rcases(Q0 h).2 with e|e<;>rw[e]
 exact r_ ..
theorem T8:∀{U:aa Ti},(fl U).Nodup->(fl (U.map norm)).Perm (fl U)/\∀t∈U.map norm,ltP t.1 t.2
 |[],_=>⟨.refl _,λt h=>by cases h⟩
 |t::U,h=>by
  rw[xP,ff,ff] at h;have hne:t.1≠t.2:=λz=>h.1 (by rw[z];exact b6 ..)
  obtain⟨i1,i2⟩:=T8 h.2.2;refine⟨(aHo hne).append i1,λs hs=>?_⟩;rcases b9.mp hs with rfl|hs
  ·exact(Q0 hne).1
  ·exact i2 s hs
theorem aHp{U V:aa Ti}(h:U.Perm V):(fl U).Perm (fl V):=h.flatMap_right _
theorem aBa(n:ai)(a:af):(hks n a).Nodup:=by
 unfold hks vh;rw[mP];refine(Cy).imp λ{x y} h z=>?_
 injection z with _ z
 lia
theorem zF:∀{P:aa Pi},P.Pairwise (λa b=>a.1<b.1)->(G5 M T P).Nodup
 |[],_=>io
 |p::P,h=>by
  rw[lv] at h;show(hks p.1 (arS M T p.2)++G5 M T P).Nodup;refine rV.mpr ⟨aBa _ _,zF h.2,λx hx y hy z=>?_⟩;obtain⟨k,_,rfl⟩:=cz.mp hx;obtain⟨q,hq,hy⟩:=vk.mp hy;obtain⟨j,_,rfl⟩:=cz.mp hy;injection z with z _
  have:=h.1 q hq;lia
def aHq:FS:=(bG (sIf (bOr (wB (bTr (b1 (mU .tuple) eV))) (bOr (bTB (b2 (b7 .ne) (aK dR (aA eV aN)) gG)) (bOr (wB (bTr (aK (bV 1 cV) (aA (b2 getD eV bK) aN)))) (bTB (b2 (b7 (.ord .le)) (b2 getD eV bK) iY))))) (jV (bC .non) ae) mG) (bG (sIf (bOr (wB (bTr (b1 (mU .str) (b2 getD eV cJ)))) (bTB (b2 (b7 .notin) (b2 getD eV cJ) eY))) (jV (bC .non) ae) mG) (bG (bO ag 4 (b2 getD eV bK) ag) (bO ag 3 (b2 (a_ .add) dO (cY 9 (gP (aA (b2 (a_ .add) (b2 getD eY (b2 getD eV cJ)) cJ) aN) kO) gQ dC (cZ (aA iY (aA sG aN))) ag)) ae))))
def aHr:FS:=(bG (sIf (bOr (wB (bTr (b1 (mU .tuple) fB))) (bOr (bTB (b2 (b7 .ne) (aK dR (aA fB aN)) gG)) (bOr (wB (bTr (aK (bV 1 gU) (aA (b2 getD fB bK) aN)))) (wB (bTr (aK (bV 1 gU) (aA (b2 getD fB cJ) aN))))))) (jV (bC .non) ae) mG) (bG (sIf (bOr (bTB (b2 (b7 (.ord .ge)) (b2 getD fB bK) (b2 getD fB cJ))) (bOr (bTB (b2 inX (b2 getD fB bK) mF)) (bTB (b2 inX (b2 getD fB cJ) mF)))) (jV (bC .non) ae) mG) (bG (xU 6 (b2 getD fB bK) (b2 getD fB cJ)) (xU 6 (b2 getD fB cJ) (b2 getD fB bK)))))
def aLm:FS:=(sIf (bTB (b2 (b7 .notin) n_ mF)) (jV (bC .non) ae) mG)
theorem aBb:uG=bG (sIf (bOr (wB (bTr (b1 (mU .tuple) bN))) (bTB (b2 (b7 .ne) (aK dR (aA bN aN)) lY))) (jV (bC .non) ae) mG) (bG (sIf (bOr (wB (bTr (b1 (mU .tuple) (b2 getD bN bK)))) (bOr (wB (bTr (b1 (mU .tuple) (b2 getD bN cJ)))) (wB (bTr (aK (bV 1 cV) (aA (b2 getD bN gG) aN)))))) (jV (bC .non) ae) mG) (bG (bO ag 3 (cY 9 (gP (aA fV aN) kO) gQ dC (cZ (aA bK (aA sG aN))) ag) ae) (bG (bO ag 4 bK ae) (bG (uW (bM (b2 getD bN bK) ag) (tg1 5) aHq) (bG (bO ae 6 (bC (.dct [])) ae) (bG (uW (bM (b2 getD bN cJ) ag) (tg1 7) aHr) (bG (sIf (bOr (bTB (b2 (b7 .ne) (aK aI6 (aA mF aN)) (aK dR (aA dO aN)))) (bTB (b2 (b7 .ne) (aK YX (aA (b2 getD bN cJ) aN)) (aK m8 (aA (b2 getD bN cJ) aN))))) (jV (bC .non) ae) mG) (bG (wF 3 (tg1 8) aLm) (YZ 6))))))))):=rfl
theorem aDl(i:ai):bV 1 cV [.int i]=.ok (.bl ae):=rfl
theorem aEj(e:En):bV 1 gU [enD e]=.ok (.bl ae):=rfl
theorem ne_int(a b:ai):b7 .ne (.int a) (.int b)=.ok (.bl (!(a==b))):=rfl
theorem aP3(a b:ai):b7 (.ord .le) (.int a) (.int b)=.ok (.bl (decide (a<=b))):=wU rfl rfl rfl
theorem T9(h:f ρ=.ok b):wB f ρ=.ok (!b):=by
 unfold wB;rw[h];rfl
theorem aLn{E:aa En}{p:Pi}{a:af}(h1:last<p.1)(hS:dU (stk M T) p.2=ab (.int (a:af)))(ha:a<=3)(hE:E.length<=5000):aHq [nt,.dct (dD D.str (stk M T)),.int 1,.lst (E.map enD),.int last,piD p,.uD,.uD,.uD]=.ok (.nx [nt,.dct (dD D.str (stk M T)),.int 1,.lst ((E++hks p.1 a).map enD),.int p.1,piD p,.uD,.uD,.uD]):=by
 have g0:b2 getD eV bK [nt,.dct (dD D.str (stk M T)),.int 1,.lst (E.map enD),.int last,piD p,.uD,.uD,.uD]=.ok (.int p.1):=aJ rfl rfl rfl;have g1:∀x4:D,b2 getD eV cJ [nt,.dct (dD D.str (stk M T)),.int 1,.lst (E.map enD),x4,piD p,.uD,.uD,.uD]=.ok (.str p.2):=λx4=>aJ (y:=.int 1) rfl rfl rfl
 refine aQ (tB (G4 rfl (G4 rfl (G4 (T9 (aAs (aR (xs:=[.int p.1]) (aD g0 rfl) (aDl _)))) (dW (aJ (x:=.int p.1) (y:=.int last) g0 rfl ((aP3 _ _).trans (by rw[dj 0x1]))))))) rfl) ?_;have ns:=K6 kI (stk M T) p.2;rw[hS] at ns;have s1:b1 (mU .str) (b2 getD eV cJ) [nt,.dct (dD D.str (stk M T)),.int 1,.lst (E.map enD),.int last,piD p,.uD,.uD,.uD]=.ok (.bl ae):=by
  unfold b1;rw[g1];rfl
 refine aQ (tB (G4 (T9 (aAs s1)) (dW (aJ (x:=.str p.2) (y:=.dct (dD D.str (stk M T))) (g1 _) rfl ns))) rfl) ?_;refine aQ (ρ':=[nt,.dct (dD D.str (stk M T)),.int 1,.lst (E.map enD),.int p.1,piD p,.uD,.uD,.uD]) (iQ (i:=4) g0 rfl) ?_;have a1:=dG (a:af) 1;have cf:fY (jM 9 gQ dC (cZ (aA iY (aA sG aN))) ag [nt,.dct (dD D.str (stk M T)),.int 1,.lst (E.map enD),.int p.1,piD p,.uD,.uD,.uD]) [] ((cr (((a:af):ai)+1).toNat).map λ(k:af)=>D.int (0+(k:ai)))=.ok ((hks p.1 a).map enD):=by
  rw[eZ _ (λ(k:af)=>D.int (0+(k:ai))) (λ_=>ae) (λ(k:af)=>enD (p.1,0+(k:ai)))]
  ·rw[nr.mpr (λ_ _=>rfl),dP,show(((a:af):ai)+1).toNat=a+1 by lia,hks,eD]
   congr 1
   refine ye λk _=>?_
   show enD (p.1,0+(k:ai))=enD (p.1,(k:ai));rw[zu]
  ·intro acc k;exact gC (n:=9) (t:=gQ) (c:=dC) (k:=ag) (acc:=acc) (x:=.int (0+(k:ai))) (ρ:=[nt,.dct (dD D.str (stk M T)),.int 1,.lst (E.map enD),.int p.1,piD p,.uD,.uD,.uD]) (b:=ae) (bs:=[.int (0+(k:ai))]) (y:=enD (p.1,0+(k:ai))) rfl rfl rfl λ_=>⟨cR (xs:=[.int p.1,.int (0+(k:ai))]) (aD rfl (aD rfl rfl)) uN,rfl⟩
 have hl:(hks p.1 a).length=a+1:=by simp[hks]
 have ad:=lV (E.map enD) ((hks p.1 a).map enD) (by rw[bd,bd,hl,cM];lia) (aU jU _) (aU jU _);rw[<-c_] at ad;exact bW (i:=3) (aJ (x:=.lst (E.map enD)) (y:=.lst ((hks p.1 a).map enD)) rfl (fG (t8 (n:=(a:af)+1) (aD (aJ (x:=.int (a:af)) (y:=.int 1) (aJ (x:=.dct (dD D.str (stk M T))) (y:=.str p.2) rfl (g1 _) (K4 kI hS)) rfl a1) rfl) 0x1 0x1) (by rw[bd,ip,cM];lia) cf) ad)
theorem aEk:∀(P:aa Pi)(E:aa En)(last:ai)(x5:D),P.Pairwise (λa b=>a.1<b.1)->(∀p∈P,last<p.1)->(∀p∈P,dU (stk M T) p.2=ab (.int (arS M T p.2:af))/\arS M T p.2<=3)->E.length+4*P.length<=5000->
  ∃(y4 y5:D),uV (tg1 5) aHq (P.map piD) [nt,.dct (dD D.str (stk M T)),.int 1,.lst (E.map enD),.int last,x5,.uD,.uD,.uD]=.ok (.nx [nt,.dct (dD D.str (stk M T)),.int 1,.lst ((E++G5 M T P).map enD),y4,y5,.uD,.uD,.uD])
 |[],E,last,x5,_,_,_,_=>⟨.int last,x5,by rw[show G5 M T []=[] from rfl,gL];rfl⟩
 |p::P,E,last,x5,h1,h2,h3,h4=>by
  rw[lv] at h1;rw[bj] at h4;obtain⟨s1,s2⟩:=h3 p (b6 ..);have st:=aLn (nt:=nt) (E:=E) (h2 p (b6 ..)) s1 s2 0x1;have hl:(hks p.1 (arS M T p.2)).length<=4:=by simp[hks];lia
  obtain⟨y4,y5,ih⟩:=aEk (nt:=nt) P (E++hks p.1 (arS M T p.2)) p.1 (piD p) h1.2 h1.1 (λq hq=>h3 q (cg _ hq)) (by rw[cx];lia);refine⟨y4,y5,?_⟩;rw[bw];refine d7 (ρ1:=[nt,.dct (dD D.str (stk M T)),.int 1,.lst (E.map enD),.int last,piD p,.uD,.uD,.uD]) rfl st ?_;rw[ih,eP];rfl
def mtl(V:aa Ti):aa (En×D):=V.flatMap λt=>[(t.1,enD t.2),(t.2,enD t.1)]
theorem vI:∀V:aa Ti,(mtl V).map (·.1)=fl V
 |[]=>rfl
 |t::V=>by
  show t.1::t.2::(mtl V).map (·.1)=_;rw[vI V,xP]
theorem jT[dg α](a:α):∀L:aa (α×D),a∉L.map (·.1)->dU L a=aj
 |[],_=>rfl
 |p::L,h=>by
  rw[bw,b9,ii] at h;rw[dU,az (λz=>h.1 z.symm),jT a L h.2]
theorem K9[dg α](a:α)(v:D):∀L:aa (α×D),(L.map (·.1)).Nodup->(a,v)∈L->dU L a=ab v
 |[],_,h=>by cases h
 |p::L,hn,h=>by
  rw[bw,ff] at hn;rw[dU];rcases b9.mp h with rfl|h
  ·rw[au rfl]
  ·rw[az (λz=>hn.1 (by rw[z];exact cz.mpr ⟨_,h,rfl⟩))];exact K9 a v L hn.2 h
theorem vJ[dg α](a:α)(v:D):∀L:aa (α×D),a∉L.map (·.1)->xQ L a v=L++[(a,v)]
 |[],_=>rfl
 |p::L,h=>by
  rw[bw,b9,ii] at h;rw[xQ,az (λz=>h.1 z.symm),vJ a v L h.2];rfl
theorem aLo(h:ltP t.1 t.2)(h1:t.1∉L.map (·.1))(h2:t.2∉L.map (·.1))(hne:t.1≠t.2)(hl:L.length<=5000):aHr [x0,x1,x2,x3,x4,x5,.dct (dD enD L),tiD t,.uD]=.ok (.nx [x0,x1,x2,x3,x4,x5,.dct (dD enD (L++[(t.1,enD t.2),(t.2,enD t.1)])),tiD t,.uD]):=by
 have g0:∀x6:D,b2 getD fB bK [x0,x1,x2,x3,x4,x5,x6,tiD t,.uD]=.ok (enD t.1):=λx6=>aJ rfl rfl rfl
 have g1:∀x6:D,b2 getD fB cJ [x0,x1,x2,x3,x4,x5,x6,tiD t,.uD]=.ok (enD t.2):=λx6=>aJ (y:=.int 1) rfl rfl rfl
 have n1:inX (enD t.1) (.dct (dD enD L))=.ok (.bl ag):=(TY oG L t.1).trans (by rw[jT _ _ h1];rfl);have n2:inX (enD t.2) (.dct (dD enD L))=.ok (.bl ag):=(TY oG L t.2).trans (by rw[jT _ _ h2];rfl);have ge:b7 (.ord .ge) (enD t.1) (enD t.2)=.ok (.bl ag):=(wU rfl rfl (aLi _ _)).trans (by rw[cb h];rfl);refine aQ (tB (G4 rfl (G4 rfl (G4 (T9 (aAs (aR (xs:=[enD t.1]) (aD (g0 _) rfl) (aEj _)))) (T9 (aAs (aR (xs:=[enD t.2]) (aD (g1 _) rfl) (aEj _))))))) rfl) ?_;refine aQ (tB (G4 (dW (aJ (g0 _) (g1 _) ge)) (G4 (dW (aJ (y:=.dct (dD enD L)) (g0 _) rfl n1)) (dW (aJ (y:=.dct (dD enD L)) (g1 _) rfl n2)))) rfl) ?_;have p1:=wR (i:=6) (ρ:=[x0,x1,x2,x3,x4,x5,.dct (dD enD L),tiD t,.uD]) (f:=b2 getD fB bK) (g:=b2 getD fB cJ) (kvs:=dD enD L) (k:=enD t.1) (d:=enD t.2) (g1 _) (g0 _) rfl (by rw[rY,cM];lia) (rW oG L t.1) (jU _);rw[rT oG,vJ _ _ _ h1] at p1;have k2:t.2∉(L++[(t.1,enD t.2)]).map (·.1):=by
  rw[c_,gz,ii];exact⟨h2,λz=>hne (jg.mp z).symm⟩
 have p2:=wR (i:=6) (ρ:=[x0,x1,x2,x3,x4,x5,.dct (dD enD (L++[(t.1,enD t.2)])),tiD t,.uD]) (f:=b2 getD fB cJ) (g:=b2 getD fB bK) (kvs:=dD enD (L++[(t.1,enD t.2)])) (k:=enD t.2) (d:=enD t.1) (g0 _) (g1 _) rfl (by rw[rY,cM,cx];show L.length+1<_;lia) (rW oG _ t.2) (jU _);rw[rT oG,vJ _ _ _ k2,eP] at p2;exact aQ p1 p2
theorem aEm:∀(V:aa Ti)(L:aa (En×D))(x7:D),(∀t∈V,ltP t.1 t.2)->(L.map (·.1)++fl V).Nodup->L.length+2*V.length<=5000->
  ∃y7:D,uV (tg1 7) aHr (V.map tiD) [x0,x1,x2,x3,x4,x5,.dct (dD enD L),x7,.uD]=.ok (.nx [x0,x1,x2,x3,x4,x5,.dct (dD enD (L++mtl V)),y7,.uD])
 |[],L,x7,_,_,_=>⟨x7,by rw[show mtl []=[] from rfl,gL];rfl⟩
 |t::V,L,x7,h1,h2,h3=>by
  rw[bj] at h3;rw[xP] at h2;have nd:=rV.mp h2;have nd2:=nd.2.1;rw[ff,ff] at nd2;have a1:t.1∉L.map (·.1):=λz=>nd.2.2 _ z _ (b6 ..) rfl
  have a2:t.2∉L.map (·.1):=λz=>nd.2.2 _ z _ (cg _ (b6 ..)) rfl
  have a3:t.1≠t.2:=λz=>nd2.1 (by rw[z];exact b6 ..)
  have st:=aLo (x0:=x0) (x1:=x1) (x2:=x2) (x3:=x3) (x4:=x4) (x5:=x5) (h1 t (b6 ..)) a1 a2 a3 0x1;obtain⟨y7,ih⟩:=aEm (x0:=x0) (x1:=x1) (x2:=x2) (x3:=x3) (x4:=x4) (x5:=x5) V (L++[(t.1,enD t.2),(t.2,enD t.1)]) (tiD t) (λs hs=>h1 s (cg _ hs)) (by rw[c_,eP];exact h2) (by rw[cx];show L.length+2+_<=_;lia);refine⟨y7,?_⟩;rw[bw];refine d7 (ρ1:=[x0,x1,x2,x3,x4,x5,.dct (dD enD L),tiD t,.uD]) rfl st ?_;rw[ih,eP];rfl
theorem aEn:∀(E:aa En)(x8:D),(∀e∈E,e∈L.map (·.1))->∃y8:D,uV (tg1 8) aLm (E.map enD) [x0,x1,x2,x3,x4,x5,.dct (dD enD L),x7,x8]=.ok (.nx [x0,x1,x2,x3,x4,x5,.dct (dD enD L),x7,y8])
 |[],x8,_=>⟨x8,rfl⟩
 |e::E,x8,h=>by
  obtain⟨y8,ih⟩:=aEn E (enD e) (λd hd=>h d (cg _ hd));have hs:(dU L e).isSome=ae:=by
   have:∀L:aa (En×D),e∈L.map (·.1)->(dU L e).isSome=ae:=by
    intro L;induction L with
    |nil=>intro h;cases h
    |cons p L ih=>
     intro h;rw[dU];split
     ·rfl
     ·rename_i z;rw[bw] at h;exact ih ((b9.mp h).resolve_left λq=>z q.symm)
   exact this L (h e (b6 ..))
  refine⟨y8,?_⟩;rw[bw];exact d7 rfl (tB (dW (aJ rfl rfl ((K6 oG L e).trans (by rw[hs];rfl)))) rfl) ih
theorem aHs(L:aa (En×D)):aI6 [.dct (dD enD L)]=.ok (.int (L.length:af)):=by
 have:((dD enD L).all λp=>isTup p.1)=ae:=fE.mpr λp hp=>by
  obtain⟨q,_,rfl⟩:=cz.mp hp;rfl
 show(if ((dD enD L).all λp=>isTup p.1)=ae then Res.ok (D.int ((dD enD L).length:af)) else .bad)=_;rw[this,au rfl,rY]
theorem aHt(V:aa Ti):b7 .ne (.lst (V.map tiD)) (.lst (V.map tiD))=.ok (.bl ag):=by
 have q:∀L:aa Ti,D.dX 11 (L.map tiD)=ae:=by
  intro L;induction L with
  |nil=>rfl
  |cons x L ih=>
   rw[bw,D.dX,ih];rfl
 have e:∀L:aa Ti,uT (L.map tiD) (L.map tiD)=ae:=by
  intro L;induction L with
  |nil=>rfl
  |cons x L ih=>
   show((eqD (enD x.1) (enD x.1)&&(eqD (enD x.2) (enD x.2)&&ae))&&uT (L.map tiD) (L.map tiD))=ae;rw[ih,oG.eq,oG.eq,cb rfl,cb rfl];rfl
 show(if (D.lst (V.map tiD)).fQ aV&&(D.lst (V.map tiD)).fQ aV then Res.ok (D.bl (!uT (V.map tiD) (V.map tiD))) else .bad)=_;rw[show(D.lst (V.map tiD)).fQ aV=ae from q V,e];rfl
theorem aDm{V:aa Ti}(h1:P.Pairwise (λa b=>a.1<b.1))(h2:∀p∈P,(0:ai)<p.1)(h3:∀p∈P,dU (stk M T) p.2=ab (.int (arS M T p.2:af))/\arS M T p.2<=3)(h4:∀t∈V,ltP t.1 t.2)(h5:(fl V).Perm ((0,0)::G5 M T P))(h6:(fl V).Nodup)(h7:m8 [.tup (V.map tiD)]=.ok (.lst (V.map tiD)))(hP:P.length<=1000)(hV:V.length<=1000) :
  bV 3 iG [ntD P V,.dct (dD D.str (stk M T)),.int 1]=.ok (.dct (dD enD (mtl V))):=by
 refine(gB rfl).trans (call_v ?_);rw[aBb];refine aQ (tB (G4 rfl rfl) rfl) ?_;refine aQ (tB (G4 rfl (G4 rfl rfl)) rfl) ?_;refine aQ (bW (fG (t8 (aD rfl rfl) 0x4 0x4) (cO (dQ rfl)) 0x5)) ?_;refine aQ (bW rfl) ?_;obtain⟨y4,y5,e1⟩:=aEk P [(0,0)] 0 .uD h1 h2 h3 (by show 1+_<=_;lia);refine aQ (jH (aJ rfl rfl rfl) (aU GP P) e1) ?_;refine aQ (eN rfl rfl) ?_;obtain⟨y7,e2⟩:=aEm V [] .uD h4 h6 (by show 0+_<=_;lia);rw[dP] at e2;refine aQ (jH (aJ (y:=.int 1) rfl rfl rfl) (aU xN V) e2) ?_;have hlen:(mtl V).length=([((0:ai),(0:ai))]++G5 M T P).length:=by
  have a:=dl ja (vI V);rw[bd] at a;rw[a,h5.length_eq];rfl
 have c1:bTB (b2 (b7 .ne) (aK aI6 (aA mF aN)) (aK dR (aA dO aN))) [ntD P V,.dct (dD D.str (stk M T)),.int 1,.lst (([((0:ai),(0:ai))]++G5 M T P).map enD),y4,y5,.dct (dD enD (mtl V)),y7,.uD]=.ok ag:=dW (aJ (x:=.int ((mtl V).length:af)) (y:=.int ((mtl V).length:af)) (aR (xs:=[.dct (dD enD (mtl V))]) (aD rfl rfl) (aHs _)) (aR (xs:=[.lst (([((0:ai),(0:ai))]++G5 M T P).map enD)]) (aD rfl rfl) (by rw[iU,bd,hlen])) ((ne_int _ _).trans (by rw[fA];rfl)));have c2:bTB (b2 (b7 .ne) (aK YX (aA (b2 getD bN cJ) aN)) (aK m8 (aA (b2 getD bN cJ) aN))) [ntD P V,.dct (dD D.str (stk M T)),.int 1,.lst (([((0:ai),(0:ai))]++G5 M T P).map enD),y4,y5,.dct (dD enD (mtl V)),y7,.uD]=.ok ag:=dW (aJ (x:=.lst (V.map tiD)) (y:=.lst (V.map tiD)) (aR (xs:=[.tup (V.map tiD)]) (aD (aJ (x:=ntD P V) (y:=.int 1) rfl rfl rfl) rfl) (by show(if D.aW (V.map tiD) then Res.ok (D.lst (V.map tiD)) else .bad)=_;rw[aU xN];rfl)) (aR (xs:=[.tup (V.map tiD)]) (aD (aJ (x:=ntD P V) (y:=.int 1) rfl rfl rfl) rfl) h7) (aHt V));refine aQ (tB (G4 c1 c2) rfl) ?_;obtain⟨y8,e3⟩:=aEn (x0:=ntD P V) (x1:=.dct (dD D.str (stk M T))) (x2:=.int 1) (x3:=.lst (([((0:ai),(0:ai))]++G5 M T P).map enD)) (x4:=y4) (x5:=y5) (x7:=y7) (L:=mtl V) ([((0:ai),(0:ai))]++G5 M T P) .uD (λe he=>by rw[vI];exact h5.mem_iff.mpr he);refine aQ (CT (i:=3) (d:=.lst (([((0:ai),(0:ai))]++G5 M T P).map enD)) rfl rfl e3) ?_;rfl
theorem zG(n:af):∀L:aa Str,D.dX n (L.map D.str)=ae
 |[]=>by rw[je,D.dX]
 |x::L=>by rw[bw,D.dX,zG n L];cases n<;>rfl
theorem aHu(w:Str)(L:aa Str):inX (.str w) (.lst (L.map D.str))=.ok (.bl (decide (w∈L))):=by
 show(if (D.str w).fQ aV&&D.dX aV (L.map D.str) then Res.ok (D.bl ((L.map D.str).any λy=>eqD y (.str w))) else .bad)=_;rw[zG,show(D.str w).fQ aV=ae from rfl,kf,au rfl]
 congr 2
 rw[List.any_map];by_cases z:w∈L
 ·rw[cb z,AU];exact⟨w,z,fA w⟩
 ·rw[dj z,Aq];intro x hx y;exact z (eq_of_beq (show(x==w)=ae from y)▸hx)
def nms(P:aa Pi):aa (ai×D):=jG [] (P.map λp=>(p.1,D.str p.2))
theorem aBc(P:aa Pi)(hP:P.length<=1000):tK (.tup (P.map piD))=.ok (.dct (dD D.int (nms P))):=by
 have e:mZ (P.map piD)=ab (dD D.int (P.map λp=>(p.1,D.str p.2))):=GX (λp:Pi=>(p.1,D.str p.2)) D.int (λ_=>rfl) (λ_=>rfl) P;show(match mZ (P.map piD) with|some ps=>(if decide ((P.map piD).length<=1000) then Res.ok (D.dct (lZ [] ps)) else .bad)|none=>.bad)=_;rw[e];show(if decide ((P.map piD).length<=1000) then Res.ok (D.dct (lZ [] (dD D.int (P.map λp=>(p.1,D.str p.2))))) else .bad)=_;rw[bd,cb hP,au rfl];exact dl (λx=>Res.ok (D.dct x)) (GR K5 _ [])
noncomputable def sn(k:af):aa (ai×D):=(cr k).map λ(i:af)=>((i:ai)+1,D.bl ae)
theorem aEo(k:af):((k:ai)+1)∉(sn k).map (·.1):=λh=>by
 rw[sn,eD] at h;obtain⟨i,hi,e⟩:=cz.mp h;have:=i5.mp hi;have e:(i:ai)+1=(k:ai)+1:=e;lia
theorem aLp(k:af):xQ (sn k) ((k:ai)+1) (.bl ae)=sn (k+1):=by
 rw[vJ _ _ _ (aEo k),sn,sn,B1,c_];rfl
def wbd:FS:=(bG (PP 10 13 bK) (bG (sIf (bTB (b2 inX fC n_)) (bG (xU 8 fC (b2 (a_ .add) (b2 getD n_ fC) (n6 (aA xT aN)))) (sCt)) mG) (bG (bO ag 14 (b2 getD eV xT) ag) (bG (sIf (bOr (bTB (b2 (b7 .eq) (b2 getD iK bK) bK)) (bOr (bTB (b2 inX (b2 getD iK bK) mC)) (bOr (bTB (b2 (b7 .ne) (b2 getD fB (b2 getD iK bK)) fC)) (bTB (b2 (b7 .ne) (b2 getD iK cJ) (aK aKh (aA (b2 inX fC mF) aN))))))) (jV (bC (.bl ag)) ae) mG) (bG (xU 11 (b2 getD iK bK) (bC (.bl ae))) (bO ae 10 (b2 (a_ .add) (cY 16 (gP (aA (b2 (a_ .add) (b2 getD iY fC) cJ) aN) kO) gQ (bTB (b2 (b7 .ne) uU (b2 getD iK cJ))) (cZ (aA (b2 getD iK bK) (aA uU aN))) ag) jW) ae))))))
theorem aBd:uH=bG (bO ag 4 (aK (bV 1 iC) (aA dO aN)) ae) (bG (bO ag 5 (aK (bV 3 iG) (aA bN (aA iY (aA (b2 (a_ .add) (aK dR (aA fV aN)) cJ) aN)))) ae) (bG (sIf (bOr (bTB (b2 (b7 .isN) eV (bC .non))) (bTB (b2 (b7 .ne) (b2 getD bN gG) bK))) (jV (bC (.bl ag)) ae) mG) (bG (bO ag 6 (cY 16 (bM (b2 getD dO gG) ag) gQ dC (b2 getD uU bK) ag) ae) (bG (bO ag 7 (b1 tK (b2 getD bN bK)) ae) (bG (bO ae 8 (bC (.dct [])) ae) (bG (wF 2 (tg1 9) (xU 8 sG (oR aN))) (bG (bO ae 10 (oR (aA (cZ (aA bK (aA bK aN))) aN)) ae) (bG (bO ae 11 (bC (.dct [])) ae) (bG (wF 1 (tg1 12) wbd) (bG (uW (aAd fV) (tgN [15,9]) aG2) (jV (b2 (b7 .eq) (aK aCj (aA mC aN)) (aK dR (aA (b2 getD bN bK) aN))) ae))))))))))):=rfl
def lw(nt pg:D)(wa:aa Str)(M:aa Mk)(T:aa Tk)(L:aa (En×D))(N:aa (ai×D))(W:aa En)(k:af)(x12 x13 x14:D):aa D:=[nt,.tup (wa.map D.str),.tup [],pg,.dct (dD D.str (stk M T)),.dct (dD enD L),.lst ((tn T).map D.str),.dct (dD D.int N),.dct [],.uD,.lst (W.map enD),.dct (dD D.int (sn k)),x12,x13,x14,.uD]
theorem aLq{k a:af}{w:Str}{x13 x14:D}(hw:Wx M T w a)(hL:dU L e=ab (enD ((k:ai)+1,gv T w)))(hN:dU N ((k:ai)+1)=ab (.str w))(hk9:k<=1000)(hW:W.length<=3000) :
  wbd (lw nt pg wa M T L N (e::W) k (.str w) x13 x14)=.ok (.nx (lw nt pg wa M T L N (hk T ((k:ai)+1) w a++W) (k+1) (.str w) (enD e) (enD ((k:ai)+1,gv T w)))):=by
 have ha:=hw.len;have hs:=aEo k;have hp:=aLp k;have hl:=zB hw ((k:ai)+1);have hf:=aB8 hw ((k:ai)+1);have sl:(sn k).length=k:=by simp[sn]
 generalize hn:(k:ai)+1=n at *;have hn0:n≠0:=by lia
 have h1:PP 10 13 bK (lw nt pg wa M T L N (e::W) k (.str w) x13 x14)=.ok (.nx (lw nt pg wa M T L N W k (.str w) (enD e) x14)):=rfl;refine aQ h1 (aQ (tB (dW (aJ rfl rfl rfl)) rfl) ?_);refine aQ (iQ (aJ rfl rfl (K4 oG hL)) (jU _)) ?_;have g0:∀W:aa En,b2 getD iK bK (lw nt pg wa M T L N W k (.str w) (enD e) (enD (n,gv T w)))=.ok (.int n):=λW=>aJ rfl rfl rfl
 have g1:b2 getD iK cJ (lw nt pg wa M T L N W k (.str w) (enD e) (enD (n,gv T w)))=.ok (.int (gv T w)):=aJ rfl rfl rfl;have c1:b7 .eq (.int n) (.int 0)=.ok (.bl ag):=(eq_int _ _).trans (by rw[gr.mpr hn0]);have c2:inX (.int n) (.dct (dD D.int (sn k)))=.ok (.bl ag):=(TY K5 (sn k) n).trans (by rw[jT _ _ hs];rfl);have c3:b7 .ne (.str w) (.str w)=.ok (.bl ag):=by
  show Res.ok (D.bl (!(w==w)))=_;rw[fA];rfl
 have gi:aKh [.bl (decide (w∈tn T))]=.ok (.int (gv T w)):=by
  show Res.ok (D.int (if decide (w∈tn T)=ae then 1 else 0))=_;unfold gv;by_cases z:w∈tn T
  ·rw[au z,cb z,au rfl]
  ·rw[az z,dj z,az 0x2]
 have c4:b7 .ne (.int (gv T w)) (.int (gv T w))=.ok (.bl ag):=(ne_int _ _).trans (by rw[fA];rfl);refine aQ (tB (G4 (dW (aJ (g0 _) rfl c1)) (G4 (dW (aJ (g0 _) rfl c2)) (G4 (dW (aJ (aJ rfl (g0 _) (K4 K5 hN)) rfl c3)) (dW (aJ g1 (aR (aD (aJ rfl rfl (aHu w (tn T))) rfl) gi) c4))))) rfl) ?_;have p:=wR (i:=11) (ρ:=lw nt pg wa M T L N W k (.str w) (enD e) (enD (n,gv T w))) (f:=b2 getD iK bK) (g:=bC (.bl ae)) (kvs:=dD D.int (sn k)) (k:=.int n) (d:=.bl ae) rfl (g0 _) rfl (by rw[rY,sl,cM];lia) (rW K5 (sn k) n) rfl;rw[rT K5,hp] at p;refine aQ (ρ':=lw nt pg wa M T L N W (k+1) (.str w) (enD e) (enD (n,gv T w))) p ?_;have a1:=dG (a:af) 1;have cf:fY (jM 16 gQ (bTB (b2 (b7 .ne) uU (b2 getD iK cJ))) (cZ (aA (b2 getD iK bK) (aA uU aN))) ag (lw nt pg wa M T L N W (k+1) (.str w) (enD e) (enD (n,gv T w)))) [] ((cr (((a:af):ai)+1).toNat).map λ(j:af)=>D.int (0+(j:ai)))=.ok ((hk T n w a).map enD):=by
  rw[eZ _ (λ(j:af)=>D.int (0+(j:ai))) (λ(j:af)=>!(((0:ai)+(j:ai))==gv T w)) (λ(j:af)=>enD (n,0+(j:ai)))]
  ·rw[dP,show(((a:af):ai)+1).toNat=a+1 by lia,<-hf,eD];rfl
  ·intro acc j;exact gC (n:=16) (t:=gQ) (k:=ag) (acc:=acc) (x:=.int (0+(j:ai))) (ρ:=lw nt pg wa M T L N W (k+1) (.str w) (enD e) (enD (n,gv T w))) (b:=!(((0:ai)+(j:ai))==gv T w)) (bs:=[.int (0+(j:ai))]) (y:=enD (n,0+(j:ai))) rfl rfl (dW (aJ (x:=.int (0+(j:ai))) (y:=.int (gv T w)) rfl (aJ (x:=enD (n,gv T w)) (y:=.int 1) rfl rfl rfl) (ne_int _ _))) λ_=>⟨cR (xs:=[.int n,.int (0+(j:ai))]) (aD (aJ (x:=enD (n,gv T w)) (y:=.int 0) rfl rfl rfl) (aD rfl rfl)) uN,rfl⟩
 have ad:=lV ((hk T n w a).map enD) (W.map enD) (by rw[bd,bd,hl,cM];lia) (aU jU _) (aU jU _);rw[<-c_] at ad;exact eN (i:=10) (aJ (x:=.lst ((hk T n w a).map enD)) (y:=.lst (W.map enD)) (fG (t8 (n:=(a:af)+1) (aD (aJ (x:=.int (a:af)) (y:=.int 1) (aJ (x:=.dct (dD D.str (stk M T))) (y:=.str w) rfl rfl (K4 kI hw.stk)) rfl a1) rfl) 0x1 0x1) (by rw[bd,ip,cM];lia) cf) rfl ad) (aU jU _)
theorem aEp(hw:∀w a,Wd M T w a->Wx M T w a):∀(ws:aa Str)(k:af)(W:aa En)(x12 x13 x14:D),Dn M T W.length ws->(∀q∈pr M T k ws W,dU L q.2=ab (enD q.1))->(∀p∈pcs k ws,dU N p.1=ab (.str p.2))->k+ws.length<=1000->W.length+3*ws.length<=3000->
  ∃(y12 y13 y14:D),uV (tg1 12) wbd (ws.map D.str) (lw nt pg wa M T L N W k x12 x13 x14)=.ok (.nx (lw nt pg wa M T L N [] (k+ws.length) y12 y13 y14))
 |[],k,W,x12,x13,x14,hd,_,_,_,_=>by
  cases W with
  |nil=>exact⟨x12,x13,x14,rfl⟩
  |cons e W=>cases hd
 |w::ws,k,W,x12,x13,x14,hd,h1,h2,h3,h4=>by
  cases W with
  |nil=>cases hd
  |cons e W=>
   rw[bj] at hd h3 h4;rw[bj] at h4;cases hd with
   |@cons _ a _ _ wd d=>
    have wx:=hw w a wd;have ha:=wx.len;have hl:=zB wx ((k:ai)+1);rw[pr,zE wx] at h1;rw[pcs] at h2;have st:=aLq (nt:=nt) (pg:=pg) (wa:=wa) (W:=W) (x13:=x13) (x14:=x14) wx (h1 _ (b6 ..)) (h2 _ (b6 ..)) 0x1 0x1;obtain⟨y12,y13,y14,ih⟩:=aEp (nt:=nt) (pg:=pg) (wa:=wa) hw ws (k+1) (hk T ((k:ai)+1) w a++W) (.str w) (enD e) (enD ((k:ai)+1,gv T w)) (by rw[cx,hl];exact d) (λq hq=>h1 q (cg _ hq)) (λp hp=>h2 p (cg _ hp)) 0x1 (by rw[cx,hl];lia);refine⟨y12,y13,y14,?_⟩;rw[bw,bj];refine d7 (ρ1:=lw nt pg wa M T L N (e::W) k (.str w) x13 x14) rfl st ?_;rw[ih,show k+1+ws.length=k+(ws.length+1) by lia]
theorem aDn(h:Dn M T n ws):∀w∈ws,∃a,Wd M T w a:=by
 induction h with
 |nil=>intro w h;cases h
 |cons wd d ih=>
  intro w hw;rcases b9.mp hw with rfl|hw
  ·exact⟨_,wd⟩
  ·exact ih w hw
theorem T_:∀{ws:aa Str}{k:af}{p:Pi},p∈pcs k ws->p.2∈ws
 |[],k,p,h=>by cases h
 |w::ws,k,p,h=>by
  rw[pcs] at h;rcases b9.mp h with rfl|h
  ·exact b6 ..
  ·exact cg _ (T_ h)
theorem aLr:∀{U:aa Ti},(fl U).Nodup->∀q∈U,q.1≠q.2
 |[],_,q,h=>by cases h
 |t::U,hn,q,h=>by
  rw[xP,ff,ff] at hn;rcases b9.mp h with rfl|h
  ·exact λz=>hn.1 (by rw[z];exact b6 ..)
  ·exact aLr hn.2.2 q h
theorem aHv{V:aa Ti}(hw:∀w a,Wd M T w a->Wx M T w a)(hM:M.length<=9)(hT:T.length<=3)(hd:Dn M T 1 ws)(hl:ws.length<=450)(hp:V.Perm ((pr M T 0 ws [(0,0)]).map norm))(hV:m8 [.tup (V.map tiD)]=.ok (.lst (V.map tiD))):bV 4 j9 [ntD (pcs 0 ws) V,.tup (ws.map D.str),.tup [],pgD ks M T R]=.ok (.bl ae):=by
 have rise:=G3 ws 0;have pe:=aB9 hw ws 0 [(0,0)] hd;have ndA:([((0:ai),(0:ai))]++G5 M T (pcs 0 ws)).Nodup:=by
  refine rV.mpr ⟨by simp,zF rise.1,λx hx y hy z=>?_⟩;rw[jg.mp hx] at z;obtain⟨p,hp,hy⟩:=vk.mp hy;obtain⟨j,_,rfl⟩:=cz.mp hy;injection z with z _
  have:=rise.2 p hp;lia
 have ndU:=pe.nodup_iff.mpr ndA;obtain⟨n1,n2⟩:=T8 ndU;have pV:=(aHp hp).trans n1;have ndV:=pV.nodup_iff.mpr ndU;have lt:∀t∈V,ltP t.1 t.2:=λt ht=>n2 t (hp.mem_iff.mp ht)
 have ul:=aB7 hw ws 0 [(0,0)] hd;have vl:V.length<=1000:=by rw[hp.length_eq,bd,ul];lia
 have wds:∀p∈pcs 0 ws,dU (stk M T) p.2=ab (.int (arS M T p.2:af))/\arS M T p.2<=3:=λp hp=>by
  obtain⟨a,wd⟩:=aDn hd p.2 (T_ hp);have wx:=hw _ _ wd;rw[zE wx];exact⟨wx.stk,wx.len⟩
 have em:=aDm rise.1 (λp hp=>by have:=rise.2 p hp;lia) wds lt (pV.trans pe) ndV hV (by rw[GZ];lia) vl;have lk:∀q∈pr M T 0 ws [(0,0)],dU (mtl V) q.2=ab (enD q.1):=λq hq=>by
  have hne:=aLr ndU q hq;have hv:norm q∈V:=hp.mem_iff.mpr (cz.mpr ⟨q,hq,rfl⟩);refine K9 _ _ _ (by rw[vI];exact ndV) ?_;rcases(Q0 hne).2 with e|e
  ·exact vk.mpr ⟨_,hv,by rw[e];simp⟩
  ·exact vk.mpr ⟨_,hv,by rw[e];simp⟩
 have nk:∀p∈pcs 0 ws,dU (nms (pcs 0 ws)) p.1=ab (.str p.2):=λp hp=>by
  refine tR _ _ _ _ ?_ (cz.mpr ⟨p,hp,rfl⟩);rw[eD];unfold vh;rw[mP];exact rise.1.imp λ{a b} h z=>by
   have z:a.1=b.1:=z;lia
 obtain⟨y12,y13,y14,el⟩:=aEp hw ws 0 [(0,0)] .uD .uD .uD hd lk nk 0x1 (by show 1+_<=_;lia);refine(gB rfl).trans (call_v ?_);rw[aBd];refine aQ (bW (aR (aD rfl rfl) (aDe hM hT))) ?_;refine aQ (bW (aR (aD rfl (aD rfl (aD (aJ rfl rfl (dG 0 1)) rfl))) em)) ?_;refine aQ (tB (G4 rfl rfl) rfl) ?_;have cf:fY (jM 16 gQ dC (b2 getD uU bK) ag [ntD (pcs 0 ws) V,.tup (ws.map D.str),.tup [],pgD ks M T R,.dct (dD D.str (stk M T)),.dct (dD enD (mtl V)),.uD,.uD,.uD,.uD,.uD,.uD,.uD,.uD,.uD,.uD]) [] (T.map tkD)=.ok ((tn T).map D.str):=by
  rw[eZ _ tkD (λ_=>ae) (λt:Tk=>D.str t.1)]
  ·rw[nr.mpr (λ_ _=>rfl),dP,tn,eD];rfl
  ·intro acc t;exact gC (b:=ae) (bs:=[tkD t]) (y:=.str t.1) rfl rfl rfl λ_=>⟨aJ (x:=tkD t) (y:=.int 0) rfl rfl rfl,rfl⟩
 have it:=gD (a:=b2 getD dO gG) (ρ:=[ntD (pcs 0 ws) V,.tup (ws.map D.str),.tup [],pgD ks M T R,.dct (dD D.str (stk M T)),.dct (dD enD (mtl V)),.uD,.uD,.uD,.uD,.uD,.uD,.uD,.uD,.uD,.uD]) (xs:=T.map tkD) (aJ (x:=pgD ks M T R) (y:=.int 2) rfl rfl rfl);refine aQ (ρ':=[ntD (pcs 0 ws) V,.tup (ws.map D.str),.tup [],pgD ks M T R,.dct (dD D.str (stk M T)),.dct (dD enD (mtl V)),.lst ((tn T).map D.str),.uD,.uD,.uD,.uD,.uD,.uD,.uD,.uD,.uD]) (bW (i:=6) (fG it (by rw[bd,cM];lia) cf)) ?_;have dk:b1 tK (b2 getD bN bK) [ntD (pcs 0 ws) V,.tup (ws.map D.str),.tup [],pgD ks M T R,.dct (dD D.str (stk M T)),.dct (dD enD (mtl V)),.lst ((tn T).map D.str),.uD,.uD,.uD,.uD,.uD,.uD,.uD,.uD,.uD]=.ok (.dct (dD D.int (nms (pcs 0 ws)))):=by
  unfold b1;rw[aJ (x:=ntD (pcs 0 ws) V) (y:=.int 0) (z:=.tup ((pcs 0 ws).map piD)) rfl rfl rfl,Res.aZ];exact aBc _ (by rw[GZ];lia)
 refine aQ (bW (i:=7) dk) ?_;refine aQ (eN (i:=8) (d:=.dct []) rfl rfl) ?_;refine aQ (CT (i:=2) (d:=.tup []) (xs:=[]) rfl rfl rfl) ?_;refine aQ (eN (i:=10) (d:=.lst [enD (0,0)]) (nD (xs:=[enD (0,0)]) (aD (cR (xs:=[.int 0,.int 0]) (aD rfl (aD rfl rfl)) uN) rfl) (cO (dQ rfl))) rfl) ?_;refine aQ (ρ':=lw (ntD (pcs 0 ws) V) (pgD ks M T R) ws M T (mtl V) (nms (pcs 0 ws)) [(0,0)] 0 .uD .uD .uD) (eN (i:=11) (d:=.dct []) rfl rfl) ?_;refine aQ (CT (i:=1) (d:=.tup (ws.map D.str)) (xs:=ws.map D.str) rfl rfl el) ?_;refine aQ (ρ':=lw (ntD (pcs 0 ws) V) (pgD ks M T R) ws M T (mtl V) (nms (pcs 0 ws)) [] (0+ws.length) y12 y13 y14) (t7 (xs:=[]) rfl rfl) ?_;have ls:aCj [.dct (dD D.int (sn (0+ws.length)))]=.ok (.int (ws.length:af)):=by
  have a:((dD D.int (sn (0+ws.length))).all λp=>!isTup p.1)=ae:=fE.mpr λp hp=>by
   obtain⟨q,_,rfl⟩:=cz.mp hp;rfl
  show(if ((dD D.int (sn (0+ws.length))).all λp=>!isTup p.1)=ae then Res.ok (D.int ((dD D.int (sn (0+ws.length))).length:af)) else .bad)=_;rw[a,au rfl,rY];simp[sn]
 have lp:dR [.tup ((pcs 0 ws).map piD)]=.ok (.int (ws.length:af)):=by
  show Res.ok (D.int (((pcs 0 ws).map piD).length:af))=_;rw[bd,GZ]
 exact lD (d:=.bl ae) (aJ (x:=.int (ws.length:af)) (y:=.int (ws.length:af)) (aR (xs:=[.dct (dD D.int (sn (0+ws.length)))]) (aD rfl rfl) ls) (aR (xs:=[.tup ((pcs 0 ws).map piD)]) (aD (aJ (x:=ntD (pcs 0 ws) V) (y:=.int 0) rfl rfl rfl) rfl) lp) ((eq_int _ _).trans (by rw[fA]))) rfl
theorem main:∀ns:aa ai,ns.length<=63->WN [.scr (ns.map D.int)]=.ok (.bl ae):=by
 intro ns hn;obtain⟨many,ks,M,T,R,⟨hm,hm3⟩,hM,hT,hTl,⟨hk1,hk2⟩,ep⟩:=WP hn;have kl:((ks.length:af):ai)=many:=by lia
 have m60:=cN (drw ns 60) many hm;have p1:=eo (drw ns 60) (show many≠0 by lia);have p2:=e9 (drw ns 60) hm;obtain⟨kind,hkind,gk⟩:∃kind∈ks,getD (.tup (ks.map D.str)) (.int (drw ns 60 % many))=.ok (.str kind):=by
  have hix:ixD (ks.map D.str).length (drw ns 60 % many)=ab (drw ns 60 % many).toNat:=by
   unfold ixD;rw[au p1,bd,au 0x1]
  have hlt:(drw ns 60 % many).toNat<ks.length:=by lia
  refine⟨ks[(drw ns 60 % many).toNat],mI ..,?_⟩;show Res.ofOpt ((ixD (ks.map D.str).length (drw ns 60 % many)).bind λj=>(ks.map D.str)[j]?)=_;rw[hix];simp only[uq];rw[lm,eh hlt];rfl
 have m62:=cN (drw ns 62) 2 0x4;have g2:=xK (.int 4) (.int 40) (drw ns 62 % 2) (eo _ 0x4) (e9 _ 0x4);obtain⟨b,b0,bb,g2'⟩:∃b:ai,0<b/\b<=40/\getD (.lst [.int 4,.int 40]) (.int (drw ns 62 % 2))=.ok (.int b):=by
  by_cases z:drw ns 62 % 2=0
  ·rw[au z] at g2;exact⟨4,by decide,by decide,g2⟩
  ·rw[az z] at g2;exact⟨40,by decide,by decide,g2⟩
 have m61:=cN (drw ns 61) b b0;have q1:=eo (drw ns 61) (show b≠0 by lia);have q2:=e9 (drw ns 61) b0;obtain⟨le,hle⟩:∃le:af,(le:ai)=drw ns 61 % b:=⟨(drw ns 61 % b).toNat,by lia⟩
 rw[<-hle] at m61;obtain⟨ws,⟨wl,wd⟩,ew⟩:=TF (at_:=400) (M:=M) (T:=T) (K:=[]) (kind:=kind) (mo:=le+8) (le:=le) hn hm hm3 hM hT hTl.1 (di _) 0x1 0x1 (hk1 kind hkind);have hd:=wd rfl;have hw:∀w a,Wd M T w a->Wx M T w a:=λw a h=>wx hn hm3 hM hT hTl h
 have hML:M.length<=9:=by have:=hM.len;lia
 obtain⟨V,pV,sV,sT⟩:=aDi ((pr M T 0 ws [(0,0)]).map norm);have eu:=aDj (ks:=ks) (R:=R) hw hML hTl.1 (λt ht=>(hT t ht).2.2.2.1) hd wl sV;have el:=aHv (ks:=ks) (R:=R) hw hML hTl.1 hd wl pV sT;have a8:=dG (le:af) 8;refine call_v ?_;refine aQ (ρ':=[.scr (ns.map D.int),pgD ks M T R,.uD,.uD,.uD]) (bW (i:=1) (aR (xs:=[.scr (ns.map D.int)]) (aD rfl rfl) ep)) ?_;refine aQ (ρ':=[.scr (ns.map D.int),pgD ks M T R,.str kind,.uD,.uD]) (iQ (i:=2) (aJ (x:=.tup (ks.map D.str)) (y:=.int (drw ns 60 % many)) (aJ (x:=pgD ks M T R) (y:=.int 0) rfl rfl rfl) (aJ (x:=.int (drw ns 60)) (y:=.int many) (l_ hn rfl rfl) (aR (xs:=[.tup (ks.map D.str)]) (aD (aJ (x:=pgD ks M T R) (y:=.int 0) rfl rfl rfl) rfl) (by rw[aLx,kl])) m60) gk) rfl) ?_;refine aQ (ρ':=[.scr (ns.map D.int),pgD ks M T R,.str kind,.int (le:af),.uD]) (bW (i:=3) (aJ (x:=.int (drw ns 61)) (y:=.int b) (l_ hn rfl rfl) (aJ (x:=.lst [.int 4,.int 40]) (y:=.int (drw ns 62 % 2)) (nD (xs:=[.int 4,.int 40]) (aD rfl (aD rfl rfl)) uN) (aJ (x:=.int (drw ns 62)) (y:=.int 2) (l_ hn rfl rfl) rfl m62) g2') m61)) ?_;refine aQ (ρ':=[.scr (ns.map D.int),pgD ks M T R,.str kind,.int (le:af),.tup (ws.map D.str)]) (bW (i:=4) (aR (xs:=[.scr (ns.map D.int),.int 400,bkD M T,.dct (knD []),.str kind,.int ((le+8:af):ai),.int (le:af)]) (aD rfl (aD rfl (aD (cR (xs:=[.tup (M.map mkD),.tup (T.map tkD)]) (aD (aJ (x:=pgD ks M T R) (y:=.int 1) rfl rfl rfl) (aD (aJ (x:=pgD ks M T R) (y:=.int 2) rfl rfl rfl) rfl)) uN) (aD rfl (aD rfl (aD (aJ (x:=.int (le:af)) (y:=.int 8) rfl rfl a8) (aD rfl rfl))))))) ew)) ?_;exact lD (d:=.bl ae) (aR (xs:=[ntD (pcs 0 ws) V,.tup (ws.map D.str),.tup [],pgD ks M T R]) (aD (aR (xs:=[pgD ks M T R,.tup (ws.map D.str)]) (aD rfl (aD rfl rfl)) eu) (aD rfl (aD (cR (xs:=[]) rfl (di _)) (aD rfl rfl)))) el) rfl
end Lk64
section
open PySem PySem.W PyProof.Rows
namespace PySem.W.Fast
def tw14717422066278204427:=()
def tw13355152870885230420:=()
def tw6748669032737194182:=()
def tw12938411442885722199:=()
def tw14298688430030360221:=()
def tw13065465363511072825:=()
def tw17202216739677861232:=()
def tw17113442492539178499:=()
def tw2968226788253431473:=()
def tw11922105876356735778:=()
def tw4278776896655113984:=()
def tw893997510868236084:=()
def tw12709716826712788907:=()
def tw5224433153021486157:=()
def tw18246467164302369990:=()
def tw4563384106452181768:=()
def tw14521495105311918291:=()
def tw12544290921575264094:=()
def tw15491141972368626405:=()
def tw16062119825097641732:=()
def tw3303971647124273243:=()
def tw17816224210743435853:=()
def tw1438477049949278473:=()
def tw12351105512549539374:=()
def tw1825470665932297090:=()
def tw6026286145703047831:=()
def tw7566122705946276633:=()
def tw7193573071884510841:=()
def tw7831032182834102504:=()
def tw5462780189329956638:=()
def tw4874173969885046568:=()
def tw2502623434299981757:=()
def tw17600684112366885599:=()
def tw6084758471869026840:=()
def tw16755047471892103075:=()
def tw13095603921427903074:=()
def tw3743486629038590078:=()
def tw11393153684943000552:=()
def tw4641314868761992503:=()
def tw17366853845001237571:=()
def tw6934620025206286199:=()
def tw1521315700694667446:=()
def tw5119660615926132308:=()
def tw879403280197368857:=()
def tw3871271678266029543:=()
def tw12256651363856147222:=()
def tw6036394539862815544:=()
def tw16152548106330445641:=()
def tw7097819201623232366:=()
def tw16508906274859250217:=()
def tw11954545233147893672:=()
def tw17159969605532705687:=()
def tw8955762831874619273:=()
def tw7689063956022968874:=()
def tw196802798137596648:=()
def tw15823201178673428989:=()
def tw17987312297131970511:=()
def tw12519262495835830367:=()
def tw7133562493053553022:=()
def tw17225214322154737877:=()
def tw7671204590441567627:=()
def tw8766124331018771223:=()
def tw17949488527765217536:=()
def tw6998406625285718931:=()
def tw16714337033654455702:=()
def tw8216108789309569535:=()
def tw624533210825892468:=()
def tw8738882957845721632:=()
def tw17669593488584123205:=()
def tw16922312320213096600:=()
def tw6861233197866196307:=()
def tw13560334004918461869:=()
def tw9055533174201395870:=()
def tw5787445623121505401:=()
def tw7404090676082968398:=()
def tw10350742019803129243:=()
def tw8443987424943696955:=()
def tw264233111198887631:=()
def tw10034934950945582913:=()
def tw5799548995380395280:=()
def tw2559674453104595790:=()
def tw8587432518888432744:=()
def tw16850173641155687973:=()
def tw7361305317565160336:=()
def tw8079758669182405839:=()
def tw6714342957049123342:=()
def tw6462731395153135629:=()
def tw10562600697560744923:=()
def tw10969475288938171580:=()
def tw17628378351416712344:=()
def tw5112796193600470447:=()
def tw12818900699123879380:=()
def tw980238286785371237:=()
def tw6343298909807606809:=()
def tw15816177626655525250:=()
def tw16387192908756165718:=()
def tw10454077285805218507:=()
def tw13887238249779084262:=()
def tw251724295831856285:=()
def tw11046593085044855274:=()
def tw5491198122336777355:=()
def tw4304372894354870661:=()
def tw17789579697330348295:=()
def tw3896481278537498123:=()
def tw3747336009337351046:=()
def tw6889949695210010078:=()
def tw14180456908135516018:=()
def tw1328514294726044412:=()
def tw11242106697599760311:=()
def tw1144871266949390990:=()
def tw15522570036572884287:=()
def tw11013931284029749904:=()
def tw15768048076592072130:=()
def tw9303767397400564026:=()
def tw13450545445315413555:=()
def tw13494606373459832696:=()
def tw1170527052164806172:=()
def tw5305644975274411651:=()
def tw5600884610650099107:=()
def tw8214497023735894019:=()
def tw889050171657199220:=()
def tw8301468003942298587:=()
def tw18271348411167710038:=()
def tw2445054836491553315:=()
def tw5916652193282739752:=()
def tw7108861248525269715:=()
def tw8537379914820881901:=()
def tw18258893125103678942:=()
def tw4304679322578671953:=()
def tw15029955040836988672:=()
def tw264043756192364957:=()
def tw5970477342845479561:=()
def tw5328402955851537284:=()
def tw9439101698820749586:=()
def tw1942795688452356730:=()
def tw154465990561645007:=()
def tw14760398119910271905:=()
def tw6420004692967216634:=()
def tw9089771356522121509:=()
def tw11421599888091713356:=()
def tw17848015911695808611:=()
def tw16252379482187649318:=()
def tw9468010245002436915:=()
def tw6467595018877425824:=()
end PySem.W.Fast
set_option maxRecDepth 100000 in
set_option maxHeartbeats 0 in
theorem PySem.Challenge.cw_hookmill_k64_closed_terms_holds : PySem.Challenge.rw_hookmill_k64_closed_terms.Holds := by
 w_on;o_law;k_head;(case hw=>w_witness2)
 k_fill
 refine Lk64.walk (l:=PySem.Challenge.rw_hookmill_k64_closed_terms) Lk64.main rfl rfl (fun w h Y=>PySem.W.kIn_of Y) ?F
 case F=>
  intro w mg fa h KX G hmg
  refine' Lk64.aKz KX G hmg ?a0 ?a1 ?a2 ?a3 ?a4 ?l4 ?c4 ?k4 ?t4 ?a5 ?a6 ?a7 ?a8 ?a9 ?a10 ?a11 ?a12 ?a13 ?a14 ?a15 ?a16 ?l16 ?c16 ?k16 ?pM ?pN ?pO ?pQ ?pR ?pS ?pT ?pW ?pX ?pY ?pZ ?qa ?qb ?qc ?qd ?qe ?qf ?qg ?p7 ?pg_Loom ?qh ?po_Loom ?qi ?mk_Loom ?qj ?qk ?pk ?pq ?pz ?ql ?pA ?pB ?pC ?pD ?qm ?pE ?pF ?pi ?qo ?qp ?pG ?pH ?pj ?qr
  (case a0|a1|a2|a3|a5|a6|a7|a8|a9|a10|a11|a12|a13|a14|a15=>refine' Lk64.aNl ?a ?b ?c ?d;(case a=>k_is);(case b=>k_is);(case c=>k_is);case d=>k_is)
  (case a4|l4|c4|k4|t4|a16|l16|c16|k16|pM|pN|pO|pQ|pR|pS|pT|pW|pX|pY|pZ|qa|qb|qc|qd|qe|qf|qg|p7|pg_Loom|qh|po_Loom|qi|mk_Loom|qj|qk|pk|pq|pz|ql|pA|pB|pC|pD|qm|pE|pF|pi|qo|qp|pG|pH|pj|qr=>k_is)
end
