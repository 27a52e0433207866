import PyProof.Rows.All
import Wide.All
import OpenK.AllK
import Wide.FinOn
import PySem.Challenge.RW_hookmill_k62_copy_and_drop_rules
open Array renaming length_toList->lz,getD->mi,getElem?_eq_none->oj,getElem?_toList->sy,size_map->sN,getElem?_eq_getElem->tP,perm_iff_toList_perm->xD,toList_map->xE,toList->zz,forIn_toList->BC
open Array.Perm renaming refl->AU,size_eq->Dd,mem_iff->De
open Bool renaming true->ae,false->ag,and_eq_true->aT,or_eq_true->f_,false_eq_true->iX,and_self->ki,false_ne_true->kA,not_eq_true'->nV,not_eq_true->ot,true_and->tF,or_false->w_,false_or->xf,and_true->xm,or_true->ye,or_eq_false_iff->zj,and_false->AD,true_or->AG,and_assoc->AR
open Classical renaming choose->A3,choose_spec->A4,byContradiction->Dj
open False renaming elim->eW
open ForInStep renaming yield->AO
open Function renaming comp_def->C5,comp->Dl
open Int renaming emod_nonneg->eI,emod_lt_of_pos->ff,toNat_natCast->om,natCast_mul->tN,natCast_add->u8,zero_add->zk,le_refl->Cm
open List renaming length_map->ax,length_cons->bc,map_cons->bh,length_append->bj,mem_cons_self->bn,mem_cons->bq,range->bw,mem_cons_of_mem->bz,mem_map->bE,replicate->bP,size_toArray->bX,map_append->cr,getD_eq_getElem?_getD->cu,map_map->cS,getElem?_eq_some_iff->c_,getElem?_set_ne->de,nodup_cons->dj,nil_append->dl,length_range->dy,append_assoc->dE,append_nil->d6,getElem?_eq_getElem->ef,map->eg,length_nil->eL,cons_append->eP,mem_append->eS,all_eq_true->e9,lookup->fy,getElem?_append_right->fz,nodup_nil->fA,mem_range->fN,getElem?_set_self->fS,mem_append_right->gm,mem_singleton->gq,all_cons->gS,getElem?_append_left->ia,cons_lt_cons_iff->ic,lookup_cons->iv,getElem?_set->iz,reverse_cons->iO,map_nil->iP,not_mem_nil->i9,getElem?_replicate->je,getElem?_map->jg,filter_eq_self->jt,flatMap_cons->ju,forIn_nil->kc,length->lP,find?_cons->l8,any_cons->ma,getElem_mem->mq,pairwise_map->mr,drop_eq_getElem_cons->mv,drop_eq_nil_of_le->mw,length_set->mx,length_reverse->mz,nodup_append->mS,mem_filter->ng,filterMap_cons->nh,of_mem_zip->ny,length_take->nB,mem_of_getElem?->nE,length_replicate->nI,length_drop->nK,forIn_cons->nX,zip_cons_cons->n4,toList_toArray->n9,range_succ->ol,zip_nil_right->sK,pairwise_iff_getElem->s_,getElem?_eq_none->um,replicate_succ->uv,set_comm->ux,forall_mem_cons->uS,Nodup->u7,mem_append_left->vh,length_singleton->xb,zip_nil_left->xn,getElem_of_mem->xB,map_congr_left->xI,getElem_map->zi,map_reverse->zn,mem_filterMap->Ad,filterMap_map->Ap,eraseIdxIfInBounds_toArray->AF,lt_of_le_of_lt->AM,not_lt->AN,countP_mono_left->AV,countP_cons->AW,toArray->A0,eq_nil_of_length_eq_zero->A5,map_fst_zip->A9,lt_irrefl->Ba,foldl_append->Be,take_length->Bf,range'->Bn,mem_range'_1->Bo,length_eq_one_iff->Bq,getElem?_cons_succ->Bv,zipIdx_cons->BA,zipIdx_nil->BB,length_zip->BI,dropLast_eq_take->BM,mem_reverse->BO,ext_getElem?->BQ,set_append_right->B4,take_of_length_le->Cf,drop_zero->Cj,foldl_cons->Cl,filter_cons->Co,length_eq_zero_iff->Cq,length_pos_iff->Cr,pairwise_lt_range->Cs,mem_of_mem_drop->Ct,mem_of_mem_take->Cu,nodup_range->Cv,take_append_drop->Cy,flatMap_nil->Cz,flatMap_map->CA,mem_flatMap->CB,mk_mem_zipIdx_iff_getElem?->CC
open List.Pairwise renaming nil->C3
open List.Perm renaming eq_of_pairwise->C4,swap->Dw
open List.cons renaming injEq->kQ
open List.range renaming loop->Cp
open Nat renaming le_refl->aS,ne_of_lt->ck,zero_le->cy,lt_of_lt_of_le->c5,le_trans->c9,le_of_ble_eq_true->dw,lt_irrefl->fg,le_succ->gn,ne_of_gt->hI,lt_succ_of_lt->ie,lt_succ_self->ip,lt_or_ge->kf,zero_add->kh,le_of_lt->lv,le_add_right->mP,lt_of_not_le->tI,add_sub_cancel_left->uy,le_of_eq->vx,not_lt->xo,le_succ_of_le->xA,lt_of_le_of_lt->yc,add_assoc->zg,add_sub_of_le->zh,le_of_not_lt->AK,not_lt_zero->AT,succ_ne_self->B3,lt_trichotomy->B5,sub_self->Cc,succ_pos->Cg,add_comm->Ch,succ_lt_succ->Ci,sub_zero->Ck,mul_le_mul->Cw
open Nat.succ renaming inj->lf
open Ne renaming symm->cj
open Option renaming some->ab,none->ai,map_eq_some_iff->jk,isSome_iff_exists->se,bind_some->ua,isSome_map->xg,getD_some->xi,getD_none->Az,isSome_some->AH
open Option.some renaming inj->c6
open Or renaming inl->iS
open Prod renaming ext->wo
open PyProof.Rows renaming seqObj->dt,pairsOf->e6,envOfC->gp,callWith_type1->ik,Keyed->jp,AllBare->jw,IsTup->kx,SortKind->mj,IntsAre->nN,subscriptTail->sn,tuples'->sQ,slot_tuple_getitem->wu,Subscript_->wz,tail_any->wE,keyKind'->xq,sortedHeap->xr,listUpdate_at->xu,seqEpoch_at->xw,slicePart_none->An,entry_tuple_getitem->Ar,args_tuple_getitem->As,tupleItemsOf_->Au,subscriptTail_builtinR->Ay,keyLt'_oneType->A6,oneLt_int->A7,oneLt_str->A8,pairsOf_size->Bb,boot_enumerate->B2,callWith_builtin1->CM,lt_int->C8,le_int->C9,gt_int->Da,ge_int->Db,lt_str->Dc,pairsOf_toList->Df,mem_zip_self->Dg,collect_list->Dh,size_push'->Di
open PySem renaming Value->aj,Addr->ak,wpAny_bind->al,Shared->am,model->av,wpAny_pure->az,Heap->aI,sizeLine->ba,Obj->bd,eval->bf,World->bm,Stmt->br,Program->bS,Around->b5,cLine->b6,starEach->b9,mainGlobals->cg,Pos->cn,sizeLine_eq->c8,compareOp->dg,Env->di,argBest->dm,Builtin->dq,rawInt->du,bootBuiltins->dz,Tok->dQ,swapsWith->d5,wpAny_holding->eh,FuncData->eu,foldedSetIterable->fj,binaryOp->fq,wpAny_field->fw,wpAny_seqItems->fx,Scope->fR,wpAny_mono->fT,codeAny_builtin->gf,strIterType->gi,sysModules->gj,pyNext->gz,attributeBase->gL,wpAny_Call_Name_kw->hZ,stored->ib,wpAny_letGo->ig,Sem->ii,IsPart->iq,merged->iu,wpAny_tryCatch->iw,plainId_quiet->ix,backTo->iA,pyIter->iE,NameKind->iF,wpAny_typeOf->iL,wpAny_newObj_type->iN,relabel->i6,updateSeq->i7,wpAny_pyIter_tuple->i8,getItem->jh,call_meets->jj,Meets->jo,wpAny_updateSeq->jq,spliced->jx,holding->jy,bindL->jI,bindC->jS,typeLookup->j3,sliceBounds->ka,atKey->kb,CmpOp->kg,typeLookup_type->kj,builtinLookup_eq_fast->ko,Paired->kt,wpAny_passesOwn->ky,rule->kC,Result->kH,BindsTo->kK,codeAny_mono->kL,wpAny_callSpecial?_slot->kN,callerA->kP,wpAny_rule->li,tupleKind->lr,wpAny_truthy_bool->lw,behindInMarks->lI,mem_of_lookup->lS,typeOf->lT,valueAt->md,compPost->me,richCompare->mf,seqItems?->ms,wpAny_setField_rec->mB,GenState->mE,Drawn->mI,OsState->mM,plainId->mN,isTrue->ni,assign->nj,assignEach->nk,PassesOwn->nq,letOwnedTupleGo->nr,standAt->nw,wpAny_call_entry->nL,DictEntry->nS,collect->og,Str->ou,Within->oz,wpAny_execs_nil->oB,truthy->oI,unaryOp->oP,getMethod->rc,callWith->r_,seqIndex?->so,subscripted->ss,slicePick->su,tupleKind_room_in1->sB,richCompare_meets_room->sM,field->uc,entryFor->uf,table->ug,callType_codes->uj,IsEnum->uo,Draws->ur,wpAny_pyIter_enum->ut,builtinsNs->vc,backToKw->ve,keywordEach->vg,wpAny_Name->vk,getAttr->vn,wpAny_call->vF,cellsFrom->vT,concat_meets->wb,noFill_tuple_add->wc,seq_tuple_add->we,evalPart_none->wy,operate->wP,slot_list_getitem->wS,typeIs_str->wT,call->xh,newList->xk,wpAny_newTuple->xy,wpAny_specialOf->xL,wpAny_of_eq->yb,Fin->yf,wpAny_onRaise->yg,entryFor_alias->yi,raisesAttr->yj,wpAny_raiseAttrError->yk,attrMsg_fits->yl,getAttr?->yo,sub_AttributeError->yp,getattributeRaised->yq,dictSet->yr,wpAny_dictSet_pairs->yt,kt_code_dict_new->yz,wpAny_notOrdered_dict->yB,wpAny_ite_split->zb,dictSize->ze,wpAny_Constant_int->zx,wpAny_execs_cons->zC,interactive->zD,wpAny_pyNext_list_item->zI,wpAny_pyNext_list_end->zS,wpAny_pyNext_tuple_item->Aa,wpAny_pyNext_tuple_end->Ab,IsRangeIter->Ac,intBits_le_64->Ae,recursionLimit->Ak,wpAny_sequenceKey->Aq,wpAny_Slice->Av,seqIndex_of->Ax,wpAny_getItem_list_slice->AA,call_list_seq->AB,comprehension->AQ,wpAny_newList->AX,call_function_tree->Bc,wpAny_pyIter_list->Bm,wpAny_standAt->Bp,call_len_dict->Bs,callType_new->BD,wpAny_attempt->BE,wpAny_isInstance->BH,sub_enumerate->BS,wpAny_stack_any->BT,wpAny_pyNext_enum_itemD->BY,wpAny_letOwnedTupleGo_enum->B0,wpAny_pyNext_enum_endD->B1,codeAny_call_builtin->Ca,isSubtype_type->Cb
open PySem.Around renaming under_plainId->gw,under->vz
open PySem.AutoSeq1 renaming wpAny_loadPart'->lq,list_extend_list_list_0->CY,sub_tuple_tuple->C6
open PySem.BindsTo renaming of_defaults->uz
open PySem.Builtin.Builtins renaming bindParams->Bd
open PySem.Builtin.Dict renaming addKeywords->ui,selfAndRest->Dr,pendingCount->Du
open PySem.Builtin.List renaming listExtendWith->oq,listTooLong->xa,listLengthHint->za,listItems->B6,listSameRef->B7,listUpdate->Dt
open PySem.Builtin.Range renaming rangeSize->CD
open PySem.Builtin.Slice renaming slicePlaces->sh,sliceAdjust->wm,sliceApplied->Ao,slicePartIndex->CO,sliceFields->CS
open PySem.Builtin.SmallTypes renaming nextOf->lh,ownedTupleIsFree->yh,fitsIndex->zd,ownedTupleHandOut->Do
open PySem.Builtin.Str renaming occurrences->Af,strSliceIndices->Br,tooLong->Dm
open PySem.Builtin.Tuple renaming tupleItemsOf->At,tupleCompareSizes->C7,tupleIsExact->Dv
open PySem.Calls renaming spliced_nil->kF,spliced_cons->kG,Name_function_global->zy,callWith_builtin->AC,call_function_entry->A2
open PySem.Code renaming quiet_builtin->lj,isFrame->vE,frames->Al,call->B9
open PySem.Data renaming fields->nu,cell->nv,seq->zw
open PySem.DictEntry renaming refKey->CF
open PySem.F renaming plain_min_loop->k6,plain_max_loop->k9,plainAttrs_list->la,slot_list_append->sx,slot_list_pop->sA,slot_tuple_iterator_next->ub,slot_zip_next->uh,called_enumerate->uq,slot_tuple_add->wf,entry_tuple_add->wg,args_tuple_add_2->wj,slot_list_extend->xc,entry_min_loop->xS,entry_max_loop->ya,type_list_append->yd,slot_zip_getattribute->yn,kt_called_dict->yu,kt_typeCall_dict_1->yw,entry_dict_init->yx,args_dict_init_2->yA,slot_list_getattribute->yT,slot_tuple_getattribute->yY,entry_list_pop->AE,type_list_pop->Bu,entry_tuple_iterator_next->By,args_tuple_iterator_next_1->Bz,entry_zip_next->BF,args_zip_next_1->BG,type_list_extend->BN,entry_enumerate_new->BU,plain_extend_loop->B8,slot_dict_len->Cd,plain_list_iadd->Ce
open PySem.Heap renaming lt_size->bp,get?_push_of_some->bu,get?_push_size->cx,size_push->dv,SameBut->gl,get?_update_other->ji,get?_update_self->jr,IsTuple->ud,size_update->xz,NewAttrErr->ym,get?_push_ne->AY,get?_update_ne->A1,ExtBut->Bw
open PySem.Heap.DictOf renaming new->sC
open PySem.Heap.IsSliceOf renaming new->Aw
open PySem.Heap.IsTuple renaming push->Dq
open PySem.Heap.Ns1 renaming of_empty->CL
open PySem.Heap.SameBut renaming update->Bx,refl->Dp
open PySem.IsL renaming update->CU
open PySem.IsiPair renaming dict_int->Bg,dict_str->Bh,dict_bool->Bi,dict_list->Bj,dict_tuple->Bk,dict_dict->Bl
open PySem.MeetsSeq renaming list_pop_last->C0,list_pop_at->C1
open PySem.NameKind renaming free->ke,cell->xj
open PySem.Obj renaming mapSeq->dA
open PySem.Paired renaming length->ja,snoc->AI
open PySem.PassesOwn renaming never->dP
open PySem.SeqAt.EqAt renaming same->xl,int_str->zr,str_int->zt,of_refs->AS
open PySem.Shared renaming heap->ue
open PySem.Str renaming ofString->zf,empty->Aj
open PySem.Txt renaming mul->lg,slice->tJ
open PySem.Value renaming ref->eJ,type->fI,str->mT,int->ow,none->ox,bool->oy,isInt->zo,isStrOf->zq,bytes->zu,float->zv
open PySem.W renaming Frag->bg,findIn->jb,emptyDict->jc,keepIn->jd,nsIn->jn,instObj->jv,fnOf->kM,kas_rev->kT,KasT->mh,kas_item->oh,lookIn->oQ,plainGet->oS,codeIn->sg,methodObj->vb,hasDictIn->vm,plainGet_of->vo,isFn->vq,takerIn->vw,callWith_K->vS,kat_kind->xC,handedIn->Ag,plainOver->Ah,makesIn->Ai,cellsFrom_some->Am
open PySem.W.Looks renaming of_pure->sR,here->CH
open PySem.W.WData renaming int->AJ
open PySem.W.WShape renaming has->AL
open PySem.Within renaming cons->CI
open Sum renaming inr->fE,inl->kq
open True renaming intro->jz
open _root_ renaming List->aa,Nat->af,Int->ah,if_pos->ao,Bool->aq,Option->au,if_neg->aw,Array->ay,absurd->aE,decide_eq_true->bi,DecidableEq->cq,False->cw,congrArg->cz,decide_eq_false->cK,of_decide_eq_true->dh,decide_eq_true_eq->dL,String->dS,beq_self_eq_true->eo,if_true->eB,beq_eq_false_iff_ne->fF,not_or->gu,True->gx,if_false->gN,beq_iff_eq->io,decide_eq_false_iff_not->sD,eq_iff_iff->sL,dif_pos->sP,Decidable->zc,bne_self_eq_false->AZ
set_option Elab.async false
set_option maxRecDepth 100000
set_option maxHeartbeats 4000000
noncomputable section
local macro_rules|`(0x0)=>`(by trivial)|`(0x1)=>`(by lia)|`(0x2)=>`(by simp)|`(0x3)=>`(by rfl)|`(0x4)=>`(by decide)|`(0x5)=>`(by with_unfolding_all rfl)|`(0x6)=>`(by decide +kernel)|`(0x7)=>`(by intro z;cases z)|`(0x8)=>`(by kernel_rfl)
set_option linter.all false
set_option autoImplicit true
set_option genSizeOfSpec false
set_option genInjectivity true
abbrev nDb(x:ou):Prop:= (x==("__debug__" : ou))=ag
abbrev nCd(x:ou):Prop:= (x==("__classdict__" : ou))=ag
namespace L2
open PySem PySem.Spec PyProof.Rows
noncomputable abbrev Key:=Sum ah Str
noncomputable def O9:Key->aj->aq
 |.inl k,v=>zo k v
 |.inr x,v=>zq x v
noncomputable def aRf(w:bm):Key->ah
 |.inl k=>hashInt k
 |.inr x=>hashStr w x
theorem dU:∀{k:Key}{v:aj},O9 k v=ae->(∃i t,k=kq i/\v=ow i t)\/(∃x t,k=fE x/\v=mT x t)
 |.inl i,v,h=>by
  obtain⟨t,e⟩:=Value.isInt_shape h;exact .inl ⟨i,t,rfl,e⟩
 |.inr x,v,h=>by
  obtain⟨t,e⟩:=Value.isStrOf_shape h;exact .inr ⟨x,t,rfl,e⟩
theorem Y6(i:ah)(t:dQ):O9 (.inl i) (.int i t)=ae:=by simp[O9,zo]
theorem Y7(x:Str)(t:dQ):O9 (.inr x) (.str x t)=ae:=by simp[O9,zq]
theorem aL2(a b:ah):decide ((kq a:Key)=kq b)=(a==b):=by
 by_cases e:a=b
 ·subst e;simp
 ·have h:¬(kq a:Key)=kq b:=λq=>e (Sum.inl.inj q)
  rw[cK h];exact(fF.mpr e).symm
theorem aL3(a b:Str):decide ((fE a:Key)=fE b)=decide (a=b):=by
 by_cases e:a=b
 ·subst e;simp
 ·have h:¬(fE a:Key)=fE b:=λq=>e (Sum.inr.inj q)
  rw[cK h,cK e]
theorem aL4(a:ah)(b:Str):decide ((kq a:Key)=fE b)=ag:=cK (λq=>nomatch q)
theorem aL5(a:Str)(b:ah):decide ((fE a:Key)=kq b)=ag:=cK (λq=>nomatch q)
def cM(prog:bS)(w:bm):PySem.KeyKind prog w Key where
 is:=O9
 hash:=aRf w
 inj:=λv a b ha hb=>by
  rcases dU ha with ⟨i,t,rfl,rfl⟩|⟨x,t,rfl,rfl⟩
  ·rcases dU hb with ⟨j,u,rfl,e⟩|⟨y,u,rfl,e⟩
   ·injection e with e1 _;rw[e1]
   ·exact nomatch e
  ·rcases dU hb with ⟨j,u,rfl,e⟩|⟨y,u,rfl,e⟩
   ·exact nomatch e
   ·injection e with e1 _;rw[e1]
 byValue:=λk v h=>by
  rcases dU h with ⟨i,t,rfl,rfl⟩|⟨x,t,rfl,rfl⟩<;>rfl
 pyHash:=λhv h=>by
  rcases dU hv with ⟨i,t,rfl,rfl⟩|⟨x,t,rfl,rfl⟩
  ·exact wpAny_pyHash_int h
  ·exact wpAny_pyHash_str h
 eqBool:=λhu hv h=>by
  rcases dU hu with ⟨i,t,rfl,rfl⟩|⟨x,t,rfl,rfl⟩
  ·rcases dU hv with ⟨j,u,rfl,rfl⟩|⟨y,u,rfl,rfl⟩
   ·rw[aL2] at h;exact wpAny_eqBool_int h
   ·rw[aL4] at h;exact zr i t y u _ _ _ _ h
  ·rcases dU hv with ⟨j,u,rfl,rfl⟩|⟨y,u,rfl,rfl⟩
   ·rw[aL5] at h;exact zt x t j u _ _ _ _ h
   ·rw[aL3] at h;exact wpAny_eqBool_str h
 «strs»:=λk x t v h=>by
  rcases dU h with ⟨i,u,rfl,e⟩|⟨y,u,rfl,e⟩
  ·exact nomatch e
  ·injection e with e1 _
   subst e1;cases v<;>rfl
theorem O_(prog:bS)(w:bm)(i:ah)(t:dQ):(cM prog w).is (.inl i) (.int i t)=ae:=Y6 i t
theorem PB(prog:bS)(w:bm)(x:Str)(t:dQ):(cM prog w).is (.inr x) (.str x t)=ae:=Y7 x t
inductive V where
 |non|bl (b:aq)|int (i:ah)|str (x:Str)|byt (b:ay UInt8)|flt (b:UInt64)|ref (a:ak)|ty (n:dS)
 deriving cq
def RelV:V->aj->Prop
 |.non,u=>u=ox
 |.bl b,u=>u=oy b
 |.int i,u=>∃t,u=ow i t
 |.str x,u=>∃t,u=mT x t
 |.byt b,u=>∃t,u=zu b t
 |.flt b,u=>∃t,u=zv b t
 |.ref a,u=>u=eJ a
 |.ty n,u=>u=fI n
abbrev Vals:aa V->aa aj->Prop:=kt RelV
theorem Vals.length(r:Vals xs us):xs.length=us.length:=ja r
theorem Vals.get:∀{xs:aa V}{us:aa aj}{i:af}{x:V},Vals xs us->xs[i]?=ab x->∃u,us[i]?=ab u/\RelV x u
 |_,_,_,_,.nil,e=>by simp at e
 |_,_,0,_,.cons r _,e=>by simp at e;subst e;exact⟨_,rfl,r⟩
 |_,_,i+1,x,.cons _ t,e=>by
  obtain⟨u,h1,h2⟩:=Vals.get t (by simpa using e);exact⟨u,by simpa using h1,h2⟩
theorem Vals.append:∀{xs ys:aa V}{us ws:aa aj},Vals xs us->Vals ys ws->Vals (xs++ys) (us++ws)
 |_,_,_,_,.nil,s=>s
 |_,_,_,_,.cons r t,s=>.cons r (Vals.append t s)
theorem Vals.take:∀{xs:aa V}{us:aa aj}(n:af),Vals xs us->Vals (xs.take n) (us.take n)
 |_,_,0,_=>.nil
 |_,_,_+1,.nil=>.nil
 |_,_,n+1,.cons r t=>.cons r (Vals.take n t)
theorem Vals.drop:∀{xs:aa V}{us:aa aj}(n:af),Vals xs us->Vals (xs.drop n) (us.drop n)
 |_,_,0,r=>r
 |_,_,_+1,.nil=>.nil
 |_,_,n+1,.cons _ t=>Vals.drop n t
def O3:au V->au aj->Prop
 |some v,ab u=>RelV v u
 |none,ai=>gx
 |_,_=>cw
def KV{κ:Type}:aa (κ×V)->aa (κ×aj)->Prop:=kt λ(p:κ×V)(q:κ×aj)=>p.1=q.1/\RelV p.2 q.2
noncomputable def kV:Key->V
 |.inl i=>.int i
 |.inr x=>.str x
inductive HO where
 |lst (xs:aa V)
 |tup (xs:aa V)
 |dK (kvs:aa (Key×V))|dT (kvs:aa (aa Key×V))
 |set (S:ah->aq) (n:af)
 |ins (C dx:ak) (fs:aa (Str×V))
 |own (x:ak)
 |xd (fs:aa (Str×V))
 |met (f x:ak)
 |rng (lo hi:ah)
 |frz (o:bd) (u:HO)
 |tbl (ps:ay aj)
 |ext (φ:aI->Prop)
noncomputable abbrev Hp:=ak->au HO
noncomputable def upd(H:Hp)(a:ak)(o:HO):Hp:=λb=>if b=a then ab o else H b
theorem aM:upd H a o a=ab o:=by unfold upd;rw[ao rfl]
theorem bG(h:b≠a):upd H a o b=H b:=by unfold upd;rw[aw h]
theorem PJ:upd (upd H a o) a u=upd H a u:=by
 funext b;unfold upd;split<;>rfl
theorem DQ{H:Hp}(h:H a=ab o)(h':H b=ab u)(d:o≠u):a≠b:=by
 intro e;subst e;rw[h] at h';exact d (c6 h')
theorem dO{H:Hp}(h:H a=ab o)(h':H b=ai):a≠b:=by
 intro e;subst e;rw[h] at h';cases h'
def kJ(h:aI)(a:ak)(its:ay aj):Prop:=∃o,h.get? a=ab o/\o.cls=.type "tuple"/\∃n,(o.data,o.dict)=(zw its n,ai)
theorem kJ.tup{h:aI}{a:ak}{its:ay aj}(t:kJ h a its):kx h a its:=let ⟨o,e,c,n,d⟩:=t;⟨o,e,c,n,cz (·.1) d⟩
theorem kJ.bare(t:kJ h a its):∃o,h.get? a=ab o/\o.dict=ai:=let ⟨o,e,_,_,d⟩:=t;⟨o,e,cz (·.2) d⟩
theorem kJ.new(h:aI)(items:ay aj):kJ (h.push {cls:=.type "tuple",data:=.seq items}) h.objs.size items:=⟨_,cx _ rfl,rfl,_,rfl⟩
section
variable (P:bS) (w:bm)
def jH(H:Hp)(h:aI)(a:ak):HO->Prop
 |.lst xs=>xs.length<=ba/\∃(its:aa aj)(n:af),Vals xs its/\h.get? a=ab {cls:=.type "list",data:=.seq its.toArray n}
 |.tup xs=>xs.length<=ba/\∃its:aa aj,Vals xs its/\kJ h a its.toArray
 |.dK kvs=>kvs.length<=ba/\(a==gj)=ag/\∃vs,KV kvs vs/\h.DictOf (cM P w) a vs
 |.dT kvs=>kvs.length<=ba/\(a==gj)=ag/\∃xs:aa (aa Key×ak×aj),
   kt (λ(p:aa Key×V)(q:aa Key×ak×aj)=>p.1=q.1/\H q.2.1=ab (.tup (p.1.map kV))/\RelV p.2 q.2.2) kvs xs/\
   ∃o es ep,h.get? a=ab o/\o.ExactDict/\o.data=.dict es ep/\es.toList=xs.map (entryOfKey (lr (cM P w)))/\(xs.map (·.1)).Nodup
 |.set S n=>h.SetOf (intKind P w) a S n
 |.ins C dx fs=>H dx=ab (.own a)/\fs.length<=1000/\dx≠a/\h.get? a=ab (jv C dx)/\
   ∃mA,h.Ns1 dx mA/\(∀f,O3 (fs.lookup f) (mA f))/\oz mA (fs.map (·.1))
 |.own _=>∃o,h.get? a=ab o
 |.xd fs=>∃mA,h.Ns1 a mA/\∀f,O3 (fs.lookup f) (mA f)
 |.rng lo hi=>∃t u v,h.get? a=ab {cls:=.type "range",data:=.fields #[.int lo t,.int hi u,.int 1 v]}
 |.frz o u=>h.get? a=ab o/\jH H h a u
 |.tbl ps=>h.get? a=ab {cls:=.none,data:=.fields ps}
 |.met f x=>h.get? a=ab (vb (.ref f) (.ref x))
 |.ext φ=>φ h/\(∃o,h.get? a=ab o)/\∀h1 h2:aI,φ h1->(∀o,h1.get? a=ab o->h2.get? a=ab o)->φ h2
def HOk(H:Hp)(h:aI):Prop:=∀a o,H a=ab o->jH P w H h a o
end
section
variable {a:ak}
theorem jH.lt(x:jH P w H h a o):a<h.objs.size:=by
 cases o with
 |lst xs=>obtain⟨_,_,_,_,e⟩:=x;exact bp e
 |tup xs=>obtain⟨_,_,_,p⟩:=x;exact p.tup.lt
 |dK kvs=>obtain⟨_,_,_,_,o,_,_,e,_⟩:=x;exact bp e
 |dT kvs=>obtain⟨_,_,_,_,o,_,_,e,_⟩:=x;exact bp e
 |set S n=>obtain⟨o,_,_,_,e,_⟩:=x;exact bp e
 |ins C dx fs=>obtain⟨_,_,_,e,_⟩:=x;exact bp e
 |own y=>obtain⟨_,e⟩:=x;exact bp e
 |xd fs=>obtain⟨_,⟨_,_,_,e,_⟩,_⟩:=x;exact bp e
 |rng lo hi=>obtain⟨_,_,_,e⟩:=x;exact bp e
 |frz ob u=>obtain⟨e,_⟩:=x;exact bp e
 |tbl ps=>exact bp (show h.get? a=ab _ from x)
 |met f y=>exact bp (show h.get? a=ab _ from x)
 |ext φ=>obtain⟨_,⟨_,e⟩,_⟩:=x;exact bp e
theorem Paired.aP3:∀{l₁:aa α}{l₂:aa β},kt F l₁ l₂->(∀a b,F a b->G a b)->kt G l₁ l₂
 |_,_,.nil,_=>.nil
 |_,_,.cons r t,f=>.cons (f _ _ r) (Paired.aP3 t f)
theorem jH.stay(x:jH P w H h a o)(k:∀b u,(b=a\/H b=ab (.own a))->h.get? b=ab u->h'.get? b=ab u)
 (ho:∀b,H b=ab (.own a)->H' b=ab (.own a))(ht:∀b xs,H b=ab (.tup xs)->H' b=ab (.tup xs)):jH P w H' h' a o:=by
 induction o with
 |lst xs=>obtain⟨z,its,n,r,e⟩:=x;exact⟨z,its,n,r,k _ _ (.inl rfl) e⟩
 |tup xs=>obtain⟨z,its,r,ob,e,c⟩:=x;exact⟨z,its,r,ob,k _ _ (.inl rfl) e,c⟩
 |dK kvs=>obtain⟨z,y,vs,r,ob,es,ep,e,c⟩:=x;exact⟨z,y,vs,r,ob,es,ep,k _ _ (.inl rfl) e,c⟩
 |dT kvs=>
  obtain⟨z,y,xs,r,ob,es,ep,e,c⟩:=x;exact⟨z,y,xs,Paired.aP3 r λp q z=>⟨z.1,ht _ _ z.2.1,z.2.2⟩,ob,es,ep,k _ _ (.inl rfl) e,c⟩
 |set S n=>obtain⟨ob,es,ep,t,e,c⟩:=x;exact⟨ob,es,ep,t,k _ _ (.inl rfl) e,c⟩
 |ins C dx fs=>
  obtain⟨d,z,ne,e,mA,⟨od,es,ep,e2,c⟩,r⟩:=x;exact⟨ho _ d,z,ne,k _ _ (.inl rfl) e,mA,⟨od,es,ep,k _ _ (.inr d) e2,c⟩,r⟩
 |own y=>obtain⟨ob,e⟩:=x;exact⟨ob,k _ _ (.inl rfl) e⟩
 |xd fs=>obtain⟨mA,⟨od,es,ep,e,c⟩,r⟩:=x;exact⟨mA,⟨od,es,ep,k _ _ (.inl rfl) e,c⟩,r⟩
 |rng lo hi=>obtain⟨t,u,v,e⟩:=x;exact⟨t,u,v,k _ _ (.inl rfl) e⟩
 |frz ob u ih=>obtain⟨e,q⟩:=x;exact⟨k _ _ (.inl rfl) e,ih q⟩
 |tbl ps=>
  have e:h.get? a=ab {cls:=.none,data:=.fields ps}:=x;show h'.get? a=ab {cls:=.none,data:=.fields ps};exact k a _ (.inl rfl) e
 |met f y=>
  have e:h.get? a=ab (vb (.ref f) (.ref y)):=x;show h'.get? a=ab (vb (.ref f) (.ref y));exact k a _ (.inl rfl) e
 |ext φ=>obtain⟨p,⟨o,e⟩,st⟩:=x;exact⟨st _ _ p λo q=>k _ _ (.inl rfl) q,⟨o,k _ _ (.inl rfl) e⟩,st⟩
theorem HOk.lt(x:HOk P w H h)(e:H a=ab o):a<h.objs.size:=(x a o e).lt
theorem HOk.fresh(x:HOk P w H h)(e:h.objs.size<=a):H a=ai:=by
 cases q:H a with
 |none=>rfl
 |some u=>exact aE (c5 (x.lt q) e) (fg _)
theorem HOk.kept(x:HOk P w H h)(k:∀b u,h.get? b=ab u->h'.get? b=ab u):HOk P w H h':=λa o e=>
 (x a o e).stay (λb u _ q=>k b u q) (λ_ q=>q) λ_ _ q=>q
theorem HOk.laid(x:HOk P w H h)(k:∀b u,h.get? b=ab u->h'.get? b=ab u)(hp:h.objs.size<=a)(new:jH P w (upd H a o) h' a o):HOk P w (upd H a o) h':=λb u e=>by
 have hn:=x.fresh hp;by_cases hb:b=a
 ·subst hb;rw[aM] at e;cases e;exact new
 ·rw[bG hb] at e;exact(x b u e).stay (λc v _ q=>k c v q) (λc q=>by rw[bG (dO q hn)];exact q) λc xs q=>by rw[bG (dO q hn)];exact q
end
def Rd(H:Hp)(a:ak)(u:HO):Prop:=H a=ab u\/∃o,H a=ab (.frz o u)
theorem Rd.ok(r:Rd H a u)(x:HOk P w H h):jH P w H h a u:=by
 rcases r with r|⟨o,r⟩
 ·exact x a u r
 ·obtain⟨_,q⟩:=x a _ r;exact q
def Mut:au HO->Prop
 |some (.lst _)=>gx
 |some (.dK _)=>gx
 |some (.dT _)=>gx
 |some (.set _ _)=>gx
 |some (.ins _ _ _)=>gx
 |some (.ext _)=>gx
 |_=>cw
section
variable {x e:ak}
theorem HOk.write(ok:HOk P w H h)(mu:Mut (H x))(he:e=x\/H e=ab (.own x))(k:∀b u,b≠e->h.get? b=ab u->h'.get? b=ab u)(heo:∃u,h'.get? e=ab u)
 (new:jH P w (upd H x o') h' x o'):HOk P w (upd H x o') h':=λb u q=>by
 have nown:∀c y,H c=ab (.own y)->c≠x:=λc y r z=>by subst z;rw[r] at mu;exact mu
 have ntup:∀c xs,H c=ab (.tup xs)->c≠x:=λc xs r z=>by subst z;rw[r] at mu;exact mu
 by_cases hb:b=x
 ·subst hb;rw[aM] at q;cases q;exact new
 ·rw[bG hb] at q;by_cases hbe:b=e
  ·have q':H b=ab (.own x):=by
    rcases he with z|z
    ·exact aE (hbe.trans z) hb
    ·rw[hbe];exact z
   rw[q] at q';cases q';obtain⟨v,hv⟩:=heo;exact⟨v,by rw[hbe];exact hv⟩
  ·refine(ok b u q).stay (λc v hc r=>k c v ?_ r) (λc r=>by rw[bG (nown c b r)];exact r) λc xs r=>by rw[bG (ntup c xs r)];exact r
   rcases hc with rfl|hc
   ·exact hbe
   ·rintro rfl;rcases he with z|z
    ·exact nown c b hc z
    ·rw[hc] at z;cases z;exact hb rfl
end
structure Un(fs ex:aa ak)(H H':Hp)(h h':aI):Prop where
 keep:∀b o,h.get? b=ab o->H b=ai->b∉fs->b∉ex->h'.get? b=ab o
 slot:∀b o,h.get? b=ab o->H b=ai->b∈fs->b∉ex->∃sl,h'.get? b=ab {o with slots:=sl}
 free:∀b o,h.get? b=ab o->H b=ai->b∉ex->H' b=ai
 there:∀b o,h.get? b=ab o->b∉ex->∃o',h'.get? b=ab o'
 tups:∀b xs,H b=ab (.tup xs)->H' b=ab (.tup xs)
 frzs:∀b o u,H b=ab (.frz o u)->H' b=ab (.frz o u)
 tbls:∀b ps,H b=ab (.tbl ps)->∃more,H' b=ab (.tbl (ps++more))
section
theorem Un.any(u:Un fs ex H H1 h h1)(q:h.get? b=ab ob)(n:H b=ai)(hx:b∉ex):∃sl,h1.get? b=ab {ob with slots:=sl}:=by
 by_cases hb:b∈fs
 ·exact u.slot b ob q n hb hx
 ·exact⟨ob.slots,u.keep b ob q n hb hx⟩
theorem Un.kept(k:∀b u,h.get? b=ab u->h'.get? b=ab u):Un fs ex H H h h':=
 ⟨λb ob q _ _ _=>k b ob q,λb ob q _ _ _=>⟨ob.slots,k b ob q⟩,λ_ _ _ n _=>n,λb ob q _=>⟨ob,k b ob q⟩,λ_ _ q=>q,λ_ _ _ q=>q,λ_ ps q=>⟨#[],by rw[q];simp⟩⟩
theorem Un.refl:Un fs ex H H h h:=Un.kept λ_ _ q=>q
theorem Un.laid(k:∀b u,h.get? b=ab u->h'.get? b=ab u)(hp:h.objs.size<=a)(hn:H a=ai):Un fs ex H (upd H a o) h h' where
 keep:=λb u q _ _ _=>k b u q
 slot:=λb u q _ _ _=>⟨u.slots,k b u q⟩
 free:=λb u q n _=>by rw[bG (ck (c5 (bp q) hp))];exact n
 there:=λb u q _=>⟨u,k b u q⟩
 tups:=λb xs q=>by rw[bG (dO q hn)];exact q
 frzs:=λb u xs q=>by rw[bG (dO q hn)];exact q
 tbls:=λb ps q=>⟨#[],by rw[bG (dO q hn),q];simp⟩
theorem Un.write(mu:Mut (H x))(he:e=x\/H e=ab (.own x))(k:∀b u,b≠e->h.get? b=ab u->h'.get? b=ab u)(heo:∃u,h'.get? e=ab u):Un fs ex H (upd H x o) h h':=by
 have hx:∀b,H b=ai->b≠x:=λb n z=>by subst z;rw[n] at mu;exact mu
 have hb:∀b,H b=ai->b≠e:=λb n z=>by
  subst z;rcases he with r|r
  ·exact hx b n r
  ·rw[n] at r;cases r
 have hm:∀b u,H b=ab u->¬Mut (ab u)->b≠x:=λb u q nm z=>by subst z;rw[q] at mu;exact nm mu
 refine⟨λb u q n _ _=>k b u (hb b n) q,λb u q n _ _=>⟨u.slots,k b u (hb b n) q⟩,λb u q n _=>by rw[bG (hx b n)];exact n,λb u q _=>?_,
  λb xs q=>by rw[bG (hm b _ q λz=>z)];exact q,λb u xs q=>by rw[bG (hm b _ q λz=>z)];exact q,λb ps q=>⟨#[],by rw[bG (hm b _ q λz=>z),q];simp⟩⟩
 by_cases hbe:b=e
 ·subst hbe;exact heo
 ·exact⟨u,k b u hbe q⟩
end
noncomputable def trk(h:aI)(H:Hp):aa ak:=(bw h.objs.size).filter λa=>(H a).isSome
def aD3(h:aI)(H:Hp):aI:=PySem.W.hideAll h (trk h H)
theorem Y8(h:aI)(H:Hp):(aD3 h H).objs.size=h.objs.size:=PySem.W.hideAll_size _ _
theorem aD4(e:h.get? b=ab o)(n:H b=ai):(aD3 h H).get? b=ab o:=
 PySem.W.hideAll_get _ e λhm=>by
  have q:(H b).isSome=ae:=(ng.mp hm).2;rw[n] at q;simp at q
theorem aH6(e:(aD3 h H).get? b=ab o):h.get? b=ab o/\H b=ai:=by
 have e':h.get? b=ab o:=PySem.W.of_hideAll (trk h H) e;refine⟨e',?_⟩;cases q:H b with
 |none=>rfl
 |some x=>
  have hm:b∈trk h H:=ng.mpr ⟨fN.mpr (bp e'),by simp[q]⟩;have z:(aD3 h H).get? b=ai:=PySem.W.hideAll_none (trk h H) hm;rw[z] at e;cases e
structure Mod(K:bg)(mg:Str->au aj)(base:aI):Prop where
 kin:K.In base
 glob:base.Ns cg mg
 blt:∃mb,base.Ns vc mb/\∀x:Str,x ≠ "__name__"->mb x=dz x
 nolimit:base.NoLimit
/-- the context: a def's body (or a comprehension's block) running. base: fixed through the whole law;s₀,H₀: the entry;outer: the frames whose slots others may change (a def's callers);stack: all frames that run;
   ex: iterators that were made ahead of the entry and are walked here (a comprehension's);fn: the names whose cells were made at the entry (a def: all;a comprehension's block: its own);calm: not within an except suite;pn: pins that every state bears;xe: what is wanted of an exception that leaves the code -/
structure Cx where
 prog:bS
 w:bm
 K:bg
 mg:Str->au aj
 base:aI
 A:b5
 N:aa Str
 s₀:am
 H₀:Hp
 env:di
 outer:aa di
 stack:aa di
 ex:aa ak
 fn:Str->aq
 calm:aq
 pn:aa (ak×bd)
 xe:aj->am->Prop
noncomputable def frs(l:aa di):aa ak:=l.filterMap (·.frame)
abbrev Cx.fs(X:Cx):aa ak:=frs X.outer
def Vis(sc:fR)(x:Str):Prop:=sc.names.lookup x=ab .local\/sc.names.lookup x=ab .cell\/sc.names.lookup x=ab .free
def Loc(sc:fR)(x:Str):Prop:=sc.names.lookup x=ab .local\/sc.names.lookup x=ab .cell
def Look(env:di)(h:aI)(m:Str->au aj)(x:Str)(u:aj):Prop:=
 (env.kindOf x=ab .local/\m x=ab u)\/((env.kindOf x=ab .cell\/env.kindOf x=ab .free)/\∃c,env.cells.lookup x=ab c/\h.IsCell c (ab u))
abbrev zSE(X:Cx)(e:Expr)(es:aa Expr):Prop:=b9 (e::es) X.env=(ag,bf e X.env)::b9 es X.env
abbrev zSP(X:Cx)(pos:cn)(es:aa Expr):Prop:=(iA pos (b9 es X.env)).any (·.1)=ag
abbrev zFw(X:Cx)(cpos:cn)(es:aa Expr):Prop:=((iA cpos (b9 es X.env)).all (λx=>!x.1)&&(ve cpos (vg [] X.env)).all (λx=>x.1.isSome)
  &&decide (es.length+([]:aa Keyword).length+(if ([]:aa Keyword).isEmpty then 0 else 1)<30))=ae
abbrev zSw(X:Cx)(e:Expr)(x:Str)(pos' pos:cn):Prop:=d5 e (ab (.Name x pos')) pos.line X.env=pure ag
abbrev zFn(X:Cx)(x:Str):Prop:=X.fn x=ae\/X.env.scope.names.lookup x=ab .local
structure Cx.Ok(X:Cx):Prop where
 mod:Mod X.K X.mg X.base
 kind:X.env.scope.kind=.function
 glob:X.env.globals=cg
 blt:X.env.builtins=vc
 above:X.s₀.heap.objs.size<=X.env.locals
 inj:∀x y c,X.env.cells.lookup x=ab c->X.env.cells.lookup y=ab c->x=y
 has:∀x,(X.env.kindOf x=ab .cell\/X.env.kindOf x=ab .free)->∃c,X.env.cells.lookup x=ab c
 cab:∀x c,X.fn x=ae->X.env.cells.lookup x=ab c->X.s₀.heap.objs.size<=c
 hd:X.calm=ae->X.A.handled=ai
 frames:X.A.frames=ab X.stack
 stk:X.stack=X.outer\/(X.stack=X.env::X.outer/\X.env.frame=ab X.env.locals)
 exf:∀b∈X.ex,b≠X.env.locals/\∀x c,X.env.cells.lookup x=ab c->c≠b
 bs:∀b o,X.base.get? b=ab o->X.s₀.heap.get? b=ab o/\X.H₀ b=ai
 bsz:X.base.objs.size<=X.s₀.heap.objs.size
 noex:∀b o,X.base.get? b=ab o->b∉X.ex
 exfs:∀b∈X.ex,b∉X.fs
 YW:X.s₀.heap.FunFrames X.base X.outer
 frf:∀b∈X.fs,X.H₀ b=ai
structure Inv(X:Cx)(pins:aa (ak×bd))(σ:aa (au V))(H:Hp)(s:am):Prop where
 ok:X.Ok
 os:s.os=X.s₀.os
 bare:jw s.gens
 base:Un X.fs X.ex X.H₀ H X.s₀.heap s.heap
 loc:∃m,s.heap.Ns X.env.locals m/\∀(i:af)(x:Str)(v:V),X.N[i]?=ab x->σ[i]?=ab (ab v)->Vis X.env.scope x->∃u,RelV v u/\Look X.env s.heap m x u
 cell:∀x c,X.env.cells.lookup x=ab c->∃v,s.heap.IsCell c v
 free:H X.env.locals=ai
 freeC:∀x c,X.env.cells.lookup x=ab c->H c=ai
 pin:∀p∈X.pn++pins,s.heap.get? p.1=ab p.2/\H p.1=ai/\p.1≠X.env.locals/\p.1∉X.fs/\∀v,p.2.data≠.cell v
 hok:HOk X.prog X.w H s.heap
 len:σ.length=X.N.length
section
variable {X:Cx} {pins:aa (ak×bd)} {σ:aa (au V)} {H H':Hp} {s:am} {h':aI}
theorem Cx.Ok.aRg(ok:X.Ok)(e:X.base.get? b=ab o):b∉X.fs:=λhb=>by
 have:=(ok.YW.mem hb).1;rw[e] at this;cases this
theorem Inv.bs(I:Inv X pins σ H s):∀b o,X.base.get? b=ab o->s.heap.get? b=ab o/\H b=ai:=λb o e=>
 ⟨I.base.keep b o (I.ok.bs b o e).1 (I.ok.bs b o e).2 (I.ok.aRg e) (I.ok.noex b o e),I.base.free b o (I.ok.bs b o e).1 (I.ok.bs b o e).2 (I.ok.noex b o e)⟩
theorem Inv.bk(I:Inv X pins σ H s):∀b o,X.base.get? b=ab o->s.heap.get? b=ab o:=λb o e=>(I.bs b o e).1
theorem Inv.mod(I:Inv X pins σ H s):Mod X.K X.mg X.base:=I.ok.mod
theorem Inv.kIn(I:Inv X pins σ H s):X.K.In s.heap:=I.ok.mod.kin.keeps I.bk
theorem Inv.lt(I:Inv X pins σ H s):X.env.locals<s.heap.objs.size:=let ⟨_,hn,_⟩:=I.loc;hn.lt
theorem Inv.sz(I:Inv X pins σ H s):X.s₀.heap.objs.size<=s.heap.objs.size:=c9 I.ok.above (lv I.lt)
theorem Inv.aQw(I:Inv X pins σ H s)(h:s.heap.objs.size<=a):a∉X.fs:=λhb=>by
 obtain⟨_,o,ho,_⟩:=I.ok.YW.mem hb;exact aE (c5 (bp ho) (c9 I.sz h)) (fg _)
theorem Inv.cne(I:Inv X pins σ H s):∀x c,X.env.cells.lookup x=ab c->c≠X.env.locals:=λx c e z=>by
 obtain⟨v,o,ho,hd⟩:=I.cell x c e;obtain⟨m,⟨o',es,ep,ho',hd',_⟩,_⟩:=I.loc;rw[z,ho'] at ho;cases ho;rw[hd'] at hd;cases hd
theorem Inv.YW(I:Inv X pins σ H s):s.heap.FunFrames X.base X.outer:=by
 have all:∀(l:aa di),(∀b∈frs l,b∈X.fs)->X.s₀.heap.FunFrames X.base l->s.heap.FunFrames X.base l:=by
  intro l;induction l with
  |nil=>intro _ _;trivial
  |cons env r ih=>
   intro hs hl;obtain⟨hk,⟨L,o,hf,hn,ho,hd⟩,hr⟩:=hl;have hL:L∈X.fs:=hs L (by unfold frs;rw[nh,hf];exact bn);obtain⟨sl,e⟩:=I.base.slot L o ho (I.ok.frf L hL) hL λz=>I.ok.exfs L z hL
   exact⟨hk,⟨L,_,hf,hn,e,hd⟩,ih (λb hb=>hs b (by unfold frs;rw[nh,hf];exact bz _ hb)) hr⟩
 exact all X.outer (λ_ hb=>hb) I.ok.YW
theorem Inv.stack(I:Inv X pins σ H s):s.heap.FunFrames X.base X.stack:=by
 rcases I.ok.stk with e|⟨e,hf⟩
 ·rw[e];exact I.YW
 ·rw[e];obtain⟨m,hn,_⟩:=I.loc;refine .cons (by rw[I.ok.kind];decide) hf hn ?_ I.YW;exact Heap.get?_none_of_le (c9 I.ok.bsz I.ok.above)
theorem Inv.R8(I:Inv X pins σ H s):∀b∈frs X.stack,b∈X.env.locals::X.fs:=λb hb=>by
 rcases I.ok.stk with e|⟨e,hf⟩
 ·rw[e] at hb;exact bz _ hb
 ·rw[e] at hb;unfold frs at hb;rw[nh,hf] at hb;exact hb
theorem Inv.Y9(I:Inv X pins σ H s):∀b∈frs X.stack,H b=ai:=λb hb=>by
 rcases bq.mp (I.R8 b hb) with e|hb
 ·rw[e];exact I.free
 ·obtain⟨_,o,ho,_⟩:=I.ok.YW.mem hb;exact I.base.free b o ho (I.ok.frf b hb) λz=>I.ok.exfs b z hb
theorem Inv.step{ch:aa ak}(I:Inv X pins σ H s)
 (hch:∀b∈ch,(b∈X.ex\/X.s₀.heap.objs.size<=b)/\b≠X.env.locals/\(∀x c,X.env.cells.lookup x=ab c->c≠b)/\∀p∈X.pn++pins,p.1≠b)
 (keep:∀b o,b≠X.env.locals->b∉X.fs->b∉ch->s.heap.get? b=ab o->H b=ai->h'.get? b=ab o)
 (slot:∀b o,b≠X.env.locals->b∈X.fs->b∉ch->s.heap.get? b=ab o->H b=ai->∃sl,h'.get? b=ab {o with slots:=sl})(free:∀b o,b∉ch->s.heap.get? b=ab o->H b=ai->H' b=ai)
 (there:∀b o,b∉ch->s.heap.get? b=ab o->∃o',h'.get? b=ab o')
 (tups:∀b xs,H b=ab (.tup xs)->H' b=ab (.tup xs))(frzs:∀b o u,H b=ab (.frz o u)->H' b=ab (.frz o u))(tbls:∀b ps,H b=ab (.tbl ps)->∃more,H' b=ab (.tbl (ps++more)))
 (ns:∀m,s.heap.Ns X.env.locals m->h'.Ns X.env.locals m)(hok:HOk X.prog X.w H' h')(hg:jw g') :
  Inv X pins σ H' {s with heap:=h',gens:=g',drawn:=d',toks:=t'}:=by
 have neL:∀b o,X.s₀.heap.get? b=ab o->b≠X.env.locals:=λb o e=>ck (c5 (bp e) I.ok.above)
 have neC:∀b o,X.s₀.heap.get? b=ab o->b∉X.ex->b∉ch:=λb o e hx hb=>by
  rcases(hch b hb).1 with z|z
  ·exact hx z
  ·exact aE (c5 (bp e) z) (fg _)
 have cellK:∀x c,X.env.cells.lookup x=ab c->∀v,s.heap.IsCell c v->h'.IsCell c v:=λx c e v ⟨o,ho,hd⟩=>by
  have nch:c∉ch:=λz=>(hch c z).2.2.1 x c e rfl
  by_cases hc:c∈X.fs
  ·obtain⟨sl,q⟩:=slot c o (I.cne x c e) hc nch ho (I.freeC x c e);exact⟨_,q,hd⟩
  ·exact⟨o,keep c o (I.cne x c e) hc nch ho (I.freeC x c e),hd⟩
 refine⟨I.ok,I.os,hg,⟨λb o e n hb hx=>?_,λb o e n hb hx=>?_,λb o e n hx=>?_,λb o e hx=>?_,λb xs e=>tups b xs (I.base.tups b xs e),λb o xs e=>frzs b o xs (I.base.frzs b o xs e),λb ps e=>?_⟩,?_,λx c e=>?_,?_,λx c e=>?_,λp hp=>?_,hok,I.len⟩
 ·exact keep b o (neL b o e) hb (neC b o e hx) (I.base.keep b o e n hb hx) (I.base.free b o e n hx)
 ·obtain⟨sl,e1⟩:=I.base.slot b o e n hb hx;obtain⟨sl',e2⟩:=slot b _ (neL b o e) hb (neC b o e hx) e1 (I.base.free b o e n hx);exact⟨sl',e2⟩
 ·obtain⟨o',e1⟩:=I.base.there b o e hx;exact free b o' (neC b o e hx) e1 (I.base.free b o e n hx)
 ·obtain⟨o',e1⟩:=I.base.there b o e hx;exact there b o' (neC b o e hx) e1
 ·obtain⟨m1,e1⟩:=I.base.tbls b ps e;obtain⟨m2,e2⟩:=tbls b _ e1;exact⟨m1++m2,by rw[e2,Array.append_assoc]⟩
 ·obtain⟨m,hn,hl⟩:=I.loc;refine⟨m,ns m hn,λi x v e1 e2 e3=>?_⟩;obtain⟨u,r,l⟩:=hl i x v e1 e2 e3;refine⟨u,r,?_⟩;rcases l with l|⟨k,c,e,z⟩
  ·exact .inl l
  ·exact .inr ⟨k,c,e,cellK x c e _ z⟩
 ·obtain⟨v,z⟩:=I.cell x c e;exact⟨v,cellK x c e v z⟩
 ·obtain⟨m,⟨o,_,_,ho,_⟩,_⟩:=I.loc;exact free _ o (λz=>(hch _ z).2.1 rfl) ho I.free
 ·obtain⟨v,o,ho,hd⟩:=I.cell x c e;exact free c o (λz=>(hch c z).2.2.1 x c e rfl) ho (I.freeC x c e)
 ·obtain⟨e,n,ne,nf,d⟩:=I.pin p hp;have nch:p.1∉ch:=λz=>(hch p.1 z).2.2.2 p hp rfl
  exact⟨keep p.1 p.2 ne nf nch e n,free p.1 p.2 nch e n,ne,nf,d⟩
theorem Inv.un(I:Inv X pins σ H s)(u:Un X.fs [] H H' s.heap h')(hok:HOk X.prog X.w H' h'):Inv X pins σ H' {s with heap:=h',toks:=t'}:=by
 obtain⟨m,⟨o,es,ep,ho,r⟩,_⟩:=id I.loc;obtain⟨sl,hL⟩:=u.any ho I.free 0x2;exact I.step (ch:=[]) (λ_ z=>nomatch z) (λb o _ hb _ e n=>u.keep b o e n hb 0x2) (λb o _ hb _ e n=>u.slot b o e n hb 0x2) (λb o _ e n=>u.free b o e n 0x2) (λb o _ e=>u.there b o e 0x2) u.tups u.frzs u.tbls (λm' hm=>by
  obtain⟨o',es',ep',ho',r'⟩:=hm;rw[ho] at ho';cases ho';exact⟨_,es',ep',hL,r'⟩) hok I.bare
theorem Inv.call(I:Inv X pins σ H s)(u:Un (frs X.stack) ch H H' s.heap h')(hok:HOk X.prog X.w H' h')(hg:jw g')
 (hch:∀b∈ch,(b∈X.ex\/X.s₀.heap.objs.size<=b)/\b≠X.env.locals/\(∀x c,X.env.cells.lookup x=ab c->c≠b)/\∀p∈X.pn++pins,p.1≠b) :
  Inv X pins σ H' {s with heap:=h',gens:=g',drawn:=d',toks:=t'}:=by
 obtain⟨m,⟨o,es,ep,ho,r⟩,_⟩:=id I.loc;obtain⟨sl,hL⟩:=u.any ho I.free λz=>(hch _ z).2.1 rfl
 exact I.step hch (λb o hL hb hc e n=>u.keep b o e n (λz=>(bq.mp (I.R8 b z)).elim hL hb) hc) (λb o _ _ hc e n=>u.any e n hc) (λb o hc e n=>u.free b o e n hc) (λb o hc e=>u.there b o e hc) u.tups u.frzs u.tbls (λm' hm=>by
  obtain⟨o',es',ep',ho',r'⟩:=hm;rw[ho] at ho';cases ho';exact⟨_,es',ep',hL,r'⟩) hok hg
theorem Inv.turned(I:Inv X pins σ H s)(k:∀b o,b≠it->s.heap.get? b=ab o->h'.get? b=ab o)(hn:H it=ai)(hL:it≠X.env.locals)
 (h1:it∈X.ex\/X.s₀.heap.objs.size<=it)(h2:∀x c,X.env.cells.lookup x=ab c->c≠it)(h3:∀p∈X.pn++pins,p.1≠it):Inv X pins σ H {s with heap:=h',toks:=t'}:=by
 have nit:∀b u,H b=ab u->b≠it:=λb u e z=>by rw[z,hn] at e;cases e
 refine I.step (ch:=[it]) (λb hb=>?_) (λb o _ _ hc e _=>k b o (λz=>hc (by simp[z])) e) (λb o _ _ hc e _=>⟨o.slots,k b o (λz=>hc (by simp[z])) e⟩) (λ_ _ _ _ n=>n)
  (λb o hc e=>⟨o,k b o (λz=>hc (by simp[z])) e⟩) (λ_ _ e=>e) (λ_ _ _ e=>e) (λb ps e=>⟨#[],by rw[e];simp⟩) (λm hm=>?_) (λb u e=>?_) I.bare
 ·have e:b=it:=by simpa using hb
  subst e;exact⟨h1,hL,h2,h3⟩
 ·obtain⟨o,es,ep,ho,r⟩:=hm;exact⟨o,es,ep,k _ o (cj hL) ho,r⟩
 ·refine(I.hok b u e).stay (λc v hc q=>k c v ?_ q) (λ_ q=>q) λ_ _ q=>q
  rcases hc with z|z
  ·rw[z];exact nit b u e
  ·exact nit c _ z
theorem Inv.tok(I:Inv X pins σ H s)(t:af):Inv X pins σ H {s with toks:=t}:=I.un Un.refl I.hok
theorem Inv.kept(I:Inv X pins σ H s)(k:∀b u,s.heap.get? b=ab u->h'.get? b=ab u):Inv X pins σ H {s with heap:=h',toks:=t'}:=I.un (Un.kept k) (I.hok.kept k)
theorem Inv.laid(I:Inv X pins σ H s)(k:∀b u,s.heap.get? b=ab u->h'.get? b=ab u)(hp:s.heap.objs.size<=a)(new:jH X.prog X.w (upd H a o) h' a o) :
  Inv X pins σ (upd H a o) {s with heap:=h',toks:=t'}:=I.un (Un.laid k hp (I.hok.fresh hp)) (I.hok.laid k hp new)
theorem Inv.write(I:Inv X pins σ H s)(mu:Mut (H x))(he:e=x\/H e=ab (.own x))(k:∀b u,b≠e->s.heap.get? b=ab u->h'.get? b=ab u)(heo:∃u,h'.get? e=ab u)
 (new:jH X.prog X.w (upd H x o) h' x o):Inv X pins σ (upd H x o) {s with heap:=h',toks:=t'}:=I.un (Un.write mu he k heo) (I.hok.write mu he k heo new)
theorem Inv.weak(I:Inv X pins σ H s)(hl:σ'.length=σ.length)(w:∀(i:af) v,σ'[i]?=ab (ab v)->σ[i]?=ab (ab v)):Inv X pins σ' H s:=
 ⟨I.ok,I.os,I.bare,I.base,let ⟨m,hn,hl'⟩:=I.loc;⟨m,hn,λi x v e1 e2 e3=>hl' i x v e1 (w i v e2) e3⟩,I.cell,I.free,I.freeC,I.pin,I.hok,hl.trans I.len⟩
theorem Inv.PK(I:Inv X pins σ H s)(h:∀p∈pins',s.heap.get? p.1=ab p.2/\H p.1=ai/\p.1≠X.env.locals/\p.1∉X.fs/\∀v,p.2.data≠.cell v):Inv X pins' σ H s:=
 ⟨I.ok,I.os,I.bare,I.base,I.loc,I.cell,I.free,I.freeC,λp hp=>(eS.mp hp).elim (λz=>I.pin p (vh _ z)) (h p),I.hok,I.len⟩
theorem R9{N:aa Str}(hN:N.Nodup){i j:af}(a:N[i]?=ab x)(b:N[j]?=ab x):i=j:=by
 obtain⟨h1,e1⟩:=c_.mp a;obtain⟨h2,e2⟩:=c_.mp b;exact(List.getElem_inj hN).mp (e1.trans e2.symm)
theorem Y_(I:Inv X pins σ H s)(hN:X.N.Nodup)(hi:X.N[i]?=ab x)(hx:Loc X.env.scope x)(r:RelV v u)
 (h:∀s',Inv X pins (σ.set i (ab v)) H s'->(∃a,gl a s.heap s'.heap/\(a=X.env.locals\/X.env.cells.lookup x=ab a))->Q () s')(hf:zFn X x:=by first|exact .inl rfl|exact .inr rfl|assumption):wpAny M A (storeName X.env x u) Q E s:=by
 obtain⟨m,hn,hl⟩:=id I.loc;have hcls:(X.env.scope.kind==.class||(X.env.scope.kind==.module&&X.env.locals !=X.env.globals))=ag:=by rw[I.ok.kind];rfl
 have hiσ:i<σ.length:=by rw[I.len];exact(c_.mp hi).1
 have cne:=I.cne;have tracked:∀{a:ak}{h':aI},(∃o,s.heap.get? a=ab o/\H a=ai)->gl a s.heap h'->HOk X.prog X.w H h':=λ{a h'} ha hs b ob e=>by
  obtain⟨_,_,hfree⟩:=ha;refine(I.hok b ob e).stay (λc w' hc q=>(hs.2 c ?_).trans q) (λ_ q=>q) λ_ _ q=>q
  rintro rfl;rcases hc with rfl|hc
  ·rw[hfree] at e;cases e
  ·rw[hfree] at hc;cases hc
 rcases hx with hk|hk
 ·refine wpAny_storeName_local hk hn (λh' hn' hs=>?_) hcls;obtain⟨oL,_,_,hoL,_⟩:=id hn;refine h _ ⟨I.ok,I.os,I.bare,⟨λb o e n hb hx=>?_,λb o e n hb hx=>?_,I.base.free,λb o e hx=>?_,I.base.tups,I.base.frzs,I.base.tbls⟩,⟨_,hn',λj y v' e1 e2 e3=>?_⟩,λy c e=>?_,I.free,I.freeC,λp hp=>?_,tracked ⟨oL,hoL,I.free⟩ hs,by simpa using I.len⟩ ⟨_,hs,.inl rfl⟩
  ·exact(hs.2 b (ck (c5 (bp e) I.ok.above))).trans (I.base.keep b o e n hb hx)
  ·obtain⟨sl,e1⟩:=I.base.slot b o e n hb hx;exact⟨sl,(hs.2 b (ck (c5 (bp e) I.ok.above))).trans e1⟩
  ·obtain⟨o',e1⟩:=I.base.there b o e hx;exact⟨o',(hs.2 b (ck (c5 (bp e) I.ok.above))).trans e1⟩
  ·by_cases hj:j=i
   ·subst hj;rw[hi] at e1;cases e1;rw[fS hiσ] at e2;cases e2;exact⟨u,r,.inl ⟨hk,by simp⟩⟩
   ·rw[de (cj hj)] at e2;obtain⟨u',r',q⟩:=hl j y v' e1 e2 e3;refine⟨u',r',?_⟩;rcases q with ⟨k,e⟩|⟨k,c,e,z⟩
    ·refine .inl ⟨k,?_⟩;have:y≠x:=λe=>hj (R9 hN e1 (e▸hi))
     simp[this,e]
    ·exact .inr ⟨k,c,e,z.sameBut hs (cne y c e)⟩
  ·obtain⟨w',z⟩:=I.cell y c e;exact⟨w',z.sameBut hs (cne y c e)⟩
  ·obtain⟨e,n,ne,nf,d⟩:=I.pin p hp;exact⟨(hs.2 p.1 ne).trans e,n,ne,nf,d⟩
 ·have hfn:X.fn x=ae:=by
   rcases hf with z|z
   ·exact z
   ·rw[z] at hk;cases hk
  obtain⟨c,hc⟩:=I.ok.has x (.inl hk);obtain⟨w',z⟩:=I.cell x c hc;refine wpAny_storeName_cell I.ok.kind hk hc z (λh' hc' hs=>?_);obtain⟨oc,hoc,hocd⟩:=id z;refine h {s with heap:=h'} ⟨I.ok,I.os,I.bare,⟨λb o e n hb hx=>?_,λb o e n hb hx=>?_,I.base.free,λb o e hx=>?_,I.base.tups,I.base.frzs,I.base.tbls⟩,⟨m,hn.sameBut hs (cj (cne x c hc)),λj y v' e1 e2 e3=>?_⟩,λy c' e=>?_,I.free,I.freeC,λp hp=>?_,tracked ⟨oc,hoc,I.freeC x c hc⟩ hs,by simpa using I.len⟩ ⟨c,hs,.inr hc⟩
  ·exact(hs.2 b (ck (c5 (bp e) (I.ok.cab x c hfn hc)))).trans (I.base.keep b o e n hb hx)
  ·obtain⟨sl,e1⟩:=I.base.slot b o e n hb hx;exact⟨sl,(hs.2 b (ck (c5 (bp e) (I.ok.cab x c hfn hc)))).trans e1⟩
  ·obtain⟨o',e1⟩:=I.base.there b o e hx;exact⟨o',(hs.2 b (ck (c5 (bp e) (I.ok.cab x c hfn hc)))).trans e1⟩
  ·by_cases hj:j=i
   ·subst hj;rw[hi] at e1;cases e1;rw[fS hiσ] at e2;cases e2;exact⟨u,r,.inr ⟨.inl hk,c,hc,hc'⟩⟩
   ·rw[de (cj hj)] at e2;obtain⟨u',r',q⟩:=hl j y v' e1 e2 e3;refine⟨u',r',?_⟩;rcases q with q|⟨k,c',e,z'⟩
    ·exact .inl q
    ·refine .inr ⟨k,c',e,z'.sameBut hs ?_⟩;rintro rfl;exact hj (R9 hN e1 (I.ok.inj _ _ _ e hc▸hi))
  ·by_cases hcc:c'=c
   ·subst hcc;exact⟨_,hc'⟩
   ·obtain⟨w2,z2⟩:=I.cell y c' e;exact⟨w2,z2.sameBut hs hcc⟩
  ·obtain⟨e,n,ne,nf,d⟩:=I.pin p hp;refine⟨(hs.2 p.1 ?_).trans e,n,ne,nf,d⟩;intro q;rw[q,hoc] at e;have q':oc=p.2:=c6 e;exact d w' (by rw[<-q'];exact hocd)
theorem R_(I:Inv X pins σ H s)(hN:X.N.Nodup)(hi:X.N[i]?=ab x)(hx:Loc X.env.scope x)(r:RelV v u)
 (h:∀s',Inv X pins (σ.set i (ab v)) H s'->Q () s')(hf:zFn X x:=by first|exact .inl rfl|exact .inr rfl|assumption):wpAny M A (storeName X.env x u) Q E s:=
 Y_ I hN hi hx r (λs' I' _=>h s' I') hf
end
abbrev XK:=aj->au ak->Hp->Prop
noncomputable abbrev St:=aa (au V)
abbrev VK:=V->Hp->Prop
abbrev TE:=St->Hp->VK->Prop
abbrev TT:=St->Hp->(aq->Hp->Prop)->Prop
abbrev TA:=St->Hp->(aa V->Hp->Prop)->Prop
structure Ends where
 nx:St->Hp->Prop
 rt:VK
 bk:St->Hp->Prop:=λ_ _=>cw
 ct:St->Hp->Prop:=λ_ _=>cw
abbrev TS:=Ends->St->Hp->Prop
def EP(X:Cx)(pins:aa (ak×bd))(σ:St)(Q:VK)(u:aj)(s':am):Prop:=∃v H',Inv X pins σ H' s'/\RelV v u/\Q v H'
def TP(X:Cx)(pins:aa (ak×bd))(σ:St)(Q:aq->Hp->Prop)(b:aq)(s':am):Prop:=∃H',Inv X pins σ H' s'/\Q b H'
def AP(X:Cx)(pins:aa (ak×bd))(σ:St)(Q:aa V->Hp->Prop)(us:aa aj)(s':am):Prop:=∃vs H',Inv X pins σ H' s'/\Vals vs us/\Q vs H'
def SP(X:Cx)(pins:aa (ak×bd))(D:Ends)(f:Flow)(s':am):Prop:=
 match f with
 |.next=>∃σ' H',Inv X pins σ' H' s'/\D.nx σ' H'
 |.brk=>∃σ' H',Inv X pins σ' H' s'/\D.bk σ' H'
 |.cont=>∃σ' H',Inv X pins σ' H' s'/\D.ct σ' H'
 |.ret u=>∃v σ' H',Inv X pins σ' H' s'/\RelV v u/\D.rt v H'
def PE(X:Cx)(e:Expr)(t:TE):Prop:=
 ∀(pins:aa (ak×bd))(s:am)(σ:St)(H:Hp)(Q:VK),Inv X pins σ H s->t σ H Q->wpAny (av X.prog X.w) X.A (bf e X.env) (EP X pins σ Q) X.xe s
def PT(X:Cx)(e:Expr)(t:TT):Prop:=
 ∀(pins:aa (ak×bd))(s:am)(σ:St)(H:Hp)(Q:aq->Hp->Prop),Inv X pins σ H s->t σ H Q->wpAny (av X.prog X.w) X.A (ni e X.env (bf e X.env)) (TP X pins σ Q) X.xe s
def PW(X:Cx)(e:Expr)(t:TT):Prop:=
 ∀(whole:ii aj)(pins:aa (ak×bd))(s:am)(σ:St)(H:Hp)(Q:aq->Hp->Prop),Inv X pins σ H s->t σ H Q->wpAny (av X.prog X.w) X.A (ni e X.env whole) (TP X pins σ Q) X.xe s
theorem PW.pt(h:PW X e t):PT X e t:=h _
def PA(X:Cx)(es:aa Expr)(t:TA):Prop:=
 ∀(pos:cn)(pins:aa (ak×bd))(s:am)(σ:St)(H:Hp)(Q:aa V->Hp->Prop),Inv X pins σ H s->t σ H Q->wpAny (av X.prog X.w) X.A (jx (iA pos (b9 es X.env))) (AP X pins σ Q) X.xe s
def PS(X:Cx)(st:br)(t:TS):Prop:=
 ∀(pins:aa (ak×bd))(s:am)(σ:St)(H:Hp)(D:Ends),Inv X pins σ H s->t D σ H->wpAny (av X.prog X.w) X.A (exec st X.env) (SP X pins D) X.xe s
def PSs(X:Cx)(st:aa br)(t:TS):Prop:=
 ∀(pins:aa (ak×bd))(s:am)(σ:St)(H:Hp)(D:Ends),Inv X pins σ H s->t D σ H->wpAny (av X.prog X.w) X.A (execs st X.env) (SP X pins D) X.xe s
theorem thn(h:wpAny M A t Q E s)(hQ:∀a s,Q a s->Q' a s):wpAny M A t Q' E s:=fT h hQ λ_ _ x=>x
section
variable {X:Cx}
noncomputable def aP4(i:af):TE:=λσ H Q=>∃v,σ[i]?=ab (ab v)/\Q v H
noncomputable def tC(v:V):TE:=λ_ H Q=>Q v H
theorem jD(hN:X.N[i]?=ab x)(hv:Vis X.env.scope x)(hd:nDb x:=by decide)(hcd:nCd x:=by decide):PE X (.Name x pos) (aP4 i):=by
 intro pins s σ H Q I h;obtain⟨v,e,h⟩:=h;obtain⟨m,hn,hl⟩:=I.loc;obtain⟨u,r,l⟩:=hl i x v hN e hv;have fin:EP X pins σ Q u s:=⟨v,H,I,r,h⟩
 rcases l with ⟨hk,hm⟩|⟨hk,c,hc,hcell⟩
 ·exact vk (wpAny_loadName_local I.ok.kind hk hn hm fin) hd
 ·rcases hk with hk|hk
  ·exact vk (wpAny_loadName_cell I.ok.kind hk hc hcell fin) hd
  ·exact vk (wpAny_loadName_free I.ok.kind hk hc hcell fin hcd) hd
theorem aL6{i j pos}:PE X (.Constant (.int i) j pos) (tC (.int i)):=λ_ _ _ H _ I h=>zx ⟨.int i,H,I.tok _,⟨_,rfl⟩,h⟩
theorem aP5{b j pos}:PE X (.Constant (.bool b) j pos) (tC (.bl b)):=λ_ _ _ H _ I h=>Constant_bool ⟨.bl b,H,I,rfl,h⟩
theorem aL7{j pos}:PE X (.Constant .none j pos) (tC .non):=λ_ _ _ H _ I h=>Constant_none ⟨.non,H,I,rfl,h⟩
theorem aL8{x j pos}:PE X (.Constant (.str x) j pos) (tC (.str x)):=λ_ _ _ H _ I h=>Calls.Constant_str ⟨.str x,H,I.tok _,⟨_,rfl⟩,h⟩
def Gl(X:Cx)(x:Str):Prop:=X.env.kindOf x=ab .globalImplicit
theorem ZC(I:Inv X pins σ H s)(hg:Gl X x)(hm:X.mg x=ab u)(h:Q u s)
 (hd:nDb x:=by decide):wpAny (av X.prog X.w) X.A (bf (.Name x pos) X.env) Q E s:=
 zy I.ok.kind hg (Calls.loadGlobal_global (by rw[I.ok.glob];exact I.mod.glob.keeps I.bk) hm h) hd
theorem kO(I:Inv X pins σ H s)(hg:Gl X x)(hm:X.mg x=ai)(hv:dz x=ab u)(h:Q u s)
 (hn:x ≠ "__name__":=by decide)(hd:nDb x:=by decide):wpAny (av X.prog X.w) X.A (bf (.Name x pos) X.env) Q E s:=by
 obtain⟨mb,h1,h2⟩:=I.mod.blt;exact zy I.ok.kind hg (Calls.loadGlobal_builtin (by rw[I.ok.glob];exact I.mod.glob.keeps I.bk) hm (by rw[I.ok.blt];exact h1.keeps I.bk) ((h2 x hn).trans hv) h) hd
theorem aH7(hg:Gl X x)(hm:X.mg x=ai)(hv:dz x=ab u)(r:RelV v u)(hn:x ≠ "__name__":=by decide)(hd:nDb x:=by decide):PE X (.Name x pos) (tC v):=
 λ_ _ _ H _ I h=>kO I hg hm hv ⟨v,H,I,r,h⟩ hn hd
variable {a b:Expr} {ta tb:TE} {pos:cn}
variable {tA tB':TT} {rest:aa Expr}
noncomputable def aRh(t u:TT):TT:=λσ H Q=>t σ H λc H1=>if c=ae then u σ H1 Q else Q ag H1
noncomputable def tOr(t u:TT):TT:=λσ H Q=>t σ H λc H1=>if c=ae then Q ae H1 else u σ H1 Q
noncomputable def aRi(t:TT):TT:=λσ H Q=>t σ H λc H1=>Q (!c) H1
theorem aH8(ha:PT X a tA):PW X (.BoolOp .And [a] pos) tA:=by
 intro wh pins s σ H Q I h;refine isTrue_and (thn (ha pins s σ H Q I h) λc s1 e=>?_);cases c with
 |true=>exact isTrue_and_nil e
 |false=>exact e
theorem aL9(ha:PT X a tA):PW X (.BoolOp .Or [a] pos) tA:=by
 intro wh pins s σ H Q I h;refine isTrue_or (thn (ha pins s σ H Q I h) λc s1 e=>?_);cases c with
 |false=>exact isTrue_or_nil e
 |true=>exact e
theorem aLa(ha:PT X a tA)(hb:PW X (.BoolOp .And (b::rest) pos) tB'):PW X (.BoolOp .And (a::b::rest) pos) (aRh tA tB'):=by
 intro wh pins s σ H Q I h;refine isTrue_and (thn (ha pins s σ H _ I h) λc s1 ⟨H1,I1,q1⟩=>?_);cases c with
 |true=>exact hb wh pins s1 σ H1 Q I1 q1
 |false=>exact⟨H1,I1,q1⟩
theorem aP6(ha:PT X a tA)(hb:PW X (.BoolOp .Or (b::rest) pos) tB'):PW X (.BoolOp .Or (a::b::rest) pos) (tOr tA tB'):=by
 intro wh pins s σ H Q I h;refine isTrue_or (thn (ha pins s σ H _ I h) λc s1 ⟨H1,I1,q1⟩=>?_);cases c with
 |true=>exact⟨H1,I1,q1⟩
 |false=>exact hb wh pins s1 σ H1 Q I1 q1
theorem aLb(ha:PT X a tA):PT X (.UnaryOp .Not a pos) (aRi tA):=by
 intro pins s σ H Q I h;exact isTrue_not (ha pins s σ H (λc H1=>Q (!c) H1) I h)
noncomputable def aP7(ta tb:TE):TE:=λσ H Q=>ta σ H λx H1=>∃c,x=.bl c/\if c=ae then tb σ H1 Q else Q (.bl ag) H1
noncomputable def aP8(ta:TE):TE:=λσ H Q=>ta σ H λx H1=>∃c,x=.bl c/\Q (.bl (!c)) H1
theorem aLc{op}(h:PE X a t):PE X (.BoolOp op [a] pos) t:=λpins s σ H Q I hw=>BoolOp_one (h pins s σ H Q I hw)
theorem aLd(ha:PE X a ta)(hb:PE X (.BoolOp .And (b::rest) pos) tb):PE X (.BoolOp .And (a::b::rest) pos) (aP7 ta tb):=by
 intro pins s σ H Q I h;refine BoolOp_and (thn (ha pins s σ H _ I h) λv s1 ⟨x,H1,I1,r1,q1⟩=>?_);obtain⟨c,rfl,q1⟩:=q1;cases r1;refine lw ?_;cases c with
 |true=>exact hb pins s1 σ H1 Q I1 q1
 |false=>exact⟨.bl ag,H1,I1,rfl,q1⟩
theorem aLe(ha:PE X a ta):PE X (.UnaryOp .Not a pos) (aP8 ta):=by
 intro pins s σ H Q I h;refine UnaryOp_ (thn (ha pins s σ H _ I h) λv s1 ⟨x,H1,I1,r1,q1⟩=>?_);obtain⟨c,rfl,q1⟩:=q1;cases r1;exact not_of (lw ⟨.bl (!c),H1,I1,rfl,q1⟩)
end
def SqL(K:bg)(H:Hp)(a:ak)(xs:aa V):Prop:=
 Rd H a (.lst xs)\/
  ∃(o:bd)(its:ay aj)(n:af),K.lookup a=ab o/\o.cls=.type "list"/\o.dict=ai/\o.data=.seq its n/\its.size<=ba/\Vals xs its.toList
def SqT(K:bg)(H:Hp)(a:ak)(xs:aa V):Prop:=
 Rd H a (.tup xs)\/
  ∃(o:bd)(its:ay aj)(n:af),K.lookup a=ab o/\o.cls=.type "tuple"/\o.data=.seq its n/\its.size<=ba/\Vals xs its.toList
noncomputable def aRj:aj->au V
 |.none=>ab .non
 |.bool b=>ab (.bl b)
 |.int i _=>ab (.int i)
 |.str x _=>ab (.str x)
 |.bytes b _=>ab (.byt b)
 |.float b _=>ab (.flt b)
 |.ref a=>ab (.ref a)
 |.type n=>ab (.ty n)
 |_=>ai
theorem RelV.abs(r:RelV x u):aRj u=ab x:=by
 cases x with
 |non=>cases r;rfl
 |bl _=>cases r;rfl
 |int _=>obtain⟨t,rfl⟩:=r;rfl
 |str _=>obtain⟨t,rfl⟩:=r;rfl
 |byt _=>obtain⟨t,rfl⟩:=r;rfl
 |flt _=>obtain⟨t,rfl⟩:=r;rfl
 |ref _=>cases r;rfl
 |ty _=>cases r;rfl
theorem RelV.inj(r:RelV x u)(q:RelV y u):x=y:=c6 (r.abs.symm.trans q.abs)
theorem Vals.inj:∀{xs ys:aa V}{us:aa aj},Vals xs us->Vals ys us->xs=ys
 |_,_,_,.nil,.nil=>rfl
 |_,_,_,.cons r t,.cons r' t'=>by rw[r.inj r',Vals.inj t t']
section
variable {X:Cx} {pins:aa (ak×bd)} {σ:St} {H:Hp} {s:am} {a:ak} {xs ys:aa V}
theorem SqL.of{K:bg}(h:H a=ab (.lst xs)):SqL K H a xs:=.inl (.inl h)
theorem SqT.of{K:bg}(h:H a=ab (.tup xs)):SqT K H a xs:=.inl (.inl h)
theorem Inv.list(I:Inv X pins σ H s)(h:SqL X.K H a xs):∃its:aa aj,Vals xs its/\PlainL s.heap a its.toArray/\xs.length<=ba:=by
 rcases h with h|⟨o,its,n,hk,hc,hd,hs,hz,r⟩
 ·obtain⟨z,its,n,r,e⟩:=h.ok I.hok;exact⟨its,r,⟨_,n,e,rfl,rfl,rfl⟩,z⟩
 ·refine⟨its.toList,r,⟨o,n,I.kIn a o hk,hc,hd,by simpa using hs⟩,?_⟩;have e:=r.length;simp only[lz] at e;lia
theorem Inv.tuple(I:Inv X pins σ H s)(h:SqT X.K H a xs):∃its:aa aj,Vals xs its/\kx s.heap a its.toArray/\xs.length<=ba:=by
 rcases h with h|⟨o,its,n,hk,hc,hs,hz,r⟩
 ·obtain⟨z,its,r,p⟩:=h.ok I.hok;exact⟨its,r,p.tup,z⟩
 ·refine⟨its.toList,r,⟨o,I.kIn a o hk,hc,n,by simpa using hs⟩,?_⟩;have e:=r.length;simp only[lz] at e;lia
theorem Inv.aD5(I:Inv X pins σ H s)(h:SqL X.K H a xs)(h':SqL X.K H a ys):xs=ys:=by
 obtain⟨its,r,⟨o,n,e,_,_,d⟩,_⟩:=I.list h;obtain⟨its',r',⟨o',n',e',_,_,d'⟩,_⟩:=I.list h';rw[e] at e';cases e';rw[d] at d';injection d' with d1 _
 have:its=its':=by simpa using cz zz d1
 subst this;exact r.inj r'
theorem Inv.ZD(I:Inv X pins σ H s)(h:SqT X.K H a xs)(h':SqT X.K H a ys):xs=ys:=by
 obtain⟨its,r,⟨o,e,_,n,d⟩,_⟩:=I.tuple h;obtain⟨its',r',⟨o',e',_,n',d'⟩,_⟩:=I.tuple h';rw[e] at e';cases e';rw[d] at d';injection d' with d1 _
 have:its=its':=by simpa using cz zz d1
 subst this;exact r.inj r'
end
noncomputable abbrev Cx.wish(X:Cx)(E:aj->am->Prop):Cx:={X with xe:=E}
noncomputable abbrev Cx.nox(X:Cx):Cx:=X.wish λ_ _=>cw
theorem Cx.Ok.wish{X:Cx}(ok:X.Ok)(E:aj->am->Prop):(X.wish E).Ok:=
 ⟨ok.mod,ok.kind,ok.glob,ok.blt,ok.above,ok.inj,ok.has,ok.cab,ok.hd,ok.frames,ok.stk,ok.exf,ok.bs,ok.bsz,ok.noex,ok.exfs,ok.YW,ok.frf⟩
theorem Cx.Ok.vZ{X:Cx}(ok:(X.wish E).Ok):X.Ok:=
 ⟨ok.mod,ok.kind,ok.glob,ok.blt,ok.above,ok.inj,ok.has,ok.cab,ok.hd,ok.frames,ok.stk,ok.exf,ok.bs,ok.bsz,ok.noex,ok.exfs,ok.YW,ok.frf⟩
section
theorem Inv.wish(I:Inv X pins σ H s)(E:aj->am->Prop):Inv (X.wish E) pins σ H s:=⟨I.ok.wish E,I.os,I.bare,I.base,I.loc,I.cell,I.free,I.freeC,I.pin,I.hok,I.len⟩
theorem Inv.vZ(I:Inv (X.wish E) pins σ H s):Inv X pins σ H s:=⟨I.ok.vZ,I.os,I.bare,I.base,I.loc,I.cell,I.free,I.freeC,I.pin,I.hok,I.len⟩
theorem SP.vZ(h:SP (X.wish E) pins D f s'):SP X pins D f s':=by
 cases f with
 |next=>obtain⟨σ',H',I,q⟩:=h;exact⟨σ',H',I.vZ,q⟩
 |brk=>obtain⟨σ',H',I,q⟩:=h;exact⟨σ',H',I.vZ,q⟩
 |cont=>obtain⟨σ',H',I,q⟩:=h;exact⟨σ',H',I.vZ,q⟩
 |ret u=>obtain⟨v,σ',H',I,r,q⟩:=h;exact⟨v,σ',H',I.vZ,r,q⟩
theorem PSs.nox{st:aa br}(h:PSs X.nox st t):PSs X st t:=λpins s σ H D I hw=>
 fT (h pins s σ H D (I.wish _) hw) (λ_ _ q=>q.vZ) λ_ _ z=>eW z
end
section
variable {X:Cx} {st:br} {rest:aa br} {t u:TS} {e:Expr} {te:TE} {pos:cn}
noncomputable def aLf:TS:=λD σ H=>D.nx σ H
noncomputable def aP9(t u:TS):TS:=λD σ H=>t {D with nx:=u D} σ H
theorem ZF:PSs X [] aLf:=λ_ _ σ H _ I h=>oB ⟨σ,H,I,h⟩
theorem mJ(h1:PS X st t)(h2:PSs X rest u):PSs X (st::rest) (aP9 t u):=by
 intro pins s σ H D I h;refine zC (thn (h1 pins s σ H {D with nx:=u D} I h) λf s1 q=>?_);cases f with
 |next=>
  obtain⟨σ',H',I',q⟩:=q;exact h2 pins s1 σ' H' D I' q
 |ret v=>exact q
 |brk=>exact q
 |cont=>exact q
theorem aH9(h1:PS X st t):PSs X [st] t:=by
 intro pins s σ H D I h;refine zC (thn (h1 pins s σ H D I h) λf s1 q=>?_);cases f with
 |next=>exact oB q
 |ret v=>exact q
 |brk=>exact q
 |cont=>exact q
theorem Inv.quiet(I:Inv X pins σ H s):zD X.env=ag:=by simp[zD,I.ok.kind]
noncomputable def aPa(te:TE):TS:=λD σ H=>te σ H λ_ H1=>D.nx σ H1
theorem vB(he:PE X e te)(hs:d5 e ai pos.line X.env=pure ag:=by rfl):PS X (.Expr e pos) (aPa te):=by
 intro pins s σ H D I h;exact wpAny_Expr_any (thn (he pins s σ H _ I h) λv s1 ⟨x,H1,I1,r1,q1⟩=>⟨σ,H1,I1,q1⟩) I.quiet hs
noncomputable def aRk(te:TE):TS:=λD σ H=>te σ H D.rt
theorem ZG(he:PE X e te):PS X (.Return (ab e) pos) (aRk te):=by
 intro pins s σ H D I h;exact wpAny_Return_some (thn (he pins s σ H _ I h) λv s1 ⟨x,H1,I1,r1,q1⟩=>⟨x,σ,H1,I1,r1,q1⟩)
noncomputable def aRl(c:TT)(t u:TS):TS:=λD σ H=>c σ H λb H1=>if b=ae then t D σ H1 else u D σ H1
theorem aPb(hc:PT X c tc)(ha:PSs X a t)(hb:PSs X b u):PS X (.If c a b pos) (aRl tc t u):=by
 intro pins s σ H D I h;refine wpAny_If (thn (hc pins s σ H _ I h) λd s1 ⟨H1,I1,q1⟩=>?_);cases d with
 |true=>exact ha pins s1 σ H1 D I1 q1
 |false=>exact hb pins s1 σ H1 D I1 q1
end
abbrev TG:=V->St->Hp->(St->Hp->Prop)->Prop
abbrev TGs:=aa V->St->Hp->(St->Hp->Prop)->Prop
def PG(X:Cx)(target:Expr)(t:TG):Prop:=
 ∀(pins:aa (ak×bd))(s:am)(σ:St)(H:Hp)(v:V)(u:aj)(Q:St->Hp->Prop),Inv X pins σ H s->RelV v u->t v σ H Q->
  wpAny (av X.prog X.w) X.A (nj target X.env u) (λ_ s'=>∃σ' H',Inv X pins σ' H' s'/\Q σ' H') X.xe s
def PGs(X:Cx)(ts:aa Expr)(t:TGs):Prop:=
 ∀(pins:aa (ak×bd))(s:am)(σ:St)(H:Hp)(vs:aa V)(us:aa aj)(Q:St->Hp->Prop),Inv X pins σ H s->Vals vs us->t vs σ H Q->
  wpAny (av X.prog X.w) X.A (assignInOrder ((nk ts X.env).map (·.2)) us) (λ_ s'=>∃σ' H',Inv X pins σ' H' s'/\Q σ' H') X.xe s
section
variable {X:Cx}
noncomputable def wW(i:af):TG:=λv σ H Q=>Q (σ.set i (ab v)) H
theorem bF(hN:X.N.Nodup)(hi:X.N[i]?=ab x)(hx:Loc X.env.scope x)(hf:zFn X x:=by first|exact .inl rfl|exact .inr rfl|assumption):PG X (.Name x pos) (wW i):=by
 intro pins s σ H v u Q I r h;exact wpAny_assign_Name (R_ I hN hi hx r (λs' I'=>⟨_,H,I',h⟩) hf)
noncomputable def aQx:TGs:=λvs σ H Q=>vs=[]/\Q σ H
noncomputable def aLg(t:TG)(u:TGs):TGs:=λvs σ H Q=>∃v r,vs=v::r/\t v σ H λσ' H'=>u r σ' H' Q
theorem nT:PGs X [] aQx:=by
 intro pins s σ H vs us Q I r h;obtain⟨e,h⟩:=h;subst e;cases r;exact assignInOrder_nil ⟨σ,H,I,h⟩
theorem cP(h1:PG X e t)(h2:PGs X es u)
 (hs:(nk (e::es) X.env).map (·.2)=nj e X.env::(nk es X.env).map (·.2):=by rfl):PGs X (e::es) (aLg t u):=by
 intro pins s σ H vs us Q I r h;obtain⟨v,vr,e1,h⟩:=h;subst e1;cases r with
 |cons r rr=>
  rw[hs];refine assignInOrder_cons (thn (h1 pins s σ H _ _ _ I r h) λ_ s1 ⟨σ1,H1,I1,q1⟩=>?_);exact h2 pins s1 σ1 H1 _ _ Q I1 rr q1
noncomputable def aPc(K:bg)(n:af)(t:TGs):TG:=λv σ H Q=>∃a xs,v=.ref a/\SqT K H a xs/\xs.length=n/\t xs σ H Q
theorem v5(hc:X.calm=ae)(h:PGs X es t)
 (hn:(nk es X.env).length=n:=by rfl)(hst:(nk es X.env).findIdx? (·.1)=ai:=by rfl):PG X (.Tuple es k pos) (aPc X.K n t):=by
 intro pins s σ H v u Q I r hw;obtain⟨a,xs,e1,hq,hl,hw⟩:=hw;subst e1;cases r;obtain⟨its,rv,ht,hz⟩:=I.tuple hq;refine assign_Tuple_tuple (I.ok.hd hc) ht (by simp[hn,<-hl,rv.length]) hst λh' hx=>?_
 have I1:Inv X pins σ H {s with heap:=h'}:=I.kept λb o e=>hx b o (ck (bp e)) e
 exact h pins _ σ H xs _ Q I1 (by simpa using rv) hw
noncomputable def aKp(te:TE)(g:TG):TS:=λD σ H=>te σ H λx H1=>g x σ H1 D.nx
theorem BJ(hN:X.N.Nodup)(hi:X.N[i]?=ab x)(hx:Loc X.env.scope x)(he:PE X e te)(hs:zSw X e x pos' pos:=by rfl)(hf:zFn X x:=by first|exact .inl rfl|exact .inr rfl|assumption) :
  PS X (.Assign [.Name x pos'] e pos) (aKp te (wW i)):=by
 intro pins s σ H D I h;refine wpAny_Assign_Name (thn (he pins s σ H _ I h) λv s1 ⟨y,H1,I1,r1,q1⟩=>?_) hs;exact R_ I1 hN hi hx r1 (λs2 I2=>⟨_,H1,I2,q1⟩) hf
end
section
def aLh(c:TT)(tb:TS):TS:=λD σ H=>∃W:af->St->Hp->Prop,(∃m,W m σ H)/\∀m σ H,W m σ H->
 c σ H λb H1=>if b=ae then ∃N:St->Hp->Prop,(∀σ' H',N σ' H'->∃m',m'<m/\W m' σ' H')/\tb {D with nx:=N,ct:=N,bk:=D.nx} σ H1 else D.nx σ H1
theorem aD6(hp:nq (av X.prog X.w) X.A X.env X.xe)(hc:PT X c tc)(hb:PSs X body tb):PS X (.While c body [] pos) (aLh tc tb):=by
 intro pins s σ H D I h;obtain⟨W,⟨m0,w0⟩,turn⟩:=h;refine wpAny_While (codeAny_whileLoop (λn s'=>∃σ' H',Inv X pins σ' H' s'/\W n σ' H') ?_ m0 ⟨σ,H,I,w0⟩);rintro n s1 ⟨σ1,H1,I1,w1⟩;refine ky hp (thn (hc pins s1 σ1 H1 _ I1 (turn n σ1 H1 w1)) λb s2 ⟨H2,I2,q2⟩=>?_);cases b with
 |true=>
  obtain⟨N,hN,q2⟩:=q2;rw[ao rfl];refine ky hp (thn (hb pins s2 σ1 H2 _ I2 q2) λf s3 q3=>?_);cases f with
  |next=>
   obtain⟨σ3,H3,I3,n3⟩:=q3;obtain⟨m',hm,w3⟩:=hN σ3 H3 n3;exact⟨m',hm,σ3,H3,I3,w3⟩
  |cont=>
   obtain⟨σ3,H3,I3,n3⟩:=q3;obtain⟨m',hm,w3⟩:=hN σ3 H3 n3;exact⟨m',hm,σ3,H3,I3,w3⟩
  |brk=>exact q3
  |ret v=>exact q3
 |false=>
  rw[aw kA];exact oB ⟨σ1,H2,I2,q2⟩
end
structure It where
 go:af->Hp->Prop
 yld:af->Hp->V->Hp->Prop
 stop:af->Hp->Prop
def YX(X:Cx)(pins:aa (ak×bd))(H:Hp)(b:ak):Prop:=
 H b=ai/\b≠X.env.locals/\b∉X.fs/\(b∈X.ex\/X.s₀.heap.objs.size<=b)/\(∀x c,X.env.cells.lookup x=ab c->c≠b)/\∀p∈X.pn++pins,p.1≠b
theorem Inv.aD7(I:Inv X pins σ H s)(hb:s.heap.objs.size<=b)(hn:H' b=ai):YX X pins H' b:=by
 refine⟨hn,hI (c5 I.lt hb),I.aQw hb,.inr (c9 I.sz hb),λx c e z=>?_,λp hp z=>?_⟩
 ·obtain⟨v,q⟩:=I.cell x c e;exact aE (c5 q.lt (by rw[z];exact hb)) (fg _)
 ·exact aE (c5 (bp (I.pin p hp).1) (by rw[z];exact hb)) (fg _)
structure Turn(P:bS)(w:bm)(K:bg)(tg:Expr)(J:It)(fp:aa ak)(it:ak)(tn:af->aI->Prop):Prop where
 mem:it∈fp
 obj:∀i h,tn i h->∀b∈fp,∃o,h.get? b=ab o/\∀v,o.data≠.cell v
 keep:∀i h h',tn i h->(∀b∈fp,∀o,h.get? b=ab o->h'.get? b=ab o)->tn i h'
 item:∀(X:Cx),X.prog=P->X.w=w->X.K=K->X.calm=ae->∀(i:af)(pins:aa (ak×bd))(s:am)(σ:St)(H:Hp)(E:aj->am->Prop),Inv X pins σ H s->(∀b∈fp,YX X pins H b)->tn i s.heap->J.go i H->
  wpAny (av P w) X.A (gz (.ref it)) (λr s1=>∃u,r=ab u/\
   wpAny (av P w) X.A (nr tg (.ref it) u) (λ_ s2=>∃x H',Inv X pins σ H' s2/\RelV x u/\J.yld i H x H'/\tn (i+1) s2.heap/\∀b∈fp,H' b=ai) E s1) E s
 done:∀(X:Cx),X.prog=P->X.w=w->X.K=K->X.calm=ae->∀(i:af)(pins:aa (ak×bd))(s:am)(σ:St)(H:Hp)(E:aj->am->Prop),Inv X pins σ H s->(∀b∈fp,YX X pins H b)->tn i s.heap->J.stop i H->
  wpAny (av P w) X.A (gz (.ref it)) (λr s1=>r=ai/\Inv X pins σ H s1) E s
 self:∀(A:b5)(i:af)(s:am)(Q:aj->am->Prop)(E:aj->am->Prop),tn i s.heap->Q (.ref it) s->wpAny (av P w) A (iE (.ref it)) Q E s
abbrev TI:=St->Hp->(It->Hp->Prop)->Prop
def PIE(X:Cx)(pins:aa (ak×bd))(σ:St)(tg:Expr)(R:It->Hp->Prop)(itv:aj)(s2:am):Prop:=
 ∃(it:ak)(fp:aa ak)(tn:af->aI->Prop)(J:It)(H':Hp),itv=.ref it/\Inv X pins σ H' s2/\Turn X.prog X.w X.K tg J fp it tn/\tn 0 s2.heap/\(∀b∈fp,YX X pins H' b)/\R J H'
def PI(X:Cx)(tg iter:Expr)(wi:TI):Prop:=
 ∀(pins:aa (ak×bd))(s:am)(σ:St)(H:Hp)(R:It->Hp->Prop),Inv X pins σ H s->wi σ H R->
  wpAny (av X.prog X.w) X.A (bf iter X.env) (λv s1=>wpAny (av X.prog X.w) X.A (iE v) (PIE X pins σ tg R) X.xe s1) X.xe s
theorem ZJ(ho:s.heap.get? it=ab o)(hc:o.cls=.type n)(hd:o.data=.fields vs)
 (hn:["enumerate","zip","dict_itemiterator","dict_reverseitemiterator","odict_iterator","itertools.zip_longest","itertools.pairwise"].contains n=ag)(hQ:Q () s):wpAny M A (nr tg (.ref it) u) Q E s:= by
  unfold nr;cases tg<;>first
    |exact az hQ
    | (cases u<;>first
        |exact az hQ
        | (refine al (wpAny_load ho ?_)
           rw[hc,hd];show wpAny M A (if (["enumerate","zip","dict_itemiterator","dict_reverseitemiterator","odict_iterator","itertools.zip_longest","itertools.pairwise"].contains n&&vs[0]?==ab (du _))=ae then _ else _) Q E s;rw[aw (by intro h;rw[hn,Bool.false_and] at h;cases h)];exact az hQ))
noncomputable def Itl(K:bg)(a:ak):It:=
 ⟨λi H=>∃xs x,SqL K H a xs/\xs[i]?=ab x,λi H x H'=>H'=H/\∀xs,SqL K H a xs->xs[i]?=ab x,λi H=>∃xs,SqL K H a xs/\xs.length<=i⟩
noncomputable def Itt(K:bg)(a:ak):It:=
 ⟨λi H=>∃xs x,SqT K H a xs/\xs[i]?=ab x,λi H x H'=>H'=H/\∀xs,SqT K H a xs->xs[i]?=ab x,λi H=>∃xs,SqT K H a xs/\xs.length<=i⟩
noncomputable def Itr(lo:ah)(n:af):It:=⟨λi _=>i<n,λi H x H'=>H'=H/\x=.int (lo+i),λi _=>n<=i⟩
theorem ZK{K:bg}(a it:ak):Turn P w K tg (Itl K a) [it] it (λi h=>h.IsListIter it a i) where
 mem:=by simp
 obj:=λi h st b hb=>by
  have e:b=it:=by simpa using hb
  subst e;obtain⟨o,e,c,d⟩:=st;exact⟨o,e,λv z=>by rw[d] at z;cases z⟩
 keep:=λi h h' st k=>st.at λo e=>k it 0x2 o e
 item:=by
  intro X hP hw hK hc i pins s σ H E I hf st hg;subst hP hw hK;obtain⟨xs,x,hq,hx⟩:=hg;obtain⟨its,rv,p,hz⟩:=I.list hq;obtain⟨u,hu,ru⟩:=rv.get hx;obtain⟨f0,f1,f2,f3,f4,f5⟩:=hf it 0x2;refine zI st p.isList (by simpa using hu) λh' st' sb=>?_
  have I1:Inv X pins σ H {s with heap:=h'}:=I.turned (λb o hb e=>(sb.2 b hb).trans e) f0 f1 f3 f4 f5;obtain⟨o,e,c,d⟩:=id st';exact⟨u,rfl,ZJ e c d 0x4 ⟨x,H,I1,ru,⟨rfl,λys hy=>by rw[I.aD5 hy hq];exact hx⟩,st',λb hb=>(hf b hb).1⟩⟩
 done:=by
  intro X hP hw hK hc i pins s σ H E I hf st hg;subst hP hw hK;obtain⟨xs,hq,hx⟩:=hg;obtain⟨its,rv,p,hz⟩:=I.list hq;obtain⟨f0,f1,f2,f3,f4,f5⟩:=hf it 0x2;have hl:=rv.length;exact zS (I.ok.hd hc) st p.isList (by simp;lia) λh' eb=>⟨rfl,I.turned (λb o hb e=>eb b o hb e) f0 f1 f3 f4 f5⟩
 self:=λ_ _ _ _ _ st h=>wpAny_pyIter_listiter st h
theorem WN{K:bg}(a it:ak):Turn P w K tg (Itt K a) [it] it (λi h=>h.IsTupleIter it a i) where
 mem:=by simp
 obj:=λi h st b hb=>by
  have e:b=it:=by simpa using hb
  subst e;obtain⟨o,e,c,d⟩:=st;exact⟨o,e,λv z=>by rw[d] at z;cases z⟩
 keep:=λi h h' st k=>st.at λo e=>k it 0x2 o e
 item:=by
  intro X hP hw hK hc i pins s σ H E I hf st hg;subst hP hw hK;obtain⟨xs,x,hq,hx⟩:=hg;obtain⟨its,rv,p,hz⟩:=I.tuple hq;obtain⟨u,hu,ru⟩:=rv.get hx;obtain⟨f0,f1,f2,f3,f4,f5⟩:=hf it 0x2;refine Aa st (show s.heap.IsTuple a its.toArray from p) (by simpa using hu) λh' st' sb=>?_
  have I1:Inv X pins σ H {s with heap:=h'}:=I.turned (λb o hb e=>(sb.2 b hb).trans e) f0 f1 f3 f4 f5;obtain⟨o,e,c,d⟩:=id st';exact⟨u,rfl,ZJ e c d 0x4 ⟨x,H,I1,ru,⟨rfl,λys hy=>by rw[I.ZD hy hq];exact hx⟩,st',λb hb=>(hf b hb).1⟩⟩
 done:=by
  intro X hP hw hK hc i pins s σ H E I hf st hg;subst hP hw hK;obtain⟨xs,hq,hx⟩:=hg;obtain⟨its,rv,p,hz⟩:=I.tuple hq;obtain⟨f0,f1,f2,f3,f4,f5⟩:=hf it 0x2;have hl:=rv.length;exact Ab (I.ok.hd hc) st (show s.heap.IsTuple a its.toArray from p) (by simp;lia) λh' eb=>⟨rfl,I.turned (λb o hb e=>eb b o hb e) f0 f1 f3 f4 f5⟩
 self:=λ_ _ _ _ _ st h=>wpAny_pyIter_tupleiter st h
theorem WP{K:bg}(it:ak)(lo:ah)(n:af):Turn P w K tg (Itr lo n) [it] it (λi h=>Ac h it (lo+(i:af)*1) ((n:ah)-(i:af)) 1) where
 mem:=by simp
 obj:=λi h st b hb=>by
  have e:b=it:=by simpa using hb
  subst e;exact⟨_,st,λv z=>by
   have z':nu _=nv v:=z;cases z'⟩
 keep:=λi h h' st k=>k it 0x2 _ st
 item:=by
  intro X hP hw hK hc i pins s σ H E I hf st hg;subst hP hw hK;obtain⟨f0,f1,f2,f3,f4,f5⟩:=hf it 0x2;have W:=Walks.range (prog:=X.prog) (w:=X.w) (I.ok.hd hc) it lo 1 n;refine W.item i s _ _ hg st λv h' tk hv st' kk=>?_
  obtain⟨t,rfl⟩:=hv;have I1:Inv X pins σ H {s with heap:=h',toks:=tk}:=I.turned (λb o hb e=>kk b o (by simpa using hb) e) f0 f1 f3 f4 f5;refine⟨_,rfl,ZJ st' rfl rfl 0x4 ⟨.int (lo+i),H,I1,⟨t,?_⟩,⟨rfl,rfl⟩,st',λb hb=>(hf b hb).1⟩⟩;rw[Int.mul_one]
 done:=by
  intro X hP hw hK hc i pins s σ H E I hf st hg;subst hP hw hK;obtain⟨f0,f1,f2,f3,f4,f5⟩:=hf it 0x2;exact wpAny_pyNext_range_end (I.ok.hd hc) st (by have:n<=i:=hg;lia) λh' eb=>⟨rfl,I.turned (λb o hb e=>eb b o hb e) f0 f1 f3 f4 f5⟩
 self:=λ_ _ _ _ _ st h=>wpAny_pyIter_rangeiter st h
section
theorem SJ{lo hi:ah}{t u v:dQ}{tk:af}(I:Inv X pins σ H s)(h1:-(2 ^ 62)<=lo)(h2:lo<2 ^ 62)(h3:-(2 ^ 62)<=hi)(h4:hi<2 ^ 62)
 (q:R (Itr lo (hi-lo).toNat) H):wpAny (av X.prog X.w) X.A (iE (.ref s.heap.objs.size)) (PIE X pins σ tg R) E {s with heap:=s.heap.push {cls:=.type "range",data:=.fields #[.int lo t,.int hi u,.int 1 v]},toks:=tk}:=by
 refine wpAny_pyIter_range (IsRange.new ..) (small_one h1 h2 h3 h4) ?_;have I1:Inv X pins σ H {s with heap:=s.heap.push {cls:=.type "range",data:=.fields #[.int lo t,.int hi u,.int 1 v]},toks:=tk}:=I.kept λb o e=>bu _ e
 refine⟨(s.heap.push {cls:=.type "range",data:=.fields #[.int lo t,.int hi u,.int 1 v]}).objs.size,[(s.heap.push {cls:=.type "range",data:=.fields #[.int lo t,.int hi u,.int 1 v]}).objs.size],_,_,H,rfl,
  I1.kept λb o e=>bu _ e,WP _ lo (hi-lo).toNat,?_,λb hb=>?_,q⟩
 ·have e1:lo+((0:af):ah)*1=lo:=by simp
  have e2:(((hi-lo).toNat:af):ah)-((0:af):ah)=CD lo hi 1:=by rw[rangeSize_one];split<;>lia
  show Ac _ _ (lo+((0:af):ah)*1) ((((hi-lo).toNat:af):ah)-((0:af):ah)) 1;rw[e1,e2];exact cx _ rfl
 ·have e:b=(s.heap.push {cls:=.type "range",data:=.fields #[.int lo t,.int hi u,.int 1 v]}).objs.size:=by simpa using hb
  subst e;exact I1.aD7 (aS _) (I1.hok.fresh (aS _))
def aPd(ta:TA):TI:=λσ H R=>ta σ H λvs H1=>∃j:ah,vs=[.int j]/\-(2 ^ 62)<=j/\j<2 ^ 62/\R (Itr 0 j.toNat) H1
def aPe(ta:TA):TI:=λσ H R=>ta σ H λvs H1=>∃i j:ah,vs=[.int i,.int j]/\(-(2 ^ 62)<=i/\i<2 ^ 62/\-(2 ^ 62)<=j/\j<2 ^ 62)/\R (Itr i (j-i).toNat) H1
theorem ZL{p pos:cn}(hg:Gl X "range")(hm:X.mg "range"=ai)(ha:PA X [a] ta)(hs:b9 [a] X.env=[(ag,bf a X.env)]:=by rfl):PI X tg (.Call (.Name "range" p) [a] [] pos) (aPd ta):=by
 intro pins s σ H R I h;refine Call_ (kO I hg hm boot_range (ik (thn (ha pos pins s σ H _ I h) λus s1 ⟨vs,H1,I1,r1,q1⟩=>?_) hs rfl));obtain⟨j,e,q1,q2,q⟩:=q1;subst e;cases r1 with
 |cons r rr=>
  cases rr;obtain⟨t,rfl⟩:=r;exact call_range_1 (SJ I1 0x1 0x1 q1 q2 (by simpa using q))
theorem ZM(hg:Gl X "range")(hm:X.mg "range"=ai)(ha:PA X [a,b] ta)(hs:b9 [a,b] X.env=[(ag,bf a X.env),(ag,bf b X.env)]:=by rfl)(hs2:b9 [b] X.env=[(ag,bf b X.env)]:=by rfl) :
  PI X tg (.Call (.Name "range" p) [a,b] [] pos) (aPe ta):=by
 intro pins s σ H R I h;refine Call_ (kO I hg hm boot_range (ik (thn (ha pos pins s σ H _ I h) λus s1 ⟨vs,H1,I1,r1,q1⟩=>?_) (by rw[hs,hs2]) (by rw[hs2];rfl)));obtain⟨i,j,e,⟨q1,q2,q3,q4⟩,q⟩:=q1;subst e;cases r1 with
 |cons r rr=>
  cases rr with
  |cons r' rr=>
   cases rr;obtain⟨t,rfl⟩:=r;obtain⟨t',rfl⟩:=r';exact call_range_2 (SJ I1 q1 q2 q3 q4 q)
def aRm(wi:TI)(g:TG)(tb:TS):TS:=λD σ H=>wi σ H λJ H1=>∃W:af->af->St->Hp->Prop,(∃m,W 0 m σ H1)/\∀i m σ H,W i m σ H->
 (J.stop i H/\D.nx σ H)\/(J.go i H/\∃N:St->Hp->Prop,(∀σ' H',N σ' H'->∃m',m'<m/\W (i+1) m' σ' H')/\∀x H',J.yld i H x H'->g x σ H' λσ2 H2=>tb {D with nx:=N,ct:=N,bk:=D.nx} σ2 H2)
noncomputable def xQ(fp:aa ak)(h:aI):aa (ak×bd):=fp.filterMap λb=>(h.get? b).map λo=>(b,o)
theorem oX(hb:b∈fp)(e:h.get? b=ab o):(b,o)∈xQ fp h:=Ad.mpr ⟨b,hb,by rw[e];rfl⟩
theorem ZP(hp:p∈xQ fp h):p.1∈fp/\h.get? p.1=ab p.2:=by
 obtain⟨b,hb,e⟩:=Ad.mp hp;cases q:h.get? b with
 |none=>rw[q] at e;cases e
 |some o=>
  rw[q] at e;have e':(b,o)=p:=c6 e;subst e';exact⟨hb,q⟩
theorem Inv.pinned(I:Inv X pins σ H s)(hf:∀b∈fp,YX X pins H b)(ho:∀b∈fp,∃o,s.heap.get? b=ab o/\∀v,o.data≠.cell v):Inv X (pins++xQ fp s.heap) σ H s:=
 I.PK λp hp=>(eS.mp hp).elim (λz=>I.pin p (gm _ z)) λz=>by
  obtain⟨hb,e⟩:=ZP z;obtain⟨f0,f1,f2,_⟩:=hf p.1 hb;obtain⟨o,e',d⟩:=ho p.1 hb;rw[e] at e';cases e';exact⟨e,f0,f1,f2,d⟩
theorem Inv.uK(I:Inv X (pins++pl) σ H s):Inv X pins σ H s:=I.PK λp hp=>I.pin p (gm _ (vh _ hp))
theorem aFm(hp:nq (av X.prog X.w) X.A X.env X.xe)(hc:X.calm=ae)(hi:PI X tg iter wi)(hg:PG X tg g)(hb:PSs X body tb)
 (hs:∀x,fj iter X.env x=pure x:=by intro _;rfl):PS X (.For tg iter body [] pos) (aRm wi g tb):=by
 intro pins s σ H D I h;refine wpAny_For (thn (hi pins s σ H _ I h) λv s1 h1=>thn h1 λitv s2 h2=>?_) hs;obtain⟨it,fp,tn,J,H2,e,I2,T,st2,f2,W,⟨m0,w0⟩,turn⟩:=h2;subst e
 -- what stays ae of the iterator's objects through the loop
 have stat:∀{H':Hp},(∀b∈fp,H' b=ai)->∀b∈fp,YX X pins H' b:=λhn b hb=>⟨hn b hb,(f2 b hb).2⟩
 refine codeAny_forLoop_any (λn s'=>∃i σ' H',Inv X pins σ' H' s'/\tn i s'.heap/\(∀b∈fp,H' b=ai)/\W i n σ' H') ?_ m0 ⟨0,σ,H2,I2,st2,λb hb=>(f2 b hb).1,w0⟩;rintro n s3 ⟨i,σ3,H3,I3,st3,fr3,w3⟩;rcases turn i n σ3 H3 w3 with ⟨stop,qn⟩|⟨go,N,hN,step⟩
 ·refine ky hp (thn (T.done X rfl rfl rfl hc i pins s3 σ3 H3 X.xe I3 (stat fr3) st3 stop) λr s4 ⟨hr,I4⟩=>?_);subst hr;exact oB ⟨σ3,H3,I4,qn⟩
 ·refine ky hp (thn (T.item X rfl rfl rfl hc i pins s3 σ3 H3 X.xe I3 (stat fr3) st3 go) λr s4 ⟨u,hr,h4⟩=>?_);subst hr;refine ky hp (thn h4 λ_ s5 ⟨x,H5,I5,r5,y5,st5,fr5⟩=>?_);have I5':=I5.pinned (stat fr5) (T.obj _ _ st5);refine ky hp (thn (hg _ s5 σ3 H5 x u _ I5' r5 (step x H5 y5)) λ_ s6 ⟨σ6,H6,I6,q6⟩=>?_);refine ky hp (thn (hb _ s6 σ6 H6 _ I6 q6) λf s7 q7=>?_);have again:∀{σ7:St}{H7:Hp},Inv X (pins++xQ fp s5.heap) σ7 H7 s7->N σ7 H7->∃m,m<n/\∃i σ' H',Inv X pins σ' H' s7/\tn i s7.heap/\(∀b∈fp,H' b=ai)/\W i m σ' H':=λ{σ7 H7} I7 n7=>by
   obtain⟨m',hm,w7⟩:=hN σ7 H7 n7;refine⟨m',hm,i+1,σ7,H7,I7.uK,T.keep _ _ _ st5 λb hb o e=>(I7.pin (b,o) (gm _ (gm _ (oX hb e)))).1,λb hb=>?_,w7⟩;obtain⟨o,e,d⟩:=T.obj _ _ st5 b hb;exact(I7.pin (b,o) (gm _ (gm _ (oX hb e)))).2.1
  cases f with
  |next=>obtain⟨σ7,H7,I7,n7⟩:=q7;exact again I7 n7
  |cont=>obtain⟨σ7,H7,I7,n7⟩:=q7;exact again I7 n7
  |brk=>obtain⟨σ7,H7,I7,q7⟩:=q7;exact⟨σ7,H7,I7.uK,q7⟩
  |ret v=>obtain⟨x7,σ7,H7,I7,r7,q7⟩:=q7;exact⟨x7,σ7,H7,I7.uK,r7,q7⟩
end
abbrev R2:=V->V->Hp->VK->Prop
def OpR(X:Cx)(f:aj->aj->ii aj)(r:R2):Prop:=
 ∀(pins:aa (ak×bd))(s:am)(σ:St)(H:Hp)(x y:V)(v u:aj)(Q:VK),Inv X pins σ H s->RelV x v->RelV y u->r x y H Q->
  wpAny (av X.prog X.w) X.A (f v u) (EP X pins σ Q) X.xe s
def UnR(X:Cx)(f:aj->ii aj)(r:V->Hp->VK->Prop):Prop:=
 ∀(pins:aa (ak×bd))(s:am)(σ:St)(H:Hp)(x:V)(v:aj)(Q:VK),Inv X pins σ H s->RelV x v->r x H Q->
  wpAny (av X.prog X.w) X.A (f v) (EP X pins σ Q) X.xe s
def lL(X:Cx)(f:aj)(r:aa V->Hp->VK->Prop):Prop:=
 ∀(pins:aa (ak×bd))(s:am)(σ:St)(H:Hp)(xs:aa V)(us:aa aj)(Q:VK),Inv X pins σ H s->Vals xs us->r xs H Q->
  wpAny (av X.prog X.w) X.A (call f us) (EP X pins σ Q) X.xe s
def aRn(X:Cx)(r:V->Hp->(aq->Hp->Prop)->Prop):Prop:=
 ∀(pins:aa (ak×bd))(s:am)(σ:St)(H:Hp)(x:V)(v:aj)(Q:aq->Hp->Prop),Inv X pins σ H s->RelV x v->r x H Q->
  wpAny (av X.prog X.w) X.A (oI v) (TP X pins σ Q) X.xe s
noncomputable def tOp(r:R2)(ta tb:TE):TE:=λσ H Q=>ta σ H λx H1=>tb σ H1 λy H2=>r x y H2 Q
noncomputable def tUn(r:V->Hp->VK->Prop)(ta:TE):TE:=λσ H Q=>ta σ H λx H1=>r x H1 Q
noncomputable def rI(C:ah->ah->Prop)(g:ah->ah->V):R2:=λx y H Q=>∃i j,x=.int i/\y=.int j/\C i j/\Q (g i j) H
noncomputable def rI0(g:ah->ah->V):R2:=λx y H Q=>∃i j,x=.int i/\y=.int j/\Q (g i j) H
def rU(g:ah->V):V->Hp->VK->Prop:=λx H Q=>∃i,x=.int i/\Q (g i) H
section
variable {a b:Expr}
theorem aPf(ha:PE X a ta)(hb:PE X b tb){R:V->V->Hp->Prop}(I:Inv X pins σ H s)
 (h:ta σ H λx H1=>tb σ H1 λy H2=>R x y H2){Q:aj->am->Prop}{f:aj->aj->ii aj}
 (hf:∀v u s2 x y H2,Inv X pins σ H2 s2->RelV x v->RelV y u->R x y H2->wpAny (av X.prog X.w) X.A (f v u) Q X.xe s2) :
  wpAny (av X.prog X.w) X.A (bf a X.env) (λv s₁=>wpAny (av X.prog X.w) X.A (bf b X.env) (λu s₂=>wpAny (av X.prog X.w) X.A (f v u) Q X.xe s₂) X.xe s₁) X.xe s:=by
 refine thn (ha pins s σ H _ I h) λv s1 ⟨x,H1,I1,r1,q1⟩=>?_
 refine thn (hb pins s1 σ H1 _ I1 q1) λu s2 ⟨y,H2,I2,r2,q2⟩=>?_
 exact hf v u s2 x y H2 I2 r1 r2 q2
theorem aPg(ho:OpR X (fq op) r)(ha:PE X a ta)(hb:PE X b tb):PE X (.BinOp a op b pos) (tOp r ta tb):=by
 intro pins s σ H Q I h;exact wpAny_BinOp (aPf ha hb I h λv u s2 x y H2 I2 rx ry q=>ho pins s2 σ H2 x y v u Q I2 rx ry q)
theorem aPh(ho:UnR X (oP op) r)(ha:PE X a ta):PE X (.UnaryOp op a pos) (tUn r ta):=by
 intro pins s σ H Q I h;exact UnaryOp_ (thn (ha pins s σ H _ I h) λv s1 ⟨x,H1,I1,r1,q1⟩=>ho pins s1 σ H1 x v Q I1 r1 q1)
theorem opI{g:ah->ah->ah}
 (kC:∀(i j:ah) (t u:dQ) (s:am) (Q:aj->am->Prop) (E:aj->am->Prop),C i j->Q (.int (g i j) s.toks) {s with toks:=s.toks+1}->wpAny (av X.prog X.w) X.A (f (.int i t) (.int j u)) Q E s) :
  OpR X f (rI C λi j=>.int (g i j)):=by
 intro pins s σ H x y v u Q I rx ry h;obtain⟨i,j,rfl,rfl,hc,q⟩:=h;obtain⟨t,rfl⟩:=rx;obtain⟨t',rfl⟩:=ry;exact kC i j t t' s _ _ hc ⟨.int (g i j),H,I.tok _,⟨_,rfl⟩,q⟩
theorem aQy{g:ah->ah->ah}
 (kC:∀(i j:ah) (t u:dQ) (s:am) (Q:aj->am->Prop) (E:aj->am->Prop),Q (.int (g i j) s.toks) {s with toks:=s.toks+1}->wpAny (av X.prog X.w) X.A (f (.int i t) (.int j u)) Q E s) :
  OpR X f (rI0 λi j=>.int (g i j)):=by
 intro pins s σ H x y v u Q I rx ry h;obtain⟨i,j,rfl,rfl,q⟩:=h;obtain⟨t,rfl⟩:=rx;obtain⟨t',rfl⟩:=ry;exact kC i j t t' s _ _ ⟨.int (g i j),H,I.tok _,⟨_,rfl⟩,q⟩
def aRo(i j:ah):Prop:=0<j/\j<1073741824
def aPi(i j:ah):Prop:=(-(2 ^ 64)<i/\i<2 ^ 64)\/(-(2 ^ 64)<j/\j<2 ^ 64)
theorem aPi.ok(h:aPi i j):IntMulOk i j:=by
 rcases h with ⟨h1,h2⟩|⟨h1,h2⟩
 ·exact .of_left (Ae h1 h2)
 ·exact .of_right (Ae h1 h2)
theorem aLi:OpR X (fq .Add) (rI0 λi j=>.int (i+j)):=aQy λ_ _ _ _ _ _ _ q=>add_int q
theorem aLj:OpR X (fq .Sub) (rI0 λi j=>.int (i-j)):=aQy λ_ _ _ _ _ _ _ q=>sub_int q
theorem aLk:OpR X (fq .Mult) (rI aPi λi j=>.int (i*j)):=opI λ_ _ _ _ _ _ _ hc q=>mul_int q hc.ok
theorem aHa:OpR X (fq .FloorDiv) (rI aRo λi j=>.int (i / j)):=opI λi j _ _ _ _ _ hc q=>by
 have h1:(0:ah)<j:=hc.1;have h2:j<1073741824:=hc.2;exact floordiv_int 0x1 (by rw[Int.fdiv_eq_ediv_of_nonneg i 0x1];exact q) (.inl (PyProof.noPylong_small 0x1))
theorem aLl:OpR X (fq .Mod) (rI (λ_ j=>0<j) λi j=>.int (i % j)):=opI λi j _ _ _ _ _ hc q=>by
 have h1:(0:ah)<j:=hc;exact mod_int' 0x1 (by rw[Int.fmod_eq_emod_of_nonneg i 0x1];exact q)
theorem unI{g:ah->ah}
 (kC:∀(i:ah) (t:dQ) (s:am) (Q:aj->am->Prop) (E:aj->am->Prop),Q (.int (g i) s.toks) {s with toks:=s.toks+1}->wpAny (av X.prog X.w) X.A (f (.int i t)) Q E s) :
  UnR X f (rU λi=>.int (g i)):=by
 intro pins s σ H x v Q I rx h;obtain⟨i,rfl,q⟩:=h;obtain⟨t,rfl⟩:=rx;exact kC i t s _ _ ⟨.int (g i),H,I.tok _,⟨_,rfl⟩,q⟩
theorem aLm:UnR X (oP .USub) (rU λi=>.int (-i)):=unI λ_ _ _ _ _ q=>neg_int q
end
section
variable {X:Cx} {a b c:Expr} {ta tb:TE} {pos:cn}
theorem aFn(I:Inv X pins σ H s)(q:Q (.bl k) H)(e:k=k'):EP X pins σ Q (.bool k') s:=by
 subst e;exact⟨.bl k,H,I,rfl,q⟩
theorem ZQ:OpR X (dg .In) (λx y H Q=>∃i j,x=.str i/\y=.str j/\Q (.bl (!(Af j i 0 j.length 1).isEmpty)) H):=by
 intro pins s σ H x y v u Q I rx ry h;obtain⟨i,j,rfl,rfl,q⟩:=h;obtain⟨t,rfl⟩:=rx;obtain⟨t',rfl⟩:=ry;exact in_str (aFn I q rfl)
theorem aLn:OpR X (dg .Is) (λx y H Q=>y=.non/\Q (.bl (decide (x=.non))) H):=by
 intro pins s σ H x y v u Q I rx ry h;obtain⟨rfl,q⟩:=h;cases ry;refine is_none_gen (aFn I q ?_);cases x<;>first
  | (cases rx;rfl)
  | (obtain⟨t,rfl⟩:=rx;rfl)
theorem bO(b:Expr)(h:op≠.In:=by decide)(h2:op≠.NotIn:=by decide):lI op b=ag:=by
 have e1:(op==CmpOp.In)=ag:=by cases op<;>first|rfl|exact aE rfl h
 have e2:(op==CmpOp.NotIn)=ag:=by cases op<;>first|rfl|exact aE rfl h2
 cases b<;>simp[lI,e1,e2]
theorem aHb(ho:OpR X (dg op) r)(ha:PE X a ta)(hb:PE X b tb)(hm:lI op b=ag):PE X (.Compare a [op] [b] pos) (tOp r ta tb):=by
 intro pins s σ H Q I h;exact wpAny_Compare1 (aPf ha hb I h λv u s2 x y H2 I2 rx ry q=>ho pins s2 σ H2 x y v u Q I2 rx ry q) hm
noncomputable def aPj(t:TE):TT:=λσ H Q=>t σ H λx H'=>∃k,x=.bl k/\Q k H'
theorem aHc(ho:OpR X (dg op) r)(ha:PE X a ta)(hb:PE X b tb)(hm:lI op b=ag):PT X (.Compare a [op] [b] pos) (aPj (tOp r ta tb)):=by
 intro pins s σ H Q I h;refine wpAny_isTrue_Compare1 (thn (ha pins s σ H _ I h) λv s1 ⟨x,H1,I1,r1,q1⟩=>thn (hb pins s1 σ H1 _ I1 q1) λu s2 ⟨y,H2,I2,r2,q2⟩=>
  thn (ho pins s2 σ H2 x y v u _ I2 r1 r2 q2) λc s3 ⟨z,H3,I3,r3,k,e,q3⟩=>?_) hm
 subst e;cases r3;exact lw ⟨H3,I3,q3⟩
def aPk(K:bg)(x:V)(H:Hp)(k:aq):Prop:=
 match x with
 |.non=>k=ag
 |.bl b=>k=b
 |.int i=>k=(i !=0)
 |.str y=>y.length<=ba/\k=((y.length:ah)!=0)
 |.byt y=>y.size<=ba/\k=((y.size:ah)!=0)
 |.ref p=>(∃xs,SqL K H p xs/\k=!xs.isEmpty)\/(∃xs,SqT K H p xs/\k=!xs.isEmpty)\/∃kvs,H p=ab (.dK kvs)/\k=!kvs.isEmpty
 |_=>cw
theorem WQ(r:KV kvs vs):(!vs.isEmpty)=!kvs.isEmpty:=by
 cases r<;>rfl
theorem BK(r:Vals xs its):(!its.toArray.isEmpty)=!xs.isEmpty:=by
 cases r<;>simp
theorem BL:(ba:af)<2 ^ 63:=by rw[c8];decide
theorem aLo:aRn X (λx H Q=>∃k,aPk X.K x H k/\Q k H):=by
 intro pins s σ H x v Q I rx h;obtain⟨k,e,q⟩:=h;have hl:=BL;have hs:ba=16777216:=c8;cases x with
 |non=>
  cases rx;have e':k=ag:=e;subst e';exact truthy_none ⟨H,I,q⟩
 |bl b=>
  cases rx;have e':k=b:=e;subst e';exact lw ⟨H,I,q⟩
 |int i=>
  obtain⟨t,rfl⟩:=rx;have e':k=(i !=0):=e;subst e';exact PySem.P.truthy_int ⟨H,I,q⟩
 |str y=>
  obtain⟨t,rfl⟩:=rx;obtain⟨hy,e'⟩:y.length<=ba/\k=((y.length:ah)!=0):=e;subst e';exact PySem.P.truthy_str 0x1 ⟨H,I.tok _,q⟩
 |byt y=>
  obtain⟨t,rfl⟩:=rx;obtain⟨hy,e'⟩:y.size<=ba/\k=((y.size:ah)!=0):=e;subst e';exact PySem.W.truthy_bytes 0x1 ⟨H,I.tok _,q⟩
 |ref p=>
  cases rx;have e':(∃xs,SqL X.K H p xs/\k=!xs.isEmpty)\/(∃xs,SqT X.K H p xs/\k=!xs.isEmpty)\/∃kvs,H p=ab (.dK kvs)/\k=!kvs.isEmpty:=e;rcases e' with ⟨xs,hx,e'⟩|⟨xs,hx,e'⟩|⟨kvs,hx,e'⟩
  ·subst e';obtain⟨its,r,pl,hz⟩:=I.list hx;have hlen:=r.length;exact wpAny_truthy_list pl.isList (by simp only[bX];lia) ⟨H,I.tok _,by rw[BK r];exact q⟩
  ·subst e';obtain⟨its,r,pl,hz⟩:=I.tuple hx;have hlen:=r.length;exact truthy_tuple pl (by simp only[bX];lia) ⟨H,I.tok _,by rw[BK r];exact q⟩
  ·subst e';obtain⟨hz,hS,vs,r,m⟩:kvs.length<=ba/\(p==gj)=ag/\∃vs,KV kvs vs/\s.heap.DictOf (cM X.prog X.w) p vs:=I.hok p _ hx;have hlen:kvs.length=vs.length:=ja r;exact wpAny_truthy_dict hS m 0x1 ⟨H,I.tok _,by rw[WQ r];exact q⟩
 |_=>exact(show cw from e).elim
theorem SM(ha:PE X a ta)(he:∀whole,ni a X.env whole=(do let v <- whole;nw a.pos;jy [v] (oI v))) :
  PT X a (λσ H Q=>ta σ H λx H'=>∃k,aPk X.K x H' k/\Q k H'):=by
 intro pins s σ H Q I h;exact isTrue_plain (thn (ha pins s σ H _ I h) λv s1 ⟨x,H1,I1,r1,q1⟩=>aLo pins s1 σ H1 x v Q I1 r1 q1) (he _)
theorem WR:OpR X (fq .Add) (λx y H Q=>∃i j,x=.str i/\y=.str j/\i.length+j.length<=ba/\Q (.str (i++j)) H):=by
 intro pins s σ H x y v u Q I rx ry h;obtain⟨i,j,rfl,rfl,hz,q⟩:=h;obtain⟨t,rfl⟩:=rx;obtain⟨t',rfl⟩:=ry;exact add_str (λt' tk=>⟨.str (i++j),H,I.tok _,⟨_,rfl⟩,q⟩) hz
theorem vals1(r:Vals [x] us):∃u,us=[u]/\RelV x u:=by
 cases r with
 |cons r1 r2=>cases r2;exact⟨_,rfl,r1⟩
end
structure aHd(h:aI)(x dx C:ak)(mA:Str->au aj):Prop where
 obj:h.get? x=ab (jv C dx)
 ns:h.Ns1 dx mA
 ne:dx≠x
theorem ZR{h:aI}(n:h.Ns1 dx mA):∃od,h.get? dx=ab od/\∀name,oQ name od=ab (mA name):=by
 obtain⟨o,es,ep,ho,hd,hk,_,hm⟩:=n;refine⟨o,ho,λname=>?_⟩;have e:=hm name;unfold nsFind findBy at e;rw[<-Array.find?_toList] at e;unfold oQ;rw[hd];dsimp only;split
 ·rename_i y q;rw[q] at e;exact cz ab e
 ·rename_i q;rw[q] at e;have a:es.toList.any (·.refKey)=ag:=by
   rw[List.any_eq_false];intro y hy;obtain⟨z,t,hkey⟩:=hk y (Array.mem_toList_iff.mp hy);simp[CF,hkey]
  have a':¬es.toList.any (·.refKey)=ae:=by rw[a];exact kA
  rw[aw a'];exact cz ab e
theorem aHd.look(I:aHd h x dx C mA):∃od,PySem.W.InstAt h x (jv C dx) C (ab od)/\∀name,oQ name od=ab (mA name):=
 let ⟨od,ho,hl⟩:=ZR I.ns
 ⟨od,⟨I.obj,rfl,rfl,ho⟩,hl⟩
section
variable {prog:bS} {w:bm} {A:b5} {E:aj->am->Prop} {s:am} {K:bg} {x dx C f:ak} {mA:Str->au aj} {name:Str} {v:aj}
theorem DR(X:K.In s.heap)(I:aHd s.heap x dx C mA)(hg:oS K C name=ae)(hh:vm K C=ae)
 (ha:jb K (.ref C) name=ab ai)(hv:mA name=ab v)(hv':Ag v=ae)(h:Q v {s with toks:=s.toks+1}) :
  wpAny (av prog w) A (vn (.ref x) name expr) Q E s:=by
 obtain⟨od,J,hl⟩:=I.look;exact PySem.W.get_value X J (vo hg).1 (PySem.W.findObj_own hh ha rfl (by rw[hl,hv])) hv' h
theorem aD8(X:K.In s.heap)(I:aHd s.heap x dx C mA)(hg:oS K C name=ae)
 (hf:jb K (.ref C) name=ab (ab (.ref f)))(ht:vq K (.ref f)=ae)(hv:mA name=ai)(h:Q (.ref f,[.ref x]) s) :
  wpAny (av prog w) A (rc (.ref x) name pl) Q E s:=by
 obtain⟨od,J,hl⟩:=I.look;exact PySem.W.method_fn X J (vo hg).1 (vo hg).2 hf (io.mp ht) (by show(oQ name od).map (·.isSome)=ab ag;rw[hl,hv];rfl) h
theorem aHe(X:K.In s.heap)(I:aHd s.heap x dx C mA)
 (hs:jb K (.ref C) "__setattr__"=ab (ab (.builtin "object.__setattr__")))(hp:Ah K C=ae)(ht:vw K C name=ab ai)(hh:vm K C=ae)
 (hw:oz mA ns)(hsz:ns.length<=ba)
 (h:∀h',aHd h' x dx C (λy=>if y=name then ab v else mA y)->gl dx s.heap h'->Q () {s with heap:=h',toks:=s.toks+2}) :
  wpAny (av prog w) A (setAttr (.ref x) name v) Q E s:=by
 obtain⟨od,J,hl⟩:=I.look;refine PySem.W.set_plain X J hs (PySem.W.osa_open X J hp ht λb=>?_);obtain⟨cd,hc,hd'⟩:=PySem.W.any_some hh;have hx:s.heap.get? x=ab ⟨.ref C,ab dx,.plain,#[]⟩:=I.obj;refine al (az (al (al (wpAny_loadPart hx (al (CH (PySem.W.looks_clsIn X hc) ?_))))));rw[hd'];refine az (al (az (al ?_)));refine wpAny_nsSet1 I.ns λh' hn2 hs2=>?_
 obtain⟨oD,esD,epD,hoD,hdD,hcD⟩:=hn2.count (CI name v hw);refine al (wpAny_lookBehind hoD (by rw[hdD];exact pastItsLine_dict (c9 hcD (by rw[bc];lia))) ?_);exact az (h _ ⟨(hs2.2 _ (cj I.ne)).trans I.obj,hn2,I.ne⟩ hs2)
theorem aD9(X:K.In s.heap)(hm:Ai K C=ae)
 (hi:jb K (.ref C) "__init__"=ab (ab (.ref f)))(hf:PySem.W.typeIn K (.ref f)=ab (.type "function"))
 (h:codeAny (av prog w) (A.under (.builtin "type.__call__" ⟨.ref C::vs,kw⟩)) (.call (.ref f) ⟨.ref (s.heap.objs.size+1)::vs,kw⟩) (PySem.W.InitBack (s.heap.objs.size+1) R)
   {s with heap:=(s.heap.push jc).push (jv C s.heap.objs.size)}) :
  codeAny (av prog w) A (.call (.ref C) ⟨vs,kw⟩) R s:=by
 obtain⟨hh,g,d,t,os⟩:=s;exact PySem.W.make_core (PySem.W.makes_of X hm) (PySem.W.looks_findIn X hi) (λself=>PySem.W.bind_fn X self hf) (.inl rfl) h
end
noncomputable def DW(f:Str)(v:V):aa (Str×V)->aa (Str×V)
 |[]=>[(f,v)]
 | (g,x)::r=>if g=f then (g,v)::r else (g,x)::DW f v r
theorem xR(f g:Str)(v:V):∀fs:aa (Str×V),(DW f v fs).lookup g=if g=f then ab v else fs.lookup g
 |[]=>by
  show fy g [(f,v)]=_;by_cases h:g=f
  ·have hb:(g==f)=ae:=io.mpr h;simp only[fy,hb,ao h]
  ·have hb:(g==f)=ag:=fF.mpr h;simp only[fy,hb,aw h]
 | (k,x)::r=>by
  have ih:=xR f g v r;rw[show DW f v ((k,x)::r)=(if k=f then (k,v)::r else (k,x)::DW f v r) from rfl];by_cases hk:k=f
  ·rw[ao hk];by_cases h:g=k
   ·have hb:(g==k)=ae:=io.mpr h;simp only[fy,hb,ao (h.trans hk)]
   ·have hb:(g==k)=ag:=fF.mpr h;simp only[fy,hb,aw (λe:g=f=>h (e.trans hk.symm))]
  ·rw[aw hk];by_cases h:g=k
   ·have hb:(g==k)=ae:=io.mpr h;simp only[fy,hb,aw (λe:g=f=>hk (h.symm.trans e))]
   ·have hb:(g==k)=ag:=fF.mpr h;simp only[fy,hb];exact ih
theorem xT(f:Str)(v:V):∀fs:aa (Str×V),f∈(DW f v fs).map (·.1)/\∀g,g∈fs.map (·.1)->g∈(DW f v fs).map (·.1)
 |[]=>⟨by simp[DW],λg h=>by simp at h⟩
 | (k,x)::r=>by
  obtain⟨i1,i2⟩:=xT f v r;rw[show DW f v ((k,x)::r)=(if k=f then (k,v)::r else (k,x)::DW f v r) from rfl];by_cases hk:k=f
  ·rw[ao hk];subst hk;exact⟨by simp,λg h=>by simpa using h⟩
  ·rw[aw hk];refine⟨?_,λg h=>?_⟩
   ·rw[bh];exact bz _ i1
   ·rw[bh] at h ⊢;rcases bq.mp h with e|e
    ·exact bq.mpr (.inl e)
    ·exact bz _ (i2 g e)
theorem xU(f:Str)(v:V):∀fs:aa (Str×V),(DW f v fs).length<=fs.length+1
 |[]=>by simp[DW]
 | (k,x)::r=>by
  have ih:=xU f v r;rw[show DW f v ((k,x)::r)=(if k=f then (k,v)::r else (k,x)::DW f v r) from rfl];by_cases hk:k=f
  ·rw[ao hk,bc,bc];lia
  ·rw[aw hk,bc,bc];lia
theorem O3.some_of(r:O3 (ab v) o):∃u,o=ab u/\RelV v u:=by
 cases o with
 |none=>exact(show cw from r).elim
 |some u=>exact⟨u,rfl,r⟩
theorem O3.none_of(r:O3 ai o):o=ai:=by
 cases o with
 |none=>rfl
 |some u=>exact(show cw from r).elim
theorem ZV(r:RelV v u):Ag u=ae:=by
 cases v with
 |non=>cases (show u=ox from r);rfl
 |bl b=>cases (show u=oy b from r);rfl
 |int i=>obtain⟨t,e⟩:=(show ∃t,u=ow i t from r);cases e;rfl
 |str x=>obtain⟨t,e⟩:=(show ∃t,u=mT x t from r);cases e;rfl
 |byt b=>obtain⟨t,e⟩:=(show ∃t,u=zu b t from r);cases e;rfl
 |flt b=>obtain⟨t,e⟩:=(show ∃t,u=zv b t from r);cases e;rfl
 |ref a=>cases (show u=eJ a from r);rfl
 |ty n=>cases (show u=fI n from r);rfl
section
theorem PL(hok:HOk P w H h)(e:H a=ab (.ins C dx fs)):∃mA,aHd h a dx C mA/\(∀f,O3 (fs.lookup f) (mA f))/\oz mA (fs.map (·.1))/\fs.length<=1000/\H dx=ab (.own a):=by
 obtain⟨d,z,ne,ob,mA,n,r,q⟩:=(show jH P w H h a (.ins C dx fs) from hok a _ e)
 exact⟨mA,⟨ob,n,ne⟩,r,q,z,d⟩
end
structure Cls(K:bg)(C:ak):Prop where
 pg:oS K C Aj=ae
 hd:vm K C=ae
 po:Ah K C=ae
 sa:jb K (.ref C) "__setattr__"=ab (ab (.builtin "object.__setattr__"))
theorem Cls.get{K:bg}(c:Cls K C)(f:Str):oS K C f=ae:=c.pg
def tE(K:bg)(C:ak)(f:Str):Prop:=jb K (.ref C) f=ab ai
theorem tE.taker{K:bg}(n:tE K C f):vw K C f=ab ai:=by
 unfold vw;rw[show jb K (.ref C) f=ab ai from n];rfl
structure Meth(K:bg)(C:ak)(m:Str)(f:ak):Prop where
 at_:jb K (.ref C) m=ab (ab (.ref f))
 fn:vq K (.ref f)=ae
 kp:jd K (.ref f)=ae
section
variable {a C dx:ak}
theorem WT(I:Inv X pins σ H s)(e:H a=ab (.ins C dx fs))(c:Cls X.K C)(n:tE X.K C f)(l:fs.lookup f=ab v)
 (h:∀u s',Inv X pins σ H s'->RelV v u->Q u s'):wpAny (av X.prog X.w) A (vn (.ref a) f b) Q E s:=by
 obtain⟨mA,O,r,_,_,_⟩:=PL I.hok e;obtain⟨u,hu,ru⟩:=O3.some_of (by rw[<-l];exact r f);exact DR I.kIn O (c.get f) c.hd n hu (ZV ru) (h u _ (I.tok _) ru)
theorem WW(I:Inv X pins σ H s)(e:H a=ab (.ins C dx fs))(c:Cls X.K C)(k:Meth X.K C m g)(l:fs.lookup m=ai)
 (h:Q (.ref g,[.ref a]) s):wpAny (av X.prog X.w) A (rc (.ref a) m pl) Q E s:=by
 obtain⟨mA,O,r,_,_,_⟩:=PL I.hok e;have hn:mA m=ai:=O3.none_of (by rw[<-l];exact r m);exact aD8 I.kIn O (c.get m) k.at_ k.fn hn h
theorem WX(I:Inv X pins σ H s)(e:H a=ab (.ins C dx fs))(c:Cls X.K C)(n:tE X.K C f)(hl:fs.length<1000)(ry:RelV y u)
 (h:∀s',Inv X pins σ (upd H a (.ins C dx (DW f y fs))) s'->Q () s'):wpAny (av X.prog X.w) A (setAttr (.ref a) f u) Q E s:=by
 obtain⟨mA,O,r,wi,_,ho⟩:=PL I.hok e;have hz:(fs.map (·.1)).length<=ba:=by rw[ax,c8];lia
 refine aHe I.kIn O c.sa c.po n.taker c.hd wi hz λh' O' sb=>h _ ?_
 have hd:∃o,h'.get? dx=ab o:=let ⟨o,_,_,e',_⟩:=O'.ns;⟨o,e'⟩
 refine I.write (by rw[e];exact jz) (.inr ho) (λb q hb z=>(sb.2 b hb).trans z) hd ?_;refine⟨by rw[bG O.ne];exact ho,?_,O.ne,O'.obj,_,O'.ns,λg=>?_,λg hg=>?_⟩
 ·have:=xU f y fs;lia
 ·show O3 ((DW f y fs).lookup g) (if g=f then ab u else mA g);rw[xR];by_cases q:g=f
  ·rw[ao q,ao q];exact ry
  ·rw[aw q,aw q];exact r g
 ·by_cases q:g=f
  ·rw[q];exact(xT f y fs).1
  ·refine(xT f y fs).2 g (wi g λz=>hg ?_);show(if g=f then ab u else mA g)=ai;rw[aw q];exact z
theorem Inv.made(I:Inv X pins σ H s):Inv X pins σ (upd (upd H s.heap.objs.size (.own (s.heap.objs.size+1))) (s.heap.objs.size+1) (.ins C s.heap.objs.size []))
  {s with heap:=(s.heap.push jc).push (jv C s.heap.objs.size)}:=by
 have e1:(s.heap.push jc).get? s.heap.objs.size=ab jc:=cx s.heap rfl;have e2:((s.heap.push jc).push (jv C s.heap.objs.size)).get? (s.heap.objs.size+1)=ab (jv C s.heap.objs.size):=by
  have:=cx (s.heap.push jc) (o:=jv C s.heap.objs.size) rfl;rwa [dv] at this
 have e3:(s.heap.push jc).Ns s.heap.objs.size (λ_=>ai):=⟨jc,#[],_,e1,rfl,(λe he=>aE he 0x2),λ_=>rfl⟩
 have I1:=I.laid (o:=.own (s.heap.objs.size+1)) (h':=s.heap.push jc) (t':=s.toks) (λb u q=>bu _ q) (aS _) ⟨_,e1⟩;refine I1.laid (a:=s.heap.objs.size+1) (o:=.ins C s.heap.objs.size []) (t':=s.toks) (λb u q=>bu _ q) (vx (dv _ _)) ?_;have ne:s.heap.objs.size≠s.heap.objs.size+1:=ck (ip _);refine⟨by rw[bG ne,aM],cy _,ne,e2,λ_=>ai,(CL e3).at λo q=>bu _ q,λ_=>jz,λy hy=>aE rfl hy⟩
theorem aHf(hb:gL e f env (bf e env)=bf e env)
 (h:wpAny (av prog w) A (bf e env) (λo s₁=>wpAny (av prog w) A (vn o f ae) Q E s₁) E s):wpAny (av prog w) A (bf (.Attribute e f pos) env) Q E s:=
 Attribute_any_ h (by rw[arm_eval_Attribute,hb])
end
noncomputable def aRp(K:bg)(ta:TE)(f:Str):TE:=λσ H Q=>ta σ H λx H1=>∃a C dx fs v,x=.ref a/\H1 a=ab (.ins C dx fs)/\Cls K C/\tE K C f/\fs.lookup f=ab v/\Q v H1
def aQz(K:bg)(ta tv:TE)(f:Str):TS:=λD σ H=>tv σ H λy H1=>ta σ H1 λx H2=>∃a C dx fs,x=.ref a/\H2 a=ab (.ins C dx fs)/\Cls K C/\tE K C f/\fs.length<1000/\
 D.nx σ (upd H2 a (.ins C dx (DW f y fs)))
section
theorem aLp(he:PE X e ta)(hb:gL e f X.env (bf e X.env)=bf e X.env):PE X (.Attribute e f pos) (aRp X.K ta f):=by
 intro pins s σ H Q I h;refine aHf hb (thn (he pins s σ H _ I h) λu s1 ⟨x,H1,I1,rx,a,C,dx,fs,v,ex,ea,c,n,l,q⟩=>?_);subst ex;obtain rfl:u=eJ a:=rx;exact WT I1 ea c n l λu' s2 I2 ru=>⟨v,H1,I2,ru,q⟩
theorem SN(ha:PE X o ta)(hv:PE X value tv)(hs:d5 value (ab (.Attribute o f pos')) pos.line X.env=pure ag):PS X (.Assign [.Attribute o f pos'] value pos) (aQz X.K ta tv f):=by
 intro pins s σ H D I h;refine plainObj_wpAny_Assign_Attribute (thn (hv pins s σ H _ I h) λu s1 ⟨y,H1,I1,ry,q⟩=>thn (ha pins s1 σ H1 _ I1 q) λov s2 ⟨x,H2,I2,rx,a,C,dx,fs,ex,ea,c,n,l,q2⟩=>?_) hs;subst ex;obtain rfl:ov=eJ a:=rx;exact WX I2 ea c n l ry λs3 I3=>⟨σ,_,I3,q2⟩
end
structure nU(k:af)(A:b5):Prop where
 hd:A.handled=ai
 dp:A.depth+3*k+5<Ak
 un:A.units+16*k+200<b6
theorem nU.mono(r:nU k A)(h:j<=k):nU j A:=⟨r.hd,by have:=r.dp;lia,by have:=r.un;lia⟩
theorem nU.deeper(r:nU (k+1) A)(env:di):nU k (A.deeper env):=
 ⟨r.hd,by have:=r.dp;show A.depth+1+3*k+5<_;lia,by have:=r.un;show A.units+3+16*k+200<_;lia⟩
theorem WY{A:b5}:(A.under (.builtin "type.__call__" ⟨.ref C::us,kw⟩)).depth=A.depth+1:=by
 first|rfl|simp[vz,Code.weight,Code.isCreation,Code.isGuard,Code.isCaller,Al,vE,guardIds]
theorem W0{A:b5}:(A.under (.builtin "type.__call__" ⟨.ref C::us,kw⟩)).units=A.units+1:=by
 first|rfl|simp[vz,Code.cUnits,Al,vE]
theorem nU.make(r:nU (k+1) A)(C:ak)(us:aa aj)(kw:aa (Str×aj)):nU k (A.under (.builtin "type.__call__" ⟨.ref C::us,kw⟩)):=
 ⟨r.hd,by have:=r.dp;rw[WY];lia,by have:=r.un;rw[W0];lia⟩
theorem nU.depth(r:nU k A):A.depth<Ak:=by have:=r.dp;lia
theorem nU.units(r:nU k A):A.units+64<b6:=by have:=r.un;lia
noncomputable def aRq:TA:=λ_ H Q=>Q [] H
noncomputable def aPl(ta:TE)(tr:TA):TA:=λσ H Q=>ta σ H λx H1=>tr σ H1 λxs H2=>Q (x::xs) H2
section
variable {t:TA}
theorem lM:PA X [] aRq:=λ_ _ _ _ H Q I h=>kF ⟨[],H,I,.nil,h⟩
theorem fV(ha:PE X e te)(hr:PA X es t)(hs:zSE X e es:=by rfl):PA X (e::es) (aPl te t):=by
 intro pos pins s σ H Q I h;rw[hs];show wpAny _ _ (jx ((ag,bf e X.env)::iA pos (b9 es X.env))) _ _ s;refine kG (thn (ha pins s σ H _ I h) λu s1 ⟨x,H1,I1,r1,q1⟩=>?_);exact thn (hr pos pins s1 σ H1 _ I1 q1) λus s2 ⟨xs,H2,I2,r2,q2⟩=>⟨x::xs,H2,I2,.cons r1 r2,q2⟩
def aRr(t:TA):TE:=λσ H Q=>t σ H λxs H1=>xs.length<=ba/\∀p,H1 p=ai->Q (.ref p) (upd H1 p (.tup xs))
def aRs(t:TA):TE:=λσ H Q=>t σ H λxs H1=>xs.length<=ba/\∀p,H1 p=ai->Q (.ref p) (upd H1 p (.lst xs))
theorem ZW{x1}(h:PA X es t):PE X (.Tuple es x1 pos) (aRr t):=by
 intro pins s σ H Q I hq;refine wpAny_Tuple_spliced (thn (h pos pins s σ H _ I hq) λus s1 ⟨xs,H1,I1,r,z,q⟩=>⟨by rw[<-r.length];exact z,?_⟩);have hf:H1 s1.heap.objs.size=ai:=I1.hok.fresh (aS _);refine⟨.ref s1.heap.objs.size,upd H1 s1.heap.objs.size (.tup xs),I1.laid (λb u e=>bu _ e) (aS _) ?_,rfl,q _ hf⟩;exact⟨z,us,r,⟨_,cx _ rfl,rfl,_,rfl⟩⟩
theorem ZX(h:PA X es t):PE X (.List es pos) (aRs t):=by
 intro pins s σ H Q I hq;refine wpAny_List_spliced (thn (h pos pins s σ H _ I hq) λus s1 ⟨xs,H1,I1,r,z,q⟩=>⟨by rw[<-r.length];exact z,?_⟩);have hf:H1 s1.heap.objs.size=ai:=I1.hok.fresh (aS _);refine⟨.ref s1.heap.objs.size,upd H1 s1.heap.objs.size (.lst xs),I1.laid (λb u e=>bu _ e) (aS _) ?_,rfl,q _ hf⟩;exact⟨z,us,0,r,cx _ rfl⟩
end
abbrev Sp:=aa V->Hp->VK->XK->Prop
abbrev CXT:=aa di->Hp->am->XK->aj->am->Prop
structure aHg(P:bS)(w:bm)(K:bg)(mg:Str->au aj)(base:aI)(A:b5)(outer:aa di)(s:am)(H:Hp):Prop where
 frames:A.frames=ab outer
 mod:Mod K mg base
 bs:∀b o,base.get? b=ab o->s.heap.get? b=ab o/\H b=ai
 bsz:base.objs.size<=s.heap.objs.size
 YW:s.heap.FunFrames base outer
 frf:∀b∈frs outer,H b=ai
 hok:HOk P w H s.heap
 bare:jw s.gens
def CE(outer:aa di)(P:bS)(w:bm)(H:Hp)(s:am)(Q:VK)(u:aj)(s':am):Prop:=
 ∃v H',s'.os=s.os/\jw s'.gens/\Un (frs outer) [] H H' s.heap s'.heap/\HOk P w H' s'.heap/\RelV v u/\Q v H'
def CR(CX:CXT)(outer:aa di)(P:bS)(w:bm)(H:Hp)(s:am)(Q:VK)(E:XK)(r:kH)(s':am):Prop:=
 match r with
 |.ok (.ret u)=>CE outer P w H s Q u s'
 |.ok _=>cw
 |.error e=>CX outer H s E e s'
structure v6(P:bS)(w:bm)(K:bg)(mg:Str->au aj)(base:aI)(CX:CXT)(k:af)(f:ak)(fd:eu)(ps:aa Str)(sp:Sp):Prop where
 len:∀vs H Q E,sp vs H Q E->vs.length=ps.length
 run:∀(A:b5)(outer:aa di)(s:am)(H:Hp)(args:Args)(us:aa aj)(vs:aa V)(Q:VK)(E:XK),nU k A->aHg P w K mg base A outer s H->kK s fd args (ps.zip us)->Vals vs us->sp vs H Q E->
  codeAny (av P w) A (.call (.ref f) args) (CR CX outer P w H s Q E) s
theorem aHg.make{K:bg}{base:aI}{A:b5}{outer:aa di}{s:am}{H:Hp}(e:aHg P w K mg base A outer s H)(C:ak)(us:aa aj)(kw:aa (Str×aj)) :
  aHg P w K mg base (A.under (.builtin "type.__call__" ⟨.ref C::us,kw⟩)) outer s H:=⟨by first|exact e.frames|(simpa[vz,Code.envs,vE,pushEnvs] using e.frames),e.mod,e.bs,e.bsz,e.YW,e.frf,e.hok,e.bare⟩
section
theorem Inv.env0(I:Inv X pins σ H s):aHg X.prog X.w X.K X.mg X.base X.A X.stack s H:=
 ⟨I.ok.frames,I.ok.mod,I.bs,c9 I.ok.bsz I.sz,I.stack,I.Y9,I.hok,I.bare⟩
theorem Inv.after(I:Inv X pins σ H s)(h:CE X.stack X.prog X.w H s Q u s'):EP X pins σ Q u s':=by
 obtain⟨v,H',os,bare,un,hok,r,q⟩:=h;obtain⟨hh,g,d,t,os'⟩:=s';obtain rfl:os'=s.os:=os;exact⟨v,H',I.call un hok bare (λb z=>aE z 0x2),r,q⟩
end
noncomputable def aPm(sp:Sp)(dvs:aa V)(E:XK)(t:TA):TE:=λσ H Q=>t σ H λvs H1=>sp (vs++dvs) H1 Q E
noncomputable def aPn(C:ak)(m:Str)(sp:Sp)(dvs:aa V)(E:XK)(ta:TE)(t:TA):TE:=λσ H Q=>ta σ H λx H1=>∃a dx fs,x=.ref a/\H1 a=ab (.ins C dx fs)/\fs.lookup m=ai/\
 t σ H1 λvs H2=>sp (x::(vs++dvs)) H2 Q E
def aPo(C:ak)(sp:Sp)(dvs:aa V)(E:XK)(t:TA):TE:=λσ H Q=>t σ H λvs H1=>∀x dx,H1 x=ai->H1 dx=ai->dx≠x->
 sp (.ref x::(vs++dvs)) (upd (upd H1 dx (.own x)) x (.ins C dx [])) (λv H2=>v=.non/\Q (.ref x) H2) E
def Binds(K:bg)(fd:eu)(ps:aa Str)(ds:aa aj):Prop:=
 ∀(s:am)(us:aa aj),K.In s.heap->(us++ds).length=ps.length->kK s fd ⟨us,[]⟩ (ps.zip (us++ds))
theorem Binds.all{K:bg}(h:∀us:aa aj,us.length=ps.length->bindArgs fd ⟨us,[]⟩=pure (ps.zip us)):Binds K fd ps []:=λs us _ hl=>by
 rw[d6] at hl ⊢;exact .of_eq (h us hl)
def BP(CX:CXT)(X:Cx)(E:XK):Prop:=∀(pins:aa (ak×bd))(σ:St)(H:Hp)(s:am)(e:aj)(s':am),Inv X pins σ H s->CX X.stack H s E e s'->X.xe e s'
section
variable {f C:ak} {e o:Expr}
theorem aFo(F:v6 X.prog X.w X.K X.mg X.base CX k f fd ps sp)(hr:nU k X.A)(hb:Binds X.K fd ps ds)(hd:Vals dvs ds)(hx:BP CX X E)
 (I:Inv X pins σ H s)(r:Vals vs us)(h:sp (vs++dvs) H Q E):wpAny (av X.prog X.w) X.A (call (.ref f) us) (EP X pins σ Q) X.xe s:=by
 have r2:Vals (vs++dvs) (us++ds):=r.append hd;have hl:(us++ds).length=ps.length:=by rw[<-r2.length];exact F.len _ _ _ _ h
 refine vF (kL (F.run X.A X.stack s H ⟨us,[]⟩ (us++ds) (vs++dvs) Q E hr I.env0 (hb s us I.kIn hl) r2 h) λr s' hq=>?_);cases r with
 |error e=>exact hx pins σ H s e s' I hq
 |ok fl=>
  cases fl with
  |ret u=>exact I.after hq
  |next=>exact eW hq
  |brk=>exact eW hq
  |cont=>exact eW hq
theorem ZZ(F:v6 X.prog X.w X.K X.mg X.base CX k f fd ps sp)(hr:nU k X.A)(hg:Gl X x)(hm:X.mg x=ab (.ref f))(hk:jd X.K (.ref f)=ae)(hb:Binds X.K fd ps ds)(hd:Vals dvs ds)(hx:BP CX X E)
 (ha:PA X (e::es) t)(hdb:nDb x:=by decide)(he:zSE X e es:=by rfl)(hpl:zSP X pos es:=by rfl) :
  PE X (.Call (.Name x p) (e::es) [] pos) (aPm sp dvs E t):=by
 intro pins s σ H Q I h;refine hZ (ZC I hg hm ?_ hdb);refine vS I.ok.mod.kin hk (thn (ha pos pins s σ H _ I h) λus s1 ⟨vs,H1,I1,r,q⟩=>⟨I1.kIn,?_⟩) he hpl;exact aFo F hr hb hd hx I1 r q
theorem aHh(he:PE X o ta)(c:Cls X.K C)(hm:Meth X.K C m f)(F:v6 X.prog X.w X.K X.mg X.base CX k f fd ps sp)(hr:nU k X.A)(hb:Binds X.K fd ps ds)(hd:Vals dvs ds)(hx:BP CX X E)(ha:PA X (e::es) t)
 (hst:zSE X e es:=by rfl)(hpl:zSP X pos es:=by rfl)
 (ht:bf (.Call (.Attribute o m apos) (e::es) [] pos) X.env=(do
   let ov <- bf o X.env
   nw apos.atName
   let (f,first) <- jy [ov] (rc ov m pl)
   r_ pos f first (iA pos (b9 (e::es) X.env)) (ve pos (vg [] X.env))):=by rfl) :
  PE X (.Call (.Attribute o m apos) (e::es) [] pos) (aPn C m sp dvs E ta t):=by
 intro pins s σ H Q I h;refine PySem.W.methodCall_KW (thn (he pins s σ H _ I h) λu s1 ⟨x,H1,I1,rx,a,dx,fs,ex,ea,l,q⟩=>?_) ht;subst ex;obtain rfl:u=eJ a:=rx;refine WW I1 ea c hm l ?_;refine vS I.ok.mod.kin hm.kp (thn (ha pos pins s1 σ H1 _ I1 q) λus s2 ⟨vs,H2,I2,r,q2⟩=>⟨I2.kIn,?_⟩) hst hpl;exact aFo (vs:=.ref a::vs) F hr hb hd hx I2 (.cons rfl r) q2
structure Mk(K:bg)(C f:ak):Prop where
 makes:Ai K C=ae
 init:jb K (.ref C) "__init__"=ab (ab (.ref f))
 fn:vq K (.ref f)=ae
 kp:jd K (.ref C)=ae
theorem aDa(M:Mk X.K C f)(F:v6 X.prog X.w X.K X.mg X.base CX k f fd ps sp)(hr:nU (k+1) X.A)(hb:Binds X.K fd ps ds)(hd:Vals dvs ds)
 (hx:BP CX X E)(I:Inv X pins σ H s)(r:Vals vs us)
 (h:∀x dx,H x=ai->H dx=ai->dx≠x->sp (.ref x::(vs++dvs)) (upd (upd H dx (.own x)) x (.ins C dx [])) (λv H2=>v=.non/\Q (.ref x) H2) E) :
  wpAny (av X.prog X.w) X.A (call (.ref C) us) (EP X pins σ Q) X.xe s:=by
 have hq:=h (s.heap.objs.size+1) s.heap.objs.size (I.hok.fresh (gn _)) (I.hok.fresh (aS _)) (ck (ip _));have I2:=Inv.made (C:=C) I;have r2:Vals (V.ref (s.heap.objs.size+1)::(vs++dvs)) (eJ (s.heap.objs.size+1)::(us++ds)):=.cons rfl (r.append hd);have hl:(eJ (s.heap.objs.size+1)::us++ds).length=ps.length:=by
  have e:=r2.length;rw[F.len _ _ _ _ hq] at e;exact e.symm
 refine vF (aD9 I.kIn M.makes M.init (io.mp M.fn) (kL (F.run _ X.stack _ _ ⟨eJ (s.heap.objs.size+1)::us,[]⟩ (eJ (s.heap.objs.size+1)::(us++ds)) _ _ E (hr.make C us [])
  (I2.env0.make C us []) (hb _ (eJ (s.heap.objs.size+1)::us) I2.kIn hl) r2 hq) λr s' hq'=>?_))
 cases r with
 |error e=>exact hx pins σ _ _ e s' I2 hq'
 |ok fl=>
  cases fl with
  |ret u=>
   obtain⟨v,H',I3,rv,ev,q3⟩:=I2.after hq';subst ev;exact⟨rv,⟨V.ref (s.heap.objs.size+1),H',I3,rfl,q3⟩⟩
  |next=>exact eW hq'
  |brk=>exact eW hq'
  |cont=>exact eW hq'
theorem aHi(M:Mk X.K C f)(F:v6 X.prog X.w X.K X.mg X.base CX k f fd ps sp)(hr:nU (k+1) X.A)(hg:Gl X x)(hm:X.mg x=ab (.ref C))(hb:Binds X.K fd ps ds)(hd:Vals dvs ds)(hx:BP CX X E)
 (ha:PA X (e::es) t)(hdb:nDb x:=by decide)(he:zSE X e es:=by rfl)(hpl:zSP X pos es:=by rfl) :
  PE X (.Call (.Name x p) (e::es) [] pos) (aPo C sp dvs E t):=by
 intro pins s σ H Q I h;refine hZ (ZC I hg hm ?_ hdb);refine vS I.ok.mod.kin M.kp (thn (ha pos pins s σ H _ I h) λus s1 ⟨vs,H1,I1,r,q⟩=>⟨I1.kIn,?_⟩) he hpl;exact aDa M F hr hb hd hx I1 r q
end
structure cC(N P:aa Str)(sc:fR):Prop where
 kind:sc.kind=.function
 co:sc.isCoroutine=ag
 gen:sc.isGenerator=ag
 nd:N.Nodup
 pre:N.take P.length=P
 par:∀x∈P,sc.names.lookup x=ab .local\/sc.names.lookup x=ab .cell
 nofree:∀y∈sc.names,y.2≠.free
theorem JN{kindOf:Str->au iF}:∀{binds:aa (Str×aj)}{m:Str->au aj},(∀v,(x,v)∉binds)->jI kindOf binds m x=m x
 |[],_,_=>rfl
 | (n,v)::r,m,h=>by
  unfold jI;rw[JN λw hw=>h w (bz _ hw)];split
  ·have:x≠n:=by rintro rfl;exact h v bn
   simp[this]
  ·rfl
theorem JP{kindOf:Str->au iF}:∀{binds:aa (Str×aj)}{m:Str->au aj},(∀v,(x,v)∉binds)->jS kindOf binds m x=m x
 |[],_,_=>rfl
 | (n,v)::r,m,h=>by
  unfold jS;rw[JP λw hw=>h w (bz _ hw)];split
  ·rfl
  ·have:x≠n:=by rintro rfl;exact h v bn
   simp[this]
theorem JQ{kindOf:Str->au iF}:∀{P:aa Str}{vs:aa aj}{i:af}{m:Str->au aj},P.Nodup->P[i]?=ab x->vs[i]?=ab v->kindOf x=ab .local->
  jI kindOf (P.zip vs) m x=ab v
 |[],_,_,_,_,h,_,_=>by simp at h
 |_::_,[],_,_,_,_,h,_=>by simp at h
 |p::P,w::vs,0,m,nd,h1,h2,hk=>by
  simp at h1 h2;subst h1;subst h2;show jI kindOf ((p,w)::P.zip vs) m p=_;unfold jI;rw[JN λv hv=>(dj.mp nd).1 (ny hv).1,ao hk];simp
 |p::P,w::vs,i+1,m,nd,h1,h2,hk=>by
  show jI kindOf ((p,w)::P.zip vs) m x=_;unfold jI;exact JQ (dj.mp nd).2 (by simpa using h1) (by simpa using h2) hk
theorem JR{kindOf:Str->au iF}:∀{P:aa Str}{vs:aa aj}{i:af}{m:Str->au aj},P.Nodup->P[i]?=ab x->vs[i]?=ab v->kindOf x≠ab .local->
  jS kindOf (P.zip vs) m x=ab v
 |[],_,_,_,_,h,_,_=>by simp at h
 |_::_,[],_,_,_,_,h,_=>by simp at h
 |p::P,w::vs,0,m,nd,h1,h2,hk=>by
  simp at h1 h2;subst h1;subst h2;show jS kindOf ((p,w)::P.zip vs) m p=_;unfold jS;rw[JP λv hv=>(dj.mp nd).1 (ny hv).1,aw hk];simp
 |p::P,w::vs,i+1,m,nd,h1,h2,hk=>by
  show jS kindOf ((p,w)::P.zip vs) m x=_;unfold jS;exact JR (dj.mp nd).2 (by simpa using h1) (by simpa using h2) hk
noncomputable def start(N:aa Str)(vs:aa V):St:=vs.map ab++bP (N.length-vs.length) ai
noncomputable def Z0(CX:CXT)(P:bS)(w:bm)(K:bg)(mg:Str->au aj)(base:aI)(N:aa Str)(qual:Str)(scope:fR)(f:ak)(cd:aj)(A:b5)(outer:aa di)(s:am)(H:Hp)(E:XK):Cx where
 prog:=P
 w:=w
 K:=K
 mg:=mg
 base:=base
 A:=A.deeper (gp qual scope s.heap.objs.size f cd)
 N:=N
 s₀:=s
 H₀:=H
 env:=gp qual scope s.heap.objs.size f cd
 outer:=outer
 stack:=gp qual scope s.heap.objs.size f cd::outer
 ex:=[]
 calm:=ae
 fn:=λ_=>ae
 pn:=[]
 xe:=λe s'=>wpAny (av P w) (A.deeper (gp qual scope s.heap.objs.size f cd)) (leaving (gp qual scope s.heap.objs.size f cd) e) (λ_ s''=>CX outer H s E e s'') (λe' s''=>CX outer H s E e' s'') s'
theorem SQ{sc:fR}(h:sc.names.lookup x=ab .cell):∃c,(vT n sc.names []).lookup x=ab c:=by
 have q:=Am sc.names n [] (.inl h);exact se.mp q
theorem Z1{CX:CXT}{P:bS}{w:bm}{K:bg}{mg:Str->au aj}{base:aI}{N ps:aa Str}{qual:Str}{scope:fR}{f:ak}{cd:aj}{A:b5}{outer:aa di}{s s1:am}{H:Hp}{E:XK}{us:aa aj}{vs:aa V}
 (S:cC N ps scope)(hd:A.handled=ai)(e0:aHg P w K mg base A outer s H)(hl:vs.length=ps.length)(r:Vals vs us)
 (x:InCallC s s.heap.objs.size (jI (gp qual scope s.heap.objs.size f cd).kindOf (ps.zip us) λ_=>ai) (vT (s.heap.objs.size+1) scope.names []) (jS (gp qual scope s.heap.objs.size f cd).kindOf (ps.zip us) λ_=>ai) s1) :
  Inv (Z0 CX P w K mg base N qual scope f cd A outer s H E) [] (start N vs) H s1:=by
 have hpl:ps.length<=N.length:=by have:=cz lP S.pre;rw[nB] at this;lia
 obtain⟨h1,tk,rfl,hk⟩:=x.done;have noA:∀b:ak,b∉(Z0 CX P w K mg base N qual scope f cd A outer s H E).ex:=λb z=>aE (show b∈([]:aa ak) from z) 0x2
 refine⟨⟨e0.mod,S.kind,rfl,rfl,aS _,λy z c h1 h2=>?_,λy hy=>?_,λy c _ h=>?_,λ_=>hd,Around.frames_deeper e0.frames,.inr ⟨rfl,rfl⟩,λb z=>aE z (noA b),e0.bs,e0.bsz,λb _ _=>noA b,λb z=>aE z (noA b),e0.YW,e0.frf⟩,
  rfl,e0.bare,Un.kept hk,⟨_,x.toInCall.ns,λi y v h1 h2 h3=>?_⟩,λy c h=>⟨_,x.cell y c h⟩,e0.hok.fresh (aS _),λy c h=>?_,λp hp=>aE (show p∈([]:aa (ak×bd)) from hp) 0x2,e0.hok.kept hk,?_⟩
 ·exact name_of_addr x.apart (lS h1) (lS h2)
 ·have hy:scope.names.lookup y=ab .cell\/scope.names.lookup y=ab .free:=hy;rcases hy with hy|hy
  ·exact SQ hy
  ·exact aE rfl (S.nofree _ (lS hy))
 ·exact lv (x.above y c (lS h))
 ·have hi:i<vs.length:=by
   unfold start at h2;by_cases hi:i<vs.length
   ·exact hi
   ·rw[fz (by simpa using hi)] at h2;rw[je] at h2;split at h2<;>cases h2
  have ha:vs[i]?=ab v:=by
   unfold start at h2;rw[ia (by simpa using hi),jg] at h2;cases e:vs[i]? with
   |none=>rw[e] at h2;cases h2
   |some a=>rw[e] at h2;cases h2;rfl
  obtain⟨u,hu,rv⟩:=r.get ha;have hp:ps[i]?=ab y:=by
   rw[<-S.pre,List.getElem?_take_of_lt 0x1];exact h1
  have ndP:ps.Nodup:=by rw[<-S.pre];exact S.nd.sublist (List.take_sublist _ _)
  refine⟨u,rv,?_⟩;rcases S.par y (nE hp) with k|k
  ·exact .inl ⟨k,JQ ndP hp hu k⟩
  ·obtain⟨c,e⟩:=SQ k;refine .inr ⟨.inl k,c,e,?_⟩;have q:=x.cell y c e;rw[JR ndP hp hu (by show scope.names.lookup y≠_;rw[k];decide)] at q;exact q
 ·exact e0.hok.fresh (lv (x.above y c (lS h)))
 ·unfold start;show _=N.length;rw[bj,ax,nI];lia
theorem aLq{w:bm}{K:bg}{mg:Str->au aj}{base:aI}{k:af}{f:ak}{name qual:Str}{params:Arguments}{body:aa br}{scope:fR}{dV kV doc pm cdv ct oc:aj}{an od:au ak}
 {osl:ay (au aj)}{N ps:aa Str}{sp:Sp}(lk:K.lookup f=ab ⟨oc,od,.func (kM name qual params body scope dV kV doc pm an cdv ct),osl⟩)(hcd:sg K cdv qual=ae)(S:cC N ps scope)
 (len:∀vs H Q E,sp vs H Q E->vs.length=ps.length)
 (hbody:∀(A:b5) (outer:aa di) (s:am) (H:Hp) (vs:aa V) (Q:VK) (E:XK),nU k (A.deeper (gp qual scope s.heap.objs.size f cdv))->sp vs H Q E->
   ∃t,PSs (Z0 CX P w K mg base N qual scope f cdv A outer s H E) body t/\t {nx:=λ_ H'=>Q .non H',rt:=Q} (start N vs) H) :
  v6 P w K mg base CX (k+1) f (kM name qual params body scope dV kV doc pm an cdv ct) ps sp:=by
 refine⟨len,λA outer s H args us vs Q E hr e0 hb r hsp=>?_⟩;have hl:=len _ _ _ _ hsp;have KX:K.In s.heap:=e0.mod.kin.keeps λb o e=>(e0.bs b o e).1
 have lim:s.heap.NoLimit:=e0.mod.nolimit.keeps λb o e=>(e0.bs b o e).1
 have hkind:∀y∈ps.zip us,scope.names.lookup y.1=ab .local\/(scope.names.lookup y.1=ab .cell/\((vT (s.heap.objs.size+1) scope.names []).lookup y.1).isSome=ae):=λ⟨n,v⟩ hy=>by
  rcases S.par n (ny hy).1 with q|q
  ·exact .inl q
  ·exact .inr ⟨q,Am _ _ _ (.inl q)⟩
 refine codeAny_call_function hr.depth (KX _ _ lk) rfl S.co S.gen rfl (PySem.W.codeRec_of KX hcd) (hb _ _ _ _ ?_);refine wpAny_newFunctionEnv_cells S.kind hkind λenv he s1 x=>?_
 subst he;refine⟨lim.keeps x.toInCall.keep,codeAny_func ?_⟩;obtain⟨t,ht,hq⟩:=hbody A outer s H vs Q E (hr.deeper _) hsp;have I:Inv (Z0 CX P w K mg base N qual scope f cdv A outer s H E) [] (start N vs) H s1:=Z1 S hr.hd e0 hl r x;refine fT (ht [] s1 (start N vs) H _ I hq) (λfl s' hs=>?_) λe s' hs=>hs
 have fin:∀{σ':St}{H':Hp}{v:V}{u:aj},Inv (Z0 CX P w K mg base N qual scope f cdv A outer s H E) [] σ' H' s'->RelV v u->Q v H'->CE outer P w H s Q u s':=
  λ{σ' H' v u} J rv q=>⟨v,H',J.os,J.bare,J.base,J.hok,rv,q⟩
 cases fl with
 |ret u=>
  obtain⟨v,σ',H',J,rv,q⟩:=hs;exact fin J rv q
 |next=>
  obtain⟨σ',H',J,q⟩:=hs;exact fin (v:=V.non) J rfl q
 |brk=>
  obtain⟨_,_,_,q⟩:=hs;exact eW q
 |cont=>
  obtain⟨_,_,_,q⟩:=hs;exact eW q
section
variable {e:Expr} {t:TA} {id T:dS} {r:aa V->Hp->VK->Prop}
noncomputable def tCB(r:aa V->Hp->VK->Prop)(t:TA):TE:=λσ H Q=>t σ H λvs H1=>r vs H1 Q
theorem SX(hc:lL X (.builtin id) r)(hg:Gl X x)(hm:X.mg x=ai)(hv:dz x=ab (.builtin id))(ha:PA X (e::es) t)(hn:x ≠ "__name__":=by decide)(hdb:nDb x:=by decide)
 (he:zSE X e es:=by rfl)(hpl:zSP X pos es:=by rfl):PE X (.Call (.Name x p) (e::es) [] pos) (tCB r t):=by
 intro pins s σ H Q I h;refine hZ (kO I hg hm hv ?_ hn hdb);exact CM (thn (ha pos pins s σ H _ I h) λus s1 ⟨vs,H1,I1,r1,q1⟩=>hc pins s1 σ H1 vs us Q I1 r1 q1) he hpl
theorem Z2(hc:lL X (.type T) r)(hg:Gl X x)(hm:X.mg x=ai)(hv:dz x=ab (.type T))(ha:PA X (e::es) t)(hn:x ≠ "__name__":=by decide)(hdb:nDb x:=by decide)
 (he:zSE X e es:=by rfl)(hpl:zSP X pos es:=by rfl):PE X (.Call (.Name x p) (e::es) [] pos) (tCB r t):=by
 intro pins s σ H Q I h;refine hZ (kO I hg hm hv ?_ hn hdb);exact ik (thn (ha pos pins s σ H _ I h) λus s1 ⟨vs,H1,I1,r1,q1⟩=>hc pins s1 σ H1 vs us Q I1 r1 q1) he hpl
end
end L2
namespace HT
open PySem PyProof.Rows
section
variable {prog:bS} {w:bm} {A:b5} {E:aj->am->Prop} {s:am}
theorem aHj(ht:kx s.heap t vs.toArray)(hb:kx s.heap b ws.toArray)(hv:vs≠[])
 (h1:ws=[]->Q (.ref t) s)(h2:ws≠[]->Q (.ref s.heap.objs.size) {s with heap:=s.heap.push {cls:=.type "tuple",data:=.seq (vs++ws).toArray}})
 (hsz:vs.length+ws.length<=ba):wpAny (av prog w) A (fq .Add (.ref t) (.ref b)) Q E s:=by
 obtain⟨⟨cls,dd,data,sl⟩,ho,hc,n,hd⟩:=id ht;obtain⟨⟨cls2,dd2,data2,sl2⟩,ho2,hc2,n2,hd2⟩:=id hb;simp only at hc hd hc2 hd2;subst hc hd hc2 hd2;have e:vs.toArray++ws.toArray=(vs++ws).toArray:=by simp
 by_cases hw:ws=[]
 ·exact wb ⟨_,ho,rfl⟩ ⟨_,ho2,rfl⟩ wc we wf wg (wj _ _)
   (tuple_addW1 t b vs.toArray ws.toArray n n2 dd dd2 sl sl2 (by simpa using hv) (by simp[hw])) ⟨ho,ho2,h1 hw⟩
 ·refine wb ⟨_,ho,rfl⟩ ⟨_,ho2,rfl⟩ wc we wf wg (wj _ _)
   (tuple_addW2 t b vs.toArray ws.toArray n n2 dd dd2 sl sl2 (by simpa using hv) (by simpa using hw) (by rw[bX,bX];exact hsz)) ⟨ho,ho2,?_⟩
  rw[e];exact h2 hw
noncomputable def sIx(n d:af):au ah->af
 |none=>d
 |some v=>if v<0 then (v+(n:ah)).toNat else min v.toNat n
theorem aLr(n d:af)(hd:d<=n)(o:au ah):sIx n d o<=n:=by
 cases o with
 |none=>exact hd
 |some v=>
  show(if v<0 then (v+(n:ah)).toNat else min v.toNat n)<=n;by_cases hv:v<0
  ·rw[ao hv];lia
  ·rw[aw hv];exact Nat.min_le_right _ _
theorem Z3(v:ah)(n d:af):(if v<0 then max (v+(n:ah)) 0 else min v (n:ah))=((sIx n d (ab v):af):ah):=by
 show(if v<0 then max (v+(n:ah)) 0 else min v (n:ah))=(((if v<0 then (v+(n:ah)).toNat else min v.toNat n):af):ah);by_cases hv:v<0
 ·simp only[ao hv];lia
 ·simp only[aw hv];lia
theorem W2(lo hi:au ah)(n:af):wm lo hi 1 (n:ah)=(((sIx n 0 lo:af):ah),((sIx n n hi:af):ah)):=by
 have h1:¬((1:ah)<0):=by lia
 unfold wm;simp only[h1,gN];refine wo ?_ ?_
 ·cases lo with
  |none=>rfl
  |some v=>exact Z3 v n 0
 ·cases hi with
  |none=>rfl
  |some v=>exact Z3 v n n
theorem W3(i j:af):sh (i:ah) (j:ah) 1=j-i:=by
 unfold sh;have h1:(1:ah) > 0:=by lia
 simp only[h1,eB,Int.ediv_one];split<;>lia
theorem BR(p:iq v o)(h:Q o s):wpAny (av prog w) A (CO v) Q E s:=by
 cases p with
 |none=>exact An h
 |int i t=>exact slicePart_int h
theorem m_{lo hi:au ah}{Q:ah×ah×af->am->Prop}(hs:s.heap.IsSliceOf sl vl vu .none)(pl:iq vl lo)(pu:iq vu hi)
 (h:Q (((sIx n 0 lo:af):ah),1,sIx n n hi-sIx n 0 lo) s):wpAny (av prog w) A (Ao (.ref sl) (pure (n:ah))) Q E s:=by
 obtain⟨os,hos,hcs,hds⟩:=id hs;unfold Ao CS;refine al (al (fw hos hds rfl (al (fw hos hds rfl (al (fw hos hds rfl (az ?_)))))));refine al (An ?_);show wpAny _ _ (if ((1:ah)==0)=ae then _ else _) _ _ s;rw[aw 0x4];refine al (BR pl (al (BR pu (al (az ?_)))));show wpAny _ _ (match wm lo hi 1 (n:ah) with|(lo,hi)=>pure (lo,(1:ah),sh lo hi 1)) _ _ s;rw[W2 lo hi n];show wpAny _ _ (pure (((sIx n 0 lo:af):ah),(1:ah),sh ((sIx n 0 lo:af):ah) ((sIx n n hi:af):ah) 1)) _ _ s;rw[W3];exact az h
theorem aDb(xs:ay aj)(i k:af):((bw k).filterMap λ(m:af)=>xs[((i:ah)+(m:ah)*1).toNat]?).toArray=((xs.toList.drop i).take k).toArray:=by
 have e:(λ(m:af)=>xs[((i:ah)+(m:ah)*1).toNat]?)=λm=>xs[i+m]?:=by
  funext m
  have:((i:ah)+(m:ah)*1).toNat=i+m:=by lia
  rw[this]
 rw[e];have:=pick_run xs i k;rw[Ap] at this;have e2:((λx=>xs[x]?) ∘ λx=>i+x)=λm=>xs[i+m]?:=rfl
 rw[e2] at this;rw[this]
theorem vC{lo hi:au ah}{Q:aj->am->Prop}(ht:kx s.heap t items)(hs:s.heap.IsSliceOf sl vl vu .none)(pl:iq vl lo)(pu:iq vu hi)
 (hw:¬(sIx items.size 0 lo=0/\sIx items.size items.size hi=items.size))
 (h:Q (.ref s.heap.objs.size) {s with heap:=s.heap.push {cls:=.type "tuple",data:=.seq ((items.toList.drop (sIx items.size 0 lo)).take (sIx items.size items.size hi-sIx items.size 0 lo)).toArray}})
 (hsz:items.size<=ba):wpAny (av prog w) A (jh (.ref t) (.ref sl)) Q E s:=by
 have htake:sizeOk (.seq ((items.toList.drop (sIx items.size 0 lo)).take (sIx items.size items.size hi-sIx items.size 0 lo)).toArray):=by
  show((items.toList.drop (sIx items.size 0 lo)).take (sIx items.size items.size hi-sIx items.size 0 lo)).toArray.size<=ba;rw[bX,nB,nK,lz];lia
 have hj:sIx items.size items.size hi<=items.size:=aLr _ _ (aS _) hi;obtain⟨os,hos,hcs,hds⟩:=id hs;have hTs:s.TypeIs (.ref sl) "slice":=⟨os,hos,hcs⟩
 unfold jh
 try with_reducible refine eh ?_
 first|refine al (az ?_)|skip
 refine al (Aq ht.typeIs 0x4 ?_);refine al (kN ht.typeIs wu
  (nL wu ht.typeIs Ar ?_ (As _ _)))
 show wpAny _ _ (At (.ref t) >>= _) _ _ s;refine al (Au ht ?_);refine al (iL hTs ?_);rw[ao 0x4];refine al (m_ hs pl pu ?_);have hno:¬((((sIx items.size 0 lo:af):ah)==0&&(1:ah)==1&&(sIx items.size items.size hi-sIx items.size 0 lo)==items.size)=ae):=by
  intro q;rw[aT,aT] at q;have q1:((sIx items.size 0 lo:af):ah)=0:=eq_of_beq q.1.1;have q2:sIx items.size items.size hi-sIx items.size 0 lo=items.size:=eq_of_beq q.2;exact hw ⟨by lia,by lia⟩
 show wpAny _ _ (if (((sIx items.size 0 lo:af):ah)==0&&(1:ah)==1&&(sIx items.size items.size hi-sIx items.size 0 lo)==items.size)=ae then _ else _) _ _ s;rw[aw hno,aDb]
 first
  |exact al (iN (az ⟨_,rfl,az h⟩) htake)
  |exact al (iN (al (az (az ⟨_,rfl,az h⟩))) htake)
  |exact al (al (iN (az (az ⟨_,rfl,az h⟩)) htake))
  |exact al (al (iN (az ⟨_,rfl,az h⟩) htake))
end
end HT
namespace L2
open PySem PySem.Spec PyProof.Rows
abbrev TO:=St->Hp->(au ah->Hp->Prop)->Prop
def PO(X:Cx)(e:au Expr)(t:TO):Prop:=
 ∀(pins:aa (ak×bd))(s:am)(σ:St)(H:Hp)(Q:au ah->Hp->Prop),Inv X pins σ H s->t σ H Q->
  wpAny (av X.prog X.w) X.A (evalPart e X.env) (λu s'=>∃o H',Inv X pins σ H' s'/\iq u o/\Q o H') X.xe s
noncomputable def aHk:TO:=λ_ H Q=>Q ai H
noncomputable def aPp(t:TE):TO:=λσ H Q=>t σ H λx H1=>∃i,x=.int i/\Q (ab i) H1
section
variable {X:Cx} {te:TE} {lo hi:au Expr} {tl th:TO}
theorem aHl:PO X ai aHk:=by
 intro pins s σ H Q I h;rw[wy];exact az ⟨ai,H,I,.none,h⟩
theorem Z4(h:PE X e te):PO X (ab e) (aPp te):=by
 intro pins s σ H Q I hw;rw[evalPart_some];refine thn (h pins s σ H _ I hw) λu s1 ⟨x,H1,I1,r1,q1⟩=>?_
 obtain⟨i,rfl,q⟩:=q1;obtain⟨t,rfl⟩:=r1;exact⟨ab i,H1,I1,.int i t,q⟩
def SlR(X:Cx)(r:V->au ah->au ah->Hp->VK->Prop):Prop:=
 ∀(pins:aa (ak×bd))(s:am)(σ:St)(H:Hp)(x:V)(v vl vu:aj)(lo hi:au ah)(sl:ak)(Q:VK),Inv X pins σ H s->RelV x v->s.heap.IsSliceOf sl vl vu .none->iq vl lo->iq vu hi->r x lo hi H Q->
  ∃T id,j3 (.type T) "__getitem__"=pure (ab (.builtin id))/\s.TypeIs v T/\wpAny (av X.prog X.w) X.A (jh v (.ref sl)) (EP X pins σ Q) X.xe s
noncomputable def tSl(r:V->au ah->au ah->Hp->VK->Prop)(te:TE)(tl th:TO):TE:=λσ H Q=>te σ H λx H1=>tl σ H1 λl H2=>th σ H2 λu H3=>r x l u H3 Q
theorem S5(hr:SlR X r)(he:PE X e te)(hl:PO X lo tl)(hu:PO X hi th):PE X (.Subscript e (.Slice lo hi ai p2) pos) (tSl r te tl th):=by
 intro pins s σ H Q I h;refine wz (thn (he pins s σ H _ I h) λv s1 ⟨x,H1,I1,r1,q1⟩=>?_);refine Av (thn (hl pins s1 σ H1 _ I1 q1) λvl s2 ⟨l,H2,I2,pl,q2⟩=>thn (hu pins s2 σ H2 _ I2 q2) λvu s3 ⟨u,H3,I3,pu,q3⟩=>?_);rw[wy];refine az ?_;have I4:Inv X pins σ H3 {s3 with heap:=s3.heap.push {cls:=.type "slice",data:=.fields #[vl,vu,.none]}}:=I3.kept λb ob q=>bu _ q
 obtain⟨T,id,hT,ht,hg⟩:=hr pins {s3 with heap:=s3.heap.push {cls:=.type "slice",data:=.fields #[vl,vu,.none]}} σ H3 x v vl vu l u s3.heap.objs.size Q I4 r1 (Aw ..) pl pu q3;show wpAny (av X.prog X.w) X.A (sn e (.Slice lo hi ai p2) v (.ref s3.heap.objs.size)) (EP X pins σ Q) X.xe {s3 with heap:=s3.heap.push {cls:=.type "slice",data:=.fields #[vl,vu,.none]}};exact wE ht hT hg 0x5
noncomputable def aDc(xs:aa V)(lo hi:au ah):aa V:=(xs.drop (HT.sIx xs.length 0 lo)).take (HT.sIx xs.length xs.length hi-HT.sIx xs.length 0 lo)
theorem xV(xs:aa V)(lo hi:au ah):(aDc xs lo hi).length<=xs.length:=by
 unfold aDc;rw[nB,nK];lia
def aRt(K:bg):V->au ah->au ah->Hp->VK->Prop:=λx lo hi H Q=>∃a xs,x=.ref a/\SqT K H a xs/\
 ¬(HT.sIx xs.length 0 lo=0/\HT.sIx xs.length xs.length hi=xs.length)/\∀p,H p=ai->Q (.ref p) (upd H p (.tup (aDc xs lo hi)))
theorem aLs:SlR X (aRt X.K):=by
 intro pins s σ H x v vl vu lo hi sl Q I rx hs pl pu h;obtain⟨a,xs,rfl,hx,hw,q⟩:=h;cases rx;obtain⟨its,r,ht,hz⟩:=I.tuple hx;have hlen:its.toArray.size=xs.length:=by rw[bX];exact r.length.symm
 refine⟨"tuple",_,wu.lookup,ht.typeIs,?_⟩;refine HT.vC ht hs pl pu (by rw[hlen];exact hw) ?_ (by rw[hlen];exact hz);rw[hlen];refine⟨.ref s.heap.objs.size,_,I.laid (λb ob q=>bu _ q) (aS _) ?_,rfl,q _ (I.hok.fresh (aS _))⟩;exact⟨c9 (xV xs lo hi) hz,_,(r.drop (HT.sIx xs.length 0 lo)).take (HT.sIx xs.length xs.length hi-HT.sIx xs.length 0 lo),kJ.new _ _⟩
def aPq(K:bg):R2:=λx y H Q=>∃a b xs ys,x=.ref a/\y=.ref b/\SqT K H a xs/\SqT K H b ys/\xs≠[]/\xs.length+ys.length<=ba/\
 (ys=[]->Q (.ref a) H)/\(ys≠[]->∀p,H p=ai->Q (.ref p) (upd H p (.tup (xs++ys))))
theorem Vals.xW(r:Vals xs us):us=[]↔xs=[]:=by
 cases r with
 |nil=>simp
 |cons _ _=>simp
theorem aHm:OpR X (fq .Add) (aPq X.K):=by
 intro pins s σ H x y v u Q I rx ry h;obtain⟨a,b,xs,ys,rfl,rfl,ha,hb,hx,hz,q1,q2⟩:=h;cases rx;cases ry;obtain⟨its,r1,p1,_⟩:=I.tuple ha;obtain⟨its2,r2,p2,_⟩:=I.tuple hb;refine HT.aHj p1 p2 (λz=>hx (r1.xW.mp z)) (λz=>⟨.ref a,H,I,rfl,q1 (r2.xW.mp z)⟩) (λz=>?_) (by rw[<-r1.length,<-r2.length];exact hz);refine⟨.ref s.heap.objs.size,_,I.laid (λb ob q=>bu _ q) (aS _) ?_,rfl,q2 (λw=>z (r2.xW.mpr w)) _ (I.hok.fresh (aS _))⟩;exact⟨by rw[bj];exact hz,_,r1.append r2,kJ.new _ _⟩
end
noncomputable def ixN(n:af)(i:ah):au af:=if 0<=i then (if i<n then ab i.toNat else ai) else if -(n:ah)<=i then ab (i+n).toNat else ai
def atI{α:Type}(xs:aa α)(i:ah):au α:=(ixN xs.length i).bind λj=>xs[j]?
theorem aHn(h:ixN n i=ab j):so i n=ab j/\j<n/\-(n:ah)<=i/\i<n:=by
 unfold ixN at h;by_cases h0:0<=i
 ·rw[ao h0] at h;by_cases h1:i<n
  ·rw[ao h1] at h;have e:i.toNat=j:=c6 h;exact⟨by rw[Ax h0 h1,e],by lia,by lia,h1⟩
  ·rw[aw h1] at h;cases h
 ·rw[aw h0] at h;by_cases h1:-(n:ah)<=i
  ·rw[ao h1] at h;have e:(i+n).toNat=j:=c6 h;exact⟨by rw[seqIndex_neg 0x1 h1,e],by lia,h1,by lia⟩
  ·rw[aw h1] at h;cases h
theorem PN(h:atI xs i=ab v):∃j,so i xs.length=ab j/\xs[j]?=ab v/\j<xs.length/\-(xs.length:ah)<=i/\i<xs.length:=by
 unfold atI at h;cases e:ixN xs.length i with
 |none=>rw[e] at h;cases h
 |some j=>
  rw[e] at h;obtain⟨h1,h2,h3,h4⟩:=aHn e;exact⟨j,h1,h,h2,h3,h4⟩
def PP(b:Expr):Prop:=∀o i,ss b ag o i=wP [o,i] (jh o i)
def IxR(X:Cx)(r:R2):Prop:=
 ∀(value slice:Expr)(pins:aa (ak×bd))(s:am)(σ:St)(H:Hp)(x y:V)(v u:aj)(Q:VK),Inv X pins σ H s->RelV x v->RelV y u->r x y H Q->
  ss slice ag v u=wP [v,u] (jh v u)->wpAny (av X.prog X.w) X.A (sn value slice v u) (EP X pins σ Q) X.xe s
def MtR(X:Cx)(id:dS)(r:V->aa V->Hp->VK->Prop):Prop:=
 ∀(pins:aa (ak×bd))(s:am)(σ:St)(H:Hp)(x:V)(xs:aa V)(v:aj)(us:aa aj)(Q:VK),Inv X pins σ H s->RelV x v->Vals xs us->r x xs H Q->
  wpAny (av X.prog X.w) X.A (call (.builtin id) (v::us)) (EP X pins σ Q) X.xe s
section
variable {X:Cx} {a b:Expr} {ta tb:TE} {pos:cn}
theorem aPr(hr:IxR X r)(ha:PE X a ta)(hb:PE X b tb)(hs:PP b):PE X (.Subscript a b pos) (tOp r ta tb):=by
 intro pins s σ H Q I h;exact wz (aPf ha hb I h λv u s2 x y H2 I2 rx ry q=>hr a b pins s2 σ H2 x y v u Q I2 rx ry q (hs _ _))
def aRu(K:bg):R2:=λx y H Q=>∃p xs i v,x=.ref p/\y=.int i/\SqL K H p xs/\atI xs i=ab v/\Q v H
def aRv(K:bg):R2:=λx y H Q=>∃p xs i v,x=.ref p/\y=.int i/\SqT K H p xs/\atI xs i=ab v/\Q v H
def aRw:R2:=λx y H Q=>∃z i c,x=.str z/\y=.int i/\z.length<=ba/\atI z.cps.toList i=ab c/\Q (.str ⟨#[c]⟩) H
theorem PQ:IxR X (aRu X.K):=by
 intro value slice pins s σ H x y v u Q I rx ry h hs;obtain⟨p,xs,i,z,rfl,rfl,hq,he,q⟩:=h;cases rx;obtain⟨t,rfl⟩:=ry;obtain⟨its,r,pl,hz⟩:=I.list hq;obtain⟨j,h1,h2,h3,h4,h5⟩:=PN he;obtain⟨w,ew,rw'⟩:=r.get h2;have hl:=r.length;have hn:=BL;have fin:EP X pins σ Q w s:=⟨z,H,I,rw',q⟩
 by_cases h0:0<=i
 ·have hj:i.toNat=j:=by
   rw[Ax h0 h5] at h1;exact c6 h1
  exact item_listR pl.isList h0 0x1 (by rw[hj];simpa using ew) fin hs
 ·have hj:(i+(its.toArray.size:ah)).toNat=j:=by
   rw[seqIndex_neg 0x1 h4] at h1;rw[bX,<-hl];exact c6 h1
  exact Ay pl.isList.typeIs wS.lookup
   (wpAny_getItem_list_neg pl.isList 0x1 (by rw[bX]<;>lia) 0x1 (by rw[hj];simpa using ew) ⟨rfl,fin⟩) hs
theorem aLt:IxR X (aRv X.K):=by
 intro value slice pins s σ H x y v u Q I rx ry h hs;obtain⟨p,xs,i,z,rfl,rfl,hq,he,q⟩:=h;cases rx;obtain⟨t,rfl⟩:=ry;obtain⟨its,r,pl,hz⟩:=I.tuple hq;obtain⟨j,h1,h2,h3,h4,h5⟩:=PN he;obtain⟨w,ew,rw'⟩:=r.get h2;have hl:=r.length;have hn:=BL;have fin:EP X pins σ Q w s:=⟨z,H,I,rw',q⟩
 exact Ay pl.typeIs slot_tuple_getitem.lookup
  (getItem_tuple pl 0x1 0x1 (by rw[bX,<-hl];exact h1) (by simpa using ew) ⟨rfl,fin⟩) hs
theorem aLu:IxR X aRw:=by
 intro value slice pins s σ H x y v u Q I rx ry h hs;obtain⟨z,i,c,rfl,rfl,hz,he,q⟩:=h;obtain⟨t,rfl⟩:=rx;obtain⟨t',rfl⟩:=ry;obtain⟨j,h1,h2,h3,h4,h5⟩:=PN he;have hl:z.cps.toList.length=z.length:=by simp[Str.length]
 rw[hl] at h1 h4 h5;have hn:=BL;exact wE (wT s z t) slot_str_getitem.lookup (getItem_str (by
  have e1:decide (i < -(2 ^ 63:ah))=ag:=cK 0x1;have e2:decide (i >= 2 ^ 63)=ag:=cK 0x1;rw[e1,e2,w_]) (by rw[h1];simpa using h2) ⟨.str ⟨#[c]⟩,H,I.tok _,⟨_,rfl⟩,q⟩) hs
theorem Inv.lst{pins:aa (ak×bd)}{σ:St}{H:Hp}{s:am}{p:ak}{xs:aa V}(I:Inv X pins σ H s)(h:H p=ab (.lst xs)) :
  ∃(its:aa aj)(n:af),Vals xs its/\s.heap.get? p=ab {cls:=.type "list",data:=.seq its.toArray n}/\xs.length<=ba:=by
 obtain⟨z,its,n,r,e⟩:=I.hok p _ h;exact⟨its,n,r,e,z⟩
theorem JS(lo hi:au ah)(n:af):(ka lo hi ai n).1=((HT.sIx n 0 lo:af):ah)/\(ka lo hi ai n).2.1=((HT.sIx n n hi:af):ah)/\(ka lo hi ai n).2.2=1:=by
 refine⟨?_,?_,rfl⟩
 ·cases lo with
  |none=>simp[ka,HT.sIx]
  |some i=>
   simp only[ka,HT.sIx,Az,show(1:ah) > 0 by decide,eB];by_cases h:i<0
   ·simp only[h,eB]<;>lia
   ·simp only[h,gN]<;>lia
 ·cases hi with
  |none=>simp[ka,HT.sIx]
  |some i=>
   simp only[ka,HT.sIx,Az,show(1:ah) > 0 by decide,eB];by_cases h:i<0
   ·simp only[h,eB]<;>lia
   ·simp only[h,gN]<;>lia
theorem DX(its:aa aj)(lo hi:au ah):su its.toArray lo hi ai=((its.drop (HT.sIx its.length 0 lo)).take (HT.sIx its.length its.length hi-HT.sIx its.length 0 lo)).toArray:=by
 obtain⟨h1,h2,h3⟩:=JS lo hi its.toArray.size;unfold su;rw[h1,h2,h3];simp only[sliceRange_one,pick_run,bX]<;>rfl
def aRx(K:bg):V->au ah->au ah->Hp->VK->Prop:=λx lo hi H Q=>∃a xs,x=.ref a/\SqL K H a xs/\∀p,H p=ai->Q (.ref p) (upd H p (.lst (aDc xs lo hi)))
theorem Z5:SlR X (aRx X.K):=by
 intro pins s σ H x v vl vu lo hi sl Q I rx hs pl pu h;obtain⟨a,xs,rfl,hx,q⟩:=h;cases rx;obtain⟨its,r,ht,hz⟩:=I.list hx;have hlen:=r.length;refine⟨"list",_,wS.lookup,ht.isList.typeIs,?_⟩;refine AA ht.isList hs pl pu .none 0x2 ?_ (by rw[bX]<;>lia);rw[DX,<-hlen];refine⟨.ref s.heap.objs.size,_,I.laid (λb ob q=>bu _ q) (aS _) ?_,rfl,q _ (I.hok.fresh (aS _))⟩;exact⟨c9 (xV xs lo hi) hz,_,0,(r.drop (HT.sIx xs.length 0 lo)).take (HT.sIx xs.length xs.length hi-HT.sIx xs.length 0 lo),cx _ rfl⟩
theorem kW:lL X (.builtin "len") (λxs H Q=>∃p ys,xs=[.ref p]/\(SqL X.K H p ys\/SqT X.K H p ys)/\Q (.int ys.length) H):=by
 intro pins s σ H xs us Q I r h;obtain⟨p,ys,rfl,hq,q⟩:=h;obtain⟨u,rfl,rx⟩:=vals1 r;cases rx;have hn:=BL;rcases hq with hq|hq
 ·obtain⟨its,r',pl,hz⟩:=I.list hq;have hlen:=r'.length;exact Calls.call_len_list pl.isList (by simp only[bX]<;>lia) ⟨.int ys.length,H,I.tok _,⟨s.toks+1,by rw[bX,hlen]⟩,q⟩
 ·obtain⟨its,r',pl,hz⟩:=I.tuple hq;have hlen:=r'.length;exact len_tuple pl (by simp only[bX]<;>lia) ⟨.int ys.length,H,I.tok _,⟨s.toks+1,by rw[bX,hlen]⟩,q⟩
theorem JT:lL X (.builtin "len") (λxs H Q=>∃z,xs=[.str z]/\z.length<=ba/\Q (.int z.length) H):=by
 intro pins s σ H xs us Q I r h;obtain⟨z,rfl,hz,q⟩:=h;obtain⟨u,rfl,t,rfl⟩:=vals1 r;have hn:=BL;exact len_str 0x1 ⟨.int z.length,H,I.tok _,⟨_,rfl⟩,q⟩
theorem v7:lL X (.type "list") (λxs H Q=>∃p ys,xs=[.ref p]/\(SqL X.K H p ys\/SqT X.K H p ys)/\∀l,H l=ai->Q (.ref l) (upd H l (.lst ys))):=by
 intro pins s σ H xs us Q I r h;obtain⟨p,ys,rfl,hq,q⟩:=h;obtain⟨u,rfl,rx⟩:=vals1 r;cases rx;have fin:∀(its:aa aj),Vals ys its->ys.length<=ba->∀(h':aI)(c':af),(∀b o',s.heap.get? b=ab o'->h'.get? b=ab o')->
   h'.get? s.heap.objs.size=ab {cls:=.type "list",dict:=ai,data:=.seq its.toArray c',slots:=#[]}->EP X pins σ Q (.ref s.heap.objs.size) {s with heap:=h'}:=λits r' hz h' c' kp e=>
  ⟨.ref s.heap.objs.size,_,I.laid kp (aS _) (show jH X.prog X.w _ h' _ (.lst ys) from ⟨hz,its,c',r',e⟩),rfl,q _ (I.hok.fresh (aS _))⟩
 rcases hq with hq|hq
 ·obtain⟨its,r',pl,hz⟩:=I.list hq;have hlen:=r'.length;obtain⟨o,ho,hc,n,hd⟩:=pl.isList;exact AB p (.inl rfl) ho hc hd (λh' c' kp e=>fin its r' hz h' c' kp e) (by simp only[bX]<;>lia)
 ·obtain⟨its,r',pl,hz⟩:=I.tuple hq;have hlen:=r'.length;obtain⟨o,ho,hc,n,hd⟩:=pl;exact AB p (.inr rfl) ho hc hd (λh' c' kp e=>fin its r' hz h' c' kp e) (by simp only[bX]<;>lia)
theorem uL:lL X (.type "tuple") (λxs H Q=>∃p ys,xs=[.ref p]/\((SqL X.K H p ys/\∀l,H l=ai->Q (.ref l) (upd H l (.tup ys)))\/(SqT X.K H p ys/\Q (.ref p) H))):=by
 intro pins s σ H xs us Q I r h;obtain⟨p,ys,rfl,h⟩:=h;obtain⟨u,rfl,rx⟩:=vals1 r;cases rx;rcases h with ⟨hq,q⟩|⟨hq,q⟩
 ·obtain⟨its,r',pl,hz⟩:=I.list hq;have hlen:=r'.length;refine call_tuple_list pl.isList (λh' kp=>?_) (by simp only[bX]<;>lia);have I1:Inv X pins σ H {s with heap:=h'}:=I.kept kp;have I2:Inv X pins σ (upd H h'.objs.size (.tup ys)) {s with heap:=h'.push {cls:=.type "tuple",data:=.seq its.toArray}}:=
   I1.laid (λb o e=>bu _ e) (aS _) (show jH X.prog X.w _ _ _ (.tup ys) from ⟨hz,its,r',kJ.new _ _⟩)
  exact⟨.ref h'.objs.size,_,I2,rfl,q _ (I1.hok.fresh (aS _))⟩
 ·obtain⟨its,r',pl,hz⟩:=I.tuple hq;exact call_tuple_same pl ⟨.ref p,H,I,rfl,q⟩
def tyV(K:bg)(T:dS)(x:V)(H:Hp):Prop:=match x with
 |.str _=>T="str"
 |.int _=>T="int"
 |.ref p=>(T="list"/\∃xs,SqL K H p xs)\/(T="tuple"/\((∃o,K.lookup p=ab o/\o.cls=.type "tuple"/\o.dict=ai)\/∃xs,H p=ab (.tup xs)))\/
   (T="dict"/\((∃kvs,H p=ab (.dK kvs))\/∃kvs,H p=ab (.dT kvs)))\/(T="set"/\∃S n,H p=ab (.set S n))
 |_=>cw
theorem aFp(I:Inv X pins σ H s)(r:RelV x v)(ty:tyV X.K T x H) :
  s.TypeIs v T/\∀a,v=.ref a->∃ob,s.heap.get? a=ab ob/\ob.dict=ai:=by
 cases x with
 |str z=>
  obtain⟨t,rfl⟩:=r;cases (show T="str" from ty);exact⟨wT s z t,λ_ e=>nomatch e⟩
 |int i=>
  obtain⟨t,rfl⟩:=r;cases (show T="int" from ty);exact⟨typeIs_int s i t,λ_ e=>nomatch e⟩
 |ref p=>
  cases r;rcases ty with ⟨rfl,xs,hq⟩|⟨rfl,⟨o,hk,hc,hd⟩|⟨xs,hk⟩⟩|⟨rfl,hk⟩|⟨rfl,S,n,hk⟩
  ·obtain⟨its,_,pl,_⟩:=I.list hq;refine⟨pl.isList.typeIs,λa e=>?_⟩;cases e;obtain⟨o,n,e,c,hd,_⟩:=pl;exact⟨o,e,hd⟩
  ·refine⟨⟨o,I.kIn p o hk,hc⟩,λa e=>?_⟩;cases e;exact⟨o,I.kIn _ o hk,hd⟩
  ·obtain⟨_,its,_,pl⟩:=I.hok p _ hk;refine⟨(kJ.tup pl).typeIs,λa e=>?_⟩;cases e;exact kJ.bare pl
  ·have z:∃o,s.heap.get? p=ab o/\o.ExactDict:=by
    rcases hk with ⟨kvs,hk⟩|⟨kvs,hk⟩
    ·obtain⟨_,_,_,_,o,_,_,e,ex,_⟩:=I.hok p _ hk;exact⟨o,e,ex⟩
    ·obtain⟨_,_,_,_,o,_,_,e,ex,_⟩:=I.hok p _ hk;exact⟨o,e,ex⟩
   obtain⟨o,e,ex⟩:=z;refine⟨⟨o,e,ex.1⟩,λa e2=>?_⟩;cases e2;exact⟨o,e,ex.2.1⟩
  ·obtain⟨o,_,_,_,e,ex,_⟩:=I.hok p _ hk;refine⟨⟨o,e,ex.1⟩,λa e2=>?_⟩;cases e2;exact⟨o,e,ex.2.1⟩
 |_=>exact eW ty
noncomputable def aRy(K:bg)(T:dS)(r:V->aa V->Hp->VK->Prop)(to:TE):TE:=λσ H Q=>to σ H λx H1=>tyV K T x H1/\r x [] H1 Q
noncomputable def tBM(K:bg)(T:dS)(r:V->aa V->Hp->VK->Prop)(to:TE)(t:TA):TE:=λσ H Q=>to σ H λx H1=>tyV K T x H1/\t σ H1 λxs H2=>r x xs H2 Q
variable {o e:Expr} {es:aa Expr} {to:TE} {t:TA} {name:Str} {apos cpos:cn} {T id:dS} {r:V->aa V->Hp->VK->Prop}
theorem aLv(pa:PlainAttrs T)(slot:Slot T name id)(hty:lT (.builtin id)=pure (.type "method_descriptor"))(hm:MtR X id r)(ho:PE X o to)
 (hbase:gL o name X.env (bf o X.env)=bf o X.env:=by rfl)(hline:(apos.endLine==cpos.line)=ae:=by rfl):PE X (.Call (.Attribute o name apos) [] [] cpos) (aRy X.K T r to):=by
 intro pins s σ H Q I h;refine wpAny_Call_method0_late hbase hline (thn (ho pins s σ H _ I h) λv s1 ⟨x,H1,I1,r1,ty,q1⟩=>?_);obtain⟨h1,h2⟩:=aFp I1 r1 ty;exact⟨T,id,pa,slot,hty,h1,h2,AC rfl (PySem.evalArgs_none (hm pins s1 σ H1 x [] v [] Q I1 r1 .nil q1))⟩
theorem W4(pa:PlainAttrs T)(slot:Slot T name id)(hty:lT (.builtin id)=pure (.type "method_descriptor"))(hm:MtR X id r)(ho:PE X o to)(ha:PA X (e::es) t)
 (hbase:gL o name X.env (bf o X.env)=bf o X.env:=by rfl)
 (hfew:zFw X cpos (e::es):=by rfl)
 (hline:(apos.endLine==cpos.line)=ae:=by rfl)(hs:zSE X e es:=by rfl)(hplain:zSP X cpos es:=by rfl) :
  PE X (.Call (.Attribute o name apos) (e::es) [] cpos) (tBM X.K T r to t):=by
 intro pins s σ H Q I h;refine wpAny_Call_method_late hbase hfew hline rfl (thn (ho pins s σ H _ I h) λv s1 ⟨x,H1,I1,r1,ty,q1⟩=>?_);obtain⟨h1,h2⟩:=aFp I1 r1 ty;refine⟨T,id,pa,slot,hty,h1,h2,?_⟩;have hA:=ha cpos pins s1 σ H1 _ I1 q1;rw[hs] at hA ⊢;refine AC (by show(ag||(iA cpos (b9 es X.env)).any (·.1))=ag;rw[hplain]<;>rfl) (Calls.evalArgs_plain ?_);exact thn hA λus s2 ⟨vs,H2,I2,r2,q2⟩=>hm pins s2 σ H2 x vs v us Q I2 r1 r2 q2
end
def MtM(X:Cx)(id:dS)(r:V->aa V->Hp->VK->Prop):Prop:=
 ∀(pins:aa (ak×bd))(s:am)(σ:St)(H:Hp)(x:V)(xs:aa V)(v:aj)(us:aa aj)(Q:VK),Inv X pins σ H s->RelV x v->Vals xs us->r x xs H Q->
  wpAny (av X.prog X.w) X.A (call (.builtin id) (v::us)) (EP X pins σ Q) X.xe s
theorem Vals.one:∀{x:V}{us:aa aj},Vals [x] us->∃u,us=[u]/\RelV x u
 |_,_,.cons r .nil=>⟨_,rfl,r⟩
theorem Vals.zero:∀{us:aa aj},Vals [] us->us=[]
 |_,.nil=>rfl
theorem Vals.dropLast(h:Vals xs us):Vals xs.dropLast us.dropLast:=by
 induction h with
 |nil=>exact .nil
 |cons r t ih=>
  cases t with
  |nil=>exact .nil
  |cons q t'=>exact .cons r ih
theorem Vals.eraseIdx:∀{xs:aa V}{us:aa aj}(i:af),Vals xs us->Vals (xs.eraseIdx i) (us.eraseIdx i)
 |_,_,_,.nil=>.nil
 |_,_,0,.cons _ t=>t
 |_,_,i+1,.cons r t=>.cons r (Vals.eraseIdx i t)
theorem Vals.reverse(h:Vals xs us):Vals xs.reverse us.reverse:=by
 induction h with
 |nil=>exact .nil
 |cons r t ih=>rw[iO,iO];exact Vals.append ih (.cons r .nil)
theorem W5(l:aa α):l.eraseIdx (l.length-1)=l.dropLast:=by
 induction l with
 |nil=>rfl
 |cons a r ih=>
  cases r with
  |nil=>rfl
  |cons b r=>
   have e:(a::b::r).length-1=((b::r).length-1)+1:=by
    have h1:(a::b::r).length=r.length+2:=rfl;have h2:(b::r).length=r.length+1:=rfl;lia
   rw[e,List.eraseIdx_cons_succ,ih]
   all_goals rfl
theorem JV:∀(l:aa α)(i:af),(l.eraseIdx i).length<=l.length
 |[],_=>aS _
 |_::_,0=>gn _
 |_::r,i+1=>Nat.succ_le_succ (JV r i)
section
theorem Inv.aOx{its its':aa aj}(I:Inv X pins σ H s)(hH:H l=ab (.lst xs))
 (e:s.heap.get? l=ab {cls:=.type "list",data:=.seq its.toArray n})(hf:f its.toArray=its'.toArray)(hv:Vals ys its')(hz:ys.length<=ba) :
  Inv X pins σ (upd H l (.lst ys)) {s with heap:=s.heap.update l (dA f),toks:=t'}:=by
 have q:=CU e f;rw[hf] at q;refine I.write (by rw[hH];exact trivial) (.inl rfl) (λb' u hb hu=>(ji s.heap (dA f) (cj hb)).trans hu) ⟨_,q⟩ ?_;exact⟨hz,its',_,hv,q⟩
theorem Inv.aRz(I:Inv X pins σ H s)(hv:Vals ys its)(hz:ys.length<=ba) :
  Inv X pins σ (upd H s.heap.objs.size (.lst ys)) {s with heap:=s.heap.push {cls:=.type "list",data:=.seq its.toArray},toks:=t'}:=
 I.laid (λ_ _ q=>bu _ q) (aS _) ⟨hz,its,0,hv,cx _ rfl⟩
theorem Inv.fresh(I:Inv X pins σ H s):H s.heap.objs.size=ai:=I.hok.fresh (aS _)
theorem Inv.aLw(I:Inv X pins σ H s)(hH:H l=ab (.lst xs)):xs.length<=ba/\∃(its:aa aj)(n:af),Vals xs its/\xs.length=its.length/\s.heap.get? l=ab {cls:=.type "list",data:=.seq its.toArray n}:=by
 obtain⟨z,its,n,r,e⟩:=I.hok l _ hH;exact⟨z,its,n,r,r.length,e⟩
theorem aDd(h:n<=ba):xa n=ag:=by
 unfold xa;exact cK 0x1
end
section
variable {X:Cx}
def aHo:V->aa V->Hp->VK->Prop:=λx vs H Q=>∃l xs y,x=.ref l/\vs=[y]/\H l=ab (.lst xs)/\xs.length<ba/\Q .non (upd H l (.lst (xs++[y])))
theorem uM:MtM X "list.append" aHo:=by
 intro pins s σ H x vs v us Q I rx rv h;obtain⟨l,xs,y,rfl,rfl,hH,hz,q⟩:=h;cases rx;obtain⟨u,rfl,ru⟩:=rv.one;obtain⟨z,its,n,r,hl,e⟩:=I.aLw hH;refine jj sx ⟨_,e,rfl⟩ F.entry_list_append (F.args_list_append_2 _ _) (PySem.list_append l its.toArray n u (by rw[bX];lia)) ⟨e,?_⟩;refine⟨.non,_,I.aOx hH e 0x2 (r.append (.cons ru .nil)) ?_,rfl,q⟩;rw[bj,xb];lia
def aHp:V->aa V->Hp->VK->Prop:=λx vs H Q=>∃l b xs zs,x=.ref l/\vs=[.ref b]/\H l=ab (.lst xs)/\H b=ab (.lst zs)/\xs.length+zs.length<=ba/\Q .non (upd H l (.lst (xs++zs)))
theorem JW:MtM X "list.extend" aHp:=by
 intro pins s σ H x vs v us Q I rx rv h;obtain⟨l,b,xs,zs,rfl,rfl,hH,hB,hz,q⟩:=h;cases rx;obtain⟨u,rfl,ru⟩:=rv.one;cases ru;obtain⟨z,its,n,r,hl,e⟩:=I.aLw hH;obtain⟨z2,its2,n2,r2,hl2,e2⟩:=I.aLw hB;have hsz:its.toArray.size+its2.toArray.size<=ba:=by rw[bX,bX];lia
 have hlong:¬(!its.toArray.isEmpty&&xa (its.toArray.size+its2.toArray.size))=ae:=by
  rw[aDd hsz,AD];exact kA
 refine jj xc ⟨_,e,rfl⟩ F.entry_list_extend (F.args_list_extend_2 _ _)
  (CY l its.toArray n b its2.toArray n2 hlong (by rw[bX];lia) 0x1) ⟨e,e2,?_⟩
 refine⟨.non,_,I.aOx hH e 0x2 (r.append r2) ?_,rfl,q⟩;rw[bj];lia
def aS0:V->aa V->Hp->VK->Prop:=λx vs H Q=>∃l xs y,x=.ref l/\vs=[]/\H l=ab (.lst xs)/\xs[xs.length-1]?=ab y/\Q y (upd H l (.lst xs.dropLast))
theorem aLx:MtM X "list.pop" aS0:=by
 intro pins s σ H x vs v us Q I rx rv h;obtain⟨l,xs,y,rfl,rfl,hH,hy,q⟩:=h;cases rx;have hus:=rv.zero;subst hus;obtain⟨z,its,n,r,hl,e⟩:=I.aLw hH;obtain⟨u,hu,ru⟩:=r.get hy;have hy':its.toArray[its.toArray.size-1]?=ab u:=by
  show its.toArray[its.length-1]?=ab u;rw[<-sy,<-hl];exact hu
 refine jj sA ⟨_,e,rfl⟩ AE (F.args_list_pop_1 _) (C0 l its.toArray n u hy' (by rw[bX];lia)) ⟨e,?_⟩;refine⟨y,_,I.aOx hH e ?_ r.dropLast ?_,ru,q⟩
 ·show its.toArray.eraseIdxIfInBounds (its.toArray.size-1)=its.dropLast.toArray;rw[bX,AF,W5]
 ·rw[List.length_dropLast];lia
def aLy:V->aa V->Hp->VK->Prop:=λx vs H Q=>∃l xs i k y,x=.ref l/\vs=[.int i]/\H l=ab (.lst xs)/\-(2 ^ 63)<=i/\i<2 ^ 63/\so i xs.length=ab k/\xs[k]?=ab y/\Q y (upd H l (.lst (xs.eraseIdx k)))
theorem aDe:MtM X "list.pop" aLy:=by
 intro pins s σ H x vs v us Q I rx rv h;obtain⟨l,xs,i,k,y,rfl,rfl,hH,h1,h2,hk,hy,q⟩:=h;cases rx;obtain⟨u,rfl,ru⟩:=rv.one;obtain⟨t,rfl⟩:=ru;obtain⟨z,its,n,r,hl,e⟩:=I.aLw hH;obtain⟨w,hw,rw'⟩:=r.get hy;refine jj sA ⟨_,e,rfl⟩ AE (F.args_list_pop_2 _ _)
  (C1 l its.toArray n i t k w (fitsIndex_both h1 h2) (by rw[bX,<-hl];exact hk) (by rw[<-sy];exact hw) (by rw[bX];lia)) ⟨e,?_⟩
 refine⟨y,_,I.aOx hH e ?_ (r.eraseIdx k) ?_,rw',q⟩
 ·show its.toArray.eraseIdxIfInBounds k=(its.eraseIdx k).toArray;rw[AF]
 ·have:=JV xs k;lia
end
section
variable {κ:Type} [cq κ]
noncomputable def BV(kvs:aa (κ×V))(k:κ):au V:=(kvs.find? λkv=>decide (kv.1=k)).map (·.2)
noncomputable def putK(kvs:aa (κ×V))(k:κ)(v:V):aa (κ×V):=
 if (kvs.any λkv=>decide (kv.1=k))=ae then kvs.map (λkv=>if kv.1=k then (kv.1,v) else kv) else kvs++[(k,v)]
theorem uN{k:κ}(e:p.1=k):BV (p::r) k=ab p.2:=by simp[BV,l8,e]
theorem uO{k:κ}(e:¬p.1=k):BV (p::r) k=BV r k:=by simp[BV,l8,e]
theorem uP(k:κ):∀kvs:aa (κ×V),(kvs.any λkv=>decide (kv.1=k))=(BV kvs k).isSome
 |[]=>rfl
 |p::r=>by
  rw[ma];by_cases e:p.1=k
  ·simp only[uN e,bi e,AG,AH]
  ·rw[uO e,cK e,xf];exact uP k r
theorem tQ(kvs:aa (κ×V))(k:κ)(v:V):(putK kvs k v).length<=kvs.length+1:=by
 unfold putK;split
 ·rw[ax];lia
 ·rw[bj,bc,eL];lia
theorem aDf{k:κ}(v:V)(h:BV kvs k=ai):putK kvs k v=kvs++[(k,v)]:=by
 unfold putK;rw[uP,h];exact aw 0x4
theorem O3.nW(r:O3 o u):o.isSome=u.isSome:=by
 cases o with
 |none=>cases u with
  |none=>rfl
  |some _=>exact(show cw from r).elim
 |some _=>cases u with
  |none=>exact(show cw from r).elim
  |some _=>rfl
theorem KV.val(r:KV kvs vs)(k:κ):O3 (BV kvs k) (md vs k):=by
 unfold KV at r;induction r with
 |nil=>exact jz
 |@cons p q ps qs h t ih=>
  obtain⟨h1,h2⟩:=h;by_cases e:p.1=k
  ·have e':q.1=k:=h1.symm.trans e;have b:md (q::qs) k=ab q.2:=by simp[md,l8,e']
   rw[uN e,b];exact h2
  ·have e':¬q.1=k:=λz=>e (h1.trans z)
   have b:md (q::qs) k=md qs k:=by simp[md,l8,e']
   rw[uO e,b];exact ih
theorem KV.any(r:KV kvs vs)(k:κ):(kvs.any λkv=>decide (kv.1=k))=vs.any λkv=>decide (kv.1=k):=by
 unfold KV at r;induction r with
 |nil=>rfl
 |cons h t ih=>rw[ma,ma,ih,h.1]
theorem KV.repl(r:KV kvs vs)(k:κ)(ry:RelV y u) :
  KV (kvs.map λkv=>if kv.1=k then (kv.1,y) else kv) (vs.map λkv=>if kv.1=k then (kv.1,u) else kv):=by
 unfold KV at r ⊢;induction r with
 |nil=>exact .nil
 |@cons p q ps qs h t ih=>
  rw[bh,bh];refine .cons ?_ ih;obtain⟨h1,h2⟩:=h;by_cases e:p.1=k
  ·rw[ao e,ao (h1.symm.trans e)];exact⟨h1,ry⟩
  ·rw[aw e,aw (λz=>e (h1.trans z))];exact⟨h1,h2⟩
theorem KV.put(r:KV kvs vs)(k:κ)(ry:RelV y u):KV (putK kvs k y) (ib vs k u):=by
 unfold putK ib;rw[r.any k];by_cases e:(vs.any λkv=>decide (kv.1=k))=ae
 ·rw[ao e,ao e];exact r.repl k ry
 ·rw[aw e,aw e];exact AI r ⟨rfl,ry⟩
theorem KV.length(r:KV kvs vs):kvs.length=vs.length:=ja r
end
theorem xX(r:RelV (kV k) u):(cM P w).is k u=ae:=by
 cases k with
 |inl i=>obtain⟨t,e⟩:=(show ∃t,u=ow i t from r);subst e;exact O_ P w i t
 |inr x=>obtain⟨t,e⟩:=(show ∃t,u=mT x t from r);subst e;exact PB P w x t
theorem JX:∀{ks:aa Key}{us:aa aj},Vals (ks.map kV) us->ItemsAre (cM P w) ks us
 |[],_,r=>by rw[iP] at r;cases r;exact .nil
 |k::ks,_,r=>by
  rw[bh] at r;cases r with
  |cons h t=>exact .cons (xX h) (JX t)
abbrev KT(H:Hp):aa (aa Key×V)->aa (aa Key×ak×aj)->Prop:=kt λp q=>p.1=q.1/\H q.2.1=ab (.tup (p.1.map kV))/\RelV p.2 q.2.2
theorem KT.val(r:KT H kvs xs)(k:aa Key):O3 (BV kvs k) ((kb xs k).map (·.2)):=by
 induction r with
 |nil=>exact jz
 |@cons p q ps qs h t ih=>
  obtain⟨h1,_,h2⟩:=h;by_cases e:p.1=k
  ·have e':q.1=k:=h1.symm.trans e;have b:kb (q::qs) k=ab q.2:=by simp[kb,l8,e']
   rw[uN e,b];exact h2
  ·have e':¬q.1=k:=λz=>e (h1.trans z)
   have b:kb (q::qs) k=kb qs k:=by simp[kb,l8,e']
   rw[uO e,b];exact ih
theorem KT.repl(r:KT H kvs xs)(k:aa Key)(ry:RelV y u) :
  KT H (kvs.map λkv=>if kv.1=k then (kv.1,y) else kv) (xs.map (putAt k u)):=by
 induction r with
 |nil=>exact .nil
 |@cons p q ps qs h t ih=>
  rw[bh,bh];refine .cons ?_ ih;obtain⟨h1,h2,h3⟩:=h;unfold putAt;by_cases e:p.1=k
  ·rw[ao e,ao (h1.symm.trans e)];exact⟨h1,h2,ry⟩
  ·rw[aw e,aw (λz=>e (h1.trans z))];exact⟨h1,h2,h3⟩
theorem KT.put(r:KT H kvs xs)(k:aa Key)(hb:H b=ab (.tup (k.map kV)))(ry:RelV y u) :
  KT H (putK kvs k y) (storedH xs k b u):=by
 have e:(kvs.any λkv=>decide (kv.1=k))=(kb xs k).isSome:=by
  rw[uP,(r.val k).nW,xg]
 unfold putK storedH;rw[e];by_cases q:(kb xs k).isSome=ae
 ·rw[ao q,ao q];exact r.repl k ry
 ·rw[aw q,aw q];exact AI r ⟨rfl,hb,ry⟩
theorem KT.keeps(r:KT H kvs xs)(ht:∀b ys,H b=ab (.tup ys)->H' b=ab (.tup ys)):KT H' kvs xs:=
 Paired.aP3 r λ_ _ z=>⟨z.1,ht _ _ z.2.1,z.2.2⟩
section
variable {a:ak}
theorem aLz(ok:HOk P w H h)(e:Rd H a u):jH P w H h a u:=e.ok ok
theorem Z6(ok:HOk P w H h)(e:Rd H a (.dK kvs)):kvs.length<=ba/\(a==gj)=ag/\∃vs,KV kvs vs/\h.DictOf (cM P w) a vs:=
 show jH P w H h a (.dK kvs) from aLz ok e
theorem JZ(ok:HOk P w H h)(e:H a=ab (.dK kvs)):kvs.length<=ba/\(a==gj)=ag/\∃vs,KV kvs vs/\h.DictOf (cM P w) a vs:=Z6 ok (.inl e)
theorem J0(ok:HOk P w H h)(e:H a=ab (.tup (ks.map kV))):(lr (cM P w)).is h ks a:=by
 obtain⟨_,its,r,o,h1,h2,n,h3⟩:=(show jH P w H h a (.tup (ks.map kV)) from ok a _ e)
 exact⟨o,its.toArray,n,h1,h2,cz (·.1) h3,by simpa using JX r⟩
theorem Z7(ok:HOk P w H h)(e:Rd H a (.dT kvs)):kvs.length<=ba/\(a==gj)=ag/\
  ∃xs,KT H kvs xs/\h.DictOfH (lr (cM P w)) a xs:=by
 obtain⟨z,y,xs,r,o,es,ep,h1,h2,h3,h4,h5⟩:=(show jH P w H h a (.dT kvs) from aLz ok e)
 refine⟨z,y,xs,r,o,es,ep,h1,h2,h3,h4,λx hx=>?_,h5⟩;have all:∀{l:aa (aa Key×V)}{m:aa (aa Key×ak×aj)},KT H l m->∀x∈m,(lr (cM P w)).is h x.1 x.2.1:=by
  intro l m q;induction q with
  |nil=>intro x hx;exact nomatch hx
  |@cons p q ps qs hq t ih=>
   intro x hx;rcases bq.mp hx with e|hx
   ·subst e;exact J0 ok (by rw[<-hq.1];exact hq.2.1)
   ·exact ih x hx
 exact all r x hx
theorem aDg(ok:HOk P w H h)(e:H a=ab (.dT kvs)):kvs.length<=ba/\(a==gj)=ag/\
  ∃xs,KT H kvs xs/\h.DictOfH (lr (cM P w)) a xs:=Z7 ok (.inl e)
end
def Z8(H:Hp)(a:ak)(y:V)(r:au V):Prop:=
 (∃kvs k,Rd H a (.dK kvs)/\y=kV k/\r=BV kvs k)\/∃kvs k b,Rd H a (.dT kvs)/\y=.ref b/\H b=ab (.tup (k.map kV))/\r=BV kvs k
def aFq(H:Hp)(a:ak)(y v:V)(H':Hp):Prop:=
 (∃kvs k,H a=ab (.dK kvs)/\y=kV k/\kvs.length<ba/\H'=upd H a (.dK (putK kvs k v)))\/
 ∃kvs k b,H a=ab (.dT kvs)/\y=.ref b/\H b=ab (.tup (k.map kV))/\kvs.length<ba/\H'=upd H a (.dT (putK kvs k v))
theorem Z8.k{k:Key}(e:H a=ab (.dK kvs)):Z8 H a (kV k) (BV kvs k):=.inl ⟨kvs,k,.inl e,rfl,rfl⟩
theorem Z8.t{k:aa Key}(e:H a=ab (.dT kvs))(eb:H b=ab (.tup (k.map kV))):Z8 H a (.ref b) (BV kvs k):=.inr ⟨kvs,k,b,.inl e,rfl,eb,rfl⟩
theorem aFq.k{k:Key}{v:V}(e:H a=ab (.dK kvs))(hl:kvs.length<ba):aFq H a (kV k) v (upd H a (.dK (putK kvs k v))):=.inl ⟨kvs,k,e,rfl,hl,rfl⟩
theorem aFq.t{H:Hp}{a b:ak}{kvs:aa (aa Key×V)}{k:aa Key}{v:V}(e:H a=ab (.dT kvs))(eb:H b=ab (.tup (k.map kV)))(hl:kvs.length<ba) :
  aFq H a (.ref b) v (upd H a (.dT (putK kvs k v))):=.inr ⟨kvs,k,b,e,rfl,eb,hl,rfl⟩
section
variable {a:ak} {y v:V}
theorem Inv.big(I:Inv X pins σ H s):gj<s.heap.objs.size:=by
 have h:cg<s.heap.objs.size:=(I.mod.glob.keeps I.bk).lt;exact Nat.lt_trans 0x4 h
theorem Z9(hu:A.units+1<b6)(I:Inv X pins σ H s)(g:Z8 H a y (ab v))(ry:RelV y u)(h:∀w' s',Inv X pins σ H s'->RelV v w'->Q w' s') :
  wpAny (av X.prog X.w) A (jh (.ref a) u) Q E s:=by
 rcases g with ⟨kvs,k,e,ey,l⟩|⟨kvs,k,b,e,ey,eb,l⟩
 ·subst ey;obtain⟨z,hd,vs,rel,dd⟩:=Z6 I.hok e;obtain⟨w',hw,rw'⟩:=O3.some_of (by rw[l];exact rel.val k);exact wpAny_getItem_of (xX ry) dd.mapOf hw (h w' _ (I.tok _) rw')
 ·subst ey;cases (show u=eJ b from ry);obtain⟨z,hd,xs,rel,dd⟩:=Z7 I.hok e;obtain⟨w',hw,rw'⟩:=O3.some_of (by rw[l];exact rel.val k);obtain⟨p,hp,hp2⟩:=jk.mp hw;refine wpAny_getItem_heap (sB hu) (J0 I.hok eb) dd hp ?_;rw[hp2];exact h w' _ (I.tok _) rw'
theorem aS1(hu:A.units+1<b6)(I:Inv X pins σ H s)(g:Z8 H a y o)(ry:RelV y u)(h:∀s',Inv X pins σ H s'->Q (.bool o.isSome) s') :
  wpAny (av X.prog X.w) A (dg .In u (.ref a)) Q E s:=by
 rcases g with ⟨kvs,k,e,ey,l⟩|⟨kvs,k,b,e,ey,eb,l⟩
 ·subst ey;obtain⟨z,hd,vs,rel,dd⟩:=Z6 I.hok e;refine wpAny_in_of (xX ry) hd dd.mapOf ?_;rw[<-(rel.val k).nW,<-l];exact h _ (I.tok _)
 ·subst ey;cases (show u=eJ b from ry);obtain⟨z,hd,xs,rel,dd⟩:=Z7 I.hok e;refine wpAny_in_heap (sB hu) (J0 I.hok eb) hd dd ?_;have q:=(rel.val k).nW;rw[xg] at q;rw[<-q,<-l];exact h _ (I.tok _)
theorem aHq(hu:A.units+1<b6)(I:Inv X pins σ H s)(g:Z8 H a y o)(ry:RelV y u)(h:∀s',Inv X pins σ H s'->Q (.bool (!o.isSome)) s') :
  wpAny (av X.prog X.w) A (dg .NotIn u (.ref a)) Q E s:=by
 rcases g with ⟨kvs,k,e,ey,l⟩|⟨kvs,k,b,e,ey,eb,l⟩
 ·subst ey;obtain⟨z,hd,vs,rel,dd⟩:=Z6 I.hok e;refine wpAny_notIn_of (xX ry) hd dd.mapOf ?_;rw[<-(rel.val k).nW,<-l];exact h _ (I.tok _)
 ·subst ey;cases (show u=eJ b from ry);obtain⟨z,hd,xs,rel,dd⟩:=Z7 I.hok e;refine wpAny_notIn_heap (sB hu) (J0 I.hok eb) hd dd ?_;have q:=(rel.val k).nW;rw[xg] at q;rw[<-q,<-l];exact h _ (I.tok _)
theorem PX(I:Inv X pins σ H s)(mu:Mut (H a))(hs:gl a s.heap h')(he:∃q,h'.get? a=ab q)(new:jH X.prog X.w (upd H a ob) h' a ob) :
  Inv X pins σ (upd H a ob) {s with heap:=h',toks:=t'}:=
 I.write mu (.inl rfl) (λb q hb z=>(hs.2 b hb).trans z) he new
theorem BW(z:kvs.length<=ba)(hd:(a==gj)=ag)(rel:KV kvs vs)(dd:h'.DictOf (cM P w) a vs) :
  jH P w H' h' a (.dK kvs):=⟨z,hd,vs,rel,dd⟩
theorem Z_(hu:A.units+1<b6)(I:Inv X pins σ H s)(g:aFq H a y v H')(ry:RelV y u)(rv:RelV v r)(h:∀s',Inv X pins σ H' s'->Q () s') :
  wpAny (av X.prog X.w) A (setItem (.ref a) u r) Q E s:=by
 rcases g with ⟨kvs,k,e,ey,l,eH⟩|⟨kvs,k,b,e,ey,eb,l,eH⟩
 ·subst ey eH;obtain⟨z,hd,vs,rel,dd⟩:=JZ I.hok e;have hz:vs.length<=ba:=by rw[<-rel.length];exact z
  have hl:(putK kvs k v).length<=ba:=by have:=tQ kvs k v;lia
  refine wpAny_setItem_pairs (xX ry) dd λh' dd' hs=>h _ ?_
  have he:∃q,h'.get? a=ab q:=let ⟨q,_,_,hq,_⟩:=dd';⟨q,hq⟩
  exact PX I (by rw[e];exact jz) hs he (BW hl hd (rel.put k rv) dd')
 ·subst ey eH;cases (show u=eJ b from ry);obtain⟨z,hd,xs,rel,dd⟩:=aDg I.hok e;have hz:xs.length<=ba:=by rw[<-ja rel];exact z
  have hl:(putK kvs k v).length<=ba:=by have:=tQ kvs k v;lia
  refine wpAny_setItem_heap (sB hu) (J0 I.hok eb) dd λh' dd' hs=>h _ ?_
  obtain⟨q,es,ep,hq,h2,h3,h4,_,h5⟩:=dd';refine PX I (by rw[e];exact jz) hs ⟨q,hq⟩ ⟨hl,hd,_,(rel.put k eb rv).keeps λc ys ec=>?_,q,es,ep,hq,h2,h3,h4,h5⟩;rw[bG (DQ ec e (λz=>nomatch z))];exact ec
end
theorem P0(I:Inv X pins σ H s)(g:Z8 H a y o):s.TypeIs (.ref a) "dict":=by
 rcases g with ⟨kvs,k,e,_,_⟩|⟨kvs,k,b,e,_,_,_⟩
 ·obtain⟨_,_,vs,_,dd⟩:=Z6 I.hok e;exact dd.typeIs
 ·obtain⟨_,_,xs,_,dd⟩:=Z7 I.hok e;exact dd.typeIs
theorem S6(h:aI)(hb:gj<h.objs.size):jH P w H (h.push {cls:=.type "dict",data:=.dict #[]}) h.objs.size (.dK []):=
 ⟨cy _,fF.mpr (cj (ck hb)),[],.nil,sC h⟩
def aM0:TE:=λ_ H Q=>∀p,H p=ai->Q (.ref p) (upd H p (.dK []))
section
theorem aDh:PE X (.Dict [] [] pos) aM0:=λpins s σ H Q I h=>
 wpAny_Dict_empty ⟨.ref s.heap.objs.size,_,I.laid (λ_ _ q=>bu _ q) (aS _) (S6 s.heap I.big),rfl,h _ (I.hok.fresh (aS _))⟩
end
def aA0:aa (TE×TE)->St->Hp->(aa (V×V)->Hp->Prop)->Prop
 |[],_,H,Q=>Q [] H
 | (tk,tv)::r,σ,H,Q=>tk σ H λx H1=>tv σ H1 λy H2=>aA0 r σ H2 λps H3=>Q ((x,y)::ps) H3
abbrev VV:aa (V×V)->aa (aj×aj)->Prop:=kt λp q=>RelV p.1 q.1/\RelV p.2 q.2
def PPs(X:Cx)(pos:cn)(keys:aa (au Expr))(values:aa Expr)(trs:aa (TE×TE)):Prop:=
 ∀(pins:aa (ak×bd))(s:am)(σ:St)(H:Hp)(Q:aa (V×V)->Hp->Prop),Inv X pins σ H s->aA0 trs σ H Q->
  wpAny (av X.prog X.w) X.A (evalPairs (pairTrees keys values X.env pos)) (λvs s'=>∃ps H',Inv X pins σ H' s'/\VV ps vs/\Q ps H') X.xe s
theorem aHr:PPs X pos [] [] []:=λpins s σ H Q I h=>pairTrees_nil_walk ⟨[],H,I,.nil,h⟩
theorem S7(hk:PE X k tk)(hv:PE X v tv)(hr:PPs X pos ks vs trs) :
  PPs X pos (ab k::ks) (v::vs) ((tk,tv)::trs):=λpins s σ H Q I h=>
 pairTrees_cons_walk (thn (hk pins s σ H _ I h) λu s1 ⟨x,H1,I1,rx,q1⟩=>thn (hv pins s1 σ H1 _ I1 q1) λw2 s2 ⟨y,H2,I2,ry,q2⟩=>
  thn (hr pins s2 σ H2 _ I2 q2) λws s3 ⟨ps,H3,I3,rel,q3⟩=>⟨(x,y)::ps,H3,I3,.cons ⟨rx,ry⟩ rel,q3⟩)
def cY(kvs more:aa (Key×V)):aa (Key×V):=more.foldl (λacc kv=>putK acc kv.1 kv.2) kvs
theorem KV.merge:∀{more:aa (Key×V)}{rs:aa (Key×aj)}{kvs:aa (Key×V)}{vs:aa (Key×aj)},KV more rs->KV kvs vs->KV (cY kvs more) (iu vs rs):=by
 intro more rs kvs vs r;unfold KV at r;induction r generalizing kvs vs with
 |nil=>intro q;exact q
 |@cons p q ps qs h t ih=>
  intro r0;have e:KV (putK kvs p.1 p.2) (ib vs q.1 q.2):=by
   have:=r0.put p.1 h.2;rw[<-h.1];exact this
  exact ih e
theorem fM:∀(more kvs:aa (Key×V)),(cY kvs more).length<=kvs.length+more.length
 |[],kvs=>by show kvs.length<=kvs.length+0;lia
 |p::r,kvs=>by
  have h1:=fM r (putK kvs p.1 p.2);have h2:=tQ kvs p.1 p.2;show(cY (putK kvs p.1 p.2) r).length<=_;rw[bc];lia
theorem BX:∀{kvs:aa (Key×V)}{ws:aa (aj×aj)},VV (kvs.map λkv=>(kV kv.1,kv.2)) ws->∃rs,Carries (cM P w) ws rs/\KV kvs rs
 |[],_,r=>by rw[iP] at r;cases r;exact⟨[],jz,.nil⟩
 |p::kvs,_,r=>by
  rw[bh] at r;cases r with
  |@cons a b as bs h t=>
   obtain⟨rs,c,q⟩:=BX t;obtain⟨b1,b2⟩:=b;exact⟨(p.1,b2)::rs,⟨xX h.1,rfl,c⟩,.cons ⟨rfl,h.2⟩ q⟩
def aPs(trs:aa (TE×TE)):TE:=λσ H Q=>∀p,H p=ai->aA0 trs σ (upd H p (.dK [])) λps H2=>H2 p=ab (.dK [])/\∃kvs:aa (Key×V),ps=kvs.map (λkv=>(kV kv.1,kv.2))/\kvs.length<=15/\Q (.ref p) (upd H2 p (.dK (cY [] kvs)))
theorem aHs(h:PPs X pos keys values trs)(hall:keys.all (·.isSome)=ae)(hl:keys.length=values.length)(h0:keys≠[])
 (h15:keys.length<=15):PE X (.Dict keys values pos) (aPs trs):=by
 intro pins s σ H Q I q;have hn:=I.hok.fresh (aS s.heap.objs.size);have I1:=I.laid (t':=s.toks) (λ_ _ q=>bu _ q) (aS _) (S6 s.heap I.big);refine wpAny_Dict_walk (knd:=cM X.prog X.w) hall hl h0 h15 (thn (h pins _ σ _ _ I1 (q _ hn)) λws s2 ⟨ps,H2,I2,rel,e,kvs,ep,lk,q2⟩=>?_);subst ep;obtain⟨rs,c,rk⟩:=BX (P:=X.prog) (w:=X.w) rel;obtain⟨z,hd,vs0,r0,dd⟩:=JZ I2.hok e;cases r0;refine⟨rs,c,dd,λh' dd' hs=>⟨.ref s.heap.objs.size,_,?_,rfl,q2⟩⟩;have hz:(cY [] kvs).length<=ba:=by
  have h1:=fM kvs [];rw[eL] at h1;rw[c8];lia
 have he:∃q,h'.get? s.heap.objs.size=ab q:=let ⟨q,_,_,hq,_⟩:=dd';⟨q,hq⟩
 exact PX I2 (by rw[e];exact jz) hs he (BW hz hd (rk.merge .nil) dd')
end L2
namespace Att
open PySem PySem.W PySem.Calls PyProof.Rows
theorem xY:∀(ns:aa ah)(vs:aa aj),WellAll P h vs (ns.map AJ)->nN vs ns:=by
 intro ns;induction ns with
 |nil=>
  intro vs w;rw[iP] at w;cases w;exact .nil
 |cons n ns ih=>
  intro vs w;rw[bh] at w;cases w with
  |cons a b=>
   cases a;exact .cons _ _ (ih _ b)
theorem aA1{l:OpenLaw}(hn:l.most=ab n)
 (hpre:l.row.toRowW.claim.pre args=ae)(hwl:WellAll P h vals args) :
  ∃a vs ns,vals=[eJ a]/\args=[WData.list (ns.map AJ)]/\h.get? a=ab {cls:=.type "list",data:=.seq vs.toArray}/\nN vs ns/\ns.length<=n:=by
 have hsh:WShape.hasAll [] args [.list .int]=ae:=(pre_splitW hpre).1;have hc:l.pre.holds [] {args:=args}=ae:=(pre_splitW hpre).2;obtain⟨d,r,rfl,h1,h2⟩:=hasAllW_cons hsh;obtain rfl:=hasAllW_nil h2;obtain⟨xs,rfl,h3⟩:=hasW_list h1;obtain⟨ns,rfl⟩:=items_int h3;have hlen:ns.length<=n:=by
  unfold OpenLaw.pre at hc;have h4:(WTm.not (.lt (.lit (.int (n:ah))) (.len (.arg 0)))).holds [] {args:=[.list (ns.map .int)]}=ae:=by
   have h4:=(holds_andW hc).1;rw[hn] at h4;exact h4
  have h5:=condW_of h4 (w_not (w_lt w_lit (w_len_list (w_arg rfl))));rw[ax] at h5;refine AK λq=>?_
  have q':(n:ah)<((ns.length:af):ah):=by lia
  first
   | (rw[bi q'] at h5;exact aE h5 0x4)
   | (simp at h5;lia)
 cases hwl with
 |cons w1 w2=>
  cases w2;cases w1 with
  |list ho hall=>exact⟨_,_,ns,rfl,rfl,ho,xY ns _ hall,hlen⟩
theorem aA2(l:OpenLaw)(args:aa WData):l.row.toRowW.claim.post args (.bool ae) args=ae:=
 postW_of
  (show AL [] (.bool ae) .bool=ae by first|rfl|decide|simp[AL,WShape.arms,WShape.armsAll])
  (show(WTm.eq .res (.lit (.bool ae))).value [] {args:=args,res:=ab (.bool ae),after:=args}=ab (.bool (ae==ae)) from w_eq_bool (w_res rfl) w_lit) rfl
theorem P_{l:OpenLaw}
 (hn:l.most=ab n)(hdf:d.params.defaults=[])
 (call:∀(w:bm) (s₀ s₁:am) (mg mb:Str->au aj) (fa:ak) (o:bd) (pm cd doc:aj) (a:ak) (vs:aa aj) (ns:aa ah),
   Ground q loose [] XP w s₀ mg mb s₁.heap->YP w s₁.heap->
   s₁.heap.get? fa=ab o->o.data=.func (docDef d.name d.params d.body d.scope pm cd doc)->s₁.heap.CodeRec cd d.name->mg d.name=ab (.ref fa)->
   s₁.heap.get? a=ab {cls:=.type "list",data:=.seq vs.toArray}->nN vs ns->ns.length<=n->s₁.gens=#[]->
   codeAny (av l.prog w) kP (.call (.ref fa) ⟨[.ref a],[]⟩) (λr s'=>r=.ok (.ret (.bool ae))/\OldK s₁.heap s'.heap/\s'.os=s₁.os/\jw s'.gens) s₁) :
  WalkO q loose XP YP l.row.toRowW d [] (λf vs=>xh f vs):=by
 intro w s₀ s₁ mg mb G Y fa o pm cd doc dV kV ho hd hcd hD hmg hg args vals as hpre hlay hrd hwl hlo;obtain rfl:dV=.none:=Dflts.none hD hdf;obtain rfl:kV=.none:=Dflts.noKw hD;obtain⟨a,vs,ns,rfl,rfl,hobj,hints,hlen⟩:=aA1 hn hpre hwl;refine enter_call (kL (call w s₀ s₁ mg mb fa o pm cd doc a vs ns G Y ho (fd_plain hd) hcd hmg hobj hints hlen hg) λr s' hq=>?_);obtain⟨rfl,h2,h3,h4⟩:=hq;exact⟨.inl ⟨.bool ae,.bool ae,[],rfl,λ_=>rfl,.bool ae,aA2 l _,λ_=>⟨C3,λ_ hm=>(nomatch hm)⟩⟩,h2,h3,h4⟩
end Att
namespace L2
open PySem PySem.Spec PyProof.Rows
theorem J1:∀{vs:aa aj}{ns:aa ah},nN vs ns->Vals (ns.map V.int) vs
 |_,_,.nil=>.nil
 |_,_,.cons n t h=>.cons ⟨t,rfl⟩ (J1 h)
def Only(H:Hp):Prop:=∀b,H b=ai\/∃o xs,H b=ab (.frz o (.lst xs))
theorem aDi{K:bg}{mg mb:Str->au aj}{CX:CXT}{k:af}{fa a:ak}{fd:eu}{x:Str}{sp:Sp}{s₁:am}{vs:aa aj}{ns:aa ah}
 (KX:K.In s₁.heap)(hns:s₁.heap.Ns cg mg)(hb:s₁.heap.Ns vc mb)(hbb:∀x:Str,x ≠ "__name__"->mb x=dz x)(hlim:s₁.heap.NoLimit)(hg:s₁.gens=#[])
 (ha:s₁.heap.get? a=ab {cls:=.type "list",data:=.seq vs.toArray})(hi:nN vs ns)(hl:ns.length<=ba)(hr:nU k kP)
 (F:∀base:aI,K.In base->base.Ns cg mg->v6 P w K mg base CX k fa fd [x] sp)(hbind:∀(s:am) (u:aj),kK s fd ⟨[u],[]⟩ [(x,u)])
 (hsp:∀H:Hp,Only H->SqL K H a (ns.map V.int)->sp [.ref a] H (λv _=>v=.bl ae) λ_ _ _=>cw)
 (hCX:∀H e s',CX [] H s₁ (λ_ _ _=>cw) e s'->cw) :
  codeAny (av P w) kP (.call (.ref fa) ⟨[.ref a],[]⟩) (λr s'=>r=.ok (.ret (.bool ae))/\OldK s₁.heap s'.heap/\s'.os=s₁.os/\jw s'.gens) s₁:=by
 have rv:=J1 hi;have lenV:=hi.length
 -- from an abstract heap in which nothing but the script may be tracked
 have core:∀H:Hp,Only H->SqL K H a (ns.map V.int)->HOk P w H s₁.heap->(∀b,H b≠ai->b=a)->(H a≠ai->K.lookup a=ai)->
   codeAny (av P w) kP (.call (.ref fa) ⟨[.ref a],[]⟩) (λr s'=>r=.ok (.ret (.bool ae))/\OldK s₁.heap s'.heap/\s'.os=s₁.os/\jw s'.gens) s₁:=by
  intro H hO hS hok hA hK;have base_of:∀{b:ak}{o:bd},s₁.heap.get? b=ab o->H b=ai->(aD3 s₁.heap H).get? b=ab o:=λe n=>aD4 e n
  have noA:∀{b:ak}{o:bd}{es:ay nS}{ep:af},s₁.heap.get? b=ab o->o.data=.dict es ep->H b=ai:=λ{b o es ep} e d=>by
   cases q:H b with
   |none=>rfl
   |some u=>
    have e':b=a:=hA b (by rw[q];simp);subst e';rw[ha] at e;cases e;have d':zw vs.toArray _=Data.dict es ep:=d;cases d'
  have nsK:∀{b:ak}{m:Str->au aj},s₁.heap.Ns b m->(aD3 s₁.heap H).Ns b m:=λ{b m} ⟨o,es,ep,e,d,r⟩=>⟨o,es,ep,base_of e (noA e d),d,r⟩
  have hKb:K.In (aD3 s₁.heap H):=λb o e=>base_of (KX b o e) (by
   cases q:H b with
   |none=>rfl
   |some u=>
    have e':b=a:=hA b (by rw[q];simp);subst e';rw[hK (by rw[q];simp)] at e;cases e)
  have hM:Mod K mg (aD3 s₁.heap H):=⟨hKb,nsK hns,⟨mb,nsK hb,hbb⟩,let ⟨mc,h1,h2⟩:=hlim;⟨mc,nsK h1,h2⟩⟩
  have e0:aHg P w K mg (aD3 s₁.heap H) kP [] s₁ H:=⟨rfl,hM,λb o e=>aH6 e,vx (Y8 _ _),trivial,λb hb=>aE (show b∈([]:aa ak) from hb) 0x2,hok,.of_eq hg⟩
  refine kL ((F _ hKb (nsK hns)).run kP [] s₁ H ⟨[.ref a],[]⟩ [.ref a] [.ref a] _ _ hr e0 (hbind s₁ (.ref a)) (.cons rfl .nil) (hsp H hO hS)) λr s' h=>?_
  cases r with
  |error e=>exact(hCX H e s' h).elim
  |ok fl=>
   cases fl with
   |next=>exact eW h
   |brk=>exact eW h
   |cont=>exact eW h
   |ret u=>
    obtain⟨v,H',os,bare,un,hok',r',q⟩:=h;have q':v=.bl ae:=q;subst q';obtain rfl:u=oy ae:=r';refine⟨rfl,OldK.of_keep λb o e=>?_,os,bare⟩;cases q:H b with
    |none=>exact un.keep b o e q (by intro z;exact aE (show b∈([]:aa ak) from z) 0x2) 0x2
    |some u=>
     rcases hO b with z|⟨ob,xs,z⟩
     ·rw[q] at z;cases z
     ·have z2:=un.frzs b ob _ z;obtain⟨e1,_⟩:=hok b _ z;obtain⟨e2,_⟩:=hok' b _ z2;rw[e] at e1;cases e1;exact e2
 cases hk:K.lookup a with
 |some o=>
  -- the script is one of the module's own objects
  have e:=KX a o hk;rw[ha] at e;cases e;refine core (λ_=>ai) (λ_=>.inl rfl) (.inr ⟨_,vs.toArray,_,hk,rfl,rfl,rfl,by rw[bX,lenV];exact hl,by simpa using rv⟩) (λb u z=>by have z':(ai:au HO)=ab u:=z;cases z') (λb z=>aE rfl z) λz=>aE rfl z
 |none=>
  refine core (λb=>if b=a then ab (.frz {cls:=.type "list",data:=.seq vs.toArray} (.lst (ns.map V.int))) else ai) (λb=>?_) (.inl (.inr ⟨{cls:=.type "list",data:=.seq vs.toArray},ao rfl⟩)) (λb u z=>?_) (λb z=>?_) λ_=>hk
  ·by_cases hb:b=a
   ·exact .inr ⟨_,_,ao hb⟩
   ·exact .inl (aw hb)
  ·by_cases hb:b=a
   ·have z':=(ao hb).symm.trans z;cases z';subst hb;exact⟨ha,by rw[ax];exact hl,vs,_,rv,ha⟩
   ·have z':=(aw hb).symm.trans z;cases z'
  ·by_cases hb:b=a
   ·exact hb
   ·exact aE (aw hb) z
theorem aHt{l:PySem.W.OpenLaw}{YP:bm->aI->Prop}{d:DefRec}{K:Params->bg}{CX:bm->CXT}{sp:bm->Sp}{x:Str}
 (hn:l.most=ab n)(hn2:n<=ba)(hdf:d.params.defaults=[])(hr:nU k kP)
 (hY:∀(w:bm) (h:aI),YP w h->(K w.params).In h)
 (F:∀(w:bm) (mg:Str->au aj) (fa:ak) (h:aI),(K w.params).In h->h.Ns cg mg->mg d.name=ab (.ref fa)->
   ∃fd:eu,(∀(s:am) (u:aj),kK s fd ⟨[u],[]⟩ [(x,u)])/\
    ∀base:aI,(K w.params).In base->base.Ns cg mg->v6 l.prog w (K w.params) mg base (CX w) k fa fd [x] (sp w))
 (hsp:∀(w:bm) (H:Hp) (a:ak) (ns:aa ah),ns.length<=n->Only H->SqL (K w.params) H a (ns.map V.int)->sp w [.ref a] H (λv _=>v=.bl ae) λ_ _ _=>cw)
 (hCX:∀(w:bm) (H:Hp) (s:am) (e:aj) (s':am),CX w [] H s (λ_ _ _=>cw) e s'->cw) :
  PySem.W.WalkO q loose XP YP l.row.toRowW d [] (λf vs=>xh f vs):=by
 refine Att.P_ hn hdf λw s₀ s₁ mg mb fa o pm cd doc a vs ns G Y ho hd hcd hmg hobj hints hlen hg=>?_
 have KX:=hY w _ Y;obtain⟨fd,hb,hF⟩:=F w mg fa _ KX G.T.g hmg;exact aDi KX G.T.g G.T.b G.T.builtins G.T.nolimit hg hobj hints (c9 hlen hn2) hr hF hb (λH hO hS=>hsp w H a ns hlen hO hS) λH e s'=>hCX w H s₁ e s'
noncomputable def iG(s:br):Arguments:=match s with
 |.FunctionDef _ a _ _ _ _ _ _ _ _=>a
 |_=>{posonlyargs:=[],args:=[],vararg:=ai,kwonlyargs:=[],kw_defaults:=[],kwarg:=ai,defaults:=[]}
noncomputable def eX(s:br):aa br:=match s with
 |.FunctionDef _ _ b _ _ _ _ _ _ _=>b
 |_=>[]
noncomputable def aN(s:br):fR:=match s with
 |.FunctionDef _ _ _ _ _ _ sc _ _ _=>sc
 |_=>{kind:=.function,names:=[],isGenerator:=ag,isCoroutine:=ag}
noncomputable abbrev CX0:CXT:=λ_ _ _ _ _ _=>cw
noncomputable abbrev E0:XK:=λ_ _ _=>cw
theorem aDj:BP CX0 X E0:=λ_ _ _ _ _ _ _ h=>h.elim
structure Fun(K:bg)(x qual:Str)(st:br)(f:ak)(fd:eu):Prop where
 ex:∃(oc:aj)(od:au ak)(kV doc pm:aj)(an:au ak)(cdv ct:aj)(osl:ay (au aj)),
  fd=kM x qual (iG st) (eX st) (aN st) .none kV doc pm an cdv ct/\K.lookup f=ab ⟨oc,od,.func fd,osl⟩/\sg K cdv qual=ae
 kp:jd K (.ref f)=ae
section
variable {P:bS} {w:bm} {K:bg} {mg:Str->au aj} {base:aI}
theorem Fun.ok{st:br}{fd:eu}{N ps:aa Str}{k:af}{sp:Sp}(F:Fun K x qual st f fd)(S:cC N ps (aN st))(len:∀vs H Q E,sp vs H Q E->vs.length=ps.length)
 (hbody:∀(cdv:aj) (A:b5) (outer:aa di) (s:am) (H:Hp) (vs:aa V) (Q:VK) (E:XK),nU k (A.deeper (gp qual (aN st) s.heap.objs.size f cdv))->sp vs H Q E->
   ∃t,PSs (Z0 CX0 P w K mg base N qual (aN st) f cdv A outer s H E).nox (eX st) t/\t {nx:=λ_ H'=>Q .non H',rt:=Q} (start N vs) H):v6 P w K mg base CX0 (k+1) f fd ps sp:=by
 obtain⟨oc,od,kV,doc,pm,an,cdv,ct,osl,rfl,lk,hcd⟩:=F.ex;refine aLq lk hcd S len λA outer s H vs Q E hr hsp=>?_
 obtain⟨t,h,q⟩:=hbody cdv A outer s H vs Q E hr hsp;exact⟨t,h.nox,q⟩
theorem Fun.binds{st:br}(F:Fun K x qual st f fd)
 (h:∀(kV doc pm:aj) (an:au ak) (cdv ct:aj) (us:aa aj),us.length=ps.length->bindArgs (kM x qual (iG st) (eX st) (aN st) .none kV doc pm an cdv ct) ⟨us,[]⟩=pure (ps.zip us)):Binds K fd ps []:=by
 obtain⟨oc,od,kV,doc,pm,an,cdv,ct,osl,rfl,lk,hcd⟩:=F.ex;exact .all (h kV doc pm an cdv ct)
theorem tG{st:br}{oc:aj}{od an:au ak}{osl:ay (au aj)}{kV doc pm cdv ct:aj}(l:K.lookup f=ab ⟨oc,od,.func (kM x qual (iG st) (eX st) (aN st) .none kV doc pm an cdv ct),osl⟩)
 (c:sg K cdv qual=ae)(k:jd K (.ref f)=ae):Fun K x qual st f (kM x qual (iG st) (eX st) (aN st) .none kV doc pm an cdv ct):=⟨⟨oc,od,kV,doc,pm,an,cdv,ct,osl,rfl,l,c⟩,k⟩
end
def cH(H H':Hp):Prop:=∀b o,H b=ab o->H' b=ab o
theorem cH.refl(H:Hp):cH H H:=λ_ _ h=>h
theorem cH.trans(a:cH H H1)(b:cH H1 H2):cH H H2:=λc o h=>b c o (a c o h)
theorem cH.free(e:cH H H')(h:H' l=ai):H l=ai:=by
 cases q:H l with
 |none=>rfl
 |some o=>
  rw[e l o q] at h;cases h
section
variable [cq κ]
theorem aDk{kvs:aa (κ×V)}{k:κ}(h:BV kvs k=ai):¬k∈kvs.map (·.1):=by
 intro m;obtain⟨p,hp,e⟩:=bE.mp m;have q:(kvs.any λkv=>decide (kv.1=k))=ae:=List.any_eq_true.mpr ⟨p,hp,bi e⟩;rw[uP,h] at q;exact aE q 0x2
theorem aA3:∀{l:aa κ}{k:κ},l.Nodup->¬k∈l->(l++[k]).Nodup
 |[],k,_,_=>by simp
 |a::r,k,h,hk=>by
  obtain⟨h1,h2⟩:=dj.mp h;show(a::(r++[k])).Nodup;refine dj.mpr ⟨λm=>?_,aA3 h2 λm=>hk (bq.mpr (Or.inr m))⟩;rcases eS.mp m with q|q
  ·exact h1 q
  ·exact hk (bq.mpr (iS (gq.mp q).symm))
theorem aHu{kvs:aa (κ×V)}{k:κ}(v:V)(hn:(kvs.map (·.1)).Nodup)(h:BV kvs k=ai):((putK kvs k v).map (·.1)).Nodup:=by
 rw[aDf v h,cr];exact aA3 hn (aDk h)
end
end L2
namespace Mi
open PySem
inductive D where
 |uD|non|bl (b:aq)|int (i:ah)|str (x:Str)
 |tup (xs:aa D)|lst (xs:aa D)|dct (kvs:aa (D×D))|scr (xs:aa D)|fdc (kvs:aa (D×D))|cel (a:af) (xs:aa D)|exc (c:Str) (fs:aa (Str×Str))|ins (c:Str) (fs:aa (Str×D))|adr (a:af)|dcl (a:af) (kvs:aa (D×D))
 deriving Inhabited
mutual
noncomputable def D.pure:D->aq
 |.tup xs=>D.aW xs
 |.lst _=>ag
 |.dct _=>ag
 |.uD=>ag
 |.scr xs=>D.aW xs
 |.fdc _=>ag
 |.cel _ _=>ag
 |.exc _ _=>ag
 |.ins _ _=>ag
 |.adr _=>ag
 |.dcl _ _=>ag
 |_=>ae
noncomputable def D.aW:aa D->aq
 |[]=>ae
 |x::xs=>x.pure&&D.aW xs
end
mutual
noncomputable def eqD:D->D->aq
 |.non,.non=>ae
 |.bl a,.bl b=>a==b
 |.int a,.int b=>a==b
 |.bl a,.int b=>(if a then (1:ah) else 0)==b
 |.int a,.bl b=>a==(if b then (1:ah) else 0)
 |.str a,.str b=>a==b
 |.tup xs,.tup ys=>wX xs ys
 |.lst xs,.lst ys=>wX xs ys
 |_,_=>ag
noncomputable def wX:aa D->aa D->aq
 |[],[]=>ae
 |x::xs,y::ys=>eqD x y&&wX xs ys
 |_,_=>ag
end
theorem xZ(a b:ah):eqD (.int a) (.int b)=(a==b):=id rfl
theorem aM1(a b:Str):eqD (.str a) (.str b)=(a==b):=id rfl
theorem aM2(a:ah)(b:Str):eqD (.int a) (.str b)=ag:=id rfl
theorem aM3(a:Str)(b:ah):eqD (.str a) (.int b)=ag:=id rfl
theorem aM4(a b:aa D):eqD (.tup a) (.tup b)=wX a b:=id rfl
mutual
noncomputable def D.gW:af->D->aq
 |n+1,.tup xs=>D.fO n xs
 |n+1,.lst xs=>D.fO n xs
 |0,.tup _=>ag
 |0,.lst _=>ag
 |_,.dct _=>ag
 |_,.uD=>ag
 |_,.scr _=>ag
 |_,.fdc _=>ag
 |_,.cel _ _=>ag
 |_,.exc _ _=>ag
 |_,.ins _ _=>ag
 |_,.adr _=>ag
 |_,.dcl _ _=>ag
 |_,_=>ae
noncomputable def D.fO:af->aa D->aq
 |_,[]=>ae
 |n,x::xs=>D.gW n x&&D.fO n xs
end
inductive gV where|lt|le|gt|ge
 deriving cq
noncomputable def gV.int:gV->ah->ah->aq
 |.lt,a,b=>decide (a<b)|.le,a,b=>decide (a<=b)|.gt,a,b=>decide (b<a)|.ge,a,b=>decide (b<=a)
noncomputable def gV.nat:gV->af->af->aq
 |.lt,a,b=>decide (a<b)|.le,a,b=>decide (a<=b)|.gt,a,b=>decide (b<a)|.ge,a,b=>decide (b<=a)
noncomputable def aA4(a b:Str):aq:=decide (a.cps.toList<b.cps.toList)
def gV.str:gV->Str->Str->aq
 |.lt,a,b=>aA4 a b|.le,a,b=>!aA4 b a|.gt,a,b=>aA4 b a|.ge,a,b=>!aA4 a b
mutual
noncomputable def jJ(o:gV):D->D->au aq
 |.int a,.int b=>ab (o.int a b)
 |.str a,.str b=>ab (o.str a b)
 |.tup xs,.tup ys=>jK o xs ys
 |_,_=>ai
noncomputable def jK(o:gV):aa D->aa D->au aq
 |[],ys=>ab (o.nat 0 ys.length)
 |x::xs,[]=>ab (o.nat (x::xs).length 0)
 |x::xs,y::ys=>if eqD x y then jK o xs ys else jJ o x y
end
inductive Res(α:Type) where
 |ok (a:α)|err (c:Str) (as:aa D)|bad
noncomputable def Res.bind{α β:Type}:Res α->(α->Res β)->Res β
 |.ok a,f=>f a
 |.err c as,_=>.err c as
 |.bad,_=>.bad
noncomputable instance:Monad Res where
 pure:=.ok
 bind:=Res.bind
@[simp] theorem Res.aY(a:α)(f:α->Res β):((Res.ok a) >>= f)=f a:=rfl
@[simp] theorem Res.aOy(c:Str)(as:aa D)(f:α->Res β):((Res.err c as:Res α) >>= f)=.err c as:=rfl
@[simp] theorem Res.aOz(f:α->Res β):((Res.bad:Res α) >>= f)=.bad:=rfl
@[simp] theorem Res.pure_eq(a:α):(pure a:Res α)=.ok a:=rfl
theorem Res.aHv{f:α->Res β}(h:(m >>= f)=.ok b):∃a,m=.ok a/\f a=.ok b:=by
 cases m with
 |ok a=>exact⟨a,rfl,h⟩
 |err c as=>cases h
 |bad=>cases h
theorem bx{P:Prop}(h:(Res.bad:Res α)=.ok d):P:=by cases h
theorem fx0{P:Prop}(h:ag=ae):P:=by cases h
theorem nx0{P:Prop}(h:(ai:au α)=ab d):P:=by cases h
noncomputable def Res.ofOpt{α:Type}:au α->Res α
 |some a=>.ok a
 |none=>.bad
@[simp] theorem Res.aKq(a:α):Res.ofOpt (ab a)=.ok a:=rfl
theorem Res.mK(h:Res.ofOpt o=.ok a):o=ab a:=by
 cases o with
 |none=>cases h
 |some b=>cases h;rfl
noncomputable def lim:af:=1000000
inductive Bop where|add|sub|mul|fdiv|mod|pow
 deriving cq
inductive Cop where|eq|ne|ord (o:gV)|isin|notin|isN|notN
 deriving cq
noncomputable def lN(i:ah):aq:=decide (-(2 ^ 64)<i)&&decide (i<2 ^ 64)
def bA:Bop->D->D->Res D
 |.add,.int a,.int b=>.ok (.int (a+b))
 |.sub,.int a,.int b=>.ok (.int (a-b))
 |.mul,.int a,.int b=>if lN a||lN b then .ok (.int (a*b)) else .bad
 |.fdiv,.int a,.int b=>if decide (0<b)&&decide (b<1073741824) then .ok (.int (a / b)) else .bad
 |.mod,.int a,.int b=>if decide (0<b) then .ok (.int (a % b)) else .bad
 |.pow,.int a,.int b=>if decide (0<=b)&&decide (b<=1000000)&&decide (a.natAbs<2 ^ 64) then .ok (.int (a ^ b.toNat)) else .bad
 |.add,.str a,.str b=>if decide (a.length+b.length<=lim) then .ok (.str (a++b)) else .bad
 |.add,.lst a,.lst b=>if decide (a.length+b.length<=lim)&&D.aW a&&D.aW b then .ok (.lst (a++b)) else .bad
 |_,_,_=>.bad
def aR0:D->Res aq
 |.non=>.ok ag
 |.bl b=>.ok b
 |.int i=>.ok (i !=0)
 |.str x=>if decide (x.length<=lim) then .ok ((x.length:ah)!=0) else .bad
 |.tup xs=>.ok (!xs.isEmpty)
 |.lst xs=>.ok (!xs.isEmpty)
 |.dct kvs=>.ok (!kvs.isEmpty)
 |.uD=>.bad
 |.fdc _=>.bad
 |.cel _ _=>.bad
 |.exc _ _=>.bad
 |.ins _ _=>.bad
 |.adr _=>.bad
 |.dcl _ _=>.bad
 |.scr xs=>.ok (!xs.isEmpty)
noncomputable def mL:D->aq
 |.int _=>ae
 |.str _=>ae
 |_=>ag
def keyOk:D->aq
 |.int _=>ae
 |.str _=>ae
 |.tup xs=>xs.all mL
 |_=>ag
noncomputable def isTup:D->aq
 |.tup _=>ae
 |_=>ag
def fB:aa (D×D)->D->au D
 |[],_=>ai
 | (k,v)::r,q=>if eqD k q then ab v else fB r q
def putD:aa (D×D)->D->D->aa (D×D)
 |[],q,w=>[(q,w)]
 | (k,v)::r,q,w=>if eqD k q then (k,w)::r else (k,v)::putD r q w
def O4(kvs:aa (D×D))(k:D):aq:=keyOk k&&kvs.all (λp=>isTup p.1==isTup k)
noncomputable def a_:af:=12
def b_:Cop->D->D->Res D
 |.eq,a,b=>if a.gW a_&&b.gW a_ then .ok (.bl (eqD a b)) else .bad
 |.ne,a,b=>if a.gW a_&&b.gW a_ then .ok (.bl (!eqD a b)) else .bad
 |.ord o,a,b=>if a.gW a_&&b.gW a_ then (match jJ o a b with|some k=>.ok (.bl k)|none=>.bad) else .bad
 |.isin,a,.tup ys=>if a.gW a_&&D.fO a_ ys then .ok (.bl (ys.any λy=>eqD y a)) else .bad
 |.isin,a,.lst ys=>if a.gW a_&&D.fO a_ ys then .ok (.bl (ys.any λy=>eqD y a)) else .bad
 |.isin,a,.dct kvs=>if O4 kvs a then .ok (.bl (fB kvs a).isSome) else .bad
 |.notin,a,.tup ys=>if a.gW a_&&D.fO a_ ys then .ok (.bl (!(ys.any λy=>eqD y a))) else .bad
 |.notin,a,.lst ys=>if a.gW a_&&D.fO a_ ys then .ok (.bl (!(ys.any λy=>eqD y a))) else .bad
 |.notin,a,.dct kvs=>if O4 kvs a then .ok (.bl (!(fB kvs a).isSome)) else .bad
 |.isN,.scr _,.non=>.bad
 |.notN,.scr _,.non=>.bad
 |.isN,.fdc _,.non=>.bad
 |.notN,.fdc _,.non=>.bad
 |.isN,.cel _ _,.non=>.bad
 |.notN,.cel _ _,.non=>.bad
 |.isN,.non,.non=>.ok (.bl ae)
 |.isN,a,.non=>.ok (.bl ag)
 |.notN,.non,.non=>.ok (.bl ag)
 |.notN,a,.non=>.ok (.bl ae)
 |_,_,_=>.bad
noncomputable def ixD(n:af)(i:ah):au af:=if 0<=i then (if i<n then ab i.toNat else ai) else if -(n:ah)<=i then ab (i+n).toNat else ai
def getD(d i:D):Res D:=
 match d,i with
 |.tup xs,.int i=>Res.ofOpt ((ixD xs.length i).bind λj=>xs[j]?)
 |.lst xs,.int i=>Res.ofOpt ((ixD xs.length i).bind λj=>xs[j]?)
 |.scr xs,.int i=>Res.ofOpt ((ixD xs.length i).bind λj=>xs[j]?)
 |.cel _ xs,.int i=>Res.ofOpt ((ixD xs.length i).bind λj=>xs[j]?)
 |.str x,.int i=>if decide (x.length<=lim) then Res.ofOpt (((ixD x.cps.toList.length i).bind λj=>x.cps.toList[j]?).map λc=>D.str ⟨#[c]⟩) else .bad
 |.dct kvs,k=>if keyOk k then Res.ofOpt (fB kvs k) else .bad
 |.fdc kvs,k=>if keyOk k then Res.ofOpt (fB kvs k) else .bad
 |_,_=>.bad
noncomputable def O5(n d:af):au ah->af
 |none=>d
 |some v=>if v<0 then (max (v+(n:ah)) 0).toNat else (min v (n:ah)).toNat
def cutD{α:Type}(xs:aa α)(lo hi:au ah):aa α:=(xs.drop (O5 xs.length 0 lo)).take (O5 xs.length xs.length hi-O5 xs.length 0 lo)
inductive Ty where|int|str|bool|list|tuple|dict
 deriving cq
noncomputable def aPt:Ty->D->Res aq
 |_,.uD=>.bad
 |_,.scr _=>.bad
 |_,.fdc _=>.bad
 |_,.cel _ _=>.bad
 |_,.exc _ _=>.bad
 |_,.ins _ _=>.bad
 |_,.adr _=>.bad
 |_,.dcl _ _=>.bad
 |.int,.int _=>.ok ae
 |.int,.bl _=>.ok ae
 |.bool,.bl _=>.ok ae
 |.str,.str _=>.ok ae
 |.tuple,.tup _=>.ok ae
 |.list,.lst _=>.ok ae
 |.dict,.dct _=>.ok ae
 |_,_=>.ok ag
mutual
noncomputable def D.plain:D->aq
 |.int _=>ae
 |.str _=>ae
 |.tup xs=>D.jZ xs
 |_=>ag
noncomputable def D.jZ:aa D->aq
 |[]=>ae
 |x::xs=>x.plain&&D.jZ xs
end
mutual
noncomputable def enc:D->aa ah
 |.int i=>[0,i]
 |.str x=>1::(x.cps.toList.map (λ(c:af)=>(c:ah)+1)++[0])
 |.tup xs=>2::O6 xs
 |_=>[]
noncomputable def O6:aa D->aa ah
 |[]=>[0]
 |x::xs=>1::(enc x++O6 xs)
end
noncomputable def gQ:D->af
 |.int _=>1
 |.str _=>2
 |.tup (.int _::_)=>3
 |.tup (.str _::_)=>4
 |.tup (.tup _::_)=>5
 |_=>0
def cJ(xs:aa D):aq:=decide (xs.length<64)&&xs.all λa=>a.plain&&a.gW a_&&gQ a !=0&&gQ a==gQ (xs.headD .non)&&xs.all λb=>(jJ .lt a b).isSome
def leE(a b:D):aq:=!decide (enc b<enc a)
def x_(xs:aa D):aa D:=xs.mergeSort leE
noncomputable def j4(i:ah):aq:=decide (-(2 ^ 62)<=i)&&decide (i<2 ^ 62)
noncomputable def asB:D->Res aq
 |.bl b=>.ok b
 |_=>.bad
noncomputable def asI:D->Res ah
 |.int i=>.ok i
 |_=>.bad
inductive Fl where
 |nx (ρ:aa D)|rt (d:D)|bk (ρ:aa D)|ct (ρ:aa D)
noncomputable def aS2:Fl->Res D
 |.rt d=>.ok d
 |.nx _=>.ok .non
 |_=>.bad
noncomputable abbrev FE:=aa D->Res D
noncomputable abbrev FT:=aa D->Res aq
noncomputable abbrev FA:=aa D->Res (aa D)
noncomputable def h_(i:af):FE:=λρ=>match ρ.getD i .uD with|.uD=>.bad|d=>.ok d
noncomputable def bC(d:D):FE:=λ_=>.ok d
abbrev bQ:FE:= h_ 0
abbrev eO:FE:= h_ 1
abbrev d_:FE:= h_ 2
abbrev cV:FE:= h_ 3
abbrev d8:FE:= h_ 5
abbrev fD:FE:= h_ 4
abbrev fP:FE:= h_ 6
abbrev eE:FE:= h_ 7
abbrev nY:FE:= h_ 9
abbrev nA:FE:= h_ 8
abbrev iH:FE:= h_ 17
abbrev sY:FE:= h_ 12
abbrev jB:FE:= h_ 10
abbrev j5:FE:= h_ 11
abbrev tR:FE:= h_ 13
abbrev yC:FE:= h_ 14
abbrev wY:FE:= h_ 15
abbrev W6:FE:= h_ 16
abbrev bJ:FE:= bC (.int 0)
abbrev jL:FE:= bC (.int 2147483647)
abbrev bW:FE:= bC (.int 1)
abbrev yD:FE:= bC (.int 104729)
abbrev DY:FE:= bC (.int 48271)
abbrev mO:FE:= bC (.int 2147483629)
abbrev v8:FE:= bC (.int 4)
abbrev D_:FE:= bC (.int 17)
abbrev aA5:FE:= bC (.int 5)
abbrev aHw:FE:= bC (.int 37)
abbrev EY:FE:= bC (.int 26)
abbrev d9:FE:= bC (.int 2)
abbrev aDl:FE:= bC (.int 8)
abbrev kE:FE:= bC (.int 3)
abbrev aDm:FE:= bC (.int 38)
abbrev aDn:FE:= bC (.int 40)
abbrev aPu:FE:= bC (.int 6)
abbrev aKr:FE:= bC (.int 7)
abbrev W7:FE:= bC (.int 12)
abbrev aA6:FE:= bC (.int 100)
abbrev aHx:FE:= bC (.int 20)
noncomputable def b2(f:D->D->Res D)(a b:FE):FE:=λρ=>do let x <- a ρ;let y <- b ρ;f x y
noncomputable def b1(f:D->Res D)(a:FE):FE:=λρ=>do let x <- a ρ;f x
def bTB(a:FE):FT:=λρ=>do let x <- a ρ;asB x
noncomputable def oY(a:FT):FT:=λρ=>do let x <- a ρ;pure (!x)
noncomputable def YZ(a b:FT):FT:=λρ=>do let x <- a ρ;if x then b ρ else pure ag
noncomputable def bOr(a b:FT):FT:=λρ=>do let x <- a ρ;if x then pure ae else b ρ
def aM5(a:FE):FE:=λρ=>do let x <- a ρ;let k <- asB x;pure (.bl (!k))
def E_(a b:FE):FE:=λρ=>do let x <- a ρ;let k <- asB x;if k then b ρ else pure (.bl ag)
noncomputable def aL:FA:=λ_=>.ok []
noncomputable def aA(a:FE)(b:FA):FA:=λρ=>do let x <- a ρ;let xs <- b ρ;pure (x::xs)
def bN(a:FA):FE:=λρ=>do let xs <- a ρ;if decide (xs.length<=lim) then pure (.tup xs) else .bad
def zM(a:FA):FE:=λρ=>do let xs <- a ρ;if decide (xs.length<=lim) then pure (.lst xs) else .bad
noncomputable def aK(f:aa D->Res D)(a:FA):FE:=λρ=>do let xs <- a ρ;f xs
def mQ(a:FE):aa D->Res (au ah):=λρ=>do let x <- a ρ;let i <- asI x;pure (ab i)
noncomputable def mR:aa D->Res (au ah):=λ_=>.ok ai
def aR1:D->Res aq
 |.dct _=>.bad
 |.scr _=>.bad
 |.fdc _=>.bad
 |d=>aR0 d
def bTr(a:FE):FT:=λρ=>do let x <- a ρ;aR1 x
noncomputable def aHy:D->Res D
 |.int i=>.ok (.int (-i))
 |_=>.bad
def aKs:D->au ah->au ah->Res D
 |.lst xs,lo,hi=>if D.aW xs then .ok (.lst (cutD xs lo hi)) else .bad
 |.scr xs,lo,hi=>if D.aW xs then .ok (.lst (cutD xs lo hi)) else .bad
 |.tup xs,lo,hi=>if !D.aW xs||decide (O5 xs.length 0 lo=0/\O5 xs.length xs.length hi=xs.length) then .bad else .ok (.tup (cutD xs lo hi))
 |_,_,_=>.bad
def J2(o:gV):aa D->Res D
 |[]=>.bad
 |x::xs=>if ((x::xs).all λa=>a.gW a_&&(x::xs).all λb=>(jJ o a b).isSome) then .ok (xs.foldl (λm y=>if (jJ o y m).getD ag then y else m) x) else .bad
def btD(o:gV)(ds:aa D)(i j:af):aq:=(jJ o (ds.getD i .non) (ds.getD j .non)).getD ag
def dG:aa D->Res D
 |[.tup xs]=>.ok (.int xs.length)
 |[.lst xs]=>.ok (.int xs.length)
 |[.scr xs]=>.ok (.int xs.length)
 |[.cel _ xs]=>.ok (.int xs.length)
 |[.str x]=>if decide (x.length<=lim) then .ok (.int x.length) else .bad
 |_=>.bad
noncomputable def sZ(kvs:aa (D×D)):aa D:=kvs.map (·.1)
def aA7:aa D->Res D
 |[.tup xs]=>if D.aW xs then .ok (.lst xs) else .bad
 |[.lst xs]=>if D.aW xs then .ok (.lst xs) else .bad
 |[.dct kvs]=>if kvs.all (λp=>!isTup p.1) then .ok (.lst (sZ kvs)) else .bad
 |_=>.bad
noncomputable def gY:aa D->Res D
 |[.tup xs]=>.ok (.tup xs)
 |[.lst xs]=>.ok (.tup xs)
 |_=>.bad
def lG:aa D->Res D
 |[.lst xs]=>if cJ xs then .ok (.lst (x_ xs)) else .bad
 |_=>.bad
noncomputable def Ty.nm:Ty->dS
 |.int=>"int" | .str=>"str" | .bool=>"bool" | .list=>"list" | .tuple=>"tuple" | .dict=>"dict"
def kI(t:Ty)(d:D):Res D:=do let k <- aPt t d;pure (.bl k)
noncomputable def bY(n:af)(f:aa D->Res D):aa D->Res D:=λds=>if decide (ds.length=n) then f ds else .bad
noncomputable abbrev FI:=aa D->Res (aa D×aq)
noncomputable def yE:D->Res (aa D)
 |.lst xs=>.ok xs
 |.tup xs=>.ok xs
 |_=>.bad
def lO:aa D->Res (aa D×aq)
 |[.int n]=>if j4 n then .ok ((bw n.toNat).map λ(k:af)=>D.int (0+(k:ah)),ae) else .bad
 |_=>.bad
def vD:aa D->Res (aa D×aq)
 |[.int a,.int b]=>if j4 a&&j4 b then .ok ((bw (b-a).toNat).map λ(k:af)=>D.int (a+(k:ah)),ae) else .bad
 |_=>.bad
noncomputable def fX(f:FA)(g:aa D->Res (aa D×aq)):FI:=λρ=>do let xs <- f ρ;g xs
noncomputable def FJ(n:af)(ρ:aa D):aa D:=(bw n).map λi=>ρ.getD i .uD
noncomputable def iV:D->Res (aa D):=λd=>.ok [d]
noncomputable def aP0(m:af):D->Res (aa D)
 |.tup ds=>if decide (ds.length=m) then .ok ds else .bad
 |_=>.bad
def jM(n:af)(t:D->Res (aa D))(c:FT)(f:FE)(k:aq)(ρ:aa D)(acc:aa D)(x:D):Res (aa D):=do
 let bs <- t x
 let ok <- c (FJ n ρ++bs)
 if ok then (do
  let y <- f (FJ n ρ++bs)
  if k||y.pure then pure (acc++[y]) else .bad)
 else pure acc
noncomputable def iI(g:aa D->D->Res (aa D)):aa D->aa D->Res (aa D)
 |acc,[]=>.ok acc
 |acc,x::xs=>do let a <- g acc x;iI g a xs
def eQ(n:af)(it:FI)(t:D->Res (aa D))(c:FT)(f:FE)(k:aq):FE:=λρ=>do
 let xs <- it ρ
 if decide (xs.1.length<=lim) then (do
  let ys <- iI (jM n t c f k ρ) [] xs.1
  pure (.lst ys)) else .bad
noncomputable def dX:FT:=λ_=>.ok ae
noncomputable abbrev FS:=aa D->Res Fl
def inner:D->aq
 |.lst xs=>D.aW xs
 |.dct kvs=>D.aW (kvs.map (·.2))
 |.cel _ xs=>D.aW xs
 |.dcl _ kvs=>D.aW (kvs.map (·.2))
 |_=>ag
noncomputable def j6:FS:=λρ=>.ok (.nx ρ)
noncomputable def bK(f g:FS):FS:=λρ=>do
 let r <- f ρ
 match r with
 |.nx ρ'=>g ρ'
 |r=>.ok r
def bZ(o:aq)(i:af)(f:FE)(k:aq):FS:=λρ=>do
 let d <- f ρ
 if (if o then k&&inner d else k||d.pure) then .ok (.nx (ρ.set i d)) else .bad
noncomputable def sIf(c:FT)(f g:FS):FS:=λρ=>do
 let k <- c ρ
 if k then f ρ else g ρ
noncomputable def gR(f:FE)(k:aq):FS:=λρ=>do
 let d <- f ρ
 if k||d.pure then .ok (.rt d) else .bad
def QB(i:af):FS:=λρ=>do
 let d <- h_ i ρ
 .ok (.rt d)
noncomputable def rtX:af:=1000000
noncomputable def W8(f:FE)(k:aq):FS:=λρ=>do
 let d <- f ρ
 if k||d.pure then .ok (.rt (.tup (d::ρ))) else .bad
def v_(i:af)(f:FE):FS:=λρ=>do
 let d <- f ρ
 match ρ.getD i .uD with
 |.lst xs=>if decide (xs.length<lim)&&d.pure then .ok (.nx (ρ.set i (.lst (xs++[d])))) else .bad
 |_=>.bad
def zN(i:af)(f:FE)(g:FE):FS:=λρ=>do
 let d <- g ρ
 let k <- f ρ
 match ρ.getD i .uD with
 |.dct kvs=>if decide (kvs.length<lim)&&O4 kvs k&&d.pure then .ok (.nx (ρ.set i (.dct (putD kvs k d)))) else .bad
 |_=>.bad
noncomputable def tg1(i:af):D->aa D->Res (aa D):=λd ρ=>.ok (ρ.set i d)
noncomputable def aA8:aa af->aa D->aa D->aa D
 |i::is,d::ds,ρ=>aA8 is ds (ρ.set i d)
 |_,_,ρ=>ρ
def tgN(is:aa af):D->aa D->Res (aa D)
 |.tup ds,ρ=>if decide (ds.length=is.length) then .ok (aA8 is ds ρ) else .bad
 |_,_=>.bad
noncomputable def tU(t:D->aa D->Res (aa D))(body:FS):aa D->aa D->Res Fl
 |[],ρ=>.ok (.nx ρ)
 |x::xs,ρ=>do
  let ρ1 <- t x ρ
  let r <- body ρ1
  match r with
  |.nx ρ'=>tU t body xs ρ'
  |.ct ρ'=>tU t body xs ρ'
  |.bk ρ'=>.ok (.nx ρ')
  |.rt d=>.ok (.rt d)
def tV(it:FI)(t:D->aa D->Res (aa D))(body:FS):FS:=λρ=>do
 let xs <- it ρ
 if xs.2 then tU t body xs.1 ρ else .bad
def QC(i:af)(t:D->aa D->Res (aa D))(body:FS):FS:=λρ=>do
 let d <- h_ i ρ
 let xs <- yE d
 tU t body xs ρ
def fnS(n m:af)(f:FS):aa D->Res D:=λds=>do
 let r <- f (ds++bP (m-n) .uD)
 aS2 r
mutual
theorem aFr(a b:D)(h1:a.plain=ae)(h2:b.plain=ae)(h:eqD a b=ae):a=b:=by
 cases a with
 |int i=>
  cases b with
  |int j=>rw[eq_of_beq (show(i==j)=ae from h)]
  |str _=>exact fx0 h
  |tup _=>exact fx0 h
  |_=>exact fx0 h2
 |str i=>
  cases b with
  |str j=>rw[eq_of_beq (show(i==j)=ae from h)]
  |int _=>exact fx0 h
  |tup _=>exact fx0 h
  |_=>exact fx0 h2
 |tup xs=>
  cases b with
  |tup ys=>rw[aA9 xs ys h1 h2 h]
  |int _=>exact fx0 h
  |str _=>exact fx0 h
  |_=>exact fx0 h2
 |_=>exact fx0 h1
theorem aA9:∀(a b:aa D),D.jZ a=ae->D.jZ b=ae->wX a b=ae->a=b
 |[],[],_,_,_=>rfl
 |x::xs,y::ys,h1,h2,h=>by
  rw[D.jZ,aT] at h1 h2;rw[wX,aT] at h;rw[aFr x y h1.1 h2.1 h.1,aA9 xs ys h1.2 h2.2 h.2]
 |[],_::_,_,_,h=>by exact fx0 h
 |_::_,[],_,_,h=>by exact fx0 h
end
mutual
theorem S8(a:D)(h:a.plain=ae):eqD a a=ae:=by
 cases a with
 |int i=>exact eo i
 |str i=>exact eo i
 |tup xs=>exact J3 xs h
 |_=>exact fx0 h
theorem J3:∀(a:aa D),D.jZ a=ae->wX a a=ae
 |[],_=>rfl
 |x::xs,h=>by
  rw[D.jZ,aT] at h;rw[wX,S8 x h.1,J3 xs h.2];rfl
end
theorem aAa:∀(a b:aa af)(r t:aa ah),(a.map (λ(c:af)=>(c:ah)+1)++[0])++r=(b.map (λ(c:af)=>(c:ah)+1)++[0])++t->a=b/\r=t
 |[],[],r,t,h=>by simpa using h
 |[],c::b,r,t,h=>by
  simp only[iP,dl,eP,bh,kQ] at h;lia
 |c::a,[],r,t,h=>by
  simp only[iP,dl,eP,bh,kQ] at h;lia
 |c::a,d::b,r,t,h=>by
  simp only[eP,bh,kQ] at h;obtain⟨e1,e2⟩:=aAa a b r t h.2;exact⟨by rw[e1,show c=d by lia],e2⟩
mutual
theorem FN:∀(a b:D)(r t:aa ah),a.plain=ae->b.plain=ae->enc a++r=enc b++t->a=b/\r=t
 |.int i,b,r,t,_,h2,h=>by
  cases b<;>simp only[enc,D.plain,iX,eP,kQ,dl] at h h2<;>try omega
  ·exact⟨by rw[h.2.1],h.2.2⟩
 |.str x,b,r,t,_,h2,h=>by
  cases b with
  |str y=>
   simp only[enc,eP,kQ,true_and] at h;obtain⟨e1,e2⟩:=aAa _ _ _ _ h;refine⟨?_,e2⟩;cases x;cases y;simp only[] at e1
   congr 2
   exact Array.toList_inj.mp e1
  |_=>simp[enc,D.plain] at h h2
 |.tup xs,b,r,t,h1,h2,h=>by
  cases b with
  |tup ys=>
   rw[D.plain] at h1 h2;simp only[enc,eP,kQ,true_and] at h;obtain⟨e1,e2⟩:=S9 xs ys r t h1 h2 h;exact⟨by rw[e1],e2⟩
  |_=>simp[enc,D.plain] at h h2
 |.uD,_,_,_,h,_,_=>by simp[D.plain] at h
 |.scr _,_,_,_,h,_,_=>by simp[D.plain] at h
 |.non,_,_,_,h,_,_=>by simp[D.plain] at h
 |.bl _,_,_,_,h,_,_=>by simp[D.plain] at h
 |.lst _,_,_,_,h,_,_=>by simp[D.plain] at h
 |.dct _,_,_,_,h,_,_=>by simp[D.plain] at h
theorem S9:∀(a b:aa D)(r t:aa ah),D.jZ a=ae->D.jZ b=ae->O6 a++r=O6 b++t->a=b/\r=t
 |[],[],r,t,_,_,h=>by simpa[O6] using h
 |[],_::_,r,t,_,_,h=>by simp[O6] at h
 |_::_,[],r,t,_,_,h=>by simp[O6] at h
 |x::xs,y::ys,r,t,h1,h2,h=>by
  rw[D.jZ,aT] at h1 h2;simp only[O6,eP,kQ,true_and,dE] at h;obtain⟨e1,e2⟩:=FN x y _ _ h1.1 h2.1 h;obtain⟨e3,e4⟩:=S9 xs ys r t h1.2 h2.2 e2;exact⟨by rw[e1,e3],e4⟩
end
theorem aHz(h1:a.plain=ae)(h2:b.plain=ae)(h:enc a=enc b):a=b:=(FN a b [] [] h1 h2 (by rw[h])).1
theorem QD(p:aa ah)(r t:aa ah):p++r<p++t↔r<t:=by
 induction p with
 |nil=>rfl
 |cons x p ih=>rw[eP,eP,ic];simp[ih]
theorem aFs:∀(u v r t:aa ah),(∀z,u++z≠v)->(∀z,v++z≠u)->(u++r<v++t↔u<v)
 |[],v,_,_,h,_=>aE rfl (h v)
 |u,[],_,_,_,h=>aE rfl (h u)
 |x::u,y::v,r,t,h1,h2=>by
  rw[eP,eP,ic,ic];by_cases e:x=y
  ·subst e;have:=aFs u v r t (λz hz=>h1 z (by rw[eP,hz])) (λz hz=>h2 z (by rw[eP,hz]));simp[this]
  ·simp[e]
theorem aAb:∀(a b:aa af),(a.map (λ(c:af)=>(c:ah)+1)++[0]<b.map (λ(c:af)=>(c:ah)+1)++[0])↔a<b
 |[],[]=>by simp
 |[],c::b=>by
  simp only[iP,dl,bh,eP,ic,List.nil_lt_cons,iff_true]
  left;lia
 |c::a,[]=>by
  simp only[iP,dl,bh,eP,ic,List.not_lt_nil,iff_false,gu,not_and];exact⟨by lia,λh=>by lia⟩
 |c::a,d::b=>by
  simp only[bh,eP,ic,aAb a b];constructor
  ·rintro(h|⟨h,k⟩)
   ·left;lia
   ·right;exact⟨by lia,k⟩
  ·rintro(h|⟨h,k⟩)
   ·left;lia
   ·right;exact⟨by lia,k⟩
mutual
theorem QF:∀(a b:D)(k:aq),a.plain=ae->b.plain=ae->jJ .lt a b=ab k->k=decide (enc a<enc b)
 |.int i,.int j,k,_,_,h=>by
  rw[jJ] at h;rw[<-c6 h];simp[enc,gV.int,ic]
 |.str x,.str y,k,_,_,h=>by
  rw[jJ] at h;rw[<-c6 h];have:=aAb x.cps.toList y.cps.toList;simp only[enc,gV.str,aA4,ic,true_and];simp[this]
 |.tup xs,.tup ys,k,h1,h2,h=>by
  rw[D.plain] at h1 h2;rw[jJ] at h;rw[S_ xs ys k h1 h2 h];simp[enc,ic]
 |.int _,.str _,_,_,_,h=>by exact nx0 h
 |.int _,.tup _,_,_,_,h=>by exact nx0 h
 |.int _,.uD,_,_,_,h=>by exact nx0 h
 |.int _,.scr _,_,_,_,h=>by exact nx0 h
 |.int _,.non,_,_,_,h=>by exact nx0 h
 |.int _,.bl _,_,_,_,h=>by exact nx0 h
 |.int _,.lst _,_,_,_,h=>by exact nx0 h
 |.int _,.dct _,_,_,_,h=>by exact nx0 h
 |.str _,.int _,_,_,_,h=>by exact nx0 h
 |.str _,.tup _,_,_,_,h=>by exact nx0 h
 |.str _,.uD,_,_,_,h=>by exact nx0 h
 |.str _,.scr _,_,_,_,h=>by exact nx0 h
 |.str _,.non,_,_,_,h=>by exact nx0 h
 |.str _,.bl _,_,_,_,h=>by exact nx0 h
 |.str _,.lst _,_,_,_,h=>by exact nx0 h
 |.str _,.dct _,_,_,_,h=>by exact nx0 h
 |.tup _,.int _,_,_,_,h=>by exact nx0 h
 |.tup _,.str _,_,_,_,h=>by exact nx0 h
 |.tup _,.uD,_,_,_,h=>by exact nx0 h
 |.tup _,.scr _,_,_,_,h=>by exact nx0 h
 |.tup _,.non,_,_,_,h=>by exact nx0 h
 |.tup _,.bl _,_,_,_,h=>by exact nx0 h
 |.tup _,.lst _,_,_,_,h=>by exact nx0 h
 |.tup _,.dct _,_,_,_,h=>by exact nx0 h
 |.uD,_,_,h,_,_=>by simp[D.plain] at h
 |.scr _,_,_,h,_,_=>by simp[D.plain] at h
 |.non,_,_,h,_,_=>by simp[D.plain] at h
 |.bl _,_,_,h,_,_=>by simp[D.plain] at h
 |.lst _,_,_,h,_,_=>by simp[D.plain] at h
 |.dct _,_,_,h,_,_=>by simp[D.plain] at h
theorem S_:∀(a b:aa D)(k:aq),D.jZ a=ae->D.jZ b=ae->jK .lt a b=ab k->k=decide (O6 a<O6 b)
 |[],[],k,_,_,h=>by rw[jK] at h;rw[<-c6 h];simp[O6,gV.nat]
 |[],y::ys,k,_,_,h=>by rw[jK] at h;rw[<-c6 h];simp[O6,gV.nat,ic]
 |x::xs,[],k,_,_,h=>by rw[jK] at h;rw[<-c6 h];simp[O6,gV.nat,ic]
 |x::xs,y::ys,k,h1,h2,h=>by
  rw[D.jZ,aT] at h1 h2;rw[jK] at h;simp only[O6,ic,true_and,Int.lt_irrefl,false_or];cases e:eqD x y with
  |true=>
   rw[e,ao rfl] at h;have:=aFr x y h1.1 h2.1 e;subst this;rw[S_ xs ys k h1.2 h2.2 h];simp[QD]
  |false=>
   rw[e,aw 0x2] at h;rw[QF x y k h1.1 h2.1 h];have hne:x≠y:=λz=>by subst z;rw[S8 x h1.1] at e;cases e
   have:=aFs (enc x) (enc y) (O6 xs) (O6 ys) (λz hz=>hne (FN x y z [] h1.1 h2.1 (by simpa using hz)).1) (λz hz=>hne (FN y x z [] h2.1 h1.1 (by simpa using hz)).1.symm);simp[this]
end
theorem aAc(a b c:D)(h1:leE a b=ae)(h2:leE b c=ae):leE a c=ae:=by
 simp only[leE,nV,sD] at *;exact λh=>by
  rcases(inferInstance:Std.Trichotomous (α:=aa ah) (·<·)) with _
  exact h1 (AM (AN.mp h2) h)
theorem aAd(a b:D):(leE a b||leE b a)=ae:=by
 simp only[leE,f_,nV,sD];by_cases h:enc b<enc a
 ·right;exact List.lt_asymm h
 ·left;exact h
theorem gH(ds:aa D):(x_ ds).Perm ds:=List.mergeSort_perm ds leE
theorem kY(ds:aa D):(x_ ds).Pairwise λa b=>leE a b=ae:=List.pairwise_mergeSort (λa b c=>aAc a b c) (λa b=>aAd a b) ds
theorem yF{ds es:aa D}(hp:∀d∈ds,d.plain=ae)(h:ds.Perm es)(h1:ds.Pairwise λa b=>leE a b=ae)(h2:es.Pairwise λa b=>leE a b=ae):ds=es:=by
 refine C4 (λa b ha hb h1 h2=>?_) h1 h2 h;simp only[leE,nV,sD] at h1 h2;exact aHz (hp a ha) (hp b (h.mem_iff.mpr hb)) (List.le_antisymm h1 h2)
open L2
class KFrag where
 K:bg
variable [KFrag]
def aDo(H:Hp)(a:ak)(xs:aa V):Prop:=(∃o,H a=ab (.frz o (.lst xs)))\/
 ∃(o:bd)(its:ay aj)(n:af),KFrag.K.lookup a=ab o/\o.cls=.type "list"/\o.dict=ai/\o.data=.seq its n/\its.size<=ba/\Vals xs its.toList
theorem aDo.sq(h:aDo H a xs)(hK:KFrag.K=K):SqL K H a xs:=by
 subst hK;rcases h with ⟨o,h⟩|h
 ·exact .inl (.inr ⟨o,h⟩)
 ·exact .inr h
noncomputable def kD:Key->D
 |.inl i=>.int i
 |.inr x=>.str x
noncomputable def TF:HO->aq
 |.lst _=>ae
 |.dK _=>ae
 |.dT _=>ae
 |_=>ag
def XO(a C:ak)(dx:au ak)(h:aI):Prop:=∃o,h.get? a=ab o/\o.cls=.ref C/\o.dict=dx/\∃vs,o.data=.fields vs
def XD(dx:ak)(fs:aa (Str×Str))(h:aI):Prop:=∃mA,h.Ns1 dx mA/\oz mA (fs.map (·.1))/\∀f,match fs.lookup f with
 |some t=>∃tk,mA f=ab (.str t tk)
 |none=>mA f=ai
def XDs(H:Hp)(fs:aa (Str×Str)):au ak->Prop
 |none=>fs=[]
 |some d=>H d=ab (.ext (XD d fs))
mutual
inductive Rep(P:ak->Prop)(H:Hp):V->D->Prop
 |non:Rep P H .non .non
 |bl (b:aq):Rep P H (.bl b) (.bl b)
 |int (i:ah):Rep P H (.int i) (.int i)
 |str (x:Str):Rep P H (.str x) (.str x)
 |tup {a:ak} {xs:aa V} {ds:aa D}:H a=ab (.tup xs)->b7 P H xs ds->Rep P H (.ref a) (.tup ds)
 |lst {a:ak} {xs:aa V} {ds:aa D}:H a=ab (.lst xs)->P a->b7 P H xs ds->Rep P H (.ref a) (.lst ds)
 |cel {a:ak} {xs:aa V} {ds:aa D}:H a=ab (.lst xs)->P a->b7 P H xs ds->Rep P H (.ref a) (.cel a ds)
 |frz {a:ak} {xs:aa V} {ds:aa D}:aDo H a xs->b7 P H xs ds->Rep P H (.ref a) (.scr ds)
 |dK {a:ak} {kvs:aa (Key×V)} {ds:aa (D×D)}:H a=ab (.dK kvs)->P a->iJ P H kvs ds->(kvs.map (·.1)).Nodup->Rep P H (.ref a) (.dct ds)
 |dT {a:ak} {kvs:aa (aa Key×V)} {ds:aa (D×D)}:H a=ab (.dT kvs)->P a->oZ P H kvs ds->(kvs.map (·.1)).Nodup->Rep P H (.ref a) (.dct ds)
 |fdK {a:ak} {o:bd} {kvs:aa (Key×V)} {ds:aa (D×D)}:H a=ab (.frz o (.dK kvs))->iJ P H kvs ds->(kvs.map (·.1)).Nodup->Rep P H (.ref a) (.fdc ds)
 |fdT {a:ak} {o:bd} {kvs:aa (aa Key×V)} {ds:aa (D×D)}:H a=ab (.frz o (.dT kvs))->oZ P H kvs ds->(kvs.map (·.1)).Nodup->Rep P H (.ref a) (.fdc ds)
 |exc {a C:ak} {dx:au ak} {c:Str} {fs:aa (Str×Str)}:jn KFrag.K cg c=ab (ab (.ref C))->H a=ab (.ext (XO a C dx))->XDs H fs dx->Rep P H (.ref a) (.exc c fs)
 |ins {a C dx:ak} {c:Str} {vs:aa (Str×V)} {fs:aa (Str×D)}:jn KFrag.K cg c=ab (ab (.ref C))->H a=ab (.ins C dx vs)->nM P H vs fs->Rep P H (.ref a) (.ins c fs)
 |adr {a:ak}:Rep P H (.ref a) (.adr a)
 |dlK {a:ak} {kvs:aa (Key×V)} {ds:aa (D×D)}:H a=ab (.dK kvs)->P a->iJ P H kvs ds->(kvs.map (·.1)).Nodup->Rep P H (.ref a) (.dcl a ds)
 |dlT {a:ak} {kvs:aa (aa Key×V)} {ds:aa (D×D)}:H a=ab (.dT kvs)->P a->oZ P H kvs ds->(kvs.map (·.1)).Nodup->Rep P H (.ref a) (.dcl a ds)
inductive nM(P:ak->Prop)(H:Hp):aa (Str×V)->aa (Str×D)->Prop
 |nil:nM P H [] []
 |cons {f:Str} {v:V} {d:D} {r:aa (Str×V)} {ds:aa (Str×D)}:Rep P H v d->nM P H r ds->nM P H ((f,v)::r) ((f,d)::ds)
inductive b7(P:ak->Prop)(H:Hp):aa V->aa D->Prop
 |nil:b7 P H [] []
 |cons {v:V} {d:D} {vs:aa V} {ds:aa D}:Rep P H v d->b7 P H vs ds->b7 P H (v::vs) (d::ds)
inductive iJ(P:ak->Prop)(H:Hp):aa (Key×V)->aa (D×D)->Prop
 |nil:iJ P H [] []
 |cons {k:Key} {v:V} {d:D} {r:aa (Key×V)} {ds:aa (D×D)}:Rep P H v d->iJ P H r ds->iJ P H ((k,v)::r) ((kD k,d)::ds)
inductive oZ(P:ak->Prop)(H:Hp):aa (aa Key×V)->aa (D×D)->Prop
 |nil:oZ P H [] []
 |cons {k:aa Key} {v:V} {d:D} {r:aa (aa Key×V)} {ds:aa (D×D)}:Rep P H v d->oZ P H r ds->oZ P H ((k,v)::r) ((.tup (k.map kD),d)::ds)
end
def BZ(P:ak->Prop)(H H':Hp):Prop:=∀a o,H a=ab o->(P a\/TF o=ag)->H' a=ab o
theorem BZ.same(h:cH H H'):BZ P H H':=λa o e _=>h a o e
theorem XDs.keep{P:ak->Prop}{H H':Hp}(k:BZ P H H')(q:XDs H fs dx):XDs H' fs dx:=by
 cases dx with
 |none=>exact q
 |some _=>exact k _ _ q (.inr rfl)
mutual
theorem Rep.gU{P P':ak->Prop}{H H':Hp}(k:BZ P H H')(m:∀a o,H a=ab o->P a->P' a){v:V}{d:D}(q:Rep P H v d):Rep P' H' v d:=by
 cases q with
 |non=>exact .non
 |bl b=>exact .bl b
 |int i=>exact .int i
 |str x=>exact .str x
 |tup e r=>exact .tup (k _ _ e (.inr rfl)) (b7.gU k m r)
 |lst e p r=>exact .lst (k _ _ e (.inl p)) (m _ _ e p) (b7.gU k m r)
 |cel e p r=>exact .cel (k _ _ e (.inl p)) (m _ _ e p) (b7.gU k m r)
 |frz e r=>exact .frz (e.imp (λz=>z.imp λo e=>k _ _ e (.inr rfl)) id) (b7.gU k m r)
 |dK e p r n=>exact .dK (k _ _ e (.inl p)) (m _ _ e p) (iJ.gU k m r) n
 |dT e p r n=>exact .dT (k _ _ e (.inl p)) (m _ _ e p) (oZ.gU k m r) n
 |fdK e r n=>exact .fdK (k _ _ e (.inr rfl)) (iJ.gU k m r) n
 |fdT e r n=>exact .fdT (k _ _ e (.inr rfl)) (oZ.gU k m r) n
 |exc n e q=>exact .exc n (k _ _ e (.inr rfl)) (XDs.keep k q)
 |ins n e r=>exact .ins n (k _ _ e (.inr rfl)) (nM.gU k m r)
 |adr=>exact .adr
 |dlK e p r n=>exact .dlK (k _ _ e (.inl p)) (m _ _ e p) (iJ.gU k m r) n
 |dlT e p r n=>exact .dlT (k _ _ e (.inl p)) (m _ _ e p) (oZ.gU k m r) n
theorem b7.gU{P P':ak->Prop}{H H':Hp}(k:BZ P H H')(m:∀a o,H a=ab o->P a->P' a){v:aa V}{d:aa D}(q:b7 P H v d):b7 P' H' v d:=by
 cases q with
 |nil=>exact .nil
 |cons r t=>exact .cons (Rep.gU k m r) (b7.gU k m t)
theorem nM.gU{P P':ak->Prop}{H H':Hp}(k:BZ P H H')(m:∀a o,H a=ab o->P a->P' a){v:aa (Str×V)}{d:aa (Str×D)}(q:nM P H v d):nM P' H' v d:=by
 cases q with
 |nil=>exact .nil
 |cons r t=>exact .cons (Rep.gU k m r) (nM.gU k m t)
theorem iJ.gU{P P':ak->Prop}{H H':Hp}(k:BZ P H H')(m:∀a o,H a=ab o->P a->P' a){v:aa (Key×V)}{d:aa (D×D)}(q:iJ P H v d):iJ P' H' v d:=by
 cases q with
 |nil=>exact .nil
 |cons r t=>exact .cons (Rep.gU k m r) (iJ.gU k m t)
theorem oZ.gU{P P':ak->Prop}{H H':Hp}(k:BZ P H H')(m:∀a o,H a=ab o->P a->P' a){v:aa (aa Key×V)}{d:aa (D×D)}(q:oZ P H v d):oZ P' H' v d:=by
 cases q with
 |nil=>exact .nil
 |cons r t=>exact .cons (Rep.gU k m r) (oZ.gU k m t)
end
theorem Rep.keep(k:BZ P H H')(m:∀a,P a->P' a)(q:Rep P H v d):Rep P' H' v d:=q.gU k λa _ _=>m a
theorem b7.keep(k:BZ P H H')(m:∀a,P a->P' a)(q:b7 P H v d):b7 P' H' v d:=q.gU k λa _ _=>m a
theorem nM.keep(k:BZ P H H')(m:∀a,P a->P' a)(q:nM P H v d):nM P' H' v d:=q.gU k λa _ _=>m a
theorem iJ.keep(k:BZ P H H')(m:∀a,P a->P' a)(q:iJ P H v d):iJ P' H' v d:=q.gU k λa _ _=>m a
theorem oZ.keep(k:BZ P H H')(m:∀a,P a->P' a)(q:oZ P H v d):oZ P' H' v d:=q.gU k λa _ _=>m a
theorem Rep.mono(r:Rep P H v d)(m:∀a,P a->P' a):Rep P' H v d:=r.keep (λ_ _ e _=>e) m
theorem b7.mono(r:b7 P H v d)(m:∀a,P a->P' a):b7 P' H v d:=r.keep (λ_ _ e _=>e) m
theorem Rep.same(r:Rep P H v d)(s:cH H H'):Rep P H' v d:=r.keep (.same s) λ_ h=>h
theorem b7.same(r:b7 P H v d)(s:cH H H'):b7 P H' v d:=r.keep (.same s) λ_ h=>h
noncomputable def TJ:HO->aq
 |.tup _=>ag
 |.frz _ (.lst _)=>ag
 |_=>ae
mutual
theorem Rep.vG{P P':ak->Prop}{H H':Hp}(k:∀a o,H a=ab o->TJ o=ag->H' a=ab o){v:V}{d:D}(q:Rep P H v d)(h:d.pure=ae):Rep P' H' v d:=by
 cases q with
 |non=>exact .non
 |bl b=>exact .bl b
 |int i=>exact .int i
 |str x=>exact .str x
 |tup e r=>exact .tup (k _ _ e rfl) (b7.vG k r h)
 |frz e r=>exact .frz (e.imp (λz=>z.imp λo e=>k _ _ e rfl) id) (b7.vG k r h)
 |_=>exact fx0 h
theorem b7.vG{P P':ak->Prop}{H H':Hp}(k:∀a o,H a=ab o->TJ o=ag->H' a=ab o){v:aa V}{d:aa D}(q:b7 P H v d)(h:D.aW d=ae):b7 P' H' v d:=by
 cases q with
 |nil=>exact .nil
 |cons r t=>
  rw[D.aW,aT] at h;exact .cons (Rep.vG k r h.1) (b7.vG k t h.2)
end
theorem Rep.b8(r:Rep P H v d)(h:d.pure=ae):Rep P' H v d:=r.vG (λ_ _ e _=>e) h
theorem b7.b8(r:b7 P H v d)(h:D.aW d=ae):b7 P' H v d:=r.vG (λ_ _ e _=>e) h
theorem b7.length:∀{v:aa V}{d:aa D},b7 P H v d->v.length=d.length
 |_,_,.nil=>rfl
 |_,_,.cons _ t=>by rw[bc,bc,b7.length t]
theorem b7.get:∀{vs:aa V}{ds:aa D}{i:af}{d:D},b7 P H vs ds->ds[i]?=ab d->∃v,vs[i]?=ab v/\Rep P H v d
 |_,_,_,_,.nil,e=>by simp at e
 |_,_,0,_,.cons r _,e=>by simp at e;subst e;exact⟨_,rfl,r⟩
 |_,_,i+1,d,.cons _ t,e=>by
  obtain⟨v,h1,h2⟩:=b7.get t (by simpa using e);exact⟨v,by simpa using h1,h2⟩
theorem b7.at:∀{vs:aa V}{ds:aa D}{i:af}{v:V},b7 P H vs ds->vs[i]?=ab v->∃d,ds[i]?=ab d/\Rep P H v d
 |_,_,_,_,.nil,e=>by simp at e
 |_,_,0,_,.cons r _,e=>by simp at e;subst e;exact⟨_,rfl,r⟩
 |_,_,i+1,d,.cons _ t,e=>by
  obtain⟨v,h1,h2⟩:=b7.at t (by simpa using e);exact⟨v,by simpa using h1,h2⟩
theorem b7.append:∀{vs ws:aa V}{ds es:aa D},b7 P H vs ds->b7 P H ws es->b7 P H (vs++ws) (ds++es)
 |_,_,_,_,.nil,s=>s
 |_,_,_,_,.cons r t,s=>.cons r (b7.append t s)
theorem b7.take:∀{vs:aa V}{ds:aa D}(n:af),b7 P H vs ds->b7 P H (vs.take n) (ds.take n)
 |_,_,0,_=>.nil
 |_,_,_+1,.nil=>.nil
 |_,_,n+1,.cons r t=>.cons r (b7.take n t)
theorem b7.drop:∀{vs:aa V}{ds:aa D}(n:af),b7 P H vs ds->b7 P H (vs.drop n) (ds.drop n)
 |_,_,0,r=>r
 |_,_,_+1,.nil=>.nil
 |_,_,n+1,.cons _ t=>b7.drop n t
theorem b7.snoc(t:b7 P H vs ds)(r:Rep P H v d):b7 P H (vs++[v]) (ds++[d]):=t.append (.cons r .nil)
theorem Rep.uD:¬Rep P H v .uD:=λh=>by cases h
abbrev All:ak->Prop:=λ_=>gx
abbrev New(H:Hp):ak->Prop:=λa=>H a=ai
theorem Rep.all(r:Rep P H v d):Rep All H v d:=r.mono λ_ _=>trivial
theorem b7.all(r:b7 P H v d):b7 All H v d:=r.mono λ_ _=>trivial
theorem cH.new(s:cH H H'):∀a,New H' a->New H a:=λa h=>s.free h
theorem cH.upd(h:H a=ai):cH H (upd H a o):=λb u e=>by rw[bG (dO e h)];exact e
def ER(H:Hp)(σ:St)(ρ:aa D):Prop:=∀i,ρ.getD i .uD≠.uD->∃v,σ[i]?=ab (ab v)/\Rep All H v (ρ.getD i .uD)
theorem ER.same(e:ER H σ ρ)(s:cH H H'):ER H' σ ρ:=λi h=>by
 obtain⟨v,h1,h2⟩:=e i h;exact⟨v,h1,h2.same s⟩
theorem PE.imp(h:PE X e t)(i:∀σ H Q,t' σ H Q->t σ H Q):PE X e t':=λpins s σ H Q I q=>h pins s σ H Q I (i σ H Q q)
theorem PT.imp(h:PT X e t)(i:∀σ H Q,t' σ H Q->t σ H Q):PT X e t':=λpins s σ H Q I q=>h pins s σ H Q I (i σ H Q q)
theorem PA.imp(h:PA X e t)(i:∀σ H Q,t' σ H Q->t σ H Q):PA X e t':=λpos pins s σ H Q I q=>h pos pins s σ H Q I (i σ H Q q)
theorem Rep.dom(r:Rep P H v d):Rep (λa=>P a/\H a≠ai) H v d:=r.gU (λ_ _ e _=>e) λa o e p=>⟨p,by rw[e];simp⟩
theorem Rep.aAe(r:Rep P H v d)(k:BZ P H H')(m:∀a o,H a=ab o->P a->P' a):Rep P' H' v d:=r.gU k m
def aS3(P:ak->Prop)(H:Hp)(v:V):D->Prop
 |.non=>v=.non
 |.bl b=>v=.bl b
 |.int i=>v=.int i
 |.str x=>v=.str x
 |.tup ds=>∃a xs,v=.ref a/\H a=ab (.tup xs)/\b7 P H xs ds
 |.lst ds=>∃a xs,v=.ref a/\H a=ab (.lst xs)/\P a/\b7 P H xs ds
 |.cel b ds=>∃xs,v=.ref b/\H b=ab (.lst xs)/\P b/\b7 P H xs ds
 |.scr ds=>∃a xs,v=.ref a/\aDo H a xs/\b7 P H xs ds
 |.ins c fs=>∃a C dx vs,v=.ref a/\jn KFrag.K cg c=ab (ab (.ref C))/\H a=ab (.ins C dx vs)/\nM P H vs fs
 |.exc c fs=>∃a C dx,v=.ref a/\jn KFrag.K cg c=ab (ab (.ref C))/\H a=ab (.ext (XO a C dx))/\XDs H fs dx
 |.uD=>cw
 |.adr b=>v=.ref b
 |.dcl b ds=>v=.ref b/\Rep P H v (.dct ds)
 |_=>gx
theorem Rep.inv(r:Rep P H v d):aS3 P H v d:=by
 cases r with
 |non=>rfl
 |bl=>rfl
 |int=>rfl
 |str=>rfl
 |tup e r=>exact⟨_,_,rfl,e,r⟩
 |lst e p r=>exact⟨_,_,rfl,e,p,r⟩
 |cel e p r=>exact⟨_,rfl,e,p,r⟩
 |frz e r=>exact⟨_,_,rfl,e,r⟩
 |ins n e r=>exact⟨_,_,_,_,rfl,n,e,r⟩
 |exc n e r=>exact⟨_,_,_,rfl,n,e,r⟩
 |adr=>rfl
 |dlK e p r n=>exact⟨rfl,.dK e p r n⟩
 |dlT e p r n=>exact⟨rfl,.dT e p r n⟩
 |_=>trivial
end Mi
namespace L2
open PySem PySem.Spec PyProof.Rows
noncomputable def gZ(own:aa Str)(x:Str):Str:=if own.contains x then x++(" " : Str) else x
def clF(env:di):aa (Str×iF)->aa (Str×ak)->aa (Str×ak)
 |[],acc=>acc
 | (n,k)::r,acc=>clF env r (if k==.free then (n,(env.cells.lookup n).getD 0)::acc else acc)
theorem vH:∀(names:aa (Str×iF))(acc:aa (Str×ak)),(∀y∈names,y.2=.free->∃c,env.cells.lookup y.1=ab c)->
  (forIn names acc λx cs=>(match x with
   | (name,kind)=>if (kind==.free)=ae then cellOf env name >>= λc=>pure (AO ((name,c)::cs)) else pure (AO cs):ii (ForInStep (aa (Str×ak)))))=(pure (clF env names acc):ii _)
 |[],acc,_=>by rw[kc];rfl
 | (n,k)::r,acc,h=>by
  rw[nX];by_cases hk:(k==.free)=ae
  ·have hk':k=.free:=by simpa using hk
   obtain⟨c,e⟩:=h (n,k) (bn ..) hk';have e':cellOf env n=pure c:=by
    unfold cellOf;have e2:env.cells.lookup n=ab c:=e;rw[e2]
   dsimp only;rw[ao hk,e',pure_bind,pure_bind];dsimp only;rw[vH r _ λy hy=>h y (bz _ hy)];have e2:env.cells.lookup n=ab c:=e;simp only[clF,hk,eB,e2,xi]
  ·dsimp only;rw[aw hk,pure_bind];dsimp only;rw[vH r _ λy hy=>h y (bz _ hy)];simp only[clF,hk,iX,gN]
theorem W9(h:∀y∈scope.names,y.2=.free->∃c,env.cells.lookup y.1=ab c):closureFor scope env=pure (clF env scope.names []):=by
 unfold closureFor;have:=vH scope.names [] h;simp only[bind_pure] at *;exact this
theorem QG:∀{names:aa (Str×iF)}{acc:aa (Str×ak)}{x:Str}{c:ak},(∀y∈names,y.2=.free->∃c,env.cells.lookup y.1=ab c)->(∀x c,acc.lookup x=ab c->env.cells.lookup x=ab c)->
  (clF env names acc).lookup x=ab c->env.cells.lookup x=ab c
 |[],acc,x,c,_,h,e=>h x c e
 | (n,k)::r,acc,x,c,q,h,e=>by
  unfold clF at e;refine QG (λy hy=>q y (bz _ hy)) (λy d hy=>?_) e;by_cases hk:(k==.free)=ae
  ·rw[ao hk,iv] at hy;obtain⟨c',e'⟩:=q (n,k) (bn ..) (by simpa using hk);have e2:env.cells.lookup n=ab c':=e';cases hyn:y==n with
   |true=>
    rw[hyn] at hy;have:y=n:=by simpa using hyn
    subst this;rw[e2] at hy;simp only[xi] at hy;rw[e2];exact hy
   |false=>rw[hyn] at hy;exact h y d hy
  ·rw[aw hk] at hy;exact h y d hy
theorem aAf:∀{names:aa (Str×iF)}{acc:aa (Str×ak)}{x:Str},(∃c,acc.lookup x=ab c)->∃c,(clF env names acc).lookup x=ab c
 |[],_,_,h=>h
 | (n,k)::r,acc,x,⟨c,h⟩=>by
  unfold clF;refine aAf ?_;by_cases hk:(k==.free)=ae
  ·rw[ao hk,iv];cases x==n with
   |true=>exact⟨_,rfl⟩
   |false=>exact⟨c,h⟩
  ·rw[aw hk];exact⟨c,h⟩
theorem QH:∀{names:aa (Str×iF)}{acc:aa (Str×ak)}{x:Str},(x,ke)∈names->∃c,(clF env names acc).lookup x=ab c
 | (n,k)::r,acc,x,h=>by
  unfold clF;rcases bq.mp h with e|h
  ·cases e;refine aAf ?_;rw[ao 0x4,iv];simp
  ·exact QH h
structure cZ(N:aa Str)(sc scope:fR)(own:aa Str):Prop where
 kind:scope.kind=.function
 nocell:∀y∈scope.names,y.2≠.cell
 names:∀y∈scope.names,y.2=.local->scope.names.lookup y.1=ab .local
 free:∀y∈scope.names,y.2=.free->sc.names.lookup y.1=ab .cell\/sc.names.lookup y.1=ab .free
 ownl:∀x∈own,scope.names.lookup x=ab .local
 hid:∀x∈own,scope.names.lookup (x++(" " : Str))=ai
 loc:∀y∈scope.names,y.2=.local->y.1∈own\/y.1∉N
structure eG(X X':Cx)(scope:fR)(own:aa Str):Prop where
 prog:X'.prog=X.prog
 w:X'.w=X.w
 K:X'.K=X.K
 mg:X'.mg=X.mg
 base:X'.base=X.base
 A:X'.A=X.A
 N:X'.N=X.N.map (gZ own)++own
 scope:X'.env.scope=i6 scope X.env
 calm:X'.calm=X.calm
 xe:X'.xe=λ_ _=>cw
def TQ(X:Cx)(scope:fR)(cl:aa (Str×ak))(C:ak)(own:aa Str)(s₂:am)(H₂:Hp)(fp:aa ak):Cx:=
 {X with N:=X.N.map (gZ own)++own,s₀:=s₂,H₀:=H₂,env:=compEnvC scope cl C X.env,outer:=X.stack,stack:=X.stack,ex:=fp,fn:=λ_=>ag,pn:=[],xe:=λ_ _=>cw}
theorem aAg:eG X (TQ X scope cl C own s₂ H₂ fp) scope own:=
 ⟨rfl,rfl,rfl,rfl,rfl,rfl,rfl,rfl,rfl,rfl⟩
def Ext(σ σ2:St):Prop:=σ2.length=σ.length/\∀(i:af) v,σ[i]?=ab (ab v)->σ2[i]?=ab (ab v)
def W_(wi:TI)(g:TG)(tc:TT)(te:TE)(m:af):TE:=λσ H Q=>wi σ H λJ H1=>∀p,H1 p=ai->
 ∃W:af->af->aa V->Hp->Prop,(∃n,W 0 n [] (upd H1 p (.lst [])))/\∀i n ys H,W i n ys H->H p=ab (.lst ys)/\((J.stop i H/\Q (.ref p) H)\/(J.go i H/\ys.length<ba/\
  ∀x H2,J.yld i H x H2->g x (σ++bP m ai) H2 λσ2 H3=>Ext (σ++bP m ai) σ2/\tc σ2 H3 λb H4=>if b=ae then te σ2 H4 λy H5=>H5 p=ab (.lst ys)/\∃n',n'<n/\W (i+1) n' (ys++[y]) (upd H5 p (.lst (ys++[y])))
   else ∃n',n'<n/\W (i+1) n' ys H4))
section
theorem Inv.comp(I:Inv X pins σ H2 s2)(S:cZ X.N X.env.scope scope own)(hf:∀b∈fp,YX X pins H2 b)
 (hfx:∀b∈fp,b<s2.heap.objs.size)(hns:h1.Ns (s2.heap.objs.size+1) (λ_=>ai))
 (hk:∀b o,s2.heap.get? b=ab o->h1.get? b=ab o)(hacc:h1.get? s2.heap.objs.size=ab {cls:=.type "list",data:=.seq #[]}) :
  Inv (TQ X scope (clF X.env scope.names []) (s2.heap.objs.size+1) own s2 H2 fp) [] (σ++bP own.length ai) (upd H2 s2.heap.objs.size (.lst [])) {s2 with heap:=h1,toks:=t1}:=by
 have hD:H2 s2.heap.objs.size=ai:=I.hok.fresh (aS _);have hC:H2 (s2.heap.objs.size+1)=ai:=I.hok.fresh (gn _);have cells:∀y∈scope.names,y.2=.free->∃c,X.env.cells.lookup y.1=ab c:=λy hy hk=>I.ok.has y.1 (S.free y hy hk)
 have sub:∀x c,(clF X.env scope.names []).lookup x=ab c->X.env.cells.lookup x=ab c:=λx c e=>QG cells (λ_ _ h=>by simp at h) e
 have relk:∀x,(i6 scope X.env).names.lookup x=ab .cell\/(i6 scope X.env).names.lookup x=ab .free->(x,ke)∈scope.names:=by
  intro x hx;have go:∀(l:aa (Str×iF)),(∀y∈l,y.2≠.cell)->((l.map λ(n,k)=>if (k==ke&&X.env.scope.kind==.function&&X.env.kindOf n==ab .cell) then (n,xj) else (n,k)).lookup x=ab .cell\/(l.map λ(n,k)=>if (k==ke&&X.env.scope.kind==.function&&X.env.kindOf n==ab .cell) then (n,xj) else (n,k)).lookup x=ab .free)->(x,ke)∈l:=by
   intro l;induction l with
   |nil=>intro _ h;rcases h with h|h<;>simp at h
   |cons p l ih=>
    obtain⟨n,k⟩:=p;intro nc h;rw[bh] at h;dsimp only at h;by_cases hc:(k==ke&&X.env.scope.kind==.function&&X.env.kindOf n==ab .cell)=ae
    ·rw[ao hc] at h;rw[iv] at h;cases e:x==n with
     |true=>
      have:x=n:=by simpa using e
      subst this;simp only[aT] at hc;have:k=.free:=by simpa using hc.1.1
      subst this;exact bn ..
     |false=>
      rw[e] at h;exact bz _ (ih (λy hy=>nc y (bz _ hy)) h)
    ·rw[aw hc] at h;rw[iv] at h;cases e:x==n with
     |true=>
      have:x=n:=by simpa using e
      subst this;rw[e] at h;dsimp only at h;rcases h with h|h
      ·exact aE (c6 h) (nc (x,k) (bn ..))
      ·have:=c6 h;subst this;exact bn ..
     |false=>
      rw[e] at h;exact bz _ (ih (λy hy=>nc y (bz _ hy)) h)
  exact go scope.names S.nocell hx
 have hne:s2.heap.objs.size≠s2.heap.objs.size+1:=ck (ip _);have hlt:∀b o,s2.heap.get? b=ab o->b<s2.heap.objs.size:=λb o e=>bp e
 have hstk:∀b∈frs X.stack,b<s2.heap.objs.size:=λb hb=>by
  obtain⟨_,o,ho,_⟩:=I.stack.mem hb;exact hlt b o ho
 refine⟨⟨I.mod,?_,I.ok.glob,I.ok.blt,gn _,λx y c e1 e2=>I.ok.inj x y c (sub x c e1) (sub y c e2),λx hx=>?_,λ_ _ h=>(by cases h),I.ok.hd,I.ok.frames,.inl rfl,λb hb=>?_,λb o e=>I.bs b o e,?_,λb o e hb=>?_,λb hb hz=>?_,I.stack,I.Y9⟩,
  rfl,I.bare,Un.laid hk (aS _) hD,?_,λx c e=>?_,?_,λx c e=>?_,λp hp=>(by simp[TQ] at hp),?_,?_⟩
 ·exact S.kind
 ·have hx':(i6 scope X.env).names.lookup x=ab .cell\/(i6 scope X.env).names.lookup x=ab .free:=hx;exact QH (relk x hx')
 ·refine⟨ck (ie (hfx b hb)),λx c e z=>?_⟩;exact(hf b hb).2.2.2.2.1 x c (sub x c e) z
 ·exact c9 I.ok.bsz I.sz
 ·rcases(hf b hb).2.2.2.1 with z|z
  ·exact I.ok.noex b o e z
  ·exact aE (c5 (bp e) (c9 I.ok.bsz z)) (fg _)
 ·rcases bq.mp (I.R8 b hz) with z'|z'
  ·exact(hf b hb).2.1 z'
  ·exact(hf b hb).2.2.1 z'
 ·refine⟨_,hns,λi x v e1 e2 e3=>?_⟩;have hi:i<σ.length:=by
   rcases kf i σ.length with h|h
   ·exact h
   ·rw[fz h,je] at e2;split at e2<;>cases e2
  rw[ia hi] at e2;have hiN:i<X.N.length:=by rw[<-I.len];exact hi
  have e1':(X.N.map (gZ own))[i]?=ab x:=by
   have:(X.N.map (gZ own)++own)[i]?=ab x:=e1;rwa [ia (by rw[ax];exact hiN)] at this
  rw[jg] at e1';obtain⟨y,hy,ey⟩:=jk.mp e1';have hyN:y∈X.N:=nE hy;have e3':(i6 scope X.env).names.lookup x=ab .local\/(i6 scope X.env).names.lookup x=ab .cell\/(i6 scope X.env).names.lookup x=ab .free:=e3;have keys:∀z k,(i6 scope X.env).names.lookup z=ab k->∃k',scope.names.lookup z=ab k'/\(k=.local->k'=.local):=by
   intro z k;show(scope.names.map λ(n,k)=>if (k==ke&&X.env.scope.kind==.function&&X.env.kindOf n==ab .cell) then (n,xj) else (n,k)).lookup z=ab k->_;generalize scope.names=l;induction l with
   |nil=>intro h;simp at h
   |cons p l ih=>
    obtain⟨n,k0⟩:=p;intro h;rw[bh] at h;dsimp only at h;by_cases hc:(k0==ke&&X.env.scope.kind==.function&&X.env.kindOf n==ab .cell)=ae
    ·rw[ao hc,iv] at h;rw[iv];cases e:z==n with
     |true=>
      rw[e] at h;dsimp only at h;cases h;exact⟨k0,rfl,λq=>by cases q⟩
     |false=>rw[e] at h;exact ih h
    ·rw[aw hc,iv] at h;rw[iv];cases e:z==n with
     |true=>
      rw[e] at h;dsimp only at h;cases h;exact⟨_,rfl,λq=>q⟩
     |false=>rw[e] at h;exact ih h
  by_cases hown:own.contains y=ae
  ·exfalso;have ex:x=y++(" " : Str):=by rw[<-ey];unfold gZ;rw[ao hown]
   have hn:=S.hid y (by simpa using hown);rw[<-ex] at hn;rcases e3' with q|q|q
   all_goals
    obtain⟨k',hk',_⟩:=keys _ _ q;rw[hn] at hk';cases hk'
  ·have ex:x=y:=by rw[<-ey];unfold gZ;rw[aw hown]
   subst ex;rcases e3' with q|q
   ·exfalso;obtain⟨k',hk',hl⟩:=keys _ _ q;have:=hl rfl;subst this;rcases S.loc _ (lS hk') rfl with z|z
    ·exact hown (by simpa using z)
    ·exact z hyN
   ·have hfr:=relk x q;have hv:=S.free _ hfr rfl;obtain⟨m,_,hl⟩:=I.loc;obtain⟨u,ru,lk⟩:=hl i x v hy e2 (.inr hv);refine⟨u,ru,.inr ⟨q,?_⟩⟩;rcases lk with ⟨z,_⟩|⟨_,c,hc,o,ho,hd⟩
    ·have z':X.env.scope.names.lookup x=ab .local:=z;rcases hv with hv|hv<;>(rw[z'] at hv;cases hv)
    ·obtain⟨c',hc'⟩:=QH hfr;have:=sub x c' hc';rw[hc] at this;cases this;exact⟨c,hc',o,hk c o ho,hd⟩
 ·obtain⟨v,z⟩:=I.cell x c (sub x c e);obtain⟨o,ho,hd⟩:=z;exact⟨v,o,hk c o ho,hd⟩
 ·show upd H2 _ _ (s2.heap.objs.size+1)=ai;rw[bG (cj hne)];exact hC
 ·obtain⟨v,o,ho,_⟩:=I.cell x c (sub x c e);show upd H2 _ _ c=ai;rw[bG (ck (hlt c o ho))];exact I.freeC x c (sub x c e)
 ·exact I.hok.laid hk (aS _) ⟨cy _,[],0,.nil,hacc⟩
 ·show(σ++bP own.length ai).length=(X.N.map (gZ own)++own).length;rw[bj,bj,nI,ax,I.len]
end
section
variable {X:Cx} {scope:fR} {own:aa Str}
def cI(X':Cx)(σ:St)(fp:aa ak)(tn:af->aI->Prop)(W:af->af->aa V->Hp->Prop)(n:af)(s:am):Prop:=∃i ys H',Inv X' [] σ H' s/\tn i s.heap/\(∀b∈fp,H' b=ai)/\W i n ys H'
abbrev cE(X X':Cx)(use:au (aj->ii Unit))(QQ:aj->am->Prop)(p:ak):aj->am->Prop:=notedBy (av X.prog X.w) X.A X'.env λe s'=>me (av X.prog X.w) X.A X.xe use QQ (.ref p) (p+1) (.error e) s'
def cB(X':Cx)(σ:St)(fp:aa ak)(tn:af->aI->Prop)(W:af->af->aa V->Hp->Prop)(n i:af)(h:aI):Prop:=∀{ys':aa V}{H9:Hp}{s9:am}{σ9:St},Ext σ σ9->Inv X' ([]++xQ fp h) σ9 H9 s9->(∃n',n'<n/\W (i+1) n' ys' H9)->∃m,m<n/\cI X' σ fp tn W m s9
theorem aAh(S:cZ X.N X.env.scope scope own)(hcalm:X.calm=ae)(hi:PI X tg iter wi)
 (hg:∀X',eG X X' scope own->PG X' tg g)(hc:(ifs=[]/\tc=λ_ H Q=>Q ae H)\/∃c,ifs=[c]/\∀X',eG X X' scope own->PT X' c tc)(he:∀X',eG X X' scope own->PE X' elt te)
 (hs:∀x,fj iter X.env x=pure x)(I:Inv X pins σ H s)(h:W_ wi g tc te own.length σ H R)
 (last:∀{p C:ak} {H5:Hp} {s6:am} {m6:Str->au aj},Inv X pins σ H5 s6->YX X pins H5 C->s6.heap.Ns C m6->R (.ref p) H5->me (av X.prog X.w) X.A X.xe use QQ (.ref p) C (.ok .next) s6) :
  wpAny (av X.prog X.w) X.A (AQ (.ListComp elt [⟨tg,iter,ifs,0⟩] scope pos) scope X.env ps (xk []) ag (bf iter X.env) use) QQ X.xe s:=by
 have cells:∀y∈scope.names,y.2=.free->∃c,X.env.cells.lookup y.1=ab c:=λy hy hk=>I.ok.has y.1 (S.free y hy hk)
 refine wpAny_comprehension_free rfl hs (W9 cells) S.kind S.names (thn (hi pins s σ H _ I h) λxv s1 h1=>thn h1 λitv s2 h2=>?_);obtain⟨it,fp,tn,J,H2,e,I2,T,st2,f2,hW⟩:=h2;subst e;have hD:H2 s2.heap.objs.size=ai:=I2.hok.fresh (aS _);obtain⟨W,⟨n0,w0⟩,turn⟩:=hW _ hD;have hfx:∀b∈fp,b<s2.heap.objs.size:=λb hb=>by
  obtain⟨o,ho,_⟩:=T.obj 0 _ st2 b hb;exact bp ho
 refine iN (wpAny_newFunctionEnv S.nocell (by intro y hy;simp at hy) (λh₁ hns₁ hsb₁=>?_) S.kind);dsimp only at hns₁ hsb₁ ⊢;have hC:(s2.heap.push {cls:=.type "list",dict:=ai,data:=.seq ([]:aa aj).toArray}).objs.size=s2.heap.objs.size+1:=dv ..;have hne:s2.heap.objs.size≠s2.heap.objs.size+1:=ck (ip _);rw[hC] at hns₁ hsb₁ ⊢;have old:∀b o,s2.heap.get? b=ab o->h₁.get? b=ab o:=λb o e=>hsb₁.extBut b o (ck (ie (bp e))) (bu _ (bu _ e))
 have hacc:h₁.get? s2.heap.objs.size=ab {cls:=.type "list",data:=.seq #[]}:=hsb₁.extBut _ _ hne (bu _ (cx _ rfl));have I4:=Inv.comp (t1:=s2.toks+([]:aa (Str×aj)).length) I2 S f2 hfx hns₁ old hacc;generalize hX':TQ X scope (clF X.env scope.names []) (s2.heap.objs.size+1) own s2 H2 fp=X' at I4;have cc:eG X X' scope own:=by rw[<-hX'];exact aAg
 have eenv:X'.env=compEnvC scope (clF X.env scope.names []) (s2.heap.objs.size+1) X.env:=by rw[<-hX'];rfl
 have eA:X'.A=X.A:=cc.A;have ep:X'.prog=X.prog:=cc.prog;have ew:X'.w=X.w:=cc.w;have efs:X'.fs=frs X.stack:=by rw[<-hX'];rfl
 have eex:X'.ex=fp:=by rw[<-hX'];rfl
 have es0:X'.s₀=s2:=by rw[<-hX'];rfl
 have eH0:X'.H₀=H2:=by rw[<-hX'];rfl
 have epn:X'.pn=[]:=by rw[<-hX'];rfl
 have eK:X'.K=X.K:=cc.K;have exe:=cc.xe;have ecalm:X'.calm=ae:=cc.calm.trans hcalm
 -- the iterator's records within the block
 have fpok:∀{H':Hp},(∀b∈fp,H' b=ai)->∀b∈fp,YX X' [] H' b:=λ{H'} hn b hb=>by
  obtain⟨_,f1,f3,_,f5,_⟩:=f2 b hb;refine⟨hn b hb,?_,?_,.inl (by rw[eex];exact hb),λx c e=>?_,λp hp=>by rw[epn] at hp;simp at hp⟩
  ·rw[eenv];exact ck (ie (hfx b hb))
  ·rw[efs];intro z;rcases bq.mp (I2.R8 b z) with z|z
   ·exact f1 z
   ·exact f3 z
  ·rw[eenv] at e;exact f5 x c (QG cells (λ_ _ h=>by simp at h) e)
 have st4:tn 0 h₁:=T.keep _ _ _ st2 λb _ o e=>old b o e
 have fr4:∀b∈fp,(upd H2 s2.heap.objs.size (.lst [])) b=ai:=λb hb=>by rw[bG (ck (hfx b hb))];exact(f2 b hb).1
 have loop:∀s4:am,s4={s2 with heap:=h₁,toks:=s2.toks+([]:aa (Str×aj)).length}->
   codeAny (av X.prog X.w) X.A (.compLoop (.ListComp elt [⟨tg,iter,ifs,0⟩] scope pos) 0 (.ref it) (.ref s2.heap.objs.size) X'.env)
    (me (av X.prog X.w) X.A X.xe use QQ (.ref s2.heap.objs.size) (s2.heap.objs.size+1)) s4:=by
  rintro s4 rfl;have put:∀(n i:af)(ys:aa V)(s7:am)(σ8:St)(H8:Hp)(s8:am),cB X' (σ++bP own.length ai) fp tn W n i s7.heap->Inv X' ([]++xQ fp s7.heap) σ8 H8 s8->Ext (σ++bP own.length ai) σ8->ys.length<ba->(te σ8 H8 λy H5=>H5 s2.heap.objs.size=ab (.lst ys)/\∃n',n'<n/\W (i+1) n' (ys++[y]) (upd H5 s2.heap.objs.size (.lst (ys++[y]))))->
    wpAny (av X.prog X.w) X.A (bf elt X'.env) (λx s₄=>wpAny (av X.prog X.w) X.A (call (.builtin "list.append") [.ref s2.heap.objs.size,x]) (λ_ s₅=>∃m,m<n/\cI X' (σ++bP own.length ai) fp tn W m s₅) (cE X X' use QQ s2.heap.objs.size) s₄) (cE X X' use QQ s2.heap.objs.size) s8:=by
   intro n i ys s7 σ8 H8 s8 back I8 ext8 hlen q8;have he':=he X' cc _ s8 _ H8 _ I8 q8;rw[ep,ew,eA,exe] at he';refine fT he' (λyv s10 ⟨y,H10,I10,r10,p10,q10⟩=>?_) λ_ _ z=>eW z
   have hm:=uM _ s10 σ8 H10 (.ref s2.heap.objs.size) [y] (.ref s2.heap.objs.size) [yv] (λ_ H11=>∃n',n'<n/\W (i+1) n' (ys++[y]) H11) I10 rfl (.cons r10 .nil) ⟨s2.heap.objs.size,ys,y,rfl,rfl,p10,hlen,q10⟩;rw[ep,ew,eA,exe] at hm;exact fT hm (λ_ s11 ⟨_,H11,I11,_,q11⟩=>back ext8 I11 q11) λ_ _ z=>eW z
  have key:∀(PO:af->am->Prop),(∀(n i:af)(ys:aa V)(s7:am)(σ8:St)(H8:Hp)(s8:am),cB X' (σ++bP own.length ai) fp tn W n i s7.heap->Inv X' ([]++xQ fp s7.heap) σ8 H8 s8->Ext (σ++bP own.length ai) σ8->ys.length<ba->(tc σ8 H8 λb H4=>if b=ae then te σ8 H4 λy H5=>H5 s2.heap.objs.size=ab (.lst ys)/\∃n',n'<n/\W (i+1) n' (ys++[y]) (upd H5 s2.heap.objs.size (.lst (ys++[y]))) else ∃n',n'<n/\W (i+1) n' ys H4)->PO n s8)->
    ∀n s5,(cI X' (σ++bP own.length ai) fp tn W n s5)->wpAny (av X.prog X.w) X.A (gz (.ref it)) (λr s₁=>match r with
     |none=>me (av X.prog X.w) X.A X.xe use QQ (.ref s2.heap.objs.size) (s2.heap.objs.size+1) (.ok .next) s₁
     |some v=>wpAny (av X.prog X.w) X.A (nr tg (.ref it) v) (λ_ s₀=>wpAny (av X.prog X.w) X.A (nj tg X'.env v) (λ_ s₂=>PO n s₂) (cE X X' use QQ s2.heap.objs.size) s₀) (cE X X' use QQ s2.heap.objs.size) s₁) (cE X X' use QQ s2.heap.objs.size) s5:=by
   intro PO hPO;rintro n s5 ⟨i,ys,H5,I5,st5,fr5,w5⟩;obtain⟨hacc5,tr⟩:=turn i n ys H5 w5;rcases tr with ⟨stop,q⟩|⟨go,hlen,step⟩
   ·have done:=T.done X' ep ew eK ecalm i [] s5 _ H5 (cE X X' use QQ s2.heap.objs.size) I5 (fpok fr5) st5 stop;rw[eA] at done;refine thn done λr s6 ⟨hr,I6⟩=>?_
    subst hr;obtain⟨m6,hn6,_⟩:=id I6.loc;rw[eenv] at hn6;have u6:Un (frs X.stack) fp H2 H5 s2.heap s6.heap:=by
     have:=I6.base;rw[efs,eex,eH0,es0] at this;exact this
    have hCn:H5 (s2.heap.objs.size+1)=ai:=by
     have:=I6.free;rw[eenv] at this;exact this
    have hok6:HOk X.prog X.w H5 s6.heap:=by
     have:=I6.hok;rw[ep,ew] at this;exact this
    have hos:s6.os=s2.os:=by have:=I6.os;rw[es0] at this;exact this
    obtain⟨hh,gg,dd,tt,oo⟩:=s6;obtain rfl:oo=s2.os:=hos;have fin:=Inv.call (g':=gg) (d':=dd) (t':=tt) (ch:=fp) I2 u6 hok6 I6.bare λb hb=>⟨(f2 b hb).2.2.2.1,(f2 b hb).2.1,(f2 b hb).2.2.2.2.1,(f2 b hb).2.2.2.2.2⟩
    refine last fin ⟨hCn,hI (ie I2.lt),I2.aQw (gn _),.inr (c9 I2.sz (gn _)),λx c e z=>?_,λp hp z=>?_⟩ hn6 q
    ·obtain⟨v,qq⟩:=I2.cell x c e;exact aE (ie qq.lt) (by rw[z];exact fg _)
    ·exact aE (ie (bp (I2.pin p hp).1)) (by rw[z];exact fg _)
   ·have item:=T.item X' ep ew eK ecalm i [] s5 _ H5 (cE X X' use QQ s2.heap.objs.size) I5 (fpok fr5) st5 go;rw[eA] at item;refine thn item λr s6 ⟨u,hr,h6⟩=>?_
    subst hr;refine thn h6 λ_ s7 ⟨x,H7,I7,r7,y7,st7,fr7⟩=>?_
    have I7':=I7.pinned (fpok fr7) (T.obj _ _ st7);have hg':=hg X' cc _ s7 _ H7 x u _ I7' r7 (step x H7 y7);rw[ep,ew,eA,exe] at hg';refine fT hg' (λ_ s8 ⟨σ8,H8,I8,ext8,q8⟩=>?_) λ_ _ z=>eW z
    have back:cB X' (σ++bP own.length ai) fp tn W n i s7.heap:=by
     rintro ys' H9 s9 σ9 ex9 I9 ⟨n',hn',w9⟩;refine⟨n',hn',i+1,ys',H9,(I9.weak ex9.1.symm ex9.2).uK,T.keep _ _ _ st7 λb hb o e=>(I9.pin (b,o) (gm _ (gm _ (oX hb e)))).1,λb hb=>?_,w9⟩;obtain⟨o,e,d⟩:=T.obj _ _ st7 b hb;exact(I9.pin (b,o) (gm _ (gm _ (oX hb e)))).2.1
    exact hPO n i ys s7 σ8 H8 s8 back I8 ext8 hlen q8
  rcases hc with ⟨rfl,rfl⟩|⟨c,rfl,hc⟩
  ·refine PySem.W.kcp_loop _ (key _ λn i ys s7 σ8 H8 s8 back I8 ext8 hlen q8=>?_) n0 ⟨0,[],_,I4,st4,fr4,w0⟩;simp only[eB] at q8;exact put n i ys s7 σ8 H8 s8 back I8 ext8 hlen q8
  ·refine PySem.W.kct_loop _ (key _ λn i ys s7 σ8 H8 s8 back I8 ext8 hlen q8=>?_) n0 ⟨0,[],_,I4,st4,fr4,w0⟩;have hc':=hc X' cc _ s8 _ H8 _ I8 q8;rw[ep,ew,eA,exe] at hc';refine fT hc' (λb s9 ⟨H9,I9,q9⟩=>?_) λ_ _ z=>eW z
   cases b with
   |false=>
    simp only[iX,gN] at q9 ⊢;exact back ext8 I9 q9
   |true=>
    simp only[eB] at q9 ⊢;exact put n i ys s7 σ8 H9 s9 back I9 ext8 hlen q9
 have l4:=loop _ rfl;rw[eenv] at l4;exact codeAny_compStart_list l4 (T.self X.A 0 _ _ _ st4 l4)
theorem aDp(f:Inv X pins σ H5 s6)(k:YX X pins H5 C)(n:s6.heap.Ns C m6)(q:Q (.ref p) H5):me (av X.prog X.w) X.A X.xe ai (EP X pins σ Q) (.ref p) C (.ok .next) s6:=
 ⟨m6,n,λh' sb=>⟨.ref p,H5,Inv.turned f (λb o hb e=>sb.extBut b o hb e) k.1 k.2.1 k.2.2.2.1 k.2.2.2.2.1 k.2.2.2.2.2,rfl,q⟩⟩
theorem TV(S:cZ X.N X.env.scope scope own)(hcalm:X.calm=ae)(hi:PI X tg iter wi)
 (hg:∀X',eG X X' scope own->PG X' tg g)(he:∀X',eG X X' scope own->PE X' elt te)
 (hs:∀x,fj iter X.env x=pure x):PE X (.ListComp elt [⟨tg,iter,[],0⟩] scope pos) (W_ wi g (λ_ H Q=>Q ae H) te own.length):=by
 intro pins s σ H Q I h;rw[eval_ListComp];exact aAh S hcalm hi hg (.inl ⟨rfl,rfl⟩) he hs I h aDp
end
end L2
namespace Mi
open PySem L2 PySem.SeqAt
section
variable [KFrag]
theorem g8(I:Inv X pins σ H s)(e:H a=ab (.tup xs)):∃its:aa aj,Vals xs its/\s.heap.IsTuple a its.toArray:=by
 obtain⟨_,its,r,p⟩:xs.length<=ba/\∃its:aa aj,Vals xs its/\kJ s.heap a its.toArray:=I.hok a _ e;exact⟨its,r,p.tup⟩
theorem tH(I:Inv X pins σ H s)(e:SqL X.K H a xs):∃its:aa aj,Vals xs its/\s.heap.IsList a its.toArray:=by
 obtain⟨its,r,p,_⟩:=I.list e;exact⟨its,r,p.isList⟩
theorem Rep.mU(r:Rep P H v (.lst ds)):∃a xs,v=.ref a/\SqL K H a xs/\b7 P H xs ds:=by
 obtain⟨_,_,rfl,e,p,r⟩:=r.inv;exact⟨_,_,rfl,.inl (.inl e),r⟩
theorem Rep.fG(r:Rep P H v (.tup ds)):∃a xs,v=.ref a/\H a=ab (.tup xs)/\b7 P H xs ds:=by
 obtain⟨_,_,rfl,e,r⟩:=r.inv;exact⟨_,_,rfl,e,r⟩
mutual
theorem FP:∀(n:af)(d:D),d.gW n=ae->eqD d d=ae
 |_,.non,_=>rfl
 |_,.bl b,_=>by exact eo b
 |_,.int i,_=>by exact eo i
 |_,.str x,_=>by exact eo x
 |n+1,.tup xs,h=>by exact yG n xs h
 |n+1,.lst xs,h=>by exact yG n xs h
 |0,.tup xs,h=>by exact fx0 h
 |0,.lst xs,h=>by exact fx0 h
 |n,.dct _,h=>by cases n<;>exact fx0 h
 |n,.uD,h=>by cases n<;>exact fx0 h
 |n,.scr _,h=>by cases n<;>exact fx0 h
 |n,.fdc _,h=>by cases n<;>exact fx0 h
 |n,.exc _ _,h=>by cases n<;>exact fx0 h
 |n,.ins _ _,h=>by cases n<;>exact fx0 h
 |n,.adr _,h=>by cases n<;>exact fx0 h
 |n,.dcl _ _,h=>by cases n<;>exact fx0 h
 |n,.cel _ _,h=>by cases n<;>exact fx0 h
theorem yG:∀(n:af)(ds:aa D),D.fO n ds=ae->wX ds ds=ae
 |_,[],_=>rfl
 |n,d::ds,h=>by
  rw[D.fO,aT] at h;rw[wX,FP n d h.1,yG n ds h.2];rfl
end
theorem b7.aR2{n:af}{P P':ak->Prop}{H:Hp}(ih:∀{v:V} {d e:D},d.gW n=ae->e.gW n=ae->Rep P H v d->Rep P' H v e->d=e){vs:aa V}:∀{ds es:aa D},D.fO n ds=ae->D.fO n es=ae->b7 P H vs ds->b7 P' H vs es->ds=es:=by
 induction vs with
 |nil=>intro ds es h h' r q;cases r;cases q;rfl
 |cons v vs ih2=>
  intro ds es h h' r q;cases r with
  |cons r t=>
   cases q with
   |cons r' t'=>
    rw[D.fO,aT] at h h';rw[ih h.1 h'.1 r r',ih2 h.2 h'.2 t t']
theorem Rep.inj{P P':ak->Prop}{H:Hp}(n:af):∀{v:V}{d e:D},d.gW n=ae->e.gW n=ae->Rep P H v d->Rep P' H v e->d=e:=by
 induction n with
 |zero=>
  intro v d e h h' r q;cases d with
  |non=>obtain rfl:=r.inv;cases q;rfl
  |bl b=>obtain rfl:=r.inv;cases q;rfl
  |int i=>obtain rfl:=r.inv;cases q;rfl
  |str x=>obtain rfl:=r.inv;cases q;rfl
  |_=>exact fx0 h
 |succ n ih=>
  intro v d e h h' r q;cases d with
  |non=>obtain rfl:=r.inv;cases q;rfl
  |bl b=>obtain rfl:=r.inv;cases q;rfl
  |int i=>obtain rfl:=r.inv;cases q;rfl
  |str x=>obtain rfl:=r.inv;cases q;rfl
  |tup ds=>
   obtain⟨a,xs,rfl,e1,r1⟩:=r.inv;cases q with
   |tup e2 r2=>
    rw[e1] at e2;cases e2;rw[b7.aR2 ih h h' r1 r2]
   |lst e2 _ _=>rw[e1] at e2;cases e2
   |dK e2 _ _ _=>rw[e1] at e2;cases e2
   |dT e2 _ _ _=>rw[e1] at e2;cases e2
   |_=>exact fx0 h'
  |lst ds=>
   obtain⟨a,xs,rfl,e1,_,r1⟩:=r.inv;cases q with
   |tup e2 r2=>rw[e1] at e2;cases e2
   |lst e2 _ r2=>
    rw[e1] at e2;cases e2;rw[b7.aR2 ih h h' r1 r2]
   |dK e2 _ _ _=>rw[e1] at e2;cases e2
   |dT e2 _ _ _=>rw[e1] at e2;cases e2
   |_=>exact fx0 h'
  |_=>exact fx0 h
theorem vI:∀(xs ys:aa D),wX xs ys=((bw (min xs.length ys.length)).all (λj=>eqD (xs.getD j .non) (ys.getD j .non))&&xs.length==ys.length)
 |[],[]=>by simp[wX]
 |[],y::ys=>by simp[wX]
 |x::xs,[]=>by simp[wX]
 |x::xs,y::ys=>by
  have e:min (x::xs).length (y::ys).length=min xs.length ys.length+1:=by simp only[bc];lia
  rw[wX,vI xs ys,e,List.range_succ_eq_map,gS,List.all_map,AR]
  congr 1
  simp[C5]
theorem iW:∀{ds:aa D}{j:af},D.fO n ds=ae->j<ds.length->(ds.getD j .non).gW n=ae
 |[],j,_,h=>by simp at h
 |d::ds,0,h,_=>by rw[D.fO,aT] at h;exact h.1
 |d::ds,j+1,h,hj=>by
  rw[D.fO,aT] at h;simpa using iW h.2 (by simpa using hj)
theorem b7.getD(r:b7 P H vs ds)(hj:j<ds.length):∃v,vs[j]?=ab v/\Rep P H v (ds.getD j .non):=by
 obtain⟨v,h1,h2⟩:=r.get (i:=j) (d:=ds.getD j .non) (by simp[hj]);exact⟨v,h1,h2⟩
section
theorem yH(ha:a.gW 0=ae)(hb:b.gW 0=ae)(rx:Rep All H x a)(ry:Rep All H y b)(ru:RelV x u)(rv:RelV y v):RcAt A s u v (eqD a b)/\RcNeAt A s u v (!eqD a b)/\EqAt A s u v (eqD a b):=by
 cases rx with
 |non=>
  cases ru;cases ry with
  |non=>cases rv;exact⟨RcAt.none_none,RcNeAt.none_none,xl _⟩
  |bl _=>cases rv;exact⟨RcAt.none_bool _,RcNeAt.none_bool _,EqAt.none_bool _⟩
  |int _=>obtain⟨t,rfl⟩:=rv;exact⟨RcAt.none_int _ _,RcNeAt.none_int _ _,EqAt.none_int _ _⟩
  |str _=>obtain⟨t,rfl⟩:=rv;exact⟨RcAt.none_str _ _,RcNeAt.none_str _ _,EqAt.none_str _ _⟩
  |_=>exact fx0 hb
 |bl _=>
  cases ru;cases ry with
  |non=>cases rv;exact⟨RcAt.bool_none _,RcNeAt.bool_none _,EqAt.bool_none _⟩
  |bl _=>cases rv;exact⟨RcAt.bool_bool _ _,RcNeAt.bool_bool _ _,EqAt.bool_bool _ _⟩
  |int _=>obtain⟨t,rfl⟩:=rv;exact⟨RcAt.bool_int _ _ _,RcNeAt.bool_int _ _ _,EqAt.bool_int _ _ _⟩
  |str _=>obtain⟨t,rfl⟩:=rv;exact⟨RcAt.bool_str _ _ _,RcNeAt.bool_str _ _ _,EqAt.bool_str _ _ _⟩
  |_=>exact fx0 hb
 |int _=>
  obtain⟨t,rfl⟩:=ru;cases ry with
  |non=>cases rv;exact⟨RcAt.int_none _ _,RcNeAt.int_none _ _,EqAt.int_none _ _⟩
  |bl _=>cases rv;exact⟨RcAt.int_bool _ _ _,RcNeAt.int_bool _ _ _,EqAt.int_bool _ _ _⟩
  |int _=>obtain⟨t',rfl⟩:=rv;exact⟨RcAt.int_int _ _ _ _,RcNeAt.int_int _ _ _ _,EqAt.int_int _ _ _ _⟩
  |str _=>obtain⟨t',rfl⟩:=rv;exact⟨RcAt.int_str _ _ _ _,RcNeAt.int_str _ _ _ _,zr _ _ _ _⟩
  |_=>exact fx0 hb
 |str _=>
  obtain⟨t,rfl⟩:=ru;cases ry with
  |non=>cases rv;exact⟨RcAt.str_none _ _,RcNeAt.str_none _ _,EqAt.str_none _ _⟩
  |bl _=>cases rv;exact⟨RcAt.str_bool _ _ _,RcNeAt.str_bool _ _ _,EqAt.str_bool _ _ _⟩
  |int _=>obtain⟨t',rfl⟩:=rv;exact⟨RcAt.str_int _ _ _ _,RcNeAt.str_int _ _ _ _,zt _ _ _ _⟩
  |str _=>obtain⟨t',rfl⟩:=rv;exact⟨RcAt.str_str _ _ _ _,RcNeAt.str_str _ _ _ _,EqAt.str_str _ _ _ _⟩
  |_=>exact fx0 hb
 |_=>exact fx0 ha
theorem J4(I:Inv X pins σ H s):∀(n:af)(A:b5){x y:V}{a b:D}{u v:aj},A.units+n<b6->a.gW n=ae->b.gW n=ae->Rep All H x a->Rep All H y b->RelV x u->RelV y v->
  RcAt A s u v (eqD a b)/\RcNeAt A s u v (!eqD a b)/\EqAt A s u v (eqD a b):=by
 intro n;induction n with
 |zero=>exact λA=>λ_ ha hb rx ry ru rv=>yH ha hb rx ry ru rv
 |succ n ih=>
  intro A x y a b u v hu ha hb rx ry ru rv;have hu0:A.units<b6:=by lia
  have hu1:A.in1.units+n<b6:=by show A.units+1+n<b6;lia
  have itm:∀{xs ys:aa V}{ds es:aa D}{i1 i2:aa aj},D.fO n ds=ae->D.fO n es=ae->b7 All H xs ds->b7 All H ys es->Vals xs i1->Vals ys i2->∀j (g1:j<i1.toArray.size) (g2:j<i2.toArray.size),EqAt A.in1 s i1.toArray[j] i2.toArray[j] (eqD (ds.getD j .non) (es.getD j .non)):=by
   intro xs ys ds es i1 i2 ha hb r1 r2 vr1 vr2 j g1 g2;have z1:i1.toArray.size=ds.length:=by rw[bX,<-vr1.length,r1.length]
   have z2:i2.toArray.size=es.length:=by rw[bX,<-vr2.length,r2.length]
   obtain⟨v1,w1,rr1⟩:=r1.getD (j:=j) 0x1;obtain⟨v2,w2,rr2⟩:=r2.getD (j:=j) 0x1;obtain⟨u1,k1,l1⟩:=vr1.get w1;obtain⟨u2,k2,l2⟩:=vr2.get w2;have m1:i1.toArray[j]=u1:=by
    rw[ef (by simpa using g1)] at k1;simpa using c6 k1
   have m2:i2.toArray[j]=u2:=by
    rw[ef (by simpa using g2)] at k2;simpa using c6 k2
   rw[m1,m2];exact(ih A.in1 hu1 (iW ha 0x1) (iW hb 0x1) rr1 rr2 l1 l2).2.2
  cases a with
  |non=>
   cases b with
   |tup es=>
    cases rx.inv;cases ru;obtain⟨q,ys,rfl,e2,r2⟩:=ry.fG;cases rv;obtain⟨its2,vr2,h2⟩:=g8 I e2;exact⟨RcAt.none_tuple h2 hu0,RcNeAt.none_tuple h2 hu0,EqAt.none_tuple h2 hu0⟩
   |lst es=>
    cases rx.inv;cases ru;obtain⟨q,ys,rfl,e2,r2⟩:=ry.mU (K:=X.K);cases rv;obtain⟨its2,vr2,h2⟩:=tH I e2;exact⟨RcAt.none_list h2 hu0,RcNeAt.none_list h2 hu0,EqAt.none_list h2 hu0⟩
   |_=>first|exact yH rfl rfl rx ry ru rv|exact aE ry Rep.uD|exact fx0 hb
  |bl _=>
   cases b with
   |tup es=>
    cases rx.inv;cases ru;obtain⟨q,ys,rfl,e2,r2⟩:=ry.fG;cases rv;obtain⟨its2,vr2,h2⟩:=g8 I e2;exact⟨RcAt.bool_tuple _ h2 hu0,RcNeAt.bool_tuple _ h2 hu0,EqAt.bool_tuple _ h2 hu0⟩
   |lst es=>
    cases rx.inv;cases ru;obtain⟨q,ys,rfl,e2,r2⟩:=ry.mU (K:=X.K);cases rv;obtain⟨its2,vr2,h2⟩:=tH I e2;exact⟨RcAt.bool_list _ h2 hu0,RcNeAt.bool_list _ h2 hu0,EqAt.bool_list _ h2 hu0⟩
   |_=>first|exact yH rfl rfl rx ry ru rv|exact aE ry Rep.uD|exact fx0 hb
  |int _=>
   cases b with
   |tup es=>
    cases rx.inv;obtain⟨t1,rfl⟩:=ru;obtain⟨q,ys,rfl,e2,r2⟩:=ry.fG;cases rv;obtain⟨its2,vr2,h2⟩:=g8 I e2;exact⟨RcAt.int_tuple _ _ h2 hu0,RcNeAt.int_tuple _ _ h2 hu0,EqAt.int_tuple _ _ h2 hu0⟩
   |lst es=>
    cases rx.inv;obtain⟨t1,rfl⟩:=ru;obtain⟨q,ys,rfl,e2,r2⟩:=ry.mU (K:=X.K);cases rv;obtain⟨its2,vr2,h2⟩:=tH I e2;exact⟨RcAt.int_list _ _ h2 hu0,RcNeAt.int_list _ _ h2 hu0,EqAt.int_list _ _ h2 hu0⟩
   |_=>first|exact yH rfl rfl rx ry ru rv|exact aE ry Rep.uD|exact fx0 hb
  |str _=>
   cases b with
   |tup es=>
    cases rx.inv;obtain⟨t1,rfl⟩:=ru;obtain⟨q,ys,rfl,e2,r2⟩:=ry.fG;cases rv;obtain⟨its2,vr2,h2⟩:=g8 I e2;exact⟨RcAt.str_tuple _ _ h2 hu0,RcNeAt.str_tuple _ _ h2 hu0,EqAt.str_tuple _ _ h2 hu0⟩
   |lst es=>
    cases rx.inv;obtain⟨t1,rfl⟩:=ru;obtain⟨q,ys,rfl,e2,r2⟩:=ry.mU (K:=X.K);cases rv;obtain⟨its2,vr2,h2⟩:=tH I e2;exact⟨RcAt.str_list _ _ h2 hu0,RcNeAt.str_list _ _ h2 hu0,EqAt.str_list _ _ h2 hu0⟩
   |_=>first|exact yH rfl rfl rx ry ru rv|exact aE ry Rep.uD|exact fx0 hb
  |tup ds=>
   obtain⟨p,xs,rfl,e1,r1⟩:=rx.fG;cases ru;obtain⟨its1,vr1,h1⟩:=g8 I e1;replace ha:D.fO _ _=ae:=ha;cases b with
   |non=>cases ry.inv;cases rv;exact⟨RcAt.tuple_none h1 hu0,RcNeAt.tuple_none h1 hu0,EqAt.tuple_none h1 hu0⟩
   |bl _=>cases ry.inv;cases rv;exact⟨RcAt.tuple_bool _ h1 hu0,RcNeAt.tuple_bool _ h1 hu0,EqAt.tuple_bool _ h1 hu0⟩
   |int _=>cases ry.inv;obtain⟨t2,rfl⟩:=rv;exact⟨RcAt.tuple_int _ _ h1 hu0,RcNeAt.tuple_int _ _ h1 hu0,EqAt.tuple_int _ _ h1 hu0⟩
   |str _=>cases ry.inv;obtain⟨t2,rfl⟩:=rv;exact⟨RcAt.tuple_str _ _ h1 hu0,RcNeAt.tuple_str _ _ h1 hu0,EqAt.tuple_str _ _ h1 hu0⟩
   |tup es=>
    obtain⟨q,ys,rfl,e2,r2⟩:=ry.fG;cases rv;obtain⟨its2,vr2,h2⟩:=g8 I e2;replace hb:D.fO _ _=ae:=hb;have z1:its1.toArray.size=ds.length:=by rw[bX,<-vr1.length,r1.length]
    have z2:its2.toArray.size=es.length:=by rw[bX,<-vr2.length,r2.length]
    have he:=itm ha hb r1 r2 vr1 vr2;have ee:eqD (.tup ds) (.tup es)=((bw (min its1.toArray.size its2.toArray.size)).all (λj=>eqD (ds.getD j .non) (es.getD j .non))&&its1.toArray.size==its2.toArray.size):=by
     rw[show eqD (.tup _) (.tup _)=wX _ _ from rfl,vI,z1,z2]
    have r0:=RcAt.tuples h1 h2 hu0 he;have r0':=RcNeAt.tuples h1 h2 hu0 he;rw[<-ee] at r0 r0';refine⟨r0,r0',?_⟩;by_cases hpq:p=q
    ·subst hpq;have hab:(D.tup ds)=(.tup es):=Rep.inj (n+1) ha hb rx ry;rw[<-hab,FP (n+1) (.tup ds) ha];exact xl _
    ·exact AS hpq r0
   |lst es=>
    obtain⟨q,ys,rfl,e2,r2⟩:=ry.mU (K:=X.K);cases rv;obtain⟨its2,vr2,h2⟩:=tH I e2;exact⟨RcAt.tuple_list h1 h2 hu0,RcNeAt.tuple_list h1 h2 hu0,EqAt.tuple_list h1 h2 hu0⟩
   |_=>first|exact aE ry Rep.uD|exact fx0 hb
  |lst ds=>
   obtain⟨p,xs,rfl,e1,r1⟩:=rx.mU (K:=X.K);cases ru;obtain⟨its1,vr1,h1⟩:=tH I e1;replace ha:D.fO _ _=ae:=ha;cases b with
   |non=>cases ry.inv;cases rv;exact⟨RcAt.list_none h1 hu0,RcNeAt.list_none h1 hu0,EqAt.list_none h1 hu0⟩
   |bl _=>cases ry.inv;cases rv;exact⟨RcAt.list_bool _ h1 hu0,RcNeAt.list_bool _ h1 hu0,EqAt.list_bool _ h1 hu0⟩
   |int _=>cases ry.inv;obtain⟨t2,rfl⟩:=rv;exact⟨RcAt.list_int _ _ h1 hu0,RcNeAt.list_int _ _ h1 hu0,EqAt.list_int _ _ h1 hu0⟩
   |str _=>cases ry.inv;obtain⟨t2,rfl⟩:=rv;exact⟨RcAt.list_str _ _ h1 hu0,RcNeAt.list_str _ _ h1 hu0,EqAt.list_str _ _ h1 hu0⟩
   |tup es=>
    obtain⟨q,ys,rfl,e2,r2⟩:=ry.fG;cases rv;obtain⟨its2,vr2,h2⟩:=g8 I e2;exact⟨RcAt.list_tuple h1 h2 hu0,RcNeAt.list_tuple h1 h2 hu0,EqAt.list_tuple h1 h2 hu0⟩
   |lst es=>
    obtain⟨q,ys,rfl,e2,r2⟩:=ry.mU (K:=X.K);cases rv;obtain⟨its2,vr2,h2⟩:=tH I e2;replace hb:D.fO _ _=ae:=hb;have z1:its1.toArray.size=ds.length:=by rw[bX,<-vr1.length,r1.length]
    have z2:its2.toArray.size=es.length:=by rw[bX,<-vr2.length,r2.length]
    have he:=itm ha hb r1 r2 vr1 vr2;have r00:RcAt A s (.ref p) (.ref q) (eqD (.lst ds) (.lst es))/\RcNeAt A s (.ref p) (.ref q) (!eqD (.lst ds) (.lst es)):=by
     rw[show eqD (.lst _) (.lst _)=wX _ _ from rfl,vI];by_cases hz:ds.length=es.length
     ·have r0:=RcAt.lists h1 h2 0x1 hu0 he;have r0':=RcNeAt.lists h1 h2 0x1 hu0 he;rw[z1] at r0 r0';rw[show min ds.length es.length=ds.length by lia,show(ds.length==es.length)=ae by simpa using hz,xm];exact⟨r0,r0'⟩
     ·have hz':(its1.toArray.size !=its2.toArray.size)=ae:=by rw[z1,z2];simpa using hz
      rw[show(ds.length==es.length)=ag by simpa using hz,AD];exact⟨RcAt.lists_lengths h1 h2 hz' hu0,RcNeAt.lists_lengths h1 h2 hz' hu0⟩
    obtain⟨r0,r0'⟩:=r00;refine⟨r0,r0',?_⟩;by_cases hpq:p=q
    ·subst hpq;have hab:(D.lst ds)=(.lst es):=Rep.inj (n+1) ha hb rx ry;rw[<-hab,FP (n+1) (.lst ds) ha];exact xl _
    ·exact AS hpq r0
   |_=>first|exact aE ry Rep.uD|exact fx0 hb
  |_=>first|exact aE rx Rep.uD|exact fx0 ha
end
end
open PySem.AutoSeq1 (wpAny_loadPart')
open PySem.MeetsSeq PySem.MeetsSeq2 PySem.MeetsSeq3
variable [KFrag]
noncomputable def gV.op:gV->kg
 |.lt=>.Lt|.le=>.LtE|.gt=>.Gt|.ge=>.GtE
def aKt(op:kg)(A:b5)(s:am)(u v:aj)(b:aq):Prop:=
 ∀(prog:bS)(w:bm)(E:aj->am->Prop)(Q:aj->am->Prop),Q (.bool b) s->wpAny (av prog w) A (mf op u v) Q E s
def C2(o:gV)(A:b5)(s:am)(vs ws:aa aj)(xs ys:aa D):Prop:=
 vs.length=xs.length/\ws.length=ys.length/\∀(j:af)(v w:aj)(x y:D),vs[j]?=ab v->ws[j]?=ab w->xs[j]?=ab x->ys[j]?=ab y->
  EqAt A s v w (eqD x y)/\(eqD x y=ag->∀k,jJ o x y=ab k->aKt o.op A s v w k)
theorem C2.tail(h:C2 o A s (v::vs) (w::ws) (x::xs) (y::ys)):C2 o A s vs ws xs ys:=
 ⟨by simpa using h.1,by simpa using h.2.1,λj a b c d e1 e2 e3 e4=>h.2.2 (j+1) a b c d (by simpa using e1) (by simpa using e2) (by simpa using e3) (by simpa using e4)⟩
noncomputable def gV.bt:gV->dq
 |.lt=>dq.«tuple.__lt__»|.le=>dq.«tuple.__le__»|.gt=>dq.«tuple.__gt__»|.ge=>dq.«tuple.__ge__»
theorem QJ(o q:gV)(eq:q=o)(l b:ak)(items items2:ay aj)(n n2:af)(dd dd2:au ak)(sl sl2:ay (au aj))(xs ys:aa D)(res:aq)(hr:jK q xs ys=ab res) :
  jo (o.bt ⟨[.ref l,.ref b],[]⟩)
   (λA R s=>s.heap.get? l=ab {cls:=.type "tuple",dict:=dd,data:=.seq items n,slots:=sl}/\s.heap.get? b=ab {cls:=.type "tuple",dict:=dd2,data:=.seq items2 n2,slots:=sl2}/\
    C2 q A.in1 s items.toList items2.toList xs ys/\R (.ok (.ret (.bool res))) s):=by
 cases o<;>exact .of_wp λprog w A R s h=>by
  obtain⟨hp,g,d,tk,os⟩:=s;obtain⟨hl,hb,hC,h⟩:=h;have f2:=C6;have z1:items.size=xs.length:=by rw[<-hC.1];simp
  have z2:items2.size=ys.length:=by rw[<-hC.2.1];simp
  wp_walk using wpAny_loadPart' hl,wpAny_loadPart' hb,wpAny_forIn_list _ (λrest b s'=>b.1=ai/\s'=⟨hp,g,d,tk,os⟩/\∃(vs ws:aa aj)(xs' ys':aa D),rest=vs.zip ws/\
   C2 q A.in1 ⟨hp,g,d,tk,os⟩ vs ws xs' ys'/\xs'.length+items2.size=ys'.length+items.size/\jK q xs' ys'=ab res) _
  case turn=>
   subst eq;rintro⟨y,x⟩ rest b s' ⟨hb',rfl,vs,ws,xs',ys',hz,hC',hlen,hR⟩;cases vs with
   |nil=>rw[xn] at hz;cases hz
   |cons v vs=>
    cases ws with
    |nil=>rw[sK] at hz;cases hz
    |cons w' ws=>
     rw[n4] at hz;injection hz with hyx hrest
     injection hyx with hy hx
     subst hy hx;cases xs' with
     |nil=>exact aE hC'.1 0x2
     |cons x0 xs'=>
      cases ys' with
      |nil=>exact aE hC'.2.1 0x2
      |cons y0 ys'=>
       rw[jK] at hR;simp only[bc] at hlen;obtain⟨he,hlt⟩:=hC'.2.2 0 _ _ _ _ rfl rfl rfl rfl;refine al (he prog w _ _ ?_);cases e:eqD x0 y0 with
       |true=>
        rw[e] at hR;simp only[eB] at hR
        wp_walk
        exact⟨rfl,rfl,_,_,_,_,hrest,hC'.tail,by lia,hR⟩
       |false=>
        rw[e] at hR;simp only[iX,gN] at hR;have hri:=hlt e res hR prog w;dsimp only[gV.op] at hri
        wp_walk using hri
        exact⟨_,rfl,by simpa using h⟩
  case fin=>
   rintro⟨b1,b2⟩ s' ⟨hb',rfl,vs,ws,xs',ys',hz,hC',hlen,hR⟩;simp only at hb';subst hb';have hv:res=gV.nat q items.size items2.size:=by
    subst eq;cases xs' with
    |nil=>
     rw[jK] at hR;have:=c6 hR;rw[<-this];simp only[eL] at hlen;simp only[gV.nat]
     congr 1
     simp only[sL];lia
    |cons x0 xs'=>
     cases ys' with
     |nil=>
      rw[jK] at hR;have:=c6 hR;rw[<-this];simp only[eL,bc] at hlen;simp only[gV.nat,bc]
      congr 1
      simp only[sL];lia
     |cons y0 ys'=>
      exfalso;cases vs with
      |nil=>exact aE hC'.1 0x2
      |cons v vs=>
       cases ws with
       |nil=>exact aE hC'.2.1 0x2
       |cons w' ws=>rw[n4] at hz;cases hz
   rw[hv] at h;subst eq
   wp_walk
   exact⟨_,rfl,by simpa[C7,gV.nat] using h⟩
  case h=>
   exact⟨rfl,rfl,items.toList,items2.toList,xs,ys,rfl,hC,by lia,hr⟩
theorem aKt.tup(o:gV)(hl:s.heap.IsTuple l items)(hb:s.heap.IsTuple b items2)(hC:C2 o A.in1 s items.toList items2.toList xs ys)(hr:jK o xs ys=ab res)(hu:A.units<b6) :
  aKt o.op A s (.ref l) (.ref b) res:=λprog w E Q h=>by
 obtain⟨⟨cls,dd,data,sl⟩,ho,hc,n,hd⟩:=id hl;obtain⟨⟨cls2,dd2,data2,sl2⟩,ho2,hc2,n2,hd2⟩:=id hb;simp only at hc hd hc2 hd2;subst hc hd hc2 hd2;have M:=QJ o o rfl l b items items2 n n2 dd dd2 sl sl2 xs ys res hr;have G:_/\_/\C2 o A.in1 s items.toList items2.toList xs ys/\(oy res≠Value.notImplemented/\Q (.bool res) s):=⟨ho,ho2,hC,(λx=>nomatch x),h⟩
 cases o
 ·exact sM ⟨_,ho,rfl⟩ ⟨_,ho2,rfl⟩ PySem.F.slot_tuple_lt PySem.F.entry_tuple_lt (PySem.F.args_tuple_lt_2 _ _) M G hu
 ·exact sM ⟨_,ho,rfl⟩ ⟨_,ho2,rfl⟩ PySem.F.slot_tuple_le PySem.F.entry_tuple_le (PySem.F.args_tuple_le_2 _ _) M G hu
 ·exact sM ⟨_,ho,rfl⟩ ⟨_,ho2,rfl⟩ PySem.F.slot_tuple_gt PySem.F.entry_tuple_gt (PySem.F.args_tuple_gt_2 _ _) M G hu
 ·exact sM ⟨_,ho,rfl⟩ ⟨_,ho2,rfl⟩ PySem.F.slot_tuple_ge PySem.F.entry_tuple_ge (PySem.F.args_tuple_ge_2 _ _) M G hu
section
theorem TX(o:gV)(na:∀ds,a≠.tup ds)(rx:Rep All H x a)(ry:Rep All H y b)(ru:RelV x u)(rv:RelV y v)(hk:jJ o a b=ab k):aKt o.op A s u v k:=by
 cases a with
 |int i=>
  cases b with
  |int j=>
   cases rx;cases ry;obtain⟨t,rfl⟩:=ru;obtain⟨t',rfl⟩:=rv;rw[jJ] at hk;have:=c6 hk;subst this;cases o with
   |lt=>exact λprog w E Q h=>(C8 h:wpAny (av prog w) A (dg .Lt (.int i t) (.int j t')) Q E s)
   |le=>exact λprog w E Q h=>(C9 h:wpAny (av prog w) A (dg .LtE (.int i t) (.int j t')) Q E s)
   |gt=>exact λprog w E Q h=>(Da h:wpAny (av prog w) A (dg .Gt (.int i t) (.int j t')) Q E s)
   |ge=>exact λprog w E Q h=>(Db h:wpAny (av prog w) A (dg .GtE (.int i t) (.int j t')) Q E s)
  |_=>exact nx0 hk
 |str i=>
  cases b with
  |str j=>
   cases rx;cases ry;obtain⟨t,rfl⟩:=ru;obtain⟨t',rfl⟩:=rv;rw[jJ] at hk;have:=c6 hk;subst this;cases o with
   |lt=>exact λprog w E Q h=>(Dc h:wpAny (av prog w) A (dg .Lt (.str i t) (.str j t')) Q E s)
   |le=>exact λprog w E Q h=>(PySem.P.le_str h:wpAny (av prog w) A (dg .LtE (.str i t) (.str j t')) Q E s)
   |gt=>exact λprog w E Q h=>(PySem.P.gt_str h:wpAny (av prog w) A (dg .Gt (.str i t) (.str j t')) Q E s)
   |ge=>exact λprog w E Q h=>(PySem.P.ge_str h:wpAny (av prog w) A (dg .GtE (.str i t) (.str j t')) Q E s)
  |_=>exact nx0 hk
 |tup ds=>exact aE rfl (na ds)
 |_=>cases b<;>exact nx0 hk
theorem QK(I:Inv X pins σ H s)(o:gV):∀(n:af)(A:b5){x y:V}{a b:D}{u v:aj}{k:aq},A.units+n<b6->a.gW n=ae->b.gW n=ae->Rep All H x a->Rep All H y b->RelV x u->RelV y v->
  jJ o a b=ab k->aKt o.op A s u v k:=by
 intro n;induction n with
 |zero=>
  intro A x y a b u v k hu ha hb rx ry ru rv hk;cases a with
  |tup _=>exact fx0 ha
  |_=>exact TX o (by intro ds z;cases z) rx ry ru rv hk
 |succ n ih=>
  intro A x y a b u v k hu ha hb rx ry ru rv hk;have hu0:A.units<b6:=by lia
  have hu1:A.in1.units+n<b6:=by show A.units+1+n<b6;lia
  cases a with
  |tup ds=>
   cases b with
   |tup es=>
    obtain⟨p,xs,rfl,e1,r1⟩:=rx.fG;cases ru;obtain⟨its1,vr1,h1⟩:=g8 I e1;obtain⟨q,ys,rfl,e2,r2⟩:=ry.fG;cases rv;obtain⟨its2,vr2,h2⟩:=g8 I e2;rw[D.gW] at ha hb;rw[jJ] at hk;have hC:∀o',o'=o->C2 o' A.in1 s its1.toArray.toList its2.toArray.toList ds es:=by
     rintro o' rfl;refine⟨by rw[n9,<-vr1.length,r1.length],by rw[n9,<-vr2.length,r2.length],λj v w x y a1 a2 a3 a4=>?_⟩;rw[n9] at a1 a2;obtain⟨v1,w1,rr1⟩:=r1.get a3;obtain⟨v2,w2,rr2⟩:=r2.get a4;obtain⟨u1,k1,l1⟩:=vr1.get w1;obtain⟨u2,k2,l2⟩:=vr2.get w2;rw[a1] at k1;cases k1;rw[a2] at k2;cases k2;have g1:x.gW n=ae:=by
      have:=iW ha (c_.mp a3).1;rwa [cu,a3] at this
     have g2:y.gW n=ae:=by
      have:=iW hb (c_.mp a4).1;rwa [cu,a4] at this
     exact⟨(J4 I n A.in1 hu1 g1 g2 rr1 rr2 l1 l2).2.2,λ_ k hk=>ih A.in1 hu1 g1 g2 rr1 rr2 l1 l2 hk⟩
    exact aKt.tup o h1 h2 (hC o rfl) hk hu0
   |_=>exact nx0 hk
  |_=>exact TX o (by intro ds z;cases z) rx ry ru rv hk
end
end Mi
namespace TS
open PySem PySem.W PyProof.Rows
def Wq(n:af)(r:af->af):mh α->(α->Prop)->Prop
 |.ret a,Q=>Q a
 |.ask i j k,Q=>i<n/\j<n/\Wq n r (k (decide (r i<r j))) Q
theorem Wq.mono{Q Q':α->Prop}(h:∀a,Q a->Q' a):∀{t:mh α},Wq n r t Q->Wq n r t Q'
 |.ret a,w=>h a w
 |.ask i j k,w=>⟨w.1,w.2.1,Wq.mono h w.2.2⟩
theorem Wq.bind{Q:β->Prop}{f:α->mh β}:∀{t:mh α},Wq n r t (λa=>Wq n r (f a) Q)->Wq n r (t.bind f) Q
 |.ret a,w=>w
 |.ask i j k,w=>⟨w.1,w.2.1,Wq.bind w.2.2⟩
theorem Wq.two{A B : mh α}{Q : α->Prop}(h1 : i < n)(h2 : j < n)(t : r i < r j->Wq n r A Q)(f : r j<=r i->Wq n r B Q) : Wq n r (.ask i j λc=>if c=ae then A else B) Q:=by
 refine⟨h1,h2,?_⟩;by_cases c:r i<r j
 ·rw[bi c];exact t c
 ·rw[cK c];exact f (AK c)
def Okp(n:af)(p:ay af):Prop:=p.Perm (bw n).toArray
theorem Okp.size(h:Okp n p):p.size=n:=by rw[Dd h];simp
theorem Okp.lt(h:Okp n p)(n0:0<n)(i:af):p.getD i 0<n:=by
 by_cases z:i<p.size
 ·have e:p.getD i 0=p[i]:=by simp[mi,z]
  rw[e];have m:p[i]∈(bw n).toArray:=(De h).mp (Array.getElem_mem z);simpa using m
 ·have e:p.getD i 0=0:=by simp[mi,z]
  rw[e];exact n0
theorem Okp.rev(h:Okp n p)(i j:af):Okp n (kT p i j):=(mirror_perm _ _ _ _).trans h
theorem gd(p:ay af)(i:af):p.getD i 0=(p[i]?).getD 0:=by
 by_cases z:i<p.size
 ·simp[mi,z]
 ·simp[mi,z]
section
variable {n:af} {r:af->af} {p:ay af}
noncomputable def gr(r:af->af)(p:ay af)(i:af):af:=r (p.getD i 0)
theorem aAi(hj:j<=p.size)(k:af):gr r (kT p i j) k=if i<=k/\k<j then gr r p (i+j-1-k) else gr r p k:=by
 unfold gr kT;rw[gd,getElem?_mirror_all hj];split<;>rw[gd]
theorem QL(hj:j<=p.size)(h:∀k,i<=k->k<j->gr r p k=gr r p (j-1))(k:af):gr r (kT p i j) k=gr r p k:=by
 rw[aAi hj];split
 ·rename_i z;rw[h k z.1 z.2,h (i+j-1-k) 0x1 0x1]
 ·rfl
def Up(r:af->af)(p:ay af)(m:af):Prop:=∀i j,i<=j->j<m->gr r p i<=gr r p j
def Dn(r:af->af)(p:ay af)(m:af):Prop:=∀i j,i<=j->j<m->gr r p j<=gr r p i
theorem Up.snoc(h:Up r p m)(h1:1<=m)(c:gr r p (m-1)<=gr r p m):Up r p (m+1):=λi j a b=>by
 by_cases z:j<m
 ·exact h i j a z
 ·obtain rfl:j=m:=by lia
  by_cases y:i=j
  ·rw[y];exact aS _
  ·have:=h i (j-1) 0x1 0x1;lia
theorem Dn.snoc(h:Dn r p m)(h1:1<=m)(c:gr r p m<=gr r p (m-1)):Dn r p (m+1):=λi j a b=>by
 by_cases z:j<m
 ·exact h i j a z
 ·obtain rfl:j=m:=by lia
  by_cases y:i=j
  ·rw[y];exact aS _
  ·have:=h i (j-1) 0x1 0x1;lia
theorem aAj(ok:Okp n p)(n0:0<n):∀(f m:af),1<=m->m+f<=n->Up r p m->Wq n r (kas_asc p f m) λm'=>m<=m'/\m'<=m+f/\Up r p m'/\(m'<m+f->gr r p m'<gr r p (m'-1))
 |0,m,_,_,u=>⟨aS _,aS _,u,λh=>aE h (fg _)⟩
 |f+1,m,h1,h2,u=>by
  refine Wq.two (ok.lt n0 _) (ok.lt n0 _) (λc=>⟨aS _,by lia,u,λ_=>c⟩) λc=>?_
  exact(aAj ok n0 f (m+1) 0x1 0x1 (u.snoc h1 c)).mono λm' w=>⟨by lia,by lia,w.2.2.1,λh=>w.2.2.2 0x1⟩
structure Ds(n:af)(r:af->af)(p:ay af)(m q:af):Prop where
 ok:Okp n p
 m1:1<=m
 mn:m<=n
 qm:q+1<=m
 dn:Dn r p m
 eq:∀i,m-(q+1)<=i->i<m->gr r p i=gr r p (m-1)
theorem Ds.next(d:Ds n r p m q)(hm:m+1<=n)(c:gr r p m<gr r p (m-1)):Ds n r p (m+1) 0:=⟨d.ok,by lia,hm,by lia,d.dn.snoc d.m1 (lv c),λi a b=>by rw[show i=m by lia];rfl⟩
theorem Ds.turn(d:Ds n r p m q):Ds n r (kT p (m-(q+1)) m) m q:=by
 have s:=QL (r:=r) (i:=m-(q+1)) (by rw[d.ok.size];exact d.mn) d.eq;exact⟨d.ok.rev _ _,d.m1,d.mn,d.qm,λi j a b=>by rw[s,s];exact d.dn i j a b,λi a b=>by rw[s,s];exact d.eq i a b⟩
theorem FQ(n0:0<n):∀(f:af)(p:ay af)(m q:af),m+f<=n->Ds n r p m q->Wq n r (kas_desc f p m q) λt=>Ds n r t.1 t.2.1 t.2.2
 |0,p,m,q,_,d=>d
 |f+1,p,m,q,h,d=>by
  refine Wq.two (d.ok.lt n0 _) (d.ok.lt n0 _) (λc=>?_) λc=>Wq.two (d.ok.lt n0 _) (d.ok.lt n0 _) (λ_=>d) λe=>?_
  ·split
   ·have s:=QL (r:=r) (i:=m-(q+1)) (by rw[d.ok.size];exact d.mn) d.eq;exact FQ n0 f _ (m+1) 0 0x1 (d.turn.next 0x1 (by rw[s,s];exact c))
   ·exact FQ n0 f _ (m+1) 0 0x1 (d.next 0x1 c)
  ·have eq:gr r p m=gr r p (m-1):=Nat.le_antisymm e c;refine FQ n0 f p (m+1) (q+1) 0x1 ⟨d.ok,by lia,by lia,by have:=d.qm;lia,d.dn.snoc d.m1 (vx eq),λi a b=>?_⟩;show gr r p i=gr r p m;by_cases z:i=m
   ·rw[z]
   ·rw[d.eq i 0x1 0x1,eq]
def Cn(n:af)(r:af->af)(t:af×ay af):Prop:=Okp n t.2/\1<=t.1/\t.1<=n/\Up r t.2 t.1
theorem TY(n0:0<n)(d:Ds n r p m q):Wq n r (kas_tail3 m n p) (Cn n r):=by
 have u:Up r (kT p 0 m) m:=λi j a b=>by
  rw[aAi (by rw[d.ok.size];exact d.mn),aAi (by rw[d.ok.size];exact d.mn),ao 0x1,ao 0x1];exact d.dn _ _ 0x1 0x1
 refine Wq.bind ((aAj (d.ok.rev 0 m) n0 (n-m) m d.m1 (by have:=d.mn;lia) u).mono λm' w=>?_);have:=d.m1;have:=d.mn;exact⟨d.ok.rev 0 m,by lia,by lia,w.2.2.1⟩
theorem aAk(n0:0<n)(d:Ds n r p (m+1) 0):Wq n r (kas_descPart m n p) (Cn n r):=by
 refine Wq.bind ((FQ n0 _ p (m+1) 0 (by have:=d.mn;lia) d).mono λt d=>?_);split
 ·exact TY n0 d.turn
 ·exact TY n0 d
theorem aDq(ok:Okp n p)(n0:0<n):Wq n r (kas_count n p) (Cn n r):=by
 refine Wq.bind ((aAj ok n0 (n-1) 1 (aS _) 0x1 λi j a b=>by rw[show i=j by lia];exact aS _).mono λm w=>?_);obtain⟨w1,w2,u,w4⟩:=w;split
 ·exact⟨ok,w1,by lia,u⟩
 ·rename_i hm;have hm:m≠n:=by simpa using hm
  have lt:=w4 0x1;split
  ·refine Wq.two (ok.lt n0 _) (ok.lt n0 _) (λ_=>⟨ok,w1,by lia,u⟩) λc=>?_
   ·have c:gr r p (m-1)<=gr r p 0:=c;have e:∀k,0<=k->k<m->gr r p k=gr r p (m-1):=λk _ b=>by
     have:=u 0 k 0x1 b;have:=u k (m-1) 0x1 0x1;lia
    have s:=QL (r:=r) (by rw[ok.size];lia) e;have d:Ds n r (kT p 0 m) m (m-1):=⟨ok.rev 0 m,w1,by lia,by lia,λi j a b=>by rw[s,s,e i 0x1 0x1,e j 0x1 b];exact aS _,λi a b=>by rw[s,s];exact e i 0x1 b⟩
    exact aAk n0 (d.next 0x1 (by rw[s,s];exact lt))
  ·obtain rfl:m=1:=by lia
   have d:Ds n r p 1 0:=⟨ok,aS _,by lia,aS _,λi j a b=>by rw[show i=j by lia];exact aS _,λi a b=>by rw[show i=0 by lia]⟩
   exact aAk n0 (d.next 0x1 lt)
theorem FW(ok:Okp n p)(n0:0<n)(u:Up r p k):∀(f l e:af),l<=e->e<=k->e-l<=f->(∀i,i<l->gr r p i<=gr r p k)->(∀i,e<=i->i<k->gr r p k<gr r p i)->Wq n r (kas_place p k f l e) λx=>x<=k/\(∀i,i<x->gr r p i<=gr r p k)/\∀i,x<=i->i<k->gr r p k<gr r p i
 |0,l,e,h1,h2,h3,a,b=>⟨by lia,a,λi c=>b i 0x1⟩
 |f+1,l,e,h1,h2,h3,a,b=>by
  unfold kas_place;split
  ·exact⟨by lia,a,λi c=>b i 0x1⟩
  ·refine Wq.two (ok.lt n0 _) (ok.lt n0 _) (λc=>?_) λc=>?_
   ·refine FW ok n0 u f l ((l+e) / 2) 0x1 0x1 0x1 a λi x y=>?_
    have:=u ((l+e) / 2) i x y;exact c5 c this
   ·refine FW ok n0 u f ((l+e) / 2+1) e 0x1 h2 0x1 (λi x=>?_) b;have:=u i ((l+e) / 2) 0x1 0x1;exact c9 this c
theorem aM6(hs:k<p.size)(hl:l<=k)(i:af):gr r (bubble p k (k-l)) i=if i=l then gr r p k else if l<i/\i<=k then gr r p (i-1) else gr r p i:=by
 unfold gr;rw[gd,getElem?_bubble hs _ 0x1,show k-(k-l)=l by lia];by_cases z:i=l
 ·rw[ao z,ao z,gd]
 ·rw[aw z,aw z];by_cases y:l<i/\i<=k
  ·rw[ao y,ao y,gd]
  ·rw[aw y,aw y,gd]
theorem aFt(n0:0<n):∀(f:af)(p:ay af)(k:af),Okp n p->k+f=n->Up r p k->Wq n r (kas_bin f p k) λp=>Okp n p/\Up r p n
 |0,p,k,ok,h,u=>⟨ok,by rw[<-h];exact u⟩
 |f+1,p,k,ok,h,u=>by
  refine Wq.bind ((FW ok n0 u k 0 k (cy _) (aS _) 0x1 (λi x=>aE x (AT _)) λi x y=>aE y 0x1).mono λl w=>?_);obtain⟨w1,w2,w3⟩:=w;refine aFt n0 f _ (k+1) ((bubble_perm _ _ _).trans ok) 0x1 λi j a b=>?_
  have g:=aM6 (r:=r) (p:=p) (k:=k) (l:=l) (by rw[ok.size];lia) w1;rw[g,g];have h1:=w2 i;have h2:=w2 (i-1);have h3:=w3 (j-1);have h4:=w3 j;have h5:=u i j;have h6:=u i (j-1);have h7:=u (i-1) (j-1);have h8:=u (i-1) j
  repeat' split
  all_goals lia
theorem aI0(n0:0<n):Wq n r (kas_sort n) λp=>Okp n p/\Up r p n:=by
 refine Wq.bind ((aDq (AU _) n0).mono λt w=>?_);obtain⟨ok,w1,w2,u⟩:=w;split
 ·rw[show max t.1 1=t.1 by lia];exact aFt n0 _ _ _ ok 0x1 u
 ·rename_i h;exact⟨ok,by rw[show n=t.1 by lia];exact u⟩
end
noncomputable def gt(a:ay jp)(i:af):jp:=a.getD i (.none,.none)
theorem aFu{cmp:af->af->(aq->am->Prop)->am->Prop}{Q:α->Prop}(h:∀i j,i<n->j<n->∀C:aq->am->Prop,C (decide (r i<r j)) s->cmp i j C s):∀{t:mh α},Wq n r t Q->t.kasWp cmp (λa s'=>s'=s/\Q a) s
 |.ret a,w=>⟨rfl,w⟩
 |.ask i j k,w=>h i j w.1 w.2.1 _ (aFu h w.2.2)
theorem aFv{p q:af->aq}{a:af}:∀{l:aa af},(∀x,p x=ae->q x=ae)->a∈l->q a=ae->p a=ag->l.countP p<l.countP q
 |[],_,h,_,_=>by cases h
 |b::l,h,m,h1,h2=>by
  have le:l.countP p<=l.countP q:=AV λx _=>h x
  rw[AW,AW];rcases bq.mp m with rfl|m
  ·rw[h1,h2,ao rfl,aw 0x2];lia
  ·have:=aFv h m h1 h2;have:=h b;split<;>split<;>first|lia|(rename_i x y;exact aE (this x) y)
theorem aI1(n:af)(lt:af->af->aq)(ir:∀i,lt i i=ag)(tr:∀i j k,lt i j=ae->lt j k=ae->lt i k=ae)(nt:∀i j k,lt i k=ae->lt i j=ae\/lt j k=ae):∃r:af->af,∀i j,i<n->decide (r i<r j)=lt i j:=by
 refine⟨λi=>(bw n).countP λk=>lt k i,λi j hi=>?_⟩;cases c:lt i j with
 |true=>exact bi (aFv (a:=i) (λk h=>tr _ _ _ h c) (fN.mpr hi) c (ir i))
 |false=>exact cK (xo.mpr (AV λk _ h=>(nt k i j h).resolve_right (by rw[c];simp)))
theorem FZ(h64:vs.length<64)(ho:s.heap.get? a=ab (dt "list" vs.toArray n))(hn:vs.length<=ba)
 (hk:2<=vs.length->∃(κ:mj) (rk:af->af),
   (∀Q:mj->am->Prop,Q κ {s with heap:=((s.heap.update a (dA λ_=>(#[]:ay aj))).push (dt "tuple" vs.toArray 0)).push (dt "list" #[] 0)}->wpAny (av prog w) A (xq vs.toArray) Q E {s with heap:=((s.heap.update a (dA λ_=>(#[]:ay aj))).push (dt "tuple" vs.toArray 0)).push (dt "list" #[] 0)})/\
   (∀i j,i<vs.length->j<vs.length->∀C:aq->am->Prop,C (decide (rk i<rk j)) {s with heap:=((s.heap.update a (dA λ_=>(#[]:ay aj))).push (dt "tuple" vs.toArray 0)).push (dt "list" #[] 0)}->kas_cmp prog w A κ (e6 vs) i j C {s with heap:=((s.heap.update a (dA λ_=>(#[]:ay aj))).push (dt "tuple" vs.toArray 0)).push (dt "list" #[] 0)})/\
   ∀p:ay af,Okp vs.length p->Up rk p vs.length->P (.done (.ret .none)) {s with heap:=xr s.heap a vs ((p.map (kas_item (e6 vs))).map (·.2))})
 (h1:vs.length<2->P (.done (.ret .none)) {s with heap:=xr s.heap a vs ((e6 vs).map (·.2))}) :
  wpAny (av prog w) A (dq.«list.sort» ⟨[.ref a],[]⟩) P E s:=by
 rw[list_sort_plain];have ha:a<s.heap.objs.size:=bp ho;refine al (listItems_at ho rfl ?_);refine al (xu ho rfl ?_ (by rw[bX];exact hn) (cy _));obtain⟨e1,ho1⟩:∃e1,(s.heap.update a (dA λ_=>(#[]:ay aj))).get? a=ab (dt "list" #[] e1):=⟨_,get?_update_seq ho (λ_=>#[])⟩
 refine al (xw ho1 rfl ?_);refine al (xy ?_ (by show vs.length<=_;exact hn));refine al (AX ?_ (cy _));refine eh ?_;have ho6:(((s.heap.update a (dA λ_=>(#[]:ay aj))).push (dt "tuple" vs.toArray 0)).push (dt "list" #[] 0)).get? a=ab (dt "list" #[] e1):=by
  rw[AY _ _ _ (by rw[size_push',xz];exact ck (ie ha)),AY _ _ _ (by rw[xz];exact ck ha)];exact ho1
 show wpAny (av prog w) A _ P E {s with heap:=((s.heap.update a (dA λ_=>(#[]:ay aj))).push (dt "tuple" vs.toArray 0)).push (dt "list" #[] 0)};dsimp only;have hsz:vs.toArray.size=vs.length:=by simp
 by_cases h2:vs.toArray.size<2
 ·rw[ao h2,ao h2];refine al (az ?_);rw[StateT.run_pure];refine al (az ?_);dsimp only;refine al (xw ho6 rfl ?_);refine al (xu ho6 rfl ?_ (cy _) (hsz2:=by rw[sN];show(e6 vs).size<=_;rw[pairsOf_size];exact xA hn));simp only[AZ,iX,gN];exact az (h1 0x1)
 ·rw[aw h2,aw h2];obtain⟨κ,rk,hkk,hL,fin⟩:=hk 0x1;refine al (hkk _ ?_);have est:kas_st κ (e6 vs) (A0 (bw vs.length))=SortSt.mk' κ (vs.toArray.zip vs.toArray) #[] 7 ai:=by
   unfold kas_st;rw[show vs.length=(e6 vs).size from (pairsOf_size vs).symm,kas_range];rfl
  have kr:=kas_runs (E:=E) (κ:=κ) (it:=e6 vs) (Q:=λ_ st' s'=>s'={s with heap:=((s.heap.update a (dA λ_=>(#[]:ay aj))).push (dt "tuple" vs.toArray 0)).push (dt "list" #[] 0)}/\failedOf st'=ai/\∃p,(Okp vs.length p/\Up rk p vs.length)/\arrOf st'=p.map (kas_item (e6 vs))) 0x1 h64 (λp' st' s' _ ha hf hg=>⟨hg.1,hf,p',hg.2,ha⟩) (aFu hL (aI0 0x1));rw[est] at kr;refine al (fT kr ?_ λ_ _ e=>e);rintro⟨⟨⟩,st'⟩ s' ⟨rfl,hf,p,⟨ok,up⟩,ha⟩;dsimp only;refine al (xw ho6 rfl ?_);refine al (xu ho6 rfl ?_ (cy _) (hsz2:=by rw[ha,sN,sN,ok.size];exact xA hn));rw[hf];simp only[AZ,iX,gN];rw[ha];exact az (fin p ok up)
noncomputable def aI2(h:aI)(vs:aa aj):aI:=
 (((h.push (dt "list" vs.toArray 0)).update h.objs.size (dA λ_=>(#[]:ay aj))).push (dt "tuple" vs.toArray 0)).push (dt "list" #[] 0)
theorem aDr(hb:h.get? b=ab o):(aI2 h vs).get? b=ab o:=by
 have hlt:b<h.objs.size:=bp hb;unfold aI2;refine bu _ (bu _ ?_);rw[A1 _ _ _ _ (ck hlt)];exact bu _ hb
noncomputable def aKu(h:aI)(vs:aa aj)(out:ay aj):aI:=xr (h.push (dt "list" vs.toArray 0)) h.objs.size vs out
theorem aDs(hb:h.get? b=ab o):(aKu h vs out).get? b=ab o:=by
 have hlt:b<h.objs.size:=bp hb;unfold aKu;rw[sortedHeap_old (ck hlt) (by rw[size_push'];exact ie hlt)];exact bu _ hb
theorem aI3(h:aI)(vs:aa aj)(out:ay aj):∃e,(aKu h vs out).get? h.objs.size=ab (dt "list" out e):=sortedHeap_at (cx _ rfl)
theorem XC(h64:vs.length<64)(hn:vs.length<=ba)
 (hcol:∀(Q':aa aj->am->Prop) (E':aj->am->Prop),(∀h1 tk,(∀b o,s.heap.get? b=ab o->h1.get? b=ab o)->s.heap.objs.size<=h1.objs.size->Q' vs {s with heap:=h1,toks:=tk})->wpAny (av prog w) A.in1 (og v) Q' E' s)
 (hk:∀h1 tk,(∀b o,s.heap.get? b=ab o->h1.get? b=ab o)->s.heap.objs.size<=h1.objs.size->2<=vs.length->∃(κ:mj) (rk:af->af),
   (∀Q:mj->am->Prop,Q κ {s with heap:=aI2 h1 vs,toks:=tk}->wpAny (av prog w) A.in1.in1 (xq vs.toArray) Q (λ_ _=>cw) {s with heap:=aI2 h1 vs,toks:=tk})/\
   (∀i j,i<vs.length->j<vs.length->∀C:aq->am->Prop,C (decide (rk i<rk j)) {s with heap:=aI2 h1 vs,toks:=tk}->kas_cmp prog w A.in1.in1 κ (e6 vs) i j C {s with heap:=aI2 h1 vs,toks:=tk})/\
   ∀p:ay af,Okp vs.length p->Up rk p vs.length->Q (.ref h1.objs.size) {s with heap:=aKu h1 vs ((p.map (kas_item (e6 vs))).map (·.2)),toks:=tk})
 (h1:∀h1 tk,(∀b o,s.heap.get? b=ab o->h1.get? b=ab o)->s.heap.objs.size<=h1.objs.size->vs.length<2->Q (.ref h1.objs.size) {s with heap:=aKu h1 vs ((e6 vs).map (·.2)),toks:=tk}) :
  wpAny (av prog w) A (call (.builtin "sorted") [v]) Q E s:=by
 refine A2 kind_sorted plain_sorted entry_sorted (args_sorted1 _) ?_;unfold dq.«sorted»;refine al (az ?_);refine al (hcol _ _ λhh tk kp hle=>?_);refine al (AX ?_ hn);have hoL:(hh.push (dt "list" vs.toArray 0)).get? hh.objs.size=ab (dt "list" vs.toArray 0):=cx _ rfl;show wpAny _ _ _ _ _ {s with heap:=hh.push (dt "list" vs.toArray 0),toks:=tk};refine al (eh (nL slot_list_sort ⟨_,hoL,rfl⟩ entry_list_sort ?body (args_list_sort _)))
 case body=>
  refine fT (FZ h64 (E:=λ_ _=>cw) (P:=λf s'=>∃v,f=.done (.ret v)/\v=ox/\Q (.ref hh.objs.size) s') hoL hn (λh2=>?_) (λh2=>⟨_,rfl,rfl,h1 hh tk kp hle h2⟩)) (λf s' h=>?_) λ_ _ z=>eW z
  ·obtain⟨κ,rk,hkk,hL,fin⟩:=hk hh tk kp hle h2;exact⟨κ,rk,hkk,hL,λp ok up=>⟨_,rfl,rfl,fin p ok up⟩⟩
  ·obtain⟨v,rfl,rfl,q⟩:=h;exact⟨_,rfl,az ⟨_,rfl,q⟩⟩
end TS
namespace Mi
open PySem L2 PySem.SeqAt
open PyProof.Rows (Keyed lt' keyLt' oneLt' SortKind SortSt kindOf tuples' oneType' pairsOf wpS wpS_bind wpS_pure wpS_get wpS_lift keyKind')
section
variable [KFrag]
def lQ(H:Hp)(u:aj):D:=by
 classical
 exact if h:∃d,d.plain=ae/\d.gW a_=ae/\∃v,RelV v u/\Rep All H v d then A3 h else .non
theorem xF(hp:d.plain=ae)(hq:d.gW a_=ae)(rv:RelV v u)(r:Rep All H v d):lQ H u=d:=by
 unfold lQ;have h:∃d,d.plain=ae/\d.gW a_=ae/\∃v,RelV v u/\Rep All H v d:=⟨d,hp,hq,v,rv,r⟩
 rw[sP h];obtain⟨h1,h2,v',rv',r'⟩:=A4 h;have:=rv'.inj rv;subst this;exact Rep.inj a_ h2 hq r' r
theorem fW(h:cJ ds=ae)(ha:a∈ds):a.plain=ae/\a.gW a_=ae/\gQ a≠0/\gQ a=gQ (ds.headD .non)/\∀b∈ds,∃k,jJ .lt a b=ab k:=by
 unfold cJ at h;rw[aT] at h;have:=e9.mp h.2 a ha;simp only[aT,bne_iff_ne,io] at this;obtain⟨⟨⟨⟨h1,h2⟩,h3⟩,h4⟩,h5⟩:=this;refine⟨h1,h2,h3,h4,λb hb=>se.mp (e9.mp h5 b hb)⟩
theorem aM7(h:cJ ds=ae)(ha:a∈ds)(hb:b∈ds):jJ .lt a b=ab (decide (enc a<enc b)):=by
 obtain⟨p1,_,_,_,q⟩:=fW h ha;obtain⟨p2,_⟩:=fW h hb;obtain⟨k,hk⟩:=q b hb;rw[hk,QF a b k p1 p2 hk]
def sU(H:Hp)(ds:aa D)(k:jp):Prop:=∃v d,RelV v k.1/\Rep All H v d/\d∈ds
def sLt(H:Hp)(x y:jp):aq:=decide (enc (lQ H x.1)<enc (lQ H y.1))
section
variable {X:Cx} {pins:aa (ak×bd)} {σ:L2.St} {H:Hp} {s:am}
open PySem.W in
theorem F_:∀(vs ws:aa aj)(xs ys:aa D)(i:af),(b&&i==0)=ag->C2 .lt A s vs ws xs ys->jK .lt xs ys=ab k->xs.length+n2=ys.length+n1->Q k s->
  KatLex prog w A b (decide (n1<n2)) Q (vs.zip ws) i s
 |[],ws,xs,ys,i,_,hC,hk,hf,q=>by
  have:xs=[]:=A5 hC.1.symm;subst this;rw[xn];rw[jK] at hk;have e:k=decide (n1<n2):=by
   rw[<-c6 hk];simp only[gV.nat,eL] at hf ⊢
   congr 1
   simp only[sL];lia
  rw[<-e];exact q
 |v::vs,[],xs,ys,i,_,hC,hk,hf,q=>by
  have:ys=[]:=A5 hC.2.1.symm;subst this;rw[sK];cases xs with
  |nil=>exact aE hC.1 0x2
  |cons x xs=>
   rw[jK] at hk;have e:k=decide (n1<n2):=by
    rw[<-c6 hk];simp only[gV.nat,eL,bc] at hf ⊢
    congr 1
    simp only[sL];lia
   rw[<-e];exact q
 |v::vs,w'::ws,[],ys,i,_,hC,hk,hf,q=>aE hC.1 0x2
 |v::vs,w'::ws,x::xs,[],i,_,hC,hk,hf,q=>aE hC.2.1 0x2
 |v::vs,w'::ws,x::xs,y::ys,i,hi,hC,hk,hf,q=>by
  rw[n4];obtain⟨he,hlt⟩:=hC.2.2 0 _ _ _ _ rfl rfl rfl rfl;rw[jK] at hk;refine kat_cons (he prog w _ _ ?_);cases e:eqD x y with
  |true=>
   rw[e,ao rfl] at hk;exact kat_yes (F_ vs ws xs ys (i+1) 0x2 hC.tail hk (by simp only[bc] at hf;lia) q)
  |false=>
   rw[e,aw 0x2] at hk;refine kat_no ?_;rw[hi];exact kat_one _ _ (hlt e k hk prog w _ _ q)
theorem aPv(I:Inv X pins σ H s)(hu:A.units+n<b6)(ha:D.fO n ds=ae)(hb:D.fO n es=ae)(r1:b7 All H xs ds)(r2:b7 All H ys es)(vr1:Vals xs its1)(vr2:Vals ys its2) :
  C2 .lt A s its1 its2 ds es:=by
 refine⟨by rw[<-vr1.length,r1.length],by rw[<-vr2.length,r2.length],λj v w x y a1 a2 a3 a4=>?_⟩;obtain⟨v1,w1,rr1⟩:=r1.get a3;obtain⟨v2,w2,rr2⟩:=r2.get a4;obtain⟨u1,k1,l1⟩:=vr1.get w1;obtain⟨u2,k2,l2⟩:=vr2.get w2;rw[a1] at k1;cases k1;rw[a2] at k2;cases k2;have g1:x.gW n=ae:=by
  have:=iW ha (c_.mp a3).1;rwa [cu,a3] at this
 have g2:y.gW n=ae:=by
  have:=iW hb (c_.mp a4).1;rwa [cu,a4] at this
 exact⟨(J4 I n A hu g1 g2 rr1 rr2 l1 l2).2.2,λ_ k hk=>QK I .lt n A hu g1 g2 rr1 rr2 l1 l2 hk⟩
theorem kind_le(d:D):gQ d<=5:=by
 unfold gQ;split<;>lia
theorem aI4(h:gQ d=1):∃i,d=.int i:=by
 unfold gQ at h;split at h<;>first|lia|exact⟨_,rfl⟩
theorem aI5(h:gQ d=2):∃i,d=.str i:=by
 unfold gQ at h;split at h<;>first|lia|exact⟨_,rfl⟩
theorem aDt(h:gQ d=3):∃i r,d=.tup (.int i::r):=by
 unfold gQ at h;split at h<;>first|lia|exact⟨_,_,rfl⟩
theorem aDu(h:gQ d=4):∃i r,d=.tup (.str i::r):=by
 unfold gQ at h;split at h<;>first|lia|exact⟨_,_,rfl⟩
theorem aM8(h:gQ d=5):∃i r,d=.tup (.tup i::r):=by
 unfold gQ at h;split at h<;>first|lia|exact⟨_,_,rfl⟩
theorem T3(r:b7 All H xs ds)(vr:Vals xs its)(hu:u∈its):∃v d,RelV v u/\Rep All H v d/\d∈ds:=by
 obtain⟨j,hj,e⟩:=xB hu;have hj':j<ds.length:=by rw[<-r.length,vr.length];exact hj
 obtain⟨v,h1,h2⟩:=r.get (i:=j) (d:=ds[j]) (by simp[hj']);obtain⟨u',h3,h4⟩:=vr.get h1;rw[ef hj,e] at h3;cases h3;exact⟨v,_,h4,h2,mq _⟩
open PySem.W in
theorem GC(I:Inv X pins σ H s){F:D->Prop}(hF:∀(d:D) (v:V) (u:aj),F d->RelV v u->Rep All H v d->Looks (av X.prog X.w) s.heap (lT u) T) :
  ∀{xs:aa V}{ds:aa D}{its:aa aj},b7 All H xs ds->Vals xs its->(∀d∈ds,∃f r,d=.tup (f::r)/\F f)->∃fs,KatTups s.heap its fs/\fs.length=its.length/\∀f∈fs,Looks (av X.prog X.w) s.heap (lT f) T
 |_,_,_,.nil,.nil,_=>⟨[],.nil,rfl,λ_ h=>by simp at h⟩
 |_,_,_,.cons r t,.cons v vt,h=>by
  obtain⟨fs,h1,h2,h3⟩:=GC I hF t vt λd hd=>h d (bz _ hd)
  obtain⟨f,rr,rfl,hf⟩:=h _ (bn ..);obtain⟨a,ys,rfl,e,rs⟩:=r.fG;cases v;obtain⟨its2,vr2,o,ho,hc,n,hd⟩:=g8 I e;cases rs with
  |cons r0 rs=>
   cases vr2 with
   |cons v0 vr2=>
    refine⟨_::fs,.cons ho hc hd rfl h1,by simp[h2],λg hg=>?_⟩;rcases bq.mp hg with rfl|hg
    ·exact hF _ _ _ hf v0 r0
    ·exact h3 g hg
open PySem.W in
theorem aAl(I:Inv X pins σ H s)(hu:A.units+a_<b6)(hc:cJ ds=ae)(r:b7 All H xs ds)(vr:Vals xs its)(h2:2<=its.length) :
  ∃κ:mj,(∀Q:mj->am->Prop,Q κ s->wpAny (av X.prog X.w) A (xq its.toArray) Q (λ_ _=>cw) s)/\
   ∀(x y:jp)(Q:aq->am->Prop),sU H ds x->sU H ds y->Q (sLt H x y) s->wpAny (av X.prog X.w) A (keyLt' κ x.1 y.1) Q (λ_ _=>cw) s:=by
 have hlen:ds.length=its.length:=by rw[<-r.length,vr.length]
 have hkind:∀d∈ds,gQ d=gQ (ds.headD .non):=λd hd=>(fW hc hd).2.2.2.1
 have hne:gQ (ds.headD .non)≠0:=by
  have hd:ds.headD .non∈ds:=by
   cases ds with
   |nil=>simp at hlen;lia
   |cons d ds=>simp
  exact(fW hc hd).2.2.1
 have lty:∀{x y:jp}{v v':V}{d d':D},RelV v x.1->Rep All H v d->d∈ds->RelV v' y.1->Rep All H v' d'->d'∈ds->jJ .lt d d'=ab (sLt H x y):=λ{x y v v' d d'} rv rp hd rv' rp' hd'=>by
  have e1:=xF (fW hc hd).1 (fW hc hd).2.1 rv rp;have e2:=xF (fW hc hd').1 (fW hc hd').2.1 rv' rp';rw[aM7 hc hd hd'];unfold sLt;rw[e1,e2]
 -- two tuples whose first items are told by a kC of their own,or by the common one
 have tupl:∀(b:aq)(x y:jp)(Q:aq->am->Prop),sU H ds x->sU H ds y->(∀d∈ds,∃f r,d=.tup (f::r))->
   (b=ae->∀(f g:D)(v v':V)(u u':aj)(k:aq)(Q:aq->am->Prop),(∃r,D.tup (f::r)∈ds)->(∃r,D.tup (g::r)∈ds)->RelV v u->Rep All H v f->RelV v' u'->Rep All H v' g->jJ .lt f g=ab k->Q k s->wpAny (av X.prog X.w) A (oneLt' ae u u') Q (λ_ _=>cw) s)->
   Q (sLt H x y) s->wpAny (av X.prog X.w) A (keyLt' (sQ b) x.1 y.1) Q (λ_ _=>cw) s:=by
  rintro b ⟨x1,x2⟩ ⟨y1,y2⟩ Q ⟨v,d,rv,rp,hd⟩ ⟨v',d',rv',rp',hd'⟩ htup hone q;have hk:=lty rv rp hd rv' rp' hd';have q1:=(fW hc hd).2.1;have q2:=(fW hc hd').2.1;obtain⟨f,rr,rfl⟩:=htup d hd;obtain⟨g,rr',rfl⟩:=htup d' hd';obtain⟨a,ys,rfl,e,rs⟩:=rp.fG;obtain⟨a',ys',rfl,e',rs'⟩:=rp'.fG;cases rv;cases rv';obtain⟨i1,vr1,o1,ho1,hc1,n1,hd1⟩:=g8 I e;obtain⟨i2,vr2,o2,ho2,hc2,n2,hd2⟩:=g8 I e';rw[jJ] at hk;have q1':D.fO 11 (f::rr)=ae:=q1;have q2':D.fO 11 (g::rr')=ae:=q2;have hu':A.units+11<b6:=by have:A.units+12<b6:=hu;lia
  have C:=aPv I hu' q1' q2' rs rs' vr1 vr2;refine kat_lt ho1 hd1 ho2 hd2 ?_;have z1:i1.toArray.size=(f::rr).length:=by rw[bX,<-vr1.length,rs.length]
  have z2:i2.toArray.size=(g::rr').length:=by rw[bX,<-vr2.length,rs'.length]
  rw[n9,n9,z1,z2];cases b with
  |false=>exact F_ i1 i2 (f::rr) (g::rr') 0 rfl C hk 0x1 q
  |true=>
   cases rs with
   |cons r0 rs=>
    cases rs' with
    |cons r0' rs'=>
     cases vr1 with
     |cons v0 vr1=>
      cases vr2 with
      |cons v0' vr2=>
       rw[n4];obtain⟨he,_⟩:=C.2.2 0 _ _ _ _ rfl rfl rfl rfl;rw[jK] at hk;refine kat_cons (he X.prog X.w _ _ ?_);cases e0:eqD f g with
       |true=>
        rw[e0,ao rfl] at hk;exact kat_yes (F_ _ _ rr rr' 1 0x2 C.tail hk (by simp only[bc];lia) q)
       |false=>
        rw[e0,aw 0x2] at hk;refine kat_no ?_;exact hone rfl f g _ _ _ _ _ Q ⟨_,hd⟩ ⟨_,hd'⟩ v0 r0 v0' r0' hk q
 have h5:=kind_le (ds.headD .non);have cases5:gQ (ds.headD .non)=1\/gQ (ds.headD .non)=2\/gQ (ds.headD .non)=3\/gQ (ds.headD .non)=4\/gQ (ds.headD .non)=5:=by lia
 rcases cases5 with c|c|c|c|c
 ·refine⟨oneType',λQ q=>kas_kind (T:=.type "int") h2 (λu hm=>?_) 0x4 0x4 q,λx y Q hx hy q=>?_⟩
  ·obtain⟨v,d,rv,rp,hd⟩:=T3 r vr hm;obtain⟨i,rfl⟩:=aI4 ((hkind d hd).trans c);cases rp.inv;obtain⟨t,rfl⟩:=rv;exact sR rfl
  ·obtain⟨v,d,rv,rp,hd⟩:=hx;obtain⟨v',d',rv',rp',hd'⟩:=hy;have hk:=lty rv rp hd rv' rp' hd';obtain⟨i,rfl⟩:=aI4 ((hkind d hd).trans c);obtain⟨j,rfl⟩:=aI4 ((hkind d' hd').trans c);cases rp.inv;cases rp'.inv;obtain⟨t,e1⟩:=rv;obtain⟨t',e2⟩:=rv';rw[jJ] at hk;rw[<-c6 hk] at q;rw[e1,e2,A6];exact A7 q
 ·refine⟨oneType',λQ q=>kas_kind (T:=.type "str") h2 (λu hm=>?_) 0x4 0x4 q,λx y Q hx hy q=>?_⟩
  ·obtain⟨v,d,rv,rp,hd⟩:=T3 r vr hm;obtain⟨i,rfl⟩:=aI5 ((hkind d hd).trans c);cases rp.inv;obtain⟨t,rfl⟩:=rv;exact sR rfl
  ·obtain⟨v,d,rv,rp,hd⟩:=hx;obtain⟨v',d',rv',rp',hd'⟩:=hy;have hk:=lty rv rp hd rv' rp' hd';obtain⟨i,rfl⟩:=aI5 ((hkind d hd).trans c);obtain⟨j,rfl⟩:=aI5 ((hkind d' hd').trans c);cases rp.inv;cases rp'.inv;obtain⟨t,e1⟩:=rv;obtain⟨t',e2⟩:=rv';rw[jJ] at hk;rw[<-c6 hk] at q;rw[e1,e2,A6];exact A8 q
 ·obtain⟨fs,t1,t2,t3⟩:=GC I (T:=.type "int") (F:=λf=>∃i,f=.int i) (λd v u hf rv rp=>by
   obtain⟨i,rfl⟩:=hf;cases rp.inv;obtain⟨t,rfl⟩:=rv;exact sR rfl) r vr (λd hd=>by
   obtain⟨i,rr,rfl⟩:=aDt ((hkind d hd).trans c);exact⟨_,_,rfl,i,rfl⟩)
  refine⟨sQ ae,λQ q=>xC (T:=.type "int") t1 0x1 t3 0x4 q,λx y Q hx hy q=>tupl ae x y Q hx hy (λd hd=>?_) (λ_ f g v v' u u' k Q hf hg rv rp rv' rp' hk q=>?_) q⟩
  ·obtain⟨i,rr,rfl⟩:=aDt ((hkind d hd).trans c);exact⟨_,_,rfl⟩
  ·obtain⟨r1,hf⟩:=hf;obtain⟨r2,hg⟩:=hg;obtain⟨i,rr,e1⟩:=aDt ((hkind _ hf).trans c);obtain⟨j,rr',e2⟩:=aDt ((hkind _ hg).trans c);cases e1;cases e2;cases rp.inv;cases rp'.inv;obtain⟨t,rfl⟩:=rv;obtain⟨t',rfl⟩:=rv';rw[jJ] at hk;rw[<-c6 hk] at q;exact A7 q
 ·obtain⟨fs,t1,t2,t3⟩:=GC I (T:=.type "str") (F:=λf=>∃i,f=.str i) (λd v u hf rv rp=>by
   obtain⟨i,rfl⟩:=hf;cases rp.inv;obtain⟨t,rfl⟩:=rv;exact sR rfl) r vr (λd hd=>by
   obtain⟨i,rr,rfl⟩:=aDu ((hkind d hd).trans c);exact⟨_,_,rfl,i,rfl⟩)
  refine⟨sQ ae,λQ q=>xC (T:=.type "str") t1 0x1 t3 0x4 q,λx y Q hx hy q=>tupl ae x y Q hx hy (λd hd=>?_) (λ_ f g v v' u u' k Q hf hg rv rp rv' rp' hk q=>?_) q⟩
  ·obtain⟨i,rr,rfl⟩:=aDu ((hkind d hd).trans c);exact⟨_,_,rfl⟩
  ·obtain⟨r1,hf⟩:=hf;obtain⟨r2,hg⟩:=hg;obtain⟨i,rr,e1⟩:=aDu ((hkind _ hf).trans c);obtain⟨j,rr',e2⟩:=aDu ((hkind _ hg).trans c);cases e1;cases e2;cases rp.inv;cases rp'.inv;obtain⟨t,rfl⟩:=rv;obtain⟨t',rfl⟩:=rv';rw[jJ] at hk;rw[<-c6 hk] at q;exact A8 q
 ·obtain⟨fs,t1,t2,t3⟩:=GC I (T:=.type "tuple") (F:=λf=>∃i,f=.tup i) (λd v u hf rv rp=>by
   obtain⟨i,rfl⟩:=hf;obtain⟨a,ys,rfl,e,rs⟩:=rp.fG;cases rv;obtain⟨i1,vr1,o1,ho1,hc1,n1,hd1⟩:=g8 I e;have:=(show Looks (av X.prog X.w) s.heap (lT (.ref a)) o1.cls from (Looks.ld ho1).andThen .now)
   rwa [hc1] at this) r vr (λd hd=>by
   obtain⟨i,rr,rfl⟩:=aM8 ((hkind d hd).trans c);exact⟨_,_,rfl,i,rfl⟩)
  refine⟨sQ ag,λQ q=>xC (T:=.type "tuple") t1 0x1 t3 0x4 q,λx y Q hx hy q=>tupl ag x y Q hx hy (λd hd=>?_) (λh=>by cases h) q⟩;obtain⟨i,rr,rfl⟩:=aM8 ((hkind d hd).trans c);exact⟨_,_,rfl⟩
theorem yI(I:Inv X pins σ H s)(hu:X.A.units+20<b6)(vr:Vals xs its)(hn:its.length<=ba)(r:b7 All H xs ds)(hc:cJ ds=ae)
 (hcol:∀(Q':aa aj->am->Prop) (E':aj->am->Prop),(∀h1 tk,(∀b o,s.heap.get? b=ab o->h1.get? b=ab o)->s.heap.objs.size<=h1.objs.size->Q' its {s with heap:=h1,toks:=tk})->wpAny (av X.prog X.w) X.A.in1 (og v) Q' E' s)
 (q:∀p xs',H p=ai->b7 All H xs' (x_ ds)->Q (.ref p) (upd H p (.lst xs'))):wpAny (av X.prog X.w) X.A (call (.builtin "sorted") [v]) (EP X pins σ Q) X.xe s:=by
 have hz:xs.length<=ba:=by rw[vr.length];exact hn
 -- what comes,told by its data
 have fin:∀(h1:aI)(tk:af),(∀b o,s.heap.get? b=ab o->h1.get? b=ab o)->s.heap.objs.size<=h1.objs.size->∀arr:ay jp,arr.Perm (e6 its)->(∀i j,i<=j->j<arr.size->leE (lQ H (TS.gt arr i).1) (lQ H (TS.gt arr j).1)=ae)->EP X pins σ Q (.ref h1.objs.size) {s with heap:=TS.aKu h1 its (arr.map (·.2)),toks:=tk}:=by
  intro h1' tk kp hle arr hp hs;have hpl:arr.toList.Perm (its.zip its):=by rw[<-Df];exact xD.mp hp
  have hmem:∀p∈arr.toList,p.1=p.2/\p.1∈its:=λp hp'=>Dg (hpl.mem_iff.mp hp')
  have e1:(arr.map (·.2)).toList=arr.toList.map (·.1):=by
   rw[xE];exact xI λp hp'=>(hmem p hp').1.symm
  -- the values and their data
  have all:∀l:aa jp,(∀p∈l,p∈arr.toList)->∃ys,Vals ys (l.map (·.1))/\b7 All H ys (l.map λp=>lQ H p.1):=by
   intro l;induction l with
   |nil=>intro _;exact⟨[],.nil,.nil⟩
   |cons p l ih=>
    intro h;obtain⟨ys,h1,h2⟩:=ih λp hp'=>h p (bz _ hp')
    obtain⟨v,d,rv,rp,hd⟩:=T3 r vr (hmem p (h p (bn ..))).2;refine⟨v::ys,.cons rv h1,?_⟩;rw[bh,xF (fW hc hd).1 (fW hc hd).2.1 rv rp];exact .cons rp h2
  obtain⟨ys,h1,h2⟩:=all arr.toList λ_ h=>h
  have dats:its.map (lQ H)=ds:=by
   clear all h1 h2 hp hs hpl hmem e1;have:∀{xs:aa V}{es:aa D}{us:aa aj},b7 All H xs es->Vals xs us->(∀d∈es,d∈ds)->us.map (lQ H)=es:=by
    intro xs es us r;induction us generalizing xs es with
    |nil=>intro v _;cases v;cases r;rfl
    |cons u us ih=>
     intro v hsub;cases v with
     |cons v0 vt=>
      cases r with
      |cons r0 rt=>
       have hd:=hsub _ (bn ..);rw[bh,ih rt vt λd hd=>hsub d (bz _ hd),xF (fW hc hd).1 (fW hc hd).2.1 v0 r0]
   exact this r vr λ_ h=>h
  have hperm:(arr.toList.map λp=>lQ H p.1).Perm ds:=by
   have:=hpl.map λp=>lQ H p.1
   have e2:(its.zip its).map (λp=>lQ H p.1)=ds:=by
    have:(its.zip its).map (λp=>lQ H p.1)=((its.zip its).map Prod.fst).map (lQ H):=by rw[cS];rfl
    rw[this,A9 (aS _),dats]
   rwa [e2] at this
  have hsorted:(arr.toList.map λp=>lQ H p.1).Pairwise λa b=>leE a b=ae:=by
   rw[mr,s_];intro i j hi hj hij;have:=hs i j (lv hij) (by simpa using hj);have g:∀k (hk:k<arr.toList.length),TS.gt arr k=arr.toList[k]:=λk hk=>by
    unfold TS.gt;have hk':k<arr.size:=by simpa using hk
    simp[mi,hk']
   rwa [g i hi,g j hj] at this
  have eq:(arr.toList.map λp=>lQ H p.1)=x_ ds:=by
   refine yF (λd hd=>?_) (hperm.trans (gH ds).symm) hsorted (kY ds);exact(fW hc (hperm.mem_iff.mp hd)).1
  rw[eq] at h2;rw[<-e1] at h1;have hfr:H h1'.objs.size=ai:=I.hok.fresh hle;obtain⟨ee,he⟩:=TS.aI3 h1' its (arr.map (·.2));refine⟨.ref h1'.objs.size,_,I.laid (λb o e=>TS.aDs (kp b o e)) hle ?_,rfl,q _ ys hfr h2⟩;refine⟨?_,(arr.map (·.2)).toList,ee,h1,by rw[he]⟩;rw[h2.length,(gH ds).length_eq,<-r.length];exact hz
 have h64:its.length<64:=by
  unfold cJ at hc;rw[aT] at hc;rw[<-vr.length,r.length];exact dh hc.1
 refine TS.XC h64 hn hcol (λhh tk kp hle h2=>?_) (λhh tk kp hle h2=>?_)
 ·have I':Inv X pins σ H {s with heap:=TS.aI2 hh its,toks:=tk}:=I.kept λb o e=>TS.aDr (kp b o e)
  have hu2:X.A.in1.in1.units+a_<b6:=by show X.A.units+1+1+12<b6;lia
  obtain⟨κ,k1,k2⟩:=aAl I' hu2 hc r vr h2;have it:∀i,oh (e6 its) i=(its.getD i .none,its.getD i .none):=PySem.W.kas_item_eq its;obtain⟨rk,hrk⟩:=TS.aI1 its.length (λi j=>decide (enc (lQ H (its.getD i .none))<enc (lQ H (its.getD j .none)))) (λi=>by simp[Ba]) (λi j k h1 h2=>by
   simp only[dL] at *;exact List.lt_trans h1 h2) (λi j k h=>by
   simp only[dL] at *;by_cases q:enc (lQ H (its.getD i .none))<enc (lQ H (its.getD j .none))
   ·exact .inl q
   ·exact .inr (AM (AN.mp q) h))
  have mem:∀i,i<its.length->sU H ds (its.getD i .none,its.getD i .none):=λi hi=>by
   rw[cu,ef hi];exact T3 r vr (mq hi)
  refine⟨κ,rk,k1,λi j hi hj C c=>?_,λp ok up=>fin hh tk kp hle _ ?_ λi j a1 a2=>?_⟩
  ·unfold PySem.W.kas_cmp;rw[it,it];rw[hrk i j hi] at c;exact k2 _ _ C (mem i hi) (mem j hj) c
  ·have e:=PySem.W.kas_range (e6 its);rw[Bb] at e;have q:=(xD.mp ok).map (oh (e6 its));refine xD.mpr ?_;rw[xE];exact q.trans (by rw[<-xE,e])
  ·have sz:(p.map (oh (e6 its))).size=its.length:=by rw[sN,ok.size]
   rw[sz] at a2;have g:∀k,k<its.length->TS.gt (p.map (oh (e6 its))) k=oh (e6 its) (p.getD k 0):=λk hk=>by
    have hk:k<p.size:=by rw[ok.size];exact hk
    unfold TS.gt;simp[mi,hk]
   rw[g i 0x1,g j a2,it,it];have u:=up i j a1 a2;have:=hrk (p.getD j 0) (p.getD i 0) (ok.lt 0x1 j);rw[cK (by exact xo.mpr u)] at this;unfold leE;rw[<-this];rfl
 ·refine fin hh tk kp hle _ (AU _) λi j a1 a2=>?_
  rw[Bb] at a2;rw[show i=j by lia];simp[leE,Ba]
theorem XF(I:Inv X pins σ H s)(hu:X.A.units+20<b6)(hl:SqL X.K H l xs)(r:b7 All H xs ds)(hc:cJ ds=ae)
 (q:∀p xs',H p=ai->b7 All H xs' (x_ ds)->Q (.ref p) (upd H p (.lst xs'))):wpAny (av X.prog X.w) X.A (call (.builtin "sorted") [.ref l]) (EP X pins σ Q) X.xe s:=by
 obtain⟨its,vr,pl,hz⟩:=I.list hl;have hn:its.length<=ba:=by rw[<-vr.length];exact hz
 refine yI I hu vr hn r hc (λQ' E' h=>Dh pl.isList (h _ s.toks (λb o e=>?_) ?_) hn) q
 ·rw[A1 _ _ _ _ (ck (bp e))];exact bu _ e
 ·rw[xz,Di];exact gn _
end
end
open PySem.Spec PyProof.Rows
section
variable [KFrag]
def kR(H:Hp)(d:D)(fr:aq)(Q:VK):Prop:=∀v H',cH H H'->Rep All H' v d->(fr=ae->Rep (New H) H' v d)->Q v H'
noncomputable def gE(f:FE)(fr:aq):TE:=λσ H Q=>∃ρ d,ER H σ ρ/\f ρ=.ok d/\kR H d fr Q
noncomputable def gT(f:FT):TT:=λσ H Q=>∃ρ b,ER H σ ρ/\f ρ=.ok b/\∀H',cH H H'->Q b H'
noncomputable def gA(f:FA)(fr:aq):TA:=λσ H Q=>∃ρ ds,ER H σ ρ/\f ρ=.ok ds/\∀vs H',cH H H'->b7 All H' vs ds->(fr=ae->b7 (New H) H' vs ds)->Q vs H'
theorem kR.self{fr:aq}(q:kR H d fr Q)(r:Rep All H v d)(r2:fr=ae->Rep (New H) H v d):Q v H:=q v H (cH.refl H) r r2
theorem kR.imp{fr fr':aq}(q:kR H d fr Q)(s:cH H H')(h:fr=ae->fr'=ae):kR H' d fr' Q:=λv H2 s2 r n=>q v H2 (s.trans s2) r λhf=>(n (h hf)).mono (cH.new s)
theorem kR.int{fr:aq}{Q:VK}(q:kR H (.int i) fr Q):Q (.int i) H:=q.self (.int i) λ_=>.int i
theorem kR.bl{fr:aq}{Q:VK}(q:kR H (.bl i) fr Q):Q (.bl i) H:=q.self (.bl i) λ_=>.bl i
theorem kR.str{fr:aq}{Q:VK}(q:kR H (.str i) fr Q):Q (.str i) H:=q.self (.str i) λ_=>.str i
theorem kR.non{fr:aq}{Q:VK}(q:kR H .non fr Q):Q .non H:=q.self .non λ_=>.non
noncomputable def r2(f:D->D->Res D)(fr:aq):R2:=λx y H Q=>∃a b d,Rep All H x a/\Rep All H y b/\f a b=.ok d/\kR H d fr Q
def r1(f:D->Res D)(fr:aq):V->Hp->VK->Prop:=λx H Q=>∃a d,Rep All H x a/\f a=.ok d/\kR H d fr Q
def rs(f:aa D->Res D)(fr:aq):aa V->Hp->VK->Prop:=λxs H Q=>∃ds d,b7 All H xs ds/\f ds=.ok d/\kR H d fr Q
theorem bI{f:α->Res β}(h:(do let x <- m;f x)=.ok b):∃a,m=.ok a/\f a=.ok b:=Res.aHv h
section
variable {X:Cx} {a b e:Expr} {pos:cn} {fa fb fe:FE} {ra rb re:aq} {ga:FT}
theorem ER.var(E:ER H σ ρ)(h:h_ i ρ=.ok d):∃v,σ[i]?=ab (ab v)/\Rep All H v d/\ρ.getD i .uD=d:=by
 have:ρ.getD i .uD=d/\d≠.uD:=by
  unfold h_ at h;split at h
  ·exact bx h
  ·cases h;refine⟨rfl,λz=>?_⟩;rename_i q;exact q z
 obtain⟨e1,e2⟩:=this;obtain⟨v,h1,h2⟩:=E i (by rw[e1];exact e2);exact⟨v,h1,by rw[e1] at h2;exact h2,e1⟩
theorem aC(hN:X.N[i]?=ab x:=by exact rfl)(hv:Vis X.env.scope x:=by trivial)(hd:nDb x:=by decide)(hcd:nCd x:=by decide):PE X (.Name x pos) (gE (h_ i) ag):=
 PE.imp (jD hN hv hd hcd) λσ H Q z0=>by
  obtain⟨ρ,d,E,h,q⟩:=z0;obtain⟨v,h1,h2,_⟩:=E.var h;exact⟨v,h1,q.self h2 (λz=>by cases z)⟩
theorem aF{i j}:PE X (.Constant (.int i) j pos) (gE (bC (.int i)) ae):=PE.imp aL6 λσ H Q z0=>by obtain⟨ρ,d,E,h,q⟩:=z0;cases h;exact q.int
theorem lR{i j}:PE X (.Constant (.bool i) j pos) (gE (bC (.bl i)) ae):=PE.imp aP5 λσ H Q z0=>by obtain⟨ρ,d,E,h,q⟩:=z0;cases h;exact q.bl
theorem iC{i j}:PE X (.Constant (.str i) j pos) (gE (bC (.str i)) ae):=PE.imp aL8 λσ H Q z0=>by obtain⟨ρ,d,E,h,q⟩:=z0;cases h;exact q.str
theorem tK{j}:PE X (.Constant .none j pos) (gE (bC .non) ae):=PE.imp aL7 λσ H Q z0=>by obtain⟨ρ,d,E,h,q⟩:=z0;cases h;exact q.non
theorem two{fr:aq}{σ:L2.St}{H:Hp}{Q:VK}(h:gE (b2 f fa fb) fr σ H Q):tOp (r2 f fr) (gE fa ra) (gE fb rb) σ H Q:=by
 obtain⟨ρ,d,E,h,q⟩:=h;obtain⟨x,h1,h⟩:=bI h;obtain⟨y,h2,h⟩:=bI h;refine⟨ρ,x,E,h1,λv H1 s1 rp1 _=>⟨ρ,y,E.same s1,h2,λu H2 s2 rp2 _=>⟨x,y,d,rp1.same s2,rp2,h,q.imp (s1.trans s2) id⟩⟩⟩
theorem bB{o:Operator}{f:D->D->Res D}{fr:aq}(ho:OpR X (fq o) (r2 f fr))(ha:PE X a (gE fa ra))(hb:PE X b (gE fb rb)):PE X (.BinOp a o b pos) (gE (b2 f fa fb) fr):=PE.imp (aPg ho ha hb) λ_ _ _=>two
theorem aAm{o:kg}{f:D->D->Res D}{fr:aq}(ho:OpR X (dg o) (r2 f fr))(ha:PE X a (gE fa ra))(hb:PE X b (gE fb rb))(hm:lI o b=ag):PE X (.Compare a [o] [b] pos) (gE (b2 f fa fb) fr):=PE.imp (aHb ho ha hb hm) λ_ _ _=>two
theorem bM{o:kg}{f:D->D->Res D}{fr:aq}(ho:OpR X (dg o) (r2 f fr))(ha:PE X a (gE fa ra))(hb:PE X b (gE fb rb))(hm:lI o b=ag):PT X (.Compare a [o] [b] pos) (gT (bTB (b2 f fa fb))):=
 PT.imp (aHc ho ha hb hm) λσ H Q z0=>by
  obtain⟨ρ,k,E,h,q⟩:=z0;obtain⟨d,h1,h2⟩:=bI h;refine two ⟨ρ,d,E,h1,λv H' s r _=>?_⟩;cases d<;>simp only[asB] at h2<;>cases h2
  cases r.inv;exact⟨_,rfl,q H' s⟩
theorem aI6{f:D->Res D}{fr:aq}(ho:UnR X (oP o) (r1 f fr))(ha:PE X a (gE fa ra)):PE X (.UnaryOp o a pos) (gE (b1 f fa) fr):=
 PE.imp (aPh ho ha) λσ H Q z0=>by
  obtain⟨ρ,d,E,h,q⟩:=z0;obtain⟨x,h1,h⟩:=bI h;exact⟨ρ,x,E,h1,λv H1 s1 rp1 _=>⟨x,d,rp1,h,q.imp s1 id⟩⟩
theorem aPw{f:D->D->Res D}{fr:aq}(ho:IxR X (r2 f fr))(ha:PE X a (gE fa ra))(hb:PE X b (gE fb rb))(hs:PP b):PE X (.Subscript a b pos) (gE (b2 f fa fb) fr):=PE.imp (aPr ho ha hb hs) λ_ _ _=>two
theorem aR3(r:Rep All H v d)(h:aR0 d=.ok k)(hd:∀kvs,d≠.dct kvs)(hs:∀xs,d≠.scr xs):aPk X.K v H k:=by
 cases r with
 |non=>cases h;rfl
 |bl b=>cases h;rfl
 |int i=>cases h;rfl
 |str x=>
  replace h:(if decide (x.length<=lim) then Res.ok ((x.length:ah)!=0) else .bad)=.ok k:=h;split at h
  ·rename_i hl;cases h;exact⟨c9 (dh hl) (by rw[c8];decide),rfl⟩
  ·exact bx h
 |tup e rr=>cases h;exact .inr (.inl ⟨_,.of e,by cases rr<;>rfl⟩)
 |lst e p rr=>cases h;exact .inl ⟨_,.of e,by cases rr<;>rfl⟩
 |frz e rr=>exact aE rfl (hs _)
 |dK e p rr n=>exact aE rfl (hd _)
 |dT e p rr n=>exact aE rfl (hd _)
 |fdK e rr n=>exact bx h
 |fdT e rr n=>exact bx h
 |exc n e q=>exact bx h
 |ins n e q=>exact bx h
 |adr=>exact bx h
 |dlK _ _ _ _=>exact bx h
 |dlT _ _ _ _=>exact bx h
 |cel e p rr=>exact bx h
theorem jE(ha:PE X a (gE fa ra))(he:∀whole,ni a X.env whole=(do let v <- whole;nw a.pos;jy [v] (oI v)):=by intro _;rfl):PT X a (gT (bTr fa)):=
 PT.imp (SM ha he) λσ H Q z0=>by
  obtain⟨ρ,k,E,h,q⟩:=z0;obtain⟨d,h1,h2⟩:=bI h;refine⟨ρ,d,E,h1,λv H' s r _=>⟨k,aR3 r ?_ ?_ ?_,q H' s⟩⟩
  ·cases d<;>first|exact h2|exact bx h2
  ·rintro kvs rfl;exact bx h2
  ·rintro kvs rfl;exact bx h2
theorem jF(ha:PT X a (gT ga)):PT X (.UnaryOp .Not a pos) (gT (oY ga)):=PT.imp (aLb ha) λσ H Q z0=>by
  obtain⟨ρ,k,E,h,q⟩:=z0;obtain⟨d,h1,h2⟩:=bI h;cases h2;exact⟨ρ,d,E,h1,λH' s=>q H' s⟩
theorem aAn{op}(ha:PE X a (gE fa ra)):PE X (.BoolOp op [a] pos) (gE fa ra):=aLc ha
theorem aFw(h:asB d=.ok k):d=.bl k:=by cases d<;>simp only[asB] at h<;>cases h;rfl
theorem aM9(h:asI d=.ok k):d=.int k:=by cases d<;>simp only[asI] at h<;>cases h;rfl
theorem aMa(ha:PE X a (gE fa ra)):PE X (.UnaryOp .Not a pos) (gE (aM5 fa) ae):=PE.imp (aLe ha) λσ H Q z0=>by
  obtain⟨ρ,k,E,h,q⟩:=z0;obtain⟨d,h1,h⟩:=bI h;obtain⟨z,h2,h⟩:=bI h;cases h;cases aFw h2;exact⟨ρ,_,E,h1,λv H' s r _=>by cases r.inv;exact⟨_,rfl,(q.imp s id).bl⟩⟩
theorem J5{rest:aa Expr}(ha:PE X a (gE fa ra))(hb:PE X (.BoolOp .And (b::rest) pos) (gE fb rb)):PE X (.BoolOp .And (a::b::rest) pos) (gE (E_ fa fb) rb):=PE.imp (aLd ha hb) λσ H Q z0=>by
  obtain⟨ρ,k,E,h,q⟩:=z0;obtain⟨d,h1,h⟩:=bI h;obtain⟨z,h2,h3⟩:=bI h;cases aFw h2;refine⟨ρ,_,E,h1,λv H' s r _=>?_⟩;cases r.inv;refine⟨_,rfl,?_⟩;cases z with
  |true=>rw[ao rfl];rw[ao rfl] at h3;exact⟨ρ,k,E.same s,h3,q.imp s id⟩
  |false=>rw[aw 0x2];rw[aw 0x2] at h3;cases h3;exact(q.imp s id).bl
theorem aG:PA X [] (gA aL ae):=PA.imp lM λσ H Q z0=>by obtain⟨ρ,ds,E,h,q⟩:=z0;cases h;exact q [] H (cH.refl H) .nil λ_=>.nil
theorem aB(he:PE X e (gE fe re))(hes:PA X es (gA f r))(hs:zSE X e es:=by rfl):PA X (e::es) (gA (aA fe f) (re&&r)):=PA.imp (fV he hes hs) λσ H Q z0=>by
  obtain⟨ρ,ds,E,h,q⟩:=z0;obtain⟨x,h1,h⟩:=bI h;obtain⟨xs,h2,h⟩:=bI h;cases h;refine⟨ρ,x,E,h1,λv H1 s1 r1 n1=>⟨ρ,xs,E.same s1,h2,λvs H2 s2 r2 n2=>q _ _ (s1.trans s2) (.cons (r1.same s2) r2) λhf=>?_⟩⟩;obtain⟨f1,f2⟩:=(aT _ _▸hf:re=ae/\r=ae)
  exact .cons ((n1 f1).same s2) ((n2 f2).mono (cH.new s1))
theorem bH{x1}(h:PA X es (gA f r)):PE X (.Tuple es x1 pos) (gE (bN f) r):=PE.imp (ZW h) λσ H Q z0=>by
  obtain⟨ρ,d,E,h,q⟩:=z0;obtain⟨xs,h1,h⟩:=bI h;split at h
  ·rename_i hl;cases h;refine⟨ρ,xs,E,h1,λvs H1 s1 r1 n1=>⟨?_,λp hp=>?_⟩⟩
   ·rw[r1.length];exact c9 (dh hl) (by rw[c8];decide)
   ·have sp:cH H1 (upd H1 p (.tup vs)):=cH.upd hp;exact q _ _ (s1.trans sp) (.tup aM (r1.same sp)) λhf=>.tup aM ((n1 hf).same sp)
  ·exact bx h
theorem nZ(h:PA X es (gA f r)):PE X (.List es pos) (gE (zM f) r):=PE.imp (ZX h) λσ H Q z0=>by
  obtain⟨ρ,d,E,h,q⟩:=z0;obtain⟨xs,h1,h⟩:=bI h;split at h
  ·rename_i hl;cases h;refine⟨ρ,xs,E,h1,λvs H1 s1 r1 n1=>⟨?_,λp hp=>?_⟩⟩
   ·rw[r1.length];exact c9 (dh hl) (by rw[c8];decide)
   ·have sp:cH H1 (upd H1 p (.lst vs)):=cH.upd hp;exact q _ _ (s1.trans sp) (.lst aM trivial (r1.same sp)) λhf=>.lst aM (s1.free hp) ((n1 hf).same sp)
  ·exact bx h
theorem GD:PE X (.Dict [] [] pos) (gE (bC (.dct [])) ae):=PE.imp aDh λσ H Q z0=>by
  obtain⟨ρ,d,E,h,q⟩:=z0;cases h;exact λp hp=>q _ _ (cH.upd hp) (.dK aM trivial .nil fA) λ_=>.dK aM hp .nil fA
end
section
variable {a b e:Expr}
theorem o6(h:decide (n<=lim)=ae):n<=ba:=c9 (dh h) (by rw[c8];decide)
theorem T5(h:decide (n<lim)=ae):n<ba:=c5 (dh h) (by rw[c8];decide)
theorem Rep.aMb(r:Rep P H v (.lst ds)):∃a xs,v=.ref a/\Rd H a (.lst xs)/\b7 P H xs ds:=by
 cases r with
 |lst e p rr=>exact⟨_,_,rfl,.inl e,rr⟩
theorem PW.imp(h:PW X e t)(i:∀σ H Q,t' σ H Q->t σ H Q):PW X e t':=λwh pins s σ H Q I q=>h wh pins s σ H Q I (i σ H Q q)
theorem QM(ha:PT X a (gT ga)):PW X (.BoolOp .And [a] pos) (gT ga):=aH8 ha
theorem gJ(ha:PT X a (gT ga)):PW X (.BoolOp .Or [a] pos) (gT ga):=aL9 ha
theorem aAo{rest:aa Expr}(ha:PT X a (gT ga))(hb:PW X (.BoolOp .And (b::rest) pos) (gT gb)):PW X (.BoolOp .And (a::b::rest) pos) (gT (YZ ga gb)):=PW.imp (aLa ha hb) λσ H Q z0=>by
 obtain⟨ρ,k,E,h,q⟩:=z0;obtain⟨z,h1,h3⟩:=bI h;refine⟨ρ,z,E,h1,λH' s=>?_⟩;cases z with
 |true=>rw[ao rfl];rw[ao rfl] at h3;exact⟨ρ,k,E.same s,h3,λH2 s2=>q H2 (s.trans s2)⟩
 |false=>rw[aw 0x2];rw[aw 0x2] at h3;cases h3;exact q H' s
theorem fC{rest:aa Expr}(ha:PT X a (gT ga))(hb:PW X (.BoolOp .Or (b::rest) pos) (gT gb)):PW X (.BoolOp .Or (a::b::rest) pos) (gT (bOr ga gb)):=PW.imp (aP6 ha hb) λσ H Q z0=>by
 obtain⟨ρ,k,E,h,q⟩:=z0;obtain⟨z,h1,h3⟩:=bI h;refine⟨ρ,z,E,h1,λH' s=>?_⟩;cases z with
 |true=>rw[ao rfl];rw[ao rfl] at h3;cases h3;exact q H' s
 |false=>rw[aw 0x2];rw[aw 0x2] at h3;exact⟨ρ,k,E.same s,h3,λH2 s2=>q H2 (s.trans s2)⟩
theorem bV:OpR X (fq .Add) (r2 (bA .add) ae):=by
 intro pins s σ H x y v u Q I rx ry h;obtain⟨a,b,d,p,q,e,k⟩:=h;cases p with
 |int i=>
  cases q with
  |int j=>cases e;exact aLi pins s σ H _ _ v u Q I rx ry ⟨i,j,rfl,rfl,k.int⟩
  |_=>exact bx e
 |str i=>
  cases q with
  |str j=>
   replace e:(if decide (i.length+j.length<=lim) then Res.ok (D.str (i++j)) else .bad)=.ok d:=e;split at e
   ·rename_i hl;cases e;exact WR pins s σ H _ _ v u Q I rx ry ⟨i,j,rfl,rfl,o6 hl,k.str⟩
   ·exact bx e
  |_=>exact bx e
 |non=>exact bx e
 |bl _=>exact bx e
 |tup _ _=>exact bx e
 |dK _ _ _ _=>exact bx e
 |dT _ _ _ _=>exact bx e
 |fdK _ _ _=>exact bx e
 |fdT _ _ _=>exact bx e
 |exc _ _ _=>exact bx e
 |ins _ _ _=>exact bx e
 |adr=>exact bx e
 |dlK _ _ _ _=>exact bx e
 |dlT _ _ _ _=>exact bx e
 |cel _ _ _=>exact bx e
 |@lst a1 xs ds e1 p1 r1=>
  have hR:Rep All H (.ref a1) (.lst ds):=.lst e1 p1 r1;cases b with
  |lst es=>
   replace e:(if decide (ds.length+es.length<=lim)&&D.aW ds&&D.aW es then Res.ok (D.lst (ds++es)) else .bad)=.ok d:=e;split at e
   ·rename_i hl;cases e;rw[aT,aT] at hl;obtain⟨⟨hl,hp1⟩,hp2⟩:=hl;obtain⟨l1,xs1,e1',rd1,rr1⟩:=hR.aMb;obtain⟨l2,xs2,rfl,rd2,rr2⟩:=q.aMb;cases e1';cases rx;cases ry;obtain⟨z,its,n,vr1,ee1⟩:=rd1.ok I.hok;obtain⟨z2,its2,n2,vr2,ee2⟩:=rd2.ok I.hok;have hz:xs1.length+xs2.length<=ba:=by rw[rr1.length,rr2.length];exact o6 hl
    have t1:=vr1.length;have t2:=vr2.length;refine PySem.P.add_list ee1 ee2 ?_ (by rw[bX,bX];lia);have ea:its.toArray++its2.toArray=(its++its2).toArray:=by simp
    rw[ea];refine⟨.ref _,_,I.aRz (vr1.append vr2) (by rw[bj];lia),rfl,?_⟩;have sp:cH H (upd H s.heap.objs.size (.lst (xs1++xs2))):=cH.upd I.fresh;exact k _ _ sp (.lst aM trivial ((rr1.append rr2).same sp)) λ_=>.lst aM I.fresh (((rr1.b8 hp1).append (rr2.b8 hp2)).same sp)
   ·exact bx e
  |_=>exact bx e
 |frz _ _=>exact bx e
theorem QR(h:OpR X f (rI C g))
 (hi:∀i j d,op (.int i) (.int j)=.ok d->C i j/\∃k,d=.int k/\g i j=.int k)(hn:∀a b d,op a b=.ok d->(∃i,a=.int i)/\∃j,b=.int j):OpR X f (r2 op ae):=by
 rintro pins s σ H x y v u Q I rx ry ⟨a,b,d,p,q,e,k⟩;obtain⟨⟨i,rfl⟩,⟨j,rfl⟩⟩:=hn a b d e;cases p.inv;cases q.inv;obtain⟨hc,m,rfl,hm⟩:=hi i j d e;exact h pins s σ H _ _ v u Q I rx ry ⟨i,j,rfl,rfl,hc,by rw[hm];exact k.int⟩
theorem xG(ho:o≠.add){a b d:D}(e:bA o a b=.ok d):(∃i,a=.int i)/\∃j,b=.int j:=by
 cases a with
 |int i=>
  cases b with
  |int j=>exact⟨⟨i,rfl⟩,j,rfl⟩
  |_=>cases o<;>first|exact bx e|exact aE rfl ho
 |_=>cases o<;>first|exact bx e|exact aE rfl ho
theorem T6:OpR X (fq .Sub) (r2 (bA .sub) ae):=by
 rintro pins s σ H x y v u Q I rx ry ⟨a,b,d,p,q,e,k⟩;obtain⟨⟨i,rfl⟩,j,rfl⟩:=xG 0x4 e;cases p.inv;cases q.inv;cases e;exact aLj pins s σ H _ _ v u Q I rx ry ⟨_,_,rfl,rfl,k.int⟩
theorem aMc:OpR X (fq .Mult) (r2 (bA .mul) ae):=by
 refine QR aLk (λi j d e=>?_) λa b d e=>xG 0x4 e
 ·replace e:(if lN i||lN j then Res.ok (D.int (i*j)) else .bad)=.ok d:=e;split at e
  ·rename_i hl;cases e;refine⟨?_,_,rfl,rfl⟩;simp only[lN,f_,aT,dL] at hl;exact hl
  ·exact bx e
theorem fY:OpR X (fq .FloorDiv) (r2 (bA .fdiv) ae):=by
 refine QR aHa (λi j d e=>?_) λa b d e=>xG 0x4 e
 ·replace e:(if decide (0<j)&&decide (j<1073741824) then Res.ok (D.int (i / j)) else .bad)=.ok d:=e;split at e
  ·rename_i hl;cases e;refine⟨?_,_,rfl,rfl⟩;simp only[aT,dL] at hl;exact hl
  ·exact bx e
theorem dF:OpR X (fq .Mod) (r2 (bA .mod) ae):=by
 refine QR aLl (λi j d e=>?_) λa b d e=>xG 0x4 e
 ·replace e:(if decide (0<j) then Res.ok (D.int (i % j)) else .bad)=.ok d:=e;split at e
  ·rename_i hl;cases e;refine⟨?_,_,rfl,rfl⟩;simp only[aT,dL] at hl;exact hl
  ·exact bx e
theorem aAp:UnR X (oP .USub) (r1 aHy ae):=by
 rintro pins s σ H x v Q I rx ⟨a,d,p,e,k⟩;cases a<;>try exact bx e
 cases e;cases p.inv;exact aLm pins s σ H _ v Q I rx ⟨_,rfl,k.int⟩
theorem tD(hu:X.A.units+20<b6):OpR X (dg .Eq) (r2 (b_ .eq) ae):=by
 rintro pins s σ H x y v u Q I rx ry ⟨a,b,d,p,q,e,k⟩;replace e:(if a.gW a_&&b.gW a_ then Res.ok (D.bl (eqD a b)) else .bad)=.ok d:=e;split at e
 ·rename_i hl;cases e;rw[aT] at hl;exact(J4 I a_ X.A (by have:a_=12:=rfl;lia) hl.1 hl.2 p q rx ry).1 X.prog X.w X.xe _ ⟨.bl _,H,I,rfl,k.bl⟩
 ·exact bx e
theorem jN(hu:X.A.units+20<b6):OpR X (dg .NotEq) (r2 (b_ .ne) ae):=by
 rintro pins s σ H x y v u Q I rx ry ⟨a,b,d,p,q,e,k⟩;replace e:(if a.gW a_&&b.gW a_ then Res.ok (D.bl (!eqD a b)) else .bad)=.ok d:=e;split at e
 ·rename_i hl;cases e;rw[aT] at hl;exact(J4 I a_ X.A (by have:a_=12:=rfl;lia) hl.1 hl.2 p q rx ry).2.1 X.prog X.w X.xe _ ⟨.bl _,H,I,rfl,k.bl⟩
 ·exact bx e
theorem T7(o:gV)(hu:X.A.units+20<b6):OpR X (dg o.op) (r2 (b_ (.ord o)) ae):=by
 rintro pins s σ H x y v u Q I rx ry ⟨a,b,d,p,q,e,k⟩;replace e:(if a.gW a_&&b.gW a_ then (match jJ o a b with|some k=>Res.ok (D.bl k)|none=>.bad) else .bad)=.ok d:=e;split at e
 ·rename_i hl;rw[aT] at hl;split at e
  ·rename_i m hm;cases e;have:=QK I o a_ X.A (by have:a_=12:=rfl;lia) hl.1 hl.2 p q rx ry hm X.prog X.w X.xe _ (show EP X pins σ Q (.bool m) s from ⟨.bl _,H,I,rfl,k.bl⟩);cases o<;>exact this
  ·exact bx e
 ·exact bx e
theorem aMd(hu:X.A.units+20<b6):OpR X (dg .Lt) (r2 (b_ (.ord .lt)) ae):=T7 .lt hu
theorem aPx(hu:X.A.units+20<b6):OpR X (dg .LtE) (r2 (b_ (.ord .le)) ae):=T7 .le hu
theorem XH(hu:X.A.units+20<b6):OpR X (dg .Gt) (r2 (b_ (.ord .gt)) ae):=T7 .gt hu
theorem aMe(hu:X.A.units+20<b6):OpR X (dg .GtE) (r2 (b_ (.ord .ge)) ae):=T7 .ge hu
theorem aFx:OpR X (dg .Is) (r2 (b_ .isN) ae):=by
 rintro pins s σ H x y v u Q I rx ry ⟨a,b,d,p,q,e,k⟩;have hb:b=.non:=by
  cases b with
  |non=>rfl
  |_=>cases a<;>exact bx e
 subst hb;cases q.inv;refine aLn pins s σ H x .non v u Q I rx ry ⟨rfl,?_⟩;cases p<;>cases e<;>exact k.bl
end
end
variable [KFrag]
theorem aAq(k q:Key):eqD (kD k) (kD q)=decide (k=q):=by
 cases k<;>cases q<;>simp[kD,xZ,aM1,aM2,aM3,Bool.beq_eq_decide_eq]
theorem aFy:∀(k q:aa Key),wX (k.map kD) (q.map kD)=decide (k=q)
 |[],[]=>by simp[wX]
 |[],_::_=>by simp[wX]
 |_::_,[]=>by simp[wX]
 |a::k,b::q=>by
  rw[bh,bh,wX,aAq,aFy k q];by_cases h:a=b<;>by_cases h':k=q<;>simp[h,h']
theorem aI7(k q:aa Key):eqD (.tup (k.map kD)) (.tup (q.map kD))=decide (k=q):=by rw[aM4,aFy]
theorem aI8:∀{kvs:aa (Key×V)}{ds:aa (D×D)},iJ P H kvs ds->(∃v d,BV kvs k=ab v/\fB ds (kD k)=ab d/\Rep P H v d)\/(BV kvs k=ai/\fB ds (kD k)=ai)
 |_,_,.nil=>.inr ⟨rfl,rfl⟩
 |_,_,.cons (k:=k') r t=>by
  by_cases h:k'=k
  ·subst h;exact .inl ⟨_,_,uN rfl,by rw[fB,aAq,ao 0x2],r⟩
  ·rw[fB,aAq,aw (by simpa using h),uO h];exact aI8 t
theorem aI9:∀{kvs:aa (aa Key×V)}{ds:aa (D×D)},oZ P H kvs ds->(∃v d,BV kvs k=ab v/\fB ds (.tup (k.map kD))=ab d/\Rep P H v d)\/(BV kvs k=ai/\fB ds (.tup (k.map kD))=ai)
 |_,_,.nil=>.inr ⟨rfl,rfl⟩
 |_,_,.cons (k:=k') r t=>by
  by_cases h:k'=k
  ·subst h;exact .inl ⟨_,_,uN rfl,by rw[fB,aI7,ao 0x2],r⟩
  ·rw[fB,aI7,aw (by simpa using h),uO h];exact aI9 t
theorem GF(h:mL d=ae)(r:Rep All H v d):∃k,v=kV k/\d=kD k:=by
 cases r<;>simp[mL] at h
 ·exact⟨.inl _,rfl,rfl⟩
 ·exact⟨.inr _,rfl,rfl⟩
theorem flat_keys:∀{vs:aa V}{ds:aa D},ds.all mL=ae->b7 All H vs ds->∃ks:aa Key,vs=ks.map kV/\ds=ks.map kD
 |_,_,_,.nil=>⟨[],rfl,rfl⟩
 |_,_,h,.cons r t=>by
  rw[gS,aT] at h;obtain⟨k,rfl,rfl⟩:=GF h.1 r;obtain⟨ks,rfl,rfl⟩:=flat_keys h.2 t;exact⟨k::ks,rfl,rfl⟩
theorem lU(h:keyOk k=ae)(r:Rep All H y k):(∃q,y=kV q/\k=kD q)\/∃(b:ak)(ks:aa Key),y=.ref b/\H b=ab (.tup (ks.map kV))/\k=.tup (ks.map kD):=by
 cases k<;>simp[keyOk] at h
 ·exact .inl (GF rfl r)
 ·exact .inl (GF rfl r)
 ·obtain⟨a,xs,rfl,e,rr⟩:=r.fG;obtain⟨ks,rfl,rfl⟩:=flat_keys (e9.mpr h) rr;exact .inr ⟨a,ks,rfl,e,rfl⟩
theorem mV(k:Key):isTup (kD k)=ag:=by cases k<;>rfl
section
variable {a:ak}
theorem GJ(e:H a=ab o):upd (upd H a o') a o=H:=by
 rw[PJ]
 funext b
 by_cases h:b=a
 ·subst h;rw[aM,e]
 ·rw[bG h]
theorem o7(I:Inv X pins σ H s)(e:H a=ab (.dK [])):Inv X pins σ (upd H a (.dT [])) s:=by
 obtain⟨z,hd,vs,rel,o,es,ep,h1,h2,h3,h4,h5,h6⟩:=JZ I.hok e;cases rel;refine I.write (by rw[e];trivial) (.inl rfl) (λ_ _ _ q=>q) ⟨o,h1⟩ ?_;refine⟨cy _,hd,[],.nil,o,es,ep,h1,h2,h3,?_,fA⟩;cases h5':es.toList with
 |nil=>rfl
 |cons _ _=>rw[h5'] at h5;cases h5
theorem lV(I:Inv X pins σ H s)(e:H a=ab (.dT [])):Inv X pins σ (upd H a (.dK [])) s:=by
 obtain⟨z,hd,vs,rel,o,es,ep,h1,h2,h3,h4,h5,h6⟩:=aDg I.hok e;cases rel;refine I.write (by rw[e];trivial) (.inl rfl) (λ_ _ _ q=>q) ⟨o,h1⟩ ?_;have h0:es.toList=[]:=h4;refine⟨cy _,hd,[],.nil,o,es,ep,h1,h2,h3,?_,?_,fA⟩
 ·intro x hx;have:x∈es.toList:=by simpa using hx
  rw[h0] at this;cases this
 ·rw[h0];exact .nil
theorem T8:∀{kvs:aa (Key×V)}{ds:aa (D×D)},iJ P H kvs ds->∀p∈ds,isTup p.1=ag
 |_,_,.nil,_,h=>by cases h
 |_,_,.cons r t,p,h=>by
  rcases bq.mp h with rfl|h
  ·exact mV _
  ·exact T8 t p h
theorem T9:∀{kvs:aa (aa Key×V)}{ds:aa (D×D)},oZ P H kvs ds->∀p∈ds,isTup p.1=ae
 |_,_,.nil,_,h=>by cases h
 |_,_,.cons r t,p,h=>by
  rcases bq.mp h with rfl|h
  ·rfl
  ·exact T9 t p h
theorem aIa(I:Inv X pins σ H s)(rd:Rep All H x (.dct ds))(rk:Rep All H y k)(hk:O4 ds k=ae) :
  ∃H1 a o,x=.ref a/\Inv X pins σ H1 s/\(∀s',Inv X pins σ H1 s'->Inv X pins σ H s')/\Z8 H1 a y o/\((o=ai/\fB ds k=ai)\/∃v d,o=ab v/\fB ds k=ab d/\Rep All H v d):=by
 unfold O4 at hk;rw[aT] at hk;obtain⟨h1,h2⟩:=hk;cases rd with
 |@dK a kvs ds e _ r n=>
  rcases lU h1 rk with ⟨q,rfl,rfl⟩|⟨b,ks,rfl,eb,rfl⟩
  ·refine⟨H,a,_,rfl,I,λ_ h=>h,.k e,?_⟩;rcases aI8 r with ⟨v,d,g1,g2,g3⟩|⟨g1,g2⟩
   ·exact .inr ⟨v,d,g1,g2,g3⟩
   ·exact .inl ⟨g1,g2⟩
  ·cases r with
   |nil=>
    have e2:=GJ (o':=.dT []) e;refine⟨upd H a (.dT []),a,ai,rfl,o7 I e,λs' I'=>?_,.t (k:=ks) aM (by rw[bG (DQ eb e 0x7)];exact eb),.inl ⟨rfl,rfl⟩⟩;have:=lV I' aM;rwa [e2] at this
   |cons r t=>
    rw[gS,mV] at h2;simp[isTup] at h2
 |@dT a kvs ds e _ r n=>
  rcases lU h1 rk with ⟨q,rfl,rfl⟩|⟨b,ks,rfl,eb,rfl⟩
  ·cases r with
   |nil=>
    have e2:=GJ (o':=.dK []) e;refine⟨upd H a (.dK []),a,ai,rfl,lV I e,λs' I'=>?_,.k (k:=q) aM,.inl ⟨rfl,rfl⟩⟩;have:=o7 I' aM;rwa [e2] at this
   |cons r t=>
    rw[gS,mV] at h2;simp[isTup] at h2
  ·refine⟨H,a,_,rfl,I,λ_ h=>h,.t e eb,?_⟩;rcases aI9 (k:=ks) r with ⟨v,d,g1,g2,g3⟩|⟨g1,g2⟩
   ·exact .inr ⟨v,d,g1,g2,g3⟩
   ·exact .inl ⟨g1,g2⟩
theorem aDv(rd:Rep All H x (.dct ds))(hk:keyOk k=ae)(h:fB ds k=ab d):O4 ds k=ae:=by
 have one:∀{ds:aa (D×D)},fB ds k=ab d->∃p∈ds,eqD p.1 k=ae:=by
  intro ds;induction ds with
  |nil=>intro h;cases h
  |cons p ds ih=>
   intro h;obtain⟨p1,p2⟩:=p;rw[fB] at h;by_cases hq:eqD p1 k=ae
   ·exact⟨_,bn ..,hq⟩
   ·rw[aw hq] at h;obtain⟨p,hp,e⟩:=ih h;exact⟨p,bz _ hp,e⟩
 obtain⟨p,hp,he⟩:=one h;unfold O4;rw[hk,tF,e9];intro q hq;have same:isTup p.1=isTup k:=by
  obtain⟨p1,p2⟩:=p;cases k with
  |int _=>cases p1<;>first|rfl|exact fx0 he
  |str _=>cases p1<;>first|rfl|exact fx0 he
  |tup _=>cases p1<;>first|rfl|exact fx0 he
  |_=>exact fx0 hk
 cases rd with
 |dK e _ r n=>rw[T8 r q hq,<-same,T8 r p hp];rfl
 |dT e _ r n=>rw[T9 r q hq,<-same,T9 r p hp];rfl
end
section
variable {X:Cx} {a b c e:Expr} {pos:cn} {fa fb:FE} {ra rb:aq}
def O7(H:Hp)(u:aj):D:=by
 classical
 exact if h:∃d,d.gW a_=ae/\∃v,RelV v u/\Rep All H v d then A3 h else .non
theorem aAr(hq:d.gW a_=ae)(rv:RelV v u)(r:Rep All H v d):O7 H u=d:=by
 unfold O7;have h:∃d,d.gW a_=ae/\∃v,RelV v u/\Rep All H v d:=⟨d,hq,v,rv,r⟩
 rw[sP h];obtain⟨h2,v',rv',r'⟩:=A4 h;have:=rv'.inj rv;subst this;exact Rep.inj a_ h2 hq r' r
theorem yJ{a:D}:∀{xs:aa V}{ds:aa D}{its:aa aj},D.fO a_ ds=ae->b7 All H xs ds->Vals xs its->(its.any λu=>eqD (O7 H u) a)=ds.any λy=>eqD y a
 |_,_,_,_,.nil,.nil=>rfl
 |_,_,_,h,.cons r t,.cons v vt=>by
  rw[D.fO,aT] at h;rw[ma,ma,aAr h.1 v r,yJ h.2 t vt]
theorem GK{s:am}(I:Inv X pins σ H s)(hu:X.A.units+20<b6){a:D}{x:V}{v:aj}(ha:a.gW a_=ae)(rx:Rep All H x a)(rv:RelV x v)
 {xs:aa V}{ds:aa D}{its:aa aj}(h:D.fO a_ ds=ae)(r:b7 All H xs ds)(vr:Vals xs its)(u:aj)(hm:u∈its):EqAt X.A.in1 s u v (eqD (O7 H u) a):=by
 obtain⟨j,hj,e⟩:=xB hm;have hj':j<ds.length:=by rw[<-r.length,vr.length];exact hj
 obtain⟨w,h1,h2⟩:=r.get (i:=j) (d:=ds[j]) (by simp[hj']);obtain⟨u',h3,h4⟩:=vr.get h1;rw[ef hj,e] at h3;cases h3;have hd:ds[j].gW a_=ae:=by
  have:=iW h hj';rwa [cu,ef hj'] at this
 rw[aAr hd h4 h2];exact(J4 I a_ X.A.in1 (by show X.A.units+1+12<b6;lia) hd ha h2 rx h4 rv).2.2
theorem aPy(hu:X.A.units+20<b6):OpR X (dg .In) (r2 (b_ .isin) ae):=by
 rintro pins s σ H x y v u Q I rx ry ⟨a,b,d,p,q,e,k⟩;cases b with
 |tup ys=>
  replace e:(if a.gW a_&&D.fO a_ ys then Res.ok (D.bl (ys.any λy=>eqD y a)) else .bad)=.ok d:=e;split at e
  ·rename_i hl;cases e;rw[aT] at hl;obtain⟨l,xs,rfl,ee,rr⟩:=q.fG;cases ry;obtain⟨its,vr,pl⟩:=g8 I ee;refine in_tupleAt (λu=>eqD (O7 H u) a) pl (λw hw=>GK I hu hl.1 p rx hl.2 rr vr w (by simpa using hw)) ⟨.bl _,H,I,rfl,?_⟩;rw[show its.toArray.any (λu=>eqD (O7 H u) a)=its.any (λu=>eqD (O7 H u) a) by simp,yJ hl.2 rr vr];exact k.bl
  ·cases e
 |lst ys=>
  replace e:(if a.gW a_&&D.fO a_ ys then Res.ok (D.bl (ys.any λy=>eqD y a)) else .bad)=.ok d:=e;split at e
  ·rename_i hl;cases e;rw[aT] at hl;obtain⟨l,xs,rfl,ee,rr⟩:=q.mU;cases ry;obtain⟨its,vr,pl⟩:=tH I ee;refine in_listAt (λu=>eqD (O7 H u) a) pl (λw hw=>GK I hu hl.1 p rx hl.2 rr vr w (by simpa using hw)) ⟨.bl _,H,I,rfl,?_⟩;rw[show its.toArray.any (λu=>eqD (O7 H u) a)=its.any (λu=>eqD (O7 H u) a) by simp,yJ hl.2 rr vr];exact k.bl
  ·cases e
 |dct kvs=>
  replace e:(if O4 kvs a then Res.ok (D.bl ((fB kvs a).isSome)) else .bad)=.ok d:=e;split at e
  ·rename_i hl;cases e;obtain⟨H1,a1,o,rfl,I1,bk,g,hc⟩:=aIa I q p hl;cases ry;refine aS1 0x1 I1 g rx λs' I'=>⟨.bl _,H,bk s' I',rfl,?_⟩
   rcases hc with ⟨rfl,h2⟩|⟨w,dd,rfl,h2,_⟩
   ·rw[h2] at k;exact k.bl
   ·rw[h2] at k;exact k.bl
  ·cases e
 |_=>exact bx e
theorem T_(hu:X.A.units+20<b6):OpR X (dg .NotIn) (r2 (b_ .notin) ae):=by
 rintro pins s σ H x y v u Q I rx ry ⟨a,b,d,p,q,e,k⟩;cases b with
 |tup ys=>
  replace e:(if a.gW a_&&D.fO a_ ys then Res.ok (D.bl (!(ys.any λy=>eqD y a))) else .bad)=.ok d:=e;split at e
  ·rename_i hl;cases e;rw[aT] at hl;obtain⟨l,xs,rfl,ee,rr⟩:=q.fG;cases ry;obtain⟨its,vr,pl⟩:=g8 I ee;refine notIn_tupleAt (λu=>eqD (O7 H u) a) pl (λw hw=>GK I hu hl.1 p rx hl.2 rr vr w (by simpa using hw)) ⟨.bl _,H,I,rfl,?_⟩;rw[show its.toArray.any (λu=>eqD (O7 H u) a)=its.any (λu=>eqD (O7 H u) a) by simp,yJ hl.2 rr vr];exact k.bl
  ·cases e
 |lst ys=>
  replace e:(if a.gW a_&&D.fO a_ ys then Res.ok (D.bl (!(ys.any λy=>eqD y a))) else .bad)=.ok d:=e;split at e
  ·rename_i hl;cases e;rw[aT] at hl;obtain⟨l,xs,rfl,ee,rr⟩:=q.mU;cases ry;obtain⟨its,vr,pl⟩:=tH I ee;refine notIn_listAt (λu=>eqD (O7 H u) a) pl (λw hw=>GK I hu hl.1 p rx hl.2 rr vr w (by simpa using hw)) ⟨.bl _,H,I,rfl,?_⟩;rw[show its.toArray.any (λu=>eqD (O7 H u) a)=its.any (λu=>eqD (O7 H u) a) by simp,yJ hl.2 rr vr];exact k.bl
  ·cases e
 |dct kvs=>
  replace e:(if O4 kvs a then Res.ok (D.bl (!((fB kvs a).isSome))) else .bad)=.ok d:=e;split at e
  ·rename_i hl;cases e;obtain⟨H1,a1,o,rfl,I1,bk,g,hc⟩:=aIa I q p hl;cases ry;refine aHq 0x1 I1 g rx λs' I'=>⟨.bl _,H,bk s' I',rfl,?_⟩
   rcases hc with ⟨rfl,h2⟩|⟨w,dd,rfl,h2,_⟩
   ·rw[h2] at k;exact k.bl
   ·rw[h2] at k;exact k.bl
  ·cases e
 |_=>exact bx e
theorem aMf(xs:aa α)(i:ah):L2.atI xs i=(ixD xs.length i).bind λj=>xs[j]?:=rfl
theorem b7.atI(r:b7 P H xs ds)(h:((ixD ds.length i).bind λj=>ds[j]?)=ab d):∃v,L2.atI xs i=ab v/\Rep P H v d:=by
 rw[aMf,r.length];cases hi:ixD ds.length i with
 |none=>rw[hi] at h;cases h
 |some j=>
  rw[hi] at h;obtain⟨v,h1,h2⟩:=r.get h;exact⟨v,h1,h2⟩
theorem J6{a:ak}{y v':V}{u:aj}{Q:VK}(hu:X.A.units+20<b6)(I:Inv X pins σ H s)(g:Z8 H a y (ab v'))(ry:RelV y u){H':Hp}
 (hs:ss slice ag (.ref a) u=wP [.ref a,u] (jh (.ref a) u))(bk:∀s',Inv X pins σ H s'->Inv X pins σ H' s')(q:Q v' H') :
  wpAny (av X.prog X.w) X.A (sn value slice (.ref a) u) (EP X pins σ Q) X.xe s:=by
 have hT:=P0 I g;unfold sn;refine al ?_;rw[getitemInPython_of_ne hT.not_modules];refine al (xL hT PySem.F.slot_dict_getitem.lookup ?_);have fin:wpAny (av X.prog X.w) X.A (ss slice ag (.ref a) u) (λr s₃=>wpAny (av X.prog X.w) X.A (letTemporaryGo value (.ref a) r >>= λ_=>pure r) (EP X pins σ Q) X.xe s₃) X.xe s:=by
  rw[hs];exact wpAny_operating (Z9 0x1 I g ry λw' s3 I3 rw'=>al (wpAny_letTemporaryGo (az ⟨v',H',bk s3 I3,rw',q⟩)))
 first
  |exact az (al fin)
  |exact al (az (al fin))
  |exact al fin
theorem UG:∀{ds:aa (D×D)},keyOk k=ae->fB ds k=ab d->∃p∈ds,isTup p.1=isTup k
 |[],_,h=>by cases h
 | (p1,p2)::ds,hk,h=>by
  rw[fB] at h;by_cases hq:eqD p1 k=ae
  ·refine⟨_,bn ..,?_⟩;cases k with
   |int _=>cases p1<;>first|rfl|exact fx0 hq
   |str _=>cases p1<;>first|rfl|exact fx0 hq
   |tup _=>cases p1<;>first|rfl|exact fx0 hq
   |_=>exact fx0 hk
  ·rw[aw hq] at h;obtain⟨p,hp,e⟩:=UG hk h;exact⟨p,bz _ hp,e⟩
theorem aPz(rd:Rep All H x (.fdc ds))(rk:Rep All H y k)(hk:keyOk k=ae)(h:fB ds k=ab d):∃a v,x=.ref a/\Z8 H a y (ab v)/\Rep All H v d:=by
 obtain⟨p,hp,et⟩:=UG hk h;cases rd with
 |@fdK a o kvs ds e r n=>
  rcases lU hk rk with ⟨q,rfl,rfl⟩|⟨b,ks,rfl,eb,rfl⟩
  ·rcases aI8 r with ⟨v,d',g1,g2,g3⟩|⟨g1,g2⟩
   ·rw[g2] at h;cases h;exact⟨a,v,rfl,.inl ⟨kvs,q,.inr ⟨o,e⟩,rfl,g1.symm⟩,g3⟩
   ·rw[g2] at h;cases h
  ·rw[T8 r p hp] at et;cases et
 |@fdT a o kvs ds e r n=>
  rcases lU hk rk with ⟨q,rfl,rfl⟩|⟨b,ks,rfl,eb,rfl⟩
  ·rw[T9 r p hp,mV] at et;cases et
  ·rcases aI9 r with ⟨v,d',g1,g2,g3⟩|⟨g1,g2⟩
   ·rw[g2] at h;cases h;exact⟨a,v,rfl,.inr ⟨kvs,ks,b,.inr ⟨o,e⟩,rfl,eb,g1.symm⟩,g3⟩
   ·rw[g2] at h;cases h
theorem aQ0(hK:KFrag.K=X.K)(hu:X.A.units+20<b6):IxR X (r2 getD ag):=by
 rintro value slice pins s σ H x y v u Q I rx ry ⟨a,b,d,p,q,e,k⟩ hs;cases a with
 |tup ys=>
  cases b<;>try exact bx e
  have e':=Res.mK e;obtain⟨l,xs,rfl,ee,rr⟩:=p.fG;cases q;obtain⟨w,h1,h2⟩:=rr.atI e';exact aLt value slice pins s σ H _ _ v u Q I rx ry ⟨l,xs,_,w,rfl,rfl,.of ee,h1,k.self h2 λz=>by cases z⟩ hs
 |lst ys=>
  cases b<;>try exact bx e
  have e':=Res.mK e;obtain⟨l,xs,rfl,ee,rr⟩:=p.mU;cases q;obtain⟨w,h1,h2⟩:=rr.atI e';exact PQ value slice pins s σ H _ _ v u Q I rx ry ⟨l,xs,_,w,rfl,rfl,ee,h1,k.self h2 λz=>by cases z⟩ hs
 |cel ca ys=>
  cases b<;>try exact bx e
  have e':=Res.mK e;obtain⟨_,rfl,ee,pp,rr⟩:=p.inv;cases q;obtain⟨w,h1,h2⟩:=rr.atI e';exact PQ value slice pins s σ H _ _ v u Q I rx ry ⟨_,_,_,w,rfl,rfl,.inl (.inl ee),h1,k.self h2 λz=>by cases z⟩ hs
 |scr ys=>
  cases b<;>try exact bx e
  have e':=Res.mK e;obtain⟨_,_,rfl,ee,rr⟩:=p.inv;cases q;obtain⟨w,h1,h2⟩:=rr.atI e';exact PQ value slice pins s σ H _ _ v u Q I rx ry ⟨_,_,_,w,rfl,rfl,ee.sq hK,h1,k.self h2 λz=>by cases z⟩ hs
 |str z=>
  cases b<;>try exact bx e
  rename_i i;replace e:(if decide (z.length<=lim) then Res.ofOpt (((ixD z.cps.toList.length i).bind λj=>z.cps.toList[j]?).map λc=>D.str ⟨#[c]⟩) else .bad)=.ok d:=e;split at e
  ·rename_i hl;have e':=Res.mK e;obtain⟨cc,h1,h2⟩:=jk.mp e';subst h2;cases p;cases q;exact aLu value slice pins s σ H _ _ v u Q I rx ry ⟨z,_,cc,rfl,rfl,o6 hl,h1,k.str⟩ hs
  ·cases e
 |dct kvs=>
  have e':keyOk b=ae/\fB kvs b=ab d:=by
   replace e:(if keyOk b then Res.ofOpt (fB kvs b) else .bad)=.ok d:=by cases b<;>exact e
   split at e
   ·rename_i hl;exact⟨hl,Res.mK e⟩
   ·exact bx e
  obtain⟨H1,a1,o,rfl,I1,bk,g,hc⟩:=aIa I p q (aDv p e'.1 e'.2);cases rx;rcases hc with ⟨rfl,h2⟩|⟨w,dd,rfl,h2,h3⟩
  ·rw[h2] at e';cases e'.2
  ·rw[h2] at e';cases e'.2;exact J6 hu I1 g ry hs bk (k.self h3 λz=>by cases z)
 |fdc kvs=>
  have e':keyOk b=ae/\fB kvs b=ab d:=by
   replace e:(if keyOk b then Res.ofOpt (fB kvs b) else .bad)=.ok d:=by cases b<;>exact e
   split at e
   ·rename_i hl;exact⟨hl,Res.mK e⟩
   ·exact bx e
  obtain⟨a1,w,rfl,g,h3⟩:=aPz p q e'.1 e'.2;cases rx;exact J6 hu I g ry hs (λ_ h=>h) (k.self h3 λz=>by cases z)
 |_=>cases b<;>exact bx e
theorem aX{X:Cx}{a b:Expr}{pos:cn}{fa fb:FE}{ra rb:aq}(ha:PE X a (gE fa ra))(hb:PE X b (gE fb rb))(hK:KFrag.K=X.K:=by assumption)(hu:X.A.units+20<b6:=by assumption)(hs:PP b:=by exact λ_ _=>rfl):PE X (.Subscript a b pos) (gE (b2 getD fa fb) ag):=aPw (aQ0 hK hu) ha hb hs
noncomputable def gO(f:aa D->Res (au ah)):TO:=λσ H Q=>∃ρ i,ER H σ ρ/\f ρ=.ok i/\∀H',cH H H'->Q i H'
theorem PO.imp{X:Cx}{e:au PySem.Expr}{t t':TO}(h:PO X e t)(i:∀σ H Q,t' σ H Q->t σ H Q):PO X e t':=λpins s σ H Q I q=>h pins s σ H Q I (i σ H Q q)
theorem tW:PO X ai (gO mR):=PO.imp aHl λσ H Q z0=>by obtain⟨ρ,i,E,h,q⟩:=z0;cases h;exact q H (cH.refl H)
theorem tX(ha:PE X a (gE fa ra)):PO X (ab a) (gO (mQ fa)):=PO.imp (Z4 ha) λσ H Q z0=>by
 obtain⟨ρ,i,E,h,q⟩:=z0;obtain⟨x,h1,h⟩:=bI h;obtain⟨j,h2,h⟩:=bI h;cases h;have e:=aM9 h2;subst e;exact⟨ρ,_,E,h1,λv H' s r _=>by cases r;exact⟨j,rfl,q H' s⟩⟩
theorem UJ(n d:af)(o:au ah):HT.sIx n d o=O5 n d o:=by
 cases o with
 |none=>rfl
 |some v=>
  show(if v<0 then (v+(n:ah)).toNat else min v.toNat n)=(if v<0 then (max (v+(n:ah)) 0).toNat else (min v (n:ah)).toNat);split<;>lia
theorem b7.cut(r:b7 P H xs ds)(lo hi:au ah):b7 P H (aDc xs lo hi) (cutD ds lo hi):=by
 unfold aDc cutD;rw[r.length];simp only[UJ];exact(r.drop _).take _
theorem j7:D.aW ds=ae↔∀d∈ds,d.pure=ae:=by
 induction ds with
 |nil=>simp[D.aW]
 |cons d ds ih=>rw[D.aW,aT,ih];simp
def rSl:V->au ah->au ah->Hp->VK->Prop:=λx lo hi H Q=>∃a d,Rep All H x a/\aKs a lo hi=.ok d/\kR H d ae Q
theorem aQ1(hK:KFrag.K=X.K):SlR X rSl:=by
 rintro pins s σ H x v vl vu lo hi sl Q I rx hs pl pu ⟨a,d,p,e,k⟩;cases a<;>simp only[aKs] at e<;>(try (cases e;done))
 ·split at e
  ·cases e
  ·rename_i hw;cases e;obtain⟨l,xs,rfl,ee,rr⟩:=p.fG;refine aLs pins s σ H _ v vl vu lo hi sl Q I rx hs pl pu ⟨l,xs,rfl,.of ee,?_,λp hp=>?_⟩
   ·simp only[UJ,rr.length];simp only[nV,f_,gu,Bool.not_eq_false',dL] at hw;exact hw.2
   ·have sp:cH H (upd H p (.tup (aDc xs lo hi))):=cH.upd hp;have hp2:D.aW ‹aa D›=ae:=by
     simp only[f_,gu,nV] at hw;simpa using hw.1
    exact k _ _ sp (.tup aM ((rr.cut lo hi).same sp)) λz=>.tup aM (((rr.b8 hp2).cut lo hi).same sp)
 ·split at e
  ·rename_i hl;cases e;obtain⟨l,xs,rfl,ee,rr⟩:=p.mU;refine Z5 pins s σ H _ v vl vu lo hi sl Q I rx hs pl pu ⟨l,xs,rfl,ee,λp hp=>?_⟩;have sp:cH H (upd H p (.lst (aDc xs lo hi))):=cH.upd hp;exact k _ _ sp (.lst aM trivial ((rr.cut lo hi).same sp)) λz=>.lst aM hp (((rr.b8 hl).cut lo hi).same sp)
  ·cases e
 ·split at e
  ·rename_i hl;cases e;cases p with
   |@frz l xs ds ee rr=>
    refine Z5 pins s σ H _ v vl vu lo hi sl Q I rx hs pl pu ⟨l,xs,rfl,ee.sq hK,λp hp=>?_⟩;have sp:cH H (upd H p (.lst (aDc xs lo hi))):=cH.upd hp;exact k _ _ sp (.lst aM trivial ((rr.cut lo hi).same sp)) λz=>.lst aM hp (((rr.b8 hl).cut lo hi).same sp)
  ·cases e
end
end Mi
namespace PySem.Mm
open PySem
noncomputable def wdL:aq->dS
 |false=>"min.loop"
 |true=>"max.loop"
noncomputable def wdO:aq->kg
 |false=>.Lt
 |true=>.Gt
section
variable {prog:bS} {w:bm} {A:b5} {R:kH->am->Prop} {I S:ak} {fp wr:aa ak} {n:af} {P:af->aj->Prop} {St:af->aI->Prop} {bt:af->af->aq} {Gd:am->Prop} {op:kg}
structure aMg(prog:bS)(w:bm)(A:b5)(op:kg)(P:af->aj->Prop)(bt:af->af->aq)(wr:aa ak)(top:af)(Gd:am->Prop):Prop where
 keep:∀s h' tk,Gd s->(∀b o,b∉wr->b<top->s.heap.get? b=ab o->h'.get? b=ab o)->Gd {s with heap:=h',toks:=tk}
 says:∀i j vi vj s Q E,Gd s->P i vi->P j vj->Q (.bool (bt i j)) s->wpAny (av prog w) A (mf op vi vj) Q E s
def aR4(P:af->aj->Prop)(bt:af->af->aq)(n:af):af->ay aj->Prop
 |0,a=>a=#[]/\0<n
 |j+1,a=>∃v,a=#[v,v]/\P (dm bt j) v
theorem touched(J:aMg prog w A op P bt wr S Gd){s:am}{f:ay aj->ay aj}(g:Gd s):Gd {s with heap:=s.heap.update S (dA f)}:=
 J.keep s _ s.toks g λb o _ hb e=>(ji _ _ (hI hb)).trans e
theorem turn(m:aq)(W:Walks prog w A.in1 I fp wr n P St)(hS:S∉fp)(J:aMg prog w A.in1 (wdO m) P bt wr S Gd):∀(k j:af)(s:am)(a:ay aj)(c:af),j+k=n->St j s.heap->Gd s->aR4 P bt n j a->
  s.heap.get? S=ab {cls:=.type "list",dict:=ai,data:=.seq a c,slots:=#[]}->
  (∀v h' tk,P (dm bt (n-1)) v->(∀b o,b∉wr->b≠S->s.heap.get? b=ab o->h'.get? b=ab o)->R (.ok (.ret v)) {s with heap:=h',toks:=tk})->
  codeAny (av prog w) A (.builtin (wdL m) ⟨[.ref I,.none,.ref S],[]⟩) R s:=by
 have off:S∉wr:=λh=>hS (W.sub _ h)
 have still:∀{j:af}{h:aI}{f:ay aj->ay aj},St j h->St j (h.update S (dA f)):=λst=>
  W.frame _ _ _ st λb hb o e=>(ji _ _ λz:S=b=>hS (z▸hb)).trans e
 intro k;induction k with
 |zero=>
  intro j s a c hj st g hb hs fin;have hjn:j=n:=hj;subst hjn;cases j with
  |zero=>exact aE hb.2 (fg 0)
  |succ j=>
   obtain⟨v,rfl,hv⟩:=hb;have last:∀(h':aI)(tk:af),(∀b o,b∉wr->s.heap.get? b=ab o->h'.get? b=ab o)->R (.ok (.ret v)) {s with heap:=h'.update S (dA λ_=>#[]),toks:=tk}:=λh' tk kp=>
    fin v _ tk hv λb o h1 h2 e=>(ji _ _ (cj h2)).trans (kp b o h1 e)
   cases m
   ·show codeAny (av prog w) A (.builtin "min.loop" ⟨[.ref I,.none,.ref S],[]⟩) R s;refine gf xS ?_;rw[gw k6];refine al (m:=ms (.ref S)) (fx hs rfl ?_);refine al (iw (m:=gz (.ref I)) (W.done s _ _ st λh' tk kp=>?_));exact al (m:=i7 S _) (jq (kp S _ off hs) rfl (al (ig (az (last h' tk kp)))))
   ·show codeAny (av prog w) A (.builtin "max.loop" ⟨[.ref I,.none,.ref S],[]⟩) R s;refine gf ya ?_;rw[gw k9];refine al (m:=ms (.ref S)) (fx hs rfl ?_);refine al (iw (m:=gz (.ref I)) (W.done s _ _ st λh' tk kp=>?_));exact al (m:=i7 S _) (jq (kp S _ off hs) rfl (al (ig (az (last h' tk kp)))))
 |succ k ih=>
  intro j s a c hj st g hb hs fin;have hjn:j<n:=by lia
  /- what is left to do behind the list's change,or without one -/
  have on:∀(v:aj)(h':aI)(tk:af),P j v->St (j+1) h'->(∀b o,b∉wr->s.heap.get? b=ab o->h'.get? b=ab o)->(∀(a':ay aj)(c':af)(h2:aI),aR4 P bt n (j+1) a'->h2.get? S=ab {cls:=.type "list",dict:=ai,data:=.seq a' c',slots:=#[]}->(h2=h'\/∃f:ay aj->ay aj,h2=h'.update S (dA f))->
    codeAny (av prog w) A (.builtin (wdL m) ⟨[.ref I,.none,.ref S],[]⟩) R {s with heap:=h2,toks:=tk}):=by
   intro v h' tk _ st' kp a' c' h2 hb' hs' hh;have g':Gd {s with heap:=h',toks:=tk}:=J.keep s h' tk g λb o h1 _ e=>kp b o h1 e
   rcases hh with rfl|⟨f,rfl⟩
   ·exact ih (j+1) _ a' c' 0x1 st' g' hb' hs' λu h3 t3 hu k3=>fin u h3 t3 hu λb o h1 h2 e=>k3 b o h1 h2 (kp b o h1 e)
   ·exact ih (j+1) _ a' c' 0x1 (still st') (touched J g') hb' hs' λu h3 t3 hu k3=>fin u h3 t3 hu λb o h1 h2 e=>k3 b o h1 h2 ((ji _ _ (cj h2)).trans (kp b o h1 e))
  have nmn:(toString "min" ++ toString ".loop" : dS)="min.loop":=by decide
  have nmx:(toString "max" ++ toString ".loop" : dS)="max.loop":=by decide
  cases j with
  |zero=>
   obtain⟨rfl,_⟩:=hb;cases m
   ·show codeAny (av prog w) A (.builtin "min.loop" ⟨[.ref I,.none,.ref S],[]⟩) R s;refine gf xS ?_;rw[gw k6];refine al (m:=ms (.ref S)) (fx hs rfl ?_);refine al (iw (m:=gz (.ref I)) (W.item 0 s _ _ hjn st λv h' tk pv st' kp=>?_));have hs':=kp S _ off hs;refine al (m:=i7 S _) (jq hs' rfl ?_);rw[nmn];exact az ⟨ix k6 _,on v h' tk pv st' kp #[v,v] _ _ ⟨v,rfl,pv⟩ (jr _ hs' rfl) (.inr ⟨_,rfl⟩)⟩
   ·show codeAny (av prog w) A (.builtin "max.loop" ⟨[.ref I,.none,.ref S],[]⟩) R s;refine gf ya ?_;rw[gw k9];refine al (m:=ms (.ref S)) (fx hs rfl ?_);refine al (iw (m:=gz (.ref I)) (W.item 0 s _ _ hjn st λv h' tk pv st' kp=>?_));have hs':=kp S _ off hs;refine al (m:=i7 S _) (jq hs' rfl ?_);rw[nmx];exact az ⟨ix k9 _,on v h' tk pv st' kp #[v,v] _ _ ⟨v,rfl,pv⟩ (jr _ hs' rfl) (.inr ⟨_,rfl⟩)⟩
  |succ j=>
   obtain⟨u,rfl,hu⟩:=hb;cases m
   ·show codeAny (av prog w) A (.builtin "min.loop" ⟨[.ref I,.none,.ref S],[]⟩) R s;refine gf xS ?_;rw[gw k6];refine al (m:=ms (.ref S)) (fx hs rfl ?_);refine al (iw (m:=gz (.ref I)) (W.item (j+1) s _ _ hjn st λv h' tk pv st' kp=>?_));have hs':=kp S _ off hs;refine al (az ?_);refine al (iw (eh (al (m:=mf .Lt v u) (J.says (j+1) (dm bt j) v u _ _ _ (J.keep s h' tk g λb o h1 _ e=>kp b o h1 e) pv hu ?_))));refine al (eh (lw (al (ig (az ?_)))));cases hx:bt (j+1) (dm bt j)
    ·rw[aw kA];refine al (ig ?_);rw[nmn];exact az ⟨ix k6 _,on v h' tk pv st' kp _ _ _ ⟨u,rfl,by rw[dm,hx];exact hu⟩ hs' (.inl rfl)⟩
    ·rw[ao rfl];refine al (m:=i7 S _) (jq hs' rfl (al (ig ?_)));rw[nmn];exact az ⟨ix k6 _,on v h' tk pv st' kp #[v,v] _ _ ⟨v,rfl,by rw[dm,hx];exact pv⟩ (jr _ hs' rfl) (.inr ⟨_,rfl⟩)⟩
   ·show codeAny (av prog w) A (.builtin "max.loop" ⟨[.ref I,.none,.ref S],[]⟩) R s;refine gf ya ?_;rw[gw k9];refine al (m:=ms (.ref S)) (fx hs rfl ?_);refine al (iw (m:=gz (.ref I)) (W.item (j+1) s _ _ hjn st λv h' tk pv st' kp=>?_));have hs':=kp S _ off hs;refine al (az ?_);refine al (iw (eh (al (m:=mf .Gt v u) (J.says (j+1) (dm bt j) v u _ _ _ (J.keep s h' tk g λb o h1 _ e=>kp b o h1 e) pv hu ?_))));refine al (eh (lw (al (ig (az ?_)))));cases hx:bt (j+1) (dm bt j)
    ·rw[aw kA];refine al (ig ?_);rw[nmx];exact az ⟨ix k9 _,on v h' tk pv st' kp _ _ _ ⟨u,rfl,by rw[dm,hx];exact hu⟩ hs' (.inl rfl)⟩
    ·rw[ao rfl];refine al (m:=i7 S _) (jq hs' rfl (al (ig ?_)));rw[nmx];exact az ⟨ix k9 _,on v h' tk pv st' kp #[v,v] _ _ ⟨v,rfl,by rw[dm,hx];exact pv⟩ (jr _ hs' rfl) (.inr ⟨_,rfl⟩)⟩
end
section
variable {prog:bS} {w:bm} {A:b5} {E:aj->am->Prop} {s:am} {Q:aj->am->Prop}
abbrev Seen(prog:bS)(w:bm)(A:b5)(op:kg)(Q:aj->am->Prop)(it:aj)(t:am):Prop:=
 ∃(I:ak)(fp wr:aa ak)(n:af)(P:af->aj->Prop)(St:af->aI->Prop)(bt:af->af->aq),it=.ref I/\Walks prog w A I fp wr n P St/\St 0 t.heap/\(∀b∈fp,b<t.heap.objs.size)/\0<n/\
  (∃Gd:am->Prop,Gd t/\(∀s h' tk,Gd s->(∀b o,b∉wr->b<t.heap.objs.size->s.heap.get? b=ab o->h'.get? b=ab o)->Gd {s with heap:=h',toks:=tk})/\
   ∀i j vi vj s Q E,Gd s->P i vi->P j vj->Q (.bool (bt i j)) s->wpAny (av prog w) A (mf op vi vj) Q E s)/\
  ∀v h' tk,P (dm bt (n-1)) v->(∀b o,b∉wr->t.heap.get? b=ab o->h'.get? b=ab o)->Q v {t with heap:=h',toks:=tk}
theorem begun(m:aq){it:aj}{t:am}{R:kH->am->Prop}(hR:∀v s,Q v s->R (.ok (.ret v)) s)(h:Seen prog w A.in1 (wdO m) Q it t) :
  codeAny (av prog w) A (.builtin (wdL m) ⟨[it,.none,.ref t.heap.objs.size],[]⟩) R {t with heap:=t.heap.push {cls:=.type "list",data:=.seq #[]}}:=by
 obtain⟨I,fp,wr,n,P,St,bt,rfl,W,st,hfp,hn,⟨Gd,g,gk,gs⟩,q⟩:=h;have up:∀b o,t.heap.get? b=ab o->(t.heap.push {cls:=.type "list",data:=.seq #[]}).get? b=ab o:=λb o e=>bu _ e
 refine turn m W (λz=>fg _ (hfp _ z)) ⟨gk,gs⟩ n 0 _ #[] _ (kh n) (W.frame _ _ _ st λb _ o e=>up b o e) (gk t _ t.toks g λb o _ _ e=>up b o e) ⟨rfl,hn⟩ (cx _ rfl) λv h' tk hv kp=>?_
 exact hR _ _ (q v h' tk hv λb o h1 e=>kp b o h1 (ck (bp e)) (up b o e))
theorem QS{a b:aj}(h:wpAny (av prog w) A.in1 (iE (.ref s.heap.objs.size)) (Seen prog w A.in1 .Lt Q) E {s with heap:=s.heap.push {cls:=.type "tuple",data:=.seq #[a,b]}}):wpAny (av prog w) A (call (.builtin "min") [a,b]) Q E s:=by
 have nmn:(toString "min" ++ toString ".loop" : dS)="min.loop":=by decide
 refine Bc F.kind_min F.plain_min F.entry_min (F.args_min2 _ _) ?_;refine al (m:=Bd "min" ["key","default"] 0 ⟨[],[]⟩) (yb (a:=[ai,ai]) rfl ?_);refine al (m:=newTuple [a,b]) (iN (al (fT h (λit t ht=>al (iN ?_)) λ_ _ e=>e)));rw[nmn];exact az ⟨ix k6 _,begun ag (λ_ _ q=>q) ht⟩
theorem QT{a b:aj}(h:wpAny (av prog w) A.in1 (iE (.ref s.heap.objs.size)) (Seen prog w A.in1 .Gt Q) E {s with heap:=s.heap.push {cls:=.type "tuple",data:=.seq #[a,b]}}):wpAny (av prog w) A (call (.builtin "max") [a,b]) Q E s:=by
 have nmx:(toString "max" ++ toString ".loop" : dS)="max.loop":=by decide
 refine Bc F.kind_max F.plain_max F.entry_max (F.args_max2 _ _) ?_;refine al (m:=Bd "max" ["key","default"] 0 ⟨[],[]⟩) (yb (a:=[ai,ai]) rfl ?_);refine al (m:=newTuple [a,b]) (iN (al (fT h (λit t ht=>al (iN ?_)) λ_ _ e=>e)));rw[nmx];exact az ⟨ix k9 _,begun ae (λ_ _ q=>q) ht⟩
end
end PySem.Mm
namespace Mi
open PySem L2 PySem.SeqAt PySem.Spec PyProof.Rows
variable [KFrag]
theorem J7(o:gV)(x:D)(xs:aa D):∀k,k<=xs.length->(xs.take k).foldl (λm y=>if (jJ o y m).getD ag then y else m) x=(x::xs).getD (dm (btD o (x::xs)) k) .non
 |0,_=>by simp[dm]
 |k+1,h=>by
  have ih:=J7 o x xs k 0x1;have hk:k<xs.length:=by lia
  rw[List.take_succ_eq_append_getElem hk,Be,ih];have e:(x::xs).getD (k+1) .non=xs[k]:=by simp[hk]
  have hb:btD o (x::xs) (k+1) (dm (btD o (x::xs)) k)=(jJ o xs[k] ((x::xs).getD (dm (btD o (x::xs)) k) .non)).getD ag:=by unfold btD;rw[e]
  show(if (jJ o xs[k] ((x::xs).getD (dm (btD o (x::xs)) k) .non)).getD ag then xs[k] else (x::xs).getD (dm (btD o (x::xs)) k) .non)=(x::xs).getD (if btD o (x::xs) (k+1) (dm (btD o (x::xs)) k) then k+1 else dm (btD o (x::xs)) k) .non;rw[<-hb];cases btD o (x::xs) (k+1) (dm (btD o (x::xs)) k) with
  |true=>rw[ao rfl,ao rfl,e]
  |false=>rw[aw 0x2,aw 0x2]
section
variable {X:Cx} {pins:aa (ak×bd)} {σ:L2.St} {H:Hp} {s:am}
def Gds(s:am)(s':am):Prop:=∃h' tk,s'={s with heap:=h',toks:=tk}/\∀b o,s.heap.get? b=ab o->h'.get? b=ab o
theorem aDw(I:Inv X pins σ H s)(hu:X.A.units+20<b6){o:gV}{xs:aa V}{ds:aa D}{its:aa aj}{d:D}(r:b7 All H xs ds)(vr:Vals xs its)(h:J2 o ds=.ok d)(i j:af)(vi vj:aj)(s':am)(Q:aj->am->Prop)(E:aj->am->Prop)
 (g:Gds s s')(hi:its.toArray[i]?=ab vi)(hj:its.toArray[j]?=ab vj)(q:Q (.bool (btD o ds i j)) s'):wpAny (av X.prog X.w) X.A.in1 (mf o.op vi vj) Q E s':=by
 obtain⟨h',tk,rfl,hk⟩:=g;have I':Inv X pins σ H {s with heap:=h',toks:=tk}:=I.kept hk;have hi':its[i]?=ab vi:=by simpa using hi
 have hj':its[j]?=ab vj:=by simpa using hj
 have at_:∀{i:af}{v:aj},its[i]?=ab v->∃d w,ds.getD i .non=d/\d∈ds/\RelV w v/\Rep All H w d:=by
  intro i v hv;have hlt:i<its.length:=(c_.mp hv).1;have hlt':i<ds.length:=by rw[<-r.length,vr.length];exact hlt
  obtain⟨w,h1,h2⟩:=r.get (i:=i) (d:=ds[i]) (by simp[hlt']);obtain⟨u,h3,h4⟩:=vr.get h1;rw[hv] at h3;cases h3;exact⟨ds[i],w,by simp[hlt'],mq _,h4,h2⟩
 obtain⟨d1,w1,e1,m1,v1,r1⟩:=at_ hi';obtain⟨d2,w2,e2,m2,v2,r2⟩:=at_ hj';cases ds with
 |nil=>cases m1
 |cons x xs'=>
  simp only[J2] at h;split at h
  ·rename_i hall;have h1:=e9.mp hall d1 m1;have h2:=e9.mp hall d2 m2;rw[aT] at h1 h2;obtain⟨k,hk⟩:=se.mp (e9.mp h1.2 d2 m2);have:btD o (x::xs') i j=k:=by unfold btD;rw[e1,e2,hk];rfl
   rw[this] at q;exact QK I' o a_ X.A.in1 (by show X.A.units+1+12<b6;lia) h1.1 h2.1 r1 r2 v1 v2 hk X.prog X.w E Q q
  ·exact bx h
theorem aIb{o:gV}{xs:aa V}{ds:aa D}{its:aa aj}{d:D}(r:b7 All H xs ds)(vr:Vals xs its)(h:J2 o ds=.ok d){v:aj}(hv:its.toArray[dm (btD o ds) (its.length-1)]?=ab v):∃w,RelV w v/\Rep All H w d:=by
 have hv':its[dm (btD o ds) (its.length-1)]?=ab v:=by simpa using hv
 cases ds with
 |nil=>exact bx h
 |cons x xs'=>
  simp only[J2] at h;split at h
  ·cases h;have hl:its.length-1=xs'.length:=by rw[<-vr.length,r.length];simp
   rw[hl] at hv';have fb:=J7 o x xs' xs'.length (aS _);rw[Bf] at fb;have hlt:dm (btD o (x::xs')) xs'.length<its.length:=(c_.mp hv').1;have hlt':dm (btD o (x::xs')) xs'.length<(x::xs').length:=by rw[<-r.length,vr.length];exact hlt
   obtain⟨w,h1,h2⟩:=r.get (i:=dm (btD o (x::xs')) xs'.length) (d:=(x::xs')[dm (btD o (x::xs')) xs'.length]) (by simp[hlt']);obtain⟨u,h3,h4⟩:=vr.get h1;rw[hv'] at h3;cases h3;refine⟨w,h4,?_⟩;rw[fb,cu,ef hlt'];exact h2
  ·exact bx h
theorem Gds.grow{s':am}{h1:aI}{tk1:af}(g:Gds s s'){wq:aa ak}{n:af}(hw:∀b∈wq,s.heap.objs.size<=b)(hn:s.heap.objs.size<=n)
 (kk:∀b o,b∉wq->b<n->s'.heap.get? b=ab o->h1.get? b=ab o):Gds s {s' with heap:=h1,toks:=tk1}:=by
 obtain⟨h',tk,rfl,hk⟩:=g;refine⟨h1,tk1,rfl,λb o e=>kk b o (λhb=>?_) (c5 (bp e) hn) (hk b o e)⟩;exact aE (c5 (bp e) (hw b hb)) (fg _)
end
section
variable {X:Cx}
theorem aAs{o:gV}{nm:dS}(two:∀{prog:bS} {w:bm} {A:b5} {Q:aj->am->Prop} {E:aj->am->Prop} {s:am} {a b:aj},wpAny (av prog w) A.in1 (iE (.ref s.heap.objs.size)) (Mm.Seen prog w A.in1 o.op Q) E {s with heap:=s.heap.push {cls:=.type "tuple",data:=.seq #[a,b]}}->wpAny (av prog w) A (call (.builtin nm) [a,b]) Q E s)(hu:X.A.units+20<b6)(hc:X.calm=ae){pins:aa (ak×bd)}{σ:L2.St}{H:Hp}{s:am}{x y:V}{u w:aj}{a b d:D}{Q:VK}(I:Inv X pins σ H s)(rx:Rep All H x a)(ry:Rep All H y b)(ru:RelV x u)(rw':RelV y w)(h:J2 o [a,b]=.ok d)(q:kR H d ag Q) :
  wpAny (av X.prog X.w) X.A (call (.builtin nm) [u,w]) (EP X pins σ Q) X.xe s:=by
 have r:b7 All H [x,y] [a,b]:=.cons rx (.cons ry .nil);have vr:Vals [x,y] [u,w]:=.cons ru (.cons rw' .nil);have pl:(s.heap.push {cls:=.type "tuple",data:=.seq #[u,w]}).IsTuple s.heap.objs.size [u,w].toArray:=⟨_,cx _ rfl,rfl,0,rfl⟩
 have hsz:(s.heap.push {cls:=.type "tuple",data:=.seq #[u,w]}).objs.size=s.heap.objs.size+1:=dv ..;refine two (i8 pl ?_);refine⟨_,_,_,_,_,_,btD o [a,b],rfl,Walks.tuple (A:=X.A.in1) (I.ok.hd hc) _ s.heap.objs.size (by rw[hsz];exact ck (ip _)) [u,w].toArray,⟨⟨_,cx _ rfl,rfl,rfl⟩,pl.push _⟩,λb hb=>?_,by simp,⟨Gds s,⟨_,s.toks,rfl,λb o e=>bu _ (bu _ e)⟩,λs' h' tk g kk=>g.grow (wq:=[s.heap.objs.size+1]) (n:=s.heap.objs.size+2) (λb hb=>?_) 0x1 λb o h1 h2 e=>kk b o (by rw[hsz];exact h1) (by show b<((s.heap.push _).push _).objs.size;rw[dv,hsz];exact h2) e,λi j vi vj s' Q E g h1 h2 q=>aDw I hu r vr h i j vi vj s' Q E g h1 h2 q⟩,λv h' tk hP hk=>?_⟩
 ·show b<((s.heap.push _).push _).objs.size;rw[dv,hsz];rcases bq.mp hb with rfl|hb
  ·rw[hsz];exact ip _
  ·rcases bq.mp hb with rfl|hb
   ·exact ie (ip _)
   ·cases hb
 ·rcases bq.mp hb with rfl|hb
  ·lia
  ·cases hb
 ·obtain⟨w,v1,r1⟩:=aIb r vr h (by simpa using hP);refine⟨w,H,I.kept λb o e=>hk b o (λhb=>?_) (bu _ (bu _ e)),v1,q.self r1 λz=>by cases z⟩;rcases bq.mp hb with hb|hb
  ·have:=bp e;rw[hb,hsz] at this;exact aE this (xo.mpr (gn _))
  ·cases hb
end
end Mi
namespace PySem.Mm
open PySem PyProof.Rows PySem.W
theorem J8{K:Type}[cq K]{knd:KeyKind prog w K}{d:ak}{kvs:aa (K×aj)}{ep n:af}(hh:A.handled=ai)(lo:(d==gj)=ag)
 (hm:s.heap.DictAt knd d kvs ep)(hn:kvs.length=n)(hl:n<=2 ^ 24)
 (q:∀h' tk acc c,(∀b o,s.heap.get? b=ab o->h'.get? b=ab o)->h'.get? s.heap.objs.size=ab {cls:=.type "list",dict:=ai,data:=.seq acc c,slots:=#[]}->
   ItemsOf (λi v=>∃k x,kvs[i]?=ab (k,x)/\knd.is k v=ae) acc n->Q (.ref s.heap.objs.size) {s with heap:=h',toks:=tk}):wpAny (av prog w) A (call (.type "list") [.ref d]) Q E s:=by
 subst hn;exact kdl_call (kdl_dict lo) hh hm (kdl_size hl) q
end PySem.Mm
namespace Mi
open PySem L2 PySem.SeqAt PySem.Spec PyProof.Rows
section
variable [KFrag]
section
variable {a b e:Expr} {x:Str} {id T:dS}
theorem kZ(r:b7 P H xs [d])(vr:Vals xs us):∃v u,xs=[v]/\us=[u]/\Rep P H v d/\RelV v u:=by
 cases r with
 |cons r t=>
  cases t;cases vr with
  |cons v vt=>
   cases vt;exact⟨_,_,rfl,rfl,r,v⟩
theorem UL{fr:aq}(h:gE (aK f fs) fr σ H Q):tCB (rs f fr) (gA fs rr) σ H Q:=by
 obtain⟨ρ,d,E,h,q⟩:=h;obtain⟨ds,h1,h2⟩:=bI h;exact⟨ρ,ds,E,h1,λvs H1 s1 r1 _=>⟨ds,d,r1,h2,q.imp s1 id⟩⟩
theorem bD{fr:aq}(hc:lL X (.builtin id) (rs f fr))(hg:Gl X x)(hm:X.mg x=ai)(hv:dz x=ab (.builtin id))(ha:PA X (e::es) (gA fs rr))(hn:x ≠ "__name__":=by decide)(hdb:nDb x:=by decide)
 (he:zSE X e es:=by rfl)(hpl:zSP X pos es:=by rfl):PE X (.Call (.Name x p) (e::es) [] pos) (gE (aK f fs) fr):=
 PE.imp (SX hc hg hm hv ha hn hdb he hpl) λ_ _ _=>UL
theorem fH{fr:aq}(hc:lL X (.type T) (rs f fr))(hg:Gl X x)(hm:X.mg x=ai)(hv:dz x=ab (.type T))(ha:PA X (e::es) (gA fs rr))(hn:x ≠ "__name__":=by decide)(hdb:nDb x:=by decide)
 (he:zSE X e es:=by rfl)(hpl:zSP X pos es:=by rfl):PE X (.Call (.Name x p) (e::es) [] pos) (gE (aK f fs) fr):=
 PE.imp (Z2 hc hg hm hv ha hn hdb he hpl) λ_ _ _=>UL
theorem cN(hK:KFrag.K=X.K):lL X (.builtin "len") (rs dG ae):=by
 rintro pins s σ H xs us Q I vr ⟨ds,d,r,e,k⟩;unfold dG at e;split at e
 ·cases e;obtain⟨vv,uu,rfl,rfl,r,v⟩:=kZ r vr;obtain⟨l,ys,rfl,hl,rr⟩:=r.fG;cases v;exact kW pins s σ H [.ref l] [.ref l] Q I (.cons rfl .nil) ⟨l,ys,rfl,.inr (.of hl),by rw[rr.length];exact k.int⟩
 ·cases e;obtain⟨vv,uu,rfl,rfl,r,v⟩:=kZ r vr;obtain⟨l,ys,rfl,hl,rr⟩:=r.mU;cases v;exact kW pins s σ H [.ref l] [.ref l] Q I (.cons rfl .nil) ⟨l,ys,rfl,.inl hl,by rw[rr.length];exact k.int⟩
 ·cases e;obtain⟨vv,uu,rfl,rfl,r,v⟩:=kZ r vr;cases r with
  |@frz l xs ds ee rr=>
   cases v;exact kW pins s σ H [.ref l] [.ref l] Q I (.cons rfl .nil) ⟨l,xs,rfl,.inl (ee.sq hK),by rw[rr.length];exact k.int⟩
 ·cases e;obtain⟨vv,uu,rfl,rfl,r,v⟩:=kZ r vr;obtain⟨_,rfl,ee,pp,rr⟩:=r.inv;cases v;exact kW pins s σ H [.ref _] [.ref _] Q I (.cons rfl .nil) ⟨_,_,rfl,.inl (.inl (.inl ee)),by rw[rr.length];exact k.int⟩
 ·split at e
  ·rename_i hl;cases e;obtain⟨vv,uu,rfl,rfl,r,v⟩:=kZ r vr;cases r.inv;exact JT pins s σ H _ _ Q I (.cons v .nil) ⟨_,rfl,o6 hl,k.int⟩
  ·exact bx e
 ·exact bx e
theorem iJ.keys:∀{kvs:aa (Key×V)}{ds:aa (D×D)},iJ P H kvs ds->b7 P' H (kvs.map λp=>kV p.1) (sZ ds)
 |_,_,.nil=>.nil
 |_,_,.cons (k:=k) _ t=>.cons (by cases k<;>first|exact .int _|exact .str _) t.keys
theorem list_dict(hc:X.calm=ae)(I:Inv X pins σ H s)(e:H l=ab (.dK kvs))
 (q:∀p s',H p=ai->Inv X pins σ (upd H p (.lst (kvs.map λp=>kV p.1))) s'->(∀l0 o0,H l0=ab o0->l0≠p)->Q (.ref p) s'):wpAny (av X.prog X.w) X.A (call (.type "list") [.ref l]) Q X.xe s:=by
 obtain⟨z,hd,vs,rel,dd⟩:=JZ I.hok e;obtain⟨ep,da⟩:=dd.dictAt;have hlen:kvs.length=vs.length:=ja rel;refine Mm.J8 (I.ok.hd hc) hd da rfl (by rw[<-hlen];rw[c8] at z;lia) λh' tk acc' c' kp e1 it=>?_
 obtain⟨i1,i2⟩:=it;have hfr:H s.heap.objs.size=ai:=I.hok.fresh (aS _);refine q _ _ hfr (I.laid kp (aS _) ?_) λl0 o0 h0=>dO h0 hfr
 refine⟨by rw[ax];exact z,acc'.toList,c',?_,by simpa using e1⟩;have gen:∀(kvs:aa (Key×V))(vs:aa (Key×aj))(xs:aa aj),KV kvs vs->xs.length=vs.length->(∀(j:af)(v:aj),xs[j]?=ab v->∃k x,vs[j]?=ab (k,x)/\(cM X.prog X.w).is k v=ae)->Vals (kvs.map λp=>kV p.1) xs:=by
  intro kvs vs xs rel;induction rel generalizing xs with
  |nil=>intro hl _;cases xs with|nil=>exact .nil|cons _ _=>simp at hl
  |@cons p q ps qs hpq t ih=>
   intro hl g;cases xs with
   |nil=>simp at hl
   |cons x xs=>
    refine .cons ?_ (ih xs (by simpa using hl) λj v hv=>g (j+1) v (by simpa using hv));obtain⟨k,x',h1,h2⟩:=g 0 x rfl;have h1':q=(k,x'):=by simpa using h1
    show RelV (kV p.1) x;rw[hpq.1,h1'];rcases dU h2 with ⟨i,t,rfl,rfl⟩|⟨i,t,rfl,rfl⟩
    ·exact⟨t,rfl⟩
    ·exact⟨t,rfl⟩
 exact gen kvs vs acc'.toList rel (by simpa using i1) λj v hv=>i2 j v (by simpa using hv)
theorem aIc(hc:X.calm=ae):lL X (.type "list") (rs aA7 ae):=by
 rintro pins s σ H xs us Q I vr ⟨ds,d,r,e,k⟩;unfold aA7 at e;split at e
 ·split at e
  ·rename_i hl;cases e;obtain⟨vv,uu,rfl,rfl,r,v⟩:=kZ r vr;obtain⟨l,ys,rfl,hl',rr⟩:=r.fG;cases v;refine v7 pins s σ H [.ref l] [.ref l] Q I (.cons rfl .nil) ⟨l,ys,rfl,.inr (.of hl'),λp hp=>?_⟩;have sp:cH H (upd H p (.lst ys)):=cH.upd hp;exact k _ _ sp (.lst aM trivial (rr.same sp)) λ_=>.lst aM hp ((rr.b8 hl).same sp)
  ·exact bx e
 ·split at e
  ·rename_i hl;cases e;obtain⟨vv,uu,rfl,rfl,r,v⟩:=kZ r vr;obtain⟨l,ys,rfl,hl',rr⟩:=r.mU;cases v;refine v7 pins s σ H [.ref l] [.ref l] Q I (.cons rfl .nil) ⟨l,ys,rfl,.inl hl',λp hp=>?_⟩;have sp:cH H (upd H p (.lst ys)):=cH.upd hp;exact k _ _ sp (.lst aM trivial (rr.same sp)) λ_=>.lst aM hp ((rr.b8 hl).same sp)
  ·exact bx e
 ·split at e
  ·rename_i hl;cases e;obtain⟨vv,uu,rfl,rfl,r,v⟩:=kZ r vr;cases r with
   |@dK l kvs ds e _ r n=>
    cases v;refine list_dict hc I e λp s' hp I' _=>⟨.ref p,_,I',rfl,?_⟩
    have sp:cH H (upd H p (.lst (kvs.map λp=>kV p.1))):=cH.upd hp;exact k _ _ sp (.lst aM trivial (r.keys.same sp)) λ_=>.lst aM hp (r.keys.same sp)
   |@dT l kvs ds e _ r n=>
    cases v;cases r with
    |cons r t=>simp[isTup] at hl
    |nil=>
     have e2:=GJ (o':=.dK []) e;refine list_dict hc (lV I e) aM λp s' hp I' hne=>?_
     have hp':p≠l:=λz=>by subst z;rw[aM] at hp;cases hp
     have hpn:H p=ai:=by rw[bG hp'] at hp;exact hp
     have hcm:upd (upd (upd H l (.dK [])) p (.lst [])) l (.dT [])=upd H p (.lst []):=by
      funext b
      by_cases hb:b=l
      ·subst hb;rw[aM,bG (cj hp'),e]
      ·rw[bG hb];by_cases hb2:b=p
       ·subst hb2;rw[aM,aM]
       ·rw[bG hb2,bG hb2,bG hb]
     have I2:=o7 I' (by rw[bG (cj hp'),aM]);have I3:Inv X pins σ (upd H p (.lst [])) s':=by
      have:Inv X pins σ (upd (upd (upd H l (.dK [])) p (.lst [])) l (.dT [])) s':=I2;rwa [hcm] at this
     have sp:cH H (upd H p (.lst [])):=cH.upd hpn;exact⟨.ref p,_,I3,rfl,k _ _ sp (.lst aM trivial .nil) λ_=>.lst aM hpn .nil⟩
  ·exact bx e
 ·exact bx e
theorem iM:lL X (.type "tuple") (rs gY ag):=by
 rintro pins s σ H xs us Q I vr ⟨ds,d,r,e,k⟩;unfold gY at e;split at e
 ·cases e;obtain⟨vv,uu,rfl,rfl,r,v⟩:=kZ r vr;obtain⟨l,ys,rfl,hl',rr⟩:=r.fG;cases v;exact uL pins s σ H [.ref l] [.ref l] Q I (.cons rfl .nil) ⟨l,ys,rfl,.inr ⟨.of hl',k.self (.tup hl' rr) λz=>by cases z⟩⟩
 ·cases e;obtain⟨vv,uu,rfl,rfl,r,v⟩:=kZ r vr;obtain⟨l,ys,rfl,hl',rr⟩:=r.mU;cases v;refine uL pins s σ H [.ref l] [.ref l] Q I (.cons rfl .nil) ⟨l,ys,rfl,.inl ⟨hl',λp hp=>?_⟩⟩;have sp:cH H (upd H p (.tup ys)):=cH.upd hp;exact k _ _ sp (.tup aM (rr.same sp)) λz=>by cases z
 ·exact bx e
mutual
theorem B_:∀(d:D),d.plain=ae->d.pure=ae
 |.tup xs,h=>by rw[D.plain] at h;rw[D.pure];exact wA xs h
 |.int _,_=>rfl
 |.str _,_=>rfl
 |.uD,h=>by simp[D.plain] at h
 |.non,_=>rfl
 |.bl _,_=>rfl
 |.lst _,h=>by simp[D.plain] at h
 |.dct _,h=>by simp[D.plain] at h
 |.scr _,h=>by simp[D.plain] at h
 |.fdc _,h=>by simp[D.plain] at h
 |.exc _ _,h=>by simp[D.plain] at h
 |.ins _ _,h=>by simp[D.plain] at h
 |.adr _,h=>by simp[D.plain] at h
 |.dcl _ _,h=>by simp[D.plain] at h
 |.cel _ _,h=>by simp[D.plain] at h
theorem wA:∀(ds:aa D),D.jZ ds=ae->D.aW ds=ae
 |[],_=>rfl
 |x::xs,h=>by rw[D.jZ,aT] at h;rw[D.aW,aT];exact⟨B_ x h.1,wA xs h.2⟩
end
theorem yK(h:cJ ds=ae):D.aW (x_ ds)=ae:=j7.mpr λd hd=>B_ d (fW h ((gH ds).mem_iff.mp hd)).1
theorem yL(hu:X.A.units+20<b6):lL X (.builtin "sorted") (rs lG ae):=by
 rintro pins s σ H xs us Q I vr ⟨ds,d,r,e,k⟩;unfold lG at e;split at e
 ·split at e
  ·rename_i hl;cases e;obtain⟨vv,uu,rfl,rfl,r,v⟩:=kZ r vr;obtain⟨l,ys,rfl,hl',rr⟩:=r.mU;cases v;refine XF I hu hl' rr hl λp xs' hp r'=>?_
   have sp:cH H (upd H p (.lst xs')):=cH.upd hp;exact k _ _ sp (.lst aM trivial (r'.same sp)) λ_=>.lst aM hp ((r'.b8 (yK hl)).same sp)
  ·exact bx e
 ·exact bx e
theorem isi(I:Inv X pins σ H s)(r:Rep All H v d)(ru:RelV v u)(h:aPt t d=.ok k)
 (q:∀tk,Q (.bool k) {s with toks:=tk}):wpAny (av X.prog X.w) X.A (call (.builtin "isinstance") [u,.type t.nm]) Q X.xe s:=by
 have q0:Q (.bool k) s:=q s.toks;cases r with
 |non=>cases ru;cases t<;>cases h<;>first|exact IsiPair.NoneType_int (q _)|exact IsiPair.NoneType_str (q _)|exact IsiPair.NoneType_bool (q _)|exact IsiPair.NoneType_list (q _)|exact IsiPair.NoneType_tuple (q _)|exact IsiPair.NoneType_dict (q _)
 |bl b=>cases ru;cases t<;>cases h<;>first|exact IsiPair.bool_int q0|exact IsiPair.bool_str (q _)|exact IsiPair.bool_bool q0|exact IsiPair.bool_list (q _)|exact IsiPair.bool_tuple (q _)|exact IsiPair.bool_dict (q _)
 |int b=>obtain⟨tt,rfl⟩:=ru;cases t<;>cases h<;>first|exact IsiPair.int_int q0|exact IsiPair.int_str (q _)|exact IsiPair.int_bool (q _)|exact IsiPair.int_list (q _)|exact IsiPair.int_tuple (q _)|exact IsiPair.int_dict (q _)
 |str b=>obtain⟨tt,rfl⟩:=ru;cases t<;>cases h<;>first|exact IsiPair.str_int (q _)|exact IsiPair.str_str q0|exact IsiPair.str_bool (q _)|exact IsiPair.str_list (q _)|exact IsiPair.str_tuple (q _)|exact IsiPair.str_dict (q _)
 |tup e rr=>
  cases ru;obtain⟨its,vr,o,ho,hc,_⟩:=g8 I e;cases t<;>cases h<;>first|exact IsiPair.tuple_int ho hc (q _)|exact IsiPair.tuple_str ho hc (q _)|exact IsiPair.tuple_bool ho hc (q _)|exact IsiPair.tuple_list ho hc (q _)|exact IsiPair.tuple_tuple ho hc q0|exact IsiPair.tuple_dict ho hc (q _)
 |lst e p rr=>
  cases ru;obtain⟨its,vr,o,ho,hc,_⟩:=tH I (.of e);cases t<;>cases h<;>first|exact IsiPair.list_int ho hc (q _)|exact IsiPair.list_str ho hc (q _)|exact IsiPair.list_bool ho hc (q _)|exact IsiPair.list_list ho hc q0|exact IsiPair.list_tuple ho hc (q _)|exact IsiPair.list_dict ho hc (q _)
 |frz e rr=>cases t<;>exact bx h
 |fdK e rr n=>cases t<;>exact bx h
 |fdT e rr n=>cases t<;>exact bx h
 |exc n e q=>cases t<;>exact bx h
 |ins n e q=>cases t<;>exact bx h
 |adr=>cases t<;>exact bx h
 |dlK _ _ _ _=>cases t<;>exact bx h
 |dlT _ _ _ _=>cases t<;>exact bx h
 |cel e p rr=>cases t<;>exact bx h
 |dK e p rr n=>
  cases ru;obtain⟨_,_,_,_,o,_,_,ho,hx,_⟩:=JZ I.hok e;have hc:=hx.1;cases t<;>cases h<;>first|exact Bg ho hc (q _)|exact Bh ho hc (q _)|exact Bi ho hc (q _)|exact Bj ho hc (q _)|exact Bk ho hc (q _)|exact Bl ho hc q0
 |dT e p rr n=>
  cases ru;obtain⟨_,_,_,_,o,_,_,ho,hx,_⟩:=aDg I.hok e;have hc:=hx.1;cases t<;>cases h<;>first|exact Bg ho hc (q _)|exact Bh ho hc (q _)|exact Bi ho hc (q _)|exact Bj ho hc (q _)|exact Bk ho hc (q _)|exact Bl ho hc q0
def aS4(t:Ty):aa V->Hp->VK->Prop:=λxs H Q=>∃v d k,xs=[v,.ty t.nm]/\Rep All H v d/\aPt t d=.ok k/\Q (.bl k) H
theorem aMh(t:Ty):lL X (.builtin "isinstance") (aS4 t):=by
 rintro pins s σ H xs us Q I vr ⟨v,d,k,e,r,h,q⟩;subst e;cases vr with
 |cons rv vt=>
  cases vt with
  |cons rt vt=>
   cases vt;cases rt;exact isi I r rv h λtk=>⟨.bl k,H,I.tok tk,rfl,q⟩
theorem nC(t:Ty)(ha:PE X a (gE fa ra))(hg:Gl X "isinstance")(hm:X.mg "isinstance"=ai)(hv:dz "isinstance"=ab (.builtin "isinstance"))(gy:Gl X y)(my:X.mg y=ai)(vy:dz y=ab (.type t.nm))
 (hy:y ≠ "__name__":=by decide)(hyd:(y==("__debug__" : Str))=ag:=by decide)
 (he:b9 [a,.Name y p2] X.env=(ag,bf a X.env)::b9 [.Name y p2] X.env:=by rfl)(he2:b9 [.Name y p2] X.env=(ag,bf (.Name y p2) X.env)::b9 [] X.env:=by rfl)
 (hpl:(iA pos (b9 [.Name y p2] X.env)).any (·.1)=ag:=by rfl):PE X (.Call (.Name "isinstance" p) [a,.Name y p2] [] pos) (gE (b1 (kI t) fa) ae):=
 PE.imp (SX (aMh t) hg hm hv (fV ha (fV (aH7 gy my vy (v:=.ty t.nm) rfl hy hyd) lM he2) he) 0x4 0x4 he hpl) λσ H Q z0=>by
  obtain⟨ρ,d,E,h,q⟩:=z0;obtain⟨x,h1,h⟩:=bI h;obtain⟨k,h2,h⟩:=bI h;cases h;exact⟨ρ,x,E,h1,λv H1 s1 r1 _=>⟨v,x,k,rfl,r1,h2,(q.imp s1 id).bl⟩⟩
noncomputable def spD(f:aa D->Res D)(n:af):Sp:=λvs H Q _=>∃ds d,ds.length=n/\b7 All H vs ds/\f ds=.ok d/\kR H d ae Q
theorem aAt{E:XK}(h:spD f n vs H Q E):vs.length=n:=by
 obtain⟨ds,d,h1,r,_⟩:=h;rw[r.length,h1]
theorem aIe(F:v6 X.prog X.w X.K X.mg X.base CX0 k fad fd ps (spD f n))(hr:nU k X.A)(hg:Gl X x)(hm:X.mg x=ab (.ref fad))(hk:jd X.K (.ref fad)=ae)(hb:Binds X.K fd ps [])
 (ha:PA X (e::es) (gA fs rr))(hdb:nDb x:=by decide)(he:zSE X e es:=by rfl)(hpl:zSP X pos es:=by rfl) :
  PE X (.Call (.Name x p) (e::es) [] pos) (gE (aK (bY n f) fs) ae):=
 PE.imp (ZZ F hr hg hm hk hb .nil aDj ha hdb he hpl) λσ H Q z0=>by
  obtain⟨ρ,d,E,h,q⟩:=z0;obtain⟨ds,h1,h⟩:=bI h;unfold bY at h;split at h
  ·rename_i hl;exact⟨ρ,ds,E,h1,λvs H1 s1 r1 _=>⟨ds,d,dh hl,by rw[d6];exact r1,h,q.imp s1 id⟩⟩
  ·exact bx h
end
end
noncomputable def J9(x:Str):aa D:=x.cps.toList.map λc=>D.str ⟨#[c]⟩
noncomputable def J_(xs:aa D):aa D:=xs.zipIdx.map λp=>.tup [.int p.2,p.1]
section
variable [KFrag]
noncomputable def aQ2(x:Str):It:=⟨λi _=>i<x.cps.size,λi H v H'=>H'=H/\∃c,x.cps[i]?=ab c/\v=.str ⟨#[c]⟩,λi _=>x.cps.size<=i⟩
theorem aDx{i:af}:(J_ xs)[i]?=(xs[i]?).map λd=>.tup [.int i,d]:=by
 unfold J_;rw[jg,List.getElem?_zipIdx,kh];cases xs[i]?<;>rfl
theorem aAu(xs:aa D):(J_ xs).length=xs.length:=by simp[J_]
structure ItQ(K:bg)(P:ak->Prop)(J:It)(H:Hp)(items:aa D):Prop where
 it:∀(P':ak->Prop)(H':Hp),BZ P H H'->(∀a o,H a=ab o->P a->P' a)->(∀i,items.length<=i->J.stop i H')/\∀i d,items[i]?=ab d->J.go i H'/\∀x H'',J.yld i H' x H''->cH H' H''/\Rep P' H'' x d
section
variable {K:bg} {P P':ak->Prop} {J:It} {H H':Hp} {items:aa D}
theorem ItQ.keep'(h:ItQ K P J H items)(k:BZ P H H')(m:∀a o,H a=ab o->P a->P' a):ItQ K P' J H' items:=
 ⟨λP2 H2 k2 m2=>h.it P2 H2 (λa o e hp=>k2 a o (k a o e hp) (hp.imp (m a o e) id)) λa o e hp=>m2 a o (k a o e (.inl hp)) (m a o e hp)⟩
theorem ItQ.keep(h:ItQ K P J H items)(k:BZ P H H')(m:∀a,P a->P' a):ItQ K P' J H' items:=h.keep' k λa _ _=>m a
theorem ItQ.stop(h:ItQ K P J H items)(hi:items.length<=i):J.stop i H:=(h.it P H (λ_ _ e _=>e) λ_ _ _ hp=>hp).1 i hi
theorem ItQ.go(h:ItQ K P J H items)(hi:items[i]?=ab d):J.go i H/\∀x H',J.yld i H x H'->cH H H'/\Rep P H' x d:=(h.it P H (λ_ _ e _=>e) λ_ _ _ hp=>hp).2 i d hi
theorem ItQ.lst(a:ak)(e:J=Itl K a)(r:Rep P H (.ref a) (.lst items)):ItQ K P J H items:=by
 refine⟨λP H kk mm=>?_⟩;have r:=r.aAe kk mm;refine⟨λi hi=>?_,λi d hi=>?_⟩
 ·subst e;obtain⟨a',xs,e,hq,rr⟩:=r.mU;cases e;exact⟨xs,hq,by rw[rr.length];exact hi⟩
 ·subst e;obtain⟨a',xs,e,hq,rr⟩:=r.mU;cases e;obtain⟨v,h1,h2⟩:=rr.get hi;refine⟨⟨xs,v,hq,h1⟩,λx H' ⟨e,hy⟩=>?_⟩;subst e;refine⟨cH.refl _,?_⟩;have:=hy xs hq;rw[h1] at this;cases this;exact h2
theorem ItQ.tup(a:ak)(e:J=Itt K a)(r:Rep P H (.ref a) (.tup items)):ItQ K P J H items:=by
 refine⟨λP H kk mm=>?_⟩;have r:=r.aAe kk mm;refine⟨λi hi=>?_,λi d hi=>?_⟩
 ·subst e;obtain⟨a',xs,e,hq,rr⟩:=r.fG;cases e;exact⟨xs,.of hq,by rw[rr.length];exact hi⟩
 ·subst e;obtain⟨a',xs,e,hq,rr⟩:=r.fG;cases e;obtain⟨v,h1,h2⟩:=rr.get hi;refine⟨⟨xs,v,.of hq,h1⟩,λx H' ⟨e,hy⟩=>?_⟩;subst e;refine⟨cH.refl _,?_⟩;have:=hy xs (.of hq);rw[h1] at this;cases this;exact h2
theorem ItQ.rng(lo:ah)(n:af)(e:J=Itr lo n)(r:items=(bw n).map λ(k:af)=>D.int (lo+k)):ItQ K P J H items:=by
 refine⟨λP H k m=>?_⟩;refine⟨λi hi=>?_,λi d hi=>?_⟩
 ·subst e r;show n<=i;simpa using hi
 ·subst e r;have hlt:i<n:=by
   have:=(c_.mp hi).1;simpa using this
  refine⟨hlt,λx H' ⟨e,hy⟩=>?_⟩;subst e;have e2:D.int (lo+(i:ah))=d:=by simpa[hlt] using hi
  rw[hy,<-e2];exact⟨cH.refl _,.int _⟩
theorem ItQ.chs(z:Str)(e:J=aQ2 z)(r:items=J9 z):ItQ K P J H items:=by
 refine⟨λP H k m=>?_⟩;refine⟨λi hi=>?_,λi d hi=>?_⟩
 ·subst e r;show z.cps.size<=i;simpa[J9] using hi
 ·subst e r;have hlt:i<z.cps.size:=by
   have:=(c_.mp hi).1;simpa[J9] using this
  refine⟨hlt,λx H' ⟨e,c,hc,hv⟩=>?_⟩;subst e hv;refine⟨cH.refl _,?_⟩;have e2:D.str ⟨#[c]⟩=d:=by
   unfold J9 at hi;rw[jg,sy,hc] at hi;simpa using hi
  rw[<-e2];exact .str _
end
noncomputable def gI(K:bg)(f:FI):TI:=λσ H R=>∃ρ items k,ER H σ ρ/\f ρ=.ok (items,k)/\∀J H1,cH H H1->ItQ K All J H1 items->(k=ae->ItQ K (New H) J H1 items)->R J H1
def gIV(K:bg)(i:af):TI:=λσ H R=>∃v d items,σ[i]?=ab (ab v)/\Rep All H v d/\yE d=.ok items/\∀J,(∀P:ak->Prop,Rep P H v d->ItQ K P J H items)->R J H
section
variable {X:Cx} {tg l a b:Expr} {rr:aq} {fs:FA} {p pos:cn}
theorem UT(I1:Inv X pins σ H1 s1)(r:Rep All H1 v d)(ru:RelV v u)(hi:yE d=.ok items)
 (q:∀J,(∀P:ak->Prop,Rep P H1 v d->ItQ X.K P J H1 items)->R J H1):wpAny (av X.prog X.w) X.A (iE u) (PIE X pins σ tg R) X.xe s1:=by
 cases d<;>simp only[yE] at hi<;>cases hi
 ·obtain⟨a,xs,rfl,e,rr⟩:=r.fG;cases ru;obtain⟨its,rv,p,hz⟩:=I1.tuple (.of e);refine i8 (show s1.heap.IsTuple a its.toArray from p) ?_;refine⟨s1.heap.objs.size,[s1.heap.objs.size],_,_,H1,rfl,I1.kept λb o e=>bu _ e,WN a _,⟨_,cx _ rfl,rfl,rfl⟩,λb hb=>?_,q _ λP r=>.tup a rfl r⟩;have e:b=s1.heap.objs.size:=by simpa using hb
  subst e;exact I1.aD7 (aS _) (I1.hok.fresh (aS _))
 ·obtain⟨a,xs,rfl,e,rr⟩:=r.mU;cases ru;obtain⟨its,rv,p,hz⟩:=I1.list e;refine Bm p.isList ?_;refine⟨s1.heap.objs.size,[s1.heap.objs.size],_,_,H1,rfl,I1.kept λb o e=>bu _ e,ZK a _,⟨_,cx _ rfl,rfl,rfl⟩,λb hb=>?_,q _ λP r=>.lst a rfl r⟩;have e:b=s1.heap.objs.size:=by simpa using hb
  subst e;exact I1.aD7 (aS _) (I1.hok.fresh (aS _))
theorem aMi(hN:X.N[i]?=ab x)(hv:Vis X.env.scope x)(hd:nDb x:=by decide)(hcd:nCd x:=by decide):PI X tg (.Name x pos) (gIV X.K i):=by
 rintro pins s σ H R I ⟨v,d,items,hσ,r,hi,q⟩;exact thn (jD hN hv hd hcd pins s σ H (λw H1=>w=v/\H1=H) I ⟨v,hσ,rfl,rfl⟩) λu s1 z0=>by
  obtain⟨w,H1,I1,ru,e1,e2⟩:=z0;subst e1 e2;exact UT I1 r ru hi q
theorem vJ(h:j4 i=ae):-(2 ^ 62)<=i/\i<2 ^ 62:=by
 simp only[j4,aT,dL] at h;exact h
theorem PI.imp(h:PI X tg l w)(i:∀σ H R,w' σ H R->w σ H R):PI X tg l w':=λpins s σ H R I q=>h pins s σ H R I (i σ H R q)
theorem mW(hg:Gl X "range")(hm:X.mg "range"=ai)(ha:PA X [a] (gA fs rr))(hs:b9 [a] X.env=[(ag,bf a X.env)]:=by rfl):PI X tg (.Call (.Name "range" p) [a] [] pos) (gI X.K (fX fs lO)):=
 PI.imp (ZL hg hm ha hs) λσ H R z0=>by
  obtain⟨ρ,items,k,E,h,q⟩:=z0;obtain⟨xs,h1,h⟩:=bI h;unfold lO at h;split at h
  ·split at h
   ·rename_i hb;cases h;obtain⟨b1,b2⟩:=vJ hb;refine⟨ρ,_,E,h1,λvs H1 s1 r1 _=>?_⟩;cases r1 with
    |cons r t=>
     cases t;cases r.inv;exact⟨_,rfl,b1,b2,q _ H1 s1 (.rng 0 _ rfl rfl) λ_=>.rng 0 _ rfl rfl⟩
   ·exact bx h
  ·exact bx h
theorem tY(hg:Gl X "range")(hm:X.mg "range"=ai)(ha:PA X [a,b] (gA fs rr))(hs:b9 [a,b] X.env=[(ag,bf a X.env),(ag,bf b X.env)]:=by rfl)(hs2:b9 [b] X.env=[(ag,bf b X.env)]:=by rfl):PI X tg (.Call (.Name "range" p) [a,b] [] pos) (gI X.K (fX fs vD)):=
 PI.imp (ZM hg hm ha hs hs2) λσ H R z0=>by
  obtain⟨ρ,items,k,E,h,q⟩:=z0;obtain⟨xs,h1,h⟩:=bI h;unfold vD at h;split at h
  ·split at h
   ·rename_i hb;cases h;rw[aT] at hb;obtain⟨b1,b2⟩:=vJ hb.1;obtain⟨b3,b4⟩:=vJ hb.2;refine⟨ρ,_,E,h1,λvs H1 s1 r1 _=>?_⟩;cases r1 with
    |cons r t=>
     cases t with
     |cons r' t=>
      cases t;cases r.inv;cases r'.inv;exact⟨_,_,rfl,⟨b1,b2,b3,b4⟩,q _ H1 s1 (.rng _ _ rfl rfl) λ_=>.rng _ _ rfl rfl⟩
   ·exact bx h
  ·exact bx h
end
theorem aDy(n:af)(ρ bs:aa D)(i:af)(h:i<n):(FJ n ρ++bs).getD i .uD=ρ.getD i .uD:=by
 rw[cu,ia (by simp[FJ];exact h)];simp[FJ,h]
theorem UV(n:af)(ρ:aa D):(FJ n ρ).length=n:=by simp[FJ]
def TgC(g:TG)(t:D->Res (aa D))(n m:af):Prop:=∀(v:V)(d:D)(bs:aa D)(σ:L2.St)(H:Hp)(Q:L2.St->Hp->Prop),σ.length=n->Rep All H v d->t d=.ok bs->
 (∀σ2,Ext (σ++bP m ai) σ2->(∀j b,bs[j]?=ab b->∃w,σ2[n+j]?=ab (ab w)/\Rep All H w b)->Q σ2 H)->g v (σ++bP m ai) H Q
theorem ER.ext(E:ER H σ ρ)(hn:σ.length=n)(x:Ext (σ++bP m ai) σ2)(hb:∀j b,bs[j]?=ab b->∃w,σ2[n+j]?=ab (ab w)/\Rep All H w b):ER H σ2 (FJ n ρ++bs):=by
 intro i hi;by_cases h:i<n
 ·rw[aDy n ρ bs i h] at hi ⊢;obtain⟨v,h1,h2⟩:=E i hi;exact⟨v,x.2 i v (by rw[ia (by rw[hn];exact h)];exact h1),h2⟩
 ·have e:(FJ n ρ++bs).getD i .uD=bs.getD (i-n) .uD:=by
   rw[cu,fz (by rw[UV];lia),UV,<-cu]
  rw[e] at hi ⊢;cases hq:bs[i-n]? with
  |none=>rw[cu,hq] at hi;exact aE rfl hi
  |some b=>
   obtain⟨w,h1,h2⟩:=hb (i-n) b hq;rw[cu,hq];exact⟨w,by rw[<-h1];congr 1;lia,h2⟩
theorem yM{K:bg}{n m:af}{g:TG}{tc:TT}(tg:TgC g t n m)(hc:∀σ H Q,gT c σ H Q->tc σ H Q){σ:L2.St}{H:Hp}{Q:VK}(hn:σ.length=n)(h:gE (eQ n it t c f k) ae σ H Q) :
  W_ (gI K it) g tc (gE f k) m σ H Q:=by
 obtain⟨ρ,d,E,h,q⟩:=h;obtain⟨⟨items,kk⟩,h1,h⟩:=bI h;split at h
 ·rename_i hlim;obtain⟨ys,h2,h⟩:=bI h;cases h;refine⟨ρ,items,kk,E,h1,λJ H1 s1 hJ _ p hp=>?_⟩;have hp0:H p=ai:=s1.free hp;refine⟨λi n' vs H'=>n'=items.length-i/\i<=items.length/\H' p=ab (.lst vs)/\cH H1 H'/\∃acc,acc.length<=i/\b7 (λa=>H a=ai/\a≠p) H' vs acc/\iI (jM n t c f k ρ) acc (items.drop i)=.ok ys,⟨items.length,?_⟩,?_⟩
  ·exact⟨rfl,cy _,aM,cH.upd hp,[],cy _,.nil,h2⟩
  ·rintro i n' vs H' ⟨rfl,hi,hH,sm,acc,hal,racc,hf⟩;refine⟨hH,?_⟩;have hJ':ItQ K All J H' items:=hJ.keep (.same sm) λ_ z=>z
   rcases kf i items.length with hlt|hge
   ·refine .inr ?_;have e:items[i]?=ab items[i]:=ef hlt;obtain⟨g1,g2⟩:=hJ'.go e;have hl1:items.length<=lim:=dh hlim;refine⟨g1,?_,λx H2 hy=>?_⟩
    ·rw[racc.length];exact yc hal (c5 hlt (c9 hl1 (by rw[c8];decide)))
    ·obtain⟨sH,rx⟩:=g2 x H2 hy;have hH:=sH p _ hH;have sm:=sm.trans sH;have racc:=racc.same sH;rw[mv hlt] at hf;obtain⟨acc2,hs,hf⟩:=bI hf;obtain⟨bs,hb,hs⟩:=bI hs;obtain⟨ok,hok,hs⟩:=bI hs;refine tg x items[i] bs σ H2 _ hn rx hb λσ2 hx hbs=>⟨hx,hc _ _ _ ?_⟩
     have E2:ER H2 σ2 (FJ n ρ++bs):=(E.same (s1.trans sm)).ext hn hx hbs;refine⟨_,ok,E2,hok,λH4 s4=>?_⟩;cases ok with
     |true=>
      rw[ao rfl];rw[ao rfl] at hs;obtain⟨y,hy2,hs⟩:=bI hs;split at hs
      ·rename_i hk;cases hs;refine⟨_,y,E2.same s4,hy2,λw H5 s5 r5 n5=>⟨s5 p _ (s4 p _ hH),items.length-(i+1),by lia,rfl,hlt,aM,?_,acc++[y],?_,?_,hf⟩⟩
       ·exact λb o e=>by
         rw[bG (dO e hp)];exact s5 b o (s4 b o (sm b o e))
       ·rw[bj,xb];lia
       ·have hp5:H5 p=ab (.lst vs):=s5 p _ (s4 p _ hH);have ry:Rep (λa=>H a=ai/\a≠p) H5 w y:=by
         rw[f_] at hk;rcases hk with hk|hk
         ·exact(n5 hk).mono λa ha=>⟨((s1.trans sm).trans s4).free ha,λz=>by subst z;have h0:=s4 _ _ hH;rw[show H4 _=ai from ha] at h0;cases h0⟩
         ·exact r5.b8 hk
        have all:b7 (λa=>H a=ai/\a≠p) H5 (vs++[w]) (acc++[y]):=(racc.same (s4.trans s5)).snoc ry;refine all.keep (λb o e hb=>?_) λ_ z=>z
        rw[bG]
        ·exact e
        ·rcases hb with hb|hb
         ·exact hb.2
         ·intro z;subst z;rw[hp5] at e;cases e;cases hb
      ·exact bx hs
     |false=>
      rw[aw 0x2];rw[aw 0x2] at hs;cases hs;exact⟨items.length-(i+1),by lia,rfl,hlt,s4 p _ hH,sm.trans s4,acc,by lia,racc.same s4,hf⟩
   ·refine .inl ⟨hJ'.stop hge,?_⟩;rw[mw hge] at hf;cases hf;exact q _ _ (s1.trans sm) (.lst hH trivial racc.all) λ_=>.lst hH hp0 (racc.mono λa z=>z.1)
 ·exact bx h
def gIx:aa af->TGs
 |[]=>aQx
 |i::is=>aLg (wW i) (gIx is)
noncomputable def n6:aa af->aa V->L2.St->L2.St
 |i::is,v::vs,σ=>n6 is vs (σ.set i (ab v))
 |_,_,σ=>σ
theorem QV:∀(is:aa af)(vs:aa V)(σ:L2.St),vs.length=is.length->Q (n6 is vs σ) H->gIx is vs σ H Q
 |[],[],σ,_,q=>⟨rfl,q⟩
 |i::is,v::vs,σ,h,q=>⟨v,vs,rfl,QV is vs (σ.set i (ab v)) (by simpa using h) q⟩
 |[],_::_,_,h,_=>by simp at h
 |_::_,[],_,h,_=>by simp at h
theorem KC:∀(is:aa af)(vs:aa V)(σ:L2.St),(n6 is vs σ).length=σ.length
 |[],_,_=>by simp[n6]
 |_::_,[],_=>by simp[n6]
 |i::is,v::vs,σ=>by rw[n6,KC is vs];simp
theorem yN:∀(is:aa af)(vs:aa V)(σ:L2.St)(k:af),k∉is->(n6 is vs σ)[k]?=σ[k]?
 |[],_,_,_,_=>by simp[n6]
 |_::_,[],_,_,_=>by simp[n6]
 |i::is,v::vs,σ,k,h=>by
  rw[bq,gu] at h;rw[n6,yN is vs _ k h.2,de (cj h.1)]
theorem UW:∀(is:aa af)(vs:aa V)(σ:L2.St)(j i:af)(v:V),is.Nodup->(∀i∈is,i<σ.length)->is[j]?=ab i->vs[j]?=ab v->(n6 is vs σ)[i]?=ab (ab v)
 |[],_,_,_,_,_,_,_,h,_=>by simp at h
 |_::_,[],_,_,_,_,_,_,_,h=>by simp at h
 |a::is,w::vs,σ,0,i,v,hn,hl,h1,h2=>by
  have e1:a=i:=by simpa using h1
  have e2:w=v:=by simpa using h2
  subst e1 e2;rw[n6,yN is vs _ a (dj.mp hn).1,fS (hl a (bn ..))]
 |a::is,w::vs,σ,j+1,i,v,hn,hl,h1,h2=>by
  rw[n6];exact UW is vs _ j i v (dj.mp hn).2 (λi hi=>by rw[mx];exact hl i (bz _ hi)) (by simpa using h1) (by simpa using h2)
theorem eY(n:af):TgC (wW n) iV n 1:=by
 intro v d bs σ H Q hn r h q;cases h;have hl:(σ++bP 1 (ai:au V)).length=n+1:=by simp[hn]
 refine q _ ⟨by simp,λi w hi=>?_⟩ λj b hj=>?_
 ·have:i≠n:=λz=>by
   subst z;rw[fz 0x1] at hi;simp[hn] at hi
  rw[de (cj this)];exact hi
 ·have e:j=0:=by
   have:=(c_.mp hj).1;simp at this;exact this
  subst e;have e:d=b:=by simpa using hj
  subst e;exact⟨v,by rw[Nat.add_zero,fS 0x1],r⟩
theorem aIf(K:bg)(n m:af):TgC (aPc K m (gIx (Bn n m))) (aP0 m) n m:=by
 intro v d bs σ H Q hn r h q;cases d<;>simp only[aP0] at h<;>(try (exact bx h;done))
 split at h
 ·rename_i hm;cases h;have hm':=dh hm;obtain⟨a,xs,rfl,e,rr⟩:=r.fG;refine⟨a,xs,rfl,.of e,by rw[rr.length];exact hm',QV _ _ _ (by rw[rr.length,hm'];simp) ?_⟩;refine q _ ⟨by rw[KC],λi w hi=>?_⟩ λj b hj=>?_
  ·rw[yN]
   ·exact hi
   ·intro hmem;have:=Bo.mp hmem;rw[fz 0x1] at hi;rw[je] at hi;split at hi<;>cases hi
  ·obtain⟨w,h1,h2⟩:=rr.get hj;have hjm:j<m:=by rw[<-hm'];exact(c_.mp hj).1
   refine⟨w,UW _ _ _ j (n+j) w (List.nodup_range' ..) (λi hi=>?_) ?_ h1,h2⟩
   ·have:=Bo.mp hi;simp[hn];lia
   ·rw[List.getElem?_range' hjm];simp
 ·exact bx h
section
theorem aIg(S:cZ X.N X.env.scope scope ownN)(hn:X.N.length=n)(hm:ownN.length=m)(hcalm:X.calm=ae)(hi:PI X tg iter (gI X.K it))(ht:TgC g t n m)(hg:∀X',eG X X' scope ownN->PG X' tg g)(he:∀X',eG X X' scope ownN->PE X' elt (gE fe re))
 (hs:∀x,fj iter X.env x=pure x):PE X (.ListComp elt [⟨tg,iter,[],0⟩] scope pos) (gE (eQ n it t dX fe re) ae):=by
 intro pins s σ H Q I h;subst hm;exact TV S hcalm hi hg he hs pins s σ H Q I (yM ht (λσ H Q h=>by obtain⟨ρ,b,E,h,q⟩:=h;cases h;exact q H (cH.refl H)) (I.len.trans hn) h)
end
end
variable [KFrag]
theorem iJ.b8:∀{v:aa (Key×V)}{d:aa (D×D)},iJ P H v d->D.aW (d.map (·.2))=ae->iJ P' H v d
 |_,_,.nil,_=>.nil
 |_,_,.cons r t,h=>by
  rw[bh,D.aW,aT] at h;exact .cons (r.b8 h.1) (t.b8 h.2)
theorem oZ.b8:∀{v:aa (aa Key×V)}{d:aa (D×D)},oZ P H v d->D.aW (d.map (·.2))=ae->oZ P' H v d
 |_,_,.nil,_=>.nil
 |_,_,.cons r t,h=>by
  rw[bh,D.aW,aT] at h;exact .cons (r.b8 h.1) (t.b8 h.2)
theorem Rep.aKv(r:Rep P H (.ref a) d)(h:inner d=ae)(hp:P' a):Rep P' H (.ref a) d:=by
 cases r with
 |tup e r=>cases h
 |lst e p r=>exact .lst e hp (r.b8 h)
 |cel e p r=>exact .cel e hp (r.b8 h)
 |frz e r=>cases h
 |dK e p r n=>exact .dK e hp (r.b8 h) n
 |dT e p r n=>exact .dT e hp (r.b8 h) n
 |fdK e r n=>cases h
 |fdT e r n=>cases h
 |exc n e q=>cases h
 |ins n e q=>cases h
 |adr=>cases h
 |dlK e p r n=>exact .dlK e hp (r.b8 h) n
 |dlT e p r n=>exact .dlT e hp (r.b8 h) n
def Own(own:af->aq)(σ:L2.St)(a:ak):Prop:=∃i,own i=ae/\σ[i]?=ab (ab (.ref a))
structure ES(own:af->aq)(H:Hp)(σ:L2.St)(ρ:aa D):Prop where
 len:σ.length=ρ.length
 at_:∀i,ρ.getD i .uD≠.uD->∃v,σ[i]?=ab (ab v)/\(own i=ag->Rep (λa=>¬Own own σ a) H v (ρ.getD i .uD))
 own:∀i v,own i=ae->σ[i]?=ab (ab v)->∃a o,v=.ref a/\Rep All H v (ρ.getD i .uD)/\inner (ρ.getD i .uD)=ae/\H a=ab o/\TF o=ae/\∀j,own j=ae->σ[j]?=ab (ab (.ref a))->j=i
variable {own:af->aq}
theorem ES.er(e:ES own H σ ρ):ER H σ ρ:=λi hi=>by
 obtain⟨v,h1,h2⟩:=e.at_ i hi;cases ho:own i with
 |false=>exact⟨v,h1,(h2 ho).all⟩
 |true=>
  obtain⟨a,o,_,h3,_⟩:=e.own i v ho h1;exact⟨v,h1,h3⟩
theorem ES.live(e:ES own H σ ρ)(h:Own own σ a):∃o,H a=ab o/\TF o=ae:=by
 obtain⟨i,hi,hs⟩:=h;obtain⟨b,o,eb,_,_,h3,h4,_⟩:=e.own i _ hi hs;cases eb;exact⟨o,h3,h4⟩
theorem ES.same(e:ES own H σ ρ)(s:cH H H'):ES own H' σ ρ:=by
 refine⟨e.len,λi hi=>?_,λi v hi hv=>?_⟩
 ·obtain⟨v,h1,h2⟩:=e.at_ i hi;exact⟨v,h1,λho=>(h2 ho).same s⟩
 ·obtain⟨a,o,h1,h2,h3,h4,h5,h6⟩:=e.own i v hi hv;exact⟨a,o,h1,h2.same s,h3,s _ _ h4,h5,h6⟩
def KU(own:af->aq)(σ:L2.St)(H:Hp)(σ':L2.St)(H':Hp):Prop:=∀a o,H a=ab o->¬Own own σ a->H' a=ab o/\¬Own own σ' a
theorem KU.trans(a:KU own σ H σ1 H1)(b:KU own σ1 H1 σ2 H2):KU own σ H σ2 H2:=λc o e n=>let ⟨e1,n1⟩:=a c o e n;b c o e1 n1
theorem KU.same(s:cH H H'):KU own σ H σ H':=λa o e n=>⟨s a o e,n⟩
theorem KU.keep(k:KU own σ H σ' H')(e:ES own H σ ρ):BZ (λa=>¬Own own σ a) H H':=λa o h hp=>by
 by_cases ho:Own own σ a
 ·obtain⟨o',h1,h2⟩:=e.live ho;rw[h] at h1;cases h1;rcases hp with hp|hp
  ·exact aE ho hp
  ·rw[h2] at hp;cases hp
 ·exact(k a o h ho).1
theorem KU.rep(k:KU own σ H σ' H')(e:ES own H σ ρ)(r:Rep (λa=>¬Own own σ a) H v d):Rep (λa=>¬Own own σ' a) H' v d:=r.aAe (k.keep e) λa o h n=>(k a o h n).2
def kRt(own:af->aq)(D:Ends)(σ:L2.St)(H:Hp)(d:Mi.D):Prop:=if own rtX=ae then ∃d0 ρ',d=.tup (d0::ρ')/\∀v σ' H',KU own σ H σ' H'->ES own H' σ' ρ'->Rep (λa=>(Own own σ a\/H a=ai)/\∀i b xs,ρ'.getD i .uD=.cel b xs->a≠b) H' v d0->D.rt v H'
  else ∀v H',(∀a o,H a=ab o->¬Own own σ a->H' a=ab o)->Rep (λa=>Own own σ a\/H a=ai) H' v d->D.rt v H'
theorem kRt.old{D:Ends}(h:kRt own D σ H d)(hx:own rtX=ag):∀v H',(∀a o,H a=ab o->¬Own own σ a->H' a=ab o)->Rep (λa=>Own own σ a\/H a=ai) H' v d->D.rt v H':=by
 unfold kRt at h;rw[aw (by rw[hx];simp)] at h;exact h
theorem kRt.mk{D:Ends}(hx:own rtX=ag)(h:∀v H',(∀a o,H a=ab o->¬Own own σ a->H' a=ab o)->Rep (λa=>Own own σ a\/H a=ai) H' v d->D.rt v H'):kRt own D σ H d:=by
 unfold kRt;rw[aw (by rw[hx];simp)];exact h
def kS(own:af->aq)(D:Ends)(σ:L2.St)(H:Hp):Fl->Prop
 |.nx ρ=>∀σ' H',KU own σ H σ' H'->ES own H' σ' ρ->D.nx σ' H'
 |.bk ρ=>∀σ' H',KU own σ H σ' H'->ES own H' σ' ρ->D.bk σ' H'
 |.ct ρ=>∀σ' H',KU own σ H σ' H'->ES own H' σ' ρ->D.ct σ' H'
 |.rt d=>kRt own D σ H d
theorem kS.step{D:Ends}{σ σ':L2.St}{H H':Hp}{fl:Fl}(k:KU own σ H σ' H')(h:kS own D σ H fl):kS own D σ' H' fl:=by
 cases fl with
 |nx ρ=>exact λσ2 H2 k2 e=>h σ2 H2 (k.trans k2) e
 |bk ρ=>exact λσ2 H2 k2 e=>h σ2 H2 (k.trans k2) e
 |ct ρ=>exact λσ2 H2 k2 e=>h σ2 H2 (k.trans k2) e
 |rt d=>
  have old:∀a,(Own own σ' a\/H' a=ai)->Own own σ a\/H a=ai:=λa ha=>by
   cases q:H a with
   |none=>exact .inr rfl
   |some o=>
    refine .inl (Dj λn=>?_);obtain⟨e1,n1⟩:=k a o q n;rcases ha with ha|ha
    ·exact n1 ha
    ·rw[e1] at ha;cases ha
  have h:kRt own D σ H d:=h;show kRt own D σ' H' d;unfold kRt at h ⊢;by_cases hx:own rtX=ae
  ·rw[ao hx] at h ⊢;obtain⟨d0,ρ',e,g⟩:=h;exact⟨d0,ρ',e,λv σ2 H2 k2 E2 r=>g v σ2 H2 (k.trans k2) E2 (r.mono λa ha=>⟨old a ha.1,ha.2⟩)⟩
  ·rw[aw hx] at h ⊢;exact λv H2 hk r=>h v H2 (λa o e n=>let ⟨e1,n1⟩:=k a o e n;hk a o e1 n1) (r.mono λa ha=>old a ha)
noncomputable def tS(own:af->aq)(f:FS):TS:=λD σ H=>∃ρ fl,ES own H σ ρ/\f ρ=.ok fl/\kS own D σ H fl
theorem PS.imp{st:br}(h:PS X st t)(i:∀D σ H,t' D σ H->t D σ H):PS X st t':=λpins s σ H D I q=>h pins s σ H D I (i D σ H q)
theorem PSs.imp{st:aa br}{t t':TS}(h:PSs X st t)(i:∀D σ H,t' D σ H->t D σ H):PSs X st t':=λpins s σ H D I q=>h pins s σ H D I (i D σ H q)
section
variable {X:Cx} {a b c e:Expr} {pos pos':cn} {fe:FE} {re:aq} {gc:FT} {f g:FS} {st:br} {rest s1 s2:aa br}
theorem c7:PSs X [] (tS own j6):=PSs.imp ZF λD σ H z0=>by
 obtain⟨ρ,fl,E,h,q⟩:=z0;cases h;exact q σ H (λa o e n=>⟨e,n⟩) E
theorem aIh{D:Ends}(h:tS own (bK f g) D σ H):aP9 (tS own f) (tS own g) D σ H:=by
 obtain⟨ρ,fl,E,h,q⟩:=h;obtain⟨r,h1,h2⟩:=bI h;refine⟨ρ,r,E,h1,?_⟩;cases r with
 |nx ρ'=>exact λσ' H' k E'=>⟨ρ',fl,E',h2,q.step k⟩
 |bk ρ'=>cases h2;exact q
 |ct ρ'=>cases h2;exact q
 |rt d=>cases h2;exact q
theorem aH(h1:PS X st (tS own f))(h2:PSs X rest (tS own g)):PSs X (st::rest) (tS own (bK f g)):=PSs.imp (mJ h1 h2) λ_ _ _=>aIh
theorem aR(h1:PS X st (tS own f)):PSs X [st] (tS own f):=aH9 h1
theorem fZ(hc:PT X c (gT gc))(ha:PSs X s1 (tS own f))(hb:PSs X s2 (tS own g)):PS X (.If c s1 s2 pos) (tS own (sIf gc f g)):=PS.imp (aPb hc ha hb) λD σ H z0=>by
 obtain⟨ρ,fl,E,h,q⟩:=z0;obtain⟨k,h1,h2⟩:=bI h;refine⟨ρ,k,E.er,h1,λH' s=>?_⟩;cases k with
 |true=>rw[ao rfl];rw[ao rfl] at h2;exact⟨ρ,fl,E.same s,h2,q.step (.same s)⟩
 |false=>rw[aw 0x2];rw[aw 0x2] at h2;exact⟨ρ,fl,E.same s,h2,q.step (.same s)⟩
theorem cT(he:PE X e (gE fe re))(hx:own rtX=ag:=by rfl):PS X (.Return (ab e) pos) (tS own (gR fe re)):=PS.imp (ZG he) λD σ H z0=>by
 obtain⟨ρ,fl,E,h,q⟩:=z0;obtain⟨d,h1,h2⟩:=bI h;split at h2
 ·rename_i hk;cases h2;refine⟨ρ,d,E.er,h1,λv H' s r n=>q.old hx v H' (λa o e _=>s a o e) ?_⟩;rw[f_] at hk;rcases hk with hk|hk
  ·exact(n hk).mono λa ha=>.inr ha
  ·exact r.b8 hk
 ·exact bx h2
theorem yO(ho:own i=ae)(hN:X.N[i]?=ab x)(hv:Vis X.env.scope x)(hd:nDb x:=by decide)(hcd:nCd x:=by decide)(hx:own rtX=ag:=by rfl):PS X (.Return (ab (.Name x pos')) pos) (tS own (QB i)):=
 PS.imp (ZG (jD hN hv hd hcd)) λD σ H z0=>by
 obtain⟨ρ,fl,E,h,q⟩:=z0;obtain⟨d,h1,h2⟩:=bI h;cases h2;obtain⟨v,hv,r,e⟩:=E.er.var h1;obtain⟨a,o,rfl,r2,hin,_⟩:=E.own i v ho hv;rw[e] at hin;exact⟨_,hv,q.old hx _ H (λa o e _=>e) (r.aKv hin (.inl ⟨i,ho,hv⟩))⟩
theorem lH(ho:own i=ag)(a:ak):Own own (σ.set i (ab v)) a↔Own own σ a:=by
 constructor
 ·rintro⟨j,hj,e⟩;have:i≠j:=λz=>by subst z;rw[ho] at hj;cases hj
  rw[de this] at e;exact⟨j,hj,e⟩
 ·rintro⟨j,hj,e⟩;have:i≠j:=λz=>by subst z;rw[ho] at hj;cases hj
  exact⟨j,hj,by rw[de this];exact e⟩
theorem dH{ρ:aa D}:(ρ.set i d).getD j .uD=if i=j/\i<ρ.length then d else ρ.getD j .uD:=by
 rw[cu,cu,iz];by_cases h:i=j
 ·subst h;by_cases h2:i<ρ.length
  ·simp[h2]
  ·simp[h2]
 ·simp[h]
theorem ES.set(E:ES own H σ ρ)(ho:own i=ag)(r:Rep (λa=>¬Own own σ a) H v d):ES own H (σ.set i (ab v)) (ρ.set i d):=by
 have hO:(λa=>¬Own own (σ.set i (ab v)) a)=λa=>¬Own own σ a:=funext λa=>by rw[lH ho]
 refine⟨by simp[E.len],λj hj=>?_,λj w hj hw=>?_⟩
 ·rw[dH] at hj ⊢;rw[hO];by_cases h:i=j/\i<ρ.length
  ·rw[ao h];obtain⟨rfl,hl⟩:=h;exact⟨v,by rw[fS (by rw[E.len];exact hl)],λ_=>r⟩
  ·rw[aw h] at hj ⊢;obtain⟨w,h1,h2⟩:=E.at_ j hj;by_cases hij:i=j
   ·subst hij;have:i<σ.length:=(c_.mp h1).1;rw[E.len] at this;exact aE ⟨rfl,this⟩ h
   ·exact⟨w,by rw[de hij];exact h1,h2⟩
 ·have hij:i≠j:=λz=>by subst z;rw[ho] at hj;cases hj
  rw[de hij] at hw;rw[dH,aw λz=>hij z.1];obtain⟨a,o,h1,h2,h3,h4,h5,h6⟩:=E.own j w hj hw;refine⟨a,o,h1,h2,h3,h4,h5,λk hk hs=>h6 k hk ?_⟩;have hik:i≠k:=λz=>by subst z;rw[ho] at hk;cases hk
  rwa [de hik] at hs
theorem ES.aP1{i:af}{a:ak}{o:HO}{d:D}(E:ES own H σ ρ)(s:cH H H')(ho:own i=ae)(hn:H a=ai)(r:Rep All H' (.ref a) d)(hin:inner d=ae)(ha:H' a=ab o)(hm:TF o=ae) :
  ES own H' (σ.set i (ab (.ref a))) (ρ.set i d)/\KU own σ H (σ.set i (ab (.ref a))) H':=by
 have hO:∀b,H b≠ai->¬Own own σ b->¬Own own (σ.set i (ab (.ref a))) b:=λb hb n z0=>by
  obtain⟨j,hj,e⟩:=z0;by_cases hij:i=j
  ·subst hij;by_cases hl:i<σ.length
   ·rw[fS hl] at e;cases e;exact hb hn
   ·rw[iz,ao rfl,aw hl] at e;cases e
  ·rw[de hij] at e;exact n ⟨j,hj,e⟩
 refine⟨⟨by simp[E.len],λj hj=>?_,λj w hj hw=>?_⟩,λb ob e n=>⟨s b ob e,hO b (by rw[e];simp) n⟩⟩
 ·rw[dH] at hj ⊢;by_cases h:i=j/\i<ρ.length
  ·rw[ao h];obtain⟨rfl,hl⟩:=h;exact⟨.ref a,by rw[fS (by rw[E.len];exact hl)],λz=>by rw[ho] at z;cases z⟩
  ·rw[aw h] at hj ⊢;obtain⟨w,h1,h2⟩:=E.at_ j hj;by_cases hij:i=j
   ·subst hij;have:i<σ.length:=(c_.mp h1).1;rw[E.len] at this;exact aE ⟨rfl,this⟩ h
   ·exact⟨w,by rw[de hij];exact h1,λhj=>((h2 hj).dom.same s).mono λb ⟨n,hb⟩=>hO b hb n⟩
 ·by_cases hij:i=j
  ·subst hij;have hl:i<σ.length:=by
    have:=(c_.mp hw).1;simpa using this
   rw[fS hl] at hw;cases hw;rw[dH,ao ⟨rfl,by rw[<-E.len];exact hl⟩];refine⟨a,o,rfl,r,hin,ha,hm,λk hk hs=>?_⟩;by_cases hik:i=k
   ·exact hik.symm
   ·rw[de hik] at hs;obtain⟨o',h1,_⟩:=E.live ⟨k,hk,hs⟩;rw[hn] at h1;cases h1
  ·rw[de hij] at hw;rw[dH,aw λz=>hij z.1];obtain⟨b,ob,h1,h2,h3,h4,h5,h6⟩:=E.own j w hj hw;refine⟨b,ob,h1,h2.same s,h3,s _ _ h4,h5,λk hk hs=>?_⟩;by_cases hik:i=k
   ·subst hik;by_cases hl:i<σ.length
    ·rw[fS hl] at hs;cases hs;rw[hn] at h4;cases h4
    ·rw[iz,ao rfl,aw hl] at hs;cases hs
   ·rw[de hik] at hs;exact h6 k hk hs
theorem CG(r:Rep P H v d)(hin:inner d=ae):∃a o,v=.ref a/\P a/\H a=ab o/\TF o=ae:=by
 cases r with
 |lst e p r=>exact⟨_,_,rfl,p,e,rfl⟩
 |cel e p r=>exact⟨_,_,rfl,p,e,rfl⟩
 |dK e p r n=>exact⟨_,_,rfl,p,e,rfl⟩
 |dT e p r n=>exact⟨_,_,rfl,p,e,rfl⟩
 |dlK e p r n=>exact⟨_,_,rfl,p,e,rfl⟩
 |dlT e p r n=>exact⟨_,_,rfl,p,e,rfl⟩
 |fdK e r n=>cases hin
 |fdT e r n=>cases hin
 |_=>cases hin
theorem aAv(E:ES own H σ ρ)(r:Rep (New H) H' v d):Rep (λa=>¬Own own σ a) H' v d:=r.mono λa ha ho=>by
 obtain⟨o,h1,_⟩:=E.live ho;rw[show H a=ai from ha] at h1;cases h1
theorem GP(ho:own i=o)(h:tS own (bZ o i fe re) D' σ H):aKp (gE fe re) (wW i) D' σ H:=by
 obtain⟨ρ,fl,E,h,q⟩:=h;obtain⟨d,h1,h2⟩:=bI h;cases o with
 |true=>
  simp only[eB] at h2;split at h2
  ·rename_i hk;cases h2;refine⟨ρ,d,E.er,h1,λv H' s r n=>?_⟩;rw[aT] at hk;obtain⟨a,ob,rfl,hn,ha,hm⟩:=CG (n hk.1) hk.2;obtain⟨E2,k⟩:=E.aP1 s ho hn r hk.2 ha hm;exact q _ H' k E2
  ·exact bx h2
 |false=>
  simp only[iX,gN] at h2;split at h2
  ·rename_i hk;cases h2;refine⟨ρ,d,E.er,h1,λv H' s r n=>?_⟩;rw[f_] at hk;have r2:Rep (λa=>¬Own own σ a) H' v d:=by
    rcases hk with hk|hk
    ·exact aAv E (n hk)
    ·exact r.b8 hk
   exact q _ H' (λa ob e hn=>⟨s a ob e,by rw[lH ho];exact hn⟩) ((E.same s).set ho r2)
  ·exact bx h2
theorem aFz(ho:own i=o)(hN:X.N.Nodup)(hi:X.N[i]?=ab x)(hx:Loc X.env.scope x)(he:PE X e (gE fe re))(hs:zSw X e x pos' pos:=by rfl)(hf:zFn X x:=by first|exact .inl rfl|exact .inr rfl|assumption) :
  PS X (.Assign [.Name x pos'] e pos) (tS own (bZ o i fe re)):=PS.imp (BJ hN hi hx he hs hf) λ_ _ _=>GP ho
theorem cA{i:af}{x:Str}{o:aq}(he:PE X e (gE fe re))(ho:own i=o:=by rfl)(hN:X.N.Nodup:=by assumption)(hi:X.N[i]?=ab x:=by exact rfl)(hx:Loc X.env.scope x:=by trivial)(hs:zSw X e x pos' pos:=by rfl)(hf:zFn X x:=by first|exact .inl rfl|exact .inr rfl|assumption):PS X (.Assign [.Name x pos'] e pos) (tS own (bZ o i fe re)):=aFz ho hN hi hx he hs hf
theorem ES.mut{i:af}{a:ak}{o:HO}{d:D}(E:ES own H σ ρ)(ho:own i=ae)(hi:σ[i]?=ab (ab (.ref a)))(hm:TF o=ae)(r:Rep All (upd H a o) (.ref a) d)(hin:inner d=ae) :
  ES own (upd H a o) σ (ρ.set i d)/\KU own σ H σ (upd H a o):=by
 have hOa:Own own σ a:=⟨i,ho,hi⟩
 obtain⟨a',oa,ea,_,_,hHa,hma,huq⟩:=E.own i _ ho hi;cases ea;have k:KU own σ H σ (upd H a o):=λb ob e n=>⟨by rw[bG (λz=>by subst z;exact n hOa)];exact e,n⟩
 have hl:i<ρ.length:=by rw[<-E.len];exact(c_.mp hi).1
 refine⟨⟨by simp[E.len],λj hj=>?_,λj w hj hw=>?_⟩,k⟩
 ·rw[dH] at hj ⊢;by_cases h:i=j/\i<ρ.length
  ·obtain⟨rfl,_⟩:=h;exact⟨_,hi,λz=>by rw[ho] at z;cases z⟩
  ·rw[aw h] at hj ⊢;obtain⟨w,h1,h2⟩:=E.at_ j hj;exact⟨w,h1,λhj=>k.rep E (h2 hj)⟩
 ·by_cases hij:i=j
  ·subst hij;rw[hi] at hw;cases hw;rw[dH,ao ⟨rfl,hl⟩];exact⟨a,o,rfl,r,hin,aM,hm,huq⟩
  ·rw[dH,aw λz=>hij z.1];obtain⟨b,ob,h1,h2,h3,h4,h5,h6⟩:=E.own j w hj hw;subst h1;have hba:b≠a:=λz=>by subst z;exact hij (h6 i ho hi)
   refine⟨b,ob,rfl,?_,h3,by rw[bG hba];exact h4,h5,h6⟩;refine(h2.aKv (P':=λc=>c=b) h3 rfl).keep (λc oc hc hp=>?_) λ_ _=>trivial
   rw[bG]
   ·exact hc
   ·intro z;subst z;rcases hp with hp|hp
    ·exact hba hp.symm
    ·rw[hHa] at hc;cases hc;rw[hma] at hp;cases hp
theorem ES.ownAt(E:ES own H σ ρ)(ho:own i=ae)(hd:ρ.getD i .uD≠.uD):∃a o,σ[i]?=ab (ab (.ref a))/\Rep All H (.ref a) (ρ.getD i .uD)/\inner (ρ.getD i .uD)=ae/\H a=ab o/\TF o=ae:=by
 obtain⟨v,h1,_⟩:=E.at_ i hd;obtain⟨a,o,rfl,h2,h3,h4,h5,_⟩:=E.own i v ho h1;exact⟨a,o,h1,h2,h3,h4,h5⟩
theorem CJ{a:ak}(r:Rep All H (.ref a) (.lst xs)):∃vs,H a=ab (.lst vs)/\b7 All H vs xs:=by
 cases r with
 |lst e _ r=>exact⟨_,e,r⟩
theorem b7.upd{a:ak}{xs:aa D}{o:HO}{ob:HO}(r:b7 All H vs xs)(hp:D.aW xs=ae)(ha:H a=ab ob)(hm:TF ob=ae):b7 All (upd H a o) vs xs:=by
 refine(r.b8 (P':=λ_=>cw) hp).keep (λc oc hc h=>?_) λ_ h=>h.elim
 rw[bG]
 ·exact hc
 ·intro z;subst z;rcases h with h|h
  ·exact h
  ·rw[ha] at hc;cases hc;rw[hm] at h;cases h
theorem lW:D.aW (xs++ys)=(D.aW xs&&D.aW ys):=by
 induction xs with
 |nil=>simp[D.aW]
 |cons x xs ih=>rw[eP,D.aW,D.aW,ih,AR]
theorem n8(ho:own i=ae)(hN:X.N[i]?=ab x)(hv:Vis X.env.scope x)(he:PE X e (gE fe re))(hd:nDb x:=by decide)(hcd:nCd x:=by decide)
 (hbase:gL (.Name x p1) "append" X.env (bf (.Name x p1) X.env)=bf (.Name x p1) X.env:=by rfl)
 (hs1:zSE X e []:=by rfl)
 (hfew:zFw X cpos [e]:=by rfl)
 (hline:(apos.endLine==cpos.line)=ae:=by rfl)
 (hs:d5 (.Call (.Attribute (.Name x p1) "append" apos) [e] [] cpos) ai pos.line X.env=pure ag:=by rfl) :
  PS X (.Expr (.Call (.Attribute (.Name x p1) "append" apos) [e] [] cpos) pos) (tS own (v_ i fe)):=
 PS.imp (vB (W4 la sx yd uM (jD hN hv hd hcd) (fV he lM hs1) hbase hfew hline hs1 rfl) hs) λD' σ H z0=>by
 obtain⟨ρ,fl,E,h,q⟩:=z0;obtain⟨d,h1,h2⟩:=bI h;split at h2
 ·rename_i xs hx;split at h2
  ·rename_i hk;cases h2;rw[aT] at hk;obtain⟨a,o,hσ,r,hin,ha,hm⟩:=E.ownAt ho (by rw[hx];intro z;cases z);rw[hx] at r hin;obtain⟨vs,hl,rr⟩:=CJ r;refine⟨_,hσ,.inl ⟨rfl,vs,.of hl⟩,ρ,d,E.er,h1,λv H' s rv _=>⟨a,vs,v,rfl,rfl,s _ _ hl,by rw[rr.length];exact T5 hk.1,?_⟩⟩;have E':=E.same s;have hl':=s _ _ hl;obtain⟨E2,k2⟩:=E'.mut ho hσ rfl (.lst aM trivial (((rr.same s).snoc rv).upd (by rw[lW];simp only[aT];exact⟨hin,by simp[D.aW,hk.2]⟩) hl' rfl)) (by show D.aW (xs++[d])=ae;rw[lW];simp only[aT];exact⟨hin,by simp[D.aW,hk.2]⟩);exact q _ _ ((KU.same s).trans k2) E2
  ·exact bx h2
 ·exact bx h2
end
end Mi
namespace L2
open PySem PySem.Spec PyProof.Rows
section
variable {X:Cx} {scope:fR} {own:aa Str}
theorem aDz{y:Str}{py:cn}{iy:af}(hNn:X.N.Nodup)(hiy:X.N[iy]?=ab y)(hxy:Loc X.env.scope y)(hfy:zFn X y){pins:aa (ak×bd)}{σ:St}{D:Ends}{p C:ak}{H5:Hp}{s6:am}{m6:Str->au aj}(f:Inv X pins σ H5 s6)(k:YX X pins H5 C)(n:s6.heap.Ns C m6)(q:wW iy (.ref p) σ H5 D.nx):me (av X.prog X.w) X.A X.xe (ab (nj (.Name y py) X.env)) (λ_ s'=>SP X pins D .next s') (.ref p) C (.ok .next) s6:=by
 obtain⟨oC,esC,epC,hoC,hdC,_⟩:=id n;have finP:=f.PK (pins':=pins++[(C,oC)]) λp hp=>(eS.mp hp).elim (λz=>f.pin p (gm _ z)) λz=>by
  have z':p=(C,oC):=by simpa using z
  subst z';exact⟨hoC,k.1,k.2.1,k.2.2.1,λv z=>by rw[hdC] at z;cases z⟩
 refine thn (bF (pos:=py) hNn hiy hxy hfy _ _ σ H5 (.ref p) (.ref p) D.nx finP rfl q) λ_ s7 ⟨σ7,H7,I7,q7⟩=>?_
 obtain⟨g7,hC7,_⟩:=I7.pin (C,oC) (gm _ (gm _ 0x2));refine⟨m6,n.at' λo e=>?_,λh' sb=>⟨σ7,H7,Inv.turned (t':=s7.toks) I7.uK (λb o hb e=>sb.extBut b o hb e) hC7 k.2.1 k.2.2.2.1 k.2.2.2.2.1 k.2.2.2.2.2,q7⟩⟩;rw[hoC] at e;cases e;exact g7
theorem aMj{elt iter tg:Expr}{ifs:aa Expr}{wi:TI}{g:TG}{tc:TT}{te:TE}{pos:cn}(S:cZ X.N X.env.scope scope own)(hcalm:X.calm=ae)(hi:PI X tg iter wi)
 (hg:∀X',eG X X' scope own->PG X' tg g)(hc:(ifs=[]/\tc=λ_ H Q=>Q ae H)\/∃c,ifs=[c]/\∀X',eG X X' scope own->PT X' c tc)(he:∀X',eG X X' scope own->PE X' elt te)
 (hs:∀x,fj iter X.env x=pure x){y:Str}{py pos2:cn}{iy:af}(hNn:X.N.Nodup)(hiy:X.N[iy]?=ab y)(hxy:Loc X.env.scope y)(hfy:zFn X y)(hsw:d5 (.ListComp elt [⟨tg,iter,ifs,0⟩] scope pos) (ab (.Name y py)) pos2.line X.env=pure ae):PS X (.Assign [.Name y py] (.ListComp elt [⟨tg,iter,ifs,0⟩] scope pos) pos2) (aKp (W_ wi g tc te own.length) (wW iy)):=by
 intro pins s σ H D I h;rw[exec_Assign_Name_used _ _ _ _ hsw];refine al (Bp (al ?_));show wpAny _ X.A (do let _ <- AQ (.ListComp elt [⟨tg,iter,ifs,0⟩] scope pos) scope X.env _ (xk []) ag (bf iter X.env) (ab (nj (.Name y py) X.env))) _ _ s;exact al (fT (aAh (QQ:=λ_ s'=>SP X pins D .next s') S hcalm hi hg hc he hs I h (aDz hNn hiy hxy hfy)) (λ_ s' hq=>az (az hq)) λ_ _ e=>e)
theorem KD{elt iter tg c:Expr}{wi:TI}{g:TG}{tc:TT}{te:TE}{pos:cn}(S:cZ X.N X.env.scope scope own)(hcalm:X.calm=ae)(hi:PI X tg iter wi)
 (hg:∀X',eG X X' scope own->PG X' tg g)(hc:∀X',eG X X' scope own->PT X' c tc)(he:∀X',eG X X' scope own->PE X' elt te)
 (hs:∀x,fj iter X.env x=pure x){y:Str}{py pos2:cn}{iy:af}(hNn:X.N.Nodup)(hiy:X.N[iy]?=ab y)(hxy:Loc X.env.scope y)(hfy:zFn X y)(hsw:d5 (.ListComp elt [⟨tg,iter,[c],0⟩] scope pos) (ab (.Name y py)) pos2.line X.env=pure ae):PS X (.Assign [.Name y py] (.ListComp elt [⟨tg,iter,[c],0⟩] scope pos) pos2) (aKp (W_ wi g tc te own.length) (wW iy)):=
 aMj S hcalm hi hg (.inr ⟨c,rfl,hc⟩) he hs hNn hiy hxy hfy hsw
theorem aE0{elt iter tg:Expr}{wi:TI}{g:TG}{te:TE}{pos:cn}(S:cZ X.N X.env.scope scope own)(hcalm:X.calm=ae)(hi:PI X tg iter wi)
 (hg:∀X',eG X X' scope own->PG X' tg g)(he:∀X',eG X X' scope own->PE X' elt te)
 (hs:∀x,fj iter X.env x=pure x){y:Str}{py pos2:cn}{iy:af}(hNn:X.N.Nodup)(hiy:X.N[iy]?=ab y)(hxy:Loc X.env.scope y)(hfy:zFn X y)(hsw:d5 (.ListComp elt [⟨tg,iter,[],0⟩] scope pos) (ab (.Name y py)) pos2.line X.env=pure ae):PS X (.Assign [.Name y py] (.ListComp elt [⟨tg,iter,[],0⟩] scope pos) pos2) (aKp (W_ wi g (λ_ H Q=>Q ae H) te own.length) (wW iy)):=
 aMj S hcalm hi hg (.inl ⟨rfl,rfl⟩) he hs hNn hiy hxy hfy hsw
end
end L2
namespace Mi
open PySem L2 PySem.SeqAt PySem.Spec PyProof.Rows
section
variable [KFrag]
variable {own:af->aq}
section
variable {X:Cx} {a b c e:Expr} {pos pos':cn} {fb fe:FE} {re:aq} {gc:FT} {f g:FS} {st:br} {s1 s2:aa br}
variable {scope:fR} {ownN:aa Str} {elt iter tg:Expr} {it:FI} {t:D->Res (aa D)} {gt:TG}
theorem aIi(S:cZ X.N X.env.scope scope ownN)(hn:X.N.length=n)(hm:ownN.length=m)(hcalm:X.calm=ae)(hi:PI X tg iter (gI X.K it))(ht:TgC gt t n m)(hg:∀X',eG X X' scope ownN->PG X' tg gt)(he:∀X',eG X X' scope ownN->PE X' elt (gE fe re))
 (hs:∀x,fj iter X.env x=pure x)(ho:own iy=o)(hNn:X.N.Nodup)(hiy:X.N[iy]?=ab y)(hxy:Loc X.env.scope y)(hfy:zFn X y)(hsw:d5 (.ListComp elt [⟨tg,iter,[],0⟩] scope pos) (ab (.Name y py)) pos2.line X.env=pure ae) :
  PS X (.Assign [.Name y py] (.ListComp elt [⟨tg,iter,[],0⟩] scope pos) pos2) (tS own (bZ o iy (eQ n it t dX fe re) ae)):=by
 intro pins s σ H D I h;subst hm;refine aE0 S hcalm hi hg he hs hNn hiy hxy hfy hsw pins s σ H D I ?_;exact yM ht (λσ H Q h=>by obtain⟨ρ,b,E,h,q⟩:=h;cases h;exact q H (cH.refl H)) (I.len.trans hn) (GP ho h)
theorem aAw(S:cZ X.N X.env.scope scope ownN)(hn:X.N.length=n)(hm:ownN.length=m)(hcalm:X.calm=ae)(hi:PI X tg iter (gI X.K it))(ht:TgC gt t n m)(hg:∀X',eG X X' scope ownN->PG X' tg gt)(hc:∀X',eG X X' scope ownN->PT X' c (gT gc))(he:∀X',eG X X' scope ownN->PE X' elt (gE fe re))
 (hs:∀x,fj iter X.env x=pure x)(ho:own iy=o)(hNn:X.N.Nodup)(hiy:X.N[iy]?=ab y)(hxy:Loc X.env.scope y)(hfy:zFn X y)(hsw:d5 (.ListComp elt [⟨tg,iter,[c],0⟩] scope pos) (ab (.Name y py)) pos2.line X.env=pure ae) :
  PS X (.Assign [.Name y py] (.ListComp elt [⟨tg,iter,[c],0⟩] scope pos) pos2) (tS own (bZ o iy (eQ n it t gc fe re) ae)):=by
 intro pins s σ H D I h;subst hm;refine KD S hcalm hi hg hc he hs hNn hiy hxy hfy hsw pins s σ H D I ?_;exact yM ht (λσ H Q h=>h) (I.len.trans hn) (GP ho h)
theorem GQ[cq κ]{k:κ}{v:V}(e:p.1=k)(h:k∉r.map (·.1)):putK (p::r) k v=(k,v)::r:=by
 unfold putK;rw[ao (by simp[e]),bh,ao e,e]
 congr 1
 have:∀q∈r,(λkv:κ×V=>if kv.1=k then (kv.1,v) else kv) q=id q:=λq hq=>by
  have:q.1≠k:=λz=>h (bE.mpr ⟨q,hq,z⟩)
  simp[this]
 rw[xI this,List.map_id]
theorem GR[cq κ]{k:κ}{v:V}(e:¬p.1=k):putK (p::r) k v=p::putK r k v:=by
 unfold putK;rw[ma,cK e,xf];split
 ·rw[bh,aw e]
 ·rfl
theorem j8[cq κ]:∀{kvs:aa (κ×V)},(kvs.map (·.1)).Nodup->((putK kvs k v).map (·.1)).Nodup:=λ{kvs} h=>by
 by_cases hk:BV kvs k=ai
 ·exact aHu v h hk
 ·unfold putK;rw[ao (by rw[uP];exact Option.isSome_iff_ne_none.mpr hk),cS];have:(λx:κ×V=>x.1) ∘ (λkv:κ×V=>if kv.1=k then (kv.1,v) else kv)=λx=>x.1:=by
   funext q
   simp only[Dl];split<;>rfl
  rw[this];exact h
theorem xH(rv:Rep P H v d):∀{kvs:aa (Key×V)}{ds:aa (D×D)},iJ P H kvs ds->(kvs.map (·.1)).Nodup->iJ P H (putK kvs k v) (putD ds (kD k) d)
 |_,_,.nil,_=>.cons rv .nil
 |_,_,.cons (k:=k') (v:=v') r t,hn=>by
  rw[bh] at hn;obtain⟨h1,h2⟩:=dj.mp hn;rw[putD,aAq];by_cases h:k'=k
  ·subst h;rw[ao 0x2,GQ rfl h1];exact .cons rv t
  ·rw[aw (by simpa using h),GR h];exact .cons r (xH rv t h2)
theorem GX(rv:Rep P H v d):∀{kvs:aa (aa Key×V)}{ds:aa (D×D)},oZ P H kvs ds->(kvs.map (·.1)).Nodup->oZ P H (putK kvs k v) (putD ds (.tup (k.map kD)) d)
 |_,_,.nil,_=>.cons rv .nil
 |_,_,.cons (k:=k') (v:=v') r t,hn=>by
  rw[bh] at hn;obtain⟨h1,h2⟩:=dj.mp hn;rw[putD,aI7];by_cases h:k'=k
  ·subst h;rw[ao 0x2,GQ rfl h1];exact .cons rv t
  ·rw[aw (by simpa using h),GR h];exact .cons r (GX rv t h2)
theorem iJ.length:∀{kvs:aa (Key×V)}{ds:aa (D×D)},iJ P H kvs ds->kvs.length=ds.length
 |_,_,.nil=>rfl
 |_,_,.cons _ t=>by rw[bc,bc,iJ.length t]
theorem oZ.length:∀{kvs:aa (aa Key×V)}{ds:aa (D×D)},oZ P H kvs ds->kvs.length=ds.length
 |_,_,.nil=>rfl
 |_,_,.cons _ t=>by rw[bc,bc,oZ.length t]
theorem GZ{a:ak}(ha:H a=ab ob)(hm:TF ob=ae):BZ (λ_=>cw) H (L2.upd H a o):=λc oc hc h=>by
 rw[bG]
 ·exact hc
 ·intro z;subst z;rcases h with h|h
  ·exact h.elim
  ·rw[ha] at hc;cases hc;rw[hm] at h;cases h
theorem o8(hd:d.pure=ae):∀{ds:aa (D×D)},D.aW (ds.map (·.2))=ae->D.aW ((putD ds k d).map (·.2))=ae
 |[],_=>by simp[putD,D.aW,hd]
 | (q,w)::r,h=>by
  rw[bh,D.aW,aT] at h;rw[putD];split
  ·rw[bh,D.aW,aT];exact⟨hd,h.2⟩
  ·rw[bh,D.aW,aT];exact⟨h.1,o8 hd h.2⟩
theorem aQ3{ad:ak}{y v:V}{ds:aa (D×D)}{k d:D}(I:Inv X pins σ H s)(rd:Rep All H (.ref ad) (.dct ds))(hin:D.aW (ds.map (·.2))=ae)(rk:Rep All H y k)(hk:O4 ds k=ae)(hl:ds.length<ba)(rv:Rep All H v d)(hd:d.pure=ae) :
  ∃H1 o,Inv X pins σ H1 s/\aFq H1 ad y v (L2.upd H ad o)/\TF o=ae/\Rep All (L2.upd H ad o) (.ref ad) (.dct (putD ds k d)):=by
 unfold O4 at hk;rw[aT] at hk;obtain⟨h1,h2⟩:=hk;have rv':Rep (λ_=>cw) H v d:=rv.b8 hd;cases rd with
 |@dK _ kvs ds e _ r n=>
  have hlen:=r.length;rcases lU h1 rk with ⟨q,rfl,rfl⟩|⟨b,ks,rfl,eb,rfl⟩
  ·refine⟨H,.dK (putK kvs q v),I,.k e 0x1,rfl,.dK aM trivial ?_ (j8 n)⟩;exact(xH rv' (r.b8 hin) n).keep (GZ e rfl) λ_ z=>z.elim
  ·cases r with
   |nil=>
    refine⟨L2.upd H ad (.dT []),.dT (putK [] ks v),o7 I e,?_,rfl,.dT aM trivial ?_ (j8 fA)⟩
    ·have:=aFq.t (H:=L2.upd H ad (.dT [])) (a:=ad) (b:=b) (kvs:=[]) (k:=ks) (v:=v) aM (by rw[bG (DQ eb e 0x7)];exact eb) hl;rwa [PJ] at this
    ·exact(GX (k:=ks) rv' .nil fA).keep (GZ e rfl) λ_ z=>z.elim
   |cons r t=>
    rw[gS,mV] at h2;simp[isTup] at h2
 |@dT _ kvs ds e _ r n=>
  have hlen:=r.length;rcases lU h1 rk with ⟨q,rfl,rfl⟩|⟨b,ks,rfl,eb,rfl⟩
  ·cases r with
   |nil=>
    refine⟨L2.upd H ad (.dK []),.dK (putK [] q v),lV I e,?_,rfl,.dK aM trivial ?_ (j8 fA)⟩
    ·have:=aFq.k (H:=L2.upd H ad (.dK [])) (a:=ad) (kvs:=[]) (k:=q) (v:=v) aM hl;rwa [PJ] at this
    ·exact(xH (k:=q) rv' .nil fA).keep (GZ e rfl) λ_ z=>z.elim
   |cons r t=>
    rw[gS,mV] at h2;simp[isTup] at h2
  ·refine⟨H,.dT (putK kvs ks v),I,.t e eb 0x1,rfl,.dT aM trivial ?_ (j8 n)⟩;exact(GX rv' (r.b8 hin) n).keep (GZ e rfl) λ_ z=>z.elim
theorem tL(hu:X.A.units+20<b6)(ho:own i=ae)(hN:X.N[i]?=ab x)(hvi:Vis X.env.scope x)(hk:PE X k (gE fk rk))(hv:PE X value (gE fv rv))
 (hs:d5 value (ab (.Subscript (.Name x p1) k pos')) pos.line X.env=pure ag:=by rfl)(hd:nDb x:=by decide)(hcd:nCd x:=by decide) :
  PS X (.Assign [.Subscript (.Name x p1) k pos'] value pos) (tS own (zN i fk fv)):=by
 rintro pins s σ H D' I ⟨ρ,fl,E,h,q⟩;obtain⟨d,h0,h⟩:=bI h;obtain⟨kd,h1,h2⟩:=bI h;split at h2
 ·rename_i kvs hx;split at h2
  ·rename_i hg;cases h2;simp only[aT] at hg;obtain⟨⟨hg1,hg2⟩,hg3⟩:=hg;obtain⟨a,o,hσ,r,hin,ha,hm⟩:=E.ownAt ho (by rw[hx];intro z;cases z);rw[hx] at r hin;refine wpAny_Assign_Subscript (thn (hv pins s σ H (λv H1=>cH H H1/\Rep All H1 v d) I ⟨ρ,d,E.er,h0,λv H1 s1 r1 _=>⟨s1,r1⟩⟩) λrr s1 ⟨v,H1,I1,rv1,sm1,rp1⟩=>
    thn (jD hN hvi hd hcd pins s1 σ H1 (λw H2=>w=.ref a/\H2=H1) I1 ⟨_,hσ,rfl,rfl⟩) λu s2 ⟨xx,H2,I2,rx,ex,eH⟩=>
    thn (hk pins s2 σ H2 (λw H3=>cH H2 H3/\Rep All H3 w kd) I2 ⟨ρ,kd,by rw[eH];exact E.er.same sm1,h1,λv H1 s1 r1 _=>⟨s1,r1⟩⟩) λiv s3 ⟨y,H3,I3,ry,sm3,rp3⟩=>?_) hs
   subst ex eH;obtain rfl:u=eJ a:=rx;have sm:=sm1.trans sm3;obtain⟨H4,o4,I4,g,hmo,rp⟩:=aQ3 I3 (r.same sm) hin rp3 hg2 (T5 hg1) (rp1.same sm3) hg3;obtain⟨E2,k2⟩:=(E.same sm).mut ho hσ hmo rp (o8 hg3 hin);exact Z_ 0x1 I4 g ry rv1 λs4 I5=>⟨σ,_,I5,q _ _ ((KU.same sm).trans k2) E2⟩
  ·exact bx h2
 ·exact bx h2
def TgS(own:af->aq)(g:TG)(t:D->aa D->Res (aa D)):Prop:=∀(v:V)(d:D)(ρ ρ':aa D)(σ:L2.St)(H:Hp)(Q:L2.St->Hp->Prop),ES own H σ ρ->Rep (λa=>¬Own own σ a) H v d->t d ρ=.ok ρ'->
 (∀σ',ES own H σ' ρ'->(∀a,Own own σ' a↔Own own σ a)->Q σ' H)->g v σ H Q
theorem gB(ho:own i=ag):TgS own (wW i) (tg1 i):=λv d ρ ρ' σ H Q E r h q=>by
 cases h;exact q _ (E.set ho r) λa=>lH ho a
theorem ES.sets:∀{is:aa af}{vs:aa V}{ds:aa D}{σ:L2.St}{ρ:aa D},(∀i∈is,own i=ag)->ES own H σ ρ->b7 (λa=>¬Own own σ a) H vs ds->ES own H (n6 is vs σ) (aA8 is ds ρ)/\∀a,Own own (n6 is vs σ) a↔Own own σ a
 |[],_,_,_,_,_,E,_=>by simp only[n6,aA8];exact⟨E,λ_=>trivial⟩
 |i::is,_,_,σ,ρ,h,E,.nil=>by simp only[n6,aA8];exact⟨E,λ_=>trivial⟩
 |i::is,_,_,σ,ρ,h,E,.cons (v:=v) r t=>by
  have ho:=h i (bn ..);have hO:(λa=>¬Own own (σ.set i (ab v)) a)=λa=>¬Own own σ a:=funext λa=>by rw[lH ho]
  obtain⟨h1,h2⟩:=ES.sets (λj hj=>h j (bz _ hj)) (E.set ho r) (by rw[hO];exact t);exact⟨h1,λa=>(h2 a).trans (lH ho a)⟩
theorem tZ(K:bg)(ho:∀i∈is,own i=ag):TgS own (aPc K is.length (gIx is)) (tgN is):=λv d ρ ρ' σ H Q E r h q=>by
 cases d<;>simp only[tgN] at h<;>(try (exact bx h;done))
 split at h
 ·rename_i hl;cases h;have hl':=dh hl;obtain⟨a,xs,rfl,e,rr⟩:=r.fG;obtain⟨h1,h2⟩:=E.sets ho rr;exact⟨a,xs,rfl,.of e,by rw[rr.length];exact hl',QV _ _ _ (by rw[rr.length];exact hl') (q _ h1 h2)⟩
 ·exact bx h
theorem ItQ.ku{K:bg}(h:ItQ K (λa=>¬Own own σ a) J H items)(k:KU own σ H σ' H')(E:ES own H σ ρ):ItQ K (λa=>¬Own own σ' a) J H' items:=h.keep' (k.keep E) λa o e n=>(k a o e n).2
theorem U0{K:bg}{g:TG}{t:D->aa D->Res (aa D)}{body:FS}{D':Ends}{J:It}{items:aa D}{σ:L2.St}{H1:Hp}{ρ:aa D}{fl:Fl}(tg:TgS own g t)(E:ES own H1 σ ρ)(hJ:ItQ K (λa=>¬Own own σ a) J H1 items)(hf:tU t body items ρ=.ok fl)(q:kS own D' σ H1 fl) :
  ∃W:af->af->L2.St->Hp->Prop,(∃m,W 0 m σ H1)/\∀i m σ H,W i m σ H->
   (J.stop i H/\D'.nx σ H)\/(J.go i H/\∃N:L2.St->Hp->Prop,(∀σ' H',N σ' H'->∃m',m'<m/\W (i+1) m' σ' H')/\∀x H',J.yld i H x H'->g x σ H' λσ2 H2=>tS own body {D' with nx:=N,ct:=N,bk:=D'.nx} σ2 H2):=by
 refine⟨λi m σ' H'=>m=items.length-i/\i<=items.length/\ItQ K (λa=>¬Own own σ' a) J H' items/\∃ρ',ES own H' σ' ρ'/\tU t body (items.drop i) ρ'=.ok fl/\kS own D' σ' H' fl,⟨items.length,rfl,cy _,hJ,ρ,E,hf,q⟩,?_⟩;rintro i m σ' H' ⟨rfl,hi,hJ',ρ',E',hf',q'⟩;rcases kf i items.length with hlt|hge
 ·refine .inr ?_;have e:items[i]?=ab items[i]:=ef hlt;obtain⟨g1,g2⟩:=hJ'.go e;rw[mv hlt] at hf';obtain⟨ρ1,h1,hf2⟩:=bI hf';obtain⟨r,h2,hf3⟩:=bI hf2;refine⟨g1,λσ2 H2=>ItQ K (λa=>¬Own own σ2 a) J H2 items/\∃ρ',ES own H2 σ2 ρ'/\tU t body (items.drop (i+1)) ρ'=.ok fl/\kS own D' σ2 H2 fl,λσ2 H2 ⟨n1,n2⟩=>⟨items.length-(i+1),by lia,rfl,hlt,n1,n2⟩,λx H2 hy=>?_⟩;obtain⟨sH,rx⟩:=g2 x H2 hy;have ks:KU own σ' H' σ' H2:=λa o e n=>⟨sH a o e,n⟩
  have hJ':=hJ'.ku ks E';have q':=q'.step ks;have E':=E'.same sH;refine tg x items[i] ρ' ρ1 σ' H2 _ E' rx h1 λσ2 E2 hO=>?_
  have k0:KU own σ' H2 σ2 H2:=λa o e n=>⟨e,by rw[hO];exact n⟩
  have hJ2:=hJ'.ku k0 E';have q2:=q'.step k0;refine⟨ρ1,r,E2,h2,?_⟩;cases r with
  |nx ρ2=>exact λσ3 H3 k3 E3=>⟨hJ2.ku k3 E2,ρ2,E3,hf3,q2.step k3⟩
  |ct ρ2=>exact λσ3 H3 k3 E3=>⟨hJ2.ku k3 E2,ρ2,E3,hf3,q2.step k3⟩
  |bk ρ2=>cases hf3;exact λσ3 H3 k3 E3=>q2 σ3 H3 k3 E3
  |rt d=>cases hf3;exact q2
 ·refine .inl ⟨hJ'.stop hge,?_⟩;rw[mw hge] at hf';cases hf';exact q' σ' H' (λa o e n=>⟨e,n⟩) E'
theorem gK{tg iter:Expr}{body:aa br}{g:TG}{t:D->aa D->Res (aa D)}{it:FI}{fb:FS}(hp:nq (av X.prog X.w) X.A X.env X.xe)(hc:X.calm=ae)(hi:PI X tg iter (gI X.K it))(ht:TgS own g t)(hg:PG X tg g)(hb:PSs X body (tS own fb))
 (hs:∀x,fj iter X.env x=pure x:=by intro _;rfl):PS X (.For tg iter body [] pos) (tS own (tV it t fb)):=PS.imp (aFm hp hc hi hg hb hs) λD' σ H z0=>by
 obtain⟨ρ,fl,E,h,q⟩:=z0;obtain⟨⟨items,k⟩,h1,h2⟩:=bI h;split at h2
 ·rename_i hk;exact⟨ρ,items,k,E.er,h1,λJ H1 s1 _ hJ=>U0 ht (E.same s1) ((hJ hk).keep (λ_ _ e _=>e) λa ha ho=>by
   obtain⟨o,e1,_⟩:=E.live ho;rw[show H a=ai from ha] at e1;cases e1) h2 (q.step (.same s1))⟩
 ·exact bx h2
theorem aAx{g:TG}{t:D->aa D->Res (aa D)}{i:af}{x:Str}{px:cn}{fb:FS}(ho:own i=ag)(hp:nq (av X.prog X.w) X.A X.env X.xe)(hc:X.calm=ae)(hN:X.N[i]?=ab x)(hv:Vis X.env.scope x)(ht:TgS own g t)(hg:PG X tg g)(hb:PSs X body (tS own fb))
 (hs:∀z,fj (.Name x px) X.env z=pure z:=by intro _;rfl)(hd:nDb x:=by decide)(hcd:nCd x:=by decide):PS X (.For tg (.Name x px) body [] pos) (tS own (QC i t fb)):=PS.imp (aFm hp hc (aMi hN hv hd hcd) hg hb hs) λD' σ H z0=>by
 obtain⟨ρ,fl,E,h,q⟩:=z0;obtain⟨d,h1,h⟩:=bI h;obtain⟨items,h2,h3⟩:=bI h;obtain⟨v,hv,r,e⟩:=E.er.var h1;have hne:ρ.getD i .uD≠.uD:=λz=>by
  rw[z] at e;subst e;exact Rep.uD r
 obtain⟨w,hw,hr⟩:=E.at_ i hne;rw[hv] at hw;cases hw;have r2:=hr ho;rw[e] at r2;exact⟨v,d,items,hv,r,h2,λJ hJ=>U0 ht E (hJ _ r2) h3 q⟩
theorem aE1{N ps:aa Str}(hst:start N vs=vs.map ab++bP (N.length-ps.length) ai)(hl:ds.length=ps.length)(r:b7 All H vs ds)(hown:∀i,i<ps.length->own i=ag)(noown:∀a,¬Own own (start N vs) a):ES own H (start N vs) (ds++bP (N.length-ps.length) .uD):=by
 refine⟨by rw[hst];simp[r.length],λi hi=>?_,λi v hi hv=>?_⟩
 ·have hlt:i<ds.length:=tI λhge=>hi (by
   rw[cu,fz hge,je];split<;>rfl)
  have e:(ds++bP (N.length-ps.length) D.uD).getD i .uD=ds[i]:=by
   rw[cu,ia hlt,ef hlt];rfl
  obtain⟨v,g1,g2⟩:=r.get (i:=i) (d:=ds[i]) (by simp[hlt]);refine⟨v,by rw[hst,ia (by simp[r.length,hlt])];simp[g1],λ_=>?_⟩;rw[e];exact g2.mono λa _=>noown a
 ·exfalso;rw[hst] at hv;by_cases h:i<ps.length
  ·rw[hown i h] at hi;cases hi
  ·rw[fz (by simp[r.length,hl];lia)] at hv;rw[je] at hv;split at hv<;>cases hv
theorem aAy{N ps:aa Str}{f:FS}{vs:aa V}{H:Hp}{Q:VK}{E:XK}(hx:own rtX=ag)(hown:∀i,i<ps.length->own i=ag)(h0:spD (fnS ps.length N.length f) ps.length vs H Q E):tS own f {nx:=λ_ H'=>Q .non H',rt:=Q} (start N vs) H:=by
 obtain⟨ds,d,hl,r,h,q⟩:=h0
 ·obtain⟨fl,h1,h2⟩:=bI h;have hst:start N vs=vs.map ab++bP (N.length-ps.length) ai:=by
   show vs.map ab++bP (N.length-vs.length) ai=_;rw[r.length,hl]
  have noown:∀a,¬Own own (start N vs) a:=λa z0=>by
   obtain⟨i,hi,e⟩:=z0;rw[hst] at e;by_cases h:i<ps.length
   ·rw[hown i h] at hi;cases hi
   ·rw[fz (by simp[r.length,hl];lia)] at e;rw[je] at e;split at e<;>cases e
  have E0:ES own H (start N vs) (ds++bP (N.length-ps.length) .uD):=aE1 hst hl r hown noown;refine⟨_,fl,E0,h1,?_⟩;have sm:∀{σ':L2.St}{H':Hp},KU own (start N vs) H σ' H'->cH H H':=λk a o e=>(k a o e (noown a)).1
  cases fl with
  |nx ρ'=>cases h2;exact λσ' H' k E'=>q .non H' (sm k) .non λ_=>.non
  |rt d'=>
   cases h2;refine kRt.mk hx λv H' hk rp=>q v H' (λa o e=>hk a o e (noown a)) rp.all λ_=>rp.mono λa ha=>?_
   rcases ha with ha|ha
   ·exact aE ha (noown a)
   ·exact ha
  |bk ρ'=>exact bx h2
  |ct ρ'=>exact bx h2
theorem aMk{w:bm}{K:bg}{mg:Str->au aj}{base:aI}{x qual:Str}{st:br}{fad:ak}{fd:eu}{N ps:aa Str}{k:af}{f:FS}(F:Fun K x qual st fad fd)(S:cC N ps (aN st))(own:af->aq)(hown:∀i,i<ps.length->own i=ag)(hNl:ps.length<=N.length)
 (hbody:∀(cdv:aj) (A:b5) (outer:aa di) (s:am) (H:Hp) (E:XK),nU k (A.deeper (gp qual (aN st) s.heap.objs.size fad cdv))->PSs (Z0 CX0 P w K mg base N qual (aN st) fad cdv A outer s H E).nox (eX st) (tS own f))(hx:own rtX=ag:=by rfl):v6 P w K mg base CX0 (k+1) fad fd ps (spD (fnS ps.length N.length f) ps.length):=
 F.ok S (λvs H Q E h=>aAt h) λcdv A outer s H vs Q E hr h=>⟨_,hbody cdv A outer s H E hr,aAy hx hown h⟩
end
end
variable [KFrag]
structure aQ4 where
 s₀:am
 H₀:Hp
 env:di
 outer:aa di
 stack:aa di
 ex:aa ak
 fn:Str->aq
 pn:aa (ak×bd)
abbrev mkC(X:Cx)(scope:fR)(ownN:aa Str)(y:aQ4):Cx:=
 {X with N:=X.N.map (gZ ownN)++ownN,s₀:=y.s₀,H₀:=y.H₀,env:={y.env with scope:=i6 scope X.env},outer:=y.outer,stack:=y.stack,ex:=y.ex,fn:=y.fn,pn:=y.pn,xe:=λ_ _=>cw}
theorem k_(cc:eG X X' scope ownN):∃y,X'=mkC X scope ownN y:=by
 refine⟨⟨X'.s₀,X'.H₀,X'.env,X'.outer,X'.stack,X'.ex,X'.fn,X'.pn⟩,?_⟩;obtain⟨h1,h2,h3,h4,h5,h6,h7,h8,h9,h10⟩:=cc;cases X' with
 |mk a b c d e f g h i j k l m n o p q=>
  cases j;dsimp only at *;subst h1 h2 h3 h4 h5 h6 h7 h8 h9 h10;rfl
section
theorem iQ(S:cZ X.N X.env.scope scope ownN)(hn:X.N.length=n)(hm:ownN.length=m)(hcalm:X.calm=ae)(hi:PI X tg iter (gI X.K it))(ht:TgC g t n m)(hg:∀y,PG (mkC X scope ownN y) tg g)(he:∀y,PE (mkC X scope ownN y) elt (gE fe re))
 (hs:∀x,fj iter X.env x=pure x):PE X (.ListComp elt [⟨tg,iter,[],0⟩] scope pos) (gE (eQ n it t dX fe re) ae):=
 aIg S hn hm hcalm hi ht (λX' cc=>by obtain⟨y,rfl⟩:=k_ cc;exact hg y) (λX' cc=>by obtain⟨y,rfl⟩:=k_ cc;exact he y) hs
theorem o9(S:cZ X.N X.env.scope scope ownN)(hn:X.N.length=n)(hm:ownN.length=m)(hcalm:X.calm=ae)(hi:PI X tg iter (gI X.K it))(ht:TgC g t n m)(hg:∀y,PG (mkC X scope ownN y) tg g)(he:∀y,PE (mkC X scope ownN y) elt (gE fe re))
 (hs:∀x,fj iter X.env x=pure x)(ho:own iy=o)(hNn:X.N.Nodup)(hiy:X.N[iy]?=ab y)(hxy:Loc X.env.scope y)(hfy:zFn X y)(hsw:d5 (.ListComp elt [⟨tg,iter,[],0⟩] scope pos) (ab (.Name y py)) pos2.line X.env=pure ae) :
  PS X (.Assign [.Name y py] (.ListComp elt [⟨tg,iter,[],0⟩] scope pos) pos2) (tS own (bZ o iy (eQ n it t dX fe re) ae)):=
 aIi S hn hm hcalm hi ht (λX' cc=>by obtain⟨y,rfl⟩:=k_ cc;exact hg y) (λX' cc=>by obtain⟨y,rfl⟩:=k_ cc;exact he y) hs ho hNn hiy hxy hfy hsw
theorem CK(S:cZ X.N X.env.scope scope ownN)(hn:X.N.length=n)(hm:ownN.length=m)(hcalm:X.calm=ae)(hi:PI X tg iter (gI X.K it))(ht:TgC g t n m)(hg:∀y,PG (mkC X scope ownN y) tg g)(hc:∀y,PT (mkC X scope ownN y) c (gT gc))(he:∀y,PE (mkC X scope ownN y) elt (gE fe re))
 (hs:∀x,fj iter X.env x=pure x)(ho:own iy=o)(hNn:X.N.Nodup)(hiy:X.N[iy]?=ab y)(hxy:Loc X.env.scope y)(hfy:zFn X y)(hsw:d5 (.ListComp elt [⟨tg,iter,[c],0⟩] scope pos) (ab (.Name y py)) pos2.line X.env=pure ae) :
  PS X (.Assign [.Name y py] (.ListComp elt [⟨tg,iter,[c],0⟩] scope pos) pos2) (tS own (bZ o iy (eQ n it t gc fe re) ae)):=
 aAw S hn hm hcalm hi ht (λX' cc=>by obtain⟨y,rfl⟩:=k_ cc;exact hg y) (λX' cc=>by obtain⟨y,rfl⟩:=k_ cc;exact hc y) (λX' cc=>by obtain⟨y,rfl⟩:=k_ cc;exact he y) hs ho hNn hiy hxy hfy hsw
end
def cX(P:bS)(w:bm)(K:bg)(mg:Str->au aj)(base:aI)(k:af)(x:Str)(n:af)(f:aa D->Res D):Prop:=
 ∃(fad:ak)(fd:eu)(ps:aa Str),v6 P w K mg base CX0 k fad fd ps (spD f n)/\mg x=ab (.ref fad)/\jd K (.ref fad)=ae/\Binds K fd ps []
section
theorem aZ(C:cX X.prog X.w X.K X.mg X.base k x n f)(hr:nU k' X.A)(hkk:k<=k')(hg:Gl X x)(ha:PA X (e::es) (gA fs rr))(hdb:nDb x:=by decide)(he:zSE X e es:=by rfl)(hpl:zSP X pos es:=by rfl) :
  PE X (.Call (.Name x p) (e::es) [] pos) (gE (aK (bY n f) fs) ae):=by
 obtain⟨fad,fd,ps,F,hm,hk,hb⟩:=C;exact aIe F (hr.mono hkk) hg hm hk hb ha hdb he hpl
theorem gM{K:bg}{st:br}{fad:ak}{fd:eu}{N ps:aa Str}{fs:FS}(F:Fun K x x st fad fd)(hm:mg x=ab (.ref fad))(hb:Binds K fd ps [])(S:cC N ps (aN st))(own:af->aq)(hown:∀i,i<ps.length->own i=ag)(hNl:ps.length<=N.length)
 (hbody:∀(cdv:aj) (A:b5) (outer:aa di) (s:am) (H:Hp) (E:XK),nU k (A.deeper (gp x (aN st) s.heap.objs.size fad cdv))->PSs (Z0 CX0 P w K mg base N x (aN st) fad cdv A outer s H E).nox (eX st) (tS own fs))(hx:own rtX=ag:=by rfl):cX P w K mg base (k+1) x ps.length (fnS ps.length N.length fs):=
 ⟨fad,fd,ps,aMk F S own hown hNl hbody hx,hm,F.kp,hb⟩
end
theorem wB(hr:nU k A):A.units+20<b6:=yc (Nat.add_le_add_left (by decide:20<=64) _) hr.units
structure Bt(mg:Str->au aj):Prop where
 len:mg "len"=ai
 min:mg "min"=ai
 max:mg "max"=ai
 list:mg "list"=ai
 tuple:mg "tuple"=ai
 sorted:mg "sorted"=ai
 range:mg "range"=ai
 isi:mg "isinstance"=ai
 int:mg "int"=ai
 bool:mg "bool"=ai
 str:mg "str"=ai
 dict:mg "dict"=ai
 all:mg "all"=ai
 enum:mg "enumerate"=ai
 sum:mg "sum"=ai
 zip:mg "zip"=ai
 abs:mg "abs"=ai
 reversed:mg "reversed"=ai
theorem cO:dz "len"=ab (.builtin "len"):=by decide +kernel
theorem aMl:dz "min"=ab (.builtin "min"):=by decide +kernel
theorem U3:dz "max"=ab (.builtin "max"):=by decide +kernel
theorem yP:dz "sorted"=ab (.builtin "sorted"):=by decide +kernel
theorem cG:dz "isinstance"=ab (.builtin "isinstance"):=by decide +kernel
theorem QW:dz "list"=ab (.type "list"):=by decide +kernel
theorem dW:dz "tuple"=ab (.type "tuple"):=by decide +kernel
theorem aMm:dz "int"=ab (.type "int"):=by decide +kernel
theorem aIj:dz "bool"=ab (.type "bool"):=by decide +kernel
theorem aMn:dz "str"=ab (.type "str"):=by decide +kernel
theorem ints_rep:∀ns:aa ah,b7 P H (ns.map V.int) (ns.map D.int)
 |[]=>.nil
 |n::ns=>.cons (.int n) (ints_rep ns)
end Mi
namespace Mi
open PySem L2
theorem aAz{ns:aa ah}{E:XK}(main:∀ns:aa ah,ns.length<=63->f [.scr (ns.map D.int)]=.ok (.bl ae))(hl:ns.length<=63)(hO:Only H)(hS:SqL K H a (ns.map V.int)):@spD ⟨K⟩ f 1 [.ref a] H (λv _=>v=.bl ae) E:=by
 letI:KFrag:=⟨K⟩
 refine⟨[.scr (ns.map D.int)],.bl ae,rfl,.cons (.frz ?_ (ints_rep ns)) .nil,main ns hl,λv H' s r n=>by cases r.inv;rfl⟩;rcases hS with (h|⟨o,h⟩)|h
 ·rcases hO a with z|⟨o,xs,z⟩
  ·rw[h] at z;cases z
  ·rw[h] at z;cases z
 ·exact .inl ⟨o,h⟩
 ·exact .inr h
end Mi
namespace Mi
universe u
section
variable {α:Type u} {us:aa α}
theorem l1(h:us.length=1):∃a,us=[a]:=Bq.mp h
theorem l2(h:us.length=2):∃a b,us=[a,b]:=by
 cases us with
 |nil=>cases h
 |cons a t=>obtain⟨b,rfl⟩:=l1 (lf h);exact⟨a,b,rfl⟩
theorem l3(h:us.length=3):∃a b c,us=[a,b,c]:=by
 cases us with
 |nil=>cases h
 |cons a t=>obtain⟨b,c,rfl⟩:=l2 (lf h);exact⟨a,b,c,rfl⟩
theorem l4(h:us.length=4):∃a b c d,us=[a,b,c,d]:=by
 cases us with
 |nil=>cases h
 |cons a t=>obtain⟨b,c,d,rfl⟩:=l3 (lf h);exact⟨a,b,c,d,rfl⟩
theorem l5(h:us.length=5):∃a b c d e,us=[a,b,c,d,e]:=by
 cases us with
 |nil=>cases h
 |cons a t=>obtain⟨b,c,d,e,rfl⟩:=l4 (lf h);exact⟨a,b,c,d,e,rfl⟩
theorem l6(h:us.length=6):∃a b c d e f,us=[a,b,c,d,e,f]:=by
 cases us with
 |nil=>cases h
 |cons a t=>obtain⟨b,c,d,e,f,rfl⟩:=l5 (lf h);exact⟨a,b,c,d,e,f,rfl⟩
theorem l7(h:us.length=7):∃a b c d e f g,us=[a,b,c,d,e,f,g]:=by
 cases us with
 |nil=>cases h
 |cons a t=>obtain⟨b,c,d,e,f,g,rfl⟩:=l6 (lf h);exact⟨a,b,c,d,e,f,g,rfl⟩
end
open PySem L2 PySem.SeqAt PySem.Spec PyProof.Rows
def lJ:D->D->Res D
 |.str x,.int n=>if decide (0<=n)&&decide (n<=100000)&&decide (x.length*n.toNat<=lim) then .ok (.str (lg x n)) else .bad
 |a,b=>bA .mul a b
def inX:D->D->Res D
 |.str c,.str x=>.ok (.bl (!(Af x c 0 x.length 1).isEmpty))
 |a,b=>b_ .isin a b
def aE2:D->au ah->au ah->Res D
 |.str x,lo,hi=>if decide (x.length<=lim) then .ok (.str (tJ x lo hi)) else .bad
 |d,lo,hi=>aKs d lo hi
def QX(a:FE)(lo hi:aa D->Res (au ah)):FE:=λρ=>do let x <- a ρ;let l <- lo ρ;let h <- hi ρ;aE2 x l h
def CN:D->Res (aa D)
 |.str x=>if decide (x.length<=lim) then .ok (J9 x) else .bad
 |d=>yE d
def bT(a:FE)(fr:aq):FI:=λρ=>do let x <- a ρ;let xs <- CN x;pure (xs,fr||x.pure)
noncomputable def yQ:aa D->au (aa Str)
 |[]=>ab []
 |.str x::r=>(yQ r).map (x::·)
 |_::_=>ai
variable [KFrag]
section
variable {X:Cx}
theorem gC:OpR X (fq .Mult) (r2 lJ ae):=by
 rintro pins s σ H x y v u Q I rx ry ⟨a,b,d,p,q,e,k⟩;by_cases hs:∃z n,a=.str z/\b=.int n
 ·obtain⟨z,n,rfl,rfl⟩:=hs;simp only[lJ] at e;split at e
  ·rename_i hl;cases e;simp only[aT,dL] at hl;obtain⟨⟨h0,h1⟩,h2⟩:=hl;cases p.inv;cases q.inv;obtain⟨t,rfl⟩:=rx;obtain⟨t',rfl⟩:=ry;have hz:z.length*n.toNat<=ba:=c9 h2 (by rw[c8];decide);refine SB.mul ⟨?_,λh3 _=>?_,λ_ _=>?_⟩ λt2 k2=>⟨.str _,H,I.tok k2,⟨t2,rfl⟩,k.str⟩
   ·rw[cK 0x1,cK 0x1];rfl
   ·have hn:0<n:=by lia
    have h4:(z.length:ah)*n<=2 ^ 63-1:=by
     have h5:((z.length*n.toNat:af):ah)<=1000000:=by
      have:lim=1000000:=by unfold lim;exact Eq.refl _
      lia
     rw[tN,Int.toNat_of_nonneg h0] at h5;lia
    have h6:=(Int.le_ediv_iff_mul_le hn).mpr h4;lia
   ·unfold Dm;exact cK 0x1
  ·exact bx e
 ·have he:lJ a b=bA .mul a b:=by
   unfold lJ;split
   ·exact aE ⟨_,_,rfl,rfl⟩ hs
   ·rfl
  rw[he] at e;exact aMc pins s σ H x y v u Q I rx ry ⟨a,b,d,p,q,e,k⟩
theorem KH(hu:X.A.units+20<b6):OpR X (dg .In) (r2 inX ae):=by
 rintro pins s σ H x y v u Q I rx ry ⟨a,b,d,p,q,e,k⟩;by_cases hs:∃z n,a=.str z/\b=.str n
 ·obtain⟨z,n,rfl,rfl⟩:=hs;cases e;cases p.inv;cases q.inv;exact ZQ pins s σ H _ _ v u Q I rx ry ⟨_,_,rfl,rfl,k.bl⟩
 ·have he:inX a b=b_ .isin a b:=by
   unfold inX;split
   ·exact aE ⟨_,_,rfl,rfl⟩ hs
   ·rfl
  rw[he] at e;exact aPy hu pins s σ H x y v u Q I rx ry ⟨a,b,d,p,q,e,k⟩
theorem part_of(h:iq v o):∃l:au (ah×dQ),partValue l=v/\l.map (·.1)=o:=by
 cases h with
 |none=>exact⟨ai,rfl,rfl⟩
 |int i t=>exact⟨ab (i,t),rfl,rfl⟩
theorem aB0(hK:KFrag.K=X.K):SlR X (λx lo hi H Q=>∃a d,Rep All H x a/\aE2 a lo hi=.ok d/\kR H d ae Q):=by
 rintro pins s σ H x v vl vu lo hi sl Q I rx hs pl pu ⟨a,d,p,e,k⟩;by_cases hz:∃z,a=.str z
 ·obtain⟨z,rfl⟩:=hz;simp only[aE2] at e;split at e
  ·rename_i hl;cases e;cases p.inv;obtain⟨t,rfl⟩:=rx;obtain⟨l,e1,e2⟩:=part_of pl;obtain⟨m,e3,e4⟩:=part_of pu;subst e1 e2 e3 e4;refine⟨"str",_,F.slot_str_getitem.lookup,wT _ _ _,?_⟩;obtain⟨o,ho,hc,hd⟩:=hs;refine wpAny_getItem_str_slice (st:=ai) ⟨o,ho,hc,hd⟩ rfl ?_;have hle:(tJ z (l.map (·.1)) (m.map (·.1))).length<=ba:=c9 (Txt.slice_le ..) (o6 hl);have q:∀(t':dQ)(k2:af),EP X pins σ Q (.str (tJ z (l.map (·.1)) (m.map (·.1))) t') {s with toks:=k2}:=λt' k2=>⟨.str _,H,I.tok k2,⟨t',rfl⟩,k.str⟩
   show Made.post (if ((1:ah)==1&&(Br (l.map (·.1)) (m.map (·.1)) 1 z.length).length==z.length)=ae then .val (.str z t) else .str ⟨((Br (l.map (·.1)) (m.map (·.1)) 1 z.length).filterMap (z.cps[·]?)).toArray⟩) _ s;unfold tJ at hle q;split
   ·rename_i hh;have:=q t s.toks;rw[ao hh] at this;exact this
   ·rename_i hh;rw[aw hh] at hle;have:=q s.toks (s.toks+1);rw[aw hh] at this;exact⟨hle,this⟩
  ·exact bx e
 ·have he:aE2 a lo hi=aKs a lo hi:=by
   unfold aE2;split
   ·exact aE ⟨_,rfl⟩ hz
   ·rfl
  rw[he] at e;exact aQ1 hK pins s σ H x v vl vu lo hi sl Q I rx hs pl pu ⟨a,d,p,e,k⟩
theorem KJ{lo hi:au Expr}{p2:cn}{fl fh:aa D->Res (au ah)}(hK:KFrag.K=X.K)(he:PE X e (gE fe re))(hl:PO X lo (gO fl))(hh:PO X hi (gO fh)):PE X (.Subscript e (.Slice lo hi ai p2) pos) (gE (QX fe fl fh) ae):=
 PE.imp (S5 (aB0 hK) he hl hh) λσ H Q z0=>by
  obtain⟨ρ,d,E,h,q⟩:=z0;obtain⟨x,h1,h⟩:=bI h;obtain⟨l,h2,h⟩:=bI h;obtain⟨u,h3,h⟩:=bI h;exact⟨ρ,x,E,h1,λv H1 s1 r1 _=>⟨ρ,l,E.same s1,h2,λH2 s2=>⟨ρ,u,E.same (s1.trans s2),h3,λH3 s3=>⟨x,d,r1.same (s2.trans s3),h,q.imp ((s1.trans s2).trans s3) id⟩⟩⟩⟩
theorem aE3{K:bg}(x:Str)(t:dQ)(it:ak):Turn P w K tg (aQ2 x) [it] it (λi h=>h.IsStrIter it (gi x) x t i) where
 mem:=by simp
 obj:=λi h st b hb=>by
  have e:b=it:=by simpa using hb
  subst e;obtain⟨o,e,c,d⟩:=st;exact⟨o,e,λv z=>by rw[d] at z;cases z⟩
 keep:=λi h h' st k=>by
  obtain⟨o,e,r⟩:=st;exact⟨o,k it 0x2 o e,r⟩
 item:=by
  intro Y hP hw hK hc i pins s σ H E I hf st hg;subst hP hw hK;obtain⟨f0,f1,f2,f3,f4,f5⟩:=hf it 0x2;have hx:x.cps[i]?=ab x.cps[i]:=tP hg;have fin:∀(h':aI)(ty:dS),(["enumerate","zip","dict_itemiterator","dict_reverseitemiterator","odict_iterator","itertools.zip_longest","itertools.pairwise"].contains ty=ag)->gi x=ty->h'.IsStrIter it ty x t (i+1)->gl it s.heap h'->
    ∃u,ab (mT ⟨#[x.cps[i]]⟩ s.toks)=ab u/\wpAny (av Y.prog Y.w) Y.A (nr tg (.ref it) u) (λ_ s2=>∃v H',Inv Y pins σ H' s2/\RelV v u/\(aQ2 x).yld i H v H'/\s2.heap.IsStrIter it (gi x) x t (i+1)/\∀b∈[it],H' b=ai) E {s with heap:=h',toks:=s.toks+1}:=by
   intro h' ty hn hty st' sb;have I1:Inv Y pins σ H {s with heap:=h',toks:=s.toks+1}:=I.turned (λb o hb e=>(sb.2 b hb).trans e) f0 f1 f3 f4 f5;obtain⟨o,e,c,d⟩:=id st';exact⟨_,rfl,ZJ e c d hn ⟨.str ⟨#[x.cps[i]]⟩,H,I1,⟨_,rfl⟩,⟨rfl,_,hx,rfl⟩,by rw[hty];exact st',λb hb=>(hf b hb).1⟩⟩
  cases ha:x.cps.all (·<128)
  ·have hty:gi x="str_iterator":=by simp[gi,ha]
   rw[hty] at st;exact wpAny_pyNext_wide_item st hx λh' st' sb=>fin h' _ 0x4 hty st' sb
  ·have hty:gi x="str_ascii_iterator":=by simp[gi,ha]
   rw[hty] at st;exact wpAny_pyNext_ascii_item st hx λh' st' sb=>fin h' _ 0x4 hty st' sb
 done:=by
  intro Y hP hw hK hc i pins s σ H E I hf st hg;subst hP hw hK;obtain⟨f0,f1,f2,f3,f4,f5⟩:=hf it 0x2;have hx:x.cps[i]?=ai:=oj hg;cases ha:x.cps.all (·<128)
  ·have hty:gi x="str_iterator":=by simp[gi,ha]
   rw[hty] at st;exact wpAny_pyNext_wide_end (I.ok.hd hc) st hx λh' eb=>⟨rfl,I.turned (λb o hb e=>eb b o hb e) f0 f1 f3 f4 f5⟩
  ·have hty:gi x="str_ascii_iterator":=by simp[gi,ha]
   rw[hty] at st;exact wpAny_pyNext_ascii_end (I.ok.hd hc) st hx λh' eb=>⟨rfl,I.turned (λb o hb e=>eb b o hb e) f0 f1 f3 f4 f5⟩
 self:=λ_ _ _ _ _ st h=>by
  cases ha:x.cps.all (·<128)
  ·have hty:gi x="str_iterator":=by simp[gi,ha]
   rw[hty] at st;exact wpAny_pyIter_striter_wide st h
  ·have hty:gi x="str_ascii_iterator":=by simp[gi,ha]
   rw[hty] at st;exact wpAny_pyIter_striter_ascii st h
section
variable {tg l a:Expr}
theorem aB1(I1:Inv X pins σ H1 s1)(r:Rep All H1 v d)(ru:RelV v u)(hi:CN d=.ok items)
 (q:∀J,(∀P:ak->Prop,Rep P H1 v d->ItQ X.K P J H1 items)->R J H1):wpAny (av X.prog X.w) X.A (iE u) (PIE X pins σ tg R) X.xe s1:=by
 by_cases hz:∃z,d=.str z
 ·obtain⟨z,rfl⟩:=hz;simp only[CN] at hi;split at hi
  ·cases hi;cases r.inv;obtain⟨t,rfl⟩:=ru;refine wpAny_pyIter_strU ?_;refine⟨s1.heap.objs.size,[s1.heap.objs.size],_,_,H1,rfl,I1.kept λb o e=>bu _ e,aE3 z t _,⟨_,cx _ rfl,rfl,rfl⟩,λb hb=>?_,q _ λP r=>.chs z rfl rfl⟩;have e:b=s1.heap.objs.size:=by simpa using hb
   subst e;exact I1.aD7 (aS _) (I1.hok.fresh (aS _))
  ·exact bx hi
 ·have he:CN d=yE d:=by
   unfold CN;split
   ·exact aE ⟨_,rfl⟩ hz
   ·rfl
  rw[he] at hi;exact UT I1 r ru hi q
theorem dZ(hl:PE X l (gE fl rl)):PI X tg l (gI X.K (bT fl rl)):=by
 rintro pins s σ H R I ⟨ρ,items,k,E,h,q⟩;obtain⟨d,h1,h⟩:=bI h;obtain⟨its,h2,h⟩:=bI h;cases h;refine thn (hl pins s σ H _ I ⟨ρ,d,E,h1,λv H1 s1 r1 n1=>(show(∃d',Rep All H1 v d/\d'=d/\∀J,(∀P:ak->Prop,Rep P H1 v d->ItQ X.K P J H1 items)->R J H1) from ⟨d,r1,rfl,λJ hJ=>q J H1 s1 (hJ _ r1) λhk=>hJ _ ?_⟩)⟩) λu s1 ⟨v,H1,I1,ru,d',r1,e,q1⟩=>aB1 I1 r1 ru h2 q1
 rw[f_] at hk;rcases hk with hk|hk
 ·exact n1 hk
 ·exact r1.b8 hk
theorem yR{ch:aa ak}{a:ak}{o:HO}(I:Inv X pins σ H s)(k:∀b u,b∉ch->s.heap.get? b=ab u->h'.get? b=ab u)(hf:∀b∈ch,YX X pins H b)(hp:s.heap.objs.size<=a)
 (new:jH X.prog X.w (upd H a o) h' a o):Inv X pins σ (upd H a o) {s with heap:=h',toks:=t'}:=by
 have hn:H a=ai:=I.hok.fresh hp;have nch:∀b u,H b=ab u->b∉ch:=λb u e z=>by rw[(hf b z).1] at e;cases e
 have kU:∀b u,H b=ab u->upd H a o b=ab u:=λb u e=>by rw[bG (dO e hn)];exact e
 refine I.step (λb hb=>?_) (λb u _ _ hc e _=>k b u hc e) (λb u _ _ hc e _=>⟨u.slots,k b u hc e⟩) (λb u _ e n=>?_)
  (λb u hc e=>⟨u,k b u hc e⟩) (λb xs e=>kU b _ e) (λb u v e=>kU b _ e) (λb ps e=>⟨#[],by rw[kU b _ e];simp⟩) (λm hm=>?_) (λb u e=>?_) I.bare
 ·obtain⟨_,f1,_,f3,f4,f5⟩:=hf b hb;exact⟨f3,f1,f4,f5⟩
 ·rw[bG (λz=>aE (c5 (bp e) hp) (by rw[z];exact fg _))];exact n
 ·obtain⟨u,es,ep,hu,r⟩:=hm;exact⟨u,es,ep,k _ u (λz=>(hf _ z).2.1 rfl) hu,r⟩
 ·by_cases hb:b=a
  ·subst hb;rw[aM] at e;cases e;exact new
  ·rw[bG hb] at e;refine(I.hok b u e).stay (λc v hc q=>k c v ?_ q) (λc q=>kU c _ q) λc xs q=>kU c _ q
   rcases hc with z|z
   ·rw[z];exact nch b u e
   ·exact nch c _ z
end
end
end Mi
namespace Mi
open PySem L2
theorem aMo(b:aq):asB (.bl b)=.ok b:=rfl
theorem cL:lim=1000000:=by unfold lim;exact Eq.refl _
theorem KN(h:ρ.length=n):FJ n ρ=ρ:=by
 subst h;apply List.ext_getElem
 ·simp[FJ]
 ·intro i h1 h2;simp[FJ,h2]
theorem eZ(h:ds.length=n):bY n f ds=f ds:=by
 unfold bY;rw[ao (by simp[h])]
theorem aJ(h1:a ρ=.ok x)(h2:b ρ=.ok y)(h3:f x y=.ok z):b2 f a b ρ=.ok z:=by
 unfold b2;rw[h1,Res.aY,h2,Res.aY,h3]
theorem cD(h:f ρ=.ok d):bZ ag i f ae ρ=.ok (.nx (ρ.set i d)):=by
 unfold bZ;rw[h,Res.aY];rfl
theorem eN(h:f ρ=.ok d)(hp:d.pure=ae):bZ ag i f ag ρ=.ok (.nx (ρ.set i d)):=by
 unfold bZ;rw[h,Res.aY];simp only[hp,xf,iX,gN,eB]
theorem fJ(h:f ρ=.ok d)(hp:inner d=ae):bZ ae i f ae ρ=.ok (.nx (ρ.set i d)):=by
 unfold bZ;rw[h,Res.aY];simp only[hp,ki,eB]
theorem aO(h1:f ρ=.ok (.nx ρ'))(h2:g ρ'=r):bK f g ρ=r:=by
 unfold bK;rw[h1,Res.aY];exact h2
theorem aMp(h1:c ρ=.ok k)(h2:(if k then f ρ else g ρ)=r):sIf c f g ρ=r:=by
 unfold sIf;rw[h1,Res.aY];exact h2
theorem Y0(h1:c ρ=.ok ae)(h2:f ρ=r):sIf c f g ρ=r:=aMp h1 (by rw[ao rfl];exact h2)
theorem nQ(h1:c ρ=.ok ag)(h2:g ρ=r):sIf c f g ρ=r:=aMp h1 (by rw[aw 0x2];exact h2)
theorem dR(h1:f ρ=.ok (.bl k)):bTB f ρ=.ok k:=by
 unfold bTB;rw[h1,Res.aY];rfl
theorem aB2(h1:a ρ=.ok ae)(h2:b ρ=r):YZ a b ρ=r:=by
 unfold YZ;rw[h1,Res.aY,ao rfl,h2]
theorem aIk(h1:a ρ=.ok ag):YZ a b ρ=.ok ag:=by
 unfold YZ;rw[h1,Res.aY,aw 0x2];rfl
theorem aD(h1:a ρ=.ok x)(h2:b ρ=.ok xs):aA a b ρ=.ok (x::xs):=by
 unfold aA;rw[h1,Res.aY,h2,Res.aY];rfl
theorem aU(h1:a ρ=.ok xs)(h2:f xs=.ok d):aK f a ρ=.ok d:=by
 unfold aK;rw[h1,Res.aY,h2]
theorem bL(h:a ρ=.ok xs)(hl:xs.length<=lim):bN a ρ=.ok (.tup xs):=by
 unfold bN;rw[h,Res.aY,ao (bi hl)];rfl
theorem lX(h:f ρ=.ok d)(hp:(k||d.pure)=ae):gR f k ρ=.ok (.rt d):=by
 unfold gR;rw[h,Res.aY,ao hp]
theorem nD(h1:it ρ=.ok (xs,ae))(h2:tU t body xs ρ=r):tV it t body ρ=r:=by
 unfold tV;rw[h1,Res.aY];exact h2
theorem aB3(h1:h_ i ρ=.ok d)(h2:yE d=.ok xs)(h3:tU t body xs ρ=r):QC i t body ρ=r:=by
 unfold QC;rw[h1,Res.aY,h2,Res.aY];exact h3
theorem wC(h:f ρ=.ok [.int n])(h1:0<=n)(h2:n<=1000000):fX f lO ρ=.ok ((bw n.toNat).map λ(k:af)=>D.int (0+(k:ah)),ae):=by
 unfold fX;rw[h,Res.aY];have:j4 n=ae:=by
  simp only[j4,aT,dL];lia
 simp only[lO,this,eB]
theorem tM(h1:g ρ=.ok d)(h2:f ρ=.ok k)(h3:ρ.getD i .uD=.dct kvs)(h4:kvs.length<lim)(h5:O4 kvs k=ae)(h6:d.pure=ae):zN i f g ρ=.ok (.nx (ρ.set i (.dct (putD kvs k d)))):=by
 unfold zN;rw[h1,Res.aY,h2,Res.aY,h3];simp only[bi h4,h5,h6,ki,eB]
theorem n_(h1:f ρ=.ok d)(h3:ρ.getD i .uD=.lst xs)(h4:xs.length<lim)(h5:d.pure=ae):v_ i f ρ=.ok (.nx (ρ.set i (.lst (xs++[d])))):=by
 unfold v_;rw[h1,Res.aY,h3];simp only[bi h4,h5,ki,eB]
theorem cQ(h1:t x ρ=.ok ρ1)(h2:body ρ1=.ok (.nx ρ2))(h3:tU t body xs ρ2=r):tU t body (x::xs) ρ=r:=by
 rw[tU,h1,Res.aY,h2,Res.aY];exact h3
theorem G3(L:aa D)(i:ah)(h0:0<=i)(h1:i<L.length):∃(h:i.toNat<L.length),getD (.lst L) (.int i)=.ok L[i.toNat]:=by
 have hlt:i.toNat<L.length:=by lia
 refine⟨hlt,?_⟩;show Res.ofOpt ((ixD L.length i).bind λj=>L[j]?)=_;unfold ixD;rw[ao h0,ao h1];simp only[ua];rw[ef hlt];rfl
theorem jG(L:aa D):dG [.lst L]=.ok (.int L.length):=rfl
theorem gD(h1:it ρ=.ok (xs,kk))(h2:xs.length<=lim)(h3:iI (jM n t c f k ρ) [] xs=.ok ys):eQ n it t c f k ρ=.ok (.lst ys):=by
 unfold eQ;rw[h1,Res.aY];simp only[bi h2,eB];rw[h3];rfl
theorem uQ(hρ:ρ.length=n)(h1:c (ρ++[x])=.ok b)(h2:b=ae->f (ρ++[x])=.ok y/\(k||y.pure)=ae):jM n iV c f k ρ acc x=.ok (if b then acc++[y] else acc):=by
 unfold jM;show(do let ok <- c (FJ n ρ++[x]);_)=_;rw[KN hρ,h1,Res.aY];cases b with
 |true=>
  obtain⟨e1,e2⟩:=h2 rfl;rw[ao rfl,e1,Res.aY,ao e2,ao rfl];rfl
 |false=>
  rw[aw 0x2,aw 0x2];rfl
theorem e_(g:aa D->D->Res (aa D))(d:α->D)(p:α->aq)(y:α->D)(h:∀acc a,g acc (d a)=.ok (if p a then acc++[y a] else acc)):∀(xs:aa α)(acc:aa D),iI g acc (xs.map d)=.ok (acc++(xs.filter p).map y)
 |[],acc=>by simp[iI]
 |x::xs,acc=>by
  rw[bh,iI,h];show iI g _ _=_;rw[e_ g d p y h xs];by_cases hp:p x
  ·simp[hp]
  ·simp[hp]
theorem cU(a b:ah):bA .add (.int a) (.int b)=.ok (.int (a+b)):=rfl
theorem aG0(a b:ah):bA .sub (.int a) (.int b)=.ok (.int (a-b)):=rfl
theorem aG1(a b:ah)(h:lN b=ae):bA .mul (.int a) (.int b)=.ok (.int (a*b)):=by
 show(if lN a||lN b then Res.ok (D.int (a*b)) else .bad)=_;rw[h,ye,ao rfl]
theorem oA(a b:ah)(h:lN a=ae):bA .mul (.int a) (.int b)=.ok (.int (a*b)):=by
 show(if lN a||lN b then Res.ok (D.int (a*b)) else .bad)=_;rw[h,AG,ao rfl]
theorem gF(a b:ah)(h1:0<b)(h2:b<1073741824):bA .fdiv (.int a) (.int b)=.ok (.int (a / b)):=by
 show(if decide (0<b)&&decide (b<1073741824) then Res.ok (D.int (a / b)) else .bad)=_;rw[bi h1,bi h2,ki,ao rfl]
theorem dM(a b:ah)(h1:0<b):bA .mod (.int a) (.int b)=.ok (.int (a % b)):=by
 show(if decide (0<b) then Res.ok (D.int (a % b)) else .bad)=_;rw[bi h1,ao rfl]
theorem QZ(a b:Str)(h:a.length+b.length<=lim):bA .add (.str a) (.str b)=.ok (.str (a++b)):=by
 show(if decide (a.length+b.length<=lim) then Res.ok (D.str (a++b)) else .bad)=_;rw[bi h,ao rfl]
theorem str_len(a b:Str):(a++b).length=a.length+b.length:=by
 show(a.cps++b.cps).size=_;rw[Array.size_append];rfl
theorem yS(h1:a.gW a_=ae)(h2:b.gW a_=ae)(h:jJ o a b=ab k):b_ (.ord o) a b=.ok (.bl k):=by
 show(if a.gW a_&&b.gW a_ then (match jJ o a b with|some k=>Res.ok (D.bl k)|none=>.bad) else .bad)=_;rw[h1,h2,h,ki,ao rfl]
theorem oE(a b:aa D)(h:a.length+b.length<=lim)(ha:D.aW a=ae)(hb:D.aW b=ae):bA .add (.lst a) (.lst b)=.ok (.lst (a++b)):=by
 show(if decide (a.length+b.length<=lim)&&D.aW a&&D.aW b then Res.ok (D.lst (a++b)) else .bad)=_;rw[bi h,ha,hb,ki,ki,ao rfl]
open PySem.W PySem.SeqAt PySem.Spec PyProof.Rows
variable [KFrag]
def nJ(a:FA):FE:=λρ=>do let xs <- a ρ;if decide (xs.length<=lim)&&D.aW xs then pure (.lst xs) else .bad
theorem oF{X:Cx}{pos:cn}{es:aa Expr}{f:FA}{r:aq}(h:PA X es (gA f r)):PE X (.List es pos) (gE (nJ f) ae):=PE.imp (ZX h) λσ H Q z0=>by
  obtain⟨ρ,d,E,h,q⟩:=z0;obtain⟨xs,h1,h⟩:=bI h;split at h
  ·rename_i hl;rw[aT] at hl;cases h;refine⟨ρ,xs,E,h1,λvs H1 s1 r1 n1=>⟨?_,λp hp=>?_⟩⟩
   ·rw[r1.length];exact c9 (dh hl.1) (by rw[c8];decide)
   ·have sp:cH H1 (upd H1 p (.lst vs)):=cH.upd hp;exact q _ _ (s1.trans sp) (.lst aM trivial (r1.same sp)) λ_=>.lst aM (s1.free hp) ((r1.b8 hl.2).same sp)
  ·exact bx h
end Mi
namespace Mi
open PySem L2 PySem.SeqAt PySem.Spec PyProof.Rows
section
variable [KFrag]
def DV(H:Hp)(a:ak)(kvs:aa (Key×V)):Prop:=H a=ab (.dK kvs)\/(kvs=[]/\H a=ab (.dT []))
theorem aG2:∀{kvs:aa (κ×V)}{vs:aa (κ×aj)}{i:af}{p:κ×V},KV kvs vs->kvs[i]?=ab p->∃u,vs[i]?=ab (p.1,u)/\RelV p.2 u
 |_,_,_,_,.nil,h=>by simp at h
 |_,_,0,_,.cons r _,h=>by
  simp at h;subst h;exact⟨_,by simp[r.1],r.2⟩
 |_,_,i+1,_,.cons _ t,h=>by
  obtain⟨u,h1,h2⟩:=aG2 t (by simpa using h);exact⟨u,by simpa using h1,h2⟩
section
variable {a:ak}
theorem aMq(hu:DV H a kvs):L2.Mut (H a):=by
 rcases hu with h|⟨_,h⟩<;>rw[h]<;>trivial
theorem aB4(I:Inv X pins σ H s)(hu:DV H a kvs):kvs.length<=ba/\(a==gj)=ag/\∃vs,KV kvs vs/\s.heap.DictOf (cM X.prog X.w) a vs:=by
 rcases hu with h|⟨rfl,h⟩
 ·exact JZ I.hok h
 ·exact JZ (lV I h).hok aM
theorem aMr(I:Inv X pins σ H s)(hu:DV H a kvs)(ho:s.heap.get? a=ab o):∃u,H a=ab u/\∀(H':Hp)(h:aI),h.get? a=ab o->jH X.prog X.w H' h a u:=by
 rcases hu with h|⟨_,h⟩
 ·obtain⟨z,hs,vs,rel,o',es,ep,ho',c⟩:=I.hok a _ h;rw[ho] at ho';cases ho';exact⟨_,h,λH' h' e=>⟨z,hs,vs,rel,o,es,ep,e,c⟩⟩
 ·obtain⟨z,hs,xs,rel,o',es,ep,ho',c⟩:=I.hok a _ h;rw[ho] at ho';cases ho';cases rel;exact⟨_,h,λH' h' e=>⟨z,hs,[],.nil,o,es,ep,e,c⟩⟩
end
theorem U4(ea:∀ob,H a=ab ob->TJ ob=ae)(b:ak)(o:HO)(e:H b=ab o)(h:TJ o=ag):upd H a u b=ab o:=by
 rw[bG λz=>by rw[z] at e;rw[ea _ e] at h;cases h];exact e
theorem G4{P:ak->Prop}(ea:∀ob,H a=ab ob->TJ ob=ae)(q:Rep P H v d)(h:d.pure=ae):Rep P (upd H a u) v d:=q.vG (U4 ea) h
theorem KQ{P:ak->Prop}(ea:∀ob,H a=ab ob->TJ ob=ae)(q:b7 P H v d)(h:D.aW d=ae):b7 P (upd H a u) v d:=q.vG (U4 ea) h
theorem vK:∀{acc:aa D}{y:D},D.aW acc=ae->y.pure=ae->D.aW (acc++[y])=ae
 |[],y,_,h=>by show(y.pure&&ae)=ae;rw[h];rfl
 |x::acc,y,h,hy=>by
  rw[D.aW,aT] at h;show(x.pure&&D.aW (acc++[y]))=ae;rw[h.1,vK h.2 hy];rfl
theorem KR{P:ak->Prop}{H:Hp}:∀{kvs:aa (Key×V)}{ds:aa (D×D)},iJ P H kvs ds->b7 P H (kvs.map (·.2)) (ds.map (·.2))
 |_,_,.nil=>.nil
 |_,_,.cons r t=>.cons r (KR t)
structure aQ5(K:bg)(x qual:Str)(st:br)(f:ak)(fd:eu)(T:ak)(its:ay aj):Prop where
 ex:∃(oc:aj)(od:au ak)(kV doc pm:aj)(an:au ak)(cdv ct:aj)(osl:ay (au aj)),
  fd=kM x qual (iG st) (eX st) (aN st) (.ref T) kV doc pm an cdv ct/\K.lookup f=ab ⟨oc,od,.func fd,osl⟩/\sg K cdv qual=ae
 kp:jd K (.ref f)=ae
 df:∃(tc:aj)(td:au ak)(tn:af)(tl:ay (au aj)),K.lookup T=ab ⟨tc,td,.seq its tn,tl⟩
section
variable {P:bS} {w:bm} {K:bg} {mg:Str->au aj} {base:aI} {x qual:Str} {st:br} {fad T:ak} {its:ay aj} {fd:eu} {N ps:aa Str} {k:af} {f:FS}
theorem aMs(F:aQ5 K x qual st fad fd T its)(S:cC N ps (aN st))(own:af->aq)(hown:∀i,i<ps.length->own i=ag)
 (hbody:∀(cdv:aj) (A:b5) (outer:aa di) (s:am) (H:Hp) (E:XK),nU k (A.deeper (gp qual (aN st) s.heap.objs.size fad cdv))->PSs (Z0 CX0 P w K mg base N qual (aN st) fad cdv A outer s H E).nox (eX st) (tS own f))(hx:own rtX=ag:=by rfl):v6 P w K mg base CX0 (k+1) fad fd ps (spD (fnS ps.length N.length f) ps.length):=by
 obtain⟨oc,od,kV,doc,pm,an,cdv,ct,osl,rfl,lk,hcd⟩:=F.ex;exact aLq lk hcd S (λvs H Q E h=>aAt h) λA outer s H vs Q E hr h=>⟨_,(hbody cdv A outer s H E hr).nox,aAy hx hown h⟩
end
structure aQ6(P:bS)(w:bm)(K:bg)(mg:Str->au aj)(base:aI)(k:af)(x kw:Str)(n:af)(df:D)(f:aa D->Res D):Prop where
 ex:∃(fad:ak)(fd:eu)(ps:aa Str)(u:aj)(v:V),v6 P w K mg base CX0 k fad fd ps (spD f (n+1))/\mg x=ab (.ref fad)/\jd K (.ref fad)=ae/\Binds K fd ps []/\Binds K fd ps [u]/\RelV v u/\(∀H:Hp,Rep All H v df)/\
  ∀(s:am)(us:aa aj)(y:aj),K.In s.heap->us.length=n->kK s fd ⟨us,[(kw,y)]⟩ (ps.zip (us++[y]))
section
variable {X:Cx} {e:Expr} {es:aa Expr} {pos p:cn} {fs:FA} {rr:aq} {x kw:Str} {k k' n:af} {df:D} {f:aa D->Res D}
theorem aB5(C:aQ6 X.prog X.w X.K X.mg X.base k x kw n df f)(hr:nU k' X.A)(hkk:k<=k')(hg:Gl X x)(ha:PA X (e::es) (gA fs rr))(hdb:nDb x:=by decide)(he:zSE X e es:=by rfl)(hpl:zSP X pos es:=by rfl) :
  PE X (.Call (.Name x p) (e::es) [] pos) (gE (aK (λds=>bY (n+1) f (ds++[df])) fs) ae):=by
 obtain⟨fad,fd,ps,u,v,F,hm,hk,hb,hb1,ru,rv,_⟩:=C.ex;refine PE.imp (ZZ F (hr.mono hkk) hg hm hk hb1 (.cons ru .nil) aDj ha hdb he hpl) λσ H Q h0=>?_
 obtain⟨ρ,d,E,h,q⟩:=h0;obtain⟨ds,h1,h⟩:=bI h;unfold bY at h;split at h
 ·rename_i hl;exact⟨ρ,ds,E,h1,λvs H1 s1 r1 _=>⟨ds++[df],d,dh hl,r1.append (.cons (rv H1) .nil),h,q.imp s1 id⟩⟩
 ·exact bx h
end
end
def KY:D->D->Res D
 |.tup a,.tup b=>if decide (a.length+b.length<=lim) then .ok (.tup (a++b)) else .bad
 |_,_=>.bad
def aG3:D->Res D
 |.lst xs=>if D.aW xs then .ok (.lst xs.reverse) else .bad
 |_=>.bad
def wF:aa D->aa D->aa (D×D)->aa (D×D)
 |k::ks,v::vs,m=>wF ks vs (putD m k v)
 |_,_,m=>m
def yU:aa D->Res D
 |[.tup xs,.tup ys]=>if decide (xs.length<=1000)&&decide (ys.length=xs.length)&&xs.all mL&&D.aW ys then .ok (.dct (wF xs ys [])) else .bad
 |_=>.bad
noncomputable def aE4(c:FT)(body:FS):af->aa D->Res Fl
 |0,_=>.bad
 |n+1,ρ=>do
  let k <- c ρ
  if k then (do
   let r <- body ρ
   match r with
   |.nx ρ'=>aE4 c body n ρ'
   |.ct ρ'=>aE4 c body n ρ'
   |.bk ρ'=>.ok (.nx ρ')
   |.rt d=>.ok (.rt d))
  else .ok (.nx ρ)
def aQ7(c:FT)(body:FS):FS:=λρ=>aE4 c body 1000 ρ
noncomputable def aE5(i j:af)(f:FE):FS:=λρ=>do
 let k <- f ρ
 match ρ.getD i .uD,k with
 |.lst xs,.int k=>if decide (0<=k)&&decide (k<=1000000) then (match xs[k.toNat]? with|some x=>.ok (.nx ((ρ.set i (.lst (xs.eraseIdx k.toNat))).set j x))|none=>.bad) else .bad
 |_,_=>.bad
def aKw:aa D->Res D
 |[.dct kvs]=>if kvs.all (λp=>!isTup p.1) then .ok (.int kvs.length) else .bad
 |ds=>dG ds
noncomputable def fzD(i:af)(kvs:aa (D×D))(ρ:aa D):aa D:=(ρ.map λd=>if d.pure then d else .uD).set i (.fdc kvs)
def U5(n i:af)(t:D->Res (aa D))(c:FT)(f:FE):FE:=λρ=>do
 let d <- h_ i ρ
 match d with
 |.dct kvs=>if decide (kvs.length<=lim)&&(kvs.all (λp=>!isTup p.1)&&D.aW (kvs.map (·.2))) then (do
   let ys <- iI (jM n t c f ag (fzD i kvs ρ)) [] (sZ kvs)
   pure (.lst ys)) else .bad
 |_=>.bad
section
variable [KFrag]
section
theorem yV:OpR X (fq .Add) (r2 KY ag):=by
 intro pins s σ H x y v u Q I rx ry h;obtain⟨a,b,d,p,q,e,k⟩:=h;unfold KY at e;split at e
 ·rename_i da db;split at e
  ·rename_i hl;cases e;obtain⟨l1,xs1,rfl,e1,r1⟩:=p.inv;obtain⟨l2,xs2,rfl,e2,r2⟩:=q.inv;cases rx;cases ry;have hz:xs1.length+xs2.length<=ba:=by rw[r1.length,r2.length];exact o6 hl
   obtain⟨its,w1,p1,_⟩:=I.tuple (.of e1);obtain⟨its2,w2,p2,_⟩:=I.tuple (.of e2);obtain⟨⟨cls,dd,data,sl⟩,ho,hc,n,hd⟩:=id p1;obtain⟨⟨cls2,dd2,data2,sl2⟩,ho2,hc2,n2,hd2⟩:=id p2;simp only at hc hd hc2 hd2;by_cases hv:its=[]
   ·have:xs1=[]:=w1.xW.mp hv;subst this;cases r1;refine wb ⟨_,ho,hc⟩ ⟨_,ho2,hc2⟩ wc we wf wg (wj _ _)
     (tuple_addW0 l1 l2 its.toArray its2.toArray n n2 dd dd2 sl sl2 (by simp[hv])) ⟨by subst hc hd;exact ho,by subst hc2 hd2;exact ho2,.ref l2,H,I,rfl,?_⟩
    exact k.self (.tup e2 r2) (λz=>by cases z)
   ·refine aHm pins s σ H (.ref l1) (.ref l2) _ _ Q I rfl rfl ⟨l1,l2,xs1,xs2,rfl,rfl,.of e1,.of e2,λz=>hv (w1.xW.mpr z),hz,λz=>?_,λz p hp=>?_⟩
    ·subst z;cases r2;rw[d6] at k;exact k.self (.tup e1 r1) (λz=>by cases z)
    ·have sp:cH H (upd H p (.tup (xs1++xs2))):=cH.upd hp;exact k _ _ sp (.tup aM ((r1.append r2).same sp)) λz=>by cases z
  ·exact bx e
 ·exact bx e
theorem aIl(hK:KFrag.K=X.K):lL X (.builtin "len") (rs aKw ae):=by
 rintro pins s σ H xs us Q I vr ⟨ds,d,r,e,k⟩;unfold aKw at e;split at e
 ·rename_i ds;split at e
  ·rename_i hb;cases e;obtain⟨vv,uu,rfl,rfl,r,v⟩:=kZ r vr;obtain⟨a,kvs,rfl,hu,rl⟩:∃a kvs,vv=.ref a/\DV H a kvs/\kvs.length=ds.length:=by
    cases r with
    |dK e _ rk _=>exact⟨_,_,rfl,.inl e,by have:=(KR rk).length;simpa using this⟩
    |dT e _ rt _=>
     cases rt with
     |nil=>exact⟨_,[],rfl,.inr ⟨rfl,e⟩,rfl⟩
     |cons r t=>simp[isTup] at hb
   cases v;obtain⟨z,hs,vs,rel,dd⟩:=aB4 I hu;refine Bs hs dd (by rw[<-rel.length];rw[c8] at z;lia) ?_;rw[<-rel.length,rl];exact⟨.int _,H,I.tok _,⟨_,rfl⟩,k.int⟩
  ·exact bx e
 ·exact cN hK pins s σ H xs us Q I vr ⟨_,d,r,e,k⟩
theorem aMt(hp:nq (av X.prog X.w) X.A X.env X.xe)(hc:PT X c (gT gc))(hb:PSs X body (tS own fb)):PS X (.While c body [] pos) (tS own (aQ7 gc fb)):=
 PS.imp (aD6 hp hc hb) λD σ H z0=>by
 obtain⟨ρ,fl,E,h,q⟩:=z0;refine⟨λm σ' H'=>∃ρ' ,ES own H' σ' ρ'/\aE4 gc fb m ρ'=.ok fl/\kS own D σ' H' fl,⟨1000,ρ,E,h,q⟩,?_⟩;rintro m σ H ⟨ρ,E,h,q⟩;cases m with
 |zero=>exact bx h
 |succ m=>
  rw[aE4] at h;obtain⟨k,h1,h2⟩:=bI h;refine⟨ρ,k,E.er,h1,λH1 s=>?_⟩;cases k with
  |true=>
   rw[ao rfl];rw[ao rfl] at h2;obtain⟨r,h3,h4⟩:=bI h2;refine⟨λσ' H'=>∃ρ',ES own H' σ' ρ'/\aE4 gc fb m ρ'=.ok fl/\kS own D σ' H' fl,λσ' H' w=>⟨m,ip m,w⟩,ρ,r,E.same s,h3,?_⟩;have q1:=q.step (.same s);cases r with
   |nx ρ'=>exact λσ' H' ku E'=>⟨ρ',E',h4,q1.step ku⟩
   |ct ρ'=>exact λσ' H' ku E'=>⟨ρ',E',h4,q1.step ku⟩
   |bk ρ'=>cases h4;exact λσ' H' ku E'=>q1 σ' H' ku E'
   |rt d=>cases h4;exact q1
  |false=>
   rw[aw 0x2];rw[aw 0x2] at h2;cases h2;exact(q.step (.same s)) σ H1 (λa o e n=>⟨e,n⟩) (E.same s)
end
section
theorem aIm(ho:own i=ae)(hN:X.N[i]?=ab x)(hv:Vis X.env.scope x)(hnd:X.N.Nodup)(hj:X.N[j]?=ab y)(hy:Loc X.env.scope y)(hoj:own j=ag)(he:PE X e (gE fe re))(hd:nDb x:=by decide)(hcd:nCd x:=by decide)
 (hbase:gL (.Name x p1) "pop" X.env (bf (.Name x p1) X.env)=bf (.Name x p1) X.env:=by rfl)
 (hs1:zSE X e []:=by rfl)
 (hfew:zFw X cpos [e]:=by rfl)
 (hline:(apos.endLine==cpos.line)=ae:=by rfl)
 (hs:d5 (.Call (.Attribute (.Name x p1) "pop" apos) [e] [] cpos) (ab (.Name y py)) pos.line X.env=pure ag:=by rfl)(hf:zFn X y:=by first|exact .inl rfl|exact .inr rfl|assumption) :
  PS X (.Assign [.Name y py] (.Call (.Attribute (.Name x p1) "pop" apos) [e] [] cpos) pos) (tS own (aE5 i j fe)):=
 PS.imp (BJ hnd hj hy (W4 la sA Bu aDe (jD hN hv hd hcd) (fV he lM hs1) hbase hfew hline hs1 rfl) hs hf) λD' σ H z0=>by
 obtain⟨ρ,fl,E,h,q⟩:=z0;obtain⟨d,h1,h2⟩:=bI h;split at h2
 ·rename_i xs k hx;split at h2
  ·rename_i hk;rw[aT,dL,dL] at hk;split at h2
   ·rename_i dx hdx;cases h2;obtain⟨a,o,hσ,r,hin,ha,hm⟩:=E.ownAt ho (by rw[hx];intro z;cases z);rw[hx] at r hin;obtain⟨vs,hl,rr⟩:=CJ r;obtain⟨v,hvx,rv⟩:=rr.get hdx;refine⟨_,hσ,.inl ⟨rfl,vs,.of hl⟩,ρ,_,E.er,h1,λu H' s ru _=>?_⟩;cases ru.inv;have hlt:k.toNat<vs.length:=(c_.mp hvx).1;refine⟨a,vs,k,k.toNat,v,rfl,rfl,s _ _ hl,by lia,by lia,?_,hvx,?_⟩
    ·unfold so;have h3:¬k<0:=by lia
     have h4:k<vs.length:=by lia
     first
      | (simp only[h3,gN,hk.1,h4,and_self,eB];done)
      | (simp[h3,hk.1,h4];done)
      | (simp[h3,hk.1,h4,hlt])
    ·have E':=E.same s;have hl':=s _ _ hl;have hin':D.aW xs=ae:=hin;have pall:∀y∈xs,y.pure=ae:=λy hy=>j7.mp hin' y hy
     have pdx:dx.pure=ae:=pall dx (nE hdx);have pe:D.aW (xs.eraseIdx k.toNat)=ae:=j7.mpr λy hy=>pall y (List.mem_of_mem_eraseIdx hy)
     have er:∀{vs:aa V}{ds:aa D}(n:af),b7 All H' vs ds->b7 All H' (vs.eraseIdx n) (ds.eraseIdx n):=by
      intro vs ds n r;induction n generalizing vs ds with
      |zero=>cases r with
       |nil=>exact .nil
       |cons _ t=>exact t
      |succ n ih=>cases r with
       |nil=>exact .nil
       |cons r t=>exact .cons r (ih t)
     obtain⟨E2,k2⟩:=E'.mut ho hσ rfl (.lst aM trivial ((er k.toNat (rr.same s)).upd pe hl' rfl)) pe;have r1:=(b7.cons (rv.same s) .nil).upd (o:=.lst (vs.eraseIdx k.toNat)) (by rw[D.aW,pdx];rfl) hl' rfl;cases r1 with
     |cons r1 _=>
      have E3:=E2.set hoj (r1.b8 pdx);exact q _ _ (((KU.same s).trans k2).trans λb ob eb nb=>⟨eb,by rw[lH hoj];exact nb⟩) E3
   ·exact bx h2
  ·exact bx h2
 ·exact bx h2
theorem G5:∀l:aa α,(∀a∈l,f a=g a)->l.filterMap f=l.filterMap g
 |[],_=>rfl
 |a::l,h=>by rw[nh,nh,h a (bn ..),G5 l λb hb=>h b (bz _ hb)]
theorem U6:∀its:aa aj,(bw its.length).filterMap (λk=>its[its.length-1-k]?)=its.reverse
 |[]=>rfl
 |a::r=>by
  rw[bc,ol,List.filterMap_append,iO];have e1:(bw r.length).filterMap (λk=>(a::r)[r.length+1-1-k]?)=(bw r.length).filterMap (λk=>r[r.length-1-k]?):=by
   apply G5;intro k hk;have hk:=fN.mp hk;have:r.length+1-1-k=(r.length-1-k)+1:=by lia
   rw[this,Bv]
  rw[e1,U6 r]
  congr 1
  simp
theorem G6(its:aa aj):su its.toArray ai ai (ab (-1))=its.reverse.toArray:=by
 have hr:sliceRange ((its.length:ah)-1) (-1) (-1)=(bw its.length).map λk=>its.length-1-k:=picked_rev its.length
 have hb:ka ai ai (ab (-1)) its.toArray.size=(((its.length:ah)-1),-1,-1):=rfl;unfold su;rw[hb];show((sliceRange ((its.length:ah)-1) (-1) (-1)).filterMap (its.toArray[·]?)).toArray=_;rw[hr,Ap,<-U6 its];exact cz A0 (G5 _ λk _=>by simp)
theorem aMu(he:PE X e (gE fe re)):PE X (.Subscript e (.Slice ai ai (ab (.UnaryOp .USub (.Constant (.int 1) j p1) p3)) p2) pos) (gE (b1 aG3 fe) ae):=by
 rintro pins s σ H Q I ⟨ρ,d,E,h,q⟩;obtain⟨x,h1,h2⟩:=bI h;refine wz (thn (he pins s σ H (λv H1=>cH H H1/\Rep All H1 v x) I ⟨ρ,x,E,h1,λv H1 s1 r1 _=>⟨s1,r1⟩⟩) λv s1 ⟨xv,H1,I1,r1,sm,rx⟩=>?_);refine Av ?_;rw[wy];refine az (az ?_);refine thn (Z4 (aI6 aAp aF) pins s1 σ H1 (λst H2=>st=ab (-1)/\cH H1 H2) I1 ⟨ρ,.int (-1),E.same sm,rfl,λv H2 s2 r2 _=>by cases r2.inv;exact⟨-1,rfl,rfl,s2⟩⟩) λvs s2 ⟨st,H2,I2,ps,est,sm2⟩=>?_
 subst est;have I4:Inv X pins σ H2 {s2 with heap:=s2.heap.push {cls:=.type "slice",data:=.fields #[.none,.none,vs]}}:=I2.kept λb ob q=>bu _ q
 unfold aG3 at h2;split at h2
 ·rename_i ds;split at h2
  ·rename_i hp;cases h2;obtain⟨l,xs,rfl,hl,rr⟩:=(rx.same sm2).mU;cases r1;obtain⟨its,r,ht,hz⟩:=I4.list hl;have hlen:=r.length;refine wE ht.isList.typeIs wS.lookup ?_ 0x5;refine AA ht.isList (Aw ..) .none .none ps 0x2 ?_ (by rw[bX]<;>lia);rw[G6];refine⟨.ref _,_,I4.laid (o:=.lst xs.reverse) (λb ob q=>bu _ q) (aS _) ⟨by rw[mz];exact hz,_,0,r.reverse,cx _ rfl⟩,rfl,?_⟩;have hfr:H2 (s2.heap.push {cls:=.type "slice",data:=.fields #[.none,.none,vs]}).objs.size=ai:=I4.hok.fresh (aS _);have sp:=cH.upd (o:=.lst xs.reverse) hfr;have rev:∀{P:ak->Prop}{vs:aa V}{ds:aa D},b7 P H2 vs ds->b7 P H2 vs.reverse ds.reverse:=by
    intro P vs ds r;induction vs generalizing ds with
    |nil=>cases r;exact .nil
    |cons v vs ih=>cases r with
     |cons r t=>
      rw[iO,iO];exact(ih t).snoc r
   refine q _ _ ((sm.trans sm2).trans sp) (.lst aM trivial ((rev rr).same sp)) λ_=>.lst aM ?_ ((rev (rr.b8 hp)).same sp)
   exact(sm.trans sm2).free hfr
  ·exact bx h2
 ·exact bx h2
end
def Itk(a:ak)(o:bd)(u:HO)(kvs:aa (Key×V)):It where
 go:=λi H=>H a=ab (.frz o u)/\∃p,kvs[i]?=ab p
 yld:=λi H x H'=>H'=H/\∃p,kvs[i]?=ab p/\x=kV p.1
 stop:=λi H=>H a=ab (.frz o u)/\kvs.length<=i
theorem aMv(h:(cM P w).is k v=ae):RelV (kV k) v:=by
 have h:O9 k v=ae:=h;rcases dU h with ⟨i,t,rfl,rfl⟩|⟨x,t,rfl,rfl⟩
 ·exact⟨t,rfl⟩
 ·exact⟨t,rfl⟩
theorem aB6{K:bg}{o:bd}{u:HO}{kvs:aa (Key×V)}{vs:aa (Key×aj)}{ep:af}(hd:∀h:aI,h.get? a=ab o->h.DictAt (cM P w) a vs ep)(rel:KV kvs vs) :
  Turn P w K tg (Itk a o u kvs) [it] it (λi h=>h.IsKeyIter it a i vs.length ep) where
 mem:=by simp
 obj:=λi h st b hb=>by
  have e:b=it:=by simpa using hb
  subst e;obtain⟨o,e,c,d⟩:=st;exact⟨o,e,λv z=>by rw[d] at z;cases z⟩
 keep:=λi h h' st k=>st.at λo e=>k it 0x2 o e
 item:=by
  intro X hP hw hK hc i pins s σ H E I hf st hg;subst hP hw hK;obtain⟨ea,⟨k,x⟩,hx⟩:=hg;obtain⟨px,_⟩:=I.hok a _ ea;obtain⟨v,hv,rv⟩:=aG2 rel hx;obtain⟨f0,f1,f2,f3,f4,f5⟩:=hf it 0x2;refine wpAny_pyNext_dict_item st (hd _ px) hv λkey h' hk st' sb=>?_
  have I1:Inv X pins σ H {s with heap:=h'}:=I.turned (λb o hb e=>(sb.2 b hb).trans e) f0 f1 f3 f4 f5;obtain⟨o',e,c,d⟩:=id st';exact⟨key,rfl,ZJ e c d 0x4 ⟨kV k,H,I1,aMv hk,⟨rfl,_,hx,rfl⟩,st',λb hb=>(hf b hb).1⟩⟩
 done:=by
  intro X hP hw hK hc i pins s σ H E I hf st hg;subst hP hw hK;obtain⟨ea,hx⟩:=hg;obtain⟨px,_⟩:=I.hok a _ ea;obtain⟨f0,f1,f2,f3,f4,f5⟩:=hf it 0x2;have hl:kvs.length=vs.length:=ja rel;exact wpAny_pyNext_dict_end (I.ok.hd hc) st (hd _ px) (List.getElem?_eq_none_iff.mpr 0x1) λh' eb=>⟨rfl,I.turned (λb o hb e=>eb b o hb e) f0 f1 f3 f4 f5⟩
 self:=λ_ _ _ _ _ st h=>wpAny_pyIter_keyiter st h
section
variable {a:ak}
theorem aE6(I:Inv X pins σ H s)(e:H a=ab (.frz o u))(hn:∀o u,X.H₀ a≠ab (.frz o u)):Inv X pins σ (upd H a u) s:=by
 have ne:∀b,H b=ai->b≠a:=λb h z=>by subst z;rw[e] at h;cases h
 have keepT:∀b xs,H b=ab (.tup xs)->upd H a u b=ab (.tup xs):=λb xs h=>by
  rw[bG (λz=>by subst z;rw[e] at h;cases h)];exact h
 have keepO:∀b x,H b=ab (.own x)->upd H a u b=ab (.own x):=λb x h=>by
  rw[bG (λz=>by subst z;rw[e] at h;cases h)];exact h
 refine⟨I.ok,I.os,I.bare,⟨I.base.keep,I.base.slot,λb o h1 h2 h3=>?_,I.base.there,λb xs h=>?_,λb o' u' h=>?_,λb ps h=>?_⟩,I.loc,I.cell,?_,λx c h=>?_,λp hp=>?_,λb ob h=>?_,I.len⟩
 ·have:=I.base.free b o h1 h2 h3;rw[bG (ne b this)];exact this
 ·exact keepT b xs (I.base.tups b xs h)
 ·have:=I.base.frzs b o' u' h;rw[bG (λz=>by subst z;exact hn _ _ h)];exact this
 ·obtain⟨more,h1⟩:=I.base.tbls b ps h;refine⟨more,?_⟩;rw[bG (λz=>by subst z;rw[e] at h1;cases h1)];exact h1
 ·rw[bG (ne _ I.free)];exact I.free
 ·have:=I.freeC x c h;rw[bG (ne _ this)];exact this
 ·obtain⟨h1,h2,h3⟩:=I.pin p hp;exact⟨h1,by rw[bG (ne _ h2)];exact h2,h3⟩
 ·by_cases hb:b=a
  ·subst hb;rw[aM] at h;cases h;obtain⟨_,h2⟩:=I.hok b _ e;exact h2.stay (λ_ _ _ q=>q) (λc hc=>keepO c b hc) keepT
  ·rw[bG hb] at h;exact(I.hok b _ h).stay (λ_ _ _ q=>q) (λc hc=>keepO c b hc) keepT
theorem aE7(I:Inv X pins σ H s)(hu:DV H a kvs):∀o u,X.H₀ a≠ab (.frz o u):=λo u h=>by
 have:=I.base.frzs a o u h;rcases hu with h|⟨_,h⟩<;>(rw[h] at this;cases this)
theorem aIn{i:af}{np:cn}(hN:X.N[i]?=ab x)(hv:Vis X.env.scope x)(hd:nDb x:=by decide)(hcd:nCd x:=by decide) :
  PI X tg (.Name x np) (λσ H R=>∃a kvs u,σ[i]?=ab (ab (.ref a))/\DV H a kvs/\H a=ab u/\∀o,R (Itk a o u kvs) (upd H a (.frz o u))):=by
 rintro pins s σ H R I ⟨a,kvs,u,hσ,hu,hua,q⟩;refine thn (jD hN hv hd hcd pins s σ H (λv H1=>v=.ref a/\H1=H) I ⟨_,hσ,rfl,rfl⟩) λv s1 ⟨w,H1,I1,r1,e1,e2⟩=>?_
 subst e1 e2;cases r1;obtain⟨z,hs,vs,rel,dd⟩:=aB4 I1 hu;obtain⟨ep,da⟩:=dd.dictAt;obtain⟨o,es,ho,r⟩:=id da;have hda:∀h:aI,h.get? a=ab o->h.DictAt (cM X.prog X.w) a vs ep:=λh e=>⟨o,es,e,r⟩
 obtain⟨u',hu2,fu⟩:=aMr I1 hu ho;rw[hua] at hu2;cases hu2;have If:Inv X pins σ (upd H1 a (.frz o u)) s1:=I1.write (aMq hu) (.inl rfl) (λ_ _ _ q=>q) ⟨o,ho⟩ ⟨ho,fu _ _ ho⟩;refine wpAny_pyIter_dict hs da ?_;have I2:Inv X pins σ (upd H1 a (.frz o u)) {s1 with heap:=s1.heap.push {cls:=.type "dict_keyiterator",data:=.fields #[.ref a,.int 0 0,.int vs.length 0,.int ep 0]}}:=If.kept λb o e=>bu _ e
 refine⟨s1.heap.objs.size,[s1.heap.objs.size],λi h=>h.IsKeyIter s1.heap.objs.size a i vs.length ep,Itk a o u kvs,_,rfl,I2,aB6 hda rel,⟨_,cx _ rfl,rfl,rfl⟩,λb hb=>?_,q o⟩;have e:b=s1.heap.objs.size:=by simpa using hb
 subst e;exact If.aD7 (aS _) (If.hok.fresh (aS _))
end
theorem aMw(r:Rep P H (.ref a) (.dct ds))(hua:H a=ab u)(hp:D.aW (ds.map (·.2))=ae):Rep P' (upd H a (.frz o u)) (.ref a) (.fdc ds):=by
 have hna:∀ob,H a=ab ob->TJ ob=ae:=λxs z=>by
  cases r with
  |dK e _ _ _=>rw[e] at z;cases z;rfl
  |dT e _ _ _=>rw[e] at z;cases z;rfl
 have goK:∀{kvs:aa (Key×V)}{ds:aa (D×D)},iJ P H kvs ds->D.aW (ds.map (·.2))=ae->iJ P' (upd H a (.frz o u)) kvs ds:=by
  intro kvs ds r;induction kvs generalizing ds with
  |nil=>cases r;intro _;exact .nil
  |cons p kvs ih=>cases r with
   |cons r t=>
    intro h;rw[bh,D.aW,aT] at h;exact .cons ((G4 hna r h.1).b8 h.1) (ih t h.2)
 have goT:∀{kvs:aa (aa Key×V)}{ds:aa (D×D)},oZ P H kvs ds->D.aW (ds.map (·.2))=ae->oZ P' (upd H a (.frz o u)) kvs ds:=by
  intro kvs ds r;induction kvs generalizing ds with
  |nil=>cases r;intro _;exact .nil
  |cons p kvs ih=>cases r with
   |cons r t=>
    intro h;rw[bh,D.aW,aT] at h;exact .cons ((G4 hna r h.1).b8 h.1) (ih t h.2)
 cases r with
 |dK e _ r n=>rw[e] at hua;cases hua;exact .fdK aM (goK r hp) n
 |dT e _ r n=>rw[e] at hua;cases hua;exact .fdT aM (goT r hp) n
theorem aQ8(r:Rep P H v (.dct ds))(hb:ds.all (λp=>!isTup p.1)=ae):∃a kvs u,v=.ref a/\DV H a kvs/\H a=ab u/\TF u=ae/\∀{P'},∀H',b7 P' H' (kvs.map λp=>kV p.1) (sZ ds):=by
 cases r with
 |dK e _ rk _=>
  refine⟨_,_,_,rfl,.inl e,e,rfl,λ{P'} H'=>?_⟩;clear e;rename_i n;clear n;have go:∀{kvs:aa (Key×V)}{ds:aa (D×D)},iJ P H kvs ds->b7 P' H' (kvs.map λp=>kV p.1) (sZ ds):=by
   intro kvs ds r;induction kvs generalizing ds with
   |nil=>cases r;exact .nil
   |cons p kvs ih=>cases r with
    |@cons k v d r ds h t=>exact .cons (by cases k<;>first|exact .int _|exact .str _) (ih t)
  exact go rk
 |dT e _ rt _=>
  cases rt with
  |nil=>exact⟨_,[],_,rfl,.inr ⟨rfl,e⟩,e,rfl,λH'=>.nil⟩
  |cons r t=>simp[isTup] at hb
end
variable [KFrag]
theorem aE8{ρ:aa D}{f:D->D}(h:f .uD=.uD)(j:af):(ρ.map f).getD j .uD=f (ρ.getD j .uD):=by
 rw[cu,cu,jg];cases ρ[j]? with
 |none=>exact h.symm
 |some d=>rfl
theorem aQ9(E:ER H σ ρ)(hσ:σ[i]?=ab (ab (.ref a)))(r:Rep All H (.ref a) (.dct ds))(hua:H a=ab u)(hmu:TF u=ae)(hp:D.aW (ds.map (·.2))=ae):ER (upd H a (.frz o u)) σ (fzD i ds ρ):=by
 have hna:∀ob,H a=ab ob->TJ ob=ae:=λxs z=>by rw[hua] at z;cases z;cases u<;>first|rfl|cases hmu
 intro j hj;unfold fzD at hj ⊢;rw[dH] at hj ⊢;by_cases h:i=j/\i<(ρ.map λd=>if d.pure then d else .uD).length
 ·rw[ao h];obtain⟨rfl,_⟩:=h;exact⟨_,hσ,aMw r hua hp⟩
 ·rw[aw h] at hj ⊢;rw[aE8 0x3] at hj ⊢;by_cases hpu:(ρ.getD j .uD).pure=ae
  ·rw[ao hpu] at hj ⊢;obtain⟨v,h1,h2⟩:=E j hj;exact⟨v,h1,G4 hna h2 hpu⟩
  ·rw[aw hpu] at hj;exact aE rfl hj
section
variable {x c y:Str}
theorem aE9(S:cZ X.N X.env.scope scope [c])(hn:X.N.length=n)(hcalm:X.calm=ae)(hN:X.N[i]?=ab x)(hv:Vis X.env.scope x)(hg:∀y,PG (mkC X scope [c] y) (.Name c cpos) (wW n))(hc:∀y,PT (mkC X scope [c] y) cnd (gT gc))(he:∀y,PE (mkC X scope [c] y) elt (gE fe re))
 (hs:∀z,fj (.Name x np) X.env z=pure z)(ho:own iy=o)(hNn:X.N.Nodup)(hiy:X.N[iy]?=ab y)(hxy:Loc X.env.scope y)(hfy:zFn X y)(hsw:d5 (.ListComp elt [⟨.Name c cpos,.Name x np,[cnd],0⟩] scope pos) (ab (.Name y py)) pos2.line X.env=pure ae)
 (hd:nDb x:=by decide)(hcd:nCd x:=by decide) :
  PS X (.Assign [.Name y py] (.ListComp elt [⟨.Name c cpos,.Name x np,[cnd],0⟩] scope pos) pos2) (tS own (bZ o iy (U5 n i iV gc fe) ae)):=by
 intro pins s σ H Dn I h;obtain⟨ρ,d,E,hcomp,q⟩:=GP ho h;obtain⟨d0,h1,h2⟩:=bI hcomp;obtain⟨v,hσ,r,ed⟩:=E.var h1;split at h2
 ·rename_i ds;split at h2
  ·rename_i hb;rw[aT,aT] at hb;obtain⟨ys,h3,h4⟩:=bI h2;cases h4;obtain⟨a,kvs,u,rfl,hu,hua,hmu,rk⟩:=aQ8 r hb.2.1;have hlen:kvs.length=(sZ ds).length:=by have:=(rk (P':=All) H).length;simpa using this
   have hlim:(sZ ds).length<=lim:=by unfold sZ;rw[ax];exact dh hb.1
   have hno:=aE7 I hu;have hσl:σ.length=n:=I.len.trans hn;have tg:=eY n;refine thn (KD S hcalm (aIn hN hv hd hcd) (λX' cc=>by obtain⟨y,rfl⟩:=k_ cc;exact hg y) (λX' cc=>by obtain⟨y,rfl⟩:=k_ cc;exact hc y) (λX' cc=>by obtain⟨y,rfl⟩:=k_ cc;exact he y) hs hNn hiy hxy hfy hsw pins s σ H
    {Dn with nx:=λσ' H'=>∃o,H' a=ab (.frz o u)/\Dn.nx σ' (upd H' a u)} I ⟨a,kvs,u,hσ,hu,hua,λo p hp=>?_⟩) λf s' hq=>?_
   ·have hpa:p≠a:=λz=>by subst z;rw[aM] at hp;cases hp
    have hp0:H p=ai:=by rw[bG hpa] at hp;exact hp
    have EF:ER (upd H a (.frz o u)) σ (fzD i ds ρ):=aQ9 E hσ r hua hmu hb.2.2;refine⟨λi' n' vs H'=>n'=kvs.length-i'/\i'<=kvs.length/\H' p=ab (.lst vs)/\cH (upd H a (.frz o u)) H'/\∃acc,acc.length<=i'/\D.aW acc=ae/\b7 All H' vs acc/\iI (jM n iV gc fe ag (fzD i ds ρ)) acc ((sZ ds).drop i')=.ok ys,⟨kvs.length,rfl,cy _,aM,cH.upd hp,[],cy _,rfl,.nil,h3⟩,?_⟩;rintro i' n' vs H' ⟨rfl,hi,hH,sm,acc,hal,pacc,racc,hf⟩;have ea:H' a=ab (.frz o u):=sm a _ aM;refine⟨hH,?_⟩;rcases kf i' kvs.length with hlt|hge
    ·refine .inr ⟨⟨ea,_,ef hlt⟩,?_,λx H2 hy=>?_⟩
     ·rw[racc.length];exact yc hal (c5 (hlen▸hlt) (c9 hlim (by rw[c8];decide)))
     ·obtain⟨rfl,pr,hx,rfl⟩:=hy;have hlt2:i'<(sZ ds).length:=hlen▸hlt;obtain⟨dx,hdx,rx⟩:=(rk H2).at (i:=i') (v:=kV pr.1) (by simp[hx]);have edx:(sZ ds)[i']=dx:=by
       have:=ef hlt2;rw[hdx] at this;exact(c6 this).symm
      rw[mv hlt2,edx] at hf;obtain⟨acc2,hs,hf⟩:=bI hf;obtain⟨bs,hbs,hs⟩:=bI hs;obtain⟨ok,hok,hs⟩:=bI hs;refine tg (kV pr.1) dx bs σ H2 _ hσl rx hbs λσ2 hx2 hbs2=>⟨hx2,?_⟩
      have E2:ER H2 σ2 (FJ n (fzD i ds ρ)++bs):=(EF.same sm).ext hσl hx2 hbs2;refine⟨_,ok,E2,hok,λH4 s4=>?_⟩;cases ok with
      |true=>
       rw[ao rfl];rw[ao rfl] at hs;obtain⟨yy,hy2,hs⟩:=bI hs;split at hs
       ·rename_i hk;cases hs;have py:yy.pure=ae:=by simpa using hk
        refine⟨_,yy,E2.same s4,hy2,λw H5 s5 r5 n5=>⟨s5 p _ (s4 p _ hH),kvs.length-(i'+1),by lia,rfl,hlt,aM,?_,acc++[yy],?_,vK pacc py,?_,hf⟩⟩
        ·exact λb ob e=>by
          rw[bG (dO e hp)];exact s5 b ob (s4 b ob (sm b ob e))
        ·rw[bj,xb];lia
        ·have hp5:H5 p=ab (.lst vs):=s5 p _ (s4 p _ hH);have hpn:∀ob,H5 p=ab ob->TJ ob=ae:=λxs z=>by rw[hp5] at z;cases z;rfl
         exact KQ hpn ((racc.same (s4.trans s5)).snoc r5) (vK pacc py)
       ·exact bx hs
      |false=>
       rw[aw 0x2];rw[aw 0x2] at hs;cases hs;exact⟨kvs.length-(i'+1),by lia,rfl,hlt,s4 p _ hH,sm.trans s4,acc,by lia,pacc,racc.same s4,hf⟩
    ·refine .inl ⟨⟨ea,hge⟩,o,ea,?_⟩;rw[mw 0x1] at hf;cases hf;have hna:∀ob,H' a=ab ob->TJ ob=ae:=λxs z=>by rw[ea] at z;cases z;rcases hu with h|⟨_,h⟩<;>(rw[hua] at h;cases h;rfl)
     have sF:cH H (upd H' a u):=λb ob e=>by
      by_cases hba:b=a
      ·subst hba;rw[aM,<-hua];exact e
      ·rw[bG hba];exact sm b ob (by rw[bG hba];exact e)
     have hpF:upd H' a u p=ab (.lst vs):=by rw[bG hpa];exact hH
     have rF:∀{P:ak->Prop},b7 P (upd H' a u) vs ys:=λ{P}=>(KQ hna racc pacc).b8 pacc
     exact q _ _ sF (.lst hpF trivial rF) λ_=>.lst hpF hp0 rF
   ·cases f with
    |next=>
     obtain⟨σ',H',I',o,ea,q'⟩:=hq;exact⟨σ',_,aE6 I' ea hno,q'⟩
    |brk=>exact hq
    |cont=>exact hq
    |ret u=>exact hq
  ·exact bx h2
 ·exact bx h2
end
end Mi
namespace Wz
open PySem PySem.Spec
noncomputable abbrev itO(t:ak)(i:af):bd:={cls:=.type "tuple_iterator",data:=.fields #[.ref t,.int i 0]}
noncomputable abbrev tuO(xs:ay aj)(n:af)(dd:au ak)(sl:ay (au aj)):bd:={cls:=.type "tuple",dict:=dd,data:=.seq xs n,slots:=sl}
abbrev zpO(f0 f1:aj)(TI TO:ak):bd:={cls:=.type "zip",data:=.fields #[f0,f1,.bool ag,.ref TI,.ref TO]}
noncomputable abbrev prO(a b:aj):bd:={cls:=.type "tuple",data:=.seq #[a,b]}
theorem XJ(it t:ak)(i:af)(xs:ay aj)(n:af)(dd:au ak)(sl:ay (au aj))(x:aj)(hx:xs[i]?=ab x) :
  jo (dq.«tuple_iterator.__next__» ⟨[.ref it],[]⟩) (λ_ R s=>s.heap.get? it=ab (itO t i)/\s.heap.get? t=ab (tuO xs n dd sl)/\R (.ok (.ret x)) {s with heap:=s.heap.update it (Obj.mapFields (·.setIfInBounds 1 (du (i+1))))}):=.of_wp λprog w A R s hs=>by
 obtain⟨hp,g,d,tk,os⟩:=s;obtain⟨e1,e2,hq⟩:=hs
 wp_walk
 rw[om,hx]
 wp_walk
 exact⟨_,rfl,hq⟩
theorem XM(it t:ak)(i:af)(xs:ay aj)(n:af)(dd:au ak)(sl:ay (au aj))(hx:xs[i]?=ai) :
  jo (dq.«tuple_iterator.__next__» ⟨[.ref it],[]⟩) (λA R s=>A.handled=ai/\s.heap.get? it=ab (itO t i)/\s.heap.get? t=ab (tuO xs n dd sl)/\∀h' e,Bw it s.heap h'->(∃o,h'.get? e=ab o/\o.cls=.type "StopIteration")->R (.error (.ref e)) {s with heap:=h'}):=.of_wp λprog w A R s hs=>by
 obtain⟨hp,g,d,tk,os⟩:=s;obtain⟨hh,e1,e2,hq⟩:=hs
 wp_walk
 rw[om,hx]
 wp_walk
 have hh1:A.in1.handled=ai:=hh;unfold raiseNew
 wp_walk
 exact hq _ _ (((Bx ..).extBut.push _).push _) ⟨_,cx _ rfl,rfl⟩
section
variable {prog:bS} {w:bm} {A:b5} {E:aj->am->Prop} {s:am} {it t:ak} {i:af} {xs:ay aj} {x:aj} {n:af} {dd:au ak} {sl:ay (au aj)}
theorem drawn{Q:aj->am->Prop}(e1:s.heap.get? it=ab (itO t i))(e2:s.heap.get? t=ab (tuO xs n dd sl))(hx:xs[i]?=ab x)
 (q:∀h',h'.get? it=ab (itO t (i+1))->gl it s.heap h'->Q x {s with heap:=h'}):wpAny (av prog w) A (lh (.ref it)) Q E s:=by
 have ty:s.TypeIs (.ref it) "tuple_iterator":=⟨_,e1,rfl⟩
 refine al (kN ty ub ?_);refine jj ub ty By (Bz _) (XJ it t i xs n dd sl x hx) ⟨e1,e2,az (q _ ?_ (Bx ..))⟩;exact jr _ e1 rfl
theorem over{Q:aj->am->Prop}(hh:A.handled=ai)(e1:s.heap.get? it=ab (itO t i))(e2:s.heap.get? t=ab (tuO xs n dd sl))(hx:xs[i]?=ai)
 (q:∀h' e,Bw it s.heap h'->(∃o,h'.get? e=ab o/\o.cls=.type "StopIteration")->E (.ref e) {s with heap:=h'}):wpAny (av prog w) A (lh (.ref it)) Q E s:=by
 have ty:s.TypeIs (.ref it) "tuple_iterator":=⟨_,e1,rfl⟩
 refine al (kN ty ub ?_);exact jj ub ty By (Bz _) (XM it t i xs n dd sl hx) ⟨hh,e1,e2,λh' e k o=>q h' e k o⟩
end
structure Apart(z TI TO i1 i2 l1 l2:ak):Prop where
 zTI:z≠TI
 zTO:z≠TO
 z1:z≠i1
 z2:z≠i2
 zl:z≠l1
 zm:z≠l2
 TT:TI≠TO
 T1:TI≠i1
 T2:TI≠i2
 O1:TO≠i1
 O2:TO≠i2
 Ol:TO≠l1
 Om:TO≠l2
 ij:i1≠i2
 il:i1≠l1
 im:i1≠l2
 jl:i2≠l1
 jm:i2≠l2
structure W(z TI TO i1 i2 l1 l2:ak)(o1 o2:bd)(f0 f1 a b:aj)(k1 k2:af)(h:aI):Prop where
 z_:h.get? z=ab (zpO f0 f1 TI TO)
 ti:h.get? TI=ab (prO (.ref i1) (.ref i2))
 to:h.get? TO=ab (prO a b)
 j1:h.get? i1=ab (itO l1 k1)
 j2:h.get? i2=ab (itO l2 k2)
 t1:h.get? l1=ab o1
 t2:h.get? l2=ab o2
section
variable {z TI TO i1 i2 l1 l2:ak} {o1 o2:bd} {f0 f1 g0 g1 a b c d:aj} {k1 k2:af} {h h':aI}
theorem W.onZ(x:W z TI TO i1 i2 l1 l2 o1 o2 f0 f1 a b k1 k2 h)(ap:Apart z TI TO i1 i2 l1 l2)(e:h'.get? z=ab (zpO g0 g1 TI TO))(k:gl z h h'):W z TI TO i1 i2 l1 l2 o1 o2 g0 g1 a b k1 k2 h':=
 ⟨e,(k.2 _ ap.zTI.symm).trans x.ti,(k.2 _ ap.zTO.symm).trans x.to,(k.2 _ ap.z1.symm).trans x.j1,(k.2 _ ap.z2.symm).trans x.j2,(k.2 _ ap.zl.symm).trans x.t1,(k.2 _ ap.zm.symm).trans x.t2⟩
theorem W.onT(x:W z TI TO i1 i2 l1 l2 o1 o2 f0 f1 a b k1 k2 h)(ap:Apart z TI TO i1 i2 l1 l2)(e:h'.get? TO=ab (prO c d))(k:gl TO h h'):W z TI TO i1 i2 l1 l2 o1 o2 f0 f1 c d k1 k2 h':=
 ⟨(k.2 _ ap.zTO).trans x.z_,(k.2 _ ap.TT).trans x.ti,e,(k.2 _ ap.O1.symm).trans x.j1,(k.2 _ ap.O2.symm).trans x.j2,(k.2 _ ap.Ol.symm).trans x.t1,(k.2 _ ap.Om.symm).trans x.t2⟩
theorem W.on1{k:af}(x:W z TI TO i1 i2 l1 l2 o1 o2 f0 f1 a b k1 k2 h)(ap:Apart z TI TO i1 i2 l1 l2)(e:h'.get? i1=ab (itO l1 k))(s:gl i1 h h'):W z TI TO i1 i2 l1 l2 o1 o2 f0 f1 a b k k2 h':=
 ⟨(s.2 _ ap.z1).trans x.z_,(s.2 _ ap.T1).trans x.ti,(s.2 _ ap.O1).trans x.to,e,(s.2 _ ap.ij.symm).trans x.j2,(s.2 _ ap.il.symm).trans x.t1,(s.2 _ ap.im.symm).trans x.t2⟩
theorem W.on2{k:af}(x:W z TI TO i1 i2 l1 l2 o1 o2 f0 f1 a b k1 k2 h)(ap:Apart z TI TO i1 i2 l1 l2)(e:h'.get? i2=ab (itO l2 k))(s:gl i2 h h'):W z TI TO i1 i2 l1 l2 o1 o2 f0 f1 a b k1 k h':=
 ⟨(s.2 _ ap.z2).trans x.z_,(s.2 _ ap.T2).trans x.ti,(s.2 _ ap.O2).trans x.to,(s.2 _ ap.ij).trans x.j1,e,(s.2 _ ap.jl.symm).trans x.t1,(s.2 _ ap.jm.symm).trans x.t2⟩
theorem W.up(x:W z TI TO i1 i2 l1 l2 o1 o2 f0 f1 a b k1 k2 h)(k:∀c o,c=z\/c=TI\/c=TO\/c=i1\/c=i2\/c=l1\/c=l2->h.get? c=ab o->h'.get? c=ab o):W z TI TO i1 i2 l1 l2 o1 o2 f0 f1 a b k1 k2 h':=
 ⟨k _ _ 0x2 x.z_,k _ _ 0x2 x.ti,k _ _ 0x2 x.to,k _ _ 0x2 x.j1,k _ _ 0x2 x.j2,k _ _ 0x2 x.t1,k _ _ 0x2 x.t2⟩
end
def aEa(z TO i1 i2:ak)(h h':aI):Prop:=∀c o,c≠z->c≠TO->c≠i1->c≠i2->h.get? c=ab o->h'.get? c=ab o
section
variable {s:am} {z TI TO i1 i2 l1 l2:ak} {f0 f1 a b:aj}
theorem W.ty{o1 o2:bd}{k1 k2:af}(hw:W z TI TO i1 i2 l1 l2 o1 o2 f0 f1 a b k1 k2 s.heap):s.TypeIs (.ref z) "zip":=⟨_,hw.z_,rfl⟩
end
noncomputable abbrev nxt(z:ak):ii yf:=dq.«zip.__next__» ⟨[.ref z],[]⟩
abbrev Got(Q:aj->am->Prop):yf->am->Prop:=λr t=>∃v,r=.done (.ret v)/\Q v t
section
theorem there(e:s.heap.get? c=ab o)(q:Q (ab o) s):wpAny (av prog w) A (loadIfAlive c) Q E s:=λΓ p _=>by
 show Sem.wp _ Γ (.loadIfAlive c pure) _ _ p s;rw[Sem.wp_loadIfAlive,e];exact q
theorem keptAt(j:af)(v c d:aj)(hw:W z TI TO i1 i2 l1 l2 o1 o2 f0 f1 a b k1 k2 s.heap)(ap:Apart z TI TO i1 i2 l1 l2)(hj:(#[a,b]:ay aj).setIfInBounds j v=#[c,d])
 (q:∀h',W z TI TO i1 i2 l1 l2 o1 o2 f0 f1 c d k1 k2 h'->gl TO s.heap h'->Q () {s with heap:=h'}):wpAny (av prog w) A (i7 TO (·.setIfInBounds j v)) Q E s:=
 wpAny_updateSeq_pair hw.to λh' e sb=>q h' (hw.onT ap (by rw[e,hj]) sb) sb
theorem first(ap:Apart z TI TO i1 i2 l1 l2)(hw:W z TI TO i1 i2 l1 l2 (tuO xs n1 d1 s1) (tuO ys n2 d2 s2) .none (.bool ag) a b k k s.heap)(hx:xs[k]?=ab x)(hy:ys[k]?=ab y)
 (q:∀(h':aI) (p:ak),W z TI TO i1 i2 l1 l2 (tuO xs n1 d1 s1) (tuO ys n2 d2 s2) (du p) (.bool ag) x y (k+1) (k+1) h'->h'.get? p=ab (prO x y)->p=s.heap.objs.size->aEa z TO i1 i2 s.heap h'->Q (.ref p) {s with heap:=h'}) :
  wpAny (av prog w) A (nxt z) (Got Q) E s:=by
 refine al (m:=uc (.ref z) 2) (fw hw.z_ rfl rfl (al (fw hw.z_ rfl rfl (al (fx hw.ti rfl ?_)))));refine al (al (fw hw.z_ rfl (x:=.none) rfl (az ?_)));rw[ao rfl];refine al (li (al (fw hw.z_ rfl (x:=.ref TO) rfl (al (mB hw.z_ 0x2 λh1 e1 k1=>?_)))));have w1:W z TI TO i1 i2 l1 l2 (tuO xs n1 d1 s1) (tuO ys n2 d2 s2) .ellipsis (.bool ag) a b k k h1:=hw.onZ ap e1 k1;simp only[BA,BB,nX,kc];refine al (al (al (yg (al (m:=lh (.ref i1)) (drawn w1.j1 w1.t1 hx λh2 e2 k2=>az ?_)))));have w2:=w1.on1 ap e2 k2;refine al (fx w2.to rfl (al (keptAt 0 x x b w2 ap rfl λh3 w3 k3=>al (ig (az ?_)))));refine al (al (yg (al (m:=lh (.ref i2)) (drawn w3.j2 w3.t2 hy λh4 e4 k4=>az ?_))));have w4:=w3.on2 ap e4 k4;refine al (fx w4.to rfl (al (keptAt 1 y x y w4 ap rfl λh5 w5 k5=>al (ig (az (az ?_))))));have sd:aEa z TO i1 i2 s.heap h5:=λc o c1 c2 c3 c4 e=>(k5.2 c c2).trans ((k4.2 c c4).trans ((k3.2 c c2).trans ((k2.2 c c3).trans ((k1.2 c c1).trans e))))
 have sz:h5.objs.size=s.heap.objs.size:=by rw[k5.1,k4.1,k3.1,k2.1,k1.1]
 refine al (fx w5.to rfl (al (xy ?_)));have w6:W z TI TO i1 i2 l1 l2 (tuO xs n1 d1 s1) (tuO ys n2 d2 s2) .ellipsis (.bool ag) x y (k+1) (k+1) (h5.push (prO x y)):=w5.up λc o _ e=>bu _ e
 refine al (m:=Do (.ref z) (.ref h5.objs.size)) (al (mB w6.z_ 0x2 λh7 e7 k7=>?_));have w7:W z TI TO i1 i2 l1 l2 (tuO xs n1 d1 s1) (tuO ys n2 d2 s2) (du h5.objs.size) (.bool ag) x y (k+1) (k+1) h7:=w6.onZ ap e7 k7;refine mB w7.z_ 0x2 λh8 e8 k8=>az ⟨_,rfl,?_⟩
 have w8:W z TI TO i1 i2 l1 l2 (tuO xs n1 d1 s1) (tuO ys n2 d2 s2) (du h5.objs.size) (.bool ag) x y (k+1) (k+1) h8:=w7.onZ ap e8 k8;have nz:h5.objs.size≠z:=hI (bp w5.z_);exact q h8 _ w8 ((k8.2 _ nz).trans ((k7.2 _ nz).trans (cx _ rfl))) sz λc o c1 c2 c3 c4 e=>(k8.2 c c1).trans ((k7.2 c c1).trans (bu _ (sd c o c1 c2 c3 c4 e)))
theorem aEb(hh:A.handled=ai)(ap:Apart z TI TO i1 i2 l1 l2)(hw:W z TI TO i1 i2 l1 l2 (tuO xs n1 d1 s1) (tuO ys n2 d2 s2) .none (.bool ag) a b k k s.heap)(hx:xs[k]?=ai)
 (q:∀h' e,aEa z TO i1 i2 s.heap h'->(∃o,h'.get? e=ab o/\o.cls=.type "StopIteration")->E (.ref e) {s with heap:=h'}) :
  wpAny (av prog w) A (nxt z) Q E s:=by
 refine al (m:=uc (.ref z) 2) (fw hw.z_ rfl rfl (al (fw hw.z_ rfl rfl (al (fx hw.ti rfl ?_)))));refine al (m:=yh (.ref z)) (al (fw hw.z_ rfl (x:=.none) rfl (az ?_)));rw[ao rfl];refine al (li (al (fw hw.z_ rfl (x:=.ref TO) rfl (al (mB hw.z_ 0x2 λh1 e1 k1=>?_)))));have w1:W z TI TO i1 i2 l1 l2 (tuO xs n1 d1 s1) (tuO ys n2 d2 s2) .ellipsis (.bool ag) a b k k h1:=hw.onZ ap e1 k1;simp only[BA,BB,nX,kc];refine al (al (al (yg (al (m:=lh (.ref i1)) (over hh w1.j1 w1.t1 hx λh2 e k2 he=>?_)))));obtain⟨oe,he,hc⟩:=he;have ez:h2.get? z=ab (zpO .ellipsis (.bool ag) TI TO):=k2 _ _ ap.z1 w1.z_;have hez:e≠z:=λv=>by
  rw[v,ez] at he;cases he;exact aE (show fI "zip"=fI "StopIteration" from hc) 0x4
 exact mB ez 0x2 λh3 _ k3=>q h3 e (λc o c1 _ c3 _ v=>(k3.2 c c1).trans (k2 c o c3 ((k1.2 c c1).trans v))) ⟨oe,(k3.2 e hez).trans he,hc⟩
theorem taken{T:ak}(ap:Apart z TI TO i1 i2 l1 l2)(hw:W z TI TO i1 i2 l1 l2 o1 o2 (du T) (.bool bb) a b k1 k2 s.heap)(hT:s.heap.get? T=ab oT)
 (q:∀h',W z TI TO i1 i2 l1 l2 o1 o2 (du T) (.bool ae) a b k1 k2 h'->gl z s.heap h'->Q ag {s with heap:=h'}):wpAny (av prog w) A (yh (.ref z)) Q E s:=by
 refine al (fw hw.z_ rfl rfl (al (there hT ?_)));refine al (fw hw.z_ rfl rfl ?_);cases bb
 ·exact al (mB hw.z_ 0x2 λh1 e1 k1=>az (q h1 (hw.onZ ap e1 k1) k1))
 ·exact az (q _ hw (Dp _ _))
theorem more{T:ak}{bb:aq}{oT:bd}{Q:aj->am->Prop}(ap:Apart z TI TO i1 i2 l1 l2)(hw:W z TI TO i1 i2 l1 l2 (tuO xs n1 d1 s1) (tuO ys n2 d2 s2) (du T) (.bool bb) a b k k s.heap)(hT:s.heap.get? T=ab oT)(hx:xs[k]?=ab x)(hy:ys[k]?=ab y)
 (q:∀h' p,W z TI TO i1 i2 l1 l2 (tuO xs n1 d1 s1) (tuO ys n2 d2 s2) (du T) (.bool ae) a b (k+1) (k+1) h'->h'.get? p=ab (prO x y)->aEa z TO i1 i2 s.heap h'->Q (.ref p) {s with heap:=h'}) :
  wpAny (av prog w) A (nxt z) (Got Q) E s:=by
 refine al (m:=uc (.ref z) 2) (fw hw.z_ rfl rfl (al (fw hw.z_ rfl rfl (al (fx hw.ti rfl ?_)))));refine al (m:=yh (.ref z)) (taken ap hw hT λh1 w1 k1=>?_);rw[aw kA];dsimp only;rw[<-BC];simp only[nX,kc];refine al (al (al (eh (al (m:=lh (.ref i1)) (drawn w1.j1 w1.t1 hx λh2 e2 k2=>az (az ?_))))));have w2:=w1.on1 ap e2 k2;refine al (al (eh (al (m:=lh (.ref i2)) (drawn w2.j2 w2.t2 hy λh3 e3 k3=>az (az (az ?_))))));have w3:=w2.on2 ap e3 k3;refine al (xy (az ⟨_,rfl,?_⟩) (hsz:=by show(2:af)<=ba;decide));exact q _ _ (w3.up λc o _ e=>bu _ e) (cx _ rfl) λc o c1 c2 c3 c4 e=>bu _ ((k3.2 c c4).trans ((k2.2 c c3).trans ((k1.2 c c1).trans e)))
theorem aIo{T:ak}{bb:aq}{oT:bd}{Q:Fin->am->Prop}(hh:A.handled=ai)(ap:Apart z TI TO i1 i2 l1 l2)(hw:W z TI TO i1 i2 l1 l2 (tuO xs n1 d1 s1) (tuO ys n2 d2 s2) (du T) (.bool bb) a b k k s.heap)(hT:s.heap.get? T=ab oT)(hx:xs[k]?=ai)
 (q:∀h' e,aEa z TO i1 i2 s.heap h'->(∃o,h'.get? e=ab o/\o.cls=.type "StopIteration")->E (.ref e) {s with heap:=h'}) :
  wpAny (av prog w) A (nxt z) Q E s:=by
 refine al (m:=uc (.ref z) 2) (fw hw.z_ rfl rfl (al (fw hw.z_ rfl rfl (al (fx hw.ti rfl ?_)))));refine al (taken ap hw hT λh1 w1 k1=>?_);rw[aw kA];dsimp only;rw[<-BC];simp only[nX,kc];exact al (al (al (eh (al (over hh w1.j1 w1.t1 hx λh2 e k2 he=>q h2 e (λc o c1 _ c3 _ v=>k2 c o c3 ((k1.2 c c1).trans v)) he)))))
end
theorem five(h:aI)(a b c d e:bd)(fa:a.isFreed=ag)(fb:b.isFreed=ag)(fc:c.isFreed=ag)(fd:d.isFreed=ag)(fe:e.isFreed=ag) :
  (((((h.push a).push b).push c).push d).push e).get? h.objs.size=ab a/\(((((h.push a).push b).push c).push d).push e).get? (h.objs.size+1)=ab b/\(((((h.push a).push b).push c).push d).push e).get? (h.objs.size+2)=ab c/\(((((h.push a).push b).push c).push d).push e).get? (h.objs.size+3)=ab d/\(((((h.push a).push b).push c).push d).push e).get? (h.objs.size+4)=ab e/\
  (∀x o,h.get? x=ab o->(((((h.push a).push b).push c).push d).push e).get? x=ab o)/\(((((h.push a).push b).push c).push d).push e).objs.size=h.objs.size+5:=by
 have z1:(h.push a).objs.size=h.objs.size+1:=dv ..;have z2:((h.push a).push b).objs.size=h.objs.size+2:=(dv ..).trans (by rw[z1]);have z3:(((h.push a).push b).push c).objs.size=h.objs.size+3:=(dv ..).trans (by rw[z2]);have z4:((((h.push a).push b).push c).push d).objs.size=h.objs.size+4:=(dv ..).trans (by rw[z3]);have up:∀{h:aI}{x:ak}{o q:bd},h.get? x=ab o->(h.push q).get? x=ab o:=λe=>bu _ e
 have g2:=cx (h.push a) (o:=b) fb;have g3:=cx ((h.push a).push b) (o:=c) fc;have g4:=cx (((h.push a).push b).push c) (o:=d) fd;have g5:=cx ((((h.push a).push b).push c).push d) (o:=e) fe;rw[z1] at g2;rw[z2] at g3;rw[z3] at g4;rw[z4] at g5;exact⟨up (up (up (up (cx h fa)))),up (up (up g2)),up (up g3),up g4,g5,λx o q=>up (up (up (up (up q)))),(dv ..).trans (by rw[z4])⟩
theorem aB7(t u:ak)(xs ys:ay aj) :
  jo (dq.«zip.__new__» ⟨[.type "zip",.ref t,.ref u],[]⟩) (λ_ R s=>s.heap.IsTuple t xs/\s.heap.IsTuple u ys/\∀h' n,n=s.heap.objs.size->h'.get? n=ab (itO t 0)->h'.get? (n+1)=ab (itO u 0)->h'.get? (n+2)=ab (prO (.ref n) (.ref (n+1)))->h'.get? (n+3)=ab (prO .none .none)->h'.get? (n+4)=ab (zpO .none (.bool ag) (n+2) (n+3))->
   (∀x o,s.heap.get? x=ab o->h'.get? x=ab o)->h'.objs.size=n+5->R (.ok (.ret (.ref (n+4)))) {s with heap:=h'}):=
 .of_wp λprog w A R s hs=>by
  obtain⟨hp,g,d,tk,os⟩:=s;obtain⟨ht,hu,q⟩:=hs;have sub:=sub_zip;have p1:ud (ue ⟨hp,g,d,tk,os⟩) t xs:=ht;have p2:ud (ue ⟨hp.push {cls:=.type "tuple_iterator",data:=.fields #[.ref t,.int 0 0]},g,d,tk,os⟩) u ys:=Dq hu _;have f:=five hp (itO t 0) (itO u 0) (prO (.ref hp.objs.size) (.ref (hp.objs.size+1))) (prO .none .none) (zpO .none (.bool ag) (hp.objs.size+2) (hp.objs.size+3)) rfl rfl rfl rfl rfl
  wp_walk using i8 p1,i8 p2
  refine⟨_,rfl,?_⟩;have fin:=q _ hp.objs.size rfl f.1 f.2.1 f.2.2.1 f.2.2.2.1 f.2.2.2.2.1 f.2.2.2.2.2.1 f.2.2.2.2.2.2;have gen:∀m1 m2 m3 m4:af,m1=hp.objs.size+1->m2=hp.objs.size+2->m3=hp.objs.size+3->m4=hp.objs.size+4->R (.ok (.ret (.ref m4))) ⟨((((hp.push (itO t 0)).push (itO u 0)).push (prO (.ref hp.objs.size) (.ref m1))).push (prO .none .none)).push (zpO .none (.bool ag) m2 m3),g,d,tk,os⟩:=by
   intro m1 m2 m3 m4 q1 q2 q3 q4;subst q1 q2 q3 q4;exact fin
  exact gen _ _ _ _ (dv ..) ((dv ..).trans (cz (·+1) (dv ..))) ((dv ..).trans (cz (·+1) ((dv ..).trans (cz (·+1) (dv ..))))) ((dv ..).trans (cz (·+1) ((dv ..).trans (cz (·+1) ((dv ..).trans (cz (·+1) (dv ..)))))))
section
variable {prog:bS} {w:bm} {A:b5} {E:aj->am->Prop} {s:am}
theorem aMx{t u:ak}{xs ys:ay aj}{Q:aj->am->Prop}(ht:s.heap.IsTuple t xs)(hu:s.heap.IsTuple u ys)
 (q:∀h' n,n=s.heap.objs.size->h'.get? n=ab (itO t 0)->h'.get? (n+1)=ab (itO u 0)->h'.get? (n+2)=ab (prO (.ref n) (.ref (n+1)))->h'.get? (n+3)=ab (prO .none .none)->h'.get? (n+4)=ab (zpO .none (.bool ag) (n+2) (n+3))->
   (∀x o,s.heap.get? x=ab o->h'.get? x=ab o)->h'.objs.size=n+5->Q (.ref (n+4)) {s with heap:=h'}) :
  wpAny (av prog w) A (call (.type "zip") [.ref t,.ref u]) Q E s:=
 BD F.called_zip 0x4 (F.typeCall_zip_2 _ _) (F.newCall_zip_2 _ _) (λobj=>F.args_object_init_3 obj _ _) F.entry_zip_new (aB7 t u xs ys)
  ⟨ht,hu,λh' n e a1 a2 a3 a4 a5 k z=>⟨⟨_,a5,rfl⟩,q h' n e a1 a2 a3 a4 a5 k z⟩⟩
end
theorem KZ:j3 (.type "zip") "keys"=pure ai:=by rw[kj,ko];kernel_rfl
theorem noGet:j3 (.type "zip") "__getattr__"=pure ai:=by rw[kj,ko];kernel_rfl
theorem K3:uf ug "zip.__getattribute__"=ab dq.«object.__getattribute__»:=yi (id':= "object.__getattribute__") 0x8 0x6 0x6 0x8
theorem j9(a:ak)(f0 f1:aj)(TI TO:ak)(u:dQ):jo (dq.«object.__getattribute__» ⟨[.ref a,.str "keys" u],[]⟩) (λA R s=>s.heap.get? a=ab (zpO f0 f1 TI TO)/\yj (.ref a) "keys" A R s):=.of_wp λprog w A R s hs=>by
 obtain⟨hp,g,d,tk,os⟩:=s;obtain⟨e,hh,q⟩:=hs;have ty:(⟨hp,g,d,tk,os⟩:am).TypeIs (.ref a) "zip":=⟨_,e,rfl⟩
 have no:=KZ
 wp_walk
 exact yk hh q (yl 0x6 (by size_fits))
section
variable {prog:bS} {w:bm} {A:b5} {E:aj->am->Prop} {hp:aI} {g:ay mE} {d:mI} {tk:af} {os:mM} {a TI TO:ak} {f0 f1:aj}
theorem gone{u:dQ}{kw:aa (Str×aj)}{Q:aj->am->Prop}(e:hp.get? a=ab (zpO f0 f1 TI TO))(hh:A.handled=ai)(hk:kw=[])(q:∀h' tk' x,ym hp h' x (.ref a) "keys"->E (.ref x) ⟨h',g,d,tk',os⟩) :
  wpAny (av prog w) A (call (.builtin "zip.__getattribute__") ([.ref a]++[.str "keys" u]) kw) Q E ⟨hp,g,d,tk,os⟩:=by
 subst hk;exact jj yn ⟨_,e,rfl⟩ K3 (F.args_zip_getattribute_2 _ _) (j9 a f0 f1 TI TO u) ⟨e,hh,λh' tk' x hx=>q h' tk' x hx⟩
theorem lacks{Q:au aj->am->Prop}(e:hp.get? a=ab (zpO f0 f1 TI TO))(hh:A.handled=ai)(q:∀h' tk',(∀b o,hp.get? b=ab o->h'.get? b=ab o)->Q ai ⟨h',g,d,tk',os⟩):wpAny (av prog w) A (yo (.ref a) "keys") Q E ⟨hp,g,d,tk,os⟩:=by
 have ty:∀tk',(⟨hp,g,d,tk',os⟩:am).TypeIs (.ref a) "zip":=λ_=>⟨_,e,rfl⟩
 have f3:=yn.lookup;have f4:=yn.bind (.ref a);have f5:=noGet;have sub:=yp
 wp_walk using gone e hh
 case hk=>rfl
 intro h' tk' x hx;obtain⟨t,u,ex⟩:=hx.there;show wpAny _ _ (yq _ _ _ _ _ _ _) _ _ _
 wp_walk
 exact q _ _ hx.keeps
end
def ZS(z TI TO i1 i2 l1 l2:ak)(o1 o2:bd)(k:af)(h:aI):Prop:=∃f0 f1 a b,W z TI TO i1 i2 l1 l2 o1 o2 f0 f1 a b k k h/\
 ((f0=.none/\f1=.bool ag)\/∃(T:ak)(bb:aq)(u v:aj),f0=du T/\f1=.bool bb/\h.get? T=ab (prO u v)/\T≠z/\T≠TO/\T≠i1/\T≠i2)
section
variable {prog:bS} {w:bm} {A:b5} {E:aj->am->Prop} {s:am} {z TI TO i1 i2 l1 l2 d:ak} {n1 n2:af} {d1 d2:au ak} {s1 s2:ay (au aj)} {x y:aj} {k:af} {xs ys:ay aj}
theorem apart{h:aI}{c d:ak}{o od:bd}{T:dS}(e:h.get? c=ab o)(hc:o.cls=.type T)(ed:h.get? d=ab od)(hd:od.cls=.type "dict")(ne:(fI T==fI "dict")=ag):c≠d:=λq=>by
 subst q;rw[e] at ed;cases ed;rw[hc] at hd;rw[hd] at ne;simp at ne
theorem ZS.keep{h h':aI}{od:bd}(Z:ZS z TI TO i1 i2 l1 l2 (tuO xs n1 d1 s1) (tuO ys n2 d2 s2) k h)(ed:h.get? d=ab od)(hd:od.cls=.type "dict")(e:∀c o,c≠d->h.get? c=ab o->h'.get? c=ab o):ZS z TI TO i1 i2 l1 l2 (tuO xs n1 d1 s1) (tuO ys n2 d2 s2) k h':=by
 obtain⟨f0,f1,a,b,hw,hf⟩:=Z;refine⟨f0,f1,a,b,⟨e _ _ (apart hw.z_ rfl ed hd 0x4) hw.z_,e _ _ (apart hw.ti rfl ed hd 0x4) hw.ti,e _ _ (apart hw.to rfl ed hd 0x4) hw.to,e _ _ (apart hw.j1 rfl ed hd 0x4) hw.j1,e _ _ (apart hw.j2 rfl ed hd 0x4) hw.j2,e _ _ (apart hw.t1 rfl ed hd 0x4) hw.t1,e _ _ (apart hw.t2 rfl ed hd 0x4) hw.t2⟩,?_⟩;rcases hf with hf|⟨T,bb,u,v,h1,h2,h3,h4⟩
 ·exact .inl hf
 ·exact .inr ⟨T,bb,u,v,h1,h2,e _ _ (apart h3 rfl ed hd 0x4) h3,h4⟩
theorem aIp{Q:au aj->am->Prop}(ap:Apart z TI TO i1 i2 l1 l2)(Z:ZS z TI TO i1 i2 l1 l2 (tuO xs n1 d1 s1) (tuO ys n2 d2 s2) k s.heap)(hx:xs[k]?=ab x)(hy:ys[k]?=ab y)
 (q:∀h' p,ZS z TI TO i1 i2 l1 l2 (tuO xs n1 d1 s1) (tuO ys n2 d2 s2) (k+1) h'->h'.get? p=ab (prO x y)->aEa z TO i1 i2 s.heap h'->Q (ab (.ref p)) {s with heap:=h'}):wpAny (av prog w) A (gz (.ref z)) Q E s:=by
 obtain⟨f0,f1,a,b,hw,hf⟩:=Z;refine al (BE (kN hw.ty uh (nL uh hw.ty BF ?_ (BG _))));rcases hf with ⟨rfl,rfl⟩|⟨T,bb,u,v,rfl,rfl,hT,t1,t2,t3,t4⟩
 ·refine first ap hw hx hy λh' p w' ep pp sd=>az (q h' p ⟨_,_,_,_,w',.inr ⟨p,ag,x,y,rfl,rfl,ep,?_⟩⟩ ep sd)
  subst pp;have lt:∀{c o},s.heap.get? c=ab o->s.heap.objs.size≠c:=λe=>hI (bp e)
  exact⟨lt hw.z_,lt hw.to,lt hw.j1,lt hw.j2⟩
 ·exact more ap hw hT hx hy λh' p w' ep sd=>az (q h' p ⟨_,_,_,_,w',.inr ⟨T,ae,u,v,rfl,rfl,sd _ _ t1 t2 t3 t4 hT,t1,t2,t3,t4⟩⟩ ep sd)
theorem aMy{Q:au aj->am->Prop}(hh:A.handled=ai)(ap:Apart z TI TO i1 i2 l1 l2)(Z:ZS z TI TO i1 i2 l1 l2 (tuO xs n1 d1 s1) (tuO ys n2 d2 s2) k s.heap)(hx:xs[k]?=ai)
 (q:∀h',aEa z TO i1 i2 s.heap h'->Q ai {s with heap:=h'}):wpAny (av prog w) A (gz (.ref z)) Q E s:=by
 obtain⟨f0,f1,a,b,hw,hf⟩:=Z;refine al (BE (kN hw.ty uh (nL uh hw.ty BF ?_ (BG _))));have stop:∀h' e,aEa z TO i1 i2 s.heap h'->(∃o,h'.get? e=ab o/\o.cls=.type "StopIteration")->wpAny (av prog w) A (do if <- isInstance (.ref e) (.type "StopIteration") then pure ai else throw (.ref e)) Q E {s with heap:=h'}:=λh' e sd he=>al (BH (T:= "StopIteration") (b:=ae) he isSubtype_stop (az (q h' sd)))
 rcases hf with ⟨rfl,rfl⟩|⟨T,bb,u,v,rfl,rfl,hT,_⟩
 ·exact aEb hh ap hw hx λh' e sd he=>stop h' e sd he
 ·exact aIo hh ap hw hT hx λh' e sd he=>stop h' e sd he
end
theorem lY:uf ug "dict.update.loop"=ab dq.«dict.update.loop»:=entryFor_of_tree 0x8
section
variable {prog:bS} {w:bm} {K:Type} [cq K] {knd:KeyKind prog w K} {A:b5} {R:Except aj Flow->am->Prop} {z TI TO i1 i2 l1 l2 d:ak} {n1 n2:af} {d1 d2:au ak} {s1 s2:ay (au aj)} {xs ys:ay aj} {ks:aa K}
theorem uR(hh:A.handled=ai)(ap:Apart z TI TO i1 i2 l1 l2)(hdz:d≠z)(hdT:d≠TO)(hd1:d≠i1)(hd2:d≠i2)(hsz:ys.size=xs.size)(hk:∀(i:af) (x:aj),xs[i]?=ab x->∃k,ks[i]?=ab k/\knd.is k x=ae) :
  ∀(m k:af)(s:am)(kvs:aa (K×aj)),k+m=xs.size->kvs.length+m<=ba->ZS z TI TO i1 i2 l1 l2 (tuO xs n1 d1 s1) (tuO ys n2 d2 s2) k s.heap->s.heap.DictOf knd d kvs->
  (∀h' tk,h'.DictOf knd d (iu kvs ((ks.zip ys.toList).drop k))->(∀c o,c≠d->c≠z->c≠TO->c≠i1->c≠i2->s.heap.get? c=ab o->h'.get? c=ab o)->R (.ok (.ret .none)) {s with heap:=h',toks:=tk})->
  codeAny (av prog w) A (.builtin "dict.update.loop" ⟨[.ref d,.ref z,du k,.none],[]⟩) R s:=by
 intro m;induction m with
 |zero=>
  intro k s kvs hkm hl Z hd q;refine gf lY ?_;rw[gw (show mN "dict.update.loop"=ae by decide +kernel) _];refine al (m:=gz (.ref z)) (aMy hh ap Z (oj 0x1) λh' kp=>?_);refine al (m:=ui d []) ?_;unfold ui;rw[kc];refine al (az (az (az ?_)));have e:(ks.zip ys.toList).drop k=[]:=mw (by rw[BI];have:ys.toList.length=ys.size:=lz;lia);rw[e] at q;obtain⟨o,es,ep,ho,r⟩:=hd;exact q _ s.toks ⟨o,es,ep,kp d o hdz hdT hd1 hd2 ho,r⟩ λc o _ c1 c2 c3 c4 e=>kp c o c1 c2 c3 c4 e
 |succ m ih=>
  intro k s kvs hkm hl Z hd q;have hlt:k<xs.size:=by lia
  have hlt2:k<ys.size:=by lia
  have hx:xs[k]?=ab xs[k]:=tP hlt;have hy:ys[k]?=ab ys[k]:=tP hlt2;obtain⟨key,hkey,his⟩:=hk k _ hx;refine gf lY ?_;rw[gw (show mN "dict.update.loop"=ae by decide +kernel) _];refine al (m:=gz (.ref z)) (aIp ap Z hx hy λh' p Z' hp kp=>?_);refine al (eh (al (iw ?_)));refine al (iL (T:= "tuple") ⟨_,hp,rfl⟩ ?_);rw[ao 0x4];refine al (fx hp rfl (az ?_));show wpAny _ _ (jy [xs[k],ys[k]] (yr d xs[k] ys[k])) _ _ _;have hd':h'.DictOf knd d kvs:=let ⟨o,es,ep,ho,r⟩:=hd;⟨o,es,ep,kp d o hdz hdT hd1 hd2 ho,r⟩
  obtain⟨od,es,ep,ho,hc,_⟩:=id hd';refine eh (yt his hd' (λh2 hd2' sb=>?_) 0x1);refine az ⟨lj _ 0x6,?_⟩;have ek:(du (k+1):aj)=du ((k+1:af):ah):=rfl;rw[ek];have hzip:(ks.zip ys.toList).drop k=(key,ys[k])::(ks.zip ys.toList).drop (k+1):=by
   have hlz:(ks.zip ys.toList)[k]?=ab (key,ys[k]):=by
    rw[List.getElem?_zip_eq_some];exact⟨hkey,by rw[sy];exact hy⟩
   obtain⟨h1,h2⟩:=c_.mp hlz;rw[mv h1,h2]
  have ls:(ib kvs key ys[k]).length<=kvs.length+1:=by
   unfold ib;split
   ·rw[ax];lia
   ·rw[bj];exact aS _
  refine ih (k+1) _ (ib kvs key ys[k]) 0x1 0x1 (Z'.keep ho hc.1 λc o hcd e=>(sb.2 c hcd).trans e) hd2' λh3 tk hd3 kp3=>?_
  refine q h3 tk (by rw[hzip];exact hd3) λc o c0 c1 c2 c3 c4 e=>kp3 c o c0 c1 c2 c3 c4 ((sb.2 c c0).trans (kp c o c1 c2 c3 c4 e))
end
section
variable {prog:bS} {w:bm} {K:Type} [cq K] {knd:KeyKind prog w K} {A:b5} {E:aj->am->Prop} {hp:aI} {g:ay mE} {dr:mI} {tk:af} {os:mM} {z TI TO i1 i2 l1 l2:ak} {n1 n2:af} {d1 d2:au ak} {s1 s2:ay (au aj)} {xs ys:ay aj} {ks:aa K}
theorem aEc{Q:aj->am->Prop}(hh:A.handled=ai)(ap:Apart z TI TO i1 i2 l1 l2){a b:aj}(hw:W z TI TO i1 i2 l1 l2 (tuO xs n1 d1 s1) (tuO ys n2 d2 s2) .none (.bool ag) a b 0 0 hp)(hsz:ys.size=xs.size)(hxs:xs.size<=1000)(hk:∀(i:af) (x:aj),xs[i]?=ab x->∃k,ks[i]?=ab k/\knd.is k x=ae)
 (q:∀h' tk',h'.DictOf knd hp.objs.size (iu [] (ks.zip ys.toList))->aEa z TO i1 i2 hp h'->Q (.ref hp.objs.size) ⟨h',g,dr,tk',os⟩) :
  wpAny (av prog w) A (call (.type "dict") [.ref z]) Q E ⟨hp,g,dr,tk,os⟩:=by
 have hnew:(hp.push {cls:=.type "dict",data:=.dict #[]}).DictOf knd hp.objs.size []:=sC hp;have up:∀c o,hp.get? c=ab o->(hp.push {cls:=.type "dict",data:=.dict #[]}).get? c=ab o:=λc o e=>bu _ e
 have lt:∀{c o},hp.get? c=ab o->hp.objs.size≠c:=λe=>hI (bp e)
 refine uj (Q₁:=λv s₁=>v=.ref hp.objs.size/\s₁=⟨hp.push {cls:=.type "dict",data:=.dict #[]},g,dr,tk,os⟩) yu (yw _) yx (yz _ ⟨rfl,rfl⟩) λv s₁ hv=>?_
 obtain⟨rfl,rfl⟩:=hv;have ty:(⟨hp.push {cls:=.type "dict",data:=.dict #[]},g,dr,tk,os⟩:am).TypeIs (.ref hp.objs.size) "dict":=hnew.typeIs;have ez:=up _ _ hw.z_;have tz:(⟨hp.push {cls:=.type "dict",data:=.dict #[]},g,dr,tk,os⟩:am).TypeIs (.ref z) "zip":=⟨_,ez,rfl⟩
 refine⟨ty,yA _ _,al (m:=Dr "__init__" _) (al (yB ty (az ?_)))⟩;refine al (m:=lT (.ref z)) (iL tz ?_);rw[ao 0x4];refine al (lacks ez hh λh' tk' kp=>?_);rw[ao (show(ai:au aj).isNone=ae from rfl)];refine al (li (al (wpAny_pyIter_zip (TI:=TI) (TO:=TO) (f0:=.none) (kp _ _ ez) (az ⟨lj _ 0x6,?_⟩))));have hd':h'.DictOf knd hp.objs.size []:=let ⟨o,es,ep,ho,r⟩:=hnew;⟨o,es,ep,kp _ _ ho,r⟩
 refine uR (A:=A.in1) (ks:=ks) (show A.in1.handled=ai from hh) ap (lt hw.z_) (lt hw.to) (lt hw.j1) (lt hw.j2) hsz hk xs.size 0 ⟨h',g,dr,tk',os⟩ [] 0x1 (by rw[eL,c8];lia) ⟨_,_,_,_,hw.up λc o _ e=>kp c o (up c o e),.inl ⟨rfl,rfl⟩⟩ hd' λh2 tk2 hd2 kp2=>?_
 exact⟨rfl,q h2 tk2 hd2 λc o c1 c2 c3 c4 e=>kp2 c o (λx=>lt e x.symm) c1 c2 c3 c4 (kp c o (up c o e))⟩
end
end Wz
namespace Mi
open PySem L2 PySem.SeqAt PySem.Spec PyProof.Rows
section
variable [KFrag]
theorem boot_zip:dz "zip"=ab (.type "zip"):=by decide +kernel
theorem xJ:dz "dict"=ab (.type "dict"):=by decide +kernel
theorem aB8{pr:bS}:∀{vs:aa V}{us:aa aj}{ds:aa D},b7 P H vs ds->Vals vs us->ds.all mL=ae->∃ks:aa Key,ks.map kD=ds/\ks.length=us.length/\∀(i:af)(u:aj),us[i]?=ab u->∃k,ks[i]?=ab k/\(cM pr w).is k u=ae
 |_,_,_,.nil,.nil,_=>⟨[],rfl,rfl,λi u h=>by simp at h⟩
 |v::vs,u::us,d::ds,.cons r t,.cons rv tv,h=>by
  rw[gS,aT] at h;obtain⟨ks,h1,h2,h3⟩:=aB8 t tv h.2;obtain⟨k,hk1,hk2⟩:∃k:Key,kD k=d/\(cM pr w).is k u=ae:=by
   cases r with
   |int i=>exact⟨.inl i,rfl,xX rv⟩
   |str x=>exact⟨.inr x,rfl,xX rv⟩
   |_=>cases h.1
  refine⟨k::ks,by rw[bh,hk1,h1],by rw[bc,bc,h2],λi u' hu=>?_⟩;cases i with
  |zero=>simp at hu;subst hu;exact⟨k,rfl,hk2⟩
  |succ i=>exact h3 i u' (by simpa using hu)
theorem G7(r:Rep P H v d):∀{kvs:aa (Key×V)}{ds:aa (D×D)},iJ P H kvs ds->(kvs.map (·.1)).Nodup->iJ P H (putK kvs k v) (putD ds (kD k) d)
 |_,_,.nil,_=>.cons r .nil
 |_,_,.cons (k:=k') r' t,hn=>by
  rw[bh,dj] at hn;rw[putD,aAq];by_cases h:k'=k
  ·rw[GQ h (by rw[<-h];exact hn.1),ao (bi h),h];exact .cons r t
  ·rw[GR h,aw (by simpa using h)];exact .cons r' (G7 r t hn.2)
theorem U7:∀{ks:aa Key}{vs:aa V}{ds:aa D}{kvs:aa (Key×V)}{es:aa (D×D)},b7 P H vs ds->iJ P H kvs es->(kvs.map (·.1)).Nodup->iJ P H (cY kvs (ks.zip vs)) (wF (ks.map kD) ds es)/\((cY kvs (ks.zip vs)).map (·.1)).Nodup
 |[],_,_,_,_,_,r,n=>by
  rw[xn];exact⟨by cases ‹aa D›<;>exact r,n⟩
 |k::ks,_,_,kvs,es,.nil,r,n=>⟨r,n⟩
 |k::ks,_,_,kvs,es,.cons rv tv,r,n=>U7 (ks:=ks) tv (G7 rv r n) (j8 n)
theorem aMz(r:Vals vs us):∀ks:aa Key,KV (ks.zip vs) (ks.zip us):=by
 induction r with
 |nil=>intro ks;rw[sK,sK];exact .nil
 |cons h t ih=>
  intro ks;cases ks with
  |nil=>exact .nil
  |cons k ks=>exact .cons ⟨rfl,h⟩ (ih ks)
theorem aB9{n l m:af}(hl:l<n)(hm:m<n):Wz.Apart (n+4) (n+2) (n+3) n (n+1) l m:=by
 constructor<;>(intro h;replace h:@Eq af _ _:=h;lia)
section
theorem aIq(hg:Gl X "dict")(hm:X.mg "dict"=ai)(hg2:Gl X "zip")(hm2:X.mg "zip"=ai)(ha:PA X [a,b] (gA fs rr))(hc:X.calm=ae:=by rfl)(hs2:b9 [a,b] X.env=(ag,bf a X.env)::b9 [b] X.env:=by rfl)(hpl2:(iA pos2 (b9 [b] X.env)).any (·.1)=ag:=by rfl)
 (hs:b9 [.Call (.Name "zip" p2) [a,b] [] pos2] X.env=(ag,bf (.Call (.Name "zip" p2) [a,b] [] pos2) X.env)::b9 [] X.env:=by rfl) :
  PE X (.Call (.Name "dict" p) [.Call (.Name "zip" p2) [a,b] [] pos2] [] pos) (gE (aK yU fs) ae):=by
 rintro pins s σ H Q I ⟨ρ,d,E,h,q⟩;obtain⟨xs,h1,h2⟩:=bI h;unfold yU at h2;split at h2
 ·rename_i xs ys;split at h2
  ·rename_i hb;cases h2;simp only[aT,dL] at hb;obtain⟨⟨⟨hb1,hb2⟩,hb3⟩,hb4⟩:=hb;refine hZ (kO I hg hm xJ ?_);refine ik ?_ hs rfl;rw[hs];show wpAny _ _ (jx ((ag,bf (.Call (.Name "zip" p2) [a,b] [] pos2) X.env)::iA pos (b9 [] X.env))) _ _ s;refine kG ?_;refine hZ (kO I hg2 hm2 boot_zip ?_);refine ik (thn (ha pos2 pins s σ H (λvs H1=>cH H H1/\b7 All H1 vs [.tup xs,.tup ys]) I ⟨ρ,_,E,h1,λvs H1 s1 r1 _=>⟨s1,r1⟩⟩) λus s1 ⟨vs,H1,I1,r1,sm,rp⟩=>?_) hs2 hpl2;cases rp with
   |cons rp1 rp=>
    cases rp with
    |cons rp2 rp=>
     cases rp;obtain⟨l1,vs1,rfl,e1,rr1⟩:=rp1.fG;obtain⟨l2,vs2,rfl,e2,rr2⟩:=rp2.fG;cases r1 with
     |cons q1 r1=>
      cases r1 with
      |cons q2 r1=>
       cases r1;cases q1;cases q2;obtain⟨its1,w1,p1,_⟩:=I1.tuple (.of e1);obtain⟨its2,w2,p2,_⟩:=I1.tuple (.of e2);have t1:s1.heap.IsTuple l1 its1.toArray:=p1;have t2:s1.heap.IsTuple l2 its2.toArray:=p2;obtain⟨⟨c1,dd1,da1,sl1⟩,g1,hc1,m1,hd1⟩:=id p1;obtain⟨⟨c2,dd2,da2,sl2⟩,g2,hc2,m2,hd2⟩:=id p2;simp only at hc1 hd1 hc2 hd2;subst hc1 hd1 hc2 hd2;have hl1:=bp g1;have hl2:=bp g2;refine Wz.aMx t1 t2 λh' n hn z1 z2 z3 z4 z5 kp zsz=>?_
       subst hn;refine kF ?_;have n1:=w1.length;have n2:=w2.length;have m1:=rr1.length;have m2:=rr2.length;obtain⟨ks,k1,k2,k3⟩:=aB8 rr1 w1 hb3;refine Wz.aEc (I1.ok.hd hc) (aB9 hl1 hl2) ⟨z5,z3,z4,z1,z2,kp _ _ g1,kp _ _ g2⟩ (by simp only[bX];lia) (by simp only[bX];lia) (λi u hu=>k3 i u (by simpa using hu)) λh2 tk dd kp2=>?_
       have hfr:H1 h'.objs.size=ai:=I1.hok.fresh (by rw[zsz];lia);have kall:∀c o,s1.heap.get? c=ab o->h2.get? c=ab o:=λc o e=>by
        have:=bp e;exact kp2 c o (ck (c5 this (mP _ 4))) (ck (c5 this (mP _ 3))) (ck this) (ck (c5 this (mP _ 1))) (kp c o e)
       have rel:KV (cY [] (ks.zip vs2)) (iu [] (ks.zip its2)):=(aMz w2 ks).merge .nil;have hz:(cY [] (ks.zip vs2)).length<=ba:=by
        have:=fM (ks.zip vs2) [];rw[eL,BI] at this;rw[c8];lia
       obtain⟨rk,nd⟩:=U7 (rr2) iJ.nil fA;rw[k1] at rk;have sp:cH H1 (upd H1 h'.objs.size (.dK (cY [] (ks.zip vs2)))):=cH.upd hfr;have pv:D.aW ((wF xs ys []).map (·.2))=ae:=by
        have go:∀(a b:aa D)(m:aa (D×D)),D.aW b=ae->D.aW (m.map (·.2))=ae->D.aW ((wF a b m).map (·.2))=ae:=by
         intro a;induction a with
         |nil=>intro b m _ hm;cases b<;>exact hm
         |cons x a ih=>
          intro b m hb hm;cases b with
          |nil=>exact hm
          |cons y b=>
           rw[D.aW,aT] at hb;refine ih b _ hb.2 ?_;have hp:=o8 (ds:=m) (k:=x) hb.1 hm;exact hp
        exact go xs ys [] hb4 rfl
       have rk2:∀{P:ak->Prop},iJ P (upd H1 h'.objs.size (.dK (cY [] (ks.zip vs2)))) (cY [] (ks.zip vs2)) (wF xs ys []):=λ{P}=>(rk.keep (.same sp) λ_ h=>h).b8 pv
       refine⟨.ref h'.objs.size,_,I1.laid (a:=h'.objs.size) (t':=tk) (o:=.dK (cY [] (ks.zip vs2))) kall (by rw[zsz];lia) (BW hz (fF.mpr ?_) rel (by simpa using dd)),rfl,?_⟩
       ·exact cj (ck (c5 I1.big (by rw[zsz];exact mP _ 5)))
       ·exact q _ _ (sm.trans sp) (.dK aM trivial rk2 nd) λ_=>.dK aM (sm.free hfr) rk2 nd
  ·exact bx h2
 ·exact bx h2
end
end
noncomputable def Q0(i j:af):FS:=λρ=>match ρ.getD i .uD with
 |.lst xs=>(match xs[xs.length-1]? with|some x=>.ok (.nx ((ρ.set i (.lst xs.dropLast)).set j x))|none=>.bad)
 |_=>.bad
def aN0(i:af)(f:FE):FS:=λρ=>do
 let d <- f ρ
 match ρ.getD i .uD,d with
 |.lst xs,.lst ys=>if decide (xs.length+ys.length<=lim)&&D.aW ys then .ok (.nx (ρ.set i (.lst (xs++ys)))) else .bad
 |_,_=>.bad
section
variable [KFrag]
section
variable {X:Cx} {own:af->aq} {e:Expr} {fe:FE} {re:aq} {pos:cn}
theorem aIr{i j:af}{x y:Str}{p1 py apos cpos:cn}(ho:own i=ae)(hN:X.N[i]?=ab x)(hv:Vis X.env.scope x)(hnd:X.N.Nodup)(hj:X.N[j]?=ab y)(hy:Loc X.env.scope y)(hoj:own j=ag)(hd:nDb x:=by decide)(hcd:nCd x:=by decide)
 (hbase:gL (.Name x p1) "pop" X.env (bf (.Name x p1) X.env)=bf (.Name x p1) X.env:=by rfl)
 (hline:(apos.endLine==cpos.line)=ae:=by rfl)
 (hs:d5 (.Call (.Attribute (.Name x p1) "pop" apos) [] [] cpos) (ab (.Name y py)) pos.line X.env=pure ag:=by rfl)(hf:zFn X y:=by first|exact .inl rfl|exact .inr rfl|assumption) :
  PS X (.Assign [.Name y py] (.Call (.Attribute (.Name x p1) "pop" apos) [] [] cpos) pos) (tS own (Q0 i j)):=
 PS.imp (BJ hnd hj hy (aLv la sA Bu aLx (jD hN hv hd hcd) hbase hline) hs hf) λD' σ H z0=>by
 obtain⟨ρ,fl,E,h,q⟩:=z0;unfold Q0 at h;split at h
 ·rename_i xs hx;split at h
  ·rename_i dx hdx;cases h;obtain⟨a,o,hσ,r,hin,ha,hm⟩:=E.ownAt ho (by rw[hx];intro z;cases z);rw[hx] at r hin;obtain⟨vs,hl,rr⟩:=CJ r;obtain⟨v,hvx,rv⟩:=rr.get hdx;have hlen:=rr.length;refine⟨_,hσ,.inl ⟨rfl,vs,.of hl⟩,a,vs,v,rfl,rfl,hl,by rw[hlen];exact hvx,?_⟩;have hin':D.aW xs=ae:=hin;have pall:∀y∈xs,y.pure=ae:=λy hy=>j7.mp hin' y hy
   have pdx:dx.pure=ae:=pall dx (nE hdx);have pe:D.aW xs.dropLast=ae:=j7.mpr λy hy=>pall y (List.dropLast_subset _ hy)
   have er:b7 All H vs.dropLast xs.dropLast:=by
    rw[BM,BM,hlen];exact rr.take _
   obtain⟨E2,k2⟩:=E.mut (o:=.lst vs.dropLast) (d:=.lst xs.dropLast) ho hσ rfl (.lst aM trivial (er.upd pe hl rfl)) pe;have r1:=(b7.cons rv .nil).upd (o:=.lst vs.dropLast) (by rw[D.aW,pdx];rfl) hl rfl;cases r1 with
   |cons r1 _=>
    have E3:=E2.set hoj (v:=v) (d:=dx) (r1.b8 pdx);exact q _ _ (k2.trans λb ob eb nb=>⟨eb,by rw[lH hoj];exact nb⟩) E3
  ·exact bx h
 ·exact bx h
theorem aN1{i:af}{x:Str}{p1 apos cpos:cn}(ho:own i=ae)(hN:X.N[i]?=ab x)(hv:Vis X.env.scope x)(he:PE X e (gE fe re))(hd:nDb x:=by decide)(hcd:nCd x:=by decide)
 (hbase:gL (.Name x p1) "extend" X.env (bf (.Name x p1) X.env)=bf (.Name x p1) X.env:=by rfl)
 (hs1:zSE X e []:=by rfl)
 (hfew:zFw X cpos [e]:=by rfl)
 (hline:(apos.endLine==cpos.line)=ae:=by rfl)
 (hs:d5 (.Call (.Attribute (.Name x p1) "extend" apos) [e] [] cpos) ai pos.line X.env=pure ag:=by rfl) :
  PS X (.Expr (.Call (.Attribute (.Name x p1) "extend" apos) [e] [] cpos) pos) (tS own (aN0 i fe)):=
 PS.imp (vB (W4 la xc BN JW (jD hN hv hd hcd) (fV he lM hs1) hbase hfew hline hs1 rfl) hs) λD' σ H z0=>by
 obtain⟨ρ,fl,E,h,q⟩:=z0;obtain⟨d,h1,h2⟩:=bI h;split at h2
 ·rename_i xs ys hx;split at h2
  ·rename_i hk;cases h2;rw[aT,dL] at hk;obtain⟨a,o,hσ,r,hin,ha,hm⟩:=E.ownAt ho (by rw[hx];intro z;cases z);rw[hx] at r hin;obtain⟨vs,hl,rr⟩:=CJ r;refine⟨_,hσ,.inl ⟨rfl,vs,.of hl⟩,ρ,_,E.er,h1,λv H' s rv _=>?_⟩;obtain⟨b,zs,rfl,hb,_,rz⟩:=rv.inv;have E':=E.same s;have hl':=s _ _ hl;refine⟨a,b,vs,zs,rfl,rfl,hl',hb,by rw[rr.length,rz.length];exact c9 hk.1 (by rw[c8];decide),?_⟩;have hp:D.aW (xs++ys)=ae:=by rw[lW,aT];exact⟨hin,hk.2⟩
   obtain⟨E2,k2⟩:=E'.mut (o:=.lst (vs++zs)) (d:=.lst (xs++ys)) ho hσ rfl (.lst aM trivial (((rr.same s).append rz).upd hp hl' rfl)) hp;exact q _ _ ((KU.same s).trans k2) E2
  ·exact bx h2
 ·exact bx h2
end
end
noncomputable abbrev FX:=aa D->Res (D×aa D)
noncomputable abbrev FXA:=aa D->Res (aa D×aa D)
noncomputable def aKx:D->au (aa D)
 |.lst xs=>ab xs
 |.cel _ xs=>ab xs
 |_=>ai
noncomputable def aIs:FXA:=λρ=>.ok ([],ρ)
noncomputable def XN(f:FX)(g:FXA):FXA:=λρ=>do
 let p <- f ρ
 let q <- g p.2
 if p.1.pure then .ok (p.1::q.1,q.2) else .bad
noncomputable def wG(f:FE)(g:FXA):FXA:=λρ=>do
 let d <- f ρ
 let q <- g ρ
 if d.pure then .ok (d::q.1,q.2) else .bad
def aN2(f:FXA):FX:=λρ=>do
 let p <- f ρ
 if decide (p.1.length<=lim)&&D.aW p.1 then .ok (.tup p.1,p.2) else .bad
def K4(o:aq)(i:af)(f:FX):FS:=λρ=>do
 let p <- f ρ
 if (if o then inner p.1 else ae) then .ok (.nx (p.2.set i p.1)) else .bad
noncomputable def bPu(f:FE):FE:=λρ=>do
 let d <- f ρ
 if d.pure then .ok d else .bad
section
variable [KFrag]
section
variable {own:af->aq}
theorem aBa(r:Rep P H (.ref a) d)(h:aKx d=ab xs):∃vs,H a=ab (.lst vs)/\P a/\b7 P H vs xs:=by
 cases d<;>simp only[aKx] at h<;>cases h<;>cases r
 ·exact⟨_,by assumption,by assumption,by assumption⟩
 ·exact⟨_,by assumption,by assumption,by assumption⟩
theorem aBb(r:Rep P H v (.cel b xs)):v=.ref b:=by cases r;rfl
theorem aN3(h:aKx d=ab xs):inner d=D.aW xs:=by
 cases d<;>simp only[aKx] at h<;>cases h<;>rfl
theorem aN4(h:aKx d=ab xs):d≠.uD:=λz=>by subst z;cases h
theorem ES.aR5(E:ES own H σ ρ)(ho:own i=ae)(hi:σ[i]?=ab (ab (.ref a)))(hk:∀b ob,H b=ab ob->b≠a->H' b=ab ob)(e:H' a=ab o)(hm:TF o=ae)(r:Rep All H' (.ref a) d)(hin:inner d=ae) :
  ES own H' σ (ρ.set i d)/\KU own σ H σ H':=by
 have hOa:Own own σ a:=⟨i,ho,hi⟩
 obtain⟨a',oa,ea,_,_,hHa,hma,huq⟩:=E.own i _ ho hi;cases ea;have k:KU own σ H σ H':=λb ob e n=>⟨hk b ob e (λz=>by subst z;exact n hOa),n⟩
 have hl:i<ρ.length:=by rw[<-E.len];exact(c_.mp hi).1
 refine⟨⟨by simp[E.len],λj hj=>?_,λj w hj hw=>?_⟩,k⟩
 ·rw[dH] at hj ⊢;by_cases h:i=j/\i<ρ.length
  ·obtain⟨rfl,_⟩:=h;exact⟨_,hi,λz=>by rw[ho] at z;cases z⟩
  ·rw[aw h] at hj ⊢;obtain⟨w,h1,h2⟩:=E.at_ j hj;exact⟨w,h1,λhj=>k.rep E (h2 hj)⟩
 ·by_cases hij:i=j
  ·subst hij;rw[hi] at hw;cases hw;rw[dH,ao ⟨rfl,hl⟩];exact⟨a,o,rfl,r,hin,e,hm,huq⟩
  ·rw[dH,aw λz=>hij z.1];obtain⟨b,ob,h1,h2,h3,h4,h5,h6⟩:=E.own j w hj hw;subst h1;have hba:b≠a:=λz=>by subst z;exact hij (h6 i ho hi)
   refine⟨b,ob,rfl,?_,h3,hk _ _ h4 hba,h5,h6⟩;refine(h2.aKv (P':=λc=>c=b) h3 rfl).keep (λc oc hc hp=>?_) λ_ _=>trivial
   refine hk _ _ hc λz=>?_
   subst z;rcases hp with hp|hp
   ·exact hba hp.symm
   ·rw[hHa] at hc;cases hc;rw[hma] at hp;cases hp
def NS(own:af->aq)(ρ ρ':aa D):Prop:=∀i,own i=ag->ρ'.getD i .uD=ρ.getD i .uD
theorem NS.refl:NS own ρ ρ:=λ_ _=>rfl
theorem NS.trans(a:NS own ρ ρ1)(b:NS own ρ1 ρ2):NS own ρ ρ2:=λi h=>(b i h).trans (a i h)
theorem NS.set(ho:own i=ae):NS own ρ (ρ.set i d):=λj hj=>by
 rw[dH,aw];rintro⟨rfl,_⟩;rw[ho] at hj;cases hj
def kX(own:af->aq)(σ:L2.St)(H:Hp)(ρ:aa D)(d:D)(ρ':aa D)(Q:VK):Prop:=∀v H',KU own σ H σ H'->ES own H' σ ρ'->NS own ρ ρ'->Rep (New H) H' v d->Q v H'
noncomputable def gX(own:af->aq)(f:FX):TE:=λσ H Q=>∃ρ d ρ',ES own H σ ρ/\f ρ=.ok (d,ρ')/\kX own σ H ρ d ρ' Q
noncomputable def gXA(own:af->aq)(f:FXA):TA:=λσ H Q=>∃ρ d ρ',ES own H σ ρ/\f ρ=.ok (d,ρ')/\∀vs H',KU own σ H σ H'->ES own H' σ ρ'->NS own ρ ρ'->b7 (New H) H' vs d->Q vs H'
noncomputable def gAO(own:af->aq)(f:FA):TA:=λσ H Q=>∃ρ ds,ES own H σ ρ/\f ρ=.ok ds/\∀vs H',cH H H'->b7 (λa=>¬Own own σ a) H' vs ds->Q vs H'
theorem aBc(k:KU own σ H σ H1)(E1:ES own H1 σ ρ1)(h:H1 a=ai):H a=ai:=by
 cases q:H a with
 |none=>rfl
 |some o=>
  by_cases n:Own own σ a
  ·obtain⟨o',e,_⟩:=E1.live n;rw[h] at e;cases e
  ·have:=(k a o q n).1;rw[h] at this;cases this
theorem aBd(E:ES own H σ ρ)(h:H a=ai):¬Own own σ a:=λn=>by
 obtain⟨o',e,_⟩:=E.live n;rw[h] at e;cases e
theorem aIt(E:ES own H σ ρ)(E1:ES own H1 σ ρ1)(k:KU own σ H1 σ H2):BZ (New H) H1 H2:=λa o e hp=>by
 refine(k a o e ?_).1;rcases hp with hp|hp
 ·exact aBd E hp
 ·intro n;obtain⟨o',e',hm⟩:=E1.live n;rw[e] at e';cases e';rw[hp] at hm;cases hm
theorem Rep.ku(r:Rep (New H) H1 v d)(E:ES own H σ ρ)(E1:ES own H1 σ ρ1)(k:KU own σ H1 σ H2):Rep (New H) H2 v d:=r.keep (aIt E E1 k) λ_ h=>h
theorem ES.aS5(E:ES own H σ ρ)(k:KU own σ H σ H')(E':ES own H' σ ρ')(ns:NS own ρ ρ')(ho:own i=ae)(hn:H a=ai)(r:Rep All H' (.ref a) d)(hin:inner d=ae)(ha:H' a=ab o)(hm:TF o=ae) :
  ES own H' (σ.set i (ab (.ref a))) (ρ'.set i d)/\KU own σ H (σ.set i (ab (.ref a))) H':=by
 have hO:∀b,H b≠ai->¬Own own σ b->¬Own own (σ.set i (ab (.ref a))) b:=λb hb n z0=>by
  obtain⟨j,hj,e⟩:=z0;by_cases hij:i=j
  ·subst hij;by_cases hl:i<σ.length
   ·rw[fS hl] at e;cases e;exact hb hn
   ·rw[iz,ao rfl,aw hl] at e;cases e
  ·rw[de hij] at e;exact n ⟨j,hj,e⟩
 have hna:¬Own own σ a:=aBd E hn;refine⟨⟨by simp[E'.len],λj hj=>?_,λj w hj hw=>?_⟩,λb ob e n=>⟨(k b ob e n).1,hO b (by rw[e];simp) n⟩⟩
 ·rw[dH] at hj ⊢;by_cases h:i=j/\i<ρ'.length
  ·rw[ao h];obtain⟨rfl,hl⟩:=h;exact⟨.ref a,by rw[fS (by rw[E'.len];exact hl)],λz=>by rw[ho] at z;cases z⟩
  ·rw[aw h] at hj ⊢;obtain⟨w,h1,h2⟩:=E'.at_ j hj;by_cases hij:i=j
   ·subst hij;have:i<σ.length:=(c_.mp h1).1;rw[E'.len] at this;exact aE ⟨rfl,this⟩ h
   ·refine⟨w,by rw[de hij];exact h1,λhoj=>?_⟩;rw[ns j hoj] at hj ⊢;obtain⟨w',h1',h2'⟩:=E.at_ j hj;rw[h1] at h1';cases h1';exact(h2' hoj).dom.keep (λc oc hc hp=>k.keep E c oc hc (hp.imp And.left id)) λb ⟨n,hb⟩=>hO b hb n
 ·by_cases hij:i=j
  ·subst hij;have hl:i<σ.length:=by
    have:=(c_.mp hw).1;simpa using this
   rw[fS hl] at hw;cases hw;rw[dH,ao ⟨rfl,by rw[<-E'.len];exact hl⟩];refine⟨a,o,rfl,r,hin,ha,hm,λk hk hs=>?_⟩;by_cases hik:i=k
   ·exact hik.symm
   ·rw[de hik] at hs;exact aE ⟨k,hk,hs⟩ hna
  ·rw[de hij] at hw;rw[dH,aw λz=>hij z.1];obtain⟨b,ob,h1,h2,h3,h4,h5,h6⟩:=E'.own j w hj hw;refine⟨b,ob,h1,h2,h3,h4,h5,λk hk hs=>?_⟩;by_cases hik:i=k
   ·subst hik;by_cases hl:i<σ.length
    ·rw[fS hl] at hs;cases hs;subst h1;exact aE ⟨j,hj,hw⟩ hna
    ·rw[iz,ao rfl,aw hl] at hs;cases hs
   ·rw[de hik] at hs;exact h6 k hk hs
end
section
variable {own:af->aq} {X:Cx} {a e:Expr} {pos pos':cn} {fe:FE} {re:aq} {xe:FX}
theorem aN5(E:ES own H σ ρ)(ho:own i=ag)(h:h_ i ρ=.ok d):∃v,σ[i]?=ab (ab v)/\Rep (λa=>¬Own own σ a) H v d:=by
 obtain⟨v,hv,r,e⟩:=E.er.var h;have hne:ρ.getD i .uD≠.uD:=λz=>by
  rw[z] at e;subst e;exact Rep.uD r
 obtain⟨w,hw,hr⟩:=E.at_ i hne;rw[hv] at hw;cases hw;have r2:=hr ho;rw[e] at r2;exact⟨v,hv,r2⟩
theorem aG4:PA X [] (gXA own aIs):=PA.imp lM λσ H Q z0=>by obtain⟨ρ,ds,ρ',E,h,q⟩:=z0;cases h;exact q [] H (.same (cH.refl H)) E .refl .nil
theorem aBe(he:PE X e (gX own xe))(hes:PA X es (gXA own f))(hs:zSE X e es:=by rfl):PA X (e::es) (gXA own (XN xe f)):=PA.imp (fV he hes hs) λσ H Q z0=>by
 obtain⟨ρ,ds,ρ',E,h,q⟩:=z0;obtain⟨⟨x,ρ1⟩,h1,h⟩:=bI h;obtain⟨⟨xs,ρ2⟩,h2,h⟩:=bI h;split at h
 ·rename_i hp;cases h;refine⟨ρ,x,ρ1,E,h1,λv H1 k1 E1 ns1 r1=>⟨ρ1,xs,ρ2,E1,h2,λvs H2 k2 E2 ns2 r2=>q _ _ (k1.trans k2) E2 (ns1.trans ns2) (.cons (r1.ku E E1 k2) (r2.mono λa ha=>aBc k1 E1 ha))⟩⟩
 ·exact bx h
theorem U8(he:PE X e (gE fe re))(hes:PA X es (gXA own f))(hs:zSE X e es:=by rfl):PA X (e::es) (gXA own (wG fe f)):=PA.imp (fV he hes hs) λσ H Q z0=>by
 obtain⟨ρ,ds,ρ',E,h,q⟩:=z0;obtain⟨x,h1,h⟩:=bI h;obtain⟨⟨xs,ρ2⟩,h2,h⟩:=bI h;split at h
 ·rename_i hp;cases h;refine⟨ρ,x,E.er,h1,λv H1 s1 r1 _=>⟨ρ,xs,ρ2,E.same s1,h2,λvs H2 k2 E2 ns2 r2=>?_⟩⟩;have rn:Rep (New H) H1 v x:=r1.b8 hp;exact q _ _ ((KU.same s1).trans k2) E2 ns2 (.cons (rn.ku E (E.same s1) k2) (r2.mono λa ha=>s1.free ha))
 ·exact bx h
theorem aG5{x1}(h:PA X es (gXA own f)):PE X (.Tuple es x1 pos) (gX own (aN2 f)):=PE.imp (ZW h) λσ H Q z0=>by
 obtain⟨ρ,d,ρ',E,h,q⟩:=z0;obtain⟨⟨xs,ρ1⟩,h1,h⟩:=bI h;split at h
 ·rename_i hl;cases h;rw[aT] at hl;refine⟨ρ,xs,_,E,h1,λvs H1 k1 E1 ns r1=>⟨?_,λp hp=>?_⟩⟩
  ·rw[r1.length];exact c9 (dh hl.1) (by rw[c8];decide)
  ·have sp:cH H1 (upd H1 p (.tup vs)):=cH.upd hp;exact q _ _ (k1.trans (.same sp)) (E1.same sp) ns (.tup aM (r1.same sp))
 ·exact bx h
theorem aEd(ho:own i=o)(h:tS own (K4 o i xe) D' σ H):aKp (gX own xe) (wW i) D' σ H:=by
 obtain⟨ρ,fl,E,h,q⟩:=h;obtain⟨⟨d,ρ1⟩,h1,h2⟩:=bI h;cases o with
 |true=>
  simp only[eB] at h2;split at h2
  ·rename_i hk;cases h2;refine⟨ρ,d,ρ1,E,h1,λv H' k E1 ns r=>?_⟩;obtain⟨a,ob,rfl,hn,ha,hm⟩:=CG r hk;obtain⟨E2,k2⟩:=E.aS5 k E1 ns ho hn r.all hk ha hm;exact q _ H' k2 E2
  ·exact bx h2
 |false=>
  simp only[iX,gN,eB] at h2;cases h2;refine⟨ρ,d,ρ1,E,h1,λv H' k E1 ns r=>?_⟩;exact q _ H' (λa ob e hn=>⟨(k a ob e hn).1,by rw[lH ho];exact hn⟩) (E1.set ho (aAv E r))
theorem aG6(ho:own i=o)(hN:X.N.Nodup)(hi:X.N[i]?=ab x)(hx:Loc X.env.scope x)(he:PE X e (gX own xe))(hs:zSw X e x pos' pos:=by rfl)(hf:zFn X x:=by first|exact .inl rfl|exact .inr rfl|assumption) :
  PS X (.Assign [.Name x pos'] e pos) (tS own (K4 o i xe)):=PS.imp (BJ hN hi hx he hs hf) λ_ _ _=>aEd ho
end
section
variable {own:af->aq} {X:Cx} {a b e:Expr} {pos:cn} {fe:FE} {re:aq}
theorem kRt.new{D:Ends}(h:kRt own D σ H (.tup (d0::ρ')))(hx:own rtX=ae):∀v σ' H',KU own σ H σ' H'->ES own H' σ' ρ'->Rep (λa=>(Own own σ a\/H a=ai)/\∀i b xs,ρ'.getD i .uD=.cel b xs->a≠b) H' v d0->D.rt v H':=by
 unfold kRt at h;rw[ao hx] at h;obtain⟨d1,ρ1,e,g⟩:=h;cases e;exact g
theorem aBf(E:ES own H σ ρ){i b:af}{xs:aa D}(h:ρ.getD i .uD=.cel b xs):∃vs,σ[i]?=ab (ab (.ref b))/\H b=ab (.lst vs):=by
 obtain⟨v,h1,h2⟩:=E.er i (by rw[h];intro z;cases z);rw[h] at h2;obtain⟨_,rfl,e,_,_⟩:=h2.inv;exact⟨_,h1,e⟩
theorem Q3(he:PE X e (gE fe re))(hx:own rtX=ae:=by rfl):PS X (.Return (ab e) pos) (tS own (W8 fe re)):=PS.imp (ZG he) λD σ H z0=>by
 obtain⟨ρ,fl,E,h,q⟩:=z0;obtain⟨d,h1,h2⟩:=bI h;split at h2
 ·rename_i hk;cases h2;refine⟨ρ,d,E.er,h1,λv H' s r n=>kRt.new q hx v σ H' (.same s) (E.same s) ?_⟩;rw[f_] at hk;rcases hk with hk|hk
  ·refine(n hk).mono λa ha=>⟨.inr ha,λi b xs hb z=>?_⟩
   obtain⟨vs,_,e⟩:=aBf E hb;subst z;rw[show H a=ai from ha] at e;cases e
  ·exact r.b8 hk
 ·exact bx h2
theorem K5:PA X [] (gAO own aL):=PA.imp lM λσ H Q z0=>by obtain⟨ρ,ds,E,h,q⟩:=z0;cases h;exact q [] H (cH.refl H) .nil
theorem aBg(ho:own i=ag)(hN:X.N[i]?=ab x)(hv:Vis X.env.scope x)(hes:PA X es (gAO own f))(hd:nDb x:=by decide)(hcd:nCd x:=by decide)(hs:b9 (.Name x pos::es) X.env=(ag,bf (.Name x pos) X.env)::b9 es X.env:=by rfl):PA X (.Name x pos::es) (gAO own (aA (h_ i) f)):=PA.imp (fV (jD hN hv hd hcd) hes hs) λσ H Q z0=>by
 obtain⟨ρ,ds,E,h,q⟩:=z0;obtain⟨x,h1,h⟩:=bI h;obtain⟨xs,h2,h⟩:=bI h;cases h;obtain⟨v,hv,rv⟩:=aN5 E ho h1;exact⟨v,hv,ρ,xs,E,h2,λvs H2 s2 r2=>q _ _ s2 (.cons (rv.same s2) r2)⟩
theorem aEe(he:PE X e (gE fe re))(hes:PA X es (gAO own f))(hs:zSE X e es:=by rfl):PA X (e::es) (gAO own (aA (bPu fe) f)):=PA.imp (fV he hes hs) λσ H Q z0=>by
 obtain⟨ρ,ds,E,h,q⟩:=z0;obtain⟨x,h1,h⟩:=bI h;obtain⟨xs,h2,h⟩:=bI h;cases h;obtain⟨y,h3,h1⟩:=bI h1;split at h1
 ·rename_i hp;cases h1;exact⟨ρ,_,E.er,h3,λv H1 s1 r1 _=>⟨ρ,xs,E.same s1,h2,λvs H2 s2 r2=>q _ _ (s1.trans s2) (.cons ((r1.b8 hp).same s2) r2)⟩⟩
 ·exact bx h1
theorem vL(E:ES own H σ ρ)(ho:own i=ae)(h:aKx (ρ.getD i .uD)=ab xs):∃a vs,σ[i]?=ab (ab (.ref a))/\H a=ab (.lst vs)/\b7 All H vs xs/\D.aW xs=ae/\Rep All H (.ref a) (ρ.getD i .uD)/\∀b,ρ.getD i .uD=.cel b xs->b=a:=by
 obtain⟨a,o,hσ,r,hin,ha,hm⟩:=E.ownAt ho (aN4 h);obtain⟨vs,e,_,rr⟩:=aBa r h;exact⟨a,vs,hσ,e,rr,by rw[aN3 h] at hin;exact hin,r,λb hb=>by rw[hb] at r;have:=aBb r;cases this;rfl⟩
end
end
def aR6:D->D->D->D->Res D
 |.str a,.int i,.str b,.int j=>.ok (.dct (putD [(.str a,.int i)] (.str b) (.int j)))
 |_,_,_,_=>.bad
def aIu(k v l w:FE):FE:=λρ=>do
 let k <- k ρ
 let v <- v ρ
 let l <- l ρ
 let w <- w ρ
 aR6 k v l w
section
variable [KFrag]
section
variable {X:Cx} {a b e:Expr} {pos:cn}
theorem XQ{a:ak}{vs:aa V}(I:Inv X pins σ H s)(e:H a=ab (.lst vs)):∃o,Inv X pins σ (upd H a (.frz o (.lst vs))) s:=by
 obtain⟨its,n,r,ho,hz⟩:=I.lst e;refine⟨_,I.write (by rw[e];trivial) (.inl rfl) (λ_ _ _ q=>q) ⟨_,ho⟩ ⟨ho,hz,its,n,r,ho⟩⟩
theorem aIv{r1 r2 r3 r4:aq}(hk1:PE X k1 (gE g1 r1))(hv1:PE X v1 (gE h1 r2))(hk2:PE X k2 (gE g2 r3))(hv2:PE X v2 (gE h2 r4)):PE X (.Dict [ab k1,ab k2] [v1,v2] pos) (gE (aIu g1 h1 g2 h2) ae):=
 PE.imp (aHs (S7 hk1 hv1 (S7 hk2 hv2 aHr)) rfl rfl 0x2 (dw rfl)) λσ H Q z0=>by
 obtain⟨ρ,d,E,h,q⟩:=z0;obtain⟨a1,e1,hA⟩:=bI h;obtain⟨a2,e2,hB⟩:=bI hA;obtain⟨a3,e3,hC⟩:=bI hB;obtain⟨a4,e4,hD⟩:=bI hC;clear h hA hB hC;unfold aR6 at hD;split at hD
 ·rename_i x i y j;cases hD;intro p hp;have s0:cH H (upd H p (.dK [])):=cH.upd hp;refine⟨ρ,_,E.same s0,e1,λw1 H1 s1 q1 _=>?_⟩;cases q1.inv;refine⟨ρ,_,(E.same s0).same s1,e2,λw2 H2 s2 q2 _=>?_⟩;cases q2.inv;refine⟨ρ,_,((E.same s0).same s1).same s2,e3,λw3 H3 s3 q3 _=>?_⟩;cases q3.inv;refine⟨ρ,_,(((E.same s0).same s1).same s2).same s3,e4,λw4 H4 s4 q4 _=>?_⟩;cases q4.inv;have sm:cH (upd H p (.dK [])) H4:=((s1.trans s2).trans s3).trans s4;refine⟨sm _ _ aM,[(.inr x,.int i),(.inr y,.int j)],rfl,dw rfl,?_⟩;have sf:cH H (upd H4 p (.dK (cY [] [(fE x,V.int i),(fE y,V.int j)]))):=λb o e=>by
   rw[bG (dO e hp)];exact sm b o (s0 b o e)
  have rk:∀P:ak->Prop,iJ P (upd H4 p (.dK (cY [] [(fE x,V.int i),(fE y,V.int j)]))) (putK [(fE x,V.int i)] (fE y) (V.int j)) (putD [(.str x,.int i)] (.str y) (.int j)):=λP=>xH (.int j) (.cons (.int i) .nil) 0x2
  have nd:((putK [(fE x,V.int i)] (fE y:Key) (V.int j)).map (·.1)).Nodup:=j8 0x2;exact q _ _ sf (.dK aM trivial (rk All) nd) λ_=>.dK aM hp (rk _) nd
 ·exact bx hD
end
end
theorem Q4:dz "reversed"=ab (.type "reversed"):=by decide +kernel
variable [KFrag]
theorem b7.rev{P:ak->Prop}{H:Hp}:∀{vs:aa V}{ds:aa D},b7 P H vs ds->b7 P H vs.reverse ds.reverse
 |_,_,.nil=>.nil
 |_,_,.cons r t=>by rw[iO,iO];exact t.rev.snoc r
theorem aBh{ds:aa D}(h:D.aW ds=ae):D.aW ds.reverse=ae:=j7.mpr λy hy=>j7.mp h y (BO.mp hy)
theorem aEf{xs:aa V}{its acc:aa aj}(r:Vals xs its)(hl:acc.length=its.length)(h:∀j v,acc[j]?=ab v->its[its.length-1-j]?=ab v):Vals xs.reverse acc:=by
 have e:acc=its.reverse:=by
  refine BQ λj=>?_
  by_cases hj:j<its.length
  ·have h1:acc[j]?=ab (acc[j]' 0x1):=ef 0x1;have h2:=h j _ h1;rw[h1,List.getElem?_reverse hj,h2]
  ·rw[um 0x1,um (by rw[mz];lia)]
 rw[e];clear e h hl;induction r with
 |nil=>exact .nil
 |cons h t ih=>
  rw[iO,iO];exact ih.append (.cons h .nil)
end Mi
namespace Wl
open PySem PySem.Spec
noncomputable abbrev liO(xs:ay aj)(n:af):bd:={cls:=.type "list",data:=.seq xs n}
theorem KZ:j3 (.type "list") "keys"=pure ai:=by rw[kj,ko];kernel_rfl
theorem noGet:j3 (.type "list") "__getattr__"=pure ai:=by rw[kj,ko];kernel_rfl
theorem K3:uf ug "list.__getattribute__"=ab dq.«object.__getattribute__»:=yi (id':= "object.__getattribute__") 0x8 0x6 0x6 0x8
theorem j9(a:ak)(xs:ay aj)(n:af)(u:dQ):jo (dq.«object.__getattribute__» ⟨[.ref a,.str "keys" u],[]⟩) (λA R s=>s.heap.get? a=ab (liO xs n)/\yj (.ref a) "keys" A R s):=.of_wp λprog w A R s hs=>by
 obtain⟨hp,g,d,tk,os⟩:=s;obtain⟨e,hh,q⟩:=hs;have ty:(⟨hp,g,d,tk,os⟩:am).TypeIs (.ref a) "list":=⟨_,e,rfl⟩
 have no:=KZ
 wp_walk
 exact yk hh q (yl 0x6 (by size_fits))
section
variable {prog:bS} {w:bm} {A:b5} {E:aj->am->Prop} {hp:aI} {g:ay mE} {d:mI} {tk:af} {os:mM} {a:ak} {xs:ay aj} {n:af}
theorem gone(e:hp.get? a=ab (liO xs n))(hh:A.handled=ai)(hk:kw=[])(q:∀h' tk' x,ym hp h' x (.ref a) "keys"->E (.ref x) ⟨h',g,d,tk',os⟩) :
  wpAny (av prog w) A (call (.builtin "list.__getattribute__") ([.ref a]++[.str "keys" u]) kw) Q E ⟨hp,g,d,tk,os⟩:=by
 subst hk;exact jj yT ⟨_,e,rfl⟩ K3 (F.args_list_getattribute_2 _ _) (j9 a xs n u) ⟨e,hh,λh' tk' x hx=>q h' tk' x hx⟩
theorem lacks(e:hp.get? a=ab (liO xs n))(hh:A.handled=ai)(q:∀h' tk',(∀b o,hp.get? b=ab o->h'.get? b=ab o)->Q ai ⟨h',g,d,tk',os⟩):wpAny (av prog w) A (yo (.ref a) "keys") Q E ⟨hp,g,d,tk,os⟩:=by
 have ty:∀tk',(⟨hp,g,d,tk',os⟩:am).TypeIs (.ref a) "list":=λ_=>⟨_,e,rfl⟩
 have f3:=yT.lookup;have f4:=yT.bind (.ref a);have f5:=noGet;have sub:=yp
 wp_walk using gone e hh
 case hk=>rfl
 intro h' tk' x hx;obtain⟨t,u,ex⟩:=hx.there;show wpAny _ _ (yq _ _ _ _ _ _ _) _ _ _
 wp_walk
 exact q _ _ hx.keeps
end
theorem CP{h:aI}(e:h.get? c=ab o)(hc:o.cls=.type T)(ed:h.get? d=ab od)(hd:od.cls=.type U)(ne:(fI T==fI U)=ag):c≠d:=λq=>by
 subst q;rw[e] at ed;cases ed;rw[hc] at hd;rw[hd] at ne;simp at ne
def Prs{prog:bS}{w:bm}{K:Type}[cq K](knd:KeyKind prog w K)(items:ay aj)(ps:aa (K×aj))(h:aI):Prop:=items.size=ps.length/\∀(i:af)(kv:K×aj),ps[i]?=ab kv->∃(p:ak)(x:aj)(o:bd)(n:af),items[i]?=ab (eJ p)/\h.get? p=ab o/\o.cls=.type "tuple"/\o.data=.seq #[x,kv.2] n/\knd.is kv.1 x=ae
theorem Prs.keep[cq K]{knd:KeyKind prog w K}{ps:aa (K×aj)}{h h':aI}(x:Prs knd items ps h)(k:∀c o,o.cls=.type "tuple"->h.get? c=ab o->h'.get? c=ab o):Prs knd items ps h':=
 ⟨x.1,λi kv e=>let ⟨p,v,o,n,h1,h2,h3,h4,h5⟩:=x.2 i kv e;⟨p,v,o,n,h1,k p o h3 h2,h3,h4,h5⟩⟩
section
variable {prog:bS} {w:bm} {K:Type} [cq K] {knd:KeyKind prog w K} {A:b5} {R:Except aj Flow->am->Prop} {it l d:ak} {items:ay aj} {ps:aa (K×aj)} {nl:af}
theorem uR(hh:A.handled=ai)(hdi:d≠it)(hdl:d≠l)(hil:l≠it) :
  ∀(m k:af)(s:am)(kvs:aa (K×aj)),k+m=items.size->kvs.length+m<=ba->s.heap.IsListIter it l k->s.heap.get? l=ab (liO items nl)->Prs knd items ps s.heap->s.heap.DictOf knd d kvs->
  (∀h' tk,h'.DictOf knd d (iu kvs (ps.drop k))->(∀c o,c≠d->c≠it->s.heap.get? c=ab o->h'.get? c=ab o)->R (.ok (.ret .none)) {s with heap:=h',toks:=tk})->
  codeAny (av prog w) A (.builtin "dict.update.loop" ⟨[.ref d,.ref it,du k,.none],[]⟩) R s:=by
 intro m;induction m with
 |zero=>
  intro k s kvs hkm hl Z el Pp hd q;refine gf Wz.lY ?_;rw[gw (show mN "dict.update.loop"=ae by decide +kernel) _];refine al (zS hh Z ⟨_,el,rfl,_,rfl⟩ (oj 0x1) λh' kp=>?_);refine al ?_;unfold ui;rw[kc];refine al (az (az (az ?_)));have e:ps.drop k=[]:=mw (by have:=Pp.1;lia);rw[e] at q;obtain⟨o,es,ep,ho,r⟩:=hd;exact q _ s.toks ⟨o,es,ep,kp d o hdi ho,r⟩ λc o _ c1 e=>kp c o c1 e
 |succ m ih=>
  intro k s kvs hkm hl Z el Pp hd q;have hlp:k<ps.length:=by have:=Pp.1;lia
  obtain⟨p,x,o,n,hi,hp,hpc,hpd,his⟩:=Pp.2 k ps[k] (ef hlp);have hpi:p≠it:=let ⟨oi,ei,ci,_⟩:=Z;CP hp hpc ei ci 0x4
  refine gf Wz.lY ?_;rw[gw (show mN "dict.update.loop"=ae by decide +kernel) _];refine al (zI Z ⟨_,el,rfl,_,rfl⟩ hi λh' Z' kp=>?_);have hp':h'.get? p=ab o:=(kp.2 p hpi).trans hp;refine al (eh (al (iw ?_)));refine al (iL ⟨_,hp',hpc⟩ ?_);rw[ao 0x4];refine al (fx hp' hpd (az ?_));show wpAny _ _ (jy [x,ps[k].2] (yr d x ps[k].2)) _ _ _;have hd':h'.DictOf knd d kvs:=let ⟨o,es,ep,ho,r⟩:=hd;⟨o,es,ep,(kp.2 d hdi).trans ho,r⟩
  obtain⟨od,es,ep,ho,hc,_⟩:=id hd';refine eh (yt his hd' (λh2 hd2' sb=>?_) 0x1);refine az ⟨lj _ 0x6,?_⟩;have ek:(du (k+1):aj)=du ((k+1:af):ah):=rfl;rw[ek];have hdrop:ps.drop k=ps[k]::ps.drop (k+1):=mv hlp;have ls:(ib kvs ps[k].1 ps[k].2).length<=kvs.length+1:=by
   unfold ib;split
   ·rw[ax];lia
   ·rw[bj];exact aS _
  have keep:∀c o,c≠d->c≠it->s.heap.get? c=ab o->h2.get? c=ab o:=λc o c0 c1 e=>(sb.2 c c0).trans ((kp.2 c c1).trans e)
  have hdc:∀c (oc:bd),oc.cls=.type "tuple"->s.heap.get? c=ab oc->c≠d/\c≠it:=λc oc hoc e=>⟨let ⟨o1,_,_,e1,c1,_⟩:=hd;CP e hoc e1 c1.1 0x4,let ⟨oi,ei,ci,_⟩:=Z;CP e hoc ei ci 0x4⟩
  refine ih (k+1) _ (ib kvs ps[k].1 ps[k].2) 0x1 0x1 (let ⟨oi,ei,r⟩:=Z';⟨oi,(sb.2 it (cj hdi)).trans ei,r⟩) (keep l _ (cj hdl) hil el) (Pp.keep λc oc hoc e=>keep c oc (hdc c oc hoc e).1 (hdc c oc hoc e).2 e) hd2' λh3 tk hd3 kp3=>?_
  exact q h3 tk (by rw[hdrop];exact hd3) λc o c0 c1 e=>kp3 c o c0 c1 (keep c o c0 c1 e)
end
section
variable {prog:bS} {w:bm} {K:Type} [cq K] {knd:KeyKind prog w K} {A:b5} {E:aj->am->Prop} {hp:aI} {g:ay mE} {dr:mI} {tk:af} {os:mM} {l:ak} {items:ay aj} {ps:aa (K×aj)} {nl:af}
theorem dict_list(hh:A.handled=ai)(el:hp.get? l=ab (liO items nl))(Pp:Prs knd items ps hp)(hz:items.size<=1000000)
 (q:∀h' tk',h'.DictOf knd hp.objs.size (iu [] ps)->(∀c o,hp.get? c=ab o->h'.get? c=ab o)->Q (.ref hp.objs.size) ⟨h',g,dr,tk',os⟩) :
  wpAny (av prog w) A (call (.type "dict") [.ref l]) Q E ⟨hp,g,dr,tk,os⟩:=by
 have hnew:(hp.push {cls:=.type "dict",data:=.dict #[]}).DictOf knd hp.objs.size []:=sC hp;have up:∀c o,hp.get? c=ab o->(hp.push {cls:=.type "dict",data:=.dict #[]}).get? c=ab o:=λc o e=>bu _ e
 have lt:∀{c o},hp.get? c=ab o->hp.objs.size≠c:=λe=>hI (bp e)
 refine uj (Q₁:=λv s₁=>v=.ref hp.objs.size/\s₁=⟨hp.push {cls:=.type "dict",data:=.dict #[]},g,dr,tk,os⟩) yu (yw _) yx (yz _ ⟨rfl,rfl⟩) λv s₁ hv=>?_
 obtain⟨rfl,rfl⟩:=hv;have ty:(⟨hp.push {cls:=.type "dict",data:=.dict #[]},g,dr,tk,os⟩:am).TypeIs (.ref hp.objs.size) "dict":=hnew.typeIs;have ez:=up _ _ el;have tz:(⟨hp.push {cls:=.type "dict",data:=.dict #[]},g,dr,tk,os⟩:am).TypeIs (.ref l) "list":=⟨_,ez,rfl⟩
 refine⟨ty,yA _ _,al (al (yB ty (az ?_)))⟩;refine al (iL tz ?_);rw[ao 0x4];refine al (lacks ez hh λh' tk' kp=>?_);rw[ao (show(ai:au aj).isNone=ae from rfl)];refine al (li (al (Bm ⟨_,kp _ _ ez,rfl,_,rfl⟩ (az ⟨lj _ 0x6,?_⟩))));have hd':h'.DictOf knd hp.objs.size []:=let ⟨o,es,ep,ho,r⟩:=hnew;⟨o,es,ep,kp _ _ ho,r⟩
 have ltd:hp.objs.size<h'.objs.size:=let ⟨o,es,ep,ho,r⟩:=hd';bp ho
 have ltl:l<h'.objs.size:=bp (kp _ _ ez);refine uR (ps:=ps) (it:=h'.objs.size) (l:=l) (items:=items) (nl:=nl) (show A.in1.handled=ai from hh) (ck ltd) (lt el) (ck ltl) items.size 0 _ [] 0x1 (by rw[eL,c8];lia) ⟨_,cx _ rfl,rfl,rfl⟩ (bu _ (kp _ _ ez)) (Pp.keep λc o _ e=>bu _ (kp c o (up c o e))) (let ⟨o,es,ep,ho,r⟩:=hd';⟨o,es,ep,bu _ ho,r⟩) λh2 tk2 hd2 kp2=>?_
 exact⟨rfl,q h2 tk2 hd2 λc o e=>kp2 c o (λx=>lt e x.symm) (ck (bp (kp c o (up c o e)))) (bu _ (kp c o (up c o e)))⟩
end
end Wl
namespace Mi
open PySem L2 PySem.SeqAt PySem.Spec PyProof.Rows
def oG:aa D->au (aa (D×D))
 |[]=>ab []
 |.tup [k,v]::r=>if mL k&&v.pure then (oG r).map ((k,v)::·) else ai
 |_::_=>ai
def iY(kvs:aa (D×D))(more:aa (D×D)):aa (D×D):=more.foldl (λacc p=>putD acc p.1 p.2) kvs
def K6:D->Res D
 |.lst xs=>match oG xs with
  |some ps=>if decide (xs.length<=1000) then .ok (.dct (iY [] ps)) else .bad
  |none=>.bad
 |_=>.bad
variable [KFrag]
theorem G8(I:Inv X pins σ H s):∀{xs:aa D}{vs:aa V}{us:aa aj}{ps:aa (D×D)},b7 All H vs xs->Vals vs us->oG xs=ab ps->
  ∃(kvs:aa (Key×V))(prs:aa (Key×aj)),KV kvs prs/\iJ All H kvs ps/\D.aW (ps.map (·.2))=ae/\us.length=prs.length/\∀(i:af)(kv:Key×aj),prs[i]?=ab kv->∃(p:ak)(x:aj)(o:bd)(n:af),us[i]?=ab (eJ p)/\s.heap.get? p=ab o/\o.cls=.type "tuple"/\o.data=.seq #[x,kv.2] n/\(cM X.prog X.w).is kv.1 x=ae
 |[],_,_,_,.nil,.nil,h=>by
  cases h;exact⟨[],[],.nil,.nil,rfl,rfl,λi kv h=>by simp at h⟩
 |d::xs,_,_,ps,.cons r t,.cons rv tv,h=>by
  unfold oG at h;split at h
  ·rename_i h0;cases h0
  ·rename_i k v r' h0;injection h0 with h0 h1
   subst h0 h1;split at h
   ·rename_i hf;rw[aT] at hf;obtain⟨ps',hp,rfl⟩:=jk.mp h;obtain⟨kvs,prs,g1,g2,g3,g4,g5⟩:=G8 I t tv hp;obtain⟨a,ws,rfl,ea,rr⟩:=r.fG;cases rv;obtain⟨its,rvs,o,ho,hc,n,hd⟩:=g8 I ea;cases rr with
    |cons rk rr=>
     cases rr with
     |cons rw_ rr=>
      cases rr;cases rvs with
      |cons q1 rvs=>
       cases rvs with
       |cons q2 rvs=>
        cases rvs;rename_i wk ww uk uw;obtain⟨key,hk1,hk2⟩:∃key:Key,kD key=k/\(cM X.prog X.w).is key uk=ae:=by
         cases rk with
         |int i=>exact⟨.inl i,rfl,xX q1⟩
         |str x=>exact⟨.inr x,rfl,xX q1⟩
         |_=>cases hf.1
        subst hk1;refine⟨(key,ww)::kvs,(key,uw)::prs,.cons ⟨rfl,q2⟩ g1,.cons rw_ g2,by rw[bh,D.aW,hf.2,g3];rfl,by rw[bc,bc,g4],λi kv hi=>?_⟩;cases i with
        |zero=>
         simp at hi;subst hi;exact⟨a,uk,o,n,rfl,ho,hc,hd,hk2⟩
        |succ i=>
         obtain⟨p,x,o',n',z1,z2⟩:=g5 i kv (by simpa using hi);exact⟨p,x,o',n',by simpa using z1,z2⟩
   ·cases h
  ·cases h
theorem o_:∀{more:aa (Key×V)}{ds:aa (D×D)}{kvs:aa (Key×V)}{es:aa (D×D)},iJ P H more ds->iJ P H kvs es->(kvs.map (·.1)).Nodup->iJ P H (cY kvs more) (iY es ds)/\((cY kvs more).map (·.1)).Nodup
 |_,_,_,_,.nil,r,n=>⟨r,n⟩
 |_,_,_,_,.cons (k:=k) rv t,r,n=>by have:=o_ t (G7 (k:=k) rv r n) (j8 n);exact this
theorem oH:∀{ds es:aa (D×D)},D.aW (ds.map (·.2))=ae->D.aW (es.map (·.2))=ae->D.aW ((iY es ds).map (·.2))=ae
 |[],_,_,h=>h
 | (k,v)::ds,es,h,h2=>by
  rw[bh,D.aW,aT] at h;exact oH (ds:=ds) h.2 (o8 h.1 h2)
section
theorem aBi(hc:X.calm=ae)(hg:Gl X "dict")(hm:X.mg "dict"=ai)(he:PE X e (gE fe re))(hs:b9 [e] X.env=[(ag,bf e X.env)]:=by rfl) :
  PE X (.Call (.Name "dict" p) [e] [] pos) (gE (b1 K6 fe) ae):=by
 rintro pins s σ H Q I ⟨ρ,d,E,h,q⟩;obtain⟨d0,h1,h2⟩:=bI h;unfold K6 at h2;split at h2
 rotate_left
 ·exact bx h2
 rename_i xs;split at h2
 rotate_left
 ·exact bx h2
 rename_i ps hps;split at h2
 rotate_left
 ·exact bx h2
 rename_i hb;cases h2;have hb:=dh hb;refine hZ (kO I hg hm xJ ?_);refine ik ?_ hs rfl;rw[hs];show wpAny _ _ (jx [(ag,bf e X.env)]) _ _ s;refine kG (thn (he pins s σ H (λv H1=>cH H H1/\Rep All H1 v (.lst xs)) I ⟨ρ,_,E,h1,λv H1 s1 r1 _=>⟨s1,r1⟩⟩) λu s1 ⟨x,H1,I1,ru,sm,rx⟩=>?_);obtain⟨a,vs,rfl,ea,rr⟩:∃a vs,x=.ref a/\H1 a=ab (.lst vs)/\b7 All H1 vs xs:=by
  obtain⟨_,_,rfl,e,p,r⟩:=rx.inv;exact⟨_,_,rfl,e,r⟩
 cases ru;refine kF ?_;obtain⟨hz,its,nl,rv,hl⟩:vs.length<=ba/\∃(its:aa aj)(n:af),Vals vs its/\s1.heap.get? a=ab {cls:=.type "list",data:=.seq its.toArray n}:=I1.hok a _ ea;obtain⟨kvs,prs,g1,g2,g3,g4,g5⟩:=G8 I1 rr rv hps;have hlen:its.length<=1000:=by rw[<-rv.length,rr.length];exact hb
 obtain⟨hp,g,dr,tk,os⟩:=s1;refine Wl.dict_list (knd:=cM X.prog X.w) (ps:=prs) (items:=its.toArray) (I1.ok.hd hc) hl ⟨by rw[bX];exact g4,λi kv hi=>?_⟩ (by rw[bX];lia) λh' tk' hd kp=>?_
 ·obtain⟨p,x,o,n,z1,z2⟩:=g5 i kv hi;exact⟨p,x,o,n,by simpa using z1,z2⟩
 ·have hfr:H1 hp.objs.size=ai:=I1.hok.fresh (aS _);have rel:KV (cY [] kvs) (iu [] prs):=g1.merge .nil;have hz2:(cY [] kvs).length<=ba:=by
   have:=fM kvs [];have l1:kvs.length=prs.length:=ja g1;rw[eL] at this;rw[c8];lia
  obtain⟨rk,nd⟩:=o_ (kvs:=[]) g2 iJ.nil fA;have sp:cH H1 (upd H1 hp.objs.size (.dK (cY [] kvs))):=cH.upd hfr;have rk2:∀{P:ak->Prop},iJ P (upd H1 hp.objs.size (.dK (cY [] kvs))) (cY [] kvs) (iY [] ps):=λ{P}=>(rk.keep (.same sp) λ_ h=>h).b8 (oH g3 rfl)
  refine⟨.ref hp.objs.size,_,I1.laid (a:=hp.objs.size) (t':=tk') (o:=.dK (cY [] kvs)) kp (aS _) (BW hz2 (fF.mpr ?_) rel hd),rfl,?_⟩
  ·exact cj (ck I1.big)
  ·exact q _ _ (sm.trans sp) (.dK aM trivial rk2 nd) λ_=>.dK aM (sm.free hfr) rk2 nd
end
end Mi
namespace Wn
open PySem PySem.Spec
theorem aS6(l:ak)(items:ay aj)(n:af)(dd:au ak)(sl:ay (au aj)) :
  jo (dq.«enumerate.__new__» ⟨[.type "enumerate",.ref l],[]⟩) (λ_ R s=>s.heap.get? l=ab (Wz.tuO items n dd sl)/\
   R (.ok (.ret (.ref (s.heap.push (Wz.itO l 0)).objs.size)))
    {s with heap:=(s.heap.push (Wz.itO l 0)).push {cls:=.type "enumerate",data:=.fields #[.none,.bool ag,.ref s.heap.objs.size,du 0,.none,.none]}}):=
 .of_wp λprog w A R s h=>by
  obtain⟨hp,g,d,tk,os⟩:=s;obtain⟨hl,h⟩:=h;have hsub:=BS;have hT:ud (ue ⟨hp,g,d,tk,os⟩) l items:=⟨_,hl,rfl,n,rfl⟩
  wp_walk using lq hl
  refine BT λst=>az ?_
  split
  ·rename_i c _ _ _ _ _;cases (c==fI "enumerate")
   ·wp_walk using lq hl,i8 hT
    exact⟨_,rfl,h⟩
   ·wp_walk using lq hl,i8 hT
    exact⟨_,rfl,h⟩
  ·wp_walk using lq hl,i8 hT
   exact⟨_,rfl,h⟩
section
theorem aQa(hL:s.heap.get? l=ab (Wz.tuO items n dd sl))
 (h:∀h',uo h' (s.heap.objs.size+1) s.heap.objs.size 0 .none->h'.get? s.heap.objs.size=ab (Wz.itO l 0)->
   (∀b o,s.heap.get? b=ab o->h'.get? b=ab o)->Q (.ref (s.heap.objs.size+1)) {s with heap:=h'}) :
  wpAny (av prog w) A (call (.type "enumerate") [.ref l]) Q E s:=by
 refine BD uq 0x4 (F.typeCall_enumerate_1 _) (F.newCall_enumerate_1 _) (λobj=>F.args_object_init_2 obj _) BU
  (aS6 l items n dd sl) ⟨hL,?_⟩
 have hz:(s.heap.push (Wz.itO l 0)).objs.size=s.heap.objs.size+1:=dv ..;show _/\_;rw[hz];have he:uo ((s.heap.push (Wz.itO l 0)).push {cls:=.type "enumerate",data:=.fields #[.none,.bool ag,.ref s.heap.objs.size,du 0,.none,.none]}) (s.heap.objs.size+1) s.heap.objs.size 0 .none:=by
  have:=cx (s.heap.push (Wz.itO l 0)) (o:={cls:=.type "enumerate",data:=.fields #[.none,.bool ag,.ref s.heap.objs.size,du 0,.none,.none]}) rfl;rw[hz] at this;exact this
 exact⟨⟨_,he,rfl⟩,h _ he (bu _ (cx _ rfl)) λb o x=>bu _ (bu _ x)⟩
theorem drT(hh:A.handled=ai)(it t:ak)(hne:t≠it)(items:ay aj)(n:af)(dd:au ak)(sl:ay (au aj)) :
  ur prog w A it [it,t] items.size (λi v=>items[i]?=ab v) (λi h=>h.get? it=ab (Wz.itO t i)/\h.get? t=ab (Wz.tuO items n dd sl)) where
 live:=λ_ _ st=>⟨_,st.1⟩
 frame:=λ_ _ _ st hk=>⟨hk it 0x2 _ st.1,hk t 0x2 _ st.2⟩
 item:=λi s Q E hi st hQ=>by
  have hx:items[i]?=ab items[i]:=tP hi;exact Wz.drawn st.1 st.2 hx λh' e k=>hQ _ h' s.toks hx ⟨e,(k.2 t hne).trans st.2⟩ k
 done:=λs Q E st hE=>Wz.over hh st.1 st.2 (oj (aS _)) hE
theorem ovT(hh:A.handled=ai)(it t:ak)(items:ay aj)(n:af)(dd:au ak)(sl:ay (au aj))(i:af)(hi:items[i]?=ai):ur prog w A it [it,t] 0 (λ_ _=>gx) (λ_ h=>h.get? it=ab (Wz.itO t i)/\h.get? t=ab (Wz.tuO items n dd sl)) where
 live:=λ_ _ st=>⟨_,st.1⟩
 frame:=λ_ _ _ st hk=>⟨hk it 0x2 _ st.1,hk t 0x2 _ st.2⟩
 item:=λj s Q E hj=>aE hj (AT _)
 done:=λs Q E st hE=>Wz.over hh st.1 st.2 hi hE
end
end Wn
namespace Mi
open PySem L2 PySem.SeqAt PySem.Spec PyProof.Rows
def aR7(a:ak):It:=
 ⟨λi H=>∃xs x,H a=ab (.tup xs)/\xs[i]?=ab x,λi H v H'=>∃t x,(∀xs,H a=ab (.tup xs)->xs[i]?=ab x)/\v=.ref t/\H t=ai/\H'=upd H t (.tup [.int i,x]),λi H=>∃xs,H a=ab (.tup xs)/\xs.length<=i⟩
def aG7(a:FE):FI:=λρ=>do let x <- a ρ;match x with|.tup xs=>(if D.aW xs then .ok (J_ xs,ae) else .bad)|_=>.bad
theorem CQ(p:kx h a its):∃n dd sl,h.get? a=ab (Wz.tuO its n dd sl):=by
 obtain⟨⟨c,dd,d,sl⟩,e,hc,n,hd⟩:=p;simp only at hc hd;subst hc hd;exact⟨n,dd,sl,e⟩
theorem G9{h:aI}(e:h.get? a=ab o)(hc:o.cls=.type T)(e':h.get? b=ab u)(hc':u.cls=.type U)(ne:(fI T==fI U)=ag):a≠b:=λq=>by
 subst q;rw[e] at e';cases e';rw[hc] at hc';rw[hc'] at ne;simp at ne
variable [KFrag]
theorem ItQ.ent{K:bg}(a:ak)(ds:aa D)(e:J=aR7 a)(r:Rep P H (.ref a) (.tup ds))(h:items=J_ ds):ItQ K P J H items:=by
 refine⟨λP H kk mm=>?_⟩;have r:=r.aAe kk mm;subst e h;obtain⟨a',xs,e,hq,rr⟩:=r.fG;cases e;refine⟨λi hi=>⟨xs,hq,by rw[rr.length,<-aAu];exact hi⟩,λi d hi=>?_⟩;rw[aDx] at hi;obtain⟨y,hd,rfl⟩:=jk.mp hi;obtain⟨v,h1,h2⟩:=rr.get hd;refine⟨⟨xs,v,hq,h1⟩,λx H' ⟨t,u,hy,e1,e2,e3⟩=>?_⟩;subst e1 e3;have:=hy xs hq;rw[h1] at this;cases this;have sp:cH H (upd H t (.tup [.int i,v])):=cH.upd e2;exact⟨sp,.tup aM (.cons (.int _) (.cons (h2.same sp) .nil))⟩
theorem XR{K:bg}{elts:aa Expr}{x1}{tp:cn}(a e it:ak)(hne:e≠it):Turn P w K (.Tuple elts x1 tp) (aR7 a) [e,it] e (λi h=>(∃old,uo h e it i old)/\h.get? it=ab (Wz.itO a i)) where
 mem:=bn ..
 obj:=λi h z0 b hb=>by
  obtain⟨⟨old,h1⟩,h2⟩:=z0;simp only[bq,i9,or_false] at hb;rcases hb with rfl|rfl
  ·exact⟨_,h1,λv z=>nomatch(show nu _=nv v from z)⟩
  ·exact⟨_,h2,λv z=>nomatch(show nu _=nv v from z)⟩
 keep:=λi h h' ⟨⟨old,h1⟩,h2⟩ k=>⟨⟨old,k e (bn ..) _ h1⟩,k it 0x2 _ h2⟩
 item:=by
  rintro Y hP hw hK hc i pins s σ H E I hf ⟨⟨old,h1⟩,h2⟩ ⟨xs,x,hq,hx⟩;subst hP hw hK;obtain⟨its,rv,p,hz⟩:=I.tuple (.of hq);obtain⟨n,dd,sl,e3⟩:=CQ p;obtain⟨u,hu,ru⟩:=rv.get hx;have hlt:e<s.heap.objs.size:=bp h1;have nai:a≠it:=G9 e3 rfl h2 rfl 0x4;have nea:e≠a:=G9 h1 rfl e3 rfl 0x4;have hil:i<its.toArray.size:=by
   have:=(c_.mp hu).1;simpa using this
  refine BY (Wn.drT (show Y.A.in1.handled=ai from I.ok.hd hc) it a nai its.toArray n dd sl) h1 ⟨h2,e3⟩ hil hne (by simp[hne,nea]) λv h' tk o0 o1 o2 o3 o4 o5=>?_
  obtain rfl:u=v:=by
   have:its[i]?=ab v:=by simpa using o0
   rw[hu] at this;exact c6 this
  refine⟨_,rfl,B0 o1 λh'' g1 g2=>?_⟩;have sb:gl e h' h'':=g2;have kk:∀b o,b∉[e,it]->s.heap.get? b=ab o->h''.get? b=ab o:=λb o hb eb=>by
   simp only[bq,i9,or_false,gu] at hb;exact(sb.2 b hb.1).trans (o5 b o hb.1 hb.2 eb)
  have t3:h''.get? s.heap.objs.size=ab {cls:=.type "tuple",data:=.seq #[.int i tk,u]}:=(sb.2 _ (hI hlt)).trans o3;refine⟨.ref s.heap.objs.size,upd H s.heap.objs.size (.tup [.int i,x]),yR (s:=s) I kk (λb hb=>hf b hb) (aS _) ?_,rfl,⟨_,x,λys hy=>by rw[hq] at hy;cases hy;exact hx,rfl,I.hok.fresh (aS _),rfl⟩,⟨⟨u,g1⟩,(sb.2 it (cj hne)).trans o2.1⟩,λb hb=>?_⟩
  ·exact⟨by show 2<=ba;rw[c8];decide,[.int i tk,u],.cons ⟨_,rfl⟩ (.cons ru .nil),⟨_,t3,rfl,0,rfl⟩⟩
  ·rw[bG]
   ·exact(hf b hb).1
   ·intro z;simp only[bq,i9,or_false] at hb;rcases hb with h|h
    ·rw[<-h,z] at hlt;exact fg _ hlt
    ·have:=bp h2;rw[<-h,z] at this;exact fg _ this
 done:=by
  rintro Y hP hw hK hc i pins s σ H E I hf ⟨⟨old,h1⟩,h2⟩ ⟨xs,hq,hx⟩;subst hP hw hK;obtain⟨its,rv,p,hz⟩:=I.tuple (.of hq);obtain⟨n,dd,sl,e3⟩:=CQ p;obtain⟨f0,f1,f2,f3,f4,f5⟩:=hf it 0x2;have hl:=rv.length;exact B1 (Wn.ovT (show Y.A.in1.handled=ai from I.ok.hd hc) it a its.toArray n dd sl i (by simp;lia)) h1 ⟨h2,e3⟩ λh' eb=>⟨rfl,I.turned (λb o hb e=>eb b o hb e) f0 f1 f3 f4 f5⟩
 self:=λ_ _ _ _ _ ⟨⟨old,h1⟩,_⟩ h=>ut h1 h
section
theorem aEg{x1}(hg:Gl X "enumerate")(hm:X.mg "enumerate"=ai)(ha:PA X [a] (gA (aA fa aL) ra))(hs:b9 [a] X.env=[(ag,bf a X.env)]:=by rfl) :
  PI X (.Tuple elts x1 tp) (.Call (.Name "enumerate" p) [a] [] pos) (gI X.K (aG7 fa)):=by
 rintro pins s σ H R I ⟨ρ,items,k,E,h,q⟩;obtain⟨d,h1,h⟩:=bI h;cases d<;>try (cases h;done)
 rename_i its;dsimp only at h;split at h
 ·rename_i hp;cases h;have hb:aA fa aL ρ=.ok [D.tup its]:=by
   unfold aA;rw[h1];rfl
  refine Call_ (kO I hg hm B2 (ik (thn (ha pos pins s σ H (λvs H1=>∃v,vs=[v]/\cH H H1/\Rep All H1 v (.tup its)) I ⟨ρ,_,E,hb,λvs H1 s1 r1 n1=>?_⟩) λus s1 ⟨vs,H1,I1,r1,q1⟩=>?_) hs rfl))
  ·cases r1 with
   |cons r t=>
    cases t;exact⟨_,rfl,s1,r⟩
  ·obtain⟨v,rfl,s1',r⟩:=q1;cases r1 with
   |cons rv rr=>
    cases rr;obtain⟨l,ys,rfl,hl,rr⟩:=r.fG;cases rv;obtain⟨vs,rvs,pl,hz⟩:=I1.tuple (.of hl);obtain⟨n,dd,sl,e3⟩:=CQ pl;refine Wn.aQa e3 λh' e1 e2 e4=>?_
    refine ut e1 ?_;refine⟨s1.heap.objs.size+1,[s1.heap.objs.size+1,s1.heap.objs.size],_,_,H1,rfl,I1.kept λb o e=>e4 b o e,XR l (s1.heap.objs.size+1) s1.heap.objs.size (B3 _),⟨⟨_,e1⟩,e2⟩,λb hb=>?_,q _ H1 s1' (.ent l its rfl r rfl) λhk=>.ent l its rfl (r.b8 hp) rfl⟩;simp only[bq,i9,or_false] at hb;rcases hb with rfl|rfl
    ·exact I1.aD7 (gn _) (I1.hok.fresh (gn _))
    ·exact I1.aD7 (aS _) (I1.hok.fresh (aS _))
 ·cases h
end
end Mi
namespace Wt
open PySem PySem.Spec
open Wl
noncomputable abbrev tpO(xs:ay aj)(n:af)(sl:ay (au aj)):bd:={cls:=.type "tuple",data:=.seq xs n,slots:=sl}
theorem KZ:j3 (.type "tuple") "keys"=pure ai:=by rw[kj,ko];kernel_rfl
theorem noGet:j3 (.type "tuple") "__getattr__"=pure ai:=by rw[kj,ko];kernel_rfl
theorem K3:uf ug "tuple.__getattribute__"=ab dq.«object.__getattribute__»:=yi (id':= "object.__getattribute__") 0x8 0x6 0x6 0x8
theorem j9(a:ak)(xs:ay aj)(n:af)(sl:ay (au aj))(u:dQ):jo (dq.«object.__getattribute__» ⟨[.ref a,.str "keys" u],[]⟩) (λA R s=>s.heap.get? a=ab (tpO xs n sl)/\yj (.ref a) "keys" A R s):=.of_wp λprog w A R s hs=>by
 obtain⟨hp,g,d,tk,os⟩:=s;obtain⟨e,hh,q⟩:=hs;have ty:(⟨hp,g,d,tk,os⟩:am).TypeIs (.ref a) "tuple":=⟨_,e,rfl⟩
 have no:=KZ
 wp_walk
 exact yk hh q (yl 0x6 (by size_fits))
section
variable {prog:bS} {w:bm} {A:b5} {E:aj->am->Prop} {hp:aI} {g:ay mE} {d:mI} {tk:af} {os:mM} {a:ak} {xs:ay aj} {n:af} {sl:ay (au aj)}
theorem gone(e:hp.get? a=ab (tpO xs n sl))(hh:A.handled=ai)(hk:kw=[])(q:∀h' tk' x,ym hp h' x (.ref a) "keys"->E (.ref x) ⟨h',g,d,tk',os⟩) :
  wpAny (av prog w) A (call (.builtin "tuple.__getattribute__") ([.ref a]++[.str "keys" u]) kw) Q E ⟨hp,g,d,tk,os⟩:=by
 subst hk;exact jj yY ⟨_,e,rfl⟩ K3 (F.args_tuple_getattribute_2 _ _) (j9 a xs n sl u) ⟨e,hh,λh' tk' x hx=>q h' tk' x hx⟩
theorem lacks(e:hp.get? a=ab (tpO xs n sl))(hh:A.handled=ai)(q:∀h' tk',(∀b o,hp.get? b=ab o->h'.get? b=ab o)->Q ai ⟨h',g,d,tk',os⟩):wpAny (av prog w) A (yo (.ref a) "keys") Q E ⟨hp,g,d,tk,os⟩:=by
 have ty:∀tk',(⟨hp,g,d,tk',os⟩:am).TypeIs (.ref a) "tuple":=λ_=>⟨_,e,rfl⟩
 have f3:=yY.lookup;have f4:=yY.bind (.ref a);have f5:=noGet;have sub:=yp
 wp_walk using gone e hh
 case hk=>rfl
 intro h' tk' x hx;obtain⟨t,u,ex⟩:=hx.there;show wpAny _ _ (yq _ _ _ _ _ _ _) _ _ _
 wp_walk
 exact q _ _ hx.keeps
end
section
variable {prog:bS} {w:bm} {K:Type} [cq K] {knd:KeyKind prog w K} {A:b5} {R:Except aj Flow->am->Prop} {it l d:ak} {items:ay aj} {ps:aa (K×aj)} {nl:af} {sl:ay (au aj)}
theorem uR(hh:A.handled=ai)(hdi:d≠it)(hdl:d≠l)(hil:l≠it) :
  ∀(m k:af)(s:am)(kvs:aa (K×aj)),k+m=items.size->kvs.length+m<=ba->s.heap.IsTupleIter it l k->s.heap.get? l=ab (tpO items nl sl)->Prs knd items ps s.heap->s.heap.DictOf knd d kvs->
  (∀h' tk,h'.DictOf knd d (iu kvs (ps.drop k))->(∀c o,c≠d->c≠it->s.heap.get? c=ab o->h'.get? c=ab o)->R (.ok (.ret .none)) {s with heap:=h',toks:=tk})->
  codeAny (av prog w) A (.builtin "dict.update.loop" ⟨[.ref d,.ref it,du k,.none],[]⟩) R s:=by
 intro m;induction m with
 |zero=>
  intro k s kvs hkm hl Z el Pp hd q;refine gf Wz.lY ?_;rw[gw (show mN "dict.update.loop"=ae by decide +kernel) _];refine al (Ab hh Z ⟨_,el,rfl,_,rfl⟩ (oj 0x1) λh' kp=>?_);refine al ?_;unfold ui;rw[kc];refine al (az (az (az ?_)));have e:ps.drop k=[]:=mw (by have:=Pp.1;lia);rw[e] at q;obtain⟨o,es,ep,ho,r⟩:=hd;exact q _ s.toks ⟨o,es,ep,kp d o hdi ho,r⟩ λc o _ c1 e=>kp c o c1 e
 |succ m ih=>
  intro k s kvs hkm hl Z el Pp hd q;have hlp:k<ps.length:=by have:=Pp.1;lia
  obtain⟨p,x,o,n,hi,hp,hpc,hpd,his⟩:=Pp.2 k ps[k] (ef hlp);have hpi:p≠it:=let ⟨oi,ei,ci,_⟩:=Z;CP hp hpc ei ci 0x4
  refine gf Wz.lY ?_;rw[gw (show mN "dict.update.loop"=ae by decide +kernel) _];refine al (Aa Z ⟨_,el,rfl,_,rfl⟩ hi λh' Z' kp=>?_);have hp':h'.get? p=ab o:=(kp.2 p hpi).trans hp;refine al (eh (al (iw ?_)));refine al (iL ⟨_,hp',hpc⟩ ?_);rw[ao 0x4];refine al (fx hp' hpd (az ?_));show wpAny _ _ (jy [x,ps[k].2] (yr d x ps[k].2)) _ _ _;have hd':h'.DictOf knd d kvs:=let ⟨o,es,ep,ho,r⟩:=hd;⟨o,es,ep,(kp.2 d hdi).trans ho,r⟩
  obtain⟨od,es,ep,ho,hc,_⟩:=id hd';refine eh (yt his hd' (λh2 hd2' sb=>?_) 0x1);refine az ⟨lj _ 0x6,?_⟩;have ek:(du (k+1):aj)=du ((k+1:af):ah):=rfl;rw[ek];have hdrop:ps.drop k=ps[k]::ps.drop (k+1):=mv hlp;have ls:(ib kvs ps[k].1 ps[k].2).length<=kvs.length+1:=by
   unfold ib;split
   ·rw[ax];lia
   ·rw[bj];exact aS _
  have keep:∀c o,c≠d->c≠it->s.heap.get? c=ab o->h2.get? c=ab o:=λc o c0 c1 e=>(sb.2 c c0).trans ((kp.2 c c1).trans e)
  have hdc:∀c (oc:bd),oc.cls=.type "tuple"->s.heap.get? c=ab oc->c≠d/\c≠it:=λc oc hoc e=>⟨let ⟨o1,_,_,e1,c1,_⟩:=hd;CP e hoc e1 c1.1 0x4,let ⟨oi,ei,ci,_⟩:=Z;CP e hoc ei ci 0x4⟩
  refine ih (k+1) _ (ib kvs ps[k].1 ps[k].2) 0x1 0x1 (let ⟨oi,ei,r⟩:=Z';⟨oi,(sb.2 it (cj hdi)).trans ei,r⟩) (keep l _ (cj hdl) hil el) (Pp.keep λc oc hoc e=>keep c oc (hdc c oc hoc e).1 (hdc c oc hoc e).2 e) hd2' λh3 tk hd3 kp3=>?_
  exact q h3 tk (by rw[hdrop];exact hd3) λc o c0 c1 e=>kp3 c o c0 c1 (keep c o c0 c1 e)
end
section
variable {prog:bS} {w:bm} {K:Type} [cq K] {knd:KeyKind prog w K} {A:b5} {E:aj->am->Prop} {hp:aI} {g:ay mE} {dr:mI} {tk:af} {os:mM} {l:ak} {items:ay aj} {ps:aa (K×aj)} {nl:af} {sl:ay (au aj)}
theorem aEh(hh:A.handled=ai)(el:hp.get? l=ab (tpO items nl sl))(Pp:Prs knd items ps hp)(hz:items.size<=1000000)
 (q:∀h' tk',h'.DictOf knd hp.objs.size (iu [] ps)->(∀c o,hp.get? c=ab o->h'.get? c=ab o)->Q (.ref hp.objs.size) ⟨h',g,dr,tk',os⟩) :
  wpAny (av prog w) A (call (.type "dict") [.ref l]) Q E ⟨hp,g,dr,tk,os⟩:=by
 have hnew:(hp.push {cls:=.type "dict",data:=.dict #[]}).DictOf knd hp.objs.size []:=sC hp;have up:∀c o,hp.get? c=ab o->(hp.push {cls:=.type "dict",data:=.dict #[]}).get? c=ab o:=λc o e=>bu _ e
 have lt:∀{c o},hp.get? c=ab o->hp.objs.size≠c:=λe=>hI (bp e)
 refine uj (Q₁:=λv s₁=>v=.ref hp.objs.size/\s₁=⟨hp.push {cls:=.type "dict",data:=.dict #[]},g,dr,tk,os⟩) yu (yw _) yx (yz _ ⟨rfl,rfl⟩) λv s₁ hv=>?_
 obtain⟨rfl,rfl⟩:=hv;have ty:(⟨hp.push {cls:=.type "dict",data:=.dict #[]},g,dr,tk,os⟩:am).TypeIs (.ref hp.objs.size) "dict":=hnew.typeIs;have ez:=up _ _ el;have tz:(⟨hp.push {cls:=.type "dict",data:=.dict #[]},g,dr,tk,os⟩:am).TypeIs (.ref l) "tuple":=⟨_,ez,rfl⟩
 refine⟨ty,yA _ _,al (al (yB ty (az ?_)))⟩;refine al (iL tz ?_);rw[ao 0x4];refine al (lacks ez hh λh' tk' kp=>?_);rw[ao (show(ai:au aj).isNone=ae from rfl)];refine al (li (al (i8 ⟨_,kp _ _ ez,rfl,_,rfl⟩ (az ⟨lj _ 0x6,?_⟩))));have hd':h'.DictOf knd hp.objs.size []:=let ⟨o,es,ep,ho,r⟩:=hnew;⟨o,es,ep,kp _ _ ho,r⟩
 have ltd:hp.objs.size<h'.objs.size:=let ⟨o,es,ep,ho,r⟩:=hd';bp ho
 have ltl:l<h'.objs.size:=bp (kp _ _ ez);refine uR (ps:=ps) (it:=h'.objs.size) (l:=l) (items:=items) (nl:=nl) (show A.in1.handled=ai from hh) (ck ltd) (lt el) (ck ltl) items.size 0 _ [] 0x1 (by rw[eL,c8];lia) ⟨_,cx _ rfl,rfl,rfl⟩ (bu _ (kp _ _ ez)) (Pp.keep λc o _ e=>bu _ (kp c o (up c o e))) (let ⟨o,es,ep,ho,r⟩:=hd';⟨o,es,ep,bu _ ho,r⟩) λh2 tk2 hd2 kp2=>?_
 exact⟨rfl,q h2 tk2 hd2 λc o e=>kp2 c o (λx=>lt e x.symm) (ck (bp (kp c o (up c o e)))) (bu _ (kp c o (up c o e)))⟩
end
end Wt
namespace Mi
open PySem L2 PySem.SeqAt PySem.Spec PyProof.Rows
def yW:D->Res D
 |.tup xs=>match oG xs with
  |some ps=>if decide (xs.length<=1000) then .ok (.dct (iY [] ps)) else .bad
  |none=>.bad
 |_=>.bad
section
variable [KFrag]
theorem CT{X:Cx}{e:Expr}{fe:FE}{re:aq}{p pos:cn}(hc:X.calm=ae)(hg:Gl X "dict")(hm:X.mg "dict"=ai)(he:PE X e (gE fe re))(hs:b9 [e] X.env=[(ag,bf e X.env)]:=by rfl) :
  PE X (.Call (.Name "dict" p) [e] [] pos) (gE (b1 yW fe) ae):=by
 rintro pins s σ H Q I ⟨ρ,d,E,h,q⟩;obtain⟨d0,h1,h2⟩:=bI h;unfold yW at h2;split at h2
 rotate_left
 ·exact bx h2
 rename_i xs;split at h2
 rotate_left
 ·exact bx h2
 rename_i ps hps;split at h2
 rotate_left
 ·exact bx h2
 rename_i hb;cases h2;have hb:=dh hb;refine hZ (kO I hg hm xJ ?_);refine ik ?_ hs rfl;rw[hs];show wpAny _ _ (jx [(ag,bf e X.env)]) _ _ s;refine kG (thn (he pins s σ H (λv H1=>cH H H1/\Rep All H1 v (.tup xs)) I ⟨ρ,_,E,h1,λv H1 s1 r1 _=>⟨s1,r1⟩⟩) λu s1 ⟨x,H1,I1,ru,sm,rx⟩=>?_);obtain⟨a,vs,rfl,ea,rr⟩:=rx.fG;cases ru;refine kF ?_;obtain⟨hz,its,rv,⟨cl,dd,da,sl⟩,hl,e1,nl,e2⟩:vs.length<=ba/\∃its:aa aj,Vals vs its/\kJ s1.heap a its.toArray:=I1.hok a _ ea;simp only[Prod.mk.injEq] at e1 e2;obtain⟨e2,e3⟩:=e2;subst e1 e2 e3;obtain⟨kvs,prs,g1,g2,g3,g4,g5⟩:=G8 I1 rr rv hps;have hlen:its.length<=1000:=by rw[<-rv.length,rr.length];exact hb
 obtain⟨hp,g,dr,tk,os⟩:=s1;refine Wt.aEh (knd:=cM X.prog X.w) (ps:=prs) (items:=its.toArray) (I1.ok.hd hc) hl ⟨by rw[bX];exact g4,λi kv hi=>?_⟩ (by rw[bX];lia) λh' tk' hd kp=>?_
 ·obtain⟨p,x,o,n,z1,z2⟩:=g5 i kv hi;exact⟨p,x,o,n,by simpa using z1,z2⟩
 ·have hfr:H1 hp.objs.size=ai:=I1.hok.fresh (aS _);have rel:KV (cY [] kvs) (iu [] prs):=g1.merge .nil;have hz2:(cY [] kvs).length<=ba:=by
   have:=fM kvs [];have l1:kvs.length=prs.length:=ja g1;rw[eL] at this;rw[c8];lia
  obtain⟨rk,nd⟩:=o_ (kvs:=[]) g2 iJ.nil fA;have sp:cH H1 (upd H1 hp.objs.size (.dK (cY [] kvs))):=cH.upd hfr;have rk2:∀{P:ak->Prop},iJ P (upd H1 hp.objs.size (.dK (cY [] kvs))) (cY [] kvs) (iY [] ps):=λ{P}=>(rk.keep (.same sp) λ_ h=>h).b8 (oH g3 rfl)
  refine⟨.ref hp.objs.size,_,I1.laid (a:=hp.objs.size) (t':=tk') (o:=.dK (cY [] kvs)) kp (aS _) (BW hz2 (fF.mpr ?_) rel hd),rfl,?_⟩
  ·exact cj (ck I1.big)
  ·exact q _ _ (sm.trans sp) (.dK aM trivial rk2 nd) λ_=>.dK aM (sm.free hfr) rk2 nd
end
noncomputable def max2:aa D->Res D
 |[.int a,.int b]=>.ok (.int (if b > a then b else a))
 |_=>.bad
section
variable [KFrag]
theorem Q5{X:Cx}(hc:X.calm=ae):lL X (.builtin "max") (rs max2 ag):=by
 rintro pins s σ H xs us Q I vr ⟨ds,d,r,e,k⟩;unfold max2 at e;split at e
 ·cases e;cases r with
  |cons r t=>
   cases r.inv;cases t with
   |cons r t=>
    cases r.inv;cases t;cases vr with
    |cons v vt=>
     obtain⟨t1,rfl⟩:=v;cases vt with
     |cons v vt=>
      obtain⟨t2,rfl⟩:=v;cases vt;refine max_two_ints (I.ok.hd hc) λh' tk hk=>⟨_,H,I.kept hk,?_,k.int⟩
      split
      ·exact⟨_,rfl⟩
      ·exact⟨_,rfl⟩
 ·exact bx e
end
def mX(o:gV):aa D->Res D
 |[a,b]=>J2 o [a,b]
 |_=>.bad
section
variable [KFrag]
section
variable {X:Cx}
theorem aG8{o:gV}{nm:dS}(two:∀{prog:bS} {w:bm} {A:b5} {Q:aj->am->Prop} {E:aj->am->Prop} {s:am} {a b:aj},wpAny (av prog w) A.in1 (iE (.ref s.heap.objs.size)) (Mm.Seen prog w A.in1 o.op Q) E {s with heap:=s.heap.push {cls:=.type "tuple",data:=.seq #[a,b]}}->wpAny (av prog w) A (call (.builtin nm) [a,b]) Q E s)(hu:X.A.units+20<b6)(hc:X.calm=ae):lL X (.builtin nm) (rs (mX o) ag):=by
 rintro pins s σ H xs us Q I vr ⟨ds,d,r,e,k⟩;unfold mX at e;split at e
 ·cases r with
  |cons r t=>
   cases t with
   |cons r' t=>
    cases t;cases vr with
    |cons v vt=>
     cases vt with
     |cons v' vt=>
      cases vt;exact aAs two hu hc I r r' v v' e k
 ·exact bx e
theorem aIw(hu:X.A.units+20<b6)(hc:X.calm=ae):lL X (.builtin "min") (rs (mX .lt) ag):=aG8 Mm.QS hu hc
theorem aIx(hu:X.A.units+20<b6)(hc:X.calm=ae):lL X (.builtin "max") (rs (mX .gt) ag):=aG8 Mm.QT hu hc
end
end
inductive Srx where
 |par (i:af)
 |exp (f:FE)
def okF(d:D):aq:=d.pure||inner d
def vA(c f:Str)(fa:FE):FE:=λρ=>do
 let d <- fa ρ
 match d with
 |.ins c' fs=>if decide (c'=c) then Res.ofOpt (fs.lookup f) else .bad
 |_=>.bad
noncomputable def aS7:HO->aq
 |.tup _=>ae
 |.frz _ _=>ae
 |.ext _=>ae
 |_=>ag
section
variable [KFrag]
def Q6(H H':Hp):Prop:=∀a o,H a=ab o->aS7 o=ae->H' a=ab o
theorem Q6.tl(k:Q6 H H')(a:ak)(o:HO)(e:H a=ab o)(h:TJ o=ag):H' a=ab o:=k a o e (by
 cases o with
 |tup _=>rfl
 |frz _ u=>cases u<;>first|rfl|exact fx0 h.symm
 |_=>exact fx0 h.symm)
theorem Rep.uT{P P':ak->Prop}(k:Q6 H H')(q:Rep P H v d)(h:d.pure=ae):Rep P' H' v d:=q.vG k.tl h
theorem b7.uT{P P':ak->Prop}(k:Q6 H H')(q:b7 P H v d)(h:D.aW d=ae):b7 P' H' v d:=q.vG k.tl h
theorem iJ.uT(k:Q6 H H'):∀{v:aa (Key×V)}{d:aa (D×D)},iJ P H v d->D.aW (d.map (·.2))=ae->iJ P' H' v d
 |_,_,.nil,_=>.nil
 |_,_,.cons r t,h=>by
  rw[bh,D.aW,aT] at h;exact .cons (r.uT k h.1) (iJ.uT k t h.2)
theorem oZ.uT(k:Q6 H H'):∀{v:aa (aa Key×V)}{d:aa (D×D)},oZ P H v d->D.aW (d.map (·.2))=ae->oZ P' H' v d
 |_,_,.nil,_=>.nil
 |_,_,.cons r t,h=>by
  rw[bh,D.aW,aT] at h;exact .cons (r.uT k h.1) (oZ.uT k t h.2)
def aG9(x:ak)(H H':Hp):Prop:=∀a o,H a=ab o->a≠x->H' a=ab o
theorem aG9.upd:aG9 x H (upd H x o):=λa o' e n=>by rw[bG n];exact e
theorem aG9.use(b:aG9 x H H')(hx:H x=ab (.ins C dx fs)):Q6 H H':=λa o e u=>b a o e λz=>by
 subst z;rw[hx] at e;cases e;cases u
theorem Rep.okK(b:aG9 x H H')(hx:H x=ab (.ins C dx fs))(m:∀a,P a->P' a)(r:Rep P H v d)(h:okF d=ae):Rep P' H' v d:=by
 have k:=b.use hx;rcases(f_ _ _).mp h with h|h
 ·exact r.uT k h
 ·cases r with
  |lst e p r=>exact .lst (b _ _ e (DQ e hx 0x7)) (m _ p) (r.uT k h)
  |cel e p r=>exact .cel (b _ _ e (DQ e hx 0x7)) (m _ p) (r.uT k h)
  |dK e p r n=>exact .dK (b _ _ e (DQ e hx 0x7)) (m _ p) (r.uT k h) n
  |dT e p r n=>exact .dT (b _ _ e (DQ e hx 0x7)) (m _ p) (r.uT k h) n
  |dlK e p r n=>exact .dlK (b _ _ e (DQ e hx 0x7)) (m _ p) (r.uT k h) n
  |dlT e p r n=>exact .dlT (b _ _ e (DQ e hx 0x7)) (m _ p) (r.uT k h) n
  |_=>cases h
theorem nM.okK(b:aG9 x H H')(hx:H x=ab (.ins C dx fs))(m:∀a,P a->P' a):∀{v:aa (Str×V)}{d:aa (Str×D)},nM P H v d->(d.all λp=>okF p.2)=ae->nM P' H' v d
 |_,_,.nil,_=>.nil
 |_,_,.cons r t,h=>by
  rw[gS,aT] at h;exact .cons (r.okK b hx m h.1) (nM.okK b hx m t h.2)
theorem nM.snoc(r1:Rep P H w e):∀{v:aa (Str×V)}{d:aa (Str×D)},nM P H v d->nM P H (v++[(f,w)]) (d++[(f,e)])
 |_,_,.nil=>.cons r1 .nil
 |_,_,.cons r t=>.cons r (nM.snoc r1 t)
theorem nM.look:∀{v:aa (Str×V)}{d:aa (Str×D)},nM P H v d->d.lookup f=ab e->∃w,v.lookup f=ab w/\Rep P H w e
 |_,_,.nil,h=>by cases h
 |_,_,.cons r t,h=>by
  rw[iv] at h ⊢;split at h
  ·cases h;exact⟨_,rfl,r⟩
  ·exact nM.look t h
theorem U9:∀{vf:aa (Str×V)},f∉vf.map (·.1)->DW f y vf=vf++[(f,y)]
 |[],_=>rfl
 | (g,x)::r,h=>by
  rw[bh,bq,gu] at h;show(if g=f then (g,y)::r else (g,x)::DW f y r)=_;rw[aw (λz=>h.1 z.symm),U9 h.2];rfl
def sT:Srx->TE
 |.par i=>aP4 i
 |.exp f=>gE f ae
def aQb(K:bg):aa (Str×Srx)->TS
 |[]=>aLf
 | (f,s)::r=>aP9 (aQz K (aP4 0) (sT s) f) (aQb K r)
section
variable {c:Str}
theorem aIy(hq:∀vs H',Q vs H'->Q' vs H')(h:gA fa rr σ H Q):gA fa rr σ H Q':=by
 obtain⟨ρ,ds,E,h1,q⟩:=h;exact⟨ρ,ds,E,h1,λvs H' s r n=>hq _ _ (q vs H' s r n)⟩
def Y4(K:bg)(c f:Str):Prop:=∀C,jn K cg c=ab (ab (.ref C))->Cls K C/\tE K C f
theorem nF(hK:KFrag.K=X.K)(R:Y4 X.K c f)(he:PE X e (gE fe re))(hb:gL e f X.env (bf e X.env)=bf e X.env:=by rfl):PE X (.Attribute e f pos) (gE (vA c f fe) ag):=PE.imp (aLp he hb) λσ H Q z0=>by
 obtain⟨ρ,d,E,h,q⟩:=z0;obtain⟨d0,h1,h2⟩:=bI h;split at h2
 ·rename_i c' fs;split at h2
  ·rename_i hc;have hc:=dh hc;subst hc;refine⟨ρ,_,E,h1,λv H1 s1 r1 _=>?_⟩;obtain⟨_,_,_,_,rfl,hn,hx,rf⟩:=r1.inv;rw[hK] at hn;obtain⟨k1,k2⟩:=R _ hn;cases hl:fs.lookup f with
   |none=>rw[hl] at h2;exact bx h2
   |some d1=>
    rw[hl] at h2;cases h2;obtain⟨w,g1,g2⟩:=rf.look hl;exact⟨_,_,_,_,w,rfl,hx,k1,k2,g1,q w H1 s1 g2 (λz=>by cases z)⟩
  ·exact bx h2
 ·exact bx h2
end
end
noncomputable def rowOf(s:br)(j:af):br:=match s with
 |.ClassDef _ _ _ b _ _ _ _ _ _ _=>b.getD j (.Pass ⟨0,0,0,0⟩)
 |_=>.Pass ⟨0,0,0,0⟩
section
variable [KFrag]
theorem nM.lZ:∀{v:aa (Str×V)}{d:aa (Str×D)},nM P H v d->d.lookup f=ai->v.lookup f=ai
 |_,_,.nil,_=>rfl
 |_,_,.cons r t,h=>by
  rw[iv] at h ⊢;split at h
  ·cases h
  ·exact nM.lZ t h
end
noncomputable def aGa(j:af)(fe:FE):FE:=λρ=>do
 let d <- fe ρ
 match d,ρ.getD j .uD with
 |.adr a,.cel b xs=>if a=b then .ok (.lst xs) else .bad
 |_,_=>.bad
def uU(j:af)(fo fe:FE):FS:=λρ=>do
 let o <- fo ρ
 let d <- fe ρ
 match o,ρ.getD j .uD with
 |.adr a,.cel b xs=>if decide (a=b)&&(decide (xs.length<lim)&&d.pure) then .ok (.nx (ρ.set j (.cel b (xs++[d])))) else .bad
 |_,_=>.bad
noncomputable def aQc(n:af):Fl->Res D
 |.rt (.tup (d::ρ))=>.ok (.tup [d,ρ.getD n .uD,ρ.getD (n+1) .uD])
 |.nx ρ=>.ok (.tup [.non,ρ.getD n .uD,ρ.getD (n+1) .uD])
 |_=>.bad
def fnG(n m:af)(f:FS):aa D->Res D:=λds=>do
 let r <- f (ds++bP (m-(n+2)) .uD)
 aQc n r
noncomputable def CV(n:af):af->aq:=λi=>i==n||i==n+1
def l_(c m:Str)(f:aa D->Res D)(n i j:af)(fa:FA):FX:=λρ=>do
 let d0 <- h_ i ρ
 let ds <- fa ρ
 match d0,ρ.getD j .uD,ρ.getD (j+1) .uD with
 |.ins c' fs,.cel p xs,.cel t ys=>
  if decide (c'=c)&&((fs.lookup m).isNone&&decide (ds.length+1=n)) then (do
   let r <- f (.ins c' fs::ds++[.cel p xs,.cel t ys])
   match r with
   |.tup [d,.cel p' xs',.cel t' ys']=>if decide (p'=p)&&(decide (t'=t)&&(D.aW xs'&&D.aW ys')) then .ok (d,(ρ.set j (.cel p xs')).set (j+1) (.cel t ys')) else .bad
   |_=>.bad) else .bad
 |_,_,_=>.bad
noncomputable def gh(j:af)(p t:ak)(σ:L2.St):L2.St:=(σ.set j (ab (.ref p))).set (j+1) (ab (.ref t))
variable [KFrag]
section
theorem aBj(he:PE X e (gE fe re)):PE X e (gE (aGa j fe) ag):=PE.imp he λσ H Q z0=>by
 obtain⟨ρ,d,E,h,q⟩:=z0;obtain⟨d0,h1,h⟩:=bI h;split at h
 ·rename_i a b xs hb;split at h
  ·rename_i hab;subst hab;cases h;refine⟨ρ,_,E,h1,λv H' s r _=>?_⟩;obtain rfl:=r.inv;obtain⟨w,_,rw1⟩:=(E.same s) j (by rw[hb];intro z;cases z);rw[hb] at rw1;obtain⟨vs,rfl,e1,_,rr⟩:=rw1.inv;exact q _ _ s (.lst e1 trivial rr) (λz=>by cases z)
  ·exact bx h
 ·exact bx h
theorem t_{o e:Expr}(ho:own j=ae)(hob:PE X o (gE fo ro))(he:PE X e (gE fe re))
 (hbase:gL o "append" X.env (bf o X.env)=bf o X.env:=by rfl)
 (hs1:zSE X e []:=by rfl)
 (hfew:zFw X cpos [e]:=by rfl)
 (hline:(apos.endLine==cpos.line)=ae:=by rfl)
 (hs:d5 (.Call (.Attribute o "append" apos) [e] [] cpos) ai pos.line X.env=pure ag:=by rfl) :
  PS X (.Expr (.Call (.Attribute o "append" apos) [e] [] cpos) pos) (tS own (uU j fo fe)):=
 PS.imp (vB (W4 la sx yd uM hob (fV he lM hs1) hbase hfew hline hs1 rfl) hs) λD' σ H z0=>by
 obtain⟨ρ,fl,E,h0,q⟩:=z0;obtain⟨d0,h1,hA⟩:=bI h0;clear h0;obtain⟨d,h2,h⟩:=bI hA;clear hA;split at h
 ·rename_i a b xs hb;split at h
  ·rename_i hk;cases h;rw[aT,aT] at hk;have hab:=dh hk.1;subst hab;obtain⟨a2,vs,hσ,hl,rr,hin,r,hba⟩:=vL E ho (xs:=xs) (by rw[hb];rfl);have:=hba a hb;subst this;have pn:D.aW (xs++[d])=ae:=by
    rw[lW];simp only[aT];exact⟨hin,by simp[D.aW,hk.2.2]⟩
   refine⟨ρ,_,E.er,h1,λu H1 s1 r1 _=>?_⟩;obtain rfl:=r1.inv;refine⟨.inl ⟨rfl,vs,.of (s1 _ _ hl)⟩,ρ,d,E.er.same s1,h2,λv H' s rv _=>⟨a,vs,v,rfl,rfl,s _ _ (s1 _ _ hl),by rw[rr.length];exact T5 hk.2.1,?_⟩⟩;have E':=E.same (s1.trans s);have hl':=s _ _ (s1 _ _ hl);obtain⟨E2,k2⟩:=E'.mut ho hσ (o:=.lst (vs++[v])) rfl (.cel aM trivial (((rr.same (s1.trans s)).snoc rv).upd pn hl' rfl)) (by exact pn);exact q _ _ ((KU.same (s1.trans s)).trans k2) E2
  ·exact bx h
 ·exact bx h
def spG(f:aa D->Res D)(n:af):Sp:=λvs H Q _=>∃(ds:aa D)(p t:ak)(xs ys:aa D)(d:D)(xs' ys':aa D),vs.length=n/\ds.length=n/\ES (CV n) H ((vs++[V.ref p,V.ref t]).map ab) (ds++[.cel p xs,.cel t ys])/\f (ds++[.cel p xs,.cel t ys])=.ok (.tup [d,.cel p xs',.cel t ys'])/\
 ∀v H',(∀a o,H a=ab o->a≠p->a≠t->H' a=ab o)->Rep All H' (.ref p) (.cel p xs')->D.aW xs'=ae->Rep All H' (.ref t) (.cel t ys')->D.aW ys'=ae->Rep (New H) H' v d->Q v H'
theorem aN6{w:af->aq}{ws:aa V}{ds:aa D}{m k:af}(E0:ES w H (ws.map ab) ds)(hw:ws.length=m)(hd:ds.length=m)(hown:∀i,i<m->own i=w i)(hlt:∀i,w i=ae->i<m) :
  ES own H (ws.map ab++bP k ai) (ds++bP k .uD)/\∀a,Own own (ws.map ab++bP k ai) a↔Own w (ws.map ab) a:=by
 have low:∀i,i<m->(ws.map ab++bP k ai)[i]?=(ws.map ab)[i]?:=λi hi=>by rw[ia (by simp[hw,hi])]
 have high:∀i v,m<=i->(ws.map ab++bP k ai)[i]?≠ab (ab v):=λi v hi e=>by
  rw[fz (by simp[hw];lia),je] at e;split at e<;>cases e
 have hO:∀a,Own own (ws.map ab++bP k ai) a↔Own w (ws.map ab) a:=λa=>by
  constructor
  ·rintro⟨i,hi,e⟩;by_cases h:i<m
   ·exact⟨i,by rw[<-hown i h];exact hi,by rw[<-low i h];exact e⟩
   ·exact aE e (high i _ 0x1)
  ·rintro⟨i,hi,e⟩;have h:=hlt i hi;exact⟨i,by rw[hown i h];exact hi,by rw[low i h];exact e⟩
 have hOf:(λa=>¬Own own (ws.map ab++bP k ai) a)=λa=>¬Own w (ws.map ab) a:=funext λa=>by rw[hO]
 have gd:∀i,i<m->(ds++bP k D.uD).getD i .uD=ds.getD i .uD:=λi hi=>by
  rw[cu,ia 0x1,cu]
 refine⟨⟨by simp[hw,hd],λi hi=>?_,λi v hi hv=>?_⟩,hO⟩
 ·have hl:i<m:=tI λhge=>hi (by
   rw[cu,fz 0x1,je];split<;>rfl)
  rw[gd i hl] at hi ⊢;obtain⟨v,g1,g2⟩:=E0.at_ i hi;exact⟨v,by rw[low i hl];exact g1,λho=>by rw[hOf];exact g2 (by rw[<-hown i hl];exact ho)⟩
 ·have hl:i<m:=tI λhge=>high i v hge hv
  rw[low i hl] at hv;rw[gd i hl];obtain⟨a,o,g1,g2,g3,g4,g5,g6⟩:=E0.own i v (by rw[<-hown i hl];exact hi) hv;refine⟨a,o,g1,g2,g3,g4,g5,λj hj hs=>?_⟩;have hjl:j<m:=tI λhge=>high j _ hge hs
  exact g6 j (by rw[<-hown j hjl];exact hj) (by rw[<-low j hjl];exact hs)
theorem aEi{N:aa Str}{vs:aa V}{n:af}(hv:vs.length=n)(hN:n+2<=N.length):gh n p t (L2.start N vs)=(vs++[V.ref p,.ref t]).map ab++bP (N.length-(n+2)) ai:=by
 obtain⟨k,hk⟩:∃k,N.length=n+2+k:=⟨N.length-(n+2),by lia⟩
 unfold gh L2.start;rw[hv,hk,show n+2+k-n=k+2 by lia,show n+2+k-(n+2)=k by lia,uv,uv,cr];rw[B4 _ _ (by simp[hv]),B4 _ _ (by simp[hv])];simp[hv]
theorem aEj{n:af}{N:aa Str}{f:FS}{vs:aa V}{H:Hp}{Q:VK}{E:XK}(hx:own rtX=ae)(hown:∀i,i<n+2->own i=CV n i)(hN:n+2<=N.length)(h0:spG (fnG n N.length f) n vs H Q E):∃p t,tS own f {nx:=λ_ H'=>Q .non H',rt:=Q} (gh n p t (L2.start N vs)) H:=by
 obtain⟨ds,p,t,xs,ys,d,xs',ys',hvl,hl,E0,h,q⟩:=h0;obtain⟨fl,h1,h2⟩:=bI h;refine⟨p,t,?_⟩;rw[aEi hvl hN];obtain⟨E1,hO⟩:=aN6 (own:=own) (k:=N.length-(n+2)) E0 (m:=n+2) (by simp[hvl]) (by simp[hl]) hown (λi hi=>by simp[CV] at hi;lia);have hp:Own (CV n) ((vs++[V.ref p,.ref t]).map ab) p:=⟨n,by simp[CV],by simp[hvl]⟩
 have ht:Own (CV n) ((vs++[V.ref p,.ref t]).map ab) t:=⟨n+1,by simp[CV],by simp[hvl]⟩
 have hOn:∀a,Own (CV n) ((vs++[V.ref p,.ref t]).map ab) a->a=p\/a=t:=λa z0=>by
  obtain⟨i,hi,e⟩:=z0;simp only[CV,f_,io] at hi;rcases hi with rfl|rfl
  ·simp[hvl] at e;exact .inl e.symm
  ·simp[hvl] at e;exact .inr e.symm
 have fin:∀v σ' H' ρ',ρ'.getD n .uD=.cel p xs'->ρ'.getD (n+1) .uD=.cel t ys'->KU own ((vs++[V.ref p,.ref t]).map ab++bP (N.length-(n+2)) ai) H σ' H'->ES own H' σ' ρ'->Rep (New H) H' v d->Q v H':=λv σ' H' ρ' g1 g2 ku E' r=>by
  have one:∀i b zs,own i=ae->ρ'.getD i .uD=.cel b zs->Rep All H' (.ref b) (.cel b zs)/\D.aW zs=ae:=λi b zs hoi g=>by
   obtain⟨w',z2,_⟩:=E'.at_ i (by rw[g];intro z;cases z);obtain⟨a,o,rfl,g4,g5,_⟩:=E'.own i w' hoi z2;rw[g] at g4 g5;have:=aBb g4;cases this;exact⟨g4,g5⟩
  obtain⟨a1,a2⟩:=one n p xs' (by rw[hown n 0x1];simp[CV]) g1;obtain⟨b1,b2⟩:=one (n+1) t ys' (by rw[hown (n+1) 0x1];simp[CV]) g2;exact q v H' (λa o e n1 n2=>(ku a o e (by rw[hO];intro z;rcases hOn a z with z|z;exact n1 z;exact n2 z)).1) a1 a2 b1 b2 r
 refine⟨_,fl,E1,h1,?_⟩;cases fl with
 |nx ρ'=>
  simp only[aQc] at h2;injection h2 with h2
  injection h2 with h2
  injection h2 with z1 z2
  injection z2 with z2 z3
  injection z3 with z3
  subst z1;exact λσ' H' ku E'=>fin .non σ' H' ρ' z2 z3 ku E' .non
 |bk ρ'=>exact bx h2
 |ct ρ'=>exact bx h2
 |rt d'=>
  show kRt own _ _ _ d';unfold kRt;rw[ao hx];unfold aQc at h2;split at h2
  ·rename_i d1 ρ' heq;cases heq;injection h2 with h2
   injection h2 with h2
   injection h2 with z1 z2
   injection z2 with z2 z3
   injection z3 with z3
   subst z1;refine⟨_,_,rfl,λv σ' H' ku E' r=>fin v σ' H' ρ' z2 z3 ku E' (r.mono λa ha=>?_)⟩;rcases ha.1 with ho|hn
   ·exfalso;rw[hO] at ho;rcases hOn a ho with rfl|rfl
    ·exact ha.2 n _ xs' z2 rfl
    ·exact ha.2 (n+1) _ ys' z3 rfl
   ·exact hn
  ·rename_i heq;cases heq
  ·exact bx h2
theorem aBk{X:Cx}{pins:aa (ak×bd)}{σ:L2.St}{H:Hp}{s:am}{j:af}{v:V}(I:Inv X pins σ H s)(n:∀x,X.N[j]?=ab x->¬Vis X.env.scope x):Inv X pins (σ.set j (ab v)) H s:=
 ⟨I.ok,I.os,I.bare,I.base,let ⟨m,hn,hl⟩:=I.loc;⟨m,hn,λi x v e1 e2 e3=>hl i x v e1 (by
  by_cases h:j=i
  ·subst h;exact aE e3 (n x e1)
  ·rw[de h] at e2;exact e2) e3⟩,I.cell,I.free,I.freeC,I.pin,I.hok,by rw[mx];exact I.len⟩
def Hid(X:Cx)(j:af):Prop:=∀x,X.N[j]?=ab x->¬Vis X.env.scope x
theorem aGb{st:aa br}(h:PSs X st t)(n1:Hid X j)(n2:Hid X (j+1)):PSs X st (λD σ H=>∃p q,t D (gh j p q σ) H):=λpins s σ H D I ⟨p,q,h'⟩=>h pins s _ H D (aBk (aBk I n1) n2) h'
theorem uV{X:Cx}{j:af}{y:Str}(h:X.N[j]?=ab y)(hl:X.env.scope.names.lookup y=ai):Hid X j:=λx e v=>by
 rw[h] at e;cases e;unfold Vis at v;rw[hl] at v;rcases v with v|v|v<;>cases v
theorem aBl{P:bS}{w:bm}{K:bg}{mg:Str->au aj}{base:aI}{x qual:Str}{st:br}{fad:ak}{fd:eu}{N ps:aa Str}{k:af}{f:FS}(F:Fun K x qual st fad fd)(S:cC N ps (aN st))(own:af->aq)(hx:own rtX=ae)(hown:∀i,i<ps.length+2->own i=CV ps.length i)(hN:ps.length+2<=N.length){y1 y2:Str}(e1:N[ps.length]?=ab y1)(l1:(aN st).names.lookup y1=ai)(e2:N[ps.length+1]?=ab y2)(l2:(aN st).names.lookup y2=ai)
 (hbody:∀(cdv:aj) (A:b5) (outer:aa di) (s:am) (H:Hp) (E:XK),nU k (A.deeper (gp qual (aN st) s.heap.objs.size fad cdv))->PSs (Z0 CX0 P w K mg base N qual (aN st) fad cdv A outer s H E).nox (eX st) (tS own f)):v6 P w K mg base CX0 (k+1) fad fd ps (spG (fnG ps.length N.length f) ps.length):=
 F.ok S (λvs H Q E ⟨_,_,_,_,_,_,_,_,e,_⟩=>e) λcdv A outer s H vs Q E hr h=>⟨_,aGb (hbody cdv A outer s H E hr) (uV e1 l1) (uV e2 l2),aEj hx hown hN h⟩
def aGc(P:bS)(w:bm)(K:bg)(mg:Str->au aj)(base:aI)(k:af)(c m:Str)(n:af)(f:aa D->Res D):Prop:=
 ∃(C fm:ak)(fd:eu)(ps:aa Str),jn K cg c=ab (ab (.ref C))/\Cls K C/\Meth K C m fm/\v6 P w K mg base CX0 k fm fd ps (spG f n)/\Binds K fd ps []
theorem aQd{p t:ak}{n:af}(hpt:p≠t)(hp:H p=ab (.lst vp))(rp:b7 All H vp xs)(px:D.aW xs=ae)(ht:H t=ab (.lst vt))(rt:b7 All H vt ys)(py:D.aW ys=ae)(rs:b7 (λb=>b≠p/\b≠t) H vs ds)(hl:vs.length=n):ES (CV n) H ((vs++[V.ref p,.ref t]).map ab) (ds++[.cel p xs,.cel t ys]):=by
 have hd:ds.length=n:=by rw[<-rs.length];exact hl
 have hO:∀b,Own (CV n) ((vs++[V.ref p,.ref t]).map ab) b->b=p\/b=t:=λb z0=>by
  obtain⟨i,hi,e⟩:=z0;simp only[CV,f_,io] at hi;rcases hi with rfl|rfl
  ·simp[hl] at e;exact .inl e.symm
  ·simp[hl] at e;exact .inr e.symm
 have g0:(ds++[D.cel p xs,.cel t ys]).getD n .uD=.cel p xs:=by simp[cu,hd]
 have g1:(ds++[D.cel p xs,.cel t ys]).getD (n+1) .uD=.cel t ys:=by simp[cu,hd]
 have v0:((vs++[V.ref p,.ref t]).map ab)[n]?=ab (ab (.ref p)):=by simp[hl]
 have v1:((vs++[V.ref p,.ref t]).map ab)[n+1]?=ab (ab (.ref t)):=by simp[hl]
 refine⟨by simp[hl,hd],λi hi=>?_,λi v hi hv=>?_⟩
 ·rcases B5 i n with h|h|h
  ·have e:(ds++[D.cel p xs,.cel t ys]).getD i .uD=ds.getD i .uD:=by rw[cu,ia 0x1,cu]
   rw[e] at hi ⊢;cases hq:ds[i]? with
   |none=>rw[cu,hq] at hi;exact aE rfl hi
   |some d=>
    obtain⟨v,z1,z2⟩:=rs.get hq;rw[cu,hq];refine⟨v,?_,λ_=>z2.mono λb hb ho=>?_⟩
    ·rw[jg,ia 0x1,z1];rfl
    ·rcases hO b ho with z|z
     ·exact hb.1 z
     ·exact hb.2 z
  ·subst h;exact⟨_,v0,λz=>by simp[CV] at z⟩
  ·by_cases h2:i=n+1
   ·subst h2;exact⟨_,v1,λz=>by simp[CV] at z⟩
   ·exfalso;apply hi;rw[cu,um (by simp[hd];lia)];rfl
 ·simp only[CV,f_,io] at hi;rcases hi with rfl|rfl
  ·rw[v0] at hv;cases hv;rw[g0];refine⟨p,_,rfl,.cel hp trivial rp,px,hp,rfl,λj hj hs=>?_⟩;simp only[CV,f_,io] at hj;rcases hj with rfl|rfl
   ·rfl
   ·rw[v1] at hs;cases hs;exact aE rfl hpt
  ·rw[v1] at hv;cases hv;rw[g1];refine⟨t,_,rfl,.cel ht trivial rt,py,ht,rfl,λj hj hs=>?_⟩;simp only[CV,f_,io] at hj;rcases hj with rfl|rfl
   ·rw[v0] at hs;cases hs;exact aE rfl hpt
   ·rfl
theorem uW(hK:KFrag.K=X.K)(R:aGc X.prog X.w X.K X.mg X.base k c m n f)(hr:nU k' X.A)(hkk:k<=k')(ho:own i=ag)(hj:own j=ae)(hj2:own (j+1)=ae)(hN:X.N[i]?=ab y)(hv:Vis X.env.scope y)(ha:PA X (e::es) (gAO own fa))(hd:(y==("__debug__" : Str))=ag:=by decide)(hcd:(y==("__classdict__" : Str))=ag:=by decide)
 (hst:zSE X e es:=by rfl)(hpl:zSP X pos es:=by rfl)
 (ht:bf (.Call (.Attribute (.Name y py) m apos) (e::es) [] pos) X.env=(do
   let ov <- bf (.Name y py) X.env
   nw apos.atName
   let (f,first) <- jy [ov] (rc ov m pl)
   r_ pos f first (iA pos (b9 (e::es) X.env)) (ve pos (vg [] X.env))):=by rfl) :
  PE X (.Call (.Attribute (.Name y py) m apos) (e::es) [] pos) (gX own (l_ c m f n i j fa)):=by
 obtain⟨C,fm,fd,ps,hn,cl,M,F,hb⟩:=R;refine PE.imp (aHh (jD hN hv hd hcd) cl M F (hr.mono hkk) hb .nil aDj ha hst hpl ht) λσ H Q ⟨ρ,d,ρ',E,h0,q⟩=>?_
 obtain⟨d0,h1,hA⟩:=bI h0;obtain⟨ds,h2,h⟩:=bI hA;clear h0 hA;split at h
 ·rename_i c' fs p xs t ys hp0 ht0;split at h
  ·rename_i hc;rw[aT,aT,Option.isNone_iff_eq_none] at hc;obtain⟨hc1,hc2,hc3⟩:=hc;have hc1:=dh hc1;have hc3:=dh hc3;subst hc1;obtain⟨r,h3,hB⟩:=bI h;clear h
   revert hB
   intro h;split at h
   ·rename_i d1 p' xs' t' ys';split at h
    ·rename_i hg;rw[aT,aT,aT] at hg;obtain⟨e1,e2,px',py'⟩:=hg;have e1:=dh e1;have e2:=dh e2;subst e1 e2;cases h;obtain⟨v,hσ,rv⟩:=aN5 E ho h1;obtain⟨a,vp,hσp,hp,rp,px,_,hpa⟩:=vL E hj (xs:=xs) (by rw[hp0];rfl);have:=hpa _ hp0;subst this;obtain⟨b,vt,hσt,ht1,rt,py,_,htb⟩:=vL E hj2 (xs:=ys) (by rw[ht0];rfl);have:=htb _ ht0;subst this;have hpt:p'≠t':=λz=>by
      subst z;obtain⟨b,o,eb,_,_,_,_,huq⟩:=E.own j _ hj hσp;cases eb;have:=huq (j+1) hj2 hσt;lia
     have hOp:Own own σ p':=⟨j,hj,hσp⟩
     have hOt:Own own σ t':=⟨j+1,hj2,hσt⟩
     have rv0:=rv;obtain⟨x,C',dx,vf,rfl,hn',hx,rf⟩:=rv.inv;rw[hK,hn] at hn';cases hn';refine⟨_,hσ,x,dx,vf,rfl,hx,rf.lZ hc2,ρ,ds,E,h2,λvs H1 s1 rs=>?_⟩;dsimp only;rw[d6];refine⟨.ins c' fs::ds,p',t',xs,ys,d,xs',ys',by rw[bc,rs.length];exact hc3,by rw[bc];exact hc3,aQd hpt (s1 _ _ hp) (rp.same s1) px (s1 _ _ ht1) (rt.same s1) py ((b7.cons (rv0.same s1) rs).mono λb hb=>⟨λz=>hb (by rw[z];exact hOp),λz=>hb (by rw[z];exact hOt)⟩) (by rw[bc,rs.length];exact hc3),h3,λw H' k1 a1 _ b1 _ rn=>?_⟩;obtain⟨vp1,ep1,_,rp1⟩:=aBa a1 rfl;obtain⟨vt1,et1,_,rt1⟩:=aBa b1 rfl
     let Hm:Hp:=λb=>if b=t' then H1 b else H' b
     have hmc:Hm t'=H1 t':=ao rfl;have hmn:∀b,b≠t'->Hm b=H' b:=λb n=>aw n
     have raM:Rep All Hm (.ref p') (.cel p' xs'):=by
      refine .cel (by rw[hmn p' hpt];exact ep1) trivial ?_;refine((rp1.b8 px':b7 (λ_=>cw) H' vp1 xs')).keep (λb ob eb hb=>?_) λ_ z=>z.elim
      rw[hmn b λz=>?_]
      ·exact eb
      ·subst z;rw[et1] at eb;cases eb;rcases hb with hb|hb
       ·exact hb.elim
       ·cases hb
     obtain⟨E1,k1'⟩:=(E.same s1).aR5 hj hσp (λb ob e n=>by
      by_cases hbc:b=t'
      ·subst hbc;rw[hmc];exact e
      ·rw[hmn b hbc];exact k1 b ob e n hbc) (by rw[hmn p' hpt];exact ep1) rfl raM px'
     obtain⟨E2,k2'⟩:=E1.aR5 hj2 hσt (λb ob e n=>by rw[hmn b n] at e;exact e) et1 rfl b1 py';exact q w H' ((KU.same s1).trans (k1'.trans k2')) E2 ((NS.set hj).trans (.set hj2)) (rn.mono λb hb=>s1.free hb)
    ·exact bx h
   ·exact bx h
  ·exact bx h
 ·exact bx h
end
end Mi
namespace Lw
open PySem PySem.Spec
noncomputable abbrev enO(f0:aj)(fb:aq)(it:ak)(k:ah)(old:aj):bd:={cls:=.type "enumerate",data:=.fields #[f0,.bool fb,.ref it,du k,.none,old]}
section
variable {prog:bS} {w:bm} {A:b5} {E:aj->am->Prop} {s:am}
noncomputable abbrev lsO(acc:ay aj)(c:af):bd:={cls:=.type "list",dict:=ai,data:=.seq acc c,slots:=#[]}
theorem aIz{T:dS}{R:kH->am->Prop}(ty:s.TypeIs (.ref I) T)(n1:(fI T==fI "list")=ag)(n2:(fI T==fI "tuple")=ag)(hSI:S≠I)(hS:s.heap.get? S=ab {cls:=.type "list",data:=.seq #[]})
 (it:∀(h:aI) (tk:af) (Q:aj->am->Prop) (E:aj->am->Prop),(∀b o,b≠S->s.heap.get? b=ab o->h.get? b=ab o)->Q (.ref I) {s with heap:=h,toks:=tk}->wpAny (av prog w) A.in1 (iE (.ref I)) Q E {s with heap:=h,toks:=tk})
 (hint:∀(h:aI) (tk:af) (Q:aq->am->Prop) (E:aj->am->Prop),(∀b o,b≠S->s.heap.get? b=ab o->h.get? b=ab o)->(∀b tk',Q b {s with heap:=h,toks:=tk'})->wpAny (av prog w) A.in1 (za (.ref I)) Q E {s with heap:=h,toks:=tk})
 (key:∀(h:aI) (c tk:af),(∀b o,b≠S->s.heap.get? b=ab o->h.get? b=ab o)->h.get? S=ab (lsO #[] c)->codeAny (av prog w) A (.builtin "list.extend.loop" ⟨[.ref S,.ref I,.none],[]⟩) R {s with heap:=h,toks:=tk}) :
  wpAny (av prog w) A.in1 (dq.«list.__init__» ⟨[.ref S,.ref I],[]⟩)
   (λfin s'=>match fin with|.done f=>R (.ok f) s'|.again c'=>c'.quiet=ae/\codeAny (av prog w) A c' R s') (λe s'=>R (.error e) s') s:=by
 show wpAny _ _ (do let old <- B6 (.ref S);Dt (.ref S) (λ_=>#[]);letGo old.toList.reverse;oq (.ref S) (.ref I) .none) _ _ s;refine al ?_;unfold B6;refine al (fx hS rfl (az ?_));show wpAny _ _ (i7 S (λ_=>#[]) >>= λ_=>letGo (#[]:ay aj).toList.reverse >>= λ_=>oq (.ref S) (.ref I) .none) _ _ s;refine al (jq hS rfl ?_);have hS₂:=jr (dA (λ_=>(#[]:ay aj))) hS rfl;have oth:∀b o,b≠S->s.heap.get? b=ab o->(s.heap.update S (dA (λ_=>(#[]:ay aj)))).get? b=ab o:=λb o hb z=>(ji _ _ (cj hb)).trans z
 refine al (ig ?_);generalize s.heap.update S (dA (λ_=>(#[]:ay aj)))=hA at hS₂ oth;unfold oq;refine al (iL (T:=T) (let ⟨o,e,c⟩:=ty;⟨o,oth _ o (cj hSI) e,c⟩) ?_);have d1:B7 (.ref S) (.ref I)=ag:=by simp[B7,hSI]
 simp only[d1,n1,n2,w_,iX,gN];refine al (it hA s.toks _ _ oth ?_);refine al (eh (hint hA s.toks _ _ oth λb tk=>?_));refine zb (λ_=>?_) (λ_=>az ⟨ix B8 _,key _ _ _ oth hS₂⟩);refine al (li (al ?_));show wpAny _ _ (i7 S (·.push .none) >>= λ_=>i7 S (·.pop)) _ _ _;refine al (jq hS₂ rfl ?_);have hS₃:=jr (dA (·.push ox)) hS₂ rfl;refine jq (hz:=by seq_fits) hS₃ rfl ?_;have hS₄:=jr (dA (·.pop)) hS₃ rfl;exact az ⟨ix B8 _,key _ _ _ (λb o hb z=>(ji _ _ (cj hb)).trans ((ji _ _ (cj hb)).trans (oth b o hb z))) hS₄⟩
end
section
variable {prog:bS} {w:bm} {A:b5} {E:aj->am->Prop} {s:am} {m:ah}
theorem aQe{α:Type}{M:Model}{c:Prop}[zc c]{a b:ii α}{Q:α->am->Prop}(h1:wpAny M A a Q E s)(h2:wpAny M A b Q E s):wpAny M A (if c then a else b) Q E s:=if h:c then (ao h).symm▸h1 else (aw h).symm▸h2
theorem aS8(l:ak)(items:ay aj)(n:af)(dd:au ak)(sl:ay (au aj))(t:dQ)(hm:zd m=ae) :
  jo (dq.«enumerate.__new__» ⟨[.type "enumerate",.ref l],[("start",.int m t)]⟩) (λ_ R s=>s.heap.get? l=ab (Wz.tuO items n dd sl)/\
   ∀h' e it tk,it=s.heap.objs.size->e=it+1->h'.get? e=ab (enO .none ag it m .none)->h'.get? it=ab (Wz.itO l 0)->(∀b o,s.heap.get? b=ab o->h'.get? b=ab o)->R (.ok (.ret (.ref e))) {s with heap:=h',toks:=tk}):=.of_wp λprog w A R s hs=>by
 obtain⟨hp,g,d,tk,os⟩:=s;obtain⟨hl,q⟩:=hs;have sub:=BS;have p:ud (ue ⟨hp,g,d,tk,os⟩) l items:=⟨_,hl,rfl,n,rfl⟩
 have hz:(hp.push (Wz.itO l 0)).objs.size=hp.objs.size+1:=dv ..;have fin:∀(tk':af),R (.ok (.ret (.ref (hp.push (Wz.itO l 0)).objs.size))) ⟨(hp.push (Wz.itO l 0)).push (enO .none ag hp.objs.size m .none),g,d,tk',os⟩:=λtk'=>by
  refine q _ _ _ tk' rfl hz (cx _ rfl) (bu _ (cx _ rfl)) λb o e=>bu _ (bu _ e)
 have hm':(!Builtin.SmallTypes.fitsIndex m)=ag:=by rw[hm];rfl
 wp_walk using lq hl
 refine BT λst=>az ?_
 refine aQe ?_ ?_
 ·wp_walk using lq hl,i8 p
  exact⟨_,rfl,fin tk⟩
 ·wp_walk using lq hl,i8 p
  exact⟨_,rfl,fin tk⟩
theorem aQf(a:aj)(m:ah)(t:dQ):checkTypeCall "enumerate" ⟨[a],[("start",.int m t)]⟩=pure ():=by kernel_rfl
theorem aQg(a:aj)(m:ah)(t:dQ):checkBuiltinCall "enumerate.__new__" ⟨[.type "enumerate",a],[("start",.int m t)]⟩=pure ():=by kernel_rfl
theorem aQh(a b:aj)(m:ah)(t:dQ):argsOk "object.__init__" ⟨[a,b],[("start",.int m t)]⟩:=by kernel_rfl
theorem aJ0{self b:aj}{t:dQ}{R:yf->am->Prop}(hT:s.TypeIs self "enumerate")(q:R (.done (.ret .none)) s):wpAny (av prog w) A (dq.«object.__init__» ⟨[self,b],[("start",.int m t)]⟩) R E s:=by
 have hl:=uq.init.lookup;have hm:=uq.made
 repeat (any_goals (first|assumption|wp_step))
theorem aJ1{l:ak}{items:ay aj}{t:dQ}{Q:aj->am->Prop}(hm:zd m=ae)(e:s.heap.get? l=ab (Wz.tuO items n dd sl))
 (q:∀h' e it tk,it=s.heap.objs.size->e=it+1->h'.get? e=ab (enO .none ag it m .none)->h'.get? it=ab (Wz.itO l 0)->(∀b o,s.heap.get? b=ab o->h'.get? b=ab o)->Q (.ref e) {s with heap:=h',toks:=tk}) :
  wpAny (av prog w) A (call (.type "enumerate") [.ref l] [("start",.int m t)]) Q E s:=by
 have ft:=uq;obtain⟨c,tl,m0⟩:=ft.mro;have m1:=ft.made;have m2:=ft.sub;have m3:=ft.notType;have m4:=ft.canCreate;have k1:=aQf (.ref l) m t;refine vF (codeAny_of_tree (show wpAny _ _ (callAny (.type "enumerate") _) _ _ _ from az ⟨lj _ 0x6,gf F.entry_type_call ?_⟩));rw[Around.under_plain (weight_type_call_type "enumerate" _ _) (units_type_call_type "enumerate" _ _)]
 repeat (any_goals (first|assumption|wp_step))
 have step:∀c (R:kH->am->Prop),c=(B9 (.builtin "enumerate.__new__") ⟨[.type "enumerate",.ref l],[("start",.int m t)]⟩)->(∀h' e it tk,it=s.heap.objs.size->e=it+1->h'.get? e=ab (enO .none ag it m .none)->h'.get? it=ab (Wz.itO l 0)->(∀b o,s.heap.get? b=ab o->h'.get? b=ab o)->R (.ok (.ret (.ref e))) {s with heap:=h',toks:=tk})->codeAny (av prog w) A.in1 c R s:=λc R hc hq=>by
  subst hc;exact Ca ft.plain BU (yb (aQg (.ref l) m t) (aS8 l items n dd sl t hm prog w A.in1 R s ⟨e,hq⟩))
 refine kL (step _ (λr s1=>∃h' a it tk,r=.ok (.ret (.ref a))/\s1={s with heap:=h',toks:=tk}/\h'.get? a=ab (enO .none ag it m .none)/\Q (.ref a) s1) rfl λh' a it tk x1 x2 x3 x4 x5=>⟨h',a,it,tk,rfl,rfl,x3,q h' a it tk x1 x2 x3 x4 x5⟩) λr s1 hr=>?_
 obtain⟨h',a,it,tk,rfl,rfl,x3,hq⟩:=hr;have hT:({s with heap:=h',toks:=tk}:am).TypeIs (.ref a) "enumerate":=⟨_,x3,rfl⟩
 have hli:=ft.init.lookup;have hbi:=ft.init.bind (.ref a)
 repeat (any_goals (first|assumption|wp_step))
 have step2:∀c (R:kH->am->Prop),c=(B9 (.builtin "object.__init__") ⟨[.ref a,.ref l],[("start",.int m t)]⟩)->R (.ok (.ret .none)) {s with heap:=h',toks:=tk}->codeAny (av prog w) A.in1 c R {s with heap:=h',toks:=tk}:=λc R hc hq=>by
  subst hc;exact Ca ft.init.plain F.entry_object_init (ft.init.check _ _ _ _ _ _ _ _ hT (aQh _ _ _ _) (aJ0 hT hq))
 refine kL (step2 _ (λr s2=>r=.ok (.ret .none)/\s2={s with heap:=h',toks:=tk}) rfl ⟨rfl,rfl⟩) λr s2 hr=>?_
 obtain⟨rfl,rfl⟩:=hr
 repeat (any_goals (first|assumption|wp_step))
end
end Lw
namespace Mi
open PySem L2 PySem.SeqAt PySem.Spec PyProof.Rows
variable [KFrag]
section
variable {pos:cn}
theorem aN7{M:Model}{A:b5}{E:aj->am->Prop}{s:am}{T:dS}{args:aa (aq×ii aj)}{kws:aa (au Str×ii aj)}{Q:aj->am->Prop}(hp:args.any (·.1)=ag)(hk:kws.any (·.1.isNone)=ag)
 (h:wpAny M A (evalArgs (.type T) ae args kws) (λa s₁=>wpAny M A (call (.type T) a.pos a.kw) Q E s₁) E s):wpAny M A (r_ pos (.type T) [] args kws) Q E s:=by
 unfold r_;refine al (eh (fT h (λa s1 h1=>al (Bp ?_)) λ_ _ x=>x));rw[hp,hk];exact al (az (al (fT h1 (λr s2 hr=>al (eh (wpAny_point (az hr)))) λ_ _ x=>x)))
end
end Mi
namespace Lw
open PySem PySem.Spec
theorem aJ2:j3 (.type "list_reverseiterator") "__len__"=pure ai:=by rw[kj,ko];kernel_rfl
theorem aEk:Slot "list_reverseiterator" "__length_hint__" "list_reverseiterator.__length_hint__":=
 .of (owner:= "list_reverseiterator") (n:= "__length_hint__") (by rw[kj,ko];kernel_rfl) 0x6 0x6 0x6
  (by first|exact .inl 0x6|exact .inr 0x6) (by rw[Cb];kernel_rfl)
theorem aEm:isSubtype (.type "list_reverseiterator") (.type "list_reverseiterator")=pure ae:=by rw[Cb];kernel_rfl
section
variable {prog:bS} {w:bm} {A:b5} {E:aj->am->Prop} {s:am}
theorem aQi(ty:s.TypeIs (.ref I) "list_reverseiterator")(h:∀b tk,Q b {s with toks:=tk}):wpAny (av prog w) A (za (.ref I)) Q E s:=by
 unfold za;refine al (xL ty aJ2 ?_);dsimp only;refine zb (λhab=>aE hab 0x6) (λ_=>?_);rw[aw 0x2];refine al (xL ty aEk.lookup ?_);generalize hid:("list_reverseiterator.__length_hint__" : dS)=id0
 wp_delta
 rw[show splitId id0=ab ("list_reverseiterator","__length_hint__") from by subst hid;decide +kernel];subst hid;refine al (BH (T:= "list_reverseiterator") (b:=ae) ty aEm ?_);refine zb (λhab=>aE hab 0x4) (λ_=>?_);rw[ao 0x6,aw 0x4];exact az (h _ _)
theorem aEn{Q:aj->am->Prop}(hh:A.handled=ai)(hn:xs.size<=ba)(hne:l≠I)(hit:s.heap.IsRevIter I l ((xs.size:ah)-1))(hl:s.heap.IsList l xs)
 (q:∀h' tk acc' c',(∀b o,b≠I->s.heap.get? b=ab o->h'.get? b=ab o)->h'.get? s.heap.objs.size=ab (lsO acc' c')->ItemsOf (λi v=>xs[xs.size-1-i]?=ab v) acc' xs.size->Q (.ref s.heap.objs.size) {s with heap:=h',toks:=tk}) :
  wpAny (av prog w) A (call (.type "list") [.ref I]) Q E s:=by
 refine uj (Q₁:=λobj s₁=>obj=.ref s.heap.objs.size/\s₁={s with heap:=s.heap.push {cls:=.type "list",data:=.seq #[]}}) PySem.F.called_list (PySem.F.typeCall_list_1 _) PySem.F.entry_list_init
  (code_list_new _ ⟨rfl,rfl⟩) λobj s₁ h₁=>?_
 obtain⟨rfl,rfl⟩:=h₁;have hS:(s.heap.push {cls:=.type "list",data:=.seq #[]}).get? s.heap.objs.size=ab {cls:=.type "list",data:=.seq #[]}:=cx _ rfl;have lt:∀{b:ak}{o:bd},s.heap.get? b=ab o->s.heap.objs.size≠b:=λz=>hI (bp z)
 have l1:s.heap.objs.size≠I:=let ⟨o,e,_⟩:=hit;lt e
 have l2:s.heap.objs.size≠l:=let ⟨o,e,_⟩:=hl;lt e
 have hit':=hit.at (h':=s.heap.push {cls:=.type "list",data:=.seq #[]}) λo e=>bu _ e
 have hl':(s.heap.push {cls:=.type "list",data:=.seq #[]}).IsList l xs:=hl.at λo e=>bu _ e
 refine⟨⟨_,hS,rfl⟩,PySem.F.args_list_init_2 _ _,?_⟩;refine aIz (A:=A.in1) (T:= "list_reverseiterator") hit'.typeIs 0x4 0x4 l1 hS (λh tk Q E k z=>?_) (λh tk Q E k z=>?_) λh c tk k z=>?_
 ·exact wpAny_pyIter_revIter (hit'.at λo e=>k _ o (cj l1) e) z
 ·exact aQi (hit'.at λo e=>k _ o (cj l1) e).typeIs z
 ·have W:=Walks.listRev (prog:=prog) (w:=w) (A:=A.in1.in1) hh I l hne xs;refine codeAny_extend_loopS (A:=A.in1) W.toS hn s.heap.objs.size (by simp only[bq,i9,or_false,gu];exact⟨l1,l2⟩) .none xs.size 0 _ #[] c rfl (cy _) ⟨cy _,by simpa using hit'.at λo e=>k _ o (cj l1) e,hl'.at λo e=>k _ o (cj l2) e⟩ z (ItemsOf.nil _) λs' acc' c' hm hS' hacc=>?_
  rw[Moved.eq_with hm];refine⟨rfl,q s'.heap s'.toks acc' c' (λb o hb e=>hm.heap b o (λhmem=>?_) (k b o (cj (lt e)) (bu _ e))) hS' hacc⟩;rcases bq.mp hmem with e'|hmem
  ·exact lt e e'.symm
  ·exact hb (gq.mp hmem)
end
end Lw
namespace Mi
open PySem L2 PySem.SeqAt PySem.Spec PyProof.Rows
section
variable [KFrag]
section
variable {X:Cx} {e:Expr} {p p2 pos pos2:cn}
def tLR(t:TE):TE:=λσ H Q=>t σ H λv H1=>∃a xs,v=.ref a/\H1 a=ab (.lst xs)/\∀p,H1 p=ai->Q (.ref p) (upd H1 p (.lst xs.reverse))
theorem aJ3{t:TE}(hc:X.calm=ae)(hg:Gl X "list")(hm:X.mg "list"=ai)(hg2:Gl X "reversed")(hm2:X.mg "reversed"=ai)(he:PE X e t)(hs:b9 [e] X.env=[(ag,bf e X.env)]:=by rfl)
 (hs2:b9 [.Call (.Name "reversed" p2) [e] [] pos2] X.env=[(ag,bf (.Call (.Name "reversed" p2) [e] [] pos2) X.env)]:=by rfl) :
  PE X (.Call (.Name "list" p) [.Call (.Name "reversed" p2) [e] [] pos2] [] pos) (tLR t):=by
 intro pins s σ H Q I h;refine hZ (kO I hg hm QW ?_);refine ik ?_ hs2 rfl;rw[hs2];show wpAny _ _ (jx [(ag,bf (.Call (.Name "reversed" p2) [e] [] pos2) X.env)]) _ _ s;refine kG ?_;refine hZ (kO I hg2 hm2 Q4 ?_);refine ik ?_ hs rfl;rw[hs];show wpAny _ _ (jx [(ag,bf e X.env)]) _ _ s;refine kG (thn (he pins s σ H _ I h) λu s1 ⟨x,H1,I1,ru,t,xs,ex0,ex,q⟩=>?_);subst ex0;cases ru;obtain⟨hz,its,n,rv,ho⟩:=I1.hok t _ ex;have htt:s1.heap.IsList t its.toArray:=⟨_,ho,rfl,n,rfl⟩
 refine kF ?_;have hz':its.toArray.size<=ba:=by rw[bX,<-rv.length];exact hz
 refine call_reversed_list htt ?_;refine kF ?_;have hne:t≠s1.heap.objs.size:=ck (bp ho);generalize hO:s1.heap.push (revObj t ((its.toArray.size:ah)-1))=hB;have kB:∀b o,s1.heap.get? b=ab o->hB.get? b=ab o:=λb o z=>by rw[<-hO];exact bu _ z
 have iB:hB.IsRevIter s1.heap.objs.size t ((its.toArray.size:ah)-1):=by rw[<-hO];exact⟨_,cx _ rfl,rfl,rfl⟩
 have szB:hB.objs.size=s1.heap.objs.size+1:=by rw[<-hO];exact dv ..
 refine Lw.aEn (s:={s1 with heap:=hB}) (I:=s1.heap.objs.size) (l:=t) (xs:=its.toArray) (I1.ok.hd hc) hz' hne iB (htt.at λo e=>kB _ o e) λh' tk acc c k hS hacc=>?_
 have hS:h'.get? hB.objs.size=ab (Lw.lsO acc c):=hS;have k:∀b o,b≠s1.heap.objs.size->hB.get? b=ab o->h'.get? b=ab o:=k;have hfr:H1 hB.objs.size=ai:=I1.hok.fresh (by rw[szB];lia);have hlen:acc.toList.length=its.length:=by have:=hacc.1;simpa using this
 have hv:Vals xs.reverse acc.toList:=aEf rv hlen λj v hj=>by
  have:=hacc.2 j v (by simpa using hj);simpa using this
 exact⟨.ref hB.objs.size,_,I1.laid (a:=hB.objs.size) (o:=.lst xs.reverse) (h':=h') (t':=tk) (λb o e=>k b o (ck (bp e)) (kB b o e)) (by rw[szB];lia) ⟨by rw[mz];exact hz,acc.toList,c,hv,by simpa using hS⟩,rfl,q _ hfr⟩
end
end
def evI(ρ:aa D):aa (Str×Srx)->Res (aa (Str×D))
 |[]=>.ok []
 | (f,.exp g)::r=>do
  let d <- g ρ
  let ds <- evI ρ r
  if inner d then .ok ((f,d)::ds) else .bad
 |_=>.bad
noncomputable def mkG(i j:af)(c f1 f2 f3 f4:Str)(d1 d2:D)(p t:ak)(ρ:aa D):aa D:=((ρ.set i (.ins c [(f1,d1),(f2,d2),(f3,.adr p),(f4,.adr t)])).set j (.cel p [])).set (j+1) (.cel t [])
open Classical in
def aN8(i j:af)(c:Str)(l:aa (Str×Srx))(n:af)(fa:FA)(g:FS):FS:=λρ=>do
 let ds <- fa ρ
 if decide (ds.length=n) then (do
  let fs <- evI (.uD::ds) l
  match fs with
  |[(f1,d1),(f2,d2),(f3,.lst []),(f4,.lst [])]=>if h:∃d,∀p t,p≠t->g (mkG i j c f1 f2 f3 f4 d1 d2 p t ρ)=.ok (.rt d) then .ok (.rt h.choose) else .bad
  |_=>.bad) else .bad
def xLR(f:FX):FX:=λρ=>do
 let p <- f ρ
 match p.1 with
 |.lst xs=>if D.aW xs then .ok (.lst xs.reverse,p.2) else .bad
 |_=>.bad
def aBm(i:af)(f:FX):FS:=λρ=>do
 let p <- f ρ
 match ρ.getD i .uD,p.2.getD i .uD,p.1 with
 |.lst _,.lst xs,.lst ys=>if decide (xs.length+ys.length<=lim)&&D.aW ys then .ok (.nx (p.2.set i (.lst (xs++ys)))) else .bad
 |_,_,_=>.bad
def aEo(j:af)(fo:FE)(f:FX):FS:=λρ=>do
 let o <- fo ρ
 let p <- f ρ
 match o,ρ.getD j .uD,p.2.getD j .uD with
 |.adr a,.cel b0 _,.cel b xs=>if decide (a=b0)&&(decide (a=b)&&(decide (xs.length<lim)&&p.1.pure)) then .ok (.nx (p.2.set j (.cel b (xs++[p.1])))) else .bad
 |_,_,_=>.bad
section
variable [KFrag]
section
theorem K7:∀{v:aa (Str×V)}{d:aa (Str×D)},nM P H v d->(d.all λp=>inner p.2)=ae->∀w∈v.map (·.2),∃a o,w=.ref a/\H a=ab o
 |_,_,.nil,_,w,h=>by cases h
 |_,_,.cons r t,h,w,hw=>by
  rw[gS,aT] at h;rcases bq.mp hw with rfl|hw
  ·obtain⟨a,o,e,_,e2,_⟩:=CG r h.1;exact⟨a,o,e,e2⟩
  ·exact K7 t h.2 w hw
theorem aN9{d:aa (Str×D)}(h:(d.all λp=>inner p.2)=ae):(d.all λp=>okF p.2)=ae:=by
 rw[e9] at h ⊢;exact λp hp=>by rw[okF,h p hp,ye]
theorem aBn{K:bg}(cls:Cls K C)(hx0:σ[0]?=ab (ab (.ref x)))(hn:H1 x=ai)(hρ:ER H1 σ ρ):∀(l:aa (Str×Srx))(H:Hp)(vf:aa (Str×V))(fs0 fs:aa (Str×D)),H x=ab (.ins C dx vf)->cH H1 H->nM (New H1) H vf fs0->(fs0.all λp=>inner p.2)=ae->(vf.map (·.2)).Nodup->evI ρ l=.ok fs->(vf.map (·.1)++l.map (·.1)).Nodup->(∀f∈l.map (·.1),tE K C f)->vf.length+l.length<1000->
  (∀H' vf',cH H1 H'->H' x=ab (.ins C dx vf')->nM (New H1) H' vf' (fs0++fs)->(vf'.map (·.2)).Nodup->D'.nx σ H')->aQb K l D' σ H
 |[],H,vf,fs0,fs,hx,sm,rf,ok0,nd2,he,nd,na,hl,q=>by
  cases he;exact q H vf sm hx (by rw[d6];exact rf) nd2
 | (f,.par i)::r,H,vf,fs0,fs,hx,sm,rf,ok0,nd2,he,nd,na,hl,q=>by exact bx he
 | (f,.exp g)::r,H,vf,fs0,fs,hx,sm,rf,ok0,nd2,he,nd,na,hl,q=>by
  obtain⟨d,h1,he⟩:=bI he;obtain⟨ds',h2,he⟩:=bI he;split at he
  ·rename_i hk;cases he;have hlf:f∉vf.map (·.1):=λz=>(mS.mp nd).2.2 f z f 0x2 rfl
   refine⟨ρ,d,hρ.same sm,h1,λy H2 s2 r2 n2=>?_⟩;have hx2:=s2 _ _ hx;refine⟨_,hx0,x,C,dx,vf,rfl,hx2,cls,na f 0x2,by lia,?_⟩;have sm':cH H1 (upd H2 x (.ins C dx (DW f y vf))):=λa o e=>by
    rw[bG (λz=>by subst z;rw[hn] at e;cases e)];exact s2 _ _ (sm _ _ e)
   rw[U9 hlf] at sm' ⊢;obtain⟨b,o,rfl,hb,_,_⟩:=CG (n2 rfl) hk;refine aBn cls hx0 hn hρ r _ (vf++[(f,.ref b)]) (fs0++[(f,d)]) ds' aM sm' ?_ (by rw[List.all_append,ok0];simp[hk]) ?_ h2 (by simpa[dE] using nd) (λg hg=>na g (by simp at hg ⊢;exact .inr hg)) (by simp at hl ⊢;lia) (λH' vf' a b c n=>q H' vf' a b (by simpa using c) n)
   ·have z2:nM (New H1) H2 vf fs0:=rf.keep (λa o e _=>s2 _ _ e) λ_ h=>h
    have okd:okF d=ae:=by rw[okF,hk,ye]
    exact nM.snoc (((n2 rfl).mono λa ha=>sm.free ha).okK aG9.upd hx2 (λ_ h=>h) okd) (z2.okK aG9.upd hx2 (λ_ h=>h) (aN9 ok0))
   ·rw[cr,mS];refine⟨nd2,by simp,λw hw u hu z=>?_⟩;obtain⟨a,o,rfl,ea⟩:=K7 rf ok0 w hw;simp at hu;rw[hu] at z;cases z;rw[show H _=ai from hb] at ea;cases ea
  ·exact bx he
def aBo(C:ak)(l:aa (Str×Srx))(n:af):Sp:=λvs H Q _=>∃x dx H1 us ds fs,vs=.ref x::us/\us.length=n/\H x=ab (.ins C dx [])/\H1 x=ai/\cH H1 H/\b7 All H1 us ds/\evI (.uD::ds) l=.ok fs/\∀H' vf,cH H1 H'->H' x=ab (.ins C dx vf)->nM (New H1) H' vf fs->(vf.map (·.2)).Nodup->Q .non H'
theorem aJ4{P:bS}{w:bm}{K:bg}{mg:Str->au aj}{base:aI}{x qual:Str}{st:br}{fad C:ak}{fd:eu}{N ps:aa Str}{k:af}{l:aa (Str×Srx)}(F:Fun K x qual st fad fd)(S:cC N ps (aN st))(hN:N.length=ps.length){n:af}(hp:ps.length=n+1)(cls:Cls K C)(nd:(l.map (·.1)).Nodup)(na:∀f∈l.map (·.1),tE K C f)(hl:l.length<1000)
 (hbody:∀(cdv:aj) (A:b5) (outer:aa di) (s:am) (H:Hp) (E:XK),nU k (A.deeper (gp qual (aN st) s.heap.objs.size fad cdv))->PSs (Z0 CX0 P w K mg base N qual (aN st) fad cdv A outer s H E).nox (eX st) (aQb K l)):v6 P w K mg base CX0 (k+1) fad fd ps (aBo C l n):=by
 refine F.ok S (λvs H Q E z0=>by obtain⟨_,_,_,us,_,_,e,h,_⟩:=z0;rw[e,hp,bc,h]) λcdv A outer s H vs Q E hr ⟨x,dx,H1,us,ds,fs,e,hu,hx,hn,sm,r,he,q⟩=>⟨_,hbody cdv A outer s H E hr,?_⟩
 subst e;have hst:L2.start N (V.ref x::us)=ab (.ref x)::us.map ab:=by
  unfold L2.start;rw[hN,hp,bc,hu,Cc];simp
 rw[hst];refine aBn cls rfl hn (λi hi=>?_) l H [] [] fs hx sm .nil rfl 0x2 he (by simpa using nd) na (by simpa using hl) λH' vf s' hx' rf n'=>q H' vf s' hx' (by simpa using rf) n'
 cases i with
 |zero=>exact aE rfl hi
 |succ i=>
  have e:(D.uD::ds).getD (i+1) .uD=ds.getD i .uD:=rfl;rw[e] at hi ⊢;cases hq:ds[i]? with
  |none=>rw[cu,hq] at hi;exact aE rfl hi
  |some d=>
   obtain⟨v,z1,z2⟩:=r.get hq;rw[cu,hq];exact⟨v,by simpa using z1,z2⟩
def aEp(P:bS)(w:bm)(K:bg)(mg:Str->au aj)(base:aI)(k:af)(c:Str)(l:aa (Str×Srx))(n:af):Prop:=
 ∃(C fi:ak)(fd:eu)(ps:aa Str),jn K cg c=ab (ab (.ref C))/\mg c=ab (.ref C)/\Mk K C fi/\v6 P w K mg base CX0 k fi fd ps (aBo C l n)/\Binds K fd ps []
def aS9(K:bg)(c:Str)(l:aa (Str×Srx))(n:af)(t:TA):TE:=λσ H Q=>t σ H λus H1=>∃ds fs,us.length=n/\b7 All H1 us ds/\evI (.uD::ds) l=.ok fs/\∀C x dx H' vf,jn K cg c=ab (ab (.ref C))->H1 x=ai->cH H1 H'->H' x=ab (.ins C dx vf)->nM (New H1) H' vf fs->(vf.map (·.2)).Nodup->Q (.ref x) H'
theorem aNa(R:aEp X.prog X.w X.K X.mg X.base k x l n)(hr:nU k' X.A)(hkk:k+1<=k')(hg:Gl X x)(ha:PA X (e::es) t)(hdb:nDb x:=by decide)(he:zSE X e es:=by rfl)(hpl:zSP X pos es:=by rfl)(hmono:∀(σ:L2.St) (H:Hp) (Q Q':aa V->Hp->Prop),(∀vs H',Q vs H'->Q' vs H')->t σ H Q->t σ H Q') :
  PE X (.Call (.Name x p) (e::es) [] pos) (aS9 X.K x l n t):=by
 obtain⟨C,fi,fd,ps,hn,hm,M,F,hb⟩:=R;refine PE.imp (aHi M F (hr.mono hkk) hg hm hb .nil aDj ha hdb he hpl) λσ H Q h=>hmono σ H _ _ ?_ h
 rintro us H1 ⟨ds,fs,hl,r,he,q⟩ y dx hy hdx hne;refine⟨y,dx,H1,us,ds,fs,by rw[d6],hl,aM,hy,λa o e=>?_,r,he,λH' vf s' hx' rf n'=>⟨rfl,q C y dx H' vf hn hy s' hx' rf n'⟩⟩;rw[bG (dO e hy),bG (dO e hdx)];exact e
theorem aQj(h:nM P H vf [(f1,d1),(f2,d2),(f3,d3),(f4,d4)]):∃v1 v2 v3 v4,vf=[(f1,v1),(f2,v2),(f3,v3),(f4,v4)]/\Rep P H v1 d1/\Rep P H v2 d2/\Rep P H v3 d3/\Rep P H v4 d4:=by
 cases h with|cons a h=>
 cases h with|cons b h=>
 cases h with|cons c h=>
 cases h with|cons d h=>
 cases h;exact⟨_,_,_,_,rfl,a,b,c,d⟩
theorem aJ5{rest:aa br}{c x:Str}(hK:KFrag.K=X.K)(R:aEp X.prog X.w X.K X.mg X.base k c l n)(hr:nU k' X.A)(hkk:k+1<=k')(hg:Gl X c)(ha:PA X (e::es) (gA fa ra))(ho:own i=ag)(hj:own j=ae)(hj2:own (j+1)=ae)(hlj:j+1<X.N.length)(n1:Hid X j)(n2:Hid X (j+1))(hN:X.N.Nodup)(hi:X.N[i]?=ab x)(hx:Loc X.env.scope x)(h2:PSs X rest (tS own g))(hdb:(c==("__debug__" : Str))=ag:=by decide)(he:zSE X e es:=by rfl)(hpl:zSP X cpos es:=by rfl)
 (hs:d5 (.Call (.Name c p) (e::es) [] cpos) (ab (.Name x pos')) pos.line X.env=pure ag:=by rfl)(hf:zFn X x:=by first|exact .inl rfl|exact .inr rfl|assumption) :
  PSs X (.Assign [.Name x pos'] (.Call (.Name c p) (e::es) [] cpos) pos::rest) (tS own (aN8 i j c l n fa g)):=λpins s σ H D' I z0=>by
 obtain⟨ρ,fl,E,h,q⟩:=z0;obtain⟨ds,h1,h⟩:=bI h;split at h
 ·rename_i hn;obtain⟨fs,h3,h⟩:=bI h;split at h
  ·rename_i f1 d1 f2 d2 f3 f4;split at h
   ·rename_i hex;cases h;refine mJ (BJ hN hi hx (aNa R hr hkk hg ha hdb he hpl λ_ _ _ _=>aIy) hs hf) (aGb (j:=j) h2 n1 n2) pins s σ H D' I ⟨ρ,ds,E.er,h1,λus H1 s1 r1 _=>⟨ds,_,by rw[r1.length];exact dh hn,r1,h3,λC y dx H' vf hn' hy s' hxi rf nd=>?_⟩⟩;have sH:cH H H':=s1.trans s';have rfN:nM (New H) H' vf [(f1,d1),(f2,d2),(f3,.lst []),(f4,.lst [])]:=rf.keep (λa o e _=>e) λa ha=>s1.free ha
    obtain⟨hin,_⟩:inner d1=ae/\inner d2=ae:=by
     have:∀(l:aa (Str×Srx))(fs:aa (Str×D)),evI (.uD::ds) l=.ok fs->(fs.all λp=>inner p.2)=ae:=by
      intro l;induction l with
      |nil=>intro fs h;cases h;rfl
      |cons a l ih=>
       intro fs h;obtain⟨f,s⟩:=a;cases s with
       |par i=>exact bx h
       |exp g=>
        obtain⟨d,_,h⟩:=bI h;obtain⟨ds',z2,h⟩:=bI h;split at h
        ·rename_i hk;cases h;rw[gS,ih _ z2,hk];rfl
        ·exact bx h
     have:=this l _ h3;simp only[gS,aT] at this;exact⟨this.1,this.2.1⟩
    rename_i hin2;obtain⟨v1,v2,v3,v4,rfl,r1,r2,r3,r4⟩:=aQj rfN;obtain⟨a1,o1,rfl,p1,e1,_⟩:=CG r1 hin;obtain⟨a2,o2,rfl,p2,e2,_⟩:=CG r2 hin2;obtain⟨p,vp,rfl,ep,pp,rp⟩:=r3.inv;obtain⟨t,vt,rfl,et,pt,rt⟩:=r4.inv;cases rp;cases rt;simp only[bh,iP,dj,bq,i9,or_false,gu,V.ref.injEq,not_false_eq_true,fA,and_true] at nd;obtain⟨⟨n12,n1p,n1t⟩,⟨n2p,n2t⟩,npt⟩:=nd;have hl:i<σ.length:=by rw[I.len];exact(c_.mp hi).1
    have hij:i≠j:=λz=>by subst z;rw[ho] at hj;cases hj
    have hij2:i≠j+1:=λz=>by rw[<-z,ho] at hj2;cases hj2
    let Hm:Hp:=λb=>if b=t then ai else H' b
    have hmt:Hm t=ai:=ao rfl;have hmn:∀b,b≠t->Hm b=H' b:=λb n=>aw n
    have sm:cH H Hm:=λb ob eb=>by
     rw[hmn b λz=>by subst z;rw[show H b=ai from pt] at eb;cases eb];exact sH _ _ eb
    have sm2:cH Hm H':=λb ob eb=>by
     by_cases z:b=t
     ·rw[z,hmt] at eb;cases eb
     ·rw[hmn b z] at eb;exact eb
    obtain⟨E1,k1⟩:=E.aP1 (i:=j) sm hj pp (.cel (ds:=[]) (by rw[hmn p npt];exact ep) trivial .nil) rfl (by rw[hmn p npt];exact ep) rfl;obtain⟨E2,k2⟩:=E1.aP1 (i:=j+1) sm2 hj2 hmt (.cel (ds:=[]) et trivial .nil) rfl et rfl;have nO:∀a,H a=ai->a≠p->a≠t->¬Own own ((σ.set j (ab (.ref p))).set (j+1) (ab (.ref t))) a:=λa ha np nt z0=>by
     obtain⟨m,hm,em⟩:=z0;by_cases z1:j+1=m
     ·subst z1;rw[fS (by rw[mx,I.len];exact hlj)] at em;cases em;exact nt rfl
     ·rw[de z1] at em;by_cases z2:j=m
      ·subst z2;rw[fS (by rw[I.len];lia)] at em;cases em;exact np rfl
      ·rw[de z2] at em;obtain⟨o,e,_⟩:=E.live ⟨m,hm,em⟩;rw[ha] at e;cases e
    have hn2:jn KFrag.K cg c=ab (ab (.ref C)):=by rw[hK];exact hn'
    have E3:=E2.set (i:=i) (v:=.ref y) (d:=.ins c [(f1,d1),(f2,d2),(f3,.adr p),(f4,.adr t)]) ho (.ins hn2 hxi (.cons (r1.aKv hin (nO _ p1 n1p n1t)) (.cons (r2.aKv hin2 (nO _ p2 n2p n2t)) (.cons .adr (.cons .adr .nil)))));have k3:KU own ((σ.set j (ab (.ref p))).set (j+1) (ab (.ref t))) H' (((σ.set j (ab (.ref p))).set (j+1) (ab (.ref t))).set i (ab (.ref y))) H':=λa o e n=>⟨e,by rw[lH ho];exact n⟩
    have q3:=(q.step (k1.trans (k2.trans k3)))
    have es:((σ.set j (ab (V.ref p))).set (j+1) (ab (V.ref t))).set i (ab (.ref y))=gh j p t (σ.set i (ab (.ref y))):=by
     unfold gh;rw[ux _ _ (cj hij2),ux _ _ (cj hij)]
    have er:(((ρ.set j (D.cel p [])).set (j+1) (D.cel t [])).set i (.ins c [(f1,d1),(f2,d2),(f3,.adr p),(f4,.adr t)]))=mkG i j c f1 f2 f3 f4 d1 d2 p t ρ:=by
     unfold mkG;rw[ux _ _ (cj hij2),ux _ _ (cj hij)]
    rw[es,er] at E3;rw[es] at q3;exact⟨p,t,_,_,E3,hex.choose_spec p t npt,q3⟩
   ·exact bx h
  ·exact bx h
 ·exact bx h
theorem aJ6(hc:X.calm=ae)(hg:Gl X "list")(hm:X.mg "list"=ai)(hg2:Gl X "reversed")(hm2:X.mg "reversed"=ai)(he:PE X e (gX own f))(hs:b9 [e] X.env=[(ag,bf e X.env)]:=by rfl)
 (hs2:b9 [.Call (.Name "reversed" p2) [e] [] pos2] X.env=[(ag,bf (.Call (.Name "reversed" p2) [e] [] pos2) X.env)]:=by rfl) :
  PE X (.Call (.Name "list" p) [.Call (.Name "reversed" p2) [e] [] pos2] [] pos) (gX own (xLR f)):=PE.imp (aJ3 hc hg hm hg2 hm2 he hs hs2) λσ H Q z0=>by
 obtain⟨ρ,d,ρ',E,h,q⟩:=z0;obtain⟨⟨d0,ρ1⟩,h1,h⟩:=bI h;dsimp only at h;split at h
 ·rename_i xs;split at h
  ·rename_i hp;cases h;refine⟨ρ,_,_,E,h1,λv H1 k E1 ns r=>?_⟩;obtain⟨a,vs,rfl,e,_,rr⟩:=r.inv;refine⟨a,vs,rfl,e,λb hb=>?_⟩;have sp:cH H1 (upd H1 b (.lst vs.reverse)):=cH.upd hb;exact q _ _ (k.trans (.same sp)) (E1.same sp) ns (.lst aM (aBc k E1 hb) ((rr.rev.b8 (aBh hp)).same sp))
  ·exact bx h
 ·exact bx h
theorem aJ7(ho:own i=ae)(hN:X.N[i]?=ab x)(hv:Vis X.env.scope x)(he:PE X e (gX own f))(hd:nDb x:=by decide)(hcd:nCd x:=by decide)
 (hbase:gL (.Name x p1) "extend" X.env (bf (.Name x p1) X.env)=bf (.Name x p1) X.env:=by rfl)
 (hs1:zSE X e []:=by rfl)
 (hfew:zFw X cpos [e]:=by rfl)
 (hline:(apos.endLine==cpos.line)=ae:=by rfl)
 (hs:d5 (.Call (.Attribute (.Name x p1) "extend" apos) [e] [] cpos) ai pos.line X.env=pure ag:=by rfl) :
  PS X (.Expr (.Call (.Attribute (.Name x p1) "extend" apos) [e] [] cpos) pos) (tS own (aBm i f)):=
 PS.imp (vB (W4 la xc BN JW (jD hN hv hd hcd) (fV he lM hs1) hbase hfew hline hs1 rfl) hs) λD' σ H z0=>by
 obtain⟨ρ,fl,E,h,q⟩:=z0;obtain⟨⟨d,ρ'⟩,h1,h2⟩:=bI h;dsimp only at h2;split at h2
 ·rename_i xs0 xs ys hx0 hx;split at h2
  ·rename_i hk;cases h2;rw[aT,dL] at hk;obtain⟨a,o,hσ,r,hin,ha,hm⟩:=E.ownAt ho (by rw[hx0];intro z;cases z);rw[hx0] at r;obtain⟨vs,hl,rr⟩:=CJ r;refine⟨_,hσ,.inl ⟨rfl,vs,.of hl⟩,ρ,_,ρ',E,h1,λv H' k E' ns rv=>?_⟩;obtain⟨a2,o2,hσ2,r2,hin2,ha2,hm2⟩:=E'.ownAt ho (by rw[hx];intro z;cases z);rw[hσ] at hσ2;cases hσ2;rw[hx] at r2 hin2;obtain⟨vs2,hl2,rr2⟩:=CJ r2;obtain⟨b,zs,rfl,hb,_,rz⟩:=rv.inv;refine⟨a,b,vs2,zs,rfl,rfl,hl2,hb,by rw[rr2.length,rz.length];exact c9 hk.1 (by rw[c8];decide),?_⟩;have hp:D.aW (xs++ys)=ae:=by rw[lW,aT];exact⟨hin2,hk.2⟩
   obtain⟨E2,k2⟩:=E'.mut ho hσ rfl (.lst aM trivial ((rr2.append rz.all).upd hp hl2 rfl)) hp;exact q _ _ (k.trans k2) E2
  ·exact bx h2
 ·exact bx h2
theorem aJ8{o e:Expr}(ho:own j=ae)(hob:PE X o (gE fo ro))(he:PE X e (gX own f))
 (hbase:gL o "append" X.env (bf o X.env)=bf o X.env:=by rfl)
 (hs1:zSE X e []:=by rfl)
 (hfew:zFw X cpos [e]:=by rfl)
 (hline:(apos.endLine==cpos.line)=ae:=by rfl)
 (hs:d5 (.Call (.Attribute o "append" apos) [e] [] cpos) ai pos.line X.env=pure ag:=by rfl) :
  PS X (.Expr (.Call (.Attribute o "append" apos) [e] [] cpos) pos) (tS own (aEo j fo f)):=
 PS.imp (vB (W4 la sx yd uM hob (fV he lM hs1) hbase hfew hline hs1 rfl) hs) λD' σ H z0=>by
 obtain⟨ρ,fl,E,h0,q⟩:=z0;obtain⟨d0,h1,hA⟩:=bI h0;obtain⟨⟨d,ρ'⟩,h2,h⟩:=bI hA;clear h0 hA;dsimp only at h;split at h
 ·rename_i a b0 xs0 b xs hb0 hb;split at h
  ·rename_i hk;cases h;simp only[aT,dL] at hk;obtain⟨rfl,rfl,hk1,hk2⟩:=hk;obtain⟨a2,vs,hσ,hl,rr,hin,r,hba⟩:=vL E ho (xs:=xs0) (by rw[hb0];rfl);have:=hba a hb0;subst this;refine⟨ρ,_,E.er,h1,λu H1 s1 r1 _=>?_⟩;obtain rfl:=r1.inv;refine⟨.inl ⟨rfl,vs,.of (s1 _ _ hl)⟩,ρ,d,ρ',E.same s1,h2,λv H' k E' ns rv=>?_⟩;obtain⟨a2,vs2,hσ2,hl2,rr2,hin2,r2,hba2⟩:=vL E' ho (xs:=xs) (by rw[hb];rfl);have:=hba2 a hb;subst this;have pn:D.aW (xs++[d])=ae:=by
    rw[lW];simp only[aT];exact⟨hin2,by simp[D.aW,hk2]⟩
   refine⟨a,vs2,v,rfl,rfl,hl2,by rw[rr2.length];exact T5 (bi hk1),?_⟩;obtain⟨E2,k2⟩:=E'.mut ho hσ (o:=.lst (vs2++[v])) rfl (.cel aM trivial ((rr2.snoc rv.all).upd pn hl2 rfl)) (by exact pn);exact q _ _ ((KU.same s1).trans (k.trans k2)) E2
  ·exact bx h
 ·exact bx h
end
end
open PySem.W
def aNb(h:aI)(d:ak)(es:ay nS)(ep:af):Prop:=∃o,h.get? d=ab o/\o.ExactDict/\o.data=.dict es ep
theorem aNb.ty{s:am}{d:ak}{es:ay nS}{ep:af}(x:aNb s.heap d es ep):s.TypeIs (.ref d) "dict":=let ⟨o,e,c,_⟩:=x;⟨o,e,c.1⟩
section
variable {prog:bS} {w:bm} {A:b5} {E:aj->am->Prop} {s:am} {d:ak} {es:ay nS} {ep:af}
theorem aJ9{Q:aj->am->Prop}(hd:(d==gj)=ag)(x:aNb s.heap d es ep)(hz:(es.size:ah)<2 ^ 63)(q:∀t t',Q (.int es.size t) {s with toks:=t'}):wpAny (av prog w) A (call (.builtin "len") [.ref d]) Q E s:=by
 have T:=x.ty;have m:MeetsIn prog w (dq.«dict.__len__» ⟨[.ref d],[]⟩) (λ_ R s=>aNb s.heap d es ep/\R (.ok (.ret (.int es.size s.toks))) {s with toks:=s.toks+1}):=.of_wp λA R s z0=>by
  obtain⟨⟨o,e1,e2,e3⟩,h⟩:=z0;refine al (m:=ze d) (?_:wpAny _ _ (ze d) _ _ s);unfold ze;refine al (wpAny_dictEntries e1 e3 (az (al (m:=Du d) (wpAny_pendingCount_other hd (wpAny_ret_mkInt ?_)))));simpa using h
 refine A2 kind_len plain_len entry_len (args_len1 _) (?_:wpAny _ _ (dq.«len» _) _ _ _);unfold dq.«len»;refine al (m:=oneArg "len" _) (az (al (m:=callSpecial? (.ref d) (zf "__len__")) (kN (name:=zf "__len__") T Cd (call_meetsIn Cd T F.entry_dict_len (F.args_dict_len_1 _) m ⟨x,(?_:wpAny _ _ _ _ _ {s with toks:=s.toks+1})⟩))));refine al (eh (az (al (ig (?_:wpAny _ _ (if ((es.size:af):ah)<0 then _ else _) _ _ _)))));rw[aw 0x1];refine(?_:wpAny _ _ (ite (((es.size:af):ah) >= 2 ^ 63) _ _) _ _ _);rw[aw 0x1];exact al (wpAny_mkInt (az ⟨_,rfl,q _ _⟩))
end
section
variable {prog:bS} {w:bm} {A:b5} {E:aj->am->Prop} {s:am} {r:ak}
def aQk(s:am)(F:ay aj->Prop)(q:kH)(s':am):Prop:=∃(h':aI)(tk:af)(acc:ay aj)(c:af),q=.ok (.ret (.ref s.heap.objs.size))/\s'={s with heap:=h',toks:=tk}/\(∀b o,s.heap.get? b=ab o->h'.get? b=ab o)/\h'.get? s.heap.objs.size=ab {cls:=.type "list",dict:=ai,data:=.seq acc c,slots:=#[]}/\F acc
theorem aJa{Q:aa aj->am->Prop}{F:ay aj->Prop}
 (key:wpAny (av prog w) A.in1 (oq (.ref s.heap.objs.size) (.ref r) (.ref s.heap.objs.size)) (λfin s'=>match fin with|.done f=>aQk s F (.ok f) s'|.again c'=>c'.quiet=ae/\codeAny (av prog w) A c' (aQk s F) s') (λe s'=>aQk s F (.error e) s') {s with heap:=s.heap.push {cls:=.type "list",data:=.seq ([]:aa aj).toArray}})
 (q:∀h' tk acc,(∀b o,s.heap.get? b=ab o->h'.get? b=ab o)->s.heap.objs.size<=h'.objs.size->F acc->Q acc.toList {s with heap:=h',toks:=tk}):wpAny (av prog w) A (og (.ref r)) Q E s:=by
 have last:∀{h':aI}{tk:af}{acc:ay aj}{c:af},(∀b o,s.heap.get? b=ab o->h'.get? b=ab o)->h'.get? s.heap.objs.size=ab {cls:=.type "list",dict:=ai,data:=.seq acc c,slots:=#[]}->F acc->wpAny (av prog w) A (load s.heap.objs.size >>= λo=>match o.data with|.seq xs _=>pure xs.toList|_=>unsupported "internal:collect") Q E {s with heap:=h',toks:=tk}:=λkp at_ f=>al (wpAny_load at_ (az (q _ _ _ kp (lv (bp at_)) f)))
 unfold og;refine al (wpAny_runValue (gf entry_proto_collect' (?_:wpAny _ _ (xk [] >>= λl=>again (.builtin "list.__iadd__" ⟨[l,.ref r],[]⟩)) _ _ s)));rw[gw PySem.F.plain_proto_collect];refine al (iN (az ⟨ix Ce _,gf entry_list_iadd' (?_:wpAny _ _ (oq _ _ _) _ _ _)⟩));rw[gw Ce];refine fT key (λfin s' x=>?_) λe s' ⟨_,_,_,_,z,_⟩=>nomatch z
 cases fin with
 |done f=>
  obtain⟨h',tk,acc,c,e,rfl,kp,at_,f⟩:=x;cases e;exact last kp at_ f
 |again c1=>
  refine⟨x.1,kL x.2 λp s2 y=>?_⟩;obtain⟨h',tk,acc,c,rfl,rfl,kp,at_,f⟩:=y;exact last kp at_ f
theorem aJb{Q:aa aj->am->Prop}{o:bd}{its:ay aj}{n:af}(ho:s.heap.get? r=ab o)(hc:o.cls=.type "tuple")(hd:o.data=.seq its n)(hz:its.size<=ba)
 (q:∀h' tk,(∀b o,s.heap.get? b=ab o->h'.get? b=ab o)->s.heap.objs.size<=h'.objs.size->Q its.toList {s with heap:=h',toks:=tk}):wpAny (av prog w) A (og (.ref r)) Q E s:=by
 have hS:=cx (h:=s.heap) (o:={cls:=.type "list",data:=.seq ([]:aa aj).toArray}) rfl;obtain⟨c,hc2⟩:∃c,((s.heap.push {cls:=.type "list",data:=.seq ([]:aa aj).toArray}).update s.heap.objs.size (dA (·++its))).get? s.heap.objs.size=ab {cls:=.type "list",dict:=ai,data:=.seq its c,slots:=#[]}:=by
  rw[jr (dA (·++its)) hS rfl];simp only[dA,Array.empty_append];exact⟨_,rfl⟩
 refine aJa (F:=λacc=>acc=its) (wpAny_extend_seq (hsz:=hz) (s:={s with heap:=s.heap.push {cls:=.type "list",data:=.seq ([]:aa aj).toArray}}) _ r _ 0 (.inr rfl) hS (bu _ ho) hc hd ⟨_,s.toks,its,c,rfl,rfl,λb o' hb=>?_,hc2,rfl⟩) λh' tk acc kp sz e=>by rw[e];exact q h' tk kp sz
 exact(ji _ _ (hI (bp hb))).trans ((bu _ hb))
end
section
variable [KFrag]
section
variable {X:Cx}
theorem aNc{H:Hp}{s:am}{pins:aa (ak×bd)}{σ:L2.St}{a:ak}{kvs:aa (aa Key×V)}(I:Inv X pins σ H s)(e:H a=ab (.dT kvs)):∃(es:ay nS)(ep:af)(xs:aa (aa Key×ak×aj)),aNb s.heap a es ep/\(a==gj)=ag/\kvs.length<=ba/\KT H kvs xs/\es.toList=xs.map (entryOfKey (lr (cM X.prog X.w))):=by
 obtain⟨z,hd,xs,rel,o,es,ep,h1,h2,h3,h4,_⟩:=aDg I.hok e;exact⟨es,ep,xs,⟨o,h1,h2,h3⟩,hd,z,rel,h4⟩
def aKy:aa D->Res D
 |[.dct kvs]=>if kvs.all (λp=>isTup p.1) then .ok (.int kvs.length) else .bad
 |ds=>dG ds
theorem aJc(hK:KFrag.K=X.K):lL X (.builtin "len") (rs aKy ae):=by
 rintro pins s σ H xs us Q I vr ⟨ds,d,r,e,k⟩;unfold aKy at e;split at e
 ·rename_i kvs;split at e
  ·rename_i hl;cases e;obtain⟨vv,uu,rfl,rfl,r,v⟩:=kZ r vr;cases r with
   |dK e _ rk _=>
    cases rk with
    |cons r t=>rw[gS,mV] at hl;cases hl
    |nil=>
     cases v;obtain⟨_,lo,vs,rel,dd⟩:=JZ I.hok e;have h0:vs.length=0:=by rw[<-rel.length];rfl
     refine Bs lo dd 0x1 ?_;rw[h0];exact⟨.int 0,H,I.tok _,⟨_,rfl⟩,k.int⟩
   |dT e _ rt _=>
    cases v;obtain⟨es,ep,zs,raw,lo,hz,rel,he⟩:=aNc I e;have hl2:es.size=kvs.length:=by rw[<-lz,he,ax,<-ja rel,rt.length]
    refine aJ9 lo raw (by have:=rt.length;rw[c8] at hz;lia) λt t'=>?_
    rw[hl2];exact⟨.int _,H,I.tok _,⟨_,rfl⟩,k.int⟩
  ·cases e
 ·exact cN hK pins s σ H xs us Q I vr ⟨_,d,r,e,k⟩
end
end
def uA:aa D->Res D
 |[.tup xs]=>if cJ xs then .ok (.lst (x_ xs)) else .bad
 |ds=>lG ds
variable [KFrag]
theorem XS{X:Cx}(hu:X.A.units+20<b6):lL X (.builtin "sorted") (rs uA ae):=by
 rintro pins s σ H xs us Q I vr ⟨ds,d,r,e,k⟩;unfold uA at e;split at e
 ·rename_i ys;split at e
  ·rename_i hl;cases e;obtain⟨vv,uu,rfl,rfl,r,v⟩:=kZ r vr;cases r with
   |tup e rr=>
    cases v;obtain⟨its,vr,o,ho,hc',n,hd⟩:=g8 I e;have hz:=I.hok _ _ e;refine yI I hu vr (by rw[<-vr.length];exact hz.1) rr hl (λQ' E' h=>aJb ho hc' hd (by rw[bX,<-vr.length];exact hz.1) λh1 tk kp sz=>by simpa using h h1 tk kp sz) λp xs' hp r'=>?_
    have sp:cH H (upd H p (.lst xs')):=cH.upd hp;exact k _ _ sp (.lst aM trivial (r'.same sp)) λ_=>.lst aM hp ((r'.b8 (yK hl)).same sp)
  ·exact bx e
 ·exact yL hu pins s σ H xs us Q I vr ⟨_,d,r,e,k⟩
end Mi
namespace Ws
open PySem PySem.Spec
theorem shift{prog:bS}{w:bm}{A:b5}{it:ak}{fp:aa ak}{n:af}{P:af->aj->Prop}{St:af->aI->Prop}(D:ur prog w A it fp n P St)(m:af):ur prog w A it fp (m+n) (λj v=>P (j-m) v) (λj h=>∃i,j=m+i/\St i h) where
 live:=λj h z=>by obtain⟨i,_,st⟩:=z;exact D.live i h st
 frame:=λj h h' z k=>by obtain⟨i,e,st⟩:=z;exact⟨i,e,D.frame i h h' st k⟩
 item:=λj s Q E hj z hQ=>by
  obtain⟨i,e,st⟩:=z;exact D.item i s Q E 0x1 st λx h' tk px st' sb=>hQ x h' tk (by rw[e,uy];exact px) ⟨i+1,by lia,st'⟩ sb
 done:=λs Q E z hE=>by
  obtain⟨i,e,st⟩:=z;obtain rfl:n=i:=by lia
  exact D.done s Q E st hE
end Ws
namespace Mi
open PySem L2 PySem.SeqAt PySem.Spec PyProof.Rows
def aR8(m:af)(a:ak):It:=
 ⟨λi H=>∃xs x,H a=ab (.tup xs)/\xs[i]?=ab x,λi H v H'=>∃t x,(∀xs,H a=ab (.tup xs)->xs[i]?=ab x)/\v=.ref t/\H t=ai/\H'=upd H t (.tup [.int ((m+i:af):ah),x]),λi H=>∃xs,H a=ab (.tup xs)/\xs.length<=i⟩
noncomputable def G_(m:af):aa D->aa D
 |[]=>[]
 |x::xs=>.tup [.int ((m:af):ah),x]::G_ (m+1) xs
def U_(m:af)(a:FE):FI:=λρ=>do let x <- a ρ;match x with|.tup xs=>(if D.aW xs then .ok (G_ m xs,ae) else .bad)|_=>.bad
theorem VB:∀(xs:aa D)(m i:af),(G_ m xs)[i]?=xs[i]?.map λx=>.tup [.int ((m+i:af):ah),x]
 |[],_,_=>rfl
 |_::_,_,0=>rfl
 |_::xs,m,i+1=>by
  show(G_ (m+1) xs)[i]?=xs[i]?.map _;rw[VB xs (m+1) i,show m+1+i=m+(i+1) by lia]
theorem K8:∀(xs:aa D)(m:af),(G_ m xs).length=xs.length
 |[],_=>rfl
 |_::xs,m=>cz (·+1) (K8 xs (m+1))
section
variable [KFrag]
theorem ItQ.enS{K:bg}(m:af)(a:ak)(ds:aa D)(e:J=aR8 m a)(r:Rep P H (.ref a) (.tup ds))(h:items=G_ m ds):ItQ K P J H items:=by
 refine⟨λP H kk mm=>?_⟩;have r:=r.aAe kk mm;subst e h;obtain⟨a',xs,e,hq,rr⟩:=r.fG;cases e;refine⟨λi hi=>⟨xs,hq,by rw[rr.length,<-K8 ds m];exact hi⟩,λi d hi=>?_⟩;rw[VB] at hi;obtain⟨y,hd,rfl⟩:=jk.mp hi;obtain⟨v,h1,h2⟩:=rr.get hd;refine⟨⟨xs,v,hq,h1⟩,λx H' z=>?_⟩;obtain⟨t,u,hy,e1,e2,e3⟩:=z;subst e1 e3;have:=hy xs hq;rw[h1] at this;cases this;have sp:cH H (upd H t (.tup [.int ((m+i:af):ah),v])):=cH.upd e2;exact⟨sp,.tup aM (.cons (.int _) (.cons (h2.same sp) .nil))⟩
theorem XX{K:bg}{elts:aa Expr}{x1}{tp:cn}(m:af)(a e it:ak)(hne:e≠it):Turn P w K (.Tuple elts x1 tp) (aR8 m a) [e,it] e (λi h=>(∃old,uo h e it ((m+i:af):ah) old)/\h.get? it=ab (Wz.itO a i)) where
 mem:=bn ..
 obj:=λi h z0 b hb=>by
  obtain⟨⟨old,h1⟩,h2⟩:=z0;simp only[bq,i9,or_false] at hb;rcases hb with rfl|rfl
  ·exact⟨_,h1,λv z=>nomatch(show nu _=nv v from z)⟩
  ·exact⟨_,h2,λv z=>nomatch(show nu _=nv v from z)⟩
 keep:=λi h h' ⟨⟨old,h1⟩,h2⟩ k=>⟨⟨old,k e (bn ..) _ h1⟩,k it 0x2 _ h2⟩
 item:=by
  rintro Y hP hw hK hc i pins s σ H E I hf ⟨⟨old,h1⟩,h2⟩ ⟨xs,x,hq,hx⟩;subst hP hw hK;obtain⟨its,rv,p,hz⟩:=I.tuple (.of hq);obtain⟨n,dd,sl,e3⟩:=CQ p;obtain⟨u,hu,ru⟩:=rv.get hx;have hlt:e<s.heap.objs.size:=bp h1;have nai:a≠it:=G9 e3 rfl h2 rfl 0x4;have nea:e≠a:=G9 h1 rfl e3 rfl 0x4;have hil:i<its.toArray.size:=by
   have:=(c_.mp hu).1;simpa using this
  refine BY (Ws.shift (Wn.drT (show Y.A.in1.handled=ai from I.ok.hd hc) it a nai its.toArray n dd sl) m) h1 ⟨i,rfl,h2,e3⟩ 0x1 hne (by simp[hne,nea]) λv h' tk o0 o1 o2 o3 o4 o5=>?_
  rw[uy] at o0;obtain⟨i',ei,st1,st2⟩:=o2;obtain rfl:i'=i+1:=by lia
  obtain rfl:u=v:=by
   have:its[i]?=ab v:=by simpa using o0
   rw[hu] at this;exact c6 this
  refine⟨_,rfl,B0 o1 λh'' g1 g2=>?_⟩;have sb:gl e h' h'':=g2;have kk:∀b o,b∉[e,it]->s.heap.get? b=ab o->h''.get? b=ab o:=λb o hb eb=>by
   simp only[bq,i9,or_false,gu] at hb;exact(sb.2 b hb.1).trans (o5 b o hb.1 hb.2 eb)
  have t3:h''.get? s.heap.objs.size=ab {cls:=.type "tuple",data:=.seq #[.int ((m+i:af):ah) tk,u]}:=(sb.2 _ (hI hlt)).trans o3;refine⟨.ref s.heap.objs.size,upd H s.heap.objs.size (.tup [.int ((m+i:af):ah),x]),yR (s:=s) I kk (λb hb=>hf b hb) (aS _) ?_,rfl,⟨_,x,λys hy=>by rw[hq] at hy;cases hy;exact hx,rfl,I.hok.fresh (aS _),rfl⟩,⟨⟨u,by rw[show((m+(i+1):af):ah)=((m+i:af):ah)+1 by lia];exact g1⟩,(sb.2 it (cj hne)).trans st1⟩,λb hb=>?_⟩
  ·exact⟨by show 2<=ba;rw[c8];decide,[.int ((m+i:af):ah) tk,u],.cons ⟨_,rfl⟩ (.cons ru .nil),⟨_,t3,rfl,0,rfl⟩⟩
  ·rw[bG]
   ·exact(hf b hb).1
   ·intro z;simp only[bq,i9,or_false] at hb;rcases hb with h|h
    ·rw[<-h,z] at hlt;exact fg _ hlt
    ·have:=bp h2;rw[<-h,z] at this;exact fg _ this
 done:=by
  rintro Y hP hw hK hc i pins s σ H E I hf ⟨⟨old,h1⟩,h2⟩ ⟨xs,hq,hx⟩;subst hP hw hK;obtain⟨its,rv,p,hz⟩:=I.tuple (.of hq);obtain⟨n,dd,sl,e3⟩:=CQ p;obtain⟨f0,f1,f2,f3,f4,f5⟩:=hf it 0x2;have hl:=rv.length;exact B1 (Wn.ovT (show Y.A.in1.handled=ai from I.ok.hd hc) it a its.toArray n dd sl i (by simp;lia)) h1 ⟨h2,e3⟩ λh' eb=>⟨rfl,I.turned (λb o hb e=>eb b o hb e) f0 f1 f3 f4 f5⟩
 self:=λ_ _ _ _ _ ⟨⟨old,h1⟩,_⟩ h=>ut h1 h
section
theorem aEq{x1}{e:Expr}{fe:FE}{re:aq}{m:af}(hf:zd (m:ah)=ae)(hg:Gl X "enumerate")(hm:X.mg "enumerate"=ai)(he:PE X e (gE fe re))(hs:b9 [e] X.env=[(ag,bf e X.env)]:=by rfl) :
  PI X (.Tuple elts x1 tp) (.Call (.Name "enumerate" p2) [e] [⟨ab "start",.Constant (.int (m:ah)) j cp,kp⟩] pos2) (gI X.K (U_ m fe)):=by
 rintro pins s σ H R I ⟨ρ,items,k,E,h,q⟩;obtain⟨d,h1,h⟩:=bI h;cases d<;>try (cases h;done)
 rename_i its;dsimp only at h;split at h
 ·rename_i hp;cases h;refine hZ (kO I hg hm B2 (aN7 (by rw[hs];rfl) rfl ?_));have hA:=fV (X:=X) he lM hs pos2 pins s σ H (λvs H1=>∃v,vs=[v]/\cH H H1/\Rep All H1 v (.tup its)) I ⟨ρ,_,E,h1,λv H1 s1 r1 _=>⟨_,rfl,s1,r1⟩⟩;rw[hs] at hA ⊢;refine evalArgs_kwB rfl (thn hA λus s1 z=>?_);obtain⟨vs,H1,I1,r1,q1⟩:=z;refine kws_cons (zx (kws_nil ?_));obtain⟨v,rfl,sm,rx⟩:=q1;cases r1 with
  |cons rv rr=>
   cases rr;have rx0:=rx;obtain⟨t,xs,rfl,ex,rr⟩:=rx.fG;cases rv;obtain⟨vs,rvs,pl,hz⟩:=I1.tuple (.of ex);obtain⟨n,dd,sl,e3⟩:=CQ pl;refine Lw.aJ1 (s:={s1 with toks:=s1.toks+1}) hf e3 λh' en it tk e1 e2 e3 e4 e5=>?_
   subst e2;subst e1;refine ut e3 ?_;refine⟨_,[s1.heap.objs.size+1,s1.heap.objs.size],_,_,H1,rfl,I1.kept λb o e=>e5 b o e,XX m t (s1.heap.objs.size+1) s1.heap.objs.size (B3 _),⟨⟨_,e3⟩,e4⟩,λb hb=>?_,q _ H1 sm (.enS m t its rfl rx0 rfl) λhk=>.enS m t its rfl (rx0.b8 hp) rfl⟩;simp only[bq,i9,or_false] at hb;rcases hb with rfl|rfl
   ·exact I1.aD7 (gn _) (I1.hok.fresh (gn _))
   ·exact I1.aD7 (aS _) (I1.hok.fresh (aS _))
 ·cases h
end
end
noncomputable def aGd:aa Str->aa ak->aa (D×D)
 |x::xs,a::as=>(.str x,.adr a)::aGd xs as
 |_,_=>[]
noncomputable def kvA:aa Str->aa ak->aa (Key×V)
 |x::xs,a::as=>(.inr x,.ref a)::kvA xs as
 |_,_=>[]
noncomputable def pvA:aa Str->aa ak->aa (Key×aj)
 |x::xs,a::as=>(.inr x,.ref a)::pvA xs as
 |_,_=>[]
noncomputable def setC(j:af):aa ak->aa D->aa D
 |[],ρ=>ρ
 |a::as,ρ=>setC (j+1) as (ρ.set j (.cel a []))
noncomputable def setG(j:af):aa ak->L2.St->L2.St
 |[],σ=>σ
 |a::as,σ=>setG (j+1) as (σ.set j (ab (.ref a)))
open Classical in
def aNd(i j n:af)(it:FI)(g:FS):FS:=λρ=>do
 let p <- it ρ
 match yQ p.1 with
 |some xs=>(if decide (xs.length<=n)&&decide (xs.length<=1000) then (if h:∃d,∀as:aa ak,as.length=xs.length->as.Nodup->g (setC j as (ρ.set i (.dct (iY [] (aGd xs as)))))=.ok (.rt d) then .ok (.rt h.choose) else .bad) else .bad)
 |none=>.bad
noncomputable def isAt(o c:D):aq:=match o,c with
 |.adr a,.cel b _=>decide (a=b)
 |_,_=>ag
def X3(j n:af)(o:D)(ρ:aa D):af:=j+(bw n).findIdx λm=>isAt o (ρ.getD (j+m) .uD)
def aBp(j n:af)(fo fe:FE):FS:=λρ=>do
 let o <- fo ρ
 if decide (X3 j n o ρ<j+n) then uU (X3 j n o ρ) fo fe ρ else .bad
def aD0(ρ:aa D)(j n:af):aa (D×D)->au (aa (D×D))
 |[]=>ab []
 | (k,.adr a)::r=>match ρ.getD (X3 j n (.adr a) ρ) .uD with
  |.cel b xs=>if decide (a=b)&&decide (X3 j n (.adr a) ρ<j+n) then (aD0 ρ j n r).map ((k,.scr xs)::·) else ai
  |_=>ai
 |_=>ai
noncomputable def aP2(j:af):af->aa D->aa D
 |0,ρ=>ρ
 |n+1,ρ=>aP2 j n (ρ.set (j+n) .uD)
noncomputable def aD1(j:af):af->L2.St->L2.St
 |0,σ=>σ
 |n+1,σ=>aD1 j n (σ.set (j+n) ai)
noncomputable def isC:D->aq
 |.cel _ _=>ae
 |.uD=>ae
 |_=>ag
def aBq(i j n:af)(g:FS):FS:=λρ=>match ρ.getD i .uD with
 |.dct kvs=>match aD0 ρ j n kvs with
  |some kvs'=>if (bw n).all (λm=>isC (ρ.getD (j+m) .uD)) then g ((aP2 j n ρ).set i (.dct kvs')) else .bad
  |none=>.bad
 |_=>.bad
variable [KFrag]
section
def PrL(H:Hp):aa V->aa Str->aa ak->Prop
 |[],[],[]=>gx
 |v::vs,x::xs,a::as=>(∃t,v=.ref t/\H t=ab (.tup [.str x,.ref a]))/\PrL H vs xs as
 |_,_,_=>cw
theorem PrL.snoc{H:Hp}:∀{vs:aa V}{xs:aa Str}{as:aa ak},PrL H vs xs as->H t=ab (.tup [.str x,.ref a])->PrL H (vs++[.ref t]) (xs++[x]) (as++[a])
 |[],[],[],_,e=>⟨⟨_,rfl,e⟩,trivial⟩
 |_::_,_::_,_::_,⟨h,r⟩,e=>⟨h,r.snoc e⟩
theorem PrL.keep{H H':Hp}(k:∀t ws,H t=ab (.tup ws)->H' t=ab (.tup ws)):∀{vs:aa V}{xs:aa Str}{as:aa ak},PrL H vs xs as->PrL H' vs xs as
 |[],[],[],_=>trivial
 |_::_,_::_,_::_,⟨⟨t,e1,e2⟩,r⟩=>⟨⟨t,e1,k _ _ e2⟩,PrL.keep k r⟩
theorem PrL.len{H:Hp}:∀{vs:aa V}{xs:aa Str}{as:aa ak},PrL H vs xs as->vs.length=xs.length/\as.length=xs.length
 |[],[],[],_=>⟨rfl,rfl⟩
 |_::_,_::_,_::_,⟨_,r⟩=>by
  obtain⟨h1,h2⟩:=r.len;exact⟨cz (·+1) h1,cz (·+1) h2⟩
noncomputable def aQl(it:FI):TE:=λσ H Q=>∃ρ xs kk,ER H σ ρ/\it ρ=.ok (xs.map D.str,kk)/\xs.length<=1000/\
 ∀H' p vs as,cH H H'->H p=ai->H' p=ab (.lst vs)->PrL H' vs xs as->as.Nodup->(∀a∈as,H a=ai/\a≠p/\H' a=ab (.lst []))->Q (.ref p) H'
theorem aNe{ownN:aa Str}(S:cZ X.N X.env.scope scope ownN)(hn:X.N.length=n)(hm:ownN.length=1)(hcalm:X.calm=ae)(hi:PI X tg iter (gI X.K it))(ht:TgC g iV n 1)(hg:∀X',eG X X' scope ownN->PG X' tg g)(he:∀X',eG X X' scope ownN->PE X' e1 (gE (h_ n) ag))
 (hs:∀x,fj iter X.env x=pure x)(hs1:∀X',eG X X' scope ownN->b9 [e1,.List [] lp] X'.env=(ag,bf e1 X'.env)::b9 [.List [] lp] X'.env)(hs2:∀X',eG X X' scope ownN->b9 [.List [] lp] X'.env=(ag,bf (.List [] lp) X'.env)::b9 [] X'.env):PE X (.ListComp (.Tuple [e1,.List [] lp] x1 tp) [⟨tg,iter,[],0⟩] scope pos) (aQl it):=by
 intro pins s σ H Q I h;refine TV S hcalm hi hg (λX' c=>ZW (fV (he X' c) (fV (ZX lM) lM (hs2 X' c)) (hs1 X' c))) hs pins s σ H Q I ?_;rw[hm];obtain⟨ρ,xs,kk,E,h1,hl,q⟩:=h;refine⟨ρ,xs.map .str,kk,E,h1,λJ H1 s1 hJ _ p hp=>?_⟩;have hp0:H p=ai:=s1.free hp;refine⟨λi n' vs H'=>n'=xs.length-i/\i<=xs.length/\H' p=ab (.lst vs)/\cH H1 H'/\∃as:aa ak,PrL H' vs (xs.take i) as/\as.Nodup/\∀a∈as,H a=ai/\a≠p/\H' a=ab (.lst []),⟨xs.length,?_⟩,?_⟩
 ·exact⟨rfl,cy _,aM,cH.upd hp,[],trivial,fA,λ_ h=>by cases h⟩
 ·rintro i n' vs H' ⟨rfl,hi,hH,sm,as,pr,nd,ha⟩;refine⟨hH,?_⟩;have hJ':ItQ X.K All J H' (xs.map .str):=hJ.keep (.same sm) λ_ z=>z
  rcases kf i xs.length with hlt|hge
  ·refine .inr ?_;have e:(xs.map D.str)[i]?=ab (.str xs[i]):=by simp[hlt]
   obtain⟨g1,g2⟩:=hJ'.go e;refine⟨g1,?_,λx H2 hy=>?_⟩
   ·rw[pr.len.1,nB,c8];lia
   ·obtain⟨sH,rx⟩:=g2 x H2 hy;refine ht x _ [.str xs[i]] σ H2 _ (I.len.trans hn) rx rfl λσ2 hx hbs=>⟨hx,?_⟩
    have E2:ER H2 σ2 (FJ n ρ++[.str xs[i]]):=(E.same (s1.trans (sm.trans sH))).ext (I.len.trans hn) hx hbs;have hpl:(FJ n ρ).length=n:=by unfold FJ;simp
    show(if ae=ae then _ else _);rw[ao rfl];refine⟨_,.str xs[i],E2,?_,λv H3 s3 r3 _=>?_⟩
    ·show h_ n (FJ n ρ++[.str xs[i]])=_;unfold h_;rw[cu,fz 0x1,hpl,Cc];rfl
    obtain rfl:=r3.inv;refine⟨cy _,λa hfa=>⟨by rw[c8];show 2<=_;decide,λt hft=>?_⟩⟩;have hp3:H3 p=ab (.lst vs):=s3 _ _ (sH _ _ hH);have hap:a≠p:=λz=>by rw[z,hp3] at hfa;cases hfa
    have hta:t≠a:=λz=>by rw[z,aM] at hft;cases hft
    have ht3:H3 t=ai:=by rw[bG hta] at hft;exact hft
    have htp:t≠p:=λz=>by rw[z,hp3] at ht3;cases ht3
    have s13:cH H1 H3:=sm.trans (sH.trans s3);have up:∀b,b≠p->b≠a->b≠t->upd (upd (upd H3 a (.lst [])) t (.tup [.str xs[i],.ref a])) p (.lst (vs++[.ref t])) b=H3 b:=λb n1 n2 n3=>by rw[bG n1,bG n3,bG n2]
    refine⟨by rw[bG (cj htp),bG (cj hap)];exact hp3,xs.length-(i+1),by lia,rfl,hlt,aM,λb o e=>?_,as++[a],?_,?_,λb hb=>?_⟩
    ·have e3:=s13 _ _ e;rw[up b (λz=>by rw[z,hp] at e;cases e) (λz=>by rw[z,hfa] at e3;cases e3) (λz=>by rw[z,ht3] at e3;cases e3)];exact e3
    ·rw[List.take_add_one,ef hlt];refine PrL.snoc (PrL.keep (λt' ws e=>?_) pr) (by rw[bG htp,aM]);have e3:=s3 _ _ (sH _ _ e);rw[up t' (λz=>by rw[z,hH] at e;cases e) (λz=>by rw[z,hfa] at e3;cases e3) (λz=>by rw[z,ht3] at e3;cases e3)];exact e3
    ·rw[mS];refine⟨nd,by simp,λb hb c hc z=>?_⟩;simp at hc;subst hc;subst z;have:=s3 _ _ (sH _ _ (ha _ hb).2.2);rw[hfa] at this;cases this
    ·rcases eS.mp hb with hb|hb
     ·obtain⟨z1,z2,z3⟩:=ha b hb;have e3:=s3 _ _ (sH _ _ z3);refine⟨z1,z2,?_⟩;rw[up b z2 (λz=>by rw[z,hfa] at e3;cases e3) (λz=>by rw[z,ht3] at e3;cases e3)];exact e3
     ·simp at hb;subst hb;exact⟨(s1.trans s13).free hfa,hap,by rw[bG hap,bG (cj hta),aM]⟩
  ·refine .inl ⟨hJ'.stop (by simpa using hge),?_⟩;rw[Cf hge] at pr;exact q _ _ _ _ (s1.trans sm) hp0 hH pr nd ha
theorem aGe(I:Inv X pins σ H s):∀{vs:aa V}{xs:aa Str}{as:aa ak}{us:aa aj},PrL H vs xs as->Vals vs us->KV (kvA xs as) (pvA xs as)/\us.length=(pvA xs as).length/\∀(i:af)(kv:Key×aj),(pvA xs as)[i]?=ab kv->∃(p:ak)(x:aj)(o:bd)(n:af),us[i]?=ab (eJ p)/\s.heap.get? p=ab o/\o.cls=.type "tuple"/\o.data=.seq #[x,kv.2] n/\(cM X.prog X.w).is kv.1 x=ae
 |[],[],[],_,_,.nil=>⟨.nil,rfl,λi kv h=>by simp[pvA] at h⟩
 |_::_,x::xs,a::as,_,⟨⟨t,e1,e2⟩,r⟩,.cons rv tv=>by
  obtain⟨g1,g2,g3⟩:=aGe I r tv;subst e1;cases rv;obtain⟨its,rvs,o,ho,hc,n,hd⟩:=g8 I e2;cases rvs with
  |cons q1 rvs=>
   cases rvs with
   |cons q2 rvs=>
    cases rvs;cases q2;refine⟨.cons ⟨rfl,rfl⟩ g1,cz (·+1) g2,λi kv hi=>?_⟩;cases i with
    |zero=>
     cases hi;exact⟨t,_,o,n,rfl,ho,hc,hd,xX (k:=.inr x) q1⟩
    |succ i=>
     obtain⟨p,x,o',n',z1,z2⟩:=g3 i kv hi;exact⟨p,x,o',n',z1,z2⟩
def tPd(it:FI):TE:=λσ H Q=>∃ρ xs kk,ER H σ ρ/\it ρ=.ok (xs.map D.str,kk)/\xs.length<=1000/\
 ∀H' b as,cH H H'->H b=ai->H' b=ab (.dK (cY [] (kvA xs as)))->as.length=xs.length->as.Nodup->(∀a∈as,H a=ai/\a≠b/\H' a=ab (.lst []))->Q (.ref b) H'
theorem aBr:∀{xs:aa Str}{as:aa ak},as.length=xs.length->(pvA xs as).length=xs.length/\(kvA xs as).length=xs.length
 |[],[],_=>⟨rfl,rfl⟩
 |_::_,_::_,h=>by
  obtain⟨h1,h2⟩:=aBr (lf h);exact⟨cz (·+1) h1,cz (·+1) h2⟩
theorem aQm(hc:X.calm=ae)(hg:Gl X "dict")(hm:X.mg "dict"=ai)(he:PE X e (aQl it))(hs:b9 [e] X.env=[(ag,bf e X.env)]:=by rfl) :
  PE X (.Call (.Name "dict" p) [e] [] pos) (tPd it):=by
 rintro pins s σ H Q I ⟨ρ,xs,kk,E,h1,hl,q⟩;refine hZ (kO I hg hm xJ ?_);refine ik ?_ hs rfl;rw[hs];show wpAny _ _ (jx [(ag,bf e X.env)]) _ _ s;refine kG (thn (he pins s σ H (λv H1=>∃l vs as,v=.ref l/\cH H H1/\H l=ai/\H1 l=ab (.lst vs)/\PrL H1 vs xs as/\as.Nodup/\∀a∈as,H a=ai/\a≠l/\H1 a=ab (.lst [])) I ⟨ρ,xs,kk,E,h1,hl,λH1 l vs as z1 z2 z3 z4 z5 z6=>⟨l,vs,as,rfl,z1,z2,z3,z4,z5,z6⟩⟩) λu s1 ⟨x,H1,I1,ru,l,vs,as,ex,sm,hl0,ea,pr,nd,ha⟩=>?_);subst ex;cases ru;refine kF ?_;obtain⟨hz,its,nl,rv,hlst⟩:vs.length<=ba/\∃(its:aa aj)(n:af),Vals vs its/\s1.heap.get? l=ab {cls:=.type "list",data:=.seq its.toArray n}:=I1.hok l _ ea;obtain⟨g1,g4,g5⟩:=aGe I1 pr rv;obtain⟨l1,l2⟩:=pr.len;obtain⟨l3,l4⟩:=aBr l2;obtain⟨hp,g,dr,tk,os⟩:=s1;refine Wl.dict_list (knd:=cM X.prog X.w) (ps:=pvA xs as) (items:=its.toArray) (I1.ok.hd hc) hlst ⟨by rw[bX];exact g4,λi kv hi=>?_⟩ (by rw[bX];lia) λh' tk' hd kp=>?_
 ·obtain⟨p,x,o,n,z1,z2⟩:=g5 i kv hi;exact⟨p,x,o,n,by simpa using z1,z2⟩
 ·have hfr:H1 hp.objs.size=ai:=I1.hok.fresh (aS _);have rel:KV (cY [] (kvA xs as)) (iu [] (pvA xs as)):=g1.merge .nil;have hz2:(cY [] (kvA xs as)).length<=ba:=by
   have:=fM (kvA xs as) [];rw[eL] at this;rw[c8];lia
  have sp:cH H1 (upd H1 hp.objs.size (.dK (cY [] (kvA xs as)))):=cH.upd hfr;refine⟨.ref hp.objs.size,_,I1.laid (a:=hp.objs.size) (t':=tk') (o:=.dK (cY [] (kvA xs as))) kp (aS _) (BW hz2 (fF.mpr ?_) rel hd),rfl,?_⟩
  ·exact cj (ck I1.big)
  ·refine q _ _ as (sm.trans sp) (sm.free hfr) aM l2 nd λa hm=>?_
   obtain⟨z1,z2,z3⟩:=ha a hm;exact⟨z1,(λz=>by rw[z,hfr] at z3;cases z3),sp _ _ z3⟩
theorem aGf{P:ak->Prop}{H:Hp}:∀(xs:aa Str)(as:aa ak),iJ P H (kvA xs as) (aGd xs as)
 |[],_=>.nil
 |_::_,[]=>.nil
 |x::xs,a::as=>.cons (k:=.inr x) .adr (aGf xs as)
theorem aBs:∀(as:aa ak)(j:af)(H:Hp)(σ:L2.St)(ρ:aa D)(H':Hp),ES own H σ ρ->cH H H'->(∀m,m<as.length->own (j+m)=ae)->as.Nodup->(∀a∈as,H a=ai/\H' a=ab (.lst []))->ES own H' (setG j as σ) (setC j as ρ)/\KU own σ H (setG j as σ) H'
 |[],j,H,σ,ρ,H',E,sm,_,_,_=>⟨E.same sm,KU.same sm⟩
 |a::as,j,H,σ,ρ,H',E,sm,ho,nd,ha=>by
  obtain⟨h1,h2⟩:=ha a (bn ..);rw[dj] at nd
  let Hm:Hp:=λb=>if b∈as then ai else H' b
  have hmi:∀b,b∈as->Hm b=ai:=λb h=>ao h
  have hmn:∀b,b∉as->Hm b=H' b:=λb h=>aw h
  have s1:cH H Hm:=λb o e=>by
   rw[hmn b λz=>by rw[(ha b (bz _ z)).1] at e;cases e];exact sm _ _ e
  have s2:cH Hm H':=λb o e=>by
   by_cases z:b∈as
   ·rw[hmi b z] at e;cases e
   ·rw[hmn b z] at e;exact e
  have ea:Hm a=ab (.lst []):=by rw[hmn a nd.1];exact h2
  obtain⟨E1,k1⟩:=E.aP1 (i:=j) s1 (ho 0 (Cg _)) h1 (.cel (ds:=[]) ea trivial .nil) rfl ea rfl;obtain⟨E2,k2⟩:=aBs as (j+1) Hm _ _ H' E1 s2 (λm hm=>by rw[zg,Ch 1 m];exact ho (m+1) (Ci hm)) nd.2 λb hb=>⟨hmi b hb,(ha b (bz _ hb)).2⟩
  exact⟨E2,k1.trans k2⟩
theorem aGg{X:Cx}{pins:aa (ak×bd)}{H:Hp}{s:am}:∀(as:aa ak)(j:af)(σ:L2.St),Inv X pins σ H s->(∀m,m<as.length->Hid X (j+m))->Inv X pins (setG j as σ) H s
 |[],_,_,I,_=>I
 |a::as,j,σ,I,h=>aGg as (j+1) _ (aBk I (h 0 (Cg _))) λm hm=>by rw[zg,Ch 1 m];exact h (m+1) (Ci hm)
theorem K9:∀{ds:aa D}{xs:aa Str},yQ ds=ab xs->ds=xs.map D.str
 |[],_,h=>by cases h;rfl
 |d::ds,xs,h=>by
  cases d with
  |str x=>
   obtain⟨ys,h1,rfl⟩:=jk.mp (show(yQ ds).map (x::·)=ab xs from h);rw[K9 h1];rfl
  |_=>cases h
theorem aJd{rest:aa br}{x:Str}(ho:own i=ag)(hj:∀m,m<n->own (j+m)=ae)(hid:∀m,m<n->Hid X (j+m))(hN:X.N.Nodup)(hi:X.N[i]?=ab x)(hx:Loc X.env.scope x)(he:PE X e (tPd it))(h2:PSs X rest (tS own g))
 (hs:zSw X e x pos' pos:=by rfl)(hf:zFn X x:=by first|exact .inl rfl|exact .inr rfl|assumption) :
  PSs X (.Assign [.Name x pos'] e pos::rest) (tS own (aNd i j n it g)):=λpins s σ H D' I z=>by
 obtain⟨ρ,fl,E,h,q⟩:=z;obtain⟨⟨ds,kk⟩,h1,h⟩:=bI h;dsimp only at h;cases hx':yQ ds with
 |none=>rw[hx'] at h;exact bx h
 |some xs=>
  rw[hx'] at h;dsimp only at h;split at h
  ·rename_i hl;rw[aT] at hl;have hl1:=dh hl.1;split at h
   ·rename_i hex;cases h;rw[K9 hx'] at h1;refine mJ (BJ hN hi hx he hs hf) (λpins s σ H D I z=>by obtain⟨as,hal,z⟩:=z;exact h2 pins s _ H D (aGg as j σ I λm hm=>hid m (c5 hm hal)) z:PSs X rest (λD σ H=>∃as:aa ak,as.length<=n/\tS own g D (setG j as σ) H)) pins s σ H D' I ⟨ρ,xs,kk,E.er,h1,dh hl.2,λH' b as sm hb hd hal nd ha=>?_⟩
    let Hm:Hp:=λc=>if c∈as then ai else H' c
    have hmi:∀c,c∈as->Hm c=ai:=λc h=>ao h
    have hmn:∀c,c∉as->Hm c=H' c:=λc h=>aw h
    have s1:cH H Hm:=λc o e=>by
     rw[hmn c λz=>by rw[(ha c z).1] at e;cases e];exact sm _ _ e
    have s2:cH Hm H':=λc o e=>by
     by_cases z:c∈as
     ·rw[hmi c z] at e;cases e
     ·rw[hmn c z] at e;exact e
    have nb:¬Own own σ b:=λz=>by
     obtain⟨o,e,_⟩:=E.live z;rw[hb] at e;cases e
    obtain⟨rk,rn⟩:=o_ (kvs:=[]) (P:=λa=>¬Own own σ a) (H:=Hm) (aGf xs as) iJ.nil fA;have eb:Hm b=ab (.dK (cY [] (kvA xs as))):=by rw[hmn b λz=>(ha b z).2.1 rfl];exact hd
    have E1:=(E.same s1).set (i:=i) (v:=.ref b) (d:=.dct (iY [] (aGd xs as))) ho (.dK eb nb rk rn);obtain⟨E2,k2⟩:=aBs as j Hm _ _ H' E1 s2 (λm hm=>hj m 0x1) nd λc hc=>⟨hmi c hc,(ha c hc).2.2⟩
    have k1:KU own σ H (σ.set i (ab (.ref b))) Hm:=λa o e n=>⟨s1 _ _ e,by rw[lH ho];exact n⟩
    exact⟨as,by lia,_,_,E2,hex.choose_spec as hal nd,q.step (k1.trans k2)⟩
   ·exact bx h
  ·exact bx h
theorem aBt:j<=X3 j n o ρ:=mP ..
theorem aJe{o e:Expr}(hj:∀m,m<n->own (j+m)=ae)(hob:PE X o (gE fo ro))(he:PE X e (gE fe re))
 (hbase:gL o "append" X.env (bf o X.env)=bf o X.env:=by rfl)
 (hs1:zSE X e []:=by rfl)
 (hfew:zFw X cpos [e]:=by rfl)
 (hline:(apos.endLine==cpos.line)=ae:=by rfl)
 (hs:d5 (.Call (.Attribute o "append" apos) [e] [] cpos) ai pos.line X.env=pure ag:=by rfl) :
  PS X (.Expr (.Call (.Attribute o "append" apos) [e] [] cpos) pos) (tS own (aBp j n fo fe)):=λpins s σ H D' I z=>by
 obtain⟨ρ,fl,E,h,q⟩:=z;obtain⟨d,h1,h⟩:=bI h;split at h
 ·rename_i hk;have hk:=dh hk;have hle:j<=X3 j n d ρ:=aBt;exact t_ (j:=X3 j n d ρ) (by have:=hj (X3 j n d ρ-j) 0x1;rwa [zh hle] at this) hob he hbase hs1 hfew hline hs pins s σ H D' I ⟨ρ,fl,E,h,q⟩
 ·exact bx h
theorem aBu{own:af->aq}(E:ES own H σ ρ)(ho:own k=ae)(hk:∀b ob,H b=ab ob->σ[k]?≠ab (ab (.ref b))->H' b=ab ob) :
  ES own H' (σ.set k ai) (ρ.set k .uD)/\KU own σ H (σ.set k ai) H':=by
 have sub:∀b,Own own (σ.set k ai) b->Own own σ b:=λb z=>by
  obtain⟨m,hm,e⟩:=z;by_cases h:k=m
  ·subst h;rw[iz] at e;split at e
   ·split at e<;>cases e
   ·exact aE rfl ‹_›
  ·rw[de h] at e;exact⟨m,hm,e⟩
 have ku:KU own σ H (σ.set k ai) H':=λb ob e n=>⟨hk b ob e λz=>n ⟨k,ho,z⟩,λz=>n (sub b z)⟩
 refine⟨⟨by simp[E.len],λj hj=>?_,λj w hj hw=>?_⟩,ku⟩
 ·rw[dH] at hj ⊢;by_cases h:k=j/\k<ρ.length
  ·rw[ao h] at hj;exact aE rfl hj
  ·rw[aw h] at hj ⊢;obtain⟨w,h1,h2⟩:=E.at_ j hj;have hkj:k≠j:=λz=>h ⟨z,by rw[<-E.len,z];exact(c_.mp h1).1⟩
   exact⟨w,by rw[de hkj];exact h1,λhj=>ku.rep E (h2 hj)⟩
 ·by_cases hij:k=j
  ·subst hij;rw[iz] at hw;split at hw
   ·split at hw<;>cases hw
   ·exact aE rfl ‹_›
  ·rw[de hij] at hw;rw[dH,aw λz=>hij z.1];obtain⟨b,ob,h1,h2,h3,h4,h5,h6⟩:=E.own j w hj hw;subst h1;have hba:∀c,c=b->σ[k]?≠ab (ab (.ref c)):=λc z e=>by subst z;exact hij (h6 k ho e)
   refine⟨b,ob,rfl,?_,h3,hk _ _ h4 (hba b rfl),h5,λm hm hs=>?_⟩
   ·refine(h2.aKv (P':=λc=>c=b) h3 rfl).keep (λc oc hc hp=>?_) λ_ _=>trivial
    refine hk _ _ hc λz=>?_
    rcases hp with hp|hp
    ·exact hba c hp z
    ·obtain⟨c',oc',z1,_,_,z4,z5,_⟩:=E.own k _ ho z;cases z1;rw[hc] at z4;cases z4;rw[hp] at z5;cases z5
   ·by_cases hkm:k=m
    ·subst hkm;rw[iz] at hs;split at hs
     ·split at hs<;>cases hs
     ·exact aE rfl ‹_›
    ·rw[de hkm] at hs;exact h6 m hm hs
theorem aGh{X:Cx}{pins:aa (ak×bd)}{σ:L2.St}{H:Hp}{s:am}{j:af}(I:Inv X pins σ H s):Inv X pins (σ.set j ai) H s:=
 ⟨I.ok,I.os,I.bare,I.base,let ⟨m,hn,hl⟩:=I.loc;⟨m,hn,λi x v e1 e2 e3=>hl i x v e1 (by
  by_cases h:j=i
  ·subst h;rw[iz] at e2;split at e2
   ·split at e2<;>cases e2
   ·exact aE rfl ‹_›
  ·rw[de h] at e2;exact e2) e3⟩,I.cell,I.free,I.freeC,I.pin,I.hok,by rw[mx];exact I.len⟩
theorem aSa(I:Inv X pins σ H s)(E:ES own H σ ρ)(ho:own k=ae)(hc:isC (ρ.getD k .uD)=ae) :
  ∃H',Inv X pins (σ.set k ai) H' s/\ES own H' (σ.set k ai) (ρ.set k .uD)/\KU own σ H (σ.set k ai) H'/\(∀b o,H b=ab o->TJ o=ag->H' b=ab o)/\∀a xs,ρ.getD k .uD=.cel a xs->D.aW xs=ae/\∀P:ak->Prop,Rep P H' (.ref a) (.scr xs):=by
 by_cases hu:∃a xs,ρ.getD k .uD=.cel a xs
 ·obtain⟨a,xs,hx⟩:=hu;obtain⟨a',vs,hσ,hl,rr,hin,r,hba⟩:=vL E ho (xs:=xs) (by rw[hx];rfl);have:=hba a hx;subst this;obtain⟨o,I2⟩:=XQ I hl;have kn:∀b o',H b=ab o'->TJ o'=ag->upd H a (.frz o (.lst vs)) b=ab o':=λb o' e h=>by
   rw[bG λz=>by rw[z,hl] at e;cases e;cases h];exact e
  obtain⟨E2,k2⟩:=aBu E (H':=upd H a (.frz o (.lst vs))) ho λb ob e n=>by
   rw[bG λz=>n (by rw[z];exact hσ)];exact e
  refine⟨_,aGh I2,E2,k2,kn,λb ys e=>?_⟩;rw[hx] at e;cases e;exact⟨hin,λP=>.frz (.inl ⟨o,aM⟩) (rr.vG kn hin)⟩
 ·obtain⟨E2,k2⟩:=aBu E (H':=H) ho λb ob e n=>e
  exact⟨H,aGh I,E2,k2,λ_ _ e _=>e,λa xs e=>aE ⟨a,xs,e⟩ hu⟩
theorem aBv:∀(n:af)(σ:L2.St)(H:Hp)(ρ:aa D),Inv X pins σ H s->ES own H σ ρ->(∀m,m<n->own (j+m)=ae)->(∀m,m<n->isC (ρ.getD (j+m) .uD)=ae)->
  ∃H',Inv X pins (aD1 j n σ) H' s/\ES own H' (aD1 j n σ) (aP2 j n ρ)/\KU own σ H (aD1 j n σ) H'/\(∀b o,H b=ab o->TJ o=ag->H' b=ab o)/\∀m a xs,m<n->ρ.getD (j+m) .uD=.cel a xs->∀P:ak->Prop,Rep P H' (.ref a) (.scr xs)
 |0,σ,H,ρ,I,E,_,_=>⟨H,I,E,.same (.refl H),λ_ _ e _=>e,λ_ _ _ h=>by cases h⟩
 |n+1,σ,H,ρ,I,E,ho,hc=>by
  obtain⟨H1,I1,E1,k1,n1,f1⟩:=aSa I E (ho n (ip n)) (hc n (ip n));have low:∀m,m<n->(ρ.set (j+n) .uD).getD (j+m) .uD=ρ.getD (j+m) .uD:=λm hm=>by rw[dH,aw 0x1]
  obtain⟨H',I',E',k',n',f'⟩:=aBv n _ H1 _ I1 E1 (λm hm=>ho m (ie hm)) λm hm=>by rw[low m hm];exact hc m (ie hm)
  refine⟨H',I',E',k1.trans k',λb o e h=>n' b o (n1 b o e h) h,λm a xs hm e P=>?_⟩;rcases kf m n with h|h
  ·exact f' m a xs h (by rw[low m h];exact e) P
  ·obtain rfl:m=n:=by lia
   obtain⟨z1,z2⟩:=f1 a xs e;exact(z2 P).vG n' z1
theorem VD{P P':ak->Prop}{H H':Hp}(f:∀m a xs,m<n->ρ.getD (j+m) .uD=.cel a xs->∀P:ak->Prop,Rep P H' (.ref a) (.scr xs)):∀{kv:aa (Key×V)}{kvs kvs':aa (D×D)},iJ P H kv kvs->aD0 ρ j n kvs=ab kvs'->iJ P' H' kv kvs'
 |[],_,_,.nil,h=>by cases h;exact .nil
 | (k,v)::kv,(_,d)::kvs,kvs',.cons r t,h=>by
  cases d with
  |adr a=>
   obtain rfl:=r.inv;simp only[aD0] at h;split at h
   ·rename_i b xs hb;split at h
    ·rename_i hk;rw[aT,dL,dL] at hk;obtain⟨rfl,hk⟩:=hk;obtain⟨ks,h1,rfl⟩:=jk.mp h;have hle:j<=X3 j n (.adr a) ρ:=aBt;exact .cons (f (X3 j n (.adr a) ρ-j) a xs 0x1 (by rw[zh hle];exact hb) P') (VD f t h1)
    ·cases h
   ·cases h
  |_=>cases h
theorem VF{P P':ak->Prop}{H H':Hp}(f:∀m a xs,m<n->ρ.getD (j+m) .uD=.cel a xs->∀P:ak->Prop,Rep P H' (.ref a) (.scr xs)):∀{kv:aa (aa Key×V)}{kvs kvs':aa (D×D)},oZ P H kv kvs->aD0 ρ j n kvs=ab kvs'->oZ P' H' kv kvs'
 |[],_,_,.nil,h=>by cases h;exact .nil
 | (k,v)::kv,(_,d)::kvs,kvs',.cons r t,h=>by
  cases d with
  |adr a=>
   obtain rfl:=r.inv;simp only[aD0] at h;split at h
   ·rename_i b xs hb;split at h
    ·rename_i hk;rw[aT,dL,dL] at hk;obtain⟨rfl,hk⟩:=hk;obtain⟨ks,h1,rfl⟩:=jk.mp h;have hle:j<=X3 j n (.adr a) ρ:=aBt;exact .cons (f (X3 j n (.adr a) ρ-j) a xs 0x1 (by rw[zh hle];exact hb) P') (VF f t h1)
    ·cases h
   ·cases h
  |_=>cases h
theorem aEr{rest:aa br}(ho:own i=ag)(hj:∀m,m<n->own (j+m)=ae)(h2:PSs X rest (tS own g)):PSs X rest (tS own (aBq i j n g)):=λpins s σ H D' I z=>by
 obtain⟨ρ,fl,E,h,q⟩:=z;unfold aBq at h;split at h
 ·rename_i kvs hd;split at h
  ·rename_i kvs' hf;split at h
   ·rename_i hc;rw[e9] at hc;obtain⟨H',I',E',k',n',f'⟩:=aBv n σ H ρ I E hj λm hm=>hc m (fN.mpr hm)
    obtain⟨v,hσ,hr⟩:=E.at_ i (by rw[hd];intro z;cases z);have hr:=hr ho;rw[hd] at hr;have hi:∀m,m<n->j+m≠i:=λm hm z=>by have:=hj m hm;rw[z,ho] at this;cases this
    have hσ':∀(n:af)(σ:L2.St),(∀m,m<n->j+m≠i)->(aD1 j n σ)[i]?=σ[i]?:=λn=>by
     induction n with
     |zero=>intro σ _;rfl
     |succ n ih=>
      intro σ hne;show(aD1 j n (σ.set (j+n) ai))[i]?=_;rw[ih _ λm hm=>hne m (ie hm),de (hne n (ip n))]
    have eσ:(aD1 j n σ).set i (ab v)=aD1 j n σ:=by
     refine BQ λm=>?_
     rw[iz];split
     ·rename_i z;subst z;rw[hσ' n σ hi,hσ];split
      ·rfl
      ·rename_i z;exact aE (c_.mp (by rw[hσ' n σ hi];exact hσ:(aD1 j n σ)[i]?=ab (ab v))).1 z
     ·rfl
    have r2:Rep (λa=>¬Own own (aD1 j n σ) a) H' v (.dct kvs'):=by
     cases hr with
     |dK e p r nn=>exact .dK (k' _ _ e p).1 (k' _ _ e p).2 (VD f' r hf) nn
     |dT e p r nn=>exact .dT (k' _ _ e p).1 (k' _ _ e p).2 (VF f' r hf) nn
    have E2:=E'.set (i:=i) (v:=v) (d:=.dct kvs') ho r2;rw[eσ] at E2;exact h2 pins s _ H' D' I' ⟨_,fl,E2,h,q.step k'⟩
   ·exact bx h
  ·exact bx h
 ·exact bx h
theorem aJf{ownN:aa Str}(S:cZ X.N X.env.scope scope ownN)(hn:X.N.length=n)(hm:ownN.length=1)(hcalm:X.calm=ae)(hi:PI X tg iter (gI X.K it))(ht:TgC g iV n 1)(hg:∀y,PG (mkC X scope ownN y) tg g)(he:∀y,PE (mkC X scope ownN y) e1 (gE (h_ n) ag))
 (hs:∀x,fj iter X.env x=pure x)(hs1:∀y,b9 [e1,.List [] lp] (mkC X scope ownN y).env=(ag,bf e1 (mkC X scope ownN y).env)::b9 [.List [] lp] (mkC X scope ownN y).env)(hs2:∀y,b9 [.List [] lp] (mkC X scope ownN y).env=(ag,bf (.List [] lp) (mkC X scope ownN y).env)::b9 [] (mkC X scope ownN y).env):PE X (.ListComp (.Tuple [e1,.List [] lp] x1 tp) [⟨tg,iter,[],0⟩] scope pos) (aQl it):=
 aNe S hn hm hcalm hi ht (λX' cc=>by obtain⟨y,rfl⟩:=k_ cc;exact hg y) (λX' cc=>by obtain⟨y,rfl⟩:=k_ cc;exact he y) hs (λX' cc=>by obtain⟨y,rfl⟩:=k_ cc;exact hs1 y) (λX' cc=>by obtain⟨y,rfl⟩:=k_ cc;exact hs2 y)
theorem mY{x1}(he:PE X (.Tuple el x1 tp) (gE fe re))(hes:PA X es (gA f r)):PA X (.Tuple el x1 tp::es) (gA (aA fe f) (re&&r)):=aB he hes rfl
theorem HB{a b:ah}{x1 i1 i2}{p1 p2 tp:cn}:PE X (.Tuple [.Constant (.int a) i1 p1,.Constant (.int b) i2 p2] x1 tp) (gE (bN (aA (bC (.int a)) (aA (bC (.int b)) aL))) ae):=bH (aB aF (aB aF aG))
noncomputable def aNf(f:FX):FS:=λρ=>do
 let p <- f ρ
 .ok (.nx p.2)
theorem aNg(he:PE X e (gX own f))(hs:d5 e ai pos.line X.env=pure ag:=by rfl):PS X (.Expr e pos) (tS own (aNf f)):=PS.imp (vB he hs) λD' σ H z=>by
 obtain⟨ρ,fl,E,h,q⟩:=z;obtain⟨⟨d,ρ'⟩,h1,h2⟩:=bI h;cases h2;exact⟨ρ,d,ρ',E,h1,λv H' k E' ns r=>q _ _ k E'⟩
theorem hj5{own:af->aq}{j:af}(h0:own j=ae)(h1:own (j+1)=ae)(h2:own (j+2)=ae)(h3:own (j+3)=ae)(h4:own (j+4)=ae):∀m,m<5->own (j+m)=ae
 |0,_=>h0
 |1,_=>h1
 |2,_=>h2
 |3,_=>h3
 |4,_=>h4
theorem hd5{j:af}(h0:Hid X j)(h1:Hid X (j+1))(h2:Hid X (j+2))(h3:Hid X (j+3))(h4:Hid X (j+4)):∀m,m<5->Hid X (j+m)
 |0,_=>h0
 |1,_=>h1
 |2,_=>h2
 |3,_=>h3
 |4,_=>h4
end
end Mi
namespace HT
open PySem PySem.Spec PyProof.Rows
theorem vM{t sl:ak}{items:ay aj}{vl vu:aj}{lo hi:au ah}{Q:aj->am->Prop}(ht:kx s.heap t items)(hs:s.heap.IsSliceOf sl vl vu .none)(pl:iq vl lo)(pu:iq vu hi)
 (h1:sIx items.size 0 lo=0)(h2:sIx items.size items.size hi=items.size)(h:Q (.ref t) s):wpAny (av prog w) A (jh (.ref t) (.ref sl)) Q E s:=by
 obtain⟨o,ho,hc,hd⟩:=id hs;have tS:s.TypeIs (.ref sl) "slice":=⟨o,ho,hc⟩
 have tT:=ht.typeIs;unfold jh
 try with_reducible refine eh ?_
 first|refine al (az ?_)|skip
 refine al (Aq tT 0x4 ?_);refine al (kN (name:=zf "__getitem__") tT slot_tuple_getitem (nL slot_tuple_getitem tT Ar ?_ (As _ _)));show wpAny _ _ (At (.ref t) >>= _) _ _ s;refine al (Au ht (al (iL tS ?_)));rw[ao 0x4];refine al (m_ hs pl pu ?_);rw[h1,h2];show wpAny _ _ (if (((0:af):ah)==0&&(1:ah)==1&&(items.size-0)==items.size)=ae then _ else _) _ _ s;rw[ao 0x2];refine al (m:=Dv _) (al (iL tT (az ?_)));rw[ao 0x4];exact al (li (az ⟨_,rfl,az h⟩))
end HT
namespace Mi
open PySem L2 PySem.SeqAt PySem.Spec PyProof.Rows
def aQn:D->au ah->au ah->Res D
 |.tup xs,lo,hi=>if D.aW xs then .ok (.tup (cutD xs lo hi)) else .bad
 |d,lo,hi=>aE2 d lo hi
def aNh(a:FE)(lo hi:aa D->Res (au ah)):FE:=λρ=>do let x <- a ρ;let l <- lo ρ;let h <- hi ρ;aQn x l h
def aSb:D->Res aq
 |.scr xs=>.ok (!xs.isEmpty)
 |d=>aR1 d
def aQo(a:FE):FT:=λρ=>do let x <- a ρ;aSb x
variable [KFrag]
section
theorem aNi(hK:KFrag.K=X.K):SlR X (λx lo hi H Q=>∃a d,Rep All H x a/\aQn a lo hi=.ok d/\kR H d ae Q):=by
 rintro pins s σ H x v vl vu lo hi sl Q I rx hs pl pu ⟨a,d,p,e,k⟩;by_cases hz:∃z,a=.tup z
 ·obtain⟨z,rfl⟩:=hz;replace e:(if D.aW z then Res.ok (D.tup (cutD z lo hi)) else .bad)=.ok d:=e;split at e
  ·rename_i hp;cases e;by_cases hw:O5 z.length 0 lo=0/\O5 z.length z.length hi=z.length
   ·have p0:=p;obtain⟨l,xs,rfl,ee,rr⟩:=p.fG;cases rx;obtain⟨its,r,ht,hsz⟩:=I.tuple (.of ee);have hlen:its.toArray.size=z.length:=by rw[bX,<-r.length,rr.length]
    refine⟨"tuple",_,slot_tuple_getitem.lookup,ht.typeIs,HT.vM ht hs pl pu (by rw[hlen,UJ];exact hw.1) (by rw[hlen,UJ];exact hw.2) ⟨.ref l,H,I,rfl,?_⟩⟩;have ec:cutD z lo hi=z:=by
     unfold cutD;rw[hw.1,hw.2,Cj,Ck,Bf]
    rw[ec] at k;exact k _ _ (.refl H) p0 λ_=>p0.b8 (by rw[D.pure];exact hp)
   ·refine aB0 hK pins s σ H x v vl vu lo hi sl Q I rx hs pl pu ⟨_,_,p,?_,k⟩;show(if !D.aW z||decide (O5 z.length 0 lo=0/\O5 z.length z.length hi=z.length) then (Res.bad:Res D) else Res.ok (D.tup (cutD z lo hi)))=_;rw[hp,cK hw];rfl
  ·exact bx e
 ·refine aB0 hK pins s σ H x v vl vu lo hi sl Q I rx hs pl pu ⟨a,d,p,?_,k⟩;cases a<;>first|exact e|exact aE ⟨_,rfl⟩ hz
theorem aGi{lo hi:au Expr}{p2:cn}{fl fh:aa D->Res (au ah)}(hK:KFrag.K=X.K)(he:PE X e (gE fe re))(hl:PO X lo (gO fl))(hh:PO X hi (gO fh)):PE X (.Subscript e (.Slice lo hi ai p2) pos) (gE (aNh fe fl fh) ae):=
 PE.imp (S5 (aNi hK) he hl hh) λσ H Q z0=>by
  obtain⟨ρ,d,E,h,q⟩:=z0;obtain⟨x,h1,h⟩:=bI h;obtain⟨l,h2,h⟩:=bI h;obtain⟨u,h3,h⟩:=bI h;exact⟨ρ,x,E,h1,λv H1 s1 r1 _=>⟨ρ,l,E.same s1,h2,λH2 s2=>⟨ρ,u,E.same (s1.trans s2),h3,λH3 s3=>⟨x,d,r1.same (s2.trans s3),h,q.imp ((s1.trans s2).trans s3) id⟩⟩⟩⟩
theorem aJg(hK:KFrag.K=X.K)(ha:PE X a (gE fa ra))(he:∀whole,ni a X.env whole=(do let v <- whole;nw a.pos;jy [v] (oI v)):=by intro _;rfl):PT X a (gT (aQo fa)):=
 PT.imp (SM ha he) λσ H Q z0=>by
  obtain⟨ρ,k,E,h,q⟩:=z0;obtain⟨d,h1,h2⟩:=bI h;refine⟨ρ,d,E,h1,λv H' s r _=>⟨k,?_,q H' s⟩⟩;by_cases hz:∃z,d=.scr z
  ·obtain⟨z,rfl⟩:=hz;cases h2;obtain⟨a,xs,rfl,e,rr⟩:=r.inv;exact .inl ⟨xs,e.sq hK,by cases rr<;>rfl⟩
  ·refine aR3 r ?_ ?_ λxs z=>hz ⟨xs,z⟩
   ·cases d<;>first|exact h2|exact bx h2|exact aE ⟨_,rfl⟩ hz
   ·rintro kvs rfl;exact bx h2
end
end Mi
section
local macro_rules | `(tactic| trivial) => `(tactic| first | exact Or.inl rfl | exact Or.inr rfl | exact Or.inr (Or.inl rfl) | exact Or.inr (Or.inr rfl))
namespace Lk62
open PySem L2 Mi PySem.W
noncomputable def top(i:af):br:=PySem.Challenge.pw_hookmill_k62_copy_and_drop_rules.main.body.getD i (.Pass ⟨0,0,0,0⟩)
abbrev uB:br:=top 13
noncomputable def Q7:af->aq:=λi=>ag
def yX:FS:=bK (bZ ag 2 bJ ae) (bK (sIf (bTB (b2 (b_ (.ord .gt)) (aK dG (aA bQ aL)) bJ)) (bZ ag 2 (b2 (bA .mod) (b2 getD bQ (b2 (bA .mod) eO (aK dG (aA bQ aL)))) jL) ae) j6) (bK (bZ ag 3 (b2 (bA .mod) (b2 lJ (b2 (bA .add) (b2 (bA .add) d_ bW) (b2 lJ yD (b2 (bA .fdiv) eO (aK max2 (aA bW (aA (aK dG (aA bQ aL)) aL)))))) DY) jL) ae) (gR (b2 (bA .mod) (b2 lJ cV cV) mO) ae)))
def aP:aa D->Res D:=fnS 2 4 yX
abbrev uC:br:=top 14
noncomputable def Q8:af->aq:=λi=>ag
def Q9:FS:=bK (bZ ag 2 (bC (.str "abcdefghijklmnopqrstuvwxyz")) ae) (bK (sIf (YZ (bTB (b2 inX eO (bN (aA v8 (aA D_ aL))))) (bTB (b2 (b_ .eq) (b2 (bA .mod) (aK (bY 2 aP) (aA bQ (aA (bC (.int 36)) aL))) aA5) bW))) (gR (b2 (bA .add) (b2 getD (zM (aA (bC (.str "drop")) (aA (bC (.str "copy")) aL))) (b2 (bA .fdiv) eO D_)) (b2 getD d_ (b2 (bA .mod) (aK (bY 2 aP) (aA bQ (aA aHw aL))) EY))) ae) j6) (bK (bZ ag 3 (aK (bY 2 aP) (aA bQ (aA bJ aL))) ae) (bK (bZ ag 4 (b2 getD (zM (aA (b2 getD d_ (b2 (bA .mod) cV EY)) (aA (b2 getD (bC (.str "abdz")) (b2 (bA .mod) (b2 (bA .fdiv) cV EY) v8)) aL))) (b2 (bA .mod) (b2 (bA .fdiv) cV (bC (.int 104))) d9)) ag) (bK (bZ ag 5 (b2 (bA .mod) (aK (bY 2 aP) (aA bQ (aA bW aL))) aDl) ae) (bK (bZ ag 6 (b2 (bA .mod) (aK (bY 2 aP) (aA bQ (aA d9 aL))) (b2 (bA .sub) aDl d8)) ae) (bK (sIf (bTB (b2 (b_ .eq) (b2 (bA .mod) (b2 (bA .fdiv) (aK (bY 2 aP) (aA bQ (aA bW aL))) aDl) d9) bW)) (bZ ag 6 (b2 (bA .mod) (aK (bY 2 aP) (aA bQ (aA (b2 (bA .add) v8 eO) aL))) (b2 (bA .sub) aDl d8)) ae) j6) (gR (b2 (bA .add) (b2 (bA .add) (b2 lJ fD d8) (b2 getD d_ (b2 (bA .mod) (b2 (bA .add) eO (aK (bY 2 aP) (aA bQ (aA kE aL)))) EY))) (b2 lJ fD fP)) ae)))))))
def aQ:aa D->Res D:=fnS 2 7 Q9
abbrev jO:br:=top 15
noncomputable def HD:af->aq:=λi=>i==2
def HF:FS:=bK (bZ ae 2 (zM aL) ae) (bK (tV (fX (aA eO aL) lO) (tg1 3) (bK (bZ ag 4 (bN aL) ae) (bK (sIf (YZ (bTB (b2 (b_ (.ord .gt)) cV bJ)) (bTB (b2 (b_ (.ord .gt)) (b2 (bA .mod) (b2 (bA .fdiv) (aK (bY 2 aP) (aA bQ (aA aDm aL))) cV) kE) bJ))) (bZ ag 4 (bN (aA (aK (bY 2 aQ) (aA bQ (aA bJ aL))) aL)) ae) j6) (bK (v_ 2 (bN (aA (aK (bY 2 aQ) (aA bQ (aA (b2 (bA .add) kE (b2 lJ kE cV)) aL))) (aA (aK (bY 2 aQ) (aA bQ (aA cV aL))) (aA fD aL))))) (tV (fX (aA bW (aA (b2 (bA .add) d9 (b2 (bA .mod) (aK (bY 2 aP) (aA bQ (aA (b2 (bA .add) aDn (b2 lJ kE cV)) aL))) d9)) aL)) vD) (tg1 5) (bK (bZ ag 6 (aK (bY 2 aP) (aA bQ (aA (b2 (bA .add) (b2 (bA .add) aDn (b2 lJ kE cV)) d8) aL))) ae) (bK (bZ ag 7 (b2 getD (zM (aA bW (aA (b2 (bA .mod) fP v8) aL))) (b2 (bA .sub) d8 bW)) ag) (bK (bZ ag 8 (aK gY (aA (eQ 9 (fX (aA eE aL) lO) iV dX (aK (bY 2 aQ) (aA bQ (aA (b2 (bA .mod) (b2 (bA .fdiv) fP (b2 (bA .add) aPu (b2 lJ aKr nY))) eO) aL))) ae) aL)) ag) (v_ 2 (bN (aA (aK (bY 2 aQ) (aA bQ (aA (b2 (bA .add) (b2 (bA .add) kE (b2 lJ kE cV)) d8) aL))) (aA (aK (bY 2 aQ) (aA bQ (aA cV aL))) (aA nA aL))))))))))))) (gR (aK gY (aA d_ aL)) ag))
def jP:aa D->Res D:=fnS 2 9 HF
abbrev jQ:br:=top 16
noncomputable def HH:af->aq:=λi=>i==2
def HJ:FS:=bK (bZ ae 2 (zM aL) ae) (bK (tV (fX (aA (b2 (bA .mod) (aK (bY 2 aP) (aA bQ (aA (bC (.int 50)) aL))) v8) aL) lO) (tg1 3) (bK (bZ ag 4 (aK (bY 2 aP) (aA bQ (aA (b2 (bA .add) (bC (.int 51)) cV) aL))) ae) (bK (bZ ag 5 (aK gY (aA (eQ 7 (fX (aA (b2 (bA .mod) (b2 (bA .fdiv) fD v8) kE) aL) lO) iV dX (aK (bY 2 aQ) (aA bQ (aA (b2 (bA .mod) (b2 (bA .fdiv) fD (b2 (bA .add) W7 (b2 lJ aKr eE))) eO) aL))) ae) aL)) ag) (bK (bZ ag 6 (bN (aA (aK (bY 2 aQ) (aA bQ (aA (b2 (bA .mod) fD eO) aL))) (aA (aK (bY 2 aQ) (aA bQ (aA (b2 (bA .mod) (b2 (bA .fdiv) fD d9) eO) aL))) aL))) ae) (v_ 2 (b2 KY (b2 KY (bN (aA (aK (bY 2 aQ) (aA bQ (aA (b2 (bA .add) D_ cV) aL))) aL)) fP) (bN (aA d8 aL)))))))) (gR (aK gY (aA d_ aL)) ag))
def jR:aa D->Res D:=fnS 2 7 HJ
abbrev cR:br:=top 17
noncomputable def K_:af->aq:=λi=>i==7||i==8
def wH:FS:=bK (bZ ae 7 (zM aL) ae) (bK (bZ ae 8 (nJ (aA (bN (aA fD (aA (bC (.bl ag)) aL))) aL)) ae) (bK (aQ7 (bTB (b2 (b_ (.ord .gt)) (aK dG (aA nA aL)) bJ)) (bK (aE5 8 9 bJ) (bK (bZ ag 10 (aK (bY 2 aP) (aA bQ (aA (b2 (bA .add) eO (aK dG (aA eE aL))) aL))) ae) (bK (bZ ag 11 (U5 17 3 iV (bTB (b2 (b_ .eq) (b2 getD cV iH) (b2 getD nY bJ))) iH) ae) (bK (bZ ag 12 (eQ 17 (bT (b2 getD d_ bJ) ag) iV (bTB (b2 (b_ .eq) (b2 getD iH bW) (b2 getD nY bJ))) iH ag) ae) (bK (bZ ag 13 (eQ 17 (bT (b2 getD d_ bW) ag) iV (bTB (b2 (b_ .eq) (b2 getD iH bW) (b2 getD nY bJ))) iH ag) ae) (sIf (YZ (bTB (b2 (b_ (.ord .lt)) (aK dG (aA eE aL)) fP)) (bTB (b2 (b_ .eq) (aK dG (aA nA aL)) bJ))) (bK (v_ 7 (b2 getD (b2 getD sY bW) bJ)) (bZ ae 8 (nJ (aA (bN (aA (b2 getD (b2 getD (b2 getD sY bW) d9) bJ) (aA (bC (.bl ag)) aL))) aL)) ae)) (sIf (bOr (bTr (b2 getD nY bW)) (bOr (bTB (b2 (b_ (.ord .ge)) (b2 (bA .add) (aK dG (aA eE aL)) (aK dG (aA nA aL))) d8)) (bTB (b2 (b_ .eq) (b2 (bA .mod) jB v8) bJ)))) (bK (v_ 7 (b2 getD (b2 (bA .add) j5 (nJ (aA (b2 getD (b2 getD sY bJ) bJ) aL))) (b2 (bA .mod) (b2 (bA .fdiv) jB v8) (aK max2 (aA bW (aA (aK dG (aA j5 aL)) aL)))))) (sIf (bTB (b2 (b_ .eq) (aK dG (aA j5 aL)) bJ)) (bZ ae 8 (b2 (bA .add) (eQ 17 (bT (b2 getD (b2 getD sY bJ) d9) ag) iV dX (bN (aA iH (aA (bC (.bl ae)) aL))) ag) nA) ae) j6)) (sIf (bOr (bTB (b2 (b_ (.ord .lt)) (b2 (bA .mod) jB v8) kE)) (bTB (b2 (b_ .eq) (aK dG (aA tR aL)) bJ))) (bK (bZ ag 14 (b2 getD sY (b2 (bA .mod) (b2 (bA .fdiv) jB v8) (aK dG (aA sY aL)))) ag) (bK (v_ 7 (b2 getD yC bJ)) (bZ ae 8 (b2 (bA .add) (eQ 17 (bT (b2 getD yC d9) ag) iV dX (bN (aA iH (aA (bC (.bl ag)) aL))) ag) nA) ae))) (bK (bZ ag 15 (b2 getD tR (b2 (bA .mod) (b2 (bA .fdiv) jB v8) (aK dG (aA tR aL)))) ag) (bK (v_ 7 (b2 getD wY bJ)) (bK (bZ ag 16 (E_ (b2 (b_ (.ord .gt)) (aK aKw (aA cV aL)) bJ) (b2 (b_ (.ord .gt)) (b2 (bA .mod) (b2 (bA .fdiv) jB (bC (.int 64))) v8) bJ)) ae) (bZ ae 8 (b2 (bA .add) (b2 (bA .add) (nJ (aA (bN (aA (b2 getD wY d9) (aA W6 aL))) aL)) (eQ 17 (bT (b2 getD wY kE) ag) iV dX (bN (aA iH (aA (bC (.bl ag)) aL))) ag)) nA) ae))))))))))))) (gR (aK gY (aA eE aL)) ag)))
def fK:aa D->Res D:=fnS 7 17 wH
abbrev lA:br:=top 18
noncomputable def LC:af->aq:=λi=>i==2
def wI:FS:=bK (bZ ae 2 (zM aL) ae) (bK (tV (bT (b2 getD eO bW) ag) (tg1 3) (tV (bT (b2 getD eO bJ) ag) (tg1 4) (sIf (bTB (b2 (b_ .eq) (b2 getD fD bW) (b2 getD cV d9))) (bK (bZ ag 5 (b2 KY (b2 getD fD d9) (b2 getD cV kE)) ag) (bK (bZ ag 6 (aK (bY 2 aP) (aA bQ (aA (b2 (bA .add) EY (aK dG (aA d_ aL))) aL))) ae) (bK (bZ ag 7 (eQ 11 (fX (aA (aK dG (aA d8 aL)) aL) lO) iV dX (aK (bY 2 aQ) (aA bQ (aA (b2 (bA .add) W7 (b2 (bA .mod) (b2 (bA .add) fP j5) aA5)) aL))) ae) ae) (bK (bZ ag 7 (aK gY (aA (b2 getD (zM (aA eE (aA (b1 aG3 eE) aL))) (b2 (bA .mod) (b2 (bA .fdiv) fP aA5) d9)) aL)) ag) (bK (bZ ag 8 (aK yU (aA eE (aA d8 aL))) ae) (bK (bZ ag 9 (aK (λds=>bY 7 fK (ds++[.int 0])) (aA bQ (aA (b2 (bA .add) aA6 (b2 lJ aHx (aK dG (aA d_ aL)))) (aA eO (aA nA (aA (b2 getD cV bW) (aA aA5 aL))))))) ae) (v_ 2 (bN (aA (b2 getD cV bJ) (aA (b2 getD fD bJ) (aA eE (aA nY aL)))))))))))) j6))) (bK (bZ ag 10 (b2 (bA .mod) (aK (bY 2 aP) (aA bQ (aA (bC (.int 35)) aL))) (aK max2 (aA bW (aA (aK dG (aA d_ aL)) aL)))) ae) (gR (aK gY (aA (b2 (bA .add) (QX d_ (mQ jB) mR) (QX d_ mR (mQ jB))) aL)) ag)))
def lB:aa D->Res D:=fnS 2 11 wI
abbrev iR:br:=top 19
noncomputable def zO:af->aq:=λi=>ag
def zP:FS:=bK (bZ ag 1 (b2 (bA .add) bW (b2 (bA .mod) (aK (bY 2 aP) (aA bQ (aA (bC (.int 39)) aL))) kE)) ae) (bK (bZ ag 2 (bN (aA (aK (bY 2 jP) (aA bQ (aA eO aL))) (aA (aK (bY 2 jR) (aA bQ (aA eO aL))) aL))) ae) (bK (bZ ag 3 (aK gY (aA (eQ 4 (fX (aA eO aL) lO) iV dX (aK (bY 2 aQ) (aA bQ (aA fD aL))) ae) aL)) ag) (gR (bN (aA cV (aA (b2 getD d_ bJ) (aA (b2 getD d_ bW) (aA (aK (bY 2 lB) (aA bQ (aA d_ aL))) aL))))) ag)))
def iT:aa D->Res D:=fnS 1 4 zP
abbrev oJ:br:=top 23
noncomputable def LK:af->aq:=λi=>i==1
def LQ:FS:=bK (bZ ae 1 (aIu (bC (.str "copy")) d9 (bC (.str "drop")) bJ) ae) (bK (tV (bT (b2 getD bQ bW) ag) (tg1 2) (zN 1 (b2 getD d_ bJ) (aK dG (aA (b2 getD d_ d9) aL)))) (bK (tV (bT (b2 getD bQ d9) ag) (tg1 3) (zN 1 (b2 getD cV bJ) (b2 (bA .add) (aK dG (aA (b2 getD cV kE) aL)) bW))) (QB 1)))
def lC:aa D->Res D:=fnS 1 4 LQ
abbrev vN:br:=top 5
noncomputable def X4:af->aq:=λi=>i==1
def X5:FS:=bK (bZ ae 1 (bC (.dct [])) ae) (bK (tV (bT (b2 getD bQ bW) ag) (tgN [2,3,4]) (zN 1 d_ (aK dG (aA fD aL)))) (bK (tV (bT (b2 getD bQ d9) ag) (tgN [2,3,5,6]) (zN 1 d_ (b2 (bA .add) bW (aK dG (aA fP aL))))) (bK (zN 1 (bC (.str "copy")) d9) (bK (zN 1 (bC (.str "drop")) bJ) (QB 1)))))
def p_:aa D->Res D:=fnS 1 7 X5
abbrev q_:br:=top 1
noncomputable def X6:af->aq:=λi=>ag
def X7:FS:=bK (bZ ag 3 (eQ 4 (bT eO ag) (aP0 2) dX (bN (aA (aK (mX .lt) (aA fD (aA d8 aL))) (aA (aK (mX .gt) (aA fD (aA d8 aL))) aL))) ag) ae) (gR (bN (aA (aK gY (aA (aK lG (aA bQ aL)) aL)) (aA (aK gY (aA (aK lG (aA cV aL)) aL)) (aA d_ aL)))) ag)
def fQ:aa D->Res D:=fnS 3 4 X7
abbrev vO:br:=top 3
noncomputable def X8:af->aq:=λi=>i==1
def X_:FS:=bK (bZ ae 1 (bC (.dct [])) ae) (bK (tV (bT (b2 getD bQ bW) ag) (tgN [2,3,4]) (zN 1 d_ (bN (aA cV (aA fD aL))))) (bK (tV (bT (b2 getD bQ d9) ag) (tgN [2,3,5,6]) (zN 1 d_ (bN (aA cV (aA (b2 KY (bN (aA d8 aL)) fP) aL))))) (QB 1)))
def mC:aa D->Res D:=fnS 1 7 X_
abbrev wJ:br:=rowOf (top 11) 0
def wK:aa (Str×Srx):=[("heads",.exp (aK (bY 1 mC) (aA eO aL))),("takers",.exp (b1 K6 (eQ 2 (bT (b2 getD eO d9) ag) iV dX (bN (aA (b2 getD d_ bJ) (aA (bC (.bl ae)) aL))) ag))),("pieces",.exp (zM aL)),("ties",.exp (zM aL))]
abbrev gG:br:=rowOf (top 11) 1
noncomputable def Q_:af->aq:=λi=>i==2||i==3||i==1000000
def RB:FS:=bK (bZ ag 4 (b2 (bA .add) (aK dG (aA (aGa 2 (vA "Loom" "pieces" bQ)) aL)) bW) ae) (bK (uU 2 (vA "Loom" "pieces" bQ) (bN (aA fD (aA eO aL)))) (W8 fD ag))
def cW:aa D->Res D:=fnG 2 5 RB
abbrev HN:br:=rowOf (top 11) 2
noncomputable def aQp:af->aq:=λi=>i==3||i==4||i==1000000
def aQq:FS:=bK (K4 ag 5 (l_ "Loom" "add_piece" cW 2 0 3 (aA eO aL))) (bK (bZ ag 6 (aK dG (aA (b2 getD (b2 getD (vA "Loom" "heads" bQ) eO) bW) aL)) ae) (bK (sIf (bTB (b2 inX eO (vA "Loom" "takers" bQ))) (bK (uU 4 (vA "Loom" "ties" bQ) (bN (aA (bN (aA d8 (aA bW aL))) (aA d_ aL)))) (W8 (b2 (bA .add) (nJ (aA (bN (aA d8 (aA bJ aL))) aL)) (eQ 7 (fX (aA d9 (aA (b2 (bA .add) fP bW) aL)) vD) iV dX (bN (aA d8 (aA eE aL))) ag)) ae)) j6) (bK (uU 4 (vA "Loom" "ties" bQ) (bN (aA (bN (aA d8 (aA bJ aL))) (aA d_ aL)))) (W8 (eQ 7 (fX (aA bW (aA (b2 (bA .add) fP bW) aL)) vD) iV dX (bN (aA d8 (aA eE aL))) ag) ae))))
def RC:aa D->Res D:=fnG 3 7 aQq
abbrev uE:br:=rowOf (top 11) 3
noncomputable def aJh:af->aq:=λi=>i==3||i==4||i==1000000
def aJi:FS:=sIf (oY (aQo d_)) (aEo 4 (vA "Loom" "ties" bQ) (aN2 (XN (aN2 (XN (l_ "Loom" "add_piece" cW 2 0 3 (aA (bPu (bC (.str "drop"))) aL)) (wG bJ (aIs)))) (wG eO (aIs))))) (bK (tV (bT (QX d_ mR (mQ (b1 aHy bW))) ae) (tg1 5) (bK (K4 ag 6 (l_ "Loom" "add_piece" cW 2 0 3 (aA (bPu (bC (.str "copy"))) aL))) (bK (uU 4 (vA "Loom" "ties" bQ) (bN (aA (bN (aA fP (aA bJ aL))) (aA eO aL)))) (bK (uU 4 (vA "Loom" "ties" bQ) (bN (aA (bN (aA fP (aA bW aL))) (aA d8 aL)))) (bZ ag 1 (bN (aA fP (aA d9 aL))) ag))))) (uU 4 (vA "Loom" "ties" bQ) (bN (aA eO (aA (b2 getD d_ (b1 aHy bW)) aL)))))
def uF:aa D->Res D:=fnG 3 7 aJi
abbrev dC:br:=top 10
noncomputable def LR:af->aq:=λi=>i==3||i==4||i==5||i==6||i==7||i==8||i==9||i==12
def wL:FS:=aN8 10 3 "Loom" wK 1 (aA bQ aL) (aNd 11 5 5 (bT d_ ag) (bK (bZ ae 12 (zM (aA (bN (aA bJ (aA bJ aL))) aL)) ae) (bK (QC 1 (tg1 13) (bK (Q0 12 14) (sIf (bTB (b2 inX tR j5)) (aBp 5 5 (b2 getD j5 tR) yC) (aBm 12 (xLR (l_ "Loom" "lay" RC 3 10 3 (aA tR (aA yC aL)))))))) (aBq 11 5 5 (bK (tV (U_ 1 d_) (tgN [15,16]) (aNf (l_ "Loom" "serve" uF 3 10 3 (aA (bPu (bN (aA bJ (aA wY aL)))) (aA (bPu (b2 getD j5 W6)) aL))))) (gR (aK (bY 3 fQ) (aA (aGa 3 (vA "Loom" "pieces" jB)) (aA (aGa 4 (vA "Loom" "ties" jB)) (aA bJ aL)))) ae))))))
def lD:aa D->Res D:=fnS 3 17 wL
abbrev vP:br:=top 7
noncomputable def YB:af->aq:=λi=>ag
def YC:FS:=bK (bZ ag 3 (b2 getD eO d9) ag) (gR (aK (bY 3 lD) (aA bQ (aA (b2 getD eO kE) (aA (b2 KY (aNh cV (mQ d_) mR) (aNh cV mR (mQ d_))) aL)))) ae)
def mD:aa D->Res D:=fnS 3 4 YC
abbrev vQ:br:=top 8
noncomputable def YD:af->aq:=λi=>i==2||i==3
def YF:FS:=bK (bZ ae 2 (nJ (aA (bN (aA bW (aA bQ aL))) (aA (bN (aA d9 (aA bQ aL))) aL))) ae) (bK (bZ ae 3 (nJ (aA (bN (aA (bN (aA bW (aA bJ aL))) (aA (bN (aA bJ (aA bJ aL))) aL))) (aA (bN (aA (bN (aA d9 (aA bJ aL))) (aA (bN (aA bJ (aA bW aL))) aL))) aL))) ae) (bK (tV (fX (aA bW (aA (b2 (bA .add) eO bW) aL)) vD) (tg1 4) (bK (bZ ag 5 (b2 (bA .add) fD d9) ae) (bK (v_ 2 (bN (aA d8 (aA (bC (.str "copy")) aL)))) (aN0 3 (nJ (aA (bN (aA (bN (aA d8 (aA bJ aL))) (aA (bN (aA bJ (aA (b2 (bA .add) fD bW) aL))) aL))) (aA (bN (aA (bN (aA d8 (aA bW aL))) (aA (bN (aA bW (aA fD aL))) aL))) (aA (bN (aA (bN (aA d8 (aA d9 aL))) (aA (bN (aA d9 (aA fD aL))) aL))) aL)))))))) (gR (aK (bY 3 fQ) (aA d_ (aA cV (aA bJ aL)))) ae)))
def jW:aa D->Res D:=fnS 2 6 YF
abbrev mF:br:=top 9
noncomputable def YG:af->aq:=λi=>ag
def YH:FS:=bK (bZ ag 1 (eQ 3 (fX (aA bW (aA (b2 (bA .add) bQ bW) aL)) vD) iV dX (bN (aA cV (aA (bC (.str "drop")) aL))) ag) ae) (bK (bZ ag 2 (eQ 3 (fX (aA bW (aA (b2 (bA .add) bQ bW) aL)) vD) iV dX (bN (aA (bN (aA cV (aA bJ aL))) (aA (bN (aA bJ (aA (b2 (bA .sub) cV bW) aL))) aL))) ag) ae) (gR (aK (bY 3 fQ) (aA eO (aA d_ (aA bJ aL)))) ae))
def jX:aa D->Res D:=fnS 1 3 YH
abbrev sE:br:=top 6
noncomputable def YJ:af->aq:=λi=>i==2
def YK:FS:=bK (bZ ag 1 (aK (bY 1 p_) (aA bQ aL)) ae) (bK (bZ ae 2 (eQ 6 (bT (b2 getD bQ kE) ag) iV dX (bN (aA (b2 getD fP bJ) (aA (b2 getD fP bW) (aA (aK (bY 3 mD) (aA bQ (aA fP (aA (b2 getD eO (b2 getD fP bW)) aL)))) aL)))) ag) ae) (bK (tV (bT (b2 getD bQ bW) ag) (tgN [3,4,5]) (bK (v_ 2 (bN (aA (bC (.str "copy")) (aA cV (aA (aK (bY 2 jW) (aA cV (aA (aK dG (aA d8 aL)) aL))) aL))))) (v_ 2 (bN (aA (bC (.str "drop")) (aA cV (aA (aK (bY 1 jX) (aA (aK dG (aA d8 aL)) aL)) aL))))))) (QB 2)))
def sG:aa D->Res D:=fnS 1 6 YK
abbrev oK:br:=top 20
noncomputable def L_:af->aq:=λi=>ag
def MF:FS:=gR (E_ (b1 (kI .int) bQ) (aM5 (b1 (kI .bool) bQ))) ae
def dN:aa D->Res D:=fnS 1 1 MF
abbrev vR:br:=top 21
noncomputable def YL:af->aq:=λi=>ag
def YM:FS:=gR (E_ (b1 (kI .tuple) bQ) (E_ (b2 (b_ .eq) (aK dG (aA bQ aL)) d9) (E_ (aK (bY 1 dN) (aA (b2 getD bQ bJ) aL)) (aK (bY 1 dN) (aA (b2 getD bQ bW) aL))))) ae
def iK:aa D->Res D:=fnS 1 1 YM
abbrev iZ:br:=top 22
noncomputable def MJ:af->aq:=λi=>i==6
def wM:FS:=bK (sIf (bOr (oY (bTr (b1 (kI .tuple) bQ))) (bTB (b2 (b_ .ne) (aK dG (aA bQ aL)) kE))) (gR (bC .non) ae) j6) (bK (sIf (bOr (oY (bTr (b1 (kI .tuple) (b2 getD bQ bJ)))) (bOr (oY (bTr (b1 (kI .tuple) (b2 getD bQ bW)))) (oY (bTr (aK (bY 1 dN) (aA (b2 getD bQ d9) aL)))))) (gR (bC .non) ae) j6) (bK (bZ ag 3 (eQ 9 (fX (aA d_ aL) lO) iV dX (bN (aA bJ (aA nY aL))) ag) ae) (bK (bZ ag 4 bJ ae) (bK (tV (bT (b2 getD bQ bJ) ag) (tg1 5) (bK (sIf (bOr (oY (bTr (b1 (kI .tuple) d8))) (bOr (bTB (b2 (b_ .ne) (aK dG (aA d8 aL)) d9)) (bOr (oY (bTr (aK (bY 1 dN) (aA (b2 getD d8 bJ) aL)))) (bTB (b2 (b_ (.ord .le)) (b2 getD d8 bJ) fD))))) (gR (bC .non) ae) j6) (bK (sIf (bOr (oY (bTr (b1 (kI .str) (b2 getD d8 bW)))) (bTB (b2 (b_ .notin) (b2 getD d8 bW) eO))) (gR (bC .non) ae) j6) (bK (bZ ag 4 (b2 getD d8 bJ) ag) (bZ ag 3 (b2 (bA .add) cV (eQ 9 (fX (aA (b2 (bA .add) (b2 getD eO (b2 getD d8 bW)) bW) aL) lO) iV dX (bN (aA fD (aA nY aL))) ag)) ae))))) (bK (bZ ae 6 (bC (.dct [])) ae) (bK (tV (bT (b2 getD bQ bW) ag) (tg1 7) (bK (sIf (bOr (oY (bTr (b1 (kI .tuple) eE))) (bOr (bTB (b2 (b_ .ne) (aK dG (aA eE aL)) d9)) (bOr (oY (bTr (aK (bY 1 iK) (aA (b2 getD eE bJ) aL)))) (oY (bTr (aK (bY 1 iK) (aA (b2 getD eE bW) aL))))))) (gR (bC .non) ae) j6) (bK (sIf (bOr (bTB (b2 (b_ (.ord .ge)) (b2 getD eE bJ) (b2 getD eE bW))) (bOr (bTB (b2 inX (b2 getD eE bJ) fP)) (bTB (b2 inX (b2 getD eE bW) fP)))) (gR (bC .non) ae) j6) (bK (zN 6 (b2 getD eE bJ) (b2 getD eE bW)) (zN 6 (b2 getD eE bW) (b2 getD eE bJ)))))) (bK (sIf (bOr (bTB (b2 (b_ .ne) (aK aKy (aA fP aL)) (aK dG (aA cV aL)))) (bTB (b2 (b_ .ne) (aK aA7 (aA (b2 getD bQ bW) aL)) (aK uA (aA (b2 getD bQ bW) aL))))) (gR (bC .non) ae) j6) (bK (QC 3 (tg1 8) (sIf (bTB (b2 (b_ .notin) nA fP)) (gR (bC .non) ae) j6)) (QB 6)))))))))
def eV:aa D->Res D:=fnS 3 9 wM
abbrev mZ:br:=top 24
noncomputable def HQ:af->aq:=λi=>ag
def HR:FS:=bK (bZ ag 3 (b2 getD d_ eO) ag) (bK (bZ ag 4 (aK (bY 3 eV) (aA bQ (aA d_ (aA (b2 (bA .add) cV d9) aL)))) ae) (bK (sIf (bOr (bTB (b2 (b_ .isN) fD (bC .non))) (bOr (bTB (b2 (b_ .ne) (b2 getD bQ d9) bJ)) (bTB (b2 (b_ .ne) (aK dG (aA (b2 getD bQ bJ) aL)) (b2 (bA .add) cV d9))))) (gR (bC (.bl ag)) ae) j6) (bK (bZ ag 5 (b1 yW (b2 getD bQ bJ)) ae) (bK (bZ ag 6 (b2 getD fD (bN (aA bJ (aA bJ aL)))) ag) (bK (bZ ag 7 (b2 getD fD (bN (aA bJ (aA bW aL)))) ag) (bK (sIf (bOr (bTB (b2 (b_ .eq) (b2 getD fP bJ) bJ)) (bOr (bTB (b2 (b_ .eq) (b2 getD eE bJ) bJ)) (bOr (bTB (b2 (b_ .eq) (b2 getD fP bJ) (b2 getD eE bJ))) (bOr (bTB (b2 (b_ .ne) (b2 getD fP bW) bJ)) (bTB (b2 (b_ .ne) (b2 getD eE bW) bJ)))))) (gR (bC (.bl ag)) ae) j6) (bK (sIf (bOr (bTB (b2 (b_ .ne) (b2 getD d8 (b2 getD fP bJ)) eO)) (bTB (b2 (b_ .ne) (b2 getD d8 (b2 getD eE bJ)) eO))) (gR (bC (.bl ag)) ae) j6) (bK (tV (fX (aA bW (aA (b2 (bA .add) cV bW) aL)) vD) (tg1 8) (bK (bZ ag 9 (b2 getD fD (bN (aA bJ (aA (b2 (bA .add) bW nA) aL)))) ag) (bK (sIf (bOr (bTB (b2 (b_ .eq) (b2 getD nY bJ) bJ)) (bOr (bTB (b2 (b_ .ne) (b2 getD nY bW) bJ)) (bTB (b2 (b_ .ne) (b2 getD d8 (b2 getD nY bJ)) (bC (.str "copy")))))) (gR (bC (.bl ag)) ae) j6) (sIf (bOr (bTB (b2 (b_ .ne) (b2 getD fD (bN (aA (b2 getD nY bJ) (aA bW aL)))) (bN (aA (b2 getD fP bJ) (aA nA aL))))) (bTB (b2 (b_ .ne) (b2 getD fD (bN (aA (b2 getD nY bJ) (aA d9 aL)))) (bN (aA (b2 getD eE bJ) (aA nA aL)))))) (gR (bC (.bl ag)) ae) j6)))) (gR (bC (.bl ae)) ae)))))))))
def dI:aa D->Res D:=fnS 3 10 HR
abbrev oM:br:=top 25
noncomputable def MK:af->aq:=λi=>ag
def MN:FS:=bK (bZ ag 3 (b2 getD d_ eO) ag) (bK (bZ ag 4 (aK (bY 3 eV) (aA bQ (aA d_ (aA cV aL)))) ae) (bK (sIf (bOr (bTB (b2 (b_ .isN) fD (bC .non))) (bOr (bTB (b2 (b_ .ne) (b2 getD bQ d9) bJ)) (bTB (b2 (b_ .ne) (aK dG (aA (b2 getD bQ bJ) aL)) cV)))) (gR (bC (.bl ag)) ae) j6) (bK (bZ ag 5 (b1 yW (b2 getD bQ bJ)) ae) (bK (tV (fX (aA cV aL) lO) (tg1 6) (bK (bZ ag 7 (b2 getD fD (bN (aA bJ (aA fP aL)))) ag) (sIf (bOr (bTB (b2 (b_ .eq) (b2 getD eE bJ) bJ)) (bOr (bTB (b2 (b_ .ne) (b2 getD eE bW) bJ)) (bTB (b2 (b_ .ne) (b2 getD d8 (b2 getD eE bJ)) (bC (.str "drop")))))) (gR (bC (.bl ag)) ae) j6))) (gR (bC (.bl ae)) ae)))))
def dY:aa D->Res D:=fnS 3 8 MN
abbrev HS:br:=top 26
noncomputable def o_law:af->aq:=λi=>ag
def aQr:FS:=bK (bZ ag 1 (aK (bY 1 iT) (aA bQ aL)) ae) (bK (bZ ag 2 (aK (bY 1 lC) (aA eO aL)) ae) (bK (bZ ag 3 (aK (bY 1 sG) (aA eO aL)) ae) (bK (bZ ag 4 (aK dG (aA (b2 getD eO kE) aL)) ae) (bK (sIf (bOr (oY (bTr (b1 (kI .list) cV))) (bTB (b2 (b_ .ne) (aK dG (aA cV aL)) (b2 (bA .add) fD (b2 lJ d9 (aK dG (aA (b2 getD eO bW) aL))))))) (gR (bC (.bl ag)) ae) j6) (bK (tV (aG7 (b2 getD eO bW)) (tgN [5,6]) (bK (bZ ag 7 (b2 getD cV (b2 (bA .add) fD (b2 lJ d9 d8))) ag) (bK (bZ ag 8 (b2 getD cV (b2 (bA .add) (b2 (bA .add) fD (b2 lJ d9 d8)) bW)) ag) (bK (sIf (bOr (oY (bTr (b1 (kI .tuple) eE))) (bOr (bTB (b2 (b_ .ne) (aK dG (aA eE aL)) kE)) (bOr (oY (bTr (b1 (kI .tuple) nA))) (bTB (b2 (b_ .ne) (aK dG (aA nA aL)) kE))))) (gR (bC (.bl ag)) ae) j6) (bK (sIf (bOr (bTB (b2 (b_ .ne) (QX eE mR (mQ d9)) (bN (aA (bC (.str "copy")) (aA (b2 getD fP bJ) aL))))) (bTB (b2 (b_ .ne) (QX nA mR (mQ d9)) (bN (aA (bC (.str "drop")) (aA (b2 getD fP bJ) aL)))))) (gR (bC (.bl ag)) ae) j6) (sIf (bOr (oY (bTr (aK (bY 3 dI) (aA (b2 getD eE d9) (aA (b2 getD fP bJ) (aA d_ aL)))))) (oY (bTr (aK (bY 3 dY) (aA (b2 getD nA d9) (aA (b2 getD fP bJ) (aA d_ aL))))))) (gR (bC (.bl ag)) ae) j6)))))) (gR (bC (.bl ae)) ae))))))
def YQ:aa D->Res D:=fnS 1 9 aQr
noncomputable abbrev yZ:aa Str:=["script","k","cell","mixed"]
noncomputable abbrev y_:aa Str:=["script","i","letters","draw","pad","place","tail"]
noncomputable abbrev jT:aa Str:=["script","many","makers","j","first","i","draw","size","things"]
noncomputable abbrev jU:aa Str:=["script","many","takers","i","draw","more","kinds"]
noncomputable abbrev cF:aa Str:=["script","at","book","known","kind","most","least","words","wanted","here","draw","fit","own","able","maker","taker","leaf"]
noncomputable abbrev lE:aa Str:=["script","book","rules","taker","maker","kinds","draw","names","known","words","at"]
noncomputable abbrev iU:aa Str:=["script","many","book","kinds"]
noncomputable abbrev wN:aa Str:=["program","stock","maker","taker"]
noncomputable abbrev CW:aa Str:=["program","stock","name","kind","parts","taken","more"]
noncomputable abbrev mG:aa Str:=["pieces","ties","rings","rows"]
noncomputable abbrev CZ:aa Str:=["program","heads","name","kind","parts","taken","more"]
noncomputable abbrev i_:aa Str:=["program","words","variables","#0","#1","#2","#3","#4","#5","#6","loom","places","waiting","word","place","k","name"]
noncomputable abbrev C_:aa Str:=["program","rule","parts","names"]
noncomputable abbrev DG:aa Str:=["maker","parts","pieces","ties","j","number"]
noncomputable abbrev jY:aa Str:=["parts","pieces","ties"]
noncomputable abbrev sI:aa Str:=["program","sides","found","name","kind","parts"]
noncomputable abbrev wO:aa Str:=["found"]
noncomputable abbrev DK:aa Str:=["end"]
noncomputable abbrev gP:aa Str:=["net","stock","border","ends","last","piece","mates","tie","end"]
noncomputable abbrev uX:aa Str:=["net","name","stock","many","mates","kinds","one","two","j","at"]
noncomputable abbrev wQ:aa Str:=["net","name","stock","many","mates","kinds","j","at"]
noncomputable abbrev aNj:aa Str:=["script","program","stock","rules","own","k","maker","copy","drop"]
theorem MP:cC yZ ["script","k"] (aN uB):=by refine⟨rfl,rfl,rfl,?_,rfl,?_,?_⟩<;>decide +kernel
theorem MT:cC y_ ["script","i"] (aN uC):=by refine⟨rfl,rfl,rfl,?_,rfl,?_,?_⟩<;>decide +kernel
theorem zQ:cC jT ["script","many"] (aN jO):=by refine⟨rfl,rfl,rfl,?_,rfl,?_,?_⟩<;>decide +kernel
theorem zR:cC jU ["script","many"] (aN jQ):=by refine⟨rfl,rfl,rfl,?_,rfl,?_,?_⟩<;>decide +kernel
theorem HW:cC cF ["script","at","book","known","kind","most","least"] (aN cR):=by refine⟨rfl,rfl,rfl,?_,rfl,?_,?_⟩<;>decide +kernel
theorem HX:cC lE ["script","book"] (aN lA):=by refine⟨rfl,rfl,rfl,?_,rfl,?_,?_⟩<;>decide +kernel
theorem zA:cC iU ["script"] (aN iR):=by refine⟨rfl,rfl,rfl,?_,rfl,?_,?_⟩<;>decide +kernel
theorem HY:cC wN ["program"] (aN oJ):=by refine⟨rfl,rfl,rfl,?_,rfl,?_,?_⟩<;>decide +kernel
theorem RD:cC CW ["program"] (aN vN):=by refine⟨rfl,rfl,rfl,?_,rfl,?_,?_⟩<;>decide +kernel
theorem RG:cC mG ["pieces","ties","rings"] (aN q_):=by refine⟨rfl,rfl,rfl,?_,rfl,?_,?_⟩<;>decide +kernel
theorem RJ:cC CZ ["program"] (aN vO):=by refine⟨rfl,rfl,rfl,?_,rfl,?_,?_⟩<;>decide +kernel
theorem aJj:cC (["self","program"]:aa Str) ["self","program"] (aN wJ):=by refine⟨rfl,rfl,rfl,?_,rfl,?_,?_⟩<;>decide +kernel
theorem M3:cC (["self","name","#0","#1","number"]:aa Str) ["self","name"] (aN gG):=by refine⟨rfl,rfl,rfl,?_,rfl,?_,?_⟩<;>decide +kernel
theorem aNk:cC (["self","word","place","#0","#1","number","count"]:aa Str) ["self","word","place"] (aN HN):=by refine⟨rfl,rfl,rfl,?_,rfl,?_,?_⟩<;>decide +kernel
theorem aEs:cC (["self","giver","places","#0","#1","place","number"]:aa Str) ["self","giver","places"] (aN uE):=by refine⟨rfl,rfl,rfl,?_,rfl,?_,?_⟩<;>decide +kernel
theorem H_:cC i_ ["program","words","variables"] (aN dC):=by refine⟨rfl,rfl,rfl,?_,rfl,?_,?_⟩<;>decide +kernel
theorem RK:cC C_ ["program","rule","parts"] (aN vP):=by refine⟨rfl,rfl,rfl,?_,rfl,?_,?_⟩<;>decide +kernel
theorem RL:cC DG ["maker","parts"] (aN vQ):=by refine⟨rfl,rfl,rfl,?_,rfl,?_,?_⟩<;>decide +kernel
theorem RM:cC jY ["parts"] (aN mF):=by refine⟨rfl,rfl,rfl,?_,rfl,?_,?_⟩<;>decide +kernel
theorem RN:cC sI ["program"] (aN sE):=by refine⟨rfl,rfl,rfl,?_,rfl,?_,?_⟩<;>decide +kernel
theorem IK:cC wO ["found"] (aN oK):=by refine⟨rfl,rfl,rfl,?_,rfl,?_,?_⟩<;>decide +kernel
theorem RP:cC DK ["end"] (aN vR):=by refine⟨rfl,rfl,rfl,?_,rfl,?_,?_⟩<;>decide +kernel
theorem IV:cC gP ["net","stock","border"] (aN iZ):=by refine⟨rfl,rfl,rfl,?_,rfl,?_,?_⟩<;>decide +kernel
theorem zT:cC uX ["net","name","stock"] (aN mZ):=by refine⟨rfl,rfl,rfl,?_,rfl,?_,?_⟩<;>decide +kernel
theorem IW:cC wQ ["net","name","stock"] (aN oM):=by refine⟨rfl,rfl,rfl,?_,rfl,?_,?_⟩<;>decide +kernel
theorem aNl:cC aNj ["script"] (aN HS):=by refine⟨rfl,rfl,rfl,?_,rfl,?_,?_⟩<;>decide +kernel
section
variable [KFrag] {P:bS} {w:bm} {K:Frag} {mg:Str->au aj} {base:aI} {fad C:ak} {fd:eu} (hK:KFrag.K=K) (B:Bt mg)
include hK B
theorem I_(F:Fun K "_law_draw" "_law_draw" uB fad fd)(hm:mg "_law_draw"=ab (.ref fad)):cX P w K mg base 1 "_law_draw" 2 aP:=by
 have sc:=MP;have nd:=sc.nd;refine gM (ps:=["script","k"]) (N:=yZ) (k:=0) F hm (F.binds λ_ _ _ _ _ _ us hl=>by obtain⟨_,_,rfl⟩:=l2 hl;rfl) sc Q7 0x4 0x4 λcdv A outer s H E hr=>?_
 have hu:=wB hr;exact aH (cA aF) (aH (fZ (bM (XH hu) (bD (cN hK) 0x3 B.len cO (aB aC aG)) aF (bO _)) (aR (cA (bB dF (aX aC (bB dF aC (bD (cN hK) 0x3 B.len cO (aB aC aG)))) aF))) c7) (aH (cA (bB dF (bB gC (bB bV (bB bV aC aF) (bB gC aF (bB fY aC (bD (Q5 0x3) 0x3 B.max U3 (aB aF (aB (bD (cN hK) 0x3 B.len cO (aB aC aG)) aG)))))) aF) aF)) (aR (cT (bB dF (bB gC aC aC) aF)))))
theorem JB(p4:cX P w K mg base 1 "_law_draw" 2 aP)(F:Fun K "_law_word" "_law_word" uC fad fd)(hm:mg "_law_word"=ab (.ref fad)):cX P w K mg base 2 "_law_word" 2 aQ:=by
 have sc:=MT;have nd:=sc.nd;refine gM (ps:=["script","i"]) (N:=y_) (k:=1) F hm (F.binds λ_ _ _ _ _ _ us hl=>by obtain⟨_,_,rfl⟩:=l2 hl;rfl) sc Q8 0x4 0x4 λcdv A outer s H E hr=>?_
 have hu:=wB hr;exact aH (cA iC) (aH (fZ (PW.pt (aAo (bM (KH hu) aC (bH (aB aF (aB aF aG))) 0x5) (QM (bM (tD hu) (bB dF (aZ p4 hr 0x4 0x3 (aB aC (aB aF aG))) aF) aF (bO _))))) (aR (cT (bB bV (aX (nZ (aB iC (aB iC aG))) (bB fY aC aF)) (aX aC (bB dF (aZ p4 hr 0x4 0x3 (aB aC (aB aF aG))) aF))))) c7) (aH (cA (aZ p4 hr 0x4 0x3 (aB aC (aB aF aG)))) (aH (cA (aX (nZ (aB (aX aC (bB dF aC aF)) (aB (aX iC (bB dF (bB fY aC aF) aF)) aG))) (bB dF (bB fY aC aF) aF))) (aH (cA (bB dF (aZ p4 hr 0x4 0x3 (aB aC (aB aF aG))) aF)) (aH (cA (bB dF (aZ p4 hr 0x4 0x3 (aB aC (aB aF aG))) (bB T6 aF aC))) (aH (fZ (bM (tD hu) (bB dF (bB fY (aZ p4 hr 0x4 0x3 (aB aC (aB aF aG))) aF) aF) aF (bO _)) (aR (cA (bB dF (aZ p4 hr 0x4 0x3 (aB aC (aB (bB bV aF aC) aG))) (bB T6 aF aC)))) c7) (aR (cT (bB bV (bB bV (bB gC aC aC) (aX aC (bB dF (bB bV aC (aZ p4 hr 0x4 0x3 (aB aC (aB aF aG)))) aF))) (bB gC aC aC))))))))))
theorem zB(p4:cX P w K mg base 1 "_law_draw" 2 aP)(p6:cX P w K mg base 2 "_law_word" 2 aQ)(F:Fun K "_law_makers" "_law_makers" jO fad fd)(hm:mg "_law_makers"=ab (.ref fad)):cX P w K mg base 3 "_law_makers" 2 jP:=by
 have sc:=zQ;have nd:=sc.nd;refine gM (ps:=["script","many"]) (N:=jT) (k:=2) F hm (F.binds λ_ _ _ _ _ _ us hl=>by obtain⟨_,_,rfl⟩:=l2 hl;rfl) sc HD 0x4 0x4 λcdv A outer s H E hr=>?_
 have hu:=wB hr;exact aH (cA (nZ aG)) (aH (gK dP rfl (mW 0x3 B.range (aB aC aG)) (gB rfl) (bF sc.nd rfl 0x0) (aH (cA (bH aG)) (aH (fZ (PW.pt (aAo (bM (XH hu) aC aF (bO _)) (QM (bM (XH hu) (bB dF (bB fY (aZ p4 hr 0x4 0x3 (aB aC (aB aF aG))) aC) aF) aF (bO _))))) (aR (cA (bH (aB (aZ p6 hr 0x4 0x3 (aB aC (aB aF aG))) aG)))) c7) (aH (n8 rfl rfl 0x0 (bH (aB (aZ p6 hr 0x4 0x3 (aB aC (aB (bB bV aF (bB gC aF aC)) aG))) (aB (aZ p6 hr 0x4 0x3 (aB aC (aB aC aG))) (aB aC aG))))) (aR (gK dP rfl (tY 0x3 B.range (aB aF (aB (bB bV aF (bB dF (aZ p4 hr 0x4 0x3 (aB aC (aB (bB bV aF (bB gC aF aC)) aG))) aF)) aG))) (gB rfl) (bF sc.nd rfl 0x0) (aH (cA (aZ p4 hr 0x4 0x3 (aB aC (aB (bB bV (bB bV aF (bB gC aF aC)) aC) aG)))) (aH (cA (aX (nZ (aB aF (aB (bB dF aC aF) aG))) (bB T6 aC aF))) (aH (cA (fH iM 0x3 B.tuple dW (aB (iQ (ownN:=(["p"]:aa Str)) (show cZ jT (aN jO) _ (["p"]:aa Str) from by refine⟨rfl,?_,?_,?_,?_,?_,?_⟩<;>decide +kernel) rfl rfl rfl (mW 0x3 B.range (aB aC aG)) (eY 9) (λ_=>bF (show((eg (gZ (["p"]:aa Str)) jT++(["p"]:aa Str)):aa Str).Nodup from by decide +kernel) rfl 0x0) (λ_=>aZ p6 hr 0x4 0x3 (aB aC (aB (bB dF (bB fY aC (bB bV aF (bB gC aF aC))) aC) aG))) (λ_=>rfl)) aG))) (aR (n8 rfl rfl 0x0 (bH (aB (aZ p6 hr 0x4 0x3 (aB aC (aB (bB bV (bB bV aF (bB gC aF aC)) aC) aG))) (aB (aZ p6 hr 0x4 0x3 (aB aC (aB aC aG))) (aB aC aG))))))))))))))) (aR (cT (fH iM 0x3 B.tuple dW (aB aC aG)))))
theorem zE(p4:cX P w K mg base 1 "_law_draw" 2 aP)(p6:cX P w K mg base 2 "_law_word" 2 aQ)(F:Fun K "_law_takers" "_law_takers" jQ fad fd)(hm:mg "_law_takers"=ab (.ref fad)):cX P w K mg base 3 "_law_takers" 2 jR:=by
 have sc:=zR;have nd:=sc.nd;refine gM (ps:=["script","many"]) (N:=jU) (k:=2) F hm (F.binds λ_ _ _ _ _ _ us hl=>by obtain⟨_,_,rfl⟩:=l2 hl;rfl) sc HH 0x4 0x4 λcdv A outer s H E hr=>?_
 have hu:=wB hr;exact aH (cA (nZ aG)) (aH (gK dP rfl (mW 0x3 B.range (aB (bB dF (aZ p4 hr 0x4 0x3 (aB aC (aB aF aG))) aF) aG)) (gB rfl) (bF sc.nd rfl 0x0) (aH (cA (aZ p4 hr 0x4 0x3 (aB aC (aB (bB bV aF aC) aG)))) (aH (cA (fH iM 0x3 B.tuple dW (aB (iQ (ownN:=(["p"]:aa Str)) (show cZ jU (aN jQ) _ (["p"]:aa Str) from by refine⟨rfl,?_,?_,?_,?_,?_,?_⟩<;>decide +kernel) rfl rfl rfl (mW 0x3 B.range (aB (bB dF (bB fY aC aF) aF) aG)) (eY 7) (λ_=>bF (show((eg (gZ (["p"]:aa Str)) jU++(["p"]:aa Str)):aa Str).Nodup from by decide +kernel) rfl 0x0) (λ_=>aZ p6 hr 0x4 0x3 (aB aC (aB (bB dF (bB fY aC (bB bV aF (bB gC aF aC))) aC) aG))) (λ_=>rfl)) aG))) (aH (cA (bH (aB (aZ p6 hr 0x4 0x3 (aB aC (aB (bB dF aC aC) aG))) (aB (aZ p6 hr 0x4 0x3 (aB aC (aB (bB dF (bB fY aC aF) aC) aG))) aG)))) (aR (n8 rfl rfl 0x0 (bB yV (bB yV (bH (aB (aZ p6 hr 0x4 0x3 (aB aC (aB (bB bV aF aC) aG))) aG)) aC) (bH (aB aC aG))))))))) (aR (cT (fH iM 0x3 B.tuple dW (aB aC aG)))))
theorem zU(p4:cX P w K mg base 1 "_law_draw" 2 aP){T:ak}{its:ay aj}(F:aQ5 K "_law_words" "_law_words" cR fad fd T its):v6 P w K mg base CX0 2 fad fd ["script","at","book","known","kind","most","least"] (spD fK 7):=by
 have sc:=HW;have nd:=sc.nd;refine aMs (ps:=["script","at","book","known","kind","most","least"]) (N:=cF) (k:=1) F sc K_ 0x4 λcdv A outer s H E hr=>?_
 have hu:=wB hr
 exact aH (cA (nZ aG)) (aH (cA (oF (aB (bH (aB aC (aB lR aG))) aG))) (aH (aMt dP (bM (XH hu) (bD (cN hK) 0x3 B.len cO (aB aC aG)) aF (bO _)) (aH (aIm rfl rfl 0x0 sc.nd rfl 0x0 rfl aF) (aH (cA (aZ p4 hr 0x4 0x3 (aB aC (aB (bB bV aC (bD (cN hK) 0x3 B.len cO (aB aC aG))) aG)))) (aH (aE9 (show cZ cF (aN cR) _ (["x"]:aa Str) from by refine⟨rfl,?_,?_,?_,?_,?_,?_⟩<;>decide +kernel) rfl rfl rfl 0x0 (λ_=>bF (show((eg (gZ (["x"]:aa Str)) cF++(["x"]:aa Str)):aa Str).Nodup from by decide +kernel) rfl 0x0) (λ_=>bM (tD hu) (aX aC aC) (aX aC aF) (bO _)) (λ_=>aC) (λ_=>rfl) rfl sc.nd rfl 0x0 (iS rfl) 0x5) (aH (CK (ownN:=(["x"]:aa Str)) (show cZ cF (aN cR) _ (["x"]:aa Str) from by refine⟨rfl,?_,?_,?_,?_,?_,?_⟩<;>decide +kernel) rfl rfl rfl (dZ (aX aC aF)) (eY 17) (λ_=>bF (show((eg (gZ (["x"]:aa Str)) cF++(["x"]:aa Str)):aa Str).Nodup from by decide +kernel) rfl 0x0) (λ_=>bM (tD hu) (aX aC aF) (aX aC aF) (bO _)) (λ_=>aC) (λ_=>rfl) rfl sc.nd rfl 0x0 (iS rfl) 0x5) (aH (CK (ownN:=(["x"]:aa Str)) (show cZ cF (aN cR) _ (["x"]:aa Str) from by refine⟨rfl,?_,?_,?_,?_,?_,?_⟩<;>decide +kernel) rfl rfl rfl (dZ (aX aC aF)) (eY 17) (λ_=>bF (show((eg (gZ (["x"]:aa Str)) cF++(["x"]:aa Str)):aa Str).Nodup from by decide +kernel) rfl 0x0) (λ_=>bM (tD hu) (aX aC aF) (aX aC aF) (bO _)) (λ_=>aC) (λ_=>rfl) rfl sc.nd rfl 0x0 (iS rfl) 0x5) (aR (fZ (PW.pt (aAo (bM (aMd hu) (bD (cN hK) 0x3 B.len cO (aB aC aG)) aC (bO _)) (QM (bM (tD hu) (bD (cN hK) 0x3 B.len cO (aB aC aG)) aF (bO _))))) (aH (n8 rfl rfl 0x0 (aX (aX aC aF) aF)) (aR (cA (oF (aB (bH (aB (aX (aX (aX aC aF) aF) aF) (aB lR aG))) aG))))) (aR (fZ (PW.pt (fC (jE (aX aC aF)) (fC (bM (aMe hu) (bB bV (bD (cN hK) 0x3 B.len cO (aB aC aG)) (bD (cN hK) 0x3 B.len cO (aB aC aG))) aC (bO _)) (gJ (bM (tD hu) (bB dF aC aF) aF (bO _)))))) (aH (n8 rfl rfl 0x0 (aX (bB bV aC (oF (aB (aX (aX aC aF) aF) aG))) (bB dF (bB fY aC aF) (bD (Q5 0x3) 0x3 B.max U3 (aB aF (aB (bD (cN hK) 0x3 B.len cO (aB aC aG)) aG)))))) (aR (fZ (bM (tD hu) (bD (cN hK) 0x3 B.len cO (aB aC aG)) aF (bO _)) (aR (cA (bB bV (iQ (ownN:=(["x"]:aa Str)) (show cZ cF (aN cR) _ (["x"]:aa Str) from by refine⟨rfl,?_,?_,?_,?_,?_,?_⟩<;>decide +kernel) rfl rfl rfl (dZ (aX (aX aC aF) aF)) (eY 17) (λ_=>bF (show((eg (gZ (["x"]:aa Str)) cF++(["x"]:aa Str)):aa Str).Nodup from by decide +kernel) rfl 0x0) (λ_=>bH (aB aC (aB lR aG))) (λ_=>rfl)) aC))) c7))) (aR (fZ (PW.pt (fC (bM (aMd hu) (bB dF aC aF) aF (bO _)) (gJ (bM (tD hu) (bD (cN hK) 0x3 B.len cO (aB aC aG)) aF (bO _))))) (aH (cA (aX aC (bB dF (bB fY aC aF) (bD (cN hK) 0x3 B.len cO (aB aC aG))))) (aH (n8 rfl rfl 0x0 (aX aC aF)) (aR (cA (bB bV (iQ (ownN:=(["x"]:aa Str)) (show cZ cF (aN cR) _ (["x"]:aa Str) from by refine⟨rfl,?_,?_,?_,?_,?_,?_⟩<;>decide +kernel) rfl rfl rfl (dZ (aX aC aF)) (eY 17) (λ_=>bF (show((eg (gZ (["x"]:aa Str)) cF++(["x"]:aa Str)):aa Str).Nodup from by decide +kernel) rfl 0x0) (λ_=>bH (aB aC (aB lR aG))) (λ_=>rfl)) aC))))) (aH (cA (aX aC (bB dF (bB fY aC aF) (bD (cN hK) 0x3 B.len cO (aB aC aG))))) (aH (n8 rfl rfl 0x0 (aX aC aF)) (aH (cA (J5 (aAm (XH hu) (bD (aIl hK) 0x3 B.len cO (aB aC aG)) aF (bO _)) (aAn (aAm (XH hu) (bB dF (bB fY aC aF) aF) aF (bO _))))) (aR (cA (bB bV (bB bV (oF (aB (bH (aB (aX aC aF) (aB aC aG))) aG)) (iQ (ownN:=(["x"]:aa Str)) (show cZ cF (aN cR) _ (["x"]:aa Str) from by refine⟨rfl,?_,?_,?_,?_,?_,?_⟩<;>decide +kernel) rfl rfl rfl (dZ (aX aC aF)) (eY 17) (λ_=>bF (show((eg (gZ (["x"]:aa Str)) cF++(["x"]:aa Str)):aa Str).Nodup from by decide +kernel) rfl 0x0) (λ_=>bH (aB aC (aB lR aG))) (λ_=>rfl))) aC)))))))))))))))))) (aR (cT (fH iM 0x3 B.tuple dW (aB aC aG))))))
theorem zV(p4:cX P w K mg base 1 "_law_draw" 2 aP)(p6:cX P w K mg base 2 "_law_word" 2 aQ)(qH:aQ6 P w K mg base 2 "_law_words" "least" 6 (.int 0) fK)(F:Fun K "_law_rules" "_law_rules" lA fad fd)(hm:mg "_law_rules"=ab (.ref fad)):cX P w K mg base 3 "_law_rules" 2 lB:=by
 have sc:=HX;have nd:=sc.nd;refine gM (ps:=["script","book"]) (N:=lE) (k:=2) F hm (F.binds λ_ _ _ _ _ _ us hl=>by obtain⟨_,_,rfl⟩:=l2 hl;rfl) sc LC 0x4 0x4 λcdv A outer s H E hr=>?_
 have hu:=wB hr;exact aH (cA (nZ aG)) (aH (gK dP rfl (dZ (aX aC aF)) (gB rfl) (bF sc.nd rfl 0x0) (aR (gK dP rfl (dZ (aX aC aF)) (gB rfl) (bF sc.nd rfl 0x0) (aR (fZ (bM (tD hu) (aX aC aF) (aX aC aF) (bO _)) (aH (cA (bB yV (aX aC aF) (aX aC aF))) (aH (cA (aZ p4 hr 0x4 0x3 (aB aC (aB (bB bV aF (bD (cN hK) 0x3 B.len cO (aB aC aG))) aG)))) (aH (o9 (ownN:=(["i"]:aa Str)) (show cZ lE (aN lA) _ (["i"]:aa Str) from by refine⟨rfl,?_,?_,?_,?_,?_,?_⟩<;>decide +kernel) rfl rfl rfl (mW 0x3 B.range (aB (bD (cN hK) 0x3 B.len cO (aB aC aG)) aG)) (eY 11) (λ_=>bF (show((eg (gZ (["i"]:aa Str)) lE++(["i"]:aa Str)):aa Str).Nodup from by decide +kernel) rfl 0x0) (λ_=>aZ p6 hr 0x4 0x3 (aB aC (aB (bB bV aF (bB dF (bB bV aC aC) aF)) aG))) (λ_=>rfl) rfl sc.nd rfl 0x0 (iS rfl) 0x5) (aH (cA (fH iM 0x3 B.tuple dW (aB (aX (nZ (aB aC (aB (aMu aC) aG))) (bB dF (bB fY aC aF) aF)) aG))) (aH (cA (aIq 0x3 B.dict 0x3 B.zip (aB aC (aB aC aG)))) (aH (cA (aB5 qH hr 0x4 0x3 (aB aC (aB (bB bV aF (bB gC aF (bD (cN hK) 0x3 B.len cO (aB aC aG)))) (aB aC (aB aC (aB (aX aC aF) (aB aF aG)))))))) (aR (n8 rfl rfl 0x0 (bH (aB (aX aC aF) (aB (aX aC aF) (aB aC (aB aC aG))))))))))))) c7))))) (aH (cA (bB dF (aZ p4 hr 0x4 0x3 (aB aC (aB aF aG))) (bD (Q5 0x3) 0x3 B.max U3 (aB aF (aB (bD (cN hK) 0x3 B.len cO (aB aC aG)) aG))))) (aR (cT (fH iM 0x3 B.tuple dW (aB (bB bV (KJ hK aC (tX aC) (tW)) (KJ hK aC (tW) (tX aC))) aG))))))
theorem wZ(p4:cX P w K mg base 1 "_law_draw" 2 aP)(qI:cX P w K mg base 3 "_law_takers" 2 jR)(qJ:cX P w K mg base 3 "_law_makers" 2 jP)(p6:cX P w K mg base 2 "_law_word" 2 aQ)(qK:cX P w K mg base 3 "_law_rules" 2 lB)(F:Fun K "_law_program" "_law_program" iR fad fd)(hm:mg "_law_program"=ab (.ref fad)):cX P w K mg base 4 "_law_program" 1 iT:=by
 have sc:=zA;have nd:=sc.nd;refine gM (ps:=["script"]) (N:=iU) (k:=3) F hm (F.binds λ_ _ _ _ _ _ us hl=>by obtain⟨_,rfl⟩:=l1 hl;rfl) sc zO 0x4 0x4 λcdv A outer s H E hr=>?_
 have hu:=wB hr;exact aH (cA (bB bV aF (bB dF (aZ p4 hr 0x4 0x3 (aB aC (aB aF aG))) aF))) (aH (cA (bH (aB (aZ qJ hr 0x4 0x3 (aB aC (aB aC aG))) (aB (aZ qI hr 0x4 0x3 (aB aC (aB aC aG))) aG)))) (aH (cA (fH iM 0x3 B.tuple dW (aB (iQ (ownN:=(["j"]:aa Str)) (show cZ iU (aN iR) _ (["j"]:aa Str) from by refine⟨rfl,?_,?_,?_,?_,?_,?_⟩<;>decide +kernel) rfl rfl rfl (mW 0x3 B.range (aB aC aG)) (eY 4) (λ_=>bF (show((eg (gZ (["j"]:aa Str)) iU++(["j"]:aa Str)):aa Str).Nodup from by decide +kernel) rfl 0x0) (λ_=>aZ p6 hr 0x4 0x3 (aB aC (aB aC aG))) (λ_=>rfl)) aG))) (aR (cT (bH (aB aC (aB (aX aC aF) (aB (aX aC aF) (aB (aZ qK hr 0x4 0x3 (aB aC (aB aC aG))) aG)))))))))
theorem zW(F:Fun K "_law_stock" "_law_stock" oJ fad fd)(hm:mg "_law_stock"=ab (.ref fad)):cX P w K mg base 1 "_law_stock" 1 lC:=by
 have sc:=HY;have nd:=sc.nd;refine gM (ps:=["program"]) (N:=wN) (k:=0) F hm (F.binds λ_ _ _ _ _ _ us hl=>by obtain⟨_,rfl⟩:=l1 hl;rfl) sc LK 0x4 0x4 λcdv A outer s H E hr=>?_
 have hu:=wB hr;exact aH (cA (aIv iC aF iC aF)) (aH (gK dP rfl (dZ (aX aC aF)) (gB rfl) (bF sc.nd rfl 0x0) (aR (tL hu rfl rfl 0x0 (aX aC aF) (bD (cN hK) 0x3 B.len cO (aB (aX aC aF) aG))))) (aH (gK dP rfl (dZ (aX aC aF)) (gB rfl) (bF sc.nd rfl 0x0) (aR (tL hu rfl rfl 0x0 (aX aC aF) (bB bV (bD (cN hK) 0x3 B.len cO (aB (aX aC aF) aG)) aF)))) (aR (yO rfl rfl 0x0))))
theorem M4(F:Fun K "stock_of" "stock_of" vN fad fd)(hm:mg "stock_of"=ab (.ref fad)):cX P w K mg base 1 "stock_of" 1 p_:=by
 have sc:=RD;have nd:=sc.nd;refine gM (ps:=["program"]) (N:=CW) (k:=0) F hm (F.binds λ_ _ _ _ _ _ us hl=>by obtain⟨_,rfl⟩:=l1 hl;rfl) sc X4 0x4 0x4 λcdv A outer s H E hr=>?_
 have hu:=wB hr;exact aH (cA (GD)) (aH (gK dP rfl (dZ (aX aC aF)) (tZ _ 0x4) (v5 rfl (cP (bF sc.nd rfl 0x0) (cP (bF sc.nd rfl 0x0) (cP (bF sc.nd rfl 0x0) (nT))))) (aR (tL hu rfl rfl 0x0 aC (bD (cN hK) 0x3 B.len cO (aB aC aG))))) (aH (gK dP rfl (dZ (aX aC aF)) (tZ _ 0x4) (v5 rfl (cP (bF sc.nd rfl 0x0) (cP (bF sc.nd rfl 0x0) (cP (bF sc.nd rfl 0x0) (cP (bF sc.nd rfl 0x0) (nT)))))) (aR (tL hu rfl rfl 0x0 aC (bB bV aF (bD (cN hK) 0x3 B.len cO (aB aC aG)))))) (aH (tL hu rfl rfl 0x0 iC aF) (aH (tL hu rfl rfl 0x0 iC aF) (aR (yO rfl rfl 0x0))))))
theorem M5(F:Fun K "arranged" "arranged" q_ fad fd)(hm:mg "arranged"=ab (.ref fad)):cX P w K mg base 1 "arranged" 3 fQ:=by
 have sc:=RG;have nd:=sc.nd;refine gM (ps:=["pieces","ties","rings"]) (N:=mG) (k:=0) F hm (F.binds λ_ _ _ _ _ _ us hl=>by obtain⟨_,_,_,rfl⟩:=l3 hl;rfl) sc X6 0x4 0x4 λcdv A outer s H E hr=>?_
 have hu:=wB hr;exact aH (o9 (ownN:=(["one","other"]:aa Str)) (show cZ mG (aN q_) _ (["one","other"]:aa Str) from by refine⟨rfl,?_,?_,?_,?_,?_,?_⟩<;>decide +kernel) rfl rfl rfl (dZ aC) (aIf _ 4 2) (λ_=>v5 rfl (cP (bF (show((eg (gZ (["one","other"]:aa Str)) mG++(["one","other"]:aa Str)):aa Str).Nodup from by decide +kernel) rfl 0x0) (cP (bF (show((eg (gZ (["one","other"]:aa Str)) mG++(["one","other"]:aa Str)):aa Str).Nodup from by decide +kernel) rfl 0x0) (nT)))) (λ_=>bH (aB (bD (aIw hu 0x3) 0x3 B.min aMl (aB aC (aB aC aG))) (aB (bD (aIx hu 0x3) 0x3 B.max U3 (aB aC (aB aC aG))) aG))) (λ_=>rfl) rfl sc.nd rfl 0x0 (iS rfl) 0x5) (aR (cT (bH (aB (fH iM 0x3 B.tuple dW (aB (bD (yL hu) 0x3 B.sorted yP (aB aC aG)) aG)) (aB (fH iM 0x3 B.tuple dW (aB (bD (yL hu) 0x3 B.sorted yP (aB aC aG)) aG)) (aB aC aG))))))
theorem M6(F:Fun K "heads_of" "heads_of" vO fad fd)(hm:mg "heads_of"=ab (.ref fad)):cX P w K mg base 1 "heads_of" 1 mC:=by
 have sc:=RJ;have nd:=sc.nd;refine gM (ps:=["program"]) (N:=CZ) (k:=0) F hm (F.binds λ_ _ _ _ _ _ us hl=>by obtain⟨_,rfl⟩:=l1 hl;rfl) sc X8 0x4 0x4 λcdv A outer s H E hr=>?_
 have hu:=wB hr;exact aH (cA (GD)) (aH (gK dP rfl (dZ (aX aC aF)) (tZ _ 0x4) (v5 rfl (cP (bF sc.nd rfl 0x0) (cP (bF sc.nd rfl 0x0) (cP (bF sc.nd rfl 0x0) (nT))))) (aR (tL hu rfl rfl 0x0 aC (bH (aB aC (aB aC aG)))))) (aH (gK dP rfl (dZ (aX aC aF)) (tZ _ 0x4) (v5 rfl (cP (bF sc.nd rfl 0x0) (cP (bF sc.nd rfl 0x0) (cP (bF sc.nd rfl 0x0) (cP (bF sc.nd rfl 0x0) (nT)))))) (aR (tL hu rfl rfl 0x0 aC (bH (aB aC (aB (bB yV (bH (aB aC aG)) aC) aG)))))) (aR (yO rfl rfl 0x0))))
theorem aEt{C:ak}(qL:cX P w K mg base 1 "heads_of" 1 mC)(cls:Cls K C)(na:∀f∈wK.map (·.1),tE K C f)(F:Fun K "__init__" "Loom.__init__" wJ fad fd):v6 P w K mg base CX0 2 fad fd ["self","program"] (aBo C wK 1):=by
 have sc:=aJj;have nd:=sc.nd;refine aJ4 (N:=(["self","program"]:aa Str)) (ps:=["self","program"]) (k:=1) F sc rfl rfl cls 0x6 na 0x4 λcdv A outer s H E hr=>?_
 have hu:=wB hr;exact mJ (SN (jD rfl 0x0) (aZ qL hr 0x4 0x3 (aB aC aG)) rfl) (mJ (SN (jD rfl 0x0) (aBi 0x3 0x3 B.dict (iQ (ownN:=(["taker"]:aa Str)) (show cZ (["self","program"]:aa Str) (aN wJ) _ (["taker"]:aa Str) from by refine⟨rfl,?_,?_,?_,?_,?_,?_⟩<;>decide +kernel) rfl rfl rfl (dZ (aX aC aF)) (eY 2) (λ_=>bF (show((eg (gZ (["taker"]:aa Str)) (["self","program"]:aa Str)++(["taker"]:aa Str)):aa Str).Nodup from by decide +kernel) rfl 0x0) (λ_=>bH (aB (aX aC aF) (aB lR aG))) (λ_=>rfl))) rfl) (mJ (SN (jD rfl 0x0) (nZ aG) rfl) (mJ (SN (jD rfl 0x0) (nZ aG) rfl) (ZF))))
theorem M7(fl_Loom_pieces:Y4 K "Loom" "pieces")(F:Fun K "add_piece" "Loom.add_piece" gG fad fd):v6 P w K mg base CX0 1 fad fd ["self","name"] (spG cW 2):=by
 have sc:=M3;have nd:=sc.nd;refine aBl (N:=(["self","name","#0","#1","number"]:aa Str)) (ps:=["self","name"]) (k:=0) F sc Q_ rfl 0x4 0x4 rfl 0x6 rfl 0x6 λcdv A outer s H E hr=>?_
 have hu:=wB hr;exact aH (cA (bB bV (bD (cN hK) 0x3 B.len cO (aB (aBj (nF hK fl_Loom_pieces aC)) aG)) aF)) (aH (t_ rfl (nF hK fl_Loom_pieces aC) (bH (aB aC (aB aC aG)))) (aR (Q3 aC)))
theorem aNm(p8:aGc P w K mg base 1 "Loom" "add_piece" 2 cW)(fl_Loom_heads:Y4 K "Loom" "heads")(fl_Loom_takers:Y4 K "Loom" "takers")(fl_Loom_ties:Y4 K "Loom" "ties")(F:Fun K "lay" "Loom.lay" HN fad fd):v6 P w K mg base CX0 2 fad fd ["self","word","place"] (spG RC 3):=by
 have sc:=aNk;have nd:=sc.nd;refine aBl (N:=(["self","word","place","#0","#1","number","count"]:aa Str)) (ps:=["self","word","place"]) (k:=1) F sc aQp rfl 0x4 0x4 rfl 0x6 rfl 0x6 λcdv A outer s H E hr=>?_
 have hu:=wB hr;exact aH (aG6 rfl sc.nd rfl 0x0 (uW hK p8 hr 0x4 rfl rfl rfl rfl 0x0 (aBg rfl rfl 0x0 (K5)))) (aH (cA (bD (cN hK) 0x3 B.len cO (aB (aX (aX (nF hK fl_Loom_heads aC) aC) aF) aG))) (aH (fZ (bM (KH hu) aC (nF hK fl_Loom_takers aC) 0x5) (aH (t_ rfl (nF hK fl_Loom_ties aC) (bH (aB (bH (aB aC (aB aF aG))) (aB aC aG)))) (aR (Q3 (bB bV (oF (aB (bH (aB aC (aB aF aG))) aG)) (iQ (ownN:=(["hook"]:aa Str)) (show cZ (["self","word","place","#0","#1","number","count"]:aa Str) (aN HN) _ (["hook"]:aa Str) from by refine⟨rfl,?_,?_,?_,?_,?_,?_⟩<;>decide +kernel) rfl rfl rfl (tY 0x3 B.range (aB aF (aB (bB bV aC aF) aG))) (eY 7) (λ_=>bF (show((eg (gZ (["hook"]:aa Str)) (["self","word","place","#0","#1","number","count"]:aa Str)++(["hook"]:aa Str)):aa Str).Nodup from by decide +kernel) rfl 0x0) (λ_=>bH (aB aC (aB aC aG))) (λ_=>rfl)))))) c7) (aH (t_ rfl (nF hK fl_Loom_ties aC) (bH (aB (bH (aB aC (aB aF aG))) (aB aC aG)))) (aR (Q3 (iQ (ownN:=(["hook"]:aa Str)) (show cZ (["self","word","place","#0","#1","number","count"]:aa Str) (aN HN) _ (["hook"]:aa Str) from by refine⟨rfl,?_,?_,?_,?_,?_,?_⟩<;>decide +kernel) rfl rfl rfl (tY 0x3 B.range (aB aF (aB (bB bV aC aF) aG))) (eY 7) (λ_=>bF (show((eg (gZ (["hook"]:aa Str)) (["self","word","place","#0","#1","number","count"]:aa Str)++(["hook"]:aa Str)):aa Str).Nodup from by decide +kernel) rfl 0x0) (λ_=>bH (aB aC (aB aC aG))) (λ_=>rfl)))))))
theorem aEu(fl_Loom_ties:Y4 K "Loom" "ties")(p8:aGc P w K mg base 1 "Loom" "add_piece" 2 cW)(F:Fun K "serve" "Loom.serve" uE fad fd):v6 P w K mg base CX0 2 fad fd ["self","giver","places"] (spG uF 3):=by
 have sc:=aEs;have nd:=sc.nd;refine aBl (N:=(["self","giver","places","#0","#1","place","number"]:aa Str)) (ps:=["self","giver","places"]) (k:=1) F sc aJh rfl 0x4 0x4 rfl 0x6 rfl 0x6 λcdv A outer s H E hr=>?_
 have hu:=wB hr;exact aR (fZ (jF (aJg hK aC)) (aR (aJ8 rfl (nF hK fl_Loom_ties aC) (aG5 (aBe (aG5 (aBe (uW hK p8 hr 0x4 rfl rfl rfl rfl 0x0 (aEe iC (K5))) (U8 aF (aG4)))) (U8 aC (aG4)))))) (aH (gK dP rfl (dZ (KJ hK aC (tW) (tX (aI6 aAp aF)))) (gB rfl) (bF sc.nd rfl 0x0) (aH (aG6 rfl sc.nd rfl 0x0 (uW hK p8 hr 0x4 rfl rfl rfl rfl 0x0 (aEe iC (K5)))) (aH (t_ rfl (nF hK fl_Loom_ties aC) (bH (aB (bH (aB aC (aB aF aG))) (aB aC aG)))) (aH (t_ rfl (nF hK fl_Loom_ties aC) (bH (aB (bH (aB aC (aB aF aG))) (aB aC aG)))) (aR (cA (bH (aB aC (aB aF aG))))))))) (aR (t_ rfl (nF hK fl_Loom_ties aC) (bH (aB aC (aB (aX aC (aI6 aAp aF)) aG)))))))
theorem zX(pb:cX P w K mg base 1 "arranged" 3 fQ)(pO:aGc P w K mg base 2 "Loom" "lay" 3 RC)(pQ:aGc P w K mg base 2 "Loom" "serve" 3 uF)(fl_Loom_ties:Y4 K "Loom" "ties")(fl_Loom_pieces:Y4 K "Loom" "pieces")(q_Loom:aEp P w K mg base 2 "Loom" wK 1)(F:Fun K "woven_with" "woven_with" dC fad fd)(hm:mg "woven_with"=ab (.ref fad)):cX P w K mg base 4 "woven_with" 3 lD:=by
 have sc:=H_;have nd:=sc.nd;refine gM (ps:=["program","words","variables"]) (N:=i_) (k:=3) F hm (F.binds λ_ _ _ _ _ _ us hl=>by obtain⟨_,_,_,rfl⟩:=l3 hl;rfl) sc LR 0x4 0x4 λcdv A outer s H E hr=>?_
 have hu:=wB hr;exact aJ5 hK q_Loom hr 0x4 0x3 (aB aC aG) rfl rfl rfl (show 4<i_.length from by decide) (uV rfl (show(aN dC).names.lookup ("#0" : Str)=ai from by decide +kernel)) (uV rfl (show(aN dC).names.lookup ("#1" : Str)=ai from by decide +kernel)) sc.nd rfl 0x0 (aJd rfl (hj5 rfl rfl rfl rfl rfl) (hd5 (uV rfl (show(aN dC).names.lookup ("#2" : Str)=ai from by decide +kernel)) (uV rfl (show(aN dC).names.lookup ("#3" : Str)=ai from by decide +kernel)) (uV rfl (show(aN dC).names.lookup ("#4" : Str)=ai from by decide +kernel)) (uV rfl (show(aN dC).names.lookup ("#5" : Str)=ai from by decide +kernel)) (uV rfl (show(aN dC).names.lookup ("#6" : Str)=ai from by decide +kernel))) sc.nd rfl 0x0 (aQm 0x3 0x3 B.dict (aJf (ownN:=(["name"]:aa Str)) (show cZ i_ (aN dC) _ (["name"]:aa Str) from by refine⟨rfl,?_,?_,?_,?_,?_,?_⟩<;>decide +kernel) rfl rfl rfl (dZ aC) (eY 17) (λ_=>bF (show((eg (gZ (["name"]:aa Str)) i_++(["name"]:aa Str)):aa Str).Nodup from by decide +kernel) rfl 0x0) (λ_=>aC) (λ_=>rfl) (λ_=>rfl) (λ_=>rfl))) (aH (cA (nZ (mY (bH (aB aF (aB aF aG))) aG))) (aH (aAx rfl dP rfl rfl 0x0 (gB rfl) (bF sc.nd rfl 0x0) (aH (aIr rfl rfl 0x0 sc.nd rfl 0x0 rfl) (aR (fZ (bM (KH hu) aC aC 0x5) (aR (aJe (hj5 rfl rfl rfl rfl rfl) (aX aC aC) aC)) (aR (aJ7 rfl rfl 0x0 (aJ6 0x3 0x3 B.list 0x3 B.reversed (uW hK pO hr 0x4 rfl rfl rfl rfl 0x0 (aBg rfl rfl 0x0 (aBg rfl rfl 0x0 (K5))))))))))) (aEr rfl (hj5 rfl rfl rfl rfl rfl) (aH (gK dP rfl (aEq 0x4 0x3 B.enum aC) (tZ _ 0x4) (v5 rfl (cP (bF sc.nd rfl 0x0) (cP (bF sc.nd rfl 0x0) (nT)))) (aR (aNg (uW hK pQ hr 0x4 rfl rfl rfl rfl 0x0 (aEe (bH (aB aF (aB aC aG))) (aEe (aX aC aC) (K5))))))) (aR (cT (aZ pb hr 0x4 0x3 (aB (aBj (nF hK fl_Loom_pieces aC)) (aB (aBj (nF hK fl_Loom_ties aC)) (aB aF aG)))))))))))
theorem M8(qM:cX P w K mg base 4 "woven_with" 3 lD)(F:Fun K "rule_net" "rule_net" vP fad fd)(hm:mg "rule_net"=ab (.ref fad)):cX P w K mg base 5 "rule_net" 3 mD:=by
 have sc:=RK;have nd:=sc.nd;refine gM (ps:=["program","rule","parts"]) (N:=C_) (k:=4) F hm (F.binds λ_ _ _ _ _ _ us hl=>by obtain⟨_,_,_,rfl⟩:=l3 hl;rfl) sc YB 0x4 0x4 λcdv A outer s H E hr=>?_
 have hu:=wB hr;exact aH (cA (aX aC aF)) (aR (cT (aZ qM hr 0x4 0x3 (aB aC (aB (aX aC aF) (aB (bB yV (aGi hK aC (tX aC) (tW)) (aGi hK aC (tW) (tX aC))) aG))))))
theorem M9(pb:cX P w K mg base 1 "arranged" 3 fQ)(F:Fun K "copy_net" "copy_net" vQ fad fd)(hm:mg "copy_net"=ab (.ref fad)):cX P w K mg base 2 "copy_net" 2 jW:=by
 have sc:=RL;have nd:=sc.nd;refine gM (ps:=["maker","parts"]) (N:=DG) (k:=1) F hm (F.binds λ_ _ _ _ _ _ us hl=>by obtain⟨_,_,rfl⟩:=l2 hl;rfl) sc YD 0x4 0x4 λcdv A outer s H E hr=>?_
 have hu:=wB hr;refine aH ?_ ?_;exact(cA (oF (aB (bH (aB aF (aB aC aG))) (aB (bH (aB aF (aB aC aG))) aG))));refine aH ?_ ?_;refine aFz ?_ ?_ ?_ ?_ ?_ ?_ ?_;rfl;exact sc.nd;rfl;exact 0x0;refine oF (r:=ae) ?_;refine mY (re:=ae) (r:=ae) ?_ ?_;refine bH ?_;refine mY (re:=ae) (r:=ae) ?_ ?_;exact HB;refine mY (re:=ae) (r:=ae) ?_ ?_;exact HB;exact aG;refine mY (re:=ae) (r:=ae) ?_ ?_;refine bH ?_;refine mY (re:=ae) (r:=ae) ?_ ?_;exact HB;refine mY (re:=ae) (r:=ae) ?_ ?_;exact HB;exact aG;exact aG;rfl;exact .inr rfl;refine aH ?_ ?_;exact(gK dP rfl (tY 0x3 B.range (aB aF (aB (bB bV aC aF) aG))) (gB rfl) (bF sc.nd rfl 0x0) (aH (cA (bB bV aC aF)) (aH (n8 rfl rfl 0x0 (bH (aB aC (aB iC aG)))) (aR (aN1 rfl rfl 0x0 (oF (aB (bH (aB (bH (aB aC (aB aF aG))) (aB (bH (aB aF (aB (bB bV aC aF) aG))) aG))) (aB (bH (aB (bH (aB aC (aB aF aG))) (aB (bH (aB aF (aB aC aG))) aG))) (aB (bH (aB (bH (aB aC (aB aF aG))) (aB (bH (aB aF (aB aC aG))) aG))) aG)))))))));refine aR ?_;exact(cT (aZ pb hr 0x4 0x3 (aB aC (aB aC (aB aF aG)))))
theorem M_(pb:cX P w K mg base 1 "arranged" 3 fQ)(F:Fun K "drop_net" "drop_net" mF fad fd)(hm:mg "drop_net"=ab (.ref fad)):cX P w K mg base 2 "drop_net" 1 jX:=by
 have sc:=RM;have nd:=sc.nd;refine gM (ps:=["parts"]) (N:=jY) (k:=1) F hm (F.binds λ_ _ _ _ _ _ us hl=>by obtain⟨_,rfl⟩:=l1 hl;rfl) sc YG 0x4 0x4 λcdv A outer s H E hr=>?_
 have hu:=wB hr;exact aH (o9 (ownN:=(["j"]:aa Str)) (show cZ jY (aN mF) _ (["j"]:aa Str) from by refine⟨rfl,?_,?_,?_,?_,?_,?_⟩<;>decide +kernel) rfl rfl rfl (tY 0x3 B.range (aB aF (aB (bB bV aC aF) aG))) (eY 3) (λ_=>bF (show((eg (gZ (["j"]:aa Str)) jY++(["j"]:aa Str)):aa Str).Nodup from by decide +kernel) rfl 0x0) (λ_=>bH (aB aC (aB iC aG))) (λ_=>rfl) rfl sc.nd rfl 0x0 (iS rfl) 0x5) (aH (o9 (ownN:=(["j"]:aa Str)) (show cZ jY (aN mF) _ (["j"]:aa Str) from by refine⟨rfl,?_,?_,?_,?_,?_,?_⟩<;>decide +kernel) rfl rfl rfl (tY 0x3 B.range (aB aF (aB (bB bV aC aF) aG))) (eY 3) (λ_=>bF (show((eg (gZ (["j"]:aa Str)) jY++(["j"]:aa Str)):aa Str).Nodup from by decide +kernel) rfl 0x0) (λ_=>bH (aB (bH (aB aC (aB aF aG))) (aB (bH (aB aF (aB (bB T6 aC aF) aG))) aG))) (λ_=>rfl) rfl sc.nd rfl 0x0 (iS rfl) 0x5) (aR (cT (aZ pb hr 0x4 0x3 (aB aC (aB aC (aB aF aG)))))))
theorem NB(qN:cX P w K mg base 1 "stock_of" 1 p_)(qO:cX P w K mg base 5 "rule_net" 3 mD)(qP:cX P w K mg base 2 "copy_net" 2 jW)(qQ:cX P w K mg base 2 "drop_net" 1 jX)(F:Fun K "rules_of" "rules_of" sE fad fd)(hm:mg "rules_of"=ab (.ref fad)):cX P w K mg base 6 "rules_of" 1 sG:=by
 have sc:=RN;have nd:=sc.nd;refine gM (ps:=["program"]) (N:=sI) (k:=5) F hm (F.binds λ_ _ _ _ _ _ us hl=>by obtain⟨_,rfl⟩:=l1 hl;rfl) sc YJ 0x4 0x4 λcdv A outer s H E hr=>?_
 have hu:=wB hr;exact aH (cA (aZ qN hr 0x4 0x3 (aB aC aG))) (aH (o9 (ownN:=(["rule"]:aa Str)) (show cZ sI (aN sE) _ (["rule"]:aa Str) from by refine⟨rfl,?_,?_,?_,?_,?_,?_⟩<;>decide +kernel) rfl rfl rfl (dZ (aX aC aF)) (eY 6) (λ_=>bF (show((eg (gZ (["rule"]:aa Str)) sI++(["rule"]:aa Str)):aa Str).Nodup from by decide +kernel) rfl 0x0) (λ_=>bH (aB (aX aC aF) (aB (aX aC aF) (aB (aZ qO hr 0x4 0x3 (aB aC (aB aC (aB (aX aC (aX aC aF)) aG)))) aG)))) (λ_=>rfl) rfl sc.nd rfl 0x0 (iS rfl) 0x5) (aH (gK dP rfl (dZ (aX aC aF)) (tZ _ 0x4) (v5 rfl (cP (bF sc.nd rfl 0x0) (cP (bF sc.nd rfl 0x0) (cP (bF sc.nd rfl 0x0) (nT))))) (aH (n8 rfl rfl 0x0 (bH (aB iC (aB aC (aB (aZ qP hr 0x4 0x3 (aB aC (aB (bD (cN hK) 0x3 B.len cO (aB aC aG)) aG))) aG))))) (aR (n8 rfl rfl 0x0 (bH (aB iC (aB aC (aB (aZ qQ hr 0x4 0x3 (aB (bD (cN hK) 0x3 B.len cO (aB aC aG)) aG)) aG)))))))) (aR (yO rfl rfl 0x0))))
theorem zY(F:Fun K "_law_whole" "_law_whole" oK fad fd)(hm:mg "_law_whole"=ab (.ref fad)):cX P w K mg base 1 "_law_whole" 1 dN:=by
 have sc:=IK;have nd:=sc.nd;refine gM (ps:=["found"]) (N:=wO) (k:=0) F hm (F.binds λ_ _ _ _ _ _ us hl=>by obtain⟨_,rfl⟩:=l1 hl;rfl) sc L_ 0x4 0x4 λcdv A outer s H E hr=>?_
 have hu:=wB hr;exact aR (cT (J5 (nC .int aC 0x3 B.isi cG 0x3 B.int aMm) (aAn (aMa (nC .bool aC 0x3 B.isi cG 0x3 B.bool aIj)))))
theorem NK(pf:cX P w K mg base 1 "_law_whole" 1 dN)(F:Fun K "_law_end" "_law_end" vR fad fd)(hm:mg "_law_end"=ab (.ref fad)):cX P w K mg base 2 "_law_end" 1 iK:=by
 have sc:=RP;have nd:=sc.nd;refine gM (ps:=["end"]) (N:=DK) (k:=1) F hm (F.binds λ_ _ _ _ _ _ us hl=>by obtain⟨_,rfl⟩:=l1 hl;rfl) sc YL 0x4 0x4 λcdv A outer s H E hr=>?_
 have hu:=wB hr;exact aR (cT (J5 (nC .tuple aC 0x3 B.isi cG 0x3 B.tuple dW) (J5 (aAm (tD hu) (bD (cN hK) 0x3 B.len cO (aB aC aG)) aF (bO _)) (J5 (aZ pf hr 0x4 0x3 (aB (aX aC aF) aG)) (aAn (aZ pf hr 0x4 0x3 (aB (aX aC aF) aG)))))))
theorem zZ(pf:cX P w K mg base 1 "_law_whole" 1 dN)(qA:cX P w K mg base 2 "_law_end" 1 iK)(F:Fun K "_law_mates" "_law_mates" iZ fad fd)(hm:mg "_law_mates"=ab (.ref fad)):cX P w K mg base 3 "_law_mates" 3 eV:=by
 have sc:=IV;have nd:=sc.nd;refine gM (ps:=["net","stock","border"]) (N:=gP) (k:=2) F hm (F.binds λ_ _ _ _ _ _ us hl=>by obtain⟨_,_,_,rfl⟩:=l3 hl;rfl) sc MJ 0x4 0x4 λcdv A outer s H E hr=>?_
 have hu:=wB hr
 exact aH (fZ (PW.pt (fC (jF (jE (nC .tuple aC 0x3 B.isi cG 0x3 B.tuple dW))) (gJ (bM (jN hu) (bD (cN hK) 0x3 B.len cO (aB aC aG)) aF (bO _))))) (aR (cT tK)) c7) (aH (fZ (PW.pt (fC (jF (jE (nC .tuple (aX aC aF) 0x3 B.isi cG 0x3 B.tuple dW))) (fC (jF (jE (nC .tuple (aX aC aF) 0x3 B.isi cG 0x3 B.tuple dW))) (gJ (jF (jE (aZ pf hr 0x4 0x3 (aB (aX aC aF) aG)))))))) (aR (cT tK)) c7) (aH (o9 (ownN:=(["k"]:aa Str)) (show cZ gP (aN iZ) _ (["k"]:aa Str) from by refine⟨rfl,?_,?_,?_,?_,?_,?_⟩<;>decide +kernel) rfl rfl rfl (mW 0x3 B.range (aB aC aG)) (eY 9) (λ_=>bF (show((eg (gZ (["k"]:aa Str)) gP++(["k"]:aa Str)):aa Str).Nodup from by decide +kernel) rfl 0x0) (λ_=>bH (aB aF (aB aC aG))) (λ_=>rfl) rfl sc.nd rfl 0x0 (iS rfl) 0x5) (aH (cA aF) (aH (gK dP rfl (dZ (aX aC aF)) (gB rfl) (bF sc.nd rfl 0x0) (aH (fZ (PW.pt (fC (jF (jE (nC .tuple aC 0x3 B.isi cG 0x3 B.tuple dW))) (fC (bM (jN hu) (bD (cN hK) 0x3 B.len cO (aB aC aG)) aF (bO _)) (fC (jF (jE (aZ pf hr 0x4 0x3 (aB (aX aC aF) aG)))) (gJ (bM (aPx hu) (aX aC aF) aC (bO _))))))) (aR (cT tK)) c7) (aH (fZ (PW.pt (fC (jF (jE (nC .str (aX aC aF) 0x3 B.isi cG 0x3 B.str aMn))) (gJ (bM (T_ hu) (aX aC aF) aC 0x5)))) (aR (cT tK)) c7) (aH (cA (aX aC aF)) (aR (cA (bB bV aC (iQ (ownN:=(["hook"]:aa Str)) (show cZ gP (aN iZ) _ (["hook"]:aa Str) from by refine⟨rfl,?_,?_,?_,?_,?_,?_⟩<;>decide +kernel) rfl rfl rfl (mW 0x3 B.range (aB (bB bV (aX aC (aX aC aF)) aF) aG)) (eY 9) (λ_=>bF (show((eg (gZ (["hook"]:aa Str)) gP++(["hook"]:aa Str)):aa Str).Nodup from by decide +kernel) rfl 0x0) (λ_=>bH (aB aC (aB aC aG))) (λ_=>rfl))))))))) (aH (cA (GD)) (aH (gK dP rfl (dZ (aX aC aF)) (gB rfl) (bF sc.nd rfl 0x0) (aH (fZ (PW.pt (fC (jF (jE (nC .tuple aC 0x3 B.isi cG 0x3 B.tuple dW))) (fC (bM (jN hu) (bD (cN hK) 0x3 B.len cO (aB aC aG)) aF (bO _)) (fC (jF (jE (aZ qA hr 0x4 0x3 (aB (aX aC aF) aG)))) (gJ (jF (jE (aZ qA hr 0x4 0x3 (aB (aX aC aF) aG))))))))) (aR (cT tK)) c7) (aH (fZ (PW.pt (fC (bM (aMe hu) (aX aC aF) (aX aC aF) (bO _)) (fC (bM (KH hu) (aX aC aF) aC 0x5) (gJ (bM (KH hu) (aX aC aF) aC 0x5))))) (aR (cT tK)) c7) (aH (tL hu rfl rfl 0x0 (aX aC aF) (aX aC aF)) (aR (tL hu rfl rfl 0x0 (aX aC aF) (aX aC aF))))))) (aH (fZ (PW.pt (fC (bM (jN hu) (bD (aJc hK) 0x3 B.len cO (aB aC aG)) (bD (cN hK) 0x3 B.len cO (aB aC aG)) (bO _)) (gJ (bM (jN hu) (fH (aIc 0x3) 0x3 B.list QW (aB (aX aC aF) aG)) (bD (XS hu) 0x3 B.sorted yP (aB (aX aC aF) aG)) (bO _))))) (aR (cT tK)) c7) (aH (aAx rfl dP rfl rfl 0x0 (gB rfl) (bF sc.nd rfl 0x0) (aR (fZ (bM (T_ hu) aC aC 0x5) (aR (cT tK)) c7))) (aR (yO rfl rfl 0x0))))))))))
theorem zF(pR:cX P w K mg base 3 "_law_mates" 3 eV)(F:Fun K "_law_copies" "_law_copies" mZ fad fd)(hm:mg "_law_copies"=ab (.ref fad)):cX P w K mg base 4 "_law_copies" 3 dI:=by
 have sc:=zT;have nd:=sc.nd;refine gM (ps:=["net","name","stock"]) (N:=uX) (k:=3) F hm (F.binds λ_ _ _ _ _ _ us hl=>by obtain⟨_,_,_,rfl⟩:=l3 hl;rfl) sc HQ 0x4 0x4 λcdv A outer s H E hr=>?_
 have hu:=wB hr;exact aH (cA (aX aC aC)) (aH (cA (aZ pR hr 0x4 0x3 (aB aC (aB aC (aB (bB bV aC aF) aG))))) (aH (fZ (PW.pt (fC (bM aFx aC tK (bO _)) (fC (bM (jN hu) (aX aC aF) aF (bO _)) (gJ (bM (jN hu) (bD (cN hK) 0x3 B.len cO (aB (aX aC aF) aG)) (bB bV aC aF) (bO _)))))) (aR (cT lR)) c7) (aH (cA (CT 0x3 0x3 B.dict (aX aC aF))) (aH (cA (aX aC (bH (aB aF (aB aF aG))))) (aH (cA (aX aC (bH (aB aF (aB aF aG))))) (aH (fZ (PW.pt (fC (bM (tD hu) (aX aC aF) aF (bO _)) (fC (bM (tD hu) (aX aC aF) aF (bO _)) (fC (bM (tD hu) (aX aC aF) (aX aC aF) (bO _)) (fC (bM (jN hu) (aX aC aF) aF (bO _)) (gJ (bM (jN hu) (aX aC aF) aF (bO _)))))))) (aR (cT lR)) c7) (aH (fZ (PW.pt (fC (bM (jN hu) (aX aC (aX aC aF)) aC (bO _)) (gJ (bM (jN hu) (aX aC (aX aC aF)) aC (bO _))))) (aR (cT lR)) c7) (aH (gK dP rfl (tY 0x3 B.range (aB aF (aB (bB bV aC aF) aG))) (gB rfl) (bF sc.nd rfl 0x0) (aH (cA (aX aC (bH (aB aF (aB (bB bV aF aC) aG))))) (aH (fZ (PW.pt (fC (bM (tD hu) (aX aC aF) aF (bO _)) (fC (bM (jN hu) (aX aC aF) aF (bO _)) (gJ (bM (jN hu) (aX aC (aX aC aF)) iC (bO _)))))) (aR (cT lR)) c7) (aR (fZ (PW.pt (fC (bM (jN hu) (aX aC (bH (aB (aX aC aF) (aB aF aG)))) (bH (aB (aX aC aF) (aB aC aG))) (bO _)) (gJ (bM (jN hu) (aX aC (bH (aB (aX aC aF) (aB aF aG)))) (bH (aB (aX aC aF) (aB aC aG))) (bO _))))) (aR (cT lR)) c7))))) (aR (cT lR))))))))))
theorem A_(pR:cX P w K mg base 3 "_law_mates" 3 eV)(F:Fun K "_law_drops" "_law_drops" oM fad fd)(hm:mg "_law_drops"=ab (.ref fad)):cX P w K mg base 4 "_law_drops" 3 dY:=by
 have sc:=IW;have nd:=sc.nd;refine gM (ps:=["net","name","stock"]) (N:=wQ) (k:=3) F hm (F.binds λ_ _ _ _ _ _ us hl=>by obtain⟨_,_,_,rfl⟩:=l3 hl;rfl) sc MK 0x4 0x4 λcdv A outer s H E hr=>?_
 have hu:=wB hr;exact aH (cA (aX aC aC)) (aH (cA (aZ pR hr 0x4 0x3 (aB aC (aB aC (aB aC aG))))) (aH (fZ (PW.pt (fC (bM aFx aC tK (bO _)) (fC (bM (jN hu) (aX aC aF) aF (bO _)) (gJ (bM (jN hu) (bD (cN hK) 0x3 B.len cO (aB (aX aC aF) aG)) aC (bO _)))))) (aR (cT lR)) c7) (aH (cA (CT 0x3 0x3 B.dict (aX aC aF))) (aH (gK dP rfl (mW 0x3 B.range (aB aC aG)) (gB rfl) (bF sc.nd rfl 0x0) (aH (cA (aX aC (bH (aB aF (aB aC aG))))) (aR (fZ (PW.pt (fC (bM (tD hu) (aX aC aF) aF (bO _)) (fC (bM (jN hu) (aX aC aF) aF (bO _)) (gJ (bM (jN hu) (aX aC (aX aC aF)) iC (bO _)))))) (aR (cT lR)) c7)))) (aR (cT lR))))))
theorem aNn(qR:cX P w K mg base 4 "_law_program" 1 iT)(qS:cX P w K mg base 1 "_law_stock" 1 lC)(qT:cX P w K mg base 6 "rules_of" 1 sG)(qU:cX P w K mg base 4 "_law_copies" 3 dI)(qV:cX P w K mg base 4 "_law_drops" 3 dY)(F:Fun K "law" "law" HS fad fd):v6 P w K mg base CX0 7 fad fd ["script"] (spD YQ 1):=by
 have sc:=aNl;have nd:=sc.nd;refine aMk (ps:=["script"]) (N:=aNj) (k:=6) F sc o_law 0x4 0x4 λcdv A outer s H E hr=>?_
 have hu:=wB hr;exact aH (cA (aZ qR hr 0x4 0x3 (aB aC aG))) (aH (cA (aZ qS hr 0x4 0x3 (aB aC aG))) (aH (cA (aZ qT hr 0x4 0x3 (aB aC aG))) (aH (cA (bD (cN hK) 0x3 B.len cO (aB (aX aC aF) aG))) (aH (fZ (PW.pt (fC (jF (jE (nC .list aC 0x3 B.isi cG 0x3 B.list QW))) (gJ (bM (jN hu) (bD (cN hK) 0x3 B.len cO (aB aC aG)) (bB bV aC (bB gC aF (bD (cN hK) 0x3 B.len cO (aB (aX aC aF) aG)))) (bO _))))) (aR (cT lR)) c7) (aH (gK dP rfl (aEg 0x3 B.enum (aB (aX aC aF) aG)) (tZ _ 0x4) (v5 rfl (cP (bF sc.nd rfl 0x0) (cP (bF sc.nd rfl 0x0) (nT)))) (aH (cA (aX aC (bB bV aC (bB gC aF aC)))) (aH (cA (aX aC (bB bV (bB bV aC (bB gC aF aC)) aF))) (aH (fZ (PW.pt (fC (jF (jE (nC .tuple aC 0x3 B.isi cG 0x3 B.tuple dW))) (fC (bM (jN hu) (bD (cN hK) 0x3 B.len cO (aB aC aG)) aF (bO _)) (fC (jF (jE (nC .tuple aC 0x3 B.isi cG 0x3 B.tuple dW))) (gJ (bM (jN hu) (bD (cN hK) 0x3 B.len cO (aB aC aG)) aF (bO _))))))) (aR (cT lR)) c7) (aH (fZ (PW.pt (fC (bM (jN hu) (KJ hK aC (tW) (tX aF)) (bH (aB iC (aB (aX aC aF) aG))) (bO _)) (gJ (bM (jN hu) (KJ hK aC (tW) (tX aF)) (bH (aB iC (aB (aX aC aF) aG))) (bO _))))) (aR (cT lR)) c7) (aR (fZ (PW.pt (fC (jF (jE (aZ qU hr 0x4 0x3 (aB (aX aC aF) (aB (aX aC aF) (aB aC aG)))))) (gJ (jF (jE (aZ qV hr 0x4 0x3 (aB (aX aC aF) (aB (aX aC aF) (aB aC aG))))))))) (aR (cT lR)) c7))))))) (aR (cT lR)))))))
end
def AtN(K:Frag)(n:Str)(st:br):Prop:=∃(f:ak)(fd:eu),nsIn K cg n=ab (ab (.ref f))/\Fun K n n st f fd
theorem aQs{K:Frag}{n:Str}{st:br}{f:ak}{oc kV dc pm cd ct:aj}{od an:au ak}{sl:ay (au aj)}(a:nsIn K cg n=ab (ab (.ref f)))(l:K.lookup f=ab ⟨oc,od,.func (fnOf n n (iG st) (eX st) (aN st) .none kV dc pm an cd ct),sl⟩)(c:codeIn K cd n=ae)(k:keepIn K (.ref f)=ae):AtN K n st:=⟨f,_,a,tG (st:=st) l c k⟩
theorem aNo{l:OpenLaw}{w:bm}{K:Frag}{h:aI}{mg:Str->au aj}{fa:ak}(X:K.In h)(G:h.Ns cg mg)(hfa:mg "law"=ab (.ref fa))(a0:AtN K "_law_draw" uB)(a1:AtN K "_law_word" uC)(a2:AtN K "_law_makers" jO)(a3:AtN K "_law_takers" jQ)
 {f4 T4:ak}{oc4 kV4 dc4 pm4 cd4 ct4 tc4:aj}{od4 an4 td4:au ak}{sl4 tl4:ay (au aj)}{tk4:dQ}{tn4:af}(a4:nsIn K cg "_law_words"=ab (ab (.ref f4)))(l4:K.lookup f4=ab ⟨oc4,od4,.func (fnOf "_law_words" "_law_words" (iG cR) (eX cR) (aN cR) (.ref T4) kV4 dc4 pm4 an4 cd4 ct4),sl4⟩)(c4:codeIn K cd4 "_law_words"=ae)(k4:keepIn K (.ref f4)=ae)(t4:K.lookup T4=ab ⟨tc4,td4,.seq #[.int 0 tk4] tn4,tl4⟩)(a5:AtN K "_law_rules" lA)(a6:AtN K "_law_program" iR)(a7:AtN K "_law_stock" oJ)(a8:AtN K "stock_of" vN)(a9:AtN K "arranged" q_)(a10:AtN K "heads_of" vO)(a11:AtN K "woven_with" dC)(a12:AtN K "rule_net" vP)(a13:AtN K "copy_net" vQ)(a14:AtN K "drop_net" mF)(a15:AtN K "rules_of" sE)(a16:AtN K "_law_whole" oK)(a17:AtN K "_law_end" vR)(a18:AtN K "_law_mates" iZ)(a19:AtN K "_law_copies" mZ)(a20:AtN K "_law_drops" oM)
 {f21:ak}{oc21 kV21 dc21 pm21 cd21 ct21:aj}{od21 an21:au ak}{sl21:ay (au aj)}(a21:nsIn K cg "law"=ab (ab (.ref f21)))(l21:K.lookup f21=ab ⟨oc21,od21,.func (fnOf "law" "law" (iG HS) (eX HS) (aN HS) .none kV21 dc21 pm21 an21 cd21 ct21),sl21⟩)(c21:codeIn K cd21 "law"=ae)(k21:keepIn K (.ref f21)=ae)(pS:nsIn K cg "len"=ab ai)(pT:nsIn K cg "min"=ab ai)(pV:nsIn K cg "max"=ab ai)(pW:nsIn K cg "list"=ab ai)(pX:nsIn K cg "tuple"=ab ai)(pY:nsIn K cg "sorted"=ab ai)(pZ:nsIn K cg "range"=ab ai)(q5:nsIn K cg "isinstance"=ab ai)(qa:nsIn K cg "int"=ab ai)(qb:nsIn K cg "bool"=ab ai)(qc:nsIn K cg "str"=ab ai)(qd:nsIn K cg "dict"=ab ai)(qe:nsIn K cg "all"=ab ai)(qf:nsIn K cg "enumerate"=ab ai)(qg:nsIn K cg "sum"=ab ai)(qh:nsIn K cg "zip"=ab ai)(qi:nsIn K cg "abs"=ab ai)(qj:nsIn K cg "reversed"=ab ai){p5:ak}(p7:nsIn K cg "Loom"=ab (ab (.ref p5))){ph:ak}{qW qX qY qZ qB r6:aj}{r8 r9:au ak}{rh:ay (au aj)}{pi:ak}{ri rj rm rq qC rA:aj}{rB rC:au ak}{rD:ay (au aj)}{pj:ak}{rE rG rH rJ qD rK:aj}{rL rM:au ak}{rN:ay (au aj)}{pk:ak}{rO rP rQ rR qE rS:aj}{rT rV:au ak}{rW:ay (au aj)}(pg_Loom:plainGet K p5 Aj=ae)(qk:hasDictIn K p5=ae)(po_Loom:plainOver K p5=ae)(ql:findIn K (.ref p5) "__setattr__"=ab (ab (.builtin "object.__setattr__")))(mk_Loom:makesIn K p5=ae)(qo:keepIn K (.ref p5)=ae)(qp:findIn K (.ref p5) "__init__"=ab (ab (.ref ph)))(pA:K.lookup ph=ab ⟨qW,r8,.func (fnOf "__init__" "Loom.__init__" (iG wJ) (eX wJ) (aN wJ) .none qX qY qZ r9 qB r6),rh⟩)(pB:codeIn K qB "Loom.__init__"=ae)(pC:keepIn K (.ref ph)=ae)(qr:isFn K (.ref ph)=ae)(pD:findIn K (.ref p5) "heads"=ab ai)(pE:findIn K (.ref p5) "takers"=ab ai)(pF:findIn K (.ref p5) "pieces"=ab ai)(pG:findIn K (.ref p5) "ties"=ab ai)(qt:findIn K (.ref p5) "add_piece"=ab (ab (.ref pi)))(pH:K.lookup pi=ab ⟨ri,rB,.func (fnOf "add_piece" "Loom.add_piece" (iG gG) (eX gG) (aN gG) .none rj rm rq rC qC rA),rD⟩)(pI:codeIn K qC "Loom.add_piece"=ae)(pq:keepIn K (.ref pi)=ae)(qu:isFn K (.ref pi)=ae)(qv:findIn K (.ref p5) "lay"=ab (ab (.ref pj)))(pJ:K.lookup pj=ab ⟨rE,rL,.func (fnOf "lay" "Loom.lay" (iG HN) (eX HN) (aN HN) .none rG rH rJ rM qD rK),rN⟩)(pK:codeIn K qD "Loom.lay"=ae)(pw:keepIn K (.ref pj)=ae)(qw:isFn K (.ref pj)=ae)(qx:findIn K (.ref p5) "serve"=ab (ab (.ref pk)))(pL:K.lookup pk=ab ⟨rO,rT,.func (fnOf "serve" "Loom.serve" (iG uE) (eX uE) (aN uE) .none rP rQ rR rV qE rS),rW⟩)(pM:codeIn K qE "Loom.serve"=ae)(pz:keepIn K (.ref pk)=ae)(qy:isFn K (.ref pk)=ae) :
  ∃fd:eu,(∀(s:am)(v:aj),kK s fd ⟨[v],[]⟩ [("script",v)])/\∀base:aI,K.In base->base.Ns cg mg->v6 l.prog w K mg base CX0 7 fa fd ["script"] (@spD ⟨K⟩ YQ 1):=by
 have e:=hfa.symm.trans (mg_of X G a21);cases e
 letI:KFrag:=⟨K⟩
 have Y:=λ{n:Str}{v:aj}=>mg_of (n:=n) (v:=v) X G
 have Z:=λ{n:Str}=>mg_none_of (n:=n) X G
 obtain⟨f0,_,a0,F0⟩:=a0;obtain⟨f1,_,a1,F1⟩:=a1;obtain⟨f2,_,a2,F2⟩:=a2;obtain⟨f3,_,a3,F3⟩:=a3;obtain⟨f5,_,a5,F5⟩:=a5;obtain⟨f6,_,a6,F6⟩:=a6;obtain⟨f7,_,a7,F7⟩:=a7;obtain⟨f8,_,a8,F8⟩:=a8;obtain⟨f9,_,a9,F9⟩:=a9;obtain⟨f10,_,a10,F10⟩:=a10;obtain⟨f11,_,a11,F11⟩:=a11;obtain⟨f12,_,a12,F12⟩:=a12;obtain⟨f13,_,a13,F13⟩:=a13;obtain⟨f14,_,a14,F14⟩:=a14;obtain⟨f15,_,a15,F15⟩:=a15;obtain⟨f16,_,a16,F16⟩:=a16;obtain⟨f17,_,a17,F17⟩:=a17;obtain⟨f18,_,a18,F18⟩:=a18;obtain⟨f19,_,a19,F19⟩:=a19;obtain⟨f20,_,a20,F20⟩:=a20;have B:Bt mg:=⟨Z pS,Z pT,Z pV,Z pW,Z pX,Z pY,Z pZ,Z q5,Z qa,Z qb,Z qc,Z qd,Z qe,Z qf,Z qg,Z qh,Z qi,Z qj⟩
 refine⟨fnOf "law" "law" (iG HS) (eX HS) (aN HS) .none kV21 dc21 pm21 an21 cd21 ct21,λs v=>.of_eq rfl,λbase _ _=>?_⟩;have p9:=I_ (P:=l.prog) (w:=w) (base:=base) rfl B  F0 (Y a0);have pN:=JB (P:=l.prog) (w:=w) (base:=base) rfl B p9 F1 (Y a1);have rX:=zB (P:=l.prog) (w:=w) (base:=base) rfl B p9 pN F2 (Y a2);have rY:=zE (P:=l.prog) (w:=w) (base:=base) rfl B p9 pN F3 (Y a3);have F4:aQ5 K "_law_words" "_law_words" cR f4 _ T4 #[.int 0 tk4]:=⟨⟨_,_,_,_,_,_,_,_,_,rfl,l4,c4⟩,k4,⟨_,_,_,_,t4⟩⟩
 have rZ:aQ6 l.prog w K mg base 2 "_law_words" "least" 6 (.int 0) fK:=⟨⟨f4,_,["script","at","book","known","kind","most","least"],.int 0 tk4,.int 0,zU rfl B p9 F4,Y a4,k4,(λs us X' hl=>by obtain⟨_,_,_,_,_,_,_,rfl⟩:=l7 (by simpa using hl);exact uz rfl (X' _ _ t4) rfl rfl rfl),(λs us X' hl=>by obtain⟨_,_,_,_,_,_,rfl⟩:=l6 (by simpa using hl);exact uz rfl (X' _ _ t4) rfl rfl rfl),⟨_,rfl⟩,λ_=>.int 0,λs us y X' hl=>by obtain⟨_,_,_,_,_,_,rfl⟩:=l6 hl;first|exact .of_eq rfl|exact .of_eq 0x5|exact uz rfl (X' _ _ t4) rfl rfl rfl|exact uz rfl (X' _ _ t4) rfl 0x5 0x5⟩⟩
 have t0:=zV (P:=l.prog) (w:=w) (base:=base) rfl B p9 pN rZ F5 (Y a5);have t5:=wZ (P:=l.prog) (w:=w) (base:=base) rfl B p9 rY rX pN t0 F6 (Y a6);have t6:=zW (P:=l.prog) (w:=w) (base:=base) rfl B  F7 (Y a7);have t7:=M4 (P:=l.prog) (w:=w) (base:=base) rfl B  F8 (Y a8);have qz:=M5 (P:=l.prog) (w:=w) (base:=base) rfl B  F9 (Y a9);have t8:=M6 (P:=l.prog) (w:=w) (base:=base) rfl B  F10 (Y a10);have cl_Loom:Cls K p5:=⟨pg_Loom,qk,po_Loom,ql⟩
 have q_Loom:aEp l.prog w K mg base 2 "Loom" wK 1:=⟨p5,ph,_,_,p7,Y p7,⟨mk_Loom,qp,qr,qo⟩,aEt rfl B t8 cl_Loom (uS.2 ⟨pD,(uS.2 ⟨pE,(uS.2 ⟨pF,(uS.2 ⟨pG,(List.forall_mem_nil _)⟩)⟩)⟩)⟩) (tG (st:=wJ) pA pB pC),((tG (st:=wJ) pA pB pC).binds λ_ _ _ _ _ _ us hl=>by obtain⟨_,_,rfl⟩:=l2 hl;rfl)⟩
 have fl_Loom_heads:Y4 K "Loom" "heads":=λC h=>by cases (p7.symm.trans h);exact⟨cl_Loom,pD⟩
 have fl_Loom_takers:Y4 K "Loom" "takers":=λC h=>by cases (p7.symm.trans h);exact⟨cl_Loom,pE⟩
 have fl_Loom_pieces:Y4 K "Loom" "pieces":=λC h=>by cases (p7.symm.trans h);exact⟨cl_Loom,pF⟩
 have fl_Loom_ties:Y4 K "Loom" "ties":=λC h=>by cases (p7.symm.trans h);exact⟨cl_Loom,pG⟩
 have p8:aGc l.prog w K mg base 1 "Loom" "add_piece" 2 cW:=⟨p5,pi,_,_,p7,cl_Loom,⟨qt,qu,pq⟩,M7 rfl B fl_Loom_pieces (tG (st:=gG) pH pI pq),((tG (st:=gG) pH pI pq).binds λ_ _ _ _ _ _ us hl=>by obtain⟨_,_,rfl⟩:=l2 hl;rfl)⟩
 have pO:aGc l.prog w K mg base 2 "Loom" "lay" 3 RC:=⟨p5,pj,_,_,p7,cl_Loom,⟨qv,qw,pw⟩,aNm rfl B p8 fl_Loom_heads fl_Loom_takers fl_Loom_ties (tG (st:=HN) pJ pK pw),((tG (st:=HN) pJ pK pw).binds λ_ _ _ _ _ _ us hl=>by obtain⟨_,_,_,rfl⟩:=l3 hl;rfl)⟩
 have pQ:aGc l.prog w K mg base 2 "Loom" "serve" 3 uF:=⟨p5,pk,_,_,p7,cl_Loom,⟨qx,qy,pz⟩,aEu rfl B fl_Loom_ties p8 (tG (st:=uE) pL pM pz),((tG (st:=uE) pL pM pz).binds λ_ _ _ _ _ _ us hl=>by obtain⟨_,_,_,rfl⟩:=l3 hl;rfl)⟩
 have t9:=zX (P:=l.prog) (w:=w) (base:=base) rfl B qz pO pQ fl_Loom_ties fl_Loom_pieces q_Loom F11 (Y a11);have tf:=M8 (P:=l.prog) (w:=w) (base:=base) rfl B t9 F12 (Y a12);have tj:=M9 (P:=l.prog) (w:=w) (base:=base) rfl B qz F13 (Y a13);have tm:=M_ (P:=l.prog) (w:=w) (base:=base) rfl B qz F14 (Y a14);have tq:=NB (P:=l.prog) (w:=w) (base:=base) rfl B t7 tf tj tm F15 (Y a15);have qF:=zY (P:=l.prog) (w:=w) (base:=base) rfl B  F16 (Y a16);have tw:=NK (P:=l.prog) (w:=w) (base:=base) rfl B qF F17 (Y a17);have qG:=zZ (P:=l.prog) (w:=w) (base:=base) rfl B qF tw F18 (Y a18);have tx:=zF (P:=l.prog) (w:=w) (base:=base) rfl B qG F19 (Y a19);have tB:=A_ (P:=l.prog) (w:=w) (base:=base) rfl B qG F20 (Y a20);exact aNn rfl B t5 t6 tq tx tB (tG (st:=HS) l21 c21 k21)
theorem walk{l:OpenLaw}{q:bS}{loose:aa Str}{XP:(Str->au aj)->aI->Prop}{YP:bm->aI->Prop}{d:DefRec}{K:Params->Frag}(main:∀ns:aa ah,ns.length<=63->YQ [.scr (ns.map D.int)]=.ok (.bl ae))(hn:l.most=ab 63)(hdf:d.params.defaults=[])
 (hY:∀(w:bm) (h:aI),YP w h->(K w.params).In h)
 (F:∀(w:bm) (mg:Str->au aj) (fa:ak) (h:aI),(K w.params).In h->h.Ns cg mg->mg d.name=ab (.ref fa)->
   ∃fd:eu,(∀(s:am) (u:aj),kK s fd ⟨[u],[]⟩ [("script",u)])/\∀base:aI,(K w.params).In base->base.Ns cg mg->v6 l.prog w (K w.params) mg base CX0 7 fa fd ["script"] (@spD ⟨K w.params⟩ YQ 1)) :
  WalkO q loose XP YP l.row.toRowW d [] (λf vs=>xh f vs):=
 L2.aHt (n:=63) (k:=7) (x:= "script") (CX:=λ_=>CX0) (sp:=λw=>@spD ⟨K w.params⟩ YQ 1) hn 0x4 hdf ⟨rfl,by decide,by decide⟩ hY F (λw H a ns hl hO hS=>aAz main hl hO hS) λ_ _ _ _ _ z=>z
end Lk62
end
namespace Lk62
open PySem L2 Mi
theorem call_v(h:f (ds++bP (m-n) D.uD)=.ok (.rt d)):fnS n m f ds=.ok d:=by
 unfold fnS;rw[h];rfl
theorem aGj(h:f ρ=.ok (.rt d)):bK f g ρ=.ok (.rt d):=by
 unfold bK;rw[h];rfl
theorem aBw(a:ah)(h1:0<=a)(h2:a<4294967296):lN a=ae:=by
 simp only[lN,aT,dL];lia
theorem aQt(n:af):max2 [.int 1,.int n]=.ok (.int (if (1:ah)<n then n else 1)):=by
 rfl
def drw(ns:aa ah)(k:ah):ah:=match aP [.scr (ns.map D.int),.int k] with
 |.ok (.int r)=>r
 |_=>0
theorem aJk(ns:aa ah)(hn:ns.length<=63)(k:ah):∃r:ah,aP [.scr (ns.map D.int),.int k]=.ok (.int r)/\0<=r/\r<2147483629:=by
 have hl:dG [.scr (ns.map D.int)]=.ok (.int ns.length):=by
  show Res.ok (D.int ((ns.map D.int).length:ah))=_;rw[ax]
 have rest:∀cell:ah,∃r:ah,(bK (bZ ag 3 (b2 (bA .mod) (b2 lJ (b2 (bA .add) (b2 (bA .add) d_ bW) (b2 lJ yD (b2 (bA .fdiv) eO (aK max2 (aA bW (aA (aK dG (aA bQ aL)) aL)))))) DY) jL) ae) (gR (b2 (bA .mod) (b2 lJ cV cV) mO) ae)) [.scr (ns.map D.int),.int k,.int cell,.uD]=.ok (.rt (.int r))/\0<=r/\r<2147483629:=by
  intro cell;have hmx:=aQt ns.length;have hm:(0:ah)<(if (1:ah)<ns.length then (ns.length:ah) else 1)/\(if (1:ah)<ns.length then (ns.length:ah) else 1)<1073741824:=by split<;>lia
  generalize (if (1:ah)<ns.length then (ns.length:ah) else 1)=m at hmx hm;have f1:=gF k m hm.1 hm.2;have f2:=oA 104729 (k / m) 0x4;have f3:=cU cell 1;have f4:=cU (cell+1) (104729*(k / m));have f5:=aG1 (cell+1+104729*(k / m)) 48271 0x4;have f6:=dM ((cell+1+104729*(k / m))*48271) 2147483647 0x4;have x0:0<=(cell+1+104729*(k / m))*48271 % 2147483647:=eI _ 0x4;have x1:(cell+1+104729*(k / m))*48271 % 2147483647<2147483647:=ff _ 0x4;generalize (cell+1+104729*(k / m))*48271 % 2147483647=x at f6 x0 x1;have f7:=aG1 x x (aBw x x0 0x1);have f8:=dM (x*x) 2147483629 0x4;refine⟨x*x % 2147483629,?_,eI _ 0x4,ff _ 0x4⟩;refine aO (cD (aJ (aJ (aJ (aJ rfl rfl f3) (aJ rfl (aJ rfl (aU (aD rfl (aD (aU (aD rfl rfl) hl) rfl)) hmx) f1) f2) f4) rfl f5) rfl f6)) ?_;exact lX (aJ (aJ rfl rfl f7) rfl f8) rfl
 have fin:∀cell:ah,yX [.scr (ns.map D.int),.int k,.uD,.uD]=(bK (bZ ag 3 (b2 (bA .mod) (b2 lJ (b2 (bA .add) (b2 (bA .add) d_ bW) (b2 lJ yD (b2 (bA .fdiv) eO (aK max2 (aA bW (aA (aK dG (aA bQ aL)) aL)))))) DY) jL) ae) (gR (b2 (bA .mod) (b2 lJ cV cV) mO) ae)) [.scr (ns.map D.int),.int k,.int cell,.uD]->∃r:ah,aP [.scr (ns.map D.int),.int k]=.ok (.int r)/\0<=r/\r<2147483629:=λcell e=>by
  obtain⟨r,h1,h2⟩:=rest cell;exact⟨r,call_v (e.trans h1),h2⟩
 by_cases h0:(ns.length:ah) > 0
 ·have hc:b_ (.ord .gt) (.int ns.length) (.int 0)=.ok (.bl ae):=by
   show Res.ok (D.bl (decide (0<(ns.length:ah))))=_;rw[bi h0]
  have m1:=dM k ns.length h0;have i0:0<=k % (ns.length:ah):=eI _ 0x1;have i1:k % (ns.length:ah)<ns.length:=ff _ h0;generalize k % (ns.length:ah)=i at m1 i0 i1;have hlt:i.toNat<(ns.map D.int).length:=by rw[ax];lia
  have hg:getD (.scr (ns.map D.int)) (.int i)=.ok (.int (ns[i.toNat]' 0x1)):=by
   show Res.ofOpt ((ixD (ns.map D.int).length i).bind λj=>(ns.map D.int)[j]?)=_;unfold ixD;rw[ao i0,ao (by rw[ax];exact i1)];simp only[ua];rw[ef hlt,zi];rfl
  have m2:=dM (ns[i.toNat]' 0x1) 2147483647 0x4;refine fin _ (aO (cD rfl) (aO (Y0 (dR (aJ (aU (aD rfl rfl) hl) rfl hc)) (cD (aJ (aJ rfl (aJ rfl (aU (aD rfl rfl) hl) m1) hg) rfl m2))) rfl))
 ·have hc:b_ (.ord .gt) (.int ns.length) (.int 0)=.ok (.bl ag):=by
   show Res.ok (D.bl (decide (0<(ns.length:ah))))=_;rw[cK h0]
  exact fin 0 (aO (cD rfl) (aO (nQ (dR (aJ (aU (aD rfl rfl) hl) rfl hc)) rfl) rfl))
theorem oN(hn:ns.length<=63)(k:ah):bY 2 aP [.scr (ns.map D.int),.int k]=.ok (.int (drw ns k))/\0<=drw ns k/\drw ns k<2147483629:=by
 obtain⟨r,h1,h2⟩:=aJk ns hn k;have e:drw ns k=r:=by
  unfold drw;rw[h1]
 rw[e];exact⟨(eZ rfl).trans h1,h2⟩
noncomputable def abc:Str:= "abcdefghijklmnopqrstuvwxyz"
theorem aBx(x:Str)(n:af)(hx:x.cps.toList.length=n)(hl:x.length<=lim)(i:ah)(h0:0<=i)(h1:i<n):getD (.str x) (.int i)=.ok (.str ⟨#[x.cps.toList.getD i.toNat 0]⟩):=by
 have hix:ixD x.cps.toList.length i=ab i.toNat:=by
  unfold ixD;rw[ao h0,hx,ao 0x1]
 have hlt:i.toNat<x.cps.toList.length:=by rw[hx];lia
 show(if decide (x.length<=lim) then Res.ofOpt (((ixD x.cps.toList.length i).bind λj=>x.cps.toList[j]?).map λc=>D.str ⟨#[c]⟩) else .bad)=_;rw[bi hl,ao rfl,hix];simp only[ua];rw[cu,ef hlt];rfl
theorem aBy(i:ah)(h0:0<=i)(h1:i<26):getD (.str abc) (.int i)=.ok (.str ⟨#[abc.cps.toList.getD i.toNat 0]⟩):=aBx abc 26 0x6 0x6 i h0 h1
theorem aJl(i:ah)(h0:0<=i)(h1:i<4):getD (.str "abdz") (.int i)=.ok (.str ⟨#[("abdz" : Str).cps.toList.getD i.toNat 0]⟩):=aBx "abdz" 4 0x6 0x6 i h0 h1
noncomputable def one(c:af):Str:=⟨#[c]⟩
theorem NP(c:af)(n:af):(lg (one c) (n:ah)).cps.toList=bP n c:=by
 unfold lg;by_cases h:(n:ah)<1
 ·have:n=0:=by lia
  subst this;rw[ao h];rfl
 ·rw[aw h];by_cases h1:n=1
  ·subst h1;rfl
  ·rw[aw]
   ·have:∀(m:af)(acc:ay af),((bP m (one c).cps).foldl (·++·) acc).toList=acc.toList++bP m c:=by
     intro m;induction m with
     |zero=>intro acc;simp
     |succ m ih=>
      intro acc;rw[uv,Cl,ih,uv];simp[one]
    have:=this n #[];simpa using this
   ·have:(one c).length=1:=rfl;rw[this];simp;lia
theorem VG{p q r t:af}(h1:p≠q)(h2:p≠r)(h3:p≠t)(h4:q≠r)(h5:q≠t)(h6:r≠t):bP a c++d::bP b c≠[p,q,r,t]:=by
 intro h;have hl:=cz lP h;simp at hl;have:(a=0/\b=3)\/(a=1/\b=2)\/(a=2/\b=1)\/(a=3/\b=0):=by lia
 rcases this with ⟨rfl,rfl⟩|⟨rfl,rfl⟩|⟨rfl,rfl⟩|⟨rfl,rfl⟩<;>(simp[bP] at h;lia)
theorem VH{p q r t u:af}(h1:p≠q)(h2:p≠r)(h4:q≠r):bP a c++d::bP b c≠[p,q,r,t,u]\/(p=t\/q=t\/r=t):=by
 by_cases z:p=t\/q=t\/r=t
 ·exact .inr z
 refine .inl λh=>?_
 have hl:=cz lP h;simp at hl;have:(a=0/\b=4)\/(a=1/\b=3)\/(a=2/\b=2)\/(a=3/\b=1)\/(a=4/\b=0):=by lia
 rcases this with ⟨rfl,rfl⟩|⟨rfl,rfl⟩|⟨rfl,rfl⟩|⟨rfl,rfl⟩|⟨rfl,rfl⟩<;>(simp[bP] at h;lia)
theorem aEv:∀k,k<26->abc.cps.toList.getD k 0=97+k:=by decide +kernel
theorem jA:(2:af)<=lim:=by rw[cL];lia
theorem aKz:(3:af)<=lim:=by rw[cL];lia
theorem uY(h:a ρ=.ok xs)(hl:xs.length<=lim):zM a ρ=.ok (.lst xs):=by
 unfold zM;rw[h,Res.aY,ao (bi hl)];rfl
theorem oO(h:a ρ=.ok xs)(hl:xs.length<=lim)(hp:D.aW xs=ae):nJ a ρ=.ok (.lst xs):=by
 unfold nJ;rw[h,Res.aY,ao (by rw[bi hl,hp];rfl)];rfl
theorem JC(a b:D)(i:ah)(h0:0<=i)(h1:i<2):getD (.lst [a,b]) (.int i)=.ok (if i=0 then a else b):=by
 have:i=0\/i=1:=by lia
 rcases this with rfl|rfl
 ·rfl
 ·rfl
theorem aR9(c:af)(n:ah)(h0:0<=n)(h1:n<=100):lJ (.str (one c)) (.int n)=.ok (.str (lg (one c) n)):=by
 show(if decide (0<=n)&&decide (n<=100000)&&decide ((one c).length*n.toNat<=lim) then Res.ok (D.str (lg (one c) n)) else .bad)=_;rw[ao];have:(one c).length=1:=rfl;rw[this,bi h0,bi 0x1,bi (by rw[cL];lia)];rfl
theorem zG(a b:Str):(a++b).cps.toList=a.cps.toList++b.cps.toList:=by
 show(a.cps++b.cps).toList=_;exact Array.toList_append
theorem JD(a:Str):a.length=a.cps.toList.length:=by
 show a.cps.size=_;rw[lz]
def wrd(ns:aa ah)(i:ah):Str:=match aQ [.scr (ns.map D.int),.int i] with
 |.ok (.str x)=>x
 |_=>""
def Good(x:Str):Prop:=x ≠ "copy"/\x ≠ "drop"/\x.length<=100
theorem sJ:("copy" : Str).cps.toList=[99,111,112,121]:=by decide +kernel
theorem sO:("drop" : Str).cps.toList=[100,114,111,112]:=by decide +kernel
theorem five(x:Str)(h:x.cps.toList.length=5):Good x:=by
 refine⟨λz=>?_,λz=>?_,by rw[JD,h];lia⟩
 ·rw[z,sJ] at h;cases h
 ·rw[z,sO] at h;cases h
def Y5(ns:aa ah):af:=if drw ns 0 / 104 % 2=0 then abc.cps.toList.getD (drw ns 0 % 26).toNat 0 else ("abdz" : Str).cps.toList.getD (drw ns 0 / 26 % 4).toNat 0
def Sh(ns:aa ah)(i:ah)(x:Str):Prop:=(i=4/\∃c,x.cps.toList=[100,114,111,112,c])\/(i=17/\∃c,x.cps.toList=[99,111,112,121,c])\/∃t,x.cps.toList=bP (drw ns 1 % 8).toNat (Y5 ns)++(97+((i+drw ns 3) % 26).toNat)::bP t (Y5 ns)
theorem aJm(hn:ns.length<=63)(i:ah)(hi0:0<=i)(hi1:i<=33):∃x:Str,aQ [.scr (ns.map D.int),.int i]=.ok (.str x)/\Good x/\Sh ns i x:=by
 -- a draw,put down as an argument
 have dr:∀{ρ:aa D}{f:FE}{k:ah},h_ 0 ρ=.ok (.scr (ns.map D.int))->f ρ=.ok (.int k)->aK (bY 2 aP) (aA bQ (aA f aL)) ρ=.ok (.int (drw ns k)):=λh1 h2=>aU (aD h1 (aD h2 rfl)) (oN hn _).1
 have d0:=λk=>(oN hn k).2.1
 have d1:=λk=>(oN hn k).2.2
 have hin:inX (.int i) (.tup [.int 4,.int 17])=.ok (.bl ((4==i)||((17==i)||false))):=rfl;have ht:bN (aA v8 (aA D_ aL)) [.scr (ns.map D.int),.int i,.str abc,.uD,.uD,.uD,.uD]=.ok (.tup [.int 4,.int 17]):=bL (aD rfl (aD rfl rfl)) jA;have m5:=dM (drw ns 36) 5 0x4;have ce:b_ .eq (.int (drw ns 36 % 5)) (.int 1)=.ok (.bl (drw ns 36 % 5==1)):=rfl;by_cases hs:(i=4\/i=17)/\drw ns 36 % 5=1
 ·-- drop or copy and a letter
  have b1:((4==i)||((17==i)||false))=ae:=by
   rcases hs.1 with h|h<;>simp[h]
  rw[b1] at hin;rw[show(drw ns 36 % 5==1)=ae by simpa using hs.2] at ce;have f17:=gF i 17 0x4 0x4;have q0:0<=i / 17/\i / 17<2:=by rcases hs.1 with h|h<;>(rw[h];decide)
  have g1:=JC (.str "drop") (.str "copy") (i / 17) q0.1 q0.2;have m26:=dM (drw ns 37) 26 0x4;have g2:=aBy (drw ns 37 % 26) (eI _ 0x4) (ff _ 0x4);generalize abc.cps.toList.getD (drw ns 37 % 26).toNat 0=c at g2;obtain⟨w,hw,sw,g1'⟩:∃w:Str,w.cps.toList.length=4/\((i=4/\w.cps.toList=[100,114,111,112])\/(i=17/\w.cps.toList=[99,111,112,121]))/\getD (.lst [.str "drop",.str "copy"]) (.int (i / 17))=.ok (.str w):=by
   rcases hs.1 with z|z
   ·rw[ao (by rw[z];rfl)] at g1;exact⟨"drop",by rw[sO];rfl,.inl ⟨z,sO⟩,g1⟩
   ·rw[aw (by rw[z];decide)] at g1;exact⟨"copy",by rw[sJ];rfl,.inr ⟨z,sJ⟩,g1⟩
  have g2:getD (.str abc) (.int (drw ns 37 % 26))=.ok (.str (one c)):=g2;have g3:=QZ w (one c) (by rw[JD,hw,cL];show 4+1<=1000000;lia);refine⟨w++(one c),call_v ?_,five _ (by rw[zG,bj,hw];rfl),?_⟩
  rotate_left
  ·rcases sw with ⟨z,e⟩|⟨z,e⟩
   ·exact .inl ⟨z,c,by rw[zG,e];rfl⟩
   ·exact .inr (.inl ⟨z,c,by rw[zG,e];rfl⟩)
  refine aO (cD rfl) ?_;refine aGj (Y0 (aB2 (dR (aJ rfl ht hin)) (dR (aJ (aJ (dr rfl rfl) rfl m5) rfl ce))) ?_);show gR (b2 (bA .add) (b2 getD (zM (aA (bC (.str "drop")) (aA (bC (.str "copy")) aL))) (b2 (bA .fdiv) eO D_)) (b2 getD d_ (b2 (bA .mod) (aK (bY 2 aP) (aA bQ (aA aHw aL))) EY))) ae [.scr (ns.map D.int),.int i,.str abc,.uD,.uD,.uD,.uD]=.ok (.rt (.str (w++(one c))));exact lX (aJ (aJ (uY (aD rfl (aD rfl rfl)) jA) (aJ rfl rfl f17) g1') (aJ rfl (aJ (dr rfl rfl) rfl m26) g2) g3) rfl
 ·-- a word of one sign but one
  have hif:(sIf (YZ (bTB (b2 inX eO (bN (aA v8 (aA D_ aL))))) (bTB (b2 (b_ .eq) (b2 (bA .mod) (aK (bY 2 aP) (aA bQ (aA (bC (.int 36)) aL))) aA5) bW))) (gR (b2 (bA .add) (b2 getD (zM (aA (bC (.str "drop")) (aA (bC (.str "copy")) aL))) (b2 (bA .fdiv) eO D_)) (b2 getD d_ (b2 (bA .mod) (aK (bY 2 aP) (aA bQ (aA aHw aL))) EY))) ae) j6) [.scr (ns.map D.int),.int i,.str abc,.uD,.uD,.uD,.uD]=.ok (.nx [.scr (ns.map D.int),.int i,.str abc,.uD,.uD,.uD,.uD]):=by
   by_cases h1:i=4\/i=17
   ·have b1:((4==i)||((17==i)||false))=ae:=by rcases h1 with h|h<;>simp[h]
    have h2:¬drw ns 36 % 5=1:=λz=>hs ⟨h1,z⟩
    rw[b1] at hin;rw[show(drw ns 36 % 5==1)=ag by simpa using h2] at ce;exact nQ (aB2 (dR (aJ rfl ht hin)) (dR (aJ (aJ (dr rfl rfl) rfl m5) rfl ce))) rfl
   ·have b1:((4==i)||((17==i)||false))=ag:=by
     rw[gu] at h1;simp only[w_,zj,fF,ne_eq];lia
    rw[b1] at hin;exact nQ (aIk (dR (aJ rfl ht hin))) rfl
  have a26:=dM (drw ns 0) 26 0x4;have b26:=gF (drw ns 0) 26 0x4 0x4;have b4:=dM (drw ns 0 / 26) 4 0x4;have c104:=gF (drw ns 0) 104 0x4 0x4;have c2:=dM (drw ns 0 / 104) 2 0x4;have g1:=aBy (drw ns 0 % 26) (eI _ 0x4) (ff _ 0x4);have g2:=aJl (drw ns 0 / 26 % 4) (eI _ 0x4) (ff _ 0x4);have hpd:Y5 ns=if drw ns 0 / 104 % 2=0 then abc.cps.toList.getD (drw ns 0 % 26).toNat 0 else ("abdz" : Str).cps.toList.getD (drw ns 0 / 26 % 4).toNat 0:=rfl
  generalize abc.cps.toList.getD (drw ns 0 % 26).toNat 0=p1 at g1 hpd;generalize ("abdz" : Str).cps.toList.getD (drw ns 0 / 26 % 4).toNat 0=p2 at g2 hpd;have g3:getD (.lst [.str ⟨#[p1]⟩,.str ⟨#[p2]⟩]) (.int (drw ns 0 / 104 % 2))=.ok (.str (one (Y5 ns))):=by
   have:=JC (.str ⟨#[p1]⟩) (.str ⟨#[p2]⟩) (drw ns 0 / 104 % 2) (eI _ 0x4) (ff _ 0x4);rw[this,hpd];by_cases z:drw ns 0 / 104 % 2=0
   ·rw[ao z,ao z];rfl
   ·rw[aw z,aw z];rfl
  have hsh:∀(x:Str)(t:af),x.cps.toList=bP (drw ns 1 % 8).toNat (Y5 ns)++(97+((i+drw ns 3) % 26).toNat)::bP t (Y5 ns)->Sh ns i x:=λx t e=>.inr (.inr ⟨t,e⟩)
  generalize Y5 ns=pd at g3 hsh;have e8:=dM (drw ns 1) 8 0x4;have pl0:0<=drw ns 1 % 8:=eI _ 0x4;have pl1:drw ns 1 % 8<8:=ff _ 0x4;generalize hpl:drw ns 1 % 8=pl at e8 pl0 pl1 hsh;have s8:=aG0 8 pl;have t1:=dM (drw ns 2) (8-pl) 0x1;have t2:=dM (drw ns (4+i)) (8-pl) 0x1;have f8:=gF (drw ns 1) 8 0x4 0x4;have f2:=dM (drw ns 1 / 8) 2 0x4;have ce2:b_ .eq (.int (drw ns 1 / 8 % 2)) (.int 1)=.ok (.bl (drw ns 1 / 8 % 2==1)):=rfl;have l1:=cU i (drw ns 3);have l2:=dM (i+drw ns 3) 26 0x4;have k0:0<=(i+drw ns 3) % 26:=eI _ 0x4;have k1:(i+drw ns 3) % 26<26:=ff _ 0x4;have g4:=aBy ((i+drw ns 3) % 26) k0 k1;rw[aEv _ 0x1] at g4;generalize 97+((i+drw ns 3) % 26).toNat=c at g4 hsh
  -- the tail
  obtain⟨tl,tl0,tl1,htl⟩:∃tl:ah,0<=tl/\tl<8/\(bK (bZ ag 6 (b2 (bA .mod) (aK (bY 2 aP) (aA bQ (aA d9 aL))) (b2 (bA .sub) aDl d8)) ae) (sIf (bTB (b2 (b_ .eq) (b2 (bA .mod) (b2 (bA .fdiv) (aK (bY 2 aP) (aA bQ (aA bW aL))) aDl) d9) bW)) (bZ ag 6 (b2 (bA .mod) (aK (bY 2 aP) (aA bQ (aA (b2 (bA .add) v8 eO) aL))) (b2 (bA .sub) aDl d8)) ae) j6)) [.scr (ns.map D.int),.int i,.str abc,.int (drw ns 0),.str (one pd),.int pl,.uD]=.ok (.nx [.scr (ns.map D.int),.int i,.str abc,.int (drw ns 0),.str (one pd),.int pl,.int tl]):=by
   have first:(bZ ag 6 (b2 (bA .mod) (aK (bY 2 aP) (aA bQ (aA d9 aL))) (b2 (bA .sub) aDl d8)) ae) [.scr (ns.map D.int),.int i,.str abc,.int (drw ns 0),.str (one pd),.int pl,.uD]=.ok (.nx [.scr (ns.map D.int),.int i,.str abc,.int (drw ns 0),.str (one pd),.int pl,.int (drw ns 2 % (8-pl))]):=cD (aJ (dr rfl rfl) (aJ rfl rfl s8) t1)
   have tst:bTB (b2 (b_ .eq) (b2 (bA .mod) (b2 (bA .fdiv) (aK (bY 2 aP) (aA bQ (aA bW aL))) aDl) d9) bW) [.scr (ns.map D.int),.int i,.str abc,.int (drw ns 0),.str (one pd),.int pl,.int (drw ns 2 % (8-pl))]=.ok (drw ns 1 / 8 % 2==1):=dR (aJ (aJ (aJ (dr rfl rfl) rfl f8) rfl f2) rfl ce2);have u0:0<=drw ns 2 % (8-pl):=eI _ 0x1;have u1:drw ns 2 % (8-pl)<8-pl:=ff _ 0x1;have v0:0<=drw ns (4+i) % (8-pl):=eI _ 0x1;have v1:drw ns (4+i) % (8-pl)<8-pl:=ff _ 0x1;cases hb:(drw ns 1 / 8 % 2==1) with
   |true=>
    rw[hb] at tst;exact⟨_,v0,by lia,aO first (Y0 tst (cD (aJ (dr rfl (aJ rfl rfl (cU 4 i))) (aJ rfl rfl s8) t2)))⟩
   |false=>
    rw[hb] at tst;exact⟨_,u0,by lia,aO first (nQ tst rfl)⟩
  have mp:=aR9 pd pl pl0 0x1;have mt:=aR9 pd tl tl0 0x1;have cp:=NP pd pl.toNat;have ct:=NP pd tl.toNat;rw[show((pl.toNat:af):ah)=pl by lia] at cp;rw[show((tl.toNat:af):ah)=tl by lia] at ct;generalize lg (one pd) pl=xp at mp cp;generalize lg (one pd) tl=xt at mt ct;have lp:xp.length<=8:=by rw[JD,cp,nI];lia
  have lt:xt.length<=8:=by rw[JD,ct,nI];lia
  have a1:=QZ xp ⟨#[c]⟩ (by rw[cL];show xp.length+1<=1000000;lia);have l9:(xp++⟨#[c]⟩:Str).length=xp.length+1:=str_len xp ⟨#[c]⟩;have a2:=QZ (xp++⟨#[c]⟩) xt (by rw[l9,cL];lia);have codes:(xp++⟨#[c]⟩++xt:Str).cps.toList=bP pl.toNat pd++c::bP tl.toNat pd:=by
   rw[zG,zG,cp,ct,dE];rfl
  refine⟨xp++⟨#[c]⟩++xt,call_v ?_,⟨λz=>?_,λz=>?_,by rw[str_len,l9];lia⟩,hsh _ _ codes⟩
  ·refine aO (cD rfl) ?_;refine aO hif ?_;refine aO (cD (dr rfl rfl)) ?_;refine aO (eN (aJ (uY (aD (aJ rfl (aJ rfl rfl a26) g1) (aD (aJ rfl (aJ (aJ rfl rfl b26) rfl b4) g2) rfl)) jA) (aJ (aJ rfl rfl c104) rfl c2) g3) rfl) ?_;refine aO (cD (aJ (dr rfl rfl) rfl e8)) ?_;have split:∀{f g h:FS}{ρ ρ':aa D}{r:Res Fl},bK f g ρ=.ok (.nx ρ')->h ρ'=r->bK f (bK g h) ρ=r:=by
    intro f g h ρ ρ' r e1 e2;unfold bK at e1 ⊢;cases hf:f ρ with
    |bad=>rw[hf] at e1;cases e1
    |err c as=>rw[hf] at e1;cases e1
    |ok fl=>
     rw[hf] at e1;cases fl with
     |nx ρ1=>
      simp only[Res.aY] at e1 ⊢;rw[e1];exact e2
     |rt d=>cases e1
     |bk d=>cases e1
     |ct d=>cases e1
   refine split htl ?_;exact lX (aJ (aJ (aJ rfl rfl mp) (aJ rfl (aJ (aJ rfl (dr rfl rfl) l1) rfl l2) g4) a1) (aJ rfl rfl mt) a2) rfl
  ·have:(xp++⟨#[c]⟩++xt:Str).cps.toList=_:=cz (λx:Str=>x.cps.toList) z;rw[codes,sJ] at this;exact VG 0x4 0x4 0x4 0x4 0x4 0x4 this
  ·have:(xp++⟨#[c]⟩++xt:Str).cps.toList=_:=cz (λx:Str=>x.cps.toList) z;rw[codes,sO] at this;exact VG 0x4 0x4 0x4 0x4 0x4 0x4 this
theorem xK(hn:ns.length<=63)(hi0:0<=i)(hi1:i<=33):bY 2 aQ [.scr (ns.map D.int),.int i]=.ok (.str (wrd ns i))/\Good (wrd ns i)/\Sh ns i (wrd ns i):=by
 obtain⟨x,h1,h2⟩:=aJm hn i hi0 hi1;have e:wrd ns i=x:=by
  unfold wrd;rw[h1]
 rw[e];exact⟨(eZ rfl).trans h1,h2⟩
theorem oR(hn:ns.length<=63)(hi0:0<=i)(hi1:i<=33):bY 2 aQ [.scr (ns.map D.int),.int i]=.ok (.str (wrd ns i))/\Good (wrd ns i):=⟨(xK hn hi0 hi1).1,(xK hn hi0 hi1).2.1⟩
theorem vU(hn:ns.length<=63)(hi0:0<=i)(hi1:i<=25)(hj0:0<=j)(hj1:j<=25)(h:wrd ns i=wrd ns j):i=j:=by
 have si:=(xK hn hi0 0x1).2.2;have sj:=(xK hn hj0 0x1).2.2;rw[h] at si;have bad:∀{a b:af}{e u:af},(bP a (Y5 ns)++e::bP b (Y5 ns)=[100,114,111,112,u]->cw)/\(bP a (Y5 ns)++e::bP b (Y5 ns)=[99,111,112,121,u]->cw):=by
  intro a b e u;refine⟨λz=>?_,λz=>?_⟩
  ·rcases VH (p:=100) (q:=114) (r:=111) (t:=112) (u:=u) 0x4 0x4 0x4 with q|q
   ·exact q z
   ·lia
  ·rcases VH (c:=Y5 ns) (d:=e) (a:=a) (b:=b) (p:=99) (q:=111) (r:=112) (t:=121) (u:=u) 0x4 0x4 0x4 with q|q
   ·exact q z
   ·lia
 rcases si with ⟨a1,c1,e1⟩|⟨a1,c1,e1⟩|⟨t1,e1⟩<;>rcases sj with ⟨a2,c2,e2⟩|⟨a2,c2,e2⟩|⟨t2,e2⟩<;>rw[e1] at e2
 ·lia
 ·cases e2
 ·exact(bad.1 e2.symm).elim
 ·cases e2
 ·lia
 ·exact(bad.2 e2.symm).elim
 ·exact(bad.1 e2).elim
 ·exact(bad.2 e2).elim
 ·have:=List.append_cancel_left e2;injection this with q _
  have m1:=eI (i+drw ns 3) (show(26:ah)≠0 by decide);have m2:=eI (j+drw ns 3) (show(26:ah)≠0 by decide);lia
noncomputable abbrev Mk:=Str×Str×aa Str
noncomputable def mkD(m:Mk):D:=.tup [.str m.1,.str m.2.1,.tup (m.2.2.map D.str)]
noncomputable abbrev Tk:=Str×Str×Str×aa Str
noncomputable def tkD(t:Tk):D:=.tup [.str t.1,.str t.2.1,.str t.2.2.1,.tup (t.2.2.2.map D.str)]
theorem bR:∀L:aa Str,D.aW (L.map D.str)=ae
 |[]=>rfl
 |x::L=>by
  show((D.str x).pure&&D.aW (L.map D.str))=ae;rw[bR L];rfl
theorem jC(m:Mk):(mkD m).pure=ae:=by
 show(ae&&(ae&&((D.tup (m.2.2.map D.str)).pure&&ae)))=ae;rw[D.pure,bR];rfl
theorem m7(m:Tk):(tkD m).pure=ae:=by
 show(ae&&(ae&&(ae&&((D.tup (m.2.2.2.map D.str)).pure&&ae))))=ae;rw[D.pure,bR];rfl
theorem aV{f:α->D}(h:∀a,(f a).pure=ae):∀L:aa α,D.aW (L.map f)=ae
 |[]=>rfl
 |x::L=>by
  show((f x).pure&&D.aW (L.map f))=ae;rw[h,aV h L];rfl
def IsK(ns:aa ah)(many:ah)(x:Str):Prop:=∃j:ah,0<=j/\j<many/\x=wrd ns j
theorem NQ(g:aa D->D->Res (aa D))(d:α->D)(P:α->Prop):∀(xs acc:aa D),(∀x∈xs,∀acc,∃ys:aa α,(∀y∈ys,P y)/\ys.length<=1/\g acc x=.ok (acc++ys.map d))->∃zs:aa α,(∀z∈zs,P z)/\zs.length<=xs.length/\iI g acc xs=.ok (acc++zs.map d)
 |[],acc,_=>⟨[],λ_ h=>(by cases h),aS _,(by simp[iI])⟩
 |x::xs,acc,h=>by
  obtain⟨ys,h1,h2,h3⟩:=h x (bn ..) acc;obtain⟨zs,i1,i2,i3⟩:=NQ g d P xs (acc++ys.map d) λy hy=>h y (bz _ hy)
  refine⟨ys++zs,λz hz=>?_,by rw[bj,bc];lia,?_⟩
  ·rcases eS.mp hz with hz|hz
   ·exact h1 z hz
   ·exact i1 z hz
  ·rw[iI,h3];show iI g _ _=_;rw[i3,cr,dE]
theorem sS(g:aa D->D->Res (aa D))(d:α->D)(P:α->Prop):∀(xs acc:aa D),(∀x∈xs,∀acc,∃y:α,P y/\g acc x=.ok (acc++[d y]))->∃zs:aa α,(∀z∈zs,P z)/\zs.length=xs.length/\iI g acc xs=.ok (acc++zs.map d)
 |[],acc,_=>⟨[],λ_ h=>(by cases h),rfl,(by simp[iI])⟩
 |x::xs,acc,h=>by
  obtain⟨y,h1,h3⟩:=h x (bn ..) acc;obtain⟨zs,i1,i2,i3⟩:=sS g d P xs (acc++[d y]) λy hy=>h y (bz _ hy)
  refine⟨y::zs,λz hz=>?_,by rw[bc,bc,i2],?_⟩
  ·rcases bq.mp hz with rfl|hz
   ·exact h1
   ·exact i1 z hz
  ·rw[iI,h3];show iI g _ _=_;rw[i3,dE];rfl
theorem fL(hρ:ρ.length=n)(ht:t x=.ok bs)(h1:c (ρ++bs)=.ok b)(h2:b=ae->f (ρ++bs)=.ok y/\(k||y.pure)=ae):jM n t c f k ρ acc x=.ok (if b then acc++[y] else acc):=by
 unfold jM;rw[ht,Res.aY,KN hρ,h1,Res.aY];cases b with
 |false=>rfl
 |true=>
  obtain⟨h3,h4⟩:=h2 rfl;simp only[eB,h3,Res.aY,h4];rfl
theorem DN(hn:ns.length<=63)(hm:0<many)(hm3:many<=3)(hρ:ρ.length=n)(h0:∀x:D,h_ 0 (ρ++[x])=.ok (.scr (ns.map D.int)))(hg:g ρ=.ok [.int sz])(hs0:0<=sz)(hs1:sz<=3)
 (hf:∀p:ah,0<=p->p<=3->∃j:ah,0<=j/\j<many/\f (ρ++[.int p])=.ok (.int j)) :
  ∃xs:aa Str,(∀x∈xs,IsK ns many x)/\(xs.length<=3/\xs.length=sz.toNat)/\aK gY (aA (eQ n (fX g lO) iV dX (aK (bY 2 aQ) (aA bQ (aA f aL))) ae) aL) ρ=.ok (.tup (xs.map D.str)):=by
 obtain⟨xs,h1,h2,h3⟩:=sS (jM n iV dX (aK (bY 2 aQ) (aA bQ (aA f aL))) ae ρ) D.str (IsK ns many) ((bw sz.toNat).map λ(k:af)=>D.int (0+(k:ah))) [] (λx hx acc=>by
  obtain⟨k,hk,rfl⟩:=bE.mp hx;have hk:=fN.mp hk;obtain⟨j,j0,j1,e⟩:=hf (0+(k:ah)) 0x1 0x1;have w:=(oR hn j0 (show j<=33 by lia)).1;refine⟨wrd ns j,⟨j,j0,j1,rfl⟩,?_⟩
  ·exact fL (b:=ae) hρ rfl rfl λ_=>⟨aU (aD (h0 _) (aD e rfl)) w,rfl⟩)
 rw[dl] at h3;rw[ax,dy] at h2;exact⟨xs,h1,⟨by lia,h2⟩,aU (aD (gD (wC hg hs0 0x1) (by rw[ax,dy,cL];lia) h3) rfl) rfl⟩
def imk:FS:=(bK (bZ ag 6 (aK (bY 2 aP) (aA bQ (aA (b2 (bA .add) (b2 (bA .add) aDn (b2 lJ kE cV)) d8) aL))) ae) (bK (bZ ag 7 (b2 getD (zM (aA bW (aA (b2 (bA .mod) fP v8) aL))) (b2 (bA .sub) d8 bW)) ag) (bK (bZ ag 8 (aK gY (aA (eQ 9 (fX (aA eE aL) lO) iV dX (aK (bY 2 aQ) (aA bQ (aA (b2 (bA .mod) (b2 (bA .fdiv) fP (b2 (bA .add) aPu (b2 lJ aKr nY))) eO) aL))) ae) aL)) ag) (v_ 2 (bN (aA (aK (bY 2 aQ) (aA bQ (aA (b2 (bA .add) (b2 (bA .add) kE (b2 lJ kE cV)) d8) aL))) (aA (aK (bY 2 aQ) (aA bQ (aA cV aL))) (aA nA aL))))))))
def NT(ns:aa ah)(many:ah)(m:Mk):Prop:=Good m.1/\m.2.2.length<=3/\∀p∈m.2.2,IsK ns many p
theorem uZ(hn:ns.length<=63)(h1:h_ 0 ρ=.ok (.scr (ns.map D.int)))(h2:f ρ=.ok (.int k)):aK (bY 2 aP) (aA bQ (aA f aL)) ρ=.ok (.int (drw ns k)):=aU (aD h1 (aD h2 rfl)) (oN hn _).1
theorem wR(hn:ns.length<=63)(h1:h_ 0 ρ=.ok (.scr (ns.map D.int)))(h2:f ρ=.ok (.int k))(h3:0<=k)(h4:k<=33):aK (bY 2 aQ) (aA bQ (aA f aL)) ρ=.ok (.str (wrd ns k)):=aU (aD h1 (aD h2 rfl)) (oR hn h3 h4).1
theorem aNp(hn:ns.length<=63)(hm:0<many)(hm3:many<=3)(hj0:0<=j)(hj:j<many)(hM:M.length<=100)(hi0:1<=i)(hi1:i<=2) :
  ∃(m:Mk)(y6 y7 y8:D),NT ns many m/\m.2.1=wrd ns j/\(m.1=wrd ns (3+3*j+i)/\(i=1->m.2.2.length=1))/\imk [.scr (ns.map D.int),.int many,.lst (M.map mkD),.int j,x4,.int i,x6,x7,x8]=.ok (.nx [.scr (ns.map D.int),.int many,.lst ((M++[m]).map mkD),.int j,x4,.int i,y6,y7,y8]):=by
 have a3:=oA 3 j 0x4;have a40:=cU 40 (3*j);have a41:=cU (40+3*j) i;have d0:=(oN hn (40+3*j+i)).2.1;generalize hdr:drw ns (40+3*j+i)=dr at d0;have m4:=dM dr 4 0x4;have s1:=aG0 i 1;have g1:=JC (.int 1) (.int (dr % 4)) (i-1) 0x1 0x1;obtain⟨sz,sz0,sz3,sz1,g1'⟩:∃sz:ah,0<=sz/\sz<=3/\(i=1->sz=1)/\getD (.lst [.int 1,.int (dr % 4)]) (.int (i-1))=.ok (.int sz):=by
  by_cases z:i-1=0
  ·rw[ao z] at g1;exact⟨1,by decide,by decide,λ_=>rfl,g1⟩
  ·rw[aw z] at g1;exact⟨dr % 4,by lia,by lia,λq=>aE 0x1 z,g1⟩
 obtain⟨xs,k1,k2,k3⟩:=DN (n:=9) (ρ:=[.scr (ns.map D.int),.int many,.lst (M.map mkD),.int j,x4,.int i,.int dr,.int sz,x8]) (f:=b2 (bA .mod) (b2 (bA .fdiv) fP (b2 (bA .add) aPu (b2 lJ aKr nY))) eO) (sz:=sz) (g:=aA eE aL) hn hm hm3 rfl (λ_=>rfl) (aD rfl rfl) sz0 sz3 (λp p0 p3=>by
  have e1:=oA 7 p 0x4;have e2:=cU 6 (7*p);have e3:=gF dr (6+7*p) 0x1 0x1;have e4:=dM (dr / (6+7*p)) many hm;exact⟨_,eI _ 0x1,ff _ hm,aJ (x:=.int (dr / (6+7*p))) (y:=.int many) (aJ (x:=.int dr) (y:=.int (6+7*p)) rfl (aJ (x:=.int 6) (y:=.int (7*p)) rfl (aJ (x:=.int 7) (y:=.int p) rfl rfl e1) e2) e3) rfl e4⟩)
 have w1:=oR hn (i:=3+3*j+i) 0x1 0x1;refine⟨(wrd ns (3+3*j+i),wrd ns j,xs),.int dr,.int sz,.tup (xs.map D.str),⟨w1.2,k2.1,k1⟩,rfl,⟨rfl,λq=>by have:=sz1 q;have:=k2.2;show xs.length=1;lia⟩,?_⟩;refine aO (ρ':=[.scr (ns.map D.int),.int many,.lst (M.map mkD),.int j,x4,.int i,.int dr,x7,x8]) (cD (i:=6) (by rw[<-hdr];exact uZ hn rfl (aJ (x:=.int (40+3*j)) (y:=.int i) (aJ (x:=.int 40) (y:=.int (3*j)) rfl (aJ (x:=.int 3) (y:=.int j) rfl rfl a3) a40) rfl a41))) ?_;refine aO (ρ':=[.scr (ns.map D.int),.int many,.lst (M.map mkD),.int j,x4,.int i,.int dr,.int sz,x8]) (eN (i:=7) (aJ (x:=.lst [.int 1,.int (dr % 4)]) (y:=.int (i-1)) (uY (xs:=[.int 1,.int (dr % 4)]) (aD rfl (aD (aJ (x:=.int dr) rfl rfl m4) rfl)) jA) (aJ (x:=.int i) rfl rfl s1) g1') rfl) ?_;refine aO (ρ':=[.scr (ns.map D.int),.int many,.lst (M.map mkD),.int j,x4,.int i,.int dr,.int sz,.tup (xs.map D.str)]) (eN (i:=8) k3 (by rw[D.pure,bR])) ?_;have ap:=n_ (i:=2) (ρ:=[.scr (ns.map D.int),.int many,.lst (M.map mkD),.int j,x4,.int i,.int dr,.int sz,.tup (xs.map D.str)]) (f:=bN (aA (aK (bY 2 aQ) (aA bQ (aA (b2 (bA .add) (b2 (bA .add) kE (b2 lJ kE cV)) d8) aL))) (aA (aK (bY 2 aQ) (aA bQ (aA cV aL))) (aA nA aL)))) (xs:=M.map mkD) (d:=mkD (wrd ns (3+3*j+i),wrd ns j,xs)) (bL (xs:=[.str (wrd ns (3+3*j+i)),.str (wrd ns j),.tup (xs.map D.str)]) (aD (wR hn rfl (aJ (x:=.int (3+3*j)) (y:=.int i) (aJ (x:=.int 3) (y:=.int (3*j)) rfl (aJ (x:=.int 3) (y:=.int j) rfl rfl a3) (cU _ _)) rfl (cU _ _)) 0x1 0x1) (aD (wR hn rfl rfl hj0 0x1) (aD rfl rfl))) aKz) rfl (by rw[ax,cL];lia) (jC _);rw[cr];exact ap
theorem VJ(hn:ns.length<=63)(hm:0<many)(hm3:many<=3)(hj0:0<=j)(hj:j<many):∀(ks:aa af)(M:aa Mk)(x5 x6 x7 x8:D),(∀k∈ks,k<=1)->M.length+ks.length<=100->
  ∃(N:aa Mk)(y5 y6 y7 y8:D),(∀m∈N,NT ns many m/\m.2.1=wrd ns j)/\(N.map (·.1)=ks.map (λ(k:af)=>wrd ns (3+3*j+(1+(k:ah))))/\∀q,ks=0::q->∃m N',N=m::N'/\m.2.2.length=1)/\tU (tg1 5) imk (ks.map λ(k:af)=>D.int (1+(k:ah))) [.scr (ns.map D.int),.int many,.lst (M.map mkD),.int j,x4,x5,x6,x7,x8]=.ok (.nx [.scr (ns.map D.int),.int many,.lst ((M++N).map mkD),.int j,x4,y5,y6,y7,y8])
 |[],M,x5,x6,x7,x8,_,_=>⟨[],x5,x6,x7,x8,λ_ h=>(by cases h),⟨rfl,λ_ h=>(by cases h)⟩,by rw[d6];rfl⟩
 |k::ks,M,x5,x6,x7,x8,h,hl=>by
  rw[bc] at hl;have hk:=h k (bn ..);obtain⟨m,y6,y7,y8,h1,h2,h3,e⟩:=aNp hn hm hm3 hj0 hj (M:=M) 0x1 (i:=1+(k:ah)) 0x1 0x1 (x6:=x6) (x7:=x7) (x8:=x8);obtain⟨N,z5,z6,z7,z8,i1,i2,i3⟩:=VJ (x4:=x4) hn hm hm3 hj0 hj ks (M++[m]) (.int (1+(k:ah))) y6 y7 y8 (λq hq=>h q (bz _ hq)) (by rw[bj];show M.length+1+ks.length<=100;lia);refine⟨m::N,z5,z6,z7,z8,λq hq=>?_,⟨by rw[bh,bh,i2.1,h3.1],λq hq=>⟨m,N,rfl,h3.2 (by injection hq with hq _;lia)⟩⟩,?_⟩
  ·rcases bq.mp hq with rfl|hq
   ·exact⟨h1,h2⟩
   ·exact i1 q hq
  ·rw[bh,show M++m::N=(M++[m])++N by simp];exact cQ (ρ1:=[.scr (ns.map D.int),.int many,.lst (M.map mkD),.int j,x4,.int (1+(k:ah)),x6,x7,x8]) rfl e i3
theorem vV(h:f ρ=.ok [.int a,.int b])(h1:-1000000<=a)(h2:a<=1000000)(h3:-1000000<=b)(h4:b<=1000000):fX f vD ρ=.ok ((bw (b-a).toNat).map λ(k:af)=>D.int (a+(k:ah)),ae):=by
 unfold fX;rw[h,Res.aY];have e1:j4 a=ae:=by simp only[j4,dL,aT];lia
 have e2:j4 b=ae:=by simp only[j4,dL,aT];lia
 rw[vD,e1,e2];rfl
theorem aL0(a b:ah):b_ (.ord .gt) (.int a) (.int b)=.ok (.bl (decide (b<a))):=yS rfl rfl rfl
def omk:FS:=(bK (bZ ag 4 (bN aL) ae) (bK (sIf (YZ (bTB (b2 (b_ (.ord .gt)) cV bJ)) (bTB (b2 (b_ (.ord .gt)) (b2 (bA .mod) (b2 (bA .fdiv) (aK (bY 2 aP) (aA bQ (aA aDm aL))) cV) kE) bJ))) (bZ ag 4 (bN (aA (aK (bY 2 aQ) (aA bQ (aA bJ aL))) aL)) ae) j6) (bK (v_ 2 (bN (aA (aK (bY 2 aQ) (aA bQ (aA (b2 (bA .add) kE (b2 lJ kE cV)) aL))) (aA (aK (bY 2 aQ) (aA bQ (aA cV aL))) (aA fD aL))))) (tV (fX (aA bW (aA (b2 (bA .add) d9 (b2 (bA .mod) (aK (bY 2 aP) (aA bQ (aA (b2 (bA .add) aDn (b2 lJ kE cV)) aL))) d9)) aL)) vD) (tg1 5) imk))))
theorem aNq(hn:ns.length<=63)(hm:0<many)(hm3:many<=3)(hj0:0<=j)(hj:j<many)(hM:M.length<=50) :
  ∃(fs:aa Str)(N:aa Mk)(y4 y5 y6 y7 y8:D),(fs=[]\/(fs=[wrd ns 0]/\0<j))/\Good (wrd ns (3+3*j))/\(∀m∈N,NT ns many m/\m.2.1=wrd ns j)/\(∃c:af,(c=1\/c=2)/\N.map (·.1)=(bw c).map (λ(k:af)=>wrd ns (3+3*j+(1+(k:ah))))/\∃m N',N=m::N'/\m.2.2.length=1)/\omk [.scr (ns.map D.int),.int many,.lst (M.map mkD),.int j,x4,x5,x6,x7,x8]=.ok (.nx [.scr (ns.map D.int),.int many,.lst ((M++(wrd ns (3+3*j),wrd ns j,fs)::N).map mkD),.int j,y4,y5,y6,y7,y8]):=by
 have a3:=oA 3 j 0x4;have a40:=cU 40 (3*j);have b3:=cU 3 (3*j);obtain⟨fs,hfs,hif⟩:∃fs:aa Str,(fs=[]\/(fs=[wrd ns 0]/\0<j))/\sIf (YZ (bTB (b2 (b_ (.ord .gt)) cV bJ)) (bTB (b2 (b_ (.ord .gt)) (b2 (bA .mod) (b2 (bA .fdiv) (aK (bY 2 aP) (aA bQ (aA aDm aL))) cV) kE) bJ))) (bZ ag 4 (bN (aA (aK (bY 2 aQ) (aA bQ (aA bJ aL))) aL)) ae) j6 [.scr (ns.map D.int),.int many,.lst (M.map mkD),.int j,.tup [],x5,x6,x7,x8]=.ok (.nx [.scr (ns.map D.int),.int many,.lst (M.map mkD),.int j,.tup (fs.map D.str),x5,x6,x7,x8]):=by
  by_cases z:0<j
  ·have c0:bTB (b2 (b_ (.ord .gt)) cV bJ) [.scr (ns.map D.int),.int many,.lst (M.map mkD),.int j,.tup [],x5,x6,x7,x8]=.ok ae:=dR (aJ rfl rfl ((aL0 _ _).trans (by rw[bi z])));have d3:=gF (drw ns 38) j z 0x1;have m3:=dM (drw ns 38 / j) 3 0x4;have c1:∀k,decide (0<drw ns 38 / j % 3)=k->bTB (b2 (b_ (.ord .gt)) (b2 (bA .mod) (b2 (bA .fdiv) (aK (bY 2 aP) (aA bQ (aA aDm aL))) cV) kE) bJ) [.scr (ns.map D.int),.int many,.lst (M.map mkD),.int j,.tup [],x5,x6,x7,x8]=.ok k:=λk hk=>dR (aJ (aJ (aJ (uZ hn rfl rfl) rfl d3) rfl m3) rfl ((aL0 _ _).trans (by rw[hk])))
   by_cases q:0<drw ns 38 / j % 3
   ·exact⟨[wrd ns 0],.inr ⟨rfl,z⟩,Y0 (aB2 c0 (c1 _ (bi q))) (cD (bL (aD (wR hn rfl rfl (Cm 0) 0x4) rfl) (by rw[cL];exact dw rfl)))⟩
   ·exact⟨[],.inl rfl,nQ (aB2 c0 (c1 _ (cK q))) rfl⟩
  ·exact⟨[],.inl rfl,nQ (aIk (dR (aJ rfl rfl ((aL0 _ _).trans (by rw[cK z]))))) rfl⟩
 have w1:=oR hn (i:=3+3*j) 0x1 0x1;have d0:=(oN hn (40+3*j)).2.1;have m2:=dM (drw ns (40+3*j)) 2 0x4;have c2:=cU 2 (drw ns (40+3*j) % 2);obtain⟨N,y5,y6,y7,y8,h1,h2,h3⟩:=VJ (x4:=.tup (fs.map D.str)) hn hm hm3 hj0 hj (bw (2+drw ns (40+3*j) % 2-1).toNat) (M++[(wrd ns (3+3*j),wrd ns j,fs)]) x5 x6 x7 x8 (λk hk=>by have:=fN.mp hk;lia) (by rw[bj,dy];show M.length+1+_<=100;lia);have hc:(2+drw ns (40+3*j) % 2-1).toNat=1\/(2+drw ns (40+3*j) % 2-1).toNat=2:=by lia
 refine⟨fs,N,.tup (fs.map D.str),y5,y6,y7,y8,hfs,w1.2,h1,⟨_,hc,h2.1,?_⟩,?_⟩
 ·rcases hc with q|q<;>rw[q] at h2
  ·exact h2.2 [] rfl
  ·exact h2.2 [1] rfl
 refine aO (ρ':=[.scr (ns.map D.int),.int many,.lst (M.map mkD),.int j,.tup [],x5,x6,x7,x8]) (cD (i:=4) (bL (xs:=[]) rfl (cy _))) ?_;refine aO hif ?_;refine aO (ρ':=[.scr (ns.map D.int),.int many,.lst ((M++[(wrd ns (3+3*j),wrd ns j,fs)]).map mkD),.int j,.tup (fs.map D.str),x5,x6,x7,x8]) ?_ ?_
 ·have ap:=n_ (i:=2) (ρ:=[.scr (ns.map D.int),.int many,.lst (M.map mkD),.int j,.tup (fs.map D.str),x5,x6,x7,x8]) (f:=bN (aA (aK (bY 2 aQ) (aA bQ (aA (b2 (bA .add) kE (b2 lJ kE cV)) aL))) (aA (aK (bY 2 aQ) (aA bQ (aA cV aL))) (aA fD aL)))) (xs:=M.map mkD) (d:=mkD (wrd ns (3+3*j),wrd ns j,fs)) (bL (xs:=[.str (wrd ns (3+3*j)),.str (wrd ns j),.tup (fs.map D.str)]) (aD (wR hn rfl (aJ (x:=.int 3) (y:=.int (3*j)) rfl (aJ (x:=.int 3) (y:=.int j) rfl rfl a3) b3) 0x1 0x1) (aD (wR hn rfl rfl hj0 0x1) (aD rfl rfl))) aKz) rfl (by rw[ax,cL];lia) (jC _);rw[cr];exact ap
 ·refine nD (vV (a:=1) (b:=2+drw ns (40+3*j) % 2) (aD rfl (aD (aJ (x:=.int 2) (y:=.int (drw ns (40+3*j) % 2)) rfl (aJ (x:=.int (drw ns (40+3*j))) (uZ hn rfl (aJ (x:=.int 40) (y:=.int (3*j)) rfl (aJ (x:=.int 3) (y:=.int j) rfl rfl a3) a40)) rfl m2) c2) rfl)) 0x4 0x4 0x1 0x1) ?_;rw[h3];simp
structure MOk(ns:aa ah)(many:ah)(n:af)(M:aa Mk):Prop where
 part:∀m∈M,NT ns many m
 kind:∀m∈M,IsK ns n m.2.1
 len:M.length<=3*n
 find:∀K,IsK ns n K->∃m m2 R,M.filter (λm=>m.2.1==K)=m::m2::R/\(m.2.2=[]\/(m.2.2=[wrd ns 0]/\K≠wrd ns 0))/\m2.2.2.length=1
 names:∃ks:aa ah,M.map (·.1)=ks.map (wrd ns)/\ks.Pairwise (·<·)/\∀k∈ks,3<=k/\k<3+3*(n:ah)
theorem aEw(h:MOk ns many n M)(hm:(n:ah)<many)(hw:Good (wrd ns (3+3*(n:ah))))(hfs:fs=[]\/(fs=[wrd ns 0]/\0<(n:ah)))(hN:∀m∈N,NT ns many m/\m.2.1=wrd ns n)(hl:∃c:af,(c=1\/c=2)/\N.map (·.1)=(bw c).map (λ(k:af)=>wrd ns (3+3*(n:ah)+(1+(k:ah))))/\∃m N',N=m::N'/\m.2.2.length=1):MOk ns many (n+1) (M++(wrd ns (3+3*(n:ah)),wrd ns n,fs)::N):=by
 obtain⟨c,hc,hnm,m2,N',hN2,hm2⟩:=hl;refine⟨λm hq=>?_,λm hq=>?_,?_,λK hK=>?_,?_⟩
 ·rcases eS.mp hq with hq|hq
  ·exact h.part m hq
  ·rcases bq.mp hq with rfl|hq
   ·refine⟨hw,?_,λp hp=>?_⟩
    ·rcases hfs with rfl|⟨rfl,_⟩<;>exact dw rfl
    ·rcases hfs with rfl|⟨rfl,_⟩
     ·cases hp
     ·exact⟨0,by decide,by lia,gq.mp hp⟩
   ·exact(hN m hq).1
 ·rcases eS.mp hq with hq|hq
  ·obtain⟨j,j0,j1,e⟩:=h.kind m hq;exact⟨j,j0,by lia,e⟩
  ·rcases bq.mp hq with rfl|hq
   ·exact⟨n,by lia,by lia,rfl⟩
   ·exact⟨n,by lia,by lia,(hN m hq).2⟩
 ·have:=h.len;have e:=cz lP hnm;rw[ax,ax,dy] at e;rw[bj,bc];lia
 ·rw[List.filter_append];by_cases z:IsK ns n K
  ·obtain⟨m,m',R,e,q⟩:=h.find K z;rw[e];exact⟨m,m',_,rfl,q⟩
  ·have e:K=wrd ns n:=by
    obtain⟨j,j0,j1,e⟩:=hK;by_cases y:j<n
    ·exact aE ⟨j,j0,y,e⟩ z
    ·have:j=n:=by lia
     rw[e,this]
   have e2:M.filter (λm=>m.2.1==K)=[]:=by
    rw[List.filter_eq_nil_iff];intro m hq y;have:=h.kind m hq;rw[eq_of_beq y] at this;exact z this
   subst hN2;rw[e2,dl,Co,ao (by rw[e];exact eo _),Co,ao (by rw[e,(hN m2 (bn ..)).2];exact eo _)];refine⟨_,_,_,rfl,?_,hm2⟩;rcases hfs with rfl|⟨rfl,y⟩
   ·exact .inl rfl
   ·exact .inr ⟨rfl,λq=>z ⟨0,by decide,y,q⟩⟩
 ·obtain⟨ks,k1,k2,k3⟩:=h.names;refine⟨ks++(3+3*(n:ah))::(bw c).map (λ(k:af)=>3+3*(n:ah)+(1+(k:ah))),?_,?_,?_⟩
  ·rw[cr,cr,bh,bh,k1,hnm,cS];rfl
  ·have cs:((3+3*(n:ah))::(bw c).map (λ(k:af)=>3+3*(n:ah)+(1+(k:ah)))).Pairwise (·<·):=by
    rcases hc with rfl|rfl
    ·simp[bw,Cp];lia
    ·simp[bw,Cp];lia
   rw[List.pairwise_append];refine⟨k2,cs,λa ha b hb=>?_⟩;have:=(k3 a ha).2;rcases bq.mp hb with rfl|hb
   ·lia
   ·obtain⟨q,hq,rfl⟩:=bE.mp hb;lia
  ·intro k hk;rcases eS.mp hk with hk|hk
   ·have:=k3 k hk;lia
   ·rcases bq.mp hk with rfl|hk
    ·lia
    ·obtain⟨q,hq,rfl⟩:=bE.mp hk;have:=fN.mp hq;lia
theorem VL(hn:ns.length<=63)(hm:0<many)(hm3:many<=3):∀(c n:af)(M:aa Mk)(x3 x4 x5 x6 x7 x8:D),(n:ah)+c=many->MOk ns many n M->
  ∃(N:aa Mk)(y3 y4 y5 y6 y7 y8:D),MOk ns many (n+c) N/\tU (tg1 3) omk ((Bn n c).map λ(k:af)=>D.int (0+(k:ah))) [.scr (ns.map D.int),.int many,.lst (M.map mkD),x3,x4,x5,x6,x7,x8]=.ok (.nx [.scr (ns.map D.int),.int many,.lst (N.map mkD),y3,y4,y5,y6,y7,y8])
 |0,n,M,x3,x4,x5,x6,x7,x8,_,h=>⟨M,x3,x4,x5,x6,x7,x8,h,rfl⟩
 |c+1,n,M,x3,x4,x5,x6,x7,x8,he,h=>by
  obtain⟨fs,N,y4,y5,y6,y7,y8,h1,h2,h3,h4,h5⟩:=aNq (j:=(n:ah)) hn hm hm3 0x1 0x1 (M:=M) (by have:=h.len;lia) (x4:=x4) (x5:=x5) (x6:=x6) (x7:=x7) (x8:=x8);obtain⟨N',z3,z4,z5,z6,z7,z8,i1,i2⟩:=VL hn hm hm3 c (n+1) _ (.int n) y4 y5 y6 y7 y8 0x1 (aEw h 0x1 h2 h1 h3 h4);refine⟨N',z3,z4,z5,z6,z7,z8,by rw[show n+(c+1)=n+1+c by lia];exact i1,?_⟩;rw[List.range'_succ,bh];exact cQ (ρ1:=[.scr (ns.map D.int),.int many,.lst (M.map mkD),.int n,x4,x5,x6,x7,x8]) (by rw[zk];rfl) h5 i2
theorem aBz(hn:ns.length<=63)(hm:0<many)(hm3:many<=3):∃M:aa Mk,MOk ns many many.toNat M/\bY 2 jP [.scr (ns.map D.int),.int many]=.ok (.tup (M.map mkD)):=by
 obtain⟨N,y3,y4,y5,y6,y7,y8,h1,h2⟩:=VL hn hm hm3 many.toNat 0 [] .uD .uD .uD .uD .uD .uD 0x1 ⟨λ_ h=>(by cases h),λ_ h=>(by cases h),cy _,λK ⟨j,j0,j1,_⟩=>(by exfalso;lia),[],rfl,.nil,λ_ h=>(by cases h)⟩;rw[kh] at h1;refine⟨N,h1,(eZ rfl).trans (call_v ?_)⟩;refine aO (fJ (uY rfl (cy _)) rfl) ?_;refine aO (nD (wC (aD rfl rfl) 0x1 0x1) (by rw[List.range_eq_range'];exact h2)) ?_;exact lX (aU (aD rfl rfl) rfl) (by rw[D.pure,aV jC];rfl)
theorem zH(a b:aa D)(h:a.length+b.length<=1000):KY (.tup a) (.tup b)=.ok (.tup (a++b)):=by
 rw[KY,ao (bi (by rw[cL];lia))]
def iD(ns:aa ah)(many:ah)(t:Tk):Prop:=(∃k:ah,17<=k/\k<=20/\t.1=wrd ns k)/\IsK ns many t.2.1/\IsK ns many t.2.2.1/\t.2.2.2.length<=2/\∀p∈t.2.2.2,IsK ns many p
def otk:FS:=(bK (bZ ag 4 (aK (bY 2 aP) (aA bQ (aA (b2 (bA .add) (bC (.int 51)) cV) aL))) ae) (bK (bZ ag 5 (aK gY (aA (eQ 7 (fX (aA (b2 (bA .mod) (b2 (bA .fdiv) fD v8) kE) aL) lO) iV dX (aK (bY 2 aQ) (aA bQ (aA (b2 (bA .mod) (b2 (bA .fdiv) fD (b2 (bA .add) W7 (b2 lJ aKr eE))) eO) aL))) ae) aL)) ag) (bK (bZ ag 6 (bN (aA (aK (bY 2 aQ) (aA bQ (aA (b2 (bA .mod) fD eO) aL))) (aA (aK (bY 2 aQ) (aA bQ (aA (b2 (bA .mod) (b2 (bA .fdiv) fD d9) eO) aL))) aL))) ae) (v_ 2 (b2 KY (b2 KY (bN (aA (aK (bY 2 aQ) (aA bQ (aA (b2 (bA .add) D_ cV) aL))) aL)) fP) (bN (aA d8 aL)))))))
theorem aNr(hn:ns.length<=63)(hm:0<many)(hm3:many<=3)(hi0:0<=i)(hi:i<=3)(hM:M.length<=50) :
  ∃(t:Tk)(y4 y5 y6:D),(iD ns many t/\t.1=wrd ns (17+i))/\otk [.scr (ns.map D.int),.int many,.lst (M.map tkD),.int i,x4,x5,x6]=.ok (.nx [.scr (ns.map D.int),.int many,.lst ((M++[t]).map tkD),.int i,y4,y5,y6]):=by
 have a51:=cU 51 i;have a17:=cU 17 i;have d0:=(oN hn (51+i)).2.1;generalize hdr:drw ns (51+i)=dr at d0;have f4:=gF dr 4 0x4 0x4;have m3:=dM (dr / 4) 3 0x4;have f2:=gF dr 2 0x4 0x4;have k1:=dM dr many hm;have k2:=dM (dr / 2) many hm;have p1:=eI dr (show many≠0 by lia);have p2:=ff dr hm;have q1:=eI (dr / 2) (show many≠0 by lia);have q2:=ff (dr / 2) hm;obtain⟨xs,c1,c2,c3⟩:=DN (ρ:=[.scr (ns.map D.int),.int many,.lst (M.map tkD),.int i,.int dr,x5,x6]) (f:=b2 (bA .mod) (b2 (bA .fdiv) fD (b2 (bA .add) W7 (b2 lJ aKr eE))) eO) (sz:=dr / 4 % 3) (g:=aA (b2 (bA .mod) (b2 (bA .fdiv) fD v8) kE) aL) hn hm hm3 rfl (λ_=>rfl) (aD (aJ (x:=.int (dr / 4)) (aJ (x:=.int dr) rfl rfl f4) rfl m3) rfl) 0x1 0x1 (λp p0 p3=>by
  have e1:=oA 7 p 0x4;have e2:=cU 12 (7*p);have e3:=gF dr (12+7*p) 0x1 0x1;have e4:=dM (dr / (12+7*p)) many hm;exact⟨_,eI _ 0x1,ff _ hm,aJ (x:=.int (dr / (12+7*p))) (y:=.int many) (aJ (x:=.int dr) (y:=.int (12+7*p)) rfl (aJ (x:=.int 12) (y:=.int (7*p)) rfl (aJ (x:=.int 7) (y:=.int p) rfl rfl e1) e2) e3) rfl e4⟩)
 have w1:=oR hn (i:=17+i) 0x1 0x1;have t1:=zH [.str (wrd ns (17+i))] [.str (wrd ns (dr % many)),.str (wrd ns (dr / 2 % many))] (dw rfl);have t2:=zH [.str (wrd ns (17+i)),.str (wrd ns (dr % many)),.str (wrd ns (dr / 2 % many))] [.tup (xs.map D.str)] (dw rfl);refine⟨(wrd ns (17+i),wrd ns (dr % many),wrd ns (dr / 2 % many),xs),.int dr,.tup (xs.map D.str),.tup [.str (wrd ns (dr % many)),.str (wrd ns (dr / 2 % many))],⟨⟨⟨17+i,by lia,by lia,rfl⟩,⟨_,p1,p2,rfl⟩,⟨_,q1,q2,rfl⟩,(by have:=c2.2;show xs.length<=2;lia),c1⟩,rfl⟩,?_⟩;refine aO (ρ':=[.scr (ns.map D.int),.int many,.lst (M.map tkD),.int i,.int dr,x5,x6]) (cD (i:=4) (by rw[<-hdr];exact uZ hn rfl (aJ (x:=.int 51) (y:=.int i) rfl rfl a51))) ?_;refine aO (ρ':=[.scr (ns.map D.int),.int many,.lst (M.map tkD),.int i,.int dr,.tup (xs.map D.str),x6]) (eN (i:=5) c3 (by rw[D.pure,bR])) ?_;refine aO (ρ':=[.scr (ns.map D.int),.int many,.lst (M.map tkD),.int i,.int dr,.tup (xs.map D.str),.tup [.str (wrd ns (dr % many)),.str (wrd ns (dr / 2 % many))]]) (cD (i:=6) (bL (xs:=[.str (wrd ns (dr % many)),.str (wrd ns (dr / 2 % many))]) (aD (wR hn rfl (aJ (x:=.int dr) (y:=.int many) rfl rfl k1) p1 0x1) (aD (wR hn rfl (aJ (x:=.int (dr / 2)) (y:=.int many) (aJ (x:=.int dr) rfl rfl f2) rfl k2) q1 0x1) rfl)) jA)) ?_;have ap:=n_ (i:=2) (ρ:=[.scr (ns.map D.int),.int many,.lst (M.map tkD),.int i,.int dr,.tup (xs.map D.str),.tup [.str (wrd ns (dr % many)),.str (wrd ns (dr / 2 % many))]]) (f:=b2 KY (b2 KY (bN (aA (aK (bY 2 aQ) (aA bQ (aA (b2 (bA .add) D_ cV) aL))) aL)) fP) (bN (aA d8 aL))) (xs:=M.map tkD) (d:=tkD (wrd ns (17+i),wrd ns (dr % many),wrd ns (dr / 2 % many),xs)) (aJ (aJ (bL (xs:=[.str (wrd ns (17+i))]) (aD (wR hn rfl (aJ (x:=.int 17) (y:=.int i) rfl rfl a17) 0x1 0x1) rfl) (by rw[cL];exact dw rfl)) rfl t1) (bL (xs:=[.tup (xs.map D.str)]) (aD rfl rfl) (by rw[cL];exact dw rfl)) t2) rfl (by rw[ax,cL];lia) (m7 _);rw[cr];exact ap
theorem VM(hn:ns.length<=63)(hm:0<many)(hm3:many<=3):∀(ks:aa af)(M:aa Tk)(x3 x4 x5 x6:D),(∀k∈ks,k<=3)->M.length+ks.length<=50->(∀t∈M,iD ns many t)->
  ∃(N:aa Tk)(y3 y4 y5 y6:D),(∀t∈N,iD ns many t)/\N.map (·.1)=M.map (·.1)++ks.map (λ(k:af)=>wrd ns (17+(k:ah)))/\tU (tg1 3) otk (ks.map λ(k:af)=>D.int (0+(k:ah))) [.scr (ns.map D.int),.int many,.lst (M.map tkD),x3,x4,x5,x6]=.ok (.nx [.scr (ns.map D.int),.int many,.lst (N.map tkD),y3,y4,y5,y6])
 |[],M,x3,x4,x5,x6,_,_,h=>⟨M,x3,x4,x5,x6,h,(d6 _).symm,rfl⟩
 |k::ks,M,x3,x4,x5,x6,h,hl,hM=>by
  rw[bc] at hl;have hk:=h k (bn ..);obtain⟨t,y4,y5,y6,h1,h2⟩:=aNr hn hm hm3 (i:=(k:ah)) 0x1 0x1 (M:=M) 0x1 (x4:=x4) (x5:=x5) (x6:=x6);obtain⟨N,z3,z4,z5,z6,i1,i2,i3⟩:=VM hn hm hm3 ks (M++[t]) (.int k) y4 y5 y6 (λq hq=>h q (bz _ hq)) (by rw[bj];show M.length+1+_<=50;lia) (λq hq=>by
   rcases eS.mp hq with hq|hq
   ·exact hM q hq
   ·rw[gq.mp hq];exact h1.1)
  refine⟨N,z3,z4,z5,z6,i1,?_,?_⟩
  ·rw[i2,cr,bh,bh,iP,h1.2,dE];rfl
  ·rw[bh];exact cQ (ρ1:=[.scr (ns.map D.int),.int many,.lst (M.map tkD),.int k,x4,x5,x6]) (by rw[zk];rfl) h2 i3
theorem aC0(hn:ns.length<=63)(hm:0<many)(hm3:many<=3):∃T:aa Tk,(∀t∈T,iD ns many t)/\(T.length<=3/\T.map (·.1)=(bw T.length).map (λ(k:af)=>wrd ns (17+(k:ah))))/\bY 2 jR [.scr (ns.map D.int),.int many]=.ok (.tup (T.map tkD)):=by
 have m4:=dM (drw ns 50) 4 0x4;obtain⟨N,y3,y4,y5,y6,h1,h2,h3⟩:=VM hn hm hm3 (bw (drw ns 50 % 4).toNat) [] .uD .uD .uD .uD (λk hk=>by have:=fN.mp hk;lia) (by rw[dy];show 0+_<=50;lia) (λ_ h=>by cases h);have hNl:N.length=(drw ns 50 % 4).toNat:=by
  have:=cz lP h2;simpa using this
 refine⟨N,h1,⟨by lia,by rw[h2,hNl];rfl⟩,(eZ rfl).trans (call_v ?_)⟩;refine aO (fJ (uY rfl (cy _)) rfl) ?_;refine aO (nD (wC (aD (aJ (uZ hn rfl rfl) rfl m4) rfl) 0x1 0x1) h3) ?_;exact lX (aU (aD rfl rfl) rfl) (by rw[D.pure,aV m7];rfl)
theorem dJ(h:n<=1000):n<=lim:=by rw[cL];lia
theorem g_(h1:a ρ=.ok (.tup xs)):bT a ag ρ=.ok (xs,ag||(D.tup xs).pure):=by
 unfold bT;rw[h1,Res.aY];rfl
theorem eq_str(a b:Str):b_ .eq (.str a) (.str b)=.ok (.bl (a==b)):=rfl
theorem eq_int(a b:ah):b_ .eq (.int a) (.int b)=.ok (.bl (a==b)):=rfl
theorem aSc(a b:ah):b_ (.ord .ge) (.int a) (.int b)=.ok (.bl (decide (b<=a))):=yS rfl rfl rfl
theorem aRa(a b:ah):b_ (.ord .lt) (.int a) (.int b)=.ok (.bl (decide (a<b))):=yS rfl rfl rfl
theorem aSd(h1:a ρ=.ok ae):bOr a b ρ=.ok ae:=by
 unfold bOr;rw[h1];rfl
theorem uJ(h1:a ρ=.ok ag)(h2:b ρ=r):bOr a b ρ=r:=by
 unfold bOr;rw[h1];exact h2
theorem aJn(h1:a ρ=.ok x)(h2:b ρ=.ok y):bOr a b ρ=.ok (x||y):=by
 cases x with
 |true=>exact aSd h1
 |false=>exact uJ h1 h2
theorem aJo(h1:a ρ=.ok (.bl x))(h2:b ρ=.ok (.bl y)):E_ a b ρ=.ok (.bl (x&&y)):=by
 unfold E_;rw[h1,Res.aY,aMo,Res.aY];cases x with
 |true=>rw[ao rfl,h2];rfl
 |false=>rfl
theorem RQ(h1:a ρ=.ok (.bl x)):bTr a ρ=.ok x:=by
 unfold bTr;rw[h1];rfl
noncomputable abbrev Wt:=Str×aq
noncomputable def wD(w:Wt):D:=.tup [.str w.1,.bl w.2]
theorem tO(w:Wt):(wD w).pure=ae:=rfl
noncomputable def knD(K:aa (Str×Str)):aa (D×D):=K.map λp=>(.str p.1,.str p.2)
def bkD(M:aa Mk)(T:aa Tk):D:=.tup [.tup (M.map mkD),.tup (T.map tkD)]
theorem aC1:∀(K:aa (Str×Str))(x:Str),x∈K.map (·.1)->∃y:Str,fB (knD K) (.str x)=ab (.str y)
 |[],x,h=>by cases h
 |p::K,x,h=>by
  show ∃y:Str,(if (p.1==x) then ab (D.str p.2) else fB (knD K) (.str x))=ab (.str y);by_cases z:(p.1==x)=ae
  ·rw[ao z];exact⟨_,rfl⟩
  ·rw[aw z];refine aC1 K x ?_;rcases bq.mp h with rfl|h
   ·exact aE (eo _) z
   ·exact h
theorem aC2(K:aa (Str×Str)):(knD K).all (λp=>!isTup p.1)=ae:=by
 rw[e9];intro p hp;obtain⟨q,_,rfl⟩:=bE.mp hp;rfl
theorem aJp(K:aa (Str×Str)):D.aW ((knD K).map (·.2))=ae:=by
 unfold knD;rw[cS];exact aV (λ_=>rfl) K
theorem aC3(K:aa (Str×Str)):sZ (knD K)=(K.map (·.1)).map D.str:=by
 unfold sZ knD;rw[cS,cS];rfl
def wfit:FE:=(U5 17 3 iV (bTB (b2 (b_ .eq) (b2 getD cV iH) (b2 getD nY bJ))) iH)
theorem aNs(hK:K.length<=1000) :
  ∃F:aa Str,F.length<=K.length/\(∀x∈F,x∈K.map (·.1))/\wfit [x0,x1,x2,.dct (knD K),x4,x5,x6,x7,x8,wD h,x10,x11,x12,x13,x14,x15,x16]=.ok (.lst (F.map D.str)):=by
 generalize hρ:fzD 3 (knD K) [x0,x1,x2,.dct (knD K),x4,x5,x6,x7,x8,wD h,x10,x11,x12,x13,x14,x15,x16]=ρ;have l:ρ.length=17:=by rw[<-hρ];unfold fzD;rw[mx,ax];rfl
 have v3:∀x,h_ 3 (ρ++[x])=.ok (.fdc (knD K)):=λx=>by rw[<-hρ];rfl
 have v9:∀x,h_ 9 (ρ++[x])=.ok (wD h):=λx=>by rw[<-hρ];rfl
 have v17:∀x,x≠.uD->h_ 17 (ρ++[x])=.ok x:=λx hx=>by
  have:(ρ++[x]).getD 17 .uD=x:=by rw[cu,fz 0x1,l];rfl
  unfold h_;rw[this];cases x<;>first|rfl|exact aE rfl hx
 obtain⟨F,hFm,h2,h3⟩:=NQ (jM 17 iV (bTB (b2 (b_ .eq) (b2 getD cV iH) (b2 getD nY bJ))) iH ag ρ) D.str (λx=>x∈K.map (·.1)) (sZ (knD K)) [] (λd hd acc=>by
  rw[aC3] at hd;obtain⟨x,hx,rfl⟩:=bE.mp hd;obtain⟨y,hy⟩:=aC1 K x hx;have g1:getD (.fdc (knD K)) (.str x)=.ok (.str y):=by
   show(if keyOk (.str x) then Res.ofOpt (fB (knD K) (.str x)) else .bad)=_;rw[ao (show keyOk (.str x)=ae from rfl),hy];rfl
  have c:=uQ (k:=ag) (acc:=acc) (c:=bTB (b2 (b_ .eq) (b2 getD cV iH) (b2 getD nY bJ))) (f:=h_ 17) (x:=.str x) (y:=.str x) (b:=(y==h.1)) l (dR (aJ (x:=.str y) (y:=.str h.1) (aJ (v3 _) (v17 _ (by intro q;cases q)) g1) (aJ (x:=wD h) (y:=.int 0) (v9 _) rfl rfl) (eq_str _ _))) (λ_=>⟨v17 _ (by intro q;cases q),rfl⟩);rw[c];by_cases z:(y==h.1)=ae
  ·exact⟨[x],λu hu=>by rw[gq.mp hu];exact hx,aS _,by rw[ao z];rfl⟩
  ·exact⟨[],λ_ h=>(by cases h),cy _,by rw[aw z];simp⟩)
 rw[dl] at h3;have hl:(sZ (knD K)).length=K.length:=by rw[aC3,ax,ax]
 refine⟨F,by lia,hFm,?_⟩;have kl:(knD K).length<=lim:=by unfold knD;rw[ax];exact dJ hK
 unfold wfit U5;show(if decide ((knD K).length<=lim)&&((knD K).all (λp=>!isTup p.1)&&D.aW ((knD K).map (·.2))) then (do
   let ys <- iI (jM 17 iV (bTB (b2 (b_ .eq) (b2 getD cV iH) (b2 getD nY bJ))) iH ag (fzD 3 (knD K) [x0,x1,x2,.dct (knD K),x4,x5,x6,x7,x8,wD h,x10,x11,x12,x13,x14,x15,x16])) [] (sZ (knD K))
   pure (D.lst ys)) else .bad)=_
 rw[ao (by rw[aC2,aJp,bi kl];rfl),hρ,h3];rfl
def aL1(k:ah):FE:=(eQ 17 (bT (b2 getD d_ (bC (.int k))) ag) iV (bTB (b2 (b_ .eq) (b2 getD iH bW) (b2 getD nY bJ))) iH ag)
theorem aNt(hM:M.length<=1000) :
  aL1 0 [x0,x1,bkD M T,x3,x4,x5,x6,x7,x8,wD h,x10,x11,x12,x13,x14,x15,x16]=.ok (.lst ((M.filter λm=>m.2.1==h.1).map mkD)):=by
 refine gD (g_ (aJ rfl rfl rfl)) (by rw[ax];exact dJ hM) ?_;have c:=e_ (jM 17 iV (bTB (b2 (b_ .eq) (b2 getD iH bW) (b2 getD nY bJ))) iH ag [x0,x1,bkD M T,x3,x4,x5,x6,x7,x8,wD h,x10,x11,x12,x13,x14,x15,x16]) mkD (λm=>m.2.1==h.1) mkD (λacc m=>uQ rfl (dR (aJ (aJ rfl rfl rfl) (aJ rfl rfl rfl) (eq_str _ _))) (λ_=>⟨rfl,jC m⟩)) M [];rw[dl] at c;exact c
theorem aJq(hT:T.length<=1000) :
  aL1 1 [x0,x1,bkD M T,x3,x4,x5,x6,x7,x8,wD h,x10,x11,x12,x13,x14,x15,x16]=.ok (.lst ((T.filter λm=>m.2.1==h.1).map tkD)):=by
 refine gD (g_ (aJ rfl rfl rfl)) (by rw[ax];exact dJ hT) ?_;have c:=e_ (jM 17 iV (bTB (b2 (b_ .eq) (b2 getD iH bW) (b2 getD nY bJ))) iH ag [x0,x1,bkD M T,x3,x4,x5,x6,x7,x8,wD h,x10,x11,x12,x13,x14,x15,x16]) tkD (λm=>m.2.1==h.1) tkD (λacc m=>uQ rfl (dR (aJ (aJ rfl rfl rfl) (aJ rfl rfl rfl) (eq_str _ _))) (λ_=>⟨rfl,m7 m⟩)) T [];rw[dl] at c;exact c
theorem JF{n:af}{xs:aa Str}(hρ:ρ.length=17)(ha:a ρ=.ok (.tup (xs.map D.str)))(hl:xs.length<=1000):eQ 17 (bT a ag) iV dX (bN (aA iH (aA (bC (.bl b)) aL))) ag ρ=.ok (.lst ((xs.map λx=>(x,b)).map wD)):=by
 refine gD (g_ ha) (by rw[ax];exact dJ hl) ?_;have v17:∀x:Str,h_ 17 (ρ++[.str x])=.ok (.str x):=λx=>by
  have:(ρ++[D.str x]).getD 17 .uD=.str x:=by rw[cu,fz 0x1,hρ];rfl
  unfold h_;rw[this]
 have c:=e_ (jM 17 iV dX (bN (aA iH (aA (bC (.bl b)) aL))) ag ρ) D.str (λ_=>ae) (λx=>wD (x,b)) (λacc x=>uQ hρ rfl (λ_=>⟨bL (aD (v17 x) (aD rfl rfl)) jA,rfl⟩)) xs [];rw[dl,jt.mpr (λ_ _=>rfl)] at c;rw[c,cS];rfl
def wt(ns:aa ah)(w:Wt):af:=if w.1=wrd ns 0 then 1 else 2
def sm(ns:aa ah):aa Wt->af
 |[]=>0
 |w::L=>wt ns w+sm ns L
theorem aEx(ns:aa ah)(w:Wt):1<=wt ns w/\wt ns w<=2:=by unfold wt;split<;>lia
theorem NZ(ns:aa ah):∀L:aa Wt,L.length<=sm ns L/\sm ns L<=2*L.length
 |[]=>⟨aS _,aS _⟩
 |w::L=>by
  have:=aEx ns w;have:=NZ ns L;rw[bc,sm];lia
theorem VN(ns:aa ah):∀A B:aa Wt,sm ns (A++B)=sm ns A+sm ns B
 |[],B=>by rw[dl,sm,kh]
 |w::A,B=>by rw[eP,sm,VN ns A B,sm];lia
def mu(mo:af)(ns:aa ah)(n:af)(L:aa Wt):af:=(mo-n)*6+sm ns L
def ww(ns:aa ah)(at_:ah)(M:aa Mk)(T:aa Tk)(K:aa (Str×Str))(kind:Str)(mo le:af)(ws:aa Str)(L:aa Wt)(x9 x10 x11 x12 x13 x14 x15 x16:D):aa D:=[.scr (ns.map D.int),.int at_,bkD M T,.dct (knD K),.str kind,.int (mo:af),.int (le:af),.lst (ws.map D.str),.lst (L.map wD),x9,x10,x11,x12,x13,x14,x15,x16]
def b2s:FS:=(bK (v_ 7 (b2 getD (b2 (bA .add) j5 (nJ (aA (b2 getD (b2 getD sY bJ) bJ) aL))) (b2 (bA .mod) (b2 (bA .fdiv) jB v8) (aK max2 (aA bW (aA (aK dG (aA j5 aL)) aL)))))) (sIf (bTB (b2 (b_ .eq) (aK dG (aA j5 aL)) bJ)) (bZ ae 8 (b2 (bA .add) (eQ 17 (bT (b2 getD (b2 getD sY bJ) d9) ag) iV dX (bN (aA iH (aA (bC (.bl ae)) aL))) ag) nA) ae) j6))
def b3s:FS:=(bK (bZ ag 14 (b2 getD sY (b2 (bA .mod) (b2 (bA .fdiv) jB v8) (aK dG (aA sY aL)))) ag) (bK (v_ 7 (b2 getD yC bJ)) (bZ ae 8 (b2 (bA .add) (eQ 17 (bT (b2 getD yC d9) ag) iV dX (bN (aA iH (aA (bC (.bl ag)) aL))) ag) nA) ae)))
def b4s:FS:=(bK (bZ ag 15 (b2 getD tR (b2 (bA .mod) (b2 (bA .fdiv) jB v8) (aK dG (aA tR aL)))) ag) (bK (v_ 7 (b2 getD wY bJ)) (bK (bZ ag 16 (E_ (b2 (b_ (.ord .gt)) (aK aKw (aA cV aL)) bJ) (b2 (b_ (.ord .gt)) (b2 (bA .mod) (b2 (bA .fdiv) jB (bC (.int 64))) v8) bJ)) ae) (bZ ae 8 (b2 (bA .add) (b2 (bA .add) (nJ (aA (bN (aA (b2 getD wY d9) (aA W6 aL))) aL)) (eQ 17 (bT (b2 getD wY kE) ag) iV dX (bN (aA iH (aA (bC (.bl ag)) aL))) ag)) nA) ae))))
def c1s:FT:=(YZ (bTB (b2 (b_ (.ord .lt)) (aK dG (aA eE aL)) fP)) (bTB (b2 (b_ .eq) (aK dG (aA nA aL)) bJ)))
def c2s:FT:=(bOr (bTr (b2 getD nY bW)) (bOr (bTB (b2 (b_ (.ord .ge)) (b2 (bA .add) (aK dG (aA eE aL)) (aK dG (aA nA aL))) d8)) (bTB (b2 (b_ .eq) (b2 (bA .mod) jB v8) bJ))))
def c3s:FT:=(bOr (bTB (b2 (b_ (.ord .lt)) (b2 (bA .mod) jB v8) kE)) (bTB (b2 (b_ .eq) (aK dG (aA tR aL)) bJ)))
def b1s:FS:=(bK (v_ 7 (b2 getD (b2 getD sY bW) bJ)) (bZ ae 8 (nJ (aA (bN (aA (b2 getD (b2 getD (b2 getD sY bW) d9) bJ) (aA (bC (.bl ag)) aL))) aL)) ae))
def aEy:FS:=(bK (aE5 8 9 bJ) (bK (bZ ag 10 (aK (bY 2 aP) (aA bQ (aA (b2 (bA .add) eO (aK dG (aA eE aL))) aL))) ae) (bK (bZ ag 11 wfit ae) (bK (bZ ag 12 (aL1 0) ae) (bK (bZ ag 13 (aL1 1) ae) (sIf c1s b1s (sIf c2s b2s (sIf c3s b3s b4s))))))))
theorem aC4:wH=bK (bZ ae 7 (zM aL) ae) (bK (bZ ae 8 (nJ (aA (bN (aA fD (aA (bC (.bl ag)) aL))) aL)) ae) (bK (aQ7 (bTB (b2 (b_ (.ord .gt)) (aK dG (aA nA aL)) bJ)) aEy) (gR (aK gY (aA eE aL)) ag))):=rfl
theorem DR(f:α->D)(L:aa α)(i:ah)(h0:0<=i)(h1:i<L.length):∃a∈L,getD (.lst (L.map f)) (.int i)=.ok (f a):=by
 obtain⟨hl,e⟩:=G3 (L.map f) i h0 (by rw[ax];exact h1);rw[e,zi];exact⟨_,mq ..,rfl⟩
section
variable {ns:aa ah} {at_:ah} {M:aa Mk} {T:aa Tk} {K:aa (Str×Str)} {kind:Str} {mo le:af} {ws:aa Str} {r:aa Wt} {h:Wt} {dr:ah} {F:aa Str} {m0:Mk} {R:aa Mk} {A:aa Tk} {x14 x15 x16:D}
theorem aEz(f:α->D)(F G:aa α)(i:ah)(h0:0<=i)(h1:i<(F++G).length):∃a∈F++G,(i<F.length->a∈F)/\getD (.lst ((F++G).map f)) (.int i)=.ok (f a):=by
 have hl:i.toNat<(F++G).length:=by lia
 refine⟨(F++G)[i.toNat],mq _,λh=>?_,?_⟩
 ·rw[List.getElem_append_left (show i.toNat<F.length by lia)];exact mq _
 ·have:=(G3 ((F++G).map f) i h0 (by rw[ax];exact h1)).2;rw[this,zi]
theorem aJr(hw:ws.length<=600)(hr:r.length<=600)(hd:0<=dr)(hF:F.length<=100)(hm:m0.2.2.length<=3) :
  ∃(w:Str)(L:aa Wt),(L=r\/L=(m0.2.2.map λx=>(x,ae))++r)/\(F=[]->w=m0.1/\L=(m0.2.2.map λx=>(x,ae))++r)/\(F≠[]->w∈F/\L=r)/\b2s (ww ns at_ M T K kind mo le ws r (wD h) (.int dr) (.lst (F.map D.str)) (.lst ((m0::R).map mkD)) (.lst (A.map tkD)) x14 x15 x16)=.ok (.nx (ww ns at_ M T K kind mo le (ws++[w]) L (wD h) (.int dr) (.lst (F.map D.str)) (.lst ((m0::R).map mkD)) (.lst (A.map tkD)) x14 x15 x16)):=by
 have f4:=gF dr 4 0x4 0x4;obtain⟨n,n1,n2,hn⟩:∃n:ah,0<n/\n<(F++[m0.1]).length+1/\max2 [.int 1,.int (F.length:af)]=.ok (.int n)/\(n<=1\/n<=F.length):=by
  refine⟨_,?_,?_,aQt F.length,?_⟩
  ·split<;>lia
  ·rw[bj,bc];split<;>lia
  ·split<;>lia
 have m4:=dM (dr / 4) n n1;have p1:=eI (dr / 4) (show n≠0 by lia);have p2:=ff (dr / 4) n1;obtain⟨w,hwm,hwF,hg⟩:=aEz D.str F [m0.1] (dr / 4 % n) p1 0x1;rw[cr,show eg D.str [m0.1]=[D.str m0.1] from rfl] at hg;have g0:getD (.lst ((m0::R).map mkD)) (.int 0)=.ok (mkD m0):=(G3 ((m0::R).map mkD) 0 (Cm 0) (by rw[ax,bc];lia)).2;have hap:v_ 7 (b2 getD (b2 (bA .add) j5 (nJ (aA (b2 getD (b2 getD sY bJ) bJ) aL))) (b2 (bA .mod) (b2 (bA .fdiv) jB v8) (aK max2 (aA bW (aA (aK dG (aA j5 aL)) aL))))) (ww ns at_ M T K kind mo le ws r (wD h) (.int dr) (.lst (F.map D.str)) (.lst ((m0::R).map mkD)) (.lst (A.map tkD)) x14 x15 x16)=.ok (.nx (ww ns at_ M T K kind mo le (ws++[w]) r (wD h) (.int dr) (.lst (F.map D.str)) (.lst ((m0::R).map mkD)) (.lst (A.map tkD)) x14 x15 x16)):=by
  have e1:b2 (bA .add) j5 (nJ (aA (b2 getD (b2 getD sY bJ) bJ) aL)) (ww ns at_ M T K kind mo le ws r (wD h) (.int dr) (.lst (F.map D.str)) (.lst ((m0::R).map mkD)) (.lst (A.map tkD)) x14 x15 x16)=.ok (.lst (F.map D.str++[.str m0.1])):=aJ rfl (oO (aD (aJ (aJ rfl rfl g0) rfl rfl) rfl) (dJ (dw rfl)) rfl) (oE _ _ (by rw[ax];exact dJ (by show F.length+1<=1000;lia)) (bR F) rfl);have e2:b2 (bA .mod) (b2 (bA .fdiv) jB v8) (aK max2 (aA bW (aA (aK dG (aA j5 aL)) aL))) (ww ns at_ M T K kind mo le ws r (wD h) (.int dr) (.lst (F.map D.str)) (.lst ((m0::R).map mkD)) (.lst (A.map tkD)) x14 x15 x16)=.ok (.int (dr / 4 % n)):=aJ (aJ rfl rfl f4) (aU (aD rfl (aD (aU (xs:=[.lst (F.map D.str)]) (aD rfl rfl) (by rw[jG,ax])) rfl)) hn.1) m4;have e3:=aJ e1 e2 hg;have ap:=n_ (i:=7) (xs:=ws.map D.str) (d:=.str w) e3 rfl (by rw[ax];exact c5 (show ws.length<1000 by lia) (dJ (aS _))) rfl;unfold ww;rw[cr];exact ap
 have hc:bTB (b2 (b_ .eq) (aK dG (aA j5 aL)) bJ) (ww ns at_ M T K kind mo le (ws++[w]) r (wD h) (.int dr) (.lst (F.map D.str)) (.lst ((m0::R).map mkD)) (.lst (A.map tkD)) x14 x15 x16)=.ok (((F.length:af):ah)==0):=dR (aJ (x:=.int (F.length:af)) (y:=.int 0) (aU (xs:=[.lst (F.map D.str)]) (aD rfl rfl) (by rw[jG,ax])) rfl (eq_int _ _));by_cases z:(((F.length:af):ah)==0)=ae
 ·rw[z] at hc;refine⟨w,_,.inr rfl,λq=>⟨by rw[q] at hwm;exact gq.mp hwm,rfl⟩,λq=>aE (Cq.mp (by have:=eq_of_beq z;lia)) q,aO hap (Y0 hc ?_)⟩;have e:=fJ (i:=8) (d:=.lst ((m0.2.2.map λx=>(x,ae)).map wD++r.map wD)) (aJ (f:=bA .add) (x:=.lst ((m0.2.2.map λx=>(x,ae)).map wD)) (y:=.lst (r.map wD)) (JF (n:=0) (ρ:=ww ns at_ M T K kind mo le (ws++[w]) r (wD h) (.int dr) (.lst (F.map D.str)) (.lst ((m0::R).map mkD)) (.lst (A.map tkD)) x14 x15 x16) (a:=b2 getD (b2 getD sY bJ) d9) (b:=ae) rfl (aJ (x:=mkD m0) (y:=.int 2) (aJ (x:=.lst ((m0::R).map mkD)) (y:=.int 0) rfl rfl g0) rfl rfl) 0x1) (b:=h_ 8) rfl (oE _ _ (by simp only[ax];exact dJ 0x1) (aV tO _) (aV tO _))) (by rw[<-cr];exact aV tO _);rw[e,<-cr];rfl
 ·rw[ot] at z;rw[z] at hc;exact⟨w,r,.inl rfl,λq=>(by rw[q] at z;cases z),λq=>⟨hwF (by have h0:0<F.length:=Cr.mpr q;rcases hn.2 with h|h<;>lia),rfl⟩,aO hap (nQ hc rfl)⟩
theorem aJs(hw:ws.length<=600)(hm:m2.2.2=[p]) :
  b1s (ww ns at_ M T K kind mo le ws [] (wD h) (.int dr) (.lst (F.map D.str)) (.lst ((m0::m2::R).map mkD)) (.lst (A.map tkD)) x14 x15 x16)=.ok (.nx (ww ns at_ M T K kind mo le (ws++[m2.1]) [(p,ag)] (wD h) (.int dr) (.lst (F.map D.str)) (.lst ((m0::m2::R).map mkD)) (.lst (A.map tkD)) x14 x15 x16)):=by
 have g0:getD (.lst ((m0::m2::R).map mkD)) (.int 1)=.ok (mkD m2):=(G3 ((m0::m2::R).map mkD) 1 0x4 (by rw[ax,bc,bc];lia)).2;refine aO (ρ':=ww ns at_ M T K kind mo le (ws++[m2.1]) [] (wD h) (.int dr) (.lst (F.map D.str)) (.lst ((m0::m2::R).map mkD)) (.lst (A.map tkD)) x14 x15 x16) ?_ ?_
 ·have ap:=n_ (i:=7) (ρ:=ww ns at_ M T K kind mo le ws [] (wD h) (.int dr) (.lst (F.map D.str)) (.lst ((m0::m2::R).map mkD)) (.lst (A.map tkD)) x14 x15 x16) (f:=b2 getD (b2 getD sY bW) bJ) (xs:=ws.map D.str) (d:=.str m2.1) (aJ (x:=mkD m2) (y:=.int 0) (aJ (x:=.lst ((m0::m2::R).map mkD)) (y:=.int 1) rfl rfl g0) rfl rfl) rfl (by rw[ax];exact c5 (show ws.length<1000 by lia) (dJ (aS _))) rfl;unfold ww;rw[cr];exact ap
 ·have g2:getD (mkD m2) (.int 2)=.ok (.tup [.str p]):=by
   show Res.ok (D.tup (m2.2.2.map D.str))=_;rw[hm];rfl
  exact fJ (i:=8) (d:=.lst [wD (p,ag)]) (oO (xs:=[wD (p,ag)]) (aD (bL (xs:=[.str p,.bl ag]) (aD (aJ (x:=.tup [.str p]) (y:=.int 0) (aJ (x:=mkD m2) (y:=.int 2) (aJ (x:=.lst ((m0::m2::R).map mkD)) (y:=.int 1) rfl rfl g0) rfl g2) rfl rfl) (aD rfl rfl)) jA) rfl) (dJ (dw rfl)) rfl) rfl
theorem aJt(hw:ws.length<=600)(hr:r.length<=600)(hd:0<=dr)(hR:(m0::R).length<=100)(hm:∀m∈m0::R,m.2.2.length<=3) :
  ∃(m:Mk)(y14:D),m∈m0::R/\b3s (ww ns at_ M T K kind mo le ws r (wD h) (.int dr) (.lst (F.map D.str)) (.lst ((m0::R).map mkD)) (.lst (A.map tkD)) x14 x15 x16)=.ok (.nx (ww ns at_ M T K kind mo le (ws++[m.1]) ((m.2.2.map λx=>(x,ag))++r) (wD h) (.int dr) (.lst (F.map D.str)) (.lst ((m0::R).map mkD)) (.lst (A.map tkD)) y14 x15 x16)):=by
 have f4:=gF dr 4 0x4 0x4;have n1:(0:ah)<((m0::R).length:af):=by rw[bc];lia
 have m4:=dM (dr / 4) ((m0::R).length:af) n1;have p1:=eI (dr / 4) (show(((m0::R).length:af):ah)≠0 by lia);have p2:=ff (dr / 4) n1;obtain⟨m,hmm,hg⟩:=DR mkD (m0::R) (dr / 4 % ((m0::R).length:af)) p1 p2;have h3:=hm m hmm;refine⟨m,mkD m,hmm,?_⟩;refine aO (eN (aJ rfl (aJ (aJ rfl rfl f4) (aU (xs:=[.lst ((m0::R).map mkD)]) (aD rfl rfl) (by rw[jG,ax])) m4) hg) (jC m)) ?_;refine aO (ρ':=ww ns at_ M T K kind mo le (ws++[m.1]) r (wD h) (.int dr) (.lst (F.map D.str)) (.lst ((m0::R).map mkD)) (.lst (A.map tkD)) (mkD m) x15 x16) ?_ ?_
 ·have ap:=n_ (i:=7) (ρ:=ww ns at_ M T K kind mo le ws r (wD h) (.int dr) (.lst (F.map D.str)) (.lst ((m0::R).map mkD)) (.lst (A.map tkD)) (mkD m) x15 x16) (f:=b2 getD yC bJ) (xs:=ws.map D.str) (d:=.str m.1) (aJ (x:=mkD m) (y:=.int 0) rfl rfl rfl) rfl (by rw[ax];exact c5 (show ws.length<1000 by lia) (dJ (aS _))) rfl;unfold ww;rw[cr];exact ap
 ·have e:=fJ (i:=8) (d:=.lst ((m.2.2.map λx=>(x,ag)).map wD++r.map wD)) (aJ (f:=bA .add) (x:=.lst ((m.2.2.map λx=>(x,ag)).map wD)) (y:=.lst (r.map wD)) (JF (n:=0) (ρ:=ww ns at_ M T K kind mo le (ws++[m.1]) r (wD h) (.int dr) (.lst (F.map D.str)) (.lst ((m0::R).map mkD)) (.lst (A.map tkD)) (mkD m) x15 x16) (a:=b2 getD yC d9) (b:=ag) rfl (aJ (x:=mkD m) (y:=.int 2) rfl rfl rfl) 0x1) (b:=h_ 8) rfl (oE _ _ (by simp only[ax];exact dJ 0x1) (aV tO _) (aV tO _))) (by rw[<-cr];exact aV tO _);rw[e,<-cr];rfl
theorem aJu(hw:ws.length<=600)(hr:r.length<=600)(hd:0<=dr)(hA0:0<A.length)(hm:∀m∈A,m.2.2.2.length<=3) :
  ∃(m:Tk)(b:aq)(y15 y16:D),m∈A/\b4s (ww ns at_ M T K kind mo le ws r (wD h) (.int dr) (.lst (F.map D.str)) (.lst ((m0::R).map mkD)) (.lst (A.map tkD)) x14 x15 x16)=.ok (.nx (ww ns at_ M T K kind mo le (ws++[m.1]) (((m.2.2.1,b)::(m.2.2.2.map λx=>(x,ag)))++r) (wD h) (.int dr) (.lst (F.map D.str)) (.lst ((m0::R).map mkD)) (.lst (A.map tkD)) x14 y15 y16)):=by
 have f4:=gF dr 4 0x4 0x4;have f64:=gF dr 64 0x4 0x4;have m64:=dM (dr / 64) 4 0x4;have n1:(0:ah)<(A.length:af):=by lia
 have m4:=dM (dr / 4) (A.length:af) n1;have p1:=eI (dr / 4) (show((A.length:af):ah)≠0 by lia);have p2:=ff (dr / 4) n1;obtain⟨m,hmm,hg⟩:=DR tkD A (dr / 4 % (A.length:af)) p1 p2;have h3:=hm m hmm;refine⟨m,(decide ((0:ah)<((knD K).length:af))&&decide ((0:ah)<dr / 64 % 4)),tkD m,.bl (decide ((0:ah)<((knD K).length:af))&&decide ((0:ah)<dr / 64 % 4)),hmm,?_⟩;refine aO (eN (aJ rfl (aJ (aJ rfl rfl f4) (aU (xs:=[.lst (A.map tkD)]) (aD rfl rfl) (by rw[jG,ax])) m4) hg) (m7 m)) ?_;refine aO (ρ':=ww ns at_ M T K kind mo le (ws++[m.1]) r (wD h) (.int dr) (.lst (F.map D.str)) (.lst ((m0::R).map mkD)) (.lst (A.map tkD)) x14 (tkD m) x16) ?_ ?_
 ·have ap:=n_ (i:=7) (ρ:=ww ns at_ M T K kind mo le ws r (wD h) (.int dr) (.lst (F.map D.str)) (.lst ((m0::R).map mkD)) (.lst (A.map tkD)) x14 (tkD m) x16) (f:=b2 getD wY bJ) (xs:=ws.map D.str) (d:=.str m.1) (aJ (x:=tkD m) (y:=.int 0) rfl rfl rfl) rfl (by rw[ax];exact c5 (show ws.length<1000 by lia) (dJ (aS _))) rfl;unfold ww;rw[cr];exact ap
 have lx:aKw [.dct (knD K)]=.ok (.int ((knD K).length:af)):=by
  rw[aKw,ao (aC2 K)]
 generalize hb:(decide ((0:ah)<((knD K).length:af))&&decide ((0:ah)<dr / 64 % 4))=b;refine aO (ρ':=ww ns at_ M T K kind mo le (ws++[m.1]) r (wD h) (.int dr) (.lst (F.map D.str)) (.lst ((m0::R).map mkD)) (.lst (A.map tkD)) x14 (tkD m) (.bl b)) (cD (i:=16) (by
  rw[<-hb];exact aJo (aJ (x:=.int ((knD K).length:af)) (y:=.int 0) (aU (xs:=[.dct (knD K)]) (aD rfl rfl) lx) rfl (aL0 _ _)) (aJ (x:=.int (dr / 64 % 4)) (y:=.int 0) (aJ (x:=.int (dr / 64)) (aJ (x:=.int dr) rfl rfl f64) rfl m64) rfl (aL0 _ _)))) ?_
 have e:=fJ (i:=8) (d:=.lst (([wD (m.2.2.1,b)]++(m.2.2.2.map λx=>(x,ag)).map wD)++r.map wD)) (aJ (f:=bA .add) (x:=.lst ([wD (m.2.2.1,b)]++(m.2.2.2.map λx=>(x,ag)).map wD)) (y:=.lst (r.map wD)) (aJ (f:=bA .add) (x:=.lst [wD (m.2.2.1,b)]) (y:=.lst ((m.2.2.2.map λx=>(x,ag)).map wD)) (oO (a:=aA (bN (aA (b2 getD wY d9) (aA W6 aL))) aL) (xs:=[wD (m.2.2.1,b)]) (aD (bL (xs:=[.str m.2.2.1,.bl b]) (aD (aJ (x:=tkD m) (y:=.int 2) rfl rfl rfl) (aD rfl rfl)) jA) rfl) (dJ (dw rfl)) rfl) (JF (n:=0) (ρ:=ww ns at_ M T K kind mo le (ws++[m.1]) r (wD h) (.int dr) (.lst (F.map D.str)) (.lst ((m0::R).map mkD)) (.lst (A.map tkD)) x14 (tkD m) (.bl b)) (a:=b2 getD wY kE) (b:=ag) rfl (aJ (x:=tkD m) (y:=.int 3) rfl rfl rfl) 0x1) (oE _ _ (by simp only[ax];exact dJ (by show 1+_<=1000;lia)) rfl (aV tO _))) (b:=h_ 8) rfl (oE _ _ (by simp only[ax,bj];exact dJ (by show 1+_+_<=1000;lia)) (aV tO ((m.2.2.1,b)::(m.2.2.2.map λx=>(x,ag)))) (aV tO _))) (by
  have:=aV tO (((m.2.2.1,b)::(m.2.2.2.map λx=>(x,ag)))++r);rw[cr] at this;exact this)
 have z:([wD (m.2.2.1,b)]++(m.2.2.2.map λx=>(x,ag)).map wD)++r.map wD=((((m.2.2.1,b)::(m.2.2.2.map λx=>(x,ag)))++r)).map wD:=by
  rw[cr];rfl
 rw[e,z];rfl
end
def Wd(M:aa Mk)(T:aa Tk)(w:Str)(a:af):Prop:=(∃m∈M,w=m.1/\a=m.2.2.length)\/∃t∈T,w=t.1/\a=t.2.2.2.length+1
def Wk(M:aa Mk)(T:aa Tk)(K:aa Str)(w:Str)(a:af):Prop:=Wd M T w a\/(w∈K/\a=0)
inductive Dk(M:aa Mk)(T:aa Tk)(K:aa Str):af->aa Str->Prop
 |nil:Dk M T K 0 []
 |cons {w:Str} {a n:af} {ws:aa Str}:Wk M T K w a->Dk M T K (a+n) ws->Dk M T K (n+1) (w::ws)
theorem aF0(xs:aa Str)(b:aq)(h:xs.length<=3):sm ns (xs.map λx=>(x,b))<=6:=by
 have:=(NZ ns (xs.map λx=>(x,b))).2;rw[ax] at this;lia
theorem aJv(hn:ns.length<=63)(hm:0<many)(hm3:many<=3)(hM:MOk ns many many.toNat M)(hT:∀t∈T,iD ns many t)(hTl:T.length<=3)(hK:K.length<=100)(hw:ws.length<=600)(hr:r.length<=600)(hlm:le<=mo)(hk:∀q∈h::r,IsK ns many q.1) :
  ∃(w:Str)(L:aa Wt)(y9 y10 y11 y12 y13 y14 y15 y16:D),(∀q∈L,IsK ns many q.1)/\mu mo ns (ws.length+1) L+1<=mu mo ns ws.length (h::r)/\(∃a,Wk M T (K.map (·.1)) w a/\L.length=a+r.length)/\aEy (ww ns at_ M T K kind mo le ws (h::r) x9 x10 x11 x12 x13 x14 x15 x16)=.ok (.nx (ww ns at_ M T K kind mo le (ws++[w]) L y9 y10 y11 y12 y13 y14 y15 y16)):=by
 have mm:((many.toNat:af):ah)=many:=by lia
 have hk0:=hk h (bn ..);have hkr:∀q∈r,IsK ns many q.1:=λq hq=>hk q (bz _ hq)
 have h1:aE5 8 9 bJ (ww ns at_ M T K kind mo le ws (h::r) x9 x10 x11 x12 x13 x14 x15 x16)=.ok (.nx (ww ns at_ M T K kind mo le ws r (wD h) x10 x11 x12 x13 x14 x15 x16)):=rfl;have a1:=cU at_ (ws.length:af);generalize hdr:drw ns (at_+(ws.length:af))=dr;have hd:0<=dr:=by rw[<-hdr];exact(oN hn _).2.1
 have h2:bZ ag 10 (aK (bY 2 aP) (aA bQ (aA (b2 (bA .add) eO (aK dG (aA eE aL))) aL))) ae (ww ns at_ M T K kind mo le ws r (wD h) x10 x11 x12 x13 x14 x15 x16)=.ok (.nx (ww ns at_ M T K kind mo le ws r (wD h) (.int dr) x11 x12 x13 x14 x15 x16)):=by
  refine cD ?_;rw[<-hdr];exact uZ hn rfl (aJ rfl (aU (xs:=[.lst (ws.map D.str)]) (aD rfl rfl) (by rw[jG,ax])) a1)
 obtain⟨F,hF,hFm,eF⟩:=aNs (K:=K) (h:=h) 0x1 (x0:=.scr (ns.map D.int)) (x1:=.int at_) (x2:=bkD M T) (x4:=.str kind) (x5:=.int (mo:af)) (x6:=.int (le:af)) (x7:=.lst (ws.map D.str)) (x8:=.lst (r.map wD)) (x10:=.int dr) (x11:=x11) (x12:=x12) (x13:=x13) (x14:=x14) (x15:=x15) (x16:=x16);have h3:bZ ag 11 wfit ae (ww ns at_ M T K kind mo le ws r (wD h) (.int dr) x11 x12 x13 x14 x15 x16)=.ok (.nx (ww ns at_ M T K kind mo le ws r (wD h) (.int dr) (.lst (F.map D.str)) x12 x13 x14 x15 x16)):=cD (i:=11) eF;obtain⟨m0,m2,R,hf,hq,hm2⟩:=hM.find h.1 (by rw[mm];exact hk0);have ml:=hM.len;have h4:bZ ag 12 (aL1 0) ae (ww ns at_ M T K kind mo le ws r (wD h) (.int dr) (.lst (F.map D.str)) x12 x13 x14 x15 x16)=.ok (.nx (ww ns at_ M T K kind mo le ws r (wD h) (.int dr) (.lst (F.map D.str)) (.lst ((m0::m2::R).map mkD)) x13 x14 x15 x16)):=by
  rw[<-hf];exact cD (i:=12) (aNt 0x1)
 generalize hA:(T.filter λm=>m.2.1==h.1)=A;have h5:bZ ag 13 (aL1 1) ae (ww ns at_ M T K kind mo le ws r (wD h) (.int dr) (.lst (F.map D.str)) (.lst ((m0::m2::R).map mkD)) x13 x14 x15 x16)=.ok (.nx (ww ns at_ M T K kind mo le ws r (wD h) (.int dr) (.lst (F.map D.str)) (.lst ((m0::m2::R).map mkD)) (.lst (A.map tkD)) x14 x15 x16)):=by
  rw[<-hA];exact cD (i:=13) (aJq 0x1)
 have inM:∀m∈m0::m2::R,m∈M:=λm hq=>by
  rw[<-hf] at hq;exact(ng.mp hq).1
 have inT:∀m∈A,m∈T:=λm hq=>by
  rw[<-hA] at hq;exact(ng.mp hq).1
 have hlen:(m0::m2::R).length<=100:=by
  have:=List.length_filter_le (λm:Mk=>m.2.1==h.1) M;rw[hf] at this;lia
 have kd:∀m∈m0::m2::R,m.2.1=h.1:=λm hq=>by
  rw[<-hf] at hq;exact eq_of_beq (ng.mp hq).2
 have c1:c1s (ww ns at_ M T K kind mo le ws r (wD h) (.int dr) (.lst (F.map D.str)) (.lst ((m0::m2::R).map mkD)) (.lst (A.map tkD)) x14 x15 x16)=.ok (decide (((ws.length:af):ah)<(le:af))&&(((r.length:af):ah)==0)):=by
  have q1:bTB (b2 (b_ (.ord .lt)) (aK dG (aA eE aL)) fP) (ww ns at_ M T K kind mo le ws r (wD h) (.int dr) (.lst (F.map D.str)) (.lst ((m0::m2::R).map mkD)) (.lst (A.map tkD)) x14 x15 x16)=.ok (decide (((ws.length:af):ah)<(le:af))):=dR (aJ (x:=.int (ws.length:af)) (y:=.int (le:af)) (aU (xs:=[.lst (ws.map D.str)]) (aD rfl rfl) (by rw[jG,ax])) rfl (aRa _ _));have q2:bTB (b2 (b_ .eq) (aK dG (aA nA aL)) bJ) (ww ns at_ M T K kind mo le ws r (wD h) (.int dr) (.lst (F.map D.str)) (.lst ((m0::m2::R).map mkD)) (.lst (A.map tkD)) x14 x15 x16)=.ok (((r.length:af):ah)==0):=dR (aJ (x:=.int (r.length:af)) (y:=.int 0) (aU (xs:=[.lst (r.map wD)]) (aD rfl rfl) (by rw[jG,ax])) rfl (eq_int _ _));cases hb:decide (((ws.length:af):ah)<(le:af)) with
  |true=>rw[hb] at q1;exact aB2 q1 q2
  |false=>rw[hb] at q1;exact aIk q1
 have m4:=dM dr 4 0x4;have a2:=cU (ws.length:af) (r.length:af);have c2:c2s (ww ns at_ M T K kind mo le ws r (wD h) (.int dr) (.lst (F.map D.str)) (.lst ((m0::m2::R).map mkD)) (.lst (A.map tkD)) x14 x15 x16)=.ok (h.2||(decide (((mo:af):ah)<=(ws.length:af)+(r.length:af))||(dr % 4==0))):=aJn (RQ (aJ (x:=wD h) (y:=.int 1) rfl rfl rfl)) (aJn (dR (aJ (x:=.int ((ws.length:af)+(r.length:af))) (y:=.int (mo:af)) (aJ (x:=.int (ws.length:af)) (y:=.int (r.length:af)) (aU (xs:=[.lst (ws.map D.str)]) (aD rfl rfl) (by rw[jG,ax])) (aU (xs:=[.lst (r.map wD)]) (aD rfl rfl) (by rw[jG,ax])) a2) rfl (aSc _ _))) (dR (aJ (x:=.int (dr % 4)) (y:=.int 0) (aJ (x:=.int dr) rfl rfl m4) rfl (eq_int _ _))));have c3:c3s (ww ns at_ M T K kind mo le ws r (wD h) (.int dr) (.lst (F.map D.str)) (.lst ((m0::m2::R).map mkD)) (.lst (A.map tkD)) x14 x15 x16)=.ok (decide (dr % 4<3)||(((A.length:af):ah)==0)):=aJn (dR (aJ (x:=.int (dr % 4)) (y:=.int 3) (aJ (x:=.int dr) rfl rfl m4) rfl (aRa _ _))) (dR (aJ (x:=.int (A.length:af)) (y:=.int 0) (aU (xs:=[.lst (A.map tkD)]) (aD rfl rfl) (by rw[jG,ax])) rfl (eq_int _ _)));have fin:∀{res},sIf c1s b1s (sIf c2s b2s (sIf c3s b3s b4s)) (ww ns at_ M T K kind mo le ws r (wD h) (.int dr) (.lst (F.map D.str)) (.lst ((m0::m2::R).map mkD)) (.lst (A.map tkD)) x14 x15 x16)=res->aEy (ww ns at_ M T K kind mo le ws (h::r) x9 x10 x11 x12 x13 x14 x15 x16)=res:=λe=>aO h1 (aO h2 (aO h3 (aO h4 (aO h5 e))))
 have wh:=aEx ns h;by_cases z1:(decide (((ws.length:af):ah)<(le:af))&&(((r.length:af):ah)==0))=ae
 ·rw[z1] at c1;rw[aT,dL] at z1;have hr0:r=[]:=Cq.mp (by have:=eq_of_beq z1.2;lia);subst hr0;obtain⟨p,hp⟩:=Bq.mp hm2;have mp:=hM.part m2 (inM m2 (bz _ (bn ..)));refine⟨m2.1,[(p,ag)],_,_,_,_,_,_,_,_,λq hql=>?_,?_,⟨1,.inl (.inl ⟨m2,inM m2 (bz _ (bn ..)),rfl,by rw[hp];rfl⟩),rfl⟩,fin (Y0 c1 (aJs (ns:=ns) (at_:=at_) (M:=M) (T:=T) (K:=K) (kind:=kind) (mo:=mo) (le:=le) (h:=h) (R:=R) (A:=A) (x14:=x14) (x15:=x15) (x16:=x16) (F:=F) (m0:=m0) (p:=p) hw hp))⟩
  ·rw[gq.mp hql];exact mp.2.2 p (by rw[hp];exact bn ..)
  ·unfold mu;rw[sm,sm,sm,sm];have:=aEx ns (p,ag);lia
 rw[ot] at z1;rw[z1] at c1;by_cases z:(h.2||(decide (((mo:af):ah)<=(ws.length:af)+(r.length:af))||(dr % 4==0)))=ae
 ·rw[z] at c2;obtain⟨w,L,hL,hL2,hL3,e⟩:=aJr (ns:=ns) (at_:=at_) (M:=M) (T:=T) (K:=K) (kind:=kind) (mo:=mo) (le:=le) (h:=h) (R:=m2::R) (A:=A) (x14:=x14) (x15:=x15) (x16:=x16) hw hr hd (F:=F) 0x1 (m0:=m0) (by rcases hq with q|⟨q,_⟩<;>rw[q]<;>exact dw rfl);refine⟨w,L,_,_,_,_,_,_,_,_,λq hql=>?_,?_,?_,fin (nQ c1 (Y0 c2 e))⟩
  rotate_right
  ·by_cases hF0:F=[]
   ·obtain⟨e1,e2⟩:=hL2 hF0;exact⟨_,.inl (.inl ⟨m0,inM m0 (bn ..),e1,rfl⟩),by rw[e2,bj,ax]⟩
   ·obtain⟨e1,e2⟩:=hL3 hF0;exact⟨0,.inr ⟨hFm w e1,rfl⟩,by rw[e2,kh]⟩
  ·rcases hL with rfl|rfl
   ·exact hkr q hql
   ·rcases eS.mp hql with hql|hql
    ·obtain⟨x,hx,rfl⟩:=bE.mp hql;exact(hM.part m0 (inM m0 (bn ..))).2.2 x hx
    ·exact hkr q hql
  ·unfold mu;rw[sm];rcases hL with rfl|rfl
   ·lia
   ·rw[VN];rcases hq with q|⟨q,q2⟩
    ·rw[q];show _+(0+_)+1<=_;lia
    ·rw[q];have e1:sm ns ([wrd ns 0].map λx=>(x,ae))=1:=by
      show(if wrd ns 0=wrd ns 0 then 1 else 2)+0=1;rw[ao rfl]
     have e2:wt ns h=2:=by
      unfold wt;rw[aw q2]
     rw[e1,e2];lia
 ·rw[ot] at z;rw[z] at c2;have lt:ws.length+r.length<mo:=by
   simp only[zj,sD] at z;lia
  by_cases y:(decide (dr % 4<3)||(((A.length:af):ah)==0))=ae
  ·rw[y] at c3;obtain⟨m,y14,hmm,e⟩:=aJt (ns:=ns) (at_:=at_) (M:=M) (T:=T) (K:=K) (kind:=kind) (mo:=mo) (le:=le) (h:=h) (F:=F) (A:=A) (x14:=x14) (x15:=x15) (x16:=x16) hw hr hd (m0:=m0) (R:=m2::R) hlen (λm hq=>(hM.part m (inM m hq)).2.1);have mp:=hM.part m (inM m hmm);refine⟨m.1,_,_,_,_,_,_,_,_,_,λq hql=>?_,?_,⟨_,.inl (.inl ⟨m,inM m hmm,rfl,rfl⟩),by rw[bj,ax]⟩,fin (nQ c1 (nQ c2 (Y0 c3 e)))⟩
   ·rcases eS.mp hql with hql|hql
    ·obtain⟨x,hx,rfl⟩:=bE.mp hql;exact mp.2.2 x hx
    ·exact hkr q hql
   ·unfold mu;have:=aF0 (ns:=ns) m.2.2 ag mp.2.1;rw[sm,VN];lia
  ·rw[ot] at y;rw[y] at c3;have hA0:0<A.length:=by
    simp only[zj,fF] at y;lia
   obtain⟨m,b,y15,y16,hmm,e⟩:=aJu (ns:=ns) (at_:=at_) (M:=M) (T:=T) (K:=K) (kind:=kind) (mo:=mo) (le:=le) (h:=h) (F:=F) (m0:=m0) (R:=m2::R) (x14:=x14) (x15:=x15) (x16:=x16) hw hr hd (A:=A) hA0 (λm hq=>xA (hT m (inT m hq)).2.2.2.1);have mp:=hT m (inT m hmm);refine⟨m.1,_,_,_,_,_,_,_,_,_,λq hql=>?_,?_,⟨_,.inl (.inr ⟨m,inT m hmm,rfl,rfl⟩),by simp only[bj,bc,ax]⟩,fin (nQ c1 (nQ c2 (nQ c3 e)))⟩
   ·rcases eS.mp hql with hql|hql
    ·rcases bq.mp hql with rfl|hql
     ·exact mp.2.2.1
     ·obtain⟨x,hx,rfl⟩:=bE.mp hql;exact mp.2.2.2.2 x hx
    ·exact hkr q hql
   ·unfold mu;have:=(NZ ns (m.2.2.2.map λx=>(x,ag))).2;rw[ax] at this;have:=mp.2.2.2.1;have:=aEx ns (m.2.2.1,b);rw[sm,VN,sm];lia
theorem aJw(hn:ns.length<=63)(hm:0<many)(hm3:many<=3)(hM:MOk ns many many.toNat M)(hT:∀t∈T,iD ns many t)(hTl:T.length<=3)(hK:K.length<=100)(hlm:le<=mo) :
  ∀(n:af)(ws:aa Str)(L:aa Wt)(x9 x10 x11 x12 x13 x14 x15 x16:D),(∀q∈L,IsK ns many q.1)->mu mo ns ws.length L<n->ws.length+mu mo ns ws.length L<=600->
  ∃(vs:aa Str)(y9 y10 y11 y12 y13 y14 y15 y16:D),(vs.length<=mu mo ns ws.length L/\Dk M T (K.map (·.1)) L.length vs)/\aE4 (bTB (b2 (b_ (.ord .gt)) (aK dG (aA nA aL)) bJ)) aEy n (ww ns at_ M T K kind mo le ws L x9 x10 x11 x12 x13 x14 x15 x16)=.ok (.nx (ww ns at_ M T K kind mo le (ws++vs) [] y9 y10 y11 y12 y13 y14 y15 y16)):=by
 intro n;induction n with
 |zero=>intro ws L x9 x10 x11 x12 x13 x14 x15 x16 _ h;lia
 |succ n ih=>
  intro ws L x9 x10 x11 x12 x13 x14 x15 x16 hL h1 h2;have c:bTB (b2 (b_ (.ord .gt)) (aK dG (aA nA aL)) bJ) (ww ns at_ M T K kind mo le ws L x9 x10 x11 x12 x13 x14 x15 x16)=.ok (decide ((0:ah)<(L.length:af))):=dR (aJ (x:=.int (L.length:af)) (y:=.int 0) (aU (xs:=[.lst (L.map wD)]) (aD rfl rfl) (by rw[jG,ax])) rfl (aL0 _ _));cases L with
  |nil=>
   refine⟨[],x9,x10,x11,x12,x13,x14,x15,x16,⟨cy _,.nil⟩,?_⟩;rw[aE4,c,d6];rfl
  |cons h r=>
   have hl:=(NZ ns (h::r)).1;rw[bc] at hl;have hmu:sm ns (h::r)<=mu mo ns ws.length (h::r):=by unfold mu;lia
   obtain⟨w,L,y9,y10,y11,y12,y13,y14,y15,y16,i1,i2,i4,i3⟩:=aJv (at_:=at_) (kind:=kind) (mo:=mo) (le:=le) (x9:=x9) (x10:=x10) (x11:=x11) (x12:=x12) (x13:=x13) (x14:=x14) (x15:=x15) (x16:=x16) hn hm hm3 hM hT hTl hK (ws:=ws) (r:=r) (h:=h) 0x1 0x1 hlm hL;have wl:(ws++[w]).length=ws.length+1:=by rw[bj];rfl
   obtain⟨vs,z9,z10,z11,z12,z13,z14,z15,z16,j0,j⟩:=ih (ws++[w]) L y9 y10 y11 y12 y13 y14 y15 y16 i1 (by rw[wl];lia) (by rw[wl];lia);refine⟨w::vs,z9,z10,z11,z12,z13,z14,z15,z16,⟨by have:=j0.1;rw[wl] at this;rw[bc];lia,?_⟩,?_⟩
   ·obtain⟨a,k1,k2⟩:=i4;have d:=j0.2;rw[k2] at d;exact .cons k1 d
   rw[show ws++w::vs=ws++[w]++vs by simp];have:decide ((0:ah)<((h::r).length:af))=ae:=bi (by rw[bc];lia);rw[aE4,c,this,Res.aY,ao rfl,i3];exact j
theorem aF1(hn:ns.length<=63)(hm:0<many)(hm3:many<=3)(hM:MOk ns many many.toNat M)(hT:∀t∈T,iD ns many t)(hTl:T.length<=3)(hK:K.length<=100)(hlm:le<=mo)(hmo:mo<=70)(hk:IsK ns many kind) :
  ∃vs:aa Str,(vs.length<=6*mo+2/\Dk M T (K.map (·.1)) 1 vs)/\bY 7 fK [.scr (ns.map D.int),.int at_,bkD M T,.dct (knD K),.str kind,.int (mo:af),.int (le:af)]=.ok (.tup (vs.map D.str)):=by
 have m1:mu mo ns ([]:aa Str).length [(kind,ag)]<=6*mo+2:=by
  have:=(NZ ns [(kind,ag)]).2;unfold mu;have e:[(kind,ag)].length=1:=rfl;have e2:([]:aa Str).length=0:=rfl;lia
 obtain⟨vs,z9,z10,z11,z12,z13,z14,z15,z16,j0,j⟩:=aJw hn hm hm3 hM hT hTl hK hlm 1000 [] [(kind,ag)] .uD .uD .uD .uD .uD .uD .uD .uD (λq hq=>by rw[gq.mp hq];exact hk) 0x1 (by show 0+_<=600;lia);refine⟨vs,⟨c9 j0.1 m1,j0.2⟩,(eZ rfl).trans (call_v ?_)⟩;rw[aC4];refine aO (fJ (uY rfl (cy _)) rfl) ?_;refine aO (fJ (oO (aD (bL (aD rfl (aD rfl rfl)) jA) rfl) (dJ (dw rfl)) rfl) rfl) ?_;refine aO j ?_;exact lX (aU (aD rfl rfl) rfl) (by rw[D.pure,bR];rfl)
noncomputable abbrev Rl:=Str×Str×aa Str×aa Str
noncomputable def rlD(r:Rl):D:=.tup [.str r.1,.str r.2.1,.tup (r.2.2.1.map D.str),.tup (r.2.2.2.map D.str)]
theorem vW(r:Rl):(rlD r).pure=ae:=by
 show(ae&&(ae&&((D.tup (r.2.2.1.map D.str)).pure&&((D.tup (r.2.2.2.map D.str)).pure&&ae))))=ae;rw[D.pure,D.pure,bR,bR];rfl
theorem aGk:∀(K:aa (Str×Str))(x y:Str),∃K':aa (Str×Str),(K'.length<=K.length+1/\∀z∈K'.map (·.1),z∈K.map (·.1)\/z=x)/\putD (knD K) (.str x) (.str y)=knD K'
 |[],x,y=>⟨[(x,y)],⟨aS _,λz hz=>.inr (gq.mp hz)⟩,rfl⟩
 |p::K,x,y=>by
  show ∃K':aa (Str×Str),(K'.length<=(p::K).length+1/\∀z∈K'.map (·.1),z∈(p::K).map (·.1)\/z=x)/\(if (p.1==x) then (D.str p.1,D.str y)::knD K else (D.str p.1,D.str p.2)::putD (knD K) (.str x) (.str y))=knD K';by_cases z:(p.1==x)=ae
  ·rw[ao z];exact⟨(p.1,y)::K,⟨by simp,λz hz=>.inl hz⟩,rfl⟩
  ·rw[aw z];obtain⟨K',h1,h2⟩:=aGk K x y;rw[h2];refine⟨p::K',⟨?_,λz hz=>?_⟩,rfl⟩
   ·rw[bc,bc];have:=h1.1;lia
   ·rcases bq.mp hz with rfl|hz
    ·exact .inl (bn ..)
    ·exact(h1.2 z hz).imp (bz _) id
theorem aGl:∀(a b:aa Str)(K:aa (Str×Str)),∃K':aa (Str×Str),(K'.length<=K.length+a.length/\∀z∈K'.map (·.1),z∈K.map (·.1)\/z∈a)/\wF (a.map D.str) (b.map D.str) (knD K)=knD K'
 |[],b,K=>⟨K,⟨aS _,λz hz=>.inl hz⟩,by cases b<;>rfl⟩
 |x::a,[],K=>⟨K,⟨mP ..,λz hz=>.inl hz⟩,rfl⟩
 |x::a,y::b,K=>by
  obtain⟨K1,h1,h2⟩:=aGk K x y;obtain⟨K2,i1,i2⟩:=aGl a b K1;refine⟨K2,⟨by rw[bc];have:=h1.1;have:=i1.1;lia,λz hz=>?_⟩,?_⟩
  ·rcases i1.2 z hz with q|q
   ·rcases h1.2 z q with q|rfl
    ·exact .inl q
    ·exact .inr (bn ..)
   ·exact .inr (bz _ q)
  show wF (a.map D.str) (b.map D.str) (putD (knD K) (.str x) (.str y))=_;rw[h2,i2]
theorem aC5(a:aa Str):(a.map D.str).all mL=ae:=by
 rw[e9];intro d hd;obtain⟨x,_,rfl⟩:=bE.mp hd;rfl
def inr:FS:=(bK (bZ ag 5 (b2 KY (b2 getD fD d9) (b2 getD cV kE)) ag) (bK (bZ ag 6 (aK (bY 2 aP) (aA bQ (aA (b2 (bA .add) EY (aK dG (aA d_ aL))) aL))) ae) (bK (bZ ag 7 (eQ 11 (fX (aA (aK dG (aA d8 aL)) aL) lO) iV dX (aK (bY 2 aQ) (aA bQ (aA (b2 (bA .add) W7 (b2 (bA .mod) (b2 (bA .add) fP j5) aA5)) aL))) ae) ae) (bK (bZ ag 7 (aK gY (aA (b2 getD (zM (aA eE (aA (b1 aG3 eE) aL))) (b2 (bA .mod) (b2 (bA .fdiv) fP aA5) d9)) aL)) ag) (bK (bZ ag 8 (aK yU (aA eE (aA d8 aL))) ae) (bK (bZ ag 9 (aK (λds=>bY 7 fK (ds++[.int 0])) (aA bQ (aA (b2 (bA .add) aA6 (b2 lJ aHx (aK dG (aA d_ aL)))) (aA eO (aA nA (aA (b2 getD cV bW) (aA aA5 aL))))))) ae) (v_ 2 (bN (aA (b2 getD cV bJ) (aA (b2 getD fD bJ) (aA eE (aA nY aL))))))))))))
def irs:FS:=(sIf (bTB (b2 (b_ .eq) (b2 getD fD bW) (b2 getD cV d9))) inr j6)
theorem aC6:wI=bK (bZ ae 2 (zM aL) ae) (bK (tV (bT (b2 getD eO bW) ag) (tg1 3) (tV (bT (b2 getD eO bJ) ag) (tg1 4) irs)) (bK (bZ ag 10 (b2 (bA .mod) (aK (bY 2 aP) (aA bQ (aA (bC (.int 35)) aL))) (aK max2 (aA bW (aA (aK dG (aA d_ aL)) aL)))) ae) (gR (aK gY (aA (b2 (bA .add) (QX d_ (mQ jB) mR) (QX d_ mR (mQ jB))) aL)) ag))):=rfl
def rr(ns:aa ah)(M:aa Mk)(T:aa Tk)(R:aa Rl)(x3 x4 x5 x6 x7 x8 x9 x10:D):aa D:=[.scr (ns.map D.int),bkD M T,.lst (R.map rlD),x3,x4,x5,x6,x7,x8,x9,x10]
theorem aF2{ns:aa ah}(hn:ns.length<=63)(hρ:ρ.length=n)(h0:∀x:D,h_ 0 (ρ++[x])=.ok (.scr (ns.map D.int)))(hg:g ρ=.ok [.int sz])(hs1:sz<=100)
 (jf:ah->ah)(hf:∀p:ah,0<=jf p/\jf p<=33/\f (ρ++[.int p])=.ok (.int (jf p))) :
  eQ n (fX g lO) iV dX (aK (bY 2 aQ) (aA bQ (aA f aL))) ae ρ=.ok (.lst (((bw sz).map λ(k:af)=>wrd ns (jf (0+(k:ah)))).map D.str)):=by
 have rg:=wC hg 0x1 0x1;rw[om] at rg;refine gD rg (by rw[ax,dy,cL];lia) ?_;rw[e_ _ (λ(k:af)=>D.int (0+(k:ah))) (λ_=>ae) (λ(k:af)=>D.str (wrd ns (jf (0+(k:ah)))))]
 ·rw[jt.mpr (λ_ _=>rfl),dl,cS];rfl
 ·intro acc k;obtain⟨j0,j1,e⟩:=hf (0+(k:ah));exact fL (b:=ae) hρ rfl rfl λ_=>⟨aU (aD (h0 _) (aD e rfl)) (oR hn j0 j1).1,rfl⟩
theorem aNu(a:aa Str):aG3 (.lst (a.map D.str))=.ok (.lst (a.reverse.map D.str)):=by
 rw[aG3,ao (bR a),zn]
structure aD2(ns:aa ah)(M:aa Mk)(T:aa Tk)(r:Rl):Prop where
 tk:∃t∈T,r.1=t.1
 km:∃m∈M,r.2.1=m.1/\m.2.2.length<=r.2.2.1.length
 nm:∀x∈r.2.2.1,∃j:ah,(12<=j/\j<=16)/\x=wrd ns j
 ln:r.2.2.1.length<=5
 nd:r.2.2.1.Nodup
 wl:r.2.2.2.length<=32
 dk:Dk M T r.2.2.1 1 r.2.2.2
theorem Dk.mono(h:∀x∈K,x∈K'):Dk M T K n ws->Dk M T K' n ws
 |.nil=>.nil
 |.cons (.inl w) d=>.cons (.inl w) (Dk.mono h d)
 |.cons (.inr w) d=>.cons (.inr ⟨h _ w.1,w.2⟩) (Dk.mono h d)
theorem aNv(hn:ns.length<=63)(hm:0<many)(hm3:many<=3)(hM:MOk ns many many.toNat M)(hT:∀t∈T,iD ns many t)(hTl:T.length<=3)(ht:t∈T)(hmm:m∈M)(hR:R.length<=200)(hR0:∀r∈R,aD2 ns M T r) :
  ∃(R':aa Rl)(y5 y6 y7 y8 y9:D),(R'.length<=R.length+1/\∀r∈R',aD2 ns M T r)/\irs (rr ns M T R (tkD t) (mkD m) x5 x6 x7 x8 x9 x10)=.ok (.nx (rr ns M T R' (tkD t) (mkD m) y5 y6 y7 y8 y9 x10)):=by
 have tp:=hT t ht;have mp:=hM.part m hmm;have c:bTB (b2 (b_ .eq) (b2 getD fD bW) (b2 getD cV d9)) (rr ns M T R (tkD t) (mkD m) x5 x6 x7 x8 x9 x10)=.ok (m.2.1==t.2.2.1):=dR (aJ (aJ rfl rfl rfl) (aJ rfl rfl rfl) (eq_str _ _));by_cases z:(m.2.1==t.2.2.1)=ae
 ·rw[z] at c;have at1:=zH (m.2.2.map D.str) (t.2.2.2.map D.str) (by rw[ax,ax];have:=mp.2.1;have:=tp.2.2.2.1;lia);rw[<-cr] at at1;generalize hks:m.2.2++t.2.2.2=ks at at1;have kl:ks.length<=5:=by rw[<-hks,bj];have:=mp.2.1;have:=tp.2.2.2.1;lia
  have km:m.2.2.length<=ks.length:=by rw[<-hks,bj];lia
  have a26:=cU 26 (R.length:af);generalize hdr:drw ns (26+(R.length:af))=dr;have s1:bZ ag 5 (b2 KY (b2 getD fD d9) (b2 getD cV kE)) ag (rr ns M T R (tkD t) (mkD m) x5 x6 x7 x8 x9 x10)=.ok (.nx (rr ns M T R (tkD t) (mkD m) (.tup (ks.map D.str)) x6 x7 x8 x9 x10)):=eN (aJ (aJ rfl rfl rfl) (aJ rfl rfl rfl) at1) (by rw[D.pure,bR]);have s2:bZ ag 6 (aK (bY 2 aP) (aA bQ (aA (b2 (bA .add) EY (aK dG (aA d_ aL))) aL))) ae (rr ns M T R (tkD t) (mkD m) (.tup (ks.map D.str)) x6 x7 x8 x9 x10)=.ok (.nx (rr ns M T R (tkD t) (mkD m) (.tup (ks.map D.str)) (.int dr) x7 x8 x9 x10)):=by
   refine cD ?_;rw[<-hdr];exact uZ hn rfl (aJ (y:=.int (R.length:af)) rfl (aU (xs:=[.lst (R.map rlD)]) (aD rfl rfl) (by rw[jG,ax])) a26)
  have en:=aF2 (jf:=λp=>12+(dr+p) % 5) (n:=11) (ρ:=rr ns M T R (tkD t) (mkD m) (.tup (ks.map D.str)) (.int dr) x7 x8 x9 x10) (f:=b2 (bA .add) W7 (b2 (bA .mod) (b2 (bA .add) fP j5) aA5)) (sz:=ks.length) (g:=aA (aK dG (aA d8 aL)) aL) hn rfl (λ_=>rfl) (aD (aU (xs:=[.tup (ks.map D.str)]) (aD rfl rfl) (show dG [.tup (ks.map D.str)]=.ok (.int (ks.length:af)) by rw[show dG [.tup (ks.map D.str)]=.ok (.int ((ks.map D.str).length:af)) from rfl,ax])) rfl) 0x1 (λp=>by
   have e1:=cU dr p;have e2:=dM (dr+p) 5 0x4;have e3:=cU 12 ((dr+p) % 5);exact⟨by lia,by lia,aJ (x:=.int 12) (y:=.int ((dr+p) % 5)) rfl (aJ (x:=.int (dr+p)) (y:=.int 5) (aJ (x:=.int dr) (y:=.int p) rfl rfl e1) rfl e2) e3⟩)
  obtain⟨nm,hnm⟩:∃nm,nm=(bw ks.length).map λ(k:af)=>wrd ns (12+(dr+(0+(k:ah))) % 5):=⟨_,rfl⟩
  rw[<-hnm] at en;have nl:nm.length=ks.length:=by rw[hnm,ax,dy]
  have nP:∀x∈nm,∃j:ah,(12<=j/\j<=16)/\x=wrd ns j:=λx hx=>by
   rw[hnm] at hx;obtain⟨k,_,rfl⟩:=bE.mp hx;exact⟨_,by lia,rfl⟩
  have nnd:nm.Nodup:=by
   rw[hnm];unfold u7;rw[mr];refine(Cs).imp_of_mem λ{a b} ha hb hab z=>?_
   have ha:=fN.mp ha;have hb:=fN.mp hb;have:=vU hn 0x1 0x1 0x1 0x1 z;lia
  have s3:=cD (i:=7) en;have f5:=gF dr 5 0x4 0x4;have m2:=dM (dr / 5) 2 0x4;have gt:=JC (.lst (nm.map D.str)) (.lst (nm.reverse.map D.str)) (dr / 5 % 2) 0x1 0x1;obtain⟨nn,nnl,nnm,gt'⟩:∃nn:aa Str,nn.length=nm.length/\((∀x∈nn,x∈nm)/\nn.Nodup)/\getD (.lst [.lst (nm.map D.str),.lst (nm.reverse.map D.str)]) (.int (dr / 5 % 2))=.ok (.lst (nn.map D.str)):=by
   by_cases y:dr / 5 % 2=0
   ·rw[ao y] at gt;exact⟨nm,rfl,⟨λ_ h=>h,nnd⟩,gt⟩
   ·rw[aw y] at gt;exact⟨nm.reverse,mz,⟨λ_ h=>BO.mp h,(List.reverse_perm nm).nodup_iff.mpr nnd⟩,gt⟩
  have s4:bZ ag 7 (aK gY (aA (b2 getD (zM (aA eE (aA (b1 aG3 eE) aL))) (b2 (bA .mod) (b2 (bA .fdiv) fP aA5) d9)) aL)) ag (rr ns M T R (tkD t) (mkD m) (.tup (ks.map D.str)) (.int dr) (.lst (nm.map D.str)) x8 x9 x10)=.ok (.nx (rr ns M T R (tkD t) (mkD m) (.tup (ks.map D.str)) (.int dr) (.tup (nn.map D.str)) x8 x9 x10)):=by
   have rv:b1 aG3 eE (rr ns M T R (tkD t) (mkD m) (.tup (ks.map D.str)) (.int dr) (.lst (nm.map D.str)) x8 x9 x10)=.ok (.lst (nm.reverse.map D.str)):=aNu nm;exact eN (i:=7) (d:=.tup (nn.map D.str)) (aU (xs:=[.lst (nn.map D.str)]) (aD (aJ (uY (xs:=[.lst (nm.map D.str),.lst (nm.reverse.map D.str)]) (aD rfl (aD rv rfl)) jA) (aJ (x:=.int (dr / 5)) (aJ (x:=.int dr) rfl rfl f5) rfl m2) gt') rfl) rfl) (by rw[D.pure,bR])
  obtain⟨K,⟨kk,kz⟩,ek⟩:=aGl nn ks [];rw[eL] at kk;have zp:yU [.tup (nn.map D.str),.tup (ks.map D.str)]=.ok (.dct (knD K)):=by
   rw[yU,ao (by rw[aC5,bR,ax,ax,bi (show nn.length<=1000 by lia),bi (show ks.length=nn.length by lia)];rfl)];exact cz (λx=>Res.ok (D.dct x)) ek
  have s5:bZ ag 8 (aK yU (aA eE (aA d8 aL))) ae (rr ns M T R (tkD t) (mkD m) (.tup (ks.map D.str)) (.int dr) (.tup (nn.map D.str)) x8 x9 x10)=.ok (.nx (rr ns M T R (tkD t) (mkD m) (.tup (ks.map D.str)) (.int dr) (.tup (nn.map D.str)) (.dct (knD K)) x9 x10)):=cD (i:=8) (aU (xs:=[.tup (nn.map D.str),.tup (ks.map D.str)]) (aD rfl (aD rfl rfl)) zp);have m20:=oA 20 (R.length:af) 0x4;have a100:=cU 100 (20*(R.length:af));obtain⟨vs,vd,ew⟩:=aF1 (at_:=100+20*(R.length:af)) (K:=K) (kind:=t.2.1) (mo:=5) (le:=0) hn hm hm3 hM hT hTl 0x1 0x4 0x4 tp.2.1;have s6:bZ ag 9 (aK (λds=>bY 7 fK (ds++[.int 0])) (aA bQ (aA (b2 (bA .add) aA6 (b2 lJ aHx (aK dG (aA d_ aL)))) (aA eO (aA nA (aA (b2 getD cV bW) (aA aA5 aL))))))) ae (rr ns M T R (tkD t) (mkD m) (.tup (ks.map D.str)) (.int dr) (.tup (nn.map D.str)) (.dct (knD K)) x9 x10)=.ok (.nx (rr ns M T R (tkD t) (mkD m) (.tup (ks.map D.str)) (.int dr) (.tup (nn.map D.str)) (.dct (knD K)) (.tup (vs.map D.str)) x10)):=cD (i:=9) (aU (xs:=[.scr (ns.map D.int),.int (100+20*(R.length:af)),bkD M T,.dct (knD K),.str t.2.1,.int 5]) (aD rfl (aD (aJ (x:=.int 100) (y:=.int (20*(R.length:af))) rfl (aJ (x:=.int 20) (y:=.int (R.length:af)) rfl (aU (xs:=[.lst (R.map rlD)]) (aD rfl rfl) (by rw[jG,ax])) m20) a100) (aD rfl (aD rfl (aD (aJ (x:=tkD t) (y:=.int 1) rfl rfl rfl) (aD rfl rfl)))))) ew);have ap:=n_ (i:=2) (ρ:=rr ns M T R (tkD t) (mkD m) (.tup (ks.map D.str)) (.int dr) (.tup (nn.map D.str)) (.dct (knD K)) (.tup (vs.map D.str)) x10) (f:=bN (aA (b2 getD cV bJ) (aA (b2 getD fD bJ) (aA eE (aA nY aL))))) (xs:=R.map rlD) (d:=rlD (t.1,m.1,nn,vs)) (bL (xs:=[.str t.1,.str m.1,.tup (nn.map D.str),.tup (vs.map D.str)]) (aD (aJ (x:=tkD t) (y:=.int 0) rfl rfl rfl) (aD (aJ (x:=mkD m) (y:=.int 0) rfl rfl rfl) (aD rfl (aD rfl rfl)))) (dJ (dw rfl))) rfl (by rw[ax,cL];lia) (vW _);refine⟨R++[(t.1,m.1,nn,vs)],.tup (ks.map D.str),.int dr,.tup (nn.map D.str),.dct (knD K),.tup (vs.map D.str),⟨by rw[bj];exact aS _,λr hr=>?_⟩,Y0 c (aO s1 (aO s2 (aO s3 (aO s4 (aO s5 (aO s6 ?_))))))⟩
  ·rcases eS.mp hr with hr|hr
   ·exact hR0 r hr
   ·rw[gq.mp hr];exact⟨⟨t,ht,rfl⟩,⟨m,hmm,rfl,by show m.2.2.length<=nn.length;lia⟩,λx hx=>nP x (nnm.1 x hx),by show nn.length<=5;lia,nnm.2,vd.1,vd.2.mono λx hx=>(kz x hx).elim (λh=>by cases h) id⟩
  unfold rr;rw[cr];exact ap
 ·rw[ot] at z;rw[z] at c;exact⟨R,x5,x6,x7,x8,x9,⟨gn _,hR0⟩,nQ c rfl⟩
theorem VP(hn:ns.length<=63)(hm:0<many)(hm3:many<=3)(hM:MOk ns many many.toNat M)(hT:∀t∈T,iD ns many t)(hTl:T.length<=3)(ht:t∈T) :
  ∀(N:aa Mk)(R:aa Rl)(x4 x5 x6 x7 x8 x9 x10:D),(∀m∈N,m∈M)->R.length+N.length<=200->(∀r∈R,aD2 ns M T r)->∃(R':aa Rl)(y4 y5 y6 y7 y8 y9:D),(R'.length<=R.length+N.length/\∀r∈R',aD2 ns M T r)/\tU (tg1 4) irs (N.map mkD) (rr ns M T R (tkD t) x4 x5 x6 x7 x8 x9 x10)=.ok (.nx (rr ns M T R' (tkD t) y4 y5 y6 y7 y8 y9 x10))
 |[],R,x4,x5,x6,x7,x8,x9,x10,_,_,h0=>⟨R,x4,x5,x6,x7,x8,x9,⟨aS _,h0⟩,rfl⟩
 |m::N,R,x4,x5,x6,x7,x8,x9,x10,hN,hl,h0=>by
  rw[bc] at hl;obtain⟨R1,y5,y6,y7,y8,y9,h1,h2⟩:=aNv hn hm hm3 hM hT hTl ht (hN m (bn ..)) (R:=R) 0x1 h0;obtain⟨R2,z4,z5,z6,z7,z8,z9,i1,i2⟩:=VP hn hm hm3 hM hT hTl ht N R1 (mkD m) y5 y6 y7 y8 y9 x10 (λq hq=>hN q (bz _ hq)) (by have:=h1.1;lia) h1.2;refine⟨R2,z4,z5,z6,z7,z8,z9,⟨by rw[bc];have:=h1.1;have:=i1.1;lia,i1.2⟩,?_⟩;exact cQ (ρ1:=rr ns M T R (tkD t) (mkD m) x5 x6 x7 x8 x9 x10) rfl h2 i2
theorem VR(hn:ns.length<=63)(hm:0<many)(hm3:many<=3)(hM:MOk ns many many.toNat M)(hT:∀t∈T,iD ns many t)(hTl:T.length<=3) :
  ∀(N:aa Tk)(R:aa Rl)(x3 x4 x5 x6 x7 x8 x9 x10:D),(∀m∈N,m∈T)->R.length+9*N.length<=200->(∀r∈R,aD2 ns M T r)->∃(R':aa Rl)(y3 y4 y5 y6 y7 y8 y9:D),(R'.length<=R.length+9*N.length/\∀r∈R',aD2 ns M T r)/\tU (tg1 3) (tV (bT (b2 getD eO bJ) ag) (tg1 4) irs) (N.map tkD) (rr ns M T R x3 x4 x5 x6 x7 x8 x9 x10)=.ok (.nx (rr ns M T R' y3 y4 y5 y6 y7 y8 y9 x10))
 |[],R,x3,x4,x5,x6,x7,x8,x9,x10,_,_,h0=>⟨R,x3,x4,x5,x6,x7,x8,x9,⟨aS _,h0⟩,rfl⟩
 |t::N,R,x3,x4,x5,x6,x7,x8,x9,x10,hN,hl,h0=>by
  rw[bc] at hl;have ml:=hM.len;obtain⟨R1,y4,y5,y6,y7,y8,y9,h1,h2⟩:=VP hn hm hm3 hM hT hTl (hN t (bn ..)) M R x4 x5 x6 x7 x8 x9 x10 (λ_ h=>h) 0x1 h0;obtain⟨R2,z3,z4,z5,z6,z7,z8,z9,i1,i2⟩:=VR hn hm hm3 hM hT hTl N R1 (tkD t) y4 y5 y6 y7 y8 y9 x10 (λq hq=>hN q (bz _ hq)) (by have:=h1.1;lia) h1.2;refine⟨R2,z3,z4,z5,z6,z7,z8,z9,⟨by rw[bc];have:=h1.1;have:=i1.1;lia,i1.2⟩,?_⟩;have pm:(ag||(D.tup (M.map mkD)).pure)=ae:=by rw[D.pure,aV jC];rfl
  have it:=g_ (a:=b2 getD eO bJ) (ρ:=rr ns M T R (tkD t) x4 x5 x6 x7 x8 x9 x10) (xs:=M.map mkD) (aJ (x:=bkD M T) (y:=.int 0) rfl rfl rfl);rw[pm] at it;exact cQ (ρ1:=rr ns M T R (tkD t) x4 x5 x6 x7 x8 x9 x10) rfl (nD it h2) i2
theorem JG(f:α->D)(L:aa α)(lo hi:au ah):cutD (L.map f) lo hi=(cutD L lo hi).map f:=by
 unfold cutD;rw[ax,List.map_take,List.map_drop]
theorem sV(L:aa α)(lo hi:au ah):(cutD L lo hi).length<=L.length:=by
 unfold cutD;exact c9 (List.length_take_le' ..) (by rw[nK];lia)
theorem aF3(hn:ns.length<=63)(hm:0<many)(hm3:many<=3)(hM:MOk ns many many.toNat M)(hT:∀t∈T,iD ns many t)(hTl:T.length<=3):∃R:aa Rl,(R.length<=60/\∀r∈R,aD2 ns M T r)/\bY 2 lB [.scr (ns.map D.int),bkD M T]=.ok (.tup (R.map rlD)):=by
 obtain⟨R,y3,y4,y5,y6,y7,y8,y9,h1,h2⟩:=VR hn hm hm3 hM hT hTl T [] .uD .uD .uD .uD .uD .uD .uD .uD (λ_ h=>h) (by show 0+_<=200;lia) (λ_ h=>by cases h);rw[eL] at h1;have h1a:=h1.1;obtain⟨n,n1,hx⟩:∃n:ah,0<n/\max2 [.int 1,.int (R.length:af)]=.ok (.int n):=by
  refine⟨_,?_,aQt R.length⟩;split<;>lia
 have mn:=dM (drw ns 35) n n1;generalize hat:drw ns 35 % n=at_ at mn;have pt:(ag||(D.tup (T.map tkD)).pure)=ae:=by rw[D.pure,aV m7];rfl
 have it:=g_ (a:=b2 getD eO bW) (ρ:=rr ns M T [] .uD .uD .uD .uD .uD .uD .uD .uD) (xs:=T.map tkD) (aJ (x:=bkD M T) (y:=.int 1) rfl rfl rfl);rw[pt] at it;have cm:∀lo hi,∀r∈cutD R lo hi,r∈R:=λlo hi r h=>by
  unfold cutD at h;exact Ct (Cu h)
 refine⟨cutD R (ab at_) ai++cutD R ai (ab at_),⟨?_,λr hr=>?_⟩,(eZ rfl).trans (call_v ?_)⟩
 ·have l1:=sV R (ab at_) ai;have l2:=sV R ai (ab at_);rw[bj];lia
 ·rcases eS.mp hr with h|h
  ·exact h1.2 r (cm _ _ r h)
  ·exact h1.2 r (cm _ _ r h)
 rw[aC6];refine aO (ρ':=rr ns M T [] .uD .uD .uD .uD .uD .uD .uD .uD) (fJ (i:=2) (uY (xs:=[]) rfl (cy _)) rfl) ?_;refine aO (nD it h2) ?_;refine aO (ρ':=rr ns M T R y3 y4 y5 y6 y7 y8 y9 (.int at_)) (cD (i:=10) (aJ (x:=.int (drw ns 35)) (y:=.int n) (uZ hn rfl rfl) (aU (xs:=[.int 1,.int (R.length:af)]) (aD rfl (aD (aU (xs:=[.lst (R.map rlD)]) (aD rfl rfl) (by rw[jG,ax])) rfl)) hx) mn)) ?_;have sl:∀lo hi,aE2 (.lst (R.map rlD)) lo hi=.ok (.lst ((cutD R lo hi).map rlD)):=λlo hi=>by
  show aKs (.lst (R.map rlD)) lo hi=_;rw[aKs,ao (aV vW R),JG]
 have e1:QX d_ (mQ jB) mR (rr ns M T R y3 y4 y5 y6 y7 y8 y9 (.int at_))=.ok (.lst ((cutD R (ab at_) ai).map rlD)):=sl (ab at_) ai;have e2:QX d_ mR (mQ jB) (rr ns M T R y3 y4 y5 y6 y7 y8 y9 (.int at_))=.ok (.lst ((cutD R ai (ab at_)).map rlD)):=sl ai (ab at_);have l1:=sV R (ab at_) ai;have l2:=sV R ai (ab at_);have e3:=oE ((cutD R (ab at_) ai).map rlD) ((cutD R ai (ab at_)).map rlD) (by rw[ax,ax];exact dJ 0x1) (aV vW _) (aV vW _);rw[<-cr] at e3;exact lX (d:=.tup ((cutD R (ab at_) ai++cutD R ai (ab at_)).map rlD)) (aU (xs:=[.lst ((cutD R (ab at_) ai++cutD R ai (ab at_)).map rlD)]) (aD (aJ e1 e2 e3) rfl) rfl) (by rw[D.pure,aV vW];rfl)
def pgD(ks:aa Str)(M:aa Mk)(T:aa Tk)(R:aa Rl):D:=.tup [.tup (ks.map D.str),.tup (M.map mkD),.tup (T.map tkD),.tup (R.map rlD)]
theorem aJx(ks:aa Str)(M:aa Mk)(T:aa Tk)(R:aa Rl):(pgD ks M T R).pure=ae:=by
 show((D.tup (ks.map D.str)).pure&&((D.tup (M.map mkD)).pure&&((D.tup (T.map tkD)).pure&&((D.tup (R.map rlD)).pure&&ae))))=ae;rw[D.pure,D.pure,D.pure,D.pure,bR,aV jC,aV m7,aV vW];rfl
theorem YS(hn:ns.length<=63):∃(many:ah)(ks:aa Str)(M:aa Mk)(T:aa Tk)(R:aa Rl),(0<many/\many<=3)/\MOk ns many many.toNat M/\(∀t∈T,iD ns many t)/\(T.length<=3/\T.map (·.1)=(bw T.length).map (λ(k:af)=>wrd ns (17+(k:ah))))/\((∀k∈ks,IsK ns many k)/\ks.length=many.toNat)/\(R.length<=60/\∀r∈R,aD2 ns M T r)/\bY 1 iT [.scr (ns.map D.int)]=.ok (pgD ks M T R):=by
 have m3:=dM (drw ns 39) 3 0x4;have a1:=cU 1 (drw ns 39 % 3);generalize hmany:1+drw ns 39 % 3=many at a1;have hm:0<many:=by lia
 have hm3:many<=3:=by lia
 obtain⟨M,hM,eM⟩:=aBz hn hm hm3;obtain⟨T,hT,hTl,eT⟩:=aC0 hn hm hm3;obtain⟨R,hR,eR⟩:=aF3 hn hm hm3 hM hT hTl.1;have ml:=hM.len;obtain⟨ks,h1,h2,h3⟩:=sS (jM 4 iV dX (aK (bY 2 aQ) (aA bQ (aA fD aL))) ae [.scr (ns.map D.int),.int many,bkD M T,.uD]) D.str (IsK ns many) ((bw many.toNat).map λ(k:af)=>D.int (0+(k:ah))) [] (λx hx acc=>by
  obtain⟨k,hk,rfl⟩:=bE.mp hx;have hk:=fN.mp hk;have w:=(oR hn (i:=0+(k:ah)) 0x1 0x1).1;exact⟨wrd ns (0+(k:ah)),⟨_,by lia,by lia,rfl⟩,fL (b:=ae) (bs:=[.int (0+(k:ah))]) (y:=.str (wrd ns (0+(k:ah)))) rfl rfl rfl λ_=>⟨aU (xs:=[.scr (ns.map D.int),.int (0+(k:ah))]) (aD rfl (aD rfl rfl)) w,rfl⟩⟩)
 rw[dl] at h3;rw[ax,dy] at h2;refine⟨many,ks,M,T,R,⟨hm,hm3⟩,hM,hT,hTl,⟨h1,h2⟩,hR,(eZ rfl).trans (call_v ?_)⟩;refine aO (ρ':=[.scr (ns.map D.int),.int many,.uD,.uD]) (cD (i:=1) (aJ (x:=.int 1) (y:=.int (drw ns 39 % 3)) rfl (aJ (x:=.int (drw ns 39)) (uZ hn rfl rfl) rfl m3) a1)) ?_;refine aO (ρ':=[.scr (ns.map D.int),.int many,bkD M T,.uD]) (cD (i:=2) (bL (xs:=[.tup (M.map mkD),.tup (T.map tkD)]) (aD (aU (xs:=[.scr (ns.map D.int),.int many]) (aD rfl (aD rfl rfl)) eM) (aD (aU (xs:=[.scr (ns.map D.int),.int many]) (aD rfl (aD rfl rfl)) eT) rfl)) jA)) ?_;refine aO (ρ':=[.scr (ns.map D.int),.int many,bkD M T,.tup (ks.map D.str)]) (eN (i:=3) (aU (xs:=[.lst (ks.map D.str)]) (aD (gD (wC (n:=many) (aD rfl rfl) 0x1 0x1) (by rw[ax,dy,cL];lia) h3) rfl) rfl) (by rw[D.pure,bR])) ?_;exact lX (d:=pgD ks M T R) (bL (xs:=[.tup (ks.map D.str),.tup (M.map mkD),.tup (T.map tkD),.tup (R.map rlD)]) (aD rfl (aD (aJ (x:=bkD M T) (y:=.int 0) rfl rfl rfl) (aD (aJ (x:=bkD M T) (y:=.int 1) rfl rfl rfl) (aD (aU (xs:=[.scr (ns.map D.int),bkD M T]) (aD rfl (aD rfl rfl)) eR) rfl)))) (dJ (dw rfl))) (by rw[aJx];rfl)
structure KE{α:Type}[cq α](ek:α->D):Prop where
 eq:∀a b,eqD (ek a) (ek b)=decide (a=b)
 ok:∀a,keyOk (ek a)=ae
 tu:∀a b,isTup (ek a)=isTup (ek b)
section
variable {α:Type} [cq α] {ek:α->D}
noncomputable def dD(ek:α->D)(L:aa (α×D)):aa (D×D):=L.map λp=>(ek p.1,p.2)
noncomputable def nR:aa (α×D)->α->D->aa (α×D)
 |[],a,v=>[(a,v)]
 |p::L,a,v=>if p.1=a then (p.1,v)::L else p::nR L a v
noncomputable def bU:aa (α×D)->α->au D
 |[],_=>ai
 |p::L,a=>if p.1=a then ab p.2 else bU L a
def eU(L ps:aa (α×D)):aa (α×D):=ps.foldl (λL p=>nR L p.1 p.2) L
theorem nG(h:KE ek)(a:α)(v:D):∀L:aa (α×D),putD (dD ek L) (ek a) v=dD ek (nR L a v)
 |[]=>rfl
 |p::L=>by
  show(if eqD (ek p.1) (ek a) then _ else _)=_;rw[h.eq,nR];by_cases z:p.1=a
  ·rw[ao z,ao (bi z)];rfl
  ·rw[aw z,aw (by rw[cK z];simp)];show _::putD (dD ek L) (ek a) v=_;rw[nG h a v L];rfl
theorem uG(h:KE ek)(a:α):∀L:aa (α×D),fB (dD ek L) (ek a)=bU L a
 |[]=>rfl
 |p::L=>by
  show(if eqD (ek p.1) (ek a) then _ else _)=_;rw[h.eq,bU];by_cases z:p.1=a
  ·rw[ao z,ao (bi z)]
  ·rw[aw z,aw (by rw[cK z];simp)];exact uG h a L
theorem nH(h:KE ek)(L:aa (α×D))(a:α):O4 (dD ek L) (ek a)=ae:=by
 unfold O4 dD;rw[h.ok,tF,e9];intro p hp;obtain⟨q,_,rfl⟩:=bE.mp hp;rw[h.tu q.1 a];exact eo _
theorem oU(L:aa (α×D)):(dD ek L).length=L.length:=ax ..
theorem xM(a:α)(v:D):∀L:aa (α×D),(nR L a v).length<=L.length+1
 |[]=>aS _
 |p::L=>by
  rw[nR];split
  ·exact gn _
  ·have:=xM a v L;rw[bc,bc];lia
theorem mH:∀(ps L:aa (α×D)),(eU L ps).length<=L.length+ps.length
 |[],_=>aS _
 |p::ps,L=>by
  have:=mH ps (nR L p.1 p.2);have:=xM p.1 p.2 L;rw[bc];show(eU (nR L p.1 p.2) ps).length<=_;lia
theorem sW(a b:α)(v:D):∀L:aa (α×D),bU (nR L a v) b=if a=b then ab v else bU L b
 |[]=>rfl
 |p::L=>by
  rw[nR];by_cases z:p.1=a
  ·rw[ao z,bU,bU,z];split<;>rfl
  ·rw[aw z,bU,bU,sW a b v L];by_cases y:p.1=b
   ·rw[ao y,ao y,aw (λq=>z (y.trans q.symm))]
   ·rw[aw y,aw y]
theorem m8(a:α):∀(ps L:aa (α×D)),a∉ps.map (·.1)->bU (eU L ps) a=bU L a
 |[],_,_=>rfl
 |p::ps,L,h=>by
  rw[bh,bq,gu] at h;show bU (eU (nR L p.1 p.2) ps) a=_;rw[m8 a ps _ h.2,sW,aw (λq=>h.1 q.symm)]
theorem uH(a:α)(v:D):∀(ps L:aa (α×D)),(ps.map (·.1)).Nodup->(a,v)∈ps->bU (eU L ps) a=ab v
 |[],_,_,h=>by cases h
 |p::ps,L,hn,h=>by
  rw[bh,dj] at hn;show bU (eU (nR L p.1 p.2) ps) a=_;rcases bq.mp h with rfl|h
  ·rw[m8 _ ps _ hn.1,sW,ao rfl]
  ·exact uH a v ps _ hn.2 h
theorem lF(h:KE ek)(e:bU L a=ab v):getD (.dct (dD ek L)) (ek a)=.ok v:=by
 have:getD (.dct (dD ek L)) (ek a)=(if keyOk (ek a) then Res.ofOpt (fB (dD ek L) (ek a)) else .bad):=by
  have:=h.ok a;generalize ek a=k at this ⊢;cases k<;>first|rfl|cases this
 rw[this,h.ok,ao rfl,uG h,e];rfl
end
theorem aC7[cq α][BEq α][LawfulBEq α](a b:α):(a==b)=decide (a=b):=by
 by_cases z:a=b
 ·rw[bi z,z,eo]
 ·rw[cK z,fF];exact z
theorem d7:KE D.str:=⟨λa b=>by show(a==b)=_;exact aC7 a b,λ_=>rfl,λ_ _=>rfl⟩
theorem N5:KE D.int:=⟨λa b=>by show(a==b)=_;exact aC7 a b,λ_=>rfl,λ_ _=>rfl⟩
noncomputable abbrev En:=ah×ah
noncomputable def enD(e:En):D:=.tup [.int e.1,.int e.2]
theorem j_:KE enD:=⟨λa b=>by
 show((a.1==b.1)&&((a.2==b.2)&&ae))=_;rw[xm];by_cases z:a=b
 ·rw[bi z,z,eo,eo];rfl
 ·rw[cK z,Bool.and_eq_false_iff,fF,fF];by_cases y:a.1=b.1
  ·exact .inr λq=>z (wo y q)
  ·exact .inl y,λ_=>rfl,λ_ _=>rfl⟩
theorem lK(e:En):(enD e).pure=ae:=rfl
theorem aJy(xs:aa Str):dG [.tup (xs.map D.str)]=.ok (.int (xs.length:af)):=by
 rw[show dG [.tup (xs.map D.str)]=.ok (.int ((xs.map D.str).length:af)) from rfl,ax]
theorem wU(h:n<=10000):n<lim:=by rw[cL];lia
theorem fU(h1:a ρ=.ok (.tup xs))(hp:D.aW xs=ae)(h2:tU t body xs ρ=r):tV (bT a ag) t body ρ=r:=by
 have it:=g_ h1;rw[D.pure,hp] at it;exact nD it h2
theorem aF4(f:α->D):∀{l m:aa D},l.Perm m->∀U:aa α,m=U.map f->∃V:aa α,V.Perm U/\l=V.map f:=by
 intro l m h;induction h with
 |nil=>intro U e;exact⟨U,.refl _,e⟩
 |cons x _ ih=>
  intro U e;cases U with
  |nil=>cases e
  |cons u U=>
   injection e with e1 e2
   obtain⟨V,p,e⟩:=ih U e2;exact⟨u::V,p.cons u,by rw[e,e1];rfl⟩
 |swap x y l=>
  intro U e
  match U,e with
  |u::v::U,e=>
   injection e with e1 e2
   injection e2 with e2 e3
   exact⟨v::u::U,.swap u v U,by rw[e1,e2,e3];rfl⟩
 |trans _ _ ih1 ih2=>
  intro U e;obtain⟨V,p,e⟩:=ih2 U e;obtain⟨W,q,e'⟩:=ih1 V e;exact⟨W,q.trans p,e'⟩
theorem aGm(a b:En):(jJ .lt (enD a) (enD b)).isSome=ae:=by
 show(if eqD (.int a.1) (.int b.1) then (if eqD (.int a.2) (.int b.2) then ab (gV.lt.nat 0 0) else ab (gV.lt.int a.2 b.2)) else ab (gV.lt.int a.1 b.1)).isSome=ae;split
 ·split<;>rfl
 ·rfl
abbrev Ti:=En×En
def tiD(t:Ti):D:=.tup [enD t.1,enD t.2]
theorem m9(t:Ti):(tiD t).pure=ae:=rfl
theorem aNw(a b:Ti):(jJ .lt (tiD a) (tiD b)).isSome=ae:=by
 show(if eqD (enD a.1) (enD b.1) then (if eqD (enD a.2) (enD b.2) then ab (gV.lt.nat 0 0) else jJ .lt (enD a.2) (enD b.2)) else jJ .lt (enD a.1) (enD b.1)).isSome=ae;split
 ·split
  ·rfl
  ·exact aGm _ _
 ·exact aGm _ _
noncomputable abbrev Pi:=ah×Str
noncomputable def piD(p:Pi):D:=.tup [.int p.1,.str p.2]
theorem vX(t:Pi):(piD t).pure=ae:=rfl
theorem aNx(a b:Pi):(jJ .lt (piD a) (piD b)).isSome=ae:=by
 show(if eqD (.int a.1) (.int b.1) then (if eqD (.str a.2) (.str b.2) then ab (gV.lt.nat 0 0) else ab (gV.lt.str a.2 b.2)) else ab (gV.lt.int a.1 b.1)).isSome=ae;split
 ·split<;>rfl
 ·rfl
theorem sX[cq α](dB:β->D)(ps:β->aa (α×D))(hps:∀b,(ps b).length<=2)(R:aa (α×D)->aa D->Prop)
 (step:∀b L ρ,R L ρ->L.length<=5000->∃ρ1 ρ2,t (dB b) ρ=.ok ρ1/\body ρ1=.ok (.nx ρ2)/\R (eU L (ps b)) ρ2) :
  ∀(bs:aa β)(L:aa (α×D))(ρ:aa D),R L ρ->L.length+2*bs.length<=5000->∃ρ',R (eU L (bs.flatMap ps)) ρ'/\tU t body (bs.map dB) ρ=.ok (.nx ρ')
 |[],L,ρ,h,_=>⟨ρ,h,rfl⟩
 |b::bs,L,ρ,h,hl=>by
  rw[bc] at hl;obtain⟨ρ1,ρ2,e1,e2,h2⟩:=step b L ρ h 0x1;have:=mH (ps b) L;have:=hps b;obtain⟨ρ',h3,e3⟩:=sX dB ps hps R step bs _ ρ2 h2 0x1;refine⟨ρ',?_,cQ e1 e2 e3⟩;rw[ju];have:eU L (ps b++bs.flatMap ps)=eU (eU L (ps b)) (bs.flatMap ps):=Be ..;rw[this];exact h3
noncomputable def psM(M:aa Mk):aa (Str×D):=M.map λm=>(m.1,D.int (m.2.2.length:af))
noncomputable def psT(T:aa Tk):aa (Str×D):=T.map λt=>(t.1,D.int ((t.2.2.2.length:af)+1))
def stk(M:aa Mk)(T:aa Tk):aa (Str×D):=eU (eU [("copy",.int 2),("drop",.int 0)] (psM M)) (psT T)
theorem u9(f:α->β)(L:aa α):L.flatMap (λa=>[f a])=L.map f:=by
 induction L with
 |nil=>rfl
 |cons a L ih=>rw[ju,ih];rfl
theorem aF5(hM:M.length<=9)(hT:T.length<=3):bY 1 lC [pgD ks M T R]=.ok (.dct (dD D.str (stk M T))):=by
 refine(eZ rfl).trans (call_v ?_);obtain⟨ρ1,⟨y2,y3,h1⟩,e1⟩:=sX (t:=tg1 2) (body:=zN 1 (b2 getD d_ bJ) (aK dG (aA (b2 getD d_ d9) aL))) mkD (λm=>[(m.1,D.int (m.2.2.length:af))]) (λ_=>dw rfl) (λL ρ=>∃x2 x3,ρ=[pgD ks M T R,.dct (dD D.str L),x2,x3]) (λm L ρ z0 hl=>by
  obtain⟨x2,x3,h⟩:=z0;subst h;have p:=tM (i:=1) (ρ:=[pgD ks M T R,.dct (dD D.str L),mkD m,x3]) (f:=b2 getD d_ bJ) (g:=aK dG (aA (b2 getD d_ d9) aL)) (kvs:=dD D.str L) (k:=.str m.1) (d:=.int (m.2.2.length:af)) (aU (xs:=[.tup (m.2.2.map D.str)]) (aD (aJ (x:=mkD m) (y:=.int 2) rfl rfl rfl) rfl) (aJy _)) (aJ (x:=mkD m) (y:=.int 0) rfl rfl rfl) rfl (by rw[oU];exact wU 0x1) (nH d7 L m.1) rfl;rw[nG d7] at p;exact⟨_,_,rfl,p,_,_,rfl⟩) M [("copy",.int 2),("drop",.int 0)] [pgD ks M T R,.dct (dD D.str [("copy",.int 2),("drop",.int 0)]),.uD,.uD] ⟨_,_,rfl⟩ (by show 2+_<=5000;lia)
 rw[u9] at h1;have l1:=mH (psM M) [("copy",.int 2),("drop",.int 0)];rw[psM,ax] at l1;obtain⟨ρ2,⟨z2,z3,h2⟩,e2⟩:=sX (t:=tg1 3) (body:=zN 1 (b2 getD cV bJ) (b2 (bA .add) (aK dG (aA (b2 getD cV kE) aL)) bW)) tkD (λt=>[(t.1,D.int ((t.2.2.2.length:af)+1))]) (λ_=>dw rfl) (λL ρ=>∃x2 x3,ρ=[pgD ks M T R,.dct (dD D.str L),x2,x3]) (λm L ρ z0 hl=>by
  obtain⟨x2,x3,h⟩:=z0;subst h;have p:=tM (i:=1) (ρ:=[pgD ks M T R,.dct (dD D.str L),x2,tkD m]) (f:=b2 getD cV bJ) (g:=b2 (bA .add) (aK dG (aA (b2 getD cV kE) aL)) bW) (kvs:=dD D.str L) (k:=.str m.1) (d:=.int ((m.2.2.2.length:af)+1)) (aJ (x:=.int (m.2.2.2.length:af)) (y:=.int 1) (aU (xs:=[.tup (m.2.2.2.map D.str)]) (aD (aJ (x:=tkD m) (y:=.int 3) rfl rfl rfl) rfl) (aJy _)) rfl (cU _ _)) (aJ (x:=tkD m) (y:=.int 0) rfl rfl rfl) rfl (by rw[oU];exact wU 0x1) (nH d7 L m.1) rfl;rw[nG d7] at p;exact⟨_,_,rfl,p,_,_,rfl⟩) T _ ρ1 ⟨_,_,h1⟩ (by have:([("copy",D.int 2),("drop",D.int 0)]:aa (Str×D)).length=2:=rfl;lia)
 rw[u9] at h2;refine aO (ρ':=[pgD ks M T R,.dct (dD D.str [("copy",.int 2),("drop",.int 0)]),.uD,.uD]) (fJ (i:=1) (d:=.dct (dD D.str [("copy",.int 2),("drop",.int 0)])) (by unfold aIu;with_unfolding_all rfl) rfl) ?_;refine aO (fU (xs:=M.map mkD) (aJ (x:=pgD ks M T R) (y:=.int 1) rfl rfl rfl) (aV jC M) e1) ?_;subst h1;refine aO (fU (xs:=T.map tkD) (aJ (x:=pgD ks M T R) (y:=.int 2) rfl rfl rfl) (aV m7 T) e2) ?_;subst h2;rfl
noncomputable def hdM(m:Mk):Str×D:=(m.1,.tup [.str m.2.1,.tup (m.2.2.map D.str)])
noncomputable def hdT(t:Tk):Str×D:=(t.1,.tup [.str t.2.1,.tup ((t.2.2.1::t.2.2.2).map D.str)])
def hds(M:aa Mk)(T:aa Tk):aa (Str×D):=eU (eU [] (M.map hdM)) (T.map hdT)
theorem aF6(hM:M.length<=9)(hT:T.length<=3)(hTp:∀t∈T,t.2.2.2.length<=2):bY 1 mC [pgD ks M T R]=.ok (.dct (dD D.str (hds M T))):=by
 refine(eZ rfl).trans (call_v ?_);obtain⟨ρ1,⟨y2,y3,y4,y5,y6,h1⟩,e1⟩:=sX (t:=tgN [2,3,4]) (body:=zN 1 d_ (bN (aA cV (aA fD aL)))) mkD (λm=>[hdM m]) (λ_=>dw rfl) (λL ρ=>∃x2 x3 x4 x5 x6,ρ=[pgD ks M T R,.dct (dD D.str L),x2,x3,x4,x5,x6]) (λm L ρ z0 hl=>by
  obtain⟨x2,x3,x4,x5,x6,h⟩:=z0;subst h;have p:=tM (i:=1) (ρ:=[pgD ks M T R,.dct (dD D.str L),.str m.1,.str m.2.1,.tup (m.2.2.map D.str),x5,x6]) (f:=h_ 2) (g:=bN (aA cV (aA fD aL))) (kvs:=dD D.str L) (k:=.str m.1) (d:=.tup [.str m.2.1,.tup (m.2.2.map D.str)]) (bL (xs:=[.str m.2.1,.tup (m.2.2.map D.str)]) (aD rfl (aD rfl rfl)) jA) rfl rfl (by rw[oU];exact wU 0x1) (nH d7 L m.1) (by show((D.tup (m.2.2.map D.str)).pure&&ae)=ae;rw[D.pure,bR];rfl);rw[nG d7] at p;exact⟨_,_,rfl,p,_,_,_,_,_,rfl⟩) M [] [pgD ks M T R,.dct [],.uD,.uD,.uD,.uD,.uD] ⟨_,_,_,_,_,rfl⟩ (by show 0+_<=5000;lia)
 rw[u9] at h1;have l1:=mH (M.map hdM) [];rw[ax,eL] at l1;have hU:∀(U:aa Tk),(∀t∈U,t.2.2.2.length<=2)->∀(L:aa (Str×D))(ρ:aa D),(∃x2 x3 x4 x5 x6,ρ=[pgD ks M T R,.dct (dD D.str L),x2,x3,x4,x5,x6])->L.length+U.length<=5000->∃ρ',(∃x2 x3 x4 x5 x6,ρ'=[pgD ks M T R,.dct (dD D.str (eU L (U.map hdT))),x2,x3,x4,x5,x6])/\tU (tgN [2,3,5,6]) (zN 1 d_ (bN (aA cV (aA (b2 KY (bN (aA d8 aL)) fP) aL)))) (U.map tkD) ρ=.ok (.nx ρ'):=by
  intro U;induction U with
  |nil=>intro _ L ρ h _;exact⟨ρ,h,rfl⟩
  |cons m U ih=>
   rintro hu L ρ ⟨x2,x3,x4,x5,x6,h⟩ hl;subst h;rw[bc] at hl;have h2:=hu m (bn ..);have p:=tM (i:=1) (ρ:=[pgD ks M T R,.dct (dD D.str L),.str m.1,.str m.2.1,x4,.str m.2.2.1,.tup (m.2.2.2.map D.str)]) (f:=h_ 2) (g:=bN (aA cV (aA (b2 KY (bN (aA d8 aL)) fP) aL))) (kvs:=dD D.str L) (k:=.str m.1) (d:=.tup [.str m.2.1,.tup ((m.2.2.1::m.2.2.2).map D.str)]) (bL (xs:=[.str m.2.1,.tup ((m.2.2.1::m.2.2.2).map D.str)]) (aD rfl (aD (aJ (x:=.tup [.str m.2.2.1]) (y:=.tup (m.2.2.2.map D.str)) (bL (xs:=[.str m.2.2.1]) (aD rfl rfl) (dJ (dw rfl))) rfl (zH _ _ (by rw[ax];show 1+_<=1000;lia))) rfl)) jA) rfl rfl (by rw[oU];exact wU 0x1) (nH d7 L m.1) (by show((D.tup ((m.2.2.1::m.2.2.2).map D.str)).pure&&ae)=ae;rw[D.pure,bR];rfl);rw[nG d7] at p;have pl:=xM m.1 (.tup [.str m.2.1,.tup ((m.2.2.1::m.2.2.2).map D.str)]) L;obtain⟨ρ',i1,i2⟩:=ih (λt ht=>hu t (bz _ ht)) (nR L m.1 (.tup [.str m.2.1,.tup ((m.2.2.1::m.2.2.2).map D.str)])) [pgD ks M T R,.dct (dD D.str (nR L m.1 (.tup [.str m.2.1,.tup ((m.2.2.1::m.2.2.2).map D.str)]))),.str m.1,.str m.2.1,x4,.str m.2.2.1,.tup (m.2.2.2.map D.str)] ⟨_,_,_,_,_,rfl⟩ 0x1;exact⟨ρ',i1,cQ rfl p i2⟩
 obtain⟨ρ2,⟨z2,z3,z4,z5,z6,h2⟩,e2⟩:=hU T hTp _ ρ1 ⟨_,_,_,_,_,h1⟩ 0x1;refine aO (ρ':=[pgD ks M T R,.dct [],.uD,.uD,.uD,.uD,.uD]) (fJ (i:=1) (d:=.dct []) rfl rfl) ?_;refine aO (fU (xs:=M.map mkD) (aJ (x:=pgD ks M T R) (y:=.int 1) rfl rfl rfl) (aV jC M) e1) ?_;subst h1;refine aO (fU (xs:=T.map tkD) (aJ (x:=pgD ks M T R) (y:=.int 2) rfl rfl rfl) (aV m7 T) e2) ?_;subst h2;rfl
theorem names_nodup(hn:ns.length<=63)(hm3:many<=3)(hM:MOk ns many many.toNat M):(M.map (·.1)).Nodup:=by
 obtain⟨ks,k1,k2,k3⟩:=hM.names;rw[k1];unfold u7;rw[mr];refine k2.imp_of_mem λ{a b} ha hb hab z=>?_
 have ha:=k3 a ha;have hb:=k3 b hb;have:=vU hn 0x1 0x1 0x1 0x1 z;lia
noncomputable def tn(T:aa Tk):aa Str:=T.map (·.1)
theorem N6(hn:ns.length<=63)(hm3:many<=3)(hM:MOk ns many many.toNat M)(hT:∀t∈T,iD ns many t)(hm:m∈M):m.1∉tn T:=λz=>by
 obtain⟨t,ht,e⟩:=bE.mp z;obtain⟨k,q1,q2,q3⟩:=(hT t ht).1;obtain⟨ks,k1,k2,k3⟩:=hM.names;have:m.1∈ks.map (wrd ns):=by rw[<-k1];exact bE.mpr ⟨m,hm,rfl⟩
 obtain⟨j,hj,ej⟩:=bE.mp this;have:=k3 j hj;have:=vU hn (i:=j) (j:=k) 0x1 0x1 0x1 0x1 (by rw[ej,<-q3];exact e.symm);lia
theorem aF7(hn:ns.length<=63)(hT:T.length<=3/\T.map (·.1)=(bw T.length).map (λ(k:af)=>wrd ns (17+(k:ah)))):(tn T).Nodup:=by
 unfold tn;rw[hT.2];unfold u7;rw[mr];refine(Cs).imp_of_mem λ{a b} ha hb hab z=>?_
 have ha:=fN.mp ha;have hb:=fN.mp hb;have:=vU hn 0x1 0x1 0x1 0x1 z;lia
structure Wx(M:aa Mk)(T:aa Tk)(w:Str)(a:af):Prop where
 stk:bU (stk M T) w=ab (.int (a:af))
 hd:∃(kd:Str)(ps:aa Str),bU (hds M T) w=ab (.tup [.str kd,.tup (ps.map D.str)])/\ps.length=a
 len:a<=3
 tk:w∈tn T->1<=a
theorem wx(hn:ns.length<=63)(hm3:many<=3)(hM:MOk ns many many.toNat M)(hT:∀t∈T,iD ns many t)(hT2:T.length<=3/\T.map (·.1)=(bw T.length).map (λ(k:af)=>wrd ns (17+(k:ah))))(h:Wd M T w a):Wx M T w a:=by
 rcases h with ⟨m,hm,rfl,rfl⟩|⟨t,ht,rfl,rfl⟩
 ·have nd:=names_nodup hn hm3 hM;have nt:=N6 hn hm3 hM hT hm;have n1:((psM M).map (·.1)).Nodup:=by unfold psM;rw[cS];exact nd
  have n2:((M.map hdM).map (·.1)).Nodup:=by rw[cS];exact nd
  have t1:m.1∉(psT T).map (·.1):=by unfold psT;rw[cS];exact nt
  have t2:m.1∉(T.map hdT).map (·.1):=by rw[cS];exact nt
  refine⟨?_,⟨m.2.1,m.2.2,?_,rfl⟩,(hM.part m hm).2.1,λz=>aE z nt⟩
  ·unfold Lk62.stk;rw[m8 _ _ _ t1];exact uH _ _ _ _ n1 (bE.mpr ⟨m,hm,rfl⟩)
  ·unfold Lk62.hds;rw[m8 _ _ _ t2];exact uH _ _ _ _ n2 (bE.mpr ⟨m,hm,rfl⟩)
 ·have nd:=aF7 hn hT2;have n1:((psT T).map (·.1)).Nodup:=by unfold psT;rw[cS];exact nd
  have n2:((T.map hdT).map (·.1)).Nodup:=by rw[cS];exact nd
  refine⟨?_,⟨t.2.1,t.2.2.1::t.2.2.2,?_,rfl⟩,?_,λ_=>by lia⟩
  ·unfold Lk62.stk;exact uH _ _ _ _ n1 (bE.mpr ⟨t,ht,rfl⟩)
  ·unfold Lk62.hds;exact uH _ _ _ _ n2 (bE.mpr ⟨t,ht,rfl⟩)
  ·have:=(hT t ht).2.2.2.1;lia
theorem xN[cq α](h:KE ek):∀(ps L:aa (α×D)),iY (dD ek L) (dD ek ps)=dD ek (eU L ps)
 |[],_=>rfl
 |p::ps,L=>by
  show iY (putD (dD ek L) (ek p.1) p.2) (dD ek ps)=_;rw[nG h,xN h ps];rfl
theorem JH(f:β->α×D)(ek:α->D)(hk:∀a,mL (ek a)=ae)(hp:∀b,(f b).2.pure=ae):∀L:aa β,oG (L.map λb=>.tup [ek (f b).1,(f b).2])=ab (dD ek (L.map f))
 |[]=>rfl
 |b::L=>by
  rw[bh,oG,hk,hp,ki,ao rfl,JH f ek hk hp L];rfl
def tks(T:aa Tk):aa (Str×D):=eU [] (T.map λt=>(t.1,D.bl ae))
theorem aJz(T:aa Tk)(hT:T.length<=1000):K6 (.lst (T.map λt:Tk=>D.tup [.str t.1,.bl ae]))=.ok (.dct (dD D.str (tks T))):=by
 have e:oG (T.map λt:Tk=>D.tup [.str t.1,.bl ae])=ab (dD D.str (T.map λt:Tk=>(t.1,D.bl ae))):=JH (λt:Tk=>(t.1,D.bl ae)) D.str (λ_=>rfl) (λ_=>rfl) T;show(match oG (T.map λt:Tk=>D.tup [.str t.1,.bl ae]) with|some ps=>(if decide ((T.map λt:Tk=>D.tup [.str t.1,.bl ae]).length<=1000) then Res.ok (D.dct (iY [] ps)) else .bad)|none=>.bad)=_;rw[e];show(if decide ((T.map λt:Tk=>D.tup [.str t.1,.bl ae]).length<=1000) then Res.ok (D.dct (iY [] (dD D.str (T.map λt:Tk=>(t.1,D.bl ae))))) else .bad)=_;rw[ax,bi hT,ao rfl];exact cz (λx=>Res.ok (D.dct x)) (xN d7 _ [])
theorem vY[cq α](a:α):∀(ps L:aa (α×D)),(bU (eU L ps) a).isSome=((bU L a).isSome||decide (a∈ps.map (·.1)))
 |[],L=>by simp[eU]
 |p::ps,L=>by
  show(bU (eU (nR L p.1 p.2) ps) a).isSome=_;rw[vY a ps,sW,bh];by_cases z:p.1=a
  ·rw[ao z];simp[z]
  ·rw[aw z];have:(a∈p.1::ps.map (·.1))↔(a∈ps.map (·.1)):=by rw[bq];exact⟨λh=>h.resolve_left (cj z),.inr⟩
   rw[decide_eq_decide.mpr this]
theorem V0[cq α](h:KE ek)(L:aa (α×D))(a:α):b_ .isin (ek a) (.dct (dD ek L))=.ok (.bl (bU L a).isSome):=by
 have f:=nH h L a;have l:=uG h a L;generalize ek a=k at f l ⊢;show(if O4 (dD ek L) k then Res.ok (D.bl (fB (dD ek L) k).isSome) else .bad)=_;rw[f,l,ao rfl]
theorem N7[cq α](h:KE ek)(L:aa (α×D))(a:α):b_ .notin (ek a) (.dct (dD ek L))=.ok (.bl (!(bU L a).isSome)):=by
 have f:=nH h L a;have l:=uG h a L;generalize ek a=k at f l ⊢;show(if O4 (dD ek L) k then Res.ok (D.bl (!(fB (dD ek L) k).isSome)) else .bad)=_;rw[f,l,ao rfl]
theorem aNy(T:aa Tk)(w:Str):inX (.str w) (.dct (dD D.str (tks T)))=.ok (.bl (decide (w∈tn T))):=by
 show b_ .isin (.str w) (.dct (dD D.str (tks T)))=_;rw[V0 d7,tks,vY,cS];rfl
def gv(T:aa Tk)(w:Str):ah:=if w∈tn T then 1 else 0
def hk(T:aa Tk)(n:ah)(w:Str)(a:af):aa En:=if w∈tn T then (n,0)::(bw (a-1)).map λ(k:af)=>(n,2+(k:ah)) else (bw a).map λ(k:af)=>(n,1+(k:ah))
theorem V1(h:Wx M T w a)(n:ah):(hk T n w a).length=a:=by
 unfold hk;split
 ·rename_i z;have:=h.tk z;simp;lia
 ·simp
def lmD(M:aa Mk)(T:aa Tk)(p t:af):D:=.ins "Loom" [("heads",.dct (dD D.str (hds M T))),("takers",.dct (dD D.str (tks T))),("pieces",.adr p),("ties",.adr t)]
theorem N8(h:fa ρ=.ok (.ins c fs))(hl:fs.lookup f=ab d):vA c f fa ρ=.ok d:=by
 unfold vA;rw[h,Res.aY];show(if decide (c=c)=ae then Res.ofOpt (fs.lookup f) else .bad)=_;rw[bi rfl,ao rfl,hl];rfl
theorem aC8(h:fe ρ=.ok (.adr a))(hj:ρ.getD j .uD=.cel a xs):aGa j fe ρ=.ok (.lst xs):=by
 unfold aGa;rw[h,Res.aY,hj];show(if a=a then Res.ok (D.lst xs) else .bad)=_;rw[ao rfl]
theorem JK(h:fo ρ=.ok (.adr a))(h2:fe ρ=.ok d)(hj:ρ.getD j .uD=.cel a xs)(hl:xs.length<lim)(hp:d.pure=ae):uU j fo fe ρ=.ok (.nx (ρ.set j (.cel a (xs++[d])))):=by
 unfold uU;rw[h,Res.aY,h2,Res.aY,hj];show(if (decide (a=a)&&(decide (xs.length<lim)&&d.pure))=ae then _ else _)=_;rw[bi rfl,bi hl,hp];rfl
theorem RT(h:f ρ=.ok d)(hp:(k||d.pure)=ae):W8 f k ρ=.ok (.rt (.tup (d::ρ))):=by
 unfold W8;rw[h,Res.aY,ao hp]
theorem xO(h0:h_ i ρ=.ok (.ins c fs))(h1:fa ρ=.ok ds)(hj:ρ.getD j .uD=.cel p xs)(hj2:ρ.getD (j+1) .uD=.cel t ys)(hm:fs.lookup m=ai)(hl:ds.length+1=n)(hf:f (.ins c fs::ds++[.cel p xs,.cel t ys])=.ok (.tup [d,.cel p xs',.cel t ys']))(px:D.aW xs'=ae)(py:D.aW ys'=ae):l_ c m f n i j fa ρ=.ok (d,(ρ.set j (.cel p xs')).set (j+1) (.cel t ys')):=by
 unfold l_;rw[h0,Res.aY,h1,Res.aY,hj,hj2];show(if (decide (c=c)&&((fs.lookup m).isNone&&decide (ds.length+1=n)))=ae then _ else _)=_;rw[bi rfl,hm,bi hl];show(f (.ins c fs::ds++[.cel p xs,.cel t ys]) >>= _)=_;rw[hf,Res.aY];show(if (decide (p=p)&&(decide (t=t)&&(D.aW xs'&&D.aW ys')))=ae then _ else _)=_;rw[bi rfl,bi rfl,px,py];rfl
theorem aC9(h:f ρ=.ok (d,ρ')):K4 ag i f ρ=.ok (.nx (ρ'.set i d)):=by
 unfold K4;rw[h,Res.aY];rfl
theorem aCa(h:f (ds++bP (m-(n+2)) .uD)=.ok (.rt (.tup (d::ρ)))):fnG n m f ds=.ok (.tup [d,ρ.getD n .uD,ρ.getD (n+1) .uD]):=by
 unfold fnG;rw[h,Res.aY];rfl
theorem zJ(h k p t:D):fy ("pieces" : Str) [(("heads" : Str),h),("takers",k),("pieces",p),("ties",t)]=ab p:=by with_unfolding_all rfl
theorem RV(h k p t:D):fy ("ties" : Str) [(("heads" : Str),h),("takers",k),("pieces",p),("ties",t)]=ab t:=by with_unfolding_all rfl
theorem aF8(h k p t:D):fy ("heads" : Str) [(("heads" : Str),h),("takers",k),("pieces",p),("ties",t)]=ab h:=by with_unfolding_all rfl
theorem aCb(h k p t:D):fy ("takers" : Str) [(("heads" : Str),h),("takers",k),("pieces",p),("ties",t)]=ab k:=by with_unfolding_all rfl
theorem aGn(h k p t:D):fy ("add_piece" : Str) [(("heads" : Str),h),("takers",k),("pieces",p),("ties",t)]=ai:=by with_unfolding_all rfl
theorem aNz(h k p t:D):fy ("lay" : Str) [(("heads" : Str),h),("takers",k),("pieces",p),("ties",t)]=ai:=by with_unfolding_all rfl
theorem wV(hP:P.length<=1000):cW [lmD M T p t,.str w,.cel p (P.map piD),.cel t ys]=.ok (.tup [.int ((P.length:af)+1),.cel p ((P++[((P.length:ah)+1,w)]).map piD),.cel t ys]):=by
 have a1:=cU (P.length:af) 1;have e1:vA "Loom" "pieces" bQ [lmD M T p t,.str w,.cel p (P.map piD),.cel t ys,.uD]=.ok (.adr p):=N8 rfl (zJ ..);have e2:vA "Loom" "pieces" bQ [lmD M T p t,.str w,.cel p (P.map piD),.cel t ys,.int ((P.length:af)+1)]=.ok (.adr p):=N8 rfl (zJ ..);refine(aCa (ρ:=[lmD M T p t,.str w,.cel p ((P++[((P.length:ah)+1,w)]).map piD),.cel t ys,.int ((P.length:af)+1)]) ?_).trans rfl;refine aO (cD (aJ (aU (aD (aC8 e1 rfl) rfl) (by rw[jG,ax])) rfl a1)) ?_;refine aO (ρ':=[lmD M T p t,.str w,.cel p ((P++[((P.length:ah)+1,w)]).map piD),.cel t ys,.int ((P.length:af)+1)]) ?_ (RT rfl rfl);have ap:=JK (j:=2) (ρ:=[lmD M T p t,.str w,.cel p (P.map piD),.cel t ys,.int ((P.length:af)+1)]) (fe:=bN (aA fD (aA eO aL))) (xs:=P.map piD) (d:=piD ((P.length:ah)+1,w)) e2 (bL (xs:=[.int ((P.length:af)+1),.str w]) (aD rfl (aD rfl rfl)) jA) rfl (by rw[ax,cL];lia) rfl;rw[cr];exact ap
theorem V2(n:ah)(hρ:ρ.length=N)(h5:∀x:D,h_ 5 (ρ++[x])=.ok (.int n))(hv:∀x:D,h_ N (ρ++[x])=.ok x\/x=.uD)(c:ah)(L:aa af)(acc:aa D):iI (jM N iV dX (bN (aA d8 (aA (h_ N) aL))) ag ρ) acc (L.map λ(k:af)=>D.int (c+(k:ah)))=.ok (acc++(L.map λ(k:af)=>(n,c+(k:ah))).map enD):=by
 rw[e_ _ (λ(k:af)=>D.int (c+(k:ah))) (λ_=>ae) (λ(k:af)=>enD (n,c+(k:ah))) (λacc k=>?_)]
 ·rw[jt.mpr (λ_ _=>rfl),cS];rfl
 ·refine fL hρ rfl rfl λ_=>⟨bL (aD (h5 _) (aD ?_ rfl)) jA,rfl⟩
  rcases hv (.int (c+(k:ah))) with h|h
  ·exact h
  ·cases h
theorem aO0(hw:Wx M T w a)(hP:P.length<=1000)(hU:U.length<=1000) :
  RC [lmD M T p t,.str w,enD e,.cel p (P.map piD),.cel t (U.map tiD)]=.ok (.tup [.lst ((hk T ((P.length:ah)+1) w a).map enD),.cel p ((P++[((P.length:ah)+1,w)]).map piD),.cel t ((U++[(((P.length:ah)+1,gv T w),e)]).map tiD)]):=by
 obtain⟨kd,ps,h1,h2⟩:=hw.hd;have ha:=hw.len;generalize hnn:(P.length:ah)+1=n;have ap:=wV (M:=M) (T:=T) (p:=p) (t:=t) (w:=w) (P:=P) (ys:=U.map tiD) hP;rw[hnn] at ap;generalize hP2:(P++[(n,w)])=P2 at ap ⊢;have pP:D.aW (P2.map piD)=ae:=aV vX P2;have pU:D.aW (U.map tiD)=ae:=aV m9 U;have f:∀(a:Str)(d x4 x5 x6:D),fy a [(("heads" : Str),D.dct (dD D.str (hds M T))),("takers",.dct (dD D.str (tks T))),("pieces",.adr p),("ties",.adr t)]=ab d->vA "Loom" a bQ [lmD M T p t,.str w,enD e,.cel p (P2.map piD),x4,x5,x6]=.ok d:=λa d x4 x5 x6 h=>N8 rfl h
 have s1:K4 ag 5 (l_ "Loom" "add_piece" cW 2 0 3 (aA eO aL)) [lmD M T p t,.str w,enD e,.cel p (P.map piD),.cel t (U.map tiD),.uD,.uD]=.ok (.nx [lmD M T p t,.str w,enD e,.cel p (P2.map piD),.cel t (U.map tiD),.int n,.uD]):=aC9 (i:=5) (xO (i:=0) (j:=3) (c:= "Loom") (m:= "add_piece") (f:=cW) (n:=2) (ρ:=[lmD M T p t,.str w,enD e,.cel p (P.map piD),.cel t (U.map tiD),.uD,.uD]) (fa:=aA eO aL) (ds:=[.str w]) (fs:=[(("heads" : Str),D.dct (dD D.str (hds M T))),("takers",.dct (dD D.str (tks T))),("pieces",.adr p),("ties",.adr t)]) rfl (aD rfl rfl) rfl rfl (aGn ..) rfl ap pP pU);have s2:bZ ag 6 (aK dG (aA (b2 getD (b2 getD (vA "Loom" "heads" bQ) eO) bW) aL)) ae [lmD M T p t,.str w,enD e,.cel p (P2.map piD),.cel t (U.map tiD),.int n,.uD]=.ok (.nx [lmD M T p t,.str w,enD e,.cel p (P2.map piD),.cel t (U.map tiD),.int n,.int (a:af)]):=cD (i:=6) (aU (xs:=[.tup (ps.map D.str)]) (aD (aJ (x:=.tup [.str kd,.tup (ps.map D.str)]) (y:=.int 1) (aJ (x:=.dct (dD D.str (hds M T))) (y:=.str w) (f _ _ _ _ _ (aF8 ..)) rfl (lF d7 h1)) rfl rfl) rfl) (by rw[aJy,h2]));have a1:=cU (a:af) 1;have c1:bTB (b2 inX eO (vA "Loom" "takers" bQ)) [lmD M T p t,.str w,enD e,.cel p (P2.map piD),.cel t (U.map tiD),.int n,.int (a:af)]=.ok (decide (w∈tn T)):=dR (aJ (x:=.str w) (y:=.dct (dD D.str (tks T))) rfl (f _ _ _ _ _ (aCb ..)) (aNy T w));have st:∀g:ah,uU 4 (vA "Loom" "ties" bQ) (bN (aA (bN (aA d8 (aA (bC (.int g)) aL))) (aA d_ aL))) [lmD M T p t,.str w,enD e,.cel p (P2.map piD),.cel t (U.map tiD),.int n,.int (a:af)]=.ok (.nx [lmD M T p t,.str w,enD e,.cel p (P2.map piD),.cel t ((U++[((n,g),e)]).map tiD),.int n,.int (a:af)]):=λg=>by
  have ap:=JK (j:=4) (ρ:=[lmD M T p t,.str w,enD e,.cel p (P2.map piD),.cel t (U.map tiD),.int n,.int (a:af)]) (fe:=bN (aA (bN (aA d8 (aA (bC (.int g)) aL))) (aA d_ aL))) (xs:=U.map tiD) (d:=tiD ((n,g),e)) (f "ties" _ _ _ _ (RV ..)) (bL (xs:=[enD (n,g),enD e]) (aD (bL (xs:=[.int n,.int g]) (aD rfl (aD rfl rfl)) jA) (aD rfl rfl)) jA) rfl (by rw[ax,cL];lia) rfl;rw[cr];exact ap
 by_cases z:w∈tn T
 ·rw[bi z] at c1;have hg:gv T w=1:=ao z;have hh:hk T n w a=(n,0)::(bw (a-1)).map λ(k:af)=>(n,2+(k:ah)):=ao z
  rw[hg,hh];refine(aCa (ρ:=[lmD M T p t,.str w,enD e,.cel p (P2.map piD),.cel t ((U++[((n,1),e)]).map tiD),.int n,.int (a:af)]) (d:=.lst (((n,0)::(bw (a-1)).map λ(k:af)=>(n,2+(k:ah))).map enD)) ?_).trans rfl;refine aO s1 (aO s2 (aGj (Y0 c1 (aO (st 1) (RT (aJ (x:=.lst [enD (n,0)]) (y:=.lst (((bw (a-1)).map λ(k:af)=>(n,2+(k:ah))).map enD)) (oO (xs:=[enD (n,0)]) (aD (bL (xs:=[.int n,.int 0]) (aD rfl (aD rfl rfl)) jA) rfl) (dJ (dw rfl)) rfl) (gD (vV (a:=2) (b:=(a:af)+1) (aD rfl (aD (aJ (x:=.int (a:af)) (y:=.int 1) rfl rfl a1) rfl)) 0x4 0x4 0x1 0x1) ?_ ?_) ?_) rfl)))))
  ·rw[ax,dy,cL];lia
  ·rw[show(((a:af):ah)+1-2).toNat=a-1 by have:=hw.tk z;lia];exact V2 n (N:=7) rfl (λ_=>rfl) (λx=>by cases x<;>first|exact .inl rfl|exact .inr rfl) 2 (bw (a-1)) []
  ·exact oE [enD (n,0)] (((bw (a-1)).map λ(k:af)=>(n,2+(k:ah))).map enD) (by rw[cL];simp;lia) rfl (aV lK _)
 ·rw[cK z] at c1;have hg:gv T w=0:=aw z;have hh:hk T n w a=(bw a).map λ(k:af)=>(n,1+(k:ah)):=aw z
  rw[hg,hh];refine(aCa (ρ:=[lmD M T p t,.str w,enD e,.cel p (P2.map piD),.cel t ((U++[((n,0),e)]).map tiD),.int n,.int (a:af)]) (d:=.lst (((bw a).map λ(k:af)=>(n,1+(k:ah))).map enD)) ?_).trans rfl;refine aO s1 (aO s2 (aO (nQ c1 rfl) (aO (st 0) (RT (gD (vV (a:=1) (b:=(a:af)+1) (aD rfl (aD (aJ (x:=.int (a:af)) (y:=.int 1) rfl rfl a1) rfl)) 0x4 0x4 0x1 0x1) ?_ ?_) rfl))))
  ·rw[ax,dy,cL];lia
  ·rw[show(((a:af):ah)+1-1).toNat=a by lia];exact V2 n (N:=7) rfl (λ_=>rfl) (λx=>by cases x<;>first|exact .inl rfl|exact .inr rfl) 1 (bw a) []
theorem aF9(h:isAt (.adr a) c=ae):∃X,c=.cel a X:=by
 cases c with
 |cel b X=>
  have:a=b:=dh h;subst this;exact⟨X,rfl⟩
 |_=>cases h
theorem V3{ρ:aa D}{a:af}(h:∃m X,m<5/\ρ.getD (5+m) .uD=.cel a X):∃m X,m<5/\X3 5 5 (.adr a) ρ=5+m/\ρ.getD (5+m) .uD=.cel a X:=by
 obtain⟨m,X,hm,e⟩:=h;have hlt:(bw 5).findIdx (λm=>isAt (.adr a) (ρ.getD (5+m) .uD))<(bw 5).length:=List.findIdx_lt_length_of_exists ⟨m,fN.mpr hm,by rw[e];exact bi rfl⟩;have h2:=List.findIdx_getElem (w:=hlt);rw[List.getElem_range] at h2;obtain⟨Y,hY⟩:=aF9 h2;rw[dy] at hlt;exact⟨_,Y,hlt,rfl,hY⟩
def wv(pg:D)(wa va:aa Str)(M:aa Mk)(T:aa Tk)(p t:af)(c0 c1 c2 c3 c4:D)(kv:aa (D×D))(P:aa Pi)(U:aa Ti)(W:aa En)(x13 x14 x15 x16:D):aa D:=[pg,.tup (wa.map D.str),.tup (va.map D.str),.cel p (P.map piD),.cel t (U.map tiD),c0,c1,c2,c3,c4,lmD M T p t,.dct kv,.lst (W.reverse.map enD),x13,x14,x15,x16]
theorem aCc(m:af)(hm:m<5):(wv pg wa va M T p t c0 c1 c2 c3 c4 kv P U W x13 x14 x15 x16).getD (5+m) .uD=[c0,c1,c2,c3,c4].getD m .uD:=by
 match m,hm with
 |0,_=>rfl
 |1,_=>rfl
 |2,_=>rfl
 |3,_=>rfl
 |4,_=>rfl
theorem aO1(m:af)(hm:m<5)(d:D):∃e0 e1 e2 e3 e4,(wv pg wa va M T p t c0 c1 c2 c3 c4 kv P U W x13 x14 x15 x16).set (5+m) d=wv pg wa va M T p t e0 e1 e2 e3 e4 kv P U W x13 x14 x15 x16/\[e0,e1,e2,e3,e4]=[c0,c1,c2,c3,c4].set m d:=by
 match m,hm with
 |0,_=>exact⟨_,_,_,_,_,rfl,rfl⟩
 |1,_=>exact⟨_,_,_,_,_,rfl,rfl⟩
 |2,_=>exact⟨_,_,_,_,_,rfl,rfl⟩
 |3,_=>exact⟨_,_,_,_,_,rfl,rfl⟩
 |4,_=>exact⟨_,_,_,_,_,rfl,rfl⟩
theorem aK0(l:aa D)(i j:af)(v:D):(l.set i v).getD j .uD=if i=j/\i<l.length then v else l.getD j .uD:=by
 rw[cu,iz];by_cases h:i=j
 ·subst h;rw[ao rfl];by_cases h2:i<l.length
  ·rw[ao h2,ao ⟨rfl,h2⟩];rfl
  ·rw[aw h2,aw λz=>h2 z.2,cu,um 0x1]
 ·rw[aw h,aw λz=>h z.1,cu]
def kvL(va:aa Str)(as:aa af):aa (Str×D):=eU [] (va.zip (as.map D.adr))
theorem aCd:∀(va:aa Str)(as:aa af),aGd va as=dD D.str (va.zip (as.map D.adr))
 |[],_=>rfl
 |_::_,[]=>rfl
 |x::va,a::as=>cz ((D.str x,D.adr a)::·) (aCd va as)
theorem aO2(va:aa Str)(as:aa af):iY [] (aGd va as)=dD D.str (kvL va as):=by
 rw[aCd];exact xN d7 _ []
theorem aCe(h:as.length=va.length)(w:Str):(bU (kvL va as) w).isSome=decide (w∈va):=by
 unfold kvL;rw[vY,A9 (by rw[ax];lia)];rfl
theorem u_[cq α](a:α)(v:D):∀L:aa (α×D),bU L a=ab v->(a,v)∈L
 |[],h=>by cases h
 |p::L,h=>by
  rw[bU] at h;split at h
  ·rename_i z;cases h;rw[<-z];exact bn ..
  ·exact bz _ (u_ a v L h)
theorem V4[cq α]{P:D->Prop}(a:α)(v:D)(hv:P v):∀L:aa (α×D),(∀p∈L,P p.2)->∀p∈nR L a v,P p.2
 |[],_,p,hp=>by
  rw[nR] at hp;rw[gq.mp hp];exact hv
 |q::L,h,p,hp=>by
  rw[nR] at hp;split at hp
  ·rcases bq.mp hp with rfl|hp
   ·exact hv
   ·exact h p (bz _ hp)
  ·rcases bq.mp hp with rfl|hp
   ·exact h _ (bn ..)
   ·exact V4 a v hv L (λp hp=>h p (bz _ hp)) p hp
theorem oV[cq α]{P:D->Prop}:∀(ps L:aa (α×D)),(∀p∈ps,P p.2)->(∀p∈L,P p.2)->∀p∈eU L ps,P p.2
 |[],_,_,h=>h
 |q::ps,L,h1,h2=>oV ps (nR L q.1 q.2) (λp hp=>h1 p (bz _ hp)) (V4 q.1 q.2 (h1 q (bn ..)) L h2)
theorem aCf(va:aa Str)(as:aa af):∀p∈kvL va as,∃a∈as,p.2=.adr a:=oV (P:=λd=>∃a∈as,d=.adr a) _ _ (λp hp=>by
 obtain⟨x,d⟩:=p;obtain⟨a,ha,e⟩:=bE.mp (ny hp).2;exact⟨a,ha,e.symm⟩) (λp hp=>by cases hp)
theorem V5[cq α](a:α)(v:D):∀(L:aa (α×D)),∀p∈nR L a v,p∈L\/p=(a,v)
 |[],p,hp=>by
  rw[nR] at hp;exact .inr (gq.mp hp)
 |q::L,p,hp=>by
  rw[nR] at hp;split at hp
  ·rename_i z;rcases bq.mp hp with rfl|hp
   ·exact .inr (by rw[z])
   ·exact .inl (bz _ hp)
  ·rcases bq.mp hp with rfl|hp
   ·exact .inl (bn ..)
   ·exact(V5 a v L p hp).imp (bz _) id
theorem zK[cq α]:∀(ps L:aa (α×D)),∀p∈eU L ps,p∈L\/p∈ps
 |[],_,p,h=>.inl h
 |q::ps,L,p,h=>by
  rcases zK ps (nR L q.1 q.2) p h with h|h
  ·rcases V5 q.1 q.2 L p h with h|rfl
   ·exact .inl h
   ·exact .inr (bn ..)
  ·exact .inr (bz _ h)
theorem aCg:∀(va:aa Str)(as:aa af),as.Nodup->(x,D.adr a)∈va.zip (as.map D.adr)->(y,D.adr a)∈va.zip (as.map D.adr)->x=y
 |[],_,_,h,_=>by cases h
 |_::_,[],_,h,_=>by cases h
 |u::va,b::as,nd,h1,h2=>by
  rw[dj] at nd;have no:∀z,(z,D.adr b)∉va.zip (as.map D.adr):=λz hz=>by
   obtain⟨c,hc,e⟩:=bE.mp (ny hz).2;cases e;exact nd.1 hc
  rw[bh,n4] at h1 h2;rcases bq.mp h1 with k1|k1
  ·cases k1;rcases bq.mp h2 with k2|k2
   ·cases k2;rfl
   ·exact aE k2 (no y)
  ·rcases bq.mp h2 with k2|k2
   ·cases k2;exact aE k1 (no x)
   ·exact aCg va as nd.2 k1 k2
theorem aO3(nd:as.Nodup)(h1:bU (kvL va as) x=ab (.adr a))(h2:bU (kvL va as) y=ab (.adr a)):x=y:=by
 rcases zK _ _ _ (u_ x _ _ h1) with z|z
 ·cases z
 ·rcases zK _ _ _ (u_ y _ _ h2) with q|q
  ·cases q
  ·exact aCg va as nd z q
structure Hd(va:aa Str)(as:aa af)(N:af)(pl:Str->aa En)(cs:aa D):Prop where
 len:cs.length=5
 ok:∀m,m<5->isC (cs.getD m .uD)=ae
 un:∀m k a X Y,m<5->k<5->cs.getD m .uD=.cel a X->cs.getD k .uD=.cel a Y->m=k
 has:∀x a,bU (kvL va as) x=ab (.adr a)->∃m,m<5/\cs.getD m .uD=.cel a ((pl x).map enD)
 ln:∀x,(pl x).length<=N
noncomputable def plA(pl:Str->aa En)(w:Str)(e:En):Str->aa En:=λx=>if x=w then pl w++[e] else pl x
theorem aK1(h:fo ρ=.ok (.adr a))(h2:fe ρ=.ok (enD e))(hρ:ρ=wv pg wa va M T p t c0 c1 c2 c3 c4 kv P U W x13 x14 x15 x16)(hd:Hd va as N pl [c0,c1,c2,c3,c4])(nd:as.Nodup)(ha:bU (kvL va as) w=ab (.adr a))(hN:N<=1000) :
  ∃e0 e1 e2 e3 e4,Hd va as (N+1) (plA pl w e) [e0,e1,e2,e3,e4]/\aBp 5 5 fo fe ρ=.ok (.nx (wv pg wa va M T p t e0 e1 e2 e3 e4 kv P U W x13 x14 x15 x16)):=by
 obtain⟨m0,hm0,em0⟩:=hd.has w a ha;obtain⟨m,X,hm,hs,hX⟩:=V3 (ρ:=ρ) (a:=a) ⟨m0,_,hm0,by rw[hρ,aCc m0 hm0];exact em0⟩;have hX':=hX;rw[hρ,aCc m hm] at hX';obtain rfl:=hd.un m m0 a _ _ hm hm0 hX' em0;rw[hX'] at em0;injection em0 with _ em0
 subst em0;obtain⟨e0,e1,e2,e3,e4,q1,q2⟩:=aO1 (pg:=pg) (wa:=wa) (va:=va) (M:=M) (T:=T) (p:=p) (t:=t) (c0:=c0) (c1:=c1) (c2:=c2) (c3:=c3) (c4:=c4) (kv:=kv) (P:=P) (U:=U) (W:=W) (x13:=x13) (x14:=x14) (x15:=x15) (x16:=x16) m hm (.cel a ((pl w++[e]).map enD));refine⟨e0,e1,e2,e3,e4,?_,?_⟩
 ·rw[q2];have at_:∀k,(([c0,c1,c2,c3,c4].set m (.cel a ((pl w++[e]).map enD))).getD k .uD)=if m=k/\m<5 then .cel a ((pl w++[e]).map enD) else [c0,c1,c2,c3,c4].getD k .uD:=λk=>aK0 _ m k _
  have old:∀k b Y,k<5->(([c0,c1,c2,c3,c4].set m (.cel a ((pl w++[e]).map enD))).getD k .uD)=.cel b Y->∃Z,[c0,c1,c2,c3,c4].getD k .uD=.cel b Z:=λk b Y hk z=>by
   rw[at_] at z;split at z
   ·rename_i q;obtain⟨rfl,_⟩:=q;cases z;exact⟨_,hX'⟩
   ·exact⟨Y,z⟩
  refine⟨by rw[mx];rfl,λk hk=>?_,λk l b Y Z hk hl z1 z2=>?_,λx b hb=>?_,λx=>?_⟩
  ·rw[at_];split
   ·rfl
   ·exact hd.ok k hk
  ·obtain⟨Y',y1⟩:=old k b Y hk z1;obtain⟨Z',z1'⟩:=old l b Z hl z2;exact hd.un k l b Y' Z' hk hl y1 z1'
  ·by_cases hxw:x=w
   ·subst hxw;rw[ha] at hb;cases hb;exact⟨m,hm,by rw[at_,ao ⟨rfl,hm⟩,plA,ao rfl]⟩
   ·obtain⟨k,hk,ek⟩:=hd.has x b hb;refine⟨k,hk,?_⟩;rw[at_,aw,plA,aw hxw]
    ·exact ek
    ·rintro⟨rfl,_⟩;rw[hX'] at ek;injection ek with ek
     subst ek;exact hxw (aO3 nd hb ha)
  ·unfold plA;have:=hd.ln w;have:=hd.ln x;split
   ·rw[bj];show _+1<=_;lia
   ·lia
 ·unfold aBp;rw[h,Res.aY,hs,bi (show 5+m<5+5 by lia),ao rfl];have:=hd.ln w;have g:=JK (j:=5+m) h h2 hX (by rw[ax,cL];lia) rfl;rw[g,hρ,<-q1,cr];rfl
def Nm(P:aa Pi):Prop:=∀i (h:i<P.length),(P[i]).1=(i:ah)+1
theorem Nm.snoc(h:Nm P)(w:Str):Nm (P++[((P.length:ah)+1,w)]):=λi hi=>by
 rw[List.getElem_append];split
 ·exact h i _
 ·rename_i z;rw[bj] at hi;have:i=P.length:=by simp at hi;lia
  subst this;simp
theorem Nm.rise(h:Nm P):P.Pairwise λa b=>a.1<b.1:=s_.mpr λi j hi hj hij=>by
 rw[h i hi,h j hj];lia
def aFa:FS:=(bK (Q0 12 14) (sIf (bTB (b2 inX tR j5)) (aBp 5 5 (b2 getD j5 tR) yC) (aBm 12 (xLR (l_ "Loom" "lay" RC 3 10 3 (aA tR (aA yC aL)))))))
theorem aK2(h:ρ.getD i .uD=.lst (xs++[x])):Q0 i j ρ=.ok (.nx ((ρ.set i (.lst xs)).set j x)):=by
 unfold Q0;rw[h];show(match (xs++[x])[(xs++[x]).length-1]? with|some x=>_|none=>_)=_;have e1:(xs++[x])[(xs++[x]).length-1]?=ab x:=by simp
 rw[e1,List.dropLast_concat]
theorem aO4(h:f ρ=.ok (.lst xs,ρ'))(hp:D.aW xs=ae):xLR f ρ=.ok (.lst xs.reverse,ρ'):=by
 unfold xLR;rw[h,Res.aY];show(if D.aW xs=ae then _ else _)=_;rw[ao hp]
theorem aK3(h:f ρ=.ok (.lst ys,ρ'))(h0:ρ.getD i .uD=.lst xs0)(h1:ρ'.getD i .uD=.lst xs)(hl:xs.length+ys.length<=lim)(hp:D.aW ys=ae):aBm i f ρ=.ok (.nx (ρ'.set i (.lst (xs++ys)))):=by
 unfold aBm;rw[h,Res.aY,h0];dsimp only;rw[h1];show(if (decide (xs.length+ys.length<=lim)&&D.aW ys)=ae then _ else _)=_;rw[bi hl,hp];rfl
theorem aGo:Q0 12 14 (wv pg wa va M T p t c0 c1 c2 c3 c4 kv P U (e::W) x13 x14 x15 x16)=.ok (.nx (wv pg wa va M T p t c0 c1 c2 c3 c4 kv P U W x13 (enD e) x15 x16)):=aK2 (i:=12) (j:=14) (xs:=W.reverse.map enD) (x:=enD e) (by show D.lst ((e::W).reverse.map enD)=_;rw[iO,cr];rfl)
theorem aO5(h:as.length=va.length)(w:Str):bTB (b2 inX tR j5) (wv pg wa va M T p t c0 c1 c2 c3 c4 (dD D.str (kvL va as)) P U W (.str w) x14 x15 x16)=.ok (decide (w∈va)):=by
 refine dR (aJ (x:=.str w) (y:=.dct (dD D.str (kvL va as))) rfl rfl ?_);show b_ .isin (.str w) (.dct (dD D.str (kvL va as)))=_;rw[V0 d7,aCe h]
theorem aGp(h:as.length=va.length)(hw:w∈va):∃a,bU (kvL va as) w=ab (.adr a)/\Mi.getD (.dct (dD D.str (kvL va as))) (.str w)=.ok (.adr a):=by
 have s:=aCe h w;rw[bi hw] at s;obtain⟨d,hd⟩:=se.mp s;obtain⟨a,ha,e⟩:=aCf va as _ (u_ w d _ hd);replace e:d=.adr a:=e;subst e;refine⟨a,hd,?_⟩;show(if keyOk (.str w) then Res.ofOpt (fB (dD D.str (kvL va as)) (.str w)) else .bad)=_;rw[ao (show keyOk (.str w)=ae from rfl),uG d7,hd];rfl
theorem v_name(h:as.length=va.length)(nd:as.Nodup)(hw:w∈va)(hd:Hd va as N pl [c0,c1,c2,c3,c4])(hN:N<=1000) :
  ∃e0 e1 e2 e3 e4,Hd va as (N+1) (plA pl w e) [e0,e1,e2,e3,e4]/\aFa (wv pg wa va M T p t c0 c1 c2 c3 c4 (dD D.str (kvL va as)) P U (e::W) (.str w) x14 x15 x16)=.ok (.nx (wv pg wa va M T p t e0 e1 e2 e3 e4 (dD D.str (kvL va as)) P U W (.str w) (enD e) x15 x16)):=by
 obtain⟨a,ha,ga⟩:=aGp h hw;have c:=aO5 (pg:=pg) (wa:=wa) (M:=M) (T:=T) (p:=p) (t:=t) (c0:=c0) (c1:=c1) (c2:=c2) (c3:=c3) (c4:=c4) (P:=P) (U:=U) (W:=W) (x14:=enD e) (x15:=x15) (x16:=x16) h w;rw[bi hw] at c;obtain⟨e0,e1,e2,e3,e4,q1,q2⟩:=aK1 (fo:=b2 getD j5 tR) (fe:=h_ 14) (aJ (x:=.dct (dD D.str (kvL va as))) (y:=.str w) rfl rfl ga) rfl (rfl:wv pg wa va M T p t c0 c1 c2 c3 c4 (dD D.str (kvL va as)) P U W (.str w) (enD e) x15 x16=_) hd nd ha hN;exact⟨e0,e1,e2,e3,e4,q1,aO aGo (Y0 c q2)⟩
theorem aO6(h:as.length=va.length)(hv:w∉va)(hw:Wx M T w a)(hP:P.length<=1000)(hU:U.length<=1000)(hW:W.length<=3000) :
  aFa (wv pg wa va M T p t c0 c1 c2 c3 c4 (dD D.str (kvL va as)) P U (e::W) (.str w) x14 x15 x16)=.ok (.nx (wv pg wa va M T p t c0 c1 c2 c3 c4 (dD D.str (kvL va as)) (P++[((P.length:ah)+1,w)]) (U++[(((P.length:ah)+1,gv T w),e)]) (hk T ((P.length:ah)+1) w a++W) (.str w) (enD e) x15 x16)):=by
 have c:=aO5 (pg:=pg) (wa:=wa) (M:=M) (T:=T) (p:=p) (t:=t) (c0:=c0) (c1:=c1) (c2:=c2) (c3:=c3) (c4:=c4) (P:=P) (U:=U) (W:=W) (x14:=enD e) (x15:=x15) (x16:=x16) h w;rw[cK hv] at c;have ly:=aO0 (p:=p) (t:=t) (e:=e) hw hP hU;have hl:=V1 hw ((P.length:ah)+1);have ha:=hw.len;generalize (P.length:ah)+1=n at ly hl ⊢;refine aO aGo (nQ c ?_);have m:=xO (i:=10) (j:=3) (c:= "Loom") (m:= "lay") (f:=RC) (n:=3) (ρ:=wv pg wa va M T p t c0 c1 c2 c3 c4 (dD D.str (kvL va as)) P U W (.str w) (enD e) x15 x16) (fa:=aA tR (aA yC aL)) (ds:=[.str w,enD e]) (fs:=[(("heads" : Str),D.dct (dD D.str (hds M T))),("takers",.dct (dD D.str (tks T))),("pieces",.adr p),("ties",.adr t)]) rfl (aD rfl (aD rfl rfl)) rfl rfl (aNz ..) rfl ly (aV vX _) (aV m9 _);have x:=aK3 (i:=12) (xs0:=W.reverse.map enD) (xs:=W.reverse.map enD) (aO4 m (aV lK _)) rfl rfl (by rw[ax,mz,mz,ax,cL,hl];lia) (by rw[<-zn];exact aV lK _);rw[show W.reverse.map enD++((hk T n w a).map enD).reverse=((hk T n w a++W).reverse).map enD from by rw[List.reverse_append,cr,<-zn]] at x;exact x
def arS(M:aa Mk)(T:aa Tk)(w:Str):af:=match bU (stk M T) w with
 |some (.int a)=>a.toNat
 |_=>0
theorem aCh(h:Wx M T w a):arS M T w=a:=by
 unfold arS;rw[h.stk];show((a:af):ah).toNat=_;lia
def wr(M:aa Mk)(T:aa Tk)(va:aa Str):af->aa Str->aa En->(Str->aa En)->aa Pi×aa Ti×(Str->aa En)
 |_,[],_,pl=>([],[],pl)
 |_,_::_,[],pl=>([],[],pl)
 |k,w::ws,e::W,pl=>if w∈va then wr M T va k ws W (plA pl w e) else (((k:ah)+1,w)::(wr M T va (k+1) ws (hk T ((k:ah)+1) w (arS M T w)++W) pl).1,(((k:ah)+1,gv T w),e)::(wr M T va (k+1) ws (hk T ((k:ah)+1) w (arS M T w)++W) pl).2.1,(wr M T va (k+1) ws (hk T ((k:ah)+1) w (arS M T w)++W) pl).2.2)
theorem aCi(h:as.length=va.length)(nd:as.Nodup)(hx:∀w a,Wd M T w a->Wx M T w a/\w∉va):∀(ws:aa Str)(N:af)(pl:Str->aa En)(c0 c1 c2 c3 c4:D)(P:aa Pi)(U:aa Ti)(W:aa En)(x13 x14:D),Dk M T va W.length ws->Hd va as N pl [c0,c1,c2,c3,c4]->N+ws.length<=1000->P.length+ws.length<=1000->U.length+ws.length<=1000->W.length+3*ws.length<=3000->
  ∃(e0 e1 e2 e3 e4:D)(y13 y14:D),Hd va as (N+ws.length) (wr M T va P.length ws W pl).2.2 [e0,e1,e2,e3,e4]/\tU (tg1 13) aFa (ws.map D.str) (wv pg wa va M T p t c0 c1 c2 c3 c4 (dD D.str (kvL va as)) P U W x13 x14 x15 x16)=.ok (.nx (wv pg wa va M T p t e0 e1 e2 e3 e4 (dD D.str (kvL va as)) (P++(wr M T va P.length ws W pl).1) (U++(wr M T va P.length ws W pl).2.1) [] y13 y14 x15 x16))
 |[],N,pl,c0,c1,c2,c3,c4,P,U,W,x13,x14,hd,hh,_,_,_,_=>by
  cases W with
  |nil=>exact⟨c0,c1,c2,c3,c4,x13,x14,by rw[wr];exact hh,by rw[wr,d6,d6];rfl⟩
  |cons e W=>cases hd
 |w::ws,N,pl,c0,c1,c2,c3,c4,P,U,W,x13,x14,hd,hh,h0,h1,h2,h3=>by
  cases W with
  |nil=>cases hd
  |cons e W=>
   rw[bc] at hd h0 h1 h2 h3;rw[bc] at h3;cases hd with
   |@cons _ a _ _ wd d=>
    by_cases wn:w∈va
    ·have d':Dk M T va W.length ws:=by
      rcases wd with wd|⟨_,rfl⟩
      ·exact aE wn (hx w a wd).2
      ·rw[kh] at d;exact d
     obtain⟨b0,b1,b2_,b3,b4,q1,s⟩:=v_name (pg:=pg) (wa:=wa) (M:=M) (T:=T) (p:=p) (t:=t) (P:=P) (U:=U) (W:=W) (e:=e) (x14:=x14) (x15:=x15) (x16:=x16) h nd wn hh 0x1;obtain⟨e0,e1,e2,e3,e4,y13,y14,i1,i5⟩:=aCi h nd hx ws (N+1) (plA pl w e) b0 b1 b2_ b3 b4 P U W (.str w) (enD e) d' q1 0x1 0x1 0x1 0x1;refine⟨e0,e1,e2,e3,e4,y13,y14,?_,?_⟩
     ·rw[wr,ao wn,bc,show N+(ws.length+1)=N+1+ws.length by lia];exact i1
     ·rw[bh,wr,ao wn];exact cQ (ρ1:=wv pg wa va M T p t c0 c1 c2 c3 c4 (dD D.str (kvL va as)) P U (e::W) (.str w) x14 x15 x16) rfl s i5
    ·obtain⟨wd',wx⟩:Wd M T w a/\Wx M T w a:=by
      rcases wd with wd|⟨z,_⟩
      ·exact⟨wd,(hx w a wd).1⟩
      ·exact aE z wn
     have ha:=wx.len;have hl:=V1 wx ((P.length:ah)+1);have s:=aO6 (pg:=pg) (wa:=wa) (p:=p) (t:=t) (c0:=c0) (c1:=c1) (c2:=c2) (c3:=c3) (c4:=c4) (P:=P) (U:=U) (W:=W) (e:=e) (x14:=x14) (x15:=x15) (x16:=x16) h wn wx 0x1 0x1 0x1;have pl_:(P++[((P.length:ah)+1,w)]).length=P.length+1:=by rw[bj];rfl
     have ul:(U++[(((P.length:ah)+1,gv T w),e)]).length=U.length+1:=by rw[bj];rfl
     obtain⟨e0,e1,e2,e3,e4,y13,y14,i1,i5⟩:=aCi h nd hx ws N pl c0 c1 c2 c3 c4 (P++[((P.length:ah)+1,w)]) (U++[(((P.length:ah)+1,gv T w),e)]) (hk T ((P.length:ah)+1) w a++W) (.str w) (enD e) (by rw[bj,hl];exact d) hh 0x1 (by rw[pl_];lia) (by rw[ul];lia) (by rw[bj,hl];lia);rw[pl_] at i1 i5;refine⟨e0,e1,e2,e3,e4,y13,y14,?_,?_⟩
     ·rw[wr,aw wn,aCh wx,bc];exact⟨i1.len,i1.ok,i1.un,i1.has,λx=>c9 (i1.ln x) 0x1⟩
     ·rw[bh,wr,aw wn,aCh wx];refine cQ (ρ1:=wv pg wa va M T p t c0 c1 c2 c3 c4 (dD D.str (kvL va as)) P U (e::W) (.str w) x14 x15 x16) rfl s (i5.trans ?_);rw[dE,dE];rfl
theorem aK4(h:fo ρ=.ok (.adr a))(h2:f ρ=.ok (d,ρ'))(hj0:ρ.getD j .uD=.cel a ys)(hj:ρ'.getD j .uD=.cel a xs)(hl:xs.length<lim)(hp:d.pure=ae):aEo j fo f ρ=.ok (.nx (ρ'.set j (.cel a (xs++[d])))):=by
 unfold aEo;rw[h,Res.aY,h2,Res.aY,hj0];dsimp only;rw[hj];show(if (decide (a=a)&&(decide (a=a)&&(decide (xs.length<lim)&&d.pure)))=ae then _ else _)=_;rw[bi rfl,bi hl,hp];rfl
theorem aGq(h:f (ds++bP (m-(n+2)) .uD)=.ok (.nx ρ)):fnG n m f ds=.ok (.tup [.non,ρ.getD n .uD,ρ.getD (n+1) .uD]):=by
 unfold fnG;rw[h,Res.aY];rfl
theorem aO7(h1:f ρ=.ok (d,ρ'))(h2:g ρ'=.ok e)(hd:d.pure=ae)(he:e.pure=ae):aN2 (XN f (wG g aIs)) ρ=.ok (.tup [d,e],ρ'):=by
 have i1:wG g aIs ρ'=.ok ([e],ρ'):=by
  unfold wG;rw[h2,Res.aY];show(if e.pure=ae then _ else _)=_;rw[ao he]
 have i2:XN f (wG g aIs) ρ=.ok ([d,e],ρ'):=by
  unfold XN;rw[h1,Res.aY];show(wG g aIs ρ' >>= _)=_;rw[i1,Res.aY];show(if d.pure=ae then _ else _)=_;rw[ao hd]
 unfold aN2;rw[i2,Res.aY];show(if (decide (2<=lim)&&(d.pure&&(e.pure&&ae)))=ae then _ else _)=_;rw[bi jA,hd,he];rfl
def sv(M:aa Mk)(T:aa Tk)(p t:af)(X:aa En)(g:En)(P:aa Pi)(U:aa Ti)(x5 x6:D):aa D:=[lmD M T p t,enD g,.scr (X.map enD),.cel p (P.map piD),.cel t (U.map tiD),x5,x6]
theorem aGr(hP:P.length<=1000)(w:Str):l_ "Loom" "add_piece" cW 2 0 3 (aA (bPu (bC (.str w))) aL) (sv M T p t X g P U x5 x6)=.ok (.int ((P.length:af)+1),sv M T p t X g (P++[((P.length:ah)+1,w)]) U x5 x6):=
 xO (i:=0) (j:=3) (c:= "Loom") (m:= "add_piece") (f:=cW) (n:=2) (ρ:=sv M T p t X g P U x5 x6) (ds:=[.str w]) (fs:=[(("heads" : Str),D.dct (dD D.str (hds M T))),("takers",.dct (dD D.str (tks T))),("pieces",.adr p),("ties",.adr t)]) rfl rfl rfl rfl (aGn ..) rfl (wV hP) (aV vX _) (aV m9 _)
theorem aCj:vA "Loom" "ties" bQ (sv M T p t X g P U x5 x6)=.ok (.adr t):=N8 rfl (RV ..)
theorem aCk(h:fe (sv M T p t X g P U x5 x6)=.ok (tiD u))(hU:U.length<=2000):uU 4 (vA "Loom" "ties" bQ) fe (sv M T p t X g P U x5 x6)=.ok (.nx (sv M T p t X g P (U++[u]) x5 x6)):=by
 have a:=JK (j:=4) aCj h rfl (by rw[ax,cL];lia) (m9 u);rw[a];unfold sv;rw[cr];rfl
def aO8:FS:=(bK (K4 ag 6 (l_ "Loom" "add_piece" cW 2 0 3 (aA (bPu (bC (.str "copy"))) aL))) (bK (uU 4 (vA "Loom" "ties" bQ) (bN (aA (bN (aA fP (aA bJ aL))) (aA eO aL)))) (bK (uU 4 (vA "Loom" "ties" bQ) (bN (aA (bN (aA fP (aA bW aL))) (aA d8 aL)))) (bZ ag 1 (bN (aA fP (aA d9 aL))) ag))))
theorem aO9(hP:P.length<=1000)(hU:U.length<=1900)(e:En) :
  aO8 (sv M T p t X g P U (enD e) x6)=.ok (.nx (sv M T p t X ((P.length:ah)+1,2) (P++[((P.length:ah)+1,("copy" : Str))]) (U++[(((P.length:ah)+1,0),g)]++[(((P.length:ah)+1,1),e)]) (enD e) (.int ((P.length:af)+1)))):=by
 refine aO (ρ':=sv M T p t X g (P++[((P.length:ah)+1,("copy" : Str))]) U (enD e) (.int ((P.length:af)+1))) (aC9 (i:=6) (aGr hP "copy")) ?_;refine aO (aCk (u:=(((P.length:ah)+1,0),g)) (bL (xs:=[enD ((P.length:ah)+1,0),enD g]) (aD (bL (xs:=[.int ((P.length:af)+1),.int 0]) (aD rfl (aD rfl rfl)) jA) (aD rfl rfl)) jA) 0x1) ?_;refine aO (aCk (u:=(((P.length:ah)+1,1),e)) (bL (xs:=[enD ((P.length:ah)+1,1),enD e]) (aD (bL (xs:=[.int ((P.length:af)+1),.int 1]) (aD rfl (aD rfl rfl)) jA) (aD rfl rfl)) jA) (by rw[bj];show U.length+1<=_;lia)) ?_;exact eN (i:=1) (d:=enD ((P.length:ah)+1,2)) (bL (xs:=[.int ((P.length:af)+1),.int 2]) (aD rfl (aD rfl rfl)) jA) rfl
noncomputable def lp:af->aa En->En->aa Pi×aa Ti×En
 |_,[],g=>([],[],g)
 |k,e::Y,g=>(((k:ah)+1,("copy" : Str))::(lp (k+1) Y ((k:ah)+1,2)).1,(((k:ah)+1,0),g)::(((k:ah)+1,1),e)::(lp (k+1) Y ((k:ah)+1,2)).2.1,(lp (k+1) Y ((k:ah)+1,2)).2.2)
theorem aCl:∀(Y:aa En)(k:af)(g:En),(lp k Y g).1.length=Y.length/\(lp k Y g).2.1.length=2*Y.length
 |[],_,_=>⟨rfl,rfl⟩
 |e::Y,k,g=>by
  obtain⟨h1,h2⟩:=aCl Y (k+1) ((k:ah)+1,2);refine⟨?_,?_⟩
  ·show(lp (k+1) Y ((k:ah)+1,2)).1.length+1=Y.length+1;rw[h1]
  ·show(lp (k+1) Y ((k:ah)+1,2)).2.1.length+1+1=2*(Y.length+1);lia
theorem aGs:∀(Y:aa En)(g:En)(P:aa Pi)(U:aa Ti)(x5 x6:D),P.length+Y.length<=1000->U.length+2*Y.length<=1900->
  ∃(y5 y6:D),tU (tg1 5) aO8 (Y.map enD) (sv M T p t X g P U x5 x6)=.ok (.nx (sv M T p t X (lp P.length Y g).2.2 (P++(lp P.length Y g).1) (U++(lp P.length Y g).2.1) y5 y6))
 |[],g,P,U,x5,x6,_,_=>⟨x5,x6,by simp only[lp,d6];rfl⟩
 |e::Y,g,P,U,x5,x6,h1,h2=>by
  rw[bc] at h1 h2;have s:=aO9 (M:=M) (T:=T) (p:=p) (t:=t) (X:=X) (g:=g) (P:=P) (U:=U) (x6:=x6) 0x1 0x1 e;have pl:(P++[((P.length:ah)+1,("copy" : Str))]).length=P.length+1:=by rw[bj];rfl
  obtain⟨y5,y6,i4⟩:=aGs Y ((P.length:ah)+1,2) (P++[((P.length:ah)+1,("copy" : Str))]) (U++[(((P.length:ah)+1,0),g)]++[(((P.length:ah)+1,1),e)]) (enD e) (.int ((P.length:af)+1)) (by rw[pl];lia) (by rw[bj,bj];show U.length+1+1+_<=_;lia);refine⟨y5,y6,?_⟩;rw[bh];refine cQ (ρ1:=sv M T p t X g P U (enD e) x6) rfl s (i4.trans ?_);rw[pl];simp only[lp,dE,eP,dl]
theorem aFb(X:aa En)(h:X≠[]):Mi.getD (.scr (X.map enD)) (.int (-1))=.ok (enD (X.getLastD (0,0))):=by
 have hl:0<X.length:=Cr.mpr h;have el:X.getLastD (0,0)=X[X.length-1]:=by
  rw[List.getLastD_eq_getLast?,List.getLast?_eq_getElem?,ef 0x1];rfl
 rw[el];show Res.ofOpt ((ixD (X.map enD).length (-1)).bind λj=>(X.map enD)[j]?)=_;have e:ixD (X.map enD).length (-1)=ab (X.length-1):=by
  unfold ixD;rw[aw 0x4,ax,ao 0x1]
  congr 1
  lia
 rw[e];show Res.ofOpt ((X.map enD)[X.length-1]?)=_;rw[jg,ef 0x1];rfl
def sr(k:af)(X:aa En)(g:En):aa Pi×aa Ti:=match X with
 |[]=>([((k:ah)+1,("drop" : Str))],[(((k:ah)+1,0),g)])
 |x::Y=>((lp k (cutD (x::Y) ai (ab (-1))) g).1,(lp k (cutD (x::Y) ai (ab (-1))) g).2.1++[((lp k (cutD (x::Y) ai (ab (-1))) g).2.2,(x::Y).getLastD (0,0))])
theorem aGt(k:af)(X:aa En)(g:En):(sr k X g).1.length<=X.length+1/\(sr k X g).2.length<=2*X.length+1:=by
 cases X with
 |nil=>exact⟨aS _,aS _⟩
 |cons x X=>
  have hc:=sV (x::X) ai (ab (-1));obtain⟨h1,h2⟩:=aCl (cutD (x::X) ai (ab (-1))) k g;refine⟨?_,?_⟩
  ·show(lp k (cutD (x::X) ai (ab (-1))) g).1.length<=_;lia
  ·show((lp k (cutD (x::X) ai (ab (-1))) g).2.1++[_]).length<=_;rw[bj,h2];show _+1<=_;lia
theorem aOa:∀(Y:aa En)(P:aa Pi)(g:En),Nm P->Nm (P++(lp P.length Y g).1)
 |[],P,g,h=>by rw[lp,d6];exact h
 |e::Y,P,g,h=>by
  have pl:(P++[((P.length:ah)+1,("copy" : Str))]).length=P.length+1:=by rw[bj];rfl
  have i:=aOa Y (P++[((P.length:ah)+1,("copy" : Str))]) ((P.length:ah)+1,2) (h.snoc "copy");rw[pl,dE] at i;exact i
theorem aQu(X:aa En)(P:aa Pi)(g:En)(h:Nm P):Nm (P++(sr P.length X g).1):=by
 cases X with
 |nil=>exact h.snoc "drop"
 |cons x X=>exact aOa _ P g h
theorem aFc{M:aa Mk}{T:aa Tk}{p t:af}{X:aa En}{P:aa Pi}{U:aa Ti}(h1:P.length+X.length<1000)(h2:U.length+2*X.length<=1800)(g:En) :
  uF [lmD M T p t,enD g,.scr (X.map enD),.cel p (P.map piD),.cel t (U.map tiD)]=.ok (.tup [.non,.cel p ((P++(sr P.length X g).1).map piD),.cel t ((U++(sr P.length X g).2).map tiD)]):=by
 have c:oY (aQo d_) (sv M T p t X g P U .uD .uD)=.ok (!(!(X.map enD).isEmpty)):=rfl;cases X with
 |nil=>
  refine(aGq (ρ:=sv M T p t [] g (P++[((P.length:ah)+1,("drop" : Str))]) (U++[(((P.length:ah)+1,0),g)]) .uD .uD) ?_).trans rfl;refine Y0 c ?_;have x1:=aO7 (g:=bC (.int 0)) (aGr (M:=M) (T:=T) (p:=p) (t:=t) (X:=[]) (g:=g) (P:=P) (U:=U) (x5:=.uD) (x6:=.uD) 0x1 "drop") rfl rfl rfl;have x2:=aO7 (g:=h_ 1) (e:=enD g) x1 rfl rfl (lK g);have a:=aK4 (j:=4) aCj x2 rfl rfl (by rw[ax,cL];lia) (m9 (((P.length:ah)+1,0),g));refine a.trans ?_;unfold sv;rw[cr (f:=tiD)];rfl
 |cons x X=>
  have hz:=aFb (x::X) 0x2;have sl:bT (QX d_ mR (mQ (b1 aHy bW))) ae (sv M T p t (x::X) g P U .uD .uD)=.ok ((cutD (x::X) ai (ab (-1))).map enD,ae):=by
   have e:aE2 (.scr ((x::X).map enD)) ai (ab (-1))=.ok (.lst ((cutD (x::X) ai (ab (-1))).map enD)):=by
    show(if D.aW ((x::X).map enD) then Res.ok (D.lst (cutD ((x::X).map enD) ai (ab (-1)))) else .bad)=_;rw[ao (aV lK _),JG]
   show(QX d_ mR (mQ (b1 aHy bW)) (sv M T p t (x::X) g P U .uD .uD) >>= λd=>(CN d >>= λxs=>pure (xs,ae||d.pure)))=_;rw[show QX d_ mR (mQ (b1 aHy bW)) (sv M T p t (x::X) g P U .uD .uD)=.ok (.lst ((cutD (x::X) ai (ab (-1))).map enD)) from e];rfl
  have hc:=sV (x::X) ai (ab (-1));obtain⟨y5,y6,i4⟩:=aGs (M:=M) (T:=T) (p:=p) (t:=t) (X:=x::X) (cutD (x::X) ai (ab (-1))) g P U .uD .uD 0x1 0x1;obtain⟨q1,q2⟩:=aCl (cutD (x::X) ai (ab (-1))) P.length g;refine(aGq (ρ:=sv M T p t (x::X) (lp P.length (cutD (x::X) ai (ab (-1))) g).2.2 (P++(sr P.length (x::X) g).1) (U++(sr P.length (x::X) g).2) y5 y6) ?_).trans rfl;refine nQ c (aO (nD sl i4) ?_);have ap:=aCk (M:=M) (T:=T) (p:=p) (t:=t) (X:=x::X) (g:=(lp P.length (cutD (x::X) ai (ab (-1))) g).2.2) (P:=P++(lp P.length (cutD (x::X) ai (ab (-1))) g).1) (U:=U++(lp P.length (cutD (x::X) ai (ab (-1))) g).2.1) (x5:=y5) (x6:=y6) (fe:=bN (aA eO (aA (b2 getD d_ (b1 aHy bW)) aL))) (u:=((lp P.length (cutD (x::X) ai (ab (-1))) g).2.2,(x::X).getLastD (0,0))) (bL (xs:=[enD (lp P.length (cutD (x::X) ai (ab (-1))) g).2.2,enD ((x::X).getLastD (0,0))]) (aD rfl (aD (aJ (x:=.scr ((x::X).map enD)) (y:=.int (-1)) rfl rfl hz) rfl)) jA) (by rw[bj,q2];lia);rw[dE] at ap;exact ap
def ltP(p q:En):Prop:=p.1<q.1\/p.1=q.1/\p.2<q.2
noncomputable instance (p q:En):zc (ltP p q):=by unfold ltP;infer_instance
theorem aOb(p q:En):jJ .lt (enD p) (enD q)=ab (decide (ltP p q)):=by
 obtain⟨a,b⟩:=p;obtain⟨c,d⟩:=q;by_cases h1:a=c<;>by_cases h2:b=d<;>simp[enD,jJ,jK,xZ,h1,h2,gV.int,gV.nat,ltP]
theorem aOc(p q:En):jJ .gt (enD p) (enD q)=ab (decide (ltP q p)):=by
 obtain⟨a,b⟩:=p;obtain⟨c,d⟩:=q;by_cases h1:a=c
 ·by_cases h2:b=d<;>simp[enD,jJ,jK,xZ,h1,h2,gV.int,gV.nat,ltP]
 ·simp[enD,jJ,jK,xZ,h1,gV.int];simp only[ltP];lia
theorem aOd(p q:En):jJ .ge (enD p) (enD q)=ab (!decide (ltP p q)):=by
 obtain⟨a,b⟩:=p;obtain⟨c,d⟩:=q;by_cases h1:a=c
 ·by_cases h2:b=d
  ·simp[enD,jJ,jK,xZ,h1,h2,gV.int,gV.nat,ltP]
  ·simp[enD,jJ,jK,xZ,h1,h2,gV.int,gV.nat,ltP];by_cases h3:b<d
   ·rw[bi h3,cK 0x1];rfl
   ·rw[cK h3,bi 0x1];rfl
 ·simp[enD,jJ,jK,xZ,h1,gV.int,ltP];by_cases h3:a<c
  ·rw[bi h3,cK 0x1];rfl
  ·rw[cK h3,bi 0x1];rfl
theorem irr(a b:En)(h:ltP a b):¬ltP b a:=by
 simp only[ltP] at *;lia
theorem aQv(h:a≠b):ltP a b\/ltP b a:=by
 by_cases h1:a.1=b.1
 ·have:a.2≠b.2:=λz=>h (wo h1 z)
  simp only[ltP];lia
 ·simp only[ltP];lia
theorem aOe(o:gV)(a b:En)(r:En->En->Prop)[∀x y,zc (r x y)](h:∀x y,jJ o (enD x) (enD y)=ab (decide (r x y))):mX o [enD a,enD b]=.ok (enD (if r b a then b else a)):=by
 show J2 o [enD a,enD b]=_;have hall:([enD a,enD b].all λx=>x.gW a_&&[enD a,enD b].all λy=>(jJ o x y).isSome)=ae:=by
  simp only[gS,List.all_nil,h,AH,xm];rfl
 rw[J2,ao hall];simp only[Cl,List.foldl_nil,h,xi];by_cases hr:r b a
 ·simp[hr]
 ·simp[hr]
noncomputable def norm(t:Ti):Ti:=(if ltP t.2 t.1 then t.2 else t.1,if ltP t.1 t.2 then t.2 else t.1)
theorem RW(h:t.1≠t.2):ltP (norm t).1 (norm t).2/\(norm t=t\/norm t=(t.2,t.1)):=by
 unfold norm;rcases aQv h with z|z
 ·rw[aw (irr _ _ z),ao z];exact⟨z,.inl rfl⟩
 ·rw[ao z,aw (irr _ _ z)];exact⟨z,.inr rfl⟩
theorem jV(U:aa Ti):∃V:aa Ti,V.Perm U/\(U.length<64->lG [.lst (U.map tiD)]=.ok (.lst (V.map tiD))/\uA [.tup (V.map tiD)]=.ok (.lst (V.map tiD))):=by
 obtain⟨V,p,e⟩:=aF4 tiD (gH (U.map tiD)) U rfl;have c:∀U:aa Ti,U.length<64->cJ (U.map tiD)=ae:=λU h64=>by
  unfold cJ;rw[ax,bi h64,tF];refine e9.mpr λd hd=>?_
  obtain⟨t,ht,rfl⟩:=bE.mp hd;have hh:gQ ((U.map tiD).headD .non)=5:=by
   cases U with
   |nil=>cases ht
   |cons u U=>rfl
  rw[hh,show gQ (tiD t)=5 from rfl,show(tiD t).plain=ae from rfl,show(tiD t).gW a_=ae from rfl];refine e9.mpr λb hb=>?_
  obtain⟨u,_,rfl⟩:=bE.mp hb;exact aNw t u
 refine⟨V,p,λh64=>⟨?_,?_⟩⟩
 ·show(if cJ (U.map tiD) then Res.ok (D.lst (x_ (U.map tiD))) else .bad)=_;rw[c U h64,ao rfl,e]
 ·show(if cJ (V.map tiD) then Res.ok (D.lst (x_ (V.map tiD))) else .bad)=_;rw[c V (by rw[p.length_eq];exact h64),ao rfl]
  congr 2
  refine yF (λd hd=>?_) (gH _) (kY _) (by rw[<-e];exact kY _);obtain⟨t,_,rfl⟩:=bE.mp ((gH (V.map tiD)).mem_iff.mp hd);rfl
theorem aOf(a b:Pi)(h:a.1≠b.1):jJ .lt (piD a) (piD b)=ab (decide (a.1<b.1)):=by
 have e:jJ .lt (piD a) (piD b)=(if eqD (.int a.1) (.int b.1) then (if eqD (.str a.2) (.str b.2) then ab (gV.lt.nat 0 0) else ab (gV.lt.str a.2 b.2)) else ab (gV.lt.int a.1 b.1)):=rfl;rw[e,show eqD (.int a.1) (.int b.1)=(a.1==b.1) from rfl,aw (by simp[h])];rfl
theorem aK5{U:aa Pi}(h64:U.length<64)(h:U.Pairwise λa b=>a.1<b.1):lG [.lst (U.map piD)]=.ok (.lst (U.map piD)):=by
 have c:cJ (U.map piD)=ae:=by
  unfold cJ;rw[ax,bi h64,tF];refine e9.mpr λd hd=>?_
  obtain⟨t,ht,rfl⟩:=bE.mp hd;have hh:gQ ((U.map piD).headD .non)=3:=by
   cases U with
   |nil=>cases ht
   |cons u U=>rfl
  rw[hh,show gQ (piD t)=3 from rfl,show(piD t).plain=ae from rfl,show(piD t).gW a_=ae from rfl];refine e9.mpr λb hb=>?_
  obtain⟨u,_,rfl⟩:=bE.mp hb;exact aNx t u
 show(if cJ (U.map piD) then Res.ok (D.lst (x_ (U.map piD))) else .bad)=_;rw[c,ao rfl]
 congr 2
 refine yF (λd hd=>?_) (gH _) (kY _) (mr.mpr (h.imp λ{a b} hab=>?_))
 ·obtain⟨t,_,rfl⟩:=bE.mp ((gH (U.map piD)).mem_iff.mp hd);rfl
 ·have e1:=QF (piD b) (piD a) _ rfl rfl (aOf b a 0x1);rw[cK 0x1] at e1;unfold leE;rw[<-e1];rfl
def ntD(P:aa Pi)(V:aa Ti):D:=.tup [.tup (P.map piD),.tup (V.map tiD),.int 0]
theorem aCm(P:aa Pi)(V:aa Ti):(ntD P V).pure=ae:=by
 show((D.tup (P.map piD)).pure&&((D.tup (V.map tiD)).pure&&ae))=ae;rw[D.pure,D.pure,aV vX,aV m9];rfl
theorem uI{U V:aa Ti}(h64:P.length<64)(hP:P.Pairwise λa b=>a.1<b.1)(hV:lG [.lst ((U.map norm).map tiD)]=.ok (.lst (V.map tiD)))(hl:U.length<=1000):bY 3 fQ [.lst (P.map piD),.lst (U.map tiD),.int 0]=.ok (ntD P V):=by
 refine(eZ rfl).trans (call_v ?_);have hf:iI (jM 4 (aP0 2) dX (bN (aA (aK (mX .lt) (aA fD (aA d8 aL))) (aA (aK (mX .gt) (aA fD (aA d8 aL))) aL))) ag [.lst (P.map piD),.lst (U.map tiD),.int 0,.uD]) [] (U.map tiD)=.ok ((U.map norm).map tiD):=by
  rw[e_ _ tiD (λ_=>ae) (λt=>tiD (norm t))]
  ·rw[jt.mpr (λ_ _=>rfl),cS,dl];rfl
  ·intro acc t;have e1:=aOe .lt t.1 t.2 ltP aOb;have e2:=aOe .gt t.1 t.2 (λx y=>ltP y x) aOc;exact fL rfl rfl rfl λ_=>⟨bL (aD (aU (aD rfl (aD rfl rfl)) e1) (aD (aU (aD rfl (aD rfl rfl)) e2) rfl)) jA,rfl⟩
 have it:bT eO ag [.lst (P.map piD),.lst (U.map tiD),.int 0,.uD]=.ok (U.map tiD,ag||(D.lst (U.map tiD)).pure):=rfl;refine aO (cD (gD it (by rw[ax,cL];lia) hf)) ?_;exact lX (bL (aD (aU (aD (aU (aD rfl rfl) (aK5 h64 hP)) rfl) rfl) (aD (aU (aD (aU (aD rfl rfl) hV) rfl) rfl) (aD rfl rfl))) (dJ (dw rfl))) (by rw[aCm];rfl)
theorem aOg(h1:fa ρ=.ok ds)(hl:ds.length=n)(h2:evI (.uD::ds) l=.ok [(f1,d1),(f2,d2),(f3,.lst []),(f4,.lst [])])(h3:∀p t,p≠t->g (mkG i j c f1 f2 f3 f4 d1 d2 p t ρ)=.ok (.rt d)):aN8 i j c l n fa g ρ=.ok (.rt d):=by
 unfold aN8;rw[h1,Res.aY,bi hl,ao rfl,h2,Res.aY];have ex:∃d,∀p t,p≠t->g (mkG i j c f1 f2 f3 f4 d1 d2 p t ρ)=.ok (.rt d):=⟨d,h3⟩
 dsimp only;rw[sP ex];have z:=ex.choose_spec 0 1 0x4;rw[h3 0 1 0x4] at z;injection z with z
 injection z with z
 rw[<-z]
theorem N_:∀L:aa D,(∀d∈L,d.pure=ae)->D.aW L=ae
 |[],_=>rfl
 |d::L,h=>by rw[D.aW,h d (bn ..),N_ L λd hd=>h d (bz _ hd)];rfl
theorem aCn{L:aa (α×D)}(h:∀p∈L,p.2.pure=ae):inner (.dct (dD ek L))=ae:=by
 show D.aW ((dD ek L).map (·.2))=ae;unfold dD;rw[cS];exact N_ _ λd hd=>by
  obtain⟨p,hp,rfl⟩:=bE.mp hd;exact h p hp
theorem aK6:inner (.dct (dD D.str (hds M T)))=ae:=aCn (oV (P:=λd=>d.pure=ae) (T.map hdT) (eU [] (M.map hdM)) (λp hp=>by
 obtain⟨t,_,rfl⟩:=bE.mp hp;show(ae&&((D.tup ((t.2.2.1::t.2.2.2).map D.str)).pure&&ae))=ae;rw[D.pure,bR];rfl) (oV (P:=λd=>d.pure=ae) (M.map hdM) [] (λp hp=>by
 obtain⟨m,_,rfl⟩:=bE.mp hp;show(ae&&((D.tup (m.2.2.map D.str)).pure&&ae))=ae;rw[D.pure,bR];rfl) λp hp=>by cases hp))
theorem aK7:inner (.dct (dD D.str (tks T)))=ae:=aCn (oV (P:=λd=>d.pure=ae) (T.map λt:Tk=>(t.1,D.bl ae)) [] (λp hp=>by
 obtain⟨t,_,rfl⟩:=bE.mp hp;rfl) λp hp=>by cases hp)
theorem aK8(hM:M.length<=9)(hT:T.length<=3)(hTp:∀t∈T,t.2.2.2.length<=2):evI [.uD,pgD ks M T R] wK=.ok [("heads",.dct (dD D.str (hds M T))),("takers",.dct (dD D.str (tks T))),("pieces",.lst []),("ties",.lst [])]:=by
 have e1:aK (bY 1 mC) (aA eO aL) [.uD,pgD ks M T R]=.ok (.dct (dD D.str (hds M T))):=aU (aD rfl rfl) (aF6 hM hT hTp);have cf:iI (jM 2 iV dX (bN (aA (b2 getD d_ bJ) (aA (bC (.bl ae)) aL))) ag [.uD,pgD ks M T R]) [] (T.map tkD)=.ok (T.map λt=>D.tup [.str t.1,.bl ae]):=by
  rw[e_ _ tkD (λ_=>ae) (λt:Tk=>D.tup [.str t.1,.bl ae])]
  ·rw[jt.mpr (λ_ _=>rfl),dl]
  ·intro acc t;exact fL (bs:=[tkD t]) (y:=.tup [.str t.1,.bl ae]) rfl rfl rfl λ_=>⟨bL (xs:=[.str t.1,.bl ae]) (aD (aJ (x:=tkD t) (y:=.int 0) rfl rfl rfl) (aD rfl rfl)) jA,rfl⟩
 have it:=g_ (a:=b2 getD eO d9) (ρ:=[.uD,pgD ks M T R]) (xs:=T.map tkD) (aJ (x:=pgD ks M T R) (y:=.int 2) rfl rfl rfl);have e2:b1 K6 (eQ 2 (bT (b2 getD eO d9) ag) iV dX (bN (aA (b2 getD d_ bJ) (aA (bC (.bl ae)) aL))) ag) [.uD,pgD ks M T R]=.ok (.dct (dD D.str (tks T))):=by
  unfold b1;rw[gD it (by rw[ax,cL];lia) cf,Res.aY];exact aJz T 0x1
 have i1:inner (.dct (dD D.str (hds M T)))=ae:=aK6;have i2:inner (.dct (dD D.str (tks T)))=ae:=aK7;unfold wK;rw[evI,e1,Res.aY,evI,e2,Res.aY];show(do let ds <- (do let ds <- Res.ok [(("pieces" : Str),D.lst []),("ties",D.lst [])];if inner (.dct (dD D.str (tks T))) then Res.ok ((("takers" : Str),D.dct (dD D.str (tks T)))::ds) else .bad);if inner (.dct (dD D.str (hds M T))) then Res.ok ((("heads" : Str),D.dct (dD D.str (hds M T)))::ds) else .bad)=_;rw[Res.aY,ao i2,Res.aY,ao i1]
theorem OD:∀xs:aa Str,yQ (xs.map D.str)=ab xs
 |[]=>rfl
 |x::xs=>by
  show(yQ (xs.map D.str)).map (x::·)=_;rw[OD xs];rfl
theorem aOh(h1:it ρ=.ok (xs.map D.str,k))(hl:xs.length<=n)(hl2:xs.length<=1000)(h3:∀as:aa af,as.length=xs.length->as.Nodup->g (setC j as (ρ.set i (.dct (iY [] (aGd xs as)))))=.ok (.rt d)):aNd i j n it g ρ=.ok (.rt d):=by
 unfold aNd;rw[h1,Res.aY];dsimp only;rw[OD];dsimp only;rw[bi hl,bi hl2];have ex:∃d,∀as:aa af,as.length=xs.length->as.Nodup->g (setC j as (ρ.set i (.dct (iY [] (aGd xs as)))))=.ok (.rt d):=⟨d,h3⟩
 rw[ao (show(ae&&ae)=ae from rfl),sP ex];have z:=ex.choose_spec (bw xs.length) dy Cv;rw[h3 _ dy Cv] at z;injection z with z
 injection z with z
 rw[<-z]
theorem V6[cq α](a:α)(v:D)(x:α):∀L:aa (α×D),x∈(nR L a v).map (·.1)->x∈L.map (·.1)\/x=a
 |[],h=>by
  rw[nR] at h;exact .inr (gq.mp h)
 |q::L,h=>by
  rw[nR] at h;split at h
  ·exact .inl h
  ·rw[bh] at h ⊢;rcases bq.mp h with h|h
   ·exact .inl (by rw[h];exact bn ..)
   ·exact(V6 a v x L h).imp (bz _) id
theorem aCo[cq α](a:α)(v:D):∀L:aa (α×D),(L.map (·.1)).Nodup->((nR L a v).map (·.1)).Nodup
 |[],_=>by rw[nR];exact dj.mpr ⟨by simp,fA⟩
 |q::L,h=>by
  rw[nR];rw[bh,dj] at h;split
  ·exact dj.mpr h
  ·rename_i z;rw[bh,dj];refine⟨λhq=>?_,aCo a v L h.2⟩;rcases V6 a v q.1 L hq with k|k
   ·exact h.1 k
   ·exact z k
theorem V7[cq α]:∀(ps L:aa (α×D)),(L.map (·.1)).Nodup->((eU L ps).map (·.1)).Nodup
 |[],_,h=>h
 |q::ps,L,h=>V7 ps (nR L q.1 q.2) (aCo q.1 q.2 L h)
theorem aCp[cq α]:∀(L:aa (α×D)),(L.map (·.1)).Nodup->(a,v)∈L->bU L a=ab v
 |[],_,h=>by cases h
 |q::L,nd,h=>by
  rw[bh,dj] at nd;rw[bU];rcases bq.mp h with k|k
  ·rw[<-k,ao rfl]
  ·rw[aw λz=>nd.1 (by rw[z];exact bE.mpr ⟨_,k,rfl⟩)];exact aCp L nd.2 k
theorem aK9(h:(x,D.adr a)∈kvL va as):bU (kvL va as) x=ab (.adr a):=aCp _ (V7 _ [] fA) h
def kvS(va:aa Str)(as:aa af)(pl:Str->aa En):aa (Str×D):=(kvL va as).map λq=>(q.1,.scr ((pl q.1).map enD))
theorem aGu(hd:Hd va as N pl [c0,c1,c2,c3,c4])(hρ:ρ=wv pg wa va M T p t c0 c1 c2 c3 c4 kv P U W x13 x14 x15 x16):∀L:aa (Str×D),(∀q∈L,q∈kvL va as)->aD0 ρ 5 5 (dD D.str L)=ab (dD D.str (L.map λq=>(q.1,.scr ((pl q.1).map enD))))
 |[],_=>rfl
 | (x,d)::L,h=>by
  have hx:=h _ (bn ..);obtain⟨a,_,e⟩:=aCf va as _ hx;replace e:d=.adr a:=e;subst e;have lk:=aK9 hx;obtain⟨m0,hm0,em0⟩:=hd.has x a lk;obtain⟨m,X,hm,hs,hX⟩:=V3 (ρ:=ρ) (a:=a) ⟨m0,_,hm0,by rw[hρ,aCc m0 hm0];exact em0⟩;have hX':=hX;rw[hρ,aCc m hm] at hX';obtain rfl:=hd.un m m0 a _ _ hm hm0 hX' em0;rw[hX'] at em0;injection em0 with _ em0
  subst em0;have ih:=aGu hd hρ L λq hq=>h q (bz _ hq)
  show aD0 ρ 5 5 ((D.str x,D.adr a)::dD D.str L)=_;rw[aD0,hs,hX];dsimp only;rw[bi rfl,bi (show 5+m<5+5 by lia),ih];rfl
theorem V8(f:Str->D)(x:Str):∀L:aa (Str×D),bU (L.map λq=>(q.1,f q.1)) x=(bU L x).map λ_=>f x
 |[]=>rfl
 |q::L=>by
  rw[bh,bU,bU];by_cases z:q.1=x
  ·rw[ao z,ao z,z];rfl
  ·rw[aw z,aw z];exact V8 f x L
def fv(pg:D)(wa va:aa Str)(M:aa Mk)(T:aa Tk)(p t:af)(kv:aa (D×D))(P:aa Pi)(U:aa Ti)(x13 x14 x15 x16:D):aa D:=wv pg wa va M T p t .uD .uD .uD .uD .uD kv P U [] x13 x14 x15 x16
theorem aKa(hd:Hd va as N pl [c0,c1,c2,c3,c4]):aBq 11 5 5 g (wv pg wa va M T p t c0 c1 c2 c3 c4 (dD D.str (kvL va as)) P U [] x13 x14 x15 x16)=g (fv pg wa va M T p t (dD D.str (kvS va as pl)) P U x13 x14 x15 x16):=by
 have f:=aGu (pg:=pg) (wa:=wa) (M:=M) (T:=T) (p:=p) (t:=t) (kv:=dD D.str (kvL va as)) (P:=P) (U:=U) (W:=[]) (x13:=x13) (x14:=x14) (x15:=x15) (x16:=x16) hd rfl (kvL va as) λ_ h=>h
 have c:(bw 5).all (λm=>isC ((wv pg wa va M T p t c0 c1 c2 c3 c4 (dD D.str (kvL va as)) P U [] x13 x14 x15 x16).getD (5+m) .uD))=ae:=e9.mpr λm hm=>by
  have hm:=fN.mp hm;rw[aCc m hm];exact hd.ok m hm
 show(match D.dct (dD D.str (kvL va as)) with|.dct kvs=>(match aD0 (wv pg wa va M T p t c0 c1 c2 c3 c4 (dD D.str (kvL va as)) P U [] x13 x14 x15 x16) 5 5 kvs with|some kvs'=>if (bw 5).all (λm=>isC ((wv pg wa va M T p t c0 c1 c2 c3 c4 (dD D.str (kvL va as)) P U [] x13 x14 x15 x16).getD (5+m) .uD)) then g ((aP2 5 5 (wv pg wa va M T p t c0 c1 c2 c3 c4 (dD D.str (kvL va as)) P U [] x13 x14 x15 x16)).set 11 (.dct kvs')) else .bad|none=>.bad)|_=>.bad)=_;dsimp only;rw[f];dsimp only;rw[ao c];rfl
def srs:af->af->aa Str->(Str->aa En)->aa Pi×aa Ti
 |_,_,[],_=>([],[])
 |n,k,x::va,pl=>((sr n (pl x) (0,(k:ah))).1++(srs (n+(sr n (pl x) (0,(k:ah))).1.length) (k+1) va pl).1,(sr n (pl x) (0,(k:ah))).2++(srs (n+(sr n (pl x) (0,(k:ah))).1.length) (k+1) va pl).2)
noncomputable def tot(pl:Str->aa En):aa Str->af
 |[]=>0
 |x::va=>(pl x).length+tot pl va
theorem aCq:∀(va:aa Str)(n k:af)(pl:Str->aa En),(srs n k va pl).1.length<=tot pl va+va.length/\(srs n k va pl).2.length<=2*tot pl va+va.length
 |[],_,_,_=>⟨cy _,cy _⟩
 |x::va,n,k,pl=>by
  obtain⟨h1,h2⟩:=aGt n (pl x) (0,(k:ah));obtain⟨i1,i2⟩:=aCq va (n+(sr n (pl x) (0,(k:ah))).1.length) (k+1) pl;rw[srs,bj,bj,bc,tot];lia
theorem aGv:∀(va:aa Str)(k:af)(pl:Str->aa En)(P:aa Pi),Nm P->Nm (P++(srs P.length k va pl).1)
 |[],_,_,P,h=>by rw[srs,d6];exact h
 |x::va,k,pl,P,h=>by
  have i:=aGv va (k+1) pl (P++(sr P.length (pl x) (0,(k:ah))).1) (aQu (pl x) P _ h);rw[bj,dE] at i;rw[srs];exact i
theorem aOi(h:f ρ=.ok (d,ρ')):aNf f ρ=.ok (.nx ρ'):=by
 unfold aNf;rw[h,Res.aY]
theorem aOj(h:f ρ=.ok d)(hp:d.pure=ae):bPu f ρ=.ok d:=by
 unfold bPu;rw[h,Res.aY,ao hp]
theorem aFd(h k p t:D):fy ("serve" : Str) [(("heads" : Str),h),("takers",k),("pieces",p),("ties",t)]=ai:=by with_unfolding_all rfl
def aKb:FS:=aNf (l_ "Loom" "serve" uF 3 10 3 (aA (bPu (bN (aA bJ (aA wY aL)))) (aA (bPu (b2 getD j5 W6)) aL)))
theorem aKc(h:as.length=va.length)(hx:x∈va):Mi.getD (.dct (dD D.str (kvS va as pl))) (.str x)=.ok (.scr ((pl x).map enD)):=by
 obtain⟨a,ha,_⟩:=aGp h hx;show(if keyOk (.str x) then Res.ofOpt (fB (dD D.str (kvS va as pl)) (.str x)) else .bad)=_;rw[ao (show keyOk (.str x)=ae from rfl),uG d7];unfold kvS;rw[V8 (λx=>.scr ((pl x).map enD)),ha];rfl
theorem aOk(h:as.length=va.length)(hx:x∈va)(hN:(pl x).length<=N)(h1:P.length+N<1000)(h2:U.length+2*N<=1800) :
  aKb (fv pg wa va M T p t (dD D.str (kvS va as pl)) P U x13 x14 (.int (k:af)) (.str x))=.ok (.nx (fv pg wa va M T p t (dD D.str (kvS va as pl)) (P++(sr P.length (pl x) (0,(k:ah))).1) (U++(sr P.length (pl x) (0,(k:ah))).2) x13 x14 (.int (k:af)) (.str x))):=by
 have s:=aFc (M:=M) (T:=T) (p:=p) (t:=t) (X:=pl x) (P:=P) (U:=U) 0x1 0x1 (0,(k:ah));have pu:(D.scr ((pl x).map enD)).pure=ae:=aV lK _;have a1:bPu (bN (aA bJ (aA wY aL))) (fv pg wa va M T p t (dD D.str (kvS va as pl)) P U x13 x14 (.int (k:af)) (.str x))=.ok (enD (0,(k:ah))):=aOj (bL (xs:=[.int 0,.int (k:af)]) (aD rfl (aD rfl rfl)) jA) rfl;have a2:bPu (b2 getD j5 W6) (fv pg wa va M T p t (dD D.str (kvS va as pl)) P U x13 x14 (.int (k:af)) (.str x))=.ok (.scr ((pl x).map enD)):=aOj (aJ (x:=.dct (dD D.str (kvS va as pl))) (y:=.str x) rfl rfl (aKc h hx)) pu;exact aOi (xO (i:=10) (j:=3) (c:= "Loom") (m:= "serve") (f:=uF) (n:=3) (ρ:=fv pg wa va M T p t (dD D.str (kvS va as pl)) P U x13 x14 (.int (k:af)) (.str x)) (ds:=[enD (0,(k:ah)),.scr ((pl x).map enD)]) (fs:=[(("heads" : Str),D.dct (dD D.str (hds M T))),("takers",.dct (dD D.str (tks T))),("pieces",.adr p),("ties",.adr t)]) rfl (aD a1 (aD a2 rfl)) rfl rfl (aFd ..) rfl s (aV vX _) (aV m9 _))
theorem aGw(h:as.length=va.length)(hN:∀x,(pl x).length<=N):∀(vs:aa Str)(k:af)(P:aa Pi)(U:aa Ti)(x15 x16:D),(∀x∈vs,x∈va)->P.length+vs.length*(N+1)+N<1000->U.length+vs.length*(2*N+1)+2*N<=1800->
  ∃y15 y16:D,tU (tgN [15,16]) aKb (G_ k (vs.map D.str)) (fv pg wa va M T p t (dD D.str (kvS va as pl)) P U x13 x14 x15 x16)=.ok (.nx (fv pg wa va M T p t (dD D.str (kvS va as pl)) (P++(srs P.length k vs pl).1) (U++(srs P.length k vs pl).2) x13 x14 y15 y16))
 |[],k,P,U,x15,x16,_,_,_=>⟨x15,x16,by rw[srs,d6,d6];rfl⟩
 |x::vs,k,P,U,x15,x16,hv,h1,h2=>by
  rw[bc,Nat.succ_mul] at h1 h2;have s:=aOk (pg:=pg) (wa:=wa) (M:=M) (T:=T) (p:=p) (t:=t) (P:=P) (U:=U) (k:=k) (x13:=x13) (x14:=x14) h (hv x (bn ..)) (hN x) 0x1 0x1;obtain⟨l1,l2⟩:=aGt P.length (pl x) (0,(k:ah));have:=hN x;obtain⟨y15,y16,i⟩:=aGw h hN vs (k+1) (P++(sr P.length (pl x) (0,(k:ah))).1) (U++(sr P.length (pl x) (0,(k:ah))).2) (.int (k:af)) (.str x) (λy hy=>hv y (bz _ hy)) (by rw[bj];lia) (by rw[bj];lia);refine⟨y15,y16,?_⟩;rw[bj,dE,dE] at i;rw[srs];exact cQ (ρ1:=fv pg wa va M T p t (dD D.str (kvS va as pl)) P U x13 x14 (.int (k:af)) (.str x)) rfl s i
theorem YT{as:aa af}{cs:aa D}(nd:as.Nodup)(h5:as.length<=5)(hcs:cs=as.map (λa=>D.cel a [])++bP (5-as.length) .uD):Hd va as 0 (λ_=>[]) cs:=by
 have at1:∀m (h:m<as.length),cs.getD m .uD=.cel as[m] []:=λm h=>by
  rw[hcs,cu,ia (by rw[ax];exact h),jg,ef h];rfl
 have at2:∀m,as.length<=m->cs.getD m .uD=.uD:=λm h=>by
  rw[hcs,cu,fz (by rw[ax];exact h),je];split<;>rfl
 have cel:∀m a X,cs.getD m .uD=.cel a X->∃h:m<as.length,as[m]=a:=λm a X e=>by
  rcases kf m as.length with h|h
  ·rw[at1 m h] at e;cases e;exact⟨h,rfl⟩
  ·rw[at2 m h] at e;cases e
 refine⟨by rw[hcs,bj,ax,nI];lia,λm _=>?_,λm k a X Y _ _ e1 e2=>?_,λx a hx=>?_,λ_=>aS _⟩
 ·rcases kf m as.length with h|h
  ·rw[at1 m h];rfl
  ·rw[at2 m h];rfl
 ·obtain⟨h1,q1⟩:=cel m a X e1;obtain⟨h2,q2⟩:=cel k a Y e2;rcases B5 m k with z|z|z
  ·exact aE (q1.trans q2.symm) (s_.mp nd m k h1 h2 z)
  ·exact z
  ·exact aE (q2.trans q1.symm) (s_.mp nd k m h2 h1 z)
 ·obtain⟨b,hb,e⟩:=aCf va as _ (u_ x _ _ hx);replace e:D.adr a=.adr b:=e;cases e;obtain⟨m,hm,e⟩:=xB hb;exact⟨m,by lia,by rw[at1 m hm,e];rfl⟩
theorem hd0{as:aa af}(nd:as.Nodup)(h5:as.length<=5)(q0 q1 q2 q3 q4:D)(R:aa D):∃c0 c1 c2 c3 c4,Hd va as 0 (λ_=>[]) [c0,c1,c2,c3,c4]/\setC 5 as (q0::q1::q2::q3::q4::.uD::.uD::.uD::.uD::.uD::R)=q0::q1::q2::q3::q4::c0::c1::c2::c3::c4::R:=by
 match as,nd,h5 with
 |[],nd,h=>exact⟨_,_,_,_,_,YT nd h rfl,rfl⟩
 |[a],nd,h=>exact⟨_,_,_,_,_,YT nd h rfl,rfl⟩
 |[a,b],nd,h=>exact⟨_,_,_,_,_,YT nd h rfl,rfl⟩
 |[a,b,c],nd,h=>exact⟨_,_,_,_,_,YT nd h rfl,rfl⟩
 |[a,b,c,d],nd,h=>exact⟨_,_,_,_,_,YT nd h rfl,rfl⟩
 |[a,b,c,d,e],nd,h=>exact⟨_,_,_,_,_,YT nd h rfl,rfl⟩
theorem aCr(pl:Str->aa En)(w:Str)(e:En):∀va:aa Str,va.Nodup->tot (plA pl w e) va<=tot pl va+1/\(w∉va->tot (plA pl w e) va=tot pl va)
 |[],_=>⟨cy _,λ_=>rfl⟩
 |x::va,h=>by
  rw[dj] at h;obtain⟨i1,i2⟩:=aCr pl w e va h.2;rw[tot,tot];by_cases z:x=w
  ·subst z;have:=i2 h.1;have:(plA pl x e x).length=(pl x).length+1:=by simp[plA]
   exact⟨by lia,λq=>aE (bn ..) q⟩
  ·have:plA pl w e x=pl x:=by simp[plA,z]
   rw[this];exact⟨by lia,λq=>by rw[i2 λy=>q (bz _ y)]⟩
theorem aCs(hx:∀w a,Wd M T w a->Wx M T w a/\w∉va)(nd:va.Nodup):∀(ws:aa Str)(k:af)(W:aa En)(pl:Str->aa En),Dk M T va W.length ws->∃u:af,3*u<=2*ws.length+W.length/\u<=ws.length/\tot (wr M T va k ws W pl).2.2 va<=tot pl va+u/\(wr M T va k ws W pl).1.length+u<=ws.length/\(wr M T va k ws W pl).2.1.length+u<=ws.length
 |[],k,W,pl,h=>by
  rw[wr];exact⟨0,cy _,cy _,aS _,cy _,cy _⟩
 |w::ws,k,[],pl,h=>by cases h
 |w::ws,k,e::W,pl,h=>by
  cases h with
  |@cons _ a _ _ wd d=>
   rw[wr,bc,bc];by_cases wn:w∈va
   ·rw[ao wn];have d':Dk M T va W.length ws:=by
     rcases wd with wd|⟨_,rfl⟩
     ·exact aE wn (hx w a wd).2
     ·rw[kh] at d;exact d
    obtain⟨u,u1,u2,u3,u4,u5⟩:=aCs hx nd ws k W (plA pl w e) d';have:=(aCr pl w e va nd).1;exact⟨u+1,by lia,by lia,by lia,by lia,by lia⟩
   ·rw[aw wn];obtain⟨wd',wx⟩:Wd M T w a/\Wx M T w a:=by
     rcases wd with wd|⟨z,_⟩
     ·exact⟨wd,(hx w a wd).1⟩
     ·exact aE z wn
    have ha:=wx.len;rw[aCh wx];obtain⟨u,u1,u2,u3,u4,u5⟩:=aCs hx nd ws (k+1) (hk T ((k:ah)+1) w a++W) pl (by rw[bj,V1 wx];exact d);rw[bj,V1 wx] at u1;exact⟨u,by lia,by lia,u3,by rw[bc];lia,by rw[bc];lia⟩
theorem aKd:∀(ws:aa Str)(P:aa Pi)(W:aa En)(pl:Str->aa En),Nm P->Nm (P++(wr M T va P.length ws W pl).1)
 |[],P,_,_,h=>by rw[wr,d6];exact h
 |_::_,P,[],_,h=>by rw[wr,d6];exact h
 |w::ws,P,e::W,pl,h=>by
  rw[wr];split
  ·exact aKd ws P W (plA pl w e) h
  ·have i:=aKd (M:=M) (T:=T) (va:=va) ws (P++[((P.length:ah)+1,w)]) (hk T ((P.length:ah)+1) w (arS M T w)++W) pl (h.snoc w);rw[show(P++[((P.length:ah)+1,w)]).length=P.length+1 by rw[bj];rfl,dE] at i;exact i
def vr2:FS:=(bK (bZ ae 12 (zM (aA (bN (aA bJ (aA bJ aL))) aL)) ae) (bK (QC 1 (tg1 13) aFa) (aBq 11 5 5 (bK (tV (U_ 1 d_) (tgN [15,16]) aKb) (gR (aK (bY 3 fQ) (aA (aGa 3 (vA "Loom" "pieces" jB)) (aA (aGa 4 (vA "Loom" "ties" jB)) (aA bJ aL)))) ae)))))
theorem aOl:wL=aN8 10 3 "Loom" wK 1 (aA bQ aL) (aNd 11 5 5 (bT d_ ag) vr2):=rfl
theorem aFe(hx:∀w a,Wd M T w a->Wx M T w a/\w∉va)(hM:M.length<=9)(hT:T.length<=3)(hTp:∀t∈T,t.2.2.2.length<=2)(hd:Dk M T va 1 ws)(hl:ws.length<=32)(hv:va.length<=5)(nva:va.Nodup) :
  ∃(P:aa Pi)(V:aa Ti),bY 3 lD [pgD ks M T R,.tup (ws.map D.str),.tup (va.map D.str)]=.ok (ntD P V):=by
 generalize hpl:(wr M T va 0 ws [(0,0)] (λ_=>[])).2.2=pl;generalize hP1:(wr M T va 0 ws [(0,0)] (λ_=>[])).1=P1;generalize hU1:(wr M T va 0 ws [(0,0)] (λ_=>[])).2.1=U1;obtain⟨u,u1,u2,u3,l1,l2⟩:=aCs hx nva ws 0 [(0,0)] (λ_=>[]) hd;have u0:tot (λ_=>[]) va=0:=by
  clear hd hv nva hx u1 u2 u3 l1 l2 hpl hP1 hU1;induction va with
  |nil=>rfl
  |cons x va ih=>rw[tot,ih];rfl
 rw[hpl,u0] at u3;rw[hP1] at l1;rw[hU1] at l2;have u1:3*u<=2*ws.length+1:=u1;have n1:Nm P1:=by
  have:=aKd (M:=M) (T:=T) (va:=va) ws [] [(0,0)] (λ_=>[]) (λi h=>by cases h);rw[dl] at this;rw[<-hP1];exact this
 have n2:=aGv va 1 pl P1 n1;generalize hP2:P1++(srs P1.length 1 va pl).1=P2 at n2;generalize hU2:U1++(srs P1.length 1 va pl).2=U2;obtain⟨V,_,hV⟩:=jV (U2.map norm);refine⟨P2,V,(eZ rfl).trans (call_v ?_)⟩;rw[aOl];refine aOg (aD rfl rfl) rfl (aK8 hM hT hTp) λp t hpt=>?_
 refine aOh (xs:=va) (g_ rfl) hv 0x1 λas ha nd=>?_
 obtain⟨c0,c1,c2,c3,c4,h0,hs⟩:=hd0 (va:=va) nd 0x1 (pgD ks M T R) (.tup (ws.map D.str)) (.tup (va.map D.str)) (.cel p []) (.cel t []) [lmD M T p t,.dct (dD D.str (kvL va as)),.uD,.uD,.uD,.uD,.uD];rw[aO2];refine(cz vr2 hs).trans ?_;obtain⟨e0,e1,e2,e3,e4,y13,y14,i1,i2⟩:=aCi (pg:=pgD ks M T R) (wa:=ws) (p:=p) (t:=t) (x15:=.uD) (x16:=.uD) ha nd hx ws 0 (λ_=>[]) c0 c1 c2 c3 c4 [] [] [(0,0)] .uD .uD hd h0 0x1 (by show 0+_<=_;lia) (by show 0+_<=_;lia) (by show 1+_<=_;lia);rw[eL,hpl,kh] at i1;rw[eL,hP1,hU1,dl,dl] at i2;obtain⟨s1,s2⟩:=aCq va P1.length 1 pl;have m1:va.length*(ws.length+1)<=5*33:=Cw hv 0x1;have m2:va.length*(2*ws.length+1)<=5*65:=Cw hv 0x1;obtain⟨y15,y16,i3⟩:=aGw (pg:=pgD ks M T R) (wa:=ws) (M:=M) (T:=T) (p:=p) (t:=t) (x13:=y13) (x14:=y14) ha i1.ln va 1 P1 U1 .uD .uD (λ_ h=>h) 0x1 0x1;rw[hP2,hU2] at i3;have lu:U2.length<64:=by rw[<-hU2,bj];lia
 have lp:P2.length<64:=by rw[<-hP2,bj];lia
 refine aO (ρ':=wv (pgD ks M T R) ws va M T p t c0 c1 c2 c3 c4 (dD D.str (kvL va as)) [] [] [(0,0)] .uD .uD .uD .uD) (fJ (i:=12) (uY (xs:=[enD (0,0)]) (aD (bL (xs:=[.int 0,.int 0]) (aD rfl (aD rfl rfl)) jA) rfl) (dJ (dw rfl))) rfl) ?_;refine aO (aB3 rfl rfl i2) ?_;rw[aKa i1];have it:U_ 1 d_ (fv (pgD ks M T R) ws va M T p t (dD D.str (kvS va as pl)) P1 U1 y13 y14 .uD .uD)=.ok (G_ 1 (va.map D.str),ae):=by
  show(if D.aW (va.map D.str) then Res.ok (G_ 1 (va.map D.str),ae) else .bad)=_;rw[ao (bR va)]
 refine aO (nD it i3) ?_;have f:∀(a:Str)(d:D),fy a [(("heads" : Str),D.dct (dD D.str (hds M T))),("takers",.dct (dD D.str (tks T))),("pieces",.adr p),("ties",.adr t)]=ab d->vA "Loom" a jB (fv (pgD ks M T R) ws va M T p t (dD D.str (kvS va as pl)) P2 U2 y13 y14 y15 y16)=.ok d:=λa d h=>N8 rfl h
 exact lX (d:=ntD P2 V) (aU (xs:=[.lst (P2.map piD),.lst (U2.map tiD),.int 0]) (aD (aC8 (f "pieces" _ (zJ ..)) rfl) (aD (aC8 (f "ties" _ (RV ..)) rfl) (aD rfl rfl))) (uI lp n2.rise (hV (by rw[ax];exact lu)).1 0x1)) rfl
theorem aFf{va:aa Str}(hn:ns.length<=63)(hm3:many<=3)(hM:MOk ns many many.toNat M)(hT:∀t∈T,iD ns many t)(hv:∀x∈va,∃j:ah,(12<=j/\j<=16)/\x=wrd ns j)(h:Wd M T w a):w∉va:=λz=>by
 obtain⟨j,hj,e⟩:=hv w z;rcases h with ⟨m,hm,rfl,_⟩|⟨t,ht,rfl,_⟩
 ·obtain⟨ks,k1,k2,k3⟩:=hM.names;have:m.1∈ks.map (wrd ns):=by rw[<-k1];exact bE.mpr ⟨m,hm,rfl⟩
  obtain⟨i,hi,ei⟩:=bE.mp this;have:=k3 i hi;have:=vU hn (i:=i) (j:=j) 0x1 0x1 0x1 0x1 (by rw[ei];exact e);lia
 ·obtain⟨k,q1,q2,q3⟩:=(hT t ht).1;have:=vU hn (i:=k) (j:=j) 0x1 0x1 0x1 0x1 (by rw[<-q3];exact e);lia
theorem slW(L:aa Str)(lo hi:au ah):aQn (.tup (L.map D.str)) lo hi=.ok (.tup ((cutD L lo hi).map D.str)):=by
 show(if D.aW (L.map D.str) then Res.ok (D.tup (cutD (L.map D.str) lo hi)) else .bad)=_;rw[ao (bR L),JG]
theorem aFg(L:aa α)(n:af)(h:n<=L.length):cutD L (ab (n:ah)) ai=L.drop n:=by
 have e1:O5 L.length 0 (ab (n:ah))=n:=by simp only[O5];rw[aw 0x1];lia
 have e2:O5 L.length L.length ai=L.length:=rfl;unfold cutD;rw[e1,e2];exact Cf (by rw[nK];lia)
theorem aOm(L:aa α)(n:af)(h:n<=L.length):cutD L ai (ab (n:ah))=L.take n:=by
 have e1:O5 L.length L.length (ab (n:ah))=n:=by simp only[O5];rw[aw 0x1];lia
 have e2:O5 L.length 0 ai=0:=rfl;unfold cutD;rw[e1,e2,Cj,Ck]
theorem RX(hn:ns.length<=63)(hm3:many<=3)(hM:MOk ns many many.toNat M)(hT:∀t∈T,iD ns many t)(hT2:T.length<=3/\T.map (·.1)=(bw T.length).map (λ(k:af)=>wrd ns (17+(k:ah))))(hMl:M.length<=9)(hTp:∀t∈T,t.2.2.2.length<=2)(hr:aD2 ns M T r)(hk:n<=r.2.2.1.length) :
  ∃(P:aa Pi)(V:aa Ti),bY 3 mD [pgD ks M T R,rlD r,.int (n:af)]=.ok (ntD P V):=by
 have hv:∀x∈r.2.2.1.drop n++r.2.2.1.take n,x∈r.2.2.1:=λx hx=>by
  rcases eS.mp hx with h|h
  ·exact Ct h
  ·exact Cu h
 have hv2:∀x∈r.2.2.1,x∈r.2.2.1.drop n++r.2.2.1.take n:=λx hx=>by
  rw[<-Cy n r.2.2.1] at hx;rcases eS.mp hx with h|h
  ·exact gm _ h
  ·exact vh _ h
 have hl:(r.2.2.1.drop n++r.2.2.1.take n).length<=5:=by
  rw[bj,nK,nB];have:=hr.ln;lia
 obtain⟨P,V,e⟩:=aFe (ks:=ks) (R:=R) (va:=r.2.2.1.drop n++r.2.2.1.take n) (λw a h=>⟨wx hn hm3 hM hT hT2 h,aFf hn hm3 hM hT (λx hx=>hr.nm x (hv x hx)) h⟩) hMl hT2.1 hTp (hr.dk.mono hv2) hr.wl hl (by
  have e:(r.2.2.1.drop n++r.2.2.1.take n).Perm r.2.2.1:=List.perm_append_comm.trans (by rw[Cy]);exact e.nodup_iff.mpr hr.nd)
 refine⟨P,V,(eZ rfl).trans (call_v ?_)⟩;have s1:aNh cV (mQ d_) mR [pgD ks M T R,rlD r,.int (n:af),.tup (r.2.2.1.map D.str)]=.ok (.tup ((r.2.2.1.drop n).map D.str)):=by
  have:=slW r.2.2.1 (ab (n:ah)) ai;rw[aFg _ n hk] at this;exact this
 have s2:aNh cV mR (mQ d_) [pgD ks M T R,rlD r,.int (n:af),.tup (r.2.2.1.map D.str)]=.ok (.tup ((r.2.2.1.take n).map D.str)):=by
  have:=slW r.2.2.1 ai (ab (n:ah));rw[aOm _ n hk] at this;exact this
 have ad:=zH ((r.2.2.1.drop n).map D.str) ((r.2.2.1.take n).map D.str) (by rw[bj] at hl;rw[ax,ax];lia);rw[<-cr] at ad;refine aO (ρ':=[pgD ks M T R,rlD r,.int (n:af),.tup (r.2.2.1.map D.str)]) (eN (i:=3) (aJ (x:=rlD r) (y:=.int 2) rfl rfl rfl) (by rw[D.pure,bR])) ?_;exact lX (d:=ntD P V) (aU (xs:=[pgD ks M T R,.tup (r.2.2.2.map D.str),.tup ((r.2.2.1.drop n++r.2.2.1.take n).map D.str)]) (aD rfl (aD (aJ (x:=rlD r) (y:=.int 3) rfl rfl rfl) (aD (aJ s1 s2 ad) rfl))) e) rfl
noncomputable def cp3(j:ah):aa Ti:=[((j+2,0),(0,j+1)),((j+2,1),(1,j)),((j+2,2),(2,j))]
noncomputable def cpP(m:Str)(js:aa ah):aa Pi:=((1:ah),m)::(2,m)::js.map λj=>(j+2,("copy" : Str))
def cpU(js:aa ah):aa Ti:=((1,0),(0,0))::((2,0),(0,1))::js.flatMap cp3
noncomputable def to(n:af):aa ah:=(bw n).map λ(k:af)=>(1:ah)+(k:ah)
def aOn:FS:=(bK (bZ ag 5 (b2 (bA .add) fD d9) ae) (bK (v_ 2 (bN (aA d8 (aA (bC (.str "copy")) aL)))) (aN0 3 (nJ (aA (bN (aA (bN (aA d8 (aA bJ aL))) (aA (bN (aA bJ (aA (b2 (bA .add) fD bW) aL))) aL))) (aA (bN (aA (bN (aA d8 (aA bW aL))) (aA (bN (aA bW (aA fD aL))) aL))) (aA (bN (aA (bN (aA d8 (aA d9 aL))) (aA (bN (aA d9 (aA fD aL))) aL))) aL)))))))
def cv(m:Str)(n:ah)(P:aa Pi)(U:aa Ti)(x4 x5:D):aa D:=[.str m,.int n,.lst (P.map piD),.lst (U.map tiD),x4,x5]
theorem aOo(h:f ρ=.ok (.lst ys))(h1:ρ.getD i .uD=.lst xs)(hl:xs.length+ys.length<=lim)(hp:D.aW ys=ae):aN0 i f ρ=.ok (.nx (ρ.set i (.lst (xs++ys)))):=by
 unfold aN0;rw[h,Res.aY,h1];dsimp only
 first
  |rw[bi hl,hp];rfl
  | (rw[ao (by rw[bi hl,hp];rfl)])
theorem aOp(j:ah)(hP:P.length<=100)(hU:U.length<=100):aOn (cv m n P U (.int j) x5)=.ok (.nx (cv m n (P++[(j+2,("copy" : Str))]) (U++cp3 j) (.int j) (.int (j+2)))):=by
 have a2:=cU j 2;have a1:=cU j 1;refine aO (ρ':=cv m n P U (.int j) (.int (j+2))) (cD (i:=5) (aJ (x:=.int j) (y:=.int 2) rfl rfl a2)) ?_;have ap:=n_ (i:=2) (ρ:=cv m n P U (.int j) (.int (j+2))) (f:=bN (aA d8 (aA (bC (.str "copy")) aL))) (xs:=P.map piD) (d:=piD (j+2,("copy" : Str))) (bL (xs:=[.int (j+2),.str "copy"]) (aD rfl (aD rfl rfl)) jA) rfl (by rw[ax,cL];lia) rfl;refine aO (ρ':=cv m n (P++[(j+2,("copy" : Str))]) U (.int j) (.int (j+2))) (by unfold cv;rw[cr];exact ap) ?_;have t2:∀(a b c d:ah)(f g h k:FE)(ρ:aa D),f ρ=.ok (.int a)->g ρ=.ok (.int b)->h ρ=.ok (.int c)->k ρ=.ok (.int d)->bN (aA (bN (aA f (aA g aL))) (aA (bN (aA h (aA k aL))) aL)) ρ=.ok (tiD ((a,b),(c,d))):=λa b c d f g h k ρ h1 h2 h3 h4=>bL (xs:=[enD (a,b),enD (c,d)]) (aD (bL (xs:=[.int a,.int b]) (aD h1 (aD h2 rfl)) jA) (aD (bL (xs:=[.int c,.int d]) (aD h3 (aD h4 rfl)) jA) rfl)) jA
 refine(aOo (i:=3) (xs:=U.map tiD) (ys:=(cp3 j).map tiD) ?_ rfl (by rw[ax,ax,cL];show U.length+3<=_;lia) rfl).trans ?_
 ·exact oO (xs:=(cp3 j).map tiD) (aD (t2 (j+2) 0 0 (j+1) _ _ _ _ _ rfl rfl rfl (aJ (x:=.int j) (y:=.int 1) rfl rfl a1)) (aD (t2 (j+2) 1 1 j _ _ _ _ _ rfl rfl rfl rfl) (aD (t2 (j+2) 2 2 j _ _ _ _ _ rfl rfl rfl rfl) rfl))) aKz rfl
 ·unfold cv;rw[cr (f:=tiD)];rfl
theorem aGx:∀(js:aa ah)(P:aa Pi)(U:aa Ti)(x4 x5:D),P.length+js.length<=50->U.length+3*js.length<=90->∃y4 y5:D,tU (tg1 4) aOn (js.map D.int) (cv m n P U x4 x5)=.ok (.nx (cv m n (P++js.map λj=>(j+2,("copy" : Str))) (U++js.flatMap cp3) y4 y5))
 |[],P,U,x4,x5,_,_=>⟨x4,x5,by simp only[iP,Cz,d6];rfl⟩
 |j::js,P,U,x4,x5,h1,h2=>by
  rw[bc] at h1 h2;have s:=aOp (m:=m) (n:=n) (P:=P) (U:=U) (x5:=x5) j 0x1 0x1;obtain⟨y4,y5,i⟩:=aGx js (P++[(j+2,("copy" : Str))]) (U++cp3 j) (.int j) (.int (j+2)) (by rw[bj];show P.length+1+_<=_;lia) (by rw[bj];show U.length+3+_<=_;lia);refine⟨y4,y5,?_⟩;rw[bh,bh,ju];rw[dE,dE] at i;exact cQ (ρ1:=cv m n P U (.int j) x5) rfl s i
theorem RZ(m:Str)(h:n<=3):(cpP m (to n)).Pairwise λa b=>a.1<b.1:=by
 match n,h with
 |0,_=>simp[cpP,to]
 |1,_=>simp[cpP,to]
 |2,_=>simp[cpP,to,ol]
 |3,_=>simp[cpP,to,ol]
theorem JL:∀js:aa ah,(cpU js).length=2+3*js.length
 |[]=>rfl
 |j::js=>by
  have:=JL js;simp only[cpU,bc,ju,bj] at this ⊢;have e:(cp3 j).length=3:=rfl;lia
theorem aGy(n:af):(to n).length=n:=by unfold to;rw[ax,dy]
theorem aRb(h:n<=3):(cpU (to n)).length<64:=by rw[JL,aGy];lia
theorem R0{V:aa Ti}(m:Str)(hn:n<=3)(hV:lG [.lst (((cpU (to n)).map norm).map tiD)]=.ok (.lst (V.map tiD))):bY 2 jW [.str m,.int (n:af)]=.ok (ntD (cpP m (to n)) V):=by
 refine(eZ rfl).trans (call_v ?_);have tl:(to n).length=n:=by unfold to;rw[ax,dy]
 obtain⟨y4,y5,e⟩:=aGx (m:=m) (n:=(n:af)) (to n) [(1,m),(2,m)] [((1,0),(0,0)),((2,0),(0,1))] .uD .uD (by rw[tl];show 2+n<=_;lia) (by rw[tl];show 2+3*n<=_;lia);have a1:=cU (n:af) 1;have rg:=vV (f:=aA bW (aA (b2 (bA .add) eO bW) aL)) (ρ:=cv m (n:af) [(1,m),(2,m)] [((1,0),(0,0)),((2,0),(0,1))] .uD .uD) (a:=1) (b:=(n:af)+1) (aD rfl (aD (aJ (x:=.int (n:af)) (y:=.int 1) rfl rfl a1) rfl)) 0x4 0x4 0x1 0x1;rw[show(((n:af):ah)+1-1).toNat=n by lia] at rg;have ti_:(to n).map D.int=(bw n).map λ(k:af)=>D.int (1+(k:ah)):=by unfold to;rw[cS];rfl
 rw[ti_] at e;refine aO (ρ':=[.str m,.int (n:af),.lst [piD (1,m),piD (2,m)],.uD,.uD,.uD]) (fJ (i:=2) (oO (xs:=[piD (1,m),piD (2,m)]) (aD (bL (xs:=[.int 1,.str m]) (aD rfl (aD rfl rfl)) jA) (aD (bL (xs:=[.int 2,.str m]) (aD rfl (aD rfl rfl)) jA) rfl)) jA rfl) rfl) ?_;refine aO (ρ':=cv m (n:af) [(1,m),(2,m)] [((1,0),(0,0)),((2,0),(0,1))] .uD .uD) (fJ (i:=3) (oO (xs:=[tiD ((1,0),(0,0)),tiD ((2,0),(0,1))]) (aD (bL (xs:=[enD (1,0),enD (0,0)]) (aD (bL (xs:=[.int 1,.int 0]) (aD rfl (aD rfl rfl)) jA) (aD (bL (xs:=[.int 0,.int 0]) (aD rfl (aD rfl rfl)) jA) rfl)) jA) (aD (bL (xs:=[enD (2,0),enD (0,1)]) (aD (bL (xs:=[.int 2,.int 0]) (aD rfl (aD rfl rfl)) jA) (aD (bL (xs:=[.int 0,.int 1]) (aD rfl (aD rfl rfl)) jA) rfl)) jA) rfl)) jA rfl) rfl) ?_;refine aO (nD rg e) ?_;exact lX (d:=ntD (cpP m (to n)) V) (aU (xs:=[.lst ((cpP m (to n)).map piD),.lst ((cpU (to n)).map tiD),.int 0]) (aD rfl (aD rfl (aD rfl rfl))) (uI (by unfold cpP;rw[bc,bc,ax,tl];lia) (RZ m hn) hV (by rw[JL,tl];lia))) rfl
noncomputable def dpP(js:aa ah):aa Pi:=js.map λj=>(j,("drop" : Str))
noncomputable def dpU(js:aa ah):aa Ti:=js.map λj=>((j,0),(0,j-1))
theorem R3(h:n<=3):(dpP (to n)).Pairwise λa b=>a.1<b.1:=by
 match n,h with
 |0,_=>simp[dpP,to]
 |1,_=>simp[dpP,to]
 |2,_=>simp[dpP,to,ol]
 |3,_=>simp[dpP,to,ol]
theorem aRc(h:n<=3):(dpU (to n)).length<64:=by unfold dpU;rw[ax,aGy];lia
theorem R4{V:aa Ti}(hn:n<=3)(hV:lG [.lst (((dpU (to n)).map norm).map tiD)]=.ok (.lst (V.map tiD))):bY 1 jX [.int (n:af)]=.ok (ntD (dpP (to n)) V):=by
 refine(eZ rfl).trans (call_v ?_);have a1:=cU (n:af) 1;have rg:∀x1:D,fX (aA bW (aA (b2 (bA .add) bQ bW) aL)) vD [.int (n:af),x1,.uD]=.ok ((to n).map D.int,ae):=λx1=>by
  have rg:=vV (f:=aA bW (aA (b2 (bA .add) bQ bW) aL)) (ρ:=[.int (n:af),x1,.uD]) (a:=1) (b:=(n:af)+1) (aD rfl (aD (aJ (x:=.int (n:af)) (y:=.int 1) rfl rfl a1) rfl)) 0x4 0x4 0x1 0x1;rw[show(((n:af):ah)+1-1).toNat=n by lia] at rg;rw[rg];unfold to;rw[cS];rfl
 have tl:(to n).length=n:=by unfold to;rw[ax,dy]
 have ll:((to n).map D.int).length<=lim:=by rw[ax,tl,cL];lia
 have f1:iI (jM 3 iV dX (bN (aA cV (aA (bC (.str "drop")) aL))) ag [.int (n:af),.uD,.uD]) [] ((to n).map D.int)=.ok ((dpP (to n)).map piD):=by
  rw[e_ _ D.int (λ_=>ae) (λj=>piD (j,("drop" : Str)))]
  ·rw[jt.mpr (λ_ _=>rfl),dl];unfold dpP;rw[cS];rfl
  ·intro acc j;exact fL (bs:=[.int j]) rfl rfl rfl λ_=>⟨bL (xs:=[.int j,.str "drop"]) (aD rfl (aD rfl rfl)) jA,rfl⟩
 have f2:iI (jM 3 iV dX (bN (aA (bN (aA cV (aA bJ aL))) (aA (bN (aA bJ (aA (b2 (bA .sub) cV bW) aL))) aL))) ag [.int (n:af),.lst ((dpP (to n)).map piD),.uD]) [] ((to n).map D.int)=.ok ((dpU (to n)).map tiD):=by
  rw[e_ _ D.int (λ_=>ae) (λj=>tiD ((j,0),(0,j-1)))]
  ·rw[jt.mpr (λ_ _=>rfl),dl];unfold dpU;rw[cS];rfl
  ·intro acc j;have s1:bA .sub (.int j) (.int 1)=.ok (.int (j-1)):=rfl;exact fL (bs:=[.int j]) rfl rfl rfl λ_=>⟨bL (xs:=[enD (j,0),enD (0,j-1)]) (aD (bL (xs:=[.int j,.int 0]) (aD rfl (aD rfl rfl)) jA) (aD (bL (xs:=[.int 0,.int (j-1)]) (aD rfl (aD (aJ (x:=.int j) (y:=.int 1) rfl rfl s1) rfl)) jA) rfl)) jA,rfl⟩
 refine aO (ρ':=[.int (n:af),.lst ((dpP (to n)).map piD),.uD]) (cD (i:=1) (gD (rg _) ll f1)) ?_;refine aO (ρ':=[.int (n:af),.lst ((dpP (to n)).map piD),.lst ((dpU (to n)).map tiD)]) (cD (i:=2) (gD (rg _) ll f2)) ?_;exact lX (d:=ntD (dpP (to n)) V) (aU (xs:=[.lst ((dpP (to n)).map piD),.lst ((dpU (to n)).map tiD),.int 0]) (aD rfl (aD rfl (aD rfl rfl))) (uI (by unfold dpP;rw[ax,tl];lia) (R3 hn) hV (by unfold dpU;rw[ax,tl];lia))) rfl
noncomputable def psS(T:aa Tk):aa (Str×D):=T.map λt=>(t.1,D.int (1+((t.2.2.2.length:af):ah)))
def stp(M:aa Mk)(T:aa Tk):aa (Str×D):=nR (nR (eU (eU [] (psM M)) (psS T)) "copy" (.int 2)) "drop" (.int 0)
theorem R5(hM:M.length<=9)(hT:T.length<=3):bY 1 p_ [pgD ks M T R]=.ok (.dct (dD D.str (stp M T))):=by
 refine(eZ rfl).trans (call_v ?_);obtain⟨ρ1,⟨y2,y3,y4,y5,y6,h1⟩,e1⟩:=sX (t:=tgN [2,3,4]) (body:=zN 1 d_ (aK dG (aA fD aL))) mkD (λm=>[(m.1,D.int (m.2.2.length:af))]) (λ_=>dw rfl) (λL ρ=>∃x2 x3 x4 x5 x6,ρ=[pgD ks M T R,.dct (dD D.str L),x2,x3,x4,x5,x6]) (λm L ρ z0 hl=>by
  obtain⟨x2,x3,x4,x5,x6,h⟩:=z0;subst h;have p:=tM (i:=1) (ρ:=[pgD ks M T R,.dct (dD D.str L),.str m.1,.str m.2.1,.tup (m.2.2.map D.str),x5,x6]) (f:=h_ 2) (g:=aK dG (aA fD aL)) (kvs:=dD D.str L) (k:=.str m.1) (d:=.int (m.2.2.length:af)) (aU (xs:=[.tup (m.2.2.map D.str)]) (aD rfl rfl) (aJy _)) rfl rfl (by rw[oU];exact wU 0x1) (nH d7 L m.1) rfl;rw[nG d7] at p;exact⟨_,_,rfl,p,_,_,_,_,_,rfl⟩) M [] [pgD ks M T R,.dct [],.uD,.uD,.uD,.uD,.uD] ⟨_,_,_,_,_,rfl⟩ (by show 0+_<=5000;lia)
 rw[u9] at h1;have l1:=mH (psM M) [];rw[psM,ax,eL] at l1;obtain⟨ρ2,⟨z2,z3,z4,z5,z6,h2⟩,e2⟩:=sX (t:=tgN [2,3,5,6]) (body:=zN 1 d_ (b2 (bA .add) bW (aK dG (aA fP aL)))) tkD (λt=>[(t.1,D.int (1+((t.2.2.2.length:af):ah)))]) (λ_=>dw rfl) (λL ρ=>∃x2 x3 x4 x5 x6,ρ=[pgD ks M T R,.dct (dD D.str L),x2,x3,x4,x5,x6]) (λm L ρ z0 hl=>by
  obtain⟨x2,x3,x4,x5,x6,h⟩:=z0;subst h;have a1:=cU 1 (m.2.2.2.length:af);have p:=tM (i:=1) (ρ:=[pgD ks M T R,.dct (dD D.str L),.str m.1,.str m.2.1,x4,.str m.2.2.1,.tup (m.2.2.2.map D.str)]) (f:=h_ 2) (g:=b2 (bA .add) bW (aK dG (aA fP aL))) (kvs:=dD D.str L) (k:=.str m.1) (d:=.int (1+((m.2.2.2.length:af):ah))) (aJ (x:=.int 1) (y:=.int (m.2.2.2.length:af)) rfl (aU (xs:=[.tup (m.2.2.2.map D.str)]) (aD rfl rfl) (aJy _)) a1) rfl rfl (by rw[oU];exact wU 0x1) (nH d7 L m.1) rfl;rw[nG d7] at p;exact⟨_,_,rfl,p,_,_,_,_,_,rfl⟩) T _ ρ1 ⟨_,_,_,_,_,h1⟩ 0x1
 rw[u9] at h2;have l2:=mH (psS T) (eU [] (psM M));rw[psS,psM,ax] at l2;refine aO (ρ':=[pgD ks M T R,.dct [],.uD,.uD,.uD,.uD,.uD]) (fJ (i:=1) (d:=.dct []) rfl rfl) ?_;refine aO (fU (xs:=M.map mkD) (aJ (x:=pgD ks M T R) (y:=.int 1) rfl rfl rfl) (aV jC M) e1) ?_;subst h1;refine aO (fU (xs:=T.map tkD) (aJ (x:=pgD ks M T R) (y:=.int 2) rfl rfl rfl) (aV m7 T) e2) ?_;subst h2;have pc:=tM (i:=1) (ρ:=[pgD ks M T R,.dct (dD D.str (eU (eU [] (psM M)) (psS T))),z2,z3,z4,z5,z6]) (f:=bC (.str "copy")) (g:=bC (.int 2)) (kvs:=dD D.str (eU (eU [] (psM M)) (psS T))) (k:=.str "copy") (d:=.int 2) rfl rfl rfl (by rw[oU];exact wU (by unfold psM psS;lia)) (nH d7 _ _) rfl;rw[nG d7] at pc;have l3:=xM ("copy" : Str) (.int 2) (eU (eU [] (psM M)) (psS T));refine aO pc ?_;have pd:=tM (i:=1) (ρ:=[pgD ks M T R,.dct (dD D.str (nR (eU (eU [] (psM M)) (psS T)) "copy" (.int 2))),z2,z3,z4,z5,z6]) (f:=bC (.str "drop")) (g:=bC (.int 0)) (kvs:=dD D.str (nR (eU (eU [] (psM M)) (psS T)) "copy" (.int 2))) (k:=.str "drop") (d:=.int 0) rfl rfl rfl (by rw[oU];exact wU (by unfold psM psS at l3 ⊢;lia)) (nH d7 _ _) rfl;rw[nG d7] at pd;exact aO pd rfl
def Vc(n:af):aa Ti:=(jV ((cpU (to n)).map norm)).choose
def Vd(n:af):aa Ti:=(jV ((dpU (to n)).map norm)).choose
abbrev Et:=Str×Str×aa Pi×aa Ti
def eD(a:Et):D:=.tup [.str a.1,.str a.2.1,ntD a.2.2.1 a.2.2.2]
theorem zL(a:Et):(eD a).pure=ae:=by
 show(ae&&(ae&&((ntD a.2.2.1 a.2.2.2).pure&&ae)))=ae;rw[aCm];rfl
def eC(m:Mk):Et:=("copy",m.1,cpP m.1 (to m.2.2.length),Vc m.2.2.length)
def eR(m:Mk):Et:=("drop",m.1,dpP (to m.2.2.length),Vd m.2.2.length)
def mk2(m:Mk):aa Et:=[eC m,eR m]
def aOq:FS:=(bK (v_ 2 (bN (aA (bC (.str "copy")) (aA cV (aA (aK (bY 2 jW) (aA cV (aA (aK dG (aA d8 aL)) aL))) aL))))) (v_ 2 (bN (aA (bC (.str "drop")) (aA cV (aA (aK (bY 1 jX) (aA (aK dG (aA d8 aL)) aL)) aL))))))
theorem aOr(m:Mk)(hm:m.2.2.length<=3)(hQ:Q.length<=500):aOq [pg,sd,.lst (Q.map eD),.str m.1,.str m.2.1,.tup (m.2.2.map D.str)]=.ok (.nx [pg,sd,.lst ((Q++mk2 m).map eD),.str m.1,.str m.2.1,.tup (m.2.2.map D.str)]):=by
 have c:=R0 m.1 hm ((jV ((cpU (to m.2.2.length)).map norm)).choose_spec.2 (by rw[ax];exact aRb hm)).1;have d:=R4 hm ((jV ((dpU (to m.2.2.length)).map norm)).choose_spec.2 (by rw[ax];exact aRc hm)).1;have a1:=n_ (i:=2) (ρ:=[pg,sd,.lst (Q.map eD),.str m.1,.str m.2.1,.tup (m.2.2.map D.str)]) (f:=bN (aA (bC (.str "copy")) (aA cV (aA (aK (bY 2 jW) (aA cV (aA (aK dG (aA d8 aL)) aL))) aL)))) (xs:=Q.map eD) (d:=eD (eC m)) (bL (xs:=[.str "copy",.str m.1,ntD (cpP m.1 (to m.2.2.length)) (Vc m.2.2.length)]) (aD rfl (aD rfl (aD (aU (xs:=[.str m.1,.int (m.2.2.length:af)]) (aD rfl (aD (aU (xs:=[.tup (m.2.2.map D.str)]) (aD rfl rfl) (aJy _)) rfl)) c) rfl))) aKz) rfl (by rw[ax,cL];lia) (zL _);refine aO (ρ':=[pg,sd,.lst ((Q++[eC m]).map eD),.str m.1,.str m.2.1,.tup (m.2.2.map D.str)]) (by rw[cr];exact a1) ?_;have a2:=n_ (i:=2) (ρ:=[pg,sd,.lst ((Q++[eC m]).map eD),.str m.1,.str m.2.1,.tup (m.2.2.map D.str)]) (f:=bN (aA (bC (.str "drop")) (aA cV (aA (aK (bY 1 jX) (aA (aK dG (aA d8 aL)) aL)) aL)))) (xs:=(Q++[eC m]).map eD) (d:=eD (eR m)) (bL (xs:=[.str "drop",.str m.1,ntD (dpP (to m.2.2.length)) (Vd m.2.2.length)]) (aD rfl (aD rfl (aD (aU (xs:=[.int (m.2.2.length:af)]) (aD (aU (xs:=[.tup (m.2.2.map D.str)]) (aD rfl rfl) (aJy _)) rfl) d) rfl))) aKz) rfl (by rw[ax,bj,cL];show Q.length+1<_;lia) (zL _);refine Eq.trans a2 ?_;rw[show Q++mk2 m=Q++[eC m]++[eR m] by rw[dE];rfl,cr (l₂:=[eR m])];rfl
theorem aGz:∀(N:aa Mk)(Q:aa Et)(x3 x4 x5:D),(∀m∈N,m.2.2.length<=3)->Q.length+2*N.length<=500->∃y3 y4 y5:D,tU (tgN [3,4,5]) aOq (N.map mkD) [pg,sd,.lst (Q.map eD),x3,x4,x5]=.ok (.nx [pg,sd,.lst ((Q++N.flatMap mk2).map eD),y3,y4,y5])
 |[],Q,x3,x4,x5,_,_=>⟨x3,x4,x5,by rw[Cz,d6];rfl⟩
 |m::N,Q,x3,x4,x5,h,hl=>by
  rw[bc] at hl;have s:=aOr (pg:=pg) (sd:=sd) (Q:=Q) m (h m (bn ..)) 0x1;obtain⟨y3,y4,y5,i⟩:=aGz N (Q++mk2 m) (.str m.1) (.str m.2.1) (.tup (m.2.2.map D.str)) (λq hq=>h q (bz _ hq)) (by rw[bj];show Q.length+2+_<=_;lia);refine⟨y3,y4,y5,?_⟩;rw[ju,<-dE];exact cQ (ρ1:=[pg,sd,.lst (Q.map eD),.str m.1,.str m.2.1,.tup (m.2.2.map D.str)]) rfl s i
theorem aCt(hn:ns.length<=63)(hm3:many<=3)(hM:MOk ns many many.toNat M)(hT:∀t∈T,iD ns many t)(hm:m∈M)(g1:m.1 ≠ "copy")(g2:m.1 ≠ "drop"):bU (stp M T) m.1=ab (.int (m.2.2.length:af)):=by
 have nd:=names_nodup hn hm3 hM;have nt:=N6 hn hm3 hM hT hm;have n1:((psM M).map (·.1)).Nodup:=by unfold psM;rw[cS];exact nd
 have t1:m.1∉(psS T).map (·.1):=by unfold psS;rw[cS];exact nt
 unfold stp;rw[sW,aw (cj g2),sW,aw (cj g1),m8 _ _ _ t1];exact uH _ _ _ _ n1 (bE.mpr ⟨m,hm,rfl⟩)
theorem R6(hn:ns.length<=63)(hm3:many<=3)(hM:MOk ns many many.toNat M)(hT:∀t∈T,iD ns many t)(hT2:T.length<=3/\T.map (·.1)=(bw T.length).map (λ(k:af)=>wrd ns (17+(k:ah))))(hMl:M.length<=9)(hM3:∀m∈M,m.2.2.length<=3)(hMg:∀m∈M,m.1 ≠ "copy"/\m.1 ≠ "drop")(hTp:∀t∈T,t.2.2.2.length<=2)(hRl:R.length<=60)(hR:∀r∈R,aD2 ns M T r) :
  ∃Q:aa Et,Q.length=R.length/\bY 1 sG [pgD ks M T R]=.ok (.lst ((Q++M.flatMap mk2).map eD)):=by
 have cf:∀x1,x1=D.dct (dD D.str (stp M T))->∃Q:aa Et,(∀q∈Q,gx)/\Q.length=(R.map rlD).length/\iI (jM 6 iV dX (bN (aA (b2 getD fP bJ) (aA (b2 getD fP bW) (aA (aK (bY 3 mD) (aA bQ (aA fP (aA (b2 getD eO (b2 getD fP bW)) aL)))) aL)))) ag [pgD ks M T R,x1,.uD,.uD,.uD,.uD]) [] (R.map rlD)=.ok ([]++Q.map eD):=λx1 hx1=>sS _ eD (λ_=>gx) (R.map rlD) [] (λd hd acc=>by
  obtain⟨r,hr,rfl⟩:=bE.mp hd;have ro:=hR r hr;obtain⟨m,hm,e1,e2⟩:=ro.km;obtain⟨P,V,e⟩:=RX (ks:=ks) (R:=R) hn hm3 hM hT hT2 hMl hTp ro e2;have g:Mi.getD x1 (.str r.2.1)=.ok (.int (m.2.2.length:af)):=by
   rw[hx1];show(if keyOk (.str r.2.1) then Res.ofOpt (fB (dD D.str (stp M T)) (.str r.2.1)) else .bad)=_;rw[ao (show keyOk (.str r.2.1)=ae from rfl),uG d7,e1,aCt hn hm3 hM hT hm (hMg m hm).1 (hMg m hm).2];rfl
  subst hx1;refine⟨(r.1,r.2.1,P,V),trivial,fL (b:=ae) (y:=eD (r.1,r.2.1,P,V)) (bs:=[rlD r]) rfl rfl rfl λ_=>⟨bL (xs:=[.str r.1,.str r.2.1,ntD P V]) (aD (aJ (x:=rlD r) (y:=.int 0) rfl rfl rfl) (aD (aJ (x:=rlD r) (y:=.int 1) rfl rfl rfl) (aD (aU (xs:=[pgD ks M T R,rlD r,.int (m.2.2.length:af)]) (aD rfl (aD rfl (aD (aJ (x:=.dct (dD D.str (stp M T))) (y:=.str r.2.1) rfl (aJ (x:=rlD r) (y:=.int 1) rfl rfl rfl) g) rfl))) e) rfl))) aKz,by rw[zL];rfl⟩⟩)
 obtain⟨Q,_,q2,q3⟩:=cf _ rfl;rw[ax] at q2;rw[dl] at q3;obtain⟨y3,y4,y5,i⟩:=aGz (pg:=pgD ks M T R) (sd:=.dct (dD D.str (stp M T))) M Q .uD .uD .uD hM3 0x1;refine⟨Q,q2,(eZ rfl).trans (call_v ?_)⟩;refine aO (ρ':=[pgD ks M T R,.dct (dD D.str (stp M T)),.uD,.uD,.uD,.uD]) (cD (i:=1) (aU (xs:=[pgD ks M T R]) (aD rfl rfl) (R5 hMl hT2.1))) ?_;refine aO (ρ':=[pgD ks M T R,.dct (dD D.str (stp M T)),.lst (Q.map eD),.uD,.uD,.uD]) (fJ (i:=2) (gD (g_ (aJ (x:=pgD ks M T R) (y:=.int 3) rfl rfl rfl)) (by rw[ax,cL];lia) q3) (by show D.aW (Q.map eD)=ae;exact aV zL Q)) ?_;refine aO (fU (xs:=M.map mkD) (aJ (x:=pgD ks M T R) (y:=.int 1) rfl rfl rfl) (aV jC M) i) ?_;rfl
noncomputable def fl(U:aa Ti):aa En:=U.flatMap λt=>[t.1,t.2]
theorem R7(t:Ti)(U:aa Ti):fl (t::U)=t.1::t.2::fl U:=rfl
noncomputable def hks(n:ah)(a:af):aa En:=(bw (a+1)).map λ(k:af)=>(n,(k:ah))
def O8(M:aa Mk)(T:aa Tk)(P:aa Pi):aa En:=P.flatMap λp=>hks p.1 (arS M T p.2)
theorem aKe(h:t.1≠t.2):[(norm t).1,(norm t).2].Perm [t.1,t.2]:=by
 rcases(RW h).2 with e|e<;>rw[e]
 exact Dw ..
theorem V9:∀{U:aa Ti},(fl U).Nodup->(fl (U.map norm)).Perm (fl U)/\∀t∈U.map norm,ltP t.1 t.2
 |[],_=>⟨.refl _,λt h=>by cases h⟩
 |t::U,h=>by
  rw[R7,dj,dj] at h;have hne:t.1≠t.2:=λz=>h.1 (by rw[z];exact bn ..)
  obtain⟨i1,i2⟩:=V9 h.2.2;refine⟨(aKe hne).append i1,λs hs=>?_⟩;rcases bq.mp hs with rfl|hs
  ·exact(RW hne).1
  ·exact i2 s hs
theorem aKf{U V:aa Ti}(h:U.Perm V):(fl U).Perm (fl V):=h.flatMap_right _
def aKg:FS:=(bK (sIf (bOr (oY (bTr (b1 (kI .tuple) d8))) (bOr (bTB (b2 (b_ .ne) (aK dG (aA d8 aL)) d9)) (bOr (oY (bTr (aK (bY 1 dN) (aA (b2 getD d8 bJ) aL)))) (bTB (b2 (b_ (.ord .le)) (b2 getD d8 bJ) fD))))) (gR (bC .non) ae) j6) (bK (sIf (bOr (oY (bTr (b1 (kI .str) (b2 getD d8 bW)))) (bTB (b2 (b_ .notin) (b2 getD d8 bW) eO))) (gR (bC .non) ae) j6) (bK (bZ ag 4 (b2 getD d8 bJ) ag) (bZ ag 3 (b2 (bA .add) cV (eQ 9 (fX (aA (b2 (bA .add) (b2 getD eO (b2 getD d8 bW)) bW) aL) lO) iV dX (bN (aA fD (aA nY aL))) ag)) ae))))
def aKh:FS:=(bK (sIf (bOr (oY (bTr (b1 (kI .tuple) eE))) (bOr (bTB (b2 (b_ .ne) (aK dG (aA eE aL)) d9)) (bOr (oY (bTr (aK (bY 1 iK) (aA (b2 getD eE bJ) aL)))) (oY (bTr (aK (bY 1 iK) (aA (b2 getD eE bW) aL))))))) (gR (bC .non) ae) j6) (bK (sIf (bOr (bTB (b2 (b_ (.ord .ge)) (b2 getD eE bJ) (b2 getD eE bW))) (bOr (bTB (b2 inX (b2 getD eE bJ) fP)) (bTB (b2 inX (b2 getD eE bW) fP)))) (gR (bC .non) ae) j6) (bK (zN 6 (b2 getD eE bJ) (b2 getD eE bW)) (zN 6 (b2 getD eE bW) (b2 getD eE bJ)))))
def aOs:FS:=(sIf (bTB (b2 (b_ .notin) nA fP)) (gR (bC .non) ae) j6)
theorem aCu:wM=bK (sIf (bOr (oY (bTr (b1 (kI .tuple) bQ))) (bTB (b2 (b_ .ne) (aK dG (aA bQ aL)) kE))) (gR (bC .non) ae) j6) (bK (sIf (bOr (oY (bTr (b1 (kI .tuple) (b2 getD bQ bJ)))) (bOr (oY (bTr (b1 (kI .tuple) (b2 getD bQ bW)))) (oY (bTr (aK (bY 1 dN) (aA (b2 getD bQ d9) aL)))))) (gR (bC .non) ae) j6) (bK (bZ ag 3 (eQ 9 (fX (aA d_ aL) lO) iV dX (bN (aA bJ (aA nY aL))) ag) ae) (bK (bZ ag 4 bJ ae) (bK (tV (bT (b2 getD bQ bJ) ag) (tg1 5) aKg) (bK (bZ ae 6 (bC (.dct [])) ae) (bK (tV (bT (b2 getD bQ bW) ag) (tg1 7) aKh) (bK (sIf (bOr (bTB (b2 (b_ .ne) (aK aKy (aA fP aL)) (aK dG (aA cV aL)))) (bTB (b2 (b_ .ne) (aK aA7 (aA (b2 getD bQ bW) aL)) (aK uA (aA (b2 getD bQ bW) aL))))) (gR (bC .non) ae) j6) (bK (QC 3 (tg1 8) aOs) (QB 6))))))))):=rfl
theorem aFh(i:ah):bY 1 dN [.int i]=.ok (.bl ae):=rfl
theorem aH0(e:En):bY 1 iK [enD e]=.ok (.bl ae):=rfl
theorem ne_int(a b:ah):b_ .ne (.int a) (.int b)=.ok (.bl (!(a==b))):=rfl
theorem aSe(a b:ah):b_ (.ord .le) (.int a) (.int b)=.ok (.bl (decide (a<=b))):=yS rfl rfl rfl
theorem DP(h:f ρ=.ok b):oY f ρ=.ok (!b):=by
 unfold oY;rw[h];rfl
theorem aOt{E:aa En}{p:Pi}{a:af}(h1:last<p.1)(hS:bU (stk M T) p.2=ab (.int (a:af)))(ha:a<=3)(hE:E.length<=5000):aKg [nt,.dct (dD D.str (stk M T)),.int (bo:af),.lst (E.map enD),.int last,piD p,.uD,.uD,.uD]=.ok (.nx [nt,.dct (dD D.str (stk M T)),.int (bo:af),.lst ((E++hks p.1 a).map enD),.int p.1,piD p,.uD,.uD,.uD]):=by
 have g0:b2 getD d8 bJ [nt,.dct (dD D.str (stk M T)),.int (bo:af),.lst (E.map enD),.int last,piD p,.uD,.uD,.uD]=.ok (.int p.1):=aJ rfl rfl rfl;have g1:∀x4:D,b2 getD d8 bW [nt,.dct (dD D.str (stk M T)),.int (bo:af),.lst (E.map enD),x4,piD p,.uD,.uD,.uD]=.ok (.str p.2):=λx4=>aJ (y:=.int 1) rfl rfl rfl
 refine aO (nQ (uJ rfl (uJ rfl (uJ (DP (RQ (aU (xs:=[.int p.1]) (aD g0 rfl) (aFh _)))) (dR (aJ (x:=.int p.1) (y:=.int last) g0 rfl ((aSe _ _).trans (by rw[cK 0x1]))))))) rfl) ?_;have ns:=N7 d7 (stk M T) p.2;rw[hS] at ns;have s1:b1 (kI .str) (b2 getD d8 bW) [nt,.dct (dD D.str (stk M T)),.int (bo:af),.lst (E.map enD),.int last,piD p,.uD,.uD,.uD]=.ok (.bl ae):=by
  unfold b1;rw[g1];rfl
 refine aO (nQ (uJ (DP (RQ s1)) (dR (aJ (x:=.str p.2) (y:=.dct (dD D.str (stk M T))) (g1 _) rfl ns))) rfl) ?_;refine aO (ρ':=[nt,.dct (dD D.str (stk M T)),.int (bo:af),.lst (E.map enD),.int p.1,piD p,.uD,.uD,.uD]) (eN (i:=4) g0 rfl) ?_;have a1:=cU (a:af) 1;have cf:iI (jM 9 iV dX (bN (aA fD (aA nY aL))) ag [nt,.dct (dD D.str (stk M T)),.int (bo:af),.lst (E.map enD),.int p.1,piD p,.uD,.uD,.uD]) [] ((bw (((a:af):ah)+1).toNat).map λ(k:af)=>D.int (0+(k:ah)))=.ok ((hks p.1 a).map enD):=by
  rw[e_ _ (λ(k:af)=>D.int (0+(k:ah))) (λ_=>ae) (λ(k:af)=>enD (p.1,0+(k:ah)))]
  ·rw[jt.mpr (λ_ _=>rfl),dl,show(((a:af):ah)+1).toNat=a+1 by lia,hks,cS]
   congr 1
   refine xI λk _=>?_
   show enD (p.1,0+(k:ah))=enD (p.1,(k:ah));rw[zk]
  ·intro acc k;exact fL (n:=9) (t:=iV) (c:=dX) (k:=ag) (acc:=acc) (x:=.int (0+(k:ah))) (ρ:=[nt,.dct (dD D.str (stk M T)),.int (bo:af),.lst (E.map enD),.int p.1,piD p,.uD,.uD,.uD]) (b:=ae) (bs:=[.int (0+(k:ah))]) (y:=enD (p.1,0+(k:ah))) rfl rfl rfl λ_=>⟨bL (xs:=[.int p.1,.int (0+(k:ah))]) (aD rfl (aD rfl rfl)) jA,rfl⟩
 have hl:(hks p.1 a).length=a+1:=by simp[hks]
 have ad:=oE (E.map enD) ((hks p.1 a).map enD) (by rw[ax,ax,hl,cL];lia) (aV lK _) (aV lK _);rw[<-cr] at ad;exact cD (i:=3) (aJ (x:=.lst (E.map enD)) (y:=.lst ((hks p.1 a).map enD)) rfl (gD (wC (n:=(a:af)+1) (aD (aJ (x:=.int (a:af)) (y:=.int 1) (aJ (x:=.dct (dD D.str (stk M T))) (y:=.str p.2) rfl (g1 _) (lF d7 hS)) rfl a1) rfl) 0x1 0x1) (by rw[ax,dy,cL];lia) cf) ad)
theorem aH1:∀(P:aa Pi)(E:aa En)(last:ah)(x5:D),P.Pairwise (λa b=>a.1<b.1)->(∀p∈P,last<p.1)->(∀p∈P,bU (stk M T) p.2=ab (.int (arS M T p.2:af))/\arS M T p.2<=3)->E.length+4*P.length<=5000->
  ∃(y4 y5:D),tU (tg1 5) aKg (P.map piD) [nt,.dct (dD D.str (stk M T)),.int (bo:af),.lst (E.map enD),.int last,x5,.uD,.uD,.uD]=.ok (.nx [nt,.dct (dD D.str (stk M T)),.int (bo:af),.lst ((E++O8 M T P).map enD),y4,y5,.uD,.uD,.uD])
 |[],E,last,x5,_,_,_,_=>⟨.int last,x5,by rw[show O8 M T []=[] from rfl,d6];rfl⟩
 |p::P,E,last,x5,h1,h2,h3,h4=>by
  rw[List.pairwise_cons] at h1;rw[bc] at h4;obtain⟨s1,s2⟩:=h3 p (bn ..);have st:=aOt (bo:=bo) (nt:=nt) (E:=E) (h2 p (bn ..)) s1 s2 0x1;have hl:(hks p.1 (arS M T p.2)).length<=4:=by simp[hks];lia
  obtain⟨y4,y5,ih⟩:=aH1 (nt:=nt) P (E++hks p.1 (arS M T p.2)) p.1 (piD p) h1.2 h1.1 (λq hq=>h3 q (bz _ hq)) (by rw[bj];lia);refine⟨y4,y5,?_⟩;rw[bh];refine cQ (ρ1:=[nt,.dct (dD D.str (stk M T)),.int (bo:af),.lst (E.map enD),.int last,piD p,.uD,.uD,.uD]) rfl st ?_;rw[ih,dE];rfl
def mtl(V:aa Ti):aa (En×D):=V.flatMap λt=>[(t.1,enD t.2),(t.2,enD t.1)]
theorem xP:∀V:aa Ti,(mtl V).map (·.1)=fl V
 |[]=>rfl
 |t::V=>by
  show t.1::t.2::(mtl V).map (·.1)=_;rw[xP V,R7]
theorem lZ[cq α](a:α):∀L:aa (α×D),a∉L.map (·.1)->bU L a=ai
 |[],_=>rfl
 |p::L,h=>by
  rw[bh,bq,gu] at h;rw[bU,aw (λz=>h.1 z.symm),lZ a L h.2]
theorem oW[cq α](a:α)(v:D):∀L:aa (α×D),(L.map (·.1)).Nodup->(a,v)∈L->bU L a=ab v
 |[],_,h=>by cases h
 |p::L,hn,h=>by
  rw[bh,dj] at hn;rw[bU];rcases bq.mp h with rfl|h
  ·rw[ao rfl]
  ·rw[aw (λz=>hn.1 (by rw[z];exact bE.mpr ⟨_,h,rfl⟩))];exact oW a v L hn.2 h
theorem JM[cq α](a:α)(v:D):∀L:aa (α×D),a∉L.map (·.1)->nR L a v=L++[(a,v)]
 |[],_=>rfl
 |p::L,h=>by
  rw[bh,bq,gu] at h;rw[nR,aw (λz=>h.1 z.symm),JM a v L h.2];rfl
theorem aOu(h:ltP t.1 t.2)(h1:t.1∉L.map (·.1))(h2:t.2∉L.map (·.1))(hne:t.1≠t.2)(hl:L.length<=5000):aKh [x0,x1,x2,x3,x4,x5,.dct (dD enD L),tiD t,.uD]=.ok (.nx [x0,x1,x2,x3,x4,x5,.dct (dD enD (L++[(t.1,enD t.2),(t.2,enD t.1)])),tiD t,.uD]):=by
 have g0:∀x6:D,b2 getD eE bJ [x0,x1,x2,x3,x4,x5,x6,tiD t,.uD]=.ok (enD t.1):=λx6=>aJ rfl rfl rfl
 have g1:∀x6:D,b2 getD eE bW [x0,x1,x2,x3,x4,x5,x6,tiD t,.uD]=.ok (enD t.2):=λx6=>aJ (y:=.int 1) rfl rfl rfl
 have n1:inX (enD t.1) (.dct (dD enD L))=.ok (.bl ag):=(V0 j_ L t.1).trans (by rw[lZ _ _ h1];rfl);have n2:inX (enD t.2) (.dct (dD enD L))=.ok (.bl ag):=(V0 j_ L t.2).trans (by rw[lZ _ _ h2];rfl);have ge:b_ (.ord .ge) (enD t.1) (enD t.2)=.ok (.bl ag):=(yS rfl rfl (aOd _ _)).trans (by rw[bi h];rfl);refine aO (nQ (uJ rfl (uJ rfl (uJ (DP (RQ (aU (xs:=[enD t.1]) (aD (g0 _) rfl) (aH0 _)))) (DP (RQ (aU (xs:=[enD t.2]) (aD (g1 _) rfl) (aH0 _))))))) rfl) ?_;refine aO (nQ (uJ (dR (aJ (g0 _) (g1 _) ge)) (uJ (dR (aJ (y:=.dct (dD enD L)) (g0 _) rfl n1)) (dR (aJ (y:=.dct (dD enD L)) (g1 _) rfl n2)))) rfl) ?_;have p1:=tM (i:=6) (ρ:=[x0,x1,x2,x3,x4,x5,.dct (dD enD L),tiD t,.uD]) (f:=b2 getD eE bJ) (g:=b2 getD eE bW) (kvs:=dD enD L) (k:=enD t.1) (d:=enD t.2) (g1 _) (g0 _) rfl (by rw[oU,cL];lia) (nH j_ L t.1) (lK _);rw[nG j_,JM _ _ _ h1] at p1;have k2:t.2∉(L++[(t.1,enD t.2)]).map (·.1):=by
  rw[cr,eS,gu];exact⟨h2,λz=>hne (gq.mp z).symm⟩
 have p2:=tM (i:=6) (ρ:=[x0,x1,x2,x3,x4,x5,.dct (dD enD (L++[(t.1,enD t.2)])),tiD t,.uD]) (f:=b2 getD eE bW) (g:=b2 getD eE bJ) (kvs:=dD enD (L++[(t.1,enD t.2)])) (k:=enD t.2) (d:=enD t.1) (g0 _) (g1 _) rfl (by rw[oU,cL,bj];show L.length+1<_;lia) (nH j_ _ t.2) (lK _);rw[nG j_,JM _ _ _ k2,dE] at p2;exact aO p1 p2
theorem aH2:∀(V:aa Ti)(L:aa (En×D))(x7:D),(∀t∈V,ltP t.1 t.2)->(L.map (·.1)++fl V).Nodup->L.length+2*V.length<=5000->
  ∃y7:D,tU (tg1 7) aKh (V.map tiD) [x0,x1,x2,x3,x4,x5,.dct (dD enD L),x7,.uD]=.ok (.nx [x0,x1,x2,x3,x4,x5,.dct (dD enD (L++mtl V)),y7,.uD])
 |[],L,x7,_,_,_=>⟨x7,by rw[show mtl []=[] from rfl,d6];rfl⟩
 |t::V,L,x7,h1,h2,h3=>by
  rw[bc] at h3;rw[R7] at h2;have nd:=mS.mp h2;have nd2:=nd.2.1;rw[dj,dj] at nd2;have a1:t.1∉L.map (·.1):=λz=>nd.2.2 _ z _ (bn ..) rfl
  have a2:t.2∉L.map (·.1):=λz=>nd.2.2 _ z _ (bz _ (bn ..)) rfl
  have a3:t.1≠t.2:=λz=>nd2.1 (by rw[z];exact bn ..)
  have st:=aOu (x0:=x0) (x1:=x1) (x2:=x2) (x3:=x3) (x4:=x4) (x5:=x5) (h1 t (bn ..)) a1 a2 a3 0x1;obtain⟨y7,ih⟩:=aH2 (x0:=x0) (x1:=x1) (x2:=x2) (x3:=x3) (x4:=x4) (x5:=x5) V (L++[(t.1,enD t.2),(t.2,enD t.1)]) (tiD t) (λs hs=>h1 s (bz _ hs)) (by rw[cr,dE];exact h2) (by rw[bj];show L.length+2+_<=_;lia);refine⟨y7,?_⟩;rw[bh];refine cQ (ρ1:=[x0,x1,x2,x3,x4,x5,.dct (dD enD L),tiD t,.uD]) rfl st ?_;rw[ih,dE];rfl
theorem aH3:∀(E:aa En)(x8:D),(∀e∈E,e∈L.map (·.1))->∃y8:D,tU (tg1 8) aOs (E.map enD) [x0,x1,x2,x3,x4,x5,.dct (dD enD L),x7,x8]=.ok (.nx [x0,x1,x2,x3,x4,x5,.dct (dD enD L),x7,y8])
 |[],x8,_=>⟨x8,rfl⟩
 |e::E,x8,h=>by
  obtain⟨y8,ih⟩:=aH3 E (enD e) (λd hd=>h d (bz _ hd));have hs:(bU L e).isSome=ae:=by
   have:∀L:aa (En×D),e∈L.map (·.1)->(bU L e).isSome=ae:=by
    intro L;induction L with
    |nil=>intro h;cases h
    |cons p L ih=>
     intro h;rw[bU];split
     ·rfl
     ·rename_i z;rw[bh] at h;exact ih ((bq.mp h).resolve_left λq=>z q.symm)
   exact this L (h e (bn ..))
  refine⟨y8,?_⟩;rw[bh];exact cQ rfl (nQ (dR (aJ rfl rfl ((N7 j_ L e).trans (by rw[hs];rfl)))) rfl) ih
theorem aKi(L:aa (En×D)):aKy [.dct (dD enD L)]=.ok (.int (L.length:af)):=by
 have:((dD enD L).all λp=>isTup p.1)=ae:=e9.mpr λp hp=>by
  obtain⟨q,_,rfl⟩:=bE.mp hp;rfl
 show(if ((dD enD L).all λp=>isTup p.1)=ae then Res.ok (D.int ((dD enD L).length:af)) else .bad)=_;rw[this,ao rfl,oU]
theorem aKj(V:aa Ti):b_ .ne (.lst (V.map tiD)) (.lst (V.map tiD))=.ok (.bl ag):=by
 have q:∀L:aa Ti,D.fO 11 (L.map tiD)=ae:=by
  intro L;induction L with
  |nil=>rfl
  |cons x L ih=>
   rw[bh,D.fO,ih];rfl
 have e:∀L:aa Ti,wX (L.map tiD) (L.map tiD)=ae:=by
  intro L;induction L with
  |nil=>rfl
  |cons x L ih=>
   show((eqD (enD x.1) (enD x.1)&&(eqD (enD x.2) (enD x.2)&&ae))&&wX (L.map tiD) (L.map tiD))=ae;rw[ih,j_.eq,j_.eq,bi rfl,bi rfl];rfl
 show(if (D.lst (V.map tiD)).gW a_&&(D.lst (V.map tiD)).gW a_ then Res.ok (D.bl (!wX (V.map tiD) (V.map tiD))) else .bad)=_;rw[show(D.lst (V.map tiD)).gW a_=ae from q V,e];rfl
noncomputable def rim(bo:af):aa En:=(bw bo).map λ(k:af)=>((0:ah),(0:ah)+(k:ah))
theorem V_{V:aa Ti}(hb:bo<=100)(h1:P.Pairwise (λa b=>a.1<b.1))(h2:∀p∈P,(0:ah)<p.1)(h3:∀p∈P,bU (stk M T) p.2=ab (.int (arS M T p.2:af))/\arS M T p.2<=3)(h4:∀t∈V,ltP t.1 t.2)(h5:(fl V).Perm (rim bo++O8 M T P))(h6:(fl V).Nodup)(h7:uA [.tup (V.map tiD)]=.ok (.lst (V.map tiD)))(hP:P.length<=1000)(hV:V.length<=1000) :
  bY 3 eV [ntD P V,.dct (dD D.str (stk M T)),.int (bo:af)]=.ok (.dct (dD enD (mtl V))):=by
 refine(eZ rfl).trans (call_v ?_);rw[aCu];refine aO (nQ (uJ rfl rfl) rfl) ?_;refine aO (nQ (uJ rfl (uJ rfl rfl)) rfl) ?_;have cf:iI (jM 9 iV dX (bN (aA bJ (aA nY aL))) ag [ntD P V,.dct (dD D.str (stk M T)),.int (bo:af),.uD,.uD,.uD,.uD,.uD,.uD]) [] ((bw bo).map λ(k:af)=>D.int (0+(k:ah)))=.ok ((rim bo).map enD):=by
  rw[e_ _ (λ(k:af)=>D.int (0+(k:ah))) (λ_=>ae) (λ(k:af)=>enD (0,0+(k:ah)))]
  ·rw[jt.mpr (λ_ _=>rfl),dl];unfold rim;rw[cS];rfl
  ·intro acc k;exact fL (bs:=[.int (0+(k:ah))]) rfl rfl rfl λ_=>⟨bL (xs:=[.int 0,.int (0+(k:ah))]) (aD rfl (aD rfl rfl)) jA,rfl⟩
 have rg:=wC (f:=aA d_ aL) (ρ:=[ntD P V,.dct (dD D.str (stk M T)),.int (bo:af),.uD,.uD,.uD,.uD,.uD,.uD]) (n:=(bo:af)) (aD rfl rfl) 0x1 0x1;rw[om] at rg;have rl:(rim bo).length=bo:=by unfold rim;rw[ax,dy]
 refine aO (cD (i:=3) (gD rg (by rw[ax,dy,cL];lia) cf)) ?_;refine aO (cD rfl) ?_;obtain⟨y4,y5,e1⟩:=aH1 (bo:=bo) P (rim bo) 0 .uD h1 h2 h3 (by rw[rl];lia);refine aO (fU (aJ rfl rfl rfl) (aV vX P) e1) ?_;refine aO (fJ rfl rfl) ?_;obtain⟨y7,e2⟩:=aH2 V [] .uD h4 h6 (by show 0+_<=_;lia);rw[dl] at e2;refine aO (fU (aJ (y:=.int 1) rfl rfl rfl) (aV m9 V) e2) ?_;have hlen:(mtl V).length=(rim bo++O8 M T P).length:=by
  have a:=cz lP (xP V);rw[ax] at a;rw[a,h5.length_eq]
 have c1:bTB (b2 (b_ .ne) (aK aKy (aA fP aL)) (aK dG (aA cV aL))) [ntD P V,.dct (dD D.str (stk M T)),.int (bo:af),.lst ((rim bo++O8 M T P).map enD),y4,y5,.dct (dD enD (mtl V)),y7,.uD]=.ok ag:=dR (aJ (x:=.int ((mtl V).length:af)) (y:=.int ((mtl V).length:af)) (aU (xs:=[.dct (dD enD (mtl V))]) (aD rfl rfl) (aKi _)) (aU (xs:=[.lst ((rim bo++O8 M T P).map enD)]) (aD rfl rfl) (by rw[jG,ax,hlen])) ((ne_int _ _).trans (by rw[eo];rfl)));have c2:bTB (b2 (b_ .ne) (aK aA7 (aA (b2 getD bQ bW) aL)) (aK uA (aA (b2 getD bQ bW) aL))) [ntD P V,.dct (dD D.str (stk M T)),.int (bo:af),.lst ((rim bo++O8 M T P).map enD),y4,y5,.dct (dD enD (mtl V)),y7,.uD]=.ok ag:=dR (aJ (x:=.lst (V.map tiD)) (y:=.lst (V.map tiD)) (aU (xs:=[.tup (V.map tiD)]) (aD (aJ (x:=ntD P V) (y:=.int 1) rfl rfl rfl) rfl) (by show(if D.aW (V.map tiD) then Res.ok (D.lst (V.map tiD)) else .bad)=_;rw[aV m9];rfl)) (aU (xs:=[.tup (V.map tiD)]) (aD (aJ (x:=ntD P V) (y:=.int 1) rfl rfl rfl) rfl) h7) (aKj V));refine aO (nQ (uJ c1 c2) rfl) ?_;obtain⟨y8,e3⟩:=aH3 (x0:=ntD P V) (x1:=.dct (dD D.str (stk M T))) (x2:=.int (bo:af)) (x3:=.lst ((rim bo++O8 M T P).map enD)) (x4:=y4) (x5:=y5) (x7:=y7) (L:=mtl V) (rim bo++O8 M T P) .uD (λe he=>by rw[xP];exact h5.mem_iff.mpr he);refine aO (aB3 (i:=3) (d:=.lst ((rim bo++O8 M T P).map enD)) rfl rfl e3) ?_;rfl
theorem aCv(x:Str)(h1:x∉M.map (·.1))(h2:x∉T.map (·.1))(hx:bU [(("copy" : Str),D.int 2),("drop",.int 0)] x=ab (.int (a:af))):arS M T x=a/\bU (stk M T) x=ab (.int (a:af)):=by
 have e:bU (stk M T) x=ab (.int (a:af)):=by
  unfold stk;rw[m8 _ _ _ (by unfold psT;rw[cS];exact h2),m8 _ _ _ (by unfold psM;rw[cS];exact h1)];exact hx
 refine⟨?_,e⟩;unfold arS;rw[e];show((a:af):ah).toNat=a;lia
theorem aKk(hm:arS M T m=n)(hc:arS M T "copy"=2)(h:n<=3):(fl (cpU (to n))).Perm (rim (n+2)++O8 M T (cpP m (to n))):=by
 have e:O8 M T (cpP m (to n))=hks 1 n++(hks 2 n++(to n).flatMap λj=>hks (j+2) 2):=by
  unfold O8 cpP;rw[ju,ju,hm,CA];simp only[hc]
 rw[e]
 match n,h with
 |0,_=>decide
 |1,_=>decide
 |2,_=>decide
 |3,_=>decide
theorem aKl(hc:arS M T "drop"=0)(h:n<=3):(fl (dpU (to n))).Perm (rim n++O8 M T (dpP (to n))):=by
 have e:O8 M T (dpP (to n))=(to n).flatMap λj=>hks j 0:=by
  unfold O8 dpP;rw[CA];simp only[hc]
 rw[e]
 match n,h with
 |0,_=>decide
 |1,_=>decide
 |2,_=>decide
 |3,_=>decide
theorem WD(h:n<=3):(fl (cpU (to n))).Nodup:=by
 match n,h with
 |0,_=>decide
 |1,_=>decide
 |2,_=>decide
 |3,_=>decide
theorem WF(h:n<=3):(fl (dpU (to n))).Nodup:=by
 match n,h with
 |0,_=>decide
 |1,_=>decide
 |2,_=>decide
 |3,_=>decide
theorem WK{U V:aa Ti}(hV:V.Perm (U.map norm))(nd:(fl U).Nodup):(fl V).Perm (fl U)/\(fl V).Nodup/\(∀t∈V,ltP t.1 t.2)/\∀t∈U,bU (mtl V) t.1=ab (enD t.2)/\bU (mtl V) t.2=ab (enD t.1):=by
 obtain⟨f1,f2⟩:=V9 nd;have p:(fl V).Perm (fl U):=(aKf hV).trans f1;have ndV:(fl V).Nodup:=p.nodup_iff.mpr nd;refine⟨p,ndV,λt ht=>f2 t (hV.mem_iff.mp ht),λt ht=>?_⟩;have hk:((mtl V).map (·.1)).Nodup:=by rw[xP];exact ndV
 have hn:norm t∈V:=hV.mem_iff.mpr (bE.mpr ⟨t,ht,rfl⟩);have hm:∀q∈[((norm t).1,enD (norm t).2),((norm t).2,enD (norm t).1)],q∈mtl V:=λq hq=>CB.mpr ⟨norm t,hn,hq⟩
 have hne:t.1≠t.2:=λz=>by
  obtain⟨A,B,e⟩:=List.append_of_mem ht;rw[e] at nd;unfold fl at nd;rw[List.flatMap_append,ju] at nd;have:=(mS.mp nd).2.1;have:=(mS.mp this).1;rw[z] at this;simp at this
 obtain⟨_,e|e⟩:=RW hne
 ·rw[e] at hm;exact⟨oW _ _ _ hk (hm _ 0x2),oW _ _ _ hk (hm _ 0x2)⟩
 ·rw[e] at hm;exact⟨oW _ _ _ hk (hm _ 0x2),oW _ _ _ hk (hm _ 0x2)⟩
theorem aFi(hm:arS M T m=n)(hm2:bU (stk M T) m=ab (.int (n:af)))(hc:arS M T "copy"=2)(hc2:bU (stk M T) "copy"=ab (.int (2:af)))(h:n<=3) :
  bY 3 eV [ntD (cpP m (to n)) (Vc n),.dct (dD D.str (stk M T)),.int ((n+2:af):ah)]=.ok (.dct (dD enD (mtl (Vc n)))):=by
 have s:=(jV ((cpU (to n)).map norm)).choose_spec;obtain⟨q1,q2,q3,q4⟩:=WK (V:=Vc n) s.1 (WD h);have tl:(to n).length=n:=by unfold to;rw[ax,dy]
 have pc:∀p∈cpP m (to n),p.2=m\/p.2="copy":=λp hp=>by
  unfold cpP at hp;rcases bq.mp hp with rfl|hp
  ·exact .inl rfl
  ·rcases bq.mp hp with rfl|hp
   ·exact .inl rfl
   ·obtain⟨j,_,rfl⟩:=bE.mp hp;exact .inr rfl
 refine V_ (bo:=n+2) 0x1 (RZ m h) (λp hp=>?_) (λp hp=>?_) q3 (q1.trans (aKk hm hc h)) q2 (s.2 (by rw[ax];exact aRb h)).2 ?_ ?_
 ·unfold cpP at hp;rcases bq.mp hp with rfl|hp
  ·show(0:ah)<1;decide
  ·rcases bq.mp hp with rfl|hp
   ·show(0:ah)<2;decide
   ·obtain⟨j,hj,rfl⟩:=bE.mp hp;unfold to at hj;obtain⟨k,_,rfl⟩:=bE.mp hj;show(0:ah)<1+(k:ah)+2;lia
 ·rcases pc p hp with e|e
  ·rw[e,hm];exact⟨hm2,h⟩
  ·rw[e,hc];exact⟨hc2,by lia⟩
 ·unfold cpP;rw[bc,bc,ax,tl];lia
 ·have e:(Vc n).length=((cpU (to n)).map norm).length:=s.1.length_eq;rw[e,ax,JL,tl];lia
theorem aFj(hc:arS M T "drop"=0)(hc2:bU (stk M T) "drop"=ab (.int (0:af)))(h:n<=3) :
  bY 3 eV [ntD (dpP (to n)) (Vd n),.dct (dD D.str (stk M T)),.int ((n:af):ah)]=.ok (.dct (dD enD (mtl (Vd n)))):=by
 have s:=(jV ((dpU (to n)).map norm)).choose_spec;obtain⟨q1,q2,q3,q4⟩:=WK (V:=Vd n) s.1 (WF h);have tl:(to n).length=n:=by unfold to;rw[ax,dy]
 refine V_ (bo:=n) 0x1 (R3 h) (λp hp=>?_) (λp hp=>?_) q3 (q1.trans (aKl hc h)) q2 (s.2 (by rw[ax];exact aRc h)).2 ?_ ?_
 ·unfold dpP at hp;obtain⟨j,hj,rfl⟩:=bE.mp hp;unfold to at hj;obtain⟨k,_,rfl⟩:=bE.mp hj;show(0:ah)<1+(k:ah);lia
 ·unfold dpP at hp;obtain⟨j,hj,rfl⟩:=bE.mp hp;show bU (stk M T) "drop"=ab (.int (arS M T "drop" : af))/\arS M T "drop"<=3;rw[hc];exact⟨hc2,by lia⟩
 ·unfold dpP;rw[ax,tl];lia
 ·have e:(Vd n).length=((dpU (to n)).map norm).length:=s.1.length_eq;rw[e,ax];unfold dpU;rw[ax,tl];lia
def nms(P:aa Pi):aa (ah×D):=eU [] (P.map λp=>(p.1,D.str p.2))
theorem OJ(P:aa Pi)(hP:P.length<=1000):yW (.tup (P.map piD))=.ok (.dct (dD D.int (nms P))):=by
 have e:oG (P.map piD)=ab (dD D.int (P.map λp=>(p.1,D.str p.2))):=JH (λp:Pi=>(p.1,D.str p.2)) D.int (λ_=>rfl) (λ_=>rfl) P;show(match oG (P.map piD) with|some ps=>(if decide ((P.map piD).length<=1000) then Res.ok (D.dct (iY [] ps)) else .bad)|none=>.bad)=_;rw[e];show(if decide ((P.map piD).length<=1000) then Res.ok (D.dct (iY [] (dD D.int (P.map λp=>(p.1,D.str p.2))))) else .bad)=_;rw[ax,bi hP,ao rfl];exact cz (λx=>Res.ok (D.dct x)) (xN N5 _ [])
theorem WL(P:aa Pi)(h:P.Pairwise λa b=>a.1<b.1)(hp:p∈P):bU (nms P) p.1=ab (.str p.2):=by
 refine uH _ _ _ _ ?_ (bE.mpr ⟨p,hp,rfl⟩);rw[cS];unfold u7;rw[mr];exact h.imp λ{a b} h z=>by
  have z:a.1=b.1:=z;lia
theorem aFk(a:Str):b_ .ne (.str a) (.str a)=.ok (.bl ag):=by
 show Res.ok (D.bl (!(a==a)))=_;rw[eo];rfl
theorem aOv(a:En):b_ .ne (enD a) (enD a)=.ok (.bl ag):=by
 show Res.ok (D.bl (!((a.1==a.1)&&((a.2==a.2)&&ae))))=_;rw[eo,eo];rfl
theorem aOw(h:a≠b):b_ .eq (.int a) (.int b)=.ok (.bl ag):=(eq_int _ _).trans (by rw[fF.mpr h])
def cb:FS:=(bK (bZ ag 9 (b2 getD fD (bN (aA bJ (aA (b2 (bA .add) bW nA) aL)))) ag) (bK (sIf (bOr (bTB (b2 (b_ .eq) (b2 getD nY bJ) bJ)) (bOr (bTB (b2 (b_ .ne) (b2 getD nY bW) bJ)) (bTB (b2 (b_ .ne) (b2 getD d8 (b2 getD nY bJ)) (bC (.str "copy")))))) (gR (bC (.bl ag)) ae) j6) (sIf (bOr (bTB (b2 (b_ .ne) (b2 getD fD (bN (aA (b2 getD nY bJ) (aA bW aL)))) (bN (aA (b2 getD fP bJ) (aA nA aL))))) (bTB (b2 (b_ .ne) (b2 getD fD (bN (aA (b2 getD nY bJ) (aA d9 aL)))) (bN (aA (b2 getD eE bJ) (aA nA aL)))))) (gR (bC (.bl ag)) ae) j6)))
def lc(nt m sk n:D)(L:aa (En×D))(N:aa (ah×D))(x8 x9:D):aa D:=[nt,m,sk,n,.dct (dD enD L),.dct (dD D.int N),enD (1,0),enD (2,0),x8,x9]
theorem aH4(h:f ρ=.ok (.int a))(h2:g ρ=.ok (.int b)):bN (aA f (aA g aL)) ρ=.ok (enD (a,b)):=bL (xs:=[.int a,.int b]) (aD h (aD h2 rfl)) jA
theorem aKm{j:ah}(h0:0<j)(h1:bU L (0,1+j)=ab (enD (j+2,0)))(h2:bU L (j+2,1)=ab (enD (1,j)))(h3:bU L (j+2,2)=ab (enD (2,j)))(h4:bU N (j+2)=ab (.str "copy")) :
  cb (lc nt m sk n L N (.int j) x9)=.ok (.nx (lc nt m sk n L N (.int j) (enD (j+2,0)))):=by
 have a1:=cU 1 j;have g9:b2 getD nY bJ (lc nt m sk n L N (.int j) (enD (j+2,0)))=.ok (.int (j+2)):=aJ rfl rfl rfl;refine aO (ρ':=lc nt m sk n L N (.int j) (enD (j+2,0))) (eN (i:=9) (aJ rfl (aH4 rfl (aJ rfl rfl a1)) (lF j_ h1)) rfl) ?_;refine aO (nQ (uJ (dR (aJ g9 rfl (aOw 0x1))) (uJ (dR (aJ (x:=.int 0) rfl rfl rfl)) (dR (aJ (x:=.str "copy") (aJ rfl g9 (lF N5 h4)) rfl (aFk _))))) rfl) ?_;exact nQ (uJ (dR (aJ (x:=enD (1,j)) (y:=enD (1,j)) (aJ rfl (aH4 g9 rfl) (lF j_ h2)) (aH4 (aJ rfl rfl rfl) rfl) (aOv _))) (dR (aJ (x:=enD (2,j)) (y:=enD (2,j)) (aJ rfl (aH4 g9 rfl) (lF j_ h3)) (aH4 (aJ rfl rfl rfl) rfl) (aOv _)))) rfl
theorem aCw:∀(js:aa ah)(x8 x9:D),(∀j∈js,0<j/\bU L (0,1+j)=ab (enD (j+2,0))/\bU L (j+2,1)=ab (enD (1,j))/\bU L (j+2,2)=ab (enD (2,j))/\bU N (j+2)=ab (.str "copy"))->∃y8 y9:D,tU (tg1 8) cb (js.map D.int) (lc nt m sk n L N x8 x9)=.ok (.nx (lc nt m sk n L N y8 y9))
 |[],x8,x9,_=>⟨x8,x9,rfl⟩
 |j::js,x8,x9,h=>by
  obtain⟨h0,h1,h2,h3,h4⟩:=h j (bn ..);obtain⟨y8,y9,i⟩:=aCw js (.int j) (enD (j+2,0)) λq hq=>h q (bz _ hq)
  exact⟨y8,y9,cQ (ρ1:=lc nt m sk n L N (.int j) x9) rfl (aKm h0 h1 h2 h3 h4) i⟩
theorem aCx(hm:arS M T m=n)(hm2:bU (stk M T) m=ab (.int (n:af)))(hc:arS M T "copy"=2)(hc2:bU (stk M T) "copy"=ab (.int (2:af)))(h:n<=3) :
  bY 3 dI [ntD (cpP m (to n)) (Vc n),.str m,.dct (dD D.str (stk M T))]=.ok (.bl ae):=by
 have s:=(jV ((cpU (to n)).map norm)).choose_spec;obtain⟨_,_,_,q4⟩:=WK (V:=Vc n) s.1 (WD h);have tl:(to n).length=n:=by unfold to;rw[ax,dy]
 have mt:=aFi hm hm2 hc hc2 h;have a2:=cU (n:af) 2;have a1:=cU (n:af) 1;have nl:(cpP m (to n)).length=n+2:=by unfold cpP;rw[bc,bc,ax,tl]
 have nd:=OJ (cpP m (to n)) 0x1;have lk:=λp hp=>WL (p:=p) (cpP m (to n)) (RZ m h) hp
 have k1:bU (nms (cpP m (to n))) 1=ab (.str m):=lk (1,m) (by unfold cpP;exact bn ..);have k2:bU (nms (cpP m (to n))) 2=ab (.str m):=lk (2,m) (by unfold cpP;exact bz _ (bn ..));have k3:∀j∈to n,bU (nms (cpP m (to n))) (j+2)=ab (.str "copy"):=λj hj=>lk (j+2,"copy") (by unfold cpP;exact bz _ (bz _ (bE.mpr ⟨j,hj,rfl⟩)))
 have e1:bU (mtl (Vc n)) (0,0)=ab (enD (1,0)):=(q4 ((1,0),(0,0)) (by unfold cpU;exact bn ..)).2;have e2:bU (mtl (Vc n)) (0,1)=ab (enD (2,0)):=(q4 ((2,0),(0,1)) (by unfold cpU;exact bz _ (bn ..))).2;have e3:∀j∈to n,∀t∈cp3 j,t∈cpU (to n):=λj hj t ht=>by unfold cpU;exact bz _ (bz _ (CB.mpr ⟨j,hj,ht⟩))
 have pos:∀j∈to n,(0:ah)<j:=λj hj=>by
  unfold to at hj;obtain⟨k,_,rfl⟩:=bE.mp hj;lia
 generalize mtl (Vc n)=L at *;generalize hN:nms (cpP m (to n))=N at *;obtain⟨y8,y9,lp⟩:=aCw (L:=L) (N:=N) (nt:=ntD (cpP m (to n)) (Vc n)) (m:=.str m) (sk:=.dct (dD D.str (stk M T))) (n:=.int (n:af)) (to n) .uD .uD λj hj=>by
  refine⟨pos j hj,?_,?_,?_,k3 j hj⟩
  ·rw[Int.add_comm];exact(q4 _ (e3 j hj ((j+2,0),(0,j+1)) (by unfold cp3;simp))).2
  ·exact(q4 _ (e3 j hj ((j+2,1),(1,j)) (by unfold cp3;simp))).1
  ·exact(q4 _ (e3 j hj ((j+2,2),(2,j)) (by unfold cp3;simp))).1
 have rg:=vV (f:=aA bW (aA (b2 (bA .add) cV bW) aL)) (ρ:=lc (ntD (cpP m (to n)) (Vc n)) (.str m) (.dct (dD D.str (stk M T))) (.int (n:af)) L N .uD .uD) (a:=1) (b:=(n:af)+1) (aD rfl (aD (aJ rfl rfl a1) rfl)) 0x1 0x1 0x1 0x1;rw[show((n:af)+1-1:ah).toNat=n by lia,show(bw n).map (λ(k:af)=>D.int (1+(k:ah)))=(to n).map D.int by unfold to;rw[cS];rfl] at rg;refine(eZ rfl).trans (call_v ?_);refine aO (ρ':=[ntD (cpP m (to n)) (Vc n),.str m,.dct (dD D.str (stk M T)),.int (n:af),.uD,.uD,.uD,.uD,.uD,.uD]) (eN (i:=3) (aJ rfl rfl (lF d7 hm2)) rfl) ?_;refine aO (ρ':=[ntD (cpP m (to n)) (Vc n),.str m,.dct (dD D.str (stk M T)),.int (n:af),.dct (dD enD L),.uD,.uD,.uD,.uD,.uD]) (cD (i:=4) (aU (xs:=[ntD (cpP m (to n)) (Vc n),.dct (dD D.str (stk M T)),.int ((n+2:af):ah)]) (aD rfl (aD rfl (aD (aJ rfl rfl a2) rfl))) mt)) ?_;refine aO (nQ (uJ rfl (uJ rfl (dR (aJ (x:=.int ((n+2:af):ah)) (y:=.int ((n+2:af):ah)) (aU (xs:=[.tup ((cpP m (to n)).map piD)]) (aD (aJ (y:=.int 0) rfl rfl rfl) rfl) (by show Res.ok (D.int (((cpP m (to n)).map piD).length:af))=_;rw[ax,nl])) (aJ rfl rfl a2) ((ne_int _ _).trans (by rw[eo];rfl)))))) rfl) ?_;refine aO (ρ':=[ntD (cpP m (to n)) (Vc n),.str m,.dct (dD D.str (stk M T)),.int (n:af),.dct (dD enD L),.dct (dD D.int N),.uD,.uD,.uD,.uD]) (cD (i:=5) (by unfold b1;rw[aJ (x:=ntD (cpP m (to n)) (Vc n)) (y:=.int 0) rfl rfl rfl];exact nd)) ?_;refine aO (ρ':=[ntD (cpP m (to n)) (Vc n),.str m,.dct (dD D.str (stk M T)),.int (n:af),.dct (dD enD L),.dct (dD D.int N),enD (1,0),.uD,.uD,.uD]) (eN (i:=6) (aJ rfl (aH4 rfl rfl) (lF j_ e1)) rfl) ?_;refine aO (ρ':=lc (ntD (cpP m (to n)) (Vc n)) (.str m) (.dct (dD D.str (stk M T))) (.int (n:af)) L N .uD .uD) (eN (i:=7) (aJ rfl (aH4 rfl rfl) (lF j_ e2)) rfl) ?_;refine aO (nQ rfl rfl) ?_;have g6:b2 getD fP bJ (lc (ntD (cpP m (to n)) (Vc n)) (.str m) (.dct (dD D.str (stk M T))) (.int (n:af)) L N .uD .uD)=.ok (.int 1):=aJ rfl rfl rfl;have g7:b2 getD eE bJ (lc (ntD (cpP m (to n)) (Vc n)) (.str m) (.dct (dD D.str (stk M T))) (.int (n:af)) L N .uD .uD)=.ok (.int 2):=aJ rfl rfl rfl;refine aO (nQ (uJ (dR (aJ (x:=.str m) (y:=.str m) (aJ rfl g6 (lF N5 k1)) rfl (aFk m))) (dR (aJ (x:=.str m) (y:=.str m) (aJ rfl g7 (lF N5 k2)) rfl (aFk m)))) rfl) ?_;refine aO (nD rg lp) ?_;rfl
def db:FS:=(bK (bZ ag 7 (b2 getD fD (bN (aA bJ (aA fP aL)))) ag) (sIf (bOr (bTB (b2 (b_ .eq) (b2 getD eE bJ) bJ)) (bOr (bTB (b2 (b_ .ne) (b2 getD eE bW) bJ)) (bTB (b2 (b_ .ne) (b2 getD d8 (b2 getD eE bJ)) (bC (.str "drop")))))) (gR (bC (.bl ag)) ae) j6))
def ld(nt m sk n:D)(L:aa (En×D))(N:aa (ah×D))(x6 x7:D):aa D:=[nt,m,sk,n,.dct (dD enD L),.dct (dD D.int N),x6,x7]
theorem aCy:∀(js:aa ah)(x6 x7:D),(∀j∈js,0<=j/\bU L (0,j)=ab (enD (j+1,0))/\bU N (j+1)=ab (.str "drop"))->∃y6 y7:D,tU (tg1 6) db (js.map D.int) (ld nt m sk n L N x6 x7)=.ok (.nx (ld nt m sk n L N y6 y7))
 |[],x6,x7,_=>⟨x6,x7,rfl⟩
 |j::js,x6,x7,h=>by
  obtain⟨h0,h1,h4⟩:=h j (bn ..);obtain⟨y6,y7,i⟩:=aCy js (.int j) (enD (j+1,0)) λq hq=>h q (bz _ hq)
  have g9:b2 getD eE bJ (ld nt m sk n L N (.int j) (enD (j+1,0)))=.ok (.int (j+1)):=aJ rfl rfl rfl;refine⟨y6,y7,cQ (ρ1:=ld nt m sk n L N (.int j) x7) rfl (aO (ρ':=ld nt m sk n L N (.int j) (enD (j+1,0))) (eN (i:=7) (aJ rfl (aH4 rfl rfl) (lF j_ h1)) rfl) ?_) i⟩;exact nQ (uJ (dR (aJ g9 rfl (aOw 0x1))) (uJ (dR (aJ (x:=.int 0) rfl rfl rfl)) (dR (aJ (x:=.str "drop") (aJ rfl g9 (lF N5 h4)) rfl (aFk _))))) rfl
theorem aFl(hm2:bU (stk M T) m=ab (.int (n:af)))(hc:arS M T "drop"=0)(hc2:bU (stk M T) "drop"=ab (.int (0:af)))(h:n<=3) :
  bY 3 dY [ntD (dpP (to n)) (Vd n),.str m,.dct (dD D.str (stk M T))]=.ok (.bl ae):=by
 have s:=(jV ((dpU (to n)).map norm)).choose_spec;obtain⟨_,_,_,q4⟩:=WK (V:=Vd n) s.1 (WF h);have tl:(to n).length=n:=by unfold to;rw[ax,dy]
 have mt:=aFj hc hc2 h;have nl:(dpP (to n)).length=n:=by unfold dpP;rw[ax,tl]
 have nd:=OJ (dpP (to n)) 0x1;have k3:∀j∈to n,bU (nms (dpP (to n))) j=ab (.str "drop"):=λj hj=>WL (p:=(j,"drop")) _ (R3 h) (by unfold dpP;exact bE.mpr ⟨j,hj,rfl⟩)
 have e3:∀j∈to n,((j,0),(0,j-1))∈dpU (to n):=λj hj=>by unfold dpU;exact bE.mpr ⟨j,hj,rfl⟩
 generalize mtl (Vd n)=L at *;generalize hN:nms (dpP (to n))=N at *;obtain⟨y6,y7,lp⟩:=aCy (L:=L) (N:=N) (nt:=ntD (dpP (to n)) (Vd n)) (m:=.str m) (sk:=.dct (dD D.str (stk M T))) (n:=.int (n:af)) ((bw n).map λ(k:af)=>(0:ah)+(k:ah)) .uD .uD λj hj=>by
  obtain⟨k,hk,rfl⟩:=bE.mp hj;have ht:(0:ah)+(k:ah)+1∈to n:=by
   unfold to;exact bE.mpr ⟨k,hk,by lia⟩
  refine⟨by lia,?_,k3 _ ht⟩;have:=(q4 _ (e3 _ ht)).2;rw[Int.add_sub_cancel] at this;exact this
 have rg:=wC (f:=aA cV aL) (ρ:=ld (ntD (dpP (to n)) (Vd n)) (.str m) (.dct (dD D.str (stk M T))) (.int (n:af)) L N .uD .uD) (n:=(n:af)) (aD rfl rfl) 0x1 0x1;rw[om] at rg;rw[cS] at lp;refine(eZ rfl).trans (call_v ?_);refine aO (ρ':=[ntD (dpP (to n)) (Vd n),.str m,.dct (dD D.str (stk M T)),.int (n:af),.uD,.uD,.uD,.uD]) (eN (i:=3) (aJ rfl rfl (lF d7 hm2)) rfl) ?_;refine aO (ρ':=[ntD (dpP (to n)) (Vd n),.str m,.dct (dD D.str (stk M T)),.int (n:af),.dct (dD enD L),.uD,.uD,.uD]) (cD (i:=4) (aU (xs:=[ntD (dpP (to n)) (Vd n),.dct (dD D.str (stk M T)),.int ((n:af):ah)]) (aD rfl (aD rfl (aD rfl rfl))) mt)) ?_;refine aO (nQ (uJ rfl (uJ rfl (dR (aJ (x:=.int ((n:af):ah)) (y:=.int ((n:af):ah)) (aU (xs:=[.tup ((dpP (to n)).map piD)]) (aD (aJ (y:=.int 0) rfl rfl rfl) rfl) (by show Res.ok (D.int (((dpP (to n)).map piD).length:af))=_;rw[ax,nl])) rfl ((ne_int _ _).trans (by rw[eo];rfl)))))) rfl) ?_;refine aO (ρ':=ld (ntD (dpP (to n)) (Vd n)) (.str m) (.dct (dD D.str (stk M T))) (.int (n:af)) L N .uD .uD) (cD (i:=5) (by unfold b1;rw[aJ (x:=ntD (dpP (to n)) (Vd n)) (y:=.int 0) rfl rfl rfl];exact nd)) ?_;refine aO (nD rg lp) ?_;rfl
theorem aH5{f:α->D}{E:aa α}{k:af}(h:E[k]?=ab e):getD (.lst (E.map f)) (.int (k:af))=.ok (f e):=by
 obtain⟨hl,_⟩:=c_.mp h;show Res.ofOpt ((ixD (E.map f).length (k:af)).bind λj=>(E.map f)[j]?)=_;have:ixD (E.map f).length ((k:af):ah)=ab k:=by
  unfold ixD;rw[ao 0x1,ax,ao 0x1]
  congr 1
 rw[this,ua,jg,h];rfl
theorem WM{m:Mk}:∀{M:aa Mk}{k:af},M[k]?=ab m->(M.flatMap mk2)[2*k]?=ab (eC m)/\(M.flatMap mk2)[2*k+1]?=ab (eR m)
 |[],k,h=>by simp at h
 |a::M,0,h=>by
  rw[List.getElem?_cons_zero] at h;injection h with h
  subst h;exact⟨rfl,rfl⟩
 |a::M,k+1,h=>by
  obtain⟨h1,h2⟩:=WM (M:=M) (k:=k) (by rw[Bv] at h;exact h);exact⟨h1,h2⟩
def lb:FS:=(bK (bZ ag 7 (b2 getD cV (b2 (bA .add) fD (b2 lJ d9 d8))) ag) (bK (bZ ag 8 (b2 getD cV (b2 (bA .add) (b2 (bA .add) fD (b2 lJ d9 d8)) bW)) ag) (bK (sIf (bOr (oY (bTr (b1 (kI .tuple) eE))) (bOr (bTB (b2 (b_ .ne) (aK dG (aA eE aL)) kE)) (bOr (oY (bTr (b1 (kI .tuple) nA))) (bTB (b2 (b_ .ne) (aK dG (aA nA aL)) kE))))) (gR (bC (.bl ag)) ae) j6) (bK (sIf (bOr (bTB (b2 (b_ .ne) (QX eE mR (mQ d9)) (bN (aA (bC (.str "copy")) (aA (b2 getD fP bJ) aL))))) (bTB (b2 (b_ .ne) (QX nA mR (mQ d9)) (bN (aA (bC (.str "drop")) (aA (b2 getD fP bJ) aL)))))) (gR (bC (.bl ag)) ae) j6) (sIf (bOr (oY (bTr (aK (bY 3 dI) (aA (b2 getD eE d9) (aA (b2 getD fP bJ) (aA d_ aL)))))) (oY (bTr (aK (bY 3 dY) (aA (b2 getD nA d9) (aA (b2 getD fP bJ) (aA d_ aL))))))) (gR (bC (.bl ag)) ae) j6)))))
def lm(s pg sk:D)(E:aa Et)(own:af)(x5 x6 x7 x8:D):aa D:=[s,pg,sk,.lst (E.map eD),.int (own:af),x5,x6,x7,x8]
theorem aRd(a b:Str):b_ .ne (.tup [.str a,.str b]) (.tup [.str a,.str b])=.ok (.bl ag):=by
 show Res.ok (D.bl (!((a==a)&&((b==b)&&ae))))=_;rw[eo,eo];rfl
theorem aRe(a b:Str)(P:aa Pi)(V:aa Ti):aE2 (.tup [.str a,.str b,ntD P V]) ai (ab 2)=.ok (.tup [.str a,.str b]):=by
 show(if !D.aW [.str a,.str b,ntD P V]||_ then Res.bad else _)=_;rw[show D.aW [.str a,.str b,ntD P V]=ae from zL (a,b,P,V)];rfl
theorem aKn{E:aa Et}{k own:af}{m:Mk}(h1:E[own+2*k]?=ab (eC m))(h2:E[own+2*k+1]?=ab (eR m))(hc:bY 3 dI [ntD (cpP m.1 (to m.2.2.length)) (Vc m.2.2.length),.str m.1,.dct sk]=.ok (.bl ae))(hd:bY 3 dY [ntD (dpP (to m.2.2.length)) (Vd m.2.2.length),.str m.1,.dct sk]=.ok (.bl ae)) :
  lb (lm s pg (.dct sk) E own (.int (k:af)) (mkD m) x7 x8)=.ok (.nx (lm s pg (.dct sk) E own (.int (k:af)) (mkD m) (eD (eC m)) (eD (eR m)))):=by
 have g1:=aH5 (f:=eD) h1;have g2:=aH5 (f:=eD) h2;have mu:lJ (.int 2) (.int (k:af))=.ok (.int (2*(k:ah))):=oA 2 (k:af) rfl;have a1:=cU (own:af) (2*(k:ah));have a2:=cU ((own:af)+2*(k:ah)) 1;refine aO (ρ':=lm s pg (.dct sk) E own (.int (k:af)) (mkD m) (eD (eC m)) x8) (eN (i:=7) (aJ (y:=.int ((own+2*k:af):ah)) rfl ((aJ rfl (aJ rfl rfl mu) a1).trans (by rw[u8,tN];rfl)) g1) (zL _)) ?_;refine aO (ρ':=lm s pg (.dct sk) E own (.int (k:af)) (mkD m) (eD (eC m)) (eD (eR m))) (eN (i:=8) (aJ (y:=.int ((own+2*k+1:af):ah)) rfl ((aJ (aJ rfl (aJ rfl rfl mu) a1) rfl a2).trans (by rw[u8,u8,tN];rfl)) g2) (zL _)) ?_;have g6:b2 getD fP bJ (lm s pg (.dct sk) E own (.int (k:af)) (mkD m) (eD (eC m)) (eD (eR m)))=.ok (.str m.1):=aJ rfl rfl rfl;refine aO (nQ (uJ rfl (uJ rfl (uJ rfl rfl))) rfl) ?_;refine aO (nQ (uJ (dR (aJ (x:=.tup [.str "copy",.str m.1]) (y:=.tup [.str "copy",.str m.1]) (aRe ..) (bL (xs:=[.str "copy",.str m.1]) (aD rfl (aD g6 rfl)) jA) (aRd ..))) (dR (aJ (x:=.tup [.str "drop",.str m.1]) (y:=.tup [.str "drop",.str m.1]) (aRe ..) (bL (xs:=[.str "drop",.str m.1]) (aD rfl (aD g6 rfl)) jA) (aRd ..)))) rfl) ?_;have k1:aK (bY 3 dI) (aA (b2 getD eE d9) (aA (b2 getD fP bJ) (aA d_ aL))) (lm s pg (.dct sk) E own (.int (k:af)) (mkD m) (eD (eC m)) (eD (eR m)))=.ok (.bl ae):=aU (xs:=[ntD (cpP m.1 (to m.2.2.length)) (Vc m.2.2.length),.str m.1,.dct sk]) (aD (aJ (x:=eD (eC m)) (y:=.int 2) rfl rfl rfl) (aD g6 (aD rfl rfl))) hc;have k2:aK (bY 3 dY) (aA (b2 getD nA d9) (aA (b2 getD fP bJ) (aA d_ aL))) (lm s pg (.dct sk) E own (.int (k:af)) (mkD m) (eD (eC m)) (eD (eR m)))=.ok (.bl ae):=aU (xs:=[ntD (dpP (to m.2.2.length)) (Vd m.2.2.length),.str m.1,.dct sk]) (aD (aJ (x:=eD (eR m)) (y:=.int 2) rfl rfl rfl) (aD g6 (aD rfl rfl))) hd;exact nQ (uJ (DP (RQ k1)) (DP (RQ k2))) rfl
theorem aCz{E:aa Et}{own:af}:∀(N:aa (Mk×af))(x5 x6 x7 x8:D),(∀p∈N,(E[own+2*p.2]?=ab (eC p.1)/\E[own+2*p.2+1]?=ab (eR p.1))/\bY 3 dI [ntD (cpP p.1.1 (to p.1.2.2.length)) (Vc p.1.2.2.length),.str p.1.1,.dct sk]=.ok (.bl ae)/\bY 3 dY [ntD (dpP (to p.1.2.2.length)) (Vd p.1.2.2.length),.str p.1.1,.dct sk]=.ok (.bl ae))->
  ∃y5 y6 y7 y8:D,tU (tgN [5,6]) lb (N.map λp=>.tup [.int (p.2:af),mkD p.1]) (lm s pg (.dct sk) E own x5 x6 x7 x8)=.ok (.nx (lm s pg (.dct sk) E own y5 y6 y7 y8))
 |[],x5,x6,x7,x8,_=>⟨x5,x6,x7,x8,rfl⟩
 |p::N,x5,x6,x7,x8,h=>by
  obtain⟨⟨h1,h2⟩,h3,h4⟩:=h p (bn ..);obtain⟨y5,y6,y7,y8,i⟩:=aCz N (.int (p.2:af)) (mkD p.1) (eD (eC p.1)) (eD (eR p.1)) λq hq=>h q (bz _ hq)
  exact⟨y5,y6,y7,y8,cQ (ρ1:=lm s pg (.dct sk) E own (.int (p.2:af)) (mkD p.1) x7 x8) rfl (aKn h1 h2 h3 h4) i⟩
theorem aKo(M:aa Mk):(M.flatMap mk2).length=2*M.length:=by
 induction M with
 |nil=>rfl
 |cons a M ih=>rw[ju,bj,ih,bc];show 2+_=_;lia
theorem main:∀ns:aa ah,ns.length<=63->YQ [.scr (ns.map D.int)]=.ok (.bl ae):=by
 intro ns hn;obtain⟨many,ks,M,T,R,⟨hm,hm3⟩,hM,hT,hTl,⟨hk1,hk2⟩,⟨hRl,hR⟩,ep⟩:=YS hn;have hML:M.length<=9:=by have:=hM.len;lia
 have hM3:∀m∈M,m.2.2.length<=3:=λm h=>(hM.part m h).2.1
 have hG:∀m∈M,m.1 ≠ "copy"/\m.1 ≠ "drop":=λm h=>⟨(hM.part m h).1.1,(hM.part m h).1.2.1⟩
 obtain⟨Q,q1,er⟩:=R6 (ks:=ks) hn hm3 hM hT hTl hML hM3 hG (λt ht=>(hT t ht).2.2.2.1) hRl hR;have es:=aF5 (ks:=ks) (R:=R) hML hTl.1;have nM1:("copy" : Str)∉M.map (·.1):=λz=>by
  obtain⟨m,h,e⟩:=bE.mp z;exact(hG m h).1 e
 have nM2:("drop" : Str)∉M.map (·.1):=λz=>by
  obtain⟨m,h,e⟩:=bE.mp z;exact(hG m h).2 e
 have hTG:∀t∈T,t.1 ≠ "copy"/\t.1 ≠ "drop":=λt h=>by
  obtain⟨k,k1,k2,k3⟩:=(hT t h).1;have g:=(oR (i:=k) hn 0x1 0x1).2;rw[k3];exact⟨g.1,g.2.1⟩
 have nT1:("copy" : Str)∉T.map (·.1):=λz=>by
  obtain⟨m,h,e⟩:=bE.mp z;exact(hTG m h).1 e
 have nT2:("drop" : Str)∉T.map (·.1):=λz=>by
  obtain⟨m,h,e⟩:=bE.mp z;exact(hTG m h).2 e
 have hmk:∀m∈M,bY 3 dI [ntD (cpP m.1 (to m.2.2.length)) (Vc m.2.2.length),.str m.1,.dct (dD D.str (stk M T))]=.ok (.bl ae)/\bY 3 dY [ntD (dpP (to m.2.2.length)) (Vd m.2.2.length),.str m.1,.dct (dD D.str (stk M T))]=.ok (.bl ae):=λm h=>by
  have lk:=(wx (w:=m.1) (a:=m.2.2.length) hn hm3 hM hT hTl (.inl ⟨m,h,rfl,rfl⟩)).stk;have ar:arS M T m.1=m.2.2.length:=by unfold arS;rw[lk];show((m.2.2.length:af):ah).toNat=_;lia
  have c:=aCv (a:=2) (M:=M) (T:=T) "copy" nM1 nT1 rfl;have d:=aCv (a:=0) (M:=M) (T:=T) "drop" nM2 nT2 rfl;exact⟨aCx ar lk c.1 c.2 (hM3 m h),aFl lk d.1 d.2 (hM3 m h)⟩
 generalize hE:Q++M.flatMap mk2=E at er;have hEl:E.length=R.length+2*M.length:=by rw[<-hE,bj,aKo,q1]
 have hget:∀p∈M.zipIdx,E[R.length+2*p.2]?=ab (eC p.1)/\E[R.length+2*p.2+1]?=ab (eR p.1):=λp hp=>by
  have hk:=CC.1 hp;obtain⟨f1,f2⟩:=WM hk;rw[<-hE,<-q1];exact⟨by rw[fz 0x1,uy];exact f1,by rw[zg,fz 0x1,uy];exact f2⟩
 obtain⟨y5,y6,y7,y8,lp⟩:=aCz (s:=.scr (ns.map D.int)) (pg:=pgD ks M T R) (sk:=dD D.str (stk M T)) (E:=E) (own:=R.length) M.zipIdx .uD .uD .uD .uD λp hp=>⟨hget p hp,hmk p.1 (nE (CC.1 hp))⟩
 refine call_v ?_;refine aO (ρ':=[.scr (ns.map D.int),pgD ks M T R,.uD,.uD,.uD,.uD,.uD,.uD,.uD]) (cD (i:=1) (aU (xs:=[.scr (ns.map D.int)]) (aD rfl rfl) ep)) ?_;refine aO (ρ':=[.scr (ns.map D.int),pgD ks M T R,.dct (dD D.str (stk M T)),.uD,.uD,.uD,.uD,.uD,.uD]) (cD (i:=2) (aU (xs:=[pgD ks M T R]) (aD rfl rfl) es)) ?_;refine aO (ρ':=[.scr (ns.map D.int),pgD ks M T R,.dct (dD D.str (stk M T)),.lst (E.map eD),.uD,.uD,.uD,.uD,.uD]) (cD (i:=3) (aU (xs:=[pgD ks M T R]) (aD rfl rfl) er)) ?_;refine aO (ρ':=lm (.scr (ns.map D.int)) (pgD ks M T R) (.dct (dD D.str (stk M T))) E R.length .uD .uD .uD .uD) (cD (i:=4) (aU (xs:=[.tup (R.map rlD)]) (aD (aJ (x:=pgD ks M T R) (y:=.int 3) rfl rfl rfl) rfl) (by show Res.ok (D.int ((R.map rlD).length:af))=_;rw[ax]))) ?_;have mu:lJ (.int 2) (.int (M.length:af))=.ok (.int (2*(M.length:ah))):=oA 2 (M.length:af) rfl;have a1:=cU (R.length:af) (2*(M.length:ah));have ρE:∀ρ,ρ=lm (.scr (ns.map D.int)) (pgD ks M T R) (.dct (dD D.str (stk M T))) E R.length .uD .uD .uD .uD->aK dG (aA cV aL) ρ=.ok (.int ((R.length+2*M.length:af):ah))/\b2 (bA .add) fD (b2 lJ d9 (aK dG (aA (b2 getD eO bW) aL))) ρ=.ok (.int ((R.length+2*M.length:af):ah)):=λρ h=>by
  subst h;have l1:dG [.lst (E.map eD)]=.ok (.int ((R.length+2*M.length:af):ah)):=by show Res.ok (D.int ((E.map eD).length:af))=_;rw[ax,hEl]
  have l2:dG [.tup (M.map mkD)]=.ok (.int (M.length:af)):=by show Res.ok (D.int ((M.map mkD).length:af))=_;rw[ax]
  have l3:bA .add (.int (R.length:af)) (.int (2*(M.length:ah)))=.ok (.int ((R.length+2*M.length:af):ah)):=by rw[a1,u8,tN];rfl
  exact⟨aU (xs:=[.lst (E.map eD)]) (aD rfl rfl) l1,aJ (x:=.int (R.length:af)) (y:=.int (2*(M.length:ah))) rfl (aJ (x:=.int 2) (y:=.int (M.length:af)) rfl (aU (xs:=[.tup (M.map mkD)]) (aD (aJ (x:=pgD ks M T R) (y:=.int 1) rfl rfl rfl) rfl) l2) mu) l3⟩
 obtain⟨ρ1,ρ2⟩:=ρE _ rfl;refine aO (nQ (uJ rfl (dR (aJ ρ1 ρ2 ((ne_int _ _).trans (by rw[eo];rfl))))) rfl) ?_;refine aO (nD ?_ lp) rfl;show(if D.aW (M.map mkD) then Res.ok (J_ (M.map mkD),ae) else .bad)=_;rw[aV jC,ao rfl]
 congr 2
 unfold J_;rw[List.zipIdx_map,cS];rfl
end Lk62
section
open PySem PySem.W PyProof.Rows
namespace PySem.W.Fast
def tw17478421716901119045:=()
def tw2064727878357728139:=()
def tw3152957813358503650:=()
def tw382871141081875392:=()
def tw4679639899468387053:=()
def tw10057552092887993553:=()
def tw14173405569431087108:=()
def tw8470143743536538168:=()
def tw15184181215184304108:=()
def tw6632345658888053118:=()
def tw17109431708805515815:=()
def tw630533474136367196:=()
def tw7021152538690344461:=()
def tw8943353005285933958:=()
def tw8746037863140508824:=()
def tw4767827382532589597:=()
def tw1659864782472279993:=()
def tw2080519161743613740:=()
def tw14493250545728068631:=()
def tw4539467497751937704:=()
def tw5604771695540007084:=()
def tw8310156839990967754:=()
def tw11522529215949575759:=()
def tw10704009598257714402:=()
def tw2881900590570360812:=()
def tw5482051474453784872:=()
def tw7492765582182970789:=()
def tw5812164486225878670:=()
def tw303877512534454818:=()
def tw2820727901697448712:=()
def tw16743094594698363560:=()
def tw2865367281756511453:=()
def tw6931273660571426000:=()
def tw14095269268266466034:=()
def tw8893081357281053287:=()
def tw15182179922329945621:=()
def tw12505986827517262950:=()
def tw16240832482312616866:=()
def tw3463201867119518521:=()
def tw4064063438483912192:=()
def tw13693112347845510659:=()
def tw5697443427793018541:=()
def tw16433657755018184304:=()
def tw8502555034105238985:=()
def tw9144520563834866969:=()
def tw14668118581366836441:=()
def tw13183634284821379803:=()
def tw12353538957875460630:=()
def tw14536491711067241905:=()
def tw13786488471462318265:=()
def tw4976498907625589815:=()
def tw11703836661068334465:=()
def tw10539183590336197077:=()
def tw16769205688150492142:=()
def tw6787105120761264682:=()
def tw3487266741291372459:=()
def tw8303834343181859768:=()
def tw14751973273478173314:=()
def tw1475623341885356811:=()
def tw11289845686535606300:=()
end PySem.W.Fast
set_option maxRecDepth 100000 in
set_option maxHeartbeats 0 in
theorem PySem.Challenge.cw_hookmill_k62_copy_and_drop_rules_holds : PySem.Challenge.rw_hookmill_k62_copy_and_drop_rules.Holds := by
 w_on;o_law;k_head;(case hw=>w_witness2)
 k_fill
 refine Lk62.walk (l:=PySem.Challenge.rw_hookmill_k62_copy_and_drop_rules) Lk62.main rfl rfl (fun w h Y=>PySem.W.kIn_of Y) ?F
 case F=>
  intro w mg fa h KX G hmg
  refine' Lk62.aNo KX G hmg ?a0 ?a1 ?a2 ?a3 ?a4 ?l4 ?c4 ?k4 ?t4 ?a5 ?a6 ?a7 ?a8 ?a9 ?a10 ?a11 ?a12 ?a13 ?a14 ?a15 ?a16 ?a17 ?a18 ?a19 ?a20 ?a21 ?l21 ?c21 ?k21 ?pS ?pT ?pV ?pW ?pX ?pY ?pZ ?q5 ?qa ?qb ?qc ?qd ?qe ?qf ?qg ?qh ?qi ?qj ?p7 ?pg_Loom ?qk ?po_Loom ?ql ?mk_Loom ?qo ?qp ?pA ?pB ?pC ?qr ?pD ?pE ?pF ?pG ?qt ?pH ?pI ?pq ?qu ?qv ?pJ ?pK ?pw ?qw ?qx ?pL ?pM ?pz ?qy
  (case a0|a1|a2|a3|a5|a6|a7|a8|a9|a10|a11|a12|a13|a14|a15|a16|a17|a18|a19|a20=>refine' Lk62.aQs ?a ?b ?c ?d;(case a=>k_is);(case b=>k_is);(case c=>k_is);case d=>k_is)
  (case a4|l4|c4|k4|t4|a21|l21|c21|k21|pS|pT|pV|pW|pX|pY|pZ|q5|qa|qb|qc|qd|qe|qf|qg|qh|qi|qj|p7|pg_Loom|qk|po_Loom|ql|mk_Loom|qo|qp|pA|pB|pC|qr|pD|pE|pF|pG|qt|pH|pI|pq|qu|qv|pJ|pK|pw|qw|qx|pL|pM|pz|qy=>k_is)
end
