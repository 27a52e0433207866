import PyProof.Rows.All
import Wide.All
import OpenK.AllK
import Wide.FinOn
import PySem.Challenge.RW_hookmill_k14_not_alike
open Array renaming length_toList->kx,getD->k7,getElem?_toList->nL,size_map->ox,perm_iff_toList_perm->ut,toList_map->uv,getElem?_eq_none->vh,toList->wz,size_append->AG,getElem?_eq_getElem->AR
open Array.Perm renaming refl->yj,size_eq->BF,mem_iff->BG
open Bool renaming true->ag,false->ai,and_eq_true->bc,true_and->gx,false_eq_true->hG,or_eq_true->hI,and_true->ie,not_eq_true'->iS,and_self->jd,false_ne_true->jm,and_false->kQ,false_or->l7,or_false->xC,and_assoc->yo,not_false->Br
open Classical renaming byContradiction->mB,choose->Ab,choose_spec->Ac,axiomOfChoice->Cb
open False renaming elim->fi
open ForInStep renaming yield->yk
open Function renaming comp_def->BI,comp->B5
open Int renaming lt_irrefl->jI,toNat_natCast->kh,emod_nonneg->lm,emod_lt_of_pos->lq
open List renaming mem_map->ax,length_map->ay,map_cons->aT,mem_cons->bd,mem_cons_of_mem->bf,mem_cons_self->bh,range->bn,map_map->bu,size_toArray->bX,replicate->b5,length_cons->b9,length_append->cb,map_append->ce,mem_append->cf,nodup_cons->cj,getElem?_eq_getElem->cn,map_congr_left->cq,mem_singleton->cw,getD_eq_getElem?_getD->cy,pairwise_map->cz,getElem?_eq_some_iff->c9,append_assoc->c_,mem_range->df,all_eq_true->dm,mem_append_left->dq,getElem?_set_ne->dw,append_nil->dy,cons_lt_cons_iff->dz,mem_append_right->dP,nil_append->dQ,length_nil->dS,map->en,cons_append->eu,nodup_append->eP,nodup_nil->eT,map_id->eW,getElem_map->e7,getElem_mem->fq,getElem?_map->fu,length_singleton->fx,mem_flatMap->fA,all_cons->fI,flatMap_cons->fS,getElem?_set_self->fT,length_range->gp,length->gS,find?_cons->gV,nodup_range->ig,getElem?_append_right->ii,foldl_cons->ij,map_nil->im,lookup_cons->iq,mem_filter->iz,length_drop->iO,length_take->jo,getElem?_replicate->jp,getElem?_append_left->jq,replicate_succ->jv,not_lt->jS,toList_toArray->ka,flatMap_append->ki,flatten_cons->kM,any_cons->kX,lt_irrefl->lg,not_mem_nil->ll,take_of_length_le->lr,range_succ->lu,mem_of_getElem?->lP,drop_eq_getElem_cons->mh,take_succ_eq_append_getElem->mz,getElem?_set->mE,pairwise_cons->mS,length_filter_le->mT,idxOf_append->ng,filter_cons->nh,zip_cons_cons->ov,eq_nil_of_length_eq_zero->oy,drop_eq_nil_of_le->oS,perm_append_comm->rj,pairwise_append->rn,flatten_append->rq,flatten_singleton->rL,perm_ext_iff_of_nodup->rV,mem_zipIdx_iff_getElem?->sa,getElem_idxOf->se,idxOf_lt_length_of_mem->sg,filterMap_cons->sv,of_mem_zip->sC,foldl->tI,lt_of_le_of_lt->ua,lt_asymm->ub,le_antisymm->uc,forIn_nil->ud,forIn_cons->ue,getElem_of_mem->ur,pairwise_iff_getElem->ux,foldl_append->u3,take_length->u4,ext_getElem->vb,map_take->vc,getElem?_cons_succ->vk,getElem?_range->vE,take_append_of_le_length->vF,mem_flatten->vT,idxOf_cons->wa,take_append_drop->wb,flatMap_singleton->wc,exists_mem_of_ne_nil->wd,flatMap_map->we,perm_append_singleton->wg,filter_congr->wj,mem_filterMap->xm,length_replicate->xt,range_succ_eq_map->yn,zip_nil_left->zq,zip_nil_right->zr,drop_of_length_le->zu,countP_mono_left->zz,countP_cons->zC,map_fst_zip->Ah,mem_range'_1->AA,map_drop->AH,dropLast_eq_take->AI,getElem?_eq_none->A0,find?_eq_none->A6,set_set->Be,all_nil->Bh,foldl_nil->Bi,zipIdx_map_fst->Bm,zipIdx_map->Bn,perm_middle->Bo,getElem_range->Bp
open List.Nodup renaming erase_eq_filter->Cc
open List.Pairwise renaming imp₂->Bl,nil->BE,filter->Cd
open List.Perm renaming cons->ni,append_left->r_,trans->si,append_right->Bj,eq_of_pairwise->BH,of_eq->Ca
open List.Sublist renaming map->Ce
open List.cons renaming injEq->gj
open Nat renaming le_refl->bj,ne_of_lt->cu,le_trans->c6,lt_of_lt_of_le->du,lt_irrefl->eJ,zero_le->eL,lt_succ_of_lt->gw,le_succ->hX,lt_succ_self->i0,ne_of_gt->jn,le_of_lt->kl,le_of_ble_eq_true->mP,lt_or_ge->oe,le_of_not_lt->t5,not_lt->ui,le_of_eq->yh,not_lt_zero->yi,le_succ_of_le->zS,zero_add->Aj,lt_of_le_of_lt->Az,lt_of_not_le->AE,add_sub_cancel_left->A3,lt_trichotomy->Bq
open Nat.succ renaming inj->va
open Option renaming some->af,none->am,map_eq_some_iff->k5,getD_some->n9,isSome_iff_exists->sF,isSome_some->tP,isSome_map->tT,getD_none->xD,bind_some->AF,map_eq_none_iff->A5,map_some->Bg
open Option.some renaming inj->cr,injEq->gm
open Or renaming inl->jy
open PUnit renaming unit->Bf
open Prod renaming snd->lw,fst->mv
open Prod.mk renaming injEq->gz
open PyProof.Rows renaming seqObj->dh,pairsOf->eI,envOfC->fF,Keyed->iu,AllBare->iA,SortKind->lb,IsTup->ly,IntsAre->l9,tuples'->mr,subscriptTail->nE,callWith_type1->sA,slot_tuple_getitem->tm,keyKind'->uj,sortedHeap->ul,listUpdate_at->um,seqEpoch_at->uo,slicePart_none->xu,subscriptTail_builtinR->xA,keyLt'_oneType->Ad,oneLt_int->Ae,oneLt_str->Af,pairsOf_size->Ai,callWith_builtin1->Bu,lt_int->BO,le_int->BQ,gt_int->BS,ge_int->BU,lt_str->BY,oneLt'_eq->B0,pairsOf_toList->B1,mem_zip_self->B2,collect_list->B3,size_push'->B4,boot_enumerate->B8
open PySem renaming Value->aj,Addr->ak,Shared->ao,wpAny_bind->au,model->aw,Heap->aI,wpAny_pure->aS,Obj->ba,sizeLine->bb,World->bg,Stmt->bi,cLine->bm,Pos->bo,starEach->bp,Program->br,eval->bE,Around->bS,mainGlobals->ck,argBest->de,compareOp->dg,Env->di,Builtin->dt,swapsWith->dL,bootBuiltins->d3,foldedSetIterable->d6,binaryOp->eg,backTo->eo,wpAny_mono->eB,sizeLine_eq->eC,FuncData->eD,Tok->e9,sysModules->ff,Scope->fg,pyNext->fj,wpAny_newObj_type->fm,pyIter->fE,plainId_quiet->fN,codeAny_builtin->fR,Sem->f_,wpAny_holding->gh,Keyword->gi,rawInt->gu,CmpOp->gv,NameKind->gN,DictEntry->gX,relabel->hV,call_meets->ik,atKey->io,wpAny_tryCatch->iv,tupleKind->iw,PassesOwn->iE,bindL->iF,bindC->iL,IsPart->iN,attributeBase->iP,richCompare_meets_room->i9,wpAny_letGo->jb,Paired->jg,wpAny_truthy_bool->jh,assign->ji,assignEach->jk,wpAny_passesOwn->jl,getItem->jr,sliceBounds->jt,typeOf->ju,valueAt->jw,callerA->jx,Meets->j3,wpAny_seqItems->ke,wpAny_updateSeq->kf,wpAny_pyIter_list->kg,GenState->km,Drawn->kn,Model->ko,behindInMarks->ky,Result->kA,BindsTo->kB,codeAny_mono->kC,mem_of_lookup->kF,backToKw->kH,keywordEach->kK,stored->k4,tupleKind_room_in1->k6,compPost->k9,richCompare->la,seqItems?->lh,updateSeq->li,wpAny_of_eq->lj,wpAny_Call_Name_kw->lI,data2->lS,wpAny_call_entry->lT,typeLookup->l5,collect->mi,IsEnum->mN,Str->np,isTrue->nu,wpAny_execs_nil->nv,letOwnedTupleGo->nw,subscripted->nI,merged->nN,call_meetsIn->nS,Params->nX,call_function_tree->oI,wpAny_pyIter_tuple->oQ,wpAny_typeNameOfWhole_keyiter->oT,wpAny_fieldsOf->qS,wpAny_typeNameOf_keyiter->qV,typeLookup_type->rg,builtinLookup_eq_fast->rh,OsState->ri,builtinsNs->su,spliced->sx,wpAny_Name->sy,holding->sB,cellsFrom->sD,concat_meets->sL,noFill_tuple_add->sM,seq_tuple_add->sN,wpAny_field->td,wpAny_callSpecial?_slot->ti,wpAny_typeOf->tq,operate->tu,typeIs_int->tx,PlainAttrs->tF,call->t9,newList->ug,newTuple->uS,entryFor->vd,wpAny_dictEntries->ve,wpAny_dictEpoch->vf,wpAny_isOneOf_keyiter->vg,getAttr?->vx,Within->wv,wpAny_Constant_int->wx,wpAny_execs_cons->w_,interactive->xa,swapsWithSole->xb,swappedStores->xc,wpAny_pyNext_list_item->xf,wpAny_pyNext_list_end->xg,wpAny_pyNext_tuple_item->xh,wpAny_pyNext_tuple_end->xi,IsRangeIter->xj,intBits_le_64->xn,recursionLimit->xo,evalPart_none->xw,seqIndex_of->xy,slot_list_getitem->xB,comprehension->yl,eval_ListComp->ym,wpAny_newList->zD,wpAny_standAt->AC,wpAny_Assign_Subscript->AD,wpAny_notOrdered_dict->AL,wpAny_attempt->AN,wpAny_setField->AS,firstArgMember->AX,codeAny_call_builtin->A2,wpAny_pyIter_enum->A4,entryFor_alias->A7,wpAny_raiseAttrError->A8,attrMsg_fits->A9,sub_AttributeError->Bb,getattributeRaised->Bc,wpAny_dictSet_pairs->Bd,wpAny->ϑ
open Decidable renaming decide->ϒ
open PySem.Around renaming under_plainId->gl
open PySem.AutoListH renaming list___mul___list_int_3->BD
open PySem.AutoSeq1 renaming wpAny_loadPart'->vm,sub_list_list->zw,list_extend_list_list_0->BB,sub_tuple_tuple->BM
open PySem.Builtin.Builtins renaming bindParams->oP
open PySem.Builtin.Dict renaming dictSlotNone->B6,showsAll->B7,addKeywords->B9
open PySem.Builtin.Dict_items renaming ownsTuple->AM
open PySem.Builtin.List renaming listTooLong->kP,listExtendWith->AY
open PySem.Builtin.Range renaming rangeSize->Bs
open PySem.Builtin.Slice renaming slicePlaces->ny,sliceAdjust->s_,sliceApplied->xv,slicePartIndex->Bw,sliceFields->Bx
open PySem.Builtin.Tuple renaming tupleExact->nB,tupleItemsOf->By,tupleCompareSizes->BN
open PySem.Calls renaming Name_function_global->wy,spliced_nil->xp,spliced_cons->xq,callWith_builtin->xE
open PySem.Code renaming quiet_builtin->vp,call->A1
open PySem.Data renaming seq->wu,fields->xk,cell->xl
open PySem.F renaming plain_min_loop->ja,plain_max_loop->jc,slot_dict_get->l8,plainAttrs_list->mI,slot_dict_keyiterator_next->mM,slot_list_extend->nK,entry_dict_get->nV,slot_tuple_add->sP,entry_tuple_add->sQ,args_tuple_add_2->sT,slot_list_append->tJ,slot_list_lt->uh,entry_min_loop->uy,entry_max_loop->uz,called_enumerate->vn,slot_list_getattribute->vw,slot_tuple_getattribute->vz,entry_list_extend->xI,args_list_extend_2->xL,slot_list_pop->xS,slot_int_rmul->ya,args_dict_get_2->yd,args_dict_get_3->ye,entry_list_lt->zx,args_list_lt_2->zy,kind_min->Ak,plain_min->Am,entry_min->An,kind_max->Ao,plain_max->Ap,entry_max->Aq,type_list_append->AB,type_list_extend->AJ,slot_dict_iter->AK,entry_dict_keyiterator_next->AO,args_dict_keyiterator_next_1->AQ,plain_list_iadd->AZ
open PySem.Heap renaming lt_size->bw,get?_push_of_some->b6,get?_push_size->c8,size_push->ia,SameBut->kt,get?_update_other->l6,get?_update_self->mx,size_update->uq,get?_push_ne->zI,get?_update_ne->Aa,ExtBut->AW,NewAttrErr->Ba
open PySem.Heap.DictOf renaming new->yc
open PySem.Heap.IsSliceOf renaming new->Bz
open PySem.Heap.SameBut renaming update->AV
open PySem.IsL renaming update->BA
open PySem.IsiPair renaming dict_int->As,dict_str->Au,dict_bool->Av,dict_list->Aw,dict_tuple->Ax,dict_dict->Ay
open PySem.MeetsSeq renaming list_pop_last->BC
open PySem.MeetsSeq3 renaming plain_eq_loop->ow,entry_eq_loop->zv
open PySem.NameKind renaming free->iX,cell->uf
open PySem.Obj renaming mapSeq->eS,mapFields->AT,data_mapFields->AU
open PySem.Paired renaming length->kj,snoc->yb
open PySem.PassesOwn renaming never->cS
open PySem.SeqAt renaming RcAt->ib,RcNeAt->ic
open PySem.SeqAt.EqAt renaming of_refs->mf,same->oh,int_str->wo,str_int->wt,none_list->yr,bool_list->yw,int_list->yz,str_list->yT,tuple_list->y4,list_none->zc,list_bool->zg,list_int->zj,list_str->zm,list_tuple->zp
open PySem.SeqAt.RcAt renaming lists->om,lists_lengths->ot,none_list->yp,bool_list->yt,int_list->yx,str_list->yA,tuple_list->yY,list_none->za,list_bool->zd,list_int->zh,list_str->zk,list_tuple->zn
open PySem.SeqAt.RcNeAt renaming lists->oq,lists_lengths->ou,none_list->yq,bool_list->yu,int_list->yy,str_list->yB,tuple_list->y3,list_none->zb,list_bool->zf,list_int->zi,list_str->zl,list_tuple->zo
open PySem.Str renaming ofString->tj
open PySem.Value renaming ref->eR,none->jf,type->lx,bool->nr,int->sj,str->sn,isInt->wl,isStrOf->wm,notImplemented->zt
open PySem.W renaming Frag->bz,kas_rev->jz,fnOf->kG,keepIn->lz,kas_item->mw,nsIn->n4,Looks->oz,kat_kind->oD,methodObj->so,codeIn->sK,cellsFrom_some->xr
open PySem.W.Looks renaming of_pure->oB,ld->Ag
open PySem.W.WData renaming int->yf
open PySem.W.WShape renaming has->yg
open PySem.Walks renaming tuple->Ar
open Sum renaming inl->e8,inr->je
open _root_ renaming List->aa,Int->ae,Nat->ah,Bool->ap,if_neg->aq,if_pos->ar,Option->av,absurd->az,Array->aE,decide_eq_true->bq,decide_eq_false->bP,False->cg,congrArg->cm,if_true->cx,if_false->cK,String->c4,of_decide_eq_true->eh,decide_eq_true_eq->eM,DecidableEq->fc,not_or->fy,True->gL,beq_iff_eq->kb,Unit->kq,decide_eq_false_iff_not->k8,beq_self_eq_true->ma,dif_pos->mj,beq_eq_false_iff_ne->nq,Decidable->rf,decide_eq_decide->rS,dif_neg->rX,or_assoc->vS,bne_self_eq_false->z5,decide_false->Bk
set_option Elab.async false
set_option maxRecDepth 100000
set_option maxHeartbeats 4000000
noncomputable section
set_option linter.all false
set_option autoImplicit true
set_option genSizeOfSpec false
set_option genInjectivity true
abbrev nDb(x:np):Prop:= (x==("__debug__" : np))=ai
abbrev nCd(x:np):Prop:= (x==("__classdict__" : np))=ai
namespace L2
open PySem PySem.Spec PyProof.Rows
noncomputable abbrev Key:=Sum ae Str
noncomputable def O8:Key->aj->ap
 |.inl k,v=>wl k v
 |.inr x,v=>wm x v
noncomputable def aQs(w:bg):Key->ae
 |.inl k=>hashInt k
 |.inr x=>hashStr w x
theorem dZ:∀{k:Key}{v:aj},O8 k v=ag->(∃i t,k=e8 i/\v=sj i t)\/(∃x t,k=je x/\v=sn x t)
 |.inl i,v,h=>by
  obtain⟨t,e⟩:=Value.isInt_shape (k:=i) (v:=v) h;exact .inl ⟨i,t,rfl,e⟩
 |.inr x,v,h=>by
  obtain⟨t,e⟩:=Value.isStrOf_shape (x:=x) (v:=v) h;exact .inr ⟨x,t,rfl,e⟩
theorem YM(i:ae)(t:e9):O8 (.inl i) (.int i t)=ag:=by simp[O8,wl]
theorem YQ(x:Str)(t:e9):O8 (.inr x) (.str x t)=ag:=by simp[O8,wm]
theorem aL1(a b:ae):ϒ ((e8 a:Key)=e8 b)=(a==b):=by
 by_cases e:a=b
 ·subst e;simp
 ·have h:¬(e8 a:Key)=e8 b:=λq=>e (Sum.inl.inj q)
  rw[bP h];exact(nq.mpr e).symm
theorem aL2(a b:Str):ϒ ((je a:Key)=je b)=ϒ (a=b):=by
 by_cases e:a=b
 ·subst e;simp
 ·have h:¬(je a:Key)=je b:=λq=>e (Sum.inr.inj q)
  rw[bP h,bP e]
theorem aL3(a:ae)(b:Str):ϒ ((e8 a:Key)=je b)=ai:=bP (λq=>nomatch q)
theorem aL4(a:Str)(b:ae):ϒ ((je a:Key)=e8 b)=ai:=bP (λq=>nomatch q)
def cL(prog:br)(w:bg):PySem.KeyKind prog w Key where
 is:=O8
 hash:=aQs w
 inj:=λv a b ha hb=>by
  rcases dZ ha with ⟨i,t,rfl,rfl⟩|⟨x,t,rfl,rfl⟩
  ·rcases dZ hb with ⟨j,u,rfl,e⟩|⟨y,u,rfl,e⟩
   ·injection e with e1 _;rw[e1]
   ·exact nomatch e
  ·rcases dZ hb with ⟨j,u,rfl,e⟩|⟨y,u,rfl,e⟩
   ·exact nomatch e
   ·injection e with e1 _;rw[e1]
 byValue:=λk v h=>by
  rcases dZ h with ⟨i,t,rfl,rfl⟩|⟨x,t,rfl,rfl⟩<;>rfl
 pyHash:=λhv h=>by
  rcases dZ hv with ⟨i,t,rfl,rfl⟩|⟨x,t,rfl,rfl⟩
  ·exact wpAny_pyHash_int h
  ·exact wpAny_pyHash_str h
 eqBool:=λhu hv h=>by
  rcases dZ hu with ⟨i,t,rfl,rfl⟩|⟨x,t,rfl,rfl⟩
  ·rcases dZ hv with ⟨j,u,rfl,rfl⟩|⟨y,u,rfl,rfl⟩
   ·rw[aL1] at h;exact wpAny_eqBool_int h
   ·rw[aL3] at h;exact wo i t y u _ _ _ _ h
  ·rcases dZ hv with ⟨j,u,rfl,rfl⟩|⟨y,u,rfl,rfl⟩
   ·rw[aL4] at h;exact wt x t j u _ _ _ _ h
   ·rw[aL2] at h;exact wpAny_eqBool_str h
 «strs»:=λk x t v h=>by
  rcases dZ h with ⟨i,u,rfl,e⟩|⟨y,u,rfl,e⟩
  ·exact nomatch e
  ·injection e with e1 _
   subst e1;cases v<;>rfl
theorem O9(prog:br)(w:bg)(i:ae)(t:e9):(cL prog w).is (.inl i) (.int i t)=ag:=YM i t
theorem O_(prog:br)(w:bg)(x:Str)(t:e9):(cL prog w).is (.inr x) (.str x t)=ag:=YQ x t
inductive V where
 |non|bl (b:ap)|int (i:ae)|str (x:Str)|byt (b:aE UInt8)|flt (b:UInt64)|ref (a:ak)|ty (n:c4)
 deriving fc
def RelV:V->aj->Prop
 |.non,u=>u=jf
 |.bl b,u=>u=nr b
 |.int i,u=>∃t,u=sj i t
 |.str x,u=>∃t,u=sn x t
 |.byt b,u=>∃t,u=Value.bytes b t
 |.flt b,u=>∃t,u=Value.float b t
 |.ref a,u=>u=eR a
 |.ty n,u=>u=lx n
abbrev Vals:aa V->aa aj->Prop:=jg RelV
theorem Vals.length{xs:aa V}{us:aa aj}(r:Vals xs us):xs.length=us.length:=kj r
theorem Vals.get:∀{xs:aa V}{us:aa aj}{i:ah}{x:V},Vals xs us->xs[i]?=af x->∃u,us[i]?=af u/\RelV x u
 |_,_,_,_,.nil,e=>by simp at e
 |_,_,0,_,.cons r _,e=>by simp at e;subst e;exact⟨_,rfl,r⟩
 |_,_,i+1,x,.cons _ t,e=>by
  obtain⟨u,h1,h2⟩:=Vals.get (i:=i) (x:=x) t (by simpa using e);exact⟨u,by simpa using h1,h2⟩
theorem Vals.append:∀{xs ys:aa V}{us ws:aa aj},Vals xs us->Vals ys ws->Vals (xs++ys) (us++ws)
 |_,_,_,_,.nil,s=>s
 |_,_,_,_,.cons r t,s=>.cons r (Vals.append t s)
theorem Vals.take:∀{xs:aa V}{us:aa aj}(n:ah),Vals xs us->Vals (xs.take n) (us.take n)
 |_,_,0,_=>.nil
 |_,_,_+1,.nil=>.nil
 |_,_,n+1,.cons r t=>.cons r (Vals.take n t)
theorem Vals.drop:∀{xs:aa V}{us:aa aj}(n:ah),Vals xs us->Vals (xs.drop n) (us.drop n)
 |_,_,0,r=>r
 |_,_,_+1,.nil=>.nil
 |_,_,n+1,.cons _ t=>Vals.drop n t
def YH:av V->av aj->Prop
 |some v,af u=>RelV v u
 |none,am=>gL
 |_,_=>cg
def KV{κ:Type}:aa (κ×V)->aa (κ×aj)->Prop:=jg λ(p:κ×V)(q:κ×aj)=>p.1=q.1/\RelV p.2 q.2
noncomputable def kV:Key->V
 |.inl i=>.int i
 |.inr x=>.str x
inductive HO where
 |lst (xs:aa V)
 |tup (xs:aa V)
 |dK (kvs:aa (Key×V))|dT (kvs:aa (aa Key×V))
 |set (S:ae->ap) (n:ah)
 |ins (C dx:ak) (fs:aa (Str×V))
 |own (x:ak)
 |xd (fs:aa (Str×V))
 |met (f x:ak)
 |rng (lo hi:ae)
 |frz (o:ba) (u:HO)
 |tbl (ps:aE aj)
 |ext (φ:aI->Prop)
noncomputable abbrev Hp:=ak->av HO
noncomputable def upd(H:Hp)(a:ak)(o:HO):Hp:=λb=>if b=a then af o else H b
theorem aN{H:Hp}{a:ak}{o:HO}:upd H a o a=af o:=by unfold upd;rw[ar rfl]
theorem a_{H:Hp}{a b:ak}{o:HO}(h:b≠a):upd H a o b=H b:=by unfold upd;rw[aq h]
theorem wC{H:Hp}{a:ak}{o u:HO}:upd (upd H a o) a u=upd H a u:=by
 funext b;unfold upd;split<;>rfl
theorem aDn{H:Hp}{a b:ak}{o u:HO}(h:H a=af o)(h':H b=af u)(d:o≠u):a≠b:=by
 intro e;subst e;rw[h] at h';exact d (cr h')
theorem eV{H:Hp}{a b:ak}{o:HO}(h:H a=af o)(h':H b=am):a≠b:=by
 intro e;subst e;rw[h] at h';cases h'
def j8(h:aI)(a:ak)(its:aE aj):Prop:=∃o,h.get? a=af o/\o.cls=.type "tuple"/\∃n,(o.data,o.dict)=(wu its n,am)
theorem j8.tup{h:aI}{a:ak}{its:aE aj}(t:j8 h a its):ly h a its:=let ⟨o,e,c,n,d⟩:=t;⟨o,e,c,n,cm (·.1) d⟩
theorem j8.bare{h:aI}{a:ak}{its:aE aj}(t:j8 h a its):∃o,h.get? a=af o/\o.dict=am:=let ⟨o,e,_,_,d⟩:=t;⟨o,e,cm (·.2) d⟩
theorem j8.new(h:aI)(items:aE aj):j8 (h.push {cls:=.type "tuple",data:=.seq items}) h.objs.size items:=⟨_,c8 _ rfl,rfl,_,rfl⟩
section
variable (P:br) (w:bg)
def lA(H:Hp)(h:aI)(a:ak):HO->Prop
 |.lst xs=>xs.length<=bb/\∃(its:aa aj)(n:ah),Vals xs its/\h.get? a=af {cls:=.type "list",data:=.seq its.toArray n}
 |.tup xs=>xs.length<=bb/\∃its:aa aj,Vals xs its/\j8 h a its.toArray
 |.dK kvs=>kvs.length<=bb/\(a==ff)=ai/\∃vs,KV kvs vs/\h.DictOf (cL P w) a vs
 |.dT kvs=>kvs.length<=bb/\(a==ff)=ai/\∃xs:aa (aa Key×ak×aj),
   jg (λ(p:aa Key×V)(q:aa Key×ak×aj)=>p.1=q.1/\H q.2.1=af (.tup (p.1.map kV))/\RelV p.2 q.2.2) kvs xs/\
   ∃o es ep,h.get? a=af o/\o.ExactDict/\o.data=.dict es ep/\es.toList=xs.map (entryOfKey (iw (cL P w)))/\(xs.map (·.1)).Nodup
 |.set S n=>h.SetOf (intKind P w) a S n
 |.ins C dx fs=>H dx=af (.own a)/\fs.length<=1000/\dx≠a/\h.get? a=af (PySem.W.instObj C dx)/\
   ∃mA,h.Ns1 dx mA/\(∀f,YH (fs.lookup f) (mA f))/\wv mA (fs.map (·.1))
 |.own _=>∃o,h.get? a=af o
 |.xd fs=>∃mA,h.Ns1 a mA/\∀f,YH (fs.lookup f) (mA f)
 |.rng lo hi=>∃t u v,h.get? a=af {cls:=.type "range",data:=.fields #[.int lo t,.int hi u,.int 1 v]}
 |.frz o u=>h.get? a=af o/\lA H h a u
 |.tbl ps=>h.get? a=af {cls:=.none,data:=.fields ps}
 |.met f x=>h.get? a=af (so (.ref f) (.ref x))
 |.ext φ=>φ h/\(∃o,h.get? a=af o)/\∀h1 h2:aI,φ h1->(∀o,h1.get? a=af o->h2.get? a=af o)->φ h2
def HOk(H:Hp)(h:aI):Prop:=∀a o,H a=af o->lA P w H h a o
end
section
variable {P:br} {w:bg} {H H':Hp} {h h':aI} {a:ak} {o:HO}
theorem lA.lt(x:lA P w H h a o):a<h.objs.size:=by
 cases o with
 |lst xs=>obtain⟨_,_,_,_,e⟩:=x;exact bw e
 |tup xs=>obtain⟨_,_,_,p⟩:=x;exact p.tup.lt
 |dK kvs=>obtain⟨_,_,_,_,o,_,_,e,_⟩:=x;exact bw e
 |dT kvs=>obtain⟨_,_,_,_,o,_,_,e,_⟩:=x;exact bw e
 |set S n=>obtain⟨o,_,_,_,e,_⟩:=x;exact bw e
 |ins C dx fs=>obtain⟨_,_,_,e,_⟩:=x;exact bw e
 |own y=>obtain⟨_,e⟩:=x;exact bw e
 |xd fs=>obtain⟨_,⟨_,_,_,e,_⟩,_⟩:=x;exact bw e
 |rng lo hi=>obtain⟨_,_,_,e⟩:=x;exact bw e
 |frz ob u=>obtain⟨e,_⟩:=x;exact bw e
 |tbl ps=>exact bw (show h.get? a=af _ from x)
 |met f y=>exact bw (show h.get? a=af _ from x)
 |ext φ=>obtain⟨_,⟨_,e⟩,_⟩:=x;exact bw e
theorem Paired.aOo{α β:Type}{F G:α->β->Prop}:∀{l₁:aa α}{l₂:aa β},jg F l₁ l₂->(∀a b,F a b->G a b)->jg G l₁ l₂
 |_,_,.nil,_=>.nil
 |_,_,.cons r t,f=>.cons (f _ _ r) (Paired.aOo t f)
theorem lA.stay(x:lA P w H h a o)(k:∀b u,(b=a\/H b=af (.own a))->h.get? b=af u->h'.get? b=af u)
 (ho:∀b,H b=af (.own a)->H' b=af (.own a))(ht:∀b xs,H b=af (.tup xs)->H' b=af (.tup xs)):lA P w H' h' a o:=by
 induction o with
 |lst xs=>obtain⟨z,its,n,r,e⟩:=x;exact⟨z,its,n,r,k _ _ (.inl rfl) e⟩
 |tup xs=>obtain⟨z,its,r,ob,e,c⟩:=x;exact⟨z,its,r,ob,k _ _ (.inl rfl) e,c⟩
 |dK kvs=>obtain⟨z,y,vs,r,ob,es,ep,e,c⟩:=x;exact⟨z,y,vs,r,ob,es,ep,k _ _ (.inl rfl) e,c⟩
 |dT kvs=>
  obtain⟨z,y,xs,r,ob,es,ep,e,c⟩:=x;exact⟨z,y,xs,Paired.aOo r λp q z=>⟨z.1,ht _ _ z.2.1,z.2.2⟩,ob,es,ep,k _ _ (.inl rfl) e,c⟩
 |set S n=>obtain⟨ob,es,ep,t,e,c⟩:=x;exact⟨ob,es,ep,t,k _ _ (.inl rfl) e,c⟩
 |ins C dx fs=>
  obtain⟨d,z,ne,e,mA,⟨od,es,ep,e2,c⟩,r⟩:=x;exact⟨ho _ d,z,ne,k _ _ (.inl rfl) e,mA,⟨od,es,ep,k _ _ (.inr d) e2,c⟩,r⟩
 |own y=>obtain⟨ob,e⟩:=x;exact⟨ob,k _ _ (.inl rfl) e⟩
 |xd fs=>obtain⟨mA,⟨od,es,ep,e,c⟩,r⟩:=x;exact⟨mA,⟨od,es,ep,k _ _ (.inl rfl) e,c⟩,r⟩
 |rng lo hi=>obtain⟨t,u,v,e⟩:=x;exact⟨t,u,v,k _ _ (.inl rfl) e⟩
 |frz ob u ih=>obtain⟨e,q⟩:=x;exact⟨k _ _ (.inl rfl) e,ih q⟩
 |tbl ps=>
  have e:h.get? a=af {cls:=.none,data:=.fields ps}:=x;show h'.get? a=af {cls:=.none,data:=.fields ps};exact k a _ (.inl rfl) e
 |met f y=>
  have e:h.get? a=af (so (.ref f) (.ref y)):=x;show h'.get? a=af (so (.ref f) (.ref y));exact k a _ (.inl rfl) e
 |ext φ=>obtain⟨p,⟨o,e⟩,st⟩:=x;exact⟨st _ _ p λo q=>k _ _ (.inl rfl) q,⟨o,k _ _ (.inl rfl) e⟩,st⟩
theorem HOk.lt(x:HOk P w H h)(e:H a=af o):a<h.objs.size:=(x a o e).lt
theorem HOk.fresh(x:HOk P w H h)(e:h.objs.size<=a):H a=am:=by
 cases q:H a with
 |none=>rfl
 |some u=>exact az (du (x.lt q) e) (eJ _)
theorem HOk.kept(x:HOk P w H h)(k:∀b u,h.get? b=af u->h'.get? b=af u):HOk P w H h':=λa o e=>
 (x a o e).stay (λb u _ q=>k b u q) (λ_ q=>q) λ_ _ q=>q
theorem HOk.laid(x:HOk P w H h)(k:∀b u,h.get? b=af u->h'.get? b=af u)(hp:h.objs.size<=a)(new:lA P w (upd H a o) h' a o):HOk P w (upd H a o) h':=λb u e=>by
 have hn:=x.fresh hp;by_cases hb:b=a
 ·subst hb;rw[aN] at e;cases e;exact new
 ·rw[a_ hb] at e;exact(x b u e).stay (λc v _ q=>k c v q) (λc q=>by rw[a_ (eV q hn)];exact q) λc xs q=>by rw[a_ (eV q hn)];exact q
end
def Rd(H:Hp)(a:ak)(u:HO):Prop:=H a=af u\/∃o,H a=af (.frz o u)
theorem Rd.ok{P:br}{w:bg}{H:Hp}{h:aI}{a:ak}{u:HO}(r:Rd H a u)(x:HOk P w H h):lA P w H h a u:=by
 rcases r with r|⟨o,r⟩
 ·exact x a u r
 ·obtain⟨_,q⟩:=x a _ r;exact q
def Mut:av HO->Prop
 |some (.lst _)=>gL
 |some (.dK _)=>gL
 |some (.dT _)=>gL
 |some (.set _ _)=>gL
 |some (.ins _ _ _)=>gL
 |some (.ext _)=>gL
 |_=>cg
section
variable {P:br} {w:bg} {H:Hp} {h h':aI} {x e:ak} {o':HO}
theorem HOk.write(ok:HOk P w H h)(mu:Mut (H x))(he:e=x\/H e=af (.own x))(k:∀b u,b≠e->h.get? b=af u->h'.get? b=af u)(heo:∃u,h'.get? e=af u)
 (new:lA P w (upd H x o') h' x o'):HOk P w (upd H x o') h':=λb u q=>by
 have nown:∀c y,H c=af (.own y)->c≠x:=λc y r z=>by subst z;rw[r] at mu;exact mu
 have ntup:∀c xs,H c=af (.tup xs)->c≠x:=λc xs r z=>by subst z;rw[r] at mu;exact mu
 by_cases hb:b=x
 ·subst hb;rw[aN] at q;cases q;exact new
 ·rw[a_ hb] at q;by_cases hbe:b=e
  ·have q':H b=af (.own x):=by
    rcases he with z|z
    ·exact az (hbe.trans z) hb
    ·rw[hbe];exact z
   rw[q] at q';cases q';obtain⟨v,hv⟩:=heo;exact⟨v,by rw[hbe];exact hv⟩
  ·refine(ok b u q).stay (λc v hc r=>k c v ?_ r) (λc r=>by rw[a_ (nown c b r)];exact r) λc xs r=>by rw[a_ (ntup c xs r)];exact r
   rcases hc with rfl|hc
   ·exact hbe
   ·rintro rfl;rcases he with z|z
    ·exact nown c b hc z
    ·rw[hc] at z;cases z;exact hb rfl
end
structure Un(fs ex:aa ak)(H H':Hp)(h h':aI):Prop where
 keep:∀b o,h.get? b=af o->H b=am->b∉fs->b∉ex->h'.get? b=af o
 slot:∀b o,h.get? b=af o->H b=am->b∈fs->b∉ex->∃sl,h'.get? b=af {o with slots:=sl}
 free:∀b o,h.get? b=af o->H b=am->b∉ex->H' b=am
 there:∀b o,h.get? b=af o->b∉ex->∃o',h'.get? b=af o'
 tups:∀b xs,H b=af (.tup xs)->H' b=af (.tup xs)
 frzs:∀b o u,H b=af (.frz o u)->H' b=af (.frz o u)
 tbls:∀b ps,H b=af (.tbl ps)->∃more,H' b=af (.tbl (ps++more))
section
variable {fs ex:aa ak} {H H1:Hp} {h h1 h':aI} {a x e:ak} {o:HO}
theorem Un.any(u:Un fs ex H H1 h h1){b:ak}{ob:ba}(q:h.get? b=af ob)(n:H b=am)(hx:b∉ex):∃sl,h1.get? b=af {ob with slots:=sl}:=by
 by_cases hb:b∈fs
 ·exact u.slot b ob q n hb hx
 ·exact⟨ob.slots,u.keep b ob q n hb hx⟩
theorem Un.kept(k:∀b u,h.get? b=af u->h'.get? b=af u):Un fs ex H H h h':=
 ⟨λb ob q _ _ _=>k b ob q,λb ob q _ _ _=>⟨ob.slots,k b ob q⟩,λ_ _ _ n _=>n,λb ob q _=>⟨ob,k b ob q⟩,λ_ _ q=>q,λ_ _ _ q=>q,λ_ ps q=>⟨#[],by rw[q];simp⟩⟩
theorem Un.refl:Un fs ex H H h h:=Un.kept λ_ _ q=>q
theorem Un.laid(k:∀b u,h.get? b=af u->h'.get? b=af u)(hp:h.objs.size<=a)(hn:H a=am):Un fs ex H (upd H a o) h h' where
 keep:=λb u q _ _ _=>k b u q
 slot:=λb u q _ _ _=>⟨u.slots,k b u q⟩
 free:=λb u q n _=>by rw[a_ (cu (du (bw q) hp))];exact n
 there:=λb u q _=>⟨u,k b u q⟩
 tups:=λb xs q=>by rw[a_ (eV q hn)];exact q
 frzs:=λb u xs q=>by rw[a_ (eV q hn)];exact q
 tbls:=λb ps q=>⟨#[],by rw[a_ (eV q hn),q];simp⟩
theorem Un.write(mu:Mut (H x))(he:e=x\/H e=af (.own x))(k:∀b u,b≠e->h.get? b=af u->h'.get? b=af u)(heo:∃u,h'.get? e=af u):Un fs ex H (upd H x o) h h':=by
 have hx:∀b,H b=am->b≠x:=λb n z=>by subst z;rw[n] at mu;exact mu
 have hb:∀b,H b=am->b≠e:=λb n z=>by
  subst z;rcases he with r|r
  ·exact hx b n r
  ·rw[n] at r;cases r
 have hm:∀b u,H b=af u->¬Mut (af u)->b≠x:=λb u q nm z=>by subst z;rw[q] at mu;exact nm mu
 refine⟨λb u q n _ _=>k b u (hb b n) q,λb u q n _ _=>⟨u.slots,k b u (hb b n) q⟩,λb u q n _=>by rw[a_ (hx b n)];exact n,λb u q _=>?_,
  λb xs q=>by rw[a_ (hm b _ q λz=>z)];exact q,λb u xs q=>by rw[a_ (hm b _ q λz=>z)];exact q,λb ps q=>⟨#[],by rw[a_ (hm b _ q λz=>z),q];simp⟩⟩
 by_cases hbe:b=e
 ·subst hbe;exact heo
 ·exact⟨u,k b u hbe q⟩
end
noncomputable def trk(h:aI)(H:Hp):aa ak:=(bn h.objs.size).filter λa=>(H a).isSome
def aDo(h:aI)(H:Hp):aI:=PySem.W.hideAll h (trk h H)
theorem YS(h:aI)(H:Hp):(aDo h H).objs.size=h.objs.size:=PySem.W.hideAll_size _ _
theorem aDp{h:aI}{H:Hp}{b:ak}{o:ba}(e:h.get? b=af o)(n:H b=am):(aDo h H).get? b=af o:=
 PySem.W.hideAll_get _ e λhm=>by
  have q:(H b).isSome=ag:=(iz.mp hm).2;rw[n] at q;simp at q
theorem aH2{h:aI}{H:Hp}{b:ak}{o:ba}(e:(aDo h H).get? b=af o):h.get? b=af o/\H b=am:=by
 have e':h.get? b=af o:=PySem.W.of_hideAll (trk h H) e;refine⟨e',?_⟩;cases q:H b with
 |none=>rfl
 |some x=>
  have hm:b∈trk h H:=iz.mpr ⟨df.mpr (bw e'),by simp[q]⟩;have z:(aDo h H).get? b=am:=PySem.W.hideAll_none (trk h H) hm;rw[z] at e;cases e
structure Mod(K:bz)(mg:Str->av aj)(base:aI):Prop where
 kin:K.In base
 glob:base.Ns ck mg
 blt:∃mb,base.Ns su mb/\∀x:Str,x ≠ "__name__"->mb x=d3 x
 nolimit:base.NoLimit
/-- the context: a def's body (or a comprehension's block) running. base: fixed through the whole law;s₀,H₀: the entry;outer: the frames whose slots others may change (a def's callers);stack: all frames that run;
   ex: iterators that were made ahead of the entry and are walked here (a comprehension's);fn: the names whose cells were made at the entry (a def: all;a comprehension's block: its own);calm: not within an except suite;pn: Ψ that every state bears;xe: what is wanted of an exception that leaves the code -/
structure Cx where
 prog:br
 w:bg
 K:bz
 mg:Str->av aj
 base:aI
 A:bS
 N:aa Str
 s₀:ao
 H₀:Hp
 env:di
 outer:aa di
 stack:aa di
 ex:aa ak
 fn:Str->ap
 calm:ap
 pn:aa (ak×ba)
 xe:aj->ao->Prop
noncomputable def frs(l:aa di):aa ak:=l.filterMap (·.frame)
abbrev Cx.fs(X:Cx):aa ak:=frs X.outer
def Vis(sc:fg)(x:Str):Prop:=sc.names.lookup x=af .local\/sc.names.lookup x=af .cell\/sc.names.lookup x=af .free
def Loc(sc:fg)(x:Str):Prop:=sc.names.lookup x=af .local\/sc.names.lookup x=af .cell
def Look(env:di)(h:aI)(m:Str->av aj)(x:Str)(u:aj):Prop:=
 (env.kindOf x=af .local/\m x=af u)\/((env.kindOf x=af .cell\/env.kindOf x=af .free)/\∃c,env.cells.lookup x=af c/\h.IsCell c (af u))
structure Cx.Ok(X:Cx):Prop where
 mod:Mod X.K X.mg X.base
 kind:X.env.scope.kind=.function
 glob:X.env.globals=ck
 blt:X.env.builtins=su
 above:X.s₀.heap.objs.size<=X.env.locals
 inj:∀x y c,X.env.cells.lookup x=af c->X.env.cells.lookup y=af c->x=y
 has:∀x,(X.env.kindOf x=af .cell\/X.env.kindOf x=af .free)->∃c,X.env.cells.lookup x=af c
 cab:∀x c,X.fn x=ag->X.env.cells.lookup x=af c->X.s₀.heap.objs.size<=c
 hd:X.calm=ag->X.A.handled=am
 frames:X.A.frames=af X.stack
 stk:X.stack=X.outer\/(X.stack=X.env::X.outer/\X.env.frame=af X.env.locals)
 exf:∀b∈X.ex,b≠X.env.locals/\∀x c,X.env.cells.lookup x=af c->c≠b
 bs:∀b o,X.base.get? b=af o->X.s₀.heap.get? b=af o/\X.H₀ b=am
 bsz:X.base.objs.size<=X.s₀.heap.objs.size
 noex:∀b o,X.base.get? b=af o->b∉X.ex
 exfs:∀b∈X.ex,b∉X.fs
 YT:X.s₀.heap.FunFrames X.base X.outer
 frf:∀b∈X.fs,X.H₀ b=am
structure Inv(X:Cx)(Ψ:aa (ak×ba))(σ:aa (av V))(H:Hp)(s:ao):Prop where
 ok:X.Ok
 os:s.os=X.s₀.os
 bare:iA s.gens
 base:Un X.fs X.ex X.H₀ H X.s₀.heap s.heap
 loc:∃m,s.heap.Ns X.env.locals m/\∀(i:ah)(x:Str)(v:V),X.N[i]?=af x->σ[i]?=af (af v)->Vis X.env.scope x->∃u,RelV v u/\Look X.env s.heap m x u
 cell:∀x c,X.env.cells.lookup x=af c->∃v,s.heap.IsCell c v
 free:H X.env.locals=am
 freeC:∀x c,X.env.cells.lookup x=af c->H c=am
 pin:∀p∈X.pn++Ψ,s.heap.get? p.1=af p.2/\H p.1=am/\p.1≠X.env.locals/\p.1∉X.fs/\∀v,p.2.data≠.cell v
 hok:HOk X.prog X.w H s.heap
 len:σ.length=X.N.length
section
variable {X:Cx} {Ψ:aa (ak×ba)} {σ:aa (av V)} {H H':Hp} {s:ao} {h':aI}
theorem Cx.Ok.aQt(ok:X.Ok){b:ak}{o:ba}(e:X.base.get? b=af o):b∉X.fs:=λhb=>by
 have:=(ok.YT.mem hb).1;rw[e] at this;cases this
theorem Inv.bs(I:Inv X Ψ σ H s):∀b o,X.base.get? b=af o->s.heap.get? b=af o/\H b=am:=λb o e=>
 ⟨I.base.keep b o (I.ok.bs b o e).1 (I.ok.bs b o e).2 (I.ok.aQt e) (I.ok.noex b o e),I.base.free b o (I.ok.bs b o e).1 (I.ok.bs b o e).2 (I.ok.noex b o e)⟩
theorem Inv.bk(I:Inv X Ψ σ H s):∀b o,X.base.get? b=af o->s.heap.get? b=af o:=λb o e=>(I.bs b o e).1
theorem Inv.mod(I:Inv X Ψ σ H s):Mod X.K X.mg X.base:=I.ok.mod
theorem Inv.kIn(I:Inv X Ψ σ H s):X.K.In s.heap:=I.ok.mod.kin.keeps I.bk
theorem Inv.lt(I:Inv X Ψ σ H s):X.env.locals<s.heap.objs.size:=let ⟨_,hn,_⟩:=I.loc;hn.lt
theorem Inv.sz(I:Inv X Ψ σ H s):X.s₀.heap.objs.size<=s.heap.objs.size:=c6 I.ok.above (kl I.lt)
theorem Inv.aQb(I:Inv X Ψ σ H s){a:ak}(h:s.heap.objs.size<=a):a∉X.fs:=λhb=>by
 obtain⟨_,o,ho,_⟩:=I.ok.YT.mem hb;exact az (du (bw ho) (c6 I.sz h)) (eJ _)
theorem Inv.cne(I:Inv X Ψ σ H s):∀x c,X.env.cells.lookup x=af c->c≠X.env.locals:=λx c e z=>by
 obtain⟨v,o,ho,hd⟩:=I.cell x c e;obtain⟨m,⟨o',es,ep,ho',hd',_⟩,_⟩:=I.loc;rw[z,ho'] at ho;cases ho;rw[hd'] at hd;cases hd
theorem Inv.YT(I:Inv X Ψ σ H s):s.heap.FunFrames X.base X.outer:=by
 have all:∀(l:aa di),(∀b∈frs l,b∈X.fs)->X.s₀.heap.FunFrames X.base l->s.heap.FunFrames X.base l:=by
  intro l;induction l with
  |nil=>intro _ _;trivial
  |cons env r ih=>
   intro hs hl;obtain⟨hk,⟨L,o,hf,hn,ho,hd⟩,hr⟩:=hl;have hL:L∈X.fs:=hs L (by unfold frs;rw[sv,hf];exact bh);obtain⟨sl,e⟩:=I.base.slot L o ho (I.ok.frf L hL) hL λz=>I.ok.exfs L z hL
   exact⟨hk,⟨L,_,hf,hn,e,hd⟩,ih (λb hb=>hs b (by unfold frs;rw[sv,hf];exact bf _ hb)) hr⟩
 exact all X.outer (λ_ hb=>hb) I.ok.YT
theorem Inv.stack(I:Inv X Ψ σ H s):s.heap.FunFrames X.base X.stack:=by
 rcases I.ok.stk with e|⟨e,hf⟩
 ·rw[e];exact I.YT
 ·rw[e];obtain⟨m,hn,_⟩:=I.loc;refine .cons (by rw[I.ok.kind];decide) hf hn ?_ I.YT;exact Heap.get?_none_of_le (c6 I.ok.bsz I.ok.above)
theorem Inv.R7(I:Inv X Ψ σ H s):∀b∈frs X.stack,b∈X.env.locals::X.fs:=λb hb=>by
 rcases I.ok.stk with e|⟨e,hf⟩
 ·rw[e] at hb;exact bf _ hb
 ·rw[e] at hb;unfold frs at hb;rw[sv,hf] at hb;exact hb
theorem Inv.YW(I:Inv X Ψ σ H s):∀b∈frs X.stack,H b=am:=λb hb=>by
 rcases bd.mp (I.R7 b hb) with e|hb
 ·rw[e];exact I.free
 ·obtain⟨_,o,ho,_⟩:=I.ok.YT.mem hb;exact I.base.free b o ho (I.ok.frf b hb) λz=>I.ok.exfs b z hb
theorem Inv.step{g':aE km}{t':ah}{d':kn}{ch:aa ak}(I:Inv X Ψ σ H s)
 (hch:∀b∈ch,(b∈X.ex\/X.s₀.heap.objs.size<=b)/\b≠X.env.locals/\(∀x c,X.env.cells.lookup x=af c->c≠b)/\∀p∈X.pn++Ψ,p.1≠b)
 (keep:∀b o,b≠X.env.locals->b∉X.fs->b∉ch->s.heap.get? b=af o->H b=am->h'.get? b=af o)
 (slot:∀b o,b≠X.env.locals->b∈X.fs->b∉ch->s.heap.get? b=af o->H b=am->∃sl,h'.get? b=af {o with slots:=sl})(free:∀b o,b∉ch->s.heap.get? b=af o->H b=am->H' b=am)
 (there:∀b o,b∉ch->s.heap.get? b=af o->∃o',h'.get? b=af o')
 (tups:∀b xs,H b=af (.tup xs)->H' b=af (.tup xs))(frzs:∀b o u,H b=af (.frz o u)->H' b=af (.frz o u))(tbls:∀b ps,H b=af (.tbl ps)->∃more,H' b=af (.tbl (ps++more)))
 (ns:∀m,s.heap.Ns X.env.locals m->h'.Ns X.env.locals m)(hok:HOk X.prog X.w H' h')(hg:iA g') :
  Inv X Ψ σ H' {s with heap:=h',gens:=g',drawn:=d',toks:=t'}:=by
 have neL:∀b o,X.s₀.heap.get? b=af o->b≠X.env.locals:=λb o e=>cu (du (bw e) I.ok.above)
 have neC:∀b o,X.s₀.heap.get? b=af o->b∉X.ex->b∉ch:=λb o e hx hb=>by
  rcases(hch b hb).1 with z|z
  ·exact hx z
  ·exact az (du (bw e) z) (eJ _)
 have cellK:∀x c,X.env.cells.lookup x=af c->∀v,s.heap.IsCell c v->h'.IsCell c v:=λx c e v ⟨o,ho,hd⟩=>by
  have nch:c∉ch:=λz=>(hch c z).2.2.1 x c e rfl
  by_cases hc:c∈X.fs
  ·obtain⟨sl,q⟩:=slot c o (I.cne x c e) hc nch ho (I.freeC x c e);exact⟨_,q,hd⟩
  ·exact⟨o,keep c o (I.cne x c e) hc nch ho (I.freeC x c e),hd⟩
 refine⟨I.ok,I.os,hg,⟨λb o e n hb hx=>?_,λb o e n hb hx=>?_,λb o e n hx=>?_,λb o e hx=>?_,λb xs e=>tups b xs (I.base.tups b xs e),λb o xs e=>frzs b o xs (I.base.frzs b o xs e),λb ps e=>?_⟩,?_,λx c e=>?_,?_,λx c e=>?_,λp hp=>?_,hok,I.len⟩
 ·exact keep b o (neL b o e) hb (neC b o e hx) (I.base.keep b o e n hb hx) (I.base.free b o e n hx)
 ·obtain⟨sl,e1⟩:=I.base.slot b o e n hb hx;obtain⟨sl',e2⟩:=slot b _ (neL b o e) hb (neC b o e hx) e1 (I.base.free b o e n hx);exact⟨sl',e2⟩
 ·obtain⟨o',e1⟩:=I.base.there b o e hx;exact free b o' (neC b o e hx) e1 (I.base.free b o e n hx)
 ·obtain⟨o',e1⟩:=I.base.there b o e hx;exact there b o' (neC b o e hx) e1
 ·obtain⟨m1,e1⟩:=I.base.tbls b ps e;obtain⟨m2,e2⟩:=tbls b _ e1;exact⟨m1++m2,by rw[e2,Array.append_assoc]⟩
 ·obtain⟨m,hn,hl⟩:=I.loc;refine⟨m,ns m hn,λi x v e1 e2 e3=>?_⟩;obtain⟨u,r,l⟩:=hl i x v e1 e2 e3;refine⟨u,r,?_⟩;rcases l with l|⟨k,c,e,z⟩
  ·exact .inl l
  ·exact .inr ⟨k,c,e,cellK x c e _ z⟩
 ·obtain⟨v,z⟩:=I.cell x c e;exact⟨v,cellK x c e v z⟩
 ·obtain⟨m,⟨o,_,_,ho,_⟩,_⟩:=I.loc;exact free _ o (λz=>(hch _ z).2.1 rfl) ho I.free
 ·obtain⟨v,o,ho,hd⟩:=I.cell x c e;exact free c o (λz=>(hch c z).2.2.1 x c e rfl) ho (I.freeC x c e)
 ·obtain⟨e,n,ne,nf,d⟩:=I.pin p hp;have nch:p.1∉ch:=λz=>(hch p.1 z).2.2.2 p hp rfl
  exact⟨keep p.1 p.2 ne nf nch e n,free p.1 p.2 nch e n,ne,nf,d⟩
theorem Inv.un{t':ah}(I:Inv X Ψ σ H s)(u:Un X.fs [] H H' s.heap h')(hok:HOk X.prog X.w H' h'):Inv X Ψ σ H' {s with heap:=h',toks:=t'}:=by
 obtain⟨m,⟨o,es,ep,ho,r⟩,_⟩:=id I.loc;obtain⟨sl,hL⟩:=u.any ho I.free (by simp);exact I.step (g':=s.gens) (d':=s.drawn) (ch:=[]) (λ_ z=>nomatch z) (λb o _ hb _ e n=>u.keep b o e n hb (by simp)) (λb o _ hb _ e n=>u.slot b o e n hb (by simp)) (λb o _ e n=>u.free b o e n (by simp)) (λb o _ e=>u.there b o e (by simp)) u.tups u.frzs u.tbls (λm' hm=>by
  obtain⟨o',es',ep',ho',r'⟩:=hm;rw[ho] at ho';cases ho';exact⟨_,es',ep',hL,r'⟩) hok I.bare
theorem Inv.call{g':aE km}{t':ah}{d':kn}{ch:aa ak}(I:Inv X Ψ σ H s)(u:Un (frs X.stack) ch H H' s.heap h')(hok:HOk X.prog X.w H' h')(hg:iA g')
 (hch:∀b∈ch,(b∈X.ex\/X.s₀.heap.objs.size<=b)/\b≠X.env.locals/\(∀x c,X.env.cells.lookup x=af c->c≠b)/\∀p∈X.pn++Ψ,p.1≠b) :
  Inv X Ψ σ H' {s with heap:=h',gens:=g',drawn:=d',toks:=t'}:=by
 obtain⟨m,⟨o,es,ep,ho,r⟩,_⟩:=id I.loc;obtain⟨sl,hL⟩:=u.any ho I.free λz=>(hch _ z).2.1 rfl
 exact I.step (ch:=ch) hch (λb o hL hb hc e n=>u.keep b o e n (λz=>(bd.mp (I.R7 b z)).elim hL hb) hc) (λb o _ _ hc e n=>u.any e n hc) (λb o hc e n=>u.free b o e n hc) (λb o hc e=>u.there b o e hc) u.tups u.frzs u.tbls (λm' hm=>by
  obtain⟨o',es',ep',ho',r'⟩:=hm;rw[ho] at ho';cases ho';exact⟨_,es',ep',hL,r'⟩) hok hg
theorem Inv.turned{t':ah}{it:ak}(I:Inv X Ψ σ H s)(k:∀b o,b≠it->s.heap.get? b=af o->h'.get? b=af o)(hn:H it=am)(hL:it≠X.env.locals)
 (h1:it∈X.ex\/X.s₀.heap.objs.size<=it)(h2:∀x c,X.env.cells.lookup x=af c->c≠it)(h3:∀p∈X.pn++Ψ,p.1≠it):Inv X Ψ σ H {s with heap:=h',toks:=t'}:=by
 have nit:∀b u,H b=af u->b≠it:=λb u e z=>by rw[z,hn] at e;cases e
 refine I.step (g':=s.gens) (d':=s.drawn) (ch:=[it]) (λb hb=>?_) (λb o _ _ hc e _=>k b o (λz=>hc (by simp[z])) e) (λb o _ _ hc e _=>⟨o.slots,k b o (λz=>hc (by simp[z])) e⟩) (λ_ _ _ _ n=>n)
  (λb o hc e=>⟨o,k b o (λz=>hc (by simp[z])) e⟩) (λ_ _ e=>e) (λ_ _ _ e=>e) (λb ps e=>⟨#[],by rw[e];simp⟩) (λm hm=>?_) (λb u e=>?_) I.bare
 ·have e:b=it:=by simpa using hb
  subst e;exact⟨h1,hL,h2,h3⟩
 ·obtain⟨o,es,ep,ho,r⟩:=hm;exact⟨o,es,ep,k _ o (Ne.symm hL) ho,r⟩
 ·refine(I.hok b u e).stay (λc v hc q=>k c v ?_ q) (λ_ q=>q) λ_ _ q=>q
  rcases hc with z|z
  ·rw[z];exact nit b u e
  ·exact nit c _ z
theorem Inv.tok(I:Inv X Ψ σ H s)(t:ah):Inv X Ψ σ H {s with toks:=t}:=I.un (h':=s.heap) (t':=t) Un.refl I.hok
theorem Inv.kept{t':ah}(I:Inv X Ψ σ H s)(k:∀b u,s.heap.get? b=af u->h'.get? b=af u):Inv X Ψ σ H {s with heap:=h',toks:=t'}:=I.un (Un.kept k) (I.hok.kept k)
theorem Inv.laid{a:ak}{o:HO}{t':ah}(I:Inv X Ψ σ H s)(k:∀b u,s.heap.get? b=af u->h'.get? b=af u)(hp:s.heap.objs.size<=a)(new:lA X.prog X.w (upd H a o) h' a o) :
  Inv X Ψ σ (upd H a o) {s with heap:=h',toks:=t'}:=I.un (Un.laid k hp (I.hok.fresh hp)) (I.hok.laid k hp new)
theorem Inv.write{x e:ak}{o:HO}{t':ah}(I:Inv X Ψ σ H s)(mu:Mut (H x))(he:e=x\/H e=af (.own x))(k:∀b u,b≠e->s.heap.get? b=af u->h'.get? b=af u)(heo:∃u,h'.get? e=af u)
 (new:lA X.prog X.w (upd H x o) h' x o):Inv X Ψ σ (upd H x o) {s with heap:=h',toks:=t'}:=I.un (Un.write mu he k heo) (I.hok.write mu he k heo new)
theorem Inv.weak{σ':aa (av V)}(I:Inv X Ψ σ H s)(hl:σ'.length=σ.length)(w:∀(i:ah) v,σ'[i]?=af (af v)->σ[i]?=af (af v)):Inv X Ψ σ' H s:=
 ⟨I.ok,I.os,I.bare,I.base,let ⟨m,hn,hl'⟩:=I.loc;⟨m,hn,λi x v e1 e2 e3=>hl' i x v e1 (w i v e2) e3⟩,I.cell,I.free,I.freeC,I.pin,I.hok,hl.trans I.len⟩
theorem Inv.PB{pins':aa (ak×ba)}(I:Inv X Ψ σ H s)(h:∀p∈pins',s.heap.get? p.1=af p.2/\H p.1=am/\p.1≠X.env.locals/\p.1∉X.fs/\∀v,p.2.data≠.cell v):Inv X pins' σ H s:=
 ⟨I.ok,I.os,I.bare,I.base,I.loc,I.cell,I.free,I.freeC,λp hp=>(cf.mp hp).elim (λz=>I.pin p (dq _ z)) (h p),I.hok,I.len⟩
theorem R8{N:aa Str}(hN:N.Nodup){i j:ah}{x:Str}(a:N[i]?=af x)(b:N[j]?=af x):i=j:=by
 obtain⟨h1,e1⟩:=c9.mp a;obtain⟨h2,e2⟩:=c9.mp b;exact(List.getElem_inj hN).mp (e1.trans e2.symm)
theorem YX{M:ko}{A:bS}{E:aj->ao->Prop}{i:ah}{x:Str}{v:V}{u:aj}{Q:kq->ao->Prop}(I:Inv X Ψ σ H s)(hN:X.N.Nodup)(hi:X.N[i]?=af x)(hx:Loc X.env.scope x)(r:RelV v u)
 (h:∀s',Inv X Ψ (σ.set i (af v)) H s'->(∃a,kt a s.heap s'.heap/\(a=X.env.locals\/X.env.cells.lookup x=af a))->Q () s')(hf:X.fn x=ag\/X.env.scope.names.lookup x=af .local:=by first|exact .inl rfl|exact .inr rfl|assumption):ϑ M A (storeName X.env x u) Q E s:=by
 obtain⟨m,hn,hl⟩:=id I.loc;have hcls:(X.env.scope.kind==.class||(X.env.scope.kind==.module&&X.env.locals !=X.env.globals))=ai:=by rw[I.ok.kind];rfl
 have hiσ:i<σ.length:=by rw[I.len];exact(c9.mp hi).1
 have cne:=I.cne;have tracked:∀{a:ak}{h':aI},(∃o,s.heap.get? a=af o/\H a=am)->kt a s.heap h'->HOk X.prog X.w H h':=λ{a h'} ha hs b ob e=>by
  obtain⟨_,_,hfree⟩:=ha;refine(I.hok b ob e).stay (λc w' hc q=>(hs.2 c ?_).trans q) (λ_ q=>q) λ_ _ q=>q
  rintro rfl;rcases hc with rfl|hc
  ·rw[hfree] at e;cases e
  ·rw[hfree] at hc;cases hc
 rcases hx with hk|hk
 ·refine wpAny_storeName_local hk hn (λh' hn' hs=>?_) hcls;obtain⟨oL,_,_,hoL,_⟩:=id hn;refine h _ ⟨I.ok,I.os,I.bare,⟨λb o e n hb hx=>?_,λb o e n hb hx=>?_,I.base.free,λb o e hx=>?_,I.base.tups,I.base.frzs,I.base.tbls⟩,⟨_,hn',λj y v' e1 e2 e3=>?_⟩,λy c e=>?_,I.free,I.freeC,λp hp=>?_,tracked ⟨oL,hoL,I.free⟩ hs,by simpa using I.len⟩ ⟨_,hs,.inl rfl⟩
  ·exact(hs.2 b (cu (du (bw e) I.ok.above))).trans (I.base.keep b o e n hb hx)
  ·obtain⟨sl,e1⟩:=I.base.slot b o e n hb hx;exact⟨sl,(hs.2 b (cu (du (bw e) I.ok.above))).trans e1⟩
  ·obtain⟨o',e1⟩:=I.base.there b o e hx;exact⟨o',(hs.2 b (cu (du (bw e) I.ok.above))).trans e1⟩
  ·by_cases hj:j=i
   ·subst hj;rw[hi] at e1;cases e1;rw[fT hiσ] at e2;cases e2;exact⟨u,r,.inl ⟨hk,by simp⟩⟩
   ·rw[dw (Ne.symm hj)] at e2;obtain⟨u',r',q⟩:=hl j y v' e1 e2 e3;refine⟨u',r',?_⟩;rcases q with ⟨k,e⟩|⟨k,c,e,z⟩
    ·refine .inl ⟨k,?_⟩;have:y≠x:=λe=>hj (R8 hN e1 (e▸hi))
     simp[this,e]
    ·exact .inr ⟨k,c,e,z.sameBut hs (cne y c e)⟩
  ·obtain⟨w',z⟩:=I.cell y c e;exact⟨w',z.sameBut hs (cne y c e)⟩
  ·obtain⟨e,n,ne,nf,d⟩:=I.pin p hp;exact⟨(hs.2 p.1 ne).trans e,n,ne,nf,d⟩
 ·have hfn:X.fn x=ag:=by
   rcases hf with z|z
   ·exact z
   ·rw[z] at hk;cases hk
  obtain⟨c,hc⟩:=I.ok.has x (.inl hk);obtain⟨w',z⟩:=I.cell x c hc;refine wpAny_storeName_cell I.ok.kind hk hc z (λh' hc' hs=>?_);obtain⟨oc,hoc,hocd⟩:=id z;refine h {s with heap:=h'} ⟨I.ok,I.os,I.bare,⟨λb o e n hb hx=>?_,λb o e n hb hx=>?_,I.base.free,λb o e hx=>?_,I.base.tups,I.base.frzs,I.base.tbls⟩,⟨m,hn.sameBut hs (Ne.symm (cne x c hc)),λj y v' e1 e2 e3=>?_⟩,λy c' e=>?_,I.free,I.freeC,λp hp=>?_,tracked ⟨oc,hoc,I.freeC x c hc⟩ hs,by simpa using I.len⟩ ⟨c,hs,.inr hc⟩
  ·exact(hs.2 b (cu (du (bw e) (I.ok.cab x c hfn hc)))).trans (I.base.keep b o e n hb hx)
  ·obtain⟨sl,e1⟩:=I.base.slot b o e n hb hx;exact⟨sl,(hs.2 b (cu (du (bw e) (I.ok.cab x c hfn hc)))).trans e1⟩
  ·obtain⟨o',e1⟩:=I.base.there b o e hx;exact⟨o',(hs.2 b (cu (du (bw e) (I.ok.cab x c hfn hc)))).trans e1⟩
  ·by_cases hj:j=i
   ·subst hj;rw[hi] at e1;cases e1;rw[fT hiσ] at e2;cases e2;exact⟨u,r,.inr ⟨.inl hk,c,hc,hc'⟩⟩
   ·rw[dw (Ne.symm hj)] at e2;obtain⟨u',r',q⟩:=hl j y v' e1 e2 e3;refine⟨u',r',?_⟩;rcases q with q|⟨k,c',e,z'⟩
    ·exact .inl q
    ·refine .inr ⟨k,c',e,z'.sameBut hs ?_⟩;rintro rfl;exact hj (R8 hN e1 (I.ok.inj _ _ _ e hc▸hi))
  ·by_cases hcc:c'=c
   ·subst hcc;exact⟨_,hc'⟩
   ·obtain⟨w2,z2⟩:=I.cell y c' e;exact⟨w2,z2.sameBut hs hcc⟩
  ·obtain⟨e,n,ne,nf,d⟩:=I.pin p hp;refine⟨(hs.2 p.1 ?_).trans e,n,ne,nf,d⟩;intro q;rw[q,hoc] at e;have q':oc=p.2:=cr e;exact d w' (by rw[<-q'];exact hocd)
theorem R9{M:ko}{A:bS}{E:aj->ao->Prop}{i:ah}{x:Str}{v:V}{u:aj}{Q:kq->ao->Prop}(I:Inv X Ψ σ H s)(hN:X.N.Nodup)(hi:X.N[i]?=af x)(hx:Loc X.env.scope x)(r:RelV v u)
 (h:∀s',Inv X Ψ (σ.set i (af v)) H s'->Q () s')(hf:X.fn x=ag\/X.env.scope.names.lookup x=af .local:=by first|exact .inl rfl|exact .inr rfl|assumption):ϑ M A (storeName X.env x u) Q E s:=
 YX I hN hi hx r (λs' I' _=>h s' I') hf
end
abbrev XK:=aj->av ak->Hp->Prop
noncomputable abbrev St:=aa (av V)
abbrev VK:=V->Hp->Prop
abbrev TE:=St->Hp->VK->Prop
abbrev TT:=St->Hp->(ap->Hp->Prop)->Prop
abbrev TA:=St->Hp->(aa V->Hp->Prop)->Prop
structure Ends where
 nx:St->Hp->Prop
 rt:VK
 bk:St->Hp->Prop:=λ_ _=>cg
 ct:St->Hp->Prop:=λ_ _=>cg
abbrev TS:=Ends->St->Hp->Prop
def EP(X:Cx)(Ψ:aa (ak×ba))(σ:St)(Q:VK)(u:aj)(s':ao):Prop:=∃v H',Inv X Ψ σ H' s'/\RelV v u/\Q v H'
def TP(X:Cx)(Ψ:aa (ak×ba))(σ:St)(Q:ap->Hp->Prop)(b:ap)(s':ao):Prop:=∃H',Inv X Ψ σ H' s'/\Q b H'
def AP(X:Cx)(Ψ:aa (ak×ba))(σ:St)(Q:aa V->Hp->Prop)(us:aa aj)(s':ao):Prop:=∃vs H',Inv X Ψ σ H' s'/\Vals vs us/\Q vs H'
def SP(X:Cx)(Ψ:aa (ak×ba))(D:Ends)(f:Flow)(s':ao):Prop:=
 match f with
 |.next=>∃σ' H',Inv X Ψ σ' H' s'/\D.nx σ' H'
 |.brk=>∃σ' H',Inv X Ψ σ' H' s'/\D.bk σ' H'
 |.cont=>∃σ' H',Inv X Ψ σ' H' s'/\D.ct σ' H'
 |.ret u=>∃v σ' H',Inv X Ψ σ' H' s'/\RelV v u/\D.rt v H'
def PE(X:Cx)(e:Expr)(t:TE):Prop:=
 ∀(Ψ:aa (ak×ba))(s:ao)(σ:St)(H:Hp)(Q:VK),Inv X Ψ σ H s->t σ H Q->ϑ (aw X.prog X.w) X.A (bE e X.env) (EP X Ψ σ Q) X.xe s
def PT(X:Cx)(e:Expr)(t:TT):Prop:=
 ∀(Ψ:aa (ak×ba))(s:ao)(σ:St)(H:Hp)(Q:ap->Hp->Prop),Inv X Ψ σ H s->t σ H Q->ϑ (aw X.prog X.w) X.A (nu e X.env (bE e X.env)) (TP X Ψ σ Q) X.xe s
def PW(X:Cx)(e:Expr)(t:TT):Prop:=
 ∀(whole:f_ aj)(Ψ:aa (ak×ba))(s:ao)(σ:St)(H:Hp)(Q:ap->Hp->Prop),Inv X Ψ σ H s->t σ H Q->ϑ (aw X.prog X.w) X.A (nu e X.env whole) (TP X Ψ σ Q) X.xe s
theorem PW.pt{X:Cx}{e:Expr}{t:TT}(h:PW X e t):PT X e t:=h _
def PA(X:Cx)(es:aa Expr)(t:TA):Prop:=
 ∀(pos:bo)(Ψ:aa (ak×ba))(s:ao)(σ:St)(H:Hp)(Q:aa V->Hp->Prop),Inv X Ψ σ H s->t σ H Q->ϑ (aw X.prog X.w) X.A (sx (eo pos (bp es X.env))) (AP X Ψ σ Q) X.xe s
def PS(X:Cx)(st:bi)(t:TS):Prop:=
 ∀(Ψ:aa (ak×ba))(s:ao)(σ:St)(H:Hp)(D:Ends),Inv X Ψ σ H s->t D σ H->ϑ (aw X.prog X.w) X.A (exec st X.env) (SP X Ψ D) X.xe s
def PSs(X:Cx)(st:aa bi)(t:TS):Prop:=
 ∀(Ψ:aa (ak×ba))(s:ao)(σ:St)(H:Hp)(D:Ends),Inv X Ψ σ H s->t D σ H->ϑ (aw X.prog X.w) X.A (execs st X.env) (SP X Ψ D) X.xe s
theorem thn{α:Type}{t:f_ α}{Q Q':α->ao->Prop}{M:ko}{A:bS}{E:aj->ao->Prop}{s:ao}(h:ϑ M A t Q E s)(hQ:∀a s,Q a s->Q' a s):ϑ M A t Q' E s:=eB h hQ λ_ _ x=>x
section
variable {X:Cx}
noncomputable def aQu(i:ah):TE:=λσ H Q=>∃v,σ[i]?=af (af v)/\Q v H
noncomputable def tC(v:V):TE:=λ_ H Q=>Q v H
theorem j9{i:ah}{x:Str}{pos:bo}(hN:X.N[i]?=af x)(hv:Vis X.env.scope x)(hd:nDb x:=by decide)(hcd:nCd x:=by decide):PE X (.Name x pos) (aQu i):=by
 intro Ψ s σ H Q I h;obtain⟨v,e,h⟩:=h;obtain⟨m,hn,hl⟩:=I.loc;obtain⟨u,r,l⟩:=hl i x v hN e hv;have fin:EP X Ψ σ Q u s:=⟨v,H,I,r,h⟩
 rcases l with ⟨hk,hm⟩|⟨hk,c,hc,hcell⟩
 ·exact sy (wpAny_loadName_local I.ok.kind hk hn hm fin) hd
 ·rcases hk with hk|hk
  ·exact sy (wpAny_loadName_cell I.ok.kind hk hc hcell fin) hd
  ·exact sy (wpAny_loadName_free I.ok.kind hk hc hcell fin hcd) hd
theorem aL5{i j pos}:PE X (.Constant (.int i) j pos) (tC (.int i)):=λ_ _ _ H _ I h=>wx ⟨.int i,H,I.tok _,⟨_,rfl⟩,h⟩
theorem aOp{b j pos}:PE X (.Constant (.bool b) j pos) (tC (.bl b)):=λ_ _ _ H _ I h=>Constant_bool ⟨.bl b,H,I,rfl,h⟩
theorem aL6{j pos}:PE X (.Constant .none j pos) (tC .non):=λ_ _ _ H _ I h=>Constant_none ⟨.non,H,I,rfl,h⟩
theorem aL7{x j pos}:PE X (.Constant (.str x) j pos) (tC (.str x)):=λ_ _ _ H _ I h=>Calls.Constant_str ⟨.str x,H,I.tok _,⟨_,rfl⟩,h⟩
def Gl(X:Cx)(x:Str):Prop:=X.env.kindOf x=af .globalImplicit
theorem aH3{E:aj->ao->Prop}{Ψ:aa (ak×ba)}{s:ao}{σ:St}{H:Hp}{x:Str}{u:aj}{pos:bo}{Q:aj->ao->Prop}(I:Inv X Ψ σ H s)(hg:Gl X x)(hm:X.mg x=af u)(h:Q u s)
 (hd:nDb x:=by decide):ϑ (aw X.prog X.w) X.A (bE (.Name x pos) X.env) Q E s:=
 wy I.ok.kind hg (Calls.loadGlobal_global (by rw[I.ok.glob];exact I.mod.glob.keeps I.bk) hm h) hd
theorem zW{E:aj->ao->Prop}{Ψ:aa (ak×ba)}{s:ao}{σ:St}{H:Hp}{x:Str}{u:aj}{pos:bo}{Q:aj->ao->Prop}(I:Inv X Ψ σ H s)(hg:Gl X x)(hm:X.mg x=am)(hv:d3 x=af u)(h:Q u s)
 (hn:x ≠ "__name__":=by decide)(hd:nDb x:=by decide):ϑ (aw X.prog X.w) X.A (bE (.Name x pos) X.env) Q E s:=by
 obtain⟨mb,h1,h2⟩:=I.mod.blt;exact wy I.ok.kind hg (Calls.loadGlobal_builtin (by rw[I.ok.glob];exact I.mod.glob.keeps I.bk) hm (by rw[I.ok.blt];exact h1.keeps I.bk) ((h2 x hn).trans hv) h) hd
theorem aH4{x:Str}{v:V}{u:aj}{pos:bo}(hg:Gl X x)(hm:X.mg x=am)(hv:d3 x=af u)(r:RelV v u)(hn:x ≠ "__name__":=by decide)(hd:nDb x:=by decide):PE X (.Name x pos) (tC v):=
 λ_ _ _ H _ I h=>zW I hg hm hv ⟨v,H,I,r,h⟩ hn hd
variable {a b:Expr} {ta tb:TE} {pos:bo}
variable {tA tB':TT} {rest:aa Expr}
noncomputable def aQv(t u:TT):TT:=λσ H Q=>t σ H λc H1=>if c=ag then u σ H1 Q else Q ai H1
noncomputable def tOr(t u:TT):TT:=λσ H Q=>t σ H λc H1=>if c=ag then Q ag H1 else u σ H1 Q
noncomputable def aQw(t:TT):TT:=λσ H Q=>t σ H λc H1=>Q (!c) H1
theorem aH5(ha:PT X a tA):PW X (.BoolOp .And [a] pos) tA:=by
 intro wh Ψ s σ H Q I h;refine isTrue_and (thn (ha Ψ s σ H Q I h) λc s1 e=>?_);cases c with
 |true=>exact isTrue_and_nil e
 |false=>exact e
theorem aL8(ha:PT X a tA):PW X (.BoolOp .Or [a] pos) tA:=by
 intro wh Ψ s σ H Q I h;refine isTrue_or (thn (ha Ψ s σ H Q I h) λc s1 e=>?_);cases c with
 |false=>exact isTrue_or_nil e
 |true=>exact e
theorem aL9(ha:PT X a tA)(hb:PW X (.BoolOp .And (b::rest) pos) tB'):PW X (.BoolOp .And (a::b::rest) pos) (aQv tA tB'):=by
 intro wh Ψ s σ H Q I h;refine isTrue_and (thn (ha Ψ s σ H _ I h) λc s1 ⟨H1,I1,q1⟩=>?_);cases c with
 |true=>exact hb wh Ψ s1 σ H1 Q I1 q1
 |false=>exact⟨H1,I1,q1⟩
theorem aOq(ha:PT X a tA)(hb:PW X (.BoolOp .Or (b::rest) pos) tB'):PW X (.BoolOp .Or (a::b::rest) pos) (tOr tA tB'):=by
 intro wh Ψ s σ H Q I h;refine isTrue_or (thn (ha Ψ s σ H _ I h) λc s1 ⟨H1,I1,q1⟩=>?_);cases c with
 |true=>exact⟨H1,I1,q1⟩
 |false=>exact hb wh Ψ s1 σ H1 Q I1 q1
theorem aLa(ha:PT X a tA):PT X (.UnaryOp .Not a pos) (aQw tA):=by
 intro Ψ s σ H Q I h;exact isTrue_not (ha Ψ s σ H (λc H1=>Q (!c) H1) I h)
noncomputable def aOr(ta tb:TE):TE:=λσ H Q=>ta σ H λx H1=>∃c,x=.bl c/\if c=ag then tb σ H1 Q else Q (.bl ai) H1
noncomputable def aOs(ta:TE):TE:=λσ H Q=>ta σ H λx H1=>∃c,x=.bl c/\Q (.bl (!c)) H1
theorem aLb{op}{t:TE}(h:PE X a t):PE X (.BoolOp op [a] pos) t:=λΨ s σ H Q I hw=>BoolOp_one (h Ψ s σ H Q I hw)
theorem aLc(ha:PE X a ta)(hb:PE X (.BoolOp .And (b::rest) pos) tb):PE X (.BoolOp .And (a::b::rest) pos) (aOr ta tb):=by
 intro Ψ s σ H Q I h;refine BoolOp_and (thn (ha Ψ s σ H _ I h) λv s1 ⟨x,H1,I1,r1,q1⟩=>?_);obtain⟨c,rfl,q1⟩:=q1;cases r1;refine jh ?_;cases c with
 |true=>exact hb Ψ s1 σ H1 Q I1 q1
 |false=>exact⟨.bl ai,H1,I1,rfl,q1⟩
theorem aLd(ha:PE X a ta):PE X (.UnaryOp .Not a pos) (aOs ta):=by
 intro Ψ s σ H Q I h;refine UnaryOp_ (thn (ha Ψ s σ H _ I h) λv s1 ⟨x,H1,I1,r1,q1⟩=>?_);obtain⟨c,rfl,q1⟩:=q1;cases r1;exact not_of (jh ⟨.bl (!c),H1,I1,rfl,q1⟩)
end
def SqL(K:bz)(H:Hp)(a:ak)(xs:aa V):Prop:=
 Rd H a (.lst xs)\/
  ∃(o:ba)(its:aE aj)(n:ah),K.lookup a=af o/\o.cls=.type "list"/\o.dict=am/\o.data=.seq its n/\its.size<=bb/\Vals xs its.toList
def SqT(K:bz)(H:Hp)(a:ak)(xs:aa V):Prop:=
 Rd H a (.tup xs)\/
  ∃(o:ba)(its:aE aj)(n:ah),K.lookup a=af o/\o.cls=.type "tuple"/\o.data=.seq its n/\its.size<=bb/\Vals xs its.toList
noncomputable def aQx:aj->av V
 |.none=>af .non
 |.bool b=>af (.bl b)
 |.int i _=>af (.int i)
 |.str x _=>af (.str x)
 |.bytes b _=>af (.byt b)
 |.float b _=>af (.flt b)
 |.ref a=>af (.ref a)
 |.type n=>af (.ty n)
 |_=>am
theorem RelV.abs{x:V}{u:aj}(r:RelV x u):aQx u=af x:=by
 cases x with
 |non=>cases r;rfl
 |bl _=>cases r;rfl
 |int _=>obtain⟨t,rfl⟩:=r;rfl
 |str _=>obtain⟨t,rfl⟩:=r;rfl
 |byt _=>obtain⟨t,rfl⟩:=r;rfl
 |flt _=>obtain⟨t,rfl⟩:=r;rfl
 |ref _=>cases r;rfl
 |ty _=>cases r;rfl
theorem RelV.inj{x y:V}{u:aj}(r:RelV x u)(q:RelV y u):x=y:=cr (r.abs.symm.trans q.abs)
theorem Vals.inj:∀{xs ys:aa V}{us:aa aj},Vals xs us->Vals ys us->xs=ys
 |_,_,_,.nil,.nil=>rfl
 |_,_,_,.cons r t,.cons r' t'=>by rw[r.inj r',Vals.inj t t']
section
variable {X:Cx} {Ψ:aa (ak×ba)} {σ:St} {H:Hp} {s:ao} {a:ak} {xs ys:aa V}
theorem SqL.of{K:bz}(h:H a=af (.lst xs)):SqL K H a xs:=.inl (.inl h)
theorem SqT.of{K:bz}(h:H a=af (.tup xs)):SqT K H a xs:=.inl (.inl h)
theorem Inv.list(I:Inv X Ψ σ H s)(h:SqL X.K H a xs):∃its:aa aj,Vals xs its/\PlainL s.heap a its.toArray/\xs.length<=bb:=by
 rcases h with h|⟨o,its,n,hk,hc,hd,hs,hz,r⟩
 ·obtain⟨z,its,n,r,e⟩:=h.ok I.hok;exact⟨its,r,⟨_,n,e,rfl,rfl,rfl⟩,z⟩
 ·refine⟨its.toList,r,⟨o,n,I.kIn a o hk,hc,hd,by simpa using hs⟩,?_⟩;have e:=r.length;simp only[kx] at e;lia
theorem Inv.tuple(I:Inv X Ψ σ H s)(h:SqT X.K H a xs):∃its:aa aj,Vals xs its/\ly s.heap a its.toArray/\xs.length<=bb:=by
 rcases h with h|⟨o,its,n,hk,hc,hs,hz,r⟩
 ·obtain⟨z,its,r,p⟩:=h.ok I.hok;exact⟨its,r,p.tup,z⟩
 ·refine⟨its.toList,r,⟨o,I.kIn a o hk,hc,n,by simpa using hs⟩,?_⟩;have e:=r.length;simp only[kx] at e;lia
theorem Inv.vI(I:Inv X Ψ σ H s)(h:SqL X.K H a xs)(h':SqL X.K H a ys):xs=ys:=by
 obtain⟨its,r,⟨o,n,e,_,_,d⟩,_⟩:=I.list h;obtain⟨its',r',⟨o',n',e',_,_,d'⟩,_⟩:=I.list h';rw[e] at e';cases e';rw[d] at d';injection d' with d1 _
 have:its=its':=by simpa using cm wz d1
 subst this;exact r.inj r'
theorem Inv.YZ(I:Inv X Ψ σ H s)(h:SqT X.K H a xs)(h':SqT X.K H a ys):xs=ys:=by
 obtain⟨its,r,⟨o,e,_,n,d⟩,_⟩:=I.tuple h;obtain⟨its',r',⟨o',e',_,n',d'⟩,_⟩:=I.tuple h';rw[e] at e';cases e';rw[d] at d';injection d' with d1 _
 have:its=its':=by simpa using cm wz d1
 subst this;exact r.inj r'
end
noncomputable abbrev Cx.wish(X:Cx)(E:aj->ao->Prop):Cx:={X with xe:=E}
noncomputable abbrev Cx.nox(X:Cx):Cx:=X.wish λ_ _=>cg
theorem Cx.Ok.wish{X:Cx}(ok:X.Ok)(E:aj->ao->Prop):(X.wish E).Ok:=
 ⟨ok.mod,ok.kind,ok.glob,ok.blt,ok.above,ok.inj,ok.has,ok.cab,ok.hd,ok.frames,ok.stk,ok.exf,ok.bs,ok.bsz,ok.noex,ok.exfs,ok.YT,ok.frf⟩
theorem Cx.Ok.uM{X:Cx}{E:aj->ao->Prop}(ok:(X.wish E).Ok):X.Ok:=
 ⟨ok.mod,ok.kind,ok.glob,ok.blt,ok.above,ok.inj,ok.has,ok.cab,ok.hd,ok.frames,ok.stk,ok.exf,ok.bs,ok.bsz,ok.noex,ok.exfs,ok.YT,ok.frf⟩
section
variable {X:Cx} {Ψ:aa (ak×ba)} {σ:St} {H:Hp} {s:ao} {E:aj->ao->Prop}
theorem Inv.wish(I:Inv X Ψ σ H s)(E:aj->ao->Prop):Inv (X.wish E) Ψ σ H s:=⟨I.ok.wish E,I.os,I.bare,I.base,I.loc,I.cell,I.free,I.freeC,I.pin,I.hok,I.len⟩
theorem Inv.uM(I:Inv (X.wish E) Ψ σ H s):Inv X Ψ σ H s:=⟨I.ok.uM,I.os,I.bare,I.base,I.loc,I.cell,I.free,I.freeC,I.pin,I.hok,I.len⟩
theorem SP.uM{D:Ends}{f:Flow}{s':ao}(h:SP (X.wish E) Ψ D f s'):SP X Ψ D f s':=by
 cases f with
 |next=>obtain⟨σ',H',I,q⟩:=h;exact⟨σ',H',I.uM,q⟩
 |brk=>obtain⟨σ',H',I,q⟩:=h;exact⟨σ',H',I.uM,q⟩
 |cont=>obtain⟨σ',H',I,q⟩:=h;exact⟨σ',H',I.uM,q⟩
 |ret u=>obtain⟨v,σ',H',I,r,q⟩:=h;exact⟨v,σ',H',I.uM,r,q⟩
theorem PSs.nox{st:aa bi}{t:TS}(h:PSs X.nox st t):PSs X st t:=λΨ s σ H D I hw=>
 eB (h Ψ s σ H D (I.wish _) hw) (λ_ _ q=>q.uM) λ_ _ z=>fi z
end
section
variable {X:Cx} {st:bi} {rest:aa bi} {t u:TS} {e:Expr} {te:TE} {pos:bo}
noncomputable def aOt:TS:=λD σ H=>D.nx σ H
noncomputable def aQc(t u:TS):TS:=λD σ H=>t {D with nx:=u D} σ H
theorem Y0:PSs X [] aOt:=λ_ _ σ H _ I h=>nv ⟨σ,H,I,h⟩
theorem vJ(h1:PS X st t)(h2:PSs X rest u):PSs X (st::rest) (aQc t u):=by
 intro Ψ s σ H D I h;refine w_ (thn (h1 Ψ s σ H {D with nx:=u D} I h) λf s1 q=>?_);cases f with
 |next=>
  obtain⟨σ',H',I',q⟩:=q;exact h2 Ψ s1 σ' H' D I' q
 |ret v=>exact q
 |brk=>exact q
 |cont=>exact q
theorem Y4(h1:PS X st t):PSs X [st] t:=by
 intro Ψ s σ H D I h;refine w_ (thn (h1 Ψ s σ H D I h) λf s1 q=>?_);cases f with
 |next=>exact nv q
 |ret v=>exact q
 |brk=>exact q
 |cont=>exact q
theorem Inv.quiet{Ψ:aa (ak×ba)}{σ:St}{H:Hp}{s:ao}(I:Inv X Ψ σ H s):xa X.env=ai:=by simp[xa,I.ok.kind]
noncomputable def aOu(te:TE):TS:=λD σ H=>te σ H λ_ H1=>D.nx σ H1
theorem DP(he:PE X e te)(hs:dL e am pos.line X.env=pure ai:=by rfl):PS X (.Expr e pos) (aOu te):=by
 intro Ψ s σ H D I h;exact wpAny_Expr_any (thn (he Ψ s σ H _ I h) λv s1 ⟨x,H1,I1,r1,q1⟩=>⟨σ,H1,I1,q1⟩) I.quiet hs
noncomputable def aQy(te:TE):TS:=λD σ H=>te σ H D.rt
theorem Y5(he:PE X e te):PS X (.Return (af e) pos) (aQy te):=by
 intro Ψ s σ H D I h;exact wpAny_Return_some (thn (he Ψ s σ H _ I h) λv s1 ⟨x,H1,I1,r1,q1⟩=>⟨x,σ,H1,I1,r1,q1⟩)
noncomputable def aQz(c:TT)(t u:TS):TS:=λD σ H=>c σ H λb H1=>if b=ag then t D σ H1 else u D σ H1
theorem aLe{c:Expr}{a b:aa bi}{tc:TT}(hc:PT X c tc)(ha:PSs X a t)(hb:PSs X b u):PS X (.If c a b pos) (aQz tc t u):=by
 intro Ψ s σ H D I h;refine wpAny_If (thn (hc Ψ s σ H _ I h) λd s1 ⟨H1,I1,q1⟩=>?_);cases d with
 |true=>exact ha Ψ s1 σ H1 D I1 q1
 |false=>exact hb Ψ s1 σ H1 D I1 q1
end
abbrev TG:=V->St->Hp->(St->Hp->Prop)->Prop
abbrev TGs:=aa V->St->Hp->(St->Hp->Prop)->Prop
def PG(X:Cx)(target:Expr)(t:TG):Prop:=
 ∀(Ψ:aa (ak×ba))(s:ao)(σ:St)(H:Hp)(v:V)(u:aj)(Q:St->Hp->Prop),Inv X Ψ σ H s->RelV v u->t v σ H Q->
  ϑ (aw X.prog X.w) X.A (ji target X.env u) (λ_ s'=>∃σ' H',Inv X Ψ σ' H' s'/\Q σ' H') X.xe s
def PGs(X:Cx)(ts:aa Expr)(t:TGs):Prop:=
 ∀(Ψ:aa (ak×ba))(s:ao)(σ:St)(H:Hp)(vs:aa V)(us:aa aj)(Q:St->Hp->Prop),Inv X Ψ σ H s->Vals vs us->t vs σ H Q->
  ϑ (aw X.prog X.w) X.A (assignInOrder ((jk ts X.env).map (·.2)) us) (λ_ s'=>∃σ' H',Inv X Ψ σ' H' s'/\Q σ' H') X.xe s
section
variable {X:Cx} {pos:bo}
noncomputable def yW(i:ah):TG:=λv σ H Q=>Q (σ.set i (af v)) H
theorem aV{i:ah}{x:Str}(hN:X.N.Nodup)(hi:X.N[i]?=af x)(hx:Loc X.env.scope x)(hf:X.fn x=ag\/X.env.scope.names.lookup x=af .local:=by first|exact .inl rfl|exact .inr rfl|assumption):PG X (.Name x pos) (yW i):=by
 intro Ψ s σ H v u Q I r h;exact wpAny_assign_Name (R9 I hN hi hx r (λs' I'=>⟨_,H,I',h⟩) hf)
noncomputable def aQd:TGs:=λvs σ H Q=>vs=[]/\Q σ H
noncomputable def aLf(t:TG)(u:TGs):TGs:=λvs σ H Q=>∃v r,vs=v::r/\t v σ H λσ' H'=>u r σ' H' Q
theorem eX:PGs X [] aQd:=by
 intro Ψ s σ H vs us Q I r h;obtain⟨e,h⟩:=h;subst e;cases r;exact assignInOrder_nil ⟨σ,H,I,h⟩
theorem aZ{e:Expr}{es:aa Expr}{t:TG}{u:TGs}(h1:PG X e t)(h2:PGs X es u)
 (hs:(jk (e::es) X.env).map (·.2)=ji e X.env::(jk es X.env).map (·.2):=by rfl):PGs X (e::es) (aLf t u):=by
 intro Ψ s σ H vs us Q I r h;obtain⟨v,vr,e1,h⟩:=h;subst e1;cases r with
 |cons r rr=>
  rw[hs];refine assignInOrder_cons (thn (h1 Ψ s σ H _ _ _ I r h) λ_ s1 ⟨σ1,H1,I1,q1⟩=>?_);exact h2 Ψ s1 σ1 H1 _ _ Q I1 rr q1
noncomputable def aOf(K:bz)(n:ah)(t:TGs):TG:=λv σ H Q=>∃a xs,v=.ref a/\SqT K H a xs/\xs.length=n/\t xs σ H Q
theorem gW{es:aa Expr}{k:ah}{t:TGs}{n:ah}(hc:X.calm=ag)(h:PGs X es t)
 (hn:(jk es X.env).length=n:=by rfl)(hst:(jk es X.env).findIdx? (·.1)=am:=by rfl):PG X (.Tuple es k pos) (aOf X.K n t):=by
 intro Ψ s σ H v u Q I r hw;obtain⟨a,xs,e1,hq,hl,hw⟩:=hw;subst e1;cases r;obtain⟨its,rv,ht,hz⟩:=I.tuple hq;refine assign_Tuple_tuple (I.ok.hd hc) ht (by simp[hn,<-hl,rv.length]) hst λh' hx=>?_
 have I1:Inv X Ψ σ H {s with heap:=h'}:=I.kept (t':=s.toks) λb o e=>hx b o (cu (bw e)) e
 exact h Ψ _ σ H xs _ Q I1 (by simpa using rv) hw
noncomputable def aKv(te:TE)(g:TG):TS:=λD σ H=>te σ H λx H1=>g x σ H1 D.nx
theorem aLg{tg e:Expr}{te:TE}{g:TG}(he:PE X e te)(hg:PG X tg g)(hs:xb [tg] e pos.line X.env=pure ai:=by rfl)(hw:xc [tg] e X.env=pure am:=by rfl)
 (h1:(jk [tg] X.env).map (·.2)=[ji tg X.env]:=by rfl):PS X (.Assign [tg] e pos) (aKv te g):=by
 intro Ψ s σ H D I h;refine wpAny_Assign_stores (thn (he Ψ s σ H _ I h) λv s1 ⟨x,H1,I1,r1,q1⟩=>?_) hs hw;rw[h1];exact thn (hg Ψ s1 σ H1 x v _ I1 r1 q1) λ_ s2 q=>q
theorem JS{i:ah}{x:Str}{e:Expr}{te:TE}{pos':bo}(hN:X.N.Nodup)(hi:X.N[i]?=af x)(hx:Loc X.env.scope x)(he:PE X e te)(hs:dL e (af (.Name x pos')) pos.line X.env=pure ai:=by rfl)(hf:X.fn x=ag\/X.env.scope.names.lookup x=af .local:=by first|exact .inl rfl|exact .inr rfl|assumption) :
  PS X (.Assign [.Name x pos'] e pos) (aKv te (yW i)):=by
 intro Ψ s σ H D I h;refine wpAny_Assign_Name (thn (he Ψ s σ H _ I h) λv s1 ⟨y,H1,I1,r1,q1⟩=>?_) hs;exact R9 I1 hN hi hx r1 (λs2 I2=>⟨_,H1,I2,q1⟩) hf
def aLh(c:TT)(tb:TS):TS:=λD σ H=>∃W:ah->St->Hp->Prop,(∃m,W m σ H)/\∀m σ H,W m σ H->
 c σ H λb H1=>if b=ag then ∃N:St->Hp->Prop,(∀σ' H',N σ' H'->∃m',m'<m/\W m' σ' H')/\tb {D with nx:=N,ct:=N,bk:=D.nx} σ H1 else D.nx σ H1
theorem aDq{c:Expr}{body:aa bi}{tc:TT}{tb:TS}(hp:iE (aw X.prog X.w) X.A X.env X.xe)(hc:PT X c tc)(hb:PSs X body tb):PS X (.While c body [] pos) (aLh tc tb):=by
 intro Ψ s σ H D I h;obtain⟨W,⟨m0,w0⟩,turn⟩:=h;refine wpAny_While (codeAny_whileLoop (λn s'=>∃σ' H',Inv X Ψ σ' H' s'/\W n σ' H') ?_ m0 ⟨σ,H,I,w0⟩);rintro n s1 ⟨σ1,H1,I1,w1⟩;refine jl hp (thn (hc Ψ s1 σ1 H1 _ I1 (turn n σ1 H1 w1)) λb s2 ⟨H2,I2,q2⟩=>?_);cases b with
 |true=>
  obtain⟨N,hN,q2⟩:=q2;rw[ar rfl];refine jl hp (thn (hb Ψ s2 σ1 H2 _ I2 q2) λf s3 q3=>?_);cases f with
  |next=>
   obtain⟨σ3,H3,I3,n3⟩:=q3;obtain⟨m',hm,w3⟩:=hN σ3 H3 n3;exact⟨m',hm,σ3,H3,I3,w3⟩
  |cont=>
   obtain⟨σ3,H3,I3,n3⟩:=q3;obtain⟨m',hm,w3⟩:=hN σ3 H3 n3;exact⟨m',hm,σ3,H3,I3,w3⟩
  |brk=>exact q3
  |ret v=>exact q3
 |false=>
  rw[aq jm];exact nv ⟨σ1,H2,I2,q2⟩
end
structure It where
 go:ah->Hp->Prop
 yld:ah->Hp->V->Hp->Prop
 stop:ah->Hp->Prop
def YJ(X:Cx)(Ψ:aa (ak×ba))(H:Hp)(b:ak):Prop:=
 H b=am/\b≠X.env.locals/\b∉X.fs/\(b∈X.ex\/X.s₀.heap.objs.size<=b)/\(∀x c,X.env.cells.lookup x=af c->c≠b)/\∀p∈X.pn++Ψ,p.1≠b
theorem Inv.aH6{X:Cx}{Ψ:aa (ak×ba)}{σ:St}{H H':Hp}{s:ao}{b:ak}(I:Inv X Ψ σ H s)(hb:s.heap.objs.size<=b)(hn:H' b=am):YJ X Ψ H' b:=by
 refine⟨hn,jn (du I.lt hb),I.aQb hb,.inr (c6 I.sz hb),λx c e z=>?_,λp hp z=>?_⟩
 ·obtain⟨v,q⟩:=I.cell x c e;exact az (du q.lt (by rw[z];exact hb)) (eJ _)
 ·exact az (du (bw (I.pin p hp).1) (by rw[z];exact hb)) (eJ _)
structure Turn(P:br)(w:bg)(K:bz)(tg:Expr)(J:It)(fp:aa ak)(it:ak)(tn:ah->aI->Prop):Prop where
 mem:it∈fp
 obj:∀i h,tn i h->∀b∈fp,∃o,h.get? b=af o/\∀v,o.data≠.cell v
 keep:∀i h h',tn i h->(∀b∈fp,∀o,h.get? b=af o->h'.get? b=af o)->tn i h'
 item:∀(X:Cx),X.prog=P->X.w=w->X.K=K->X.calm=ag->∀(i:ah)(Ψ:aa (ak×ba))(s:ao)(σ:St)(H:Hp)(E:aj->ao->Prop),Inv X Ψ σ H s->(∀b∈fp,YJ X Ψ H b)->tn i s.heap->J.go i H->
  ϑ (aw P w) X.A (fj (.ref it)) (λr s1=>∃u,r=af u/\
   ϑ (aw P w) X.A (nw tg (.ref it) u) (λ_ s2=>∃x H',Inv X Ψ σ H' s2/\RelV x u/\J.yld i H x H'/\tn (i+1) s2.heap/\∀b∈fp,H' b=am) E s1) E s
 done:∀(X:Cx),X.prog=P->X.w=w->X.K=K->X.calm=ag->∀(i:ah)(Ψ:aa (ak×ba))(s:ao)(σ:St)(H:Hp)(E:aj->ao->Prop),Inv X Ψ σ H s->(∀b∈fp,YJ X Ψ H b)->tn i s.heap->J.stop i H->
  ϑ (aw P w) X.A (fj (.ref it)) (λr s1=>r=am/\Inv X Ψ σ H s1) E s
 self:∀(A:bS)(i:ah)(s:ao)(Q:aj->ao->Prop)(E:aj->ao->Prop),tn i s.heap->Q (.ref it) s->ϑ (aw P w) A (fE (.ref it)) Q E s
abbrev TI:=St->Hp->(It->Hp->Prop)->Prop
def PIE(X:Cx)(Ψ:aa (ak×ba))(σ:St)(tg:Expr)(R:It->Hp->Prop)(itv:aj)(s2:ao):Prop:=
 ∃(it:ak)(fp:aa ak)(tn:ah->aI->Prop)(J:It)(H':Hp),itv=.ref it/\Inv X Ψ σ H' s2/\Turn X.prog X.w X.K tg J fp it tn/\tn 0 s2.heap/\(∀b∈fp,YJ X Ψ H' b)/\R J H'
def PI(X:Cx)(tg iter:Expr)(wi:TI):Prop:=
 ∀(Ψ:aa (ak×ba))(s:ao)(σ:St)(H:Hp)(R:It->Hp->Prop),Inv X Ψ σ H s->wi σ H R->
  ϑ (aw X.prog X.w) X.A (bE iter X.env) (λv s1=>ϑ (aw X.prog X.w) X.A (fE v) (PIE X Ψ σ tg R) X.xe s1) X.xe s
theorem aH7{M:ko}{A:bS}{E:aj->ao->Prop}{s:ao}{tg:Expr}{it:ak}{u:aj}{o:ba}{n:c4}{vs:aE aj}{Q:kq->ao->Prop}(ho:s.heap.get? it=af o)(hc:o.cls=.type n)(hd:o.data=.fields vs)
 (hn:["enumerate","zip","dict_itemiterator","dict_reverseitemiterator","odict_iterator","itertools.zip_longest","itertools.pairwise"].contains n=ai)(hQ:Q () s):ϑ M A (nw tg (.ref it) u) Q E s:= by
  unfold nw;cases tg<;>first
    |exact aS hQ
    | (cases u<;>first
        |exact aS hQ
        | (refine au (wpAny_load ho ?_)
           rw[hc,hd];show ϑ M A (if (["enumerate","zip","dict_itemiterator","dict_reverseitemiterator","odict_iterator","itertools.zip_longest","itertools.pairwise"].contains n&&vs[0]?==af (gu _))=ag then _ else _) Q E s;rw[aq (by intro h;rw[hn,Bool.false_and] at h;cases h)];exact aS hQ))
noncomputable def Itl(K:bz)(a:ak):It:=
 ⟨λi H=>∃xs x,SqL K H a xs/\xs[i]?=af x,λi H x H'=>H'=H/\∀xs,SqL K H a xs->xs[i]?=af x,λi H=>∃xs,SqL K H a xs/\xs.length<=i⟩
noncomputable def Itt(K:bz)(a:ak):It:=
 ⟨λi H=>∃xs x,SqT K H a xs/\xs[i]?=af x,λi H x H'=>H'=H/\∀xs,SqT K H a xs->xs[i]?=af x,λi H=>∃xs,SqT K H a xs/\xs.length<=i⟩
noncomputable def Itr(lo:ae)(n:ah):It:=⟨λi _=>i<n,λi H x H'=>H'=H/\x=.int (lo+i),λi _=>n<=i⟩
theorem wD{P:br}{w:bg}{K:bz}{tg:Expr}(a it:ak):Turn P w K tg (Itl K a) [it] it (λi h=>h.IsListIter it a i) where
 mem:=by simp
 obj:=λi h st b hb=>by
  have e:b=it:=by simpa using hb
  subst e;obtain⟨o,e,c,d⟩:=st;exact⟨o,e,λv z=>by rw[d] at z;cases z⟩
 keep:=λi h h' st k=>st.at λo e=>k it (by simp) o e
 item:=by
  intro X hP hw hK hc i Ψ s σ H E I hf st hg;subst hP hw hK;obtain⟨xs,x,hq,hx⟩:=hg;obtain⟨its,rv,p,hz⟩:=I.list hq;obtain⟨u,hu,ru⟩:=rv.get hx;obtain⟨f0,f1,f2,f3,f4,f5⟩:=hf it (by simp);refine xf st p.isList (x:=u) (by simpa using hu) λh' st' sb=>?_
  have I1:Inv X Ψ σ H {s with heap:=h'}:=I.turned (t':=s.toks) (λb o hb e=>(sb.2 b hb).trans e) f0 f1 f3 f4 f5;obtain⟨o,e,c,d⟩:=id st';exact⟨u,rfl,aH7 (s:={s with heap:=h'}) e c d (by decide) ⟨x,H,I1,ru,⟨rfl,λys hy=>by rw[I.vI hy hq];exact hx⟩,st',λb hb=>(hf b hb).1⟩⟩
 done:=by
  intro X hP hw hK hc i Ψ s σ H E I hf st hg;subst hP hw hK;obtain⟨xs,hq,hx⟩:=hg;obtain⟨its,rv,p,hz⟩:=I.list hq;obtain⟨f0,f1,f2,f3,f4,f5⟩:=hf it (by simp);have hl:=rv.length;exact xg (I.ok.hd hc) st p.isList (by simp;lia) λh' eb=>⟨rfl,I.turned (t':=s.toks) (λb o hb e=>eb b o hb e) f0 f1 f3 f4 f5⟩
 self:=λ_ _ _ _ _ st h=>wpAny_pyIter_listiter st h
theorem V8{P:br}{w:bg}{K:bz}{tg:Expr}(a it:ak):Turn P w K tg (Itt K a) [it] it (λi h=>h.IsTupleIter it a i) where
 mem:=by simp
 obj:=λi h st b hb=>by
  have e:b=it:=by simpa using hb
  subst e;obtain⟨o,e,c,d⟩:=st;exact⟨o,e,λv z=>by rw[d] at z;cases z⟩
 keep:=λi h h' st k=>st.at λo e=>k it (by simp) o e
 item:=by
  intro X hP hw hK hc i Ψ s σ H E I hf st hg;subst hP hw hK;obtain⟨xs,x,hq,hx⟩:=hg;obtain⟨its,rv,p,hz⟩:=I.tuple hq;obtain⟨u,hu,ru⟩:=rv.get hx;obtain⟨f0,f1,f2,f3,f4,f5⟩:=hf it (by simp);refine xh st (show s.heap.IsTuple a its.toArray from p) (x:=u) (by simpa using hu) λh' st' sb=>?_
  have I1:Inv X Ψ σ H {s with heap:=h'}:=I.turned (t':=s.toks) (λb o hb e=>(sb.2 b hb).trans e) f0 f1 f3 f4 f5;obtain⟨o,e,c,d⟩:=id st';exact⟨u,rfl,aH7 (s:={s with heap:=h'}) e c d (by decide) ⟨x,H,I1,ru,⟨rfl,λys hy=>by rw[I.YZ hy hq];exact hx⟩,st',λb hb=>(hf b hb).1⟩⟩
 done:=by
  intro X hP hw hK hc i Ψ s σ H E I hf st hg;subst hP hw hK;obtain⟨xs,hq,hx⟩:=hg;obtain⟨its,rv,p,hz⟩:=I.tuple hq;obtain⟨f0,f1,f2,f3,f4,f5⟩:=hf it (by simp);have hl:=rv.length;exact xi (I.ok.hd hc) st (show s.heap.IsTuple a its.toArray from p) (by simp;lia) λh' eb=>⟨rfl,I.turned (t':=s.toks) (λb o hb e=>eb b o hb e) f0 f1 f3 f4 f5⟩
 self:=λ_ _ _ _ _ st h=>wpAny_pyIter_tupleiter st h
theorem V9{P:br}{w:bg}{K:bz}{tg:Expr}(it:ak)(lo:ae)(n:ah):Turn P w K tg (Itr lo n) [it] it (λi h=>xj h it (lo+(i:ah)*1) ((n:ae)-(i:ah)) 1) where
 mem:=by simp
 obj:=λi h st b hb=>by
  have e:b=it:=by simpa using hb
  subst e;exact⟨_,st,λv z=>by
   have z':xk _=xl v:=z;cases z'⟩
 keep:=λi h h' st k=>k it (by simp) _ st
 item:=by
  intro X hP hw hK hc i Ψ s σ H E I hf st hg;subst hP hw hK;obtain⟨f0,f1,f2,f3,f4,f5⟩:=hf it (by simp);have W:=Walks.range (prog:=X.prog) (w:=X.w) (I.ok.hd hc) it lo 1 n;refine W.item i s _ _ hg st λv h' tk hv st' kk=>?_
  obtain⟨t,rfl⟩:=hv;have I1:Inv X Ψ σ H {s with heap:=h',toks:=tk}:=I.turned (λb o hb e=>kk b o (by simpa using hb) e) f0 f1 f3 f4 f5;refine⟨_,rfl,aH7 (s:={s with heap:=h',toks:=tk}) (n:= "range_iterator") st' rfl rfl (by decide) ⟨.int (lo+i),H,I1,⟨t,?_⟩,⟨rfl,rfl⟩,st',λb hb=>(hf b hb).1⟩⟩;rw[Int.mul_one]
 done:=by
  intro X hP hw hK hc i Ψ s σ H E I hf st hg;subst hP hw hK;obtain⟨f0,f1,f2,f3,f4,f5⟩:=hf it (by simp);exact wpAny_pyNext_range_end (I.ok.hd hc) st (by have:n<=i:=hg;lia) λh' eb=>⟨rfl,I.turned (t':=s.toks) (λb o hb e=>eb b o hb e) f0 f1 f3 f4 f5⟩
 self:=λ_ _ _ _ _ st h=>wpAny_pyIter_rangeiter st h
section
variable {X:Cx} {tg:Expr}
theorem aDr{Ψ:aa (ak×ba)}{σ:St}{H:Hp}{s:ao}{R:It->Hp->Prop}{E:aj->ao->Prop}{lo hi:ae}{t u v:e9}{tk:ah}(I:Inv X Ψ σ H s)(h1:-(2 ^ 62)<=lo)(h2:lo<2 ^ 62)(h3:-(2 ^ 62)<=hi)(h4:hi<2 ^ 62)
 (q:R (Itr lo (hi-lo).toNat) H):ϑ (aw X.prog X.w) X.A (fE (.ref s.heap.objs.size)) (PIE X Ψ σ tg R) E {s with heap:=s.heap.push {cls:=.type "range",data:=.fields #[.int lo t,.int hi u,.int 1 v]},toks:=tk}:=by
 refine wpAny_pyIter_range (IsRange.new ..) (small_one h1 h2 h3 h4) ?_;have I1:Inv X Ψ σ H {s with heap:=s.heap.push {cls:=.type "range",data:=.fields #[.int lo t,.int hi u,.int 1 v]},toks:=tk}:=I.kept λb o e=>b6 _ e
 refine⟨(s.heap.push {cls:=.type "range",data:=.fields #[.int lo t,.int hi u,.int 1 v]}).objs.size,[(s.heap.push {cls:=.type "range",data:=.fields #[.int lo t,.int hi u,.int 1 v]}).objs.size],_,_,H,rfl,
  I1.kept (t':=tk) λb o e=>b6 _ e,V9 _ lo (hi-lo).toNat,?_,λb hb=>?_,q⟩
 ·have e1:lo+((0:ah):ae)*1=lo:=by simp
  have e2:(((hi-lo).toNat:ah):ae)-((0:ah):ae)=Bs lo hi 1:=by rw[rangeSize_one];split<;>lia
  show xj _ _ (lo+((0:ah):ae)*1) ((((hi-lo).toNat:ah):ae)-((0:ah):ae)) 1;rw[e1,e2];exact c8 _ rfl
 ·have e:b=(s.heap.push {cls:=.type "range",data:=.fields #[.int lo t,.int hi u,.int 1 v]}).objs.size:=by simpa using hb
  subst e;exact I1.aH6 (bj _) (I1.hok.fresh (bj _))
def aOv(ta:TA):TI:=λσ H R=>ta σ H λvs H1=>∃j:ae,vs=[.int j]/\-(2 ^ 62)<=j/\j<2 ^ 62/\R (Itr 0 j.toNat) H1
theorem Y6{a:Expr}{ta:TA}{p pos:bo}(hg:Gl X "range")(hm:X.mg "range"=am)(ha:PA X [a] ta)(hs:bp [a] X.env=[(ai,bE a X.env)]:=by rfl):PI X tg (.Call (.Name "range" p) [a] [] pos) (aOv ta):=by
 intro Ψ s σ H R I h;refine Call_ (zW I hg hm boot_range (sA (thn (ha pos Ψ s σ H _ I h) λus s1 ⟨vs,H1,I1,r1,q1⟩=>?_) hs rfl));obtain⟨j,e,q1,q2,q⟩:=q1;subst e;cases r1 with
 |cons r rr=>
  cases rr;obtain⟨t,rfl⟩:=r;exact call_range_1 (aDr I1 (by lia) (by lia) q1 q2 (by simpa using q))
def aR0(wi:TI)(g:TG)(tb:TS):TS:=λD σ H=>wi σ H λJ H1=>∃W:ah->ah->St->Hp->Prop,(∃m,W 0 m σ H1)/\∀i m σ H,W i m σ H->
 (J.stop i H/\D.nx σ H)\/(J.go i H/\∃N:St->Hp->Prop,(∀σ' H',N σ' H'->∃m',m'<m/\W (i+1) m' σ' H')/\∀x H',J.yld i H x H'->g x σ H' λσ2 H2=>tb {D with nx:=N,ct:=N,bk:=D.nx} σ2 H2)
noncomputable def wF(fp:aa ak)(h:aI):aa (ak×ba):=fp.filterMap λb=>(h.get? b).map λo=>(b,o)
theorem oE{fp:aa ak}{h:aI}{b:ak}{o:ba}(hb:b∈fp)(e:h.get? b=af o):(b,o)∈wF fp h:=xm.mpr ⟨b,hb,by rw[e];rfl⟩
theorem Y7{fp:aa ak}{h:aI}{p:ak×ba}(hp:p∈wF fp h):p.1∈fp/\h.get? p.1=af p.2:=by
 obtain⟨b,hb,e⟩:=xm.mp hp;cases q:h.get? b with
 |none=>rw[q] at e;cases e
 |some o=>
  rw[q] at e;have e':(b,o)=p:=cr e;subst e';exact⟨hb,q⟩
theorem Inv.pinned{Ψ:aa (ak×ba)}{σ:St}{H:Hp}{s:ao}{fp:aa ak}(I:Inv X Ψ σ H s)(hf:∀b∈fp,YJ X Ψ H b)(ho:∀b∈fp,∃o,s.heap.get? b=af o/\∀v,o.data≠.cell v):Inv X (Ψ++wF fp s.heap) σ H s:=
 I.PB λp hp=>(cf.mp hp).elim (λz=>I.pin p (dP _ z)) λz=>by
  obtain⟨hb,e⟩:=Y7 z;obtain⟨f0,f1,f2,_⟩:=hf p.1 hb;obtain⟨o,e',d⟩:=ho p.1 hb;rw[e] at e';cases e';exact⟨e,f0,f1,f2,d⟩
theorem Inv.rN{Ψ pl:aa (ak×ba)}{σ:St}{H:Hp}{s:ao}(I:Inv X (Ψ++pl) σ H s):Inv X Ψ σ H s:=I.PB λp hp=>I.pin p (dP _ (dq _ hp))
theorem JT{iter:Expr}{body:aa bi}{wi:TI}{g:TG}{tb:TS}{pos:bo}(hp:iE (aw X.prog X.w) X.A X.env X.xe)(hc:X.calm=ag)(hi:PI X tg iter wi)(hg:PG X tg g)(hb:PSs X body tb)
 (hs:∀x,d6 iter X.env x=pure x:=by intro _;rfl):PS X (.For tg iter body [] pos) (aR0 wi g tb):=by
 intro Ψ s σ H D I h;refine wpAny_For (thn (hi Ψ s σ H _ I h) λv s1 h1=>thn h1 λitv s2 h2=>?_) hs;obtain⟨it,fp,tn,J,H2,e,I2,T,st2,f2,W,⟨m0,w0⟩,turn⟩:=h2;subst e
 -- what stays ag of the iterator's objects through the loop
 have stat:∀{H':Hp},(∀b∈fp,H' b=am)->∀b∈fp,YJ X Ψ H' b:=λhn b hb=>⟨hn b hb,(f2 b hb).2⟩
 refine codeAny_forLoop_any (λn s'=>∃i σ' H',Inv X Ψ σ' H' s'/\tn i s'.heap/\(∀b∈fp,H' b=am)/\W i n σ' H') ?_ m0 ⟨0,σ,H2,I2,st2,λb hb=>(f2 b hb).1,w0⟩;rintro n s3 ⟨i,σ3,H3,I3,st3,fr3,w3⟩;rcases turn i n σ3 H3 w3 with ⟨stop,qn⟩|⟨go,N,hN,step⟩
 ·refine jl hp (thn (T.done X rfl rfl rfl hc i Ψ s3 σ3 H3 X.xe I3 (stat fr3) st3 stop) λr s4 ⟨hr,I4⟩=>?_);subst hr;exact nv ⟨σ3,H3,I4,qn⟩
 ·refine jl hp (thn (T.item X rfl rfl rfl hc i Ψ s3 σ3 H3 X.xe I3 (stat fr3) st3 go) λr s4 ⟨u,hr,h4⟩=>?_);subst hr;refine jl hp (thn h4 λ_ s5 ⟨x,H5,I5,r5,y5,st5,fr5⟩=>?_);have I5':=I5.pinned (stat fr5) (T.obj _ _ st5);refine jl hp (thn (hg _ s5 σ3 H5 x u _ I5' r5 (step x H5 y5)) λ_ s6 ⟨σ6,H6,I6,q6⟩=>?_);refine jl hp (thn (hb _ s6 σ6 H6 _ I6 q6) λf s7 q7=>?_);have again:∀{σ7:St}{H7:Hp},Inv X (Ψ++wF fp s5.heap) σ7 H7 s7->N σ7 H7->∃m,m<n/\∃i σ' H',Inv X Ψ σ' H' s7/\tn i s7.heap/\(∀b∈fp,H' b=am)/\W i m σ' H':=λ{σ7 H7} I7 n7=>by
   obtain⟨m',hm,w7⟩:=hN σ7 H7 n7;refine⟨m',hm,i+1,σ7,H7,I7.rN,T.keep _ _ _ st5 λb hb o e=>(I7.pin (b,o) (dP _ (dP _ (oE hb e)))).1,λb hb=>?_,w7⟩;obtain⟨o,e,d⟩:=T.obj _ _ st5 b hb;exact(I7.pin (b,o) (dP _ (dP _ (oE hb e)))).2.1
  cases f with
  |next=>obtain⟨σ7,H7,I7,n7⟩:=q7;exact again I7 n7
  |cont=>obtain⟨σ7,H7,I7,n7⟩:=q7;exact again I7 n7
  |brk=>obtain⟨σ7,H7,I7,q7⟩:=q7;exact⟨σ7,H7,I7.rN,q7⟩
  |ret v=>obtain⟨x7,σ7,H7,I7,r7,q7⟩:=q7;exact⟨x7,σ7,H7,I7.rN,r7,q7⟩
end
abbrev R2:=V->V->Hp->VK->Prop
def OpR(X:Cx)(f:aj->aj->f_ aj)(r:R2):Prop:=
 ∀(Ψ:aa (ak×ba))(s:ao)(σ:St)(H:Hp)(x y:V)(v u:aj)(Q:VK),Inv X Ψ σ H s->RelV x v->RelV y u->r x y H Q->
  ϑ (aw X.prog X.w) X.A (f v u) (EP X Ψ σ Q) X.xe s
def oV(X:Cx)(f:aj)(r:aa V->Hp->VK->Prop):Prop:=
 ∀(Ψ:aa (ak×ba))(s:ao)(σ:St)(H:Hp)(xs:aa V)(us:aa aj)(Q:VK),Inv X Ψ σ H s->Vals xs us->r xs H Q->
  ϑ (aw X.prog X.w) X.A (call f us) (EP X Ψ σ Q) X.xe s
def aR1(X:Cx)(r:V->Hp->(ap->Hp->Prop)->Prop):Prop:=
 ∀(Ψ:aa (ak×ba))(s:ao)(σ:St)(H:Hp)(x:V)(v:aj)(Q:ap->Hp->Prop),Inv X Ψ σ H s->RelV x v->r x H Q->
  ϑ (aw X.prog X.w) X.A (truthy v) (TP X Ψ σ Q) X.xe s
noncomputable def tOp(r:R2)(ta tb:TE):TE:=λσ H Q=>ta σ H λx H1=>tb σ H1 λy H2=>r x y H2 Q
noncomputable def rI(C:ae->ae->Prop)(g:ae->ae->V):R2:=λx y H Q=>∃i j,x=.int i/\y=.int j/\C i j/\Q (g i j) H
noncomputable def rI0(g:ae->ae->V):R2:=λx y H Q=>∃i j,x=.int i/\y=.int j/\Q (g i j) H
section
variable {X:Cx} {a b:Expr} {ta tb:TE} {pos:bo}
theorem aOw(ha:PE X a ta)(hb:PE X b tb){Ψ:aa (ak×ba)}{s:ao}{σ:St}{H:Hp}{R:V->V->Hp->Prop}(I:Inv X Ψ σ H s)
 (h:ta σ H λx H1=>tb σ H1 λy H2=>R x y H2){Q:aj->ao->Prop}{f:aj->aj->f_ aj}
 (hf:∀v u s2 x y H2,Inv X Ψ σ H2 s2->RelV x v->RelV y u->R x y H2->ϑ (aw X.prog X.w) X.A (f v u) Q X.xe s2) :
  ϑ (aw X.prog X.w) X.A (bE a X.env) (λv s₁=>ϑ (aw X.prog X.w) X.A (bE b X.env) (λu s₂=>ϑ (aw X.prog X.w) X.A (f v u) Q X.xe s₂) X.xe s₁) X.xe s:=by
 refine thn (ha Ψ s σ H _ I h) λv s1 ⟨x,H1,I1,r1,q1⟩=>?_
 refine thn (hb Ψ s1 σ H1 _ I1 q1) λu s2 ⟨y,H2,I2,r2,q2⟩=>?_
 exact hf v u s2 x y H2 I2 r1 r2 q2
theorem aOx{op:Operator}{r:R2}(ho:OpR X (eg op) r)(ha:PE X a ta)(hb:PE X b tb):PE X (.BinOp a op b pos) (tOp r ta tb):=by
 intro Ψ s σ H Q I h;exact wpAny_BinOp (aOw ha hb I h λv u s2 x y H2 I2 rx ry q=>ho Ψ s2 σ H2 x y v u Q I2 rx ry q)
theorem opI{f:aj->aj->f_ aj}{C:ae->ae->Prop}{g:ae->ae->ae}
 (rule:∀(i j:ae) (t u:e9) (s:ao) (Q:aj->ao->Prop) (E:aj->ao->Prop),C i j->Q (.int (g i j) s.toks) {s with toks:=s.toks+1}->ϑ (aw X.prog X.w) X.A (f (.int i t) (.int j u)) Q E s) :
  OpR X f (rI C λi j=>.int (g i j)):=by
 intro Ψ s σ H x y v u Q I rx ry h;obtain⟨i,j,rfl,rfl,hc,q⟩:=h;obtain⟨t,rfl⟩:=rx;obtain⟨t',rfl⟩:=ry;exact rule i j t t' s _ _ hc ⟨.int (g i j),H,I.tok _,⟨_,rfl⟩,q⟩
theorem aQe{f:aj->aj->f_ aj}{g:ae->ae->ae}
 (rule:∀(i j:ae) (t u:e9) (s:ao) (Q:aj->ao->Prop) (E:aj->ao->Prop),Q (.int (g i j) s.toks) {s with toks:=s.toks+1}->ϑ (aw X.prog X.w) X.A (f (.int i t) (.int j u)) Q E s) :
  OpR X f (rI0 λi j=>.int (g i j)):=by
 intro Ψ s σ H x y v u Q I rx ry h;obtain⟨i,j,rfl,rfl,q⟩:=h;obtain⟨t,rfl⟩:=rx;obtain⟨t',rfl⟩:=ry;exact rule i j t t' s _ _ ⟨.int (g i j),H,I.tok _,⟨_,rfl⟩,q⟩
def aR2(i j:ae):Prop:=0<j/\j<1073741824
def aR3(i j:ae):Prop:=0<=j/\j<=1000000/\i.natAbs<2 ^ 64
def aOy(i j:ae):Prop:=(-(2 ^ 64)<i/\i<2 ^ 64)\/(-(2 ^ 64)<j/\j<2 ^ 64)
theorem aOy.ok{i j:ae}(h:aOy i j):IntMulOk i j:=by
 rcases h with ⟨h1,h2⟩|⟨h1,h2⟩
 ·exact .of_left (xn h1 h2)
 ·exact .of_right (xn h1 h2)
theorem aLi:OpR X (eg .Add) (rI0 λi j=>.int (i+j)):=aQe λ_ _ _ _ _ _ _ q=>add_int q
theorem aLj:OpR X (eg .Sub) (rI0 λi j=>.int (i-j)):=aQe λ_ _ _ _ _ _ _ q=>sub_int q
theorem aLk:OpR X (eg .Mult) (rI aOy λi j=>.int (i*j)):=opI λ_ _ _ _ _ _ _ hc q=>mul_int q hc.ok
theorem aH8:OpR X (eg .FloorDiv) (rI aR2 λi j=>.int (i / j)):=opI λi j _ _ _ _ _ hc q=>by
 have h1:(0:ae)<j:=hc.1;have h2:j<1073741824:=hc.2;exact floordiv_int (by lia) (by rw[Int.fdiv_eq_ediv_of_nonneg i (by lia)];exact q) (.inl (PyProof.noPylong_small (by lia)))
theorem aLl:OpR X (eg .Mod) (rI (λ_ j=>0<j) λi j=>.int (i % j)):=opI λi j _ _ _ _ _ hc q=>by
 have h1:(0:ae)<j:=hc;exact mod_int' (by lia) (by rw[Int.fmod_eq_emod_of_nonneg i (by lia)];exact q)
theorem aLm:OpR X (eg .Pow) (rI aR3 λi j=>.int (i ^ j.toNat)):=opI λ_ _ _ _ _ _ _ hc q=>pow_int_small hc.1 hc.2.1 hc.2.2 q
end
section
variable {X:Cx} {a b c:Expr} {ta tb:TE} {pos:bo}
theorem aFx{Ψ:aa (ak×ba)}{σ:St}{H:Hp}{s:ao}{Q:VK}{k k':ap}(I:Inv X Ψ σ H s)(q:Q (.bl k) H)(e:k=k'):EP X Ψ σ Q (.bool k') s:=by
 subst e;exact⟨.bl k,H,I,rfl,q⟩
theorem aLn:OpR X (dg .Is) (λx y H Q=>y=.non/\Q (.bl (ϒ (x=.non))) H):=by
 intro Ψ s σ H x y v u Q I rx ry h;obtain⟨rfl,q⟩:=h;cases ry;refine is_none_gen (aFx I q ?_);cases x<;>first
  | (cases rx;rfl)
  | (obtain⟨t,rfl⟩:=rx;rfl)
theorem aH9:OpR X (dg .IsNot) (λx y H Q=>y=.non/\Q (.bl (!ϒ (x=.non))) H):=by
 intro Ψ s σ H x y v u Q I rx ry h;obtain⟨rfl,q⟩:=h;cases ry;refine isnot_none_gen (aFx I q ?_);cases x<;>first
  | (cases rx;rfl)
  | (obtain⟨t,rfl⟩:=rx;rfl)
theorem cM(b:Expr){op:gv}(h:op≠.In:=by decide)(h2:op≠.NotIn:=by decide):ky op b=ai:=by
 have e1:(op==CmpOp.In)=ai:=by cases op<;>first|rfl|exact az rfl h
 have e2:(op==CmpOp.NotIn)=ai:=by cases op<;>first|rfl|exact az rfl h2
 cases b<;>simp[ky,e1,e2]
theorem aHa{op:gv}{r:R2}(ho:OpR X (dg op) r)(ha:PE X a ta)(hb:PE X b tb)(hm:ky op b=ai):PE X (.Compare a [op] [b] pos) (tOp r ta tb):=by
 intro Ψ s σ H Q I h;exact wpAny_Compare1 (aOw ha hb I h λv u s2 x y H2 I2 rx ry q=>ho Ψ s2 σ H2 x y v u Q I2 rx ry q) hm
noncomputable def aOz(t:TE):TT:=λσ H Q=>t σ H λx H'=>∃k,x=.bl k/\Q k H'
theorem aHb{op:gv}{r:R2}(ho:OpR X (dg op) r)(ha:PE X a ta)(hb:PE X b tb)(hm:ky op b=ai):PT X (.Compare a [op] [b] pos) (aOz (tOp r ta tb)):=by
 intro Ψ s σ H Q I h;refine wpAny_isTrue_Compare1 (thn (ha Ψ s σ H _ I h) λv s1 ⟨x,H1,I1,r1,q1⟩=>thn (hb Ψ s1 σ H1 _ I1 q1) λu s2 ⟨y,H2,I2,r2,q2⟩=>
  thn (ho Ψ s2 σ H2 x y v u _ I2 r1 r2 q2) λc s3 ⟨z,H3,I3,r3,k,e,q3⟩=>?_) hm
 subst e;cases r3;exact jh ⟨H3,I3,q3⟩
def aP0(K:bz)(x:V)(H:Hp)(k:ap):Prop:=
 match x with
 |.non=>k=ai
 |.bl b=>k=b
 |.int i=>k=(i !=0)
 |.str y=>y.length<=bb/\k=((y.length:ae)!=0)
 |.byt y=>y.size<=bb/\k=((y.size:ae)!=0)
 |.ref p=>(∃xs,SqL K H p xs/\k=!xs.isEmpty)\/(∃xs,SqT K H p xs/\k=!xs.isEmpty)\/∃kvs,H p=af (.dK kvs)/\k=!kvs.isEmpty
 |_=>cg
theorem V_{κ:Type}{kvs:aa (κ×V)}{vs:aa (κ×aj)}(r:KV kvs vs):(!vs.isEmpty)=!kvs.isEmpty:=by
 cases r<;>rfl
theorem zX{xs:aa V}{its:aa aj}(r:Vals xs its):(!its.toArray.isEmpty)=!xs.isEmpty:=by
 cases r<;>simp
theorem zY:(bb:ah)<2 ^ 63:=by rw[eC];decide
theorem aLo:aR1 X (λx H Q=>∃k,aP0 X.K x H k/\Q k H):=by
 intro Ψ s σ H x v Q I rx h;obtain⟨k,e,q⟩:=h;have hl:=zY;have hs:bb=16777216:=eC;cases x with
 |non=>
  cases rx;have e':k=ai:=e;subst e';exact truthy_none ⟨H,I,q⟩
 |bl b=>
  cases rx;have e':k=b:=e;subst e';exact jh ⟨H,I,q⟩
 |int i=>
  obtain⟨t,rfl⟩:=rx;have e':k=(i !=0):=e;subst e';exact PySem.P.truthy_int ⟨H,I,q⟩
 |str y=>
  obtain⟨t,rfl⟩:=rx;obtain⟨hy,e'⟩:y.length<=bb/\k=((y.length:ae)!=0):=e;subst e';exact PySem.P.truthy_str (by lia) ⟨H,I.tok _,q⟩
 |byt y=>
  obtain⟨t,rfl⟩:=rx;obtain⟨hy,e'⟩:y.size<=bb/\k=((y.size:ae)!=0):=e;subst e';exact PySem.W.truthy_bytes (by lia) ⟨H,I.tok _,q⟩
 |ref p=>
  cases rx;have e':(∃xs,SqL X.K H p xs/\k=!xs.isEmpty)\/(∃xs,SqT X.K H p xs/\k=!xs.isEmpty)\/∃kvs,H p=af (.dK kvs)/\k=!kvs.isEmpty:=e;rcases e' with ⟨xs,hx,e'⟩|⟨xs,hx,e'⟩|⟨kvs,hx,e'⟩
  ·subst e';obtain⟨its,r,pl,hz⟩:=I.list hx;have hlen:=r.length;exact wpAny_truthy_list pl.isList (by simp only[bX];lia) ⟨H,I.tok _,by rw[zX r];exact q⟩
  ·subst e';obtain⟨its,r,pl,hz⟩:=I.tuple hx;have hlen:=r.length;exact truthy_tuple pl (by simp only[bX];lia) ⟨H,I.tok _,by rw[zX r];exact q⟩
  ·subst e';obtain⟨hz,hS,vs,r,m⟩:kvs.length<=bb/\(p==ff)=ai/\∃vs,KV kvs vs/\s.heap.DictOf (cL X.prog X.w) p vs:=I.hok p _ hx;have hlen:kvs.length=vs.length:=kj r;exact wpAny_truthy_dict hS m (by lia) ⟨H,I.tok _,by rw[V_ r];exact q⟩
 |_=>exact(show cg from e).elim
theorem aDs(ha:PE X a ta)(he:∀whole,nu a X.env whole=(do let v <- whole;standAt a.pos;sB [v] (truthy v))) :
  PT X a (λσ H Q=>ta σ H λx H'=>∃k,aP0 X.K x H' k/\Q k H'):=by
 intro Ψ s σ H Q I h;exact isTrue_plain (thn (ha Ψ s σ H _ I h) λv s1 ⟨x,H1,I1,r1,q1⟩=>aLo Ψ s1 σ H1 x v Q I1 r1 q1) (he _)
theorem WD:OpR X (eg .Add) (λx y H Q=>∃i j,x=.str i/\y=.str j/\i.length+j.length<=bb/\Q (.str (i++j)) H):=by
 intro Ψ s σ H x y v u Q I rx ry h;obtain⟨i,j,rfl,rfl,hz,q⟩:=h;obtain⟨t,rfl⟩:=rx;obtain⟨t',rfl⟩:=ry;exact add_str (λt' tk=>⟨.str (i++j),H,I.tok _,⟨_,rfl⟩,q⟩) hz
theorem vals1{x:V}{us:aa aj}(r:Vals [x] us):∃u,us=[u]/\RelV x u:=by
 cases r with
 |cons r1 r2=>cases r2;exact⟨_,rfl,r1⟩
end
theorem YH.some_of{v:V}{o:av aj}(r:YH (af v) o):∃u,o=af u/\RelV v u:=by
 cases o with
 |none=>exact(show cg from r).elim
 |some u=>exact⟨u,rfl,r⟩
structure vK(k:ah)(A:bS):Prop where
 hd:A.handled=am
 dp:A.depth+3*k+5<xo
 un:A.units+16*k+200<bm
theorem vK.mono{j k:ah}{A:bS}(r:vK k A)(h:j<=k):vK j A:=⟨r.hd,by have:=r.dp;lia,by have:=r.un;lia⟩
theorem vK.deeper{k:ah}{A:bS}(r:vK (k+1) A)(env:di):vK k (A.deeper env):=
 ⟨r.hd,by have:=r.dp;show A.depth+1+3*k+5<_;lia,by have:=r.un;show A.units+3+16*k+200<_;lia⟩
theorem vK.depth{k:ah}{A:bS}(r:vK k A):A.depth<xo:=by have:=r.dp;lia
theorem vK.units{k:ah}{A:bS}(r:vK k A):A.units+64<bm:=by have:=r.un;lia
noncomputable def aR4:TA:=λ_ H Q=>Q [] H
noncomputable def aP1(ta:TE)(tr:TA):TA:=λσ H Q=>ta σ H λx H1=>tr σ H1 λxs H2=>Q (x::xs) H2
section
variable {X:Cx} {e:Expr} {es:aa Expr} {te:TE} {t:TA} {pos:bo}
theorem wG:PA X [] aR4:=λ_ _ _ _ H Q I h=>xp ⟨[],H,I,.nil,h⟩
theorem qT(ha:PE X e te)(hr:PA X es t)(hs:bp (e::es) X.env=(ai,bE e X.env)::bp es X.env:=by rfl):PA X (e::es) (aP1 te t):=by
 intro pos Ψ s σ H Q I h;rw[hs];show ϑ _ _ (sx ((ai,bE e X.env)::eo pos (bp es X.env))) _ _ s;refine xq (thn (ha Ψ s σ H _ I h) λu s1 ⟨x,H1,I1,r1,q1⟩=>?_);exact thn (hr pos Ψ s1 σ H1 _ I1 q1) λus s2 ⟨xs,H2,I2,r2,q2⟩=>⟨x::xs,H2,I2,.cons r1 r2,q2⟩
def aR5(t:TA):TE:=λσ H Q=>t σ H λxs H1=>xs.length<=bb/\∀p,H1 p=am->Q (.ref p) (upd H1 p (.tup xs))
def aR6(t:TA):TE:=λσ H Q=>t σ H λxs H1=>xs.length<=bb/\∀p,H1 p=am->Q (.ref p) (upd H1 p (.lst xs))
theorem aLp{x1}(h:PA X es t):PE X (.Tuple es x1 pos) (aR5 t):=by
 intro Ψ s σ H Q I hq;refine wpAny_Tuple_spliced (thn (h pos Ψ s σ H _ I hq) λus s1 ⟨xs,H1,I1,r,z,q⟩=>⟨by rw[<-r.length];exact z,?_⟩);have hf:H1 s1.heap.objs.size=am:=I1.hok.fresh (bj _);refine⟨.ref s1.heap.objs.size,upd H1 s1.heap.objs.size (.tup xs),I1.laid (t':=s1.toks) (λb u e=>b6 _ e) (bj _) ?_,rfl,q _ hf⟩;exact⟨z,us,r,⟨_,c8 _ rfl,rfl,_,rfl⟩⟩
theorem Y8(h:PA X es t):PE X (.List es pos) (aR6 t):=by
 intro Ψ s σ H Q I hq;refine wpAny_List_spliced (thn (h pos Ψ s σ H _ I hq) λus s1 ⟨xs,H1,I1,r,z,q⟩=>⟨by rw[<-r.length];exact z,?_⟩);have hf:H1 s1.heap.objs.size=am:=I1.hok.fresh (bj _);refine⟨.ref s1.heap.objs.size,upd H1 s1.heap.objs.size (.lst xs),I1.laid (t':=s1.toks) (λb u e=>b6 _ e) (bj _) ?_,rfl,q _ hf⟩;exact⟨z,us,0,r,c8 _ rfl⟩
end
abbrev Sp:=aa V->Hp->VK->XK->Prop
abbrev CXT:=aa di->Hp->ao->XK->aj->ao->Prop
structure aOg(P:br)(w:bg)(K:bz)(mg:Str->av aj)(base:aI)(A:bS)(outer:aa di)(s:ao)(H:Hp):Prop where
 frames:A.frames=af outer
 mod:Mod K mg base
 bs:∀b o,base.get? b=af o->s.heap.get? b=af o/\H b=am
 bsz:base.objs.size<=s.heap.objs.size
 YT:s.heap.FunFrames base outer
 frf:∀b∈frs outer,H b=am
 hok:HOk P w H s.heap
 bare:iA s.gens
def CE(outer:aa di)(P:br)(w:bg)(H:Hp)(s:ao)(Q:VK)(u:aj)(s':ao):Prop:=
 ∃v H',s'.os=s.os/\iA s'.gens/\Un (frs outer) [] H H' s.heap s'.heap/\HOk P w H' s'.heap/\RelV v u/\Q v H'
def CR(CX:CXT)(outer:aa di)(P:br)(w:bg)(H:Hp)(s:ao)(Q:VK)(E:XK)(r:kA)(s':ao):Prop:=
 match r with
 |.ok (.ret u)=>CE outer P w H s Q u s'
 |.ok _=>cg
 |.error e=>CX outer H s E e s'
structure WF(P:br)(w:bg)(K:bz)(mg:Str->av aj)(base:aI)(CX:CXT)(k:ah)(f:ak)(fd:eD)(ps:aa Str)(sp:Sp):Prop where
 len:∀vs H Q E,sp vs H Q E->vs.length=ps.length
 run:∀(A:bS)(outer:aa di)(s:ao)(H:Hp)(args:Args)(us:aa aj)(vs:aa V)(Q:VK)(E:XK),vK k A->aOg P w K mg base A outer s H->kB s fd args (ps.zip us)->Vals vs us->sp vs H Q E->
  codeAny (aw P w) A (.call (.ref f) args) (CR CX outer P w H s Q E) s
section
variable {X:Cx} {Ψ:aa (ak×ba)} {σ:St} {H:Hp} {s s':ao}
theorem Inv.env0(I:Inv X Ψ σ H s):aOg X.prog X.w X.K X.mg X.base X.A X.stack s H:=
 ⟨I.ok.frames,I.ok.mod,I.bs,c6 I.ok.bsz I.sz,I.stack,I.YW,I.hok,I.bare⟩
theorem Inv.after{Q:VK}{u:aj}(I:Inv X Ψ σ H s)(h:CE X.stack X.prog X.w H s Q u s'):EP X Ψ σ Q u s':=by
 obtain⟨v,H',os,bare,un,hok,r,q⟩:=h;obtain⟨hh,g,d,t,os'⟩:=s';obtain rfl:os'=s.os:=os;exact⟨v,H',I.call (h':=hh) (g':=g) (d':=d) (t':=t) (ch:=[]) un hok bare (λb z=>az z (by simp)),r,q⟩
end
noncomputable def aP2(sp:Sp)(dvs:aa V)(E:XK)(t:TA):TE:=λσ H Q=>t σ H λvs H1=>sp (vs++dvs) H1 Q E
def Binds(K:bz)(fd:eD)(ps:aa Str)(ds:aa aj):Prop:=
 ∀(s:ao)(us:aa aj),K.In s.heap->(us++ds).length=ps.length->kB s fd ⟨us,[]⟩ (ps.zip (us++ds))
theorem Binds.all{K:bz}{fd:eD}{ps:aa Str}(h:∀us:aa aj,us.length=ps.length->bindArgs fd ⟨us,[]⟩=pure (ps.zip us)):Binds K fd ps []:=λs us _ hl=>by
 rw[dy] at hl ⊢;exact .of_eq (h us hl)
def Y9(CX:CXT)(X:Cx)(E:XK):Prop:=∀(Ψ:aa (ak×ba))(σ:St)(H:Hp)(s:ao)(e:aj)(s':ao),Inv X Ψ σ H s->CX X.stack H s E e s'->X.xe e s'
section
variable {X:Cx} {CX:CXT} {k:ah} {f:ak} {fd:eD} {ps:aa Str} {sp:Sp} {dvs:aa V} {ds:aa aj} {E:XK} {x:Str} {p pos:bo} {e:Expr} {es:aa Expr} {t:TA}
theorem aLq{Ψ:aa (ak×ba)}{σ:St}{H:Hp}{s:ao}{Q:VK}{us:aa aj}{vs:aa V}(F:WF X.prog X.w X.K X.mg X.base CX k f fd ps sp)(hr:vK k X.A)(hb:Binds X.K fd ps ds)(hd:Vals dvs ds)(hx:Y9 CX X E)
 (I:Inv X Ψ σ H s)(r:Vals vs us)(h:sp (vs++dvs) H Q E):ϑ (aw X.prog X.w) X.A (call (.ref f) us) (EP X Ψ σ Q) X.xe s:=by
 have r2:Vals (vs++dvs) (us++ds):=r.append hd;have hl:(us++ds).length=ps.length:=by rw[<-r2.length];exact F.len _ _ _ _ h
 refine wpAny_call (kC (F.run X.A X.stack s H ⟨us,[]⟩ (us++ds) (vs++dvs) Q E hr I.env0 (hb s us I.kIn hl) r2 h) λr s' hq=>?_);cases r with
 |error e=>exact hx Ψ σ H s e s' I hq
 |ok fl=>
  cases fl with
  |ret u=>exact I.after hq
  |next=>exact fi hq
  |brk=>exact fi hq
  |cont=>exact fi hq
theorem aHc(F:WF X.prog X.w X.K X.mg X.base CX k f fd ps sp)(hr:vK k X.A)(hg:Gl X x)(hm:X.mg x=af (.ref f))(hk:lz X.K (.ref f)=ag)(hb:Binds X.K fd ps ds)(hd:Vals dvs ds)(hx:Y9 CX X E)
 (ha:PA X (e::es) t)(hdb:nDb x:=by decide)(he:bp (e::es) X.env=(ai,bE e X.env)::bp es X.env:=by rfl)(hpl:(eo pos (bp es X.env)).any (·.1)=ai:=by rfl) :
  PE X (.Call (.Name x p) (e::es) [] pos) (aP2 sp dvs E t):=by
 intro Ψ s σ H Q I h;refine lI (aH3 I hg hm ?_ hdb);refine PySem.W.callWith_K (h₀:=X.base) I.ok.mod.kin hk (thn (ha pos Ψ s σ H _ I h) λus s1 ⟨vs,H1,I1,r,q⟩=>⟨I1.kIn,?_⟩) he hpl;exact aLq F hr hb hd hx I1 r q
end
structure bZ(N P:aa Str)(sc:fg):Prop where
 kind:sc.kind=.function
 co:sc.isCoroutine=ai
 gen:sc.isGenerator=ai
 nd:N.Nodup
 pre:N.take P.length=P
 par:∀x∈P,sc.names.lookup x=af .local\/sc.names.lookup x=af .cell
 nofree:∀y∈sc.names,y.2≠.free
theorem JV{kindOf:Str->av gN}{x:Str}:∀{binds:aa (Str×aj)}{m:Str->av aj},(∀v,(x,v)∉binds)->iF kindOf binds m x=m x
 |[],_,_=>rfl
 | (n,v)::r,m,h=>by
  unfold iF;rw[JV λw hw=>h w (bf _ hw)];split
  ·have:x≠n:=by rintro rfl;exact h v bh
   simp[this]
  ·rfl
theorem JW{kindOf:Str->av gN}{x:Str}:∀{binds:aa (Str×aj)}{m:Str->av aj},(∀v,(x,v)∉binds)->iL kindOf binds m x=m x
 |[],_,_=>rfl
 | (n,v)::r,m,h=>by
  unfold iL;rw[JW λw hw=>h w (bf _ hw)];split
  ·rfl
  ·have:x≠n:=by rintro rfl;exact h v bh
   simp[this]
theorem JX{kindOf:Str->av gN}{x:Str}{v:aj}:∀{P:aa Str}{vs:aa aj}{i:ah}{m:Str->av aj},P.Nodup->P[i]?=af x->vs[i]?=af v->kindOf x=af .local->
  iF kindOf (P.zip vs) m x=af v
 |[],_,_,_,_,h,_,_=>by simp at h
 |_::_,[],_,_,_,_,h,_=>by simp at h
 |p::P,w::vs,0,m,nd,h1,h2,hk=>by
  simp at h1 h2;subst h1;subst h2;show iF kindOf ((p,w)::P.zip vs) m p=_;unfold iF;rw[JV λv hv=>(cj.mp nd).1 (sC hv).1,ar hk];simp
 |p::P,w::vs,i+1,m,nd,h1,h2,hk=>by
  show iF kindOf ((p,w)::P.zip vs) m x=_;unfold iF;exact JX (i:=i) (cj.mp nd).2 (by simpa using h1) (by simpa using h2) hk
theorem JZ{kindOf:Str->av gN}{x:Str}{v:aj}:∀{P:aa Str}{vs:aa aj}{i:ah}{m:Str->av aj},P.Nodup->P[i]?=af x->vs[i]?=af v->kindOf x≠af .local->
  iL kindOf (P.zip vs) m x=af v
 |[],_,_,_,_,h,_,_=>by simp at h
 |_::_,[],_,_,_,_,h,_=>by simp at h
 |p::P,w::vs,0,m,nd,h1,h2,hk=>by
  simp at h1 h2;subst h1;subst h2;show iL kindOf ((p,w)::P.zip vs) m p=_;unfold iL;rw[JW λv hv=>(cj.mp nd).1 (sC hv).1,aq hk];simp
 |p::P,w::vs,i+1,m,nd,h1,h2,hk=>by
  show iL kindOf ((p,w)::P.zip vs) m x=_;unfold iL;exact JZ (i:=i) (cj.mp nd).2 (by simpa using h1) (by simpa using h2) hk
noncomputable def start(N:aa Str)(vs:aa V):St:=vs.map af++b5 (N.length-vs.length) am
noncomputable def aDh(CX:CXT)(P:br)(w:bg)(K:bz)(mg:Str->av aj)(base:aI)(N:aa Str)(qual:Str)(scope:fg)(f:ak)(cd:aj)(A:bS)(outer:aa di)(s:ao)(H:Hp)(E:XK):Cx where
 prog:=P
 w:=w
 K:=K
 mg:=mg
 base:=base
 A:=A.deeper (fF qual scope s.heap.objs.size f cd)
 N:=N
 s₀:=s
 H₀:=H
 env:=fF qual scope s.heap.objs.size f cd
 outer:=outer
 stack:=fF qual scope s.heap.objs.size f cd::outer
 ex:=[]
 calm:=ag
 fn:=λ_=>ag
 pn:=[]
 xe:=λe s'=>ϑ (aw P w) (A.deeper (fF qual scope s.heap.objs.size f cd)) (leaving (fF qual scope s.heap.objs.size f cd) e) (λ_ s''=>CX outer H s E e s'') (λe' s''=>CX outer H s E e' s'') s'
theorem R_{sc:fg}{n:ah}{x:Str}(h:sc.names.lookup x=af .cell):∃c,(sD n sc.names []).lookup x=af c:=by
 have q:=xr sc.names n [] (.inl h);exact sF.mp q
theorem Y_{CX:CXT}{P:br}{w:bg}{K:bz}{mg:Str->av aj}{base:aI}{N ps:aa Str}{qual:Str}{scope:fg}{f:ak}{cd:aj}{A:bS}{outer:aa di}{s s1:ao}{H:Hp}{E:XK}{us:aa aj}{vs:aa V}
 (S:bZ N ps scope)(hd:A.handled=am)(e0:aOg P w K mg base A outer s H)(hl:vs.length=ps.length)(r:Vals vs us)
 (x:InCallC s s.heap.objs.size (iF (fF qual scope s.heap.objs.size f cd).kindOf (ps.zip us) λ_=>am) (sD (s.heap.objs.size+1) scope.names []) (iL (fF qual scope s.heap.objs.size f cd).kindOf (ps.zip us) λ_=>am) s1) :
  Inv (aDh CX P w K mg base N qual scope f cd A outer s H E) [] (start N vs) H s1:=by
 have hpl:ps.length<=N.length:=by have:=cm gS S.pre;rw[jo] at this;lia
 obtain⟨h1,tk,rfl,hk⟩:=x.done;have noA:∀b:ak,b∉(aDh CX P w K mg base N qual scope f cd A outer s H E).ex:=λb z=>az (show b∈([]:aa ak) from z) (by simp)
 refine⟨⟨e0.mod,S.kind,rfl,rfl,bj _,λy z c h1 h2=>?_,λy hy=>?_,λy c _ h=>?_,λ_=>hd,Around.frames_deeper e0.frames,.inr ⟨rfl,rfl⟩,λb z=>az z (noA b),e0.bs,e0.bsz,λb _ _=>noA b,λb z=>az z (noA b),e0.YT,e0.frf⟩,
  rfl,e0.bare,Un.kept hk,⟨_,x.toInCall.ns,λi y v h1 h2 h3=>?_⟩,λy c h=>⟨_,x.cell y c h⟩,e0.hok.fresh (bj _),λy c h=>?_,λp hp=>az (show p∈([]:aa (ak×ba)) from hp) (by simp),e0.hok.kept hk,?_⟩
 ·exact name_of_addr x.apart (kF h1) (kF h2)
 ·have hy:scope.names.lookup y=af .cell\/scope.names.lookup y=af .free:=hy;rcases hy with hy|hy
  ·exact R_ hy
  ·exact az rfl (S.nofree _ (kF hy))
 ·exact kl (x.above y c (kF h))
 ·have hi:i<vs.length:=by
   unfold start at h2;by_cases hi:i<vs.length
   ·exact hi
   ·rw[ii (by simpa using hi)] at h2;rw[jp] at h2;split at h2<;>cases h2
  have ha:vs[i]?=af v:=by
   unfold start at h2;rw[jq (by simpa using hi),fu] at h2;cases e:vs[i]? with
   |none=>rw[e] at h2;cases h2
   |some a=>rw[e] at h2;cases h2;rfl
  obtain⟨u,hu,rv⟩:=r.get ha;have hp:ps[i]?=af y:=by
   rw[<-S.pre,List.getElem?_take_of_lt (by lia)];exact h1
  have ndP:ps.Nodup:=by rw[<-S.pre];exact S.nd.sublist (List.take_sublist _ _)
  refine⟨u,rv,?_⟩;rcases S.par y (lP hp) with k|k
  ·exact .inl ⟨k,JX ndP hp hu k⟩
  ·obtain⟨c,e⟩:=R_ (n:=s.heap.objs.size+1) k;refine .inr ⟨.inl k,c,e,?_⟩;have q:=x.cell y c e;rw[JZ ndP hp hu (by show scope.names.lookup y≠_;rw[k];decide)] at q;exact q
 ·exact e0.hok.fresh (kl (x.above y c (kF h)))
 ·unfold start;show _=N.length;rw[cb,ay,xt];lia
theorem aP3{CX:CXT}{P:br}{w:bg}{K:bz}{mg:Str->av aj}{base:aI}{k:ah}{f:ak}{name qual:Str}{params:Arguments}{body:aa bi}{scope:fg}{dV kV doc pm cdv ct oc:aj}{an od:av ak}
 {osl:aE (av aj)}{N ps:aa Str}{sp:Sp}(lk:K.lookup f=af ⟨oc,od,.func (kG name qual params body scope dV kV doc pm an cdv ct),osl⟩)(hcd:sK K cdv qual=ag)(S:bZ N ps scope)
 (len:∀vs H Q E,sp vs H Q E->vs.length=ps.length)
 (hbody:∀(A:bS) (outer:aa di) (s:ao) (H:Hp) (vs:aa V) (Q:VK) (E:XK),vK k (A.deeper (fF qual scope s.heap.objs.size f cdv))->sp vs H Q E->
   ∃t,PSs (aDh CX P w K mg base N qual scope f cdv A outer s H E) body t/\t {nx:=λ_ H'=>Q .non H',rt:=Q} (start N vs) H) :
  WF P w K mg base CX (k+1) f (kG name qual params body scope dV kV doc pm an cdv ct) ps sp:=by
 refine⟨len,λA outer s H args us vs Q E hr e0 hb r hsp=>?_⟩;have hl:=len _ _ _ _ hsp;have KX:K.In s.heap:=e0.mod.kin.keeps λb o e=>(e0.bs b o e).1
 have lim:s.heap.NoLimit:=e0.mod.nolimit.keeps λb o e=>(e0.bs b o e).1
 have hkind:∀y∈ps.zip us,scope.names.lookup y.1=af .local\/(scope.names.lookup y.1=af .cell/\((sD (s.heap.objs.size+1) scope.names []).lookup y.1).isSome=ag):=λ⟨n,v⟩ hy=>by
  rcases S.par n (sC hy).1 with q|q
  ·exact .inl q
  ·exact .inr ⟨q,xr _ _ _ (.inl q)⟩
 refine codeAny_call_function hr.depth (KX _ _ lk) rfl S.co S.gen rfl (PySem.W.codeRec_of KX hcd) (hb _ _ _ _ ?_);refine wpAny_newFunctionEnv_cells S.kind hkind λenv he s1 x=>?_
 subst he;refine⟨lim.keeps x.toInCall.keep,codeAny_func ?_⟩;obtain⟨t,ht,hq⟩:=hbody A outer s H vs Q E (hr.deeper _) hsp;have I:Inv (aDh CX P w K mg base N qual scope f cdv A outer s H E) [] (start N vs) H s1:=Y_ S hr.hd e0 hl r x;refine eB (ht [] s1 (start N vs) H _ I hq) (λfl s' hs=>?_) λe s' hs=>hs
 have fin:∀{σ':St}{H':Hp}{v:V}{u:aj},Inv (aDh CX P w K mg base N qual scope f cdv A outer s H E) [] σ' H' s'->RelV v u->Q v H'->CE outer P w H s Q u s':=
  λ{σ' H' v u} J rv q=>⟨v,H',J.os,J.bare,J.base,J.hok,rv,q⟩
 cases fl with
 |ret u=>
  obtain⟨v,σ',H',J,rv,q⟩:=hs;exact fin J rv q
 |next=>
  obtain⟨σ',H',J,q⟩:=hs;exact fin (v:=V.non) (u:=jf) J rfl q
 |brk=>
  obtain⟨_,_,_,q⟩:=hs;exact fi q
 |cont=>
  obtain⟨_,_,_,q⟩:=hs;exact fi q
section
variable {X:Cx} {x:Str} {p pos:bo} {e:Expr} {es:aa Expr} {t:TA} {id T:c4} {r:aa V->Hp->VK->Prop}
noncomputable def tCB(r:aa V->Hp->VK->Prop)(t:TA):TE:=λσ H Q=>t σ H λvs H1=>r vs H1 Q
theorem SJ(hc:oV X (.builtin id) r)(hg:Gl X x)(hm:X.mg x=am)(hv:d3 x=af (.builtin id))(ha:PA X (e::es) t)(hn:x ≠ "__name__":=by decide)(hdb:nDb x:=by decide)
 (he:bp (e::es) X.env=(ai,bE e X.env)::bp es X.env:=by rfl)(hpl:(eo pos (bp es X.env)).any (·.1)=ai:=by rfl):PE X (.Call (.Name x p) (e::es) [] pos) (tCB r t):=by
 intro Ψ s σ H Q I h;refine lI (zW I hg hm hv ?_ hn hdb);exact Bu (thn (ha pos Ψ s σ H _ I h) λus s1 ⟨vs,H1,I1,r1,q1⟩=>hc Ψ s1 σ H1 vs us Q I1 r1 q1) he hpl
theorem ZC(hc:oV X (.type T) r)(hg:Gl X x)(hm:X.mg x=am)(hv:d3 x=af (.type T))(ha:PA X (e::es) t)(hn:x ≠ "__name__":=by decide)(hdb:nDb x:=by decide)
 (he:bp (e::es) X.env=(ai,bE e X.env)::bp es X.env:=by rfl)(hpl:(eo pos (bp es X.env)).any (·.1)=ai:=by rfl):PE X (.Call (.Name x p) (e::es) [] pos) (tCB r t):=by
 intro Ψ s σ H Q I h;refine lI (zW I hg hm hv ?_ hn hdb);exact sA (thn (ha pos Ψ s σ H _ I h) λus s1 ⟨vs,H1,I1,r1,q1⟩=>hc Ψ s1 σ H1 vs us Q I1 r1 q1) he hpl
end
end L2
namespace HT
open PySem PyProof.Rows
section
variable {prog:br} {w:bg} {A:bS} {E:aj->ao->Prop} {s:ao}
theorem aHd{t b:ak}{vs ws:aa aj}{Q:aj->ao->Prop}(ht:ly s.heap t vs.toArray)(hb:ly s.heap b ws.toArray)(hv:vs≠[])
 (h1:ws=[]->Q (.ref t) s)(h2:ws≠[]->Q (.ref s.heap.objs.size) {s with heap:=s.heap.push {cls:=.type "tuple",data:=.seq (vs++ws).toArray}})
 (hsz:vs.length+ws.length<=bb):ϑ (aw prog w) A (eg .Add (.ref t) (.ref b)) Q E s:=by
 obtain⟨⟨cls,dd,data,sl⟩,ho,hc,n,hd⟩:=id ht;obtain⟨⟨cls2,dd2,lS,sl2⟩,ho2,hc2,n2,hd2⟩:=id hb;simp only at hc hd hc2 hd2;subst hc hd hc2 hd2;have e:vs.toArray++ws.toArray=(vs++ws).toArray:=by simp
 by_cases hw:ws=[]
 ·exact sL ⟨_,ho,rfl⟩ ⟨_,ho2,rfl⟩ sM sN sP sQ (sT _ _)
   (tuple_addW1 t b vs.toArray ws.toArray n n2 dd dd2 sl sl2 (by simpa using hv) (by simp[hw])) ⟨ho,ho2,h1 hw⟩
 ·refine sL ⟨_,ho,rfl⟩ ⟨_,ho2,rfl⟩ sM sN sP sQ (sT _ _)
   (tuple_addW2 t b vs.toArray ws.toArray n n2 dd dd2 sl sl2 (by simpa using hv) (by simpa using hw) (by rw[bX,bX];exact hsz)) ⟨ho,ho2,?_⟩
  rw[e];exact h2 hw
noncomputable def sIx(n d:ah):av ae->ah
 |none=>d
 |some v=>if v<0 then (v+(n:ae)).toNat else min v.toNat n
theorem aLr(n d:ah)(hd:d<=n)(o:av ae):sIx n d o<=n:=by
 cases o with
 |none=>exact hd
 |some v=>
  show(if v<0 then (v+(n:ae)).toNat else min v.toNat n)<=n;by_cases hv:v<0
  ·rw[ar hv];lia
  ·rw[aq hv];exact Nat.min_le_right _ _
theorem ZD(v:ae)(n d:ah):(if v<0 then max (v+(n:ae)) 0 else min v (n:ae))=((sIx n d (af v):ah):ae):=by
 show(if v<0 then max (v+(n:ae)) 0 else min v (n:ae))=(((if v<0 then (v+(n:ae)).toNat else min v.toNat n):ah):ae);by_cases hv:v<0
 ·simp only[ar hv];lia
 ·simp only[aq hv];lia
theorem WK(lo hi:av ae)(n:ah):s_ lo hi 1 (n:ae)=(((sIx n 0 lo:ah):ae),((sIx n n hi:ah):ae)):=by
 have h1:¬((1:ae)<0):=by lia
 unfold s_;simp only[h1,cK];refine Prod.ext ?_ ?_
 ·cases lo with
  |none=>rfl
  |some v=>exact ZD v n 0
 ·cases hi with
  |none=>rfl
  |some v=>exact ZD v n n
theorem WL(i j:ah):ny (i:ae) (j:ae) 1=j-i:=by
 unfold ny;have h1:(1:ae) > 0:=by lia
 simp only[h1,cx,Int.ediv_one];split<;>lia
theorem zZ{v:aj}{o:av ae}{Q:av ae->ao->Prop}(p:iN v o)(h:Q o s):ϑ (aw prog w) A (Bw v) Q E s:=by
 cases p with
 |none=>exact xu h
 |int i t=>exact slicePart_int h
theorem u0{sl:ak}{vl vu:aj}{lo hi:av ae}{n:ah}{Q:ae×ae×ah->ao->Prop}(hs:s.heap.IsSliceOf sl vl vu .none)(pl:iN vl lo)(pu:iN vu hi)
 (h:Q (((sIx n 0 lo:ah):ae),1,sIx n n hi-sIx n 0 lo) s):ϑ (aw prog w) A (xv (.ref sl) (pure (n:ae))) Q E s:=by
 obtain⟨os,hos,hcs,hds⟩:=id hs;unfold xv Bx;refine au (au (td hos hds (x:=vl) rfl (au (td hos hds (x:=vu) rfl (au (td hos hds (x:=.none) rfl (aS ?_)))))));refine au (xu ?_);show ϑ _ _ (if ((1:ae)==0)=ag then _ else _) _ _ s;rw[aq (by decide)];refine au (zZ pl (au (zZ pu (au (aS ?_)))));show ϑ _ _ (match s_ lo hi 1 (n:ae) with|(lo,hi)=>pure (lo,(1:ae),ny lo hi 1)) _ _ s;rw[WK lo hi n];show ϑ _ _ (pure (((sIx n 0 lo:ah):ae),(1:ae),ny ((sIx n 0 lo:ah):ae) ((sIx n n hi:ah):ae) 1)) _ _ s;rw[WL];exact aS h
theorem aDt(xs:aE aj)(i k:ah):((bn k).filterMap λ(m:ah)=>xs[((i:ae)+(m:ae)*1).toNat]?).toArray=((xs.toList.drop i).take k).toArray:=by
 have e:(λ(m:ah)=>xs[((i:ae)+(m:ae)*1).toNat]?)=λm=>xs[i+m]?:=by
  funext m
  have:((i:ae)+(m:ae)*1).toNat=i+m:=by lia
  rw[this]
 rw[e];have:=pick_run xs i k;rw[List.filterMap_map] at this;have e2:((λx=>xs[x]?) ∘ λx=>i+x)=λm=>xs[i+m]?:=rfl
 rw[e2] at this;rw[this]
theorem tW{t sl:ak}{items:aE aj}{vl vu:aj}{lo hi:av ae}{Q:aj->ao->Prop}(ht:ly s.heap t items)(hs:s.heap.IsSliceOf sl vl vu .none)(pl:iN vl lo)(pu:iN vu hi)
 (hw:¬(sIx items.size 0 lo=0/\sIx items.size items.size hi=items.size))
 (h:Q (.ref s.heap.objs.size) {s with heap:=s.heap.push {cls:=.type "tuple",data:=.seq ((items.toList.drop (sIx items.size 0 lo)).take (sIx items.size items.size hi-sIx items.size 0 lo)).toArray}})
 (hsz:items.size<=bb):ϑ (aw prog w) A (jr (.ref t) (.ref sl)) Q E s:=by
 have htake:sizeOk (.seq ((items.toList.drop (sIx items.size 0 lo)).take (sIx items.size items.size hi-sIx items.size 0 lo)).toArray):=by
  show((items.toList.drop (sIx items.size 0 lo)).take (sIx items.size items.size hi-sIx items.size 0 lo)).toArray.size<=bb;rw[bX,jo,iO,kx];lia
 have hj:sIx items.size items.size hi<=items.size:=aLr _ _ (bj _) hi;obtain⟨os,hos,hcs,hds⟩:=id hs;have hTs:s.TypeIs (.ref sl) "slice":=⟨os,hos,hcs⟩
 unfold jr
 try with_reducible refine gh ?_
 first|refine au (aS ?_)|skip
 refine au (wpAny_sequenceKey ht.typeIs (by decide) ?_);refine au (ti (name:=tj "__getitem__") ht.typeIs tm
  (lT tm ht.typeIs entry_tuple_getitem ?_ (args_tuple_getitem _ _)))
 show ϑ _ _ (By (.ref t) >>= _) _ _ s;refine au (tupleItemsOf_ ht ?_);refine au (tq hTs ?_);rw[ar (by decide)];refine au (u0 hs pl pu ?_);have hno:¬((((sIx items.size 0 lo:ah):ae)==0&&(1:ae)==1&&(sIx items.size items.size hi-sIx items.size 0 lo)==items.size)=ag):=by
  intro q;rw[bc,bc] at q;have q1:((sIx items.size 0 lo:ah):ae)=0:=eq_of_beq q.1.1;have q2:sIx items.size items.size hi-sIx items.size 0 lo=items.size:=eq_of_beq q.2;exact hw ⟨by lia,by lia⟩
 show ϑ _ _ (if (((sIx items.size 0 lo:ah):ae)==0&&(1:ae)==1&&(sIx items.size items.size hi-sIx items.size 0 lo)==items.size)=ag then _ else _) _ _ s;rw[aq hno,aDt]
 first
  |exact au (m:=nB _) (fm (aS ⟨_,rfl,aS h⟩) htake)
  |exact au (m:=nB _) (fm (au (aS (aS ⟨_,rfl,aS h⟩))) htake)
  |exact au (au (m:=nB _) (fm (aS (aS ⟨_,rfl,aS h⟩)) htake))
  |exact au (au (m:=nB _) (fm (aS ⟨_,rfl,aS h⟩) htake))
end
end HT
namespace L2
open PySem PySem.Spec PyProof.Rows
abbrev TO:=St->Hp->(av ae->Hp->Prop)->Prop
def PO(X:Cx)(e:av Expr)(t:TO):Prop:=
 ∀(Ψ:aa (ak×ba))(s:ao)(σ:St)(H:Hp)(Q:av ae->Hp->Prop),Inv X Ψ σ H s->t σ H Q->
  ϑ (aw X.prog X.w) X.A (evalPart e X.env) (λu s'=>∃o H',Inv X Ψ σ H' s'/\iN u o/\Q o H') X.xe s
noncomputable def aHe:TO:=λ_ H Q=>Q am H
noncomputable def aP4(t:TE):TO:=λσ H Q=>t σ H λx H1=>∃i,x=.int i/\Q (af i) H1
section
variable {X:Cx} {e:Expr} {te:TE} {lo hi:av Expr} {tl th:TO} {pos p2:bo}
theorem aHf:PO X am aHe:=by
 intro Ψ s σ H Q I h;rw[xw];exact aS ⟨am,H,I,.none,h⟩
theorem aHg(h:PE X e te):PO X (af e) (aP4 te):=by
 intro Ψ s σ H Q I hw;rw[evalPart_some];refine thn (h Ψ s σ H _ I hw) λu s1 ⟨x,H1,I1,r1,q1⟩=>?_
 obtain⟨i,rfl,q⟩:=q1;obtain⟨t,rfl⟩:=r1;exact⟨af i,H1,I1,.int i t,q⟩
def SlR(X:Cx)(r:V->av ae->av ae->Hp->VK->Prop):Prop:=
 ∀(Ψ:aa (ak×ba))(s:ao)(σ:St)(H:Hp)(x:V)(v vl vu:aj)(lo hi:av ae)(sl:ak)(Q:VK),Inv X Ψ σ H s->RelV x v->s.heap.IsSliceOf sl vl vu .none->iN vl lo->iN vu hi->r x lo hi H Q->
  ∃T id,l5 (.type T) "__getitem__"=pure (af (.builtin id))/\s.TypeIs v T/\ϑ (aw X.prog X.w) X.A (jr v (.ref sl)) (EP X Ψ σ Q) X.xe s
noncomputable def tSl(r:V->av ae->av ae->Hp->VK->Prop)(te:TE)(tl th:TO):TE:=λσ H Q=>te σ H λx H1=>tl σ H1 λl H2=>th σ H2 λu H3=>r x l u H3 Q
theorem aDu{r:V->av ae->av ae->Hp->VK->Prop}(hr:SlR X r)(he:PE X e te)(hl:PO X lo tl)(hu:PO X hi th):PE X (.Subscript e (.Slice lo hi am p2) pos) (tSl r te tl th):=by
 intro Ψ s σ H Q I h;refine Subscript_ (thn (he Ψ s σ H _ I h) λv s1 ⟨x,H1,I1,r1,q1⟩=>?_);refine wpAny_Slice (thn (hl Ψ s1 σ H1 _ I1 q1) λvl s2 ⟨l,H2,I2,pl,q2⟩=>thn (hu Ψ s2 σ H2 _ I2 q2) λvu s3 ⟨u,H3,I3,pu,q3⟩=>?_);rw[xw];refine aS ?_;have I4:Inv X Ψ σ H3 {s3 with heap:=s3.heap.push {cls:=.type "slice",data:=.fields #[vl,vu,.none]}}:=I3.kept (t':=s3.toks) λb ob q=>b6 _ q
 obtain⟨T,id,hT,ht,hg⟩:=hr Ψ {s3 with heap:=s3.heap.push {cls:=.type "slice",data:=.fields #[vl,vu,.none]}} σ H3 x v vl vu l u s3.heap.objs.size Q I4 r1 (Bz ..) pl pu q3;show ϑ (aw X.prog X.w) X.A (nE e (.Slice lo hi am p2) v (.ref s3.heap.objs.size)) (EP X Ψ σ Q) X.xe {s3 with heap:=s3.heap.push {cls:=.type "slice",data:=.fields #[vl,vu,.none]}};exact tail_any (ops:=[.ref s3.heap.objs.size,v]) ht hT hg (by with_unfolding_all rfl)
noncomputable def ZF(xs:aa V)(lo hi:av ae):aa V:=(xs.drop (HT.sIx xs.length 0 lo)).take (HT.sIx xs.length xs.length hi-HT.sIx xs.length 0 lo)
theorem wH(xs:aa V)(lo hi:av ae):(ZF xs lo hi).length<=xs.length:=by
 unfold ZF;rw[jo,iO];lia
def aR7(K:bz):V->av ae->av ae->Hp->VK->Prop:=λx lo hi H Q=>∃a xs,x=.ref a/\SqT K H a xs/\
 ¬(HT.sIx xs.length 0 lo=0/\HT.sIx xs.length xs.length hi=xs.length)/\∀p,H p=am->Q (.ref p) (upd H p (.tup (ZF xs lo hi)))
theorem aLs:SlR X (aR7 X.K):=by
 intro Ψ s σ H x v vl vu lo hi sl Q I rx hs pl pu h;obtain⟨a,xs,rfl,hx,hw,q⟩:=h;cases rx;obtain⟨its,r,ht,hz⟩:=I.tuple hx;have hlen:its.toArray.size=xs.length:=by rw[bX];exact r.length.symm
 refine⟨"tuple",_,tm.lookup,ht.typeIs,?_⟩;refine HT.tW ht hs pl pu (by rw[hlen];exact hw) ?_ (by rw[hlen];exact hz);rw[hlen];refine⟨.ref s.heap.objs.size,_,I.laid (t':=s.toks) (o:=.tup (ZF xs lo hi)) (λb ob q=>b6 _ q) (bj _) ?_,rfl,q _ (I.hok.fresh (bj _))⟩;exact⟨c6 (wH xs lo hi) hz,_,(r.drop (HT.sIx xs.length 0 lo)).take (HT.sIx xs.length xs.length hi-HT.sIx xs.length 0 lo),j8.new _ _⟩
def aP5(K:bz):R2:=λx y H Q=>∃a b xs ys,x=.ref a/\y=.ref b/\SqT K H a xs/\SqT K H b ys/\xs≠[]/\xs.length+ys.length<=bb/\
 (ys=[]->Q (.ref a) H)/\(ys≠[]->∀p,H p=am->Q (.ref p) (upd H p (.tup (xs++ys))))
theorem Vals.wI{xs:aa V}{us:aa aj}(r:Vals xs us):us=[]↔xs=[]:=by
 cases r with
 |nil=>simp
 |cons _ _=>simp
theorem aHh:OpR X (eg .Add) (aP5 X.K):=by
 intro Ψ s σ H x y v u Q I rx ry h;obtain⟨a,b,xs,ys,rfl,rfl,ha,hb,hx,hz,q1,q2⟩:=h;cases rx;cases ry;obtain⟨its,r1,p1,_⟩:=I.tuple ha;obtain⟨its2,r2,p2,_⟩:=I.tuple hb;refine HT.aHd p1 p2 (λz=>hx (r1.wI.mp z)) (λz=>⟨.ref a,H,I,rfl,q1 (r2.wI.mp z)⟩) (λz=>?_) (by rw[<-r1.length,<-r2.length];exact hz);refine⟨.ref s.heap.objs.size,_,I.laid (t':=s.toks) (o:=.tup (xs++ys)) (λb ob q=>b6 _ q) (bj _) ?_,rfl,q2 (λw=>z (r2.wI.mpr w)) _ (I.hok.fresh (bj _))⟩;exact⟨by rw[cb];exact hz,_,r1.append r2,j8.new _ _⟩
end
noncomputable def ixN(n:ah)(i:ae):av ah:=if 0<=i then (if i<n then af i.toNat else am) else if -(n:ae)<=i then af (i+n).toNat else am
def atI{α:Type}(xs:aa α)(i:ae):av α:=(ixN xs.length i).bind λj=>xs[j]?
theorem aHi{n:ah}{i:ae}{j:ah}(h:ixN n i=af j):seqIndex? i n=af j/\j<n/\-(n:ae)<=i/\i<n:=by
 unfold ixN at h;by_cases h0:0<=i
 ·rw[ar h0] at h;by_cases h1:i<n
  ·rw[ar h1] at h;have e:i.toNat=j:=cr h;exact⟨by rw[xy h0 h1,e],by lia,by lia,h1⟩
  ·rw[aq h1] at h;cases h
 ·rw[aq h0] at h;by_cases h1:-(n:ae)<=i
  ·rw[ar h1] at h;have e:(i+n).toNat=j:=cr h;exact⟨by rw[seqIndex_neg (by lia) h1,e],by lia,h1,by lia⟩
  ·rw[aq h1] at h;cases h
theorem PJ{α:Type}{xs:aa α}{i:ae}{v:α}(h:atI xs i=af v):∃j,seqIndex? i xs.length=af j/\xs[j]?=af v/\j<xs.length/\-(xs.length:ae)<=i/\i<xs.length:=by
 unfold atI at h;cases e:ixN xs.length i with
 |none=>rw[e] at h;cases h
 |some j=>
  rw[e] at h;obtain⟨h1,h2,h3,h4⟩:=aHi e;exact⟨j,h1,h,h2,h3,h4⟩
def tX(b:Expr):Prop:=∀o i,nI b ai o i=tu [o,i] (jr o i)
def IxR(X:Cx)(r:R2):Prop:=
 ∀(value slice:Expr)(Ψ:aa (ak×ba))(s:ao)(σ:St)(H:Hp)(x y:V)(v u:aj)(Q:VK),Inv X Ψ σ H s->RelV x v->RelV y u->r x y H Q->
  nI slice ai v u=tu [v,u] (jr v u)->ϑ (aw X.prog X.w) X.A (nE value slice v u) (EP X Ψ σ Q) X.xe s
def MtR(X:Cx)(id:c4)(r:V->aa V->Hp->VK->Prop):Prop:=
 ∀(Ψ:aa (ak×ba))(s:ao)(σ:St)(H:Hp)(x:V)(xs:aa V)(v:aj)(us:aa aj)(Q:VK),Inv X Ψ σ H s->RelV x v->Vals xs us->r x xs H Q->
  ϑ (aw X.prog X.w) X.A (call (.builtin id) (v::us)) (EP X Ψ σ Q) X.xe s
section
variable {X:Cx} {a b:Expr} {ta tb:TE} {pos:bo}
theorem IxR.or{r r':R2}(h:IxR X r)(h':IxR X r'):IxR X (λx y H Q=>r x y H Q\/r' x y H Q):=by
 intro value slice Ψ s σ H x y v u Q I rx ry q hs;rcases q with q|q
 ·exact h value slice Ψ s σ H x y v u Q I rx ry q hs
 ·exact h' value slice Ψ s σ H x y v u Q I rx ry q hs
theorem aHj{r:R2}(hr:IxR X r)(ha:PE X a ta)(hb:PE X b tb)(hs:tX b):PE X (.Subscript a b pos) (tOp r ta tb):=by
 intro Ψ s σ H Q I h;exact Subscript_ (aOw ha hb I h λv u s2 x y H2 I2 rx ry q=>hr a b Ψ s2 σ H2 x y v u Q I2 rx ry q (hs _ _))
def aQf(K:bz):R2:=λx y H Q=>∃p xs i v,x=.ref p/\y=.int i/\SqL K H p xs/\atI xs i=af v/\Q v H
def aR8(K:bz):R2:=λx y H Q=>∃p xs i v,x=.ref p/\y=.int i/\SqT K H p xs/\atI xs i=af v/\Q v H
def aR9:R2:=λx y H Q=>∃z i c,x=.str z/\y=.int i/\z.length<=bb/\atI z.cps.toList i=af c/\Q (.str ⟨#[c]⟩) H
theorem DQ:IxR X (aQf X.K):=by
 intro value slice Ψ s σ H x y v u Q I rx ry h hs;obtain⟨p,xs,i,z,rfl,rfl,hq,he,q⟩:=h;cases rx;obtain⟨t,rfl⟩:=ry;obtain⟨its,r,pl,hz⟩:=I.list hq;obtain⟨j,h1,h2,h3,h4,h5⟩:=PJ he;obtain⟨w,ew,rw'⟩:=r.get h2;have hl:=r.length;have hn:=zY;have fin:EP X Ψ σ Q w s:=⟨z,H,I,rw',q⟩
 by_cases h0:0<=i
 ·have hj:i.toNat=j:=by
   rw[xy h0 h5] at h1;exact cr h1
  exact item_listR pl.isList h0 (by lia) (by rw[hj];simpa using ew) fin hs
 ·have hj:(i+(its.toArray.size:ae)).toNat=j:=by
   rw[seqIndex_neg (by lia) h4] at h1;rw[bX,<-hl];exact cr h1
  exact xA (x:=w) pl.isList.typeIs xB.lookup
   (wpAny_getItem_list_neg (Q:=λr s'=>r=w/\EP X Ψ σ Q r s') pl.isList (by lia) (by rw[bX]<;>lia) (by lia) (by rw[hj];simpa using ew) ⟨rfl,fin⟩) hs
theorem aLt:IxR X (aR8 X.K):=by
 intro value slice Ψ s σ H x y v u Q I rx ry h hs;obtain⟨p,xs,i,z,rfl,rfl,hq,he,q⟩:=h;cases rx;obtain⟨t,rfl⟩:=ry;obtain⟨its,r,pl,hz⟩:=I.tuple hq;obtain⟨j,h1,h2,h3,h4,h5⟩:=PJ he;obtain⟨w,ew,rw'⟩:=r.get h2;have hl:=r.length;have hn:=zY;have fin:EP X Ψ σ Q w s:=⟨z,H,I,rw',q⟩
 exact xA (x:=w) pl.typeIs slot_tuple_getitem.lookup
  (getItem_tuple (j:=j) (Q:=λr s'=>r=w/\EP X Ψ σ Q r s') pl (by lia) (by lia) (by rw[bX,<-hl];exact h1) (by simpa using ew) ⟨rfl,fin⟩) hs
theorem aLu:IxR X aR9:=by
 intro value slice Ψ s σ H x y v u Q I rx ry h hs;obtain⟨z,i,c,rfl,rfl,hz,he,q⟩:=h;obtain⟨t,rfl⟩:=rx;obtain⟨t',rfl⟩:=ry;obtain⟨j,h1,h2,h3,h4,h5⟩:=PJ he;have hl:z.cps.toList.length=z.length:=by simp[Str.length]
 rw[hl] at h1 h4 h5;have hn:=zY;exact tail_any (typeIs_str s z t) slot_str_getitem.lookup (getItem_str (c:=c) (by
  have e1:ϒ (i < -(2 ^ 63:ae))=ai:=bP (by lia);have e2:ϒ (i >= 2 ^ 63)=ai:=bP (by lia);rw[e1,e2,xC]) (by rw[h1];simpa using h2) ⟨.str ⟨#[c]⟩,H,I.tok _,⟨_,rfl⟩,q⟩) hs
theorem Inv.lst{Ψ:aa (ak×ba)}{σ:St}{H:Hp}{s:ao}{p:ak}{xs:aa V}(I:Inv X Ψ σ H s)(h:H p=af (.lst xs)) :
  ∃(its:aa aj)(n:ah),Vals xs its/\s.heap.get? p=af {cls:=.type "list",data:=.seq its.toArray n}/\xs.length<=bb:=by
 obtain⟨z,its,n,r,e⟩:=I.hok p _ h;exact⟨its,n,r,e,z⟩
theorem J0(lo hi:av ae)(n:ah):(jt lo hi am n).1=((HT.sIx n 0 lo:ah):ae)/\(jt lo hi am n).2.1=((HT.sIx n n hi:ah):ae)/\(jt lo hi am n).2.2=1:=by
 refine⟨?_,?_,rfl⟩
 ·cases lo with
  |none=>simp[jt,HT.sIx]
  |some i=>
   simp only[jt,HT.sIx,xD,show(1:ae) > 0 by decide,cx];by_cases h:i<0
   ·simp only[h,cx]<;>lia
   ·simp only[h,cK]<;>lia
 ·cases hi with
  |none=>simp[jt,HT.sIx]
  |some i=>
   simp only[jt,HT.sIx,xD,show(1:ae) > 0 by decide,cx];by_cases h:i<0
   ·simp only[h,cx]<;>lia
   ·simp only[h,cK]<;>lia
theorem DR(its:aa aj)(lo hi:av ae):slicePick its.toArray lo hi am=((its.drop (HT.sIx its.length 0 lo)).take (HT.sIx its.length its.length hi-HT.sIx its.length 0 lo)).toArray:=by
 obtain⟨h1,h2,h3⟩:=J0 lo hi its.toArray.size;unfold slicePick;rw[h1,h2,h3];simp only[sliceRange_one,pick_run,bX]<;>rfl
def aRa(K:bz):V->av ae->av ae->Hp->VK->Prop:=λx lo hi H Q=>∃a xs,x=.ref a/\SqL K H a xs/\∀p,H p=am->Q (.ref p) (upd H p (.lst (ZF xs lo hi)))
theorem ZG:SlR X (aRa X.K):=by
 intro Ψ s σ H x v vl vu lo hi sl Q I rx hs pl pu h;obtain⟨a,xs,rfl,hx,q⟩:=h;cases rx;obtain⟨its,r,ht,hz⟩:=I.list hx;have hlen:=r.length;refine⟨"list",_,xB.lookup,ht.isList.typeIs,?_⟩;refine wpAny_getItem_list_slice ht.isList hs pl pu .none (by simp) ?_ (by rw[bX]<;>lia);rw[DR,<-hlen];refine⟨.ref s.heap.objs.size,_,I.laid (t':=s.toks) (o:=.lst (ZF xs lo hi)) (λb ob q=>b6 _ q) (bj _) ?_,rfl,q _ (I.hok.fresh (bj _))⟩;exact⟨c6 (wH xs lo hi) hz,_,0,(r.drop (HT.sIx xs.length 0 lo)).take (HT.sIx xs.length xs.length hi-HT.sIx xs.length 0 lo),c8 _ rfl⟩
theorem j_:oV X (.builtin "len") (λxs H Q=>∃p ys,xs=[.ref p]/\(SqL X.K H p ys\/SqT X.K H p ys)/\Q (.int ys.length) H):=by
 intro Ψ s σ H xs us Q I r h;obtain⟨p,ys,rfl,hq,q⟩:=h;obtain⟨u,rfl,rx⟩:=vals1 r;cases rx;have hn:=zY;rcases hq with hq|hq
 ·obtain⟨its,r',pl,hz⟩:=I.list hq;have hlen:=r'.length;exact Calls.call_len_list pl.isList (by simp only[bX]<;>lia) ⟨.int ys.length,H,I.tok _,⟨s.toks+1,by rw[bX,hlen]⟩,q⟩
 ·obtain⟨its,r',pl,hz⟩:=I.tuple hq;have hlen:=r'.length;exact len_tuple pl (by simp only[bX]<;>lia) ⟨.int ys.length,H,I.tok _,⟨s.toks+1,by rw[bX,hlen]⟩,q⟩
theorem J1:oV X (.builtin "len") (λxs H Q=>∃z,xs=[.str z]/\z.length<=bb/\Q (.int z.length) H):=by
 intro Ψ s σ H xs us Q I r h;obtain⟨z,rfl,hz,q⟩:=h;obtain⟨u,rfl,t,rfl⟩:=vals1 r;have hn:=zY;exact len_str (by lia) ⟨.int z.length,H,I.tok _,⟨_,rfl⟩,q⟩
theorem rO:oV X (.type "tuple") (λxs H Q=>∃p ys,xs=[.ref p]/\((SqL X.K H p ys/\∀l,H l=am->Q (.ref l) (upd H l (.tup ys)))\/(SqT X.K H p ys/\Q (.ref p) H))):=by
 intro Ψ s σ H xs us Q I r h;obtain⟨p,ys,rfl,h⟩:=h;obtain⟨u,rfl,rx⟩:=vals1 r;cases rx;rcases h with ⟨hq,q⟩|⟨hq,q⟩
 ·obtain⟨its,r',pl,hz⟩:=I.list hq;have hlen:=r'.length;refine call_tuple_list pl.isList (λh' kp=>?_) (by simp only[bX]<;>lia);have I1:Inv X Ψ σ H {s with heap:=h'}:=I.kept (t':=s.toks) kp;have I2:Inv X Ψ σ (upd H h'.objs.size (.tup ys)) {s with heap:=h'.push {cls:=.type "tuple",data:=.seq its.toArray}}:=
   I1.laid (t':=s.toks) (λb o e=>b6 _ e) (bj _) (show lA X.prog X.w _ _ _ (.tup ys) from ⟨hz,its,r',j8.new _ _⟩)
  exact⟨.ref h'.objs.size,_,I2,rfl,q _ (I1.hok.fresh (bj _))⟩
 ·obtain⟨its,r',pl,hz⟩:=I.tuple hq;exact call_tuple_same pl ⟨.ref p,H,I,rfl,q⟩
def tyV(K:bz)(T:c4)(x:V)(H:Hp):Prop:=match x with
 |.str _=>T="str"
 |.int _=>T="int"
 |.ref p=>(T="list"/\∃xs,SqL K H p xs)\/(T="tuple"/\((∃o,K.lookup p=af o/\o.cls=.type "tuple"/\o.dict=am)\/∃xs,H p=af (.tup xs)))\/
   (T="dict"/\((∃kvs,H p=af (.dK kvs))\/∃kvs,H p=af (.dT kvs)))\/(T="set"/\∃S n,H p=af (.set S n))
 |_=>cg
theorem aFy{Ψ:aa (ak×ba)}{σ:St}{H:Hp}{s:ao}{T:c4}{x:V}{v:aj}(I:Inv X Ψ σ H s)(r:RelV x v)(ty:tyV X.K T x H) :
  s.TypeIs v T/\∀a,v=.ref a->∃ob,s.heap.get? a=af ob/\ob.dict=am:=by
 cases x with
 |str z=>
  obtain⟨t,rfl⟩:=r;cases (show T="str" from ty);exact⟨typeIs_str s z t,λ_ e=>nomatch e⟩
 |int i=>
  obtain⟨t,rfl⟩:=r;cases (show T="int" from ty);exact⟨tx s i t,λ_ e=>nomatch e⟩
 |ref p=>
  cases r;rcases ty with ⟨rfl,xs,hq⟩|⟨rfl,⟨o,hk,hc,hd⟩|⟨xs,hk⟩⟩|⟨rfl,hk⟩|⟨rfl,S,n,hk⟩
  ·obtain⟨its,_,pl,_⟩:=I.list hq;refine⟨pl.isList.typeIs,λa e=>?_⟩;cases e;obtain⟨o,n,e,c,hd,_⟩:=pl;exact⟨o,e,hd⟩
  ·refine⟨⟨o,I.kIn p o hk,hc⟩,λa e=>?_⟩;cases e;exact⟨o,I.kIn _ o hk,hd⟩
  ·obtain⟨_,its,_,pl⟩:=I.hok p _ hk;refine⟨(j8.tup pl).typeIs,λa e=>?_⟩;cases e;exact j8.bare pl
  ·have z:∃o,s.heap.get? p=af o/\o.ExactDict:=by
    rcases hk with ⟨kvs,hk⟩|⟨kvs,hk⟩
    ·obtain⟨_,_,_,_,o,_,_,e,ex,_⟩:=I.hok p _ hk;exact⟨o,e,ex⟩
    ·obtain⟨_,_,_,_,o,_,_,e,ex,_⟩:=I.hok p _ hk;exact⟨o,e,ex⟩
   obtain⟨o,e,ex⟩:=z;refine⟨⟨o,e,ex.1⟩,λa e2=>?_⟩;cases e2;exact⟨o,e,ex.2.1⟩
  ·obtain⟨o,_,_,_,e,ex,_⟩:=I.hok p _ hk;refine⟨⟨o,e,ex.1⟩,λa e2=>?_⟩;cases e2;exact⟨o,e,ex.2.1⟩
 |_=>exact fi ty
noncomputable def aRb(K:bz)(T:c4)(r:V->aa V->Hp->VK->Prop)(to:TE):TE:=λσ H Q=>to σ H λx H1=>tyV K T x H1/\r x [] H1 Q
noncomputable def tBM(K:bz)(T:c4)(r:V->aa V->Hp->VK->Prop)(to:TE)(t:TA):TE:=λσ H Q=>to σ H λx H1=>tyV K T x H1/\t σ H1 λxs H2=>r x xs H2 Q
variable {o e:Expr} {es:aa Expr} {to:TE} {t:TA} {name:Str} {apos cpos:bo} {T id:c4} {r:V->aa V->Hp->VK->Prop}
theorem aLv(pa:tF T)(slot:Slot T name id)(hty:ju (.builtin id)=pure (.type "method_descriptor"))(hm:MtR X id r)(ho:PE X o to)
 (hbase:iP o name X.env (bE o X.env)=bE o X.env:=by rfl)(hline:(apos.endLine==cpos.line)=ag:=by rfl):PE X (.Call (.Attribute o name apos) [] [] cpos) (aRb X.K T r to):=by
 intro Ψ s σ H Q I h;refine wpAny_Call_method0_late hbase hline (thn (ho Ψ s σ H _ I h) λv s1 ⟨x,H1,I1,r1,ty,q1⟩=>?_);obtain⟨h1,h2⟩:=aFy I1 r1 ty;exact⟨T,id,pa,slot,hty,h1,h2,xE rfl (PySem.evalArgs_none (hm Ψ s1 σ H1 x [] v [] Q I1 r1 .nil q1))⟩
theorem ZJ(pa:tF T)(slot:Slot T name id)(hty:ju (.builtin id)=pure (.type "method_descriptor"))(hm:MtR X id r)(ho:PE X o to)(ha:PA X (e::es) t)
 (hbase:iP o name X.env (bE o X.env)=bE o X.env:=by rfl)
 (hfew:((eo cpos (bp (e::es) X.env)).all (λx=>!x.1)&&(kH cpos (kK [] X.env)).all (λx=>x.1.isSome)
  &&ϒ ((e::es).length+([]:aa gi).length+(if ([]:aa gi).isEmpty then 0 else 1)<30))=ag:=by rfl)
 (hline:(apos.endLine==cpos.line)=ag:=by rfl)(hs:bp (e::es) X.env=(ai,bE e X.env)::bp es X.env:=by rfl)(hplain:(eo cpos (bp es X.env)).any (·.1)=ai:=by rfl) :
  PE X (.Call (.Attribute o name apos) (e::es) [] cpos) (tBM X.K T r to t):=by
 intro Ψ s σ H Q I h;refine wpAny_Call_method_late hbase hfew hline rfl (thn (ho Ψ s σ H _ I h) λv s1 ⟨x,H1,I1,r1,ty,q1⟩=>?_);obtain⟨h1,h2⟩:=aFy I1 r1 ty;refine⟨T,id,pa,slot,hty,h1,h2,?_⟩;have hA:=ha cpos Ψ s1 σ H1 _ I1 q1;rw[hs] at hA ⊢;refine xE (by show(ai||(eo cpos (bp es X.env)).any (·.1))=ai;rw[hplain]<;>rfl) (Calls.evalArgs_plain ?_);exact thn hA λus s2 ⟨vs,H2,I2,r2,q2⟩=>hm Ψ s2 σ H2 x vs v us Q I2 r1 r2 q2
end
def MtM(X:Cx)(id:c4)(r:V->aa V->Hp->VK->Prop):Prop:=
 ∀(Ψ:aa (ak×ba))(s:ao)(σ:St)(H:Hp)(x:V)(xs:aa V)(v:aj)(us:aa aj)(Q:VK),Inv X Ψ σ H s->RelV x v->Vals xs us->r x xs H Q->
  ϑ (aw X.prog X.w) X.A (call (.builtin id) (v::us)) (EP X Ψ σ Q) X.xe s
theorem Vals.one:∀{x:V}{us:aa aj},Vals [x] us->∃u,us=[u]/\RelV x u
 |_,_,.cons r .nil=>⟨_,rfl,r⟩
theorem Vals.zero:∀{us:aa aj},Vals [] us->us=[]
 |_,.nil=>rfl
theorem Vals.dropLast{xs:aa V}{us:aa aj}(h:Vals xs us):Vals xs.dropLast us.dropLast:=by
 induction h with
 |nil=>exact .nil
 |cons r t ih=>
  cases t with
  |nil=>exact .nil
  |cons q t'=>exact .cons r ih
theorem Vals.rep{xs:aa V}{us:aa aj}(h:Vals xs us):∀k:ah,Vals (b5 k xs).flatten (b5 k us).flatten
 |0=>.nil
 |k+1=>by
  rw[jv,jv,kM,kM];exact Vals.append h (Vals.rep h k)
theorem WM{α:Type}(l:aa α):l.eraseIdx (l.length-1)=l.dropLast:=by
 induction l with
 |nil=>rfl
 |cons a r ih=>
  cases r with
  |nil=>rfl
  |cons b r=>
   have e:(a::b::r).length-1=((b::r).length-1)+1:=by
    have h1:(a::b::r).length=r.length+2:=rfl;have h2:(b::r).length=r.length+1:=rfl;lia
   rw[e,List.eraseIdx_cons_succ,ih]
   all_goals rfl
theorem foldl_rep(its:aa aj):∀(k:ah)(acc:aa aj),
  tI (λx1 x2=>x1++x2) acc.toArray (b5 k its.toArray)=(acc++(b5 k its).flatten).toArray
 |0,acc=>by simp
 |k+1,acc=>by
  have e:acc.toArray++its.toArray=(acc++its).toArray:=by simp
  have e2:(acc++its)++(b5 k its).flatten=acc++(b5 (k+1) its).flatten:=by
   rw[jv,kM,c_]
  rw[<-e2,<-foldl_rep its k (acc++its),<-e,jv,ij]
section
variable {X:Cx} {Ψ:aa (ak×ba)} {σ:St} {H:Hp} {s:ao} {l:ak} {xs ys:aa V}
theorem Inv.aOh{its its':aa aj}{n:ah}{f:aE aj->aE aj}{t':ah}(I:Inv X Ψ σ H s)(hH:H l=af (.lst xs))
 (e:s.heap.get? l=af {cls:=.type "list",data:=.seq its.toArray n})(hf:f its.toArray=its'.toArray)(hv:Vals ys its')(hz:ys.length<=bb) :
  Inv X Ψ σ (upd H l (.lst ys)) {s with heap:=s.heap.update l (eS f),toks:=t'}:=by
 have q:=BA e f;rw[hf] at q;refine I.write (x:=l) (e:=l) (by rw[hH];exact trivial) (.inl rfl) (λb' u hb hu=>(l6 s.heap (eS f) (Ne.symm hb)).trans hu) ⟨_,q⟩ ?_;exact⟨hz,its',_,hv,q⟩
theorem Inv.aQg{its:aa aj}{t':ah}(I:Inv X Ψ σ H s)(hv:Vals ys its)(hz:ys.length<=bb) :
  Inv X Ψ σ (upd H s.heap.objs.size (.lst ys)) {s with heap:=s.heap.push {cls:=.type "list",data:=.seq its.toArray},toks:=t'}:=
 I.laid (λ_ _ q=>b6 _ q) (bj _) ⟨hz,its,0,hv,c8 _ rfl⟩
theorem Inv.fresh(I:Inv X Ψ σ H s):H s.heap.objs.size=am:=I.hok.fresh (bj _)
theorem Inv.aKw(I:Inv X Ψ σ H s)(hH:H l=af (.lst xs)):xs.length<=bb/\∃(its:aa aj)(n:ah),Vals xs its/\xs.length=its.length/\s.heap.get? l=af {cls:=.type "list",data:=.seq its.toArray n}:=by
 obtain⟨z,its,n,r,e⟩:=I.hok l _ hH;exact⟨z,its,n,r,r.length,e⟩
theorem DW{n:ah}(h:n<=bb):kP n=ai:=by
 unfold kP;exact bP (by lia)
end
section
variable {X:Cx}
def aHk:V->aa V->Hp->VK->Prop:=λx vs H Q=>∃l xs y,x=.ref l/\vs=[y]/\H l=af (.lst xs)/\xs.length<bb/\Q .non (upd H l (.lst (xs++[y])))
theorem wJ:MtM X "list.append" aHk:=by
 intro Ψ s σ H x vs v us Q I rx rv h;obtain⟨l,xs,y,rfl,rfl,hH,hz,q⟩:=h;cases rx;obtain⟨u,rfl,ru⟩:=rv.one;obtain⟨z,its,n,r,hl,e⟩:=I.aKw hH;refine ik tJ ⟨_,e,rfl⟩ F.entry_list_append (F.args_list_append_2 _ _) (PySem.list_append l its.toArray n u (by rw[bX];lia)) ⟨e,?_⟩;refine⟨.non,_,I.aOh (its':=its++[u]) hH e (by simp) (r.append (.cons ru .nil)) ?_,rfl,q⟩;rw[cb,fx];lia
def aHl:V->aa V->Hp->VK->Prop:=λx vs H Q=>∃l b xs zs,x=.ref l/\vs=[.ref b]/\H l=af (.lst xs)/\H b=af (.lst zs)/\xs.length+zs.length<=bb/\Q .non (upd H l (.lst (xs++zs)))
theorem ZK:MtM X "list.extend" aHl:=by
 intro Ψ s σ H x vs v us Q I rx rv h;obtain⟨l,b,xs,zs,rfl,rfl,hH,hB,hz,q⟩:=h;cases rx;obtain⟨u,rfl,ru⟩:=rv.one;cases ru;obtain⟨z,its,n,r,hl,e⟩:=I.aKw hH;obtain⟨z2,its2,n2,r2,hl2,e2⟩:=I.aKw hB;have hsz:its.toArray.size+its2.toArray.size<=bb:=by rw[bX,bX];lia
 have hlong:¬(!its.toArray.isEmpty&&kP (its.toArray.size+its2.toArray.size))=ag:=by
  rw[DW hsz,kQ];exact jm
 refine ik nK ⟨_,e,rfl⟩ xI (xL _ _)
  (BB l its.toArray n b its2.toArray n2 hlong (by rw[bX];lia) (by lia)) ⟨e,e2,?_⟩
 refine⟨.non,_,I.aOh (its':=its++its2) hH e (by simp) (r.append r2) ?_,rfl,q⟩;rw[cb];lia
def aRc:V->aa V->Hp->VK->Prop:=λx vs H Q=>∃l xs y,x=.ref l/\vs=[]/\H l=af (.lst xs)/\xs[xs.length-1]?=af y/\Q y (upd H l (.lst xs.dropLast))
theorem aLw:MtM X "list.pop" aRc:=by
 intro Ψ s σ H x vs v us Q I rx rv h;obtain⟨l,xs,y,rfl,rfl,hH,hy,q⟩:=h;cases rx;have hus:=rv.zero;subst hus;obtain⟨z,its,n,r,hl,e⟩:=I.aKw hH;obtain⟨u,hu,ru⟩:=r.get hy;have hy':its.toArray[its.toArray.size-1]?=af u:=by
  show its.toArray[its.length-1]?=af u;rw[<-nL,<-hl];exact hu
 refine ik xS ⟨_,e,rfl⟩ F.entry_list_pop (F.args_list_pop_1 _) (BC l its.toArray n u hy' (by rw[bX];lia)) ⟨e,?_⟩;refine⟨y,_,I.aOh (its':=its.dropLast) hH e ?_ r.dropLast ?_,ru,q⟩
 ·show its.toArray.eraseIdxIfInBounds (its.toArray.size-1)=its.dropLast.toArray;rw[bX,List.eraseIdxIfInBounds_toArray,WM]
 ·rw[List.length_dropLast];lia
def aRd:R2:=λx y H Q=>∃l k xs,x=.ref l/\y=.int k/\H l=af (.lst xs)/\-(2 ^ 63)<=k/\k<2 ^ 63/\xs.length*k.toNat<=bb/\
 ∀p,H p=am->Q (.ref p) (upd H p (.lst (b5 k.toNat xs).flatten))
theorem len_rep{α:Type}(xs:aa α)(k:ah):(b5 k xs).flatten.length=k*xs.length:=by
 induction k with
 |zero=>simp
 |succ k ih=>rw[jv,kM,cb,ih,Nat.succ_mul,Nat.add_comm]
theorem aLx:OpR X (eg .Mult) aRd:=by
 intro Ψ s σ H x y v u Q I rx ry h;obtain⟨l,k,xs,rfl,rfl,hH,h1,h2,hz,q⟩:=h;cases rx;obtain⟨t,rfl⟩:=ry;obtain⟨z,its,n,r,hl,e⟩:=I.aKw hH;have hlen:its.toArray.size*k.toNat<=bb:=by rw[bX,<-hl];exact hz
 have hcap:¬its.toArray.size*k.toNat > (2 ^ 63-1) / 8:=by
  have:(bb:ah)<=(2 ^ 63-1) / 8:=by decide
  lia
 have hfit:¬(!Builtin.List.listFitsIndex k)=ag:=by
  rw[fitsIndex_both h1 h2];exact jm
 have hlong:¬kP (its.toArray.size*k.toNat)=ag:=by
  rw[DW hlen];exact jm
 have hnew:tI (λx1 x2=>x1++x2) #[] (b5 (if its.toArray.isEmpty=ag then 0 else k.toNat) its.toArray)=(b5 k.toNat its).flatten.toArray:=by
  have f0:∀m:ah,tI (λx1 x2=>x1++x2) #[] (b5 m its.toArray)=(b5 m its).flatten.toArray:=λm=>by
   have:=foldl_rep its m [];rw[dQ] at this;exact this
  rw[f0];cases its with
  |nil=>simp
  |cons a r'=>rw[aq (by simp)]
 refine wpAny_binaryOp_repeat_ref (T:= "list") (U:= "int") (by decide) ⟨_,e,rfl⟩ (λs'=>tx s' k t) noFill_list_mul F.fills_int_mul ya repeat_list F.slot_int_index.lookup
  (ik ya (tx s k t) F.entry_int_rmul (F.args_int_rmul_2 _ _) (int___rmul___int_list k t l its.toArray n)
   ⟨e,rfl,⟨_,e,rfl⟩,ik F.slot_list_mul ⟨_,e,rfl⟩ F.entry_list_mul (F.args_list_mul_2 _ _) (BD l its.toArray n k t hfit hcap hlong) ⟨e,?_⟩⟩)
 rw[hnew];exact⟨.ref _,_,I.aQg (t':=s.toks) (r.rep k.toNat) (by rw[len_rep,Nat.mul_comm];exact hz),rfl,q _ I.fresh⟩
end
section
variable {κ:Type} [fc κ]
noncomputable def rM(kvs:aa (κ×V))(k:κ):av V:=(kvs.find? λkv=>ϒ (kv.1=k)).map (·.2)
noncomputable def putK(kvs:aa (κ×V))(k:κ)(v:V):aa (κ×V):=
 if (kvs.any λkv=>ϒ (kv.1=k))=ag then kvs.map (λkv=>if kv.1=k then (kv.1,v) else kv) else kvs++[(k,v)]
theorem rP{p:κ×V}{r:aa (κ×V)}{k:κ}(e:p.1=k):rM (p::r) k=af p.2:=by simp[rM,gV,e]
theorem rQ{p:κ×V}{r:aa (κ×V)}{k:κ}(e:¬p.1=k):rM (p::r) k=rM r k:=by simp[rM,gV,e]
theorem rR(k:κ):∀kvs:aa (κ×V),(kvs.any λkv=>ϒ (kv.1=k))=(rM kvs k).isSome
 |[]=>rfl
 |p::r=>by
  rw[kX];by_cases e:p.1=k
  ·simp only[rP e,bq e,Bool.true_or,tP]
  ·rw[rQ e,bP e,l7];exact rR k r
theorem jR(kvs:aa (κ×V))(k:κ)(v:V):(putK kvs k v).length<=kvs.length+1:=by
 unfold putK;split
 ·rw[ay];lia
 ·rw[cb,b9,dS];lia
theorem DX{kvs:aa (κ×V)}{k:κ}(v:V)(h:rM kvs k=am):putK kvs k v=kvs++[(k,v)]:=by
 unfold putK;rw[rR,h];exact aq (by decide)
theorem YH.mZ{o:av V}{u:av aj}(r:YH o u):o.isSome=u.isSome:=by
 cases o with
 |none=>cases u with
  |none=>rfl
  |some _=>exact(show cg from r).elim
 |some _=>cases u with
  |none=>exact(show cg from r).elim
  |some _=>rfl
theorem YH.getD{o:av V}{u:av aj}{d:V}{d':aj}(r:YH o u)(rd:RelV d d'):RelV (o.getD d) (u.getD d'):=by
 cases o with
 |none=>cases u with
  |none=>exact rd
  |some _=>exact(show cg from r).elim
 |some _=>cases u with
  |none=>exact(show cg from r).elim
  |some _=>exact r
theorem KV.val{kvs:aa (κ×V)}{vs:aa (κ×aj)}(r:KV kvs vs)(k:κ):YH (rM kvs k) (jw vs k):=by
 unfold KV at r;induction r with
 |nil=>exact True.intro
 |@cons p q ps qs h t ih=>
  obtain⟨h1,h2⟩:=h;by_cases e:p.1=k
  ·have e':q.1=k:=h1.symm.trans e;have b:jw (q::qs) k=af q.2:=by simp[jw,gV,e']
   rw[rP e,b];exact h2
  ·have e':¬q.1=k:=λz=>e (h1.trans z)
   have b:jw (q::qs) k=jw qs k:=by simp[jw,gV,e']
   rw[rQ e,b];exact ih
theorem KV.any{kvs:aa (κ×V)}{vs:aa (κ×aj)}(r:KV kvs vs)(k:κ):(kvs.any λkv=>ϒ (kv.1=k))=vs.any λkv=>ϒ (kv.1=k):=by
 unfold KV at r;induction r with
 |nil=>rfl
 |cons h t ih=>rw[kX,kX,ih,h.1]
theorem KV.repl{kvs:aa (κ×V)}{vs:aa (κ×aj)}(r:KV kvs vs)(k:κ){y:V}{u:aj}(ry:RelV y u) :
  KV (kvs.map λkv=>if kv.1=k then (kv.1,y) else kv) (vs.map λkv=>if kv.1=k then (kv.1,u) else kv):=by
 unfold KV at r ⊢;induction r with
 |nil=>exact .nil
 |@cons p q ps qs h t ih=>
  rw[aT,aT];refine .cons ?_ ih;obtain⟨h1,h2⟩:=h;by_cases e:p.1=k
  ·rw[ar e,ar (h1.symm.trans e)];exact⟨h1,ry⟩
  ·rw[aq e,aq (λz=>e (h1.trans z))];exact⟨h1,h2⟩
theorem KV.put{kvs:aa (κ×V)}{vs:aa (κ×aj)}(r:KV kvs vs)(k:κ){y:V}{u:aj}(ry:RelV y u):KV (putK kvs k y) (k4 vs k u):=by
 unfold putK k4;rw[r.any k];by_cases e:(vs.any λkv=>ϒ (kv.1=k))=ag
 ·rw[ar e,ar e];exact r.repl k ry
 ·rw[aq e,aq e];exact yb r ⟨rfl,ry⟩
theorem KV.length{kvs:aa (κ×V)}{vs:aa (κ×aj)}(r:KV kvs vs):kvs.length=vs.length:=kj r
end
theorem wK{P:br}{w:bg}{k:Key}{u:aj}(r:RelV (kV k) u):(cL P w).is k u=ag:=by
 cases k with
 |inl i=>obtain⟨t,e⟩:=(show ∃t,u=sj i t from r);subst e;exact O9 P w i t
 |inr x=>obtain⟨t,e⟩:=(show ∃t,u=sn x t from r);subst e;exact O_ P w x t
theorem J2{P:br}{w:bg}:∀{ks:aa Key}{us:aa aj},Vals (ks.map kV) us->ItemsAre (cL P w) ks us
 |[],_,r=>by rw[im] at r;cases r;exact .nil
 |k::ks,_,r=>by
  rw[aT] at r;cases r with
  |cons h t=>exact .cons (wK h) (J2 t)
abbrev KT(H:Hp):aa (aa Key×V)->aa (aa Key×ak×aj)->Prop:=jg λp q=>p.1=q.1/\H q.2.1=af (.tup (p.1.map kV))/\RelV p.2 q.2.2
theorem KT.val{H:Hp}{kvs:aa (aa Key×V)}{xs:aa (aa Key×ak×aj)}(r:KT H kvs xs)(k:aa Key):YH (rM kvs k) ((io xs k).map (·.2)):=by
 induction r with
 |nil=>exact True.intro
 |@cons p q ps qs h t ih=>
  obtain⟨h1,_,h2⟩:=h;by_cases e:p.1=k
  ·have e':q.1=k:=h1.symm.trans e;have b:io (q::qs) k=af q.2:=by simp[io,gV,e']
   rw[rP e,b];exact h2
  ·have e':¬q.1=k:=λz=>e (h1.trans z)
   have b:io (q::qs) k=io qs k:=by simp[io,gV,e']
   rw[rQ e,b];exact ih
theorem KT.repl{H:Hp}{kvs:aa (aa Key×V)}{xs:aa (aa Key×ak×aj)}(r:KT H kvs xs)(k:aa Key){y:V}{u:aj}(ry:RelV y u) :
  KT H (kvs.map λkv=>if kv.1=k then (kv.1,y) else kv) (xs.map (putAt k u)):=by
 induction r with
 |nil=>exact .nil
 |@cons p q ps qs h t ih=>
  rw[aT,aT];refine .cons ?_ ih;obtain⟨h1,h2,h3⟩:=h;unfold putAt;by_cases e:p.1=k
  ·rw[ar e,ar (h1.symm.trans e)];exact⟨h1,h2,ry⟩
  ·rw[aq e,aq (λz=>e (h1.trans z))];exact⟨h1,h2,h3⟩
theorem KT.put{H:Hp}{kvs:aa (aa Key×V)}{xs:aa (aa Key×ak×aj)}(r:KT H kvs xs)(k:aa Key){b:ak}{y:V}{u:aj}(hb:H b=af (.tup (k.map kV)))(ry:RelV y u) :
  KT H (putK kvs k y) (storedH xs k b u):=by
 have e:(kvs.any λkv=>ϒ (kv.1=k))=(io xs k).isSome:=by
  rw[rR,(r.val k).mZ,tT]
 unfold putK storedH;rw[e];by_cases q:(io xs k).isSome=ag
 ·rw[ar q,ar q];exact r.repl k ry
 ·rw[aq q,aq q];exact yb r ⟨rfl,hb,ry⟩
theorem KT.keeps{H H':Hp}{kvs:aa (aa Key×V)}{xs:aa (aa Key×ak×aj)}(r:KT H kvs xs)(ht:∀b ys,H b=af (.tup ys)->H' b=af (.tup ys)):KT H' kvs xs:=
 Paired.aOo r λ_ _ z=>⟨z.1,ht _ _ z.2.1,z.2.2⟩
section
variable {P:br} {w:bg} {H:Hp} {h:aI} {a:ak}
theorem aLy{u:HO}(ok:HOk P w H h)(e:Rd H a u):lA P w H h a u:=e.ok ok
theorem PK{kvs:aa (Key×V)}(ok:HOk P w H h)(e:Rd H a (.dK kvs)):kvs.length<=bb/\(a==ff)=ai/\∃vs,KV kvs vs/\h.DictOf (cL P w) a vs:=
 show lA P w H h a (.dK kvs) from aLy ok e
theorem WN{kvs:aa (Key×V)}(ok:HOk P w H h)(e:H a=af (.dK kvs)):kvs.length<=bb/\(a==ff)=ai/\∃vs,KV kvs vs/\h.DictOf (cL P w) a vs:=PK ok (.inl e)
theorem uN{ks:aa Key}(ok:HOk P w H h)(e:H a=af (.tup (ks.map kV))):(iw (cL P w)).is h ks a:=by
 obtain⟨_,its,r,o,h1,h2,n,h3⟩:=(show lA P w H h a (.tup (ks.map kV)) from ok a _ e)
 exact⟨o,its.toArray,n,h1,h2,cm (·.1) h3,by simpa using J2 r⟩
theorem PL{kvs:aa (aa Key×V)}(ok:HOk P w H h)(e:Rd H a (.dT kvs)):kvs.length<=bb/\(a==ff)=ai/\
  ∃xs,KT H kvs xs/\h.DictOfH (iw (cL P w)) a xs:=by
 obtain⟨z,y,xs,r,o,es,ep,h1,h2,h3,h4,h5⟩:=(show lA P w H h a (.dT kvs) from aLy ok e)
 refine⟨z,y,xs,r,o,es,ep,h1,h2,h3,h4,λx hx=>?_,h5⟩;have all:∀{l:aa (aa Key×V)}{m:aa (aa Key×ak×aj)},KT H l m->∀x∈m,(iw (cL P w)).is h x.1 x.2.1:=by
  intro l m q;induction q with
  |nil=>intro x hx;exact nomatch hx
  |@cons p q ps qs hq t ih=>
   intro x hx;rcases bd.mp hx with e|hx
   ·subst e;exact uN ok (by rw[<-hq.1];exact hq.2.1)
   ·exact ih x hx
 exact all r x hx
theorem ZL{kvs:aa (aa Key×V)}(ok:HOk P w H h)(e:H a=af (.dT kvs)):kvs.length<=bb/\(a==ff)=ai/\
  ∃xs,KT H kvs xs/\h.DictOfH (iw (cL P w)) a xs:=PL ok (.inl e)
end
def SM(H:Hp)(a:ak)(y:V)(r:av V):Prop:=
 (∃kvs k,Rd H a (.dK kvs)/\y=kV k/\r=rM kvs k)\/∃kvs k b,Rd H a (.dT kvs)/\y=.ref b/\H b=af (.tup (k.map kV))/\r=rM kvs k
def aDi(H:Hp)(a:ak)(y v:V)(H':Hp):Prop:=
 (∃kvs k,H a=af (.dK kvs)/\y=kV k/\kvs.length<bb/\H'=upd H a (.dK (putK kvs k v)))\/
 ∃kvs k b,H a=af (.dT kvs)/\y=.ref b/\H b=af (.tup (k.map kV))/\kvs.length<bb/\H'=upd H a (.dT (putK kvs k v))
theorem SM.k{H:Hp}{a:ak}{kvs:aa (Key×V)}{k:Key}(e:H a=af (.dK kvs)):SM H a (kV k) (rM kvs k):=.inl ⟨kvs,k,.inl e,rfl,rfl⟩
theorem SM.t{H:Hp}{a b:ak}{kvs:aa (aa Key×V)}{k:aa Key}(e:H a=af (.dT kvs))(eb:H b=af (.tup (k.map kV))):SM H a (.ref b) (rM kvs k):=.inr ⟨kvs,k,b,.inl e,rfl,eb,rfl⟩
theorem aDi.k{H:Hp}{a:ak}{kvs:aa (Key×V)}{k:Key}{v:V}(e:H a=af (.dK kvs))(hl:kvs.length<bb):aDi H a (kV k) v (upd H a (.dK (putK kvs k v))):=.inl ⟨kvs,k,e,rfl,hl,rfl⟩
theorem aDi.t{H:Hp}{a b:ak}{kvs:aa (aa Key×V)}{k:aa Key}{v:V}(e:H a=af (.dT kvs))(eb:H b=af (.tup (k.map kV)))(hl:kvs.length<bb) :
  aDi H a (.ref b) v (upd H a (.dT (putK kvs k v))):=.inr ⟨kvs,k,b,e,rfl,eb,hl,rfl⟩
section
variable {X:Cx} {Ψ:aa (ak×ba)} {σ:St} {H:Hp} {s:ao} {a:ak} {y v:V} {u r:aj} {o:av V} {A:bS} {E:aj->ao->Prop}
theorem Inv.big(I:Inv X Ψ σ H s):ff<s.heap.objs.size:=by
 have h:ck<s.heap.objs.size:=(I.mod.glob.keeps I.bk).lt;exact Nat.lt_trans (by decide) h
theorem ZM{Q:aj->ao->Prop}(hu:A.units+1<bm)(I:Inv X Ψ σ H s)(g:SM H a y (af v))(ry:RelV y u)(h:∀w' s',Inv X Ψ σ H s'->RelV v w'->Q w' s') :
  ϑ (aw X.prog X.w) A (jr (.ref a) u) Q E s:=by
 rcases g with ⟨kvs,k,e,ey,l⟩|⟨kvs,k,b,e,ey,eb,l⟩
 ·subst ey;obtain⟨z,hd,vs,rel,dd⟩:=PK I.hok e;obtain⟨w',hw,rw'⟩:=YH.some_of (v:=v) (o:=jw vs k) (by rw[l];exact rel.val k);exact wpAny_getItem_of (wK ry) dd.mapOf hw (h w' _ (I.tok _) rw')
 ·subst ey;cases (show u=eR b from ry);obtain⟨z,hd,xs,rel,dd⟩:=PL I.hok e;obtain⟨w',hw,rw'⟩:=YH.some_of (v:=v) (o:=(io xs k).map (·.2)) (by rw[l];exact rel.val k);obtain⟨p,hp,hp2⟩:=k5.mp hw;refine wpAny_getItem_heap (k6 hu) (uN I.hok eb) dd hp ?_;rw[hp2];exact h w' _ (I.tok _) rw'
theorem aRe{Q:aj->ao->Prop}(hu:A.units+1<bm)(I:Inv X Ψ σ H s)(g:SM H a y o)(ry:RelV y u)(h:∀s',Inv X Ψ σ H s'->Q (.bool o.isSome) s') :
  ϑ (aw X.prog X.w) A (dg .In u (.ref a)) Q E s:=by
 rcases g with ⟨kvs,k,e,ey,l⟩|⟨kvs,k,b,e,ey,eb,l⟩
 ·subst ey;obtain⟨z,hd,vs,rel,dd⟩:=PK I.hok e;refine wpAny_in_of (wK ry) hd dd.mapOf ?_;rw[<-(rel.val k).mZ,<-l];exact h _ (I.tok _)
 ·subst ey;cases (show u=eR b from ry);obtain⟨z,hd,xs,rel,dd⟩:=PL I.hok e;refine wpAny_in_heap (k6 hu) (uN I.hok eb) hd dd ?_;have q:=(rel.val k).mZ;rw[tT] at q;rw[<-q,<-l];exact h _ (I.tok _)
theorem aHm{Q:aj->ao->Prop}(hu:A.units+1<bm)(I:Inv X Ψ σ H s)(g:SM H a y o)(ry:RelV y u)(h:∀s',Inv X Ψ σ H s'->Q (.bool (!o.isSome)) s') :
  ϑ (aw X.prog X.w) A (dg .NotIn u (.ref a)) Q E s:=by
 rcases g with ⟨kvs,k,e,ey,l⟩|⟨kvs,k,b,e,ey,eb,l⟩
 ·subst ey;obtain⟨z,hd,vs,rel,dd⟩:=PK I.hok e;refine wpAny_notIn_of (wK ry) hd dd.mapOf ?_;rw[<-(rel.val k).mZ,<-l];exact h _ (I.tok _)
 ·subst ey;cases (show u=eR b from ry);obtain⟨z,hd,xs,rel,dd⟩:=PL I.hok e;refine wpAny_notIn_heap (k6 hu) (uN I.hok eb) hd dd ?_;have q:=(rel.val k).mZ;rw[tT] at q;rw[<-q,<-l];exact h _ (I.tok _)
theorem wL{h':aI}{t':ah}{ob:HO}(I:Inv X Ψ σ H s)(mu:Mut (H a))(hs:kt a s.heap h')(he:∃q,h'.get? a=af q)(new:lA X.prog X.w (upd H a ob) h' a ob) :
  Inv X Ψ σ (upd H a ob) {s with heap:=h',toks:=t'}:=
 I.write (x:=a) (e:=a) mu (.inl rfl) (λb q hb z=>(hs.2 b hb).trans z) he new
theorem SN{P:br}{w:bg}{H':Hp}{h':aI}{kvs:aa (Key×V)}{vs:aa (Key×aj)}(z:kvs.length<=bb)(hd:(a==ff)=ai)(rel:KV kvs vs)(dd:h'.DictOf (cL P w) a vs) :
  lA P w H' h' a (.dK kvs):=⟨z,hd,vs,rel,dd⟩
theorem J3{H':Hp}{Q:kq->ao->Prop}(hu:A.units+1<bm)(I:Inv X Ψ σ H s)(g:aDi H a y v H')(ry:RelV y u)(rv:RelV v r)(h:∀s',Inv X Ψ σ H' s'->Q () s') :
  ϑ (aw X.prog X.w) A (setItem (.ref a) u r) Q E s:=by
 rcases g with ⟨kvs,k,e,ey,l,eH⟩|⟨kvs,k,b,e,ey,eb,l,eH⟩
 ·subst ey eH;obtain⟨z,hd,vs,rel,dd⟩:=WN I.hok e;have hz:vs.length<=bb:=by rw[<-rel.length];exact z
  have hl:(putK kvs k v).length<=bb:=by have:=jR kvs k v;lia
  refine wpAny_setItem_pairs (hsz:=hz) (wK ry) dd λh' dd' hs=>h _ ?_
  have he:∃q,h'.get? a=af q:=let ⟨q,_,_,hq,_⟩:=dd';⟨q,hq⟩
  exact wL I (by rw[e];exact True.intro) hs he (SN hl hd (rel.put k rv) dd')
 ·subst ey eH;cases (show u=eR b from ry);obtain⟨z,hd,xs,rel,dd⟩:=ZL I.hok e;have hz:xs.length<=bb:=by rw[<-kj rel];exact z
  have hl:(putK kvs k v).length<=bb:=by have:=jR kvs k v;lia
  refine wpAny_setItem_heap (hsz:=hz) (k6 hu) (uN I.hok eb) dd λh' dd' hs=>h _ ?_
  obtain⟨q,es,ep,hq,h2,h3,h4,_,h5⟩:=dd';refine wL I (by rw[e];exact True.intro) hs ⟨q,hq⟩ ⟨hl,hd,_,(rel.put k eb rv).keeps λc ys ec=>?_,q,es,ep,hq,h2,h3,h4,h5⟩;rw[a_ (aDn ec e (λz=>nomatch z))];exact ec
end
theorem PN{X:Cx}{Ψ:aa (ak×ba)}{σ:St}{H:Hp}{s:ao}{a:ak}{y:V}{o:av V}(I:Inv X Ψ σ H s)(g:SM H a y o):s.TypeIs (.ref a) "dict":=by
 rcases g with ⟨kvs,k,e,_,_⟩|⟨kvs,k,b,e,_,_,_⟩
 ·obtain⟨_,_,vs,_,dd⟩:=PK I.hok e;exact dd.typeIs
 ·obtain⟨_,_,xs,_,dd⟩:=PL I.hok e;exact dd.typeIs
theorem DY{P:br}{w:bg}{H:Hp}(h:aI)(hb:ff<h.objs.size):lA P w H (h.push {cls:=.type "dict",data:=.dict #[]}) h.objs.size (.dK []):=
 ⟨eL _,nq.mpr (Ne.symm (cu hb)),[],.nil,yc h⟩
def aLz:TE:=λ_ H Q=>∀p,H p=am->Q (.ref p) (upd H p (.dK []))
section
variable {X:Cx} {pos:bo}
theorem SQ:PE X (.Dict [] [] pos) aLz:=λΨ s σ H Q I h=>
 wpAny_Dict_empty ⟨.ref s.heap.objs.size,_,I.laid (a:=s.heap.objs.size) (o:=.dK []) (t':=s.toks) (λ_ _ q=>b6 _ q) (bj _) (DY s.heap I.big),rfl,h _ (I.hok.fresh (bj _))⟩
end
def ZP:aa (TE×TE)->St->Hp->(aa (V×V)->Hp->Prop)->Prop
 |[],_,H,Q=>Q [] H
 | (tk,tv)::r,σ,H,Q=>tk σ H λx H1=>tv σ H1 λy H2=>ZP r σ H2 λps H3=>Q ((x,y)::ps) H3
abbrev VV:aa (V×V)->aa (aj×aj)->Prop:=jg λp q=>RelV p.1 q.1/\RelV p.2 q.2
def PPs(X:Cx)(pos:bo)(keys:aa (av Expr))(values:aa Expr)(trs:aa (TE×TE)):Prop:=
 ∀(Ψ:aa (ak×ba))(s:ao)(σ:St)(H:Hp)(Q:aa (V×V)->Hp->Prop),Inv X Ψ σ H s->ZP trs σ H Q->
  ϑ (aw X.prog X.w) X.A (evalPairs (pairTrees keys values X.env pos)) (λvs s'=>∃ps H',Inv X Ψ σ H' s'/\VV ps vs/\Q ps H') X.xe s
theorem PP{X:Cx}{pos:bo}:PPs X pos [] [] []:=λΨ s σ H Q I h=>pairTrees_nil_walk ⟨[],H,I,.nil,h⟩
theorem rT{X:Cx}{pos:bo}{k v:Expr}{ks:aa (av Expr)}{vs:aa Expr}{tk tv:TE}{trs:aa (TE×TE)}(hk:PE X k tk)(hv:PE X v tv)(hr:PPs X pos ks vs trs) :
  PPs X pos (af k::ks) (v::vs) ((tk,tv)::trs):=λΨ s σ H Q I h=>
 pairTrees_cons_walk (thn (hk Ψ s σ H _ I h) λu s1 ⟨x,H1,I1,rx,q1⟩=>thn (hv Ψ s1 σ H1 _ I1 q1) λw2 s2 ⟨y,H2,I2,ry,q2⟩=>
  thn (hr Ψ s2 σ H2 _ I2 q2) λws s3 ⟨ps,H3,I3,rel,q3⟩=>⟨(x,y)::ps,H3,I3,.cons ⟨rx,ry⟩ rel,q3⟩)
def gY(kvs more:aa (Key×V)):aa (Key×V):=more.foldl (λacc kv=>putK acc kv.1 kv.2) kvs
theorem KV.merge:∀{more:aa (Key×V)}{rs:aa (Key×aj)}{kvs:aa (Key×V)}{vs:aa (Key×aj)},KV more rs->KV kvs vs->KV (gY kvs more) (nN vs rs):=by
 intro more rs kvs vs r;unfold KV at r;induction r generalizing kvs vs with
 |nil=>intro q;exact q
 |@cons p q ps qs h t ih=>
  intro r0;have e:KV (putK kvs p.1 p.2) (k4 vs q.1 q.2):=by
   have:=r0.put p.1 h.2;rw[<-h.1];exact this
  exact ih e
theorem lX:∀(more kvs:aa (Key×V)),(gY kvs more).length<=kvs.length+more.length
 |[],kvs=>by show kvs.length<=kvs.length+0;lia
 |p::r,kvs=>by
  have h1:=lX r (putK kvs p.1 p.2);have h2:=jR kvs p.1 p.2;show(gY (putK kvs p.1 p.2) r).length<=_;rw[b9];lia
theorem z6{P:br}{w:bg}:∀{kvs:aa (Key×V)}{ws:aa (aj×aj)},VV (kvs.map λkv=>(kV kv.1,kv.2)) ws->∃rs,Carries (cL P w) ws rs/\KV kvs rs
 |[],_,r=>by rw[im] at r;cases r;exact⟨[],True.intro,.nil⟩
 |p::kvs,_,r=>by
  rw[aT] at r;cases r with
  |@cons a b as bs h t=>
   obtain⟨rs,c,q⟩:=z6 (P:=P) (w:=w) t;obtain⟨b1,b2⟩:=b;exact⟨(p.1,b2)::rs,⟨wK h.1,rfl,c⟩,.cons ⟨rfl,h.2⟩ q⟩
def aP6(trs:aa (TE×TE)):TE:=λσ H Q=>∀p,H p=am->ZP trs σ (upd H p (.dK [])) λps H2=>H2 p=af (.dK [])/\∃kvs:aa (Key×V),ps=kvs.map (λkv=>(kV kv.1,kv.2))/\kvs.length<=15/\Q (.ref p) (upd H2 p (.dK (gY [] kvs)))
theorem ZQ{X:Cx}{pos:bo}{keys:aa (av Expr)}{values:aa Expr}{trs:aa (TE×TE)}(h:PPs X pos keys values trs)(hall:keys.all (·.isSome)=ag)(hl:keys.length=values.length)(h0:keys≠[])
 (h15:keys.length<=15):PE X (.Dict keys values pos) (aP6 trs):=by
 intro Ψ s σ H Q I q;have hn:=I.hok.fresh (bj s.heap.objs.size);have I1:=I.laid (a:=s.heap.objs.size) (o:=.dK []) (h':=s.heap.push {cls:=.type "dict",data:=.dict #[]}) (t':=s.toks) (λ_ _ q=>b6 _ q) (bj _) (DY s.heap I.big);refine wpAny_Dict_walk (knd:=cL X.prog X.w) hall hl h0 h15 (thn (h Ψ _ σ _ _ I1 (q _ hn)) λws s2 ⟨ps,H2,I2,rel,e,kvs,ep,lk,q2⟩=>?_);subst ep;obtain⟨rs,c,rk⟩:=z6 (P:=X.prog) (w:=X.w) rel;obtain⟨z,hd,vs0,r0,dd⟩:=WN I2.hok e;cases r0;refine⟨rs,c,dd,λh' dd' hs=>⟨.ref s.heap.objs.size,_,?_,rfl,q2⟩⟩;have hz:(gY [] kvs).length<=bb:=by
  have h1:=lX kvs [];rw[dS] at h1;rw[eC];lia
 have he:∃q,h'.get? s.heap.objs.size=af q:=let ⟨q,_,_,hq,_⟩:=dd';⟨q,hq⟩
 exact wL I2 (by rw[e];exact True.intro) hs he (SN hz hd (rk.merge .nil) dd')
section
variable {X:Cx} {Ψ:aa (ak×ba)} {σ:St} {H:Hp} {s:ao} {a:ak} {y d:V} {u r:aj} {o:av V} {A:bS} {E:aj->ao->Prop}
theorem aM0{Q:aj->ao->Prop}(hu:A.units+1<bm)(I:Inv X Ψ σ H s)(g:SM H a y o)(ry:RelV y u)(h:∀w' s',Inv X Ψ σ H s'->RelV (o.getD .non) w'->Q w' s') :
  ϑ (aw X.prog X.w) A (call (.builtin "dict.get") [.ref a,u]) Q E s:=by
 rcases g with ⟨kvs,k,e,ey,l⟩|⟨kvs,k,b,e,ey,eb,l⟩
 ·subst ey;obtain⟨z,hd,vs,rel,dd⟩:=PK I.hok e;refine nS l8 dd.typeIs nV (yd _ _) (meets_dict_get (cL X.prog X.w) a (wK ry) hd) ⟨_,dd.mapOf,h _ _ (I.tok _) ?_⟩;rw[l];exact(rel.val k).getD rfl
 ·subst ey;cases (show u=eR b from ry);obtain⟨z,hd,xs,rel,dd⟩:=PL I.hok e;refine nS l8 dd.typeIs nV (yd _ _) (meetsH_dict_get (iw (cL X.prog X.w)) a b hd) ⟨k6 hu,k,xs,uN I.hok eb,dd,h _ _ (I.tok _) ?_⟩;rw[l];exact(rel.val k).getD rfl
theorem aM1{Q:aj->ao->Prop}(hu:A.units+1<bm)(I:Inv X Ψ σ H s)(g:SM H a y o)(ry:RelV y u)(rd:RelV d r)(h:∀w' s',Inv X Ψ σ H s'->RelV (o.getD d) w'->Q w' s') :
  ϑ (aw X.prog X.w) A (call (.builtin "dict.get") [.ref a,u,r]) Q E s:=by
 rcases g with ⟨kvs,k,e,ey,l⟩|⟨kvs,k,b,e,ey,eb,l⟩
 ·subst ey;obtain⟨z,hd,vs,rel,dd⟩:=PK I.hok e;refine nS l8 dd.typeIs nV (ye _ _ _) (meets_dict_get_default (cL X.prog X.w) a (wK ry) hd r) ⟨_,dd.mapOf,h _ _ (I.tok _) ?_⟩;rw[l];exact(rel.val k).getD rd
 ·subst ey;cases (show u=eR b from ry);obtain⟨z,hd,xs,rel,dd⟩:=PL I.hok e;refine nS l8 dd.typeIs nV (ye _ _ _) (meetsH_dict_get_default (iw (cL X.prog X.w)) a b hd r) ⟨k6 hu,k,xs,uN I.hok eb,dd,h _ _ (I.tok _) ?_⟩;rw[l];exact(rel.val k).getD rd
end
end L2
namespace Att
open PySem PySem.W PySem.Calls PyProof.Rows
theorem wM{P:nX}{h:aI}:∀(ns:aa ae)(vs:aa aj),WellAll P h vs (ns.map yf)->l9 vs ns:=by
 intro ns;induction ns with
 |nil=>
  intro vs w;rw[im] at w;cases w;exact .nil
 |cons n ns ih=>
  intro vs w;rw[aT] at w;cases w with
  |cons a b=>
   cases a;exact .cons _ _ (ih _ b)
theorem ZR{l:OpenLaw}{n:ah}(hn:l.most=af n){P:nX}{h:aI}{args:aa WData}{vals:aa aj}
 (hpre:l.row.toRowW.claim.pre args=ag)(hwl:WellAll P h vals args) :
  ∃a vs ns,vals=[eR a]/\args=[WData.list (ns.map yf)]/\h.get? a=af {cls:=.type "list",data:=.seq vs.toArray}/\l9 vs ns/\ns.length<=n:=by
 have hsh:WShape.hasAll [] args [.list .int]=ag:=(pre_splitW hpre).1;have hc:l.pre.holds [] {args:=args}=ag:=(pre_splitW hpre).2;obtain⟨d,r,rfl,h1,h2⟩:=hasAllW_cons hsh;obtain rfl:=hasAllW_nil h2;obtain⟨xs,rfl,h3⟩:=hasW_list h1;obtain⟨ns,rfl⟩:=items_int h3;have hlen:ns.length<=n:=by
  unfold OpenLaw.pre at hc;have h4:(WTm.not (.lt (.lit (.int (n:ae))) (.len (.arg 0)))).holds [] {args:=[.list (ns.map .int)]}=ag:=by
   have h4:=(holds_andW hc).1;rw[hn] at h4;exact h4
  have h5:=condW_of h4 (w_not (w_lt w_lit (w_len_list (w_arg rfl))));rw[ay] at h5;refine t5 λq=>?_
  have q':(n:ae)<((ns.length:ah):ae):=by lia
  first
   | (rw[bq q'] at h5;exact az h5 (by decide))
   | (simp at h5;lia)
 cases hwl with
 |cons w1 w2=>
  cases w2;cases w1 with
  |list ho hall=>exact⟨_,_,ns,rfl,rfl,ho,wM ns _ hall,hlen⟩
theorem ZS(l:OpenLaw)(args:aa WData):l.row.toRowW.claim.post args (.bool ag) args=ag:=
 postW_of (r:=l.row.toRowW) (X:=(ag==ag))
  (show yg [] (.bool ag) .bool=ag by first|rfl|decide|simp[yg,WShape.arms,WShape.armsAll])
  (show(WTm.eq .res (.lit (.bool ag))).value [] {args:=args,res:=af (.bool ag),after:=args}=af (.bool (ag==ag)) from w_eq_bool (w_res rfl) w_lit) rfl
theorem PQ{l:OpenLaw}{n:ah}{q:br}{loose:aa Str}{XP:(Str->av aj)->aI->Prop}{YP:bg->aI->Prop}{d:DefRec}
 (hn:l.most=af n)(hdf:d.params.defaults=[])
 (call:∀(w:bg) (s₀ s₁:ao) (mg mb:Str->av aj) (fa:ak) (o:ba) (pm cd doc:aj) (a:ak) (vs:aa aj) (ns:aa ae),
   Ground q loose [] XP w s₀ mg mb s₁.heap->YP w s₁.heap->
   s₁.heap.get? fa=af o->o.data=.func (docDef d.name d.params d.body d.scope pm cd doc)->s₁.heap.CodeRec cd d.name->mg d.name=af (.ref fa)->
   s₁.heap.get? a=af {cls:=.type "list",data:=.seq vs.toArray}->l9 vs ns->ns.length<=n->s₁.gens=#[]->
   codeAny (aw l.prog w) jx (.call (.ref fa) ⟨[.ref a],[]⟩) (λr s'=>r=.ok (.ret (.bool ag))/\OldK s₁.heap s'.heap/\s'.os=s₁.os/\iA s'.gens) s₁) :
  WalkO q loose XP YP l.row.toRowW d [] (λf vs=>t9 f vs):=by
 intro w s₀ s₁ mg mb G Y fa o pm cd doc dV kV ho hd hcd hD hmg hg args vals as hpre hlay hrd hwl hlo;obtain rfl:dV=.none:=Dflts.none hD hdf;obtain rfl:kV=.none:=Dflts.noKw hD;obtain⟨a,vs,ns,rfl,rfl,hobj,hints,hlen⟩:=ZR hn hpre hwl;refine enter_call (kC (call w s₀ s₁ mg mb fa o pm cd doc a vs ns G Y ho (fd_plain hd) hcd hmg hobj hints hlen hg) λr s' hq=>?_);obtain⟨rfl,h2,h3,h4⟩:=hq;exact⟨.inl ⟨.bool ag,.bool ag,[],rfl,λ_=>rfl,.bool ag,ZS l _,λ_=>⟨BE,λ_ hm=>(nomatch hm)⟩⟩,h2,h3,h4⟩
end Att
namespace L2
open PySem PySem.Spec PyProof.Rows
theorem J4:∀{vs:aa aj}{ns:aa ae},l9 vs ns->Vals (ns.map V.int) vs
 |_,_,.nil=>.nil
 |_,_,.cons n t h=>.cons ⟨t,rfl⟩ (J4 h)
def Only(H:Hp):Prop:=∀b,H b=am\/∃o xs,H b=af (.frz o (.lst xs))
theorem aDv{P:br}{w:bg}{K:bz}{mg mb:Str->av aj}{CX:CXT}{k:ah}{fa a:ak}{fd:eD}{x:Str}{sp:Sp}{s₁:ao}{vs:aa aj}{ns:aa ae}
 (KX:K.In s₁.heap)(hns:s₁.heap.Ns ck mg)(hb:s₁.heap.Ns su mb)(hbb:∀x:Str,x ≠ "__name__"->mb x=d3 x)(hlim:s₁.heap.NoLimit)(hg:s₁.gens=#[])
 (ha:s₁.heap.get? a=af {cls:=.type "list",data:=.seq vs.toArray})(hi:l9 vs ns)(hl:ns.length<=bb)(hr:vK k jx)
 (F:∀base:aI,K.In base->base.Ns ck mg->WF P w K mg base CX k fa fd [x] sp)(hbind:∀(s:ao) (u:aj),kB s fd ⟨[u],[]⟩ [(x,u)])
 (hsp:∀H:Hp,Only H->SqL K H a (ns.map V.int)->sp [.ref a] H (λv _=>v=.bl ag) λ_ _ _=>cg)
 (hCX:∀H e s',CX [] H s₁ (λ_ _ _=>cg) e s'->cg) :
  codeAny (aw P w) jx (.call (.ref fa) ⟨[.ref a],[]⟩) (λr s'=>r=.ok (.ret (.bool ag))/\OldK s₁.heap s'.heap/\s'.os=s₁.os/\iA s'.gens) s₁:=by
 have rv:=J4 hi;have lenV:=hi.length
 -- from an abstract heap in which nothing but the script may be tracked
 have core:∀H:Hp,Only H->SqL K H a (ns.map V.int)->HOk P w H s₁.heap->(∀b,H b≠am->b=a)->(H a≠am->K.lookup a=am)->
   codeAny (aw P w) jx (.call (.ref fa) ⟨[.ref a],[]⟩) (λr s'=>r=.ok (.ret (.bool ag))/\OldK s₁.heap s'.heap/\s'.os=s₁.os/\iA s'.gens) s₁:=by
  intro H hO hS hok hA hK;have base_of:∀{b:ak}{o:ba},s₁.heap.get? b=af o->H b=am->(aDo s₁.heap H).get? b=af o:=λe n=>aDp e n
  have noA:∀{b:ak}{o:ba}{es:aE gX}{ep:ah},s₁.heap.get? b=af o->o.data=.dict es ep->H b=am:=λ{b o es ep} e d=>by
   cases q:H b with
   |none=>rfl
   |some u=>
    have e':b=a:=hA b (by rw[q];simp);subst e';rw[ha] at e;cases e;have d':wu vs.toArray _=Data.dict es ep:=d;cases d'
  have nsK:∀{b:ak}{m:Str->av aj},s₁.heap.Ns b m->(aDo s₁.heap H).Ns b m:=λ{b m} ⟨o,es,ep,e,d,r⟩=>⟨o,es,ep,base_of e (noA e d),d,r⟩
  have hKb:K.In (aDo s₁.heap H):=λb o e=>base_of (KX b o e) (by
   cases q:H b with
   |none=>rfl
   |some u=>
    have e':b=a:=hA b (by rw[q];simp);subst e';rw[hK (by rw[q];simp)] at e;cases e)
  have hM:Mod K mg (aDo s₁.heap H):=⟨hKb,nsK hns,⟨mb,nsK hb,hbb⟩,let ⟨mc,h1,h2⟩:=hlim;⟨mc,nsK h1,h2⟩⟩
  have e0:aOg P w K mg (aDo s₁.heap H) jx [] s₁ H:=⟨rfl,hM,λb o e=>aH2 e,yh (YS _ _),trivial,λb hb=>az (show b∈([]:aa ak) from hb) (by simp),hok,.of_eq hg⟩
  refine kC ((F _ hKb (nsK hns)).run jx [] s₁ H ⟨[.ref a],[]⟩ [.ref a] [.ref a] _ _ hr e0 (hbind s₁ (.ref a)) (.cons rfl .nil) (hsp H hO hS)) λr s' h=>?_
  cases r with
  |error e=>exact(hCX H e s' h).elim
  |ok fl=>
   cases fl with
   |next=>exact fi h
   |brk=>exact fi h
   |cont=>exact fi h
   |ret u=>
    obtain⟨v,H',os,bare,un,hok',r',q⟩:=h;have q':v=.bl ag:=q;subst q';obtain rfl:u=nr ag:=r';refine⟨rfl,OldK.of_keep λb o e=>?_,os,bare⟩;cases q:H b with
    |none=>exact un.keep b o e q (by intro z;exact az (show b∈([]:aa ak) from z) (by simp)) (by simp)
    |some u=>
     rcases hO b with z|⟨ob,xs,z⟩
     ·rw[q] at z;cases z
     ·have z2:=un.frzs b ob _ z;obtain⟨e1,_⟩:=hok b _ z;obtain⟨e2,_⟩:=hok' b _ z2;rw[e] at e1;cases e1;exact e2
 cases hk:K.lookup a with
 |some o=>
  -- the script is one of the module's own objects
  have e:=KX a o hk;rw[ha] at e;cases e;refine core (λ_=>am) (λ_=>.inl rfl) (.inr ⟨_,vs.toArray,_,hk,rfl,rfl,rfl,by rw[bX,lenV];exact hl,by simpa using rv⟩) (λb u z=>by have z':(am:av HO)=af u:=z;cases z') (λb z=>az rfl z) λz=>az rfl z
 |none=>
  refine core (λb=>if b=a then af (.frz {cls:=.type "list",data:=.seq vs.toArray} (.lst (ns.map V.int))) else am) (λb=>?_) (.inl (.inr ⟨{cls:=.type "list",data:=.seq vs.toArray},ar rfl⟩)) (λb u z=>?_) (λb z=>?_) λ_=>hk
  ·by_cases hb:b=a
   ·exact .inr ⟨_,_,ar hb⟩
   ·exact .inl (aq hb)
  ·by_cases hb:b=a
   ·have z':=(ar hb).symm.trans z;cases z';subst hb;exact⟨ha,by rw[ay];exact hl,vs,_,rv,ha⟩
   ·have z':=(aq hb).symm.trans z;cases z'
  ·by_cases hb:b=a
   ·exact hb
   ·exact az (aq hb) z
theorem aHn{l:PySem.W.OpenLaw}{n k:ah}{q:br}{loose:aa Str}{XP:(Str->av aj)->aI->Prop}{YP:bg->aI->Prop}{d:DefRec}{K:nX->bz}{CX:bg->CXT}{sp:bg->Sp}{x:Str}
 (hn:l.most=af n)(hn2:n<=bb)(hdf:d.params.defaults=[])(hr:vK k jx)
 (hY:∀(w:bg) (h:aI),YP w h->(K w.params).In h)
 (F:∀(w:bg) (mg:Str->av aj) (fa:ak) (h:aI),(K w.params).In h->h.Ns ck mg->mg d.name=af (.ref fa)->
   ∃fd:eD,(∀(s:ao) (u:aj),kB s fd ⟨[u],[]⟩ [(x,u)])/\
    ∀base:aI,(K w.params).In base->base.Ns ck mg->WF l.prog w (K w.params) mg base (CX w) k fa fd [x] (sp w))
 (hsp:∀(w:bg) (H:Hp) (a:ak) (ns:aa ae),ns.length<=n->Only H->SqL (K w.params) H a (ns.map V.int)->sp w [.ref a] H (λv _=>v=.bl ag) λ_ _ _=>cg)
 (hCX:∀(w:bg) (H:Hp) (s:ao) (e:aj) (s':ao),CX w [] H s (λ_ _ _=>cg) e s'->cg) :
  PySem.W.WalkO q loose XP YP l.row.toRowW d [] (λf vs=>t9 f vs):=by
 refine Att.PQ hn hdf λw s₀ s₁ mg mb fa o pm cd doc a vs ns G Y ho hd hcd hmg hobj hints hlen hg=>?_
 have KX:=hY w _ Y;obtain⟨fd,hb,hF⟩:=F w mg fa _ KX G.T.g hmg;exact aDv KX G.T.g G.T.b G.T.builtins G.T.nolimit hg hobj hints (c6 hlen hn2) hr hF hb (λH hO hS=>hsp w H a ns hlen hO hS) λH e s'=>hCX w H s₁ e s'
noncomputable def qU(s:bi):Arguments:=match s with
 |.FunctionDef _ a _ _ _ _ _ _ _ _=>a
 |_=>{posonlyargs:=[],args:=[],vararg:=am,kwonlyargs:=[],kw_defaults:=[],kwarg:=am,defaults:=[]}
noncomputable def jG(s:bi):aa bi:=match s with
 |.FunctionDef _ _ b _ _ _ _ _ _ _=>b
 |_=>[]
noncomputable def aQ(s:bi):fg:=match s with
 |.FunctionDef _ _ _ _ _ _ sc _ _ _=>sc
 |_=>{kind:=.function,names:=[],isGenerator:=ai,isCoroutine:=ai}
noncomputable abbrev CX0:CXT:=λ_ _ _ _ _ _=>cg
noncomputable abbrev E0:XK:=λ_ _ _=>cg
theorem aP7{X:Cx}:Y9 CX0 X E0:=λ_ _ _ _ _ _ _ h=>h.elim
structure Fun(K:bz)(x qual:Str)(st:bi)(f:ak)(fd:eD):Prop where
 ex:∃(oc:aj)(od:av ak)(kV doc pm:aj)(an:av ak)(cdv ct:aj)(osl:aE (av aj)),
  fd=kG x qual (qU st) (jG st) (aQ st) .none kV doc pm an cdv ct/\K.lookup f=af ⟨oc,od,.func fd,osl⟩/\sK K cdv qual=ag
 kp:lz K (.ref f)=ag
section
variable {P:br} {w:bg} {K:bz} {mg:Str->av aj} {base:aI}
theorem Fun.ok{x qual:Str}{st:bi}{f:ak}{fd:eD}{N ps:aa Str}{k:ah}{sp:Sp}(F:Fun K x qual st f fd)(S:bZ N ps (aQ st))(len:∀vs H Q E,sp vs H Q E->vs.length=ps.length)
 (hbody:∀(cdv:aj) (A:bS) (outer:aa di) (s:ao) (H:Hp) (vs:aa V) (Q:VK) (E:XK),vK k (A.deeper (fF qual (aQ st) s.heap.objs.size f cdv))->sp vs H Q E->
   ∃t,PSs (aDh CX0 P w K mg base N qual (aQ st) f cdv A outer s H E).nox (jG st) t/\t {nx:=λ_ H'=>Q .non H',rt:=Q} (start N vs) H):WF P w K mg base CX0 (k+1) f fd ps sp:=by
 obtain⟨oc,od,kV,doc,pm,an,cdv,ct,osl,rfl,lk,hcd⟩:=F.ex;refine aP3 lk hcd S len λA outer s H vs Q E hr hsp=>?_
 obtain⟨t,h,q⟩:=hbody cdv A outer s H vs Q E hr hsp;exact⟨t,h.nox,q⟩
theorem Fun.binds{x qual:Str}{st:bi}{f:ak}{fd:eD}{ps:aa Str}(F:Fun K x qual st f fd)
 (h:∀(kV doc pm:aj) (an:av ak) (cdv ct:aj) (us:aa aj),us.length=ps.length->bindArgs (kG x qual (qU st) (jG st) (aQ st) .none kV doc pm an cdv ct) ⟨us,[]⟩=pure (ps.zip us)):Binds K fd ps []:=by
 obtain⟨oc,od,kV,doc,pm,an,cdv,ct,osl,rfl,lk,hcd⟩:=F.ex;exact .all (h kV doc pm an cdv ct)
theorem aFz{x qual:Str}{st:bi}{f:ak}{oc:aj}{od an:av ak}{osl:aE (av aj)}{kV doc pm cdv ct:aj}(l:K.lookup f=af ⟨oc,od,.func (kG x qual (qU st) (jG st) (aQ st) .none kV doc pm an cdv ct),osl⟩)
 (c:sK K cdv qual=ag)(k:lz K (.ref f)=ag):Fun K x qual st f (kG x qual (qU st) (jG st) (aQ st) .none kV doc pm an cdv ct):=⟨⟨oc,od,kV,doc,pm,an,cdv,ct,osl,rfl,l,c⟩,k⟩
end
def cR(H H':Hp):Prop:=∀b o,H b=af o->H' b=af o
theorem cR.refl(H:Hp):cR H H:=λ_ _ h=>h
theorem cR.trans{H H1 H2:Hp}(a:cR H H1)(b:cR H1 H2):cR H H2:=λc o h=>b c o (a c o h)
theorem cR.free{H H':Hp}(e:cR H H'){l:ak}(h:H' l=am):H l=am:=by
 cases q:H l with
 |none=>rfl
 |some o=>
  rw[e l o q] at h;cases h
section
variable {κ:Type} [fc κ]
theorem aDw{kvs:aa (κ×V)}{k:κ}(h:rM kvs k=am):¬k∈kvs.map (·.1):=by
 intro m;obtain⟨p,hp,e⟩:=ax.mp m;have q:(kvs.any λkv=>ϒ (kv.1=k))=ag:=List.any_eq_true.mpr ⟨p,hp,bq e⟩;rw[rR,h] at q;exact az q (by simp)
theorem ZV:∀{l:aa κ}{k:κ},l.Nodup->¬k∈l->(l++[k]).Nodup
 |[],k,_,_=>by simp
 |a::r,k,h,hk=>by
  obtain⟨h1,h2⟩:=cj.mp h;show(a::(r++[k])).Nodup;refine cj.mpr ⟨λm=>?_,ZV h2 λm=>hk (bd.mpr (Or.inr m))⟩;rcases cf.mp m with q|q
  ·exact h1 q
  ·exact hk (bd.mpr (jy (cw.mp q).symm))
theorem aHo{kvs:aa (κ×V)}{k:κ}(v:V)(hn:(kvs.map (·.1)).Nodup)(h:rM kvs k=am):((putK kvs k v).map (·.1)).Nodup:=by
 rw[DX v h,ce];exact ZV hn (aDw h)
end
end L2
namespace TS
open PySem PySem.W PyProof.Rows
def Wq(n:ah)(r:ah->ah):KasT α->(α->Prop)->Prop
 |.ret a,Q=>Q a
 |.ask i j k,Q=>i<n/\j<n/\Wq n r (k (ϒ (r i<r j))) Q
theorem Wq.mono{Q Q':α->Prop}(h:∀a,Q a->Q' a):∀{t:KasT α},Wq n r t Q->Wq n r t Q'
 |.ret a,w=>h a w
 |.ask i j k,w=>⟨w.1,w.2.1,Wq.mono h w.2.2⟩
theorem Wq.bind:∀{t:KasT α},Wq n r t (λa=>Wq n r (f a) Q)->Wq n r (t.bind f) Q
 |.ret a,w=>w
 |.ask i j k,w=>⟨w.1,w.2.1,Wq.bind w.2.2⟩
theorem Wq.two(h1 : i < n)(h2 : j < n)(t : r i < r j->Wq n r A Q)(f : r j<=r i->Wq n r B Q) : Wq n r (.ask i j λc=>if c=ag then A else B) Q:=by
 refine⟨h1,h2,?_⟩;by_cases c:r i<r j
 ·rw[bq c];exact t c
 ·rw[bP c];exact f (t5 c)
def Okp(n:ah)(p:aE ah):Prop:=p.Perm (bn n).toArray
theorem Okp.size(h:Okp n p):p.size=n:=by rw[BF h];simp
theorem Okp.lt(h:Okp n p)(n0:0<n)(i:ah):p.getD i 0<n:=by
 by_cases z:i<p.size
 ·have e:p.getD i 0=p[i]:=by simp[k7,z]
  rw[e];have m:p[i]∈(bn n).toArray:=(BG h).mp (Array.getElem_mem z);simpa using m
 ·have e:p.getD i 0=0:=by simp[k7,z]
  rw[e];exact n0
theorem Okp.rev(h:Okp n p)(i j:ah):Okp n (jz p i j):=(mirror_perm _ _ _ _).trans h
theorem gd(p:aE ah)(i:ah):p.getD i 0=(p[i]?).getD 0:=by
 by_cases z:i<p.size
 ·simp[k7,z]
 ·simp[k7,z]
section
variable {n:ah} {r:ah->ah} {p:aE ah}
noncomputable def gr(r:ah->ah)(p:aE ah)(i:ah):ah:=r (p.getD i 0)
theorem ZW(hj:j<=p.size)(k:ah):gr r (jz p i j) k=if i<=k/\k<j then gr r p (i+j-1-k) else gr r p k:=by
 unfold gr jz;rw[gd,getElem?_mirror_all hj];split<;>rw[gd]
theorem PX(hj:j<=p.size)(h:∀k,i<=k->k<j->gr r p k=gr r p (j-1))(k:ah):gr r (jz p i j) k=gr r p k:=by
 rw[ZW hj];split
 ·rename_i z;rw[h k z.1 z.2,h (i+j-1-k) (by lia) (by lia)]
 ·rfl
def Up(r:ah->ah)(p:aE ah)(m:ah):Prop:=∀i j,i<=j->j<m->gr r p i<=gr r p j
def Dn(r:ah->ah)(p:aE ah)(m:ah):Prop:=∀i j,i<=j->j<m->gr r p j<=gr r p i
theorem Up.snoc(h:Up r p m)(h1:1<=m)(c:gr r p (m-1)<=gr r p m):Up r p (m+1):=λi j a b=>by
 by_cases z:j<m
 ·exact h i j a z
 ·obtain rfl:j=m:=by lia
  by_cases y:i=j
  ·rw[y];exact bj _
  ·have:=h i (j-1) (by lia) (by lia);lia
theorem Dn.snoc(h:Dn r p m)(h1:1<=m)(c:gr r p m<=gr r p (m-1)):Dn r p (m+1):=λi j a b=>by
 by_cases z:j<m
 ·exact h i j a z
 ·obtain rfl:j=m:=by lia
  by_cases y:i=j
  ·rw[y];exact bj _
  ·have:=h i (j-1) (by lia) (by lia);lia
theorem ZX(ok:Okp n p)(n0:0<n):∀(f m:ah),1<=m->m+f<=n->Up r p m->Wq n r (kas_asc p f m) λm'=>m<=m'/\m'<=m+f/\Up r p m'/\(m'<m+f->gr r p m'<gr r p (m'-1))
 |0,m,_,_,u=>⟨bj _,bj _,u,λh=>az h (eJ _)⟩
 |f+1,m,h1,h2,u=>by
  refine Wq.two (ok.lt n0 _) (ok.lt n0 _) (λc=>⟨bj _,by lia,u,λ_=>c⟩) λc=>?_
  exact(ZX ok n0 f (m+1) (by lia) (by lia) (u.snoc h1 c)).mono λm' w=>⟨by lia,by lia,w.2.2.1,λh=>w.2.2.2 (by lia)⟩
structure Ds(n:ah)(r:ah->ah)(p:aE ah)(m q:ah):Prop where
 ok:Okp n p
 m1:1<=m
 mn:m<=n
 qm:q+1<=m
 dn:Dn r p m
 eq:∀i,m-(q+1)<=i->i<m->gr r p i=gr r p (m-1)
theorem Ds.next(d:Ds n r p m q)(hm:m+1<=n)(c:gr r p m<gr r p (m-1)):Ds n r p (m+1) 0:=⟨d.ok,by lia,hm,by lia,d.dn.snoc d.m1 (kl c),λi a b=>by rw[show i=m by lia];rfl⟩
theorem Ds.turn(d:Ds n r p m q):Ds n r (jz p (m-(q+1)) m) m q:=by
 have s:=PX (by rw[d.ok.size];exact d.mn) d.eq;exact⟨d.ok.rev _ _,d.m1,d.mn,d.qm,λi j a b=>by rw[s,s];exact d.dn i j a b,λi a b=>by rw[s,s];exact d.eq i a b⟩
theorem D_(n0:0<n):∀(f:ah)(p:aE ah)(m q:ah),m+f<=n->Ds n r p m q->Wq n r (kas_desc f p m q) λt=>Ds n r t.1 t.2.1 t.2.2
 |0,p,m,q,_,d=>d
 |f+1,p,m,q,h,d=>by
  refine Wq.two (d.ok.lt n0 _) (d.ok.lt n0 _) (λc=>?_) λc=>Wq.two (d.ok.lt n0 _) (d.ok.lt n0 _) (λ_=>d) λe=>?_
  ·split
   ·have s:=PX (by rw[d.ok.size];exact d.mn) d.eq;exact D_ n0 f _ (m+1) 0 (by lia) (d.turn.next (by lia) (by rw[s,s];exact c))
   ·exact D_ n0 f _ (m+1) 0 (by lia) (d.next (by lia) c)
  ·have eq:gr r p m=gr r p (m-1):=Nat.le_antisymm e c;refine D_ n0 f p (m+1) (q+1) (by lia) ⟨d.ok,by lia,by lia,by have:=d.qm;lia,d.dn.snoc d.m1 (yh eq),λi a b=>?_⟩;show gr r p i=gr r p m;by_cases z:i=m
   ·rw[z]
   ·rw[d.eq i (by lia) (by lia),eq]
def Cn(n:ah)(r:ah->ah)(t:ah×aE ah):Prop:=Okp n t.2/\1<=t.1/\t.1<=n/\Up r t.2 t.1
theorem SX(n0:0<n)(d:Ds n r p m q):Wq n r (kas_tail3 m n p) (Cn n r):=by
 have u:Up r (jz p 0 m) m:=λi j a b=>by
  rw[ZW (by rw[d.ok.size];exact d.mn),ZW (by rw[d.ok.size];exact d.mn),ar (by lia),ar (by lia)];exact d.dn _ _ (by lia) (by lia)
 refine Wq.bind ((ZX (d.ok.rev 0 m) n0 (n-m) m d.m1 (by have:=d.mn;lia) u).mono λm' w=>?_);have:=d.m1;have:=d.mn;exact⟨d.ok.rev 0 m,by lia,by lia,w.2.2.1⟩
theorem jT(n0:0<n)(d:Ds n r p (m+1) 0):Wq n r (kas_descPart m n p) (Cn n r):=by
 refine Wq.bind ((D_ n0 _ p (m+1) 0 (by have:=d.mn;lia) d).mono λt d=>?_);split
 ·exact SX n0 d.turn
 ·exact SX n0 d
theorem aDx(ok:Okp n p)(n0:0<n):Wq n r (kas_count n p) (Cn n r):=by
 refine Wq.bind ((ZX ok n0 (n-1) 1 (bj _) (by lia) λi j a b=>by rw[show i=j by lia];exact bj _).mono λm w=>?_);obtain⟨w1,w2,u,w4⟩:=w;split
 ·exact⟨ok,w1,by lia,u⟩
 ·rename_i hm;have hm:m≠n:=by simpa using hm
  have lt:=w4 (by lia);split
  ·refine Wq.two (ok.lt n0 _) (ok.lt n0 _) (λ_=>⟨ok,w1,by lia,u⟩) λc=>?_
   ·have c:gr r p (m-1)<=gr r p 0:=c;have e:∀k,0<=k->k<m->gr r p k=gr r p (m-1):=λk _ b=>by
     have:=u 0 k (by lia) b;have:=u k (m-1) (by lia) (by lia);lia
    have s:=PX (by rw[ok.size];lia) e;have d:Ds n r (jz p 0 m) m (m-1):=⟨ok.rev 0 m,w1,by lia,by lia,λi j a b=>by rw[s,s,e i (by lia) (by lia),e j (by lia) b];exact bj _,λi a b=>by rw[s,s];exact e i (by lia) b⟩
    exact jT n0 (d.next (by lia) (by rw[s,s];exact lt))
  ·obtain rfl:m=1:=by lia
   have d:Ds n r p 1 0:=⟨ok,bj _,by lia,bj _,λi j a b=>by rw[show i=j by lia];exact bj _,λi a b=>by rw[show i=0 by lia]⟩
   exact jT n0 (d.next (by lia) lt)
theorem EY(ok:Okp n p)(n0:0<n)(u:Up r p k):∀(f l e:ah),l<=e->e<=k->e-l<=f->(∀i,i<l->gr r p i<=gr r p k)->(∀i,e<=i->i<k->gr r p k<gr r p i)->Wq n r (kas_place p k f l e) λx=>x<=k/\(∀i,i<x->gr r p i<=gr r p k)/\∀i,x<=i->i<k->gr r p k<gr r p i
 |0,l,e,h1,h2,h3,a,b=>⟨by lia,a,λi c=>b i (by lia)⟩
 |f+1,l,e,h1,h2,h3,a,b=>by
  unfold kas_place;split
  ·exact⟨by lia,a,λi c=>b i (by lia)⟩
  ·refine Wq.two (ok.lt n0 _) (ok.lt n0 _) (λc=>?_) λc=>?_
   ·refine EY ok n0 u f l ((l+e) / 2) (by lia) (by lia) (by lia) a λi x y=>?_
    have:=u ((l+e) / 2) i x y;exact du c this
   ·refine EY ok n0 u f ((l+e) / 2+1) e (by lia) h2 (by lia) (λi x=>?_) b;have:=u i ((l+e) / 2) (by lia) (by lia);exact c6 this c
theorem aM2(hs:k<p.size)(hl:l<=k)(i:ah):gr r (bubble p k (k-l)) i=if i=l then gr r p k else if l<i/\i<=k then gr r p (i-1) else gr r p i:=by
 unfold gr;rw[gd,getElem?_bubble hs _ (by lia),show k-(k-l)=l by lia];by_cases z:i=l
 ·rw[ar z,ar z,gd]
 ·rw[aq z,aq z];by_cases y:l<i/\i<=k
  ·rw[ar y,ar y,gd]
  ·rw[aq y,aq y,gd]
theorem aG0(n0:0<n):∀(f:ah)(p:aE ah)(k:ah),Okp n p->k+f=n->Up r p k->Wq n r (kas_bin f p k) λp=>Okp n p/\Up r p n
 |0,p,k,ok,h,u=>⟨ok,by rw[<-h];exact u⟩
 |f+1,p,k,ok,h,u=>by
  refine Wq.bind ((EY ok n0 u k 0 k (eL _) (bj _) (by lia) (λi x=>az x (yi _)) λi x y=>az y (by lia)).mono λl w=>?_);obtain⟨w1,w2,w3⟩:=w;refine aG0 n0 f _ (k+1) ((bubble_perm _ _ _).trans ok) (by lia) λi j a b=>?_
  have g:=aM2 (r:=r) (by rw[ok.size];lia) w1;rw[g,g];have h1:=w2 i;have h2:=w2 (i-1);have h3:=w3 (j-1);have h4:=w3 j;have h5:=u i j;have h6:=u i (j-1);have h7:=u (i-1) (j-1);have h8:=u (i-1) j
  repeat' split
  all_goals lia
theorem aHp(n0:0<n):Wq n r (kas_sort n) λp=>Okp n p/\Up r p n:=by
 refine Wq.bind ((aDx (yj _) n0).mono λt w=>?_);obtain⟨ok,w1,w2,u⟩:=w;split
 ·rw[show max t.1 1=t.1 by lia];exact aG0 n0 _ _ _ ok (by lia) u
 ·rename_i h;exact⟨ok,by rw[show n=t.1 by lia];exact u⟩
end
end TS
namespace Mi
open PySem
inductive D where
 |uD|non|bl (b:ap)|int (i:ae)|str (x:Str)
 |tup (xs:aa D)|lst (xs:aa D)|dct (kvs:aa (D×D))|scr (xs:aa D)|fdc (kvs:aa (D×D))|cel (a:ah) (xs:aa D)|exc (c:Str) (fs:aa (Str×Str))|ins (c:Str) (fs:aa (Str×D))|adr (a:ah)|dcl (a:ah) (kvs:aa (D×D))
 deriving Inhabited
mutual
noncomputable def D.pure:D->ap
 |.tup xs=>D.aU xs
 |.lst _=>ai
 |.dct _=>ai
 |.uD=>ai
 |.scr xs=>D.aU xs
 |.fdc _=>ai
 |.cel _ _=>ai
 |.exc _ _=>ai
 |.ins _ _=>ai
 |.adr _=>ai
 |.dcl _ _=>ai
 |_=>ag
noncomputable def D.aU:aa D->ap
 |[]=>ag
 |x::xs=>x.pure&&D.aU xs
end
mutual
noncomputable def eqD:D->D->ap
 |.non,.non=>ag
 |.bl a,.bl b=>a==b
 |.int a,.int b=>a==b
 |.bl a,.int b=>(if a then (1:ae) else 0)==b
 |.int a,.bl b=>a==(if b then (1:ae) else 0)
 |.str a,.str b=>a==b
 |.tup xs,.tup ys=>m7 xs ys
 |.lst xs,.lst ys=>m7 xs ys
 |.scr xs,.scr ys=>m7 xs ys
 |.scr xs,.lst ys=>m7 xs ys
 |.lst xs,.scr ys=>m7 xs ys
 |_,_=>ai
noncomputable def m7:aa D->aa D->ap
 |[],[]=>ag
 |x::xs,y::ys=>eqD x y&&m7 xs ys
 |_,_=>ai
end
theorem aM3(a b:ae):eqD (.int a) (.int b)=(a==b):=id rfl
theorem Z0(a b:Str):eqD (.str a) (.str b)=(a==b):=id rfl
theorem aM4(a:ae)(b:Str):eqD (.int a) (.str b)=ai:=id rfl
theorem aM5(a:Str)(b:ae):eqD (.str a) (.int b)=ai:=id rfl
theorem aM6(a b:aa D):eqD (.tup a) (.tup b)=m7 a b:=id rfl
mutual
noncomputable def D.eO:ah->D->ap
 |n+1,.tup xs=>D.b7 n xs
 |n+1,.lst xs=>D.b7 n xs
 |n+1,.scr xs=>D.b7 n xs
 |0,.tup _=>ai
 |0,.lst _=>ai
 |0,.scr _=>ai
 |_,.dct _=>ai
 |_,.uD=>ai
 |_,.fdc _=>ai
 |_,.cel _ _=>ai
 |_,.exc _ _=>ai
 |_,.ins _ _=>ai
 |_,.adr _=>ai
 |_,.dcl _ _=>ai
 |_,_=>ag
noncomputable def D.b7:ah->aa D->ap
 |_,[]=>ag
 |n,x::xs=>D.eO n x&&D.b7 n xs
end
inductive fX where|lt|le|gt|ge
 deriving fc
noncomputable def fX.int:fX->ae->ae->ap
 |.lt,a,b=>ϒ (a<b)|.le,a,b=>ϒ (a<=b)|.gt,a,b=>ϒ (b<a)|.ge,a,b=>ϒ (b<=a)
noncomputable def fX.nat:fX->ah->ah->ap
 |.lt,a,b=>ϒ (a<b)|.le,a,b=>ϒ (a<=b)|.gt,a,b=>ϒ (b<a)|.ge,a,b=>ϒ (b<=a)
noncomputable def P0(a b:Str):ap:=ϒ (a.cps.toList<b.cps.toList)
def fX.str:fX->Str->Str->ap
 |.lt,a,b=>P0 a b|.le,a,b=>!P0 b a|.gt,a,b=>P0 b a|.ge,a,b=>!P0 a b
mutual
noncomputable def iM(o:fX):D->D->av ap
 |.int a,.int b=>af (o.int a b)
 |.str a,.str b=>af (o.str a b)
 |.tup xs,.tup ys=>cU o xs ys
 |.scr xs,.scr ys=>cU o xs ys
 |.lst xs,.scr ys=>cU o xs ys
 |_,_=>am
noncomputable def cU(o:fX):aa D->aa D->av ap
 |[],ys=>af (o.nat 0 ys.length)
 |x::xs,[]=>af (o.nat (x::xs).length 0)
 |x::xs,y::ys=>if eqD x y then cU o xs ys else iM o x y
end
inductive Res(α:Type) where
 |ok (a:α)|err (c:Str) (as:aa D)|bad
noncomputable def Res.bind{α β:Type}:Res α->(α->Res β)->Res β
 |.ok a,f=>f a
 |.err c as,_=>.err c as
 |.bad,_=>.bad
noncomputable instance:Monad Res where
 pure:=.ok
 bind:=Res.bind
@[simp] theorem Res.aW(a:α)(f:α->Res β):((Res.ok a) >>= f)=f a:=rfl
@[simp] theorem Res.aOi(c:Str)(as:aa D)(f:α->Res β):((Res.err c as:Res α) >>= f)=.err c as:=rfl
@[simp] theorem Res.aOj(f:α->Res β):((Res.bad:Res α) >>= f)=.bad:=rfl
@[simp] theorem Res.pure_eq(a:α):(pure a:Res α)=.ok a:=rfl
theorem Res.aHq{f:α->Res β}(h:(m >>= f)=.ok b):∃a,m=.ok a/\f a=.ok b:=by
 cases m with
 |ok a=>exact⟨a,rfl,h⟩
 |err c as=>cases h
 |bad=>cases h
theorem bx{P:Prop}(h:(Res.bad:Res α)=.ok d):P:=by cases h
theorem fx0{P:Prop}(h:ai=ag):P:=by cases h
theorem nx0{P:Prop}(h:(am:av α)=af d):P:=by cases h
noncomputable def Res.ofOpt{α:Type}:av α->Res α
 |some a=>.ok a
 |none=>.bad
@[simp] theorem Res.aKx(a:α):Res.ofOpt (af a)=.ok a:=rfl
theorem Res.lY(h:Res.ofOpt o=.ok a):o=af a:=by
 cases o with
 |none=>cases h
 |some b=>cases h;rfl
noncomputable def lim:ah:=1000000
inductive Bop where|add|sub|mul|fdiv|mod|pow
 deriving fc
inductive Cop where|eq|ne|ord (o:fX)|isin|oZ|isN|notN
 deriving fc
noncomputable def o7(i:ae):ap:=ϒ (-(2 ^ 64)<i)&&ϒ (i<2 ^ 64)
def bY:Bop->D->D->Res D
 |.add,.int a,.int b=>.ok (.int (a+b))
 |.sub,.int a,.int b=>.ok (.int (a-b))
 |.mul,.int a,.int b=>if o7 a||o7 b then .ok (.int (a*b)) else .bad
 |.fdiv,.int a,.int b=>if ϒ (0<b)&&ϒ (b<1073741824) then .ok (.int (a / b)) else .bad
 |.mod,.int a,.int b=>if ϒ (0<b) then .ok (.int (a % b)) else .bad
 |.pow,.int a,.int b=>if ϒ (0<=b)&&ϒ (b<=1000000)&&ϒ (a.natAbs<2 ^ 64) then .ok (.int (a ^ b.toNat)) else .bad
 |.add,.str a,.str b=>if ϒ (a.length+b.length<=lim) then .ok (.str (a++b)) else .bad
 |.add,.lst a,.lst b=>if ϒ (a.length+b.length<=lim)&&D.aU a&&D.aU b then .ok (.lst (a++b)) else .bad
 |_,_,_=>.bad
def aQh:D->Res ap
 |.non=>.ok ai
 |.bl b=>.ok b
 |.int i=>.ok (i !=0)
 |.str x=>if ϒ (x.length<=lim) then .ok ((x.length:ae)!=0) else .bad
 |.tup xs=>.ok (!xs.isEmpty)
 |.lst xs=>.ok (!xs.isEmpty)
 |.dct kvs=>.ok (!kvs.isEmpty)
 |.uD=>.bad
 |.fdc _=>.bad
 |.cel _ _=>.bad
 |.exc _ _=>.bad
 |.ins _ _=>.bad
 |.adr _=>.bad
 |.dcl _ _=>.bad
 |.scr xs=>.ok (!xs.isEmpty)
noncomputable def fZ:D->ap
 |.int _=>ag
 |.str _=>ag
 |_=>ai
def keyOk:D->ap
 |.int _=>ag
 |.str _=>ag
 |.tup xs=>xs.all fZ
 |_=>ai
noncomputable def isTup:D->ap
 |.tup _=>ag
 |_=>ai
def bA:aa (D×D)->D->av D
 |[],_=>am
 | (k,v)::r,q=>if eqD k q then af v else bA r q
def putD:aa (D×D)->D->D->aa (D×D)
 |[],q,w=>[(q,w)]
 | (k,v)::r,q,w=>if eqD k q then (k,w)::r else (k,v)::putD r q w
def lE(kvs:aa (D×D))(k:D):ap:=keyOk k&&kvs.all (λp=>isTup p.1==isTup k)
noncomputable def aM:ah:=12
def b8:Cop->D->D->Res D
 |.eq,a,b=>if a.eO aM&&b.eO aM then .ok (.bl (eqD a b)) else .bad
 |.ne,a,b=>if a.eO aM&&b.eO aM then .ok (.bl (!eqD a b)) else .bad
 |.ord o,a,b=>if a.eO aM&&b.eO aM then (match iM o a b with|some k=>.ok (.bl k)|none=>.bad) else .bad
 |.isin,a,.tup ys=>if a.eO aM&&D.b7 aM ys then .ok (.bl (ys.any λy=>eqD y a)) else .bad
 |.isin,a,.lst ys=>if a.eO aM&&D.b7 aM ys then .ok (.bl (ys.any λy=>eqD y a)) else .bad
 |.isin,a,.dct kvs=>if lE kvs a then .ok (.bl (bA kvs a).isSome) else .bad
 |.oZ,a,.tup ys=>if a.eO aM&&D.b7 aM ys then .ok (.bl (!(ys.any λy=>eqD y a))) else .bad
 |.oZ,a,.lst ys=>if a.eO aM&&D.b7 aM ys then .ok (.bl (!(ys.any λy=>eqD y a))) else .bad
 |.oZ,a,.dct kvs=>if lE kvs a then .ok (.bl (!(bA kvs a).isSome)) else .bad
 |.isN,.scr _,.non=>.bad
 |.notN,.scr _,.non=>.bad
 |.isN,.fdc _,.non=>.bad
 |.notN,.fdc _,.non=>.bad
 |.isN,.cel _ _,.non=>.bad
 |.notN,.cel _ _,.non=>.bad
 |.isN,.non,.non=>.ok (.bl ag)
 |.isN,a,.non=>.ok (.bl ai)
 |.notN,.non,.non=>.ok (.bl ai)
 |.notN,a,.non=>.ok (.bl ag)
 |_,_,_=>.bad
noncomputable def ixD(n:ah)(i:ae):av ah:=if 0<=i then (if i<n then af i.toNat else am) else if -(n:ae)<=i then af (i+n).toNat else am
def getD(d i:D):Res D:=
 match d,i with
 |.tup xs,.int i=>Res.ofOpt ((ixD xs.length i).bind λj=>xs[j]?)
 |.lst xs,.int i=>Res.ofOpt ((ixD xs.length i).bind λj=>xs[j]?)
 |.scr xs,.int i=>Res.ofOpt ((ixD xs.length i).bind λj=>xs[j]?)
 |.cel _ xs,.int i=>Res.ofOpt ((ixD xs.length i).bind λj=>xs[j]?)
 |.str x,.int i=>if ϒ (x.length<=lim) then Res.ofOpt (((ixD x.cps.toList.length i).bind λj=>x.cps.toList[j]?).map λc=>D.str ⟨#[c]⟩) else .bad
 |.dct kvs,k=>if keyOk k then Res.ofOpt (bA kvs k) else .bad
 |.fdc kvs,k=>if keyOk k then Res.ofOpt (bA kvs k) else .bad
 |_,_=>.bad
noncomputable def JR(n d:ah):av ae->ah
 |none=>d
 |some v=>if v<0 then (max (v+(n:ae)) 0).toNat else (min v (n:ae)).toNat
def cutD{α:Type}(xs:aa α)(lo hi:av ae):aa α:=(xs.drop (JR xs.length 0 lo)).take (JR xs.length xs.length hi-JR xs.length 0 lo)
inductive Ty where|int|str|bool|list|tuple|dict
 deriving fc
noncomputable def aP8:Ty->D->Res ap
 |_,.uD=>.bad
 |_,.scr _=>.bad
 |_,.fdc _=>.bad
 |_,.cel _ _=>.bad
 |_,.exc _ _=>.bad
 |_,.ins _ _=>.bad
 |_,.adr _=>.bad
 |_,.dcl _ _=>.bad
 |.int,.int _=>.ok ag
 |.int,.bl _=>.ok ag
 |.bool,.bl _=>.ok ag
 |.str,.str _=>.ok ag
 |.tuple,.tup _=>.ok ag
 |.list,.lst _=>.ok ag
 |.dict,.dct _=>.ok ag
 |_,_=>.ok ai
mutual
noncomputable def D.plain:D->ap
 |.int _=>ag
 |.str _=>ag
 |.tup xs=>D.dB xs
 |.scr xs=>D.dB xs
 |_=>ai
noncomputable def D.dB:aa D->ap
 |[]=>ag
 |x::xs=>x.plain&&D.dB xs
end
mutual
noncomputable def enc:D->aa ae
 |.int i=>[0,i]
 |.str x=>1::(x.cps.toList.map (λ(c:ah)=>(c:ae)+1)++[0])
 |.tup xs=>2::iQ xs
 |.scr xs=>3::iQ xs
 |_=>[]
noncomputable def iQ:aa D->aa ae
 |[]=>[0]
 |x::xs=>1::(enc x++iQ xs)
end
noncomputable def fC:D->ah
 |.int _=>1
 |.str _=>2
 |.tup (.int _::_)=>3
 |.tup (.str _::_)=>4
 |.tup (.tup _::_)=>5
 |.tup (.scr _::_)=>6
 |_=>0
def bB(xs:aa D):ap:=ϒ (xs.length<64)&&xs.all λa=>a.plain&&a.eO aM&&fC a !=0&&fC a==fC (xs.headD .non)&&xs.all λb=>(iM .lt a b).isSome
def leE(a b:D):ap:=!ϒ (enc b<enc a)
def iR(xs:aa D):aa D:=xs.mergeSort leE
noncomputable def wN(i:ae):ap:=ϒ (-(2 ^ 62)<=i)&&ϒ (i<2 ^ 62)
noncomputable def asB:D->Res ap
 |.bl b=>.ok b
 |_=>.bad
noncomputable def asI:D->Res ae
 |.int i=>.ok i
 |_=>.bad
inductive Fl where
 |nx (ρ:aa D)|rt (d:D)|bk (ρ:aa D)|ct (ρ:aa D)
noncomputable def aM7:Fl->Res D
 |.rt d=>.ok d
 |.nx _=>.ok .non
 |_=>.bad
noncomputable abbrev FE:=aa D->Res D
noncomputable abbrev FT:=aa D->Res ap
noncomputable abbrev FA:=aa D->Res (aa D)
noncomputable def iU(i:ah):FE:=λρ=>match ρ.getD i .uD with|.uD=>.bad|d=>.ok d
noncomputable def bC(d:D):FE:=λ_=>.ok d
abbrev fL:FE:= iU 0
abbrev fD:FE:= iU 2
abbrev jL:FE:= iU 7
abbrev gB:FE:= iU 3
abbrev u5:FE:= iU 8
abbrev fH:FE:= iU 5
abbrev fU:FE:= iU 6
abbrev gQ:FE:= iU 1
abbrev d8:FE:= iU 4
abbrev fP:FE:= iU 10
abbrev z7:FE:= iU 9
abbrev tY:FE:= iU 11
abbrev E_:FE:= iU 12
abbrev lB:FE:= iU 13
abbrev u9:FE:= iU 14
abbrev eU:FE:= bC (.int 1)
abbrev aDy:FE:= bC (.int 3)
abbrev aDz:FE:= bC (.int 26)
abbrev aG1:FE:= bC (.int 4)
abbrev cV:FE:= bC (.int 0)
abbrev FJ:FE:= bC (.int 2)
abbrev aG2:FE:= bC (.int 5)
abbrev Z3:FE:= bC (.int 10)
noncomputable def b2(f:D->D->Res D)(a b:FE):FE:=λρ=>do let x <- a ρ;let y <- b ρ;f x y
noncomputable def b1(f:D->Res D)(a:FE):FE:=λρ=>do let x <- a ρ;f x
def bTB(a:FE):FT:=λρ=>do let x <- a ρ;asB x
noncomputable def WP(a:FT):FT:=λρ=>do let x <- a ρ;pure (!x)
noncomputable def J5(a b:FT):FT:=λρ=>do let x <- a ρ;if x then b ρ else pure ai
noncomputable def bOr(a b:FT):FT:=λρ=>do let x <- a ρ;if x then pure ag else b ρ
def aM8(a:FE):FE:=λρ=>do let x <- a ρ;let k <- asB x;pure (.bl (!k))
def aM9(a b:FE):FE:=λρ=>do let x <- a ρ;let k <- asB x;if k then b ρ else pure (.bl ai)
noncomputable def aR:FA:=λ_=>.ok []
noncomputable def aD(a:FE)(b:FA):FA:=λρ=>do let x <- a ρ;let xs <- b ρ;pure (x::xs)
def dM(a:FA):FE:=λρ=>do let xs <- a ρ;if ϒ (xs.length<=lim) then pure (.tup xs) else .bad
def yS(a:FA):FE:=λρ=>do let xs <- a ρ;if ϒ (xs.length<=lim) then pure (.lst xs) else .bad
noncomputable def aO(f:aa D->Res D)(a:FA):FE:=λρ=>do let xs <- a ρ;f xs
noncomputable def bM(f:D->aa D->Res D)(o:FE)(a:FA):FE:=λρ=>do let x <- o ρ;let xs <- a ρ;f x xs
def wO(a:FE):aa D->Res (av ae):=λρ=>do let x <- a ρ;let i <- asI x;pure (af i)
noncomputable def P_:aa D->Res (av ae):=λ_=>.ok am
def aP9:D->Res ap
 |.dct _=>.bad
 |.scr _=>.bad
 |.fdc _=>.bad
 |d=>aQh d
def bTr(a:FE):FT:=λρ=>do let x <- a ρ;aP9 x
def aHr:D->av ae->av ae->Res D
 |.lst xs,lo,hi=>if D.aU xs then .ok (.lst (cutD xs lo hi)) else .bad
 |.scr xs,lo,hi=>if D.aU xs then .ok (.lst (cutD xs lo hi)) else .bad
 |.tup xs,lo,hi=>if !D.aU xs||ϒ (JR xs.length 0 lo=0/\JR xs.length xs.length hi=xs.length) then .bad else .ok (.tup (cutD xs lo hi))
 |_,_,_=>.bad
def aDj(a:FE)(lo hi:aa D->Res (av ae)):FE:=λρ=>do let x <- a ρ;let l <- lo ρ;let h <- hi ρ;aHr x l h
def qW(o:fX):aa D->Res D
 |[]=>.bad
 |x::xs=>if ((x::xs).all λa=>a.eO aM&&(x::xs).all λb=>(iM o a b).isSome) then .ok (xs.foldl (λm y=>if (iM o y m).getD ai then y else m) x) else .bad
def btD(o:fX)(ds:aa D)(i j:ah):ap:=(iM o (ds.getD i .non) (ds.getD j .non)).getD ai
def cN(o:fX):aa D->Res D
 |[.lst xs]=>qW o xs
 |[.tup xs]=>qW o xs
 |[a,b]=>qW o [a,b]
 |_=>.bad
def gC:aa D->Res D
 |[.tup xs]=>.ok (.int xs.length)
 |[.lst xs]=>.ok (.int xs.length)
 |[.scr xs]=>.ok (.int xs.length)
 |[.cel _ xs]=>.ok (.int xs.length)
 |[.str x]=>if ϒ (x.length<=lim) then .ok (.int x.length) else .bad
 |_=>.bad
noncomputable def J6(kvs:aa (D×D)):aa D:=kvs.map (·.1)
noncomputable def m9:aa D->Res D
 |[.tup xs]=>.ok (.tup xs)
 |[.lst xs]=>.ok (.tup xs)
 |_=>.bad
def fM:aa D->Res D
 |[.lst xs]=>if bB xs then .ok (.lst (iR xs)) else .bad
 |_=>.bad
noncomputable def Ty.nm:Ty->c4
 |.int=>"int" | .str=>"str" | .bool=>"bool" | .list=>"list" | .tuple=>"tuple" | .dict=>"dict"
def WQ(t:Ty)(d:D):Res D:=do let k <- aP8 t d;pure (.bl k)
def aE0:D->aa D->Res D
 |.dct kvs,[k]=>if lE kvs k then .ok ((bA kvs k).getD .non) else .bad
 |.dct kvs,[k,e]=>if lE kvs k then .ok ((bA kvs k).getD e) else .bad
 |_,_=>.bad
noncomputable def cD(n:ah)(f:aa D->Res D):aa D->Res D:=λds=>if ϒ (ds.length=n) then f ds else .bad
noncomputable abbrev FI:=aa D->Res (aa D×ap)
noncomputable def o8:D->Res (aa D)
 |.lst xs=>.ok xs
 |.tup xs=>.ok xs
 |_=>.bad
def cX(a:FE)(fr:ap):FI:=λρ=>do let x <- a ρ;let xs <- o8 x;pure (xs,fr||x.pure)
def m_:aa D->Res (aa D×ap)
 |[.int n]=>if wN n then .ok ((bn n.toNat).map λ(k:ah)=>D.int (0+(k:ae)),ag) else .bad
 |_=>.bad
noncomputable def oW(f:FA)(g:aa D->Res (aa D×ap)):FI:=λρ=>do let xs <- f ρ;g xs
noncomputable def S5(n:ah)(ρ:aa D):aa D:=(bn n).map λi=>ρ.getD i .uD
noncomputable def z_:D->Res (aa D):=λd=>.ok [d]
noncomputable def yU(m:ah):D->Res (aa D)
 |.tup ds=>if ϒ (ds.length=m) then .ok ds else .bad
 |_=>.bad
def qX(n:ah)(t:D->Res (aa D))(c:FT)(f:FE)(k:ap)(ρ:aa D)(acc:aa D)(x:D):Res (aa D):=do
 let bs <- t x
 let ok <- c (S5 n ρ++bs)
 if ok then (do
  let y <- f (S5 n ρ++bs)
  if k||y.pure then pure (acc++[y]) else .bad)
 else pure acc
noncomputable def lZ(g:aa D->D->Res (aa D)):aa D->aa D->Res (aa D)
 |acc,[]=>.ok acc
 |acc,x::xs=>do let a <- g acc x;lZ g a xs
def e_(n:ah)(it:FI)(t:D->Res (aa D))(c:FT)(f:FE)(k:ap):FE:=λρ=>do
 let xs <- it ρ
 if ϒ (xs.1.length<=lim) then (do
  let ys <- lZ (qX n t c f k ρ) [] xs.1
  pure (.lst ys)) else .bad
noncomputable def gR:FT:=λ_=>.ok ag
noncomputable abbrev FS:=aa D->Res Fl
def inner:D->ap
 |.lst xs=>D.aU xs
 |.dct kvs=>D.aU (kvs.map (·.2))
 |.cel _ xs=>D.aU xs
 |.dcl _ kvs=>D.aU (kvs.map (·.2))
 |_=>ai
noncomputable def jH:FS:=λρ=>.ok (.nx ρ)
noncomputable def bH(f g:FS):FS:=λρ=>do
 let r <- f ρ
 match r with
 |.nx ρ'=>g ρ'
 |r=>.ok r
def cF(o:ap)(i:ah)(f:FE)(k:ap):FS:=λρ=>do
 let d <- f ρ
 if (if o then k&&inner d else k||d.pure) then .ok (.nx (ρ.set i d)) else .bad
def sAl(i j:ah):FS:=λρ=>do
 let d <- iU j ρ
 .ok (.nx (ρ.set i d))
noncomputable def sIf(c:FT)(f g:FS):FS:=λρ=>do
 let k <- c ρ
 if k then f ρ else g ρ
noncomputable def jJ(f:FE)(k:ap):FS:=λρ=>do
 let d <- f ρ
 if k||d.pure then .ok (.rt d) else .bad
def J7(i:ah):FS:=λρ=>do
 let d <- iU i ρ
 .ok (.rt d)
noncomputable def rtX:ah:=1000000
def o9(i:ah)(f:FE):FS:=λρ=>do
 let d <- f ρ
 match ρ.getD i .uD with
 |.lst xs=>if ϒ (xs.length<lim)&&d.pure then .ok (.nx (ρ.set i (.lst (xs++[d])))) else .bad
 |_=>.bad
def rU(i:ah)(f:FE)(g:FE):FS:=λρ=>do
 let d <- g ρ
 let k <- f ρ
 match ρ.getD i .uD with
 |.dct kvs=>if ϒ (kvs.length<lim)&&lE kvs k&&d.pure then .ok (.nx (ρ.set i (.dct (putD kvs k d)))) else .bad
 |_=>.bad
noncomputable def tg1(i:ah):D->aa D->Res (aa D):=λd ρ=>.ok (ρ.set i d)
noncomputable def J8:aa ah->aa D->aa D->aa D
 |i::is,d::ds,ρ=>J8 is ds (ρ.set i d)
 |_,_,ρ=>ρ
def tgN(is:aa ah):D->aa D->Res (aa D)
 |.tup ds,ρ=>if ϒ (ds.length=is.length) then .ok (J8 is ds ρ) else .bad
 |_,_=>.bad
noncomputable def o_(t:D->aa D->Res (aa D))(body:FS):aa D->aa D->Res Fl
 |[],ρ=>.ok (.nx ρ)
 |x::xs,ρ=>do
  let ρ1 <- t x ρ
  let r <- body ρ1
  match r with
  |.nx ρ'=>o_ t body xs ρ'
  |.ct ρ'=>o_ t body xs ρ'
  |.bk ρ'=>.ok (.nx ρ')
  |.rt d=>.ok (.rt d)
def u_(it:FI)(t:D->aa D->Res (aa D))(body:FS):FS:=λρ=>do
 let xs <- it ρ
 if xs.2 then o_ t body xs.1 ρ else .bad
def Z4(i:ah)(t:D->aa D->Res (aa D))(body:FS):FS:=λρ=>do
 let d <- iU i ρ
 let xs <- o8 d
 o_ t body xs ρ
def fnS(n m:ah)(f:FS):aa D->Res D:=λds=>do
 let r <- f (ds++b5 (m-n) .uD)
 aM7 r
mutual
theorem S6(a b:D)(h1:a.plain=ag)(h2:b.plain=ag)(h:eqD a b=ag):a=b:=by
 cases a with
 |int i=>
  cases b with
  |int j=>rw[eq_of_beq (show(i==j)=ag from h)]
  |str _=>exact fx0 h
  |tup _=>exact fx0 h
  |scr _=>exact fx0 h
  |_=>exact fx0 h2
 |str i=>
  cases b with
  |str j=>rw[eq_of_beq (show(i==j)=ag from h)]
  |int _=>exact fx0 h
  |tup _=>exact fx0 h
  |scr _=>exact fx0 h
  |_=>exact fx0 h2
 |tup xs=>
  cases b with
  |tup ys=>rw[FN xs ys h1 h2 h]
  |int _=>exact fx0 h
  |str _=>exact fx0 h
  |scr _=>exact fx0 h
  |_=>exact fx0 h2
 |scr xs=>
  cases b with
  |scr ys=>rw[FN xs ys h1 h2 h]
  |int _=>exact fx0 h
  |str _=>exact fx0 h
  |tup _=>exact fx0 h
  |_=>exact fx0 h2
 |_=>exact fx0 h1
theorem FN:∀(a b:aa D),D.dB a=ag->D.dB b=ag->m7 a b=ag->a=b
 |[],[],_,_,_=>rfl
 |x::xs,y::ys,h1,h2,h=>by
  rw[D.dB,bc] at h1 h2;rw[m7,bc] at h;rw[S6 x y h1.1 h2.1 h.1,FN xs ys h1.2 h2.2 h.2]
 |[],_::_,_,_,h=>by exact fx0 h
 |_::_,[],_,_,h=>by exact fx0 h
end
mutual
theorem vL(a:D)(h:a.plain=ag):eqD a a=ag:=by
 cases a with
 |int i=>exact ma i
 |str i=>exact ma i
 |tup xs=>exact rW xs h
 |scr xs=>exact rW xs h
 |_=>exact fx0 h
theorem rW:∀(a:aa D),D.dB a=ag->m7 a a=ag
 |[],_=>rfl
 |x::xs,h=>by
  rw[D.dB,bc] at h;rw[m7,vL x h.1,rW xs h.2];rfl
end
theorem Z5:∀(a b:aa ah)(r t:aa ae),(a.map (λ(c:ah)=>(c:ae)+1)++[0])++r=(b.map (λ(c:ah)=>(c:ae)+1)++[0])++t->a=b/\r=t
 |[],[],r,t,h=>by simpa using h
 |[],c::b,r,t,h=>by
  simp only[im,dQ,eu,aT,gj] at h;lia
 |c::a,[],r,t,h=>by
  simp only[im,dQ,eu,aT,gj] at h;lia
 |c::a,d::b,r,t,h=>by
  simp only[eu,aT,gj] at h;obtain⟨e1,e2⟩:=Z5 a b r t h.2;exact⟨by rw[e1,show c=d by lia],e2⟩
mutual
theorem nA:∀(a b:D)(r t:aa ae),a.plain=ag->b.plain=ag->enc a++r=enc b++t->a=b/\r=t
 |.int i,b,r,t,_,h2,h=>by
  cases b<;>simp only[enc,D.plain,hG,eu,gj,dQ] at h h2<;>try omega
  ·exact⟨by rw[h.2.1],h.2.2⟩
 |.str x,b,r,t,_,h2,h=>by
  cases b with
  |str y=>
   simp only[enc,eu,gj,true_and] at h;obtain⟨e1,e2⟩:=Z5 _ _ _ _ h;refine⟨?_,e2⟩;cases x;cases y;simp only[] at e1
   congr 2
   exact Array.toList_inj.mp e1
  |_=>simp[enc,D.plain] at h h2
 |.tup xs,b,r,t,h1,h2,h=>by
  cases b with
  |tup ys=>
   rw[D.plain] at h1 h2;simp only[enc,eu,gj,true_and] at h;obtain⟨e1,e2⟩:=rY xs ys r t h1 h2 h;exact⟨by rw[e1],e2⟩
  |_=>simp[enc,D.plain] at h h2
 |.scr xs,b,r,t,h1,h2,h=>by
  cases b with
  |scr ys=>
   rw[D.plain] at h1 h2;simp only[enc,eu,gj,true_and] at h;obtain⟨e1,e2⟩:=rY xs ys r t h1 h2 h;exact⟨by rw[e1],e2⟩
  |_=>simp[enc,D.plain] at h h2
 |.uD,_,_,_,h,_,_=>by simp[D.plain] at h
 |.non,_,_,_,h,_,_=>by simp[D.plain] at h
 |.bl _,_,_,_,h,_,_=>by simp[D.plain] at h
 |.lst _,_,_,_,h,_,_=>by simp[D.plain] at h
 |.dct _,_,_,_,h,_,_=>by simp[D.plain] at h
theorem rY:∀(a b:aa D)(r t:aa ae),D.dB a=ag->D.dB b=ag->iQ a++r=iQ b++t->a=b/\r=t
 |[],[],r,t,_,_,h=>by simpa[iQ] using h
 |[],_::_,r,t,_,_,h=>by simp[iQ] at h
 |_::_,[],r,t,_,_,h=>by simp[iQ] at h
 |x::xs,y::ys,r,t,h1,h2,h=>by
  rw[D.dB,bc] at h1 h2;simp only[iQ,eu,gj,true_and,c_] at h;obtain⟨e1,e2⟩:=nA x y _ _ h1.1 h2.1 h;obtain⟨e3,e4⟩:=rY xs ys r t h1.2 h2.2 e2;exact⟨by rw[e1,e3],e4⟩
end
theorem aHs(h1:a.plain=ag)(h2:b.plain=ag)(h:enc a=enc b):a=b:=(nA a b [] [] h1 h2 (by rw[h])).1
theorem qY(p:aa ae)(r t:aa ae):p++r<p++t↔r<t:=by
 induction p with
 |nil=>rfl
 |cons x p ih=>rw[eu,eu,dz];simp[ih]
theorem S7:∀(u v r t:aa ae),(∀z,u++z≠v)->(∀z,v++z≠u)->(u++r<v++t↔u<v)
 |[],v,_,_,h,_=>az rfl (h v)
 |u,[],_,_,_,h=>az rfl (h u)
 |x::u,y::v,r,t,h1,h2=>by
  rw[eu,eu,dz,dz];by_cases e:x=y
  ·subst e;have:=S7 u v r t (λz hz=>h1 z (by rw[eu,hz])) (λz hz=>h2 z (by rw[eu,hz]));simp[this]
  ·simp[e]
theorem Z6:∀(a b:aa ah),(a.map (λ(c:ah)=>(c:ae)+1)++[0]<b.map (λ(c:ah)=>(c:ae)+1)++[0])↔a<b
 |[],[]=>by simp
 |[],c::b=>by
  simp only[im,dQ,aT,eu,dz,List.nil_lt_cons,iff_true]
  left;lia
 |c::a,[]=>by
  simp only[im,dQ,aT,eu,dz,List.not_lt_nil,iff_false,fy,not_and];exact⟨by lia,λh=>by lia⟩
 |c::a,d::b=>by
  simp only[aT,eu,dz,Z6 a b];constructor
  ·rintro(h|⟨h,k⟩)
   ·left;lia
   ·right;exact⟨by lia,k⟩
  ·rintro(h|⟨h,k⟩)
   ·left;lia
   ·right;exact⟨by lia,k⟩
mutual
theorem wQ:∀(a b:D)(k:ap),a.plain=ag->b.plain=ag->iM .lt a b=af k->k=ϒ (enc a<enc b)
 |.int i,.int j,k,_,_,h=>by
  rw[iM] at h;rw[<-cr h];simp[enc,fX.int,dz]
 |.str x,.str y,k,_,_,h=>by
  rw[iM] at h;rw[<-cr h];have:=Z6 x.cps.toList y.cps.toList;simp only[enc,fX.str,P0,dz,true_and];simp[this]
 |.tup xs,.tup ys,k,h1,h2,h=>by
  rw[D.plain] at h1 h2;rw[iM] at h;rw[vM xs ys k h1 h2 h];simp[enc,dz]
 |.int _,.str _,_,_,_,h=>by exact nx0 h
 |.int _,.tup _,_,_,_,h=>by exact nx0 h
 |.int _,.uD,_,_,_,h=>by exact nx0 h
 |.int _,.scr _,_,_,_,h=>by exact nx0 h
 |.int _,.non,_,_,_,h=>by exact nx0 h
 |.int _,.bl _,_,_,_,h=>by exact nx0 h
 |.int _,.lst _,_,_,_,h=>by exact nx0 h
 |.int _,.dct _,_,_,_,h=>by exact nx0 h
 |.str _,.int _,_,_,_,h=>by exact nx0 h
 |.str _,.tup _,_,_,_,h=>by exact nx0 h
 |.str _,.uD,_,_,_,h=>by exact nx0 h
 |.str _,.scr _,_,_,_,h=>by exact nx0 h
 |.str _,.non,_,_,_,h=>by exact nx0 h
 |.str _,.bl _,_,_,_,h=>by exact nx0 h
 |.str _,.lst _,_,_,_,h=>by exact nx0 h
 |.str _,.dct _,_,_,_,h=>by exact nx0 h
 |.tup _,.int _,_,_,_,h=>by exact nx0 h
 |.tup _,.str _,_,_,_,h=>by exact nx0 h
 |.tup _,.uD,_,_,_,h=>by exact nx0 h
 |.tup _,.scr _,_,_,_,h=>by exact nx0 h
 |.tup _,.non,_,_,_,h=>by exact nx0 h
 |.tup _,.bl _,_,_,_,h=>by exact nx0 h
 |.tup _,.lst _,_,_,_,h=>by exact nx0 h
 |.tup _,.dct _,_,_,_,h=>by exact nx0 h
 |.scr xs,.scr ys,k,h1,h2,h=>by
  rw[D.plain] at h1 h2;rw[iM] at h;rw[vM xs ys k h1 h2 h];simp[enc,dz]
 |.scr _,.int _,_,_,_,h=>by exact nx0 h
 |.scr _,.str _,_,_,_,h=>by exact nx0 h
 |.scr _,.tup _,_,_,_,h=>by exact nx0 h
 |.scr _,.uD,_,_,_,h=>by exact nx0 h
 |.scr _,.non,_,_,_,h=>by exact nx0 h
 |.scr _,.bl _,_,_,_,h=>by exact nx0 h
 |.scr _,.lst _,_,_,_,h=>by exact nx0 h
 |.scr _,.dct _,_,_,_,h=>by exact nx0 h
 |.uD,_,_,h,_,_=>by simp[D.plain] at h
 |.non,_,_,h,_,_=>by simp[D.plain] at h
 |.bl _,_,_,h,_,_=>by simp[D.plain] at h
 |.lst _,_,_,h,_,_=>by simp[D.plain] at h
 |.dct _,_,_,h,_,_=>by simp[D.plain] at h
theorem vM:∀(a b:aa D)(k:ap),D.dB a=ag->D.dB b=ag->cU .lt a b=af k->k=ϒ (iQ a<iQ b)
 |[],[],k,_,_,h=>by rw[cU] at h;rw[<-cr h];simp[iQ,fX.nat]
 |[],y::ys,k,_,_,h=>by rw[cU] at h;rw[<-cr h];simp[iQ,fX.nat,dz]
 |x::xs,[],k,_,_,h=>by rw[cU] at h;rw[<-cr h];simp[iQ,fX.nat,dz]
 |x::xs,y::ys,k,h1,h2,h=>by
  rw[D.dB,bc] at h1 h2;rw[cU] at h;simp only[iQ,dz,true_and,jI,false_or];cases e:eqD x y with
  |true=>
   rw[e,ar rfl] at h;have:=S6 x y h1.1 h2.1 e;subst this;rw[vM xs ys k h1.2 h2.2 h];simp[qY]
  |false=>
   rw[e,aq (by simp)] at h;rw[wQ x y k h1.1 h2.1 h];have hne:x≠y:=λz=>by subst z;rw[vL x h1.1] at e;cases e
   have:=S7 (enc x) (enc y) (iQ xs) (iQ ys) (λz hz=>hne (nA x y z [] h1.1 h2.1 (by simpa using hz)).1) (λz hz=>hne (nA y x z [] h2.1 h1.1 (by simpa using hz)).1.symm);simp[this]
end
theorem Z7(a b c:D)(h1:leE a b=ag)(h2:leE b c=ag):leE a c=ag:=by
 simp only[leE,iS,k8] at *;exact λh=>by
  rcases(inferInstance:Std.Trichotomous (α:=aa ae) (·<·)) with _
  exact h1 (ua (jS.mp h2) h)
theorem Z8(a b:D):(leE a b||leE b a)=ag:=by
 simp only[leE,hI,iS,k8];by_cases h:enc b<enc a
 ·right;exact ub h
 ·left;exact h
theorem b_(ds:aa D):(iR ds).Perm ds:=List.mergeSort_perm ds leE
theorem dR(ds:aa D):(iR ds).Pairwise λa b=>leE a b=ag:=List.pairwise_mergeSort (λa b c=>Z7 a b c) (λa b=>Z8 a b) ds
theorem nC{ds es:aa D}(hp:∀d∈ds,d.plain=ag)(h:ds.Perm es)(h1:ds.Pairwise λa b=>leE a b=ag)(h2:es.Pairwise λa b=>leE a b=ag):ds=es:=by
 refine BH (λa b ha hb h1 h2=>?_) h1 h2 h;simp only[leE,iS,k8] at h1 h2;exact aHs (hp a ha) (hp b (h.mem_iff.mpr hb)) (uc h1 h2)
open L2
class KFrag where
 K:bz
variable [KFrag]
def Z9(H:Hp)(a:ak)(xs:aa V):Prop:=(∃o,H a=af (.frz o (.lst xs)))\/
 ∃(o:ba)(its:aE aj)(n:ah),KFrag.K.lookup a=af o/\o.cls=.type "list"/\o.dict=am/\o.data=.seq its n/\its.size<=bb/\Vals xs its.toList
theorem Z9.sq(h:Z9 H a xs)(hK:KFrag.K=K):SqL K H a xs:=by
 subst hK;rcases h with ⟨o,h⟩|h
 ·exact .inl (.inr ⟨o,h⟩)
 ·exact .inr h
noncomputable def kD:Key->D
 |.inl i=>.int i
 |.inr x=>.str x
noncomputable def vA:HO->ap
 |.lst _=>ag
 |.dK _=>ag
 |.dT _=>ag
 |_=>ai
def XO(a C:ak)(dx:av ak)(h:aI):Prop:=∃o,h.get? a=af o/\o.cls=.ref C/\o.dict=dx/\∃vs,o.data=.fields vs
def XD(dx:ak)(fs:aa (Str×Str))(h:aI):Prop:=∃mA,h.Ns1 dx mA/\wv mA (fs.map (·.1))/\∀f,match fs.lookup f with
 |some t=>∃tk,mA f=af (.str t tk)
 |none=>mA f=am
def XDs(H:Hp)(fs:aa (Str×Str)):av ak->Prop
 |none=>fs=[]
 |some d=>H d=af (.ext (XD d fs))
mutual
inductive Rep(P:ak->Prop)(H:Hp):V->D->Prop
 |non:Rep P H .non .non
 |bl (b:ap):Rep P H (.bl b) (.bl b)
 |int (i:ae):Rep P H (.int i) (.int i)
 |str (x:Str):Rep P H (.str x) (.str x)
 |tup {a:ak} {xs:aa V} {ds:aa D}:H a=af (.tup xs)->bQ P H xs ds->Rep P H (.ref a) (.tup ds)
 |lst {a:ak} {xs:aa V} {ds:aa D}:H a=af (.lst xs)->P a->bQ P H xs ds->Rep P H (.ref a) (.lst ds)
 |cel {a:ak} {xs:aa V} {ds:aa D}:H a=af (.lst xs)->P a->bQ P H xs ds->Rep P H (.ref a) (.cel a ds)
 |frz {a:ak} {xs:aa V} {ds:aa D}:Z9 H a xs->bQ P H xs ds->Rep P H (.ref a) (.scr ds)
 |dK {a:ak} {kvs:aa (Key×V)} {ds:aa (D×D)}:H a=af (.dK kvs)->P a->l_ P H kvs ds->(kvs.map (·.1)).Nodup->Rep P H (.ref a) (.dct ds)
 |dT {a:ak} {kvs:aa (aa Key×V)} {ds:aa (D×D)}:H a=af (.dT kvs)->P a->tZ P H kvs ds->(kvs.map (·.1)).Nodup->Rep P H (.ref a) (.dct ds)
 |fdK {a:ak} {o:ba} {kvs:aa (Key×V)} {ds:aa (D×D)}:H a=af (.frz o (.dK kvs))->l_ P H kvs ds->(kvs.map (·.1)).Nodup->Rep P H (.ref a) (.fdc ds)
 |fdT {a:ak} {o:ba} {kvs:aa (aa Key×V)} {ds:aa (D×D)}:H a=af (.frz o (.dT kvs))->tZ P H kvs ds->(kvs.map (·.1)).Nodup->Rep P H (.ref a) (.fdc ds)
 |exc {a C:ak} {dx:av ak} {c:Str} {fs:aa (Str×Str)}:n4 KFrag.K ck c=af (af (.ref C))->H a=af (.ext (XO a C dx))->XDs H fs dx->Rep P H (.ref a) (.exc c fs)
 |ins {a C dx:ak} {c:Str} {vs:aa (Str×V)} {fs:aa (Str×D)}:n4 KFrag.K ck c=af (af (.ref C))->H a=af (.ins C dx vs)->aDk P H vs fs->Rep P H (.ref a) (.ins c fs)
 |adr {a:ak}:Rep P H (.ref a) (.adr a)
 |dlK {a:ak} {kvs:aa (Key×V)} {ds:aa (D×D)}:H a=af (.dK kvs)->P a->l_ P H kvs ds->(kvs.map (·.1)).Nodup->Rep P H (.ref a) (.dcl a ds)
 |dlT {a:ak} {kvs:aa (aa Key×V)} {ds:aa (D×D)}:H a=af (.dT kvs)->P a->tZ P H kvs ds->(kvs.map (·.1)).Nodup->Rep P H (.ref a) (.dcl a ds)
inductive aDk(P:ak->Prop)(H:Hp):aa (Str×V)->aa (Str×D)->Prop
 |nil:aDk P H [] []
 |cons {f:Str} {v:V} {d:D} {r:aa (Str×V)} {ds:aa (Str×D)}:Rep P H v d->aDk P H r ds->aDk P H ((f,v)::r) ((f,d)::ds)
inductive bQ(P:ak->Prop)(H:Hp):aa V->aa D->Prop
 |nil:bQ P H [] []
 |cons {v:V} {d:D} {vs:aa V} {ds:aa D}:Rep P H v d->bQ P H vs ds->bQ P H (v::vs) (d::ds)
inductive l_(P:ak->Prop)(H:Hp):aa (Key×V)->aa (D×D)->Prop
 |nil:l_ P H [] []
 |cons {k:Key} {v:V} {d:D} {r:aa (Key×V)} {ds:aa (D×D)}:Rep P H v d->l_ P H r ds->l_ P H ((k,v)::r) ((kD k,d)::ds)
inductive tZ(P:ak->Prop)(H:Hp):aa (aa Key×V)->aa (D×D)->Prop
 |nil:tZ P H [] []
 |cons {k:aa Key} {v:V} {d:D} {r:aa (aa Key×V)} {ds:aa (D×D)}:Rep P H v d->tZ P H r ds->tZ P H ((k,v)::r) ((.tup (k.map kD),d)::ds)
end
def FP(P:ak->Prop)(H H':Hp):Prop:=∀a o,H a=af o->(P a\/vA o=ai)->H' a=af o
theorem FP.same(h:cR H H'):FP P H H':=λa o e _=>h a o e
theorem XDs.keep{P:ak->Prop}{H H':Hp}(k:FP P H H')(q:XDs H fs dx):XDs H' fs dx:=by
 cases dx with
 |none=>exact q
 |some _=>exact k _ _ q (.inr rfl)
mutual
theorem Rep.h_{P P':ak->Prop}{H H':Hp}(k:FP P H H')(m:∀a o,H a=af o->P a->P' a){v:V}{d:D}(q:Rep P H v d):Rep P' H' v d:=by
 cases q with
 |non=>exact .non
 |bl b=>exact .bl b
 |int i=>exact .int i
 |str x=>exact .str x
 |tup e r=>exact .tup (k _ _ e (.inr rfl)) (bQ.h_ k m r)
 |lst e p r=>exact .lst (k _ _ e (.inl p)) (m _ _ e p) (bQ.h_ k m r)
 |cel e p r=>exact .cel (k _ _ e (.inl p)) (m _ _ e p) (bQ.h_ k m r)
 |frz e r=>exact .frz (e.imp (λz=>z.imp λo e=>k _ _ e (.inr rfl)) id) (bQ.h_ k m r)
 |dK e p r n=>exact .dK (k _ _ e (.inl p)) (m _ _ e p) (l_.h_ k m r) n
 |dT e p r n=>exact .dT (k _ _ e (.inl p)) (m _ _ e p) (tZ.h_ k m r) n
 |fdK e r n=>exact .fdK (k _ _ e (.inr rfl)) (l_.h_ k m r) n
 |fdT e r n=>exact .fdT (k _ _ e (.inr rfl)) (tZ.h_ k m r) n
 |exc n e q=>exact .exc n (k _ _ e (.inr rfl)) (XDs.keep k q)
 |ins n e r=>exact .ins n (k _ _ e (.inr rfl)) (aDk.h_ k m r)
 |adr=>exact .adr
 |dlK e p r n=>exact .dlK (k _ _ e (.inl p)) (m _ _ e p) (l_.h_ k m r) n
 |dlT e p r n=>exact .dlT (k _ _ e (.inl p)) (m _ _ e p) (tZ.h_ k m r) n
theorem bQ.h_{P P':ak->Prop}{H H':Hp}(k:FP P H H')(m:∀a o,H a=af o->P a->P' a){v:aa V}{d:aa D}(q:bQ P H v d):bQ P' H' v d:=by
 cases q with
 |nil=>exact .nil
 |cons r t=>exact .cons (Rep.h_ k m r) (bQ.h_ k m t)
theorem aDk.h_{P P':ak->Prop}{H H':Hp}(k:FP P H H')(m:∀a o,H a=af o->P a->P' a){v:aa (Str×V)}{d:aa (Str×D)}(q:aDk P H v d):aDk P' H' v d:=by
 cases q with
 |nil=>exact .nil
 |cons r t=>exact .cons (Rep.h_ k m r) (aDk.h_ k m t)
theorem l_.h_{P P':ak->Prop}{H H':Hp}(k:FP P H H')(m:∀a o,H a=af o->P a->P' a){v:aa (Key×V)}{d:aa (D×D)}(q:l_ P H v d):l_ P' H' v d:=by
 cases q with
 |nil=>exact .nil
 |cons r t=>exact .cons (Rep.h_ k m r) (l_.h_ k m t)
theorem tZ.h_{P P':ak->Prop}{H H':Hp}(k:FP P H H')(m:∀a o,H a=af o->P a->P' a){v:aa (aa Key×V)}{d:aa (D×D)}(q:tZ P H v d):tZ P' H' v d:=by
 cases q with
 |nil=>exact .nil
 |cons r t=>exact .cons (Rep.h_ k m r) (tZ.h_ k m t)
end
theorem Rep.keep(k:FP P H H')(m:∀a,P a->P' a)(q:Rep P H v d):Rep P' H' v d:=q.h_ k λa _ _=>m a
theorem bQ.keep(k:FP P H H')(m:∀a,P a->P' a)(q:bQ P H v d):bQ P' H' v d:=q.h_ k λa _ _=>m a
theorem l_.keep(k:FP P H H')(m:∀a,P a->P' a)(q:l_ P H v d):l_ P' H' v d:=q.h_ k λa _ _=>m a
theorem tZ.keep(k:FP P H H')(m:∀a,P a->P' a)(q:tZ P H v d):tZ P' H' v d:=q.h_ k λa _ _=>m a
theorem Rep.mono(r:Rep P H v d)(m:∀a,P a->P' a):Rep P' H v d:=r.keep (λ_ _ e _=>e) m
theorem bQ.mono(r:bQ P H v d)(m:∀a,P a->P' a):bQ P' H v d:=r.keep (λ_ _ e _=>e) m
theorem Rep.same(r:Rep P H v d)(s:cR H H'):Rep P H' v d:=r.keep (.same s) λ_ h=>h
theorem bQ.same(r:bQ P H v d)(s:cR H H'):bQ P H' v d:=r.keep (.same s) λ_ h=>h
noncomputable def aHt:HO->ap
 |.tup _=>ai
 |.frz _ (.lst _)=>ai
 |_=>ag
mutual
theorem Rep.J9{P P':ak->Prop}{H H':Hp}(k:∀a o,H a=af o->aHt o=ai->H' a=af o){v:V}{d:D}(q:Rep P H v d)(h:d.pure=ag):Rep P' H' v d:=by
 cases q with
 |non=>exact .non
 |bl b=>exact .bl b
 |int i=>exact .int i
 |str x=>exact .str x
 |tup e r=>exact .tup (k _ _ e rfl) (bQ.J9 k r h)
 |frz e r=>exact .frz (e.imp (λz=>z.imp λo e=>k _ _ e rfl) id) (bQ.J9 k r h)
 |_=>exact fx0 h
theorem bQ.J9{P P':ak->Prop}{H H':Hp}(k:∀a o,H a=af o->aHt o=ai->H' a=af o){v:aa V}{d:aa D}(q:bQ P H v d)(h:D.aU d=ag):bQ P' H' v d:=by
 cases q with
 |nil=>exact .nil
 |cons r t=>
  rw[D.aU,bc] at h;exact .cons (Rep.J9 k r h.1) (bQ.J9 k t h.2)
end
theorem Rep.bT(r:Rep P H v d)(h:d.pure=ag):Rep P' H v d:=r.J9 (λ_ _ e _=>e) h
theorem bQ.bT(r:bQ P H v d)(h:D.aU d=ag):bQ P' H v d:=r.J9 (λ_ _ e _=>e) h
theorem bQ.length:∀{v:aa V}{d:aa D},bQ P H v d->v.length=d.length
 |_,_,.nil=>rfl
 |_,_,.cons _ t=>by rw[b9,b9,bQ.length t]
theorem bQ.get:∀{vs:aa V}{ds:aa D}{i:ah}{d:D},bQ P H vs ds->ds[i]?=af d->∃v,vs[i]?=af v/\Rep P H v d
 |_,_,_,_,.nil,e=>by simp at e
 |_,_,0,_,.cons r _,e=>by simp at e;subst e;exact⟨_,rfl,r⟩
 |_,_,i+1,d,.cons _ t,e=>by
  obtain⟨v,h1,h2⟩:=bQ.get t (by simpa using e);exact⟨v,by simpa using h1,h2⟩
theorem bQ.append:∀{vs ws:aa V}{ds es:aa D},bQ P H vs ds->bQ P H ws es->bQ P H (vs++ws) (ds++es)
 |_,_,_,_,.nil,s=>s
 |_,_,_,_,.cons r t,s=>.cons r (bQ.append t s)
theorem bQ.take:∀{vs:aa V}{ds:aa D}(n:ah),bQ P H vs ds->bQ P H (vs.take n) (ds.take n)
 |_,_,0,_=>.nil
 |_,_,_+1,.nil=>.nil
 |_,_,n+1,.cons r t=>.cons r (bQ.take n t)
theorem bQ.drop:∀{vs:aa V}{ds:aa D}(n:ah),bQ P H vs ds->bQ P H (vs.drop n) (ds.drop n)
 |_,_,0,r=>r
 |_,_,_+1,.nil=>.nil
 |_,_,n+1,.cons _ t=>bQ.drop n t
theorem bQ.snoc(t:bQ P H vs ds)(r:Rep P H v d):bQ P H (vs++[v]) (ds++[d]):=t.append (.cons r .nil)
theorem Rep.uD:¬Rep P H v .uD:=λh=>by cases h
abbrev All:ak->Prop:=λ_=>gL
abbrev New(H:Hp):ak->Prop:=λa=>H a=am
theorem Rep.all(r:Rep P H v d):Rep All H v d:=r.mono λ_ _=>trivial
theorem bQ.all(r:bQ P H v d):bQ All H v d:=r.mono λ_ _=>trivial
theorem cR.new(s:cR H H'):∀a,New H' a->New H a:=λa h=>s.free h
theorem cR.upd(h:H a=am):cR H (upd H a o):=λb u e=>by rw[a_ (eV e h)];exact e
def ER(H:Hp)(σ:St)(ρ:aa D):Prop:=∀i,ρ.getD i .uD≠.uD->∃v,σ[i]?=af (af v)/\Rep All H v (ρ.getD i .uD)
theorem ER.same(e:ER H σ ρ)(s:cR H H'):ER H' σ ρ:=λi h=>by
 obtain⟨v,h1,h2⟩:=e i h;exact⟨v,h1,h2.same s⟩
theorem PE.imp(h:PE X e t)(i:∀σ H Q,t' σ H Q->t σ H Q):PE X e t':=λΨ s σ H Q I q=>h Ψ s σ H Q I (i σ H Q q)
theorem PT.imp(h:PT X e t)(i:∀σ H Q,t' σ H Q->t σ H Q):PT X e t':=λΨ s σ H Q I q=>h Ψ s σ H Q I (i σ H Q q)
theorem PA.imp(h:PA X e t)(i:∀σ H Q,t' σ H Q->t σ H Q):PA X e t':=λpos Ψ s σ H Q I q=>h pos Ψ s σ H Q I (i σ H Q q)
theorem Rep.dom(r:Rep P H v d):Rep (λa=>P a/\H a≠am) H v d:=r.h_ (λ_ _ e _=>e) λa o e p=>⟨p,by rw[e];simp⟩
theorem Rep.WR(r:Rep P H v d)(k:FP P H H')(m:∀a o,H a=af o->P a->P' a):Rep P' H' v d:=r.h_ k m
def aRf(P:ak->Prop)(H:Hp)(v:V):D->Prop
 |.non=>v=.non
 |.bl b=>v=.bl b
 |.int i=>v=.int i
 |.str x=>v=.str x
 |.tup ds=>∃a xs,v=.ref a/\H a=af (.tup xs)/\bQ P H xs ds
 |.lst ds=>∃a xs,v=.ref a/\H a=af (.lst xs)/\P a/\bQ P H xs ds
 |.cel b ds=>∃xs,v=.ref b/\H b=af (.lst xs)/\P b/\bQ P H xs ds
 |.scr ds=>∃a xs,v=.ref a/\Z9 H a xs/\bQ P H xs ds
 |.ins c fs=>∃a C dx vs,v=.ref a/\n4 KFrag.K ck c=af (af (.ref C))/\H a=af (.ins C dx vs)/\aDk P H vs fs
 |.exc c fs=>∃a C dx,v=.ref a/\n4 KFrag.K ck c=af (af (.ref C))/\H a=af (.ext (XO a C dx))/\XDs H fs dx
 |.uD=>cg
 |.adr b=>v=.ref b
 |.dcl b ds=>v=.ref b/\Rep P H v (.dct ds)
 |_=>gL
theorem Rep.inv(r:Rep P H v d):aRf P H v d:=by
 cases r with
 |non=>rfl
 |bl=>rfl
 |int=>rfl
 |str=>rfl
 |tup e r=>exact⟨_,_,rfl,e,r⟩
 |lst e p r=>exact⟨_,_,rfl,e,p,r⟩
 |cel e p r=>exact⟨_,rfl,e,p,r⟩
 |frz e r=>exact⟨_,_,rfl,e,r⟩
 |ins n e r=>exact⟨_,_,_,_,rfl,n,e,r⟩
 |exc n e r=>exact⟨_,_,_,rfl,n,e,r⟩
 |adr=>rfl
 |dlK e p r n=>exact⟨rfl,.dK e p r n⟩
 |dlT e p r n=>exact⟨rfl,.dT e p r n⟩
 |_=>trivial
end Mi
open Mi.D renaming int->δ,aU->θ,b7->μ,scr->ν,bl->ξ,plain->ο,str->π,lst->υ,dB->χ,tup->ω
open Mi.Res renaming ok->ε,aW->τ,ofOpt->ι
namespace L2
open PySem PySem.Spec PyProof.Rows
noncomputable def iT(own:aa Str)(x:Str):Str:=if own.contains x then x++(" " : Str) else x
def clF(env:di):aa (Str×gN)->aa (Str×ak)->aa (Str×ak)
 |[],acc=>acc
 | (n,k)::r,acc=>clF env r (if k==.free then (n,(env.cells.lookup n).getD 0)::acc else acc)
theorem t6:∀(names:aa (Str×gN))(acc:aa (Str×ak)),(∀y∈names,y.2=.free->∃c,env.cells.lookup y.1=af c)->
  (forIn names acc λx cs=>(match x with
   | (name,kind)=>if (kind==.free)=ag then cellOf env name >>= λc=>pure (yk ((name,c)::cs)) else pure (yk cs):f_ (ForInStep (aa (Str×ak)))))=(pure (clF env names acc):f_ _)
 |[],acc,_=>by rw[ud];rfl
 | (n,k)::r,acc,h=>by
  rw[ue];by_cases hk:(k==.free)=ag
  ·have hk':k=.free:=by simpa using hk
   obtain⟨c,e⟩:=h (n,k) (bh ..) hk';have e':cellOf env n=pure c:=by
    unfold cellOf;have e2:env.cells.lookup n=af c:=e;rw[e2]
   dsimp only;rw[ar hk,e',pure_bind,pure_bind];dsimp only;rw[t6 r _ λy hy=>h y (bf _ hy)];have e2:env.cells.lookup n=af c:=e;simp only[clF,hk,cx,e2,n9]
  ·dsimp only;rw[aq hk,pure_bind];dsimp only;rw[t6 r _ λy hy=>h y (bf _ hy)];simp only[clF,hk,hG,cK]
theorem WT(h:∀y∈scope.names,y.2=.free->∃c,env.cells.lookup y.1=af c):closureFor scope env=pure (clF env scope.names []):=by
 unfold closureFor;have:=t6 scope.names [] h;simp only[bind_pure] at *;exact this
theorem QB:∀{names:aa (Str×gN)}{acc:aa (Str×ak)}{x:Str}{c:ak},(∀y∈names,y.2=.free->∃c,env.cells.lookup y.1=af c)->(∀x c,acc.lookup x=af c->env.cells.lookup x=af c)->
  (clF env names acc).lookup x=af c->env.cells.lookup x=af c
 |[],acc,x,c,_,h,e=>h x c e
 | (n,k)::r,acc,x,c,q,h,e=>by
  unfold clF at e;refine QB (λy hy=>q y (bf _ hy)) (λy d hy=>?_) e;by_cases hk:(k==.free)=ag
  ·rw[ar hk,iq] at hy;obtain⟨c',e'⟩:=q (n,k) (bh ..) (by simpa using hk);have e2:env.cells.lookup n=af c':=e';cases hyn:y==n with
   |true=>
    rw[hyn] at hy;have:y=n:=by simpa using hyn
    subst this;rw[e2] at hy;simp only[n9] at hy;rw[e2];exact hy
   |false=>rw[hyn] at hy;exact h y d hy
  ·rw[aq hk] at hy;exact h y d hy
theorem Z_:∀{names:aa (Str×gN)}{acc:aa (Str×ak)}{x:Str},(∃c,acc.lookup x=af c)->∃c,(clF env names acc).lookup x=af c
 |[],_,_,h=>h
 | (n,k)::r,acc,x,⟨c,h⟩=>by
  unfold clF;refine Z_ ?_;by_cases hk:(k==.free)=ag
  ·rw[ar hk,iq];cases x==n with
   |true=>exact⟨_,rfl⟩
   |false=>exact⟨c,h⟩
  ·rw[aq hk];exact⟨c,h⟩
theorem QC:∀{names:aa (Str×gN)}{acc:aa (Str×ak)}{x:Str},(x,iX)∈names->∃c,(clF env names acc).lookup x=af c
 | (n,k)::r,acc,x,h=>by
  unfold clF;rcases bd.mp h with e|h
  ·cases e;refine Z_ ?_;rw[ar (by decide),iq];simp
  ·exact QC h
structure eE(N:aa Str)(sc scope:fg)(own:aa Str):Prop where
 kind:scope.kind=.function
 nocell:∀y∈scope.names,y.2≠.cell
 names:∀y∈scope.names,y.2=.local->scope.names.lookup y.1=af .local
 free:∀y∈scope.names,y.2=.free->sc.names.lookup y.1=af .cell\/sc.names.lookup y.1=af .free
 ownl:∀x∈own,scope.names.lookup x=af .local
 hid:∀x∈own,scope.names.lookup (x++(" " : Str))=am
 loc:∀y∈scope.names,y.2=.local->y.1∈own\/y.1∉N
structure dU(X X':Cx)(scope:fg)(own:aa Str):Prop where
 prog:X'.prog=X.prog
 w:X'.w=X.w
 K:X'.K=X.K
 mg:X'.mg=X.mg
 base:X'.base=X.base
 A:X'.A=X.A
 N:X'.N=X.N.map (iT own)++own
 scope:X'.env.scope=hV scope X.env
 calm:X'.calm=X.calm
 xe:X'.xe=λ_ _=>cg
def S8(X:Cx)(scope:fg)(cl:aa (Str×ak))(C:ak)(own:aa Str)(s₂:ao)(H₂:Hp)(fp:aa ak):Cx:=
 {X with N:=X.N.map (iT own)++own,s₀:=s₂,H₀:=H₂,env:=compEnvC scope cl C X.env,outer:=X.stack,stack:=X.stack,ex:=fp,fn:=λ_=>ai,pn:=[],xe:=λ_ _=>cg}
theorem aA0:dU X (S8 X scope cl C own s₂ H₂ fp) scope own:=
 ⟨rfl,rfl,rfl,rfl,rfl,rfl,rfl,rfl,rfl,rfl⟩
def Ext(σ σ2:St):Prop:=σ2.length=σ.length/\∀(i:ah) v,σ[i]?=af (af v)->σ2[i]?=af (af v)
def QD(wi:TI)(g:TG)(tc:TT)(te:TE)(m:ah):TE:=λσ H Q=>wi σ H λJ H1=>∀p,H1 p=am->
 ∃W:ah->ah->aa V->Hp->Prop,(∃n,W 0 n [] (upd H1 p (.lst [])))/\∀i n ys H,W i n ys H->H p=af (.lst ys)/\((J.stop i H/\Q (.ref p) H)\/(J.go i H/\ys.length<bb/\
  ∀x H2,J.yld i H x H2->g x (σ++b5 m am) H2 λσ2 H3=>Ext (σ++b5 m am) σ2/\tc σ2 H3 λb H4=>if b=ag then te σ2 H4 λy H5=>H5 p=af (.lst ys)/\∃n',n'<n/\W (i+1) n' (ys++[y]) (upd H5 p (.lst (ys++[y])))
   else ∃n',n'<n/\W (i+1) n' ys H4))
section
theorem Inv.comp(I:Inv X Ψ σ H2 s2)(S:eE X.N X.env.scope scope own)(hf:∀b∈fp,YJ X Ψ H2 b)
 (hfx:∀b∈fp,b<s2.heap.objs.size)(hns:h1.Ns (s2.heap.objs.size+1) (λ_=>am))
 (hk:∀b o,s2.heap.get? b=af o->h1.get? b=af o)(hacc:h1.get? s2.heap.objs.size=af {cls:=.type "list",data:=.seq #[]}) :
  Inv (S8 X scope (clF X.env scope.names []) (s2.heap.objs.size+1) own s2 H2 fp) [] (σ++b5 own.length am) (upd H2 s2.heap.objs.size (.lst [])) {s2 with heap:=h1,toks:=t1}:=by
 have hD:H2 s2.heap.objs.size=am:=I.hok.fresh (bj _);have hC:H2 (s2.heap.objs.size+1)=am:=I.hok.fresh (hX _);have cells:∀y∈scope.names,y.2=.free->∃c,X.env.cells.lookup y.1=af c:=λy hy hk=>I.ok.has y.1 (S.free y hy hk)
 have sub:∀x c,(clF X.env scope.names []).lookup x=af c->X.env.cells.lookup x=af c:=λx c e=>QB cells (λ_ _ h=>by simp at h) e
 have relk:∀x,(hV scope X.env).names.lookup x=af .cell\/(hV scope X.env).names.lookup x=af .free->(x,iX)∈scope.names:=by
  intro x hx;have go:∀(l:aa (Str×gN)),(∀y∈l,y.2≠.cell)->((l.map λ(n,k)=>if (k==iX&&X.env.scope.kind==.function&&X.env.kindOf n==af .cell) then (n,uf) else (n,k)).lookup x=af .cell\/(l.map λ(n,k)=>if (k==iX&&X.env.scope.kind==.function&&X.env.kindOf n==af .cell) then (n,uf) else (n,k)).lookup x=af .free)->(x,iX)∈l:=by
   intro l;induction l with
   |nil=>intro _ h;rcases h with h|h<;>simp at h
   |cons p l ih=>
    obtain⟨n,k⟩:=p;intro nc h;rw[aT] at h;dsimp only at h;by_cases hc:(k==iX&&X.env.scope.kind==.function&&X.env.kindOf n==af .cell)=ag
    ·rw[ar hc] at h;rw[iq] at h;cases e:x==n with
     |true=>
      have:x=n:=by simpa using e
      subst this;simp only[bc] at hc;have:k=.free:=by simpa using hc.1.1
      subst this;exact bh ..
     |false=>
      rw[e] at h;exact bf _ (ih (λy hy=>nc y (bf _ hy)) h)
    ·rw[aq hc] at h;rw[iq] at h;cases e:x==n with
     |true=>
      have:x=n:=by simpa using e
      subst this;rw[e] at h;dsimp only at h;rcases h with h|h
      ·exact az (cr h) (nc (x,k) (bh ..))
      ·have:=cr h;subst this;exact bh ..
     |false=>
      rw[e] at h;exact bf _ (ih (λy hy=>nc y (bf _ hy)) h)
  exact go scope.names S.nocell hx
 have hne:s2.heap.objs.size≠s2.heap.objs.size+1:=cu (i0 _);have hlt:∀b o,s2.heap.get? b=af o->b<s2.heap.objs.size:=λb o e=>bw e
 have hstk:∀b∈frs X.stack,b<s2.heap.objs.size:=λb hb=>by
  obtain⟨_,o,ho,_⟩:=I.stack.mem hb;exact hlt b o ho
 refine⟨⟨I.mod,?_,I.ok.glob,I.ok.blt,hX _,λx y c e1 e2=>I.ok.inj x y c (sub x c e1) (sub y c e2),λx hx=>?_,λ_ _ h=>(by cases h),I.ok.hd,I.ok.frames,.inl rfl,λb hb=>?_,λb o e=>I.bs b o e,?_,λb o e hb=>?_,λb hb hz=>?_,I.stack,I.YW⟩,
  rfl,I.bare,Un.laid hk (bj _) hD,?_,λx c e=>?_,?_,λx c e=>?_,λp hp=>(by simp[S8] at hp),?_,?_⟩
 ·exact S.kind
 ·have hx':(hV scope X.env).names.lookup x=af .cell\/(hV scope X.env).names.lookup x=af .free:=hx;exact QC (relk x hx')
 ·refine⟨cu (gw (hfx b hb)),λx c e z=>?_⟩;exact(hf b hb).2.2.2.2.1 x c (sub x c e) z
 ·exact c6 I.ok.bsz I.sz
 ·rcases(hf b hb).2.2.2.1 with z|z
  ·exact I.ok.noex b o e z
  ·exact az (du (bw e) (c6 I.ok.bsz z)) (eJ _)
 ·rcases bd.mp (I.R7 b hz) with z'|z'
  ·exact(hf b hb).2.1 z'
  ·exact(hf b hb).2.2.1 z'
 ·refine⟨_,hns,λi x v e1 e2 e3=>?_⟩;have hi:i<σ.length:=by
   rcases oe i σ.length with h|h
   ·exact h
   ·rw[ii h,jp] at e2;split at e2<;>cases e2
  rw[jq hi] at e2;have hiN:i<X.N.length:=by rw[<-I.len];exact hi
  have e1':(X.N.map (iT own))[i]?=af x:=by
   have:(X.N.map (iT own)++own)[i]?=af x:=e1;rwa [jq (by rw[ay];exact hiN)] at this
  rw[fu] at e1';obtain⟨y,hy,ey⟩:=k5.mp e1';have hyN:y∈X.N:=lP hy;have e3':(hV scope X.env).names.lookup x=af .local\/(hV scope X.env).names.lookup x=af .cell\/(hV scope X.env).names.lookup x=af .free:=e3;have keys:∀z k,(hV scope X.env).names.lookup z=af k->∃k',scope.names.lookup z=af k'/\(k=.local->k'=.local):=by
   intro z k;show(scope.names.map λ(n,k)=>if (k==iX&&X.env.scope.kind==.function&&X.env.kindOf n==af .cell) then (n,uf) else (n,k)).lookup z=af k->_;generalize scope.names=l;induction l with
   |nil=>intro h;simp at h
   |cons p l ih=>
    obtain⟨n,k0⟩:=p;intro h;rw[aT] at h;dsimp only at h;by_cases hc:(k0==iX&&X.env.scope.kind==.function&&X.env.kindOf n==af .cell)=ag
    ·rw[ar hc,iq] at h;rw[iq];cases e:z==n with
     |true=>
      rw[e] at h;dsimp only at h;cases h;exact⟨k0,rfl,λq=>by cases q⟩
     |false=>rw[e] at h;exact ih h
    ·rw[aq hc,iq] at h;rw[iq];cases e:z==n with
     |true=>
      rw[e] at h;dsimp only at h;cases h;exact⟨_,rfl,λq=>q⟩
     |false=>rw[e] at h;exact ih h
  by_cases hown:own.contains y=ag
  ·exfalso;have ex:x=y++(" " : Str):=by rw[<-ey];unfold iT;rw[ar hown]
   have hn:=S.hid y (by simpa using hown);rw[<-ex] at hn;rcases e3' with q|q|q
   all_goals
    obtain⟨k',hk',_⟩:=keys _ _ q;rw[hn] at hk';cases hk'
  ·have ex:x=y:=by rw[<-ey];unfold iT;rw[aq hown]
   subst ex;rcases e3' with q|q
   ·exfalso;obtain⟨k',hk',hl⟩:=keys _ _ q;have:=hl rfl;subst this;rcases S.loc _ (kF hk') rfl with z|z
    ·exact hown (by simpa using z)
    ·exact z hyN
   ·have hfr:=relk x q;have hv:=S.free _ hfr rfl;obtain⟨m,_,hl⟩:=I.loc;obtain⟨u,ru,lk⟩:=hl i x v hy e2 (.inr hv);refine⟨u,ru,.inr ⟨q,?_⟩⟩;rcases lk with ⟨z,_⟩|⟨_,c,hc,o,ho,hd⟩
    ·have z':X.env.scope.names.lookup x=af .local:=z;rcases hv with hv|hv<;>(rw[z'] at hv;cases hv)
    ·obtain⟨c',hc'⟩:=QC hfr;have:=sub x c' hc';rw[hc] at this;cases this;exact⟨c,hc',o,hk c o ho,hd⟩
 ·obtain⟨v,z⟩:=I.cell x c (sub x c e);obtain⟨o,ho,hd⟩:=z;exact⟨v,o,hk c o ho,hd⟩
 ·show upd H2 _ _ (s2.heap.objs.size+1)=am;rw[a_ (Ne.symm hne)];exact hC
 ·obtain⟨v,o,ho,_⟩:=I.cell x c (sub x c e);show upd H2 _ _ c=am;rw[a_ (cu (hlt c o ho))];exact I.freeC x c (sub x c e)
 ·exact I.hok.laid hk (bj _) ⟨eL _,[],0,.nil,hacc⟩
 ·show(σ++b5 own.length am).length=(X.N.map (iT own)++own).length;rw[cb,cb,xt,ay,I.len]
end
section
variable {X:Cx} {scope:fg} {own:aa Str}
def cI(X':Cx)(σ:St)(fp:aa ak)(tn:ah->aI->Prop)(W:ah->ah->aa V->Hp->Prop)(n:ah)(s:ao):Prop:=∃i ys H',Inv X' [] σ H' s/\tn i s.heap/\(∀b∈fp,H' b=am)/\W i n ys H'
abbrev cE(X X':Cx)(use:av (aj->f_ kq))(QQ:aj->ao->Prop)(p:ak):aj->ao->Prop:=notedBy (aw X.prog X.w) X.A X'.env λe s'=>k9 (aw X.prog X.w) X.A X.xe use QQ (.ref p) (p+1) (.error e) s'
def cB(X':Cx)(σ:St)(fp:aa ak)(tn:ah->aI->Prop)(W:ah->ah->aa V->Hp->Prop)(n i:ah)(h:aI):Prop:=∀{ys':aa V}{H9:Hp}{s9:ao}{σ9:St},Ext σ σ9->Inv X' ([]++wF fp h) σ9 H9 s9->(∃n',n'<n/\W (i+1) n' ys' H9)->∃m,m<n/\cI X' σ fp tn W m s9
theorem QF(S:eE X.N X.env.scope scope own)(hcalm:X.calm=ag)(hi:PI X tg iter wi)
 (hg:∀X',dU X X' scope own->PG X' tg g)(hc:(ifs=[]/\tc=λ_ H Q=>Q ag H)\/∃c,ifs=[c]/\∀X',dU X X' scope own->PT X' c tc)(he:∀X',dU X X' scope own->PE X' elt te)
 (hs:∀x,d6 iter X.env x=pure x)(I:Inv X Ψ σ H s)(h:QD wi g tc te own.length σ H R)
 (last:∀{p C:ak} {H5:Hp} {s6:ao} {m6:Str->av aj},Inv X Ψ σ H5 s6->YJ X Ψ H5 C->s6.heap.Ns C m6->R (.ref p) H5->k9 (aw X.prog X.w) X.A X.xe use QQ (.ref p) C (.ok .next) s6) :
  ϑ (aw X.prog X.w) X.A (yl (.ListComp elt [⟨tg,iter,ifs,0⟩] scope pos) scope X.env ps (ug []) ai (bE iter X.env) use) QQ X.xe s:=by
 have cells:∀y∈scope.names,y.2=.free->∃c,X.env.cells.lookup y.1=af c:=λy hy hk=>I.ok.has y.1 (S.free y hy hk)
 refine wpAny_comprehension_free rfl hs (WT cells) S.kind S.names (thn (hi Ψ s σ H _ I h) λxv s1 h1=>thn h1 λitv s2 h2=>?_);obtain⟨it,fp,tn,J,H2,e,I2,T,st2,f2,hW⟩:=h2;subst e;have hD:H2 s2.heap.objs.size=am:=I2.hok.fresh (bj _);obtain⟨W,⟨n0,w0⟩,turn⟩:=hW _ hD;have hfx:∀b∈fp,b<s2.heap.objs.size:=λb hb=>by
  obtain⟨o,ho,_⟩:=T.obj 0 _ st2 b hb;exact bw ho
 refine fm (wpAny_newFunctionEnv S.nocell (by intro y hy;simp at hy) (λh₁ hns₁ hsb₁=>?_) S.kind);dsimp only at hns₁ hsb₁ ⊢;have hC:(s2.heap.push {cls:=.type "list",dict:=am,data:=.seq ([]:aa aj).toArray}).objs.size=s2.heap.objs.size+1:=ia ..;have hne:s2.heap.objs.size≠s2.heap.objs.size+1:=cu (i0 _);rw[hC] at hns₁ hsb₁ ⊢;have old:∀b o,s2.heap.get? b=af o->h₁.get? b=af o:=λb o e=>hsb₁.extBut b o (cu (gw (bw e))) (b6 _ (b6 _ e))
 have hacc:h₁.get? s2.heap.objs.size=af {cls:=.type "list",data:=.seq #[]}:=hsb₁.extBut _ _ hne (b6 _ (c8 _ rfl));have I4:=Inv.comp (t1:=s2.toks+([]:aa (Str×aj)).length) I2 S f2 hfx hns₁ old hacc;generalize hX':S8 X scope (clF X.env scope.names []) (s2.heap.objs.size+1) own s2 H2 fp=X' at I4;have cc:dU X X' scope own:=by rw[<-hX'];exact aA0
 have eenv:X'.env=compEnvC scope (clF X.env scope.names []) (s2.heap.objs.size+1) X.env:=by rw[<-hX'];rfl
 have eA:X'.A=X.A:=cc.A;have ep:X'.prog=X.prog:=cc.prog;have ew:X'.w=X.w:=cc.w;have efs:X'.fs=frs X.stack:=by rw[<-hX'];rfl
 have eex:X'.ex=fp:=by rw[<-hX'];rfl
 have es0:X'.s₀=s2:=by rw[<-hX'];rfl
 have eH0:X'.H₀=H2:=by rw[<-hX'];rfl
 have epn:X'.pn=[]:=by rw[<-hX'];rfl
 have eK:X'.K=X.K:=cc.K;have exe:=cc.xe;have ecalm:X'.calm=ag:=cc.calm.trans hcalm
 -- the iterator's records within the block
 have fpok:∀{H':Hp},(∀b∈fp,H' b=am)->∀b∈fp,YJ X' [] H' b:=λ{H'} hn b hb=>by
  obtain⟨_,f1,f3,_,f5,_⟩:=f2 b hb;refine⟨hn b hb,?_,?_,.inl (by rw[eex];exact hb),λx c e=>?_,λp hp=>by rw[epn] at hp;simp at hp⟩
  ·rw[eenv];exact cu (gw (hfx b hb))
  ·rw[efs];intro z;rcases bd.mp (I2.R7 b z) with z|z
   ·exact f1 z
   ·exact f3 z
  ·rw[eenv] at e;exact f5 x c (QB cells (λ_ _ h=>by simp at h) e)
 have st4:tn 0 h₁:=T.keep _ _ _ st2 λb _ o e=>old b o e
 have fr4:∀b∈fp,(upd H2 s2.heap.objs.size (.lst [])) b=am:=λb hb=>by rw[a_ (cu (hfx b hb))];exact(f2 b hb).1
 have loop:∀s4:ao,s4={s2 with heap:=h₁,toks:=s2.toks+([]:aa (Str×aj)).length}->
   codeAny (aw X.prog X.w) X.A (.compLoop (.ListComp elt [⟨tg,iter,ifs,0⟩] scope pos) 0 (.ref it) (.ref s2.heap.objs.size) X'.env)
    (k9 (aw X.prog X.w) X.A X.xe use QQ (.ref s2.heap.objs.size) (s2.heap.objs.size+1)) s4:=by
  rintro s4 rfl;have put:∀(n i:ah)(ys:aa V)(s7:ao)(σ8:St)(H8:Hp)(s8:ao),cB X' (σ++b5 own.length am) fp tn W n i s7.heap->Inv X' ([]++wF fp s7.heap) σ8 H8 s8->Ext (σ++b5 own.length am) σ8->ys.length<bb->(te σ8 H8 λy H5=>H5 s2.heap.objs.size=af (.lst ys)/\∃n',n'<n/\W (i+1) n' (ys++[y]) (upd H5 s2.heap.objs.size (.lst (ys++[y]))))->
    ϑ (aw X.prog X.w) X.A (bE elt X'.env) (λx s₄=>ϑ (aw X.prog X.w) X.A (call (.builtin "list.append") [.ref s2.heap.objs.size,x]) (λ_ s₅=>∃m,m<n/\cI X' (σ++b5 own.length am) fp tn W m s₅) (cE X X' use QQ s2.heap.objs.size) s₄) (cE X X' use QQ s2.heap.objs.size) s8:=by
   intro n i ys s7 σ8 H8 s8 back I8 ext8 hlen q8;have he':=he X' cc _ s8 _ H8 _ I8 q8;rw[ep,ew,eA,exe] at he';refine eB he' (λyv s10 ⟨y,H10,I10,r10,p10,q10⟩=>?_) λ_ _ z=>fi z
   have hm:=wJ _ s10 σ8 H10 (.ref s2.heap.objs.size) [y] (.ref s2.heap.objs.size) [yv] (λ_ H11=>∃n',n'<n/\W (i+1) n' (ys++[y]) H11) I10 rfl (.cons r10 .nil) ⟨s2.heap.objs.size,ys,y,rfl,rfl,p10,hlen,q10⟩;rw[ep,ew,eA,exe] at hm;exact eB hm (λ_ s11 ⟨_,H11,I11,_,q11⟩=>back ext8 I11 q11) λ_ _ z=>fi z
  have key:∀(PO:ah->ao->Prop),(∀(n i:ah)(ys:aa V)(s7:ao)(σ8:St)(H8:Hp)(s8:ao),cB X' (σ++b5 own.length am) fp tn W n i s7.heap->Inv X' ([]++wF fp s7.heap) σ8 H8 s8->Ext (σ++b5 own.length am) σ8->ys.length<bb->(tc σ8 H8 λb H4=>if b=ag then te σ8 H4 λy H5=>H5 s2.heap.objs.size=af (.lst ys)/\∃n',n'<n/\W (i+1) n' (ys++[y]) (upd H5 s2.heap.objs.size (.lst (ys++[y]))) else ∃n',n'<n/\W (i+1) n' ys H4)->PO n s8)->
    ∀n s5,(cI X' (σ++b5 own.length am) fp tn W n s5)->ϑ (aw X.prog X.w) X.A (fj (.ref it)) (λr s₁=>match r with
     |none=>k9 (aw X.prog X.w) X.A X.xe use QQ (.ref s2.heap.objs.size) (s2.heap.objs.size+1) (.ok .next) s₁
     |some v=>ϑ (aw X.prog X.w) X.A (nw tg (.ref it) v) (λ_ s₀=>ϑ (aw X.prog X.w) X.A (ji tg X'.env v) (λ_ s₂=>PO n s₂) (cE X X' use QQ s2.heap.objs.size) s₀) (cE X X' use QQ s2.heap.objs.size) s₁) (cE X X' use QQ s2.heap.objs.size) s5:=by
   intro PO hPO;rintro n s5 ⟨i,ys,H5,I5,st5,fr5,w5⟩;obtain⟨hacc5,tr⟩:=turn i n ys H5 w5;rcases tr with ⟨stop,q⟩|⟨go,hlen,step⟩
   ·have done:=T.done X' ep ew eK ecalm i [] s5 _ H5 (cE X X' use QQ s2.heap.objs.size) I5 (fpok fr5) st5 stop;rw[eA] at done;refine thn done λr s6 ⟨hr,I6⟩=>?_
    subst hr;obtain⟨m6,hn6,_⟩:=id I6.loc;rw[eenv] at hn6;have u6:Un (frs X.stack) fp H2 H5 s2.heap s6.heap:=by
     have:=I6.base;rw[efs,eex,eH0,es0] at this;exact this
    have hCn:H5 (s2.heap.objs.size+1)=am:=by
     have:=I6.free;rw[eenv] at this;exact this
    have hok6:HOk X.prog X.w H5 s6.heap:=by
     have:=I6.hok;rw[ep,ew] at this;exact this
    have hos:s6.os=s2.os:=by have:=I6.os;rw[es0] at this;exact this
    obtain⟨hh,gg,dd,tt,oo⟩:=s6;obtain rfl:oo=s2.os:=hos;have fin:=Inv.call (g':=gg) (d':=dd) (t':=tt) (ch:=fp) I2 u6 hok6 I6.bare λb hb=>⟨(f2 b hb).2.2.2.1,(f2 b hb).2.1,(f2 b hb).2.2.2.2.1,(f2 b hb).2.2.2.2.2⟩
    refine last fin ⟨hCn,jn (gw I2.lt),I2.aQb (hX _),.inr (c6 I2.sz (hX _)),λx c e z=>?_,λp hp z=>?_⟩ hn6 q
    ·obtain⟨v,qq⟩:=I2.cell x c e;exact az (gw qq.lt) (by rw[z];exact eJ _)
    ·exact az (gw (bw (I2.pin p hp).1)) (by rw[z];exact eJ _)
   ·have item:=T.item X' ep ew eK ecalm i [] s5 _ H5 (cE X X' use QQ s2.heap.objs.size) I5 (fpok fr5) st5 go;rw[eA] at item;refine thn item λr s6 ⟨u,hr,h6⟩=>?_
    subst hr;refine thn h6 λ_ s7 ⟨x,H7,I7,r7,y7,st7,fr7⟩=>?_
    have I7':=I7.pinned (fpok fr7) (T.obj _ _ st7);have hg':=hg X' cc _ s7 _ H7 x u _ I7' r7 (step x H7 y7);rw[ep,ew,eA,exe] at hg';refine eB hg' (λ_ s8 ⟨σ8,H8,I8,ext8,q8⟩=>?_) λ_ _ z=>fi z
    have back:cB X' (σ++b5 own.length am) fp tn W n i s7.heap:=by
     rintro ys' H9 s9 σ9 ex9 I9 ⟨n',hn',w9⟩;refine⟨n',hn',i+1,ys',H9,(I9.weak ex9.1.symm ex9.2).rN,T.keep _ _ _ st7 λb hb o e=>(I9.pin (b,o) (dP _ (dP _ (oE hb e)))).1,λb hb=>?_,w9⟩;obtain⟨o,e,d⟩:=T.obj _ _ st7 b hb;exact(I9.pin (b,o) (dP _ (dP _ (oE hb e)))).2.1
    exact hPO n i ys s7 σ8 H8 s8 back I8 ext8 hlen q8
  rcases hc with ⟨rfl,rfl⟩|⟨c,rfl,hc⟩
  ·refine PySem.W.kcp_loop _ (key _ λn i ys s7 σ8 H8 s8 back I8 ext8 hlen q8=>?_) n0 ⟨0,[],_,I4,st4,fr4,w0⟩;simp only[cx] at q8;exact put n i ys s7 σ8 H8 s8 back I8 ext8 hlen q8
  ·refine PySem.W.kct_loop _ (key _ λn i ys s7 σ8 H8 s8 back I8 ext8 hlen q8=>?_) n0 ⟨0,[],_,I4,st4,fr4,w0⟩;have hc':=hc X' cc _ s8 _ H8 _ I8 q8;rw[ep,ew,eA,exe] at hc';refine eB hc' (λb s9 ⟨H9,I9,q9⟩=>?_) λ_ _ z=>fi z
   cases b with
   |false=>
    simp only[hG,cK] at q9 ⊢;exact back ext8 I9 q9
   |true=>
    simp only[cx] at q9 ⊢;exact put n i ys s7 σ8 H9 s9 back I9 ext8 hlen q9
 have l4:=loop _ rfl;rw[eenv] at l4;exact codeAny_compStart_list l4 (T.self X.A 0 _ _ _ st4 l4)
theorem S9(f:Inv X Ψ σ H5 s6)(k:YJ X Ψ H5 C)(n:s6.heap.Ns C m6)(q:Q (.ref p) H5):k9 (aw X.prog X.w) X.A X.xe am (EP X Ψ σ Q) (.ref p) C (.ok .next) s6:=
 ⟨m6,n,λh' sb=>⟨.ref p,H5,Inv.turned f (λb o hb e=>sb.extBut b o hb e) k.1 k.2.1 k.2.2.2.1 k.2.2.2.2.1 k.2.2.2.2.2,rfl,q⟩⟩
theorem aA1(S:eE X.N X.env.scope scope own)(hcalm:X.calm=ag)(hi:PI X tg iter wi)
 (hg:∀X',dU X X' scope own->PG X' tg g)(hc:∀X',dU X X' scope own->PT X' c tc)(he:∀X',dU X X' scope own->PE X' elt te)
 (hs:∀x,d6 iter X.env x=pure x):PE X (.ListComp elt [⟨tg,iter,[c],0⟩] scope pos) (QD wi g tc te own.length):=by
 intro Ψ s σ H Q I h;rw[ym];exact QF S hcalm hi hg (.inr ⟨c,rfl,hc⟩) he hs I h S9
theorem aE1(S:eE X.N X.env.scope scope own)(hcalm:X.calm=ag)(hi:PI X tg iter wi)
 (hg:∀X',dU X X' scope own->PG X' tg g)(he:∀X',dU X X' scope own->PE X' elt te)
 (hs:∀x,d6 iter X.env x=pure x):PE X (.ListComp elt [⟨tg,iter,[],0⟩] scope pos) (QD wi g (λ_ H Q=>Q ag H) te own.length):=by
 intro Ψ s σ H Q I h;rw[ym];exact QF S hcalm hi hg (.inl ⟨rfl,rfl⟩) he hs I h S9
end
end L2
namespace Mi
open PySem L2 PySem.SeqAt
section
variable [KFrag]
theorem iB(I:Inv X Ψ σ H s)(e:H a=af (.tup xs)):∃its:aa aj,Vals xs its/\s.heap.IsTuple a its.toArray:=by
 obtain⟨_,its,r,p⟩:xs.length<=bb/\∃its:aa aj,Vals xs its/\j8 s.heap a its.toArray:=I.hok a _ e;exact⟨its,r,p.tup⟩
theorem dW(I:Inv X Ψ σ H s)(e:SqL X.K H a xs):∃its:aa aj,Vals xs its/\s.heap.IsList a its.toArray:=by
 obtain⟨its,r,p,_⟩:=I.list e;exact⟨its,r,p.isList⟩
theorem Rep.jU(r:Rep P H v (.lst ds)):∃a xs,v=.ref a/\SqL K H a xs/\bQ P H xs ds:=by
 obtain⟨_,_,rfl,e,p,r⟩:=r.inv;exact⟨_,_,rfl,.inl (.inl e),r⟩
theorem Rep.g_(r:Rep P H v (.tup ds)):∃a xs,v=.ref a/\H a=af (.tup xs)/\bQ P H xs ds:=by
 obtain⟨_,_,rfl,e,r⟩:=r.inv;exact⟨_,_,rfl,e,r⟩
mutual
theorem vN:∀(n:ah)(d:D),d.eO n=ag->eqD d d=ag
 |_,.non,_=>rfl
 |_,.bl b,_=>by exact ma b
 |_,.int i,_=>by exact ma i
 |_,.str x,_=>by exact ma x
 |n+1,.tup xs,h=>by exact rZ n xs h
 |n+1,.lst xs,h=>by exact rZ n xs h
 |n+1,.scr xs,h=>by exact rZ n xs h
 |0,.scr xs,h=>by exact fx0 h
 |0,.tup xs,h=>by exact fx0 h
 |0,.lst xs,h=>by exact fx0 h
 |n,.dct _,h=>by cases n<;>exact fx0 h
 |n,.uD,h=>by cases n<;>exact fx0 h
 |n,.fdc _,h=>by cases n<;>exact fx0 h
 |n,.exc _ _,h=>by cases n<;>exact fx0 h
 |n,.ins _ _,h=>by cases n<;>exact fx0 h
 |n,.adr _,h=>by cases n<;>exact fx0 h
 |n,.dcl _ _,h=>by cases n<;>exact fx0 h
 |n,.cel _ _,h=>by cases n<;>exact fx0 h
theorem rZ:∀(n:ah)(ds:aa D),μ n ds=ag->m7 ds ds=ag
 |_,[],_=>rfl
 |n,d::ds,h=>by
  rw[μ,bc] at h;rw[m7,vN n d h.1,rZ n ds h.2];rfl
end
theorem kE{X:Cx}(hK:KFrag.K=X.K)(r:Rep P H v (.scr ds)):∃a xs,v=.ref a/\SqL X.K H a xs/\bQ P H xs ds:=by
 obtain⟨a,xs,rfl,e,rr⟩:=r.inv;exact⟨a,xs,rfl,e.sq hK,rr⟩
theorem S_:∀{xs ys:aa V}{us:aa aj},Vals xs us->Vals ys us->xs=ys
 |_,_,_,.nil,h=>by cases h;rfl
 |_,_,_,.cons a t,h=>by
  cases h with
  |cons b t'=>rw[RelV.inj a b,S_ t t']
theorem vI{X:Cx}(I:Inv X Ψ σ H s)(e1:SqL X.K H a xs)(e2:SqL X.K H a ys):xs=ys:=by
 obtain⟨i1,r1,o,ho,hc,n,hd⟩:=dW I e1;obtain⟨i2,r2,o',ho',hc',n',hd'⟩:=dW I e2;rw[ho] at ho';cases ho';rw[hd] at hd';have:i1=i2:=by
  injection hd' with e
  simpa using e
 subst this;exact S_ r1 r2
theorem aE2{X:Cx}{ob:HO}(I:Inv X Ψ σ H s)(hK:KFrag.K=X.K)(e:Z9 H a xs)(h:H a=af ob):∃p,ob=.frz p (.lst xs):=by
 rcases e with ⟨o,e⟩|⟨o,its,n,e,_⟩
 ·rw[e] at h;cases h;exact⟨o,rfl⟩
 ·rw[hK] at e;have:=(I.bs a o (I.mod.kin a o e)).2;rw[h] at this;cases this
theorem bQ.aPa{n:ah}{P P':ak->Prop}{H:Hp}(ih:∀{v:V} {d e:D},d.eO n=ag->e.eO n=ag->Rep P H v d->Rep P' H v e->d=e){vs:aa V}:∀{ds es:aa D},μ n ds=ag->μ n es=ag->bQ P H vs ds->bQ P' H vs es->ds=es:=by
 induction vs with
 |nil=>intro ds es h h' r q;cases r;cases q;rfl
 |cons v vs ih2=>
  intro ds es h h' r q;cases r with
  |cons r t=>
   cases q with
   |cons r' t'=>
    rw[μ,bc] at h h';rw[ih h.1 h'.1 r r',ih2 h.2 h'.2 t t']
theorem Rep.inj{X:Cx}{Ψ:aa (ak×ba)}{σ:L2.St}{s:ao}{P P':ak->Prop}{H:Hp}(I:Inv X Ψ σ H s)(hK:KFrag.K=X.K)(n:ah):∀{v:V}{d e:D},d.eO n=ag->e.eO n=ag->Rep P H v d->Rep P' H v e->d=e:=by
 induction n with
 |zero=>
  intro v d e h h' r q;cases d with
  |non=>obtain rfl:=r.inv;cases q;rfl
  |bl b=>obtain rfl:=r.inv;cases q;rfl
  |int i=>obtain rfl:=r.inv;cases q;rfl
  |str x=>obtain rfl:=r.inv;cases q;rfl
  |_=>exact fx0 h
 |succ n ih=>
  intro v d e h h' r q;cases d with
  |non=>obtain rfl:=r.inv;cases q;rfl
  |bl b=>obtain rfl:=r.inv;cases q;rfl
  |int i=>obtain rfl:=r.inv;cases q;rfl
  |str x=>obtain rfl:=r.inv;cases q;rfl
  |tup ds=>
   obtain⟨a,xs,rfl,e1,r1⟩:=r.inv;cases q with
   |tup e2 r2=>
    rw[e1] at e2;cases e2;rw[bQ.aPa ih h h' r1 r2]
   |lst e2 _ _=>rw[e1] at e2;cases e2
   |frz e2 _=>obtain⟨_,z⟩:=aE2 I hK e2 e1;cases z
   |dK e2 _ _ _=>rw[e1] at e2;cases e2
   |dT e2 _ _ _=>rw[e1] at e2;cases e2
   |_=>exact fx0 h'
  |lst ds=>
   obtain⟨a,xs,rfl,e1,_,r1⟩:=r.inv;cases q with
   |tup e2 r2=>rw[e1] at e2;cases e2
   |lst e2 _ r2=>
    rw[e1] at e2;cases e2;rw[bQ.aPa ih h h' r1 r2]
   |dK e2 _ _ _=>rw[e1] at e2;cases e2
   |dT e2 _ _ _=>rw[e1] at e2;cases e2
   |frz e2 _=>obtain⟨_,z⟩:=aE2 I hK e2 e1;cases z
   |_=>exact fx0 h'
  |scr ds=>
   obtain⟨a,xs,rfl,e1,r1⟩:=r.inv;cases q with
   |tup e2 r2=>obtain⟨_,z⟩:=aE2 I hK e1 e2;cases z
   |lst e2 _ r2=>obtain⟨_,z⟩:=aE2 I hK e1 e2;cases z
   |frz e2 r2=>
    cases vI I (e1.sq hK) (e2.sq hK);rw[bQ.aPa ih h h' r1 r2]
   |_=>exact fx0 h'
  |_=>exact fx0 h
theorem jO:∀(xs ys:aa D),m7 xs ys=((bn (min xs.length ys.length)).all (λj=>eqD (xs.getD j .non) (ys.getD j .non))&&xs.length==ys.length)
 |[],[]=>by simp[m7]
 |[],y::ys=>by simp[m7]
 |x::xs,[]=>by simp[m7]
 |x::xs,y::ys=>by
  have e:min (x::xs).length (y::ys).length=min xs.length ys.length+1:=by simp only[b9];lia
  rw[m7,jO xs ys,e,yn,fI,List.all_map,yo]
  congr 1
  simp[BI]
theorem jA:∀{ds:aa D}{j:ah},μ n ds=ag->j<ds.length->(ds.getD j .non).eO n=ag
 |[],j,_,h=>by simp at h
 |d::ds,0,h,_=>by rw[μ,bc] at h;exact h.1
 |d::ds,j+1,h,hj=>by
  rw[μ,bc] at h;simpa using jA h.2 (by simpa using hj)
theorem bQ.getD(r:bQ P H vs ds)(hj:j<ds.length):∃v,vs[j]?=af v/\Rep P H v (ds.getD j .non):=by
 obtain⟨v,h1,h2⟩:=r.get (i:=j) (d:=ds.getD j .non) (by simp[hj]);exact⟨v,h1,h2⟩
section
theorem wU(ha:a.eO 0=ag)(hb:b.eO 0=ag)(rx:Rep All H x a)(ry:Rep All H y b)(ru:RelV x u)(rv:RelV y v):ib A s u v (eqD a b)/\ic A s u v (!eqD a b)/\EqAt A s u v (eqD a b):=by
 cases rx with
 |non=>
  cases ru;cases ry with
  |non=>cases rv;exact⟨RcAt.none_none,RcNeAt.none_none,oh _⟩
  |bl _=>cases rv;exact⟨RcAt.none_bool _,RcNeAt.none_bool _,EqAt.none_bool _⟩
  |int _=>obtain⟨t,rfl⟩:=rv;exact⟨RcAt.none_int _ _,RcNeAt.none_int _ _,EqAt.none_int _ _⟩
  |str _=>obtain⟨t,rfl⟩:=rv;exact⟨RcAt.none_str _ _,RcNeAt.none_str _ _,EqAt.none_str _ _⟩
  |_=>exact fx0 hb
 |bl _=>
  cases ru;cases ry with
  |non=>cases rv;exact⟨RcAt.bool_none _,RcNeAt.bool_none _,EqAt.bool_none _⟩
  |bl _=>cases rv;exact⟨RcAt.bool_bool _ _,RcNeAt.bool_bool _ _,EqAt.bool_bool _ _⟩
  |int _=>obtain⟨t,rfl⟩:=rv;exact⟨RcAt.bool_int _ _ _,RcNeAt.bool_int _ _ _,EqAt.bool_int _ _ _⟩
  |str _=>obtain⟨t,rfl⟩:=rv;exact⟨RcAt.bool_str _ _ _,RcNeAt.bool_str _ _ _,EqAt.bool_str _ _ _⟩
  |_=>exact fx0 hb
 |int _=>
  obtain⟨t,rfl⟩:=ru;cases ry with
  |non=>cases rv;exact⟨RcAt.int_none _ _,RcNeAt.int_none _ _,EqAt.int_none _ _⟩
  |bl _=>cases rv;exact⟨RcAt.int_bool _ _ _,RcNeAt.int_bool _ _ _,EqAt.int_bool _ _ _⟩
  |int _=>obtain⟨t',rfl⟩:=rv;exact⟨RcAt.int_int _ _ _ _,RcNeAt.int_int _ _ _ _,EqAt.int_int _ _ _ _⟩
  |str _=>obtain⟨t',rfl⟩:=rv;exact⟨RcAt.int_str _ _ _ _,RcNeAt.int_str _ _ _ _,wo _ _ _ _⟩
  |_=>exact fx0 hb
 |str _=>
  obtain⟨t,rfl⟩:=ru;cases ry with
  |non=>cases rv;exact⟨RcAt.str_none _ _,RcNeAt.str_none _ _,EqAt.str_none _ _⟩
  |bl _=>cases rv;exact⟨RcAt.str_bool _ _ _,RcNeAt.str_bool _ _ _,EqAt.str_bool _ _ _⟩
  |int _=>obtain⟨t',rfl⟩:=rv;exact⟨RcAt.str_int _ _ _ _,RcNeAt.str_int _ _ _ _,wt _ _ _ _⟩
  |str _=>obtain⟨t',rfl⟩:=rv;exact⟨RcAt.str_str _ _ _ _,RcNeAt.str_str _ _ _ _,EqAt.str_str _ _ _ _⟩
  |_=>exact fx0 hb
 |_=>exact fx0 ha
theorem J_{X:Cx}(hK:KFrag.K=X.K)(I:Inv X Ψ σ H s):∀(n:ah)(A:bS){x y:V}{a b:D}{u v:aj},A.units+n<bm->a.eO n=ag->b.eO n=ag->Rep All H x a->Rep All H y b->RelV x u->RelV y v->
  ib A s u v (eqD a b)/\ic A s u v (!eqD a b)/\EqAt A s u v (eqD a b):=by
 intro n;induction n with
 |zero=>exact λA=>λ_ ha hb rx ry ru rv=>wU ha hb rx ry ru rv
 |succ n ih=>
  intro A x y a b u v hu ha hb rx ry ru rv;have hu0:A.units<bm:=by lia
  have hu1:A.in1.units+n<bm:=by show A.units+1+n<bm;lia
  have itm:∀{xs ys:aa V}{ds es:aa D}{i1 i2:aa aj},μ n ds=ag->μ n es=ag->bQ All H xs ds->bQ All H ys es->Vals xs i1->Vals ys i2->∀j (g1:j<i1.toArray.size) (g2:j<i2.toArray.size),EqAt A.in1 s i1.toArray[j] i2.toArray[j] (eqD (ds.getD j .non) (es.getD j .non)):=by
   intro xs ys ds es i1 i2 ha hb r1 r2 vr1 vr2 j g1 g2;have z1:i1.toArray.size=ds.length:=by rw[bX,<-vr1.length,r1.length]
   have z2:i2.toArray.size=es.length:=by rw[bX,<-vr2.length,r2.length]
   obtain⟨v1,w1,rr1⟩:=r1.getD (j:=j) (by lia);obtain⟨v2,w2,rr2⟩:=r2.getD (j:=j) (by lia);obtain⟨u1,k1,l1⟩:=vr1.get w1;obtain⟨u2,k2,l2⟩:=vr2.get w2;have m1:i1.toArray[j]=u1:=by
    rw[cn (by simpa using g1)] at k1;simpa using cr k1
   have m2:i2.toArray[j]=u2:=by
    rw[cn (by simpa using g2)] at k2;simpa using cr k2
   rw[m1,m2];exact(ih A.in1 hu1 (jA ha (by lia)) (jA hb (by lia)) rr1 rr2 l1 l2).2.2
  cases a with
  |non=>
   cases b with
   |tup es=>
    cases rx.inv;cases ru;obtain⟨q,ys,rfl,e2,r2⟩:=ry.g_;cases rv;obtain⟨its2,vr2,h2⟩:=iB I e2;exact⟨RcAt.none_tuple h2 hu0,RcNeAt.none_tuple h2 hu0,EqAt.none_tuple h2 hu0⟩
   |lst es=>
    cases rx.inv;cases ru;obtain⟨q,ys,rfl,e2,r2⟩:=ry.jU (K:=X.K);cases rv;obtain⟨its2,vr2,h2⟩:=dW I e2;exact⟨yp h2 hu0,yq h2 hu0,yr h2 hu0⟩
   |scr es=>
    cases rx.inv;cases ru;obtain⟨q,ys,rfl,e2,r2⟩:=kE hK ry;cases rv;obtain⟨its2,vr2,h2⟩:=dW I e2;exact⟨yp h2 hu0,yq h2 hu0,yr h2 hu0⟩
   |_=>first|exact wU rfl rfl rx ry ru rv|exact az ry Rep.uD|exact fx0 hb
  |bl _=>
   cases b with
   |tup es=>
    cases rx.inv;cases ru;obtain⟨q,ys,rfl,e2,r2⟩:=ry.g_;cases rv;obtain⟨its2,vr2,h2⟩:=iB I e2;exact⟨RcAt.bool_tuple _ h2 hu0,RcNeAt.bool_tuple _ h2 hu0,EqAt.bool_tuple _ h2 hu0⟩
   |lst es=>
    cases rx.inv;cases ru;obtain⟨q,ys,rfl,e2,r2⟩:=ry.jU (K:=X.K);cases rv;obtain⟨its2,vr2,h2⟩:=dW I e2;exact⟨yt _ h2 hu0,yu _ h2 hu0,yw _ h2 hu0⟩
   |scr es=>
    cases rx.inv;cases ru;obtain⟨q,ys,rfl,e2,r2⟩:=kE hK ry;cases rv;obtain⟨its2,vr2,h2⟩:=dW I e2;exact⟨yt _ h2 hu0,yu _ h2 hu0,yw _ h2 hu0⟩
   |_=>first|exact wU rfl rfl rx ry ru rv|exact az ry Rep.uD|exact fx0 hb
  |int _=>
   cases b with
   |tup es=>
    cases rx.inv;obtain⟨t1,rfl⟩:=ru;obtain⟨q,ys,rfl,e2,r2⟩:=ry.g_;cases rv;obtain⟨its2,vr2,h2⟩:=iB I e2;exact⟨RcAt.int_tuple _ _ h2 hu0,RcNeAt.int_tuple _ _ h2 hu0,EqAt.int_tuple _ _ h2 hu0⟩
   |lst es=>
    cases rx.inv;obtain⟨t1,rfl⟩:=ru;obtain⟨q,ys,rfl,e2,r2⟩:=ry.jU (K:=X.K);cases rv;obtain⟨its2,vr2,h2⟩:=dW I e2;exact⟨yx _ _ h2 hu0,yy _ _ h2 hu0,yz _ _ h2 hu0⟩
   |scr es=>
    cases rx.inv;obtain⟨t1,rfl⟩:=ru;obtain⟨q,ys,rfl,e2,r2⟩:=kE hK ry;cases rv;obtain⟨its2,vr2,h2⟩:=dW I e2;exact⟨yx _ _ h2 hu0,yy _ _ h2 hu0,yz _ _ h2 hu0⟩
   |_=>first|exact wU rfl rfl rx ry ru rv|exact az ry Rep.uD|exact fx0 hb
  |str _=>
   cases b with
   |tup es=>
    cases rx.inv;obtain⟨t1,rfl⟩:=ru;obtain⟨q,ys,rfl,e2,r2⟩:=ry.g_;cases rv;obtain⟨its2,vr2,h2⟩:=iB I e2;exact⟨RcAt.str_tuple _ _ h2 hu0,RcNeAt.str_tuple _ _ h2 hu0,EqAt.str_tuple _ _ h2 hu0⟩
   |lst es=>
    cases rx.inv;obtain⟨t1,rfl⟩:=ru;obtain⟨q,ys,rfl,e2,r2⟩:=ry.jU (K:=X.K);cases rv;obtain⟨its2,vr2,h2⟩:=dW I e2;exact⟨yA _ _ h2 hu0,yB _ _ h2 hu0,yT _ _ h2 hu0⟩
   |scr es=>
    cases rx.inv;obtain⟨t1,rfl⟩:=ru;obtain⟨q,ys,rfl,e2,r2⟩:=kE hK ry;cases rv;obtain⟨its2,vr2,h2⟩:=dW I e2;exact⟨yA _ _ h2 hu0,yB _ _ h2 hu0,yT _ _ h2 hu0⟩
   |_=>first|exact wU rfl rfl rx ry ru rv|exact az ry Rep.uD|exact fx0 hb
  |tup ds=>
   obtain⟨p,xs,rfl,e1,r1⟩:=rx.g_;cases ru;obtain⟨its1,vr1,h1⟩:=iB I e1;replace ha:μ _ _=ag:=ha;cases b with
   |non=>cases ry.inv;cases rv;exact⟨RcAt.tuple_none h1 hu0,RcNeAt.tuple_none h1 hu0,EqAt.tuple_none h1 hu0⟩
   |bl _=>cases ry.inv;cases rv;exact⟨RcAt.tuple_bool _ h1 hu0,RcNeAt.tuple_bool _ h1 hu0,EqAt.tuple_bool _ h1 hu0⟩
   |int _=>cases ry.inv;obtain⟨t2,rfl⟩:=rv;exact⟨RcAt.tuple_int _ _ h1 hu0,RcNeAt.tuple_int _ _ h1 hu0,EqAt.tuple_int _ _ h1 hu0⟩
   |str _=>cases ry.inv;obtain⟨t2,rfl⟩:=rv;exact⟨RcAt.tuple_str _ _ h1 hu0,RcNeAt.tuple_str _ _ h1 hu0,EqAt.tuple_str _ _ h1 hu0⟩
   |tup es=>
    obtain⟨q,ys,rfl,e2,r2⟩:=ry.g_;cases rv;obtain⟨its2,vr2,h2⟩:=iB I e2;replace hb:μ _ _=ag:=hb;have z1:its1.toArray.size=ds.length:=by rw[bX,<-vr1.length,r1.length]
    have z2:its2.toArray.size=es.length:=by rw[bX,<-vr2.length,r2.length]
    have he:=itm ha hb r1 r2 vr1 vr2;have ee:eqD (.tup ds) (.tup es)=((bn (min its1.toArray.size its2.toArray.size)).all (λj=>eqD (ds.getD j .non) (es.getD j .non))&&its1.toArray.size==its2.toArray.size):=by
     rw[show eqD (.tup _) (.tup _)=m7 _ _ from rfl,jO,z1,z2]
    have r0:=RcAt.tuples h1 h2 hu0 he;have r0':=RcNeAt.tuples h1 h2 hu0 he;rw[<-ee] at r0 r0';refine⟨r0,r0',?_⟩;by_cases hpq:p=q
    ·subst hpq;have hab:(ω ds)=(.tup es):=Rep.inj I hK (n+1) ha hb rx ry;rw[<-hab,vN (n+1) (.tup ds) ha];exact oh _
    ·exact mf hpq r0
   |lst es=>
    obtain⟨q,ys,rfl,e2,r2⟩:=ry.jU (K:=X.K);cases rv;obtain⟨its2,vr2,h2⟩:=dW I e2;exact⟨yY h1 h2 hu0,y3 h1 h2 hu0,y4 h1 h2 hu0⟩
   |scr es=>
    obtain⟨q,ys,rfl,e2,r2⟩:=kE hK ry;cases rv;obtain⟨its2,vr2,h2⟩:=dW I e2;exact⟨yY h1 h2 hu0,y3 h1 h2 hu0,y4 h1 h2 hu0⟩
   |_=>first|exact az ry Rep.uD|exact fx0 hb
  |lst ds=>
   obtain⟨p,xs,rfl,e1,r1⟩:=rx.jU (K:=X.K);cases ru;obtain⟨its1,vr1,h1⟩:=dW I e1;replace ha:μ _ _=ag:=ha;cases b with
   |non=>cases ry.inv;cases rv;exact⟨za h1 hu0,zb h1 hu0,zc h1 hu0⟩
   |bl _=>cases ry.inv;cases rv;exact⟨zd _ h1 hu0,zf _ h1 hu0,zg _ h1 hu0⟩
   |int _=>cases ry.inv;obtain⟨t2,rfl⟩:=rv;exact⟨zh _ _ h1 hu0,zi _ _ h1 hu0,zj _ _ h1 hu0⟩
   |str _=>cases ry.inv;obtain⟨t2,rfl⟩:=rv;exact⟨zk _ _ h1 hu0,zl _ _ h1 hu0,zm _ _ h1 hu0⟩
   |tup es=>
    obtain⟨q,ys,rfl,e2,r2⟩:=ry.g_;cases rv;obtain⟨its2,vr2,h2⟩:=iB I e2;exact⟨zn h1 h2 hu0,zo h1 h2 hu0,zp h1 h2 hu0⟩
   |lst es=>
    obtain⟨q,ys,rfl,e2,r2⟩:=ry.jU (K:=X.K);cases rv;obtain⟨its2,vr2,h2⟩:=dW I e2;replace hb:μ _ _=ag:=hb;have z1:its1.toArray.size=ds.length:=by rw[bX,<-vr1.length,r1.length]
    have z2:its2.toArray.size=es.length:=by rw[bX,<-vr2.length,r2.length]
    have he:=itm ha hb r1 r2 vr1 vr2;have r00:ib A s (.ref p) (.ref q) (eqD (.lst ds) (.lst es))/\ic A s (.ref p) (.ref q) (!eqD (.lst ds) (.lst es)):=by
     show ib A s (.ref p) (.ref q) (m7 ds es)/\ic A s (.ref p) (.ref q) (!m7 ds es);rw[jO];by_cases hz:ds.length=es.length
     ·have r0:=om h1 h2 (by lia) hu0 he;have r0':=oq h1 h2 (by lia) hu0 he;rw[z1] at r0 r0';rw[show min ds.length es.length=ds.length by lia,show(ds.length==es.length)=ag by simpa using hz,ie];exact⟨r0,r0'⟩
     ·have hz':(its1.toArray.size !=its2.toArray.size)=ag:=by rw[z1,z2];simpa using hz
      rw[show(ds.length==es.length)=ai by simpa using hz,kQ];exact⟨ot h1 h2 hz' hu0,ou h1 h2 hz' hu0⟩
    obtain⟨r0,r0'⟩:=r00;refine⟨r0,r0',?_⟩;by_cases hpq:p=q
    ·subst hpq;have hab:(υ ds)=(.lst es):=Rep.inj I hK (n+1) ha hb rx ry;rw[<-hab,vN (n+1) (.lst ds) ha];exact oh _
    ·exact mf hpq r0
   |scr es=>
    obtain⟨q,ys,rfl,e2,r2⟩:=kE hK ry;cases rv;obtain⟨its2,vr2,h2⟩:=dW I e2;replace hb:μ _ _=ag:=hb;have z1:its1.toArray.size=ds.length:=by rw[bX,<-vr1.length,r1.length]
    have z2:its2.toArray.size=es.length:=by rw[bX,<-vr2.length,r2.length]
    have he:=itm ha hb r1 r2 vr1 vr2;have r00:ib A s (.ref p) (.ref q) (eqD (.lst ds) (.scr es))/\ic A s (.ref p) (.ref q) (!eqD (.lst ds) (.scr es)):=by
     show ib A s (.ref p) (.ref q) (m7 ds es)/\ic A s (.ref p) (.ref q) (!m7 ds es);rw[jO];by_cases hz:ds.length=es.length
     ·have r0:=om h1 h2 (by lia) hu0 he;have r0':=oq h1 h2 (by lia) hu0 he;rw[z1] at r0 r0';rw[show min ds.length es.length=ds.length by lia,show(ds.length==es.length)=ag by simpa using hz,ie];exact⟨r0,r0'⟩
     ·have hz':(its1.toArray.size !=its2.toArray.size)=ag:=by rw[z1,z2];simpa using hz
      rw[show(ds.length==es.length)=ai by simpa using hz,kQ];exact⟨ot h1 h2 hz' hu0,ou h1 h2 hz' hu0⟩
    obtain⟨r0,r0'⟩:=r00;refine⟨r0,r0',?_⟩;by_cases hpq:p=q
    ·subst hpq;have hab:(υ ds)=(.scr es):=Rep.inj I hK (n+1) ha hb rx ry;cases hab
    ·exact mf hpq r0
   |_=>first|exact az ry Rep.uD|exact fx0 hb
  |scr ds=>
   obtain⟨p,xs,rfl,e1,r1⟩:=kE hK rx;cases ru;obtain⟨its1,vr1,h1⟩:=dW I e1;replace ha:μ _ _=ag:=ha;cases b with
   |non=>cases ry.inv;cases rv;exact⟨za h1 hu0,zb h1 hu0,zc h1 hu0⟩
   |bl _=>cases ry.inv;cases rv;exact⟨zd _ h1 hu0,zf _ h1 hu0,zg _ h1 hu0⟩
   |int _=>cases ry.inv;obtain⟨t2,rfl⟩:=rv;exact⟨zh _ _ h1 hu0,zi _ _ h1 hu0,zj _ _ h1 hu0⟩
   |str _=>cases ry.inv;obtain⟨t2,rfl⟩:=rv;exact⟨zk _ _ h1 hu0,zl _ _ h1 hu0,zm _ _ h1 hu0⟩
   |tup es=>
    obtain⟨q,ys,rfl,e2,r2⟩:=ry.g_;cases rv;obtain⟨its2,vr2,h2⟩:=iB I e2;exact⟨zn h1 h2 hu0,zo h1 h2 hu0,zp h1 h2 hu0⟩
   |lst es=>
    obtain⟨q,ys,rfl,e2,r2⟩:=ry.jU (K:=X.K);cases rv;obtain⟨its2,vr2,h2⟩:=dW I e2;replace hb:μ _ _=ag:=hb;have z1:its1.toArray.size=ds.length:=by rw[bX,<-vr1.length,r1.length]
    have z2:its2.toArray.size=es.length:=by rw[bX,<-vr2.length,r2.length]
    have he:=itm ha hb r1 r2 vr1 vr2;have r00:ib A s (.ref p) (.ref q) (eqD (.scr ds) (.lst es))/\ic A s (.ref p) (.ref q) (!eqD (.scr ds) (.lst es)):=by
     show ib A s (.ref p) (.ref q) (m7 ds es)/\ic A s (.ref p) (.ref q) (!m7 ds es);rw[jO];by_cases hz:ds.length=es.length
     ·have r0:=om h1 h2 (by lia) hu0 he;have r0':=oq h1 h2 (by lia) hu0 he;rw[z1] at r0 r0';rw[show min ds.length es.length=ds.length by lia,show(ds.length==es.length)=ag by simpa using hz,ie];exact⟨r0,r0'⟩
     ·have hz':(its1.toArray.size !=its2.toArray.size)=ag:=by rw[z1,z2];simpa using hz
      rw[show(ds.length==es.length)=ai by simpa using hz,kQ];exact⟨ot h1 h2 hz' hu0,ou h1 h2 hz' hu0⟩
    obtain⟨r0,r0'⟩:=r00;refine⟨r0,r0',?_⟩;by_cases hpq:p=q
    ·subst hpq;have hab:(ν ds)=(.lst es):=Rep.inj I hK (n+1) ha hb rx ry;cases hab
    ·exact mf hpq r0
   |scr es=>
    obtain⟨q,ys,rfl,e2,r2⟩:=kE hK ry;cases rv;obtain⟨its2,vr2,h2⟩:=dW I e2;replace hb:μ _ _=ag:=hb;have z1:its1.toArray.size=ds.length:=by rw[bX,<-vr1.length,r1.length]
    have z2:its2.toArray.size=es.length:=by rw[bX,<-vr2.length,r2.length]
    have he:=itm ha hb r1 r2 vr1 vr2;have r00:ib A s (.ref p) (.ref q) (eqD (.scr ds) (.scr es))/\ic A s (.ref p) (.ref q) (!eqD (.scr ds) (.scr es)):=by
     show ib A s (.ref p) (.ref q) (m7 ds es)/\ic A s (.ref p) (.ref q) (!m7 ds es);rw[jO];by_cases hz:ds.length=es.length
     ·have r0:=om h1 h2 (by lia) hu0 he;have r0':=oq h1 h2 (by lia) hu0 he;rw[z1] at r0 r0';rw[show min ds.length es.length=ds.length by lia,show(ds.length==es.length)=ag by simpa using hz,ie];exact⟨r0,r0'⟩
     ·have hz':(its1.toArray.size !=its2.toArray.size)=ag:=by rw[z1,z2];simpa using hz
      rw[show(ds.length==es.length)=ai by simpa using hz,kQ];exact⟨ot h1 h2 hz' hu0,ou h1 h2 hz' hu0⟩
    obtain⟨r0,r0'⟩:=r00;refine⟨r0,r0',?_⟩;by_cases hpq:p=q
    ·subst hpq;have hab:(ν ds)=(.scr es):=Rep.inj I hK (n+1) ha hb rx ry;rw[<-hab,vN (n+1) (.scr ds) ha];exact oh _
    ·exact mf hpq r0
   |_=>first|exact az ry Rep.uD|exact fx0 hb
  |_=>first|exact az rx Rep.uD|exact fx0 ha
end
end
open PySem.AutoSeq1 (wpAny_loadPart')
open PySem.MeetsSeq PySem.MeetsSeq2 PySem.MeetsSeq3
variable [KFrag]
noncomputable def fX.op:fX->gv
 |.lt=>.Lt|.le=>.LtE|.gt=>.Gt|.ge=>.GtE
def aDl(op:gv)(A:bS)(s:ao)(u v:aj)(b:ap):Prop:=
 ∀(prog:br)(w:bg)(E:aj->ao->Prop)(Q:aj->ao->Prop),Q (.bool b) s->ϑ (aw prog w) A (la op u v) Q E s
def C2(o:fX)(A:bS)(s:ao)(vs ws:aa aj)(xs ys:aa D):Prop:=
 vs.length=xs.length/\ws.length=ys.length/\∀(j:ah)(v w:aj)(x y:D),vs[j]?=af v->ws[j]?=af w->xs[j]?=af x->ys[j]?=af y->
  EqAt A s v w (eqD x y)/\(eqD x y=ai->∀k,iM o x y=af k->aDl o.op A s v w k)
theorem C2.tail(h:C2 o A s (v::vs) (w::ws) (x::xs) (y::ys)):C2 o A s vs ws xs ys:=
 ⟨by simpa using h.1,by simpa using h.2.1,λj a b c d e1 e2 e3 e4=>h.2.2 (j+1) a b c d (by simpa using e1) (by simpa using e2) (by simpa using e3) (by simpa using e4)⟩
noncomputable def fX.bt:fX->dt
 |.lt=>dt.«tuple.__lt__»|.le=>dt.«tuple.__le__»|.gt=>dt.«tuple.__gt__»|.ge=>dt.«tuple.__ge__»
theorem QG(o q:fX)(eq:q=o)(l b:ak)(items items2:aE aj)(n n2:ah)(dd dd2:av ak)(sl sl2:aE (av aj))(xs ys:aa D)(res:ap)(hr:cU q xs ys=af res) :
  j3 (o.bt ⟨[.ref l,.ref b],[]⟩)
   (λA R s=>s.heap.get? l=af {cls:=.type "tuple",dict:=dd,data:=.seq items n,slots:=sl}/\s.heap.get? b=af {cls:=.type "tuple",dict:=dd2,data:=.seq items2 n2,slots:=sl2}/\
    C2 q A.in1 s items.toList items2.toList xs ys/\R (.ok (.ret (.bool res))) s):=by
 cases o<;>exact .of_wp λprog w A R s h=>by
  obtain⟨hp,g,d,tk,os⟩:=s;obtain⟨hl,hb,hC,h⟩:=h;have f2:=BM;have z1:items.size=xs.length:=by rw[<-hC.1];simp
  have z2:items2.size=ys.length:=by rw[<-hC.2.1];simp
  wp_walk using wpAny_loadPart' hl,wpAny_loadPart' hb,wpAny_forIn_list _ (λrest b s'=>b.1=am/\s'=⟨hp,g,d,tk,os⟩/\∃(vs ws:aa aj)(xs' ys':aa D),rest=vs.zip ws/\
   C2 q A.in1 ⟨hp,g,d,tk,os⟩ vs ws xs' ys'/\xs'.length+items2.size=ys'.length+items.size/\cU q xs' ys'=af res) _
  case turn=>
   subst eq;rintro⟨y,x⟩ rest b s' ⟨hb',rfl,vs,ws,xs',ys',hz,hC',hlen,hR⟩;cases vs with
   |nil=>rw[zq] at hz;cases hz
   |cons v vs=>
    cases ws with
    |nil=>rw[zr] at hz;cases hz
    |cons w' ws=>
     rw[ov] at hz;injection hz with hyx hrest
     injection hyx with hy hx
     subst hy hx;cases xs' with
     |nil=>exact az hC'.1 (by simp)
     |cons x0 xs'=>
      cases ys' with
      |nil=>exact az hC'.2.1 (by simp)
      |cons y0 ys'=>
       rw[cU] at hR;simp only[b9] at hlen;obtain⟨he,hlt⟩:=hC'.2.2 0 _ _ _ _ rfl rfl rfl rfl;refine au (he prog w _ _ ?_);cases e:eqD x0 y0 with
       |true=>
        rw[e] at hR;simp only[cx] at hR
        wp_walk
        exact⟨rfl,rfl,_,_,_,_,hrest,hC'.tail,by lia,hR⟩
       |false=>
        rw[e] at hR;simp only[hG,cK] at hR;have hri:=hlt e res hR prog w;dsimp only[fX.op] at hri
        wp_walk using hri
        exact⟨_,rfl,by simpa using h⟩
  case fin=>
   rintro⟨b1,b2⟩ s' ⟨hb',rfl,vs,ws,xs',ys',hz,hC',hlen,hR⟩;simp only at hb';subst hb';have hv:res=fX.nat q items.size items2.size:=by
    subst eq;cases xs' with
    |nil=>
     rw[cU] at hR;have:=cr hR;rw[<-this];simp only[dS] at hlen;simp only[fX.nat]
     congr 1
     simp only[eq_iff_iff];lia
    |cons x0 xs'=>
     cases ys' with
     |nil=>
      rw[cU] at hR;have:=cr hR;rw[<-this];simp only[dS,b9] at hlen;simp only[fX.nat,b9]
      congr 1
      simp only[eq_iff_iff];lia
     |cons y0 ys'=>
      exfalso;cases vs with
      |nil=>exact az hC'.1 (by simp)
      |cons v vs=>
       cases ws with
       |nil=>exact az hC'.2.1 (by simp)
       |cons w' ws=>rw[ov] at hz;cases hz
   rw[hv] at h;subst eq
   wp_walk
   exact⟨_,rfl,by simpa[BN,fX.nat] using h⟩
  case h=>
   exact⟨rfl,rfl,items.toList,items2.toList,xs,ys,rfl,hC,by lia,hr⟩
theorem aDl.tup(o:fX)(hl:s.heap.IsTuple l items)(hb:s.heap.IsTuple b items2)(hC:C2 o A.in1 s items.toList items2.toList xs ys)(hr:cU o xs ys=af res)(hu:A.units<bm) :
  aDl o.op A s (.ref l) (.ref b) res:=λprog w E Q h=>by
 obtain⟨⟨cls,dd,data,sl⟩,ho,hc,n,hd⟩:=id hl;obtain⟨⟨cls2,dd2,lS,sl2⟩,ho2,hc2,n2,hd2⟩:=id hb;simp only at hc hd hc2 hd2;subst hc hd hc2 hd2;have M:=QG o o rfl l b items items2 n n2 dd dd2 sl sl2 xs ys res hr;have G:_/\_/\C2 o A.in1 s items.toList items2.toList xs ys/\(nr res≠zt/\Q (.bool res) s):=⟨ho,ho2,hC,(λx=>nomatch x),h⟩
 cases o
 ·exact i9 ⟨_,ho,rfl⟩ ⟨_,ho2,rfl⟩ PySem.F.slot_tuple_lt PySem.F.entry_tuple_lt (PySem.F.args_tuple_lt_2 _ _) M G hu
 ·exact i9 ⟨_,ho,rfl⟩ ⟨_,ho2,rfl⟩ PySem.F.slot_tuple_le PySem.F.entry_tuple_le (PySem.F.args_tuple_le_2 _ _) M G hu
 ·exact i9 ⟨_,ho,rfl⟩ ⟨_,ho2,rfl⟩ PySem.F.slot_tuple_gt PySem.F.entry_tuple_gt (PySem.F.args_tuple_gt_2 _ _) M G hu
 ·exact i9 ⟨_,ho,rfl⟩ ⟨_,ho2,rfl⟩ PySem.F.slot_tuple_ge PySem.F.entry_tuple_ge (PySem.F.args_tuple_ge_2 _ _) M G hu
noncomputable def fX.code:fX->ae
 |.lt=>0|.le=>1|.gt=>4|.ge=>5
noncomputable def fX.btL:fX->dt
 |.lt=>dt.«list.__lt__»|.le=>dt.«list.__le__»|.gt=>dt.«list.__gt__»|.ge=>dt.«list.__ge__»
theorem aA2{xs:aa α}(h:xs[i]?=af x):xs.drop i=x::xs.drop (i+1):=by
 obtain⟨hi,rfl⟩:=c9.mp h;exact mh hi
theorem aA3(o:fX){xs ys:aa D}(h:xs.length<=i\/ys.length<=i)(hi:i<=xs.length/\i<=ys.length)(hr:cU o (xs.drop i) (ys.drop i)=af res):res=o.nat xs.length ys.length:=by
 rcases h with h|h
 ·rw[zu h,cU] at hr;have:=cr hr;rw[<-this,iO];cases o<;>simp only[fX.nat]<;>congr 1<;>simp only[eq_iff_iff]<;>lia
 ·rw[zu h] at hr;cases hx:xs.drop i with
  |nil=>
   rw[hx,cU] at hr;have:=cr hr;have hl:=cm gS hx;rw[iO] at hl;simp only[dS] at hl this;rw[<-this];cases o<;>simp only[fX.nat]<;>congr 1<;>simp only[eq_iff_iff]<;>lia
  |cons x r=>
   rw[hx,cU] at hr;have:=cr hr;have hl:=cm gS hx;rw[iO] at hl;rw[<-hl] at this;rw[<-this];cases o<;>simp only[fX.nat]<;>congr 1<;>simp only[eq_iff_iff]<;>lia
theorem aE3(o q:fX)(eq:q=o)(l b:ak)(items items2:aE aj)(n n2:ah)(dd dd2:av ak)(sl sl2:aE (av aj))(xs ys:aa D)(res:ap)(k:ah) :
  ∀i:ah,items.size-i=k->i<=items.size/\i<=items2.size->cU q (xs.drop i) (ys.drop i)=af res->j3 (dt.«list.__eq__.loop» ⟨[.ref l,.ref b,gu i,gu o.code],[]⟩)
   (λA R s=>s.heap.get? l=af {cls:=.type "list",dict:=dd,data:=.seq items n,slots:=sl}/\s.heap.get? b=af {cls:=.type "list",dict:=dd2,data:=.seq items2 n2,slots:=sl2}/\
    C2 q A.in1 s items.toList items2.toList xs ys/\R (.ok (.ret (.bool res))) s):=by
 induction k with
 |zero=>
  intro i hk hi hr;cases o<;>exact λprog w A R s h=>by
   obtain⟨hp,g,d,tk,os⟩:=s;obtain⟨hl,hb,hC,h⟩:=h;have z1:items.size=xs.length:=by rw[<-hC.1];simp
   have z2:items2.size=ys.length:=by rw[<-hC.2.1];simp
   have hv:=aA3 q (.inl (by lia)) (by lia) hr;subst eq;have e1:items[((i:ah):ae).toNat]?=am:=by simp;lia
   wp_walk using wpAny_loadPart' hl,wpAny_loadPart' hb
   rw[e1]
   wp_walk using wpAny_loadPart' hl,wpAny_loadPart' hb
   rw[hv,<-z1,<-z2] at h;exact h
 |succ k ih=>
  intro i hk hi hr;cases o<;>exact λprog w A R s h=>by
   obtain⟨hp,g,d,tk,os⟩:=s;obtain⟨hl,hb,hC,h⟩:=h;have z1:items.size=xs.length:=by rw[<-hC.1];simp
   have z2:items2.size=ys.length:=by rw[<-hC.2.1];simp
   have l1:i<items.size:=by lia
   have e1:items[((i:ah):ae).toNat]?=af items[i]:=by simp[l1]
   by_cases l2:i<items2.size
   ·have e2:items2[((i:ah):ae).toNat]?=af items2[i]:=by simp[l2]
    have x1:xs[i]?=af (xs[i]'(by lia)):=by simp
    have y1:ys[i]?=af (ys[i]'(by lia)):=by simp
    rw[aA2 x1,aA2 y1,cU] at hr;obtain⟨he,hlt⟩:=hC.2.2 i items[i] items2[i] _ _ (by simp[l1]) (by simp[l2]) x1 y1
    wp_walk using wpAny_loadPart' hl,wpAny_loadPart' hb
    rw[e1,e2];refine au (he prog w _ _ ?_);cases ee:eqD (xs[i]'(by lia)) (ys[i]'(by lia)) with
    |true=>
     rw[ee,ar rfl] at hr
     wp_walk
     rw[show((i:ae)+1)=((i+1:ah):ae) by lia];refine⟨fN ow _,fR zv ?_⟩;rw[gl ow _];exact ih (i+1) (by lia) (by lia) hr prog w A R _ ⟨hl,hb,hC,h⟩
    |false=>
     rw[ee,aq (by simp)] at hr;subst eq;have hri:=hlt ee res hr prog w;dsimp only[fX.op] at hri
     wp_walk using wpAny_loadPart' hl,wpAny_loadPart' hb
     rw[e1,e2]
     wp_walk using hri
     exact h
   ·have hv:=aA3 q (.inr (by lia)) (by lia) hr;subst eq;have e2:items2[((i:ah):ae).toNat]?=am:=by simp;lia
    wp_walk using wpAny_loadPart' hl,wpAny_loadPart' hb
    rw[e1,e2]
    wp_walk using wpAny_loadPart' hl,wpAny_loadPart' hb
    rw[hv,<-z1,<-z2] at h;exact h
theorem A_(o:fX)(l b:ak)(items items2:aE aj)(n n2:ah)(dd dd2:av ak)(sl sl2:aE (av aj))(xs ys:aa D)(res:ap)(hr:cU o xs ys=af res) :
  j3 (o.btL ⟨[.ref l,.ref b],[]⟩)
   (λA R s=>s.heap.get? l=af {cls:=.type "list",dict:=dd,data:=.seq items n,slots:=sl}/\s.heap.get? b=af {cls:=.type "list",dict:=dd2,data:=.seq items2 n2,slots:=sl2}/\
    C2 o A.in1 s items.toList items2.toList xs ys/\R (.ok (.ret (.bool res))) s):=by
 have key:=aE3 o o rfl l b items items2 n n2 dd dd2 sl sl2 xs ys res items.size 0 (by lia) (by lia) hr;cases o<;>exact λprog w A R s h=>by
  have f2:=zw;obtain⟨hp,g,d,tk,os⟩:=s;obtain⟨hl,hb,hC,h⟩:=h
  wp_walk using wpAny_loadPart' hl,wpAny_loadPart' hb
  refine⟨fN ow _,fR zv ?_⟩;rw[gl ow _];exact key prog w A R _ ⟨hl,hb,hC,h⟩
theorem aDl.lst(o:fX)(hl:s.heap.IsList l items)(hb:s.heap.IsList b items2)(hC:C2 o A.in1 s items.toList items2.toList xs ys)(hr:cU o xs ys=af res)(hu:A.units<bm) :
  aDl o.op A s (.ref l) (.ref b) res:=λprog w E Q h=>by
 obtain⟨⟨cls,dd,data,sl⟩,ho,hc,n,hd⟩:=id hl;obtain⟨⟨cls2,dd2,lS,sl2⟩,ho2,hc2,n2,hd2⟩:=id hb;simp only at hc hd hc2 hd2;subst hc hd hc2 hd2;have M:=A_ o l b items items2 n n2 dd dd2 sl sl2 xs ys res hr;have G:_/\_/\C2 o A.in1 s items.toList items2.toList xs ys/\(nr res≠zt/\Q (.bool res) s):=⟨ho,ho2,hC,(λx=>nomatch x),h⟩
 cases o
 ·exact i9 ⟨_,ho,rfl⟩ ⟨_,ho2,rfl⟩ uh zx (zy _ _) M G hu
 ·exact i9 ⟨_,ho,rfl⟩ ⟨_,ho2,rfl⟩ PySem.F.slot_list_le PySem.F.entry_list_le (PySem.F.args_list_le_2 _ _) M G hu
 ·exact i9 ⟨_,ho,rfl⟩ ⟨_,ho2,rfl⟩ PySem.F.slot_list_gt PySem.F.entry_list_gt (PySem.F.args_list_gt_2 _ _) M G hu
 ·exact i9 ⟨_,ho,rfl⟩ ⟨_,ho2,rfl⟩ PySem.F.slot_list_ge PySem.F.entry_list_ge (PySem.F.args_list_ge_2 _ _) M G hu
section
theorem TF(o:fX)(na:∀ds,a≠.tup ds)(nb:∀ds,a≠.scr ds)(nc:∀ds,a≠.lst ds)(rx:Rep All H x a)(ry:Rep All H y b)(ru:RelV x u)(rv:RelV y v)(hk:iM o a b=af k):aDl o.op A s u v k:=by
 cases a with
 |int i=>
  cases b with
  |int j=>
   cases rx;cases ry;obtain⟨t,rfl⟩:=ru;obtain⟨t',rfl⟩:=rv;rw[iM] at hk;have:=cr hk;subst this;cases o with
   |lt=>exact λprog w E Q h=>(BO h:ϑ (aw prog w) A (dg .Lt (.int i t) (.int j t')) Q E s)
   |le=>exact λprog w E Q h=>(BQ h:ϑ (aw prog w) A (dg .LtE (.int i t) (.int j t')) Q E s)
   |gt=>exact λprog w E Q h=>(BS h:ϑ (aw prog w) A (dg .Gt (.int i t) (.int j t')) Q E s)
   |ge=>exact λprog w E Q h=>(BU h:ϑ (aw prog w) A (dg .GtE (.int i t) (.int j t')) Q E s)
  |_=>exact nx0 hk
 |str i=>
  cases b with
  |str j=>
   cases rx;cases ry;obtain⟨t,rfl⟩:=ru;obtain⟨t',rfl⟩:=rv;rw[iM] at hk;have:=cr hk;subst this;cases o with
   |lt=>exact λprog w E Q h=>(BY h:ϑ (aw prog w) A (dg .Lt (.str i t) (.str j t')) Q E s)
   |le=>exact λprog w E Q h=>(PySem.P.le_str h:ϑ (aw prog w) A (dg .LtE (.str i t) (.str j t')) Q E s)
   |gt=>exact λprog w E Q h=>(PySem.P.gt_str h:ϑ (aw prog w) A (dg .Gt (.str i t) (.str j t')) Q E s)
   |ge=>exact λprog w E Q h=>(PySem.P.ge_str h:ϑ (aw prog w) A (dg .GtE (.str i t) (.str j t')) Q E s)
  |_=>exact nx0 hk
 |tup ds=>exact az rfl (na ds)
 |scr ds=>exact az rfl (nb ds)
 |lst ds=>exact az rfl (nc ds)
 |_=>cases b<;>exact nx0 hk
theorem QH{X:Cx}(hK:KFrag.K=X.K)(I:Inv X Ψ σ H s)(o:fX):∀(n:ah)(A:bS){x y:V}{a b:D}{u v:aj}{k:ap},A.units+n<bm->a.eO n=ag->b.eO n=ag->Rep All H x a->Rep All H y b->RelV x u->RelV y v->
  iM o a b=af k->aDl o.op A s u v k:=by
 intro n;induction n with
 |zero=>
  intro A x y a b u v k hu ha hb rx ry ru rv hk;cases a with
  |tup _=>exact fx0 ha
  |scr _=>exact fx0 ha
  |lst _=>exact fx0 ha
  |_=>exact TF o (by intro ds z;cases z) (by intro ds z;cases z) (by intro ds z;cases z) rx ry ru rv hk
 |succ n ih=>
  intro A x y a b u v k hu ha hb rx ry ru rv hk;have hu0:A.units<bm:=by lia
  have hu1:A.in1.units+n<bm:=by show A.units+1+n<bm;lia
  have hC:∀{xs ys:aa V}{ds es:aa D}{its1 its2:aa aj},μ n ds=ag->μ n es=ag->bQ All H xs ds->bQ All H ys es->Vals xs its1->Vals ys its2->C2 o A.in1 s its1.toArray.toList its2.toArray.toList ds es:=by
   intro xs ys ds es its1 its2 ha hb r1 r2 vr1 vr2;refine⟨by rw[ka,<-vr1.length,r1.length],by rw[ka,<-vr2.length,r2.length],λj v w x y a1 a2 a3 a4=>?_⟩;rw[ka] at a1 a2;obtain⟨v1,w1,rr1⟩:=r1.get a3;obtain⟨v2,w2,rr2⟩:=r2.get a4;obtain⟨u1,k1,l1⟩:=vr1.get w1;obtain⟨u2,k2,l2⟩:=vr2.get w2;rw[a1] at k1;cases k1;rw[a2] at k2;cases k2;have g1:x.eO n=ag:=by
    have:=jA ha (c9.mp a3).1;rwa [cy,a3] at this
   have g2:y.eO n=ag:=by
    have:=jA hb (c9.mp a4).1;rwa [cy,a4] at this
   exact⟨(J_ hK I n A.in1 hu1 g1 g2 rr1 rr2 l1 l2).2.2,λ_ k hk=>ih A.in1 hu1 g1 g2 rr1 rr2 l1 l2 hk⟩
  cases a with
  |tup ds=>
   cases b with
   |tup es=>
    obtain⟨p,xs,rfl,e1,r1⟩:=rx.g_;cases ru;obtain⟨its1,vr1,h1⟩:=iB I e1;obtain⟨q,ys,rfl,e2,r2⟩:=ry.g_;cases rv;obtain⟨its2,vr2,h2⟩:=iB I e2;rw[D.eO] at ha hb;rw[iM] at hk;exact aDl.tup o h1 h2 (hC ha hb r1 r2 vr1 vr2) hk hu0
   |_=>exact nx0 hk
  |scr ds=>
   cases b with
   |scr es=>
    obtain⟨p,xs,rfl,e1,r1⟩:=kE hK rx;cases ru;obtain⟨its1,vr1,h1⟩:=dW I e1;obtain⟨q,ys,rfl,e2,r2⟩:=kE hK ry;cases rv;obtain⟨its2,vr2,h2⟩:=dW I e2;rw[D.eO] at ha hb;rw[iM] at hk;exact aDl.lst o h1 h2 (hC ha hb r1 r2 vr1 vr2) hk hu0
   |_=>exact nx0 hk
  |lst ds=>
   cases b with
   |scr es=>
    obtain⟨p,xs,rfl,e1,r1⟩:=rx.jU (K:=X.K);cases ru;obtain⟨its1,vr1,h1⟩:=dW I e1;obtain⟨q,ys,rfl,e2,r2⟩:=kE hK ry;cases rv;obtain⟨its2,vr2,h2⟩:=dW I e2;replace ha:μ n ds=ag:=ha;replace hb:μ n es=ag:=hb;replace hk:cU o ds es=af k:=hk;exact aDl.lst o h1 h2 (hC ha hb r1 r2 vr1 vr2) hk hu0
   |_=>exact nx0 hk
  |_=>exact TF o (by intro ds z;cases z) (by intro ds z;cases z) (by intro ds z;cases z) rx ry ru rv hk
end
end Mi
namespace TS
open PySem PySem.W PyProof.Rows
noncomputable def gt(a:aE iu)(i:ah):iu:=a.getD i (.none,.none)
theorem aG3(h:∀i j,i<n->j<n->∀C:ap->ao->Prop,C (ϒ (r i<r j)) s->cmp i j C s):∀{t:KasT α},Wq n r t Q->t.kasWp cmp (λa s'=>s'=s/\Q a) s
 |.ret a,w=>⟨rfl,w⟩
 |.ask i j k,w=>h i j w.1 w.2.1 _ (aG3 h w.2.2)
theorem aG4:∀{l:aa ah},(∀x,p x=ag->q x=ag)->a∈l->q a=ag->p a=ai->l.countP p<l.countP q
 |[],_,h,_,_=>by cases h
 |b::l,h,m,h1,h2=>by
  have le:l.countP p<=l.countP q:=zz λx _=>h x
  rw[zC,zC];rcases bd.mp m with rfl|m
  ·rw[h1,h2,ar rfl,aq (by simp)];lia
  ·have:=aG4 h m h1 h2;have:=h b;split<;>split<;>first|lia|(rename_i x y;exact az (this x) y)
theorem aHu(n:ah)(lt:ah->ah->ap)(ir:∀i,lt i i=ai)(tr:∀i j k,lt i j=ag->lt j k=ag->lt i k=ag)(nt:∀i j k,lt i k=ag->lt i j=ag\/lt j k=ag):∃r:ah->ah,∀i j,i<n->ϒ (r i<r j)=lt i j:=by
 refine⟨λi=>(bn n).countP λk=>lt k i,λi j hi=>?_⟩;cases c:lt i j with
 |true=>exact bq (aG4 (λk h=>tr _ _ _ h c) (df.mpr hi) c (ir i))
 |false=>exact bP (ui.mpr (zz λk _ h=>(nt k i j h).resolve_right (by rw[c];simp)))
theorem FQ(h64:vs.length<64)(ho:s.heap.get? a=af (dh "list" vs.toArray n))(hn:vs.length<=bb)
 (hk:2<=vs.length->∃(κ:lb) (rk:ah->ah),
   (∀Q:lb->ao->Prop,Q κ {s with heap:=((s.heap.update a (eS λ_=>(#[]:aE aj))).push (dh "tuple" vs.toArray 0)).push (dh "list" #[] 0)}->ϑ (aw prog w) A (uj vs.toArray) Q E {s with heap:=((s.heap.update a (eS λ_=>(#[]:aE aj))).push (dh "tuple" vs.toArray 0)).push (dh "list" #[] 0)})/\
   (∀i j,i<vs.length->j<vs.length->∀C:ap->ao->Prop,C (ϒ (rk i<rk j)) {s with heap:=((s.heap.update a (eS λ_=>(#[]:aE aj))).push (dh "tuple" vs.toArray 0)).push (dh "list" #[] 0)}->kas_cmp prog w A κ (eI vs) i j C {s with heap:=((s.heap.update a (eS λ_=>(#[]:aE aj))).push (dh "tuple" vs.toArray 0)).push (dh "list" #[] 0)})/\
   ∀p:aE ah,Okp vs.length p->Up rk p vs.length->P (.done (.ret .none)) {s with heap:=ul s.heap a vs ((p.map (kas_item (eI vs))).map (·.2))})
 (h1:vs.length<2->P (.done (.ret .none)) {s with heap:=ul s.heap a vs ((eI vs).map (·.2))}) :
  ϑ (aw prog w) A (dt.«list.sort» ⟨[.ref a],[]⟩) P E s:=by
 rw[list_sort_plain];have ha:a<s.heap.objs.size:=bw ho;refine au (listItems_at ho rfl ?_);refine au (um ho rfl ?_ (by rw[bX];exact hn) (eL _));obtain⟨e1,ho1⟩:∃e1,(s.heap.update a (eS λ_=>(#[]:aE aj))).get? a=af (dh "list" #[] e1):=⟨_,get?_update_seq ho (λ_=>#[])⟩
 refine au (uo ho1 rfl ?_);refine au (wpAny_newTuple ?_ (by show vs.length<=_;exact hn));refine au (zD ?_ (eL _));refine gh ?_;have ho6:(((s.heap.update a (eS λ_=>(#[]:aE aj))).push (dh "tuple" vs.toArray 0)).push (dh "list" #[] 0)).get? a=af (dh "list" #[] e1):=by
  rw[zI _ _ _ (by rw[size_push',uq];exact cu (gw ha)),zI _ _ _ (by rw[uq];exact cu ha)];exact ho1
 show ϑ (aw prog w) A _ P E {s with heap:=((s.heap.update a (eS λ_=>(#[]:aE aj))).push (dh "tuple" vs.toArray 0)).push (dh "list" #[] 0)};dsimp only;have hsz:vs.toArray.size=vs.length:=by simp
 by_cases h2:vs.toArray.size<2
 ·rw[ar h2,ar h2];refine au (aS ?_);rw[StateT.run_pure];refine au (aS ?_);dsimp only;refine au (uo ho6 rfl ?_);refine au (um ho6 rfl ?_ (eL _) (hsz2:=by rw[ox];show(eI vs).size<=_;rw[pairsOf_size];exact zS hn));simp only[z5,hG,cK];exact aS (h1 (by lia))
 ·rw[aq h2,aq h2];obtain⟨κ,rk,hkk,hL,fin⟩:=hk (by lia);refine au (hkk _ ?_);have est:kas_st κ (eI vs) (List.toArray (bn vs.length))=SortSt.mk' κ (vs.toArray.zip vs.toArray) #[] 7 am:=by
   unfold kas_st;rw[show vs.length=(eI vs).size from (pairsOf_size vs).symm,kas_range];rfl
  have kr:=kas_runs (E:=E) (it:=eI vs) (Q:=λ_ st' s'=>s'={s with heap:=((s.heap.update a (eS λ_=>(#[]:aE aj))).push (dh "tuple" vs.toArray 0)).push (dh "list" #[] 0)}/\failedOf st'=am/\∃p,(Okp vs.length p/\Up rk p vs.length)/\arrOf st'=p.map (kas_item (eI vs))) (by lia) h64 (λp' st' s' _ ha hf hg=>⟨hg.1,hf,p',hg.2,ha⟩) (aG3 hL (aHp (by lia)));rw[est] at kr;refine au (eB kr ?_ λ_ _ e=>e);rintro⟨⟨⟩,st'⟩ s' ⟨rfl,hf,p,⟨ok,up⟩,ha⟩;dsimp only;refine au (uo ho6 rfl ?_);refine au (um ho6 rfl ?_ (eL _) (hsz2:=by rw[ha,ox,ox,ok.size];exact zS hn));rw[hf];simp only[z5,hG,cK];rw[ha];exact aS (fin p ok up)
noncomputable def aHv(h:aI)(vs:aa aj):aI:=
 (((h.push (dh "list" vs.toArray 0)).update h.objs.size (eS λ_=>(#[]:aE aj))).push (dh "tuple" vs.toArray 0)).push (dh "list" #[] 0)
theorem aE4(hb:h.get? b=af o):(aHv h vs).get? b=af o:=by
 have hlt:b<h.objs.size:=bw hb;unfold aHv;refine b6 _ (b6 _ ?_);rw[Aa _ _ _ _ (cu hlt)];exact b6 _ hb
noncomputable def aKy(h:aI)(vs:aa aj)(out:aE aj):aI:=ul (h.push (dh "list" vs.toArray 0)) h.objs.size vs out
theorem aE5(hb:h.get? b=af o):(aKy h vs out).get? b=af o:=by
 have hlt:b<h.objs.size:=bw hb;unfold aKy;rw[sortedHeap_old (cu hlt) (by rw[size_push'];exact gw hlt)];exact b6 _ hb
theorem aHw(h:aI)(vs:aa aj)(out:aE aj):∃e,(aKy h vs out).get? h.objs.size=af (dh "list" out e):=sortedHeap_at (c8 _ rfl)
theorem WW(h64:vs.length<64)(hn:vs.length<=bb)
 (hcol:∀(Q':aa aj->ao->Prop) (E':aj->ao->Prop),(∀h1 tk,(∀b o,s.heap.get? b=af o->h1.get? b=af o)->s.heap.objs.size<=h1.objs.size->Q' vs {s with heap:=h1,toks:=tk})->ϑ (aw prog w) A.in1 (mi v) Q' E' s)
 (hk:∀h1 tk,(∀b o,s.heap.get? b=af o->h1.get? b=af o)->s.heap.objs.size<=h1.objs.size->2<=vs.length->∃(κ:lb) (rk:ah->ah),
   (∀Q:lb->ao->Prop,Q κ {s with heap:=aHv h1 vs,toks:=tk}->ϑ (aw prog w) A.in1.in1 (uj vs.toArray) Q (λ_ _=>cg) {s with heap:=aHv h1 vs,toks:=tk})/\
   (∀i j,i<vs.length->j<vs.length->∀C:ap->ao->Prop,C (ϒ (rk i<rk j)) {s with heap:=aHv h1 vs,toks:=tk}->kas_cmp prog w A.in1.in1 κ (eI vs) i j C {s with heap:=aHv h1 vs,toks:=tk})/\
   ∀p:aE ah,Okp vs.length p->Up rk p vs.length->Q (.ref h1.objs.size) {s with heap:=aKy h1 vs ((p.map (kas_item (eI vs))).map (·.2)),toks:=tk})
 (h1:∀h1 tk,(∀b o,s.heap.get? b=af o->h1.get? b=af o)->s.heap.objs.size<=h1.objs.size->vs.length<2->Q (.ref h1.objs.size) {s with heap:=aKy h1 vs ((eI vs).map (·.2)),toks:=tk}) :
  ϑ (aw prog w) A (call (.builtin "sorted") [v]) Q E s:=by
 refine Calls.call_function_entry kind_sorted plain_sorted entry_sorted (args_sorted1 _) ?_;unfold dt.«sorted»;refine au (aS ?_);refine au (hcol _ _ λhh tk kp hle=>?_);refine au (zD ?_ hn);have hoL:(hh.push (dh "list" vs.toArray 0)).get? hh.objs.size=af (dh "list" vs.toArray 0):=c8 _ rfl;show ϑ _ _ _ _ _ {s with heap:=hh.push (dh "list" vs.toArray 0),toks:=tk};refine au (gh (lT slot_list_sort ⟨_,hoL,rfl⟩ entry_list_sort ?body (args_list_sort _)))
 case body=>
  refine eB (FQ h64 (E:=λ_ _=>cg) (P:=λf s'=>∃v,f=.done (.ret v)/\v=jf/\Q (.ref hh.objs.size) s') hoL hn (λh2=>?_) (λh2=>⟨_,rfl,rfl,h1 hh tk kp hle h2⟩)) (λf s' h=>?_) λ_ _ z=>fi z
  ·obtain⟨κ,rk,hkk,hL,fin⟩:=hk hh tk kp hle h2;exact⟨κ,rk,hkk,hL,λp ok up=>⟨_,rfl,rfl,fin p ok up⟩⟩
  ·obtain⟨v,rfl,rfl,q⟩:=h;exact⟨_,rfl,aS ⟨_,rfl,q⟩⟩
end TS
namespace Mi
open PySem L2 PySem.SeqAt
open PyProof.Rows (Keyed lt' keyLt' oneLt' SortKind SortSt kindOf tuples' oneType' pairsOf wpS wpS_bind wpS_pure wpS_get wpS_lift keyKind')
section
variable [KFrag]
def lF(H:Hp)(u:aj):D:=by
 classical
 exact if h:∃d,d.plain=ag/\d.eO aM=ag/\∃v,RelV v u/\Rep All H v d then Ab h else .non
theorem vO{X:Cx}{Ψ:aa (ak×ba)}{σ:L2.St}{s:ao}(hK:KFrag.K=X.K)(I:Inv X Ψ σ H s)(hp:d.plain=ag)(hq:d.eO aM=ag)(rv:RelV v u)(r:Rep All H v d):lF H u=d:=by
 unfold lF;have h:∃d,d.plain=ag/\d.eO aM=ag/\∃v,RelV v u/\Rep All H v d:=⟨d,hp,hq,v,rv,r⟩
 rw[mj h];obtain⟨h1,h2,v',rv',r'⟩:=Ac h;have:=rv'.inj rv;subst this;exact Rep.inj I hK aM h2 hq r' r
theorem fO(h:bB ds=ag)(ha:a∈ds):a.plain=ag/\a.eO aM=ag/\fC a≠0/\fC a=fC (ds.headD .non)/\∀b∈ds,∃k,iM .lt a b=af k:=by
 unfold bB at h;rw[bc] at h;have:=dm.mp h.2 a ha;simp only[bc,bne_iff_ne,kb] at this;obtain⟨⟨⟨⟨h1,h2⟩,h3⟩,h4⟩,h5⟩:=this;refine⟨h1,h2,h3,h4,λb hb=>sF.mp (dm.mp h5 b hb)⟩
theorem aMa(h:bB ds=ag)(ha:a∈ds)(hb:b∈ds):iM .lt a b=af (ϒ (enc a<enc b)):=by
 obtain⟨p1,_,_,_,q⟩:=fO h ha;obtain⟨p2,_⟩:=fO h hb;obtain⟨k,hk⟩:=q b hb;rw[hk,wQ a b k p1 p2 hk]
def sU(H:Hp)(ds:aa D)(k:iu):Prop:=∃v d,RelV v k.1/\Rep All H v d/\d∈ds
def sLt(H:Hp)(x y:iu):ap:=ϒ (enc (lF H x.1)<enc (lF H y.1))
section
variable {X:Cx} {Ψ:aa (ak×ba)} {σ:L2.St} {H:Hp} {s:ao}
open PySem.W in
theorem FZ:∀(vs ws:aa aj)(xs ys:aa D)(i:ah),(b&&i==0)=ai->C2 .lt A s vs ws xs ys->cU .lt xs ys=af k->xs.length+n2=ys.length+n1->Q k s->
  KatLex prog w A b (ϒ (n1<n2)) Q (vs.zip ws) i s
 |[],ws,xs,ys,i,_,hC,hk,hf,q=>by
  have:xs=[]:=oy hC.1.symm;subst this;rw[zq];rw[cU] at hk;have e:k=ϒ (n1<n2):=by
   rw[<-cr hk];simp only[fX.nat,dS] at hf ⊢
   congr 1
   simp only[eq_iff_iff];lia
  rw[<-e];exact q
 |v::vs,[],xs,ys,i,_,hC,hk,hf,q=>by
  have:ys=[]:=oy hC.2.1.symm;subst this;rw[zr];cases xs with
  |nil=>exact az hC.1 (by simp)
  |cons x xs=>
   rw[cU] at hk;have e:k=ϒ (n1<n2):=by
    rw[<-cr hk];simp only[fX.nat,dS,b9] at hf ⊢
    congr 1
    simp only[eq_iff_iff];lia
   rw[<-e];exact q
 |v::vs,w'::ws,[],ys,i,_,hC,hk,hf,q=>az hC.1 (by simp)
 |v::vs,w'::ws,x::xs,[],i,_,hC,hk,hf,q=>az hC.2.1 (by simp)
 |v::vs,w'::ws,x::xs,y::ys,i,hi,hC,hk,hf,q=>by
  rw[ov];obtain⟨he,hlt⟩:=hC.2.2 0 _ _ _ _ rfl rfl rfl rfl;rw[cU] at hk;refine kat_cons (he prog w _ _ ?_);cases e:eqD x y with
  |true=>
   rw[e,ar rfl] at hk;exact kat_yes (FZ vs ws xs ys (i+1) (by simp) hC.tail hk (by simp only[b9] at hf;lia) q)
  |false=>
   rw[e,aq (by simp)] at hk;refine kat_no ?_;rw[hi];exact kat_one _ _ (hlt e k hk prog w _ _ q)
theorem aMb{X:Cx}(hK:KFrag.K=X.K)(I:Inv X Ψ σ H s)(hu:A.units+n<bm)(ha:μ n ds=ag)(hb:μ n es=ag)(r1:bQ All H xs ds)(r2:bQ All H ys es)(vr1:Vals xs its1)(vr2:Vals ys its2) :
  C2 .lt A s its1 its2 ds es:=by
 refine⟨by rw[<-vr1.length,r1.length],by rw[<-vr2.length,r2.length],λj v w x y a1 a2 a3 a4=>?_⟩;obtain⟨v1,w1,rr1⟩:=r1.get a3;obtain⟨v2,w2,rr2⟩:=r2.get a4;obtain⟨u1,k1,l1⟩:=vr1.get w1;obtain⟨u2,k2,l2⟩:=vr2.get w2;rw[a1] at k1;cases k1;rw[a2] at k2;cases k2;have g1:x.eO n=ag:=by
  have:=jA ha (c9.mp a3).1;rwa [cy,a3] at this
 have g2:y.eO n=ag:=by
  have:=jA hb (c9.mp a4).1;rwa [cy,a4] at this
 exact⟨(J_ hK I n A hu g1 g2 rr1 rr2 l1 l2).2.2,λ_ k hk=>QH hK I .lt n A hu g1 g2 rr1 rr2 l1 l2 hk⟩
theorem kind_le(d:D):fC d<=6:=by
 unfold fC;split<;>lia
theorem aHx(h:fC d=1):∃i,d=.int i:=by
 unfold fC at h;split at h<;>first|lia|exact⟨_,rfl⟩
theorem aHy(h:fC d=2):∃i,d=.str i:=by
 unfold fC at h;split at h<;>first|lia|exact⟨_,rfl⟩
theorem aE6(h:fC d=3):∃i r,d=.tup (.int i::r):=by
 unfold fC at h;split at h<;>first|lia|exact⟨_,_,rfl⟩
theorem aE7(h:fC d=4):∃i r,d=.tup (.str i::r):=by
 unfold fC at h;split at h<;>first|lia|exact⟨_,_,rfl⟩
theorem aMc(h:fC d=5):∃i r,d=.tup (.tup i::r):=by
 unfold fC at h;split at h<;>first|lia|exact⟨_,_,rfl⟩
theorem aE8(h:fC d=6):∃i r,d=.tup (.scr i::r):=by
 unfold fC at h;split at h<;>first|lia|exact⟨_,_,rfl⟩
theorem TJ(r:bQ All H xs ds)(vr:Vals xs its)(hu:u∈its):∃v d,RelV v u/\Rep All H v d/\d∈ds:=by
 obtain⟨j,hj,e⟩:=ur hu;have hj':j<ds.length:=by rw[<-r.length,vr.length];exact hj
 obtain⟨v,h1,h2⟩:=r.get (i:=j) (d:=ds[j]) (by simp[hj']);obtain⟨u',h3,h4⟩:=vr.get h1;rw[cn hj,e] at h3;cases h3;exact⟨v,_,h4,h2,fq _⟩
open PySem.W in
theorem wV(I:Inv X Ψ σ H s){F:D->Prop}(hF:∀(d:D) (v:V) (u:aj),F d->RelV v u->Rep All H v d->oz (aw X.prog X.w) s.heap (ju u) T) :
  ∀{xs:aa V}{ds:aa D}{its:aa aj},bQ All H xs ds->Vals xs its->(∀d∈ds,∃f r,d=.tup (f::r)/\F f)->∃fs,KatTups s.heap its fs/\fs.length=its.length/\∀f∈fs,oz (aw X.prog X.w) s.heap (ju f) T
 |_,_,_,.nil,.nil,_=>⟨[],.nil,rfl,λ_ h=>by simp at h⟩
 |_,_,_,.cons r t,.cons v vt,h=>by
  obtain⟨fs,h1,h2,h3⟩:=wV I hF t vt λd hd=>h d (bf _ hd)
  obtain⟨f,rr,rfl,hf⟩:=h _ (bh ..);obtain⟨a,ys,rfl,e,rs⟩:=r.g_;cases v;obtain⟨its2,vr2,o,ho,hc,n,hd⟩:=iB I e;cases rs with
  |cons r0 rs=>
   cases vr2 with
   |cons v0 vr2=>
    refine⟨_::fs,.cons ho hc hd rfl h1,by simp[h2],λg hg=>?_⟩;rcases bd.mp hg with rfl|hg
    ·exact hF _ _ _ hf v0 r0
    ·exact h3 g hg
theorem WX{X:Cx}{s:ao}{E:aj->ao->Prop}(hl:s.heap.IsList l items)(hb:s.heap.IsList b items2)(hC:C2 .lt A.in1 s items.toList items2.toList xs ys)(hr:cU .lt xs ys=af res)(hu:A.units<bm){Q:ap->ao->Prop}(q:Q res s):ϑ (aw X.prog X.w) A (oneLt' ag (.ref l) (.ref b)) Q E s:=by
 obtain⟨⟨cls,dd,data,sl⟩,ho,hc,n,hd⟩:=id hl;obtain⟨⟨cls2,dd2,lS,sl2⟩,ho2,hc2,n2,hd2⟩:=id hb;simp only at hc hd hc2 hd2;subst hc hd hc2 hd2;have M:=A_ .lt l b items items2 n n2 dd dd2 sl sl2 xs ys res hr;rw[B0];simp only[cx];refine au (wpAny_cRoomFor hu ?_);refine au (wpAny_callSpecialIfBound?_slot ⟨_,ho,rfl⟩ uh (ik uh ⟨_,ho,rfl⟩ zx (zy _ _) M ⟨ho,ho2,hC,?_⟩));exact jh q
open PySem.W in
theorem aA4{X:Cx}(hK:KFrag.K=X.K)(I:Inv X Ψ σ H s)(hu:A.units+aM<bm)(hc:bB ds=ag)(r:bQ All H xs ds)(vr:Vals xs its)(h2:2<=its.length) :
  ∃κ:lb,(∀Q:lb->ao->Prop,Q κ s->ϑ (aw X.prog X.w) A (uj its.toArray) Q (λ_ _=>cg) s)/\
   ∀(x y:iu)(Q:ap->ao->Prop),sU H ds x->sU H ds y->Q (sLt H x y) s->ϑ (aw X.prog X.w) A (keyLt' κ x.1 y.1) Q (λ_ _=>cg) s:=by
 have hlen:ds.length=its.length:=by rw[<-r.length,vr.length]
 have hkind:∀d∈ds,fC d=fC (ds.headD .non):=λd hd=>(fO hc hd).2.2.2.1
 have hne:fC (ds.headD .non)≠0:=by
  have hd:ds.headD .non∈ds:=by
   cases ds with
   |nil=>simp at hlen;lia
   |cons d ds=>simp
  exact(fO hc hd).2.2.1
 have lty:∀{x y:iu}{v v':V}{d d':D},RelV v x.1->Rep All H v d->d∈ds->RelV v' y.1->Rep All H v' d'->d'∈ds->iM .lt d d'=af (sLt H x y):=λ{x y v v' d d'} rv rp hd rv' rp' hd'=>by
  have e1:=vO hK I (fO hc hd).1 (fO hc hd).2.1 rv rp;have e2:=vO hK I (fO hc hd').1 (fO hc hd').2.1 rv' rp';rw[aMa hc hd hd'];unfold sLt;rw[e1,e2]
 -- two tuples whose first items are told by a rule of their own,or by the common one
 have tupl:∀(b:ap)(x y:iu)(Q:ap->ao->Prop),sU H ds x->sU H ds y->(∀d∈ds,∃f r,d=.tup (f::r))->
   (b=ag->∀(f g:D)(v v':V)(u u':aj)(k:ap)(Q:ap->ao->Prop),(∃r,ω (f::r)∈ds)->(∃r,ω (g::r)∈ds)->RelV v u->Rep All H v f->RelV v' u'->Rep All H v' g->iM .lt f g=af k->Q k s->ϑ (aw X.prog X.w) A (oneLt' ag u u') Q (λ_ _=>cg) s)->
   Q (sLt H x y) s->ϑ (aw X.prog X.w) A (keyLt' (mr b) x.1 y.1) Q (λ_ _=>cg) s:=by
  rintro b ⟨x1,x2⟩ ⟨y1,y2⟩ Q ⟨v,d,rv,rp,hd⟩ ⟨v',d',rv',rp',hd'⟩ htup hone q;have hk:=lty rv rp hd rv' rp' hd';have q1:=(fO hc hd).2.1;have q2:=(fO hc hd').2.1;obtain⟨f,rr,rfl⟩:=htup d hd;obtain⟨g,rr',rfl⟩:=htup d' hd';obtain⟨a,ys,rfl,e,rs⟩:=rp.g_;obtain⟨a',ys',rfl,e',rs'⟩:=rp'.g_;cases rv;cases rv';obtain⟨i1,vr1,o1,ho1,hc1,n1,hd1⟩:=iB I e;obtain⟨i2,vr2,o2,ho2,hc2,n2,hd2⟩:=iB I e';rw[iM] at hk;have q1':μ 11 (f::rr)=ag:=q1;have q2':μ 11 (g::rr')=ag:=q2;have hu':A.units+11<bm:=by have:A.units+12<bm:=hu;lia
  have C:=aMb hK I hu' q1' q2' rs rs' vr1 vr2;refine kat_lt ho1 hd1 ho2 hd2 ?_;have z1:i1.toArray.size=(f::rr).length:=by rw[bX,<-vr1.length,rs.length]
  have z2:i2.toArray.size=(g::rr').length:=by rw[bX,<-vr2.length,rs'.length]
  rw[ka,ka,z1,z2];cases b with
  |false=>exact FZ i1 i2 (f::rr) (g::rr') 0 rfl C hk (by lia) q
  |true=>
   cases rs with
   |cons r0 rs=>
    cases rs' with
    |cons r0' rs'=>
     cases vr1 with
     |cons v0 vr1=>
      cases vr2 with
      |cons v0' vr2=>
       rw[ov];obtain⟨he,_⟩:=C.2.2 0 _ _ _ _ rfl rfl rfl rfl;rw[cU] at hk;refine kat_cons (he X.prog X.w _ _ ?_);cases e0:eqD f g with
       |true=>
        rw[e0,ar rfl] at hk;exact kat_yes (FZ _ _ rr rr' 1 (by simp) C.tail hk (by simp only[b9];lia) q)
       |false=>
        rw[e0,aq (by simp)] at hk;refine kat_no ?_;exact hone rfl f g _ _ _ _ _ Q ⟨_,hd⟩ ⟨_,hd'⟩ v0 r0 v0' r0' hk q
 have h5:=kind_le (ds.headD .non);have cases5:fC (ds.headD .non)=1\/fC (ds.headD .non)=2\/fC (ds.headD .non)=3\/fC (ds.headD .non)=4\/fC (ds.headD .non)=5\/fC (ds.headD .non)=6:=by lia
 rcases cases5 with c|c|c|c|c|c
 ·refine⟨oneType',λQ q=>kas_kind (T:=.type "int") h2 (λu hm=>?_) (by decide) (by decide) q,λx y Q hx hy q=>?_⟩
  ·obtain⟨v,d,rv,rp,hd⟩:=TJ r vr hm;obtain⟨i,rfl⟩:=aHx ((hkind d hd).trans c);cases rp.inv;obtain⟨t,rfl⟩:=rv;exact oB rfl
  ·obtain⟨v,d,rv,rp,hd⟩:=hx;obtain⟨v',d',rv',rp',hd'⟩:=hy;have hk:=lty rv rp hd rv' rp' hd';obtain⟨i,rfl⟩:=aHx ((hkind d hd).trans c);obtain⟨j,rfl⟩:=aHx ((hkind d' hd').trans c);cases rp.inv;cases rp'.inv;obtain⟨t,e1⟩:=rv;obtain⟨t',e2⟩:=rv';rw[iM] at hk;rw[<-cr hk] at q;rw[e1,e2,Ad];exact Ae q
 ·refine⟨oneType',λQ q=>kas_kind (T:=.type "str") h2 (λu hm=>?_) (by decide) (by decide) q,λx y Q hx hy q=>?_⟩
  ·obtain⟨v,d,rv,rp,hd⟩:=TJ r vr hm;obtain⟨i,rfl⟩:=aHy ((hkind d hd).trans c);cases rp.inv;obtain⟨t,rfl⟩:=rv;exact oB rfl
  ·obtain⟨v,d,rv,rp,hd⟩:=hx;obtain⟨v',d',rv',rp',hd'⟩:=hy;have hk:=lty rv rp hd rv' rp' hd';obtain⟨i,rfl⟩:=aHy ((hkind d hd).trans c);obtain⟨j,rfl⟩:=aHy ((hkind d' hd').trans c);cases rp.inv;cases rp'.inv;obtain⟨t,e1⟩:=rv;obtain⟨t',e2⟩:=rv';rw[iM] at hk;rw[<-cr hk] at q;rw[e1,e2,Ad];exact Af q
 ·obtain⟨fs,t1,t2,t3⟩:=wV I (T:=.type "int") (F:=λf=>∃i,f=.int i) (λd v u hf rv rp=>by
   obtain⟨i,rfl⟩:=hf;cases rp.inv;obtain⟨t,rfl⟩:=rv;exact oB rfl) r vr (λd hd=>by
   obtain⟨i,rr,rfl⟩:=aE6 ((hkind d hd).trans c);exact⟨_,_,rfl,i,rfl⟩)
  refine⟨mr ag,λQ q=>oD (T:=.type "int") t1 (by lia) t3 (by decide) q,λx y Q hx hy q=>tupl ag x y Q hx hy (λd hd=>?_) (λ_ f g v v' u u' k Q hf hg rv rp rv' rp' hk q=>?_) q⟩
  ·obtain⟨i,rr,rfl⟩:=aE6 ((hkind d hd).trans c);exact⟨_,_,rfl⟩
  ·obtain⟨r1,hf⟩:=hf;obtain⟨r2,hg⟩:=hg;obtain⟨i,rr,e1⟩:=aE6 ((hkind _ hf).trans c);obtain⟨j,rr',e2⟩:=aE6 ((hkind _ hg).trans c);cases e1;cases e2;cases rp.inv;cases rp'.inv;obtain⟨t,rfl⟩:=rv;obtain⟨t',rfl⟩:=rv';rw[iM] at hk;rw[<-cr hk] at q;exact Ae q
 ·obtain⟨fs,t1,t2,t3⟩:=wV I (T:=.type "str") (F:=λf=>∃i,f=.str i) (λd v u hf rv rp=>by
   obtain⟨i,rfl⟩:=hf;cases rp.inv;obtain⟨t,rfl⟩:=rv;exact oB rfl) r vr (λd hd=>by
   obtain⟨i,rr,rfl⟩:=aE7 ((hkind d hd).trans c);exact⟨_,_,rfl,i,rfl⟩)
  refine⟨mr ag,λQ q=>oD (T:=.type "str") t1 (by lia) t3 (by decide) q,λx y Q hx hy q=>tupl ag x y Q hx hy (λd hd=>?_) (λ_ f g v v' u u' k Q hf hg rv rp rv' rp' hk q=>?_) q⟩
  ·obtain⟨i,rr,rfl⟩:=aE7 ((hkind d hd).trans c);exact⟨_,_,rfl⟩
  ·obtain⟨r1,hf⟩:=hf;obtain⟨r2,hg⟩:=hg;obtain⟨i,rr,e1⟩:=aE7 ((hkind _ hf).trans c);obtain⟨j,rr',e2⟩:=aE7 ((hkind _ hg).trans c);cases e1;cases e2;cases rp.inv;cases rp'.inv;obtain⟨t,rfl⟩:=rv;obtain⟨t',rfl⟩:=rv';rw[iM] at hk;rw[<-cr hk] at q;exact Af q
 ·obtain⟨fs,t1,t2,t3⟩:=wV I (T:=.type "tuple") (F:=λf=>∃i,f=.tup i) (λd v u hf rv rp=>by
   obtain⟨i,rfl⟩:=hf;obtain⟨a,ys,rfl,e,rs⟩:=rp.g_;cases rv;obtain⟨i1,vr1,o1,ho1,hc1,n1,hd1⟩:=iB I e;have:=(show oz (aw X.prog X.w) s.heap (ju (.ref a)) o1.cls from (Ag ho1).andThen .now)
   rwa [hc1] at this) r vr (λd hd=>by
   obtain⟨i,rr,rfl⟩:=aMc ((hkind d hd).trans c);exact⟨_,_,rfl,i,rfl⟩)
  refine⟨mr ai,λQ q=>oD (T:=.type "tuple") t1 (by lia) t3 (by decide) q,λx y Q hx hy q=>tupl ai x y Q hx hy (λd hd=>?_) (λh=>by cases h) q⟩;obtain⟨i,rr,rfl⟩:=aMc ((hkind d hd).trans c);exact⟨_,_,rfl⟩
 ·obtain⟨fs,t1,t2,t3⟩:=wV I (T:=.type "list") (F:=λf=>∃i,f=.scr i) (λd v u hf rv rp=>by
   obtain⟨i,rfl⟩:=hf;obtain⟨a,ys,rfl,e,rs⟩:=kE hK rp;cases rv;obtain⟨i1,vr1,o1,ho1,hc1,n1,hd1⟩:=dW I e;have:=(show oz (aw X.prog X.w) s.heap (ju (.ref a)) o1.cls from (Ag ho1).andThen .now)
   rwa [hc1] at this) r vr (λd hd=>by
   obtain⟨i,rr,rfl⟩:=aE8 ((hkind d hd).trans c);exact⟨_,_,rfl,i,rfl⟩)
  refine⟨mr ag,λQ q=>oD (T:=.type "list") t1 (by lia) t3 (by decide) q,λx y Q hx hy q=>tupl ag x y Q hx hy (λd hd=>?_) (λ_ f g v v' u u' k Q hf hg rv rp rv' rp' hk q=>?_) q⟩
  ·obtain⟨i,rr,rfl⟩:=aE8 ((hkind d hd).trans c);exact⟨_,_,rfl⟩
  ·obtain⟨r1,hf⟩:=hf;obtain⟨r2,hg⟩:=hg;have q1:μ 11 (f::r1)=ag:=(fO hc hf).2.1;have q2:μ 11 (g::r2)=ag:=(fO hc hg).2.1;obtain⟨i,rr,e1⟩:=aE8 ((hkind _ hf).trans c);obtain⟨j,rr',e2⟩:=aE8 ((hkind _ hg).trans c);cases e1;cases e2;rw[μ,bc] at q1 q2;have p1:μ 10 i=ag:=q1.1;have p2:μ 10 j=ag:=q2.1;obtain⟨p,xs1,rfl,e1,s1⟩:=kE hK rp;cases rv;obtain⟨its1,vr1,h1⟩:=dW I e1;obtain⟨p',ys1,rfl,e2,s2⟩:=kE hK rp';cases rv';obtain⟨its2,vr2,h2'⟩:=dW I e2;have hu12:A.units+12<bm:=hu;rw[iM] at hk;exact WX h1 h2' (by rw[ka,ka];exact aMb hK I (by show A.units+1+10<bm;lia) p1 p2 s1 s2 vr1 vr2) hk (by lia) q
theorem qZ{X:Cx}(hK:KFrag.K=X.K)(I:Inv X Ψ σ H s)(hu:X.A.units+20<bm)(vr:Vals xs its)(hn:its.length<=bb)(r:bQ All H xs ds)(hc:bB ds=ag)
 (hcol:∀(Q':aa aj->ao->Prop) (E':aj->ao->Prop),(∀h1 tk,(∀b o,s.heap.get? b=af o->h1.get? b=af o)->s.heap.objs.size<=h1.objs.size->Q' its {s with heap:=h1,toks:=tk})->ϑ (aw X.prog X.w) X.A.in1 (mi v) Q' E' s)
 (q:∀p xs',H p=am->bQ All H xs' (iR ds)->Q (.ref p) (upd H p (.lst xs'))):ϑ (aw X.prog X.w) X.A (call (.builtin "sorted") [v]) (EP X Ψ σ Q) X.xe s:=by
 have hz:xs.length<=bb:=by rw[vr.length];exact hn
 -- what comes,told by its data
 have fin:∀(h1:aI)(tk:ah),(∀b o,s.heap.get? b=af o->h1.get? b=af o)->s.heap.objs.size<=h1.objs.size->∀arr:aE iu,arr.Perm (eI its)->(∀i j,i<=j->j<arr.size->leE (lF H (TS.gt arr i).1) (lF H (TS.gt arr j).1)=ag)->EP X Ψ σ Q (.ref h1.objs.size) {s with heap:=TS.aKy h1 its (arr.map (·.2)),toks:=tk}:=by
  intro h1' tk kp hle arr hp hs;have hpl:arr.toList.Perm (its.zip its):=by rw[<-B1];exact ut.mp hp
  have hmem:∀p∈arr.toList,p.1=p.2/\p.1∈its:=λp hp'=>B2 (hpl.mem_iff.mp hp')
  have e1:(arr.map (·.2)).toList=arr.toList.map (·.1):=by
   rw[uv];exact cq λp hp'=>(hmem p hp').1.symm
  -- the values and their data
  have all:∀l:aa iu,(∀p∈l,p∈arr.toList)->∃ys,Vals ys (l.map (·.1))/\bQ All H ys (l.map λp=>lF H p.1):=by
   intro l;induction l with
   |nil=>intro _;exact⟨[],.nil,.nil⟩
   |cons p l ih=>
    intro h;obtain⟨ys,h1,h2⟩:=ih λp hp'=>h p (bf _ hp')
    obtain⟨v,d,rv,rp,hd⟩:=TJ r vr (hmem p (h p (bh ..))).2;refine⟨v::ys,.cons rv h1,?_⟩;rw[aT,vO hK I (fO hc hd).1 (fO hc hd).2.1 rv rp];exact .cons rp h2
  obtain⟨ys,h1,h2⟩:=all arr.toList λ_ h=>h
  have dats:its.map (lF H)=ds:=by
   clear all h1 h2 hp hs hpl hmem e1;have:∀{xs:aa V}{es:aa D}{us:aa aj},bQ All H xs es->Vals xs us->(∀d∈es,d∈ds)->us.map (lF H)=es:=by
    intro xs es us r;induction us generalizing xs es with
    |nil=>intro v _;cases v;cases r;rfl
    |cons u us ih=>
     intro v hsub;cases v with
     |cons v0 vt=>
      cases r with
      |cons r0 rt=>
       have hd:=hsub _ (bh ..);rw[aT,ih rt vt λd hd=>hsub d (bf _ hd),vO hK I (fO hc hd).1 (fO hc hd).2.1 v0 r0]
   exact this r vr λ_ h=>h
  have hperm:(arr.toList.map λp=>lF H p.1).Perm ds:=by
   have:=hpl.map λp=>lF H p.1
   have e2:(its.zip its).map (λp=>lF H p.1)=ds:=by
    have:(its.zip its).map (λp=>lF H p.1)=((its.zip its).map mv).map (lF H):=by rw[bu];rfl
    rw[this,Ah (bj _),dats]
   rwa [e2] at this
  have hsorted:(arr.toList.map λp=>lF H p.1).Pairwise λa b=>leE a b=ag:=by
   rw[cz,ux];intro i j hi hj hij;have:=hs i j (kl hij) (by simpa using hj);have g:∀k (hk:k<arr.toList.length),TS.gt arr k=arr.toList[k]:=λk hk=>by
    unfold TS.gt;have hk':k<arr.size:=by simpa using hk
    simp[k7,hk']
   rwa [g i hi,g j hj] at this
  have eq:(arr.toList.map λp=>lF H p.1)=iR ds:=by
   refine nC (λd hd=>?_) (hperm.trans (b_ ds).symm) hsorted (dR ds);exact(fO hc (hperm.mem_iff.mp hd)).1
  rw[eq] at h2;rw[<-e1] at h1;have hfr:H h1'.objs.size=am:=I.hok.fresh hle;obtain⟨ee,he⟩:=TS.aHw h1' its (arr.map (·.2));refine⟨.ref h1'.objs.size,_,I.laid (λb o e=>TS.aE5 (kp b o e)) hle ?_,rfl,q _ ys hfr h2⟩;refine⟨?_,(arr.map (·.2)).toList,ee,h1,by rw[he]⟩;rw[h2.length,(b_ ds).length_eq,<-r.length];exact hz
 have h64:its.length<64:=by
  unfold bB at hc;rw[bc] at hc;rw[<-vr.length,r.length];exact eh hc.1
 refine TS.WW h64 hn hcol (λhh tk kp hle h2=>?_) (λhh tk kp hle h2=>?_)
 ·have I':Inv X Ψ σ H {s with heap:=TS.aHv hh its,toks:=tk}:=I.kept λb o e=>TS.aE4 (kp b o e)
  have hu2:X.A.in1.in1.units+aM<bm:=by show X.A.units+1+1+12<bm;lia
  obtain⟨κ,k1,k2⟩:=aA4 hK I' hu2 hc r vr h2;have it:∀i,mw (eI its) i=(its.getD i .none,its.getD i .none):=PySem.W.kas_item_eq its;obtain⟨rk,hrk⟩:=TS.aHu its.length (λi j=>ϒ (enc (lF H (its.getD i .none))<enc (lF H (its.getD j .none)))) (λi=>by simp[lg]) (λi j k h1 h2=>by
   simp only[eM] at *;exact List.lt_trans h1 h2) (λi j k h=>by
   simp only[eM] at *;by_cases q:enc (lF H (its.getD i .none))<enc (lF H (its.getD j .none))
   ·exact .inl q
   ·exact .inr (ua (jS.mp q) h))
  have mem:∀i,i<its.length->sU H ds (its.getD i .none,its.getD i .none):=λi hi=>by
   rw[cy,cn hi];exact TJ r vr (fq hi)
  refine⟨κ,rk,k1,λi j hi hj C c=>?_,λp ok up=>fin hh tk kp hle _ ?_ λi j a1 a2=>?_⟩
  ·unfold PySem.W.kas_cmp;rw[it,it];rw[hrk i j hi] at c;exact k2 _ _ C (mem i hi) (mem j hj) c
  ·have e:=PySem.W.kas_range (eI its);rw[Ai] at e;have q:=(ut.mp ok).map (mw (eI its));refine ut.mpr ?_;rw[uv];exact q.trans (by rw[<-uv,e])
  ·have sz:(p.map (mw (eI its))).size=its.length:=by rw[ox,ok.size]
   rw[sz] at a2;have g:∀k,k<its.length->TS.gt (p.map (mw (eI its))) k=mw (eI its) (p.getD k 0):=λk hk=>by
    have hk:k<p.size:=by rw[ok.size];exact hk
    unfold TS.gt;simp[k7,hk]
   rw[g i (by lia),g j a2,it,it];have u:=up i j a1 a2;have:=hrk (p.getD j 0) (p.getD i 0) (ok.lt (by lia) j);rw[bP (by exact ui.mpr u)] at this;unfold leE;rw[<-this];rfl
 ·refine fin hh tk kp hle _ (yj _) λi j a1 a2=>?_
  rw[Ai] at a2;rw[show i=j by lia];simp[leE,lg]
theorem WY{X:Cx}(hK:KFrag.K=X.K)(I:Inv X Ψ σ H s)(hu:X.A.units+20<bm)(hl:SqL X.K H l xs)(r:bQ All H xs ds)(hc:bB ds=ag)
 (q:∀p xs',H p=am->bQ All H xs' (iR ds)->Q (.ref p) (upd H p (.lst xs'))):ϑ (aw X.prog X.w) X.A (call (.builtin "sorted") [.ref l]) (EP X Ψ σ Q) X.xe s:=by
 obtain⟨its,vr,pl,hz⟩:=I.list hl;have hn:its.length<=bb:=by rw[<-vr.length];exact hz
 refine qZ hK I hu vr hn r hc (λQ' E' h=>B3 pl.isList (h _ s.toks (λb o e=>?_) ?_) hn) q
 ·rw[Aa _ _ _ _ (cu (bw e))];exact b6 _ e
 ·rw[uq,B4];exact hX _
end
end
open PySem.Spec PyProof.Rows
section
variable [KFrag]
def kR(H:Hp)(d:D)(fr:ap)(Q:VK):Prop:=∀v H',cR H H'->Rep All H' v d->(fr=ag->Rep (New H) H' v d)->Q v H'
noncomputable def gE(f:FE)(fr:ap):TE:=λσ H Q=>∃ρ d,ER H σ ρ/\f ρ=.ok d/\kR H d fr Q
noncomputable def gT(f:FT):TT:=λσ H Q=>∃ρ b,ER H σ ρ/\f ρ=.ok b/\∀H',cR H H'->Q b H'
noncomputable def gA(f:FA)(fr:ap):TA:=λσ H Q=>∃ρ ds,ER H σ ρ/\f ρ=.ok ds/\∀vs H',cR H H'->bQ All H' vs ds->(fr=ag->bQ (New H) H' vs ds)->Q vs H'
theorem kR.self{fr:ap}(q:kR H d fr Q)(r:Rep All H v d)(r2:fr=ag->Rep (New H) H v d):Q v H:=q v H (cR.refl H) r r2
theorem kR.imp{fr fr':ap}(q:kR H d fr Q)(s:cR H H')(h:fr=ag->fr'=ag):kR H' d fr' Q:=λv H2 s2 r n=>q v H2 (s.trans s2) r λhf=>(n (h hf)).mono (cR.new s)
theorem kR.int{fr:ap}{Q:VK}(q:kR H (.int i) fr Q):Q (.int i) H:=q.self (.int i) λ_=>.int i
theorem kR.bl{fr:ap}{Q:VK}(q:kR H (.bl i) fr Q):Q (.bl i) H:=q.self (.bl i) λ_=>.bl i
theorem kR.str{fr:ap}{Q:VK}(q:kR H (.str i) fr Q):Q (.str i) H:=q.self (.str i) λ_=>.str i
theorem kR.non{fr:ap}{Q:VK}(q:kR H .non fr Q):Q .non H:=q.self .non λ_=>.non
noncomputable def r2(f:D->D->Res D)(fr:ap):R2:=λx y H Q=>∃a b d,Rep All H x a/\Rep All H y b/\f a b=.ok d/\kR H d fr Q
def rs(f:aa D->Res D)(fr:ap):aa V->Hp->VK->Prop:=λxs H Q=>∃ds d,bQ All H xs ds/\f ds=.ok d/\kR H d fr Q
def rm(f:D->aa D->Res D)(fr:ap):V->aa V->Hp->VK->Prop:=λx xs H Q=>∃a ds d,Rep All H x a/\bQ All H xs ds/\f a ds=.ok d/\kR H d fr Q
theorem bF{f:α->Res β}(h:(do let x <- m;f x)=.ok b):∃a,m=.ok a/\f a=.ok b:=Res.aHq h
section
variable {X:Cx} {a b e:Expr} {pos:bo} {fa fb fe:FE} {ra rb re:ap} {ga:FT}
theorem ER.var(E:ER H σ ρ)(h:iU i ρ=.ok d):∃v,σ[i]?=af (af v)/\Rep All H v d/\ρ.getD i .uD=d:=by
 have:ρ.getD i .uD=d/\d≠.uD:=by
  unfold iU at h;split at h
  ·exact bx h
  ·cases h;refine⟨rfl,λz=>?_⟩;rename_i q;exact q z
 obtain⟨e1,e2⟩:=this;obtain⟨v,h1,h2⟩:=E i (by rw[e1];exact e2);exact⟨v,h1,by rw[e1] at h2;exact h2,e1⟩
theorem aA(hN:X.N[i]?=af x:=by exact rfl)(hv:Vis X.env.scope x:=by trivial)(hd:nDb x:=by decide)(hcd:nCd x:=by decide):PE X (.Name x pos) (gE (iU i) ai):=
 PE.imp (j9 hN hv hd hcd) λσ H Q z0=>by
  obtain⟨ρ,d,E,h,q⟩:=z0;obtain⟨v,h1,h2,_⟩:=E.var h;exact⟨v,h1,q.self h2 (λz=>by cases z)⟩
theorem aK{i j}:PE X (.Constant (.int i) j pos) (gE (bC (.int i)) ag):=PE.imp aL5 λσ H Q z0=>by obtain⟨ρ,d,E,h,q⟩:=z0;cases h;exact q.int
theorem wW{i j}:PE X (.Constant (.bool i) j pos) (gE (bC (.bl i)) ag):=PE.imp aOp λσ H Q z0=>by obtain⟨ρ,d,E,h,q⟩:=z0;cases h;exact q.bl
theorem aG5{i j}:PE X (.Constant (.str i) j pos) (gE (bC (.str i)) ag):=PE.imp aL7 λσ H Q z0=>by obtain⟨ρ,d,E,h,q⟩:=z0;cases h;exact q.str
theorem BJ{j}:PE X (.Constant .none j pos) (gE (bC .non) ag):=PE.imp aL6 λσ H Q z0=>by obtain⟨ρ,d,E,h,q⟩:=z0;cases h;exact q.non
theorem two{fr:ap}{σ:L2.St}{H:Hp}{Q:VK}(h:gE (b2 f fa fb) fr σ H Q):tOp (r2 f fr) (gE fa ra) (gE fb rb) σ H Q:=by
 obtain⟨ρ,d,E,h,q⟩:=h;obtain⟨x,h1,h⟩:=bF h;obtain⟨y,h2,h⟩:=bF h;refine⟨ρ,x,E,h1,λv H1 s1 rp1 _=>⟨ρ,y,E.same s1,h2,λu H2 s2 rp2 _=>⟨x,y,d,rp1.same s2,rp2,h,q.imp (s1.trans s2) id⟩⟩⟩
theorem bV{o:Operator}{f:D->D->Res D}{fr:ap}(ho:OpR X (eg o) (r2 f fr))(ha:PE X a (gE fa ra))(hb:PE X b (gE fb rb)):PE X (.BinOp a o b pos) (gE (b2 f fa fb) fr):=PE.imp (aOx ho ha hb) λ_ _ _=>two
theorem BK{o:gv}{f:D->D->Res D}{fr:ap}(ho:OpR X (dg o) (r2 f fr))(ha:PE X a (gE fa ra))(hb:PE X b (gE fb rb))(hm:ky o b=ai):PE X (.Compare a [o] [b] pos) (gE (b2 f fa fb) fr):=PE.imp (aHa ho ha hb hm) λ_ _ _=>two
theorem cY{o:gv}{f:D->D->Res D}{fr:ap}(ho:OpR X (dg o) (r2 f fr))(ha:PE X a (gE fa ra))(hb:PE X b (gE fb rb))(hm:ky o b=ai):PT X (.Compare a [o] [b] pos) (gT (bTB (b2 f fa fb))):=
 PT.imp (aHb ho ha hb hm) λσ H Q z0=>by
  obtain⟨ρ,k,E,h,q⟩:=z0;obtain⟨d,h1,h2⟩:=bF h;refine two ⟨ρ,d,E,h1,λv H' s r _=>?_⟩;cases d<;>simp only[asB] at h2<;>cases h2
  cases r.inv;exact⟨_,rfl,q H' s⟩
theorem aPb{f:D->D->Res D}{fr:ap}(ho:IxR X (r2 f fr))(ha:PE X a (gE fa ra))(hb:PE X b (gE fb rb))(hs:tX b):PE X (.Subscript a b pos) (gE (b2 f fa fb) fr):=PE.imp (aHj ho ha hb hs) λ_ _ _=>two
theorem aRg(r:Rep All H v d)(h:aQh d=.ok k)(hd:∀kvs,d≠.dct kvs)(hs:∀xs,d≠.scr xs):aP0 X.K v H k:=by
 cases r with
 |non=>cases h;rfl
 |bl b=>cases h;rfl
 |int i=>cases h;rfl
 |str x=>
  replace h:(if ϒ (x.length<=lim) then ε ((x.length:ae)!=0) else .bad)=.ok k:=h;split at h
  ·rename_i hl;cases h;exact⟨c6 (eh hl) (by rw[eC];decide),rfl⟩
  ·exact bx h
 |tup e rr=>cases h;exact .inr (.inl ⟨_,.of e,by cases rr<;>rfl⟩)
 |lst e p rr=>cases h;exact .inl ⟨_,.of e,by cases rr<;>rfl⟩
 |frz e rr=>exact az rfl (hs _)
 |dK e p rr n=>exact az rfl (hd _)
 |dT e p rr n=>exact az rfl (hd _)
 |fdK e rr n=>exact bx h
 |fdT e rr n=>exact bx h
 |exc n e q=>exact bx h
 |ins n e q=>exact bx h
 |adr=>exact bx h
 |dlK _ _ _ _=>exact bx h
 |dlT _ _ _ _=>exact bx h
 |cel e p rr=>exact bx h
theorem p_(ha:PE X a (gE fa ra))(he:∀whole,nu a X.env whole=(do let v <- whole;standAt a.pos;sB [v] (truthy v)):=by intro _;rfl):PT X a (gT (bTr fa)):=
 PT.imp (aDs ha he) λσ H Q z0=>by
  obtain⟨ρ,k,E,h,q⟩:=z0;obtain⟨d,h1,h2⟩:=bF h;refine⟨ρ,d,E,h1,λv H' s r _=>⟨k,aRg r ?_ ?_ ?_,q H' s⟩⟩
  ·cases d<;>first|exact h2|exact bx h2
  ·rintro kvs rfl;exact bx h2
  ·rintro kvs rfl;exact bx h2
theorem wX(ha:PT X a (gT ga)):PT X (.UnaryOp .Not a pos) (gT (WP ga)):=PT.imp (aLa ha) λσ H Q z0=>by
  obtain⟨ρ,k,E,h,q⟩:=z0;obtain⟨d,h1,h2⟩:=bF h;cases h2;exact⟨ρ,d,E,h1,λH' s=>q H' s⟩
theorem aMd{op}(ha:PE X a (gE fa ra)):PE X (.BoolOp op [a] pos) (gE fa ra):=aLb ha
theorem aG6(h:asB d=.ok k):d=.bl k:=by cases d<;>simp only[asB] at h<;>cases h;rfl
theorem aMe(h:asI d=.ok k):d=.int k:=by cases d<;>simp only[asI] at h<;>cases h;rfl
theorem aMf(ha:PE X a (gE fa ra)):PE X (.UnaryOp .Not a pos) (gE (aM8 fa) ag):=PE.imp (aLd ha) λσ H Q z0=>by
  obtain⟨ρ,k,E,h,q⟩:=z0;obtain⟨d,h1,h⟩:=bF h;obtain⟨z,h2,h⟩:=bF h;cases h;cases aG6 h2;exact⟨ρ,_,E,h1,λv H' s r _=>by cases r.inv;exact⟨_,rfl,(q.imp s id).bl⟩⟩
theorem aMg{rest:aa Expr}(ha:PE X a (gE fa ra))(hb:PE X (.BoolOp .And (b::rest) pos) (gE fb rb)):PE X (.BoolOp .And (a::b::rest) pos) (gE (aM9 fa fb) rb):=PE.imp (aLc ha hb) λσ H Q z0=>by
  obtain⟨ρ,k,E,h,q⟩:=z0;obtain⟨d,h1,h⟩:=bF h;obtain⟨z,h2,h3⟩:=bF h;cases aG6 h2;refine⟨ρ,_,E,h1,λv H' s r _=>?_⟩;cases r.inv;refine⟨_,rfl,?_⟩;cases z with
  |true=>rw[ar rfl];rw[ar rfl] at h3;exact⟨ρ,k,E.same s,h3,q.imp s id⟩
  |false=>rw[aq (by simp)];rw[aq (by simp)] at h3;cases h3;exact(q.imp s id).bl
theorem aG:PA X [] (gA aR ag):=PA.imp wG λσ H Q z0=>by obtain⟨ρ,ds,E,h,q⟩:=z0;cases h;exact q [] H (cR.refl H) .nil λ_=>.nil
theorem aB(he:PE X e (gE fe re))(hes:PA X es (gA f r))(hs:bp (e::es) X.env=(ai,bE e X.env)::bp es X.env:=by rfl):PA X (e::es) (gA (aD fe f) (re&&r)):=PA.imp (qT he hes hs) λσ H Q z0=>by
  obtain⟨ρ,ds,E,h,q⟩:=z0;obtain⟨x,h1,h⟩:=bF h;obtain⟨xs,h2,h⟩:=bF h;cases h;refine⟨ρ,x,E,h1,λv H1 s1 r1 n1=>⟨ρ,xs,E.same s1,h2,λvs H2 s2 r2 n2=>q _ _ (s1.trans s2) (.cons (r1.same s2) r2) λhf=>?_⟩⟩;obtain⟨f1,f2⟩:=(bc _ _▸hf:re=ag/\r=ag)
  exact .cons ((n1 f1).same s2) ((n2 f2).mono (cR.new s1))
theorem cG{x1}(h:PA X es (gA f r)):PE X (.Tuple es x1 pos) (gE (dM f) r):=PE.imp (aLp h) λσ H Q z0=>by
  obtain⟨ρ,d,E,h,q⟩:=z0;obtain⟨xs,h1,h⟩:=bF h;split at h
  ·rename_i hl;cases h;refine⟨ρ,xs,E,h1,λvs H1 s1 r1 n1=>⟨?_,λp hp=>?_⟩⟩
   ·rw[r1.length];exact c6 (eh hl) (by rw[eC];decide)
   ·have sp:cR H1 (upd H1 p (.tup vs)):=cR.upd hp;exact q _ _ (s1.trans sp) (.tup aN (r1.same sp)) λhf=>.tup aN ((n1 hf).same sp)
  ·exact bx h
theorem jV(h:PA X es (gA f r)):PE X (.List es pos) (gE (yS f) r):=PE.imp (Y8 h) λσ H Q z0=>by
  obtain⟨ρ,d,E,h,q⟩:=z0;obtain⟨xs,h1,h⟩:=bF h;split at h
  ·rename_i hl;cases h;refine⟨ρ,xs,E,h1,λvs H1 s1 r1 n1=>⟨?_,λp hp=>?_⟩⟩
   ·rw[r1.length];exact c6 (eh hl) (by rw[eC];decide)
   ·have sp:cR H1 (upd H1 p (.lst vs)):=cR.upd hp;exact q _ _ (s1.trans sp) (.lst aN trivial (r1.same sp)) λhf=>.lst aN (s1.free hp) ((n1 hf).same sp)
  ·exact bx h
theorem vP:PE X (.Dict [] [] pos) (gE (bC (.dct [])) ag):=PE.imp SQ λσ H Q z0=>by
  obtain⟨ρ,d,E,h,q⟩:=z0;cases h;exact λp hp=>q _ _ (cR.upd hp) (.dK aN trivial .nil eT) λ_=>.dK aN hp .nil eT
end
section
variable {a b e:Expr}
theorem sE(h:ϒ (n<=lim)=ag):n<=bb:=c6 (eh h) (by rw[eC];decide)
theorem KD(h:ϒ (n<lim)=ag):n<bb:=du (eh h) (by rw[eC];decide)
theorem Rep.aMh(r:Rep P H v (.lst ds)):∃a xs,v=.ref a/\Rd H a (.lst xs)/\bQ P H xs ds:=by
 cases r with
 |lst e p rr=>exact⟨_,_,rfl,.inl e,rr⟩
theorem PW.imp(h:PW X e t)(i:∀σ H Q,t' σ H Q->t σ H Q):PW X e t':=λwh Ψ s σ H Q I q=>h wh Ψ s σ H Q I (i σ H Q q)
theorem wY(ha:PT X a (gT ga)):PW X (.BoolOp .And [a] pos) (gT ga):=aH5 ha
theorem aG7(ha:PT X a (gT ga)):PW X (.BoolOp .Or [a] pos) (gT ga):=aL8 ha
theorem KH{rest:aa Expr}(ha:PT X a (gT ga))(hb:PW X (.BoolOp .And (b::rest) pos) (gT gb)):PW X (.BoolOp .And (a::b::rest) pos) (gT (J5 ga gb)):=PW.imp (aL9 ha hb) λσ H Q z0=>by
 obtain⟨ρ,k,E,h,q⟩:=z0;obtain⟨z,h1,h3⟩:=bF h;refine⟨ρ,z,E,h1,λH' s=>?_⟩;cases z with
 |true=>rw[ar rfl];rw[ar rfl] at h3;exact⟨ρ,k,E.same s,h3,λH2 s2=>q H2 (s.trans s2)⟩
 |false=>rw[aq (by simp)];rw[aq (by simp)] at h3;cases h3;exact q H' s
theorem aE9{rest:aa Expr}(ha:PT X a (gT ga))(hb:PW X (.BoolOp .Or (b::rest) pos) (gT gb)):PW X (.BoolOp .Or (a::b::rest) pos) (gT (bOr ga gb)):=PW.imp (aOq ha hb) λσ H Q z0=>by
 obtain⟨ρ,k,E,h,q⟩:=z0;obtain⟨z,h1,h3⟩:=bF h;refine⟨ρ,z,E,h1,λH' s=>?_⟩;cases z with
 |true=>rw[ar rfl];rw[ar rfl] at h3;cases h3;exact q H' s
 |false=>rw[aq (by simp)];rw[aq (by simp)] at h3;exact⟨ρ,k,E.same s,h3,λH2 s2=>q H2 (s.trans s2)⟩
theorem eY:OpR X (eg .Add) (r2 (bY .add) ag):=by
 intro Ψ s σ H x y v u Q I rx ry h;obtain⟨a,b,d,p,q,e,k⟩:=h;cases p with
 |int i=>
  cases q with
  |int j=>cases e;exact aLi Ψ s σ H _ _ v u Q I rx ry ⟨i,j,rfl,rfl,k.int⟩
  |_=>exact bx e
 |str i=>
  cases q with
  |str j=>
   replace e:(if ϒ (i.length+j.length<=lim) then ε (π (i++j)) else .bad)=.ok d:=e;split at e
   ·rename_i hl;cases e;exact WD Ψ s σ H _ _ v u Q I rx ry ⟨i,j,rfl,rfl,sE hl,k.str⟩
   ·exact bx e
  |_=>exact bx e
 |non=>exact bx e
 |bl _=>exact bx e
 |tup _ _=>exact bx e
 |dK _ _ _ _=>exact bx e
 |dT _ _ _ _=>exact bx e
 |fdK _ _ _=>exact bx e
 |fdT _ _ _=>exact bx e
 |exc _ _ _=>exact bx e
 |ins _ _ _=>exact bx e
 |adr=>exact bx e
 |dlK _ _ _ _=>exact bx e
 |dlT _ _ _ _=>exact bx e
 |cel _ _ _=>exact bx e
 |@lst a1 xs ds e1 p1 r1=>
  have hR:Rep All H (.ref a1) (.lst ds):=.lst e1 p1 r1;cases b with
  |lst es=>
   replace e:(if ϒ (ds.length+es.length<=lim)&&θ ds&&θ es then ε (υ (ds++es)) else .bad)=.ok d:=e;split at e
   ·rename_i hl;cases e;rw[bc,bc] at hl;obtain⟨⟨hl,hp1⟩,hp2⟩:=hl;obtain⟨l1,xs1,e1',rd1,rr1⟩:=hR.aMh;obtain⟨l2,xs2,rfl,rd2,rr2⟩:=q.aMh;cases e1';cases rx;cases ry;obtain⟨z,its,n,vr1,ee1⟩:=rd1.ok I.hok;obtain⟨z2,its2,n2,vr2,ee2⟩:=rd2.ok I.hok;have hz:xs1.length+xs2.length<=bb:=by rw[rr1.length,rr2.length];exact sE hl
    have t1:=vr1.length;have t2:=vr2.length;refine PySem.P.add_list ee1 ee2 ?_ (by rw[bX,bX];lia);have ea:its.toArray++its2.toArray=(its++its2).toArray:=by simp
    rw[ea];refine⟨.ref _,_,I.aQg (vr1.append vr2) (by rw[cb];lia),rfl,?_⟩;have sp:cR H (upd H s.heap.objs.size (.lst (xs1++xs2))):=cR.upd I.fresh;exact k _ _ sp (.lst aN trivial ((rr1.append rr2).same sp)) λ_=>.lst aN I.fresh (((rr1.bT hp1).append (rr2.bT hp2)).same sp)
   ·exact bx e
  |_=>exact bx e
 |frz _ _=>exact bx e
theorem F_(h:OpR X f (rI C g))
 (hi:∀i j d,op (.int i) (.int j)=.ok d->C i j/\∃k,d=.int k/\g i j=.int k)(hn:∀a b d,op a b=.ok d->(∃i,a=.int i)/\∃j,b=.int j):OpR X f (r2 op ag):=by
 rintro Ψ s σ H x y v u Q I rx ry ⟨a,b,d,p,q,e,k⟩;obtain⟨⟨i,rfl⟩,⟨j,rfl⟩⟩:=hn a b d e;cases p.inv;cases q.inv;obtain⟨hc,m,rfl,hm⟩:=hi i j d e;exact h Ψ s σ H _ _ v u Q I rx ry ⟨i,j,rfl,rfl,hc,by rw[hm];exact k.int⟩
theorem sG(ho:o≠.add){a b d:D}(e:bY o a b=.ok d):(∃i,a=.int i)/\∃j,b=.int j:=by
 cases a with
 |int i=>
  cases b with
  |int j=>exact⟨⟨i,rfl⟩,j,rfl⟩
  |_=>cases o<;>first|exact bx e|exact az rfl ho
 |_=>cases o<;>first|exact bx e|exact az rfl ho
theorem KJ:OpR X (eg .Sub) (r2 (bY .sub) ag):=by
 rintro Ψ s σ H x y v u Q I rx ry ⟨a,b,d,p,q,e,k⟩;obtain⟨⟨i,rfl⟩,j,rfl⟩:=sG (by decide) e;cases p.inv;cases q.inv;cases e;exact aLj Ψ s σ H _ _ v u Q I rx ry ⟨_,_,rfl,rfl,k.int⟩
theorem aA5:OpR X (eg .Mult) (r2 (bY .mul) ag):=by
 refine F_ aLk (λi j d e=>?_) λa b d e=>sG (by decide) e
 ·replace e:(if o7 i||o7 j then ε (δ (i*j)) else .bad)=.ok d:=e;split at e
  ·rename_i hl;cases e;refine⟨?_,_,rfl,rfl⟩;simp only[o7,hI,bc,eM] at hl;exact hl
  ·exact bx e
theorem jW:OpR X (eg .FloorDiv) (r2 (bY .fdiv) ag):=by
 refine F_ aH8 (λi j d e=>?_) λa b d e=>sG (by decide) e
 ·replace e:(if ϒ (0<j)&&ϒ (j<1073741824) then ε (δ (i / j)) else .bad)=.ok d:=e;split at e
  ·rename_i hl;cases e;refine⟨?_,_,rfl,rfl⟩;simp only[bc,eM] at hl;exact hl
  ·exact bx e
theorem jX:OpR X (eg .Mod) (r2 (bY .mod) ag):=by
 refine F_ aLl (λi j d e=>?_) λa b d e=>sG (by decide) e
 ·replace e:(if ϒ (0<j) then ε (δ (i % j)) else .bad)=.ok d:=e;split at e
  ·rename_i hl;cases e;refine⟨?_,_,rfl,rfl⟩;simp only[bc,eM] at hl;exact hl
  ·exact bx e
theorem aMi:OpR X (eg .Pow) (r2 (bY .pow) ag):=by
 refine F_ aLm (λi j d e=>?_) λa b d e=>sG (by decide) e
 ·replace e:(if ϒ (0<=j)&&ϒ (j<=1000000)&&ϒ (i.natAbs<2 ^ 64) then ε (δ (i ^ j.toNat)) else .bad)=.ok d:=e;split at e
  ·rename_i hl;cases e;refine⟨?_,_,rfl,rfl⟩;simp only[bc,eM] at hl;exact⟨hl.1.1,hl.1.2,hl.2⟩
  ·exact bx e
theorem sI(hK:KFrag.K=X.K)(hu:X.A.units+20<bm):OpR X (dg .Eq) (r2 (b8 .eq) ag):=by
 rintro Ψ s σ H x y v u Q I rx ry ⟨a,b,d,p,q,e,k⟩;replace e:(if a.eO aM&&b.eO aM then ε (ξ (eqD a b)) else .bad)=.ok d:=e;split at e
 ·rename_i hl;cases e;rw[bc] at hl;exact(J_ hK I aM X.A (by have:aM=12:=rfl;lia) hl.1 hl.2 p q rx ry).1 X.prog X.w X.xe _ ⟨.bl _,H,I,rfl,k.bl⟩
 ·exact bx e
theorem wZ(hK:KFrag.K=X.K)(hu:X.A.units+20<bm):OpR X (dg .NotEq) (r2 (b8 .ne) ag):=by
 rintro Ψ s σ H x y v u Q I rx ry ⟨a,b,d,p,q,e,k⟩;replace e:(if a.eO aM&&b.eO aM then ε (ξ (!eqD a b)) else .bad)=.ok d:=e;split at e
 ·rename_i hl;cases e;rw[bc] at hl;exact(J_ hK I aM X.A (by have:aM=12:=rfl;lia) hl.1 hl.2 p q rx ry).2.1 X.prog X.w X.xe _ ⟨.bl _,H,I,rfl,k.bl⟩
 ·exact bx e
theorem aG8(hK:KFrag.K=X.K)(o:fX)(hu:X.A.units+20<bm):OpR X (dg o.op) (r2 (b8 (.ord o)) ag):=by
 rintro Ψ s σ H x y v u Q I rx ry ⟨a,b,d,p,q,e,k⟩;replace e:(if a.eO aM&&b.eO aM then (match iM o a b with|some k=>ε (ξ k)|none=>.bad) else .bad)=.ok d:=e;split at e
 ·rename_i hl;rw[bc] at hl;split at e
  ·rename_i m hm;cases e;have:=QH hK I o aM X.A (by have:aM=12:=rfl;lia) hl.1 hl.2 p q rx ry hm X.prog X.w X.xe _ (show EP X Ψ σ Q (.bool m) s from ⟨.bl _,H,I,rfl,k.bl⟩);cases o<;>exact this
  ·exact bx e
 ·exact bx e
theorem aHz(hK:KFrag.K=X.K)(hu:X.A.units+20<bm):OpR X (dg .Lt) (r2 (b8 (.ord .lt)) ag):=aG8 hK .lt hu
theorem aEa(hK:KFrag.K=X.K)(hu:X.A.units+20<bm):OpR X (dg .Gt) (r2 (b8 (.ord .gt)) ag):=aG8 hK .gt hu
theorem aMj:OpR X (dg .Is) (r2 (b8 .isN) ag):=by
 rintro Ψ s σ H x y v u Q I rx ry ⟨a,b,d,p,q,e,k⟩;have hb:b=.non:=by
  cases b with
  |non=>rfl
  |_=>cases a<;>exact bx e
 subst hb;cases q.inv;refine aLn Ψ s σ H x .non v u Q I rx ry ⟨rfl,?_⟩;cases p<;>cases e<;>exact k.bl
theorem aA6:OpR X (dg .IsNot) (r2 (b8 .notN) ag):=by
 rintro Ψ s σ H x y v u Q I rx ry ⟨a,b,d,p,q,e,k⟩;have hb:b=.non:=by
  cases b with
  |non=>rfl
  |_=>cases a<;>exact bx e
 subst hb;cases q.inv;refine aH9 Ψ s σ H x .non v u Q I rx ry ⟨rfl,?_⟩;cases p<;>cases e<;>exact k.bl
end
end
variable [KFrag]
theorem KN(k q:Key):eqD (kD k) (kD q)=ϒ (k=q):=by
 cases k<;>cases q<;>simp[kD,aM3,Z0,aM4,aM5,Bool.beq_eq_decide_eq]
theorem aG9:∀(k q:aa Key),m7 (k.map kD) (q.map kD)=ϒ (k=q)
 |[],[]=>by simp[m7]
 |[],_::_=>by simp[m7]
 |_::_,[]=>by simp[m7]
 |a::k,b::q=>by
  rw[aT,aT,m7,KN,aG9 k q];by_cases h:a=b<;>by_cases h':k=q<;>simp[h,h']
theorem aI0(k q:aa Key):eqD (.tup (k.map kD)) (.tup (q.map kD))=ϒ (k=q):=by rw[aM6,aG9]
theorem W2:∀{kvs:aa (Key×V)}{ds:aa (D×D)},l_ P H kvs ds->(∃v d,rM kvs k=af v/\bA ds (kD k)=af d/\Rep P H v d)\/(rM kvs k=am/\bA ds (kD k)=am)
 |_,_,.nil=>.inr ⟨rfl,rfl⟩
 |_,_,.cons (k:=k') r t=>by
  by_cases h:k'=k
  ·subst h;exact .inl ⟨_,_,rP rfl,by rw[bA,KN,ar (by simp)],r⟩
  ·rw[bA,KN,aq (by simpa using h),rQ h];exact W2 t
theorem aI1:∀{kvs:aa (aa Key×V)}{ds:aa (D×D)},tZ P H kvs ds->(∃v d,rM kvs k=af v/\bA ds (.tup (k.map kD))=af d/\Rep P H v d)\/(rM kvs k=am/\bA ds (.tup (k.map kD))=am)
 |_,_,.nil=>.inr ⟨rfl,rfl⟩
 |_,_,.cons (k:=k') r t=>by
  by_cases h:k'=k
  ·subst h;exact .inl ⟨_,_,rP rfl,by rw[bA,aI0,ar (by simp)],r⟩
  ·rw[bA,aI0,aq (by simpa using h),rQ h];exact aI1 t
theorem GC(h:fZ d=ag)(r:Rep All H v d):∃k,v=kV k/\d=kD k:=by
 cases r<;>simp[fZ] at h
 ·exact⟨.inl _,rfl,rfl⟩
 ·exact⟨.inr _,rfl,rfl⟩
theorem flat_keys:∀{vs:aa V}{ds:aa D},ds.all fZ=ag->bQ All H vs ds->∃ks:aa Key,vs=ks.map kV/\ds=ks.map kD
 |_,_,_,.nil=>⟨[],rfl,rfl⟩
 |_,_,h,.cons r t=>by
  rw[fI,bc] at h;obtain⟨k,rfl,rfl⟩:=GC h.1 r;obtain⟨ks,rfl,rfl⟩:=flat_keys h.2 t;exact⟨k::ks,rfl,rfl⟩
theorem lG(h:keyOk k=ag)(r:Rep All H y k):(∃q,y=kV q/\k=kD q)\/∃(b:ak)(ks:aa Key),y=.ref b/\H b=af (.tup (ks.map kV))/\k=.tup (ks.map kD):=by
 cases k<;>simp[keyOk] at h
 ·exact .inl (GC rfl r)
 ·exact .inl (GC rfl r)
 ·obtain⟨a,xs,rfl,e,rr⟩:=r.g_;obtain⟨ks,rfl,rfl⟩:=flat_keys (dm.mpr h) rr;exact .inr ⟨a,ks,rfl,e,rfl⟩
theorem oF(k:Key):isTup (kD k)=ai:=by cases k<;>rfl
section
variable {a:ak}
theorem TQ(e:H a=af o):upd (upd H a o') a o=H:=by
 rw[wC]
 funext b
 by_cases h:b=a
 ·subst h;rw[aN,e]
 ·rw[a_ h]
theorem t7(I:Inv X Ψ σ H s)(e:H a=af (.dK [])):Inv X Ψ σ (upd H a (.dT [])) s:=by
 obtain⟨z,hd,vs,rel,o,es,ep,h1,h2,h3,h4,h5,h6⟩:=WN I.hok e;cases rel;refine I.write (by rw[e];trivial) (.inl rfl) (λ_ _ _ q=>q) ⟨o,h1⟩ ?_;refine⟨eL _,hd,[],.nil,o,es,ep,h1,h2,h3,?_,eT⟩;cases h5':es.toList with
 |nil=>rfl
 |cons _ _=>rw[h5'] at h5;cases h5
theorem t8(I:Inv X Ψ σ H s)(e:H a=af (.dT [])):Inv X Ψ σ (upd H a (.dK [])) s:=by
 obtain⟨z,hd,vs,rel,o,es,ep,h1,h2,h3,h4,h5,h6⟩:=ZL I.hok e;cases rel;refine I.write (by rw[e];trivial) (.inl rfl) (λ_ _ _ q=>q) ⟨o,h1⟩ ?_;have h0:es.toList=[]:=h4;refine⟨eL _,hd,[],.nil,o,es,ep,h1,h2,h3,?_,?_,eT⟩
 ·intro x hx;have:x∈es.toList:=by simpa using hx
  rw[h0] at this;cases this
 ·rw[h0];exact .nil
theorem TV:∀{kvs:aa (Key×V)}{ds:aa (D×D)},l_ P H kvs ds->∀p∈ds,isTup p.1=ai
 |_,_,.nil,_,h=>by cases h
 |_,_,.cons r t,p,h=>by
  rcases bd.mp h with rfl|h
  ·exact oF _
  ·exact TV t p h
theorem TX:∀{kvs:aa (aa Key×V)}{ds:aa (D×D)},tZ P H kvs ds->∀p∈ds,isTup p.1=ag
 |_,_,.nil,_,h=>by cases h
 |_,_,.cons r t,p,h=>by
  rcases bd.mp h with rfl|h
  ·rfl
  ·exact TX t p h
theorem aA7(I:Inv X Ψ σ H s)(rd:Rep All H x (.dct ds))(rk:Rep All H y k)(hk:lE ds k=ag) :
  ∃H1 a o,x=.ref a/\Inv X Ψ σ H1 s/\(∀s',Inv X Ψ σ H1 s'->Inv X Ψ σ H s')/\SM H1 a y o/\((o=am/\bA ds k=am)\/∃v d,o=af v/\bA ds k=af d/\Rep All H v d):=by
 unfold lE at hk;rw[bc] at hk;obtain⟨h1,h2⟩:=hk;cases rd with
 |@dK a kvs ds e _ r n=>
  rcases lG h1 rk with ⟨q,rfl,rfl⟩|⟨b,ks,rfl,eb,rfl⟩
  ·refine⟨H,a,_,rfl,I,λ_ h=>h,.k e,?_⟩;rcases W2 r with ⟨v,d,g1,g2,g3⟩|⟨g1,g2⟩
   ·exact .inr ⟨v,d,g1,g2,g3⟩
   ·exact .inl ⟨g1,g2⟩
  ·cases r with
   |nil=>
    have e2:=TQ (o':=.dT []) e;refine⟨upd H a (.dT []),a,am,rfl,t7 I e,λs' I'=>?_,.t (k:=ks) aN (by rw[a_ (aDn eb e (by intro z;cases z))];exact eb),.inl ⟨rfl,rfl⟩⟩;have:=t8 I' aN;rwa [e2] at this
   |cons r t=>
    rw[fI,oF] at h2;simp[isTup] at h2
 |@dT a kvs ds e _ r n=>
  rcases lG h1 rk with ⟨q,rfl,rfl⟩|⟨b,ks,rfl,eb,rfl⟩
  ·cases r with
   |nil=>
    have e2:=TQ (o':=.dK []) e;refine⟨upd H a (.dK []),a,am,rfl,t8 I e,λs' I'=>?_,.k (k:=q) aN,.inl ⟨rfl,rfl⟩⟩;have:=t7 I' aN;rwa [e2] at this
   |cons r t=>
    rw[fI,oF] at h2;simp[isTup] at h2
  ·refine⟨H,a,_,rfl,I,λ_ h=>h,.t e eb,?_⟩;rcases aI1 (k:=ks) r with ⟨v,d,g1,g2,g3⟩|⟨g1,g2⟩
   ·exact .inr ⟨v,d,g1,g2,g3⟩
   ·exact .inl ⟨g1,g2⟩
theorem aEb(rd:Rep All H x (.dct ds))(hk:keyOk k=ag)(h:bA ds k=af d):lE ds k=ag:=by
 have one:∀{ds:aa (D×D)},bA ds k=af d->∃p∈ds,eqD p.1 k=ag:=by
  intro ds;induction ds with
  |nil=>intro h;cases h
  |cons p ds ih=>
   intro h;obtain⟨p1,p2⟩:=p;rw[bA] at h;by_cases hq:eqD p1 k=ag
   ·exact⟨_,bh ..,hq⟩
   ·rw[aq hq] at h;obtain⟨p,hp,e⟩:=ih h;exact⟨p,bf _ hp,e⟩
 obtain⟨p,hp,he⟩:=one h;unfold lE;rw[hk,gx,dm];intro q hq;have same:isTup p.1=isTup k:=by
  obtain⟨p1,p2⟩:=p;cases k with
  |int _=>cases p1<;>first|rfl|exact fx0 he
  |str _=>cases p1<;>first|rfl|exact fx0 he
  |tup _=>cases p1<;>first|rfl|exact fx0 he
  |_=>exact fx0 hk
 cases rd with
 |dK e _ r n=>rw[TV r q hq,<-same,TV r p hp];rfl
 |dT e _ r n=>rw[TX r q hq,<-same,TX r p hp];rfl
end
section
variable {X:Cx} {a b c e:Expr} {pos:bo} {fa fb fe:FE} {ra rb re:ap}
def O7(H:Hp)(u:aj):D:=by
 classical
 exact if h:∃d,d.eO aM=ag/\∃v,RelV v u/\Rep All H v d then Ab h else .non
theorem aA8{X:Cx}{Ψ:aa (ak×ba)}{σ:L2.St}{s:ao}(hK:KFrag.K=X.K)(I:Inv X Ψ σ H s)(hq:d.eO aM=ag)(rv:RelV v u)(r:Rep All H v d):O7 H u=d:=by
 unfold O7;have h:∃d,d.eO aM=ag/\∃v,RelV v u/\Rep All H v d:=⟨d,hq,v,rv,r⟩
 rw[mj h];obtain⟨h2,v',rv',r'⟩:=Ac h;have:=rv'.inj rv;subst this;exact Rep.inj I hK aM h2 hq r' r
theorem w6{X:Cx}{Ψ:aa (ak×ba)}{σ:L2.St}{s:ao}(hK:KFrag.K=X.K)(I:Inv X Ψ σ H s){a:D}:∀{xs:aa V}{ds:aa D}{its:aa aj},μ aM ds=ag->bQ All H xs ds->Vals xs its->(its.any λu=>eqD (O7 H u) a)=ds.any λy=>eqD y a
 |_,_,_,_,.nil,.nil=>rfl
 |_,_,_,h,.cons r t,.cons v vt=>by
  rw[μ,bc] at h;rw[kX,kX,aA8 hK I h.1 v r,w6 hK I h.2 t vt]
theorem GD{s:ao}(hK:KFrag.K=X.K)(I:Inv X Ψ σ H s)(hu:X.A.units+20<bm){a:D}{x:V}{v:aj}(ha:a.eO aM=ag)(rx:Rep All H x a)(rv:RelV x v)
 {xs:aa V}{ds:aa D}{its:aa aj}(h:μ aM ds=ag)(r:bQ All H xs ds)(vr:Vals xs its)(u:aj)(hm:u∈its):EqAt X.A.in1 s u v (eqD (O7 H u) a):=by
 obtain⟨j,hj,e⟩:=ur hm;have hj':j<ds.length:=by rw[<-r.length,vr.length];exact hj
 obtain⟨w,h1,h2⟩:=r.get (i:=j) (d:=ds[j]) (by simp[hj']);obtain⟨u',h3,h4⟩:=vr.get h1;rw[cn hj,e] at h3;cases h3;have hd:ds[j].eO aM=ag:=by
  have:=jA h hj';rwa [cy,cn hj'] at this
 rw[aA8 hK I hd h4 h2];exact(J_ hK I aM X.A.in1 (by show X.A.units+1+12<bm;lia) hd ha h2 rx h4 rv).2.2
theorem aMk(hK:KFrag.K=X.K)(hu:X.A.units+20<bm):OpR X (dg .In) (r2 (b8 .isin) ag):=by
 rintro Ψ s σ H x y v u Q I rx ry ⟨a,b,d,p,q,e,k⟩;cases b with
 |tup ys=>
  replace e:(if a.eO aM&&μ aM ys then ε (ξ (ys.any λy=>eqD y a)) else .bad)=.ok d:=e;split at e
  ·rename_i hl;cases e;rw[bc] at hl;obtain⟨l,xs,rfl,ee,rr⟩:=q.g_;cases ry;obtain⟨its,vr,pl⟩:=iB I ee;refine in_tupleAt (λu=>eqD (O7 H u) a) pl (λw hw=>GD hK I hu hl.1 p rx hl.2 rr vr w (by simpa using hw)) ⟨.bl _,H,I,rfl,?_⟩;rw[show its.toArray.any (λu=>eqD (O7 H u) a)=its.any (λu=>eqD (O7 H u) a) by simp,w6 hK I hl.2 rr vr];exact k.bl
  ·cases e
 |lst ys=>
  replace e:(if a.eO aM&&μ aM ys then ε (ξ (ys.any λy=>eqD y a)) else .bad)=.ok d:=e;split at e
  ·rename_i hl;cases e;rw[bc] at hl;obtain⟨l,xs,rfl,ee,rr⟩:=q.jU;cases ry;obtain⟨its,vr,pl⟩:=dW I ee;refine in_listAt (λu=>eqD (O7 H u) a) pl (λw hw=>GD hK I hu hl.1 p rx hl.2 rr vr w (by simpa using hw)) ⟨.bl _,H,I,rfl,?_⟩;rw[show its.toArray.any (λu=>eqD (O7 H u) a)=its.any (λu=>eqD (O7 H u) a) by simp,w6 hK I hl.2 rr vr];exact k.bl
  ·cases e
 |dct kvs=>
  replace e:(if lE kvs a then ε (ξ ((bA kvs a).isSome)) else .bad)=.ok d:=e;split at e
  ·rename_i hl;cases e;obtain⟨H1,a1,o,rfl,I1,bk,g,hc⟩:=aA7 I q p hl;cases ry;refine aRe (by lia) I1 g rx λs' I'=>⟨.bl _,H,bk s' I',rfl,?_⟩
   rcases hc with ⟨rfl,h2⟩|⟨w,dd,rfl,h2,_⟩
   ·rw[h2] at k;exact k.bl
   ·rw[h2] at k;exact k.bl
  ·cases e
 |_=>exact bx e
theorem GF(hK:KFrag.K=X.K)(hu:X.A.units+20<bm):OpR X (dg .NotIn) (r2 (b8 .oZ) ag):=by
 rintro Ψ s σ H x y v u Q I rx ry ⟨a,b,d,p,q,e,k⟩;cases b with
 |tup ys=>
  replace e:(if a.eO aM&&μ aM ys then ε (ξ (!(ys.any λy=>eqD y a))) else .bad)=.ok d:=e;split at e
  ·rename_i hl;cases e;rw[bc] at hl;obtain⟨l,xs,rfl,ee,rr⟩:=q.g_;cases ry;obtain⟨its,vr,pl⟩:=iB I ee;refine notIn_tupleAt (λu=>eqD (O7 H u) a) pl (λw hw=>GD hK I hu hl.1 p rx hl.2 rr vr w (by simpa using hw)) ⟨.bl _,H,I,rfl,?_⟩;rw[show its.toArray.any (λu=>eqD (O7 H u) a)=its.any (λu=>eqD (O7 H u) a) by simp,w6 hK I hl.2 rr vr];exact k.bl
  ·cases e
 |lst ys=>
  replace e:(if a.eO aM&&μ aM ys then ε (ξ (!(ys.any λy=>eqD y a))) else .bad)=.ok d:=e;split at e
  ·rename_i hl;cases e;rw[bc] at hl;obtain⟨l,xs,rfl,ee,rr⟩:=q.jU;cases ry;obtain⟨its,vr,pl⟩:=dW I ee;refine notIn_listAt (λu=>eqD (O7 H u) a) pl (λw hw=>GD hK I hu hl.1 p rx hl.2 rr vr w (by simpa using hw)) ⟨.bl _,H,I,rfl,?_⟩;rw[show its.toArray.any (λu=>eqD (O7 H u) a)=its.any (λu=>eqD (O7 H u) a) by simp,w6 hK I hl.2 rr vr];exact k.bl
  ·cases e
 |dct kvs=>
  replace e:(if lE kvs a then ε (ξ (!((bA kvs a).isSome))) else .bad)=.ok d:=e;split at e
  ·rename_i hl;cases e;obtain⟨H1,a1,o,rfl,I1,bk,g,hc⟩:=aA7 I q p hl;cases ry;refine aHm (by lia) I1 g rx λs' I'=>⟨.bl _,H,bk s' I',rfl,?_⟩
   rcases hc with ⟨rfl,h2⟩|⟨w,dd,rfl,h2,_⟩
   ·rw[h2] at k;exact k.bl
   ·rw[h2] at k;exact k.bl
  ·cases e
 |_=>exact bx e
theorem aGa(xs:aa α)(i:ae):L2.atI xs i=(ixD xs.length i).bind λj=>xs[j]?:=rfl
theorem bQ.atI(r:bQ P H xs ds)(h:((ixD ds.length i).bind λj=>ds[j]?)=af d):∃v,L2.atI xs i=af v/\Rep P H v d:=by
 rw[aGa,r.length];cases hi:ixD ds.length i with
 |none=>rw[hi] at h;cases h
 |some j=>
  rw[hi] at h;obtain⟨v,h1,h2⟩:=r.get h;exact⟨v,h1,h2⟩
theorem xF{a:ak}{y v':V}{u:aj}{Q:VK}(hu:X.A.units+20<bm)(I:Inv X Ψ σ H s)(g:SM H a y (af v'))(ry:RelV y u){H':Hp}
 (hs:nI slice ai (.ref a) u=tu [.ref a,u] (jr (.ref a) u))(bk:∀s',Inv X Ψ σ H s'->Inv X Ψ σ H' s')(q:Q v' H') :
  ϑ (aw X.prog X.w) X.A (nE value slice (.ref a) u) (EP X Ψ σ Q) X.xe s:=by
 have hT:=PN I g;unfold nE;refine au ?_;rw[getitemInPython_of_ne hT.not_modules];refine au (wpAny_specialOf hT PySem.F.slot_dict_getitem.lookup ?_);have fin:ϑ (aw X.prog X.w) X.A (nI slice ai (.ref a) u) (λr s₃=>ϑ (aw X.prog X.w) X.A (letTemporaryGo value (.ref a) r >>= λ_=>pure r) (EP X Ψ σ Q) X.xe s₃) X.xe s:=by
  rw[hs];exact wpAny_operating (ZM (by lia) I g ry λw' s3 I3 rw'=>au (wpAny_letTemporaryGo (aS ⟨v',H',bk s3 I3,rw',q⟩)))
 first
  |exact aS (au fin)
  |exact au (aS (au fin))
  |exact au fin
theorem TY:∀{ds:aa (D×D)},keyOk k=ag->bA ds k=af d->∃p∈ds,isTup p.1=isTup k
 |[],_,h=>by cases h
 | (p1,p2)::ds,hk,h=>by
  rw[bA] at h;by_cases hq:eqD p1 k=ag
  ·refine⟨_,bh ..,?_⟩;cases k with
   |int _=>cases p1<;>first|rfl|exact fx0 hq
   |str _=>cases p1<;>first|rfl|exact fx0 hq
   |tup _=>cases p1<;>first|rfl|exact fx0 hq
   |_=>exact fx0 hk
  ·rw[aq hq] at h;obtain⟨p,hp,e⟩:=TY hk h;exact⟨p,bf _ hp,e⟩
theorem aPc(rd:Rep All H x (.fdc ds))(rk:Rep All H y k)(hk:keyOk k=ag)(h:bA ds k=af d):∃a v,x=.ref a/\SM H a y (af v)/\Rep All H v d:=by
 obtain⟨p,hp,et⟩:=TY hk h;cases rd with
 |@fdK a o kvs ds e r n=>
  rcases lG hk rk with ⟨q,rfl,rfl⟩|⟨b,ks,rfl,eb,rfl⟩
  ·rcases W2 r with ⟨v,d',g1,g2,g3⟩|⟨g1,g2⟩
   ·rw[g2] at h;cases h;exact⟨a,v,rfl,.inl ⟨kvs,q,.inr ⟨o,e⟩,rfl,g1.symm⟩,g3⟩
   ·rw[g2] at h;cases h
  ·rw[TV r p hp] at et;cases et
 |@fdT a o kvs ds e r n=>
  rcases lG hk rk with ⟨q,rfl,rfl⟩|⟨b,ks,rfl,eb,rfl⟩
  ·rw[TX r p hp,oF] at et;cases et
  ·rcases aI1 r with ⟨v,d',g1,g2,g3⟩|⟨g1,g2⟩
   ·rw[g2] at h;cases h;exact⟨a,v,rfl,.inr ⟨kvs,ks,b,.inr ⟨o,e⟩,rfl,eb,g1.symm⟩,g3⟩
   ·rw[g2] at h;cases h
theorem aPd(hK:KFrag.K=X.K)(hu:X.A.units+20<bm):IxR X (r2 getD ai):=by
 rintro value slice Ψ s σ H x y v u Q I rx ry ⟨a,b,d,p,q,e,k⟩ hs;cases a with
 |tup ys=>
  cases b<;>try exact bx e
  have e':=Res.lY e;obtain⟨l,xs,rfl,ee,rr⟩:=p.g_;cases q;obtain⟨w,h1,h2⟩:=rr.atI e';exact aLt value slice Ψ s σ H _ _ v u Q I rx ry ⟨l,xs,_,w,rfl,rfl,.of ee,h1,k.self h2 λz=>by cases z⟩ hs
 |lst ys=>
  cases b<;>try exact bx e
  have e':=Res.lY e;obtain⟨l,xs,rfl,ee,rr⟩:=p.jU;cases q;obtain⟨w,h1,h2⟩:=rr.atI e';exact DQ value slice Ψ s σ H _ _ v u Q I rx ry ⟨l,xs,_,w,rfl,rfl,ee,h1,k.self h2 λz=>by cases z⟩ hs
 |cel ca ys=>
  cases b<;>try exact bx e
  have e':=Res.lY e;obtain⟨_,rfl,ee,pp,rr⟩:=p.inv;cases q;obtain⟨w,h1,h2⟩:=rr.atI e';exact DQ value slice Ψ s σ H _ _ v u Q I rx ry ⟨_,_,_,w,rfl,rfl,.inl (.inl ee),h1,k.self h2 λz=>by cases z⟩ hs
 |scr ys=>
  cases b<;>try exact bx e
  have e':=Res.lY e;obtain⟨_,_,rfl,ee,rr⟩:=p.inv;cases q;obtain⟨w,h1,h2⟩:=rr.atI e';exact DQ value slice Ψ s σ H _ _ v u Q I rx ry ⟨_,_,_,w,rfl,rfl,ee.sq hK,h1,k.self h2 λz=>by cases z⟩ hs
 |str z=>
  cases b<;>try exact bx e
  rename_i i;replace e:(if ϒ (z.length<=lim) then ι (((ixD z.cps.toList.length i).bind λj=>z.cps.toList[j]?).map λc=>π ⟨#[c]⟩) else .bad)=.ok d:=e;split at e
  ·rename_i hl;have e':=Res.lY e;obtain⟨cc,h1,h2⟩:=k5.mp e';subst h2;cases p;cases q;exact aLu value slice Ψ s σ H _ _ v u Q I rx ry ⟨z,_,cc,rfl,rfl,sE hl,h1,k.str⟩ hs
  ·cases e
 |dct kvs=>
  have e':keyOk b=ag/\bA kvs b=af d:=by
   replace e:(if keyOk b then ι (bA kvs b) else .bad)=.ok d:=by cases b<;>exact e
   split at e
   ·rename_i hl;exact⟨hl,Res.lY e⟩
   ·exact bx e
  obtain⟨H1,a1,o,rfl,I1,bk,g,hc⟩:=aA7 I p q (aEb p e'.1 e'.2);cases rx;rcases hc with ⟨rfl,h2⟩|⟨w,dd,rfl,h2,h3⟩
  ·rw[h2] at e';cases e'.2
  ·rw[h2] at e';cases e'.2;exact xF hu I1 g ry hs bk (k.self h3 λz=>by cases z)
 |fdc kvs=>
  have e':keyOk b=ag/\bA kvs b=af d:=by
   replace e:(if keyOk b then ι (bA kvs b) else .bad)=.ok d:=by cases b<;>exact e
   split at e
   ·rename_i hl;exact⟨hl,Res.lY e⟩
   ·exact bx e
  obtain⟨a1,w,rfl,g,h3⟩:=aPc p q e'.1 e'.2;cases rx;exact xF hu I g ry hs (λ_ h=>h) (k.self h3 λz=>by cases z)
 |_=>cases b<;>exact bx e
theorem bJ{X:Cx}{a b:Expr}{pos:bo}{fa fb:FE}{ra rb:ap}(ha:PE X a (gE fa ra))(hb:PE X b (gE fb rb))(hK:KFrag.K=X.K:=by assumption)(hu:X.A.units+20<bm:=by assumption)(hs:tX b:=by exact λ_ _=>rfl):PE X (.Subscript a b pos) (gE (b2 getD fa fb) ai):=aPb (aPd hK hu) ha hb hs
noncomputable def gO(f:aa D->Res (av ae)):TO:=λσ H Q=>∃ρ i,ER H σ ρ/\f ρ=.ok i/\∀H',cR H H'->Q i H'
theorem PO.imp{X:Cx}{e:av PySem.Expr}{t t':TO}(h:PO X e t)(i:∀σ H Q,t' σ H Q->t σ H Q):PO X e t':=λΨ s σ H Q I q=>h Ψ s σ H Q I (i σ H Q q)
theorem GJ:PO X am (gO P_):=PO.imp aHf λσ H Q z0=>by obtain⟨ρ,i,E,h,q⟩:=z0;cases h;exact q H (cR.refl H)
theorem t_(ha:PE X a (gE fa ra)):PO X (af a) (gO (wO fa)):=PO.imp (aHg ha) λσ H Q z0=>by
 obtain⟨ρ,i,E,h,q⟩:=z0;obtain⟨x,h1,h⟩:=bF h;obtain⟨j,h2,h⟩:=bF h;cases h;have e:=aMe h2;subst e;exact⟨ρ,_,E,h1,λv H' s r _=>by cases r;exact⟨j,rfl,q H' s⟩⟩
theorem aGb(n d:ah)(o:av ae):HT.sIx n d o=JR n d o:=by
 cases o with
 |none=>rfl
 |some v=>
  show(if v<0 then (v+(n:ae)).toNat else min v.toNat n)=(if v<0 then (max (v+(n:ae)) 0).toNat else (min v (n:ae)).toNat);split<;>lia
theorem bQ.cut(r:bQ P H xs ds)(lo hi:av ae):bQ P H (ZF xs lo hi) (cutD ds lo hi):=by
 unfold ZF cutD;rw[r.length];simp only[aGb];exact(r.drop _).take _
theorem xG:θ ds=ag↔∀d∈ds,d.pure=ag:=by
 induction ds with
 |nil=>simp[θ]
 |cons d ds ih=>rw[θ,bc,ih];simp
def rSl:V->av ae->av ae->Hp->VK->Prop:=λx lo hi H Q=>∃a d,Rep All H x a/\aHr a lo hi=.ok d/\kR H d ag Q
theorem aPe(hK:KFrag.K=X.K):SlR X rSl:=by
 rintro Ψ s σ H x v vl vu lo hi sl Q I rx hs pl pu ⟨a,d,p,e,k⟩;cases a<;>simp only[aHr] at e<;>(try (cases e;done))
 ·split at e
  ·cases e
  ·rename_i hw;cases e;obtain⟨l,xs,rfl,ee,rr⟩:=p.g_;refine aLs Ψ s σ H _ v vl vu lo hi sl Q I rx hs pl pu ⟨l,xs,rfl,.of ee,?_,λp hp=>?_⟩
   ·simp only[aGb,rr.length];simp only[iS,hI,fy,Bool.not_eq_false',eM] at hw;exact hw.2
   ·have sp:cR H (upd H p (.tup (ZF xs lo hi))):=cR.upd hp;have hp2:θ ‹aa D›=ag:=by
     simp only[hI,fy,iS] at hw;simpa using hw.1
    exact k _ _ sp (.tup aN ((rr.cut lo hi).same sp)) λz=>.tup aN (((rr.bT hp2).cut lo hi).same sp)
 ·split at e
  ·rename_i hl;cases e;obtain⟨l,xs,rfl,ee,rr⟩:=p.jU;refine ZG Ψ s σ H _ v vl vu lo hi sl Q I rx hs pl pu ⟨l,xs,rfl,ee,λp hp=>?_⟩;have sp:cR H (upd H p (.lst (ZF xs lo hi))):=cR.upd hp;exact k _ _ sp (.lst aN trivial ((rr.cut lo hi).same sp)) λz=>.lst aN hp (((rr.bT hl).cut lo hi).same sp)
  ·cases e
 ·split at e
  ·rename_i hl;cases e;cases p with
   |@frz l xs ds ee rr=>
    refine ZG Ψ s σ H _ v vl vu lo hi sl Q I rx hs pl pu ⟨l,xs,rfl,ee.sq hK,λp hp=>?_⟩;have sp:cR H (upd H p (.lst (ZF xs lo hi))):=cR.upd hp;exact k _ _ sp (.lst aN trivial ((rr.cut lo hi).same sp)) λz=>.lst aN hp (((rr.bT hl).cut lo hi).same sp)
  ·cases e
theorem aA9{lo hi:av Expr}(hK:KFrag.K=X.K)(he:PE X e (gE fe re))(hl:PO X lo (gO fl))(hh:PO X hi (gO fh)):PE X (.Subscript e (.Slice lo hi am p2) pos) (gE (aDj fe fl fh) ag):=
 PE.imp (aDu (aPe hK) he hl hh) λσ H Q z0=>by
  obtain⟨ρ,d,E,h,q⟩:=z0;obtain⟨x,h1,h⟩:=bF h;obtain⟨l,h2,h⟩:=bF h;obtain⟨u,h3,h⟩:=bF h;exact⟨ρ,x,E,h1,λv H1 s1 r1 _=>⟨ρ,l,E.same s1,h2,λH2 s2=>⟨ρ,u,E.same (s1.trans s2),h3,λH3 s3=>⟨x,d,r1.same (s2.trans s3),h,q.imp ((s1.trans s2).trans s3) id⟩⟩⟩⟩
end
end Mi
namespace PySem.Mm
open PySem
noncomputable def wdL:ap->c4
 |false=>"min.loop"
 |true=>"max.loop"
noncomputable def wdO:ap->gv
 |false=>.Lt
 |true=>.Gt
section
variable {prog:br} {w:bg} {A:bS} {R:kA->ao->Prop} {I S:ak} {fp wr:aa ak} {n:ah} {P:ah->aj->Prop} {St:ah->aI->Prop} {bt:ah->ah->ap} {Gd:ao->Prop} {op:gv}
structure aMl(prog:br)(w:bg)(A:bS)(op:gv)(P:ah->aj->Prop)(bt:ah->ah->ap)(wr:aa ak)(top:ah)(Gd:ao->Prop):Prop where
 keep:∀s h' tk,Gd s->(∀b o,b∉wr->b<top->s.heap.get? b=af o->h'.get? b=af o)->Gd {s with heap:=h',toks:=tk}
 says:∀i j vi vj s Q E,Gd s->P i vi->P j vj->Q (.bool (bt i j)) s->ϑ (aw prog w) A (la op vi vj) Q E s
def aQi(P:ah->aj->Prop)(bt:ah->ah->ap)(n:ah):ah->aE aj->Prop
 |0,a=>a=#[]/\0<n
 |j+1,a=>∃v,a=#[v,v]/\P (de bt j) v
theorem touched(J:aMl prog w A op P bt wr S Gd){s:ao}{f:aE aj->aE aj}(g:Gd s):Gd {s with heap:=s.heap.update S (eS f)}:=
 J.keep s _ s.toks g λb o _ hb e=>(l6 _ _ (jn hb)).trans e
theorem turn(m:ap)(W:Walks prog w A.in1 I fp wr n P St)(hS:S∉fp)(J:aMl prog w A.in1 (wdO m) P bt wr S Gd):∀(k j:ah)(s:ao)(a:aE aj)(c:ah),j+k=n->St j s.heap->Gd s->aQi P bt n j a->
  s.heap.get? S=af {cls:=.type "list",dict:=am,data:=.seq a c,slots:=#[]}->
  (∀v h' tk,P (de bt (n-1)) v->(∀b o,b∉wr->b≠S->s.heap.get? b=af o->h'.get? b=af o)->R (.ok (.ret v)) {s with heap:=h',toks:=tk})->
  codeAny (aw prog w) A (.builtin (wdL m) ⟨[.ref I,.none,.ref S],[]⟩) R s:=by
 have off:S∉wr:=λh=>hS (W.sub _ h)
 have still:∀{j:ah}{h:aI}{f:aE aj->aE aj},St j h->St j (h.update S (eS f)):=λst=>
  W.frame _ _ _ st λb hb o e=>(l6 _ _ λz:S=b=>hS (z▸hb)).trans e
 intro k;induction k with
 |zero=>
  intro j s a c hj st g hb hs fin;have hjn:j=n:=hj;subst hjn;cases j with
  |zero=>exact az hb.2 (eJ 0)
  |succ j=>
   obtain⟨v,rfl,hv⟩:=hb;have last:∀(h':aI)(tk:ah),(∀b o,b∉wr->s.heap.get? b=af o->h'.get? b=af o)->R (.ok (.ret v)) {s with heap:=h'.update S (eS λ_=>#[]),toks:=tk}:=λh' tk kp=>
    fin v _ tk hv λb o h1 h2 e=>(l6 _ _ (Ne.symm h2)).trans (kp b o h1 e)
   cases m
   ·show codeAny (aw prog w) A (.builtin "min.loop" ⟨[.ref I,.none,.ref S],[]⟩) R s;refine fR uy ?_;rw[gl ja];refine au (m:=lh (.ref S)) (ke hs rfl ?_);refine au (iv (m:=fj (.ref I)) (W.done s _ _ st λh' tk kp=>?_));exact au (m:=li S _) (kf (kp S _ off hs) rfl (au (jb (aS (last h' tk kp)))))
   ·show codeAny (aw prog w) A (.builtin "max.loop" ⟨[.ref I,.none,.ref S],[]⟩) R s;refine fR uz ?_;rw[gl jc];refine au (m:=lh (.ref S)) (ke hs rfl ?_);refine au (iv (m:=fj (.ref I)) (W.done s _ _ st λh' tk kp=>?_));exact au (m:=li S _) (kf (kp S _ off hs) rfl (au (jb (aS (last h' tk kp)))))
 |succ k ih=>
  intro j s a c hj st g hb hs fin;have hjn:j<n:=by lia
  /- what is left to do behind the list's change,or without one -/
  have on:∀(v:aj)(h':aI)(tk:ah),P j v->St (j+1) h'->(∀b o,b∉wr->s.heap.get? b=af o->h'.get? b=af o)->(∀(a':aE aj)(c':ah)(h2:aI),aQi P bt n (j+1) a'->h2.get? S=af {cls:=.type "list",dict:=am,data:=.seq a' c',slots:=#[]}->(h2=h'\/∃f:aE aj->aE aj,h2=h'.update S (eS f))->
    codeAny (aw prog w) A (.builtin (wdL m) ⟨[.ref I,.none,.ref S],[]⟩) R {s with heap:=h2,toks:=tk}):=by
   intro v h' tk _ st' kp a' c' h2 hb' hs' hh;have g':Gd {s with heap:=h',toks:=tk}:=J.keep s h' tk g λb o h1 _ e=>kp b o h1 e
   rcases hh with rfl|⟨f,rfl⟩
   ·exact ih (j+1) _ a' c' (by lia) st' g' hb' hs' λu h3 t3 hu k3=>fin u h3 t3 hu λb o h1 h2 e=>k3 b o h1 h2 (kp b o h1 e)
   ·exact ih (j+1) _ a' c' (by lia) (still st') (touched J g') hb' hs' λu h3 t3 hu k3=>fin u h3 t3 hu λb o h1 h2 e=>k3 b o h1 h2 ((l6 _ _ (Ne.symm h2)).trans (kp b o h1 e))
  have nmn:(toString "min" ++ toString ".loop" : c4)="min.loop":=by decide
  have nmx:(toString "max" ++ toString ".loop" : c4)="max.loop":=by decide
  cases j with
  |zero=>
   obtain⟨rfl,_⟩:=hb;cases m
   ·show codeAny (aw prog w) A (.builtin "min.loop" ⟨[.ref I,.none,.ref S],[]⟩) R s;refine fR uy ?_;rw[gl ja];refine au (m:=lh (.ref S)) (ke hs rfl ?_);refine au (iv (m:=fj (.ref I)) (W.item 0 s _ _ hjn st λv h' tk pv st' kp=>?_));have hs':=kp S _ off hs;refine au (m:=li S _) (kf hs' rfl ?_);rw[nmn];exact aS ⟨fN ja _,on v h' tk pv st' kp #[v,v] _ _ ⟨v,rfl,pv⟩ (mx _ hs' rfl) (.inr ⟨_,rfl⟩)⟩
   ·show codeAny (aw prog w) A (.builtin "max.loop" ⟨[.ref I,.none,.ref S],[]⟩) R s;refine fR uz ?_;rw[gl jc];refine au (m:=lh (.ref S)) (ke hs rfl ?_);refine au (iv (m:=fj (.ref I)) (W.item 0 s _ _ hjn st λv h' tk pv st' kp=>?_));have hs':=kp S _ off hs;refine au (m:=li S _) (kf hs' rfl ?_);rw[nmx];exact aS ⟨fN jc _,on v h' tk pv st' kp #[v,v] _ _ ⟨v,rfl,pv⟩ (mx _ hs' rfl) (.inr ⟨_,rfl⟩)⟩
  |succ j=>
   obtain⟨u,rfl,hu⟩:=hb;cases m
   ·show codeAny (aw prog w) A (.builtin "min.loop" ⟨[.ref I,.none,.ref S],[]⟩) R s;refine fR uy ?_;rw[gl ja];refine au (m:=lh (.ref S)) (ke hs rfl ?_);refine au (iv (m:=fj (.ref I)) (W.item (j+1) s _ _ hjn st λv h' tk pv st' kp=>?_));have hs':=kp S _ off hs;refine au (aS ?_);refine au (iv (gh (au (m:=la .Lt v u) (J.says (j+1) (de bt j) v u _ _ _ (J.keep s h' tk g λb o h1 _ e=>kp b o h1 e) pv hu ?_))));refine au (gh (jh (au (jb (aS ?_)))));cases hx:bt (j+1) (de bt j)
    ·rw[aq jm];refine au (jb ?_);rw[nmn];exact aS ⟨fN ja _,on v h' tk pv st' kp _ _ _ ⟨u,rfl,by rw[de,hx];exact hu⟩ hs' (.inl rfl)⟩
    ·rw[ar rfl];refine au (m:=li S _) (kf hs' rfl (au (jb ?_)));rw[nmn];exact aS ⟨fN ja _,on v h' tk pv st' kp #[v,v] _ _ ⟨v,rfl,by rw[de,hx];exact pv⟩ (mx _ hs' rfl) (.inr ⟨_,rfl⟩)⟩
   ·show codeAny (aw prog w) A (.builtin "max.loop" ⟨[.ref I,.none,.ref S],[]⟩) R s;refine fR uz ?_;rw[gl jc];refine au (m:=lh (.ref S)) (ke hs rfl ?_);refine au (iv (m:=fj (.ref I)) (W.item (j+1) s _ _ hjn st λv h' tk pv st' kp=>?_));have hs':=kp S _ off hs;refine au (aS ?_);refine au (iv (gh (au (m:=la .Gt v u) (J.says (j+1) (de bt j) v u _ _ _ (J.keep s h' tk g λb o h1 _ e=>kp b o h1 e) pv hu ?_))));refine au (gh (jh (au (jb (aS ?_)))));cases hx:bt (j+1) (de bt j)
    ·rw[aq jm];refine au (jb ?_);rw[nmx];exact aS ⟨fN jc _,on v h' tk pv st' kp _ _ _ ⟨u,rfl,by rw[de,hx];exact hu⟩ hs' (.inl rfl)⟩
    ·rw[ar rfl];refine au (m:=li S _) (kf hs' rfl (au (jb ?_)));rw[nmx];exact aS ⟨fN jc _,on v h' tk pv st' kp #[v,v] _ _ ⟨v,rfl,by rw[de,hx];exact pv⟩ (mx _ hs' rfl) (.inr ⟨_,rfl⟩)⟩
end
section
variable {prog:br} {w:bg} {A:bS} {E:aj->ao->Prop} {s:ao} {Q:aj->ao->Prop}
abbrev Seen(prog:br)(w:bg)(A:bS)(op:gv)(Q:aj->ao->Prop)(it:aj)(t:ao):Prop:=
 ∃(I:ak)(fp wr:aa ak)(n:ah)(P:ah->aj->Prop)(St:ah->aI->Prop)(bt:ah->ah->ap),it=.ref I/\Walks prog w A I fp wr n P St/\St 0 t.heap/\(∀b∈fp,b<t.heap.objs.size)/\0<n/\
  (∃Gd:ao->Prop,Gd t/\(∀s h' tk,Gd s->(∀b o,b∉wr->b<t.heap.objs.size->s.heap.get? b=af o->h'.get? b=af o)->Gd {s with heap:=h',toks:=tk})/\
   ∀i j vi vj s Q E,Gd s->P i vi->P j vj->Q (.bool (bt i j)) s->ϑ (aw prog w) A (la op vi vj) Q E s)/\
  ∀v h' tk,P (de bt (n-1)) v->(∀b o,b∉wr->t.heap.get? b=af o->h'.get? b=af o)->Q v {t with heap:=h',toks:=tk}
theorem begun(m:ap){it:aj}{t:ao}{R:kA->ao->Prop}(hR:∀v s,Q v s->R (.ok (.ret v)) s)(h:Seen prog w A.in1 (wdO m) Q it t) :
  codeAny (aw prog w) A (.builtin (wdL m) ⟨[it,.none,.ref t.heap.objs.size],[]⟩) R {t with heap:=t.heap.push {cls:=.type "list",data:=.seq #[]}}:=by
 obtain⟨I,fp,wr,n,P,St,bt,rfl,W,st,hfp,hn,⟨Gd,g,gk,gs⟩,q⟩:=h;have up:∀b o,t.heap.get? b=af o->(t.heap.push {cls:=.type "list",data:=.seq #[]}).get? b=af o:=λb o e=>b6 _ e
 refine turn m W (λz=>eJ _ (hfp _ z)) ⟨gk,gs⟩ n 0 _ #[] _ (Aj n) (W.frame _ _ _ st λb _ o e=>up b o e) (gk t _ t.toks g λb o _ _ e=>up b o e) ⟨rfl,hn⟩ (c8 _ rfl) λv h' tk hv kp=>?_
 exact hR _ _ (q v h' tk hv λb o h1 e=>kp b o h1 (cu (bw e)) (up b o e))
theorem KQ{x:aj}(h:ϑ (aw prog w) A.in1 (fE x) (Seen prog w A.in1 .Lt Q) E s):ϑ (aw prog w) A (call (.builtin "min") [x]) Q E s:=by
 have nmn:(toString "min" ++ toString ".loop" : c4)="min.loop":=by decide
 refine oI Ak Am An (F.args_min1 _) ?_;refine au (m:=oP "min" ["key","default"] 0 ⟨[],[]⟩) (lj (a:=[am,am]) rfl ?_);refine au (aS (au (eB h (λit t ht=>au (fm ?_)) λ_ _ e=>e)));rw[nmn];exact aS ⟨fN ja _,begun ai (λ_ _ q=>q) ht⟩
theorem KR{x:aj}(h:ϑ (aw prog w) A.in1 (fE x) (Seen prog w A.in1 .Gt Q) E s):ϑ (aw prog w) A (call (.builtin "max") [x]) Q E s:=by
 have nmx:(toString "max" ++ toString ".loop" : c4)="max.loop":=by decide
 refine oI Ao Ap Aq (F.args_max1 _) ?_;refine au (m:=oP "max" ["key","default"] 0 ⟨[],[]⟩) (lj (a:=[am,am]) rfl ?_);refine au (aS (au (eB h (λit t ht=>au (fm ?_)) λ_ _ e=>e)));rw[nmx];exact aS ⟨fN jc _,begun ag (λ_ _ q=>q) ht⟩
theorem QJ{a b:aj}(h:ϑ (aw prog w) A.in1 (fE (.ref s.heap.objs.size)) (Seen prog w A.in1 .Lt Q) E {s with heap:=s.heap.push {cls:=.type "tuple",data:=.seq #[a,b]}}):ϑ (aw prog w) A (call (.builtin "min") [a,b]) Q E s:=by
 have nmn:(toString "min" ++ toString ".loop" : c4)="min.loop":=by decide
 refine oI Ak Am An (F.args_min2 _ _) ?_;refine au (m:=oP "min" ["key","default"] 0 ⟨[],[]⟩) (lj (a:=[am,am]) rfl ?_);refine au (m:=uS [a,b]) (fm (au (eB h (λit t ht=>au (fm ?_)) λ_ _ e=>e)));rw[nmn];exact aS ⟨fN ja _,begun ai (λ_ _ q=>q) ht⟩
theorem QK{a b:aj}(h:ϑ (aw prog w) A.in1 (fE (.ref s.heap.objs.size)) (Seen prog w A.in1 .Gt Q) E {s with heap:=s.heap.push {cls:=.type "tuple",data:=.seq #[a,b]}}):ϑ (aw prog w) A (call (.builtin "max") [a,b]) Q E s:=by
 have nmx:(toString "max" ++ toString ".loop" : c4)="max.loop":=by decide
 refine oI Ao Ap Aq (F.args_max2 _ _) ?_;refine au (m:=oP "max" ["key","default"] 0 ⟨[],[]⟩) (lj (a:=[am,am]) rfl ?_);refine au (m:=uS [a,b]) (fm (au (eB h (λit t ht=>au (fm ?_)) λ_ _ e=>e)));rw[nmx];exact aS ⟨fN jc _,begun ag (λ_ _ q=>q) ht⟩
end
end PySem.Mm
namespace Mi
open PySem L2 PySem.SeqAt PySem.Spec PyProof.Rows
section
variable [KFrag]
theorem KY(o:fX)(x:D)(xs:aa D):∀k,k<=xs.length->(xs.take k).foldl (λm y=>if (iM o y m).getD ai then y else m) x=(x::xs).getD (de (btD o (x::xs)) k) .non
 |0,_=>by simp[de]
 |k+1,h=>by
  have ih:=KY o x xs k (by lia);have hk:k<xs.length:=by lia
  rw[mz hk,u3,ih];have e:(x::xs).getD (k+1) .non=xs[k]:=by simp[hk]
  have hb:btD o (x::xs) (k+1) (de (btD o (x::xs)) k)=(iM o xs[k] ((x::xs).getD (de (btD o (x::xs)) k) .non)).getD ai:=by unfold btD;rw[e]
  show(if (iM o xs[k] ((x::xs).getD (de (btD o (x::xs)) k) .non)).getD ai then xs[k] else (x::xs).getD (de (btD o (x::xs)) k) .non)=(x::xs).getD (if btD o (x::xs) (k+1) (de (btD o (x::xs)) k) then k+1 else de (btD o (x::xs)) k) .non;rw[<-hb];cases btD o (x::xs) (k+1) (de (btD o (x::xs)) k) with
  |true=>rw[ar rfl,ar rfl,e]
  |false=>rw[aq (by simp),aq (by simp)]
section
variable {X:Cx} {Ψ:aa (ak×ba)} {σ:L2.St} {H:Hp} {s:ao}
def Gds(s:ao)(s':ao):Prop:=∃h' tk,s'={s with heap:=h',toks:=tk}/\∀b o,s.heap.get? b=af o->h'.get? b=af o
theorem GK(hK:KFrag.K=X.K)(I:Inv X Ψ σ H s)(hu:X.A.units+20<bm){o:fX}{xs:aa V}{ds:aa D}{its:aa aj}{d:D}(r:bQ All H xs ds)(vr:Vals xs its)(h:qW o ds=.ok d)(i j:ah)(vi vj:aj)(s':ao)(Q:aj->ao->Prop)(E:aj->ao->Prop)
 (g:Gds s s')(hi:its.toArray[i]?=af vi)(hj:its.toArray[j]?=af vj)(q:Q (.bool (btD o ds i j)) s'):ϑ (aw X.prog X.w) X.A.in1 (la o.op vi vj) Q E s':=by
 obtain⟨h',tk,rfl,hk⟩:=g;have I':Inv X Ψ σ H {s with heap:=h',toks:=tk}:=I.kept hk;have hi':its[i]?=af vi:=by simpa using hi
 have hj':its[j]?=af vj:=by simpa using hj
 have at_:∀{i:ah}{v:aj},its[i]?=af v->∃d w,ds.getD i .non=d/\d∈ds/\RelV w v/\Rep All H w d:=by
  intro i v hv;have hlt:i<its.length:=(c9.mp hv).1;have hlt':i<ds.length:=by rw[<-r.length,vr.length];exact hlt
  obtain⟨w,h1,h2⟩:=r.get (i:=i) (d:=ds[i]) (by simp[hlt']);obtain⟨u,h3,h4⟩:=vr.get h1;rw[hv] at h3;cases h3;exact⟨ds[i],w,by simp[hlt'],fq _,h4,h2⟩
 obtain⟨d1,w1,e1,m1,v1,r1⟩:=at_ hi';obtain⟨d2,w2,e2,m2,v2,r2⟩:=at_ hj';cases ds with
 |nil=>cases m1
 |cons x xs'=>
  simp only[qW] at h;split at h
  ·rename_i hall;have h1:=dm.mp hall d1 m1;have h2:=dm.mp hall d2 m2;rw[bc] at h1 h2;obtain⟨k,hk⟩:=sF.mp (dm.mp h1.2 d2 m2);have:btD o (x::xs') i j=k:=by unfold btD;rw[e1,e2,hk];rfl
   rw[this] at q;exact QH hK I' o aM X.A.in1 (by show X.A.units+1+12<bm;lia) h1.1 h2.1 r1 r2 v1 v2 hk X.prog X.w E Q q
  ·exact bx h
theorem QL{o:fX}{xs:aa V}{ds:aa D}{its:aa aj}{d:D}(r:bQ All H xs ds)(vr:Vals xs its)(h:qW o ds=.ok d){v:aj}(hv:its.toArray[de (btD o ds) (its.length-1)]?=af v):∃w,RelV w v/\Rep All H w d:=by
 have hv':its[de (btD o ds) (its.length-1)]?=af v:=by simpa using hv
 cases ds with
 |nil=>exact bx h
 |cons x xs'=>
  simp only[qW] at h;split at h
  ·cases h;have hl:its.length-1=xs'.length:=by rw[<-vr.length,r.length];simp
   rw[hl] at hv';have fb:=KY o x xs' xs'.length (bj _);rw[u4] at fb;have hlt:de (btD o (x::xs')) xs'.length<its.length:=(c9.mp hv').1;have hlt':de (btD o (x::xs')) xs'.length<(x::xs').length:=by rw[<-r.length,vr.length];exact hlt
   obtain⟨w,h1,h2⟩:=r.get (i:=de (btD o (x::xs')) xs'.length) (d:=(x::xs')[de (btD o (x::xs')) xs'.length]) (by simp[hlt']);obtain⟨u,h3,h4⟩:=vr.get h1;rw[hv'] at h3;cases h3;refine⟨w,h4,?_⟩;rw[fb,cy,cn hlt'];exact h2
  ·exact bx h
theorem Gds.grow{s':ao}{h1:aI}{tk1:ah}(g:Gds s s'){wq:aa ak}{n:ah}(hw:∀b∈wq,s.heap.objs.size<=b)(hn:s.heap.objs.size<=n)
 (kk:∀b o,b∉wq->b<n->s'.heap.get? b=af o->h1.get? b=af o):Gds s {s' with heap:=h1,toks:=tk1}:=by
 obtain⟨h',tk,rfl,hk⟩:=g;refine⟨h1,tk1,rfl,λb o e=>kk b o (λhb=>?_) (du (bw e) hn) (hk b o e)⟩;exact az (du (bw e) (hw b hb)) (eJ _)
end
section
variable {X:Cx}
theorem T3{o:fX}{ds:aa D}{d:D}(h:qW o ds=.ok d):0<ds.length:=by
 cases ds with
 |nil=>exact bx h
 |cons _ _=>simp
structure Mms(o:fX)(nm:c4):Prop where
 walk:∀{prog:br}{w:bg}{A:bS}{Q:aj->ao->Prop}{E:aj->ao->Prop}{s:ao}{x:aj},ϑ (aw prog w) A.in1 (fE x) (Mm.Seen prog w A.in1 o.op Q) E s->ϑ (aw prog w) A (call (.builtin nm) [x]) Q E s
 two:∀{prog:br}{w:bg}{A:bS}{Q:aj->ao->Prop}{E:aj->ao->Prop}{s:ao}{a b:aj},ϑ (aw prog w) A.in1 (fE (.ref s.heap.objs.size)) (Mm.Seen prog w A.in1 o.op Q) E {s with heap:=s.heap.push {cls:=.type "tuple",data:=.seq #[a,b]}}->ϑ (aw prog w) A (call (.builtin nm) [a,b]) Q E s
theorem aAa{o:fX}{nm:c4}(M:Mms o nm)(hK:KFrag.K=X.K)(hu:X.A.units+20<bm)(hc:X.calm=ag){Ψ:aa (ak×ba)}{σ:L2.St}{H:Hp}{s:ao}{l:ak}{xs:aa V}{ds:aa D}{d:D}{Q:VK}(I:Inv X Ψ σ H s)(hl:SqL X.K H l xs)(r:bQ All H xs ds)(h:qW o ds=.ok d)(q:kR H d ai Q) :
  ϑ (aw X.prog X.w) X.A (call (.builtin nm) [.ref l]) (EP X Ψ σ Q) X.xe s:=by
 obtain⟨its,vr,pl⟩:=dW I hl;have hlt:l<s.heap.objs.size:=by obtain⟨_,e,_⟩:=pl;exact bw e
 refine M.walk (kg pl ?_);refine⟨_,_,_,_,_,_,btD o ds,rfl,Walks.list (A:=X.A.in1) (I.ok.hd hc) _ l (cu hlt) its.toArray,⟨⟨_,c8 _ rfl,rfl,rfl⟩,pl.push _⟩,λb hb=>?_,by rw[bX,<-vr.length,r.length];exact T3 h,⟨Gds s,⟨_,s.toks,rfl,λb o e=>b6 _ e⟩,λs' h' tk g kk=>g.grow (wq:=[s.heap.objs.size]) (n:=s.heap.objs.size+1) (λb hb=>?_) (hX _) λb o h1 h2 e=>kk b o h1 (by show b<(s.heap.push _).objs.size;rw[ia];exact h2) e,λi j vi vj s' Q E g h1 h2 q=>GK hK I hu r vr h i j vi vj s' Q E g h1 h2 q⟩,λv h' tk hP hk=>?_⟩
 ·show b<(s.heap.push _).objs.size;rw[ia];rcases bd.mp hb with rfl|hb
  ·exact i0 _
  ·rcases bd.mp hb with rfl|hb
   ·exact gw hlt
   ·cases hb
 ·rcases bd.mp hb with rfl|hb
  ·exact bj _
  ·cases hb
 ·obtain⟨w,v1,r1⟩:=QL r vr h (by simpa using hP);refine⟨w,H,I.kept λb o e=>hk b o (λhb=>?_) (b6 _ e),v1,q.self r1 λz=>by cases z⟩;rcases bd.mp hb with rfl|hb
  ·exact az (bw e) (eJ _)
  ·cases hb
theorem aAb{o:fX}{nm:c4}(M:Mms o nm)(hK:KFrag.K=X.K)(hu:X.A.units+20<bm)(hc:X.calm=ag){Ψ:aa (ak×ba)}{σ:L2.St}{H:Hp}{s:ao}{l:ak}{xs:aa V}{ds:aa D}{d:D}{Q:VK}(I:Inv X Ψ σ H s)(hl:H l=af (.tup xs))(r:bQ All H xs ds)(h:qW o ds=.ok d)(q:kR H d ai Q) :
  ϑ (aw X.prog X.w) X.A (call (.builtin nm) [.ref l]) (EP X Ψ σ Q) X.xe s:=by
 obtain⟨its,vr,pl⟩:=iB I hl;have hlt:l<s.heap.objs.size:=by obtain⟨_,e,_⟩:=pl;exact bw e
 refine M.walk (oQ pl ?_);refine⟨_,_,_,_,_,_,btD o ds,rfl,Ar (A:=X.A.in1) (I.ok.hd hc) _ l (cu hlt) its.toArray,⟨⟨_,c8 _ rfl,rfl,rfl⟩,pl.push _⟩,λb hb=>?_,by rw[bX,<-vr.length,r.length];exact T3 h,⟨Gds s,⟨_,s.toks,rfl,λb o e=>b6 _ e⟩,λs' h' tk g kk=>g.grow (wq:=[s.heap.objs.size]) (n:=s.heap.objs.size+1) (λb hb=>?_) (hX _) λb o h1 h2 e=>kk b o h1 (by show b<(s.heap.push _).objs.size;rw[ia];exact h2) e,λi j vi vj s' Q E g h1 h2 q=>GK hK I hu r vr h i j vi vj s' Q E g h1 h2 q⟩,λv h' tk hP hk=>?_⟩
 ·show b<(s.heap.push _).objs.size;rw[ia];rcases bd.mp hb with rfl|hb
  ·exact i0 _
  ·rcases bd.mp hb with rfl|hb
   ·exact gw hlt
   ·cases hb
 ·rcases bd.mp hb with rfl|hb
  ·exact bj _
  ·cases hb
 ·obtain⟨w,v1,r1⟩:=QL r vr h (by simpa using hP);refine⟨w,H,I.kept λb o e=>hk b o (λhb=>?_) (b6 _ e),v1,q.self r1 λz=>by cases z⟩;rcases bd.mp hb with rfl|hb
  ·exact az (bw e) (eJ _)
  ·cases hb
theorem aAc{o:fX}{nm:c4}(two:∀{prog:br} {w:bg} {A:bS} {Q:aj->ao->Prop} {E:aj->ao->Prop} {s:ao} {a b:aj},ϑ (aw prog w) A.in1 (fE (.ref s.heap.objs.size)) (Mm.Seen prog w A.in1 o.op Q) E {s with heap:=s.heap.push {cls:=.type "tuple",data:=.seq #[a,b]}}->ϑ (aw prog w) A (call (.builtin nm) [a,b]) Q E s)(hK:KFrag.K=X.K)(hu:X.A.units+20<bm)(hc:X.calm=ag){Ψ:aa (ak×ba)}{σ:L2.St}{H:Hp}{s:ao}{x y:V}{u w:aj}{a b d:D}{Q:VK}(I:Inv X Ψ σ H s)(rx:Rep All H x a)(ry:Rep All H y b)(ru:RelV x u)(rw':RelV y w)(h:qW o [a,b]=.ok d)(q:kR H d ai Q) :
  ϑ (aw X.prog X.w) X.A (call (.builtin nm) [u,w]) (EP X Ψ σ Q) X.xe s:=by
 have r:bQ All H [x,y] [a,b]:=.cons rx (.cons ry .nil);have vr:Vals [x,y] [u,w]:=.cons ru (.cons rw' .nil);have pl:(s.heap.push {cls:=.type "tuple",data:=.seq #[u,w]}).IsTuple s.heap.objs.size [u,w].toArray:=⟨_,c8 _ rfl,rfl,0,rfl⟩
 have hsz:(s.heap.push {cls:=.type "tuple",data:=.seq #[u,w]}).objs.size=s.heap.objs.size+1:=ia ..;refine two (oQ pl ?_);refine⟨_,_,_,_,_,_,btD o [a,b],rfl,Ar (A:=X.A.in1) (I.ok.hd hc) _ s.heap.objs.size (by rw[hsz];exact cu (i0 _)) [u,w].toArray,⟨⟨_,c8 _ rfl,rfl,rfl⟩,pl.push _⟩,λb hb=>?_,by simp,⟨Gds s,⟨_,s.toks,rfl,λb o e=>b6 _ (b6 _ e)⟩,λs' h' tk g kk=>g.grow (wq:=[s.heap.objs.size+1]) (n:=s.heap.objs.size+2) (λb hb=>?_) (by lia) λb o h1 h2 e=>kk b o (by rw[hsz];exact h1) (by show b<((s.heap.push _).push _).objs.size;rw[ia,hsz];exact h2) e,λi j vi vj s' Q E g h1 h2 q=>GK hK I hu r vr h i j vi vj s' Q E g h1 h2 q⟩,λv h' tk hP hk=>?_⟩
 ·show b<((s.heap.push _).push _).objs.size;rw[ia,hsz];rcases bd.mp hb with rfl|hb
  ·rw[hsz];exact i0 _
  ·rcases bd.mp hb with rfl|hb
   ·exact gw (i0 _)
   ·cases hb
 ·rcases bd.mp hb with rfl|hb
  ·lia
  ·cases hb
 ·obtain⟨w,v1,r1⟩:=QL r vr h (by simpa using hP);refine⟨w,H,I.kept λb o e=>hk b o (λhb=>?_) (b6 _ (b6 _ e)),v1,q.self r1 λz=>by cases z⟩;rcases bd.mp hb with hb|hb
  ·have:=bw e;rw[hb,hsz] at this;exact az this (ui.mpr (hX _))
  ·cases hb
theorem aMm{o:fX}{nm:c4}(M:Mms o nm)(hK:KFrag.K=X.K)(hu:X.A.units+20<bm)(hc:X.calm=ag):oV X (.builtin nm) (rs (cN o) ai):=by
 rintro Ψ s σ H xs us Q I vr ⟨ds,d,r,e,k⟩;unfold cN at e;split at e
 ·cases r with
  |cons r t=>
   cases t;cases vr with
   |cons v vt=>
    cases vt;obtain⟨l,ys,rfl,hl,rr⟩:=r.jU (K:=X.K);cases v;exact aAa M hK hu hc I hl rr e k
 ·cases r with
  |cons r t=>
   cases t;cases vr with
   |cons v vt=>
    cases vt;obtain⟨l,ys,rfl,hl,rr⟩:=r.g_;cases v;exact aAb M hK hu hc I hl rr e k
 ·cases r with
  |cons r t=>
   cases t with
   |cons r' t=>
    cases t;cases vr with
    |cons v vt=>
     cases vt with
     |cons v' vt=>
      cases vt;exact aAc M.two hK hu hc I r r' v v' e k
 ·exact bx e
theorem BL(hK:KFrag.K=X.K)(hu:X.A.units+20<bm)(hc:X.calm=ag):oV X (.builtin "min") (rs (cN .lt) ai):=aMm ⟨Mm.KQ,Mm.QJ⟩ hK hu hc
theorem T4(hK:KFrag.K=X.K)(hu:X.A.units+20<bm)(hc:X.calm=ag):oV X (.builtin "max") (rs (cN .gt) ai):=aMm ⟨Mm.KR,Mm.QK⟩ hK hu hc
end
section
variable {a b e:Expr} {x:Str} {id T:c4}
theorem mU(r:bQ P H xs [d])(vr:Vals xs us):∃v u,xs=[v]/\us=[u]/\Rep P H v d/\RelV v u:=by
 cases r with
 |cons r t=>
  cases t;cases vr with
  |cons v vt=>
   cases vt;exact⟨_,_,rfl,rfl,r,v⟩
theorem T5{fr:ap}(h:gE (aO f fs) fr σ H Q):tCB (rs f fr) (gA fs rr) σ H Q:=by
 obtain⟨ρ,d,E,h,q⟩:=h;obtain⟨ds,h1,h2⟩:=bF h;exact⟨ρ,ds,E,h1,λvs H1 s1 r1 _=>⟨ds,d,r1,h2,q.imp s1 id⟩⟩
theorem aX{fr:ap}(hc:oV X (.builtin id) (rs f fr))(hg:Gl X x)(hm:X.mg x=am)(hv:d3 x=af (.builtin id))(ha:PA X (e::es) (gA fs rr))(hn:x ≠ "__name__":=by decide)(hdb:nDb x:=by decide)
 (he:bp (e::es) X.env=(ai,bE e X.env)::bp es X.env:=by rfl)(hpl:(eo pos (bp es X.env)).any (·.1)=ai:=by rfl):PE X (.Call (.Name x p) (e::es) [] pos) (gE (aO f fs) fr):=
 PE.imp (SJ hc hg hm hv ha hn hdb he hpl) λ_ _ _=>T5
theorem iC{fr:ap}(hc:oV X (.type T) (rs f fr))(hg:Gl X x)(hm:X.mg x=am)(hv:d3 x=af (.type T))(ha:PA X (e::es) (gA fs rr))(hn:x ≠ "__name__":=by decide)(hdb:nDb x:=by decide)
 (he:bp (e::es) X.env=(ai,bE e X.env)::bp es X.env:=by rfl)(hpl:(eo pos (bp es X.env)).any (·.1)=ai:=by rfl):PE X (.Call (.Name x p) (e::es) [] pos) (gE (aO f fs) fr):=
 PE.imp (ZC hc hg hm hv ha hn hdb he hpl) λ_ _ _=>T5
theorem eF(hK:KFrag.K=X.K):oV X (.builtin "len") (rs gC ag):=by
 rintro Ψ s σ H xs us Q I vr ⟨ds,d,r,e,k⟩;unfold gC at e;split at e
 ·cases e;obtain⟨vv,uu,rfl,rfl,r,v⟩:=mU r vr;obtain⟨l,ys,rfl,hl,rr⟩:=r.g_;cases v;exact j_ Ψ s σ H [.ref l] [.ref l] Q I (.cons rfl .nil) ⟨l,ys,rfl,.inr (.of hl),by rw[rr.length];exact k.int⟩
 ·cases e;obtain⟨vv,uu,rfl,rfl,r,v⟩:=mU r vr;obtain⟨l,ys,rfl,hl,rr⟩:=r.jU;cases v;exact j_ Ψ s σ H [.ref l] [.ref l] Q I (.cons rfl .nil) ⟨l,ys,rfl,.inl hl,by rw[rr.length];exact k.int⟩
 ·cases e;obtain⟨vv,uu,rfl,rfl,r,v⟩:=mU r vr;cases r with
  |@frz l xs ds ee rr=>
   cases v;exact j_ Ψ s σ H [.ref l] [.ref l] Q I (.cons rfl .nil) ⟨l,xs,rfl,.inl (ee.sq hK),by rw[rr.length];exact k.int⟩
 ·cases e;obtain⟨vv,uu,rfl,rfl,r,v⟩:=mU r vr;obtain⟨_,rfl,ee,pp,rr⟩:=r.inv;cases v;exact j_ Ψ s σ H [.ref _] [.ref _] Q I (.cons rfl .nil) ⟨_,_,rfl,.inl (.inl (.inl ee)),by rw[rr.length];exact k.int⟩
 ·split at e
  ·rename_i hl;cases e;obtain⟨vv,uu,rfl,rfl,r,v⟩:=mU r vr;cases r.inv;exact J1 Ψ s σ H _ _ Q I (.cons v .nil) ⟨_,rfl,sE hl,k.int⟩
  ·exact bx e
 ·exact bx e
theorem kI:oV X (.type "tuple") (rs m9 ai):=by
 rintro Ψ s σ H xs us Q I vr ⟨ds,d,r,e,k⟩;unfold m9 at e;split at e
 ·cases e;obtain⟨vv,uu,rfl,rfl,r,v⟩:=mU r vr;obtain⟨l,ys,rfl,hl',rr⟩:=r.g_;cases v;exact rO Ψ s σ H [.ref l] [.ref l] Q I (.cons rfl .nil) ⟨l,ys,rfl,.inr ⟨.of hl',k.self (.tup hl' rr) λz=>by cases z⟩⟩
 ·cases e;obtain⟨vv,uu,rfl,rfl,r,v⟩:=mU r vr;obtain⟨l,ys,rfl,hl',rr⟩:=r.jU;cases v;refine rO Ψ s σ H [.ref l] [.ref l] Q I (.cons rfl .nil) ⟨l,ys,rfl,.inl ⟨hl',λp hp=>?_⟩⟩;have sp:cR H (upd H p (.tup ys)):=cR.upd hp;exact k _ _ sp (.tup aN (rr.same sp)) λz=>by cases z
 ·exact bx e
mutual
theorem BP:∀(d:D),d.plain=ag->d.pure=ag
 |.tup xs,h=>by rw[ο] at h;rw[D.pure];exact nD xs h
 |.int _,_=>rfl
 |.str _,_=>rfl
 |.uD,h=>by simp[ο] at h
 |.non,_=>rfl
 |.bl _,_=>rfl
 |.lst _,h=>by simp[ο] at h
 |.dct _,h=>by simp[ο] at h
 |.scr xs,h=>by rw[ο] at h;rw[D.pure];exact nD xs h
 |.fdc _,h=>by simp[ο] at h
 |.exc _ _,h=>by simp[ο] at h
 |.ins _ _,h=>by simp[ο] at h
 |.adr _,h=>by simp[ο] at h
 |.dcl _ _,h=>by simp[ο] at h
 |.cel _ _,h=>by simp[ο] at h
theorem nD:∀(ds:aa D),χ ds=ag->θ ds=ag
 |[],_=>rfl
 |x::xs,h=>by rw[χ,bc] at h;rw[θ,bc];exact⟨BP x h.1,nD xs h.2⟩
end
theorem xH(h:bB ds=ag):θ (iR ds)=ag:=xG.mpr λd hd=>BP d (fO h ((b_ ds).mem_iff.mp hd)).1
theorem gD(hK:KFrag.K=X.K)(hu:X.A.units+20<bm):oV X (.builtin "sorted") (rs fM ag):=by
 rintro Ψ s σ H xs us Q I vr ⟨ds,d,r,e,k⟩;unfold fM at e;split at e
 ·split at e
  ·rename_i hl;cases e;obtain⟨vv,uu,rfl,rfl,r,v⟩:=mU r vr;obtain⟨l,ys,rfl,hl',rr⟩:=r.jU;cases v;refine WY hK I hu hl' rr hl λp xs' hp r'=>?_
   have sp:cR H (upd H p (.lst xs')):=cR.upd hp;exact k _ _ sp (.lst aN trivial (r'.same sp)) λ_=>.lst aN hp ((r'.bT (xH hl)).same sp)
  ·exact bx e
 ·exact bx e
theorem isi(I:Inv X Ψ σ H s)(r:Rep All H v d)(ru:RelV v u)(h:aP8 t d=.ok k)
 (q:∀tk,Q (.bool k) {s with toks:=tk}):ϑ (aw X.prog X.w) X.A (call (.builtin "isinstance") [u,.type t.nm]) Q X.xe s:=by
 have q0:Q (.bool k) s:=q s.toks;cases r with
 |non=>cases ru;cases t<;>cases h<;>first|exact IsiPair.NoneType_int (q _)|exact IsiPair.NoneType_str (q _)|exact IsiPair.NoneType_bool (q _)|exact IsiPair.NoneType_list (q _)|exact IsiPair.NoneType_tuple (q _)|exact IsiPair.NoneType_dict (q _)
 |bl b=>cases ru;cases t<;>cases h<;>first|exact IsiPair.bool_int q0|exact IsiPair.bool_str (q _)|exact IsiPair.bool_bool q0|exact IsiPair.bool_list (q _)|exact IsiPair.bool_tuple (q _)|exact IsiPair.bool_dict (q _)
 |int b=>obtain⟨tt,rfl⟩:=ru;cases t<;>cases h<;>first|exact IsiPair.int_int q0|exact IsiPair.int_str (q _)|exact IsiPair.int_bool (q _)|exact IsiPair.int_list (q _)|exact IsiPair.int_tuple (q _)|exact IsiPair.int_dict (q _)
 |str b=>obtain⟨tt,rfl⟩:=ru;cases t<;>cases h<;>first|exact IsiPair.str_int (q _)|exact IsiPair.str_str q0|exact IsiPair.str_bool (q _)|exact IsiPair.str_list (q _)|exact IsiPair.str_tuple (q _)|exact IsiPair.str_dict (q _)
 |tup e rr=>
  cases ru;obtain⟨its,vr,o,ho,hc,_⟩:=iB I e;cases t<;>cases h<;>first|exact IsiPair.tuple_int ho hc (q _)|exact IsiPair.tuple_str ho hc (q _)|exact IsiPair.tuple_bool ho hc (q _)|exact IsiPair.tuple_list ho hc (q _)|exact IsiPair.tuple_tuple ho hc q0|exact IsiPair.tuple_dict ho hc (q _)
 |lst e p rr=>
  cases ru;obtain⟨its,vr,o,ho,hc,_⟩:=dW I (.of e);cases t<;>cases h<;>first|exact IsiPair.list_int ho hc (q _)|exact IsiPair.list_str ho hc (q _)|exact IsiPair.list_bool ho hc (q _)|exact IsiPair.list_list ho hc q0|exact IsiPair.list_tuple ho hc (q _)|exact IsiPair.list_dict ho hc (q _)
 |frz e rr=>cases t<;>exact bx h
 |fdK e rr n=>cases t<;>exact bx h
 |fdT e rr n=>cases t<;>exact bx h
 |exc n e q=>cases t<;>exact bx h
 |ins n e q=>cases t<;>exact bx h
 |adr=>cases t<;>exact bx h
 |dlK _ _ _ _=>cases t<;>exact bx h
 |dlT _ _ _ _=>cases t<;>exact bx h
 |cel e p rr=>cases t<;>exact bx h
 |dK e p rr n=>
  cases ru;obtain⟨_,_,_,_,o,_,_,ho,hx,_⟩:=WN I.hok e;have hc:=hx.1;cases t<;>cases h<;>first|exact As ho hc (q _)|exact Au ho hc (q _)|exact Av ho hc (q _)|exact Aw ho hc (q _)|exact Ax ho hc (q _)|exact Ay ho hc q0
 |dT e p rr n=>
  cases ru;obtain⟨_,_,_,_,o,_,_,ho,hx,_⟩:=ZL I.hok e;have hc:=hx.1;cases t<;>cases h<;>first|exact As ho hc (q _)|exact Au ho hc (q _)|exact Av ho hc (q _)|exact Aw ho hc (q _)|exact Ax ho hc (q _)|exact Ay ho hc q0
def aRh(t:Ty):aa V->Hp->VK->Prop:=λxs H Q=>∃v d k,xs=[v,.ty t.nm]/\Rep All H v d/\aP8 t d=.ok k/\Q (.bl k) H
theorem aMn(t:Ty):oV X (.builtin "isinstance") (aRh t):=by
 rintro Ψ s σ H xs us Q I vr ⟨v,d,k,e,r,h,q⟩;subst e;cases vr with
 |cons rv vt=>
  cases vt with
  |cons rt vt=>
   cases vt;cases rt;exact isi I r rv h λtk=>⟨.bl k,H,I.tok tk,rfl,q⟩
theorem T6(t:Ty)(ha:PE X a (gE fa ra))(hg:Gl X "isinstance")(hm:X.mg "isinstance"=am)(hv:d3 "isinstance"=af (.builtin "isinstance"))(gy:Gl X y)(my:X.mg y=am)(vy:d3 y=af (.type t.nm))
 (hy:y ≠ "__name__":=by decide)(hyd:(y==("__debug__" : Str))=ai:=by decide)
 (he:bp [a,.Name y p2] X.env=(ai,bE a X.env)::bp [.Name y p2] X.env:=by rfl)(he2:bp [.Name y p2] X.env=(ai,bE (.Name y p2) X.env)::bp [] X.env:=by rfl)
 (hpl:(eo pos (bp [.Name y p2] X.env)).any (·.1)=ai:=by rfl):PE X (.Call (.Name "isinstance" p) [a,.Name y p2] [] pos) (gE (b1 (WQ t) fa) ag):=
 PE.imp (SJ (aMn t) hg hm hv (qT ha (qT (aH4 gy my vy (v:=.ty t.nm) rfl hy hyd) wG he2) he) (by decide) (by decide) he hpl) λσ H Q z0=>by
  obtain⟨ρ,d,E,h,q⟩:=z0;obtain⟨x,h1,h⟩:=bF h;obtain⟨k,h2,h⟩:=bF h;cases h;exact⟨ρ,x,E,h1,λv H1 s1 r1 _=>⟨v,x,k,rfl,r1,h2,(q.imp s1 id).bl⟩⟩
theorem aPf{ro fr:ap}{name:Str}{apos cpos:bo}{f:D->aa D->Res D}(pa:tF T)(slot:Slot T name id)(hty:ju (.builtin id)=pure (.type "method_descriptor"))(hm:MtR X id (rm f fr))(ho:PE X o (gE fo ro))(ha:PA X (e::es) (gA fs rr))
 (hT:∀(d:D) (ds:aa D) (r:D) (v:V) (H:Hp),f d ds=.ok r->Rep All H v d->tyV X.K T v H)
 (hbase:iP o name X.env (bE o X.env)=bE o X.env:=by rfl)
 (hfew:((eo cpos (bp (e::es) X.env)).all (λx=>!x.1)&&(kH cpos (kK [] X.env)).all (λx=>x.1.isSome)
  &&ϒ ((e::es).length+([]:aa gi).length+(if ([]:aa gi).isEmpty then 0 else 1)<30))=ag:=by rfl)
 (hline:(apos.endLine==cpos.line)=ag:=by rfl)(hs:bp (e::es) X.env=(ai,bE e X.env)::bp es X.env:=by rfl)(hplain:(eo cpos (bp es X.env)).any (·.1)=ai:=by rfl) :
  PE X (.Call (.Attribute o name apos) (e::es) [] cpos) (gE (bM f fo fs) fr):=
 PE.imp (ZJ pa slot hty hm ho ha hbase hfew hline hs hplain) λσ H Q z0=>by
  obtain⟨ρ,d,E,h,q⟩:=z0;obtain⟨x,h1,h⟩:=bF h;obtain⟨ds,h2,h⟩:=bF h;exact⟨ρ,x,E,h1,λv H1 s1 r1 _=>⟨hT x ds d v H1 h r1,ρ,ds,E.same s1,h2,λvs H2 s2 r2 _=>⟨x,ds,d,r1.same s2,r2,h,q.imp (s1.trans s2) λz=>z⟩⟩⟩
theorem aI2{X:Cx}(h:aE0 d ds=.ok r)(rp:Rep All H v d):tyV X.K "dict" v H:=by
 have:∃kvs,d=.dct kvs:=by
  unfold aE0 at h;split at h
  ·exact⟨_,rfl⟩
  ·exact⟨_,rfl⟩
  ·exact bx h
 obtain⟨kvs,rfl⟩:=this;cases rp with
 |dK e _ _ _=>exact .inr (.inr (.inl ⟨rfl,.inl ⟨_,e⟩⟩))
 |dT e _ _ _=>exact .inr (.inr (.inl ⟨rfl,.inr ⟨_,e⟩⟩))
theorem aMo(hu:X.A.units+20<bm):MtR X "dict.get" (rm aE0 ai):=by
 rintro Ψ s σ H x xs v us Q I rv vr ⟨a,ds,d,ra,rs,h,k⟩;unfold aE0 at h;split at h
 ·split at h
  ·rename_i hf;cases h;obtain⟨vv,uu,rfl,rfl,r,rk⟩:=mU rs vr;obtain⟨H1,a1,o,rfl,I1,bk,g,hc⟩:=aA7 I ra r hf;cases rv;refine aM0 (by lia) I1 g rk λw' s' I' rw'=>⟨_,H,bk s' I',rw',?_⟩
   rcases hc with ⟨rfl,h2⟩|⟨w,dd,rfl,h2,h3⟩
   ·rw[h2] at k;exact k.non
   ·rw[h2] at k;exact k.self h3 λz=>by cases z
  ·exact bx h
 ·split at h
  ·rename_i hf;cases h;cases rs with
   |cons r t=>
    cases t with
    |cons r' t=>
     cases t;cases vr with
     |cons rk vt=>
      cases vt with
      |cons rk' vt=>
       cases vt;obtain⟨H1,a1,o,rfl,I1,bk,g,hc⟩:=aA7 I ra r hf;cases rv;refine aM1 (by lia) I1 g rk rk' λw' s' I' rw'=>⟨_,H,bk s' I',rw',?_⟩
       rcases hc with ⟨rfl,h2⟩|⟨w,dd,rfl,h2,h3⟩
       ·rw[h2] at k;exact k.self r' λz=>by cases z
       ·rw[h2] at k;exact k.self h3 λz=>by cases z
  ·exact bx h
 ·exact bx h
noncomputable def spD(f:aa D->Res D)(n:ah):Sp:=λvs H Q _=>∃ds d,ds.length=n/\bQ All H vs ds/\f ds=.ok d/\kR H d ag Q
theorem aAd{E:XK}(h:spD f n vs H Q E):vs.length=n:=by
 obtain⟨ds,d,h1,r,_⟩:=h;rw[r.length,h1]
theorem aI3(F:WF X.prog X.w X.K X.mg X.base CX0 k fad fd ps (spD f n))(hr:vK k X.A)(hg:Gl X x)(hm:X.mg x=af (.ref fad))(hk:lz X.K (.ref fad)=ag)(hb:Binds X.K fd ps [])
 (ha:PA X (e::es) (gA fs rr))(hdb:nDb x:=by decide)(he:bp (e::es) X.env=(ai,bE e X.env)::bp es X.env:=by rfl)(hpl:(eo pos (bp es X.env)).any (·.1)=ai:=by rfl) :
  PE X (.Call (.Name x p) (e::es) [] pos) (gE (aO (cD n f) fs) ag):=
 PE.imp (aHc F hr hg hm hk hb .nil aP7 ha hdb he hpl) λσ H Q z0=>by
  obtain⟨ρ,d,E,h,q⟩:=z0;obtain⟨ds,h1,h⟩:=bF h;unfold cD at h;split at h
  ·rename_i hl;exact⟨ρ,ds,E,h1,λvs H1 s1 r1 _=>⟨ds,d,eh hl,by rw[dy];exact r1,h,q.imp s1 id⟩⟩
  ·exact bx h
end
end
noncomputable def GP(m:ah)(xs:aa D):aa D:=xs.zipIdx.map λp=>.tup [.int ((m+p.2:ah):ae),p.1]
section
variable [KFrag]
def aQj(K:bz)(m:ah)(a:ak):It:=
 ⟨λi H=>∃xs x,SqL K H a xs/\xs[i]?=af x,λi H v H'=>∃t x,(∀xs,SqL K H a xs->xs[i]?=af x)/\v=.ref t/\H t=am/\H'=upd H t (.tup [.int ((m+i:ah):ae),x]),λi H=>∃xs,SqL K H a xs/\xs.length<=i⟩
theorem aEc{i:ah}:(GP m xs)[i]?=(xs[i]?).map λd=>.tup [.int ((m+i:ah):ae),d]:=by
 unfold GP;rw[fu,List.getElem?_zipIdx,Aj];cases xs[i]?<;>rfl
structure ItQ(K:bz)(P:ak->Prop)(J:It)(H:Hp)(items:aa D):Prop where
 it:∀(P':ak->Prop)(H':Hp),FP P H H'->(∀a o,H a=af o->P a->P' a)->(∀i,items.length<=i->J.stop i H')/\∀i d,items[i]?=af d->J.go i H'/\∀x H'',J.yld i H' x H''->cR H' H''/\Rep P' H'' x d
section
variable {K:bz} {P P':ak->Prop} {J:It} {H H':Hp} {items:aa D}
theorem ItQ.keep'(h:ItQ K P J H items)(k:FP P H H')(m:∀a o,H a=af o->P a->P' a):ItQ K P' J H' items:=
 ⟨λP2 H2 k2 m2=>h.it P2 H2 (λa o e hp=>k2 a o (k a o e hp) (hp.imp (m a o e) id)) λa o e hp=>m2 a o (k a o e (.inl hp)) (m a o e hp)⟩
theorem ItQ.keep(h:ItQ K P J H items)(k:FP P H H')(m:∀a,P a->P' a):ItQ K P' J H' items:=h.keep' k λa _ _=>m a
theorem ItQ.stop(h:ItQ K P J H items)(hi:items.length<=i):J.stop i H:=(h.it P H (λ_ _ e _=>e) λ_ _ _ hp=>hp).1 i hi
theorem ItQ.go(h:ItQ K P J H items)(hi:items[i]?=af d):J.go i H/\∀x H',J.yld i H x H'->cR H H'/\Rep P H' x d:=(h.it P H (λ_ _ e _=>e) λ_ _ _ hp=>hp).2 i d hi
theorem ItQ.lst(a:ak)(e:J=Itl K a)(r:Rep P H (.ref a) (.lst items)):ItQ K P J H items:=by
 refine⟨λP H kk mm=>?_⟩;have r:=r.WR kk mm;refine⟨λi hi=>?_,λi d hi=>?_⟩
 ·subst e;obtain⟨a',xs,e,hq,rr⟩:=r.jU;cases e;exact⟨xs,hq,by rw[rr.length];exact hi⟩
 ·subst e;obtain⟨a',xs,e,hq,rr⟩:=r.jU;cases e;obtain⟨v,h1,h2⟩:=rr.get hi;refine⟨⟨xs,v,hq,h1⟩,λx H' ⟨e,hy⟩=>?_⟩;subst e;refine⟨cR.refl _,?_⟩;have:=hy xs hq;rw[h1] at this;cases this;exact h2
theorem ItQ.tup(a:ak)(e:J=Itt K a)(r:Rep P H (.ref a) (.tup items)):ItQ K P J H items:=by
 refine⟨λP H kk mm=>?_⟩;have r:=r.WR kk mm;refine⟨λi hi=>?_,λi d hi=>?_⟩
 ·subst e;obtain⟨a',xs,e,hq,rr⟩:=r.g_;cases e;exact⟨xs,.of hq,by rw[rr.length];exact hi⟩
 ·subst e;obtain⟨a',xs,e,hq,rr⟩:=r.g_;cases e;obtain⟨v,h1,h2⟩:=rr.get hi;refine⟨⟨xs,v,.of hq,h1⟩,λx H' ⟨e,hy⟩=>?_⟩;subst e;refine⟨cR.refl _,?_⟩;have:=hy xs (.of hq);rw[h1] at this;cases this;exact h2
theorem ItQ.rng(lo:ae)(n:ah)(e:J=Itr lo n)(r:items=(bn n).map λ(k:ah)=>δ (lo+k)):ItQ K P J H items:=by
 refine⟨λP H k m=>?_⟩;refine⟨λi hi=>?_,λi d hi=>?_⟩
 ·subst e r;show n<=i;simpa using hi
 ·subst e r;have hlt:i<n:=by
   have:=(c9.mp hi).1;simpa using this
  refine⟨hlt,λx H' ⟨e,hy⟩=>?_⟩;subst e;have e2:δ (lo+(i:ae))=d:=by simpa[hlt] using hi
  rw[hy,<-e2];exact⟨cR.refl _,.int _⟩
theorem ItQ.enf(m:ah)(a:ak)(ds:aa D)(e:J=aQj K m a)(r:Rep P H (.ref a) (.lst ds))(h:items=GP m ds):ItQ K P J H items:=by
 refine⟨λP H kk mm=>?_⟩;have r:=r.WR kk mm;refine⟨λi hi=>?_,λi d hi=>?_⟩
 ·subst e h;obtain⟨a',xs,e,hq,rr⟩:=r.jU;cases e;exact⟨xs,hq,by rw[rr.length];simpa[GP] using hi⟩
 ·subst e h;obtain⟨a',xs,e,hq,rr⟩:=r.jU;cases e;rw[aEc] at hi;obtain⟨y,hd,rfl⟩:=k5.mp hi;obtain⟨v,h1,h2⟩:=rr.get hd;refine⟨⟨xs,v,hq,h1⟩,λx H' ⟨t,u,hy,e1,e2,e3⟩=>?_⟩;subst e1 e3;have:=hy xs hq;rw[h1] at this;cases this;have sp:cR H (upd H t (.tup [.int ((m+i:ah):ae),v])):=cR.upd e2;exact⟨sp,.tup aN (.cons (.int _) (.cons (h2.same sp) .nil))⟩
theorem ItQ.scr(a:ak)(hK:KFrag.K=K)(e:J=Itl K a)(r:Rep P H (.ref a) (.scr items)):ItQ K P J H items:=by
 refine⟨λP H kk mm=>?_⟩;have r:=r.WR kk mm;refine⟨λi hi=>?_,λi d hi=>?_⟩
 ·subst e;cases r with
  |frz ee rr=>exact⟨_,ee.sq hK,by rw[rr.length];exact hi⟩
 ·subst e;cases r with
  |@frz _ xs _ ee rr=>
   obtain⟨v,h1,h2⟩:=rr.get hi;refine⟨⟨xs,v,ee.sq hK,h1⟩,λx H' ⟨e,hy⟩=>?_⟩;subst e;refine⟨cR.refl _,?_⟩;have:=hy xs (ee.sq hK);rw[h1] at this;cases this;exact h2
end
noncomputable def gI(K:bz)(f:FI):TI:=λσ H R=>∃ρ items k,ER H σ ρ/\f ρ=.ok (items,k)/\∀J H1,cR H H1->ItQ K All J H1 items->(k=ag->ItQ K (New H) J H1 items)->R J H1
def gIV(K:bz)(i:ah):TI:=λσ H R=>∃v d items,σ[i]?=af (af v)/\Rep All H v d/\o8 d=.ok items/\∀J,(∀P:ak->Prop,Rep P H v d->ItQ K P J H items)->R J H
section
variable {X:Cx} {tg l a b:Expr} {fl:FE} {rl rr:ap} {fs:FA} {p pos:bo}
theorem GQ(I1:Inv X Ψ σ H1 s1)(r:Rep All H1 v d)(ru:RelV v u)(hi:o8 d=.ok items)
 (q:∀J,(∀P:ak->Prop,Rep P H1 v d->ItQ X.K P J H1 items)->R J H1):ϑ (aw X.prog X.w) X.A (fE u) (PIE X Ψ σ tg R) X.xe s1:=by
 cases d<;>simp only[o8] at hi<;>cases hi
 ·obtain⟨a,xs,rfl,e,rr⟩:=r.g_;cases ru;obtain⟨its,rv,p,hz⟩:=I1.tuple (.of e);refine oQ (show s1.heap.IsTuple a its.toArray from p) ?_;refine⟨s1.heap.objs.size,[s1.heap.objs.size],_,_,H1,rfl,I1.kept λb o e=>b6 _ e,V8 a _,⟨_,c8 _ rfl,rfl,rfl⟩,λb hb=>?_,q _ λP r=>.tup a rfl r⟩;have e:b=s1.heap.objs.size:=by simpa using hb
  subst e;exact I1.aH6 (bj _) (I1.hok.fresh (bj _))
 ·obtain⟨a,xs,rfl,e,rr⟩:=r.jU;cases ru;obtain⟨its,rv,p,hz⟩:=I1.list e;refine kg p.isList ?_;refine⟨s1.heap.objs.size,[s1.heap.objs.size],_,_,H1,rfl,I1.kept λb o e=>b6 _ e,wD a _,⟨_,c8 _ rfl,rfl,rfl⟩,λb hb=>?_,q _ λP r=>.lst a rfl r⟩;have e:b=s1.heap.objs.size:=by simpa using hb
  subst e;exact I1.aH6 (bj _) (I1.hok.fresh (bj _))
theorem jK(hl:PE X l (gE fl rl)):PI X tg l (gI X.K (cX fl rl)):=by
 rintro Ψ s σ H R I ⟨ρ,items,k,E,h,q⟩;obtain⟨d,h1,h⟩:=bF h;obtain⟨its,h2,h⟩:=bF h;cases h;refine thn (hl Ψ s σ H _ I ⟨ρ,d,E,h1,λv H1 s1 r1 n1=>(show(∃d',Rep All H1 v d/\d'=d/\∀J,(∀P:ak->Prop,Rep P H1 v d->ItQ X.K P J H1 items)->R J H1) from ⟨d,r1,rfl,λJ hJ=>q J H1 s1 (hJ _ r1) λhk=>hJ _ ?_⟩)⟩) λu s1 ⟨v,H1,I1,ru,d',r1,e,q1⟩=>GQ I1 r1 ru h2 q1
 rw[hI] at hk;rcases hk with hk|hk
 ·exact n1 hk
 ·exact r1.bT hk
theorem aMp(hN:X.N[i]?=af x)(hv:Vis X.env.scope x)(hd:nDb x:=by decide)(hcd:nCd x:=by decide):PI X tg (.Name x pos) (gIV X.K i):=by
 rintro Ψ s σ H R I ⟨v,d,items,hσ,r,hi,q⟩;exact thn (j9 hN hv hd hcd Ψ s σ H (λw H1=>w=v/\H1=H) I ⟨v,hσ,rfl,rfl⟩) λu s1 z0=>by
  obtain⟨w,H1,I1,ru,e1,e2⟩:=z0;subst e1 e2;exact GQ I1 r ru hi q
theorem W3(h:wN i=ag):-(2 ^ 62)<=i/\i<2 ^ 62:=by
 simp only[wN,bc,eM] at h;exact h
theorem PI.imp(h:PI X tg l w)(i:∀σ H R,w' σ H R->w σ H R):PI X tg l w':=λΨ s σ H R I q=>h Ψ s σ H R I (i σ H R q)
theorem lC(hg:Gl X "range")(hm:X.mg "range"=am)(ha:PA X [a] (gA fs rr))(hs:bp [a] X.env=[(ai,bE a X.env)]:=by rfl):PI X tg (.Call (.Name "range" p) [a] [] pos) (gI X.K (oW fs m_)):=
 PI.imp (Y6 hg hm ha hs) λσ H R z0=>by
  obtain⟨ρ,items,k,E,h,q⟩:=z0;obtain⟨xs,h1,h⟩:=bF h;unfold m_ at h;split at h
  ·split at h
   ·rename_i hb;cases h;obtain⟨b1,b2⟩:=W3 hb;refine⟨ρ,_,E,h1,λvs H1 s1 r1 _=>?_⟩;cases r1 with
    |cons r t=>
     cases t;cases r.inv;exact⟨_,rfl,b1,b2,q _ H1 s1 (.rng 0 _ rfl rfl) λ_=>.rng 0 _ rfl rfl⟩
   ·exact bx h
  ·exact bx h
end
theorem aEd(n:ah)(ρ bs:aa D)(i:ah)(h:i<n):(S5 n ρ++bs).getD i .uD=ρ.getD i .uD:=by
 rw[cy,jq (by simp[S5];exact h)];simp[S5,h]
theorem T7(n:ah)(ρ:aa D):(S5 n ρ).length=n:=by simp[S5]
def TgC(g:TG)(t:D->Res (aa D))(n m:ah):Prop:=∀(v:V)(d:D)(bs:aa D)(σ:L2.St)(H:Hp)(Q:L2.St->Hp->Prop),σ.length=n->Rep All H v d->t d=.ok bs->
 (∀σ2,Ext (σ++b5 m am) σ2->(∀j b,bs[j]?=af b->∃w,σ2[n+j]?=af (af w)/\Rep All H w b)->Q σ2 H)->g v (σ++b5 m am) H Q
theorem ER.ext(E:ER H σ ρ)(hn:σ.length=n)(x:Ext (σ++b5 m am) σ2)(hb:∀j b,bs[j]?=af b->∃w,σ2[n+j]?=af (af w)/\Rep All H w b):ER H σ2 (S5 n ρ++bs):=by
 intro i hi;by_cases h:i<n
 ·rw[aEd n ρ bs i h] at hi ⊢;obtain⟨v,h1,h2⟩:=E i hi;exact⟨v,x.2 i v (by rw[jq (by rw[hn];exact h)];exact h1),h2⟩
 ·have e:(S5 n ρ++bs).getD i .uD=bs.getD (i-n) .uD:=by
   rw[cy,ii (by rw[T7];lia),T7,<-cy]
  rw[e] at hi ⊢;cases hq:bs[i-n]? with
  |none=>rw[cy,hq] at hi;exact az rfl hi
  |some b=>
   obtain⟨w,h1,h2⟩:=hb (i-n) b hq;rw[cy,hq];exact⟨w,by rw[<-h1];congr 1;lia,h2⟩
theorem sJ{K:bz}{n m:ah}{g:TG}{tc:TT}(tg:TgC g t n m)(hc:∀σ H Q,gT c σ H Q->tc σ H Q){σ:L2.St}{H:Hp}{Q:VK}(hn:σ.length=n)(h:gE (e_ n it t c f k) ag σ H Q) :
  QD (gI K it) g tc (gE f k) m σ H Q:=by
 obtain⟨ρ,d,E,h,q⟩:=h;obtain⟨⟨items,kk⟩,h1,h⟩:=bF h;split at h
 ·rename_i hlim;obtain⟨ys,h2,h⟩:=bF h;cases h;refine⟨ρ,items,kk,E,h1,λJ H1 s1 hJ _ p hp=>?_⟩;have hp0:H p=am:=s1.free hp;refine⟨λi n' vs H'=>n'=items.length-i/\i<=items.length/\H' p=af (.lst vs)/\cR H1 H'/\∃acc,acc.length<=i/\bQ (λa=>H a=am/\a≠p) H' vs acc/\lZ (qX n t c f k ρ) acc (items.drop i)=.ok ys,⟨items.length,?_⟩,?_⟩
  ·exact⟨rfl,eL _,aN,cR.upd hp,[],eL _,.nil,h2⟩
  ·rintro i n' vs H' ⟨rfl,hi,hH,sm,acc,hal,racc,hf⟩;refine⟨hH,?_⟩;have hJ':ItQ K All J H' items:=hJ.keep (.same sm) λ_ z=>z
   rcases oe i items.length with hlt|hge
   ·refine .inr ?_;have e:items[i]?=af items[i]:=cn hlt;obtain⟨g1,g2⟩:=hJ'.go e;have hl1:items.length<=lim:=eh hlim;refine⟨g1,?_,λx H2 hy=>?_⟩
    ·rw[racc.length];exact Az hal (du hlt (c6 hl1 (by rw[eC];decide)))
    ·obtain⟨sH,rx⟩:=g2 x H2 hy;have hH:=sH p _ hH;have sm:=sm.trans sH;have racc:=racc.same sH;rw[mh hlt] at hf;obtain⟨acc2,hs,hf⟩:=bF hf;obtain⟨bs,hb,hs⟩:=bF hs;obtain⟨ok,hok,hs⟩:=bF hs;refine tg x items[i] bs σ H2 _ hn rx hb λσ2 hx hbs=>⟨hx,hc _ _ _ ?_⟩
     have E2:ER H2 σ2 (S5 n ρ++bs):=(E.same (s1.trans sm)).ext hn hx hbs;refine⟨_,ok,E2,hok,λH4 s4=>?_⟩;cases ok with
     |true=>
      rw[ar rfl];rw[ar rfl] at hs;obtain⟨y,hy2,hs⟩:=bF hs;split at hs
      ·rename_i hk;cases hs;refine⟨_,y,E2.same s4,hy2,λw H5 s5 r5 n5=>⟨s5 p _ (s4 p _ hH),items.length-(i+1),by lia,rfl,hlt,aN,?_,acc++[y],?_,?_,hf⟩⟩
       ·exact λb o e=>by
         rw[a_ (eV e hp)];exact s5 b o (s4 b o (sm b o e))
       ·rw[cb,fx];lia
       ·have hp5:H5 p=af (.lst vs):=s5 p _ (s4 p _ hH);have ry:Rep (λa=>H a=am/\a≠p) H5 w y:=by
         rw[hI] at hk;rcases hk with hk|hk
         ·exact(n5 hk).mono λa ha=>⟨((s1.trans sm).trans s4).free ha,λz=>by subst z;have h0:=s4 _ _ hH;rw[show H4 _=am from ha] at h0;cases h0⟩
         ·exact r5.bT hk
        have all:bQ (λa=>H a=am/\a≠p) H5 (vs++[w]) (acc++[y]):=(racc.same (s4.trans s5)).snoc ry;refine all.keep (λb o e hb=>?_) λ_ z=>z
        rw[a_]
        ·exact e
        ·rcases hb with hb|hb
         ·exact hb.2
         ·intro z;subst z;rw[hp5] at e;cases e;cases hb
      ·exact bx hs
     |false=>
      rw[aq (by simp)];rw[aq (by simp)] at hs;cases hs;exact⟨items.length-(i+1),by lia,rfl,hlt,s4 p _ hH,sm.trans s4,acc,by lia,racc.same s4,hf⟩
   ·refine .inl ⟨hJ'.stop hge,?_⟩;rw[oS hge] at hf;cases hf;exact q _ _ (s1.trans sm) (.lst hH trivial racc.all) λ_=>.lst hH hp0 (racc.mono λa z=>z.1)
 ·exact bx h
def gIx:aa ah->TGs
 |[]=>aQd
 |i::is=>aLf (yW i) (gIx is)
noncomputable def lH:aa ah->aa V->L2.St->L2.St
 |i::is,v::vs,σ=>lH is vs (σ.set i (af v))
 |_,_,σ=>σ
theorem GR:∀(is:aa ah)(vs:aa V)(σ:L2.St),vs.length=is.length->Q (lH is vs σ) H->gIx is vs σ H Q
 |[],[],σ,_,q=>⟨rfl,q⟩
 |i::is,v::vs,σ,h,q=>⟨v,vs,rfl,GR is vs (σ.set i (af v)) (by simpa using h) q⟩
 |[],_::_,_,h,_=>by simp at h
 |_::_,[],_,h,_=>by simp at h
theorem KZ:∀(is:aa ah)(vs:aa V)(σ:L2.St),(lH is vs σ).length=σ.length
 |[],_,_=>by simp[lH]
 |_::_,[],_=>by simp[lH]
 |i::is,v::vs,σ=>by rw[lH,KZ is vs];simp
theorem xJ:∀(is:aa ah)(vs:aa V)(σ:L2.St)(k:ah),k∉is->(lH is vs σ)[k]?=σ[k]?
 |[],_,_,_,_=>by simp[lH]
 |_::_,[],_,_,_=>by simp[lH]
 |i::is,v::vs,σ,k,h=>by
  rw[bd,fy] at h;rw[lH,xJ is vs _ k h.2,dw (Ne.symm h.1)]
theorem T8:∀(is:aa ah)(vs:aa V)(σ:L2.St)(j i:ah)(v:V),is.Nodup->(∀i∈is,i<σ.length)->is[j]?=af i->vs[j]?=af v->(lH is vs σ)[i]?=af (af v)
 |[],_,_,_,_,_,_,_,h,_=>by simp at h
 |_::_,[],_,_,_,_,_,_,_,h=>by simp at h
 |a::is,w::vs,σ,0,i,v,hn,hl,h1,h2=>by
  have e1:a=i:=by simpa using h1
  have e2:w=v:=by simpa using h2
  subst e1 e2;rw[lH,xJ is vs _ a (cj.mp hn).1,fT (hl a (bh ..))]
 |a::is,w::vs,σ,j+1,i,v,hn,hl,h1,h2=>by
  rw[lH];exact T8 is vs _ j i v (cj.mp hn).2 (λi hi=>by rw[List.length_set];exact hl i (bf _ hi)) (by simpa using h1) (by simpa using h2)
theorem uA(n:ah):TgC (yW n) z_ n 1:=by
 intro v d bs σ H Q hn r h q;cases h;have hl:(σ++b5 1 (am:av V)).length=n+1:=by simp[hn]
 refine q _ ⟨by simp,λi w hi=>?_⟩ λj b hj=>?_
 ·have:i≠n:=λz=>by
   subst z;rw[ii (by lia)] at hi;simp[hn] at hi
  rw[dw (Ne.symm this)];exact hi
 ·have e:j=0:=by
   have:=(c9.mp hj).1;simp at this;exact this
  subst e;have e:d=b:=by simpa using hj
  subst e;exact⟨v,by rw[Nat.add_zero,fT (by lia)],r⟩
theorem q_(K:bz)(n m:ah):TgC (aOf K m (gIx (List.range' n m))) (yU m) n m:=by
 intro v d bs σ H Q hn r h q;cases d<;>simp only[yU] at h<;>(try (exact bx h;done))
 split at h
 ·rename_i hm;cases h;have hm':=eh hm;obtain⟨a,xs,rfl,e,rr⟩:=r.g_;refine⟨a,xs,rfl,.of e,by rw[rr.length];exact hm',GR _ _ _ (by rw[rr.length,hm'];simp) ?_⟩;refine q _ ⟨by rw[KZ],λi w hi=>?_⟩ λj b hj=>?_
  ·rw[xJ]
   ·exact hi
   ·intro hmem;have:=AA.mp hmem;rw[ii (by lia)] at hi;rw[jp] at hi;split at hi<;>cases hi
  ·obtain⟨w,h1,h2⟩:=rr.get hj;have hjm:j<m:=by rw[<-hm'];exact(c9.mp hj).1
   refine⟨w,T8 _ _ _ j (n+j) w (List.nodup_range' ..) (λi hi=>?_) ?_ h1,h2⟩
   ·have:=AA.mp hi;simp[hn];lia
   ·rw[List.getElem?_range' hjm];simp
 ·exact bx h
section
theorem aI4(S:eE X.N X.env.scope scope ownN)(hn:X.N.length=n)(hm:ownN.length=m)(hcalm:X.calm=ag)(hi:PI X tg iter (gI X.K it))(ht:TgC g t n m)(hg:∀X',dU X X' scope ownN->PG X' tg g)(he:∀X',dU X X' scope ownN->PE X' elt (gE fe re))
 (hs:∀x,d6 iter X.env x=pure x):PE X (.ListComp elt [⟨tg,iter,[],0⟩] scope pos) (gE (e_ n it t gR fe re) ag):=by
 intro Ψ s σ H Q I h;subst hm;exact aE1 S hcalm hi hg he hs Ψ s σ H Q I (sJ ht (λσ H Q h=>by obtain⟨ρ,b,E,h,q⟩:=h;cases h;exact q H (cR.refl H)) (I.len.trans hn) h)
theorem aAe(S:eE X.N X.env.scope scope ownN)(hn:X.N.length=n)(hm:ownN.length=m)(hcalm:X.calm=ag)(hi:PI X tg iter (gI X.K it))(ht:TgC g t n m)(hg:∀X',dU X X' scope ownN->PG X' tg g)(hc:∀X',dU X X' scope ownN->PT X' c (gT gc))(he:∀X',dU X X' scope ownN->PE X' elt (gE fe re))
 (hs:∀x,d6 iter X.env x=pure x):PE X (.ListComp elt [⟨tg,iter,[c],0⟩] scope pos) (gE (e_ n it t gc fe re) ag):=by
 intro Ψ s σ H Q I h;subst hm;exact aA1 S hcalm hi hg hc he hs Ψ s σ H Q I (sJ ht (λσ H Q h=>h) (I.len.trans hn) h)
end
end
variable [KFrag]
theorem l_.bT:∀{v:aa (Key×V)}{d:aa (D×D)},l_ P H v d->θ (d.map (·.2))=ag->l_ P' H v d
 |_,_,.nil,_=>.nil
 |_,_,.cons r t,h=>by
  rw[aT,θ,bc] at h;exact .cons (r.bT h.1) (t.bT h.2)
theorem tZ.bT:∀{v:aa (aa Key×V)}{d:aa (D×D)},tZ P H v d->θ (d.map (·.2))=ag->tZ P' H v d
 |_,_,.nil,_=>.nil
 |_,_,.cons r t,h=>by
  rw[aT,θ,bc] at h;exact .cons (r.bT h.1) (t.bT h.2)
theorem Rep.aKz(r:Rep P H (.ref a) d)(h:inner d=ag)(hp:P' a):Rep P' H (.ref a) d:=by
 cases r with
 |tup e r=>cases h
 |lst e p r=>exact .lst e hp (r.bT h)
 |cel e p r=>exact .cel e hp (r.bT h)
 |frz e r=>cases h
 |dK e p r n=>exact .dK e hp (r.bT h) n
 |dT e p r n=>exact .dT e hp (r.bT h) n
 |fdK e r n=>cases h
 |fdT e r n=>cases h
 |exc n e q=>cases h
 |ins n e q=>cases h
 |adr=>cases h
 |dlK e p r n=>exact .dlK e hp (r.bT h) n
 |dlT e p r n=>exact .dlT e hp (r.bT h) n
def Own(own:ah->ap)(σ:L2.St)(a:ak):Prop:=∃i,own i=ag/\σ[i]?=af (af (.ref a))
structure ES(own:ah->ap)(H:Hp)(σ:L2.St)(ρ:aa D):Prop where
 len:σ.length=ρ.length
 at_:∀i,ρ.getD i .uD≠.uD->∃v,σ[i]?=af (af v)/\(own i=ai->Rep (λa=>¬Own own σ a) H v (ρ.getD i .uD))
 own:∀i v,own i=ag->σ[i]?=af (af v)->∃a o,v=.ref a/\Rep All H v (ρ.getD i .uD)/\inner (ρ.getD i .uD)=ag/\H a=af o/\vA o=ag/\∀j,own j=ag->σ[j]?=af (af (.ref a))->j=i
variable {own:ah->ap}
theorem ES.er(e:ES own H σ ρ):ER H σ ρ:=λi hi=>by
 obtain⟨v,h1,h2⟩:=e.at_ i hi;cases ho:own i with
 |false=>exact⟨v,h1,(h2 ho).all⟩
 |true=>
  obtain⟨a,o,_,h3,_⟩:=e.own i v ho h1;exact⟨v,h1,h3⟩
theorem ES.live(e:ES own H σ ρ)(h:Own own σ a):∃o,H a=af o/\vA o=ag:=by
 obtain⟨i,hi,hs⟩:=h;obtain⟨b,o,eb,_,_,h3,h4,_⟩:=e.own i _ hi hs;cases eb;exact⟨o,h3,h4⟩
theorem ES.same(e:ES own H σ ρ)(s:cR H H'):ES own H' σ ρ:=by
 refine⟨e.len,λi hi=>?_,λi v hi hv=>?_⟩
 ·obtain⟨v,h1,h2⟩:=e.at_ i hi;exact⟨v,h1,λho=>(h2 ho).same s⟩
 ·obtain⟨a,o,h1,h2,h3,h4,h5,h6⟩:=e.own i v hi hv;exact⟨a,o,h1,h2.same s,h3,s _ _ h4,h5,h6⟩
def KU(own:ah->ap)(σ:L2.St)(H:Hp)(σ':L2.St)(H':Hp):Prop:=∀a o,H a=af o->¬Own own σ a->H' a=af o/\¬Own own σ' a
theorem KU.trans(a:KU own σ H σ1 H1)(b:KU own σ1 H1 σ2 H2):KU own σ H σ2 H2:=λc o e n=>let ⟨e1,n1⟩:=a c o e n;b c o e1 n1
theorem KU.same(s:cR H H'):KU own σ H σ H':=λa o e n=>⟨s a o e,n⟩
theorem KU.keep(k:KU own σ H σ' H')(e:ES own H σ ρ):FP (λa=>¬Own own σ a) H H':=λa o h hp=>by
 by_cases ho:Own own σ a
 ·obtain⟨o',h1,h2⟩:=e.live ho;rw[h] at h1;cases h1;rcases hp with hp|hp
  ·exact az ho hp
  ·rw[h2] at hp;cases hp
 ·exact(k a o h ho).1
theorem KU.rep(k:KU own σ H σ' H')(e:ES own H σ ρ)(r:Rep (λa=>¬Own own σ a) H v d):Rep (λa=>¬Own own σ' a) H' v d:=r.WR (k.keep e) λa o h n=>(k a o h n).2
def kRt(own:ah->ap)(D:Ends)(σ:L2.St)(H:Hp)(d:Mi.D):Prop:=if own rtX=ag then ∃d0 ρ',d=.tup (d0::ρ')/\∀v σ' H',KU own σ H σ' H'->ES own H' σ' ρ'->Rep (λa=>(Own own σ a\/H a=am)/\∀i b xs,ρ'.getD i .uD=.cel b xs->a≠b) H' v d0->D.rt v H'
  else ∀v H',(∀a o,H a=af o->¬Own own σ a->H' a=af o)->Rep (λa=>Own own σ a\/H a=am) H' v d->D.rt v H'
theorem kRt.old{D:Ends}(h:kRt own D σ H d)(hx:own rtX=ai):∀v H',(∀a o,H a=af o->¬Own own σ a->H' a=af o)->Rep (λa=>Own own σ a\/H a=am) H' v d->D.rt v H':=by
 unfold kRt at h;rw[aq (by rw[hx];simp)] at h;exact h
theorem kRt.mk{D:Ends}(hx:own rtX=ai)(h:∀v H',(∀a o,H a=af o->¬Own own σ a->H' a=af o)->Rep (λa=>Own own σ a\/H a=am) H' v d->D.rt v H'):kRt own D σ H d:=by
 unfold kRt;rw[aq (by rw[hx];simp)];exact h
def kS(own:ah->ap)(D:Ends)(σ:L2.St)(H:Hp):Fl->Prop
 |.nx ρ=>∀σ' H',KU own σ H σ' H'->ES own H' σ' ρ->D.nx σ' H'
 |.bk ρ=>∀σ' H',KU own σ H σ' H'->ES own H' σ' ρ->D.bk σ' H'
 |.ct ρ=>∀σ' H',KU own σ H σ' H'->ES own H' σ' ρ->D.ct σ' H'
 |.rt d=>kRt own D σ H d
theorem kS.step{D:Ends}{σ σ':L2.St}{H H':Hp}{fl:Fl}(k:KU own σ H σ' H')(h:kS own D σ H fl):kS own D σ' H' fl:=by
 cases fl with
 |nx ρ=>exact λσ2 H2 k2 e=>h σ2 H2 (k.trans k2) e
 |bk ρ=>exact λσ2 H2 k2 e=>h σ2 H2 (k.trans k2) e
 |ct ρ=>exact λσ2 H2 k2 e=>h σ2 H2 (k.trans k2) e
 |rt d=>
  have old:∀a,(Own own σ' a\/H' a=am)->Own own σ a\/H a=am:=λa ha=>by
   cases q:H a with
   |none=>exact .inr rfl
   |some o=>
    refine .inl (mB λn=>?_);obtain⟨e1,n1⟩:=k a o q n;rcases ha with ha|ha
    ·exact n1 ha
    ·rw[e1] at ha;cases ha
  have h:kRt own D σ H d:=h;show kRt own D σ' H' d;unfold kRt at h ⊢;by_cases hx:own rtX=ag
  ·rw[ar hx] at h ⊢;obtain⟨d0,ρ',e,g⟩:=h;exact⟨d0,ρ',e,λv σ2 H2 k2 E2 r=>g v σ2 H2 (k.trans k2) E2 (r.mono λa ha=>⟨old a ha.1,ha.2⟩)⟩
  ·rw[aq hx] at h ⊢;exact λv H2 hk r=>h v H2 (λa o e n=>let ⟨e1,n1⟩:=k a o e n;hk a o e1 n1) (r.mono λa ha=>old a ha)
noncomputable def tS(own:ah->ap)(f:FS):TS:=λD σ H=>∃ρ fl,ES own H σ ρ/\f ρ=.ok fl/\kS own D σ H fl
theorem PS.imp{st:bi}(h:PS X st t)(i:∀D σ H,t' D σ H->t D σ H):PS X st t':=λΨ s σ H D I q=>h Ψ s σ H D I (i D σ H q)
theorem PSs.imp{st:aa bi}{t t':TS}(h:PSs X st t)(i:∀D σ H,t' D σ H->t D σ H):PSs X st t':=λΨ s σ H D I q=>h Ψ s σ H D I (i D σ H q)
section
variable {X:Cx} {a b c e:Expr} {pos pos':bo} {fe:FE} {re:ap} {gc:FT} {f g:FS} {st:bi} {rest s1 s2:aa bi}
theorem c7:PSs X [] (tS own jH):=PSs.imp Y0 λD σ H z0=>by
 obtain⟨ρ,fl,E,h,q⟩:=z0;cases h;exact q σ H (λa o e n=>⟨e,n⟩) E
theorem aI5{D:Ends}(h:tS own (bH f g) D σ H):aQc (tS own f) (tS own g) D σ H:=by
 obtain⟨ρ,fl,E,h,q⟩:=h;obtain⟨r,h1,h2⟩:=bF h;refine⟨ρ,r,E,h1,?_⟩;cases r with
 |nx ρ'=>exact λσ' H' k E'=>⟨ρ',fl,E',h2,q.step k⟩
 |bk ρ'=>cases h2;exact q
 |ct ρ'=>cases h2;exact q
 |rt d=>cases h2;exact q
theorem aF(h1:PS X st (tS own f))(h2:PSs X rest (tS own g)):PSs X (st::rest) (tS own (bH f g)):=PSs.imp (vJ h1 h2) λ_ _ _=>aI5
theorem aP(h1:PS X st (tS own f)):PSs X [st] (tS own f):=Y4 h1
theorem jB(hc:PT X c (gT gc))(ha:PSs X s1 (tS own f))(hb:PSs X s2 (tS own g)):PS X (.If c s1 s2 pos) (tS own (sIf gc f g)):=PS.imp (aLe hc ha hb) λD σ H z0=>by
 obtain⟨ρ,fl,E,h,q⟩:=z0;obtain⟨k,h1,h2⟩:=bF h;refine⟨ρ,k,E.er,h1,λH' s=>?_⟩;cases k with
 |true=>rw[ar rfl];rw[ar rfl] at h2;exact⟨ρ,fl,E.same s,h2,q.step (.same s)⟩
 |false=>rw[aq (by simp)];rw[aq (by simp)] at h2;exact⟨ρ,fl,E.same s,h2,q.step (.same s)⟩
theorem dC(he:PE X e (gE fe re))(hx:own rtX=ai:=by rfl):PS X (.Return (af e) pos) (tS own (jJ fe re)):=PS.imp (Y5 he) λD σ H z0=>by
 obtain⟨ρ,fl,E,h,q⟩:=z0;obtain⟨d,h1,h2⟩:=bF h;split at h2
 ·rename_i hk;cases h2;refine⟨ρ,d,E.er,h1,λv H' s r n=>q.old hx v H' (λa o e _=>s a o e) ?_⟩;rw[hI] at hk;rcases hk with hk|hk
  ·exact(n hk).mono λa ha=>.inr ha
  ·exact r.bT hk
 ·exact bx h2
theorem xK(ho:own i=ag)(hN:X.N[i]?=af x)(hv:Vis X.env.scope x)(hd:nDb x:=by decide)(hcd:nCd x:=by decide)(hx:own rtX=ai:=by rfl):PS X (.Return (af (.Name x pos')) pos) (tS own (J7 i)):=
 PS.imp (Y5 (j9 hN hv hd hcd)) λD σ H z0=>by
 obtain⟨ρ,fl,E,h,q⟩:=z0;obtain⟨d,h1,h2⟩:=bF h;cases h2;obtain⟨v,hv,r,e⟩:=E.er.var h1;obtain⟨a,o,rfl,r2,hin,_⟩:=E.own i v ho hv;rw[e] at hin;exact⟨_,hv,q.old hx _ H (λa o e _=>e) (r.aKz hin (.inl ⟨i,ho,hv⟩))⟩
theorem rA(ho:own i=ai)(a:ak):Own own (σ.set i (af v)) a↔Own own σ a:=by
 constructor
 ·rintro⟨j,hj,e⟩;have:i≠j:=λz=>by subst z;rw[ho] at hj;cases hj
  rw[dw this] at e;exact⟨j,hj,e⟩
 ·rintro⟨j,hj,e⟩;have:i≠j:=λz=>by subst z;rw[ho] at hj;cases hj
  exact⟨j,hj,by rw[dw this];exact e⟩
theorem bR{ρ:aa D}:(ρ.set i d).getD j .uD=if i=j/\i<ρ.length then d else ρ.getD j .uD:=by
 rw[cy,cy,mE];by_cases h:i=j
 ·subst h;by_cases h2:i<ρ.length
  ·simp[h2]
  ·simp[h2]
 ·simp[h]
theorem ES.set(E:ES own H σ ρ)(ho:own i=ai)(r:Rep (λa=>¬Own own σ a) H v d):ES own H (σ.set i (af v)) (ρ.set i d):=by
 have hO:(λa=>¬Own own (σ.set i (af v)) a)=λa=>¬Own own σ a:=funext λa=>by rw[rA ho]
 refine⟨by simp[E.len],λj hj=>?_,λj w hj hw=>?_⟩
 ·rw[bR] at hj ⊢;rw[hO];by_cases h:i=j/\i<ρ.length
  ·rw[ar h];obtain⟨rfl,hl⟩:=h;exact⟨v,by rw[fT (by rw[E.len];exact hl)],λ_=>r⟩
  ·rw[aq h] at hj ⊢;obtain⟨w,h1,h2⟩:=E.at_ j hj;by_cases hij:i=j
   ·subst hij;have:i<σ.length:=(c9.mp h1).1;rw[E.len] at this;exact az ⟨rfl,this⟩ h
   ·exact⟨w,by rw[dw hij];exact h1,h2⟩
 ·have hij:i≠j:=λz=>by subst z;rw[ho] at hj;cases hj
  rw[dw hij] at hw;rw[bR,aq λz=>hij z.1];obtain⟨a,o,h1,h2,h3,h4,h5,h6⟩:=E.own j w hj hw;refine⟨a,o,h1,h2,h3,h4,h5,λk hk hs=>h6 k hk ?_⟩;have hik:i≠k:=λz=>by subst z;rw[ho] at hk;cases hk
  rwa [dw hik] at hs
theorem ES.aQk{i:ah}{a:ak}{o:HO}{d:D}(E:ES own H σ ρ)(s:cR H H')(ho:own i=ag)(hn:H a=am)(r:Rep All H' (.ref a) d)(hin:inner d=ag)(ha:H' a=af o)(hm:vA o=ag) :
  ES own H' (σ.set i (af (.ref a))) (ρ.set i d)/\KU own σ H (σ.set i (af (.ref a))) H':=by
 have hO:∀b,H b≠am->¬Own own σ b->¬Own own (σ.set i (af (.ref a))) b:=λb hb n z0=>by
  obtain⟨j,hj,e⟩:=z0;by_cases hij:i=j
  ·subst hij;by_cases hl:i<σ.length
   ·rw[fT hl] at e;cases e;exact hb hn
   ·rw[mE,ar rfl,aq hl] at e;cases e
  ·rw[dw hij] at e;exact n ⟨j,hj,e⟩
 refine⟨⟨by simp[E.len],λj hj=>?_,λj w hj hw=>?_⟩,λb ob e n=>⟨s b ob e,hO b (by rw[e];simp) n⟩⟩
 ·rw[bR] at hj ⊢;by_cases h:i=j/\i<ρ.length
  ·rw[ar h];obtain⟨rfl,hl⟩:=h;exact⟨.ref a,by rw[fT (by rw[E.len];exact hl)],λz=>by rw[ho] at z;cases z⟩
  ·rw[aq h] at hj ⊢;obtain⟨w,h1,h2⟩:=E.at_ j hj;by_cases hij:i=j
   ·subst hij;have:i<σ.length:=(c9.mp h1).1;rw[E.len] at this;exact az ⟨rfl,this⟩ h
   ·exact⟨w,by rw[dw hij];exact h1,λhj=>((h2 hj).dom.same s).mono λb ⟨n,hb⟩=>hO b hb n⟩
 ·by_cases hij:i=j
  ·subst hij;have hl:i<σ.length:=by
    have:=(c9.mp hw).1;simpa using this
   rw[fT hl] at hw;cases hw;rw[bR,ar ⟨rfl,by rw[<-E.len];exact hl⟩];refine⟨a,o,rfl,r,hin,ha,hm,λk hk hs=>?_⟩;by_cases hik:i=k
   ·exact hik.symm
   ·rw[dw hik] at hs;obtain⟨o',h1,_⟩:=E.live ⟨k,hk,hs⟩;rw[hn] at h1;cases h1
  ·rw[dw hij] at hw;rw[bR,aq λz=>hij z.1];obtain⟨b,ob,h1,h2,h3,h4,h5,h6⟩:=E.own j w hj hw;refine⟨b,ob,h1,h2.same s,h3,s _ _ h4,h5,λk hk hs=>?_⟩;by_cases hik:i=k
   ·subst hik;by_cases hl:i<σ.length
    ·rw[fT hl] at hs;cases hs;rw[hn] at h4;cases h4
    ·rw[mE,ar rfl,aq hl] at hs;cases hs
   ·rw[dw hik] at hs;exact h6 k hk hs
theorem aGc(r:Rep P H v d)(hin:inner d=ag):∃a o,v=.ref a/\P a/\H a=af o/\vA o=ag:=by
 cases r with
 |lst e p r=>exact⟨_,_,rfl,p,e,rfl⟩
 |cel e p r=>exact⟨_,_,rfl,p,e,rfl⟩
 |dK e p r n=>exact⟨_,_,rfl,p,e,rfl⟩
 |dT e p r n=>exact⟨_,_,rfl,p,e,rfl⟩
 |dlK e p r n=>exact⟨_,_,rfl,p,e,rfl⟩
 |dlT e p r n=>exact⟨_,_,rfl,p,e,rfl⟩
 |fdK e r n=>cases hin
 |fdT e r n=>cases hin
 |_=>cases hin
theorem aI6(E:ES own H σ ρ)(r:Rep (New H) H' v d):Rep (λa=>¬Own own σ a) H' v d:=r.mono λa ha ho=>by
 obtain⟨o,h1,_⟩:=E.live ho;rw[show H a=am from ha] at h1;cases h1
theorem QM(ho:own i=o)(h:tS own (cF o i fe re) D' σ H):aKv (gE fe re) (yW i) D' σ H:=by
 obtain⟨ρ,fl,E,h,q⟩:=h;obtain⟨d,h1,h2⟩:=bF h;cases o with
 |true=>
  simp only[cx] at h2;split at h2
  ·rename_i hk;cases h2;refine⟨ρ,d,E.er,h1,λv H' s r n=>?_⟩;rw[bc] at hk;obtain⟨a,ob,rfl,hn,ha,hm⟩:=aGc (n hk.1) hk.2;obtain⟨E2,k⟩:=E.aQk s ho hn r hk.2 ha hm;exact q _ H' k E2
  ·exact bx h2
 |false=>
  simp only[hG,cK] at h2;split at h2
  ·rename_i hk;cases h2;refine⟨ρ,d,E.er,h1,λv H' s r n=>?_⟩;rw[hI] at hk;have r2:Rep (λa=>¬Own own σ a) H' v d:=by
    rcases hk with hk|hk
    ·exact aI6 E (n hk)
    ·exact r.bT hk
   exact q _ H' (λa ob e hn=>⟨s a ob e,by rw[rA ho];exact hn⟩) ((E.same s).set ho r2)
  ·exact bx h2
theorem aY(ho:own i=o)(hN:X.N.Nodup)(hi:X.N[i]?=af x)(hx:Loc X.env.scope x)(he:PE X e (gE fe re))(hs:dL e (af (.Name x pos')) pos.line X.env=pure ai:=by rfl)(hf:X.fn x=ag\/X.env.scope.names.lookup x=af .local:=by first|exact .inl rfl|exact .inr rfl|assumption) :
  PS X (.Assign [.Name x pos'] e pos) (tS own (cF o i fe re)):=PS.imp (JS hN hi hx he hs hf) λ_ _ _=>QM ho
theorem aRi{i:ah}{x:Str}{o:ap}(he:PE X e (gE fe re))(ho:own i=o:=by rfl)(hN:X.N.Nodup:=by assumption)(hi:X.N[i]?=af x:=by exact rfl)(hx:Loc X.env.scope x:=by trivial)(hs:dL e (af (.Name x pos')) pos.line X.env=pure ai:=by rfl)(hf:X.fn x=ag\/X.env.scope.names.lookup x=af .local:=by first|exact .inl rfl|exact .inr rfl|assumption):PS X (.Assign [.Name x pos'] e pos) (tS own (cF o i fe re)):=aY ho hN hi hx he hs hf
theorem aMq(ho:own i=ai)(hoj:own j=ai)(hN:X.N.Nodup)(hi:X.N[i]?=af x)(hx:Loc X.env.scope x)(hj:X.N[j]?=af y)(hy:Vis X.env.scope y)(hs:dL (.Name y py) (af (.Name x pos')) pos.line X.env=pure ai:=by rfl)(hf:X.fn x=ag\/X.env.scope.names.lookup x=af .local:=by first|exact .inl rfl|exact .inr rfl|assumption)
 (hd:(y==("__debug__" : Str))=ai:=by decide)(hcd:(y==("__classdict__" : Str))=ai:=by decide):PS X (.Assign [.Name x pos'] (.Name y py) pos) (tS own (sAl i j)):=PS.imp (JS hN hi hx (j9 hj hy hd hcd) hs hf) λD' σ H z0=>by
 obtain⟨ρ,fl,E,h,q⟩:=z0;obtain⟨d,h1,h2⟩:=bF h;cases h2;obtain⟨v,hv,r,e⟩:=E.er.var h1;have hne:ρ.getD j .uD≠.uD:=λz=>by
  rw[z] at e;subst e;exact Rep.uD r
 obtain⟨w,hw,hr⟩:=E.at_ j hne;rw[hv] at hw;cases hw;have r2:=hr hoj;rw[e] at r2;exact⟨v,hv,q _ H (λa ob e hn=>⟨e,by rw[rA ho];exact hn⟩) (E.set ho r2)⟩
theorem ES.mut{i:ah}{a:ak}{o:HO}{d:D}(E:ES own H σ ρ)(ho:own i=ag)(hi:σ[i]?=af (af (.ref a)))(hm:vA o=ag)(r:Rep All (upd H a o) (.ref a) d)(hin:inner d=ag) :
  ES own (upd H a o) σ (ρ.set i d)/\KU own σ H σ (upd H a o):=by
 have hOa:Own own σ a:=⟨i,ho,hi⟩
 obtain⟨a',oa,ea,_,_,hHa,hma,huq⟩:=E.own i _ ho hi;cases ea;have k:KU own σ H σ (upd H a o):=λb ob e n=>⟨by rw[a_ (λz=>by subst z;exact n hOa)];exact e,n⟩
 have hl:i<ρ.length:=by rw[<-E.len];exact(c9.mp hi).1
 refine⟨⟨by simp[E.len],λj hj=>?_,λj w hj hw=>?_⟩,k⟩
 ·rw[bR] at hj ⊢;by_cases h:i=j/\i<ρ.length
  ·obtain⟨rfl,_⟩:=h;exact⟨_,hi,λz=>by rw[ho] at z;cases z⟩
  ·rw[aq h] at hj ⊢;obtain⟨w,h1,h2⟩:=E.at_ j hj;exact⟨w,h1,λhj=>k.rep E (h2 hj)⟩
 ·by_cases hij:i=j
  ·subst hij;rw[hi] at hw;cases hw;rw[bR,ar ⟨rfl,hl⟩];exact⟨a,o,rfl,r,hin,aN,hm,huq⟩
  ·rw[bR,aq λz=>hij z.1];obtain⟨b,ob,h1,h2,h3,h4,h5,h6⟩:=E.own j w hj hw;subst h1;have hba:b≠a:=λz=>by subst z;exact hij (h6 i ho hi)
   refine⟨b,ob,rfl,?_,h3,by rw[a_ hba];exact h4,h5,h6⟩;refine(h2.aKz (P':=λc=>c=b) h3 rfl).keep (λc oc hc hp=>?_) λ_ _=>trivial
   rw[a_]
   ·exact hc
   ·intro z;subst z;rcases hp with hp|hp
    ·exact hba hp.symm
    ·rw[hHa] at hc;cases hc;rw[hma] at hp;cases hp
theorem ES.ownAt(E:ES own H σ ρ)(ho:own i=ag)(hd:ρ.getD i .uD≠.uD):∃a o,σ[i]?=af (af (.ref a))/\Rep All H (.ref a) (ρ.getD i .uD)/\inner (ρ.getD i .uD)=ag/\H a=af o/\vA o=ag:=by
 obtain⟨v,h1,_⟩:=E.at_ i hd;obtain⟨a,o,rfl,h2,h3,h4,h5,_⟩:=E.own i v ho h1;exact⟨a,o,h1,h2,h3,h4,h5⟩
theorem BR{a:ak}(r:Rep All H (.ref a) (.lst xs)):∃vs,H a=af (.lst vs)/\bQ All H vs xs:=by
 cases r with
 |lst e _ r=>exact⟨_,e,r⟩
theorem bQ.upd{a:ak}{xs:aa D}{o:HO}{ob:HO}(r:bQ All H vs xs)(hp:θ xs=ag)(ha:H a=af ob)(hm:vA ob=ag):bQ All (upd H a o) vs xs:=by
 refine(r.bT (P':=λ_=>cg) hp).keep (λc oc hc h=>?_) λ_ h=>h.elim
 rw[a_]
 ·exact hc
 ·intro z;subst z;rcases h with h|h
  ·exact h
  ·rw[ha] at hc;cases hc;rw[hm] at h;cases h
theorem nF:θ (xs++ys)=(θ xs&&θ ys):=by
 induction xs with
 |nil=>simp[θ]
 |cons x xs ih=>rw[eu,θ,θ,ih,yo]
theorem lJ(ho:own i=ag)(hN:X.N[i]?=af x)(hv:Vis X.env.scope x)(he:PE X e (gE fe re))(hd:nDb x:=by decide)(hcd:nCd x:=by decide)
 (hbase:iP (.Name x p1) "append" X.env (bE (.Name x p1) X.env)=bE (.Name x p1) X.env:=by rfl)
 (hs1:bp [e] X.env=(ai,bE e X.env)::bp [] X.env:=by rfl)
 (hfew:((eo cpos (bp [e] X.env)).all (λx=>!x.1)&&(kH cpos (kK [] X.env)).all (λx=>x.1.isSome)
  &&ϒ (([e]:aa Expr).length+([]:aa gi).length+(if ([]:aa gi).isEmpty then 0 else 1)<30))=ag:=by rfl)
 (hline:(apos.endLine==cpos.line)=ag:=by rfl)
 (hs:dL (.Call (.Attribute (.Name x p1) "append" apos) [e] [] cpos) am pos.line X.env=pure ai:=by rfl) :
  PS X (.Expr (.Call (.Attribute (.Name x p1) "append" apos) [e] [] cpos) pos) (tS own (o9 i fe)):=
 PS.imp (DP (ZJ mI tJ AB wJ (j9 hN hv hd hcd) (qT he wG hs1) hbase hfew hline hs1 rfl) hs) λD' σ H z0=>by
 obtain⟨ρ,fl,E,h,q⟩:=z0;obtain⟨d,h1,h2⟩:=bF h;split at h2
 ·rename_i xs hx;split at h2
  ·rename_i hk;cases h2;rw[bc] at hk;obtain⟨a,o,hσ,r,hin,ha,hm⟩:=E.ownAt ho (by rw[hx];intro z;cases z);rw[hx] at r hin;obtain⟨vs,hl,rr⟩:=BR r;refine⟨_,hσ,.inl ⟨rfl,vs,.of hl⟩,ρ,d,E.er,h1,λv H' s rv _=>⟨a,vs,v,rfl,rfl,s _ _ hl,by rw[rr.length];exact KD hk.1,?_⟩⟩;have E':=E.same s;have hl':=s _ _ hl;obtain⟨E2,k2⟩:=E'.mut ho hσ rfl (.lst aN trivial (((rr.same s).snoc rv).upd (by rw[nF];simp only[bc];exact⟨hin,by simp[θ,hk.2]⟩) hl' rfl)) (by show θ (xs++[d])=ag;rw[nF];simp only[bc];exact⟨hin,by simp[θ,hk.2]⟩);exact q _ _ ((KU.same s).trans k2) E2
  ·exact bx h2
 ·exact bx h2
end
end Mi
namespace L2
open PySem PySem.Spec PyProof.Rows
section
variable {X:Cx} {scope:fg} {own:aa Str}
theorem aEe{y:Str}{py:bo}{iy:ah}(hNn:X.N.Nodup)(hiy:X.N[iy]?=af y)(hxy:Loc X.env.scope y)(hfy:X.fn y=ag\/X.env.scope.names.lookup y=af .local){Ψ:aa (ak×ba)}{σ:St}{D:Ends}{p C:ak}{H5:Hp}{s6:ao}{m6:Str->av aj}(f:Inv X Ψ σ H5 s6)(k:YJ X Ψ H5 C)(n:s6.heap.Ns C m6)(q:yW iy (.ref p) σ H5 D.nx):k9 (aw X.prog X.w) X.A X.xe (af (ji (.Name y py) X.env)) (λ_ s'=>SP X Ψ D .next s') (.ref p) C (.ok .next) s6:=by
 obtain⟨oC,esC,epC,hoC,hdC,_⟩:=id n;have finP:=f.PB (pins':=Ψ++[(C,oC)]) λp hp=>(cf.mp hp).elim (λz=>f.pin p (dP _ z)) λz=>by
  have z':p=(C,oC):=by simpa using z
  subst z';exact⟨hoC,k.1,k.2.1,k.2.2.1,λv z=>by rw[hdC] at z;cases z⟩
 refine thn (aV (pos:=py) hNn hiy hxy hfy _ _ σ H5 (.ref p) (.ref p) D.nx finP rfl q) λ_ s7 ⟨σ7,H7,I7,q7⟩=>?_
 obtain⟨g7,hC7,_⟩:=I7.pin (C,oC) (dP _ (dP _ (by simp)));refine⟨m6,n.at' λo e=>?_,λh' sb=>⟨σ7,H7,Inv.turned (t':=s7.toks) I7.rN (λb o hb e=>sb.extBut b o hb e) hC7 k.2.1 k.2.2.2.1 k.2.2.2.2.1 k.2.2.2.2.2,q7⟩⟩;rw[hoC] at e;cases e;exact g7
theorem aMr{elt iter tg:Expr}{ifs:aa Expr}{wi:TI}{g:TG}{tc:TT}{te:TE}{pos:bo}(S:eE X.N X.env.scope scope own)(hcalm:X.calm=ag)(hi:PI X tg iter wi)
 (hg:∀X',dU X X' scope own->PG X' tg g)(hc:(ifs=[]/\tc=λ_ H Q=>Q ag H)\/∃c,ifs=[c]/\∀X',dU X X' scope own->PT X' c tc)(he:∀X',dU X X' scope own->PE X' elt te)
 (hs:∀x,d6 iter X.env x=pure x){y:Str}{py pos2:bo}{iy:ah}(hNn:X.N.Nodup)(hiy:X.N[iy]?=af y)(hxy:Loc X.env.scope y)(hfy:X.fn y=ag\/X.env.scope.names.lookup y=af .local)(hsw:dL (.ListComp elt [⟨tg,iter,ifs,0⟩] scope pos) (af (.Name y py)) pos2.line X.env=pure ag):PS X (.Assign [.Name y py] (.ListComp elt [⟨tg,iter,ifs,0⟩] scope pos) pos2) (aKv (QD wi g tc te own.length) (yW iy)):=by
 intro Ψ s σ H D I h;rw[exec_Assign_Name_used _ _ _ _ hsw];refine au (AC (au ?_));show ϑ _ X.A (do let _ <- yl (.ListComp elt [⟨tg,iter,ifs,0⟩] scope pos) scope X.env _ (ug []) ai (bE iter X.env) (af (ji (.Name y py) X.env))) _ _ s;exact au (eB (QF (QQ:=λ_ s'=>SP X Ψ D .next s') S hcalm hi hg hc he hs I h (aEe hNn hiy hxy hfy)) (λ_ s' hq=>aS (aS hq)) λ_ _ e=>e)
theorem aAf{elt iter tg c:Expr}{wi:TI}{g:TG}{tc:TT}{te:TE}{pos:bo}(S:eE X.N X.env.scope scope own)(hcalm:X.calm=ag)(hi:PI X tg iter wi)
 (hg:∀X',dU X X' scope own->PG X' tg g)(hc:∀X',dU X X' scope own->PT X' c tc)(he:∀X',dU X X' scope own->PE X' elt te)
 (hs:∀x,d6 iter X.env x=pure x){y:Str}{py pos2:bo}{iy:ah}(hNn:X.N.Nodup)(hiy:X.N[iy]?=af y)(hxy:Loc X.env.scope y)(hfy:X.fn y=ag\/X.env.scope.names.lookup y=af .local)(hsw:dL (.ListComp elt [⟨tg,iter,[c],0⟩] scope pos) (af (.Name y py)) pos2.line X.env=pure ag):PS X (.Assign [.Name y py] (.ListComp elt [⟨tg,iter,[c],0⟩] scope pos) pos2) (aKv (QD wi g tc te own.length) (yW iy)):=
 aMr S hcalm hi hg (.inr ⟨c,rfl,hc⟩) he hs hNn hiy hxy hfy hsw
theorem aEf{elt iter tg:Expr}{wi:TI}{g:TG}{te:TE}{pos:bo}(S:eE X.N X.env.scope scope own)(hcalm:X.calm=ag)(hi:PI X tg iter wi)
 (hg:∀X',dU X X' scope own->PG X' tg g)(he:∀X',dU X X' scope own->PE X' elt te)
 (hs:∀x,d6 iter X.env x=pure x){y:Str}{py pos2:bo}{iy:ah}(hNn:X.N.Nodup)(hiy:X.N[iy]?=af y)(hxy:Loc X.env.scope y)(hfy:X.fn y=ag\/X.env.scope.names.lookup y=af .local)(hsw:dL (.ListComp elt [⟨tg,iter,[],0⟩] scope pos) (af (.Name y py)) pos2.line X.env=pure ag):PS X (.Assign [.Name y py] (.ListComp elt [⟨tg,iter,[],0⟩] scope pos) pos2) (aKv (QD wi g (λ_ H Q=>Q ag H) te own.length) (yW iy)):=
 aMr S hcalm hi hg (.inl ⟨rfl,rfl⟩) he hs hNn hiy hxy hfy hsw
end
end L2
namespace Mi
open PySem L2 PySem.SeqAt PySem.Spec PyProof.Rows
section
variable [KFrag]
variable {own:ah->ap}
section
variable {X:Cx} {a b c e:Expr} {pos pos':bo} {fb fe:FE} {re:ap} {gc:FT} {f g:FS} {st:bi} {s1 s2:aa bi}
variable {scope:fg} {ownN:aa Str} {elt iter tg:Expr} {it:FI} {t:D->Res (aa D)} {gt:TG}
theorem aI7(S:eE X.N X.env.scope scope ownN)(hn:X.N.length=n)(hm:ownN.length=m)(hcalm:X.calm=ag)(hi:PI X tg iter (gI X.K it))(ht:TgC gt t n m)(hg:∀X',dU X X' scope ownN->PG X' tg gt)(he:∀X',dU X X' scope ownN->PE X' elt (gE fe re))
 (hs:∀x,d6 iter X.env x=pure x)(ho:own iy=o)(hNn:X.N.Nodup)(hiy:X.N[iy]?=af y)(hxy:Loc X.env.scope y)(hfy:X.fn y=ag\/X.env.scope.names.lookup y=af .local)(hsw:dL (.ListComp elt [⟨tg,iter,[],0⟩] scope pos) (af (.Name y py)) pos2.line X.env=pure ag) :
  PS X (.Assign [.Name y py] (.ListComp elt [⟨tg,iter,[],0⟩] scope pos) pos2) (tS own (cF o iy (e_ n it t gR fe re) ag)):=by
 intro Ψ s σ H D I h;subst hm;refine aEf S hcalm hi hg he hs hNn hiy hxy hfy hsw Ψ s σ H D I ?_;exact sJ ht (λσ H Q h=>by obtain⟨ρ,b,E,h,q⟩:=h;cases h;exact q H (cR.refl H)) (I.len.trans hn) (QM ho h)
theorem aAg(S:eE X.N X.env.scope scope ownN)(hn:X.N.length=n)(hm:ownN.length=m)(hcalm:X.calm=ag)(hi:PI X tg iter (gI X.K it))(ht:TgC gt t n m)(hg:∀X',dU X X' scope ownN->PG X' tg gt)(hc:∀X',dU X X' scope ownN->PT X' c (gT gc))(he:∀X',dU X X' scope ownN->PE X' elt (gE fe re))
 (hs:∀x,d6 iter X.env x=pure x)(ho:own iy=o)(hNn:X.N.Nodup)(hiy:X.N[iy]?=af y)(hxy:Loc X.env.scope y)(hfy:X.fn y=ag\/X.env.scope.names.lookup y=af .local)(hsw:dL (.ListComp elt [⟨tg,iter,[c],0⟩] scope pos) (af (.Name y py)) pos2.line X.env=pure ag) :
  PS X (.Assign [.Name y py] (.ListComp elt [⟨tg,iter,[c],0⟩] scope pos) pos2) (tS own (cF o iy (e_ n it t gc fe re) ag)):=by
 intro Ψ s σ H D I h;subst hm;refine aAf S hcalm hi hg hc he hs hNn hiy hxy hfy hsw Ψ s σ H D I ?_;exact sJ ht (λσ H Q h=>h) (I.len.trans hn) (QM ho h)
theorem GX[fc κ]{k:κ}{v:V}(e:p.1=k)(h:k∉r.map (·.1)):putK (p::r) k v=(k,v)::r:=by
 unfold putK;rw[ar (by simp[e]),aT,ar e,e]
 congr 1
 have:∀q∈r,(λkv:κ×V=>if kv.1=k then (kv.1,v) else kv) q=id q:=λq hq=>by
  have:q.1≠k:=λz=>h (ax.mpr ⟨q,hq,z⟩)
  simp[this]
 rw[cq this,eW]
theorem GZ[fc κ]{k:κ}{v:V}(e:¬p.1=k):putK (p::r) k v=p::putK r k v:=by
 unfold putK;rw[kX,bP e,l7];split
 ·rw[aT,aq e]
 ·rfl
theorem lK[fc κ]:∀{kvs:aa (κ×V)},(kvs.map (·.1)).Nodup->((putK kvs k v).map (·.1)).Nodup:=λ{kvs} h=>by
 by_cases hk:rM kvs k=am
 ·exact aHo v h hk
 ·unfold putK;rw[ar (by rw[rR];exact Option.isSome_iff_ne_none.mpr hk),bu];have:(λx:κ×V=>x.1) ∘ (λkv:κ×V=>if kv.1=k then (kv.1,v) else kv)=λx=>x.1:=by
   funext q
   simp only[B5];split<;>rfl
  rw[this];exact h
theorem vQ(rv:Rep P H v d):∀{kvs:aa (Key×V)}{ds:aa (D×D)},l_ P H kvs ds->(kvs.map (·.1)).Nodup->l_ P H (putK kvs k v) (putD ds (kD k) d)
 |_,_,.nil,_=>.cons rv .nil
 |_,_,.cons (k:=k') (v:=v') r t,hn=>by
  rw[aT] at hn;obtain⟨h1,h2⟩:=cj.mp hn;rw[putD,KN];by_cases h:k'=k
  ·subst h;rw[ar (by simp),GX rfl h1];exact .cons rv t
  ·rw[aq (by simpa using h),GZ h];exact .cons r (vQ rv t h2)
theorem G3(rv:Rep P H v d):∀{kvs:aa (aa Key×V)}{ds:aa (D×D)},tZ P H kvs ds->(kvs.map (·.1)).Nodup->tZ P H (putK kvs k v) (putD ds (.tup (k.map kD)) d)
 |_,_,.nil,_=>.cons rv .nil
 |_,_,.cons (k:=k') (v:=v') r t,hn=>by
  rw[aT] at hn;obtain⟨h1,h2⟩:=cj.mp hn;rw[putD,aI0];by_cases h:k'=k
  ·subst h;rw[ar (by simp),GX rfl h1];exact .cons rv t
  ·rw[aq (by simpa using h),GZ h];exact .cons r (G3 rv t h2)
theorem l_.length:∀{kvs:aa (Key×V)}{ds:aa (D×D)},l_ P H kvs ds->kvs.length=ds.length
 |_,_,.nil=>rfl
 |_,_,.cons _ t=>by rw[b9,b9,l_.length t]
theorem tZ.length:∀{kvs:aa (aa Key×V)}{ds:aa (D×D)},tZ P H kvs ds->kvs.length=ds.length
 |_,_,.nil=>rfl
 |_,_,.cons _ t=>by rw[b9,b9,tZ.length t]
theorem xM{a:ak}(ha:H a=af ob)(hm:vA ob=ag):FP (λ_=>cg) H (L2.upd H a o):=λc oc hc h=>by
 rw[a_]
 ·exact hc
 ·intro z;subst z;rcases h with h|h
  ·exact h.elim
  ·rw[ha] at hc;cases hc;rw[hm] at h;cases h
theorem jP(hd:d.pure=ag):∀{ds:aa (D×D)},θ (ds.map (·.2))=ag->θ ((putD ds k d).map (·.2))=ag
 |[],_=>by simp[putD,θ,hd]
 | (q,w)::r,h=>by
  rw[aT,θ,bc] at h;rw[putD];split
  ·rw[aT,θ,bc];exact⟨hd,h.2⟩
  ·rw[aT,θ,bc];exact⟨h.1,jP hd h.2⟩
theorem aI8{ad:ak}{y v:V}{ds:aa (D×D)}{k d:D}(I:Inv X Ψ σ H s)(rd:Rep All H (.ref ad) (.dct ds))(hin:θ (ds.map (·.2))=ag)(rk:Rep All H y k)(hk:lE ds k=ag)(hl:ds.length<bb)(rv:Rep All H v d)(hd:d.pure=ag) :
  ∃H1 o,Inv X Ψ σ H1 s/\aDi H1 ad y v (L2.upd H ad o)/\vA o=ag/\Rep All (L2.upd H ad o) (.ref ad) (.dct (putD ds k d)):=by
 unfold lE at hk;rw[bc] at hk;obtain⟨h1,h2⟩:=hk;have rv':Rep (λ_=>cg) H v d:=rv.bT hd;cases rd with
 |@dK _ kvs ds e _ r n=>
  have hlen:=r.length;rcases lG h1 rk with ⟨q,rfl,rfl⟩|⟨b,ks,rfl,eb,rfl⟩
  ·refine⟨H,.dK (putK kvs q v),I,.k e (by lia),rfl,.dK aN trivial ?_ (lK n)⟩;exact(vQ rv' (r.bT hin) n).keep (xM e rfl) λ_ z=>z.elim
  ·cases r with
   |nil=>
    refine⟨L2.upd H ad (.dT []),.dT (putK [] ks v),t7 I e,?_,rfl,.dT aN trivial ?_ (lK eT)⟩
    ·have:=aDi.t (H:=L2.upd H ad (.dT [])) (a:=ad) (b:=b) (kvs:=[]) (k:=ks) (v:=v) aN (by rw[a_ (aDn eb e (by intro z;cases z))];exact eb) hl;rwa [wC] at this
    ·exact(G3 (k:=ks) rv' .nil eT).keep (xM e rfl) λ_ z=>z.elim
   |cons r t=>
    rw[fI,oF] at h2;simp[isTup] at h2
 |@dT _ kvs ds e _ r n=>
  have hlen:=r.length;rcases lG h1 rk with ⟨q,rfl,rfl⟩|⟨b,ks,rfl,eb,rfl⟩
  ·cases r with
   |nil=>
    refine⟨L2.upd H ad (.dK []),.dK (putK [] q v),t8 I e,?_,rfl,.dK aN trivial ?_ (lK eT)⟩
    ·have:=aDi.k (H:=L2.upd H ad (.dK [])) (a:=ad) (kvs:=[]) (k:=q) (v:=v) aN hl;rwa [wC] at this
    ·exact(vQ (k:=q) rv' .nil eT).keep (xM e rfl) λ_ z=>z.elim
   |cons r t=>
    rw[fI,oF] at h2;simp[isTup] at h2
  ·refine⟨H,.dT (putK kvs ks v),I,.t e eb (by lia),rfl,.dT aN trivial ?_ (lK n)⟩;exact(G3 rv' (r.bT hin) n).keep (xM e rfl) λ_ z=>z.elim
theorem mV(hu:X.A.units+20<bm)(ho:own i=ag)(hN:X.N[i]?=af x)(hvi:Vis X.env.scope x)(hk:PE X k (gE fk rk))(hv:PE X value (gE fv rv))
 (hs:dL value (af (.Subscript (.Name x p1) k pos')) pos.line X.env=pure ai:=by rfl)(hd:nDb x:=by decide)(hcd:nCd x:=by decide) :
  PS X (.Assign [.Subscript (.Name x p1) k pos'] value pos) (tS own (rU i fk fv)):=by
 rintro Ψ s σ H D' I ⟨ρ,fl,E,h,q⟩;obtain⟨d,h0,h⟩:=bF h;obtain⟨kd,h1,h2⟩:=bF h;split at h2
 ·rename_i kvs hx;split at h2
  ·rename_i hg;cases h2;simp only[bc] at hg;obtain⟨⟨hg1,hg2⟩,hg3⟩:=hg;obtain⟨a,o,hσ,r,hin,ha,hm⟩:=E.ownAt ho (by rw[hx];intro z;cases z);rw[hx] at r hin;refine AD (thn (hv Ψ s σ H (λv H1=>cR H H1/\Rep All H1 v d) I ⟨ρ,d,E.er,h0,λv H1 s1 r1 _=>⟨s1,r1⟩⟩) λrr s1 ⟨v,H1,I1,rv1,sm1,rp1⟩=>
    thn (j9 hN hvi hd hcd Ψ s1 σ H1 (λw H2=>w=.ref a/\H2=H1) I1 ⟨_,hσ,rfl,rfl⟩) λu s2 ⟨xx,H2,I2,rx,ex,eH⟩=>
    thn (hk Ψ s2 σ H2 (λw H3=>cR H2 H3/\Rep All H3 w kd) I2 ⟨ρ,kd,by rw[eH];exact E.er.same sm1,h1,λv H1 s1 r1 _=>⟨s1,r1⟩⟩) λiv s3 ⟨y,H3,I3,ry,sm3,rp3⟩=>?_) hs
   subst ex eH;obtain rfl:u=eR a:=rx;have sm:=sm1.trans sm3;obtain⟨H4,o4,I4,g,hmo,rp⟩:=aI8 I3 (r.same sm) hin rp3 hg2 (KD hg1) (rp1.same sm3) hg3;obtain⟨E2,k2⟩:=(E.same sm).mut ho hσ hmo rp (jP hg3 hin);exact J3 (by lia) I4 g ry rv1 λs4 I5=>⟨σ,_,I5,q _ _ ((KU.same sm).trans k2) E2⟩
  ·exact bx h2
 ·exact bx h2
def TgS(own:ah->ap)(g:TG)(t:D->aa D->Res (aa D)):Prop:=∀(v:V)(d:D)(ρ ρ':aa D)(σ:L2.St)(H:Hp)(Q:L2.St->Hp->Prop),ES own H σ ρ->Rep (λa=>¬Own own σ a) H v d->t d ρ=.ok ρ'->
 (∀σ',ES own H σ' ρ'->(∀a,Own own σ' a↔Own own σ a)->Q σ' H)->g v σ H Q
theorem gU(ho:own i=ai):TgS own (yW i) (tg1 i):=λv d ρ ρ' σ H Q E r h q=>by
 cases h;exact q _ (E.set ho r) λa=>rA ho a
theorem ES.sets:∀{is:aa ah}{vs:aa V}{ds:aa D}{σ:L2.St}{ρ:aa D},(∀i∈is,own i=ai)->ES own H σ ρ->bQ (λa=>¬Own own σ a) H vs ds->ES own H (lH is vs σ) (J8 is ds ρ)/\∀a,Own own (lH is vs σ) a↔Own own σ a
 |[],_,_,_,_,_,E,_=>by simp only[lH,J8];exact⟨E,λ_=>trivial⟩
 |i::is,_,_,σ,ρ,h,E,.nil=>by simp only[lH,J8];exact⟨E,λ_=>trivial⟩
 |i::is,_,_,σ,ρ,h,E,.cons (v:=v) r t=>by
  have ho:=h i (bh ..);have hO:(λa=>¬Own own (σ.set i (af v)) a)=λa=>¬Own own σ a:=funext λa=>by rw[rA ho]
  obtain⟨h1,h2⟩:=ES.sets (λj hj=>h j (bf _ hj)) (E.set ho r) (by rw[hO];exact t);exact⟨h1,λa=>(h2 a).trans (rA ho a)⟩
theorem jY(K:bz)(ho:∀i∈is,own i=ai):TgS own (aOf K is.length (gIx is)) (tgN is):=λv d ρ ρ' σ H Q E r h q=>by
 cases d<;>simp only[tgN] at h<;>(try (exact bx h;done))
 split at h
 ·rename_i hl;cases h;have hl':=eh hl;obtain⟨a,xs,rfl,e,rr⟩:=r.g_;obtain⟨h1,h2⟩:=E.sets ho rr;exact⟨a,xs,rfl,.of e,by rw[rr.length];exact hl',GR _ _ _ (by rw[rr.length];exact hl') (q _ h1 h2)⟩
 ·exact bx h
theorem ItQ.ku{K:bz}(h:ItQ K (λa=>¬Own own σ a) J H items)(k:KU own σ H σ' H')(E:ES own H σ ρ):ItQ K (λa=>¬Own own σ' a) J H' items:=h.keep' (k.keep E) λa o e n=>(k a o e n).2
theorem vR{K:bz}{g:TG}{t:D->aa D->Res (aa D)}{body:FS}{D':Ends}{J:It}{items:aa D}{σ:L2.St}{H1:Hp}{ρ:aa D}{fl:Fl}(tg:TgS own g t)(E:ES own H1 σ ρ)(hJ:ItQ K (λa=>¬Own own σ a) J H1 items)(hf:o_ t body items ρ=.ok fl)(q:kS own D' σ H1 fl) :
  ∃W:ah->ah->L2.St->Hp->Prop,(∃m,W 0 m σ H1)/\∀i m σ H,W i m σ H->
   (J.stop i H/\D'.nx σ H)\/(J.go i H/\∃N:L2.St->Hp->Prop,(∀σ' H',N σ' H'->∃m',m'<m/\W (i+1) m' σ' H')/\∀x H',J.yld i H x H'->g x σ H' λσ2 H2=>tS own body {D' with nx:=N,ct:=N,bk:=D'.nx} σ2 H2):=by
 refine⟨λi m σ' H'=>m=items.length-i/\i<=items.length/\ItQ K (λa=>¬Own own σ' a) J H' items/\∃ρ',ES own H' σ' ρ'/\o_ t body (items.drop i) ρ'=.ok fl/\kS own D' σ' H' fl,⟨items.length,rfl,eL _,hJ,ρ,E,hf,q⟩,?_⟩;rintro i m σ' H' ⟨rfl,hi,hJ',ρ',E',hf',q'⟩;rcases oe i items.length with hlt|hge
 ·refine .inr ?_;have e:items[i]?=af items[i]:=cn hlt;obtain⟨g1,g2⟩:=hJ'.go e;rw[mh hlt] at hf';obtain⟨ρ1,h1,hf2⟩:=bF hf';obtain⟨r,h2,hf3⟩:=bF hf2;refine⟨g1,λσ2 H2=>ItQ K (λa=>¬Own own σ2 a) J H2 items/\∃ρ',ES own H2 σ2 ρ'/\o_ t body (items.drop (i+1)) ρ'=.ok fl/\kS own D' σ2 H2 fl,λσ2 H2 ⟨n1,n2⟩=>⟨items.length-(i+1),by lia,rfl,hlt,n1,n2⟩,λx H2 hy=>?_⟩;obtain⟨sH,rx⟩:=g2 x H2 hy;have ks:KU own σ' H' σ' H2:=λa o e n=>⟨sH a o e,n⟩
  have hJ':=hJ'.ku ks E';have q':=q'.step ks;have E':=E'.same sH;refine tg x items[i] ρ' ρ1 σ' H2 _ E' rx h1 λσ2 E2 hO=>?_
  have k0:KU own σ' H2 σ2 H2:=λa o e n=>⟨e,by rw[hO];exact n⟩
  have hJ2:=hJ'.ku k0 E';have q2:=q'.step k0;refine⟨ρ1,r,E2,h2,?_⟩;cases r with
  |nx ρ2=>exact λσ3 H3 k3 E3=>⟨hJ2.ku k3 E2,ρ2,E3,hf3,q2.step k3⟩
  |ct ρ2=>exact λσ3 H3 k3 E3=>⟨hJ2.ku k3 E2,ρ2,E3,hf3,q2.step k3⟩
  |bk ρ2=>cases hf3;exact λσ3 H3 k3 E3=>q2 σ3 H3 k3 E3
  |rt d=>cases hf3;exact q2
 ·refine .inl ⟨hJ'.stop hge,?_⟩;rw[oS hge] at hf';cases hf';exact q' σ' H' (λa o e n=>⟨e,n⟩) E'
theorem jZ{tg iter:Expr}{body:aa bi}{g:TG}{t:D->aa D->Res (aa D)}{it:FI}{fb:FS}(hp:iE (aw X.prog X.w) X.A X.env X.xe)(hc:X.calm=ag)(hi:PI X tg iter (gI X.K it))(ht:TgS own g t)(hg:PG X tg g)(hb:PSs X body (tS own fb))
 (hs:∀x,d6 iter X.env x=pure x:=by intro _;rfl):PS X (.For tg iter body [] pos) (tS own (u_ it t fb)):=PS.imp (JT hp hc hi hg hb hs) λD' σ H z0=>by
 obtain⟨ρ,fl,E,h,q⟩:=z0;obtain⟨⟨items,k⟩,h1,h2⟩:=bF h;split at h2
 ·rename_i hk;exact⟨ρ,items,k,E.er,h1,λJ H1 s1 _ hJ=>vR ht (E.same s1) ((hJ hk).keep (λ_ _ e _=>e) λa ha ho=>by
   obtain⟨o,e1,_⟩:=E.live ho;rw[show H a=am from ha] at e1;cases e1) h2 (q.step (.same s1))⟩
 ·exact bx h2
theorem aAh{g:TG}{t:D->aa D->Res (aa D)}{i:ah}{x:Str}{px:bo}{fb:FS}(ho:own i=ai)(hp:iE (aw X.prog X.w) X.A X.env X.xe)(hc:X.calm=ag)(hN:X.N[i]?=af x)(hv:Vis X.env.scope x)(ht:TgS own g t)(hg:PG X tg g)(hb:PSs X body (tS own fb))
 (hs:∀z,d6 (.Name x px) X.env z=pure z:=by intro _;rfl)(hd:nDb x:=by decide)(hcd:nCd x:=by decide):PS X (.For tg (.Name x px) body [] pos) (tS own (Z4 i t fb)):=PS.imp (JT hp hc (aMp hN hv hd hcd) hg hb hs) λD' σ H z0=>by
 obtain⟨ρ,fl,E,h,q⟩:=z0;obtain⟨d,h1,h⟩:=bF h;obtain⟨items,h2,h3⟩:=bF h;obtain⟨v,hv,r,e⟩:=E.er.var h1;have hne:ρ.getD i .uD≠.uD:=λz=>by
  rw[z] at e;subst e;exact Rep.uD r
 obtain⟨w,hw,hr⟩:=E.at_ i hne;rw[hv] at hw;cases hw;have r2:=hr ho;rw[e] at r2;exact⟨v,d,items,hv,r,h2,λJ hJ=>vR ht E (hJ _ r2) h3 q⟩
theorem T9{N ps:aa Str}(hst:start N vs=vs.map af++b5 (N.length-ps.length) am)(hl:ds.length=ps.length)(r:bQ All H vs ds)(hown:∀i,i<ps.length->own i=ai)(noown:∀a,¬Own own (start N vs) a):ES own H (start N vs) (ds++b5 (N.length-ps.length) .uD):=by
 refine⟨by rw[hst];simp[r.length],λi hi=>?_,λi v hi hv=>?_⟩
 ·have hlt:i<ds.length:=AE λhge=>hi (by
   rw[cy,ii hge,jp];split<;>rfl)
  have e:(ds++b5 (N.length-ps.length) D.uD).getD i .uD=ds[i]:=by
   rw[cy,jq hlt,cn hlt];rfl
  obtain⟨v,g1,g2⟩:=r.get (i:=i) (d:=ds[i]) (by simp[hlt]);refine⟨v,by rw[hst,jq (by simp[r.length,hlt])];simp[g1],λ_=>?_⟩;rw[e];exact g2.mono λa _=>noown a
 ·exfalso;rw[hst] at hv;by_cases h:i<ps.length
  ·rw[hown i h] at hi;cases hi
  ·rw[ii (by simp[r.length,hl];lia)] at hv;rw[jp] at hv;split at hv<;>cases hv
theorem aI9{N ps:aa Str}{f:FS}{vs:aa V}{H:Hp}{Q:VK}{E:XK}(hx:own rtX=ai)(hown:∀i,i<ps.length->own i=ai)(h0:spD (fnS ps.length N.length f) ps.length vs H Q E):tS own f {nx:=λ_ H'=>Q .non H',rt:=Q} (start N vs) H:=by
 obtain⟨ds,d,hl,r,h,q⟩:=h0
 ·obtain⟨fl,h1,h2⟩:=bF h;have hst:start N vs=vs.map af++b5 (N.length-ps.length) am:=by
   show vs.map af++b5 (N.length-vs.length) am=_;rw[r.length,hl]
  have noown:∀a,¬Own own (start N vs) a:=λa z0=>by
   obtain⟨i,hi,e⟩:=z0;rw[hst] at e;by_cases h:i<ps.length
   ·rw[hown i h] at hi;cases hi
   ·rw[ii (by simp[r.length,hl];lia)] at e;rw[jp] at e;split at e<;>cases e
  have E0:ES own H (start N vs) (ds++b5 (N.length-ps.length) .uD):=T9 hst hl r hown noown;refine⟨_,fl,E0,h1,?_⟩;have sm:∀{σ':L2.St}{H':Hp},KU own (start N vs) H σ' H'->cR H H':=λk a o e=>(k a o e (noown a)).1
  cases fl with
  |nx ρ'=>cases h2;exact λσ' H' k E'=>q .non H' (sm k) .non λ_=>.non
  |rt d'=>
   cases h2;refine kRt.mk hx λv H' hk rp=>q v H' (λa o e=>hk a o e (noown a)) rp.all λ_=>rp.mono λa ha=>?_
   rcases ha with ha|ha
   ·exact az ha (noown a)
   ·exact ha
  |bk ρ'=>exact bx h2
  |ct ρ'=>exact bx h2
theorem aMs{w:bg}{K:bz}{mg:Str->av aj}{base:aI}{x qual:Str}{st:bi}{fad:ak}{fd:eD}{N ps:aa Str}{k:ah}{f:FS}(F:Fun K x qual st fad fd)(S:bZ N ps (aQ st))(own:ah->ap)(hown:∀i,i<ps.length->own i=ai)(hNl:ps.length<=N.length)
 (hbody:∀(cdv:aj) (A:bS) (outer:aa di) (s:ao) (H:Hp) (E:XK),vK k (A.deeper (fF qual (aQ st) s.heap.objs.size fad cdv))->PSs (aDh CX0 P w K mg base N qual (aQ st) fad cdv A outer s H E).nox (jG st) (tS own f))(hx:own rtX=ai:=by rfl):WF P w K mg base CX0 (k+1) fad fd ps (spD (fnS ps.length N.length f) ps.length):=
 F.ok S (λvs H Q E h=>aAd h) λcdv A outer s H vs Q E hr h=>⟨_,hbody cdv A outer s H E hr,aI9 hx hown h⟩
end
end
variable [KFrag]
structure aPg where
 s₀:ao
 H₀:Hp
 env:di
 outer:aa di
 stack:aa di
 ex:aa ak
 fn:Str->ap
 pn:aa (ak×ba)
abbrev mkC(X:Cx)(scope:fg)(ownN:aa Str)(y:aPg):Cx:=
 {X with N:=X.N.map (iT ownN)++ownN,s₀:=y.s₀,H₀:=y.H₀,env:={y.env with scope:=hV scope X.env},outer:=y.outer,stack:=y.stack,ex:=y.ex,fn:=y.fn,pn:=y.pn,xe:=λ_ _=>cg}
theorem qN(cc:dU X X' scope ownN):∃y,X'=mkC X scope ownN y:=by
 refine⟨⟨X'.s₀,X'.H₀,X'.env,X'.outer,X'.stack,X'.ex,X'.fn,X'.pn⟩,?_⟩;obtain⟨h1,h2,h3,h4,h5,h6,h7,h8,h9,h10⟩:=cc;cases X' with
 |mk a b c d e f g h i j k l m n o p q=>
  cases j;dsimp only at *;subst h1 h2 h3 h4 h5 h6 h7 h8 h9 h10;rfl
section
theorem sO(S:eE X.N X.env.scope scope ownN)(hn:X.N.length=n)(hm:ownN.length=m)(hcalm:X.calm=ag)(hi:PI X tg iter (gI X.K it))(ht:TgC g t n m)(hg:∀y,PG (mkC X scope ownN y) tg g)(he:∀y,PE (mkC X scope ownN y) elt (gE fe re))
 (hs:∀x,d6 iter X.env x=pure x):PE X (.ListComp elt [⟨tg,iter,[],0⟩] scope pos) (gE (e_ n it t gR fe re) ag):=
 aI4 S hn hm hcalm hi ht (λX' cc=>by obtain⟨y,rfl⟩:=qN cc;exact hg y) (λX' cc=>by obtain⟨y,rfl⟩:=qN cc;exact he y) hs
theorem BV(S:eE X.N X.env.scope scope ownN)(hn:X.N.length=n)(hm:ownN.length=m)(hcalm:X.calm=ag)(hi:PI X tg iter (gI X.K it))(ht:TgC g t n m)(hg:∀y,PG (mkC X scope ownN y) tg g)(hc:∀y,PT (mkC X scope ownN y) c (gT gc))(he:∀y,PE (mkC X scope ownN y) elt (gE fe re))
 (hs:∀x,d6 iter X.env x=pure x):PE X (.ListComp elt [⟨tg,iter,[c],0⟩] scope pos) (gE (e_ n it t gc fe re) ag):=
 aAe S hn hm hcalm hi ht (λX' cc=>by obtain⟨y,rfl⟩:=qN cc;exact hg y) (λX' cc=>by obtain⟨y,rfl⟩:=qN cc;exact hc y) (λX' cc=>by obtain⟨y,rfl⟩:=qN cc;exact he y) hs
theorem vU(S:eE X.N X.env.scope scope ownN)(hn:X.N.length=n)(hm:ownN.length=m)(hcalm:X.calm=ag)(hi:PI X tg iter (gI X.K it))(ht:TgC g t n m)(hg:∀y,PG (mkC X scope ownN y) tg g)(he:∀y,PE (mkC X scope ownN y) elt (gE fe re))
 (hs:∀x,d6 iter X.env x=pure x)(ho:own iy=o)(hNn:X.N.Nodup)(hiy:X.N[iy]?=af y)(hxy:Loc X.env.scope y)(hfy:X.fn y=ag\/X.env.scope.names.lookup y=af .local)(hsw:dL (.ListComp elt [⟨tg,iter,[],0⟩] scope pos) (af (.Name y py)) pos2.line X.env=pure ag) :
  PS X (.Assign [.Name y py] (.ListComp elt [⟨tg,iter,[],0⟩] scope pos) pos2) (tS own (cF o iy (e_ n it t gR fe re) ag)):=
 aI7 S hn hm hcalm hi ht (λX' cc=>by obtain⟨y,rfl⟩:=qN cc;exact hg y) (λX' cc=>by obtain⟨y,rfl⟩:=qN cc;exact he y) hs ho hNn hiy hxy hfy hsw
theorem BW(S:eE X.N X.env.scope scope ownN)(hn:X.N.length=n)(hm:ownN.length=m)(hcalm:X.calm=ag)(hi:PI X tg iter (gI X.K it))(ht:TgC g t n m)(hg:∀y,PG (mkC X scope ownN y) tg g)(hc:∀y,PT (mkC X scope ownN y) c (gT gc))(he:∀y,PE (mkC X scope ownN y) elt (gE fe re))
 (hs:∀x,d6 iter X.env x=pure x)(ho:own iy=o)(hNn:X.N.Nodup)(hiy:X.N[iy]?=af y)(hxy:Loc X.env.scope y)(hfy:X.fn y=ag\/X.env.scope.names.lookup y=af .local)(hsw:dL (.ListComp elt [⟨tg,iter,[c],0⟩] scope pos) (af (.Name y py)) pos2.line X.env=pure ag) :
  PS X (.Assign [.Name y py] (.ListComp elt [⟨tg,iter,[c],0⟩] scope pos) pos2) (tS own (cF o iy (e_ n it t gc fe re) ag)):=
 aAg S hn hm hcalm hi ht (λX' cc=>by obtain⟨y,rfl⟩:=qN cc;exact hg y) (λX' cc=>by obtain⟨y,rfl⟩:=qN cc;exact hc y) (λX' cc=>by obtain⟨y,rfl⟩:=qN cc;exact he y) hs ho hNn hiy hxy hfy hsw
end
def cW(P:br)(w:bg)(K:bz)(mg:Str->av aj)(base:aI)(k:ah)(x:Str)(n:ah)(f:aa D->Res D):Prop:=
 ∃(fad:ak)(fd:eD)(ps:aa Str),WF P w K mg base CX0 k fad fd ps (spD f n)/\mg x=af (.ref fad)/\lz K (.ref fad)=ag/\Binds K fd ps []
section
theorem bD(C:cW X.prog X.w X.K X.mg X.base k x n f)(hr:vK k' X.A)(hkk:k<=k')(hg:Gl X x)(ha:PA X (e::es) (gA fs rr))(hdb:nDb x:=by decide)(he:bp (e::es) X.env=(ai,bE e X.env)::bp es X.env:=by rfl)(hpl:(eo pos (bp es X.env)).any (·.1)=ai:=by rfl) :
  PE X (.Call (.Name x p) (e::es) [] pos) (gE (aO (cD n f) fs) ag):=by
 obtain⟨fad,fd,ps,F,hm,hk,hb⟩:=C;exact aI3 F (hr.mono hkk) hg hm hk hb ha hdb he hpl
theorem fY{K:bz}{st:bi}{fad:ak}{fd:eD}{N ps:aa Str}{fs:FS}(F:Fun K x x st fad fd)(hm:mg x=af (.ref fad))(hb:Binds K fd ps [])(S:bZ N ps (aQ st))(own:ah->ap)(hown:∀i,i<ps.length->own i=ai)(hNl:ps.length<=N.length)
 (hbody:∀(cdv:aj) (A:bS) (outer:aa di) (s:ao) (H:Hp) (E:XK),vK k (A.deeper (fF x (aQ st) s.heap.objs.size fad cdv))->PSs (aDh CX0 P w K mg base N x (aQ st) fad cdv A outer s H E).nox (jG st) (tS own fs))(hx:own rtX=ai:=by rfl):cW P w K mg base (k+1) x ps.length (fnS ps.length N.length fs):=
 ⟨fad,fd,ps,aMs F S own hown hNl hbody hx,hm,F.kp,hb⟩
end
theorem vV(hr:vK k A):A.units+20<bm:=Az (Nat.add_le_add_left (by decide:20<=64) _) hr.units
structure Bt(mg:Str->av aj):Prop where
 len:mg "len"=am
 min:mg "min"=am
 max:mg "max"=am
 list:mg "list"=am
 tuple:mg "tuple"=am
 sorted:mg "sorted"=am
 range:mg "range"=am
 isi:mg "isinstance"=am
 int:mg "int"=am
 bool:mg "bool"=am
 str:mg "str"=am
 dict:mg "dict"=am
 all:mg "all"=am
 enum:mg "enumerate"=am
 sum:mg "sum"=am
 zip:mg "zip"=am
 abs:mg "abs"=am
 reversed:mg "reversed"=am
theorem eG:d3 "len"=af (.builtin "len"):=by decide +kernel
theorem BX:d3 "min"=af (.builtin "min"):=by decide +kernel
theorem T_:d3 "max"=af (.builtin "max"):=by decide +kernel
theorem gF:d3 "sorted"=af (.builtin "sorted"):=by decide +kernel
theorem jM:d3 "isinstance"=af (.builtin "isinstance"):=by decide +kernel
theorem aIa:d3 "list"=af (.type "list"):=by decide +kernel
theorem jN:d3 "tuple"=af (.type "tuple"):=by decide +kernel
theorem aGd:d3 "int"=af (.type "int"):=by decide +kernel
theorem aIb:d3 "bool"=af (.type "bool"):=by decide +kernel
theorem ints_rep:∀ns:aa ae,bQ P H (ns.map V.int) (ns.map δ)
 |[]=>.nil
 |n::ns=>.cons (.int n) (ints_rep ns)
end Mi
namespace Mi
open PySem L2
theorem aAi{ns:aa ae}{E:XK}(main:∀ns:aa ae,ns.length<=63->f [.scr (ns.map δ)]=.ok (.bl ag))(hl:ns.length<=63)(hO:Only H)(hS:SqL K H a (ns.map V.int)):@spD ⟨K⟩ f 1 [.ref a] H (λv _=>v=.bl ag) E:=by
 letI:KFrag:=⟨K⟩
 refine⟨[.scr (ns.map δ)],.bl ag,rfl,.cons (.frz ?_ (ints_rep ns)) .nil,main ns hl,λv H' s r n=>by cases r.inv;rfl⟩;rcases hS with (h|⟨o,h⟩)|h
 ·rcases hO a with z|⟨o,xs,z⟩
  ·rw[h] at z;cases z
  ·rw[h] at z;cases z
 ·exact .inl ⟨o,h⟩
 ·exact .inr h
end Mi
namespace Mi
universe u
section
variable {α:Type u} {us:aa α}
theorem l1(h:us.length=1):∃a,us=[a]:=List.length_eq_one_iff.mp h
theorem l2(h:us.length=2):∃a b,us=[a,b]:=by
 cases us with
 |nil=>cases h
 |cons a t=>obtain⟨b,rfl⟩:=l1 (va h);exact⟨a,b,rfl⟩
theorem l3(h:us.length=3):∃a b c,us=[a,b,c]:=by
 cases us with
 |nil=>cases h
 |cons a t=>obtain⟨b,c,rfl⟩:=l2 (va h);exact⟨a,b,c,rfl⟩
theorem l4(h:us.length=4):∃a b c d,us=[a,b,c,d]:=by
 cases us with
 |nil=>cases h
 |cons a t=>obtain⟨b,c,d,rfl⟩:=l3 (va h);exact⟨a,b,c,d,rfl⟩
end
open PySem L2 PySem.SeqAt PySem.Spec PyProof.Rows
noncomputable def aMt:D->Res (aa D)
 |.lst xs=>.ok xs
 |_=>.bad
variable [KFrag]
section
variable {X:Cx}
section
variable {a:Expr}
theorem QR{ch:aa ak}{a:ak}{o:HO}(I:Inv X Ψ σ H s)(k:∀b u,b∉ch->s.heap.get? b=af u->h'.get? b=af u)(hf:∀b∈ch,YJ X Ψ H b)(hp:s.heap.objs.size<=a)
 (new:lA X.prog X.w (upd H a o) h' a o):Inv X Ψ σ (upd H a o) {s with heap:=h',toks:=t'}:=by
 have hn:H a=am:=I.hok.fresh hp;have nch:∀b u,H b=af u->b∉ch:=λb u e z=>by rw[(hf b z).1] at e;cases e
 have kU:∀b u,H b=af u->upd H a o b=af u:=λb u e=>by rw[a_ (eV e hn)];exact e
 refine I.step (λb hb=>?_) (λb u _ _ hc e _=>k b u hc e) (λb u _ _ hc e _=>⟨u.slots,k b u hc e⟩) (λb u _ e n=>?_)
  (λb u hc e=>⟨u,k b u hc e⟩) (λb xs e=>kU b _ e) (λb u v e=>kU b _ e) (λb ps e=>⟨#[],by rw[kU b _ e];simp⟩) (λm hm=>?_) (λb u e=>?_) I.bare
 ·obtain⟨_,f1,_,f3,f4,f5⟩:=hf b hb;exact⟨f3,f1,f4,f5⟩
 ·rw[a_ (λz=>az (du (bw e) hp) (by rw[z];exact eJ _))];exact n
 ·obtain⟨u,es,ep,hu,r⟩:=hm;exact⟨u,es,ep,k _ u (λz=>(hf _ z).2.1 rfl) hu,r⟩
 ·by_cases hb:b=a
  ·subst hb;rw[aN] at e;cases e;exact new
  ·rw[a_ hb] at e;refine(I.hok b u e).stay (λc v hc q=>k c v ?_ q) (λc q=>kU c _ q) λc xs q=>kU c _ q
   rcases hc with z|z
   ·rw[z];exact nch b u e
   ·exact nch c _ z
end
end
end Mi
namespace Mi
open PySem L2
theorem bK:lim=1000000:=by unfold lim;exact Eq.refl _
theorem K1(h:ρ.length=n):S5 n ρ=ρ:=by
 subst h;apply vb
 ·simp[S5]
 ·intro i h1 h2;simp[S5,h2]
theorem dF(h:ds.length=n):cD n f ds=f ds:=by
 unfold cD;rw[ar (by simp[h])]
theorem aH(h1:a ρ=.ok x)(h2:b ρ=.ok y)(h3:f x y=.ok z):b2 f a b ρ=.ok z:=by
 unfold b2;rw[h1,τ,h2,τ,h3]
theorem bN(h:f ρ=.ok d):cF ai i f ag ρ=.ok (.nx (ρ.set i d)):=by
 unfold cF;rw[h,τ];rfl
theorem mC(h:f ρ=.ok d)(hp:d.pure=ag):cF ai i f ai ρ=.ok (.nx (ρ.set i d)):=by
 unfold cF;rw[h,τ];simp only[hp,l7,hG,cK,cx]
theorem dN(h:f ρ=.ok d)(hp:inner d=ag):cF ag i f ag ρ=.ok (.nx (ρ.set i d)):=by
 unfold cF;rw[h,τ];simp only[hp,jd,cx]
theorem aJ(h1:f ρ=.ok (.nx ρ'))(h2:g ρ'=r):bH f g ρ=r:=by
 unfold bH;rw[h1,τ];exact h2
theorem aMu(h1:c ρ=.ok k)(h2:(if k then f ρ else g ρ)=r):sIf c f g ρ=r:=by
 unfold sIf;rw[h1,τ];exact h2
theorem vW(h1:c ρ=.ok ag)(h2:f ρ=r):sIf c f g ρ=r:=aMu h1 (by rw[ar rfl];exact h2)
theorem rB(h1:c ρ=.ok ai)(h2:g ρ=r):sIf c f g ρ=r:=aMu h1 (by rw[aq (by simp)];exact h2)
theorem cJ(h1:f ρ=.ok (.bl k)):bTB f ρ=.ok k:=by
 unfold bTB;rw[h1,τ];rfl
theorem QT(h1:a ρ=.ok ag)(h2:b ρ=r):J5 a b ρ=r:=by
 unfold J5;rw[h1,τ,ar rfl,h2]
theorem W4(h1:a ρ=.ok ai):J5 a b ρ=.ok ai:=by
 unfold J5;rw[h1,τ,aq (by simp)];rfl
theorem aC(h1:a ρ=.ok x)(h2:b ρ=.ok xs):aD a b ρ=.ok (x::xs):=by
 unfold aD;rw[h1,τ,h2,τ];rfl
theorem aL(h1:a ρ=.ok xs)(h2:f xs=.ok d):aO f a ρ=.ok d:=by
 unfold aO;rw[h1,τ,h2]
theorem dD(h:a ρ=.ok xs)(hl:xs.length<=lim):dM a ρ=.ok (.tup xs):=by
 unfold dM;rw[h,τ,ar (bq hl)];rfl
theorem fG(h:f ρ=.ok d)(hp:(k||d.pure)=ag):jJ f k ρ=.ok (.rt d):=by
 unfold jJ;rw[h,τ,ar hp]
theorem mW(h1:it ρ=.ok (xs,ag))(h2:o_ t body xs ρ=r):u_ it t body ρ=r:=by
 unfold u_;rw[h1,τ];exact h2
theorem aAj(h1:iU i ρ=.ok d)(h2:o8 d=.ok xs)(h3:o_ t body xs ρ=r):Z4 i t body ρ=r:=by
 unfold Z4;rw[h1,τ,h2,τ];exact h3
theorem uO(h:f ρ=.ok [.int n])(h1:0<=n)(h2:n<=1000000):oW f m_ ρ=.ok ((bn n.toNat).map λ(k:ah)=>δ (0+(k:ae)),ag):=by
 unfold oW;rw[h,τ];have:wN n=ag:=by
  simp only[wN,bc,eM];lia
 simp only[m_,this,cx]
theorem mX(h1:g ρ=.ok d)(h2:f ρ=.ok k)(h3:ρ.getD i .uD=.dct kvs)(h4:kvs.length<lim)(h5:lE kvs k=ag)(h6:d.pure=ag):rU i f g ρ=.ok (.nx (ρ.set i (.dct (putD kvs k d)))):=by
 unfold rU;rw[h1,τ,h2,τ,h3];simp only[bq h4,h5,h6,jd,cx]
theorem mY(h1:f ρ=.ok d)(h3:ρ.getD i .uD=.lst xs)(h4:xs.length<lim)(h5:d.pure=ag):o9 i f ρ=.ok (.nx (ρ.set i (.lst (xs++[d])))):=by
 unfold o9;rw[h1,τ,h3];simp only[bq h4,h5,jd,cx]
theorem nG(h1:t x ρ=.ok ρ1)(h2:body ρ1=.ok (.nx ρ2))(h3:o_ t body xs ρ2=r):o_ t body (x::xs) ρ=r:=by
 rw[o_,h1,τ,h2,τ];exact h3
theorem aAk(L:aa D)(i:ae)(h0:0<=i)(h1:i<L.length):∃(h:i.toNat<L.length),getD (.lst L) (.int i)=.ok L[i.toNat]:=by
 have hlt:i.toNat<L.length:=by lia
 refine⟨hlt,?_⟩;show ι ((ixD L.length i).bind λj=>L[j]?)=_;unfold ixD;rw[ar h0,ar h1];simp only[AF];rw[cn hlt];rfl
theorem nH(L:aa D):gC [.lst L]=.ok (.int L.length):=rfl
theorem iV(h1:it ρ=.ok (xs,kk))(h2:xs.length<=lim)(h3:lZ (qX n t c f k ρ) [] xs=.ok ys):e_ n it t c f k ρ=.ok (.lst ys):=by
 unfold e_;rw[h1,τ];simp only[bq h2,cx];rw[h3];rfl
theorem kJ{fr:ap}(h1:a ρ=.ok d)(h2:o8 d=.ok xs):cX a fr ρ=.ok (xs,fr||d.pure):=by
 unfold cX;rw[h1,τ,h2,τ];rfl
theorem lL(hρ:ρ.length=n)(h1:c (ρ++[x])=.ok b)(h2:b=ag->f (ρ++[x])=.ok y/\(k||y.pure)=ag):qX n z_ c f k ρ acc x=.ok (if b then acc++[y] else acc):=by
 unfold qX;show(do let ok <- c (S5 n ρ++[x]);_)=_;rw[K1 hρ,h1,τ];cases b with
 |true=>
  obtain⟨e1,e2⟩:=h2 rfl;rw[ar rfl,e1,τ,ar e2,ar rfl];rfl
 |false=>
  rw[aq (by simp),aq (by simp)];rfl
theorem sS(g:aa D->D->Res (aa D))(d:α->D)(p:α->ap)(y:α->D)(h:∀acc a,g acc (d a)=.ok (if p a then acc++[y a] else acc)):∀(xs:aa α)(acc:aa D),lZ g acc (xs.map d)=.ok (acc++(xs.filter p).map y)
 |[],acc=>by simp[lZ]
 |x::xs,acc=>by
  rw[aT,lZ,h];show lZ g _ _=_;rw[sS g d p y h xs];by_cases hp:p x
  ·simp[hp]
  ·simp[hp]
theorem iD(a b:ae):bY .add (.int a) (.int b)=.ok (.int (a+b)):=rfl
theorem K3(a b:ae):bY .sub (.int a) (.int b)=.ok (.int (a-b)):=rfl
theorem aAl(a b:ae)(h:o7 b=ag):bY .mul (.int a) (.int b)=.ok (.int (a*b)):=by
 show(if o7 a||o7 b then ε (δ (a*b)) else .bad)=_;rw[h,Bool.or_true,ar rfl]
theorem j0(a b:ae)(h1:0<b)(h2:b<1073741824):bY .fdiv (.int a) (.int b)=.ok (.int (a / b)):=by
 show(if ϒ (0<b)&&ϒ (b<1073741824) then ε (δ (a / b)) else .bad)=_;rw[bq h1,bq h2,jd,ar rfl]
theorem j4(a b:ae)(h1:0<b):bY .mod (.int a) (.int b)=.ok (.int (a % b)):=by
 show(if ϒ (0<b) then ε (δ (a % b)) else .bad)=_;rw[bq h1,ar rfl]
theorem G4(a:ae)(h1:-1000000<=a)(h2:a<=1000000):o7 a=ag:=by
 simp only[o7,bc,eM];lia
theorem aIc(a b:Str)(h:a.length+b.length<=lim):bY .add (.str a) (.str b)=.ok (.str (a++b)):=by
 show(if ϒ (a.length+b.length<=lim) then ε (π (a++b)) else .bad)=_;rw[bq h,ar rfl]
theorem str_len(a b:Str):(a++b).length=a.length+b.length:=by
 show(a.cps++b.cps).size=_;rw[AG];rfl
theorem aIe(h1:a.eO aM=ag)(h2:b.eO aM=ag)(h:iM o a b=af k):b8 (.ord o) a b=.ok (.bl k):=by
 show(if a.eO aM&&b.eO aM then (match iM o a b with|some k=>ε (ξ k)|none=>.bad) else .bad)=_;rw[h1,h2,h,jd,ar rfl]
theorem aMv(n:ah)(h:n<=1000):bY .pow (.int 10) (.int n)=.ok (.int (10 ^ n)):=by
 have h1:ϒ ((0:ae)<=(n:ae))=ag:=by simp
 have h2:ϒ ((n:ae)<=1000000)=ag:=by simp;lia
 have h3:ϒ ((10:ae).natAbs<2 ^ 64)=ag:=by decide
 show(if ϒ ((0:ae)<=(n:ae))&&ϒ ((n:ae)<=1000000)&&ϒ ((10:ae).natAbs<2 ^ 64) then ε (δ (10 ^ ((n:ae).toNat))) else .bad)=_;rw[h1,h2,h3,jd,jd,ar rfl,kh]
theorem dO(S:aa ae):θ (S.map δ)=ag:=by
 induction S with
 |nil=>rfl
 |cons q Q ih=>rw[aT,θ,ih];rfl
theorem aIf(ns:aa ae)(lo hi:av ae):cutD (ns.map δ) lo hi=(cutD ns lo hi).map δ:=by
 unfold cutD;rw[ay,vc,AH]
theorem aIg(ns:aa ae)(lo hi:av ae):(cutD ns lo hi).length<=ns.length:=by
 unfold cutD;exact c6 (List.length_take_le' ..) (by rw[iO];lia)
open PySem.W PySem.SeqAt PySem.Spec PyProof.Rows
variable [KFrag]
noncomputable def aIh(f:FE)(t:D->aa D->Res (aa D)):FS:=λρ=>do
 let d <- f ρ
 if d.pure then (do let ρ' <- t d ρ;.ok (.nx ρ')) else .bad
theorem UG{X:Cx}{own:ah->ap}{e tg:Expr}{pos:bo}{fe:FE}{re:ap}{g:TG}{t:D->aa D->Res (aa D)}(he:PE X e (gE fe re))(ht:TgS own g t)(hg:PG X tg g)(hs:xb [tg] e pos.line X.env=pure ai:=by rfl)(hw:xc [tg] e X.env=pure am:=by rfl)
 (h1:(jk [tg] X.env).map (·.2)=[ji tg X.env]:=by rfl):PS X (.Assign [tg] e pos) (tS own (aIh fe t)):=PS.imp (aLg he hg hs hw h1) λD' σ H z0=>by
 obtain⟨ρ,fl,E,h,q⟩:=z0;obtain⟨d,h1,h2⟩:=bF h;split at h2
 ·rename_i hp;obtain⟨ρ',h3,h4⟩:=bF h2;cases h4;refine⟨ρ,d,E.er,h1,λv H1 s1 r _=>ht v d ρ ρ' σ H1 _ (E.same s1) (r.bT hp) h3 λσ2 E2 hO=>?_⟩;have k0:KU own σ H1 σ2 H1:=λa o e n=>⟨e,by rw[hO];exact n⟩
  exact q σ2 H1 ((KU.same s1).trans k0) E2
 ·exact bx h2
def oX(a:FA):FE:=λρ=>do let xs <- a ρ;if ϒ (xs.length<=lim)&&θ xs then pure (.lst xs) else .bad
theorem rC{X:Cx}{pos:bo}{es:aa Expr}{f:FA}{r:ap}(h:PA X es (gA f r)):PE X (.List es pos) (gE (oX f) ag):=PE.imp (Y8 h) λσ H Q z0=>by
  obtain⟨ρ,d,E,h,q⟩:=z0;obtain⟨xs,h1,h⟩:=bF h;split at h
  ·rename_i hl;rw[bc] at hl;cases h;refine⟨ρ,xs,E,h1,λvs H1 s1 r1 n1=>⟨?_,λp hp=>?_⟩⟩
   ·rw[r1.length];exact c6 (eh hl.1) (by rw[eC];decide)
   ·have sp:cR H1 (upd H1 p (.lst vs)):=cR.upd hp;exact q _ _ (s1.trans sp) (.lst aN trivial (r1.same sp)) λ_=>.lst aN (s1.free hp) ((r1.bT hl.2).same sp)
  ·exact bx h
end Mi
namespace Mi
open PySem L2 PySem.SeqAt PySem.Spec PyProof.Rows
section
variable [KFrag]
theorem aEg(ea:∀ob,H a=af ob->aHt ob=ag)(b:ak)(o:HO)(e:H b=af o)(h:aHt o=ai):upd H a u b=af o:=by
 rw[a_ λz=>by rw[z] at e;rw[ea _ e] at h;cases h];exact e
theorem K4{P:ak->Prop}(ea:∀ob,H a=af ob->aHt ob=ag)(q:bQ P H v d)(h:θ d=ag):bQ P (upd H a u) v d:=q.J9 (aEg ea) h
end
def aIi:D->D->Res D
 |.tup a,.tup b=>if ϒ (a.length+b.length<=lim) then .ok (.tup (a++b)) else .bad
 |_,_=>.bad
noncomputable def BZ(c:FT)(body:FS):ah->aa D->Res Fl
 |0,_=>.bad
 |n+1,ρ=>do
  let k <- c ρ
  if k then (do
   let r <- body ρ
   match r with
   |.nx ρ'=>BZ c body n ρ'
   |.ct ρ'=>BZ c body n ρ'
   |.bk ρ'=>.ok (.nx ρ')
   |.rt d=>.ok (.rt d))
  else .ok (.nx ρ)
def aIj(c:FT)(body:FS):FS:=λρ=>BZ c body 1000 ρ
section
variable [KFrag]
section
theorem aAm:OpR X (eg .Add) (r2 aIi ai):=by
 intro Ψ s σ H x y v u Q I rx ry h;obtain⟨a,b,d,p,q,e,k⟩:=h;unfold aIi at e;split at e
 ·rename_i da db;split at e
  ·rename_i hl;cases e;obtain⟨l1,xs1,rfl,e1,r1⟩:=p.inv;obtain⟨l2,xs2,rfl,e2,r2⟩:=q.inv;cases rx;cases ry;have hz:xs1.length+xs2.length<=bb:=by rw[r1.length,r2.length];exact sE hl
   obtain⟨its,w1,p1,_⟩:=I.tuple (.of e1);obtain⟨its2,w2,p2,_⟩:=I.tuple (.of e2);obtain⟨⟨cls,dd,data,sl⟩,ho,hc,n,hd⟩:=id p1;obtain⟨⟨cls2,dd2,lS,sl2⟩,ho2,hc2,n2,hd2⟩:=id p2;simp only at hc hd hc2 hd2;by_cases hv:its=[]
   ·have:xs1=[]:=w1.wI.mp hv;subst this;cases r1;refine sL ⟨_,ho,hc⟩ ⟨_,ho2,hc2⟩ sM sN sP sQ (sT _ _)
     (tuple_addW0 l1 l2 its.toArray its2.toArray n n2 dd dd2 sl sl2 (by simp[hv])) ⟨by subst hc hd;exact ho,by subst hc2 hd2;exact ho2,.ref l2,H,I,rfl,?_⟩
    exact k.self (.tup e2 r2) (λz=>by cases z)
   ·refine aHh Ψ s σ H (.ref l1) (.ref l2) _ _ Q I rfl rfl ⟨l1,l2,xs1,xs2,rfl,rfl,.of e1,.of e2,λz=>hv (w1.wI.mpr z),hz,λz=>?_,λz p hp=>?_⟩
    ·subst z;cases r2;rw[dy] at k;exact k.self (.tup e1 r1) (λz=>by cases z)
    ·have sp:cR H (upd H p (.tup (xs1++xs2))):=cR.upd hp;exact k _ _ sp (.tup aN ((r1.append r2).same sp)) λz=>by cases z
  ·exact bx e
 ·exact bx e
theorem UJ(hp:iE (aw X.prog X.w) X.A X.env X.xe)(hc:PT X c (gT gc))(hb:PSs X body (tS own fb)):PS X (.While c body [] pos) (tS own (aIj gc fb)):=
 PS.imp (aDq hp hc hb) λD σ H z0=>by
 obtain⟨ρ,fl,E,h,q⟩:=z0;refine⟨λm σ' H'=>∃ρ' ,ES own H' σ' ρ'/\BZ gc fb m ρ'=.ok fl/\kS own D σ' H' fl,⟨1000,ρ,E,h,q⟩,?_⟩;rintro m σ H ⟨ρ,E,h,q⟩;cases m with
 |zero=>exact bx h
 |succ m=>
  rw[BZ] at h;obtain⟨k,h1,h2⟩:=bF h;refine⟨ρ,k,E.er,h1,λH1 s=>?_⟩;cases k with
  |true=>
   rw[ar rfl];rw[ar rfl] at h2;obtain⟨r,h3,h4⟩:=bF h2;refine⟨λσ' H'=>∃ρ',ES own H' σ' ρ'/\BZ gc fb m ρ'=.ok fl/\kS own D σ' H' fl,λσ' H' w=>⟨m,i0 m,w⟩,ρ,r,E.same s,h3,?_⟩;have q1:=q.step (.same s);cases r with
   |nx ρ'=>exact λσ' H' ku E'=>⟨ρ',E',h4,q1.step ku⟩
   |ct ρ'=>exact λσ' H' ku E'=>⟨ρ',E',h4,q1.step ku⟩
   |bk ρ'=>cases h4;exact λσ' H' ku E'=>q1 σ' H' ku E'
   |rt d=>cases h4;exact q1
  |false=>
   rw[aq (by simp)];rw[aq (by simp)] at h2;cases h2;exact(q.step (.same s)) σ H1 (λa o e n=>⟨e,n⟩) (E.same s)
end
section
theorem wC:upd (upd H a o) a o'=upd H a o':=by
 funext b
 by_cases h:b=a
 ·subst h;rw[aN,aN]
 ·rw[a_ h,a_ h,a_ h]
end
theorem aMw(h:(cL P w).is k v=ag):RelV (kV k) v:=by
 have h:O8 k v=ag:=h;rcases dZ h with ⟨i,t,rfl,rfl⟩|⟨x,t,rfl,rfl⟩
 ·exact⟨t,rfl⟩
 ·exact⟨t,rfl⟩
end
variable [KFrag]
section
variable {own:ah->ap}
noncomputable def nJ(own:ah->ap)(i:ah):ah->ap:=λj=>own j&&!(j==i)
theorem lM(h:nJ own i j=ag):own j=ag/\j≠i:=by
 unfold nJ at h;simpa using h
theorem Own.of(h:Own (nJ own i) σ b):Own own σ b:=by
 obtain⟨j,hj,e⟩:=h;exact⟨j,(lM hj).1,e⟩
end
end Mi
namespace Wz
open PySem PySem.Spec
theorem K5:vd table "dict.update.loop"=af dt.«dict.update.loop»:=entryFor_of_tree (by kernel_rfl)
end Wz
namespace Mi
open PySem L2 PySem.SeqAt PySem.Spec PyProof.Rows
section
variable [KFrag]
theorem aEh:d3 "dict"=af (.type "dict"):=by decide +kernel
theorem UL(r:Rep P H v d):∀{kvs:aa (Key×V)}{ds:aa (D×D)},l_ P H kvs ds->(kvs.map (·.1)).Nodup->l_ P H (putK kvs k v) (putD ds (kD k) d)
 |_,_,.nil,_=>.cons r .nil
 |_,_,.cons (k:=k') r' t,hn=>by
  rw[aT,cj] at hn;rw[putD,KN];by_cases h:k'=k
  ·rw[GX h (by rw[<-h];exact hn.1),ar (bq h),h];exact .cons r t
  ·rw[GZ h,aq (by simpa using h)];exact .cons r' (UL r t hn.2)
end
noncomputable def aEi(i j:ah):FS:=λρ=>match ρ.getD i .uD with
 |.lst xs=>(match xs[xs.length-1]? with|some x=>.ok (.nx ((ρ.set i (.lst xs.dropLast)).set j x))|none=>.bad)
 |_=>.bad
def aMx(i:ah)(f:FE):FS:=λρ=>do
 let d <- f ρ
 match ρ.getD i .uD,d with
 |.lst xs,.lst ys=>if ϒ (xs.length+ys.length<=lim)&&θ ys then .ok (.nx (ρ.set i (.lst (xs++ys)))) else .bad
 |_,_=>.bad
noncomputable def aMy:aa D->Res D
 |[.bl b]=>.ok (.int (if b then 1 else 0))
 |[.int i]=>.ok (.int i)
 |_=>.bad
section
variable [KFrag]
theorem aIk{X:Cx}:oV X (.type "int") (rs aMy ag):=by
 rintro Ψ s σ H xs us Q I vr ⟨ds,d,r,e,k⟩;unfold aMy at e;split at e
 ·cases e;obtain⟨vv,uu,rfl,rfl,r,v⟩:=mU r vr;cases r.inv;cases v;exact call_int_bool ⟨.int _,H,I.tok _,⟨_,rfl⟩,k.int⟩
 ·cases e;obtain⟨vv,uu,rfl,rfl,r,v⟩:=mU r vr;cases r.inv;obtain⟨t,rfl⟩:=v;exact call_int_int ⟨.int _,H,I,⟨_,rfl⟩,k.int⟩
 ·exact bx e
section
variable {X:Cx} {own:ah->ap} {e:Expr} {fe:FE} {re:ap} {pos:bo}
theorem aIl{i j:ah}{x y:Str}{p1 py apos cpos:bo}(ho:own i=ag)(hN:X.N[i]?=af x)(hv:Vis X.env.scope x)(hnd:X.N.Nodup)(hj:X.N[j]?=af y)(hy:Loc X.env.scope y)(hoj:own j=ai)(hd:nDb x:=by decide)(hcd:nCd x:=by decide)
 (hbase:iP (.Name x p1) "pop" X.env (bE (.Name x p1) X.env)=bE (.Name x p1) X.env:=by rfl)
 (hline:(apos.endLine==cpos.line)=ag:=by rfl)
 (hs:dL (.Call (.Attribute (.Name x p1) "pop" apos) [] [] cpos) (af (.Name y py)) pos.line X.env=pure ai:=by rfl)(hf:X.fn y=ag\/X.env.scope.names.lookup y=af .local:=by first|exact .inl rfl|exact .inr rfl|assumption) :
  PS X (.Assign [.Name y py] (.Call (.Attribute (.Name x p1) "pop" apos) [] [] cpos) pos) (tS own (aEi i j)):=
 PS.imp (JS hnd hj hy (aLv mI xS PySem.F.type_list_pop aLw (j9 hN hv hd hcd) hbase hline) hs hf) λD' σ H z0=>by
 obtain⟨ρ,fl,E,h,q⟩:=z0;unfold aEi at h;split at h
 ·rename_i xs hx;split at h
  ·rename_i dx hdx;cases h;obtain⟨a,o,hσ,r,hin,ha,hm⟩:=E.ownAt ho (by rw[hx];intro z;cases z);rw[hx] at r hin;obtain⟨vs,hl,rr⟩:=BR r;obtain⟨v,hvx,rv⟩:=rr.get hdx;have hlen:=rr.length;refine⟨_,hσ,.inl ⟨rfl,vs,.of hl⟩,a,vs,v,rfl,rfl,hl,by rw[hlen];exact hvx,?_⟩;have hin':θ xs=ag:=hin;have pall:∀y∈xs,y.pure=ag:=λy hy=>xG.mp hin' y hy
   have pdx:dx.pure=ag:=pall dx (lP hdx);have pe:θ xs.dropLast=ag:=xG.mpr λy hy=>pall y (List.dropLast_subset _ hy)
   have er:bQ All H vs.dropLast xs.dropLast:=by
    rw[AI,AI,hlen];exact rr.take _
   obtain⟨E2,k2⟩:=E.mut (o:=.lst vs.dropLast) (d:=.lst xs.dropLast) ho hσ rfl (.lst aN trivial (er.upd pe hl rfl)) pe;have r1:=(bQ.cons rv .nil).upd (o:=.lst vs.dropLast) (by rw[θ,pdx];rfl) hl rfl;cases r1 with
   |cons r1 _=>
    have E3:=E2.set hoj (v:=v) (d:=dx) (r1.bT pdx);exact q _ _ (k2.trans λb ob eb nb=>⟨eb,by rw[rA hoj];exact nb⟩) E3
  ·exact bx h
 ·exact bx h
theorem aMz{i:ah}{x:Str}{p1 apos cpos:bo}(ho:own i=ag)(hN:X.N[i]?=af x)(hv:Vis X.env.scope x)(he:PE X e (gE fe re))(hd:nDb x:=by decide)(hcd:nCd x:=by decide)
 (hbase:iP (.Name x p1) "extend" X.env (bE (.Name x p1) X.env)=bE (.Name x p1) X.env:=by rfl)
 (hs1:bp [e] X.env=(ai,bE e X.env)::bp [] X.env:=by rfl)
 (hfew:((eo cpos (bp [e] X.env)).all (λx=>!x.1)&&(kH cpos (kK [] X.env)).all (λx=>x.1.isSome)
  &&ϒ (([e]:aa Expr).length+([]:aa gi).length+(if ([]:aa gi).isEmpty then 0 else 1)<30))=ag:=by rfl)
 (hline:(apos.endLine==cpos.line)=ag:=by rfl)
 (hs:dL (.Call (.Attribute (.Name x p1) "extend" apos) [e] [] cpos) am pos.line X.env=pure ai:=by rfl) :
  PS X (.Expr (.Call (.Attribute (.Name x p1) "extend" apos) [e] [] cpos) pos) (tS own (aMx i fe)):=
 PS.imp (DP (ZJ mI nK AJ ZK (j9 hN hv hd hcd) (qT he wG hs1) hbase hfew hline hs1 rfl) hs) λD' σ H z0=>by
 obtain⟨ρ,fl,E,h,q⟩:=z0;obtain⟨d,h1,h2⟩:=bF h;split at h2
 ·rename_i xs ys hx;split at h2
  ·rename_i hk;cases h2;rw[bc,eM] at hk;obtain⟨a,o,hσ,r,hin,ha,hm⟩:=E.ownAt ho (by rw[hx];intro z;cases z);rw[hx] at r hin;obtain⟨vs,hl,rr⟩:=BR r;refine⟨_,hσ,.inl ⟨rfl,vs,.of hl⟩,ρ,_,E.er,h1,λv H' s rv _=>?_⟩;obtain⟨b,zs,rfl,hb,_,rz⟩:=rv.inv;have E':=E.same s;have hl':=s _ _ hl;refine⟨a,b,vs,zs,rfl,rfl,hl',hb,by rw[rr.length,rz.length];exact c6 hk.1 (by rw[eC];decide),?_⟩;have hp:θ (xs++ys)=ag:=by rw[nF,bc];exact⟨hin,hk.2⟩
   obtain⟨E2,k2⟩:=E'.mut (o:=.lst (vs++zs)) (d:=.lst (xs++ys)) ho hσ rfl (.lst aN trivial (((rr.same s).append rz).upd hp hl' rfl)) hp;exact q _ _ ((KU.same s).trans k2) E2
  ·exact bx h2
 ·exact bx h2
end
end
open PySem.W
def YK(h:aI)(d:ak)(es:aE gX)(ep:ah):Prop:=∃o,h.get? d=af o/\o.ExactDict/\o.data=.dict es ep
theorem YK.ty{s:ao}{d:ak}{es:aE gX}{ep:ah}(x:YK s.heap d es ep):s.TypeIs (.ref d) "dict":=let ⟨o,e,c,_⟩:=x;⟨o,e,c.1⟩
theorem YK.at{h h':aI}{d:ak}{es:aE gX}{ep:ah}(x:YK h d es ep)(k:∀o,h.get? d=af o->h'.get? d=af o):YK h' d es ep:=let ⟨o,e,r⟩:=x;⟨o,k o e,r⟩
section
variable {prog:br} {w:bg} {A:bS} {E:aj->ao->Prop} {s:ao} {d it:ak} {es:aE gX} {ep i:ah}
theorem aEj{Q:aj->ao->Prop}(hd:(d==ff)=ai)(x:YK s.heap d es ep)(q:Q (.ref s.heap.objs.size) {s with heap:=s.heap.push {cls:=.type "dict_keyiterator",data:=.fields #[.ref d,.int 0 0,.int es.size 0,.int ep 0]}}):ϑ (aw prog w) A (fE (.ref d)) Q E s:=by
 have T:=x.ty;obtain⟨o,e1,e2,e3⟩:=x;refine wpAny_pyIter_slot T AK (lT AK T F.entry_dict_iter (?_:ϑ _ _ (dt.«dict.__iter__» _) _ _ _) (F.args_dict_iter_1 _));unfold dt.«dict.__iter__» B6 B7;refine au (au (AL T (?_:ϑ _ _ (pure (eR d)) _ _ s)));refine aS (?_:ϑ _ _ ((if d==ff then _ else _) >>= _) _ _ s);rw[aq (by rw[hd];simp)];refine au (aS (au (ve e1 e3 (au (vf e1 e3 ?_)))));exact au (fm (aS ⟨_,rfl,"dict_keyiterator",_,⟨_,c8 _ rfl,rfl⟩,mM.lookup,q⟩))
theorem aEk{Q:av aj->ao->Prop}(y:s.heap.IsKeyIter it d i es.size ep)(x:YK s.heap d es ep)(hi:i<es.size)(q:∀h',h'.IsKeyIter it d (i+1) es.size ep->kt it s.heap h'->Q (af es[i].key) {s with heap:=h'}):ϑ (aw prog w) A (fj (.ref it)) Q E s:=by
 have T:=y.typeIs;obtain⟨o,o1,o2,o3⟩:=y;obtain⟨od,e1,e2,e3⟩:=x;have own:AM "dict_keyiterator"=ai:=by decide
 unfold fj;refine au (AN (ti (name:=tj "__next__") T mM (lT mM T AO ?_ (AQ _))));refine au (aS (au (au ?_)))
 first|refine au (oT T (aS (au (qS o1 o3 ?_))))|refine au (qV T (aS (au (qS o1 o3 ?_))))
 rw[own];refine(?_:ϑ _ _ (ite ((eR d==jf)=ag) _ _) _ _ s);rw[aq (by intro z;cases z)];refine au (aS (au (ve e1 e3 ?_)));rw[aq (by simp)];refine au (aS (au (vf e1 e3 ?_)));rw[aq (by simp)];refine aS ?_;simp only[show ¬((i:ae)<0) from by lia,cK,kh,AR hi];refine au ?_
 first|refine au (oT T (aS (au (vg T ?_))))|refine au (qV T (aS (au (vg T ?_))))
 refine au (m:=setField (.ref it) 1 (gu ((i:ae)+1))) (AS o1 o3 (by simp) ?_);have z:(s.heap.update it (AT (·.setIfInBounds 1 (gu ((i:ae)+1))))).IsKeyIter it d (i+1) es.size ep:=⟨_,mx _ o1 (Obj.isFreed_of_fields (AU o3 _)),(Obj.cls_mapFields ..).trans o2,by rw[AU o3];simp[gu]⟩
 refine au (gh (au (vg (s:={s with heap:=s.heap.update it (AT (·.setIfInBounds 1 (gu ((i:ae)+1))))}) z.typeIs (?_:ϑ _ _ (pure es[i].key) _ _ _))));exact aS (aS ⟨_,rfl,aS (q _ z (AV ..))⟩)
theorem aIm{Q:av aj->ao->Prop}(hh:A.handled=am)(y:s.heap.IsKeyIter it d i es.size ep)(x:YK s.heap d es ep)(hi:es.size<=i)(q:∀h',AW it s.heap h'->Q am {s with heap:=h'}):ϑ (aw prog w) A (fj (.ref it)) Q E s:=by
 have T:=y.typeIs;obtain⟨o,o1,o2,o3⟩:=y;obtain⟨od,e1,e2,e3⟩:=x;have own:AM "dict_keyiterator"=ai:=by decide
 unfold fj;refine au (AN (ti (name:=tj "__next__") T mM (lT mM T AO ?_ (AQ _))));refine au (aS (au (au ?_)))
 first|refine au (oT T (aS (au (qS o1 o3 ?_))))|refine au (qV T (aS (au (qS o1 o3 ?_))))
 rw[own];refine(?_:ϑ _ _ (ite ((eR d==jf)=ag) _ _) _ _ s);rw[aq (by intro z;cases z)];refine au (aS (au (ve e1 e3 ?_)));rw[aq (by simp)];refine au (aS (au (vf e1 e3 ?_)));rw[aq (by simp)];refine aS ?_;simp only[show ¬((i:ae)<0) from by lia,cK,kh,vh hi];refine au ?_
 first|refine au (oT T (aS ?_))|refine au (qV T (aS ?_))
 refine au (m:=setField (.ref it) 0 .none) (AS o1 o3 (by simp) (au (m:=newExc (.type "StopIteration") []) ?_));simp only[newExc,uS];refine au (fm (au (m:=AX _ _) (lj (a:=jf) (by first|rfl|(simp only[AX];rfl)) (fm ?_ (by size_fits)))) (by size_fits));simp only[raiseNew];have hh':A.in1.handled=am:=hh;refine au (wpAny_handled ?hd);rw[hh'];refine au (aS (wpAny_throw ?thrown));refine au (wpAny_isInstance (b:=ag) (T:= "StopIteration") ⟨_,c8 _ rfl,rfl⟩ isSubtype_stop ?_);exact aS (q _ (((AV ..).extBut.push _).push _))
theorem aAn(hh:A.handled=am)(I d:ak)(hne:d≠I)(es:aE gX)(ep:ah):Walks prog w A I [I,d] [I] es.size (λi v=>∃h:i<es.size,v=es[i].key) (λi h=>h.IsKeyIter I d i es.size ep/\YK h d es ep) where
 sub:=λb hb=>bd.mpr (.inl (cw.mp hb))
 frame:=λ_ _ _ st hk=>⟨Heap.IsKeyIter.at st.1 λo e=>hk I (by simp) o e,st.2.at λo e=>hk d (by simp) o e⟩
 item:=λi s Q E hi st hQ=>aEk st.1 st.2 hi λh' z sb=>hQ _ h' s.toks ⟨hi,rfl⟩ ⟨z,st.2.at λo e=>sb.extBut d o hne e⟩ λb o hb e=>sb.extBut b o (λh=>hb (by simp[h])) e
 done:=λs Q E st hQ=>aIm hh st.1 st.2 (bj _) λh' ex=>hQ h' s.toks λb o hb e=>ex b o (λh=>hb (by simp[h])) e
 self:=λ_ _ _ _ at_ q=>wpAny_pyIter_keyiter at_.1 q
end
section
variable {prog:br} {w:bg} {A:bS} {E:aj->ao->Prop} {s:ao} {r:ak}
def aPh(s:ao)(F:aE aj->Prop)(q:kA)(s':ao):Prop:=∃(h':aI)(tk:ah)(acc:aE aj)(c:ah),q=.ok (.ret (.ref s.heap.objs.size))/\s'={s with heap:=h',toks:=tk}/\(∀b o,s.heap.get? b=af o->h'.get? b=af o)/\h'.get? s.heap.objs.size=af {cls:=.type "list",dict:=am,data:=.seq acc c,slots:=#[]}/\F acc
theorem aIn{Q:aa aj->ao->Prop}{F:aE aj->Prop}
 (key:ϑ (aw prog w) A.in1 (AY (.ref s.heap.objs.size) (.ref r) (.ref s.heap.objs.size)) (λfin s'=>match fin with|.done f=>aPh s F (.ok f) s'|.again c'=>c'.quiet=ag/\codeAny (aw prog w) A c' (aPh s F) s') (λe s'=>aPh s F (.error e) s') {s with heap:=s.heap.push {cls:=.type "list",data:=.seq ([]:aa aj).toArray}})
 (q:∀h' tk acc,(∀b o,s.heap.get? b=af o->h'.get? b=af o)->s.heap.objs.size<=h'.objs.size->F acc->Q acc.toList {s with heap:=h',toks:=tk}):ϑ (aw prog w) A (mi (.ref r)) Q E s:=by
 have last:∀{h':aI}{tk:ah}{acc:aE aj}{c:ah},(∀b o,s.heap.get? b=af o->h'.get? b=af o)->h'.get? s.heap.objs.size=af {cls:=.type "list",dict:=am,data:=.seq acc c,slots:=#[]}->F acc->ϑ (aw prog w) A (load s.heap.objs.size >>= λo=>match o.data with|.seq xs _=>pure xs.toList|_=>unsupported "internal:collect") Q E {s with heap:=h',toks:=tk}:=λkp at_ f=>au (wpAny_load at_ (aS (q _ _ _ kp (kl (bw at_)) f)))
 unfold mi;refine au (wpAny_runValue (fR entry_proto_collect' (?_:ϑ _ _ (ug [] >>= λl=>again (.builtin "list.__iadd__" ⟨[l,.ref r],[]⟩)) _ _ s)));rw[gl PySem.F.plain_proto_collect];refine au (fm (aS ⟨fN AZ _,fR entry_list_iadd' (?_:ϑ _ _ (AY _ _ _) _ _ _)⟩));rw[gl AZ];refine eB key (λfin s' x=>?_) λe s' ⟨_,_,_,_,z,_⟩=>nomatch z
 cases fin with
 |done f=>
  obtain⟨h',tk,acc,c,e,rfl,kp,at_,f⟩:=x;cases e;exact last kp at_ f
 |again c1=>
  refine⟨x.1,kC x.2 λp s2 y=>?_⟩;obtain⟨h',tk,acc,c,rfl,rfl,kp,at_,f⟩:=y;exact last kp at_ f
theorem aIo{d:ak}{es:aE gX}{ep:ah}(lo:(d==ff)=ai):KdlSrc prog w "dict" d d es.size (λi v=>∃h:i<es.size,v=es[i].key) (λh=>YK h d es ep) where
 type:=λ_ x=>x.ty
 there:=λh x=>by obtain⟨o,e,_⟩:=x;exact⟨bw e,bw e⟩
 keep:=λ_ _ x k=>x.at λo e=>k d (.inl rfl) o e
 notList:=rfl
 notTuple:=rfl
 hint:=λ_ _ _ _ x q=>kdl_hint_dict x.ty q
 iter:=λ_ s hh x=>⟨_,_,λ_ _ q=>aEj lo x q,aAn hh _ d (by obtain⟨o,e,_⟩:=x;exact cu (bw e)) es ep,⟨_,c8 _ rfl,rfl,rfl⟩,x.at λo e=>b6 _ e⟩
theorem aAo{Q:aa aj->ao->Prop}{d:ak}{es:aE gX}{ep:ah}(hh:A.handled=am)(lo:(d==ff)=ai)(x:YK s.heap d es ep)(hz:es.size<=bb)
 (q:∀h' tk,(∀b o,s.heap.get? b=af o->h'.get? b=af o)->s.heap.objs.size<=h'.objs.size->Q (es.toList.map (·.key)) {s with heap:=h',toks:=tk}):ϑ (aw prog w) A (mi (.ref d)) Q E s:=by
 have lt:d<s.heap.objs.size:=by obtain⟨o,e,_⟩:=x;exact bw e
 refine aIn (F:=λacc=>acc.toList=es.toList.map (·.key)) (kdl_extend (aIo (prog:=prog) (w:=w) (es:=es) (ep:=ep) lo) hh (x.at λo e=>b6 _ e) s.heap.objs.size (jn lt) (jn lt) _ 0 (c8 _ rfl) (λh' tk acc c kp at_ it=>⟨h',tk,acc,c,rfl,rfl,λb o e=>kp b o (cu (bw e)) (b6 _ e),at_,?_⟩) hz) λh' tk acc kp sz e=>by rw[e];exact q h' tk kp sz
 refine List.ext_getElem? λi=>?_
 by_cases hi:i<es.size
 ·obtain⟨v,hv⟩:∃v,acc[i]?=af v:=⟨acc[i]'(by rw[it.1];exact hi),by simp[it.1,hi]⟩
  obtain⟨_,e⟩:=it.2 i v hv;rw[nL,hv,e,fu,nL,AR hi];rfl
 ·rw[nL,vh (by rw[it.1];lia),A0 (by simpa using hi)]
end
variable [KFrag]
section
variable {X:Cx}
theorem aN0{H:Hp}{s:ao}{Ψ:aa (ak×ba)}{σ:L2.St}{a:ak}{kvs:aa (aa Key×V)}(I:Inv X Ψ σ H s)(e:H a=af (.dT kvs)):∃(es:aE gX)(ep:ah)(xs:aa (aa Key×ak×aj)),YK s.heap a es ep/\(a==ff)=ai/\kvs.length<=bb/\KT H kvs xs/\es.toList=xs.map (entryOfKey (iw (cL X.prog X.w))):=by
 obtain⟨z,hd,xs,rel,o,es,ep,h1,h2,h3,h4,_⟩:=ZL I.hok e;exact⟨es,ep,xs,⟨o,h1,h2,h3⟩,hd,z,rel,h4⟩
end
end Mi
namespace Mi
open PySem L2 PySem.SeqAt PySem.Spec PyProof.Rows
def aAp(d k e:D):Res D:=
 match d,k with
 |.lst xs,.int j=>match (ixD xs.length j).bind λn=>(xs[n]?).map λy=>(n,y) with
  |some (n,.lst ys)=>if ϒ (ys.length<lim)&&e.pure then .ok (.lst (xs.set n (.lst (ys++[e])))) else .bad
  |_=>.bad
 |.dct kvs,k=>if fZ k then (match bA kvs k with
  |some (.lst ys)=>if ϒ (ys.length<lim)&&e.pure then .ok (.dct (putD kvs k (.lst (ys++[e])))) else .bad
  |_=>.bad) else .bad
 |_,_=>.bad
def QV(i:ah)(fk fe:FE):FS:=λρ=>do
 let d <- iU i ρ
 let k <- fk ρ
 let e <- fe ρ
 let r <- aAp d k e
 .ok (.nx (ρ.set i r))
noncomputable def aQl(i:ah)(d:D):FS:=λρ=>.ok (.nx (ρ.set i d))
section
variable [KFrag]
noncomputable abbrev Cel:=ah->av (ak×aa ak)
def vB(c:Cel)(a:ak):Prop:=∃i b as,c i=af (b,as)/\a∈b::as
inductive InL(H:Hp):aa V->aa D->aa ak->Prop
 |nil:InL H [] [] []
 |cons {a:ak} {vs:aa V} {ds:aa D} {r:aa V} {es:aa D} {as:aa ak}:H a=af (.lst vs)->bQ All H vs ds->θ ds=ag->InL H r es as->InL H (.ref a::r) (.lst ds::es) (a::as)
inductive InK(H:Hp):aa (Key×V)->aa (D×D)->aa ak->Prop
 |nil:InK H [] [] []
 |cons {k:Key} {a:ak} {vs:aa V} {ds:aa D} {r:aa (Key×V)} {es:aa (D×D)} {as:aa ak}:H a=af (.lst vs)->bQ All H vs ds->θ ds=ag->InK H r es as->InK H ((k,.ref a)::r) ((kD k,.lst ds)::es) (a::as)
inductive InA(H:Hp)(as:aa ak):aa V->aa D->Prop
 |nil:InA H as [] []
 |cons {a:ak} {vs:aa V} {ds:aa D} {r:aa V} {es:aa D}:a∈as->H a=af (.lst vs)->bQ All H vs ds->θ ds=ag->InA H as r es->InA H as (.ref a::r) (.lst ds::es)
noncomputable def aN1:HO->ap
 |.lst _=>ag
 |.dK _=>ag
 |_=>ai
theorem aAq{o:HO}(h:aN1 o=ag):vA o=ag:=by cases o<;>first|rfl|cases h
inductive xN(q:ap)(H:Hp)(b:ak)(as:aa ak):D->Prop
 |lst {vs:aa V} {ds:aa D}:H b=af (.lst vs)->InL H vs ds as->xN q H b as (.lst ds)
 |dct {kvs:aa (Key×V)} {ds:aa (D×D)}:H b=af (.dK kvs)->InK H kvs ds as->(kvs.map (·.1)).Nodup->xN q H b as (.dct ds)
 |pln {d:D} {o:HO}:as=[]->H b=af o->aN1 o=ag->Rep All H (.ref b) d->inner d=ag->xN q H b as d
 |any {vs:aa V} {ds:aa D}:q=ag->H b=af (.lst vs)->InA H as vs ds->(∀a∈as,∃ws,H a=af (.lst ws))->xN q H b as (.lst ds)
section
variable {H H':Hp} {vs:aa V} {ds:aa D} {as:aa ak} {kvs:aa (Key×V)} {es:aa (D×D)}
theorem InL.reps(h:InL H vs ds as):bQ All H vs ds:=by
 induction h with
 |nil=>exact .nil
 |cons e r p t ih=>exact .cons (.lst e trivial r) ih
theorem InK.reps(h:InK H kvs es as):l_ All H kvs es:=by
 induction h with
 |nil=>exact .nil
 |cons e r p t ih=>exact .cons (.lst e trivial r) ih
theorem InL.same(h:InL H vs ds as)(s:cR H H'):InL H' vs ds as:=by
 induction h with
 |nil=>exact .nil
 |cons e r p t ih=>exact .cons (s _ _ e) (r.same s) p ih
theorem InK.same(h:InK H kvs es as)(s:cR H H'):InK H' kvs es as:=by
 induction h with
 |nil=>exact .nil
 |cons e r p t ih=>exact .cons (s _ _ e) (r.same s) p ih
theorem InL.live(h:InL H vs ds as):∀a∈as,∃ws,H a=af (.lst ws):=by
 induction h with
 |nil=>intro a ha;cases ha
 |cons e r p t ih=>
  intro a ha;rcases bd.mp ha with rfl|ha
  ·exact⟨_,e⟩
  ·exact ih a ha
theorem InK.live(h:InK H kvs es as):∀a∈as,∃ws,H a=af (.lst ws):=by
 induction h with
 |nil=>intro a ha;cases ha
 |cons e r p t ih=>
  intro a ha;rcases bd.mp ha with rfl|ha
  ·exact⟨_,e⟩
  ·exact ih a ha
theorem InL.upd{x:ak}{o u:HO}(h:InL H vs ds as)(hx:x∉as)(hu:H x=af u)(hm:vA u=ag):InL (upd H x o) vs ds as:=by
 induction h with
 |nil=>exact .nil
 |cons e r p t ih=>
  rw[bd,fy] at hx;exact .cons (by rw[a_ (Ne.symm hx.1)];exact e) (r.upd p hu hm) p (ih hx.2)
theorem InK.upd{x:ak}{o u:HO}(h:InK H kvs es as)(hx:x∉as)(hu:H x=af u)(hm:vA u=ag):InK (upd H x o) kvs es as:=by
 induction h with
 |nil=>exact .nil
 |cons e r p t ih=>
  rw[bd,fy] at hx;exact .cons (by rw[a_ (Ne.symm hx.1)];exact e) (r.upd p hu hm) p (ih hx.2)
theorem aEm{ds:aa D}{n:ah}{y:D}(h:θ ds=ag)(hn:ds[n]?=af y):y.pure=ag:=by
 induction ds generalizing n with
 |nil=>simp at hn
 |cons d ds ih=>
  rw[θ,bc] at h;cases n with
  |zero=>simp at hn;subst hn;exact h.1
  |succ n=>exact ih h.2 (by simpa using hn)
theorem mD{ds:aa D}{d:D}(h:θ ds=ag)(hd:d.pure=ag):θ (ds++[d])=ag:=by
 rw[nF];simp only[bc];exact⟨h,by simp[θ,hd]⟩
theorem aAr{kvs:aa (D×D)}{k y:D}(h:θ (kvs.map (·.2))=ag)(hl:bA kvs k=af y):y.pure=ag:=by
 induction kvs with
 |nil=>cases hl
 |cons p r ih=>
  rw[aT,θ,bc] at h;rw[bA] at hl;split at hl
  ·cases hl;exact h.1
  ·exact ih h.2 hl
theorem InL.at_{n:ah}{y:D}(h:InL H vs ds as)(hn:ds[n]?=af y)(nd:as.Nodup):∃a ws ys,y=.lst ys/\vs[n]?=af (.ref a)/\a∈as/\H a=af (.lst ws)/\bQ All H ws ys/\
  ∀(H':Hp)(v:V)(e:D),cR H H'->Rep All H' v e->e.pure=ag->InL (L2.upd H' a (.lst (ws++[v]))) vs (ds.set n (.lst (ys++[e]))) as:=by
 induction h generalizing n with
 |nil=>simp at hn
 |@cons a ws ys r es as e rr p t ih=>
  rw[cj] at nd;cases n with
  |zero=>
   simp only[List.getElem?_cons_zero,gm] at hn;subst hn;refine⟨a,ws,ys,rfl,rfl,bh ..,e,rr,λH' v d sm rv hd=>?_⟩;exact .cons aN (((rr.same sm).snoc rv).upd (mD p hd) (sm _ _ e) rfl) (mD p hd) ((t.same sm).upd nd.1 (sm _ _ e) rfl)
  |succ n=>
   rw[vk] at hn;obtain⟨a',ws',ys',h1,h2,h3,h4,h5,h6⟩:=ih hn nd.2;refine⟨a',ws',ys',h1,by rw[vk];exact h2,bf _ h3,h4,h5,λH' v d sm rv hd=>?_⟩;have hne:a≠a':=λz=>by subst z;exact nd.1 h3
   exact .cons (by rw[a_ hne];exact sm _ _ e) ((rr.same sm).upd p (sm _ _ h4) rfl) p (h6 H' v d sm rv hd)
theorem InK.at_{k:Key}{y:D}(h:InK H kvs es as)(hn:bA es (kD k)=af y)(nd:as.Nodup):∃a ws ys,y=.lst ys/\rM kvs k=af (.ref a)/\a∈as/\H a=af (.lst ws)/\bQ All H ws ys/\
  ∀(H':Hp)(v:V)(e:D),cR H H'->Rep All H' v e->e.pure=ag->InK (L2.upd H' a (.lst (ws++[v]))) kvs (putD es (kD k) (.lst (ys++[e]))) as:=by
 induction h with
 |nil=>cases hn
 |@cons q a ws ys r es as e rr p t ih=>
  rw[cj] at nd;rw[bA,KN] at hn;by_cases hq:q=k
  ·subst hq;rw[bq rfl,ar rfl] at hn;cases hn;refine⟨a,ws,ys,rfl,?_,bh ..,e,rr,λH' v d sm rv hd=>?_⟩
   ·simp[rM]
   ·rw[putD,KN,bq rfl,ar rfl];exact .cons aN (((rr.same sm).snoc rv).upd (mD p hd) (sm _ _ e) rfl) (mD p hd) ((t.same sm).upd nd.1 (sm _ _ e) rfl)
  ·rw[bP hq,aq (by simp)] at hn;obtain⟨a',ws',ys',h1,h2,h3,h4,h5,h6⟩:=ih hn nd.2;have hne:a≠a':=λz=>by subst z;exact nd.1 h3
   refine⟨a',ws',ys',h1,?_,bf _ h3,h4,h5,λH' v d sm rv hd=>?_⟩
   ·rw[<-h2];simp[rM,hq]
   ·rw[putD,KN,bP hq,aq (by simp)];exact .cons (by rw[a_ hne];exact sm _ _ e) ((rr.same sm).upd p (sm _ _ h4) rfl) p (h6 H' v d sm rv hd)
theorem InA.reps(h:InA H as vs ds):bQ All H vs ds:=by
 induction h with
 |nil=>exact .nil
 |cons m e r p t ih=>exact .cons (.lst e trivial r) ih
theorem InA.same(h:InA H as vs ds)(s:cR H H'):InA H' as vs ds:=by
 induction h with
 |nil=>exact .nil
 |cons m e r p t ih=>exact .cons m (s _ _ e) (r.same s) p ih
theorem InA.upd{x:ak}{o u:HO}(h:InA H as vs ds)(hx:x∉as)(hu:H x=af u)(hm:vA u=ag):InA (upd H x o) as vs ds:=by
 induction h with
 |nil=>exact .nil
 |cons m e r p t ih=>exact .cons m (by rw[a_ (λz=>hx (by rw[<-z];exact m))];exact e) (r.upd p hu hm) p ih
theorem Rep.aRj{b x:ak}{d:D}{o u:HO}(r:Rep All H (.ref b) d)(hi:inner d=ag)(hx:x≠b)(hu:H x=af u)(hm:vA u=ag):Rep All (L2.upd H x o) (.ref b) d:=by
 refine(r.aKz (P':=λc=>c=b) hi rfl).keep (λc oc hc hp=>?_) λ_ _=>trivial
 rw[a_]
 ·exact hc
 ·intro z;subst z;rcases hp with hp|hp
  ·exact hx hp
  ·rw[hu] at hc;cases hc;rw[hm] at hp;cases hp
variable {qb:ap}
theorem xN.rep{b:ak}{d:D}(h:xN qb H b as d):Rep All H (.ref b) d:=by
 cases h with
 |lst e i=>exact .lst e trivial i.reps
 |dct e i n=>exact .dK e trivial i.reps n
 |pln z e m r p=>exact r
 |any z e i l=>exact .lst e trivial i.reps
theorem xN.same{b:ak}{d:D}(h:xN qb H b as d)(s:cR H H'):xN qb H' b as d:=by
 cases h with
 |lst e i=>exact .lst (s _ _ e) (i.same s)
 |dct e i n=>exact .dct (s _ _ e) (i.same s) n
 |pln z e m r p=>exact .pln z (s _ _ e) m (r.same s) p
 |any z e i l=>exact .any z (s _ _ e) (i.same s) λa ha=>let ⟨ws,h⟩:=l a ha;⟨ws,s _ _ h⟩
theorem xN.live{b:ak}{d:D}(h:xN qb H b as d):∀a∈b::as,∃o,H a=af o/\vA o=ag:=by
 intro a ha;cases h with
 |lst e i=>
  rcases bd.mp ha with rfl|ha
  ·exact⟨_,e,rfl⟩
  ·obtain⟨ws,h⟩:=i.live a ha;exact⟨_,h,rfl⟩
 |dct e i n=>
  rcases bd.mp ha with rfl|ha
  ·exact⟨_,e,rfl⟩
  ·obtain⟨ws,h⟩:=i.live a ha;exact⟨_,h,rfl⟩
 |pln z e m r p=>
  subst z;rw[cw.mp ha];exact⟨_,e,aAq m⟩
 |any z e i l=>
  rcases bd.mp ha with rfl|ha
  ·exact⟨_,e,rfl⟩
  ·obtain⟨ws,h⟩:=l a ha;exact⟨_,h,rfl⟩
theorem xN.upd{b x:ak}{d:D}{o u:HO}(h:xN qb H b as d)(hx:x∉b::as)(hu:H x=af u)(hm:vA u=ag):xN qb (L2.upd H x o) b as d:=by
 rw[bd,fy] at hx;cases h with
 |lst e i=>exact .lst (by rw[a_ (Ne.symm hx.1)];exact e) (i.upd hx.2 hu hm)
 |dct e i n=>exact .dct (by rw[a_ (Ne.symm hx.1)];exact e) (i.upd hx.2 hu hm) n
 |pln z e m r p=>exact .pln z (by rw[a_ (Ne.symm hx.1)];exact e) m (r.aRj p hx.1 hu hm) p
 |any z e i l=>exact .any z (by rw[a_ (Ne.symm hx.1)];exact e) (i.upd hx.2 hu hm) λa ha=>let ⟨ws,h⟩:=l a ha;⟨ws,by rw[a_ (λz=>hx.2 (by rw[<-z];exact ha))];exact h⟩
end
structure NQ(S:ah->ap)(c:Cel)(H:Hp)(σ:L2.St)(ρ:aa D):Prop where
 len:σ.length=ρ.length
 dom:∀i p,c i=af p->S i=ag
 nd:∀i b as,c i=af (b,as)->(b::as).Nodup
 dj:∀i j b as b' as',i≠j->c i=af (b,as)->c j=af (b',as')->∀a∈b::as,a∉b'::as'
 at_:∀i,ρ.getD i .uD≠.uD->∃v,σ[i]?=af (af v)/\(S i=ai->Rep (λa=>¬vB c a) H v (ρ.getD i .uD))
 nst:∀i b as,c i=af (b,as)->σ[i]?=af (af (.ref b))/\xN (S (i+1000)) H b as (ρ.getD i .uD)
 all:∀i,S i=ag->ρ.getD i .uD≠.uD->∃p,c i=af p
variable {S:ah->ap}
theorem NQ.er{c:Cel}{H:Hp}{σ:L2.St}{ρ:aa D}(E:NQ S c H σ ρ):ER H σ ρ:=λi hi=>by
 obtain⟨v,h1,h2⟩:=E.at_ i hi;cases ho:S i with
 |false=>exact⟨v,h1,(h2 ho).all⟩
 |true=>
  obtain⟨⟨b,as⟩,hp⟩:=E.all i ho hi;obtain⟨h3,h4⟩:=E.nst i b as hp;exact⟨_,h3,h4.rep⟩
theorem NQ.live{c:Cel}{H:Hp}{σ:L2.St}{ρ:aa D}(E:NQ S c H σ ρ){a:ak}(h:vB c a):∃o,H a=af o/\vA o=ag:=by
 obtain⟨i,b,as,hc,ha⟩:=h;exact(E.nst i b as hc).2.live a ha
theorem NQ.same{c:Cel}{H H':Hp}{σ:L2.St}{ρ:aa D}(E:NQ S c H σ ρ)(s:cR H H'):NQ S c H' σ ρ:=
 ⟨E.len,E.dom,E.nd,E.dj,λi hi=>let ⟨v,h1,h2⟩:=E.at_ i hi;⟨v,h1,λho=>(h2 ho).same s⟩,λi b as hc=>let ⟨h1,h2⟩:=E.nst i b as hc;⟨h1,h2.same s⟩,E.all⟩
def KC(c:Cel)(H:Hp)(c':Cel)(H':Hp):Prop:=∀a o,H a=af o->¬vB c a->H' a=af o/\¬vB c' a
theorem KC.trans{c c1 c2:Cel}{H H1 H2:Hp}(a:KC c H c1 H1)(b:KC c1 H1 c2 H2):KC c H c2 H2:=λx o e n=>let ⟨e1,n1⟩:=a x o e n;b x o e1 n1
theorem KC.same{c:Cel}{H H':Hp}(s:cR H H'):KC c H c H':=λa o e n=>⟨s a o e,n⟩
theorem KC.keep{c c':Cel}{σ:L2.St}{H H':Hp}{ρ:aa D}(k:KC c H c' H')(E:NQ S c H σ ρ):FP (λa=>¬vB c a) H H':=λa o h hp=>by
 by_cases ho:vB c a
 ·obtain⟨o',g1,g2⟩:=E.live ho;rw[h] at g1;cases g1;rcases hp with hp|hp
  ·exact az ho hp
  ·rw[g2] at hp;cases hp
 ·exact(k a o h ho).1
theorem KC.rep{c c':Cel}{σ:L2.St}{H H':Hp}{ρ:aa D}(k:KC c H c' H')(E:NQ S c H σ ρ){v:V}{d:D}(r:Rep (λa=>¬vB c a) H v d):Rep (λa=>¬vB c' a) H' v d:=r.WR (k.keep E) λa o e n=>(k a o e n).2
def kN(S:ah->ap)(D:Ends)(c:Cel)(H:Hp):Fl->Prop
 |.nx ρ=>∀c' σ' H',KC c H c' H'->NQ S c' H' σ' ρ->D.nx σ' H'
 |.bk ρ=>∀c' σ' H',KC c H c' H'->NQ S c' H' σ' ρ->D.bk σ' H'
 |.ct ρ=>∀c' σ' H',KC c H c' H'->NQ S c' H' σ' ρ->D.ct σ' H'
 |.rt d=>∀v H',(∀a o,H a=af o->¬vB c a->H' a=af o)->Rep (λa=>vB c a\/H a=am) H' v d->D.rt v H'
theorem kN.step{D:Ends}{c c':Cel}{H H':Hp}{fl:Fl}(k:KC c H c' H')(h:kN S D c H fl):kN S D c' H' fl:=by
 cases fl with
 |nx ρ=>exact λc2 σ2 H2 k2 e=>h c2 σ2 H2 (k.trans k2) e
 |bk ρ=>exact λc2 σ2 H2 k2 e=>h c2 σ2 H2 (k.trans k2) e
 |ct ρ=>exact λc2 σ2 H2 k2 e=>h c2 σ2 H2 (k.trans k2) e
 |rt d=>
  refine λv H2 hk r=>h v H2 (λa o e n=>let ⟨e1,n1⟩:=k a o e n;hk a o e1 n1) (r.mono λa ha=>?_)
  cases q:H a with
  |none=>exact .inr rfl
  |some o=>
   refine .inl (mB λn=>?_);obtain⟨e1,n1⟩:=k a o q n;rcases ha with ha|ha
   ·exact n1 ha
   ·rw[e1] at ha;cases ha
noncomputable def tN(S:ah->ap)(f:FS):TS:=λD σ H=>∃c ρ fl,NQ S c H σ ρ/\f ρ=.ok fl/\kN S D c H fl
structure QS(X:Cx)(st:bi)(t:TS):Prop where
 out:PS X st t
structure QSs(X:Cx)(st:aa bi)(t:TS):Prop where
 out:PSs X st t
section
variable {X:Cx} {a b c e:Expr} {pos:bo} {fe:FE} {re:ap} {gc:FT} {f g:FS} {st:bi} {rest s1 s2:aa bi}
theorem aIp:QSs X [] (tN S jH):=QSs.mk <| PSs.imp Y0 λD σ H ⟨c,ρ,fl,E,h,q⟩=>by
 cases h;exact q c σ H (λa o e n=>⟨e,n⟩) E
theorem vX(h1:QS X st (tN S f))(h2:QSs X rest (tN S g)):QSs X (st::rest) (tN S (bH f g)):=QSs.mk <| PSs.imp (vJ h1.out h2.out) λD σ H ⟨c,ρ,fl,E,h,q⟩=>by
 obtain⟨r,h1,h2⟩:=bF h;refine⟨c,ρ,r,E,h1,?_⟩;cases r with
 |nx ρ'=>exact λc' σ' H' k E'=>⟨c',ρ',fl,E',h2,q.step k⟩
 |bk ρ'=>cases h2;exact q
 |ct ρ'=>cases h2;exact q
 |rt d=>cases h2;exact q
theorem G5(h1:QS X st (tN S f)):QSs X [st] (tN S f):=⟨Y4 h1.out⟩
theorem aPi(hc:PT X c (gT gc))(ha:QSs X s1 (tN S f))(hb:QSs X s2 (tN S g)):QS X (.If c s1 s2 pos) (tN S (sIf gc f g)):=QS.mk <| PS.imp (aLe hc ha.out hb.out) λD σ H ⟨c',ρ,fl,E,h,q⟩=>by
 obtain⟨k,h1,h2⟩:=bF h;refine⟨ρ,k,E.er,h1,λH' s=>?_⟩;cases k with
 |true=>rw[ar rfl];rw[ar rfl] at h2;exact⟨c',ρ,fl,E.same s,h2,q.step (.same s)⟩
 |false=>rw[aq (by simp)];rw[aq (by simp)] at h2;exact⟨c',ρ,fl,E.same s,h2,q.step (.same s)⟩
theorem NQ.set{c:Cel}{H:Hp}{σ:L2.St}{ρ:aa D}{i:ah}{v:V}{d:D}(E:NQ S c H σ ρ)(ho:S i=ai)(r:Rep (λa=>¬vB c a) H v d):NQ S c H (σ.set i (af v)) (ρ.set i d):=by
 have hne:∀j,S j=ag->i≠j:=λj hj z=>by subst z;rw[ho] at hj;cases hj
 refine⟨by simp[E.len],E.dom,E.nd,E.dj,λj hj=>?_,λj b as hc=>?_,λj hj hd=>?_⟩
 ·rw[bR] at hj ⊢;by_cases h:i=j/\i<ρ.length
  ·rw[ar h];obtain⟨rfl,hl⟩:=h;exact⟨v,by rw[fT (by rw[E.len];exact hl)],λ_=>r⟩
  ·rw[aq h] at hj ⊢;obtain⟨w,h1,h2⟩:=E.at_ j hj;by_cases hij:i=j
   ·subst hij;have:i<σ.length:=(c9.mp h1).1;rw[E.len] at this;exact az ⟨rfl,this⟩ h
   ·exact⟨w,by rw[dw hij];exact h1,h2⟩
 ·have hij:=hne j (E.dom j _ hc);rw[bR,aq λz=>hij z.1,dw hij];exact E.nst j b as hc
 ·have hij:=hne j hj;rw[bR,aq λz=>hij z.1] at hd;exact E.all j hj hd
theorem NQ.app{c:Cel}{H:Hp}{σ:L2.St}{ρ:aa D}{i:ah}{b x:ak}{as:aa ak}{d:D}{o u:HO}(E:NQ S c H σ ρ)(hc:c i=af (b,as))(hx:x∈b::as)(hu:H x=af u)(hm:vA u=ag)(hn:xN (S (i+1000)) (upd H x o) b as d):NQ S c (upd H x o) σ (ρ.set i d)/\KC c H c (upd H x o):=by
 have hO:vB c x:=⟨i,b,as,hc,hx⟩
 have k:KC c H c (upd H x o):=λa oa e n=>⟨by rw[a_ (λz=>by subst z;exact n hO)];exact e,n⟩
 obtain⟨hσ,_⟩:=E.nst i b as hc;have hl:i<ρ.length:=by rw[<-E.len];exact(c9.mp hσ).1
 have hS:=E.dom i _ hc;refine⟨⟨by simp[E.len],E.dom,E.nd,E.dj,λj hj=>?_,λj b' as' hc'=>?_,λj hj hd=>?_⟩,k⟩
 ·rw[bR] at hj ⊢;by_cases h:i=j/\i<ρ.length
  ·obtain⟨rfl,_⟩:=h;exact⟨_,hσ,λz=>by rw[hS] at z;cases z⟩
  ·rw[aq h] at hj ⊢;obtain⟨w,h1,h2⟩:=E.at_ j hj;exact⟨w,h1,λhj=>k.rep E (h2 hj)⟩
 ·by_cases hij:i=j
  ·subst hij;rw[hc] at hc';cases hc';rw[bR,ar ⟨rfl,hl⟩];exact⟨hσ,hn⟩
  ·rw[bR,aq λz=>hij z.1];obtain⟨h1,h2⟩:=E.nst j b' as' hc';exact⟨h1,h2.upd (E.dj i j b as b' as' hij hc hc' x hx) hu hm⟩
 ·by_cases hij:i=j
  ·subst hij;exact⟨_,hc⟩
  ·rw[bR,aq λz=>hij z.1] at hd;exact E.all j hj hd
def aRk(K:bz):R2:=λx y H Q=>aQf K x y H Q\/∃a kvs k v,x=.ref a/\y=kV k/\H a=af (.dK kvs)/\rM kvs k=af v/\Q v H
theorem aQm(hu:X.A.units+20<bm):IxR X (aRk X.K):=IxR.or DQ λvalue slice Ψ s σ H x y v u Q I rx ry h hs=>by
 obtain⟨a,kvs,k,w,rfl,rfl,e,hv,q⟩:=h;cases rx;have g:SM H a (kV k) (rM kvs k):=.k e;rw[hv] at g;exact xF hu I g ry hs (λ_ h=>h) q
theorem aAs{i:ah}{x:Str}{k:Expr}{fk:FE}{rk:ap}{p1 p2 apos cpos:bo}(hu:X.A.units+20<bm)(ho:S i=ag)(hN:X.N[i]?=af x)(hv:Vis X.env.scope x)(hk:PE X k (gE fk rk))(he:PE X e (gE fe re))(hp:tX k:=by exact λ_ _=>rfl)(hd:nDb x:=by decide)(hcd:nCd x:=by decide)
 (hbase:iP (.Subscript (.Name x p1) k p2) "append" X.env (bE (.Subscript (.Name x p1) k p2) X.env)=bE (.Subscript (.Name x p1) k p2) X.env:=by rfl)
 (hs1:bp [e] X.env=(ai,bE e X.env)::bp [] X.env:=by rfl)
 (hfew:((eo cpos (bp [e] X.env)).all (λx=>!x.1)&&(kH cpos (kK [] X.env)).all (λx=>x.1.isSome)
  &&ϒ (([e]:aa Expr).length+([]:aa gi).length+(if ([]:aa gi).isEmpty then 0 else 1)<30))=ag:=by rfl)
 (hline:(apos.endLine==cpos.line)=ag:=by rfl)
 (hs:dL (.Call (.Attribute (.Subscript (.Name x p1) k p2) "append" apos) [e] [] cpos) am pos.line X.env=pure ai:=by rfl)
 (hq:S (i+1000)=ai:=by rfl):QS X (.Expr (.Call (.Attribute (.Subscript (.Name x p1) k p2) "append" apos) [e] [] cpos) pos) (tN S (QV i fk fe)):=QS.mk <|
 PS.imp (DP (ZJ mI tJ AB wJ (aHj (aQm hu) (j9 hN hv hd hcd) hk hp) (qT he wG hs1) hbase hfew hline hs1 rfl) hs) λD' σ H ⟨c,ρ,fl,E,h,q⟩=>by
 obtain⟨d,h1,hA⟩:=bF h;obtain⟨kd,h2,hB⟩:=bF hA;obtain⟨ed,h3,hC⟩:=bF hB;obtain⟨r,h4,hD⟩:=bF hC;cases hD;obtain⟨v0,hv0,r0,e0⟩:=E.er.var h1;have hne:ρ.getD i .uD≠.uD:=λz=>by rw[z] at e0;subst e0;exact Rep.uD r0
 obtain⟨⟨b,as⟩,hc⟩:=E.all i ho hne;obtain⟨hσ,hN0⟩:=E.nst i b as hc;have hnd:=E.nd i b as hc;rw[cj] at hnd;rw[e0,hq] at hN0;unfold aAp at h4;split at h4
 ·rename_i xs j;split at h4
  ·rename_i n ys hix;split at h4
   ·rename_i hg;cases h4;rw[bc] at hg;obtain⟨n',hx1,hx2⟩:=Option.bind_eq_some_iff.mp hix;obtain⟨y',hx3,hx4⟩:=k5.mp hx2;cases hx4;refine⟨.ref b,hσ,ρ,_,E.er,h2,λkv H1 sm1 rk1 _=>?_⟩;cases rk1;have N1:=hN0.same sm1;cases N1 with
    |lst eb il=>
     obtain⟨a,ws,zs,q1,q2,q3,q4,q5,q6⟩:=il.at_ hx3 hnd.2;cases q1;refine .inl ⟨b,_,j,.ref a,rfl,rfl,.of eb,by rw[aGa,il.reps.length,hx1];exact q2,?_⟩;refine⟨.inl ⟨rfl,_,.of q4⟩,ρ,_,E.er.same sm1,h3,λev H2 sm2 re2 _=>⟨a,ws,ev,rfl,rfl,sm2 _ _ q4,by rw[q5.length];exact KD hg.1,?_⟩⟩;obtain⟨E2,k2⟩:=(E.same (sm1.trans sm2)).app (o:=.lst (ws++[ev])) hc (bf _ q3) (sm2 _ _ q4) rfl (.lst (by rw[a_ (λz=>hnd.1 (by rw[z];exact q3))];exact sm2 _ _ eb) (q6 H2 ev ed sm2 re2 hg.2));exact q c σ _ ((KC.same (sm1.trans sm2)).trans k2) E2
    |pln _ _ _ _ pp=>
     have:=aEm pp hx3;cases this
    |any z=>cases z
   ·cases h4
  ·cases h4
 ·rename_i kvs;split at h4
  rotate_left
  ·cases h4
  rename_i hfk;obtain⟨z,rfl⟩:∃z:Key,kd=kD z:=by
   cases kd<;>first|exact⟨.inl _,rfl⟩|exact⟨.inr _,rfl⟩|cases hfk
  split at h4
  ·rename_i ys hlk;split at h4
   ·rename_i hg;cases h4;rw[bc] at hg;refine⟨.ref b,hσ,ρ,_,E.er,h2,λkv H1 sm1 rk1 _=>?_⟩;obtain rfl:kv=kV z:=by
     cases z with
     |inl i=>cases rk1;rfl
     |inr x=>cases rk1;rfl
    have N1:=hN0.same sm1;cases N1 with
    |pln _ _ _ _ pp=>
     have:=aAr pp hlk;cases this
    |dct eb il nk=>
     obtain⟨a,ws,zs,q1,q2,q3,q4,q5,q6⟩:=il.at_ (k:=z) hlk hnd.2;cases q1;refine .inr ⟨b,_,z,.ref a,rfl,rfl,eb,q2,?_⟩;refine⟨.inl ⟨rfl,_,.of q4⟩,ρ,_,E.er.same sm1,h3,λev H2 sm2 re2 _=>⟨a,ws,ev,rfl,rfl,sm2 _ _ q4,by rw[q5.length];exact KD hg.1,?_⟩⟩;obtain⟨E2,k2⟩:=(E.same (sm1.trans sm2)).app (o:=.lst (ws++[ev])) hc (bf _ q3) (sm2 _ _ q4) rfl (.dct (by rw[a_ (λz=>hnd.1 (by rw[z];exact q3))];exact sm2 _ _ eb) (q6 H2 ev ed sm2 re2 hg.2) nk);exact q c σ _ ((KC.same (sm1.trans sm2)).trans k2) E2
   ·cases h4
  ·cases h4
 ·cases h4
end
end
section
variable [KFrag]
variable {S:ah->ap}
theorem NQ.new{c:Cel}{H H':Hp}{σ:L2.St}{ρ:aa D}{i:ah}{b:ak}{as:aa ak}{d:D}(E:NQ S c H σ ρ)(ho:S i=ag)(hl:i<σ.length)(sm:cR H H')(nd:(b::as).Nodup)(hf:∀a∈b::as,H a=am)(hn:xN (S (i+1000)) H' b as d):∃c',NQ S c' H' (σ.set i (af (.ref b))) (ρ.set i d)/\KC c H c' H':=by
 have hlv:∀a,vB c a->a∉b::as:=λa ha z=>by
  obtain⟨o,h1,_⟩:=E.live ha;rw[hf a z] at h1;cases h1
 have own:∀a,vB (λj=>if j=i then af (b,as) else c j) a->vB c a\/a∈b::as:=λa ⟨j,b',as',hc,ha⟩=>by
  by_cases hj:j=i
  ·simp only[hj,cx,gm,gz] at hc;obtain⟨rfl,rfl⟩:=hc;exact .inr ha
  ·simp only[hj,cK] at hc;exact .inl ⟨j,b',as',hc,ha⟩
 have k:KC c H (λj=>if j=i then af (b,as) else c j) H':=λa o e n=>⟨sm a o e,λz=>by
  rcases own a z with z|z
  ·exact n z
  ·rw[hf a z] at e;cases e⟩
 have hlr:i<ρ.length:=by rw[<-E.len];exact hl
 refine⟨λj=>if j=i then af (b,as) else c j,⟨by simp[E.len],λj p hc=>?_,λj b' as' hc=>?_,λj1 j2 b1 as1 b2 as2 hne h1 h2 a ha=>?_,λj hj=>?_,λj b' as' hc=>?_,λj hj hd=>?_⟩,k⟩
 ·by_cases hj:j=i
  ·rw[hj];exact ho
  ·simp only[hj,cK] at hc;exact E.dom j p hc
 ·by_cases hj:j=i
  ·simp only[hj,cx,gm,gz] at hc;obtain⟨rfl,rfl⟩:=hc;exact nd
  ·simp only[hj,cK] at hc;exact E.nd j b' as' hc
 ·by_cases e1:j1=i
  ·by_cases e2:j2=i
   ·exact az (e1.trans e2.symm) hne
   ·simp only[e1,cx,gm,gz] at h1;simp only[e2,cK] at h2;obtain⟨rfl,rfl⟩:=h1;exact λz=>hlv a ⟨j2,b2,as2,h2,z⟩ ha
  ·simp only[e1,cK] at h1;by_cases e2:j2=i
   ·simp only[e2,cx,gm,gz] at h2;obtain⟨rfl,rfl⟩:=h2;exact hlv a ⟨j1,b1,as1,h1,ha⟩
   ·simp only[e2,cK] at h2;exact E.dj j1 j2 b1 as1 b2 as2 hne h1 h2 a ha
 ·rw[bR] at hj ⊢;by_cases h:i=j/\i<ρ.length
  ·obtain⟨rfl,_⟩:=h;exact⟨.ref b,by rw[fT hl],λz=>by rw[ho] at z;cases z⟩
  ·rw[aq h] at hj ⊢;have hij:i≠j:=λz=>h ⟨z,hlr⟩
   obtain⟨w,h1,h2⟩:=E.at_ j hj;exact⟨w,by rw[dw hij];exact h1,λhs=>k.rep E (h2 hs)⟩
 ·by_cases hj:j=i
  ·subst hj;simp only[cx,gm,gz] at hc;obtain⟨rfl,rfl⟩:=hc;rw[bR,ar ⟨rfl,hlr⟩,fT hl];exact⟨rfl,hn⟩
  ·simp only[hj,cK] at hc;rw[bR,aq λz=>hj z.1.symm,dw (Ne.symm hj)];obtain⟨h1,h2⟩:=E.nst j b' as' hc;exact⟨h1,h2.same sm⟩
 ·by_cases hji:j=i
  ·exact⟨(b,as),by simp[hji]⟩
  ·rw[bR,aq λz=>hji z.1.symm] at hd;obtain⟨p,hp⟩:=E.all j hj hd;exact⟨p,by simp[hji,hp]⟩
section
variable {X:Cx} {a c e:Expr} {pos:bo} {fb:FE} {g:FS} {n:ah}
def TgN(S:ah->ap)(g:TG)(t:D->aa D->Res (aa D)):Prop:=∀(v:V)(d:D)(ρ ρ':aa D)(σ:L2.St)(H:Hp)(c:Cel)(Q:L2.St->Hp->Prop),NQ S c H σ ρ->Rep (λa=>¬vB c a) H v d->t d ρ=.ok ρ'->(∀σ',NQ S c H σ' ρ'->Q σ' H)->g v σ H Q
theorem NQ.sets{c:Cel}{H:Hp}:∀{is:aa ah}{vs:aa V}{ds:aa D}{σ:L2.St}{ρ:aa D},(∀i∈is,S i=ai)->NQ S c H σ ρ->bQ (λa=>¬vB c a) H vs ds->NQ S c H (lH is vs σ) (J8 is ds ρ)
 |[],_,_,_,_,_,E,_=>by simp only[lH,J8];exact E
 |i::is,_,_,σ,ρ,h,E,.nil=>by simp only[lH,J8];exact E
 |i::is,_,_,σ,ρ,h,E,.cons r t=>NQ.sets (is:=is) (λj hj=>h j (bf _ hj)) (E.set (h i (bh ..)) r) t
theorem aAt(K:bz){is:aa ah}(ho:∀i∈is,S i=ai):TgN S (aOf K is.length (gIx is)) (tgN is):=λv d ρ ρ' σ H c Q E r h q=>by
 cases d<;>simp only[tgN] at h<;>(try (cases h;done))
 split at h
 ·rename_i hl;cases h;have hl':=eh hl;obtain⟨a,xs,rfl,e,rr⟩:=r.g_;exact⟨a,xs,rfl,.of e,by rw[rr.length];exact hl',GR _ _ _ (by rw[rr.length];exact hl') (q _ (E.sets ho rr))⟩
 ·cases h
theorem ItQ.kc{K:bz}{J:It}{items:aa D}{c c':Cel}{σ:L2.St}{H H':Hp}{ρ:aa D}(h:ItQ K (λa=>¬vB c a) J H items)(k:KC c H c' H')(E:NQ S c H σ ρ):ItQ K (λa=>¬vB c' a) J H' items:=h.keep' (k.keep E) λa o e n=>(k a o e n).2
theorem aAu{K:bz}{g:TG}{t:D->aa D->Res (aa D)}{fb:FS}{D':Ends}{J:It}{items:aa D}{c:Cel}{σ:L2.St}{H1:Hp}{ρ:aa D}{fl:Fl}(ht:TgN S g t)(E:NQ S c H1 σ ρ)(hJ:ItQ K (λa=>¬vB c a) J H1 items)(hf:o_ t fb items ρ=.ok fl)(q:kN S D' c H1 fl) :
  ∃W:ah->ah->L2.St->Hp->Prop,(∃m,W 0 m σ H1)/\∀i m σ H,W i m σ H->
   (J.stop i H/\D'.nx σ H)\/(J.go i H/\∃N:L2.St->Hp->Prop,(∀σ' H',N σ' H'->∃m',m'<m/\W (i+1) m' σ' H')/\∀x H',J.yld i H x H'->g x σ H' λσ2 H2=>tN S fb {D' with nx:=N,ct:=N,bk:=D'.nx} σ2 H2):=by
  refine⟨λi m σ' H'=>m=items.length-i/\i<=items.length/\∃c' ρ',ItQ K (λa=>¬vB c' a) J H' items/\NQ S c' H' σ' ρ'/\o_ t fb (items.drop i) ρ'=.ok fl/\kN S D' c' H' fl,⟨items.length,rfl,eL _,c,ρ,hJ,E,hf,q⟩,?_⟩;rintro i m σ' H' ⟨rfl,hi,c',ρ',hJ',E',hf',q'⟩;rcases oe i items.length with hlt|hge
  ·refine .inr ?_;have e:items[i]?=af items[i]:=cn hlt;obtain⟨g1,g2⟩:=hJ'.go e;rw[mh hlt] at hf';obtain⟨ρ1,h1,hf2⟩:=bF hf';obtain⟨r,h2,hf3⟩:=bF hf2;refine⟨g1,λσ2 H2=>∃c' ρ',ItQ K (λa=>¬vB c' a) J H2 items/\NQ S c' H2 σ2 ρ'/\o_ t fb (items.drop (i+1)) ρ'=.ok fl/\kN S D' c' H2 fl,λσ2 H2 n2=>⟨items.length-(i+1),by lia,rfl,hlt,n2⟩,λx H2 hy=>?_⟩;obtain⟨sH,rx⟩:=g2 x H2 hy;have hJ2:=hJ'.kc (.same sH) E';have q2:=q'.step (.same sH);refine ht x items[i] ρ' ρ1 σ' H2 c' _ (E'.same sH) rx h1 λσ2 E2=>⟨c',ρ1,r,E2,h2,?_⟩
   cases r with
   |nx ρ2=>exact λc3 σ3 H3 k3 E3=>⟨c3,ρ2,hJ2.kc k3 E2,E3,hf3,q2.step k3⟩
   |ct ρ2=>exact λc3 σ3 H3 k3 E3=>⟨c3,ρ2,hJ2.kc k3 E2,E3,hf3,q2.step k3⟩
   |bk ρ2=>cases hf3;exact λc3 σ3 H3 k3 E3=>q2 c3 σ3 H3 k3 E3
   |rt d=>cases hf3;exact q2
  ·refine .inl ⟨hJ'.stop hge,?_⟩;rw[oS hge] at hf';cases hf';exact q' c' σ' H' (λa o e n=>⟨e,n⟩) E'
theorem aGe{tg iter:Expr}{body:aa bi}{g:TG}{t:D->aa D->Res (aa D)}{it:FI}{fb:FS}(hp:iE (aw X.prog X.w) X.A X.env X.xe)(hc:X.calm=ag)(hi:PI X tg iter (gI X.K it))(ht:TgN S g t)(hg:PG X tg g)(hb:QSs X body (tN S fb))
 (hs:∀x,d6 iter X.env x=pure x:=by intro _;rfl):QS X (.For tg iter body [] pos) (tN S (u_ it t fb)):=QS.mk <| PS.imp (JT hp hc hi hg hb.out hs) λD' σ H ⟨c,ρ,fl,E,h,q⟩=>by
 obtain⟨⟨items,k⟩,h1,h2⟩:=bF h;split at h2
 ·rename_i hk;refine⟨ρ,items,k,E.er,h1,λJ H1 s1 _ hJ=>aAu ht (E.same s1) ((hJ hk).keep (λ_ _ e _=>e) λa ha ho=>?_) h2 (q.step (.same s1))⟩;obtain⟨o,e1,_⟩:=E.live ho;rw[show H a=am from ha] at e1;cases e1
 ·cases h2
end
theorem aEn{N ps:aa Str}{f:FS}{vs:aa V}{H:Hp}{Q:VK}{E:XK}(hown:∀i,i<ps.length->S i=ai)(h0:spD (fnS ps.length N.length f) ps.length vs H Q E):tN S f {nx:=λ_ H'=>Q .non H',rt:=Q} (start N vs) H:=by
 obtain⟨ds,d,hl,r,h,q⟩:=h0;obtain⟨fl,h1,h2⟩:=bF h;have hst:start N vs=vs.map af++b5 (N.length-ps.length) am:=by
  show vs.map af++b5 (N.length-vs.length) am=_;rw[r.length,hl]
 have no:∀a,¬vB (λ_=>am) a:=λa ⟨i,b,as,hc,_⟩=>by cases hc
 have old:=T9 (own:=λ_=>ai) hst hl r (λ_ _=>rfl) λa ⟨i,hi,_⟩=>by cases hi
 have hlt:∀i,(ds++b5 (N.length-ps.length) D.uD).getD i .uD≠.uD->i<ps.length:=λi hi=>AE λhge=>hi (by
  rw[cy,ii (by lia),jp];split<;>rfl)
 have E0:NQ S (λ_=>am) H (start N vs) (ds++b5 (N.length-ps.length) .uD):=by
  refine⟨old.len,λi p hc=>(by cases hc),λi b as hc=>(by cases hc),λi j b as b' as' _ hc=>(by cases hc),λi hi=>?_,λi b as hc=>(by cases hc),λi hi hd=>?_⟩
  ·obtain⟨v,g1,g2⟩:=old.at_ i hi;exact⟨v,g1,λ_=>(g2 rfl).mono λa _=>no a⟩
  ·rw[hown i (hlt i hd)] at hi;cases hi
 refine⟨_,_,fl,E0,h1,?_⟩;have sm:∀{c':Cel}{H':Hp},KC (λ_=>am) H c' H'->cR H H':=λk a o e=>(k a o e (no a)).1
 cases fl with
 |nx ρ'=>cases h2;exact λc' σ' H' k E'=>q .non H' (sm k) .non λ_=>.non
 |rt d'=>
  cases h2;refine λv H' hk rp=>q v H' (λa o e=>hk a o e (no a)) rp.all λ_=>rp.mono λa ha=>?_
  rcases ha with ha|ha
  ·exact az ha (no a)
  ·exact ha
 |bk ρ'=>cases h2
 |ct ρ'=>cases h2
theorem aN2{P:br}{w:bg}{K:bz}{mg:Str->av aj}{base:aI}{x qual:Str}{st:bi}{fad:ak}{fd:eD}{N ps:aa Str}{k:ah}{f:FS}(F:Fun K x qual st fad fd)(sc:bZ N ps (aQ st))(S:ah->ap)(hown:∀i,i<ps.length->S i=ai)(hNl:ps.length<=N.length)
 (hbody:∀(cdv:aj) (A:bS) (outer:aa di) (s:ao) (H:Hp) (E:XK),vK k (A.deeper (fF qual (aQ st) s.heap.objs.size fad cdv))->QSs (aDh CX0 P w K mg base N qual (aQ st) fad cdv A outer s H E).nox (jG st) (tN S f)):WF P w K mg base CX0 (k+1) fad fd ps (spD (fnS ps.length N.length f) ps.length):=
 F.ok sc (λvs H Q E h=>aAd h) λcdv A outer s H vs Q E hr h=>⟨_,(hbody cdv A outer s H E hr).out,aEn hown h⟩
theorem aIq{P:br}{w:bg}{K:bz}{mg:Str->av aj}{base:aI}{x:Str}{k:ah}{st:bi}{fad:ak}{fd:eD}{N ps:aa Str}{fs:FS}(F:Fun K x x st fad fd)(hm:mg x=af (.ref fad))(hb:Binds K fd ps [])(sc:bZ N ps (aQ st))(S:ah->ap)(hown:∀i,i<ps.length->S i=ai)(hNl:ps.length<=N.length)
 (hbody:∀(cdv:aj) (A:bS) (outer:aa di) (s:ao) (H:Hp) (E:XK),vK k (A.deeper (fF x (aQ st) s.heap.objs.size fad cdv))->QSs (aDh CX0 P w K mg base N x (aQ st) fad cdv A outer s H E).nox (jG st) (tN S fs)):cW P w K mg base (k+1) x ps.length (fnS ps.length N.length fs):=
 ⟨fad,fd,ps,aN2 F sc S hown hNl hbody,hm,F.kp,hb⟩
end
noncomputable def aAv:D->ap
 |.lst _=>ag
 |_=>ai
variable [KFrag]
variable {S:ah->ap}
theorem InL.aIr{H:Hp}{vs:aa V}{ds:aa D}{as:aa ak}{P:ak->Prop}(h:InL H vs ds as)(hp:∀a∈as,P a):bQ P H vs ds:=by
 induction h with
 |nil=>exact .nil
 |cons e r p t ih=>exact .cons (.lst e (hp _ (bh ..)) (r.bT p)) (ih λa ha=>hp a (bf _ ha))
theorem InK.aIr{H:Hp}{vs:aa (Key×V)}{ds:aa (D×D)}{as:aa ak}{P:ak->Prop}(h:InK H vs ds as)(hp:∀a∈as,P a):l_ P H vs ds:=by
 induction h with
 |nil=>exact .nil
 |cons e r p t ih=>exact .cons (.lst e (hp _ (bh ..)) (r.bT p)) (ih λa ha=>hp a (bf _ ha))
theorem InA.aIr{H:Hp}{vs:aa V}{ds:aa D}{as:aa ak}{P:ak->Prop}(h:InA H as vs ds)(hp:∀a∈as,P a):bQ P H vs ds:=by
 induction h with
 |nil=>exact .nil
 |cons m e r p t ih=>exact .cons (.lst e (hp _ m) (r.bT p)) ih
theorem xN.aIr{qb:ap}{H:Hp}{b:ak}{as:aa ak}{d:D}{P:ak->Prop}(h:xN qb H b as d)(hp:∀a∈b::as,P a):Rep P H (.ref b) d:=by
 have hb:=hp b (bh ..);have ha:∀a∈as,P a:=λa h=>hp a (bf _ h)
 cases h with
 |lst e i=>exact .lst e hb (i.aIr ha)
 |dct e i n=>exact .dK e hb (i.aIr ha) n
 |pln z e m r p=>exact r.aKz p hb
 |any z e i l=>exact .lst e hb (i.aIr ha)
section
variable {X:Cx} {e:Expr} {pos pos':bo}
theorem aIs{i:ah}{x:Str}(ho:S i=ag)(hN:X.N[i]?=af x)(hv:Vis X.env.scope x)(hd:nDb x:=by decide)(hcd:nCd x:=by decide):QS X (.Return (af (.Name x pos')) pos) (tN S (J7 i)):=QS.mk <|
 PS.imp (Y5 (j9 hN hv hd hcd)) λD σ H ⟨c,ρ,fl,E,h,q⟩=>by
 obtain⟨d,h1,h2⟩:=bF h;cases h2;obtain⟨v,hσ,r,e⟩:=E.er.var h1;have hne:ρ.getD i .uD≠.uD:=λz=>by rw[z] at e;subst e;exact Rep.uD r
 obtain⟨⟨b,as⟩,hc⟩:=E.all i ho hne;obtain⟨h3,h4⟩:=E.nst i b as hc;rw[e] at h4;exact⟨_,h3,q _ H (λa o e _=>e) (h4.aIr λa ha=>.inl ⟨i,b,as,hc,ha⟩)⟩
end
end Mi
namespace Wn
open PySem PySem.Spec
section
variable {prog:br} {w:bg} {A:bS} {E:aj->ao->Prop} {s:ao}
theorem both{α:Type}{M:ko}{c:Prop}[rf c]{a b:f_ α}{Q:α->ao->Prop}(h1:ϑ M A a Q E s)(h2:ϑ M A b Q E s):ϑ M A (if c then a else b) Q E s:=by
 by_cases h:c
 ·rw[ar h];exact h1
 ·rw[aq h];exact h2
theorem aN3(l:ak)(items:aE aj)(n:ah)(dd:av ak)(sl:aE (av aj))(t:e9) :
  j3 (dt.«enumerate.__new__» ⟨[.type "enumerate",.ref l],[("start",.int 1 t)]⟩) (λ_ R s=>s.heap.get? l=af {cls:=.type "list",dict:=dd,data:=.seq items n,slots:=sl}/\
   ∀h' e it tk,it=s.heap.objs.size->e=it+1->mN h' e it 1 .none->h'.IsListIter it l 0->h'.objs.size=it+2->(∀b o,s.heap.get? b=af o->h'.get? b=af o)->R (.ok (.ret (.ref e))) {s with heap:=h',toks:=tk}):=.of_wp λprog w A R s hs=>by
 obtain⟨hp,g,d,tk,os⟩:=s;obtain⟨hl,q⟩:=hs;have sub:=sub_enumerate;have p:Heap.IsList (Shared.heap ⟨hp,g,d,tk,os⟩) l items:=⟨_,hl,rfl,n,rfl⟩
 have hz:(hp.push {cls:=.type "list_iterator",data:=.fields #[.ref l,.int 0 0]}).objs.size=hp.objs.size+1:=ia ..;have fin:∀(tk':ah),R (.ok (.ret (.ref (hp.push {cls:=.type "list_iterator",data:=.fields #[.ref l,.int 0 0]}).objs.size))) ⟨(hp.push {cls:=.type "list_iterator",data:=.fields #[.ref l,.int 0 0]}).push {cls:=.type "enumerate",data:=.fields #[.none,.bool ai,.ref hp.objs.size,gu 1,.none,.none]},g,d,tk',os⟩:=λtk'=>by
  refine q _ _ _ tk' rfl hz (c8 _ rfl) ⟨_,b6 _ (c8 _ rfl),rfl,rfl⟩ ?_ λb o e=>b6 _ (b6 _ e)
  rw[ia,hz]
 wp_walk using vm hl
 refine wpAny_stack_any λst=>aS ?_
 refine both ?_ ?_
 ·wp_walk using vm hl,kg p
  exact⟨_,rfl,fin tk⟩
 ·wp_walk using vm hl,kg p
  exact⟨_,rfl,fin tk⟩
theorem aPj(a:aj)(t:e9):checkTypeCall "enumerate" ⟨[a],[("start",.int 1 t)]⟩=pure ():=by kernel_rfl
theorem aPk(a:aj)(t:e9):checkBuiltinCall "enumerate.__new__" ⟨[.type "enumerate",a],[("start",.int 1 t)]⟩=pure ():=by kernel_rfl
theorem aPl(a b:aj)(t:e9):argsOk "object.__init__" ⟨[a,b],[("start",.int 1 t)]⟩:=by kernel_rfl
theorem aIt{self b:aj}{t:e9}{R:PySem.Fin->ao->Prop}(hT:s.TypeIs self "enumerate")(q:R (.done (.ret .none)) s):ϑ (aw prog w) A (dt.«object.__init__» ⟨[self,b],[("start",.int 1 t)]⟩) R E s:=by
 have hl:=vn.init.lookup;have hm:=vn.made
 repeat (any_goals (first|assumption|wp_step))
theorem aIu{l:ak}{items:aE aj}{t:e9}{Q:aj->ao->Prop}(hL:s.heap.IsList l items)
 (q:∀h' e it tk,it=s.heap.objs.size->e=it+1->mN h' e it 1 .none->h'.IsListIter it l 0->h'.objs.size=it+2->(∀b o,s.heap.get? b=af o->h'.get? b=af o)->Q (.ref e) {s with heap:=h',toks:=tk}) :
  ϑ (aw prog w) A (call (.type "enumerate") [.ref l] [("start",.int 1 t)]) Q E s:=by
 have ft:=vn;obtain⟨c,tl,m0⟩:=ft.mro;have m1:=ft.made;have m2:=ft.sub;have m3:=ft.notType;have m4:=ft.canCreate;have k1:=aPj (.ref l) t;obtain⟨⟨cl,dd,da,sl⟩,e,hc,n,hd⟩:=hL;simp only at hc hd;subst hc hd;refine wpAny_call (codeAny_of_tree (show ϑ _ _ (callAny (.type "enumerate") _) _ _ _ from aS ⟨vp _ (by decide +kernel),fR F.entry_type_call ?_⟩));rw[Around.under_plain (weight_type_call_type "enumerate" _ _) (units_type_call_type "enumerate" _ _)]
 repeat (any_goals (first|assumption|wp_step))
 have step:∀c (R:kA->ao->Prop),c=(A1 (.builtin "enumerate.__new__") ⟨[.type "enumerate",.ref l],[("start",.int 1 t)]⟩)->(∀h' e it tk,it=s.heap.objs.size->e=it+1->mN h' e it 1 .none->h'.IsListIter it l 0->h'.objs.size=it+2->(∀b o,s.heap.get? b=af o->h'.get? b=af o)->R (.ok (.ret (.ref e))) {s with heap:=h',toks:=tk})->codeAny (aw prog w) A.in1 c R s:=λc R hc hq=>by
  subst hc;exact A2 ft.plain F.entry_enumerate_new (lj (aPk (.ref l) t) (aN3 l items n dd sl t prog w A.in1 R s ⟨e,hq⟩))
 refine kC (step _ (λr s1=>∃h' a it tk,r=.ok (.ret (.ref a))/\s1={s with heap:=h',toks:=tk}/\mN h' a it 1 .none/\Q (.ref a) s1) rfl λh' a it tk x1 x2 x3 x4 x5 x6=>⟨h',a,it,tk,rfl,rfl,x3,q h' a it tk x1 x2 x3 x4 x5 x6⟩) λr s1 hr=>?_
 obtain⟨h',a,it,tk,rfl,rfl,x3,hq⟩:=hr;have hT:({s with heap:=h',toks:=tk}:ao).TypeIs (.ref a) "enumerate":=⟨_,x3,rfl⟩
 have hli:=ft.init.lookup;have hbi:=ft.init.bind (.ref a)
 repeat (any_goals (first|assumption|wp_step))
 have step2:∀c (R:kA->ao->Prop),c=(A1 (.builtin "object.__init__") ⟨[.ref a,.ref l],[("start",.int 1 t)]⟩)->R (.ok (.ret .none)) {s with heap:=h',toks:=tk}->codeAny (aw prog w) A.in1 c R {s with heap:=h',toks:=tk}:=λc R hc hq=>by
  subst hc;exact A2 ft.init.plain F.entry_object_init (ft.init.check _ _ _ _ _ _ _ _ hT (aPl _ _ _) (aIt hT hq))
 refine kC (step2 _ (λr s2=>r=.ok (.ret .none)/\s2={s with heap:=h',toks:=tk}) rfl ⟨rfl,rfl⟩) λr s2 hr=>?_
 obtain⟨rfl,rfl⟩:=hr
 repeat (any_goals (first|assumption|wp_step))
end
theorem shift{prog:br}{w:bg}{A:bS}{it:ak}{fp:aa ak}{n:ah}{P:ah->aj->Prop}{St:ah->aI->Prop}(D:Draws prog w A it fp n P St)(m:ah):Draws prog w A it fp (m+n) (λj v=>P (j-m) v) (λj h=>∃i,j=m+i/\St i h) where
 live:=λj h ⟨i,_,st⟩=>D.live i h st
 frame:=λj h h' ⟨i,e,st⟩ k=>⟨i,e,D.frame i h h' st k⟩
 item:=λj s Q E hj ⟨i,e,st⟩ hQ=>D.item i s Q E (by lia) st λx h' tk px st' sb=>hQ x h' tk (by rw[e,A3];exact px) ⟨i+1,by lia,st'⟩ sb
 done:=λs Q E ⟨i,e,st⟩ hE=>by
  obtain rfl:n=i:=by lia
  exact D.done s Q E st hE
theorem over{prog:br}{w:bg}{A:bS}(hh:A.handled=am)(it l:ak)(items:aE aj)(i:ah)(hi:items[i]?=am):Draws prog w A it [it,l] 0 (λ_ _=>gL) (λ_ h=>h.IsListIter it l i/\h.IsList l items) where
 live:=λ_ _ st=>let ⟨o,ho,_⟩:=st.1;⟨o,ho⟩
 frame:=λ_ _ _ st k=>⟨st.1.at λo e=>k it (bh ..) o e,st.2.at λo e=>k l (by simp) o e⟩
 item:=λj s Q E hj=>az hj (yi _)
 done:=λs Q E st hE=>wpAny_nextOf_list_end hh st.1 st.2 hi hE
end Wn
namespace Mi
open PySem L2 PySem.SeqAt PySem.Spec PyProof.Rows
def aAw(m:ah)(a:FE)(fr:ap):FI:=λρ=>do let x <- a ρ;let xs <- aMt x;pure (GP m xs,fr||x.pure)
section
variable [KFrag]
theorem aGf{h:aI}{a b:ak}{o u:ba}{T U:c4}(e:h.get? a=af o)(hc:o.cls=.type T)(e':h.get? b=af u)(hc':u.cls=.type U)(ne:(lx T==lx U)=ai):a≠b:=λq=>by
 subst q;rw[e] at e';cases e';rw[hc] at hc';rw[hc'] at ne;simp at ne
theorem W5{P:br}{w:bg}{K:bz}{elts:aa Expr}{x1}{tp:bo}(m:ah)(a e it:ak)(hne:e≠it):Turn P w K (.Tuple elts x1 tp) (aQj K m a) [e,it] e (λi h=>(∃old,mN h e it ((m+i:ah):ae) old)/\h.IsListIter it a i) where
 mem:=bh ..
 obj:=λi h ⟨⟨old,h1⟩,o,h2,_,h3⟩ b hb=>by
  simp only[bd,ll,or_false] at hb;rcases hb with rfl|rfl
  ·exact⟨_,h1,λv z=>nomatch(show xk _=xl v from z)⟩
  ·exact⟨o,h2,λv z=>by rw[h3] at z;cases z⟩
 keep:=λi h h' ⟨⟨old,h1⟩,h2⟩ k=>⟨⟨old,k e (bh ..) _ h1⟩,h2.at λo q=>k it (by simp) o q⟩
 item:=by
  intro Y hP hw hK hc i Ψ s σ H E I hf ⟨⟨old,h1⟩,h2⟩ ⟨xs,x,hq,hx⟩;subst hP hw hK;obtain⟨its,rv,p,hz⟩:=I.list hq;obtain⟨u,hu,ru⟩:=rv.get hx;have hlt:e<s.heap.objs.size:=bw h1;obtain⟨oi,e2,c2,d2⟩:=id h2;obtain⟨ol,e3,c3,_⟩:=id p.isList;have nai:a≠it:=aGf e3 c3 e2 c2 (by decide);have nea:e≠a:=aGf h1 rfl e3 c3 (by decide);have D:=Wn.shift (Draws.list (prog:=Y.prog) (w:=Y.w) (A:=Y.A.in1) (show Y.A.in1.handled=am from I.ok.hd hc) it a nai its.toArray) m;have hil:i<its.toArray.size:=by
   have:=(c9.mp hu).1;simpa using this
  refine wpAny_pyNext_enum_itemD D h1 ⟨i,rfl,h2,p.isList⟩ (by lia) hne (by simp[hne,nea]) λv h' tk o0 o1 o2 o3 o4 o5=>?_
  rw[A3] at o0;obtain rfl:u=v:=by
   have:its[i]?=af v:=by simpa using o0
   rw[hu] at this;exact cr this
  obtain⟨i',ei,st1,st2⟩:=o2;obtain rfl:i'=i+1:=by lia
  refine⟨_,rfl,wpAny_letOwnedTupleGo_enum o1 λh'' g1 g2=>?_⟩;have sb:kt e h' h'':=g2;have kk:∀b o,b∉[e,it]->s.heap.get? b=af o->h''.get? b=af o:=λb o hb eb=>by
   simp only[bd,ll,or_false,fy] at hb;exact(sb.2 b hb.1).trans (o5 b o hb.1 hb.2 eb)
  have t3:h''.get? s.heap.objs.size=af {cls:=.type "tuple",data:=.seq #[.int ((m+i:ah):ae) tk,u]}:=(sb.2 _ (jn hlt)).trans o3;refine⟨.ref s.heap.objs.size,upd H s.heap.objs.size (.tup [.int ((m+i:ah):ae),x]),QR (s:=s) (h':=h'') (t':=tk+1) (ch:=[e,it]) I kk (λb hb=>hf b hb) (bj _) ?_,rfl,⟨_,x,λys hy=>by rw[I.vI hy hq];exact hx,rfl,I.hok.fresh (bj _),rfl⟩,⟨⟨u,?_⟩,?_⟩,λb hb=>?_⟩
  ·exact⟨by show 2<=bb;rw[eC];decide,[.int ((m+i:ah):ae) tk,u],.cons ⟨_,rfl⟩ (.cons ru .nil),⟨_,t3,rfl,0,rfl⟩⟩
  ·have:((m+(i+1):ah):ae)=((m+i:ah):ae)+1:=by lia
   rw[this];exact g1
  ·obtain⟨o,ho,r⟩:=st1;exact⟨o,(sb.2 it (Ne.symm hne)).trans ho,r⟩
  ·rw[a_]
   ·exact(hf b hb).1
   ·intro z;simp only[bd,ll,or_false] at hb;rcases hb with h|h
    ·rw[<-h,z] at hlt;exact eJ _ hlt
    ·have:=bw e2;rw[<-h,z] at this;exact eJ _ this
 done:=by
  intro Y hP hw hK hc i Ψ s σ H E I hf ⟨⟨old,h1⟩,h2⟩ ⟨xs,hq,hx⟩;subst hP hw hK;obtain⟨its,rv,p,hz⟩:=I.list hq;obtain⟨f0,f1,f2,f3,f4,f5⟩:=hf it (by simp);have hl:=rv.length;exact wpAny_pyNext_enum_endD (Wn.over (show Y.A.in1.handled=am from I.ok.hd hc) it a its.toArray i (by simp;lia)) h1 ⟨h2,p.isList⟩ λh' eb=>⟨rfl,I.turned (t':=s.toks) (λb o hb e=>eb b o hb e) f0 f1 f3 f4 f5⟩
 self:=λ_ _ _ _ _ ⟨⟨old,h1⟩,_⟩ h=>A4 h1 h
section
variable {X:Cx} {a:Expr} {fa:FE} {ra:ap} {p pos:bo}
theorem aIv{M:ko}{A:bS}{E:aj->ao->Prop}{s:ao}{T:c4}{args:aa (ap×f_ aj)}{kws:aa (av Str×f_ aj)}{Q:aj->ao->Prop}(hp:args.any (·.1)=ai)(hk:kws.any (·.1.isNone)=ai)
 (h:ϑ M A (evalArgs (.type T) ag args kws) (λa s₁=>ϑ M A (call (.type T) a.pos a.kw) Q E s₁) E s):ϑ M A (callWith pos (.type T) [] args kws) Q E s:=by
 unfold callWith;refine au (gh (eB h (λa s1 h1=>au (AC ?_)) λ_ _ x=>x));rw[hp,hk];exact au (aS (au (eB h1 (λr s2 hr=>au (gh (wpAny_point (aS hr)))) λ_ _ x=>x)))
theorem aEo{elts:aa Expr}{x1}{tp kp cp:bo}{j:ah}(hg:Gl X "enumerate")(hm:X.mg "enumerate"=am)(ha:PA X [a] (gA (aD fa aR) ra))(hs:bp [a] X.env=[(ai,bE a X.env)]:=by rfl) :
  PI X (.Tuple elts x1 tp) (.Call (.Name "enumerate" p) [a] [⟨af "start",.Constant (.int 1) j cp,kp⟩] pos) (gI X.K (aAw 1 fa ra)):=by
 intro Ψ s σ H R I ⟨ρ,items,k,E,h,q⟩;obtain⟨d,h1,h⟩:=bF h;obtain⟨its,h2,h⟩:=bF h;cases h;have hd:d=.lst its:=by
  unfold aMt at h2;split at h2
  ·cases h2;rfl
  ·cases h2
 subst hd;have hb:aD fa aR ρ=.ok [υ its]:=by
  unfold aD;rw[h1];rfl
 refine lI (zW I hg hm B8 (aIv (by rw[hs];rfl) rfl ?_));have hA:=ha pos Ψ s σ H (λvs H1=>∃v,vs=[v]/\cR H H1/\Rep All H1 v (.lst its)/\(ra=ag->Rep (New H) H1 v (.lst its))) I ⟨ρ,_,E,hb,λvs H1 s1 r1 n1=>by
  cases r1 with
  |cons r t=>
   cases t;refine⟨_,rfl,s1,r,λz=>?_⟩;cases n1 z with
   |cons r' _=>exact r'⟩
 rw[hs] at hA ⊢;refine evalArgs_kwB rfl (thn hA λus s1 ⟨vs,H1,I1,r1,q1⟩=>kws_cons (wx (kws_nil ?_)));obtain⟨v,rfl,s1',r,n⟩:=q1;cases r1 with
 |cons rv rr=>
  cases rr;obtain⟨l,ys,rfl,hl,rr⟩:=r.jU (K:=X.K);cases rv;obtain⟨vs,rvs,pl,hz⟩:=I1.list hl;refine Wn.aIu (s:={s1 with toks:=s1.toks+1}) pl.isList λh' e it tk e1 e2 e3 e4 e5 e6=>A4 e3 ?_
  subst e2 e1;have hp1:∀b o,s1.heap.get? b=af o->h'.get? b=af o:=e6;refine⟨s1.heap.objs.size+1,[s1.heap.objs.size+1,s1.heap.objs.size],_,_,H1,rfl,I1.kept (t':=tk) λb o e=>hp1 b o e,W5 1 l (s1.heap.objs.size+1) s1.heap.objs.size (Nat.succ_ne_self _),⟨⟨_,e3⟩,e4⟩,λb hb=>?_,q _ H1 s1' (.enf 1 l its rfl r rfl) λhk=>.enf 1 l its rfl ?_ rfl⟩
  ·simp only[bd,ll,or_false] at hb;rcases hb with rfl|rfl
   ·exact I1.aH6 (hX _) (I1.hok.fresh (hX _))
   ·exact I1.aH6 (bj _) (I1.hok.fresh (bj _))
  ·rw[hI] at hk;rcases hk with hk|hk
   ·exact n hk
   ·cases hk
end
end
def sortedK:aa D->Res D
 |[.dct kvs]=>if kvs.all (λp=>!isTup p.1)&&bB (J6 kvs) then .ok (.lst (iR (J6 kvs))) else .bad
 |ds=>fM ds
def W6(k v:D):Res D:=if fZ k&&v.pure then .ok (.dct [(k,v)]) else .bad
def dgI(d k:D):Res (aa D):=match d with
 |.dct ds=>if fZ k then (match bA ds k with|some e=>o8 e|none=>.bad) else .bad
 |_=>.bad
def K6(i:ah)(fk:FE)(t:D->aa D->Res (aa D))(body:FS):FS:=λρ=>do
 let d <- iU i ρ
 let k <- fk ρ
 let xs <- dgI d k
 o_ t body xs ρ
section
variable [KFrag]
section
variable {X:Cx}
theorem W7{P:br}{w:bg}{H:Hp}{Q:ak->Prop}{es:aa gX}{vs:aa (Key×aj)}(hp:PySem.Pairs (cL P w) es vs):∀{kvs:aa (Key×V)}{ds:aa (D×D)},KV kvs vs->l_ Q H kvs ds->Vals (kvs.map λp=>kV p.1) (es.map (·.key))/\bQ All H (kvs.map λp=>kV p.1) (J6 ds):=by
 induction hp with
 |nil=>
  intro kvs ds r u;cases r;cases u;exact⟨.nil,.nil⟩
 |cons h _ t ih=>
  intro kvs ds r u;cases r with
  |cons g r=>
   cases u with
   |@cons k _ _ _ _ _ u=>
    obtain⟨h1,h2⟩:=ih r u;obtain⟨g1,g2⟩:=g;refine⟨.cons (aMw (by rw[show k=_ from g1];exact h)) h1,.cons ?_ h2⟩;cases k with
    |inl i=>exact .int i
    |inr x=>exact .str x
theorem Rep.aRl{H:Hp}{a:ak}{v:V}{d:D}{o ob:HO}(r:Rep All H v d)(hp:d.pure=ag)(ha:H a=af ob)(hm:vA ob=ag):Rep All (upd H a o) v d:=by
 have:=(bQ.cons r .nil).upd (o:=o) (by rw[θ,hp];rfl) ha hm;cases this with
 |cons r _=>exact r
theorem W8(hK:KFrag.K=X.K)(hc:X.calm=ag)(hu:X.A.units+20<bm):oV X (.builtin "sorted") (rs sortedK ag):=by
 intro Ψ s σ H xs us Q I vr ⟨ds,d,r,e,k⟩;unfold sortedK at e;split at e
 ·rename_i kvs;split at e
  ·rename_i hl;rw[bc] at hl;cases e;have fin:∀p xs',H p=am->bQ All H xs' (iR (J6 kvs))->Q (.ref p) (upd H p (.lst xs')):=λp xs' hp r'=>by
    have sp:cR H (upd H p (.lst xs')):=cR.upd hp;exact k _ _ sp (.lst aN trivial (r'.same sp)) λ_=>.lst aN hp ((r'.bT (xH hl.2)).same sp)
   obtain⟨vv,uu,rfl,rfl,r,v⟩:=mU r vr;cases r with
   |dK e _ rk _=>
    cases v;obtain⟨hz,lo,vs,rel,o,es,ep,e1,e2,e3,_,hp,_⟩:=WN I.hok e;obtain⟨r1,r2⟩:=W7 hp rel rk;have hlen:es.size<=bb:=by rw[<-kx,<-ay (f:=(·.key)),<-r1.length,ay];exact hz
    exact qZ hK I hu r1 (by rw[ay,kx];exact hlen) r2 hl.2 (λQ' E' h=>aAo (I.ok.hd hc) lo ⟨o,e1,e2,e3⟩ hlen λh' tk kp sz=>h h' tk kp sz) fin
   |dT e _ rt _=>
    cases rt with
    |cons r t=>
     have:=hl.1;rw[fI,bc] at this;cases this.1
    |nil=>
     cases v;obtain⟨es,ep,zs,raw,lo,hz,rel,he⟩:=aN0 I e;have h0:zs=[]:=by cases rel;rfl
     subst h0;have h1:es.toList=[]:=he;exact qZ hK I hu .nil (eL _) .nil hl.2 (λQ' E' h=>aAo (I.ok.hd hc) lo raw (by rw[<-kx,h1];exact eL _) λh' tk kp sz=>by rw[h1];exact h h' tk kp sz) fin
  ·cases e
 ·exact gD hK hu Ψ s σ H xs us Q I vr ⟨_,d,r,e,k⟩
theorem QW{d:D}(h:fZ d=ag):∃k:Key,d=kD k:=by
 cases d<;>first|exact⟨.inl _,rfl⟩|exact⟨.inr _,rfl⟩|cases h
theorem aAx{P:ak->Prop}{H:Hp}{v:V}{k:Key}(r:Rep P H v (kD k)):v=kV k:=by
 cases k with
 |inl i=>cases r;rfl
 |inr x=>cases r;rfl
theorem G6{pos:bo}{k1 v1:Expr}{g1 h1:FE}{r1 r2:ap}(hk1:PE X k1 (gE g1 r1))(hv1:PE X v1 (gE h1 r2)):PE X (.Dict [af k1] [v1] pos) (gE (b2 W6 g1 h1) ag):=
 PE.imp (ZQ (rT hk1 hv1 PP) rfl rfl (by simp) (mP rfl)) λσ H Q ⟨ρ,d,E,h,q⟩=>by
 obtain⟨a1,e1,hA⟩:=bF h;obtain⟨a2,e2,hB⟩:=bF hA;clear h hA;unfold W6 at hB;split at hB
 ·rename_i hg;cases hB;rw[bc] at hg;obtain⟨k,rfl⟩:=QW hg.1;intro p hp;have s0:cR H (upd H p (.dK [])):=cR.upd hp;refine⟨ρ,_,E.same s0,e1,λw1 H1 s1 q1 _=>?_⟩;obtain rfl:=aAx q1;refine⟨ρ,_,(E.same s0).same s1,e2,λw2 H2 s2 q2 _=>?_⟩;have sm:cR (upd H p (.dK [])) H2:=s1.trans s2;refine⟨sm _ _ aN,[(k,w2)],rfl,mP rfl,?_⟩;have sf:cR H (upd H2 p (.dK (gY [] [(k,w2)]))):=λb o e=>by
   rw[a_ (eV e hp)];exact sm b o (s0 b o e)
  have rk:∀P:ak->Prop,l_ P (upd H2 p (.dK (gY [] [(k,w2)]))) (gY [] [(k,w2)]) [(kD k,a2)]:=λP=>.cons ((q2.aRl hg.2 (sm _ _ aN) rfl).bT hg.2) .nil
  exact q _ _ sf (.dK aN trivial (rk All) (by simp[gY,putK])) λ_=>.dK aN hp (rk _) (by simp[gY,putK])
 ·cases hB
theorem UV{P:ak->Prop}{H:Hp}{k:Key}:∀{kvs:aa (aa Key×V)}{ds:aa (D×D)},tZ P H kvs ds->bA ds (kD k)=am
 |_,_,.nil=>rfl
 |_,_,.cons _ t=>by
  have:=UV (k:=k) t;cases k<;>(rw[bA];simpa[kD,eqD] using this)
theorem aN4{H:Hp}{v:V}{ds:aa (D×D)}{k:Key}{e:D}(r:Rep All H v (.dct ds))(hl:bA ds (kD k)=af e):∃a kvs w,v=.ref a/\H a=af (.dK kvs)/\rM kvs k=af w/\∀(P:ak->Prop)(H':Hp),cR H H'->Rep P H' v (.dct ds)->Rep P H' w e:=by
 cases r with
 |@dK a kvs ds e1 _ rk _=>
  rcases W2 (k:=k) rk with ⟨w,d,h1,h2,h3⟩|⟨_,h2⟩
  ·rw[hl] at h2;cases h2;refine⟨a,kvs,w,rfl,e1,h1,λP H' sm r'=>?_⟩;have e2:=sm _ _ e1;cases r' with
   |dK e1' _ rk' _=>
    rw[e2] at e1';cases e1';rcases W2 (k:=k) rk' with ⟨w',d',g1,g2,g3⟩|⟨_,g2⟩
    ·rw[hl] at g2;cases g2;rw[h1] at g1;cases g1;exact g3
    ·rw[hl] at g2;cases g2
   |dT e1' _ _ _=>rw[e2] at e1';cases e1'
  ·rw[hl] at h2;cases h2
 |dT e1 _ rt _=>rw[UV rt] at hl;cases hl
def gIK(K:bz)(i:ah)(fk:FE):TI:=λσ H R=>∃ρ v d kd items,ER H σ ρ/\σ[i]?=af (af v)/\Rep All H v d/\fk ρ=.ok kd/\dgI d kd=.ok items/\∀J H1,cR H H1->(∀P:ak->Prop,Rep P H1 v d->ItQ K P J H1 items)->R J H1
theorem aPm{tg k:Expr}{fk:FE}{rk:ap}{i:ah}{x:Str}{pos px:bo}(hu:X.A.units+20<bm)(hN:X.N[i]?=af x)(hv:Vis X.env.scope x)(hk:PE X k (gE fk rk))(hp:tX k:=by exact λ_ _=>rfl)(hd:nDb x:=by decide)(hcd:nCd x:=by decide):PI X tg (.Subscript (.Name x px) k pos) (gIK X.K i fk):=by
 intro Ψ s σ H R I ⟨ρ,v,d,kd,items,E,hσ,r,hf,hi,q⟩;unfold dgI at hi;split at hi
 ·rename_i ds;split at hi
  ·rename_i hfk;obtain⟨key,rfl⟩:=QW hfk;split at hi
   ·rename_i e hl;obtain⟨a,kvs,w,rfl,ea,hw,all⟩:=aN4 r hl;refine thn (aHj (aQm hu) (j9 hN hv hd hcd) hk hp Ψ s σ H (λz H1=>cR H H1/\z=w) I ⟨.ref a,hσ,ρ,_,E,hf,λkv H1 sm1 rk1 _=>?_⟩) λu s1 ⟨z,H1,I1,ru,sm,ez⟩=>?_
    ·obtain rfl:=aAx rk1;exact .inr ⟨a,kvs,key,w,rfl,rfl,sm1 _ _ ea,hw,sm1,rfl⟩
    ·subst ez;exact GQ I1 (all All H1 sm (r.same sm)) ru hi λJ hJ=>q J H1 sm λP rp=>hJ P (all P H1 sm rp)
   ·cases hi
  ·cases hi
 ·cases hi
theorem aEp{own:ah->ap}{tg k:Expr}{body:aa bi}{g:TG}{t:D->aa D->Res (aa D)}{i:ah}{x:Str}{px pi pos:bo}{fk:FE}{rk:ap}{fb:FS}(hu:X.A.units+20<bm)(ho:own i=ai)(hp:iE (aw X.prog X.w) X.A X.env X.xe)(hc:X.calm=ag)(hN:X.N[i]?=af x)(hv:Vis X.env.scope x)(hk:PE X k (gE fk rk))(ht:TgS own g t)(hg:PG X tg g)(hb:PSs X body (tS own fb))
 (hpk:tX k:=by exact λ_ _=>rfl)(hs:∀z,d6 (.Subscript (.Name x px) k pi) X.env z=pure z:=by intro _;rfl)(hd:nDb x:=by decide)(hcd:nCd x:=by decide):PS X (.For tg (.Subscript (.Name x px) k pi) body [] pos) (tS own (K6 i fk t fb)):=PS.imp (JT hp hc (aPm hu hN hv hk hpk hd hcd) hg hb hs) λD' σ H ⟨ρ,fl,E,h,q⟩=>by
 obtain⟨d,h1,h⟩:=bF h;obtain⟨kd,h2,h⟩:=bF h;obtain⟨items,h3,h4⟩:=bF h;obtain⟨v,hv,r,e⟩:=E.er.var h1;have hne:ρ.getD i .uD≠.uD:=λz=>by
  rw[z] at e;subst e;exact Rep.uD r
 obtain⟨w,hw,hr⟩:=E.at_ i hne;rw[hv] at hw;cases hw;have r2:=hr ho;rw[e] at r2;exact⟨ρ,v,d,kd,items,E.er,hv,r,h2,h3,λJ H1 sm hJ=>vR ht (E.same sm) (hJ _ (r2.same sm)) h4 (q.step (.same sm))⟩
end
end
def aAy(i:ah)(fk:FE):FS:=λρ=>do
 let k <- fk ρ
 match ρ.getD i .uD with
 |.dct kvs=>if fZ k&&(bA kvs k).isNone&&ϒ (kvs.length<lim)&&kvs.all (λp=>aAv p.2) then .ok (.nx (ρ.set i (.dct (kvs++[(k,.lst [])])))) else .bad
 |_=>.bad
section
variable [KFrag]
variable {S:ah->ap}
section
variable {H H':Hp} {vs:aa V} {ds:aa D} {as bs:aa ak} {kvs:aa (Key×V)} {es:aa (D×D)} {qb:ap}
theorem bQ.xO(r:bQ All H vs ds)(hp:θ ds=ag)(k:∀a o,H a=af o->a∉bs->H' a=af o)(hm:∀a∈bs,∃o,H a=af o/\vA o=ag):bQ All H' vs ds:=
 (r.bT (P':=λ_=>cg) hp).keep (λa o e z=>k a o e λha=>by
  rcases z with z|z
  ·exact z
  ·obtain⟨o',h1,h2⟩:=hm a ha;rw[e] at h1;cases h1;rw[z] at h2;cases h2) λ_ z=>z.elim
theorem InL.xO(h:InL H vs ds as)(k:∀a o,H a=af o->a∉bs->H' a=af o)(hm:∀a∈bs,∃o,H a=af o/\vA o=ag)(dj:∀a∈as,a∉bs):InL H' vs ds as:=by
 induction h with
 |nil=>exact .nil
 |cons e r p t ih=>exact .cons (k _ _ e (dj _ (bh ..))) (r.xO p k hm) p (ih λa ha=>dj a (bf _ ha))
theorem InK.xO(h:InK H kvs es as)(k:∀a o,H a=af o->a∉bs->H' a=af o)(hm:∀a∈bs,∃o,H a=af o/\vA o=ag)(dj:∀a∈as,a∉bs):InK H' kvs es as:=by
 induction h with
 |nil=>exact .nil
 |cons e r p t ih=>exact .cons (k _ _ e (dj _ (bh ..))) (r.xO p k hm) p (ih λa ha=>dj a (bf _ ha))
theorem InA.xO(h:InA H as vs ds)(k:∀a o,H a=af o->a∉bs->H' a=af o)(hm:∀a∈bs,∃o,H a=af o/\vA o=ag)(dj:∀a∈as,a∉bs):InA H' as vs ds:=by
 induction h with
 |nil=>exact .nil
 |cons m e r p t ih=>exact .cons m (k _ _ e (dj _ m)) (r.xO p k hm) p ih
theorem xN.xO{b:ak}{d:D}(h:xN qb H b as d)(k:∀a o,H a=af o->a∉bs->H' a=af o)(hm:∀a∈bs,∃o,H a=af o/\vA o=ag)(dj:∀a∈b::as,a∉bs):xN qb H' b as d:=by
 have hb:=dj b (bh ..);have ha:∀a∈as,a∉bs:=λa h=>dj a (bf _ h)
 cases h with
 |lst e i=>exact .lst (k _ _ e hb) (i.xO k hm ha)
 |dct e i n=>exact .dct (k _ _ e hb) (i.xO k hm ha) n
 |pln z e m r p=>
  refine .pln z (k _ _ e hb) m ((r.aKz (P':=λc=>c=b) p rfl).keep (λc oc hc hp=>k c oc hc λhx=>?_) λ_ _=>trivial) p;rcases hp with hp|hp
  ·exact hb (hp▸hx)
  ·obtain⟨o',h1,h2⟩:=hm c hx;rw[hc] at h1;cases h1;rw[hp] at h2;cases h2
 |any z e i l=>exact .any z (k _ _ e hb) (i.xO k hm ha) λa h=>let ⟨ws,g⟩:=l a h;⟨ws,k _ _ g (ha a h)⟩
end
theorem NQ.grow{c:Cel}{H H':Hp}{σ:L2.St}{ρ:aa D}{i:ah}{b:ak}{as as':aa ak}{d:D}(E:NQ S c H σ ρ)(hc:c i=af (b,as))(hs:∀a∈as',a∈as\/H a=am)(nd:(b::as').Nodup)(hk:∀a o,H a=af o->a∉b::as->H' a=af o)(hn:xN (S (i+1000)) H' b as' d):∃c',NQ S c' H' σ (ρ.set i d)/\KC c H c' H':=by
 obtain⟨hσ,hN0⟩:=E.nst i b as hc;have own:∀a,vB (λj=>if j=i then af (b,as') else c j) a->vB c a\/H a=am:=λa ⟨j,b',as2,hj,ha⟩=>by
  by_cases e1:j=i
  ·simp only[e1,cx,gm,gz] at hj;obtain⟨rfl,rfl⟩:=hj;rcases bd.mp ha with rfl|ha
   ·exact .inl ⟨i,a,as,hc,bh ..⟩
   ·rcases hs a ha with h|h
    ·exact .inl ⟨i,b,as,hc,bf _ h⟩
    ·exact .inr h
  ·simp only[e1,cK] at hj;exact .inl ⟨j,b',as2,hj,ha⟩
 have k:KC c H (λj=>if j=i then af (b,as') else c j) H':=λa o e n=>⟨hk a o e λz=>n ⟨i,b,as,hc,z⟩,λz=>by
  rcases own a z with z|z
  ·exact n z
  ·rw[z] at e;cases e⟩
 have hl:i<ρ.length:=by rw[<-E.len];exact(c9.mp hσ).1
 have apart:∀j b' as2,j≠i->c j=af (b',as2)->∀a∈b'::as2,a∉b::as':=λj b' as2 hj hcj a ha z=>by
  rcases bd.mp z with rfl|z
  ·exact E.dj j i b' as2 a as hj hcj hc a ha (bh ..)
  ·rcases hs a z with h|h
   ·exact E.dj j i b' as2 b as hj hcj hc a ha (bf _ h)
   ·obtain⟨o,g,_⟩:=E.live ⟨j,b',as2,hcj,ha⟩;rw[h] at g;cases g
 refine⟨λj=>if j=i then af (b,as') else c j,⟨by simp[E.len],λj p hj=>?_,λj b' as2 hj=>?_,λj1 j2 b1 as1 b2 as2 hne h1 h2 a ha=>?_,λj hj=>?_,λj b' as2 hj=>?_,λj hj hd=>?_⟩,k⟩
 ·by_cases e1:j=i
  ·rw[e1];exact E.dom i _ hc
  ·simp only[e1,cK] at hj;exact E.dom j p hj
 ·by_cases e1:j=i
  ·simp only[e1,cx,gm,gz] at hj;obtain⟨rfl,rfl⟩:=hj;exact nd
  ·simp only[e1,cK] at hj;exact E.nd j b' as2 hj
 ·by_cases e1:j1=i
  ·by_cases e2:j2=i
   ·exact az (e1.trans e2.symm) hne
   ·simp only[e1,cx,gm,gz] at h1;simp only[e2,cK] at h2;obtain⟨rfl,rfl⟩:=h1;exact λz=>apart j2 b2 as2 e2 h2 a z ha
  ·simp only[e1,cK] at h1;by_cases e2:j2=i
   ·simp only[e2,cx,gm,gz] at h2;obtain⟨rfl,rfl⟩:=h2;exact apart j1 b1 as1 e1 h1 a ha
   ·simp only[e2,cK] at h2;exact E.dj j1 j2 b1 as1 b2 as2 hne h1 h2 a ha
 ·rw[bR] at hj ⊢;by_cases h:i=j/\i<ρ.length
  ·obtain⟨rfl,_⟩:=h;exact⟨_,hσ,λz=>by rw[E.dom i _ hc] at z;cases z⟩
  ·rw[aq h] at hj ⊢;obtain⟨w,h1,h2⟩:=E.at_ j hj;exact⟨w,h1,λhs=>k.rep E (h2 hs)⟩
 ·by_cases e1:j=i
  ·subst e1;simp only[cx,gm,gz] at hj;obtain⟨rfl,rfl⟩:=hj;rw[bR,ar ⟨rfl,hl⟩];exact⟨hσ,hn⟩
  ·simp only[e1,cK] at hj;rw[bR,aq λz=>e1 z.1.symm];obtain⟨h1,h2⟩:=E.nst j b' as2 hj;exact⟨h1,h2.xO (bs:=b::as) hk hN0.live λa ha=>E.dj j i b' as2 b as e1 hj hc a ha⟩
 ·by_cases e1:j=i
  ·exact⟨(b,as'),by simp[e1]⟩
  ·rw[bR,aq λz=>e1 z.1.symm] at hd;obtain⟨p,hp⟩:=E.all j hj hd;exact⟨p,by simp[e1,hp]⟩
section
variable {X:Cx} {e:Expr} {pos pos':bo}
theorem aIw{i:ah}{x:Str}{p2:bo}(ho:S i=ag)(hN:X.N.Nodup)(hi:X.N[i]?=af x)(hx:Loc X.env.scope x)(hs:dL (.Dict [] [] p2) (af (.Name x pos')) pos.line X.env=pure ai:=by rfl)(hf:X.fn x=ag\/X.env.scope.names.lookup x=af .local:=by first|exact .inl rfl|exact .inr rfl|assumption) :
  QS X (.Assign [.Name x pos'] (.Dict [] [] p2) pos) (tN S (aQl i (.dct []))):=QS.mk λΨ s σ H D I ⟨c,ρ,fl,E,h,q⟩=>by
 cases h;have hl:i<σ.length:=by
  rw[I.len];exact(c9.mp hi).1
 refine JS hN hi hx SQ hs hf Ψ s σ H D I λb hb=>?_
 obtain⟨c',E',k⟩:=E.new (i:=i) (b:=b) (as:=[]) (d:=.dct []) ho hl (cR.upd hb) (by simp) (λa ha=>by rw[cw.mp ha];exact hb) (.dct aN .nil eT);exact q c' _ _ k E'
theorem DX{kvs:aa (Key×V)}{k:Key}{v:V}(h:rM kvs k=am):putK kvs k v=kvs++[(k,v)]:=by
 unfold putK;rw[aq];rw[Bool.not_eq_true,List.any_eq_false];intro p hp z;have hz:p.1=k:=eh z;unfold rM at h;rw[A5,A6] at h;exact h p hp (bq hz)
theorem InK.snoc{H:Hp}{kvs:aa (Key×V)}{es:aa (D×D)}{as:aa ak}{k:Key}{a:ak}{ws:aa V}{ys:aa D}(h:InK H kvs es as)(e:H a=af (.lst ws))(r:bQ All H ws ys)(p:θ ys=ag):InK H (kvs++[(k,.ref a)]) (es++[(kD k,.lst ys)]) (as++[a]):=by
 induction h with
 |nil=>exact .cons e r p .nil
 |cons e' r' p' t ih=>exact .cons e' r' p' ih
theorem aIx{i:ah}{x:Str}{k:Expr}{fk:FE}{rk:ap}{p1 p4:bo}(hu:X.A.units+20<bm)(ho:S i=ag)(hN:X.N[i]?=af x)(hvi:Vis X.env.scope x)(hk:PE X k (gE fk rk))
 (hs:dL (.List [] p4) (af (.Subscript (.Name x p1) k pos')) pos.line X.env=pure ai:=by rfl)(hd:nDb x:=by decide)(hcd:nCd x:=by decide) :
  QS X (.Assign [.Subscript (.Name x p1) k pos'] (.List [] p4) pos) (tN S (aAy i fk)):=QS.mk λΨ s σ H D' I ⟨c,ρ,fl,E,h,q⟩=>by
 obtain⟨kd,h1,h2⟩:=bF h;split at h2
 rotate_left
 ·cases h2
 rename_i kvs hx;split at h2
 rotate_left
 ·cases h2
 rename_i hg;cases h2;simp only[bc] at hg;obtain⟨⟨⟨hg1,hg2⟩,hg3⟩,hg4⟩:=hg;obtain⟨kz,rfl⟩:=QW hg1;obtain⟨⟨b,as⟩,hc⟩:=E.all i ho (by rw[hx];intro z;cases z);obtain⟨hσ,hN0⟩:=E.nst i b as hc;have hnd:=E.nd i b as hc;rw[hx] at hN0;obtain⟨ks,eb,il,nk⟩:∃ks,H b=af (.dK ks)/\InK H ks kvs as/\(ks.map (·.1)).Nodup:=by
  cases hN0 with
  |dct e i n=>exact⟨_,e,i,n⟩
  |pln z e m r p=>
   cases kvs with
   |cons d ds=>
    rw[inner,aT,θ,bc] at p;rw[fI,bc] at hg4;obtain⟨d1,d2⟩:=d;cases d2<;>simp[aAv] at hg4
    rw[D.pure] at p;cases p.1
   |nil=>
    subst z;cases r with
    |dK e' _ rk n'=>cases rk;exact⟨[],e',.nil,eT⟩
    |dT e' _ _ _=>rw[e] at e';cases e';cases m
 have hno:rM ks kz=am:=by
  rcases W2 (k:=kz) il.reps with ⟨w,d,_,h2,_⟩|⟨h,_⟩
  ·rw[h2] at hg2;cases hg2
  ·exact h
 refine AD (thn (Y8 wG Ψ s σ H (λv H1=>∃p,v=.ref p/\H p=am/\H1=upd H p (.lst [])) I ⟨eL _,λp hp=>⟨p,rfl,hp,rfl⟩⟩) λrr s1 ⟨v,H1,I1,rv1,p,ev,hp,e1⟩=>
  thn (j9 hN hvi hd hcd Ψ s1 σ H1 (λw H2=>w=.ref b/\H2=H1) I1 ⟨_,hσ,rfl,rfl⟩) λu s2 ⟨xx,H2,I2,rx,ex,eH⟩=>
  thn (hk Ψ s2 σ H2 (λw H3=>cR H2 H3/\Rep All H3 w (kD kz)) I2 ⟨ρ,_,by rw[eH,e1];exact E.er.same (cR.upd hp),h1,λv H1 s1 r1 _=>⟨s1,r1⟩⟩) λiv s3 ⟨y,H3,I3,ry,sm3,rp3⟩=>?_) hs
 subst ex eH e1 ev;obtain rfl:u=eR b:=rx;obtain rfl:=aAx rp3;have sm:cR H H3:=(cR.upd hp).trans sm3;have ep3:H3 p=af (.lst []):=sm3 _ _ aN;have hpb:p≠b:=λz=>by subst z;rw[eb] at hp;cases hp
 have hpas:p∉as:=λz=>by obtain⟨ws,g⟩:=il.live p z;rw[g] at hp;cases hp
 have hlen:=il.reps.length;refine J3 (by lia) I3 (aDi.k (sm _ _ eb) (by have:=KD hg3;lia)) ry rv1 λs4 I5=>?_
 rw[DX hno] at I5;rw[cj] at hnd;obtain⟨c',E',k'⟩:=E.grow (i:=i) (as':=as++[p]) (H':=upd H3 b (.dK (ks++[(kz,.ref p)]))) (d:=.dct (kvs++[(kD kz,.lst [])])) hc (λa ha=>by
  rcases cf.mp ha with h|h
  ·exact .inl h
  ·rw[cw.mp h];exact .inr hp) (by
  rw[cj,cf,cw,eP];refine⟨λz=>z.elim hnd.1 (λz=>hpb z.symm),hnd.2,by simp,λu hu w hw q=>?_⟩;rw[cw.mp hw] at q;exact hpas (q▸hu)) (λa o e n=>by
  rw[a_ (λz=>n (by rw[z];exact bh ..))];exact sm _ _ e) (.dct aN (((il.same sm).upd hnd.1 (sm _ _ eb) rfl).snoc (by rw[a_ hpb];exact ep3) .nil rfl) (by
   rw[ce,eP];refine⟨nk,by simp,λu hu w hw q=>?_⟩;rw[List.map_singleton,cw] at hw;obtain⟨pr,hpr,rfl⟩:=ax.mp hu;unfold rM at hno;rw[A5,A6] at hno;exact hno pr hpr (bq (q.trans hw))))
 exact⟨σ,_,I5,q c' _ _ k' E'⟩
end
end
section
variable [KFrag]
section
variable {own:ah->ap} {a e:Expr}
theorem aPn(E:ES own H σ ρ)(ho:own i=ai)(h:iU i ρ=.ok d):∃v,σ[i]?=af (af v)/\Rep (λa=>¬Own own σ a) H v d:=by
 obtain⟨v,hv,r,e⟩:=E.er.var h;have hne:ρ.getD i .uD≠.uD:=λz=>by
  rw[z] at e;subst e;exact Rep.uD r
 obtain⟨w,hw,hr⟩:=E.at_ i hne;rw[hv] at hw;cases hw;have r2:=hr ho;rw[e] at r2;exact⟨v,hv,r2⟩
end
section
variable {X:Cx} {a e:Expr}
theorem uB{a:ak}{vs:aa V}(I:Inv X Ψ σ H s)(e:H a=af (.lst vs)):∃o,Inv X Ψ σ (upd H a (.frz o (.lst vs))) s:=by
 obtain⟨its,n,r,ho,hz⟩:=I.lst e;refine⟨_,I.write (by rw[e];trivial) (.inl rfl) (λ_ _ _ q=>q) ⟨_,ho⟩ ⟨ho,hz,its,n,r,ho⟩⟩
end
end
def yX(i:ah)(t:D->aa D->Res (aa D))(body:FS):FS:=λρ=>do
 let d <- iU i ρ
 match d with
 |.scr xs=>o_ t body xs ρ
 |_=>.bad
variable [KFrag]
section
theorem aN5{i:ah}(hK:KFrag.K=X.K)(hN:X.N[i]?=af x)(hv:Vis X.env.scope x)(hd:nDb x:=by decide)(hcd:nCd x:=by decide) :
  PI X tg (.Name x pos) (λσ H R=>∃v items,σ[i]?=af (af v)/\Rep All H v (.scr items)/\∀J,(∀P:ak->Prop,Rep P H v (.scr items)->ItQ X.K P J H items)->R J H):=by
 rintro Ψ s σ H R I ⟨v,items,hσ,r,q⟩;refine thn (j9 hN hv hd hcd Ψ s σ H (λw H1=>w=v/\H1=H) I ⟨v,hσ,rfl,rfl⟩) λu s1 ⟨w,H1,I1,ru,e1,e2⟩=>?_
 subst e1 e2;obtain⟨a,xs,rfl,ee,rr⟩:=r.inv;cases ru;obtain⟨its,rv,p,hz⟩:=I1.list (ee.sq hK);refine kg p.isList ?_;refine⟨s1.heap.objs.size,[s1.heap.objs.size],_,_,H1,rfl,I1.kept λb o e=>b6 _ e,wD a _,⟨_,c8 _ rfl,rfl,rfl⟩,λb hb=>?_,q _ λP r=>.scr a hK rfl r⟩;have e:b=s1.heap.objs.size:=by simpa using hb
 subst e;exact I1.aH6 (bj _) (I1.hok.fresh (bj _))
theorem G7(hK:KFrag.K=X.K)(ho:own i=ai)(hp:iE (aw X.prog X.w) X.A X.env X.xe)(hc:X.calm=ag)(hN:X.N[i]?=af x)(hv:Vis X.env.scope x)(ht:TgS own g t)(hg:PG X tg g)(hb:PSs X body (tS own fb))
 (hs:∀z,d6 (.Name x px) X.env z=pure z:=by intro _;rfl)(hd:nDb x:=by decide)(hcd:nCd x:=by decide):PS X (.For tg (.Name x px) body [] pos) (tS own (yX i t fb)):=PS.imp (JT hp hc (aN5 hK hN hv hd hcd) hg hb hs) λD' σ H z0=>by
 obtain⟨ρ,fl,E,h,q⟩:=z0;obtain⟨d,h1,h⟩:=bF h;split at h
 ·rename_i items;obtain⟨v,hv,r⟩:=aPn E ho h1;exact⟨v,items,hv,r.all,λJ hJ=>vR ht E (hJ _ r) h q⟩
 ·exact bx h
end
end Mi
namespace Wl
open PySem PySem.Spec
noncomputable abbrev liO(xs:aE aj)(n:ah)(sl:aE (av aj):=#[]):ba:={cls:=.type "list",data:=.seq xs n,slots:=sl}
theorem aAz:l5 (.type "list") "keys"=pure am:=by rw[rg,rh];kernel_rfl
theorem noGet:l5 (.type "list") "__getattr__"=pure am:=by rw[rg,rh];kernel_rfl
theorem aB0:vd table "list.__getattribute__"=af dt.«object.__getattribute__»:=A7 (id':= "object.__getattribute__") (by kernel_rfl) (by decide +kernel) (by decide +kernel) (by kernel_rfl)
theorem rD(a:ak)(xs:aE aj)(n:ah)(sl:aE (av aj))(u:e9):j3 (dt.«object.__getattribute__» ⟨[.ref a,.str "keys" u],[]⟩) (λA R s=>s.heap.get? a=af (liO xs n sl)/\raisesAttr (.ref a) "keys" A R s):=.of_wp λprog w A R s hs=>by
 obtain⟨hp,g,d,tk,os⟩:=s;obtain⟨e,hh,q⟩:=hs;have ty:(⟨hp,g,d,tk,os⟩:ao).TypeIs (.ref a) "list":=⟨_,e,rfl⟩
 have no:=aAz
 wp_walk
 exact A8 hh q (A9 (by decide +kernel) (by size_fits))
section
variable {prog:br} {w:bg} {A:bS} {E:aj->ao->Prop} {hp:aI} {g:aE km} {d:kn} {tk:ah} {os:ri} {a:ak} {xs:aE aj} {n:ah} {sl:aE (av aj)}
theorem gone(e:hp.get? a=af (liO xs n sl))(hh:A.handled=am)(hk:kw=[])(q:∀h' tk' x,Ba hp h' x (.ref a) "keys"->E (.ref x) ⟨h',g,d,tk',os⟩) :
  ϑ (aw prog w) A (call (.builtin "list.__getattribute__") ([.ref a]++[.str "keys" u]) kw) Q E ⟨hp,g,d,tk,os⟩:=by
 subst hk;exact ik vw ⟨_,e,rfl⟩ aB0 (F.args_list_getattribute_2 _ _) (rD a xs n sl u) ⟨e,hh,λh' tk' x hx=>q h' tk' x hx⟩
theorem lacks(e:hp.get? a=af (liO xs n sl))(hh:A.handled=am)(q:∀h' tk',(∀b o,hp.get? b=af o->h'.get? b=af o)->Q am ⟨h',g,d,tk',os⟩):ϑ (aw prog w) A (vx (.ref a) "keys") Q E ⟨hp,g,d,tk,os⟩:=by
 have ty:∀tk',(⟨hp,g,d,tk',os⟩:ao).TypeIs (.ref a) "list":=λ_=>⟨_,e,rfl⟩
 have f3:=vw.lookup;have f4:=vw.bind (.ref a);have f5:=noGet;have sub:=Bb
 wp_walk using gone e hh
 case hk=>rfl
 intro h' tk' x hx;obtain⟨t,u,ex⟩:=hx.there;show ϑ _ _ (Bc _ _ _ _ _ _ _) _ _ _
 wp_walk
 exact q _ _ hx.keeps
end
theorem aGg{h:aI}(e:h.get? c=af o)(hc:o.cls=.type T)(ed:h.get? d=af od)(hd:od.cls=.type U)(ne:(lx T==lx U)=ai):c≠d:=λq=>by
 subst q;rw[e] at ed;cases ed;rw[hc] at hd;rw[hd] at ne;simp at ne
def Prs{prog:br}{w:bg}{K:Type}[fc K](knd:KeyKind prog w K)(items:aE aj)(ps:aa (K×aj))(h:aI):Prop:=items.size=ps.length/\∀(i:ah)(kv:K×aj),ps[i]?=af kv->∃(p:ak)(x:aj)(o:ba)(n:ah),items[i]?=af (eR p)/\h.get? p=af o/\o.cls=.type "tuple"/\o.data=.seq #[x,kv.2] n/\knd.is kv.1 x=ag
theorem Prs.keep[fc K]{knd:KeyKind prog w K}{ps:aa (K×aj)}{h h':aI}(x:Prs knd items ps h)(k:∀c o,o.cls=.type "tuple"->h.get? c=af o->h'.get? c=af o):Prs knd items ps h':=
 ⟨x.1,λi kv e=>let ⟨p,v,o,n,h1,h2,h3,h4,h5⟩:=x.2 i kv e;⟨p,v,o,n,h1,k p o h3 h2,h3,h4,h5⟩⟩
end Wl
namespace Wt
open PySem PySem.Spec Wl
noncomputable abbrev tpO(xs:aE aj)(n:ah)(sl:aE (av aj)):ba:={cls:=.type "tuple",data:=.seq xs n,slots:=sl}
theorem aAz:l5 (.type "tuple") "keys"=pure am:=by rw[rg,rh];kernel_rfl
theorem noGet:l5 (.type "tuple") "__getattr__"=pure am:=by rw[rg,rh];kernel_rfl
theorem aB0:vd table "tuple.__getattribute__"=af dt.«object.__getattribute__»:=A7 (id':= "object.__getattribute__") (by kernel_rfl) (by decide +kernel) (by decide +kernel) (by kernel_rfl)
theorem rD(a:ak)(xs:aE aj)(n:ah)(sl:aE (av aj))(u:e9):j3 (dt.«object.__getattribute__» ⟨[.ref a,.str "keys" u],[]⟩) (λA R s=>s.heap.get? a=af (tpO xs n sl)/\raisesAttr (.ref a) "keys" A R s):=.of_wp λprog w A R s hs=>by
 obtain⟨hp,g,d,tk,os⟩:=s;obtain⟨e,hh,q⟩:=hs;have ty:(⟨hp,g,d,tk,os⟩:ao).TypeIs (.ref a) "tuple":=⟨_,e,rfl⟩
 have no:=aAz
 wp_walk
 exact A8 hh q (A9 (by decide +kernel) (by size_fits))
section
variable {prog:br} {w:bg} {A:bS} {E:aj->ao->Prop} {hp:aI} {g:aE km} {d:kn} {tk:ah} {os:ri} {a:ak} {xs:aE aj} {n:ah} {sl:aE (av aj)}
theorem gone(e:hp.get? a=af (tpO xs n sl))(hh:A.handled=am)(hk:kw=[])(q:∀h' tk' x,Ba hp h' x (.ref a) "keys"->E (.ref x) ⟨h',g,d,tk',os⟩) :
  ϑ (aw prog w) A (call (.builtin "tuple.__getattribute__") ([.ref a]++[.str "keys" u]) kw) Q E ⟨hp,g,d,tk,os⟩:=by
 subst hk;exact ik vz ⟨_,e,rfl⟩ aB0 (F.args_tuple_getattribute_2 _ _) (rD a xs n sl u) ⟨e,hh,λh' tk' x hx=>q h' tk' x hx⟩
theorem lacks(e:hp.get? a=af (tpO xs n sl))(hh:A.handled=am)(q:∀h' tk',(∀b o,hp.get? b=af o->h'.get? b=af o)->Q am ⟨h',g,d,tk',os⟩):ϑ (aw prog w) A (vx (.ref a) "keys") Q E ⟨hp,g,d,tk,os⟩:=by
 have ty:∀tk',(⟨hp,g,d,tk',os⟩:ao).TypeIs (.ref a) "tuple":=λ_=>⟨_,e,rfl⟩
 have f3:=vz.lookup;have f4:=vz.bind (.ref a);have f5:=noGet;have sub:=Bb
 wp_walk using gone e hh
 case hk=>rfl
 intro h' tk' x hx;obtain⟨t,u,ex⟩:=hx.there;show ϑ _ _ (Bc _ _ _ _ _ _ _) _ _ _
 wp_walk
 exact q _ _ hx.keeps
end
end Wt
namespace Wl
open PySem PySem.Spec
section
variable {prog:br} {w:bg} {A:bS} {E:aj->ao->Prop} {hp:aI} {g:aE km} {d:kn} {tk:ah} {os:ri} {a:ak} {xs:aE aj} {n:ah} {sl:aE (av aj)}
noncomputable def tyN:ap->c4
 |true=>"list"
 |false=>"tuple"
abbrev sqO(b:ap)(xs:aE aj)(n:ah)(sl:aE (av aj)):ba:={cls:=.type (tyN b),data:=.seq xs n,slots:=sl}
def aGh:ap->aI->ak->ak->ah->Prop
 |true,h,it,l,k=>h.IsListIter it l k
 |false,h,it,l,k=>h.IsTupleIter it l k
theorem aN6(z:aGh b h it l k)(e:h.get? c=af o)(hc:o.cls=.type "tuple"):c≠it:=by
 cases b<;>exact let ⟨oi,ei,ci,_⟩:=z;aGg e hc ei ci (by decide)
theorem aIy(z:aGh b h it l k)(e:h'.get? it=h.get? it):aGh b h' it l k:=by
 cases b<;>exact let ⟨oi,ei,r⟩:=z;⟨oi,e.trans ei,r⟩
theorem aN7(e:hp.get? a=af (sqO b xs n sl))(hh:A.handled=am)(q:∀h' tk',(∀b o,hp.get? b=af o->h'.get? b=af o)->Q am ⟨h',g,d,tk',os⟩):ϑ (aw prog w) A (vx (.ref a) "keys") Q E ⟨hp,g,d,tk,os⟩:=by
 cases b
 ·exact Wt.lacks e hh q
 ·exact lacks e hh q
end
section
variable {prog:br} {w:bg} {A:bS} {E:aj->ao->Prop} {s:ao} {it l:ak} {items:aE aj} {nl k:ah} {sl:aE (av aj)}
theorem aIz{Q:av aj->ao->Prop}(z:aGh b s.heap it l k)(el:s.heap.get? l=af (sqO b items nl sl))(hx:items[k]?=af x)(hQ:∀h',aGh b h' it l (k+1)->kt it s.heap h'->Q (af x) {s with heap:=h'}):ϑ (aw prog w) A (fj (.ref it)) Q E s:=by
 cases b
 ·exact xh z ⟨_,el,rfl,_,rfl⟩ hx hQ
 ·exact xf z ⟨_,el,rfl,_,rfl⟩ hx hQ
theorem aN8{Q:av aj->ao->Prop}(hh:A.handled=am)(z:aGh b s.heap it l k)(el:s.heap.get? l=af (sqO b items nl sl))(hx:items[k]?=am)(hQ:∀h',AW it s.heap h'->Q am {s with heap:=h'}):ϑ (aw prog w) A (fj (.ref it)) Q E s:=by
 cases b
 ·exact xi hh z ⟨_,el,rfl,_,rfl⟩ hx hQ
 ·exact xg hh z ⟨_,el,rfl,_,rfl⟩ hx hQ
theorem aPo{Q:aj->ao->Prop}(el:s.heap.get? l=af (sqO b items nl sl))(hQ:∀oi,aGh b (s.heap.push oi) s.heap.objs.size l 0->Q (.ref s.heap.objs.size) {s with heap:=s.heap.push oi}):ϑ (aw prog w) A (fE (.ref l)) Q E s:=by
 cases b
 ·exact oQ ⟨_,el,rfl,_,rfl⟩ (hQ _ ⟨_,c8 _ rfl,rfl,rfl⟩)
 ·exact kg ⟨_,el,rfl,_,rfl⟩ (hQ _ ⟨_,c8 _ rfl,rfl,rfl⟩)
end
section
variable {prog:br} {w:bg} {K:Type} [fc K] {knd:KeyKind prog w K} {A:bS} {R:Except aj Flow->ao->Prop} {it l d:ak} {items:aE aj} {ps:aa (K×aj)} {nl:ah} {sl:aE (av aj)}
theorem aEq(hh:A.handled=am)(hdi:d≠it)(hdl:d≠l)(hil:l≠it) :
  ∀(m k:ah)(s:ao)(kvs:aa (K×aj)),k+m=items.size->kvs.length+m<=bb->aGh b s.heap it l k->s.heap.get? l=af (sqO b items nl sl)->Prs knd items ps s.heap->s.heap.DictOf knd d kvs->
  (∀h' tk,h'.DictOf knd d (nN kvs (ps.drop k))->(∀c o,c≠d->c≠it->s.heap.get? c=af o->h'.get? c=af o)->R (.ok (.ret .none)) {s with heap:=h',toks:=tk})->
  codeAny (aw prog w) A (.builtin "dict.update.loop" ⟨[.ref d,.ref it,gu k,.none],[]⟩) R s:=by
 intro m;induction m with
 |zero=>
  intro k s kvs hkm hl Z el Pp hd q;refine fR Wz.K5 ?_;rw[gl (show plainId "dict.update.loop"=ag by decide +kernel) _];refine au (aN8 hh Z el (vh (by lia)) λh' kp=>?_);refine au ?_;unfold B9;rw[ud];refine au (aS (aS (aS ?_)));have e:ps.drop k=[]:=oS (by have:=Pp.1;lia);rw[e] at q;obtain⟨o,es,ep,ho,r⟩:=hd;exact q _ s.toks ⟨o,es,ep,kp d o hdi ho,r⟩ λc o _ c1 e=>kp c o c1 e
 |succ m ih=>
  intro k s kvs hkm hl Z el Pp hd q;have hlp:k<ps.length:=by have:=Pp.1;lia
  obtain⟨p,x,o,n,hi,hp,hpc,hpd,his⟩:=Pp.2 k ps[k] (cn hlp);have hpi:p≠it:=aN6 Z hp hpc;refine fR Wz.K5 ?_;rw[gl (show plainId "dict.update.loop"=ag by decide +kernel) _];refine au (aIz Z el hi λh' Z' kp=>?_);have hp':h'.get? p=af o:=(kp.2 p hpi).trans hp;refine au (gh (au (iv ?_)));refine au (tq ⟨_,hp',hpc⟩ ?_);rw[ar (by decide)];refine au (ke hp' hpd (aS ?_));show ϑ _ _ (sB [x,ps[k].2] (dictSet d x ps[k].2)) _ _ _;have hd':h'.DictOf knd d kvs:=let ⟨o,es,ep,ho,r⟩:=hd;⟨o,es,ep,(kp.2 d hdi).trans ho,r⟩
  obtain⟨od,es,ep,ho,hc,_⟩:=id hd';refine gh (Bd his hd' (λh2 hd2' sb=>?_) (by lia));refine aS ⟨vp _ (by decide +kernel),?_⟩;have ek:(gu (k+1):aj)=gu ((k+1:ah):ae):=rfl;rw[ek];have hdrop:ps.drop k=ps[k]::ps.drop (k+1):=mh hlp;have ls:(k4 kvs ps[k].1 ps[k].2).length<=kvs.length+1:=by
   unfold k4;split
   ·rw[ay];lia
   ·rw[cb];exact bj _
  have keep:∀c o,c≠d->c≠it->s.heap.get? c=af o->h2.get? c=af o:=λc o c0 c1 e=>(sb.2 c c0).trans ((kp.2 c c1).trans e)
  have hdc:∀c (oc:ba),oc.cls=.type "tuple"->s.heap.get? c=af oc->c≠d/\c≠it:=λc oc hoc e=>⟨let ⟨o1,_,_,e1,c1,_⟩:=hd;aGg e hoc e1 c1.1 (by decide),aN6 Z e hoc⟩
  refine ih (k+1) _ (k4 kvs ps[k].1 ps[k].2) (by lia) (by lia) (aIy Z' (sb.2 it (Ne.symm hdi))) (keep l _ (Ne.symm hdl) hil el) (Pp.keep λc oc hoc e=>keep c oc (hdc c oc hoc e).1 (hdc c oc hoc e).2 e) hd2' λh3 tk hd3 kp3=>?_
  exact q h3 tk (by rw[hdrop];exact hd3) λc o c0 c1 e=>kp3 c o c0 c1 (keep c o c0 c1 e)
end
section
variable {prog:br} {w:bg} {K:Type} [fc K] {knd:KeyKind prog w K} {A:bS} {E:aj->ao->Prop} {hp:aI} {g:aE km} {dr:kn} {tk:ah} {os:ri} {l:ak} {items:aE aj} {ps:aa (K×aj)} {nl:ah} {sl:aE (av aj)}
theorem aEr(hh:A.handled=am)(el:hp.get? l=af (sqO b items nl sl))(Pp:Prs knd items ps hp)(hz:items.size<=1000000)
 (q:∀h' tk',h'.DictOf knd hp.objs.size (nN [] ps)->(∀c o,hp.get? c=af o->h'.get? c=af o)->Q (.ref hp.objs.size) ⟨h',g,dr,tk',os⟩) :
  ϑ (aw prog w) A (call (.type "dict") [.ref l]) Q E ⟨hp,g,dr,tk,os⟩:=by
 have hnew:(hp.push {cls:=.type "dict",data:=.dict #[]}).DictOf knd hp.objs.size []:=yc hp;have up:∀c o,hp.get? c=af o->(hp.push {cls:=.type "dict",data:=.dict #[]}).get? c=af o:=λc o e=>b6 _ e
 have lt:∀{c o},hp.get? c=af o->hp.objs.size≠c:=λe=>jn (bw e)
 refine callType_codes (Q₁:=λv s₁=>v=.ref hp.objs.size/\s₁=⟨hp.push {cls:=.type "dict",data:=.dict #[]},g,dr,tk,os⟩) F.kt_called_dict (F.kt_typeCall_dict_1 _) F.entry_dict_init (kt_code_dict_new _ ⟨rfl,rfl⟩) λv s₁ hv=>?_
 obtain⟨rfl,rfl⟩:=hv;have ty:(⟨hp.push {cls:=.type "dict",data:=.dict #[]},g,dr,tk,os⟩:ao).TypeIs (.ref hp.objs.size) "dict":=hnew.typeIs;have ez:=up _ _ el;have tz:(⟨hp.push {cls:=.type "dict",data:=.dict #[]},g,dr,tk,os⟩:ao).TypeIs (.ref l) (tyN b):=⟨_,ez,rfl⟩
 refine⟨ty,F.args_dict_init_2 _ _,au (au (AL ty (aS ?_)))⟩;refine au (tq tz ?_);rw[ar (by cases b<;>decide)];refine au (aN7 ez hh λh' tk' kp=>?_);rw[ar (show(am:av aj).isNone=ag from rfl)];refine au (wpAny_rule (au (aPo (kp _ _ ez) λoi z0=>aS ⟨vp _ (by decide +kernel),?_⟩)));have hd':h'.DictOf knd hp.objs.size []:=let ⟨o,es,ep,ho,r⟩:=hnew;⟨o,es,ep,kp _ _ ho,r⟩
 have ltd:hp.objs.size<h'.objs.size:=let ⟨o,es,ep,ho,r⟩:=hd';bw ho
 have ltl:l<h'.objs.size:=bw (kp _ _ ez);refine aEq (ps:=ps) (it:=h'.objs.size) (l:=l) (items:=items) (nl:=nl) (sl:=sl) (show A.in1.handled=am from hh) (cu ltd) (lt el) (cu ltl) items.size 0 _ [] (by lia) (by rw[dS,eC];lia) z0 (b6 _ (kp _ _ ez)) (Pp.keep λc o _ e=>b6 _ (kp c o (up c o e))) (let ⟨o,es,ep,ho,r⟩:=hd';⟨o,es,ep,b6 _ ho,r⟩) λh2 tk2 hd2 kp2=>?_
 exact⟨rfl,q h2 tk2 hd2 λc o e=>kp2 c o (λx=>lt e x.symm) (cu (bw (kp c o (up c o e)))) (b6 _ (kp c o (up c o e)))⟩
end
end Wl
namespace Mi
open PySem L2 PySem.SeqAt PySem.Spec PyProof.Rows
def lN:aa D->av (aa (D×D))
 |[]=>af []
 |.tup [k,v]::r=>if fZ k&&v.pure then (lN r).map ((k,v)::·) else am
 |_::_=>am
def bG(kvs:aa (D×D))(more:aa (D×D)):aa (D×D):=more.foldl (λacc p=>putD acc p.1 p.2) kvs
def B_:D->Res D
 |.lst xs=>match lN xs with
  |some ps=>if ϒ (xs.length<=1000) then .ok (.dct (bG [] ps)) else .bad
  |none=>.bad
 |_=>.bad
section
variable [KFrag]
theorem UW(I:Inv X Ψ σ H s):∀{xs:aa D}{vs:aa V}{us:aa aj}{ps:aa (D×D)},bQ All H vs xs->Vals vs us->lN xs=af ps->
  ∃(kvs:aa (Key×V))(prs:aa (Key×aj)),KV kvs prs/\l_ All H kvs ps/\θ (ps.map (·.2))=ag/\us.length=prs.length/\∀(i:ah)(kv:Key×aj),prs[i]?=af kv->∃(p:ak)(x:aj)(o:ba)(n:ah),us[i]?=af (eR p)/\s.heap.get? p=af o/\o.cls=.type "tuple"/\o.data=.seq #[x,kv.2] n/\(cL X.prog X.w).is kv.1 x=ag
 |[],_,_,_,.nil,.nil,h=>by
  cases h;exact⟨[],[],.nil,.nil,rfl,rfl,λi kv h=>by simp at h⟩
 |d::xs,_,_,ps,.cons r t,.cons rv tv,h=>by
  unfold lN at h;split at h
  ·rename_i h0;cases h0
  ·rename_i k v r' h0;injection h0 with h0 h1
   subst h0 h1;split at h
   ·rename_i hf;rw[bc] at hf;obtain⟨ps',hp,rfl⟩:=k5.mp h;obtain⟨kvs,prs,g1,g2,g3,g4,g5⟩:=UW I t tv hp;obtain⟨a,ws,rfl,ea,rr⟩:=r.g_;cases rv;obtain⟨its,rvs,o,ho,hc,n,hd⟩:=iB I ea;cases rr with
    |cons rk rr=>
     cases rr with
     |cons rw_ rr=>
      cases rr;cases rvs with
      |cons q1 rvs=>
       cases rvs with
       |cons q2 rvs=>
        cases rvs;rename_i wk ww uk uw;obtain⟨key,hk1,hk2⟩:∃key:Key,kD key=k/\(cL X.prog X.w).is key uk=ag:=by
         cases rk with
         |int i=>exact⟨.inl i,rfl,wK q1⟩
         |str x=>exact⟨.inr x,rfl,wK q1⟩
         |_=>cases hf.1
        subst hk1;refine⟨(key,ww)::kvs,(key,uw)::prs,.cons ⟨rfl,q2⟩ g1,.cons rw_ g2,by rw[aT,θ,hf.2,g3];rfl,by rw[b9,b9,g4],λi kv hi=>?_⟩;cases i with
        |zero=>
         simp at hi;subst hi;exact⟨a,uk,o,n,rfl,ho,hc,hd,hk2⟩
        |succ i=>
         obtain⟨p,x,o',n',z1,z2⟩:=g5 i kv (by simpa using hi);exact⟨p,x,o',n',by simpa using z1,z2⟩
   ·cases h
  ·cases h
theorem CG:∀{more:aa (Key×V)}{ds:aa (D×D)}{kvs:aa (Key×V)}{es:aa (D×D)},l_ P H more ds->l_ P H kvs es->(kvs.map (·.1)).Nodup->l_ P H (gY kvs more) (bG es ds)/\((gY kvs more).map (·.1)).Nodup
 |_,_,_,_,.nil,r,n=>⟨r,n⟩
 |_,_,_,_,.cons (k:=k) rv t,r,n=>by have:=CG t (UL (k:=k) rv r n) (lK n);exact this
theorem uP:∀{ds es:aa (D×D)},θ (ds.map (·.2))=ag->θ (es.map (·.2))=ag->θ ((bG es ds).map (·.2))=ag
 |[],_,_,h=>h
 | (k,v)::ds,es,h,h2=>by
  rw[aT,θ,bc] at h;exact uP (ds:=ds) h.2 (jP h.1 h2)
section
theorem aGi{f:D->Res D}(hf:∀d0 d,f d0=.ok d->∃xs ps,(d0=.lst xs\/d0=.tup xs)/\lN xs=af ps/\xs.length<=1000/\d=.dct (bG [] ps))(hc:X.calm=ag)(hg:Gl X "dict")(hm:X.mg "dict"=am)(he:PE X e (gE fe re))(hs:bp [e] X.env=[(ai,bE e X.env)]:=by rfl) :
  PE X (.Call (.Name "dict" p) [e] [] pos) (gE (b1 f fe) ag):=by
 rintro Ψ s σ H Q I ⟨ρ,d,E,h,q⟩;obtain⟨d0,h1,h2⟩:=bF h;obtain⟨xs,ps,h0,hps,hb,rfl⟩:=hf _ _ h2;refine lI (zW I hg hm aEh ?_);refine sA ?_ hs rfl;rw[hs];show ϑ _ _ (sx [(ai,bE e X.env)]) _ _ s;refine xq (thn (he Ψ s σ H (λv H1=>cR H H1/\Rep All H1 v d0) I ⟨ρ,_,E,h1,λv H1 s1 r1 _=>⟨s1,r1⟩⟩) λu s1 ⟨x,H1,I1,ru,sm,rx⟩=>?_);obtain⟨a,vs,its,b,nl,sl,rfl,rr,rv,hl⟩:∃a vs its b nl sl,x=.ref a/\bQ All H1 vs xs/\Vals vs its/\s1.heap.get? a=af (Wl.sqO b its.toArray nl sl):=by
  rcases h0 with rfl|rfl
  ·obtain⟨_,_,rfl,e,p,r⟩:=rx.inv;obtain⟨hz,its,nl,rv,hl⟩:_/\∃(its:aa aj)(n:ah),Vals _ its/\s1.heap.get? _=af {cls:=.type "list",data:=.seq its.toArray n}:=I1.hok _ _ e;exact⟨_,_,its,ag,nl,_,rfl,r,rv,hl⟩
  ·obtain⟨a,vs,rfl,ea,rr⟩:=rx.g_;obtain⟨hz,its,rv,⟨cl,dd,da,sl⟩,hl,e1,nl,e2⟩:vs.length<=bb/\∃its:aa aj,Vals vs its/\j8 s1.heap a its.toArray:=I1.hok a _ ea;simp only[gz] at e1 e2;obtain⟨e2,e3⟩:=e2;subst e1 e2 e3;exact⟨_,_,its,ai,nl,sl,rfl,rr,rv,hl⟩
 cases ru;refine xp ?_;obtain⟨kvs,prs,g1,g2,g3,g4,g5⟩:=UW I1 rr rv hps;have hlen:its.length<=1000:=by rw[<-rv.length,rr.length];exact hb
 obtain⟨hp,g,dr,tk,os⟩:=s1;refine Wl.aEr (knd:=cL X.prog X.w) (ps:=prs) (items:=its.toArray) (I1.ok.hd hc) hl ⟨by rw[bX];exact g4,λi kv hi=>?_⟩ (by rw[bX];lia) λh' tk' hd kp=>?_
 ·obtain⟨p,x,o,n,z1,z2⟩:=g5 i kv hi;exact⟨p,x,o,n,by simpa using z1,z2⟩
 ·have hfr:H1 hp.objs.size=am:=I1.hok.fresh (bj _);have rel:KV (gY [] kvs) (nN [] prs):=g1.merge .nil;have hz2:(gY [] kvs).length<=bb:=by
   have:=lX kvs [];have l1:kvs.length=prs.length:=kj g1;rw[dS] at this;rw[eC];lia
  obtain⟨rk,nd⟩:=CG (kvs:=[]) g2 l_.nil eT;have sp:cR H1 (upd H1 hp.objs.size (.dK (gY [] kvs))):=cR.upd hfr;have rk2:∀{P:ak->Prop},l_ P (upd H1 hp.objs.size (.dK (gY [] kvs))) (gY [] kvs) (bG [] ps):=λ{P}=>(rk.keep (.same sp) λ_ h=>h).bT (uP g3 rfl)
  refine⟨.ref hp.objs.size,_,I1.laid (a:=hp.objs.size) (t':=tk') (o:=.dK (gY [] kvs)) kp (bj _) (SN hz2 (nq.mpr ?_) rel hd),rfl,?_⟩
  ·exact Ne.symm (cu I1.big)
  ·exact q _ _ (sm.trans sp) (.dK aN trivial rk2 nd) λ_=>.dK aN (sm.free hfr) rk2 nd
theorem aB1(hc:X.calm=ag)(hg:Gl X "dict")(hm:X.mg "dict"=am)(he:PE X e (gE fe re))(hs:bp [e] X.env=[(ai,bE e X.env)]:=by rfl) :
  PE X (.Call (.Name "dict" p) [e] [] pos) (gE (b1 B_ fe) ag):=aGi (λd0 d h=>by
 unfold B_ at h
 repeat' split at h
 ·rename_i h1 h2;exact⟨_,_,.inl rfl,h1,eh h2,(Res.ok.inj h).symm⟩
 all_goals exact bx h) hc hg hm he hs
end
end
def bFz(f:FE):FE:=λρ=>do
 let d <- f ρ
 match d with
 |.lst xs=>if θ xs then .ok (.scr xs) else .bad
 |_=>.bad
section
variable [KFrag]
section
variable {X:Cx} {e:Expr} {f:FE}
def tFz(t:TE):TE:=λσ H Q=>t σ H λv H1=>∃a vs,v=.ref a/\H1 a=af (.lst vs)/\∀o,Q v (upd H1 a (.frz o (.lst vs)))
theorem aPp(h:PE X e t):PE X e (tFz t):=by
 intro Ψ s σ H Q I q;refine eB (h Ψ s σ H _ (I.wish _) q) (λu s1 ⟨v,H1,I1,r,a,vs,ev,ea,k⟩=>?_) λ_ _ z=>z
 obtain⟨o,I2⟩:=uB I1 ea;exact⟨v,_,I2,r,k o⟩
theorem aB2(h:PE X e (gE f ag)):PE X e (gE (bFz f) ag):=PE.imp (aPp h) λσ H Q ⟨ρ,d,E,h,q⟩=>by
 obtain⟨d0,h1,h2⟩:=bF h;split at h2
 ·rename_i xs;split at h2
  ·rename_i hp;cases h2;refine⟨ρ,_,E,h1,λv H1 s1 r n=>?_⟩;cases n rfl with
   |@lst a vs _ ea pa ra=>
    refine⟨a,vs,rfl,ea,λo=>?_⟩;have noT:∀ob,H1 a=af ob->aHt ob=ag:=λob z=>by rw[ea] at z;cases z;rfl
    have s2:cR H (upd H1 a (.frz o (.lst vs))):=λb ob eb=>by
     rw[a_ (λz=>by rw[z,show H a=am from pa] at eb;cases eb)];exact s1 b ob eb
    have rp:∀P:ak->Prop,Rep P (upd H1 a (.frz o (.lst vs))) (.ref a) (.scr xs):=λP=>.frz (.inl ⟨o,aN⟩) ((K4 noT ra hp).bT hp)
    exact q _ _ s2 (rp _) λ_=>rp _
  ·exact bx h2
 ·exact bx h2
end
end
def aGj(f:FE):FI:=λρ=>do
 let d <- f ρ
 match d with
 |.scr xs=>if θ xs then .ok (xs,ag) else .bad
 |_=>.bad
noncomputable def gG(own:ah->ap)(i:ah):ah->ap:=λj=>own j||j==i
def aGk(i:ah)(f:FE)(g:FS):FS:=λρ=>do
 let d <- f ρ
 match d with
 |.lst xs=>if θ xs then g (ρ.set i (.lst xs)) else .bad
 |_=>.bad
noncomputable def uC(f g:FS):FS:=λρ=>do
 let r <- f ρ
 match r with
 |.nx ρ'=>g ρ'
 |.rt d=>.ok (.rt d)
 |_=>.bad
noncomputable def yZ(i:ah)(g:FS):FS:=λρ=>match ρ.getD i .uD with
 |.lst xs=>g (ρ.set i (.scr xs))
 |_=>.bad
noncomputable def K7(i:ah)(g:FS):FS:=λρ=>match ρ.getD i .uD with
 |.lst xs=>(do
   let r <- g (ρ.set i (.scr xs))
   match r with
   |.rt d=>.ok (.rt d)
   |_=>.bad)
 |_=>.bad
def aB3(i:ah)(f:FE):FS:=λρ=>do
 let d <- f ρ
 match ρ.getD i .uD,d with
 |.lst xs,.scr ys=>if ϒ (xs.length+ys.length<=lim)&&θ ys then .ok (.nx (ρ.set i (.lst (xs++ys)))) else .bad
 |_,_=>.bad
def aQn:D->D->D->D->Res D
 |.int a,.int i,.int b,.int j=>.ok (.dct (putD [(.int a,.int i)] (.int b) (.int j)))
 |_,_,_,_=>.bad
def aN9(k v l w:FE):FE:=λρ=>do
 let k <- k ρ
 let v <- v ρ
 let l <- l ρ
 let w <- w ρ
 aQn k v l w
theorem aJ0(l:ak)(items:aE aj)(n:ah)(b:ak)(items2:aE aj)(n2:ah)(sm:aE (av aj))(hc0:¬(!items.isEmpty&&kP (items.size+items2.size))=ag)(hc1:items.size<=bb)(hs2:items.size+items2.size<=bb+1) :
  j3 (dt.«list.extend» ⟨[.ref l,.ref b],[]⟩) (λ_ R s=>s.heap.get? l=af {cls:=.type "list",dict:=am,data:=.seq items n,slots:=#[]}/\s.heap.get? b=af {cls:=.type "list",dict:=am,data:=.seq items2 n2,slots:=sm}/\R (.ok (.ret jf)) {s with heap:=s.heap.update l (eS λx=>x++items2),toks:=s.toks}):=
 .of_wp λprog w A R s h=>by
  obtain⟨hp,g,d,tk,os⟩:=s;obtain⟨hl,hb,h⟩:=h;have f3:=zw;have hz':(items++items2).size<=bb+1:=by rw[AG];exact hs2
  wp_walk using (kf hl rfl (hz:=hc1) (_hz':=hz')),wpAny_loadPart' hl,wpAny_loadPart' hb;exact⟨_,rfl,h⟩
section
variable [KFrag]
section
variable {X:Cx} {own:ah->ap} {e:Expr} {fe f:FE} {g g1:FS}
theorem aB4{tg l:Expr}(hK:KFrag.K=X.K)(hl:PE X l (gE f rl)):PI X tg l (gI X.K (aGj f)):=by
 intro Ψ s σ H R I ⟨ρ,items,k,E,h,q⟩;obtain⟨d,h1,h⟩:=bF h;split at h
 ·rename_i its;split at h
  ·rename_i hpu;cases h;refine thn (hl Ψ s σ H (λv H1=>cR H H1/\Rep All H1 v (.scr items)) I ⟨ρ,_,E,h1,λv H1 s1 r1 _=>⟨s1,r1⟩⟩) λu s1 ⟨v,H1,I1,ru,sm,r1⟩=>?_
   obtain⟨a,xs,rfl,ee,rr⟩:=r1.inv;cases ru;obtain⟨its,rv,p,hz⟩:=I1.list (ee.sq hK);refine kg p.isList ?_;refine⟨s1.heap.objs.size,[s1.heap.objs.size],_,_,H1,rfl,I1.kept λb o e=>b6 _ e,wD a _,⟨_,c8 _ rfl,rfl,rfl⟩,λb hb=>?_,q _ H1 sm (.scr a hK rfl r1) λ_=>.scr a hK rfl (r1.bT ?_)⟩
   ·have e:b=s1.heap.objs.size:=by simpa using hb
    subst e;exact I1.aH6 (bj _) (I1.hok.fresh (bj _))
   ·exact hpu
  ·exact bx h
 ·exact bx h
theorem vY:gG own i i=ag:=by unfold gG;simp
theorem sV(h:gG own i j=ag):own j=ag\/j=i:=by
 unfold gG at h;simpa using h
theorem nM(h:own j=ag):gG own i j=ag:=by unfold gG;rw[h];rfl
theorem Own.to(h:Own own σ b):Own (gG own i) σ b:=by
 obtain⟨j,hj,e⟩:=h;exact⟨j,nM hj,e⟩
theorem W9(ho:own i=ai):nJ (gG own i) i=own:=by
 funext j
 unfold nJ gG;by_cases h:j=i
 ·subst h;rw[ho];simp
 ·have:(j==i)=ai:=by simpa using h
  rw[this,xC];simp
def KL(own:ah->ap)(i:ah)(σ:L2.St)(H:Hp)(σ':L2.St)(H':Hp):Prop:=∀a o,H a=af o->¬Own (gG own i) σ a->H' a=af o/\¬Own own σ' a
def kL(own:ah->ap)(i:ah)(D:Ends)(σ:L2.St)(H:Hp):Fl->Prop
 |.nx ρ=>∀σ' H',KL own i σ H σ' H'->ES own H' σ' ρ->D.nx σ' H'
 |.bk ρ=>∀σ' H',KL own i σ H σ' H'->ES own H' σ' ρ->D.bk σ' H'
 |.ct ρ=>∀σ' H',KL own i σ H σ' H'->ES own H' σ' ρ->D.ct σ' H'
 |.rt d=>kRt (gG own i) D σ H d
theorem kL.step{D:Ends}{σ σ':L2.St}{H H':Hp}{fl:Fl}(k:KU (gG own i) σ H σ' H')(h:kL own i D σ H fl):kL own i D σ' H' fl:=by
 cases fl with
 |nx ρ=>exact λσ2 H2 k2 e=>h σ2 H2 (λa o e n=>let ⟨e1,n1⟩:=k a o e n;k2 a o e1 n1) e
 |bk ρ=>exact λσ2 H2 k2 e=>h σ2 H2 (λa o e n=>let ⟨e1,n1⟩:=k a o e n;k2 a o e1 n1) e
 |ct ρ=>exact λσ2 H2 k2 e=>h σ2 H2 (λa o e n=>let ⟨e1,n1⟩:=k a o e n;k2 a o e1 n1) e
 |rt d=>exact kS.step (fl:=.rt d) k h
def tL(own:ah->ap)(i:ah)(f:FS):TS:=λD σ H=>∃ρ fl,ES (gG own i) H σ ρ/\f ρ=.ok fl/\kL own i D σ H fl
theorem vZ{st:bi}{rest:aa bi}(h1:PS X st (tS (gG own i) g1))(h2:PSs X rest (tL own i g)):PSs X (st::rest) (tL own i (uC g1 g)):=PSs.imp (vJ h1 h2) λD σ H z=>by
 obtain⟨ρ,fl,E,h,q⟩:=z;obtain⟨r,h1,h2⟩:=bF h;refine⟨ρ,r,E,h1,?_⟩;cases r with
 |nx ρ'=>exact λσ' H' k E'=>⟨ρ',fl,E',h2,q.step k⟩
 |bk ρ'=>exact bx h2
 |ct ρ'=>exact bx h2
 |rt d=>cases h2;exact q
theorem aGl(E:ES own H σ ρ)(ho:own i=ag)(hσ:σ[i]?=af (af (.ref a)))(hd:ρ.getD i .uD=.lst ds)(hua:H a=af (.lst vs))(rr:bQ All H vs ds):ES (nJ own i) (upd H a (.frz o (.lst vs))) σ (ρ.set i (.scr ds))/\¬Own (nJ own i) σ a:=by
 obtain⟨a',oa,ea,ra,hin,hHa,hma,huq⟩:=E.own i _ ho hσ;cases ea;rw[hd] at ra hin;have hna:¬Own (nJ own i) σ a:=λ⟨j,hj,e⟩=>(lM hj).2 (huq j (lM hj).1 e)
 have hOa:Own own σ a:=⟨i,ho,hσ⟩
 have hl:i<ρ.length:=by rw[<-E.len];exact(c9.mp hσ).1
 have noT:∀ob,H a=af ob->aHt ob=ag:=λob z=>by rw[hua] at z;cases z;rfl
 refine⟨⟨by simp[E.len],λj hj=>?_,λj w hj hw=>?_⟩,hna⟩
 ·rw[bR] at hj ⊢;by_cases h:i=j/\i<ρ.length
  ·rw[ar h];obtain⟨rfl,_⟩:=h;exact⟨_,hσ,λ_=>.frz (.inl ⟨o,aN⟩) ((K4 noT rr hin).bT hin)⟩
  ·rw[aq h] at hj ⊢;have hij:i≠j:=λz=>h ⟨z,hl⟩
   obtain⟨w,h1,h2⟩:=E.at_ j hj;refine⟨w,h1,λhj2=>?_⟩;have hoj:own j=ai:=by
    unfold nJ at hj2;cases hq:own j with
    |false=>rfl
    |true=>rw[hq] at hj2;simp at hj2;exact az hj2.symm hij
   refine(h2 hoj).keep (λb ob hb hp=>?_) λb hb hq=>hb hq.of
   rw[a_]
   ·exact hb
   ·intro z;subst z;rcases hp with hp|hp
    ·exact hp hOa
    ·rw[hua] at hb;cases hb;cases hp
 ·obtain⟨hoj,hji⟩:=lM hj;rw[bR,aq λz=>hji z.1.symm];obtain⟨b,ob,h1,h2,h3,h4,h5,h6⟩:=E.own j w hoj hw;subst h1;have hba:b≠a:=λz=>by subst z;exact hji (huq j hoj hw)
  refine⟨b,ob,rfl,?_,h3,by rw[a_ hba];exact h4,h5,λk hk hs=>h6 k (lM hk).1 hs⟩;refine(h2.aKz (P':=λc=>c=b) h3 rfl).keep (λc oc hc hp=>?_) λ_ _=>trivial
  rw[a_]
  ·exact hc
  ·intro z;subst z;rcases hp with hp|hp
   ·exact hba hp.symm
   ·rw[hua] at hc;cases hc;cases hp
theorem QX{ss:aa bi}(hx:gG own i rtX=ai:=by rfl)(ho:own i=ai:=by rfl)(h2:PSs X ss (tS own g)):PSs X ss (tL own i (yZ i g)):=by
 rintro Ψ s σ H D' I ⟨ρ,fl,E,h,q⟩;unfold yZ at h;split at h
 ·rename_i xs hxs;obtain⟨a,o,hσ,r,hin,ha,hm⟩:=E.ownAt vY (by rw[hxs];intro z;cases z);rw[hxs] at r;obtain⟨vs,hl,rr⟩:=BR r;obtain⟨o,If⟩:=uB I hl;obtain⟨EF,hna⟩:=aGl (o:=o) E vY hσ hxs hl rr;rw[W9 ho] at EF hna;have hOa:Own (gG own i) σ a:=⟨i,vY,hσ⟩
  have hx0:own rtX=ai:=by
   cases q:own rtX with
   |false=>rfl
   |true=>rw[nM q] at hx;cases hx
  have kk:∀σ' H',KU own σ (upd H a (.frz o (.lst vs))) σ' H'->KL own i σ H σ' H':=λσ' H' k b ob e n=>k b ob (by rw[a_ (λz=>by subst z;exact n hOa)];exact e) λz=>n z.to
  refine h2 Ψ s σ _ D' If ⟨_,fl,EF,h,?_⟩;cases fl with
  |nx ρ=>exact λσ' H' k E'=>q σ' H' (kk σ' H' k) E'
  |bk ρ=>exact λσ' H' k E'=>q σ' H' (kk σ' H' k) E'
  |ct ρ=>exact λσ' H' k E'=>q σ' H' (kk σ' H' k) E'
  |rt d=>
   refine kRt.mk hx0 λv H' hk rv=>kRt.old q hx v H' (λb ob hb hn=>hk b ob ?_ λz=>hn z.to) (rv.mono λb hb=>?_)
   ·rw[a_ (λz=>by subst z;exact hn hOa)];exact hb
   ·rcases hb with hb|hb
    ·exact .inl hb.to
    ·exact .inr (by
      have:b≠a:=λz=>by subst z;rw[aN] at hb;cases hb
      rw[a_ this] at hb;exact hb)
 ·exact bx h
theorem aEs(E:ES own H σ ρ)(ho:own i=ai):ES (gG own i) H (σ.set i am) (ρ.set i .uD):=by
 have hs:∀j v,(σ.set i am)[j]?=af (af v)->i≠j/\σ[j]?=af (af v):=λj v h=>by
  by_cases hij:i=j
  ·subst hij;rw[mE] at h;split at h
   ·split at h<;>cases h
   ·exact az rfl ‹_›
  ·rw[dw hij] at h;exact⟨hij,h⟩
 have hO:∀b,Own (gG own i) (σ.set i am) b↔Own own σ b:=λb=>by
  constructor
  ·rintro⟨j,hj,e⟩;obtain⟨h1,h2⟩:=hs j _ e;rcases sV hj with h|h
   ·exact⟨j,h,h2⟩
   ·exact az h.symm h1
  ·rintro⟨j,hj,e⟩;have hij:i≠j:=λz=>by subst z;rw[ho] at hj;cases hj
   exact⟨j,nM hj,by rw[dw hij];exact e⟩
 have hP:(λa=>¬Own (gG own i) (σ.set i am) a)=λa=>¬Own own σ a:=funext λa=>by rw[hO]
 refine⟨by simp[E.len],λj hj=>?_,λj w hj hw=>?_⟩
 ·rw[bR] at hj ⊢;by_cases h:i=j/\i<ρ.length
  ·rw[ar h] at hj;exact az rfl hj
  ·rw[aq h] at hj ⊢;obtain⟨w,h1,h2⟩:=E.at_ j hj;have hij:i≠j:=λz=>h ⟨z,by subst z;rw[<-E.len];exact(c9.mp h1).1⟩
   rw[hP];refine⟨w,by rw[dw hij];exact h1,λhj2=>h2 ?_⟩;cases hq:own j with
   |false=>rfl
   |true=>rw[nM hq] at hj2;cases hj2
 ·obtain⟨hij,hw⟩:=hs j w hw;rw[bR,aq λz=>hij z.1];have hoj:own j=ag:=(sV hj).resolve_right λz=>hij z.symm
  obtain⟨b,ob,h1,h2,h3,h4,h5,h6⟩:=E.own j w hoj hw;refine⟨b,ob,h1,h2,h3,h4,h5,λk hk hs2=>?_⟩;obtain⟨hik,hs3⟩:=hs k _ hs2;exact h6 k ((sV hk).resolve_right λz=>hik z.symm) hs3
theorem QZ{rest:aa bi}(hx0:gG own i rtX=ai)(ho:own i=ai)(hN:X.N.Nodup)(hi:X.N[i]?=af x)(hx:Loc X.env.scope x)(he:PE X e (gE fe ag))(hr:PSs X rest (tL own i g))(hs:dL e (af (.Name x pos')) pos.line X.env=pure ai:=by rfl)(hf:X.fn x=ag\/X.env.scope.names.lookup x=af .local:=by first|exact .inl rfl|exact .inr rfl|assumption) :
  PSs X (.Assign [.Name x pos'] e pos::rest) (tS own (aGk i fe g)):=PSs.imp (vJ (JS hN hi hx he hs hf) hr) λD σ H z=>by
 obtain⟨ρ,fl,E,h,q⟩:=z;obtain⟨d,h1,h2⟩:=bF h;split at h2
 ·rename_i xs;split at h2
  ·rename_i hp;refine⟨ρ,_,E.er,h1,λv H' s r n=>?_⟩;obtain⟨a,ob,rfl,hn,ha,hm⟩:=aGc (n rfl) (show inner (.lst xs)=ag from hp);obtain⟨E2,k⟩:=(aEs E ho).aQk s vY hn r (show inner (.lst xs)=ag from hp) ha hm;rw[Be,Be] at E2;have hO:∀b,Own (gG own i) (σ.set i (af (.ref a))) b->b=a\/Own own σ b:=λb ⟨j,hj,e⟩=>by
    by_cases hij:i=j
    ·subst hij;rw[mE] at e;split at e
     ·split at e<;>cases e
      exact .inl rfl
     ·exact az rfl ‹_›
    ·rw[dw hij] at e;exact .inr ⟨j,(sV hj).resolve_right λz=>hij z.symm,e⟩
   have hx1:own rtX=ai:=by
    cases q:own rtX with
    |false=>rfl
    |true=>rw[nM q] at hx0;cases hx0
   have kk:∀σ' H2,KL own i (σ.set i (af (.ref a))) H' σ' H2->KU own σ H σ' H2:=λσ' H2 k b o e nn=>k b o (s b o e) λz=>by
    rcases hO b z with z|z
    ·subst z;rw[show H b=am from hn] at e;cases e
    ·exact nn z
   refine⟨_,fl,E2,h2,?_⟩;cases fl with
   |nx ρ=>exact λσ' H2 k E'=>q σ' H2 (kk σ' H2 k) E'
   |bk ρ=>exact λσ' H2 k E'=>q σ' H2 (kk σ' H2 k) E'
   |ct ρ=>exact λσ' H2 k E'=>q σ' H2 (kk σ' H2 k) E'
   |rt d=>
    refine kRt.mk hx0 λv H2 hk rv=>kRt.old q hx1 v H2 (λb o e nn=>hk b o (s b o e) λz=>?_) (rv.mono λb hb=>?_)
    ·rcases hO b z with z|z
     ·subst z;rw[show H b=am from hn] at e;cases e
     ·exact nn z
    ·rcases hb with hb|hb
     ·rcases hO b hb with z|z
      ·subst z;exact .inr hn
      ·exact .inl z
     ·refine .inr ?_;cases q:H b with
      |none=>rfl
      |some o=>rw[s b o q] at hb;cases hb
  ·exact bx h2
 ·exact bx h2
theorem U0{ss:aa bi}(ho:own i=ag)(hr:PSs X ss (tS (nJ own i) g))(hx:own rtX=ai:=by rfl):PSs X ss (tS own (K7 i g)):=by
 rintro Ψ s σ H D' I ⟨ρ,fl,E,h,q⟩;unfold K7 at h;split at h
 ·rename_i xs hxs;obtain⟨r2,h3,h4⟩:=bF h;obtain⟨a,o,hσ,r,hin,ha,hm⟩:=E.ownAt ho (by rw[hxs];intro z;cases z);rw[hxs] at r;obtain⟨vs,hl,rr⟩:=BR r;obtain⟨o,If⟩:=uB I hl;obtain⟨EF,hna⟩:=aGl (o:=o) E ho hσ hxs hl rr;have hOa:Own own σ a:=⟨i,ho,hσ⟩
  refine hr Ψ s σ _ D' If ⟨_,r2,EF,h3,?_⟩;cases r2 with
  |rt d2=>
   cases h4;refine kRt.mk (by cases q:nJ own i rtX with|false=>rfl|true=>have:=(lM q).1;rw[hx] at this;cases this) λv H' hk rv=>kRt.old q hx v H' (λb ob hb hn=>hk b ob ?_ λz=>hn z.of) (rv.mono λb hb=>?_)
   ·rw[a_ (λz=>by subst z;exact hn hOa)];exact hb
   ·rcases hb with hb|hb
    ·exact .inl hb.of
    ·exact .inr (by
      have:b≠a:=λz=>by subst z;rw[aN] at hb;cases hb
      rw[a_ this] at hb;exact hb)
  |_=>exact bx h4
 ·exact bx h
theorem aJ1:MtM X "list.extend" (λx vs H Q=>∃l b xs zs,x=.ref l/\vs=[.ref b]/\H l=af (.lst xs)/\SqL X.K H b zs/\xs.length+zs.length<=bb/\Q .non (upd H l (.lst (xs++zs)))):=by
 intro Ψ s σ H x vs v us Q I rx rv h;obtain⟨l,b,xs,zs,rfl,rfl,hH,hB,hz,q⟩:=h;cases rx;obtain⟨u,rfl,ru⟩:=rv.one;cases ru;obtain⟨z,its,n,r,hl,e⟩:=I.aKw hH;obtain⟨its2,r2,⟨o2,n2,e2,c2,d2,t2⟩,_⟩:=I.list hB;obtain⟨oc2,od2,ot2,os2⟩:=o2;dsimp only at c2 d2 t2;subst c2 d2 t2;have z2:=r2.length;have hsz:its.toArray.size+its2.toArray.size<=bb:=by rw[bX,bX];lia
 have hlong:¬(!its.toArray.isEmpty&&kP (its.toArray.size+its2.toArray.size))=ag:=by
  rw[DW hsz,kQ];exact jm
 refine ik nK ⟨_,e,rfl⟩ xI (xL _ _) (aJ0 l its.toArray n b its2.toArray n2 os2 hlong (by rw[bX];lia) (by lia)) ⟨e,e2,?_⟩;refine⟨.non,_,I.aOh (its':=its++its2) hH e (by simp) (r.append r2) ?_,rfl,q⟩;rw[cb];lia
theorem aJ2{i:ah}{x:Str}{p1 apos cpos pos:bo}(hK:KFrag.K=X.K)(ho:own i=ag)(hN:X.N[i]?=af x)(hv:Vis X.env.scope x)(he:PE X e (gE fe re))(hd:nDb x:=by decide)(hcd:nCd x:=by decide)
 (hbase:iP (.Name x p1) "extend" X.env (bE (.Name x p1) X.env)=bE (.Name x p1) X.env:=by rfl)
 (hs1:bp [e] X.env=(ai,bE e X.env)::bp [] X.env:=by rfl)
 (hfew:((eo cpos (bp [e] X.env)).all (λx=>!x.1)&&(kH cpos (kK [] X.env)).all (λx=>x.1.isSome)
  &&ϒ (([e]:aa Expr).length+([]:aa gi).length+(if ([]:aa gi).isEmpty then 0 else 1)<30))=ag:=by rfl)
 (hline:(apos.endLine==cpos.line)=ag:=by rfl)
 (hs:dL (.Call (.Attribute (.Name x p1) "extend" apos) [e] [] cpos) am pos.line X.env=pure ai:=by rfl) :
  PS X (.Expr (.Call (.Attribute (.Name x p1) "extend" apos) [e] [] cpos) pos) (tS own (aB3 i fe)):=
 PS.imp (DP (ZJ mI nK AJ aJ1 (j9 hN hv hd hcd) (qT he wG hs1) hbase hfew hline hs1 rfl) hs) λD' σ H z0=>by
 obtain⟨ρ,fl,E,h,q⟩:=z0;obtain⟨d,h1,h2⟩:=bF h;split at h2
 ·rename_i xs ys hx;split at h2
  ·rename_i hk;cases h2;rw[bc,eM] at hk;obtain⟨a,o,hσ,r,hin,ha,hm⟩:=E.ownAt ho (by rw[hx];intro z;cases z);rw[hx] at r hin;obtain⟨vs,hl,rr⟩:=BR r;refine⟨_,hσ,.inl ⟨rfl,vs,.of hl⟩,ρ,_,E.er,h1,λv H' s rv _=>?_⟩;obtain⟨b,zs,rfl,hb,rz⟩:=rv.inv;have E':=E.same s;have hl':=s _ _ hl;refine⟨a,b,vs,zs,rfl,rfl,hl',hb.sq hK,by rw[rr.length,rz.length];exact c6 hk.1 (by rw[eC];decide),?_⟩;have hp:θ (xs++ys)=ag:=by rw[nF,bc];exact⟨hin,hk.2⟩
   obtain⟨E2,k2⟩:=E'.mut (o:=.lst (vs++zs)) (d:=.lst (xs++ys)) ho hσ rfl (.lst aN trivial (((rr.same s).append rz).upd hp hl' rfl)) hp;exact q _ _ ((KU.same s).trans k2) E2
  ·exact bx h2
 ·exact bx h2
variable {k1 v1 k2 v2:Expr} {g1 h1 g2 h2:FE}
theorem aJ3{r1 r2 r3 r4:ap}(hk1:PE X k1 (gE g1 r1))(hv1:PE X v1 (gE h1 r2))(hk2:PE X k2 (gE g2 r3))(hv2:PE X v2 (gE h2 r4)):PE X (.Dict [af k1,af k2] [v1,v2] pos) (gE (aN9 g1 h1 g2 h2) ag):=
 PE.imp (ZQ (rT hk1 hv1 (rT hk2 hv2 PP)) rfl rfl (by simp) (mP rfl)) λσ H Q z0=>by
 obtain⟨ρ,d,E,h,q⟩:=z0;obtain⟨a1,e1,hA⟩:=bF h;obtain⟨a2,e2,hB⟩:=bF hA;obtain⟨a3,e3,hC⟩:=bF hB;obtain⟨a4,e4,hD⟩:=bF hC;clear h hA hB hC;unfold aQn at hD;split at hD
 ·rename_i x i y j;cases hD;intro p hp;have s0:cR H (upd H p (.dK [])):=cR.upd hp;refine⟨ρ,_,E.same s0,e1,λw1 H1 s1 q1 _=>?_⟩;cases q1.inv;refine⟨ρ,_,(E.same s0).same s1,e2,λw2 H2 s2 q2 _=>?_⟩;cases q2.inv;refine⟨ρ,_,((E.same s0).same s1).same s2,e3,λw3 H3 s3 q3 _=>?_⟩;cases q3.inv;refine⟨ρ,_,(((E.same s0).same s1).same s2).same s3,e4,λw4 H4 s4 q4 _=>?_⟩;cases q4.inv;have sm:cR (upd H p (.dK [])) H4:=((s1.trans s2).trans s3).trans s4;refine⟨sm _ _ aN,[(.inl x,.int i),(.inl y,.int j)],rfl,mP rfl,?_⟩;have sf:cR H (upd H4 p (.dK (gY [] [(e8 x,V.int i),(e8 y,V.int j)]))):=λb o e=>by
   rw[a_ (eV e hp)];exact sm b o (s0 b o e)
  have rk:∀P:ak->Prop,l_ P (upd H4 p (.dK (gY [] [(e8 x,V.int i),(e8 y,V.int j)]))) (putK [(e8 x,V.int i)] (e8 y) (V.int j)) (putD [(.int x,.int i)] (.int y) (.int j)):=λP=>vQ (.int j) (.cons (.int i) .nil) (by simp)
  have nd:((putK [(e8 x,V.int i)] (e8 y:Key) (V.int j)).map (·.1)).Nodup:=lK (by simp);exact q _ _ sf (.dK aN trivial (rk All) nd) λ_=>.dK aN hp (rk _) nd
 ·exact bx hD
end
end
open PySem.W
def aQo(a v b w:D):Res D:=if lE [] a&&lE [(a,v)] b&&v.pure&&w.pure&&a.pure&&b.pure then .ok (.dct (putD (putD [] a v) b w)) else .bad
def aB5(k v l w:FE):FE:=λρ=>do
 let k <- k ρ
 let v <- v ρ
 let l <- l ρ
 let w <- w ρ
 aQo k v l w
noncomputable def aOk:D->D->Res D
 |.lst [x],.int n=>if ϒ (0<=n)&&ϒ (n<=10000)&&x.pure then .ok (.lst (b5 n.toNat x)) else .bad
 |_,_=>.bad
variable [KFrag]
theorem G8(r:Rep P H v d):∀n,bQ P H (b5 n [v]).flatten (b5 n d)
 |0=>.nil
 |n+1=>by
  rw[jv,jv,kM];exact .cons r (G8 r n)
theorem aJ4:OpR X (eg .Mult) (r2 aOk ag):=by
 intro Ψ s σ H x y v u Q I rx ry ⟨a,b,d,p,q,e,k⟩;unfold aOk at e;split at e
 ·rename_i x1 n;split at e
  ·rename_i hl;rw[bc,bc] at hl;obtain⟨⟨h0,h1⟩,hp⟩:=hl;have h0:=eh h0;have h1:=eh h1;cases e;cases q.inv;obtain⟨a1,xs,rfl,e1,_,r1⟩:=p.inv;cases r1 with
   |@cons v1 _ _ _ r2 r3=>
    cases r3;refine aLx Ψ s σ H _ _ v u Q I rx ry ⟨a1,n,[v1],rfl,rfl,e1,by lia,by lia,?_,λp hpn=>?_⟩
    ·rw[fx,eC];lia
    ·have sp:cR H (upd H p (.lst (b5 n.toNat [v1]).flatten)):=cR.upd hpn;exact k _ _ sp (.lst aN trivial ((G8 r2 _).same sp)) λ_=>.lst aN hpn ((G8 (r2.bT hp) _).same sp)
  ·exact bx e
 ·exact bx e
theorem K8{A:bS}{Q:kq->ao->Prop}{E:aj->ao->Prop}(hu:A.units+1<bm)(I:Inv X Ψ σ H s)(g:aDi H a y v H')(ry:RelV y u)(rv:RelV v r)(h:∀s',Inv X Ψ σ H' s'->Q () s') :
  ϑ (aw X.prog X.w) A (dictSet a u r) Q E s:=by
 rcases g with ⟨kvs,k,e,ey,l,eH⟩|⟨kvs,k,b,e,ey,eb,l,eH⟩
 ·subst ey eH;obtain⟨z,hd,vs,rel,dd⟩:=WN I.hok e;have hz:vs.length<=bb:=by rw[<-rel.length];exact z
  have hl:(putK kvs k v).length<=bb:=by have:=jR kvs k v;lia
  refine Bd (hsz:=hz) (wK ry) dd λh' dd' hs=>h _ ?_
  have he:∃q,h'.get? a=af q:=let ⟨q,_,_,hq,_⟩:=dd';⟨q,hq⟩
  exact wL I (by rw[e];exact True.intro) hs he (SN hl hd (rel.put k rv) dd')
 ·subst ey eH;cases (show u=eR b from ry);obtain⟨z,hd,xs,rel,dd⟩:=ZL I.hok e;have hz:xs.length<=bb:=by rw[<-kj rel];exact z
  have hl:(putK kvs k v).length<=bb:=by have:=jR kvs k v;lia
  refine wpAny_dictSet_heap (hsz:=hz) (show A.units<bm by lia) (uN I.hok eb) dd λh' dd' hs=>h _ ?_
  obtain⟨q,es,ep,hq,h2,h3,h4,_,h5⟩:=dd';refine wL I (by rw[e];exact True.intro) hs ⟨q,hq⟩ ⟨hl,hd,_,(rel.put k eb rv).keeps λc ys ec=>?_,q,es,ep,hq,h2,h3,h4,h5⟩;rw[a_ (aDn ec e (λz=>nomatch z))];exact ec
theorem aJ5{k1 v1 k2 v2:Expr}{g1 h1 g2 h2:FE}{r1 r2 r3 r4:ap}(hu:X.A.units+20<bm)(hk1:PE X k1 (gE g1 r1))(hv1:PE X v1 (gE h1 r2))(hk2:PE X k2 (gE g2 r3))(hv2:PE X v2 (gE h2 r4)):PE X (.Dict [af k1,af k2] [v1,v2] pos) (gE (aB5 g1 h1 g2 h2) ag):=by
 rintro Ψ s σ H Q I ⟨ρ,d,E,h,q⟩;obtain⟨a1,e1,hA⟩:=bF h;obtain⟨a2,e2,hB⟩:=bF hA;obtain⟨a3,e3,hC⟩:=bF hB;obtain⟨a4,e4,hD⟩:=bF hC;clear h hA hB hC;unfold aQo at hD;split at hD
 ·rename_i hc;cases hD;simp only[bc] at hc;obtain⟨⟨⟨⟨⟨c1,c2⟩,p2⟩,p4⟩,p1⟩,p3⟩:=hc;have hp:=I.hok.fresh (bj s.heap.objs.size);have I1:=I.laid (a:=s.heap.objs.size) (o:=.dK []) (h':=s.heap.push {cls:=.type "dict",data:=.dict #[]}) (t':=s.toks) (λ_ _ q=>b6 _ q) (bj _) (DY s.heap I.big);have s0:cR H (upd H s.heap.objs.size (.dK [])):=cR.upd hp;refine wpAny_Dict_any rfl rfl (by simp) (mP rfl) (thn (rT hk1 hv1 (rT hk2 hv2 PP) Ψ _ σ _ (λps H4=>∃w1 w2 w3 w4,ps=[(w1,w2),(w3,w4)]/\cR (upd H s.heap.objs.size (.dK [])) H4/\Rep All H4 w1 a1/\Rep All H4 w2 a2/\Rep All H4 w3 a3/\Rep All H4 w4 a4) I1 ?_) λvs s2 ⟨ps,H4,I2,rel,w1,w2,w3,w4,ep,sm,z1,z2,z3,z4⟩=>?_)
  ·refine⟨ρ,_,E.same s0,e1,λw1 H1 s1 q1 _=>⟨ρ,_,(E.same s0).same s1,e2,λw2 H2 s2 q2 _=>⟨ρ,_,((E.same s0).same s1).same s2,e3,λw3 H3 s3 q3 _=>⟨ρ,_,(((E.same s0).same s1).same s2).same s3,e4,λw4 H4 s4 q4 _=>?_⟩⟩⟩⟩;exact⟨w1,w2,w3,w4,rfl,((s1.trans s2).trans s3).trans s4,((q1.same s2).same s3).same s4,(q2.same s3).same s4,q3.same s4,q4⟩
  ·subst ep;have ed:H4 s.heap.objs.size=af (.dK []):=sm _ _ aN;cases rel with
   |@cons _ x1 _ _ rr1 t=>
    cases t with
    |@cons _ x2 _ _ rr2 t=>
     cases t;obtain⟨H5,o5,I5,g5,m5,rp5⟩:=aI8 I2 (ad:=s.heap.objs.size) (ds:=[]) (.dK ed trivial .nil eT) rfl z1 c1 (du Nat.zero_lt_one (by rw[eC];lia)) z2 p2;unfold storeAll;rw[ue];refine au (au (K8 (by lia) I5 g5 rr1.1 rr1.2 λs3 I3=>aS ?_));show ϑ _ _ (forIn [x2] Bf _) _ _ _;have kp:∀{v:V}{d:D},Rep All H4 v d->d.pure=ag->Rep All (upd H4 s.heap.objs.size o5) v d:=λr hp=>(r.bT hp).keep (P:=λ_=>cg) (xM ed rfl) λ_ z=>z.elim
     obtain⟨H6,o6,I6,g6,m6,rp6⟩:=aI8 I3 (ad:=s.heap.objs.size) rp5 (jP p2 rfl) (kp z3 p3) c2 (by
      show(putD [] a1 a2).length<_;rw[eC,putD,fx];lia) (kp z4 p4) p4
     rw[ue];refine au (au (K8 (by lia) I6 g6 rr2.1 rr2.2 λs4 I4=>aS ?_));show ϑ _ _ (forIn [] Bf _) _ _ _;rw[ud];refine aS ⟨.ref s.heap.objs.size,_,I4,rfl,?_⟩;rw[wC] at rp6 ⊢;have hin:=jP (k:=a3) p4 (jP (k:=a1) (ds:=[]) p2 rfl);refine q _ _ (λb o e=>?_) rp6 λ_=>?_
     ·rw[a_ (eV e hp)];exact sm b o (s0 b o e)
     ·cases rp6 with
      |dK e _ r n=>exact .dK e hp (r.bT hin) n
      |dT e _ r n=>exact .dT e hp (r.bT hin) n
 ·exact bx hD
theorem aJ6{X:Cx}{x1 x2 x3 x4 i1 i2 i3 i4 i5 i6 i7 i8}(hu:X.A.units+20<bm):PE X (.Dict [af (.Tuple [.Constant (.int a) i1 p1,.Constant (.int b) i2 p2] x1 t1),af (.Tuple [.Constant (.int e) i5 p5,.Constant (.int f) i6 p6] x3 t3)] [.Tuple [.Constant (.int c) i3 p3,.Constant (.int d) i4 p4] x2 t2,.Tuple [.Constant (.int g) i7 p7,.Constant (.int h) i8 p8] x4 t4] pos)
  (gE (aB5 (dM (aD (bC (.int a)) (aD (bC (.int b)) aR))) (dM (aD (bC (.int c)) (aD (bC (.int d)) aR))) (dM (aD (bC (.int e)) (aD (bC (.int f)) aR))) (dM (aD (bC (.int g)) (aD (bC (.int h)) aR)))) ag):=by
 refine @aJ5 _ X pos _ _ _ _ _ _ _ _ ag ag ag ag hu ?_ ?_ ?_ ?_
 ·exact cG (aB aK (aB aK aG))
 ·exact cG (aB aK (aB aK aG))
 ·exact cG (aB aK (aB aK aG))
 ·exact cG (aB aK (aB aK aG))
end Mi
namespace Mi
open PySem L2 PySem.SeqAt PySem.Spec PyProof.Rows
def xP:D->Res D
 |.tup xs=>match lN xs with
  |some ps=>if ϒ (xs.length<=1000) then .ok (.dct (bG [] ps)) else .bad
  |none=>.bad
 |_=>.bad
variable [KFrag]
theorem W_{X:Cx}{e:Expr}{fe:FE}{re:ap}{p pos:bo}(hc:X.calm=ag)(hg:Gl X "dict")(hm:X.mg "dict"=am)(he:PE X e (gE fe re))(hs:bp [e] X.env=[(ai,bE e X.env)]:=by rfl) :
  PE X (.Call (.Name "dict" p) [e] [] pos) (gE (b1 xP fe) ag):=by
 refine aGi (λd0 d h=>?_) hc hg hm he hs;unfold xP at h
 repeat' split at h
 ·rename_i h1 h2;exact⟨_,_,.inr rfl,h1,eh h2,(Res.ok.inj h).symm⟩
 all_goals exact bx h
end Mi
section
local macro_rules | `(tactic| trivial) => `(tactic| first | exact Or.inl rfl | exact Or.inr rfl | exact Or.inr (Or.inl rfl) | exact Or.inr (Or.inr rfl))
namespace Lk14
open PySem L2 Mi PySem.W
noncomputable def top(i:ah):bi:=PySem.Challenge.pw_hookmill_k14_not_alike.main.body.getD i (.Pass ⟨0,0,0,0⟩)
abbrev nO:bi:=top 19
noncomputable def K9:ah->ap:=λi=>i==4
def K_:FS:=bH (cF ai 1 (bC (.str "abcdefghijklmnopqrstuvwxyz")) ag) (bH (cF ai 2 (b2 (bY .add) eU (b2 (bY .mod) fL (bC (.int 8)))) ag) (bH (cF ai 3 (b2 (bY .mod) (b2 (bY .fdiv) fL (bC (.int 8))) fD) ag) (bH (cF ag 4 (yS aR) ag) (bH (u_ (oW (aD aDy aR) m_) (tg1 5) (bH (cF ai 6 (bC (.str "")) ag) (bH (u_ (oW (aD fD aR) m_) (tg1 7) (bH (cF ai 8 (b2 (bY .fdiv) (b2 (bY .fdiv) fL (bC (.int 64))) (b2 (bY .add) (b2 (bY .mul) jL jL) eU)) ag) (bH (sIf (bTB (b2 (b8 .eq) jL gB)) (cF ai 8 (b2 (bY .add) u5 fH) ag) jH) (cF ai 6 (b2 (bY .add) fU (b2 getD gQ (b2 (bY .mod) u5 aDz))) ag)))) (o9 4 fU)))) (J7 4)))))
def kO:aa D->Res D:=fnS 1 9 K_
abbrev oG:bi:=top 20
noncomputable def XC:ah->ap:=λi=>i==3||i==4||i==8
def XF:FS:=bH (cF ag 3 (yS aR) ag) (bH (cF ag 4 (yS aR) ag) (bH (u_ (oW (aD (b2 (bY .add) eU (b2 (bY .mod) (aO gC (aD fD aR)) aG1)) aR) m_) (tg1 5) (bH (cF ai 6 (b2 (bY .mod) (b2 getD (b2 (bY .add) fD (b2 aOk (yS (aD cV aR)) aG1)) fH) aDy) ag) (bH (o9 3 (dM (aD (b2 (bY .add) fH eU) (aD (b2 getD fL fU) aR)))) (u_ (oW (aD (b2 (bY .add) (b2 (bY .add) gQ eU) (b2 (bY .fdiv) fU FJ)) aR) m_) (tg1 7) (o9 4 (dM (aD (b2 (bY .add) fH eU) (aD jL aR)))))))) (bH (cF ag 8 (yS aR) ag) (bH (cF ai 9 cV ag) (bH (cF ai 10 cV ag) (bH (aIj (bTB (b2 (b8 (.ord .gt)) (aO gC (aD d8 aR)) cV)) (bH (cF ai 11 (b2 (bY .fdiv) (b2 getD (b2 (bY .add) fD (yS (aD (b2 (bY .mul) fP fP) aR))) (aO (cN .lt) (aD fP (aD (aO gC (aD fD aR)) aR)))) aDy) ag) (bH (cF ai 12 (b2 getD d8 cV) ai) (bH (cF ai 13 (dM (aD cV (aD z7 aR))) ai) (bH (sIf (J5 (bTB (b2 (b8 (.ord .gt)) (aO gC (aD d8 aR)) eU)) (bTB (b2 (b8 (.ord .gt)) (b2 (bY .mod) tY aG2) cV))) (cF ai 13 (b2 getD d8 (b2 (bY .add) eU (b2 (bY .mod) (b2 (bY .fdiv) tY aG2) (b2 (bY .sub) (aO gC (aD d8 aR)) eU)))) ai) (cF ai 9 (b2 (bY .add) z7 eU) ag)) (bH (o9 8 (dM (aD (aO (cN .lt) (aD E_ (aD lB aR))) (aD (aO (cN .gt) (aD E_ (aD lB aR))) aR)))) (bH (cF ag 4 (e_ 14 (cX d8 ai) z_ (J5 (bTB (b2 (b8 .ne) u9 E_)) (bTB (b2 (b8 .ne) u9 lB))) u9 ai) ag) (cF ai 10 (b2 (bY .add) fP eU) ag)))))))) (jJ (dM (aD (aO m9 (aD gB aR)) (aD (aO m9 (aD (aO fM (aD u5 aR)) aR)) (aD cV aR)))) ai)))))))
def oH:aa D->Res D:=fnS 3 14 XF
abbrev gH:bi:=top 21
noncomputable def y_:ah->ap:=λi=>ai
def zA:FS:=bH (sIf (bTB (b2 (b8 (.ord .lt)) (aO gC (aD fL aR)) FJ)) (jJ fL ai) jH) (bH (cF ai 2 (b2 (bY .mod) gQ (b2 (bY .sub) (aO gC (aD fL aR)) eU)) ag) (bH (cF ai 3 (b2 (bY .add) (b2 (bY .add) fD eU) (b2 (bY .mod) (b2 (bY .fdiv) gQ (bC (.int 7))) (b2 (bY .sub) (b2 (bY .sub) (aO gC (aD fL aR)) eU) fD))) ag) (bH (aIh (b2 getD fL fD) (tgN [4,5])) (bH (aIh (b2 getD fL gB) (tgN [6,7])) (bH (cF ai 8 (e_ 10 (oW (aD (aO gC (aD fL aR)) aR) m_) z_ (J5 (bTB (b2 (b8 .ne) fP fD)) (bTB (b2 (b8 .ne) fP gB))) (b2 getD fL fP) ai) ag) (bH (cF ai 9 (oX (aD (dM (aD d8 (aD fU aR))) (aD (dM (aD fH (aD jL aR))) aR))) ag) (bH (sIf (bTB (b2 (b8 .eq) (b2 (bY .mod) (b2 (bY .fdiv) gQ aG2) FJ) eU)) (cF ai 9 (oX (aD (dM (aD d8 (aD jL aR))) (aD (dM (aD fU (aD fH aR))) aR))) ag) jH) (jJ (aO m9 (aD (aO fM (aD (b2 (bY .add) u5 (e_ 10 (cX z7 ai) z_ gR (dM (aD (aO (cN .lt) (aD fP aR)) (aD (aO (cN .gt) (aD fP aR)) aR))) ai)) aR)) aR)) ai))))))))
def fJ:aa D->Res D:=fnS 2 10 zA
abbrev gJ:bi:=top 22
noncomputable def zB:ah->ap:=λi=>ai
def zE:FS:=bH (aIh fL (tgN [3,4,5])) (bH (cF ai 6 (b2 (bY .mod) fD aG2) ag) (bH (cF ai 7 (b2 (bY .mod) (b2 (bY .fdiv) fD aG2) (aO gC (aD gB aR))) ag) (bH (aIh (b2 getD gB jL) (tgN [8,9])) (bH (sIf (J5 (bTB (b2 (b8 .eq) fU eU)) (bTB (b2 (b8 .ne) z7 (b2 getD gQ FJ)))) (bH (cF ai 10 (b2 getD gQ (b2 (bY .sub) eU (aO aMy (aD (b2 (b8 .eq) z7 (b2 getD gQ eU)) aR)))) ai) (jJ (dM (aD (b2 aIi (b2 aIi (aDj gB P_ (wO jL)) (dM (aD (dM (aD u5 (aD fP aR))) aR))) (aDj gB (wO (b2 (bY .add) jL eU)) P_)) (aD d8 (aD fH aR)))) ai)) jH) (bH (sIf (bTB (b2 (b8 .eq) fU FJ)) (jJ (dM (aD gB (aD (aO (cD 2 fJ) (aD d8 (aD (b2 (bY .fdiv) fD Z3) aR))) (aD fH aR)))) ai) jH) (bH (sIf (bTB (b2 (b8 .eq) fU aDy)) (bH (cF ai 11 (aB5 (dM (aD cV (aD cV aR))) (dM (aD cV (aD eU aR))) (dM (aD cV (aD eU aR))) (dM (aD cV (aD cV aR)))) ag) (sIf (bTB (b2 (b8 .eq) (aO gC (aD (e_ 13 (cX d8 ai) z_ (bTB (b2 (b8 .isin) (b2 getD lB cV) tY)) lB ai) aR)) FJ)) (bH (cF ai 12 (e_ 13 (cX d8 ai) (yU 2) gR (dM (aD (bM aE0 tY (aD lB (aD lB aR))) (aD u9 aR))) ai) ag) (jJ (dM (aD gB (aD (aO m9 (aD (aO fM (aD E_ aR)) aR)) (aD fH aR)))) ai)) jH)) jH) (bH (sIf (bTB (b2 (b8 .eq) fU aG1)) (jJ (dM (aD gB (aD d8 (aD (b2 (bY .add) fH eU) aR)))) ai) jH) (jJ fL ai))))))))
def gK:aa D->Res D:=fnS 3 13 zE
abbrev mF:bi:=top 24
noncomputable def G9:ah->ap:=λi=>ai
def G_:FS:=bH (cF ai 1 (bFz (yS (aD (bFz (yS aR)) aR))) ag) (bH (u_ (oW (aD fL aR) m_) (tg1 2) (aGk 3 (yS aR) (uC (yX 1 (tg1 4) (u_ (oW (aD (b2 (bY .add) fD eU) aR) m_) (tg1 5) (o9 3 (bFz (b2 (bY .add) (b2 (bY .add) (aDj d8 P_ (wO fH)) (oX (aD fD aR))) (aDj d8 (wO fH) P_)))))) (yZ 3 (sAl 1 3))))) (jJ gQ ai))
def iG:aa D->Res D:=fnS 1 6 G_
abbrev i_:bi:=top 23
noncomputable def zF:ah->ap:=λi=>i==3
def zG:FS:=bH (cF ai 2 (aO fM (aD (e_ 6 (cX (b2 getD fL cV) ai) (yU 2) gR (dM (aD (b2 getD gQ fU) (aD jL aR))) ai) aR)) ag) (bH (cF ag 3 (yS aR) ag) (bH (u_ (cX (b2 getD fL eU) ai) (tgN [4,5]) (bH (cF ai 4 (dM (aD (b2 getD gQ (b2 getD d8 cV)) (aD (b2 getD d8 eU) aR))) ai) (bH (cF ai 5 (dM (aD (b2 getD gQ (b2 getD fH cV)) (aD (b2 getD fH eU) aR))) ai) (o9 3 (dM (aD (aO (cN .lt) (aD d8 (aD fH aR))) (aD (aO (cN .gt) (aD d8 (aD fH aR))) aR))))))) (jJ (dM (aD (aO m9 (aD fD aR)) (aD (aO m9 (aD (aO fM (aD gB aR)) aR)) (aD (b2 getD fL FJ) aR)))) ai)))
def bW:aa D->Res D:=fnS 2 6 zG
abbrev lD:bi:=top 17
noncomputable def zH:ah->ap:=λi=>ai
def gM:FS:=bH (sIf (bTB (b2 (b8 (.ord .lt)) gQ (aO gC (aD fL aR)))) (jJ (b2 getD fL gQ) ai) jH) (jJ cV ag)
def d9:aa D->Res D:=fnS 2 2 gM
abbrev nP:bi:=top 18
noncomputable def LC:ah->ap:=λi=>ai
def LK:FS:=jJ (aM9 (b1 (WQ .int) fL) (aM8 (b1 (WQ .bool) fL))) ag
def fV:aa D->Res D:=fnS 1 1 LK
abbrev nQ:bi:=top 26
noncomputable def LQ:ah->ap:=λi=>i==4
def LR:FS:=bH (sIf (WP (bTr gB)) (jJ (b2 (b8 .isN) fL (bC .non)) ag) jH) (bH (sIf (bOr (WP (bTr (b1 (WQ .list) fL))) (bTB (b2 (b8 .ne) (aO gC (aD fL aR)) (aO gC (aD (b2 getD gQ cV) aR))))) (jJ (bC (.bl ai)) ag) jH) (bH (cF ag 4 (b2 W6 cV cV) ag) (bH (u_ (oW (aD (aO gC (aD fL aR)) aR) m_) (tg1 5) (bH (cF ai 6 (b2 getD fL fH) ai) (bH (sIf (bOr (WP (bTr (b1 (WQ .tuple) fU))) (bOr (bTB (b2 (b8 .ne) (aO gC (aD fU aR)) FJ)) (bOr (WP (bTr (aO (cD 1 fV) (aD (b2 getD fU cV) aR)))) (WP (bTr (aO (cD 1 fV) (aD (b2 getD fU eU) aR))))))) (jJ (bC (.bl ai)) ag) jH) (bH (sIf (bTB (b2 (b8 .ne) (b2 getD fU cV) (b2 getD (b2 getD (b2 getD gQ cV) fH) cV))) (jJ (bC (.bl ai)) ag) jH) (rU 4 (b2 getD fU cV) (b2 getD fU eU)))))) (jJ (b2 (b8 .eq) (aO (cD 2 bW) (aD gQ (aD d8 aR))) fD) ag))))
def dX:aa D->Res D:=fnS 4 7 LR
abbrev uE:bi:=top 1
noncomputable def XH:ah->ap:=λi=>i==1
def XJ:FS:=bH (cF ag 1 (bC (.dct [])) ag) (bH (u_ (cX (b2 getD fL eU) ai) (tgN [2,3]) (bH (rU 1 fD gB) (rU 1 gB fD))) (J7 1))
def oJ:aa D->Res D:=fnS 1 4 XJ
abbrev mG:bi:=top 12
noncomputable def HB:ah->ap:=λi=>i==2
def HD:FS:=bH (cF ai 1 (aO (cD 1 oJ) (aD fL aR)) ag) (bH (cF ag 2 (bC (.dct [])) ag) (bH (u_ (cX (b2 getD fL cV) ai) (tgN [3,4]) (aGk 5 (yS aR) (uC (aIj (bTB (b2 (b8 .isin) (dM (aD gB (aD (aO gC (aD fH aR)) aR))) gQ)) (o9 5 (b2 getD gQ (dM (aD gB (aD (aO gC (aD fH aR)) aR)))))) (yZ 5 (rU 2 gB fH))))) (J7 2)))
def iH:aa D->Res D:=fnS 1 6 HD
abbrev mH:bi:=top 14
noncomputable def Q0:ah->ap:=λi=>i==2
def Q3:FS:=bH (cF ag 2 (yS aR) ag) (bH (yX 1 (tg1 3) (aMx 2 (e_ 4 (aGj (b2 getD fL gB)) z_ (bTB (b2 (b8 .eq) (b2 getD d8 cV) cV)) (dM (aD (b2 getD d8 eU) (aD gB aR))) ai))) (bH (sIf (bTr fD) (jJ (bFz (oX (aD (b2 getD (aO (cN .lt) (aD fD aR)) eU) aR))) ag) jH) (jJ gQ ai)))
def j5:aa D->Res D:=fnS 2 4 Q3
abbrev rE:bi:=top 15
noncomputable def Q4:ah->ap:=λi=>i==4||i==5||i==6
def Q5:FS:=bH (cF ag 4 (oX (aD fD aR)) ag) (bH (cF ag 5 (aN9 cV cV fD eU) ag) (bH (cF ag 6 (yS aR) ag) (bH (cF ai 7 (b2 (b8 .notN) gB (bC .non)) ag) (bH (aIj (bTB (b2 (b8 (.ord .lt)) (aO gC (aD fU aR)) (aO gC (aD d8 aR)))) (bH (cF ai 8 (b2 getD d8 (aO gC (aD fU aR))) ai) (aGk 9 (oX (aD (b2 getD fL u5) aR)) (uC (u_ (aGj (b2 getD gQ u5)) (tgN [10,11]) (bH (sIf (bTB (b2 (b8 .oZ) fP fH)) (bH (o9 4 fP) (rU 5 fP (aO gC (aD d8 aR)))) jH) (bH (o9 9 (b2 getD fH fP)) (o9 9 tY)))) (uC (sIf (J5 (bTr jL) (bTB (b2 (b8 .ne) z7 (b2 getD (b2 getD gB cV) (aO gC (aD fU aR)))))) (bH (sIf (bTB (b2 (b8 (.ord .gt)) z7 (b2 getD (b2 getD gB cV) (aO gC (aD fU aR))))) (jJ (bC .non) ag) jH) (cF ai 7 (bC (.bl ai)) ag)) jH) (yZ 9 (o9 6 z7))))))) (K7 6 (K7 4 (jJ (dM (aD fU (aD d8 aR))) ai)))))))
def fB:aa D->Res D:=fnS 4 12 Q5
abbrev nR:bi:=top 13
noncomputable def L_:ah->ap:=λi=>ai
def MF:FS:=bH (cF ai 3 (bC .non) ag) (bH (u_ (aGj (aO (cD 2 j5) (aD gQ (aD fD aR)))) (tg1 4) (bH (cF ai 5 (aO (cD 4 fB) (aD fL (aD gQ (aD d8 (aD gB aR))))) ag) (sIf (bTB (b2 (b8 .notN) fH (bC .non))) (sAl 3 5) jH))) (jJ gB ai))
def cO:aa D->Res D:=fnS 3 6 MF
abbrev nT:bi:=top 5
noncomputable def MJ:ah->ap:=λi=>i==1
def nU:FS:=bH (aQl 1 (.dct [])) (bH (u_ (cX (b2 getD fL cV) ai) (tgN [2,3]) (aAy 1 fD)) (bH (u_ (cX (b2 getD fL eU) ai) (tgN [4,5]) (sIf (bTB (b2 (b8 .ne) (b2 getD d8 cV) cV)) (bH (QV 1 (b2 getD d8 cV) (b2 getD fH cV)) (QV 1 (b2 getD fH cV) (b2 getD d8 cV))) jH)) (J7 1)))
def kW:aa D->Res D:=fnS 1 6 nU
abbrev iI:bi:=top 6
noncomputable def sW:ah->ap:=λi=>i==2||i==3
def iJ:FS:=bH (cF ag 2 (b2 W6 gQ (bC (.bl ag))) ag) (bH (cF ag 3 (oX (aD gQ aR)) ag) (bH (aIj (bTr gB) (bH (aEi 3 4) (K6 0 d8 (tg1 5) (sIf (bTB (b2 (b8 .oZ) fH fD)) (bH (rU 2 fH (bC (.bl ag))) (o9 3 fH)) jH)))) (jJ (aO sortedK (aD fD aR)) ag)))
def cA:aa D->Res D:=fnS 2 6 iJ
abbrev Q6:bi:=top 4
noncomputable def aJ7:ah->ap:=λi=>i==2||i==3
def aJ8:FS:=bH (cF ai 1 (aO (cD 1 kW) (aD fL aR)) ag) (bH (cF ag 2 (bC (.dct [])) ag) (bH (cF ag 3 (yS aR) ag) (bH (u_ (cX (b2 getD fL cV) ai) (tgN [4,5]) (sIf (bTB (b2 (b8 .oZ) d8 fD)) (bH (cF ai 6 (bFz (aO (cD 2 cA) (aD gQ (aD d8 aR)))) ag) (bH (yX 6 (tg1 7) (rU 2 jL (bC (.bl ag)))) (o9 3 fU))) jH)) (J7 3))))
def uF:aa D->Res D:=fnS 1 8 aJ8
abbrev aB6:bi:=top 9
noncomputable def aPq:ah->ap:=λi=>i==4
def aPr:FS:=bH (cF ai 1 (b1 xP (b2 getD fL cV)) ag) (bH (cF ai 2 (aO (cD 1 iH) (aD fL aR)) ag) (bH (cF ai 3 (aO fM (aD (e_ 7 (cX (aO (cD 1 uF) (aD fL aR)) ag) z_ gR (aO (cD 3 cO) (aD gQ (aD fD (aD jL aR)))) ag) aR)) ag) (bH (cF ag 4 (yS aR) ag) (bH (Z4 3 (tgN [5,6]) (aB3 4 fU)) (jJ (aO fM (aD (e_ 7 (aAw 1 d8 ai) (yU 2) gR (dM (aD u5 (aD jL aR))) ai) aR)) ag)))))
def rF:aa D->Res D:=fnS 1 7 aPr
abbrev oK:bi:=top 2
noncomputable def XM:ah->ap:=λi=>ai
def XN:FS:=bH (cF ai 3 (e_ 4 (cX gQ ai) (yU 2) gR (dM (aD (aO (cN .lt) (aD d8 (aD fH aR))) (aD (aO (cN .gt) (aD d8 (aD fH aR))) aR))) ai) ag) (jJ (dM (aD (aO m9 (aD (aO fM (aD fL aR)) aR)) (aD (aO m9 (aD (aO fM (aD gB aR)) aR)) (aD fD aR)))) ai)
def oM:aa D->Res D:=fnS 3 4 XN
abbrev jC:bi:=top 11
noncomputable def MK:ah->ap:=λi=>i==2
def MN:FS:=bH (cF ag 2 (b1 B_ gQ) ag) (bH (rU 2 cV cV) (bH (cF ai 3 (e_ 5 (cX (b2 getD fL cV) ai) (yU 2) gR (dM (aD (b2 getD fD fH) (aD fU aR))) ai) ag) (bH (cF ai 4 (e_ 5 (cX (b2 getD fL eU) ai) (yU 2) gR (dM (aD (dM (aD (b2 getD fD (b2 getD fH cV)) (aD (b2 getD fH eU) aR))) (aD (dM (aD (b2 getD fD (b2 getD fU cV)) (aD (b2 getD fU eU) aR))) aR))) ai) ag) (jJ (aO (cD 3 oM) (aD gB (aD d8 (aD (b2 getD fL FJ) aR)))) ag))))
def cH:aa D->Res D:=fnS 2 5 MN
abbrev HF:bi:=top 10
noncomputable def aJ9:ah->ap:=λi=>i==4
def aJa:FS:=bH (cF ai 2 (aO (cD 1 rF) (aD fL aR)) ag) (bH (cF ai 3 (aO (cD 1 rF) (aD gQ aR)) ag) (bH (sIf (bTB (b2 (b8 .ne) (aO (cD 2 cH) (aD fL (aD fD aR))) (aO (cD 2 cH) (aD gQ (aD gB aR))))) (jJ (bC .non) ag) jH) (bH (cF ag 4 (bC (.dct [])) ag) (bH (Z4 3 (tgN [5,6]) (rU 4 fU fH)) (jJ (e_ 7 (cX fD ai) (yU 2) gR (dM (aD jL (aD (b2 getD d8 u5) aR))) ai) ag)))))
def mJ:aa D->Res D:=fnS 2 7 aJa
abbrev aB7:bi:=top 8
noncomputable def aNa:ah->ap:=λi=>ai
def aNb:FS:=jJ (aO (cD 2 cH) (aD fL (aD (aO (cD 1 rF) (aD fL aR)) aR))) ag
def xQ:aa D->Res D:=fnS 1 1 aNb
abbrev uG:bi:=top 25
noncomputable def XQ:ah->ap:=λi=>i==3
def XR:FS:=bH (cF ag 3 (b2 W6 cV cV) ag) (bH (u_ (oW (aD (aO gC (aD fD aR)) aR) m_) (tg1 4) (rU 3 (b2 getD (b2 getD (b2 getD fL cV) d8) cV) (b2 getD (b2 getD (b2 getD gQ cV) (b2 getD fD d8)) cV))) (J7 3))
def jQ:aa D->Res D:=fnS 3 5 XR
abbrev HH:bi:=top 27
noncomputable def o_law:ah->ap:=λi=>i==4
def aPs:FS:=bH (cF ai 1 (aO (cD 1 kO) (aD (aO (cD 2 d9) (aD fL (aD cV aR))) aR)) ag) (bH (cF ai 2 (aO (cD 3 oH) (aD gQ (aD (b2 (bY .mod) (aO (cD 2 d9) (aD fL (aD eU aR))) aG1) (aD (aDj fL (wO aDy) (wO (bC (.int 35)))) aR)))) ag) (bH (cF ai 3 (aO (cD 3 gK) (aD fD (aD gQ (aD (aO (cD 2 d9) (aD fL (aD FJ aR))) aR)))) ag) (bH (cF ag 4 (b2 W6 cV cV) ag) (bH (cF ai 5 (aO (cD 1 iG) (aD (aO gC (aD (b2 getD fD cV) aR)) aR)) ag) (bH (cF ai 6 (b2 getD fH (b2 (bY .mod) (b2 (bY .fdiv) (aO (cD 2 d9) (aD fL (aD eU aR))) aG1) (aO gC (aD fH aR)))) ai) (bH (u_ (oW (aD (aO gC (aD fU aR)) aR) m_) (tg1 7) (bH (rU 4 (b2 (bY .add) jL eU) (b2 (bY .add) eU (b2 getD fU jL))) (sIf (bTB (b2 (b8 .eq) (b2 (bY .mod) (b2 (bY .add) jL (b2 getD fU jL)) FJ) eU)) (rU 4 (b2 (bY .add) jL eU) (b2 (bY .mul) (b2 (bY .pow) Z3 (bC (.int 9))) (b2 (bY .add) eU (b2 getD fU jL)))) jH))) (bH (cF ai 3 (aO (cD 2 bW) (aD gB (aD d8 aR))) ag) (bH (cF ai 8 (bC (.bl ai)) ag) (bH (yX 5 (tg1 6) (sIf (bTB (b2 (b8 .eq) (aO (cD 2 bW) (aD fD (aD (aO (cD 3 jQ) (aD fD (aD gB (aD fU aR)))) aR))) gB)) (cF ai 8 (bC (.bl ag)) ag) jH)) (bH (sIf (WP (bTr (aO (cD 4 dX) (aD (aO (cD 2 mJ) (aD fD (aD gB aR))) (aD fD (aD gB (aD u5 aR))))))) (jJ (bC (.bl ai)) ag) jH) (bH (sIf (WP (bTr (aO (cD 4 dX) (aD (aO (cD 2 mJ) (aD gB (aD fD aR))) (aD gB (aD fD (aD u5 aR))))))) (jJ (bC (.bl ai)) ag) jH) (jJ (b2 (b8 .eq) (b2 (b8 .eq) (aO (cD 1 xQ) (aD fD aR)) (aO (cD 1 xQ) (aD gB aR))) u5) ag))))))))))))
def XS:aa D->Res D:=fnS 1 9 aPs
noncomputable abbrev uQ:aa Str:=["cell","letters","size","at","names","k","name","j","far"]
noncomputable abbrev oN:aa Str:=["names","sides","cells","pieces","loose","k","kind","hook","ties","spots","at","cell","one","other"]
noncomputable abbrev fK:aa Str:=["ties","cell","at","there","one","other","third","fourth","rest","pairs"]
noncomputable abbrev d_:aa Str:=["net","names","cell","pieces","ties","rings","way_of","at","number","name","other","ends","moved"]
noncomputable abbrev sX:aa Str:=["many","orders","k","longer","order","at"]
noncomputable abbrev gP:aa Str:=["net","new","pieces","ties","one","other"]
noncomputable abbrev qO:aa Str:=["script","k"]
noncomputable abbrev uR:aa Str:=["found"]
noncomputable abbrev uT:aa Str:=["found","one","other","due","new","k","pair"]
noncomputable abbrev CJ:aa Str:=["net","mates","one","other"]
noncomputable abbrev sY:aa Str:=["net","mates","ends","number","name","around"]
noncomputable abbrev mK:aa Str:=["ends","part","at_rim","number"]
abbrev xR:aa Str:=["names","ends","start","best","order","places","rows","level","number","row","far","hook"]
abbrev uU:aa Str:=["names","ends","part","best","start","walk"]
noncomputable abbrev uV:aa Str:=["net","beside","number","name","one","other"]
abbrev kY:aa Str:=["beside","start","reached","waiting","current","number"]
noncomputable abbrev aB8:aa Str:=["net","beside","seen","found","number","name","part","member"]
noncomputable abbrev Q7:aa Str:=["net","names","ends","walks","order","rows","numbers"]
noncomputable abbrev lO:aa Str:=["pieces","ties","rings","rows"]
noncomputable abbrev eZ:aa Str:=["net","pairs","new","pieces","ties"]
noncomputable abbrev xT:aa Str:=["one","other","one_way","other_way","back","number","place"]
noncomputable abbrev aGm:aa Str:=["net"]
noncomputable abbrev CK:aa Str:=["one","other","order","new","k"]
noncomputable abbrev aNc:aa Str:=["script","names","one","other","new","orders","order","k","due"]
theorem HJ:bZ uQ ["cell"] (aQ nO):=by refine⟨rfl,rfl,rfl,?_,rfl,?_,?_⟩<;>decide +kernel
theorem Q8:bZ oN ["names","sides","cells"] (aQ oG):=by refine⟨rfl,rfl,rfl,?_,rfl,?_,?_⟩<;>decide +kernel
theorem xU:bZ fK ["ties","cell"] (aQ gH):=by refine⟨rfl,rfl,rfl,?_,rfl,?_,?_⟩<;>decide +kernel
theorem xV:bZ d_ ["net","names","cell"] (aQ gJ):=by refine⟨rfl,rfl,rfl,?_,rfl,?_,?_⟩<;>decide +kernel
theorem zJ:bZ sX ["many"] (aQ mF):=by refine⟨rfl,rfl,rfl,?_,rfl,?_,?_⟩<;>decide +kernel
theorem xW:bZ gP ["net","new"] (aQ i_):=by refine⟨rfl,rfl,rfl,?_,rfl,?_,?_⟩<;>decide +kernel
theorem xX:bZ qO ["script","k"] (aQ lD):=by refine⟨rfl,rfl,rfl,?_,rfl,?_,?_⟩<;>decide +kernel
theorem HN:bZ uR ["found"] (aQ nP):=by refine⟨rfl,rfl,rfl,?_,rfl,?_,?_⟩<;>decide +kernel
theorem HQ:bZ uT ["found","one","other","due"] (aQ nQ):=by refine⟨rfl,rfl,rfl,?_,rfl,?_,?_⟩<;>decide +kernel
theorem Q9:bZ CJ ["net"] (aQ uE):=by refine⟨rfl,rfl,rfl,?_,rfl,?_,?_⟩<;>decide +kernel
theorem zK:bZ sY ["net"] (aQ mG):=by refine⟨rfl,rfl,rfl,?_,rfl,?_,?_⟩<;>decide +kernel
theorem MP:bZ mK ["ends","part"] (aQ mH):=by refine⟨rfl,rfl,rfl,?_,rfl,?_,?_⟩<;>decide +kernel
theorem MT:bZ xR ["names","ends","start","best"] (aQ rE):=by refine⟨rfl,rfl,rfl,?_,rfl,?_,?_⟩<;>decide +kernel
theorem HR:bZ uU ["names","ends","part"] (aQ nR):=by refine⟨rfl,rfl,rfl,?_,rfl,?_,?_⟩<;>decide +kernel
theorem HS:bZ uV ["net"] (aQ nT):=by refine⟨rfl,rfl,rfl,?_,rfl,?_,?_⟩<;>decide +kernel
theorem rG:bZ kY ["beside","start"] (aQ iI):=by refine⟨rfl,rfl,rfl,?_,rfl,?_,?_⟩<;>decide +kernel
theorem aEt:bZ aB8 ["net"] (aQ Q6):=by refine⟨rfl,rfl,rfl,?_,rfl,?_,?_⟩<;>decide +kernel
theorem aNd:bZ Q7 ["net"] (aQ aB6):=by refine⟨rfl,rfl,rfl,?_,rfl,?_,?_⟩<;>decide +kernel
theorem Q_:bZ lO ["pieces","ties","rings"] (aQ oK):=by refine⟨rfl,rfl,rfl,?_,rfl,?_,?_⟩<;>decide +kernel
theorem HW:bZ eZ ["net","pairs"] (aQ jC):=by refine⟨rfl,rfl,rfl,?_,rfl,?_,?_⟩<;>decide +kernel
theorem aEu:bZ xT ["one","other"] (aQ HF):=by refine⟨rfl,rfl,rfl,?_,rfl,?_,?_⟩<;>decide +kernel
theorem aJb:bZ aGm ["net"] (aQ aB7):=by refine⟨rfl,rfl,rfl,?_,rfl,?_,?_⟩<;>decide +kernel
theorem RB:bZ CK ["one","other","order"] (aQ uG):=by refine⟨rfl,rfl,rfl,?_,rfl,?_,?_⟩<;>decide +kernel
theorem aNe:bZ aNc ["script"] (aQ HH):=by refine⟨rfl,rfl,rfl,?_,rfl,?_,?_⟩<;>decide +kernel
section
variable [KFrag] {P:br} {w:bg} {K:Frag} {mg:Str->av aj} {base:aI} {fad:ak} {fd:eD} (hK:KFrag.K=K) (B:Bt mg)
include hK B
theorem zL(F:Fun K "_law_names" "_law_names" nO fad fd)(hm:mg "_law_names"=af (.ref fad)):cW P w K mg base 1 "_law_names" 1 kO:=by
 have sc:=HJ;have nd:=sc.nd;refine fY (ps:=["cell"]) (N:=uQ) (k:=0) F hm (F.binds λ_ _ _ _ _ _ us hl=>by obtain⟨_,rfl⟩:=Mi.l1 hl;rfl) sc K9 (by decide) (by decide) λcdv A outer s H E hr=>?_
 have hu:=vV hr;exact aF (aY (i:=1) (o:=ai) rfl sc.nd rfl (by trivial) aG5) (aF (aY (i:=2) (o:=ai) rfl sc.nd rfl (by trivial) (bV eY aK (bV jX (aA (i:=0)) aK))) (aF (aY (i:=3) (o:=ai) rfl sc.nd rfl (by trivial) (bV jX (bV jW (aA (i:=0)) aK) (aA (i:=2)))) (aF (aY (i:=4) (o:=ag) rfl sc.nd rfl (by trivial) (jV aG)) (aF (jZ cS rfl (lC (by rfl) B.range (aB aK aG)) (gU (i:=5) rfl) (aV (i:=5) sc.nd rfl (by trivial)) (aF (aY (i:=6) (o:=ai) rfl sc.nd rfl (by trivial) aG5) (aF (jZ cS rfl (lC (by rfl) B.range (aB (aA (i:=2)) aG)) (gU (i:=7) rfl) (aV (i:=7) sc.nd rfl (by trivial)) (aF (aY (i:=8) (o:=ai) rfl sc.nd rfl (by trivial) (bV jW (bV jW (aA (i:=0)) aK) (bV eY (bV aA5 (aA (i:=7)) (aA (i:=7))) aK))) (aF (jB (cY (sI hK hu) (aA (i:=7)) (aA (i:=3)) (cM _)) (aP (aY (i:=8) (o:=ai) rfl sc.nd rfl (by trivial) (bV eY (aA (i:=8)) (aA (i:=5))))) c7) (aP (aY (i:=6) (o:=ai) rfl sc.nd rfl (by trivial) (bV eY (aA (i:=6)) (bJ (aA (i:=1)) (bV jX (aA (i:=8)) aK)))))))) (aP (lJ (i:=4) rfl rfl (by trivial) (aA (i:=6))))))) (aP (xK (i:=4) rfl rfl (by trivial)))))))
theorem M3(F:Fun K "_law_net" "_law_net" oG fad fd)(hm:mg "_law_net"=af (.ref fad)):cW P w K mg base 1 "_law_net" 3 oH:=by
 have sc:=Q8;have nd:=sc.nd;refine fY (ps:=["names","sides","cells"]) (N:=oN) (k:=0) F hm (F.binds λ_ _ _ _ _ _ us hl=>by obtain⟨_,_,_,rfl⟩:=Mi.l3 hl;rfl) sc XC (by decide) (by decide) λcdv A outer s H E hr=>?_
 have hu:=vV hr
 exact aF (aY (i:=3) (o:=ag) rfl sc.nd rfl (by trivial) (jV aG)) (aF (aY (i:=4) (o:=ag) rfl sc.nd rfl (by trivial) (jV aG)) (aF (jZ cS rfl (lC (by rfl) B.range (aB (bV eY aK (bV jX (aX (eF hK) (by rfl) B.len eG (aB (aA (i:=2)) aG)) aK)) aG)) (gU (i:=5) rfl) (aV (i:=5) sc.nd rfl (by trivial)) (aF (aY (i:=6) (o:=ai) rfl sc.nd rfl (by trivial) (bV jX (bJ (bV eY (aA (i:=2)) (bV aJ4 (jV (aB aK aG)) aK)) (aA (i:=5))) aK)) (aF (lJ (i:=3) rfl rfl (by trivial) (cG (aB (bV eY (aA (i:=5)) aK) (aB (bJ (aA (i:=0)) (aA (i:=6))) aG)))) (aP (jZ cS rfl (lC (by rfl) B.range (aB (bV eY (bV eY (aA (i:=1)) aK) (bV jW (aA (i:=6)) aK)) aG)) (gU (i:=7) rfl) (aV (i:=7) sc.nd rfl (by trivial)) (aP (lJ (i:=4) rfl rfl (by trivial) (cG (aB (bV eY (aA (i:=5)) aK) (aB (aA (i:=7)) aG)))))))))) (aF (aY (i:=8) (o:=ag) rfl sc.nd rfl (by trivial) (jV aG)) (aF (aY (i:=9) (o:=ai) rfl sc.nd rfl (by trivial) aK) (aF (aY (i:=10) (o:=ai) rfl sc.nd rfl (by trivial) aK) (aF (UJ cS (cY (aEa hK hu) (aX (eF hK) (by rfl) B.len eG (aB (aA (i:=4)) aG)) aK (cM _)) (aF (aY (i:=11) (o:=ai) rfl sc.nd rfl (by trivial) (bV jW (bJ (bV eY (aA (i:=2)) (jV (aB (bV aA5 (aA (i:=10)) (aA (i:=10))) aG))) (aX (BL hK hu (by rfl)) (by rfl) B.min BX (aB (aA (i:=10)) (aB (aX (eF hK) (by rfl) B.len eG (aB (aA (i:=2)) aG)) aG)))) aK)) (aF (aY (i:=12) (o:=ai) rfl sc.nd rfl (by trivial) (bJ (aA (i:=4)) aK)) (aF (aY (i:=13) (o:=ai) rfl sc.nd rfl (by trivial) (cG (aB aK (aB (aA (i:=9)) aG)))) (aF (jB (PW.pt (KH (cY (aEa hK hu) (aX (eF hK) (by rfl) B.len eG (aB (aA (i:=4)) aG)) aK (cM _)) (wY (cY (aEa hK hu) (bV jX (aA (i:=11)) aK) aK (cM _))))) (aP (aY (i:=13) (o:=ai) rfl sc.nd rfl (by trivial) (bJ (aA (i:=4)) (bV eY aK (bV jX (bV jW (aA (i:=11)) aK) (bV KJ (aX (eF hK) (by rfl) B.len eG (aB (aA (i:=4)) aG)) aK)))))) (aP (aY (i:=9) (o:=ai) rfl sc.nd rfl (by trivial) (bV eY (aA (i:=9)) aK)))) (aF (lJ (i:=8) rfl rfl (by trivial) (cG (aB (aX (BL hK hu (by rfl)) (by rfl) B.min BX (aB (aA (i:=12)) (aB (aA (i:=13)) aG))) (aB (aX (T4 hK hu (by rfl)) (by rfl) B.max T_ (aB (aA (i:=12)) (aB (aA (i:=13)) aG))) aG)))) (aF (BW (ownN:=(["end"]:aa Str)) (show eE oN (aQ oG) _ (["end"]:aa Str) from by refine⟨rfl,?_,?_,?_,?_,?_,?_⟩<;>decide +kernel) (n:=14) (m:=1) rfl rfl rfl (jK (aA (i:=4))) (uA 14) (λ_=>aV (i:=14) (show((en (iT (["end"]:aa Str)) oN++(["end"]:aa Str)):aa Str).Nodup from by decide +kernel) rfl (by trivial)) (λ_=>PW.pt (KH (cY (wZ hK hu) (aA (i:=14)) (aA (i:=12)) (cM _)) (wY (cY (wZ hK hu) (aA (i:=14)) (aA (i:=13)) (cM _))))) (λ_=>aA (i:=14)) (λ_=>rfl) (iy:=4) (o:=ag) rfl sc.nd rfl (by trivial) (jy rfl) (by with_unfolding_all rfl)) (aP (aY (i:=10) (o:=ai) rfl sc.nd rfl (by trivial) (bV eY (aA (i:=10)) aK)))))))))) (aP (dC (cG (aB (iC kI (by rfl) B.tuple jN (aB (aA (i:=3)) aG)) (aB (iC kI (by rfl) B.tuple jN (aB (aX (gD hK hu) (by rfl) B.sorted gF (aB (aA (i:=8)) aG)) aG)) (aB aK aG))))))))))))
theorem vC(F:Fun K "_law_twisted" "_law_twisted" gH fad fd)(hm:mg "_law_twisted"=af (.ref fad)):cW P w K mg base 1 "_law_twisted" 2 fJ:=by
 have sc:=xU;have nd:=sc.nd;refine fY (ps:=["ties","cell"]) (N:=fK) (k:=0) F hm (F.binds λ_ _ _ _ _ _ us hl=>by obtain⟨_,_,rfl⟩:=Mi.l2 hl;rfl) sc y_ (by decide) (by decide) λcdv A outer s H E hr=>?_
 have hu:=vV hr;exact aF (jB (cY (aHz hK hu) (aX (eF hK) (by rfl) B.len eG (aB (aA (i:=0)) aG)) aK (cM _)) (aP (dC (aA (i:=0)))) c7) (aF (aY (i:=2) (o:=ai) rfl sc.nd rfl (by trivial) (bV jX (aA (i:=1)) (bV KJ (aX (eF hK) (by rfl) B.len eG (aB (aA (i:=0)) aG)) aK))) (aF (aY (i:=3) (o:=ai) rfl sc.nd rfl (by trivial) (bV eY (bV eY (aA (i:=2)) aK) (bV jX (bV jW (aA (i:=1)) aK) (bV KJ (bV KJ (aX (eF hK) (by rfl) B.len eG (aB (aA (i:=0)) aG)) aK) (aA (i:=2)))))) (aF (UG (bJ (aA (i:=0)) (aA (i:=2))) (jY _ (is:=[4,5]) (by decide)) (gW rfl (aZ (aV (i:=4) sc.nd rfl (by trivial)) (aZ (aV (i:=5) sc.nd rfl (by trivial)) (eX))))) (aF (UG (bJ (aA (i:=0)) (aA (i:=3))) (jY _ (is:=[6,7]) (by decide)) (gW rfl (aZ (aV (i:=6) sc.nd rfl (by trivial)) (aZ (aV (i:=7) sc.nd rfl (by trivial)) (eX))))) (aF (BW (ownN:=(["k"]:aa Str)) (show eE fK (aQ gH) _ (["k"]:aa Str) from by refine⟨rfl,?_,?_,?_,?_,?_,?_⟩<;>decide +kernel) (n:=10) (m:=1) rfl rfl rfl (lC (by rfl) B.range (aB (aX (eF hK) (by rfl) B.len eG (aB (aA (i:=0)) aG)) aG)) (uA 10) (λ_=>aV (i:=10) (show((en (iT (["k"]:aa Str)) fK++(["k"]:aa Str)):aa Str).Nodup from by decide +kernel) rfl (by trivial)) (λ_=>PW.pt (KH (cY (wZ hK hu) (aA (i:=10)) (aA (i:=2)) (cM _)) (wY (cY (wZ hK hu) (aA (i:=10)) (aA (i:=3)) (cM _))))) (λ_=>bJ (aA (i:=0)) (aA (i:=10))) (λ_=>rfl) (iy:=8) (o:=ai) rfl sc.nd rfl (by trivial) (jy rfl) (by with_unfolding_all rfl)) (aF (aY (i:=9) (o:=ai) rfl sc.nd rfl (by trivial) (rC (aB (cG (aB (aA (i:=4)) (aB (aA (i:=6)) aG))) (aB (cG (aB (aA (i:=5)) (aB (aA (i:=7)) aG))) aG)))) (aF (jB (cY (sI hK hu) (bV jX (bV jW (aA (i:=1)) aK) aK) aK (cM _)) (aP (aY (i:=9) (o:=ai) rfl sc.nd rfl (by trivial) (rC (aB (cG (aB (aA (i:=4)) (aB (aA (i:=7)) aG))) (aB (cG (aB (aA (i:=6)) (aB (aA (i:=5)) aG))) aG))))) c7) (aP (dC (iC kI (by rfl) B.tuple jN (aB (aX (gD hK hu) (by rfl) B.sorted gF (aB (bV eY (aA (i:=8)) (sO (ownN:=(["pair"]:aa Str)) (show eE fK (aQ gH) _ (["pair"]:aa Str) from by refine⟨rfl,?_,?_,?_,?_,?_,?_⟩<;>decide +kernel) (n:=10) (m:=1) rfl rfl rfl (jK (aA (i:=9))) (uA 10) (λ_=>aV (i:=10) (show((en (iT (["pair"]:aa Str)) fK++(["pair"]:aa Str)):aa Str).Nodup from by decide +kernel) rfl (by trivial)) (λ_=>cG (aB (aX (BL hK hu (by rfl)) (by rfl) B.min BX (aB (aA (i:=10)) aG)) (aB (aX (T4 hK hu (by rfl)) (by rfl) B.max T_ (aB (aA (i:=10)) aG)) aG))) (λ_=>rfl))) aG)) aG)))))))))))
theorem vD(pW:cW P w K mg base 1 "_law_twisted" 2 fJ)(F:Fun K "_law_changed" "_law_changed" gJ fad fd)(hm:mg "_law_changed"=af (.ref fad)):cW P w K mg base 2 "_law_changed" 3 gK:=by
 have sc:=xV;have nd:=sc.nd;refine fY (ps:=["net","names","cell"]) (N:=d_) (k:=1) F hm (F.binds λ_ _ _ _ _ _ us hl=>by obtain⟨_,_,_,rfl⟩:=Mi.l3 hl;rfl) sc zB (by decide) (by decide) λcdv A outer s H E hr=>?_
 have hu:=vV hr;refine aF ?_ ?_
 ·exact UG (aA (i:=0)) (jY _ (is:=[3,4,5]) (by decide)) (gW rfl (aZ (aV (i:=3) sc.nd rfl (by trivial)) (aZ (aV (i:=4) sc.nd rfl (by trivial)) (aZ (aV (i:=5) sc.nd rfl (by trivial)) (eX)))))
 refine aF ?_ ?_
 ·exact aY (i:=6) (o:=ai) rfl sc.nd rfl (by trivial) (bV jX (aA (i:=2)) aK)
 refine aF ?_ ?_
 ·exact aY (i:=7) (o:=ai) rfl sc.nd rfl (by trivial) (bV jX (bV jW (aA (i:=2)) aK) (aX (eF hK) (by rfl) B.len eG (aB (aA (i:=3)) aG)))
 refine aF ?_ ?_
 ·exact UG (bJ (aA (i:=3)) (aA (i:=7))) (jY _ (is:=[8,9]) (by decide)) (gW rfl (aZ (aV (i:=8) sc.nd rfl (by trivial)) (aZ (aV (i:=9) sc.nd rfl (by trivial)) (eX))))
 refine aF ?_ ?_
 ·exact jB (PW.pt (KH (cY (sI hK hu) (aA (i:=6)) aK (cM _)) (wY (cY (wZ hK hu) (aA (i:=9)) (bJ (aA (i:=1)) aK) (cM _))))) (aF (aY (i:=10) (o:=ai) rfl sc.nd rfl (by trivial) (bJ (aA (i:=1)) (bV KJ aK (iC aIk (by rfl) B.int aGd (aB (BK (sI hK hu) (aA (i:=9)) (bJ (aA (i:=1)) aK) (cM _)) aG))))) (aP (dC (cG (aB (bV aAm (bV aAm (aA9 hK (aA (i:=3)) (GJ) (t_ (aA (i:=7)))) (cG (aB (cG (aB (aA (i:=8)) (aB (aA (i:=10)) aG))) aG))) (aA9 hK (aA (i:=3)) (t_ (bV eY (aA (i:=7)) aK)) (GJ))) (aB (aA (i:=4)) (aB (aA (i:=5)) aG))))))) c7
 refine aF ?_ ?_
 ·exact jB (cY (sI hK hu) (aA (i:=6)) aK (cM _)) (aP (dC (cG (aB (aA (i:=3)) (aB (bD pW hr (by decide) (by rfl) (aB (aA (i:=4)) (aB (bV jW (aA (i:=2)) aK) aG))) (aB (aA (i:=5)) aG)))))) c7
 refine aF ?_ ?_
 ·refine jB ?_ ?_ ?_
  ·exact cY (sI hK hu) (aA (i:=6)) aK (cM _)
  ·refine aF ?_ ?_
   ·refine aY ?_ ?_ ?_ ?_ ?_ ?_ ?_
    ·rfl
    ·exact sc.nd
    ·rfl
    ·exact(by trivial)
    ·exact @aJ6 _ _ _ _ _ _ _ _ _ _ _ _ _ _ _ _ _ _ _ _ _ _ _ _ _ _ _ _ _ _ _ _ _ _ _ hu
    ·rfl
    ·exact .inl rfl
   ·exact aP (jB (cY (sI hK hu) (aX (eF hK) (by rfl) B.len eG (aB (BV (ownN:=(["tie"]:aa Str)) (show eE d_ (aQ gJ) _ (["tie"]:aa Str) from by refine⟨rfl,?_,?_,?_,?_,?_,?_⟩<;>decide +kernel) (n:=13) (m:=1) rfl rfl rfl (jK (aA (i:=4))) (uA 13) (λ_=>aV (i:=13) (show((en (iT (["tie"]:aa Str)) d_++(["tie"]:aa Str)):aa Str).Nodup from by decide +kernel) rfl (by trivial)) (λ_=>cY (aMk hK hu) (bJ (aA (i:=13)) aK) (aA (i:=11)) (by with_unfolding_all rfl)) (λ_=>aA (i:=13)) (λ_=>rfl)) aG)) aK (cM _)) (aF (vU (ownN:=(["one","other"]:aa Str)) (show eE d_ (aQ gJ) _ (["one","other"]:aa Str) from by refine⟨rfl,?_,?_,?_,?_,?_,?_⟩<;>decide +kernel) (n:=13) (m:=2) rfl rfl rfl (jK (aA (i:=4))) (q_ _ 13 2) (λ_=>gW rfl (aZ (aV (i:=13) (show((en (iT (["one","other"]:aa Str)) d_++(["one","other"]:aa Str)):aa Str).Nodup from by decide +kernel) rfl (by trivial)) (aZ (aV (i:=14) (show((en (iT (["one","other"]:aa Str)) d_++(["one","other"]:aa Str)):aa Str).Nodup from by decide +kernel) rfl (by trivial)) (eX)))) (λ_=>cG (aB (aPf PySem.F.plainAttrs_dict l8 PySem.F.type_dict_get (aMo hu) (aA (i:=11)) (aB (aA (i:=13)) (aB (aA (i:=13)) aG)) (λ_ _ _ _ _ h r=>aI2 h r)) (aB (aA (i:=14)) aG))) (λ_=>rfl) (iy:=12) (o:=ai) rfl sc.nd rfl (by trivial) (jy rfl) (by with_unfolding_all rfl)) (aP (dC (cG (aB (aA (i:=3)) (aB (iC kI (by rfl) B.tuple jN (aB (aX (gD hK hu) (by rfl) B.sorted gF (aB (aA (i:=12)) aG)) aG)) (aB (aA (i:=5)) aG))))))) c7)
  ·exact c7
 refine aF ?_ ?_
 ·exact jB (cY (sI hK hu) (aA (i:=6)) aK (cM _)) (aP (dC (cG (aB (aA (i:=3)) (aB (aA (i:=4)) (aB (bV eY (aA (i:=5)) aK) aG)))))) c7
 exact aP (dC (aA (i:=0)))
theorem xY(F:Fun K "_law_orders" "_law_orders" mF fad fd)(hm:mg "_law_orders"=af (.ref fad)):cW P w K mg base 1 "_law_orders" 1 iG:=by
 have sc:=zJ;have nd:=sc.nd;refine fY (ps:=["many"]) (N:=sX) (k:=0) F hm (F.binds λ_ _ _ _ _ _ us hl=>by obtain⟨_,rfl⟩:=Mi.l1 hl;rfl) sc G9 (by decide) (by decide) λcdv A outer s H E hr=>?_
 have hu:=vV hr;exact aF (aY (i:=1) (o:=ai) rfl sc.nd rfl (by trivial) (aB2 (jV (aB (aB2 (jV aG)) aG)))) (aF (jZ cS rfl (lC (by rfl) B.range (aB (aA (i:=0)) aG)) (gU (i:=2) rfl) (aV (i:=2) sc.nd rfl (by trivial)) (QZ (i:=3) rfl rfl sc.nd rfl (by trivial) (jV aG) (vZ (G7 (i:=1) hK rfl cS rfl rfl (by trivial) (gU (i:=4) rfl) (aV (i:=4) sc.nd rfl (by trivial)) (aP (jZ cS rfl (lC (by rfl) B.range (aB (bV eY (aA (i:=2)) aK) aG)) (gU (i:=5) rfl) (aV (i:=5) sc.nd rfl (by trivial)) (aP (lJ (i:=3) rfl rfl (by trivial) (aB2 (bV eY (bV eY (aA9 hK (aA (i:=4)) (GJ) (t_ (aA (i:=5)))) (rC (aB (aA (i:=2)) aG))) (aA9 hK (aA (i:=4)) (t_ (aA (i:=5))) (GJ))))))))) (QX (h2:=aP (aMq (i:=1) (j:=3) rfl rfl sc.nd rfl (by trivial) rfl (by trivial))))))) (aP (dC (aA (i:=1)))))
theorem vG(F:Fun K "_law_carried" "_law_carried" i_ fad fd)(hm:mg "_law_carried"=af (.ref fad)):cW P w K mg base 1 "_law_carried" 2 bW:=by
 have sc:=xW;have nd:=sc.nd;refine fY (ps:=["net","new"]) (N:=gP) (k:=0) F hm (F.binds λ_ _ _ _ _ _ us hl=>by obtain⟨_,_,rfl⟩:=Mi.l2 hl;rfl) sc zF (by decide) (by decide) λcdv A outer s H E hr=>?_
 have hu:=vV hr;exact aF (aY (i:=2) (o:=ai) rfl sc.nd rfl (by trivial) (aX (gD hK hu) (by rfl) B.sorted gF (aB (sO (ownN:=(["number","name"]:aa Str)) (show eE gP (aQ i_) _ (["number","name"]:aa Str) from by refine⟨rfl,?_,?_,?_,?_,?_,?_⟩<;>decide +kernel) (n:=6) (m:=2) rfl rfl rfl (jK (bJ (aA (i:=0)) aK)) (q_ _ 6 2) (λ_=>gW rfl (aZ (aV (i:=6) (show((en (iT (["number","name"]:aa Str)) gP++(["number","name"]:aa Str)):aa Str).Nodup from by decide +kernel) rfl (by trivial)) (aZ (aV (i:=7) (show((en (iT (["number","name"]:aa Str)) gP++(["number","name"]:aa Str)):aa Str).Nodup from by decide +kernel) rfl (by trivial)) (eX)))) (λ_=>cG (aB (bJ (aA (i:=1)) (aA (i:=6))) (aB (aA (i:=7)) aG))) (λ_=>rfl)) aG))) (aF (aY (i:=3) (o:=ag) rfl sc.nd rfl (by trivial) (jV aG)) (aF (jZ cS rfl (jK (bJ (aA (i:=0)) aK)) (jY _ (is:=[4,5]) (by decide)) (gW rfl (aZ (aV (i:=4) sc.nd rfl (by trivial)) (aZ (aV (i:=5) sc.nd rfl (by trivial)) (eX)))) (aF (aY (i:=4) (o:=ai) rfl sc.nd rfl (by trivial) (cG (aB (bJ (aA (i:=1)) (bJ (aA (i:=4)) aK)) (aB (bJ (aA (i:=4)) aK) aG)))) (aF (aY (i:=5) (o:=ai) rfl sc.nd rfl (by trivial) (cG (aB (bJ (aA (i:=1)) (bJ (aA (i:=5)) aK)) (aB (bJ (aA (i:=5)) aK) aG)))) (aP (lJ (i:=3) rfl rfl (by trivial) (cG (aB (aX (BL hK hu (by rfl)) (by rfl) B.min BX (aB (aA (i:=4)) (aB (aA (i:=5)) aG))) (aB (aX (T4 hK hu (by rfl)) (by rfl) B.max T_ (aB (aA (i:=4)) (aB (aA (i:=5)) aG))) aG)))))))) (aP (dC (cG (aB (iC kI (by rfl) B.tuple jN (aB (aA (i:=2)) aG)) (aB (iC kI (by rfl) B.tuple jN (aB (aX (gD hK hu) (by rfl) B.sorted gF (aB (aA (i:=3)) aG)) aG)) (aB (bJ (aA (i:=0)) aK) aG))))))))
theorem vH(F:Fun K "_law_cell_at" "_law_cell_at" lD fad fd)(hm:mg "_law_cell_at"=af (.ref fad)):cW P w K mg base 1 "_law_cell_at" 2 d9:=by
 have sc:=xX;have nd:=sc.nd;refine fY (ps:=["script","k"]) (N:=qO) (k:=0) F hm (F.binds λ_ _ _ _ _ _ us hl=>by obtain⟨_,_,rfl⟩:=Mi.l2 hl;rfl) sc zH (by decide) (by decide) λcdv A outer s H E hr=>?_
 have hu:=vV hr;exact aF (jB (cY (aHz hK hu) (aA (i:=1)) (aX (eF hK) (by rfl) B.len eG (aB (aA (i:=0)) aG)) (cM _)) (aP (dC (bJ (aA (i:=0)) (aA (i:=1))))) c7) (aP (dC aK))
theorem zM(F:Fun K "_law_whole" "_law_whole" nP fad fd)(hm:mg "_law_whole"=af (.ref fad)):cW P w K mg base 1 "_law_whole" 1 fV:=by
 have sc:=HN;have nd:=sc.nd;refine fY (ps:=["found"]) (N:=uR) (k:=0) F hm (F.binds λ_ _ _ _ _ _ us hl=>by obtain⟨_,rfl⟩:=Mi.l1 hl;rfl) sc LC (by decide) (by decide) λcdv A outer s H E hr=>?_
 have hu:=vV hr;exact aP (dC (aMg (T6 .int (aA (i:=0)) (by rfl) B.isi jM (by rfl) B.int aGd) (aMd (aMf (T6 .bool (aA (i:=0)) (by rfl) B.isi jM (by rfl) B.bool aIb)))))
theorem zN(pO:cW P w K mg base 1 "_law_whole" 1 fV)(p0:cW P w K mg base 1 "_law_carried" 2 bW)(F:Fun K "_law_found" "_law_found" nQ fad fd)(hm:mg "_law_found"=af (.ref fad)):cW P w K mg base 2 "_law_found" 4 dX:=by
 have sc:=HQ;have nd:=sc.nd;refine fY (ps:=["found","one","other","due"]) (N:=uT) (k:=1) F hm (F.binds λ_ _ _ _ _ _ us hl=>by obtain⟨_,_,_,_,rfl⟩:=Mi.l4 hl;rfl) sc LQ (by decide) (by decide) λcdv A outer s H E hr=>?_
 have hu:=vV hr;exact aF (jB (wX (p_ (aA (i:=3)))) (aP (dC (BK aMj (aA (i:=0)) BJ (cM _)))) c7) (aF (jB (PW.pt (aE9 (wX (p_ (T6 .list (aA (i:=0)) (by rfl) B.isi jM (by rfl) B.list aIa))) (aG7 (cY (wZ hK hu) (aX (eF hK) (by rfl) B.len eG (aB (aA (i:=0)) aG)) (aX (eF hK) (by rfl) B.len eG (aB (bJ (aA (i:=1)) aK) aG)) (cM _))))) (aP (dC wW)) c7) (aF (aY (i:=4) (o:=ag) rfl sc.nd rfl (by trivial) (G6 aK aK)) (aF (jZ cS rfl (lC (by rfl) B.range (aB (aX (eF hK) (by rfl) B.len eG (aB (aA (i:=0)) aG)) aG)) (gU (i:=5) rfl) (aV (i:=5) sc.nd rfl (by trivial)) (aF (aY (i:=6) (o:=ai) rfl sc.nd rfl (by trivial) (bJ (aA (i:=0)) (aA (i:=5)))) (aF (jB (PW.pt (aE9 (wX (p_ (T6 .tuple (aA (i:=6)) (by rfl) B.isi jM (by rfl) B.tuple jN))) (aE9 (cY (wZ hK hu) (aX (eF hK) (by rfl) B.len eG (aB (aA (i:=6)) aG)) aK (cM _)) (aE9 (wX (p_ (bD pO hr (by decide) (by rfl) (aB (bJ (aA (i:=6)) aK) aG)))) (aG7 (wX (p_ (bD pO hr (by decide) (by rfl) (aB (bJ (aA (i:=6)) aK) aG))))))))) (aP (dC wW)) c7) (aF (jB (cY (wZ hK hu) (bJ (aA (i:=6)) aK) (bJ (bJ (bJ (aA (i:=1)) aK) (aA (i:=5))) aK) (cM _)) (aP (dC wW)) c7) (aP (mV (i:=4) hu rfl rfl (by trivial) (bJ (aA (i:=6)) aK) (bJ (aA (i:=6)) aK))))))) (aP (dC (BK (sI hK hu) (bD p0 hr (by decide) (by rfl) (aB (aA (i:=1)) (aB (aA (i:=4)) aG))) (aA (i:=2)) (cM _)))))))
theorem M4(F:Fun K "mates_of" "mates_of" uE fad fd)(hm:mg "mates_of"=af (.ref fad)):cW P w K mg base 1 "mates_of" 1 oJ:=by
 have sc:=Q9;have nd:=sc.nd;refine fY (ps:=["net"]) (N:=CJ) (k:=0) F hm (F.binds λ_ _ _ _ _ _ us hl=>by obtain⟨_,rfl⟩:=Mi.l1 hl;rfl) sc XH (by decide) (by decide) λcdv A outer s H E hr=>?_
 have hu:=vV hr;exact aF (aY (i:=1) (o:=ag) rfl sc.nd rfl (by trivial) (vP)) (aF (jZ cS rfl (jK (bJ (aA (i:=0)) aK)) (jY _ (is:=[2,3]) (by decide)) (gW rfl (aZ (aV (i:=2) sc.nd rfl (by trivial)) (aZ (aV (i:=3) sc.nd rfl (by trivial)) (eX)))) (aF (mV (i:=1) hu rfl rfl (by trivial) (aA (i:=2)) (aA (i:=3))) (aP (mV (i:=1) hu rfl rfl (by trivial) (aA (i:=3)) (aA (i:=2)))))) (aP (xK (i:=1) rfl rfl (by trivial))))
theorem xZ(pX:cW P w K mg base 1 "mates_of" 1 oJ)(F:Fun K "ends_around" "ends_around" mG fad fd)(hm:mg "ends_around"=af (.ref fad)):cW P w K mg base 2 "ends_around" 1 iH:=by
 have sc:=zK;have nd:=sc.nd;refine fY (ps:=["net"]) (N:=sY) (k:=1) F hm (F.binds λ_ _ _ _ _ _ us hl=>by obtain⟨_,rfl⟩:=Mi.l1 hl;rfl) sc HB (by decide) (by decide) λcdv A outer s H E hr=>?_
 have hu:=vV hr;exact aF (aY (i:=1) (o:=ai) rfl sc.nd rfl (by trivial) (bD pX hr (by decide) (by rfl) (aB (aA (i:=0)) aG))) (aF (aY (i:=2) (o:=ag) rfl sc.nd rfl (by trivial) (vP)) (aF (jZ cS rfl (jK (bJ (aA (i:=0)) aK)) (jY _ (is:=[3,4]) (by decide)) (gW rfl (aZ (aV (i:=3) sc.nd rfl (by trivial)) (aZ (aV (i:=4) sc.nd rfl (by trivial)) (eX)))) (QZ (i:=5) rfl rfl sc.nd rfl (by trivial) (jV aG) (vZ (UJ cS (cY (aMk hK hu) (cG (aB (aA (i:=3)) (aB (aX (eF hK) (by rfl) B.len eG (aB (aA (i:=5)) aG)) aG))) (aA (i:=1)) (by with_unfolding_all rfl)) (aP (lJ (i:=5) rfl rfl (by trivial) (bJ (aA (i:=1)) (cG (aB (aA (i:=3)) (aB (aX (eF hK) (by rfl) B.len eG (aB (aA (i:=5)) aG)) aG))))))) (QX (h2:=aP (mV (i:=2) hu rfl rfl (by trivial) (aA (i:=3)) (aA (i:=5)))))))) (aP (xK (i:=2) rfl rfl (by trivial)))))
theorem HX(F:Fun K "starts_of" "starts_of" mH fad fd)(hm:mg "starts_of"=af (.ref fad)):cW P w K mg base 1 "starts_of" 2 j5:=by
 have sc:=MP;have nd:=sc.nd;refine fY (ps:=["ends","part"]) (N:=mK) (k:=0) F hm (F.binds λ_ _ _ _ _ _ us hl=>by obtain⟨_,_,rfl⟩:=Mi.l2 hl;rfl) sc Q0 (by decide) (by decide) λcdv A outer s H E hr=>?_
 have hu:=vV hr;exact aF (aY (i:=2) (o:=ag) rfl sc.nd rfl (by trivial) (jV aG)) (aF (G7 (i:=1) hK rfl cS rfl rfl (by trivial) (gU (i:=3) rfl) (aV (i:=3) sc.nd rfl (by trivial)) (aP (aMz (i:=2) rfl rfl (by trivial) (BV (ownN:=(["far"]:aa Str)) (show eE mK (aQ mH) _ (["far"]:aa Str) from by refine⟨rfl,?_,?_,?_,?_,?_,?_⟩<;>decide +kernel) (n:=4) (m:=1) rfl rfl rfl (aB4 hK (bJ (aA (i:=0)) (aA (i:=3)))) (uA 4) (λ_=>aV (i:=4) (show((en (iT (["far"]:aa Str)) mK++(["far"]:aa Str)):aa Str).Nodup from by decide +kernel) rfl (by trivial)) (λ_=>cY (sI hK hu) (bJ (aA (i:=4)) aK) aK (cM _)) (λ_=>cG (aB (bJ (aA (i:=4)) aK) (aB (aA (i:=3)) aG))) (λ_=>rfl))))) (aF (jB (p_ (aA (i:=2))) (aP (dC (aB2 (rC (aB (bJ (aX (BL hK hu (by rfl)) (by rfl) B.min BX (aB (aA (i:=2)) aG)) aK) aG))))) c7) (aP (dC (aA (i:=1))))))
theorem HY(F:Fun K "walk_from" "walk_from" rE fad fd)(hm:mg "walk_from"=af (.ref fad)):cW P w K mg base 1 "walk_from" 4 fB:=by
 have sc:=MT;have nd:=sc.nd;refine fY (ps:=["names","ends","start","best"]) (N:=xR) (k:=0) F hm (F.binds λ_ _ _ _ _ _ us hl=>by obtain⟨_,_,_,_,rfl⟩:=Mi.l4 hl;rfl) sc Q4 (by decide) (by decide) λcdv A outer s H E hr=>?_
 have hu:=vV hr;exact aF (aY (i:=4) (o:=ag) rfl sc.nd rfl (by trivial) (rC (aB (aA (i:=2)) aG))) (aF (aY (i:=5) (o:=ag) rfl sc.nd rfl (by trivial) (aJ3 aK aK (aA (i:=2)) aK)) (aF (aY (i:=6) (o:=ag) rfl sc.nd rfl (by trivial) (jV aG)) (aF (aY (i:=7) (o:=ai) rfl sc.nd rfl (by trivial) (BK aA6 (aA (i:=3)) BJ (cM _))) (aF (UJ cS (cY (aHz hK hu) (aX (eF hK) (by rfl) B.len eG (aB (aA (i:=6)) aG)) (aX (eF hK) (by rfl) B.len eG (aB (aA (i:=4)) aG)) (cM _)) (aF (aY (i:=8) (o:=ai) rfl sc.nd rfl (by trivial) (bJ (aA (i:=4)) (aX (eF hK) (by rfl) B.len eG (aB (aA (i:=6)) aG)))) (QZ (i:=9) rfl rfl sc.nd rfl (by trivial) (rC (aB (bJ (aA (i:=0)) (aA (i:=8))) aG)) (vZ (jZ cS rfl (aB4 hK (bJ (aA (i:=1)) (aA (i:=8)))) (jY _ (is:=[10,11]) (by decide)) (gW rfl (aZ (aV (i:=10) sc.nd rfl (by trivial)) (aZ (aV (i:=11) sc.nd rfl (by trivial)) (eX)))) (aF (jB (cY (GF hK hu) (aA (i:=10)) (aA (i:=5)) (by with_unfolding_all rfl)) (aF (lJ (i:=4) rfl rfl (by trivial) (aA (i:=10))) (aP (mV (i:=5) hu rfl rfl (by trivial) (aA (i:=10)) (aX (eF hK) (by rfl) B.len eG (aB (aA (i:=4)) aG))))) c7) (aF (lJ (i:=9) rfl rfl (by trivial) (bJ (aA (i:=5)) (aA (i:=10)))) (aP (lJ (i:=9) rfl rfl (by trivial) (aA (i:=11))))))) (vZ (jB (PW.pt (KH (p_ (aA (i:=7))) (wY (cY (wZ hK hu) (aA (i:=9)) (bJ (bJ (aA (i:=3)) aK) (aX (eF hK) (by rfl) B.len eG (aB (aA (i:=6)) aG))) (cM _))))) (aF (jB (cY (aEa hK hu) (aA (i:=9)) (bJ (bJ (aA (i:=3)) aK) (aX (eF hK) (by rfl) B.len eG (aB (aA (i:=6)) aG))) (cM _)) (aP (dC BJ)) c7) (aP (aY (i:=7) (o:=ai) rfl sc.nd rfl (by trivial) wW))) c7) (QX (h2:=aP (lJ (i:=6) rfl rfl (by trivial) (aA (i:=9)))))))))) (U0 (i:=6) rfl (U0 (i:=4) rfl (aP (dC (cG (aB (aA (i:=6)) (aB (aA (i:=4)) aG)))))))))))
theorem zP(pY:cW P w K mg base 1 "walk_from" 4 fB)(pZ:cW P w K mg base 1 "starts_of" 2 j5)(F:Fun K "first_walk" "first_walk" nR fad fd)(hm:mg "first_walk"=af (.ref fad)):cW P w K mg base 2 "first_walk" 3 cO:=by
 have sc:=HR;have nd:=sc.nd;refine fY (ps:=["names","ends","part"]) (N:=uU) (k:=1) F hm (F.binds λ_ _ _ _ _ _ us hl=>by obtain⟨_,_,_,rfl⟩:=Mi.l3 hl;rfl) sc L_ (by decide) (by decide) λcdv A outer s H E hr=>?_
 have hu:=vV hr;exact aF (aY (i:=3) (o:=ai) rfl sc.nd rfl (by trivial) BJ) (aF (jZ cS rfl (aB4 hK (bD pZ hr (by decide) (by rfl) (aB (aA (i:=1)) (aB (aA (i:=2)) aG)))) (gU (i:=4) rfl) (aV (i:=4) sc.nd rfl (by trivial)) (aF (aY (i:=5) (o:=ai) rfl sc.nd rfl (by trivial) (bD pY hr (by decide) (by rfl) (aB (aA (i:=0)) (aB (aA (i:=1)) (aB (aA (i:=4)) (aB (aA (i:=3)) aG)))))) (aP (jB (cY aA6 (aA (i:=5)) BJ (cM _)) (aP (aMq (i:=3) (j:=5) rfl rfl sc.nd rfl (by trivial) rfl (by trivial))) c7)))) (aP (dC (aA (i:=3)))))
theorem zQ(F:Fun K "neighbours" "neighbours" nT fad fd)(hm:mg "neighbours"=af (.ref fad)):cW P w K mg base 1 "neighbours" 1 kW:=by
 have sc:=HS;have nd:=sc.nd;refine aIq (ps:=["net"]) (N:=uV) (k:=0) F hm (F.binds λ_ _ _ _ _ _ us hl=>by obtain⟨_,rfl⟩:=Mi.l1 hl;rfl) sc MJ (by decide) (by decide) λcdv A outer s H E hr=>?_
 have hu:=vV hr;exact vX (aIw (i:=1) rfl sc.nd rfl (by trivial)) (vX (aGe cS rfl (jK (bJ (aA (i:=0)) aK)) (aAt _ (is:=[2,3]) (by decide)) (gW rfl (aZ (aV (i:=2) sc.nd rfl (by trivial)) (aZ (aV (i:=3) sc.nd rfl (by trivial)) (eX)))) (G5 (aIx (i:=1) hu rfl rfl (by trivial) (aA (i:=2))))) (vX (aGe cS rfl (jK (bJ (aA (i:=0)) aK)) (aAt _ (is:=[4,5]) (by decide)) (gW rfl (aZ (aV (i:=4) sc.nd rfl (by trivial)) (aZ (aV (i:=5) sc.nd rfl (by trivial)) (eX)))) (G5 (aPi (cY (wZ hK hu) (bJ (aA (i:=4)) aK) aK (cM _)) (vX (aAs (i:=1) hu rfl rfl (by trivial) (bJ (aA (i:=4)) aK) (bJ (aA (i:=5)) aK)) (G5 (aAs (i:=1) hu rfl rfl (by trivial) (bJ (aA (i:=5)) aK) (bJ (aA (i:=4)) aK)))) (aIp)))) (G5 (aIs (i:=1) rfl rfl (by trivial)))))
theorem oY(F:Fun K "hanging_together" "hanging_together" iI fad fd)(hm:mg "hanging_together"=af (.ref fad)):cW P w K mg base 1 "hanging_together" 2 cA:=by
 have sc:=rG;have nd:=sc.nd;refine fY (ps:=["beside","start"]) (N:=kY) (k:=0) F hm (F.binds λ_ _ _ _ _ _ us hl=>by obtain⟨_,_,rfl⟩:=Mi.l2 hl;rfl) sc sW (by decide) (by decide) λcdv A outer s H E hr=>?_
 have hu:=vV hr;exact aF (aY (i:=2) (o:=ag) rfl sc.nd rfl (by trivial) (G6 (aA (i:=1)) wW)) (aF (aY (i:=3) (o:=ag) rfl sc.nd rfl (by trivial) (rC (aB (aA (i:=1)) aG))) (aF (UJ cS (p_ (aA (i:=3))) (aF (aIl (i:=3) (j:=4) rfl rfl (by trivial) sc.nd rfl (by trivial) rfl) (aP (aEp (i:=0) hu rfl cS rfl rfl (by trivial) (aA (i:=4)) (gU (i:=5) rfl) (aV (i:=5) sc.nd rfl (by trivial)) (aP (jB (cY (GF hK hu) (aA (i:=5)) (aA (i:=2)) (by with_unfolding_all rfl)) (aF (mV (i:=2) hu rfl rfl (by trivial) (aA (i:=5)) wW) (aP (lJ (i:=3) rfl rfl (by trivial) (aA (i:=5))))) c7)))))) (aP (dC (aX (W8 hK (by rfl) hu) (by rfl) B.sorted gF (aB (aA (i:=2)) aG))))))
theorem aB9(qa:cW P w K mg base 1 "neighbours" 1 kW)(qc:cW P w K mg base 1 "hanging_together" 2 cA)(F:Fun K "parts" "parts" Q6 fad fd)(hm:mg "parts"=af (.ref fad)):cW P w K mg base 2 "parts" 1 uF:=by
 have sc:=aEt;have nd:=sc.nd;refine fY (ps:=["net"]) (N:=aB8) (k:=1) F hm (F.binds λ_ _ _ _ _ _ us hl=>by obtain⟨_,rfl⟩:=Mi.l1 hl;rfl) sc aJ7 (by decide) (by decide) λcdv A outer s H E hr=>?_
 have hu:=vV hr;exact aF (aY (i:=1) (o:=ai) rfl sc.nd rfl (by trivial) (bD qa hr (by decide) (by rfl) (aB (aA (i:=0)) aG))) (aF (aY (i:=2) (o:=ag) rfl sc.nd rfl (by trivial) (vP)) (aF (aY (i:=3) (o:=ag) rfl sc.nd rfl (by trivial) (jV aG)) (aF (jZ cS rfl (jK (bJ (aA (i:=0)) aK)) (jY _ (is:=[4,5]) (by decide)) (gW rfl (aZ (aV (i:=4) sc.nd rfl (by trivial)) (aZ (aV (i:=5) sc.nd rfl (by trivial)) (eX)))) (aP (jB (cY (GF hK hu) (aA (i:=4)) (aA (i:=2)) (by with_unfolding_all rfl)) (aF (aY (i:=6) (o:=ai) rfl sc.nd rfl (by trivial) (aB2 (bD qc hr (by decide) (by rfl) (aB (aA (i:=1)) (aB (aA (i:=4)) aG))))) (aF (G7 (i:=6) hK rfl cS rfl rfl (by trivial) (gU (i:=7) rfl) (aV (i:=7) sc.nd rfl (by trivial)) (aP (mV (i:=2) hu rfl rfl (by trivial) (aA (i:=7)) wW))) (aP (lJ (i:=3) rfl rfl (by trivial) (aA (i:=6)))))) c7))) (aP (xK (i:=3) rfl rfl (by trivial))))))
theorem aJc(qe:cW P w K mg base 2 "ends_around" 1 iH)(qf:cW P w K mg base 2 "parts" 1 uF)(qg:cW P w K mg base 2 "first_walk" 3 cO)(F:Fun K "way" "way" aB6 fad fd)(hm:mg "way"=af (.ref fad)):cW P w K mg base 3 "way" 1 rF:=by
 have sc:=aNd;have nd:=sc.nd;refine fY (ps:=["net"]) (N:=Q7) (k:=2) F hm (F.binds λ_ _ _ _ _ _ us hl=>by obtain⟨_,rfl⟩:=Mi.l1 hl;rfl) sc aPq (by decide) (by decide) λcdv A outer s H E hr=>?_
 have hu:=vV hr;exact aF (aY (i:=1) (o:=ai) rfl sc.nd rfl (by trivial) (W_ (by rfl) (by rfl) B.dict (bJ (aA (i:=0)) aK))) (aF (aY (i:=2) (o:=ai) rfl sc.nd rfl (by trivial) (bD qe hr (by decide) (by rfl) (aB (aA (i:=0)) aG))) (aF (aY (i:=3) (o:=ai) rfl sc.nd rfl (by trivial) (aX (gD hK hu) (by rfl) B.sorted gF (aB (sO (ownN:=(["part"]:aa Str)) (show eE Q7 (aQ aB6) _ (["part"]:aa Str) from by refine⟨rfl,?_,?_,?_,?_,?_,?_⟩<;>decide +kernel) (n:=7) (m:=1) rfl rfl rfl (jK (bD qf hr (by decide) (by rfl) (aB (aA (i:=0)) aG))) (uA 7) (λ_=>aV (i:=7) (show((en (iT (["part"]:aa Str)) Q7++(["part"]:aa Str)):aa Str).Nodup from by decide +kernel) rfl (by trivial)) (λ_=>bD qg hr (by decide) (by rfl) (aB (aA (i:=1)) (aB (aA (i:=2)) (aB (aA (i:=7)) aG)))) (λ_=>rfl)) aG))) (aF (aY (i:=4) (o:=ag) rfl sc.nd rfl (by trivial) (jV aG)) (aF (aAh (i:=3) rfl cS rfl rfl (by trivial) (jY _ (is:=[5,6]) (by decide)) (gW rfl (aZ (aV (i:=5) sc.nd rfl (by trivial)) (aZ (aV (i:=6) sc.nd rfl (by trivial)) (eX)))) (aP (aJ2 (i:=4) hK rfl rfl (by trivial) (aA (i:=6))))) (aP (dC (aX (gD hK hu) (by rfl) B.sorted gF (aB (sO (ownN:=(["place","number"]:aa Str)) (show eE Q7 (aQ aB6) _ (["place","number"]:aa Str) from by refine⟨rfl,?_,?_,?_,?_,?_,?_⟩<;>decide +kernel) (n:=7) (m:=2) rfl rfl rfl (aEo (by rfl) B.enum (aB (aA (i:=4)) aG)) (q_ _ 7 2) (λ_=>gW rfl (aZ (aV (i:=7) (show((en (iT (["place","number"]:aa Str)) Q7++(["place","number"]:aa Str)):aa Str).Nodup from by decide +kernel) rfl (by trivial)) (aZ (aV (i:=8) (show((en (iT (["place","number"]:aa Str)) Q7++(["place","number"]:aa Str)):aa Str).Nodup from by decide +kernel) rfl (by trivial)) (eX)))) (λ_=>cG (aB (aA (i:=8)) (aB (aA (i:=7)) aG))) (λ_=>rfl)) aG))))))))
theorem M5(F:Fun K "arranged" "arranged" oK fad fd)(hm:mg "arranged"=af (.ref fad)):cW P w K mg base 1 "arranged" 3 oM:=by
 have sc:=Q_;have nd:=sc.nd;refine fY (ps:=["pieces","ties","rings"]) (N:=lO) (k:=0) F hm (F.binds λ_ _ _ _ _ _ us hl=>by obtain⟨_,_,_,rfl⟩:=Mi.l3 hl;rfl) sc XM (by decide) (by decide) λcdv A outer s H E hr=>?_
 have hu:=vV hr;exact aF (vU (ownN:=(["one","other"]:aa Str)) (show eE lO (aQ oK) _ (["one","other"]:aa Str) from by refine⟨rfl,?_,?_,?_,?_,?_,?_⟩<;>decide +kernel) (n:=4) (m:=2) rfl rfl rfl (jK (aA (i:=1))) (q_ _ 4 2) (λ_=>gW rfl (aZ (aV (i:=4) (show((en (iT (["one","other"]:aa Str)) lO++(["one","other"]:aa Str)):aa Str).Nodup from by decide +kernel) rfl (by trivial)) (aZ (aV (i:=5) (show((en (iT (["one","other"]:aa Str)) lO++(["one","other"]:aa Str)):aa Str).Nodup from by decide +kernel) rfl (by trivial)) (eX)))) (λ_=>cG (aB (aX (BL hK hu (by rfl)) (by rfl) B.min BX (aB (aA (i:=4)) (aB (aA (i:=5)) aG))) (aB (aX (T4 hK hu (by rfl)) (by rfl) B.max T_ (aB (aA (i:=4)) (aB (aA (i:=5)) aG))) aG))) (λ_=>rfl) (iy:=3) (o:=ai) rfl sc.nd rfl (by trivial) (jy rfl) (by with_unfolding_all rfl)) (aP (dC (cG (aB (iC kI (by rfl) B.tuple jN (aB (aX (gD hK hu) (by rfl) B.sorted gF (aB (aA (i:=0)) aG)) aG)) (aB (iC kI (by rfl) B.tuple jN (aB (aX (gD hK hu) (by rfl) B.sorted gF (aB (aA (i:=3)) aG)) aG)) (aB (aA (i:=2)) aG))))))
theorem zR(qh:cW P w K mg base 1 "arranged" 3 oM)(F:Fun K "renumbered" "renumbered" jC fad fd)(hm:mg "renumbered"=af (.ref fad)):cW P w K mg base 2 "renumbered" 2 cH:=by
 have sc:=HW;have nd:=sc.nd;refine fY (ps:=["net","pairs"]) (N:=eZ) (k:=1) F hm (F.binds λ_ _ _ _ _ _ us hl=>by obtain⟨_,_,rfl⟩:=Mi.l2 hl;rfl) sc MK (by decide) (by decide) λcdv A outer s H E hr=>?_
 have hu:=vV hr;exact aF (aY (i:=2) (o:=ag) rfl sc.nd rfl (by trivial) (aB1 (by rfl) (by rfl) B.dict (aA (i:=1)))) (aF (mV (i:=2) hu rfl rfl (by trivial) aK aK) (aF (vU (ownN:=(["number","name"]:aa Str)) (show eE eZ (aQ jC) _ (["number","name"]:aa Str) from by refine⟨rfl,?_,?_,?_,?_,?_,?_⟩<;>decide +kernel) (n:=5) (m:=2) rfl rfl rfl (jK (bJ (aA (i:=0)) aK)) (q_ _ 5 2) (λ_=>gW rfl (aZ (aV (i:=5) (show((en (iT (["number","name"]:aa Str)) eZ++(["number","name"]:aa Str)):aa Str).Nodup from by decide +kernel) rfl (by trivial)) (aZ (aV (i:=6) (show((en (iT (["number","name"]:aa Str)) eZ++(["number","name"]:aa Str)):aa Str).Nodup from by decide +kernel) rfl (by trivial)) (eX)))) (λ_=>cG (aB (bJ (aA (i:=2)) (aA (i:=5))) (aB (aA (i:=6)) aG))) (λ_=>rfl) (iy:=3) (o:=ai) rfl sc.nd rfl (by trivial) (jy rfl) (by with_unfolding_all rfl)) (aF (vU (ownN:=(["one","other"]:aa Str)) (show eE eZ (aQ jC) _ (["one","other"]:aa Str) from by refine⟨rfl,?_,?_,?_,?_,?_,?_⟩<;>decide +kernel) (n:=5) (m:=2) rfl rfl rfl (jK (bJ (aA (i:=0)) aK)) (q_ _ 5 2) (λ_=>gW rfl (aZ (aV (i:=5) (show((en (iT (["one","other"]:aa Str)) eZ++(["one","other"]:aa Str)):aa Str).Nodup from by decide +kernel) rfl (by trivial)) (aZ (aV (i:=6) (show((en (iT (["one","other"]:aa Str)) eZ++(["one","other"]:aa Str)):aa Str).Nodup from by decide +kernel) rfl (by trivial)) (eX)))) (λ_=>cG (aB (cG (aB (bJ (aA (i:=2)) (bJ (aA (i:=5)) aK)) (aB (bJ (aA (i:=5)) aK) aG))) (aB (cG (aB (bJ (aA (i:=2)) (bJ (aA (i:=6)) aK)) (aB (bJ (aA (i:=6)) aK) aG))) aG))) (λ_=>rfl) (iy:=4) (o:=ai) rfl sc.nd rfl (by trivial) (jy rfl) (by with_unfolding_all rfl)) (aP (dC (bD qh hr (by decide) (by rfl) (aB (aA (i:=3)) (aB (aA (i:=4)) (aB (bJ (aA (i:=0)) aK) aG)))))))))
theorem aBa(pb:cW P w K mg base 3 "way" 1 rF)(pf:cW P w K mg base 2 "renumbered" 2 cH)(F:Fun K "alike" "alike" HF fad fd)(hm:mg "alike"=af (.ref fad)):cW P w K mg base 4 "alike" 2 mJ:=by
 have sc:=aEu;have nd:=sc.nd;refine fY (ps:=["one","other"]) (N:=xT) (k:=3) F hm (F.binds λ_ _ _ _ _ _ us hl=>by obtain⟨_,_,rfl⟩:=Mi.l2 hl;rfl) sc aJ9 (by decide) (by decide) λcdv A outer s H E hr=>?_
 have hu:=vV hr;exact aF (aY (i:=2) (o:=ai) rfl sc.nd rfl (by trivial) (bD pb hr (by decide) (by rfl) (aB (aA (i:=0)) aG))) (aF (aY (i:=3) (o:=ai) rfl sc.nd rfl (by trivial) (bD pb hr (by decide) (by rfl) (aB (aA (i:=1)) aG))) (aF (jB (cY (wZ hK hu) (bD pf hr (by decide) (by rfl) (aB (aA (i:=0)) (aB (aA (i:=2)) aG))) (bD pf hr (by decide) (by rfl) (aB (aA (i:=1)) (aB (aA (i:=3)) aG))) (cM _)) (aP (dC BJ)) c7) (aF (aY (i:=4) (o:=ag) rfl sc.nd rfl (by trivial) (vP)) (aF (aAh (i:=3) rfl cS rfl rfl (by trivial) (jY _ (is:=[5,6]) (by decide)) (gW rfl (aZ (aV (i:=5) sc.nd rfl (by trivial)) (aZ (aV (i:=6) sc.nd rfl (by trivial)) (eX)))) (aP (mV (i:=4) hu rfl rfl (by trivial) (aA (i:=6)) (aA (i:=5))))) (aP (dC (sO (ownN:=(["number","place"]:aa Str)) (show eE xT (aQ HF) _ (["number","place"]:aa Str) from by refine⟨rfl,?_,?_,?_,?_,?_,?_⟩<;>decide +kernel) (n:=7) (m:=2) rfl rfl rfl (jK (aA (i:=2))) (q_ _ 7 2) (λ_=>gW rfl (aZ (aV (i:=7) (show((en (iT (["number","place"]:aa Str)) xT++(["number","place"]:aa Str)):aa Str).Nodup from by decide +kernel) rfl (by trivial)) (aZ (aV (i:=8) (show((en (iT (["number","place"]:aa Str)) xT++(["number","place"]:aa Str)):aa Str).Nodup from by decide +kernel) rfl (by trivial)) (eX)))) (λ_=>cG (aB (aA (i:=7)) (aB (bJ (aA (i:=4)) (aA (i:=8))) aG))) (λ_=>rfl))))))))
theorem aEv(pb:cW P w K mg base 3 "way" 1 rF)(pf:cW P w K mg base 2 "renumbered" 2 cH)(F:Fun K "told" "told" aB7 fad fd)(hm:mg "told"=af (.ref fad)):cW P w K mg base 4 "told" 1 xQ:=by
 have sc:=aJb;have nd:=sc.nd;refine fY (ps:=["net"]) (N:=aGm) (k:=3) F hm (F.binds λ_ _ _ _ _ _ us hl=>by obtain⟨_,rfl⟩:=Mi.l1 hl;rfl) sc aNa (by decide) (by decide) λcdv A outer s H E hr=>?_
 have hu:=vV hr;exact aP (dC (bD pf hr (by decide) (by rfl) (aB (aA (i:=0)) (aB (bD pb hr (by decide) (by rfl) (aB (aA (i:=0)) aG)) aG))))
theorem M6(F:Fun K "_law_new" "_law_new" uG fad fd)(hm:mg "_law_new"=af (.ref fad)):cW P w K mg base 1 "_law_new" 3 jQ:=by
 have sc:=RB;have nd:=sc.nd;refine fY (ps:=["one","other","order"]) (N:=CK) (k:=0) F hm (F.binds λ_ _ _ _ _ _ us hl=>by obtain⟨_,_,_,rfl⟩:=Mi.l3 hl;rfl) sc XQ (by decide) (by decide) λcdv A outer s H E hr=>?_
 have hu:=vV hr;exact aF (aY (i:=3) (o:=ag) rfl sc.nd rfl (by trivial) (G6 aK aK)) (aF (jZ cS rfl (lC (by rfl) B.range (aB (aX (eF hK) (by rfl) B.len eG (aB (aA (i:=2)) aG)) aG)) (gU (i:=4) rfl) (aV (i:=4) sc.nd rfl (by trivial)) (aP (mV (i:=3) hu rfl rfl (by trivial) (bJ (bJ (bJ (aA (i:=0)) aK) (aA (i:=4))) aK) (bJ (bJ (bJ (aA (i:=1)) aK) (bJ (aA (i:=2)) (aA (i:=4)))) aK)))) (aP (xK (i:=3) rfl rfl (by trivial))))
theorem aNf(pg:cW P w K mg base 1 "_law_cell_at" 2 d9)(qi:cW P w K mg base 1 "_law_names" 1 kO)(qj:cW P w K mg base 1 "_law_net" 3 oH)(qk:cW P w K mg base 2 "_law_changed" 3 gK)(qo:cW P w K mg base 1 "_law_orders" 1 iG)(p0:cW P w K mg base 1 "_law_carried" 2 bW)(qr:cW P w K mg base 1 "_law_new" 3 jQ)(pP:cW P w K mg base 4 "alike" 2 mJ)(pQ:cW P w K mg base 2 "_law_found" 4 dX)(pR:cW P w K mg base 4 "told" 1 xQ)(F:Fun K "law" "law" HH fad fd):WF P w K mg base CX0 5 fad fd ["script"] (spD XS 1):=by
 have sc:=aNe;have nd:=sc.nd;refine aMs (ps:=["script"]) (N:=aNc) (k:=4) F sc o_law (by decide) (by decide) λcdv A outer s H E hr=>?_
 have hu:=vV hr
 exact aF (aY (i:=1) (o:=ai) rfl sc.nd rfl (by trivial) (bD qi hr (by decide) (by rfl) (aB (bD pg hr (by decide) (by rfl) (aB (aA (i:=0)) (aB aK aG))) aG))) (aF (aY (i:=2) (o:=ai) rfl sc.nd rfl (by trivial) (bD qj hr (by decide) (by rfl) (aB (aA (i:=1)) (aB (bV jX (bD pg hr (by decide) (by rfl) (aB (aA (i:=0)) (aB aK aG))) aK) (aB (aA9 hK (aA (i:=0)) (t_ aK) (t_ aK)) aG))))) (aF (aY (i:=3) (o:=ai) rfl sc.nd rfl (by trivial) (bD qk hr (by decide) (by rfl) (aB (aA (i:=2)) (aB (aA (i:=1)) (aB (bD pg hr (by decide) (by rfl) (aB (aA (i:=0)) (aB aK aG))) aG))))) (aF (aY (i:=4) (o:=ag) rfl sc.nd rfl (by trivial) (G6 aK aK)) (aF (aY (i:=5) (o:=ai) rfl sc.nd rfl (by trivial) (bD qo hr (by decide) (by rfl) (aB (aX (eF hK) (by rfl) B.len eG (aB (bJ (aA (i:=2)) aK) aG)) aG))) (aF (aY (i:=6) (o:=ai) rfl sc.nd rfl (by trivial) (bJ (aA (i:=5)) (bV jX (bV jW (bD pg hr (by decide) (by rfl) (aB (aA (i:=0)) (aB aK aG))) aK) (aX (eF hK) (by rfl) B.len eG (aB (aA (i:=5)) aG))))) (aF (jZ cS rfl (lC (by rfl) B.range (aB (aX (eF hK) (by rfl) B.len eG (aB (aA (i:=6)) aG)) aG)) (gU (i:=7) rfl) (aV (i:=7) sc.nd rfl (by trivial)) (aF (mV (i:=4) hu rfl rfl (by trivial) (bV eY (aA (i:=7)) aK) (bV eY aK (bJ (aA (i:=6)) (aA (i:=7))))) (aP (jB (cY (sI hK hu) (bV jX (bV eY (aA (i:=7)) (bJ (aA (i:=6)) (aA (i:=7)))) aK) aK (cM _)) (aP (mV (i:=4) hu rfl rfl (by trivial) (bV eY (aA (i:=7)) aK) (bV aA5 (bV aMi aK aK) (bV eY aK (bJ (aA (i:=6)) (aA (i:=7))))))) c7)))) (aF (aY (i:=3) (o:=ai) rfl sc.nd rfl (by trivial) (bD p0 hr (by decide) (by rfl) (aB (aA (i:=3)) (aB (aA (i:=4)) aG)))) (aF (aY (i:=8) (o:=ai) rfl sc.nd rfl (by trivial) wW) (aF (G7 (i:=5) hK rfl cS rfl rfl (by trivial) (gU (i:=6) rfl) (aV (i:=6) sc.nd rfl (by trivial)) (aP (jB (cY (sI hK hu) (bD p0 hr (by decide) (by rfl) (aB (aA (i:=2)) (aB (bD qr hr (by decide) (by rfl) (aB (aA (i:=2)) (aB (aA (i:=3)) (aB (aA (i:=6)) aG)))) aG))) (aA (i:=3)) (cM _)) (aP (aY (i:=8) (o:=ai) rfl sc.nd rfl (by trivial) wW)) c7))) (aF (jB (wX (p_ (bD pQ hr (by decide) (by rfl) (aB (bD pP hr (by decide) (by rfl) (aB (aA (i:=2)) (aB (aA (i:=3)) aG))) (aB (aA (i:=2)) (aB (aA (i:=3)) (aB (aA (i:=8)) aG))))))) (aP (dC wW)) c7) (aF (jB (wX (p_ (bD pQ hr (by decide) (by rfl) (aB (bD pP hr (by decide) (by rfl) (aB (aA (i:=3)) (aB (aA (i:=2)) aG))) (aB (aA (i:=3)) (aB (aA (i:=2)) (aB (aA (i:=8)) aG))))))) (aP (dC wW)) c7) (aP (dC (BK (sI hK hu) (BK (sI hK hu) (bD pR hr (by decide) (by rfl) (aB (aA (i:=2)) aG)) (bD pR hr (by decide) (by rfl) (aB (aA (i:=3)) aG)) (cM _)) (aA (i:=8)) (cM _)))))))))))))))
end
def AtN(K:Frag)(n:Str)(st:bi):Prop:=∃(f:ak)(fd:eD),nsIn K ck n=af (af (.ref f))/\Fun K n n st f fd
theorem aPt{K:Frag}{n:Str}{st:bi}{f:ak}{oc kV dc pm cd ct:aj}{od an:av ak}{sl:aE (av aj)}(a:nsIn K ck n=af (af (.ref f)))(l:K.lookup f=af ⟨oc,od,.func (fnOf n n (qU st) (jG st) (aQ st) .none kV dc pm an cd ct),sl⟩)(c:codeIn K cd n=ag)(k:keepIn K (.ref f)=ag):AtN K n st:=⟨f,_,a,aFz (st:=st) l c k⟩
theorem aNg{l:OpenLaw}{w:bg}{K:Frag}{h:aI}{mg:Str->av aj}{fa:ak}(X:K.In h)(G:h.Ns ck mg)(hfa:mg "law"=af (.ref fa))(a0:AtN K "_law_names" nO)(a1:AtN K "_law_net" oG)(a2:AtN K "_law_twisted" gH)(a3:AtN K "_law_changed" gJ)(a4:AtN K "_law_orders" mF)(a5:AtN K "_law_carried" i_)(a6:AtN K "_law_cell_at" lD)(a7:AtN K "_law_whole" nP)(a8:AtN K "_law_found" nQ)(a9:AtN K "mates_of" uE)(a10:AtN K "ends_around" mG)(a11:AtN K "starts_of" mH)(a12:AtN K "walk_from" rE)(a13:AtN K "first_walk" nR)(a14:AtN K "neighbours" nT)(a15:AtN K "hanging_together" iI)(a16:AtN K "parts" Q6)(a17:AtN K "way" aB6)(a18:AtN K "arranged" oK)(a19:AtN K "renumbered" jC)(a20:AtN K "alike" HF)(a21:AtN K "told" aB7)(a22:AtN K "_law_new" uG)
 {f23:ak}{oc23 kV23 dc23 pm23 cd23 ct23:aj}{od23 an23:av ak}{sl23:aE (av aj)}(a23:nsIn K ck "law"=af (af (.ref f23)))(l23:K.lookup f23=af ⟨oc23,od23,.func (fnOf "law" "law" (qU HH) (jG HH) (aQ HH) .none kV23 dc23 pm23 an23 cd23 ct23),sl23⟩)(c23:codeIn K cd23 "law"=ag)(k23:keepIn K (.ref f23)=ag)(ph:nsIn K ck "len"=af am)(pj:nsIn K ck "min"=af am)(pk:nsIn K ck "max"=af am)(po:nsIn K ck "list"=af am)(pw:nsIn K ck "tuple"=af am)(pz:nsIn K ck "sorted"=af am)(pA:nsIn K ck "range"=af am)(pB:nsIn K ck "isinstance"=af am)(pC:nsIn K ck "int"=af am)(pD:nsIn K ck "bool"=af am)(pG:nsIn K ck "str"=af am)(pH:nsIn K ck "dict"=af am)(pI:nsIn K ck "all"=af am)(pJ:nsIn K ck "enumerate"=af am)(pK:nsIn K ck "sum"=af am)(pL:nsIn K ck "zip"=af am)(pM:nsIn K ck "abs"=af am)(pN:nsIn K ck "reversed"=af am) :
  ∃fd:eD,(∀(s:ao)(v:aj),kB s fd ⟨[v],[]⟩ [("script",v)])/\∀base:aI,K.In base->base.Ns ck mg->WF l.prog w K mg base CX0 5 fa fd ["script"] (@spD ⟨K⟩ XS 1):=by
 have e:=hfa.symm.trans (mg_of X G a23);cases e
 letI:KFrag:=⟨K⟩
 have Y:=λ{n:Str}{v:aj}=>mg_of (n:=n) (v:=v) X G
 have Z:=λ{n:Str}=>mg_none_of (n:=n) X G
 obtain⟨f0,_,a0,F0⟩:=a0;obtain⟨f1,_,a1,F1⟩:=a1;obtain⟨f2,_,a2,F2⟩:=a2;obtain⟨f3,_,a3,F3⟩:=a3;obtain⟨f4,_,a4,F4⟩:=a4;obtain⟨f5,_,a5,F5⟩:=a5;obtain⟨f6,_,a6,F6⟩:=a6;obtain⟨f7,_,a7,F7⟩:=a7;obtain⟨f8,_,a8,F8⟩:=a8;obtain⟨f9,_,a9,F9⟩:=a9;obtain⟨f10,_,a10,F10⟩:=a10;obtain⟨f11,_,a11,F11⟩:=a11;obtain⟨f12,_,a12,F12⟩:=a12;obtain⟨f13,_,a13,F13⟩:=a13;obtain⟨f14,_,a14,F14⟩:=a14;obtain⟨f15,_,a15,F15⟩:=a15;obtain⟨f16,_,a16,F16⟩:=a16;obtain⟨f17,_,a17,F17⟩:=a17;obtain⟨f18,_,a18,F18⟩:=a18;obtain⟨f19,_,a19,F19⟩:=a19;obtain⟨f20,_,a20,F20⟩:=a20;obtain⟨f21,_,a21,F21⟩:=a21;obtain⟨f22,_,a22,F22⟩:=a22;have B:Bt mg:=⟨Z ph,Z pj,Z pk,Z po,Z pw,Z pz,Z pA,Z pB,Z pC,Z pD,Z pG,Z pH,Z pI,Z pJ,Z pK,Z pL,Z pM,Z pN⟩
 refine⟨fnOf "law" "law" (qU HH) (jG HH) (aQ HH) .none kV23 dc23 pm23 an23 cd23 ct23,λs v=>.of_eq rfl,λbase _ _=>?_⟩;have qt:=zL (P:=l.prog) (w:=w) (base:=base) rfl B  F0 (Y a0);have qu:=M3 (P:=l.prog) (w:=w) (base:=base) rfl B  F1 (Y a1);have qv:=vC (P:=l.prog) (w:=w) (base:=base) rfl B  F2 (Y a2);have qw:=vD (P:=l.prog) (w:=w) (base:=base) rfl B qv F3 (Y a3);have qx:=xY (P:=l.prog) (w:=w) (base:=base) rfl B  F4 (Y a4);have pT:=vG (P:=l.prog) (w:=w) (base:=base) rfl B  F5 (Y a5);have qy:=vH (P:=l.prog) (w:=w) (base:=base) rfl B  F6 (Y a6);have qz:=zM (P:=l.prog) (w:=w) (base:=base) rfl B  F7 (Y a7);have qA:=zN (P:=l.prog) (w:=w) (base:=base) rfl B qz pT F8 (Y a8);have qB:=M4 (P:=l.prog) (w:=w) (base:=base) rfl B  F9 (Y a9);have qC:=xZ (P:=l.prog) (w:=w) (base:=base) rfl B qB F10 (Y a10);have qD:=HX (P:=l.prog) (w:=w) (base:=base) rfl B  F11 (Y a11);have qE:=HY (P:=l.prog) (w:=w) (base:=base) rfl B  F12 (Y a12);have qF:=zP (P:=l.prog) (w:=w) (base:=base) rfl B qE qD F13 (Y a13);have qG:=zQ (P:=l.prog) (w:=w) (base:=base) rfl B  F14 (Y a14);have qH:=oY (P:=l.prog) (w:=w) (base:=base) rfl B  F15 (Y a15);have qI:=aB9 (P:=l.prog) (w:=w) (base:=base) rfl B qG qH F16 (Y a16);have pU:=aJc (P:=l.prog) (w:=w) (base:=base) rfl B qC qI qF F17 (Y a17);have qJ:=M5 (P:=l.prog) (w:=w) (base:=base) rfl B  F18 (Y a18);have pV:=zR (P:=l.prog) (w:=w) (base:=base) rfl B qJ F19 (Y a19);have qK:=aBa (P:=l.prog) (w:=w) (base:=base) rfl B pU pV F20 (Y a20);have qL:=aEv (P:=l.prog) (w:=w) (base:=base) rfl B pU pV F21 (Y a21);have qM:=M6 (P:=l.prog) (w:=w) (base:=base) rfl B  F22 (Y a22);exact aNf rfl B qy qt qu qw qx pT qM qK qA qL (aFz (st:=HH) l23 c23 k23)
theorem walk{l:OpenLaw}{q:br}{loose:aa Str}{XP:(Str->av aj)->aI->Prop}{YP:bg->aI->Prop}{d:DefRec}{K:nX->Frag}(main:∀ns:aa ae,ns.length<=63->XS [.scr (ns.map δ)]=.ok (.bl ag))(hn:l.most=af 63)(hdf:d.params.defaults=[])
 (hY:∀(w:bg) (h:aI),YP w h->(K w.params).In h)
 (F:∀(w:bg) (mg:Str->av aj) (fa:ak) (h:aI),(K w.params).In h->h.Ns ck mg->mg d.name=af (.ref fa)->
   ∃fd:eD,(∀(s:ao) (u:aj),kB s fd ⟨[u],[]⟩ [("script",u)])/\∀base:aI,(K w.params).In base->base.Ns ck mg->WF l.prog w (K w.params) mg base CX0 5 fa fd ["script"] (@spD ⟨K w.params⟩ XS 1)) :
  WalkO q loose XP YP l.row.toRowW d [] (λf vs=>t9 f vs):=
 L2.aHn (n:=63) (k:=5) (x:= "script") (CX:=λ_=>CX0) (sp:=λw=>@spD ⟨K w.params⟩ XS 1) hn (by decide) hdf ⟨rfl,by decide,by decide⟩ hY F (λw H a ns hl hO hS=>aAi main hl hO hS) λ_ _ _ _ _ z=>z
end Lk14
end
namespace Lk14
open PySem L2 Mi
noncomputable abbrev Pt:=ae×ae
noncomputable def enP(p:Pt):D:=.tup [.int p.1,.int p.2]
abbrev Tie:=Pt×Pt
def bI(t:Tie):D:=.tup [enP t.1,enP t.2]
theorem x_(p q:Pt):eqD (enP p) (enP q)=ϒ (p=q):=by
 obtain⟨a,b⟩:=p;obtain⟨c,d⟩:=q;by_cases h1:a=c<;>by_cases h2:b=d<;>simp[enP,eqD,m7,h1,h2]
def ltP(p q:Pt):Prop:=p.1<q.1\/p.1=q.1/\p.2<q.2
noncomputable instance (p q:Pt):rf (ltP p q):=by unfold ltP;infer_instance
theorem qP(p q:Pt):iM .lt (enP p) (enP q)=af (ϒ (ltP p q)):=by
 obtain⟨a,b⟩:=p;obtain⟨c,d⟩:=q;by_cases h1:a=c<;>by_cases h2:b=d<;>simp[enP,iM,cU,eqD,h1,h2,fX.int,fX.nat,ltP]
theorem U3(p q:Pt):iM .gt (enP p) (enP q)=af (ϒ (ltP q p)):=by
 obtain⟨a,b⟩:=p;obtain⟨c,d⟩:=q;by_cases h1:a=c
 ·by_cases h2:b=d<;>simp[enP,iM,cU,eqD,h1,h2,fX.int,fX.nat,ltP]
 ·simp[enP,iM,cU,eqD,h1,fX.int];simp only[ltP];lia
theorem aBb(p q:Pt):b8 .ne (enP p) (enP q)=.ok (.bl (!ϒ (p=q))):=by
 rw[<-x_];rfl
noncomputable def ends(T:aa Tie):aa Pt:=T.flatMap λt=>[t.1,t.2]
noncomputable abbrev Pc:=ae×Str
noncomputable def pcD(c:Pc):D:=.tup [.int c.1,.str c.2]
theorem mL{α:Type}[BEq α][LawfulBEq α]:∀(l1 l2:aa α),l1.Nodup->(∀x∈l1,x∈l2)->l1.length<=l2.length
 |[],_,_,_=>eL _
 |x::l,l2,hn,h=>by
  rw[cj] at hn;have hx:=h x (bh ..);have:=mL l (l2.erase x) hn.2 λy hy=>by
   refine(List.mem_erase_of_ne ?_).mpr (h y (bf _ hy));rintro rfl;exact hn.1 hy
  rw[List.length_erase_of_mem hx] at this;have:0<l2.length:=List.length_pos_of_mem hx;simp only[b9];lia
def bL(Q:aa Pc)(T:aa Tie)(r:ae):D:=.tup [.tup (Q.map pcD),.tup (T.map bI),.int r]
theorem sZ(Q:aa Pc):(ω (Q.map pcD)).pure=ag:=by
 show θ (Q.map pcD)=ag;induction Q with
 |nil=>rfl
 |cons q Q ih=>rw[aT,θ,ih];rfl
theorem tD(T:aa Tie):(ω (T.map bI)).pure=ag:=by
 show θ (T.map bI)=ag;induction T with
 |nil=>rfl
 |cons q Q ih=>rw[aT,θ,ih];rfl
theorem nW(l:aa Pt):θ (l.map enP)=ag:=by
 induction l with
 |nil=>rfl
 |cons q Q ih=>rw[aT,θ,ih];rfl
def aJd:FS:=(bH (cF ai 8 (b2 (bY .fdiv) (b2 (bY .fdiv) fL (bC (.int 64))) (b2 (bY .add) (b2 (bY .mul) jL jL) eU)) ag) (bH (sIf (bTB (b2 (b8 .eq) jL gB)) (cF ai 8 (b2 (bY .add) u5 fH) ag) jH) (cF ai 6 (b2 (bY .add) fU (b2 getD gQ (b2 (bY .mod) u5 aDz))) ag)))
def aPu:FS:=(bH (cF ai 6 (bC (.str "")) ag) (bH (u_ (oW (aD fD aR) m_) (tg1 7) aJd) (o9 4 fU)))
noncomputable def abc:Str:= "abcdefghijklmnopqrstuvwxyz"
noncomputable def ltr(i:ae):Str:=⟨#[abc.cps.toList.getD i.toNat 0]⟩
theorem letter(i:ae)(h0:0<=i)(h1:i<26):getD (.str abc) (.int i)=.ok (.str (ltr i)):=by
 have hl:ϒ (abc.length<=lim)=ag:=by decide +kernel
 have h26:abc.cps.toList.length=26:=by decide +kernel
 have hix:ixD abc.cps.toList.length i=af i.toNat:=by
  unfold ixD;rw[ar h0,h26,ar (by lia)]
 have hlt:i.toNat<abc.cps.toList.length:=by rw[h26];lia
 show(if ϒ (abc.length<=lim) then ι (((ixD abc.cps.toList.length i).bind λj=>abc.cps.toList[j]?).map λc=>π ⟨#[c]⟩) else .bad)=_;rw[hl,ar rfl,hix];simp only[AF];unfold ltr;rw[cy,cn hlt];rfl
noncomputable def stS(at_ k:ae)(j:ae):ae:=if (j==at_)=ag then k else 0
def chS(lt:ae->Str)(c0 at_ k:ae)(j:ae):Str:=lt ((c0 / 64 / (j*j+1)+stS at_ k j) % 26)
def nmS(lt:ae->Str)(c0 at_ k:ae):aa ah->Str->Str
 |[],nm=>nm
 |j::js,nm=>nmS lt c0 at_ k js (nm++chS lt c0 at_ k (0+(j:ae)))
theorem CN{c0 sz at_ k:ae}{dk:D}{ab:Str}{lt:ae->Str}(hlt:∀i,(lt i).length=1)(hab:∀i:ae,0<=i->i<26->getD (.str ab) (.int i)=.ok (.str (lt i))):∀(js:aa ah)(nm:Str)(x y:D),(∀j∈js,j<10)->nm.length+js.length<=1000->∃x' y',
  o_ (tg1 7) aJd (js.map λ(j:ah)=>δ (0+(j:ae))) [.int c0,.str ab,.int sz,.int at_,dk,.int k,.str nm,x,y]=.ok (.nx [.int c0,.str ab,.int sz,.int at_,dk,.int k,.str (nmS lt c0 at_ k js nm),x',y'])
 |[],nm,x,y,_,_=>⟨x,y,rfl⟩
 |j::js,nm,x,y,hj,hl=>by
  have hj':=hj j (bh ..);rw[b9] at hl;rw[nmS];generalize hjj:(0+(j:ae))=jj;have b0:0<=jj:=by lia
  have b1:jj<10:=by lia
  have hsq:jj*jj<100:=by
   have:jj*jj<=9*9:=Int.mul_le_mul (by lia) (by lia) b0 (by lia);lia
  have hsq0:0<=jj*jj:=Int.mul_nonneg b0 b0;have f5:b8 .eq (.int jj) (.int at_)=.ok (.bl (jj==at_)):=rfl;have f6:=j0 c0 64 (by decide) (by decide);have f7:=aAl jj jj (G4 _ (by lia) (by lia));have f8:=iD (jj*jj) 1;have f9:=j0 (c0 / 64) (jj*jj+1) (by lia) (by lia);have hch:(chS lt c0 at_ k jj).length=1:=by unfold chS;exact hlt _
  obtain⟨x',y',h2⟩:=CN (c0:=c0) (sz:=sz) (at_:=at_) (k:=k) (dk:=dk) hlt hab js (nm++chS lt c0 at_ k jj) (.int jj) (.int (c0 / 64 / (jj*jj+1)+stS at_ k jj)) (λj hj2=>hj j (bf _ hj2)) (by rw[str_len,hch];lia);refine⟨x',y',?_⟩;rw[aT,o_,hjj];have s7:(cF ai 6 (b2 (bY .add) fU (b2 getD gQ (b2 (bY .mod) u5 aDz))) ag) [.int c0,.str ab,.int sz,.int at_,dk,.int k,.str nm,.int jj,.int (c0 / 64 / (jj*jj+1)+stS at_ k jj)]=.ok (.nx [.int c0,.str ab,.int sz,.int at_,dk,.int k,.str (nm++chS lt c0 at_ k jj),.int jj,.int (c0 / 64 / (jj*jj+1)+stS at_ k jj)]):=by
   have g3:=j4 (c0 / 64 / (jj*jj+1)+stS at_ k jj) 26 (by decide);have g4:=hab ((c0 / 64 / (jj*jj+1)+stS at_ k jj) % 26) (by lia) (by lia);have g6:=aIc nm (chS lt c0 at_ k jj) (by rw[hch,bK];lia);exact bN (i:=6) (aH rfl (aH rfl (aH rfl rfl g3) g4) g6)
  have step:aJd [.int c0,.str ab,.int sz,.int at_,dk,.int k,.str nm,.int jj,y]=(cF ai 6 (b2 (bY .add) fU (b2 getD gQ (b2 (bY .mod) u5 aDz))) ag) [.int c0,.str ab,.int sz,.int at_,dk,.int k,.str nm,.int jj,.int (c0 / 64 / (jj*jj+1)+stS at_ k jj)]:=by
   unfold stS;refine aJ (ρ':=[.int c0,.str ab,.int sz,.int at_,dk,.int k,.str nm,.int jj,.int (c0 / 64 / (jj*jj+1))]) (bN (i:=8) (aH (aH rfl rfl f6) (aH (aH rfl rfl f7) rfl f8) f9)) ?_;generalize c0 / 64 / (jj*jj+1)=X at *;cases he:(jj==at_) with
   |true=>
    rw[ar rfl];exact aJ (vW (cJ (aH rfl rfl (f5.trans (by rw[he])))) (bN (i:=8) (aH rfl rfl (iD X k)))) rfl
   |false=>
    rw[aq (by simp),Int.add_zero];exact aJ (rB (cJ (aH rfl rfl (f5.trans (by rw[he])))) rfl) rfl
  have tgx:tg1 7 (.int jj) [.int c0,.str ab,.int sz,.int at_,dk,.int k,.str nm,x,y]=.ok [.int c0,.str ab,.int sz,.int at_,dk,.int k,.str nm,.int jj,y]:=rfl;rw[tgx,τ,step,s7,τ];exact h2
theorem aBc{lt:ae->Str}{c0 at_ k:ae}:∀(js:aa ah)(nm:Str),(nmS lt c0 at_ k js nm).cps.toList=nm.cps.toList++js.flatMap λ(j:ah)=>(chS lt c0 at_ k (0+(j:ae))).cps.toList
 |[],nm=>by rw[nmS,List.flatMap_nil,dy]
 |j::js,nm=>by
  rw[nmS,aBc js,fS,<-c_]
  congr 1
  show(nm.cps++(chS lt c0 at_ k (0+(j:ae))).cps).toList=_;rw[Array.toList_append]
theorem aGn(i:ah)(h:i<26):abc.cps.toList.getD i 0=97+i:=by
 have:∀i<26,abc.cps.toList.getD i 0=97+i:=by decide +kernel
 exact this i h
theorem aJe{c0 at_ k k':ae}{n:ah}(h0:0<=at_)(h1:at_<n)(hk:0<=k/\k<5)(hk':0<=k'/\k'<5)(h:nmS ltr c0 at_ k (bn n) ""=nmS ltr c0 at_ k' (bn n) ""):k=k':=by
 have e:=cm (λs:Str=>s.cps.toList) h;simp only[aBc] at e;have f:∀(k:ae)(l:aa ah),(l.flatMap λ(j:ah)=>(chS ltr c0 at_ k (0+(j:ae))).cps.toList)=l.map λ(j:ah)=>abc.cps.toList.getD (((c0 / 64 / ((0+(j:ae))*(0+(j:ae))+1)+stS at_ k (0+(j:ae))) % 26).toNat) 0:=by
  intro k l;induction l with
  |nil=>rfl
  |cons j l ih=>rw[fS,ih];rfl
 rw[f,f] at e;have e2:=cm (λl=>l[at_.toNat]?) (List.append_cancel_left e);simp only[fu,vE (show at_.toNat<n by lia),Bg,gm] at e2;have ha:(0+((at_.toNat:ah):ae))=at_:=by lia
 rw[ha] at e2;have hs:∀k,stS at_ k at_=k:=λk=>by unfold stS;rw[ar (by simp)]
 rw[hs,hs] at e2;generalize c0 / 64 / (at_*at_+1)=X at e2;rw[aGn _ (by lia),aGn _ (by lia)] at e2;lia
theorem range_all(n:ah):∀j∈bn n,j<n:=λj hj=>df.mp hj
theorem aGo{a:FA}{ρ xs:aa D}(h:a ρ=.ok xs)(hl:xs.length<=lim):yS a ρ=.ok (.lst xs):=by
 unfold yS;rw[h,τ,ar (by simpa using hl)];rfl
def nmK(c0:ae)(k:ah):Str:=nmS ltr c0 (c0 / 8 % (1+c0 % 8)) (0+(k:ae)) (bn (1+c0 % 8).toNat) ""
theorem RC{c0:ae}{k k':ah}(h:k<5)(h':k'<5)(e:nmK c0 k=nmK c0 k'):k=k':=by
 have:=aJe (n:=(1+c0 % 8).toNat) (lm _ (by lia)) (by have:=lq (c0 / 8) (show 0<1+c0 % 8 by lia);lia) (k:=0+(k:ae)) (k':=0+(k':ae)) (by lia) (by lia) e;lia
theorem aJf(i:ae):(ltr i).length=1:=rfl
theorem aBd{c0:ae}{k:ah}{L:aa D}{x5 x6 x7 x8:D}(hL:L.length<=10):∃y7 y8,aPu [.int c0,.str abc,.int (1+c0 % 8),.int (c0 / 8 % (1+c0 % 8)),.lst L,.int (0+(k:ae)),x6,x7,x8]=.ok (.nx [.int c0,.str abc,.int (1+c0 % 8),.int (c0 / 8 % (1+c0 % 8)),.lst (L++[.str (nmK c0 k)]),.int (0+(k:ae)),.str (nmK c0 k),y7,y8]):=by
 obtain⟨u7,u8,hin⟩:=CN (c0:=c0) (sz:=1+c0 % 8) (at_:=c0 / 8 % (1+c0 % 8)) (k:=0+(k:ae)) (dk:=.lst L) aJf letter (bn (1+c0 % 8).toNat) "" x7 x8 (λj hj=>by have:=range_all _ j hj;lia) (by
  rw[gp];have:("" : Str).length=0:=rfl;lia)
 refine⟨u7,u8,?_⟩;generalize abc=ab at *;refine aJ (ρ':=[.int c0,.str ab,.int (1+c0 % 8),.int (c0 / 8 % (1+c0 % 8)),.lst L,.int (0+(k:ae)),.str "",x7,x8]) (bN (i:=6) rfl) ?_;refine aJ (ρ':=[.int c0,.str ab,.int (1+c0 % 8),.int (c0 / 8 % (1+c0 % 8)),.lst L,.int (0+(k:ae)),.str (nmK c0 k),u7,u8]) (mW (uO (n:=1+c0 % 8) (aC rfl rfl) (by lia) (by lia)) hin) ?_;generalize nmK c0 k=nm;exact mY (i:=4) (ρ:=[.int c0,.str ab,.int (1+c0 % 8),.int (c0 / 8 % (1+c0 % 8)),.lst L,.int (0+(k:ae)),.str nm,u7,u8]) (xs:=L) (d:=.str nm) rfl rfl (by rw[bK];lia) rfl
theorem M7(o:fX)(a b:Pt)(r:Pt->Pt->Prop)[∀x y,rf (r x y)](h:∀x y,iM o (enP x) (enP y)=af (ϒ (r x y))):cN o [enP a,enP b]=.ok (enP (if r b a then b else a)):=by
 show qW o [enP a,enP b]=_;have hall:([enP a,enP b].all λx=>x.eO aM&&[enP a,enP b].all λy=>(iM o x y).isSome)=ag:=by
  simp only[fI,Bh,h,tP,ie];rfl
 rw[qW,ar hall];simp only[ij,Bi,h,n9];by_cases hr:r b a
 ·simp[hr]
 ·simp[hr]
theorem aEw{α:Type}(f:α->D)(g:D->α)(h:∀a,g (f a)=a){ys:aa D}{L:aa α}(p:ys.Perm (L.map f)):∃L':aa α,L'.Perm L/\ys=L'.map f:=by
 refine⟨ys.map g,?_,?_⟩
 ·refine(p.map g).trans ?_;rw[bu];refine Ca ?_
  conv=>rhs;rw[<-eW L]
  exact cq λa _=>h a
 ·rw[bu]
  conv=>lhs;rw[<-eW ys]
  refine cq λy hy=>?_
  obtain⟨a,_,rfl⟩:=ax.mp (p.mem_iff.mp hy);show f a=f (g (f a));rw[h]
noncomputable def unI:D->ae
 |.int i=>i
 |_=>0
noncomputable def rim(s:ae):Pt:=(0,s)
theorem aBe(T:aa Tie)(t:Tie):ends (T++[t])=ends T++[t.1,t.2]:=by simp[ends]
theorem H_{a:FE}{ρ:aa D}{i:ae}(h1:a ρ=.ok (.int i)):wO a ρ=.ok (af i):=by
 unfold wO;rw[h1,τ];rfl
theorem aPv(o:fX)(a b:ae)(r:ae->ae->Prop)[∀x y,rf (r x y)](h:∀x y,iM o (.int x) (.int y)=af (ϒ (r x y))):cN o [.lst [.int a,.int b]]=.ok (.int (if r b a then b else a)):=by
 show qW o [.int a,.int b]=_;have hall:([δ a,δ b].all λx=>x.eO aM&&[δ a,δ b].all λy=>(iM o x y).isSome)=ag:=by
  simp only[fI,Bh,h,tP,ie];rfl
 rw[qW,ar hall];simp only[ij,Bi,h,n9];by_cases hr:r b a
 ·simp[hr]
 ·simp[hr]
def vOf(kvs:aa (D×D))(s:Str):ah:=match bA kvs (.str s) with
 |some (.int v)=>v.toNat
 |_=>0
theorem M8{kvs:aa (D×D)}{s:Str}{v:ah}(h:bA kvs (.str s)=af (.int v)):vOf kvs s=v:=by
 unfold vOf;rw[h];rfl
def aDm(kvs:aa (D×D))(pc:Pc):aa Pt:=(bn (vOf kvs pc.2+1)).map λ(h:ah)=>((pc.1,(h:ae)):Pt)
def hks(kvs:aa (D×D))(Q:aa Pc):aa Pt:=Q.flatMap (aDm kvs)
section
theorem aQp(Q:aa Pt):gC [.lst (Q.map enP)]=.ok (.int Q.length):=by rw[nH,ay]
end
noncomputable def aBf:D->Tie
 |.tup [.tup [.int a,.int b],.tup [.int c,.int d]]=>((a,b),(c,d))
 |_=>((0,0),(0,0))
theorem yC(t:Tie):aBf (bI t)=t:=rfl
def dG(U:aa Tie):aa Tie:=(iR (U.map bI)).map aBf
theorem bO(U:aa Tie):(dG U).Perm U:=by
 have h:=(b_ (U.map bI)).map aBf;rw[bu] at h;have e:U.map (aBf ∘ bI)=U:=by
  conv=>rhs;rw[<-eW U]
  exact cq λt _=>yC t
 rw[e] at h;exact h
theorem aBg(U:aa Tie):(dG U).map bI=iR (U.map bI):=by
 unfold dG;rw[bu]
 conv=>rhs;rw[<-eW (iR (U.map bI))]
 refine cq λd hd=>?_
 obtain⟨t,_,rfl⟩:=ax.mp ((b_ (U.map bI)).mem_iff.mp hd);rfl
theorem aJg(s t:Tie):∃k,iM .lt (bI s) (bI t)=af k:=by
 have e:iM .lt (bI s) (bI t)=(if eqD (enP s.1) (enP t.1) then (if eqD (enP s.2) (enP t.2) then af (fX.lt.nat 0 0) else iM .lt (enP s.2) (enP t.2)) else iM .lt (enP s.1) (enP t.1)):=rfl;rw[e,qP,qP];split
 ·split
  ·exact⟨_,rfl⟩
  ·exact⟨_,rfl⟩
 ·exact⟨_,rfl⟩
theorem yD(U:aa Tie)(hz:U.length<64):bB (U.map bI)=ag:=by
 unfold bB;rw[bq (by rw[ay];exact hz),gx];refine dm.mpr λd hd=>?_
 obtain⟨t,ht,rfl⟩:=ax.mp hd;have hk:fC ((U.map bI).headD .non)=5:=by
  cases U with
  |nil=>cases ht
  |cons u U=>rfl
 have h5:fC (bI t)=5:=rfl;have hp:(bI t).plain=ag:=rfl;have hq:(bI t).eO aM=ag:=rfl;rw[hk,h5,hp,hq];refine dm.mpr λb hb=>?_
 obtain⟨u,_,rfl⟩:=ax.mp hb;obtain⟨k,e⟩:=aJg t u;rw[e];rfl
theorem tE(U:aa Tie)(hz:U.length<64):fM [.lst (U.map bI)]=.ok (.lst ((dG U).map bI)):=by
 show(if bB (U.map bI) then ε (υ (iR (U.map bI))) else .bad)=_;rw[yD U hz,ar rfl,aBg]
def LeT(s t:Tie):Prop:=leE (bI s) (bI t)=ag
theorem fW(U:aa Tie):(dG U).Pairwise LeT:=by
 have h:=dR (U.map bI);rw[<-aBg,cz] at h;exact h
theorem RD:∀{xs ys:aa Tie},xs.map bI=ys.map bI->xs=ys
 |[],[],_=>rfl
 |x::xs,y::ys,h=>by
  rw[aT,aT,gj] at h;have e:=cm aBf h.1;rw[yC,yC] at e;rw[e,RD h.2]
 |[],_::_,h=>by cases h
 |_::_,[],h=>by cases h
theorem eq_of_sorted{U V:aa Tie}(h:U.Perm V)(h1:U.Pairwise LeT)(h2:V.Pairwise LeT):U=V:=by
 refine RD (nC (λd hd=>?_) (h.map bI) (cz.mpr h1) (cz.mpr h2));obtain⟨t,_,rfl⟩:=ax.mp hd;rfl
theorem aEx{U:aa Tie}(h:U.Pairwise LeT):dG U=U:=eq_of_sorted (bO U) (fW U) h
theorem U4{U V:aa Tie}(h:U.Perm V):dG U=dG V:=eq_of_sorted ((bO U).trans (h.trans (bO V).symm)) (fW U) (fW V)
theorem aJh(a b:ae):eqD (.int a) (.int b)=(a==b):=rfl
theorem aBh(a b:Pc):∃k,iM .lt (pcD a) (pcD b)=af k/\(a.1≠b.1->k=ϒ (a.1<b.1)):=by
 have e:iM .lt (pcD a) (pcD b)=(if eqD (.int a.1) (.int b.1) then (if eqD (.str a.2) (.str b.2) then af (fX.lt.nat 0 0) else af (fX.lt.str a.2 b.2)) else af (fX.lt.int a.1 b.1)):=rfl;rw[e,aJh];by_cases h:a.1=b.1
 ·rw[ar (by simp[h])];split
  ·exact⟨_,rfl,λz=>az h z⟩
  ·exact⟨_,rfl,λz=>az h z⟩
 ·rw[aq (by simp[h])];exact⟨_,rfl,λ_=>rfl⟩
theorem qQ(U:aa Pc)(hz:U.length<64):bB (U.map pcD)=ag:=by
 unfold bB;rw[bq (by rw[ay];exact hz),gx];refine dm.mpr λd hd=>?_
 obtain⟨t,ht,rfl⟩:=ax.mp hd;have hk:fC ((U.map pcD).headD .non)=3:=by
  cases U with
  |nil=>cases ht
  |cons u U=>rfl
 have h5:fC (pcD t)=3:=rfl;have hp:(pcD t).plain=ag:=rfl;have hq:(pcD t).eO aM=ag:=rfl;rw[hk,h5,hp,hq];refine dm.mpr λb hb=>?_
 obtain⟨u,_,rfl⟩:=ax.mp hb;obtain⟨k,e,_⟩:=aBh t u;rw[e];rfl
def LtN(a b:Pc):Prop:=a.1<b.1
theorem iW(T:aa Tie):θ (T.map bI)=ag:=tD T
theorem nY(T:aa Pc):θ (T.map pcD)=ag:=sZ T
theorem kZ(Q:aa Pc)(V:aa Tie)(r:ae):(bL Q V r).pure=ag:=by
 show((ω (Q.map pcD)).pure&&((ω (V.map bI)).pure&&(ag&&ag)))=ag;rw[sZ,tD];rfl
theorem aEy{U W:aa Pc}(hz:U.length<64)(p:U.Perm W)(h:W.Pairwise LtN):fM [.lst (U.map pcD)]=.ok (.lst (W.map pcD)):=by
 show(if bB (U.map pcD) then ε (υ (iR (U.map pcD))) else .bad)=_;rw[qQ U hz,ar rfl]
 congr 2
 refine nC (λd hd=>?_) ((b_ _).trans (p.map pcD)) (dR _) (cz.mpr (h.imp λ{a b} hab=>?_))
 ·obtain⟨t,_,rfl⟩:=ax.mp ((b_ (U.map pcD)).mem_iff.mp hd);rfl
 ·have hab:a.1<b.1:=hab;obtain⟨k,e,hk⟩:=aBh b a;have e1:=wQ (pcD b) (pcD a) k rfl rfl e;rw[hk (by lia),bP (by lia)] at e1;unfold leE;rw[<-e1];rfl
theorem call_v{n m:ah}{f:FS}{ds:aa D}{d:D}(h:f (ds++b5 (m-n) D.uD)=.ok (.rt d)):fnS n m f ds=.ok d:=by
 show(do let r <- f (ds++b5 (m-n) D.uD);aM7 r)=_;rw[h];rfl
theorem lR{n:ah}{t:D->Res (aa D)}{c:FT}{f:FE}{k:ap}{ρ acc bs:aa D}{x y:D}{b:ap}(hρ:ρ.length=n)(ht:t x=.ok bs)(h1:c (ρ++bs)=.ok b)(h2:b=ag->f (ρ++bs)=.ok y/\(k||y.pure)=ag):qX n t c f k ρ acc x=.ok (if b then acc++[y] else acc):=by
 unfold qX;rw[ht,τ,K1 hρ,h1,τ];cases b with
 |false=>rfl
 |true=>
  obtain⟨h3,h4⟩:=h2 rfl;rw[ar rfl,h3,τ,ar h4];rfl
theorem aRm{f:FE}{ρ:aa D}{d:D}{b:ap}(h:f ρ=.ok d)(h2:aP9 d=.ok b):bTr f ρ=.ok b:=by
 unfold bTr;rw[h];exact h2
theorem uW{f:FT}{ρ:aa D}{b:ap}(h:f ρ=.ok b):WP f ρ=.ok (!b):=by
 unfold WP;rw[h];rfl
theorem aOl{x y:FT}{ρ:aa D}{r:Res ap}(h1:x ρ=.ok ai)(h2:y ρ=r):bOr x y ρ=r:=by
 unfold bOr;rw[h1];exact h2
theorem aEz{f:D->Res D}{a:FE}{ρ:aa D}{x y:D}(h1:a ρ=.ok x)(h2:f x=.ok y):b1 f a ρ=.ok y:=by
 unfold b1;rw[h1];exact h2
theorem irr(a b:Pt)(h:ltP a b):¬ltP b a:=by
 simp only[ltP] at *;lia
theorem U5(T:aa Tie):(ends T).length=2*T.length:=by
 induction T with
 |nil=>rfl
 |cons t T ih=>simp only[ends,fS,cb,b9,dS] at *;lia
theorem n6{V U:aa Tie}(h:V.Perm U):(ends V).Perm (ends U):=by
 unfold ends;induction h with
 |nil=>exact .nil
 |cons x _ ih=>simpa using ih
 |swap x y l=>
  simp only[fS];rw[<-c_,<-c_];exact Bj _ rj
 |trans _ _ ih1 ih2=>exact ih1.trans ih2
theorem qR{f g:FS}{ρ:aa D}{d:D}(h:f ρ=.ok (.rt d)):bH f g ρ=.ok (.rt d):=by
 unfold bH;rw[h];rfl
theorem yE(xs:aa D)(j:ah)(h:j<xs.length):getD (.tup xs) (.int (0+(j:ae)))=.ok xs[j]:=by
 show ι ((ixD xs.length (0+(j:ae))).bind λi=>xs[i]?)=_;have e:ixD xs.length (0+(j:ae))=af j:=by
  unfold ixD;rw[ar (by lia),ar (by lia)]
  congr 1
  lia
 rw[e];show ι (xs[j]?)=_;rw[cn h];rfl
structure Net(kvs:aa (D×D))(Q:aa Pc)(T:aa Tie):Prop where
 nd:(ends T).Nodup
 small:T.length<=60
 qs:Q.Pairwise LtN
 qpos:∀pc∈Q,0<pc.1
 ql:Q.length<=30
 sk:∀pc∈Q,∃v:ah,v<=6/\bA kvs (.str pc.2)=af (.int v)
 lt:∀t∈T,ltP t.1 t.2
 srt:T.Pairwise LeT
 rims:∃S:aa ae,S.Nodup/\S.Perm ((bn S.length).map λ(k:ah)=>(k:ae))/\(ends T).Perm (hks kvs Q++S.map rim)
def OkT(N:aa ae)(t:Tie):Prop:=(t.1.1=0/\(t.2.1=0\/t.2.1∈N))\/(t.1.1∈N/\t.2.1∈N)
structure Wf(Q:aa Pc)(V:aa Tie):Prop where
 qs:(Q.map (·.1)).Pairwise (·<·)
 qp:∀n∈Q.map (·.1),0<n
 ql:(Q.map (·.1)).length<=40
 ok:∀t∈V,OkT (Q.map (·.1)) t
 vl:V.length<=60
theorem rH{kvs:aa (D×D)}{Q:aa Pc}{e:Pt}:e∈hks kvs Q↔∃pc∈Q,pc.1=e.1/\0<=e.2/\e.2<=vOf kvs pc.2:=by
 unfold hks aDm;simp only[fA,ax,df];constructor
 ·rintro⟨pc,h1,h,h2,rfl⟩;exact⟨pc,h1,rfl,by show(0:ae)<=(h:ae);lia,by show(h:ae)<=_;lia⟩
 ·rintro⟨pc,h1,h2,h3,h4⟩;exact⟨pc,h1,e.2.toNat,by lia,Prod.ext h2 (by show((e.2.toNat:ah):ae)=e.2;lia)⟩
theorem Net.wf{kvs:aa (D×D)}{Q:aa Pc}{V:aa Tie}(w:Net kvs Q V):Wf Q V:=by
 obtain⟨S,_,_,p⟩:=w.rims;have cas:∀e∈ends V,e.1=0\/(0<e.1/\e.1∈Q.map (·.1)):=λe he=>by
  rcases cf.mp (p.mem_iff.mp he) with h|h
  ·obtain⟨pc,h1,h2,_⟩:=rH.mp h;exact .inr ⟨by have:=w.qpos pc h1;lia,ax.mpr ⟨pc,h1,h2⟩⟩
  ·obtain⟨s,_,rfl⟩:=ax.mp h;exact .inl rfl
 refine⟨cz.mpr w.qs,λn h=>?_,by rw[ay];have:=w.ql;lia,λt ht=>?_,w.small⟩
 ·obtain⟨pc,h1,rfl⟩:=ax.mp h;exact w.qpos pc h1
 ·have me:t.1∈ends V/\t.2∈ends V:=by
   simp only[ends,fA];exact⟨⟨t,ht,by simp⟩,⟨t,ht,by simp⟩⟩
  have hlt:=w.lt t ht;rcases cas _ me.1 with h1|⟨h1,h1'⟩<;>rcases cas _ me.2 with h2|⟨h2,h2'⟩
  ·exact .inl ⟨h1,.inl h2⟩
  ·exact .inl ⟨h1,.inr h2'⟩
  ·simp only[ltP] at hlt;lia
  ·exact .inr ⟨h1',h2'⟩
theorem tG{c:FT}{body:FS}{n:ah}{ρ ρ':aa D}{r:Res Fl}(h1:c ρ=.ok ag)(h2:body ρ=.ok (.nx ρ'))(h3:BZ c body n ρ'=r):BZ c body (n+1) ρ=r:=by
 rw[BZ,h1,τ,ar rfl,h2];exact h3
theorem uH{c:FT}{body:FS}{n:ah}{ρ:aa D}(h1:c ρ=.ok ai):BZ c body (n+1) ρ=.ok (.nx ρ):=by
 rw[BZ,h1];rfl
theorem aBi{a:FE}{l h:aa D->Res (av ae)}{ρ:aa D}{x:D}{i j:av ae}{d:D}(h1:a ρ=.ok x)(h2:l ρ=.ok i)(h3:h ρ=.ok j)(h4:aHr x i j=.ok d):aDj a l h ρ=.ok d:=by
 unfold aDj;rw[h1,τ,h2,τ,h3,τ,h4]
noncomputable def cellAt(ns:aa ae)(k:ah):ae:=ns.getD k 0
theorem cell_eq(ns:aa ae)(k:ah):cD 2 d9 [.scr (ns.map δ),.int k]=.ok (.int (cellAt ns k)):=by
 refine(dF rfl).trans ?_;have hl:gC [.scr (ns.map δ)]=.ok (.int ns.length):=by
  show ε (δ ((ns.map δ).length:ae))=_;rw[ay]
 have hc:b8 (.ord .lt) (.int k) (.int ns.length)=.ok (.bl (ϒ ((k:ae)<ns.length))):=rfl;show(do let r <- gM [.scr (ns.map δ),.int k];aM7 r)=_;by_cases h:k<ns.length
 ·have hg:getD (.scr (ns.map δ)) (.int k)=.ok (.int (cellAt ns k)):=by
   show ι ((ixD (ns.map δ).length k).bind λj=>(ns.map δ)[j]?)=_;have:ixD (ns.map δ).length k=af k:=by
    unfold ixD;rw[ar (by lia),ar (by rw[ay];lia)];rfl
   rw[this];show ι ((ns.map δ)[k]?)=_;rw[fu,cn h];show ε (δ ns[k])=_;rw[cellAt,cy,cn h];rfl
  have e:gM [.scr (ns.map δ),.int k]=.ok (.rt (.int (cellAt ns k))):=by
   have ht:(bTB (b2 (b8 (.ord .lt)) gQ (aO gC (aD fL aR)))) [.scr (ns.map δ),.int k]=.ok ag:=by
    refine cJ (aH rfl (aL (aC rfl rfl) hl) (hc.trans ?_));rw[bq (by lia)]
   unfold gM bH;rw[vW (r:=.ok (.rt (.int (cellAt ns k)))) ht (fG (aH rfl rfl hg) rfl)];rfl
  rw[e];rfl
 ·have e:gM [.scr (ns.map δ),.int k]=.ok (.rt (.int (cellAt ns k))):=by
   refine aJ (rB (r:=.ok (.nx [.scr (ns.map δ),.int k])) (cJ (aH rfl (aL (aC rfl rfl) hl) (hc.trans ?_))) rfl) (fG (d:=.int (cellAt ns k)) ?_ rfl)
   ·rw[bP (by lia)]
   ·rw[cellAt,cy,A0 (by lia)];rfl
  rw[e];rfl
noncomputable def news:aa ae->aa ae->aa ae
 |_,[]=>[]
 |R,y::ys=>if y∈R then news R ys else y::news (R++[y]) ys
theorem news_mem:∀{ys R:aa ae}{z:ae},z∈news R ys->z∈ys
 |[],R,z,h=>h
 |y::ys,R,z,h=>by
  rw[news] at h;split at h
  ·exact bf _ (news_mem h)
  ·rcases bd.mp h with rfl|h
   ·exact bh ..
   ·exact bf _ (news_mem h)
theorem IK:∀{ys R:aa ae},R.Nodup->(R++news R ys).Nodup
 |[],R,h=>by rw[news,dy];exact h
 |y::ys,R,h=>by
  rw[news];split
  ·exact IK h
  ·rename_i hy;have:(R++[y]).Nodup:=by
    rw[eP];exact⟨h,by simp,λa ha b hb z=>hy (by rw[<-cw.mp hb,<-z];exact ha)⟩
   have:=IK (ys:=ys) this;rwa [c_] at this
theorem tH:∀{ys R:aa ae}{z:ae},z∈ys->z∈R++news R ys
 |y::ys,R,z,h=>by
  rw[news];rcases bd.mp h with rfl|h
  ·split
   ·exact dq _ (by assumption)
   ·simp
  ·split
   ·exact tH h
   ·have:=tH (R:=R++[y]) h;rwa [c_] at this
inductive Rc(f:ae->aa ae)(s:ae):ae->Prop
 |refl:Rc f s s
 |step {x y:ae}:Rc f s x->y∈f x->Rc f s y
theorem Rc.trans{f:ae->aa ae}{a b c:ae}(h:Rc f a b)(g:Rc f b c):Rc f a c:=by
 induction g with
 |refl=>exact h
 |step _ hy ih=>exact ih.step hy
theorem Rc.mem{f:ae->aa ae}{s:ae}{M:aa ae}(hs:s∈M)(hc:∀x∈M,∀y∈f x,y∈M){x:ae}(h:Rc f s x):x∈M:=by
 induction h with
 |refl=>exact hs
 |step _ hy ih=>exact hc _ ih _ hy
theorem Rc.to{f g:ae->aa ae}{s:ae}{M:aa ae}(hs:s∈M)(hc:∀x∈M,∀y∈f x,y∈M)(hfg:∀x∈M,∀y∈f x,y∈g x){x:ae}(h:Rc f s x):Rc g s x:=by
 induction h with
 |refl=>exact .refl
 |step hx hy ih=>exact ih.step (hfg _ (hx.mem hs hc) _ hy)
theorem Rc.symm{f:ae->aa ae}(hsy:∀x y,y∈f x->x∈f y){s x:ae}(h:Rc f s x):Rc f x s:=by
 induction h with
 |refl=>exact .refl
 |step _ hy ih=>exact(Rc.refl.step (hsy _ _ hy)).trans ih
structure Dv(f:ae->aa ae)(s:ae)(R W:aa ae):Prop where
 nd:R.Nodup
 sR:s∈R
 wR:∀w∈W,w∈R
 rc:∀r∈R,Rc f s r
 cl:∀r∈R,r∈W\/∀y∈f r,y∈R
theorem dv0(f:ae->aa ae)(s:ae):Dv f s [s] [s]:=⟨by simp,by simp,λw h=>h,λr h=>by rw[cw.mp h];exact .refl,λr h=>.inl h⟩
theorem Dv.step{f:ae->aa ae}{s c:ae}{R W:aa ae}(h:Dv f s R (W++[c])):Dv f s (R++news R (f c)) (W++news R (f c)):=by
 have hc:c∈R:=h.wR c (by simp);refine⟨IK h.nd,dq _ h.sR,λw hw=>?_,λr hr=>?_,λr hr=>?_⟩
 ·rcases cf.mp hw with hw|hw
  ·exact dq _ (h.wR w (dq _ hw))
  ·exact dP _ hw
 ·rcases cf.mp hr with hr|hr
  ·exact h.rc r hr
  ·exact(h.rc c hc).step (news_mem hr)
 ·rcases cf.mp hr with hr|hr
  ·rcases h.cl r hr with g|g
   ·rcases cf.mp g with g|g
    ·exact .inl (dq _ g)
    ·rw[cw.mp g];exact .inr λy hy=>tH hy
   ·exact .inr λy hy=>dq _ (g y hy)
  ·exact .inl (dP _ hr)
theorem Dv.fin{f:ae->aa ae}{s:ae}{R:aa ae}(h:Dv f s R []){x:ae}:x∈R↔Rc f s x:=
 ⟨h.rc x,λg=>g.mem h.sR λr hr=>(h.cl r hr).resolve_left (by simp)⟩
theorem Dv.len{f:ae->aa ae}{s:ae}{R W M:aa ae}(h:Dv f s R W)(hs:s∈M)(hc:∀x∈M,∀y∈f x,y∈M):R.length<=M.length:=mL _ _ h.nd λx hx=>(h.rc x hx).mem hs hc
structure Bv(f:ae->aa ae)(s:ae)(R:aa ae)(n:ah):Prop where
 nd:R.Nodup
 sR:s∈R
 rc:∀r∈R,Rc f s r
 cl:∀r∈R.take n,∀y∈f r,y∈R
theorem bv0(f:ae->aa ae)(s:ae):Bv f s [s] 0:=⟨by simp,by simp,λr h=>by rw[cw.mp h];exact .refl,λr h=>by cases h⟩
theorem Bv.step{f:ae->aa ae}{s:ae}{R:aa ae}{n:ah}(h:Bv f s R n)(hn:n<R.length):Bv f s (R++news R (f R[n])) (n+1):=by
 have hc:R[n]∈R:=fq hn;refine⟨IK h.nd,dq _ h.sR,λr hr=>?_,λr hr=>?_⟩
 ·rcases cf.mp hr with hr|hr
  ·exact h.rc r hr
  ·exact(h.rc _ hc).step (news_mem hr)
 ·rw[vF (by lia),mz hn] at hr;rcases cf.mp hr with hr|hr
  ·exact λy hy=>dq _ (h.cl r hr y hy)
  ·rw[cw.mp hr];exact λy hy=>tH hy
theorem Bv.fin{f:ae->aa ae}{s:ae}{R:aa ae}{n:ah}(h:Bv f s R n)(hn:R.length<=n){x:ae}:x∈R↔Rc f s x:=by
 have hcl:=h.cl;rw[lr hn] at hcl;exact⟨h.rc x,λg=>g.mem h.sR hcl⟩
theorem Bv.len{f:ae->aa ae}{s:ae}{R M:aa ae}{n:ah}(h:Bv f s R n)(hs:s∈M)(hc:∀x∈M,∀y∈f x,y∈M):R.length<=M.length:=mL _ _ h.nd λx hx=>(h.rc x hx).mem hs hc
def sortI(l:aa ae):aa ae:=(iR (l.map δ)).map unI
theorem sortI_perm(l:aa ae):(sortI l).Perm l:=by
 have h:=(b_ (l.map δ)).map unI;rw[bu] at h;have e:l.map (unI ∘ δ)=l:=by
  conv=>rhs;rw[<-eW l]
  exact cq λt _=>rfl
 rw[e] at h;exact h
theorem aBj(l:aa ae):(sortI l).map δ=iR (l.map δ):=by
 unfold sortI;rw[bu]
 conv=>rhs;rw[<-eW (iR (l.map δ))]
 refine cq λd hd=>?_
 obtain⟨t,_,rfl⟩:=ax.mp ((b_ (l.map δ)).mem_iff.mp hd);rfl
theorem aJi(a b:ae):leE (.int a) (.int b)=ag↔a<=b:=by
 have e:(enc (.int b)<enc (.int a))↔b<a:=by
  show([0,b]:aa ae)<[0,a]↔b<a;rw[dz,dz];simp
 unfold leE;rw[iS,k8,e];lia
theorem aF0(l:aa ae):(sortI l).Pairwise (·<=·):=by
 have h:=dR (l.map δ);rw[<-aBj,cz] at h;exact h.imp λ{a b} h=>(aJi a b).mp h
theorem U6{l:aa ae}(h:l.Nodup):(sortI l).Pairwise (·<·):=by
 have h1:=aF0 l;have h2:(sortI l).Pairwise (·≠·):=(sortI_perm l).nodup_iff.mpr h;exact(h1.and h2).imp λ{a b} ⟨h1,h2⟩=>by lia
theorem v4:∀{l m:aa ae},l.Pairwise (·<·)->m.Pairwise (·<·)->(∀x,x∈l↔x∈m)->l=m
 |[],[],_,_,_=>rfl
 |[],b::m,_,_,h=>by have:=(h b).mpr (bh ..);cases this
 |a::l,[],_,_,h=>by have:=(h a).mp (bh ..);cases this
 |a::l,b::m,h1,h2,h=>by
  rw[mS] at h1 h2;have e:a=b:=by
   rcases bd.mp ((h a).mp (bh ..)) with g|g
   ·exact g
   ·rcases bd.mp ((h b).mpr (bh ..)) with g'|g'
    ·exact g'.symm
    ·have:=h2.1 a g;have:=h1.1 b g';lia
  subst e;rw[v4 h1.2 h2.2 λx=>⟨λhx=>by
   rcases bd.mp ((h x).mp (bf _ hx)) with g|g
   ·have:=h1.1 x hx;lia
   ·exact g,λhx=>by
   rcases bd.mp ((h x).mpr (bf _ hx)) with g|g
   ·have:=h2.1 x hx;lia
   ·exact g⟩]
structure Ps(f:ae->aa ae)(N1:aa ae)(F:aa (aa ae)):Prop where
 nd:F.flatten.Nodup
 cv:∀n∈N1,n∈F.flatten
 cl:∀x∈F.flatten,∀y,Rc f x y->y∈F.flatten
 ea:∀p∈F,∃n q,p=n::q/\n∈N1/\p.Pairwise (·<·)/\∀x,x∈p↔Rc f n x
 hd:F.Pairwise λp q=>p.headD 0<q.headD 0
theorem ps0(f:ae->aa ae):Ps f [] []:=⟨by simp,by simp,by simp,by simp,by simp⟩
theorem Ps.skip{f:ae->aa ae}{N1:aa ae}{F:aa (aa ae)}{n:ae}(h:Ps f N1 F)(hn:n∈F.flatten):Ps f (N1++[n]) F:=
 ⟨h.nd,λm hm=>by
  rcases cf.mp hm with g|g
  ·exact h.cv m g
  ·rw[cw.mp g];exact hn,h.cl,λp hp=>let ⟨m,q,h1,h2,h3⟩:=h.ea p hp;⟨m,q,h1,dq _ h2,h3⟩,h.hd⟩
theorem Ps.more{f:ae->aa ae}(hsy:∀x y,y∈f x->x∈f y){N1 N2:aa ae}{F:aa (aa ae)}{n:ae}{R:aa ae}(h:Ps f N1 F)(hs:(N1++n::N2).Pairwise (·<·))(hc:∀x∈N1++n::N2,∀y∈f x,y∈N1++n::N2)(hn:n∉F.flatten)(hR:R.Nodup)(hm:∀x,x∈R↔Rc f n x):Ps f (N1++[n]) (F++[sortI R])/\(∀x∈sortI R,x∉F.flatten):=by
 have mem:∀x,x∈sortI R↔Rc f n x:=λx=>(sortI_perm R).mem_iff.trans (hm x)
 have new:∀x∈sortI R,x∉F.flatten:=λx hx hF=>hn (h.cl x hF n (((mem x).mp hx).symm hsy))
 have big:∀x∈sortI R,n<=x:=λx hx=>by
  have h1:=((mem x).mp hx).mem (M:=N1++n::N2) (by simp) hc;rcases cf.mp h1 with h1|h1
  ·exact az (h.cv x h1) (new x hx)
  ·rcases bd.mp h1 with h1|h1
   ·lia
   ·have:=(rn.mp hs).2.1;rw[mS] at this;have:=this.1 x h1;lia
 have hnR:n∈sortI R:=(mem n).mpr .refl;have hlt:=U6 hR;obtain⟨q,hq⟩:∃q,sortI R=n::q:=by
  cases e:sortI R with
  |nil=>rw[e] at hnR;cases hnR
  |cons a q=>
   rw[e] at hnR hlt;have:=big a (by rw[e];exact bh ..);rw[mS] at hlt;rcases bd.mp hnR with g|g
   ·exact⟨q,by rw[g]⟩
   ·have:=hlt.1 n g;lia
 refine⟨⟨?_,λm hm=>?_,λx hx y hy=>?_,λp hp=>?_,?_⟩,new⟩
 ·rw[rq,rL,eP];exact⟨h.nd,(sortI_perm R).nodup_iff.mpr hR,λa ha b hb z=>new b hb (z▸ha)⟩
 ·rw[rq,rL];rcases cf.mp hm with g|g
  ·exact dq _ (h.cv m g)
  ·rw[cw.mp g];exact dP _ hnR
 ·rw[rq,rL] at hx ⊢;rcases cf.mp hx with g|g
  ·exact dq _ (h.cl x g y hy)
  ·exact dP _ ((mem y).mpr (((mem x).mp g).trans hy))
 ·rcases cf.mp hp with g|g
  ·obtain⟨m,q,h1,h2,h3⟩:=h.ea p g;exact⟨m,q,h1,dq _ h2,h3⟩
  ·rw[cw.mp g];exact⟨n,q,hq,by simp,hlt,mem⟩
 ·rw[rn];refine⟨h.hd,by simp,λp hp r hr=>?_⟩;rw[cw.mp hr,hq];obtain⟨m,q',h1,h2,_⟩:=h.ea p hp;rw[h1];exact(rn.mp hs).2.2 m h2 n (by simp)
theorem bU{α:Type}{t:D->aa D->Res (aa D)}{body:FS}{d:α->D}{I:aa α->aa D->Prop}(xs:aa α)(step:∀ys a zs ρ,xs=ys++a::zs->I ys ρ->∃ρ1 ρ2,t (d a) ρ=.ok ρ1/\body ρ1=.ok (.nx ρ2)/\I (ys++[a]) ρ2){ρ:aa D}(h0:I [] ρ):∃ρ',o_ t body (xs.map d) ρ=.ok (.nx ρ')/\I xs ρ':=by
 have key:∀zs ys ρ,xs=ys++zs->I ys ρ->∃ρ',o_ t body (zs.map d) ρ=.ok (.nx ρ')/\I xs ρ':=by
  intro zs;induction zs with
  |nil=>
   intro ys ρ e h;rw[dy] at e;subst e;exact⟨ρ,rfl,h⟩
  |cons a zs ih=>
   intro ys ρ e h;obtain⟨ρ1,ρ2,h1,h2,h3⟩:=step ys a zs ρ e h;obtain⟨ρ',g1,g2⟩:=ih (ys++[a]) ρ2 (by rw[e,c_];rfl) h3;exact⟨ρ',nG h1 h2 g1,g2⟩
 exact key xs [] ρ rfl h0
theorem dI(a b:ae):eqD (.int a) (.int b)=ϒ (a=b):=by
 show(a==b)=_;by_cases h:a=b
 ·subst h;simp
 ·rw[bP h];simpa using h
noncomputable def dA(M:aa ae)(f:ae->aa ae):aa (D×D):=M.map λn=>(.int n,.lst ((f n).map δ))
theorem RG{f:ae->aa ae}{x:ae}:∀{M:aa ae},x∈M->bA (dA M f) (.int x)=af (.lst ((f x).map δ))
 |m::M,h=>by
  show(if eqD (.int m) (.int x) then _ else _)=_;rw[dI];by_cases e:m=x
  ·subst e;simp
  ·rw[bP e,aq (by simp)];exact RG ((bd.mp h).resolve_left (Ne.symm e))
theorem aBk{f:ae->aa ae}{x:ae}:∀{M:aa ae},x∉M->bA (dA M f) (.int x)=am
 |[],_=>rfl
 |m::M,h=>by
  rw[bd,fy] at h;show(if eqD (.int m) (.int x) then _ else _)=_;rw[dI,bP (Ne.symm h.1),aq (by simp)];exact aBk h.2
theorem aGp{f g:ae->aa ae}{x:ae}{y:aa ae}(hx:g x=y)(hg:∀n,n≠x->g n=f n):∀{M:aa ae},M.Nodup->x∈M->putD (dA M f) (.int x) (.lst (y.map δ))=dA M g
 |m::M,nd,h=>by
  rw[cj] at nd;show(if eqD (.int m) (.int x) then _ else _)=_;rw[dI];by_cases e:m=x
  ·subst e;rw[bq rfl,ar rfl];show _=(δ m,υ ((g m).map δ))::dA M g;rw[hx]
   congr 1
   refine cq λn hn=>?_
   rw[hg n λz=>nd.1 (z▸hn)]
  ·rw[bP e,aq (by simp)];show _=(δ m,υ ((g m).map δ))::dA M g;rw[hg m e]
   congr 1
   exact aGp hx hg nd.2 ((bd.mp h).resolve_left (Ne.symm e))
noncomputable def U7(f:ae->aa ae)(x y:ae):ae->aa ae:=λn=>if n=x then f n++[y] else f n
theorem aBl{M:aa ae}{f:ae->aa ae}{x y:ae}(nd:M.Nodup)(hx:x∈M)(hl:(f x).length<100000):aAp (.dct (dA M f)) (.int x) (.int y)=.ok (.dct (dA M (U7 f x y))):=by
 have e:=RG (f:=f) hx;have hl':ϒ (((f x).map δ).length<lim)=ag:=bq (by rw[ay,bK];lia);simp only[aAp,fZ,e,hl',D.pure,jd,cx];have:=aGp (f:=f) (g:=U7 f x y) (x:=x) (y:=f x++[y]) (by simp[U7]) (λn hn=>by simp[U7,hn]) nd hx;rw[ce] at this;rw[<-this];rfl
theorem aBm{i:ah}{fk fe:FE}{ρ:aa D}{d k e r:D}(h1:iU i ρ=.ok d)(h2:fk ρ=.ok k)(h3:fe ρ=.ok e)(h4:aAp d k e=.ok r):QV i fk fe ρ=.ok (.nx (ρ.set i r)):=by
 unfold QV;rw[h1,τ,h2,τ,h3,τ,h4];rfl
theorem aJj{i:ah}{fk:FE}{ρ:aa D}{M:aa ae}{x:ae}(h1:fk ρ=.ok (.int x))(h2:ρ.getD i .uD=.dct (dA M λ_=>[]))(hx:x∉M)(hl:M.length<100000):aAy i fk ρ=.ok (.nx (ρ.set i (.dct (dA (M++[x]) λ_=>[])))):=by
 unfold aAy;rw[h1,τ,h2];have hc:(fZ (.int x)&&(bA (dA M λ_=>[]) (.int x)).isNone&&ϒ ((dA M λ_=>[]).length<lim)&&(dA M λ_=>[]).all (λp=>aAv p.2))=ag:=by
  rw[aBk hx,bq (by rw[dA,ay,bK];lia)];have:(dA M λ_=>[]).all (λp=>aAv p.2)=ag:=by
   refine dm.mpr λp hp=>?_
   obtain⟨n,_,rfl⟩:=ax.mp hp;rfl
  rw[this];rfl
 show(if (fZ (.int x)&&(bA (dA M λ_=>[]) (.int x)).isNone&&ϒ ((dA M λ_=>[]).length<lim)&&(dA M λ_=>[]).all (λp=>aAv p.2))=ag then ε (Fl.nx (ρ.set i (.dct ((dA M λ_=>[])++[(.int x,.lst [])])))) else .bad)=_;rw[ar hc]
 congr 4
 simp[dA]
def stB(f:ae->aa ae)(t:Tie):ae->aa ae:=if t.1.1=0 then f else U7 (U7 f t.1.1 t.2.1) t.2.1 t.1.1
def stN(f:ae->aa ae)(t:Tie):ae->aa ae:=U7 (U7 f t.1.1 t.2.1) t.2.1 t.1.1
def uI(V:aa Tie):ae->aa ae:=V.foldl stB λ_=>[]
theorem U8{f:ae->aa ae}{x y n z:ae}:z∈U7 f x y n↔z∈f n\/(n=x/\z=y):=by
 unfold U7;split
 ·rename_i h;simp[h]
 ·rename_i h;simp[h]
def aBn(t:Tie)(x y:ae):Prop:=(t.1.1=x/\t.2.1=y)\/(t.2.1=x/\t.1.1=y)
theorem aJk{f:ae->aa ae}{t:Tie}{x y:ae}:y∈stN f t x↔y∈f x\/aBn t x y:=by
 unfold stN aBn;rw[U8,U8];constructor
 ·rintro((h|⟨h1,h2⟩)|⟨h1,h2⟩)
  ·exact .inl h
  ·exact .inr (.inl ⟨h1.symm,h2.symm⟩)
  ·exact .inr (.inr ⟨h1.symm,h2.symm⟩)
 ·rintro(h|⟨h1,h2⟩|⟨h1,h2⟩)
  ·exact .inl (.inl h)
  ·exact .inl (.inr ⟨h1.symm,h2.symm⟩)
  ·exact .inr ⟨h1.symm,h2.symm⟩
theorem aJl{f:ae->aa ae}{t:Tie}{x y:ae}:y∈stB f t x↔y∈f x\/(t.1.1≠0/\aBn t x y):=by
 unfold stB;split
 ·rename_i h;simp[h]
 ·rename_i h;have:=aJk (f:=f) (t:=t) (x:=x) (y:=y);unfold stN at this;rw[this];simp[h]
theorem aGq{x y:ae}:∀(V:aa Tie)(f:ae->aa ae),y∈V.foldl stB f x↔y∈f x\/∃t∈V,t.1.1≠0/\aBn t x y
 |[],f=>by simp
 |t::V,f=>by
  rw[ij,aGq V,aJl];simp only[bd,exists_eq_or_imp,vS]
theorem v9{V:aa Tie}{x y:ae}:y∈uI V x↔∃t∈V,t.1.1≠0/\aBn t x y:=by simp[uI,aGq]
theorem IV(f:ae->aa ae)(x y n:ae):(U7 f x y n).length<=(f n).length+1:=by
 unfold U7;split<;>simp
theorem aBo:∀(V:aa Tie)(f:ae->aa ae)(x:ae),(V.foldl stB f x).length<=(f x).length+2*V.length
 |[],f,x=>by simp
 |t::V,f,x=>by
  have h1:=aBo V (stB f t) x;have h2:=IV (U7 f t.1.1 t.2.1) t.2.1 t.1.1 x;have h3:=IV f t.1.1 t.2.1 x;have h4:(stB f t x).length<=(f x).length+2:=by
   unfold stB;split
   ·lia
   ·lia
  rw[ij,b9];lia
section
variable {Q:aa Pc} {V:aa Tie}
theorem j6(w:Wf Q V):∀x∈Q.map (·.1),∀y∈uI V x,y∈Q.map (·.1):=λx _ y hy=>by
 obtain⟨t,ht,h0,hj⟩:=v9.mp hy;rcases w.ok t ht with ⟨h1,_⟩|⟨h1,h2⟩
 ·exact az h1 h0
 ·rcases hj with ⟨_,h⟩|⟨_,h⟩
  ·exact h▸h2
  ·exact h▸h1
theorem M9(V:aa Tie):∀x y,y∈uI V x->x∈uI V y:=λx y hy=>by
 obtain⟨t,ht,h0,hj⟩:=v9.mp hy;exact v9.mpr ⟨t,ht,h0,hj.symm.imp (λ⟨a,b⟩=>⟨b,a⟩) λ⟨a,b⟩=>⟨b,a⟩⟩
end
theorem IW{a:FE}{t:D->aa D->Res (aa D)}{body:FS}{ρ:aa D}{xs:aa D}{r:Res Fl}(h1:a ρ=.ok (.tup xs))(hp:θ xs=ag)(h2:o_ t body xs ρ=r):u_ (cX a ai) t body ρ=r:=by
 refine mW ?_ h2;have:=kJ (fr:=ai) h1 (show o8 (.tup xs)=.ok xs from rfl);rw[this,l7,D.pure,hp]
theorem Wf.nd{Q:aa Pc}{V:aa Tie}(w:Wf Q V):(Q.map (·.1)).Nodup:=w.qs.imp λ{a b} h=>by lia
def aPw:FS:=(sIf (bTB (b2 (b8 .ne) (b2 getD d8 cV) cV)) (bH (QV 1 (b2 getD d8 cV) (b2 getD fH cV)) (QV 1 (b2 getD fH cV) (b2 getD d8 cV))) jH)
theorem aBp{Q ys zs:aa Pc}{V:aa Tie}{a:Pc}(w:Wf Q V)(e:Q=ys++a::zs):a.1∉ys.map (·.1):=λz=>by
 have h:=w.qs;rw[e,ce,aT,rn] at h;have:=h.2.2 a.1 z a.1 (bh ..);lia
theorem I_{Q:aa Pc}{V:aa Tie}{r:ae}(w:Wf Q V):cD 1 kW [bL Q V r]=.ok (.dct (dA (Q.map (·.1)) (uI V))):=by
 refine(dF rfl).trans ?_;have ql:=w.ql;obtain⟨ρ1,e1,x2,x3,rfl⟩:=bU (t:=tgN [2,3]) (body:=aAy 1 fD) (d:=pcD) (I:=λys ρ=>∃a b,ρ=[bL Q V r,.dct (dA (ys.map (·.1)) λ_=>[]),a,b,.uD,.uD]) Q (λys a zs ρ e ⟨x,y,h⟩=>by
  subst h;refine⟨_,_,rfl,aJj (i:=1) (M:=ys.map (·.1)) (x:=a.1) rfl rfl (aBp w e) (by rw[e] at ql;simp at ql ⊢;lia),.int a.1,.str a.2,?_⟩;rw[ce];rfl) (ρ:=[bL Q V r,.dct [],.uD,.uD,.uD,.uD]) ⟨.uD,.uD,rfl⟩
 obtain⟨ρ2,e2,x2,x3,x4,x5,rfl⟩:=bU (t:=tgN [4,5]) (body:=aPw) (d:=bI) (I:=λys ρ=>∃a b c d,ρ=[bL Q V r,.dct (dA (Q.map (·.1)) (uI ys)),a,b,c,d]) V (λys t zs ρ e ⟨x,y,z,u,h⟩=>by
  subst h;have ht:t∈V:=by rw[e];simp
  have hl:ys.length<=1000:=by have:=w.vl;rw[e] at this;simp at this;lia
  have hb:∀n,(uI ys n).length<=2000:=λn=>by have:=aBo ys (λ_=>[]) n;unfold uI;simp at this;lia
  have ha:uI (ys++[t])=stB (uI ys) t:=by unfold uI;rw[u3];rfl
  refine⟨[bL Q V r,.dct (dA (Q.map (·.1)) (uI ys)),x,y,enP t.1,enP t.2],[bL Q V r,.dct (dA (Q.map (·.1)) (uI (ys++[t]))),x,y,enP t.1,enP t.2],rfl,?_,x,y,_,_,rfl⟩;have hc:b8 .ne (.int t.1.1) (.int 0)=.ok (.bl (!ϒ (t.1.1=0))):=by
   rw[<-dI];rfl
  by_cases h0:t.1.1=0
  ·refine rB (cJ (aH (x:=.int t.1.1) rfl rfl (hc.trans (by rw[bq h0];rfl)))) ?_;rw[ha,stB,ar h0];rfl
  ·have hm:t.1.1∈Q.map (·.1)/\t.2.1∈Q.map (·.1):=(w.ok t ht).resolve_left λz=>h0 z.1
   refine vW (cJ (aH (x:=.int t.1.1) rfl rfl (hc.trans (by rw[bP h0];rfl)))) ?_;have a1:=aBl (f:=uI ys) (y:=t.2.1) w.nd hm.1 (by have:=hb t.1.1;lia);have a2:=aBl (f:=U7 (uI ys) t.1.1 t.2.1) (y:=t.1.1) w.nd hm.2 (by have:=hb t.2.1;have:=IV (uI ys) t.1.1 t.2.1 t.2.1;lia);refine aJ (aBm (i:=1) rfl (k:=.int t.1.1) rfl (e:=.int t.2.1) rfl a1) ?_;refine(aBm (i:=1) rfl (k:=.int t.2.1) rfl (e:=.int t.1.1) rfl a2).trans ?_;rw[ha,stB,aq h0];rfl) (ρ:=[bL Q V r,.dct (dA (Q.map (·.1)) λ_=>[]),x2,x3,.uD,.uD]) ⟨_,_,_,_,rfl⟩
 have e:nU [bL Q V r,.uD,.uD,.uD,.uD,.uD]=.ok (.rt (.dct (dA (Q.map (·.1)) (uI V)))):=by
  refine aJ (ρ':=[bL Q V r,.dct [],.uD,.uD,.uD,.uD]) rfl ?_;refine aJ (IW (xs:=Q.map pcD) rfl (sZ Q) e1) ?_;refine aJ (IW (xs:=V.map bI) rfl (tD V) e2) ?_;rfl
 show(do let r <- nU _;aM7 r)=_;rw[show([bL Q V r]++b5 (6-1) D.uD)=[bL Q V r,.uD,.uD,.uD,.uD,.uD] from rfl,e];rfl
noncomputable def kT(R:aa ae):aa (D×D):=R.map λr=>(.int r,.bl ag)
theorem aBq{x:ae}:∀{R:aa ae},(bA (kT R) (.int x)).isSome=ϒ (x∈R)
 |[]=>by simp[kT,bA]
 |r::R=>by
  show(if eqD (.int r) (.int x) then af (ξ ag) else bA (kT R) (.int x)).isSome=_;rw[dI];by_cases e:r=x
  ·subst e;simp
  ·rw[bP e,aq (by simp)];refine aBq.trans (rS.mpr ?_);simp[Ne.symm e]
theorem aBr{x:ae}:∀{R:aa ae},x∉R->putD (kT R) (.int x) (.bl ag)=kT (R++[x])
 |[],_=>rfl
 |r::R,h=>by
  rw[bd,fy] at h;show(if eqD (.int r) (.int x) then _ else _)=_;rw[dI,bP (Ne.symm h.1),aq (by simp)];show(δ r,ξ ag)::putD (kT R) (.int x) (.bl ag)=_;rw[aBr h.2];rfl
theorem aBs(R:aa ae)(x:ae):lE (kT R) (.int x)=ag:=by
 unfold lE;rw[bc];refine⟨rfl,dm.mpr λp hp=>?_⟩;obtain⟨r,_,rfl⟩:=ax.mp hp;rfl
theorem v_(R:aa ae)(x:ae):b8 .oZ (.int x) (.dct (kT R))=.ok (.bl (!ϒ (x∈R))):=by
 show(if lE (kT R) (.int x) then ε (ξ (!(bA (kT R) (.int x)).isSome)) else .bad)=_;rw[aBs,ar rfl,aBq]
theorem yF(U:aa ae)(hz:U.length<64):bB (U.map δ)=ag:=by
 unfold bB;rw[bq (by rw[ay];exact hz),gx];refine dm.mpr λd hd=>?_
 obtain⟨t,ht,rfl⟩:=ax.mp hd;have hk:fC ((U.map δ).headD .non)=1:=by
  cases U with
  |nil=>cases ht
  |cons u U=>rfl
 rw[hk];have:((U.map δ).all λb=>(iM .lt (.int t) b).isSome)=ag:=by
  refine dm.mpr λb hb=>?_
  obtain⟨u,_,rfl⟩:=ax.mp hb;rfl
 rw[this];rfl
theorem aJm(R:aa ae):J6 (kT R)=R.map δ:=by
 unfold J6 kT;rw[bu];rfl
theorem aBt(R:aa ae)(hz:R.length<64):sortedK [.dct (kT R)]=.ok (.lst ((sortI R).map δ)):=by
 have h1:(kT R).all (λp=>!isTup p.1)=ag:=by
  refine dm.mpr λp hp=>?_
  obtain⟨r,_,rfl⟩:=ax.mp hp;rfl
 show(if (kT R).all (λp=>!isTup p.1)&&bB (J6 (kT R)) then ε (υ (iR (J6 (kT R)))) else .bad)=_;rw[h1,aJm,yF R hz,aBj];rfl
theorem tK(a:ae):∀(ys R:aa ae),news R (ys++[a])=news R ys++(if a∈R++news R ys then [] else [a])
 |[],R=>by simp[news]
 |y::ys,R=>by
  rw[eu,news,news];split
  ·exact tK a ys R
  ·rw[tK a ys (R++[y])];simp
theorem wA:∀(ys R:aa ae),(news R ys).length<=ys.length
 |[],R=>by simp[news]
 |y::ys,R=>by
  rw[news];split
  ·have:=wA ys R;simp only[b9];lia
  ·have:=wA ys (R++[y]);simp only[b9];lia
def hbody:FS:=(sIf (bTB (b2 (b8 .oZ) fH fD)) (bH (rU 2 fH (bC (.bl ag))) (o9 3 fH)) jH)
def hloop:FS:=(bH (aEi 3 4) (K6 0 d8 (tg1 5) hbody))
theorem aNh{M:aa ae}{f:ae->aa ae}{c:ae}(h:c∈M):dgI (.dct (dA M f)) (.int c)=.ok ((f c).map δ):=by
 have e:=RG (f:=f) h;simp only[dgI,fZ,e,cx];rfl
theorem aF1{i:ah}{fk:FE}{t:D->aa D->Res (aa D)}{body:FS}{ρ:aa D}{d k:D}{xs:aa D}{r:Res Fl}(h1:iU i ρ=.ok d)(h2:fk ρ=.ok k)(h3:dgI d k=.ok xs)(h4:o_ t body xs ρ=r):K6 i fk t body ρ=r:=by
 unfold K6;rw[h1,τ,h2,τ,h3,τ,h4]
section
variable {M:aa ae} {f:ae->aa ae} {s:ae}
def hst(M:aa ae)(f:ae->aa ae)(s:ae)(R W:aa ae)(x y:D):aa D:=[.dct (dA M f),.int s,.dct (kT R),.lst (W.map δ),x,y]
theorem XX{R W:aa ae}{c:ae}{y:D}(hR:R.length<=1000)(hW:W.length<=1000)(hf:(f c).length<=5000):∃y',o_ (tg1 5) hbody ((f c).map δ) (hst M f s R W (.int c) y)=.ok (.nx (hst M f s (R++news R (f c)) (W++news R (f c)) (.int c) y')):=by
 obtain⟨ρ,e,y',rfl⟩:=bU (t:=tg1 5) (body:=hbody) (d:=δ) (I:=λys ρ=>∃y',ρ=hst M f s (R++news R ys) (W++news R ys) (.int c) y') (f c) (λys a zs ρ e ⟨y',h⟩=>by
  subst h;have hl:ys.length<=5000:=by rw[e] at hf;simp at hf;lia
  have hn:=wA ys R;refine⟨hst M f s (R++news R ys) (W++news R ys) (.int c) (.int a),hst M f s (R++news R (ys++[a])) (W++news R (ys++[a])) (.int c) (.int a),rfl,?_,_,rfl⟩;rw[tK];by_cases ha:a∈R++news R ys
  ·rw[ar ha,dy];exact rB (cJ (aH rfl rfl ((v_ _ a).trans (by rw[bq ha];rfl)))) rfl
  ·rw[aq ha,<-c_,<-c_];refine vW (cJ (aH rfl rfl ((v_ _ a).trans (by rw[bP ha];rfl)))) ?_;refine aJ (mX (i:=2) (kvs:=kT (R++news R ys)) (k:=.int a) (d:=.bl ag) rfl rfl rfl (by rw[kT,ay,cb,bK];lia) (aBs _ a) rfl) ?_;refine(mY (i:=3) (xs:=(W++news R ys).map δ) (d:=.int a) rfl rfl (by rw[ay,cb,bK];lia) rfl).trans ?_;rw[aBr ha];unfold hst;rw[ce (l₁:=W++news R ys)];rfl) (ρ:=hst M f s R W (.int c) y) ⟨y,by simp[news]⟩
 exact⟨y',e⟩
theorem aBu(hs:s∈M)(hc:∀x∈M,∀y∈f x,y∈M)(hM:M.length<=100)(hf:∀x,(f x).length<=5000):∀(m:ah),m<=500->∀(R W:aa ae)(x y:D),Dv f s R W->M.length+W.length<=m+R.length->∃R' x' y',Dv f s R' []/\∀fuel,m<fuel->BZ (bTr gB) hloop fuel (hst M f s R W x y)=.ok (.nx (hst M f s R' [] x' y')):=by
 intro m;induction m with
 |zero=>
  intro _ R W x y dv hm;have:=dv.len hs hc;have hW:W=[]:=oy (by lia);subst hW;refine⟨R,x,y,dv,λfuel hfu=>?_⟩;obtain⟨k,rfl⟩:∃k,fuel=k+1:=⟨fuel-1,by lia⟩
  exact uH rfl
 |succ m ih=>
  intro hm5 R W x y dv hm;rcases List.eq_nil_or_concat W with rfl|⟨W0,c,rfl⟩
  ·refine⟨R,x,y,dv,λfuel hfu=>?_⟩;obtain⟨k,rfl⟩:∃k,fuel=k+1:=⟨fuel-1,by lia⟩
   exact uH rfl
  ·rw[List.concat_eq_append] at dv hm ⊢;have hR:=dv.len hs hc;have hWR:(W0++[c]).length<=m+1+R.length:=by lia
   have hcM:c∈M:=(dv.rc c (dv.wR c (by simp))).mem hs hc;simp only[cb,fx] at hm hWR;obtain⟨y1,e1⟩:=XX (M:=M) (f:=f) (s:=s) (R:=R) (W:=W0) (c:=c) (y:=y) (by lia) (by lia) (hf c);obtain⟨R',x',y',d1,d2⟩:=ih (by lia) (R++news R (f c)) (W0++news R (f c)) (.int c) y1 dv.step (by simp only[cb];lia);refine⟨R',x',y',d1,λfuel hfu=>?_⟩;obtain⟨k,rfl⟩:∃k,fuel=k+1:=⟨fuel-1,by lia⟩
   have ht:(bTr gB) (hst M f s R (W0++[c]) x y)=.ok ag:=by
    show aP9 (.lst ((W0++[c]).map δ))=_;show ε (!((W0++[c]).map δ).isEmpty)=_;simp
   refine tG ht (ρ':=hst M f s (R++news R (f c)) (W0++news R (f c)) (.int c) y1) ?_ (d2 k (by lia));refine aJ (ρ':=hst M f s R W0 (.int c) y) ?_ (aF1 (i:=0) (k:=.int c) rfl rfl (aNh hcM) e1);have hp:((W0++[c]).map δ)[((W0++[c]).map δ).length-1]?=af (.int c):=by simp
   show(match ((W0++[c]).map δ)[((W0++[c]).map δ).length-1]? with|some z=>ε (Fl.nx (((hst M f s R (W0++[c]) x y).set 3 (.lst ((W0++[c]).map δ).dropLast)).set 4 z))|none=>.bad)=_;rw[hp];simp[hst]
theorem X3(hs:s∈M)(hc:∀x∈M,∀y∈f x,y∈M)(hM:M.length<=50)(hf:∀x,(f x).length<=5000):∃R:aa ae,R.Nodup/\(∀x,x∈R↔Rc f s x)/\cD 2 cA [.dct (dA M f),.int s]=.ok (.lst ((sortI R).map δ)):=by
 obtain⟨R,x,y,dv,e⟩:=aBu hs hc (by lia) hf M.length (by lia) [s] [s] .uD .uD (dv0 f s) (by simp);refine⟨R,dv.nd,λx=>dv.fin,(dF rfl).trans ?_⟩;have fin:iJ [.dct (dA M f),.int s,.uD,.uD,.uD,.uD]=.ok (.rt (.lst ((sortI R).map δ))):=by
  refine aJ (ρ':=[.dct (dA M f),.int s,.dct (kT [s]),.uD,.uD,.uD]) (dN (i:=2) (aH rfl rfl rfl) rfl) ?_;refine aJ (ρ':=hst M f s [s] [s] .uD .uD) (dN (i:=3) rfl rfl) ?_;refine aJ (e 1000 (by lia)) ?_;exact fG (aL (xs:=[.dct (kT R)]) (aC rfl rfl) (aBt R (by have:=dv.len hs hc;lia))) rfl
 show(do let r <- iJ _;aM7 r)=_;rw[show([D.dct (dA M f),δ s]++b5 (6-2) D.uD)=[.dct (dA M f),.int s,.uD,.uD,.uD,.uD] from rfl,fin];rfl
end
theorem yG(t:Tie)(V:aa Tie):ends (t::V)=t.1::t.2::ends V:=rfl
theorem mO{V:aa Tie}{t:Tie}(h:t∈V):t.1∈ends V/\t.2∈ends V:=by
 unfold ends;exact⟨fA.mpr ⟨t,h,by simp⟩,fA.mpr ⟨t,h,by simp⟩⟩
def yV(V:aa Tie)(e f:Pt):Prop:=(e,f)∈V\/(f,e)∈V
theorem yV.mem{V:aa Tie}{e f:Pt}(h:yV V e f):e∈ends V/\f∈ends V:=by
 rcases h with h|h
 ·exact mO h
 ·exact⟨(mO h).2,(mO h).1⟩
theorem yV.symm{V:aa Tie}{e f:Pt}(h:yV V e f):yV V f e:=Or.symm h
theorem aJn{V:aa Tie}{e:Pt}(h:e∈ends V):∃f,yV V e f:=by
 obtain⟨t,ht,h⟩:=fA.mp h;rcases bd.mp h with h|h
 ·exact⟨t.2,.inl (by rw[h];exact ht)⟩
 ·exact⟨t.1,.inr (by rw[show e=t.2 by simpa using h];exact ht)⟩
theorem M_{t:Tie}{V:aa Tie}{e f:Pt}(h:yV (t::V) e f)(h1:t.1≠e)(h2:t.2≠e):yV V e f:=by
 rcases h with h|h
 ·rcases bd.mp h with h|h
  ·exact az (by rw[<-h]) h1
  ·exact .inl h
 ·rcases bd.mp h with h|h
  ·exact az (by rw[<-h]) h2
  ·exact .inr h
theorem tM{t:Tie}{V:aa Tie}{e f:Pt}(hn:(ends (t::V)).Nodup)(h:yV (t::V) e f):(t.1=e->t.2=f)/\(t.2=e->t.1=f):=by
 rw[yG,cj,cj,bd,fy] at hn;have key:e=t.1\/e=t.2->t=(e,f)\/t=(f,e):=λhe=>by
  have hv:e∉ends V:=by
   rcases he with he|he
   ·rw[he];exact hn.1.2
   ·rw[he];exact hn.2.1
  rcases h with h|h
  ·rcases bd.mp h with h|h
   ·exact .inl h.symm
   ·exact az (mO h).1 hv
  ·rcases bd.mp h with h|h
   ·exact .inr h.symm
   ·exact az (mO h).2 hv
 refine⟨λz=>?_,λz=>?_⟩
 ·rcases key (.inl z.symm) with h|h
  ·rw[h]
  ·rw[h] at hn z;exact az (show f=e from z) hn.1.1
 ·rcases key (.inr z.symm) with h|h
  ·rw[h] at hn z;exact az (show e=f from z.symm) hn.1.1
  ·rw[h]
theorem NB{e f g:Pt}:∀{V:aa Tie},(ends V).Nodup->yV V e f->yV V e g->f=g
 |[],_,h,_=>by rcases h with h|h<;>cases h
 |t::V,hn,h1,h2=>by
  by_cases z:t.1=e
  ·rw[<-(tM hn h1).1 z,<-(tM hn h2).1 z]
  ·by_cases y:t.2=e
   ·rw[<-(tM hn h1).2 y,<-(tM hn h2).2 y]
   ·rw[yG,cj,cj] at hn;exact NB hn.2.2 (M_ h1 z y) (M_ h2 z y)
theorem aJo{Q:aa Pc}{V:aa Tie}{r:ae}{ρ:aa D}:cX (b2 getD fL eU) ai (bL Q V r::ρ)=.ok (V.map bI,ag):=by
 refine(kJ (d:=.tup (V.map bI)) (xs:=V.map bI) (aH rfl rfl rfl) rfl).trans ?_;rw[tD];rfl
noncomputable def norm(t:Tie):Tie:=(if ltP t.2 t.1 then t.2 else t.1,if ltP t.1 t.2 then t.2 else t.1)
def kvD(kv:Pt×Pt):D×D:=(enP kv.1,enP kv.2)
noncomputable def aNi:aa (Pt×Pt)->Pt->Pt->aa (Pt×Pt)
 |[],p,q=>[(p,q)]
 | (k,v)::r,p,q=>if k=p then (k,q)::r else (k,v)::aNi r p q
noncomputable def zT:aa (Pt×Pt)->Pt->av Pt
 |[],_=>am
 | (k,v)::r,p=>if k=p then af v else zT r p
theorem aBv(p q:Pt):∀m:aa (Pt×Pt),putD (m.map kvD) (enP p) (enP q)=(aNi m p q).map kvD
 |[]=>rfl
 | (k,v)::r=>by
  rw[aT,kvD,putD,x_,aNi];by_cases h:k=p
  ·simp[h,kvD]
  ·simp only[h,Bk,hG,cK];rw[aBv p q r];rfl
theorem RJ(p:Pt):∀m:aa (Pt×Pt),bA (m.map kvD) (enP p)=(zT m p).map enP
 |[]=>rfl
 | (k,v)::r=>by
  rw[aT,kvD,bA,x_,zT];by_cases h:k=p
  ·simp[h]
  ·simp only[h,Bk,hG,cK];exact RJ p r
theorem aJp(m:aa (Pt×Pt))(p:Pt):lE (m.map kvD) (enP p)=ag:=by
 unfold lE;rw[show keyOk (enP p)=ag from rfl,gx,dm];intro x hx;obtain⟨y,_,rfl⟩:=ax.mp hx;rfl
theorem JB{p q:Pt}:∀{m:aa (Pt×Pt)},p∉m.map (·.1)->aNi m p q=m++[(p,q)]
 |[],_=>rfl
 | (k,v)::r,h=>by
  rw[aT,bd,fy] at h;rw[aNi,aq (λz=>h.1 z.symm),JB h.2];rfl
theorem NK{p q:Pt}:∀{m:aa (Pt×Pt)},(m.map (·.1)).Nodup->(p,q)∈m->zT m p=af q
 | (k,v)::r,hn,h=>by
  rw[aT,cj] at hn;rw[zT];rcases bd.mp h with e|h
  ·cases e;rw[ar rfl]
  ·rw[aq,NK hn.2 h];rintro rfl;exact hn.1 (ax.mpr ⟨_,h,rfl⟩)
noncomputable def both(T:aa Tie):aa (Pt×Pt):=T.flatMap λt=>[(t.1,t.2),(t.2,t.1)]
theorem tO(T:aa Tie):(both T).map (·.1)=ends T:=by
 induction T with
 |nil=>rfl
 |cons t T ih=>simp only[both,ends,fS,ce] at *;rw[ih];rfl
theorem aF2(T:aa Tie):(both T).length=2*T.length:=by
 induction T with
 |nil=>rfl
 |cons t T ih=>simp only[both,fS,cb,b9,dS] at *;lia
theorem aF3{V:aa Tie}{e f:Pt}:yV V e f->(e,f)∈both V:=λh=>by
 unfold both;rcases h with h|h
 ·exact fA.mpr ⟨_,h,by simp⟩
 ·exact fA.mpr ⟨_,h,by simp⟩
theorem look_both{V:aa Tie}{e f:Pt}(hn:(ends V).Nodup)(h:yV V e f):zT (both V) e=af f:=NK (by rw[tO];exact hn) (aF3 h)
def aPx:FS:=bH (rU 1 fD gB) (rU 1 gB fD)
theorem CP{a:D}:∀(T S:aa Tie)(p q:D),(ends (S++T)).Nodup->2*(S++T).length<lim->∃p' q',o_ (tgN [2,3]) aPx (T.map bI) [a,.dct ((both S).map kvD),p,q]=.ok (.nx [a,.dct ((both (S++T)).map kvD),p',q'])
 |[],S,p,q,_,_=>⟨p,q,by rw[dy];rfl⟩
 |t::T,S,p,q,hn,hl=>by
  have hS:S++t::T=S++[t]++T:=by simp
  obtain⟨p',q',e⟩:=CP (a:=a) T (S++[t]) (enP t.1) (enP t.2) (by rw[<-hS];exact hn) (by rw[<-hS];exact hl);refine⟨p',q',?_⟩;rw[hS,<-e];have hb:both (S++[t])=(both S++[(t.1,t.2)])++[(t.2,t.1)]:=by simp[both]
  have hd:(ends S++([t.1,t.2]++ends T)).Nodup:=by
   have:ends (S++t::T)=ends S++([t.1,t.2]++ends T):=by simp[ends]
   rwa [this] at hn
  have n1:t.1∉(both S).map (·.1):=by
   rw[tO];intro h;exact(eP.mp hd).2.2 _ h t.1 (by simp) rfl
  have n2:t.2∉(both S++[(t.1,t.2)]).map (·.1):=by
   rw[ce,tO];intro h;rcases cf.mp h with h|h
   ·exact(eP.mp hd).2.2 _ h t.2 (by simp) rfl
   ·have e:t.2=t.1:=by simpa using h
    have:=(eP.mp (eP.mp hd).2.1).1;rw[e] at this;simp at this
  have hlen:(both S).length+1<lim:=by
   rw[aF2];rw[cb,b9] at hl;lia
  have s1:=aBv t.1 t.2 (both S);have s2:=aBv t.2 t.1 (both S++[(t.1,t.2)]);rw[JB n1] at s1;rw[JB n2,<-hb] at s2;refine nG (ρ1:=[a,.dct ((both S).map kvD),enP t.1,enP t.2]) (ρ2:=[a,.dct ((both (S++[t])).map kvD),enP t.1,enP t.2]) rfl ?_ rfl;refine aJ (ρ':=[a,.dct ((both S++[(t.1,t.2)]).map kvD),enP t.1,enP t.2]) ?_ ?_
  ·rw[<-s1];exact mX (i:=1) (kvs:=(both S).map kvD) (k:=enP t.1) (d:=enP t.2) rfl rfl rfl (by rw[ay];lia) (aJp _ _) rfl
  ·rw[<-s2];exact mX (i:=1) (kvs:=(both S++[(t.1,t.2)]).map kvD) (k:=enP t.2) (d:=enP t.1) rfl rfl rfl (by rw[ay,cb];exact hlen) (aJp _ _) rfl
theorem aF4{Q:aa Pc}{V:aa Tie}{r:ae}(hn:(ends V).Nodup)(hl:2*V.length<lim):cD 1 oJ [bL Q V r]=.ok (.dct ((both V).map kvD)):=by
 obtain⟨p',q',e⟩:=CP (a:=bL Q V r) V [] .uD .uD (by simpa using hn) (by simpa using hl);refine(dF rfl).trans (call_v ?_);refine aJ (ρ':=[bL Q V r,.dct [],.uD,.uD]) (dN rfl rfl) ?_;refine aJ (mW aJo e) ?_;rfl
noncomputable def unP:D->Pt
 |.tup [.int a,.int b]=>(a,b)
 |_=>(0,0)
theorem aNj(p:Pt):unP (enP p)=p:=rfl
def lU(U:aa Pt):aa Pt:=(iR (U.map enP)).map unP
theorem lV(U:aa Pt):(lU U).Perm U:=by
 have h:=(b_ (U.map enP)).map unP;rw[bu] at h;have e:U.map (unP ∘ enP)=U:=by
  conv=>rhs;rw[<-eW U]
  exact cq λt _=>aNj t
 rw[e] at h;exact h
theorem aBw(U:aa Pt):(lU U).map enP=iR (U.map enP):=by
 unfold lU;rw[bu]
 conv=>rhs;rw[<-eW (iR (U.map enP))]
 refine cq λd hd=>?_
 obtain⟨t,_,rfl⟩:=ax.mp ((b_ (U.map enP)).mem_iff.mp hd);rfl
theorem zU(U:aa Pt)(hz:U.length<64):bB (U.map enP)=ag:=by
 unfold bB;rw[bq (by rw[ay];exact hz),gx];refine dm.mpr λd hd=>?_
 obtain⟨t,ht,rfl⟩:=ax.mp hd;have hk:fC ((U.map enP).headD .non)=3:=by
  cases U with
  |nil=>cases ht
  |cons u U=>rfl
 have h5:fC (enP t)=3:=rfl;have hp:(enP t).plain=ag:=rfl;have hq:(enP t).eO aM=ag:=rfl;rw[hk,h5,hp,hq];refine dm.mpr λb hb=>?_
 obtain⟨u,_,rfl⟩:=ax.mp hb;rw[qP];rfl
theorem X4{U:aa Pt}(hn:U.Nodup):(lU U).Pairwise ltP:=by
 have h:=dR (U.map enP);rw[<-aBw,cz] at h;have hn':(lU U).Nodup:=(lV U).nodup_iff.mpr hn;refine(List.pairwise_and_iff.mpr ⟨h,hn'⟩).imp λ{a b} hab=>?_
 obtain⟨h1,h2⟩:=hab;have e:=wQ (enP b) (enP a) _ rfl rfl (qP b a);unfold leE at h1;rw[<-e] at h1;have h3:¬ltP b a:=by simpa using h1
 unfold ltP at h3 ⊢;have:a.1≠b.1\/a.2≠b.2:=by
  by_cases z:a.1=b.1
  ·exact .inr λy=>h2 (Prod.ext z y)
  ·exact .inl z
 lia
def mt(V:aa Tie)(e:Pt):Pt:=(zT (both V) e).getD e
theorem JC{V:aa Tie}{e f:Pt}(hn:(ends V).Nodup)(h:yV V e f):mt V e=f:=by
 unfold mt;rw[look_both hn h];rfl
theorem yH{V:aa Tie}{e:Pt}(hn:(ends V).Nodup)(h:e∈ends V):yV V e (mt V e):=by
 obtain⟨f,hf⟩:=aJn h;rw[JC hn hf];exact hf
noncomputable def pS(p:aa ae):D:=.scr (p.map δ)
theorem aBx{i:ah}{t:D->aa D->Res (aa D)}{body:FS}{ρ xs:aa D}{r:Res Fl}(h1:iU i ρ=.ok (.scr xs))(h2:o_ t body xs ρ=r):yX i t body ρ=r:=by
 unfold yX;rw[h1,τ];exact h2
theorem aNk{f:FE}{ρ xs:aa D}(h:f ρ=.ok (.lst xs))(hp:θ xs=ag):bFz f ρ=.ok (.scr xs):=by
 unfold bFz;rw[h,τ];show(if θ xs then _ else _)=_;rw[hp,ar rfl]
theorem Ps.sub{f:ae->aa ae}{N1 N:aa ae}{F:aa (aa ae)}(h:Ps f N1 F)(hN:∀n∈N1,n∈N)(hc:∀x∈N,∀y∈f x,y∈N):∀x∈F.flatten,x∈N:=λx hx=>by
 obtain⟨p,h1,h2⟩:=vT.mp hx;obtain⟨n,q,e,h3,_,h4⟩:=h.ea p h1;exact((h4 x).mp h2).mem (hN n h3) hc
theorem Ps.len{f:ae->aa ae}{N1 N:aa ae}{F:aa (aa ae)}(h:Ps f N1 F)(hN:∀n∈N1,n∈N)(hc:∀x∈N,∀y∈f x,y∈N):F.flatten.length<=N.length:=mL _ _ h.nd (h.sub hN hc)
def YL(Q:aa Pc)(V:aa Tie):D:=.dct (dA (Q.map (·.1)) (uI V))
def aPy:FS:=(sIf (bTB (b2 (b8 .oZ) d8 fD)) (bH (cF ai 6 (bFz (aO (cD 2 cA) (aD gQ (aD d8 aR)))) ag) (bH (yX 6 (tg1 7) (rU 2 jL (bC (.bl ag)))) (o9 3 fU))) jH)
theorem aF5{a b c d e f g:D}{K p:aa ae}(nd:p.Nodup)(hd:∀x∈p,x∉K)(hl:p.length+K.length<=100000):∃g',o_ (tg1 7) (rU 2 jL (bC (.bl ag))) (p.map δ) [a,b,.dct (kT K),c,d,e,f,g]=.ok (.nx [a,b,.dct (kT (K++p)),c,d,e,f,g']):=by
 obtain⟨ρ,h,x,rfl⟩:=bU (t:=tg1 7) (body:=rU 2 jL (bC (.bl ag))) (d:=δ) (I:=λys ρ=>∃x,ρ=[a,b,.dct (kT (K++ys)),c,d,e,f,x]) p (λys n zs ρ e0 ⟨x,h⟩=>by
  subst h;have hn:n∉K++ys:=λz=>by
   rcases cf.mp z with z|z
   ·exact hd n (by rw[e0];simp) z
   ·rw[e0] at nd;exact(eP.mp nd).2.2 n z n (bh ..) rfl
  have hyl:ys.length<=p.length:=by rw[e0];simp
  refine⟨[a,b,.dct (kT (K++ys)),c,d,e,f,.int n],[a,b,.dct (kT (K++(ys++[n]))),c,d,e,f,.int n],rfl,?_,_,rfl⟩;refine(mX (i:=2) (kvs:=kT (K++ys)) (k:=.int n) (d:=.bl ag) rfl rfl rfl (by rw[kT,ay,cb,bK];lia) (aBs _ n) rfl).trans ?_;rw[aBr hn,c_];rfl) (ρ:=[a,b,.dct (kT K),c,d,e,f,g]) ⟨g,by rw[dy]⟩
 exact⟨x,h⟩
theorem aF6{Q:aa Pc}{V:aa Tie}{r:ae}(w:Wf Q V):∃F:aa (aa ae),Ps (uI V) (Q.map (·.1)) F/\F.length<=40/\cD 1 uF [bL Q V r]=.ok (.lst (F.map pS)):=by
 have ql:=w.ql;have hcl:=j6 w;have hb:∀n,(uI V n).length<=5000:=λn=>by have:=aBo V (λ_=>[]) n;have:=w.vl;unfold uI;simp at *;lia
 obtain⟨ρ1,e1,F,x4,x5,x6,x7,ps,hl,rfl⟩:=bU (t:=tgN [4,5]) (body:=aPy) (d:=pcD) (I:=λys ρ=>∃F x4 x5 x6 x7,Ps (uI V) (ys.map (·.1)) F/\F.length<=ys.length/\ρ=[bL Q V r,YL Q V,.dct (kT F.flatten),.lst (F.map pS),x4,x5,x6,x7]) Q (λys a zs ρ e ⟨F,x4,x5,x6,x7,ps,hl,h⟩=>by
  subst h;have eN:Q.map (·.1)=ys.map (·.1)++a.1::zs.map (·.1):=by rw[e,ce];rfl
  have hsub:∀n∈ys.map (·.1),n∈Q.map (·.1):=λn hn=>by rw[eN];exact dq _ hn
  have haN:a.1∈Q.map (·.1):=by rw[eN];simp
  have hyl:ys.length<=40:=by rw[eN] at ql;simp at ql;lia
  have hK:=ps.len hsub hcl;rw[ce,cb];refine⟨[bL Q V r,YL Q V,.dct (kT F.flatten),.lst (F.map pS),.int a.1,.str a.2,x6,x7],?_⟩;by_cases hn:a.1∈F.flatten
  ·refine⟨_,rfl,rB (cJ (aH (x:=.int a.1) rfl rfl ((v_ _ a.1).trans (by rw[bq hn];rfl)))) rfl,F,_,_,_,_,ps.skip hn,by lia,rfl⟩
  ·obtain⟨R,r1,r2,r3⟩:=X3 (M:=Q.map (·.1)) (f:=uI V) haN hcl (by lia) hb;obtain⟨ps2,hnew⟩:=ps.more (M9 V) (by rw[<-eN];exact w.qs) (by rw[<-eN];exact hcl) hn r1 r2;have hnd:(sortI R).Nodup:=(sortI_perm R).nodup_iff.mpr r1;have hlR:(sortI R).length<=40:=c6 (mL _ _ hnd λx hx=>((r2 x).mp ((sortI_perm R).mem_iff.mp hx)).mem haN hcl) ql;obtain⟨g',hg⟩:=aF5 (a:=bL Q V r) (b:=YL Q V) (c:=.lst (F.map pS)) (d:=.int a.1) (e:=.str a.2) (f:=pS (sortI R)) (g:=x7) (K:=F.flatten) hnd hnew (by lia);refine⟨[bL Q V r,YL Q V,.dct (kT (F.flatten++sortI R)),.lst ((F++[sortI R]).map pS),.int a.1,.str a.2,pS (sortI R),g'],rfl,vW (cJ (aH (x:=.int a.1) rfl rfl ((v_ _ a.1).trans (by rw[bP hn];rfl)))) ?_,F++[sortI R],.int a.1,.str a.2,pS (sortI R),g',ps2,by simp;lia,?_⟩
   ·have r3':cD 2 cA [YL Q V,.int a.1]=.ok (.lst ((sortI R).map δ)):=r3;have c1:aO (cD 2 cA) (aD gQ (aD d8 aR)) [bL Q V r,YL Q V,.dct (kT F.flatten),.lst (F.map pS),.int a.1,.str a.2,x6,x7]=.ok (.lst ((sortI R).map δ)):=aL (aC rfl (aC rfl rfl)) r3';refine aJ (ρ':=[bL Q V r,YL Q V,.dct (kT F.flatten),.lst (F.map pS),.int a.1,.str a.2,pS (sortI R),x7]) (bN (i:=6) (aNk c1 (dO _))) ?_;refine aJ (ρ':=[bL Q V r,YL Q V,.dct (kT (F.flatten++sortI R)),.lst (F.map pS),.int a.1,.str a.2,pS (sortI R),g']) (aBx (i:=6) (xs:=(sortI R).map δ) rfl hg) ?_;refine(mY (i:=3) (xs:=F.map pS) (d:=pS (sortI R)) rfl rfl (by rw[ay,bK];lia) (dO _)).trans ?_;rw[ce];rfl
   ·rw[rq,rL]) (ρ:=[bL Q V r,YL Q V,.dct [],.lst [],.uD,.uD,.uD,.uD]) ⟨[],_,_,_,_,ps0 _,bj _,rfl⟩
 refine⟨F,ps,by rw[ay] at ql;lia,(dF rfl).trans ?_⟩;refine call_v (d:=.lst (F.map pS)) ?_;refine aJ (ρ':=[bL Q V r,YL Q V,.uD,.uD,.uD,.uD,.uD,.uD]) (bN (i:=1) (aL (xs:=[bL Q V r]) (aC rfl rfl) (I_ w))) ?_;refine aJ (ρ':=[bL Q V r,YL Q V,.dct [],.uD,.uD,.uD,.uD,.uD]) (dN (i:=2) rfl rfl) ?_;refine aJ (ρ':=[bL Q V r,YL Q V,.dct [],.lst [],.uD,.uD,.uD,.uD]) (dN (i:=3) rfl rfl) ?_;refine aJ (IW (xs:=Q.map pcD) rfl (sZ Q) e1) ?_;rfl
theorem yI{pc:Pc}:∀{Q:aa Pc},Q.Pairwise LtN->pc∈Q->Q.find? (λc=>ϒ (c.1=pc.1))=af pc
 |[],_,h=>by cases h
 |c::Q,hp,h=>by
  rw[gV];rcases bd.mp h with rfl|h
  ·simp
  ·have h1:=(mS.mp hp).1 pc h;have:¬c.1=pc.1:=by unfold LtN at h1;lia
   rw[bP this];exact yI (mS.mp hp).2 h
def vq(kvs:aa (D×D))(Q:aa Pc)(n:ae):ah:=((Q.find? λc=>ϒ (c.1=n)).map λc=>vOf kvs c.2+1).getD 0
theorem RK{kvs:aa (D×D)}{Q:aa Pc}{pc:Pc}(h:Q.Pairwise LtN)(hp:pc∈Q):vq kvs Q pc.1=vOf kvs pc.2+1:=by
 unfold vq;rw[yI h hp];rfl
theorem aBy{kvs:aa (D×D)}{Q:aa Pc}{V:aa Tie}(w:Net kvs Q V){pc:Pc}(hp:pc∈Q):vOf kvs pc.2<=6:=by
 obtain⟨v,h1,h2⟩:=w.sk pc hp;rw[M8 h2];exact h1
theorem mQ{kvs:aa (D×D)}{Q:aa Pc}{V:aa Tie}(w:Net kvs Q V){pc:Pc}(hp:pc∈Q)(h:ae):(pc.1,h)∈ends V↔0<=h/\h<=vOf kvs pc.2:=by
 obtain⟨S,_,_,p⟩:=w.rims;rw[p.mem_iff,cf,rH];constructor
 ·rintro(⟨c,h1,h2,h3⟩|z)
  ·have e:c=pc:=by
    have a:=yI w.qs h1;have b:=yI w.qs hp;have h2':c.1=pc.1:=h2;rw[h2',b] at a;cases a;rfl
   subst e;exact h3
  ·obtain⟨s,_,e⟩:=ax.mp z;have:=w.qpos pc hp;have e1:(0:ae)=pc.1:=cm mv e;lia
 ·exact λz=>.inl ⟨pc,hp,rfl,z⟩
def eA(V:aa Tie)(n:ae)(k:ah):aa Pt:=(bn k).map λ(j:ah)=>mt V (n,(j:ae))
def ea(kvs:aa (D×D))(Q:aa Pc)(V:aa Tie)(n:ae):aa Pt:=eA V n (vq kvs Q n)
theorem CQ(V:aa Tie)(n:ae)(k:ah):(eA V n k).length=k:=by simp[eA]
theorem aJq(V:aa Tie)(n:ae)(k:ah):eA V n (k+1)=eA V n k++[mt V (n,(k:ae))]:=by simp[eA,lu]
theorem NP{kvs:aa (D×D)}{Q:aa Pc}{V:aa Tie}(w:Net kvs Q V){pc:Pc}(hp:pc∈Q){f:Pt}:f∈ea kvs Q V pc.1↔∃h,yV V (pc.1,h) f:=by
 unfold ea eA;rw[RK w.qs hp];simp only[ax,df];constructor
 ·rintro⟨j,h1,rfl⟩;exact⟨j,yH w.nd ((mQ w hp j).mpr (by lia))⟩
 ·rintro⟨h,ht⟩;have:=(mQ w hp h).mp ht.mem.1;refine⟨h.toNat,by lia,?_⟩;rw[show((h.toNat:ah):ae)=h by lia];exact JC w.nd ht
def dE(M:aa ae)(g:ae->aa Pt):aa (D×D):=M.map λn=>(.int n,.scr ((g n).map enP))
theorem aBz{g:ae->aa Pt}{x:ae}:∀{M:aa ae},x∈M->bA (dE M g) (.int x)=af (.scr ((g x).map enP))
 |m::M,h=>by
  show(if eqD (.int m) (.int x) then af (ν ((g m).map enP)) else bA (dE M g) (.int x))=_;rw[dI];by_cases e:m=x
  ·subst e;rw[bq rfl,ar rfl]
  ·rw[bP e,aq (by simp)];exact aBz ((bd.mp h).resolve_left λz=>e z.symm)
theorem aGr{g:ae->aa Pt}{x:ae}:∀{M:aa ae},x∉M->putD (dE M g) (.int x) (.scr ((g x).map enP))=dE (M++[x]) g
 |[],_=>rfl
 |m::M,h=>by
  show(if eqD (.int m) (.int x) then _ else _)=_;have e:¬m=x:=λz=>h (by rw[z];simp)
  rw[dI,bP e,aq (by simp)];show _::putD (dE M g) (.int x) (.scr ((g x).map enP))=_;rw[aGr λz=>h (bf _ z)];rfl
theorem aNl(M:aa ae)(g:ae->aa Pt)(x:ae):lE (dE M g) (.int x)=ag:=by
 unfold lE;rw[show keyOk (.int x)=ag from rfl,gx,dm];intro p hp;obtain⟨n,_,rfl⟩:=ax.mp hp;rfl
theorem aC0{V:aa Tie}(hn:(ends V).Nodup)(e:Pt):b8 .isin (enP e) (.dct ((both V).map kvD))=.ok (.bl (ϒ (e∈ends V))):=by
 show(if lE ((both V).map kvD) (enP e) then ε (ξ (bA ((both V).map kvD) (enP e)).isSome) else .bad)=_;rw[aJp,ar rfl,RJ];by_cases h:e∈ends V
 ·rw[look_both hn (yH hn h),bq h];rfl
 ·have:zT (both V) e=am:=by
   have key:∀m:aa (Pt×Pt),e∉m.map (·.1)->zT m e=am:=by
    intro m;induction m with
    |nil=>intro _;rfl
    |cons kv m ih=>
     intro z;rw[zT,aq (λq=>z (by rw[<-q];simp))];exact ih λq=>z (bf _ q)
   exact key _ (by rw[tO];exact h)
  rw[this,bP h];rfl
theorem aF7{V:aa Tie}(hn:(ends V).Nodup){e:Pt}(h:e∈ends V):getD (.dct ((both V).map kvD)) (enP e)=.ok (enP (mt V e)):=by
 show(if keyOk (enP e) then ι (bA ((both V).map kvD) (enP e)) else .bad)=_;rw[RJ,look_both hn (yH hn h)];rfl
def aNm:FT:=(bTB (b2 (b8 .isin) (dM (aD gB (aD (aO gC (aD fH aR)) aR))) gQ))
def aNn:FS:=(o9 5 (b2 getD gQ (dM (aD gB (aD (aO gC (aD fH aR)) aR)))))
theorem aJr{net ends_ nm:D}{V:aa Tie}{n:ae}{L:aa Pt}:(dM (aD gB (aD (aO gC (aD fH aR)) aR))) [net,.dct ((both V).map kvD),ends_,.int n,nm,.lst (L.map enP)]=.ok (enP (n,(L.length:ae))):=by
 refine dD (xs:=[.int n,.int L.length]) (aC rfl (aC (aL (xs:=[.lst (L.map enP)]) (aC rfl rfl) (aQp L)) rfl)) (by rw[bK];simp)
theorem aGs{net ends_ nm:D}{kvs:aa (D×D)}{Q:aa Pc}{V:aa Tie}(w:Net kvs Q V){pc:Pc}(hp:pc∈Q):∀(m k fuel:ah),k+m=vOf kvs pc.2+1->m<fuel->
  BZ aNm aNn fuel [net,.dct ((both V).map kvD),ends_,.int pc.1,nm,.lst ((eA V pc.1 k).map enP)]=.ok (.nx [net,.dct ((both V).map kvD),ends_,.int pc.1,nm,.lst ((eA V pc.1 (vOf kvs pc.2+1)).map enP)])
 |0,k,fuel,h,hf=>by
  obtain⟨f,rfl⟩:∃f,fuel=f+1:=⟨fuel-1,by lia⟩
  have e:k=vOf kvs pc.2+1:=by lia
  subst e;refine uH (cJ (aH aJr rfl ((aC0 w.nd _).trans ?_)));rw[CQ,bP];rw[mQ w hp];lia
 |m+1,k,fuel,h,hf=>by
  obtain⟨f,rfl⟩:∃f,fuel=f+1:=⟨fuel-1,by lia⟩
  have v6:=aBy w hp;have hin:(pc.1,((eA V pc.1 k).length:ae))∈ends V:=by
   rw[CQ,mQ w hp];lia
  refine tG (cJ (aH aJr rfl ((aC0 w.nd _).trans ?_))) ?_ (aGs w hp m (k+1) f (by lia) (by lia))
  ·rw[bq hin]
  ·refine(mY (i:=5) (xs:=(eA V pc.1 k).map enP) (d:=enP (mt V (pc.1,(k:ae)))) (aH rfl aJr ?_) rfl (by rw[ay,CQ,bK];lia) rfl).trans ?_
   ·have:=aF7 w.nd hin;rw[CQ] at this ⊢;exact this
   ·rw[aJq,ce];rfl
theorem aGt{i:ah}{f:FE}{g:FS}{ρ xs:aa D}{r:Res Fl}(h1:f ρ=.ok (.lst xs))(hp:θ xs=ag)(h2:g (ρ.set i (.lst xs))=r):aGk i f g ρ=r:=by
 unfold aGk;rw[h1,τ];show(if θ xs then _ else _)=_;rw[hp,ar rfl,h2]
theorem RL{f g:FS}{ρ ρ':aa D}{r:Res Fl}(h1:f ρ=.ok (.nx ρ'))(h2:g ρ'=r):uC f g ρ=r:=by
 unfold uC;rw[h1,τ];exact h2
theorem aC1{i:ah}{g:FS}{ρ xs:aa D}{r:Res Fl}(h1:ρ.getD i .uD=.lst xs)(h2:g (ρ.set i (.scr xs))=r):yZ i g ρ=r:=by
 unfold yZ;rw[h1];exact h2
theorem aC2(L:aa Pt):(ν (L.map enP)).pure=ag:=nW L
def aPz:FS:=(aGk 5 (yS aR) (uC (aIj aNm aNn) (yZ 5 (rU 2 gB fH))))
theorem aJs{kvs:aa (D×D)}{Q:aa Pc}{V:aa Tie}{r:ae}(w:Net kvs Q V):cD 1 iH [bL Q V r]=.ok (.dct (dE (Q.map (·.1)) (ea kvs Q V))):=by
 have ql:=w.ql;have wf:=w.wf;obtain⟨ρ1,e1,x3,x4,x5,rfl⟩:=bU (t:=tgN [3,4]) (body:=aPz) (d:=pcD) (I:=λys ρ=>∃a b c,ρ=[bL Q V r,.dct ((both V).map kvD),.dct (dE (ys.map (·.1)) (ea kvs Q V)),a,b,c]) Q (λys a zs ρ e ⟨x,y,z,h⟩=>by
  subst h;have ha:a∈Q:=by rw[e];simp
  have hyl:ys.length<=30:=by rw[e] at ql;simp at ql;lia
  have hnew:=aBp wf e;have v6:=aBy w ha;refine⟨[bL Q V r,.dct ((both V).map kvD),.dct (dE (ys.map (·.1)) (ea kvs Q V)),.int a.1,.str a.2,z],[bL Q V r,.dct ((both V).map kvD),.dct (dE ((ys++[a]).map (·.1)) (ea kvs Q V)),.int a.1,.str a.2,.scr ((ea kvs Q V a.1).map enP)],rfl,?_,_,_,_,rfl⟩;refine aGt (i:=5) (xs:=[]) rfl rfl ?_;refine RL (ρ':=[bL Q V r,.dct ((both V).map kvD),.dct (dE (ys.map (·.1)) (ea kvs Q V)),.int a.1,.str a.2,.lst ((ea kvs Q V a.1).map enP)]) ?_ ?_
  ·have:=aGs (net:=bL Q V r) (ends_:=.dct (dE (ys.map (·.1)) (ea kvs Q V))) (nm:=.str a.2) w ha (vOf kvs a.2+1) 0 1000 (by lia) (by lia);unfold ea;rw[RK w.qs ha];exact this
  ·refine aC1 (i:=5) rfl ?_;refine(mX (i:=2) (kvs:=dE (ys.map (·.1)) (ea kvs Q V)) (k:=.int a.1) (d:=.scr ((ea kvs Q V a.1).map enP)) rfl rfl rfl (by rw[dE,ay,ay,bK];lia) (aNl _ _ _) (aC2 _)).trans ?_;rw[aGr hnew,ce];rfl) (ρ:=[bL Q V r,.dct ((both V).map kvD),.dct [],.uD,.uD,.uD]) ⟨_,_,_,rfl⟩
 refine(dF rfl).trans (call_v ?_);refine aJ (ρ':=[bL Q V r,.dct ((both V).map kvD),.uD,.uD,.uD,.uD]) (bN (i:=1) (aL (xs:=[bL Q V r]) (aC rfl rfl) (aF4 w.nd (by have:=w.small;rw[bK];lia)))) ?_;refine aJ (ρ':=[bL Q V r,.dct ((both V).map kvD),.dct [],.uD,.uD,.uD]) (dN (i:=2) rfl rfl) ?_;refine aJ (IW (xs:=Q.map pcD) rfl (sZ Q) e1) ?_;rfl
noncomputable def fQ(s:Str)(l:aa ae):aa D:=.str s::l.map δ
def aQ0(d:D):Prop:=∃(s:Str)(l:aa ae),d=.scr (fQ s l)
def jD(ds:aa D):Prop:=∀d∈ds,aQ0 d
theorem JD(o:fX):∀a b:aa ae,∃k,cU o (a.map δ) (b.map δ)=af k
 |[],b=>⟨_,rfl⟩
 |x::a,[]=>⟨_,rfl⟩
 |x::a,y::b=>by
  obtain⟨k,h⟩:=JD o a b;show ∃k,(if eqD (.int x) (.int y) then cU o (a.map δ) (b.map δ) else iM o (.int x) (.int y))=af k;split
  ·exact⟨k,h⟩
  ·exact⟨_,rfl⟩
theorem U9(o:fX)(s s':Str)(l l':aa ae):∃k,cU o (fQ s l) (fQ s' l')=af k:=by
 obtain⟨k,h⟩:=JD o l l';show ∃k,(if eqD (.str s) (.str s') then cU o (l.map δ) (l'.map δ) else iM o (.str s) (.str s'))=af k;split
 ·exact⟨k,h⟩
 ·exact⟨_,rfl⟩
theorem uJ(n:ah):∀p:aa ae,μ n (p.map δ)=ag
 |[]=>by cases n<;>rfl
 |x::p=>by
  rw[aT,μ,uJ n p];cases n<;>rfl
theorem n8(n:ah)(s:Str)(l:aa ae):μ n (fQ s l)=ag:=by
 unfold fQ;rw[μ,uJ];cases n<;>rfl
theorem yJ(s:Str)(l:aa ae):θ (fQ s l)=ag:=by
 unfold fQ;rw[θ,dO];rfl
structure Pl(pl:aa (D×D))(R:aa ae):Prop where
 at_:∀x:ae,x=0\/x∈R->∃i:ae,bA pl (.int x)=af (.int i)
 no:∀x:ae,¬(x=0\/x∈R)->bA pl (.int x)=am
 fit:∀x:ae,lE pl (.int x)=ag
 len:pl.length<=R.length+1
theorem mR(x y:ae)(d:D):∀pl:aa (D×D),bA (putD pl (.int x) d) (.int y)=if x=y then af d else bA pl (.int y)
 |[]=>by
  show(if eqD (.int x) (.int y) then af d else am)=_;rw[dI];by_cases h:x=y<;>simp[h,bA]
 | (k,v)::pl=>by
  show bA (if eqD k (.int x) then (k,d)::pl else (k,v)::putD pl (.int x) d) (.int y)=if x=y then af d else if eqD k (.int y) then af v else bA pl (.int y)
  have ih:=mR x y d pl;by_cases h:eqD k (.int x)=ag
  ·rw[ar h];show(if eqD k (.int y) then af d else bA pl (.int y))=_;by_cases hxy:x=y
   ·subst hxy;rw[ar h,ar rfl]
   ·have:eqD k (.int y)≠ag:=by
     cases k with
     |int i=>
      rw[dI,eM] at h;rw[dI];intro z;exact hxy (h.symm.trans (eh z))
     |bl b=>
      have h1:((if b then (1:ae) else 0)==x)=ag:=h;show((if b then (1:ae) else 0)==y)≠ag;rw[kb] at h1;simp only[ne_eq,kb];intro z;exact hxy (h1.symm.trans z)
     |_=>simp[eqD] at h
    rw[aq this,aq hxy,aq this]
  ·rw[aq h];show(if eqD k (.int y) then af v else bA (putD pl (.int x) d) (.int y))=_;by_cases hxy:x=y
   ·subst hxy;rw[aq h,ih,ar rfl,ar rfl]
   ·rw[ih,aq hxy,aq hxy]
theorem RM{pl:aa (D×D)}{x:ae}{d:D}(h:∀y:ae,lE pl (.int y)=ag)(y:ae):lE (putD pl (.int x) d) (.int y)=ag:=by
 have key:∀pl:aa (D×D),pl.all (λp=>isTup p.1==ai)=ag->(putD pl (.int x) d).all (λp=>isTup p.1==ai)=ag:=by
  intro pl;induction pl with
  |nil=>intro _;rfl
  |cons kv pl ih=>
   intro h;obtain⟨k,v⟩:=kv;rw[fI,bc] at h;show(if eqD k (.int x) then (k,d)::pl else (k,v)::putD pl (.int x) d).all _=ag;split
   ·rw[fI,bc];exact h
   ·rw[fI,bc];exact⟨h.1,ih h.2⟩
 have h0:=h y;unfold lE at h0 ⊢;exact key pl h0
theorem JF(x:ae)(d:D):∀pl:aa (D×D),(putD pl (.int x) d).length<=pl.length+1
 |[]=>bj _
 | (k,v)::pl=>by
  show(if eqD k (.int x) then (k,d)::pl else (k,v)::putD pl (.int x) d).length<=_;have:=JF x d pl;split<;>simp only[b9]<;>lia
theorem Pl.oZ{pl:aa (D×D)}{R:aa ae}(h:Pl pl R)(x:ae):b8 .oZ (.int x) (.dct pl)=.ok (.bl (!ϒ (x=0\/x∈R))):=by
 show(if lE pl (.int x) then ε (ξ (!(bA pl (.int x)).isSome)) else .bad)=_;rw[h.fit,ar rfl];by_cases e:x=0\/x∈R
 ·obtain⟨i,hi⟩:=h.at_ x e;rw[hi,bq e];rfl
 ·rw[h.no x e,bP e];rfl
noncomputable def gf(ys:aa Pt):aa ae:=(ys.map (·.1)).filter λz=>ϒ (z≠0)
theorem aJt(ys:aa Pt)(a:Pt):gf (ys++[a])=gf ys++if a.1=0 then [] else [a.1]:=by
 unfold gf;rw[ce,List.filter_append];by_cases h:a.1=0<;>simp[h]
theorem aNo(ys:aa Pt):(gf ys).length<=ys.length:=by
 unfold gf;exact c6 (mT ..) (by simp)
def wib:FS:=(bH (sIf (bTB (b2 (b8 .oZ) fP fH)) (bH (o9 4 fP) (rU 5 fP (aO gC (aD d8 aR)))) jH) (bH (o9 9 (b2 getD fH fP)) (o9 9 tY)))
noncomputable def ws(nk dk:aa (D×D))(s:ae)(best:D)(R:aa ae)(pl:aa (D×D))(rows:aa D)(lv:ap)(n x9 x10 x11:D):aa D:=[.dct nk,.dct dk,.int s,best,.lst (R.map δ),.dct pl,.lst rows,.bl lv,n,x9,x10,x11]
theorem aNp(n j:ah)(h:j<n):ixD n (j:ae)=af j:=by
 unfold ixD;rw[ar (by lia),ar (by lia)];rfl
theorem RN(xs:aa D)(j:ah)(h:j<xs.length):getD (.scr xs) (.int (j:ae))=.ok xs[j]:=by
 show ι ((ixD xs.length (j:ae)).bind λj=>xs[j]?)=_;rw[aNp _ _ h];show ι (xs[j]?)=_;rw[cn h];rfl
theorem tQ(xs:aa D)(j:ah)(h:j<xs.length):getD (.lst xs) (.int (j:ae))=.ok xs[j]:=RN xs j h
theorem cC{i:ah}{ρ:aa D}{d:D}(h:ρ.getD i .uD=d)(hd:d≠.uD):iU i ρ=.ok d:=by
 unfold iU;rw[h];cases d<;>first|rfl|exact az rfl hd
theorem aNq{c:FT}{body:FS}{n:ah}{ρ:aa D}{d:D}(h1:c ρ=.ok ag)(h2:body ρ=.ok (.rt d)):BZ c body (n+1) ρ=.ok (.rt d):=by
 rw[BZ,h1,τ,ar rfl,h2];rfl
theorem aJu{f g:FS}{ρ:aa D}{d:D}(h1:f ρ=.ok (.rt d)):uC f g ρ=.ok (.rt d):=by
 unfold uC;rw[h1];rfl
theorem aC3{f:FE}{ρ xs:aa D}(h:f ρ=.ok (.scr xs))(hp:θ xs=ag):aGj f ρ=.ok (xs,ag):=by
 unfold aGj;rw[h,τ];show(if θ xs then _ else _)=_;rw[hp,ar rfl]
theorem aC4{i:ah}{g:FS}{ρ xs:aa D}{d:D}(h1:ρ.getD i .uD=.lst xs)(h2:g (ρ.set i (.scr xs))=.ok (.rt d)):K7 i g ρ=.ok (.rt d):=by
 unfold K7;rw[h1];show(do let r <- g (ρ.set i (.scr xs));_)=_;rw[h2];rfl
theorem uK:∀{rows:aa D},jD rows->θ rows=ag
 |[],_=>rfl
 |d::rows,h=>by
  obtain⟨s,l,rfl⟩:=h d (bh ..);rw[θ,uK λd hd=>h d (bf _ hd),ie];exact yJ s l
def aNr:FE:=b2 getD (b2 getD gB cV) (aO gC (aD fU aR))
def aOm:FS:=(sIf (J5 (bTr jL) (bTB (b2 (b8 .ne) z7 aNr))) (bH (sIf (bTB (b2 (b8 (.ord .gt)) z7 aNr)) (jJ (bC .non) ag) jH) (cF ai 7 (bC (.bl ai)) ag)) jH)
def X5:FT:=(bTB (b2 (b8 (.ord .lt)) (aO gC (aD fU aR)) (aO gC (aD d8 aR))))
def NT:FS:=(bH (cF ai 8 (b2 getD d8 (aO gC (aD fU aR))) ai) (aGk 9 (oX (aD (b2 getD fL u5) aR)) (uC (u_ (aGj (b2 getD gQ u5)) (tgN [10,11]) wib) (uC aOm (yZ 9 (o9 6 z7))))))
noncomputable def wkD(rows:aa D)(R:aa ae):D:=.tup [.scr rows,.scr (R.map δ)]
section
variable {nk dk:aa (D×D)} {s:ae} {best:D} {R:aa ae} {pl:aa (D×D)} {rows:aa D} {lv:ap} {n:D} {x10 x11:D}
theorem aJv{i:ah}{ρ:aa D}{b:ap}(h:ρ.getD i .uD=.bl b):bTr (iU i) ρ=.ok b:=by
 unfold bTr iU;rw[h];rfl
theorem U_{x9:D}(b:ap)(h:b=ϒ (rows.length<R.length)):X5 (ws nk dk s best R pl rows lv n x9 x10 x11)=.ok b:=by
 have hc:b8 (.ord .lt) (.int rows.length) (.int R.length)=.ok (.bl (ϒ ((rows.length:ae)<R.length))):=rfl;refine cJ (aH (aL (xs:=[.lst rows]) (aC rfl rfl) (nH rows)) (aL (xs:=[.lst (R.map δ)]) (aC rfl rfl) (by rw[nH,ay])) (hc.trans ?_));rw[h]
 congr 2
 exact rS.mpr (by lia)
end
section
variable {nk dk:aa (D×D)} {M:aa ae} {E:ae->aa Pt}
structure Gd(nk dk:aa (D×D))(M:aa ae)(E:ae->aa Pt):Prop where
 cl:∀x∈M,∀y∈gf (E x),y∈M
 ml:M.length<=100
 el:∀x,(E x).length<=100
 ds:∀x∈M,bA dk (.int x)=af (.scr ((E x).map enP))
 ns:∀x∈M,∃nm:Str,bA nk (.int x)=af (.str nm)
end
theorem VB{α:Type}(f:α->α->α)(h:∀a b,f a b=a\/f a b=b):∀(xs:aa α)(x:α),xs.foldl f x∈x::xs
 |[],x=>by simp
 |y::xs,x=>by
  rw[ij];have:=VB f h xs (f x y);rcases h x y with e|e
  ·rw[e] at this ⊢;rcases bd.mp this with z|z
   ·rw[z];simp
   ·exact bf _ (bf _ z)
  ·rw[e] at this ⊢;exact bf _ this
def stb:FS:=(aMx 2 (e_ 4 (aGj (b2 getD fL gB)) z_ (bTB (b2 (b8 .eq) (b2 getD d8 cV) cV)) (dM (aD (b2 getD d8 eU) (aD gB aR))) ai))
theorem aNs{i:ah}{f:FE}{ρ xs ys:aa D}(h1:f ρ=.ok (.lst ys))(h2:ρ.getD i .uD=.lst xs)(h3:xs.length+ys.length<=lim)(h4:θ ys=ag):aMx i f ρ=.ok (.nx (ρ.set i (.lst (xs++ys)))):=by
 unfold aMx;rw[h1,τ,h2];show(if ϒ (xs.length+ys.length<=lim)&&θ ys then _ else _)=_;rw[bq h3,h4];rfl
section
def fwb:FS:=(bH (cF ai 5 (aO (cD 4 fB) (aD fL (aD gQ (aD d8 (aD gB aR))))) ag) (sIf (bTB (b2 (b8 .notN) fH (bC .non))) (sAl 3 5) jH))
theorem yK{p q:aa ae}(h1:p.Nodup)(h2:q.Nodup)(h:∀y,y∈p↔y∈q):p.Perm q:=(rV h1 h2).mpr h
end
noncomputable def plc(R:aa ae)(x:ae):ae:=if x=0 then 0 else (R.idxOf x:ae)+1
def rwl(R:aa ae)(es:aa Pt):aa ae:=es.flatMap λe=>[plc R e.1,e.2]
def rowOf(nm:ae->Str)(E:ae->aa Pt)(R:aa ae)(c:ae):D:=.scr (fQ (nm c) (rwl R (E c)))
def rowsOf(nm:ae->Str)(E:ae->aa Pt)(R:aa ae):aa D:=R.map (rowOf nm E R)
theorem aC5{R S:aa ae}{x:ae}(h:x=0\/x∈R):plc (R++S) x=plc R x:=by
 unfold plc;by_cases h0:x=0
 ·rw[ar h0,ar h0]
 ·rw[aq h0,aq h0,ng,ar (h.resolve_left h0)]
theorem aJw{R:aa ae}{x:ae}(h0:x≠0)(h:x∉R):plc (R++[x]) x=((R++[x]).length:ah):=by
 unfold plc;rw[aq h0,ng,aq h];simp
theorem JG{R S:aa ae}:∀{es:aa Pt},(∀e∈es,e.1=0\/e.1∈R)->rwl (R++S) es=rwl R es
 |[],_=>rfl
 |e::es,h=>by
  show plc (R++S) e.1::e.2::rwl (R++S) es=plc R e.1::e.2::rwl R es;rw[aC5 (h e (bh ..)),JG λe he=>h e (bf _ he)]
theorem aF8(R:aa ae)(es:aa Pt)(e:Pt):rwl R (es++[e])=rwl R es++[plc R e.1,e.2]:=by simp[rwl]
theorem aC6(R:aa ae):∀es:aa Pt,(rwl R es).length=2*es.length
 |[]=>rfl
 |e::es=>by
  show(rwl R es).length+1+1=_;rw[aC6 R es,b9];lia
theorem aJx{E:aa Pt}{e:Pt}(h:e∈E)(h0:e.1≠0):e.1∈gf E:=by
 unfold gf;rw[iz];exact⟨ax.mpr ⟨e,h,rfl⟩,bq h0⟩
theorem RP{E:aa Pt}{R:aa ae}(h:∀y∈gf E,y∈R):∀e∈E,e.1=0\/e.1∈R:=λe he=>by
 by_cases h0:e.1=0
 ·exact .inl h0
 ·exact .inr (h _ (aJx he h0))
def bfs(g:ae->aa ae):ah->aa ae->ah->aa ae
 |0,R,_=>R
 |m+1,R,n=>if h:n<R.length then bfs g m (R++news R (g R[n])) (n+1) else R
theorem aC7(g:ae->aa ae):∀(m:ah)(R:aa ae)(n:ah),∃S,bfs g m R n=R++S
 |0,R,n=>⟨[],by rw[dy];rfl⟩
 |m+1,R,n=>by
  unfold bfs;split
  ·rename_i h;obtain⟨S,e⟩:=aC7 g m (R++news R (g R[n])) (n+1);exact⟨news R (g R[n])++S,by rw[e,c_]⟩
  ·exact⟨[],by rw[dy]⟩
theorem aGu{g:ae->aa ae}{s:ae}{M:aa ae}(hs:s∈M)(hc:∀x∈M,∀y∈g x,y∈M):∀(m:ah)(R:aa ae)(n:ah),Bv g s R n->M.length<=m+n->∃n',Bv g s (bfs g m R n) n'/\(bfs g m R n).length<=n'
 |0,R,n,bv,hm=>⟨n,bv,by have:=bv.len hs hc;show R.length<=n;lia⟩
 |m+1,R,n,bv,hm=>by
  unfold bfs;split
  ·rename_i h;exact aGu hs hc m _ (n+1) (bv.step h) (by lia)
  ·exact⟨n,bv,by lia⟩
theorem RQ{g:ae->aa ae}{s:ae}{M:aa ae}(hs:s∈M)(hc:∀x∈M,∀y∈g x,y∈M):(bfs g M.length [s] 0).Nodup/\(∀x,x∈bfs g M.length [s] 0↔Rc g s x)/\∀x∈bfs g M.length [s] 0,∀y∈g x,y∈bfs g M.length [s] 0:=by
 obtain⟨n,bv,hn⟩:=aGu hs hc M.length [s] 0 (bv0 g s) (by lia);refine⟨bv.nd,λx=>bv.fin hn,λx hx y hy=>?_⟩;have:=bv.cl x;rw[lr hn] at this;exact this hx y hy
theorem aF9{nm:ae->Str}{E:ae->aa Pt}{s:ae}{R:aa ae}{n m:ah}(bv:Bv (λx=>gf (E x)) s R n):(rowsOf nm E (bfs (λx=>gf (E x)) m R n)).take n=(R.take n).map (rowOf nm E R):=by
 obtain⟨S,e⟩:=aC7 (λx=>gf (E x)) m R n;by_cases hn:n<=R.length
 ·unfold rowsOf;rw[e,<-vc,vF hn];refine cq λc hc=>?_
  unfold rowOf;rw[JG (RP (bv.cl c hc))]
 ·have:m=0\/∃k,m=k+1:=by cases m with|zero=>exact .inl rfl|succ k=>exact .inr ⟨k,rfl⟩
  have hb:bfs (λx=>gf (E x)) m R n=R:=by
   rcases this with rfl|⟨k,rfl⟩
   ·rfl
   ·unfold bfs;rw[rX (by lia)]
  rw[hb,lr (by rw[rowsOf,ay];lia),lr (by lia)];rfl
theorem JH{φ:ae->ae}:∀{ys R:aa ae},(∀x∈R++ys,∀y∈R++ys,φ x=φ y->x=y)->news (R.map φ) (ys.map φ)=(news R ys).map φ
 |[],_,_=>rfl
 |y::ys,R,h=>by
  rw[aT,news,news];have hm:φ y∈R.map φ↔y∈R:=by
   constructor
   ·intro z;obtain⟨x,hx,e⟩:=ax.mp z;have:=h x (dq _ hx) y (by simp) e;rw[<-this];exact hx
   ·exact λz=>ax.mpr ⟨y,z,rfl⟩
  by_cases hy:y∈R
  ·rw[ar (hm.mpr hy),ar hy];have up:∀x,x∈R++ys->x∈R++y::ys:=λx hx=>(cf.mp hx).elim (λq=>dq _ q) λq=>dP _ (bf _ q)
   exact JH λx hx z hz=>h x (up x hx) z (up z hz)
  ·rw[aq (λz=>hy (hm.mp z)),aq hy,aT];have:=JH (φ:=φ) (ys:=ys) (R:=R++[y]) λx hx z hz=>h x (by simpa[vS] using hx) z (by simpa[vS] using hz)
   rw[ce] at this;rw[<-this];rfl
structure Iso(φ:ae->ae)(M:aa ae)(nm nm':ae->Str)(E E':ae->aa Pt):Prop where
 z:φ 0=0
 nz:∀x∈M,x≠0/\φ x≠0
 inj:∀x∈M,∀y∈M,φ x=φ y->x=y
 nm:∀x∈M,nm' (φ x)=nm x
 ea:∀x∈M,E' (φ x)=(E x).map λe=>(φ e.1,e.2)
 cl:∀x∈M,∀y∈gf (E x),y∈M
section
variable {φ:ae->ae} {M:aa ae} {nm nm':ae->Str} {E E':ae->aa Pt}
theorem Iso.ze(i:Iso φ M nm nm' E E'){x:ae}(h:x=0\/x∈M):φ x=0↔x=0:=by
 rcases h with h|h
 ·rw[h,i.z]
 ·exact⟨λz=>az z (i.nz x h).2,λz=>az z (i.nz x h).1⟩
theorem aC8(i:Iso φ M nm nm' E E'){x:ae}(hx:x∈M):gf (E' (φ x))=(gf (E x)).map φ:=by
 rw[i.ea x hx];have key:∀es:aa Pt,(∀e∈es,e.1=0\/e.1∈M)->gf (es.map λe=>(φ e.1,e.2))=(gf es).map φ:=by
  intro es;induction es with
  |nil=>intro _;rfl
  |cons e es ih=>
   intro h;have ih:=ih λe he=>h e (bf _ he)
   unfold gf at ih ⊢;rw[aT,aT,aT,nh,nh];have he:=i.ze (h e (bh ..));by_cases h0:e.1=0
   ·rw[aq (by simp[he.mpr h0]),aq (by simp[h0])];exact ih
   ·rw[ar (by simpa using λz=>h0 (he.mp z)),ar (by simpa using h0),aT,ih]
 exact key _ (RP (i.cl x hx))
theorem aC9(i:Iso φ M nm nm' E E'):∀(m:ah)(R:aa ae)(n:ah),(∀x∈R,x∈M)->bfs (λx=>gf (E' x)) m (R.map φ) n=(bfs (λx=>gf (E x)) m R n).map φ
 |0,R,n,_=>rfl
 |m+1,R,n,h=>by
  unfold bfs;by_cases hn:n<R.length
  ·have hn':n<(R.map φ).length:=by rw[ay];exact hn
   rw[mj hn',mj hn];have hc:R[n]∈M:=h _ (fq hn);have hsub:∀x∈R++news R (gf (E R[n])),x∈M:=λx hx=>by
    rcases cf.mp hx with q|q
    ·exact h x q
    ·exact i.cl _ hc x (news_mem q)
   have e:R.map φ++news (R.map φ) (gf (E' (R.map φ)[n]))=(R++news R (gf (E R[n]))).map φ:=by
    rw[e7,aC8 i hc,JH,ce];intro x hx y hy;refine i.inj x ?_ y ?_
    ·rcases cf.mp hx with q|q
     ·exact h x q
     ·exact i.cl _ hc x q
    ·rcases cf.mp hy with q|q
     ·exact h y q
     ·exact i.cl _ hc y q
   show bfs (λx=>gf (E' x)) m (R.map φ++news (R.map φ) (gf (E' (R.map φ)[n]))) (n+1)=_;rw[e];exact aC9 i m _ (n+1) hsub
  ·rw[rX (show ¬n<(R.map φ).length by rw[ay];exact hn),rX hn]
theorem idx_map(i:Iso φ M nm nm' E E'):∀{R:aa ae}{x:ae},(∀y∈R,y∈M)->x∈M->(R.map φ).idxOf (φ x)=R.idxOf x
 |[],_,_,_=>rfl
 |r::R,x,h,hx=>by
  rw[aT,wa,wa];have ih:=idx_map i (R:=R) (x:=x) (λy hy=>h y (bf _ hy)) hx;by_cases e:r=x
  ·subst e;simp
  ·have:¬φ r=φ x:=λz=>e (i.inj r (h r (bh ..)) x hx z)
   rw[show(φ r==φ x)=ai by simpa using this,show(r==x)=ai by simpa using e,ih]
theorem aJy(i:Iso φ M nm nm' E E'){R:aa ae}{x:ae}(h:∀y∈R,y∈M)(hx:x=0\/x∈M):plc (R.map φ) (φ x)=plc R x:=by
 unfold plc;rcases hx with hx|hx
 ·subst hx;rw[i.z,ar rfl,ar rfl]
 ·rw[aq (i.nz x hx).2,aq (i.nz x hx).1,idx_map i h hx]
theorem aJz(i:Iso φ M nm nm' E E'){R:aa ae}{c:ae}(h:∀y∈R,y∈M)(hc:c∈M):rowOf nm' E' (R.map φ) (φ c)=rowOf nm E R c:=by
 unfold rowOf;rw[i.nm c hc,i.ea c hc];have key:∀es:aa Pt,(∀e∈es,e.1=0\/e.1∈M)->rwl (R.map φ) (es.map λe=>(φ e.1,e.2))=rwl R es:=by
  intro es;induction es with
  |nil=>intro _;rfl
  |cons e es ih=>
   intro h2;show plc (R.map φ) (φ e.1)::e.2::rwl (R.map φ) (es.map λe=>(φ e.1,e.2))=plc R e.1::e.2::rwl R es;rw[aJy i h (h2 e (bh ..)),ih λe he=>h2 e (bf _ he)]
 rw[key _ (RP (i.cl c hc))]
theorem aFa(i:Iso φ M nm nm' E E'){R:aa ae}(h:∀y∈R,y∈M):rowsOf nm' E' (R.map φ)=rowsOf nm E R:=by
 unfold rowsOf;rw[bu];exact cq λc hc=>aJz i h (h c hc)
end
theorem gZ(s:Str)(l:aa ae):χ (fQ s l)=ag:=by
 have key:∀l:aa ae,χ (l.map δ)=ag:=by
  intro l;induction l with
  |nil=>rfl
  |cons x l ih=>rw[aT,χ,ih];rfl
 show(ag&&χ (l.map δ))=ag;rw[key];rfl
theorem aCa:∀a b:aa ae,cU .gt (a.map δ) (b.map δ)=cU .lt (b.map δ) (a.map δ)
 |[],[]=>rfl
 |[],y::b=>rfl
 |x::a,[]=>rfl
 |x::a,y::b=>by
  show(if eqD (.int x) (.int y) then cU .gt (a.map δ) (b.map δ) else af (ϒ (y<x)))=(if eqD (.int y) (.int x) then cU .lt (b.map δ) (a.map δ) else af (ϒ (y<x)));rw[aCa a b,dI,dI];by_cases h:x=y
  ·subst h;rfl
  ·have h2:¬y=x:=λz=>h z.symm
   rw[bP h,bP h2]
theorem aQ1(s s':Str)(l l':aa ae):cU .gt (fQ s l) (fQ s' l')=cU .lt (fQ s' l') (fQ s l):=by
 show(if eqD (.str s) (.str s') then cU .gt (l.map δ) (l'.map δ) else af (P0 s' s))=(if eqD (.str s') (.str s) then cU .lt (l'.map δ) (l.map δ) else af (P0 s' s));rw[aCa];have:eqD (.str s) (.str s')=eqD (.str s') (.str s):=by
  show(s==s')=(s'==s);exact Bool.eq_iff_iff.mpr ⟨λh=>kb.mpr (kb.mp h).symm,λh=>kb.mpr (kb.mp h).symm⟩
 rw[this]
theorem aK0(s s':Str)(l l':aa ae):b8 (.ord .gt) (.lst (fQ s l)) (.scr (fQ s' l'))=.ok (.bl (ϒ (iQ (fQ s' l')<iQ (fQ s l)))):=by
 obtain⟨k,h⟩:=U9 .lt s' s l' l;have e:=vM _ _ k (gZ s' l') (gZ s l) h;refine aIe (n8 11 _ _) (n8 11 _ _) ?_;show cU .gt (fQ s l) (fQ s' l')=_;rw[aQ1,h,e]
theorem aK1(s s':Str)(l l':aa ae):∃k,b8 .ne (.lst (fQ s l)) (.scr (fQ s' l'))=.ok (.bl (!k))/\(k=ag↔fQ s l=fQ s' l'):=by
 refine⟨m7 (fQ s l) (fQ s' l'),?_,λh=>FN _ _ (gZ s l) (gZ s' l') h,λh=>by rw[h,rW _ (gZ s' l')]⟩;show(if μ 11 (fQ s l)&&μ 11 (fQ s' l') then ε (ξ (!m7 (fQ s l) (fQ s' l'))) else .bad)=_;rw[n8,n8];rfl
theorem aGv(a b:aa D):enc (.scr a)<enc (.scr b)↔iQ a<iQ b:=by
 show(3::iQ a)<(3::iQ b)↔_;rw[dz];simp
def Ls(A B:aa D):Prop:=∃P x A' y B',A=P++x::A'/\B=P++y::B'/\x.plain=ag/\y.plain=ag/\enc x<enc y
theorem Ls.lt{A B:aa D}(h:Ls A B):iQ A<iQ B:=by
 obtain⟨P,x,A',y,B',rfl,rfl,hx,hy,hl⟩:=h;have hne:x≠y:=λz=>by rw[z] at hl;exact az hl (lg _)
 induction P with
 |nil=>
  show(1::(enc x++iQ A'))<(1::(enc y++iQ B'));rw[dz];refine .inr ⟨rfl,(S7 _ _ _ _ (λz e=>hne ?_) λz e=>hne ?_).mpr hl⟩
  ·exact(nA x y z [] hx hy (by rw[e,dy])).1
  ·exact(nA y x z [] hy hx (by rw[e,dy])).1.symm
 |cons p P ih=>
  show(1::(enc p++iQ (P++x::A')))<(1::(enc p++iQ (P++y::B')));rw[dz];exact .inr ⟨rfl,(qY _ _ _).mpr ih⟩
theorem Ls.more{A B:aa D}(h:Ls A B)(C:aa D):Ls (A++C) B:=by
 obtain⟨P,x,A',y,B',rfl,rfl,h⟩:=h;exact⟨P,x,A'++C,y,B',by simp,rfl,h⟩
theorem tR(s:Str)(l:aa ae):(ν (fQ s l)).plain=ag:=gZ s l
structure PlX(pl:aa (D×D))(R:aa ae):Prop where
 at_:∀x:ae,x=0\/x∈R->bA pl (.int x)=af (.int (plc R x))
 no:∀x:ae,¬(x=0\/x∈R)->bA pl (.int x)=am
 fit:∀x:ae,lE pl (.int x)=ag
 len:pl.length<=R.length+1
theorem PlX.pl{pl:aa (D×D)}{R:aa ae}(h:PlX pl R):Pl pl R:=⟨λx hx=>⟨_,h.at_ x hx⟩,h.no,h.fit,h.len⟩
theorem PlX.put{pl:aa (D×D)}{R:aa ae}(h:PlX pl R){x:ae}(hx:¬(x=0\/x∈R)):PlX (putD pl (.int x) (.int ((R++[x]).length:ah))) (R++[x]) where
 at_ y hy:=by
  rw[mR];by_cases e:x=y
  ·subst e;rw[ar rfl,aJw (λz=>hx (.inl z)) λz=>hx (.inr z)]
  ·rw[aq e];have hy':y=0\/y∈R:=by
    rcases hy with hy|hy
    ·exact .inl hy
    ·rcases cf.mp hy with hy|hy
     ·exact .inr hy
     ·exact az (cw.mp hy).symm e
   rw[h.at_ y hy',aC5 hy']
 no y hy:=by
  rw[mR,aq λe=>hy (.inr (by rw[e];simp))];exact h.no y λz=>hy (z.imp id λz=>dq _ z)
 fit:=RM h.fit
 len:=by have:=JF x (.int ((R++[x]).length:ah)) pl;have:=h.len;rw[cb,fx] at *;lia
theorem PlX.get{pl:aa (D×D)}{R:aa ae}(h:PlX pl R){x:ae}(hx:x=0\/x∈R):getD (.dct pl) (.int x)=.ok (.int (plc R x)):=by
 show(if keyOk (.int x) then ι (bA pl (.int x)) else .bad)=_;rw[h.at_ x hx];rfl
theorem aRn{s:ae}(hs:s≠0):PlX (putD [(.int 0,.int 0)] (.int s) (.int 1)) [s]:=by
 have h0:PlX [(.int 0,.int 0)] []:=⟨λx hx=>by
  have e:x=0:=hx.resolve_right (by simp);subst e;rfl,λx hx=>by
  show(if eqD (.int 0) (.int x) then _ else _)=_;rw[dI,bP λe=>hx (.inl e.symm)];rfl,λx=>rfl,bj _⟩
 exact h0.put (x:=s) (by simp[hs])
theorem aFb{nk dk:aa (D×D)}{s:ae}{best:D}{R:aa ae}{pl:aa (D×D)}{rows:aa D}{lv:ap}{n:D}{nm:Str}{x10 x11:D}(E:aa Pt)(hE:E.length<=100)(hR:R.length<=1000)(hp:PlX pl R):∃pl' y10 y11,PlX pl' (R++news R (gf E))/\
  o_ (tgN [10,11]) wib (E.map enP) (ws nk dk s best R pl rows lv n (.lst (fQ nm [])) x10 x11)=.ok (.nx (ws nk dk s best (R++news R (gf E)) pl' rows lv n (.lst (fQ nm (rwl (R++news R (gf E)) E))) y10 y11)):=by
 obtain⟨ρ,h,pl',y10,y11,p',rfl⟩:=bU (t:=tgN [10,11]) (body:=wib) (d:=enP) (I:=λys ρ=>∃pl' y10 y11,PlX pl' (R++news R (gf ys))/\ρ=ws nk dk s best (R++news R (gf ys)) pl' rows lv n (.lst (fQ nm (rwl (R++news R (gf ys)) ys))) y10 y11) E (λys a zs ρ e ⟨pl',y10,y11,p',h⟩=>by
  subst h;have hyl:ys.length<=100:=by rw[e] at hE;simp at hE;lia
  have hn:=wA (gf ys) R;have hg:=aNo ys;have hRl:(R++news R (gf ys)).length<=1200:=by rw[cb];lia
  have hin:∀e∈ys,e.1=0\/e.1∈R++news R (gf ys):=RP λy hy=>tH hy
  have hsn:R++news R (gf (ys++[a]))=(R++news R (gf ys))++if a.1=0\/a.1∈R++news R (gf ys) then [] else [a.1]:=by
   rw[aJt];by_cases h0:a.1=0
   ·rw[ar h0,dy,ar (.inl h0),dy]
   ·rw[aq h0,tK,c_];by_cases h1:a.1∈R++news R (gf ys)
    ·rw[ar h1,ar (.inr h1)]
    ·rw[aq h1,aq λz=>z.elim h0 h1]
  have hrw:rwl (R++news R (gf (ys++[a]))) (ys++[a])=rwl (R++news R (gf ys)) ys++[plc (R++news R (gf (ys++[a]))) a.1,a.2]:=by
   rw[aF8,hsn,JG hin]
  have hll:=aC6 (R++news R (gf ys)) ys;rw[hrw];generalize hRR:R++news R (gf ys)=R' at *;generalize hl:rwl R' ys=l at *;have mid:∃pl2,PlX pl2 (R++news R (gf (ys++[a])))/\(a.1=0\/a.1∈R++news R (gf (ys++[a])))/\(sIf (bTB (b2 (b8 .oZ) fP fH)) (bH (o9 4 fP) (rU 5 fP (aO gC (aD d8 aR)))) jH) (ws nk dk s best R' pl' rows lv n (.lst (fQ nm l)) (.int a.1) (.int a.2))=.ok (.nx (ws nk dk s best (R++news R (gf (ys++[a]))) pl2 rows lv n (.lst (fQ nm l)) (.int a.1) (.int a.2))):=by
   rw[hsn];by_cases h:a.1=0\/a.1∈R'
   ·rw[ar h,dy];exact⟨pl',p',h,rB (cJ (aH (x:=.int a.1) rfl rfl ((p'.pl.oZ a.1).trans (by rw[bq h];rfl)))) rfl⟩
   ·rw[aq h];have pl3:=p'.len;refine⟨_,p'.put h,.inr (by simp),vW (cJ (aH (x:=.int a.1) rfl rfl ((p'.pl.oZ a.1).trans (by rw[bP h];rfl)))) ?_⟩;refine aJ (ρ':=ws nk dk s best (R'++[a.1]) pl' rows lv n (.lst (fQ nm l)) (.int a.1) (.int a.2)) ((mY (i:=4) (xs:=R'.map δ) (d:=.int a.1) rfl rfl (by rw[ay,bK];lia) rfl).trans (by rw[show R'.map δ++[.int a.1]=(R'++[a.1]).map δ by rw[ce];rfl];rfl)) ?_;exact mX (i:=5) (kvs:=pl') (k:=.int a.1) (d:=.int ((R'++[a.1]).length:ah)) (aL (xs:=[.lst ((R'++[a.1]).map δ)]) (aC rfl rfl) (by rw[nH,ay])) rfl rfl (by rw[bK];lia) (p'.fit _) rfl
  obtain⟨pl2,q1,q2,q3⟩:=mid;have hi:=q1.get q2;generalize R++news R (gf (ys++[a]))=R2 at *;generalize plc R2 a.1=i at *;refine⟨ws nk dk s best R' pl' rows lv n (.lst (fQ nm l)) (.int a.1) (.int a.2),ws nk dk s best R2 pl2 rows lv n (.lst (fQ nm (l++[i,a.2]))) (.int a.1) (.int a.2),rfl,?_,pl2,_,_,q1,rfl⟩;refine aJ q3 ?_;have e1:∀l:aa ae,∀j:ae,fQ nm l++[.int j]=fQ nm (l++[j]):=λl j=>by unfold fQ;rw[ce];rfl
  have e2:∀l:aa ae,(fQ nm l).length=l.length+1:=λl=>by simp[fQ]
  refine aJ (ρ':=ws nk dk s best R2 pl2 rows lv n (.lst (fQ nm (l++[i]))) (.int a.1) (.int a.2)) ((mY (i:=9) (xs:=fQ nm l) (d:=.int i) (aH rfl rfl hi) rfl (by rw[e2,bK];lia) rfl).trans (by rw[e1];rfl)) ?_;refine(mY (i:=9) (xs:=fQ nm (l++[i])) (d:=.int a.2) rfl rfl (by rw[e2,bK,cb,fx];lia) rfl).trans ?_;rw[e1,c_];rfl) (ρ:=ws nk dk s best R pl rows lv n (.lst (fQ nm [])) x10 x11) ⟨pl,x10,x11,by simpa[gf,news] using hp,by simp[gf,news,rwl]⟩
 exact⟨pl',y10,y11,p',h⟩
def Cs(best:D)(p:ah)(rows:aa D)(lv:ap):Prop:=(best=.non/\lv=ai)\/∃rb ob,best=.tup [.scr rb,ob]/\jD rb/\rb.length=p/\((lv=ag/\∃T,rb=rows++T)\/(lv=ai/\Ls rows rb))
section
variable {nk dk:aa (D×D)} {s:ae} {best:D} {R:aa ae} {pl:aa (D×D)} {rows:aa D} {lv:ap} {n:D} {nm:Str} {l:aa ae} {x10 x11:D} {p:ah}
theorem aK2(hc:Cs best p rows lv)(hl:rows.length<p):(∃lv',Cs best p (rows++[.scr (fQ nm l)]) lv'/\aOm (ws nk dk s best R pl rows lv n (.lst (fQ nm l)) x10 x11)=.ok (.nx (ws nk dk s best R pl rows lv' n (.lst (fQ nm l)) x10 x11)))\/
  ((∃rb ob y T,best=.tup [.scr rb,ob]/\rb=rows++y::T/\y.plain=ag/\enc y<enc (.scr (fQ nm l)))/\aOm (ws nk dk s best R pl rows lv n (.lst (fQ nm l)) x10 x11)=.ok (.rt .non)):=by
 rcases hc with ⟨h1,rfl⟩|⟨rb,ob,rfl,h1,h2,h3⟩
 ·exact .inl ⟨ai,.inl ⟨h1,rfl⟩,rB (W4 (aJv rfl)) rfl⟩
 ·rcases h3 with ⟨rfl,T,e⟩|⟨rfl,h3⟩
  ·obtain⟨y,T,rfl⟩:∃y T',T=y::T':=by
    cases T with
    |nil=>rw[e,dy] at h2;lia
    |cons y T=>exact⟨y,T,rfl⟩
   obtain⟨s',l',rfl⟩:=h1 y (by rw[e];simp);have hlt:rows.length<rb.length:=by lia
   have hg:aNr (ws nk dk s (.tup [.scr rb,ob]) R pl rows ag n (.lst (fQ nm l)) x10 x11)=.ok (.scr (fQ s' l')):=by
    refine aH (x:=.scr rb) (aH rfl rfl rfl) (aL (xs:=[.lst rows]) (aC rfl rfl) (nH rows)) ?_;rw[RN _ _ hlt]
    congr 1
    subst e;simp
   obtain⟨k1,e1,k1'⟩:=aK1 nm s' l l';have e2:=aK0 nm s' l l';have c1:(J5 (bTr jL) (bTB (b2 (b8 .ne) z7 aNr))) (ws nk dk s (.tup [.scr rb,ob]) R pl rows ag n (.lst (fQ nm l)) x10 x11)=.ok (!k1):=QT (aJv rfl) (cJ (aH rfl hg e1));have c2:(bTB (b2 (b8 (.ord .gt)) z7 aNr)) (ws nk dk s (.tup [.scr rb,ob]) R pl rows ag n (.lst (fQ nm l)) x10 x11)=.ok (ϒ (iQ (fQ s' l')<iQ (fQ nm l))):=cJ (aH rfl hg e2);cases k1 with
   |true=>
    have eq:=k1'.mp rfl;refine .inl ⟨ag,.inr ⟨rb,ob,rfl,h1,h2,.inl ⟨rfl,T,?_⟩⟩,rB c1 rfl⟩;rw[e,eq];simp
   |false=>
    have hne:fQ nm l≠fQ s' l':=λz=>by have:=k1'.mpr z;cases this
    by_cases hgt:iQ (fQ s' l')<iQ (fQ nm l)
    ·rw[bq hgt] at c2;exact .inr ⟨⟨rb,ob,_,T,rfl,e,tR s' l',(aGv _ _).mpr hgt⟩,vW c1 (qR (vW c2 rfl))⟩
    ·rw[bP hgt] at c2;refine .inl ⟨ai,.inr ⟨rb,ob,rfl,h1,h2,.inr ⟨rfl,rows,_,[],_,T,rfl,e,tR nm l,tR s' l',(aGv _ _).mpr ?_⟩⟩,vW c1 (aJ (rB c2 rfl) (bN rfl))⟩;refine mB λz=>hne ?_
     have:=uc (jS.mp z) (jS.mp hgt);exact((rY _ _ [] [] (gZ s' l') (gZ nm l) (by rw[this])).1).symm
  ·exact .inl ⟨ai,.inr ⟨rb,ob,rfl,h1,h2,.inr ⟨rfl,h3.more _⟩⟩,rB (W4 (aJv rfl)) rfl⟩
end
section
variable {nk dk:aa (D×D)} {s:ae} {best:D} {M:aa ae} {E:ae->aa Pt} {nm:ae->Str}
structure GdX(nk dk:aa (D×D))(M:aa ae)(E:ae->aa Pt)(nm:ae->Str):Prop where
 g:Gd nk dk M E
 nz:0∉M
 ns:∀x∈M,bA nk (.int x)=af (.str (nm x))
theorem aK3(g:GdX nk dk M E nm){R:aa ae}{pl:aa (D×D)}{rows:aa D}{lv:ap}{x8 x9 x10 x11:D}(hn:rows.length<R.length)(hM:∀x∈R,x∈M)(hR:R.length<=100)(hp:PlX pl R)(hc:Cs best M.length rows lv)(hl:rows.length<M.length) :
  (∃pl' lv' y8 y9 y10 y11,PlX pl' (R++news R (gf (E R[rows.length])))/\Cs best M.length (rows++[rowOf nm E (R++news R (gf (E R[rows.length]))) R[rows.length]]) lv'/\NT (ws nk dk s best R pl rows lv x8 x9 x10 x11)=.ok (.nx (ws nk dk s best (R++news R (gf (E R[rows.length]))) pl' (rows++[rowOf nm E (R++news R (gf (E R[rows.length]))) R[rows.length]]) lv' y8 y9 y10 y11)))\/
  ((∃rb ob y T,best=.tup [.scr rb,ob]/\rb=rows++y::T/\y.plain=ag/\enc y<enc (rowOf nm E (R++news R (gf (E R[rows.length]))) R[rows.length]))/\NT (ws nk dk s best R pl rows lv x8 x9 x10 x11)=.ok (.rt .non)):=by
 have hcM:R[rows.length]∈M:=hM _ (fq hn);generalize hcc:R[rows.length]=c at hcM ⊢;have hnm:=g.ns c hcM;have hds:=g.g.ds c hcM;obtain⟨pl',y10,y11,p',e1⟩:=aFb (nk:=nk) (dk:=dk) (s:=s) (best:=best) (rows:=rows) (lv:=lv) (n:=.int c) (nm:=nm c) (x10:=x10) (x11:=x11) (E c) (g.g.el c) (by lia) hp;have g8:(b2 getD d8 (aO gC (aD fU aR))) (ws nk dk s best R pl rows lv x8 x9 x10 x11)=.ok (.int c):=by
  refine aH (x:=.lst (R.map δ)) rfl (aL (xs:=[.lst rows]) (aC rfl rfl) (nH rows)) ?_;rw[tQ _ _ (by rw[ay];exact hn),e7,hcc]
 have g9:(oX (aD (b2 getD fL u5) aR)) (ws nk dk s best R pl rows lv (.int c) x9 x10 x11)=.ok (.lst (fQ (nm c) [])):=by
  have:(aD (b2 getD fL u5) aR) (ws nk dk s best R pl rows lv (.int c) x9 x10 x11)=.ok [.str (nm c)]:=by
   refine aC (aH rfl rfl ?_) rfl;show(if keyOk (.int c) then ι (bA nk (.int c)) else .bad)=_;rw[hnm];rfl
  unfold oX;rw[this,τ];rfl
 have gE:(b2 getD gQ u5) (ws nk dk s best R pl rows lv (.int c) (.lst (fQ (nm c) [])) x10 x11)=.ok (.scr ((E c).map enP)):=by
  refine aH rfl rfl ?_;show(if keyOk (.int c) then ι (bA dk (.int c)) else .bad)=_;rw[hds];rfl
 unfold rowOf;generalize rwl (R++news R (gf (E c))) (E c)=l at e1 ⊢;have pre:∀r,(uC aOm (yZ 9 (o9 6 z7))) (ws nk dk s best (R++news R (gf (E c))) pl' rows lv (.int c) (.lst (fQ (nm c) l)) y10 y11)=r->NT (ws nk dk s best R pl rows lv x8 x9 x10 x11)=r:=λr h=>by
  refine aJ (ρ':=ws nk dk s best R pl rows lv (.int c) x9 x10 x11) (mC (i:=8) g8 rfl) ?_;refine aGt (i:=9) g9 (yJ (nm c) []) ?_;exact RL (mW (aC3 gE (nW _)) e1) h
 rcases aK2 (nk:=nk) (dk:=dk) (s:=s) (R:=R++news R (gf (E c))) (pl:=pl') (n:=.int c) (nm:=nm c) (l:=l) (x10:=y10) (x11:=y11) hc hl with ⟨lv',h1,h2⟩|⟨h1,h2⟩
 ·refine .inl ⟨pl',lv',.int c,.scr (fQ (nm c) l),y10,y11,p',h1,pre _ (RL h2 ?_)⟩;refine aC1 (i:=9) (xs:=fQ (nm c) l) rfl ?_;exact mY (i:=6) (xs:=rows) (d:=.scr (fQ (nm c) l)) rfl rfl (by rw[bK];lia) (yJ (nm c) l)
 ·exact .inr ⟨h1,pre _ (aJu h2)⟩
theorem aK4(g:GdX nk dk M E nm)(hs:s∈M):∀(m:ah)(R:aa ae)(pl:aa (D×D))(rows:aa D)(lv:ap)(x8 x9 x10 x11:D),Bv (λx=>gf (E x)) s R rows.length->PlX pl R->rows=(R.take rows.length).map (rowOf nm E R)->rows.length<=R.length->Cs best M.length rows lv->M.length<=m+rows.length->
  ((∃rb ob,best=.tup [.scr rb,ob]/\iQ rb<iQ (rowsOf nm E (bfs (λx=>gf (E x)) m R rows.length)))/\∀fuel,m<fuel->BZ X5 NT fuel (ws nk dk s best R pl rows lv x8 x9 x10 x11)=.ok (.rt .non))\/
  ∃pl' lv' y8 y9 y10 y11,Cs best M.length (rowsOf nm E (bfs (λx=>gf (E x)) m R rows.length)) lv'/\∀fuel,m<fuel->BZ X5 NT fuel (ws nk dk s best R pl rows lv x8 x9 x10 x11)=.ok (.nx (ws nk dk s best (bfs (λx=>gf (E x)) m R rows.length) pl' (rowsOf nm E (bfs (λx=>gf (E x)) m R rows.length)) lv' y8 y9 y10 y11)):=by
 have fin:∀(m:ah)(R:aa ae)(pl:aa (D×D))(rows:aa D)(lv:ap)(x8 x9 x10 x11:D),rows=(R.take rows.length).map (rowOf nm E R)->Cs best M.length rows lv->R.length<=rows.length->bfs (λx=>gf (E x)) m R rows.length=R->Cs best M.length (rowsOf nm E (bfs (λx=>gf (E x)) m R rows.length)) lv/\∀fuel,m<fuel->BZ X5 NT fuel (ws nk dk s best R pl rows lv x8 x9 x10 x11)=.ok (.nx (ws nk dk s best (bfs (λx=>gf (E x)) m R rows.length) pl (rowsOf nm E (bfs (λx=>gf (E x)) m R rows.length)) lv x8 x9 x10 x11)):=λm R pl rows lv x8 x9 x10 x11 h1 h2 h3 h4=>by
  rw[lr h3] at h1;have e:rowsOf nm E R=rows:=h1.symm;rw[h4,e];refine⟨h2,λfuel hfu=>?_⟩;obtain⟨k,rfl⟩:∃k,fuel=k+1:=⟨fuel-1,by lia⟩
  exact uH (U_ ai (bP (by lia)).symm)
 intro m;induction m with
 |zero=>
  intro R pl rows lv x8 x9 x10 x11 bv hp hr hl hc hm;have:=bv.len hs g.g.cl;exact .inr ⟨pl,lv,x8,x9,x10,x11,fin 0 R pl rows lv x8 x9 x10 x11 hr hc (by lia) rfl⟩
 |succ m ih=>
  intro R pl rows lv x8 x9 x10 x11 bv hp hr hl hc hm;have hR:=bv.len hs g.g.cl;have hM:=g.g.ml;by_cases hn:rows.length<R.length
  ·have hcd:=U_ (nk:=nk) (dk:=dk) (s:=s) (best:=best) (pl:=pl) (lv:=lv) (n:=x8) (x9:=x9) (x10:=x10) (x11:=x11) ag (bq hn).symm;have hb:bfs (λx=>gf (E x)) (m+1) R rows.length=bfs (λx=>gf (E x)) m (R++news R (gf (E R[rows.length]))) (rows.length+1):=by
    rw[bfs,mj hn]
   have bv2:=bv.step hn;have htk:(R++news R (gf (E R[rows.length]))).take (rows.length+1)=R.take rows.length++[R[rows.length]]:=by
    rw[vF (by lia),mz hn]
   have hr2:rows++[rowOf nm E (R++news R (gf (E R[rows.length]))) R[rows.length]]=((R++news R (gf (E R[rows.length]))).take (rows.length+1)).map (rowOf nm E (R++news R (gf (E R[rows.length])))):=by
    rw[htk,ce]
    congr 1
    conv=>lhs;rw[hr]
    refine cq λc hc=>?_
    unfold rowOf;rw[JG (RP (bv.cl c hc))]
   rw[hb];rcases aK3 (nk:=nk) (dk:=dk) (s:=s) (best:=best) (x8:=x8) (x9:=x9) (x10:=x10) (x11:=x11) g hn (λx hx=>(bv.rc x hx).mem hs g.g.cl) (by lia) hp hc (by lia) with ⟨pl',lv',y8,y9,y10,y11,p',h1,h2⟩|⟨⟨rb,ob,y,T,h1,h2,h3,h4⟩,h5⟩
   ·have e1:(rows++[rowOf nm E (R++news R (gf (E R[rows.length]))) R[rows.length]]).length=rows.length+1:=by simp
    have:=ih (R++news R (gf (E R[rows.length]))) pl' (rows++[rowOf nm E (R++news R (gf (E R[rows.length]))) R[rows.length]]) lv' y8 y9 y10 y11 (by rw[e1];exact bv2) p' (by rw[e1];exact hr2) (by rw[e1,cb];lia) h1 (by lia);rw[e1] at this;rcases this with ⟨i1,i2⟩|⟨pl'',lv'',z8,z9,z10,z11,i1,i4⟩
    ·refine .inl ⟨i1,λfuel hfu=>?_⟩;obtain⟨k,rfl⟩:∃k,fuel=k+1:=⟨fuel-1,by lia⟩
     exact tG hcd h2 (i2 k (by lia))
    ·refine .inr ⟨pl'',lv'',z8,z9,z10,z11,i1,λfuel hfu=>?_⟩;obtain⟨k,rfl⟩:∃k,fuel=k+1:=⟨fuel-1,by lia⟩
     exact tG hcd h2 (i4 k (by lia))
   ·refine .inl ⟨⟨rb,ob,h1,?_⟩,λfuel hfu=>?_⟩
    ·have hpre:=aF9 (nm:=nm) (m:=m) bv2;rw[<-hr2] at hpre;refine Ls.lt ⟨rows,y,T,rowOf nm E (R++news R (gf (E R[rows.length]))) R[rows.length],(rowsOf nm E (bfs (λx=>gf (E x)) m (R++news R (gf (E R[rows.length]))) (rows.length+1))).drop (rows.length+1),h2,?_,h3,tR _ _,h4⟩;have:=wb (rows.length+1) (rowsOf nm E (bfs (λx=>gf (E x)) m (R++news R (gf (E R[rows.length]))) (rows.length+1)));rw[hpre,c_] at this;exact this.symm
    ·obtain⟨k,rfl⟩:∃k,fuel=k+1:=⟨fuel-1,by lia⟩
     exact aNq hcd h5
  ·exact .inr ⟨pl,lv,x8,x9,x10,x11,fin (m+1) R pl rows lv x8 x9 x10 x11 hr hc (by lia) (by rw[bfs,rX hn])⟩
def wlk(E:ae->aa Pt)(M:aa ae)(s:ae):aa ae:=bfs (λx=>gf (E x)) M.length [s] 0
def dY(nm:ae->Str)(E:ae->aa Pt)(M:aa ae)(s:ae):aa D:=rowsOf nm E (wlk E M s)
theorem jE(nm:ae->Str)(E:ae->aa Pt)(R:aa ae):jD (rowsOf nm E R):=λd hd=>by
 obtain⟨c,_,rfl⟩:=ax.mp hd;exact⟨_,_,rfl⟩
theorem aFc(g:GdX nk dk M E nm)(hs:s∈M)(hb:best=.non\/∃rb ob,best=.tup [.scr rb,ob]/\jD rb/\rb.length=M.length) :
  ((∃rb ob,best=.tup [.scr rb,ob]/\iQ rb<iQ (dY nm E M s))/\cD 4 fB [.dct nk,.dct dk,.int s,best]=.ok .non)\/((best=.non\/∃rb ob,best=.tup [.scr rb,ob]/\¬iQ rb<iQ (dY nm E M s))/\cD 4 fB [.dct nk,.dct dk,.int s,best]=.ok (wkD (dY nm E M s) (wlk E M s))):=by
 have hlv:∃lv,Cs best M.length [] lv/\b8 .notN best .non=.ok (.bl lv):=by
  rcases hb with rfl|⟨rb,ob,rfl,h,h2⟩
  ·exact⟨ai,.inl ⟨rfl,rfl⟩,rfl⟩
  ·exact⟨ag,.inr ⟨rb,ob,rfl,h,h2,.inl ⟨rfl,rb,rfl⟩⟩,rfl⟩
 obtain⟨lv,h1,h2⟩:=hlv;have hM:=g.g.ml;have hs0:s≠0:=λz=>g.nz (by rw[<-z];exact hs)
 have pre:∀d,(bH (aIj X5 NT) (K7 6 (K7 4 (jJ (dM (aD fU (aD d8 aR))) ai)))) (ws nk dk s best [s] (putD [(.int 0,.int 0)] (.int s) (.int 1)) [] lv .uD .uD .uD .uD)=.ok (.rt d)->cD 4 fB [.dct nk,.dct dk,.int s,best]=.ok d:=λd h=>by
  refine(dF rfl).trans (call_v ?_);refine aJ (ρ':=[.dct nk,.dct dk,.int s,best,.lst [.int s],.uD,.uD,.uD,.uD,.uD,.uD,.uD]) (dN (i:=4) rfl rfl) ?_;refine aJ (ρ':=[.dct nk,.dct dk,.int s,best,.lst [.int s],.dct (putD [(.int 0,.int 0)] (.int s) (.int 1)),.uD,.uD,.uD,.uD,.uD,.uD]) (dN (i:=5) rfl ?_) ?_
  ·show θ ((if eqD (.int 0) (.int s) then [(δ 0,δ 1)] else [(δ 0,δ 0),(δ s,δ 1)]).map (·.2))=ag;split<;>rfl
  refine aJ (ρ':=[.dct nk,.dct dk,.int s,best,.lst [.int s],.dct (putD [(.int 0,.int 0)] (.int s) (.int 1)),.lst [],.uD,.uD,.uD,.uD,.uD]) (dN (i:=6) rfl rfl) ?_;refine aJ (ρ':=ws nk dk s best [s] (putD [(.int 0,.int 0)] (.int s) (.int 1)) [] lv .uD .uD .uD .uD) (bN (i:=7) (aH (x:=best) (cC rfl ?_) rfl h2)) h;rcases hb with rfl|⟨rb,ob,rfl,_⟩<;>(intro z;cases z)
 rcases aK4 (best:=best) (nm:=nm) g hs M.length [s] _ [] lv .uD .uD .uD .uD (bv0 _ s) (aRn hs0) rfl (by simp) h1 (by simp) with ⟨i1,i2⟩|⟨pl',lv',y8,y9,y10,y11,i1,i4⟩
 ·exact .inl ⟨i1,pre _ (qR (i2 1000 (by lia)))⟩
 ·have i1:Cs best M.length (dY nm E M s) lv':=i1;have i4:BZ X5 NT 1000 (ws nk dk s best [s] (putD [(.int 0,.int 0)] (.int s) (.int 1)) [] lv .uD .uD .uD .uD)=.ok (.nx (ws nk dk s best (wlk E M s) pl' (dY nm E M s) lv' y8 y9 y10 y11)):=i4 1000 (by lia);have hlen:(dY nm E M s).length<=M.length:=by
   obtain⟨q1,q2,_⟩:=RQ hs g.g.cl;rw[dY,rowsOf,ay];exact mL _ _ q1 λx hx=>((q2 x).mp hx).mem hs g.g.cl
  refine .inr ⟨?_,pre _ (aJ i4 ?_)⟩
  ·rcases i1 with ⟨z,_⟩|⟨rb,ob,z,z1,z2,z3⟩
   ·exact .inl z
   ·refine .inr ⟨rb,ob,z,?_⟩;rcases z3 with ⟨_,T,e⟩|⟨_,z3⟩
    ·intro hlt;have hT:∀A T:aa D,¬iQ (A++T)<iQ A:=by
      intro A;induction A with
      |nil=>
       intro T;cases T with
       |nil=>exact lg _
       |cons x T=>
        show ¬(1::(enc x++iQ T))<[0];rw[dz];simp
      |cons a A ih=>
       intro T;show ¬(1::(enc a++iQ (A++T)))<(1::(enc a++iQ A));rw[dz];rintro(z|⟨_,z⟩)
       ·exact az z (jI _)
       ·exact ih T ((qY _ _ _).mp z)
     rw[e] at hlt;exact hT _ _ hlt
    ·exact ub z3.lt
  ·have ro:=jE nm E (wlk E M s);refine aC4 (i:=6) (xs:=dY nm E M s) rfl (aC4 (i:=4) (xs:=(wlk E M s).map δ) rfl ?_);refine fG (dD (xs:=[.scr (dY nm E M s),.scr ((wlk E M s).map δ)]) (aC rfl (aC rfl rfl)) (by rw[bK];simp)) ?_;show(ai||(θ (dY nm E M s)&&(θ ((wlk E M s).map δ)&&ag)))=ag;rw[dY,uK ro,dO];rfl
end
theorem CT{a b c:Pt}(h1:¬ltP b a)(h2:¬ltP c b):¬ltP c a:=by unfold ltP at *;lia
noncomputable def mn(m y:Pt):Pt:=if ltP y m then y else m
theorem fold_min:∀(xs:aa Pt)(x:Pt),∀a∈x::xs,¬ltP a (xs.foldl mn x)
 |[],x,a,h=>by
  have:a=x:=by simpa using h
  subst this;show ¬ltP a a;unfold ltP;lia
 |y::xs,x,a,h=>by
  rw[ij];have h1:¬ltP x (mn x y):=by unfold mn;split<;>(unfold ltP at *;lia)
  have h2:¬ltP y (mn x y):=by unfold mn;split<;>(unfold ltP at *;lia)
  have ih:=fold_min xs (mn x y);have h0:=ih (mn x y) (bh ..);rcases bd.mp h with rfl|h
  ·exact CT h0 h1
  ·rcases bd.mp h with rfl|h
   ·exact CT h0 h2
   ·exact ih a (bf _ h)
theorem VD:∀(xs:aa Pt)(x:Pt),(xs.map enP).foldl (λm y=>if (iM .lt y m).getD ai then y else m) (enP x)=enP (xs.foldl mn x)
 |[],x=>rfl
 |y::xs,x=>by
  rw[aT,ij,ij,qP];have:(if (af (ϒ (ltP y x))).getD ai then enP y else enP x)=enP (mn x y):=by
   unfold mn;by_cases h:ltP y x
   ·rw[ar h,bq h];rfl
   ·rw[aq h,bP h];rfl
  rw[this];exact VD xs (mn x y)
theorem aFd(P:aa Pt)(h:P≠[]):∃q∈P,(∀a∈P,¬ltP a q)/\cN .lt [.lst (P.map enP)]=.ok (enP q):=by
 cases P with
 |nil=>exact az rfl h
 |cons p P=>
  have hall:(((p::P).map enP).all λa=>a.eO aM&&((p::P).map enP).all λb=>(iM .lt a b).isSome)=ag:=by
   refine dm.mpr λa ha=>?_
   obtain⟨q,_,rfl⟩:=ax.mp ha;rw[show(enP q).eO aM=ag from rfl,gx];refine dm.mpr λb hb=>?_
   obtain⟨q',_,rfl⟩:=ax.mp hb;rw[qP];rfl
  have e:cN .lt [.lst ((p::P).map enP)]=.ok ((P.map enP).foldl (λm y=>if (iM .lt y m).getD ai then y else m) (enP p)):=by
   show(if (((p::P).map enP).all λa=>a.eO aM&&((p::P).map enP).all λb=>(iM .lt a b).isSome) then ε _ else .bad)=_;rw[hall,ar rfl]
  exact⟨_,VB mn (λa b=>by unfold mn;split<;>simp) P p,fold_min P p,by rw[e,VD]⟩
noncomputable def uX(E:ae->aa Pt)(M:aa ae):aa Pt:=M.flatMap λc=>((E c).filter λf=>ϒ (f.1=0)).map λf=>(f.2,c)
theorem k_{E:ae->aa Pt}{M:aa ae}{q:Pt}:q∈uX E M↔q.2∈M/\(0,q.1)∈E q.2:=by
 unfold uX;simp only[fA,ax,iz,eM];constructor
 ·rintro⟨c,hc,f,⟨hf,h0⟩,rfl⟩;refine⟨hc,?_⟩;rw[<-h0];exact hf
 ·rintro⟨h1,h2⟩;exact⟨q.2,h1,(0,q.1),⟨h2,rfl⟩,rfl⟩
def Sta(E:ae->aa Pt)(M S:aa ae):Prop:=(uX E M=[]/\S=M)\/∃q∈uX E M,(∀a∈uX E M,¬ltP a q)/\S=[q.2]
section
variable {nk dk:aa (D×D)} {M:aa ae} {E:ae->aa Pt} {nm:ae->Str}
theorem aFe(g:Gd nk dk M E){pd:D}{A:aa Pt}{c:ae}(hc:c∈M)(hA:A.length<=10000):stb [.dct dk,pd,.lst (A.map enP),.int c]=.ok (.nx [.dct dk,pd,.lst ((A++((E c).filter λf=>ϒ (f.1=0)).map λf=>(f.2,c)).map enP),.int c]):=by
 have hds:=g.ds c hc;have hel:=g.el c;have gE:(b2 getD fL gB) [.dct dk,pd,.lst (A.map enP),.int c]=.ok (.scr ((E c).map enP)):=by
  refine aH rfl rfl ?_;show(if keyOk (.int c) then ι (bA dk (.int c)) else .bad)=_;rw[hds];rfl
 have hcomp:=sS (qX 4 z_ (bTB (b2 (b8 .eq) (b2 getD d8 cV) cV)) (dM (aD (b2 getD d8 eU) (aD gB aR))) ai [.dct dk,pd,.lst (A.map enP),.int c]) enP (λf=>ϒ (f.1=0)) (λf=>enP (f.2,c)) (λacc f=>by
  refine lL rfl (cJ (aH (x:=.int f.1) (aH rfl rfl rfl) rfl ?_)) λ_=>⟨dD (xs:=[.int f.2,.int c]) (aC (aH rfl rfl rfl) (aC rfl rfl)) (by rw[bK];simp),rfl⟩
  show ε (ξ (eqD (.int f.1) (.int 0)))=_;rw[dI]) (E c) []
 have hl:((E c).filter λf=>ϒ (f.1=0)).length<=100:=c6 (mT ..) hel;have hm:(((E c).filter λf=>ϒ (f.1=0)).map λf=>enP (f.2,c))=(((E c).filter λf=>ϒ (f.1=0)).map λf=>(f.2,c)).map enP:=by rw[bu];rfl
 refine(aNs (i:=2) (xs:=A.map enP) (iV (aC3 gE (nW _)) (by rw[ay,bK];lia) hcomp) rfl ?_ ?_).trans ?_
 ·rw[dQ,ay,ay,bK];lia
 ·rw[dQ,hm];exact nW _
 ·rw[dQ,hm,ce];rfl
theorem VF(hE:∀x,(E x).length<=100):∀M:aa ae,(uX E M).length<=100*M.length
 |[]=>bj _
 |c::M=>by
  have:=VF hE M;have hl:((E c).filter λf=>ϒ (f.1=0)).length<=100:=c6 (mT ..) (hE c);show((((E c).filter λf=>ϒ (f.1=0)).map λf=>(f.2,c))++uX E M).length<=_;rw[cb,ay,b9];lia
theorem X6(g:Gd nk dk M E):∃S:aa ae,Sta E M S/\(∀x∈S,x∈M)/\cD 2 j5 [.dct dk,pS M]=.ok (pS S):=by
 have hM:=g.ml;obtain⟨ρ,e1,x3,rfl⟩:=bU (t:=tg1 3) (body:=stb) (d:=δ) (I:=λys ρ=>∃x3:D,ρ=[.dct dk,pS M,.lst ((uX E ys).map enP),x3]) M (λys c zs ρ e ⟨x3,h⟩=>by
  subst h;have hyl:ys.length<=100:=by rw[e] at hM;simp at hM;lia
  have hc:c∈M:=by rw[e];simp
  have hA:=VF g.el ys;refine⟨[.dct dk,pS M,.lst ((uX E ys).map enP),.int c],_,rfl,aFe (pd:=pS M) (A:=uX E ys) g hc (by lia),.int c,?_⟩
  congr 4
  unfold uX;rw[ki,wc]) (ρ:=[.dct dk,pS M,.lst [],.uD]) ⟨.uD,rfl⟩
 have pre:∀d,(bH (sIf (bTr fD) (jJ (bFz (oX (aD (b2 getD (aO (cN .lt) (aD fD aR)) eU) aR))) ag) jH) (jJ gQ ai)) [.dct dk,pS M,.lst ((uX E M).map enP),x3]=.ok (.rt d)->cD 2 j5 [.dct dk,pS M]=.ok d:=λd h=>by
  refine(dF rfl).trans (call_v ?_);refine aJ (ρ':=[.dct dk,pS M,.lst [],.uD]) (dN (i:=2) rfl rfl) ?_;exact aJ (aBx (i:=1) (xs:=M.map δ) rfl e1) h
 by_cases hA:uX E M=[]
 ·refine⟨M,.inl ⟨hA,rfl⟩,λx h=>h,pre _ ?_⟩;rw[hA];refine aJ (ρ':=[.dct dk,pS M,.lst [],x3]) (rB rfl rfl) (fG rfl ?_);show(ai||θ (M.map δ))=ag;rw[dO];rfl
 ·obtain⟨q,hq,hq2,hm⟩:=aFd _ hA;refine⟨[q.2],.inr ⟨q,hq,hq2,rfl⟩,λx hx=>by rw[cw.mp hx];exact(k_.mp hq).1,pre _ ?_⟩;generalize uX E M=A at hA hq hm ⊢;have ht:(bTr fD) [.dct dk,pS M,.lst (A.map enP),x3]=.ok ag:=by
   show ε (!(A.map enP).isEmpty)=_;cases A with
   |nil=>exact az rfl hA
   |cons a A=>rfl
  refine qR (vW ht (fG (aNk (xs:=[.int q.2]) ?_ rfl) rfl));have:(aD (b2 getD (aO (cN .lt) (aD fD aR)) eU) aR) [.dct dk,pS M,.lst (A.map enP),x3]=.ok [.int q.2]:=aC (aH (x:=enP q) (aL (xs:=[.lst (A.map enP)]) (aC rfl rfl) hm) rfl rfl) rfl;unfold oX;rw[this,τ];rfl
theorem VG(g:Gd nk dk M E)(hnd:M.Nodup){s:ae}(hs:s∈M)(hrc:∀x,Rc (λx=>gf (E x)) s x↔x∈M):(wlk E M s).Perm M:=by
 obtain⟨q1,q2,_⟩:=RQ hs g.cl;exact yK q1 hnd λy=>(q2 y).trans (hrc y)
theorem aCb(g:GdX nk dk M E nm)(hne:M≠[])(hnd:M.Nodup)(hrc:∀s∈M,∀x,Rc (λx=>gf (E x)) s x↔x∈M):∃S s0,Sta E M S/\s0∈S/\(∀s∈S,s∈M)/\(∀s∈S,¬iQ (dY nm E M s)<iQ (dY nm E M s0))/\cD 3 cO [.dct nk,.dct dk,pS M]=.ok (wkD (dY nm E M s0) (wlk E M s0)):=by
 obtain⟨S,s1,s2,s3⟩:=X6 g.g;have hS:S≠[]:=by
  rcases s1 with ⟨_,z⟩|⟨q,_,_,z⟩
  ·rw[z];exact hne
  ·rw[z];simp
 obtain⟨ρ,e1,b,x4,x5,h1,rfl⟩:=bU (t:=tg1 4) (body:=fwb) (d:=δ) (I:=λys ρ=>∃b x4 x5,((ys=[]/\b=.non)\/∃s0∈ys,(∀s∈ys,¬iQ (dY nm E M s)<iQ (dY nm E M s0))/\b=wkD (dY nm E M s0) (wlk E M s0))/\ρ=[.dct nk,.dct dk,pS M,b,x4,x5]) S (λys c zs ρ e ⟨b,x4,x5,h1,h⟩=>by
  subst h;have hc:c∈M:=s2 c (by rw[e];simp);have hysM:∀s∈ys,s∈M:=λs hs=>s2 s (by rw[e];exact dq _ hs)
  have hbb:b=.non\/∃rb ob,b=.tup [.scr rb,ob]/\jD rb/\rb.length=M.length:=by
   rcases h1 with ⟨_,z⟩|⟨s0,hs0,_,z⟩
   ·exact .inl z
   ·refine .inr ⟨_,_,z,jE _ _ _,?_⟩;rw[dY,rowsOf,ay,(VG g.g hnd (hysM s0 hs0) (hrc s0 (hysM s0 hs0))).length_eq]
  have hu:b≠.uD:=by
   rcases h1 with ⟨_,z⟩|⟨s0,_,_,z⟩<;>(rw[z];intro q;cases q)
  refine⟨[.dct nk,.dct dk,pS M,b,.int c,x5],?_⟩;have ha:∀d,cD 4 fB [.dct nk,.dct dk,.int c,b]=.ok d->(cF ai 5 (aO (cD 4 fB) (aD fL (aD gQ (aD d8 (aD gB aR))))) ag) [.dct nk,.dct dk,pS M,b,.int c,x5]=.ok (.nx [.dct nk,.dct dk,pS M,b,.int c,d]):=λd h=>bN (i:=5) (aL (xs:=[.dct nk,.dct dk,.int c,b]) (aC rfl (aC rfl (aC rfl (aC (cC rfl hu) rfl)))) h)
  rcases aFc g hc hbb with ⟨⟨rb,ob,i1,i1'⟩,i2⟩|⟨i1,i2⟩
  ·refine⟨[.dct nk,.dct dk,pS M,b,.int c,.non],rfl,aJ (ha _ i2) (rB rfl rfl),b,.int c,.non,?_,rfl⟩;rcases h1 with ⟨_,z⟩|⟨s0,hs0,hmin,z⟩
   ·rw[z] at i1;cases i1
   ·refine .inr ⟨s0,dq _ hs0,λs hs=>?_,z⟩;rcases cf.mp hs with hs|hs
    ·exact hmin s hs
    ·rw[cw.mp hs];rw[z] at i1;cases i1;exact ub i1'
  ·refine⟨[.dct nk,.dct dk,pS M,wkD (dY nm E M c) (wlk E M c),.int c,wkD (dY nm E M c) (wlk E M c)],rfl,aJ (ha _ i2) (vW rfl rfl),wkD (dY nm E M c) (wlk E M c),.int c,_,.inr ⟨c,by simp,λs hs=>?_,rfl⟩,rfl⟩;rcases cf.mp hs with hs|hs
   ·rcases h1 with ⟨z,_⟩|⟨s0,hs0,hmin,z⟩
    ·rw[z] at hs;cases hs
    ·rcases i1 with z1|⟨rb,ob,z1,z2⟩
     ·rw[z1] at z;cases z
     ·rw[z] at z1;cases z1;intro hlt;exact z2 (ua (jS.mp (hmin s hs)) hlt)
   ·rw[cw.mp hs];exact lg _) (ρ:=[.dct nk,.dct dk,pS M,.non,.uD,.uD]) ⟨.non,.uD,.uD,.inl ⟨rfl,rfl⟩,rfl⟩
 obtain⟨s0,hs0,hmin,rfl⟩:=h1.resolve_left λz=>hS z.1
 refine⟨S,s0,s1,hs0,s2,hmin,(dF rfl).trans (call_v ?_)⟩;refine aJ (ρ':=[.dct nk,.dct dk,pS M,.non,.uD,.uD]) (bN (i:=3) rfl) ?_;refine aJ (mW (aC3 (xs:=S.map δ) (aL (xs:=[.dct dk,pS M]) (aC rfl (aC rfl rfl)) s3) (dO S)) e1) ?_;refine fG (d:=wkD (dY nm E M s0) (wlk E M s0)) rfl ?_;show(ai||(θ (dY nm E M s0)&&(θ ((wlk E M s0).map δ)&&ag)))=ag;rw[dY,uK (jE _ _ _),dO];rfl
end
theorem iK{α:Type}(g:aa D->D->Res (aa D))(d y:α->D):∀(xs:aa α)(acc:aa D),(∀acc,∀a∈xs,g acc (d a)=.ok (acc++[y a]))->lZ g acc (xs.map d)=.ok (acc++xs.map y)
 |[],acc,_=>by rw[im,im,dy];rfl
 |a::xs,acc,h=>by
  show(do let r <- g acc (d a);lZ g r (xs.map d))=_;rw[h acc a (bh ..),τ,iK g d y xs _ λacc b hb=>h acc b (bf _ hb)];simp
def wk2(x:aa D×aa ae):D:=wkD x.1 x.2
def unW:D->aa D×aa ae
 |.tup [.scr rows,.scr o]=>(rows,o.map unI)
 |_=>([],[])
theorem aNt(x:aa D×aa ae):unW (wk2 x)=x:=by
 show(x.1,(x.2.map δ).map unI)=x;rw[bu];have:x.2.map (unI ∘ δ)=x.2:=by
  conv=>rhs;rw[<-eW x.2]
  exact cq λt _=>rfl
 rw[this]
theorem rJ:∀l:aa ae,χ (l.map δ)=ag
 |[]=>rfl
 |x::l=>by rw[aT,χ,rJ l];rfl
theorem aCc(s:Str)(l:aa ae):(ν (fQ s l)).plain=ag:=by
 show(ag&&χ (l.map δ))=ag;rw[rJ];rfl
theorem iY:∀{rows:aa D},jD rows->χ rows=ag
 |[],_=>rfl
 |d::rows,h=>by
  obtain⟨s,l,rfl⟩:=h d (bh ..);rw[χ,aCc,iY λd hd=>h d (bf _ hd)];rfl
theorem NZ:∀{rows:aa D},jD rows->μ 10 rows=ag
 |[],_=>rfl
 |d::rows,h=>by
  obtain⟨s,l,rfl⟩:=h d (bh ..);rw[μ,NZ λd hd=>h d (bf _ hd),ie];exact n8 9 s l
theorem N5:∀{a b:aa D},jD a->jD b->∃k,cU .lt a b=af k
 |[],b,_,_=>⟨_,rfl⟩
 |x::a,[],_,_=>⟨_,rfl⟩
 |x::a,y::b,ha,hb=>by
  obtain⟨k,h⟩:=N5 (λd hd=>ha d (bf _ hd)) λd hd=>hb d (bf _ hd)
  obtain⟨s,l,rfl⟩:=ha x (bh ..);obtain⟨s',l',rfl⟩:=hb y (bh ..);show ∃k,(if eqD (.scr (fQ s l)) (.scr (fQ s' l')) then cU .lt a b else cU .lt (fQ s l) (fQ s' l'))=af k;split
  ·exact⟨k,h⟩
  ·exact U9 .lt s s' l l'
theorem aNu{x y:aa D×aa ae}(hx:jD x.1)(hy:jD y.1):∃k,iM .lt (wk2 x) (wk2 y)=af k:=by
 obtain⟨k1,h1⟩:=N5 hx hy;obtain⟨k2,h2⟩:=JD .lt x.2 y.2;show ∃k,(if eqD (.scr x.1) (.scr y.1) then (if eqD (.scr (x.2.map δ)) (.scr (y.2.map δ)) then cU .lt [] [] else cU .lt (x.2.map δ) (y.2.map δ)) else cU .lt x.1 y.1)=af k;split
 ·split
  ·exact⟨_,rfl⟩
  ·exact⟨k2,h2⟩
 ·exact⟨k1,h1⟩
theorem JK{L:aa (aa D×aa ae)}(hz:L.length<64)(h:∀x∈L,jD x.1):bB (L.map wk2)=ag:=by
 unfold bB;rw[bq (by rw[ay];exact hz),gx];refine dm.mpr λd hd=>?_
 obtain⟨x,hx,rfl⟩:=ax.mp hd;have hk:fC ((L.map wk2).headD .non)=6:=by
  cases L with
  |nil=>cases hx
  |cons u U=>rfl
 have h6:fC (wk2 x)=6:=rfl;have hp:(wk2 x).plain=ag:=by
  show(χ x.1&&(χ (x.2.map δ)&&ag))=ag;rw[iY (h x hx),rJ];rfl
 have hq:(wk2 x).eO aM=ag:=by
  show(μ 10 x.1&&(μ 10 (x.2.map δ)&&ag))=ag;rw[NZ (h x hx),uJ];rfl
 rw[hk,h6,hp,hq];refine dm.mpr λb hb=>?_
 obtain⟨y,hy,rfl⟩:=ax.mp hb;obtain⟨k,e⟩:=aNu (h x hx) (h y hy);rw[e];rfl
theorem aK5{i:ah}{f:FE}{ρ xs ys:aa D}(h1:f ρ=.ok (.scr ys))(h2:ρ.getD i .uD=.lst xs)(h3:xs.length+ys.length<=lim)(h4:θ ys=ag):aB3 i f ρ=.ok (.nx (ρ.set i (.lst (xs++ys)))):=by
 unfold aB3;rw[h1,τ,h2];show(if ϒ (xs.length+ys.length<=lim)&&θ ys then _ else _)=_;rw[bq h3,h4];rfl
noncomputable def EP:ah->aa ae->aa Pt
 |_,[]=>[]
 |m,o::O=>((m:ae),o)::EP (m+1) O
theorem aCd(m:ah):∀(k:ah)(O:aa ae),((O.map δ).zipIdx k).map (λp=>ω [.int ((m+p.2:ah):ae),p.1])=(EP (m+k) O).map enP
 |_,[]=>rfl
 |k,o::O=>by
  rw[aT,List.zipIdx_cons,aT,aCd m (k+1) O];rfl
theorem VH(m:ah)(O:aa ae):GP m (O.map δ)=(EP m O).map enP:=aCd m 0 O
theorem aCe:∀(m:ah)(O:aa ae),(EP m O).map (·.2)=O
 |_,[]=>rfl
 |m,o::O=>by
  show o::(EP (m+1) O).map (·.2)=_;rw[aCe]
theorem aGw:∀(m:ah)(O:aa ae),(EP m O).map (·.1)=(bn O.length).map λ(k:ah)=>((m:ae)+k)
 |_,[]=>rfl
 |m,o::O=>by
  show(m:ae)::(EP (m+1) O).map (·.1)=_;rw[aGw (m+1) O,b9,yn,aT,bu];have e1:((m:ae)+((0:ah):ae))=m:=by lia
  rw[e1];refine cm _ (cq λk _=>?_);show((m+1:ah):ae)+k=(m:ae)+((k+1:ah):ae);lia
theorem X7(U:aa Pt)(hz:U.length<64):fM [.lst (U.map enP)]=.ok (.lst ((lU U).map enP)):=by
 show(if bB (U.map enP) then ε (υ (iR (U.map enP))) else .bad)=_;rw[zU U hz,ar rfl,aBw]
theorem aCf{U:aa Pt}{M:aa ae}(h:(U.map (·.1)).Perm M)(hM:M.Pairwise (·<·)):(lU U).map (·.1)=M:=by
 have hnd:M.Nodup:=hM.imp λ{a b} z=>by lia
 have hU:(U.map (·.1)).Nodup:=h.nodup_iff.mpr hnd;have hUn:U.Nodup:=(cz.mp hU).imp λ{a b} z e=>z (by rw[e])
 have hp:((lU U).map (·.1)).Perm M:=((lV U).map _).trans h;refine v4 ?_ hM λx=>hp.mem_iff
 have h1:(lU U).Pairwise λa b=>a.1≠b.1:=cz.mp (hp.nodup_iff.mpr hnd)
 refine cz.mpr (Bl ?_ (X4 hUn) h1);intro a b z1 z2;unfold ltP at z1;lia
theorem VJ:∀Q:aa Pc,lN (Q.map pcD)=af (Q.map λc=>(δ c.1,π c.2))
 |[]=>rfl
 |c::Q=>by
  show(if fZ (.int c.1)&&(π c.2).pure then (lN (Q.map pcD)).map ((δ c.1,π c.2)::·) else am)=_;rw[VJ Q];rfl
theorem CV:∀(Q:aa Pc)(acc:aa (D×D))(n:ae),n∈Q.map (·.1)\/(∃s:Str,bA acc (.int n)=af (.str s))->∃s:Str,bA (bG acc (Q.map λc=>(δ c.1,π c.2))) (.int n)=af (.str s)
 |[],acc,n,h=>h.resolve_left (by simp)
 |c::Q,acc,n,h=>by
  show ∃s:Str,bA (bG (putD acc (.int c.1) (.str c.2)) (Q.map λc=>(δ c.1,π c.2))) (.int n)=af (.str s);refine CV Q _ n ?_;rw[mR];by_cases e:c.1=n
  ·exact .inr ⟨c.2,ar e⟩
  ·rw[aq e];rcases h with h|h
   ·exact .inl ((bd.mp h).resolve_left λz=>e z.symm)
   ·exact .inr h
def nkD(Q:aa Pc):aa (D×D):=bG [] (Q.map λc=>(δ c.1,π c.2))
theorem aFf{Q:aa Pc}(h:Q.length<=30):xP (.tup (Q.map pcD))=.ok (.dct (nkD Q)):=by
 show(match lN (Q.map pcD) with|some ps=>if ϒ ((Q.map pcD).length<=1000) then ε (D.dct (bG [] ps)) else .bad|none=>.bad)=_;rw[VJ];show(if ϒ ((Q.map pcD).length<=1000) then ε (D.dct (nkD Q)) else .bad)=_;rw[bq (by rw[ay];lia),ar rfl]
section
variable {kvs:aa (D×D)} {Q:aa Pc} {V:aa Tie}
theorem N6(w:Net kvs Q V){x:ae}(hx:x∈Q.map (·.1)){y:ae}:y∈gf (ea kvs Q V x)↔y∈uI V x:=by
 obtain⟨pc,hp,rfl⟩:=ax.mp hx;have wf:=w.wf;have h0:=w.qpos pc hp;unfold gf;rw[iz,v9];simp only[ax,eM];constructor
 ·rintro⟨⟨f,hf,rfl⟩,hy⟩;obtain⟨h,ht⟩:=(NP w hp).mp hf;rcases ht with ht|ht
  ·exact⟨_,ht,by show pc.1≠0;lia,.inl ⟨rfl,rfl⟩⟩
  ·exact⟨_,ht,hy,.inr ⟨rfl,rfl⟩⟩
 ·rintro⟨t,ht,h1,h2⟩;have hm:t.1.1∈Q.map (·.1)/\t.2.1∈Q.map (·.1):=(wf.ok t ht).resolve_left λz=>h1 z.1
  have q1:=wf.qp _ hm.1;have q2:=wf.qp _ hm.2;rcases h2 with ⟨h2,h3⟩|⟨h2,h3⟩
  ·refine⟨⟨t.2,(NP w hp).mpr ⟨t.1.2,.inl ?_⟩,h3⟩,by lia⟩;rw[show(pc.1,t.1.2)=t.1 from Prod.ext h2.symm rfl];exact ht
  ·refine⟨⟨t.1,(NP w hp).mpr ⟨t.2.2,.inr ?_⟩,h3⟩,by lia⟩;rw[show(pc.1,t.2.2)=t.2 from Prod.ext h2.symm rfl];exact ht
theorem aNv(w:Net kvs Q V)(x:ae):(ea kvs Q V x).length<=100:=by
 unfold ea;rw[CQ];unfold vq;cases h:Q.find? λc=>ϒ (c.1=x) with
 |none=>simp
 |some c=>
  have:=aBy w (List.mem_of_find?_eq_some h);show vOf kvs c.2+1<=100;lia
theorem jT(w:Net kvs Q V){F:aa (aa ae)}(ps:Ps (uI V) (Q.map (·.1)) F){p:aa ae}(hp:p∈F):Gd (nkD Q) (dE (Q.map (·.1)) (ea kvs Q V)) p (ea kvs Q V)/\p≠[]/\p.Nodup/\∀s∈p,∀x,Rc (λx=>gf (ea kvs Q V x)) s x↔x∈p:=by
 have wf:=w.wf;have hcl:=j6 wf;obtain⟨n,q,e,hn,hlt,hm⟩:=ps.ea p hp;have hsub:∀x∈p,x∈Q.map (·.1):=λx hx=>((hm x).mp hx).mem hn hcl
 have hnd:p.Nodup:=hlt.imp λ{a b} z=>by lia
 have hl:p.length<=30:=by
  have:=mL _ _ hnd hsub;rw[ay] at this;have:=w.ql;lia
 refine⟨⟨λx hx y hy=>?_,by lia,aNv w,λx hx=>aBz (hsub x hx),λx hx=>CV Q [] x (.inl (hsub x hx))⟩,by rw[e];simp,hnd,λs hs x=>?_⟩
 ·exact(hm y).mpr (((hm x).mp hx).step ((N6 w (hsub x hx)).mp hy))
 ·have hs':=(hm s).mp hs;have hsN:=hsub s hs;have cl2:∀x∈Q.map (·.1),∀y∈gf (ea kvs Q V x),y∈Q.map (·.1):=λx hx y hy=>hcl x hx y ((N6 w hx).mp hy)
  constructor
  ·intro h;exact(hm x).mpr (hs'.trans (Rc.to hsN cl2 (λx hx y hy=>(N6 w hx).mp hy) h))
  ·intro h;have h1:Rc (uI V) s x:=(hs'.symm (M9 V)).trans ((hm x).mp h);exact Rc.to hsN hcl (λx hx y hy=>(N6 w hx).mpr hy) h1
theorem N7:∀{F:aa (aa ae)}{W:aa ae->aa D×aa ae},(∀p∈F,(W p).2.Perm p)->((F.map W).flatMap (·.2)).Perm F.flatten
 |[],_,_=>.refl _
 |p::F,W,h=>by
  show((W p).2++(F.map W).flatMap (·.2)).Perm (p++F.flatten);exact(h p (bh ..)).append (N7 λq hq=>h q (bf _ hq))
theorem n_{α β:Type}(f:α->aa β){l m:aa α}(h:l.Perm m):(l.flatMap f).Perm (m.flatMap f):=by
 induction h with
 |nil=>exact .refl _
 |cons a _ ih=>exact r_ _ ih
 |swap a b l=>
  show(f b++(f a++_)).Perm (f a++(f b++_));rw[<-c_,<-c_];exact(rj).append_right _
 |trans _ _ h1 h2=>exact h1.trans h2
noncomputable def wn(net:D)(nk dk:aa (D×D))(x3 x4 x5 x6:D):aa D:=[net,.dct nk,.dct dk,x3,x4,x5,x6]
def prs(O:aa ae):aa Pt:=(EP 1 O).map λe=>((e.2,e.1):Pt)
theorem RT(O:aa ae):(prs O).map (·.1)=O:=by unfold prs;rw[bu];exact aCe 1 O
theorem aK6(O:aa ae):(prs O).map (·.2)=(bn O.length).map λ(k:ah)=>((1:ae)+k):=by unfold prs;rw[bu];exact aGw 1 O
theorem aCg{net:D}{nk dk:aa (D×D)}{F:aa (aa ae)}{W:aa ae->aa D×aa ae}(hW:∀p∈F,cD 3 cO [.dct nk,.dct dk,pS p]=.ok (wk2 (W p))):lZ (qX 7 z_ gR (aO (cD 3 cO) (aD gQ (aD fD (aD jL aR)))) ag (wn net nk dk .uD .uD .uD .uD)) [] (F.map pS)=.ok ((F.map W).map wk2):=by
 have h:=iK (qX 7 z_ gR (aO (cD 3 cO) (aD gQ (aD fD (aD jL aR)))) ag (wn net nk dk .uD .uD .uD .uD)) pS (λp=>wk2 (W p)) F [] (λacc p hp=>by
  have hf:(aO (cD 3 cO) (aD gQ (aD fD (aD jL aR)))) [net,.dct nk,.dct dk,.uD,.uD,.uD,.uD,pS p]=.ok (wk2 (W p)):=aL (xs:=[.dct nk,.dct dk,pS p]) (aC rfl (aC rfl (aC rfl rfl))) (hW p hp);exact lL (b:=ag) rfl rfl λ_=>⟨hf,rfl⟩)
 rw[h,dQ,bu];rfl
theorem aCh{net x3 x5 x6:D}{nk dk:aa (D×D)}{O:aa ae}:lZ (qX 7 (yU 2) gR (dM (aD u5 (aD jL aR))) ai (wn net nk dk x3 (.lst (O.map δ)) x5 x6)) [] (GP 1 (O.map δ))=.ok ((prs O).map enP):=by
 rw[VH,iK _ enP (λe=>enP (e.2,e.1)) (EP 1 O) [] (λacc e _=>by
  exact lR (bs:=[.int e.1,.int e.2]) (b:=ag) rfl rfl rfl λ_=>⟨dD (xs:=[.int e.2,.int e.1]) (aC rfl (aC rfl rfl)) (by rw[bK];simp),rfl⟩),dQ]
 unfold prs;rw[bu];rfl
end
def FW(nm:ae->Str)(E:ae->aa Pt)(p:aa ae)(rows:aa D):Prop:=∃S s0,Sta E p S/\s0∈S/\(∀s∈S,s∈p)/\(∀s∈S,¬iQ (dY nm E p s)<iQ (dY nm E p s0))/\rows=dY nm E p s0
section
variable {φ:ae->ae} {p p':aa ae} {nm nm':ae->Str} {E E':ae->aa Pt}
theorem aNw(cl:∀x∈p,∀y∈gf (E x),y∈p){s:ae}(hs:s∈p):∀x∈wlk E p s,x∈p:=λx hx=>by
 obtain⟨_,q2,_⟩:=RQ hs cl;exact((q2 x).mp hx).mem hs cl
theorem aK7(i:Iso φ p nm nm' E E')(hl:p'.length=p.length){s:ae}(hs:s∈p):wlk E' p' (φ s)=(wlk E p s).map φ:=by
 unfold wlk;rw[hl];exact aC9 i p.length [s] 0 λx hx=>by rw[cw.mp hx];exact hs
theorem N8(i:Iso φ p nm nm' E E')(hl:p'.length=p.length){s:ae}(hs:s∈p):dY nm' E' p' (φ s)=dY nm E p s:=by
 unfold dY;rw[aK7 i hl hs];exact aFa i (aNw i.cl hs)
theorem wB(i:Iso φ p nm nm' E E')(hm:∀y,y∈p'↔∃x∈p,φ x=y){q':Pt}:q'∈uX E' p'↔∃q∈uX E p,q'=(q.1,φ q.2):=by
 rw[k_];constructor
 ·rintro⟨h1,h2⟩;obtain⟨c,hc,e⟩:=(hm _).mp h1;rw[<-e,i.ea c hc] at h2;obtain⟨f,hf,ef⟩:=ax.mp h2;have e1:φ f.1=0:=cm mv ef;have e2:f.2=q'.1:=cm lw ef;have h0:=(i.ze (RP (i.cl c hc) f hf)).mp e1;refine⟨(q'.1,c),k_.mpr ⟨hc,?_⟩,Prod.ext rfl e.symm⟩;show(0,q'.1)∈E c;rw[<-e2,<-h0];exact hf
 ·rintro⟨q,hq,rfl⟩;obtain⟨h1,h2⟩:=k_.mp hq;refine⟨(hm _).mpr ⟨q.2,h1,rfl⟩,?_⟩;show(0,q.1)∈E' (φ q.2);rw[i.ea q.2 h1];exact ax.mpr ⟨(0,q.1),h2,by rw[i.z]⟩
theorem aK8(i:Iso φ p nm nm' E E')(hm:∀y,y∈p'↔∃x∈p,φ x=y)(hu:∀q∈uX E p,∀r∈uX E p,q.1=r.1->q=r){S S':aa ae}(h:Sta E p S)(h':Sta E' p' S'):∀y,y∈S'↔∃x∈S,φ x=y:=by
 rcases h with ⟨h1,rfl⟩|⟨q,hq,hmin,rfl⟩
 ·rcases h' with ⟨_,rfl⟩|⟨q',hq',_⟩
  ·exact hm
  ·obtain⟨q,hq,_⟩:=(wB i hm).mp hq';rw[h1] at hq;cases hq
 ·rcases h' with ⟨h1',rfl⟩|⟨q',hq',hmin',rfl⟩
  ·have:=(wB i hm).mpr ⟨q,hq,rfl⟩;rw[h1'] at this;cases this
  ·obtain⟨r,hr,rfl⟩:=(wB i hm).mp hq';have a:=hmin r hr;have b:=hmin' _ ((wB i hm).mpr ⟨q,hq,rfl⟩);have e:r=q:=hu r hr q hq (by unfold ltP at a b;simp only at a b;lia);subst e;intro y;simp;exact eq_comm
theorem aK9(i:Iso φ p nm nm' E E')(hl:p'.length=p.length)(hm:∀y,y∈p'↔∃x∈p,φ x=y)(hu:∀q∈uX E p,∀r∈uX E p,q.1=r.1->q=r){r r':aa D}(h:FW nm E p r)(h':FW nm' E' p' r'):r'=r:=by
 obtain⟨S,s0,a1,a2,a3,a4,rfl⟩:=h;obtain⟨S',s0',b1,b2,b3,b4,rfl⟩:=h';have hS:=aK8 i hm hu a1 b1;obtain⟨s1,hs1,e⟩:=(hS s0').mp b2;subst e;have c1:¬iQ (dY nm' E' p' (φ s1))<iQ (dY nm E p s0):=by
  rw[N8 i hl (a3 s1 hs1)];exact a4 s1 hs1
 have c2:¬iQ (dY nm E p s0)<iQ (dY nm' E' p' (φ s1)):=by
  rw[<-N8 i hl (a3 s0 a2)];exact b4 (φ s0) ((hS _).mpr ⟨s0,a2,rfl⟩)
 have:=uc (jS.mp c1) (jS.mp c2);exact((rY _ _ [] [] (iY (jE _ _ _)) (iY (jE _ _ _)) (by rw[dY,dY] at this;rw[this])).1).symm
end
structure Pa(E:ae->aa Pt)(M:aa ae)(F:aa (aa ae)):Prop where
 nd:F.Nodup
 cv:∀n∈M,∃p∈F,n∈p
 ne:∀p∈F,p≠[]
 up:∀p∈F,p.Pairwise (·<·)
 sub:∀p∈F,∀x∈p,x∈M
 rc:∀p∈F,∀s∈p,∀x,Rc (λx=>gf (E x)) s x↔x∈p
section
variable {φ:ae->ae} {M M':aa ae} {nm nm':ae->Str} {E E':ae->aa Pt} {F F':aa (aa ae)}
theorem Pa.nodup(h:Pa E M F){p:aa ae}(hp:p∈F):p.Nodup:=(h.up p hp).imp λ{a b} z=>by lia
theorem Pa.aRo(h:Pa E M F){p q:aa ae}(hp:p∈F)(hq:q∈F){x:ae}(h1:x∈p)(h2:x∈q):p=q:=v4 (h.up p hp) (h.up q hq) λy=>(h.rc p hp x h1 y).symm.trans (h.rc q hq x h2 y)
theorem Pa.cl(h:Pa E M F){p:aa ae}(hp:p∈F):∀x∈p,∀y∈gf (E x),y∈p:=λx hx y hy=>(h.rc p hp x hx y).mp (Rc.refl.step hy)
theorem aNx(i:Iso φ M nm nm' E E'){s:ae}(hs:s∈M){y:ae}:Rc (λx=>gf (E' x)) (φ s) y↔∃x,Rc (λx=>gf (E x)) s x/\φ x=y:=by
 constructor
 ·intro h;induction h with
  |refl=>exact⟨s,.refl,rfl⟩
  |step _ hy ih=>
   obtain⟨x,h1,rfl⟩:=ih;have hx:x∈M:=h1.mem hs i.cl;have hy2:=hy;rw[aC8 i hx] at hy2;obtain⟨z,hz,e⟩:=ax.mp hy2;exact⟨z,h1.step hz,e⟩
 ·rintro⟨x,h,rfl⟩;induction h with
  |refl=>exact .refl
  |step h1 hy ih=>
   refine ih.step ?_;show _∈gf (E' (φ _));rw[aC8 i (h1.mem hs i.cl)];exact ax.mpr ⟨_,hy,rfl⟩
def iot(φ:ae->ae)(p:aa ae):aa ae:=sortI (p.map φ)
theorem JL{p:aa ae}{y:ae}:y∈iot φ p↔∃x∈p,φ x=y:=by
 unfold iot;rw[(sortI_perm _).mem_iff,ax]
theorem VL(i:Iso φ M nm nm' E E')(hM:∀y,y∈M'↔∃x∈M,φ x=y)(h:Pa E M F)(h':Pa E' M' F'){p q:aa ae}(hp:p∈F)(hq:q∈F'){x:ae}(h1:x∈p)(h2:φ x∈q):iot φ p=q:=by
 have hnd:(p.map φ).Nodup:=by
  refine cz.mpr ((h.nodup hp).imp_of_mem λ{a b} ha hb hab e=>hab (i.inj a (h.sub p hp a ha) b (h.sub p hp b hb) e))
 refine v4 (U6 hnd) (h'.up q hq) λy=>?_
 rw[JL,<-h'.rc q hq _ h2 y,aNx i (h.sub p hp x h1)];constructor
 ·rintro⟨z,hz,e⟩;exact⟨z,(h.rc p hp x h1 z).mpr hz,e⟩
 ·rintro⟨z,hz,e⟩;exact⟨z,(h.rc p hp x h1 z).mp hz,e⟩
theorem aCi(i:Iso φ M nm nm' E E')(hM:∀y,y∈M'↔∃x∈M,φ x=y)(h:Pa E M F)(h':Pa E' M' F'):(F.map (iot φ)).Perm F':=by
 have to:∀p∈F,iot φ p∈F':=λp hp=>by
  obtain⟨x,hx⟩:∃x,x∈p:=wd _ (h.ne p hp);obtain⟨q,hq,hxq⟩:=h'.cv (φ x) ((hM _).mpr ⟨x,h.sub p hp x hx,rfl⟩);rw[VL i hM h h' hp hq hx hxq];exact hq
 refine(rV ?_ h'.nd).mpr λq=>?_
 ·refine cz.mpr (h.nd.imp_of_mem λ{p q} hp hq hpq e=>hpq ?_);obtain⟨x,hx⟩:∃x,x∈p:=wd _ (h.ne p hp);have hm:φ x∈iot φ q:=by rw[<-e];exact JL.mpr ⟨x,hx,rfl⟩
  obtain⟨y,hy,e2⟩:=JL.mp hm;have:=i.inj y (h.sub q hq y hy) x (h.sub p hp x hx) e2;subst this;exact h.aRo hp hq hx hy
 ·rw[ax];constructor
  ·rintro⟨p,hp,rfl⟩;exact to p hp
  ·intro hq;obtain⟨y,hy⟩:∃y,y∈q:=wd _ (h'.ne q hq);obtain⟨x,hx,rfl⟩:=(hM y).mp (h'.sub q hq y hy);obtain⟨p,hp,hxp⟩:=h.cv x hx;exact⟨p,hp,VL i hM h h' hp hq hxp hy⟩
theorem Iso.part(i:Iso φ M nm nm' E E'){p:aa ae}(hs:∀x∈p,x∈M)(cl:∀x∈p,∀y∈gf (E x),y∈p):Iso φ p nm nm' E E':=⟨i.z,λx hx=>i.nz x (hs x hx),λx hx y hy=>i.inj x (hs x hx) y (hs y hy),λx hx=>i.nm x (hs x hx),λx hx=>i.ea x (hs x hx),cl⟩
theorem aCj(i:Iso φ M nm nm' E E')(hM:∀y,y∈M'↔∃x∈M,φ x=y)(h:Pa E M F)(h':Pa E' M' F')(hu:∀q∈uX E M,∀r∈uX E M,q.1=r.1->q=r){k k':aa ae->aa D}(hk:∀p∈F,FW nm E p (k p))(hk':∀p∈F',FW nm' E' p (k' p)):(F.map k).Perm (F'.map k'):=by
 have hp:=aCi i hM h h';have e:F.map k=(F.map (iot φ)).map k':=by
  rw[bu];refine cq λp hpF=>?_
  have hin:iot φ p∈F':=hp.mem_iff.mp (ax.mpr ⟨p,hpF,rfl⟩);have ip:=i.part (h.sub p hpF) (h.cl hpF);have sub:∀q∈uX E p,q∈uX E M:=λq hq=>by
   obtain⟨a,b⟩:=k_.mp hq;exact k_.mpr ⟨h.sub p hpF _ a,b⟩
  refine(aK9 ip ?_ (λy=>JL) (λq hq r hr=>hu q (sub q hq) r (sub r hr)) (hk p hpF) (hk' _ hin)).symm;show(sortI (p.map φ)).length=_;rw[(sortI_perm _).length_eq,ay]
 rw[e];exact hp.map k'
end
theorem zV:(2:ah)<=lim:=by rw[bK];lia
theorem aKa:(3:ah)<=lim:=by rw[bK];lia
noncomputable def aQ2:D->Pc
 |.tup [.int a,.str b]=>(a,b)
 |_=>(0,"")
def cZ(U:aa Pc):aa Pc:=(iR (U.map pcD)).map aQ2
theorem dH(U:aa Pc):(cZ U).Perm U:=by
 have h:=(b_ (U.map pcD)).map aQ2;rw[bu] at h;have e:U.map (aQ2 ∘ pcD)=U:=by
  conv=>rhs;rw[<-eW U]
  exact cq λt _=>rfl
 rw[e] at h;exact h
theorem VM(U:aa Pc):(cZ U).map pcD=iR (U.map pcD):=by
 unfold cZ;rw[bu]
 conv=>rhs;rw[<-eW (iR (U.map pcD))]
 refine cq λd hd=>?_
 obtain⟨t,_,rfl⟩:=ax.mp ((b_ (U.map pcD)).mem_iff.mp hd);rfl
theorem yL(U:aa Pc)(hz:U.length<64):fM [.lst (U.map pcD)]=.ok (.lst ((cZ U).map pcD)):=by
 show(if bB (U.map pcD) then ε (υ (iR (U.map pcD))) else .bad)=_;rw[qQ U hz,ar rfl,VM]
theorem RV{P:aa Pc}{U:aa Tie}(r:ae)(hP:P.length<64)(hU:U.length<64)(hl:U.length<=lim):cD 3 oM [.lst (P.map pcD),.lst (U.map bI),.int r]=.ok (bL (cZ P) (dG (U.map norm)) r):=by
 refine(dF rfl).trans (call_v ?_);have hf:lZ (qX 4 (yU 2) gR (dM (aD (aO (cN .lt) (aD d8 (aD fH aR))) (aD (aO (cN .gt) (aD d8 (aD fH aR))) aR))) ai [.lst (P.map pcD),.lst (U.map bI),.int r,.uD]) [] (U.map bI)=.ok ((U.map norm).map bI):=by
  rw[iK _ bI (λt=>bI (norm t)) U [] λacc t _=>by
   have e1:=M7 .lt t.1 t.2 ltP qP;have e2:=M7 .gt t.1 t.2 (λx y=>ltP y x) U3;exact lR (n:=4) (t:=yU 2) (c:=gR) (k:=ai) (acc:=acc) (x:=bI t) (b:=ag) (bs:=[enP t.1,enP t.2]) (y:=bI (norm t)) rfl rfl rfl λ_=>⟨dD (xs:=[enP (norm t).1,enP (norm t).2]) (aC (aL (xs:=[enP t.1,enP t.2]) (aC rfl (aC rfl rfl)) e1) (aC (aL (xs:=[enP t.1,enP t.2]) (aC rfl (aC rfl rfl)) e2) rfl)) zV,rfl⟩,dQ,bu]
  rfl
 refine aJ (ρ':=[.lst (P.map pcD),.lst (U.map bI),.int r,.lst ((U.map norm).map bI)]) (bN (i:=3) (iV (kJ rfl rfl) (by rw[ay];exact hl) hf)) ?_;refine fG (d:=bL (cZ P) (dG (U.map norm)) r) (dD (xs:=[.tup ((cZ P).map pcD),.tup ((dG (U.map norm)).map bI),.int r]) (aC (aL (xs:=[.lst ((cZ P).map pcD)]) (aC (aL (xs:=[.lst (P.map pcD)]) (aC rfl rfl) (yL P hP)) rfl) rfl) (aC (aL (xs:=[.lst ((dG (U.map norm)).map bI)]) (aC (aL (xs:=[.lst ((U.map norm).map bI)]) (aC rfl rfl) (tE _ (by rw[ay];exact hU))) rfl) rfl) (aC rfl rfl))) aKa) ?_;rw[kZ];rfl
noncomputable def kvI(p:Pt):D×D:=(.int p.1,.int p.2)
def fz(Z:aa Pt)(n:ae):ae:=((Z.find? λp=>ϒ (p.1=n)).map (·.2)).getD 0
theorem oO(n:ae):∀(Z:aa Pt)(acc:aa (D×D)),(Z.map (·.1)).Nodup->bA (bG acc (Z.map kvI)) (.int n)=if n∈Z.map (·.1) then af (.int (fz Z n)) else bA acc (.int n)
 |[],acc,_=>by simp[bG]
 |p::Z,acc,h=>by
  rw[aT,cj] at h;show bA (bG (putD acc (.int p.1) (.int p.2)) (Z.map kvI)) (.int n)=_;rw[oO n Z _ h.2,mR];by_cases e:p.1=n
  ·subst e;rw[aq h.1,ar rfl,ar (by simp)];simp[fz]
  ·have e2:fz (p::Z) n=fz Z n:=by simp[fz,gV,e]
   rw[aq e,e2];by_cases hm:n∈Z.map (·.1)
   ·rw[ar hm,ar (by simp only[aT];exact bf _ hm)]
   ·rw[aq hm,aq];intro z;rcases bd.mp z with z|z
    ·exact e z.symm
    ·exact hm z
def RW(nd:aa (D×D))(M:aa ae)(nf:ae->ae):Prop:=∀n,n=0\/n∈M->bA nd (.int n)=af (.int (nf n))
def nfZ(Z:aa Pt)(n:ae):ae:=if n=0 then 0 else fz Z n
theorem aQq{Z:aa Pt}(h:(Z.map (·.1)).Nodup):RW (putD (bG [] (Z.map kvI)) (.int 0) (.int 0)) (Z.map (·.1)) (nfZ Z):=λn hn=>by
 rw[mR];unfold nfZ;by_cases e:n=0
 ·subst e;rw[ar rfl,ar rfl]
 ·rw[aq λz=>e z.symm,aq e,oO n Z _ h,ar (hn.resolve_left e)]
theorem aQ3{Z:aa Pt}(h:(Z.map (·.1)).Nodup)(h0:0∉Z.map (·.1)):RW (bG [(.int 0,.int 0)] (Z.map kvI)) (Z.map (·.1)) (nfZ Z):=λn hn=>by
 unfold nfZ;rw[oO n Z _ h];by_cases e:n=0
 ·subst e;rw[aq h0,ar rfl];rfl
 ·rw[aq e,ar (hn.resolve_left e)]
theorem RW.get{nd:aa (D×D)}{M:aa ae}{nf:ae->ae}(h:RW nd M nf){n:ae}(hn:n=0\/n∈M):getD (.dct nd) (.int n)=.ok (.int (nf n)):=by
 show(if keyOk (.int n) then ι (bA nd (.int n)) else .bad)=_;rw[h n hn];rfl
noncomputable def cP(nf:ae->ae)(c:Pc):Pc:=(nf c.1,c.2)
noncomputable def cE(nf:ae->ae)(e:Pt):Pt:=(nf e.1,e.2)
def cT(nf:ae->ae)(t:Tie):Tie:=(cE nf t.1,cE nf t.2)
theorem Wf.tie{Q:aa Pc}{V:aa Tie}(w:Wf Q V){t:Tie}(h:t∈V):(t.1.1=0\/t.1.1∈Q.map (·.1))/\(t.2.1=0\/t.2.1∈Q.map (·.1)):=by
 rcases w.ok t h with ⟨h1,h2⟩|⟨h1,h2⟩
 ·exact⟨.inl h1,h2⟩
 ·exact⟨.inr h1,.inr h2⟩
theorem RX:∀Z:aa Pt,lN (Z.map enP)=af (Z.map kvI)
 |[]=>rfl
 |p::Z=>by
  show(if fZ (.int p.1)&&(δ p.2).pure then (lN (Z.map enP)).map ((δ p.1,δ p.2)::·) else am)=_;rw[RX Z];rfl
theorem VN{Q:aa Pc}{nd:aa (D×D)}{nf:ae->ae}(h:RW nd (Q.map (·.1)) nf){m:ah}{ρ:aa D}{f:FE}(hl:ρ.length=m)(hf:∀c∈Q,f (ρ++[.int c.1,.str c.2])=.ok (pcD (cP nf c))):lZ (qX m (yU 2) gR f ai ρ) [] (Q.map pcD)=.ok ((Q.map (cP nf)).map pcD):=by
 rw[iK _ pcD (λc=>pcD (cP nf c)) Q [] λacc c hc=>by
  exact lR (x:=pcD c) (b:=ag) (bs:=[.int c.1,.str c.2]) (y:=pcD (cP nf c)) hl rfl rfl λ_=>⟨hf c hc,rfl⟩,dQ,bu]
 rfl
theorem aCk{V:aa Tie}{nf:ae->ae}{m:ah}{ρ:aa D}{f:FE}(hl:ρ.length=m)(hf:∀t∈V,f (ρ++[enP t.1,enP t.2])=.ok (bI (cT nf t))):lZ (qX m (yU 2) gR f ai ρ) [] (V.map bI)=.ok ((V.map (cT nf)).map bI):=by
 rw[iK _ bI (λt=>bI (cT nf t)) V [] λacc t ht=>by
  exact lR (x:=bI t) (b:=ag) (bs:=[enP t.1,enP t.2]) (y:=bI (cT nf t)) hl rfl rfl λ_=>⟨hf t ht,rfl⟩,dQ,bu]
 rfl
theorem lW{a:FE}{ρ xs:aa D}(h:a ρ=.ok (.tup xs))(hp:θ xs=ag):cX a ai ρ=.ok (xs,ag):=by
 have:=kJ (fr:=ai) h (show o8 (.tup xs)=.ok xs from rfl);rw[this,l7,D.pure,hp]
def cQ(Q:aa Pc)(V:aa Tie)(r:ae)(nf:ae->ae):D:=bL (cZ (Q.map (cP nf))) (dG ((V.map (cT nf)).map norm)) r
theorem aCl{net:D}{Q:aa Pc}{V:aa Tie}{r:ae}{Z:aa Pt}{md nd:aa (D×D)}{nf:ae->ae}(w:Wf Q V)(e0:getD net (.int 0)=.ok (.tup (Q.map pcD)))(e1:getD net (.int 1)=.ok (.tup (V.map bI)))(e2:getD net (.int 2)=.ok (.int r))(hu:net≠.uD)
 (hd:B_ (.lst (Z.map enP))=.ok (.dct md))(hmp:θ (md.map (·.2))=ag)(hml:md.length<=40)(hfit:lE md (.int 0)=ag)(hnd:putD md (.int 0) (.int 0)=nd)(hN:RW nd (Q.map (·.1)) nf):cD 2 cH [net,.lst (Z.map enP)]=.ok (cQ Q V r nf):=by
 have hb:∀(x1 x2 x3 x4:D),iU 0 [net,x1,x2,x3,x4]=.ok net:=λ_ _ _ _=>cC rfl hu
 have hc1:(e_ 5 (cX (b2 getD fL cV) ai) (yU 2) gR (dM (aD (b2 getD fD fH) (aD fU aR))) ai) [net,.lst (Z.map enP),.dct nd,.uD,.uD]=.ok (.lst ((Q.map (cP nf)).map pcD)):=
  iV (lW (aH (hb _ _ _ _) rfl e0) (nY Q)) (by have:=w.ql;rw[ay] at this ⊢;rw[bK];lia) (VN hN rfl λc hc=>dD (xs:=[.int (nf c.1),.str c.2]) (aC (aH rfl rfl (hN.get (.inr (ax.mpr ⟨c,hc,rfl⟩)))) (aC rfl rfl)) zV)
 have hc2:(e_ 5 (cX (b2 getD fL eU) ai) (yU 2) gR (dM (aD (dM (aD (b2 getD fD (b2 getD fH cV)) (aD (b2 getD fH eU) aR))) (aD (dM (aD (b2 getD fD (b2 getD fU cV)) (aD (b2 getD fU eU) aR))) aR))) ai) [net,.lst (Z.map enP),.dct nd,.lst ((Q.map (cP nf)).map pcD),.uD]=.ok (.lst ((V.map (cT nf)).map bI)):=
  iV (lW (aH (hb _ _ _ _) rfl e1) (iW V)) (by have:=w.vl;rw[ay,bK];lia) (aCk rfl λt ht=>dD (xs:=[enP (cE nf t.1),enP (cE nf t.2)]) (aC (dD (xs:=[.int (nf t.1.1),.int t.1.2]) (aC (aH (y:=.int t.1.1) rfl (aH rfl rfl rfl) (hN.get (w.tie ht).1)) (aC (aH rfl rfl rfl) rfl)) zV) (aC (dD (xs:=[.int (nf t.2.1),.int t.2.2]) (aC (aH (y:=.int t.2.1) rfl (aH rfl rfl rfl) (hN.get (w.tie ht).2)) (aC (aH rfl rfl rfl) rfl)) zV) rfl)) zV)
 refine(dF rfl).trans (call_v ?_);refine aJ (ρ':=[net,.lst (Z.map enP),.dct md,.uD,.uD]) (dN (i:=2) (aEz rfl hd) hmp) ?_;refine aJ (ρ':=[net,.lst (Z.map enP),.dct nd,.uD,.uD]) ((mX (i:=2) (kvs:=md) (k:=.int 0) (d:=.int 0) rfl rfl rfl (by rw[bK];lia) hfit rfl).trans (by rw[hnd];rfl)) ?_;refine aJ (ρ':=[net,.lst (Z.map enP),.dct nd,.lst ((Q.map (cP nf)).map pcD),.uD]) (bN (i:=3) hc1) ?_;refine aJ (ρ':=[net,.lst (Z.map enP),.dct nd,.lst ((Q.map (cP nf)).map pcD),.lst ((V.map (cT nf)).map bI)]) (bN (i:=4) hc2) ?_;exact fG (aL (xs:=[.lst ((Q.map (cP nf)).map pcD),.lst ((V.map (cT nf)).map bI),.int r]) (aC rfl (aC rfl (aC (aH (hb _ _ _ _) rfl e2) rfl))) (RV r (by have:=w.ql;rw[ay] at this ⊢;lia) (by have:=w.vl;rw[ay];lia) (by have:=w.vl;rw[ay,bK];lia))) rfl
theorem N_{i:ae}(x:ae):∀{kvs:aa (D×D)},θ (kvs.map (·.2))=ag->θ ((putD kvs (.int x) (.int i)).map (·.2))=ag
 |[],_=>rfl
 | (k,v)::r,h=>by
  rw[aT,θ,bc] at h;show θ ((if eqD k (.int x) then (k,δ i)::r else (k,v)::putD r (.int x) (.int i)).map (·.2))=ag;split
  ·rw[aT,θ,h.2];rfl
  ·rw[aT,θ,N_ x h.2,ie];exact h.1
theorem merge_inv:∀(Z:aa Pt)(acc:aa (D×D)),θ (acc.map (·.2))=ag->(∀y:ae,lE acc (.int y)=ag)->θ ((bG acc (Z.map kvI)).map (·.2))=ag/\(∀y:ae,lE (bG acc (Z.map kvI)) (.int y)=ag)/\(bG acc (Z.map kvI)).length<=acc.length+Z.length
 |[],acc,h1,h2=>⟨h1,h2,bj _⟩
 |p::Z,acc,h1,h2=>by
  obtain⟨i1,i2,i3⟩:=merge_inv Z (putD acc (.int p.1) (.int p.2)) (N_ p.1 h1) (RM h2);have:=JF p.1 (.int p.2) acc;exact⟨i1,i2,c6 i3 (by rw[b9];lia)⟩
theorem RZ(y:ae):lE [] (.int y)=ag:=rfl
theorem aKb(y:ae):lE [(.int 0,.int 0)] (.int y)=ag:=rfl
theorem VP{net:D}{Q:aa Pc}{V:aa Tie}{r:ae}{Z:aa Pt}(w:Wf Q V)(e0:getD net (.int 0)=.ok (.tup (Q.map pcD)))(e1:getD net (.int 1)=.ok (.tup (V.map bI)))(e2:getD net (.int 2)=.ok (.int r))(hu:net≠.uD)(hZ:Z.map (·.1)=Q.map (·.1))(hw:cD 1 rF [net]=.ok (.lst (Z.map enP))):cD 1 xQ [net]=.ok (cQ Q V r (nfZ Z)):=by
 have hl:Z.length<=40:=by have:=cm gS hZ;rw[ay] at this;have:=w.ql;lia
 obtain⟨i1,i2,i3⟩:=merge_inv Z [] rfl RZ;have hd:B_ (.lst (Z.map enP))=.ok (.dct (bG [] (Z.map kvI))):=by
  show(match lN (Z.map enP) with|some ps=>if ϒ ((Z.map enP).length<=1000) then ε (D.dct (bG [] ps)) else .bad|none=>.bad)=_;rw[RX];show(if ϒ ((Z.map enP).length<=1000) then ε (D.dct (bG [] (Z.map kvI))) else .bad)=_;rw[bq (by rw[ay];lia),ar rfl]
 have hN:=aQq (Z:=Z) (by rw[hZ];exact w.nd);rw[hZ] at hN;have hr:=aCl (nf:=nfZ Z) w e0 e1 e2 hu hd i1 (by rw[dS] at i3;lia) (i2 0) rfl hN;refine(dF rfl).trans (call_v (fG (aL (xs:=[net,.lst (Z.map enP)]) (aC (cC rfl hu) (aC (aL (xs:=[net]) (aC (cC rfl hu) rfl) hw) rfl)) hr) rfl))
def cbd:FS:=(bH (cF ai 4 (dM (aD (b2 getD gQ (b2 getD d8 cV)) (aD (b2 getD d8 eU) aR))) ai) (bH (cF ai 5 (dM (aD (b2 getD gQ (b2 getD fH cV)) (aD (b2 getD fH eU) aR))) ai) (o9 3 (dM (aD (aO (cN .lt) (aD d8 (aD fH aR))) (aD (aO (cN .gt) (aD d8 (aD fH aR))) aR))))))
theorem rK{net:D}{Q:aa Pc}{V:aa Tie}{r:ae}{nd:aa (D×D)}{nf:ae->ae}(w:Wf Q V)(e0:getD net (.int 0)=.ok (.tup (Q.map pcD)))(e1:getD net (.int 1)=.ok (.tup (V.map bI)))(e2:getD net (.int 2)=.ok (.int r))(hu:net≠.uD)(hN:RW nd (Q.map (·.1)) nf):cD 2 bW [net,.dct nd]=.ok (cQ Q V r nf):=by
 have hb:∀(x1 x2 x3 x4 x5:D),iU 0 [net,x1,x2,x3,x4,x5]=.ok net:=λ_ _ _ _ _=>cC rfl hu
 have vl:=w.vl;have hc1:(e_ 6 (cX (b2 getD fL cV) ai) (yU 2) gR (dM (aD (b2 getD gQ fU) (aD jL aR))) ai) [net,.dct nd,.uD,.uD,.uD,.uD]=.ok (.lst ((Q.map (cP nf)).map pcD)):=
  iV (lW (aH (hb _ _ _ _ _) rfl e0) (nY Q)) (by have:=w.ql;rw[ay] at this ⊢;rw[bK];lia) (VN hN rfl λc hc=>dD (xs:=[.int (nf c.1),.str c.2]) (aC (aH rfl rfl (hN.get (.inr (ax.mpr ⟨c,hc,rfl⟩)))) (aC rfl rfl)) zV)
 generalize hS:(cZ (Q.map (cP nf))).map pcD=SP;have hs1:=yL (Q.map (cP nf)) (by have:=w.ql;rw[ay] at this ⊢;lia);rw[hS] at hs1;obtain⟨ρ,h1,x4,x5,rfl⟩:=bU (t:=tgN [4,5]) (body:=cbd) (d:=bI) (I:=λys ρ=>∃x4 x5,ρ=[net,.dct nd,.lst SP,.lst (((ys.map (cT nf)).map norm).map bI),x4,x5]) V (λys t zs ρ e ⟨x4,x5,h⟩=>by
  subst h;have ht:t∈V:=by rw[e];simp
  have hyl:ys.length<=1000:=by rw[e] at vl;simp at vl;lia
  have b1:=M7 .lt (cE nf t.1) (cE nf t.2) ltP qP;have b2':=M7 .gt (cE nf t.1) (cE nf t.2) (λx y=>ltP y x) U3;generalize hT:((ys.map (cT nf)).map norm).map bI=T;have hTl:T.length=ys.length:=by rw[<-hT];simp
  refine⟨[net,.dct nd,.lst SP,.lst T,enP t.1,enP t.2],[net,.dct nd,.lst SP,.lst (T++[bI (norm (cT nf t))]),enP (cE nf t.1),enP (cE nf t.2)],rfl,?_,enP (cE nf t.1),enP (cE nf t.2),?_⟩
  ·refine aJ (ρ':=[net,.dct nd,.lst SP,.lst T,enP (cE nf t.1),enP t.2]) (mC (i:=4) (dD (xs:=[.int (nf t.1.1),.int t.1.2]) (aC (aH (y:=.int t.1.1) rfl (aH rfl rfl rfl) (hN.get (w.tie ht).1)) (aC (aH rfl rfl rfl) rfl)) zV) rfl) ?_;refine aJ (ρ':=[net,.dct nd,.lst SP,.lst T,enP (cE nf t.1),enP (cE nf t.2)]) (mC (i:=5) (dD (xs:=[.int (nf t.2.1),.int t.2.2]) (aC (aH (y:=.int t.2.1) rfl (aH rfl rfl rfl) (hN.get (w.tie ht).2)) (aC (aH rfl rfl rfl) rfl)) zV) rfl) ?_;exact mY (i:=3) (xs:=T) (d:=bI (norm (cT nf t))) (dD (xs:=[enP (norm (cT nf t)).1,enP (norm (cT nf t)).2]) (aC (aL (xs:=[enP (cE nf t.1),enP (cE nf t.2)]) (aC rfl (aC rfl rfl)) b1) (aC (aL (xs:=[enP (cE nf t.1),enP (cE nf t.2)]) (aC rfl (aC rfl rfl)) b2') rfl)) zV) rfl (by rw[hTl,bK];lia) rfl
  ·rw[ce,ce,ce,hT];rfl) (ρ:=[net,.dct nd,.lst SP,.lst [],.uD,.uD]) ⟨_,_,rfl⟩
 have hs2:=tE ((V.map (cT nf)).map norm) (by rw[ay,ay];lia);generalize hU:((V.map (cT nf)).map norm).map bI=UT at h1 hs2;refine(dF rfl).trans (call_v ?_);refine aJ (ρ':=[net,.dct nd,.lst SP,.uD,.uD,.uD]) (bN (i:=2) (aL (xs:=[.lst ((Q.map (cP nf)).map pcD)]) (aC hc1 rfl) hs1)) ?_;refine aJ (ρ':=[net,.dct nd,.lst SP,.lst [],.uD,.uD]) (dN (i:=3) rfl rfl) ?_;refine aJ (mW (lW (aH (hb _ _ _ _ _) rfl e1) (iW V)) h1) ?_;have hd:cQ Q V r nf=.tup [.tup SP,.tup ((dG ((V.map (cT nf)).map norm)).map bI),.int r]:=by unfold cQ bL;rw[hS]
 have hp:(cQ Q V r nf).pure=ag:=kZ _ _ _;rw[hd] at hp ⊢;generalize (dG ((V.map (cT nf)).map norm)).map bI=VT at hs2 hp ⊢;refine fG (d:=.tup [.tup SP,.tup VT,.int r]) (dD (xs:=[.tup SP,.tup VT,.int r]) (aC (aL (xs:=[.lst SP]) (aC rfl rfl) rfl) (aC (aL (xs:=[.lst VT]) (aC (aL (xs:=[.lst UT]) (aC rfl rfl) hs2) rfl) rfl) (aC (aH (hb _ _ _ _ _) rfl e2) rfl))) aKa) ?_;rw[hp];rfl
theorem ne_int(a:ae):b8 .ne (.int a) (.int a)=.ok (.bl ai):=by
 show ε (ξ (!eqD (.int a) (.int a)))=_;rw[dI,bq rfl];rfl
theorem j7{n k:ah}{ys zs:aa ah}(e:bn n=ys++k::zs):k=ys.length/\k<n:=by
 have h1:=cm (λl=>l[ys.length]?) e;have hl:ys.length<n:=by have:=cm gS e;simp at this;lia
 simp[hl] at h1;exact⟨h1.symm,by lia⟩
theorem oR(acc:aa (D×D))(Z:aa Pt)(p:Pt):bG acc ((Z++[p]).map kvI)=putD (bG acc (Z.map kvI)) (.int p.1) (.int p.2):=by
 unfold bG;rw[ce,u3];rfl
theorem OD(i:ae):cD 1 fV [.int i]=.ok (.bl ag):=rfl
theorem uY{f:FE}{ρ:aa D}{b:ap}(h:f ρ=.ok (.bl b)):bTr f ρ=.ok b:=aRm h rfl
theorem yM(x y:Pt)(h:x≠y):norm (y,x)=norm (x,y):=by
 have tot:ltP x y\/ltP y x:=by
  obtain⟨a1,a2⟩:=x;obtain⟨c1,c2⟩:=y;simp only[ltP];have:a1≠c1\/a2≠c2:=by
   by_cases h1:a1=c1
   ·exact .inr λh2=>h (by rw[h1,h2])
   ·exact .inl h1
  lia
 unfold norm;rcases tot with z|z
 ·have:=irr _ _ z;simp[z,this]
 ·have:=irr _ _ z;simp[z,this]
def nmQ(Q:aa Pc)(n:ae):Str:=((Q.find? λc=>ϒ (c.1=n)).map (·.2)).getD ""
theorem aCm{Q:aa Pc}{pc:Pc}(h:Q.Pairwise LtN)(hp:pc∈Q):nmQ Q pc.1=pc.2:=by
 unfold nmQ;rw[yI h hp];rfl
noncomputable def CW:aa ae->aa Pt
 |a::b::l=>(a,b)::CW l
 |_=>[]
def aKc:D->aa Pt
 |.scr (.str _::l)=>CW (l.map unI)
 |_=>[]
noncomputable def aRp:D->Str
 |.scr (.str s::_)=>s
 |_=>""
theorem OJ(R:aa ae):∀es:aa Pt,CW (rwl R es)=es.map λe=>(plc R e.1,e.2)
 |[]=>rfl
 |e::es=>by
  show CW (plc R e.1::e.2::rwl R es)=_;rw[CW,OJ R es];rfl
theorem aFg(nm:ae->Str)(E:ae->aa Pt)(R:aa ae)(c:ae):aKc (rowOf nm E R c)=(E c).map λe=>(plc R e.1,e.2):=by
 show CW (((rwl R (E c)).map δ).map unI)=_;rw[bu];have:(rwl R (E c)).map (unI ∘ δ)=rwl R (E c):=by
  conv=>rhs;rw[<-eW (rwl R (E c))]
  exact cq λt _=>rfl
 rw[this,OJ]
noncomputable def sh(off:ah)(y:ae):ae:=if y=0 then 0 else (off:ae)+y
def aFh(off:ah)(rows:aa D):aa Tie:=rows.zipIdx.flatMap λx=>(aKc x.1).zipIdx.map λy=>norm (((off:ae)+x.2+1,(y.2:ae)),(sh off y.1.1,y.1.2))
def aKd:ah->aa (aa D)->aa Tie
 |_,[]=>[]
 |off,rows::SR=>aFh off rows++aKd (off+rows.length) SR
def O1(E:ae->aa Pt)(O:aa ae)(n:ae):aa Tie:=(E n).zipIdx.map λy=>norm ((plc O n,(y.2:ae)),cE (plc O) y.1)
theorem aCn{A R C:aa ae}{x:ae}(hn:(A++R++C).Nodup)(hx:x=0\/x∈R):plc (A++R++C) x=sh A.length (plc R x):=by
 unfold sh plc;by_cases h0:x=0
 ·rw[ar h0,ar h0,ar rfl]
 ·have hxR:=hx.resolve_left h0;rw[aq h0,aq h0,aq (by lia)];have hA:x∉A:=λz=>by
   rw[c_] at hn;exact(eP.mp hn).2.2 x z x (dq _ hxR) rfl
  rw[ng,ar (dP _ hxR),ng,aq hA]
  push_cast
  lia
theorem aFi{nm:ae->Str}{E:ae->aa Pt}{A R C:aa ae}(hn:(A++R++C).Nodup)(hz:∀x∈R,x≠0)(cl:∀x∈R,∀e∈E x,e.1=0\/e.1∈R):aFh A.length (rowsOf nm E R)=R.flatMap (O1 E (A++R++C)):=by
 have hR:R.Nodup:=(eP.mp (eP.mp hn).1).2.1;unfold aFh rowsOf;have e1:R.flatMap (O1 E (A++R++C))=R.zipIdx.flatMap λx=>O1 E (A++R++C) x.1:=by
  conv=>lhs;rw[show R=R.zipIdx.map (·.1) from (Bm 0 R).symm]
  rw[we,Bm]
 rw[e1,Bn,we];have key:∀{α β:Type}{l:aa α}{f g:α->aa β},(∀x∈l,f x=g x)->l.flatMap f=l.flatMap g:=by
  intro α β l f g;induction l with
  |nil=>intro _;rfl
  |cons a l ih=>
   intro h;rw[fS,fS,h a (bh ..),ih λx hx=>h x (bf _ hx)]
 refine key λx hx=>?_
 obtain⟨n,i⟩:=x;have hxi:R[i]?=af n:=by simpa using sa.mp hx
 have hnR:n∈R:=lP hxi;have hpl:plc R n=(i:ae)+1:=by
  unfold plc;rw[aq (hz n hnR)];obtain⟨hi,e⟩:=c9.mp hxi;rw[<-e,hR.idxOf_getElem i hi]
 have hpo:plc (A++R++C) n=(A.length:ae)+i+1:=by
  rw[aCn hn (.inr hnR),hpl];unfold sh;rw[aq (by lia)];lia
 show(aKc (rowOf nm E R n)).zipIdx.map (λy=>norm (((A.length:ae)+i+1,(y.2:ae)),(sh A.length y.1.1,y.1.2)))=O1 E (A++R++C) n;unfold O1;rw[aFg,Bn,bu,hpo];refine cq λy hy=>?_
 have hyE:y.1∈E n:=by
  have:=sa.mp hy;exact lP this
 show norm (((A.length:ae)+i+1,(y.2:ae)),(sh A.length (plc R y.1.1),y.1.2))=norm (((A.length:ae)+i+1,(y.2:ae)),(plc (A++R++C) y.1.1,y.1.2));rw[aCn hn (cl n hnR _ hyE)]
theorem JM{nm:ae->Str}{E:ae->aa Pt}:∀(SL:aa (aa D×aa ae))(A:aa ae),(A++SL.flatMap (·.2)).Nodup->(∀x∈SL,x.1=rowsOf nm E x.2)->(∀x∈SL,∀n∈x.2,n≠0/\∀e∈E n,e.1=0\/e.1∈x.2)->aKd A.length (SL.map (·.1))=(SL.flatMap (·.2)).flatMap (O1 E (A++SL.flatMap (·.2)))
 |[],A,_,_,_=>rfl
 |x::SL,A,hn,h1,h2=>by
  have e:A++(x::SL).flatMap (·.2)=A++x.2++SL.flatMap (·.2):=by rw[fS,c_]
  rw[e] at hn ⊢;show aFh A.length x.1++aKd (A.length+x.1.length) (SL.map (·.1))=(x.2++SL.flatMap (·.2)).flatMap _;have hl:A.length+x.1.length=(A++x.2).length:=by rw[h1 x (bh ..),rowsOf,ay,cb]
  rw[hl,JM SL (A++x.2) hn (λy hy=>h1 y (bf _ hy)) (λy hy=>h2 y (bf _ hy)),ki]
  congr 1
  rw[h1 x (bh ..)];exact aFi hn (λn hn=>(h2 x (bh ..) n hn).1) λn hn=>(h2 x (bh ..) n hn).2
noncomputable def enS:ah->aa Str->aa Pc
 |_,[]=>[]
 |m,s::l=>(((m:ae)+1),s)::enS (m+1) l
theorem aGx{nm:ae->Str}:∀(B A:aa ae),(A++B).Nodup->(∀x∈B,x≠0)->enS A.length (B.map nm)=B.map λn=>(plc (A++B) n,nm n)
 |[],A,_,_=>rfl
 |b::B,A,hn,hz=>by
  have e:A++b::B=(A++[b])++B:=by simp
  have hb:b∉A:=λz=>(eP.mp hn).2.2 b z b (bh ..) rfl
  have hp:plc (A++b::B) b=(A.length:ae)+1:=by
   unfold plc;rw[aq (hz b (bh ..)),ng,aq hb];simp
  rw[aT,enS,aT,hp,e];have ih:=aGx (nm:=nm) B (A++[b]) (by rw[<-e];exact hn) λx hx=>hz x (bf _ hx)
  rw[cb,fx] at ih;rw[ih]
theorem O2{U W:aa Pc}(h:U.Perm W):cZ U=cZ W:=by
 unfold cZ
 congr 1
 refine nC (λd hd=>?_) ((b_ _).trans ((h.map pcD).trans (b_ _).symm)) (dR _) (dR _);obtain⟨c,_,rfl⟩:=ax.mp ((b_ _).mem_iff.mp hd);rfl
theorem JN{nm:ae->Str}{E:ae->aa Pt}:∀(SL:aa (aa D×aa ae)),(∀x∈SL,x.1=rowsOf nm E x.2)->(SL.flatMap (·.2)).map nm=((SL.map (·.1)).flatten).map aRp
 |[],_=>rfl
 |x::SL,h=>by
  rw[fS,ce,JN SL λy hy=>h y (bf _ hy),aT,kM,ce]
  congr 1
  rw[h x (bh ..),rowsOf,bu];exact cq λc _=>rfl
theorem iZ(t:Tie):norm t=t\/norm t=(t.2,t.1):=by
 unfold norm;by_cases h1:ltP t.1 t.2
 ·have:=irr _ _ h1
  left;simp[h1,this]
 ·by_cases h2:ltP t.2 t.1
  ·right;simp[h1,h2]
  ·left
   have e:t.1=t.2:=by
    unfold ltP at h1 h2;exact Prod.ext (by lia) (by lia)
   rw[aq h1,aq h2];exact Prod.ext rfl e
theorem tU{t:Tie}(h:t.1≠t.2):ltP (norm t).1 (norm t).2:=by
 have tot:ltP t.1 t.2\/ltP t.2 t.1:=by
  refine mB λz=>h ?_
  rw[fy] at z;unfold ltP at z;exact Prod.ext (by lia) (by lia)
 unfold norm;rcases tot with z|z
 ·have:=irr _ _ z;simp[z,this]
 ·have:=irr _ _ z;simp[z,this]
theorem CZ:∀U:aa Tie,(ends (U.map norm)).Perm (ends U)
 |[]=>.refl _
 |t::U=>by
  show((norm t).1::(norm t).2::ends (U.map norm)).Perm (t.1::t.2::ends U);have ih:=CZ U;rcases iZ t with e|e
  ·rw[e];exact(ih.cons _).cons _
  ·rw[e];exact(List.Perm.swap _ _ _).trans ((ih.cons _).cons _)
theorem aCo(nf:ae->ae):∀V:aa Tie,ends (V.map (cT nf))=(ends V).map (cE nf)
 |[]=>rfl
 |t::V=>by
  show cE nf t.1::cE nf t.2::ends (V.map (cT nf))=cE nf t.1::cE nf t.2::(ends V).map (cE nf);rw[aCo nf V]
theorem C_:∀{T:aa Tie},(ends T).Nodup->T.Nodup
 |[],_=>eT
 |t::T,h=>by
  rw[yG,cj,cj] at h;refine cj.mpr ⟨λz=>h.1 (bf _ (mO z).1),C_ h.2.2⟩
theorem uL{kvs:aa (D×D)}{Q:aa Pc}{V:aa Tie}(w:Net kvs Q V){e:Pt}(h:e∈ends V):e.1=0\/e.1∈Q.map (·.1):=by
 obtain⟨S,_,_,p⟩:=w.rims;rcases cf.mp (p.mem_iff.mp h) with h|h
 ·obtain⟨pc,h1,h2,_⟩:=rH.mp h;exact .inr (ax.mpr ⟨pc,h1,h2⟩)
 ·obtain⟨s,_,rfl⟩:=ax.mp h;exact .inl rfl
structure Nf(nf:ae->ae)(M:aa ae):Prop where
 z:nf 0=0
 pos:∀x∈M,0<nf x
 inj:∀x∈M,∀y∈M,nf x=nf y->x=y
theorem Nf.aNy{nf:ae->ae}{M:aa ae}(h:Nf nf M){x y:ae}(hx:x=0\/x∈M)(hy:y=0\/y∈M)(e:nf x=nf y):x=y:=by
 rcases hx with rfl|hx
 ·rcases hy with rfl|hy
  ·rfl
  ·have:=h.pos y hy;rw[h.z] at e;lia
 ·rcases hy with rfl|hy
  ·have:=h.pos x hx;rw[h.z] at e;lia
  ·exact h.inj x hx y hy e
section
variable {kvs:aa (D×D)} {Q:aa Pc} {V:aa Tie} {nf:ae->ae}
theorem VR(w:Net kvs Q V)(h:Nf nf (Q.map (·.1))):((ends V).map (cE nf)).Nodup:=by
 refine cz.mpr (w.nd.imp_of_mem λ{a b} ha hb hab e=>hab ?_);exact Prod.ext (h.aNy (uL w ha) (uL w hb) (cm mv e)) (cm (λp:Pt=>p.2) e:(cE nf a).2=(cE nf b).2)
theorem V0(w:Net kvs Q V)(h:Nf nf (Q.map (·.1))):(ends ((V.map (cT nf)).map norm)).Perm ((ends V).map (cE nf)):=by
 rw[<-aCo];exact CZ _
theorem O3(w:Net kvs Q V)(h:Nf nf (Q.map (·.1))):((V.map (cT nf)).map norm).Nodup:=C_ ((V0 w h).nodup_iff.mpr (VR w h))
theorem aNz(U:aa Pc):(hks kvs U).map (cE nf)=hks kvs (U.map (cP nf)):=by
 unfold hks;rw[List.map_flatMap,we]
 congr 1
 funext c
 unfold aDm;rw[bu];rfl
theorem aKe(h:Nf nf (Q.map (·.1)))(S:aa ae):(S.map rim).map (cE nf)=S.map rim:=by
 rw[bu];refine cq λs _=>?_
 show(nf 0,s)=(0,s);rw[h.z]
theorem aCp{U:aa Pc}(h:(U.map (·.1)).Nodup):(cZ U).Pairwise LtN:=by
 have hs:=dR (U.map pcD);rw[<-VM] at hs;have h1:=cz.mp hs;have h2:(cZ U).Pairwise λa b=>a.1≠b.1:=cz.mp (((dH U).map _).nodup_iff.mpr h)
 refine Bl ?_ h1 h2;intro a b z1 z2;obtain⟨k,e1,e2⟩:=aBh b a;have hk:=wQ (pcD b) (pcD a) k rfl rfl e1;rw[e2 λz=>z2 z.symm] at hk;simp only[leE,iS,k8] at z1;unfold LtN;have:¬b.1<a.1:=λq=>z1 (eh (by rw[<-hk];exact bq q))
 lia
theorem aFj{U W:aa Pc}(h:U.Perm W):(hks kvs U).Perm (hks kvs W):=n_ _ h
theorem yN(w:Net kvs Q V)(h:Nf nf (Q.map (·.1))):Net kvs (cZ (Q.map (cP nf))) (dG ((V.map (cT nf)).map norm)):=by
 have wf:=w.wf;obtain⟨S,s1,s2,s3⟩:=w.rims;have pE:(ends (dG ((V.map (cT nf)).map norm))).Perm ((ends V).map (cE nf)):=(n6 (bO _)).trans (V0 w h);have hfst:(Q.map (cP nf)).map (·.1)=(Q.map (·.1)).map nf:=by rw[bu,bu];rfl
 have hnd:((Q.map (cP nf)).map (·.1)).Nodup:=by
  rw[hfst];exact cz.mpr (wf.nd.imp_of_mem λ{a b} ha hb hab e=>hab (h.inj a ha b hb e))
 refine⟨pE.nodup_iff.mpr (VR w h),by rw[(bO _).length_eq,ay,ay];exact w.small,aCp hnd,λpc hp=>?_,by rw[(dH _).length_eq,ay];exact w.ql,λpc hp=>?_,λt ht=>?_,fW _,S,s1,s2,?_⟩
 ·obtain⟨c,hc,rfl⟩:=ax.mp ((dH _).mem_iff.mp hp);exact h.pos c.1 (ax.mpr ⟨c,hc,rfl⟩)
 ·obtain⟨c,hc,rfl⟩:=ax.mp ((dH _).mem_iff.mp hp);exact w.sk c hc
 ·obtain⟨u,hu,rfl⟩:=ax.mp ((bO _).mem_iff.mp ht);obtain⟨v,hv,rfl⟩:=ax.mp hu;refine tU λe=>?_
  have hm:=mO hv;have hne:v.1≠v.2:=λz=>by have:=w.lt v hv;rw[z] at this;unfold ltP at this;lia
  exact hne (Prod.ext (h.aNy (uL w hm.1) (uL w hm.2) (cm mv e)) (cm (λp:Pt=>p.2) e:(cE nf v.1).2=(cE nf v.2).2))
 ·refine pE.trans ((s3.map _).trans ?_);rw[ce,aNz,aKe h];exact(aFj (dH _).symm).append_right _
theorem aFk(w:Net kvs Q V)(h:Nf nf (Q.map (·.1))){e f:Pt}(ht:yV V e f):yV (dG ((V.map (cT nf)).map norm)) (cE nf e) (cE nf f):=by
 have key:∀t∈V,(norm (cT nf t))∈dG ((V.map (cT nf)).map norm):=λt ht=>(bO _).mem_iff.mpr (ax.mpr ⟨cT nf t,ax.mpr ⟨t,ht,rfl⟩,rfl⟩)
 rcases ht with z|z
 ·have:=key _ z;rcases iZ (cT nf (e,f)) with q|q
  ·rw[q] at this;exact .inl this
  ·rw[q] at this;exact .inr this
 ·have:=key _ z;rcases iZ (cT nf (f,e)) with q|q
  ·rw[q] at this;exact .inr this
  ·rw[q] at this;exact .inl this
theorem aO0(w:Net kvs Q V)(h:Nf nf (Q.map (·.1))){e:Pt}(he:e∈ends V):mt (dG ((V.map (cT nf)).map norm)) (cE nf e)=cE nf (mt V e):=JC (yN w h).nd (aFk w h (yH w.nd he))
theorem aCq{pc:Pc}(hp:pc∈Q):cP nf pc∈cZ (Q.map (cP nf)):=(dH _).mem_iff.mpr (ax.mpr ⟨pc,hp,rfl⟩)
theorem aKf{y:ae}:y∈(cZ (Q.map (cP nf))).map (·.1)↔∃x∈Q.map (·.1),nf x=y:=by
 rw[((dH _).map _).mem_iff,bu];simp only[ax];constructor
 ·rintro⟨c,hc,rfl⟩;exact⟨c.1,⟨c,hc,rfl⟩,rfl⟩
 ·rintro⟨x,⟨c,hc,rfl⟩,rfl⟩;exact⟨c,hc,rfl⟩
theorem aKg(w:Net kvs Q V)(h:Nf nf (Q.map (·.1))):Iso nf (Q.map (·.1)) (nmQ Q) (nmQ (cZ (Q.map (cP nf)))) (ea kvs Q V) (ea kvs (cZ (Q.map (cP nf))) (dG ((V.map (cT nf)).map norm))) where
 z:=h.z
 nz x hx:=by
  have:=h.pos x hx;have:=w.wf.qp x hx;lia
 inj:=h.inj
 nm x hx:=by
  obtain⟨c,hc,rfl⟩:=ax.mp hx;rw[aCm w.qs hc];exact aCm (yN w h).qs (aCq hc)
 ea x hx:=by
  obtain⟨c,hc,rfl⟩:=ax.mp hx;unfold ea;have e1:=RK (kvs:=kvs) w.qs hc;have e2:vq kvs (cZ (Q.map (cP nf))) (nf c.1)=vOf kvs c.2+1:=RK (kvs:=kvs) (yN w h).qs (aCq (nf:=nf) hc);rw[e1,e2];have e3:(eA V c.1 (vOf kvs c.2+1)).map (λe=>((nf e.1,e.2):Pt))=(bn (vOf kvs c.2+1)).map λ(j:ah)=>cE nf (mt V (c.1,(j:ae))):=by unfold eA;rw[bu];rfl
  rw[e3];refine cq λj hj=>?_
  have hj':=df.mp hj;exact aO0 w h ((mQ w hc j).mpr (by lia))
 cl x hx y hy:=j6 w.wf x hx y ((N6 w hx).mp hy)
end
theorem aFl{net:D}{nk dk:aa (D×D)}{F:aa (aa ae)}{W:aa ae->aa D×aa ae}{qd:D}(h0:getD net (.int 0)=.ok qd)(hu:net≠.uD)(hnm:xP qd=.ok (.dct nk))(he:cD 1 iH [net]=.ok (.dct dk))(hp:cD 1 uF [net]=.ok (.lst (F.map pS)))
 (hF:F.length<=40)(hW:∀p∈F,jD (W p).1/\cD 3 cO [.dct nk,.dct dk,pS p]=.ok (wk2 (W p)))(hl:((F.map W).flatMap (·.2)).length<=30) :
  ∃SL:aa (aa D×aa ae),SL.Perm (F.map W)/\(SL.map wk2).Pairwise (λa b=>leE a b=ag)/\cD 1 rF [net]=.ok (.lst ((lU (prs (SL.flatMap (·.2)))).map enP)):=by
 have hrow:∀x∈F.map W,jD x.1:=λx hx=>by
  obtain⟨p,hp,rfl⟩:=ax.mp hx;exact(hW p hp).1
 have hsrt:fM [.lst ((F.map W).map wk2)]=.ok (.lst (iR ((F.map W).map wk2))):=by
  show(if bB ((F.map W).map wk2) then ε (υ (iR ((F.map W).map wk2))) else .bad)=_;rw[JK (by rw[ay];lia) hrow,ar rfl]
 obtain⟨SL,pSL,eSL⟩:=aEw wk2 unW aNt (b_ ((F.map W).map wk2));rw[eSL] at hsrt;have hpw:=dR ((F.map W).map wk2);rw[eSL] at hpw;have hOl:(SL.flatMap (·.2)).length<=30:=by rw[(n_ (·.2) pSL).length_eq];exact hl
 obtain⟨ρ1,e1,x5,x6,rfl⟩:=bU (t:=tgN [5,6]) (body:=aB3 4 fU) (d:=wk2) (I:=λys ρ=>∃x5 x6,ρ=wn net nk dk (.lst (SL.map wk2)) (.lst ((ys.flatMap (·.2)).map δ)) x5 x6) SL (λys a zs ρ e ⟨x5,x6,h⟩=>by
  subst h;have hl:(ys.flatMap (·.2)).length+a.2.length<=30:=by
   rw[e,ki,fS,cb,cb] at hOl;lia
  refine⟨wn net nk dk (.lst (SL.map wk2)) (.lst ((ys.flatMap (·.2)).map δ)) (.scr a.1) (.scr (a.2.map δ)),wn net nk dk (.lst (SL.map wk2)) (.lst (((ys++[a]).flatMap (·.2)).map δ)) (.scr a.1) (.scr (a.2.map δ)),rfl,?_,_,_,rfl⟩;refine(aK5 (i:=4) (xs:=(ys.flatMap (·.2)).map δ) (ys:=a.2.map δ) rfl rfl (by rw[ay,ay,bK];lia) (dO _)).trans ?_;rw[ki,wc,ce];rfl) (ρ:=wn net nk dk (.lst (SL.map wk2)) (.lst []) .uD .uD) ⟨_,_,rfl⟩
 generalize hO:SL.flatMap (·.2)=O at *;have hb:∀(x1 x2 x3 x4 x5 x6:D),iU 0 [net,x1,x2,x3,x4,x5,x6]=.ok net:=λ_ _ _ _ _ _=>cC rfl hu
 have hc1:e_ 7 (cX (aO (cD 1 uF) (aD fL aR)) ag) z_ gR (aO (cD 3 cO) (aD gQ (aD fD (aD jL aR)))) ag (wn net nk dk .uD .uD .uD .uD)=.ok (.lst ((F.map W).map wk2)):=iV (xs:=F.map pS) (kJ (fr:=ag) (d:=.lst (F.map pS)) (aL (xs:=[net]) (aC (hb _ _ _ _ _ _) rfl) hp) rfl) (by rw[ay,bK];lia) (aCg λp h=>(hW p h).2);have hen:(GP 1 (O.map δ)).length<=lim:=by
  rw[VH,ay,<-ay (f:=(·.2)),aCe,bK];lia
 have hc2:e_ 7 (aAw 1 d8 ai) (yU 2) gR (dM (aD u5 (aD jL aR))) ai (wn net nk dk (.lst (SL.map wk2)) (.lst (O.map δ)) x5 x6)=.ok (.lst ((prs O).map enP)):=iV (xs:=GP 1 (O.map δ)) (kk:=ai) rfl hen aCh;refine⟨SL,pSL,hpw,(dF rfl).trans ?_⟩;rw[hO];refine call_v ?_;refine aJ (ρ':=[net,.dct nk,.uD,.uD,.uD,.uD,.uD]) (bN (i:=1) (aEz (aH (hb _ _ _ _ _ _) rfl h0) hnm)) ?_;refine aJ (ρ':=wn net nk dk .uD .uD .uD .uD) (bN (i:=2) (aL (xs:=[net]) (aC (hb _ _ _ _ _ _) rfl) he)) ?_;refine aJ (ρ':=wn net nk dk (.lst (SL.map wk2)) .uD .uD .uD) (bN (i:=3) (aL (xs:=[.lst ((F.map W).map wk2)]) (aC hc1 rfl) hsrt)) ?_;refine aJ (ρ':=wn net nk dk (.lst (SL.map wk2)) (.lst []) .uD .uD) (dN (i:=4) rfl rfl) ?_;refine aJ (aAj (i:=3) (d:=.lst (SL.map wk2)) (xs:=SL.map wk2) rfl rfl e1) ?_;exact fG (aL (xs:=[.lst ((prs O).map enP)]) (aC hc2 rfl) (X7 (prs O) (by rw[<-ay (f:=(·.1)),RT];lia))) rfl
structure Wy(kvs:aa (D×D))(Q:aa Pc)(V:aa Tie)(F:aa (aa ae))(k:aa ae->aa D)(SL:aa (aa D×aa ae)):Prop where
 pa:Pa (ea kvs Q V) (Q.map (·.1)) F
 fw:∀p∈F,FW (nmQ Q) (ea kvs Q V) p (k p)
 pm:(SL.flatMap (·.2)).Perm (Q.map (·.1))
 rw:∀x∈SL,x.1=rowsOf (nmQ Q) (ea kvs Q V) x.2
 cl:∀x∈SL,∀n∈x.2,n≠0/\∀e∈ea kvs Q V n,e.1=0\/e.1∈x.2
 sr:(SL.map (·.1)).Perm (F.map k)
 up:(SL.map wk2).Pairwise λa b=>leE a b=ag
section
variable {kvs:aa (D×D)} {Q:aa Pc} {V:aa Tie} {r:ae}
theorem yO:∀(Q:aa Pc)(acc:aa (D×D))(n:ae),(Q.map (·.1)).Nodup->bA (bG acc (Q.map λc=>(δ c.1,π c.2))) (.int n)=if n∈Q.map (·.1) then af (.str (nmQ Q n)) else bA acc (.int n)
 |[],acc,n,_=>by simp[bG]
 |c::Q,acc,n,h=>by
  rw[aT,cj] at h;show bA (bG (putD acc (.int c.1) (.str c.2)) (Q.map λc=>(δ c.1,π c.2))) (.int n)=_;rw[yO Q _ n h.2,mR];by_cases e:c.1=n
  ·subst e;rw[aq h.1,ar rfl,ar (by simp)];simp[nmQ]
  ·have e2:nmQ (c::Q) n=nmQ Q n:=by simp[nmQ,gV,e]
   rw[aq e,e2];by_cases hm:n∈Q.map (·.1)
   ·rw[ar hm,ar (by simp only[aT];exact bf _ hm)]
   ·rw[aq hm,aq];intro z;rcases bd.mp z with z|z
    ·exact e z.symm
    ·exact hm z
theorem aCr(w:Net kvs Q V):∃F k SL,Wy kvs Q V F k SL/\cD 1 rF [bL Q V r]=.ok (.lst ((lU (prs (SL.flatMap (·.2)))).map enP)):=by
 have wf:=w.wf;have ql:=w.ql;obtain⟨F,ps,hF,hparts⟩:=aF6 (r:=r) wf;have hz:∀p∈F,∀x∈p,x∈Q.map (·.1):=λp hp x hx=>ps.sub (λn h=>h) (j6 wf) x (vT.mpr ⟨p,hp,hx⟩)
 have hgx:∀p∈F,GdX (nkD Q) (dE (Q.map (·.1)) (ea kvs Q V)) p (ea kvs Q V) (nmQ Q):=λp hp=>⟨(jT w ps hp).1,λz=>by have:=wf.qp 0 (hz p hp 0 z);lia,λx hx=>by
  unfold nkD;rw[yO Q [] x wf.nd,ar (hz p hp x hx)]⟩
 have hch:∀p:aa ae,∃s0:ae,p∈F->(∃S,Sta (ea kvs Q V) p S/\s0∈S/\(∀s∈S,s∈p)/\∀s∈S,¬iQ (dY (nmQ Q) (ea kvs Q V) p s)<iQ (dY (nmQ Q) (ea kvs Q V) p s0))/\cD 3 cO [.dct (nkD Q),.dct (dE (Q.map (·.1)) (ea kvs Q V)),pS p]=.ok (wk2 (dY (nmQ Q) (ea kvs Q V) p s0,wlk (ea kvs Q V) p s0)):=λp=>by
  by_cases hp:p∈F
  ·obtain⟨g,h1,h2,h3⟩:=jT w ps hp;obtain⟨S,s0,i1,i2,i3,i4,i5⟩:=aCb (hgx p hp) h1 h2 h3;exact⟨s0,λ_=>⟨⟨S,i1,i2,i3,i4⟩,i5⟩⟩
  ·exact⟨0,λz=>az z hp⟩
 obtain⟨s0,hs0⟩:=Cb hch;have hin:∀p∈F,s0 p∈p:=λp hp=>by
  obtain⟨⟨S,_,i2,i3,_⟩,_⟩:=hs0 p hp;exact i3 _ i2
 have hperm:∀p∈F,(wlk (ea kvs Q V) p (s0 p)).Perm p:=λp hp=>VG (jT w ps hp).1 (jT w ps hp).2.2.1 (hin p hp) ((jT w ps hp).2.2.2 _ (hin p hp))
 have pF:((F.map λp=>(dY (nmQ Q) (ea kvs Q V) p (s0 p),wlk (ea kvs Q V) p (s0 p))).flatMap (·.2)).Perm (Q.map (·.1)):=(N7 (W:=λp=>(dY (nmQ Q) (ea kvs Q V) p (s0 p),wlk (ea kvs Q V) p (s0 p))) hperm).trans (yK ps.nd wf.nd λy=>⟨ps.sub (λn h=>h) (j6 wf) y,ps.cv y⟩);obtain⟨SL,pSL,hup,hway⟩:=aFl (net:=bL Q V r) (W:=λp=>(dY (nmQ Q) (ea kvs Q V) p (s0 p),wlk (ea kvs Q V) p (s0 p))) (qd:=.tup (Q.map pcD)) rfl (λz=>by cases z) (aFf ql) (aJs w) hparts hF (λp hp=>⟨jE _ _ _,(hs0 p hp).2⟩) (by rw[pF.length_eq,ay];exact ql);have hmem:∀x∈SL,∃p∈F,x=(dY (nmQ Q) (ea kvs Q V) p (s0 p),wlk (ea kvs Q V) p (s0 p)):=λx hx=>by
  obtain⟨p,hp,e⟩:=ax.mp (pSL.mem_iff.mp hx);exact⟨p,hp,e.symm⟩
 refine⟨F,λp=>dY (nmQ Q) (ea kvs Q V) p (s0 p),SL,⟨⟨?_,λn hn=>vT.mp (ps.cv n hn),λp hp=>(jT w ps hp).2.1,λp hp=>?_,hz,λp hp=>(jT w ps hp).2.2.2⟩,λp hp=>?_,(n_ (·.2) pSL).trans pF,λx hx=>?_,λx hx n hn=>?_,?_,hup⟩,hway⟩
 ·exact ps.hd.imp λ{a b} h e=>by rw[e] at h;lia
 ·obtain⟨n,q,e,_,h,_⟩:=ps.ea p hp;exact h
 ·obtain⟨⟨S,i⟩,_⟩:=hs0 p hp;exact⟨S,s0 p,i.1,i.2.1,i.2.2.1,i.2.2.2,rfl⟩
 ·obtain⟨p,hp,rfl⟩:=hmem x hx;rfl
 ·obtain⟨p,hp,rfl⟩:=hmem x hx;have hnp:n∈p:=(hperm p hp).mem_iff.mp hn;refine⟨λz=>by have:=wf.qp n (hz p hp n hnp);lia,λe he=>?_⟩;have:=RP ((jT w ps hp).1.cl n hnp) e he;exact this.imp id λz=>(hperm p hp).mem_iff.mpr z
 ·have:=pSL.map (·.1);rw[bu] at this;exact this
theorem aCs{SL:aa (aa D×aa ae)}(hr:∀x∈SL,jD x.1)(h:(SL.map wk2).Pairwise λa b=>leE a b=ag):(SL.map λx=>ν x.1).Pairwise λa b=>leE a b=ag:=by
 refine cz.mpr ((cz.mp h).imp_of_mem λ{x y} hx hy z=>?_);simp only[leE,iS,k8] at z ⊢;intro q;refine z ?_;have hne:ν y.1≠ν x.1:=λe=>by rw[e] at q;exact az q (lg _)
 have px:(ν x.1).plain=ag:=iY (hr x hx);have py:(ν y.1).plain=ag:=iY (hr y hy);show(2::1::(enc (.scr y.1)++iQ [.scr (y.2.map δ)]))<(2::1::(enc (.scr x.1)++iQ [.scr (x.2.map δ)]));rw[dz,dz];refine .inr ⟨rfl,.inr ⟨rfl,(S7 _ _ _ _ (λu e=>hne ?_) λu e=>hne ?_).mpr q⟩⟩
 ·exact(nA _ _ u [] py px (by rw[e,dy])).1
 ·exact(nA _ _ u [] px py (by rw[e,dy])).1.symm
end
theorem aGy:∀(m:ah)(O:aa ae){n:ae},n∈O->((m:ae)+O.idxOf n,n)∈EP m O
 |m,o::O,n,h=>by
  rw[wa];by_cases e:o=n
  ·subst e;simp[EP]
  ·rw[show(o==n)=ai by simpa using e];have:=aGy (m+1) O ((bd.mp h).resolve_left λz=>e z.symm);refine bf _ ?_;have e2:((m:ae)+((bif ai then 0 else O.idxOf n+1:ah):ae))=(((m+1:ah):ae)+(O.idxOf n:ae)):=by
    show((m:ae)+((O.idxOf n+1:ah):ae))=_;lia
   rw[e2];exact this
theorem yP{Z:aa Pt}(h:(Z.map (·.1)).Nodup){p:Pt}(hp:p∈Z):fz Z p.1=p.2:=by
 induction Z with
 |nil=>cases hp
 |cons q Z ih=>
  rw[aT,cj] at h;by_cases e:q.1=p.1
  ·rcases bd.mp hp with rfl|hp
   ·simp[fz]
   ·have hm:p.1∈Z.map (·.1):=ax.mpr ⟨p,hp,rfl⟩;rw[<-e] at hm;exact az hm h.1
  ·have:fz (q::Z) p.1=fz Z p.1:=by simp[fz,gV,e]
   rw[this];exact ih h.2 ((bd.mp hp).resolve_left λz=>e (by rw[z]))
theorem aCt{O:aa ae}(hO:O.Nodup){n:ae}(h:n=0\/n∈O):nfZ (lU (prs O)) n=plc O n:=by
 unfold nfZ plc;by_cases h0:n=0
 ·rw[ar h0,ar h0]
 ·rw[aq h0,aq h0];have hn:=h.resolve_left h0;have hm:((n,(O.idxOf n:ae)+1):Pt)∈lU (prs O):=by
   refine(lV _).mem_iff.mpr (ax.mpr ⟨_,aGy 1 O hn,?_⟩);exact Prod.ext rfl (by show((1:ah):ae)+_=_;lia)
  exact yP (by rw[((lV (prs O)).map _).nodup_iff,RT];exact hO) hm
section
variable {kvs:aa (D×D)} {Q:aa Pc} {V:aa Tie} {r:ae}
theorem DG(w:Net kvs Q V){nf nf':ae->ae}(h:∀n,n=0\/n∈Q.map (·.1)->nf n=nf' n):cQ Q V r nf=cQ Q V r nf':=by
 have e1:Q.map (cP nf)=Q.map (cP nf'):=cq λc hc=>by
  unfold cP;rw[h c.1 (.inr (ax.mpr ⟨c,hc,rfl⟩))]
 have e2:V.map (cT nf)=V.map (cT nf'):=cq λt ht=>by
  unfold cT cE;rw[h _ (w.wf.tie ht).1,h _ (w.wf.tie ht).2]
 unfold cQ;rw[e1,e2]
theorem aO1{O:aa ae}(hO:O.Nodup)(hz:∀x∈O,x≠0):Nf (plc O) O where
 z:=rfl
 pos x hx:=by unfold plc;rw[aq (hz x hx)];lia
 inj x hx y hy e:=by
  unfold plc at e;rw[aq (hz x hx),aq (hz y hy)] at e;have e':O.idxOf x=O.idxOf y:=by lia
  have h1:=se (sg hx);have h2:=se (sg hy);rw[<-h1,<-h2]
  congr 1
theorem Nf.of{nf:ae->ae}{M N:aa ae}(h:Nf nf M)(hs:∀x∈N,x∈M):Nf nf N:=⟨h.z,λx hx=>h.pos x (hs x hx),λx hx y hy=>h.inj x (hs x hx) y (hs y hy)⟩
theorem Wy.nd{F:aa (aa ae)}{k:aa ae->aa D}{SL:aa (aa D×aa ae)}(w:Net kvs Q V)(y:Wy kvs Q V F k SL):(SL.flatMap (·.2)).Nodup:=y.pm.nodup_iff.mpr w.wf.nd
theorem Wy.nf{F:aa (aa ae)}{k:aa ae->aa D}{SL:aa (aa D×aa ae)}(w:Net kvs Q V)(y:Wy kvs Q V F k SL):Nf (plc (SL.flatMap (·.2))) (Q.map (·.1)):=(aO1 (y.nd w) λx hx=>by have:=w.wf.qp x (y.pm.mem_iff.mp hx);lia).of λx hx=>y.pm.mem_iff.mpr hx
theorem V1(w:Net kvs Q V){O:aa ae}(hO:O.Perm (Q.map (·.1)))(hN:Nf (plc O) (Q.map (·.1))){t:Tie}:t∈(V.map (cT (plc O))).map norm↔(t∈V/\t.1.1=0/\t.2.1=0)\/t∈O.flatMap (O1 (ea kvs Q V) O):=by
 have wf:=w.wf;have z0:plc O 0=0:=rfl;have hne:∀{e f:Pt},yV V e f->cE (plc O) e≠cE (plc O) f:=λ{e f} ht z=>by
  have hm:=ht.mem;have:e=f:=Prod.ext (hN.aNy (uL w hm.1) (uL w hm.2) (cm (λp:Pt=>p.1) z:(cE (plc O) e).1=(cE (plc O) f).1)) (cm (λp:Pt=>p.2) z:(cE (plc O) e).2=(cE (plc O) f).2);subst this;rcases ht with q|q<;>exact irr _ _ (w.lt _ q) (w.lt _ q)
 have to:∀{n h:ae}{f:Pt},n∈Q.map (·.1)->yV V (n,h) f->norm (cE (plc O) (n,h),cE (plc O) f)∈O.flatMap (O1 (ea kvs Q V) O):=λ{n h f} hn ht=>by
  obtain⟨pc,hp,rfl⟩:=ax.mp hn;have hh:=(mQ w hp h).mp ht.mem.1;refine fA.mpr ⟨pc.1,hO.mem_iff.mpr hn,ax.mpr ⟨(f,h.toNat),?_,?_⟩⟩
  ·rw[sa];unfold ea eA;rw[RK w.qs hp,fu,vE (by lia)];show af (mt V (pc.1,((h.toNat:ah):ae)))=af f;rw[show((h.toNat:ah):ae)=h by lia,JC w.nd ht]
  ·show norm ((plc O pc.1,((h.toNat:ah):ae)),cE (plc O) f)=_;rw[show((h.toNat:ah):ae)=h by lia];rfl
 constructor
 ·intro ht;obtain⟨u,hu,rfl⟩:=ax.mp ht;obtain⟨v,hv,rfl⟩:=ax.mp hu;rcases wf.ok v hv with ⟨h1,h2|h2⟩|⟨h1,h2⟩
  ·left
   have e:cT (plc O) v=v:=by
    unfold cT cE;rw[h1,h2,z0,<-h1];exact Prod.ext rfl (Prod.ext (by rw[h1,h2]) rfl)
   rw[e];have hl:=w.lt v hv;have e2:norm v=v:=by
    unfold norm;have:=irr _ _ hl;simp[hl,this]
   rw[e2];exact⟨hv,h1,h2⟩
  ·right
   have hT:yV V (v.2.1,v.2.2) v.1:=.inr hv;have:=to h2 hT;rw[yM _ _ (hne hT.symm)] at this;exact this
  ·right
   exact to h1 (h:=v.1.2) (f:=v.2) (.inl hv)
 ·rintro(⟨hv,h1,h2⟩|ht)
  ·refine ax.mpr ⟨cT (plc O) t,ax.mpr ⟨t,hv,rfl⟩,?_⟩;have e:cT (plc O) t=t:=by
    unfold cT cE;rw[h1,h2,z0];exact Prod.ext (Prod.ext h1.symm rfl) (Prod.ext h2.symm rfl)
   rw[e];have hl:=w.lt t hv;unfold norm;have:=irr _ _ hl;simp[hl,this]
  ·obtain⟨n,hn,ht⟩:=fA.mp ht;obtain⟨y,hy,rfl⟩:=ax.mp ht;obtain⟨pc,hp,rfl⟩:=ax.mp (hO.mem_iff.mp hn);rw[sa] at hy;have hlt:y.2<vOf kvs pc.2+1:=by
    have:=(c9.mp hy).1;unfold ea at this;rw[CQ,RK w.qs hp] at this;exact this
   unfold ea eA at hy;rw[RK w.qs hp,fu,vE hlt] at hy;have e:mt V (pc.1,(y.2:ae))=y.1:=by simpa using hy
   have hT:yV V (pc.1,(y.2:ae)) y.1:=by
    rw[<-e];exact yH w.nd ((mQ w hp _).mpr (by lia))
   show norm (cE (plc O) (pc.1,(y.2:ae)),cE (plc O) y.1)∈_;rcases hT with q|q
   ·exact ax.mpr ⟨_,ax.mpr ⟨_,q,rfl⟩,rfl⟩
   ·rw[<-yM _ _ (hne (.inr q))];exact ax.mpr ⟨_,ax.mpr ⟨_,q,rfl⟩,rfl⟩
theorem V3(w:Net kvs Q V){O:aa ae}(hO:O.Perm (Q.map (·.1))):(Q.map (cP (plc O))).Perm (enS 0 (O.map (nmQ Q))):=by
 have hn:O.Nodup:=hO.nodup_iff.mpr w.wf.nd;have e:=aGx (nm:=nmQ Q) O [] hn λx hx=>by have:=w.wf.qp x (hO.mem_iff.mp hx);lia
 rw[dS,dQ] at e;rw[e];have e2:Q.map (cP (plc O))=(Q.map (·.1)).map λn=>(plc O n,nmQ Q n):=by
  rw[bu];refine cq λc hc=>?_
  show(plc O c.1,c.2)=(plc O c.1,nmQ Q c.1);rw[aCm w.qs hc]
 rw[e2];exact(hO.map _).symm
end
theorem aCu{kvs kvs':aa (D×D)}{Q Q':aa Pc}{V V':aa Tie}{F F':aa (aa ae)}{k k':aa ae->aa D}{SL SL':aa (aa D×aa ae)}(w:Net kvs Q V)(w':Net kvs' Q' V')(y:Wy kvs Q V F k SL)(y':Wy kvs' Q' V' F' k' SL')(hr:SL.map (·.1)=SL'.map (·.1))(hb:∀t:Tie,(t∈V/\t.1.1=0/\t.2.1=0)↔(t∈V'/\t.1.1=0/\t.2.1=0)):(Q.map (cP (plc (SL.flatMap (·.2))))).Perm (Q'.map (cP (plc (SL'.flatMap (·.2)))))/\((V.map (cT (plc (SL.flatMap (·.2))))).map norm).Perm ((V'.map (cT (plc (SL'.flatMap (·.2))))).map norm):=by
 have e1:=JN SL y.rw;have e1':=JN SL' y'.rw;have e2:=JM (nm:=nmQ Q) (E:=ea kvs Q V) SL [] (by rw[dQ];exact y.nd w) y.rw y.cl;have e2':=JM (nm:=nmQ Q') (E:=ea kvs' Q' V') SL' [] (by rw[dQ];exact y'.nd w') y'.rw y'.cl;rw[dQ] at e2 e2';have p1:(Q.map (cP (plc (SL.flatMap (·.2))))).Perm (Q'.map (cP (plc (SL'.flatMap (·.2))))):=by
  refine(V3 w y.pm).trans (si ?_ (V3 w' y'.pm).symm);rw[e1,e1',hr]
 have p2:((V.map (cT (plc (SL.flatMap (·.2))))).map norm).Perm ((V'.map (cT (plc (SL'.flatMap (·.2))))).map norm):=by
  refine(rV (O3 w (y.nf w)) (O3 w' (y'.nf w'))).mpr λt=>?_
  rw[V1 w y.pm (y.nf w),V1 w' y'.pm (y'.nf w'),<-e2,<-e2',hr,hb t]
 exact⟨p1,p2⟩
theorem aFm{kvs:aa (D×D)}{Q:aa Pc}{V:aa Tie}{φ:ae->ae}{F F':aa (aa ae)}{k k':aa ae->aa D}{SL SL':aa (aa D×aa ae)}(w:Net kvs Q V)(h:Nf φ (Q.map (·.1)))(y:Wy kvs Q V F k SL)(y':Wy kvs (cZ (Q.map (cP φ))) (dG ((V.map (cT φ)).map norm)) F' k' SL'):(Q.map (cP (plc (SL.flatMap (·.2))))).Perm ((cZ (Q.map (cP φ))).map (cP (plc (SL'.flatMap (·.2)))))/\((V.map (cT (plc (SL.flatMap (·.2))))).map norm).Perm (((dG ((V.map (cT φ)).map norm)).map (cT (plc (SL'.flatMap (·.2))))).map norm):=by
 have w':=yN w h;have i:=aKg w h;have hu:∀q∈uX (ea kvs Q V) (Q.map (·.1)),∀q'∈uX (ea kvs Q V) (Q.map (·.1)),q.1=q'.1->q=q':=λq hq q' hq' e=>by
  obtain⟨a1,a2⟩:=k_.mp hq;obtain⟨b1,b2⟩:=k_.mp hq';obtain⟨c,hc,ec⟩:=ax.mp a1;obtain⟨c',hc',ec'⟩:=ax.mp b1;rw[<-ec] at a2;rw[<-ec'] at b2;obtain⟨h1,t1⟩:=(NP w hc).mp a2;obtain⟨h2,t2⟩:=(NP w hc').mp b2;rw[<-e] at t2;have:=NB w.nd t1.symm t2.symm;refine Prod.ext e ?_;rw[<-ec,<-ec'];exact cm (λp:Pt=>p.1) this
 have hp:(SL.map (·.1)).Perm (SL'.map (·.1)):=y.sr.trans ((aCj i (λz=>aKf) y.pa y'.pa hu y.fw y'.fw).trans y'.sr.symm);have hro:∀x∈SL,jD x.1:=λx hx=>by rw[y.rw x hx];exact jE _ _ _
 have hro':∀x∈SL',jD x.1:=λx hx=>by rw[y'.rw x hx];exact jE _ _ _
 have hr:SL.map (·.1)=SL'.map (·.1):=by
  have q:=nC (ds:=SL.map λx=>ν x.1) (es:=SL'.map λx=>ν x.1) (λd hd=>by
   obtain⟨x,hx,rfl⟩:=ax.mp hd;exact iY (hro x hx)) (by
   have:=hp.map ν;rw[bu,bu] at this;exact this) (aCs hro y.up) (aCs hro' y'.up)
  have key:∀{A B:aa (aa D×aa ae)},(A.map λx=>ν x.1)=(B.map λx=>ν x.1)->A.map (·.1)=B.map (·.1):=by
   intro A;induction A with
   |nil=>
    intro B h;cases B with
    |nil=>rfl
    |cons b B=>cases h
   |cons a A ih=>
    intro B h;cases B with
    |nil=>cases h
    |cons b B=>
     rw[aT,aT,gj] at h;rw[aT,aT,ih h.2]
     congr 1
     exact D.scr.inj h.1
  exact key q
 refine aCu w w' y y' hr λt=>?_
 constructor
 ·rintro⟨h1,h2,h3⟩;refine⟨(bO _).mem_iff.mpr (ax.mpr ⟨cT φ t,ax.mpr ⟨t,h1,rfl⟩,?_⟩),h2,h3⟩;have e:cT φ t=t:=by
   unfold cT cE;rw[h2,h3,h.z];exact Prod.ext (Prod.ext h2.symm rfl) (Prod.ext h3.symm rfl)
  rw[e];have hl:=w.lt t h1;unfold norm;have:=irr _ _ hl;simp[hl,this]
 ·rintro⟨h1,h2,h3⟩;obtain⟨u,hu,rfl⟩:=ax.mp ((bO _).mem_iff.mp h1);obtain⟨v,hv,rfl⟩:=ax.mp hu;have hv0:v.1.1=0/\v.2.1=0:=by
   have q1:=(w.wf.tie hv).1;have q2:=(w.wf.tie hv).2;have z1:φ v.1.1=0/\φ v.2.1=0:=by
    rcases iZ (cT φ v) with e|e
    ·rw[e] at h2 h3;exact⟨h2,h3⟩
    ·rw[e] at h2 h3;exact⟨h3,h2⟩
   exact⟨h.aNy q1 (.inl rfl) (by rw[h.z];exact z1.1),h.aNy q2 (.inl rfl) (by rw[h.z];exact z1.2)⟩
  have e:cT φ v=v:=by
   unfold cT cE;rw[hv0.1,hv0.2,h.z];exact Prod.ext (Prod.ext hv0.1.symm rfl) (Prod.ext hv0.2.symm rfl)
  have hl:=w.lt v hv;have e2:norm (cT φ v)=v:=by
   rw[e];unfold norm;have:=irr _ _ hl;simp[hl,this]
  rw[e2];exact⟨hv,hv0⟩
theorem jF(Q:aa Pc)(V:aa Tie)(r:ae):(bL Q V r).plain=ag/\(bL Q V r).eO aM=ag:=by
 have h1:∀Q:aa Pc,χ (Q.map pcD)=ag/\μ 10 (Q.map pcD)=ag:=by
  intro Q;induction Q with
  |nil=>exact⟨rfl,rfl⟩
  |cons c Q ih=>exact⟨by rw[aT,χ,ih.1];rfl,by rw[aT,μ,ih.2];rfl⟩
 have h2:∀V:aa Tie,χ (V.map bI)=ag/\μ 10 (V.map bI)=ag:=by
  intro V;induction V with
  |nil=>exact⟨rfl,rfl⟩
  |cons c Q ih=>exact⟨by rw[aT,χ,ih.1];rfl,by rw[aT,μ,ih.2];rfl⟩
 refine⟨?_,?_⟩
 ·show(χ (Q.map pcD)&&(χ (V.map bI)&&ag))=ag;rw[(h1 Q).1,(h2 V).1];rfl
 ·show(μ 10 (Q.map pcD)&&(μ 10 (V.map bI)&&ag))=ag;rw[(h1 Q).2,(h2 V).2];rfl
theorem eq_self{d:D}(h1:d.plain=ag)(h2:d.eO aM=ag):b8 .eq d d=.ok (.bl ag):=by
 show(if d.eO aM&&d.eO aM then ε (ξ (eqD d d)) else .bad)=_;rw[h2,vL d h1];rfl
theorem aKh{d:D}(h1:d.plain=ag)(h2:d.eO aM=ag):b8 .ne d d=.ok (.bl ai):=by
 show(if d.eO aM&&d.eO aM then ε (ξ (!eqD d d)) else .bad)=_;rw[h2,vL d h1];rfl
noncomputable def sw(q:Pt):Pt:=(q.2,q.1)
theorem aCv(Z:aa Pt):(Z.map sw).map (·.1)=Z.map (·.2):=by rw[bu];rfl
theorem aCw{one other t:D}{Z1 Z2:aa Pt}(h1u:one≠.uD)(h2u:other≠.uD)(hw1:cD 1 rF [one]=.ok (.lst (Z1.map enP)))(hw2:cD 1 rF [other]=.ok (.lst (Z2.map enP)))(hr1:cD 2 cH [one,.lst (Z1.map enP)]=.ok t)(hr2:cD 2 cH [other,.lst (Z2.map enP)]=.ok t)(ht1:t.plain=ag)(ht2:t.eO aM=ag)(hl1:Z1.length<=40)(hl2:Z2.length<=40)(hn:(Z2.map (·.2)).Nodup)(hs:∀q∈Z1,q.2∈Z2.map (·.2)) :
  cD 2 mJ [one,other]=.ok (.lst ((Z1.map λq=>((q.1,fz (Z2.map sw) q.2):Pt)).map enP)):=by
 have v0:∀(x1 x2 x3 x4 x5 x6:D),iU 0 [one,x1,x2,x3,x4,x5,x6]=.ok one:=λ_ _ _ _ _ _=>cC rfl h1u
 have v1:∀(x0 x2 x3 x4 x5 x6:D),iU 1 [x0,other,x2,x3,x4,x5,x6]=.ok other:=λ_ _ _ _ _ _=>cC rfl h2u
 obtain⟨ρ,h,x5,x6,rfl⟩:=bU (t:=tgN [5,6]) (body:=rU 4 fU fH) (d:=enP) (I:=λys ρ=>∃x5 x6,ρ=[one,other,.lst (Z1.map enP),.lst (Z2.map enP),.dct (bG [] ((ys.map sw).map kvI)),x5,x6]) Z2 (λys q zs ρ e ⟨x5,x6,h⟩=>by
  subst h;have hyl:ys.length<=40:=by rw[e] at hl2;simp at hl2;lia
  obtain⟨i1,i2,i3⟩:=merge_inv (ys.map sw) [] rfl RZ;have hput:=oR [] (ys.map sw) (sw q);rw[show ys.map sw++[sw q]=(ys++[q]).map sw by rw[ce];rfl] at hput;refine⟨[one,other,.lst (Z1.map enP),.lst (Z2.map enP),.dct (bG [] ((ys.map sw).map kvI)),.int q.1,.int q.2],[one,other,.lst (Z1.map enP),.lst (Z2.map enP),.dct (bG [] (((ys++[q]).map sw).map kvI)),.int q.1,.int q.2],rfl,?_,_,_,rfl⟩;rw[hput];generalize bG [] ((ys.map sw).map kvI)=md at i1 i2 i3 ⊢;exact mX (i:=4) (kvs:=md) (k:=.int q.2) (d:=.int q.1) rfl rfl rfl (by rw[bK];rw[ay,dS] at i3;lia) (i2 _) rfl) (ρ:=[one,other,.lst (Z1.map enP),.lst (Z2.map enP),.dct [],.uD,.uD]) ⟨_,_,rfl⟩
 have hlk:∀q∈Z1,getD (.dct (bG [] ((Z2.map sw).map kvI))) (.int q.2)=.ok (.int (fz (Z2.map sw) q.2)):=λq hq=>by
  show(if keyOk (.int q.2) then ι (bA (bG [] ((Z2.map sw).map kvI)) (.int q.2)) else .bad)=_;rw[oO q.2 (Z2.map sw) [] (by rw[aCv];exact hn),aCv,ar (hs q hq)];rfl
 generalize bG [] ((Z2.map sw).map kvI)=md at *;have hc:(e_ 7 (cX fD ai) (yU 2) gR (dM (aD jL (aD (b2 getD d8 u5) aR))) ai) [one,other,.lst (Z1.map enP),.lst (Z2.map enP),.dct md,x5,x6]=.ok (.lst ((Z1.map λq=>((q.1,fz (Z2.map sw) q.2):Pt)).map enP)):=by
  refine iV (kJ rfl rfl) (by rw[ay,bK];lia) ?_;rw[iK _ enP (λq=>enP (q.1,fz (Z2.map sw) q.2)) Z1 [] λacc q hq=>by
   exact lR (x:=enP q) (b:=ag) (bs:=[.int q.1,.int q.2]) (y:=enP (q.1,fz (Z2.map sw) q.2)) rfl rfl rfl λ_=>⟨dD (xs:=[.int q.1,.int (fz (Z2.map sw) q.2)]) (aC rfl (aC (aH rfl rfl (hlk q hq)) rfl)) zV,rfl⟩,dQ,bu]
  rfl
 refine(dF rfl).trans (call_v ?_);refine aJ (ρ':=[one,other,.lst (Z1.map enP),.uD,.uD,.uD,.uD]) (bN (i:=2) (aL (xs:=[one]) (aC (v0 _ _ _ _ _ _) rfl) hw1)) ?_;refine aJ (ρ':=[one,other,.lst (Z1.map enP),.lst (Z2.map enP),.uD,.uD,.uD]) (bN (i:=3) (aL (xs:=[other]) (aC (v1 _ _ _ _ _ _) rfl) hw2)) ?_;refine aJ (ρ':=[one,other,.lst (Z1.map enP),.lst (Z2.map enP),.uD,.uD,.uD]) (rB (cJ (aH (x:=t) (y:=t) (aL (xs:=[one,.lst (Z1.map enP)]) (aC (v0 _ _ _ _ _ _) (aC rfl rfl)) hr1) (aL (xs:=[other,.lst (Z2.map enP)]) (aC (v1 _ _ _ _ _ _) (aC rfl rfl)) hr2) (aKh ht1 ht2))) rfl) ?_;refine aJ (ρ':=[one,other,.lst (Z1.map enP),.lst (Z2.map enP),.dct [],.uD,.uD]) (dN (i:=4) rfl rfl) ?_;refine aJ (aAj (i:=3) (d:=.lst (Z2.map enP)) (xs:=Z2.map enP) rfl rfl h) ?_;exact fG hc rfl
def ldb:FS:=(bH (cF ai 6 (b2 getD fL fH) ai) (bH (sIf (bOr (WP (bTr (b1 (WQ .tuple) fU))) (bOr (bTB (b2 (b8 .ne) (aO gC (aD fU aR)) FJ)) (bOr (WP (bTr (aO (cD 1 fV) (aD (b2 getD fU cV) aR)))) (WP (bTr (aO (cD 1 fV) (aD (b2 getD fU eU) aR))))))) (jJ (bC (.bl ai)) ag) jH) (bH (sIf (bTB (b2 (b8 .ne) (b2 getD fU cV) (b2 getD (b2 getD (b2 getD gQ cV) fH) cV))) (jJ (bC (.bl ai)) ag) jH) (rU 4 (b2 getD fU cV) (b2 getD fU eU)))))
theorem aCx{one other:D}{Q:aa Pc}{V:aa Tie}{r:ae}{Z:aa Pt}(w:Wf Q V)(e0:getD one (.int 0)=.ok (.tup (Q.map pcD)))(e1:getD one (.int 1)=.ok (.tup (V.map bI)))(e2:getD one (.int 2)=.ok (.int r))(hu:one≠.uD)(hu2:other≠.uD)(hZ:Z.map (·.1)=Q.map (·.1))(ht:cQ Q V r (nfZ Z)=other)(ho1:other.plain=ag)(ho2:other.eO aM=ag):cD 4 dX [.lst (Z.map enP),one,other,.bl ag]=.ok (.bl ag):=by
 have hlen:Z.length=Q.length:=by have:=cm gS hZ;simpa using this
 have ql:=w.ql;rw[ay] at ql;have hnd:(Z.map (·.1)).Nodup:=by rw[hZ];exact w.nd
 have h00:0∉Z.map (·.1):=λz=>by have:=w.qp 0 (by rw[<-hZ];exact z);lia
 have hN:=aQ3 hnd h00;rw[hZ] at hN;have hb:∀(x0 x2 x3 x4 x5 x6:D),iU 1 [x0,one,x2,x3,x4,x5,x6]=.ok one:=λ_ _ _ _ _ _=>cC rfl hu
 have hlE:gC [.lst (Z.map enP)]=.ok (.int Z.length):=aQp Z;have hlQ:gC [.tup (Q.map pcD)]=.ok (.int Z.length):=by
  show ε (δ ((Q.map pcD).length:ae))=_;rw[ay,hlen]
 obtain⟨ρ,h1,x4,x5,rfl⟩:=bU (t:=tg1 5) (body:=ldb) (d:=λ(k:ah)=>δ (0+(k:ae))) (I:=λys ρ=>∃x4 x5,ρ=[.lst (Z.map enP),one,other,.bl ag,.dct (bG [(.int 0,.int 0)] ((Z.take ys.length).map kvI)),x4,x5]) (bn Z.length) (λys k zs ρ e ⟨x4,x5,h⟩=>by
  subst h;obtain⟨rfl,hk⟩:=j7 e;have hkQ:ys.length<Q.length:=by lia
  have hget:getD (.lst (Z.map enP)) (.int (0+(ys.length:ae)))=.ok (enP Z[ys.length]):=by
   rw[show(0+(ys.length:ae))=(ys.length:ae) by lia,tQ _ _ (by rw[ay];exact hk),e7]
  have hgQ:getD (.tup (Q.map pcD)) (.int (0+(ys.length:ae)))=.ok (pcD Q[ys.length]):=by
   rw[yE _ _ (by rw[ay];exact hkQ),e7]
  have hfst:Z[ys.length].1=Q[ys.length].1:=by
   have a:(Z.map (·.1))[ys.length]?=(Q.map (·.1))[ys.length]?:=by rw[hZ]
   rw[fu,fu,cn hk,cn hkQ] at a;simpa using a
  have htk:Z.take (ys++[ys.length]).length=Z.take ys.length++[Z[ys.length]]:=by
   rw[cb,fx,mz hk]
  obtain⟨i1,i2,i3⟩:=merge_inv (Z.take ys.length) [(.int 0,.int 0)] rfl aKb;have htl:(Z.take ys.length).length<=40:=by rw[jo];lia
  generalize Z[ys.length]=p at hget hfst htk;generalize hmd:bG [(.int 0,.int 0)] ((Z.take ys.length).map kvI)=md at i1 i2 i3 ⊢;have hput:bG [(.int 0,.int 0)] ((Z.take (ys++[ys.length]).length).map kvI)=putD md (.int p.1) (.int p.2):=by rw[htk,oR,hmd]
  have hcQ:∀ρ:aa D,iU 1 ρ=.ok one->iU 5 ρ=.ok (.int (0+(ys.length:ae)))->(b2 getD (b2 getD (b2 getD gQ cV) fH) cV) ρ=.ok (.int p.1):=λρ a b=>by
   rw[hfst];exact aH (aH (aH a rfl e0) b hgQ) rfl rfl
  refine⟨[.lst (Z.map enP),one,other,.bl ag,.dct md,.int (0+(ys.length:ae)),x5],[.lst (Z.map enP),one,other,.bl ag,.dct (putD md (.int p.1) (.int p.2)),.int (0+(ys.length:ae)),enP p],rfl,?_,.int (0+(ys.length:ae)),enP p,?_⟩
  ·generalize (0+(ys.length:ae))=kk at hget hcQ ⊢;refine aJ (ρ':=[.lst (Z.map enP),one,other,.bl ag,.dct md,.int kk,enP p]) (mC (i:=6) (aH rfl rfl hget) rfl) ?_;refine aJ (ρ':=[.lst (Z.map enP),one,other,.bl ag,.dct md,.int kk,enP p]) (rB (aOl (uW (b:=ag) (uY (aEz (x:=enP p) rfl rfl))) (aOl (cJ (aH (x:=.int 2) (aL (xs:=[enP p]) (aC rfl rfl) rfl) rfl (ne_int 2))) (aOl (uW (b:=ag) (uY (aL (xs:=[.int p.1]) (aC (aH (x:=enP p) rfl rfl rfl) rfl) (OD _)))) (uW (b:=ag) (uY (aL (xs:=[.int p.2]) (aC (aH (x:=enP p) rfl rfl rfl) rfl) (OD _))))))) rfl) ?_;refine aJ (ρ':=[.lst (Z.map enP),one,other,.bl ag,.dct md,.int kk,enP p]) (rB (cJ (aH (x:=.int p.1) (aH (x:=enP p) rfl rfl rfl) (hcQ _ (hb _ _ _ _ _ _) rfl) (ne_int p.1))) rfl) ?_;exact mX (i:=4) (kvs:=md) (k:=.int p.1) (d:=.int p.2) (aH (x:=enP p) rfl rfl rfl) (aH (x:=enP p) rfl rfl rfl) rfl (by rw[bK];simp only[b9,dS] at i3;lia) (i2 _) rfl
  ·rw[hput]) (ρ:=[.lst (Z.map enP),one,other,.bl ag,.dct [(.int 0,.int 0)],.uD,.uD]) ⟨_,_,rfl⟩
 rw[gp,u4] at h1;have hcar:=rK (nf:=nfZ Z) w e0 e1 e2 hu hN;rw[ht] at hcar;generalize bG [(.int 0,.int 0)] (Z.map kvI)=md at *;refine(dF rfl).trans (call_v ?_);refine aJ (ρ':=[.lst (Z.map enP),one,other,.bl ag,.uD,.uD,.uD]) (rB (uW (b:=ag) (uY rfl)) rfl) ?_;refine aJ (ρ':=[.lst (Z.map enP),one,other,.bl ag,.uD,.uD,.uD]) (rB (aOl (uW (b:=ag) (uY (aEz (x:=.lst (Z.map enP)) rfl rfl))) (cJ (aH (x:=.int Z.length) (y:=.int Z.length) (aL (xs:=[.lst (Z.map enP)]) (aC rfl rfl) hlE) (aL (xs:=[.tup (Q.map pcD)]) (aC (aH (hb _ _ _ _ _ _) rfl e0) rfl) hlQ) (ne_int _)))) rfl) ?_;refine aJ (ρ':=[.lst (Z.map enP),one,other,.bl ag,.dct [(.int 0,.int 0)],.uD,.uD]) (dN (i:=4) (aH rfl rfl rfl) rfl) ?_;refine aJ (mW (uO (n:=Z.length) (aC (aL (xs:=[.lst (Z.map enP)]) (aC rfl rfl) hlE) rfl) (by lia) (by lia)) (by rw[kh];exact h1)) ?_;exact fG (aH (x:=other) (y:=other) (aL (xs:=[one,.dct md]) (aC (hb _ _ _ _ _ _) (aC rfl rfl)) hcar) (cC rfl hu2) (eq_self ho1 ho2)) rfl
theorem aKi(t:Tie):norm (t.2,t.1)=norm t:=by
 by_cases h:t.1=t.2
 ·rw[show(t.2,t.1)=t from Prod.ext h.symm h]
 ·exact yM t.1 t.2 h
theorem aCy(g:ae->ae)(t:Tie):norm (cT g (norm t))=norm (cT g t):=by
 rcases iZ t with e|e
 ·rw[e]
 ·rw[e];exact aKi (cT g t)
theorem aKj{kvs:aa (D×D)}{Q Q':aa Pc}{V V':aa Tie}{r:ae}{l l' g nf:ae->ae}(w':Net kvs Q' V')(p1:(Q.map (cP l)).Perm (Q'.map (cP l')))(p2:((V.map (cT l)).map norm).Perm ((V'.map (cT l')).map norm))(hg:∀m,m=0\/m∈Q'.map (·.1)->g (l' m)=m)(wf:Wf Q V)(hn:∀n,n=0\/n∈Q.map (·.1)->nf n=g (l n)):cQ Q V r nf=bL Q' V' r:=by
 have e1:Q.map (cP nf)=(Q.map (cP l)).map (cP g):=by
  rw[bu];refine cq λc hc=>?_
  show(nf c.1,c.2)=(g (l c.1),c.2);rw[hn c.1 (.inr (ax.mpr ⟨c,hc,rfl⟩))]
 have e1':(Q'.map (cP l')).map (cP g)=Q':=by
  rw[bu]
  conv=>rhs;rw[<-eW Q']
  refine cq λc hc=>?_
  show(g (l' c.1),c.2)=c;rw[hg c.1 (.inr (ax.mpr ⟨c,hc,rfl⟩))]
 have q1:(Q.map (cP nf)).Perm Q':=by rw[e1];exact(p1.map _).trans (by rw[e1'])
 have e2:(V.map (cT nf)).map norm=((V.map (cT l)).map norm).map λt=>norm (cT g t):=by
  rw[bu,bu,bu];refine cq λt ht=>?_
  show norm (cT nf t)=norm (cT g (norm (cT l t)));rw[aCy];show norm ((nf t.1.1,t.1.2),(nf t.2.1,t.2.2))=norm ((g (l t.1.1),t.1.2),(g (l t.2.1),t.2.2));rw[hn _ (wf.tie ht).1,hn _ (wf.tie ht).2]
 have e2':(((V'.map (cT l')).map norm).map λt=>norm (cT g t))=V':=by
  rw[bu,bu]
  conv=>rhs;rw[<-eW V']
  refine cq λt ht=>?_
  show norm (cT g (norm (cT l' t)))=t;rw[aCy];have:cT g (cT l' t)=t:=by
   show((g (l' t.1.1),t.1.2),(g (l' t.2.1),t.2.2))=t;rw[hg _ (w'.wf.tie ht).1,hg _ (w'.wf.tie ht).2]
  rw[this];have hl:=w'.lt t ht;unfold norm;have:=irr _ _ hl;simp[hl,this]
 have q2:((V.map (cT nf)).map norm).Perm V':=by rw[e2];exact(p2.map _).trans (by rw[e2'])
 have s1:cZ Q'=Q':=by
  have hz:Q'.length<64:=by have:=w'.ql;lia
  have h:=aEy (U:=Q') (W:=Q') hz (.refl _) w'.qs;rw[yL _ hz] at h;have h:(cZ Q').map pcD=Q'.map pcD:=by injection h with h;injection h
  have key:∀{A B:aa Pc},A.map pcD=B.map pcD->A=B:=by
   intro A;induction A with
   |nil=>
    intro B h;cases B with
    |nil=>rfl
    |cons b B=>cases h
   |cons a A ih=>
    intro B h;cases B with
    |nil=>cases h
    |cons b B=>
     rw[aT,aT,gj] at h;obtain⟨h1,h2⟩:=h;have e:a=b:=by
      obtain⟨a1,a2⟩:=a;obtain⟨b1,b2⟩:=b;unfold pcD at h1;injection h1 with h1
      injection h1 with h1 h3
      injection h1 with h1
      injection h3 with h3
      injection h3 with h3
      exact Prod.ext h1 h3
     rw[e,ih h2]
  exact key h
 unfold cQ;rw[O2 q1,U4 q2,s1,aEx w'.srt]
theorem V4{net:D}{Q:aa Pc}{V:aa Tie}{r:ae}{Z:aa Pt}(w:Wf Q V)(e0:getD net (.int 0)=.ok (.tup (Q.map pcD)))(e1:getD net (.int 1)=.ok (.tup (V.map bI)))(e2:getD net (.int 2)=.ok (.int r))(hu:net≠.uD)(hZ:Z.map (·.1)=Q.map (·.1)):cD 2 cH [net,.lst (Z.map enP)]=.ok (cQ Q V r (nfZ Z)):=by
 have hl:Z.length<=40:=by have:=cm gS hZ;rw[ay] at this;have:=w.ql;lia
 obtain⟨i1,i2,i3⟩:=merge_inv Z [] rfl RZ;have hd:B_ (.lst (Z.map enP))=.ok (.dct (bG [] (Z.map kvI))):=by
  show(match lN (Z.map enP) with|some ps=>if ϒ ((Z.map enP).length<=1000) then ε (D.dct (bG [] ps)) else .bad|none=>.bad)=_;rw[RX];show(if ϒ ((Z.map enP).length<=1000) then ε (D.dct (bG [] (Z.map kvI))) else .bad)=_;rw[bq (by rw[ay];lia),ar rfl]
 have hN:=aQq (Z:=Z) (by rw[hZ];exact w.nd);rw[hZ] at hN;exact aCl (nf:=nfZ Z) w e0 e1 e2 hu hd i1 (by rw[dS] at i3;lia) (i2 0) rfl hN
section
variable {kvs:aa (D×D)} {Q Q':aa Pc} {V V':aa Tie} {r:ae} {F:aa (aa ae)} {k:aa ae->aa D} {SL:aa (aa D×aa ae)}
theorem aL0(w:Net kvs Q V)(y:Wy kvs Q V F k SL):(lU (prs (SL.flatMap (·.2)))).map (·.1)=Q.map (·.1)/\((lU (prs (SL.flatMap (·.2)))).map (·.2)).Perm ((bn Q.length).map λ(k:ah)=>((1:ae)+k)):=by
 refine⟨aCf (by rw[RT];exact y.pm) w.wf.qs,((lV _).map _).trans ?_⟩;rw[aK6,y.pm.length_eq,ay]
theorem aOn(w:Net kvs Q V)(y:Wy kvs Q V F k SL):cQ Q V r (nfZ (lU (prs (SL.flatMap (·.2)))))=cQ Q V r (plc (SL.flatMap (·.2))):=DG w λn hn=>aCt (y.nd w) (hn.imp id λz=>y.pm.mem_iff.mpr z)
theorem O4{l l':ae->ae}(p1:(Q.map (cP l)).Perm (Q'.map (cP l')))(p2:((V.map (cT l)).map norm).Perm ((V'.map (cT l')).map norm)):cQ Q V r l=cQ Q' V' r l':=by
 unfold cQ;rw[O2 p1,U4 p2]
end
theorem aGz:∀{A B:aa Pc},A.map pcD=B.map pcD->A=B
 |[],[],_=>rfl
 |[],_::_,h=>by cases h
 |_::_,[],h=>by cases h
 |a::A,b::B,h=>by
  rw[aT,aT,gj] at h;obtain⟨h1,h2⟩:=h;obtain⟨a1,a2⟩:=a;obtain⟨b1,b2⟩:=b;unfold pcD at h1;injection h1 with h1
  injection h1 with h1 h3
  injection h1 with h1
  injection h3 with h3
  injection h3 with h3
  simp only at h1 h3;rw[h1,h3,aGz h2]
theorem R0{Q Q':aa Pc}{V V':aa Tie}{r r':ae}(h:bL Q V r=bL Q' V' r'):Q=Q'/\V=V'/\r=r':=by
 unfold bL at h;injection h with h
 injection h with h1 h
 injection h with h2 h
 injection h with h3
 injection h1 with h1
 injection h2 with h2
 injection h3 with h3
 exact⟨aGz h1,RD h2,h3⟩
theorem R1{d d':D}(p1:d.plain=ag)(p2:d'.plain=ag)(e1:d.eO aM=ag)(e2:d'.eO aM=ag)(h:d≠d'):b8 .eq d d'=.ok (.bl ai)/\b8 .ne d d'=.ok (.bl ag):=by
 have hf:eqD d d'=ai:=by
  cases hq:eqD d d' with
  |false=>rfl
  |true=>exact az (S6 d d' p1 p2 hq) h
 refine⟨?_,?_⟩
 ·show(if d.eO aM&&d'.eO aM then ε (ξ (eqD d d')) else .bad)=_;rw[e1,e2,hf];rfl
 ·show(if d.eO aM&&d'.eO aM then ε (ξ (!eqD d d')) else .bad)=_;rw[e1,e2,hf];rfl
theorem X8{one other t t':D}{Z1 Z2:aa Pt}(h1u:one≠.uD)(h2u:other≠.uD)(hw1:cD 1 rF [one]=.ok (.lst (Z1.map enP)))(hw2:cD 1 rF [other]=.ok (.lst (Z2.map enP)))(hr1:cD 2 cH [one,.lst (Z1.map enP)]=.ok t)(hr2:cD 2 cH [other,.lst (Z2.map enP)]=.ok t')(hne:b8 .ne t t'=.ok (.bl ag)) :
  cD 2 mJ [one,other]=.ok .non:=by
 have v0:∀(x1 x2 x3 x4 x5 x6:D),iU 0 [one,x1,x2,x3,x4,x5,x6]=.ok one:=λ_ _ _ _ _ _=>cC rfl h1u
 have v1:∀(x0 x2 x3 x4 x5 x6:D),iU 1 [x0,other,x2,x3,x4,x5,x6]=.ok other:=λ_ _ _ _ _ _=>cC rfl h2u
 refine(dF rfl).trans (call_v ?_);refine aJ (ρ':=[one,other,.lst (Z1.map enP),.uD,.uD,.uD,.uD]) (bN (i:=2) (aL (xs:=[one]) (aC (v0 _ _ _ _ _ _) rfl) hw1)) ?_;refine aJ (ρ':=[one,other,.lst (Z1.map enP),.lst (Z2.map enP),.uD,.uD,.uD]) (bN (i:=3) (aL (xs:=[other]) (aC (v1 _ _ _ _ _ _) rfl) hw2)) ?_;exact qR (vW (cJ (aH (x:=t) (y:=t') (aL (xs:=[one,.lst (Z1.map enP)]) (aC (v0 _ _ _ _ _ _) (aC rfl rfl)) hr1) (aL (xs:=[other,.lst (Z2.map enP)]) (aC (v1 _ _ _ _ _ _) (aC rfl rfl)) hr2) hne)) (fG rfl rfl))
theorem X_{one other:D}:cD 4 dX [.non,one,other,.bl ai]=.ok (.bl ag):=by
 refine(dF rfl).trans (call_v ?_);exact qR (vW (uW (b:=ai) (uY rfl)) (fG (aH rfl rfl rfl) rfl))
section
variable {kvs:aa (D×D)} {Q Q':aa Pc} {V V':aa Tie} {r r':ae} {F F':aa (aa ae)} {k k':aa ae->aa D} {SL SL':aa (aa D×aa ae)}
def Al(Q:aa Pc)(V:aa Tie)(r:ae)(Q':aa Pc)(V':aa Tie)(r':ae):Prop:=∃ψ:ae->ae,ψ 0=0/\cQ Q V r ψ=bL Q' V' r'
theorem aCz{ψ:ae->ae}(h:cQ Q V r ψ=bL Q' V' r'):(Q.map λc=>ψ c.1).Perm (Q'.map (·.1)):=by
 have e:=(R0 h).1;have p:=(dH (Q.map (cP ψ))).symm.map (·.1);rw[e,bu] at p;exact p
theorem aQ4{ψ:ae->ae}(w':Net kvs Q' V')(h0:ψ 0=0)(h:cQ Q V r ψ=bL Q' V' r'):Nf ψ (Q.map (·.1)):=by
 have p:=aCz h;have hn:(Q.map λc=>ψ c.1).Nodup:=p.nodup_iff.mpr w'.wf.nd;refine⟨h0,λx hx=>?_,λx hx y hy e=>?_⟩
 ·obtain⟨c,hc,rfl⟩:=ax.mp hx;exact w'.wf.qp _ (p.mem_iff.mp (ax.mpr ⟨c,hc,rfl⟩))
 ·have key:∀{M:aa Pc},(M.map λc=>ψ c.1).Nodup->∀a∈M,∀b∈M,ψ a.1=ψ b.1->a=b:=by
   intro M;induction M with
   |nil=>intro _ a ha;cases ha
   |cons m M ih=>
    intro h a ha b hb e;rw[aT,cj] at h;rcases bd.mp ha with a1|a1
    ·rcases bd.mp hb with b1|b1
     ·rw[a1,b1]
     ·exact az (ax.mpr ⟨b,b1,by rw[<-e,a1]⟩) h.1
    ·rcases bd.mp hb with b1|b1
     ·exact az (ax.mpr ⟨a,a1,by rw[e,b1]⟩) h.1
     ·exact ih h.2 a a1 b b1 e
  obtain⟨c,hc,rfl⟩:=ax.mp hx;obtain⟨d,hd,rfl⟩:=ax.mp hy;rw[key hn c hc d hd e]
theorem aKk(w:Net kvs Q V)(w':Net kvs Q' V')(y:Wy kvs Q V F k SL)(y':Wy kvs Q' V' F' k' SL')(h:Al Q V r Q' V' r'):cQ Q V r (plc (SL.flatMap (·.2)))=cQ Q' V' r' (plc (SL'.flatMap (·.2))):=by
 obtain⟨ψ,h0,e⟩:=h;have hN:=aQ4 w' h0 e;obtain⟨e1,e2,e3⟩:=R0 e;subst e1 e2 e3;obtain⟨p1,p2⟩:=aFm w hN y y';exact O4 p1 p2
theorem YB{l l':ae->ae}(h:cQ Q V r l=cQ Q' V' r' l'):(Q.map (cP l)).Perm (Q'.map (cP l'))/\((V.map (cT l)).map norm).Perm ((V'.map (cT l')).map norm)/\r=r':=by
 obtain⟨e1,e2,e3⟩:=R0 h;refine⟨(dH _).symm.trans (by rw[e1];exact dH _),(bO _).symm.trans (by rw[e2];exact bO _),e3⟩
theorem aKl(w:Net kvs Q V)(w':Net kvs Q' V')(y:Wy kvs Q V F k SL)(y':Wy kvs Q' V' F' k' SL')(hw:cD 1 rF [bL Q V r]=.ok (.lst ((lU (prs (SL.flatMap (·.2)))).map enP)))(hw':cD 1 rF [bL Q' V' r]=.ok (.lst ((lU (prs (SL'.flatMap (·.2)))).map enP)))(p1:(Q.map (cP (plc (SL.flatMap (·.2))))).Perm (Q'.map (cP (plc (SL'.flatMap (·.2))))))(p2:((V.map (cT (plc (SL.flatMap (·.2))))).map norm).Perm ((V'.map (cT (plc (SL'.flatMap (·.2))))).map norm)):Al Q V r Q' V' r/\∃d,cD 2 mJ [bL Q V r,bL Q' V' r]=.ok d/\cD 4 dX [d,bL Q V r,bL Q' V' r,.bl ag]=.ok (.bl ag):=by
 obtain⟨z1,z2⟩:=aL0 w y;obtain⟨z1',z2'⟩:=aL0 w' y';have hQ:Q.length=Q'.length:=by have:=p1.length_eq;simpa using this
 have ht:=O4 (r:=r) p1 p2;have n1:=λn hn=>aCt (y.nd w) (n:=n) hn
 have n1':=λn hn=>aCt (y'.nd w') (n:=n) hn
 have c1:=aOn (r:=r) w y;have c1':=aOn (r:=r) w' y';have pm:=y.pm;have pm':=y'.pm;generalize plc (SL.flatMap (·.2))=l at *;generalize plc (SL'.flatMap (·.2))=l' at *;generalize hO:SL.flatMap (·.2)=O at *;generalize hO':SL'.flatMap (·.2)=O' at *;generalize lU (prs O)=Z at *;generalize lU (prs O')=Z' at *;have hu:bL Q V r≠.uD:=λz=>by cases z
 have hu':bL Q' V' r≠.uD:=λz=>by cases z
 have r1:=V4 (net:=bL Q V r) (r:=r) w.wf rfl rfl rfl hu z1;have r1':=V4 (net:=bL Q' V' r) (r:=r) w'.wf rfl rfl rfl hu' z1';rw[c1,ht] at r1;rw[c1'] at r1';have pl:=jF (cZ (Q'.map (cP l'))) (dG ((V'.map (cT l')).map norm)) r;have hsn:(Z'.map (·.2)).Nodup:=z2'.nodup_iff.mpr (cz.mpr (ig.imp λ{a b} hab e=>hab (by lia)));have hpos:∀q∈Z,0<q.2:=λq hq=>by
  obtain⟨j,_,e⟩:=ax.mp (z2.mem_iff.mp (ax.mpr ⟨q,hq,rfl⟩));lia
 have hpos':∀q∈Z',0<q.2:=λq hq=>by
  obtain⟨j,_,e⟩:=ax.mp (z2'.mem_iff.mp (ax.mpr ⟨q,hq,rfl⟩));lia
 have hsub:∀q∈Z,q.2∈Z'.map (·.2):=λq hq=>z2'.mem_iff.mpr (by rw[<-hQ];exact z2.mem_iff.mp (ax.mpr ⟨q,hq,rfl⟩))
 have ql:=w.wf.ql;have ql':=w'.wf.ql;have hl1:Z.length<=40:=by have:=cm gS z1;rw[ay] at this;lia
 have hl1':Z'.length<=40:=by have:=cm gS z1';rw[ay] at this;lia
 have hal:=aCw hu hu' hw hw' r1 r1' pl.1 pl.2 hl1 hl1' hsn hsub;have hfst:(Z.map λq=>((q.1,fz (Z'.map sw) q.2):Pt)).map (·.1)=Q.map (·.1):=by rw[bu,<-z1];rfl
 have hnd:(Z.map (·.1)).Nodup:=by rw[z1];exact w.wf.nd
 have hnd':(Z'.map (·.1)).Nodup:=by rw[z1'];exact w'.wf.nd
 have pl':=jF Q' V' r
 suffices ht2:cQ Q V r (nfZ (Z.map λq=>((q.1,fz (Z'.map sw) q.2):Pt)))=bL Q' V' r from ⟨⟨_,rfl,ht2⟩,_,hal,aCx w.wf rfl rfl rfl hu hu' hfst ht2 pl'.1 pl'.2⟩
 refine aKj (l:=l) (l':=l') (g:=λp=>if p=0 then 0 else fz (Z'.map sw) p) w' p1 p2 (λm hm=>?_) w.wf λn hn=>?_
 ·rcases hm with rfl|hm
  ·rw[<-n1' 0 (.inl rfl)];rfl
  ·rw[<-n1' m (.inr (pm'.mem_iff.mpr hm))];have hm2:=hm;rw[<-z1'] at hm2;obtain⟨q,hq,rfl⟩:=ax.mp hm2;have h0:q.1≠0:=λz=>by have:=w'.wf.qp q.1 hm;lia
   have e:nfZ Z' q.1=q.2:=by
    unfold nfZ;rw[aq h0,yP hnd' hq]
   have:=hpos' q hq;show(if nfZ Z' q.1=0 then 0 else fz (Z'.map sw) (nfZ Z' q.1))=q.1;rw[e,aq (by lia)];exact yP (Z:=Z'.map sw) (by rw[aCv];exact hsn) (p:=sw q) (ax.mpr ⟨q,hq,rfl⟩)
 ·rcases hn with rfl|hn
  ·rw[<-n1 0 (.inl rfl)];rfl
  ·rw[<-n1 n (.inr (pm.mem_iff.mpr hn))];have hn2:=hn;rw[<-z1] at hn2;obtain⟨q,hq,rfl⟩:=ax.mp hn2;have h0:q.1≠0:=λz=>by have:=w.wf.qp q.1 hn;lia
   have e:nfZ Z q.1=q.2:=by
    unfold nfZ;rw[aq h0,yP hnd hq]
   have:=hpos q hq;show nfZ _ q.1=(if nfZ Z q.1=0 then 0 else fz (Z'.map sw) (nfZ Z q.1));rw[e,aq (by lia)];unfold nfZ;rw[aq h0];exact yP (by rw[hfst,<-z1];exact hnd) (p:=(q.1,fz (Z'.map sw) q.2)) (ax.mpr ⟨q,hq,rfl⟩)
theorem JP(w:Net kvs Q V)(w':Net kvs Q' V'):∃l l':ae->ae,cD 1 xQ [bL Q V r]=.ok (cQ Q V r l)/\cD 1 xQ [bL Q' V' r']=.ok (cQ Q' V' r' l')/\(Al Q V r Q' V' r'↔cQ Q V r l=cQ Q' V' r' l')/\
  (∀due:ap,(due=ag↔Al Q V r Q' V' r')->∃d,cD 2 mJ [bL Q V r,bL Q' V' r']=.ok d/\cD 4 dX [d,bL Q V r,bL Q' V' r',.bl due]=.ok (.bl ag)):=by
 obtain⟨F,k,SL,y,hw⟩:=aCr (r:=r) w;obtain⟨F',k',SL',y',hw'⟩:=aCr (r:=r') w';have hu:bL Q V r≠.uD:=λz=>by cases z
 have hu':bL Q' V' r'≠.uD:=λz=>by cases z
 have t1:=VP (net:=bL Q V r) (r:=r) w.wf rfl rfl rfl hu (aL0 w y).1 hw;have t1':=VP (net:=bL Q' V' r') (r:=r') w'.wf rfl rfl rfl hu' (aL0 w' y').1 hw';have r1:=V4 (net:=bL Q V r) (r:=r) w.wf rfl rfl rfl hu (aL0 w y).1;have r1':=V4 (net:=bL Q' V' r') (r:=r') w'.wf rfl rfl rfl hu' (aL0 w' y').1;rw[aOn w y] at t1 r1;rw[aOn w' y'] at t1' r1';have fwd:=aKk (r:=r) (r':=r') w w' y y';have bwd:cQ Q V r (plc (SL.flatMap (·.2)))=cQ Q' V' r' (plc (SL'.flatMap (·.2)))->Al Q V r Q' V' r'/\∃d,cD 2 mJ [bL Q V r,bL Q' V' r']=.ok d/\cD 4 dX [d,bL Q V r,bL Q' V' r',.bl ag]=.ok (.bl ag):=λh=>by
  obtain⟨p1,p2,e⟩:=YB h;subst e;exact aKl w w' y y' hw hw' p1 p2
 refine⟨_,_,t1,t1',⟨fwd,λh=>(bwd h).1⟩,λdue hd=>?_⟩;cases due with
 |true=>exact(bwd (fwd (hd.mp rfl))).2
 |false=>
  have hne:cQ Q V r (plc (SL.flatMap (·.2)))≠cQ Q' V' r' (plc (SL'.flatMap (·.2))):=λh=>by cases hd.mpr (bwd h).1
  have q1:=jF (cZ (Q.map (cP (plc (SL.flatMap (·.2)))))) (dG ((V.map (cT (plc (SL.flatMap (·.2))))).map norm)) r;have q2:=jF (cZ (Q'.map (cP (plc (SL'.flatMap (·.2)))))) (dG ((V'.map (cT (plc (SL'.flatMap (·.2))))).map norm)) r';exact⟨.non,X8 hu hu' hw hw' r1 r1' (R1 q1.1 q2.1 q1.2 q2.2 hne).2,X_⟩
end
noncomputable def oU:ah->aa (aa ah)
 |0=>[[]]
 |k+1=>(oU k).flatMap λo=>(bn (k+1)).map λa=>o.take a++[k]++o.drop a
noncomputable def dJ(o:aa ah):D:=.scr (o.map λ(j:ah)=>δ j)
def chk(d:D):Res D->ap
 |.ok x=>eqD x d&&x.plain&&d.plain
 |_=>ai
theorem aO2{d:D}{r:Res D}(h:chk d r=ag):r=.ok d:=by
 unfold chk at h;split at h
 ·rw[bc,bc] at h;rw[S6 _ _ h.1.2 h.2 h.1.1]
 ·cases h
theorem aD0(m:ah)(h:m<=4):cD 1 iG [.int m]=.ok (.scr ((oU m).map dJ)):=by
 have:∀m<5,chk (.scr ((oU m).map dJ)) (cD 1 iG [.int m])=ag:=by decide +kernel
 exact aO2 (this m (by lia))
theorem JQ:∀(m:ah)(o:aa ah),o∈oU m->o.Perm (bn m)
 |0,o,h=>by
  rw[oU,cw] at h;rw[h];exact .refl _
 |m+1,o,h=>by
  rw[oU,fA] at h;obtain⟨p,hp,h⟩:=h;obtain⟨a,_,rfl⟩:=ax.mp h;have ih:=JQ m p hp;rw[lu,c_];refine Bo.trans ?_;show(m::(List.take a p++List.drop a p)).Perm _;rw[wb];exact(ni m ih).trans (wg m _).symm
theorem R3:∀(m:ah)(o:aa ah),o.Perm (bn m)->o∈oU m
 |0,o,h=>by
  rw[oU,cw];exact h.eq_nil
 |m+1,o,h=>by
  have hm:m∈o:=h.mem_iff.mpr (df.mpr (by lia));obtain⟨a,b,rfl⟩:=List.append_of_mem hm;have h2:(a++b).Perm (bn m):=by
   have q:(m::(a++b)).Perm (m::bn m):=Bo.symm.trans (h.trans (by rw[lu];exact wg m _));exact q.cons_inv
  have hl:(a++b).length=m:=by rw[h2.length_eq,gp]
  rw[oU,fA];refine⟨a++b,R3 m _ h2,ax.mpr ⟨a.length,df.mpr ?_,?_⟩⟩
  ·rw[cb] at hl;lia
  ·rw[List.take_left',List.drop_left']<;>simp
def zO(Q Q':aa Pc)(o:aa ah):aa Pt:=(Q.map (·.1)).zip (o.map λj=>(Q'.map (·.1)).getD j 0)
section
variable {Q Q':aa Pc} {V V':aa Tie} {r r':ae} {o:aa ah}
theorem aH0(ho:o.length=Q.length):(zO Q Q' o).map (·.1)=Q.map (·.1):=Ah (by rw[ay,ay];lia)
theorem aD1(o:aa ah)(j:ah)(h:j<o.length):getD (dJ o) (.int (0+(j:ae)))=.ok (.int (o[j]:ah)):=by
 unfold dJ;have:=tQ (o.map λ(j:ah)=>δ j) j (by rw[ay];exact h);rw[show(0+(j:ae))=(j:ae) by lia];rw[e7] at this;exact this
theorem aD2(o:aa ah):gC [dJ o]=.ok (.int o.length):=by
 show ε (δ ((o.map λ(j:ah)=>δ j).length:ae))=_;rw[ay]
theorem aKm(w:Wf Q V)(ho:o.length=Q.length)(hb:∀j∈o,j<Q'.length):cD 3 jQ [bL Q V r,bL Q' V' r',dJ o]=.ok (.dct (bG [(.int 0,.int 0)] ((zO Q Q' o).map kvI))):=by
 have ql:=w.ql;rw[ay] at ql;have hZl:(zO Q Q' o).length=Q.length:=by unfold zO;rw[List.length_zip,ay,ay];lia
 have hZg:∀k (h1:k<(zO Q Q' o).length) (h2:k<Q.length) (h3:k<o.length) (h4:o[k]<Q'.length),(zO Q Q' o)[k]=(Q[k].1,Q'[o[k]].1):=λk h1 h2 h3 h4=>by
  have h:(zO Q Q' o)[k]?=af (Q[k].1,Q'[o[k]].1):=List.getElem?_zip_eq_some.mpr ⟨by rw[fu,cn h2];rfl,by rw[fu,cn h3,Bg,cy,fu,cn h4];rfl⟩;exact cr ((cn h1).symm.trans h)
 generalize hN:bL Q V r=one at *;generalize hN':bL Q' V' r'=other at *;have e0:getD one (.int 0)=.ok (.tup (Q.map pcD)):=by rw[<-hN];rfl
 have e0':getD other (.int 0)=.ok (.tup (Q'.map pcD)):=by rw[<-hN'];rfl
 have hu:one≠.uD:=λz=>by rw[<-hN] at z;cases z
 have hu':other≠.uD:=λz=>by rw[<-hN'] at z;cases z
 have ho':dJ o≠.uD:=λz=>by cases z
 have v0:∀(x1 x2 x3 x4:D),iU 0 [one,x1,x2,x3,x4]=.ok one:=λ_ _ _ _=>cC rfl hu
 have v1:∀(x0 x2 x3 x4:D),iU 1 [x0,other,x2,x3,x4]=.ok other:=λ_ _ _ _=>cC rfl hu'
 have v2:∀(x0 x1 x3 x4:D),iU 2 [x0,x1,dJ o,x3,x4]=.ok (dJ o):=λ_ _ _ _=>cC rfl ho'
 have og:=aD1 o;have ol:=aD2 o;generalize dJ o=od at *;generalize zO Q Q' o=Z at *;obtain⟨ρ,h1,x4,rfl⟩:=bU (t:=tg1 4) (body:=(rU 3 (b2 getD (b2 getD (b2 getD fL cV) d8) cV) (b2 getD (b2 getD (b2 getD gQ cV) (b2 getD fD d8)) cV))) (d:=λ(k:ah)=>δ (0+(k:ae))) (I:=λys ρ=>∃x4,ρ=[one,other,od,.dct (bG [(.int 0,.int 0)] ((Z.take ys.length).map kvI)),x4]) (bn o.length) (λys k zs ρ e ⟨x4,h⟩=>by
  subst h;obtain⟨rfl,hk⟩:=j7 e;have hkQ:ys.length<Q.length:=by lia
  have hkZ:ys.length<Z.length:=by lia
  have hj:=hb _ (fq hk);have hgQ:getD (.tup (Q.map pcD)) (.int (0+(ys.length:ae)))=.ok (pcD Q[ys.length]):=by
   rw[yE _ _ (by rw[ay];exact hkQ),e7]
  have hgo:=og ys.length hk;have hgQ':getD (.tup (Q'.map pcD)) (.int (o[ys.length]:ah))=.ok (pcD Q'[o[ys.length]]):=by
   rw[show((o[ys.length]:ah):ae)=0+((o[ys.length]:ah):ae) by lia,yE _ _ (by rw[ay];exact hj),e7]
  have htk:Z.take (ys++[ys.length]).length=Z.take ys.length++[(Q[ys.length].1,Q'[o[ys.length]].1)]:=by
   rw[cb,fx,mz hkZ,hZg _ hkZ hkQ hk hj]
  obtain⟨i1,i2,i3⟩:=merge_inv (Z.take ys.length) [(.int 0,.int 0)] rfl aKb;have htl:(Z.take ys.length).length<=40:=by rw[jo];lia
  generalize hp1:Q[ys.length]=pq at *;generalize hp2:Q'[o[ys.length]]=fv at *;generalize ((o[ys.length]:ah):ae)=oj at *;generalize hmd:bG [(.int 0,.int 0)] ((Z.take ys.length).map kvI)=md at i1 i2 i3 ⊢;have hput:bG [(.int 0,.int 0)] ((Z.take (ys++[ys.length]).length).map kvI)=putD md (.int pq.1) (.int fv.1):=by rw[htk,oR,hmd]
  refine⟨[one,other,od,.dct md,.int (0+(ys.length:ae))],[one,other,od,.dct (putD md (.int pq.1) (.int fv.1)),.int (0+(ys.length:ae))],rfl,?_,.int (0+(ys.length:ae)),by rw[hput]⟩;generalize (0+(ys.length:ae))=kk at *;exact mX (i:=3) (kvs:=md) (k:=.int pq.1) (d:=.int fv.1) (aH (aH (aH (v1 _ _ _ _) rfl e0') (aH (v2 _ _ _ _) rfl hgo) hgQ') rfl rfl) (aH (aH (aH (v0 _ _ _ _) rfl e0) rfl hgQ) rfl rfl) rfl (by rw[bK];simp only[b9,dS] at i3;lia) (i2 _) rfl) (ρ:=[one,other,od,.dct [(.int 0,.int 0)],.uD]) ⟨_,rfl⟩
 rw[gp,ho,<-hZl,u4] at h1;generalize bG [(.int 0,.int 0)] (Z.map kvI)=md at *;refine(dF rfl).trans (call_v ?_);refine aJ (ρ':=[one,other,od,.dct [(.int 0,.int 0)],.uD]) (dN (i:=3) (aH rfl rfl rfl) rfl) ?_;refine aJ (mW (uO (n:=(o.length:ae)) (aC (aL (xs:=[od]) (aC (v2 _ _ _ _) rfl) ol) rfl) (by lia) (by lia)) (by rw[kh,ho,<-hZl];exact h1)) ?_;rfl
theorem aQ5(w:Wf Q V)(ho:o.length=Q.length):cD 2 bW [bL Q V r,.dct (bG [(.int 0,.int 0)] ((zO Q Q' o).map kvI))]=.ok (cQ Q V r (nfZ (zO Q Q' o))):=by
 have hZ:=aH0 (Q':=Q') ho;have h:=aQ3 (Z:=zO Q Q' o) (by rw[hZ];exact w.nd) (λz=>by have:=w.qp 0 (by rw[<-hZ];exact z);lia);rw[hZ] at h;exact rK (net:=bL Q V r) w rfl rfl rfl (λz=>by cases z) h
theorem aD3{l:aa ae}(h:l.Nodup):l.map (λx=>l.idxOf x)=bn l.length:=by
 refine vb (by simp) λi h1 h2=>?_
 rw[ay] at h1;rw[e7,Bp];have hlt:=sg (fq h1);have e:=se hlt;have p:=ux.mp h;rcases Bq (l.idxOf l[i]) i with q|q|q
 ·exact az e (p _ _ hlt h1 q)
 ·exact q
 ·exact az e.symm (p _ _ h1 hlt q)
theorem aFn{kvs:aa (D×D)}(w:Net kvs Q V)(w':Net kvs Q' V')(hl:Q.length=Q'.length):Al Q V r Q' V' r'↔∃o∈oU Q.length,cQ Q V r (nfZ (zO Q Q' o))=bL Q' V' r':=by
 refine⟨λ⟨ψ,h0,e⟩=>?_,λ⟨o,_,e⟩=>⟨_,rfl,e⟩⟩;have p:=aCz e;have nd':=w'.wf.nd;have ho:((Q.map λc=>ψ c.1).map λx=>(Q'.map (·.1)).idxOf x).length=Q.length:=by simp
 refine⟨(Q.map λc=>ψ c.1).map λx=>(Q'.map (·.1)).idxOf x,R3 _ _ ?_,?_⟩
 ·have q:=p.map λx=>(Q'.map (·.1)).idxOf x
  rw[aD3 nd',ay,<-hl] at q;exact q
 ·rw[<-e];refine DG w λn hn=>?_
  rcases hn with rfl|hn
  ·rw[h0];rfl
  ·have hn0:=w.wf.qp n hn;obtain⟨c,hc,rfl⟩:=ax.mp hn;have hZ:=aH0 (Q':=Q') ho;have hx:ψ c.1∈Q'.map (·.1):=p.mem_iff.mp (ax.mpr ⟨c,hc,rfl⟩);have hlt:=sg hx;have hm:(c.1,ψ c.1)∈zO Q Q' ((Q.map λc=>ψ c.1).map λx=>(Q'.map (·.1)).idxOf x):=by
    unfold zO;obtain⟨i,hi,rfl⟩:=ur hc;refine List.mem_iff_getElem.mpr ⟨i,by simp;lia,?_⟩;rw[List.getElem_zip,e7,e7,e7,e7,cy,cn hlt,se hlt];rfl
   unfold nfZ;rw[aq (by lia)];exact yP (p:=(c.1,ψ c.1)) (by rw[hZ];exact w.wf.nd) hm
end
def aO3:FT:=(bTB (b2 (b8 (.ord .gt)) (aO gC (aD d8 aR)) cV))
def aQr:FS:=(sIf (J5 (bTB (b2 (b8 (.ord .gt)) (aO gC (aD d8 aR)) eU)) (bTB (b2 (b8 (.ord .gt)) (b2 (bY .mod) tY aG2) cV))) (cF ai 13 (b2 getD d8 (b2 (bY .add) eU (b2 (bY .mod) (b2 (bY .fdiv) tY aG2) (b2 (bY .sub) (aO gC (aD d8 aR)) eU)))) ai) (cF ai 9 (b2 (bY .add) z7 eU) ag))
def wnb:FS:=(bH (cF ai 11 (b2 (bY .fdiv) (b2 getD (b2 (bY .add) fD (yS (aD (b2 (bY .mul) fP fP) aR))) (aO (cN .lt) (aD fP (aD (aO gC (aD fD aR)) aR)))) aDy) ag) (bH (cF ai 12 (b2 getD d8 cV) ai) (bH (cF ai 13 (dM (aD cV (aD z7 aR))) ai) (bH aQr (bH (o9 8 (dM (aD (aO (cN .lt) (aD E_ (aD lB aR))) (aD (aO (cN .gt) (aD E_ (aD lB aR))) aR)))) (bH (cF ag 4 (e_ 14 (cX d8 ai) z_ (J5 (bTB (b2 (b8 .ne) u9 E_)) (bTB (b2 (b8 .ne) u9 lB))) u9 ai) ag) (cF ai 10 (b2 (bY .add) fP eU) ag)))))))
theorem R4(xs ys:aa D)(h:xs.length+ys.length<=10000)(h1:θ xs=ag)(h2:θ ys=ag):bY .add (.lst xs) (.lst ys)=.ok (.lst (xs++ys)):=by
 show(if ϒ (xs.length+ys.length<=lim)&&θ xs&&θ ys then ε (υ (xs++ys)) else .bad)=_;rw[h1,h2,bq (by rw[bK];lia)];rfl
theorem aKn(x y:ae):iM .lt (.int x) (.int y)=af (ϒ (x<y)):=rfl
theorem aFo(a b:ae):cN .lt [.int a,.int b]=.ok (.int (if b<a then b else a)):=aPv .lt a b (·<·) aKn
section
variable {nsd x5 x6 x7:D} {sd:ae} {cs:aa ae} {Q:aa Pc}
def nst(nsd:D)(sd:ae)(cs:aa ae)(Q:aa Pc)(x5 x6 x7:D)(L:aa Pt)(T:aa Tie)(n:ae)(a:ae)(x11 x12 x13:D):aa D:=[nsd,.int sd,.lst (cs.map δ),.lst (Q.map pcD),.lst (L.map enP),x5,x6,x7,.lst (T.map bI),.int n,.int a,x11,x12,x13]
theorem aO4(hc:cs.length<=100)(a:ah)(ha:a<=1000):∃c:ae,∀(L:aa Pt)(T:aa Tie)(n:ae)(x11 x12 x13:D),(b2 (bY .fdiv) (b2 getD (b2 (bY .add) fD (yS (aD (b2 (bY .mul) fP fP) aR))) (aO (cN .lt) (aD fP (aD (aO gC (aD fD aR)) aR)))) aDy) (nst nsd sd cs Q x5 x6 x7 L T n a x11 x12 x13)=.ok (.int c):=by
 have f1:=aAl (a:ae) a (G4 _ (by lia) (by lia));have f2:=R4 (cs.map δ) [.int ((a:ae)*a)] (by rw[ay,fx];lia) (dO cs) rfl;have f3:=aFo (a:ae) cs.length;have l1:gC [.lst (cs.map δ)]=.ok (.int cs.length):=by rw[nH,ay]
 have hlen:((cs.map δ)++[δ ((a:ae)*a)]).length=cs.length+1:=by simp
 have h0:0<=(if (cs.length:ae)<a then (cs.length:ae) else a):=by split<;>lia
 have h1:(if (cs.length:ae)<a then (cs.length:ae) else a)<(((cs.map δ)++[δ ((a:ae)*a)]).length:ah):=by rw[hlen];split<;>lia
 generalize (if (cs.length:ae)<a then (cs.length:ae) else a)=ix at *;obtain⟨h,e⟩:=aAk ((cs.map δ)++[δ ((a:ae)*a)]) ix h0 h1;obtain⟨v,hv⟩:∃v:ae,((cs.map δ)++[δ ((a:ae)*a)])[ix.toNat]=.int v:=by
  have hm:=fq h;generalize ((cs.map δ)++[δ ((a:ae)*a)])[ix.toNat]=z at hm;rcases cf.mp hm with hm|hm
  ·obtain⟨v,_,rfl⟩:=ax.mp hm;exact⟨v,rfl⟩
  ·exact⟨_,cw.mp hm⟩
 rw[hv] at e;refine⟨v / 3,λL T n x11 x12 x13=>?_⟩;exact aH (aH (aH rfl (aGo (xs:=[.int ((a:ae)*a)]) (aC (aH rfl rfl f1) rfl) (by rw[bK];simp)) f2) (aL (xs:=[.int a,.int cs.length]) (aC rfl (aC (aL (xs:=[.lst (cs.map δ)]) (aC rfl rfl) l1) rfl)) f3) e) rfl (j0 v 3 (by decide) (by decide))
theorem aQ6{one:Pt}{L':aa Pt}{T:aa Tie}{n a c:ae}(hl:L'.length<=1000):∃(other:Pt)(n':ae),((other=(0,n)/\n'=n+1)\/(other∈L'/\n'=n))/\aQr (nst nsd sd cs Q x5 x6 x7 (one::L') T n a (.int c) (enP one) (enP (0,n)))=.ok (.nx (nst nsd sd cs Q x5 x6 x7 (one::L') T n' a (.int c) (enP one) (enP other))):=by
 have l4:gC [.lst ((one::L').map enP)]=.ok (.int ((L'.length+1:ah):ae)):=by rw[nH,ay];rfl
 have c1:b8 (.ord .gt) (.int ((L'.length+1:ah):ae)) (.int 1)=.ok (.bl (ϒ ((1:ae)<((L'.length+1:ah):ae)))):=rfl;have m5:=j4 c 5 (by decide);have c2:b8 (.ord .gt) (.int (c % 5)) (.int 0)=.ok (.bl (ϒ (0<c % 5))):=rfl;have d5:=j0 c 5 (by decide) (by decide);have s1:=K3 ((L'.length+1:ah):ae) 1;cases h1:ϒ ((1:ae)<((L'.length+1:ah):ae)) with
 |false=>
  rw[h1] at c1;exact⟨_,_,.inl ⟨rfl,rfl⟩,rB (W4 (cJ (aH (aL (xs:=[.lst ((one::L').map enP)]) (aC rfl rfl) l4) rfl c1))) (bN (i:=9) (aH rfl rfl (iD n 1)))⟩
 |true=>
  rw[h1] at c1;have h1:=eh h1;cases h2:ϒ (0<c % 5) with
  |false=>
   rw[h2] at c2;exact⟨_,_,.inl ⟨rfl,rfl⟩,rB (QT (cJ (aH (aL (xs:=[.lst ((one::L').map enP)]) (aC rfl rfl) l4) rfl c1)) (cJ (aH (aH rfl rfl m5) rfl c2))) (bN (i:=9) (aH rfl rfl (iD n 1)))⟩
  |true=>
   rw[h2] at c2;have hp:(0:ae)<((L'.length+1:ah):ae)-1:=by lia
   have mm:=j4 (c / 5) (((L'.length+1:ah):ae)-1) hp;have q0:=lm (c / 5) (show(((L'.length+1:ah):ae)-1)≠0 by lia);have q1:=lq (c / 5) hp;have ad:=iD 1 (c / 5 % (((L'.length+1:ah):ae)-1));generalize c / 5 % (((L'.length+1:ah):ae)-1)=j at *;obtain⟨h,e⟩:=aAk ((one::L').map enP) (1+j) (by lia) (by rw[ay,b9];lia);have hj:j.toNat<L'.length:=by lia
   have ej:(1+j).toNat=j.toNat+1:=by lia
   have e2:((one::L').map enP)[(1+j).toNat]=enP L'[j.toNat]:=by
    have:((one::L').map enP)[(1+j).toNat]?=af (enP L'[j.toNat]):=by
     rw[ej,aT,vk,fu,cn hj];rfl
    exact cr ((cn h).symm.trans this)
   rw[e2] at e;refine⟨L'[j.toNat],n,.inr ⟨fq _,rfl⟩,vW (QT (cJ (aH (aL (xs:=[.lst ((one::L').map enP)]) (aC rfl rfl) l4) rfl c1)) (cJ (aH (aH rfl rfl m5) rfl c2))) ?_⟩;exact mC (i:=13) (aH rfl (aH rfl (aH (aH rfl rfl d5) (aH (aL (xs:=[.lst ((one::L').map enP)]) (aC rfl rfl) l4) rfl s1) mm) ad) e) rfl
theorem aO5{one:Pt}{L':aa Pt}{T:aa Tie}{n:ae}{x11 x12 x13:D}(hc:cs.length<=100)(hl:L'.length<=1000)(hT:T.length<=1000):∃(other:Pt)(n':ae)(y11 y12 y13:D),((other=(0,n)/\n'=n+1)\/(other∈L'/\n'=n))/\
  wnb (nst nsd sd cs Q x5 x6 x7 (one::L') T n T.length x11 x12 x13)=.ok (.nx (nst nsd sd cs Q x5 x6 x7 ((one::L').filter λx=>!ϒ (x=one)&&!ϒ (x=other)) (T++[norm (one,other)]) n' ((T++[norm (one,other)]).length:ah) y11 y12 y13)):=by
 obtain⟨c,hcell⟩:=aO4 (nsd:=nsd) (sd:=sd) (Q:=Q) (x5:=x5) (x6:=x6) (x7:=x7) hc T.length hT;obtain⟨other,n',ho,hsel⟩:=aQ6 (nsd:=nsd) (sd:=sd) (cs:=cs) (Q:=Q) (x5:=x5) (x6:=x6) (x7:=x7) (one:=one) (L':=L') (T:=T) (n:=n) (a:=T.length) (c:=c) hl;have e1:=M7 .lt one other ltP qP;have e2:=M7 .gt one other (λx y=>ltP y x) U3;have g0:getD (.lst ((one::L').map enP)) (.int 0)=.ok (enP one):=tQ ((one::L').map enP) 0 (by simp);refine⟨other,n',.int c,enP one,enP other,ho,?_⟩;refine aJ (ρ':=nst nsd sd cs Q x5 x6 x7 (one::L') T n T.length (.int c) x12 x13) (bN (i:=11) (hcell _ _ _ _ _ _)) ?_;refine aJ (ρ':=nst nsd sd cs Q x5 x6 x7 (one::L') T n T.length (.int c) (enP one) x13) (mC (i:=12) (aH rfl rfl g0) rfl) ?_;refine aJ (ρ':=nst nsd sd cs Q x5 x6 x7 (one::L') T n T.length (.int c) (enP one) (enP (0,n))) (mC (i:=13) (dD (xs:=[.int 0,.int n]) (aC rfl (aC rfl rfl)) zV) rfl) ?_;refine aJ hsel ?_;refine aJ (ρ':=nst nsd sd cs Q x5 x6 x7 (one::L') (T++[norm (one,other)]) n' T.length (.int c) (enP one) (enP other)) ?_ ?_
 ·refine(mY (i:=8) (ρ:=nst nsd sd cs Q x5 x6 x7 (one::L') T n' T.length (.int c) (enP one) (enP other)) (xs:=T.map bI) (d:=bI (norm (one,other))) (dD (xs:=[enP (norm (one,other)).1,enP (norm (one,other)).2]) (aC (aL (xs:=[enP one,enP other]) (aC rfl (aC rfl rfl)) e1) (aC (aL (xs:=[enP one,enP other]) (aC rfl (aC rfl rfl)) e2) rfl)) zV) rfl (by rw[ay,bK];lia) rfl).trans ?_;unfold nst;rw[ce];rfl
 ·have hf:(e_ 14 (cX d8 ai) z_ (J5 (bTB (b2 (b8 .ne) u9 E_)) (bTB (b2 (b8 .ne) u9 lB))) u9 ai) (nst nsd sd cs Q x5 x6 x7 (one::L') (T++[norm (one,other)]) n' T.length (.int c) (enP one) (enP other))=.ok (.lst (((one::L').filter λx=>!ϒ (x=one)&&!ϒ (x=other)).map enP)):=by
   refine iV (kJ rfl rfl) (by rw[ay,b9,bK];lia) ?_;rw[sS _ enP (λx=>!ϒ (x=one)&&!ϒ (x=other)) enP]
   ·rfl
   ·intro acc p;refine lL (ρ:=nst nsd sd cs Q x5 x6 x7 (one::L') (T++[norm (one,other)]) n' T.length (.int c) (enP one) (enP other)) (y:=enP p) rfl ?_ λ_=>⟨rfl,rfl⟩
    have q1:=aBb p one;have q2:=aBb p other;cases h:ϒ (p=one) with
    |true=>
     rw[h] at q1;exact W4 (cJ (aH rfl rfl q1))
    |false=>
     rw[h] at q1;rw[Br,gx];exact QT (cJ (aH rfl rfl q1)) (cJ (aH rfl rfl q2))
  generalize ((one::L').filter λx=>!ϒ (x=one)&&!ϒ (x=other))=R at *;refine aJ (ρ':=nst nsd sd cs Q x5 x6 x7 R (T++[norm (one,other)]) n' T.length (.int c) (enP one) (enP other)) (dN (i:=4) hf (nW R)) ?_;refine(bN (i:=10) (aH rfl rfl (iD (T.length:ae) 1))).trans ?_;have:((T.length:ae)+1)=((T++[norm (one,other)]).length:ah):=by simp
  rw[this];rfl
end
section
variable {kvs:aa (D×D)} {Q:aa Pc}
def rms(n:ah):aa Pt:=(bn n).map λ(k:ah)=>rim (k:ae)
structure Nv(kvs:aa (D×D))(Q:aa Pc)(L:aa Pt)(T:aa Tie)(n:ah):Prop where
 pm:(ends T++L).Perm (hks kvs Q++rms n)
 lt:∀t∈T,ltP t.1 t.2
 pos:∀t∈T,0<t.2.1
 lp:∀p∈L,0<p.1
 len:T.length+L.length<=(hks kvs Q).length
theorem aD4(n:ah):(rms n).Nodup:=cz.mpr (ig.imp λ{a b} h e=>h (by
 have e:(a:ae)=b:=cm lw e;lia))
theorem O5(hn:(hks kvs Q).Nodup)(hp:∀p∈hks kvs Q,0<p.1)(n:ah):(hks kvs Q++rms n).Nodup:=eP.mpr ⟨hn,aD4 n,λa ha b hb e=>by
 obtain⟨k,_,rfl⟩:=ax.mp hb;have:=hp a ha;rw[e] at this;exact az this (jI 0)⟩
theorem tV(T:aa Tie)(a b:Pt):(ends (T++[norm (a,b)])).Perm (ends T++[a,b]):=by
 rw[aBe];refine r_ _ ?_;rcases iZ (a,b) with e|e
 ·rw[e]
 ·rw[e];exact List.Perm.swap _ _ _
theorem aFp{a b:Pt}(hne:a≠b)(ha:0<a.1):0<(norm (a,b)).2.1:=by
 have h:=tU (t:=(a,b)) hne;rcases iZ (a,b) with e|e
 ·rw[e] at h ⊢;have h:a.1<b.1\/a.1=b.1/\a.2<b.2:=h;show 0<b.1;lia
 ·rw[e];exact ha
theorem yQ{α:Type}[fc α]{L:aa α}(hn:L.Nodup){a:α}(ha:a∈L):L.Perm (a::L.filter λx=>!ϒ (x=a)):=by
 have e:(L.filter λx=>!ϒ (x=a))=L.erase a:=by
  rw[Cc hn];refine wj λx _=>?_
  by_cases h:x=a
  ·subst h;simp
  ·simp[h]
 rw[e];exact List.perm_cons_erase ha
theorem Nv.step{one:Pt}{L':aa Pt}{T:aa Tie}{n:ah}{other:Pt}{n':ae}(hn:(hks kvs Q).Nodup)(hp:∀p∈hks kvs Q,0<p.1)(v:Nv kvs Q (one::L') T n)(h:(other=(0,(n:ae))/\n'=n+1)\/(other∈L'/\n'=n)) :
  ∃m:ah,n'=m/\Nv kvs Q ((one::L').filter λx=>!ϒ (x=one)&&!ϒ (x=other)) (T++[norm (one,other)]) m:=by
 have hnd:(ends T++one::L').Nodup:=v.pm.nodup_iff.mpr (O5 hn hp n);have hL:=(eP.mp hnd).2.1;have hL':=cj.mp hL;have h1:=v.lp one (bh ..);have e0:((one::L').filter λx=>!ϒ (x=one)&&!ϒ (x=other))=L'.filter λx=>!ϒ (x=other):=by
  rw[nh,aq (by simp)];refine wj λx hx=>?_
  have:x≠one:=λz=>hL'.1 (z▸hx)
  simp[this]
 rw[e0];have hne:one≠other:=λz=>by
  rcases h with ⟨e,_⟩|⟨e,_⟩
  ·rw[z,e] at h1;exact az h1 (jI 0)
  ·exact hL'.1 (z▸e)
 have hlt:∀t∈T++[norm (one,other)],ltP t.1 t.2:=λt ht=>by
  rcases cf.mp ht with ht|ht
  ·exact v.lt t ht
  ·rw[cw.mp ht];exact tU hne
 have hps:∀t∈T++[norm (one,other)],0<t.2.1:=λt ht=>by
  rcases cf.mp ht with ht|ht
  ·exact v.pos t ht
  ·rw[cw.mp ht];exact aFp hne h1
 have hlp:∀p∈L'.filter (λx=>!ϒ (x=other)),0<p.1:=λp hp=>v.lp p (bf _ (iz.mp hp).1)
 have hlen:(T++[norm (one,other)]).length+(L'.filter λx=>!ϒ (x=other)).length<=(hks kvs Q).length:=by
  have q1:=v.len;have q2:=mT (λx=>!ϒ (x=other)) L';simp only[cb,b9,dS] at q1 ⊢;lia
 rcases h with ⟨e,rfl⟩|⟨e,rfl⟩
 ·refine⟨n+1,by lia,?_,hlt,hps,hlp,hlen⟩;have e1:(L'.filter λx=>!ϒ (x=other))=L':=List.filter_eq_self.mpr λx hx=>by
   have:x≠other:=λz=>by
    have:=v.lp x (bf _ hx);rw[z,e] at this;exact az this (jI 0)
   simp[this]
  rw[e1];refine((tV T one other).append_right L').trans ?_;rw[c_];have r1:rms (n+1)=rms n++[other]:=by
   unfold rms;rw[lu,ce,e];rfl
  rw[r1,<-c_ (hks kvs Q)];refine si ?_ (v.pm.append_right [other]);rw[c_];refine r_ _ (ni _ ?_);exact(wg other L').symm
 ·refine⟨n,rfl,?_,hlt,hps,hlp,hlen⟩;refine((tV T one other).append_right _).trans (si ?_ v.pm);rw[c_];exact r_ _ (ni _ (yQ hL'.2 e).symm)
theorem aO6{nsd x5 x6 x7:D}{sd:ae}{cs:aa ae}(hn:(hks kvs Q).Nodup)(hp:∀p∈hks kvs Q,0<p.1)(hh:(hks kvs Q).length<=60)(hc:cs.length<=100):∀(m:ah)(L:aa Pt)(T:aa Tie)(n:ah)(x11 x12 x13:D),L.length<=m->Nv kvs Q L T n->
  ∃(T':aa Tie)(n':ah)(y11 y12 y13:D),Nv kvs Q [] T' n'/\∀fuel,m<fuel->BZ aO3 wnb fuel (nst nsd sd cs Q x5 x6 x7 L T n T.length x11 x12 x13)=.ok (.nx (nst nsd sd cs Q x5 x6 x7 [] T' n' T'.length y11 y12 y13)):=by
 intro m;induction m with
 |zero=>
  intro L T n x11 x12 x13 hL v;have:L=[]:=oy (by lia);subst this;refine⟨T,n,x11,x12,x13,v,λfuel hf=>?_⟩;obtain⟨k,rfl⟩:∃k,fuel=k+1:=⟨fuel-1,by lia⟩
  exact uH rfl
 |succ m ih=>
  intro L T n x11 x12 x13 hL v;cases L with
  |nil=>
   refine⟨T,n,x11,x12,x13,v,λfuel hf=>?_⟩;obtain⟨k,rfl⟩:∃k,fuel=k+1:=⟨fuel-1,by lia⟩
   exact uH rfl
  |cons one L'=>
   have hl:=v.len;rw[b9] at hl hL;obtain⟨other,n',y11,y12,y13,ho,e⟩:=aO5 (nsd:=nsd) (sd:=sd) (cs:=cs) (Q:=Q) (x5:=x5) (x6:=x6) (x7:=x7) (one:=one) (L':=L') (T:=T) (n:=(n:ae)) (x11:=x11) (x12:=x12) (x13:=x13) hc (by lia) (by lia);obtain⟨n2,rfl,v2⟩:=v.step hn hp ho;have hf:((one::L').filter λx=>!ϒ (x=one)&&!ϒ (x=other)).length<=m:=by
    rw[nh,aq (by simp)];exact c6 (mT _ _) (by lia)
   obtain⟨T',n3,z11,z12,z13,v3,e3⟩:=ih _ _ n2 y11 y12 y13 hf v2;refine⟨T',n3,z11,z12,z13,v3,λfuel hfu=>?_⟩;obtain⟨k,rfl⟩:∃k,fuel=k+1:=⟨fuel-1,by lia⟩
   have ht:aO3 (nst nsd sd cs Q x5 x6 x7 (one::L') T n T.length x11 x12 x13)=.ok ag:=by
    refine cJ (aH (aL (xs:=[.lst ((one::L').map enP)]) (aC rfl rfl) (nH _)) rfl ?_);show ε (ξ (ϒ ((0:ae)<(((one::L').map enP).length:ah))))=_;rw[bq (by rw[ay,b9];lia)]
   exact tG ht e (e3 k (by lia))
theorem Nv.net{T:aa Tie}{n:ah}(hn:(hks kvs Q).Nodup)(hp:∀p∈hks kvs Q,0<p.1)(hh:(hks kvs Q).length<=60)(v:Nv kvs Q [] T n)(qs:Q.Pairwise LtN)(qpos:∀pc∈Q,0<pc.1)(ql:Q.length<=30)(sk:∀pc∈Q,∃v:ah,v<=6/\bA kvs (.str pc.2)=af (.int v)):Net kvs Q (dG T)/\∀t∈dG T,0<t.2.1:=by
 have pm:=v.pm;rw[dy] at pm;have pe:(ends (dG T)).Perm (hks kvs Q++rms n):=(n6 (bO T)).trans pm;refine⟨⟨pe.nodup_iff.mpr (O5 hn hp n),?_,qs,qpos,ql,sk,λt ht=>v.lt t ((bO T).mem_iff.mp ht),fW T,(bn n).map λ(k:ah)=>(k:ae),?_,?_,?_⟩,λt ht=>v.pos t ((bO T).mem_iff.mp ht)⟩
 ·rw[(bO T).length_eq];have:=v.len;lia
 ·exact cz.mpr (ig.imp λ{a b} h e=>h (by lia))
 ·rw[ay,gp]
 ·rw[bu];exact pe
end
def pbd:FS:=(bH (cF ai 6 (b2 (bY .mod) (b2 getD (b2 (bY .add) fD (b2 aOk (yS (aD cV aR)) aG1)) fH) aDy) ag) (bH (o9 3 (dM (aD (b2 (bY .add) fH eU) (aD (b2 getD fL fU) aR)))) (u_ (oW (aD (b2 (bY .add) (b2 (bY .add) gQ eU) (b2 (bY .fdiv) fU FJ)) aR) m_) (tg1 7) (o9 4 (dM (aD (b2 (bY .add) fH eU) (aD jL aR)))))))
noncomputable def kv(n0 n1 n2:Str)(sd:ah):aa (D×D):=[(.str n0,.int sd),(.str n1,.int sd),(.str n2,.int ((sd+1:ah):ae))]
noncomputable def nm3(n0 n1 n2:Str):ah->Str
 |0=>n0
 |1=>n1
 |_=>n2
section
variable {n0 n1 n2:Str} {sd:ah}
theorem yR(h1:n0≠n1)(h2:n0≠n2)(h3:n1≠n2)(j:ah)(hj:j<3):bA (kv n0 n1 n2 sd) (.str (nm3 n0 n1 n2 j))=af (.int ((sd+j / 2:ah):ae)):=by
 have es:∀s t:Str,eqD (.str s) (.str t)=ϒ (s=t):=λs t=>by
  rw[Z0];by_cases h:s=t
  ·subst h;simp
  ·simp[h]
 match j,hj with
 |0,_=>
  show(if eqD (.str n0) (.str n0) then af (δ sd) else _)=_;rw[es,bq rfl];rfl
 |1,_=>
  show(if eqD (.str n0) (.str n1) then af (δ sd) else if eqD (.str n1) (.str n1) then af (δ sd) else _)=_;rw[es,es,bq rfl,bP h1];rfl
 |2,_=>
  show(if eqD (.str n0) (.str n2) then af (δ sd) else if eqD (.str n1) (.str n2) then af (δ sd) else if eqD (.str n2) (.str n2) then af (δ ((sd+1:ah):ae)) else _)=_;rw[es,es,es,bq rfl,bP h2,bP h3];rfl
theorem aKo(j:ah)(hj:j<3):getD (.lst [.str n0,.str n1,.str n2]) (.int j)=.ok (.str (nm3 n0 n1 n2 j)):=by
 match j,hj with
 |0,_=>rfl
 |1,_=>rfl
 |2,_=>rfl
def pst(nsd:D)(sd:ah)(cs:aa ae)(Q:aa Pc)(L:aa Pt)(x5 x6 x7:D):aa D:=[nsd,.int sd,.lst (cs.map δ),.lst (Q.map pcD),.lst (L.map enP),x5,x6,x7,.uD,.uD,.uD,.uD,.uD,.uD]
theorem aKp{nsd x6 x7:D}{cs:aa ae}{Q:aa Pc}{L:aa Pt}{k:ae}(hL:L.length<=1000)(m:ah)(hm:m<=100):∃y7,o_ (tg1 7) (o9 4 (dM (aD (b2 (bY .add) fH eU) (aD jL aR)))) ((bn m).map λ(h:ah)=>δ (0+(h:ae))) (pst nsd sd cs Q L (.int k) x6 x7)=.ok (.nx (pst nsd sd cs Q (L++(bn m).map λ(h:ah)=>((k+1,(h:ae)):Pt)) (.int k) x6 y7)):=by
 obtain⟨ρ,h,y7,rfl⟩:=bU (t:=tg1 7) (body:=o9 4 (dM (aD (b2 (bY .add) fH eU) (aD jL aR)))) (d:=λ(h:ah)=>δ (0+(h:ae))) (I:=λys ρ=>∃y7,ρ=pst nsd sd cs Q (L++ys.map λ(h:ah)=>((k+1,(h:ae)):Pt)) (.int k) x6 y7) (bn m) (λys a zs ρ e ⟨y7,h⟩=>by
  subst h;obtain⟨ea,ha⟩:=j7 e;have hl:(L++ys.map λ(h:ah)=>((k+1,(h:ae)):Pt)).length<=2000:=by rw[cb,ay];lia
  generalize hL2:(L++ys.map λ(h:ah)=>((k+1,(h:ae)):Pt))=L2 at hl ⊢;refine⟨pst nsd sd cs Q L2 (.int k) x6 (.int (0+(a:ae))),pst nsd sd cs Q (L2++[(k+1,(a:ae))]) (.int k) x6 (.int (0+(a:ae))),rfl,?_,.int (0+(a:ae)),?_⟩
  ·rw[show(0+(a:ae))=(a:ae) by lia];refine(mY (i:=4) (ρ:=pst nsd sd cs Q L2 (.int k) x6 (.int (a:ae))) (xs:=L2.map enP) (d:=enP (k+1,(a:ae))) (dD (xs:=[.int (k+1),.int (a:ae)]) (aC (aH rfl rfl (iD k 1)) (aC rfl rfl)) zV) rfl (by rw[ay,bK];lia) rfl).trans ?_;unfold pst;rw[ce];rfl
  ·rw[<-hL2,ce,c_];rfl) (ρ:=pst nsd sd cs Q L (.int k) x6 x7) ⟨x7,by simp⟩
 exact⟨y7,h⟩
theorem aO7{cs:aa ae}{Q:aa Pc}{x5 x6 x7:D}{k:ah}(hk:k<4)(hc:cs.length<=100)(hQ:Q.length<=100)(hs:sd<=3)(h1:n0≠n1)(h2:n0≠n2)(h3:n1≠n2)(hL:(hks (kv n0 n1 n2 sd) Q).length<=1000):∃(j:ah)(y6 y7:D),j<3/\
  pbd (pst (.lst [.str n0,.str n1,.str n2]) sd cs Q (hks (kv n0 n1 n2 sd) Q) (.int (0+(k:ae))) x6 x7)=.ok (.nx (pst (.lst [.str n0,.str n1,.str n2]) sd cs (Q++[(1+(k:ae),nm3 n0 n1 n2 j)]) (hks (kv n0 n1 n2 sd) (Q++[(1+(k:ae),nm3 n0 n1 n2 j)])) (.int (0+(k:ae))) y6 y7)):=by
 have f2:=R4 (cs.map δ) [.int 0,.int 0,.int 0,.int 0] (by rw[ay];simp;lia) (dO cs) rfl;have hlt:k<((cs.map δ)++[δ 0,.int 0,.int 0,.int 0]).length:=by simp;lia
 have g1:=tQ ((cs.map δ)++[δ 0,.int 0,.int 0,.int 0]) k hlt;obtain⟨v,hv⟩:∃v:ae,((cs.map δ)++[δ 0,.int 0,.int 0,.int 0])[k]=.int v:=by
  have hm:=fq hlt;generalize ((cs.map δ)++[δ 0,.int 0,.int 0,.int 0])[k]=z at hm;rcases cf.mp hm with hm|hm
  ·obtain⟨v,_,rfl⟩:=ax.mp hm;exact⟨v,rfl⟩
  ·simp only[bd,ll,or_false,or_self] at hm;exact⟨_,hm⟩
 rw[hv] at g1;have m3:=j4 v 3 (by decide);obtain⟨j,hj,ej⟩:∃j:ah,j<3/\v % 3=j:=⟨(v % 3).toNat,by lia,by lia⟩
 rw[ej] at m3;have gn:=aKo (n0:=n0) (n1:=n1) (n2:=n2) j hj;have lk:=yR (sd:=sd) h1 h2 h3 j hj;have hv:=M8 lk;have d2:=j0 (j:ae) 2 (by decide) (by decide);have ee:((j:ae) / 2)=((j / 2:ah):ae):=by lia
 obtain⟨y7,hin⟩:=aKp (nsd:=.lst [.str n0,.str n1,.str n2]) (sd:=sd) (cs:=cs) (Q:=Q++[(1+(k:ae),nm3 n0 n1 n2 j)]) (L:=hks (kv n0 n1 n2 sd) Q) (k:=0+(k:ae)) (x6:=.int j) (x7:=x7) hL (sd+j / 2+1) (by lia);refine⟨j,.int j,y7,hj,?_⟩;have hk2:hks (kv n0 n1 n2 sd) (Q++[(1+(k:ae),nm3 n0 n1 n2 j)])=hks (kv n0 n1 n2 sd) Q++(bn (sd+j / 2+1)).map λ(h:ah)=>((0+(k:ae)+1,(h:ae)):Pt):=by
  unfold hks;rw[ki,wc]
  congr 1
  unfold aDm;rw[hv];refine cq λh _=>?_
  show(1+(k:ae),(h:ae))=(0+(k:ae)+1,(h:ae));rw[show 1+(k:ae)=0+(k:ae)+1 by lia]
 rw[hk2];generalize hks (kv n0 n1 n2 sd) Q=L at *;generalize nm3 n0 n1 n2 j=nj at *;have a1:=iD (0+(k:ae)) 1;rw[show(0+(k:ae)+1)=1+(k:ae) by lia] at a1;have g1':getD (.lst ((cs.map δ)++[δ 0,.int 0,.int 0,.int 0])) (.int (0+(k:ae)))=.ok (.int v):=by
  rw[show(0+(k:ae))=(k:ae) by lia];exact g1
 have a2:=iD (sd:ae) 1;have a3:=iD ((sd:ae)+1) ((j:ae) / 2);generalize (0+(k:ae))=kk at *;generalize (1+(k:ae))=k1 at *;refine aJ (ρ':=pst (.lst [.str n0,.str n1,.str n2]) sd cs Q L (.int kk) (.int j) x7) (bN (i:=6) (aH (aH (aH rfl (aH (x:=.lst [.int 0]) (aGo (xs:=[.int 0]) (aC rfl rfl) (by rw[bK];simp)) rfl rfl) f2) rfl g1') rfl m3)) ?_;refine aJ (ρ':=pst (.lst [.str n0,.str n1,.str n2]) sd cs (Q++[(k1,nj)]) L (.int kk) (.int j) x7) ?_ ?_
 ·refine(mY (i:=3) (ρ:=pst (.lst [.str n0,.str n1,.str n2]) sd cs Q L (.int kk) (.int j) x7) (xs:=Q.map pcD) (d:=pcD (k1,nj)) (dD (xs:=[.int k1,.str nj]) (aC (aH rfl rfl a1) (aC (aH rfl rfl gn) rfl)) zV) rfl (by rw[ay,bK];lia) rfl).trans ?_;unfold pst;rw[ce];rfl
 ·refine mW (uO (n:=(sd:ae)+1+(j:ae) / 2) (aC (aH (aH rfl rfl a2) (aH rfl rfl d2) a3) rfl) (by lia) (by lia)) ?_;rw[show((sd:ae)+1+(j:ae) / 2).toNat=sd+j / 2+1 by lia];exact hin
end
theorem O6{kvs:aa (D×D)}:∀{Q:aa Pc},(Q.map (·.1)).Nodup->(hks kvs Q).Nodup
 |[],_=>eT
 |c::Q,h=>by
  rw[aT,cj] at h;show(aDm kvs c++hks kvs Q).Nodup;refine eP.mpr ⟨cz.mpr (ig.imp λ{a b} hab e=>hab (by
   have e:(a:ae)=b:=cm lw e;lia)),O6 h.2,λa ha b hb e=>?_⟩
  subst e;obtain⟨k,_,rfl⟩:=ax.mp ha;obtain⟨pc,hpc,e,_⟩:=rH.mp hb;exact h.1 (ax.mpr ⟨pc,hpc,e⟩)
theorem aD5{kvs:aa (D×D)}{m:ah}:∀{Q:aa Pc},(∀pc∈Q,vOf kvs pc.2+1<=m)->(hks kvs Q).length<=Q.length*m
 |[],_=>by simp[hks]
 |c::Q,h=>by
  have ih:=aD5 (Q:=Q) λpc hp=>h pc (bf _ hp)
  have h1:=h c (bh ..);show(aDm kvs c++hks kvs Q).length<=_;rw[cb,b9,Nat.add_mul];unfold aDm;rw[ay,gp];lia
structure Gn(n0 n1 n2:Str)(sd:ah)(Q:aa Pc)(V:aa Tie):Prop where
 net:Net (kv n0 n1 n2 sd) Q V
 pos:∀t∈V,0<t.2.1
 nums:Q.map (·.1)=(bn Q.length).map λ(k:ah)=>(1+(k:ae))
 nms:∀pc∈Q,∃j<3,pc.2=nm3 n0 n1 n2 j
section
variable {n0 n1 n2:Str} {sd:ah}
theorem aO8{cs:aa ae}(hs:sd<=3)(h1:n0≠n1)(h2:n0≠n2)(h3:n1≠n2)(hc:cs.length<=100):∃Q V,Gn n0 n1 n2 sd Q V/\Q.length=1+cs.length % 4/\cD 3 oH [.lst [.str n0,.str n1,.str n2],.int sd,.lst (cs.map δ)]=.ok (bL Q V 0):=by
 have vo:∀j<3,vOf (kv n0 n1 n2 sd) (nm3 n0 n1 n2 j)=sd+j / 2:=λj hj=>M8 (yR h1 h2 h3 j hj)
 have hkl:∀{Q:aa Pc},(∀pc∈Q,∃j<3,pc.2=nm3 n0 n1 n2 j)->(hks (kv n0 n1 n2 sd) Q).length<=Q.length*5:=λh=>aD5 λpc hp=>by
  obtain⟨j,hj,e⟩:=h pc hp;rw[e,vo j hj];lia
 obtain⟨ρ,e1,Q,x5,x6,x7,hQl,hnum,hnm,rfl⟩:=bU (t:=tg1 5) (body:=pbd) (d:=λ(k:ah)=>δ (0+(k:ae))) (I:=λys ρ=>∃(Q:aa Pc)(x5 x6 x7:D),Q.length=ys.length/\Q.map (·.1)=(bn Q.length).map (λ(k:ah)=>(1+(k:ae)))/\(∀pc∈Q,∃j<3,pc.2=nm3 n0 n1 n2 j)/\ρ=pst (.lst [.str n0,.str n1,.str n2]) sd cs Q (hks (kv n0 n1 n2 sd) Q) x5 x6 x7) (bn (1+cs.length % 4)) (λys k zs ρ e ⟨Q,x5,x6,x7,hl,hnum,hnm,h⟩=>by
  subst h;obtain⟨ek,hk⟩:=j7 e;have hlen:=hkl hnm;obtain⟨j,y6,y7,hj,e2⟩:=aO7 (x5:=x5) (x6:=x6) (x7:=x7) (cs:=cs) (Q:=Q) (k:=k) (by lia) hc (by lia) hs h1 h2 h3 (by lia);refine⟨pst (.lst [.str n0,.str n1,.str n2]) sd cs Q (hks (kv n0 n1 n2 sd) Q) (.int (0+(k:ae))) x6 x7,_,rfl,e2,_,_,_,_,by simp[hl],?_,?_,rfl⟩
  ·rw[ce,hnum,cb,fx,lu,ce];show _++[1+(k:ae)]=_++[1+(Q.length:ae)];rw[ek,hl]
  ·intro pc hp;rcases cf.mp hp with hp|hp
   ·exact hnm pc hp
   ·rw[cw.mp hp];exact⟨j,hj,rfl⟩) (ρ:=pst (.lst [.str n0,.str n1,.str n2]) sd cs [] [] .uD .uD .uD) ⟨[],_,_,_,rfl,rfl,(λ_ h=>by cases h),rfl⟩
 rw[gp] at hQl;have hnd:(Q.map (·.1)).Nodup:=by
  rw[hnum];exact cz.mpr (ig.imp λ{a b} h e=>h (by lia))
 have hpos:∀pc∈Q,0<pc.1:=λpc hp=>by
  have:pc.1∈Q.map (·.1):=ax.mpr ⟨pc,hp,rfl⟩;rw[hnum] at this;obtain⟨k,_,e⟩:=ax.mp this;lia
 have hn:=O6 (kvs:=kv n0 n1 n2 sd) hnd;have hp:∀p∈hks (kv n0 n1 n2 sd) Q,0<p.1:=λp hp=>by
  obtain⟨pc,hpc,e,_⟩:=rH.mp hp;rw[<-e];exact hpos pc hpc
 have hlen:=hkl hnm;have v0:Nv (kv n0 n1 n2 sd) Q (hks (kv n0 n1 n2 sd) Q) [] 0:=⟨by show([]++hks (kv n0 n1 n2 sd) Q).Perm (hks (kv n0 n1 n2 sd) Q++[]);rw[dy,dQ],λ_ h=>by (cases h),λ_ h=>by (cases h),hp,by simp⟩
 obtain⟨T,n,y11,y12,y13,v,e2⟩:=aO6 (nsd:=.lst [.str n0,.str n1,.str n2]) (x5:=x5) (x6:=x6) (x7:=x7) (sd:=(sd:ae)) (cs:=cs) hn hp (by lia) hc 100 _ [] 0 .uD .uD .uD (by lia) v0;have hqs:Q.Pairwise LtN:=by
  have:(Q.map (·.1)).Pairwise (·<·):=by
   rw[hnum];exact cz.mpr (List.pairwise_lt_range.imp λ{a b} h=>by lia)
  have q:Q.Pairwise λa b=>a.1<b.1:=cz.mp this
  exact q
 obtain⟨w,wp⟩:=v.net hn hp (by lia) hqs hpos (by lia) λpc hpc=>by
  obtain⟨j,hj,e⟩:=hnm pc hpc;exact⟨sd+j / 2,by lia,by rw[e];exact yR h1 h2 h3 j hj⟩
 refine⟨Q,dG T,⟨w,wp,hnum,hnm⟩,hQl,(dF rfl).trans (call_v ?_)⟩;have lc:gC [.lst (cs.map δ)]=.ok (.int cs.length):=by rw[nH,ay]
 have m4:=j4 (cs.length:ae) 4 (by decide);have a1:=iD 1 ((cs.length:ae) % 4);have em:(1+(cs.length:ae) % 4).toNat=1+cs.length % 4:=by lia
 have hT:T.length<64:=by
  have:=v.len;rw[dS] at this;lia
 have srt:=tE T hT;have hqp:=nY Q;generalize hnsd:υ [.str n0,.str n1,.str n2]=nsd at *;generalize hks (kv n0 n1 n2 sd) Q=L at *;refine aJ (ρ':=[nsd,.int sd,.lst (cs.map δ),.lst [],.uD,.uD,.uD,.uD,.uD,.uD,.uD,.uD,.uD,.uD]) (dN (i:=3) rfl rfl) ?_;refine aJ (ρ':=pst nsd sd cs [] [] .uD .uD .uD) (dN (i:=4) rfl rfl) ?_;refine aJ (mW (uO (n:=1+(cs.length:ae) % 4) (aC (aH rfl (aH (aL (xs:=[.lst (cs.map δ)]) (aC rfl rfl) lc) rfl m4) a1) rfl) (by lia) (by lia)) (by rw[em];exact e1)) ?_;refine aJ (ρ':=[nsd,.int sd,.lst (cs.map δ),.lst (Q.map pcD),.lst (L.map enP),x5,x6,x7,.lst [],.uD,.uD,.uD,.uD,.uD]) (dN (i:=8) rfl rfl) ?_;refine aJ (ρ':=[nsd,.int sd,.lst (cs.map δ),.lst (Q.map pcD),.lst (L.map enP),x5,x6,x7,.lst [],.int 0,.uD,.uD,.uD,.uD]) (bN (i:=9) rfl) ?_;refine aJ (ρ':=nst nsd sd cs Q x5 x6 x7 L [] ((0:ah):ae) (([]:aa Tie).length:ah) .uD .uD .uD) (bN (i:=10) rfl) ?_;refine aJ (e2 1000 (by lia)) ?_;refine fG (d:=bL Q (dG T) 0) (dD (xs:=[.tup (Q.map pcD),.tup ((dG T).map bI),.int 0]) (aC (aL (xs:=[.lst (Q.map pcD)]) (aC rfl rfl) rfl) (aC (aL (xs:=[.lst ((dG T).map bI)]) (aC (aL (xs:=[.lst (T.map bI)]) (aC rfl rfl) srt) rfl) rfl) (aC rfl rfl))) aKa) ?_;rw[kZ];rfl
end
theorem DK{α:Type}(g:aa D->D->Res (aa D))(d:α->D)(p:α->ap)(y:α->D):∀(xs:aa α)(acc:aa D),(∀acc,∀a∈xs,g acc (d a)=.ok (if p a then acc++[y a] else acc))->lZ g acc (xs.map d)=.ok (acc++(xs.filter p).map y)
 |[],acc,_=>by simp[lZ]
 |x::xs,acc,h=>by
  rw[aT,lZ,h acc x (bh ..)];show lZ g _ _=_;rw[DK g d p y xs _ λacc a ha=>h acc a (bf _ ha),nh];by_cases hp:p x
  ·simp[hp]
  ·simp[hp]
theorem V5{f:FE}{t:D->aa D->Res (aa D)}{ρ ρ':aa D}{d:D}(h1:f ρ=.ok d)(hp:d.pure=ag)(h2:t d ρ=.ok ρ'):aIh f t ρ=.ok (.nx ρ'):=by
 unfold aIh;rw[h1,τ];simp only[hp,h2,cx,τ]
theorem aD6{a:FA}{ρ xs:aa D}(h:a ρ=.ok xs)(hl:xs.length<=lim)(hp:θ xs=ag):oX a ρ=.ok (.lst xs):=by
 unfold oX;rw[h,τ,ar (by rw[hp,ie];simpa using hl)];rfl
theorem aD7(a b:ae):b8 .ne (.int a) (.int b)=.ok (.bl (!ϒ (a=b))):=by
 show(if (δ a).eO aM&&(δ b).eO aM then ε (ξ (!eqD (.int a) (.int b))) else .bad)=_;rw[dI];rfl
theorem YC(V:aa Tie)(t0:Tie):(bn V.length).map (λk=>V.getD k t0)=V:=by
 refine vb (by simp) λi h1 h2=>?_
 rw[e7,Bp,cy,cn h2];rfl
noncomputable def t00:Tie:=((0,0),(0,0))
def rst(V:aa Tie)(a b:ah):aa Tie:=((bn V.length).filter λk=>!ϒ (k=a)&&!ϒ (k=b)).map λk=>V.getD k t00
theorem aFq{V:aa Tie}{a b:ah}(ha:a<V.length)(hb:b<V.length)(hab:a≠b):V.Perm (V.getD a t00::V.getD b t00::rst V a b):=by
 have p1:=yQ (ig (n:=V.length)) (df.mpr ha);have n1:((bn V.length).filter λx=>!ϒ (x=a)).Nodup:=Cd _ ig;have p2:=yQ n1 (a:=b) (iz.mpr ⟨df.mpr hb,by simp;lia⟩);rw[List.filter_filter] at p2;have e:((bn V.length).filter λx=>!ϒ (x=b)&&!ϒ (x=a))=(bn V.length).filter λk=>!ϒ (k=a)&&!ϒ (k=b):=wj λx _=>Bool.and_comm _ _
 rw[e] at p2;have p3:=(p1.trans (p2.cons a)).map λk=>V.getD k t00
 rw[YC] at p3;exact p3
def tst(V:aa Tie)(c:ae)(x2 x3 x4 x5 x6 x7 x8 x9:D):aa D:=[.tup (V.map bI),.int c,x2,x3,x4,x5,x6,x7,x8,x9]
theorem R5{V:aa Tie}{k:ah}(hk:k<V.length):getD (.tup (V.map bI)) (.int (0+(k:ae)))=.ok (bI (V.getD k t00)):=by
 rw[yE _ _ (by rw[ay];exact hk),e7,cy,cn hk];rfl
theorem aO9{V:aa Tie}{c:ae}{a b:ah}{x4 x5 x6 x7 x8 x9:D}(hl:V.length<=1000):(e_ 10 (oW (aD (aO gC (aD fL aR)) aR) m_) z_ (J5 (bTB (b2 (b8 .ne) fP fD)) (bTB (b2 (b8 .ne) fP gB))) (b2 getD fL fP) ai) (tst V c (.int a) (.int b) x4 x5 x6 x7 x8 x9)=.ok (.lst ((rst V a b).map bI)):=by
 have l0:gC [.tup (V.map bI)]=.ok (.int V.length):=by
  show ε (δ ((V.map bI).length:ae))=_;rw[ay]
 refine iV (uO (n:=(V.length:ae)) (aC (aL (xs:=[.tup (V.map bI)]) (aC rfl rfl) l0) rfl) (by lia) (by lia)) (by rw[ay,gp,bK];lia) ?_;rw[kh,DK _ (λ(k:ah)=>δ (0+(k:ae))) (λk=>!ϒ (k=a)&&!ϒ (k=b)) (λk=>bI (V.getD k t00))]
 ·unfold rst;rw[bu];rfl
 ·intro acc k hk;have g:=R5 (df.mp hk);refine lL (ρ:=tst V c (.int a) (.int b) x4 x5 x6 x7 x8 x9) (y:=bI (V.getD k t00)) rfl ?_ λ_=>⟨aH rfl rfl g,rfl⟩
  have q1:=aD7 (0+(k:ae)) a;have q2:=aD7 (0+(k:ae)) b;rw[show ϒ (0+(k:ae)=a)=ϒ (k=a) from rS.mpr (by lia)] at q1;rw[show ϒ (0+(k:ae)=b)=ϒ (k=b) from rS.mpr (by lia)] at q2;cases h:ϒ (k=a) with
  |true=>
   rw[h] at q1;exact W4 (cJ (aH rfl rfl q1))
  |false=>
   rw[h] at q1;rw[Br,gx];exact QT (cJ (aH rfl rfl q1)) (cJ (aH rfl rfl q2))
theorem aOa{V:aa Tie}{c:ae}{x2 x3 x4 x5 x6 x7 x8:D}(p1 p2:Tie):(e_ 10 (cX z7 ai) z_ gR (dM (aD (aO (cN .lt) (aD fP aR)) (aD (aO (cN .gt) (aD fP aR)) aR))) ai) (tst V c x2 x3 x4 x5 x6 x7 x8 (.lst [bI p1,bI p2]))=.ok (.lst [bI (norm p1),bI (norm p2)]):=by
 refine iV (kJ rfl rfl) (by rw[bK];simp) ?_;have h:=iK (qX 10 z_ gR (dM (aD (aO (cN .lt) (aD fP aR)) (aD (aO (cN .gt) (aD fP aR)) aR))) ai (tst V c x2 x3 x4 x5 x6 x7 x8 (.lst [bI p1,bI p2]))) bI (λt=>bI (norm t)) [p1,p2] [] λacc t _=>by
  have e1:cN .lt [bI t]=.ok (enP (norm t).1):=M7 .lt t.1 t.2 ltP qP;have e2:cN .gt [bI t]=.ok (enP (norm t).2):=M7 .gt t.1 t.2 (λx y=>ltP y x) U3;exact lL (x:=bI t) (b:=ag) (y:=bI (norm t)) rfl rfl λ_=>⟨dD (xs:=[enP (norm t).1,enP (norm t).2]) (aC (aL (xs:=[bI t]) (aC rfl rfl) e1) (aC (aL (xs:=[bI t]) (aC rfl rfl) e2) rfl)) zV,rfl⟩
 exact h
theorem YD{V R:aa Tie}{t u p1 p2:Tie}(hn:(ends V).Nodup)(hlt:∀x∈V,ltP x.1 x.2)(hp:V.Perm (t::u::R))(h12:(p1=(t.1,u.1)/\p2=(t.2,u.2))\/(p1=(t.1,u.2)/\p2=(u.1,t.2))) :
  (ends (R++[norm p1,norm p2])).Perm (ends V)/\(∀x∈R++[norm p1,norm p2],ltP x.1 x.2):=by
 have pe:(ends V).Perm ([t.1,t.2,u.1,u.2]++ends R):=n6 hp;have nd:([t.1,t.2,u.1,u.2]++ends R).Nodup:=pe.nodup_iff.mp hn;have nd4:=(eP.mp nd).1;simp only[cj,bd,ll,or_false,fy,eT,and_true,not_false_eq_true] at nd4;obtain⟨⟨a1,a2,a3⟩,⟨a4,a5⟩,a6⟩:=nd4;have e4:(ends (R++[norm p1,norm p2])).Perm (ends R++[p1.1,p1.2,p2.1,p2.2]):=by
  rw[show R++[norm p1,norm p2]=(R++[norm p1])++[norm p2] by simp];refine(tV (R++[norm p1]) p2.1 p2.2).trans (((tV R p1.1 p1.2).append_right _).trans ?_);rw[c_];exact .refl _
 have hne:p1.1≠p1.2/\p2.1≠p2.2:=by
  rcases h12 with ⟨rfl,rfl⟩|⟨rfl,rfl⟩
  ·exact⟨a2,a5⟩
  ·exact⟨a3,λz=>a4 z.symm⟩
 refine⟨e4.trans ?_,λx hx=>?_⟩
 ·refine si (rj.trans ?_) pe.symm;refine Bj _ ?_;rcases h12 with ⟨rfl,rfl⟩|⟨rfl,rfl⟩
  ·exact ni _ (List.Perm.swap _ _ _)
  ·refine ni _ ?_;show[u.2,u.1,t.2].Perm [t.2,u.1,u.2];exact((List.Perm.swap t.2 u.1 []).cons u.2).trans (rj (l₁:=[u.2]) (l₂:=[t.2,u.1]))
 ·rcases cf.mp hx with hx|hx
  ·exact hlt x (hp.mem_iff.mpr (bf _ (bf _ hx)))
  ·rcases bd.mp hx with rfl|hx
   ·exact tU hne.1
   ·rw[cw.mp hx];exact tU hne.2
theorem YF{V:aa Tie}(c:ae)(hl:V.length<=60)(hn:(ends V).Nodup)(hlt:∀t∈V,ltP t.1 t.2)(hs:V.Pairwise LeT):∃V',cD 2 fJ [.tup (V.map bI),.int c]=.ok (.tup (V'.map bI))/\(ends V').Perm (ends V)/\(∀t∈V',ltP t.1 t.2)/\V'.Pairwise LeT:=by
 have l0:gC [.tup (V.map bI)]=.ok (.int V.length):=by
  show ε (δ ((V.map bI).length:ae))=_;rw[ay]
 have c0:b8 (.ord .lt) (.int V.length) (.int 2)=.ok (.bl (ϒ ((V.length:ae)<2))):=rfl;by_cases h2:V.length<2
 ·rw[bq (by lia)] at c0;refine⟨V,(dF rfl).trans (call_v ?_),.refl _,hlt,hs⟩;refine qR (vW (cJ (aH (aL (xs:=[.tup (V.map bI)]) (aC rfl rfl) l0) rfl c0)) (fG rfl ?_));show θ (V.map bI)=ag;exact iW V
 ·rw[bP (by lia)] at c0;have s1:=K3 (V.length:ae) 1;have m1:=j4 c ((V.length:ae)-1) (by lia);have q0:=lm c (show((V.length:ae)-1)≠0 by lia);have q1:=lq c (show(0:ae)<(V.length:ae)-1 by lia);obtain⟨a,ha⟩:∃a:ah,c % ((V.length:ae)-1)=a:=⟨(c % ((V.length:ae)-1)).toNat,by lia⟩
  rw[ha] at m1 q0 q1;have d7:=j0 c 7 (by decide) (by decide);have s2:=K3 ((V.length:ae)-1) a;have m2:=j4 (c / 7) ((V.length:ae)-1-a) (by lia);have r0:=lm (c / 7) (show((V.length:ae)-1-a)≠0 by lia);have r1:=lq (c / 7) (show(0:ae)<(V.length:ae)-1-a by lia);have a1:=iD (a:ae) 1;have a2:=iD ((a:ae)+1) (c / 7 % ((V.length:ae)-1-a));obtain⟨b,hb⟩:∃b:ah,(a:ae)+1+c / 7 % ((V.length:ae)-1-a)=b:=⟨((a:ae)+1+c / 7 % ((V.length:ae)-1-a)).toNat,by lia⟩
  rw[hb] at a2;have hbl:b<V.length:=by lia
  have hab:a≠b:=by lia
  have ga:=R5 (V:=V) (k:=a) (by lia);have gb:=R5 (V:=V) (k:=b) hbl;rw[show(0+(a:ae))=a by lia] at ga;rw[show(0+(b:ae))=b by lia] at gb;have hp:=aFq (V:=V) (a:=a) (b:=b) (by lia) hbl hab;have hrl:(rst V a b).length+2=V.length:=by
   have:=hp.length_eq;simp only[b9] at this;lia
  have hrest:∀x4 x5 x6 x7 x8 x9,_:=λx4 x5 x6 x7 x8 x9=>aO9 (V:=V) (c:=c) (a:=a) (b:=b) (x4:=x4) (x5:=x5) (x6:=x6) (x7:=x7) (x8:=x8) (x9:=x9) (by lia)
  generalize V.getD a t00=t at *;generalize V.getD b t00=u at *;generalize rst V a b=R at *;have d5:=j0 c 5 (by decide) (by decide);have m5:=j4 (c / 5) 2 (by decide);have c5:b8 .eq (.int (c / 5 % 2)) (.int 1)=.ok (.bl (c / 5 % 2==1)):=rfl;obtain⟨p1,p2,h12,hsel⟩:∃p1 p2:Tie,((p1=(t.1,u.1)/\p2=(t.2,u.2))\/(p1=(t.1,u.2)/\p2=(u.1,t.2)))/\(sIf (bTB (b2 (b8 .eq) (b2 (bY .mod) (b2 (bY .fdiv) gQ aG2) FJ) eU)) (cF ai 9 (oX (aD (dM (aD d8 (aD jL aR))) (aD (dM (aD fU (aD fH aR))) aR))) ag) jH) (tst V c (.int a) (.int b) (enP t.1) (enP t.2) (enP u.1) (enP u.2) (.lst (R.map bI)) (.lst [bI (t.1,u.1),bI (t.2,u.2)]))=.ok (.nx (tst V c (.int a) (.int b) (enP t.1) (enP t.2) (enP u.1) (enP u.2) (.lst (R.map bI)) (.lst [bI p1,bI p2]))):=by
   cases h:(c / 5 % 2==1) with
   |false=>
    rw[h] at c5;exact⟨_,_,.inl ⟨rfl,rfl⟩,rB (cJ (aH (aH (aH rfl rfl d5) rfl m5) rfl c5)) rfl⟩
   |true=>
    rw[h] at c5;exact⟨_,_,.inr ⟨rfl,rfl⟩,vW (cJ (aH (aH (aH rfl rfl d5) rfl m5) rfl c5)) (bN (i:=9) (aD6 (xs:=[bI (t.1,u.2),bI (u.1,t.2)]) (aC (dD (xs:=[enP t.1,enP u.2]) (aC rfl (aC rfl rfl)) zV) (aC (dD (xs:=[enP u.1,enP t.2]) (aC rfl (aC rfl rfl)) zV) rfl)) (by rw[bK];simp) rfl))⟩
  obtain⟨w1,w2⟩:=YD hn hlt hp h12;have hW:(R++[norm p1,norm p2]).length<64:=by simp;lia
  have srt:=tE (R++[norm p1,norm p2]) hW;refine⟨dG (R++[norm p1,norm p2]),(dF rfl).trans (call_v ?_),(n6 (bO _)).trans w1,λx hx=>w2 x ((bO _).mem_iff.mp hx),fW _⟩;refine aJ (ρ':=tst V c .uD .uD .uD .uD .uD .uD .uD .uD) (rB (cJ (aH (aL (xs:=[.tup (V.map bI)]) (aC rfl rfl) l0) rfl c0)) rfl) ?_;refine aJ (ρ':=tst V c (.int a) .uD .uD .uD .uD .uD .uD .uD) (bN (i:=2) (aH rfl (aH (aL (xs:=[.tup (V.map bI)]) (aC rfl rfl) l0) rfl s1) m1)) ?_;refine aJ (ρ':=tst V c (.int a) (.int b) .uD .uD .uD .uD .uD .uD) (bN (i:=3) (aH (aH rfl rfl a1) (aH (aH rfl rfl d7) (aH (aH (aL (xs:=[.tup (V.map bI)]) (aC rfl rfl) l0) rfl s1) rfl s2) m2) a2)) ?_;refine aJ (ρ':=tst V c (.int a) (.int b) (enP t.1) (enP t.2) .uD .uD .uD .uD) (V5 (d:=bI t) (aH rfl rfl ga) rfl rfl) ?_;refine aJ (ρ':=tst V c (.int a) (.int b) (enP t.1) (enP t.2) (enP u.1) (enP u.2) .uD .uD) (V5 (d:=bI u) (aH rfl rfl gb) rfl rfl) ?_;refine aJ (ρ':=tst V c (.int a) (.int b) (enP t.1) (enP t.2) (enP u.1) (enP u.2) (.lst (R.map bI)) .uD) (bN (i:=8) (hrest _ _ _ _ _ _)) ?_;refine aJ (ρ':=tst V c (.int a) (.int b) (enP t.1) (enP t.2) (enP u.1) (enP u.2) (.lst (R.map bI)) (.lst [bI (t.1,u.1),bI (t.2,u.2)])) (bN (i:=9) (aD6 (xs:=[bI (t.1,u.1),bI (t.2,u.2)]) (aC (dD (xs:=[enP t.1,enP u.1]) (aC rfl (aC rfl rfl)) zV) (aC (dD (xs:=[enP t.2,enP u.2]) (aC rfl (aC rfl rfl)) zV) rfl)) (by rw[bK];simp) rfl)) ?_;refine aJ hsel ?_;have ad:=R4 (R.map bI) [bI (norm p1),bI (norm p2)] (by rw[ay];simp;lia) (iW R) rfl;have er:R.map bI++[bI (norm p1),bI (norm p2)]=(R++[norm p1,norm p2]).map bI:=by rw[ce];rfl
  rw[er] at ad;refine fG (d:=.tup ((dG (R++[norm p1,norm p2])).map bI)) (aL (xs:=[.lst ((dG (R++[norm p1,norm p2])).map bI)]) (aC (aL (xs:=[.lst ((R++[norm p1,norm p2]).map bI)]) (aC (aH rfl (aOa p1 p2) ad) rfl) srt) rfl) rfl) ?_;show θ ((dG (R++[norm p1,norm p2])).map bI)=ag;exact iW _
section
variable {kvs:aa (D×D)} {Q:aa Pc} {V:aa Tie}
theorem aKq{A B:aa Pc}{n:ae}{nm nm':Str}{v:ah}(w:Net kvs (A++(n,nm)::B) V)(h1:bA kvs (.str nm)=af (.int v))(h2:bA kvs (.str nm')=af (.int v))(hv:v<=6):Net kvs (A++(n,nm')::B) V:=by
 have e:(A++(n,nm')::B).map (·.1)=(A++(n,nm)::B).map (·.1):=by simp
 have hq:((A++(n,nm)::B).map (·.1)).Pairwise (·<·):=cz.mpr w.qs;have hk:hks kvs (A++(n,nm')::B)=hks kvs (A++(n,nm)::B):=by
  unfold hks;rw[ki,ki,fS,fS];have:aDm kvs (n,nm')=aDm kvs (n,nm):=by
   unfold aDm;rw[M8 h1,M8 h2]
  rw[this]
 refine⟨w.nd,w.small,?_,λpc hp=>?_,?_,λpc hp=>?_,w.lt,w.srt,?_⟩
 ·rw[<-e] at hq;have q:(A++(n,nm')::B).Pairwise λa b=>a.1<b.1:=cz.mp hq
  exact q
 ·have:pc.1∈(A++(n,nm)::B).map (·.1):=by rw[<-e];exact ax.mpr ⟨pc,hp,rfl⟩
  obtain⟨q,hq,e⟩:=ax.mp this;rw[<-e];exact w.qpos q hq
 ·have:=w.ql;simpa using this
 ·rcases cf.mp hp with hp|hp
  ·exact w.sk pc (dq _ hp)
  ·rcases bd.mp hp with rfl|hp
   ·exact⟨v,hv,h2⟩
   ·exact w.sk pc (dP _ (bf _ hp))
 ·rw[hk];exact w.rims
theorem aOb{V':aa Tie}(w:Net kvs Q V)(pe:(ends V').Perm (ends V))(lt:∀t∈V',ltP t.1 t.2)(srt:V'.Pairwise LeT):Net kvs Q V':=by
 obtain⟨S,s1,s2,s3⟩:=w.rims;refine⟨pe.nodup_iff.mpr w.nd,?_,w.qs,w.qpos,w.ql,w.sk,lt,srt,S,s1,s2,pe.trans s3⟩;have h:=pe.length_eq;rw[U5,U5] at h;have:=w.small;lia
noncomputable def DN(p:Pt):Pt:=if p=(0,0) then (0,1) else if p=(0,1) then (0,0) else p
theorem V6{p:Pt}(h:0<p.1):DN p=p:=by
 unfold DN;rw[aq λz=>by rw[z] at h;exact az h (jI 0),aq λz=>by rw[z] at h;exact az h (jI 0)]
theorem aFr{p q:Pt}(h:DN p=DN q):p=q:=by
 unfold DN at h;by_cases a:p=(0,0)
 ·by_cases b:q=(0,0)
  ·rw[a,b]
  ·rw[ar a,aq b] at h;by_cases c:q=(0,1)
   ·rw[ar c] at h;exact az h (by decide)
   ·rw[aq c] at h;exact az h.symm c
 ·rw[aq a] at h;by_cases a2:p=(0,1)
  ·rw[ar a2] at h;by_cases b:q=(0,0)
   ·rw[ar b] at h;exact az h (by decide)
   ·rw[aq b] at h;by_cases c:q=(0,1)
    ·rw[a2,c]
    ·rw[aq c] at h;exact az h.symm b
  ·rw[aq a2] at h;by_cases b:q=(0,0)
   ·rw[ar b] at h;exact az h a2
   ·rw[aq b] at h;by_cases c:q=(0,1)
    ·rw[ar c] at h;exact az h a
    ·rw[aq c] at h;exact h
def mvT(t:Tie):Tie:=(DN t.1,t.2)
theorem aD8:∀{V:aa Tie},(∀t∈V,0<t.2.1)->ends (V.map mvT)=(ends V).map DN
 |[],_=>rfl
 |t::V,hp=>by
  show DN t.1::t.2::ends (V.map mvT)=DN t.1::DN t.2::(ends V).map DN;rw[aD8 λu hu=>hp u (bf _ hu),V6 (hp t (bh ..))]
theorem oA{α β:Type}{f:α->β}(hf:∀x y,f x=f y->x=y){l:aa α}(h:l.Nodup):(l.map f).Nodup:=cz.mpr (h.imp λ{a b} hab e=>hab (hf a b e))
noncomputable def s01(x:ae):ae:=if x=0 then 1 else if x=1 then 0 else x
theorem aD9(x y:ae)(h:s01 x=s01 y):x=y:=by
 unfold s01 at h
 repeat' split at h
 all_goals lia
theorem aFs(x:ae):DN (rim x)=rim (s01 x):=by
 unfold DN s01 rim;by_cases a:x=0
 ·subst a;rfl
 ·rw[aq λz=>a (cm lw z),aq a];by_cases b:x=1
  ·subst b;rfl
  ·rw[aq λz=>b (cm lw z),aq b]
theorem aDa{m:ah}(h:2<=m):(((bn m).map λ(k:ah)=>(k:ae)).map s01).Perm ((bn m).map λ(k:ah)=>(k:ae)):=by
 have n1:((bn m).map λ(k:ah)=>(k:ae)).Nodup:=oA (λx y e=>by lia) ig;refine(rV (oA aD9 n1) n1).mpr λx=>?_
 constructor
 ·intro hx;obtain⟨y,hy,rfl⟩:=ax.mp hx;obtain⟨a,ha,rfl⟩:=ax.mp hy;have ha:=df.mp ha;unfold s01;by_cases q:(a:ae)=0
  ·exact ax.mpr ⟨1,df.mpr (by lia),by rw[ar q];rfl⟩
  ·rw[aq q];by_cases q2:(a:ae)=1
   ·exact ax.mpr ⟨0,df.mpr (by lia),by rw[ar q2];rfl⟩
   ·exact ax.mpr ⟨a,df.mpr ha,by rw[aq q2]⟩
 ·intro hx;obtain⟨a,ha,rfl⟩:=ax.mp hx;have ha:=df.mp ha;have key:∀b:ah,b<m->s01 b=a->(a:ae)∈((bn m).map λ(k:ah)=>(k:ae)).map s01:=λb hb e=>ax.mpr ⟨b,ax.mpr ⟨b,df.mpr hb,rfl⟩,e⟩
  by_cases q:a=0
  ·exact key 1 (by lia) (by subst q;rfl)
  ·by_cases q2:a=1
   ·exact key 0 (by lia) (by subst q2;rfl)
   ·exact key a ha (by unfold s01;rw[aq (by lia),aq (by lia)])
theorem R6{α:Type}{a:α}:∀{l:aa α},l.Nodup->(∀x∈l,x=a)->l.length<=1
 |[],_,_=>by simp
 |[_],_,_=>by simp
 |x::y::l,h,e=>by
  have h1:=e x (bh ..);have h2:=e y (bf _ (bh ..));rw[cj] at h;exact az (show x∈y::l by rw[h1,<-h2];exact bh ..) h.1
theorem uZ:∀{V:aa Tie},(ends V).Nodup->(V.map (·.1)).Nodup
 |[],_=>eT
 |t::V,h=>by
  have h:(t.1::t.2::ends V).Nodup:=h;rw[cj] at h;rw[aT,cj];refine⟨λz=>h.1 ?_,uZ (cj.mp h.2).2⟩;obtain⟨u,hu,e⟩:=ax.mp z;rw[<-e];exact bf _ (fA.mpr ⟨u,hu,bh ..⟩)
noncomputable def isA(t:Tie):ap:=ϒ (t.1=(0,0))||ϒ (t.1=(0,1))
theorem aOc(w:Net kvs Q V)(hp:∀t∈V,0<t.2.1)(hc:(V.filter isA).length=2):Net kvs Q (dG (V.map mvT)):=by
 obtain⟨S,s1,s2,s3⟩:=w.rims;have hS:2<=S.length:=by
  refine t5 λhlt=>?_
  have h1:(0,1)∉ends V:=λz=>by
   rcases cf.mp (s3.mem_iff.mp z) with q|q
   ·obtain⟨pc,hpc,e,_⟩:=rH.mp q;have:=w.qpos pc hpc;have e:pc.1=0:=e;lia
   ·obtain⟨x,hx,e⟩:=ax.mp q;have e:x=1:=cm lw e;obtain⟨k,hk,e2⟩:=ax.mp (s2.mem_iff.mp hx);have:=df.mp hk;lia
  have h2:=R6 (a:=((0,0):Pt)) (l:=(V.filter isA).map (·.1)) ((uZ w.nd).sublist (Ce _ List.filter_sublist)) λx hx=>by
   obtain⟨t,ht,rfl⟩:=ax.mp hx;obtain⟨m1,m2⟩:=iz.mp ht;unfold isA at m2;rw[hI,eM,eM] at m2;rcases m2 with m2|m2
   ·exact m2
   ·exact az (fA.mpr ⟨t,m1,by rw[<-m2];exact bh ..⟩) h1
  rw[ay] at h2;lia
 have em:=aD8 hp;have pe:(ends (V.map mvT)).Perm (hks kvs Q++(S.map s01).map rim):=by
  rw[em];refine(s3.map DN).trans ?_;rw[ce];have e1:(hks kvs Q).map DN=hks kvs Q:=by
   conv=>rhs;rw[<-eW (hks kvs Q)]
   refine cq λp hp=>?_
   obtain⟨pc,hpc,e,_⟩:=rH.mp hp;have:=w.qpos pc hpc;exact V6 (by lia)
  have e2:(S.map rim).map DN=(S.map s01).map rim:=by
   rw[bu,bu];exact cq λx _=>aFs x
  rw[e1,e2]
 have nd:(ends (V.map mvT)).Nodup:=by
  rw[em];exact oA (λx y=>aFr) w.nd
 have ps:=n6 (bO (V.map mvT));refine⟨ps.nodup_iff.mpr nd,?_,w.qs,w.qpos,w.ql,w.sk,λt ht=>?_,fW _,S.map s01,oA aD9 s1,?_,ps.trans pe⟩
 ·rw[(bO _).length_eq,ay];exact w.small
 ·obtain⟨u,hu,rfl⟩:=ax.mp ((bO _).mem_iff.mp ht);have h1:=w.lt u hu;have h2:=hp u hu;show ltP (DN u.1) u.2;unfold DN;split
  ·exact .inl h2
  ·split
   ·exact .inl h2
   ·exact h1
 ·rw[ay];exact(s2.map s01).trans (aDa hS)
end
def ch5:FS:=(sIf (J5 (bTB (b2 (b8 .eq) fU eU)) (bTB (b2 (b8 .ne) z7 (b2 getD gQ FJ)))) (bH (cF ai 10 (b2 getD gQ (b2 (bY .sub) eU (aO aMy (aD (b2 (b8 .eq) z7 (b2 getD gQ eU)) aR)))) ai) (jJ (dM (aD (b2 aIi (b2 aIi (aDj gB P_ (wO jL)) (dM (aD (dM (aD u5 (aD fP aR))) aR))) (aDj gB (wO (b2 (bY .add) jL eU)) P_)) (aD d8 (aD fH aR)))) ai)) jH)
def aQ7:FS:=(sIf (bTB (b2 (b8 .eq) (aO gC (aD (e_ 13 (cX d8 ai) z_ (bTB (b2 (b8 .isin) (b2 getD lB cV) tY)) lB ai) aR)) FJ)) (bH (cF ai 12 (e_ 13 (cX d8 ai) (yU 2) gR (dM (aD (bM aE0 tY (aD lB (aD lB aR))) (aD u9 aR))) ai) ag) (jJ (dM (aD gB (aD (aO m9 (aD (aO fM (aD E_ aR)) aR)) (aD fH aR)))) ai)) jH)
def ch7:FS:=(sIf (bTB (b2 (b8 .eq) fU aDy)) (bH (cF ai 11 (aB5 (dM (aD cV (aD cV aR))) (dM (aD cV (aD eU aR))) (dM (aD cV (aD eU aR))) (dM (aD cV (aD cV aR)))) ag) aQ7) jH)
theorem aFt(xs:aa D)(a:ah)(h:a<xs.length)(hp:θ xs=ag):aHr (.tup xs) am (af (a:ae))=.ok (.tup (xs.take a)):=by
 have e1:JR xs.length xs.length (af (a:ae))=a:=by
  show(if (a:ae)<0 then (max ((a:ae)+(xs.length:ae)) 0).toNat else (min (a:ae) (xs.length:ae)).toNat)=a;rw[aq (by lia)];lia
 show(if !θ xs||ϒ (JR xs.length 0 am=0/\JR xs.length xs.length (af (a:ae))=xs.length) then Res.bad else ε (ω ((xs.drop (JR xs.length 0 am)).take (JR xs.length xs.length (af (a:ae))-JR xs.length 0 am))))=_;rw[e1,hp,bP (λz=>by lia)];rfl
theorem aFu(xs:aa D)(a:ah)(h:a<xs.length)(hp:θ xs=ag):aHr (.tup xs) (af ((a:ae)+1)) am=.ok (.tup (xs.drop (a+1))):=by
 have e1:JR xs.length 0 (af ((a:ae)+1))=a+1:=by
  show(if (a:ae)+1<0 then (max ((a:ae)+1+(xs.length:ae)) 0).toNat else (min ((a:ae)+1) (xs.length:ae)).toNat)=a+1;rw[aq (by lia)];lia
 show(if !θ xs||ϒ (JR xs.length 0 (af ((a:ae)+1))=0/\JR xs.length xs.length am=xs.length) then Res.bad else ε (ω ((xs.drop (JR xs.length 0 (af ((a:ae)+1)))).take (JR xs.length xs.length am-JR xs.length 0 (af ((a:ae)+1))))))=_;rw[e1,hp,bP (λz=>by lia)];show ε (ω ((xs.drop (a+1)).take (xs.length-(a+1))))=_;rw[lr (by rw[iO];lia)]
theorem aDb(xs ys:aa D)(h:xs.length+ys.length<=1000):aIi (.tup xs) (.tup ys)=.ok (.tup (xs++ys)):=by
 show(if ϒ (xs.length+ys.length<=lim) then ε (ω (xs++ys)) else .bad)=_;rw[bq (by rw[bK];lia),ar rfl]
theorem aDc(s t:Str):eqD (.str s) (.str t)=ϒ (s=t):=by
 rw[Z0];by_cases h:s=t
 ·subst h;simp
 ·simp[h]
theorem aDd(s t:Str):b8 .ne (.str s) (.str t)=.ok (.bl (!ϒ (s=t))):=by
 show(if (π s).eO aM&&(π t).eO aM then ε (ξ (!eqD (.str s) (.str t))) else .bad)=_;rw[aDc];rfl
theorem aKr(s t:Str):b8 .eq (.str s) (.str t)=.ok (.bl (ϒ (s=t))):=by
 show(if (π s).eO aM&&(π t).eO aM then ε (ξ (eqD (.str s) (.str t))) else .bad)=_;rw[aDc];rfl
section
variable {n0 n1 n2:Str} {Q:aa Pc} {V:aa Tie}
def cst(n0 n1 n2:Str)(Q:aa Pc)(V:aa Tie)(c w a:ae)(pc:Pc)(x10 x11 x12:D):aa D:=[bL Q V 0,.lst [.str n0,.str n1,.str n2],.int c,.tup (Q.map pcD),.tup (V.map bI),.int 0,.int w,.int a,.int pc.1,.str pc.2,x10,x11,x12]
theorem aQ8{c w a:ae}{pc:Pc}{x10 x11 x12:D}(h:w≠1\/pc.2=n2):ch5 (cst n0 n1 n2 Q V c w a pc x10 x11 x12)=.ok (.nx (cst n0 n1 n2 Q V c w a pc x10 x11 x12)):=by
 have c1:b8 .eq (.int w) (.int 1)=.ok (.bl (w==1)):=rfl;have c2:=aDd pc.2 n2;by_cases hw:w=1
 ·have h2:pc.2=n2:=h.resolve_left λz=>z hw
  rw[show(w==1)=ag by simp[hw]] at c1;rw[bq h2] at c2;exact rB (QT (cJ (aH rfl rfl c1)) (cJ (aH rfl (aH rfl rfl rfl) c2))) rfl
 ·rw[show(w==1)=ai by simp[hw]] at c1;exact rB (W4 (cJ (aH rfl rfl c1))) rfl
theorem aQ9{c:ae}{a:ah}{pc:Pc}{x10 x11 x12:D}(ha:a<Q.length)(hl:Q.length<=100)(h:pc.2≠n2):∃nm,(nm=if pc.2=n1 then n0 else n1)/\ch5 (cst n0 n1 n2 Q V c 1 a pc x10 x11 x12)=.ok (.rt (bL (Q.take a++(pc.1,nm)::Q.drop (a+1)) V 0)):=by
 have c1:b8 .eq (.int 1) (.int 1)=.ok (.bl ag):=rfl;have c2:=aDd pc.2 n2;rw[bP h] at c2;have c3:=aKr pc.2 n1;have hp:=nY Q;have q1:=aFt (Q.map pcD) a (by rw[ay];exact ha) hp;have q2:=aFu (Q.map pcD) a (by rw[ay];exact ha) hp;rw[<-vc] at q1;rw[<-AH] at q2;refine⟨_,rfl,?_⟩;obtain⟨nm,hnm,gn⟩:∃nm,(nm=if pc.2=n1 then n0 else n1)/\(b2 getD gQ (b2 (bY .sub) eU (aO aMy (aD (b2 (b8 .eq) z7 (b2 getD gQ eU)) aR)))) (cst n0 n1 n2 Q V c 1 a pc x10 x11 x12)=.ok (.str nm):=by
  by_cases hn:pc.2=n1
  ·rw[bq hn] at c3;exact⟨n0,by rw[ar hn],aH rfl (aH rfl (aL (xs:=[.bl ag]) (aC (aH rfl (aH rfl rfl rfl) c3) rfl) rfl) (K3 1 1)) rfl⟩
  ·rw[bP hn] at c3;exact⟨n1,by rw[aq hn],aH rfl (aH rfl (aL (xs:=[.bl ai]) (aC (aH rfl (aH rfl rfl rfl) c3) rfl) rfl) (K3 1 0)) rfl⟩
 rw[<-hnm];refine vW (QT (cJ (aH rfl rfl c1)) (cJ (aH rfl (aH rfl rfl rfl) c2))) ?_;refine aJ (ρ':=cst n0 n1 n2 Q V c 1 a pc (.str nm) x11 x12) (mC (i:=10) gn rfl) ?_;have t1:=aDb ((Q.take a).map pcD) [pcD (pc.1,nm)] (by rw[ay,jo];simp;lia);have t2:=aDb ((Q.take a).map pcD++[pcD (pc.1,nm)]) ((Q.drop (a+1)).map pcD) (by simp only[cb,ay,jo,iO,fx];lia);have e:(Q.take a).map pcD++[pcD (pc.1,nm)]++(Q.drop (a+1)).map pcD=(Q.take a++(pc.1,nm)::Q.drop (a+1)).map pcD:=by simp
 rw[e] at t2;refine fG (d:=bL (Q.take a++(pc.1,nm)::Q.drop (a+1)) V 0) (dD (xs:=[.tup ((Q.take a++(pc.1,nm)::Q.drop (a+1)).map pcD),.tup (V.map bI),.int 0]) (aC (aH (aH (aBi rfl rfl (H_ rfl) q1) (dD (xs:=[pcD (pc.1,nm)]) (aC (dD (xs:=[.int pc.1,.str nm]) (aC rfl (aC rfl rfl)) zV) rfl) (by rw[bK];simp)) t1) (aBi rfl (H_ (aH rfl rfl (iD (a:ae) 1))) rfl q2) t2) (aC rfl (aC rfl rfl))) aKa) ?_;rw[kZ];rfl
def e01:aa (D×D):=[(enP (0,0),enP (0,1)),(enP (0,1),enP (0,0))]
theorem V7(p:Pt):bA e01 (enP p)=if p=(0,0) then af (enP (0,1)) else if p=(0,1) then af (enP (0,0)) else am:=by
 show(if eqD (enP (0,0)) (enP p) then af (enP (0,1)) else if eqD (enP (0,1)) (enP p) then af (enP (0,0)) else am)=_;rw[x_,x_];by_cases a:p=(0,0)
 ·subst a;rfl
 ·rw[aq (by simp;exact λz=>a z.symm),aq a];by_cases b:p=(0,1)
  ·subst b;rfl
  ·rw[aq (by simp;exact λz=>b z.symm),aq b]
theorem aDe(p:Pt):lE e01 (enP p)=ag:=rfl
theorem aDf{c a:ae}{pc:Pc}{x10 x12:D}(hl:V.length<=60):((V.filter isA).length=2->aQ7 (cst n0 n1 n2 Q V c 3 a pc x10 (.dct e01) x12)=.ok (.rt (bL Q (dG (V.map mvT)) 0)))/\((V.filter isA).length≠2->aQ7 (cst n0 n1 n2 Q V c 3 a pc x10 (.dct e01) x12)=.ok (.nx (cst n0 n1 n2 Q V c 3 a pc x10 (.dct e01) x12))):=by
 have hf:(e_ 13 (cX d8 ai) z_ (bTB (b2 (b8 .isin) (b2 getD lB cV) tY)) lB ai) (cst n0 n1 n2 Q V c 3 a pc x10 (.dct e01) x12)=.ok (.lst ((V.filter isA).map bI)):=by
  refine iV (lW rfl (iW V)) (by rw[ay,bK];lia) ?_;rw[sS _ bI isA bI]
  ·rfl
  ·intro acc t;refine lL (ρ:=cst n0 n1 n2 Q V c 3 a pc x10 (.dct e01) x12) (x:=bI t) (y:=bI t) rfl (cJ (aH (aH (x:=bI t) (z:=enP t.1) rfl rfl rfl) rfl ?_)) λ_=>⟨rfl,rfl⟩
   show(if lE e01 (enP t.1) then ε (ξ (bA e01 (enP t.1)).isSome) else .bad)=_;rw[aDe,ar rfl,V7];unfold isA;by_cases q:t.1=(0,0)
   ·rw[ar q,bq q];rfl
   ·rw[aq q,bP q];by_cases q2:t.1=(0,1)
    ·rw[ar q2,bq q2];rfl
    ·rw[aq q2,bP q2];rfl
 have lf:gC [.lst ((V.filter isA).map bI)]=.ok (.int (V.filter isA).length):=by rw[nH,ay]
 have c1:b8 .eq (.int (V.filter isA).length) (.int 2)=.ok (.bl (((V.filter isA).length:ae)==2)):=rfl;refine⟨λh=>?_,λh=>?_⟩
 ·rw[show(((V.filter isA).length:ae)==2)=ag by rw[h];rfl] at c1;refine vW (cJ (aH (aL (xs:=[.lst ((V.filter isA).map bI)]) (aC hf rfl) lf) rfl c1)) ?_;have hm:(e_ 13 (cX d8 ai) (yU 2) gR (dM (aD (bM aE0 tY (aD lB (aD lB aR))) (aD u9 aR))) ai) (cst n0 n1 n2 Q V c 3 a pc x10 (.dct e01) x12)=.ok (.lst ((V.map mvT).map bI)):=by
   refine iV (lW rfl (iW V)) (by rw[ay,bK];lia) ?_;rw[iK _ bI (λt=>bI (mvT t)) V [] λacc t _=>by
    have g:aE0 (.dct e01) [enP t.1,enP t.1]=.ok (enP (mvT t).1):=by
     show(if lE e01 (enP t.1) then ε ((bA e01 (enP t.1)).getD (enP t.1)) else .bad)=_;rw[aDe,ar rfl,V7];show _=ε (enP (DN t.1));unfold DN;by_cases q:t.1=(0,0)
     ·rw[ar q,ar q];rfl
     ·rw[aq q,aq q];by_cases q2:t.1=(0,1)
      ·rw[ar q2,ar q2];rfl
      ·rw[aq q2,aq q2];rfl
    have hg:(bM aE0 tY (aD lB (aD lB aR))) (cst n0 n1 n2 Q V c 3 a pc x10 (.dct e01) x12++[enP t.1,enP t.2])=.ok (enP (mvT t).1):=g;exact lR (n:=13) (t:=yU 2) (c:=gR) (k:=ai) (acc:=acc) (x:=bI t) (b:=ag) (bs:=[enP t.1,enP t.2]) (y:=bI (mvT t)) rfl rfl rfl λ_=>⟨dD (xs:=[enP (mvT t).1,enP (mvT t).2]) (aC hg (aC rfl rfl)) zV,rfl⟩,dQ,bu]
   rfl
  have srt:=tE (V.map mvT) (by rw[ay];lia);refine aJ (ρ':=cst n0 n1 n2 Q V c 3 a pc x10 (.dct e01) (.lst ((V.map mvT).map bI))) (bN (i:=12) hm) ?_;refine fG (d:=bL Q (dG (V.map mvT)) 0) (dD (xs:=[.tup (Q.map pcD),.tup ((dG (V.map mvT)).map bI),.int 0]) (aC rfl (aC (aL (xs:=[.lst ((dG (V.map mvT)).map bI)]) (aC (aL (xs:=[.lst ((V.map mvT).map bI)]) (aC rfl rfl) srt) rfl) rfl) (aC rfl rfl))) aKa) ?_;rw[kZ];rfl
 ·rw[show(((V.filter isA).length:ae)==2)=ai by rw[nq];lia] at c1;exact rB (cJ (aH (aL (xs:=[.lst ((V.filter isA).map bI)]) (aC hf rfl) lf) rfl c1)) rfl
end
section
variable {n0 n1 n2:Str} {sd:ah} {Q:aa Pc} {V:aa Tie}
theorem YG{c:ae}(g:Gn n0 n1 n2 sd Q V)(hs:sd<=3)(h1:n0≠n1)(h2:n0≠n2)(h3:n1≠n2)(hq:1<=Q.length):∃Q' V' r',Net (kv n0 n1 n2 sd) Q' V'/\Q'.map (·.1)=Q.map (·.1)/\cD 3 gK [bL Q V 0,.lst [.str n0,.str n1,.str n2],.int c]=.ok (bL Q' V' r'):=by
 have ql:=g.net.ql;have vl:=g.net.small;have lQ:gC [.tup (Q.map pcD)]=.ok (.int Q.length):=by
  show ε (δ ((Q.map pcD).length:ae))=_;rw[ay]
 have m5:=j4 c 5 (by decide);have d5:=j0 c 5 (by decide) (by decide);have mq:=j4 (c / 5) (Q.length:ae) (by lia);have q0:=lm (c / 5) (show(Q.length:ae)≠0 by lia);have q1:=lq (c / 5) (show(0:ae)<(Q.length:ae) by lia);obtain⟨a,ha⟩:∃a:ah,c / 5 % (Q.length:ae)=a:=⟨(c / 5 % (Q.length:ae)).toNat,by lia⟩
 rw[ha] at mq q0 q1;have hal:a<Q.length:=by lia
 have gq:getD (.tup (Q.map pcD)) (.int (a:ae))=.ok (pcD Q[a]):=by
  have:=yE (Q.map pcD) a (by rw[ay];exact hal);rw[show(0+(a:ae))=a by lia,e7] at this;exact this
 have hmem:=fq hal;obtain⟨j,hj,ej⟩:=g.nms _ hmem;have hsp:Q=Q.take a++(Q[a].1,Q[a].2)::Q.drop (a+1):=by
  show Q=Q.take a++Q[a]::Q.drop (a+1);rw[List.getElem_cons_drop,wb]
 have hnd:=nY Q;have npu:=kZ Q V 0;obtain⟨w,hw,hw5⟩:∃w:ae,c % 5=w/\0<=w/\w<5:=⟨c % 5,rfl,by lia,by lia⟩
 rw[hw] at m5;have pre:∀{d:D},((bH ch5 (bH (sIf (bTB (b2 (b8 .eq) fU FJ)) (jJ (dM (aD gB (aD (aO (cD 2 fJ) (aD d8 (aD (b2 (bY .fdiv) fD Z3) aR))) (aD fH aR)))) ai) jH) (bH ch7 (bH (sIf (bTB (b2 (b8 .eq) fU aG1)) (jJ (dM (aD gB (aD d8 (aD (b2 (bY .add) fH eU) aR)))) ai) jH) (jJ fL ai))))) (cst n0 n1 n2 Q V c w a Q[a] .uD .uD .uD)=.ok (.rt d))->cD 3 gK [bL Q V 0,.lst [.str n0,.str n1,.str n2],.int c]=.ok d:=λ{d} h=>by
  refine(dF rfl).trans (call_v ?_);refine aJ (ρ':=[bL Q V 0,.lst [.str n0,.str n1,.str n2],.int c,.tup (Q.map pcD),.tup (V.map bI),.int 0,.uD,.uD,.uD,.uD,.uD,.uD,.uD]) (V5 (d:=bL Q V 0) rfl npu rfl) ?_;refine aJ (ρ':=[bL Q V 0,.lst [.str n0,.str n1,.str n2],.int c,.tup (Q.map pcD),.tup (V.map bI),.int 0,.int w,.uD,.uD,.uD,.uD,.uD,.uD]) (bN (i:=6) (aH rfl rfl m5)) ?_;refine aJ (ρ':=[bL Q V 0,.lst [.str n0,.str n1,.str n2],.int c,.tup (Q.map pcD),.tup (V.map bI),.int 0,.int w,.int a,.uD,.uD,.uD,.uD,.uD]) (bN (i:=7) (aH (aH rfl rfl d5) (aL (xs:=[.tup (Q.map pcD)]) (aC rfl rfl) lQ) mq)) ?_;refine aJ (ρ':=cst n0 n1 n2 Q V c w a Q[a] .uD .uD .uD) (V5 (d:=pcD Q[a]) (aH rfl rfl gq) rfl rfl) ?_;exact h
 have c2:∀k:ae,b8 .eq (.int w) (.int k)=.ok (.bl (w==k)):=λ_=>rfl
 have neq:∀{k:ae},w≠k->(w==k)=ai:=λh=>by simp[h]
 have if2:∀{x11 x12:D},w≠2->(sIf (bTB (b2 (b8 .eq) fU FJ)) (jJ (dM (aD gB (aD (aO (cD 2 fJ) (aD d8 (aD (b2 (bY .fdiv) fD Z3) aR))) (aD fH aR)))) ai) jH) (cst n0 n1 n2 Q V c w a Q[a] .uD x11 x12)=.ok (.nx (cst n0 n1 n2 Q V c w a Q[a] .uD x11 x12)):=λh=>rB (cJ (aH rfl rfl ((c2 2).trans (by rw[neq h])))) rfl
 have if3:∀{x11 x12:D},w≠3->ch7 (cst n0 n1 n2 Q V c w a Q[a] .uD x11 x12)=.ok (.nx (cst n0 n1 n2 Q V c w a Q[a] .uD x11 x12)):=λh=>rB (cJ (aH rfl rfl ((c2 3).trans (by rw[neq h])))) rfl
 have if4:∀{x11 x12:D},w≠4->(sIf (bTB (b2 (b8 .eq) fU aG1)) (jJ (dM (aD gB (aD d8 (aD (b2 (bY .add) fH eU) aR)))) ai) jH) (cst n0 n1 n2 Q V c w a Q[a] .uD x11 x12)=.ok (.nx (cst n0 n1 n2 Q V c w a Q[a] .uD x11 x12)):=λh=>rB (cJ (aH rfl rfl ((c2 4).trans (by rw[neq h])))) rfl
 have fin:∀{x11 x12:D},(jJ fL ai) (cst n0 n1 n2 Q V c w a Q[a] .uD x11 x12)=.ok (.rt (bL Q V 0)):=fG rfl (by rw[npu];rfl);by_cases w1:w=1/\Q[a].2≠n2
 ·obtain⟨rfl,hn2⟩:=w1;obtain⟨nm,hnm,e⟩:=aQ9 (n0:=n0) (n1:=n1) (n2:=n2) (Q:=Q) (V:=V) (c:=c) (a:=a) (pc:=Q[a]) (x10:=.uD) (x11:=.uD) (x12:=.uD) hal (by lia) hn2;have k1:=yR (sd:=sd) h1 h2 h3 0 (by lia);have k2:=yR (sd:=sd) h1 h2 h3 1 (by lia);have hold:bA (kv n0 n1 n2 sd) (.str Q[a].2)=af (.int (sd:ah)):=by
   match j,hj,ej with
   |0,_,ej=>rw[ej];exact k1
   |1,_,ej=>rw[ej];exact k2
   |2,_,ej=>exact az ej hn2
  have hnew:bA (kv n0 n1 n2 sd) (.str nm)=af (.int (sd:ah)):=by
   rw[hnm];split
   ·exact k1
   ·exact k2
  have wn:=g.net;rw[hsp] at wn;refine⟨_,V,0,aKq wn hold hnew (by lia),?_,pre (qR e)⟩
  conv=>rhs;rw[hsp]
  simp
 ·have e5:=aQ8 (n0:=n0) (n1:=n1) (n2:=n2) (Q:=Q) (V:=V) (c:=c) (w:=w) (a:=a) (pc:=Q[a]) (x10:=.uD) (x11:=.uD) (x12:=.uD) (by
   by_cases z:w=1
   ·exact .inr (mB λq=>w1 ⟨z,q⟩)
   ·exact .inl z)
  by_cases w2:w=2
  ·subst w2;have d10:=j0 c 10 (by decide) (by decide);obtain⟨V',tw,pe,lt,srt⟩:=YF (V:=V) (c / 10) vl g.net.nd g.net.lt g.net.srt;refine⟨Q,V',0,aOb g.net pe lt srt,rfl,pre (aJ e5 (qR (vW (cJ (aH rfl rfl (c2 2))) (fG (d:=bL Q V' 0) (dD (xs:=[.tup (Q.map pcD),.tup (V'.map bI),.int 0]) (aC rfl (aC (aL (xs:=[.tup (V.map bI),.int (c / 10)]) (aC rfl (aC (aH rfl rfl d10) rfl)) tw) (aC rfl rfl))) aKa) ?_))))⟩;rw[kZ];rfl
  ·by_cases w3:w=3
   ·subst w3;obtain⟨i1,i2⟩:=aDf (n0:=n0) (n1:=n1) (n2:=n2) (Q:=Q) (V:=V) (c:=c) (a:=a) (pc:=Q[a]) (x10:=.uD) (x12:=.uD) vl;have sd11:(cF ai 11 (aB5 (dM (aD cV (aD cV aR))) (dM (aD cV (aD eU aR))) (dM (aD cV (aD eU aR))) (dM (aD cV (aD cV aR)))) ag) (cst n0 n1 n2 Q V c 3 a Q[a] .uD .uD .uD)=.ok (.nx (cst n0 n1 n2 Q V c 3 a Q[a] .uD (.dct e01) .uD)):=bN (i:=11) rfl;by_cases hc:(V.filter isA).length=2
    ·exact⟨Q,_,0,aOc g.net g.pos hc,rfl,pre (aJ e5 (aJ (if2 (by decide)) (qR (vW (cJ (aH rfl rfl (c2 3))) (aJ sd11 (i1 hc))))))⟩
    ·exact⟨Q,V,0,g.net,rfl,pre (aJ e5 (aJ (if2 (by decide)) (aJ (vW (cJ (aH rfl rfl (c2 3))) (aJ sd11 (i2 hc))) (aJ (if4 (by decide)) fin))))⟩
   ·by_cases w4:w=4
    ·subst w4;refine⟨Q,V,1,g.net,rfl,pre (aJ e5 (aJ (if2 w2) (aJ (if3 w3) (qR (vW (cJ (aH rfl rfl (c2 4))) (fG (d:=bL Q V 1) (dD (xs:=[.tup (Q.map pcD),.tup (V.map bI),.int 1]) (aC rfl (aC rfl (aC (aH rfl rfl (iD 0 1)) rfl))) aKa) ?_))))))⟩;rw[kZ];rfl
    ·exact⟨Q,V,0,g.net,rfl,pre (aJ e5 (aJ (if2 w2) (aJ (if3 w3) (aJ (if4 w4) fin))))⟩
end
theorem aOd(c0:ae):cD 1 kO [.int c0]=.ok (.lst [.str (nmK c0 0),.str (nmK c0 1),.str (nmK c0 2)]):=by
 have m8:=j4 c0 8 (by decide);have a1:=iD 1 (c0 % 8);have f8:=j0 c0 8 (by decide) (by decide);have ms:=j4 (c0 / 8) (1+c0 % 8) (by lia);obtain⟨u7,u8,h0⟩:=aBd (c0:=c0) (k:=0) (L:=[]) (x5:=.uD) (x6:=.uD) (x7:=.uD) (x8:=.uD) (by simp);obtain⟨v7,v8,h1⟩:=aBd (c0:=c0) (k:=1) (L:=[.str (nmK c0 0)]) (x5:=.uD) (x6:=.str (nmK c0 0)) (x7:=u7) (x8:=u8) (by simp);obtain⟨w7,w8,h2⟩:=aBd (c0:=c0) (k:=2) (L:=[.str (nmK c0 0),.str (nmK c0 1)]) (x5:=.uD) (x6:=.str (nmK c0 1)) (x7:=v7) (x8:=v8) (by simp);refine(dF rfl).trans (call_v ?_);generalize nmK c0 0=n0 at *;generalize nmK c0 1=n1 at *;generalize nmK c0 2=n2 at *;refine aJ (ρ':=[.int c0,.str abc,.uD,.uD,.uD,.uD,.uD,.uD,.uD]) (bN (i:=1) rfl) ?_;generalize abc=ab at *;refine aJ (ρ':=[.int c0,.str ab,.int (1+c0 % 8),.uD,.uD,.uD,.uD,.uD,.uD]) (bN (i:=2) (aH rfl (aH rfl rfl m8) a1)) ?_;refine aJ (ρ':=[.int c0,.str ab,.int (1+c0 % 8),.int (c0 / 8 % (1+c0 % 8)),.uD,.uD,.uD,.uD,.uD]) (bN (i:=3) (aH (aH rfl rfl f8) rfl ms)) ?_;refine aJ (ρ':=[.int c0,.str ab,.int (1+c0 % 8),.int (c0 / 8 % (1+c0 % 8)),.lst [],.uD,.uD,.uD,.uD]) (dN (i:=4) rfl rfl) ?_;refine aJ (ρ':=[.int c0,.str ab,.int (1+c0 % 8),.int (c0 / 8 % (1+c0 % 8)),.lst [.str n0,.str n1,.str n2],.int (0+((2:ah):ae)),.str n2,w7,w8]) (mW (uO (n:=3) (aC rfl rfl) (by lia) (by lia)) ?_) ?_
 ·refine nG (ρ1:=[.int c0,.str ab,.int (1+c0 % 8),.int (c0 / 8 % (1+c0 % 8)),.lst [],.int (0+((0:ah):ae)),.uD,.uD,.uD]) rfl h0 ?_;refine nG (ρ1:=[.int c0,.str ab,.int (1+c0 % 8),.int (c0 / 8 % (1+c0 % 8)),.lst [.str n0],.int (0+((1:ah):ae)),.str n0,u7,u8]) rfl h1 ?_;exact nG (ρ1:=[.int c0,.str ab,.int (1+c0 % 8),.int (c0 / 8 % (1+c0 % 8)),.lst [.str n0,.str n1],.int (0+((2:ah):ae)),.str n1,v7,v8]) rfl h2 rfl
 ·rfl
def lnb:FS:=(bH (rU 4 (b2 (bY .add) jL eU) (b2 (bY .add) eU (b2 getD fU jL))) (sIf (bTB (b2 (b8 .eq) (b2 (bY .mod) (b2 (bY .add) jL (b2 getD fU jL)) FJ) eU)) (rU 4 (b2 (bY .add) jL eU) (b2 (bY .mul) (b2 (bY .pow) Z3 (bC (.int 9))) (b2 (bY .add) eU (b2 getD fU jL)))) jH))
def dub:FS:=(sIf (bTB (b2 (b8 .eq) (aO (cD 2 bW) (aD fD (aD (aO (cD 3 jQ) (aD fD (aD gB (aD fU aR)))) aR))) gB)) (cF ai 8 (bC (.bl ag)) ag) jH)
theorem aDg(x:ae)(v w:D):∀kvs:aa (D×D),putD (putD kvs (.int x) v) (.int x) w=putD kvs (.int x) w
 |[]=>by
  show(if eqD (.int x) (.int x) then [(δ x,w)] else _)=[(δ x,w)];rw[dI,bq rfl,ar rfl]
 | (k,u)::r=>by
  rw[putD,putD];by_cases h:eqD k (.int x)=ag
  ·rw[ar h,ar h,putD,ar h]
  ·rw[aq h,aq h,putD,aq h,aDg x v w r]
noncomputable def oj(o:aa ah)(k:ah):ae:=((o.getD k 0:ah):ae)
def vv(o:aa ah)(k:ah):ae:=if ((k:ae)+oj o k) % 2=1 then 1000000000*(1+oj o k) else 1+oj o k
def nZ(o:aa ah)(m:ah):aa Pt:=(bn m).map λ(k:ah)=>((1+(k:ae),vv o k):Pt)
theorem aH1(o:aa ah)(m:ah):(nZ o m).map (·.1)=(bn m).map λ(k:ah)=>(1+(k:ae)):=by unfold nZ;rw[bu];rfl
theorem aOe{o:aa ah}{k:ah}(h:k<o.length):getD (dJ o) (.int (0+(k:ae)))=.ok (.int (oj o k)):=by
 rw[aD1 o k h];unfold oj;rw[cy,cn h];rfl
section
variable {o:aa ah} {sc x1 x2 x3 x5 x8:D}
theorem aKs{k:ah}{md:aa (D×D)}(hk:k<o.length)(hb:∀j∈o,j<4)(hl:md.length<=100)(hf:∀y:ae,lE md (.int y)=ag)(hf2:∀(y x:ae) (v:D),lE (putD md (.int x) v) (.int y)=ag)(hl2:∀(x:ae) (v:D),(putD md (.int x) v).length<=101):lnb [sc,x1,x2,x3,.dct md,x5,dJ o,.int (0+(k:ae)),x8]=.ok (.nx [sc,x1,x2,x3,.dct (putD md (.int (1+(k:ae))) (.int (vv o k))),x5,dJ o,.int (0+(k:ae)),x8]):=by
 have g:=aOe hk;have hj:0<=oj o k/\oj o k<4:=by
  unfold oj;have:o.getD k 0∈o:=by rw[cy,cn hk];exact fq hk
  have:=hb _ this;lia
 have a1:=iD (0+(k:ae)) 1;have a2:=iD 1 (oj o k);have a3:=iD (0+(k:ae)) (oj o k);have m2:=j4 (0+(k:ae)+oj o k) 2 (by decide);have c2:b8 .eq (.int ((0+(k:ae)+oj o k) % 2)) (.int 1)=.ok (.bl ((0+(k:ae)+oj o k) % 2==1)):=rfl;have p9:bY .pow (.int 10) (.int 9)=.ok (.int 1000000000):=aMv 9 (by decide);have mu:=aAl 1000000000 (1+oj o k) (G4 _ (by lia) (by lia));have ho':dJ o≠.uD:=λz=>by cases z
 have v6:∀(x0 x1 x2 x3 x4 x5 x7 x8:D),iU 6 [x0,x1,x2,x3,x4,x5,dJ o,x7,x8]=.ok (dJ o):=λ_ _ _ _ _ _ _ _=>cC rfl ho'
 unfold vv;rw[show(k:ae)+oj o k=0+(k:ae)+oj o k by lia];rw[show 0+(k:ae)+1=1+(k:ae) by lia] at a1;generalize oj o k=jj at *;generalize dJ o=od at *;generalize (0+(k:ae))=kk at *;generalize (1+(k:ae))=k1 at *;refine aJ (ρ':=[sc,x1,x2,x3,.dct (putD md (.int k1) (.int (1+jj))),x5,od,.int kk,x8]) (mX (i:=4) (kvs:=md) (k:=.int k1) (d:=.int (1+jj)) (aH rfl (aH (v6 _ _ _ _ _ _ _ _) rfl g) a2) (aH rfl rfl a1) rfl (by rw[bK];lia) (hf _) rfl) ?_;cases h:((kk+jj) % 2==1) with
 |false=>
  rw[h] at c2;rw[aq (by simpa using h)];exact rB (cJ (aH (aH (aH rfl (aH (v6 _ _ _ _ _ _ _ _) rfl g) a3) rfl m2) rfl c2)) rfl
 |true=>
  rw[h] at c2;rw[ar (by simpa using h),<-aDg k1 (.int (1+jj)) (.int (1000000000*(1+jj))) md];refine vW (cJ (aH (aH (aH rfl (aH (v6 _ _ _ _ _ _ _ _) rfl g) a3) rfl m2) rfl c2)) ?_;refine mX (i:=4) (kvs:=putD md (.int k1) (.int (1+jj))) (k:=.int k1) (d:=.int (1000000000*(1+jj))) ?_ ?_ rfl ?_ (hf2 _ _ _) rfl
  ·exact aH (aH rfl rfl p9) (aH rfl (aH (v6 _ _ _ _ _ _ _ _) rfl g) a2) mu
  ·exact aH rfl rfl a1
  ·have:=hl2 k1 (.int (1+jj));rw[bK];lia
theorem aKt{x7:D}(hb:∀j∈o,j<4)(hl:o.length<=50):∃y7,o_ (tg1 7) lnb ((bn o.length).map λ(k:ah)=>δ (0+(k:ae))) [sc,x1,x2,x3,.dct [(.int 0,.int 0)],x5,dJ o,x7,x8]=.ok (.nx [sc,x1,x2,x3,.dct (bG [(.int 0,.int 0)] ((nZ o o.length).map kvI)),x5,dJ o,y7,x8]):=by
 obtain⟨ρ,h,y7,rfl⟩:=bU (t:=tg1 7) (body:=lnb) (d:=λ(k:ah)=>δ (0+(k:ae))) (I:=λys ρ=>∃y7,ρ=[sc,x1,x2,x3,.dct (bG [(.int 0,.int 0)] ((nZ o ys.length).map kvI)),x5,dJ o,y7,x8]) (bn o.length) (λys k zs ρ e ⟨y7,h⟩=>by
  subst h;obtain⟨rfl,hk⟩:=j7 e;obtain⟨i1,i2,i3⟩:=merge_inv (nZ o ys.length) [(.int 0,.int 0)] rfl aKb;have hnl:(nZ o ys.length).length=ys.length:=by unfold nZ;simp
  have hZ2:∀(x:ae)(v:ae),putD (bG [(.int 0,.int 0)] ((nZ o ys.length).map kvI)) (.int x) (.int v)=bG [(.int 0,.int 0)] ((nZ o ys.length++[(x,v)]).map kvI):=λx v=>(oR [(.int 0,.int 0)] (nZ o ys.length) (x,v)).symm
  have hfit:∀(y x:ae)(v:D),lE (putD (bG [(.int 0,.int 0)] ((nZ o ys.length).map kvI)) (.int x) v) (.int y)=ag:=λy x v=>RM i2 y
  have hlen:∀(x:ae)(v:D),(putD (bG [(.int 0,.int 0)] ((nZ o ys.length).map kvI)) (.int x) v).length<=101:=λx v=>by
   have:=JF x v (bG [(.int 0,.int 0)] ((nZ o ys.length).map kvI));simp only[b9,dS] at i3;lia
  refine⟨[sc,x1,x2,x3,.dct (bG [(.int 0,.int 0)] ((nZ o ys.length).map kvI)),x5,dJ o,.int (0+(ys.length:ae)),x8],_,rfl,aKs hk hb (by simp only[b9,dS] at i3;lia) i2 hfit hlen,.int (0+(ys.length:ae)),?_⟩;rw[hZ2];have:nZ o (ys++[ys.length]).length=nZ o ys.length++[(1+(ys.length:ae),vv o ys.length)]:=by
   unfold nZ;rw[cb,fx,lu,ce];rfl
  rw[this]) (ρ:=[sc,x1,x2,x3,.dct [(.int 0,.int 0)],x5,dJ o,x7,x8]) ⟨x7,rfl⟩
 rw[gp] at h;exact⟨y7,h⟩
end
theorem aQa{o:aa ah}{m:ah}(ho:o.Perm (bn m))(hm:m<=4):Nf (nfZ (nZ o m)) ((bn m).map λ(k:ah)=>(1+(k:ae))):=by
 have hl:o.length=m:=by rw[ho.length_eq,gp]
 have hn:o.Nodup:=ho.nodup_iff.mpr ig;have hnd:((nZ o m).map (·.1)).Nodup:=by
  rw[aH1];exact oA (λx y e=>by lia) ig
 have val:∀k<m,nfZ (nZ o m) (1+(k:ae))=vv o k:=λk hk=>by
  unfold nfZ;rw[aq (by lia)];exact yP (p:=(1+(k:ae),vv o k)) hnd (ax.mpr ⟨k,df.mpr hk,rfl⟩)
 have hj:∀k<m,0<=oj o k/\oj o k<4:=λk hk=>by
  unfold oj;have:o.getD k 0∈o:=by rw[cy,cn (by lia)];exact fq (by lia)
  have:=df.mp (ho.mem_iff.mp this);lia
 refine⟨rfl,λx hx=>?_,λx hx y hy e=>?_⟩
 ·obtain⟨k,hk,rfl⟩:=ax.mp hx;have hk:=df.mp hk;rw[val k hk];have:=hj k hk;unfold vv;split<;>lia
 ·obtain⟨k,hk,rfl⟩:=ax.mp hx;obtain⟨k',hk',rfl⟩:=ax.mp hy;have hk:=df.mp hk;have hk':=df.mp hk';rw[val k hk,val k' hk'] at e;have h1:=hj k hk;have h2:=hj k' hk';have e2:oj o k=oj o k':=by
   unfold vv at e
   repeat' split at e
   all_goals lia
  unfold oj at e2;rw[cy,cn (by lia),cy,cn (show k'<o.length by lia)] at e2;have e3:o[k]=o[k']:=by
   have e2:((o[k]:ah):ae)=((o[k']:ah):ae):=e2;lia
  have p:=ux.mp hn;rcases Bq k k' with q|q|q
  ·exact az e3 (p _ _ (by lia) (by lia) q)
  ·rw[q]
  ·exact az e3.symm (p _ _ (by lia) (by lia) q)
section
variable {kvs:aa (D×D)} {Q Q':aa Pc} {V V':aa Tie} {r r':ae}
theorem aFv{sc x1 x4 x5 x6 x7:D}(w:Net kvs Q V)(w':Net kvs Q' V')(hl:Q.length=Q'.length):∃(due:ap)(y6:D),(due=ag↔∃o∈oU Q.length,cQ Q V r (nfZ (zO Q Q' o))=bL Q' V' r')/\o_ (tg1 6) dub ((oU Q.length).map dJ) [sc,x1,bL Q V r,bL Q' V' r',x4,x5,x6,x7,.bl ai]=.ok (.nx [sc,x1,bL Q V r,bL Q' V' r',x4,x5,y6,x7,.bl due]):=by
 have pl':=jF Q' V' r';obtain⟨ρ,h,due,y6,hd,rfl⟩:=bU (t:=tg1 6) (body:=dub) (d:=dJ) (I:=λys ρ=>∃(due:ap)(y6:D),(due=ag↔∃o∈ys,cQ Q V r (nfZ (zO Q Q' o))=bL Q' V' r')/\ρ=[sc,x1,bL Q V r,bL Q' V' r',x4,x5,y6,x7,.bl due]) (oU Q.length) (λys o zs ρ e ⟨due,y6,hd,h⟩=>by
  subst h;have ho:o∈oU Q.length:=by rw[e];simp
  have hp:=JQ _ o ho;have hol:o.length=Q.length:=by rw[hp.length_eq,gp]
  have hnew:=aKm (Q:=Q) (Q':=Q') (V:=V) (V':=V') (r:=r) (r':=r') (o:=o) w.wf hol λj hj=>by
   have:=df.mp (hp.mem_iff.mp hj);lia
  have hcar:=aQ5 (Q:=Q) (Q':=Q') (V:=V) (r:=r) (o:=o) w.wf hol;have pl:=jF (cZ (Q.map (cP (nfZ (zO Q Q' o))))) (dG ((V.map (cT (nfZ (zO Q Q' o)))).map norm)) r;have hu:bL Q V r≠.uD:=λz=>by cases z
  have hu':bL Q' V' r'≠.uD:=λz=>by cases z
  have ho':dJ o≠.uD:=λz=>by cases z
  generalize hZ:nfZ (zO Q Q' o)=ψ at *;generalize (zO Q Q' o).map kvI=ZZ at *;have hex:(∃p∈ys++[o],cQ Q V r (nfZ (zO Q Q' p))=bL Q' V' r')↔(∃p∈ys,cQ Q V r (nfZ (zO Q Q' p))=bL Q' V' r')\/cQ Q V r ψ=bL Q' V' r':=by
   constructor
   ·rintro⟨p,hp,q⟩;rcases cf.mp hp with hp|hp
    ·exact .inl ⟨p,hp,q⟩
    ·rw[cw.mp hp,hZ] at q;exact .inr q
   ·rintro(⟨p,hp,q⟩|q)
    ·exact⟨p,dq _ hp,q⟩
    ·exact⟨o,dP _ (cw.mpr rfl),by rw[hZ];exact q⟩
  have c3:∀{b:ap},b8 .eq (cQ Q V r ψ) (bL Q' V' r')=.ok (.bl b)->(bTB (b2 (b8 .eq) (aO (cD 2 bW) (aD fD (aD (aO (cD 3 jQ) (aD fD (aD gB (aD fU aR)))) aR))) gB)) [sc,x1,bL Q V r,bL Q' V' r',x4,x5,dJ o,x7,.bl due]=.ok b:=λhc=>cJ (aH (aL (xs:=[bL Q V r,.dct (bG [(.int 0,.int 0)] ZZ)]) (aC (cC rfl hu) (aC (aL (xs:=[bL Q V r,bL Q' V' r',dJ o]) (aC (cC rfl hu) (aC (cC rfl hu') (aC (cC rfl ho') rfl))) hnew) rfl)) hcar) (cC rfl hu') hc)
  by_cases q:cQ Q V r ψ=bL Q' V' r'
  ·refine⟨[sc,x1,bL Q V r,bL Q' V' r',x4,x5,dJ o,x7,.bl due],[sc,x1,bL Q V r,bL Q' V' r',x4,x5,dJ o,x7,.bl ag],rfl,?_,ag,dJ o,?_,rfl⟩
   ·exact vW (c3 (by rw[q];exact eq_self pl'.1 pl'.2)) (bN (i:=8) rfl)
   ·rw[hex];exact⟨λ_=>.inr q,λ_=>rfl⟩
  ·refine⟨[sc,x1,bL Q V r,bL Q' V' r',x4,x5,dJ o,x7,.bl due],[sc,x1,bL Q V r,bL Q' V' r',x4,x5,dJ o,x7,.bl due],rfl,?_,due,dJ o,?_,rfl⟩
   ·exact rB (c3 (R1 pl.1 pl'.1 pl.2 pl'.2 q).1) rfl
   ·rw[hex,hd];exact⟨.inl,λz=>z.resolve_right q⟩) (ρ:=[sc,x1,bL Q V r,bL Q' V' r',x4,x5,x6,x7,.bl ai]) ⟨ai,x6,⟨(λz=>by cases z),(λ⟨_,z,_⟩=>by cases z)⟩,rfl⟩
 exact⟨due,y6,hd,h⟩
end
theorem aFw{i:ah}{t:D->aa D->Res (aa D)}{body:FS}{ρ xs:aa D}{r:Res Fl}(h1:iU i ρ=.ok (.scr xs))(h2:o_ t body xs ρ=r):yX i t body ρ=r:=by
 unfold yX;rw[h1,τ];exact h2
theorem aKu:∀m,oU m≠[]
 |0=>by simp[oU]
 |m+1=>λz=>by
  have:=R3 (m+1) (bn (m+1)) (.refl _);rw[z] at this;cases this
theorem main:∀ns:aa ae,ns.length<=63->XS [.scr (ns.map δ)]=.ok (.bl ag):=by
 intro ns hn;have hc0:=cell_eq ns 0;have hc1:=cell_eq ns 1;have hc2:=cell_eq ns 2;have hs:aHr (.scr (ns.map δ)) (af 3) (af 35)=.ok (.lst ((cutD ns (af 3) (af 35)).map δ)):=by
  show(if θ (ns.map δ) then ε (υ (cutD (ns.map δ) (af 3) (af 35))) else .bad)=_;rw[dO,ar rfl,aIf]
 have hcl:=aIg ns (af 3) (af 35);generalize cutD ns (af 3) (af 35)=cs at *;have nm:=aOd (cellAt ns 0);have h1:nmK (cellAt ns 0) 0≠nmK (cellAt ns 0) 1:=λz=>by have:=RC (by lia) (by lia) z;lia
 have h2:nmK (cellAt ns 0) 0≠nmK (cellAt ns 0) 2:=λz=>by have:=RC (by lia) (by lia) z;lia
 have h3:nmK (cellAt ns 0) 1≠nmK (cellAt ns 0) 2:=λz=>by have:=RC (by lia) (by lia) z;lia
 generalize nmK (cellAt ns 0) 0=n0 at *;generalize nmK (cellAt ns 0) 1=n1 at *;generalize nmK (cellAt ns 0) 2=n2 at *;generalize cellAt ns 0=c0 at *;generalize cellAt ns 1=c1 at *;generalize cellAt ns 2=c2 at *;have m4:=j4 c1 4 (by decide);obtain⟨sd,hsd,esd⟩:∃sd:ah,sd<=3/\c1 % 4=sd:=⟨(c1 % 4).toNat,by lia,by lia⟩
 rw[esd] at m4;obtain⟨Q,V,g,hQl,hnet⟩:=aO8 (sd:=sd) (cs:=cs) hsd h1 h2 h3 (by lia);obtain⟨Q2,V2,r2,w2,hnum,hch⟩:=YG (c:=c2) g hsd h1 h2 h3 (by lia);have w:=g.net;have hm4:Q.length<=4:=by lia
 have hor:=aD0 Q.length hm4;have d4:=j0 c1 4 (by decide) (by decide);have hne:0<(oU Q.length).length:=List.length_pos_iff.mpr (aKu _);have lor:gC [.scr ((oU Q.length).map dJ)]=.ok (.int (oU Q.length).length):=by
  show ε (δ (((oU Q.length).map dJ).length:ae))=_;rw[ay]
 have mo:=j4 (c1 / 4) ((oU Q.length).length:ae) (by lia);have q0:=lm (c1 / 4) (show((oU Q.length).length:ae)≠0 by lia);have q1:=lq (c1 / 4) (show(0:ae)<((oU Q.length).length:ae) by lia);obtain⟨i,hi⟩:∃i:ah,c1 / 4 % ((oU Q.length).length:ae)=i:=⟨(c1 / 4 % ((oU Q.length).length:ae)).toNat,by lia⟩
 rw[hi] at mo q1;have hil:i<(oU Q.length).length:=by lia
 have go:getD (.scr ((oU Q.length).map dJ)) (.int (i:ae))=.ok (dJ (oU Q.length)[i]):=by
  have:=RN ((oU Q.length).map dJ) i (by rw[ay];exact hil);rw[e7] at this;exact this
 have hop:=JQ _ _ (fq hil);generalize (oU Q.length)[i]=o at *;have hol:o.length=Q.length:=by rw[hop.length_eq,gp]
 have hob:∀j∈o,j<4:=λj hj=>by have:=df.mp (hop.mem_iff.mp hj);lia
 have hopu:(dJ o).pure=ag:=by
  show θ (o.map λ(j:ah)=>δ j)=ag;have:=dO (o.map λ(j:ah)=>(j:ae));rw[bu] at this;exact this
 have lQ:gC [.tup (Q.map pcD)]=.ok (.int Q.length):=by
  show ε (δ ((Q.map pcD).length:ae))=_;rw[ay]
 have hN:=aQa hop hm4;have hnum2:Q2.map (·.1)=(bn Q.length).map λ(k:ah)=>(1+(k:ae)):=hnum.trans g.nums
 rw[<-hnum2] at hN;have hZ:(nZ o Q.length).map (·.1)=Q2.map (·.1):=(aH1 _ _).trans hnum2.symm;have hNew:=aQ3 (Z:=nZ o Q.length) (by rw[hZ];exact w2.wf.nd) (λz=>by have:=w2.wf.qp 0 (by rw[<-hZ];exact z);lia);rw[hZ] at hNew;have hcar:=rK (net:=bL Q2 V2 r2) w2.wf rfl rfl rfl (λz=>by cases z) hNew;have w3:=yN w2 hN;have hl3:Q.length=(cZ (Q2.map (cP (nfZ (nZ o Q.length))))).length:=by
  rw[(dH _).length_eq,ay];have:=cm gS hnum;simpa using this.symm
 have hcar:cD 2 bW [bL Q2 V2 r2,.dct (bG [(.int 0,.int 0)] ((nZ o Q.length).map kvI))]=.ok (bL (cZ (Q2.map (cP (nfZ (nZ o Q.length))))) (dG ((V2.map (cT (nfZ (nZ o Q.length)))).map norm)) r2):=hcar;generalize cZ (Q2.map (cP (nfZ (nZ o Q.length))))=Q' at *;generalize dG ((V2.map (cT (nfZ (nZ o Q.length)))).map norm)=V' at *;have al:=aFn (r:=(0:ae)) (r':=r2) w w3 hl3;have hal2:∀{due:ap},(due=ag↔Al Q V 0 Q' V' r2)->(due=ag↔Al Q' V' r2 Q V 0):=λ{due} h=>by
  obtain⟨l,l',_,_,e,_⟩:=JP (r:=(0:ae)) (r':=r2) w w3;obtain⟨k,k',_,_,e',_⟩:=JP (r:=r2) (r':=(0:ae)) w3 w;rename_i t1 t2 _ t3 t4 _;rw[h,e,e'];have a1:cQ Q V 0 l=cQ Q V 0 k':=by rw[t1] at t4;injection t4
  have a2:cQ Q' V' r2 l'=cQ Q' V' r2 k:=by rw[t2] at t3;injection t3
  rw[a1,a2];exact⟨Eq.symm,Eq.symm⟩
 have hu:bL Q V 0≠.uD:=λz=>by cases z
 have hu2:bL Q2 V2 r2≠.uD:=λz=>by cases z
 have hu':bL Q' V' r2≠.uD:=λz=>by cases z
 have hsc:ν (ns.map δ)≠.uD:=λz=>by cases z
 have ho':dJ o≠.uD:=λz=>by cases z
 obtain⟨y7,hln⟩:=aKt (o:=o) (sc:=.scr (ns.map δ)) (x1:=.lst [.str n0,.str n1,.str n2]) (x2:=bL Q V 0) (x3:=bL Q2 V2 r2) (x5:=.scr ((oU Q.length).map dJ)) (x7:=.uD) (x8:=.uD) hob (by lia);rw[hol] at hln;obtain⟨due,y6,hd,hdl⟩:=aFv (r:=(0:ae)) (r':=r2) (sc:=.scr (ns.map δ)) (x1:=.lst [.str n0,.str n1,.str n2]) (x4:=.dct (bG [(.int 0,.int 0)] ((nZ o Q.length).map kvI))) (x5:=.scr ((oU Q.length).map dJ)) (x6:=dJ o) (x7:=y7) w w3 hl3;have hd:=hd.trans al.symm;obtain⟨l,l',t1,t2,te,tf⟩:=JP (r:=(0:ae)) (r':=r2) w w3;obtain⟨k,k',_,_,_,tf'⟩:=JP (r:=r2) (r':=(0:ae)) w3 w;obtain⟨d1,hA1,hF1⟩:=tf due hd;obtain⟨d2,hA2,hF2⟩:=tf' due (hal2 hd);have ol:=aD2 o;rw[hol] at ol;have hfin:∃b:ap,b8 .eq (cQ Q V 0 l) (cQ Q' V' r2 l')=.ok (.bl b)/\b=due:=by
  have p1:=jF (cZ (Q.map (cP l))) (dG ((V.map (cT l)).map norm)) 0;have p2:=jF (cZ (Q'.map (cP l'))) (dG ((V'.map (cT l')).map norm)) r2;by_cases q:cQ Q V 0 l=cQ Q' V' r2 l'
  ·exact⟨ag,by rw[q];exact eq_self p2.1 p2.2,(hd.mpr (te.mpr q)).symm⟩
  ·refine⟨ai,(R1 p1.1 p2.1 p1.2 p2.2 q).1,?_⟩;cases h:due with
   |false=>rfl
   |true=>exact az (te.mp (hd.mp h)) q
 obtain⟨b,hb1,rfl⟩:=hfin;have hbb:b8 .eq (.bl b) (.bl b)=.ok (.bl ag):=by cases b<;>rfl
 generalize hSC:ν (ns.map δ)=sc at *;generalize hNS:υ [.str n0,.str n1,.str n2]=nsd at *;have hnsd:nsd≠.uD:=λz=>by rw[<-hNS] at z;cases z
 generalize hMD:bG [(.int 0,.int 0)] ((nZ o Q.length).map kvI)=md at *;generalize hOR:ν ((oU Q.length).map dJ)=ors at *;have hors:ors≠.uD:=λz=>by rw[<-hOR] at z;cases z
 have eQ:getD (bL Q V 0) (.int 0)=.ok (.tup (Q.map pcD)):=rfl;generalize cQ Q V 0 l=tA at *;generalize cQ Q' V' r2 l'=tB at *;generalize bL Q V 0=one at *;generalize bL Q2 V2 r2=two at *;generalize bL Q' V' r2=other at *;generalize hOD:dJ o=od at *;have lo:gC [od]=.ok (.int Q.length):=ol;have v0:∀(x1 x2 x3 x4 x5 x6 x7 x8:D),iU 0 [sc,x1,x2,x3,x4,x5,x6,x7,x8]=.ok sc:=λ_ _ _ _ _ _ _ _=>cC rfl hsc
 have v1:∀(x0 x2 x3 x4 x5 x6 x7 x8:D),iU 1 [x0,nsd,x2,x3,x4,x5,x6,x7,x8]=.ok nsd:=λ_ _ _ _ _ _ _ _=>cC rfl hnsd
 have v2:∀(x0 x1 x3 x4 x5 x6 x7 x8:D),iU 2 [x0,x1,one,x3,x4,x5,x6,x7,x8]=.ok one:=λ_ _ _ _ _ _ _ _=>cC rfl hu
 have v3:∀(x0 x1 x2 x4 x5 x6 x7 x8:D),iU 3 [x0,x1,x2,two,x4,x5,x6,x7,x8]=.ok two:=λ_ _ _ _ _ _ _ _=>cC rfl hu2
 have v3':∀(x0 x1 x2 x4 x5 x6 x7 x8:D),iU 3 [x0,x1,x2,other,x4,x5,x6,x7,x8]=.ok other:=λ_ _ _ _ _ _ _ _=>cC rfl hu'
 have v5:∀(x0 x1 x2 x3 x4 x6 x7 x8:D),iU 5 [x0,x1,x2,x3,x4,ors,x6,x7,x8]=.ok ors:=λ_ _ _ _ _ _ _ _=>cC rfl hors
 have v6:∀(x0 x1 x2 x3 x4 x5 x7 x8:D),iU 6 [x0,x1,x2,x3,x4,x5,od,x7,x8]=.ok od:=λ_ _ _ _ _ _ _ _=>cC rfl ho'
 refine call_v ?_;refine aJ (ρ':=[sc,nsd,.uD,.uD,.uD,.uD,.uD,.uD,.uD]) (bN (i:=1) (aL (xs:=[.int c0]) (aC (aL (xs:=[sc,.int 0]) (aC (v0 _ _ _ _ _ _ _ _) (aC rfl rfl)) hc0) rfl) nm)) ?_;refine aJ (ρ':=[sc,nsd,one,.uD,.uD,.uD,.uD,.uD,.uD]) (bN (i:=2) (aL (xs:=[nsd,.int sd,.lst (cs.map δ)]) (aC (v1 _ _ _ _ _ _ _ _) (aC (aH (aL (xs:=[sc,.int 1]) (aC (v0 _ _ _ _ _ _ _ _) (aC rfl rfl)) hc1) rfl m4) (aC (aBi (v0 _ _ _ _ _ _ _ _) (H_ rfl) (H_ rfl) hs) rfl))) hnet)) ?_;refine aJ (ρ':=[sc,nsd,one,two,.uD,.uD,.uD,.uD,.uD]) (bN (i:=3) (aL (xs:=[one,nsd,.int c2]) (aC (v2 _ _ _ _ _ _ _ _) (aC (v1 _ _ _ _ _ _ _ _) (aC (aL (xs:=[sc,.int 2]) (aC (v0 _ _ _ _ _ _ _ _) (aC rfl rfl)) hc2) rfl))) hch)) ?_;refine aJ (ρ':=[sc,nsd,one,two,.dct [(.int 0,.int 0)],.uD,.uD,.uD,.uD]) (dN (i:=4) (aH rfl rfl rfl) rfl) ?_;refine aJ (ρ':=[sc,nsd,one,two,.dct [(.int 0,.int 0)],ors,.uD,.uD,.uD]) (bN (i:=5) (aL (xs:=[.int Q.length]) (aC (aL (xs:=[.tup (Q.map pcD)]) (aC (aH (v2 _ _ _ _ _ _ _ _) rfl eQ) rfl) lQ) rfl) hor)) ?_;refine aJ (ρ':=[sc,nsd,one,two,.dct [(.int 0,.int 0)],ors,od,.uD,.uD]) (mC (i:=6) (aH (v5 _ _ _ _ _ _ _ _) (aH (aH (aL (xs:=[sc,.int 1]) (aC (v0 _ _ _ _ _ _ _ _) (aC rfl rfl)) hc1) rfl d4) (aL (xs:=[ors]) (aC (v5 _ _ _ _ _ _ _ _) rfl) lor) mo) go) hopu) ?_;refine aJ (mW (uO (n:=(Q.length:ae)) (aC (aL (xs:=[od]) (aC (v6 _ _ _ _ _ _ _ _) rfl) lo) rfl) (by lia) (by lia)) (by rw[kh];exact hln)) ?_;refine aJ (ρ':=[sc,nsd,one,other,.dct md,ors,od,y7,.uD]) (bN (i:=3) (aL (xs:=[two,.dct md]) (aC (v3 _ _ _ _ _ _ _ _) (aC rfl rfl)) hcar)) ?_;refine aJ (ρ':=[sc,nsd,one,other,.dct md,ors,od,y7,.bl ai]) (bN (i:=8) rfl) ?_;refine aJ (aFw (xs:=(oU Q.length).map dJ) (by rw[hOR];exact v5 _ _ _ _ _ _ _ _) hdl) ?_;refine aJ (ρ':=[sc,nsd,one,other,.dct md,ors,y6,y7,.bl b]) (rB (uW (b:=ag) (uY (aL (xs:=[d1,one,other,.bl b]) (aC (aL (xs:=[one,other]) (aC (v2 _ _ _ _ _ _ _ _) (aC (v3' _ _ _ _ _ _ _ _) rfl)) hA1) (aC (v2 _ _ _ _ _ _ _ _) (aC (v3' _ _ _ _ _ _ _ _) (aC rfl rfl)))) hF1))) rfl) ?_;refine aJ (ρ':=[sc,nsd,one,other,.dct md,ors,y6,y7,.bl b]) (rB (uW (b:=ag) (uY (aL (xs:=[d2,other,one,.bl b]) (aC (aL (xs:=[other,one]) (aC (v3' _ _ _ _ _ _ _ _) (aC (v2 _ _ _ _ _ _ _ _) rfl)) hA2) (aC (v3' _ _ _ _ _ _ _ _) (aC (v2 _ _ _ _ _ _ _ _) (aC rfl rfl)))) hF2))) rfl) ?_;exact fG (aH (aH (aL (xs:=[one]) (aC (v2 _ _ _ _ _ _ _ _) rfl) t1) (aL (xs:=[other]) (aC (v3' _ _ _ _ _ _ _ _) rfl) t2) hb1) rfl hbb) rfl
end Lk14
section
open PySem PySem.W PyProof.Rows
namespace PySem.W.Fast
def tw11658120316246817747:=()
def tw8821766882034410856:=()
def tw8412709721848492768:=()
def tw3137971605355577134:=()
def tw12486847978844136979:=()
def tw16954618410053438189:=()
def tw1343936378467674858:=()
def tw11891734767073538708:=()
def tw15931774838551441866:=()
def tw3246468262106851862:=()
def tw15113557597532838802:=()
def tw12268643849548501132:=()
def tw9255723728142390568:=()
def tw18175961329098110187:=()
def tw10145995613120312416:=()
def tw9153370160435770570:=()
def tw6902933101235250898:=()
def tw16265202193661880228:=()
def tw11956639879553466896:=()
def tw7464158434761290975:=()
def tw17457596808641839377:=()
def tw14272894025807251453:=()
def tw10256287666373363228:=()
def tw17288058393261324472:=()
def tw7687770248698022788:=()
def tw4102357240275760680:=()
def tw13388225284568772093:=()
def tw1108064628705086287:=()
def tw5826807189546229904:=()
def tw13377517657548174906:=()
def tw2557961858759865099:=()
def tw5607002401300299722:=()
def tw689298110545724081:=()
def tw7417981385224975327:=()
def tw12479098253469157901:=()
def tw12803444055912739968:=()
def tw1877400300845527903:=()
def tw2224249739915301544:=()
def tw9420105274784662405:=()
def tw10645269089016760119:=()
def tw15804672314069954870:=()
def tw18412365795515190461:=()
def tw11989100387179708834:=()
def tw520385368542423574:=()
def tw7021214776733266054:=()
def tw1104618460646509962:=()
def tw14640621779541555350:=()
def tw17025301230410379975:=()
def tw6369604644576437469:=()
def tw5905091022325285865:=()
def tw8565754544509454997:=()
def tw7999183593010321731:=()
def tw13119566361399492726:=()
def tw3897051139380039079:=()
def tw7655664115967042539:=()
def tw4839936216772486558:=()
def tw9103720505949307576:=()
def tw6361930602396816955:=()
def tw12761259134367839174:=()
def tw5677667867381351970:=()
def tw10634548008119632990:=()
def tw15039424324740719553:=()
def tw243769171301141525:=()
def tw8785762212453930371:=()
def tw1309042952712278526:=()
def tw16897805456603337884:=()
def tw12737852462745486186:=()
def tw11191813218879998275:=()
def tw8939427112436391632:=()
def tw3255241757177171779:=()
def tw2485753617153336869:=()
def tw17688296956267227195:=()
def tw7183175924400994955:=()
def tw1153899069226177382:=()
def tw17741596180204658988:=()
def tw4509894617606857727:=()
def tw9327336619496482941:=()
def tw4810704726875753772:=()
def tw16988512580069815059:=()
def tw15420206885791952030:=()
def tw17867272865027596835:=()
def tw2022679785940468401:=()
def tw1077231562529041267:=()
def tw13237323371070189339:=()
def tw8591457081637514357:=()
def tw10661992909666112184:=()
def tw4267603090380341825:=()
def tw2309763927965608165:=()
def tw9194050868571316000:=()
def tw3056827204204174390:=()
def tw1106617172385355234:=()
def tw7574381717195040806:=()
def tw10514335177902654378:=()
def tw17937762496234240096:=()
def tw16865775641161047937:=()
def tw10197773501700256720:=()
def tw4897672992798270352:=()
def tw8249947809013462685:=()
def tw16463069022171736488:=()
def tw488497592888942299:=()
end PySem.W.Fast
set_option maxRecDepth 100000 in
set_option maxHeartbeats 0 in
theorem PySem.Challenge.cw_hookmill_k14_not_alike_holds : PySem.Challenge.rw_hookmill_k14_not_alike.Holds := by
 w_on;o_law;k_head;(case hw=>w_witness2)
 k_fill
 refine Lk14.walk (l:=PySem.Challenge.rw_hookmill_k14_not_alike) Lk14.main rfl rfl (fun w h Y=>PySem.W.kIn_of Y) ?F
 case F=>
  intro w mg fa h KX G hmg
  refine' Lk14.aNg KX G hmg ?a0 ?a1 ?a2 ?a3 ?a4 ?a5 ?a6 ?a7 ?a8 ?a9 ?a10 ?a11 ?a12 ?a13 ?a14 ?a15 ?a16 ?a17 ?a18 ?a19 ?a20 ?a21 ?a22 ?a23 ?l23 ?c23 ?k23 ?ph ?pj ?pk ?po ?pw ?pz ?pA ?pB ?pC ?pD ?pG ?pH ?pI ?pJ ?pK ?pL ?pM ?pN
  (case a0|a1|a2|a3|a4|a5|a6|a7|a8|a9|a10|a11|a12|a13|a14|a15|a16|a17|a18|a19|a20|a21|a22=>refine' Lk14.aPt ?a ?b ?c ?d;(case a=>k_is);(case b=>k_is);(case c=>k_is);case d=>k_is)
  (case a23|l23|c23|k23|ph|pj|pk|po|pw|pz|pA|pB|pC|pD|pG|pH|pI|pJ|pK|pL|pM|pN=>k_is)
end
