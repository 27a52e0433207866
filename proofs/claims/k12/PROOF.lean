import PyProof.Rows.All
import Wide.All
import OpenK.AllK
import Wide.FinOn
import PySem.Challenge.RW_hookmill_k12_way
open Array renaming toList_append->fE,length_toList->fR,getElem?_toList->hI,getD->iq,toList_inj->lg,toList_push->lh,toList_extract->mq,toList_reverse->om,perm_iff_toList_perm->tJ,getElem?_eq_none->va,toList->v3,size_setIfInBounds->xA,toList_setIfInBounds->xB,size_extract->xC,toList_modify->xE,size_map->zt,size_append->AB,getElem?_eq_getElem->AL
open Array.Perm renaming refl->mM
open Bool renaming true->af,false->ai,and_eq_true->bg,false_eq_true->c_,and_self->ig,or_eq_true->iX,and_true->i5,not_eq_true'->ko,and_false->lb,false_ne_true->lT,false_or->mf,not_true->mj,true_and->nh,or_false->tm,true_or->xn,and_assoc->ye
open Classical renaming choose->zz,choose_spec->zC,byContradiction->As,axiomOfChoice->Ca
open False renaming elim->fm
open ForInStep renaming yield->tP
open Function renaming comp_def->BA,comp->BY
open Int renaming emod_nonneg->lw,toNat_natCast->ri,emod_lt_of_pos->r_,lt_irrefl->xL,mul_le_mul->Ba,mul_nonneg->Bb
open List renaming length_map->aI,mem_cons->bm,mem_cons_of_mem->bq,map_cons->br,mem_cons_self->bu,mem_map->b6,size_toArray->cg,length_cons->ck,range->cq,length_append->cw,replicate->cz,mem_append->cS,map_append->c5,map_map->df,append_assoc->dg,all_eq_true->dh,nodup_cons->dq,getElem?_eq_some_iff->dy,getElem?_eq_getElem->dz,cons_append->dS,getElem?_set_ne->ef,mem_append_right->eo,getD_eq_getElem?_getD->eu,mem_singleton->eI,mem_append_left->eM,map->eS,length_nil->eT,nil_append->eW,map_congr_left->e8,cons_lt_cons_iff->fy,getElem?_set_self->fN,append_nil->f_,all_cons->gi,nodup_append->gq,length->gu,drop_eq_getElem_cons->gz,getElem_mem->gN,map_id->gV,length_take->hG,nodup_nil->ie,getElem?_append_right->io,length_drop->iE,find?_cons->iF,map_nil->iL,pairwise_cons->iP,lookup_cons->i0,pairwise_map->i6,getElem?_append_left->jd,length_singleton->jh,length_range->jw,getElem?_replicate->ke,getElem?_map->kf,any_cons->ki,toList_toArray->kt,mem_flatMap->kC,foldl_cons->li,mem_filter->ly,mem_range->lz,drop_of_length_le->mo,extract_eq_take_drop->mr,getElem?_drop->mv,take_of_length_le->mw,getElem_of_mem->mz,take_append_drop->mI,range'->nj,getElem?_set->np,pairwise_append->nt,flatMap_cons->nu,getElem?_take_of_lt->nI,mem_of_getElem?->nK,take_add_one->oj,zip_cons_cons->oI,take_succ_eq_append_getElem->rf,drop_eq_nil_of_le->rh,not_mem_nil->rq,range'_succ->sd,range_eq_range'->se,flatten_append->sg,flatten_singleton->sh,filterMap_cons->su,of_mem_zip->sK,pairwise_iff_getElem->tF,range_succ_eq_map->t9,eq_nil_of_length_eq_zero->ug,foldl_append->uq,take_length->ur,length_filter_le->vk,flatMap_append->vm,getElem_map->vo,mem_filterMap->wt,length_replicate->w8,mem_of_mem_drop->xt,take_zero->xv,drop_drop->xw,zipIdx_cons->xy,lt_of_le_of_lt->xS,not_lt->ya,forIn_nil->yb,zip_nil_left->zi,zip_nil_right->zk,lt_irrefl->zD,mem_range'_1->Ar,map_drop->AC,dropLast_eq_take->AE,getElem?_eq_none->AV,getElem?_cons_succ->AW,find?_eq_none->A2,set_set->A9,all_nil->Bc,foldl_nil->Bd,filter_eq_self->Be,perm_middle->Bf,nodup_range->Bh,count_cons->Bi,filter_sublist->Bj,perm_append_comm->Bl
open List.Nodup renaming count->B6
open List.Pairwise renaming map->vh,nil->By,imp₂->B9
open List.Perm renaming append_left->kB,cons->Bg,eq_of_pairwise->Bz,of_eq->B4,refl->B5,append_right->B8
open List.Sublist renaming refl->B7
open List.cons renaming injEq->jn
open Nat renaming le_refl->ba,ne_of_lt->c9,le_trans->dn,lt_of_lt_of_le->em,zero_le->eR,lt_irrefl->fj,lt_succ_of_lt->ic,le_succ->iu,lt_succ_self->jq,ne_of_gt->jS,le_of_lt->lI,le_of_eq->og,lt_or_ge->ow,le_of_ble_eq_true->rL,add_zero->tI,add_assoc->xD,le_succ_of_le->zu,zero_add->Ac,lt_of_le_of_lt->Aq,lt_of_not_le->Az,add_sub_cancel_left->AZ
open Nat.succ renaming inj->ut
open Option renaming some->ae,none->ak,map_eq_some_iff->lf,getD_some->ov,isSome_iff_exists->sM,isSome_some->tu,isSome_map->tw,getD_none->xh,bind_some->AA,map_eq_none_iff->A1
open Option.some renaming inj->cx,injEq->ii
open Or renaming inl->km
open Prod renaming fst->Aa,snd->Bk
open Prod.mk renaming injEq->ij
open PyProof.Rows renaming arrOf->am,Keyed->au,wpS_bind->aE,wpS_pure->aS,pendingOf->bh,SortSt->cm,wpS->c8,mirror->db,setArr->dt,wpS_mono->dP,wpS_forRange->dQ,seqObj->eB,failedOf->fx,pairsOf->fF,envOfC->gd,SortKind->gh,wpS_get->gL,wpS_modify->iO,wpS_reverse->iS,AllBare->i8,wpS_lift->jk,mirror_perm->jm,mirror_size->kn,callWith_type1->l5,IntsAre->mh,tuples'->ng,subscriptTail->nS,setPending->oq,bubble->ot,boot_range->sD,slot_tuple_getitem->tf,keyKind'->ub,sortedHeap->uc,listUpdate_at->ud,seqEpoch_at->ue,slicePart_none->w_,subscriptTail_builtinR->xf,keyLt'_oneType->zI,oneLt_int->zS,oneLt_str->z3,pairsOf_size->Ab,callWith_builtin1->Bn,lt_int->BD,le_int->BE,gt_int->BF,ge_int->BG,lt_str->BH,oneLt'_eq->BI,lt'_eq->BM,pairsOf_toList->BN,mem_zip_self->BO,collect_list->BQ,size_push'->BS,boot_enumerate->B2
open PyProof.Rows.SortSt renaming mk'->mi
open PySem renaming Value->aj,Addr->al,Shared->ao,model->ax,wpAny_bind->ay,Heap->aT,Obj->bb,wpAny_pure->bf,World->bi,sizeLine->bj,Program->bn,Stmt->bo,starEach->bp,Around->bw,Pos->bz,cLine->bE,eval->bP,mainGlobals->cK,compareOp->de,argBest->du,Env->dw,Sem->eg,swapsWith->eh,bootBuiltins->en,foldedSetIterable->eC,sizeLine_eq->eD,backTo->eJ,wpAny_mono->eL,FuncData->eP,Tok->ff,sysModules->fi,Scope->fq,pyNext->fu,wpAny_newObj_type->fw,pyIter->fS,binaryOp->fT,plainId_quiet->gj,codeAny_builtin->gn,CmpOp->gr,wpAny_holding->gv,Keyword->gw,rawInt->gX,NameKind->im,DictEntry->ip,relabel->ir,wpAny_truthy_bool->iA,atKey->iN,wpAny_tryCatch->i7,Model->i9,PassesOwn->ja,bindL->jb,bindC->jc,IsPart->je,attributeBase->jf,call_meets->jg,wpAny_rule->jl,richCompare_meets_room->jr,wpAny_letGo->ju,Paired->jz,wpAny_passesOwn->jI,rule->ka,wpAny_Call_Name_kw->kb,getItem->kg,sliceBounds->kh,valueAt->kj,callerA->kl,Meets->kq,wpAny_seqItems->kx,wpAny_updateSeq->ky,wpAny_pyIter_list->kA,tupleKind->kG,GenState->kH,Drawn->kK,behindInMarks->kP,Result->kQ,BindsTo->kX,codeAny_mono->k5,mem_of_lookup->k6,typeOf->k8,backToKw->k9,keywordEach->la,stored->lc,compPost->lj,richCompare->lm,seqItems?->lp,updateSeq->lq,wpAny_of_eq->lr,assign->lP,assignEach->lS,wpAny_call_entry->l7,typeLookup->l8,collect->mT,IsEnum->nr,Str->nv,isTrue->ny,wpAny_execs_nil->nz,letOwnedTupleGo->nB,unaryOp->nE,subscripted->nV,tupleKind_room_in1->n4,merged->n9,Params->oe,Builtin->oh,call_function_tree->qS,wpAny_pyIter_tuple->rg,wpAny_typeNameOfWhole_keyiter->rm,wpAny_fieldsOf->rn,wpAny_typeNameOf_keyiter->ro,typeLookup_type->rS,builtinLookup_eq_fast->rV,OsState->rX,builtinsNs->sr,spliced->sv,wpAny_Name->sw,small_one->sA,rangeSize_one->sC,holding->sF,cellsFrom->sL,wpAny_field->sQ,wpAny_callSpecial?_slot->sT,wpAny_typeOf->ti,operate->tj,call->tx,newList->t5,wpAny_attempt->uh,newTuple->uo,entryFor->uv,wpAny_dictEntries->uz,wpAny_dictEpoch->uS,wpAny_isOneOf_keyiter->u7,getAttr?->vf,Within->vF,wpAny_Constant_int->vS,wpAny_execs_cons->wa,interactive->wb,wpAny_pyNext_list_item->wc,wpAny_pyNext_list_end->wd,wpAny_pyNext_tuple_item->we,wpAny_pyNext_tuple_end->wg,IsRangeIter->wj,call_range_1->wo,intBits_le_64->wu,recursionLimit->wv,evalPart_none->xb,seqIndex_of->xc,slot_list_getitem->xg,call_list_seq->xi,comprehension->yc,eval_ListComp->yd,wpAny_newList->zq,wpAny_standAt->Av,wpAny_Assign_Subscript->Ay,call_list_range->AD,wpAny_notOrdered_dict->AH,wpAny_setField->AM,firstArgMember->AS,codeAny_call_builtin->AY,wpAny_pyIter_enum->A0,entryFor_alias->A3,wpAny_raiseAttrError->A4,attrMsg_fits->A5,sub_AttributeError->A7,getattributeRaised->A8,wpAny->ϑ
open Decidable renaming decide->ϒ
open PySem.Around renaming under_plainId->gS
open PySem.AutoSeq1 renaming wpAny_loadPart'->vb,sub_list_list->zn,list_extend_list_list_0->Bw,sub_tuple_tuple->BB,list_insert_list_int_val_1->BU
open PySem.Builtin.Builtins renaming bindParams->qV
open PySem.Builtin.Dict renaming dictSlotNone->B0,showsAll->B1,addKeywords->B3
open PySem.Builtin.Dict_items renaming ownsTuple->AI
open PySem.Builtin.List renaming listTooLong->ma,listFitsIndex->Ax,listExtendWith->AT
open PySem.Builtin.Range renaming rangeSize->sB
open PySem.Builtin.Slice renaming slicePlaces->nL,sliceAdjust->sP,sliceApplied->xa,slicePartIndex->Bo,sliceFields->Bp
open PySem.Builtin.Tuple renaming tupleExact->nN,tupleItemsOf->Bq,tupleCompareSizes->BC
open PySem.Calls renaming Name_function_global->vT,spliced_nil->wx,spliced_cons->wy,callWith_builtin->xj
open PySem.Code renaming quiet_builtin->vd,call->AX
open PySem.Data renaming seq->vE,fields->wl,cell->wm
open PySem.F renaming plain_min_loop->jt,plain_max_loop->jv,plainAttrs_list->lu,slot_dict_keyiterator_next->nq,slot_list_extend->nX,slot_list_append->tq,slot_list_lt->ua,entry_min_loop->ul,entry_max_loop->um,called_enumerate->vc,slot_list_getattribute->ve,slot_tuple_getattribute->vg,entry_list_extend->xk,args_list_extend_2->xl,slot_list_pop->xm,entry_list_lt->zo,args_list_lt_2->zp,kind_min->Ad,plain_min->Ae,entry_min->Af,kind_max->Ag,plain_max->Ah,entry_max->Ai,type_list_append->Au,slot_list_insert->Aw,type_list_extend->AF,slot_dict_iter->AG,entry_dict_keyiterator_next->AJ,args_dict_keyiterator_next_1->AK,plain_list_iadd->AU
open PySem.Heap renaming lt_size->bS,get?_push_of_some->cr,get?_push_size->di,size_push->iv,SameBut->kM,get?_update_other->l9,get?_update_self->ni,size_update->uf,get?_push_ne->zr,get?_update_ne->zw,ExtBut->AR,NewAttrErr->A6
open PySem.Heap.DictOf renaming new->xp
open PySem.Heap.IsSliceOf renaming new->Br
open PySem.Heap.SameBut renaming update->AQ
open PySem.IsL renaming update->Bu
open PySem.IsiPair renaming dict_int->Ak,dict_str->Al,dict_bool->Am,dict_list->An,dict_tuple->Ao,dict_dict->Ap
open PySem.MeetsSeq renaming list_pop_last->Bx
open PySem.MeetsSeq3 renaming plain_eq_loop->oP,entry_eq_loop->zm
open PySem.NameKind renaming free->jo,cell->t0
open PySem.Obj renaming mapSeq->fA,mapFields->AN,data_mapFields->AO
open PySem.Paired renaming length->kF,snoc->xo
open PySem.PassesOwn renaming never->dL
open PySem.SeqAt renaming RcAt->iw,RcNeAt->ix
open PySem.SeqAt.EqAt renaming of_refs->mS,same->ox,int_str->vx,str_int->vz,none_list->yh,bool_list->yl,int_list->yo,str_list->yr,tuple_list->yw,list_none->yz,list_bool->yT,list_int->zb,list_str->ze,list_tuple->zh
open PySem.SeqAt.RcAt renaming lists->oy,lists_lengths->oB,none_list->yf,bool_list->yj,int_list->ym,str_list->yp,tuple_list->yt,list_none->yx,list_bool->yA,list_int->yY,list_str->zc,list_tuple->zf
open PySem.SeqAt.RcNeAt renaming lists->oz,lists_lengths->oD,none_list->yg,bool_list->yk,int_list->yn,str_list->yq,tuple_list->yu,list_none->yy,list_bool->yB,list_int->za,list_str->zd,list_tuple->zg
open PySem.Str renaming ofString->s_
open PySem.Value renaming ref->fI,none->jy,type->lx,bool->nw,int->si,str->sj,isInt->vp,isStrOf->vw,notImplemented->zl
open PySem.W renaming Frag->bX,fnOf->k7,keepIn->l6,nsIn->ou,Looks->oQ,kat_kind->oT,methodObj->so,codeIn->sN,cellsFrom_some->wz
open PySem.W.Looks renaming of_pure->oS,ld->z5
open PySem.W.WData renaming int->xq
open PySem.W.WShape renaming has->xr
open PySem.Walks renaming tuple->Aj
open Sum renaming inl->fo,inr->jx
open _root_ renaming List->aa,Int->ag,Nat->ah,Bool->ap,if_pos->aq,if_neg->av,Array->aw,Option->az,absurd->bd,if_false->b9,if_true->cb,decide_eq_true->cu,False->cy,decide_eq_false->c6,String->dm,decide_eq_true_eq->d4,congrArg->d6,of_decide_eq_true->e9,DecidableEq->fg,not_or->hX,True->ik,Unit->iz,StateT->ji,eq_iff_iff->kr,Decidable->mB,beq_iff_eq->mE,beq_self_eq_true->mN,decide_eq_false_iff_not->mP,beq_eq_false_iff_ne->sn,dif_pos->tT,decide_eq_decide->vn,eq_false_of_ne_true->xu,getElem?_pos->xI,bne_self_eq_false->zv,decide_false->Bm
set_option Elab.async false
set_option maxRecDepth 100000
set_option maxHeartbeats 4000000
noncomputable section
set_option linter.all false
set_option autoImplicit true
set_option genSizeOfSpec false
set_option genInjectivity true
abbrev nDb(x:nv):Prop:= (x==("__debug__" : nv))=ai
abbrev nCd(x:nv):Prop:= (x==("__classdict__" : nv))=ai
namespace L2
open PySem PySem.Spec PyProof.Rows
noncomputable abbrev Key:=Sum ag Str
noncomputable def NZ:Key->aj->ap
 |.inl k,v=>vp k v
 |.inr x,v=>vw x v
noncomputable def aO6(w:bi):Key->ag
 |.inl k=>hashInt k
 |.inr x=>hashStr w x
theorem cJ:∀{k:Key}{v:aj},NZ k v=af->(∃i t,k=fo i/\v=si i t)\/(∃x t,k=jx x/\v=sj x t)
 |.inl i,v,h=>by
  obtain⟨t,e⟩:=Value.isInt_shape (k:=i) (v:=v) h;exact .inl ⟨i,t,rfl,e⟩
 |.inr x,v,h=>by
  obtain⟨t,e⟩:=Value.isStrOf_shape (x:=x) (v:=v) h;exact .inr ⟨x,t,rfl,e⟩
theorem W6(i:ag)(t:ff):NZ (.inl i) (.int i t)=af:=by simp[NZ,vp]
theorem W7(x:Str)(t:ff):NZ (.inr x) (.str x t)=af:=by simp[NZ,vw]
theorem aIq(a b:ag):ϒ ((fo a:Key)=fo b)=(a==b):=by
 by_cases e:a=b
 ·subst e;simp
 ·have h:¬(fo a:Key)=fo b:=λq=>e (Sum.inl.inj q)
  rw[c6 h];exact(sn.mpr e).symm
theorem aIr(a b:Str):ϒ ((jx a:Key)=jx b)=ϒ (a=b):=by
 by_cases e:a=b
 ·subst e;simp
 ·have h:¬(jx a:Key)=jx b:=λq=>e (Sum.inr.inj q)
  rw[c6 h,c6 e]
theorem aIs(a:ag)(b:Str):ϒ ((fo a:Key)=jx b)=ai:=c6 (λq=>nomatch q)
theorem aIt(a:Str)(b:ag):ϒ ((jx a:Key)=fo b)=ai:=c6 (λq=>nomatch q)
def cL(prog:bn)(w:bi):PySem.KeyKind prog w Key where
 is:=NZ
 hash:=aO6 w
 inj:=λv a b ha hb=>by
  rcases cJ ha with ⟨i,t,rfl,rfl⟩|⟨x,t,rfl,rfl⟩
  ·rcases cJ hb with ⟨j,u,rfl,e⟩|⟨y,u,rfl,e⟩
   ·injection e with e1 _;rw[e1]
   ·exact nomatch e
  ·rcases cJ hb with ⟨j,u,rfl,e⟩|⟨y,u,rfl,e⟩
   ·exact nomatch e
   ·injection e with e1 _;rw[e1]
 byValue:=λk v h=>by
  rcases cJ h with ⟨i,t,rfl,rfl⟩|⟨x,t,rfl,rfl⟩<;>rfl
 pyHash:=λhv h=>by
  rcases cJ hv with ⟨i,t,rfl,rfl⟩|⟨x,t,rfl,rfl⟩
  ·exact wpAny_pyHash_int h
  ·exact wpAny_pyHash_str h
 eqBool:=λhu hv h=>by
  rcases cJ hu with ⟨i,t,rfl,rfl⟩|⟨x,t,rfl,rfl⟩
  ·rcases cJ hv with ⟨j,u,rfl,rfl⟩|⟨y,u,rfl,rfl⟩
   ·rw[aIq] at h;exact wpAny_eqBool_int h
   ·rw[aIs] at h;exact vx i t y u _ _ _ _ h
  ·rcases cJ hv with ⟨j,u,rfl,rfl⟩|⟨y,u,rfl,rfl⟩
   ·rw[aIt] at h;exact vz x t j u _ _ _ _ h
   ·rw[aIr] at h;exact wpAny_eqBool_str h
 «strs»:=λk x t v h=>by
  rcases cJ h with ⟨i,u,rfl,e⟩|⟨y,u,rfl,e⟩
  ·exact nomatch e
  ·injection e with e1 _
   subst e1;cases v<;>rfl
theorem N5(prog:bn)(w:bi)(i:ag)(t:ff):(cL prog w).is (.inl i) (.int i t)=af:=W6 i t
theorem N6(prog:bn)(w:bi)(x:Str)(t:ff):(cL prog w).is (.inr x) (.str x t)=af:=W7 x t
inductive V where
 |non|bl (b:ap)|int (i:ag)|str (x:Str)|byt (b:aw UInt8)|flt (b:UInt64)|ref (a:al)|ty (n:dm)
 deriving fg
def RelV:V->aj->Prop
 |.non,u=>u=jy
 |.bl b,u=>u=nw b
 |.int i,u=>∃t,u=si i t
 |.str x,u=>∃t,u=sj x t
 |.byt b,u=>∃t,u=Value.bytes b t
 |.flt b,u=>∃t,u=Value.float b t
 |.ref a,u=>u=fI a
 |.ty n,u=>u=lx n
abbrev Vals:aa V->aa aj->Prop:=jz RelV
theorem Vals.length{xs:aa V}{us:aa aj}(r:Vals xs us):xs.length=us.length:=kF r
theorem Vals.get:∀{xs:aa V}{us:aa aj}{i:ah}{x:V},Vals xs us->xs[i]?=ae x->∃u,us[i]?=ae u/\RelV x u
 |_,_,_,_,.nil,e=>by simp at e
 |_,_,0,_,.cons r _,e=>by simp at e;subst e;exact⟨_,rfl,r⟩
 |_,_,i+1,x,.cons _ t,e=>by
  obtain⟨u,h1,h2⟩:=Vals.get (i:=i) (x:=x) t (by simpa using e);exact⟨u,by simpa using h1,h2⟩
theorem Vals.append:∀{xs ys:aa V}{us ws:aa aj},Vals xs us->Vals ys ws->Vals (xs++ys) (us++ws)
 |_,_,_,_,.nil,s=>s
 |_,_,_,_,.cons r t,s=>.cons r (Vals.append t s)
theorem Vals.take:∀{xs:aa V}{us:aa aj}(n:ah),Vals xs us->Vals (xs.take n) (us.take n)
 |_,_,0,_=>.nil
 |_,_,_+1,.nil=>.nil
 |_,_,n+1,.cons r t=>.cons r (Vals.take n t)
theorem Vals.drop:∀{xs:aa V}{us:aa aj}(n:ah),Vals xs us->Vals (xs.drop n) (us.drop n)
 |_,_,0,r=>r
 |_,_,_+1,.nil=>.nil
 |_,_,n+1,.cons _ t=>Vals.drop n t
def aC7:az V->az aj->Prop
 |some v,ae u=>RelV v u
 |none,ak=>ik
 |_,_=>cy
def KV{κ:Type}:aa (κ×V)->aa (κ×aj)->Prop:=jz λ(p:κ×V)(q:κ×aj)=>p.1=q.1/\RelV p.2 q.2
noncomputable def kV:Key->V
 |.inl i=>.int i
 |.inr x=>.str x
inductive HO where
 |lst (xs:aa V)
 |tup (xs:aa V)
 |dK (kvs:aa (Key×V))|dT (kvs:aa (aa Key×V))
 |set (S:ag->ap) (n:ah)
 |ins (C dx:al) (fs:aa (Str×V))
 |own (x:al)
 |xd (fs:aa (Str×V))
 |met (f x:al)
 |rng (lo hi:ag)
 |frz (o:bb) (u:HO)
 |tbl (ps:aw aj)
 |ext (φ:aT->Prop)
noncomputable abbrev Hp:=al->az HO
noncomputable def upd(H:Hp)(a:al)(o:HO):Hp:=λb=>if b=a then ae o else H b
theorem aH{H:Hp}{a:al}{o:HO}:upd H a o a=ae o:=by unfold upd;rw[aq rfl]
theorem aX{H:Hp}{a b:al}{o:HO}(h:b≠a):upd H a o b=H b:=by unfold upd;rw[av h]
theorem N7{H:Hp}{a:al}{o u:HO}:upd (upd H a o) a u=upd H a u:=by
 funext b;unfold upd;split<;>rfl
theorem aFd{H:Hp}{a b:al}{o u:HO}(h:H a=ae o)(h':H b=ae u)(d:o≠u):a≠b:=by
 intro e;subst e;rw[h] at h';exact d (cx h')
theorem dI{H:Hp}{a b:al}{o:HO}(h:H a=ae o)(h':H b=ak):a≠b:=by
 intro e;subst e;rw[h] at h';cases h'
def j8(h:aT)(a:al)(its:aw aj):Prop:=∃o,h.get? a=ae o/\o.cls=.type "tuple"/\∃n,(o.data,o.dict)=(vE its n,ak)
theorem j8.tup{h:aT}{a:al}{its:aw aj}(t:j8 h a its):IsTup h a its:=let ⟨o,e,c,n,d⟩:=t;⟨o,e,c,n,d6 (·.1) d⟩
theorem j8.bare{h:aT}{a:al}{its:aw aj}(t:j8 h a its):∃o,h.get? a=ae o/\o.dict=ak:=let ⟨o,e,_,_,d⟩:=t;⟨o,e,d6 (·.2) d⟩
theorem j8.new(h:aT)(items:aw aj):j8 (h.push {cls:=.type "tuple",data:=.seq items}) h.objs.size items:=⟨_,di _ rfl,rfl,_,rfl⟩
section
variable (P:bn) (w:bi)
def jK(H:Hp)(h:aT)(a:al):HO->Prop
 |.lst xs=>xs.length<=bj/\∃(its:aa aj)(n:ah),Vals xs its/\h.get? a=ae {cls:=.type "list",data:=.seq its.toArray n}
 |.tup xs=>xs.length<=bj/\∃its:aa aj,Vals xs its/\j8 h a its.toArray
 |.dK kvs=>kvs.length<=bj/\(a==fi)=ai/\∃vs,KV kvs vs/\h.DictOf (cL P w) a vs
 |.dT kvs=>kvs.length<=bj/\(a==fi)=ai/\∃xs:aa (aa Key×al×aj),
   jz (λ(p:aa Key×V)(q:aa Key×al×aj)=>p.1=q.1/\H q.2.1=ae (.tup (p.1.map kV))/\RelV p.2 q.2.2) kvs xs/\
   ∃o es ep,h.get? a=ae o/\o.ExactDict/\o.data=.dict es ep/\es.toList=xs.map (entryOfKey (kG (cL P w)))/\(xs.map (·.1)).Nodup
 |.set S n=>h.SetOf (intKind P w) a S n
 |.ins C dx fs=>H dx=ae (.own a)/\fs.length<=1000/\dx≠a/\h.get? a=ae (PySem.W.instObj C dx)/\
   ∃mA,h.Ns1 dx mA/\(∀f,aC7 (fs.lookup f) (mA f))/\vF mA (fs.map (·.1))
 |.own _=>∃o,h.get? a=ae o
 |.xd fs=>∃mA,h.Ns1 a mA/\∀f,aC7 (fs.lookup f) (mA f)
 |.rng lo hi=>∃t u v,h.get? a=ae {cls:=.type "range",data:=.fields #[.int lo t,.int hi u,.int 1 v]}
 |.frz o u=>h.get? a=ae o/\jK H h a u
 |.tbl ps=>h.get? a=ae {cls:=.none,data:=.fields ps}
 |.met f x=>h.get? a=ae (so (.ref f) (.ref x))
 |.ext φ=>φ h/\(∃o,h.get? a=ae o)/\∀h1 h2:aT,φ h1->(∀o,h1.get? a=ae o->h2.get? a=ae o)->φ h2
def HOk(H:Hp)(h:aT):Prop:=∀a o,H a=ae o->jK P w H h a o
end
section
variable {P:bn} {w:bi} {H H':Hp} {h h':aT} {a:al} {o:HO}
theorem jK.lt(x:jK P w H h a o):a<h.objs.size:=by
 cases o with
 |lst xs=>obtain⟨_,_,_,_,e⟩:=x;exact bS e
 |tup xs=>obtain⟨_,_,_,p⟩:=x;exact p.tup.lt
 |dK kvs=>obtain⟨_,_,_,_,o,_,_,e,_⟩:=x;exact bS e
 |dT kvs=>obtain⟨_,_,_,_,o,_,_,e,_⟩:=x;exact bS e
 |set S n=>obtain⟨o,_,_,_,e,_⟩:=x;exact bS e
 |ins C dx fs=>obtain⟨_,_,_,e,_⟩:=x;exact bS e
 |own y=>obtain⟨_,e⟩:=x;exact bS e
 |xd fs=>obtain⟨_,⟨_,_,_,e,_⟩,_⟩:=x;exact bS e
 |rng lo hi=>obtain⟨_,_,_,e⟩:=x;exact bS e
 |frz ob u=>obtain⟨e,_⟩:=x;exact bS e
 |tbl ps=>exact bS (show h.get? a=ae _ from x)
 |met f y=>exact bS (show h.get? a=ae _ from x)
 |ext φ=>obtain⟨_,⟨_,e⟩,_⟩:=x;exact bS e
theorem Paired.aM2{α β:Type}{F G:α->β->Prop}:∀{l₁:aa α}{l₂:aa β},jz F l₁ l₂->(∀a b,F a b->G a b)->jz G l₁ l₂
 |_,_,.nil,_=>.nil
 |_,_,.cons r t,f=>.cons (f _ _ r) (Paired.aM2 t f)
theorem jK.stay(x:jK P w H h a o)(k:∀b u,(b=a\/H b=ae (.own a))->h.get? b=ae u->h'.get? b=ae u)
 (ho:∀b,H b=ae (.own a)->H' b=ae (.own a))(ht:∀b xs,H b=ae (.tup xs)->H' b=ae (.tup xs)):jK P w H' h' a o:=by
 induction o with
 |lst xs=>obtain⟨z,its,n,r,e⟩:=x;exact⟨z,its,n,r,k _ _ (.inl rfl) e⟩
 |tup xs=>obtain⟨z,its,r,ob,e,c⟩:=x;exact⟨z,its,r,ob,k _ _ (.inl rfl) e,c⟩
 |dK kvs=>obtain⟨z,y,vs,r,ob,es,ep,e,c⟩:=x;exact⟨z,y,vs,r,ob,es,ep,k _ _ (.inl rfl) e,c⟩
 |dT kvs=>
  obtain⟨z,y,xs,r,ob,es,ep,e,c⟩:=x;exact⟨z,y,xs,Paired.aM2 r λp q z=>⟨z.1,ht _ _ z.2.1,z.2.2⟩,ob,es,ep,k _ _ (.inl rfl) e,c⟩
 |set S n=>obtain⟨ob,es,ep,t,e,c⟩:=x;exact⟨ob,es,ep,t,k _ _ (.inl rfl) e,c⟩
 |ins C dx fs=>
  obtain⟨d,z,ne,e,mA,⟨od,es,ep,e2,c⟩,r⟩:=x;exact⟨ho _ d,z,ne,k _ _ (.inl rfl) e,mA,⟨od,es,ep,k _ _ (.inr d) e2,c⟩,r⟩
 |own y=>obtain⟨ob,e⟩:=x;exact⟨ob,k _ _ (.inl rfl) e⟩
 |xd fs=>obtain⟨mA,⟨od,es,ep,e,c⟩,r⟩:=x;exact⟨mA,⟨od,es,ep,k _ _ (.inl rfl) e,c⟩,r⟩
 |rng lo hi=>obtain⟨t,u,v,e⟩:=x;exact⟨t,u,v,k _ _ (.inl rfl) e⟩
 |frz ob u ih=>obtain⟨e,q⟩:=x;exact⟨k _ _ (.inl rfl) e,ih q⟩
 |tbl ps=>
  have e:h.get? a=ae {cls:=.none,data:=.fields ps}:=x;show h'.get? a=ae {cls:=.none,data:=.fields ps};exact k a _ (.inl rfl) e
 |met f y=>
  have e:h.get? a=ae (so (.ref f) (.ref y)):=x;show h'.get? a=ae (so (.ref f) (.ref y));exact k a _ (.inl rfl) e
 |ext φ=>obtain⟨p,⟨o,e⟩,st⟩:=x;exact⟨st _ _ p λo q=>k _ _ (.inl rfl) q,⟨o,k _ _ (.inl rfl) e⟩,st⟩
theorem HOk.lt(x:HOk P w H h)(e:H a=ae o):a<h.objs.size:=(x a o e).lt
theorem HOk.fresh(x:HOk P w H h)(e:h.objs.size<=a):H a=ak:=by
 cases q:H a with
 |none=>rfl
 |some u=>exact bd (em (x.lt q) e) (fj _)
theorem HOk.kept(x:HOk P w H h)(k:∀b u,h.get? b=ae u->h'.get? b=ae u):HOk P w H h':=λa o e=>
 (x a o e).stay (λb u _ q=>k b u q) (λ_ q=>q) λ_ _ q=>q
theorem HOk.laid(x:HOk P w H h)(k:∀b u,h.get? b=ae u->h'.get? b=ae u)(hp:h.objs.size<=a)(new:jK P w (upd H a o) h' a o):HOk P w (upd H a o) h':=λb u e=>by
 have hn:=x.fresh hp;by_cases hb:b=a
 ·subst hb;rw[aH] at e;cases e;exact new
 ·rw[aX hb] at e;exact(x b u e).stay (λc v _ q=>k c v q) (λc q=>by rw[aX (dI q hn)];exact q) λc xs q=>by rw[aX (dI q hn)];exact q
end
def Rd(H:Hp)(a:al)(u:HO):Prop:=H a=ae u\/∃o,H a=ae (.frz o u)
theorem Rd.ok{P:bn}{w:bi}{H:Hp}{h:aT}{a:al}{u:HO}(r:Rd H a u)(x:HOk P w H h):jK P w H h a u:=by
 rcases r with r|⟨o,r⟩
 ·exact x a u r
 ·obtain⟨_,q⟩:=x a _ r;exact q
def Mut:az HO->Prop
 |some (.lst _)=>ik
 |some (.dK _)=>ik
 |some (.dT _)=>ik
 |some (.set _ _)=>ik
 |some (.ins _ _ _)=>ik
 |some (.ext _)=>ik
 |_=>cy
section
variable {P:bn} {w:bi} {H:Hp} {h h':aT} {x e:al} {o':HO}
theorem HOk.write(ok:HOk P w H h)(mu:Mut (H x))(he:e=x\/H e=ae (.own x))(k:∀b u,b≠e->h.get? b=ae u->h'.get? b=ae u)(heo:∃u,h'.get? e=ae u)
 (new:jK P w (upd H x o') h' x o'):HOk P w (upd H x o') h':=λb u q=>by
 have nown:∀c y,H c=ae (.own y)->c≠x:=λc y r z=>by subst z;rw[r] at mu;exact mu
 have ntup:∀c xs,H c=ae (.tup xs)->c≠x:=λc xs r z=>by subst z;rw[r] at mu;exact mu
 by_cases hb:b=x
 ·subst hb;rw[aH] at q;cases q;exact new
 ·rw[aX hb] at q;by_cases hbe:b=e
  ·have q':H b=ae (.own x):=by
    rcases he with z|z
    ·exact bd (hbe.trans z) hb
    ·rw[hbe];exact z
   rw[q] at q';cases q';obtain⟨v,hv⟩:=heo;exact⟨v,by rw[hbe];exact hv⟩
  ·refine(ok b u q).stay (λc v hc r=>k c v ?_ r) (λc r=>by rw[aX (nown c b r)];exact r) λc xs r=>by rw[aX (ntup c xs r)];exact r
   rcases hc with rfl|hc
   ·exact hbe
   ·rintro rfl;rcases he with z|z
    ·exact nown c b hc z
    ·rw[hc] at z;cases z;exact hb rfl
end
structure Un(fs ex:aa al)(H H':Hp)(h h':aT):Prop where
 keep:∀b o,h.get? b=ae o->H b=ak->b∉fs->b∉ex->h'.get? b=ae o
 slot:∀b o,h.get? b=ae o->H b=ak->b∈fs->b∉ex->∃sl,h'.get? b=ae {o with slots:=sl}
 free:∀b o,h.get? b=ae o->H b=ak->b∉ex->H' b=ak
 there:∀b o,h.get? b=ae o->b∉ex->∃o',h'.get? b=ae o'
 tups:∀b xs,H b=ae (.tup xs)->H' b=ae (.tup xs)
 frzs:∀b o u,H b=ae (.frz o u)->H' b=ae (.frz o u)
 tbls:∀b ps,H b=ae (.tbl ps)->∃more,H' b=ae (.tbl (ps++more))
section
variable {fs ex:aa al} {H H1:Hp} {h h1 h':aT} {a x e:al} {o:HO}
theorem Un.any(u:Un fs ex H H1 h h1){b:al}{ob:bb}(q:h.get? b=ae ob)(n:H b=ak)(hx:b∉ex):∃sl,h1.get? b=ae {ob with slots:=sl}:=by
 by_cases hb:b∈fs
 ·exact u.slot b ob q n hb hx
 ·exact⟨ob.slots,u.keep b ob q n hb hx⟩
theorem Un.kept(k:∀b u,h.get? b=ae u->h'.get? b=ae u):Un fs ex H H h h':=
 ⟨λb ob q _ _ _=>k b ob q,λb ob q _ _ _=>⟨ob.slots,k b ob q⟩,λ_ _ _ n _=>n,λb ob q _=>⟨ob,k b ob q⟩,λ_ _ q=>q,λ_ _ _ q=>q,λ_ ps q=>⟨#[],by rw[q];simp⟩⟩
theorem Un.refl:Un fs ex H H h h:=Un.kept λ_ _ q=>q
theorem Un.laid(k:∀b u,h.get? b=ae u->h'.get? b=ae u)(hp:h.objs.size<=a)(hn:H a=ak):Un fs ex H (upd H a o) h h' where
 keep:=λb u q _ _ _=>k b u q
 slot:=λb u q _ _ _=>⟨u.slots,k b u q⟩
 free:=λb u q n _=>by rw[aX (c9 (em (bS q) hp))];exact n
 there:=λb u q _=>⟨u,k b u q⟩
 tups:=λb xs q=>by rw[aX (dI q hn)];exact q
 frzs:=λb u xs q=>by rw[aX (dI q hn)];exact q
 tbls:=λb ps q=>⟨#[],by rw[aX (dI q hn),q];simp⟩
theorem Un.write(mu:Mut (H x))(he:e=x\/H e=ae (.own x))(k:∀b u,b≠e->h.get? b=ae u->h'.get? b=ae u)(heo:∃u,h'.get? e=ae u):Un fs ex H (upd H x o) h h':=by
 have hx:∀b,H b=ak->b≠x:=λb n z=>by subst z;rw[n] at mu;exact mu
 have hb:∀b,H b=ak->b≠e:=λb n z=>by
  subst z;rcases he with r|r
  ·exact hx b n r
  ·rw[n] at r;cases r
 have hm:∀b u,H b=ae u->¬Mut (ae u)->b≠x:=λb u q nm z=>by subst z;rw[q] at mu;exact nm mu
 refine⟨λb u q n _ _=>k b u (hb b n) q,λb u q n _ _=>⟨u.slots,k b u (hb b n) q⟩,λb u q n _=>by rw[aX (hx b n)];exact n,λb u q _=>?_,
  λb xs q=>by rw[aX (hm b _ q λz=>z)];exact q,λb u xs q=>by rw[aX (hm b _ q λz=>z)];exact q,λb ps q=>⟨#[],by rw[aX (hm b _ q λz=>z),q];simp⟩⟩
 by_cases hbe:b=e
 ·subst hbe;exact heo
 ·exact⟨u,k b u hbe q⟩
end
noncomputable def trk(h:aT)(H:Hp):aa al:=(cq h.objs.size).filter λa=>(H a).isSome
def aCe(h:aT)(H:Hp):aT:=PySem.W.hideAll h (trk h H)
theorem W8(h:aT)(H:Hp):(aCe h H).objs.size=h.objs.size:=PySem.W.hideAll_size _ _
theorem aCf{h:aT}{H:Hp}{b:al}{o:bb}(e:h.get? b=ae o)(n:H b=ak):(aCe h H).get? b=ae o:=
 PySem.W.hideAll_get _ e λhm=>by
  have q:(H b).isSome=af:=(ly.mp hm).2;rw[n] at q;simp at q
theorem aFe{h:aT}{H:Hp}{b:al}{o:bb}(e:(aCe h H).get? b=ae o):h.get? b=ae o/\H b=ak:=by
 have e':h.get? b=ae o:=PySem.W.of_hideAll (trk h H) e;refine⟨e',?_⟩;cases q:H b with
 |none=>rfl
 |some x=>
  have hm:b∈trk h H:=ly.mpr ⟨lz.mpr (bS e'),by simp[q]⟩;have z:(aCe h H).get? b=ak:=PySem.W.hideAll_none (trk h H) hm;rw[z] at e;cases e
structure Mod(K:bX)(mg:Str->az aj)(base:aT):Prop where
 kin:K.In base
 glob:base.Ns cK mg
 blt:∃mb,base.Ns sr mb/\∀x:Str,x ≠ "__name__"->mb x=en x
 nolimit:base.NoLimit
/-- the context: a def's body (or a comprehension's block) running. base: fixed through the whole law;s₀,H₀: the entry;outer: the frames whose slots others may change (a def's callers);stack: all frames that run;
   ex: iterators that were made ahead of the entry and are walked here (a comprehension's);fn: the names whose cells were made at the entry (a def: all;a comprehension's block: its own);calm: not within an except suite;pn: Ψ that every state bears;xe: what is wanted of an exception that leaves the code -/
structure Cx where
 prog:bn
 w:bi
 K:bX
 mg:Str->az aj
 base:aT
 A:bw
 N:aa Str
 s₀:ao
 H₀:Hp
 env:dw
 outer:aa dw
 stack:aa dw
 ex:aa al
 fn:Str->ap
 calm:ap
 pn:aa (al×bb)
 xe:aj->ao->Prop
noncomputable def frs(l:aa dw):aa al:=l.filterMap (·.frame)
abbrev Cx.fs(X:Cx):aa al:=frs X.outer
def Vis(sc:fq)(x:Str):Prop:=sc.names.lookup x=ae .local\/sc.names.lookup x=ae .cell\/sc.names.lookup x=ae .free
def Loc(sc:fq)(x:Str):Prop:=sc.names.lookup x=ae .local\/sc.names.lookup x=ae .cell
def Look(env:dw)(h:aT)(m:Str->az aj)(x:Str)(u:aj):Prop:=
 (env.kindOf x=ae .local/\m x=ae u)\/((env.kindOf x=ae .cell\/env.kindOf x=ae .free)/\∃c,env.cells.lookup x=ae c/\h.IsCell c (ae u))
structure Cx.Ok(X:Cx):Prop where
 mod:Mod X.K X.mg X.base
 kind:X.env.scope.kind=.function
 glob:X.env.globals=cK
 blt:X.env.builtins=sr
 above:X.s₀.heap.objs.size<=X.env.locals
 inj:∀x y c,X.env.cells.lookup x=ae c->X.env.cells.lookup y=ae c->x=y
 has:∀x,(X.env.kindOf x=ae .cell\/X.env.kindOf x=ae .free)->∃c,X.env.cells.lookup x=ae c
 cab:∀x c,X.fn x=af->X.env.cells.lookup x=ae c->X.s₀.heap.objs.size<=c
 hd:X.calm=af->X.A.handled=ak
 frames:X.A.frames=ae X.stack
 stk:X.stack=X.outer\/(X.stack=X.env::X.outer/\X.env.frame=ae X.env.locals)
 exf:∀b∈X.ex,b≠X.env.locals/\∀x c,X.env.cells.lookup x=ae c->c≠b
 bs:∀b o,X.base.get? b=ae o->X.s₀.heap.get? b=ae o/\X.H₀ b=ak
 bsz:X.base.objs.size<=X.s₀.heap.objs.size
 noex:∀b o,X.base.get? b=ae o->b∉X.ex
 exfs:∀b∈X.ex,b∉X.fs
 W9:X.s₀.heap.FunFrames X.base X.outer
 frf:∀b∈X.fs,X.H₀ b=ak
structure Inv(X:Cx)(Ψ:aa (al×bb))(σ:aa (az V))(H:Hp)(s:ao):Prop where
 ok:X.Ok
 os:s.os=X.s₀.os
 bare:i8 s.gens
 base:Un X.fs X.ex X.H₀ H X.s₀.heap s.heap
 loc:∃m,s.heap.Ns X.env.locals m/\∀(i:ah)(x:Str)(v:V),X.N[i]?=ae x->σ[i]?=ae (ae v)->Vis X.env.scope x->∃u,RelV v u/\Look X.env s.heap m x u
 cell:∀x c,X.env.cells.lookup x=ae c->∃v,s.heap.IsCell c v
 free:H X.env.locals=ak
 freeC:∀x c,X.env.cells.lookup x=ae c->H c=ak
 pin:∀p∈X.pn++Ψ,s.heap.get? p.1=ae p.2/\H p.1=ak/\p.1≠X.env.locals/\p.1∉X.fs/\∀v,p.2.data≠.cell v
 hok:HOk X.prog X.w H s.heap
 len:σ.length=X.N.length
section
variable {X:Cx} {Ψ:aa (al×bb)} {σ:aa (az V)} {H H':Hp} {s:ao} {h':aT}
theorem Cx.Ok.aO7(ok:X.Ok){b:al}{o:bb}(e:X.base.get? b=ae o):b∉X.fs:=λhb=>by
 have:=(ok.W9.mem hb).1;rw[e] at this;cases this
theorem Inv.bs(I:Inv X Ψ σ H s):∀b o,X.base.get? b=ae o->s.heap.get? b=ae o/\H b=ak:=λb o e=>
 ⟨I.base.keep b o (I.ok.bs b o e).1 (I.ok.bs b o e).2 (I.ok.aO7 e) (I.ok.noex b o e),I.base.free b o (I.ok.bs b o e).1 (I.ok.bs b o e).2 (I.ok.noex b o e)⟩
theorem Inv.bk(I:Inv X Ψ σ H s):∀b o,X.base.get? b=ae o->s.heap.get? b=ae o:=λb o e=>(I.bs b o e).1
theorem Inv.mod(I:Inv X Ψ σ H s):Mod X.K X.mg X.base:=I.ok.mod
theorem Inv.kIn(I:Inv X Ψ σ H s):X.K.In s.heap:=I.ok.mod.kin.keeps I.bk
theorem Inv.lt(I:Inv X Ψ σ H s):X.env.locals<s.heap.objs.size:=let ⟨_,hn,_⟩:=I.loc;hn.lt
theorem Inv.sz(I:Inv X Ψ σ H s):X.s₀.heap.objs.size<=s.heap.objs.size:=dn I.ok.above (lI I.lt)
theorem Inv.aNq(I:Inv X Ψ σ H s){a:al}(h:s.heap.objs.size<=a):a∉X.fs:=λhb=>by
 obtain⟨_,o,ho,_⟩:=I.ok.W9.mem hb;exact bd (em (bS ho) (dn I.sz h)) (fj _)
theorem Inv.cne(I:Inv X Ψ σ H s):∀x c,X.env.cells.lookup x=ae c->c≠X.env.locals:=λx c e z=>by
 obtain⟨v,o,ho,hd⟩:=I.cell x c e;obtain⟨m,⟨o',es,ep,ho',hd',_⟩,_⟩:=I.loc;rw[z,ho'] at ho;cases ho;rw[hd'] at hd;cases hd
theorem Inv.W9(I:Inv X Ψ σ H s):s.heap.FunFrames X.base X.outer:=by
 have all:∀(l:aa dw),(∀b∈frs l,b∈X.fs)->X.s₀.heap.FunFrames X.base l->s.heap.FunFrames X.base l:=by
  intro l;induction l with
  |nil=>intro _ _;trivial
  |cons env r ih=>
   intro hs hl;obtain⟨hk,⟨L,o,hf,hn,ho,hd⟩,hr⟩:=hl;have hL:L∈X.fs:=hs L (by unfold frs;rw[su,hf];exact bu);obtain⟨sl,e⟩:=I.base.slot L o ho (I.ok.frf L hL) hL λz=>I.ok.exfs L z hL
   exact⟨hk,⟨L,_,hf,hn,e,hd⟩,ih (λb hb=>hs b (by unfold frs;rw[su,hf];exact bq _ hb)) hr⟩
 exact all X.outer (λ_ hb=>hb) I.ok.W9
theorem Inv.stack(I:Inv X Ψ σ H s):s.heap.FunFrames X.base X.stack:=by
 rcases I.ok.stk with e|⟨e,hf⟩
 ·rw[e];exact I.W9
 ·rw[e];obtain⟨m,hn,_⟩:=I.loc;refine .cons (by rw[I.ok.kind];decide) hf hn ?_ I.W9;exact Heap.get?_none_of_le (dn I.ok.bsz I.ok.above)
theorem Inv.RL(I:Inv X Ψ σ H s):∀b∈frs X.stack,b∈X.env.locals::X.fs:=λb hb=>by
 rcases I.ok.stk with e|⟨e,hf⟩
 ·rw[e] at hb;exact bq _ hb
 ·rw[e] at hb;unfold frs at hb;rw[su,hf] at hb;exact hb
theorem Inv.W_(I:Inv X Ψ σ H s):∀b∈frs X.stack,H b=ak:=λb hb=>by
 rcases bm.mp (I.RL b hb) with e|hb
 ·rw[e];exact I.free
 ·obtain⟨_,o,ho,_⟩:=I.ok.W9.mem hb;exact I.base.free b o ho (I.ok.frf b hb) λz=>I.ok.exfs b z hb
theorem Inv.step{g':aw kH}{t':ah}{d':kK}{ch:aa al}(I:Inv X Ψ σ H s)
 (hch:∀b∈ch,(b∈X.ex\/X.s₀.heap.objs.size<=b)/\b≠X.env.locals/\(∀x c,X.env.cells.lookup x=ae c->c≠b)/\∀p∈X.pn++Ψ,p.1≠b)
 (keep:∀b o,b≠X.env.locals->b∉X.fs->b∉ch->s.heap.get? b=ae o->H b=ak->h'.get? b=ae o)
 (slot:∀b o,b≠X.env.locals->b∈X.fs->b∉ch->s.heap.get? b=ae o->H b=ak->∃sl,h'.get? b=ae {o with slots:=sl})(free:∀b o,b∉ch->s.heap.get? b=ae o->H b=ak->H' b=ak)
 (there:∀b o,b∉ch->s.heap.get? b=ae o->∃o',h'.get? b=ae o')
 (tups:∀b xs,H b=ae (.tup xs)->H' b=ae (.tup xs))(frzs:∀b o u,H b=ae (.frz o u)->H' b=ae (.frz o u))(tbls:∀b ps,H b=ae (.tbl ps)->∃more,H' b=ae (.tbl (ps++more)))
 (ns:∀m,s.heap.Ns X.env.locals m->h'.Ns X.env.locals m)(hok:HOk X.prog X.w H' h')(hg:i8 g') :
  Inv X Ψ σ H' {s with heap:=h',gens:=g',drawn:=d',toks:=t'}:=by
 have neL:∀b o,X.s₀.heap.get? b=ae o->b≠X.env.locals:=λb o e=>c9 (em (bS e) I.ok.above)
 have neC:∀b o,X.s₀.heap.get? b=ae o->b∉X.ex->b∉ch:=λb o e hx hb=>by
  rcases(hch b hb).1 with z|z
  ·exact hx z
  ·exact bd (em (bS e) z) (fj _)
 have cellK:∀x c,X.env.cells.lookup x=ae c->∀v,s.heap.IsCell c v->h'.IsCell c v:=λx c e v ⟨o,ho,hd⟩=>by
  have nch:c∉ch:=λz=>(hch c z).2.2.1 x c e rfl
  by_cases hc:c∈X.fs
  ·obtain⟨sl,q⟩:=slot c o (I.cne x c e) hc nch ho (I.freeC x c e);exact⟨_,q,hd⟩
  ·exact⟨o,keep c o (I.cne x c e) hc nch ho (I.freeC x c e),hd⟩
 refine⟨I.ok,I.os,hg,⟨λb o e n hb hx=>?_,λb o e n hb hx=>?_,λb o e n hx=>?_,λb o e hx=>?_,λb xs e=>tups b xs (I.base.tups b xs e),λb o xs e=>frzs b o xs (I.base.frzs b o xs e),λb ps e=>?_⟩,?_,λx c e=>?_,?_,λx c e=>?_,λp hp=>?_,hok,I.len⟩
 ·exact keep b o (neL b o e) hb (neC b o e hx) (I.base.keep b o e n hb hx) (I.base.free b o e n hx)
 ·obtain⟨sl,e1⟩:=I.base.slot b o e n hb hx;obtain⟨sl',e2⟩:=slot b _ (neL b o e) hb (neC b o e hx) e1 (I.base.free b o e n hx);exact⟨sl',e2⟩
 ·obtain⟨o',e1⟩:=I.base.there b o e hx;exact free b o' (neC b o e hx) e1 (I.base.free b o e n hx)
 ·obtain⟨o',e1⟩:=I.base.there b o e hx;exact there b o' (neC b o e hx) e1
 ·obtain⟨m1,e1⟩:=I.base.tbls b ps e;obtain⟨m2,e2⟩:=tbls b _ e1;exact⟨m1++m2,by rw[e2,Array.append_assoc]⟩
 ·obtain⟨m,hn,hl⟩:=I.loc;refine⟨m,ns m hn,λi x v e1 e2 e3=>?_⟩;obtain⟨u,r,l⟩:=hl i x v e1 e2 e3;refine⟨u,r,?_⟩;rcases l with l|⟨k,c,e,z⟩
  ·exact .inl l
  ·exact .inr ⟨k,c,e,cellK x c e _ z⟩
 ·obtain⟨v,z⟩:=I.cell x c e;exact⟨v,cellK x c e v z⟩
 ·obtain⟨m,⟨o,_,_,ho,_⟩,_⟩:=I.loc;exact free _ o (λz=>(hch _ z).2.1 rfl) ho I.free
 ·obtain⟨v,o,ho,hd⟩:=I.cell x c e;exact free c o (λz=>(hch c z).2.2.1 x c e rfl) ho (I.freeC x c e)
 ·obtain⟨e,n,ne,nf,d⟩:=I.pin p hp;have nch:p.1∉ch:=λz=>(hch p.1 z).2.2.2 p hp rfl
  exact⟨keep p.1 p.2 ne nf nch e n,free p.1 p.2 nch e n,ne,nf,d⟩
theorem Inv.un{t':ah}(I:Inv X Ψ σ H s)(u:Un X.fs [] H H' s.heap h')(hok:HOk X.prog X.w H' h'):Inv X Ψ σ H' {s with heap:=h',toks:=t'}:=by
 obtain⟨m,⟨o,es,ep,ho,r⟩,_⟩:=id I.loc;obtain⟨sl,hL⟩:=u.any ho I.free (by simp);exact I.step (g':=s.gens) (d':=s.drawn) (ch:=[]) (λ_ z=>nomatch z) (λb o _ hb _ e n=>u.keep b o e n hb (by simp)) (λb o _ hb _ e n=>u.slot b o e n hb (by simp)) (λb o _ e n=>u.free b o e n (by simp)) (λb o _ e=>u.there b o e (by simp)) u.tups u.frzs u.tbls (λm' hm=>by
  obtain⟨o',es',ep',ho',r'⟩:=hm;rw[ho] at ho';cases ho';exact⟨_,es',ep',hL,r'⟩) hok I.bare
theorem Inv.call{g':aw kH}{t':ah}{d':kK}{ch:aa al}(I:Inv X Ψ σ H s)(u:Un (frs X.stack) ch H H' s.heap h')(hok:HOk X.prog X.w H' h')(hg:i8 g')
 (hch:∀b∈ch,(b∈X.ex\/X.s₀.heap.objs.size<=b)/\b≠X.env.locals/\(∀x c,X.env.cells.lookup x=ae c->c≠b)/\∀p∈X.pn++Ψ,p.1≠b) :
  Inv X Ψ σ H' {s with heap:=h',gens:=g',drawn:=d',toks:=t'}:=by
 obtain⟨m,⟨o,es,ep,ho,r⟩,_⟩:=id I.loc;obtain⟨sl,hL⟩:=u.any ho I.free λz=>(hch _ z).2.1 rfl
 exact I.step (ch:=ch) hch (λb o hL hb hc e n=>u.keep b o e n (λz=>(bm.mp (I.RL b z)).elim hL hb) hc) (λb o _ _ hc e n=>u.any e n hc) (λb o hc e n=>u.free b o e n hc) (λb o hc e=>u.there b o e hc) u.tups u.frzs u.tbls (λm' hm=>by
  obtain⟨o',es',ep',ho',r'⟩:=hm;rw[ho] at ho';cases ho';exact⟨_,es',ep',hL,r'⟩) hok hg
theorem Inv.turned{t':ah}{it:al}(I:Inv X Ψ σ H s)(k:∀b o,b≠it->s.heap.get? b=ae o->h'.get? b=ae o)(hn:H it=ak)(hL:it≠X.env.locals)
 (h1:it∈X.ex\/X.s₀.heap.objs.size<=it)(h2:∀x c,X.env.cells.lookup x=ae c->c≠it)(h3:∀p∈X.pn++Ψ,p.1≠it):Inv X Ψ σ H {s with heap:=h',toks:=t'}:=by
 have nit:∀b u,H b=ae u->b≠it:=λb u e z=>by rw[z,hn] at e;cases e
 refine I.step (g':=s.gens) (d':=s.drawn) (ch:=[it]) (λb hb=>?_) (λb o _ _ hc e _=>k b o (λz=>hc (by simp[z])) e) (λb o _ _ hc e _=>⟨o.slots,k b o (λz=>hc (by simp[z])) e⟩) (λ_ _ _ _ n=>n)
  (λb o hc e=>⟨o,k b o (λz=>hc (by simp[z])) e⟩) (λ_ _ e=>e) (λ_ _ _ e=>e) (λb ps e=>⟨#[],by rw[e];simp⟩) (λm hm=>?_) (λb u e=>?_) I.bare
 ·have e:b=it:=by simpa using hb
  subst e;exact⟨h1,hL,h2,h3⟩
 ·obtain⟨o,es,ep,ho,r⟩:=hm;exact⟨o,es,ep,k _ o (Ne.symm hL) ho,r⟩
 ·refine(I.hok b u e).stay (λc v hc q=>k c v ?_ q) (λ_ q=>q) λ_ _ q=>q
  rcases hc with z|z
  ·rw[z];exact nit b u e
  ·exact nit c _ z
theorem Inv.tok(I:Inv X Ψ σ H s)(t:ah):Inv X Ψ σ H {s with toks:=t}:=I.un (h':=s.heap) (t':=t) Un.refl I.hok
theorem Inv.kept{t':ah}(I:Inv X Ψ σ H s)(k:∀b u,s.heap.get? b=ae u->h'.get? b=ae u):Inv X Ψ σ H {s with heap:=h',toks:=t'}:=I.un (Un.kept k) (I.hok.kept k)
theorem Inv.laid{a:al}{o:HO}{t':ah}(I:Inv X Ψ σ H s)(k:∀b u,s.heap.get? b=ae u->h'.get? b=ae u)(hp:s.heap.objs.size<=a)(new:jK X.prog X.w (upd H a o) h' a o) :
  Inv X Ψ σ (upd H a o) {s with heap:=h',toks:=t'}:=I.un (Un.laid k hp (I.hok.fresh hp)) (I.hok.laid k hp new)
theorem Inv.write{x e:al}{o:HO}{t':ah}(I:Inv X Ψ σ H s)(mu:Mut (H x))(he:e=x\/H e=ae (.own x))(k:∀b u,b≠e->s.heap.get? b=ae u->h'.get? b=ae u)(heo:∃u,h'.get? e=ae u)
 (new:jK X.prog X.w (upd H x o) h' x o):Inv X Ψ σ (upd H x o) {s with heap:=h',toks:=t'}:=I.un (Un.write mu he k heo) (I.hok.write mu he k heo new)
theorem Inv.weak{σ':aa (az V)}(I:Inv X Ψ σ H s)(hl:σ'.length=σ.length)(w:∀(i:ah) v,σ'[i]?=ae (ae v)->σ[i]?=ae (ae v)):Inv X Ψ σ' H s:=
 ⟨I.ok,I.os,I.bare,I.base,let ⟨m,hn,hl'⟩:=I.loc;⟨m,hn,λi x v e1 e2 e3=>hl' i x v e1 (w i v e2) e3⟩,I.cell,I.free,I.freeC,I.pin,I.hok,hl.trans I.len⟩
theorem Inv.N8{pins':aa (al×bb)}(I:Inv X Ψ σ H s)(h:∀p∈pins',s.heap.get? p.1=ae p.2/\H p.1=ak/\p.1≠X.env.locals/\p.1∉X.fs/\∀v,p.2.data≠.cell v):Inv X pins' σ H s:=
 ⟨I.ok,I.os,I.bare,I.base,I.loc,I.cell,I.free,I.freeC,λp hp=>(cS.mp hp).elim (λz=>I.pin p (eM _ z)) (h p),I.hok,I.len⟩
theorem RM{N:aa Str}(hN:N.Nodup){i j:ah}{x:Str}(a:N[i]?=ae x)(b:N[j]?=ae x):i=j:=by
 obtain⟨h1,e1⟩:=dy.mp a;obtain⟨h2,e2⟩:=dy.mp b;exact(List.getElem_inj hN).mp (e1.trans e2.symm)
theorem XC{M:i9}{A:bw}{E:aj->ao->Prop}{i:ah}{x:Str}{v:V}{u:aj}{Q:iz->ao->Prop}(I:Inv X Ψ σ H s)(hN:X.N.Nodup)(hi:X.N[i]?=ae x)(hx:Loc X.env.scope x)(r:RelV v u)
 (h:∀s',Inv X Ψ (σ.set i (ae v)) H s'->(∃a,kM a s.heap s'.heap/\(a=X.env.locals\/X.env.cells.lookup x=ae a))->Q () s')(hf:X.fn x=af\/X.env.scope.names.lookup x=ae .local:=by first|exact .inl rfl|exact .inr rfl|assumption):ϑ M A (storeName X.env x u) Q E s:=by
 obtain⟨m,hn,hl⟩:=id I.loc;have hcls:(X.env.scope.kind==.class||(X.env.scope.kind==.module&&X.env.locals !=X.env.globals))=ai:=by rw[I.ok.kind];rfl
 have hiσ:i<σ.length:=by rw[I.len];exact(dy.mp hi).1
 have cne:=I.cne;have tracked:∀{a:al}{h':aT},(∃o,s.heap.get? a=ae o/\H a=ak)->kM a s.heap h'->HOk X.prog X.w H h':=λ{a h'} ha hs b ob e=>by
  obtain⟨_,_,hfree⟩:=ha;refine(I.hok b ob e).stay (λc w' hc q=>(hs.2 c ?_).trans q) (λ_ q=>q) λ_ _ q=>q
  rintro rfl;rcases hc with rfl|hc
  ·rw[hfree] at e;cases e
  ·rw[hfree] at hc;cases hc
 rcases hx with hk|hk
 ·refine wpAny_storeName_local hk hn (λh' hn' hs=>?_) hcls;obtain⟨oL,_,_,hoL,_⟩:=id hn;refine h _ ⟨I.ok,I.os,I.bare,⟨λb o e n hb hx=>?_,λb o e n hb hx=>?_,I.base.free,λb o e hx=>?_,I.base.tups,I.base.frzs,I.base.tbls⟩,⟨_,hn',λj y v' e1 e2 e3=>?_⟩,λy c e=>?_,I.free,I.freeC,λp hp=>?_,tracked ⟨oL,hoL,I.free⟩ hs,by simpa using I.len⟩ ⟨_,hs,.inl rfl⟩
  ·exact(hs.2 b (c9 (em (bS e) I.ok.above))).trans (I.base.keep b o e n hb hx)
  ·obtain⟨sl,e1⟩:=I.base.slot b o e n hb hx;exact⟨sl,(hs.2 b (c9 (em (bS e) I.ok.above))).trans e1⟩
  ·obtain⟨o',e1⟩:=I.base.there b o e hx;exact⟨o',(hs.2 b (c9 (em (bS e) I.ok.above))).trans e1⟩
  ·by_cases hj:j=i
   ·subst hj;rw[hi] at e1;cases e1;rw[fN hiσ] at e2;cases e2;exact⟨u,r,.inl ⟨hk,by simp⟩⟩
   ·rw[ef (Ne.symm hj)] at e2;obtain⟨u',r',q⟩:=hl j y v' e1 e2 e3;refine⟨u',r',?_⟩;rcases q with ⟨k,e⟩|⟨k,c,e,z⟩
    ·refine .inl ⟨k,?_⟩;have:y≠x:=λe=>hj (RM hN e1 (e▸hi))
     simp[this,e]
    ·exact .inr ⟨k,c,e,z.sameBut hs (cne y c e)⟩
  ·obtain⟨w',z⟩:=I.cell y c e;exact⟨w',z.sameBut hs (cne y c e)⟩
  ·obtain⟨e,n,ne,nf,d⟩:=I.pin p hp;exact⟨(hs.2 p.1 ne).trans e,n,ne,nf,d⟩
 ·have hfn:X.fn x=af:=by
   rcases hf with z|z
   ·exact z
   ·rw[z] at hk;cases hk
  obtain⟨c,hc⟩:=I.ok.has x (.inl hk);obtain⟨w',z⟩:=I.cell x c hc;refine wpAny_storeName_cell I.ok.kind hk hc z (λh' hc' hs=>?_);obtain⟨oc,hoc,hocd⟩:=id z;refine h {s with heap:=h'} ⟨I.ok,I.os,I.bare,⟨λb o e n hb hx=>?_,λb o e n hb hx=>?_,I.base.free,λb o e hx=>?_,I.base.tups,I.base.frzs,I.base.tbls⟩,⟨m,hn.sameBut hs (Ne.symm (cne x c hc)),λj y v' e1 e2 e3=>?_⟩,λy c' e=>?_,I.free,I.freeC,λp hp=>?_,tracked ⟨oc,hoc,I.freeC x c hc⟩ hs,by simpa using I.len⟩ ⟨c,hs,.inr hc⟩
  ·exact(hs.2 b (c9 (em (bS e) (I.ok.cab x c hfn hc)))).trans (I.base.keep b o e n hb hx)
  ·obtain⟨sl,e1⟩:=I.base.slot b o e n hb hx;exact⟨sl,(hs.2 b (c9 (em (bS e) (I.ok.cab x c hfn hc)))).trans e1⟩
  ·obtain⟨o',e1⟩:=I.base.there b o e hx;exact⟨o',(hs.2 b (c9 (em (bS e) (I.ok.cab x c hfn hc)))).trans e1⟩
  ·by_cases hj:j=i
   ·subst hj;rw[hi] at e1;cases e1;rw[fN hiσ] at e2;cases e2;exact⟨u,r,.inr ⟨.inl hk,c,hc,hc'⟩⟩
   ·rw[ef (Ne.symm hj)] at e2;obtain⟨u',r',q⟩:=hl j y v' e1 e2 e3;refine⟨u',r',?_⟩;rcases q with q|⟨k,c',e,z'⟩
    ·exact .inl q
    ·refine .inr ⟨k,c',e,z'.sameBut hs ?_⟩;rintro rfl;exact hj (RM hN e1 (I.ok.inj _ _ _ e hc▸hi))
  ·by_cases hcc:c'=c
   ·subst hcc;exact⟨_,hc'⟩
   ·obtain⟨w2,z2⟩:=I.cell y c' e;exact⟨w2,z2.sameBut hs hcc⟩
  ·obtain⟨e,n,ne,nf,d⟩:=I.pin p hp;refine⟨(hs.2 p.1 ?_).trans e,n,ne,nf,d⟩;intro q;rw[q,hoc] at e;have q':oc=p.2:=cx e;exact d w' (by rw[<-q'];exact hocd)
theorem RN{M:i9}{A:bw}{E:aj->ao->Prop}{i:ah}{x:Str}{v:V}{u:aj}{Q:iz->ao->Prop}(I:Inv X Ψ σ H s)(hN:X.N.Nodup)(hi:X.N[i]?=ae x)(hx:Loc X.env.scope x)(r:RelV v u)
 (h:∀s',Inv X Ψ (σ.set i (ae v)) H s'->Q () s')(hf:X.fn x=af\/X.env.scope.names.lookup x=ae .local:=by first|exact .inl rfl|exact .inr rfl|assumption):ϑ M A (storeName X.env x u) Q E s:=
 XC I hN hi hx r (λs' I' _=>h s' I') hf
end
abbrev XK:=aj->az al->Hp->Prop
noncomputable abbrev St:=aa (az V)
abbrev VK:=V->Hp->Prop
abbrev TE:=St->Hp->VK->Prop
abbrev TT:=St->Hp->(ap->Hp->Prop)->Prop
abbrev TA:=St->Hp->(aa V->Hp->Prop)->Prop
structure Ends where
 nx:St->Hp->Prop
 rt:VK
 bk:St->Hp->Prop:=λ_ _=>cy
 ct:St->Hp->Prop:=λ_ _=>cy
abbrev TS:=Ends->St->Hp->Prop
def EP(X:Cx)(Ψ:aa (al×bb))(σ:St)(Q:VK)(u:aj)(s':ao):Prop:=∃v H',Inv X Ψ σ H' s'/\RelV v u/\Q v H'
def TP(X:Cx)(Ψ:aa (al×bb))(σ:St)(Q:ap->Hp->Prop)(b:ap)(s':ao):Prop:=∃H',Inv X Ψ σ H' s'/\Q b H'
def AP(X:Cx)(Ψ:aa (al×bb))(σ:St)(Q:aa V->Hp->Prop)(us:aa aj)(s':ao):Prop:=∃vs H',Inv X Ψ σ H' s'/\Vals vs us/\Q vs H'
def SP(X:Cx)(Ψ:aa (al×bb))(D:Ends)(f:Flow)(s':ao):Prop:=
 match f with
 |.next=>∃σ' H',Inv X Ψ σ' H' s'/\D.nx σ' H'
 |.brk=>∃σ' H',Inv X Ψ σ' H' s'/\D.bk σ' H'
 |.cont=>∃σ' H',Inv X Ψ σ' H' s'/\D.ct σ' H'
 |.ret u=>∃v σ' H',Inv X Ψ σ' H' s'/\RelV v u/\D.rt v H'
def PE(X:Cx)(e:Expr)(t:TE):Prop:=
 ∀(Ψ:aa (al×bb))(s:ao)(σ:St)(H:Hp)(Q:VK),Inv X Ψ σ H s->t σ H Q->ϑ (ax X.prog X.w) X.A (bP e X.env) (EP X Ψ σ Q) X.xe s
def PT(X:Cx)(e:Expr)(t:TT):Prop:=
 ∀(Ψ:aa (al×bb))(s:ao)(σ:St)(H:Hp)(Q:ap->Hp->Prop),Inv X Ψ σ H s->t σ H Q->ϑ (ax X.prog X.w) X.A (ny e X.env (bP e X.env)) (TP X Ψ σ Q) X.xe s
def PW(X:Cx)(e:Expr)(t:TT):Prop:=
 ∀(whole:eg aj)(Ψ:aa (al×bb))(s:ao)(σ:St)(H:Hp)(Q:ap->Hp->Prop),Inv X Ψ σ H s->t σ H Q->ϑ (ax X.prog X.w) X.A (ny e X.env whole) (TP X Ψ σ Q) X.xe s
theorem PW.pt{X:Cx}{e:Expr}{t:TT}(h:PW X e t):PT X e t:=h _
def PA(X:Cx)(es:aa Expr)(t:TA):Prop:=
 ∀(pos:bz)(Ψ:aa (al×bb))(s:ao)(σ:St)(H:Hp)(Q:aa V->Hp->Prop),Inv X Ψ σ H s->t σ H Q->ϑ (ax X.prog X.w) X.A (sv (eJ pos (bp es X.env))) (AP X Ψ σ Q) X.xe s
def PS(X:Cx)(st:bo)(t:TS):Prop:=
 ∀(Ψ:aa (al×bb))(s:ao)(σ:St)(H:Hp)(D:Ends),Inv X Ψ σ H s->t D σ H->ϑ (ax X.prog X.w) X.A (exec st X.env) (SP X Ψ D) X.xe s
def PSs(X:Cx)(st:aa bo)(t:TS):Prop:=
 ∀(Ψ:aa (al×bb))(s:ao)(σ:St)(H:Hp)(D:Ends),Inv X Ψ σ H s->t D σ H->ϑ (ax X.prog X.w) X.A (execs st X.env) (SP X Ψ D) X.xe s
theorem thn{α:Type}{t:eg α}{Q Q':α->ao->Prop}{M:i9}{A:bw}{E:aj->ao->Prop}{s:ao}(h:ϑ M A t Q E s)(hQ:∀a s,Q a s->Q' a s):ϑ M A t Q' E s:=eL h hQ λ_ _ x=>x
section
variable {X:Cx}
noncomputable def aO8(i:ah):TE:=λσ H Q=>∃v,σ[i]?=ae (ae v)/\Q v H
noncomputable def tC(v:V):TE:=λ_ H Q=>Q v H
theorem iZ{i:ah}{x:Str}{pos:bz}(hN:X.N[i]?=ae x)(hv:Vis X.env.scope x)(hd:nDb x:=by decide)(hcd:nCd x:=by decide):PE X (.Name x pos) (aO8 i):=by
 intro Ψ s σ H Q I h;obtain⟨v,e,h⟩:=h;obtain⟨m,hn,hl⟩:=I.loc;obtain⟨u,r,l⟩:=hl i x v hN e hv;have fin:EP X Ψ σ Q u s:=⟨v,H,I,r,h⟩
 rcases l with ⟨hk,hm⟩|⟨hk,c,hc,hcell⟩
 ·exact sw (wpAny_loadName_local I.ok.kind hk hn hm fin) hd
 ·rcases hk with hk|hk
  ·exact sw (wpAny_loadName_cell I.ok.kind hk hc hcell fin) hd
  ·exact sw (wpAny_loadName_free I.ok.kind hk hc hcell fin hcd) hd
theorem aIu{i j pos}:PE X (.Constant (.int i) j pos) (tC (.int i)):=λ_ _ _ H _ I h=>vS ⟨.int i,H,I.tok _,⟨_,rfl⟩,h⟩
theorem aM3{b j pos}:PE X (.Constant (.bool b) j pos) (tC (.bl b)):=λ_ _ _ H _ I h=>Constant_bool ⟨.bl b,H,I,rfl,h⟩
theorem aIv{j pos}:PE X (.Constant .none j pos) (tC .non):=λ_ _ _ H _ I h=>Constant_none ⟨.non,H,I,rfl,h⟩
theorem aIw{x j pos}:PE X (.Constant (.str x) j pos) (tC (.str x)):=λ_ _ _ H _ I h=>Calls.Constant_str ⟨.str x,H,I.tok _,⟨_,rfl⟩,h⟩
def Gl(X:Cx)(x:Str):Prop:=X.env.kindOf x=ae .globalImplicit
theorem aFf{E:aj->ao->Prop}{Ψ:aa (al×bb)}{s:ao}{σ:St}{H:Hp}{x:Str}{u:aj}{pos:bz}{Q:aj->ao->Prop}(I:Inv X Ψ σ H s)(hg:Gl X x)(hm:X.mg x=ae u)(h:Q u s)
 (hd:nDb x:=by decide):ϑ (ax X.prog X.w) X.A (bP (.Name x pos) X.env) Q E s:=
 vT I.ok.kind hg (Calls.loadGlobal_global (by rw[I.ok.glob];exact I.mod.glob.keeps I.bk) hm h) hd
theorem uF{E:aj->ao->Prop}{Ψ:aa (al×bb)}{s:ao}{σ:St}{H:Hp}{x:Str}{u:aj}{pos:bz}{Q:aj->ao->Prop}(I:Inv X Ψ σ H s)(hg:Gl X x)(hm:X.mg x=ak)(hv:en x=ae u)(h:Q u s)
 (hn:x ≠ "__name__":=by decide)(hd:nDb x:=by decide):ϑ (ax X.prog X.w) X.A (bP (.Name x pos) X.env) Q E s:=by
 obtain⟨mb,h1,h2⟩:=I.mod.blt;exact vT I.ok.kind hg (Calls.loadGlobal_builtin (by rw[I.ok.glob];exact I.mod.glob.keeps I.bk) hm (by rw[I.ok.blt];exact h1.keeps I.bk) ((h2 x hn).trans hv) h) hd
theorem aFg{x:Str}{v:V}{u:aj}{pos:bz}(hg:Gl X x)(hm:X.mg x=ak)(hv:en x=ae u)(r:RelV v u)(hn:x ≠ "__name__":=by decide)(hd:nDb x:=by decide):PE X (.Name x pos) (tC v):=
 λ_ _ _ H _ I h=>uF I hg hm hv ⟨v,H,I,r,h⟩ hn hd
variable {a b:Expr} {ta tb:TE} {pos:bz}
variable {tA tB':TT} {rest:aa Expr}
noncomputable def aO9(t u:TT):TT:=λσ H Q=>t σ H λc H1=>if c=af then u σ H1 Q else Q ai H1
noncomputable def tOr(t u:TT):TT:=λσ H Q=>t σ H λc H1=>if c=af then Q af H1 else u σ H1 Q
noncomputable def aOa(t:TT):TT:=λσ H Q=>t σ H λc H1=>Q (!c) H1
theorem aFh(ha:PT X a tA):PW X (.BoolOp .And [a] pos) tA:=by
 intro wh Ψ s σ H Q I h;refine isTrue_and (thn (ha Ψ s σ H Q I h) λc s1 e=>?_);cases c with
 |true=>exact isTrue_and_nil e
 |false=>exact e
theorem aIx(ha:PT X a tA):PW X (.BoolOp .Or [a] pos) tA:=by
 intro wh Ψ s σ H Q I h;refine isTrue_or (thn (ha Ψ s σ H Q I h) λc s1 e=>?_);cases c with
 |false=>exact isTrue_or_nil e
 |true=>exact e
theorem aIy(ha:PT X a tA)(hb:PW X (.BoolOp .And (b::rest) pos) tB'):PW X (.BoolOp .And (a::b::rest) pos) (aO9 tA tB'):=by
 intro wh Ψ s σ H Q I h;refine isTrue_and (thn (ha Ψ s σ H _ I h) λc s1 ⟨H1,I1,q1⟩=>?_);cases c with
 |true=>exact hb wh Ψ s1 σ H1 Q I1 q1
 |false=>exact⟨H1,I1,q1⟩
theorem aM4(ha:PT X a tA)(hb:PW X (.BoolOp .Or (b::rest) pos) tB'):PW X (.BoolOp .Or (a::b::rest) pos) (tOr tA tB'):=by
 intro wh Ψ s σ H Q I h;refine isTrue_or (thn (ha Ψ s σ H _ I h) λc s1 ⟨H1,I1,q1⟩=>?_);cases c with
 |true=>exact⟨H1,I1,q1⟩
 |false=>exact hb wh Ψ s1 σ H1 Q I1 q1
theorem aIz(ha:PT X a tA):PT X (.UnaryOp .Not a pos) (aOa tA):=by
 intro Ψ s σ H Q I h;exact isTrue_not (ha Ψ s σ H (λc H1=>Q (!c) H1) I h)
noncomputable def aM5(ta tb:TE):TE:=λσ H Q=>ta σ H λx H1=>∃c,x=.bl c/\if c=af then tb σ H1 Q else Q (.bl ai) H1
noncomputable def aM6(ta:TE):TE:=λσ H Q=>ta σ H λx H1=>∃c,x=.bl c/\Q (.bl (!c)) H1
theorem aJ0{op}{t:TE}(h:PE X a t):PE X (.BoolOp op [a] pos) t:=λΨ s σ H Q I hw=>BoolOp_one (h Ψ s σ H Q I hw)
theorem aJ1(ha:PE X a ta)(hb:PE X (.BoolOp .And (b::rest) pos) tb):PE X (.BoolOp .And (a::b::rest) pos) (aM5 ta tb):=by
 intro Ψ s σ H Q I h;refine BoolOp_and (thn (ha Ψ s σ H _ I h) λv s1 ⟨x,H1,I1,r1,q1⟩=>?_);obtain⟨c,rfl,q1⟩:=q1;cases r1;refine iA ?_;cases c with
 |true=>exact hb Ψ s1 σ H1 Q I1 q1
 |false=>exact⟨.bl ai,H1,I1,rfl,q1⟩
theorem aJ2(ha:PE X a ta):PE X (.UnaryOp .Not a pos) (aM6 ta):=by
 intro Ψ s σ H Q I h;refine UnaryOp_ (thn (ha Ψ s σ H _ I h) λv s1 ⟨x,H1,I1,r1,q1⟩=>?_);obtain⟨c,rfl,q1⟩:=q1;cases r1;exact not_of (iA ⟨.bl (!c),H1,I1,rfl,q1⟩)
end
def SqL(K:bX)(H:Hp)(a:al)(xs:aa V):Prop:=
 Rd H a (.lst xs)\/
  ∃(o:bb)(its:aw aj)(n:ah),K.lookup a=ae o/\o.cls=.type "list"/\o.dict=ak/\o.data=.seq its n/\its.size<=bj/\Vals xs its.toList
def SqT(K:bX)(H:Hp)(a:al)(xs:aa V):Prop:=
 Rd H a (.tup xs)\/
  ∃(o:bb)(its:aw aj)(n:ah),K.lookup a=ae o/\o.cls=.type "tuple"/\o.data=.seq its n/\its.size<=bj/\Vals xs its.toList
noncomputable def aOb:aj->az V
 |.none=>ae .non
 |.bool b=>ae (.bl b)
 |.int i _=>ae (.int i)
 |.str x _=>ae (.str x)
 |.bytes b _=>ae (.byt b)
 |.float b _=>ae (.flt b)
 |.ref a=>ae (.ref a)
 |.type n=>ae (.ty n)
 |_=>ak
theorem RelV.abs{x:V}{u:aj}(r:RelV x u):aOb u=ae x:=by
 cases x with
 |non=>cases r;rfl
 |bl _=>cases r;rfl
 |int _=>obtain⟨t,rfl⟩:=r;rfl
 |str _=>obtain⟨t,rfl⟩:=r;rfl
 |byt _=>obtain⟨t,rfl⟩:=r;rfl
 |flt _=>obtain⟨t,rfl⟩:=r;rfl
 |ref _=>cases r;rfl
 |ty _=>cases r;rfl
theorem RelV.inj{x y:V}{u:aj}(r:RelV x u)(q:RelV y u):x=y:=cx (r.abs.symm.trans q.abs)
theorem Vals.inj:∀{xs ys:aa V}{us:aa aj},Vals xs us->Vals ys us->xs=ys
 |_,_,_,.nil,.nil=>rfl
 |_,_,_,.cons r t,.cons r' t'=>by rw[r.inj r',Vals.inj t t']
section
variable {X:Cx} {Ψ:aa (al×bb)} {σ:St} {H:Hp} {s:ao} {a:al} {xs ys:aa V}
theorem SqL.of{K:bX}(h:H a=ae (.lst xs)):SqL K H a xs:=.inl (.inl h)
theorem SqT.of{K:bX}(h:H a=ae (.tup xs)):SqT K H a xs:=.inl (.inl h)
theorem Inv.list(I:Inv X Ψ σ H s)(h:SqL X.K H a xs):∃its:aa aj,Vals xs its/\PlainL s.heap a its.toArray/\xs.length<=bj:=by
 rcases h with h|⟨o,its,n,hk,hc,hd,hs,hz,r⟩
 ·obtain⟨z,its,n,r,e⟩:=h.ok I.hok;exact⟨its,r,⟨_,n,e,rfl,rfl,rfl⟩,z⟩
 ·refine⟨its.toList,r,⟨o,n,I.kIn a o hk,hc,hd,by simpa using hs⟩,?_⟩;have e:=r.length;simp only[fR] at e;lia
theorem Inv.tuple(I:Inv X Ψ σ H s)(h:SqT X.K H a xs):∃its:aa aj,Vals xs its/\IsTup s.heap a its.toArray/\xs.length<=bj:=by
 rcases h with h|⟨o,its,n,hk,hc,hs,hz,r⟩
 ·obtain⟨z,its,r,p⟩:=h.ok I.hok;exact⟨its,r,p.tup,z⟩
 ·refine⟨its.toList,r,⟨o,I.kIn a o hk,hc,n,by simpa using hs⟩,?_⟩;have e:=r.length;simp only[fR] at e;lia
theorem Inv.u5(I:Inv X Ψ σ H s)(h:SqL X.K H a xs)(h':SqL X.K H a ys):xs=ys:=by
 obtain⟨its,r,⟨o,n,e,_,_,d⟩,_⟩:=I.list h;obtain⟨its',r',⟨o',n',e',_,_,d'⟩,_⟩:=I.list h';rw[e] at e';cases e';rw[d] at d';injection d' with d1 _
 have:its=its':=by simpa using d6 v3 d1
 subst this;exact r.inj r'
theorem Inv.XF(I:Inv X Ψ σ H s)(h:SqT X.K H a xs)(h':SqT X.K H a ys):xs=ys:=by
 obtain⟨its,r,⟨o,e,_,n,d⟩,_⟩:=I.tuple h;obtain⟨its',r',⟨o',e',_,n',d'⟩,_⟩:=I.tuple h';rw[e] at e';cases e';rw[d] at d';injection d' with d1 _
 have:its=its':=by simpa using d6 v3 d1
 subst this;exact r.inj r'
end
noncomputable abbrev Cx.wish(X:Cx)(E:aj->ao->Prop):Cx:={X with xe:=E}
noncomputable abbrev Cx.nox(X:Cx):Cx:=X.wish λ_ _=>cy
theorem Cx.Ok.wish{X:Cx}(ok:X.Ok)(E:aj->ao->Prop):(X.wish E).Ok:=
 ⟨ok.mod,ok.kind,ok.glob,ok.blt,ok.above,ok.inj,ok.has,ok.cab,ok.hd,ok.frames,ok.stk,ok.exf,ok.bs,ok.bsz,ok.noex,ok.exfs,ok.W9,ok.frf⟩
theorem Cx.Ok.uG{X:Cx}{E:aj->ao->Prop}(ok:(X.wish E).Ok):X.Ok:=
 ⟨ok.mod,ok.kind,ok.glob,ok.blt,ok.above,ok.inj,ok.has,ok.cab,ok.hd,ok.frames,ok.stk,ok.exf,ok.bs,ok.bsz,ok.noex,ok.exfs,ok.W9,ok.frf⟩
section
variable {X:Cx} {Ψ:aa (al×bb)} {σ:St} {H:Hp} {s:ao} {E:aj->ao->Prop}
theorem Inv.wish(I:Inv X Ψ σ H s)(E:aj->ao->Prop):Inv (X.wish E) Ψ σ H s:=⟨I.ok.wish E,I.os,I.bare,I.base,I.loc,I.cell,I.free,I.freeC,I.pin,I.hok,I.len⟩
theorem Inv.uG(I:Inv (X.wish E) Ψ σ H s):Inv X Ψ σ H s:=⟨I.ok.uG,I.os,I.bare,I.base,I.loc,I.cell,I.free,I.freeC,I.pin,I.hok,I.len⟩
theorem SP.uG{D:Ends}{f:Flow}{s':ao}(h:SP (X.wish E) Ψ D f s'):SP X Ψ D f s':=by
 cases f with
 |next=>obtain⟨σ',H',I,q⟩:=h;exact⟨σ',H',I.uG,q⟩
 |brk=>obtain⟨σ',H',I,q⟩:=h;exact⟨σ',H',I.uG,q⟩
 |cont=>obtain⟨σ',H',I,q⟩:=h;exact⟨σ',H',I.uG,q⟩
 |ret u=>obtain⟨v,σ',H',I,r,q⟩:=h;exact⟨v,σ',H',I.uG,r,q⟩
theorem PSs.nox{st:aa bo}{t:TS}(h:PSs X.nox st t):PSs X st t:=λΨ s σ H D I hw=>
 eL (h Ψ s σ H D (I.wish _) hw) (λ_ _ q=>q.uG) λ_ _ z=>fm z
end
section
variable {X:Cx} {st:bo} {rest:aa bo} {t u:TS} {e:Expr} {te:TE} {pos:bz}
noncomputable def aM7:TS:=λD σ H=>D.nx σ H
noncomputable def aNr(t u:TS):TS:=λD σ H=>t {D with nx:=u D} σ H
theorem XH:PSs X [] aM7:=λ_ _ σ H _ I h=>nz ⟨σ,H,I,h⟩
theorem u_(h1:PS X st t)(h2:PSs X rest u):PSs X (st::rest) (aNr t u):=by
 intro Ψ s σ H D I h;refine wa (thn (h1 Ψ s σ H {D with nx:=u D} I h) λf s1 q=>?_);cases f with
 |next=>
  obtain⟨σ',H',I',q⟩:=q;exact h2 Ψ s1 σ' H' D I' q
 |ret v=>exact q
 |brk=>exact q
 |cont=>exact q
theorem XJ(h1:PS X st t):PSs X [st] t:=by
 intro Ψ s σ H D I h;refine wa (thn (h1 Ψ s σ H D I h) λf s1 q=>?_);cases f with
 |next=>exact nz q
 |ret v=>exact q
 |brk=>exact q
 |cont=>exact q
theorem Inv.quiet{Ψ:aa (al×bb)}{σ:St}{H:Hp}{s:ao}(I:Inv X Ψ σ H s):wb X.env=ai:=by simp[wb,I.ok.kind]
noncomputable def aM8(te:TE):TS:=λD σ H=>te σ H λ_ H1=>D.nx σ H1
theorem vX(he:PE X e te)(hs:eh e ak pos.line X.env=pure ai:=by rfl):PS X (.Expr e pos) (aM8 te):=by
 intro Ψ s σ H D I h;exact wpAny_Expr_any (thn (he Ψ s σ H _ I h) λv s1 ⟨x,H1,I1,r1,q1⟩=>⟨σ,H1,I1,q1⟩) I.quiet hs
noncomputable def aOc(te:TE):TS:=λD σ H=>te σ H D.rt
theorem XM(he:PE X e te):PS X (.Return (ae e) pos) (aOc te):=by
 intro Ψ s σ H D I h;exact wpAny_Return_some (thn (he Ψ s σ H _ I h) λv s1 ⟨x,H1,I1,r1,q1⟩=>⟨x,σ,H1,I1,r1,q1⟩)
noncomputable def aOd(c:TT)(t u:TS):TS:=λD σ H=>c σ H λb H1=>if b=af then t D σ H1 else u D σ H1
theorem aJ3{c:Expr}{a b:aa bo}{tc:TT}(hc:PT X c tc)(ha:PSs X a t)(hb:PSs X b u):PS X (.If c a b pos) (aOd tc t u):=by
 intro Ψ s σ H D I h;refine wpAny_If (thn (hc Ψ s σ H _ I h) λd s1 ⟨H1,I1,q1⟩=>?_);cases d with
 |true=>exact ha Ψ s1 σ H1 D I1 q1
 |false=>exact hb Ψ s1 σ H1 D I1 q1
end
abbrev TG:=V->St->Hp->(St->Hp->Prop)->Prop
abbrev TGs:=aa V->St->Hp->(St->Hp->Prop)->Prop
def PG(X:Cx)(target:Expr)(t:TG):Prop:=
 ∀(Ψ:aa (al×bb))(s:ao)(σ:St)(H:Hp)(v:V)(u:aj)(Q:St->Hp->Prop),Inv X Ψ σ H s->RelV v u->t v σ H Q->
  ϑ (ax X.prog X.w) X.A (lP target X.env u) (λ_ s'=>∃σ' H',Inv X Ψ σ' H' s'/\Q σ' H') X.xe s
def PGs(X:Cx)(ts:aa Expr)(t:TGs):Prop:=
 ∀(Ψ:aa (al×bb))(s:ao)(σ:St)(H:Hp)(vs:aa V)(us:aa aj)(Q:St->Hp->Prop),Inv X Ψ σ H s->Vals vs us->t vs σ H Q->
  ϑ (ax X.prog X.w) X.A (assignInOrder ((lS ts X.env).map (·.2)) us) (λ_ s'=>∃σ' H',Inv X Ψ σ' H' s'/\Q σ' H') X.xe s
section
variable {X:Cx} {pos:bz}
noncomputable def xZ(i:ah):TG:=λv σ H Q=>Q (σ.set i (ae v)) H
theorem aZ{i:ah}{x:Str}(hN:X.N.Nodup)(hi:X.N[i]?=ae x)(hx:Loc X.env.scope x)(hf:X.fn x=af\/X.env.scope.names.lookup x=ae .local:=by first|exact .inl rfl|exact .inr rfl|assumption):PG X (.Name x pos) (xZ i):=by
 intro Ψ s σ H v u Q I r h;exact wpAny_assign_Name (RN I hN hi hx r (λs' I'=>⟨_,H,I',h⟩) hf)
noncomputable def aNs:TGs:=λvs σ H Q=>vs=[]/\Q σ H
noncomputable def aJ4(t:TG)(u:TGs):TGs:=λvs σ H Q=>∃v r,vs=v::r/\t v σ H λσ' H'=>u r σ' H' Q
theorem fW:PGs X [] aNs:=by
 intro Ψ s σ H vs us Q I r h;obtain⟨e,h⟩:=h;subst e;cases r;exact assignInOrder_nil ⟨σ,H,I,h⟩
theorem bK{e:Expr}{es:aa Expr}{t:TG}{u:TGs}(h1:PG X e t)(h2:PGs X es u)
 (hs:(lS (e::es) X.env).map (·.2)=lP e X.env::(lS es X.env).map (·.2):=by rfl):PGs X (e::es) (aJ4 t u):=by
 intro Ψ s σ H vs us Q I r h;obtain⟨v,vr,e1,h⟩:=h;subst e1;cases r with
 |cons r rr=>
  rw[hs];refine assignInOrder_cons (thn (h1 Ψ s σ H _ _ _ I r h) λ_ s1 ⟨σ1,H1,I1,q1⟩=>?_);exact h2 Ψ s1 σ1 H1 _ _ Q I1 rr q1
noncomputable def aLv(K:bX)(n:ah)(t:TGs):TG:=λv σ H Q=>∃a xs,v=.ref a/\SqT K H a xs/\xs.length=n/\t xs σ H Q
theorem jM{es:aa Expr}{k:ah}{t:TGs}{n:ah}(hc:X.calm=af)(h:PGs X es t)
 (hn:(lS es X.env).length=n:=by rfl)(hst:(lS es X.env).findIdx? (·.1)=ak:=by rfl):PG X (.Tuple es k pos) (aLv X.K n t):=by
 intro Ψ s σ H v u Q I r hw;obtain⟨a,xs,e1,hq,hl,hw⟩:=hw;subst e1;cases r;obtain⟨its,rv,ht,hz⟩:=I.tuple hq;refine assign_Tuple_tuple (I.ok.hd hc) ht (by simp[hn,<-hl,rv.length]) hst λh' hx=>?_
 have I1:Inv X Ψ σ H {s with heap:=h'}:=I.kept (t':=s.toks) λb o e=>hx b o (c9 (bS e)) e
 exact h Ψ _ σ H xs _ Q I1 (by simpa using rv) hw
noncomputable def aJ5(te:TE)(g:TG):TS:=λD σ H=>te σ H λx H1=>g x σ H1 D.nx
theorem HR{i:ah}{x:Str}{e:Expr}{te:TE}{pos':bz}(hN:X.N.Nodup)(hi:X.N[i]?=ae x)(hx:Loc X.env.scope x)(he:PE X e te)(hs:eh e (ae (.Name x pos')) pos.line X.env=pure ai:=by rfl)(hf:X.fn x=af\/X.env.scope.names.lookup x=ae .local:=by first|exact .inl rfl|exact .inr rfl|assumption) :
  PS X (.Assign [.Name x pos'] e pos) (aJ5 te (xZ i)):=by
 intro Ψ s σ H D I h;refine wpAny_Assign_Name (thn (he Ψ s σ H _ I h) λv s1 ⟨y,H1,I1,r1,q1⟩=>?_) hs;exact RN I1 hN hi hx r1 (λs2 I2=>⟨_,H1,I2,q1⟩) hf
def aJ6(c:TT)(tb:TS):TS:=λD σ H=>∃W:ah->St->Hp->Prop,(∃m,W m σ H)/\∀m σ H,W m σ H->
 c σ H λb H1=>if b=af then ∃N:St->Hp->Prop,(∀σ' H',N σ' H'->∃m',m'<m/\W m' σ' H')/\tb {D with nx:=N,ct:=N,bk:=D.nx} σ H1 else D.nx σ H1
theorem aCg{c:Expr}{body:aa bo}{tc:TT}{tb:TS}(hp:ja (ax X.prog X.w) X.A X.env X.xe)(hc:PT X c tc)(hb:PSs X body tb):PS X (.While c body [] pos) (aJ6 tc tb):=by
 intro Ψ s σ H D I h;obtain⟨W,⟨m0,w0⟩,turn⟩:=h;refine wpAny_While (codeAny_whileLoop (λn s'=>∃σ' H',Inv X Ψ σ' H' s'/\W n σ' H') ?_ m0 ⟨σ,H,I,w0⟩);rintro n s1 ⟨σ1,H1,I1,w1⟩;refine jI hp (thn (hc Ψ s1 σ1 H1 _ I1 (turn n σ1 H1 w1)) λb s2 ⟨H2,I2,q2⟩=>?_);cases b with
 |true=>
  obtain⟨N,hN,q2⟩:=q2;rw[aq rfl];refine jI hp (thn (hb Ψ s2 σ1 H2 _ I2 q2) λf s3 q3=>?_);cases f with
  |next=>
   obtain⟨σ3,H3,I3,n3⟩:=q3;obtain⟨m',hm,w3⟩:=hN σ3 H3 n3;exact⟨m',hm,σ3,H3,I3,w3⟩
  |cont=>
   obtain⟨σ3,H3,I3,n3⟩:=q3;obtain⟨m',hm,w3⟩:=hN σ3 H3 n3;exact⟨m',hm,σ3,H3,I3,w3⟩
  |brk=>exact q3
  |ret v=>exact q3
 |false=>
  rw[av lT];exact nz ⟨σ1,H2,I2,q2⟩
end
structure It where
 go:ah->Hp->Prop
 yld:ah->Hp->V->Hp->Prop
 stop:ah->Hp->Prop
def W2(X:Cx)(Ψ:aa (al×bb))(H:Hp)(b:al):Prop:=
 H b=ak/\b≠X.env.locals/\b∉X.fs/\(b∈X.ex\/X.s₀.heap.objs.size<=b)/\(∀x c,X.env.cells.lookup x=ae c->c≠b)/\∀p∈X.pn++Ψ,p.1≠b
theorem Inv.aFi{X:Cx}{Ψ:aa (al×bb)}{σ:St}{H H':Hp}{s:ao}{b:al}(I:Inv X Ψ σ H s)(hb:s.heap.objs.size<=b)(hn:H' b=ak):W2 X Ψ H' b:=by
 refine⟨hn,jS (em I.lt hb),I.aNq hb,.inr (dn I.sz hb),λx c e z=>?_,λp hp z=>?_⟩
 ·obtain⟨v,q⟩:=I.cell x c e;exact bd (em q.lt (by rw[z];exact hb)) (fj _)
 ·exact bd (em (bS (I.pin p hp).1) (by rw[z];exact hb)) (fj _)
structure Turn(P:bn)(w:bi)(K:bX)(tg:Expr)(J:It)(fp:aa al)(it:al)(tn:ah->aT->Prop):Prop where
 mem:it∈fp
 obj:∀i h,tn i h->∀b∈fp,∃o,h.get? b=ae o/\∀v,o.data≠.cell v
 keep:∀i h h',tn i h->(∀b∈fp,∀o,h.get? b=ae o->h'.get? b=ae o)->tn i h'
 item:∀(X:Cx),X.prog=P->X.w=w->X.K=K->X.calm=af->∀(i:ah)(Ψ:aa (al×bb))(s:ao)(σ:St)(H:Hp)(E:aj->ao->Prop),Inv X Ψ σ H s->(∀b∈fp,W2 X Ψ H b)->tn i s.heap->J.go i H->
  ϑ (ax P w) X.A (fu (.ref it)) (λr s1=>∃u,r=ae u/\
   ϑ (ax P w) X.A (nB tg (.ref it) u) (λ_ s2=>∃x H',Inv X Ψ σ H' s2/\RelV x u/\J.yld i H x H'/\tn (i+1) s2.heap/\∀b∈fp,H' b=ak) E s1) E s
 done:∀(X:Cx),X.prog=P->X.w=w->X.K=K->X.calm=af->∀(i:ah)(Ψ:aa (al×bb))(s:ao)(σ:St)(H:Hp)(E:aj->ao->Prop),Inv X Ψ σ H s->(∀b∈fp,W2 X Ψ H b)->tn i s.heap->J.stop i H->
  ϑ (ax P w) X.A (fu (.ref it)) (λr s1=>r=ak/\Inv X Ψ σ H s1) E s
 self:∀(A:bw)(i:ah)(s:ao)(Q:aj->ao->Prop)(E:aj->ao->Prop),tn i s.heap->Q (.ref it) s->ϑ (ax P w) A (fS (.ref it)) Q E s
abbrev TI:=St->Hp->(It->Hp->Prop)->Prop
def PIE(X:Cx)(Ψ:aa (al×bb))(σ:St)(tg:Expr)(R:It->Hp->Prop)(itv:aj)(s2:ao):Prop:=
 ∃(it:al)(fp:aa al)(tn:ah->aT->Prop)(J:It)(H':Hp),itv=.ref it/\Inv X Ψ σ H' s2/\Turn X.prog X.w X.K tg J fp it tn/\tn 0 s2.heap/\(∀b∈fp,W2 X Ψ H' b)/\R J H'
def PI(X:Cx)(tg iter:Expr)(wi:TI):Prop:=
 ∀(Ψ:aa (al×bb))(s:ao)(σ:St)(H:Hp)(R:It->Hp->Prop),Inv X Ψ σ H s->wi σ H R->
  ϑ (ax X.prog X.w) X.A (bP iter X.env) (λv s1=>ϑ (ax X.prog X.w) X.A (fS v) (PIE X Ψ σ tg R) X.xe s1) X.xe s
theorem aFj{M:i9}{A:bw}{E:aj->ao->Prop}{s:ao}{tg:Expr}{it:al}{u:aj}{o:bb}{n:dm}{vs:aw aj}{Q:iz->ao->Prop}(ho:s.heap.get? it=ae o)(hc:o.cls=.type n)(hd:o.data=.fields vs)
 (hn:["enumerate","zip","dict_itemiterator","dict_reverseitemiterator","odict_iterator","itertools.zip_longest","itertools.pairwise"].contains n=ai)(hQ:Q () s):ϑ M A (nB tg (.ref it) u) Q E s:= by
  unfold nB;cases tg<;>first
    |exact bf hQ
    | (cases u<;>first
        |exact bf hQ
        | (refine ay (wpAny_load ho ?_)
           rw[hc,hd];show ϑ M A (if (["enumerate","zip","dict_itemiterator","dict_reverseitemiterator","odict_iterator","itertools.zip_longest","itertools.pairwise"].contains n&&vs[0]?==ae (gX _))=af then _ else _) Q E s;rw[av (by intro h;rw[hn,Bool.false_and] at h;cases h)];exact bf hQ))
noncomputable def Itl(K:bX)(a:al):It:=
 ⟨λi H=>∃xs x,SqL K H a xs/\xs[i]?=ae x,λi H x H'=>H'=H/\∀xs,SqL K H a xs->xs[i]?=ae x,λi H=>∃xs,SqL K H a xs/\xs.length<=i⟩
noncomputable def Itt(K:bX)(a:al):It:=
 ⟨λi H=>∃xs x,SqT K H a xs/\xs[i]?=ae x,λi H x H'=>H'=H/\∀xs,SqT K H a xs->xs[i]?=ae x,λi H=>∃xs,SqT K H a xs/\xs.length<=i⟩
noncomputable def Itr(lo:ag)(n:ah):It:=⟨λi _=>i<n,λi H x H'=>H'=H/\x=.int (lo+i),λi _=>n<=i⟩
theorem vY{P:bn}{w:bi}{K:bX}{tg:Expr}(a it:al):Turn P w K tg (Itl K a) [it] it (λi h=>h.IsListIter it a i) where
 mem:=by simp
 obj:=λi h st b hb=>by
  have e:b=it:=by simpa using hb
  subst e;obtain⟨o,e,c,d⟩:=st;exact⟨o,e,λv z=>by rw[d] at z;cases z⟩
 keep:=λi h h' st k=>st.at λo e=>k it (by simp) o e
 item:=by
  intro X hP hw hK hc i Ψ s σ H E I hf st hg;subst hP hw hK;obtain⟨xs,x,hq,hx⟩:=hg;obtain⟨its,rv,p,hz⟩:=I.list hq;obtain⟨u,hu,ru⟩:=rv.get hx;obtain⟨f0,f1,f2,f3,f4,f5⟩:=hf it (by simp);refine wc st p.isList (x:=u) (by simpa using hu) λh' st' sb=>?_
  have I1:Inv X Ψ σ H {s with heap:=h'}:=I.turned (t':=s.toks) (λb o hb e=>(sb.2 b hb).trans e) f0 f1 f3 f4 f5;obtain⟨o,e,c,d⟩:=id st';exact⟨u,rfl,aFj (s:={s with heap:=h'}) e c d (by decide) ⟨x,H,I1,ru,⟨rfl,λys hy=>by rw[I.u5 hy hq];exact hx⟩,st',λb hb=>(hf b hb).1⟩⟩
 done:=by
  intro X hP hw hK hc i Ψ s σ H E I hf st hg;subst hP hw hK;obtain⟨xs,hq,hx⟩:=hg;obtain⟨its,rv,p,hz⟩:=I.list hq;obtain⟨f0,f1,f2,f3,f4,f5⟩:=hf it (by simp);have hl:=rv.length;exact wd (I.ok.hd hc) st p.isList (by simp;lia) λh' eb=>⟨rfl,I.turned (t':=s.toks) (λb o hb e=>eb b o hb e) f0 f1 f3 f4 f5⟩
 self:=λ_ _ _ _ _ st h=>wpAny_pyIter_listiter st h
theorem U3{P:bn}{w:bi}{K:bX}{tg:Expr}(a it:al):Turn P w K tg (Itt K a) [it] it (λi h=>h.IsTupleIter it a i) where
 mem:=by simp
 obj:=λi h st b hb=>by
  have e:b=it:=by simpa using hb
  subst e;obtain⟨o,e,c,d⟩:=st;exact⟨o,e,λv z=>by rw[d] at z;cases z⟩
 keep:=λi h h' st k=>st.at λo e=>k it (by simp) o e
 item:=by
  intro X hP hw hK hc i Ψ s σ H E I hf st hg;subst hP hw hK;obtain⟨xs,x,hq,hx⟩:=hg;obtain⟨its,rv,p,hz⟩:=I.tuple hq;obtain⟨u,hu,ru⟩:=rv.get hx;obtain⟨f0,f1,f2,f3,f4,f5⟩:=hf it (by simp);refine we st (show s.heap.IsTuple a its.toArray from p) (x:=u) (by simpa using hu) λh' st' sb=>?_
  have I1:Inv X Ψ σ H {s with heap:=h'}:=I.turned (t':=s.toks) (λb o hb e=>(sb.2 b hb).trans e) f0 f1 f3 f4 f5;obtain⟨o,e,c,d⟩:=id st';exact⟨u,rfl,aFj (s:={s with heap:=h'}) e c d (by decide) ⟨x,H,I1,ru,⟨rfl,λys hy=>by rw[I.XF hy hq];exact hx⟩,st',λb hb=>(hf b hb).1⟩⟩
 done:=by
  intro X hP hw hK hc i Ψ s σ H E I hf st hg;subst hP hw hK;obtain⟨xs,hq,hx⟩:=hg;obtain⟨its,rv,p,hz⟩:=I.tuple hq;obtain⟨f0,f1,f2,f3,f4,f5⟩:=hf it (by simp);have hl:=rv.length;exact wg (I.ok.hd hc) st (show s.heap.IsTuple a its.toArray from p) (by simp;lia) λh' eb=>⟨rfl,I.turned (t':=s.toks) (λb o hb e=>eb b o hb e) f0 f1 f3 f4 f5⟩
 self:=λ_ _ _ _ _ st h=>wpAny_pyIter_tupleiter st h
theorem U4{P:bn}{w:bi}{K:bX}{tg:Expr}(it:al)(lo:ag)(n:ah):Turn P w K tg (Itr lo n) [it] it (λi h=>wj h it (lo+(i:ah)*1) ((n:ag)-(i:ah)) 1) where
 mem:=by simp
 obj:=λi h st b hb=>by
  have e:b=it:=by simpa using hb
  subst e;exact⟨_,st,λv z=>by
   have z':wl _=wm v:=z;cases z'⟩
 keep:=λi h h' st k=>k it (by simp) _ st
 item:=by
  intro X hP hw hK hc i Ψ s σ H E I hf st hg;subst hP hw hK;obtain⟨f0,f1,f2,f3,f4,f5⟩:=hf it (by simp);have W:=Walks.range (prog:=X.prog) (w:=X.w) (I.ok.hd hc) it lo 1 n;refine W.item i s _ _ hg st λv h' tk hv st' kk=>?_
  obtain⟨t,rfl⟩:=hv;have I1:Inv X Ψ σ H {s with heap:=h',toks:=tk}:=I.turned (λb o hb e=>kk b o (by simpa using hb) e) f0 f1 f3 f4 f5;refine⟨_,rfl,aFj (s:={s with heap:=h',toks:=tk}) (n:= "range_iterator") st' rfl rfl (by decide) ⟨.int (lo+i),H,I1,⟨t,?_⟩,⟨rfl,rfl⟩,st',λb hb=>(hf b hb).1⟩⟩;rw[Int.mul_one]
 done:=by
  intro X hP hw hK hc i Ψ s σ H E I hf st hg;subst hP hw hK;obtain⟨f0,f1,f2,f3,f4,f5⟩:=hf it (by simp);exact wpAny_pyNext_range_end (I.ok.hd hc) st (by have:n<=i:=hg;lia) λh' eb=>⟨rfl,I.turned (t':=s.toks) (λb o hb e=>eb b o hb e) f0 f1 f3 f4 f5⟩
 self:=λ_ _ _ _ _ st h=>wpAny_pyIter_rangeiter st h
section
variable {X:Cx} {tg:Expr}
theorem aCh{Ψ:aa (al×bb)}{σ:St}{H:Hp}{s:ao}{R:It->Hp->Prop}{E:aj->ao->Prop}{lo hi:ag}{t u v:ff}{tk:ah}(I:Inv X Ψ σ H s)(h1:-(2 ^ 62)<=lo)(h2:lo<2 ^ 62)(h3:-(2 ^ 62)<=hi)(h4:hi<2 ^ 62)
 (q:R (Itr lo (hi-lo).toNat) H):ϑ (ax X.prog X.w) X.A (fS (.ref s.heap.objs.size)) (PIE X Ψ σ tg R) E {s with heap:=s.heap.push {cls:=.type "range",data:=.fields #[.int lo t,.int hi u,.int 1 v]},toks:=tk}:=by
 refine wpAny_pyIter_range (IsRange.new ..) (sA h1 h2 h3 h4) ?_;have I1:Inv X Ψ σ H {s with heap:=s.heap.push {cls:=.type "range",data:=.fields #[.int lo t,.int hi u,.int 1 v]},toks:=tk}:=I.kept λb o e=>cr _ e
 refine⟨(s.heap.push {cls:=.type "range",data:=.fields #[.int lo t,.int hi u,.int 1 v]}).objs.size,[(s.heap.push {cls:=.type "range",data:=.fields #[.int lo t,.int hi u,.int 1 v]}).objs.size],_,_,H,rfl,
  I1.kept (t':=tk) λb o e=>cr _ e,U4 _ lo (hi-lo).toNat,?_,λb hb=>?_,q⟩
 ·have e1:lo+((0:ah):ag)*1=lo:=by simp
  have e2:(((hi-lo).toNat:ah):ag)-((0:ah):ag)=sB lo hi 1:=by rw[sC];split<;>lia
  show wj _ _ (lo+((0:ah):ag)*1) ((((hi-lo).toNat:ah):ag)-((0:ah):ag)) 1;rw[e1,e2];exact di _ rfl
 ·have e:b=(s.heap.push {cls:=.type "range",data:=.fields #[.int lo t,.int hi u,.int 1 v]}).objs.size:=by simpa using hb
  subst e;exact I1.aFi (ba _) (I1.hok.fresh (ba _))
def aM9(ta:TA):TI:=λσ H R=>ta σ H λvs H1=>∃j:ag,vs=[.int j]/\-(2 ^ 62)<=j/\j<2 ^ 62/\R (Itr 0 j.toNat) H1
theorem XN{a:Expr}{ta:TA}{p pos:bz}(hg:Gl X "range")(hm:X.mg "range"=ak)(ha:PA X [a] ta)(hs:bp [a] X.env=[(ai,bP a X.env)]:=by rfl):PI X tg (.Call (.Name "range" p) [a] [] pos) (aM9 ta):=by
 intro Ψ s σ H R I h;refine Call_ (uF I hg hm sD (l5 (thn (ha pos Ψ s σ H _ I h) λus s1 ⟨vs,H1,I1,r1,q1⟩=>?_) hs rfl));obtain⟨j,e,q1,q2,q⟩:=q1;subst e;cases r1 with
 |cons r rr=>
  cases rr;obtain⟨t,rfl⟩:=r;exact wo (aCh I1 (by lia) (by lia) q1 q2 (by simpa using q))
def aOe(wi:TI)(g:TG)(tb:TS):TS:=λD σ H=>wi σ H λJ H1=>∃W:ah->ah->St->Hp->Prop,(∃m,W 0 m σ H1)/\∀i m σ H,W i m σ H->
 (J.stop i H/\D.nx σ H)\/(J.go i H/\∃N:St->Hp->Prop,(∀σ' H',N σ' H'->∃m',m'<m/\W (i+1) m' σ' H')/\∀x H',J.yld i H x H'->g x σ H' λσ2 H2=>tb {D with nx:=N,ct:=N,bk:=D.nx} σ2 H2)
noncomputable def vZ(fp:aa al)(h:aT):aa (al×bb):=fp.filterMap λb=>(h.get? b).map λo=>(b,o)
theorem nY{fp:aa al}{h:aT}{b:al}{o:bb}(hb:b∈fp)(e:h.get? b=ae o):(b,o)∈vZ fp h:=wt.mpr ⟨b,hb,by rw[e];rfl⟩
theorem XQ{fp:aa al}{h:aT}{p:al×bb}(hp:p∈vZ fp h):p.1∈fp/\h.get? p.1=ae p.2:=by
 obtain⟨b,hb,e⟩:=wt.mp hp;cases q:h.get? b with
 |none=>rw[q] at e;cases e
 |some o=>
  rw[q] at e;have e':(b,o)=p:=cx e;subst e';exact⟨hb,q⟩
theorem Inv.pinned{Ψ:aa (al×bb)}{σ:St}{H:Hp}{s:ao}{fp:aa al}(I:Inv X Ψ σ H s)(hf:∀b∈fp,W2 X Ψ H b)(ho:∀b∈fp,∃o,s.heap.get? b=ae o/\∀v,o.data≠.cell v):Inv X (Ψ++vZ fp s.heap) σ H s:=
 I.N8 λp hp=>(cS.mp hp).elim (λz=>I.pin p (eo _ z)) λz=>by
  obtain⟨hb,e⟩:=XQ z;obtain⟨f0,f1,f2,_⟩:=hf p.1 hb;obtain⟨o,e',d⟩:=ho p.1 hb;rw[e] at e';cases e';exact⟨e,f0,f1,f2,d⟩
theorem Inv.rJ{Ψ pl:aa (al×bb)}{σ:St}{H:Hp}{s:ao}(I:Inv X (Ψ++pl) σ H s):Inv X Ψ σ H s:=I.N8 λp hp=>I.pin p (eo _ (eM _ hp))
theorem HS{iter:Expr}{body:aa bo}{wi:TI}{g:TG}{tb:TS}{pos:bz}(hp:ja (ax X.prog X.w) X.A X.env X.xe)(hc:X.calm=af)(hi:PI X tg iter wi)(hg:PG X tg g)(hb:PSs X body tb)
 (hs:∀x,eC iter X.env x=pure x:=by intro _;rfl):PS X (.For tg iter body [] pos) (aOe wi g tb):=by
 intro Ψ s σ H D I h;refine wpAny_For (thn (hi Ψ s σ H _ I h) λv s1 h1=>thn h1 λitv s2 h2=>?_) hs;obtain⟨it,fp,tn,J,H2,e,I2,T,st2,f2,W,⟨m0,w0⟩,turn⟩:=h2;subst e
 -- what stays af of the iterator's objects through the loop
 have stat:∀{H':Hp},(∀b∈fp,H' b=ak)->∀b∈fp,W2 X Ψ H' b:=λhn b hb=>⟨hn b hb,(f2 b hb).2⟩
 refine codeAny_forLoop_any (λn s'=>∃i σ' H',Inv X Ψ σ' H' s'/\tn i s'.heap/\(∀b∈fp,H' b=ak)/\W i n σ' H') ?_ m0 ⟨0,σ,H2,I2,st2,λb hb=>(f2 b hb).1,w0⟩;rintro n s3 ⟨i,σ3,H3,I3,st3,fr3,w3⟩;rcases turn i n σ3 H3 w3 with ⟨stop,qn⟩|⟨go,N,hN,step⟩
 ·refine jI hp (thn (T.done X rfl rfl rfl hc i Ψ s3 σ3 H3 X.xe I3 (stat fr3) st3 stop) λr s4 ⟨hr,I4⟩=>?_);subst hr;exact nz ⟨σ3,H3,I4,qn⟩
 ·refine jI hp (thn (T.item X rfl rfl rfl hc i Ψ s3 σ3 H3 X.xe I3 (stat fr3) st3 go) λr s4 ⟨u,hr,h4⟩=>?_);subst hr;refine jI hp (thn h4 λ_ s5 ⟨x,H5,I5,r5,y5,st5,fr5⟩=>?_);have I5':=I5.pinned (stat fr5) (T.obj _ _ st5);refine jI hp (thn (hg _ s5 σ3 H5 x u _ I5' r5 (step x H5 y5)) λ_ s6 ⟨σ6,H6,I6,q6⟩=>?_);refine jI hp (thn (hb _ s6 σ6 H6 _ I6 q6) λf s7 q7=>?_);have again:∀{σ7:St}{H7:Hp},Inv X (Ψ++vZ fp s5.heap) σ7 H7 s7->N σ7 H7->∃m,m<n/\∃i σ' H',Inv X Ψ σ' H' s7/\tn i s7.heap/\(∀b∈fp,H' b=ak)/\W i m σ' H':=λ{σ7 H7} I7 n7=>by
   obtain⟨m',hm,w7⟩:=hN σ7 H7 n7;refine⟨m',hm,i+1,σ7,H7,I7.rJ,T.keep _ _ _ st5 λb hb o e=>(I7.pin (b,o) (eo _ (eo _ (nY hb e)))).1,λb hb=>?_,w7⟩;obtain⟨o,e,d⟩:=T.obj _ _ st5 b hb;exact(I7.pin (b,o) (eo _ (eo _ (nY hb e)))).2.1
  cases f with
  |next=>obtain⟨σ7,H7,I7,n7⟩:=q7;exact again I7 n7
  |cont=>obtain⟨σ7,H7,I7,n7⟩:=q7;exact again I7 n7
  |brk=>obtain⟨σ7,H7,I7,q7⟩:=q7;exact⟨σ7,H7,I7.rJ,q7⟩
  |ret v=>obtain⟨x7,σ7,H7,I7,r7,q7⟩:=q7;exact⟨x7,σ7,H7,I7.rJ,r7,q7⟩
end
abbrev R2:=V->V->Hp->VK->Prop
def OpR(X:Cx)(f:aj->aj->eg aj)(r:R2):Prop:=
 ∀(Ψ:aa (al×bb))(s:ao)(σ:St)(H:Hp)(x y:V)(v u:aj)(Q:VK),Inv X Ψ σ H s->RelV x v->RelV y u->r x y H Q->
  ϑ (ax X.prog X.w) X.A (f v u) (EP X Ψ σ Q) X.xe s
def UnR(X:Cx)(f:aj->eg aj)(r:V->Hp->VK->Prop):Prop:=
 ∀(Ψ:aa (al×bb))(s:ao)(σ:St)(H:Hp)(x:V)(v:aj)(Q:VK),Inv X Ψ σ H s->RelV x v->r x H Q->
  ϑ (ax X.prog X.w) X.A (f v) (EP X Ψ σ Q) X.xe s
def lF(X:Cx)(f:aj)(r:aa V->Hp->VK->Prop):Prop:=
 ∀(Ψ:aa (al×bb))(s:ao)(σ:St)(H:Hp)(xs:aa V)(us:aa aj)(Q:VK),Inv X Ψ σ H s->Vals xs us->r xs H Q->
  ϑ (ax X.prog X.w) X.A (call f us) (EP X Ψ σ Q) X.xe s
def aOf(X:Cx)(r:V->Hp->(ap->Hp->Prop)->Prop):Prop:=
 ∀(Ψ:aa (al×bb))(s:ao)(σ:St)(H:Hp)(x:V)(v:aj)(Q:ap->Hp->Prop),Inv X Ψ σ H s->RelV x v->r x H Q->
  ϑ (ax X.prog X.w) X.A (truthy v) (TP X Ψ σ Q) X.xe s
noncomputable def tOp(r:R2)(ta tb:TE):TE:=λσ H Q=>ta σ H λx H1=>tb σ H1 λy H2=>r x y H2 Q
noncomputable def tUn(r:V->Hp->VK->Prop)(ta:TE):TE:=λσ H Q=>ta σ H λx H1=>r x H1 Q
noncomputable def rI(C:ag->ag->Prop)(g:ag->ag->V):R2:=λx y H Q=>∃i j,x=.int i/\y=.int j/\C i j/\Q (g i j) H
noncomputable def rI0(g:ag->ag->V):R2:=λx y H Q=>∃i j,x=.int i/\y=.int j/\Q (g i j) H
def rU(g:ag->V):V->Hp->VK->Prop:=λx H Q=>∃i,x=.int i/\Q (g i) H
section
variable {X:Cx} {a b:Expr} {ta tb:TE} {pos:bz}
theorem aMa(ha:PE X a ta)(hb:PE X b tb){Ψ:aa (al×bb)}{s:ao}{σ:St}{H:Hp}{R:V->V->Hp->Prop}(I:Inv X Ψ σ H s)
 (h:ta σ H λx H1=>tb σ H1 λy H2=>R x y H2){Q:aj->ao->Prop}{f:aj->aj->eg aj}
 (hf:∀v u s2 x y H2,Inv X Ψ σ H2 s2->RelV x v->RelV y u->R x y H2->ϑ (ax X.prog X.w) X.A (f v u) Q X.xe s2) :
  ϑ (ax X.prog X.w) X.A (bP a X.env) (λv s₁=>ϑ (ax X.prog X.w) X.A (bP b X.env) (λu s₂=>ϑ (ax X.prog X.w) X.A (f v u) Q X.xe s₂) X.xe s₁) X.xe s:=by
 refine thn (ha Ψ s σ H _ I h) λv s1 ⟨x,H1,I1,r1,q1⟩=>?_
 refine thn (hb Ψ s1 σ H1 _ I1 q1) λu s2 ⟨y,H2,I2,r2,q2⟩=>?_
 exact hf v u s2 x y H2 I2 r1 r2 q2
theorem aMb{op:Operator}{r:R2}(ho:OpR X (fT op) r)(ha:PE X a ta)(hb:PE X b tb):PE X (.BinOp a op b pos) (tOp r ta tb):=by
 intro Ψ s σ H Q I h;exact wpAny_BinOp (aMa ha hb I h λv u s2 x y H2 I2 rx ry q=>ho Ψ s2 σ H2 x y v u Q I2 rx ry q)
theorem aMc{op:UnaryOp}{r:V->Hp->VK->Prop}(ho:UnR X (nE op) r)(ha:PE X a ta):PE X (.UnaryOp op a pos) (tUn r ta):=by
 intro Ψ s σ H Q I h;exact UnaryOp_ (thn (ha Ψ s σ H _ I h) λv s1 ⟨x,H1,I1,r1,q1⟩=>ho Ψ s1 σ H1 x v Q I1 r1 q1)
theorem opI{f:aj->aj->eg aj}{C:ag->ag->Prop}{g:ag->ag->ag}
 (ka:∀(i j:ag) (t u:ff) (s:ao) (Q:aj->ao->Prop) (E:aj->ao->Prop),C i j->Q (.int (g i j) s.toks) {s with toks:=s.toks+1}->ϑ (ax X.prog X.w) X.A (f (.int i t) (.int j u)) Q E s) :
  OpR X f (rI C λi j=>.int (g i j)):=by
 intro Ψ s σ H x y v u Q I rx ry h;obtain⟨i,j,rfl,rfl,hc,q⟩:=h;obtain⟨t,rfl⟩:=rx;obtain⟨t',rfl⟩:=ry;exact ka i j t t' s _ _ hc ⟨.int (g i j),H,I.tok _,⟨_,rfl⟩,q⟩
theorem aOg{f:aj->aj->eg aj}{g:ag->ag->ag}
 (ka:∀(i j:ag) (t u:ff) (s:ao) (Q:aj->ao->Prop) (E:aj->ao->Prop),Q (.int (g i j) s.toks) {s with toks:=s.toks+1}->ϑ (ax X.prog X.w) X.A (f (.int i t) (.int j u)) Q E s) :
  OpR X f (rI0 λi j=>.int (g i j)):=by
 intro Ψ s σ H x y v u Q I rx ry h;obtain⟨i,j,rfl,rfl,q⟩:=h;obtain⟨t,rfl⟩:=rx;obtain⟨t',rfl⟩:=ry;exact ka i j t t' s _ _ ⟨.int (g i j),H,I.tok _,⟨_,rfl⟩,q⟩
def aOh(i j:ag):Prop:=0<j/\j<1073741824
def aOi(i j:ag):Prop:=0<=j/\j<=1000000/\i.natAbs<2 ^ 64
def aMd(i j:ag):Prop:=(-(2 ^ 64)<i/\i<2 ^ 64)\/(-(2 ^ 64)<j/\j<2 ^ 64)
theorem aMd.ok{i j:ag}(h:aMd i j):IntMulOk i j:=by
 rcases h with ⟨h1,h2⟩|⟨h1,h2⟩
 ·exact .of_left (wu h1 h2)
 ·exact .of_right (wu h1 h2)
theorem aJ7:OpR X (fT .Add) (rI0 λi j=>.int (i+j)):=aOg λ_ _ _ _ _ _ _ q=>add_int q
theorem aJ8:OpR X (fT .Mult) (rI aMd λi j=>.int (i*j)):=opI λ_ _ _ _ _ _ _ hc q=>mul_int q hc.ok
theorem aFk:OpR X (fT .FloorDiv) (rI aOh λi j=>.int (i / j)):=opI λi j _ _ _ _ _ hc q=>by
 have h1:(0:ag)<j:=hc.1;have h2:j<1073741824:=hc.2;exact floordiv_int (by lia) (by rw[Int.fdiv_eq_ediv_of_nonneg i (by lia)];exact q) (.inl (PyProof.noPylong_small (by lia)))
theorem aJ9:OpR X (fT .Mod) (rI (λ_ j=>0<j) λi j=>.int (i % j)):=opI λi j _ _ _ _ _ hc q=>by
 have h1:(0:ag)<j:=hc;exact mod_int' (by lia) (by rw[Int.fmod_eq_emod_of_nonneg i (by lia)];exact q)
theorem aJa:OpR X (fT .Pow) (rI aOi λi j=>.int (i ^ j.toNat)):=opI λ_ _ _ _ _ _ _ hc q=>pow_int_small hc.1 hc.2.1 hc.2.2 q
theorem unI{f:aj->eg aj}{g:ag->ag}
 (ka:∀(i:ag) (t:ff) (s:ao) (Q:aj->ao->Prop) (E:aj->ao->Prop),Q (.int (g i) s.toks) {s with toks:=s.toks+1}->ϑ (ax X.prog X.w) X.A (f (.int i t)) Q E s) :
  UnR X f (rU λi=>.int (g i)):=by
 intro Ψ s σ H x v Q I rx h;obtain⟨i,rfl,q⟩:=h;obtain⟨t,rfl⟩:=rx;exact ka i t s _ _ ⟨.int (g i),H,I.tok _,⟨_,rfl⟩,q⟩
theorem aJb:UnR X (nE .USub) (rU λi=>.int (-i)):=unI λ_ _ _ _ _ q=>neg_int q
end
section
variable {X:Cx} {a b c:Expr} {ta tb tc:TE} {pos:bz}
theorem aEa{Ψ:aa (al×bb)}{σ:St}{H:Hp}{s:ao}{Q:VK}{k k':ap}(I:Inv X Ψ σ H s)(q:Q (.bl k) H)(e:k=k'):EP X Ψ σ Q (.bool k') s:=by
 subst e;exact⟨.bl k,H,I,rfl,q⟩
theorem aJc:OpR X (de .Is) (λx y H Q=>y=.non/\Q (.bl (ϒ (x=.non))) H):=by
 intro Ψ s σ H x y v u Q I rx ry h;obtain⟨rfl,q⟩:=h;cases ry;refine is_none_gen (aEa I q ?_);cases x<;>first
  | (cases rx;rfl)
  | (obtain⟨t,rfl⟩:=rx;rfl)
theorem aFl:OpR X (de .IsNot) (λx y H Q=>y=.non/\Q (.bl (!ϒ (x=.non))) H):=by
 intro Ψ s σ H x y v u Q I rx ry h;obtain⟨rfl,q⟩:=h;cases ry;refine isnot_none_gen (aEa I q ?_);cases x<;>first
  | (cases rx;rfl)
  | (obtain⟨t,rfl⟩:=rx;rfl)
theorem cZ(b:Expr){op:gr}(h:op≠.In:=by decide)(h2:op≠.NotIn:=by decide):kP op b=ai:=by
 have e1:(op==CmpOp.In)=ai:=by cases op<;>first|rfl|exact bd rfl h
 have e2:(op==CmpOp.NotIn)=ai:=by cases op<;>first|rfl|exact bd rfl h2
 cases b<;>simp[kP,e1,e2]
theorem aFm{op:gr}{r:R2}(ho:OpR X (de op) r)(ha:PE X a ta)(hb:PE X b tb)(hm:kP op b=ai):PE X (.Compare a [op] [b] pos) (tOp r ta tb):=by
 intro Ψ s σ H Q I h;exact wpAny_Compare1 (aMa ha hb I h λv u s2 x y H2 I2 rx ry q=>ho Ψ s2 σ H2 x y v u Q I2 rx ry q) hm
noncomputable def aJd(t:TE):TT:=λσ H Q=>t σ H λx H'=>∃k,x=.bl k/\Q k H'
theorem aFn{op:gr}{r:R2}(ho:OpR X (de op) r)(ha:PE X a ta)(hb:PE X b tb)(hm:kP op b=ai):PT X (.Compare a [op] [b] pos) (aJd (tOp r ta tb)):=by
 intro Ψ s σ H Q I h;refine wpAny_isTrue_Compare1 (thn (ha Ψ s σ H _ I h) λv s1 ⟨x,H1,I1,r1,q1⟩=>thn (hb Ψ s1 σ H1 _ I1 q1) λu s2 ⟨y,H2,I2,r2,q2⟩=>
  thn (ho Ψ s2 σ H2 x y v u _ I2 r1 r2 q2) λc s3 ⟨z,H3,I3,r3,k,e,q3⟩=>?_) hm
 subst e;cases r3;exact iA ⟨H3,I3,q3⟩
noncomputable def aEb(r r':R2)(ta tb tc:TE):TE:=λσ H Q=>ta σ H λx H1=>tb σ H1 λy H2=>r x y H2 λz H3=>∃k,z=.bl k/\
 (if k=af then tc σ H3 λw' H4=>r' y w' H4 Q else Q (.bl ai) H3)
theorem aCi{op op':gr}{r r':R2}(ho:OpR X (de op) r)(ho':OpR X (de op') r')(ha:PE X a ta)(hb:PE X b tb)(hc:PE X c tc)
 (hm:lastMarks [op,op'] [b,c]=ai:=by with_unfolding_all rfl):PT X (.Compare a [op,op'] [b,c] pos) (aJd (aEb r r' ta tb tc)):=by
 intro Ψ s σ H Q I h;refine isTrue_chain (thn (ha Ψ s σ H _ I h) λv s1 ⟨x,H1,I1,r1,q1⟩=>test_link (thn (hb Ψ s1 σ H1 _ I1 q1) λu s2 ⟨y,H2,I2,r2,q2⟩=>
  thn (ho Ψ s2 σ H2 x y v u _ I2 r1 r2 q2) λd s3 ⟨z,H3,I3,r3,k,e,q3⟩=>?_)) hm
 subst e;cases r3;refine iA ?_;cases k with
 |false=>
  obtain⟨k',e',q'⟩:=q3;cases e';exact ite_ff ⟨H3,I3,q'⟩
 |true=>
  refine ite_tt (test_last (thn (hc Ψ s3 σ H3 _ I3 q3) λw' s4 ⟨z',H4,I4,r4,q4⟩=>thn (ho' Ψ s4 σ H4 y z' u w' _ I4 r2 r4 q4) λd' s5 ⟨z2,H5,I5,r5,k2,e2,q5⟩=>?_));subst e2;cases r5;exact iA ⟨H5,I5,q5⟩
def aMe(K:bX)(x:V)(H:Hp)(k:ap):Prop:=
 match x with
 |.non=>k=ai
 |.bl b=>k=b
 |.int i=>k=(i !=0)
 |.str y=>y.length<=bj/\k=((y.length:ag)!=0)
 |.byt y=>y.size<=bj/\k=((y.size:ag)!=0)
 |.ref p=>(∃xs,SqL K H p xs/\k=!xs.isEmpty)\/(∃xs,SqT K H p xs/\k=!xs.isEmpty)\/∃kvs,H p=ae (.dK kvs)/\k=!kvs.isEmpty
 |_=>cy
theorem U5{κ:Type}{kvs:aa (κ×V)}{vs:aa (κ×aj)}(r:KV kvs vs):(!vs.isEmpty)=!kvs.isEmpty:=by
 cases r<;>rfl
theorem yX{xs:aa V}{its:aa aj}(r:Vals xs its):(!its.toArray.isEmpty)=!xs.isEmpty:=by
 cases r<;>simp
theorem yZ:(bj:ah)<2 ^ 63:=by rw[eD];decide
theorem aJe:aOf X (λx H Q=>∃k,aMe X.K x H k/\Q k H):=by
 intro Ψ s σ H x v Q I rx h;obtain⟨k,e,q⟩:=h;have hl:=yZ;have hs:bj=16777216:=eD;cases x with
 |non=>
  cases rx;have e':k=ai:=e;subst e';exact truthy_none ⟨H,I,q⟩
 |bl b=>
  cases rx;have e':k=b:=e;subst e';exact iA ⟨H,I,q⟩
 |int i=>
  obtain⟨t,rfl⟩:=rx;have e':k=(i !=0):=e;subst e';exact PySem.P.truthy_int ⟨H,I,q⟩
 |str y=>
  obtain⟨t,rfl⟩:=rx;obtain⟨hy,e'⟩:y.length<=bj/\k=((y.length:ag)!=0):=e;subst e';exact PySem.P.truthy_str (by lia) ⟨H,I.tok _,q⟩
 |byt y=>
  obtain⟨t,rfl⟩:=rx;obtain⟨hy,e'⟩:y.size<=bj/\k=((y.size:ag)!=0):=e;subst e';exact PySem.W.truthy_bytes (by lia) ⟨H,I.tok _,q⟩
 |ref p=>
  cases rx;have e':(∃xs,SqL X.K H p xs/\k=!xs.isEmpty)\/(∃xs,SqT X.K H p xs/\k=!xs.isEmpty)\/∃kvs,H p=ae (.dK kvs)/\k=!kvs.isEmpty:=e;rcases e' with ⟨xs,hx,e'⟩|⟨xs,hx,e'⟩|⟨kvs,hx,e'⟩
  ·subst e';obtain⟨its,r,pl,hz⟩:=I.list hx;have hlen:=r.length;exact wpAny_truthy_list pl.isList (by simp only[cg];lia) ⟨H,I.tok _,by rw[yX r];exact q⟩
  ·subst e';obtain⟨its,r,pl,hz⟩:=I.tuple hx;have hlen:=r.length;exact truthy_tuple pl (by simp only[cg];lia) ⟨H,I.tok _,by rw[yX r];exact q⟩
  ·subst e';obtain⟨hz,hS,vs,r,m⟩:kvs.length<=bj/\(p==fi)=ai/\∃vs,KV kvs vs/\s.heap.DictOf (cL X.prog X.w) p vs:=I.hok p _ hx;have hlen:kvs.length=vs.length:=kF r;exact wpAny_truthy_dict hS m (by lia) ⟨H,I.tok _,by rw[U5 r];exact q⟩
 |_=>exact(show cy from e).elim
theorem aCj(ha:PE X a ta)(he:∀whole,ny a X.env whole=(do let v <- whole;standAt a.pos;sF [v] (truthy v))) :
  PT X a (λσ H Q=>ta σ H λx H'=>∃k,aMe X.K x H' k/\Q k H'):=by
 intro Ψ s σ H Q I h;exact isTrue_plain (thn (ha Ψ s σ H _ I h) λv s1 ⟨x,H1,I1,r1,q1⟩=>aJe Ψ s1 σ H1 x v Q I1 r1 q1) (he _)
theorem U6:OpR X (fT .Add) (λx y H Q=>∃i j,x=.str i/\y=.str j/\i.length+j.length<=bj/\Q (.str (i++j)) H):=by
 intro Ψ s σ H x y v u Q I rx ry h;obtain⟨i,j,rfl,rfl,hz,q⟩:=h;obtain⟨t,rfl⟩:=rx;obtain⟨t',rfl⟩:=ry;exact add_str (λt' tk=>⟨.str (i++j),H,I.tok _,⟨_,rfl⟩,q⟩) hz
theorem vals1{x:V}{us:aa aj}(r:Vals [x] us):∃u,us=[u]/\RelV x u:=by
 cases r with
 |cons r1 r2=>cases r2;exact⟨_,rfl,r1⟩
end
theorem aC7.some_of{v:V}{o:az aj}(r:aC7 (ae v) o):∃u,o=ae u/\RelV v u:=by
 cases o with
 |none=>exact(show cy from r).elim
 |some u=>exact⟨u,rfl,r⟩
structure vA(k:ah)(A:bw):Prop where
 hd:A.handled=ak
 dp:A.depth+3*k+5<wv
 un:A.units+16*k+200<bE
theorem vA.mono{j k:ah}{A:bw}(r:vA k A)(h:j<=k):vA j A:=⟨r.hd,by have:=r.dp;lia,by have:=r.un;lia⟩
theorem vA.deeper{k:ah}{A:bw}(r:vA (k+1) A)(env:dw):vA k (A.deeper env):=
 ⟨r.hd,by have:=r.dp;show A.depth+1+3*k+5<_;lia,by have:=r.un;show A.units+3+16*k+200<_;lia⟩
theorem vA.depth{k:ah}{A:bw}(r:vA k A):A.depth<wv:=by have:=r.dp;lia
theorem vA.units{k:ah}{A:bw}(r:vA k A):A.units+64<bE:=by have:=r.un;lia
noncomputable def aOj:TA:=λ_ H Q=>Q [] H
noncomputable def aMf(ta:TE)(tr:TA):TA:=λσ H Q=>ta σ H λx H1=>tr σ H1 λxs H2=>Q (x::xs) H2
section
variable {X:Cx} {e:Expr} {es:aa Expr} {te:TE} {t:TA} {pos:bz}
theorem oZ:PA X [] aOj:=λ_ _ _ _ H Q I h=>wx ⟨[],H,I,.nil,h⟩
theorem i_(ha:PE X e te)(hr:PA X es t)(hs:bp (e::es) X.env=(ai,bP e X.env)::bp es X.env:=by rfl):PA X (e::es) (aMf te t):=by
 intro pos Ψ s σ H Q I h;rw[hs];show ϑ _ _ (sv ((ai,bP e X.env)::eJ pos (bp es X.env))) _ _ s;refine wy (thn (ha Ψ s σ H _ I h) λu s1 ⟨x,H1,I1,r1,q1⟩=>?_);exact thn (hr pos Ψ s1 σ H1 _ I1 q1) λus s2 ⟨xs,H2,I2,r2,q2⟩=>⟨x::xs,H2,I2,.cons r1 r2,q2⟩
def aOk(t:TA):TE:=λσ H Q=>t σ H λxs H1=>xs.length<=bj/\∀p,H1 p=ak->Q (.ref p) (upd H1 p (.tup xs))
def aOl(t:TA):TE:=λσ H Q=>t σ H λxs H1=>xs.length<=bj/\∀p,H1 p=ak->Q (.ref p) (upd H1 p (.lst xs))
theorem aJf{x1}(h:PA X es t):PE X (.Tuple es x1 pos) (aOk t):=by
 intro Ψ s σ H Q I hq;refine wpAny_Tuple_spliced (thn (h pos Ψ s σ H _ I hq) λus s1 ⟨xs,H1,I1,r,z,q⟩=>⟨by rw[<-r.length];exact z,?_⟩);have hf:H1 s1.heap.objs.size=ak:=I1.hok.fresh (ba _);refine⟨.ref s1.heap.objs.size,upd H1 s1.heap.objs.size (.tup xs),I1.laid (t':=s1.toks) (λb u e=>cr _ e) (ba _) ?_,rfl,q _ hf⟩;exact⟨z,us,r,⟨_,di _ rfl,rfl,_,rfl⟩⟩
theorem XR(h:PA X es t):PE X (.List es pos) (aOl t):=by
 intro Ψ s σ H Q I hq;refine wpAny_List_spliced (thn (h pos Ψ s σ H _ I hq) λus s1 ⟨xs,H1,I1,r,z,q⟩=>⟨by rw[<-r.length];exact z,?_⟩);have hf:H1 s1.heap.objs.size=ak:=I1.hok.fresh (ba _);refine⟨.ref s1.heap.objs.size,upd H1 s1.heap.objs.size (.lst xs),I1.laid (t':=s1.toks) (λb u e=>cr _ e) (ba _) ?_,rfl,q _ hf⟩;exact⟨z,us,0,r,di _ rfl⟩
end
abbrev Sp:=aa V->Hp->VK->XK->Prop
abbrev CXT:=aa dw->Hp->ao->XK->aj->ao->Prop
structure aLw(P:bn)(w:bi)(K:bX)(mg:Str->az aj)(base:aT)(A:bw)(outer:aa dw)(s:ao)(H:Hp):Prop where
 frames:A.frames=ae outer
 mod:Mod K mg base
 bs:∀b o,base.get? b=ae o->s.heap.get? b=ae o/\H b=ak
 bsz:base.objs.size<=s.heap.objs.size
 W9:s.heap.FunFrames base outer
 frf:∀b∈frs outer,H b=ak
 hok:HOk P w H s.heap
 bare:i8 s.gens
def CE(outer:aa dw)(P:bn)(w:bi)(H:Hp)(s:ao)(Q:VK)(u:aj)(s':ao):Prop:=
 ∃v H',s'.os=s.os/\i8 s'.gens/\Un (frs outer) [] H H' s.heap s'.heap/\HOk P w H' s'.heap/\RelV v u/\Q v H'
def CR(CX:CXT)(outer:aa dw)(P:bn)(w:bi)(H:Hp)(s:ao)(Q:VK)(E:XK)(r:kQ)(s':ao):Prop:=
 match r with
 |.ok (.ret u)=>CE outer P w H s Q u s'
 |.ok _=>cy
 |.error e=>CX outer H s E e s'
structure U7(P:bn)(w:bi)(K:bX)(mg:Str->az aj)(base:aT)(CX:CXT)(k:ah)(f:al)(fd:eP)(ps:aa Str)(sp:Sp):Prop where
 len:∀vs H Q E,sp vs H Q E->vs.length=ps.length
 run:∀(A:bw)(outer:aa dw)(s:ao)(H:Hp)(args:Args)(us:aa aj)(vs:aa V)(Q:VK)(E:XK),vA k A->aLw P w K mg base A outer s H->kX s fd args (ps.zip us)->Vals vs us->sp vs H Q E->
  codeAny (ax P w) A (.call (.ref f) args) (CR CX outer P w H s Q E) s
section
variable {X:Cx} {Ψ:aa (al×bb)} {σ:St} {H:Hp} {s s':ao}
theorem Inv.env0(I:Inv X Ψ σ H s):aLw X.prog X.w X.K X.mg X.base X.A X.stack s H:=
 ⟨I.ok.frames,I.ok.mod,I.bs,dn I.ok.bsz I.sz,I.stack,I.W_,I.hok,I.bare⟩
theorem Inv.after{Q:VK}{u:aj}(I:Inv X Ψ σ H s)(h:CE X.stack X.prog X.w H s Q u s'):EP X Ψ σ Q u s':=by
 obtain⟨v,H',os,bare,un,hok,r,q⟩:=h;obtain⟨hh,g,d,t,os'⟩:=s';obtain rfl:os'=s.os:=os;exact⟨v,H',I.call (h':=hh) (g':=g) (d':=d) (t':=t) (ch:=[]) un hok bare (λb z=>bd z (by simp)),r,q⟩
end
noncomputable def aMg(sp:Sp)(dvs:aa V)(E:XK)(t:TA):TE:=λσ H Q=>t σ H λvs H1=>sp (vs++dvs) H1 Q E
def Binds(K:bX)(fd:eP)(ps:aa Str)(ds:aa aj):Prop:=
 ∀(s:ao)(us:aa aj),K.In s.heap->(us++ds).length=ps.length->kX s fd ⟨us,[]⟩ (ps.zip (us++ds))
theorem Binds.all{K:bX}{fd:eP}{ps:aa Str}(h:∀us:aa aj,us.length=ps.length->bindArgs fd ⟨us,[]⟩=pure (ps.zip us)):Binds K fd ps []:=λs us _ hl=>by
 rw[f_] at hl ⊢;exact .of_eq (h us hl)
def XS(CX:CXT)(X:Cx)(E:XK):Prop:=∀(Ψ:aa (al×bb))(σ:St)(H:Hp)(s:ao)(e:aj)(s':ao),Inv X Ψ σ H s->CX X.stack H s E e s'->X.xe e s'
section
variable {X:Cx} {CX:CXT} {k:ah} {f:al} {fd:eP} {ps:aa Str} {sp:Sp} {dvs:aa V} {ds:aa aj} {E:XK} {x:Str} {p pos:bz} {e:Expr} {es:aa Expr} {t:TA}
theorem aJg{Ψ:aa (al×bb)}{σ:St}{H:Hp}{s:ao}{Q:VK}{us:aa aj}{vs:aa V}(F:U7 X.prog X.w X.K X.mg X.base CX k f fd ps sp)(hr:vA k X.A)(hb:Binds X.K fd ps ds)(hd:Vals dvs ds)(hx:XS CX X E)
 (I:Inv X Ψ σ H s)(r:Vals vs us)(h:sp (vs++dvs) H Q E):ϑ (ax X.prog X.w) X.A (call (.ref f) us) (EP X Ψ σ Q) X.xe s:=by
 have r2:Vals (vs++dvs) (us++ds):=r.append hd;have hl:(us++ds).length=ps.length:=by rw[<-r2.length];exact F.len _ _ _ _ h
 refine wpAny_call (k5 (F.run X.A X.stack s H ⟨us,[]⟩ (us++ds) (vs++dvs) Q E hr I.env0 (hb s us I.kIn hl) r2 h) λr s' hq=>?_);cases r with
 |error e=>exact hx Ψ σ H s e s' I hq
 |ok fl=>
  cases fl with
  |ret u=>exact I.after hq
  |next=>exact fm hq
  |brk=>exact fm hq
  |cont=>exact fm hq
theorem aFo(F:U7 X.prog X.w X.K X.mg X.base CX k f fd ps sp)(hr:vA k X.A)(hg:Gl X x)(hm:X.mg x=ae (.ref f))(hk:l6 X.K (.ref f)=af)(hb:Binds X.K fd ps ds)(hd:Vals dvs ds)(hx:XS CX X E)
 (ha:PA X (e::es) t)(hdb:nDb x:=by decide)(he:bp (e::es) X.env=(ai,bP e X.env)::bp es X.env:=by rfl)(hpl:(eJ pos (bp es X.env)).any (·.1)=ai:=by rfl) :
  PE X (.Call (.Name x p) (e::es) [] pos) (aMg sp dvs E t):=by
 intro Ψ s σ H Q I h;refine kb (aFf I hg hm ?_ hdb);refine PySem.W.callWith_K (h₀:=X.base) I.ok.mod.kin hk (thn (ha pos Ψ s σ H _ I h) λus s1 ⟨vs,H1,I1,r,q⟩=>⟨I1.kIn,?_⟩) he hpl;exact aJg F hr hb hd hx I1 r q
end
structure bR(N P:aa Str)(sc:fq):Prop where
 kind:sc.kind=.function
 co:sc.isCoroutine=ai
 gen:sc.isGenerator=ai
 nd:N.Nodup
 pre:N.take P.length=P
 par:∀x∈P,sc.names.lookup x=ae .local\/sc.names.lookup x=ae .cell
 nofree:∀y∈sc.names,y.2≠.free
theorem HW{kindOf:Str->az im}{x:Str}:∀{binds:aa (Str×aj)}{m:Str->az aj},(∀v,(x,v)∉binds)->jb kindOf binds m x=m x
 |[],_,_=>rfl
 | (n,v)::r,m,h=>by
  unfold jb;rw[HW λw hw=>h w (bq _ hw)];split
  ·have:x≠n:=by rintro rfl;exact h v bu
   simp[this]
  ·rfl
theorem HX{kindOf:Str->az im}{x:Str}:∀{binds:aa (Str×aj)}{m:Str->az aj},(∀v,(x,v)∉binds)->jc kindOf binds m x=m x
 |[],_,_=>rfl
 | (n,v)::r,m,h=>by
  unfold jc;rw[HX λw hw=>h w (bq _ hw)];split
  ·rfl
  ·have:x≠n:=by rintro rfl;exact h v bu
   simp[this]
theorem HY{kindOf:Str->az im}{x:Str}{v:aj}:∀{P:aa Str}{vs:aa aj}{i:ah}{m:Str->az aj},P.Nodup->P[i]?=ae x->vs[i]?=ae v->kindOf x=ae .local->
  jb kindOf (P.zip vs) m x=ae v
 |[],_,_,_,_,h,_,_=>by simp at h
 |_::_,[],_,_,_,_,h,_=>by simp at h
 |p::P,w::vs,0,m,nd,h1,h2,hk=>by
  simp at h1 h2;subst h1;subst h2;show jb kindOf ((p,w)::P.zip vs) m p=_;unfold jb;rw[HW λv hv=>(dq.mp nd).1 (sK hv).1,aq hk];simp
 |p::P,w::vs,i+1,m,nd,h1,h2,hk=>by
  show jb kindOf ((p,w)::P.zip vs) m x=_;unfold jb;exact HY (i:=i) (dq.mp nd).2 (by simpa using h1) (by simpa using h2) hk
theorem H_{kindOf:Str->az im}{x:Str}{v:aj}:∀{P:aa Str}{vs:aa aj}{i:ah}{m:Str->az aj},P.Nodup->P[i]?=ae x->vs[i]?=ae v->kindOf x≠ae .local->
  jc kindOf (P.zip vs) m x=ae v
 |[],_,_,_,_,h,_,_=>by simp at h
 |_::_,[],_,_,_,_,h,_=>by simp at h
 |p::P,w::vs,0,m,nd,h1,h2,hk=>by
  simp at h1 h2;subst h1;subst h2;show jc kindOf ((p,w)::P.zip vs) m p=_;unfold jc;rw[HX λv hv=>(dq.mp nd).1 (sK hv).1,av hk];simp
 |p::P,w::vs,i+1,m,nd,h1,h2,hk=>by
  show jc kindOf ((p,w)::P.zip vs) m x=_;unfold jc;exact H_ (i:=i) (dq.mp nd).2 (by simpa using h1) (by simpa using h2) hk
noncomputable def start(N:aa Str)(vs:aa V):St:=vs.map ae++cz (N.length-vs.length) ak
noncomputable def aC8(CX:CXT)(P:bn)(w:bi)(K:bX)(mg:Str->az aj)(base:aT)(N:aa Str)(qual:Str)(scope:fq)(f:al)(cd:aj)(A:bw)(outer:aa dw)(s:ao)(H:Hp)(E:XK):Cx where
 prog:=P
 w:=w
 K:=K
 mg:=mg
 base:=base
 A:=A.deeper (gd qual scope s.heap.objs.size f cd)
 N:=N
 s₀:=s
 H₀:=H
 env:=gd qual scope s.heap.objs.size f cd
 outer:=outer
 stack:=gd qual scope s.heap.objs.size f cd::outer
 ex:=[]
 calm:=af
 fn:=λ_=>af
 pn:=[]
 xe:=λe s'=>ϑ (ax P w) (A.deeper (gd qual scope s.heap.objs.size f cd)) (leaving (gd qual scope s.heap.objs.size f cd) e) (λ_ s''=>CX outer H s E e s'') (λe' s''=>CX outer H s E e' s'') s'
theorem RP{sc:fq}{n:ah}{x:Str}(h:sc.names.lookup x=ae .cell):∃c,(sL n sc.names []).lookup x=ae c:=by
 have q:=wz sc.names n [] (.inl h);exact sM.mp q
theorem XX{CX:CXT}{P:bn}{w:bi}{K:bX}{mg:Str->az aj}{base:aT}{N ps:aa Str}{qual:Str}{scope:fq}{f:al}{cd:aj}{A:bw}{outer:aa dw}{s s1:ao}{H:Hp}{E:XK}{us:aa aj}{vs:aa V}
 (S:bR N ps scope)(hd:A.handled=ak)(e0:aLw P w K mg base A outer s H)(hl:vs.length=ps.length)(r:Vals vs us)
 (x:InCallC s s.heap.objs.size (jb (gd qual scope s.heap.objs.size f cd).kindOf (ps.zip us) λ_=>ak) (sL (s.heap.objs.size+1) scope.names []) (jc (gd qual scope s.heap.objs.size f cd).kindOf (ps.zip us) λ_=>ak) s1) :
  Inv (aC8 CX P w K mg base N qual scope f cd A outer s H E) [] (start N vs) H s1:=by
 have hpl:ps.length<=N.length:=by have:=d6 gu S.pre;rw[hG] at this;lia
 obtain⟨h1,tk,rfl,hk⟩:=x.done;have noA:∀b:al,b∉(aC8 CX P w K mg base N qual scope f cd A outer s H E).ex:=λb z=>bd (show b∈([]:aa al) from z) (by simp)
 refine⟨⟨e0.mod,S.kind,rfl,rfl,ba _,λy z c h1 h2=>?_,λy hy=>?_,λy c _ h=>?_,λ_=>hd,Around.frames_deeper e0.frames,.inr ⟨rfl,rfl⟩,λb z=>bd z (noA b),e0.bs,e0.bsz,λb _ _=>noA b,λb z=>bd z (noA b),e0.W9,e0.frf⟩,
  rfl,e0.bare,Un.kept hk,⟨_,x.toInCall.ns,λi y v h1 h2 h3=>?_⟩,λy c h=>⟨_,x.cell y c h⟩,e0.hok.fresh (ba _),λy c h=>?_,λp hp=>bd (show p∈([]:aa (al×bb)) from hp) (by simp),e0.hok.kept hk,?_⟩
 ·exact name_of_addr x.apart (k6 h1) (k6 h2)
 ·have hy:scope.names.lookup y=ae .cell\/scope.names.lookup y=ae .free:=hy;rcases hy with hy|hy
  ·exact RP hy
  ·exact bd rfl (S.nofree _ (k6 hy))
 ·exact lI (x.above y c (k6 h))
 ·have hi:i<vs.length:=by
   unfold start at h2;by_cases hi:i<vs.length
   ·exact hi
   ·rw[io (by simpa using hi)] at h2;rw[ke] at h2;split at h2<;>cases h2
  have ha:vs[i]?=ae v:=by
   unfold start at h2;rw[jd (by simpa using hi),kf] at h2;cases e:vs[i]? with
   |none=>rw[e] at h2;cases h2
   |some a=>rw[e] at h2;cases h2;rfl
  obtain⟨u,hu,rv⟩:=r.get ha;have hp:ps[i]?=ae y:=by
   rw[<-S.pre,nI (by lia)];exact h1
  have ndP:ps.Nodup:=by rw[<-S.pre];exact S.nd.sublist (List.take_sublist _ _)
  refine⟨u,rv,?_⟩;rcases S.par y (nK hp) with k|k
  ·exact .inl ⟨k,HY ndP hp hu k⟩
  ·obtain⟨c,e⟩:=RP (n:=s.heap.objs.size+1) k;refine .inr ⟨.inl k,c,e,?_⟩;have q:=x.cell y c e;rw[H_ ndP hp hu (by show scope.names.lookup y≠_;rw[k];decide)] at q;exact q
 ·exact e0.hok.fresh (lI (x.above y c (k6 h)))
 ·unfold start;show _=N.length;rw[cw,aI,w8];lia
theorem aMh{CX:CXT}{P:bn}{w:bi}{K:bX}{mg:Str->az aj}{base:aT}{k:ah}{f:al}{name qual:Str}{params:Arguments}{body:aa bo}{scope:fq}{dV kV doc pm cdv ct oc:aj}{an od:az al}
 {osl:aw (az aj)}{N ps:aa Str}{sp:Sp}(lk:K.lookup f=ae ⟨oc,od,.func (k7 name qual params body scope dV kV doc pm an cdv ct),osl⟩)(hcd:sN K cdv qual=af)(S:bR N ps scope)
 (len:∀vs H Q E,sp vs H Q E->vs.length=ps.length)
 (hbody:∀(A:bw) (outer:aa dw) (s:ao) (H:Hp) (vs:aa V) (Q:VK) (E:XK),vA k (A.deeper (gd qual scope s.heap.objs.size f cdv))->sp vs H Q E->
   ∃t,PSs (aC8 CX P w K mg base N qual scope f cdv A outer s H E) body t/\t {nx:=λ_ H'=>Q .non H',rt:=Q} (start N vs) H) :
  U7 P w K mg base CX (k+1) f (k7 name qual params body scope dV kV doc pm an cdv ct) ps sp:=by
 refine⟨len,λA outer s H args us vs Q E hr e0 hb r hsp=>?_⟩;have hl:=len _ _ _ _ hsp;have KX:K.In s.heap:=e0.mod.kin.keeps λb o e=>(e0.bs b o e).1
 have lim:s.heap.NoLimit:=e0.mod.nolimit.keeps λb o e=>(e0.bs b o e).1
 have hkind:∀y∈ps.zip us,scope.names.lookup y.1=ae .local\/(scope.names.lookup y.1=ae .cell/\((sL (s.heap.objs.size+1) scope.names []).lookup y.1).isSome=af):=λ⟨n,v⟩ hy=>by
  rcases S.par n (sK hy).1 with q|q
  ·exact .inl q
  ·exact .inr ⟨q,wz _ _ _ (.inl q)⟩
 refine codeAny_call_function hr.depth (KX _ _ lk) rfl S.co S.gen rfl (PySem.W.codeRec_of KX hcd) (hb _ _ _ _ ?_);refine wpAny_newFunctionEnv_cells S.kind hkind λenv he s1 x=>?_
 subst he;refine⟨lim.keeps x.toInCall.keep,codeAny_func ?_⟩;obtain⟨t,ht,hq⟩:=hbody A outer s H vs Q E (hr.deeper _) hsp;have I:Inv (aC8 CX P w K mg base N qual scope f cdv A outer s H E) [] (start N vs) H s1:=XX S hr.hd e0 hl r x;refine eL (ht [] s1 (start N vs) H _ I hq) (λfl s' hs=>?_) λe s' hs=>hs
 have fin:∀{σ':St}{H':Hp}{v:V}{u:aj},Inv (aC8 CX P w K mg base N qual scope f cdv A outer s H E) [] σ' H' s'->RelV v u->Q v H'->CE outer P w H s Q u s':=
  λ{σ' H' v u} J rv q=>⟨v,H',J.os,J.bare,J.base,J.hok,rv,q⟩
 cases fl with
 |ret u=>
  obtain⟨v,σ',H',J,rv,q⟩:=hs;exact fin J rv q
 |next=>
  obtain⟨σ',H',J,q⟩:=hs;exact fin (v:=V.non) (u:=jy) J rfl q
 |brk=>
  obtain⟨_,_,_,q⟩:=hs;exact fm q
 |cont=>
  obtain⟨_,_,_,q⟩:=hs;exact fm q
section
variable {X:Cx} {x:Str} {p pos:bz} {e:Expr} {es:aa Expr} {t:TA} {id T:dm} {r:aa V->Hp->VK->Prop}
noncomputable def tCB(r:aa V->Hp->VK->Prop)(t:TA):TE:=λσ H Q=>t σ H λvs H1=>r vs H1 Q
theorem RQ(hc:lF X (.builtin id) r)(hg:Gl X x)(hm:X.mg x=ak)(hv:en x=ae (.builtin id))(ha:PA X (e::es) t)(hn:x ≠ "__name__":=by decide)(hdb:nDb x:=by decide)
 (he:bp (e::es) X.env=(ai,bP e X.env)::bp es X.env:=by rfl)(hpl:(eJ pos (bp es X.env)).any (·.1)=ai:=by rfl):PE X (.Call (.Name x p) (e::es) [] pos) (tCB r t):=by
 intro Ψ s σ H Q I h;refine kb (uF I hg hm hv ?_ hn hdb);exact Bn (thn (ha pos Ψ s σ H _ I h) λus s1 ⟨vs,H1,I1,r1,q1⟩=>hc Ψ s1 σ H1 vs us Q I1 r1 q1) he hpl
theorem v4(hc:lF X (.type T) r)(hg:Gl X x)(hm:X.mg x=ak)(hv:en x=ae (.type T))(ha:PA X (e::es) t)(hn:x ≠ "__name__":=by decide)(hdb:nDb x:=by decide)
 (he:bp (e::es) X.env=(ai,bP e X.env)::bp es X.env:=by rfl)(hpl:(eJ pos (bp es X.env)).any (·.1)=ai:=by rfl):PE X (.Call (.Name x p) (e::es) [] pos) (tCB r t):=by
 intro Ψ s σ H Q I h;refine kb (uF I hg hm hv ?_ hn hdb);exact l5 (thn (ha pos Ψ s σ H _ I h) λus s1 ⟨vs,H1,I1,r1,q1⟩=>hc Ψ s1 σ H1 vs us Q I1 r1 q1) he hpl
end
end L2
namespace HT
open PySem PyProof.Rows
section
variable {prog:bn} {w:bi} {A:bw} {E:aj->ao->Prop} {s:ao}
noncomputable def sIx(n d:ah):az ag->ah
 |none=>d
 |some v=>if v<0 then (v+(n:ag)).toNat else min v.toNat n
theorem aJh(n d:ah)(hd:d<=n)(o:az ag):sIx n d o<=n:=by
 cases o with
 |none=>exact hd
 |some v=>
  show(if v<0 then (v+(n:ag)).toNat else min v.toNat n)<=n;by_cases hv:v<0
  ·rw[aq hv];lia
  ·rw[av hv];exact Nat.min_le_right _ _
theorem X3(v:ag)(n d:ah):(if v<0 then max (v+(n:ag)) 0 else min v (n:ag))=((sIx n d (ae v):ah):ag):=by
 show(if v<0 then max (v+(n:ag)) 0 else min v (n:ag))=(((if v<0 then (v+(n:ag)).toNat else min v.toNat n):ah):ag);by_cases hv:v<0
 ·simp only[aq hv];lia
 ·simp only[av hv];lia
theorem U8(lo hi:az ag)(n:ah):sP lo hi 1 (n:ag)=(((sIx n 0 lo:ah):ag),((sIx n n hi:ah):ag)):=by
 have h1:¬((1:ag)<0):=by lia
 unfold sP;simp only[h1,b9];refine Prod.ext ?_ ?_
 ·cases lo with
  |none=>rfl
  |some v=>exact X3 v n 0
 ·cases hi with
  |none=>rfl
  |some v=>exact X3 v n n
theorem U9(i j:ah):nL (i:ag) (j:ag) 1=j-i:=by
 unfold nL;have h1:(1:ag) > 0:=by lia
 simp only[h1,cb,Int.ediv_one];split<;>lia
theorem y_{v:aj}{o:az ag}{Q:az ag->ao->Prop}(p:je v o)(h:Q o s):ϑ (ax prog w) A (Bo v) Q E s:=by
 cases p with
 |none=>exact w_ h
 |int i t=>exact slicePart_int h
theorem uT{sl:al}{vl vu:aj}{lo hi:az ag}{n:ah}{Q:ag×ag×ah->ao->Prop}(hs:s.heap.IsSliceOf sl vl vu .none)(pl:je vl lo)(pu:je vu hi)
 (h:Q (((sIx n 0 lo:ah):ag),1,sIx n n hi-sIx n 0 lo) s):ϑ (ax prog w) A (xa (.ref sl) (pure (n:ag))) Q E s:=by
 obtain⟨os,hos,hcs,hds⟩:=id hs;unfold xa Bp;refine ay (ay (sQ hos hds (x:=vl) rfl (ay (sQ hos hds (x:=vu) rfl (ay (sQ hos hds (x:=.none) rfl (bf ?_)))))));refine ay (w_ ?_);show ϑ _ _ (if ((1:ag)==0)=af then _ else _) _ _ s;rw[av (by decide)];refine ay (y_ pl (ay (y_ pu (ay (bf ?_)))));show ϑ _ _ (match sP lo hi 1 (n:ag) with|(lo,hi)=>pure (lo,(1:ag),nL lo hi 1)) _ _ s;rw[U8 lo hi n];show ϑ _ _ (pure (((sIx n 0 lo:ah):ag),(1:ag),nL ((sIx n 0 lo:ah):ag) ((sIx n n hi:ah):ag) 1)) _ _ s;rw[U9];exact bf h
theorem aCk(xs:aw aj)(i k:ah):((cq k).filterMap λ(m:ah)=>xs[((i:ag)+(m:ag)*1).toNat]?).toArray=((xs.toList.drop i).take k).toArray:=by
 have e:(λ(m:ah)=>xs[((i:ag)+(m:ag)*1).toNat]?)=λm=>xs[i+m]?:=by
  funext m
  have:((i:ag)+(m:ag)*1).toNat=i+m:=by lia
  rw[this]
 rw[e];have:=pick_run xs i k;rw[List.filterMap_map] at this;have e2:((λx=>xs[x]?) ∘ λx=>i+x)=λm=>xs[i+m]?:=rfl
 rw[e2] at this;rw[this]
theorem tG{t sl:al}{items:aw aj}{vl vu:aj}{lo hi:az ag}{Q:aj->ao->Prop}(ht:IsTup s.heap t items)(hs:s.heap.IsSliceOf sl vl vu .none)(pl:je vl lo)(pu:je vu hi)
 (hw:¬(sIx items.size 0 lo=0/\sIx items.size items.size hi=items.size))
 (h:Q (.ref s.heap.objs.size) {s with heap:=s.heap.push {cls:=.type "tuple",data:=.seq ((items.toList.drop (sIx items.size 0 lo)).take (sIx items.size items.size hi-sIx items.size 0 lo)).toArray}})
 (hsz:items.size<=bj):ϑ (ax prog w) A (kg (.ref t) (.ref sl)) Q E s:=by
 have htake:sizeOk (.seq ((items.toList.drop (sIx items.size 0 lo)).take (sIx items.size items.size hi-sIx items.size 0 lo)).toArray):=by
  show((items.toList.drop (sIx items.size 0 lo)).take (sIx items.size items.size hi-sIx items.size 0 lo)).toArray.size<=bj;rw[cg,hG,iE,fR];lia
 have hj:sIx items.size items.size hi<=items.size:=aJh _ _ (ba _) hi;obtain⟨os,hos,hcs,hds⟩:=id hs;have hTs:s.TypeIs (.ref sl) "slice":=⟨os,hos,hcs⟩
 unfold kg
 try with_reducible refine gv ?_
 first|refine ay (bf ?_)|skip
 refine ay (wpAny_sequenceKey ht.typeIs (by decide) ?_);refine ay (sT (name:=s_ "__getitem__") ht.typeIs tf
  (l7 tf ht.typeIs entry_tuple_getitem ?_ (args_tuple_getitem _ _)))
 show ϑ _ _ (Bq (.ref t) >>= _) _ _ s;refine ay (tupleItemsOf_ ht ?_);refine ay (ti hTs ?_);rw[aq (by decide)];refine ay (uT hs pl pu ?_);have hno:¬((((sIx items.size 0 lo:ah):ag)==0&&(1:ag)==1&&(sIx items.size items.size hi-sIx items.size 0 lo)==items.size)=af):=by
  intro q;rw[bg,bg] at q;have q1:((sIx items.size 0 lo:ah):ag)=0:=eq_of_beq q.1.1;have q2:sIx items.size items.size hi-sIx items.size 0 lo=items.size:=eq_of_beq q.2;exact hw ⟨by lia,by lia⟩
 show ϑ _ _ (if (((sIx items.size 0 lo:ah):ag)==0&&(1:ag)==1&&(sIx items.size items.size hi-sIx items.size 0 lo)==items.size)=af then _ else _) _ _ s;rw[av hno,aCk]
 first
  |exact ay (m:=nN _) (fw (bf ⟨_,rfl,bf h⟩) htake)
  |exact ay (m:=nN _) (fw (ay (bf (bf ⟨_,rfl,bf h⟩))) htake)
  |exact ay (ay (m:=nN _) (fw (bf (bf ⟨_,rfl,bf h⟩)) htake))
  |exact ay (ay (m:=nN _) (fw (bf ⟨_,rfl,bf h⟩) htake))
end
end HT
namespace L2
open PySem PySem.Spec PyProof.Rows
abbrev TO:=St->Hp->(az ag->Hp->Prop)->Prop
def PO(X:Cx)(e:az Expr)(t:TO):Prop:=
 ∀(Ψ:aa (al×bb))(s:ao)(σ:St)(H:Hp)(Q:az ag->Hp->Prop),Inv X Ψ σ H s->t σ H Q->
  ϑ (ax X.prog X.w) X.A (evalPart e X.env) (λu s'=>∃o H',Inv X Ψ σ H' s'/\je u o/\Q o H') X.xe s
noncomputable def aFp:TO:=λ_ H Q=>Q ak H
noncomputable def aMi(t:TE):TO:=λσ H Q=>t σ H λx H1=>∃i,x=.int i/\Q (ae i) H1
section
variable {X:Cx} {e:Expr} {te:TE} {lo hi:az Expr} {tl th:TO} {pos p2:bz}
theorem aFq:PO X ak aFp:=by
 intro Ψ s σ H Q I h;rw[xb];exact bf ⟨ak,H,I,.none,h⟩
theorem aFr(h:PE X e te):PO X (ae e) (aMi te):=by
 intro Ψ s σ H Q I hw;rw[evalPart_some];refine thn (h Ψ s σ H _ I hw) λu s1 ⟨x,H1,I1,r1,q1⟩=>?_
 obtain⟨i,rfl,q⟩:=q1;obtain⟨t,rfl⟩:=r1;exact⟨ae i,H1,I1,.int i t,q⟩
def SlR(X:Cx)(r:V->az ag->az ag->Hp->VK->Prop):Prop:=
 ∀(Ψ:aa (al×bb))(s:ao)(σ:St)(H:Hp)(x:V)(v vl vu:aj)(lo hi:az ag)(sl:al)(Q:VK),Inv X Ψ σ H s->RelV x v->s.heap.IsSliceOf sl vl vu .none->je vl lo->je vu hi->r x lo hi H Q->
  ∃T id,l8 (.type T) "__getitem__"=pure (ae (.builtin id))/\s.TypeIs v T/\ϑ (ax X.prog X.w) X.A (kg v (.ref sl)) (EP X Ψ σ Q) X.xe s
noncomputable def tSl(r:V->az ag->az ag->Hp->VK->Prop)(te:TE)(tl th:TO):TE:=λσ H Q=>te σ H λx H1=>tl σ H1 λl H2=>th σ H2 λu H3=>r x l u H3 Q
theorem aCl{r:V->az ag->az ag->Hp->VK->Prop}(hr:SlR X r)(he:PE X e te)(hl:PO X lo tl)(hu:PO X hi th):PE X (.Subscript e (.Slice lo hi ak p2) pos) (tSl r te tl th):=by
 intro Ψ s σ H Q I h;refine Subscript_ (thn (he Ψ s σ H _ I h) λv s1 ⟨x,H1,I1,r1,q1⟩=>?_);refine wpAny_Slice (thn (hl Ψ s1 σ H1 _ I1 q1) λvl s2 ⟨l,H2,I2,pl,q2⟩=>thn (hu Ψ s2 σ H2 _ I2 q2) λvu s3 ⟨u,H3,I3,pu,q3⟩=>?_);rw[xb];refine bf ?_;have I4:Inv X Ψ σ H3 {s3 with heap:=s3.heap.push {cls:=.type "slice",data:=.fields #[vl,vu,.none]}}:=I3.kept (t':=s3.toks) λb ob q=>cr _ q
 obtain⟨T,id,hT,ht,hg⟩:=hr Ψ {s3 with heap:=s3.heap.push {cls:=.type "slice",data:=.fields #[vl,vu,.none]}} σ H3 x v vl vu l u s3.heap.objs.size Q I4 r1 (Br ..) pl pu q3;show ϑ (ax X.prog X.w) X.A (nS e (.Slice lo hi ak p2) v (.ref s3.heap.objs.size)) (EP X Ψ σ Q) X.xe {s3 with heap:=s3.heap.push {cls:=.type "slice",data:=.fields #[vl,vu,.none]}};exact tail_any (ops:=[.ref s3.heap.objs.size,v]) ht hT hg (by with_unfolding_all rfl)
noncomputable def X4(xs:aa V)(lo hi:az ag):aa V:=(xs.drop (HT.sIx xs.length 0 lo)).take (HT.sIx xs.length xs.length hi-HT.sIx xs.length 0 lo)
theorem v7(xs:aa V)(lo hi:az ag):(X4 xs lo hi).length<=xs.length:=by
 unfold X4;rw[hG,iE];lia
def aOm(K:bX):V->az ag->az ag->Hp->VK->Prop:=λx lo hi H Q=>∃a xs,x=.ref a/\SqT K H a xs/\
 ¬(HT.sIx xs.length 0 lo=0/\HT.sIx xs.length xs.length hi=xs.length)/\∀p,H p=ak->Q (.ref p) (upd H p (.tup (X4 xs lo hi)))
theorem aJi:SlR X (aOm X.K):=by
 intro Ψ s σ H x v vl vu lo hi sl Q I rx hs pl pu h;obtain⟨a,xs,rfl,hx,hw,q⟩:=h;cases rx;obtain⟨its,r,ht,hz⟩:=I.tuple hx;have hlen:its.toArray.size=xs.length:=by rw[cg];exact r.length.symm
 refine⟨"tuple",_,tf.lookup,ht.typeIs,?_⟩;refine HT.tG ht hs pl pu (by rw[hlen];exact hw) ?_ (by rw[hlen];exact hz);rw[hlen];refine⟨.ref s.heap.objs.size,_,I.laid (t':=s.toks) (o:=.tup (X4 xs lo hi)) (λb ob q=>cr _ q) (ba _) ?_,rfl,q _ (I.hok.fresh (ba _))⟩;exact⟨dn (v7 xs lo hi) hz,_,(r.drop (HT.sIx xs.length 0 lo)).take (HT.sIx xs.length xs.length hi-HT.sIx xs.length 0 lo),j8.new _ _⟩
end
noncomputable def ixN(n:ah)(i:ag):az ah:=if 0<=i then (if i<n then ae i.toNat else ak) else if -(n:ag)<=i then ae (i+n).toNat else ak
def atI{α:Type}(xs:aa α)(i:ag):az α:=(ixN xs.length i).bind λj=>xs[j]?
theorem aFs{n:ah}{i:ag}{j:ah}(h:ixN n i=ae j):seqIndex? i n=ae j/\j<n/\-(n:ag)<=i/\i<n:=by
 unfold ixN at h;by_cases h0:0<=i
 ·rw[aq h0] at h;by_cases h1:i<n
  ·rw[aq h1] at h;have e:i.toNat=j:=cx h;exact⟨by rw[xc h0 h1,e],by lia,by lia,h1⟩
  ·rw[av h1] at h;cases h
 ·rw[av h0] at h;by_cases h1:-(n:ag)<=i
  ·rw[aq h1] at h;have e:(i+n).toNat=j:=cx h;exact⟨by rw[seqIndex_neg (by lia) h1,e],by lia,h1,by lia⟩
  ·rw[av h1] at h;cases h
theorem N_{α:Type}{xs:aa α}{i:ag}{v:α}(h:atI xs i=ae v):∃j,seqIndex? i xs.length=ae j/\xs[j]?=ae v/\j<xs.length/\-(xs.length:ag)<=i/\i<xs.length:=by
 unfold atI at h;cases e:ixN xs.length i with
 |none=>rw[e] at h;cases h
 |some j=>
  rw[e] at h;obtain⟨h1,h2,h3,h4⟩:=aFs e;exact⟨j,h1,h,h2,h3,h4⟩
def tH(b:Expr):Prop:=∀o i,nV b ai o i=tj [o,i] (kg o i)
def IxR(X:Cx)(r:R2):Prop:=
 ∀(value slice:Expr)(Ψ:aa (al×bb))(s:ao)(σ:St)(H:Hp)(x y:V)(v u:aj)(Q:VK),Inv X Ψ σ H s->RelV x v->RelV y u->r x y H Q->
  nV slice ai v u=tj [v,u] (kg v u)->ϑ (ax X.prog X.w) X.A (nS value slice v u) (EP X Ψ σ Q) X.xe s
def MtR(X:Cx)(id:dm)(r:V->aa V->Hp->VK->Prop):Prop:=
 ∀(Ψ:aa (al×bb))(s:ao)(σ:St)(H:Hp)(x:V)(xs:aa V)(v:aj)(us:aa aj)(Q:VK),Inv X Ψ σ H s->RelV x v->Vals xs us->r x xs H Q->
  ϑ (ax X.prog X.w) X.A (call (.builtin id) (v::us)) (EP X Ψ σ Q) X.xe s
section
variable {X:Cx} {a b:Expr} {ta tb:TE} {pos:bz}
theorem IxR.or{r r':R2}(h:IxR X r)(h':IxR X r'):IxR X (λx y H Q=>r x y H Q\/r' x y H Q):=by
 intro value slice Ψ s σ H x y v u Q I rx ry q hs;rcases q with q|q
 ·exact h value slice Ψ s σ H x y v u Q I rx ry q hs
 ·exact h' value slice Ψ s σ H x y v u Q I rx ry q hs
theorem aFt{r:R2}(hr:IxR X r)(ha:PE X a ta)(hb:PE X b tb)(hs:tH b):PE X (.Subscript a b pos) (tOp r ta tb):=by
 intro Ψ s σ H Q I h;exact Subscript_ (aMa ha hb I h λv u s2 x y H2 I2 rx ry q=>hr a b Ψ s2 σ H2 x y v u Q I2 rx ry q (hs _ _))
def aNt(K:bX):R2:=λx y H Q=>∃p xs i v,x=.ref p/\y=.int i/\SqL K H p xs/\atI xs i=ae v/\Q v H
def aOn(K:bX):R2:=λx y H Q=>∃p xs i v,x=.ref p/\y=.int i/\SqT K H p xs/\atI xs i=ae v/\Q v H
def aOo:R2:=λx y H Q=>∃z i c,x=.str z/\y=.int i/\z.length<=bj/\atI z.cps.toList i=ae c/\Q (.str ⟨#[c]⟩) H
theorem zU:IxR X (aNt X.K):=by
 intro value slice Ψ s σ H x y v u Q I rx ry h hs;obtain⟨p,xs,i,z,rfl,rfl,hq,he,q⟩:=h;cases rx;obtain⟨t,rfl⟩:=ry;obtain⟨its,r,pl,hz⟩:=I.list hq;obtain⟨j,h1,h2,h3,h4,h5⟩:=N_ he;obtain⟨w,ew,rw'⟩:=r.get h2;have hl:=r.length;have hn:=yZ;have fin:EP X Ψ σ Q w s:=⟨z,H,I,rw',q⟩
 by_cases h0:0<=i
 ·have hj:i.toNat=j:=by
   rw[xc h0 h5] at h1;exact cx h1
  exact item_listR pl.isList h0 (by lia) (by rw[hj];simpa using ew) fin hs
 ·have hj:(i+(its.toArray.size:ag)).toNat=j:=by
   rw[seqIndex_neg (by lia) h4] at h1;rw[cg,<-hl];exact cx h1
  exact xf (x:=w) pl.isList.typeIs xg.lookup
   (wpAny_getItem_list_neg (Q:=λr s'=>r=w/\EP X Ψ σ Q r s') pl.isList (by lia) (by rw[cg]<;>lia) (by lia) (by rw[hj];simpa using ew) ⟨rfl,fin⟩) hs
theorem aJj:IxR X (aOn X.K):=by
 intro value slice Ψ s σ H x y v u Q I rx ry h hs;obtain⟨p,xs,i,z,rfl,rfl,hq,he,q⟩:=h;cases rx;obtain⟨t,rfl⟩:=ry;obtain⟨its,r,pl,hz⟩:=I.tuple hq;obtain⟨j,h1,h2,h3,h4,h5⟩:=N_ he;obtain⟨w,ew,rw'⟩:=r.get h2;have hl:=r.length;have hn:=yZ;have fin:EP X Ψ σ Q w s:=⟨z,H,I,rw',q⟩
 exact xf (x:=w) pl.typeIs slot_tuple_getitem.lookup
  (getItem_tuple (j:=j) (Q:=λr s'=>r=w/\EP X Ψ σ Q r s') pl (by lia) (by lia) (by rw[cg,<-hl];exact h1) (by simpa using ew) ⟨rfl,fin⟩) hs
theorem aJk:IxR X aOo:=by
 intro value slice Ψ s σ H x y v u Q I rx ry h hs;obtain⟨z,i,c,rfl,rfl,hz,he,q⟩:=h;obtain⟨t,rfl⟩:=rx;obtain⟨t',rfl⟩:=ry;obtain⟨j,h1,h2,h3,h4,h5⟩:=N_ he;have hl:z.cps.toList.length=z.length:=by simp[Str.length]
 rw[hl] at h1 h4 h5;have hn:=yZ;exact tail_any (typeIs_str s z t) slot_str_getitem.lookup (getItem_str (c:=c) (by
  have e1:ϒ (i < -(2 ^ 63:ag))=ai:=c6 (by lia);have e2:ϒ (i >= 2 ^ 63)=ai:=c6 (by lia);rw[e1,e2,tm]) (by rw[h1];simpa using h2) ⟨.str ⟨#[c]⟩,H,I.tok _,⟨_,rfl⟩,q⟩) hs
theorem Inv.lst{Ψ:aa (al×bb)}{σ:St}{H:Hp}{s:ao}{p:al}{xs:aa V}(I:Inv X Ψ σ H s)(h:H p=ae (.lst xs)) :
  ∃(its:aa aj)(n:ah),Vals xs its/\s.heap.get? p=ae {cls:=.type "list",data:=.seq its.toArray n}/\xs.length<=bj:=by
 obtain⟨z,its,n,r,e⟩:=I.hok p _ h;exact⟨its,n,r,e,z⟩
theorem IK(lo hi:az ag)(n:ah):(kh lo hi ak n).1=((HT.sIx n 0 lo:ah):ag)/\(kh lo hi ak n).2.1=((HT.sIx n n hi:ah):ag)/\(kh lo hi ak n).2.2=1:=by
 refine⟨?_,?_,rfl⟩
 ·cases lo with
  |none=>simp[kh,HT.sIx]
  |some i=>
   simp only[kh,HT.sIx,xh,show(1:ag) > 0 by decide,cb];by_cases h:i<0
   ·simp only[h,cb]<;>lia
   ·simp only[h,b9]<;>lia
 ·cases hi with
  |none=>simp[kh,HT.sIx]
  |some i=>
   simp only[kh,HT.sIx,xh,show(1:ag) > 0 by decide,cb];by_cases h:i<0
   ·simp only[h,cb]<;>lia
   ·simp only[h,b9]<;>lia
theorem zV(its:aa aj)(lo hi:az ag):slicePick its.toArray lo hi ak=((its.drop (HT.sIx its.length 0 lo)).take (HT.sIx its.length its.length hi-HT.sIx its.length 0 lo)).toArray:=by
 obtain⟨h1,h2,h3⟩:=IK lo hi its.toArray.size;unfold slicePick;rw[h1,h2,h3];simp only[sliceRange_one,pick_run,cg]<;>rfl
def aOp(K:bX):V->az ag->az ag->Hp->VK->Prop:=λx lo hi H Q=>∃a xs,x=.ref a/\SqL K H a xs/\∀p,H p=ak->Q (.ref p) (upd H p (.lst (X4 xs lo hi)))
theorem X5:SlR X (aOp X.K):=by
 intro Ψ s σ H x v vl vu lo hi sl Q I rx hs pl pu h;obtain⟨a,xs,rfl,hx,q⟩:=h;cases rx;obtain⟨its,r,ht,hz⟩:=I.list hx;have hlen:=r.length;refine⟨"list",_,xg.lookup,ht.isList.typeIs,?_⟩;refine wpAny_getItem_list_slice ht.isList hs pl pu .none (by simp) ?_ (by rw[cg]<;>lia);rw[zV,<-hlen];refine⟨.ref s.heap.objs.size,_,I.laid (t':=s.toks) (o:=.lst (X4 xs lo hi)) (λb ob q=>cr _ q) (ba _) ?_,rfl,q _ (I.hok.fresh (ba _))⟩;exact⟨dn (v7 xs lo hi) hz,_,0,(r.drop (HT.sIx xs.length 0 lo)).take (HT.sIx xs.length xs.length hi-HT.sIx xs.length 0 lo),di _ rfl⟩
theorem jN:lF X (.builtin "len") (λxs H Q=>∃p ys,xs=[.ref p]/\(SqL X.K H p ys\/SqT X.K H p ys)/\Q (.int ys.length) H):=by
 intro Ψ s σ H xs us Q I r h;obtain⟨p,ys,rfl,hq,q⟩:=h;obtain⟨u,rfl,rx⟩:=vals1 r;cases rx;have hn:=yZ;rcases hq with hq|hq
 ·obtain⟨its,r',pl,hz⟩:=I.list hq;have hlen:=r'.length;exact Calls.call_len_list pl.isList (by simp only[cg]<;>lia) ⟨.int ys.length,H,I.tok _,⟨s.toks+1,by rw[cg,hlen]⟩,q⟩
 ·obtain⟨its,r',pl,hz⟩:=I.tuple hq;have hlen:=r'.length;exact len_tuple pl (by simp only[cg]<;>lia) ⟨.int ys.length,H,I.tok _,⟨s.toks+1,by rw[cg,hlen]⟩,q⟩
theorem IV:lF X (.builtin "len") (λxs H Q=>∃z,xs=[.str z]/\z.length<=bj/\Q (.int z.length) H):=by
 intro Ψ s σ H xs us Q I r h;obtain⟨z,rfl,hz,q⟩:=h;obtain⟨u,rfl,t,rfl⟩:=vals1 r;have hn:=yZ;exact len_str (by lia) ⟨.int z.length,H,I.tok _,⟨_,rfl⟩,q⟩
theorem uH:lF X (.type "list") (λxs H Q=>∃p ys,xs=[.ref p]/\(SqL X.K H p ys\/SqT X.K H p ys)/\∀l,H l=ak->Q (.ref l) (upd H l (.lst ys))):=by
 intro Ψ s σ H xs us Q I r h;obtain⟨p,ys,rfl,hq,q⟩:=h;obtain⟨u,rfl,rx⟩:=vals1 r;cases rx;have fin:∀(its:aa aj),Vals ys its->ys.length<=bj->∀(h':aT)(c':ah),(∀b o',s.heap.get? b=ae o'->h'.get? b=ae o')->
   h'.get? s.heap.objs.size=ae {cls:=.type "list",dict:=ak,data:=.seq its.toArray c',slots:=#[]}->EP X Ψ σ Q (.ref s.heap.objs.size) {s with heap:=h'}:=λits r' hz h' c' kp e=>
  ⟨.ref s.heap.objs.size,_,I.laid (t':=s.toks) kp (ba _) (show jK X.prog X.w _ h' _ (.lst ys) from ⟨hz,its,c',r',e⟩),rfl,q _ (I.hok.fresh (ba _))⟩
 rcases hq with hq|hq
 ·obtain⟨its,r',pl,hz⟩:=I.list hq;have hlen:=r'.length;obtain⟨o,ho,hc,n,hd⟩:=pl.isList;exact xi p (.inl rfl) ho hc hd (λh' c' kp e=>fin its r' hz h' c' kp e) (by simp only[cg]<;>lia)
 ·obtain⟨its,r',pl,hz⟩:=I.tuple hq;have hlen:=r'.length;obtain⟨o,ho,hc,n,hd⟩:=pl;exact xi p (.inr rfl) ho hc hd (λh' c' kp e=>fin its r' hz h' c' kp e) (by simp only[cg]<;>lia)
theorem rK:lF X (.type "tuple") (λxs H Q=>∃p ys,xs=[.ref p]/\((SqL X.K H p ys/\∀l,H l=ak->Q (.ref l) (upd H l (.tup ys)))\/(SqT X.K H p ys/\Q (.ref p) H))):=by
 intro Ψ s σ H xs us Q I r h;obtain⟨p,ys,rfl,h⟩:=h;obtain⟨u,rfl,rx⟩:=vals1 r;cases rx;rcases h with ⟨hq,q⟩|⟨hq,q⟩
 ·obtain⟨its,r',pl,hz⟩:=I.list hq;have hlen:=r'.length;refine call_tuple_list pl.isList (λh' kp=>?_) (by simp only[cg]<;>lia);have I1:Inv X Ψ σ H {s with heap:=h'}:=I.kept (t':=s.toks) kp;have I2:Inv X Ψ σ (upd H h'.objs.size (.tup ys)) {s with heap:=h'.push {cls:=.type "tuple",data:=.seq its.toArray}}:=
   I1.laid (t':=s.toks) (λb o e=>cr _ e) (ba _) (show jK X.prog X.w _ _ _ (.tup ys) from ⟨hz,its,r',j8.new _ _⟩)
  exact⟨.ref h'.objs.size,_,I2,rfl,q _ (I1.hok.fresh (ba _))⟩
 ·obtain⟨its,r',pl,hz⟩:=I.tuple hq;exact call_tuple_same pl ⟨.ref p,H,I,rfl,q⟩
def tyV(K:bX)(T:dm)(x:V)(H:Hp):Prop:=match x with
 |.str _=>T="str"
 |.int _=>T="int"
 |.ref p=>(T="list"/\∃xs,SqL K H p xs)\/(T="tuple"/\((∃o,K.lookup p=ae o/\o.cls=.type "tuple"/\o.dict=ak)\/∃xs,H p=ae (.tup xs)))\/
   (T="dict"/\((∃kvs,H p=ae (.dK kvs))\/∃kvs,H p=ae (.dT kvs)))\/(T="set"/\∃S n,H p=ae (.set S n))
 |_=>cy
theorem aEc{Ψ:aa (al×bb)}{σ:St}{H:Hp}{s:ao}{T:dm}{x:V}{v:aj}(I:Inv X Ψ σ H s)(r:RelV x v)(ty:tyV X.K T x H) :
  s.TypeIs v T/\∀a,v=.ref a->∃ob,s.heap.get? a=ae ob/\ob.dict=ak:=by
 cases x with
 |str z=>
  obtain⟨t,rfl⟩:=r;cases (show T="str" from ty);exact⟨typeIs_str s z t,λ_ e=>nomatch e⟩
 |int i=>
  obtain⟨t,rfl⟩:=r;cases (show T="int" from ty);exact⟨typeIs_int s i t,λ_ e=>nomatch e⟩
 |ref p=>
  cases r;rcases ty with ⟨rfl,xs,hq⟩|⟨rfl,⟨o,hk,hc,hd⟩|⟨xs,hk⟩⟩|⟨rfl,hk⟩|⟨rfl,S,n,hk⟩
  ·obtain⟨its,_,pl,_⟩:=I.list hq;refine⟨pl.isList.typeIs,λa e=>?_⟩;cases e;obtain⟨o,n,e,c,hd,_⟩:=pl;exact⟨o,e,hd⟩
  ·refine⟨⟨o,I.kIn p o hk,hc⟩,λa e=>?_⟩;cases e;exact⟨o,I.kIn _ o hk,hd⟩
  ·obtain⟨_,its,_,pl⟩:=I.hok p _ hk;refine⟨(j8.tup pl).typeIs,λa e=>?_⟩;cases e;exact j8.bare pl
  ·have z:∃o,s.heap.get? p=ae o/\o.ExactDict:=by
    rcases hk with ⟨kvs,hk⟩|⟨kvs,hk⟩
    ·obtain⟨_,_,_,_,o,_,_,e,ex,_⟩:=I.hok p _ hk;exact⟨o,e,ex⟩
    ·obtain⟨_,_,_,_,o,_,_,e,ex,_⟩:=I.hok p _ hk;exact⟨o,e,ex⟩
   obtain⟨o,e,ex⟩:=z;refine⟨⟨o,e,ex.1⟩,λa e2=>?_⟩;cases e2;exact⟨o,e,ex.2.1⟩
  ·obtain⟨o,_,_,_,e,ex,_⟩:=I.hok p _ hk;refine⟨⟨o,e,ex.1⟩,λa e2=>?_⟩;cases e2;exact⟨o,e,ex.2.1⟩
 |_=>exact fm ty
noncomputable def aOq(K:bX)(T:dm)(r:V->aa V->Hp->VK->Prop)(to:TE):TE:=λσ H Q=>to σ H λx H1=>tyV K T x H1/\r x [] H1 Q
noncomputable def tBM(K:bX)(T:dm)(r:V->aa V->Hp->VK->Prop)(to:TE)(t:TA):TE:=λσ H Q=>to σ H λx H1=>tyV K T x H1/\t σ H1 λxs H2=>r x xs H2 Q
variable {o e:Expr} {es:aa Expr} {to:TE} {t:TA} {name:Str} {apos cpos:bz} {T id:dm} {r:V->aa V->Hp->VK->Prop}
theorem aJl(pa:PlainAttrs T)(slot:Slot T name id)(hty:k8 (.builtin id)=pure (.type "method_descriptor"))(hm:MtR X id r)(ho:PE X o to)
 (hbase:jf o name X.env (bP o X.env)=bP o X.env:=by rfl)(hline:(apos.endLine==cpos.line)=af:=by rfl):PE X (.Call (.Attribute o name apos) [] [] cpos) (aOq X.K T r to):=by
 intro Ψ s σ H Q I h;refine wpAny_Call_method0_late hbase hline (thn (ho Ψ s σ H _ I h) λv s1 ⟨x,H1,I1,r1,ty,q1⟩=>?_);obtain⟨h1,h2⟩:=aEc I1 r1 ty;exact⟨T,id,pa,slot,hty,h1,h2,xj rfl (PySem.evalArgs_none (hm Ψ s1 σ H1 x [] v [] Q I1 r1 .nil q1))⟩
theorem X6(pa:PlainAttrs T)(slot:Slot T name id)(hty:k8 (.builtin id)=pure (.type "method_descriptor"))(hm:MtR X id r)(ho:PE X o to)(ha:PA X (e::es) t)
 (hbase:jf o name X.env (bP o X.env)=bP o X.env:=by rfl)
 (hfew:((eJ cpos (bp (e::es) X.env)).all (λx=>!x.1)&&(k9 cpos (la [] X.env)).all (λx=>x.1.isSome)
  &&ϒ ((e::es).length+([]:aa gw).length+(if ([]:aa gw).isEmpty then 0 else 1)<30))=af:=by rfl)
 (hline:(apos.endLine==cpos.line)=af:=by rfl)(hs:bp (e::es) X.env=(ai,bP e X.env)::bp es X.env:=by rfl)(hplain:(eJ cpos (bp es X.env)).any (·.1)=ai:=by rfl) :
  PE X (.Call (.Attribute o name apos) (e::es) [] cpos) (tBM X.K T r to t):=by
 intro Ψ s σ H Q I h;refine wpAny_Call_method_late hbase hfew hline rfl (thn (ho Ψ s σ H _ I h) λv s1 ⟨x,H1,I1,r1,ty,q1⟩=>?_);obtain⟨h1,h2⟩:=aEc I1 r1 ty;refine⟨T,id,pa,slot,hty,h1,h2,?_⟩;have hA:=ha cpos Ψ s1 σ H1 _ I1 q1;rw[hs] at hA ⊢;refine xj (by show(ai||(eJ cpos (bp es X.env)).any (·.1))=ai;rw[hplain]<;>rfl) (Calls.evalArgs_plain ?_);exact thn hA λus s2 ⟨vs,H2,I2,r2,q2⟩=>hm Ψ s2 σ H2 x vs v us Q I2 r1 r2 q2
end
def MtM(X:Cx)(id:dm)(r:V->aa V->Hp->VK->Prop):Prop:=
 ∀(Ψ:aa (al×bb))(s:ao)(σ:St)(H:Hp)(x:V)(xs:aa V)(v:aj)(us:aa aj)(Q:VK),Inv X Ψ σ H s->RelV x v->Vals xs us->r x xs H Q->
  ϑ (ax X.prog X.w) X.A (call (.builtin id) (v::us)) (EP X Ψ σ Q) X.xe s
theorem Vals.one:∀{x:V}{us:aa aj},Vals [x] us->∃u,us=[u]/\RelV x u
 |_,_,.cons r .nil=>⟨_,rfl,r⟩
theorem Vals.zero:∀{us:aa aj},Vals [] us->us=[]
 |_,.nil=>rfl
theorem Vals.dropLast{xs:aa V}{us:aa aj}(h:Vals xs us):Vals xs.dropLast us.dropLast:=by
 induction h with
 |nil=>exact .nil
 |cons r t ih=>
  cases t with
  |nil=>exact .nil
  |cons q t'=>exact .cons r ih
theorem U_{α:Type}(l:aa α):l.eraseIdx (l.length-1)=l.dropLast:=by
 induction l with
 |nil=>rfl
 |cons a r ih=>
  cases r with
  |nil=>rfl
  |cons b r=>
   have e:(a::b::r).length-1=((b::r).length-1)+1:=by
    have h1:(a::b::r).length=r.length+2:=rfl;have h2:(b::r).length=r.length+1:=rfl;lia
   rw[e,List.eraseIdx_cons_succ,ih]
   all_goals rfl
section
variable {X:Cx} {Ψ:aa (al×bb)} {σ:St} {H:Hp} {s:ao} {l:al} {xs ys:aa V}
theorem Inv.aJm{its its':aa aj}{n:ah}{f:aw aj->aw aj}{t':ah}(I:Inv X Ψ σ H s)(hH:H l=ae (.lst xs))
 (e:s.heap.get? l=ae {cls:=.type "list",data:=.seq its.toArray n})(hf:f its.toArray=its'.toArray)(hv:Vals ys its')(hz:ys.length<=bj) :
  Inv X Ψ σ (upd H l (.lst ys)) {s with heap:=s.heap.update l (fA f),toks:=t'}:=by
 have q:=Bu e f;rw[hf] at q;refine I.write (x:=l) (e:=l) (by rw[hH];exact trivial) (.inl rfl) (λb' u hb hu=>(l9 s.heap (fA f) (Ne.symm hb)).trans hu) ⟨_,q⟩ ?_;exact⟨hz,its',_,hv,q⟩
theorem Inv.aOr{its:aa aj}{t':ah}(I:Inv X Ψ σ H s)(hv:Vals ys its)(hz:ys.length<=bj) :
  Inv X Ψ σ (upd H s.heap.objs.size (.lst ys)) {s with heap:=s.heap.push {cls:=.type "list",data:=.seq its.toArray},toks:=t'}:=
 I.laid (λ_ _ q=>cr _ q) (ba _) ⟨hz,its,0,hv,di _ rfl⟩
theorem Inv.fresh(I:Inv X Ψ σ H s):H s.heap.objs.size=ak:=I.hok.fresh (ba _)
theorem Inv.aIj(I:Inv X Ψ σ H s)(hH:H l=ae (.lst xs)):xs.length<=bj/\∃(its:aa aj)(n:ah),Vals xs its/\xs.length=its.length/\s.heap.get? l=ae {cls:=.type "list",data:=.seq its.toArray n}:=by
 obtain⟨z,its,n,r,e⟩:=I.hok l _ hH;exact⟨z,its,n,r,r.length,e⟩
theorem RT{n:ah}(h:n<=bj):ma n=ai:=by
 unfold ma;exact c6 (by lia)
end
section
variable {X:Cx}
def aFu:V->aa V->Hp->VK->Prop:=λx vs H Q=>∃l xs y,x=.ref l/\vs=[y]/\H l=ae (.lst xs)/\xs.length<bj/\Q .non (upd H l (.lst (xs++[y])))
theorem v8:MtM X "list.append" aFu:=by
 intro Ψ s σ H x vs v us Q I rx rv h;obtain⟨l,xs,y,rfl,rfl,hH,hz,q⟩:=h;cases rx;obtain⟨u,rfl,ru⟩:=rv.one;obtain⟨z,its,n,r,hl,e⟩:=I.aIj hH;refine jg tq ⟨_,e,rfl⟩ F.entry_list_append (F.args_list_append_2 _ _) (PySem.list_append l its.toArray n u (by rw[cg];lia)) ⟨e,?_⟩;refine⟨.non,_,I.aJm (its':=its++[u]) hH e (by simp) (r.append (.cons ru .nil)) ?_,rfl,q⟩;rw[cw,jh];lia
def aFv:V->aa V->Hp->VK->Prop:=λx vs H Q=>∃l b xs zs,x=.ref l/\vs=[.ref b]/\H l=ae (.lst xs)/\H b=ae (.lst zs)/\xs.length+zs.length<=bj/\Q .non (upd H l (.lst (xs++zs)))
theorem X7:MtM X "list.extend" aFv:=by
 intro Ψ s σ H x vs v us Q I rx rv h;obtain⟨l,b,xs,zs,rfl,rfl,hH,hB,hz,q⟩:=h;cases rx;obtain⟨u,rfl,ru⟩:=rv.one;cases ru;obtain⟨z,its,n,r,hl,e⟩:=I.aIj hH;obtain⟨z2,its2,n2,r2,hl2,e2⟩:=I.aIj hB;have hsz:its.toArray.size+its2.toArray.size<=bj:=by rw[cg,cg];lia
 have hlong:¬(!its.toArray.isEmpty&&ma (its.toArray.size+its2.toArray.size))=af:=by
  rw[RT hsz,lb];exact lT
 refine jg nX ⟨_,e,rfl⟩ xk (xl _ _)
  (Bw l its.toArray n b its2.toArray n2 hlong (by rw[cg];lia) (by lia)) ⟨e,e2,?_⟩
 refine⟨.non,_,I.aJm (its':=its++its2) hH e (by simp) (r.append r2) ?_,rfl,q⟩;rw[cw];lia
def aOs:V->aa V->Hp->VK->Prop:=λx vs H Q=>∃l xs y,x=.ref l/\vs=[]/\H l=ae (.lst xs)/\xs[xs.length-1]?=ae y/\Q y (upd H l (.lst xs.dropLast))
theorem aJn:MtM X "list.pop" aOs:=by
 intro Ψ s σ H x vs v us Q I rx rv h;obtain⟨l,xs,y,rfl,rfl,hH,hy,q⟩:=h;cases rx;have hus:=rv.zero;subst hus;obtain⟨z,its,n,r,hl,e⟩:=I.aIj hH;obtain⟨u,hu,ru⟩:=r.get hy;have hy':its.toArray[its.toArray.size-1]?=ae u:=by
  show its.toArray[its.length-1]?=ae u;rw[<-hI,<-hl];exact hu
 refine jg xm ⟨_,e,rfl⟩ F.entry_list_pop (F.args_list_pop_1 _) (Bx l its.toArray n u hy' (by rw[cg];lia)) ⟨e,?_⟩;refine⟨y,_,I.aJm (its':=its.dropLast) hH e ?_ r.dropLast ?_,ru,q⟩
 ·show its.toArray.eraseIdxIfInBounds (its.toArray.size-1)=its.dropLast.toArray;rw[cg,List.eraseIdxIfInBounds_toArray,U_]
 ·rw[List.length_dropLast];lia
end
section
variable {κ:Type} [fg κ]
noncomputable def rH(kvs:aa (κ×V))(k:κ):az V:=(kvs.find? λkv=>ϒ (kv.1=k)).map (·.2)
noncomputable def putK(kvs:aa (κ×V))(k:κ)(v:V):aa (κ×V):=
 if (kvs.any λkv=>ϒ (kv.1=k))=af then kvs.map (λkv=>if kv.1=k then (kv.1,v) else kv) else kvs++[(k,v)]
theorem rM{p:κ×V}{r:aa (κ×V)}{k:κ}(e:p.1=k):rH (p::r) k=ae p.2:=by simp[rH,iF,e]
theorem rN{p:κ×V}{r:aa (κ×V)}{k:κ}(e:¬p.1=k):rH (p::r) k=rH r k:=by simp[rH,iF,e]
theorem rO(k:κ):∀kvs:aa (κ×V),(kvs.any λkv=>ϒ (kv.1=k))=(rH kvs k).isSome
 |[]=>rfl
 |p::r=>by
  rw[ki];by_cases e:p.1=k
  ·simp only[rM e,cu e,xn,tu]
  ·rw[rN e,c6 e,mf];exact rO k r
theorem qN(kvs:aa (κ×V))(k:κ)(v:V):(putK kvs k v).length<=kvs.length+1:=by
 unfold putK;split
 ·rw[aI];lia
 ·rw[cw,ck,eT];lia
theorem zW{kvs:aa (κ×V)}{k:κ}(v:V)(h:rH kvs k=ak):putK kvs k v=kvs++[(k,v)]:=by
 unfold putK;rw[rO,h];exact av (by decide)
theorem aC7.mQ{o:az V}{u:az aj}(r:aC7 o u):o.isSome=u.isSome:=by
 cases o with
 |none=>cases u with
  |none=>rfl
  |some _=>exact(show cy from r).elim
 |some _=>cases u with
  |none=>exact(show cy from r).elim
  |some _=>rfl
theorem KV.val{kvs:aa (κ×V)}{vs:aa (κ×aj)}(r:KV kvs vs)(k:κ):aC7 (rH kvs k) (kj vs k):=by
 unfold KV at r;induction r with
 |nil=>exact True.intro
 |@cons p q ps qs h t ih=>
  obtain⟨h1,h2⟩:=h;by_cases e:p.1=k
  ·have e':q.1=k:=h1.symm.trans e;have b:kj (q::qs) k=ae q.2:=by simp[kj,iF,e']
   rw[rM e,b];exact h2
  ·have e':¬q.1=k:=λz=>e (h1.trans z)
   have b:kj (q::qs) k=kj qs k:=by simp[kj,iF,e']
   rw[rN e,b];exact ih
theorem KV.any{kvs:aa (κ×V)}{vs:aa (κ×aj)}(r:KV kvs vs)(k:κ):(kvs.any λkv=>ϒ (kv.1=k))=vs.any λkv=>ϒ (kv.1=k):=by
 unfold KV at r;induction r with
 |nil=>rfl
 |cons h t ih=>rw[ki,ki,ih,h.1]
theorem KV.repl{kvs:aa (κ×V)}{vs:aa (κ×aj)}(r:KV kvs vs)(k:κ){y:V}{u:aj}(ry:RelV y u) :
  KV (kvs.map λkv=>if kv.1=k then (kv.1,y) else kv) (vs.map λkv=>if kv.1=k then (kv.1,u) else kv):=by
 unfold KV at r ⊢;induction r with
 |nil=>exact .nil
 |@cons p q ps qs h t ih=>
  rw[br,br];refine .cons ?_ ih;obtain⟨h1,h2⟩:=h;by_cases e:p.1=k
  ·rw[aq e,aq (h1.symm.trans e)];exact⟨h1,ry⟩
  ·rw[av e,av (λz=>e (h1.trans z))];exact⟨h1,h2⟩
theorem KV.put{kvs:aa (κ×V)}{vs:aa (κ×aj)}(r:KV kvs vs)(k:κ){y:V}{u:aj}(ry:RelV y u):KV (putK kvs k y) (lc vs k u):=by
 unfold putK lc;rw[r.any k];by_cases e:(vs.any λkv=>ϒ (kv.1=k))=af
 ·rw[aq e,aq e];exact r.repl k ry
 ·rw[av e,av e];exact xo r ⟨rfl,ry⟩
theorem KV.length{kvs:aa (κ×V)}{vs:aa (κ×aj)}(r:KV kvs vs):kvs.length=vs.length:=kF r
end
theorem IW{P:bn}{w:bi}{k:Key}{u:aj}(r:RelV (kV k) u):(cL P w).is k u=af:=by
 cases k with
 |inl i=>obtain⟨t,e⟩:=(show ∃t,u=si i t from r);subst e;exact N5 P w i t
 |inr x=>obtain⟨t,e⟩:=(show ∃t,u=sj x t from r);subst e;exact N6 P w x t
theorem I_{P:bn}{w:bi}:∀{ks:aa Key}{us:aa aj},Vals (ks.map kV) us->ItemsAre (cL P w) ks us
 |[],_,r=>by rw[iL] at r;cases r;exact .nil
 |k::ks,_,r=>by
  rw[br] at r;cases r with
  |cons h t=>exact .cons (IW h) (I_ t)
abbrev KT(H:Hp):aa (aa Key×V)->aa (aa Key×al×aj)->Prop:=jz λp q=>p.1=q.1/\H q.2.1=ae (.tup (p.1.map kV))/\RelV p.2 q.2.2
theorem KT.val{H:Hp}{kvs:aa (aa Key×V)}{xs:aa (aa Key×al×aj)}(r:KT H kvs xs)(k:aa Key):aC7 (rH kvs k) ((iN xs k).map (·.2)):=by
 induction r with
 |nil=>exact True.intro
 |@cons p q ps qs h t ih=>
  obtain⟨h1,_,h2⟩:=h;by_cases e:p.1=k
  ·have e':q.1=k:=h1.symm.trans e;have b:iN (q::qs) k=ae q.2:=by simp[iN,iF,e']
   rw[rM e,b];exact h2
  ·have e':¬q.1=k:=λz=>e (h1.trans z)
   have b:iN (q::qs) k=iN qs k:=by simp[iN,iF,e']
   rw[rN e,b];exact ih
theorem KT.repl{H:Hp}{kvs:aa (aa Key×V)}{xs:aa (aa Key×al×aj)}(r:KT H kvs xs)(k:aa Key){y:V}{u:aj}(ry:RelV y u) :
  KT H (kvs.map λkv=>if kv.1=k then (kv.1,y) else kv) (xs.map (putAt k u)):=by
 induction r with
 |nil=>exact .nil
 |@cons p q ps qs h t ih=>
  rw[br,br];refine .cons ?_ ih;obtain⟨h1,h2,h3⟩:=h;unfold putAt;by_cases e:p.1=k
  ·rw[aq e,aq (h1.symm.trans e)];exact⟨h1,h2,ry⟩
  ·rw[av e,av (λz=>e (h1.trans z))];exact⟨h1,h2,h3⟩
theorem KT.put{H:Hp}{kvs:aa (aa Key×V)}{xs:aa (aa Key×al×aj)}(r:KT H kvs xs)(k:aa Key){b:al}{y:V}{u:aj}(hb:H b=ae (.tup (k.map kV)))(ry:RelV y u) :
  KT H (putK kvs k y) (storedH xs k b u):=by
 have e:(kvs.any λkv=>ϒ (kv.1=k))=(iN xs k).isSome:=by
  rw[rO,(r.val k).mQ,tw]
 unfold putK storedH;rw[e];by_cases q:(iN xs k).isSome=af
 ·rw[aq q,aq q];exact r.repl k ry
 ·rw[av q,av q];exact xo r ⟨rfl,hb,ry⟩
theorem KT.keeps{H H':Hp}{kvs:aa (aa Key×V)}{xs:aa (aa Key×al×aj)}(r:KT H kvs xs)(ht:∀b ys,H b=ae (.tup ys)->H' b=ae (.tup ys)):KT H' kvs xs:=
 Paired.aM2 r λ_ _ z=>⟨z.1,ht _ _ z.2.1,z.2.2⟩
section
variable {P:bn} {w:bi} {H:Hp} {h:aT} {a:al}
theorem aJo{u:HO}(ok:HOk P w H h)(e:Rd H a u):jK P w H h a u:=e.ok ok
theorem X8{kvs:aa (Key×V)}(ok:HOk P w H h)(e:Rd H a (.dK kvs)):kvs.length<=bj/\(a==fi)=ai/\∃vs,KV kvs vs/\h.DictOf (cL P w) a vs:=
 show jK P w H h a (.dK kvs) from aJo ok e
theorem VB{kvs:aa (Key×V)}(ok:HOk P w H h)(e:H a=ae (.dK kvs)):kvs.length<=bj/\(a==fi)=ai/\∃vs,KV kvs vs/\h.DictOf (cL P w) a vs:=X8 ok (.inl e)
theorem JB{ks:aa Key}(ok:HOk P w H h)(e:H a=ae (.tup (ks.map kV))):(kG (cL P w)).is h ks a:=by
 obtain⟨_,its,r,o,h1,h2,n,h3⟩:=(show jK P w H h a (.tup (ks.map kV)) from ok a _ e)
 exact⟨o,its.toArray,n,h1,h2,d6 (·.1) h3,by simpa using I_ r⟩
theorem X_{kvs:aa (aa Key×V)}(ok:HOk P w H h)(e:Rd H a (.dT kvs)):kvs.length<=bj/\(a==fi)=ai/\
  ∃xs,KT H kvs xs/\h.DictOfH (kG (cL P w)) a xs:=by
 obtain⟨z,y,xs,r,o,es,ep,h1,h2,h3,h4,h5⟩:=(show jK P w H h a (.dT kvs) from aJo ok e)
 refine⟨z,y,xs,r,o,es,ep,h1,h2,h3,h4,λx hx=>?_,h5⟩;have all:∀{l:aa (aa Key×V)}{m:aa (aa Key×al×aj)},KT H l m->∀x∈m,(kG (cL P w)).is h x.1 x.2.1:=by
  intro l m q;induction q with
  |nil=>intro x hx;exact nomatch hx
  |@cons p q ps qs hq t ih=>
   intro x hx;rcases bm.mp hx with e|hx
   ·subst e;exact JB ok (by rw[<-hq.1];exact hq.2.1)
   ·exact ih x hx
 exact all r x hx
theorem aCm{kvs:aa (aa Key×V)}(ok:HOk P w H h)(e:H a=ae (.dT kvs)):kvs.length<=bj/\(a==fi)=ai/\
  ∃xs,KT H kvs xs/\h.DictOfH (kG (cL P w)) a xs:=X_ ok (.inl e)
end
def W3(H:Hp)(a:al)(y:V)(r:az V):Prop:=
 (∃kvs k,Rd H a (.dK kvs)/\y=kV k/\r=rH kvs k)\/∃kvs k b,Rd H a (.dT kvs)/\y=.ref b/\H b=ae (.tup (k.map kV))/\r=rH kvs k
def aCn(H:Hp)(a:al)(y v:V)(H':Hp):Prop:=
 (∃kvs k,H a=ae (.dK kvs)/\y=kV k/\kvs.length<bj/\H'=upd H a (.dK (putK kvs k v)))\/
 ∃kvs k b,H a=ae (.dT kvs)/\y=.ref b/\H b=ae (.tup (k.map kV))/\kvs.length<bj/\H'=upd H a (.dT (putK kvs k v))
theorem W3.k{H:Hp}{a:al}{kvs:aa (Key×V)}{k:Key}(e:H a=ae (.dK kvs)):W3 H a (kV k) (rH kvs k):=.inl ⟨kvs,k,.inl e,rfl,rfl⟩
theorem W3.t{H:Hp}{a b:al}{kvs:aa (aa Key×V)}{k:aa Key}(e:H a=ae (.dT kvs))(eb:H b=ae (.tup (k.map kV))):W3 H a (.ref b) (rH kvs k):=.inr ⟨kvs,k,b,.inl e,rfl,eb,rfl⟩
theorem aCn.k{H:Hp}{a:al}{kvs:aa (Key×V)}{k:Key}{v:V}(e:H a=ae (.dK kvs))(hl:kvs.length<bj):aCn H a (kV k) v (upd H a (.dK (putK kvs k v))):=.inl ⟨kvs,k,e,rfl,hl,rfl⟩
theorem aCn.t{H:Hp}{a b:al}{kvs:aa (aa Key×V)}{k:aa Key}{v:V}(e:H a=ae (.dT kvs))(eb:H b=ae (.tup (k.map kV)))(hl:kvs.length<bj) :
  aCn H a (.ref b) v (upd H a (.dT (putK kvs k v))):=.inr ⟨kvs,k,b,e,rfl,eb,hl,rfl⟩
section
variable {X:Cx} {Ψ:aa (al×bb)} {σ:St} {H:Hp} {s:ao} {a:al} {y v:V} {u r:aj} {o:az V} {A:bw} {E:aj->ao->Prop}
theorem Inv.big(I:Inv X Ψ σ H s):fi<s.heap.objs.size:=by
 have h:cK<s.heap.objs.size:=(I.mod.glob.keeps I.bk).lt;exact Nat.lt_trans (by decide) h
theorem YB{Q:aj->ao->Prop}(hu:A.units+1<bE)(I:Inv X Ψ σ H s)(g:W3 H a y (ae v))(ry:RelV y u)(h:∀w' s',Inv X Ψ σ H s'->RelV v w'->Q w' s') :
  ϑ (ax X.prog X.w) A (kg (.ref a) u) Q E s:=by
 rcases g with ⟨kvs,k,e,ey,l⟩|⟨kvs,k,b,e,ey,eb,l⟩
 ·subst ey;obtain⟨z,hd,vs,rel,dd⟩:=X8 I.hok e;obtain⟨w',hw,rw'⟩:=aC7.some_of (v:=v) (o:=kj vs k) (by rw[l];exact rel.val k);exact wpAny_getItem_of (IW ry) dd.mapOf hw (h w' _ (I.tok _) rw')
 ·subst ey;cases (show u=fI b from ry);obtain⟨z,hd,xs,rel,dd⟩:=X_ I.hok e;obtain⟨w',hw,rw'⟩:=aC7.some_of (v:=v) (o:=(iN xs k).map (·.2)) (by rw[l];exact rel.val k);obtain⟨p,hp,hp2⟩:=lf.mp hw;refine wpAny_getItem_heap (n4 hu) (JB I.hok eb) dd hp ?_;rw[hp2];exact h w' _ (I.tok _) rw'
theorem aOt{Q:aj->ao->Prop}(hu:A.units+1<bE)(I:Inv X Ψ σ H s)(g:W3 H a y o)(ry:RelV y u)(h:∀s',Inv X Ψ σ H s'->Q (.bool o.isSome) s') :
  ϑ (ax X.prog X.w) A (de .In u (.ref a)) Q E s:=by
 rcases g with ⟨kvs,k,e,ey,l⟩|⟨kvs,k,b,e,ey,eb,l⟩
 ·subst ey;obtain⟨z,hd,vs,rel,dd⟩:=X8 I.hok e;refine wpAny_in_of (IW ry) hd dd.mapOf ?_;rw[<-(rel.val k).mQ,<-l];exact h _ (I.tok _)
 ·subst ey;cases (show u=fI b from ry);obtain⟨z,hd,xs,rel,dd⟩:=X_ I.hok e;refine wpAny_in_heap (n4 hu) (JB I.hok eb) hd dd ?_;have q:=(rel.val k).mQ;rw[tw] at q;rw[<-q,<-l];exact h _ (I.tok _)
theorem aFw{Q:aj->ao->Prop}(hu:A.units+1<bE)(I:Inv X Ψ σ H s)(g:W3 H a y o)(ry:RelV y u)(h:∀s',Inv X Ψ σ H s'->Q (.bool (!o.isSome)) s') :
  ϑ (ax X.prog X.w) A (de .NotIn u (.ref a)) Q E s:=by
 rcases g with ⟨kvs,k,e,ey,l⟩|⟨kvs,k,b,e,ey,eb,l⟩
 ·subst ey;obtain⟨z,hd,vs,rel,dd⟩:=X8 I.hok e;refine wpAny_notIn_of (IW ry) hd dd.mapOf ?_;rw[<-(rel.val k).mQ,<-l];exact h _ (I.tok _)
 ·subst ey;cases (show u=fI b from ry);obtain⟨z,hd,xs,rel,dd⟩:=X_ I.hok e;refine wpAny_notIn_heap (n4 hu) (JB I.hok eb) hd dd ?_;have q:=(rel.val k).mQ;rw[tw] at q;rw[<-q,<-l];exact h _ (I.tok _)
theorem OD{h':aT}{t':ah}{ob:HO}(I:Inv X Ψ σ H s)(mu:Mut (H a))(hs:kM a s.heap h')(he:∃q,h'.get? a=ae q)(new:jK X.prog X.w (upd H a ob) h' a ob) :
  Inv X Ψ σ (upd H a ob) {s with heap:=h',toks:=t'}:=
 I.write (x:=a) (e:=a) mu (.inl rfl) (λb q hb z=>(hs.2 b hb).trans z) he new
theorem YC{P:bn}{w:bi}{H':Hp}{h':aT}{kvs:aa (Key×V)}{vs:aa (Key×aj)}(z:kvs.length<=bj)(hd:(a==fi)=ai)(rel:KV kvs vs)(dd:h'.DictOf (cL P w) a vs) :
  jK P w H' h' a (.dK kvs):=⟨z,hd,vs,rel,dd⟩
theorem JC{H':Hp}{Q:iz->ao->Prop}(hu:A.units+1<bE)(I:Inv X Ψ σ H s)(g:aCn H a y v H')(ry:RelV y u)(rv:RelV v r)(h:∀s',Inv X Ψ σ H' s'->Q () s') :
  ϑ (ax X.prog X.w) A (setItem (.ref a) u r) Q E s:=by
 rcases g with ⟨kvs,k,e,ey,l,eH⟩|⟨kvs,k,b,e,ey,eb,l,eH⟩
 ·subst ey eH;obtain⟨z,hd,vs,rel,dd⟩:=VB I.hok e;have hz:vs.length<=bj:=by rw[<-rel.length];exact z
  have hl:(putK kvs k v).length<=bj:=by have:=qN kvs k v;lia
  refine wpAny_setItem_pairs (hsz:=hz) (IW ry) dd λh' dd' hs=>h _ ?_
  have he:∃q,h'.get? a=ae q:=let ⟨q,_,_,hq,_⟩:=dd';⟨q,hq⟩
  exact OD I (by rw[e];exact True.intro) hs he (YC hl hd (rel.put k rv) dd')
 ·subst ey eH;cases (show u=fI b from ry);obtain⟨z,hd,xs,rel,dd⟩:=aCm I.hok e;have hz:xs.length<=bj:=by rw[<-kF rel];exact z
  have hl:(putK kvs k v).length<=bj:=by have:=qN kvs k v;lia
  refine wpAny_setItem_heap (hsz:=hz) (n4 hu) (JB I.hok eb) dd λh' dd' hs=>h _ ?_
  obtain⟨q,es,ep,hq,h2,h3,h4,_,h5⟩:=dd';refine OD I (by rw[e];exact True.intro) hs ⟨q,hq⟩ ⟨hl,hd,_,(rel.put k eb rv).keeps λc ys ec=>?_,q,es,ep,hq,h2,h3,h4,h5⟩;rw[aX (aFd ec e (λz=>nomatch z))];exact ec
end
theorem OJ{X:Cx}{Ψ:aa (al×bb)}{σ:St}{H:Hp}{s:ao}{a:al}{y:V}{o:az V}(I:Inv X Ψ σ H s)(g:W3 H a y o):s.TypeIs (.ref a) "dict":=by
 rcases g with ⟨kvs,k,e,_,_⟩|⟨kvs,k,b,e,_,_,_⟩
 ·obtain⟨_,_,vs,_,dd⟩:=X8 I.hok e;exact dd.typeIs
 ·obtain⟨_,_,xs,_,dd⟩:=X_ I.hok e;exact dd.typeIs
theorem RV{P:bn}{w:bi}{H:Hp}(h:aT)(hb:fi<h.objs.size):jK P w H (h.push {cls:=.type "dict",data:=.dict #[]}) h.objs.size (.dK []):=
 ⟨eR _,sn.mpr (Ne.symm (c9 hb)),[],.nil,xp h⟩
def aJp:TE:=λ_ H Q=>∀p,H p=ak->Q (.ref p) (upd H p (.dK []))
section
variable {X:Cx} {pos:bz}
theorem RW:PE X (.Dict [] [] pos) aJp:=λΨ s σ H Q I h=>
 wpAny_Dict_empty ⟨.ref s.heap.objs.size,_,I.laid (a:=s.heap.objs.size) (o:=.dK []) (t':=s.toks) (λ_ _ q=>cr _ q) (ba _) (RV s.heap I.big),rfl,h _ (I.hok.fresh (ba _))⟩
end
def YD:aa (TE×TE)->St->Hp->(aa (V×V)->Hp->Prop)->Prop
 |[],_,H,Q=>Q [] H
 | (tk,tv)::r,σ,H,Q=>tk σ H λx H1=>tv σ H1 λy H2=>YD r σ H2 λps H3=>Q ((x,y)::ps) H3
abbrev VV:aa (V×V)->aa (aj×aj)->Prop:=jz λp q=>RelV p.1 q.1/\RelV p.2 q.2
def PPs(X:Cx)(pos:bz)(keys:aa (az Expr))(values:aa Expr)(trs:aa (TE×TE)):Prop:=
 ∀(Ψ:aa (al×bb))(s:ao)(σ:St)(H:Hp)(Q:aa (V×V)->Hp->Prop),Inv X Ψ σ H s->YD trs σ H Q->
  ϑ (ax X.prog X.w) X.A (evalPairs (pairTrees keys values X.env pos)) (λvs s'=>∃ps H',Inv X Ψ σ H' s'/\VV ps vs/\Q ps H') X.xe s
theorem YF{X:Cx}{pos:bz}:PPs X pos [] [] []:=λΨ s σ H Q I h=>pairTrees_nil_walk ⟨[],H,I,.nil,h⟩
theorem zX{X:Cx}{pos:bz}{k v:Expr}{ks:aa (az Expr)}{vs:aa Expr}{tk tv:TE}{trs:aa (TE×TE)}(hk:PE X k tk)(hv:PE X v tv)(hr:PPs X pos ks vs trs) :
  PPs X pos (ae k::ks) (v::vs) ((tk,tv)::trs):=λΨ s σ H Q I h=>
 pairTrees_cons_walk (thn (hk Ψ s σ H _ I h) λu s1 ⟨x,H1,I1,rx,q1⟩=>thn (hv Ψ s1 σ H1 _ I1 q1) λw2 s2 ⟨y,H2,I2,ry,q2⟩=>
  thn (hr Ψ s2 σ H2 _ I2 q2) λws s3 ⟨ps,H3,I3,rel,q3⟩=>⟨(x,y)::ps,H3,I3,.cons ⟨rx,ry⟩ rel,q3⟩)
def fP(kvs more:aa (Key×V)):aa (Key×V):=more.foldl (λacc kv=>putK acc kv.1 kv.2) kvs
theorem KV.merge:∀{more:aa (Key×V)}{rs:aa (Key×aj)}{kvs:aa (Key×V)}{vs:aa (Key×aj)},KV more rs->KV kvs vs->KV (fP kvs more) (n9 vs rs):=by
 intro more rs kvs vs r;unfold KV at r;induction r generalizing kvs vs with
 |nil=>intro q;exact q
 |@cons p q ps qs h t ih=>
  intro r0;have e:KV (putK kvs p.1 p.2) (lc vs q.1 q.2):=by
   have:=r0.put p.1 h.2;rw[<-h.1];exact this
  exact ih e
theorem lG:∀(more kvs:aa (Key×V)),(fP kvs more).length<=kvs.length+more.length
 |[],kvs=>by show kvs.length<=kvs.length+0;lia
 |p::r,kvs=>by
  have h1:=lG r (putK kvs p.1 p.2);have h2:=qN kvs p.1 p.2;show(fP (putK kvs p.1 p.2) r).length<=_;rw[ck];lia
theorem zA{P:bn}{w:bi}:∀{kvs:aa (Key×V)}{ws:aa (aj×aj)},VV (kvs.map λkv=>(kV kv.1,kv.2)) ws->∃rs,Carries (cL P w) ws rs/\KV kvs rs
 |[],_,r=>by rw[iL] at r;cases r;exact⟨[],True.intro,.nil⟩
 |p::kvs,_,r=>by
  rw[br] at r;cases r with
  |@cons a b as bs h t=>
   obtain⟨rs,c,q⟩:=zA (P:=P) (w:=w) t;obtain⟨b1,b2⟩:=b;exact⟨(p.1,b2)::rs,⟨IW h.1,rfl,c⟩,.cons ⟨rfl,h.2⟩ q⟩
def aMj(trs:aa (TE×TE)):TE:=λσ H Q=>∀p,H p=ak->YD trs σ (upd H p (.dK [])) λps H2=>H2 p=ae (.dK [])/\∃kvs:aa (Key×V),ps=kvs.map (λkv=>(kV kv.1,kv.2))/\kvs.length<=15/\Q (.ref p) (upd H2 p (.dK (fP [] kvs)))
theorem YG{X:Cx}{pos:bz}{keys:aa (az Expr)}{values:aa Expr}{trs:aa (TE×TE)}(h:PPs X pos keys values trs)(hall:keys.all (·.isSome)=af)(hl:keys.length=values.length)(h0:keys≠[])
 (h15:keys.length<=15):PE X (.Dict keys values pos) (aMj trs):=by
 intro Ψ s σ H Q I q;have hn:=I.hok.fresh (ba s.heap.objs.size);have I1:=I.laid (a:=s.heap.objs.size) (o:=.dK []) (h':=s.heap.push {cls:=.type "dict",data:=.dict #[]}) (t':=s.toks) (λ_ _ q=>cr _ q) (ba _) (RV s.heap I.big);refine wpAny_Dict_walk (knd:=cL X.prog X.w) hall hl h0 h15 (thn (h Ψ _ σ _ _ I1 (q _ hn)) λws s2 ⟨ps,H2,I2,rel,e,kvs,ep,lk,q2⟩=>?_);subst ep;obtain⟨rs,c,rk⟩:=zA (P:=X.prog) (w:=X.w) rel;obtain⟨z,hd,vs0,r0,dd⟩:=VB I2.hok e;cases r0;refine⟨rs,c,dd,λh' dd' hs=>⟨.ref s.heap.objs.size,_,?_,rfl,q2⟩⟩;have hz:(fP [] kvs).length<=bj:=by
  have h1:=lG kvs [];rw[eT] at h1;rw[eD];lia
 have he:∃q,h'.get? s.heap.objs.size=ae q:=let ⟨q,_,_,hq,_⟩:=dd';⟨q,hq⟩
 exact OD I2 (by rw[e];exact True.intro) hs he (YC hz hd (rk.merge .nil) dd')
end L2
namespace Att
open PySem PySem.W PySem.Calls PyProof.Rows
theorem v9{P:oe}{h:aT}:∀(ns:aa ag)(vs:aa aj),WellAll P h vs (ns.map xq)->mh vs ns:=by
 intro ns;induction ns with
 |nil=>
  intro vs w;rw[iL] at w;cases w;exact .nil
 |cons n ns ih=>
  intro vs w;rw[br] at w;cases w with
  |cons a b=>
   cases a;exact .cons _ _ (ih _ b)
theorem YH{l:OpenLaw}{n:ah}(hn:l.most=ae n){P:oe}{h:aT}{args:aa WData}{vals:aa aj}
 (hpre:l.row.toRowW.claim.pre args=af)(hwl:WellAll P h vals args) :
  ∃a vs ns,vals=[fI a]/\args=[WData.list (ns.map xq)]/\h.get? a=ae {cls:=.type "list",data:=.seq vs.toArray}/\mh vs ns/\ns.length<=n:=by
 have hsh:WShape.hasAll [] args [.list .int]=af:=(pre_splitW hpre).1;have hc:l.pre.holds [] {args:=args}=af:=(pre_splitW hpre).2;obtain⟨d,r,rfl,h1,h2⟩:=hasAllW_cons hsh;obtain rfl:=hasAllW_nil h2;obtain⟨xs,rfl,h3⟩:=hasW_list h1;obtain⟨ns,rfl⟩:=items_int h3;have hlen:ns.length<=n:=by
  unfold OpenLaw.pre at hc;have h4:(WTm.not (.lt (.lit (.int (n:ag))) (.len (.arg 0)))).holds [] {args:=[.list (ns.map .int)]}=af:=by
   have h4:=(holds_andW hc).1;rw[hn] at h4;exact h4
  have h5:=condW_of h4 (w_not (w_lt w_lit (w_len_list (w_arg rfl))));rw[aI] at h5;refine Nat.le_of_not_lt λq=>?_
  have q':(n:ag)<((ns.length:ah):ag):=by lia
  first
   | (rw[cu q'] at h5;exact bd h5 (by decide))
   | (simp at h5;lia)
 cases hwl with
 |cons w1 w2=>
  cases w2;cases w1 with
  |list ho hall=>exact⟨_,_,ns,rfl,rfl,ho,v9 ns _ hall,hlen⟩
theorem YJ(l:OpenLaw)(args:aa WData):l.row.toRowW.claim.post args (.bool af) args=af:=
 postW_of (r:=l.row.toRowW) (X:=(af==af))
  (show xr [] (.bool af) .bool=af by first|rfl|decide|simp[xr,WShape.arms,WShape.armsAll])
  (show(WTm.eq .res (.lit (.bool af))).value [] {args:=args,res:=ae (.bool af),after:=args}=ae (.bool (af==af)) from w_eq_bool (w_res rfl) w_lit) rfl
theorem O1{l:OpenLaw}{n:ah}{q:bn}{loose:aa Str}{XP:(Str->az aj)->aT->Prop}{YP:bi->aT->Prop}{d:DefRec}
 (hn:l.most=ae n)(hdf:d.params.defaults=[])
 (call:∀(w:bi) (s₀ s₁:ao) (mg mb:Str->az aj) (fa:al) (o:bb) (pm cd doc:aj) (a:al) (vs:aa aj) (ns:aa ag),
   Ground q loose [] XP w s₀ mg mb s₁.heap->YP w s₁.heap->
   s₁.heap.get? fa=ae o->o.data=.func (docDef d.name d.params d.body d.scope pm cd doc)->s₁.heap.CodeRec cd d.name->mg d.name=ae (.ref fa)->
   s₁.heap.get? a=ae {cls:=.type "list",data:=.seq vs.toArray}->mh vs ns->ns.length<=n->s₁.gens=#[]->
   codeAny (ax l.prog w) kl (.call (.ref fa) ⟨[.ref a],[]⟩) (λr s'=>r=.ok (.ret (.bool af))/\OldK s₁.heap s'.heap/\s'.os=s₁.os/\i8 s'.gens) s₁) :
  WalkO q loose XP YP l.row.toRowW d [] (λf vs=>tx f vs):=by
 intro w s₀ s₁ mg mb G Y fa o pm cd doc dV kV ho hd hcd hD hmg hg args vals as hpre hlay hrd hwl hlo;obtain rfl:dV=.none:=Dflts.none hD hdf;obtain rfl:kV=.none:=Dflts.noKw hD;obtain⟨a,vs,ns,rfl,rfl,hobj,hints,hlen⟩:=YH hn hpre hwl;refine enter_call (k5 (call w s₀ s₁ mg mb fa o pm cd doc a vs ns G Y ho (fd_plain hd) hcd hmg hobj hints hlen hg) λr s' hq=>?_);obtain⟨rfl,h2,h3,h4⟩:=hq;exact⟨.inl ⟨.bool af,.bool af,[],rfl,λ_=>rfl,.bool af,YJ l _,λ_=>⟨By,λ_ hm=>(nomatch hm)⟩⟩,h2,h3,h4⟩
end Att
namespace L2
open PySem PySem.Spec PyProof.Rows
theorem JD:∀{vs:aa aj}{ns:aa ag},mh vs ns->Vals (ns.map V.int) vs
 |_,_,.nil=>.nil
 |_,_,.cons n t h=>.cons ⟨t,rfl⟩ (JD h)
def Only(H:Hp):Prop:=∀b,H b=ak\/∃o xs,H b=ae (.frz o (.lst xs))
theorem aCo{P:bn}{w:bi}{K:bX}{mg mb:Str->az aj}{CX:CXT}{k:ah}{fa a:al}{fd:eP}{x:Str}{sp:Sp}{s₁:ao}{vs:aa aj}{ns:aa ag}
 (KX:K.In s₁.heap)(hns:s₁.heap.Ns cK mg)(hb:s₁.heap.Ns sr mb)(hbb:∀x:Str,x ≠ "__name__"->mb x=en x)(hlim:s₁.heap.NoLimit)(hg:s₁.gens=#[])
 (ha:s₁.heap.get? a=ae {cls:=.type "list",data:=.seq vs.toArray})(hi:mh vs ns)(hl:ns.length<=bj)(hr:vA k kl)
 (F:∀base:aT,K.In base->base.Ns cK mg->U7 P w K mg base CX k fa fd [x] sp)(hbind:∀(s:ao) (u:aj),kX s fd ⟨[u],[]⟩ [(x,u)])
 (hsp:∀H:Hp,Only H->SqL K H a (ns.map V.int)->sp [.ref a] H (λv _=>v=.bl af) λ_ _ _=>cy)
 (hCX:∀H e s',CX [] H s₁ (λ_ _ _=>cy) e s'->cy) :
  codeAny (ax P w) kl (.call (.ref fa) ⟨[.ref a],[]⟩) (λr s'=>r=.ok (.ret (.bool af))/\OldK s₁.heap s'.heap/\s'.os=s₁.os/\i8 s'.gens) s₁:=by
 have rv:=JD hi;have lenV:=hi.length
 -- from an abstract heap in which nothing but the script may be tracked
 have core:∀H:Hp,Only H->SqL K H a (ns.map V.int)->HOk P w H s₁.heap->(∀b,H b≠ak->b=a)->(H a≠ak->K.lookup a=ak)->
   codeAny (ax P w) kl (.call (.ref fa) ⟨[.ref a],[]⟩) (λr s'=>r=.ok (.ret (.bool af))/\OldK s₁.heap s'.heap/\s'.os=s₁.os/\i8 s'.gens) s₁:=by
  intro H hO hS hok hA hK;have base_of:∀{b:al}{o:bb},s₁.heap.get? b=ae o->H b=ak->(aCe s₁.heap H).get? b=ae o:=λe n=>aCf e n
  have noA:∀{b:al}{o:bb}{es:aw ip}{ep:ah},s₁.heap.get? b=ae o->o.data=.dict es ep->H b=ak:=λ{b o es ep} e d=>by
   cases q:H b with
   |none=>rfl
   |some u=>
    have e':b=a:=hA b (by rw[q];simp);subst e';rw[ha] at e;cases e;have d':vE vs.toArray _=Data.dict es ep:=d;cases d'
  have nsK:∀{b:al}{m:Str->az aj},s₁.heap.Ns b m->(aCe s₁.heap H).Ns b m:=λ{b m} ⟨o,es,ep,e,d,r⟩=>⟨o,es,ep,base_of e (noA e d),d,r⟩
  have hKb:K.In (aCe s₁.heap H):=λb o e=>base_of (KX b o e) (by
   cases q:H b with
   |none=>rfl
   |some u=>
    have e':b=a:=hA b (by rw[q];simp);subst e';rw[hK (by rw[q];simp)] at e;cases e)
  have hM:Mod K mg (aCe s₁.heap H):=⟨hKb,nsK hns,⟨mb,nsK hb,hbb⟩,let ⟨mc,h1,h2⟩:=hlim;⟨mc,nsK h1,h2⟩⟩
  have e0:aLw P w K mg (aCe s₁.heap H) kl [] s₁ H:=⟨rfl,hM,λb o e=>aFe e,og (W8 _ _),trivial,λb hb=>bd (show b∈([]:aa al) from hb) (by simp),hok,.of_eq hg⟩
  refine k5 ((F _ hKb (nsK hns)).run kl [] s₁ H ⟨[.ref a],[]⟩ [.ref a] [.ref a] _ _ hr e0 (hbind s₁ (.ref a)) (.cons rfl .nil) (hsp H hO hS)) λr s' h=>?_
  cases r with
  |error e=>exact(hCX H e s' h).elim
  |ok fl=>
   cases fl with
   |next=>exact fm h
   |brk=>exact fm h
   |cont=>exact fm h
   |ret u=>
    obtain⟨v,H',os,bare,un,hok',r',q⟩:=h;have q':v=.bl af:=q;subst q';obtain rfl:u=nw af:=r';refine⟨rfl,OldK.of_keep λb o e=>?_,os,bare⟩;cases q:H b with
    |none=>exact un.keep b o e q (by intro z;exact bd (show b∈([]:aa al) from z) (by simp)) (by simp)
    |some u=>
     rcases hO b with z|⟨ob,xs,z⟩
     ·rw[q] at z;cases z
     ·have z2:=un.frzs b ob _ z;obtain⟨e1,_⟩:=hok b _ z;obtain⟨e2,_⟩:=hok' b _ z2;rw[e] at e1;cases e1;exact e2
 cases hk:K.lookup a with
 |some o=>
  -- the script is one of the module's own objects
  have e:=KX a o hk;rw[ha] at e;cases e;refine core (λ_=>ak) (λ_=>.inl rfl) (.inr ⟨_,vs.toArray,_,hk,rfl,rfl,rfl,by rw[cg,lenV];exact hl,by simpa using rv⟩) (λb u z=>by have z':(ak:az HO)=ae u:=z;cases z') (λb z=>bd rfl z) λz=>bd rfl z
 |none=>
  refine core (λb=>if b=a then ae (.frz {cls:=.type "list",data:=.seq vs.toArray} (.lst (ns.map V.int))) else ak) (λb=>?_) (.inl (.inr ⟨{cls:=.type "list",data:=.seq vs.toArray},aq rfl⟩)) (λb u z=>?_) (λb z=>?_) λ_=>hk
  ·by_cases hb:b=a
   ·exact .inr ⟨_,_,aq hb⟩
   ·exact .inl (av hb)
  ·by_cases hb:b=a
   ·have z':=(aq hb).symm.trans z;cases z';subst hb;exact⟨ha,by rw[aI];exact hl,vs,_,rv,ha⟩
   ·have z':=(av hb).symm.trans z;cases z'
  ·by_cases hb:b=a
   ·exact hb
   ·exact bd (av hb) z
theorem aFx{l:PySem.W.OpenLaw}{n k:ah}{q:bn}{loose:aa Str}{XP:(Str->az aj)->aT->Prop}{YP:bi->aT->Prop}{d:DefRec}{K:oe->bX}{CX:bi->CXT}{sp:bi->Sp}{x:Str}
 (hn:l.most=ae n)(hn2:n<=bj)(hdf:d.params.defaults=[])(hr:vA k kl)
 (hY:∀(w:bi) (h:aT),YP w h->(K w.params).In h)
 (F:∀(w:bi) (mg:Str->az aj) (fa:al) (h:aT),(K w.params).In h->h.Ns cK mg->mg d.name=ae (.ref fa)->
   ∃fd:eP,(∀(s:ao) (u:aj),kX s fd ⟨[u],[]⟩ [(x,u)])/\
    ∀base:aT,(K w.params).In base->base.Ns cK mg->U7 l.prog w (K w.params) mg base (CX w) k fa fd [x] (sp w))
 (hsp:∀(w:bi) (H:Hp) (a:al) (ns:aa ag),ns.length<=n->Only H->SqL (K w.params) H a (ns.map V.int)->sp w [.ref a] H (λv _=>v=.bl af) λ_ _ _=>cy)
 (hCX:∀(w:bi) (H:Hp) (s:ao) (e:aj) (s':ao),CX w [] H s (λ_ _ _=>cy) e s'->cy) :
  PySem.W.WalkO q loose XP YP l.row.toRowW d [] (λf vs=>tx f vs):=by
 refine Att.O1 hn hdf λw s₀ s₁ mg mb fa o pm cd doc a vs ns G Y ho hd hcd hmg hobj hints hlen hg=>?_
 have KX:=hY w _ Y;obtain⟨fd,hb,hF⟩:=F w mg fa _ KX G.T.g hmg;exact aCo KX G.T.g G.T.b G.T.builtins G.T.nolimit hg hobj hints (dn hlen hn2) hr hF hb (λH hO hS=>hsp w H a ns hlen hO hS) λH e s'=>hCX w H s₁ e s'
noncomputable def qO(s:bo):Arguments:=match s with
 |.FunctionDef _ a _ _ _ _ _ _ _ _=>a
 |_=>{posonlyargs:=[],args:=[],vararg:=ak,kwonlyargs:=[],kw_defaults:=[],kwarg:=ak,defaults:=[]}
noncomputable def iJ(s:bo):aa bo:=match s with
 |.FunctionDef _ _ b _ _ _ _ _ _ _=>b
 |_=>[]
noncomputable def aQ(s:bo):fq:=match s with
 |.FunctionDef _ _ _ _ _ _ sc _ _ _=>sc
 |_=>{kind:=.function,names:=[],isGenerator:=ai,isCoroutine:=ai}
noncomputable abbrev CX0:CXT:=λ_ _ _ _ _ _=>cy
noncomputable abbrev E0:XK:=λ_ _ _=>cy
theorem aMk{X:Cx}:XS CX0 X E0:=λ_ _ _ _ _ _ _ h=>h.elim
structure Fun(K:bX)(x qual:Str)(st:bo)(f:al)(fd:eP):Prop where
 ex:∃(oc:aj)(od:az al)(kV doc pm:aj)(an:az al)(cdv ct:aj)(osl:aw (az aj)),
  fd=k7 x qual (qO st) (iJ st) (aQ st) .none kV doc pm an cdv ct/\K.lookup f=ae ⟨oc,od,.func fd,osl⟩/\sN K cdv qual=af
 kp:l6 K (.ref f)=af
section
variable {P:bn} {w:bi} {K:bX} {mg:Str->az aj} {base:aT}
theorem Fun.ok{x qual:Str}{st:bo}{f:al}{fd:eP}{N ps:aa Str}{k:ah}{sp:Sp}(F:Fun K x qual st f fd)(S:bR N ps (aQ st))(len:∀vs H Q E,sp vs H Q E->vs.length=ps.length)
 (hbody:∀(cdv:aj) (A:bw) (outer:aa dw) (s:ao) (H:Hp) (vs:aa V) (Q:VK) (E:XK),vA k (A.deeper (gd qual (aQ st) s.heap.objs.size f cdv))->sp vs H Q E->
   ∃t,PSs (aC8 CX0 P w K mg base N qual (aQ st) f cdv A outer s H E).nox (iJ st) t/\t {nx:=λ_ H'=>Q .non H',rt:=Q} (start N vs) H):U7 P w K mg base CX0 (k+1) f fd ps sp:=by
 obtain⟨oc,od,kV,doc,pm,an,cdv,ct,osl,rfl,lk,hcd⟩:=F.ex;refine aMh lk hcd S len λA outer s H vs Q E hr hsp=>?_
 obtain⟨t,h,q⟩:=hbody cdv A outer s H vs Q E hr hsp;exact⟨t,h.nox,q⟩
theorem Fun.binds{x qual:Str}{st:bo}{f:al}{fd:eP}{ps:aa Str}(F:Fun K x qual st f fd)
 (h:∀(kV doc pm:aj) (an:az al) (cdv ct:aj) (us:aa aj),us.length=ps.length->bindArgs (k7 x qual (qO st) (iJ st) (aQ st) .none kV doc pm an cdv ct) ⟨us,[]⟩=pure (ps.zip us)):Binds K fd ps []:=by
 obtain⟨oc,od,kV,doc,pm,an,cdv,ct,osl,rfl,lk,hcd⟩:=F.ex;exact .all (h kV doc pm an cdv ct)
theorem aEd{x qual:Str}{st:bo}{f:al}{oc:aj}{od an:az al}{osl:aw (az aj)}{kV doc pm cdv ct:aj}(l:K.lookup f=ae ⟨oc,od,.func (k7 x qual (qO st) (iJ st) (aQ st) .none kV doc pm an cdv ct),osl⟩)
 (c:sN K cdv qual=af)(k:l6 K (.ref f)=af):Fun K x qual st f (k7 x qual (qO st) (iJ st) (aQ st) .none kV doc pm an cdv ct):=⟨⟨oc,od,kV,doc,pm,an,cdv,ct,osl,rfl,l,c⟩,k⟩
end
def b_(H H':Hp):Prop:=∀b o,H b=ae o->H' b=ae o
theorem b_.refl(H:Hp):b_ H H:=λ_ _ h=>h
theorem b_.trans{H H1 H2:Hp}(a:b_ H H1)(b:b_ H1 H2):b_ H H2:=λc o h=>b c o (a c o h)
theorem b_.free{H H':Hp}(e:b_ H H'){l:al}(h:H' l=ak):H l=ak:=by
 cases q:H l with
 |none=>rfl
 |some o=>
  rw[e l o q] at h;cases h
section
variable {κ:Type} [fg κ]
theorem aCp{kvs:aa (κ×V)}{k:κ}(h:rH kvs k=ak):¬k∈kvs.map (·.1):=by
 intro m;obtain⟨p,hp,e⟩:=b6.mp m;have q:(kvs.any λkv=>ϒ (kv.1=k))=af:=List.any_eq_true.mpr ⟨p,hp,cu e⟩;rw[rO,h] at q;exact bd q (by simp)
theorem YK:∀{l:aa κ}{k:κ},l.Nodup->¬k∈l->(l++[k]).Nodup
 |[],k,_,_=>by simp
 |a::r,k,h,hk=>by
  obtain⟨h1,h2⟩:=dq.mp h;show(a::(r++[k])).Nodup;refine dq.mpr ⟨λm=>?_,YK h2 λm=>hk (bm.mpr (Or.inr m))⟩;rcases cS.mp m with q|q
  ·exact h1 q
  ·exact hk (bm.mpr (km (eI.mp q).symm))
theorem aFy{kvs:aa (κ×V)}{k:κ}(v:V)(hn:(kvs.map (·.1)).Nodup)(h:rH kvs k=ak):((putK kvs k v).map (·.1)).Nodup:=by
 rw[zW v h,c5];exact YK hn (aCp h)
end
end L2
namespace TS
open PySem PyProof.Rows
noncomputable def YL:ap->au->aw au->ah->ah->ah->ji cm eg (az ah):=sortPriv% PySem.Builtin.gallop
noncomputable def zY:ah->ji cm eg iz:=sortPriv% PySem.Builtin.setMinGallop
noncomputable def aCq:aw au->aw au->ji cm eg (aw au):=sortPriv% PySem.Builtin.mergeLo
noncomputable def aCr:aw au->aw au->ji cm eg (aw au):=sortPriv% PySem.Builtin.mergeHi
noncomputable def O2(left:ap)(key:au)(arr:aw au)(base i:ah):ji cm eg (az ap):=
 elem' arr (base+i) >>= λx=>if left=af then lt' x key else lt' key x >>= λr=>pure (Option.map (λb=>!b) r)
theorem nZ{prog:bn}{w:bi}{A:bw}{E:aj->ao->Prop}{s:ao}{g:ah}{st:cm}{Q:iz->cm->Prop}
 (h:Q () (mi (kindOf st) (am st) (bh st) g (fx st))):c8 (ax prog w) A E s (zY g) Q st:=iO h
section
variable {prog:bn} {w:bi} {A:bw} {E:aj->ao->Prop} {s:ao}
theorem VD{left:ap}{key:au}{arr:aw au}{base n hint:ah}{st:cm}{Q:az ah->cm->Prop}(p:ah->ap)
 (hp:∀i (R:az ap->cm->Prop),i<n->R (ae (p i)) st->c8 (ax prog w) A E s (O2 left key arr base i) R st)
 (hm:∀i j,i<=j->j<n->p j=af->p i=af)(hh:hint<n)
 (h:∀k,k<=n->(∀i,i<k->p i=af)->(∀i,k<=i->i<n->p i=ai)->Q (ae k) st) :
  c8 (ax prog w) A E s (YL left key arr base n hint) Q st:=by
 with_unfolding_all refine aE (hp _ _ hh ?_)
 dsimp only;cases hr:p hint with
 |true=>
  simp only[cb];refine aE (dP (dQ
   (I:=λx c st'=>st'=st/\∃l o,c=(ak,l,o)/\l<o/\x+1<=o/\hint+l<n/\p (hint+l)=af)
   (Q:=λc st'=>st'=st/\∃l o,c=(ak,l,o)/\l<o/\hint+l<n/\p (hint+l)=af/\(n-hint<=o\/(hint+o<n/\p (hint+o)=ai))) ?step ?fin ?init) ?post)
  case init=>exact⟨rfl,0,1,rfl,by lia,by lia,hh,hr⟩
  case fin=>
   rintro c st' ⟨rfl,l,o,rfl,a1,a2,a3,a4⟩;exact⟨rfl,l,o,rfl,a1,a3,a4,.inl (by lia)⟩
  case step=>
   rintro x c st' _ hx ⟨rfl,l,o,rfl,a1,a2,a3,a4⟩;dsimp only;by_cases hge:o >= n-hint
   ·rw[aq hge];exact aS ⟨rfl,l,o,rfl,a1,a3,a4,.inl hge⟩
   ·rw[av hge];refine aE (hp _ _ (by lia) ?_);dsimp only;cases hb:p (hint+o) with
    |true=>
     simp only[mj,c_,b9];exact aS ⟨rfl,_,_,rfl,by lia,by lia,by lia,hb⟩
    |false=>
     simp only[Bool.not_false,cb];exact aS ⟨rfl,_,_,rfl,a1,a3,a4,.inr ⟨by lia,hb⟩⟩
  case post=>
   rintro c st₀ ⟨rfl,l,o,rfl,a1,a3,a4,a5⟩;dsimp only;have H1:∀i,i<hint+l+1->p i=af:=λi hi=>hm i (hint+l) (by lia) a3 a4
   have H2:∀i,hint+min o (n-hint)<=i->i<n->p i=ai:=by
    intro i i1 i2;rcases a5 with a5|⟨a5,a6⟩
    ·lia
    ·cases hq:p i with
     |false=>rfl
     |true=>rw[hm (hint+o) i (by lia) i2 hq] at a6;cases a6
   refine aE (dP (dQ
    (I:=λx c st'=>st'=st₀/\∃l r,c=(ak,l,r)/\l<=r/\r<=n/\r-l<=n-x/\(∀i,i<l->p i=af)/\(∀i,r<=i->i<n->p i=ai))
    (Q:=λc st'=>st'=st₀/\∃l r,c=(ak,l,r)/\l=r/\r<=n/\(∀i,i<l->p i=af)/\(∀i,r<=i->i<n->p i=ai)) ?step2 ?fin2 ?init2) ?post2)
   case init2=>exact⟨rfl,_,_,rfl,by lia,by lia,by lia,H1,H2⟩
   case fin2=>
    rintro c st' ⟨rfl,l,r,rfl,a1,a2,a3,a4,a5⟩;exact⟨rfl,l,r,rfl,by lia,a2,a4,a5⟩
   case step2=>
    rintro x c st' _ hx ⟨rfl,l,r,rfl,a1,a2,a3,a4,a5⟩;dsimp only;by_cases hge:l >= r
    ·rw[aq hge];exact aS ⟨rfl,l,r,rfl,by lia,a2,a4,a5⟩
    ·rw[av hge];refine aE (hp _ _ (by lia) ?_);dsimp only;cases hb:p (l+(r-l) / 2) with
     |true=>
      simp only[cb];exact aS ⟨rfl,_,_,rfl,by lia,a2,by lia,λi hi=>hm i _ (by lia) (by lia) hb,a5⟩
     |false=>
      simp only[c_,b9];refine aS ⟨rfl,_,_,rfl,by lia,by lia,by lia,a4,λi i1 i2=>?_⟩;cases hq:p i with
      |false=>rfl
      |true=>rw[hm _ i i1 i2 hq] at hb;cases hb
   case post2=>
    rintro c st' ⟨rfl,l,r,rfl,rfl,a2,a4,a5⟩;exact aS (h l a2 a4 a5)
 |false=>
  simp only[c_,b9];refine aE (dP (dQ
   (I:=λx c st'=>st'=st/\∃l o,c=(ak,l,o)/\l<o/\x+1<=o/\l<=hint/\p (hint-l)=ai)
   (Q:=λc st'=>st'=st/\∃l o,c=(ak,l,o)/\l<o/\l<=hint/\p (hint-l)=ai/\(hint+1<=o\/(o<=hint/\p (hint-o)=af))) ?step ?fin ?init) ?post)
  case init=>exact⟨rfl,0,1,rfl,by lia,by lia,by lia,hr⟩
  case fin=>
   rintro c st' ⟨rfl,l,o,rfl,a1,a2,a3,a4⟩;exact⟨rfl,l,o,rfl,a1,a3,a4,.inl (by lia)⟩
  case step=>
   rintro x c st' _ hx ⟨rfl,l,o,rfl,a1,a2,a3,a4⟩;dsimp only;by_cases hge:o >= hint+1
   ·rw[aq hge];exact aS ⟨rfl,l,o,rfl,a1,a3,a4,.inl hge⟩
   ·rw[av hge];refine aE (hp _ _ (by lia) ?_);dsimp only;cases hb:p (hint-o) with
    |false=>
     simp only[c_,b9];exact aS ⟨rfl,_,_,rfl,by lia,by lia,by lia,hb⟩
    |true=>
     simp only[cb];exact aS ⟨rfl,_,_,rfl,a1,a3,a4,.inr ⟨by lia,hb⟩⟩
  case post=>
   rintro c st₀ ⟨rfl,l,o,rfl,a1,a3,a4,a5⟩;dsimp only;have H1:∀i,i<hint+1-min o (hint+1)->p i=af:=by
    intro i hi;rcases a5 with a5|⟨a5,a6⟩
    ·lia
    ·exact hm i (hint-o) (by lia) (by lia) a6
   have H2:∀i,hint-l<=i->i<n->p i=ai:=by
    intro i i1 i2;cases hq:p i with
    |false=>rfl
    |true=>rw[hm (hint-l) i (by lia) i2 hq] at a4;cases a4
   refine aE (dP (dQ
    (I:=λx c st'=>st'=st₀/\∃l r,c=(ak,l,r)/\l<=r/\r<=n/\r-l<=n-x/\(∀i,i<l->p i=af)/\(∀i,r<=i->i<n->p i=ai))
    (Q:=λc st'=>st'=st₀/\∃l r,c=(ak,l,r)/\l=r/\r<=n/\(∀i,i<l->p i=af)/\(∀i,r<=i->i<n->p i=ai)) ?step2 ?fin2 ?init2) ?post2)
   case init2=>exact⟨rfl,_,_,rfl,by lia,by lia,by lia,H1,H2⟩
   case fin2=>
    rintro c st' ⟨rfl,l,r,rfl,a1,a2,a3,a4,a5⟩;exact⟨rfl,l,r,rfl,by lia,a2,a4,a5⟩
   case step2=>
    rintro x c st' _ hx ⟨rfl,l,r,rfl,a1,a2,a3,a4,a5⟩;dsimp only;by_cases hge:l >= r
    ·rw[aq hge];exact aS ⟨rfl,l,r,rfl,by lia,a2,a4,a5⟩
    ·rw[av hge];refine aE (hp _ _ (by lia) ?_);dsimp only;cases hb:p (l+(r-l) / 2) with
     |true=>
      simp only[cb];exact aS ⟨rfl,_,_,rfl,by lia,a2,by lia,λi hi=>hm i _ (by lia) (by lia) hb,a5⟩
     |false=>
      simp only[c_,b9];refine aS ⟨rfl,_,_,rfl,by lia,by lia,by lia,a4,λi i1 i2=>?_⟩;cases hq:p i with
      |false=>rfl
      |true=>rw[hm _ i i1 i2 hq] at hb;cases hb
   case post2=>
    rintro c st' ⟨rfl,l,r,rfl,rfl,a2,a4,a5⟩;exact aS (h l a2 a4 a5)
end
structure Ord(U:au->Prop)(blt:au->au->ap):Prop where
 irr:∀x,U x->blt x x=ai
 tr:∀x y z,U x->U y->U z->blt x y=af->blt y z=af->blt x z=af
 ntr:∀x y z,U x->U y->U z->blt x z=af->blt x y=af\/blt y z=af
noncomputable abbrev dk:au:=(.none,.none)
def gt(a:aw au)(i:ah):au:=a.getD i dk
theorem mR{a:aw au}{i:ah}(h:i<a.size):a[i]?=ae (gt a i):=by
 unfold gt;simp[iq,h]
def rP(U:au->Prop)(a:aw au):Prop:=∀i,i<a.size->U (gt a i)
def Srt(blt:au->au->ap)(a:aw au)(lo hi:ah):Prop:=∀i j,lo<=i->i<=j->j<hi->blt (gt a j) (gt a i)=ai
def VF(prog:bn)(w:bi)(A:bw)(E:aj->ao->Prop)(s:ao)(kd:gh)(U:au->Prop)(blt:au->au->ap):Prop:=
 ∀(x y:au)(st:cm)(Q:az ap->cm->Prop),U x->U y->kindOf st=kd->Q (ae (blt x y)) st->c8 (ax prog w) A E s (lt' x y) Q st
section
variable {prog:bn} {w:bi} {A:bw} {E:aj->ao->Prop} {s:ao} {kd:gh} {U:au->Prop} {blt:au->au->ap}
theorem bY{arr:aw au}{i:ah}{st:cm}{Q:au->cm->Prop}(hi:i<arr.size)(h:Q (gt arr i) st):c8 (ax prog w) A E s (elem' arr i) Q st:=by
 rw[elem'_eq,mR hi];exact aS h
def gp(blt:au->au->ap)(left:ap)(key:au)(arr:aw au)(base i:ah):ap:=if left then blt (gt arr (base+i)) key else !blt key (gt arr (base+i))
theorem VG(hL:VF prog w A E s kd U blt){left:ap}{key:au}{arr:aw au}{base i:ah}{st:cm}{R:az ap->cm->Prop}(hk:kindOf st=kd)(hi:base+i<arr.size)(hU:rP U arr)(hK:U key)
 (h:R (ae (gp blt left key arr base i)) st):c8 (ax prog w) A E s (O2 left key arr base i) R st:=by
 unfold O2;refine aE (bY hi ?_);unfold gp at h;cases left with
 |true=>
  simp only[cb] at h ⊢;exact hL _ _ _ _ (hU _ hi) hK hk h
 |false=>
  simp only[c_,b9] at h ⊢;refine aE (hL _ _ _ _ hK (hU _ hi) hk (aS ?_));exact h
theorem aFz(O:Ord U blt){left:ap}{key:au}{arr:aw au}{base n:ah}(hn:base+n<=arr.size)(hU:rP U arr)(hK:U key)(hs:Srt blt arr base (base+n)) :
  ∀i j,i<=j->j<n->gp blt left key arr base j=af->gp blt left key arr base i=af:=by
 intro i j hij hj h;have h0:=hs (base+i) (base+j) (by lia) (by lia) (by lia);have ui:=hU (base+i) (by lia);have uj:=hU (base+j) (by lia);unfold gp at h ⊢;cases left with
 |true=>
  simp only[cb] at h ⊢;rcases O.ntr _ (gt arr (base+i)) _ uj ui hK h with q|q
  ·rw[h0] at q;cases q
  ·exact q
 |false=>
  simp only[c_,b9] at h ⊢;cases q:blt key (gt arr (base+i)) with
  |false=>rfl
  |true=>
   rcases O.ntr _ (gt arr (base+j)) _ hK uj ui q with z|z
   ·rw[z] at h;cases h
   ·rw[h0] at z;cases z
theorem tK(O:Ord U blt)(hL:VF prog w A E s kd U blt){left:ap}{key:au}{arr:aw au}{base n hint:ah}{st:cm}{Q:az ah->cm->Prop}(hk:kindOf st=kd)(hn:base+n<=arr.size)(hU:rP U arr)(hK:U key)
 (hs:Srt blt arr base (base+n))(hh:hint<n)
 (h:∀k,k<=n->(∀i,i<k->gp blt left key arr base i=af)->(∀i,k<=i->i<n->gp blt left key arr base i=ai)->Q (ae k) st):c8 (ax prog w) A E s (YL left key arr base n hint) Q st:=
 VD (gp blt left key arr base) (λi R hi r=>VG hL hk (by lia) hU hK r) (aFz O hn hU hK hs) hh h
end
section
variable (blt:au->au->ap)
noncomputable abbrev le(x y:au):ap:=!blt y x
def mrg(xs ys:aa au):aa au:=xs.merge ys (le blt)
variable {blt}
theorem mU{a:aw au}{i:ah}(h:i<a.size):a.toList.drop i=gt a i::a.toList.drop (i+1):=by
 rw[gz (by simpa using h)]
 congr 1
 unfold gt;simp[iq,h]
theorem zZ{a:aw au}{i:ah}(h:a.size<=i):a.toList.drop i=[]:=mo (by simpa using h)
theorem mV(xs:aa au):mrg blt xs []=xs:=List.merge_right xs
theorem qP(ys:aa au):mrg blt [] ys=ys:=List.nil_merge ys
theorem gZ(x y:au)(xs ys:aa au):mrg blt (x::xs) (y::ys)=if blt y x then y::mrg blt (x::xs) ys else x::mrg blt xs (y::ys):=by
 unfold mrg;rw[List.cons_merge_cons];cases h:blt y x<;>simp[le,h]
def J(blt:au->au->ap)(a b:aw au)(out:aw au)(ia ib:ah):Prop:=
 out.toList++mrg blt (a.toList.drop ia) (b.toList.drop ib)=mrg blt a.toList b.toList
variable {a b out:aw au} {ia ib:ah}
theorem J.pb(h:J blt a b out ia ib)(ha:ia<a.size)(hb:ib<b.size)(q:blt (gt b ib) (gt a ia)=af):J blt a b (out.push (gt b ib)) ia (ib+1):=by
 unfold J at h ⊢;rw[<-h,mU ha,mU hb,gZ,aq q,<-mU ha];simp
theorem J.pa(h:J blt a b out ia ib)(ha:ia<a.size)(hb:ib<b.size)(q:blt (gt b ib) (gt a ia)=ai):J blt a b (out.push (gt a ia)) (ia+1) ib:=by
 unfold J at h ⊢;rw[<-h,mU ha,mU hb,gZ,av (by simp[q]),<-mU hb];simp
theorem RX{a:aw au}{i k:ah}(h:i+k<a.size)(out:aw au):out++a.extract i (i+(k+1))=(out++a.extract i (i+k)).push (gt a (i+k)):=by
 apply lg.mp;simp only[fE,mq,mr,lh];rw[show i+(k+1)-i=k+1 by lia,show i+k-i=k by lia,oj,dg]
 congr 2
 rw[mv];have:a.toList[i+k]?=ae (gt a (i+k)):=by rw[hI];exact mR h
 rw[this];rfl
theorem RZ(a:aw au)(i:ah)(out:aw au):out++a.extract i (i+0)=out:=by
 apply lg.mp;simp
theorem J.ga(h:J blt a b out ia ib)(hb:ib<b.size):∀k,ia+k<=a.size->(∀i,i<k->blt (gt b ib) (gt a (ia+i))=ai)->J blt a b (out++a.extract ia (ia+k)) (ia+k) ib
 |0,_,_=>by rw[RZ];exact h
 |k+1,hk,q=>by
  have ih:=J.ga h hb k (by lia) λi hi=>q i (by lia)
  rw[RX (by lia)];exact J.pa ih (by lia) hb (q k (by lia))
theorem J.gb(h:J blt a b out ia ib)(ha:ia<a.size):∀k,ib+k<=b.size->(∀i,i<k->blt (gt b (ib+i)) (gt a ia)=af)->J blt a b (out++b.extract ib (ib+k)) ia (ib+k)
 |0,_,_=>by rw[RZ];exact h
 |k+1,hk,q=>by
  have ih:=J.gb h ha k (by lia) λi hi=>q i (by lia)
  rw[RX (by lia)];exact J.pb ih ha (by lia) (q k (by lia))
theorem n6(a:aw au)(i:ah):(a.extract i a.size).toList=a.toList.drop i:=by
 simp[mq,mr,mw]
theorem J.VH(h:J blt a b out ia ib)(hb:ib=b.size):(out++a.extract ia a.size++b.extract ib b.size).toList=mrg blt a.toList b.toList:=by
 rw[<-h,fE,fE,n6,n6,zZ (og hb.symm),mV];simp
theorem J.VJ(h:J blt a b out ia ib)(ha:ia=a.size):(out++a.extract ia a.size++b.extract ib b.size).toList=mrg blt a.toList b.toList:=by
 rw[<-h,fE,fE,n6,n6,zZ (og ha.symm),qP];simp
theorem z6(x:au):∀ys:aa au,(∀y∈ys,blt y x=af)->mrg blt [x] ys=ys++[x]
 |[],_=>mV _
 |y::ys,h=>by
  rw[gZ,aq (h y (bu ..)),z6 x ys λz hz=>h z (bq _ hz)];rfl
theorem aEe{a:aw au}{x:au}(h:x∈a.toList):∃i,i<a.size/\x=gt a i:=by
 obtain⟨i,hi,e⟩:=mz h;refine⟨i,by simpa using hi,?_⟩;unfold gt;rw[<-e];have hi':i<a.size:=by simpa using hi
 simp[iq,hi']
theorem J.last(h:J blt a b out ia ib)(ha:ia+1=a.size)(q:∀i,i<b.size->blt (gt b i) (gt a ia)=af):(out++b.extract ib b.size++a.extract ia a.size).toList=mrg blt a.toList b.toList:=by
 rw[<-h,fE,fE,n6,n6,mU (by lia:ia<a.size),zZ (a:=a) (i:=ia+1) (by lia),z6,dg];intro y hy;obtain⟨i,hi,e⟩:=aEe (xt hy);rw[e];exact q i hi
end
structure Sim(st st':cm):Prop where
 kd:kindOf st'=kindOf st
 ar:am st'=am st
 pd:bh st'=bh st
 fl:fx st'=fx st
section
variable {σ α:Type} {M:i9} {A:bw} {E:aj->ao->Prop} {s:ao} {st:σ} {Q:α->σ->Prop}
theorem vB{m:ji σ eg α}(h:∀Q':α->σ->Prop,(∀c s',Q c s'->Q' c s')->c8 M A E s m Q' st):c8 M A E s m Q st:=h Q λ_ _ x=>x
variable {p q:ji σ eg α}
theorem fL{c:Prop}[mB c](h1:c->c8 M A E s p Q st)(h2:¬c->c8 M A E s q Q st):c8 M A E s (if c then p else q) Q st:=if h:c then (aq h).symm▸h1 h else (av h).symm▸h2 h
theorem d_{x y:ah}(h1:x=y->c8 M A E s p Q st)(h2:x≠y->c8 M A E s q Q st):c8 M A E s (if (x==y)=af then p else q) Q st:=fL (λh=>h1 (eq_of_beq h)) λh=>h2 λe=>h (mE.mpr e)
end
section
variable {prog:bn} {w:bi} {A:bw} {E:aj->ao->Prop} {s:ao} {kd:gh} {U:au->Prop} {blt:au->au->ap}
theorem O3(O:Ord U blt)(hL:VF prog w A E s kd U blt){a b:aw au}{st:cm}{Q:aw au->cm->Prop}(hk:kindOf st=kd)(hUa:rP U a)(hUb:rP U b)(hsa:Srt blt a 0 a.size)(hsb:Srt blt b 0 b.size)
 (ha:0<a.size)(hb:0<b.size)(hf:blt (gt b 0) (gt a 0)=af)(hl:∀i,i<b.size->blt (gt b i) (gt a (a.size-1))=af)
 (h:∀r st',Sim st st'->r.toList=mrg blt a.toList b.toList->Q r st'):c8 (ax prog w) A E s (aCq a b) Q st:=by
 have lastAt:∀{j:ah},j+1=a.size->∀i,i<b.size->blt (gt b i) (gt a j)=af:=λ{j} hj i hi=>by
  have:=hl i hi;rwa [show a.size-1=j by lia] at this
 with_unfolding_all refine aE (jk (jl ⟨rfl,?_⟩))
 refine aE (bY hb ?_);have J0:J blt a b #[gt b 0] 0 1:=J.pb (out:=#[]) (by unfold J;simp) ha hb hf;have sim0:Sim st st:=⟨rfl,rfl,rfl,rfl⟩
 refine d_ (λe=>aS (h _ _ sim0 (J0.VH e))) λe1=>d_ (λe=>aS (h _ _ sim0 (J0.last e (lastAt e)))) λe2=>aE (gL (aE (dP (dQ
  (I:=λx c st'=>Sim st st'/\∃out ia ib mg,c=(ak,out,ia,ib,mg)/\J blt a b out ia ib/\ia+1<a.size/\ib<b.size/\x<=ia+ib)
  (Q:=λc st'=>Sim st st'/\∃r,c.1=ae r/\r.toList=mrg blt a.toList b.toList) ?step ?fin ?init) ?post)))
 case init=>exact⟨sim0,_,_,_,_,rfl,J0,by lia,by lia,by lia⟩
 case fin=>
  rintro c st' ⟨_,out,ia,ib,mg,rfl,_,h1,h2,h3⟩;lia
 case post=>
  rintro⟨c1,c2⟩ st' ⟨sim,r,rfl,hr⟩;exact aS (h r st' sim hr)
 case step=>
  rintro x₀ c st1 _ hx0 ⟨sim,out,ia,ib,mg,rfl,j1,h1,h2,h3⟩;refine aE (dP (dQ
   (I:=λx c st'=>Sim st st'/\∃out ia ib ac bc,c=(ak,out,ia,ib,ac,bc)/\J blt a b out ia ib/\ia+1<a.size/\ib<b.size/\x₀<=ia+ib/\x<=ia+ib)
   (Q:=λc st'=>Sim st st'/\((∃r,c.1=ae r/\r.toList=mrg blt a.toList b.toList)\/∃out ia ib ac bc,c=(ak,out,ia,ib,ac,bc)/\J blt a b out ia ib/\ia+1<a.size/\ib<b.size/\x₀+1<=ia+ib)) ?step2 ?fin2 ?init2) ?post2)
  case init2=>exact⟨sim,out,ia,ib,_,_,rfl,j1,h1,h2,h3,by lia⟩
  case fin2=>
   rintro c st' ⟨_,out,ia,ib,ac,bc,rfl,_,h1,h2,_,h3⟩;lia
  case step2=>
   rintro x c st2 _ hx ⟨sim,out,ia,ib,ac,bc,rfl,j2,h1,h2,h3,h4⟩;refine vB λQ hQ=>?_
   have hd:∀r d,r.toList=mrg blt a.toList b.toList->Q (.done (ae r,d)) st2:=λr d e=>hQ _ _ ⟨sim,.inl ⟨r,rfl,e⟩⟩
   have hb':∀out ia ib ac bc,J blt a b out ia ib->ia+1<a.size/\ib<b.size/\x₀+1<=ia+ib->Q (.done (ak,out,ia,ib,ac,bc)) st2:=λ_ _ _ _ _ j q=>hQ _ _ ⟨sim,.inr ⟨_,_,_,_,_,rfl,j,q⟩⟩
   have hy:∀out ia ib ac bc,J blt a b out ia ib->ia+1<a.size/\ib<b.size/\x₀<=ia+ib/\x+1<=ia+ib->Q (.yield (ak,out,ia,ib,ac,bc)) st2:=λ_ _ _ _ _ j q=>hQ _ _ ⟨sim,_,_,_,_,_,rfl,j,q⟩
   clear hQ;dsimp only;refine aE (bY h2 (aE (bY (i:=ia) (by lia) (aE (hL _ _ _ _ (hUb _ h2) (hUa _ (by lia)) (sim.1.trans hk) ?_)))));refine fL (λq=>aE (bY h2 ?_)) λq=>aE (bY (i:=ia) (by lia) ?_)
   ·have j3:=J.pb j2 (by lia) h2 q;exact d_ (λe=>aS (hd _ _ (j3.VH e))) λe=>fL (λ_=>aS (hb' _ _ _ _ _ j3 (by lia))) λ_=>aS (hy _ _ _ _ _ j3 (by lia))
   ·have j3:=J.pa j2 (by lia) h2 (xu q);exact d_ (λe=>aS (hd _ _ (j3.last e (lastAt e)))) λe=>fL (λ_=>aS (hb' _ _ _ _ _ j3 (by lia))) λ_=>aS (hy _ _ _ _ _ j3 (by lia))
  case post2=>
   rintro⟨c1,c2⟩ st2 ⟨sim,⟨r,e,hr⟩|⟨out,ia,ib,ac,bc,e,j2,h1,h2,h3⟩⟩
   ·subst e;exact aS ⟨sim,r,rfl,hr⟩
   ·cases e;refine aE (jk (jl ⟨rfl,aE (dP (dQ
     (I:=λx c st'=>Sim st st'/\∃out ia ib mg ac bc,c=(ak,out,ia,ib,mg,ac,bc)/\J blt a b out ia ib/\ia+1<a.size/\ib<b.size/\x₀+1<=ia+ib/\x<=ia+ib)
     (Q:=λc st'=>Sim st st'/\((∃r,c.1=ae r/\r.toList=mrg blt a.toList b.toList)\/∃out ia ib mg ac bc,c=(ak,out,ia,ib,mg,ac,bc)/\J blt a b out ia ib/\ia+1<a.size/\ib<b.size/\x₀+1<=ia+ib)) ?step3 ?fin3 ?init3) ?post3)⟩))
    case init3=>exact⟨sim,out,ia,ib,_,_,_,rfl,j2,h1,h2,h3,by lia⟩
    case fin3=>
     rintro c st' ⟨_,out,ia,ib,mg,ac,bc,rfl,_,h1,h2,_,h3⟩;lia
    case post3=>
     rintro⟨c1,c2⟩ st3 ⟨sim,⟨r,e,hr⟩|⟨out,ia,ib,mg,ac,bc,e,j3,h1,h2,h3⟩⟩
     ·subst e;exact aS ⟨sim,r,rfl,hr⟩
     ·cases e;refine aE (nZ (aS ⟨⟨sim.1,sim.2,sim.3,sim.4⟩,_,_,_,_,rfl,j3,h1,h2,by lia⟩))
    case step3=>
     rintro x c st3 _ hx ⟨sim,out,ia,ib,mg,ac,bc,rfl,j3,h1,h2,h3,h4⟩;refine vB λQ hQ=>?_
     have hd:∀r d st',Sim st st'->r.toList=mrg blt a.toList b.toList->Q (.done (ae r,d)) st':=λr d st' m e=>hQ _ _ ⟨m,.inl ⟨r,rfl,e⟩⟩
     have hb':∀out ia ib mg ac bc st',Sim st st'->J blt a b out ia ib->ia+1<a.size/\ib<b.size/\x₀+1<=ia+ib->Q (.done (ak,out,ia,ib,mg,ac,bc)) st':=λ_ _ _ _ _ _ _ m j q=>hQ _ _ ⟨m,.inr ⟨_,_,_,_,_,_,rfl,j,q⟩⟩
     have hy:∀out ia ib mg ac bc st',Sim st st'->J blt a b out ia ib->ia+1<a.size/\ib<b.size/\x₀+1<=ia+ib/\x+1<=ia+ib->Q (.yield (ak,out,ia,ib,mg,ac,bc)) st':=λ_ _ _ _ _ _ _ m j q=>hQ _ _ ⟨m,_,_,_,_,_,_,rfl,j,q⟩
     clear hQ
     extract_lets -underBinder s0 o1 s1 a1 s2 b1 s3 m1 s4 c1 d1 jp m2
     have K1:∀m,c8 (ax prog w) A E s (jp () m) Q st3:=λm=>by
      dsimp -zeta only [jp,s0,o1,s1,a1,s2,b1,s3,m1,s4,c1,d1];refine aE (nZ ?_);have sim':Sim st (mi (kindOf st3) (am st3) (bh st3) m (fx st3)):=⟨sim.1,sim.2,sim.3,sim.4⟩
      generalize mi (kindOf st3) (am st3) (bh st3) m (fx st3)=st4 at sim' ⊢;have hk':=sim'.1.trans hk;refine aE (bY (by lia) (aE (tK O hL hk' (by lia) hUa (hUb _ (by lia)) (λi j i1 i2 i3=>hsa i j (by lia) i2 (by lia)) (by lia) λk hk1 y1 y2=>?_)));dsimp -zeta only
      extract_lets -underBinder n1 jp2 n2 n3
      have K2:∀out ia,J blt a b out ia ib->ia+1<a.size->x₀+1<=ia+ib->x<=ia+ib->blt (gt b ib) (gt a ia)=af->c8 (ax prog w) A E s (jp2 () out ia) Q st4:=λout ia j1 h1 h3 h4 hz=>by
       dsimp -zeta only [jp2];refine aE (bY h2 ?_);have j2:=J.pb j1 (by lia) h2 hz;refine d_ (λe=>aS (hd _ _ _ sim' (j2.VH e))) λe=>aE (bY (by lia) (aE (tK O hL hk' (by lia) hUb (hUa _ (by lia)) (λi j i1 i2 i3=>hsb i j (by lia) i2 (by lia)) (by lia) λk1 hk1 y1 y2=>?_)))
       dsimp -zeta only
       extract_lets -underBinder n1 jp3 n2 n3
       have K3:∀out ib',J blt a b out ia ib'->ib'<b.size->ib<=ib'->blt (gt b ib') (gt a ia)=ai->c8 (ax prog w) A E s (jp3 () out ib') Q st4:=λout ib' j3 h2 h5 hz=>by
        dsimp -zeta only [jp3];refine aE (bY (by lia) ?_);have j4:=J.pa j3 (by lia) h2 hz;refine d_ (λe=>aS (hd _ _ _ sim' (j4.last e (lastAt e)))) λe=>fL (λ_=>aS (hb' _ _ _ _ _ _ _ sim' j4 (by lia))) λ_=>aS (hy _ _ _ _ _ _ _ sim' j4 (by lia))
       refine fL (λkp=>d_ (λe3=>aS (hd _ _ _ sim' ((J.gb j2 (by lia) k1 (by lia) λi hi=>by have:=y1 i hi;simpa[gp] using this).VH e3))) λe3=>K3 _ _ (J.gb j2 (by lia) k1 (by lia) λi hi=>by have:=y1 i hi;simpa[gp] using this) (by lia) (by lia) (by have:=y2 k1 (ba _) (by lia);simpa[gp] using this)) λkp=>K3 _ _ j2 (by lia) (by lia) (by have:=y2 0 (by lia) (by lia);simpa[gp] using this)
      have j5:∀i,i<k->blt (gt b ib) (gt a (ia+i))=ai:=λi hi=>by have:=y1 i hi;simpa[gp] using this
      refine fL (λkp=>?_) λkp=>K2 _ _ j3 h1 h3 h4 (by have:=y2 0 (by lia) (by lia);simpa[gp] using this)
      have j1:=J.ga j3 h2 k (by lia) j5;refine d_ (λe=>aS (hd _ _ _ sim' (j1.last e (lastAt e)))) λe=>d_ (λe=>aS (hd _ _ _ sim' (j1.VJ e))) λe'=>K2 _ _ j1 (by lia) (by lia) (by lia) (by have:=y2 k (ba _) (by lia);simpa[gp] using this)
     exact fL (λ_=>K1 _) λ_=>K1 _
end
section
variable {blt:au->au->ap}
theorem O4{a:aw au}{n:ah}(h:n<a.size):a.toList.take (n+1)=a.toList.take n++[gt a n]:=by
 rw[oj];have:a.toList[n]?=ae (gt a n):=by rw[hI];exact mR h
 rw[this];rfl
theorem v_{a:aw au}{n:ah}{z:au}(h:z∈a.toList.take n):∃i,i<n/\i<a.size/\z=gt a i:= by
  obtain⟨i,hi,e⟩:= mz h;rw[hG] at hi;have h2:i<a.size:= by simpa using (show i<a.toList.length by lia)
  refine⟨i,by lia,h2,?_⟩;rw[<-e,List.getElem_take];unfold gt;simp[iq,h2]
theorem wA(x:au):∀(xs zs:aa au),(∀z∈zs,blt z x=af)->mrg blt (xs++[x]) zs=mrg blt xs zs++[x]
 |[],zs,h=>by rw[eW,z6 x zs h,qP]
 |x0::xs,[],_=>by rw[mV,mV]
 |x0::xs,z::zs,h=>by
  rw[dS,gZ,gZ];by_cases q:blt z x0=af
  ·rw[aq q,aq q,<-dS,wA x (x0::xs) zs λy hy=>h y (bq _ hy)];rfl
  ·rw[av q,av q,wA x xs (z::zs) h];rfl
 termination_by xs zs=>xs.length+zs.length
theorem JF(y:au):∀zs:aa au,(∀z∈zs,blt y z=ai)->mrg blt zs [y]=zs++[y]
 |[],_=>qP _
 |z::zs,h=>by
  rw[gZ,av (by simp[h z (bu ..)]),JF y zs λu hu=>h u (bq _ hu)];rfl
theorem wB(y:au):∀(zs ys:aa au),(∀z∈zs,blt y z=ai)->mrg blt zs (ys++[y])=mrg blt zs ys++[y]
 |zs,[],h=>by rw[eW,JF y zs h,mV]
 |[],y0::ys,_=>by rw[qP,qP]
 |z::zs,y0::ys,h=>by
  rw[dS,gZ,gZ];by_cases q:blt y0 z=af
  ·rw[aq q,aq q,wB y (z::zs) ys h];rfl
  ·rw[av q,av q,<-dS,wB y zs (y0::ys) λu hu=>h u (bq _ hu)];rfl
 termination_by zs ys=>zs.length+ys.length
def JH(blt:au->au->ap)(a b:aw au)(out:aw au)(na nb:ah):Prop:=
 mrg blt (a.toList.take na) (b.toList.take nb)++out.toList.reverse=mrg blt a.toList b.toList
variable {a b out:aw au} {na nb:ah}
theorem JH.pa(h:JH blt a b out na nb)(ha:0<na)(h1:na<=a.size)(h2:nb<=b.size)(q:∀i,i<nb->blt (gt b i) (gt a (na-1))=af):JH blt a b (out.push (gt a (na-1))) (na-1) nb:=by
 unfold JH at h ⊢;obtain⟨n,rfl⟩:∃n,na=n+1:=⟨na-1,by lia⟩
 rw[O4 (by lia),wA _ _ _ (λz hz=>by obtain⟨i,i1,i2,rfl⟩:=v_ hz;exact q i i1)] at h;rw[<-h];simp
theorem JH.pb(h:JH blt a b out na nb)(hb:0<nb)(h1:na<=a.size)(h2:nb<=b.size)(q:∀i,i<na->blt (gt b (nb-1)) (gt a i)=ai):JH blt a b (out.push (gt b (nb-1))) na (nb-1):=by
 unfold JH at h ⊢;obtain⟨n,rfl⟩:∃n,nb=n+1:=⟨nb-1,by lia⟩
 rw[O4 (by lia),wB _ _ _ (λz hz=>by obtain⟨i,i1,i2,rfl⟩:=v_ hz;exact q i i1)] at h;rw[<-h];simp
theorem YM{a:aw au}{i n:ah}(h:i<n)(hn:n<=a.size)(out:aw au):out++(a.extract i n).reverse=(out.push (gt a (n-1)))++(a.extract i (n-1)).reverse:=by
 apply lg.mp;simp only[fE,om,mq,mr,lh];obtain⟨m,rfl⟩:∃m,n=m+1:=⟨n-1,by lia⟩
 rw[show m+1-i=(m-i)+1 by lia,oj,mv,show i+(m-i)=m by lia];have:a.toList[m]?=ae (gt a m):=by rw[hI];exact mR (by lia)
 rw[this];simp
theorem vC{a:aw au}{i:ah}(out:aw au):out++(a.extract i i).reverse=out:=by
 apply lg.mp;simp
theorem JH.ga:∀{na:ah}{out:aw au},JH blt a b out na nb->na<=a.size->nb<=b.size->∀at_,at_<=na->(∀i,at_<=i->i<na->∀z,z<nb->blt (gt b z) (gt a i)=af)->JH blt a b (out++(a.extract at_ na).reverse) at_ nb
 |0,out,h,_,_,at_,h0,_=>by
  obtain rfl:at_=0:=by lia
  rw[vC];exact h
 |n+1,out,h,h1,h2,at_,h0,q=>by
  by_cases e:at_=n+1
  ·subst e;rw[vC];exact h
  ·rw[YM (by lia) h1];exact JH.ga (na:=n) (JH.pa h (by lia) h1 h2 (q n (by lia) (by lia))) (by lia) h2 at_ (by lia) λi i1 i2=>q i i1 (by lia)
theorem JH.gb:∀{nb:ah}{out:aw au},JH blt a b out na nb->na<=a.size->nb<=b.size->∀at_,at_<=nb->(∀i,at_<=i->i<nb->∀z,z<na->blt (gt b i) (gt a z)=ai)->JH blt a b (out++(b.extract at_ nb).reverse) na at_
 |0,out,h,_,_,at_,h0,_=>by
  obtain rfl:at_=0:=by lia
  rw[vC];exact h
 |n+1,out,h,h1,h2,at_,h0,q=>by
  by_cases e:at_=n+1
  ·subst e;rw[vC];exact h
  ·rw[YM (by lia) h2];exact JH.gb (nb:=n) (JH.pb h (by lia) h1 h2 (q n (by lia) (by lia))) h1 (by lia) at_ (by lia) λi i1 i2=>q i i1 (by lia)
theorem n8(a:aw au)(n:ah):(a.extract 0 n).toList=a.toList.take n:=by
 simp[mq,mr]
theorem JH.VJ(h:JH blt a b out na nb)(e:na=0):(a.extract 0 na++b.extract 0 nb++out.reverse).toList=mrg blt a.toList b.toList:=by
 subst e;rw[<-h,fE,fE,n8,n8,om,xv,qP];rfl
theorem JH.VH(h:JH blt a b out na nb)(e:nb=0):(a.extract 0 na++b.extract 0 nb++out.reverse).toList=mrg blt a.toList b.toList:=by
 subst e;rw[<-h,fE,fE,n8,n8,om,xv,mV,f_]
theorem JH.first(h:JH blt a b out na nb)(e:nb=1)(ha:0<a.size)(hb:0<b.size)(hf:blt (gt b 0) (gt a 0)=af)(hn:0<na):(b.extract 0 nb++a.extract 0 na++out.reverse).toList=mrg blt a.toList b.toList:=by
 subst e;rw[<-h,fE,fE,n8,n8,om];have e1:b.toList.take 1=[gt b 0]:=by rw[O4 (a:=b) (n:=0) hb];rfl
 obtain⟨m,rfl⟩:∃m,na=m+1:=⟨na-1,by lia⟩
 have e2:a.toList.take (m+1)=gt a 0::(a.toList.drop 1).take m:=by
  have:=mU (a:=a) (i:=0) ha;rw[List.drop_zero] at this;rw[this];rfl
 rw[e1,e2,gZ,aq hf,mV];rfl
variable {U:au->Prop}
theorem leA(O:Ord U blt)(hUa:rP U a)(hUb:rP U b)(hsa:Srt blt a 0 a.size){n i z:ah}(hn:n<=a.size)(hi:i<b.size)(hz:z<n)(q:blt (gt b i) (gt a (n-1))=ai):blt (gt b i) (gt a z)=ai:=by
 cases e:blt (gt b i) (gt a z) with
 |false=>rfl
 |true=>
  rcases O.ntr _ (gt a (n-1)) _ (hUb i hi) (hUa _ (by lia)) (hUa z (by lia)) e with p|p
  ·rw[q] at p;cases p
  ·rw[hsa z (n-1) (by lia) (by lia) (by lia)] at p;cases p
theorem aNu(O:Ord U blt)(hUa:rP U a)(hUb:rP U b)(hsb:Srt blt b 0 b.size){n i z:ah}(hn:n<=b.size)(hi:i<a.size)(hz:z<n)(q:blt (gt b (n-1)) (gt a i)=af):blt (gt b z) (gt a i)=af:=by
 rcases O.ntr _ (gt b z) _ (hUb (n-1) (by lia)) (hUb z (by lia)) (hUa i hi) q with p|p
 ·rw[hsb z (n-1) (by lia) (by lia) (by lia)] at p;cases p
 ·exact p
end
section
variable {prog:bn} {w:bi} {A:bw} {E:aj->ao->Prop} {s:ao} {kd:gh} {U:au->Prop} {blt:au->au->ap}
theorem O5(O:Ord U blt)(hL:VF prog w A E s kd U blt){a b:aw au}{st:cm}{Q:aw au->cm->Prop}(hk:kindOf st=kd)(hUa:rP U a)(hUb:rP U b)(hsa:Srt blt a 0 a.size)(hsb:Srt blt b 0 b.size)
 (ha:0<a.size)(hb:0<b.size)(hf:blt (gt b 0) (gt a 0)=af)(hl:∀i,i<b.size->blt (gt b i) (gt a (a.size-1))=af)
 (h:∀r st',Sim st st'->r.toList=mrg blt a.toList b.toList->Q r st'):c8 (ax prog w) A E s (aCr a b) Q st:=by
 with_unfolding_all refine aE (jk (jl ⟨rfl,?_⟩))
 refine aE (bY (by lia) ?_);have J0:JH blt a b #[gt a (a.size-1)] (a.size-1) b.size:=JH.pa (out:=#[]) (na:=a.size) (by unfold JH;simp[mw]) ha (ba _) (ba _) hl;have sim0:Sim st st:=⟨rfl,rfl,rfl,rfl⟩
 refine d_ (λe=>aS (h _ _ sim0 (J0.VJ e))) λe1=>d_ (λe=>aS (h _ _ sim0 (J0.first e ha hb hf (by lia)))) λe2=>aE (gL (aE (dP (dQ
  (I:=λx c st'=>Sim st st'/\∃out na nb mg,c=(ak,na,nb,out,mg)/\JH blt a b out na nb/\0<na/\1<nb/\na<a.size/\nb<=b.size/\x+na+nb<=a.size+b.size)
  (Q:=λc st'=>Sim st st'/\∃r,c.1=ae r/\r.toList=mrg blt a.toList b.toList) ?step ?fin ?init) ?post)))
 case init=>exact⟨sim0,_,_,_,_,rfl,J0,by lia,by lia,by lia,by lia,by lia⟩
 case fin=>
  rintro c st' ⟨_,out,na,nb,mg,rfl,_,h1,h2,h3,h4,h5⟩;lia
 case post=>
  rintro⟨c1,c2⟩ st' ⟨sim,r,rfl,hr⟩;exact aS (h r st' sim hr)
 case step=>
  rintro x₀ c st1 _ hx0 ⟨sim,out,na,nb,mg,rfl,j1,h1,h2,h3,h4,h5⟩;dsimp -zeta only;refine aE (dP (dQ
   (I:=λx c st'=>Sim st st'/\∃out na nb ac bc,c=(ak,na,nb,out,ac,bc)/\JH blt a b out na nb/\0<na/\1<nb/\na<a.size/\nb<=b.size/\x₀+na+nb<=a.size+b.size/\x+na+nb<=a.size+b.size)
   (Q:=λc st'=>Sim st st'/\((∃r,c.1=ae r/\r.toList=mrg blt a.toList b.toList)\/∃out na nb ac bc,c=(ak,na,nb,out,ac,bc)/\JH blt a b out na nb/\0<na/\1<nb/\na<a.size/\nb<=b.size/\x₀+1+na+nb<=a.size+b.size)) ?step2 ?fin2 ?init2) ?post2)
  case init2=>exact⟨sim,out,na,nb,_,_,rfl,j1,h1,h2,h3,h4,h5,by lia⟩
  case fin2=>
   rintro c st' ⟨_,out,na,nb,ac,bc,rfl,_,h1,h2,h3,h4,_,h5⟩;lia
  case step2=>
   rintro x c st2 _ hx ⟨sim,out,na,nb,ac,bc,rfl,j2,h1,h2,h3,h4,h5,h6⟩;refine vB λQ hQ=>?_
   have hd:∀r d,r.toList=mrg blt a.toList b.toList->Q (.done (ae r,d)) st2:=λr d e=>hQ _ _ ⟨sim,.inl ⟨r,rfl,e⟩⟩
   have hb':∀out na nb ac bc,JH blt a b out na nb->0<na/\1<nb/\na<a.size/\nb<=b.size/\x₀+1+na+nb<=a.size+b.size->Q (.done (ak,na,nb,out,ac,bc)) st2:=λ_ _ _ _ _ j q=>hQ _ _ ⟨sim,.inr ⟨_,_,_,_,_,rfl,j,q⟩⟩
   have hy:∀out na nb ac bc,JH blt a b out na nb->0<na/\1<nb/\na<a.size/\nb<=b.size/\x₀+na+nb<=a.size+b.size/\x+1+na+nb<=a.size+b.size->Q (.yield (ak,na,nb,out,ac,bc)) st2:=λ_ _ _ _ _ j q=>hQ _ _ ⟨sim,_,_,_,_,_,rfl,j,q⟩
   clear hQ;dsimp only;refine aE (bY (i:=nb-1) (by lia) (aE (bY (i:=na-1) (by lia) (aE (hL _ _ _ _ (hUb _ (by lia)) (hUa _ (by lia)) (sim.1.trans hk) ?_)))));refine fL (λq=>aE (bY (i:=na-1) (by lia) ?_)) λq=>aE (bY (i:=nb-1) (by lia) ?_)
   ·have j3:=JH.pa j2 (by lia) (by lia) h4 (λi hi=>aNu O hUa hUb hsb h4 (by lia) hi q);exact d_ (λe=>aS (hd _ _ (j3.VJ e))) λe=>fL (λ_=>aS (hb' _ _ _ _ _ j3 (by lia))) λ_=>aS (hy _ _ _ _ _ j3 (by lia))
   ·have j3:=JH.pb j2 (by lia) (by lia) h4 (λi hi=>leA O hUa hUb hsa (by lia) (by lia) hi (xu q));exact d_ (λe=>aS (hd _ _ (j3.first e ha hb hf (by lia)))) λe=>fL (λ_=>aS (hb' _ _ _ _ _ j3 (by lia))) λ_=>aS (hy _ _ _ _ _ j3 (by lia))
  case post2=>
   rintro⟨c1,c2⟩ st2 ⟨sim,⟨r,rfl,hr⟩|⟨out,na,nb,ac,bc,e,j2,h1,h2,h3,h4,h5⟩⟩
   ·exact aS ⟨sim,r,rfl,hr⟩
   ·cases e;dsimp -zeta only;refine aE (jk (jl ⟨rfl,aE (dP (dQ
     (I:=λx c st'=>Sim st st'/\∃out na nb mg ac bc,c=(ak,na,nb,out,mg,ac,bc)/\JH blt a b out na nb/\0<na/\1<nb/\na<a.size/\nb<=b.size/\x₀+1+na+nb<=a.size+b.size/\x+na+nb<=a.size+b.size)
     (Q:=λc st'=>Sim st st'/\((∃r,c.1=ae r/\r.toList=mrg blt a.toList b.toList)\/∃out na nb mg ac bc,c=(ak,na,nb,out,mg,ac,bc)/\JH blt a b out na nb/\0<na/\1<nb/\na<a.size/\nb<=b.size/\x₀+1+na+nb<=a.size+b.size)) ?step3 ?fin3 ?init3) ?post3)⟩))
    case init3=>exact⟨sim,out,na,nb,_,_,_,rfl,j2,h1,h2,h3,h4,h5,by lia⟩
    case fin3=>
     rintro c st' ⟨_,out,na,nb,mg,ac,bc,rfl,_,h1,h2,h3,h4,_,h5⟩;lia
    case post3=>
     rintro⟨c1,c2⟩ st3 ⟨sim,⟨r,rfl,hr⟩|⟨out,na,nb,mg,ac,bc,e,j3,h1,h2,h3,h4,h5⟩⟩
     ·exact aS ⟨sim,r,rfl,hr⟩
     ·cases e;exact aE (nZ (aS ⟨⟨sim.1,sim.2,sim.3,sim.4⟩,_,_,_,_,rfl,j3,h1,h2,h3,h4,by lia⟩))
    case step3=>
     rintro x c st3 _ hx ⟨sim,out,na,nb,mg,ac,bc,rfl,j3,h1,h2,h3,h4,h5,h6⟩;refine vB λQ hQ=>?_
     have hd:∀r d st',Sim st st'->r.toList=mrg blt a.toList b.toList->Q (.done (ae r,d)) st':=λr d _ m e=>hQ _ _ ⟨m,.inl ⟨r,rfl,e⟩⟩
     have hb':∀out na nb mg ac bc st',Sim st st'->JH blt a b out na nb->0<na/\1<nb/\na<a.size/\nb<=b.size/\x₀+1+na+nb<=a.size+b.size->Q (.done (ak,na,nb,out,mg,ac,bc)) st':=λ_ _ _ _ _ _ _ m j q=>hQ _ _ ⟨m,.inr ⟨_,_,_,_,_,_,rfl,j,q⟩⟩
     have hy:∀out na nb mg ac bc st',Sim st st'->JH blt a b out na nb->0<na/\1<nb/\na<a.size/\nb<=b.size/\x₀+1+na+nb<=a.size+b.size/\x+1+na+nb<=a.size+b.size->Q (.yield (ak,na,nb,out,mg,ac,bc)) st':=λ_ _ _ _ _ _ _ m j q=>hQ _ _ ⟨m,_,_,_,_,_,_,rfl,j,q⟩
     clear hQ
     extract_lets -underBinder s0 o1 s1 a1 s2 b1 s3 m1 s4 c1 d1 jp m2
     have K1:∀m,c8 (ax prog w) A E s (jp () m) Q st3:=λm=>by
      dsimp -zeta only [jp,s0,o1,s1,a1,s2,b1,s3,m1,s4,c1,d1];refine aE (nZ ?_);have sim':Sim st (mi (kindOf st3) (am st3) (bh st3) m (fx st3)):=⟨sim.1,sim.2,sim.3,sim.4⟩
      generalize mi (kindOf st3) (am st3) (bh st3) m (fx st3)=st4 at sim' ⊢;have hk':=sim'.1.trans hk;refine aE (bY (by lia) (aE (tK O hL hk' (by lia) hUa (hUb _ (by lia)) (λi j i1 i2 i3=>hsa i j (by lia) i2 (by lia)) (by lia) λat_ hk1 y1 y2=>?_)));dsimp -zeta only;have y1':∀i,i<at_->blt (gt b (nb-1)) (gt a i)=ai:=λi hi=>by have:=y1 i hi;simpa[gp] using this
      have y2':∀i,at_<=i->i<na->blt (gt b (nb-1)) (gt a i)=af:=λi i1 i2=>by have:=y2 i i1 i2;simpa[gp] using this
      clear y1 y2
      extract_lets -underBinder n1 n2 jp2 n3
      have K2:∀na out,JH blt a b out na nb->0<na->na<a.size->x₀+1+na+nb<=a.size+b.size->x+na+nb<=a.size+b.size->(∀z,z<na->blt (gt b (nb-1)) (gt a z)=ai)->c8 (ax prog w) A E s (jp2 () na out) Q st4:=λna out j1 h1 h3 h5 h6 hz=>by
       dsimp -zeta only [jp2];refine aE (bY (by lia) ?_);have j2:=JH.pb j1 (by lia) (by lia) (by lia) hz;refine d_ (λe=>aS (hd _ _ _ sim' (j2.first e ha hb hf (by lia)))) λe=>aE (bY (by lia) (aE (tK O hL hk' (by lia) hUb (hUa _ (by lia)) (λi j i1 i2 i3=>hsb i j (by lia) i2 (by lia)) (by lia) λk1 hk1 y1 y2=>?_)))
       dsimp -zeta only;have y1':∀i,i<k1->blt (gt b i) (gt a (na-1))=af:=λi hi=>by have:=y1 i hi;simpa[gp] using this
       have y2':∀i,k1<=i->i<nb-1->blt (gt b i) (gt a (na-1))=ai:=λi i1 i2=>by have:=y2 i i1 i2;simpa[gp] using this
       clear y1 y2
       extract_lets -underBinder n1 n2 jp3 n3
       have K3:∀nb' out,JH blt a b out na nb'->1<nb'->nb'<nb->(∀z,z<nb'->blt (gt b z) (gt a (na-1))=af)->c8 (ax prog w) A E s (jp3 () nb' out) Q st4:=λnb' out j3 q1 q2 hz=>by
        dsimp -zeta only [jp3];refine aE (bY (by lia) ?_);have j4:=JH.pa j3 (by lia) (by lia) (by lia) hz;exact d_ (λe=>aS (hd _ _ _ sim' (j4.VJ e))) λe=>fL (λ_=>aS (hb' _ _ _ _ _ _ _ sim' j4 (by lia))) λ_=>aS (hy _ _ _ _ _ _ _ sim' j4 (by lia))
       refine fL (λkp=>?_) λkp=>K3 _ _ j2 (by lia) (by lia) λz hz=>y1' z (by lia)
       have j3:=JH.gb j2 (by lia) (by lia) k1 (by lia) (λi i1 i2 z hz=>leA O hUa hUb hsa (by lia) (by lia) hz (y2' i i1 i2));exact d_ (λe=>aS (hd _ _ _ sim' (j3.first e ha hb hf (by lia)))) λe=>d_ (λe=>aS (hd _ _ _ sim' (j3.VH e))) λe'=>K3 _ _ j3 (by lia) (by lia) y1'
      refine fL (λkp=>?_) λkp=>K2 _ _ j3 h1 h3 h5 h6 λz hz=>y1' z (by lia)
      have j1:=JH.ga j3 (by lia) (by lia) at_ (by lia) (λi i1 i2 z hz=>aNu O hUa hUb hsb (by lia) (by lia) hz (y2' i i1 i2));exact d_ (λe=>aS (hd _ _ _ sim' (j1.VJ e))) λe=>K2 _ _ j1 (by lia) (by lia) (by lia) (by lia) y1'
     exact fL (λ_=>K1 _) λ_=>K1 _
end
section
variable {blt:au->au->ap} {U:au->Prop}
def SL(blt:au->au->ap)(l:aa au):Prop:=l.Pairwise λu v=>blt v u=ai
theorem z7(xs ys:aa au):(mrg blt xs ys).Perm (xs++ys):=List.merge_perm_append _
theorem O6{xs ys:aa au}{z:au}:z∈mrg blt xs ys↔z∈xs\/z∈ys:=by
 rw[(z7 xs ys).mem_iff,cS]
theorem Ord.le_trans(O:Ord U blt){x y z:au}(hx:U x)(hy:U y)(hz:U z)(h1:blt y x=ai)(h2:blt z y=ai):blt z x=ai:=by
 cases e:blt z x with
 |false=>rfl
 |true=>
  rcases O.ntr _ y _ hz hy hx e with p|p
  ·rw[h2] at p;cases p
  ·rw[h1] at p;cases p
theorem Ord.aC9(O:Ord U blt){x y:au}(hx:U x)(hy:U y)(h:blt x y=af):blt y x=ai:=by
 cases e:blt y x with
 |false=>rfl
 |true=>
  have:=O.tr _ _ _ hx hy hx h e;rw[O.irr x hx] at this;cases this
theorem YQ(O:Ord U blt):∀(xs ys:aa au),(∀z∈xs,U z)->(∀z∈ys,U z)->SL blt xs->SL blt ys->SL blt (mrg blt xs ys)
 |[],ys,_,_,_,h=>by rw[qP];exact h
 |x::xs,[],_,_,h,_=>by rw[mV];exact h
 |x::xs,y::ys,ux,uy,sx,sy=>by
  rw[gZ];have ux0:=ux x (bu ..);have uy0:=uy y (bu ..);have sx':=iP.mp sx;have sy':=iP.mp sy;by_cases q:blt y x=af
  ·rw[aq q];refine iP.mpr ⟨λz hz=>?_,YQ O (x::xs) ys ux (λz hz=>uy z (bq _ hz)) sx sy'.2⟩;rcases O6.mp hz with hz|hz
   ·rcases bm.mp hz with rfl|hz
    ·exact O.aC9 uy0 ux0 q
    ·exact O.le_trans uy0 ux0 (ux z (bq _ hz)) (O.aC9 uy0 ux0 q) (sx'.1 z hz)
   ·exact sy'.1 z hz
  ·rw[av q];have q':blt y x=ai:=by simpa using q
   refine iP.mpr ⟨λz hz=>?_,YQ O xs (y::ys) (λz hz=>ux z (bq _ hz)) uy sx'.2 sy⟩;rcases O6.mp hz with hz|hz
   ·exact sx'.1 z hz
   ·rcases bm.mp hz with rfl|hz
    ·exact q'
    ·exact O.le_trans ux0 uy0 (uy z (bq _ hz)) q' (sy'.1 z hz)
 termination_by xs ys=>xs.length+ys.length
noncomputable def str(a:aw au)(lo n:ah):aa au:=(a.toList.drop lo).take n
theorem lH{a:aw au}{lo n i:ah}(hi:i<n)(h:lo+n<=a.size):(str a lo n)[i]?=ae (gt a (lo+i)):=by
 unfold str;rw[nI hi,mv,hI];exact mR (by lia)
theorem str_len{a:aw au}{lo n:ah}(h:lo+n<=a.size):(str a lo n).length=n:=by
 unfold str;rw[hG,iE,fR];lia
theorem Srt.sl{a:aw au}{lo n:ah}(h:Srt blt a lo (lo+n))(hn:lo+n<=a.size):SL blt (str a lo n):=by
 unfold SL;rw[tF];intro i j hi hj hij;rw[str_len hn] at hi hj;have e1:=lH (a:=a) (lo:=lo) hi hn;have e2:=lH (a:=a) (lo:=lo) hj hn;rw[dz (by rw[str_len hn];exact hi)] at e1;rw[dz (by rw[str_len hn];exact hj)] at e2;rw[cx e1,cx e2];exact h _ _ (by lia) (by lia) (by lia)
theorem SL.srt{a:aw au}{lo n:ah}(O:Ord U blt)(hU:rP U a)(h:SL blt (str a lo n))(hn:lo+n<=a.size):Srt blt a lo (lo+n):=by
 intro i j h1 h2 h3;by_cases e:i=j
 ·subst e;exact O.irr _ (hU _ (by lia))
 ·unfold SL at h;rw[tF] at h;have q:=h (i-lo) (j-lo) (by rw[str_len hn];lia) (by rw[str_len hn];lia) (by lia);have e1:=lH (a:=a) (lo:=lo) (i:=i-lo) (n:=n) (by lia) hn;have e2:=lH (a:=a) (lo:=lo) (i:=j-lo) (n:=n) (by lia) hn;rw[dz (by rw[str_len hn];lia)] at e1 e2;rw[cx e1,cx e2,show lo+(i-lo)=i by lia,show lo+(j-lo)=j by lia] at q;exact q
theorem O7(a:aw au)(lo m n:ah):str a lo (m+n)=str a lo m++str a (lo+m) n:=by
 unfold str;rw[List.take_add,xw]
theorem z_{a:aw au}{lo n:ah}{z:au}(h:z∈str a lo n):∃i,lo<=i/\i<lo+n/\i<a.size/\z=gt a i:=by
 obtain⟨i,hi,e⟩:=mz h;unfold str at hi;rw[hG,iE,fR] at hi;refine⟨lo+i,by lia,by lia,by lia,?_⟩;have h2:(str a lo n)[i]?=ae z:=by rw[<-e];exact dz _
 unfold str at h2;rw[nI (by lia),mv,hI,mR (by lia)] at h2;exact(cx h2).symm
theorem YS(a:aw au)(i j:ah):(a.extract i j).toList=str a i (j-i):=by
 unfold str;rw[mq,mr]
noncomputable def put(a:aw au)(off:ah)(l:aa au):aw au:=l.zipIdx.foldl (λa (p,j)=>a.setIfInBounds (off+j) p) a
theorem aEf(off:ah):∀(l:aa au)(k:ah)(a:aw au),off+k+l.length<=a.size->
  ((l.zipIdx k).foldl (λa (p,j)=>a.setIfInBounds (off+j) p) a).toList=a.toList.take (off+k)++l++a.toList.drop (off+k+l.length)
 |[],k,a,_=>by simp
 |x::l,k,a,h=>by
  rw[xy,li];rw[ck] at h;rw[aEf off l (k+1) _ (by rw[xA];lia)];rw[xB];have e1:(a.toList.set (off+k) x).take (off+(k+1))=a.toList.take (off+k)++[x]:=by
   rw[show off+(k+1)=(off+k)+1 by lia,oj,List.take_set_of_le (ba _),fN (by rw[fR];lia)];rfl
  have e2:(a.toList.set (off+k) x).drop (off+(k+1)+l.length)=a.toList.drop (off+k+(x::l).length):=by
   rw[List.drop_set_of_lt (by lia),ck]
   congr 1
   lia
  rw[e1,e2];simp
theorem A_{a:aw au}{off:ah}{l:aa au}(h:off+l.length<=a.size):(put a off l).toList=a.toList.take off++l++a.toList.drop (off+l.length):=by
 have:=aEf off l 0 a (by lia);rw[tI] at this;exact this
theorem O8{a:aw au}{i:ah}:gt a i=a.toList.getD i dk:=by
 unfold gt;by_cases h:i<a.size
 ·simp[iq,h]
 ·simp[iq,h]
structure Stp(lo hi:ah)(st st':cm):Prop where
 kd:kindOf st'=kindOf st
 fl:fx st'=fx st
 pm:(am st').Perm (am st)
 out:∀j,j<lo\/hi<=j->gt (am st') j=gt (am st) j
theorem Stp.sz{lo hi:ah}{st st':cm}(h:Stp lo hi st st'):(am st').size=(am st).size:=h.pm.size_eq
theorem bH{a b:aw au}(hU:rP U a)(p:b.Perm a):rP U b:=λi hi=>by
 have:gt b i∈b.toList:=by
  rw[O8,eu,dz (by simpa using hi)];exact gN _
 obtain⟨j,hj,e⟩:=aEe ((tJ.mp p).mem_iff.mp this);rw[e];exact hU j hj
theorem Srt.mono{a:aw au}{lo hi lo' hi':ah}(h:Srt blt a lo hi)(h1:lo<=lo')(h2:hi'<=hi):Srt blt a lo' hi':=λi j a1 a2 a3=>h i j (by lia) a2 (by lia)
theorem Srt.out{a b:aw au}{lo hi:ah}(h:Srt blt a lo hi)(e:∀j,lo<=j->j<hi->gt b j=gt a j):Srt blt b lo hi:=λi j a1 a2 a3=>by
 rw[e i (by lia) (by lia),e j (by lia) a3];exact h i j a1 a2 a3
theorem VL(a:aw au)(i m n:ah):a.toList=a.toList.take i++(str a i m++str a (i+m) n)++a.toList.drop (i+(m+n)):=by
 rw[<-O7];unfold str;rw[dg,<-xw,mI,mI]
theorem aG0{a:aw au}{off:ah}{l:aa au}(h:off+l.length<=a.size):str (put a off l) off l.length=l:=by
 unfold str;rw[A_ h,dg,List.drop_left' (by rw[hG,fR];lia),List.take_left' rfl]
theorem wC{a:aw au}{off:ah}{l:aa au}(h:off+l.length<=a.size){j:ah}(hj:j<off\/off+l.length<=j):gt (put a off l) j=gt a j:=by
 rw[O8,O8,A_ h,eu,eu]
 congr 1
 have hl:(a.toList.take off).length=off:=by rw[hG,fR];lia
 rcases hj with hj|hj
 ·rw[dg,jd (by lia),nI hj]
 ·rw[io (by rw[cw];lia),cw,hl,mv]
  congr 1
  lia
end
section
variable {prog:bn} {w:bi} {A:bw} {E:aj->ao->Prop} {s:ao} {kd:gh} {U:au->Prop} {blt:au->au->ap}
theorem aG1{σ:Type}{M:i9}{st st':σ}{Q:PUnit->σ->Prop}(h:Q ⟨⟩ st'):c8 M A E s (set st':ji σ eg PUnit) Q st:=by
 unfold c8;rw[StateT.run_set];exact bf ⟨rfl,h⟩
theorem O9(O:Ord U blt)(hL:VF prog w A E s kd U blt){i:ah}{st:cm}{Q:ap->cm->Prop}(hk:kindOf st=kd)(hU:rP U (am st))(hF:fx st=ak){sa na pw sb nb pw2:ah}
 (p1:(bh st)[i]?=ae (sa,na,pw))(p2:(bh st)[i+1]?=ae (sb,nb,pw2))(hsb:sb=sa+na)(hsz:sb+nb<=(am st).size)(hna:0<na)(hnb:0<nb)
 (s1:Srt blt (am st) sa (sa+na))(s2:Srt blt (am st) sb (sb+nb))
 (h:∀st',Stp sa (sb+nb) st st'->Srt blt (am st') sa (sb+nb)->bh st'=((bh st).setIfInBounds i (sa,na+nb,pw)).eraseIdxIfInBounds (i+1)->Q af st') :
  c8 (ax prog w) A E s (mergeAt' i) Q st:=by
 subst hsb
 with_unfolding_all refine aE (gL ?_)
 dsimp only;rw[p1,p2];dsimp only;refine aE (aG1 ?_);have hk':kindOf (oq st (((bh st).setIfInBounds i (sa,na+nb,pw)).eraseIdxIfInBounds (i+1)))=kd:=hk;refine aE (bY (arr:=am st) (by lia) ?_);refine aE (tK (arr:=am st) O hL hk' (by lia) hU (hU _ (by lia)) (s1.mono (ba _) (by lia)) (by lia) λk hk1 y1 y2=>?_);dsimp only;have y1':∀i,i<k->blt (gt (am st) (sa+na)) (gt (am st) (sa+i))=ai:=λi hi=>by have:=y1 i hi;simpa[gp] using this
 have y2':∀i,k<=i->i<na->blt (gt (am st) (sa+na)) (gt (am st) (sa+i))=af:=λi i1 i2=>by have:=y2 i i1 i2;simpa[gp] using this
 -- the whole stretch is sorted as soon as the first part's last is no more than the second's first
 have whole:(∀i j,sa<=i->i<sa+na->sa+na<=j->j<sa+na+nb->blt (gt (am st) j) (gt (am st) i)=ai)->Srt blt (am st) sa (sa+na+nb):=λq i j a1 a2 a3=>by
  by_cases c1:j<sa+na
  ·exact s1 i j a1 a2 c1
  ·by_cases c2:sa+na<=i
   ·exact s2 i j c2 a2 a3
   ·exact q i j a1 (by lia) (by lia) a3
 have stp0:Stp sa (sa+na+nb) st (oq st (((bh st).setIfInBounds i (sa,na+nb,pw)).eraseIdxIfInBounds (i+1))):=⟨rfl,rfl,mM _,λ_ _=>rfl⟩
 by_cases e1:na-k=0
 ·rw[aq (by simpa using e1)];refine aS (h _ stp0 (whole λi j i1 i2 j1 j2=>?_) rfl);have q:=y1' (i-sa) (by lia);rw[show sa+(i-sa)=i by lia] at q;exact O.le_trans (hU _ (by lia)) (hU _ (by lia)) (hU _ (by lia)) q (s2 _ _ (ba _) j1 j2)
 rw[av (by simpa using e1)];refine aE (bY (arr:=am st) (by lia) ?_);refine aE (tK (arr:=am st) O hL hk' (by lia) hU (hU _ (by lia)) (s2.mono (ba _) (by lia)) (by lia) λnb' hnb1 z1 z2=>?_);dsimp only;have ez:sa+k+(na-k)-1=sa+na-1:=by lia
 have z1':∀i,i<nb'->blt (gt (am st) (sa+na+i)) (gt (am st) (sa+na-1))=af:=λi hi=>by have:=z1 i hi;rw[ez] at this;simpa[gp] using this
 have z2':∀i,nb'<=i->i<nb->blt (gt (am st) (sa+na+i)) (gt (am st) (sa+na-1))=ai:=λi i1 i2=>by have:=z2 i i1 i2;rw[ez] at this;simpa[gp] using this
 by_cases e2:nb'=0
 ·rw[aq (by simpa using e2)];refine aS (h _ stp0 (whole λi j i1 i2 j1 j2=>?_) rfl);have q:=z2' (j-(sa+na)) (by lia) (by lia);rw[show sa+na+(j-(sa+na))=j by lia] at q;exact O.le_trans (hU _ (by lia)) (hU (sa+na-1) (by lia)) (hU _ (by lia)) (s1 i (sa+na-1) i1 (by lia) (by lia)) q
 rw[av (by simpa using e2)];have ex:((am st).extract (sa+k) (sa+na)).toList=str (am st) (sa+k) (na-k):=by rw[YS];congr 1;lia
 have ey:((am st).extract (sa+na) (sa+na+nb')).toList=str (am st) (sa+na) nb':=by rw[YS];congr 1;lia
 have zx:((am st).extract (sa+k) (sa+na)).size=na-k:=by rw[xC];lia
 have zy:((am st).extract (sa+na) (sa+na+nb')).size=nb':=by rw[xC];lia
 have gx:∀i,i<na-k->gt ((am st).extract (sa+k) (sa+na)) i=gt (am st) (sa+k+i):=λi hi=>by
  have e:=lH (a:=am st) (lo:=sa+k) (i:=i) (n:=na-k) hi (by lia);rw[<-ex,hI,mR (by lia)] at e;exact cx e
 have gy:∀i,i<nb'->gt ((am st).extract (sa+na) (sa+na+nb')) i=gt (am st) (sa+na+i):=λi hi=>by
  have e:=lH (a:=am st) (lo:=sa+na) (i:=i) (n:=nb') hi (by lia);rw[<-ey,hI,mR (by lia)] at e;exact cx e
 have fin:∀(r:aw au)(st2:cm),Sim (oq st (((bh st).setIfInBounds i (sa,na+nb,pw)).eraseIdxIfInBounds (i+1))) st2->
   r.toList=mrg blt ((am st).extract (sa+k) (sa+na)).toList ((am st).extract (sa+na) (sa+na+nb')).toList->
   c8 (ax prog w) A E s (do
    modify λs=>dt s (r.toList.zipIdx.foldl (λa (p,j)=>a.setIfInBounds (sa+k+j) p) (am s))
    return (fx (<- get)).isNone) Q st2:=by
  intro r st2 sim hr;rw[ex,ey] at hr;have hlen:r.toList.length=(na-k)+nb':=by
   rw[hr,(z7 _ _).length_eq,cw,str_len (by lia),str_len (by lia)]
  have hfit:sa+k+r.toList.length<=(am st).size:=by lia
  have ear:am st2=am st:=sim.ar;refine aE (iO (aE (gL (aS ?_))));show Q (fx st2).isNone (dt st2 (put (am st2) (sa+k) r.toList));rw[sim.fl,show fx (oq st _)=ak from hF,ear];have hp:(put (am st) (sa+k) r.toList).Perm (am st):=by
   rw[tJ,A_ hfit,hlen];have sp:=VL (am st) (sa+k) (na-k) nb';rw[show sa+k+(na-k)=sa+na by lia] at sp
   conv=>rhs;rw[sp]
   rw[hr];exact(((z7 _ _).append_left _).append_right _)
  have hU':=bH hU hp;refine h _ ⟨sim.kd,sim.fl,hp,λj hj=>?_⟩ ?_ ?_
  ·show gt (put (am st) (sa+k) r.toList) j=gt (am st) j;exact wC hfit (by lia)
  ·show Srt blt (put (am st) (sa+k) r.toList) sa (sa+na+nb);have hsz':(put (am st) (sa+k) r.toList).size=(am st).size:=hp.size_eq;have e0:str (put (am st) (sa+k) r.toList) (sa+k) ((na-k)+nb')=mrg blt (str (am st) (sa+k) (na-k)) (str (am st) (sa+na) nb'):=by
    rw[<-hlen,aG0 hfit,hr]
   have ux:∀z∈str (am st) (sa+k) (na-k),U z:=λz hz=>by obtain⟨i,_,_,i3,rfl⟩:=z_ hz;exact hU i i3
   have uy:∀z∈str (am st) (sa+na) nb',U z:=λz hz=>by obtain⟨i,_,_,i3,rfl⟩:=z_ hz;exact hU i i3
   have sm:SL blt (mrg blt (str (am st) (sa+k) (na-k)) (str (am st) (sa+na) nb')):=
    YQ O _ _ ux uy (Srt.sl (s1.mono (by lia) (by lia)) (by lia)) (Srt.sl (s2.mono (ba _) (by lia)) (by lia))
   have mid:Srt blt (put (am st) (sa+k) r.toList) (sa+k) (sa+k+((na-k)+nb')):=SL.srt O hU' (by rw[e0];exact sm) (by lia);have inmid:∀j,sa+k<=j->j<sa+na+nb'->∃q,gt (put (am st) (sa+k) r.toList) j=gt (am st) q/\((sa+k<=q/\q<sa+na)\/(sa+na<=q/\q<sa+na+nb')):=by
    intro j j1 j2;have e:=lH (a:=put (am st) (sa+k) r.toList) (lo:=sa+k) (i:=j-(sa+k)) (n:=(na-k)+nb') (by lia) (by lia);rw[e0,show sa+k+(j-(sa+k))=j by lia] at e;have hm:=nK e;rcases O6.mp hm with hm|hm
    ·obtain⟨q,q1,q2,q3,q4⟩:=z_ hm;exact⟨q,q4,.inl ⟨q1,by lia⟩⟩
    ·obtain⟨q,q1,q2,q3,q4⟩:=z_ hm;exact⟨q,q4,.inr ⟨q1,q2⟩⟩
   intro i j a1 a2 a3
   -- three zones
   by_cases ci:i<sa+k
   ·have ei:gt (put (am st) (sa+k) r.toList) i=gt (am st) i:=wC hfit (by lia);by_cases cj:j<sa+k
    ·have ej:gt (put (am st) (sa+k) r.toList) j=gt (am st) j:=wC hfit (by lia);rw[ei,ej];exact s1 i j a1 a2 (by lia)
    ·have yi:=y1' (i-sa) (by lia);rw[show sa+(i-sa)=i by lia] at yi;have leB:∀q,sa+na<=q->q<sa+na+nb->blt (gt (am st) q) (gt (am st) i)=ai:=λq q1 q2=>
      O.le_trans (hU _ (by lia)) (hU _ (by lia)) (hU _ (by lia)) yi (s2 _ _ (ba _) q1 q2)
     by_cases cj2:j<sa+na+nb'
     ·obtain⟨q,eq,hq⟩:=inmid j (by lia) cj2;rw[ei,eq];rcases hq with ⟨q1,q2⟩|⟨q1,q2⟩
      ·exact s1 i q a1 (by lia) q2
      ·exact leB q q1 (by lia)
     ·have ej:gt (put (am st) (sa+k) r.toList) j=gt (am st) j:=wC hfit (by lia);rw[ei,ej];exact leB j (by lia) a3
   ·by_cases ci2:i<sa+na+nb'
    ·by_cases cj2:j<sa+na+nb'
     ·exact mid i j (by lia) a2 (by lia)
     ·have ej:gt (put (am st) (sa+k) r.toList) j=gt (am st) j:=wC hfit (by lia);obtain⟨q,eq,hq⟩:=inmid i (by lia) ci2;rw[eq,ej];rcases hq with ⟨q1,q2⟩|⟨q1,q2⟩
      ·have zj:=z2' (j-(sa+na)) (by lia) (by lia);rw[show sa+na+(j-(sa+na))=j by lia] at zj;exact O.le_trans (hU _ (by lia)) (hU (sa+na-1) (by lia)) (hU _ (by lia)) (s1 q (sa+na-1) (by lia) (by lia) (by lia)) zj
      ·exact s2 q j q1 (by lia) a3
    ·have ei:gt (put (am st) (sa+k) r.toList) i=gt (am st) i:=wC hfit (by lia);have ej:gt (put (am st) (sa+k) r.toList) j=gt (am st) j:=wC hfit (by lia);rw[ei,ej];exact s2 i j (by lia) a2 a3
  ·show bh st2=_;exact sim.pd
 have hUx:rP U ((am st).extract (sa+k) (sa+na)):=λi hi=>by rw[zx] at hi;rw[gx i hi];exact hU _ (by lia)
 have hUy:rP U ((am st).extract (sa+na) (sa+na+nb')):=λi hi=>by rw[zy] at hi;rw[gy i hi];exact hU _ (by lia)
 have hsx:Srt blt ((am st).extract (sa+k) (sa+na)) 0 ((am st).extract (sa+k) (sa+na)).size:=λi j a1 a2 a3=>by
  rw[zx] at a3;rw[gx i (by lia),gx j a3];exact s1 _ _ (by lia) (by lia) (by lia)
 have hsy:Srt blt ((am st).extract (sa+na) (sa+na+nb')) 0 ((am st).extract (sa+na) (sa+na+nb')).size:=λi j a1 a2 a3=>by
  rw[zy] at a3;rw[gy i (by lia),gy j a3];exact s2 _ _ (by lia) (by lia) (by lia)
 have hfst:blt (gt ((am st).extract (sa+na) (sa+na+nb')) 0) (gt ((am st).extract (sa+k) (sa+na)) 0)=af:=by
  rw[gx 0 (by lia),gy 0 (by lia)];exact y2' k (ba _) (by lia)
 have hlst:∀i,i<((am st).extract (sa+na) (sa+na+nb')).size->blt (gt ((am st).extract (sa+na) (sa+na+nb')) i) (gt ((am st).extract (sa+k) (sa+na)) (((am st).extract (sa+k) (sa+na)).size-1))=af:=λi hi=>by
  rw[zy] at hi;rw[zx,gx (na-k-1) (by lia),gy i hi,show sa+k+(na-k-1)=sa+na-1 by lia];exact z1' i hi
 by_cases ce:na-k<=nb'
 ·rw[aq ce];exact aE (O3 (a:=(am st).extract (sa+k) (sa+na)) (b:=(am st).extract (sa+na) (sa+na+nb')) O hL hk' hUx hUy hsx hsy (by lia) (by lia) hfst hlst fin)
 ·rw[av ce];exact aE (O5 (a:=(am st).extract (sa+k) (sa+na)) (b:=(am st).extract (sa+na) (sa+na+nb')) O hL hk' hUx hUy hsx hsy (by lia) (by lia) hfst hlst fin)
end
section
variable {blt:au->au->ap} {U:au->Prop}
def Eqv(blt:au->au->ap)(x y:au):Prop:=blt x y=ai/\blt y x=ai
theorem Eqv.aCa(O:Ord U blt){x:au}(h:U x):Eqv blt x x:=⟨O.irr x h,O.irr x h⟩
theorem Eqv.symm{x y:au}(h:Eqv blt x y):Eqv blt y x:=⟨h.2,h.1⟩
theorem Eqv.trans(O:Ord U blt){x y z:au}(hx:U x)(hy:U y)(hz:U z)(h:Eqv blt x y)(g:Eqv blt y z):Eqv blt x z:=⟨O.le_trans hz hy hx g.1 h.1,O.le_trans hx hy hz h.2 g.2⟩
def NonInc(blt:au->au->ap)(a:aw au)(lo n:ah):Prop:=∀i j,lo<=i->i<=j->j<lo+n->blt (gt a i) (gt a j)=ai
theorem aLx(a:aw au)(i:ah):gt a i=(a[i]?).getD dk:=by
 unfold gt;by_cases h:i<a.size
 ·simp[iq,h]
 ·simp[iq,h]
theorem mW{a:aw au}{i j:ah}(hj:j<=a.size)(k:ah):gt (db a i j ((j-i) / 2)) k=if i<=k/\k<j then gt a (i+j-1-k) else gt a k:=by
 rw[aLx,getElem?_mirror_all hj];split<;>rw[aLx]
theorem Stp.mir{lo hi:ah}{st st':cm}(h:Stp lo hi st st'){i j:ah}(hi':lo<=i)(hj:j<=hi)(hs:j<=(am st').size):Stp lo hi st (dt st' (db (am st') i j ((j-i) / 2))):=
 ⟨h.kd,h.fl,(jm _ _ _ _).trans h.pm,λk hk=>by
  show gt (db (am st') i j ((j-i) / 2)) k=_;rw[mW hs,av (by lia)];exact h.out k hk⟩
theorem rQ(O:Ord U blt){a:aw au}{lo x:ah}(hU:rP U a)(hx:lo+x<a.size)(h0:1<=x)(h:Srt blt a lo (lo+x))(e:blt (gt a (lo+x)) (gt a (lo+x-1))=ai):Srt blt a lo (lo+(x+1)):=λi j a1 a2 a3=>by
 by_cases c:j<lo+x
 ·exact h i j a1 a2 c
 ·obtain rfl:j=lo+x:=by lia
  by_cases d:i=lo+x
  ·rw[d];exact O.irr _ (hU _ hx)
  ·exact O.le_trans (hU _ (by lia)) (hU _ (by lia)) (hU _ hx) (h i (lo+x-1) a1 (by lia) (by lia)) e
theorem tM(O:Ord U blt){a:aw au}{lo x:ah}(hU:rP U a)(hx:lo+x<a.size)(h0:1<=x)(h:NonInc blt a lo x)(e:blt (gt a (lo+x-1)) (gt a (lo+x))=ai):NonInc blt a lo (x+1):=λi j a1 a2 a3=>by
 by_cases c:j<lo+x
 ·exact h i j a1 a2 c
 ·obtain rfl:j=lo+x:=by lia
  by_cases d:i=lo+x
  ·rw[d];exact O.irr _ (hU _ hx)
  ·exact O.le_trans (hU _ hx) (hU _ (by lia)) (hU _ (by lia)) e (h i (lo+x-1) a1 (by lia) (by lia))
theorem BJ{a:aw au}{lo m:ah}(hs:lo+m<=a.size)(h:NonInc blt a lo m):Srt blt (db a lo (lo+m) ((lo+m-lo) / 2)) lo (lo+m):=λi j a1 a2 a3=>by
 rw[mW hs,mW hs,aq (by lia),aq (by lia)];exact h _ _ (by lia) (by lia) (by lia)
theorem BK(O:Ord U blt){a:aw au}{lo m neq:ah}(hU:rP U a)(hs:lo+m<=a.size)(hq:neq+1<=m)(h:∀i,lo+m-(neq+1)<=i->i<lo+m->Eqv blt (gt a i) (gt a (lo+m-1))) :
  ∀k,k<a.size->Eqv blt (gt (db a (lo+m-(neq+1)) (lo+m) ((lo+m-(lo+m-(neq+1))) / 2)) k) (gt a k):=λk hk=>by
 rw[mW hs];by_cases c:lo+m-(neq+1)<=k/\k<lo+m
 ·rw[aq c];exact(h _ (by lia) (by lia)).trans O (hU _ (by lia)) (hU _ (by lia)) (hU _ (by lia)) (h k c.1 c.2).symm
 ·rw[av c];exact Eqv.aCa O (hU _ hk)
theorem JG(O:Ord U blt){a b:aw au}{lo n:ah}(hU:rP U a)(hV:rP U b)(hs:lo+n<=a.size)(ht:lo+n<=b.size)(h:NonInc blt a lo n)(e:∀k,k<a.size->Eqv blt (gt b k) (gt a k)):NonInc blt b lo n:=λi j a1 a2 a3=>
 O.le_trans (hV j (by lia)) (hU j (by lia)) (hV i (by lia)) (e j (by lia)).2 (O.le_trans (hU j (by lia)) (hU i (by lia)) (hV i (by lia)) (h i j a1 a2 a3) (e i (by lia)).1)
end
section
variable {prog:bn} {w:bi} {A:bw} {E:aj->ao->Prop} {s:ao} {kd:gh} {U:au->Prop} {blt:au->au->ap}
theorem wpS_ltAt(hL:VF prog w A E s kd U blt){i j:ah}{st:cm}{Q:az ap->cm->Prop}(hk:kindOf st=kd)(hU:rP U (am st))(hi:i<(am st).size)(hj:j<(am st).size)
 (h:Q (ae (blt (gt (am st) i) (gt (am st) j))) st):c8 (ax prog w) A E s (ltAt' i j) Q st:=by
 rw[ltAt'_eq];exact aE (gL (aE (bY hi (aE (bY hj (hL _ _ _ _ (hU _ hi) (hU _ hj) hk h))))))
noncomputable abbrev mrA(st3:cm)(lo m neq:ah):cm:=dt st3 (db (am st3) (lo+m-(neq+1)) (lo+m) ((lo+m-(lo+m-(neq+1))) / 2))
noncomputable abbrev mrB(st3:cm)(lo m:ah):cm:=dt st3 (db (am st3) lo (lo+m) ((lo+m-lo) / 2))
theorem wpS_countRun(O:Ord U blt)(hL:VF prog w A E s kd U blt){lo nrem:ah}{st:cm}{Q:az ah->cm->Prop}(hk:kindOf st=kd)(hU:rP U (am st))(hn:lo+nrem<=(am st).size)(h1:1<=nrem)
 (h:∀m st',Stp lo (lo+nrem) st st'->bh st'=bh st->1<=m->m<=nrem->Srt blt (am st') lo (lo+m)->Q (ae m) st'):c8 (ax prog w) A E s (countRun' lo nrem) Q st:=by
 rw[countRun'_eq];have stp0:Stp lo (lo+nrem) st st:=⟨rfl,rfl,mM _,λ_ _=>rfl⟩
 refine aE (dP (dQ
  (I:=λx c st'=>st'=st/\c=(ak,x)/\Srt blt (am st) lo (lo+x))
  (Q:=λc st'=>st'=st/\∃m,c=(ak,m)/\1<=m/\m<=nrem/\Srt blt (am st) lo (lo+m)/\(m=nrem\/(m<nrem/\blt (gt (am st) (lo+m)) (gt (am st) (lo+m-1))=af))) ?step ?fin ?init) ?post)
 case init=>exact⟨rfl,rfl,λi j a1 a2 a3=>by rw[show i=lo by lia,show j=lo by lia];exact O.irr _ (hU _ (by lia))⟩
 case fin=>
  rintro c st' ⟨rfl,rfl,q⟩;rw[show max 1 nrem=nrem by lia] at q ⊢;exact⟨rfl,nrem,rfl,h1,ba _,q,.inl rfl⟩
 case step=>
  rintro x c st' x1 x2 ⟨rfl,rfl,q⟩;dsimp only;refine aE (wpS_ltAt hL hk hU (by lia) (by lia) ?_);dsimp only;cases e:blt (gt (am st') (lo+x)) (gt (am st') (lo+x-1)) with
  |true=>
   simp only[cb];exact aS ⟨rfl,x,rfl,x1,by lia,q,.inr ⟨x2,e⟩⟩
  |false=>
   simp only[c_,b9];exact aS ⟨rfl,rfl,rQ O hU (by lia) x1 q e⟩
 case post=>
  rintro c st ⟨hst,n,rfl,n1,n2,q,hor⟩;have hst:=hst.symm;subst hst;dsimp only;by_cases hnn:n=nrem
  ·rw[aq (by simpa using hnn)];exact aS (h n _ stp0 rfl n1 n2 q)
  rw[av (by simpa using hnn)];obtain⟨n3,hlt⟩:=hor.resolve_left hnn;by_cases hgt:n > 1
  ·rw[aq hgt];refine aE (wpS_ltAt hL hk hU (by lia) (by lia) ?_);dsimp only;cases e:blt (gt (am st) lo) (gt (am st) (lo+n-1)) with
   |true=>
    simp only[cb];exact aS (h n _ stp0 rfl n1 n2 q)
   |false=>
    simp only[c_,b9];refine aE (iS ?_);have stp2:Stp lo (lo+nrem) st (dt st (db (am st) lo (lo+n) ((lo+n-lo) / 2))):=stp0.mir (ba _) (by lia) (by lia);have pd2:bh (dt st (db (am st) lo (lo+n) ((lo+n-lo) / 2)))=bh st:=rfl;have ev:∀i,lo<=i->i<lo+n->Eqv blt (gt (am st) i) (gt (am st) (lo+n-1)):=λi i1 i2=>by
     refine⟨?_,q i (lo+n-1) i1 (by lia) (by lia)⟩
     ·cases z:blt (gt (am st) i) (gt (am st) (lo+n-1)) with
      |false=>rfl
      |true=>
       rcases O.ntr _ (gt (am st) lo) _ (hU i (by lia)) (hU lo (by lia)) (hU (lo+n-1) (by lia)) z with p|p
       ·rw[q lo i (ba _) i1 i2] at p;cases p
       ·rw[e] at p;cases p
    have hm:∀k,k<(am st).size->Eqv blt (gt (db (am st) lo (lo+n) ((lo+n-lo) / 2)) k) (gt (am st) k):=λk hk'=>by
     rw[mW (by lia)];by_cases c:lo<=k/\k<lo+n
     ·rw[aq c];exact(ev _ (by lia) (by lia)).trans O (hU _ (by lia)) (hU _ (by lia)) (hU _ (by lia)) (ev k c.1 c.2).symm
     ·rw[av c];exact Eqv.aCa O (hU _ hk')
    have ni1:NonInc blt (am st) lo n:=λi j a1 a2 a3=>((ev i a1 (by lia)).trans O (hU _ (by lia)) (hU _ (by lia)) (hU _ (by lia)) (ev j (by lia) a3).symm).1
    have ni2:NonInc blt (am (dt st (db (am st) lo (lo+n) ((lo+n-lo) / 2)))) lo (n+1):=
     JG O hU (bH hU (jm _ _ _ _)) (by lia) (by show lo+(n+1)<=(db _ _ _ _).size;rw[kn];lia) (tM O hU (by lia) n1 ni1 (O.aC9 (hU _ (by lia)) (hU _ (by lia)) hlt)) hm
    refine aE (jk (jl ⟨rfl,?_⟩));refine aE (dP (dQ
     (I:=λx c st'=>∃neq,c=(ak,x,neq)/\Stp lo (lo+nrem) st st'/\bh st'=bh st/\NonInc blt (am st') lo x/\neq+1<=x/\∀i,lo+x-(neq+1)<=i->i<lo+x->Eqv blt (gt (am st') i) (gt (am st') (lo+x-1)))
     (Q:=λc st'=>∃m neq,c=(ak,m,neq)/\n+1<=m/\m<=nrem/\Stp lo (lo+nrem) st st'/\bh st'=bh st/\NonInc blt (am st') lo m/\neq+1<=m/\∀i,lo+m-(neq+1)<=i->i<lo+m->Eqv blt (gt (am st') i) (gt (am st') (lo+m-1))) ?dstep ?dfin ?dinit) ?dpost)
    case dinit=>exact⟨0,rfl,stp2,pd2,ni2,by lia,λi i1 i2=>by rw[show i=lo+(n+1)-1 by lia];exact Eqv.aCa O (bH hU stp2.pm _ (by rw[stp2.sz];lia))⟩
    case dfin=>
     rintro c st' ⟨neq,rfl,q1,q2,q3,q4,q5⟩;rw[show max (n+1) nrem=nrem by lia] at q3 q4 q5 ⊢;exact⟨nrem,neq,rfl,by lia,ba _,q1,q2,q3,q4,q5⟩
    case dstep=>
     rintro x c st' x1 x2 ⟨neq,rfl,q1,q2,q3,q4,q5⟩;dsimp only;have hUx:=bH hU q1.pm;have hzx:lo+nrem<=(am st').size:=by rw[q1.sz];lia
     refine aE (wpS_ltAt hL (q1.kd.trans hk) hUx (by lia) (by lia) ?_);dsimp only;cases e:blt (gt (am st') (lo+x)) (gt (am st') (lo+x-1)) with
     |true=>
      simp only[cb];have ni':NonInc blt (am st') lo (x+1):=tM O hUx (by lia) (by lia) q3 (O.aC9 (hUx _ (by lia)) (hUx _ (by lia)) e);by_cases hq:neq > 0
      ·rw[aq hq];refine aE (iS (aS ⟨0,rfl,q1.mir (by lia) (by lia) (by lia),q2,?_,by lia,λi i1 i2=>?_⟩))
       ·exact JG O hUx (bH hUx (jm _ _ _ _)) (by lia) (by rw[kn];lia) ni' (BK O hUx (by lia) (by lia) q5)
       ·rw[show i=lo+(x+1)-1 by lia];exact Eqv.aCa O (bH hUx (jm _ _ _ _) _ (by rw[kn];lia))
      ·rw[av hq];exact aS ⟨0,rfl,q1,q2,ni',by lia,λi i1 i2=>by rw[show i=lo+(x+1)-1 by lia];exact Eqv.aCa O (hUx _ (by lia))⟩
     |false=>
      simp only[c_,b9];refine aE (wpS_ltAt hL (q1.kd.trans hk) hUx (by lia) (by lia) ?_);dsimp only;cases e2:blt (gt (am st') (lo+x-1)) (gt (am st') (lo+x)) with
      |true=>
       simp only[cb];exact aS ⟨x,neq,rfl,x1,by lia,q1,q2,q3,q4,q5⟩
      |false=>
       simp only[c_,b9];refine aS ⟨neq+1,rfl,q1,q2,tM O hUx (by lia) (by lia) q3 e2,by lia,λi i1 i2=>?_⟩;rw[show lo+(x+1)-1=lo+x by lia];by_cases c:i=lo+x
       ·rw[c];exact Eqv.aCa O (hUx _ (by lia))
       ·exact(q5 i (by lia) (by lia)).trans O (hUx _ (by lia)) (hUx _ (by lia)) (hUx _ (by lia)) ⟨e2,e⟩
    case dpost=>
     rintro c st3 ⟨m,neq,rfl,m1,m2,q1,q2,q3,q4,q5⟩;dsimp only;have hU3:=bH hU q1.pm;have hz3:lo+nrem<=(am st3).size:=by rw[q1.sz];lia
     by_cases hq:neq > 0
     ·rw[aq hq];refine aE (iS ?_);have stp4:=q1.mir (i:=lo+m-(neq+1)) (j:=lo+m) (by lia) (by lia) (by lia);have ni4:NonInc blt (db (am st3) (lo+m-(neq+1)) (lo+m) ((lo+m-(lo+m-(neq+1))) / 2)) lo m:=
       JG O hU3 (bH hU3 (jm _ _ _ _)) (by lia) (by rw[kn];lia) q3 (BK O hU3 (by lia) (by lia) q5)
      refine aE (iS ?_);have stpA:Stp lo (lo+nrem) st (dt (mrA st3 lo m neq) (db (am (mrA st3 lo m neq)) lo (lo+m) ((lo+m-lo) / 2))):=stp4.mir (ba _) (by lia) (by rw[stp4.sz];lia);have pdA:bh (dt (mrA st3 lo m neq) (db (am (mrA st3 lo m neq)) lo (lo+m) ((lo+m-lo) / 2)))=bh st:=q2;have hsA:Srt blt (am (dt (mrA st3 lo m neq) (db (am (mrA st3 lo m neq)) lo (lo+m) ((lo+m-lo) / 2)))) lo (lo+m):=BJ (by rw[stp4.sz];lia) ni4;refine aE (dP (dQ
       (I:=λx c st'=>st'=(dt (mrA st3 lo m neq) (db (am (mrA st3 lo m neq)) lo (lo+m) ((lo+m-lo) / 2)))/\c=(ak,x)/\Srt blt (am (dt (mrA st3 lo m neq) (db (am (mrA st3 lo m neq)) lo (lo+m) ((lo+m-lo) / 2)))) lo (lo+x))
       (Q:=λc st'=>st'=(dt (mrA st3 lo m neq) (db (am (mrA st3 lo m neq)) lo (lo+m) ((lo+m-lo) / 2)))/\∃mm,c=(ak,mm)/\m<=mm/\mm<=nrem/\Srt blt (am (dt (mrA st3 lo m neq) (db (am (mrA st3 lo m neq)) lo (lo+m) ((lo+m-lo) / 2)))) lo (lo+mm)) ?stepA ?finA ?initA) ?postA)
      case initA=>exact⟨rfl,rfl,hsA⟩
      case finA=>
       rintro c st' ⟨rfl,rfl,q⟩;rw[show max m nrem=nrem by lia] at q ⊢;exact⟨rfl,nrem,rfl,by lia,ba _,q⟩
      case postA=>
       rintro c st' ⟨rfl,mm,rfl,mm1,mm2,q⟩;exact aS (h mm _ stpA pdA (by lia) mm2 q)
      case stepA=>
       rintro x c st' x1 x2 ⟨rfl,rfl,q⟩;dsimp only;refine aE (wpS_ltAt hL (stpA.kd.trans hk) (bH hU stpA.pm) (by rw[stpA.sz];lia) (by rw[stpA.sz];lia) ?_);dsimp only;cases e:blt (gt (am (dt (mrA st3 lo m neq) (db (am (mrA st3 lo m neq)) lo (lo+m) ((lo+m-lo) / 2)))) (lo+x)) (gt (am (dt (mrA st3 lo m neq) (db (am (mrA st3 lo m neq)) lo (lo+m) ((lo+m-lo) / 2)))) (lo+x-1)) with
       |true=>
        simp only[cb];exact aS ⟨rfl,x,rfl,x1,by lia,q⟩
       |false=>
        simp only[c_,b9];exact aS ⟨rfl,rfl,rQ O (bH hU stpA.pm) (by rw[stpA.sz];lia) (by lia) q e⟩
     ·rw[av hq];refine aE (iS ?_);have stpB:Stp lo (lo+nrem) st (mrB st3 lo m):=q1.mir (ba _) (by lia) (by rw[q1.sz];lia);have pdB:bh (mrB st3 lo m)=bh st:=q2;have hsB:Srt blt (am (mrB st3 lo m)) lo (lo+m):=BJ (by rw[q1.sz];lia) q3;refine aE (dP (dQ
       (I:=λx c st'=>st'=(mrB st3 lo m)/\c=(ak,x)/\Srt blt (am (mrB st3 lo m)) lo (lo+x))
       (Q:=λc st'=>st'=(mrB st3 lo m)/\∃mm,c=(ak,mm)/\m<=mm/\mm<=nrem/\Srt blt (am (mrB st3 lo m)) lo (lo+mm)) ?stepB ?finB ?initB) ?postB)
      case initB=>exact⟨rfl,rfl,hsB⟩
      case finB=>
       rintro c st' ⟨rfl,rfl,q⟩;rw[show max m nrem=nrem by lia] at q ⊢;exact⟨rfl,nrem,rfl,by lia,ba _,q⟩
      case postB=>
       rintro c st' ⟨rfl,mm,rfl,mm1,mm2,q⟩;exact aS (h mm _ stpB pdB (by lia) mm2 q)
      case stepB=>
       rintro x c st' x1 x2 ⟨rfl,rfl,q⟩;dsimp only;refine aE (wpS_ltAt hL (stpB.kd.trans hk) (bH hU stpB.pm) (by rw[stpB.sz];lia) (by rw[stpB.sz];lia) ?_);dsimp only;cases e:blt (gt (am (mrB st3 lo m)) (lo+x)) (gt (am (mrB st3 lo m)) (lo+x-1)) with
       |true=>
        simp only[cb];exact aS ⟨rfl,x,rfl,x1,by lia,q⟩
       |false=>
        simp only[c_,b9];exact aS ⟨rfl,rfl,rQ O (bH hU stpB.pm) (by rw[stpB.sz];lia) (by lia) q e⟩
  ·rw[av hgt];obtain rfl:n=1:=by lia
   have stp2:=stp0;have pd2:bh st=bh st:=rfl;have ni2:NonInc blt (am st) lo (1+1):=tM O hU (by lia) (ba _) (λi j a1 a2 a3=>by rw[show i=lo by lia,show j=lo by lia];exact O.irr _ (hU _ (by lia))) (O.aC9 (hU _ (by lia)) (hU _ (by lia)) hlt);refine aE (jk (jl ⟨rfl,?_⟩));refine aE (dP (dQ
    (I:=λx c st'=>∃neq,c=(ak,x,neq)/\Stp lo (lo+nrem) st st'/\bh st'=bh st/\NonInc blt (am st') lo x/\neq+1<=x/\∀i,lo+x-(neq+1)<=i->i<lo+x->Eqv blt (gt (am st') i) (gt (am st') (lo+x-1)))
    (Q:=λc st'=>∃m neq,c=(ak,m,neq)/\1+1<=m/\m<=nrem/\Stp lo (lo+nrem) st st'/\bh st'=bh st/\NonInc blt (am st') lo m/\neq+1<=m/\∀i,lo+m-(neq+1)<=i->i<lo+m->Eqv blt (gt (am st') i) (gt (am st') (lo+m-1))) ?dstep ?dfin ?dinit) ?dpost)
   case dinit=>exact⟨0,rfl,stp2,pd2,ni2,by lia,λi i1 i2=>by rw[show i=lo+(1+1)-1 by lia];exact Eqv.aCa O (bH hU stp2.pm _ (by rw[stp2.sz];lia))⟩
   case dfin=>
    rintro c st' ⟨neq,rfl,q1,q2,q3,q4,q5⟩;rw[show max (1+1) nrem=nrem by lia] at q3 q4 q5 ⊢;exact⟨nrem,neq,rfl,by lia,ba _,q1,q2,q3,q4,q5⟩
   case dstep=>
    rintro x c st' x1 x2 ⟨neq,rfl,q1,q2,q3,q4,q5⟩;dsimp only;have hUx:=bH hU q1.pm;have hzx:lo+nrem<=(am st').size:=by rw[q1.sz];lia
    refine aE (wpS_ltAt hL (q1.kd.trans hk) hUx (by lia) (by lia) ?_);dsimp only;cases e:blt (gt (am st') (lo+x)) (gt (am st') (lo+x-1)) with
    |true=>
     simp only[cb];have ni':NonInc blt (am st') lo (x+1):=tM O hUx (by lia) (by lia) q3 (O.aC9 (hUx _ (by lia)) (hUx _ (by lia)) e);by_cases hq:neq > 0
     ·rw[aq hq];refine aE (iS (aS ⟨0,rfl,q1.mir (by lia) (by lia) (by lia),q2,?_,by lia,λi i1 i2=>?_⟩))
      ·exact JG O hUx (bH hUx (jm _ _ _ _)) (by lia) (by rw[kn];lia) ni' (BK O hUx (by lia) (by lia) q5)
      ·rw[show i=lo+(x+1)-1 by lia];exact Eqv.aCa O (bH hUx (jm _ _ _ _) _ (by rw[kn];lia))
     ·rw[av hq];exact aS ⟨0,rfl,q1,q2,ni',by lia,λi i1 i2=>by rw[show i=lo+(x+1)-1 by lia];exact Eqv.aCa O (hUx _ (by lia))⟩
    |false=>
     simp only[c_,b9];refine aE (wpS_ltAt hL (q1.kd.trans hk) hUx (by lia) (by lia) ?_);dsimp only;cases e2:blt (gt (am st') (lo+x-1)) (gt (am st') (lo+x)) with
     |true=>
      simp only[cb];exact aS ⟨x,neq,rfl,x1,by lia,q1,q2,q3,q4,q5⟩
     |false=>
      simp only[c_,b9];refine aS ⟨neq+1,rfl,q1,q2,tM O hUx (by lia) (by lia) q3 e2,by lia,λi i1 i2=>?_⟩;rw[show lo+(x+1)-1=lo+x by lia];by_cases c:i=lo+x
      ·rw[c];exact Eqv.aCa O (hUx _ (by lia))
      ·exact(q5 i (by lia) (by lia)).trans O (hUx _ (by lia)) (hUx _ (by lia)) (hUx _ (by lia)) ⟨e2,e⟩
   case dpost=>
    rintro c st3 ⟨m,neq,rfl,m1,m2,q1,q2,q3,q4,q5⟩;dsimp only;have hU3:=bH hU q1.pm;have hz3:lo+nrem<=(am st3).size:=by rw[q1.sz];lia
    by_cases hq:neq > 0
    ·rw[aq hq];refine aE (iS ?_);have stp4:=q1.mir (i:=lo+m-(neq+1)) (j:=lo+m) (by lia) (by lia) (by lia);have ni4:NonInc blt (db (am st3) (lo+m-(neq+1)) (lo+m) ((lo+m-(lo+m-(neq+1))) / 2)) lo m:=
      JG O hU3 (bH hU3 (jm _ _ _ _)) (by lia) (by rw[kn];lia) q3 (BK O hU3 (by lia) (by lia) q5)
     refine aE (iS ?_);have stpA:Stp lo (lo+nrem) st (dt (mrA st3 lo m neq) (db (am (mrA st3 lo m neq)) lo (lo+m) ((lo+m-lo) / 2))):=stp4.mir (ba _) (by lia) (by rw[stp4.sz];lia);have pdA:bh (dt (mrA st3 lo m neq) (db (am (mrA st3 lo m neq)) lo (lo+m) ((lo+m-lo) / 2)))=bh st:=q2;have hsA:Srt blt (am (dt (mrA st3 lo m neq) (db (am (mrA st3 lo m neq)) lo (lo+m) ((lo+m-lo) / 2)))) lo (lo+m):=BJ (by rw[stp4.sz];lia) ni4;refine aE (dP (dQ
      (I:=λx c st'=>st'=(dt (mrA st3 lo m neq) (db (am (mrA st3 lo m neq)) lo (lo+m) ((lo+m-lo) / 2)))/\c=(ak,x)/\Srt blt (am (dt (mrA st3 lo m neq) (db (am (mrA st3 lo m neq)) lo (lo+m) ((lo+m-lo) / 2)))) lo (lo+x))
      (Q:=λc st'=>st'=(dt (mrA st3 lo m neq) (db (am (mrA st3 lo m neq)) lo (lo+m) ((lo+m-lo) / 2)))/\∃mm,c=(ak,mm)/\m<=mm/\mm<=nrem/\Srt blt (am (dt (mrA st3 lo m neq) (db (am (mrA st3 lo m neq)) lo (lo+m) ((lo+m-lo) / 2)))) lo (lo+mm)) ?stepA ?finA ?initA) ?postA)
     case initA=>exact⟨rfl,rfl,hsA⟩
     case finA=>
      rintro c st' ⟨rfl,rfl,q⟩;rw[show max m nrem=nrem by lia] at q ⊢;exact⟨rfl,nrem,rfl,by lia,ba _,q⟩
     case postA=>
      rintro c st' ⟨rfl,mm,rfl,mm1,mm2,q⟩;exact aS (h mm _ stpA pdA (by lia) mm2 q)
     case stepA=>
      rintro x c st' x1 x2 ⟨rfl,rfl,q⟩;dsimp only;refine aE (wpS_ltAt hL (stpA.kd.trans hk) (bH hU stpA.pm) (by rw[stpA.sz];lia) (by rw[stpA.sz];lia) ?_);dsimp only;cases e:blt (gt (am (dt (mrA st3 lo m neq) (db (am (mrA st3 lo m neq)) lo (lo+m) ((lo+m-lo) / 2)))) (lo+x)) (gt (am (dt (mrA st3 lo m neq) (db (am (mrA st3 lo m neq)) lo (lo+m) ((lo+m-lo) / 2)))) (lo+x-1)) with
      |true=>
       simp only[cb];exact aS ⟨rfl,x,rfl,x1,by lia,q⟩
      |false=>
       simp only[c_,b9];exact aS ⟨rfl,rfl,rQ O (bH hU stpA.pm) (by rw[stpA.sz];lia) (by lia) q e⟩
    ·rw[av hq];refine aE (iS ?_);have stpB:Stp lo (lo+nrem) st (mrB st3 lo m):=q1.mir (ba _) (by lia) (by rw[q1.sz];lia);have pdB:bh (mrB st3 lo m)=bh st:=q2;have hsB:Srt blt (am (mrB st3 lo m)) lo (lo+m):=BJ (by rw[q1.sz];lia) q3;refine aE (dP (dQ
      (I:=λx c st'=>st'=(mrB st3 lo m)/\c=(ak,x)/\Srt blt (am (mrB st3 lo m)) lo (lo+x))
      (Q:=λc st'=>st'=(mrB st3 lo m)/\∃mm,c=(ak,mm)/\m<=mm/\mm<=nrem/\Srt blt (am (mrB st3 lo m)) lo (lo+mm)) ?stepB ?finB ?initB) ?postB)
     case initB=>exact⟨rfl,rfl,hsB⟩
     case finB=>
      rintro c st' ⟨rfl,rfl,q⟩;rw[show max m nrem=nrem by lia] at q ⊢;exact⟨rfl,nrem,rfl,by lia,ba _,q⟩
     case postB=>
      rintro c st' ⟨rfl,mm,rfl,mm1,mm2,q⟩;exact aS (h mm _ stpB pdB (by lia) mm2 q)
     case stepB=>
      rintro x c st' x1 x2 ⟨rfl,rfl,q⟩;dsimp only;refine aE (wpS_ltAt hL (stpB.kd.trans hk) (bH hU stpB.pm) (by rw[stpB.sz];lia) (by rw[stpB.sz];lia) ?_);dsimp only;cases e:blt (gt (am (mrB st3 lo m)) (lo+x)) (gt (am (mrB st3 lo m)) (lo+x-1)) with
      |true=>
       simp only[cb];exact aS ⟨rfl,x,rfl,x1,by lia,q⟩
      |false=>
       simp only[c_,b9];exact aS ⟨rfl,rfl,rQ O (bH hU stpB.pm) (by rw[stpB.sz];lia) (by lia) q e⟩
end
section
theorem wD{a:aw au}{src d:ah}(hs:src<a.size)(hd:d<=src)(k:ah) :
  gt (ot a src d) k=if k=src-d then gt a src else if src-d<k/\k<=src then gt a (k-1) else gt a k:=by
 rw[aLx,getElem?_bubble hs d hd]
 repeat' split
 all_goals rw[aLx]
end
section
variable {prog:bn} {w:bi} {A:bw} {E:aj->ao->Prop} {s:ao} {kd:gh} {U:au->Prop} {blt:au->au->ap}
theorem wpS_binarySort(O:Ord U blt)(hL:VF prog w A E s kd U blt){lo n ok:ah}{st:cm}{Q:ap->cm->Prop}(hk:kindOf st=kd)(hU:rP U (am st))(hn:lo+n<=(am st).size)(hok:ok<=n)
 (hs:Srt blt (am st) lo (lo+ok))
 (h:∀st',Stp lo (lo+n) st st'->bh st'=bh st->Srt blt (am st') lo (lo+n)->Q af st'):c8 (ax prog w) A E s (binarySort' lo n ok) Q st:=by
 rw[binarySort'_eq];have stp0:Stp lo (lo+n) st st:=⟨rfl,rfl,mM _,λ_ _=>rfl⟩
 refine aE (dP (dQ (I:=λk c st'=>c=(ak,())/\Stp lo (lo+n) st st'/\bh st'=bh st/\Srt blt (am st') lo (lo+min k n))
  (Q:=λc st'=>c=(ak,())/\Stp lo (lo+n) st st'/\bh st'=bh st/\Srt blt (am st') lo (lo+n)) ?step ?fin ?init) ?post)
 case post=>
  rintro c st' ⟨rfl,q1,q2,q3⟩;exact aS (h st' q1 q2 q3)
 case init=>
  refine⟨rfl,stp0,rfl,λi j a1 a2 a3=>?_⟩;by_cases h1:ok=0
  ·rw[show i=j by lia];exact O.irr _ (hU _ (by lia))
  ·exact hs i j a1 a2 (by lia)
 case fin=>
  rintro c st' ⟨hc,q1,q2,q3⟩;rw[show min (max (max ok 1) n) n=n by lia] at q3;exact⟨hc,q1,q2,q3⟩
 case step=>
  rintro k c st' k1 k2 ⟨rfl,q1,q2,q3⟩;rw[show min k n=k by lia] at q3;have hU':=bH hU q1.pm;have hz:lo+n<=(am st').size:=by rw[q1.sz];exact hn
  refine aE (dP (dQ (I:=λx c st''=>st''=st'/\∃l r,c=(ak,l,r)/\l<=r/\r<=k/\r-l<=k-x/\
    (∀i,lo<=i->i<lo+l->blt (gt (am st') (lo+k)) (gt (am st') i)=ai)/\(∀i,lo+r<=i->i<lo+k->blt (gt (am st') (lo+k)) (gt (am st') i)=af))
   (Q:=λc st''=>st''=st'/\∃l r,c=(ak,l,r)/\l<=k/\
    (∀i,lo<=i->i<lo+l->blt (gt (am st') (lo+k)) (gt (am st') i)=ai)/\(∀i,lo+l<=i->i<lo+k->blt (gt (am st') (lo+k)) (gt (am st') i)=af)) ?istep ?ifin ?iinit) ?ipost)
  case iinit=>exact⟨rfl,0,k,rfl,by lia,by lia,by lia,λi i1 i2=>by lia,λi i1 i2=>by lia⟩
  case ifin=>
   rintro c st'' ⟨rfl,l,r,rfl,b1,b2,b3,b4,b5⟩;obtain rfl:l=r:=by lia
   exact⟨rfl,l,l,rfl,b2,b4,b5⟩
  case istep=>
   rintro x c st'' _ hx ⟨rfl,l,r,rfl,b1,b2,b3,b4,b5⟩;dsimp only;by_cases hge:l >= r
   ·rw[aq hge];obtain rfl:l=r:=by lia
    exact aS ⟨rfl,l,l,rfl,b2,b4,b5⟩
   ·rw[av hge];refine aE (wpS_ltAt hL (q1.kd.trans hk) hU' (by lia) (by lia) ?_);dsimp only;cases e:blt (gt (am st'') (lo+k)) (gt (am st'') (lo+(l+r) / 2)) with
    |true=>
     simp only[cb];refine aS ⟨rfl,l,(l+r) / 2,rfl,by lia,by lia,by lia,b4,λi i1 i2=>?_⟩;rcases O.ntr _ (gt (am st'') i) _ (hU' _ (by lia)) (hU' i (by lia)) (hU' _ (by lia)) e with p|p
     ·exact p
     ·rw[q3 _ i (by lia) i1 (by lia)] at p;cases p
    |false=>
     simp only[c_,b9];refine aS ⟨rfl,(l+r) / 2+1,r,rfl,by lia,by lia,by lia,λi i1 i2=>?_,b5⟩;exact O.le_trans (hU' _ (by lia)) (hU' (lo+(l+r) / 2) (by lia)) (hU' _ (by lia)) (q3 i (lo+(l+r) / 2) i1 (by lia) (by lia)) e
  case ipost=>
   rintro c st'' ⟨rfl,l,r,rfl,b1,b4,b5⟩;show c8 _ _ _ _ (moveDown' (lo+k) (lo+l) >>= λ_=>pure (tP (ak,()))) _ _;rw[moveDown'_eq];refine aE (iO (aS ⟨rfl,⟨q1.kd,q1.fl,(bubble_perm _ _ _).trans q1.pm,λj hj=>?_⟩,q2,?_⟩))
   ·show gt (ot (am st'') (lo+k) (lo+k-(lo+l))) j=_;rw[wD (by lia) (by lia),av (by lia),av (by lia)];exact q1.out j hj
   ·rw[show min (k+1) n=k+1 by lia];intro i j a1 a2 a3;show blt (gt (ot (am st'') (lo+k) (lo+k-(lo+l))) j) (gt (ot (am st'') (lo+k) (lo+k-(lo+l))) i)=ai;rw[wD (by lia) (by lia),wD (by lia) (by lia),show lo+k-(lo+k-(lo+l))=lo+l by lia]
    repeat' split
    all_goals first
     | (exfalso;lia)
     |exact O.irr _ (hU' _ (by lia))
     |exact b4 _ (by lia) (by lia)
     |exact O.aC9 (hU' _ (by lia)) (hU' _ (by lia)) (b5 _ (by lia) (by lia))
     |exact q3 _ _ (by lia) (by lia) (by lia)
end
section
variable {blt:au->au->ap}
def Runs(blt:au->au->ap)(a:aw au):aa (ah×ah×ah)->ah->ah->Prop
 |[],b,e=>b=e
 | (s,n,_)::r,b,e=>s=b/\0<n/\Srt blt a b (b+n)/\Runs blt a r (b+n) e
theorem Runs.le{a:aw au}:∀{l:aa (ah×ah×ah)}{b e:ah},Runs blt a l b e->b+l.length<=e
 |[],b,e,h=>by have:b=e:=h;simp;lia
 | (s,n,p)::r,b,e,h=>by
  obtain⟨_,h1,_,h2⟩:=h;have:=Runs.le h2;rw[ck];lia
theorem Runs.app{a:aw au}:∀{l r:aa (ah×ah×ah)}{b e:ah},Runs blt a (l++r) b e↔∃m,Runs blt a l b m/\Runs blt a r m e
 |[],r,b,e=>⟨λh=>⟨b,rfl,h⟩,λz0=>by obtain⟨m,h1,h2⟩:=z0;have:b=m:=h1;subst this;exact h2⟩
 | (s,n,p)::l,r,b,e=>by
  constructor
  ·rintro⟨h1,h2,h3,h4⟩;obtain⟨m,h5,h6⟩:=Runs.app.mp h4;exact⟨m,⟨h1,h2,h3,h5⟩,h6⟩
  ·rintro⟨m,⟨h1,h2,h3,h5⟩,h6⟩;exact⟨h1,h2,h3,Runs.app.mpr ⟨m,h5,h6⟩⟩
theorem Runs.out{a a':aw au}:∀{l:aa (ah×ah×ah)}{b e:ah},Runs blt a l b e->(∀j,b<=j->j<e->gt a' j=gt a j)->Runs blt a' l b e
 |[],b,e,h,_=>h
 | (s,n,p)::l,b,e,⟨h1,h2,h3,h4⟩,q=>by
  have:=h4.le;exact⟨h1,h2,h3.out λj j1 j2=>q j j1 (by lia),Runs.out h4 λj j1 j2=>q j (by lia) j2⟩
theorem Runs.two{a : aw au}{l1 l2 : aa (ah × ah × ah)}{sa na p sb nb q b e : ah}(h : Runs blt a (l1 ++ (sa,na,p) :: (sb,nb,q) :: l2) b e) :
  b<=sa/\sb=sa+na/\0<na/\0<nb/\sb+nb<=e/\Srt blt a sa (sa+na)/\Srt blt a sb (sb+nb):=by
 obtain⟨m,h1,h2,h3,h4,h5,h6,h7,h8⟩:=Runs.app.mp h;subst h2 h5;have e1:=h1.le;have e2:=h8.le;exact⟨by lia,rfl,h3,h6,by lia,h4,h7⟩
theorem Runs.merge{a a':aw au}{l1 l2:aa (ah×ah×ah)}{sa na p sb nb q b e:ah}(h:Runs blt a (l1++(sa,na,p)::(sb,nb,q)::l2) b e)
 (ho:∀j,j<sa\/sb+nb<=j->gt a' j=gt a j)(hs:Srt blt a' sa (sb+nb)):Runs blt a' (l1++(sa,na+nb,p)::l2) b e:=by
 obtain⟨m,h1,h2,h3,h4,h5,h6,h7,h8⟩:=Runs.app.mp h;subst h2 h5;have e1:=h1.le;have e2:=h8.le;refine Runs.app.mpr ⟨sa,h1.out λj _ j2=>ho j (by lia),rfl,by lia,?_,?_⟩
 ·rw[<-xD];exact hs
 ·rw[<-xD];exact h8.out λj j1 _=>ho j (by lia)
theorem ers{p:aw (ah×ah×ah)}{i:ah}{x y v:ah×ah×ah}{l1 l2:aa (ah×ah×ah)}(h:p.toList=l1++x::y::l2)(hi:l1.length=i) :
  ((p.setIfInBounds i v).eraseIdxIfInBounds (i+1)).toList=l1++v::l2:=by
 have hz:p.size=l1.length+(l2.length+2):=by
  have:=d6 gu h;simpa using this
 have:i+1<(p.setIfInBounds i v).size:=by rw[xA];lia
 rw[Array.eraseIdxIfInBounds,tT this,Array.toList_eraseIdx,xB,h,List.set_append_right _ _ (by lia),show i-l1.length=0 by lia,List.set_cons_zero,
  List.eraseIdx_append_of_length_le (by lia),show i+1-l1.length=1 by lia]
 rfl
theorem aJq{p:aw (ah×ah×ah)}{i:ah}(h:i+1<p.size):∃x y l1 l2,p.toList=l1++x::y::l2/\l1.length=i/\p[i]?=ae x/\p[i+1]?=ae y:=by
 refine⟨p[i],p[i+1],p.toList.take i,p.toList.drop (i+2),?_,?_,by simp,by simp⟩
 ·conv=>lhs;rw[<-mI i p.toList]
  rw[gz (by simp;lia),gz (i:=i+1) (by simp;lia)];rfl
 ·simp;lia
end
section
variable {prog:bn} {w:bi} {A:bw} {E:aj->ao->Prop} {s:ao} {kd:gh} {U:au->Prop} {blt:au->au->ap}
structure Bs(U:au->Prop)(kd:gh)(a₀:aw au)(st:cm):Prop where
 kd:kindOf st=kd
 fl:fx st=ak
 pm:(am st).Perm a₀
theorem Bs.stp{a₀:aw au}{st st':cm}{lo hi:ah}(b:Bs U kd a₀ st)(h:Stp lo hi st st'):Bs U kd a₀ st':=⟨h.kd.trans b.kd,h.fl.trans b.fl,h.pm.trans b.pm⟩
theorem BL{a:aw au}(pw:ah):∀(i:ah){l:aa (ah×ah×ah)}{b e:ah},Runs blt a l b e->Runs blt a (l.modify i λx=>(x.1,x.2.1,pw)) b e
 |_,[],_,_,h=>by
  rw[List.modify_nil];exact h
 |0,(s,n,p)::l,b,e,h=>h
 |i+1,(s,n,p)::l,b,e,⟨h1,h2,h3,h4⟩=>⟨h1,h2,h3,BL pw i h4⟩
theorem wF(O:Ord U blt)(hL:VF prog w A E s kd U blt){a₀:aw au}(hU:rP U a₀){st:cm}{e i:ah}{Q:ap->cm->Prop}(B:Bs U kd a₀ st)(he:e<=a₀.size)(R:Runs blt (am st) (bh st).toList 0 e)
 (hi:i+1<(bh st).size)
 (h:∀st',Bs U kd a₀ st'->Runs blt (am st') (bh st').toList 0 e->(bh st').size+1=(bh st).size->(∀j,e<=j->gt (am st') j=gt (am st) j)->Q af st'):c8 (ax prog w) A E s (mergeAt' i) Q st:=by
 obtain⟨⟨sa,na,p⟩,⟨sb,nb,q⟩,l1,l2,e1,e2,e3,e4⟩:=aJq hi;rw[e1] at R;obtain⟨r1,r2,r3,r4,r5,r6,r7⟩:=R.two;have hz:(am st).size=a₀.size:=B.pm.size_eq;refine O9 O hL B.kd (bH hU B.pm) B.fl e3 e4 r2 (by lia) r3 r4 r6 r7 λst' S Z P=>?_
 have P':(bh st').toList=l1++(sa,na+nb,p)::l2:=by rw[P];exact ers e1 e2
 refine h st' (B.stp S) ?_ ?_ λj hj=>S.out j (by lia)
 ·rw[P'];exact R.merge S.out Z
 ·have h1:=d6 gu P';have h2:=d6 gu e1;simp at h1 h2;lia
theorem wpS_sortRuns(O:Ord U blt)(hL:VF prog w A E s kd U blt){a₀:aw au}(hU:rP U a₀){st:cm}{Q:iz->cm->Prop}(B:Bs U kd a₀ st)(hp:bh st=#[])(hz:0<a₀.size)
 (h:∀st',Bs U kd a₀ st'->Srt blt (am st') 0 a₀.size->Q () st'):c8 (ax prog w) A E s sortRuns' Q st:=by
 have sz:∀{st':cm},Bs U kd a₀ st'->(am st').size=a₀.size:=λb=>b.pm.size_eq
 rw[sortRuns'_eq];refine aE (gL ?_);dsimp only;rw[sz B];generalize minRun' a₀.size a₀.size 0=minrun;refine aE (dP (dQ
  (I:=λx c st'=>∃lo,c=(ak,lo)/\lo<=a₀.size/\(x<=lo\/lo=a₀.size)/\Bs U kd a₀ st'/\Runs blt (am st') (bh st').toList 0 lo)
  (Q:=λc st'=>c=(ak,a₀.size)/\Bs U kd a₀ st'/\Runs blt (am st') (bh st').toList 0 a₀.size) ?step ?fin ?init) ?post)
 case init=>exact⟨0,rfl,eR _,.inl (ba _),B,by rw[hp];rfl⟩
 case fin=>
  rintro c st' ⟨lo,rfl,a1,a2,b,r⟩;obtain rfl:lo=a₀.size:=by lia
  exact⟨rfl,b,r⟩
 case step=>
  rintro x c st1 _ hx ⟨lo,rfl,a1,a2,b,r⟩;dsimp only;by_cases hge:lo >= a₀.size
  ·rw[aq hge];obtain rfl:lo=a₀.size:=by lia
   exact aS ⟨rfl,b,r⟩
  rw[av hge];refine aE (wpS_countRun O hL b.kd (bH hU b.pm) (by rw[sz b];lia) (by lia) λm st2 S2 P2 m1 m2 Z2=>?_);dsimp only;have b2:=b.stp S2;have r2:Runs blt (am st2) (bh st2).toList 0 lo:=by rw[P2];exact r.out λj _ j2=>S2.out j (.inl j2)
  have rest:∀(n:ah),1<=n->lo+n<=a₀.size->∀(st4:cm),Bs U kd a₀ st4->∀l,(bh st4).toList=l++[(lo,n,0)]->Runs blt (am st4) l 0 lo->Srt blt (am st4) lo (lo+n)->
    ∃lo',((ak,lo+n):az iz×ah)=(ak,lo')/\lo'<=a₀.size/\(x+1<=lo'\/lo'=a₀.size)/\Bs U kd a₀ st4/\Runs blt (am st4) (bh st4).toList 0 lo':=by
   intro n n1 n2 st4 b4 l e r4 z4;refine⟨lo+n,rfl,n2,?_,b4,?_⟩
   ·rcases a2 with a2|a2
    ·exact .inl (by lia)
    ·lia
   ·rw[e];exact Runs.app.mpr ⟨lo,r4,rfl,by lia,z4,rfl⟩
  by_cases hm:m<minrun
  ·rw[aq hm];refine aE (jk (jl ⟨rfl,?_⟩));refine aE (wpS_binarySort O hL b2.kd (bH hU b2.pm) (by rw[sz b2];lia) (by lia) Z2 λst3 S3 P3 Z3=>?_);simp only[mj,c_,b9];have b3:=b2.stp S3;have r3:Runs blt (am st3) (bh st3).toList 0 lo:=by rw[P3];exact r2.out λj _ j2=>S3.out j (.inl j2)
   have hmm:1<=min (a₀.size-lo) minrun/\lo+min (a₀.size-lo) minrun<=a₀.size:=⟨by lia,by lia⟩
   refine aE (gL ?_);cases hbk:(bh st3).back? with
   |none=>
    dsimp only;refine aE (iO (aS (rest (min (a₀.size-lo) minrun) (by lia) (by lia) _ ⟨b3.kd,b3.fl,b3.pm⟩ _ ?_ r3 Z3)));show((bh st3).push (lo,(min (a₀.size-lo) minrun),0)).toList=_;rw[lh]
   |some t=>
    obtain⟨s1,n1',pw1⟩:=t;dsimp only;refine aE (dP (dQ
     (I:=λy c st'=>c=(ak,())/\Bs U kd a₀ st'/\Runs blt (am st') (bh st').toList 0 lo/\∀j,lo<=j->gt (am st') j=gt (am st3) j)
     (Q:=λc st'=>c=(ak,())/\Bs U kd a₀ st'/\Runs blt (am st') (bh st').toList 0 lo/\∀j,lo<=j->gt (am st') j=gt (am st3) j) ?mstep (λc st' q=>q) ⟨rfl,b3,r3,λ_ _=>rfl⟩) ?mpost)
    case mpost=>
     rintro c st4 ⟨rfl,b4,r4,o4⟩;dsimp only;refine aE (iO (aE (iO (aS (rest (min (a₀.size-lo) minrun) (by lia) (by lia) _ ⟨b4.kd,b4.fl,b4.pm⟩ _ ?_ (BL (power' a₀.size (2*s1+n1') (2*s1+n1'+n1'+min (a₀.size-lo) minrun) a₀.size) ((bh st4).size-1) r4) (Z3.out λj j1 j2=>o4 j j1))))));show(((bh st4).modify _ _).push (lo,(min (a₀.size-lo) minrun),0)).toList=_;rw[lh,xE]
    case mstep=>
     rintro y c st4 _ hy ⟨rfl,b4,r4,o4⟩;refine aE (gL ?_);by_cases hp:(bh st4).size > 1
     ·rw[aq hp];obtain⟨t,ht⟩:∃t,(bh st4)[(bh st4).size-2]?=ae t:=⟨_,xI _ _ (by lia)⟩
      rw[ht];obtain⟨t1,t2,older⟩:=t;dsimp only;split
      ·exact aS ⟨rfl,b4,r4,o4⟩
      ·refine aE (wF O hL hU b4 (by lia) r4 (by lia) λst5 b5 r5 _ o5=>?_);simp only[mj,c_,b9];exact aS ⟨rfl,b5,r5,λj hj=>(o5 j hj).trans (o4 j hj)⟩
     ·rw[av hp];exact aS ⟨rfl,b4,r4,o4⟩
  ·rw[av hm];refine aE (gL ?_);cases hbk:(bh st2).back? with
   |none=>
    dsimp only;refine aE (iO (aS (rest m (by lia) (by lia) _ ⟨b2.kd,b2.fl,b2.pm⟩ _ ?_ r2 Z2)));show((bh st2).push (lo,m,0)).toList=_;rw[lh]
   |some t=>
    obtain⟨s1,n1',pw1⟩:=t;dsimp only;refine aE (dP (dQ
     (I:=λy c st'=>c=(ak,())/\Bs U kd a₀ st'/\Runs blt (am st') (bh st').toList 0 lo/\∀j,lo<=j->gt (am st') j=gt (am st2) j)
     (Q:=λc st'=>c=(ak,())/\Bs U kd a₀ st'/\Runs blt (am st') (bh st').toList 0 lo/\∀j,lo<=j->gt (am st') j=gt (am st2) j) ?mstep (λc st' q=>q) ⟨rfl,b2,r2,λ_ _=>rfl⟩) ?mpost)
    case mpost=>
     rintro c st4 ⟨rfl,b4,r4,o4⟩;dsimp only;refine aE (iO (aE (iO (aS (rest m (by lia) (by lia) _ ⟨b4.kd,b4.fl,b4.pm⟩ _ ?_ (BL (power' a₀.size (2*s1+n1') (2*s1+n1'+n1'+m) a₀.size) ((bh st4).size-1) r4) (Z2.out λj j1 j2=>o4 j j1))))));show(((bh st4).modify _ _).push (lo,m,0)).toList=_;rw[lh,xE]
    case mstep=>
     rintro y c st4 _ hy ⟨rfl,b4,r4,o4⟩;refine aE (gL ?_);by_cases hp:(bh st4).size > 1
     ·rw[aq hp];obtain⟨t,ht⟩:∃t,(bh st4)[(bh st4).size-2]?=ae t:=⟨_,xI _ _ (by lia)⟩
      rw[ht];obtain⟨t1,t2,older⟩:=t;dsimp only;split
      ·exact aS ⟨rfl,b4,r4,o4⟩
      ·refine aE (wF O hL hU b4 (by lia) r4 (by lia) λst5 b5 r5 _ o5=>?_);simp only[mj,c_,b9];exact aS ⟨rfl,b5,r5,λj hj=>(o5 j hj).trans (o4 j hj)⟩
     ·rw[av hp];exact aS ⟨rfl,b4,r4,o4⟩
 case post=>
  rintro c st1 ⟨rfl,b,r⟩;dsimp only;have hle:=r.le;rw[fR] at hle;refine aE (dP (dQ
   (I:=λx c st'=>c=(ak,())/\Bs U kd a₀ st'/\Runs blt (am st') (bh st').toList 0 a₀.size/\((bh st').size+x<=a₀.size\/(bh st').size<=1))
   (Q:=λc st'=>c=(ak,())/\Bs U kd a₀ st'/\Runs blt (am st') (bh st').toList 0 a₀.size/\(bh st').size<=1) ?fstep ?ffin ?finit) ?fpost)
  case finit=>exact⟨rfl,b,r,.inl (by lia)⟩
  case ffin=>
   rintro c st' ⟨rfl,q1,q2,q3⟩;exact⟨rfl,q1,q2,by lia⟩
  case fpost=>
   rintro c st' ⟨rfl,q1,q2,q3⟩;refine aS (h st' q1 ?_)
   match hl:(bh st').toList with
   |[]=>rw[hl] at q2;have:0=a₀.size:=q2;lia
   |[(s0,n0,p0)]=>
    rw[hl] at q2;obtain⟨_,_,z,e⟩:=q2;have e:0+n0=a₀.size:=e;rw[e] at z;exact z
   |_::_::_=>
    have:=d6 gu hl;rw[fR] at this;simp at this;lia
  case fstep=>
   rintro x c st4 _ hx ⟨rfl,b4,r4,o4⟩;refine aE (gL ?_);by_cases hp1:(bh st4).size<=1
   ·rw[aq hp1];exact aS ⟨rfl,b4,r4,hp1⟩
   rw[av hp1];refine aE (wF O hL hU b4 (ba _) r4 ?hi λst5 b5 r5 e5 _=>?_)
   case hi=>
    repeat' split
    all_goals lia
   simp only[mj,c_,b9];exact aS ⟨rfl,b5,r5,by lia⟩
end
end TS
namespace Mi
open PySem
inductive D where
 |uD|non|bl (b:ap)|int (i:ag)|str (x:Str)
 |tup (xs:aa D)|lst (xs:aa D)|dct (kvs:aa (D×D))|scr (xs:aa D)|fdc (kvs:aa (D×D))|cel (a:ah) (xs:aa D)|exc (c:Str) (fs:aa (Str×Str))|ins (c:Str) (fs:aa (Str×D))|adr (a:ah)|dcl (a:ah) (kvs:aa (D×D))
 deriving Inhabited
mutual
noncomputable def D.pure:D->ap
 |.tup xs=>D.aU xs
 |.lst _=>ai
 |.dct _=>ai
 |.uD=>ai
 |.scr xs=>D.aU xs
 |.fdc _=>ai
 |.cel _ _=>ai
 |.exc _ _=>ai
 |.ins _ _=>ai
 |.adr _=>ai
 |.dcl _ _=>ai
 |_=>af
noncomputable def D.aU:aa D->ap
 |[]=>af
 |x::xs=>x.pure&&D.aU xs
end
mutual
noncomputable def eqD:D->D->ap
 |.non,.non=>af
 |.bl a,.bl b=>a==b
 |.int a,.int b=>a==b
 |.bl a,.int b=>(if a then (1:ag) else 0)==b
 |.int a,.bl b=>a==(if b then (1:ag) else 0)
 |.str a,.str b=>a==b
 |.tup xs,.tup ys=>lJ xs ys
 |.lst xs,.lst ys=>lJ xs ys
 |.scr xs,.scr ys=>lJ xs ys
 |.scr xs,.lst ys=>lJ xs ys
 |.lst xs,.scr ys=>lJ xs ys
 |_,_=>ai
noncomputable def lJ:aa D->aa D->ap
 |[],[]=>af
 |x::xs,y::ys=>eqD x y&&lJ xs ys
 |_,_=>ai
end
theorem aJr(a b:ag):eqD (.int a) (.int b)=(a==b):=id rfl
theorem aJs(a b:Str):eqD (.str a) (.str b)=(a==b):=id rfl
theorem aJt(a:ag)(b:Str):eqD (.int a) (.str b)=ai:=id rfl
theorem aJu(a:Str)(b:ag):eqD (.str a) (.int b)=ai:=id rfl
theorem aJv(a b:aa D):eqD (.tup a) (.tup b)=lJ a b:=id rfl
mutual
noncomputable def D.fD:ah->D->ap
 |n+1,.tup xs=>D.bQ n xs
 |n+1,.lst xs=>D.bQ n xs
 |n+1,.scr xs=>D.bQ n xs
 |0,.tup _=>ai
 |0,.lst _=>ai
 |0,.scr _=>ai
 |_,.dct _=>ai
 |_,.uD=>ai
 |_,.fdc _=>ai
 |_,.cel _ _=>ai
 |_,.exc _ _=>ai
 |_,.ins _ _=>ai
 |_,.adr _=>ai
 |_,.dcl _ _=>ai
 |_,_=>af
noncomputable def D.bQ:ah->aa D->ap
 |_,[]=>af
 |n,x::xs=>D.fD n x&&D.bQ n xs
end
inductive eY where|lt|le|gt|ge
 deriving fg
def eY.int:eY->ag->ag->ap
 |.lt,a,b=>ϒ (a<b)|.le,a,b=>ϒ (a<=b)|.gt,a,b=>ϒ (b<a)|.ge,a,b=>ϒ (b<=a)
def eY.nat:eY->ah->ah->ap
 |.lt,a,b=>ϒ (a<b)|.le,a,b=>ϒ (a<=b)|.gt,a,b=>ϒ (b<a)|.ge,a,b=>ϒ (b<=a)
noncomputable def YT(a b:Str):ap:=ϒ (a.cps.toList<b.cps.toList)
def eY.str:eY->Str->Str->ap
 |.lt,a,b=>YT a b|.le,a,b=>!YT b a|.gt,a,b=>YT b a|.ge,a,b=>!YT a b
mutual
noncomputable def gK(o:eY):D->D->az ap
 |.int a,.int b=>ae (o.int a b)
 |.str a,.str b=>ae (o.str a b)
 |.tup xs,.tup ys=>dG o xs ys
 |.scr xs,.scr ys=>dG o xs ys
 |.lst xs,.scr ys=>dG o xs ys
 |_,_=>ak
noncomputable def dG(o:eY):aa D->aa D->az ap
 |[],ys=>ae (o.nat 0 ys.length)
 |x::xs,[]=>ae (o.nat (x::xs).length 0)
 |x::xs,y::ys=>if eqD x y then dG o xs ys else gK o x y
end
inductive Res(α:Type) where
 |ok (a:α)|err (c:Str) (as:aa D)|bad
noncomputable def Res.bind{α β:Type}:Res α->(α->Res β)->Res β
 |.ok a,f=>f a
 |.err c as,_=>.err c as
 |.bad,_=>.bad
noncomputable instance:Monad Res where
 pure:=.ok
 bind:=Res.bind
@[simp] theorem Res.aP(a:α)(f:α->Res β):((Res.ok a) >>= f)=f a:=rfl
@[simp] theorem Res.aLy(c:Str)(as:aa D)(f:α->Res β):((Res.err c as:Res α) >>= f)=.err c as:=rfl
@[simp] theorem Res.aLz(f:α->Res β):((Res.bad:Res α) >>= f)=.bad:=rfl
@[simp] theorem Res.pure_eq(a:α):(pure a:Res α)=.ok a:=rfl
theorem Res.aG2{f:α->Res β}(h:(m >>= f)=.ok b):∃a,m=.ok a/\f a=.ok b:=by
 cases m with
 |ok a=>exact⟨a,rfl,h⟩
 |err c as=>cases h
 |bad=>cases h
theorem bx{P:Prop}(h:(Res.bad:Res α)=.ok d):P:=by cases h
theorem fx0{P:Prop}(h:ai=af):P:=by cases h
theorem nx0{P:Prop}(h:(ak:az α)=ae d):P:=by cases h
noncomputable def Res.ofOpt{α:Type}:az α->Res α
 |some a=>.ok a
 |none=>.bad
@[simp] theorem Res.aIk(a:α):Res.ofOpt (ae a)=.ok a:=rfl
theorem Res.lK(h:Res.ofOpt o=.ok a):o=ae a:=by
 cases o with
 |none=>cases h
 |some b=>cases h;rfl
noncomputable def lim:ah:=1000000
inductive Bop where|add|sub|mul|fdiv|mod|pow
 deriving fg
inductive Cop where|eq|ne|ord (o:eY)|isin|lE|isN|notN
 deriving fg
noncomputable def j9(i:ag):ap:=ϒ (-(2 ^ 64)<i)&&ϒ (i<2 ^ 64)
def bB:Bop->D->D->Res D
 |.add,.int a,.int b=>.ok (.int (a+b))
 |.sub,.int a,.int b=>.ok (.int (a-b))
 |.mul,.int a,.int b=>if j9 a||j9 b then .ok (.int (a*b)) else .bad
 |.fdiv,.int a,.int b=>if ϒ (0<b)&&ϒ (b<1073741824) then .ok (.int (a / b)) else .bad
 |.mod,.int a,.int b=>if ϒ (0<b) then .ok (.int (a % b)) else .bad
 |.pow,.int a,.int b=>if ϒ (0<=b)&&ϒ (b<=1000000)&&ϒ (a.natAbs<2 ^ 64) then .ok (.int (a ^ b.toNat)) else .bad
 |.add,.str a,.str b=>if ϒ (a.length+b.length<=lim) then .ok (.str (a++b)) else .bad
 |.add,.lst a,.lst b=>if ϒ (a.length+b.length<=lim)&&D.aU a&&D.aU b then .ok (.lst (a++b)) else .bad
 |_,_,_=>.bad
def aNv:D->Res ap
 |.non=>.ok ai
 |.bl b=>.ok b
 |.int i=>.ok (i !=0)
 |.str x=>if ϒ (x.length<=lim) then .ok ((x.length:ag)!=0) else .bad
 |.tup xs=>.ok (!xs.isEmpty)
 |.lst xs=>.ok (!xs.isEmpty)
 |.dct kvs=>.ok (!kvs.isEmpty)
 |.uD=>.bad
 |.fdc _=>.bad
 |.cel _ _=>.bad
 |.exc _ _=>.bad
 |.ins _ _=>.bad
 |.adr _=>.bad
 |.dcl _ _=>.bad
 |.scr xs=>.ok (!xs.isEmpty)
def fB:D->ap
 |.int _=>af
 |.str _=>af
 |_=>ai
def keyOk:D->ap
 |.int _=>af
 |.str _=>af
 |.tup xs=>xs.all fB
 |_=>ai
noncomputable def isTup:D->ap
 |.tup _=>af
 |_=>ai
def bG:aa (D×D)->D->az D
 |[],_=>ak
 | (k,v)::r,q=>if eqD k q then ae v else bG r q
def putD:aa (D×D)->D->D->aa (D×D)
 |[],q,w=>[(q,w)]
 | (k,v)::r,q,w=>if eqD k q then (k,w)::r else (k,v)::putD r q w
def o6(kvs:aa (D×D))(k:D):ap:=keyOk k&&kvs.all (λp=>isTup p.1==isTup k)
noncomputable def aR:ah:=12
def b7:Cop->D->D->Res D
 |.eq,a,b=>if a.fD aR&&b.fD aR then .ok (.bl (eqD a b)) else .bad
 |.ne,a,b=>if a.fD aR&&b.fD aR then .ok (.bl (!eqD a b)) else .bad
 |.ord o,a,b=>if a.fD aR&&b.fD aR then (match gK o a b with|some k=>.ok (.bl k)|none=>.bad) else .bad
 |.isin,a,.tup ys=>if a.fD aR&&D.bQ aR ys then .ok (.bl (ys.any λy=>eqD y a)) else .bad
 |.isin,a,.lst ys=>if a.fD aR&&D.bQ aR ys then .ok (.bl (ys.any λy=>eqD y a)) else .bad
 |.isin,a,.dct kvs=>if o6 kvs a then .ok (.bl (bG kvs a).isSome) else .bad
 |.lE,a,.tup ys=>if a.fD aR&&D.bQ aR ys then .ok (.bl (!(ys.any λy=>eqD y a))) else .bad
 |.lE,a,.lst ys=>if a.fD aR&&D.bQ aR ys then .ok (.bl (!(ys.any λy=>eqD y a))) else .bad
 |.lE,a,.dct kvs=>if o6 kvs a then .ok (.bl (!(bG kvs a).isSome)) else .bad
 |.isN,.scr _,.non=>.bad
 |.notN,.scr _,.non=>.bad
 |.isN,.fdc _,.non=>.bad
 |.notN,.fdc _,.non=>.bad
 |.isN,.cel _ _,.non=>.bad
 |.notN,.cel _ _,.non=>.bad
 |.isN,.non,.non=>.ok (.bl af)
 |.isN,a,.non=>.ok (.bl ai)
 |.notN,.non,.non=>.ok (.bl ai)
 |.notN,a,.non=>.ok (.bl af)
 |_,_,_=>.bad
noncomputable def ixD(n:ah)(i:ag):az ah:=if 0<=i then (if i<n then ae i.toNat else ak) else if -(n:ag)<=i then ae (i+n).toNat else ak
def getD(d i:D):Res D:=
 match d,i with
 |.tup xs,.int i=>Res.ofOpt ((ixD xs.length i).bind λj=>xs[j]?)
 |.lst xs,.int i=>Res.ofOpt ((ixD xs.length i).bind λj=>xs[j]?)
 |.scr xs,.int i=>Res.ofOpt ((ixD xs.length i).bind λj=>xs[j]?)
 |.cel _ xs,.int i=>Res.ofOpt ((ixD xs.length i).bind λj=>xs[j]?)
 |.str x,.int i=>if ϒ (x.length<=lim) then Res.ofOpt (((ixD x.cps.toList.length i).bind λj=>x.cps.toList[j]?).map λc=>D.str ⟨#[c]⟩) else .bad
 |.dct kvs,k=>if keyOk k then Res.ofOpt (bG kvs k) else .bad
 |.fdc kvs,k=>if keyOk k then Res.ofOpt (bG kvs k) else .bad
 |_,_=>.bad
noncomputable def R0(n d:ah):az ag->ah
 |none=>d
 |some v=>if v<0 then (max (v+(n:ag)) 0).toNat else (min v (n:ag)).toNat
def cutD{α:Type}(xs:aa α)(lo hi:az ag):aa α:=(xs.drop (R0 xs.length 0 lo)).take (R0 xs.length xs.length hi-R0 xs.length 0 lo)
inductive Ty where|int|str|bool|list|tuple|dict
 deriving fg
def aMl:Ty->D->Res ap
 |_,.uD=>.bad
 |_,.scr _=>.bad
 |_,.fdc _=>.bad
 |_,.cel _ _=>.bad
 |_,.exc _ _=>.bad
 |_,.ins _ _=>.bad
 |_,.adr _=>.bad
 |_,.dcl _ _=>.bad
 |.int,.int _=>.ok af
 |.int,.bl _=>.ok af
 |.bool,.bl _=>.ok af
 |.str,.str _=>.ok af
 |.tuple,.tup _=>.ok af
 |.list,.lst _=>.ok af
 |.dict,.dct _=>.ok af
 |_,_=>.ok ai
mutual
noncomputable def D.plain:D->ap
 |.int _=>af
 |.str _=>af
 |.tup xs=>D.eQ xs
 |.scr xs=>D.eQ xs
 |_=>ai
noncomputable def D.eQ:aa D->ap
 |[]=>af
 |x::xs=>x.plain&&D.eQ xs
end
mutual
noncomputable def enc:D->aa ag
 |.int i=>[0,i]
 |.str x=>1::(x.cps.toList.map (λ(c:ah)=>(c:ag)+1)++[0])
 |.tup xs=>2::JK xs
 |.scr xs=>3::JK xs
 |_=>[]
noncomputable def JK:aa D->aa ag
 |[]=>[0]
 |x::xs=>1::(enc x++JK xs)
end
def dZ:D->ah
 |.int _=>1
 |.str _=>2
 |.tup (.int _::_)=>3
 |.tup (.str _::_)=>4
 |.tup (.tup _::_)=>5
 |.tup (.scr _::_)=>6
 |_=>0
def bD(xs:aa D):ap:=xs.all λa=>a.plain&&a.fD aR&&dZ a !=0&&dZ a==dZ (xs.headD .non)&&xs.all λb=>(gK .lt a b).isSome
def leE(a b:D):ap:=!ϒ (enc b<enc a)
def gM(xs:aa D):aa D:=xs.mergeSort leE
noncomputable def wG(i:ag):ap:=ϒ (-(2 ^ 62)<=i)&&ϒ (i<2 ^ 62)
noncomputable def asB:D->Res ap
 |.bl b=>.ok b
 |_=>.bad
noncomputable def asI:D->Res ag
 |.int i=>.ok i
 |_=>.bad
inductive Fl where
 |nx (ρ:aa D)|rt (d:D)|bk (ρ:aa D)|ct (ρ:aa D)
noncomputable def YW:Fl->Res D
 |.rt d=>.ok d
 |.nx _=>.ok .non
 |_=>.bad
noncomputable abbrev FE:=aa D->Res D
noncomputable abbrev FT:=aa D->Res ap
noncomputable abbrev FA:=aa D->Res (aa D)
noncomputable def jZ(i:ah):FE:=λρ=>match ρ.getD i .uD with|.uD=>.bad|d=>.ok d
noncomputable def bC(d:D):FE:=λ_=>.ok d
abbrev cA:FE:= jZ 0
abbrev dU:FE:= jZ 3
abbrev rR:FE:= jZ 8
abbrev eO:FE:= jZ 4
abbrev mH:FE:= jZ 7
abbrev fM:FE:= jZ 2
abbrev lM:FE:= jZ 6
abbrev JL:FE:= jZ 9
abbrev eE:FE:= jZ 1
abbrev eZ:FE:= jZ 5
abbrev gP:FE:= jZ 10
abbrev j_:FE:= jZ 13
abbrev lN:FE:= jZ 11
abbrev O_:FE:= jZ 12
abbrev e_:FE:= bC (.int 1)
abbrev BP:FE:= bC (.int 8)
abbrev PB:FE:= bC (.int 5)
abbrev aG3:FE:= bC (.int 64)
abbrev uU:FE:= bC (.int 2)
abbrev JM:FE:= bC (.int 128)
abbrev YX:FE:= bC (.int 26)
abbrev aG4:FE:= bC (.int 7)
abbrev dF:FE:= bC (.int 0)
abbrev aIl:FE:= bC (.int 4)
abbrev aG5:FE:= bC (.int 30)
abbrev YZ:FE:= bC (.int 10)
abbrev aMm:FE:= bC (.int 9)
abbrev aJw:FE:= bC (.int 6)
noncomputable def b2(f:D->D->Res D)(a b:FE):FE:=λρ=>do let x <- a ρ;let y <- b ρ;f x y
noncomputable def b1(f:D->Res D)(a:FE):FE:=λρ=>do let x <- a ρ;f x
def bTB(a:FE):FT:=λρ=>do let x <- a ρ;asB x
noncomputable def JN(a:FT):FT:=λρ=>do let x <- a ρ;pure (!x)
noncomputable def R1(a b:FT):FT:=λρ=>do let x <- a ρ;if x then b ρ else pure ai
noncomputable def bOr(a b:FT):FT:=λρ=>do let x <- a ρ;if x then pure af else b ρ
def Y0(a:FE):FE:=λρ=>do let x <- a ρ;let k <- asB x;pure (.bl (!k))
def BR(a b:FE):FE:=λρ=>do let x <- a ρ;let k <- asB x;if k then b ρ else pure (.bl ai)
def bCh(f g:D->D->Res D)(a b c:FE):FE:=λρ=>do let x <- a ρ;let y <- b ρ;let z <- f x y;let k <- asB z;if k then (do let u <- c ρ;g y u) else pure (.bl ai)
noncomputable def aV:FA:=λ_=>.ok []
noncomputable def aD(a:FE)(b:FA):FA:=λρ=>do let x <- a ρ;let xs <- b ρ;pure (x::xs)
def fQ(a:FA):FE:=λρ=>do let xs <- a ρ;if ϒ (xs.length<=lim) then pure (.tup xs) else .bad
def BV(a:FA):FE:=λρ=>do let xs <- a ρ;if ϒ (xs.length<=lim) then pure (.lst xs) else .bad
noncomputable def aN(f:aa D->Res D)(a:FA):FE:=λρ=>do let xs <- a ρ;f xs
def wH(a:FE):aa D->Res (az ag):=λρ=>do let x <- a ρ;let i <- asI x;pure (ae i)
noncomputable def aG6:aa D->Res (az ag):=λ_=>.ok ak
def aMn:D->Res ap
 |.dct _=>.bad
 |.scr _=>.bad
 |.fdc _=>.bad
 |d=>aNv d
def bTr(a:FE):FT:=λρ=>do let x <- a ρ;aMn x
noncomputable def aM0:D->Res D
 |.int i=>.ok (.int (-i))
 |_=>.bad
def Y4:D->az ag->az ag->Res D
 |.lst xs,lo,hi=>if D.aU xs then .ok (.lst (cutD xs lo hi)) else .bad
 |.scr xs,lo,hi=>if D.aU xs then .ok (.lst (cutD xs lo hi)) else .bad
 |.tup xs,lo,hi=>if !D.aU xs||ϒ (R0 xs.length 0 lo=0/\R0 xs.length xs.length hi=xs.length) then .bad else .ok (.tup (cutD xs lo hi))
 |_,_,_=>.bad
def aCb(a:FE)(lo hi:aa D->Res (az ag)):FE:=λρ=>do let x <- a ρ;let l <- lo ρ;let h <- hi ρ;Y4 x l h
def qQ(o:eY):aa D->Res D
 |[]=>.bad
 |x::xs=>if ((x::xs).all λa=>a.fD aR&&(x::xs).all λb=>(gK o a b).isSome) then .ok (xs.foldl (λm y=>if (gK o y m).getD ai then y else m) x) else .bad
def btD(o:eY)(ds:aa D)(i j:ah):ap:=(gK o (ds.getD i .non) (ds.getD j .non)).getD ai
def cH(o:eY):aa D->Res D
 |[.lst xs]=>qQ o xs
 |[.tup xs]=>qQ o xs
 |[a,b]=>qQ o [a,b]
 |_=>.bad
def dY:aa D->Res D
 |[.tup xs]=>.ok (.int xs.length)
 |[.lst xs]=>.ok (.int xs.length)
 |[.scr xs]=>.ok (.int xs.length)
 |[.cel _ xs]=>.ok (.int xs.length)
 |[.str x]=>if ϒ (x.length<=lim) then .ok (.int x.length) else .bad
 |_=>.bad
noncomputable def lO(kvs:aa (D×D)):aa D:=kvs.map (·.1)
def Y5:aa D->Res D
 |[.tup xs]=>if D.aU xs then .ok (.lst xs) else .bad
 |[.lst xs]=>if D.aU xs then .ok (.lst xs) else .bad
 |[.dct kvs]=>if kvs.all (λp=>!isTup p.1) then .ok (.lst (lO kvs)) else .bad
 |_=>.bad
noncomputable def uI:aa D->Res D
 |[.tup xs]=>.ok (.tup xs)
 |[.lst xs]=>.ok (.tup xs)
 |_=>.bad
def fC:aa D->Res D
 |[.lst xs]=>if bD xs then .ok (.lst (gM xs)) else .bad
 |_=>.bad
def Ty.nm:Ty->dm
 |.int=>"int" | .str=>"str" | .bool=>"bool" | .list=>"list" | .tuple=>"tuple" | .dict=>"dict"
def oW(t:Ty)(d:D):Res D:=do let k <- aMl t d;pure (.bl k)
noncomputable def cF(n:ah)(f:aa D->Res D):aa D->Res D:=λds=>if ϒ (ds.length=n) then f ds else .bad
noncomputable abbrev FI:=aa D->Res (aa D×ap)
noncomputable def o7:D->Res (aa D)
 |.lst xs=>.ok xs
 |.tup xs=>.ok xs
 |_=>.bad
def cM(a:FE)(fr:ap):FI:=λρ=>do let x <- a ρ;let xs <- o7 x;pure (xs,fr||x.pure)
def mX:aa D->Res (aa D×ap)
 |[.int n]=>if wG n then .ok ((cq n.toNat).map λ(k:ah)=>D.int (0+(k:ag)),af) else .bad
 |_=>.bad
noncomputable def oX(f:FA)(g:aa D->Res (aa D×ap)):FI:=λρ=>do let xs <- f ρ;g xs
noncomputable def R3(n:ah)(ρ:aa D):aa D:=(cq n).map λi=>ρ.getD i .uD
noncomputable def x_:D->Res (aa D):=λd=>.ok [d]
noncomputable def HJ(m:ah):D->Res (aa D)
 |.tup ds=>if ϒ (ds.length=m) then .ok ds else .bad
 |_=>.bad
def rT(n:ah)(t:D->Res (aa D))(c:FT)(f:FE)(k:ap)(ρ:aa D)(acc:aa D)(x:D):Res (aa D):=do
 let bs <- t x
 let ok <- c (R3 n ρ++bs)
 if ok then (do
  let y <- f (R3 n ρ++bs)
  if k||y.pure then pure (acc++[y]) else .bad)
 else pure acc
noncomputable def qR(g:aa D->D->Res (aa D)):aa D->aa D->Res (aa D)
 |acc,[]=>.ok acc
 |acc,x::xs=>do let a <- g acc x;qR g a xs
def d7(n:ah)(it:FI)(t:D->Res (aa D))(c:FT)(f:FE)(k:ap):FE:=λρ=>do
 let xs <- it ρ
 if ϒ (xs.1.length<=lim) then (do
  let ys <- qR (rT n t c f k ρ) [] xs.1
  pure (.lst ys)) else .bad
noncomputable def gQ:FT:=λ_=>.ok af
noncomputable abbrev FS:=aa D->Res Fl
def inner:D->ap
 |.lst xs=>D.aU xs
 |.dct kvs=>D.aU (kvs.map (·.2))
 |.cel _ xs=>D.aU xs
 |.dcl _ kvs=>D.aU (kvs.map (·.2))
 |_=>ai
noncomputable def jA:FS:=λρ=>.ok (.nx ρ)
noncomputable def bI(f g:FS):FS:=λρ=>do
 let r <- f ρ
 match r with
 |.nx ρ'=>g ρ'
 |r=>.ok r
def b8(o:ap)(i:ah)(f:FE)(k:ap):FS:=λρ=>do
 let d <- f ρ
 if (if o then k&&inner d else k||d.pure) then .ok (.nx (ρ.set i d)) else .bad
def sAl(i j:ah):FS:=λρ=>do
 let d <- jZ j ρ
 .ok (.nx (ρ.set i d))
noncomputable def sIf(c:FT)(f g:FS):FS:=λρ=>do
 let k <- c ρ
 if k then f ρ else g ρ
noncomputable def jL(f:FE)(k:ap):FS:=λρ=>do
 let d <- f ρ
 if k||d.pure then .ok (.rt d) else .bad
def yC(i:ah):FS:=λρ=>do
 let d <- jZ i ρ
 .ok (.rt d)
noncomputable def rtX:ah:=1000000
def mY(i:ah)(f:FE):FS:=λρ=>do
 let d <- f ρ
 match ρ.getD i .uD with
 |.lst xs=>if ϒ (xs.length<lim)&&d.pure then .ok (.nx (ρ.set i (.lst (xs++[d])))) else .bad
 |_=>.bad
def aJx(i:ah)(f:FE)(g:FE):FS:=λρ=>do
 let j <- f ρ
 let d <- g ρ
 match ρ.getD i .uD,j with
 |.lst xs,.int j=>if ϒ (xs.length<lim)&&d.pure&&ϒ (0<=j)&&ϒ (j<=xs.length) then .ok (.nx (ρ.set i (.lst (xs.take j.toNat++d::xs.drop j.toNat)))) else .bad
 |_,_=>.bad
def wI(i:ah)(f:FE)(g:FE):FS:=λρ=>do
 let d <- g ρ
 let k <- f ρ
 match ρ.getD i .uD with
 |.dct kvs=>if ϒ (kvs.length<lim)&&o6 kvs k&&d.pure then .ok (.nx (ρ.set i (.dct (putD kvs k d)))) else .bad
 |_=>.bad
noncomputable def tg1(i:ah):D->aa D->Res (aa D):=λd ρ=>.ok (ρ.set i d)
noncomputable def JP:aa ah->aa D->aa D->aa D
 |i::is,d::ds,ρ=>JP is ds (ρ.set i d)
 |_,_,ρ=>ρ
def tgN(is:aa ah):D->aa D->Res (aa D)
 |.tup ds,ρ=>if ϒ (ds.length=is.length) then .ok (JP is ds ρ) else .bad
 |_,_=>.bad
noncomputable def mZ(t:D->aa D->Res (aa D))(body:FS):aa D->aa D->Res Fl
 |[],ρ=>.ok (.nx ρ)
 |x::xs,ρ=>do
  let ρ1 <- t x ρ
  let r <- body ρ1
  match r with
  |.nx ρ'=>mZ t body xs ρ'
  |.ct ρ'=>mZ t body xs ρ'
  |.bk ρ'=>.ok (.nx ρ')
  |.rt d=>.ok (.rt d)
def wJ(it:FI)(t:D->aa D->Res (aa D))(body:FS):FS:=λρ=>do
 let xs <- it ρ
 if xs.2 then mZ t body xs.1 ρ else .bad
def Y6(i:ah)(t:D->aa D->Res (aa D))(body:FS):FS:=λρ=>do
 let d <- jZ i ρ
 let xs <- o7 d
 mZ t body xs ρ
def fnS(n m:ah)(f:FS):aa D->Res D:=λds=>do
 let r <- f (ds++cz (m-n) .uD)
 YW r
mutual
theorem aEg(a b:D)(h1:a.plain=af)(h2:b.plain=af)(h:eqD a b=af):a=b:=by
 cases a with
 |int i=>
  cases b with
  |int j=>rw[eq_of_beq (show(i==j)=af from h)]
  |str _=>exact fx0 h
  |tup _=>exact fx0 h
  |scr _=>exact fx0 h
  |_=>exact fx0 h2
 |str i=>
  cases b with
  |str j=>rw[eq_of_beq (show(i==j)=af from h)]
  |int _=>exact fx0 h
  |tup _=>exact fx0 h
  |scr _=>exact fx0 h
  |_=>exact fx0 h2
 |tup xs=>
  cases b with
  |tup ys=>rw[PJ xs ys h1 h2 h]
  |int _=>exact fx0 h
  |str _=>exact fx0 h
  |scr _=>exact fx0 h
  |_=>exact fx0 h2
 |scr xs=>
  cases b with
  |scr ys=>rw[PJ xs ys h1 h2 h]
  |int _=>exact fx0 h
  |str _=>exact fx0 h
  |tup _=>exact fx0 h
  |_=>exact fx0 h2
 |_=>exact fx0 h1
theorem PJ:∀(a b:aa D),D.eQ a=af->D.eQ b=af->lJ a b=af->a=b
 |[],[],_,_,_=>rfl
 |x::xs,y::ys,h1,h2,h=>by
  rw[D.eQ,bg] at h1 h2;rw[lJ,bg] at h;rw[aEg x y h1.1 h2.1 h.1,PJ xs ys h1.2 h2.2 h.2]
 |[],_::_,_,_,h=>by exact fx0 h
 |_::_,[],_,_,h=>by exact fx0 h
end
mutual
theorem R4(a:D)(h:a.plain=af):eqD a a=af:=by
 cases a with
 |int i=>exact mN i
 |str i=>exact mN i
 |tup xs=>exact wK xs h
 |scr xs=>exact wK xs h
 |_=>exact fx0 h
theorem wK:∀(a:aa D),D.eQ a=af->lJ a a=af
 |[],_=>rfl
 |x::xs,h=>by
  rw[D.eQ,bg] at h;rw[lJ,R4 x h.1,wK xs h.2];rfl
end
theorem Y7:∀(a b:aa ah)(r t:aa ag),(a.map (λ(c:ah)=>(c:ag)+1)++[0])++r=(b.map (λ(c:ah)=>(c:ag)+1)++[0])++t->a=b/\r=t
 |[],[],r,t,h=>by simpa using h
 |[],c::b,r,t,h=>by
  simp only[iL,eW,dS,br,jn] at h;lia
 |c::a,[],r,t,h=>by
  simp only[iL,eW,dS,br,jn] at h;lia
 |c::a,d::b,r,t,h=>by
  simp only[dS,br,jn] at h;obtain⟨e1,e2⟩:=Y7 a b r t h.2;exact⟨by rw[e1,show c=d by lia],e2⟩
mutual
theorem BW:∀(a b:D)(r t:aa ag),a.plain=af->b.plain=af->enc a++r=enc b++t->a=b/\r=t
 |.int i,b,r,t,_,h2,h=>by
  cases b<;>simp only[enc,D.plain,c_,dS,jn,eW] at h h2<;>try omega
  ·exact⟨by rw[h.2.1],h.2.2⟩
 |.str x,b,r,t,_,h2,h=>by
  cases b with
  |str y=>
   simp only[enc,dS,jn,true_and] at h;obtain⟨e1,e2⟩:=Y7 _ _ _ _ h;refine⟨?_,e2⟩;cases x;cases y;simp only[] at e1
   congr 2
   exact lg.mp e1
  |_=>simp[enc,D.plain] at h h2
 |.tup xs,b,r,t,h1,h2,h=>by
  cases b with
  |tup ys=>
   rw[D.plain] at h1 h2;simp only[enc,dS,jn,true_and] at h;obtain⟨e1,e2⟩:=BX xs ys r t h1 h2 h;exact⟨by rw[e1],e2⟩
  |_=>simp[enc,D.plain] at h h2
 |.scr xs,b,r,t,h1,h2,h=>by
  cases b with
  |scr ys=>
   rw[D.plain] at h1 h2;simp only[enc,dS,jn,true_and] at h;obtain⟨e1,e2⟩:=BX xs ys r t h1 h2 h;exact⟨by rw[e1],e2⟩
  |_=>simp[enc,D.plain] at h h2
 |.uD,_,_,_,h,_,_=>by simp[D.plain] at h
 |.non,_,_,_,h,_,_=>by simp[D.plain] at h
 |.bl _,_,_,_,h,_,_=>by simp[D.plain] at h
 |.lst _,_,_,_,h,_,_=>by simp[D.plain] at h
 |.dct _,_,_,_,h,_,_=>by simp[D.plain] at h
theorem BX:∀(a b:aa D)(r t:aa ag),D.eQ a=af->D.eQ b=af->JK a++r=JK b++t->a=b/\r=t
 |[],[],r,t,_,_,h=>by simpa[JK] using h
 |[],_::_,r,t,_,_,h=>by simp[JK] at h
 |_::_,[],r,t,_,_,h=>by simp[JK] at h
 |x::xs,y::ys,r,t,h1,h2,h=>by
  rw[D.eQ,bg] at h1 h2;simp only[JK,dS,jn,true_and,dg] at h;obtain⟨e1,e2⟩:=BW x y _ _ h1.1 h2.1 h;obtain⟨e3,e4⟩:=BX xs ys r t h1.2 h2.2 e2;exact⟨by rw[e1,e3],e4⟩
end
theorem aG7(h1:a.plain=af)(h2:b.plain=af)(h:enc a=enc b):a=b:=(BW a b [] [] h1 h2 (by rw[h])).1
theorem PK(p:aa ag)(r t:aa ag):p++r<p++t↔r<t:=by
 induction p with
 |nil=>rfl
 |cons x p ih=>rw[dS,dS,fy];simp[ih]
theorem aEh:∀(u v r t:aa ag),(∀z,u++z≠v)->(∀z,v++z≠u)->(u++r<v++t↔u<v)
 |[],v,_,_,h,_=>bd rfl (h v)
 |u,[],_,_,_,h=>bd rfl (h u)
 |x::u,y::v,r,t,h1,h2=>by
  rw[dS,dS,fy,fy];by_cases e:x=y
  ·subst e;have:=aEh u v r t (λz hz=>h1 z (by rw[dS,hz])) (λz hz=>h2 z (by rw[dS,hz]));simp[this]
  ·simp[e]
theorem Y8:∀(a b:aa ah),(a.map (λ(c:ah)=>(c:ag)+1)++[0]<b.map (λ(c:ah)=>(c:ag)+1)++[0])↔a<b
 |[],[]=>by simp
 |[],c::b=>by
  simp only[iL,eW,br,dS,fy,List.nil_lt_cons,iff_true]
  left;lia
 |c::a,[]=>by
  simp only[iL,eW,br,dS,fy,List.not_lt_nil,iff_false,hX,not_and];exact⟨by lia,λh=>by lia⟩
 |c::a,d::b=>by
  simp only[br,dS,fy,Y8 a b];constructor
  ·rintro(h|⟨h,k⟩)
   ·left;lia
   ·right;exact⟨by lia,k⟩
  ·rintro(h|⟨h,k⟩)
   ·left;lia
   ·right;exact⟨by lia,k⟩
mutual
theorem PL:∀(a b:D)(k:ap),a.plain=af->b.plain=af->gK .lt a b=ae k->k=ϒ (enc a<enc b)
 |.int i,.int j,k,_,_,h=>by
  rw[gK] at h;rw[<-cx h];simp[enc,eY.int,fy]
 |.str x,.str y,k,_,_,h=>by
  rw[gK] at h;rw[<-cx h];have:=Y8 x.cps.toList y.cps.toList;simp only[enc,eY.str,YT,fy,true_and];simp[this]
 |.tup xs,.tup ys,k,h1,h2,h=>by
  rw[D.plain] at h1 h2;rw[gK] at h;rw[BZ xs ys k h1 h2 h];simp[enc,fy]
 |.int _,.str _,_,_,_,h=>by exact nx0 h
 |.int _,.tup _,_,_,_,h=>by exact nx0 h
 |.int _,.uD,_,_,_,h=>by exact nx0 h
 |.int _,.scr _,_,_,_,h=>by exact nx0 h
 |.int _,.non,_,_,_,h=>by exact nx0 h
 |.int _,.bl _,_,_,_,h=>by exact nx0 h
 |.int _,.lst _,_,_,_,h=>by exact nx0 h
 |.int _,.dct _,_,_,_,h=>by exact nx0 h
 |.str _,.int _,_,_,_,h=>by exact nx0 h
 |.str _,.tup _,_,_,_,h=>by exact nx0 h
 |.str _,.uD,_,_,_,h=>by exact nx0 h
 |.str _,.scr _,_,_,_,h=>by exact nx0 h
 |.str _,.non,_,_,_,h=>by exact nx0 h
 |.str _,.bl _,_,_,_,h=>by exact nx0 h
 |.str _,.lst _,_,_,_,h=>by exact nx0 h
 |.str _,.dct _,_,_,_,h=>by exact nx0 h
 |.tup _,.int _,_,_,_,h=>by exact nx0 h
 |.tup _,.str _,_,_,_,h=>by exact nx0 h
 |.tup _,.uD,_,_,_,h=>by exact nx0 h
 |.tup _,.scr _,_,_,_,h=>by exact nx0 h
 |.tup _,.non,_,_,_,h=>by exact nx0 h
 |.tup _,.bl _,_,_,_,h=>by exact nx0 h
 |.tup _,.lst _,_,_,_,h=>by exact nx0 h
 |.tup _,.dct _,_,_,_,h=>by exact nx0 h
 |.scr xs,.scr ys,k,h1,h2,h=>by
  rw[D.plain] at h1 h2;rw[gK] at h;rw[BZ xs ys k h1 h2 h];simp[enc,fy]
 |.scr _,.int _,_,_,_,h=>by exact nx0 h
 |.scr _,.str _,_,_,_,h=>by exact nx0 h
 |.scr _,.tup _,_,_,_,h=>by exact nx0 h
 |.scr _,.uD,_,_,_,h=>by exact nx0 h
 |.scr _,.non,_,_,_,h=>by exact nx0 h
 |.scr _,.bl _,_,_,_,h=>by exact nx0 h
 |.scr _,.lst _,_,_,_,h=>by exact nx0 h
 |.scr _,.dct _,_,_,_,h=>by exact nx0 h
 |.uD,_,_,h,_,_=>by simp[D.plain] at h
 |.non,_,_,h,_,_=>by simp[D.plain] at h
 |.bl _,_,_,h,_,_=>by simp[D.plain] at h
 |.lst _,_,_,h,_,_=>by simp[D.plain] at h
 |.dct _,_,_,h,_,_=>by simp[D.plain] at h
theorem BZ:∀(a b:aa D)(k:ap),D.eQ a=af->D.eQ b=af->dG .lt a b=ae k->k=ϒ (JK a<JK b)
 |[],[],k,_,_,h=>by rw[dG] at h;rw[<-cx h];simp[JK,eY.nat]
 |[],y::ys,k,_,_,h=>by rw[dG] at h;rw[<-cx h];simp[JK,eY.nat,fy]
 |x::xs,[],k,_,_,h=>by rw[dG] at h;rw[<-cx h];simp[JK,eY.nat,fy]
 |x::xs,y::ys,k,h1,h2,h=>by
  rw[D.eQ,bg] at h1 h2;rw[dG] at h;simp only[JK,fy,true_and,xL,false_or];cases e:eqD x y with
  |true=>
   rw[e,aq rfl] at h;have:=aEg x y h1.1 h2.1 e;subst this;rw[BZ xs ys k h1.2 h2.2 h];simp[PK]
  |false=>
   rw[e,av (by simp)] at h;rw[PL x y k h1.1 h2.1 h];have hne:x≠y:=λz=>by subst z;rw[R4 x h1.1] at e;cases e
   have:=aEh (enc x) (enc y) (JK xs) (JK ys) (λz hz=>hne (BW x y z [] h1.1 h2.1 (by simpa using hz)).1) (λz hz=>hne (BW y x z [] h2.1 h1.1 (by simpa using hz)).1.symm);simp[this]
end
theorem Y9(a b c:D)(h1:leE a b=af)(h2:leE b c=af):leE a c=af:=by
 simp only[leE,ko,mP] at *;exact λh=>by
  rcases(inferInstance:Std.Trichotomous (α:=aa ag) (·<·)) with _
  exact h1 (xS (ya.mp h2) h)
theorem Y_(a b:D):(leE a b||leE b a)=af:=by
 simp only[leE,iX,ko,mP];by_cases h:enc b<enc a
 ·right;exact List.lt_asymm h
 ·left;exact h
theorem cX(ds:aa D):(gM ds).Perm ds:=List.mergeSort_perm ds leE
theorem jO(ds:aa D):(gM ds).Pairwise λa b=>leE a b=af:=List.pairwise_mergeSort (λa b c=>Y9 a b c) (λa b=>Y_ a b) ds
theorem ZC{ds es:aa D}(hp:∀d∈ds,d.plain=af)(h:ds.Perm es)(h1:ds.Pairwise λa b=>leE a b=af)(h2:es.Pairwise λa b=>leE a b=af):ds=es:=by
 refine Bz (λa b ha hb h1 h2=>?_) h1 h2 h;simp only[leE,ko,mP] at h1 h2;exact aG7 (hp a ha) (hp b (h.mem_iff.mpr hb)) (List.le_antisymm h1 h2)
open L2
class KFrag where
 K:bX
variable [KFrag]
def ZD(H:Hp)(a:al)(xs:aa V):Prop:=(∃o,H a=ae (.frz o (.lst xs)))\/
 ∃(o:bb)(its:aw aj)(n:ah),KFrag.K.lookup a=ae o/\o.cls=.type "list"/\o.dict=ak/\o.data=.seq its n/\its.size<=bj/\Vals xs its.toList
theorem ZD.sq(h:ZD H a xs)(hK:KFrag.K=K):SqL K H a xs:=by
 subst hK;rcases h with ⟨o,h⟩|h
 ·exact .inl (.inr ⟨o,h⟩)
 ·exact .inr h
def kD:Key->D
 |.inl i=>.int i
 |.inr x=>.str x
noncomputable def uV:HO->ap
 |.lst _=>af
 |.dK _=>af
 |.dT _=>af
 |_=>ai
def XO(a C:al)(dx:az al)(h:aT):Prop:=∃o,h.get? a=ae o/\o.cls=.ref C/\o.dict=dx/\∃vs,o.data=.fields vs
def XD(dx:al)(fs:aa (Str×Str))(h:aT):Prop:=∃mA,h.Ns1 dx mA/\vF mA (fs.map (·.1))/\∀f,match fs.lookup f with
 |some t=>∃tk,mA f=ae (.str t tk)
 |none=>mA f=ak
def XDs(H:Hp)(fs:aa (Str×Str)):az al->Prop
 |none=>fs=[]
 |some d=>H d=ae (.ext (XD d fs))
mutual
inductive Rep(P:al->Prop)(H:Hp):V->D->Prop
 |non:Rep P H .non .non
 |bl (b:ap):Rep P H (.bl b) (.bl b)
 |int (i:ag):Rep P H (.int i) (.int i)
 |str (x:Str):Rep P H (.str x) (.str x)
 |tup {a:al} {xs:aa V} {ds:aa D}:H a=ae (.tup xs)->bL P H xs ds->Rep P H (.ref a) (.tup ds)
 |lst {a:al} {xs:aa V} {ds:aa D}:H a=ae (.lst xs)->P a->bL P H xs ds->Rep P H (.ref a) (.lst ds)
 |cel {a:al} {xs:aa V} {ds:aa D}:H a=ae (.lst xs)->P a->bL P H xs ds->Rep P H (.ref a) (.cel a ds)
 |frz {a:al} {xs:aa V} {ds:aa D}:ZD H a xs->bL P H xs ds->Rep P H (.ref a) (.scr ds)
 |dK {a:al} {kvs:aa (Key×V)} {ds:aa (D×D)}:H a=ae (.dK kvs)->P a->kE P H kvs ds->(kvs.map (·.1)).Nodup->Rep P H (.ref a) (.dct ds)
 |dT {a:al} {kvs:aa (aa Key×V)} {ds:aa (D×D)}:H a=ae (.dT kvs)->P a->tO P H kvs ds->(kvs.map (·.1)).Nodup->Rep P H (.ref a) (.dct ds)
 |fdK {a:al} {o:bb} {kvs:aa (Key×V)} {ds:aa (D×D)}:H a=ae (.frz o (.dK kvs))->kE P H kvs ds->(kvs.map (·.1)).Nodup->Rep P H (.ref a) (.fdc ds)
 |fdT {a:al} {o:bb} {kvs:aa (aa Key×V)} {ds:aa (D×D)}:H a=ae (.frz o (.dT kvs))->tO P H kvs ds->(kvs.map (·.1)).Nodup->Rep P H (.ref a) (.fdc ds)
 |exc {a C:al} {dx:az al} {c:Str} {fs:aa (Str×Str)}:ou KFrag.K cK c=ae (ae (.ref C))->H a=ae (.ext (XO a C dx))->XDs H fs dx->Rep P H (.ref a) (.exc c fs)
 |ins {a C dx:al} {c:Str} {vs:aa (Str×V)} {fs:aa (Str×D)}:ou KFrag.K cK c=ae (ae (.ref C))->H a=ae (.ins C dx vs)->aCc P H vs fs->Rep P H (.ref a) (.ins c fs)
 |adr {a:al}:Rep P H (.ref a) (.adr a)
 |dlK {a:al} {kvs:aa (Key×V)} {ds:aa (D×D)}:H a=ae (.dK kvs)->P a->kE P H kvs ds->(kvs.map (·.1)).Nodup->Rep P H (.ref a) (.dcl a ds)
 |dlT {a:al} {kvs:aa (aa Key×V)} {ds:aa (D×D)}:H a=ae (.dT kvs)->P a->tO P H kvs ds->(kvs.map (·.1)).Nodup->Rep P H (.ref a) (.dcl a ds)
inductive aCc(P:al->Prop)(H:Hp):aa (Str×V)->aa (Str×D)->Prop
 |nil:aCc P H [] []
 |cons {f:Str} {v:V} {d:D} {r:aa (Str×V)} {ds:aa (Str×D)}:Rep P H v d->aCc P H r ds->aCc P H ((f,v)::r) ((f,d)::ds)
inductive bL(P:al->Prop)(H:Hp):aa V->aa D->Prop
 |nil:bL P H [] []
 |cons {v:V} {d:D} {vs:aa V} {ds:aa D}:Rep P H v d->bL P H vs ds->bL P H (v::vs) (d::ds)
inductive kE(P:al->Prop)(H:Hp):aa (Key×V)->aa (D×D)->Prop
 |nil:kE P H [] []
 |cons {k:Key} {v:V} {d:D} {r:aa (Key×V)} {ds:aa (D×D)}:Rep P H v d->kE P H r ds->kE P H ((k,v)::r) ((kD k,d)::ds)
inductive tO(P:al->Prop)(H:Hp):aa (aa Key×V)->aa (D×D)->Prop
 |nil:tO P H [] []
 |cons {k:aa Key} {v:V} {d:D} {r:aa (aa Key×V)} {ds:aa (D×D)}:Rep P H v d->tO P H r ds->tO P H ((k,v)::r) ((.tup (k.map kD),d)::ds)
end
def B_(P:al->Prop)(H H':Hp):Prop:=∀a o,H a=ae o->(P a\/uV o=ai)->H' a=ae o
theorem B_.same(h:b_ H H'):B_ P H H':=λa o e _=>h a o e
theorem XDs.keep{P:al->Prop}{H H':Hp}(k:B_ P H H')(q:XDs H fs dx):XDs H' fs dx:=by
 cases dx with
 |none=>exact q
 |some _=>exact k _ _ q (.inr rfl)
mutual
theorem Rep.fX{P P':al->Prop}{H H':Hp}(k:B_ P H H')(m:∀a o,H a=ae o->P a->P' a){v:V}{d:D}(q:Rep P H v d):Rep P' H' v d:=by
 cases q with
 |non=>exact .non
 |bl b=>exact .bl b
 |int i=>exact .int i
 |str x=>exact .str x
 |tup e r=>exact .tup (k _ _ e (.inr rfl)) (bL.fX k m r)
 |lst e p r=>exact .lst (k _ _ e (.inl p)) (m _ _ e p) (bL.fX k m r)
 |cel e p r=>exact .cel (k _ _ e (.inl p)) (m _ _ e p) (bL.fX k m r)
 |frz e r=>exact .frz (e.imp (λz=>z.imp λo e=>k _ _ e (.inr rfl)) id) (bL.fX k m r)
 |dK e p r n=>exact .dK (k _ _ e (.inl p)) (m _ _ e p) (kE.fX k m r) n
 |dT e p r n=>exact .dT (k _ _ e (.inl p)) (m _ _ e p) (tO.fX k m r) n
 |fdK e r n=>exact .fdK (k _ _ e (.inr rfl)) (kE.fX k m r) n
 |fdT e r n=>exact .fdT (k _ _ e (.inr rfl)) (tO.fX k m r) n
 |exc n e q=>exact .exc n (k _ _ e (.inr rfl)) (XDs.keep k q)
 |ins n e r=>exact .ins n (k _ _ e (.inr rfl)) (aCc.fX k m r)
 |adr=>exact .adr
 |dlK e p r n=>exact .dlK (k _ _ e (.inl p)) (m _ _ e p) (kE.fX k m r) n
 |dlT e p r n=>exact .dlT (k _ _ e (.inl p)) (m _ _ e p) (tO.fX k m r) n
theorem bL.fX{P P':al->Prop}{H H':Hp}(k:B_ P H H')(m:∀a o,H a=ae o->P a->P' a){v:aa V}{d:aa D}(q:bL P H v d):bL P' H' v d:=by
 cases q with
 |nil=>exact .nil
 |cons r t=>exact .cons (Rep.fX k m r) (bL.fX k m t)
theorem aCc.fX{P P':al->Prop}{H H':Hp}(k:B_ P H H')(m:∀a o,H a=ae o->P a->P' a){v:aa (Str×V)}{d:aa (Str×D)}(q:aCc P H v d):aCc P' H' v d:=by
 cases q with
 |nil=>exact .nil
 |cons r t=>exact .cons (Rep.fX k m r) (aCc.fX k m t)
theorem kE.fX{P P':al->Prop}{H H':Hp}(k:B_ P H H')(m:∀a o,H a=ae o->P a->P' a){v:aa (Key×V)}{d:aa (D×D)}(q:kE P H v d):kE P' H' v d:=by
 cases q with
 |nil=>exact .nil
 |cons r t=>exact .cons (Rep.fX k m r) (kE.fX k m t)
theorem tO.fX{P P':al->Prop}{H H':Hp}(k:B_ P H H')(m:∀a o,H a=ae o->P a->P' a){v:aa (aa Key×V)}{d:aa (D×D)}(q:tO P H v d):tO P' H' v d:=by
 cases q with
 |nil=>exact .nil
 |cons r t=>exact .cons (Rep.fX k m r) (tO.fX k m t)
end
theorem Rep.keep(k:B_ P H H')(m:∀a,P a->P' a)(q:Rep P H v d):Rep P' H' v d:=q.fX k λa _ _=>m a
theorem bL.keep(k:B_ P H H')(m:∀a,P a->P' a)(q:bL P H v d):bL P' H' v d:=q.fX k λa _ _=>m a
theorem kE.keep(k:B_ P H H')(m:∀a,P a->P' a)(q:kE P H v d):kE P' H' v d:=q.fX k λa _ _=>m a
theorem tO.keep(k:B_ P H H')(m:∀a,P a->P' a)(q:tO P H v d):tO P' H' v d:=q.fX k λa _ _=>m a
theorem Rep.mono(r:Rep P H v d)(m:∀a,P a->P' a):Rep P' H v d:=r.keep (λ_ _ e _=>e) m
theorem bL.mono(r:bL P H v d)(m:∀a,P a->P' a):bL P' H v d:=r.keep (λ_ _ e _=>e) m
theorem Rep.same(r:Rep P H v d)(s:b_ H H'):Rep P H' v d:=r.keep (.same s) λ_ h=>h
theorem bL.same(r:bL P H v d)(s:b_ H H'):bL P H' v d:=r.keep (.same s) λ_ h=>h
noncomputable def aG8:HO->ap
 |.tup _=>ai
 |.frz _ (.lst _)=>ai
 |_=>af
mutual
theorem Rep.JQ{P P':al->Prop}{H H':Hp}(k:∀a o,H a=ae o->aG8 o=ai->H' a=ae o){v:V}{d:D}(q:Rep P H v d)(h:d.pure=af):Rep P' H' v d:=by
 cases q with
 |non=>exact .non
 |bl b=>exact .bl b
 |int i=>exact .int i
 |str x=>exact .str x
 |tup e r=>exact .tup (k _ _ e rfl) (bL.JQ k r h)
 |frz e r=>exact .frz (e.imp (λz=>z.imp λo e=>k _ _ e rfl) id) (bL.JQ k r h)
 |_=>exact fx0 h
theorem bL.JQ{P P':al->Prop}{H H':Hp}(k:∀a o,H a=ae o->aG8 o=ai->H' a=ae o){v:aa V}{d:aa D}(q:bL P H v d)(h:D.aU d=af):bL P' H' v d:=by
 cases q with
 |nil=>exact .nil
 |cons r t=>
  rw[D.aU,bg] at h;exact .cons (Rep.JQ k r h.1) (bL.JQ k t h.2)
end
theorem Rep.bU(r:Rep P H v d)(h:d.pure=af):Rep P' H v d:=r.JQ (λ_ _ e _=>e) h
theorem bL.bU(r:bL P H v d)(h:D.aU d=af):bL P' H v d:=r.JQ (λ_ _ e _=>e) h
theorem bL.length:∀{v:aa V}{d:aa D},bL P H v d->v.length=d.length
 |_,_,.nil=>rfl
 |_,_,.cons _ t=>by rw[ck,ck,bL.length t]
theorem bL.get:∀{vs:aa V}{ds:aa D}{i:ah}{d:D},bL P H vs ds->ds[i]?=ae d->∃v,vs[i]?=ae v/\Rep P H v d
 |_,_,_,_,.nil,e=>by simp at e
 |_,_,0,_,.cons r _,e=>by simp at e;subst e;exact⟨_,rfl,r⟩
 |_,_,i+1,d,.cons _ t,e=>by
  obtain⟨v,h1,h2⟩:=bL.get t (by simpa using e);exact⟨v,by simpa using h1,h2⟩
theorem bL.append:∀{vs ws:aa V}{ds es:aa D},bL P H vs ds->bL P H ws es->bL P H (vs++ws) (ds++es)
 |_,_,_,_,.nil,s=>s
 |_,_,_,_,.cons r t,s=>.cons r (bL.append t s)
theorem bL.take:∀{vs:aa V}{ds:aa D}(n:ah),bL P H vs ds->bL P H (vs.take n) (ds.take n)
 |_,_,0,_=>.nil
 |_,_,_+1,.nil=>.nil
 |_,_,n+1,.cons r t=>.cons r (bL.take n t)
theorem bL.drop:∀{vs:aa V}{ds:aa D}(n:ah),bL P H vs ds->bL P H (vs.drop n) (ds.drop n)
 |_,_,0,r=>r
 |_,_,_+1,.nil=>.nil
 |_,_,n+1,.cons _ t=>bL.drop n t
theorem bL.snoc(t:bL P H vs ds)(r:Rep P H v d):bL P H (vs++[v]) (ds++[d]):=t.append (.cons r .nil)
theorem Rep.uD:¬Rep P H v .uD:=λh=>by cases h
abbrev All:al->Prop:=λ_=>ik
abbrev New(H:Hp):al->Prop:=λa=>H a=ak
theorem Rep.all(r:Rep P H v d):Rep All H v d:=r.mono λ_ _=>trivial
theorem bL.all(r:bL P H v d):bL All H v d:=r.mono λ_ _=>trivial
theorem b_.new(s:b_ H H'):∀a,New H' a->New H a:=λa h=>s.free h
theorem b_.upd(h:H a=ak):b_ H (upd H a o):=λb u e=>by rw[aX (dI e h)];exact e
def ER(H:Hp)(σ:St)(ρ:aa D):Prop:=∀i,ρ.getD i .uD≠.uD->∃v,σ[i]?=ae (ae v)/\Rep All H v (ρ.getD i .uD)
theorem ER.same(e:ER H σ ρ)(s:b_ H H'):ER H' σ ρ:=λi h=>by
 obtain⟨v,h1,h2⟩:=e i h;exact⟨v,h1,h2.same s⟩
theorem PE.imp(h:PE X e t)(i:∀σ H Q,t' σ H Q->t σ H Q):PE X e t':=λΨ s σ H Q I q=>h Ψ s σ H Q I (i σ H Q q)
theorem PT.imp(h:PT X e t)(i:∀σ H Q,t' σ H Q->t σ H Q):PT X e t':=λΨ s σ H Q I q=>h Ψ s σ H Q I (i σ H Q q)
theorem PA.imp(h:PA X e t)(i:∀σ H Q,t' σ H Q->t σ H Q):PA X e t':=λpos Ψ s σ H Q I q=>h pos Ψ s σ H Q I (i σ H Q q)
theorem Rep.dom(r:Rep P H v d):Rep (λa=>P a/\H a≠ak) H v d:=r.fX (λ_ _ e _=>e) λa o e p=>⟨p,by rw[e];simp⟩
theorem Rep.VM(r:Rep P H v d)(k:B_ P H H')(m:∀a o,H a=ae o->P a->P' a):Rep P' H' v d:=r.fX k m
def aOu(P:al->Prop)(H:Hp)(v:V):D->Prop
 |.non=>v=.non
 |.bl b=>v=.bl b
 |.int i=>v=.int i
 |.str x=>v=.str x
 |.tup ds=>∃a xs,v=.ref a/\H a=ae (.tup xs)/\bL P H xs ds
 |.lst ds=>∃a xs,v=.ref a/\H a=ae (.lst xs)/\P a/\bL P H xs ds
 |.cel b ds=>∃xs,v=.ref b/\H b=ae (.lst xs)/\P b/\bL P H xs ds
 |.scr ds=>∃a xs,v=.ref a/\ZD H a xs/\bL P H xs ds
 |.ins c fs=>∃a C dx vs,v=.ref a/\ou KFrag.K cK c=ae (ae (.ref C))/\H a=ae (.ins C dx vs)/\aCc P H vs fs
 |.exc c fs=>∃a C dx,v=.ref a/\ou KFrag.K cK c=ae (ae (.ref C))/\H a=ae (.ext (XO a C dx))/\XDs H fs dx
 |.uD=>cy
 |.adr b=>v=.ref b
 |.dcl b ds=>v=.ref b/\Rep P H v (.dct ds)
 |_=>ik
theorem Rep.inv(r:Rep P H v d):aOu P H v d:=by
 cases r with
 |non=>rfl
 |bl=>rfl
 |int=>rfl
 |str=>rfl
 |tup e r=>exact⟨_,_,rfl,e,r⟩
 |lst e p r=>exact⟨_,_,rfl,e,p,r⟩
 |cel e p r=>exact⟨_,rfl,e,p,r⟩
 |frz e r=>exact⟨_,_,rfl,e,r⟩
 |ins n e r=>exact⟨_,_,_,_,rfl,n,e,r⟩
 |exc n e r=>exact⟨_,_,_,rfl,n,e,r⟩
 |adr=>rfl
 |dlK e p r n=>exact⟨rfl,.dK e p r n⟩
 |dlT e p r n=>exact⟨rfl,.dT e p r n⟩
 |_=>trivial
end Mi
open Mi.D renaming int->δ,aU->θ,bQ->μ,str->ν,lst->ξ,plain->ο,bl->π
open Mi.Res renaming aP->ε,ok->τ,ofOpt->ι
namespace L2
open PySem PySem.Spec PyProof.Rows
noncomputable def h_(own:aa Str)(x:Str):Str:=if own.contains x then x++(" " : Str) else x
def clF(env:dw):aa (Str×im)->aa (Str×al)->aa (Str×al)
 |[],acc=>acc
 | (n,k)::r,acc=>clF env r (if k==.free then (n,(env.cells.lookup n).getD 0)::acc else acc)
theorem tQ:∀(names:aa (Str×im))(acc:aa (Str×al)),(∀y∈names,y.2=.free->∃c,env.cells.lookup y.1=ae c)->
  (forIn names acc λx cs=>(match x with
   | (name,kind)=>if (kind==.free)=af then cellOf env name >>= λc=>pure (tP ((name,c)::cs)) else pure (tP cs):eg (ForInStep (aa (Str×al)))))=(pure (clF env names acc):eg _)
 |[],acc,_=>by rw[yb];rfl
 | (n,k)::r,acc,h=>by
  rw[List.forIn_cons];by_cases hk:(k==.free)=af
  ·have hk':k=.free:=by simpa using hk
   obtain⟨c,e⟩:=h (n,k) (bu ..) hk';have e':cellOf env n=pure c:=by
    unfold cellOf;have e2:env.cells.lookup n=ae c:=e;rw[e2]
   dsimp only;rw[aq hk,e',pure_bind,pure_bind];dsimp only;rw[tQ r _ λy hy=>h y (bq _ hy)];have e2:env.cells.lookup n=ae c:=e;simp only[clF,hk,cb,e2,ov]
  ·dsimp only;rw[av hk,pure_bind];dsimp only;rw[tQ r _ λy hy=>h y (bq _ hy)];simp only[clF,hk,c_,b9]
theorem VN(h:∀y∈scope.names,y.2=.free->∃c,env.cells.lookup y.1=ae c):closureFor scope env=pure (clF env scope.names []):=by
 unfold closureFor;have:=tQ scope.names [] h;simp only[bind_pure] at *;exact this
theorem PN:∀{names:aa (Str×im)}{acc:aa (Str×al)}{x:Str}{c:al},(∀y∈names,y.2=.free->∃c,env.cells.lookup y.1=ae c)->(∀x c,acc.lookup x=ae c->env.cells.lookup x=ae c)->
  (clF env names acc).lookup x=ae c->env.cells.lookup x=ae c
 |[],acc,x,c,_,h,e=>h x c e
 | (n,k)::r,acc,x,c,q,h,e=>by
  unfold clF at e;refine PN (λy hy=>q y (bq _ hy)) (λy d hy=>?_) e;by_cases hk:(k==.free)=af
  ·rw[aq hk,i0] at hy;obtain⟨c',e'⟩:=q (n,k) (bu ..) (by simpa using hk);have e2:env.cells.lookup n=ae c':=e';cases hyn:y==n with
   |true=>
    rw[hyn] at hy;have:y=n:=by simpa using hyn
    subst this;rw[e2] at hy;simp only[ov] at hy;rw[e2];exact hy
   |false=>rw[hyn] at hy;exact h y d hy
  ·rw[av hk] at hy;exact h y d hy
theorem ZF:∀{names:aa (Str×im)}{acc:aa (Str×al)}{x:Str},(∃c,acc.lookup x=ae c)->∃c,(clF env names acc).lookup x=ae c
 |[],_,_,h=>h
 | (n,k)::r,acc,x,⟨c,h⟩=>by
  unfold clF;refine ZF ?_;by_cases hk:(k==.free)=af
  ·rw[aq hk,i0];cases x==n with
   |true=>exact⟨_,rfl⟩
   |false=>exact⟨c,h⟩
  ·rw[av hk];exact⟨c,h⟩
theorem PP:∀{names:aa (Str×im)}{acc:aa (Str×al)}{x:Str},(x,jo)∈names->∃c,(clF env names acc).lookup x=ae c
 | (n,k)::r,acc,x,h=>by
  unfold clF;rcases bm.mp h with e|h
  ·cases e;refine ZF ?_;rw[aq (by decide),i0];simp
  ·exact PP h
structure dJ(N:aa Str)(sc scope:fq)(own:aa Str):Prop where
 kind:scope.kind=.function
 nocell:∀y∈scope.names,y.2≠.cell
 names:∀y∈scope.names,y.2=.local->scope.names.lookup y.1=ae .local
 free:∀y∈scope.names,y.2=.free->sc.names.lookup y.1=ae .cell\/sc.names.lookup y.1=ae .free
 ownl:∀x∈own,scope.names.lookup x=ae .local
 hid:∀x∈own,scope.names.lookup (x++(" " : Str))=ak
 loc:∀y∈scope.names,y.2=.local->y.1∈own\/y.1∉N
structure c7(X X':Cx)(scope:fq)(own:aa Str):Prop where
 prog:X'.prog=X.prog
 w:X'.w=X.w
 K:X'.K=X.K
 mg:X'.mg=X.mg
 base:X'.base=X.base
 A:X'.A=X.A
 N:X'.N=X.N.map (h_ own)++own
 scope:X'.env.scope=ir scope X.env
 calm:X'.calm=X.calm
 xe:X'.xe=λ_ _=>cy
def R5(X:Cx)(scope:fq)(cl:aa (Str×al))(C:al)(own:aa Str)(s₂:ao)(H₂:Hp)(fp:aa al):Cx:=
 {X with N:=X.N.map (h_ own)++own,s₀:=s₂,H₀:=H₂,env:=compEnvC scope cl C X.env,outer:=X.stack,stack:=X.stack,ex:=fp,fn:=λ_=>ai,pn:=[],xe:=λ_ _=>cy}
theorem ZG:c7 X (R5 X scope cl C own s₂ H₂ fp) scope own:=
 ⟨rfl,rfl,rfl,rfl,rfl,rfl,rfl,rfl,rfl,rfl⟩
def Ext(σ σ2:St):Prop:=σ2.length=σ.length/\∀(i:ah) v,σ[i]?=ae (ae v)->σ2[i]?=ae (ae v)
def PQ(wi:TI)(g:TG)(tc:TT)(te:TE)(m:ah):TE:=λσ H Q=>wi σ H λJ H1=>∀p,H1 p=ak->
 ∃W:ah->ah->aa V->Hp->Prop,(∃n,W 0 n [] (upd H1 p (.lst [])))/\∀i n ys H,W i n ys H->H p=ae (.lst ys)/\((J.stop i H/\Q (.ref p) H)\/(J.go i H/\ys.length<bj/\
  ∀x H2,J.yld i H x H2->g x (σ++cz m ak) H2 λσ2 H3=>Ext (σ++cz m ak) σ2/\tc σ2 H3 λb H4=>if b=af then te σ2 H4 λy H5=>H5 p=ae (.lst ys)/\∃n',n'<n/\W (i+1) n' (ys++[y]) (upd H5 p (.lst (ys++[y])))
   else ∃n',n'<n/\W (i+1) n' ys H4))
section
theorem Inv.comp(I:Inv X Ψ σ H2 s2)(S:dJ X.N X.env.scope scope own)(hf:∀b∈fp,W2 X Ψ H2 b)
 (hfx:∀b∈fp,b<s2.heap.objs.size)(hns:h1.Ns (s2.heap.objs.size+1) (λ_=>ak))
 (hk:∀b o,s2.heap.get? b=ae o->h1.get? b=ae o)(hacc:h1.get? s2.heap.objs.size=ae {cls:=.type "list",data:=.seq #[]}) :
  Inv (R5 X scope (clF X.env scope.names []) (s2.heap.objs.size+1) own s2 H2 fp) [] (σ++cz own.length ak) (upd H2 s2.heap.objs.size (.lst [])) {s2 with heap:=h1,toks:=t1}:=by
 have hD:H2 s2.heap.objs.size=ak:=I.hok.fresh (ba _);have hC:H2 (s2.heap.objs.size+1)=ak:=I.hok.fresh (iu _);have cells:∀y∈scope.names,y.2=.free->∃c,X.env.cells.lookup y.1=ae c:=λy hy hk=>I.ok.has y.1 (S.free y hy hk)
 have sub:∀x c,(clF X.env scope.names []).lookup x=ae c->X.env.cells.lookup x=ae c:=λx c e=>PN cells (λ_ _ h=>by simp at h) e
 have relk:∀x,(ir scope X.env).names.lookup x=ae .cell\/(ir scope X.env).names.lookup x=ae .free->(x,jo)∈scope.names:=by
  intro x hx;have go:∀(l:aa (Str×im)),(∀y∈l,y.2≠.cell)->((l.map λ(n,k)=>if (k==jo&&X.env.scope.kind==.function&&X.env.kindOf n==ae .cell) then (n,t0) else (n,k)).lookup x=ae .cell\/(l.map λ(n,k)=>if (k==jo&&X.env.scope.kind==.function&&X.env.kindOf n==ae .cell) then (n,t0) else (n,k)).lookup x=ae .free)->(x,jo)∈l:=by
   intro l;induction l with
   |nil=>intro _ h;rcases h with h|h<;>simp at h
   |cons p l ih=>
    obtain⟨n,k⟩:=p;intro nc h;rw[br] at h;dsimp only at h;by_cases hc:(k==jo&&X.env.scope.kind==.function&&X.env.kindOf n==ae .cell)=af
    ·rw[aq hc] at h;rw[i0] at h;cases e:x==n with
     |true=>
      have:x=n:=by simpa using e
      subst this;simp only[bg] at hc;have:k=.free:=by simpa using hc.1.1
      subst this;exact bu ..
     |false=>
      rw[e] at h;exact bq _ (ih (λy hy=>nc y (bq _ hy)) h)
    ·rw[av hc] at h;rw[i0] at h;cases e:x==n with
     |true=>
      have:x=n:=by simpa using e
      subst this;rw[e] at h;dsimp only at h;rcases h with h|h
      ·exact bd (cx h) (nc (x,k) (bu ..))
      ·have:=cx h;subst this;exact bu ..
     |false=>
      rw[e] at h;exact bq _ (ih (λy hy=>nc y (bq _ hy)) h)
  exact go scope.names S.nocell hx
 have hne:s2.heap.objs.size≠s2.heap.objs.size+1:=c9 (jq _);have hlt:∀b o,s2.heap.get? b=ae o->b<s2.heap.objs.size:=λb o e=>bS e
 have hstk:∀b∈frs X.stack,b<s2.heap.objs.size:=λb hb=>by
  obtain⟨_,o,ho,_⟩:=I.stack.mem hb;exact hlt b o ho
 refine⟨⟨I.mod,?_,I.ok.glob,I.ok.blt,iu _,λx y c e1 e2=>I.ok.inj x y c (sub x c e1) (sub y c e2),λx hx=>?_,λ_ _ h=>(by cases h),I.ok.hd,I.ok.frames,.inl rfl,λb hb=>?_,λb o e=>I.bs b o e,?_,λb o e hb=>?_,λb hb hz=>?_,I.stack,I.W_⟩,
  rfl,I.bare,Un.laid hk (ba _) hD,?_,λx c e=>?_,?_,λx c e=>?_,λp hp=>(by simp[R5] at hp),?_,?_⟩
 ·exact S.kind
 ·have hx':(ir scope X.env).names.lookup x=ae .cell\/(ir scope X.env).names.lookup x=ae .free:=hx;exact PP (relk x hx')
 ·refine⟨c9 (ic (hfx b hb)),λx c e z=>?_⟩;exact(hf b hb).2.2.2.2.1 x c (sub x c e) z
 ·exact dn I.ok.bsz I.sz
 ·rcases(hf b hb).2.2.2.1 with z|z
  ·exact I.ok.noex b o e z
  ·exact bd (em (bS e) (dn I.ok.bsz z)) (fj _)
 ·rcases bm.mp (I.RL b hz) with z'|z'
  ·exact(hf b hb).2.1 z'
  ·exact(hf b hb).2.2.1 z'
 ·refine⟨_,hns,λi x v e1 e2 e3=>?_⟩;have hi:i<σ.length:=by
   rcases ow i σ.length with h|h
   ·exact h
   ·rw[io h,ke] at e2;split at e2<;>cases e2
  rw[jd hi] at e2;have hiN:i<X.N.length:=by rw[<-I.len];exact hi
  have e1':(X.N.map (h_ own))[i]?=ae x:=by
   have:(X.N.map (h_ own)++own)[i]?=ae x:=e1;rwa [jd (by rw[aI];exact hiN)] at this
  rw[kf] at e1';obtain⟨y,hy,ey⟩:=lf.mp e1';have hyN:y∈X.N:=nK hy;have e3':(ir scope X.env).names.lookup x=ae .local\/(ir scope X.env).names.lookup x=ae .cell\/(ir scope X.env).names.lookup x=ae .free:=e3;have keys:∀z k,(ir scope X.env).names.lookup z=ae k->∃k',scope.names.lookup z=ae k'/\(k=.local->k'=.local):=by
   intro z k;show(scope.names.map λ(n,k)=>if (k==jo&&X.env.scope.kind==.function&&X.env.kindOf n==ae .cell) then (n,t0) else (n,k)).lookup z=ae k->_;generalize scope.names=l;induction l with
   |nil=>intro h;simp at h
   |cons p l ih=>
    obtain⟨n,k0⟩:=p;intro h;rw[br] at h;dsimp only at h;by_cases hc:(k0==jo&&X.env.scope.kind==.function&&X.env.kindOf n==ae .cell)=af
    ·rw[aq hc,i0] at h;rw[i0];cases e:z==n with
     |true=>
      rw[e] at h;dsimp only at h;cases h;exact⟨k0,rfl,λq=>by cases q⟩
     |false=>rw[e] at h;exact ih h
    ·rw[av hc,i0] at h;rw[i0];cases e:z==n with
     |true=>
      rw[e] at h;dsimp only at h;cases h;exact⟨_,rfl,λq=>q⟩
     |false=>rw[e] at h;exact ih h
  by_cases hown:own.contains y=af
  ·exfalso;have ex:x=y++(" " : Str):=by rw[<-ey];unfold h_;rw[aq hown]
   have hn:=S.hid y (by simpa using hown);rw[<-ex] at hn;rcases e3' with q|q|q
   all_goals
    obtain⟨k',hk',_⟩:=keys _ _ q;rw[hn] at hk';cases hk'
  ·have ex:x=y:=by rw[<-ey];unfold h_;rw[av hown]
   subst ex;rcases e3' with q|q
   ·exfalso;obtain⟨k',hk',hl⟩:=keys _ _ q;have:=hl rfl;subst this;rcases S.loc _ (k6 hk') rfl with z|z
    ·exact hown (by simpa using z)
    ·exact z hyN
   ·have hfr:=relk x q;have hv:=S.free _ hfr rfl;obtain⟨m,_,hl⟩:=I.loc;obtain⟨u,ru,lk⟩:=hl i x v hy e2 (.inr hv);refine⟨u,ru,.inr ⟨q,?_⟩⟩;rcases lk with ⟨z,_⟩|⟨_,c,hc,o,ho,hd⟩
    ·have z':X.env.scope.names.lookup x=ae .local:=z;rcases hv with hv|hv<;>(rw[z'] at hv;cases hv)
    ·obtain⟨c',hc'⟩:=PP hfr;have:=sub x c' hc';rw[hc] at this;cases this;exact⟨c,hc',o,hk c o ho,hd⟩
 ·obtain⟨v,z⟩:=I.cell x c (sub x c e);obtain⟨o,ho,hd⟩:=z;exact⟨v,o,hk c o ho,hd⟩
 ·show upd H2 _ _ (s2.heap.objs.size+1)=ak;rw[aX (Ne.symm hne)];exact hC
 ·obtain⟨v,o,ho,_⟩:=I.cell x c (sub x c e);show upd H2 _ _ c=ak;rw[aX (c9 (hlt c o ho))];exact I.freeC x c (sub x c e)
 ·exact I.hok.laid hk (ba _) ⟨eR _,[],0,.nil,hacc⟩
 ·show(σ++cz own.length ak).length=(X.N.map (h_ own)++own).length;rw[cw,cw,w8,aI,I.len]
end
section
variable {X:Cx} {scope:fq} {own:aa Str}
def cI(X':Cx)(σ:St)(fp:aa al)(tn:ah->aT->Prop)(W:ah->ah->aa V->Hp->Prop)(n:ah)(s:ao):Prop:=∃i ys H',Inv X' [] σ H' s/\tn i s.heap/\(∀b∈fp,H' b=ak)/\W i n ys H'
abbrev cE(X X':Cx)(use:az (aj->eg iz))(QQ:aj->ao->Prop)(p:al):aj->ao->Prop:=notedBy (ax X.prog X.w) X.A X'.env λe s'=>lj (ax X.prog X.w) X.A X.xe use QQ (.ref p) (p+1) (.error e) s'
def cB(X':Cx)(σ:St)(fp:aa al)(tn:ah->aT->Prop)(W:ah->ah->aa V->Hp->Prop)(n i:ah)(h:aT):Prop:=∀{ys':aa V}{H9:Hp}{s9:ao}{σ9:St},Ext σ σ9->Inv X' ([]++vZ fp h) σ9 H9 s9->(∃n',n'<n/\W (i+1) n' ys' H9)->∃m,m<n/\cI X' σ fp tn W m s9
theorem PX(S:dJ X.N X.env.scope scope own)(hcalm:X.calm=af)(hi:PI X tg iter wi)
 (hg:∀X',c7 X X' scope own->PG X' tg g)(hc:(ifs=[]/\tc=λ_ H Q=>Q af H)\/∃c,ifs=[c]/\∀X',c7 X X' scope own->PT X' c tc)(he:∀X',c7 X X' scope own->PE X' elt te)
 (hs:∀x,eC iter X.env x=pure x)(I:Inv X Ψ σ H s)(h:PQ wi g tc te own.length σ H R)
 (last:∀{p C:al} {H5:Hp} {s6:ao} {m6:Str->az aj},Inv X Ψ σ H5 s6->W2 X Ψ H5 C->s6.heap.Ns C m6->R (.ref p) H5->lj (ax X.prog X.w) X.A X.xe use QQ (.ref p) C (.ok .next) s6) :
  ϑ (ax X.prog X.w) X.A (yc (.ListComp elt [⟨tg,iter,ifs,0⟩] scope pos) scope X.env ps (t5 []) ai (bP iter X.env) use) QQ X.xe s:=by
 have cells:∀y∈scope.names,y.2=.free->∃c,X.env.cells.lookup y.1=ae c:=λy hy hk=>I.ok.has y.1 (S.free y hy hk)
 refine wpAny_comprehension_free rfl hs (VN cells) S.kind S.names (thn (hi Ψ s σ H _ I h) λxv s1 h1=>thn h1 λitv s2 h2=>?_);obtain⟨it,fp,tn,J,H2,e,I2,T,st2,f2,hW⟩:=h2;subst e;have hD:H2 s2.heap.objs.size=ak:=I2.hok.fresh (ba _);obtain⟨W,⟨n0,w0⟩,turn⟩:=hW _ hD;have hfx:∀b∈fp,b<s2.heap.objs.size:=λb hb=>by
  obtain⟨o,ho,_⟩:=T.obj 0 _ st2 b hb;exact bS ho
 refine fw (wpAny_newFunctionEnv S.nocell (by intro y hy;simp at hy) (λh₁ hns₁ hsb₁=>?_) S.kind);dsimp only at hns₁ hsb₁ ⊢;have hC:(s2.heap.push {cls:=.type "list",dict:=ak,data:=.seq ([]:aa aj).toArray}).objs.size=s2.heap.objs.size+1:=iv ..;have hne:s2.heap.objs.size≠s2.heap.objs.size+1:=c9 (jq _);rw[hC] at hns₁ hsb₁ ⊢;have old:∀b o,s2.heap.get? b=ae o->h₁.get? b=ae o:=λb o e=>hsb₁.extBut b o (c9 (ic (bS e))) (cr _ (cr _ e))
 have hacc:h₁.get? s2.heap.objs.size=ae {cls:=.type "list",data:=.seq #[]}:=hsb₁.extBut _ _ hne (cr _ (di _ rfl));have I4:=Inv.comp (t1:=s2.toks+([]:aa (Str×aj)).length) I2 S f2 hfx hns₁ old hacc;generalize hX':R5 X scope (clF X.env scope.names []) (s2.heap.objs.size+1) own s2 H2 fp=X' at I4;have cc:c7 X X' scope own:=by rw[<-hX'];exact ZG
 have eenv:X'.env=compEnvC scope (clF X.env scope.names []) (s2.heap.objs.size+1) X.env:=by rw[<-hX'];rfl
 have eA:X'.A=X.A:=cc.A;have ep:X'.prog=X.prog:=cc.prog;have ew:X'.w=X.w:=cc.w;have efs:X'.fs=frs X.stack:=by rw[<-hX'];rfl
 have eex:X'.ex=fp:=by rw[<-hX'];rfl
 have es0:X'.s₀=s2:=by rw[<-hX'];rfl
 have eH0:X'.H₀=H2:=by rw[<-hX'];rfl
 have epn:X'.pn=[]:=by rw[<-hX'];rfl
 have eK:X'.K=X.K:=cc.K;have exe:=cc.xe;have ecalm:X'.calm=af:=cc.calm.trans hcalm
 -- the iterator's records within the block
 have fpok:∀{H':Hp},(∀b∈fp,H' b=ak)->∀b∈fp,W2 X' [] H' b:=λ{H'} hn b hb=>by
  obtain⟨_,f1,f3,_,f5,_⟩:=f2 b hb;refine⟨hn b hb,?_,?_,.inl (by rw[eex];exact hb),λx c e=>?_,λp hp=>by rw[epn] at hp;simp at hp⟩
  ·rw[eenv];exact c9 (ic (hfx b hb))
  ·rw[efs];intro z;rcases bm.mp (I2.RL b z) with z|z
   ·exact f1 z
   ·exact f3 z
  ·rw[eenv] at e;exact f5 x c (PN cells (λ_ _ h=>by simp at h) e)
 have st4:tn 0 h₁:=T.keep _ _ _ st2 λb _ o e=>old b o e
 have fr4:∀b∈fp,(upd H2 s2.heap.objs.size (.lst [])) b=ak:=λb hb=>by rw[aX (c9 (hfx b hb))];exact(f2 b hb).1
 have loop:∀s4:ao,s4={s2 with heap:=h₁,toks:=s2.toks+([]:aa (Str×aj)).length}->
   codeAny (ax X.prog X.w) X.A (.compLoop (.ListComp elt [⟨tg,iter,ifs,0⟩] scope pos) 0 (.ref it) (.ref s2.heap.objs.size) X'.env)
    (lj (ax X.prog X.w) X.A X.xe use QQ (.ref s2.heap.objs.size) (s2.heap.objs.size+1)) s4:=by
  rintro s4 rfl;have put:∀(n i:ah)(ys:aa V)(s7:ao)(σ8:St)(H8:Hp)(s8:ao),cB X' (σ++cz own.length ak) fp tn W n i s7.heap->Inv X' ([]++vZ fp s7.heap) σ8 H8 s8->Ext (σ++cz own.length ak) σ8->ys.length<bj->(te σ8 H8 λy H5=>H5 s2.heap.objs.size=ae (.lst ys)/\∃n',n'<n/\W (i+1) n' (ys++[y]) (upd H5 s2.heap.objs.size (.lst (ys++[y]))))->
    ϑ (ax X.prog X.w) X.A (bP elt X'.env) (λx s₄=>ϑ (ax X.prog X.w) X.A (call (.builtin "list.append") [.ref s2.heap.objs.size,x]) (λ_ s₅=>∃m,m<n/\cI X' (σ++cz own.length ak) fp tn W m s₅) (cE X X' use QQ s2.heap.objs.size) s₄) (cE X X' use QQ s2.heap.objs.size) s8:=by
   intro n i ys s7 σ8 H8 s8 back I8 ext8 hlen q8;have he':=he X' cc _ s8 _ H8 _ I8 q8;rw[ep,ew,eA,exe] at he';refine eL he' (λyv s10 ⟨y,H10,I10,r10,p10,q10⟩=>?_) λ_ _ z=>fm z
   have hm:=v8 _ s10 σ8 H10 (.ref s2.heap.objs.size) [y] (.ref s2.heap.objs.size) [yv] (λ_ H11=>∃n',n'<n/\W (i+1) n' (ys++[y]) H11) I10 rfl (.cons r10 .nil) ⟨s2.heap.objs.size,ys,y,rfl,rfl,p10,hlen,q10⟩;rw[ep,ew,eA,exe] at hm;exact eL hm (λ_ s11 ⟨_,H11,I11,_,q11⟩=>back ext8 I11 q11) λ_ _ z=>fm z
  have key:∀(PO:ah->ao->Prop),(∀(n i:ah)(ys:aa V)(s7:ao)(σ8:St)(H8:Hp)(s8:ao),cB X' (σ++cz own.length ak) fp tn W n i s7.heap->Inv X' ([]++vZ fp s7.heap) σ8 H8 s8->Ext (σ++cz own.length ak) σ8->ys.length<bj->(tc σ8 H8 λb H4=>if b=af then te σ8 H4 λy H5=>H5 s2.heap.objs.size=ae (.lst ys)/\∃n',n'<n/\W (i+1) n' (ys++[y]) (upd H5 s2.heap.objs.size (.lst (ys++[y]))) else ∃n',n'<n/\W (i+1) n' ys H4)->PO n s8)->
    ∀n s5,(cI X' (σ++cz own.length ak) fp tn W n s5)->ϑ (ax X.prog X.w) X.A (fu (.ref it)) (λr s₁=>match r with
     |none=>lj (ax X.prog X.w) X.A X.xe use QQ (.ref s2.heap.objs.size) (s2.heap.objs.size+1) (.ok .next) s₁
     |some v=>ϑ (ax X.prog X.w) X.A (nB tg (.ref it) v) (λ_ s₀=>ϑ (ax X.prog X.w) X.A (lP tg X'.env v) (λ_ s₂=>PO n s₂) (cE X X' use QQ s2.heap.objs.size) s₀) (cE X X' use QQ s2.heap.objs.size) s₁) (cE X X' use QQ s2.heap.objs.size) s5:=by
   intro PO hPO;rintro n s5 ⟨i,ys,H5,I5,st5,fr5,w5⟩;obtain⟨hacc5,tr⟩:=turn i n ys H5 w5;rcases tr with ⟨stop,q⟩|⟨go,hlen,step⟩
   ·have done:=T.done X' ep ew eK ecalm i [] s5 _ H5 (cE X X' use QQ s2.heap.objs.size) I5 (fpok fr5) st5 stop;rw[eA] at done;refine thn done λr s6 ⟨hr,I6⟩=>?_
    subst hr;obtain⟨m6,hn6,_⟩:=id I6.loc;rw[eenv] at hn6;have u6:Un (frs X.stack) fp H2 H5 s2.heap s6.heap:=by
     have:=I6.base;rw[efs,eex,eH0,es0] at this;exact this
    have hCn:H5 (s2.heap.objs.size+1)=ak:=by
     have:=I6.free;rw[eenv] at this;exact this
    have hok6:HOk X.prog X.w H5 s6.heap:=by
     have:=I6.hok;rw[ep,ew] at this;exact this
    have hos:s6.os=s2.os:=by have:=I6.os;rw[es0] at this;exact this
    obtain⟨hh,gg,dd,tt,oo⟩:=s6;obtain rfl:oo=s2.os:=hos;have fin:=Inv.call (g':=gg) (d':=dd) (t':=tt) (ch:=fp) I2 u6 hok6 I6.bare λb hb=>⟨(f2 b hb).2.2.2.1,(f2 b hb).2.1,(f2 b hb).2.2.2.2.1,(f2 b hb).2.2.2.2.2⟩
    refine last fin ⟨hCn,jS (ic I2.lt),I2.aNq (iu _),.inr (dn I2.sz (iu _)),λx c e z=>?_,λp hp z=>?_⟩ hn6 q
    ·obtain⟨v,qq⟩:=I2.cell x c e;exact bd (ic qq.lt) (by rw[z];exact fj _)
    ·exact bd (ic (bS (I2.pin p hp).1)) (by rw[z];exact fj _)
   ·have item:=T.item X' ep ew eK ecalm i [] s5 _ H5 (cE X X' use QQ s2.heap.objs.size) I5 (fpok fr5) st5 go;rw[eA] at item;refine thn item λr s6 ⟨u,hr,h6⟩=>?_
    subst hr;refine thn h6 λ_ s7 ⟨x,H7,I7,r7,y7,st7,fr7⟩=>?_
    have I7':=I7.pinned (fpok fr7) (T.obj _ _ st7);have hg':=hg X' cc _ s7 _ H7 x u _ I7' r7 (step x H7 y7);rw[ep,ew,eA,exe] at hg';refine eL hg' (λ_ s8 ⟨σ8,H8,I8,ext8,q8⟩=>?_) λ_ _ z=>fm z
    have back:cB X' (σ++cz own.length ak) fp tn W n i s7.heap:=by
     rintro ys' H9 s9 σ9 ex9 I9 ⟨n',hn',w9⟩;refine⟨n',hn',i+1,ys',H9,(I9.weak ex9.1.symm ex9.2).rJ,T.keep _ _ _ st7 λb hb o e=>(I9.pin (b,o) (eo _ (eo _ (nY hb e)))).1,λb hb=>?_,w9⟩;obtain⟨o,e,d⟩:=T.obj _ _ st7 b hb;exact(I9.pin (b,o) (eo _ (eo _ (nY hb e)))).2.1
    exact hPO n i ys s7 σ8 H8 s8 back I8 ext8 hlen q8
  rcases hc with ⟨rfl,rfl⟩|⟨c,rfl,hc⟩
  ·refine PySem.W.kcp_loop _ (key _ λn i ys s7 σ8 H8 s8 back I8 ext8 hlen q8=>?_) n0 ⟨0,[],_,I4,st4,fr4,w0⟩;simp only[cb] at q8;exact put n i ys s7 σ8 H8 s8 back I8 ext8 hlen q8
  ·refine PySem.W.kct_loop _ (key _ λn i ys s7 σ8 H8 s8 back I8 ext8 hlen q8=>?_) n0 ⟨0,[],_,I4,st4,fr4,w0⟩;have hc':=hc X' cc _ s8 _ H8 _ I8 q8;rw[ep,ew,eA,exe] at hc';refine eL hc' (λb s9 ⟨H9,I9,q9⟩=>?_) λ_ _ z=>fm z
   cases b with
   |false=>
    simp only[c_,b9] at q9 ⊢;exact back ext8 I9 q9
   |true=>
    simp only[cb] at q9 ⊢;exact put n i ys s7 σ8 H9 s9 back I9 ext8 hlen q9
 have l4:=loop _ rfl;rw[eenv] at l4;exact codeAny_compStart_list l4 (T.self X.A 0 _ _ _ st4 l4)
theorem R6(f:Inv X Ψ σ H5 s6)(k:W2 X Ψ H5 C)(n:s6.heap.Ns C m6)(q:Q (.ref p) H5):lj (ax X.prog X.w) X.A X.xe ak (EP X Ψ σ Q) (.ref p) C (.ok .next) s6:=
 ⟨m6,n,λh' sb=>⟨.ref p,H5,Inv.turned f (λb o hb e=>sb.extBut b o hb e) k.1 k.2.1 k.2.2.2.1 k.2.2.2.2.1 k.2.2.2.2.2,rfl,q⟩⟩
theorem ZJ(S:dJ X.N X.env.scope scope own)(hcalm:X.calm=af)(hi:PI X tg iter wi)
 (hg:∀X',c7 X X' scope own->PG X' tg g)(hc:∀X',c7 X X' scope own->PT X' c tc)(he:∀X',c7 X X' scope own->PE X' elt te)
 (hs:∀x,eC iter X.env x=pure x):PE X (.ListComp elt [⟨tg,iter,[c],0⟩] scope pos) (PQ wi g tc te own.length):=by
 intro Ψ s σ H Q I h;rw[yd];exact PX S hcalm hi hg (.inr ⟨c,rfl,hc⟩) he hs I h R6
theorem aCs(S:dJ X.N X.env.scope scope own)(hcalm:X.calm=af)(hi:PI X tg iter wi)
 (hg:∀X',c7 X X' scope own->PG X' tg g)(he:∀X',c7 X X' scope own->PE X' elt te)
 (hs:∀x,eC iter X.env x=pure x):PE X (.ListComp elt [⟨tg,iter,[],0⟩] scope pos) (PQ wi g (λ_ H Q=>Q af H) te own.length):=by
 intro Ψ s σ H Q I h;rw[yd];exact PX S hcalm hi hg (.inl ⟨rfl,rfl⟩) he hs I h R6
end
end L2
namespace Mi
open PySem L2 PySem.SeqAt
section
variable [KFrag]
theorem fY(I:Inv X Ψ σ H s)(e:H a=ae (.tup xs)):∃its:aa aj,Vals xs its/\s.heap.IsTuple a its.toArray:=by
 obtain⟨_,its,r,p⟩:xs.length<=bj/\∃its:aa aj,Vals xs its/\j8 s.heap a its.toArray:=I.hok a _ e;exact⟨its,r,p.tup⟩
theorem dB(I:Inv X Ψ σ H s)(e:SqL X.K H a xs):∃its:aa aj,Vals xs its/\s.heap.IsList a its.toArray:=by
 obtain⟨its,r,p,_⟩:=I.list e;exact⟨its,r,p.isList⟩
theorem Rep.iU(r:Rep P H v (.lst ds)):∃a xs,v=.ref a/\SqL K H a xs/\bL P H xs ds:=by
 obtain⟨_,_,rfl,e,p,r⟩:=r.inv;exact⟨_,_,rfl,.inl (.inl e),r⟩
theorem Rep.fO(r:Rep P H v (.tup ds)):∃a xs,v=.ref a/\H a=ae (.tup xs)/\bL P H xs ds:=by
 obtain⟨_,_,rfl,e,r⟩:=r.inv;exact⟨_,_,rfl,e,r⟩
mutual
theorem vD:∀(n:ah)(d:D),d.fD n=af->eqD d d=af
 |_,.non,_=>rfl
 |_,.bl b,_=>by exact mN b
 |_,.int i,_=>by exact mN i
 |_,.str x,_=>by exact mN x
 |n+1,.tup xs,h=>by exact rW n xs h
 |n+1,.lst xs,h=>by exact rW n xs h
 |n+1,.scr xs,h=>by exact rW n xs h
 |0,.scr xs,h=>by exact fx0 h
 |0,.tup xs,h=>by exact fx0 h
 |0,.lst xs,h=>by exact fx0 h
 |n,.dct _,h=>by cases n<;>exact fx0 h
 |n,.uD,h=>by cases n<;>exact fx0 h
 |n,.fdc _,h=>by cases n<;>exact fx0 h
 |n,.exc _ _,h=>by cases n<;>exact fx0 h
 |n,.ins _ _,h=>by cases n<;>exact fx0 h
 |n,.adr _,h=>by cases n<;>exact fx0 h
 |n,.dcl _ _,h=>by cases n<;>exact fx0 h
 |n,.cel _ _,h=>by cases n<;>exact fx0 h
theorem rW:∀(n:ah)(ds:aa D),μ n ds=af->lJ ds ds=af
 |_,[],_=>rfl
 |n,d::ds,h=>by
  rw[μ,bg] at h;rw[lJ,vD n d h.1,rW n ds h.2];rfl
end
theorem jP{X:Cx}(hK:KFrag.K=X.K)(r:Rep P H v (.scr ds)):∃a xs,v=.ref a/\SqL X.K H a xs/\bL P H xs ds:=by
 obtain⟨a,xs,rfl,e,rr⟩:=r.inv;exact⟨a,xs,rfl,e.sq hK,rr⟩
theorem R7:∀{xs ys:aa V}{us:aa aj},Vals xs us->Vals ys us->xs=ys
 |_,_,_,.nil,h=>by cases h;rfl
 |_,_,_,.cons a t,h=>by
  cases h with
  |cons b t'=>rw[RelV.inj a b,R7 t t']
theorem u5{X:Cx}(I:Inv X Ψ σ H s)(e1:SqL X.K H a xs)(e2:SqL X.K H a ys):xs=ys:=by
 obtain⟨i1,r1,o,ho,hc,n,hd⟩:=dB I e1;obtain⟨i2,r2,o',ho',hc',n',hd'⟩:=dB I e2;rw[ho] at ho';cases ho';rw[hd] at hd';have:i1=i2:=by
  injection hd' with e
  simpa using e
 subst this;exact R7 r1 r2
theorem aCt{X:Cx}{ob:HO}(I:Inv X Ψ σ H s)(hK:KFrag.K=X.K)(e:ZD H a xs)(h:H a=ae ob):∃p,ob=.frz p (.lst xs):=by
 rcases e with ⟨o,e⟩|⟨o,its,n,e,_⟩
 ·rw[e] at h;cases h;exact⟨o,rfl⟩
 ·rw[hK] at e;have:=(I.bs a o (I.mod.kin a o e)).2;rw[h] at this;cases this
theorem bL.aMo{n:ah}{P P':al->Prop}{H:Hp}(ih:∀{v:V} {d e:D},d.fD n=af->e.fD n=af->Rep P H v d->Rep P' H v e->d=e){vs:aa V}:∀{ds es:aa D},μ n ds=af->μ n es=af->bL P H vs ds->bL P' H vs es->ds=es:=by
 induction vs with
 |nil=>intro ds es h h' r q;cases r;cases q;rfl
 |cons v vs ih2=>
  intro ds es h h' r q;cases r with
  |cons r t=>
   cases q with
   |cons r' t'=>
    rw[μ,bg] at h h';rw[ih h.1 h'.1 r r',ih2 h.2 h'.2 t t']
theorem Rep.inj{X:Cx}{Ψ:aa (al×bb)}{σ:L2.St}{s:ao}{P P':al->Prop}{H:Hp}(I:Inv X Ψ σ H s)(hK:KFrag.K=X.K)(n:ah):∀{v:V}{d e:D},d.fD n=af->e.fD n=af->Rep P H v d->Rep P' H v e->d=e:=by
 induction n with
 |zero=>
  intro v d e h h' r q;cases d with
  |non=>obtain rfl:=r.inv;cases q;rfl
  |bl b=>obtain rfl:=r.inv;cases q;rfl
  |int i=>obtain rfl:=r.inv;cases q;rfl
  |str x=>obtain rfl:=r.inv;cases q;rfl
  |_=>exact fx0 h
 |succ n ih=>
  intro v d e h h' r q;cases d with
  |non=>obtain rfl:=r.inv;cases q;rfl
  |bl b=>obtain rfl:=r.inv;cases q;rfl
  |int i=>obtain rfl:=r.inv;cases q;rfl
  |str x=>obtain rfl:=r.inv;cases q;rfl
  |tup ds=>
   obtain⟨a,xs,rfl,e1,r1⟩:=r.inv;cases q with
   |tup e2 r2=>
    rw[e1] at e2;cases e2;rw[bL.aMo ih h h' r1 r2]
   |lst e2 _ _=>rw[e1] at e2;cases e2
   |frz e2 _=>obtain⟨_,z⟩:=aCt I hK e2 e1;cases z
   |dK e2 _ _ _=>rw[e1] at e2;cases e2
   |dT e2 _ _ _=>rw[e1] at e2;cases e2
   |_=>exact fx0 h'
  |lst ds=>
   obtain⟨a,xs,rfl,e1,_,r1⟩:=r.inv;cases q with
   |tup e2 r2=>rw[e1] at e2;cases e2
   |lst e2 _ r2=>
    rw[e1] at e2;cases e2;rw[bL.aMo ih h h' r1 r2]
   |dK e2 _ _ _=>rw[e1] at e2;cases e2
   |dT e2 _ _ _=>rw[e1] at e2;cases e2
   |frz e2 _=>obtain⟨_,z⟩:=aCt I hK e2 e1;cases z
   |_=>exact fx0 h'
  |scr ds=>
   obtain⟨a,xs,rfl,e1,r1⟩:=r.inv;cases q with
   |tup e2 r2=>obtain⟨_,z⟩:=aCt I hK e1 e2;cases z
   |lst e2 _ r2=>obtain⟨_,z⟩:=aCt I hK e1 e2;cases z
   |frz e2 r2=>
    cases u5 I (e1.sq hK) (e2.sq hK);rw[bL.aMo ih h h' r1 r2]
   |_=>exact fx0 h'
  |_=>exact fx0 h
theorem iW:∀(xs ys:aa D),lJ xs ys=((cq (min xs.length ys.length)).all (λj=>eqD (xs.getD j .non) (ys.getD j .non))&&xs.length==ys.length)
 |[],[]=>by simp[lJ]
 |[],y::ys=>by simp[lJ]
 |x::xs,[]=>by simp[lJ]
 |x::xs,y::ys=>by
  have e:min (x::xs).length (y::ys).length=min xs.length ys.length+1:=by simp only[ck];lia
  rw[lJ,iW xs ys,e,t9,gi,List.all_map,ye]
  congr 1
  simp[BA]
theorem iB:∀{ds:aa D}{j:ah},μ n ds=af->j<ds.length->(ds.getD j .non).fD n=af
 |[],j,_,h=>by simp at h
 |d::ds,0,h,_=>by rw[μ,bg] at h;exact h.1
 |d::ds,j+1,h,hj=>by
  rw[μ,bg] at h;simpa using iB h.2 (by simpa using hj)
theorem bL.getD(r:bL P H vs ds)(hj:j<ds.length):∃v,vs[j]?=ae v/\Rep P H v (ds.getD j .non):=by
 obtain⟨v,h1,h2⟩:=r.get (i:=j) (d:=ds.getD j .non) (by simp[hj]);exact⟨v,h1,h2⟩
section
theorem wL(ha:a.fD 0=af)(hb:b.fD 0=af)(rx:Rep All H x a)(ry:Rep All H y b)(ru:RelV x u)(rv:RelV y v):iw A s u v (eqD a b)/\ix A s u v (!eqD a b)/\EqAt A s u v (eqD a b):=by
 cases rx with
 |non=>
  cases ru;cases ry with
  |non=>cases rv;exact⟨RcAt.none_none,RcNeAt.none_none,ox _⟩
  |bl _=>cases rv;exact⟨RcAt.none_bool _,RcNeAt.none_bool _,EqAt.none_bool _⟩
  |int _=>obtain⟨t,rfl⟩:=rv;exact⟨RcAt.none_int _ _,RcNeAt.none_int _ _,EqAt.none_int _ _⟩
  |str _=>obtain⟨t,rfl⟩:=rv;exact⟨RcAt.none_str _ _,RcNeAt.none_str _ _,EqAt.none_str _ _⟩
  |_=>exact fx0 hb
 |bl _=>
  cases ru;cases ry with
  |non=>cases rv;exact⟨RcAt.bool_none _,RcNeAt.bool_none _,EqAt.bool_none _⟩
  |bl _=>cases rv;exact⟨RcAt.bool_bool _ _,RcNeAt.bool_bool _ _,EqAt.bool_bool _ _⟩
  |int _=>obtain⟨t,rfl⟩:=rv;exact⟨RcAt.bool_int _ _ _,RcNeAt.bool_int _ _ _,EqAt.bool_int _ _ _⟩
  |str _=>obtain⟨t,rfl⟩:=rv;exact⟨RcAt.bool_str _ _ _,RcNeAt.bool_str _ _ _,EqAt.bool_str _ _ _⟩
  |_=>exact fx0 hb
 |int _=>
  obtain⟨t,rfl⟩:=ru;cases ry with
  |non=>cases rv;exact⟨RcAt.int_none _ _,RcNeAt.int_none _ _,EqAt.int_none _ _⟩
  |bl _=>cases rv;exact⟨RcAt.int_bool _ _ _,RcNeAt.int_bool _ _ _,EqAt.int_bool _ _ _⟩
  |int _=>obtain⟨t',rfl⟩:=rv;exact⟨RcAt.int_int _ _ _ _,RcNeAt.int_int _ _ _ _,EqAt.int_int _ _ _ _⟩
  |str _=>obtain⟨t',rfl⟩:=rv;exact⟨RcAt.int_str _ _ _ _,RcNeAt.int_str _ _ _ _,vx _ _ _ _⟩
  |_=>exact fx0 hb
 |str _=>
  obtain⟨t,rfl⟩:=ru;cases ry with
  |non=>cases rv;exact⟨RcAt.str_none _ _,RcNeAt.str_none _ _,EqAt.str_none _ _⟩
  |bl _=>cases rv;exact⟨RcAt.str_bool _ _ _,RcNeAt.str_bool _ _ _,EqAt.str_bool _ _ _⟩
  |int _=>obtain⟨t',rfl⟩:=rv;exact⟨RcAt.str_int _ _ _ _,RcNeAt.str_int _ _ _ _,vz _ _ _ _⟩
  |str _=>obtain⟨t',rfl⟩:=rv;exact⟨RcAt.str_str _ _ _ _,RcNeAt.str_str _ _ _ _,EqAt.str_str _ _ _ _⟩
  |_=>exact fx0 hb
 |_=>exact fx0 ha
theorem JR{X:Cx}(hK:KFrag.K=X.K)(I:Inv X Ψ σ H s):∀(n:ah)(A:bw){x y:V}{a b:D}{u v:aj},A.units+n<bE->a.fD n=af->b.fD n=af->Rep All H x a->Rep All H y b->RelV x u->RelV y v->
  iw A s u v (eqD a b)/\ix A s u v (!eqD a b)/\EqAt A s u v (eqD a b):=by
 intro n;induction n with
 |zero=>exact λA=>λ_ ha hb rx ry ru rv=>wL ha hb rx ry ru rv
 |succ n ih=>
  intro A x y a b u v hu ha hb rx ry ru rv;have hu0:A.units<bE:=by lia
  have hu1:A.in1.units+n<bE:=by show A.units+1+n<bE;lia
  have itm:∀{xs ys:aa V}{ds es:aa D}{i1 i2:aa aj},μ n ds=af->μ n es=af->bL All H xs ds->bL All H ys es->Vals xs i1->Vals ys i2->∀j (g1:j<i1.toArray.size) (g2:j<i2.toArray.size),EqAt A.in1 s i1.toArray[j] i2.toArray[j] (eqD (ds.getD j .non) (es.getD j .non)):=by
   intro xs ys ds es i1 i2 ha hb r1 r2 vr1 vr2 j g1 g2;have z1:i1.toArray.size=ds.length:=by rw[cg,<-vr1.length,r1.length]
   have z2:i2.toArray.size=es.length:=by rw[cg,<-vr2.length,r2.length]
   obtain⟨v1,w1,rr1⟩:=r1.getD (j:=j) (by lia);obtain⟨v2,w2,rr2⟩:=r2.getD (j:=j) (by lia);obtain⟨u1,k1,l1⟩:=vr1.get w1;obtain⟨u2,k2,l2⟩:=vr2.get w2;have m1:i1.toArray[j]=u1:=by
    rw[dz (by simpa using g1)] at k1;simpa using cx k1
   have m2:i2.toArray[j]=u2:=by
    rw[dz (by simpa using g2)] at k2;simpa using cx k2
   rw[m1,m2];exact(ih A.in1 hu1 (iB ha (by lia)) (iB hb (by lia)) rr1 rr2 l1 l2).2.2
  cases a with
  |non=>
   cases b with
   |tup es=>
    cases rx.inv;cases ru;obtain⟨q,ys,rfl,e2,r2⟩:=ry.fO;cases rv;obtain⟨its2,vr2,h2⟩:=fY I e2;exact⟨RcAt.none_tuple h2 hu0,RcNeAt.none_tuple h2 hu0,EqAt.none_tuple h2 hu0⟩
   |lst es=>
    cases rx.inv;cases ru;obtain⟨q,ys,rfl,e2,r2⟩:=ry.iU (K:=X.K);cases rv;obtain⟨its2,vr2,h2⟩:=dB I e2;exact⟨yf h2 hu0,yg h2 hu0,yh h2 hu0⟩
   |scr es=>
    cases rx.inv;cases ru;obtain⟨q,ys,rfl,e2,r2⟩:=jP hK ry;cases rv;obtain⟨its2,vr2,h2⟩:=dB I e2;exact⟨yf h2 hu0,yg h2 hu0,yh h2 hu0⟩
   |_=>first|exact wL rfl rfl rx ry ru rv|exact bd ry Rep.uD|exact fx0 hb
  |bl _=>
   cases b with
   |tup es=>
    cases rx.inv;cases ru;obtain⟨q,ys,rfl,e2,r2⟩:=ry.fO;cases rv;obtain⟨its2,vr2,h2⟩:=fY I e2;exact⟨RcAt.bool_tuple _ h2 hu0,RcNeAt.bool_tuple _ h2 hu0,EqAt.bool_tuple _ h2 hu0⟩
   |lst es=>
    cases rx.inv;cases ru;obtain⟨q,ys,rfl,e2,r2⟩:=ry.iU (K:=X.K);cases rv;obtain⟨its2,vr2,h2⟩:=dB I e2;exact⟨yj _ h2 hu0,yk _ h2 hu0,yl _ h2 hu0⟩
   |scr es=>
    cases rx.inv;cases ru;obtain⟨q,ys,rfl,e2,r2⟩:=jP hK ry;cases rv;obtain⟨its2,vr2,h2⟩:=dB I e2;exact⟨yj _ h2 hu0,yk _ h2 hu0,yl _ h2 hu0⟩
   |_=>first|exact wL rfl rfl rx ry ru rv|exact bd ry Rep.uD|exact fx0 hb
  |int _=>
   cases b with
   |tup es=>
    cases rx.inv;obtain⟨t1,rfl⟩:=ru;obtain⟨q,ys,rfl,e2,r2⟩:=ry.fO;cases rv;obtain⟨its2,vr2,h2⟩:=fY I e2;exact⟨RcAt.int_tuple _ _ h2 hu0,RcNeAt.int_tuple _ _ h2 hu0,EqAt.int_tuple _ _ h2 hu0⟩
   |lst es=>
    cases rx.inv;obtain⟨t1,rfl⟩:=ru;obtain⟨q,ys,rfl,e2,r2⟩:=ry.iU (K:=X.K);cases rv;obtain⟨its2,vr2,h2⟩:=dB I e2;exact⟨ym _ _ h2 hu0,yn _ _ h2 hu0,yo _ _ h2 hu0⟩
   |scr es=>
    cases rx.inv;obtain⟨t1,rfl⟩:=ru;obtain⟨q,ys,rfl,e2,r2⟩:=jP hK ry;cases rv;obtain⟨its2,vr2,h2⟩:=dB I e2;exact⟨ym _ _ h2 hu0,yn _ _ h2 hu0,yo _ _ h2 hu0⟩
   |_=>first|exact wL rfl rfl rx ry ru rv|exact bd ry Rep.uD|exact fx0 hb
  |str _=>
   cases b with
   |tup es=>
    cases rx.inv;obtain⟨t1,rfl⟩:=ru;obtain⟨q,ys,rfl,e2,r2⟩:=ry.fO;cases rv;obtain⟨its2,vr2,h2⟩:=fY I e2;exact⟨RcAt.str_tuple _ _ h2 hu0,RcNeAt.str_tuple _ _ h2 hu0,EqAt.str_tuple _ _ h2 hu0⟩
   |lst es=>
    cases rx.inv;obtain⟨t1,rfl⟩:=ru;obtain⟨q,ys,rfl,e2,r2⟩:=ry.iU (K:=X.K);cases rv;obtain⟨its2,vr2,h2⟩:=dB I e2;exact⟨yp _ _ h2 hu0,yq _ _ h2 hu0,yr _ _ h2 hu0⟩
   |scr es=>
    cases rx.inv;obtain⟨t1,rfl⟩:=ru;obtain⟨q,ys,rfl,e2,r2⟩:=jP hK ry;cases rv;obtain⟨its2,vr2,h2⟩:=dB I e2;exact⟨yp _ _ h2 hu0,yq _ _ h2 hu0,yr _ _ h2 hu0⟩
   |_=>first|exact wL rfl rfl rx ry ru rv|exact bd ry Rep.uD|exact fx0 hb
  |tup ds=>
   obtain⟨p,xs,rfl,e1,r1⟩:=rx.fO;cases ru;obtain⟨its1,vr1,h1⟩:=fY I e1;replace ha:μ _ _=af:=ha;cases b with
   |non=>cases ry.inv;cases rv;exact⟨RcAt.tuple_none h1 hu0,RcNeAt.tuple_none h1 hu0,EqAt.tuple_none h1 hu0⟩
   |bl _=>cases ry.inv;cases rv;exact⟨RcAt.tuple_bool _ h1 hu0,RcNeAt.tuple_bool _ h1 hu0,EqAt.tuple_bool _ h1 hu0⟩
   |int _=>cases ry.inv;obtain⟨t2,rfl⟩:=rv;exact⟨RcAt.tuple_int _ _ h1 hu0,RcNeAt.tuple_int _ _ h1 hu0,EqAt.tuple_int _ _ h1 hu0⟩
   |str _=>cases ry.inv;obtain⟨t2,rfl⟩:=rv;exact⟨RcAt.tuple_str _ _ h1 hu0,RcNeAt.tuple_str _ _ h1 hu0,EqAt.tuple_str _ _ h1 hu0⟩
   |tup es=>
    obtain⟨q,ys,rfl,e2,r2⟩:=ry.fO;cases rv;obtain⟨its2,vr2,h2⟩:=fY I e2;replace hb:μ _ _=af:=hb;have z1:its1.toArray.size=ds.length:=by rw[cg,<-vr1.length,r1.length]
    have z2:its2.toArray.size=es.length:=by rw[cg,<-vr2.length,r2.length]
    have he:=itm ha hb r1 r2 vr1 vr2;have ee:eqD (.tup ds) (.tup es)=((cq (min its1.toArray.size its2.toArray.size)).all (λj=>eqD (ds.getD j .non) (es.getD j .non))&&its1.toArray.size==its2.toArray.size):=by
     rw[show eqD (.tup _) (.tup _)=lJ _ _ from rfl,iW,z1,z2]
    have r0:=RcAt.tuples h1 h2 hu0 he;have r0':=RcNeAt.tuples h1 h2 hu0 he;rw[<-ee] at r0 r0';refine⟨r0,r0',?_⟩;by_cases hpq:p=q
    ·subst hpq;have hab:(D.tup ds)=(.tup es):=Rep.inj I hK (n+1) ha hb rx ry;rw[<-hab,vD (n+1) (.tup ds) ha];exact ox _
    ·exact mS hpq r0
   |lst es=>
    obtain⟨q,ys,rfl,e2,r2⟩:=ry.iU (K:=X.K);cases rv;obtain⟨its2,vr2,h2⟩:=dB I e2;exact⟨yt h1 h2 hu0,yu h1 h2 hu0,yw h1 h2 hu0⟩
   |scr es=>
    obtain⟨q,ys,rfl,e2,r2⟩:=jP hK ry;cases rv;obtain⟨its2,vr2,h2⟩:=dB I e2;exact⟨yt h1 h2 hu0,yu h1 h2 hu0,yw h1 h2 hu0⟩
   |_=>first|exact bd ry Rep.uD|exact fx0 hb
  |lst ds=>
   obtain⟨p,xs,rfl,e1,r1⟩:=rx.iU (K:=X.K);cases ru;obtain⟨its1,vr1,h1⟩:=dB I e1;replace ha:μ _ _=af:=ha;cases b with
   |non=>cases ry.inv;cases rv;exact⟨yx h1 hu0,yy h1 hu0,yz h1 hu0⟩
   |bl _=>cases ry.inv;cases rv;exact⟨yA _ h1 hu0,yB _ h1 hu0,yT _ h1 hu0⟩
   |int _=>cases ry.inv;obtain⟨t2,rfl⟩:=rv;exact⟨yY _ _ h1 hu0,za _ _ h1 hu0,zb _ _ h1 hu0⟩
   |str _=>cases ry.inv;obtain⟨t2,rfl⟩:=rv;exact⟨zc _ _ h1 hu0,zd _ _ h1 hu0,ze _ _ h1 hu0⟩
   |tup es=>
    obtain⟨q,ys,rfl,e2,r2⟩:=ry.fO;cases rv;obtain⟨its2,vr2,h2⟩:=fY I e2;exact⟨zf h1 h2 hu0,zg h1 h2 hu0,zh h1 h2 hu0⟩
   |lst es=>
    obtain⟨q,ys,rfl,e2,r2⟩:=ry.iU (K:=X.K);cases rv;obtain⟨its2,vr2,h2⟩:=dB I e2;replace hb:μ _ _=af:=hb;have z1:its1.toArray.size=ds.length:=by rw[cg,<-vr1.length,r1.length]
    have z2:its2.toArray.size=es.length:=by rw[cg,<-vr2.length,r2.length]
    have he:=itm ha hb r1 r2 vr1 vr2;have r00:iw A s (.ref p) (.ref q) (eqD (.lst ds) (.lst es))/\ix A s (.ref p) (.ref q) (!eqD (.lst ds) (.lst es)):=by
     show iw A s (.ref p) (.ref q) (lJ ds es)/\ix A s (.ref p) (.ref q) (!lJ ds es);rw[iW];by_cases hz:ds.length=es.length
     ·have r0:=oy h1 h2 (by lia) hu0 he;have r0':=oz h1 h2 (by lia) hu0 he;rw[z1] at r0 r0';rw[show min ds.length es.length=ds.length by lia,show(ds.length==es.length)=af by simpa using hz,i5];exact⟨r0,r0'⟩
     ·have hz':(its1.toArray.size !=its2.toArray.size)=af:=by rw[z1,z2];simpa using hz
      rw[show(ds.length==es.length)=ai by simpa using hz,lb];exact⟨oB h1 h2 hz' hu0,oD h1 h2 hz' hu0⟩
    obtain⟨r0,r0'⟩:=r00;refine⟨r0,r0',?_⟩;by_cases hpq:p=q
    ·subst hpq;have hab:(ξ ds)=(.lst es):=Rep.inj I hK (n+1) ha hb rx ry;rw[<-hab,vD (n+1) (.lst ds) ha];exact ox _
    ·exact mS hpq r0
   |scr es=>
    obtain⟨q,ys,rfl,e2,r2⟩:=jP hK ry;cases rv;obtain⟨its2,vr2,h2⟩:=dB I e2;replace hb:μ _ _=af:=hb;have z1:its1.toArray.size=ds.length:=by rw[cg,<-vr1.length,r1.length]
    have z2:its2.toArray.size=es.length:=by rw[cg,<-vr2.length,r2.length]
    have he:=itm ha hb r1 r2 vr1 vr2;have r00:iw A s (.ref p) (.ref q) (eqD (.lst ds) (.scr es))/\ix A s (.ref p) (.ref q) (!eqD (.lst ds) (.scr es)):=by
     show iw A s (.ref p) (.ref q) (lJ ds es)/\ix A s (.ref p) (.ref q) (!lJ ds es);rw[iW];by_cases hz:ds.length=es.length
     ·have r0:=oy h1 h2 (by lia) hu0 he;have r0':=oz h1 h2 (by lia) hu0 he;rw[z1] at r0 r0';rw[show min ds.length es.length=ds.length by lia,show(ds.length==es.length)=af by simpa using hz,i5];exact⟨r0,r0'⟩
     ·have hz':(its1.toArray.size !=its2.toArray.size)=af:=by rw[z1,z2];simpa using hz
      rw[show(ds.length==es.length)=ai by simpa using hz,lb];exact⟨oB h1 h2 hz' hu0,oD h1 h2 hz' hu0⟩
    obtain⟨r0,r0'⟩:=r00;refine⟨r0,r0',?_⟩;by_cases hpq:p=q
    ·subst hpq;have hab:(ξ ds)=(.scr es):=Rep.inj I hK (n+1) ha hb rx ry;cases hab
    ·exact mS hpq r0
   |_=>first|exact bd ry Rep.uD|exact fx0 hb
  |scr ds=>
   obtain⟨p,xs,rfl,e1,r1⟩:=jP hK rx;cases ru;obtain⟨its1,vr1,h1⟩:=dB I e1;replace ha:μ _ _=af:=ha;cases b with
   |non=>cases ry.inv;cases rv;exact⟨yx h1 hu0,yy h1 hu0,yz h1 hu0⟩
   |bl _=>cases ry.inv;cases rv;exact⟨yA _ h1 hu0,yB _ h1 hu0,yT _ h1 hu0⟩
   |int _=>cases ry.inv;obtain⟨t2,rfl⟩:=rv;exact⟨yY _ _ h1 hu0,za _ _ h1 hu0,zb _ _ h1 hu0⟩
   |str _=>cases ry.inv;obtain⟨t2,rfl⟩:=rv;exact⟨zc _ _ h1 hu0,zd _ _ h1 hu0,ze _ _ h1 hu0⟩
   |tup es=>
    obtain⟨q,ys,rfl,e2,r2⟩:=ry.fO;cases rv;obtain⟨its2,vr2,h2⟩:=fY I e2;exact⟨zf h1 h2 hu0,zg h1 h2 hu0,zh h1 h2 hu0⟩
   |lst es=>
    obtain⟨q,ys,rfl,e2,r2⟩:=ry.iU (K:=X.K);cases rv;obtain⟨its2,vr2,h2⟩:=dB I e2;replace hb:μ _ _=af:=hb;have z1:its1.toArray.size=ds.length:=by rw[cg,<-vr1.length,r1.length]
    have z2:its2.toArray.size=es.length:=by rw[cg,<-vr2.length,r2.length]
    have he:=itm ha hb r1 r2 vr1 vr2;have r00:iw A s (.ref p) (.ref q) (eqD (.scr ds) (.lst es))/\ix A s (.ref p) (.ref q) (!eqD (.scr ds) (.lst es)):=by
     show iw A s (.ref p) (.ref q) (lJ ds es)/\ix A s (.ref p) (.ref q) (!lJ ds es);rw[iW];by_cases hz:ds.length=es.length
     ·have r0:=oy h1 h2 (by lia) hu0 he;have r0':=oz h1 h2 (by lia) hu0 he;rw[z1] at r0 r0';rw[show min ds.length es.length=ds.length by lia,show(ds.length==es.length)=af by simpa using hz,i5];exact⟨r0,r0'⟩
     ·have hz':(its1.toArray.size !=its2.toArray.size)=af:=by rw[z1,z2];simpa using hz
      rw[show(ds.length==es.length)=ai by simpa using hz,lb];exact⟨oB h1 h2 hz' hu0,oD h1 h2 hz' hu0⟩
    obtain⟨r0,r0'⟩:=r00;refine⟨r0,r0',?_⟩;by_cases hpq:p=q
    ·subst hpq;have hab:(D.scr ds)=(.lst es):=Rep.inj I hK (n+1) ha hb rx ry;cases hab
    ·exact mS hpq r0
   |scr es=>
    obtain⟨q,ys,rfl,e2,r2⟩:=jP hK ry;cases rv;obtain⟨its2,vr2,h2⟩:=dB I e2;replace hb:μ _ _=af:=hb;have z1:its1.toArray.size=ds.length:=by rw[cg,<-vr1.length,r1.length]
    have z2:its2.toArray.size=es.length:=by rw[cg,<-vr2.length,r2.length]
    have he:=itm ha hb r1 r2 vr1 vr2;have r00:iw A s (.ref p) (.ref q) (eqD (.scr ds) (.scr es))/\ix A s (.ref p) (.ref q) (!eqD (.scr ds) (.scr es)):=by
     show iw A s (.ref p) (.ref q) (lJ ds es)/\ix A s (.ref p) (.ref q) (!lJ ds es);rw[iW];by_cases hz:ds.length=es.length
     ·have r0:=oy h1 h2 (by lia) hu0 he;have r0':=oz h1 h2 (by lia) hu0 he;rw[z1] at r0 r0';rw[show min ds.length es.length=ds.length by lia,show(ds.length==es.length)=af by simpa using hz,i5];exact⟨r0,r0'⟩
     ·have hz':(its1.toArray.size !=its2.toArray.size)=af:=by rw[z1,z2];simpa using hz
      rw[show(ds.length==es.length)=ai by simpa using hz,lb];exact⟨oB h1 h2 hz' hu0,oD h1 h2 hz' hu0⟩
    obtain⟨r0,r0'⟩:=r00;refine⟨r0,r0',?_⟩;by_cases hpq:p=q
    ·subst hpq;have hab:(D.scr ds)=(.scr es):=Rep.inj I hK (n+1) ha hb rx ry;rw[<-hab,vD (n+1) (.scr ds) ha];exact ox _
    ·exact mS hpq r0
   |_=>first|exact bd ry Rep.uD|exact fx0 hb
  |_=>first|exact bd rx Rep.uD|exact fx0 ha
end
end
open PySem.AutoSeq1 (wpAny_loadPart')
open PySem.MeetsSeq PySem.MeetsSeq2 PySem.MeetsSeq3
variable [KFrag]
def eY.op:eY->gr
 |.lt=>.Lt|.le=>.LtE|.gt=>.Gt|.ge=>.GtE
def aCd(op:gr)(A:bw)(s:ao)(u v:aj)(b:ap):Prop:=
 ∀(prog:bn)(w:bi)(E:aj->ao->Prop)(Q:aj->ao->Prop),Q (.bool b) s->ϑ (ax prog w) A (lm op u v) Q E s
def C2(o:eY)(A:bw)(s:ao)(vs ws:aa aj)(xs ys:aa D):Prop:=
 vs.length=xs.length/\ws.length=ys.length/\∀(j:ah)(v w:aj)(x y:D),vs[j]?=ae v->ws[j]?=ae w->xs[j]?=ae x->ys[j]?=ae y->
  EqAt A s v w (eqD x y)/\(eqD x y=ai->∀k,gK o x y=ae k->aCd o.op A s v w k)
theorem C2.tail(h:C2 o A s (v::vs) (w::ws) (x::xs) (y::ys)):C2 o A s vs ws xs ys:=
 ⟨by simpa using h.1,by simpa using h.2.1,λj a b c d e1 e2 e3 e4=>h.2.2 (j+1) a b c d (by simpa using e1) (by simpa using e2) (by simpa using e3) (by simpa using e4)⟩
def eY.bt:eY->Builtin
 |.lt=>Builtin.«tuple.__lt__»|.le=>Builtin.«tuple.__le__»|.gt=>Builtin.«tuple.__gt__»|.ge=>Builtin.«tuple.__ge__»
theorem P0(o q:eY)(eq:q=o)(l b:al)(items items2:aw aj)(n n2:ah)(dd dd2:az al)(sl sl2:aw (az aj))(xs ys:aa D)(res:ap)(hr:dG q xs ys=ae res) :
  kq (o.bt ⟨[.ref l,.ref b],[]⟩)
   (λA R s=>s.heap.get? l=ae {cls:=.type "tuple",dict:=dd,data:=.seq items n,slots:=sl}/\s.heap.get? b=ae {cls:=.type "tuple",dict:=dd2,data:=.seq items2 n2,slots:=sl2}/\
    C2 q A.in1 s items.toList items2.toList xs ys/\R (.ok (.ret (.bool res))) s):=by
 cases o<;>exact .of_wp λprog w A R s h=>by
  obtain⟨hp,g,d,tk,os⟩:=s;obtain⟨hl,hb,hC,h⟩:=h;have f2:=BB;have z1:items.size=xs.length:=by rw[<-hC.1];simp
  have z2:items2.size=ys.length:=by rw[<-hC.2.1];simp
  wp_walk using wpAny_loadPart' hl,wpAny_loadPart' hb,wpAny_forIn_list _ (λrest b s'=>b.1=ak/\s'=⟨hp,g,d,tk,os⟩/\∃(vs ws:aa aj)(xs' ys':aa D),rest=vs.zip ws/\
   C2 q A.in1 ⟨hp,g,d,tk,os⟩ vs ws xs' ys'/\xs'.length+items2.size=ys'.length+items.size/\dG q xs' ys'=ae res) _
  case turn=>
   subst eq;rintro⟨y,x⟩ rest b s' ⟨hb',rfl,vs,ws,xs',ys',hz,hC',hlen,hR⟩;cases vs with
   |nil=>rw[zi] at hz;cases hz
   |cons v vs=>
    cases ws with
    |nil=>rw[zk] at hz;cases hz
    |cons w' ws=>
     rw[oI] at hz;injection hz with hyx hrest
     injection hyx with hy hx
     subst hy hx;cases xs' with
     |nil=>exact bd hC'.1 (by simp)
     |cons x0 xs'=>
      cases ys' with
      |nil=>exact bd hC'.2.1 (by simp)
      |cons y0 ys'=>
       rw[dG] at hR;simp only[ck] at hlen;obtain⟨he,hlt⟩:=hC'.2.2 0 _ _ _ _ rfl rfl rfl rfl;refine ay (he prog w _ _ ?_);cases e:eqD x0 y0 with
       |true=>
        rw[e] at hR;simp only[cb] at hR
        wp_walk
        exact⟨rfl,rfl,_,_,_,_,hrest,hC'.tail,by lia,hR⟩
       |false=>
        rw[e] at hR;simp only[c_,b9] at hR;have hri:=hlt e res hR prog w;dsimp only[eY.op] at hri
        wp_walk using hri
        exact⟨_,rfl,by simpa using h⟩
  case fin=>
   rintro⟨b1,b2⟩ s' ⟨hb',rfl,vs,ws,xs',ys',hz,hC',hlen,hR⟩;simp only at hb';subst hb';have hv:res=eY.nat q items.size items2.size:=by
    subst eq;cases xs' with
    |nil=>
     rw[dG] at hR;have:=cx hR;rw[<-this];simp only[eT] at hlen;simp only[eY.nat]
     congr 1
     simp only[kr];lia
    |cons x0 xs'=>
     cases ys' with
     |nil=>
      rw[dG] at hR;have:=cx hR;rw[<-this];simp only[eT,ck] at hlen;simp only[eY.nat,ck]
      congr 1
      simp only[kr];lia
     |cons y0 ys'=>
      exfalso;cases vs with
      |nil=>exact bd hC'.1 (by simp)
      |cons v vs=>
       cases ws with
       |nil=>exact bd hC'.2.1 (by simp)
       |cons w' ws=>rw[oI] at hz;cases hz
   rw[hv] at h;subst eq
   wp_walk
   exact⟨_,rfl,by simpa[BC,eY.nat] using h⟩
  case h=>
   exact⟨rfl,rfl,items.toList,items2.toList,xs,ys,rfl,hC,by lia,hr⟩
theorem aCd.tup(o:eY)(hl:s.heap.IsTuple l items)(hb:s.heap.IsTuple b items2)(hC:C2 o A.in1 s items.toList items2.toList xs ys)(hr:dG o xs ys=ae res)(hu:A.units<bE) :
  aCd o.op A s (.ref l) (.ref b) res:=λprog w E Q h=>by
 obtain⟨⟨cls,dd,data,sl⟩,ho,hc,n,hd⟩:=id hl;obtain⟨⟨cls2,dd2,data2,sl2⟩,ho2,hc2,n2,hd2⟩:=id hb;simp only at hc hd hc2 hd2;subst hc hd hc2 hd2;have M:=P0 o o rfl l b items items2 n n2 dd dd2 sl sl2 xs ys res hr;have G:_/\_/\C2 o A.in1 s items.toList items2.toList xs ys/\(nw res≠zl/\Q (.bool res) s):=⟨ho,ho2,hC,(λx=>nomatch x),h⟩
 cases o
 ·exact jr ⟨_,ho,rfl⟩ ⟨_,ho2,rfl⟩ PySem.F.slot_tuple_lt PySem.F.entry_tuple_lt (PySem.F.args_tuple_lt_2 _ _) M G hu
 ·exact jr ⟨_,ho,rfl⟩ ⟨_,ho2,rfl⟩ PySem.F.slot_tuple_le PySem.F.entry_tuple_le (PySem.F.args_tuple_le_2 _ _) M G hu
 ·exact jr ⟨_,ho,rfl⟩ ⟨_,ho2,rfl⟩ PySem.F.slot_tuple_gt PySem.F.entry_tuple_gt (PySem.F.args_tuple_gt_2 _ _) M G hu
 ·exact jr ⟨_,ho,rfl⟩ ⟨_,ho2,rfl⟩ PySem.F.slot_tuple_ge PySem.F.entry_tuple_ge (PySem.F.args_tuple_ge_2 _ _) M G hu
def eY.code:eY->ag
 |.lt=>0|.le=>1|.gt=>4|.ge=>5
def eY.btL:eY->Builtin
 |.lt=>Builtin.«list.__lt__»|.le=>Builtin.«list.__le__»|.gt=>Builtin.«list.__gt__»|.ge=>Builtin.«list.__ge__»
theorem ZK{xs:aa α}(h:xs[i]?=ae x):xs.drop i=x::xs.drop (i+1):=by
 obtain⟨hi,rfl⟩:=dy.mp h;exact gz hi
theorem ZL(o:eY){xs ys:aa D}(h:xs.length<=i\/ys.length<=i)(hi:i<=xs.length/\i<=ys.length)(hr:dG o (xs.drop i) (ys.drop i)=ae res):res=o.nat xs.length ys.length:=by
 rcases h with h|h
 ·rw[mo h,dG] at hr;have:=cx hr;rw[<-this,iE];cases o<;>simp only[eY.nat]<;>congr 1<;>simp only[kr]<;>lia
 ·rw[mo h] at hr;cases hx:xs.drop i with
  |nil=>
   rw[hx,dG] at hr;have:=cx hr;have hl:=d6 gu hx;rw[iE] at hl;simp only[eT] at hl this;rw[<-this];cases o<;>simp only[eY.nat]<;>congr 1<;>simp only[kr]<;>lia
  |cons x r=>
   rw[hx,dG] at hr;have:=cx hr;have hl:=d6 gu hx;rw[iE] at hl;rw[<-hl] at this;rw[<-this];cases o<;>simp only[eY.nat]<;>congr 1<;>simp only[kr]<;>lia
theorem aCu(o q:eY)(eq:q=o)(l b:al)(items items2:aw aj)(n n2:ah)(dd dd2:az al)(sl sl2:aw (az aj))(xs ys:aa D)(res:ap)(k:ah) :
  ∀i:ah,items.size-i=k->i<=items.size/\i<=items2.size->dG q (xs.drop i) (ys.drop i)=ae res->kq (Builtin.«list.__eq__.loop» ⟨[.ref l,.ref b,gX i,gX o.code],[]⟩)
   (λA R s=>s.heap.get? l=ae {cls:=.type "list",dict:=dd,data:=.seq items n,slots:=sl}/\s.heap.get? b=ae {cls:=.type "list",dict:=dd2,data:=.seq items2 n2,slots:=sl2}/\
    C2 q A.in1 s items.toList items2.toList xs ys/\R (.ok (.ret (.bool res))) s):=by
 induction k with
 |zero=>
  intro i hk hi hr;cases o<;>exact λprog w A R s h=>by
   obtain⟨hp,g,d,tk,os⟩:=s;obtain⟨hl,hb,hC,h⟩:=h;have z1:items.size=xs.length:=by rw[<-hC.1];simp
   have z2:items2.size=ys.length:=by rw[<-hC.2.1];simp
   have hv:=ZL q (.inl (by lia)) (by lia) hr;subst eq;have e1:items[((i:ah):ag).toNat]?=ak:=by simp;lia
   wp_walk using wpAny_loadPart' hl,wpAny_loadPart' hb
   rw[e1]
   wp_walk using wpAny_loadPart' hl,wpAny_loadPart' hb
   rw[hv,<-z1,<-z2] at h;exact h
 |succ k ih=>
  intro i hk hi hr;cases o<;>exact λprog w A R s h=>by
   obtain⟨hp,g,d,tk,os⟩:=s;obtain⟨hl,hb,hC,h⟩:=h;have z1:items.size=xs.length:=by rw[<-hC.1];simp
   have z2:items2.size=ys.length:=by rw[<-hC.2.1];simp
   have l1:i<items.size:=by lia
   have e1:items[((i:ah):ag).toNat]?=ae items[i]:=by simp[l1]
   by_cases l2:i<items2.size
   ·have e2:items2[((i:ah):ag).toNat]?=ae items2[i]:=by simp[l2]
    have x1:xs[i]?=ae (xs[i]'(by lia)):=by simp
    have y1:ys[i]?=ae (ys[i]'(by lia)):=by simp
    rw[ZK x1,ZK y1,dG] at hr;obtain⟨he,hlt⟩:=hC.2.2 i items[i] items2[i] _ _ (by simp[l1]) (by simp[l2]) x1 y1
    wp_walk using wpAny_loadPart' hl,wpAny_loadPart' hb
    rw[e1,e2];refine ay (he prog w _ _ ?_);cases ee:eqD (xs[i]'(by lia)) (ys[i]'(by lia)) with
    |true=>
     rw[ee,aq rfl] at hr
     wp_walk
     rw[show((i:ag)+1)=((i+1:ah):ag) by lia];refine⟨gj oP _,gn zm ?_⟩;rw[gS oP _];exact ih (i+1) (by lia) (by lia) hr prog w A R _ ⟨hl,hb,hC,h⟩
    |false=>
     rw[ee,av (by simp)] at hr;subst eq;have hri:=hlt ee res hr prog w;dsimp only[eY.op] at hri
     wp_walk using wpAny_loadPart' hl,wpAny_loadPart' hb
     rw[e1,e2]
     wp_walk using hri
     exact h
   ·have hv:=ZL q (.inr (by lia)) (by lia) hr;subst eq;have e2:items2[((i:ah):ag).toNat]?=ak:=by simp;lia
    wp_walk using wpAny_loadPart' hl,wpAny_loadPart' hb
    rw[e1,e2]
    wp_walk using wpAny_loadPart' hl,wpAny_loadPart' hb
    rw[hv,<-z1,<-z2] at h;exact h
theorem zB(o:eY)(l b:al)(items items2:aw aj)(n n2:ah)(dd dd2:az al)(sl sl2:aw (az aj))(xs ys:aa D)(res:ap)(hr:dG o xs ys=ae res) :
  kq (o.btL ⟨[.ref l,.ref b],[]⟩)
   (λA R s=>s.heap.get? l=ae {cls:=.type "list",dict:=dd,data:=.seq items n,slots:=sl}/\s.heap.get? b=ae {cls:=.type "list",dict:=dd2,data:=.seq items2 n2,slots:=sl2}/\
    C2 o A.in1 s items.toList items2.toList xs ys/\R (.ok (.ret (.bool res))) s):=by
 have key:=aCu o o rfl l b items items2 n n2 dd dd2 sl sl2 xs ys res items.size 0 (by lia) (by lia) hr;cases o<;>exact λprog w A R s h=>by
  have f2:=zn;obtain⟨hp,g,d,tk,os⟩:=s;obtain⟨hl,hb,hC,h⟩:=h
  wp_walk using wpAny_loadPart' hl,wpAny_loadPart' hb
  refine⟨gj oP _,gn zm ?_⟩;rw[gS oP _];exact key prog w A R _ ⟨hl,hb,hC,h⟩
theorem aCd.lst(o:eY)(hl:s.heap.IsList l items)(hb:s.heap.IsList b items2)(hC:C2 o A.in1 s items.toList items2.toList xs ys)(hr:dG o xs ys=ae res)(hu:A.units<bE) :
  aCd o.op A s (.ref l) (.ref b) res:=λprog w E Q h=>by
 obtain⟨⟨cls,dd,data,sl⟩,ho,hc,n,hd⟩:=id hl;obtain⟨⟨cls2,dd2,data2,sl2⟩,ho2,hc2,n2,hd2⟩:=id hb;simp only at hc hd hc2 hd2;subst hc hd hc2 hd2;have M:=zB o l b items items2 n n2 dd dd2 sl sl2 xs ys res hr;have G:_/\_/\C2 o A.in1 s items.toList items2.toList xs ys/\(nw res≠zl/\Q (.bool res) s):=⟨ho,ho2,hC,(λx=>nomatch x),h⟩
 cases o
 ·exact jr ⟨_,ho,rfl⟩ ⟨_,ho2,rfl⟩ ua zo (zp _ _) M G hu
 ·exact jr ⟨_,ho,rfl⟩ ⟨_,ho2,rfl⟩ PySem.F.slot_list_le PySem.F.entry_list_le (PySem.F.args_list_le_2 _ _) M G hu
 ·exact jr ⟨_,ho,rfl⟩ ⟨_,ho2,rfl⟩ PySem.F.slot_list_gt PySem.F.entry_list_gt (PySem.F.args_list_gt_2 _ _) M G hu
 ·exact jr ⟨_,ho,rfl⟩ ⟨_,ho2,rfl⟩ PySem.F.slot_list_ge PySem.F.entry_list_ge (PySem.F.args_list_ge_2 _ _) M G hu
section
theorem R8(o:eY)(na:∀ds,a≠.tup ds)(nb:∀ds,a≠.scr ds)(nc:∀ds,a≠.lst ds)(rx:Rep All H x a)(ry:Rep All H y b)(ru:RelV x u)(rv:RelV y v)(hk:gK o a b=ae k):aCd o.op A s u v k:=by
 cases a with
 |int i=>
  cases b with
  |int j=>
   cases rx;cases ry;obtain⟨t,rfl⟩:=ru;obtain⟨t',rfl⟩:=rv;rw[gK] at hk;have:=cx hk;subst this;cases o with
   |lt=>exact λprog w E Q h=>(BD h:ϑ (ax prog w) A (de .Lt (.int i t) (.int j t')) Q E s)
   |le=>exact λprog w E Q h=>(BE h:ϑ (ax prog w) A (de .LtE (.int i t) (.int j t')) Q E s)
   |gt=>exact λprog w E Q h=>(BF h:ϑ (ax prog w) A (de .Gt (.int i t) (.int j t')) Q E s)
   |ge=>exact λprog w E Q h=>(BG h:ϑ (ax prog w) A (de .GtE (.int i t) (.int j t')) Q E s)
  |_=>exact nx0 hk
 |str i=>
  cases b with
  |str j=>
   cases rx;cases ry;obtain⟨t,rfl⟩:=ru;obtain⟨t',rfl⟩:=rv;rw[gK] at hk;have:=cx hk;subst this;cases o with
   |lt=>exact λprog w E Q h=>(BH h:ϑ (ax prog w) A (de .Lt (.str i t) (.str j t')) Q E s)
   |le=>exact λprog w E Q h=>(PySem.P.le_str h:ϑ (ax prog w) A (de .LtE (.str i t) (.str j t')) Q E s)
   |gt=>exact λprog w E Q h=>(PySem.P.gt_str h:ϑ (ax prog w) A (de .Gt (.str i t) (.str j t')) Q E s)
   |ge=>exact λprog w E Q h=>(PySem.P.ge_str h:ϑ (ax prog w) A (de .GtE (.str i t) (.str j t')) Q E s)
  |_=>exact nx0 hk
 |tup ds=>exact bd rfl (na ds)
 |scr ds=>exact bd rfl (nb ds)
 |lst ds=>exact bd rfl (nc ds)
 |_=>cases b<;>exact nx0 hk
theorem P_{X:Cx}(hK:KFrag.K=X.K)(I:Inv X Ψ σ H s)(o:eY):∀(n:ah)(A:bw){x y:V}{a b:D}{u v:aj}{k:ap},A.units+n<bE->a.fD n=af->b.fD n=af->Rep All H x a->Rep All H y b->RelV x u->RelV y v->
  gK o a b=ae k->aCd o.op A s u v k:=by
 intro n;induction n with
 |zero=>
  intro A x y a b u v k hu ha hb rx ry ru rv hk;cases a with
  |tup _=>exact fx0 ha
  |scr _=>exact fx0 ha
  |lst _=>exact fx0 ha
  |_=>exact R8 o (by intro ds z;cases z) (by intro ds z;cases z) (by intro ds z;cases z) rx ry ru rv hk
 |succ n ih=>
  intro A x y a b u v k hu ha hb rx ry ru rv hk;have hu0:A.units<bE:=by lia
  have hu1:A.in1.units+n<bE:=by show A.units+1+n<bE;lia
  have hC:∀{xs ys:aa V}{ds es:aa D}{its1 its2:aa aj},μ n ds=af->μ n es=af->bL All H xs ds->bL All H ys es->Vals xs its1->Vals ys its2->C2 o A.in1 s its1.toArray.toList its2.toArray.toList ds es:=by
   intro xs ys ds es its1 its2 ha hb r1 r2 vr1 vr2;refine⟨by rw[kt,<-vr1.length,r1.length],by rw[kt,<-vr2.length,r2.length],λj v w x y a1 a2 a3 a4=>?_⟩;rw[kt] at a1 a2;obtain⟨v1,w1,rr1⟩:=r1.get a3;obtain⟨v2,w2,rr2⟩:=r2.get a4;obtain⟨u1,k1,l1⟩:=vr1.get w1;obtain⟨u2,k2,l2⟩:=vr2.get w2;rw[a1] at k1;cases k1;rw[a2] at k2;cases k2;have g1:x.fD n=af:=by
    have:=iB ha (dy.mp a3).1;rwa [eu,a3] at this
   have g2:y.fD n=af:=by
    have:=iB hb (dy.mp a4).1;rwa [eu,a4] at this
   exact⟨(JR hK I n A.in1 hu1 g1 g2 rr1 rr2 l1 l2).2.2,λ_ k hk=>ih A.in1 hu1 g1 g2 rr1 rr2 l1 l2 hk⟩
  cases a with
  |tup ds=>
   cases b with
   |tup es=>
    obtain⟨p,xs,rfl,e1,r1⟩:=rx.fO;cases ru;obtain⟨its1,vr1,h1⟩:=fY I e1;obtain⟨q,ys,rfl,e2,r2⟩:=ry.fO;cases rv;obtain⟨its2,vr2,h2⟩:=fY I e2;rw[D.fD] at ha hb;rw[gK] at hk;exact aCd.tup o h1 h2 (hC ha hb r1 r2 vr1 vr2) hk hu0
   |_=>exact nx0 hk
  |scr ds=>
   cases b with
   |scr es=>
    obtain⟨p,xs,rfl,e1,r1⟩:=jP hK rx;cases ru;obtain⟨its1,vr1,h1⟩:=dB I e1;obtain⟨q,ys,rfl,e2,r2⟩:=jP hK ry;cases rv;obtain⟨its2,vr2,h2⟩:=dB I e2;rw[D.fD] at ha hb;rw[gK] at hk;exact aCd.lst o h1 h2 (hC ha hb r1 r2 vr1 vr2) hk hu0
   |_=>exact nx0 hk
  |lst ds=>
   cases b with
   |scr es=>
    obtain⟨p,xs,rfl,e1,r1⟩:=rx.iU (K:=X.K);cases ru;obtain⟨its1,vr1,h1⟩:=dB I e1;obtain⟨q,ys,rfl,e2,r2⟩:=jP hK ry;cases rv;obtain⟨its2,vr2,h2⟩:=dB I e2;replace ha:μ n ds=af:=ha;replace hb:μ n es=af:=hb;replace hk:dG o ds es=ae k:=hk;exact aCd.lst o h1 h2 (hC ha hb r1 r2 vr1 vr2) hk hu0
   |_=>exact nx0 hk
  |_=>exact R8 o (by intro ds z;cases z) (by intro ds z;cases z) (by intro ds z;cases z) rx ry ru rv hk
end
end Mi
namespace TS
open PySem PyProof.Rows
theorem CG(ho:s.heap.get? a=ae (eB "list" vs.toArray n))(hn:vs.length<=bj)
 (hk:2<=vs.length->∃κ U blt,Ord U blt/\rP U (fF vs)/\
   (∀Q:gh->ao->Prop,Q κ {s with heap:=((s.heap.update a (fA λ_=>(#[]:aw aj))).push (eB "tuple" vs.toArray 0)).push (eB "list" #[] 0)}->ϑ (ax prog w) A (ub vs.toArray) Q E {s with heap:=((s.heap.update a (fA λ_=>(#[]:aw aj))).push (eB "tuple" vs.toArray 0)).push (eB "list" #[] 0)})/\
   VF prog w A E {s with heap:=((s.heap.update a (fA λ_=>(#[]:aw aj))).push (eB "tuple" vs.toArray 0)).push (eB "list" #[] 0)} κ U blt/\
   ∀arr:aw au,arr.Perm (fF vs)->Srt blt arr 0 (fF vs).size->P (.done (.ret .none)) {s with heap:=uc s.heap a vs (arr.map (·.2))})
 (h1:vs.length<2->P (.done (.ret .none)) {s with heap:=uc s.heap a vs ((fF vs).map (·.2))}) :
  ϑ (ax prog w) A (Builtin.«list.sort» ⟨[.ref a],[]⟩) P E s:=by
 rw[list_sort_plain];have ha:a<s.heap.objs.size:=bS ho;refine ay (listItems_at ho rfl ?_);refine ay (ud ho rfl ?_ (by rw[cg];exact hn) (eR _));obtain⟨e1,ho1⟩:∃e1,(s.heap.update a (fA λ_=>(#[]:aw aj))).get? a=ae (eB "list" #[] e1):=⟨_,get?_update_seq ho (λ_=>#[])⟩
 refine ay (ue ho1 rfl ?_);refine ay (wpAny_newTuple ?_ (by show vs.length<=_;exact hn));refine ay (zq ?_ (eR _));refine gv ?_;have ho6:(((s.heap.update a (fA λ_=>(#[]:aw aj))).push (eB "tuple" vs.toArray 0)).push (eB "list" #[] 0)).get? a=ae (eB "list" #[] e1):=by
  rw[zr _ _ _ (by rw[size_push',uf];exact c9 (ic ha)),zr _ _ _ (by rw[uf];exact c9 ha)];exact ho1
 show ϑ (ax prog w) A _ P E {s with heap:=((s.heap.update a (fA λ_=>(#[]:aw aj))).push (eB "tuple" vs.toArray 0)).push (eB "list" #[] 0)};dsimp only;have hsz:vs.toArray.size=vs.length:=by simp
 by_cases h2:vs.toArray.size<2
 ·rw[aq h2,aq h2];refine ay (bf ?_);rw[StateT.run_pure];refine ay (bf ?_);dsimp only;refine ay (ue ho6 rfl ?_);refine ay (ud ho6 rfl ?_ (eR _) (hsz2:=by rw[zt];show(fF vs).size<=_;rw[pairsOf_size];exact zu hn));simp only[zv,c_,b9];exact bf (h1 (by lia))
 ·rw[av h2,av h2];obtain⟨κ,U,blt,O,hU,hkk,hL,fin⟩:=hk (by lia);refine ay (hkk _ ?_);refine ay (eL (wpS_sortRuns
   (Q:=λ_ st'=>(am st').Perm (fF vs)/\fx st'=ak/\Srt blt (am st') 0 (fF vs).size) O hL hU ⟨rfl,rfl,mM _⟩ rfl (by rw[pairsOf_size];lia) λst' b z=>⟨b.pm,b.fl,z⟩) ?_ λ_ _ e=>e)
  rintro⟨⟨⟩,st'⟩ s' ⟨rfl,hp,hf,hs⟩;dsimp only;refine ay (ue ho6 rfl ?_);refine ay (ud ho6 rfl ?_ (eR _) (hsz2:=by refine dn (og ((zt ..).trans (hp.size_eq.trans (pairsOf_size _)))) ?_;exact zu hn));rw[hf];simp only[zv,c_,b9];exact bf (fin (am st') hp hs)
noncomputable def aIm(h:aT)(vs:aa aj):aT:=
 (((h.push (eB "list" vs.toArray 0)).update h.objs.size (fA λ_=>(#[]:aw aj))).push (eB "tuple" vs.toArray 0)).push (eB "list" #[] 0)
theorem aCv(hb:h.get? b=ae o):(aIm h vs).get? b=ae o:=by
 have hlt:b<h.objs.size:=bS hb;unfold aIm;refine cr _ (cr _ ?_);rw[zw _ _ _ _ (c9 hlt)];exact cr _ hb
noncomputable def aIn(h:aT)(vs:aa aj)(out:aw aj):aT:=uc (h.push (eB "list" vs.toArray 0)) h.objs.size vs out
theorem aCw(hb:h.get? b=ae o):(aIn h vs out).get? b=ae o:=by
 have hlt:b<h.objs.size:=bS hb;unfold aIn;rw[sortedHeap_old (c9 hlt) (by rw[size_push'];exact ic hlt)];exact cr _ hb
theorem aG9(h:aT)(vs:aa aj)(out:aw aj):∃e,(aIn h vs out).get? h.objs.size=ae (eB "list" out e):=sortedHeap_at (di _ rfl)
theorem VP(hn:vs.length<=bj)
 (hcol:∀(Q':aa aj->ao->Prop) (E':aj->ao->Prop),(∀h1 tk,(∀b o,s.heap.get? b=ae o->h1.get? b=ae o)->s.heap.objs.size<=h1.objs.size->Q' vs {s with heap:=h1,toks:=tk})->ϑ (ax prog w) A.in1 (mT v) Q' E' s)
 (hk:∀h1 tk,(∀b o,s.heap.get? b=ae o->h1.get? b=ae o)->s.heap.objs.size<=h1.objs.size->2<=vs.length->∃κ U blt,Ord U blt/\rP U (fF vs)/\
   (∀Q:gh->ao->Prop,Q κ {s with heap:=aIm h1 vs,toks:=tk}->ϑ (ax prog w) A.in1.in1 (ub vs.toArray) Q (λ_ _=>cy) {s with heap:=aIm h1 vs,toks:=tk})/\
   VF prog w A.in1.in1 (λ_ _=>cy) {s with heap:=aIm h1 vs,toks:=tk} κ U blt/\
   ∀arr:aw au,arr.Perm (fF vs)->Srt blt arr 0 (fF vs).size->Q (.ref h1.objs.size) {s with heap:=aIn h1 vs (arr.map (·.2)),toks:=tk})
 (h1:∀h1 tk,(∀b o,s.heap.get? b=ae o->h1.get? b=ae o)->s.heap.objs.size<=h1.objs.size->vs.length<2->Q (.ref h1.objs.size) {s with heap:=aIn h1 vs ((fF vs).map (·.2)),toks:=tk}) :
  ϑ (ax prog w) A (call (.builtin "sorted") [v]) Q E s:=by
 refine Calls.call_function_entry kind_sorted plain_sorted entry_sorted (args_sorted1 _) ?_;unfold Builtin.«sorted»;refine ay (bf ?_);refine ay (hcol _ _ λhh tk kp hle=>?_);refine ay (zq ?_ hn);have hoL:(hh.push (eB "list" vs.toArray 0)).get? hh.objs.size=ae (eB "list" vs.toArray 0):=di _ rfl;show ϑ _ _ _ _ _ {s with heap:=hh.push (eB "list" vs.toArray 0),toks:=tk};refine ay (gv (l7 slot_list_sort ⟨_,hoL,rfl⟩ entry_list_sort ?body (args_list_sort _)))
 case body=>
  refine eL (CG (E:=λ_ _=>cy) (P:=λf s'=>∃v,f=.done (.ret v)/\v=jy/\Q (.ref hh.objs.size) s') hoL hn (λh2=>?_) (λh2=>⟨_,rfl,rfl,h1 hh tk kp hle h2⟩)) (λf s' h=>?_) λ_ _ z=>fm z
  ·obtain⟨κ,U,blt,O,hU,hkk,hL,fin⟩:=hk hh tk kp hle h2;exact⟨κ,U,blt,O,hU,hkk,hL,λarr p z=>⟨_,rfl,rfl,fin arr p z⟩⟩
  ·obtain⟨v,rfl,rfl,q⟩:=h;exact⟨_,rfl,bf ⟨_,rfl,q⟩⟩
end TS
namespace Mi
open PySem L2 PySem.SeqAt
open PyProof.Rows (Keyed lt' keyLt' oneLt' SortKind SortSt kindOf tuples' oneType' pairsOf wpS wpS_bind wpS_pure wpS_get wpS_lift keyKind')
section
variable [KFrag]
def mO(H:Hp)(u:aj):D:=by
 classical
 exact if h:∃d,d.plain=af/\d.fD aR=af/\∃v,RelV v u/\Rep All H v d then zz h else .non
theorem vG{X:Cx}{Ψ:aa (al×bb)}{σ:L2.St}{s:ao}(hK:KFrag.K=X.K)(I:Inv X Ψ σ H s)(hp:d.plain=af)(hq:d.fD aR=af)(rv:RelV v u)(r:Rep All H v d):mO H u=d:=by
 unfold mO;have h:∃d,d.plain=af/\d.fD aR=af/\∃v,RelV v u/\Rep All H v d:=⟨d,hp,hq,v,rv,r⟩
 rw[tT h];obtain⟨h1,h2,v',rv',r'⟩:=zC h;have:=rv'.inj rv;subst this;exact Rep.inj I hK aR h2 hq r' r
theorem eF(h:bD ds=af)(ha:a∈ds):a.plain=af/\a.fD aR=af/\dZ a≠0/\dZ a=dZ (ds.headD .non)/\∀b∈ds,∃k,gK .lt a b=ae k:=by
 unfold bD at h;have:=dh.mp h a ha;simp only[bg,bne_iff_ne,mE] at this;obtain⟨⟨⟨⟨h1,h2⟩,h3⟩,h4⟩,h5⟩:=this;refine⟨h1,h2,h3,h4,λb hb=>sM.mp (dh.mp h5 b hb)⟩
theorem aJy(h:bD ds=af)(ha:a∈ds)(hb:b∈ds):gK .lt a b=ae (ϒ (enc a<enc b)):=by
 obtain⟨p1,_,_,_,q⟩:=eF h ha;obtain⟨p2,_⟩:=eF h hb;obtain⟨k,hk⟩:=q b hb;rw[hk,PL a b k p1 p2 hk]
def sU(H:Hp)(ds:aa D)(k:au):Prop:=∃v d,RelV v k.1/\Rep All H v d/\d∈ds
def sLt(H:Hp)(x y:au):ap:=ϒ (enc (mO H x.1)<enc (mO H y.1))
theorem aOv(H:Hp)(ds:aa D):TS.Ord (sU H ds) (sLt H):=by
 refine⟨λx _=>?_,λx y z _ _ _ h1 h2=>?_,λx y z _ _ _ h=>?_⟩
 ·simp[sLt,zD]
 ·simp only[sLt,d4] at *;exact List.lt_trans h1 h2
 ·simp only[sLt,d4] at *;by_cases q:enc (mO H x.1)<enc (mO H y.1)
  ·exact .inl q
  ·exact .inr (xS (ya.mp q) h)
section
variable {X:Cx} {Ψ:aa (al×bb)} {σ:L2.St} {H:Hp} {s:ao}
open PySem.W in
theorem CJ:∀(vs ws:aa aj)(xs ys:aa D)(i:ah),(b&&i==0)=ai->C2 .lt A s vs ws xs ys->dG .lt xs ys=ae k->xs.length+n2=ys.length+n1->Q k s->
  KatLex prog w A b (ϒ (n1<n2)) Q (vs.zip ws) i s
 |[],ws,xs,ys,i,_,hC,hk,hf,q=>by
  have:xs=[]:=ug hC.1.symm;subst this;rw[zi];rw[dG] at hk;have e:k=ϒ (n1<n2):=by
   rw[<-cx hk];simp only[eY.nat,eT] at hf ⊢
   congr 1
   simp only[kr];lia
  rw[<-e];exact q
 |v::vs,[],xs,ys,i,_,hC,hk,hf,q=>by
  have:ys=[]:=ug hC.2.1.symm;subst this;rw[zk];cases xs with
  |nil=>exact bd hC.1 (by simp)
  |cons x xs=>
   rw[dG] at hk;have e:k=ϒ (n1<n2):=by
    rw[<-cx hk];simp only[eY.nat,eT,ck] at hf ⊢
    congr 1
    simp only[kr];lia
   rw[<-e];exact q
 |v::vs,w'::ws,[],ys,i,_,hC,hk,hf,q=>bd hC.1 (by simp)
 |v::vs,w'::ws,x::xs,[],i,_,hC,hk,hf,q=>bd hC.2.1 (by simp)
 |v::vs,w'::ws,x::xs,y::ys,i,hi,hC,hk,hf,q=>by
  rw[oI];obtain⟨he,hlt⟩:=hC.2.2 0 _ _ _ _ rfl rfl rfl rfl;rw[dG] at hk;refine kat_cons (he prog w _ _ ?_);cases e:eqD x y with
  |true=>
   rw[e,aq rfl] at hk;exact kat_yes (CJ vs ws xs ys (i+1) (by simp) hC.tail hk (by simp only[ck] at hf;lia) q)
  |false=>
   rw[e,av (by simp)] at hk;refine kat_no ?_;rw[hi];exact kat_one _ _ (hlt e k hk prog w _ _ q)
theorem aJz{X:Cx}(hK:KFrag.K=X.K)(I:Inv X Ψ σ H s)(hu:A.units+n<bE)(ha:μ n ds=af)(hb:μ n es=af)(r1:bL All H xs ds)(r2:bL All H ys es)(vr1:Vals xs its1)(vr2:Vals ys its2) :
  C2 .lt A s its1 its2 ds es:=by
 refine⟨by rw[<-vr1.length,r1.length],by rw[<-vr2.length,r2.length],λj v w x y a1 a2 a3 a4=>?_⟩;obtain⟨v1,w1,rr1⟩:=r1.get a3;obtain⟨v2,w2,rr2⟩:=r2.get a4;obtain⟨u1,k1,l1⟩:=vr1.get w1;obtain⟨u2,k2,l2⟩:=vr2.get w2;rw[a1] at k1;cases k1;rw[a2] at k2;cases k2;have g1:x.fD n=af:=by
  have:=iB ha (dy.mp a3).1;rwa [eu,a3] at this
 have g2:y.fD n=af:=by
  have:=iB hb (dy.mp a4).1;rwa [eu,a4] at this
 exact⟨(JR hK I n A hu g1 g2 rr1 rr2 l1 l2).2.2,λ_ k hk=>P_ hK I .lt n A hu g1 g2 rr1 rr2 l1 l2 hk⟩
theorem kind_le(d:D):dZ d<=6:=by
 unfold dZ;split<;>lia
theorem aGa(h:dZ d=1):∃i,d=.int i:=by
 unfold dZ at h;split at h<;>first|lia|exact⟨_,rfl⟩
theorem aGb(h:dZ d=2):∃i,d=.str i:=by
 unfold dZ at h;split at h<;>first|lia|exact⟨_,rfl⟩
theorem aCx(h:dZ d=3):∃i r,d=.tup (.int i::r):=by
 unfold dZ at h;split at h<;>first|lia|exact⟨_,_,rfl⟩
theorem aCy(h:dZ d=4):∃i r,d=.tup (.str i::r):=by
 unfold dZ at h;split at h<;>first|lia|exact⟨_,_,rfl⟩
theorem aK0(h:dZ d=5):∃i r,d=.tup (.tup i::r):=by
 unfold dZ at h;split at h<;>first|lia|exact⟨_,_,rfl⟩
theorem aCz(h:dZ d=6):∃i r,d=.tup (.scr i::r):=by
 unfold dZ at h;split at h<;>first|lia|exact⟨_,_,rfl⟩
theorem R9(r:bL All H xs ds)(vr:Vals xs its)(hu:u∈its):∃v d,RelV v u/\Rep All H v d/\d∈ds:=by
 obtain⟨j,hj,e⟩:=mz hu;have hj':j<ds.length:=by rw[<-r.length,vr.length];exact hj
 obtain⟨v,h1,h2⟩:=r.get (i:=j) (d:=ds[j]) (by simp[hj']);obtain⟨u',h3,h4⟩:=vr.get h1;rw[dz hj,e] at h3;cases h3;exact⟨v,_,h4,h2,gN _⟩
open PySem.W in
theorem wM(I:Inv X Ψ σ H s){F:D->Prop}(hF:∀(d:D) (v:V) (u:aj),F d->RelV v u->Rep All H v d->oQ (ax X.prog X.w) s.heap (k8 u) T) :
  ∀{xs:aa V}{ds:aa D}{its:aa aj},bL All H xs ds->Vals xs its->(∀d∈ds,∃f r,d=.tup (f::r)/\F f)->∃fs,KatTups s.heap its fs/\fs.length=its.length/\∀f∈fs,oQ (ax X.prog X.w) s.heap (k8 f) T
 |_,_,_,.nil,.nil,_=>⟨[],.nil,rfl,λ_ h=>by simp at h⟩
 |_,_,_,.cons r t,.cons v vt,h=>by
  obtain⟨fs,h1,h2,h3⟩:=wM I hF t vt λd hd=>h d (bq _ hd)
  obtain⟨f,rr,rfl,hf⟩:=h _ (bu ..);obtain⟨a,ys,rfl,e,rs⟩:=r.fO;cases v;obtain⟨its2,vr2,o,ho,hc,n,hd⟩:=fY I e;cases rs with
  |cons r0 rs=>
   cases vr2 with
   |cons v0 vr2=>
    refine⟨_::fs,.cons ho hc hd rfl h1,by simp[h2],λg hg=>?_⟩;rcases bm.mp hg with rfl|hg
    ·exact hF _ _ _ hf v0 r0
    ·exact h3 g hg
theorem VR{X:Cx}{s:ao}{E:aj->ao->Prop}(hl:s.heap.IsList l items)(hb:s.heap.IsList b items2)(hC:C2 .lt A.in1 s items.toList items2.toList xs ys)(hr:dG .lt xs ys=ae res)(hu:A.units<bE){Q:ap->ao->Prop}(q:Q res s):ϑ (ax X.prog X.w) A (oneLt' af (.ref l) (.ref b)) Q E s:=by
 obtain⟨⟨cls,dd,data,sl⟩,ho,hc,n,hd⟩:=id hl;obtain⟨⟨cls2,dd2,data2,sl2⟩,ho2,hc2,n2,hd2⟩:=id hb;simp only at hc hd hc2 hd2;subst hc hd hc2 hd2;have M:=zB .lt l b items items2 n n2 dd dd2 sl sl2 xs ys res hr;rw[BI];simp only[cb];refine ay (wpAny_cRoomFor hu ?_);refine ay (wpAny_callSpecialIfBound?_slot ⟨_,ho,rfl⟩ ua (jg ua ⟨_,ho,rfl⟩ zo (zp _ _) M ⟨ho,ho2,hC,?_⟩));exact iA q
open PySem.W in
theorem ZM{X:Cx}(hK:KFrag.K=X.K)(I:Inv X Ψ σ H s)(hu:A.units+aR<bE)(hc:bD ds=af)(r:bL All H xs ds)(vr:Vals xs its)(h2:2<=its.length) :
  ∃κ:gh,(∀Q:gh->ao->Prop,Q κ s->ϑ (ax X.prog X.w) A (ub its.toArray) Q (λ_ _=>cy) s)/\
   ∀(x y:au)(Q:ap->ao->Prop),sU H ds x->sU H ds y->Q (sLt H x y) s->ϑ (ax X.prog X.w) A (keyLt' κ x.1 y.1) Q (λ_ _=>cy) s:=by
 have hlen:ds.length=its.length:=by rw[<-r.length,vr.length]
 have hkind:∀d∈ds,dZ d=dZ (ds.headD .non):=λd hd=>(eF hc hd).2.2.2.1
 have hne:dZ (ds.headD .non)≠0:=by
  have hd:ds.headD .non∈ds:=by
   cases ds with
   |nil=>simp at hlen;lia
   |cons d ds=>simp
  exact(eF hc hd).2.2.1
 have lty:∀{x y:au}{v v':V}{d d':D},RelV v x.1->Rep All H v d->d∈ds->RelV v' y.1->Rep All H v' d'->d'∈ds->gK .lt d d'=ae (sLt H x y):=λ{x y v v' d d'} rv rp hd rv' rp' hd'=>by
  have e1:=vG hK I (eF hc hd).1 (eF hc hd).2.1 rv rp;have e2:=vG hK I (eF hc hd').1 (eF hc hd').2.1 rv' rp';rw[aJy hc hd hd'];unfold sLt;rw[e1,e2]
 -- two tuples whose first items are told by a ka of their own,or by the common one
 have tupl:∀(b:ap)(x y:au)(Q:ap->ao->Prop),sU H ds x->sU H ds y->(∀d∈ds,∃f r,d=.tup (f::r))->
   (b=af->∀(f g:D)(v v':V)(u u':aj)(k:ap)(Q:ap->ao->Prop),(∃r,D.tup (f::r)∈ds)->(∃r,D.tup (g::r)∈ds)->RelV v u->Rep All H v f->RelV v' u'->Rep All H v' g->gK .lt f g=ae k->Q k s->ϑ (ax X.prog X.w) A (oneLt' af u u') Q (λ_ _=>cy) s)->
   Q (sLt H x y) s->ϑ (ax X.prog X.w) A (keyLt' (ng b) x.1 y.1) Q (λ_ _=>cy) s:=by
  rintro b ⟨x1,x2⟩ ⟨y1,y2⟩ Q ⟨v,d,rv,rp,hd⟩ ⟨v',d',rv',rp',hd'⟩ htup hone q;have hk:=lty rv rp hd rv' rp' hd';have q1:=(eF hc hd).2.1;have q2:=(eF hc hd').2.1;obtain⟨f,rr,rfl⟩:=htup d hd;obtain⟨g,rr',rfl⟩:=htup d' hd';obtain⟨a,ys,rfl,e,rs⟩:=rp.fO;obtain⟨a',ys',rfl,e',rs'⟩:=rp'.fO;cases rv;cases rv';obtain⟨i1,vr1,o1,ho1,hc1,n1,hd1⟩:=fY I e;obtain⟨i2,vr2,o2,ho2,hc2,n2,hd2⟩:=fY I e';rw[gK] at hk;have q1':μ 11 (f::rr)=af:=q1;have q2':μ 11 (g::rr')=af:=q2;have hu':A.units+11<bE:=by have:A.units+12<bE:=hu;lia
  have C:=aJz hK I hu' q1' q2' rs rs' vr1 vr2;refine kat_lt ho1 hd1 ho2 hd2 ?_;have z1:i1.toArray.size=(f::rr).length:=by rw[cg,<-vr1.length,rs.length]
  have z2:i2.toArray.size=(g::rr').length:=by rw[cg,<-vr2.length,rs'.length]
  rw[kt,kt,z1,z2];cases b with
  |false=>exact CJ i1 i2 (f::rr) (g::rr') 0 rfl C hk (by lia) q
  |true=>
   cases rs with
   |cons r0 rs=>
    cases rs' with
    |cons r0' rs'=>
     cases vr1 with
     |cons v0 vr1=>
      cases vr2 with
      |cons v0' vr2=>
       rw[oI];obtain⟨he,_⟩:=C.2.2 0 _ _ _ _ rfl rfl rfl rfl;rw[dG] at hk;refine kat_cons (he X.prog X.w _ _ ?_);cases e0:eqD f g with
       |true=>
        rw[e0,aq rfl] at hk;exact kat_yes (CJ _ _ rr rr' 1 (by simp) C.tail hk (by simp only[ck];lia) q)
       |false=>
        rw[e0,av (by simp)] at hk;refine kat_no ?_;exact hone rfl f g _ _ _ _ _ Q ⟨_,hd⟩ ⟨_,hd'⟩ v0 r0 v0' r0' hk q
 have h5:=kind_le (ds.headD .non);have cases5:dZ (ds.headD .non)=1\/dZ (ds.headD .non)=2\/dZ (ds.headD .non)=3\/dZ (ds.headD .non)=4\/dZ (ds.headD .non)=5\/dZ (ds.headD .non)=6:=by lia
 rcases cases5 with c|c|c|c|c|c
 ·refine⟨oneType',λQ q=>kas_kind (T:=.type "int") h2 (λu hm=>?_) (by decide) (by decide) q,λx y Q hx hy q=>?_⟩
  ·obtain⟨v,d,rv,rp,hd⟩:=R9 r vr hm;obtain⟨i,rfl⟩:=aGa ((hkind d hd).trans c);cases rp.inv;obtain⟨t,rfl⟩:=rv;exact oS rfl
  ·obtain⟨v,d,rv,rp,hd⟩:=hx;obtain⟨v',d',rv',rp',hd'⟩:=hy;have hk:=lty rv rp hd rv' rp' hd';obtain⟨i,rfl⟩:=aGa ((hkind d hd).trans c);obtain⟨j,rfl⟩:=aGa ((hkind d' hd').trans c);cases rp.inv;cases rp'.inv;obtain⟨t,e1⟩:=rv;obtain⟨t',e2⟩:=rv';rw[gK] at hk;rw[<-cx hk] at q;rw[e1,e2,zI];exact zS q
 ·refine⟨oneType',λQ q=>kas_kind (T:=.type "str") h2 (λu hm=>?_) (by decide) (by decide) q,λx y Q hx hy q=>?_⟩
  ·obtain⟨v,d,rv,rp,hd⟩:=R9 r vr hm;obtain⟨i,rfl⟩:=aGb ((hkind d hd).trans c);cases rp.inv;obtain⟨t,rfl⟩:=rv;exact oS rfl
  ·obtain⟨v,d,rv,rp,hd⟩:=hx;obtain⟨v',d',rv',rp',hd'⟩:=hy;have hk:=lty rv rp hd rv' rp' hd';obtain⟨i,rfl⟩:=aGb ((hkind d hd).trans c);obtain⟨j,rfl⟩:=aGb ((hkind d' hd').trans c);cases rp.inv;cases rp'.inv;obtain⟨t,e1⟩:=rv;obtain⟨t',e2⟩:=rv';rw[gK] at hk;rw[<-cx hk] at q;rw[e1,e2,zI];exact z3 q
 ·obtain⟨fs,t1,t2,t3⟩:=wM I (T:=.type "int") (F:=λf=>∃i,f=.int i) (λd v u hf rv rp=>by
   obtain⟨i,rfl⟩:=hf;cases rp.inv;obtain⟨t,rfl⟩:=rv;exact oS rfl) r vr (λd hd=>by
   obtain⟨i,rr,rfl⟩:=aCx ((hkind d hd).trans c);exact⟨_,_,rfl,i,rfl⟩)
  refine⟨ng af,λQ q=>oT (T:=.type "int") t1 (by lia) t3 (by decide) q,λx y Q hx hy q=>tupl af x y Q hx hy (λd hd=>?_) (λ_ f g v v' u u' k Q hf hg rv rp rv' rp' hk q=>?_) q⟩
  ·obtain⟨i,rr,rfl⟩:=aCx ((hkind d hd).trans c);exact⟨_,_,rfl⟩
  ·obtain⟨r1,hf⟩:=hf;obtain⟨r2,hg⟩:=hg;obtain⟨i,rr,e1⟩:=aCx ((hkind _ hf).trans c);obtain⟨j,rr',e2⟩:=aCx ((hkind _ hg).trans c);cases e1;cases e2;cases rp.inv;cases rp'.inv;obtain⟨t,rfl⟩:=rv;obtain⟨t',rfl⟩:=rv';rw[gK] at hk;rw[<-cx hk] at q;exact zS q
 ·obtain⟨fs,t1,t2,t3⟩:=wM I (T:=.type "str") (F:=λf=>∃i,f=.str i) (λd v u hf rv rp=>by
   obtain⟨i,rfl⟩:=hf;cases rp.inv;obtain⟨t,rfl⟩:=rv;exact oS rfl) r vr (λd hd=>by
   obtain⟨i,rr,rfl⟩:=aCy ((hkind d hd).trans c);exact⟨_,_,rfl,i,rfl⟩)
  refine⟨ng af,λQ q=>oT (T:=.type "str") t1 (by lia) t3 (by decide) q,λx y Q hx hy q=>tupl af x y Q hx hy (λd hd=>?_) (λ_ f g v v' u u' k Q hf hg rv rp rv' rp' hk q=>?_) q⟩
  ·obtain⟨i,rr,rfl⟩:=aCy ((hkind d hd).trans c);exact⟨_,_,rfl⟩
  ·obtain⟨r1,hf⟩:=hf;obtain⟨r2,hg⟩:=hg;obtain⟨i,rr,e1⟩:=aCy ((hkind _ hf).trans c);obtain⟨j,rr',e2⟩:=aCy ((hkind _ hg).trans c);cases e1;cases e2;cases rp.inv;cases rp'.inv;obtain⟨t,rfl⟩:=rv;obtain⟨t',rfl⟩:=rv';rw[gK] at hk;rw[<-cx hk] at q;exact z3 q
 ·obtain⟨fs,t1,t2,t3⟩:=wM I (T:=.type "tuple") (F:=λf=>∃i,f=.tup i) (λd v u hf rv rp=>by
   obtain⟨i,rfl⟩:=hf;obtain⟨a,ys,rfl,e,rs⟩:=rp.fO;cases rv;obtain⟨i1,vr1,o1,ho1,hc1,n1,hd1⟩:=fY I e;have:=(show oQ (ax X.prog X.w) s.heap (k8 (.ref a)) o1.cls from (z5 ho1).andThen .now)
   rwa [hc1] at this) r vr (λd hd=>by
   obtain⟨i,rr,rfl⟩:=aK0 ((hkind d hd).trans c);exact⟨_,_,rfl,i,rfl⟩)
  refine⟨ng ai,λQ q=>oT (T:=.type "tuple") t1 (by lia) t3 (by decide) q,λx y Q hx hy q=>tupl ai x y Q hx hy (λd hd=>?_) (λh=>by cases h) q⟩;obtain⟨i,rr,rfl⟩:=aK0 ((hkind d hd).trans c);exact⟨_,_,rfl⟩
 ·obtain⟨fs,t1,t2,t3⟩:=wM I (T:=.type "list") (F:=λf=>∃i,f=.scr i) (λd v u hf rv rp=>by
   obtain⟨i,rfl⟩:=hf;obtain⟨a,ys,rfl,e,rs⟩:=jP hK rp;cases rv;obtain⟨i1,vr1,o1,ho1,hc1,n1,hd1⟩:=dB I e;have:=(show oQ (ax X.prog X.w) s.heap (k8 (.ref a)) o1.cls from (z5 ho1).andThen .now)
   rwa [hc1] at this) r vr (λd hd=>by
   obtain⟨i,rr,rfl⟩:=aCz ((hkind d hd).trans c);exact⟨_,_,rfl,i,rfl⟩)
  refine⟨ng af,λQ q=>oT (T:=.type "list") t1 (by lia) t3 (by decide) q,λx y Q hx hy q=>tupl af x y Q hx hy (λd hd=>?_) (λ_ f g v v' u u' k Q hf hg rv rp rv' rp' hk q=>?_) q⟩
  ·obtain⟨i,rr,rfl⟩:=aCz ((hkind d hd).trans c);exact⟨_,_,rfl⟩
  ·obtain⟨r1,hf⟩:=hf;obtain⟨r2,hg⟩:=hg;have q1:μ 11 (f::r1)=af:=(eF hc hf).2.1;have q2:μ 11 (g::r2)=af:=(eF hc hg).2.1;obtain⟨i,rr,e1⟩:=aCz ((hkind _ hf).trans c);obtain⟨j,rr',e2⟩:=aCz ((hkind _ hg).trans c);cases e1;cases e2;rw[μ,bg] at q1 q2;have p1:μ 10 i=af:=q1.1;have p2:μ 10 j=af:=q2.1;obtain⟨p,xs1,rfl,e1,s1⟩:=jP hK rp;cases rv;obtain⟨its1,vr1,h1⟩:=dB I e1;obtain⟨p',ys1,rfl,e2,s2⟩:=jP hK rp';cases rv';obtain⟨its2,vr2,h2'⟩:=dB I e2;have hu12:A.units+12<bE:=hu;rw[gK] at hk;exact VR h1 h2' (by rw[kt,kt];exact aJz hK I (by show A.units+1+10<bE;lia) p1 p2 s1 s2 vr1 vr2) hk (by lia) q
theorem aGc(I:Inv X Ψ σ H s)(h:∀(x y:au) (Q:ap->ao->Prop),sU H ds x->sU H ds y->Q (sLt H x y) s->ϑ (ax X.prog X.w) A (keyLt' κ x.1 y.1) Q (λ_ _=>cy) s) :
  TS.VF X.prog X.w A (λ_ _=>cy) s κ (sU H ds) (sLt H):=by
 intro x y st Q hx hy hk q;rw[BM];refine aE (gL ?_);rw[hk];refine aE (jk (uh (eL (h x y (λb s'=>s'=s/\b=sLt H x y) hx hy ⟨rfl,rfl⟩) (λb s' ⟨e1,e2⟩=>⟨e1,?_⟩) λ_ _ z=>fm z)));subst e2;exact aS q
theorem qT{X:Cx}(hK:KFrag.K=X.K)(I:Inv X Ψ σ H s)(hu:X.A.units+20<bE)(vr:Vals xs its)(hn:its.length<=bj)(r:bL All H xs ds)(hc:bD ds=af)
 (hcol:∀(Q':aa aj->ao->Prop) (E':aj->ao->Prop),(∀h1 tk,(∀b o,s.heap.get? b=ae o->h1.get? b=ae o)->s.heap.objs.size<=h1.objs.size->Q' its {s with heap:=h1,toks:=tk})->ϑ (ax X.prog X.w) X.A.in1 (mT v) Q' E' s)
 (q:∀p xs',H p=ak->bL All H xs' (gM ds)->Q (.ref p) (upd H p (.lst xs'))):ϑ (ax X.prog X.w) X.A (call (.builtin "sorted") [v]) (EP X Ψ σ Q) X.xe s:=by
 have hz:xs.length<=bj:=by rw[vr.length];exact hn
 -- what comes,told by its data
 have fin:∀(h1:aT)(tk:ah),(∀b o,s.heap.get? b=ae o->h1.get? b=ae o)->s.heap.objs.size<=h1.objs.size->∀arr:aw au,arr.Perm (fF its)->(∀i j,i<=j->j<arr.size->leE (mO H (TS.gt arr i).1) (mO H (TS.gt arr j).1)=af)->EP X Ψ σ Q (.ref h1.objs.size) {s with heap:=TS.aIn h1 its (arr.map (·.2)),toks:=tk}:=by
  intro h1' tk kp hle arr hp hs;have hpl:arr.toList.Perm (its.zip its):=by rw[<-BN];exact tJ.mp hp
  have hmem:∀p∈arr.toList,p.1=p.2/\p.1∈its:=λp hp'=>BO (hpl.mem_iff.mp hp')
  have e1:(arr.map (·.2)).toList=arr.toList.map (·.1):=by
   rw[Array.toList_map];exact e8 λp hp'=>(hmem p hp').1.symm
  -- the values and their data
  have all:∀l:aa au,(∀p∈l,p∈arr.toList)->∃ys,Vals ys (l.map (·.1))/\bL All H ys (l.map λp=>mO H p.1):=by
   intro l;induction l with
   |nil=>intro _;exact⟨[],.nil,.nil⟩
   |cons p l ih=>
    intro h;obtain⟨ys,h1,h2⟩:=ih λp hp'=>h p (bq _ hp')
    obtain⟨v,d,rv,rp,hd⟩:=R9 r vr (hmem p (h p (bu ..))).2;refine⟨v::ys,.cons rv h1,?_⟩;rw[br,vG hK I (eF hc hd).1 (eF hc hd).2.1 rv rp];exact .cons rp h2
  obtain⟨ys,h1,h2⟩:=all arr.toList λ_ h=>h
  have dats:its.map (mO H)=ds:=by
   clear all h1 h2 hp hs hpl hmem e1;have:∀{xs:aa V}{es:aa D}{us:aa aj},bL All H xs es->Vals xs us->(∀d∈es,d∈ds)->us.map (mO H)=es:=by
    intro xs es us r;induction us generalizing xs es with
    |nil=>intro v _;cases v;cases r;rfl
    |cons u us ih=>
     intro v hsub;cases v with
     |cons v0 vt=>
      cases r with
      |cons r0 rt=>
       have hd:=hsub _ (bu ..);rw[br,ih rt vt λd hd=>hsub d (bq _ hd),vG hK I (eF hc hd).1 (eF hc hd).2.1 v0 r0]
   exact this r vr λ_ h=>h
  have hperm:(arr.toList.map λp=>mO H p.1).Perm ds:=by
   have:=hpl.map λp=>mO H p.1
   have e2:(its.zip its).map (λp=>mO H p.1)=ds:=by
    have:(its.zip its).map (λp=>mO H p.1)=((its.zip its).map Aa).map (mO H):=by rw[df];rfl
    rw[this,List.map_fst_zip (ba _),dats]
   rwa [e2] at this
  have hsorted:(arr.toList.map λp=>mO H p.1).Pairwise λa b=>leE a b=af:=by
   rw[i6,tF];intro i j hi hj hij;have:=hs i j (lI hij) (by simpa using hj);have g:∀k (hk:k<arr.toList.length),TS.gt arr k=arr.toList[k]:=λk hk=>by
    unfold TS.gt;have hk':k<arr.size:=by simpa using hk
    simp[iq,hk']
   rwa [g i hi,g j hj] at this
  have eq:(arr.toList.map λp=>mO H p.1)=gM ds:=by
   refine ZC (λd hd=>?_) (hperm.trans (cX ds).symm) hsorted (jO ds);exact(eF hc (hperm.mem_iff.mp hd)).1
  rw[eq] at h2;rw[<-e1] at h1;have hfr:H h1'.objs.size=ak:=I.hok.fresh hle;obtain⟨ee,he⟩:=TS.aG9 h1' its (arr.map (·.2));refine⟨.ref h1'.objs.size,_,I.laid (λb o e=>TS.aCw (kp b o e)) hle ?_,rfl,q _ ys hfr h2⟩;refine⟨?_,(arr.map (·.2)).toList,ee,h1,by rw[he]⟩;rw[h2.length,(cX ds).length_eq,<-r.length];exact hz
 refine TS.VP hn hcol (λhh tk kp hle h2=>?_) (λhh tk kp hle h2=>?_)
 ·have I':Inv X Ψ σ H {s with heap:=TS.aIm hh its,toks:=tk}:=I.kept λb o e=>TS.aCv (kp b o e)
  have hu2:X.A.in1.in1.units+aR<bE:=by show X.A.units+1+1+12<bE;lia
  obtain⟨κ,k1,k2⟩:=ZM hK I' hu2 hc r vr h2;refine⟨κ,sU H ds,sLt H,aOv H ds,λi hi=>?_,k1,aGc I' k2,λarr p z=>fin hh tk kp hle arr p λi j a1 a2=>?_⟩
  ·rw[Ab] at hi;have e:TS.gt (fF its) i=(its[i],its[i]):=by
    unfold TS.gt fF;simp[iq,hi]
   rw[e];exact R9 r vr (gN hi)
  ·have:=z i j (eR _) a1 (by rw[<-p.size_eq];exact a2);unfold leE;unfold sLt at this;rw[this];rfl
 ·refine fin hh tk kp hle _ (mM _) λi j a1 a2=>?_
  rw[Ab] at a2;rw[show i=j by lia];simp[leE,zD]
theorem V0{X:Cx}(hK:KFrag.K=X.K)(I:Inv X Ψ σ H s)(hu:X.A.units+20<bE)(hl:SqL X.K H l xs)(r:bL All H xs ds)(hc:bD ds=af)
 (q:∀p xs',H p=ak->bL All H xs' (gM ds)->Q (.ref p) (upd H p (.lst xs'))):ϑ (ax X.prog X.w) X.A (call (.builtin "sorted") [.ref l]) (EP X Ψ σ Q) X.xe s:=by
 obtain⟨its,vr,pl,hz⟩:=I.list hl;have hn:its.length<=bj:=by rw[<-vr.length];exact hz
 refine qT hK I hu vr hn r hc (λQ' E' h=>BQ pl.isList (h _ s.toks (λb o e=>?_) ?_) hn) q
 ·rw[zw _ _ _ _ (c9 (bS e))];exact cr _ e
 ·rw[uf,BS];exact iu _
end
end
open PySem.Spec PyProof.Rows
section
variable [KFrag]
def kR(H:Hp)(d:D)(fr:ap)(Q:VK):Prop:=∀v H',b_ H H'->Rep All H' v d->(fr=af->Rep (New H) H' v d)->Q v H'
noncomputable def gE(f:FE)(fr:ap):TE:=λσ H Q=>∃ρ d,ER H σ ρ/\f ρ=.ok d/\kR H d fr Q
noncomputable def gT(f:FT):TT:=λσ H Q=>∃ρ b,ER H σ ρ/\f ρ=.ok b/\∀H',b_ H H'->Q b H'
noncomputable def gA(f:FA)(fr:ap):TA:=λσ H Q=>∃ρ ds,ER H σ ρ/\f ρ=.ok ds/\∀vs H',b_ H H'->bL All H' vs ds->(fr=af->bL (New H) H' vs ds)->Q vs H'
theorem kR.self{fr:ap}(q:kR H d fr Q)(r:Rep All H v d)(r2:fr=af->Rep (New H) H v d):Q v H:=q v H (b_.refl H) r r2
theorem kR.imp{fr fr':ap}(q:kR H d fr Q)(s:b_ H H')(h:fr=af->fr'=af):kR H' d fr' Q:=λv H2 s2 r n=>q v H2 (s.trans s2) r λhf=>(n (h hf)).mono (b_.new s)
theorem kR.int{fr:ap}{Q:VK}(q:kR H (.int i) fr Q):Q (.int i) H:=q.self (.int i) λ_=>.int i
theorem kR.bl{fr:ap}{Q:VK}(q:kR H (.bl i) fr Q):Q (.bl i) H:=q.self (.bl i) λ_=>.bl i
theorem kR.str{fr:ap}{Q:VK}(q:kR H (.str i) fr Q):Q (.str i) H:=q.self (.str i) λ_=>.str i
theorem kR.non{fr:ap}{Q:VK}(q:kR H .non fr Q):Q .non H:=q.self .non λ_=>.non
noncomputable def r2(f:D->D->Res D)(fr:ap):R2:=λx y H Q=>∃a b d,Rep All H x a/\Rep All H y b/\f a b=.ok d/\kR H d fr Q
def r1(f:D->Res D)(fr:ap):V->Hp->VK->Prop:=λx H Q=>∃a d,Rep All H x a/\f a=.ok d/\kR H d fr Q
def rs(f:aa D->Res D)(fr:ap):aa V->Hp->VK->Prop:=λxs H Q=>∃ds d,bL All H xs ds/\f ds=.ok d/\kR H d fr Q
theorem a_{f:α->Res β}(h:(do let x <- m;f x)=.ok b):∃a,m=.ok a/\f a=.ok b:=Res.aG2 h
section
variable {X:Cx} {a b e:Expr} {pos:bz} {fa fb fe:FE} {ra rb re:ap} {ga:FT}
theorem ER.var(E:ER H σ ρ)(h:jZ i ρ=.ok d):∃v,σ[i]?=ae (ae v)/\Rep All H v d/\ρ.getD i .uD=d:=by
 have:ρ.getD i .uD=d/\d≠.uD:=by
  unfold jZ at h;split at h
  ·exact bx h
  ·cases h;refine⟨rfl,λz=>?_⟩;rename_i q;exact q z
 obtain⟨e1,e2⟩:=this;obtain⟨v,h1,h2⟩:=E i (by rw[e1];exact e2);exact⟨v,h1,by rw[e1] at h2;exact h2,e1⟩
theorem aA(hN:X.N[i]?=ae x:=by exact rfl)(hv:Vis X.env.scope x:=by trivial)(hd:nDb x:=by decide)(hcd:nCd x:=by decide):PE X (.Name x pos) (gE (jZ i) ai):=
 PE.imp (iZ hN hv hd hcd) λσ H Q z0=>by
  obtain⟨ρ,d,E,h,q⟩:=z0;obtain⟨v,h1,h2,_⟩:=E.var h;exact⟨v,h1,q.self h2 (λz=>by cases z)⟩
theorem aJ{i j}:PE X (.Constant (.int i) j pos) (gE (bC (.int i)) af):=PE.imp aIu λσ H Q z0=>by obtain⟨ρ,d,E,h,q⟩:=z0;cases h;exact q.int
theorem yD{i j}:PE X (.Constant (.bool i) j pos) (gE (bC (.bl i)) af):=PE.imp aM3 λσ H Q z0=>by obtain⟨ρ,d,E,h,q⟩:=z0;cases h;exact q.bl
theorem aEi{i j}:PE X (.Constant (.str i) j pos) (gE (bC (.str i)) af):=PE.imp aIw λσ H Q z0=>by obtain⟨ρ,d,E,h,q⟩:=z0;cases h;exact q.str
theorem o8{j}:PE X (.Constant .none j pos) (gE (bC .non) af):=PE.imp aIv λσ H Q z0=>by obtain⟨ρ,d,E,h,q⟩:=z0;cases h;exact q.non
theorem two{fr:ap}{σ:L2.St}{H:Hp}{Q:VK}(h:gE (b2 f fa fb) fr σ H Q):tOp (r2 f fr) (gE fa ra) (gE fb rb) σ H Q:=by
 obtain⟨ρ,d,E,h,q⟩:=h;obtain⟨x,h1,h⟩:=a_ h;obtain⟨y,h2,h⟩:=a_ h;refine⟨ρ,x,E,h1,λv H1 s1 rp1 _=>⟨ρ,y,E.same s1,h2,λu H2 s2 rp2 _=>⟨x,y,d,rp1.same s2,rp2,h,q.imp (s1.trans s2) id⟩⟩⟩
theorem bO{o:Operator}{f:D->D->Res D}{fr:ap}(ho:OpR X (fT o) (r2 f fr))(ha:PE X a (gE fa ra))(hb:PE X b (gE fb rb)):PE X (.BinOp a o b pos) (gE (b2 f fa fb) fr):=PE.imp (aMb ho ha hb) λ_ _ _=>two
theorem R_{o:gr}{f:D->D->Res D}{fr:ap}(ho:OpR X (de o) (r2 f fr))(ha:PE X a (gE fa ra))(hb:PE X b (gE fb rb))(hm:kP o b=ai):PE X (.Compare a [o] [b] pos) (gE (b2 f fa fb) fr):=PE.imp (aFm ho ha hb hm) λ_ _ _=>two
theorem cV{o:gr}{f:D->D->Res D}{fr:ap}(ho:OpR X (de o) (r2 f fr))(ha:PE X a (gE fa ra))(hb:PE X b (gE fb rb))(hm:kP o b=ai):PT X (.Compare a [o] [b] pos) (gT (bTB (b2 f fa fb))):=
 PT.imp (aFn ho ha hb hm) λσ H Q z0=>by
  obtain⟨ρ,k,E,h,q⟩:=z0;obtain⟨d,h1,h2⟩:=a_ h;refine two ⟨ρ,d,E,h1,λv H' s r _=>?_⟩;cases d<;>simp only[asB] at h2<;>cases h2
  cases r.inv;exact⟨_,rfl,q H' s⟩
theorem aMp{f:D->Res D}{fr:ap}(ho:UnR X (nE o) (r1 f fr))(ha:PE X a (gE fa ra)):PE X (.UnaryOp o a pos) (gE (b1 f fa) fr):=
 PE.imp (aMc ho ha) λσ H Q z0=>by
  obtain⟨ρ,d,E,h,q⟩:=z0;obtain⟨x,h1,h⟩:=a_ h;exact⟨ρ,x,E,h1,λv H1 s1 rp1 _=>⟨x,d,rp1,h,q.imp s1 id⟩⟩
theorem aMq{f:D->D->Res D}{fr:ap}(ho:IxR X (r2 f fr))(ha:PE X a (gE fa ra))(hb:PE X b (gE fb rb))(hs:tH b):PE X (.Subscript a b pos) (gE (b2 f fa fb) fr):=PE.imp (aFt ho ha hb hs) λ_ _ _=>two
theorem aOw(r:Rep All H v d)(h:aNv d=.ok k)(hd:∀kvs,d≠.dct kvs)(hs:∀xs,d≠.scr xs):aMe X.K v H k:=by
 cases r with
 |non=>cases h;rfl
 |bl b=>cases h;rfl
 |int i=>cases h;rfl
 |str x=>
  replace h:(if ϒ (x.length<=lim) then τ ((x.length:ag)!=0) else .bad)=.ok k:=h;split at h
  ·rename_i hl;cases h;exact⟨dn (e9 hl) (by rw[eD];decide),rfl⟩
  ·exact bx h
 |tup e rr=>cases h;exact .inr (.inl ⟨_,.of e,by cases rr<;>rfl⟩)
 |lst e p rr=>cases h;exact .inl ⟨_,.of e,by cases rr<;>rfl⟩
 |frz e rr=>exact bd rfl (hs _)
 |dK e p rr n=>exact bd rfl (hd _)
 |dT e p rr n=>exact bd rfl (hd _)
 |fdK e rr n=>exact bx h
 |fdT e rr n=>exact bx h
 |exc n e q=>exact bx h
 |ins n e q=>exact bx h
 |adr=>exact bx h
 |dlK _ _ _ _=>exact bx h
 |dlT _ _ _ _=>exact bx h
 |cel e p rr=>exact bx h
theorem kI(ha:PE X a (gE fa ra))(he:∀whole,ny a X.env whole=(do let v <- whole;standAt a.pos;sF [v] (truthy v)):=by intro _;rfl):PT X a (gT (bTr fa)):=
 PT.imp (aCj ha he) λσ H Q z0=>by
  obtain⟨ρ,k,E,h,q⟩:=z0;obtain⟨d,h1,h2⟩:=a_ h;refine⟨ρ,d,E,h1,λv H' s r _=>⟨k,aOw r ?_ ?_ ?_,q H' s⟩⟩
  ·cases d<;>first|exact h2|exact bx h2
  ·rintro kvs rfl;exact bx h2
  ·rintro kvs rfl;exact bx h2
theorem uJ(ha:PT X a (gT ga)):PT X (.UnaryOp .Not a pos) (gT (JN ga)):=PT.imp (aIz ha) λσ H Q z0=>by
  obtain⟨ρ,k,E,h,q⟩:=z0;obtain⟨d,h1,h2⟩:=a_ h;cases h2;exact⟨ρ,d,E,h1,λH' s=>q H' s⟩
theorem SJ{op}(ha:PE X a (gE fa ra)):PE X (.BoolOp op [a] pos) (gE fa ra):=aJ0 ha
theorem SN(h:asB d=.ok k):d=.bl k:=by cases d<;>simp only[asB] at h<;>cases h;rfl
theorem aK1(h:asI d=.ok k):d=.int k:=by cases d<;>simp only[asI] at h<;>cases h;rfl
theorem aEj(ha:PE X a (gE fa ra)):PE X (.UnaryOp .Not a pos) (gE (Y0 fa) af):=PE.imp (aJ2 ha) λσ H Q z0=>by
  obtain⟨ρ,k,E,h,q⟩:=z0;obtain⟨d,h1,h⟩:=a_ h;obtain⟨z,h2,h⟩:=a_ h;cases h;cases SN h2;exact⟨ρ,_,E,h1,λv H' s r _=>by cases r.inv;exact⟨_,rfl,(q.imp s id).bl⟩⟩
theorem JS{rest:aa Expr}(ha:PE X a (gE fa ra))(hb:PE X (.BoolOp .And (b::rest) pos) (gE fb rb)):PE X (.BoolOp .And (a::b::rest) pos) (gE (BR fa fb) rb):=PE.imp (aJ1 ha hb) λσ H Q z0=>by
  obtain⟨ρ,k,E,h,q⟩:=z0;obtain⟨d,h1,h⟩:=a_ h;obtain⟨z,h2,h3⟩:=a_ h;cases SN h2;refine⟨ρ,_,E,h1,λv H' s r _=>?_⟩;cases r.inv;refine⟨_,rfl,?_⟩;cases z with
  |true=>rw[aq rfl];rw[aq rfl] at h3;exact⟨ρ,k,E.same s,h3,q.imp s id⟩
  |false=>rw[av (by simp)];rw[av (by simp)] at h3;cases h3;exact(q.imp s id).bl
theorem aG:PA X [] (gA aV af):=PA.imp oZ λσ H Q z0=>by obtain⟨ρ,ds,E,h,q⟩:=z0;cases h;exact q [] H (b_.refl H) .nil λ_=>.nil
theorem aB(he:PE X e (gE fe re))(hes:PA X es (gA f r))(hs:bp (e::es) X.env=(ai,bP e X.env)::bp es X.env:=by rfl):PA X (e::es) (gA (aD fe f) (re&&r)):=PA.imp (i_ he hes hs) λσ H Q z0=>by
  obtain⟨ρ,ds,E,h,q⟩:=z0;obtain⟨x,h1,h⟩:=a_ h;obtain⟨xs,h2,h⟩:=a_ h;cases h;refine⟨ρ,x,E,h1,λv H1 s1 r1 n1=>⟨ρ,xs,E.same s1,h2,λvs H2 s2 r2 n2=>q _ _ (s1.trans s2) (.cons (r1.same s2) r2) λhf=>?_⟩⟩;obtain⟨f1,f2⟩:=(bg _ _▸hf:re=af/\r=af)
  exact .cons ((n1 f1).same s2) ((n2 f2).mono (b_.new s1))
theorem dH{x1}(h:PA X es (gA f r)):PE X (.Tuple es x1 pos) (gE (fQ f) r):=PE.imp (aJf h) λσ H Q z0=>by
  obtain⟨ρ,d,E,h,q⟩:=z0;obtain⟨xs,h1,h⟩:=a_ h;split at h
  ·rename_i hl;cases h;refine⟨ρ,xs,E,h1,λvs H1 s1 r1 n1=>⟨?_,λp hp=>?_⟩⟩
   ·rw[r1.length];exact dn (e9 hl) (by rw[eD];decide)
   ·have sp:b_ H1 (upd H1 p (.tup vs)):=b_.upd hp;exact q _ _ (s1.trans sp) (.tup aH (r1.same sp)) λhf=>.tup aH ((n1 hf).same sp)
  ·exact bx h
theorem jQ(h:PA X es (gA f r)):PE X (.List es pos) (gE (BV f) r):=PE.imp (XR h) λσ H Q z0=>by
  obtain⟨ρ,d,E,h,q⟩:=z0;obtain⟨xs,h1,h⟩:=a_ h;split at h
  ·rename_i hl;cases h;refine⟨ρ,xs,E,h1,λvs H1 s1 r1 n1=>⟨?_,λp hp=>?_⟩⟩
   ·rw[r1.length];exact dn (e9 hl) (by rw[eD];decide)
   ·have sp:b_ H1 (upd H1 p (.lst vs)):=b_.upd hp;exact q _ _ (s1.trans sp) (.lst aH trivial (r1.same sp)) λhf=>.lst aH (s1.free hp) ((n1 hf).same sp)
  ·exact bx h
theorem vH:PE X (.Dict [] [] pos) (gE (bC (.dct [])) af):=PE.imp RW λσ H Q z0=>by
  obtain⟨ρ,d,E,h,q⟩:=z0;cases h;exact λp hp=>q _ _ (b_.upd hp) (.dK aH trivial .nil ie) λ_=>.dK aH hp .nil ie
end
section
variable {a b c e:Expr}
theorem vI(h:ϒ (n<=lim)=af):n<=bj:=dn (e9 h) (by rw[eD];decide)
theorem JT(h:ϒ (n<lim)=af):n<bj:=em (e9 h) (by rw[eD];decide)
theorem Rep.aK2(r:Rep P H v (.lst ds)):∃a xs,v=.ref a/\Rd H a (.lst xs)/\bL P H xs ds:=by
 cases r with
 |lst e p rr=>exact⟨_,_,rfl,.inl e,rr⟩
theorem PW.imp(h:PW X e t)(i:∀σ H Q,t' σ H Q->t σ H Q):PW X e t':=λwh Ψ s σ H Q I q=>h wh Ψ s σ H Q I (i σ H Q q)
theorem QB(ha:PT X a (gT ga)):PW X (.BoolOp .And [a] pos) (gT ga):=aFh ha
theorem SQ(ha:PT X a (gT ga)):PW X (.BoolOp .Or [a] pos) (gT ga):=aIx ha
theorem ZP{rest:aa Expr}(ha:PT X a (gT ga))(hb:PW X (.BoolOp .And (b::rest) pos) (gT gb)):PW X (.BoolOp .And (a::b::rest) pos) (gT (R1 ga gb)):=PW.imp (aIy ha hb) λσ H Q z0=>by
 obtain⟨ρ,k,E,h,q⟩:=z0;obtain⟨z,h1,h3⟩:=a_ h;refine⟨ρ,z,E,h1,λH' s=>?_⟩;cases z with
 |true=>rw[aq rfl];rw[aq rfl] at h3;exact⟨ρ,k,E.same s,h3,λH2 s2=>q H2 (s.trans s2)⟩
 |false=>rw[av (by simp)];rw[av (by simp)] at h3;cases h3;exact q H' s
theorem V1{rest:aa Expr}(ha:PT X a (gT ga))(hb:PW X (.BoolOp .Or (b::rest) pos) (gT gb)):PW X (.BoolOp .Or (a::b::rest) pos) (gT (bOr ga gb)):=PW.imp (aM4 ha hb) λσ H Q z0=>by
 obtain⟨ρ,k,E,h,q⟩:=z0;obtain⟨z,h1,h3⟩:=a_ h;refine⟨ρ,z,E,h1,λH' s=>?_⟩;cases z with
 |true=>rw[aq rfl];rw[aq rfl] at h3;cases h3;exact q H' s
 |false=>rw[av (by simp)];rw[av (by simp)] at h3;exact⟨ρ,k,E.same s,h3,λH2 s2=>q H2 (s.trans s2)⟩
theorem aK3(h:gE (bCh f g fa fb fc) r' σ H Q):aEb (r2 f r) (r2 g r') (gE fa ra) (gE fb rb) (gE fc rc) σ H Q:=by
 obtain⟨ρ,d,E,h,q⟩:=h;obtain⟨x,h1,h⟩:=a_ h;obtain⟨y,h2,h⟩:=a_ h;obtain⟨z,h3,h⟩:=a_ h;obtain⟨k,h4,h7⟩:=a_ h;refine⟨ρ,x,E,h1,λv H1 s1 rp1 _=>⟨ρ,y,E.same s1,h2,λu H2 s2 rp2 _=>⟨x,y,z,rp1.same s2,rp2,h3,λt H3 s3 rp3 _=>?_⟩⟩⟩;have e:=SN h4;subst e;cases rp3.inv;refine⟨k,rfl,?_⟩;have s13:=(s1.trans s2).trans s3;cases k with
 |true=>
  rw[aq rfl];rw[aq rfl] at h7;obtain⟨w,h5,h6⟩:=a_ h7;exact⟨ρ,w,E.same s13,h5,λt H4 s4 rp4 _=>⟨y,w,d,(rp2.same s3).same s4,rp4,h6,q.imp (s13.trans s4) id⟩⟩
 |false=>
  rw[av (by simp)];rw[av (by simp)] at h7;cases h7;exact(q.imp s13 id).bl
theorem aD0(ho:OpR X (de o) (r2 f r))(ho':OpR X (de o') (r2 g r'))(ha:PE X a (gE fa ra))(hb:PE X b (gE fb rb))(hc:PE X c (gE fc rc))
 (hm:lastMarks [o,o'] [b,c]=ai:=by with_unfolding_all rfl):PT X (.Compare a [o,o'] [b,c] pos) (gT (bTB (bCh f g fa fb fc))):=PT.imp (aCi ho ho' ha hb hc hm) λσ H Q z0=>by
  obtain⟨ρ,k,E,h,q⟩:=z0;obtain⟨d,h1,h2⟩:=a_ h;refine aK3 ⟨ρ,d,E,h1,λv H' s r _=>?_⟩;have e:=SN h2;subst e;cases r.inv;exact⟨_,rfl,q H' s⟩
theorem eG:OpR X (fT .Add) (r2 (bB .add) af):=by
 intro Ψ s σ H x y v u Q I rx ry h;obtain⟨a,b,d,p,q,e,k⟩:=h;cases p with
 |int i=>
  cases q with
  |int j=>cases e;exact aJ7 Ψ s σ H _ _ v u Q I rx ry ⟨i,j,rfl,rfl,k.int⟩
  |_=>exact bx e
 |str i=>
  cases q with
  |str j=>
   replace e:(if ϒ (i.length+j.length<=lim) then τ (ν (i++j)) else .bad)=.ok d:=e;split at e
   ·rename_i hl;cases e;exact U6 Ψ s σ H _ _ v u Q I rx ry ⟨i,j,rfl,rfl,vI hl,k.str⟩
   ·exact bx e
  |_=>exact bx e
 |non=>exact bx e
 |bl _=>exact bx e
 |tup _ _=>exact bx e
 |dK _ _ _ _=>exact bx e
 |dT _ _ _ _=>exact bx e
 |fdK _ _ _=>exact bx e
 |fdT _ _ _=>exact bx e
 |exc _ _ _=>exact bx e
 |ins _ _ _=>exact bx e
 |adr=>exact bx e
 |dlK _ _ _ _=>exact bx e
 |dlT _ _ _ _=>exact bx e
 |cel _ _ _=>exact bx e
 |@lst a1 xs ds e1 p1 r1=>
  have hR:Rep All H (.ref a1) (.lst ds):=.lst e1 p1 r1;cases b with
  |lst es=>
   replace e:(if ϒ (ds.length+es.length<=lim)&&θ ds&&θ es then τ (ξ (ds++es)) else .bad)=.ok d:=e;split at e
   ·rename_i hl;cases e;rw[bg,bg] at hl;obtain⟨⟨hl,hp1⟩,hp2⟩:=hl;obtain⟨l1,xs1,e1',rd1,rr1⟩:=hR.aK2;obtain⟨l2,xs2,rfl,rd2,rr2⟩:=q.aK2;cases e1';cases rx;cases ry;obtain⟨z,its,n,vr1,ee1⟩:=rd1.ok I.hok;obtain⟨z2,its2,n2,vr2,ee2⟩:=rd2.ok I.hok;have hz:xs1.length+xs2.length<=bj:=by rw[rr1.length,rr2.length];exact vI hl
    have t1:=vr1.length;have t2:=vr2.length;refine PySem.P.add_list ee1 ee2 ?_ (by rw[cg,cg];lia);have ea:its.toArray++its2.toArray=(its++its2).toArray:=by simp
    rw[ea];refine⟨.ref _,_,I.aOr (vr1.append vr2) (by rw[cw];lia),rfl,?_⟩;have sp:b_ H (upd H s.heap.objs.size (.lst (xs1++xs2))):=b_.upd I.fresh;exact k _ _ sp (.lst aH trivial ((rr1.append rr2).same sp)) λ_=>.lst aH I.fresh (((rr1.bU hp1).append (rr2.bU hp2)).same sp)
   ·exact bx e
  |_=>exact bx e
 |frz _ _=>exact bx e
theorem CK(h:OpR X f (rI C g))
 (hi:∀i j d,op (.int i) (.int j)=.ok d->C i j/\∃k,d=.int k/\g i j=.int k)(hn:∀a b d,op a b=.ok d->(∃i,a=.int i)/\∃j,b=.int j):OpR X f (r2 op af):=by
 rintro Ψ s σ H x y v u Q I rx ry ⟨a,b,d,p,q,e,k⟩;obtain⟨⟨i,rfl⟩,⟨j,rfl⟩⟩:=hn a b d e;cases p.inv;cases q.inv;obtain⟨hc,m,rfl,hm⟩:=hi i j d e;exact h Ψ s σ H _ _ v u Q I rx ry ⟨i,j,rfl,rfl,hc,by rw[hm];exact k.int⟩
theorem vJ(ho:o≠.add){a b d:D}(e:bB o a b=.ok d):(∃i,a=.int i)/\∃j,b=.int j:=by
 cases a with
 |int i=>
  cases b with
  |int j=>exact⟨⟨i,rfl⟩,j,rfl⟩
  |_=>cases o<;>first|exact bx e|exact bd rfl ho
 |_=>cases o<;>first|exact bx e|exact bd rfl ho
theorem wN:OpR X (fT .Mult) (r2 (bB .mul) af):=by
 refine CK aJ8 (λi j d e=>?_) λa b d e=>vJ (by decide) e
 ·replace e:(if j9 i||j9 j then τ (δ (i*j)) else .bad)=.ok d:=e;split at e
  ·rename_i hl;cases e;refine⟨?_,_,rfl,rfl⟩;simp only[j9,iX,bg,d4] at hl;exact hl
  ·exact bx e
theorem jB:OpR X (fT .FloorDiv) (r2 (bB .fdiv) af):=by
 refine CK aFk (λi j d e=>?_) λa b d e=>vJ (by decide) e
 ·replace e:(if ϒ (0<j)&&ϒ (j<1073741824) then τ (δ (i / j)) else .bad)=.ok d:=e;split at e
  ·rename_i hl;cases e;refine⟨?_,_,rfl,rfl⟩;simp only[bg,d4] at hl;exact hl
  ·exact bx e
theorem fG:OpR X (fT .Mod) (r2 (bB .mod) af):=by
 refine CK aJ9 (λi j d e=>?_) λa b d e=>vJ (by decide) e
 ·replace e:(if ϒ (0<j) then τ (δ (i % j)) else .bad)=.ok d:=e;split at e
  ·rename_i hl;cases e;refine⟨?_,_,rfl,rfl⟩;simp only[bg,d4] at hl;exact hl
  ·exact bx e
theorem aEk:OpR X (fT .Pow) (r2 (bB .pow) af):=by
 refine CK aJa (λi j d e=>?_) λa b d e=>vJ (by decide) e
 ·replace e:(if ϒ (0<=j)&&ϒ (j<=1000000)&&ϒ (i.natAbs<2 ^ 64) then τ (δ (i ^ j.toNat)) else .bad)=.ok d:=e;split at e
  ·rename_i hl;cases e;refine⟨?_,_,rfl,rfl⟩;simp only[bg,d4] at hl;exact⟨hl.1.1,hl.1.2,hl.2⟩
  ·exact bx e
theorem aK4:UnR X (nE .USub) (r1 aM0 af):=by
 rintro Ψ s σ H x v Q I rx ⟨a,d,p,e,k⟩;cases a<;>try exact bx e
 cases e;cases p.inv;exact aJb Ψ s σ H _ v Q I rx ⟨_,rfl,k.int⟩
theorem CN(hK:KFrag.K=X.K)(hu:X.A.units+20<bE):OpR X (de .Eq) (r2 (b7 .eq) af):=by
 rintro Ψ s σ H x y v u Q I rx ry ⟨a,b,d,p,q,e,k⟩;replace e:(if a.fD aR&&b.fD aR then τ (π (eqD a b)) else .bad)=.ok d:=e;split at e
 ·rename_i hl;cases e;rw[bg] at hl;exact(JR hK I aR X.A (by have:aR=12:=rfl;lia) hl.1 hl.2 p q rx ry).1 X.prog X.w X.xe _ ⟨.bl _,H,I,rfl,k.bl⟩
 ·exact bx e
theorem JV(hK:KFrag.K=X.K)(hu:X.A.units+20<bE):OpR X (de .NotEq) (r2 (b7 .ne) af):=by
 rintro Ψ s σ H x y v u Q I rx ry ⟨a,b,d,p,q,e,k⟩;replace e:(if a.fD aR&&b.fD aR then τ (π (!eqD a b)) else .bad)=.ok d:=e;split at e
 ·rename_i hl;cases e;rw[bg] at hl;exact(JR hK I aR X.A (by have:aR=12:=rfl;lia) hl.1 hl.2 p q rx ry).2.1 X.prog X.w X.xe _ ⟨.bl _,H,I,rfl,k.bl⟩
 ·exact bx e
theorem ZQ(hK:KFrag.K=X.K)(o:eY)(hu:X.A.units+20<bE):OpR X (de o.op) (r2 (b7 (.ord o)) af):=by
 rintro Ψ s σ H x y v u Q I rx ry ⟨a,b,d,p,q,e,k⟩;replace e:(if a.fD aR&&b.fD aR then (match gK o a b with|some k=>τ (π k)|none=>.bad) else .bad)=.ok d:=e;split at e
 ·rename_i hl;rw[bg] at hl;split at e
  ·rename_i m hm;cases e;have:=P_ hK I o aR X.A (by have:aR=12:=rfl;lia) hl.1 hl.2 p q rx ry hm X.prog X.w X.xe _ (show EP X Ψ σ Q (.bool m) s from ⟨.bl _,H,I,rfl,k.bl⟩);cases o<;>exact this
  ·exact bx e
 ·exact bx e
theorem ZR(hK:KFrag.K=X.K)(hu:X.A.units+20<bE):OpR X (de .Lt) (r2 (b7 (.ord .lt)) af):=ZQ hK .lt hu
theorem aMr(hK:KFrag.K=X.K)(hu:X.A.units+20<bE):OpR X (de .LtE) (r2 (b7 (.ord .le)) af):=ZQ hK .le hu
theorem aD1(hK:KFrag.K=X.K)(hu:X.A.units+20<bE):OpR X (de .Gt) (r2 (b7 (.ord .gt)) af):=ZQ hK .gt hu
theorem aEm:OpR X (de .Is) (r2 (b7 .isN) af):=by
 rintro Ψ s σ H x y v u Q I rx ry ⟨a,b,d,p,q,e,k⟩;have hb:b=.non:=by
  cases b with
  |non=>rfl
  |_=>cases a<;>exact bx e
 subst hb;cases q.inv;refine aJc Ψ s σ H x .non v u Q I rx ry ⟨rfl,?_⟩;cases p<;>cases e<;>exact k.bl
theorem ZS:OpR X (de .IsNot) (r2 (b7 .notN) af):=by
 rintro Ψ s σ H x y v u Q I rx ry ⟨a,b,d,p,q,e,k⟩;have hb:b=.non:=by
  cases b with
  |non=>rfl
  |_=>cases a<;>exact bx e
 subst hb;cases q.inv;refine aFl Ψ s σ H x .non v u Q I rx ry ⟨rfl,?_⟩;cases p<;>cases e<;>exact k.bl
end
end
variable [KFrag]
theorem JW(k q:Key):eqD (kD k) (kD q)=ϒ (k=q):=by
 cases k<;>cases q<;>simp[kD,aJr,aJs,aJt,aJu,Bool.beq_eq_decide_eq]
theorem aEn:∀(k q:aa Key),lJ (k.map kD) (q.map kD)=ϒ (k=q)
 |[],[]=>by simp[lJ]
 |[],_::_=>by simp[lJ]
 |_::_,[]=>by simp[lJ]
 |a::k,b::q=>by
  rw[br,br,lJ,JW,aEn k q];by_cases h:a=b<;>by_cases h':k=q<;>simp[h,h']
theorem aGd(k q:aa Key):eqD (.tup (k.map kD)) (.tup (q.map kD))=ϒ (k=q):=by rw[aJv,aEn]
theorem V2:∀{kvs:aa (Key×V)}{ds:aa (D×D)},kE P H kvs ds->(∃v d,rH kvs k=ae v/\bG ds (kD k)=ae d/\Rep P H v d)\/(rH kvs k=ak/\bG ds (kD k)=ak)
 |_,_,.nil=>.inr ⟨rfl,rfl⟩
 |_,_,.cons (k:=k') r t=>by
  by_cases h:k'=k
  ·subst h;exact .inl ⟨_,_,rM rfl,by rw[bG,JW,aq (by simp)],r⟩
  ·rw[bG,JW,av (by simpa using h),rN h];exact V2 t
theorem aGe:∀{kvs:aa (aa Key×V)}{ds:aa (D×D)},tO P H kvs ds->(∃v d,rH kvs k=ae v/\bG ds (.tup (k.map kD))=ae d/\Rep P H v d)\/(rH kvs k=ak/\bG ds (.tup (k.map kD))=ak)
 |_,_,.nil=>.inr ⟨rfl,rfl⟩
 |_,_,.cons (k:=k') r t=>by
  by_cases h:k'=k
  ·subst h;exact .inl ⟨_,_,rM rfl,by rw[bG,aGd,aq (by simp)],r⟩
  ·rw[bG,aGd,av (by simpa using h),rN h];exact aGe t
theorem CP(h:fB d=af)(r:Rep All H v d):∃k,v=kV k/\d=kD k:=by
 cases r<;>simp[fB] at h
 ·exact⟨.inl _,rfl,rfl⟩
 ·exact⟨.inr _,rfl,rfl⟩
theorem flat_keys:∀{vs:aa V}{ds:aa D},ds.all fB=af->bL All H vs ds->∃ks:aa Key,vs=ks.map kV/\ds=ks.map kD
 |_,_,_,.nil=>⟨[],rfl,rfl⟩
 |_,_,h,.cons r t=>by
  rw[gi,bg] at h;obtain⟨k,rfl,rfl⟩:=CP h.1 r;obtain⟨ks,rfl,rfl⟩:=flat_keys h.2 t;exact⟨k::ks,rfl,rfl⟩
theorem kJ(h:keyOk k=af)(r:Rep All H y k):(∃q,y=kV q/\k=kD q)\/∃(b:al)(ks:aa Key),y=.ref b/\H b=ae (.tup (ks.map kV))/\k=.tup (ks.map kD):=by
 cases k<;>simp[keyOk] at h
 ·exact .inl (CP rfl r)
 ·exact .inl (CP rfl r)
 ·obtain⟨a,xs,rfl,e,rr⟩:=r.fO;obtain⟨ks,rfl,rfl⟩:=flat_keys (dh.mpr h) rr;exact .inr ⟨a,ks,rfl,e,rfl⟩
theorem n_(k:Key):isTup (kD k)=ai:=by cases k<;>rfl
section
variable {a:al}
theorem CQ(e:H a=ae o):upd (upd H a o') a o=H:=by
 rw[N7]
 funext b
 by_cases h:b=a
 ·subst h;rw[aH,e]
 ·rw[aX h]
theorem oA(I:Inv X Ψ σ H s)(e:H a=ae (.dK [])):Inv X Ψ σ (upd H a (.dT [])) s:=by
 obtain⟨z,hd,vs,rel,o,es,ep,h1,h2,h3,h4,h5,h6⟩:=VB I.hok e;cases rel;refine I.write (by rw[e];trivial) (.inl rfl) (λ_ _ _ q=>q) ⟨o,h1⟩ ?_;refine⟨eR _,hd,[],.nil,o,es,ep,h1,h2,h3,?_,ie⟩;cases h5':es.toList with
 |nil=>rfl
 |cons _ _=>rw[h5'] at h5;cases h5
theorem oE(I:Inv X Ψ σ H s)(e:H a=ae (.dT [])):Inv X Ψ σ (upd H a (.dK [])) s:=by
 obtain⟨z,hd,vs,rel,o,es,ep,h1,h2,h3,h4,h5,h6⟩:=aCm I.hok e;cases rel;refine I.write (by rw[e];trivial) (.inl rfl) (λ_ _ _ q=>q) ⟨o,h1⟩ ?_;have h0:es.toList=[]:=h4;refine⟨eR _,hd,[],.nil,o,es,ep,h1,h2,h3,?_,?_,ie⟩
 ·intro x hx;have:x∈es.toList:=by simpa using hx
  rw[h0] at this;cases this
 ·rw[h0];exact .nil
theorem SX:∀{kvs:aa (Key×V)}{ds:aa (D×D)},kE P H kvs ds->∀p∈ds,isTup p.1=ai
 |_,_,.nil,_,h=>by cases h
 |_,_,.cons r t,p,h=>by
  rcases bm.mp h with rfl|h
  ·exact n_ _
  ·exact SX t p h
theorem S5:∀{kvs:aa (aa Key×V)}{ds:aa (D×D)},tO P H kvs ds->∀p∈ds,isTup p.1=af
 |_,_,.nil,_,h=>by cases h
 |_,_,.cons r t,p,h=>by
  rcases bm.mp h with rfl|h
  ·rfl
  ·exact S5 t p h
theorem aGf(I:Inv X Ψ σ H s)(rd:Rep All H x (.dct ds))(rk:Rep All H y k)(hk:o6 ds k=af) :
  ∃H1 a o,x=.ref a/\Inv X Ψ σ H1 s/\(∀s',Inv X Ψ σ H1 s'->Inv X Ψ σ H s')/\W3 H1 a y o/\((o=ak/\bG ds k=ak)\/∃v d,o=ae v/\bG ds k=ae d/\Rep All H v d):=by
 unfold o6 at hk;rw[bg] at hk;obtain⟨h1,h2⟩:=hk;cases rd with
 |@dK a kvs ds e _ r n=>
  rcases kJ h1 rk with ⟨q,rfl,rfl⟩|⟨b,ks,rfl,eb,rfl⟩
  ·refine⟨H,a,_,rfl,I,λ_ h=>h,.k e,?_⟩;rcases V2 r with ⟨v,d,g1,g2,g3⟩|⟨g1,g2⟩
   ·exact .inr ⟨v,d,g1,g2,g3⟩
   ·exact .inl ⟨g1,g2⟩
  ·cases r with
   |nil=>
    have e2:=CQ (o':=.dT []) e;refine⟨upd H a (.dT []),a,ak,rfl,oA I e,λs' I'=>?_,.t (k:=ks) aH (by rw[aX (aFd eb e (by intro z;cases z))];exact eb),.inl ⟨rfl,rfl⟩⟩;have:=oE I' aH;rwa [e2] at this
   |cons r t=>
    rw[gi,n_] at h2;simp[isTup] at h2
 |@dT a kvs ds e _ r n=>
  rcases kJ h1 rk with ⟨q,rfl,rfl⟩|⟨b,ks,rfl,eb,rfl⟩
  ·cases r with
   |nil=>
    have e2:=CQ (o':=.dK []) e;refine⟨upd H a (.dK []),a,ak,rfl,oE I e,λs' I'=>?_,.k (k:=q) aH,.inl ⟨rfl,rfl⟩⟩;have:=oA I' aH;rwa [e2] at this
   |cons r t=>
    rw[gi,n_] at h2;simp[isTup] at h2
  ·refine⟨H,a,_,rfl,I,λ_ h=>h,.t e eb,?_⟩;rcases aGe (k:=ks) r with ⟨v,d,g1,g2,g3⟩|⟨g1,g2⟩
   ·exact .inr ⟨v,d,g1,g2,g3⟩
   ·exact .inl ⟨g1,g2⟩
theorem aD2(rd:Rep All H x (.dct ds))(hk:keyOk k=af)(h:bG ds k=ae d):o6 ds k=af:=by
 have one:∀{ds:aa (D×D)},bG ds k=ae d->∃p∈ds,eqD p.1 k=af:=by
  intro ds;induction ds with
  |nil=>intro h;cases h
  |cons p ds ih=>
   intro h;obtain⟨p1,p2⟩:=p;rw[bG] at h;by_cases hq:eqD p1 k=af
   ·exact⟨_,bu ..,hq⟩
   ·rw[av hq] at h;obtain⟨p,hp,e⟩:=ih h;exact⟨p,bq _ hp,e⟩
 obtain⟨p,hp,he⟩:=one h;unfold o6;rw[hk,nh,dh];intro q hq;have same:isTup p.1=isTup k:=by
  obtain⟨p1,p2⟩:=p;cases k with
  |int _=>cases p1<;>first|rfl|exact fx0 he
  |str _=>cases p1<;>first|rfl|exact fx0 he
  |tup _=>cases p1<;>first|rfl|exact fx0 he
  |_=>exact fx0 hk
 cases rd with
 |dK e _ r n=>rw[SX r q hq,<-same,SX r p hp];rfl
 |dT e _ r n=>rw[S5 r q hq,<-same,S5 r p hp];rfl
end
section
variable {X:Cx} {a b c e:Expr} {pos:bz} {fa fb fe:FE} {ra rb re:ap}
def NT(H:Hp)(u:aj):D:=by
 classical
 exact if h:∃d,d.fD aR=af/\∃v,RelV v u/\Rep All H v d then zz h else .non
theorem ZV{X:Cx}{Ψ:aa (al×bb)}{σ:L2.St}{s:ao}(hK:KFrag.K=X.K)(I:Inv X Ψ σ H s)(hq:d.fD aR=af)(rv:RelV v u)(r:Rep All H v d):NT H u=d:=by
 unfold NT;have h:∃d,d.fD aR=af/\∃v,RelV v u/\Rep All H v d:=⟨d,hq,v,rv,r⟩
 rw[tT h];obtain⟨h2,v',rv',r'⟩:=zC h;have:=rv'.inj rv;subst this;exact Rep.inj I hK aR h2 hq r' r
theorem wO{X:Cx}{Ψ:aa (al×bb)}{σ:L2.St}{s:ao}(hK:KFrag.K=X.K)(I:Inv X Ψ σ H s){a:D}:∀{xs:aa V}{ds:aa D}{its:aa aj},μ aR ds=af->bL All H xs ds->Vals xs its->(its.any λu=>eqD (NT H u) a)=ds.any λy=>eqD y a
 |_,_,_,_,.nil,.nil=>rfl
 |_,_,_,h,.cons r t,.cons v vt=>by
  rw[μ,bg] at h;rw[ki,ki,ZV hK I h.1 v r,wO hK I h.2 t vt]
theorem CT{s:ao}(hK:KFrag.K=X.K)(I:Inv X Ψ σ H s)(hu:X.A.units+20<bE){a:D}{x:V}{v:aj}(ha:a.fD aR=af)(rx:Rep All H x a)(rv:RelV x v)
 {xs:aa V}{ds:aa D}{its:aa aj}(h:μ aR ds=af)(r:bL All H xs ds)(vr:Vals xs its)(u:aj)(hm:u∈its):EqAt X.A.in1 s u v (eqD (NT H u) a):=by
 obtain⟨j,hj,e⟩:=mz hm;have hj':j<ds.length:=by rw[<-r.length,vr.length];exact hj
 obtain⟨w,h1,h2⟩:=r.get (i:=j) (d:=ds[j]) (by simp[hj']);obtain⟨u',h3,h4⟩:=vr.get h1;rw[dz hj,e] at h3;cases h3;have hd:ds[j].fD aR=af:=by
  have:=iB h hj';rwa [eu,dz hj'] at this
 rw[ZV hK I hd h4 h2];exact(JR hK I aR X.A.in1 (by show X.A.units+1+12<bE;lia) hd ha h2 rx h4 rv).2.2
theorem aMs(hK:KFrag.K=X.K)(hu:X.A.units+20<bE):OpR X (de .In) (r2 (b7 .isin) af):=by
 rintro Ψ s σ H x y v u Q I rx ry ⟨a,b,d,p,q,e,k⟩;cases b with
 |tup ys=>
  replace e:(if a.fD aR&&μ aR ys then τ (π (ys.any λy=>eqD y a)) else .bad)=.ok d:=e;split at e
  ·rename_i hl;cases e;rw[bg] at hl;obtain⟨l,xs,rfl,ee,rr⟩:=q.fO;cases ry;obtain⟨its,vr,pl⟩:=fY I ee;refine in_tupleAt (λu=>eqD (NT H u) a) pl (λw hw=>CT hK I hu hl.1 p rx hl.2 rr vr w (by simpa using hw)) ⟨.bl _,H,I,rfl,?_⟩;rw[show its.toArray.any (λu=>eqD (NT H u) a)=its.any (λu=>eqD (NT H u) a) by simp,wO hK I hl.2 rr vr];exact k.bl
  ·cases e
 |lst ys=>
  replace e:(if a.fD aR&&μ aR ys then τ (π (ys.any λy=>eqD y a)) else .bad)=.ok d:=e;split at e
  ·rename_i hl;cases e;rw[bg] at hl;obtain⟨l,xs,rfl,ee,rr⟩:=q.iU;cases ry;obtain⟨its,vr,pl⟩:=dB I ee;refine in_listAt (λu=>eqD (NT H u) a) pl (λw hw=>CT hK I hu hl.1 p rx hl.2 rr vr w (by simpa using hw)) ⟨.bl _,H,I,rfl,?_⟩;rw[show its.toArray.any (λu=>eqD (NT H u) a)=its.any (λu=>eqD (NT H u) a) by simp,wO hK I hl.2 rr vr];exact k.bl
  ·cases e
 |dct kvs=>
  replace e:(if o6 kvs a then τ (π ((bG kvs a).isSome)) else .bad)=.ok d:=e;split at e
  ·rename_i hl;cases e;obtain⟨H1,a1,o,rfl,I1,bk,g,hc⟩:=aGf I q p hl;cases ry;refine aOt (by lia) I1 g rx λs' I'=>⟨.bl _,H,bk s' I',rfl,?_⟩
   rcases hc with ⟨rfl,h2⟩|⟨w,dd,rfl,h2,_⟩
   ·rw[h2] at k;exact k.bl
   ·rw[h2] at k;exact k.bl
  ·cases e
 |_=>exact bx e
theorem vK(hK:KFrag.K=X.K)(hu:X.A.units+20<bE):OpR X (de .NotIn) (r2 (b7 .lE) af):=by
 rintro Ψ s σ H x y v u Q I rx ry ⟨a,b,d,p,q,e,k⟩;cases b with
 |tup ys=>
  replace e:(if a.fD aR&&μ aR ys then τ (π (!(ys.any λy=>eqD y a))) else .bad)=.ok d:=e;split at e
  ·rename_i hl;cases e;rw[bg] at hl;obtain⟨l,xs,rfl,ee,rr⟩:=q.fO;cases ry;obtain⟨its,vr,pl⟩:=fY I ee;refine notIn_tupleAt (λu=>eqD (NT H u) a) pl (λw hw=>CT hK I hu hl.1 p rx hl.2 rr vr w (by simpa using hw)) ⟨.bl _,H,I,rfl,?_⟩;rw[show its.toArray.any (λu=>eqD (NT H u) a)=its.any (λu=>eqD (NT H u) a) by simp,wO hK I hl.2 rr vr];exact k.bl
  ·cases e
 |lst ys=>
  replace e:(if a.fD aR&&μ aR ys then τ (π (!(ys.any λy=>eqD y a))) else .bad)=.ok d:=e;split at e
  ·rename_i hl;cases e;rw[bg] at hl;obtain⟨l,xs,rfl,ee,rr⟩:=q.iU;cases ry;obtain⟨its,vr,pl⟩:=dB I ee;refine notIn_listAt (λu=>eqD (NT H u) a) pl (λw hw=>CT hK I hu hl.1 p rx hl.2 rr vr w (by simpa using hw)) ⟨.bl _,H,I,rfl,?_⟩;rw[show its.toArray.any (λu=>eqD (NT H u) a)=its.any (λu=>eqD (NT H u) a) by simp,wO hK I hl.2 rr vr];exact k.bl
  ·cases e
 |dct kvs=>
  replace e:(if o6 kvs a then τ (π (!((bG kvs a).isSome))) else .bad)=.ok d:=e;split at e
  ·rename_i hl;cases e;obtain⟨H1,a1,o,rfl,I1,bk,g,hc⟩:=aGf I q p hl;cases ry;refine aFw (by lia) I1 g rx λs' I'=>⟨.bl _,H,bk s' I',rfl,?_⟩
   rcases hc with ⟨rfl,h2⟩|⟨w,dd,rfl,h2,_⟩
   ·rw[h2] at k;exact k.bl
   ·rw[h2] at k;exact k.bl
  ·cases e
 |_=>exact bx e
theorem aEo(xs:aa α)(i:ag):L2.atI xs i=(ixD xs.length i).bind λj=>xs[j]?:=rfl
theorem bL.atI(r:bL P H xs ds)(h:((ixD ds.length i).bind λj=>ds[j]?)=ae d):∃v,L2.atI xs i=ae v/\Rep P H v d:=by
 rw[aEo,r.length];cases hi:ixD ds.length i with
 |none=>rw[hi] at h;cases h
 |some j=>
  rw[hi] at h;obtain⟨v,h1,h2⟩:=r.get h;exact⟨v,h1,h2⟩
theorem wQ{a:al}{y v':V}{u:aj}{Q:VK}(hu:X.A.units+20<bE)(I:Inv X Ψ σ H s)(g:W3 H a y (ae v'))(ry:RelV y u){H':Hp}
 (hs:nV slice ai (.ref a) u=tj [.ref a,u] (kg (.ref a) u))(bk:∀s',Inv X Ψ σ H s'->Inv X Ψ σ H' s')(q:Q v' H') :
  ϑ (ax X.prog X.w) X.A (nS value slice (.ref a) u) (EP X Ψ σ Q) X.xe s:=by
 have hT:=OJ I g;unfold nS;refine ay ?_;rw[getitemInPython_of_ne hT.not_modules];refine ay (wpAny_specialOf hT PySem.F.slot_dict_getitem.lookup ?_);have fin:ϑ (ax X.prog X.w) X.A (nV slice ai (.ref a) u) (λr s₃=>ϑ (ax X.prog X.w) X.A (letTemporaryGo value (.ref a) r >>= λ_=>pure r) (EP X Ψ σ Q) X.xe s₃) X.xe s:=by
  rw[hs];exact wpAny_operating (YB (by lia) I g ry λw' s3 I3 rw'=>ay (wpAny_letTemporaryGo (bf ⟨v',H',bk s3 I3,rw',q⟩)))
 first
  |exact bf (ay fin)
  |exact ay (bf (ay fin))
  |exact ay fin
theorem S6:∀{ds:aa (D×D)},keyOk k=af->bG ds k=ae d->∃p∈ds,isTup p.1=isTup k
 |[],_,h=>by cases h
 | (p1,p2)::ds,hk,h=>by
  rw[bG] at h;by_cases hq:eqD p1 k=af
  ·refine⟨_,bu ..,?_⟩;cases k with
   |int _=>cases p1<;>first|rfl|exact fx0 hq
   |str _=>cases p1<;>first|rfl|exact fx0 hq
   |tup _=>cases p1<;>first|rfl|exact fx0 hq
   |_=>exact fx0 hk
  ·rw[av hq] at h;obtain⟨p,hp,e⟩:=S6 hk h;exact⟨p,bq _ hp,e⟩
theorem aMt(rd:Rep All H x (.fdc ds))(rk:Rep All H y k)(hk:keyOk k=af)(h:bG ds k=ae d):∃a v,x=.ref a/\W3 H a y (ae v)/\Rep All H v d:=by
 obtain⟨p,hp,et⟩:=S6 hk h;cases rd with
 |@fdK a o kvs ds e r n=>
  rcases kJ hk rk with ⟨q,rfl,rfl⟩|⟨b,ks,rfl,eb,rfl⟩
  ·rcases V2 r with ⟨v,d',g1,g2,g3⟩|⟨g1,g2⟩
   ·rw[g2] at h;cases h;exact⟨a,v,rfl,.inl ⟨kvs,q,.inr ⟨o,e⟩,rfl,g1.symm⟩,g3⟩
   ·rw[g2] at h;cases h
  ·rw[SX r p hp] at et;cases et
 |@fdT a o kvs ds e r n=>
  rcases kJ hk rk with ⟨q,rfl,rfl⟩|⟨b,ks,rfl,eb,rfl⟩
  ·rw[S5 r p hp,n_] at et;cases et
  ·rcases aGe r with ⟨v,d',g1,g2,g3⟩|⟨g1,g2⟩
   ·rw[g2] at h;cases h;exact⟨a,v,rfl,.inr ⟨kvs,ks,b,.inr ⟨o,e⟩,rfl,eb,g1.symm⟩,g3⟩
   ·rw[g2] at h;cases h
theorem aMu(hK:KFrag.K=X.K)(hu:X.A.units+20<bE):IxR X (r2 getD ai):=by
 rintro value slice Ψ s σ H x y v u Q I rx ry ⟨a,b,d,p,q,e,k⟩ hs;cases a with
 |tup ys=>
  cases b<;>try exact bx e
  have e':=Res.lK e;obtain⟨l,xs,rfl,ee,rr⟩:=p.fO;cases q;obtain⟨w,h1,h2⟩:=rr.atI e';exact aJj value slice Ψ s σ H _ _ v u Q I rx ry ⟨l,xs,_,w,rfl,rfl,.of ee,h1,k.self h2 λz=>by cases z⟩ hs
 |lst ys=>
  cases b<;>try exact bx e
  have e':=Res.lK e;obtain⟨l,xs,rfl,ee,rr⟩:=p.iU;cases q;obtain⟨w,h1,h2⟩:=rr.atI e';exact zU value slice Ψ s σ H _ _ v u Q I rx ry ⟨l,xs,_,w,rfl,rfl,ee,h1,k.self h2 λz=>by cases z⟩ hs
 |cel ca ys=>
  cases b<;>try exact bx e
  have e':=Res.lK e;obtain⟨_,rfl,ee,pp,rr⟩:=p.inv;cases q;obtain⟨w,h1,h2⟩:=rr.atI e';exact zU value slice Ψ s σ H _ _ v u Q I rx ry ⟨_,_,_,w,rfl,rfl,.inl (.inl ee),h1,k.self h2 λz=>by cases z⟩ hs
 |scr ys=>
  cases b<;>try exact bx e
  have e':=Res.lK e;obtain⟨_,_,rfl,ee,rr⟩:=p.inv;cases q;obtain⟨w,h1,h2⟩:=rr.atI e';exact zU value slice Ψ s σ H _ _ v u Q I rx ry ⟨_,_,_,w,rfl,rfl,ee.sq hK,h1,k.self h2 λz=>by cases z⟩ hs
 |str z=>
  cases b<;>try exact bx e
  rename_i i;replace e:(if ϒ (z.length<=lim) then ι (((ixD z.cps.toList.length i).bind λj=>z.cps.toList[j]?).map λc=>ν ⟨#[c]⟩) else .bad)=.ok d:=e;split at e
  ·rename_i hl;have e':=Res.lK e;obtain⟨cc,h1,h2⟩:=lf.mp e';subst h2;cases p;cases q;exact aJk value slice Ψ s σ H _ _ v u Q I rx ry ⟨z,_,cc,rfl,rfl,vI hl,h1,k.str⟩ hs
  ·cases e
 |dct kvs=>
  have e':keyOk b=af/\bG kvs b=ae d:=by
   replace e:(if keyOk b then ι (bG kvs b) else .bad)=.ok d:=by cases b<;>exact e
   split at e
   ·rename_i hl;exact⟨hl,Res.lK e⟩
   ·exact bx e
  obtain⟨H1,a1,o,rfl,I1,bk,g,hc⟩:=aGf I p q (aD2 p e'.1 e'.2);cases rx;rcases hc with ⟨rfl,h2⟩|⟨w,dd,rfl,h2,h3⟩
  ·rw[h2] at e';cases e'.2
  ·rw[h2] at e';cases e'.2;exact wQ hu I1 g ry hs bk (k.self h3 λz=>by cases z)
 |fdc kvs=>
  have e':keyOk b=af/\bG kvs b=ae d:=by
   replace e:(if keyOk b then ι (bG kvs b) else .bad)=.ok d:=by cases b<;>exact e
   split at e
   ·rename_i hl;exact⟨hl,Res.lK e⟩
   ·exact bx e
  obtain⟨a1,w,rfl,g,h3⟩:=aMt p q e'.1 e'.2;cases rx;exact wQ hu I g ry hs (λ_ h=>h) (k.self h3 λz=>by cases z)
 |_=>cases b<;>exact bx e
theorem bJ{X:Cx}{a b:Expr}{pos:bz}{fa fb:FE}{ra rb:ap}(ha:PE X a (gE fa ra))(hb:PE X b (gE fb rb))(hK:KFrag.K=X.K:=by assumption)(hu:X.A.units+20<bE:=by assumption)(hs:tH b:=by exact λ_ _=>rfl):PE X (.Subscript a b pos) (gE (b2 getD fa fb) ai):=aMq (aMu hK hu) ha hb hs
noncomputable def gO(f:aa D->Res (az ag)):TO:=λσ H Q=>∃ρ i,ER H σ ρ/\f ρ=.ok i/\∀H',b_ H H'->Q i H'
theorem PO.imp{X:Cx}{e:az PySem.Expr}{t t':TO}(h:PO X e t)(i:∀σ H Q,t' σ H Q->t σ H Q):PO X e t':=λΨ s σ H Q I q=>h Ψ s σ H Q I (i σ H Q q)
theorem aGg:PO X ak (gO aG6):=PO.imp aFq λσ H Q z0=>by obtain⟨ρ,i,E,h,q⟩:=z0;cases h;exact q H (b_.refl H)
theorem wU(ha:PE X a (gE fa ra)):PO X (ae a) (gO (wH fa)):=PO.imp (aFr ha) λσ H Q z0=>by
 obtain⟨ρ,i,E,h,q⟩:=z0;obtain⟨x,h1,h⟩:=a_ h;obtain⟨j,h2,h⟩:=a_ h;cases h;have e:=aK1 h2;subst e;exact⟨ρ,_,E,h1,λv H' s r _=>by cases r;exact⟨j,rfl,q H' s⟩⟩
theorem aEp(n d:ah)(o:az ag):HT.sIx n d o=R0 n d o:=by
 cases o with
 |none=>rfl
 |some v=>
  show(if v<0 then (v+(n:ag)).toNat else min v.toNat n)=(if v<0 then (max (v+(n:ag)) 0).toNat else (min v (n:ag)).toNat);split<;>lia
theorem bL.cut(r:bL P H xs ds)(lo hi:az ag):bL P H (X4 xs lo hi) (cutD ds lo hi):=by
 unfold X4 cutD;rw[r.length];simp only[aEp];exact(r.drop _).take _
theorem kO:θ ds=af↔∀d∈ds,d.pure=af:=by
 induction ds with
 |nil=>simp[θ]
 |cons d ds ih=>rw[θ,bg,ih];simp
def rSl:V->az ag->az ag->Hp->VK->Prop:=λx lo hi H Q=>∃a d,Rep All H x a/\Y4 a lo hi=.ok d/\kR H d af Q
theorem aMv(hK:KFrag.K=X.K):SlR X rSl:=by
 rintro Ψ s σ H x v vl vu lo hi sl Q I rx hs pl pu ⟨a,d,p,e,k⟩;cases a<;>simp only[Y4] at e<;>(try (cases e;done))
 ·split at e
  ·cases e
  ·rename_i hw;cases e;obtain⟨l,xs,rfl,ee,rr⟩:=p.fO;refine aJi Ψ s σ H _ v vl vu lo hi sl Q I rx hs pl pu ⟨l,xs,rfl,.of ee,?_,λp hp=>?_⟩
   ·simp only[aEp,rr.length];simp only[ko,iX,hX,Bool.not_eq_false',d4] at hw;exact hw.2
   ·have sp:b_ H (upd H p (.tup (X4 xs lo hi))):=b_.upd hp;have hp2:θ ‹aa D›=af:=by
     simp only[iX,hX,ko] at hw;simpa using hw.1
    exact k _ _ sp (.tup aH ((rr.cut lo hi).same sp)) λz=>.tup aH (((rr.bU hp2).cut lo hi).same sp)
 ·split at e
  ·rename_i hl;cases e;obtain⟨l,xs,rfl,ee,rr⟩:=p.iU;refine X5 Ψ s σ H _ v vl vu lo hi sl Q I rx hs pl pu ⟨l,xs,rfl,ee,λp hp=>?_⟩;have sp:b_ H (upd H p (.lst (X4 xs lo hi))):=b_.upd hp;exact k _ _ sp (.lst aH trivial ((rr.cut lo hi).same sp)) λz=>.lst aH hp (((rr.bU hl).cut lo hi).same sp)
  ·cases e
 ·split at e
  ·rename_i hl;cases e;cases p with
   |@frz l xs ds ee rr=>
    refine X5 Ψ s σ H _ v vl vu lo hi sl Q I rx hs pl pu ⟨l,xs,rfl,ee.sq hK,λp hp=>?_⟩;have sp:b_ H (upd H p (.lst (X4 xs lo hi))):=b_.upd hp;exact k _ _ sp (.lst aH trivial ((rr.cut lo hi).same sp)) λz=>.lst aH hp (((rr.bU hl).cut lo hi).same sp)
  ·cases e
theorem aGh{lo hi:az Expr}(hK:KFrag.K=X.K)(he:PE X e (gE fe re))(hl:PO X lo (gO fl))(hh:PO X hi (gO fh)):PE X (.Subscript e (.Slice lo hi ak p2) pos) (gE (aCb fe fl fh) af):=
 PE.imp (aCl (aMv hK) he hl hh) λσ H Q z0=>by
  obtain⟨ρ,d,E,h,q⟩:=z0;obtain⟨x,h1,h⟩:=a_ h;obtain⟨l,h2,h⟩:=a_ h;obtain⟨u,h3,h⟩:=a_ h;exact⟨ρ,x,E,h1,λv H1 s1 r1 _=>⟨ρ,l,E.same s1,h2,λH2 s2=>⟨ρ,u,E.same (s1.trans s2),h3,λH3 s3=>⟨x,d,r1.same (s2.trans s3),h,q.imp ((s1.trans s2).trans s3) id⟩⟩⟩⟩
end
end Mi
namespace PySem.Mm
open PySem
noncomputable def wdL:ap->dm
 |false=>"min.loop"
 |true=>"max.loop"
noncomputable def wdO:ap->gr
 |false=>.Lt
 |true=>.Gt
section
variable {prog:bn} {w:bi} {A:bw} {R:kQ->ao->Prop} {I S:al} {fp wr:aa al} {n:ah} {P:ah->aj->Prop} {St:ah->aT->Prop} {bt:ah->ah->ap} {Gd:ao->Prop} {op:gr}
structure aK5(prog:bn)(w:bi)(A:bw)(op:gr)(P:ah->aj->Prop)(bt:ah->ah->ap)(wr:aa al)(top:ah)(Gd:ao->Prop):Prop where
 keep:∀s h' tk,Gd s->(∀b o,b∉wr->b<top->s.heap.get? b=ae o->h'.get? b=ae o)->Gd {s with heap:=h',toks:=tk}
 says:∀i j vi vj s Q E,Gd s->P i vi->P j vj->Q (.bool (bt i j)) s->ϑ (ax prog w) A (lm op vi vj) Q E s
def aNw(P:ah->aj->Prop)(bt:ah->ah->ap)(n:ah):ah->aw aj->Prop
 |0,a=>a=#[]/\0<n
 |j+1,a=>∃v,a=#[v,v]/\P (du bt j) v
theorem touched(J:aK5 prog w A op P bt wr S Gd){s:ao}{f:aw aj->aw aj}(g:Gd s):Gd {s with heap:=s.heap.update S (fA f)}:=
 J.keep s _ s.toks g λb o _ hb e=>(l9 _ _ (jS hb)).trans e
theorem turn(m:ap)(W:Walks prog w A.in1 I fp wr n P St)(hS:S∉fp)(J:aK5 prog w A.in1 (wdO m) P bt wr S Gd):∀(k j:ah)(s:ao)(a:aw aj)(c:ah),j+k=n->St j s.heap->Gd s->aNw P bt n j a->
  s.heap.get? S=ae {cls:=.type "list",dict:=ak,data:=.seq a c,slots:=#[]}->
  (∀v h' tk,P (du bt (n-1)) v->(∀b o,b∉wr->b≠S->s.heap.get? b=ae o->h'.get? b=ae o)->R (.ok (.ret v)) {s with heap:=h',toks:=tk})->
  codeAny (ax prog w) A (.builtin (wdL m) ⟨[.ref I,.none,.ref S],[]⟩) R s:=by
 have off:S∉wr:=λh=>hS (W.sub _ h)
 have still:∀{j:ah}{h:aT}{f:aw aj->aw aj},St j h->St j (h.update S (fA f)):=λst=>
  W.frame _ _ _ st λb hb o e=>(l9 _ _ λz:S=b=>hS (z▸hb)).trans e
 intro k;induction k with
 |zero=>
  intro j s a c hj st g hb hs fin;have hjn:j=n:=hj;subst hjn;cases j with
  |zero=>exact bd hb.2 (fj 0)
  |succ j=>
   obtain⟨v,rfl,hv⟩:=hb;have last:∀(h':aT)(tk:ah),(∀b o,b∉wr->s.heap.get? b=ae o->h'.get? b=ae o)->R (.ok (.ret v)) {s with heap:=h'.update S (fA λ_=>#[]),toks:=tk}:=λh' tk kp=>
    fin v _ tk hv λb o h1 h2 e=>(l9 _ _ (Ne.symm h2)).trans (kp b o h1 e)
   cases m
   ·show codeAny (ax prog w) A (.builtin "min.loop" ⟨[.ref I,.none,.ref S],[]⟩) R s;refine gn ul ?_;rw[gS jt];refine ay (m:=lp (.ref S)) (kx hs rfl ?_);refine ay (i7 (m:=fu (.ref I)) (W.done s _ _ st λh' tk kp=>?_));exact ay (m:=lq S _) (ky (kp S _ off hs) rfl (ay (ju (bf (last h' tk kp)))))
   ·show codeAny (ax prog w) A (.builtin "max.loop" ⟨[.ref I,.none,.ref S],[]⟩) R s;refine gn um ?_;rw[gS jv];refine ay (m:=lp (.ref S)) (kx hs rfl ?_);refine ay (i7 (m:=fu (.ref I)) (W.done s _ _ st λh' tk kp=>?_));exact ay (m:=lq S _) (ky (kp S _ off hs) rfl (ay (ju (bf (last h' tk kp)))))
 |succ k ih=>
  intro j s a c hj st g hb hs fin;have hjn:j<n:=by lia
  /- what is left to do behind the list's change,or without one -/
  have on:∀(v:aj)(h':aT)(tk:ah),P j v->St (j+1) h'->(∀b o,b∉wr->s.heap.get? b=ae o->h'.get? b=ae o)->(∀(a':aw aj)(c':ah)(h2:aT),aNw P bt n (j+1) a'->h2.get? S=ae {cls:=.type "list",dict:=ak,data:=.seq a' c',slots:=#[]}->(h2=h'\/∃f:aw aj->aw aj,h2=h'.update S (fA f))->
    codeAny (ax prog w) A (.builtin (wdL m) ⟨[.ref I,.none,.ref S],[]⟩) R {s with heap:=h2,toks:=tk}):=by
   intro v h' tk _ st' kp a' c' h2 hb' hs' hh;have g':Gd {s with heap:=h',toks:=tk}:=J.keep s h' tk g λb o h1 _ e=>kp b o h1 e
   rcases hh with rfl|⟨f,rfl⟩
   ·exact ih (j+1) _ a' c' (by lia) st' g' hb' hs' λu h3 t3 hu k3=>fin u h3 t3 hu λb o h1 h2 e=>k3 b o h1 h2 (kp b o h1 e)
   ·exact ih (j+1) _ a' c' (by lia) (still st') (touched J g') hb' hs' λu h3 t3 hu k3=>fin u h3 t3 hu λb o h1 h2 e=>k3 b o h1 h2 ((l9 _ _ (Ne.symm h2)).trans (kp b o h1 e))
  have nmn:(toString "min" ++ toString ".loop" : dm)="min.loop":=by decide
  have nmx:(toString "max" ++ toString ".loop" : dm)="max.loop":=by decide
  cases j with
  |zero=>
   obtain⟨rfl,_⟩:=hb;cases m
   ·show codeAny (ax prog w) A (.builtin "min.loop" ⟨[.ref I,.none,.ref S],[]⟩) R s;refine gn ul ?_;rw[gS jt];refine ay (m:=lp (.ref S)) (kx hs rfl ?_);refine ay (i7 (m:=fu (.ref I)) (W.item 0 s _ _ hjn st λv h' tk pv st' kp=>?_));have hs':=kp S _ off hs;refine ay (m:=lq S _) (ky hs' rfl ?_);rw[nmn];exact bf ⟨gj jt _,on v h' tk pv st' kp #[v,v] _ _ ⟨v,rfl,pv⟩ (ni _ hs' rfl) (.inr ⟨_,rfl⟩)⟩
   ·show codeAny (ax prog w) A (.builtin "max.loop" ⟨[.ref I,.none,.ref S],[]⟩) R s;refine gn um ?_;rw[gS jv];refine ay (m:=lp (.ref S)) (kx hs rfl ?_);refine ay (i7 (m:=fu (.ref I)) (W.item 0 s _ _ hjn st λv h' tk pv st' kp=>?_));have hs':=kp S _ off hs;refine ay (m:=lq S _) (ky hs' rfl ?_);rw[nmx];exact bf ⟨gj jv _,on v h' tk pv st' kp #[v,v] _ _ ⟨v,rfl,pv⟩ (ni _ hs' rfl) (.inr ⟨_,rfl⟩)⟩
  |succ j=>
   obtain⟨u,rfl,hu⟩:=hb;cases m
   ·show codeAny (ax prog w) A (.builtin "min.loop" ⟨[.ref I,.none,.ref S],[]⟩) R s;refine gn ul ?_;rw[gS jt];refine ay (m:=lp (.ref S)) (kx hs rfl ?_);refine ay (i7 (m:=fu (.ref I)) (W.item (j+1) s _ _ hjn st λv h' tk pv st' kp=>?_));have hs':=kp S _ off hs;refine ay (bf ?_);refine ay (i7 (gv (ay (m:=lm .Lt v u) (J.says (j+1) (du bt j) v u _ _ _ (J.keep s h' tk g λb o h1 _ e=>kp b o h1 e) pv hu ?_))));refine ay (gv (iA (ay (ju (bf ?_)))));cases hx:bt (j+1) (du bt j)
    ·rw[av lT];refine ay (ju ?_);rw[nmn];exact bf ⟨gj jt _,on v h' tk pv st' kp _ _ _ ⟨u,rfl,by rw[du,hx];exact hu⟩ hs' (.inl rfl)⟩
    ·rw[aq rfl];refine ay (m:=lq S _) (ky hs' rfl (ay (ju ?_)));rw[nmn];exact bf ⟨gj jt _,on v h' tk pv st' kp #[v,v] _ _ ⟨v,rfl,by rw[du,hx];exact pv⟩ (ni _ hs' rfl) (.inr ⟨_,rfl⟩)⟩
   ·show codeAny (ax prog w) A (.builtin "max.loop" ⟨[.ref I,.none,.ref S],[]⟩) R s;refine gn um ?_;rw[gS jv];refine ay (m:=lp (.ref S)) (kx hs rfl ?_);refine ay (i7 (m:=fu (.ref I)) (W.item (j+1) s _ _ hjn st λv h' tk pv st' kp=>?_));have hs':=kp S _ off hs;refine ay (bf ?_);refine ay (i7 (gv (ay (m:=lm .Gt v u) (J.says (j+1) (du bt j) v u _ _ _ (J.keep s h' tk g λb o h1 _ e=>kp b o h1 e) pv hu ?_))));refine ay (gv (iA (ay (ju (bf ?_)))));cases hx:bt (j+1) (du bt j)
    ·rw[av lT];refine ay (ju ?_);rw[nmx];exact bf ⟨gj jv _,on v h' tk pv st' kp _ _ _ ⟨u,rfl,by rw[du,hx];exact hu⟩ hs' (.inl rfl)⟩
    ·rw[aq rfl];refine ay (m:=lq S _) (ky hs' rfl (ay (ju ?_)));rw[nmx];exact bf ⟨gj jv _,on v h' tk pv st' kp #[v,v] _ _ ⟨v,rfl,by rw[du,hx];exact pv⟩ (ni _ hs' rfl) (.inr ⟨_,rfl⟩)⟩
end
section
variable {prog:bn} {w:bi} {A:bw} {E:aj->ao->Prop} {s:ao} {Q:aj->ao->Prop}
abbrev Seen(prog:bn)(w:bi)(A:bw)(op:gr)(Q:aj->ao->Prop)(it:aj)(t:ao):Prop:=
 ∃(I:al)(fp wr:aa al)(n:ah)(P:ah->aj->Prop)(St:ah->aT->Prop)(bt:ah->ah->ap),it=.ref I/\Walks prog w A I fp wr n P St/\St 0 t.heap/\(∀b∈fp,b<t.heap.objs.size)/\0<n/\
  (∃Gd:ao->Prop,Gd t/\(∀s h' tk,Gd s->(∀b o,b∉wr->b<t.heap.objs.size->s.heap.get? b=ae o->h'.get? b=ae o)->Gd {s with heap:=h',toks:=tk})/\
   ∀i j vi vj s Q E,Gd s->P i vi->P j vj->Q (.bool (bt i j)) s->ϑ (ax prog w) A (lm op vi vj) Q E s)/\
  ∀v h' tk,P (du bt (n-1)) v->(∀b o,b∉wr->t.heap.get? b=ae o->h'.get? b=ae o)->Q v {t with heap:=h',toks:=tk}
theorem begun(m:ap){it:aj}{t:ao}{R:kQ->ao->Prop}(hR:∀v s,Q v s->R (.ok (.ret v)) s)(h:Seen prog w A.in1 (wdO m) Q it t) :
  codeAny (ax prog w) A (.builtin (wdL m) ⟨[it,.none,.ref t.heap.objs.size],[]⟩) R {t with heap:=t.heap.push {cls:=.type "list",data:=.seq #[]}}:=by
 obtain⟨I,fp,wr,n,P,St,bt,rfl,W,st,hfp,hn,⟨Gd,g,gk,gs⟩,q⟩:=h;have up:∀b o,t.heap.get? b=ae o->(t.heap.push {cls:=.type "list",data:=.seq #[]}).get? b=ae o:=λb o e=>cr _ e
 refine turn m W (λz=>fj _ (hfp _ z)) ⟨gk,gs⟩ n 0 _ #[] _ (Ac n) (W.frame _ _ _ st λb _ o e=>up b o e) (gk t _ t.toks g λb o _ _ e=>up b o e) ⟨rfl,hn⟩ (di _ rfl) λv h' tk hv kp=>?_
 exact hR _ _ (q v h' tk hv λb o h1 e=>kp b o h1 (c9 (bS e)) (up b o e))
theorem JX{x:aj}(h:ϑ (ax prog w) A.in1 (fS x) (Seen prog w A.in1 .Lt Q) E s):ϑ (ax prog w) A (call (.builtin "min") [x]) Q E s:=by
 have nmn:(toString "min" ++ toString ".loop" : dm)="min.loop":=by decide
 refine qS Ad Ae Af (F.args_min1 _) ?_;refine ay (m:=qV "min" ["key","default"] 0 ⟨[],[]⟩) (lr (a:=[ak,ak]) rfl ?_);refine ay (bf (ay (eL h (λit t ht=>ay (fw ?_)) λ_ _ e=>e)));rw[nmn];exact bf ⟨gj jt _,begun ai (λ_ _ q=>q) ht⟩
theorem JZ{x:aj}(h:ϑ (ax prog w) A.in1 (fS x) (Seen prog w A.in1 .Gt Q) E s):ϑ (ax prog w) A (call (.builtin "max") [x]) Q E s:=by
 have nmx:(toString "max" ++ toString ".loop" : dm)="max.loop":=by decide
 refine qS Ag Ah Ai (F.args_max1 _) ?_;refine ay (m:=qV "max" ["key","default"] 0 ⟨[],[]⟩) (lr (a:=[ak,ak]) rfl ?_);refine ay (bf (ay (eL h (λit t ht=>ay (fw ?_)) λ_ _ e=>e)));rw[nmx];exact bf ⟨gj jv _,begun af (λ_ _ q=>q) ht⟩
theorem QC{a b:aj}(h:ϑ (ax prog w) A.in1 (fS (.ref s.heap.objs.size)) (Seen prog w A.in1 .Lt Q) E {s with heap:=s.heap.push {cls:=.type "tuple",data:=.seq #[a,b]}}):ϑ (ax prog w) A (call (.builtin "min") [a,b]) Q E s:=by
 have nmn:(toString "min" ++ toString ".loop" : dm)="min.loop":=by decide
 refine qS Ad Ae Af (F.args_min2 _ _) ?_;refine ay (m:=qV "min" ["key","default"] 0 ⟨[],[]⟩) (lr (a:=[ak,ak]) rfl ?_);refine ay (m:=uo [a,b]) (fw (ay (eL h (λit t ht=>ay (fw ?_)) λ_ _ e=>e)));rw[nmn];exact bf ⟨gj jt _,begun ai (λ_ _ q=>q) ht⟩
theorem QD{a b:aj}(h:ϑ (ax prog w) A.in1 (fS (.ref s.heap.objs.size)) (Seen prog w A.in1 .Gt Q) E {s with heap:=s.heap.push {cls:=.type "tuple",data:=.seq #[a,b]}}):ϑ (ax prog w) A (call (.builtin "max") [a,b]) Q E s:=by
 have nmx:(toString "max" ++ toString ".loop" : dm)="max.loop":=by decide
 refine qS Ag Ah Ai (F.args_max2 _ _) ?_;refine ay (m:=qV "max" ["key","default"] 0 ⟨[],[]⟩) (lr (a:=[ak,ak]) rfl ?_);refine ay (m:=uo [a,b]) (fw (ay (eL h (λit t ht=>ay (fw ?_)) λ_ _ e=>e)));rw[nmx];exact bf ⟨gj jv _,begun af (λ_ _ q=>q) ht⟩
end
end PySem.Mm
namespace Mi
open PySem L2 PySem.SeqAt PySem.Spec PyProof.Rows
variable [KFrag]
theorem J1(o:eY)(x:D)(xs:aa D):∀k,k<=xs.length->(xs.take k).foldl (λm y=>if (gK o y m).getD ai then y else m) x=(x::xs).getD (du (btD o (x::xs)) k) .non
 |0,_=>by simp[du]
 |k+1,h=>by
  have ih:=J1 o x xs k (by lia);have hk:k<xs.length:=by lia
  rw[rf hk,uq,ih];have e:(x::xs).getD (k+1) .non=xs[k]:=by simp[hk]
  have hb:btD o (x::xs) (k+1) (du (btD o (x::xs)) k)=(gK o xs[k] ((x::xs).getD (du (btD o (x::xs)) k) .non)).getD ai:=by unfold btD;rw[e]
  show(if (gK o xs[k] ((x::xs).getD (du (btD o (x::xs)) k) .non)).getD ai then xs[k] else (x::xs).getD (du (btD o (x::xs)) k) .non)=(x::xs).getD (if btD o (x::xs) (k+1) (du (btD o (x::xs)) k) then k+1 else du (btD o (x::xs)) k) .non;rw[<-hb];cases btD o (x::xs) (k+1) (du (btD o (x::xs)) k) with
  |true=>rw[aq rfl,aq rfl,e]
  |false=>rw[av (by simp),av (by simp)]
section
variable {X:Cx} {Ψ:aa (al×bb)} {σ:L2.St} {H:Hp} {s:ao}
def Gds(s:ao)(s':ao):Prop:=∃h' tk,s'={s with heap:=h',toks:=tk}/\∀b o,s.heap.get? b=ae o->h'.get? b=ae o
theorem CV(hK:KFrag.K=X.K)(I:Inv X Ψ σ H s)(hu:X.A.units+20<bE){o:eY}{xs:aa V}{ds:aa D}{its:aa aj}{d:D}(r:bL All H xs ds)(vr:Vals xs its)(h:qQ o ds=.ok d)(i j:ah)(vi vj:aj)(s':ao)(Q:aj->ao->Prop)(E:aj->ao->Prop)
 (g:Gds s s')(hi:its.toArray[i]?=ae vi)(hj:its.toArray[j]?=ae vj)(q:Q (.bool (btD o ds i j)) s'):ϑ (ax X.prog X.w) X.A.in1 (lm o.op vi vj) Q E s':=by
 obtain⟨h',tk,rfl,hk⟩:=g;have I':Inv X Ψ σ H {s with heap:=h',toks:=tk}:=I.kept hk;have hi':its[i]?=ae vi:=by simpa using hi
 have hj':its[j]?=ae vj:=by simpa using hj
 have at_:∀{i:ah}{v:aj},its[i]?=ae v->∃d w,ds.getD i .non=d/\d∈ds/\RelV w v/\Rep All H w d:=by
  intro i v hv;have hlt:i<its.length:=(dy.mp hv).1;have hlt':i<ds.length:=by rw[<-r.length,vr.length];exact hlt
  obtain⟨w,h1,h2⟩:=r.get (i:=i) (d:=ds[i]) (by simp[hlt']);obtain⟨u,h3,h4⟩:=vr.get h1;rw[hv] at h3;cases h3;exact⟨ds[i],w,by simp[hlt'],gN _,h4,h2⟩
 obtain⟨d1,w1,e1,m1,v1,r1⟩:=at_ hi';obtain⟨d2,w2,e2,m2,v2,r2⟩:=at_ hj';cases ds with
 |nil=>cases m1
 |cons x xs'=>
  simp only[qQ] at h;split at h
  ·rename_i hall;have h1:=dh.mp hall d1 m1;have h2:=dh.mp hall d2 m2;rw[bg] at h1 h2;obtain⟨k,hk⟩:=sM.mp (dh.mp h1.2 d2 m2);have:btD o (x::xs') i j=k:=by unfold btD;rw[e1,e2,hk];rfl
   rw[this] at q;exact P_ hK I' o aR X.A.in1 (by show X.A.units+1+12<bE;lia) h1.1 h2.1 r1 r2 v1 v2 hk X.prog X.w E Q q
  ·exact bx h
theorem QF{o:eY}{xs:aa V}{ds:aa D}{its:aa aj}{d:D}(r:bL All H xs ds)(vr:Vals xs its)(h:qQ o ds=.ok d){v:aj}(hv:its.toArray[du (btD o ds) (its.length-1)]?=ae v):∃w,RelV w v/\Rep All H w d:=by
 have hv':its[du (btD o ds) (its.length-1)]?=ae v:=by simpa using hv
 cases ds with
 |nil=>exact bx h
 |cons x xs'=>
  simp only[qQ] at h;split at h
  ·cases h;have hl:its.length-1=xs'.length:=by rw[<-vr.length,r.length];simp
   rw[hl] at hv';have fb:=J1 o x xs' xs'.length (ba _);rw[ur] at fb;have hlt:du (btD o (x::xs')) xs'.length<its.length:=(dy.mp hv').1;have hlt':du (btD o (x::xs')) xs'.length<(x::xs').length:=by rw[<-r.length,vr.length];exact hlt
   obtain⟨w,h1,h2⟩:=r.get (i:=du (btD o (x::xs')) xs'.length) (d:=(x::xs')[du (btD o (x::xs')) xs'.length]) (by simp[hlt']);obtain⟨u,h3,h4⟩:=vr.get h1;rw[hv'] at h3;cases h3;refine⟨w,h4,?_⟩;rw[fb,eu,dz hlt'];exact h2
  ·exact bx h
theorem Gds.grow{s':ao}{h1:aT}{tk1:ah}(g:Gds s s'){wq:aa al}{n:ah}(hw:∀b∈wq,s.heap.objs.size<=b)(hn:s.heap.objs.size<=n)
 (kk:∀b o,b∉wq->b<n->s'.heap.get? b=ae o->h1.get? b=ae o):Gds s {s' with heap:=h1,toks:=tk1}:=by
 obtain⟨h',tk,rfl,hk⟩:=g;refine⟨h1,tk1,rfl,λb o e=>kk b o (λhb=>?_) (em (bS e) hn) (hk b o e)⟩;exact bd (em (bS e) (hw b hb)) (fj _)
end
section
variable {X:Cx}
theorem S7{o:eY}{ds:aa D}{d:D}(h:qQ o ds=.ok d):0<ds.length:=by
 cases ds with
 |nil=>exact bx h
 |cons _ _=>simp
structure Mms(o:eY)(nm:dm):Prop where
 walk:∀{prog:bn}{w:bi}{A:bw}{Q:aj->ao->Prop}{E:aj->ao->Prop}{s:ao}{x:aj},ϑ (ax prog w) A.in1 (fS x) (Mm.Seen prog w A.in1 o.op Q) E s->ϑ (ax prog w) A (call (.builtin nm) [x]) Q E s
 two:∀{prog:bn}{w:bi}{A:bw}{Q:aj->ao->Prop}{E:aj->ao->Prop}{s:ao}{a b:aj},ϑ (ax prog w) A.in1 (fS (.ref s.heap.objs.size)) (Mm.Seen prog w A.in1 o.op Q) E {s with heap:=s.heap.push {cls:=.type "tuple",data:=.seq #[a,b]}}->ϑ (ax prog w) A (call (.builtin nm) [a,b]) Q E s
theorem ZW{o:eY}{nm:dm}(M:Mms o nm)(hK:KFrag.K=X.K)(hu:X.A.units+20<bE)(hc:X.calm=af){Ψ:aa (al×bb)}{σ:L2.St}{H:Hp}{s:ao}{l:al}{xs:aa V}{ds:aa D}{d:D}{Q:VK}(I:Inv X Ψ σ H s)(hl:SqL X.K H l xs)(r:bL All H xs ds)(h:qQ o ds=.ok d)(q:kR H d ai Q) :
  ϑ (ax X.prog X.w) X.A (call (.builtin nm) [.ref l]) (EP X Ψ σ Q) X.xe s:=by
 obtain⟨its,vr,pl⟩:=dB I hl;have hlt:l<s.heap.objs.size:=by obtain⟨_,e,_⟩:=pl;exact bS e
 refine M.walk (kA pl ?_);refine⟨_,_,_,_,_,_,btD o ds,rfl,Walks.list (A:=X.A.in1) (I.ok.hd hc) _ l (c9 hlt) its.toArray,⟨⟨_,di _ rfl,rfl,rfl⟩,pl.push _⟩,λb hb=>?_,by rw[cg,<-vr.length,r.length];exact S7 h,⟨Gds s,⟨_,s.toks,rfl,λb o e=>cr _ e⟩,λs' h' tk g kk=>g.grow (wq:=[s.heap.objs.size]) (n:=s.heap.objs.size+1) (λb hb=>?_) (iu _) λb o h1 h2 e=>kk b o h1 (by show b<(s.heap.push _).objs.size;rw[iv];exact h2) e,λi j vi vj s' Q E g h1 h2 q=>CV hK I hu r vr h i j vi vj s' Q E g h1 h2 q⟩,λv h' tk hP hk=>?_⟩
 ·show b<(s.heap.push _).objs.size;rw[iv];rcases bm.mp hb with rfl|hb
  ·exact jq _
  ·rcases bm.mp hb with rfl|hb
   ·exact ic hlt
   ·cases hb
 ·rcases bm.mp hb with rfl|hb
  ·exact ba _
  ·cases hb
 ·obtain⟨w,v1,r1⟩:=QF r vr h (by simpa using hP);refine⟨w,H,I.kept λb o e=>hk b o (λhb=>?_) (cr _ e),v1,q.self r1 λz=>by cases z⟩;rcases bm.mp hb with rfl|hb
  ·exact bd (bS e) (fj _)
  ·cases hb
theorem ZX{o:eY}{nm:dm}(M:Mms o nm)(hK:KFrag.K=X.K)(hu:X.A.units+20<bE)(hc:X.calm=af){Ψ:aa (al×bb)}{σ:L2.St}{H:Hp}{s:ao}{l:al}{xs:aa V}{ds:aa D}{d:D}{Q:VK}(I:Inv X Ψ σ H s)(hl:H l=ae (.tup xs))(r:bL All H xs ds)(h:qQ o ds=.ok d)(q:kR H d ai Q) :
  ϑ (ax X.prog X.w) X.A (call (.builtin nm) [.ref l]) (EP X Ψ σ Q) X.xe s:=by
 obtain⟨its,vr,pl⟩:=fY I hl;have hlt:l<s.heap.objs.size:=by obtain⟨_,e,_⟩:=pl;exact bS e
 refine M.walk (rg pl ?_);refine⟨_,_,_,_,_,_,btD o ds,rfl,Aj (A:=X.A.in1) (I.ok.hd hc) _ l (c9 hlt) its.toArray,⟨⟨_,di _ rfl,rfl,rfl⟩,pl.push _⟩,λb hb=>?_,by rw[cg,<-vr.length,r.length];exact S7 h,⟨Gds s,⟨_,s.toks,rfl,λb o e=>cr _ e⟩,λs' h' tk g kk=>g.grow (wq:=[s.heap.objs.size]) (n:=s.heap.objs.size+1) (λb hb=>?_) (iu _) λb o h1 h2 e=>kk b o h1 (by show b<(s.heap.push _).objs.size;rw[iv];exact h2) e,λi j vi vj s' Q E g h1 h2 q=>CV hK I hu r vr h i j vi vj s' Q E g h1 h2 q⟩,λv h' tk hP hk=>?_⟩
 ·show b<(s.heap.push _).objs.size;rw[iv];rcases bm.mp hb with rfl|hb
  ·exact jq _
  ·rcases bm.mp hb with rfl|hb
   ·exact ic hlt
   ·cases hb
 ·rcases bm.mp hb with rfl|hb
  ·exact ba _
  ·cases hb
 ·obtain⟨w,v1,r1⟩:=QF r vr h (by simpa using hP);refine⟨w,H,I.kept λb o e=>hk b o (λhb=>?_) (cr _ e),v1,q.self r1 λz=>by cases z⟩;rcases bm.mp hb with rfl|hb
  ·exact bd (bS e) (fj _)
  ·cases hb
theorem ZZ{o:eY}{nm:dm}(two:∀{prog:bn} {w:bi} {A:bw} {Q:aj->ao->Prop} {E:aj->ao->Prop} {s:ao} {a b:aj},ϑ (ax prog w) A.in1 (fS (.ref s.heap.objs.size)) (Mm.Seen prog w A.in1 o.op Q) E {s with heap:=s.heap.push {cls:=.type "tuple",data:=.seq #[a,b]}}->ϑ (ax prog w) A (call (.builtin nm) [a,b]) Q E s)(hK:KFrag.K=X.K)(hu:X.A.units+20<bE)(hc:X.calm=af){Ψ:aa (al×bb)}{σ:L2.St}{H:Hp}{s:ao}{x y:V}{u w:aj}{a b d:D}{Q:VK}(I:Inv X Ψ σ H s)(rx:Rep All H x a)(ry:Rep All H y b)(ru:RelV x u)(rw':RelV y w)(h:qQ o [a,b]=.ok d)(q:kR H d ai Q) :
  ϑ (ax X.prog X.w) X.A (call (.builtin nm) [u,w]) (EP X Ψ σ Q) X.xe s:=by
 have r:bL All H [x,y] [a,b]:=.cons rx (.cons ry .nil);have vr:Vals [x,y] [u,w]:=.cons ru (.cons rw' .nil);have pl:(s.heap.push {cls:=.type "tuple",data:=.seq #[u,w]}).IsTuple s.heap.objs.size [u,w].toArray:=⟨_,di _ rfl,rfl,0,rfl⟩
 have hsz:(s.heap.push {cls:=.type "tuple",data:=.seq #[u,w]}).objs.size=s.heap.objs.size+1:=iv ..;refine two (rg pl ?_);refine⟨_,_,_,_,_,_,btD o [a,b],rfl,Aj (A:=X.A.in1) (I.ok.hd hc) _ s.heap.objs.size (by rw[hsz];exact c9 (jq _)) [u,w].toArray,⟨⟨_,di _ rfl,rfl,rfl⟩,pl.push _⟩,λb hb=>?_,by simp,⟨Gds s,⟨_,s.toks,rfl,λb o e=>cr _ (cr _ e)⟩,λs' h' tk g kk=>g.grow (wq:=[s.heap.objs.size+1]) (n:=s.heap.objs.size+2) (λb hb=>?_) (by lia) λb o h1 h2 e=>kk b o (by rw[hsz];exact h1) (by show b<((s.heap.push _).push _).objs.size;rw[iv,hsz];exact h2) e,λi j vi vj s' Q E g h1 h2 q=>CV hK I hu r vr h i j vi vj s' Q E g h1 h2 q⟩,λv h' tk hP hk=>?_⟩
 ·show b<((s.heap.push _).push _).objs.size;rw[iv,hsz];rcases bm.mp hb with rfl|hb
  ·rw[hsz];exact jq _
  ·rcases bm.mp hb with rfl|hb
   ·exact ic (jq _)
   ·cases hb
 ·rcases bm.mp hb with rfl|hb
  ·lia
  ·cases hb
 ·obtain⟨w,v1,r1⟩:=QF r vr h (by simpa using hP);refine⟨w,H,I.kept λb o e=>hk b o (λhb=>?_) (cr _ (cr _ e)),v1,q.self r1 λz=>by cases z⟩;rcases bm.mp hb with hb|hb
  ·have:=bS e;rw[hb,hsz] at this;exact bd this (Nat.not_lt.mpr (iu _))
  ·cases hb
theorem aK6{o:eY}{nm:dm}(M:Mms o nm)(hK:KFrag.K=X.K)(hu:X.A.units+20<bE)(hc:X.calm=af):lF X (.builtin nm) (rs (cH o) ai):=by
 rintro Ψ s σ H xs us Q I vr ⟨ds,d,r,e,k⟩;unfold cH at e;split at e
 ·cases r with
  |cons r t=>
   cases t;cases vr with
   |cons v vt=>
    cases vt;obtain⟨l,ys,rfl,hl,rr⟩:=r.iU (K:=X.K);cases v;exact ZW M hK hu hc I hl rr e k
 ·cases r with
  |cons r t=>
   cases t;cases vr with
   |cons v vt=>
    cases vt;obtain⟨l,ys,rfl,hl,rr⟩:=r.fO;cases v;exact ZX M hK hu hc I hl rr e k
 ·cases r with
  |cons r t=>
   cases t with
   |cons r' t=>
    cases t;cases vr with
    |cons v vt=>
     cases vt with
     |cons v' vt=>
      cases vt;exact ZZ M.two hK hu hc I r r' v v' e k
 ·exact bx e
theorem zE(hK:KFrag.K=X.K)(hu:X.A.units+20<bE)(hc:X.calm=af):lF X (.builtin "min") (rs (cH .lt) ai):=aK6 ⟨Mm.JX,Mm.QC⟩ hK hu hc
theorem J2(hK:KFrag.K=X.K)(hu:X.A.units+20<bE)(hc:X.calm=af):lF X (.builtin "max") (rs (cH .gt) ai):=aK6 ⟨Mm.JZ,Mm.QD⟩ hK hu hc
end
end Mi
namespace PySem.Mm
open PySem PyProof.Rows PySem.W
theorem J3{K:Type}[fg K]{knd:KeyKind prog w K}{d:al}{kvs:aa (K×aj)}{ep n:ah}(hh:A.handled=ak)(lo:(d==fi)=ai)
 (hm:s.heap.DictAt knd d kvs ep)(hn:kvs.length=n)(hl:n<=2 ^ 24)
 (q:∀h' tk acc c,(∀b o,s.heap.get? b=ae o->h'.get? b=ae o)->h'.get? s.heap.objs.size=ae {cls:=.type "list",dict:=ak,data:=.seq acc c,slots:=#[]}->
   ItemsOf (λi v=>∃k x,kvs[i]?=ae (k,x)/\knd.is k v=af) acc n->Q (.ref s.heap.objs.size) {s with heap:=h',toks:=tk}):ϑ (ax prog w) A (call (.type "list") [.ref d]) Q E s:=by
 subst hn;exact kdl_call (kdl_dict lo) hh hm (kdl_size hl) q
end PySem.Mm
namespace Mi
open PySem L2 PySem.SeqAt PySem.Spec PyProof.Rows
section
variable [KFrag]
section
variable {a b e:Expr} {x:Str} {id T:dm}
theorem mJ(r:bL P H xs [d])(vr:Vals xs us):∃v u,xs=[v]/\us=[u]/\Rep P H v d/\RelV v u:=by
 cases r with
 |cons r t=>
  cases t;cases vr with
  |cons v vt=>
   cases vt;exact⟨_,_,rfl,rfl,r,v⟩
theorem S8{fr:ap}(h:gE (aN f fs) fr σ H Q):tCB (rs f fr) (gA fs rr) σ H Q:=by
 obtain⟨ρ,d,E,h,q⟩:=h;obtain⟨ds,h1,h2⟩:=a_ h;exact⟨ρ,ds,E,h1,λvs H1 s1 r1 _=>⟨ds,d,r1,h2,q.imp s1 id⟩⟩
theorem aW{fr:ap}(hc:lF X (.builtin id) (rs f fr))(hg:Gl X x)(hm:X.mg x=ak)(hv:en x=ae (.builtin id))(ha:PA X (e::es) (gA fs rr))(hn:x ≠ "__name__":=by decide)(hdb:nDb x:=by decide)
 (he:bp (e::es) X.env=(ai,bP e X.env)::bp es X.env:=by rfl)(hpl:(eJ pos (bp es X.env)).any (·.1)=ai:=by rfl):PE X (.Call (.Name x p) (e::es) [] pos) (gE (aN f fs) fr):=
 PE.imp (RQ hc hg hm hv ha hn hdb he hpl) λ_ _ _=>S8
theorem iC{fr:ap}(hc:lF X (.type T) (rs f fr))(hg:Gl X x)(hm:X.mg x=ak)(hv:en x=ae (.type T))(ha:PA X (e::es) (gA fs rr))(hn:x ≠ "__name__":=by decide)(hdb:nDb x:=by decide)
 (he:bp (e::es) X.env=(ai,bP e X.env)::bp es X.env:=by rfl)(hpl:(eJ pos (bp es X.env)).any (·.1)=ai:=by rfl):PE X (.Call (.Name x p) (e::es) [] pos) (gE (aN f fs) fr):=
 PE.imp (v4 hc hg hm hv ha hn hdb he hpl) λ_ _ _=>S8
theorem cN(hK:KFrag.K=X.K):lF X (.builtin "len") (rs dY af):=by
 rintro Ψ s σ H xs us Q I vr ⟨ds,d,r,e,k⟩;unfold dY at e;split at e
 ·cases e;obtain⟨vv,uu,rfl,rfl,r,v⟩:=mJ r vr;obtain⟨l,ys,rfl,hl,rr⟩:=r.fO;cases v;exact jN Ψ s σ H [.ref l] [.ref l] Q I (.cons rfl .nil) ⟨l,ys,rfl,.inr (.of hl),by rw[rr.length];exact k.int⟩
 ·cases e;obtain⟨vv,uu,rfl,rfl,r,v⟩:=mJ r vr;obtain⟨l,ys,rfl,hl,rr⟩:=r.iU;cases v;exact jN Ψ s σ H [.ref l] [.ref l] Q I (.cons rfl .nil) ⟨l,ys,rfl,.inl hl,by rw[rr.length];exact k.int⟩
 ·cases e;obtain⟨vv,uu,rfl,rfl,r,v⟩:=mJ r vr;cases r with
  |@frz l xs ds ee rr=>
   cases v;exact jN Ψ s σ H [.ref l] [.ref l] Q I (.cons rfl .nil) ⟨l,xs,rfl,.inl (ee.sq hK),by rw[rr.length];exact k.int⟩
 ·cases e;obtain⟨vv,uu,rfl,rfl,r,v⟩:=mJ r vr;obtain⟨_,rfl,ee,pp,rr⟩:=r.inv;cases v;exact jN Ψ s σ H [.ref _] [.ref _] Q I (.cons rfl .nil) ⟨_,_,rfl,.inl (.inl (.inl ee)),by rw[rr.length];exact k.int⟩
 ·split at e
  ·rename_i hl;cases e;obtain⟨vv,uu,rfl,rfl,r,v⟩:=mJ r vr;cases r.inv;exact IV Ψ s σ H _ _ Q I (.cons v .nil) ⟨_,rfl,vI hl,k.int⟩
  ·exact bx e
 ·exact bx e
theorem kE.keys:∀{kvs:aa (Key×V)}{ds:aa (D×D)},kE P H kvs ds->bL P' H (kvs.map λp=>kV p.1) (lO ds)
 |_,_,.nil=>.nil
 |_,_,.cons (k:=k) _ t=>.cons (by cases k<;>first|exact .int _|exact .str _) t.keys
theorem list_dict(hc:X.calm=af)(I:Inv X Ψ σ H s)(e:H l=ae (.dK kvs))
 (q:∀p s',H p=ak->Inv X Ψ σ (upd H p (.lst (kvs.map λp=>kV p.1))) s'->(∀l0 o0,H l0=ae o0->l0≠p)->Q (.ref p) s'):ϑ (ax X.prog X.w) X.A (call (.type "list") [.ref l]) Q X.xe s:=by
 obtain⟨z,hd,vs,rel,dd⟩:=VB I.hok e;obtain⟨ep,da⟩:=dd.dictAt;have hlen:kvs.length=vs.length:=kF rel;refine Mm.J3 (I.ok.hd hc) hd da rfl (by rw[<-hlen];rw[eD] at z;lia) λh' tk acc' c' kp e1 it=>?_
 obtain⟨i1,i2⟩:=it;have hfr:H s.heap.objs.size=ak:=I.hok.fresh (ba _);refine q _ _ hfr (I.laid kp (ba _) ?_) λl0 o0 h0=>dI h0 hfr
 refine⟨by rw[aI];exact z,acc'.toList,c',?_,by simpa using e1⟩;have gen:∀(kvs:aa (Key×V))(vs:aa (Key×aj))(xs:aa aj),KV kvs vs->xs.length=vs.length->(∀(j:ah)(v:aj),xs[j]?=ae v->∃k x,vs[j]?=ae (k,x)/\(cL X.prog X.w).is k v=af)->Vals (kvs.map λp=>kV p.1) xs:=by
  intro kvs vs xs rel;induction rel generalizing xs with
  |nil=>intro hl _;cases xs with|nil=>exact .nil|cons _ _=>simp at hl
  |@cons p q ps qs hpq t ih=>
   intro hl g;cases xs with
   |nil=>simp at hl
   |cons x xs=>
    refine .cons ?_ (ih xs (by simpa using hl) λj v hv=>g (j+1) v (by simpa using hv));obtain⟨k,x',h1,h2⟩:=g 0 x rfl;have h1':q=(k,x'):=by simpa using h1
    show RelV (kV p.1) x;rw[hpq.1,h1'];rcases cJ h2 with ⟨i,t,rfl,rfl⟩|⟨i,t,rfl,rfl⟩
    ·exact⟨t,rfl⟩
    ·exact⟨t,rfl⟩
 exact gen kvs vs acc'.toList rel (by simpa using i1) λj v hv=>i2 j v (by simpa using hv)
theorem Z0(hc:X.calm=af):lF X (.type "list") (rs Y5 af):=by
 rintro Ψ s σ H xs us Q I vr ⟨ds,d,r,e,k⟩;unfold Y5 at e;split at e
 ·split at e
  ·rename_i hl;cases e;obtain⟨vv,uu,rfl,rfl,r,v⟩:=mJ r vr;obtain⟨l,ys,rfl,hl',rr⟩:=r.fO;cases v;refine uH Ψ s σ H [.ref l] [.ref l] Q I (.cons rfl .nil) ⟨l,ys,rfl,.inr (.of hl'),λp hp=>?_⟩;have sp:b_ H (upd H p (.lst ys)):=b_.upd hp;exact k _ _ sp (.lst aH trivial (rr.same sp)) λ_=>.lst aH hp ((rr.bU hl).same sp)
  ·exact bx e
 ·split at e
  ·rename_i hl;cases e;obtain⟨vv,uu,rfl,rfl,r,v⟩:=mJ r vr;obtain⟨l,ys,rfl,hl',rr⟩:=r.iU;cases v;refine uH Ψ s σ H [.ref l] [.ref l] Q I (.cons rfl .nil) ⟨l,ys,rfl,.inl hl',λp hp=>?_⟩;have sp:b_ H (upd H p (.lst ys)):=b_.upd hp;exact k _ _ sp (.lst aH trivial (rr.same sp)) λ_=>.lst aH hp ((rr.bU hl).same sp)
  ·exact bx e
 ·split at e
  ·rename_i hl;cases e;obtain⟨vv,uu,rfl,rfl,r,v⟩:=mJ r vr;cases r with
   |@dK l kvs ds e _ r n=>
    cases v;refine list_dict hc I e λp s' hp I' _=>⟨.ref p,_,I',rfl,?_⟩
    have sp:b_ H (upd H p (.lst (kvs.map λp=>kV p.1))):=b_.upd hp;exact k _ _ sp (.lst aH trivial (r.keys.same sp)) λ_=>.lst aH hp (r.keys.same sp)
   |@dT l kvs ds e _ r n=>
    cases v;cases r with
    |cons r t=>simp[isTup] at hl
    |nil=>
     have e2:=CQ (o':=.dK []) e;refine list_dict hc (oE I e) aH λp s' hp I' hne=>?_
     have hp':p≠l:=λz=>by subst z;rw[aH] at hp;cases hp
     have hpn:H p=ak:=by rw[aX hp'] at hp;exact hp
     have hcm:upd (upd (upd H l (.dK [])) p (.lst [])) l (.dT [])=upd H p (.lst []):=by
      funext b
      by_cases hb:b=l
      ·subst hb;rw[aH,aX (Ne.symm hp'),e]
      ·rw[aX hb];by_cases hb2:b=p
       ·subst hb2;rw[aH,aH]
       ·rw[aX hb2,aX hb2,aX hb]
     have I2:=oA I' (by rw[aX (Ne.symm hp'),aH]);have I3:Inv X Ψ σ (upd H p (.lst [])) s':=by
      have:Inv X Ψ σ (upd (upd (upd H l (.dK [])) p (.lst [])) l (.dT [])) s':=I2;rwa [hcm] at this
     have sp:b_ H (upd H p (.lst [])):=b_.upd hpn;exact⟨.ref p,_,I3,rfl,k _ _ sp (.lst aH trivial .nil) λ_=>.lst aH hpn .nil⟩
  ·exact bx e
 ·exact bx e
theorem oF:lF X (.type "tuple") (rs uI ai):=by
 rintro Ψ s σ H xs us Q I vr ⟨ds,d,r,e,k⟩;unfold uI at e;split at e
 ·cases e;obtain⟨vv,uu,rfl,rfl,r,v⟩:=mJ r vr;obtain⟨l,ys,rfl,hl',rr⟩:=r.fO;cases v;exact rK Ψ s σ H [.ref l] [.ref l] Q I (.cons rfl .nil) ⟨l,ys,rfl,.inr ⟨.of hl',k.self (.tup hl' rr) λz=>by cases z⟩⟩
 ·cases e;obtain⟨vv,uu,rfl,rfl,r,v⟩:=mJ r vr;obtain⟨l,ys,rfl,hl',rr⟩:=r.iU;cases v;refine rK Ψ s σ H [.ref l] [.ref l] Q I (.cons rfl .nil) ⟨l,ys,rfl,.inl ⟨hl',λp hp=>?_⟩⟩;have sp:b_ H (upd H p (.tup ys)):=b_.upd hp;exact k _ _ sp (.tup aH (rr.same sp)) λz=>by cases z
 ·exact bx e
mutual
theorem zF:∀(d:D),d.plain=af->d.pure=af
 |.tup xs,h=>by rw[ο] at h;rw[D.pure];exact m9 xs h
 |.int _,_=>rfl
 |.str _,_=>rfl
 |.uD,h=>by simp[ο] at h
 |.non,_=>rfl
 |.bl _,_=>rfl
 |.lst _,h=>by simp[ο] at h
 |.dct _,h=>by simp[ο] at h
 |.scr xs,h=>by rw[ο] at h;rw[D.pure];exact m9 xs h
 |.fdc _,h=>by simp[ο] at h
 |.exc _ _,h=>by simp[ο] at h
 |.ins _ _,h=>by simp[ο] at h
 |.adr _,h=>by simp[ο] at h
 |.dcl _ _,h=>by simp[ο] at h
 |.cel _ _,h=>by simp[ο] at h
theorem m9:∀(ds:aa D),D.eQ ds=af->θ ds=af
 |[],_=>rfl
 |x::xs,h=>by rw[D.eQ,bg] at h;rw[θ,bg];exact⟨zF x h.1,m9 xs h.2⟩
end
theorem wV(h:bD ds=af):θ (gM ds)=af:=kO.mpr λd hd=>zF d (eF h ((cX ds).mem_iff.mp hd)).1
theorem fZ(hK:KFrag.K=X.K)(hu:X.A.units+20<bE):lF X (.builtin "sorted") (rs fC af):=by
 rintro Ψ s σ H xs us Q I vr ⟨ds,d,r,e,k⟩;unfold fC at e;split at e
 ·split at e
  ·rename_i hl;cases e;obtain⟨vv,uu,rfl,rfl,r,v⟩:=mJ r vr;obtain⟨l,ys,rfl,hl',rr⟩:=r.iU;cases v;refine V0 hK I hu hl' rr hl λp xs' hp r'=>?_
   have sp:b_ H (upd H p (.lst xs')):=b_.upd hp;exact k _ _ sp (.lst aH trivial (r'.same sp)) λ_=>.lst aH hp ((r'.bU (wV hl)).same sp)
  ·exact bx e
 ·exact bx e
theorem isi(I:Inv X Ψ σ H s)(r:Rep All H v d)(ru:RelV v u)(h:aMl t d=.ok k)
 (q:∀tk,Q (.bool k) {s with toks:=tk}):ϑ (ax X.prog X.w) X.A (call (.builtin "isinstance") [u,.type t.nm]) Q X.xe s:=by
 have q0:Q (.bool k) s:=q s.toks;cases r with
 |non=>cases ru;cases t<;>cases h<;>first|exact IsiPair.NoneType_int (q _)|exact IsiPair.NoneType_str (q _)|exact IsiPair.NoneType_bool (q _)|exact IsiPair.NoneType_list (q _)|exact IsiPair.NoneType_tuple (q _)|exact IsiPair.NoneType_dict (q _)
 |bl b=>cases ru;cases t<;>cases h<;>first|exact IsiPair.bool_int q0|exact IsiPair.bool_str (q _)|exact IsiPair.bool_bool q0|exact IsiPair.bool_list (q _)|exact IsiPair.bool_tuple (q _)|exact IsiPair.bool_dict (q _)
 |int b=>obtain⟨tt,rfl⟩:=ru;cases t<;>cases h<;>first|exact IsiPair.int_int q0|exact IsiPair.int_str (q _)|exact IsiPair.int_bool (q _)|exact IsiPair.int_list (q _)|exact IsiPair.int_tuple (q _)|exact IsiPair.int_dict (q _)
 |str b=>obtain⟨tt,rfl⟩:=ru;cases t<;>cases h<;>first|exact IsiPair.str_int (q _)|exact IsiPair.str_str q0|exact IsiPair.str_bool (q _)|exact IsiPair.str_list (q _)|exact IsiPair.str_tuple (q _)|exact IsiPair.str_dict (q _)
 |tup e rr=>
  cases ru;obtain⟨its,vr,o,ho,hc,_⟩:=fY I e;cases t<;>cases h<;>first|exact IsiPair.tuple_int ho hc (q _)|exact IsiPair.tuple_str ho hc (q _)|exact IsiPair.tuple_bool ho hc (q _)|exact IsiPair.tuple_list ho hc (q _)|exact IsiPair.tuple_tuple ho hc q0|exact IsiPair.tuple_dict ho hc (q _)
 |lst e p rr=>
  cases ru;obtain⟨its,vr,o,ho,hc,_⟩:=dB I (.of e);cases t<;>cases h<;>first|exact IsiPair.list_int ho hc (q _)|exact IsiPair.list_str ho hc (q _)|exact IsiPair.list_bool ho hc (q _)|exact IsiPair.list_list ho hc q0|exact IsiPair.list_tuple ho hc (q _)|exact IsiPair.list_dict ho hc (q _)
 |frz e rr=>cases t<;>exact bx h
 |fdK e rr n=>cases t<;>exact bx h
 |fdT e rr n=>cases t<;>exact bx h
 |exc n e q=>cases t<;>exact bx h
 |ins n e q=>cases t<;>exact bx h
 |adr=>cases t<;>exact bx h
 |dlK _ _ _ _=>cases t<;>exact bx h
 |dlT _ _ _ _=>cases t<;>exact bx h
 |cel e p rr=>cases t<;>exact bx h
 |dK e p rr n=>
  cases ru;obtain⟨_,_,_,_,o,_,_,ho,hx,_⟩:=VB I.hok e;have hc:=hx.1;cases t<;>cases h<;>first|exact Ak ho hc (q _)|exact Al ho hc (q _)|exact Am ho hc (q _)|exact An ho hc (q _)|exact Ao ho hc (q _)|exact Ap ho hc q0
 |dT e p rr n=>
  cases ru;obtain⟨_,_,_,_,o,_,_,ho,hx,_⟩:=aCm I.hok e;have hc:=hx.1;cases t<;>cases h<;>first|exact Ak ho hc (q _)|exact Al ho hc (q _)|exact Am ho hc (q _)|exact An ho hc (q _)|exact Ao ho hc (q _)|exact Ap ho hc q0
def aOx(t:Ty):aa V->Hp->VK->Prop:=λxs H Q=>∃v d k,xs=[v,.ty t.nm]/\Rep All H v d/\aMl t d=.ok k/\Q (.bl k) H
theorem aK7(t:Ty):lF X (.builtin "isinstance") (aOx t):=by
 rintro Ψ s σ H xs us Q I vr ⟨v,d,k,e,r,h,q⟩;subst e;cases vr with
 |cons rv vt=>
  cases vt with
  |cons rt vt=>
   cases vt;cases rt;exact isi I r rv h λtk=>⟨.bl k,H,I.tok tk,rfl,q⟩
theorem o9(t:Ty)(ha:PE X a (gE fa ra))(hg:Gl X "isinstance")(hm:X.mg "isinstance"=ak)(hv:en "isinstance"=ae (.builtin "isinstance"))(gy:Gl X y)(my:X.mg y=ak)(vy:en y=ae (.type t.nm))
 (hy:y ≠ "__name__":=by decide)(hyd:(y==("__debug__" : Str))=ai:=by decide)
 (he:bp [a,.Name y p2] X.env=(ai,bP a X.env)::bp [.Name y p2] X.env:=by rfl)(he2:bp [.Name y p2] X.env=(ai,bP (.Name y p2) X.env)::bp [] X.env:=by rfl)
 (hpl:(eJ pos (bp [.Name y p2] X.env)).any (·.1)=ai:=by rfl):PE X (.Call (.Name "isinstance" p) [a,.Name y p2] [] pos) (gE (b1 (oW t) fa) af):=
 PE.imp (RQ (aK7 t) hg hm hv (i_ ha (i_ (aFg gy my vy (v:=.ty t.nm) rfl hy hyd) oZ he2) he) (by decide) (by decide) he hpl) λσ H Q z0=>by
  obtain⟨ρ,d,E,h,q⟩:=z0;obtain⟨x,h1,h⟩:=a_ h;obtain⟨k,h2,h⟩:=a_ h;cases h;exact⟨ρ,x,E,h1,λv H1 s1 r1 _=>⟨v,x,k,rfl,r1,h2,(q.imp s1 id).bl⟩⟩
noncomputable def spD(f:aa D->Res D)(n:ah):Sp:=λvs H Q _=>∃ds d,ds.length=n/\bL All H vs ds/\f ds=.ok d/\kR H d af Q
theorem Z1{E:XK}(h:spD f n vs H Q E):vs.length=n:=by
 obtain⟨ds,d,h1,r,_⟩:=h;rw[r.length,h1]
theorem aGi(F:U7 X.prog X.w X.K X.mg X.base CX0 k fad fd ps (spD f n))(hr:vA k X.A)(hg:Gl X x)(hm:X.mg x=ae (.ref fad))(hk:l6 X.K (.ref fad)=af)(hb:Binds X.K fd ps [])
 (ha:PA X (e::es) (gA fs rr))(hdb:nDb x:=by decide)(he:bp (e::es) X.env=(ai,bP e X.env)::bp es X.env:=by rfl)(hpl:(eJ pos (bp es X.env)).any (·.1)=ai:=by rfl) :
  PE X (.Call (.Name x p) (e::es) [] pos) (gE (aN (cF n f) fs) af):=
 PE.imp (aFo F hr hg hm hk hb .nil aMk ha hdb he hpl) λσ H Q z0=>by
  obtain⟨ρ,d,E,h,q⟩:=z0;obtain⟨ds,h1,h⟩:=a_ h;unfold cF at h;split at h
  ·rename_i hl;exact⟨ρ,ds,E,h1,λvs H1 s1 r1 _=>⟨ds,d,e9 hl,by rw[f_];exact r1,h,q.imp s1 id⟩⟩
  ·exact bx h
end
end
noncomputable def CW(m:ah)(xs:aa D):aa D:=xs.zipIdx.map λp=>.tup [.int ((m+p.2:ah):ag),p.1]
section
variable [KFrag]
def aNx(K:bX)(m:ah)(a:al):It:=
 ⟨λi H=>∃xs x,SqL K H a xs/\xs[i]?=ae x,λi H v H'=>∃t x,(∀xs,SqL K H a xs->xs[i]?=ae x)/\v=.ref t/\H t=ak/\H'=upd H t (.tup [.int ((m+i:ah):ag),x]),λi H=>∃xs,SqL K H a xs/\xs.length<=i⟩
theorem aD3{i:ah}:(CW m xs)[i]?=(xs[i]?).map λd=>.tup [.int ((m+i:ah):ag),d]:=by
 unfold CW;rw[kf,List.getElem?_zipIdx,Ac];cases xs[i]?<;>rfl
structure ItQ(K:bX)(P:al->Prop)(J:It)(H:Hp)(items:aa D):Prop where
 it:∀(P':al->Prop)(H':Hp),B_ P H H'->(∀a o,H a=ae o->P a->P' a)->(∀i,items.length<=i->J.stop i H')/\∀i d,items[i]?=ae d->J.go i H'/\∀x H'',J.yld i H' x H''->b_ H' H''/\Rep P' H'' x d
section
variable {K:bX} {P P':al->Prop} {J:It} {H H':Hp} {items:aa D}
theorem ItQ.keep'(h:ItQ K P J H items)(k:B_ P H H')(m:∀a o,H a=ae o->P a->P' a):ItQ K P' J H' items:=
 ⟨λP2 H2 k2 m2=>h.it P2 H2 (λa o e hp=>k2 a o (k a o e hp) (hp.imp (m a o e) id)) λa o e hp=>m2 a o (k a o e (.inl hp)) (m a o e hp)⟩
theorem ItQ.keep(h:ItQ K P J H items)(k:B_ P H H')(m:∀a,P a->P' a):ItQ K P' J H' items:=h.keep' k λa _ _=>m a
theorem ItQ.stop(h:ItQ K P J H items)(hi:items.length<=i):J.stop i H:=(h.it P H (λ_ _ e _=>e) λ_ _ _ hp=>hp).1 i hi
theorem ItQ.go(h:ItQ K P J H items)(hi:items[i]?=ae d):J.go i H/\∀x H',J.yld i H x H'->b_ H H'/\Rep P H' x d:=(h.it P H (λ_ _ e _=>e) λ_ _ _ hp=>hp).2 i d hi
theorem ItQ.lst(a:al)(e:J=Itl K a)(r:Rep P H (.ref a) (.lst items)):ItQ K P J H items:=by
 refine⟨λP H kk mm=>?_⟩;have r:=r.VM kk mm;refine⟨λi hi=>?_,λi d hi=>?_⟩
 ·subst e;obtain⟨a',xs,e,hq,rr⟩:=r.iU;cases e;exact⟨xs,hq,by rw[rr.length];exact hi⟩
 ·subst e;obtain⟨a',xs,e,hq,rr⟩:=r.iU;cases e;obtain⟨v,h1,h2⟩:=rr.get hi;refine⟨⟨xs,v,hq,h1⟩,λx H' ⟨e,hy⟩=>?_⟩;subst e;refine⟨b_.refl _,?_⟩;have:=hy xs hq;rw[h1] at this;cases this;exact h2
theorem ItQ.tup(a:al)(e:J=Itt K a)(r:Rep P H (.ref a) (.tup items)):ItQ K P J H items:=by
 refine⟨λP H kk mm=>?_⟩;have r:=r.VM kk mm;refine⟨λi hi=>?_,λi d hi=>?_⟩
 ·subst e;obtain⟨a',xs,e,hq,rr⟩:=r.fO;cases e;exact⟨xs,.of hq,by rw[rr.length];exact hi⟩
 ·subst e;obtain⟨a',xs,e,hq,rr⟩:=r.fO;cases e;obtain⟨v,h1,h2⟩:=rr.get hi;refine⟨⟨xs,v,.of hq,h1⟩,λx H' ⟨e,hy⟩=>?_⟩;subst e;refine⟨b_.refl _,?_⟩;have:=hy xs (.of hq);rw[h1] at this;cases this;exact h2
theorem ItQ.rng(lo:ag)(n:ah)(e:J=Itr lo n)(r:items=(cq n).map λ(k:ah)=>δ (lo+k)):ItQ K P J H items:=by
 refine⟨λP H k m=>?_⟩;refine⟨λi hi=>?_,λi d hi=>?_⟩
 ·subst e r;show n<=i;simpa using hi
 ·subst e r;have hlt:i<n:=by
   have:=(dy.mp hi).1;simpa using this
  refine⟨hlt,λx H' ⟨e,hy⟩=>?_⟩;subst e;have e2:δ (lo+(i:ag))=d:=by simpa[hlt] using hi
  rw[hy,<-e2];exact⟨b_.refl _,.int _⟩
theorem ItQ.enf(m:ah)(a:al)(ds:aa D)(e:J=aNx K m a)(r:Rep P H (.ref a) (.lst ds))(h:items=CW m ds):ItQ K P J H items:=by
 refine⟨λP H kk mm=>?_⟩;have r:=r.VM kk mm;refine⟨λi hi=>?_,λi d hi=>?_⟩
 ·subst e h;obtain⟨a',xs,e,hq,rr⟩:=r.iU;cases e;exact⟨xs,hq,by rw[rr.length];simpa[CW] using hi⟩
 ·subst e h;obtain⟨a',xs,e,hq,rr⟩:=r.iU;cases e;rw[aD3] at hi;obtain⟨y,hd,rfl⟩:=lf.mp hi;obtain⟨v,h1,h2⟩:=rr.get hd;refine⟨⟨xs,v,hq,h1⟩,λx H' ⟨t,u,hy,e1,e2,e3⟩=>?_⟩;subst e1 e3;have:=hy xs hq;rw[h1] at this;cases this;have sp:b_ H (upd H t (.tup [.int ((m+i:ah):ag),v])):=b_.upd e2;exact⟨sp,.tup aH (.cons (.int _) (.cons (h2.same sp) .nil))⟩
theorem ItQ.scr(a:al)(hK:KFrag.K=K)(e:J=Itl K a)(r:Rep P H (.ref a) (.scr items)):ItQ K P J H items:=by
 refine⟨λP H kk mm=>?_⟩;have r:=r.VM kk mm;refine⟨λi hi=>?_,λi d hi=>?_⟩
 ·subst e;cases r with
  |frz ee rr=>exact⟨_,ee.sq hK,by rw[rr.length];exact hi⟩
 ·subst e;cases r with
  |@frz _ xs _ ee rr=>
   obtain⟨v,h1,h2⟩:=rr.get hi;refine⟨⟨xs,v,ee.sq hK,h1⟩,λx H' ⟨e,hy⟩=>?_⟩;subst e;refine⟨b_.refl _,?_⟩;have:=hy xs (ee.sq hK);rw[h1] at this;cases this;exact h2
end
noncomputable def gI(K:bX)(f:FI):TI:=λσ H R=>∃ρ items k,ER H σ ρ/\f ρ=.ok (items,k)/\∀J H1,b_ H H1->ItQ K All J H1 items->(k=af->ItQ K (New H) J H1 items)->R J H1
def gIV(K:bX)(i:ah):TI:=λσ H R=>∃v d items,σ[i]?=ae (ae v)/\Rep All H v d/\o7 d=.ok items/\∀J,(∀P:al->Prop,Rep P H v d->ItQ K P J H items)->R J H
section
variable {X:Cx} {tg l a b:Expr} {fl:FE} {rl rr:ap} {fs:FA} {p pos:bz}
theorem CZ(I1:Inv X Ψ σ H1 s1)(r:Rep All H1 v d)(ru:RelV v u)(hi:o7 d=.ok items)
 (q:∀J,(∀P:al->Prop,Rep P H1 v d->ItQ X.K P J H1 items)->R J H1):ϑ (ax X.prog X.w) X.A (fS u) (PIE X Ψ σ tg R) X.xe s1:=by
 cases d<;>simp only[o7] at hi<;>cases hi
 ·obtain⟨a,xs,rfl,e,rr⟩:=r.fO;cases ru;obtain⟨its,rv,p,hz⟩:=I1.tuple (.of e);refine rg (show s1.heap.IsTuple a its.toArray from p) ?_;refine⟨s1.heap.objs.size,[s1.heap.objs.size],_,_,H1,rfl,I1.kept λb o e=>cr _ e,U3 a _,⟨_,di _ rfl,rfl,rfl⟩,λb hb=>?_,q _ λP r=>.tup a rfl r⟩;have e:b=s1.heap.objs.size:=by simpa using hb
  subst e;exact I1.aFi (ba _) (I1.hok.fresh (ba _))
 ·obtain⟨a,xs,rfl,e,rr⟩:=r.iU;cases ru;obtain⟨its,rv,p,hz⟩:=I1.list e;refine kA p.isList ?_;refine⟨s1.heap.objs.size,[s1.heap.objs.size],_,_,H1,rfl,I1.kept λb o e=>cr _ e,vY a _,⟨_,di _ rfl,rfl,rfl⟩,λb hb=>?_,q _ λP r=>.lst a rfl r⟩;have e:b=s1.heap.objs.size:=by simpa using hb
  subst e;exact I1.aFi (ba _) (I1.hok.fresh (ba _))
theorem jC(hl:PE X l (gE fl rl)):PI X tg l (gI X.K (cM fl rl)):=by
 rintro Ψ s σ H R I ⟨ρ,items,k,E,h,q⟩;obtain⟨d,h1,h⟩:=a_ h;obtain⟨its,h2,h⟩:=a_ h;cases h;refine thn (hl Ψ s σ H _ I ⟨ρ,d,E,h1,λv H1 s1 r1 n1=>(show(∃d',Rep All H1 v d/\d'=d/\∀J,(∀P:al->Prop,Rep P H1 v d->ItQ X.K P J H1 items)->R J H1) from ⟨d,r1,rfl,λJ hJ=>q J H1 s1 (hJ _ r1) λhk=>hJ _ ?_⟩)⟩) λu s1 ⟨v,H1,I1,ru,d',r1,e,q1⟩=>CZ I1 r1 ru h2 q1
 rw[iX] at hk;rcases hk with hk|hk
 ·exact n1 hk
 ·exact r1.bU hk
theorem aK8(hN:X.N[i]?=ae x)(hv:Vis X.env.scope x)(hd:nDb x:=by decide)(hcd:nCd x:=by decide):PI X tg (.Name x pos) (gIV X.K i):=by
 rintro Ψ s σ H R I ⟨v,d,items,hσ,r,hi,q⟩;exact thn (iZ hN hv hd hcd Ψ s σ H (λw H1=>w=v/\H1=H) I ⟨v,hσ,rfl,rfl⟩) λu s1 z0=>by
  obtain⟨w,H1,I1,ru,e1,e2⟩:=z0;subst e1 e2;exact CZ I1 r ru hi q
theorem V3(h:wG i=af):-(2 ^ 62)<=i/\i<2 ^ 62:=by
 simp only[wG,bg,d4] at h;exact h
theorem PI.imp(h:PI X tg l w)(i:∀σ H R,w' σ H R->w σ H R):PI X tg l w':=λΨ s σ H R I q=>h Ψ s σ H R I (i σ H R q)
theorem m_(hg:Gl X "range")(hm:X.mg "range"=ak)(ha:PA X [a] (gA fs rr))(hs:bp [a] X.env=[(ai,bP a X.env)]:=by rfl):PI X tg (.Call (.Name "range" p) [a] [] pos) (gI X.K (oX fs mX)):=
 PI.imp (XN hg hm ha hs) λσ H R z0=>by
  obtain⟨ρ,items,k,E,h,q⟩:=z0;obtain⟨xs,h1,h⟩:=a_ h;unfold mX at h;split at h
  ·split at h
   ·rename_i hb;cases h;obtain⟨b1,b2⟩:=V3 hb;refine⟨ρ,_,E,h1,λvs H1 s1 r1 _=>?_⟩;cases r1 with
    |cons r t=>
     cases t;cases r.inv;exact⟨_,rfl,b1,b2,q _ H1 s1 (.rng 0 _ rfl rfl) λ_=>.rng 0 _ rfl rfl⟩
   ·exact bx h
  ·exact bx h
end
theorem aD4(n:ah)(ρ bs:aa D)(i:ah)(h:i<n):(R3 n ρ++bs).getD i .uD=ρ.getD i .uD:=by
 rw[eu,jd (by simp[R3];exact h)];simp[R3,h]
theorem S9(n:ah)(ρ:aa D):(R3 n ρ).length=n:=by simp[R3]
def TgC(g:TG)(t:D->Res (aa D))(n m:ah):Prop:=∀(v:V)(d:D)(bs:aa D)(σ:L2.St)(H:Hp)(Q:L2.St->Hp->Prop),σ.length=n->Rep All H v d->t d=.ok bs->
 (∀σ2,Ext (σ++cz m ak) σ2->(∀j b,bs[j]?=ae b->∃w,σ2[n+j]?=ae (ae w)/\Rep All H w b)->Q σ2 H)->g v (σ++cz m ak) H Q
theorem ER.ext(E:ER H σ ρ)(hn:σ.length=n)(x:Ext (σ++cz m ak) σ2)(hb:∀j b,bs[j]?=ae b->∃w,σ2[n+j]?=ae (ae w)/\Rep All H w b):ER H σ2 (R3 n ρ++bs):=by
 intro i hi;by_cases h:i<n
 ·rw[aD4 n ρ bs i h] at hi ⊢;obtain⟨v,h1,h2⟩:=E i hi;exact⟨v,x.2 i v (by rw[jd (by rw[hn];exact h)];exact h1),h2⟩
 ·have e:(R3 n ρ++bs).getD i .uD=bs.getD (i-n) .uD:=by
   rw[eu,io (by rw[S9];lia),S9,<-eu]
  rw[e] at hi ⊢;cases hq:bs[i-n]? with
  |none=>rw[eu,hq] at hi;exact bd rfl hi
  |some b=>
   obtain⟨w,h1,h2⟩:=hb (i-n) b hq;rw[eu,hq];exact⟨w,by rw[<-h1];congr 1;lia,h2⟩
theorem rY{K:bX}{n m:ah}{g:TG}{tc:TT}(tg:TgC g t n m)(hc:∀σ H Q,gT c σ H Q->tc σ H Q){σ:L2.St}{H:Hp}{Q:VK}(hn:σ.length=n)(h:gE (d7 n it t c f k) af σ H Q) :
  PQ (gI K it) g tc (gE f k) m σ H Q:=by
 obtain⟨ρ,d,E,h,q⟩:=h;obtain⟨⟨items,kk⟩,h1,h⟩:=a_ h;split at h
 ·rename_i hlim;obtain⟨ys,h2,h⟩:=a_ h;cases h;refine⟨ρ,items,kk,E,h1,λJ H1 s1 hJ _ p hp=>?_⟩;have hp0:H p=ak:=s1.free hp;refine⟨λi n' vs H'=>n'=items.length-i/\i<=items.length/\H' p=ae (.lst vs)/\b_ H1 H'/\∃acc,acc.length<=i/\bL (λa=>H a=ak/\a≠p) H' vs acc/\qR (rT n t c f k ρ) acc (items.drop i)=.ok ys,⟨items.length,?_⟩,?_⟩
  ·exact⟨rfl,eR _,aH,b_.upd hp,[],eR _,.nil,h2⟩
  ·rintro i n' vs H' ⟨rfl,hi,hH,sm,acc,hal,racc,hf⟩;refine⟨hH,?_⟩;have hJ':ItQ K All J H' items:=hJ.keep (.same sm) λ_ z=>z
   rcases ow i items.length with hlt|hge
   ·refine .inr ?_;have e:items[i]?=ae items[i]:=dz hlt;obtain⟨g1,g2⟩:=hJ'.go e;have hl1:items.length<=lim:=e9 hlim;refine⟨g1,?_,λx H2 hy=>?_⟩
    ·rw[racc.length];exact Aq hal (em hlt (dn hl1 (by rw[eD];decide)))
    ·obtain⟨sH,rx⟩:=g2 x H2 hy;have hH:=sH p _ hH;have sm:=sm.trans sH;have racc:=racc.same sH;rw[gz hlt] at hf;obtain⟨acc2,hs,hf⟩:=a_ hf;obtain⟨bs,hb,hs⟩:=a_ hs;obtain⟨ok,hok,hs⟩:=a_ hs;refine tg x items[i] bs σ H2 _ hn rx hb λσ2 hx hbs=>⟨hx,hc _ _ _ ?_⟩
     have E2:ER H2 σ2 (R3 n ρ++bs):=(E.same (s1.trans sm)).ext hn hx hbs;refine⟨_,ok,E2,hok,λH4 s4=>?_⟩;cases ok with
     |true=>
      rw[aq rfl];rw[aq rfl] at hs;obtain⟨y,hy2,hs⟩:=a_ hs;split at hs
      ·rename_i hk;cases hs;refine⟨_,y,E2.same s4,hy2,λw H5 s5 r5 n5=>⟨s5 p _ (s4 p _ hH),items.length-(i+1),by lia,rfl,hlt,aH,?_,acc++[y],?_,?_,hf⟩⟩
       ·exact λb o e=>by
         rw[aX (dI e hp)];exact s5 b o (s4 b o (sm b o e))
       ·rw[cw,jh];lia
       ·have hp5:H5 p=ae (.lst vs):=s5 p _ (s4 p _ hH);have ry:Rep (λa=>H a=ak/\a≠p) H5 w y:=by
         rw[iX] at hk;rcases hk with hk|hk
         ·exact(n5 hk).mono λa ha=>⟨((s1.trans sm).trans s4).free ha,λz=>by subst z;have h0:=s4 _ _ hH;rw[show H4 _=ak from ha] at h0;cases h0⟩
         ·exact r5.bU hk
        have all:bL (λa=>H a=ak/\a≠p) H5 (vs++[w]) (acc++[y]):=(racc.same (s4.trans s5)).snoc ry;refine all.keep (λb o e hb=>?_) λ_ z=>z
        rw[aX]
        ·exact e
        ·rcases hb with hb|hb
         ·exact hb.2
         ·intro z;subst z;rw[hp5] at e;cases e;cases hb
      ·exact bx hs
     |false=>
      rw[av (by simp)];rw[av (by simp)] at hs;cases hs;exact⟨items.length-(i+1),by lia,rfl,hlt,s4 p _ hH,sm.trans s4,acc,by lia,racc.same s4,hf⟩
   ·refine .inl ⟨hJ'.stop hge,?_⟩;rw[rh hge] at hf;cases hf;exact q _ _ (s1.trans sm) (.lst hH trivial racc.all) λ_=>.lst hH hp0 (racc.mono λa z=>z.1)
 ·exact bx h
def gIx:aa ah->TGs
 |[]=>aNs
 |i::is=>aJ4 (xZ i) (gIx is)
noncomputable def kW:aa ah->aa V->L2.St->L2.St
 |i::is,v::vs,σ=>kW is vs (σ.set i (ae v))
 |_,_,σ=>σ
theorem C_:∀(is:aa ah)(vs:aa V)(σ:L2.St),vs.length=is.length->Q (kW is vs σ) H->gIx is vs σ H Q
 |[],[],σ,_,q=>⟨rfl,q⟩
 |i::is,v::vs,σ,h,q=>⟨v,vs,rfl,C_ is vs (σ.set i (ae v)) (by simpa using h) q⟩
 |[],_::_,_,h,_=>by simp at h
 |_::_,[],_,h,_=>by simp at h
theorem J4:∀(is:aa ah)(vs:aa V)(σ:L2.St),(kW is vs σ).length=σ.length
 |[],_,_=>by simp[kW]
 |_::_,[],_=>by simp[kW]
 |i::is,v::vs,σ=>by rw[kW,J4 is vs];simp
theorem wW:∀(is:aa ah)(vs:aa V)(σ:L2.St)(k:ah),k∉is->(kW is vs σ)[k]?=σ[k]?
 |[],_,_,_,_=>by simp[kW]
 |_::_,[],_,_,_=>by simp[kW]
 |i::is,v::vs,σ,k,h=>by
  rw[bm,hX] at h;rw[kW,wW is vs _ k h.2,ef (Ne.symm h.1)]
theorem S_:∀(is:aa ah)(vs:aa V)(σ:L2.St)(j i:ah)(v:V),is.Nodup->(∀i∈is,i<σ.length)->is[j]?=ae i->vs[j]?=ae v->(kW is vs σ)[i]?=ae (ae v)
 |[],_,_,_,_,_,_,_,h,_=>by simp at h
 |_::_,[],_,_,_,_,_,_,_,h=>by simp at h
 |a::is,w::vs,σ,0,i,v,hn,hl,h1,h2=>by
  have e1:a=i:=by simpa using h1
  have e2:w=v:=by simpa using h2
  subst e1 e2;rw[kW,wW is vs _ a (dq.mp hn).1,fN (hl a (bu ..))]
 |a::is,w::vs,σ,j+1,i,v,hn,hl,h1,h2=>by
  rw[kW];exact S_ is vs _ j i v (dq.mp hn).2 (λi hi=>by rw[List.length_set];exact hl i (bq _ hi)) (by simpa using h1) (by simpa using h2)
theorem tR(n:ah):TgC (xZ n) x_ n 1:=by
 intro v d bs σ H Q hn r h q;cases h;have hl:(σ++cz 1 (ak:az V)).length=n+1:=by simp[hn]
 refine q _ ⟨by simp,λi w hi=>?_⟩ λj b hj=>?_
 ·have:i≠n:=λz=>by
   subst z;rw[io (by lia)] at hi;simp[hn] at hi
  rw[ef (Ne.symm this)];exact hi
 ·have e:j=0:=by
   have:=(dy.mp hj).1;simp at this;exact this
  subst e;have e:d=b:=by simpa using hj
  subst e;exact⟨v,by rw[tI,fN (by lia)],r⟩
theorem tU(K:bX)(n m:ah):TgC (aLv K m (gIx (nj n m))) (HJ m) n m:=by
 intro v d bs σ H Q hn r h q;cases d<;>simp only[HJ] at h<;>(try (exact bx h;done))
 split at h
 ·rename_i hm;cases h;have hm':=e9 hm;obtain⟨a,xs,rfl,e,rr⟩:=r.fO;refine⟨a,xs,rfl,.of e,by rw[rr.length];exact hm',C_ _ _ _ (by rw[rr.length,hm'];simp) ?_⟩;refine q _ ⟨by rw[J4],λi w hi=>?_⟩ λj b hj=>?_
  ·rw[wW]
   ·exact hi
   ·intro hmem;have:=Ar.mp hmem;rw[io (by lia)] at hi;rw[ke] at hi;split at hi<;>cases hi
  ·obtain⟨w,h1,h2⟩:=rr.get hj;have hjm:j<m:=by rw[<-hm'];exact(dy.mp hj).1
   refine⟨w,S_ _ _ _ j (n+j) w (List.nodup_range' ..) (λi hi=>?_) ?_ h1,h2⟩
   ·have:=Ar.mp hi;simp[hn];lia
   ·rw[List.getElem?_range' hjm];simp
 ·exact bx h
section
theorem aGj(S:dJ X.N X.env.scope scope ownN)(hn:X.N.length=n)(hm:ownN.length=m)(hcalm:X.calm=af)(hi:PI X tg iter (gI X.K it))(ht:TgC g t n m)(hg:∀X',c7 X X' scope ownN->PG X' tg g)(he:∀X',c7 X X' scope ownN->PE X' elt (gE fe re))
 (hs:∀x,eC iter X.env x=pure x):PE X (.ListComp elt [⟨tg,iter,[],0⟩] scope pos) (gE (d7 n it t gQ fe re) af):=by
 intro Ψ s σ H Q I h;subst hm;exact aCs S hcalm hi hg he hs Ψ s σ H Q I (rY ht (λσ H Q h=>by obtain⟨ρ,b,E,h,q⟩:=h;cases h;exact q H (b_.refl H)) (I.len.trans hn) h)
theorem Z4(S:dJ X.N X.env.scope scope ownN)(hn:X.N.length=n)(hm:ownN.length=m)(hcalm:X.calm=af)(hi:PI X tg iter (gI X.K it))(ht:TgC g t n m)(hg:∀X',c7 X X' scope ownN->PG X' tg g)(hc:∀X',c7 X X' scope ownN->PT X' c (gT gc))(he:∀X',c7 X X' scope ownN->PE X' elt (gE fe re))
 (hs:∀x,eC iter X.env x=pure x):PE X (.ListComp elt [⟨tg,iter,[c],0⟩] scope pos) (gE (d7 n it t gc fe re) af):=by
 intro Ψ s σ H Q I h;subst hm;exact ZJ S hcalm hi hg hc he hs Ψ s σ H Q I (rY ht (λσ H Q h=>h) (I.len.trans hn) h)
end
end
variable [KFrag]
theorem kE.bU:∀{v:aa (Key×V)}{d:aa (D×D)},kE P H v d->θ (d.map (·.2))=af->kE P' H v d
 |_,_,.nil,_=>.nil
 |_,_,.cons r t,h=>by
  rw[br,θ,bg] at h;exact .cons (r.bU h.1) (t.bU h.2)
theorem tO.bU:∀{v:aa (aa Key×V)}{d:aa (D×D)},tO P H v d->θ (d.map (·.2))=af->tO P' H v d
 |_,_,.nil,_=>.nil
 |_,_,.cons r t,h=>by
  rw[br,θ,bg] at h;exact .cons (r.bU h.1) (t.bU h.2)
theorem Rep.aIo(r:Rep P H (.ref a) d)(h:inner d=af)(hp:P' a):Rep P' H (.ref a) d:=by
 cases r with
 |tup e r=>cases h
 |lst e p r=>exact .lst e hp (r.bU h)
 |cel e p r=>exact .cel e hp (r.bU h)
 |frz e r=>cases h
 |dK e p r n=>exact .dK e hp (r.bU h) n
 |dT e p r n=>exact .dT e hp (r.bU h) n
 |fdK e r n=>cases h
 |fdT e r n=>cases h
 |exc n e q=>cases h
 |ins n e q=>cases h
 |adr=>cases h
 |dlK e p r n=>exact .dlK e hp (r.bU h) n
 |dlT e p r n=>exact .dlT e hp (r.bU h) n
def Own(own:ah->ap)(σ:L2.St)(a:al):Prop:=∃i,own i=af/\σ[i]?=ae (ae (.ref a))
structure ES(own:ah->ap)(H:Hp)(σ:L2.St)(ρ:aa D):Prop where
 len:σ.length=ρ.length
 at_:∀i,ρ.getD i .uD≠.uD->∃v,σ[i]?=ae (ae v)/\(own i=ai->Rep (λa=>¬Own own σ a) H v (ρ.getD i .uD))
 own:∀i v,own i=af->σ[i]?=ae (ae v)->∃a o,v=.ref a/\Rep All H v (ρ.getD i .uD)/\inner (ρ.getD i .uD)=af/\H a=ae o/\uV o=af/\∀j,own j=af->σ[j]?=ae (ae (.ref a))->j=i
variable {own:ah->ap}
theorem ES.er(e:ES own H σ ρ):ER H σ ρ:=λi hi=>by
 obtain⟨v,h1,h2⟩:=e.at_ i hi;cases ho:own i with
 |false=>exact⟨v,h1,(h2 ho).all⟩
 |true=>
  obtain⟨a,o,_,h3,_⟩:=e.own i v ho h1;exact⟨v,h1,h3⟩
theorem ES.live(e:ES own H σ ρ)(h:Own own σ a):∃o,H a=ae o/\uV o=af:=by
 obtain⟨i,hi,hs⟩:=h;obtain⟨b,o,eb,_,_,h3,h4,_⟩:=e.own i _ hi hs;cases eb;exact⟨o,h3,h4⟩
theorem ES.same(e:ES own H σ ρ)(s:b_ H H'):ES own H' σ ρ:=by
 refine⟨e.len,λi hi=>?_,λi v hi hv=>?_⟩
 ·obtain⟨v,h1,h2⟩:=e.at_ i hi;exact⟨v,h1,λho=>(h2 ho).same s⟩
 ·obtain⟨a,o,h1,h2,h3,h4,h5,h6⟩:=e.own i v hi hv;exact⟨a,o,h1,h2.same s,h3,s _ _ h4,h5,h6⟩
def KU(own:ah->ap)(σ:L2.St)(H:Hp)(σ':L2.St)(H':Hp):Prop:=∀a o,H a=ae o->¬Own own σ a->H' a=ae o/\¬Own own σ' a
theorem KU.trans(a:KU own σ H σ1 H1)(b:KU own σ1 H1 σ2 H2):KU own σ H σ2 H2:=λc o e n=>let ⟨e1,n1⟩:=a c o e n;b c o e1 n1
theorem KU.same(s:b_ H H'):KU own σ H σ H':=λa o e n=>⟨s a o e,n⟩
theorem KU.keep(k:KU own σ H σ' H')(e:ES own H σ ρ):B_ (λa=>¬Own own σ a) H H':=λa o h hp=>by
 by_cases ho:Own own σ a
 ·obtain⟨o',h1,h2⟩:=e.live ho;rw[h] at h1;cases h1;rcases hp with hp|hp
  ·exact bd ho hp
  ·rw[h2] at hp;cases hp
 ·exact(k a o h ho).1
theorem KU.rep(k:KU own σ H σ' H')(e:ES own H σ ρ)(r:Rep (λa=>¬Own own σ a) H v d):Rep (λa=>¬Own own σ' a) H' v d:=r.VM (k.keep e) λa o h n=>(k a o h n).2
def kRt(own:ah->ap)(D:Ends)(σ:L2.St)(H:Hp)(d:Mi.D):Prop:=if own rtX=af then ∃d0 ρ',d=.tup (d0::ρ')/\∀v σ' H',KU own σ H σ' H'->ES own H' σ' ρ'->Rep (λa=>(Own own σ a\/H a=ak)/\∀i b xs,ρ'.getD i .uD=.cel b xs->a≠b) H' v d0->D.rt v H'
  else ∀v H',(∀a o,H a=ae o->¬Own own σ a->H' a=ae o)->Rep (λa=>Own own σ a\/H a=ak) H' v d->D.rt v H'
theorem kRt.old{D:Ends}(h:kRt own D σ H d)(hx:own rtX=ai):∀v H',(∀a o,H a=ae o->¬Own own σ a->H' a=ae o)->Rep (λa=>Own own σ a\/H a=ak) H' v d->D.rt v H':=by
 unfold kRt at h;rw[av (by rw[hx];simp)] at h;exact h
theorem kRt.mk{D:Ends}(hx:own rtX=ai)(h:∀v H',(∀a o,H a=ae o->¬Own own σ a->H' a=ae o)->Rep (λa=>Own own σ a\/H a=ak) H' v d->D.rt v H'):kRt own D σ H d:=by
 unfold kRt;rw[av (by rw[hx];simp)];exact h
def kS(own:ah->ap)(D:Ends)(σ:L2.St)(H:Hp):Fl->Prop
 |.nx ρ=>∀σ' H',KU own σ H σ' H'->ES own H' σ' ρ->D.nx σ' H'
 |.bk ρ=>∀σ' H',KU own σ H σ' H'->ES own H' σ' ρ->D.bk σ' H'
 |.ct ρ=>∀σ' H',KU own σ H σ' H'->ES own H' σ' ρ->D.ct σ' H'
 |.rt d=>kRt own D σ H d
theorem kS.step{D:Ends}{σ σ':L2.St}{H H':Hp}{fl:Fl}(k:KU own σ H σ' H')(h:kS own D σ H fl):kS own D σ' H' fl:=by
 cases fl with
 |nx ρ=>exact λσ2 H2 k2 e=>h σ2 H2 (k.trans k2) e
 |bk ρ=>exact λσ2 H2 k2 e=>h σ2 H2 (k.trans k2) e
 |ct ρ=>exact λσ2 H2 k2 e=>h σ2 H2 (k.trans k2) e
 |rt d=>
  have old:∀a,(Own own σ' a\/H' a=ak)->Own own σ a\/H a=ak:=λa ha=>by
   cases q:H a with
   |none=>exact .inr rfl
   |some o=>
    refine .inl (As λn=>?_);obtain⟨e1,n1⟩:=k a o q n;rcases ha with ha|ha
    ·exact n1 ha
    ·rw[e1] at ha;cases ha
  have h:kRt own D σ H d:=h;show kRt own D σ' H' d;unfold kRt at h ⊢;by_cases hx:own rtX=af
  ·rw[aq hx] at h ⊢;obtain⟨d0,ρ',e,g⟩:=h;exact⟨d0,ρ',e,λv σ2 H2 k2 E2 r=>g v σ2 H2 (k.trans k2) E2 (r.mono λa ha=>⟨old a ha.1,ha.2⟩)⟩
  ·rw[av hx] at h ⊢;exact λv H2 hk r=>h v H2 (λa o e n=>let ⟨e1,n1⟩:=k a o e n;hk a o e1 n1) (r.mono λa ha=>old a ha)
noncomputable def tS(own:ah->ap)(f:FS):TS:=λD σ H=>∃ρ fl,ES own H σ ρ/\f ρ=.ok fl/\kS own D σ H fl
theorem PS.imp{st:bo}(h:PS X st t)(i:∀D σ H,t' D σ H->t D σ H):PS X st t':=λΨ s σ H D I q=>h Ψ s σ H D I (i D σ H q)
theorem PSs.imp{st:aa bo}{t t':TS}(h:PSs X st t)(i:∀D σ H,t' D σ H->t D σ H):PSs X st t':=λΨ s σ H D I q=>h Ψ s σ H D I (i D σ H q)
section
variable {X:Cx} {a b c e:Expr} {pos pos':bz} {fe:FE} {re:ap} {gc:FT} {f g:FS} {st:bo} {rest s1 s2:aa bo}
theorem cO:PSs X [] (tS own jA):=PSs.imp XH λD σ H z0=>by
 obtain⟨ρ,fl,E,h,q⟩:=z0;cases h;exact q σ H (λa o e n=>⟨e,n⟩) E
theorem aGk{D:Ends}(h:tS own (bI f g) D σ H):aNr (tS own f) (tS own g) D σ H:=by
 obtain⟨ρ,fl,E,h,q⟩:=h;obtain⟨r,h1,h2⟩:=a_ h;refine⟨ρ,r,E,h1,?_⟩;cases r with
 |nx ρ'=>exact λσ' H' k E'=>⟨ρ',fl,E',h2,q.step k⟩
 |bk ρ'=>cases h2;exact q
 |ct ρ'=>cases h2;exact q
 |rt d=>cases h2;exact q
theorem aF(h1:PS X st (tS own f))(h2:PSs X rest (tS own g)):PSs X (st::rest) (tS own (bI f g)):=PSs.imp (u_ h1 h2) λ_ _ _=>aGk
theorem aO(h1:PS X st (tS own f)):PSs X [st] (tS own f):=XJ h1
theorem iD(hc:PT X c (gT gc))(ha:PSs X s1 (tS own f))(hb:PSs X s2 (tS own g)):PS X (.If c s1 s2 pos) (tS own (sIf gc f g)):=PS.imp (aJ3 hc ha hb) λD σ H z0=>by
 obtain⟨ρ,fl,E,h,q⟩:=z0;obtain⟨k,h1,h2⟩:=a_ h;refine⟨ρ,k,E.er,h1,λH' s=>?_⟩;cases k with
 |true=>rw[aq rfl];rw[aq rfl] at h2;exact⟨ρ,fl,E.same s,h2,q.step (.same s)⟩
 |false=>rw[av (by simp)];rw[av (by simp)] at h2;exact⟨ρ,fl,E.same s,h2,q.step (.same s)⟩
theorem cW(he:PE X e (gE fe re))(hx:own rtX=ai:=by rfl):PS X (.Return (ae e) pos) (tS own (jL fe re)):=PS.imp (XM he) λD σ H z0=>by
 obtain⟨ρ,fl,E,h,q⟩:=z0;obtain⟨d,h1,h2⟩:=a_ h;split at h2
 ·rename_i hk;cases h2;refine⟨ρ,d,E.er,h1,λv H' s r n=>q.old hx v H' (λa o e _=>s a o e) ?_⟩;rw[iX] at hk;rcases hk with hk|hk
  ·exact(n hk).mono λa ha=>.inr ha
  ·exact r.bU hk
 ·exact bx h2
theorem qU(ho:own i=af)(hN:X.N[i]?=ae x)(hv:Vis X.env.scope x)(hd:nDb x:=by decide)(hcd:nCd x:=by decide)(hx:own rtX=ai:=by rfl):PS X (.Return (ae (.Name x pos')) pos) (tS own (yC i)):=
 PS.imp (XM (iZ hN hv hd hcd)) λD σ H z0=>by
 obtain⟨ρ,fl,E,h,q⟩:=z0;obtain⟨d,h1,h2⟩:=a_ h;cases h2;obtain⟨v,hv,r,e⟩:=E.er.var h1;obtain⟨a,o,rfl,r2,hin,_⟩:=E.own i v ho hv;rw[e] at hin;exact⟨_,hv,q.old hx _ H (λa o e _=>e) (r.aIo hin (.inl ⟨i,ho,hv⟩))⟩
theorem qW(ho:own i=ai)(a:al):Own own (σ.set i (ae v)) a↔Own own σ a:=by
 constructor
 ·rintro⟨j,hj,e⟩;have:i≠j:=λz=>by subst z;rw[ho] at hj;cases hj
  rw[ef this] at e;exact⟨j,hj,e⟩
 ·rintro⟨j,hj,e⟩;have:i≠j:=λz=>by subst z;rw[ho] at hj;cases hj
  exact⟨j,hj,by rw[ef this];exact e⟩
theorem bM{ρ:aa D}:(ρ.set i d).getD j .uD=if i=j/\i<ρ.length then d else ρ.getD j .uD:=by
 rw[eu,eu,np];by_cases h:i=j
 ·subst h;by_cases h2:i<ρ.length
  ·simp[h2]
  ·simp[h2]
 ·simp[h]
theorem ES.set(E:ES own H σ ρ)(ho:own i=ai)(r:Rep (λa=>¬Own own σ a) H v d):ES own H (σ.set i (ae v)) (ρ.set i d):=by
 have hO:(λa=>¬Own own (σ.set i (ae v)) a)=λa=>¬Own own σ a:=funext λa=>by rw[qW ho]
 refine⟨by simp[E.len],λj hj=>?_,λj w hj hw=>?_⟩
 ·rw[bM] at hj ⊢;rw[hO];by_cases h:i=j/\i<ρ.length
  ·rw[aq h];obtain⟨rfl,hl⟩:=h;exact⟨v,by rw[fN (by rw[E.len];exact hl)],λ_=>r⟩
  ·rw[av h] at hj ⊢;obtain⟨w,h1,h2⟩:=E.at_ j hj;by_cases hij:i=j
   ·subst hij;have:i<σ.length:=(dy.mp h1).1;rw[E.len] at this;exact bd ⟨rfl,this⟩ h
   ·exact⟨w,by rw[ef hij];exact h1,h2⟩
 ·have hij:i≠j:=λz=>by subst z;rw[ho] at hj;cases hj
  rw[ef hij] at hw;rw[bM,av λz=>hij z.1];obtain⟨a,o,h1,h2,h3,h4,h5,h6⟩:=E.own j w hj hw;refine⟨a,o,h1,h2,h3,h4,h5,λk hk hs=>h6 k hk ?_⟩;have hik:i≠k:=λz=>by subst z;rw[ho] at hk;cases hk
  rwa [ef hik] at hs
theorem ES.aNy{i:ah}{a:al}{o:HO}{d:D}(E:ES own H σ ρ)(s:b_ H H')(ho:own i=af)(hn:H a=ak)(r:Rep All H' (.ref a) d)(hin:inner d=af)(ha:H' a=ae o)(hm:uV o=af) :
  ES own H' (σ.set i (ae (.ref a))) (ρ.set i d)/\KU own σ H (σ.set i (ae (.ref a))) H':=by
 have hO:∀b,H b≠ak->¬Own own σ b->¬Own own (σ.set i (ae (.ref a))) b:=λb hb n z0=>by
  obtain⟨j,hj,e⟩:=z0;by_cases hij:i=j
  ·subst hij;by_cases hl:i<σ.length
   ·rw[fN hl] at e;cases e;exact hb hn
   ·rw[np,aq rfl,av hl] at e;cases e
  ·rw[ef hij] at e;exact n ⟨j,hj,e⟩
 refine⟨⟨by simp[E.len],λj hj=>?_,λj w hj hw=>?_⟩,λb ob e n=>⟨s b ob e,hO b (by rw[e];simp) n⟩⟩
 ·rw[bM] at hj ⊢;by_cases h:i=j/\i<ρ.length
  ·rw[aq h];obtain⟨rfl,hl⟩:=h;exact⟨.ref a,by rw[fN (by rw[E.len];exact hl)],λz=>by rw[ho] at z;cases z⟩
  ·rw[av h] at hj ⊢;obtain⟨w,h1,h2⟩:=E.at_ j hj;by_cases hij:i=j
   ·subst hij;have:i<σ.length:=(dy.mp h1).1;rw[E.len] at this;exact bd ⟨rfl,this⟩ h
   ·exact⟨w,by rw[ef hij];exact h1,λhj=>((h2 hj).dom.same s).mono λb ⟨n,hb⟩=>hO b hb n⟩
 ·by_cases hij:i=j
  ·subst hij;have hl:i<σ.length:=by
    have:=(dy.mp hw).1;simpa using this
   rw[fN hl] at hw;cases hw;rw[bM,aq ⟨rfl,by rw[<-E.len];exact hl⟩];refine⟨a,o,rfl,r,hin,ha,hm,λk hk hs=>?_⟩;by_cases hik:i=k
   ·exact hik.symm
   ·rw[ef hik] at hs;obtain⟨o',h1,_⟩:=E.live ⟨k,hk,hs⟩;rw[hn] at h1;cases h1
  ·rw[ef hij] at hw;rw[bM,av λz=>hij z.1];obtain⟨b,ob,h1,h2,h3,h4,h5,h6⟩:=E.own j w hj hw;refine⟨b,ob,h1,h2.same s,h3,s _ _ h4,h5,λk hk hs=>?_⟩;by_cases hik:i=k
   ·subst hik;by_cases hl:i<σ.length
    ·rw[fN hl] at hs;cases hs;rw[hn] at h4;cases h4
    ·rw[np,aq rfl,av hl] at hs;cases hs
   ·rw[ef hik] at hs;exact h6 k hk hs
theorem aEq(r:Rep P H v d)(hin:inner d=af):∃a o,v=.ref a/\P a/\H a=ae o/\uV o=af:=by
 cases r with
 |lst e p r=>exact⟨_,_,rfl,p,e,rfl⟩
 |cel e p r=>exact⟨_,_,rfl,p,e,rfl⟩
 |dK e p r n=>exact⟨_,_,rfl,p,e,rfl⟩
 |dT e p r n=>exact⟨_,_,rfl,p,e,rfl⟩
 |dlK e p r n=>exact⟨_,_,rfl,p,e,rfl⟩
 |dlT e p r n=>exact⟨_,_,rfl,p,e,rfl⟩
 |fdK e r n=>cases hin
 |fdT e r n=>cases hin
 |_=>cases hin
theorem aGl(E:ES own H σ ρ)(r:Rep (New H) H' v d):Rep (λa=>¬Own own σ a) H' v d:=r.mono λa ha ho=>by
 obtain⟨o,h1,_⟩:=E.live ho;rw[show H a=ak from ha] at h1;cases h1
theorem QG(ho:own i=o)(h:tS own (b8 o i fe re) D' σ H):aJ5 (gE fe re) (xZ i) D' σ H:=by
 obtain⟨ρ,fl,E,h,q⟩:=h;obtain⟨d,h1,h2⟩:=a_ h;cases o with
 |true=>
  simp only[cb] at h2;split at h2
  ·rename_i hk;cases h2;refine⟨ρ,d,E.er,h1,λv H' s r n=>?_⟩;rw[bg] at hk;obtain⟨a,ob,rfl,hn,ha,hm⟩:=aEq (n hk.1) hk.2;obtain⟨E2,k⟩:=E.aNy s ho hn r hk.2 ha hm;exact q _ H' k E2
  ·exact bx h2
 |false=>
  simp only[c_,b9] at h2;split at h2
  ·rename_i hk;cases h2;refine⟨ρ,d,E.er,h1,λv H' s r n=>?_⟩;rw[iX] at hk;have r2:Rep (λa=>¬Own own σ a) H' v d:=by
    rcases hk with hk|hk
    ·exact aGl E (n hk)
    ·exact r.bU hk
   exact q _ H' (λa ob e hn=>⟨s a ob e,by rw[qW ho];exact hn⟩) ((E.same s).set ho r2)
  ·exact bx h2
theorem aY(ho:own i=o)(hN:X.N.Nodup)(hi:X.N[i]?=ae x)(hx:Loc X.env.scope x)(he:PE X e (gE fe re))(hs:eh e (ae (.Name x pos')) pos.line X.env=pure ai:=by rfl)(hf:X.fn x=af\/X.env.scope.names.lookup x=ae .local:=by first|exact .inl rfl|exact .inr rfl|assumption) :
  PS X (.Assign [.Name x pos'] e pos) (tS own (b8 o i fe re)):=PS.imp (HR hN hi hx he hs hf) λ_ _ _=>QG ho
theorem aOy{i:ah}{x:Str}{o:ap}(he:PE X e (gE fe re))(ho:own i=o:=by rfl)(hN:X.N.Nodup:=by assumption)(hi:X.N[i]?=ae x:=by exact rfl)(hx:Loc X.env.scope x:=by trivial)(hs:eh e (ae (.Name x pos')) pos.line X.env=pure ai:=by rfl)(hf:X.fn x=af\/X.env.scope.names.lookup x=ae .local:=by first|exact .inl rfl|exact .inr rfl|assumption):PS X (.Assign [.Name x pos'] e pos) (tS own (b8 o i fe re)):=aY ho hN hi hx he hs hf
theorem aK9(ho:own i=ai)(hoj:own j=ai)(hN:X.N.Nodup)(hi:X.N[i]?=ae x)(hx:Loc X.env.scope x)(hj:X.N[j]?=ae y)(hy:Vis X.env.scope y)(hs:eh (.Name y py) (ae (.Name x pos')) pos.line X.env=pure ai:=by rfl)(hf:X.fn x=af\/X.env.scope.names.lookup x=ae .local:=by first|exact .inl rfl|exact .inr rfl|assumption)
 (hd:(y==("__debug__" : Str))=ai:=by decide)(hcd:(y==("__classdict__" : Str))=ai:=by decide):PS X (.Assign [.Name x pos'] (.Name y py) pos) (tS own (sAl i j)):=PS.imp (HR hN hi hx (iZ hj hy hd hcd) hs hf) λD' σ H z0=>by
 obtain⟨ρ,fl,E,h,q⟩:=z0;obtain⟨d,h1,h2⟩:=a_ h;cases h2;obtain⟨v,hv,r,e⟩:=E.er.var h1;have hne:ρ.getD j .uD≠.uD:=λz=>by
  rw[z] at e;subst e;exact Rep.uD r
 obtain⟨w,hw,hr⟩:=E.at_ j hne;rw[hv] at hw;cases hw;have r2:=hr hoj;rw[e] at r2;exact⟨v,hv,q _ H (λa ob e hn=>⟨e,by rw[qW ho];exact hn⟩) (E.set ho r2)⟩
theorem ES.mut{i:ah}{a:al}{o:HO}{d:D}(E:ES own H σ ρ)(ho:own i=af)(hi:σ[i]?=ae (ae (.ref a)))(hm:uV o=af)(r:Rep All (upd H a o) (.ref a) d)(hin:inner d=af) :
  ES own (upd H a o) σ (ρ.set i d)/\KU own σ H σ (upd H a o):=by
 have hOa:Own own σ a:=⟨i,ho,hi⟩
 obtain⟨a',oa,ea,_,_,hHa,hma,huq⟩:=E.own i _ ho hi;cases ea;have k:KU own σ H σ (upd H a o):=λb ob e n=>⟨by rw[aX (λz=>by subst z;exact n hOa)];exact e,n⟩
 have hl:i<ρ.length:=by rw[<-E.len];exact(dy.mp hi).1
 refine⟨⟨by simp[E.len],λj hj=>?_,λj w hj hw=>?_⟩,k⟩
 ·rw[bM] at hj ⊢;by_cases h:i=j/\i<ρ.length
  ·obtain⟨rfl,_⟩:=h;exact⟨_,hi,λz=>by rw[ho] at z;cases z⟩
  ·rw[av h] at hj ⊢;obtain⟨w,h1,h2⟩:=E.at_ j hj;exact⟨w,h1,λhj=>k.rep E (h2 hj)⟩
 ·by_cases hij:i=j
  ·subst hij;rw[hi] at hw;cases hw;rw[bM,aq ⟨rfl,hl⟩];exact⟨a,o,rfl,r,hin,aH,hm,huq⟩
  ·rw[bM,av λz=>hij z.1];obtain⟨b,ob,h1,h2,h3,h4,h5,h6⟩:=E.own j w hj hw;subst h1;have hba:b≠a:=λz=>by subst z;exact hij (h6 i ho hi)
   refine⟨b,ob,rfl,?_,h3,by rw[aX hba];exact h4,h5,h6⟩;refine(h2.aIo (P':=λc=>c=b) h3 rfl).keep (λc oc hc hp=>?_) λ_ _=>trivial
   rw[aX]
   ·exact hc
   ·intro z;subst z;rcases hp with hp|hp
    ·exact hba hp.symm
    ·rw[hHa] at hc;cases hc;rw[hma] at hp;cases hp
theorem ES.ownAt(E:ES own H σ ρ)(ho:own i=af)(hd:ρ.getD i .uD≠.uD):∃a o,σ[i]?=ae (ae (.ref a))/\Rep All H (.ref a) (ρ.getD i .uD)/\inner (ρ.getD i .uD)=af/\H a=ae o/\uV o=af:=by
 obtain⟨v,h1,_⟩:=E.at_ i hd;obtain⟨a,o,rfl,h2,h3,h4,h5,_⟩:=E.own i v ho h1;exact⟨a,o,h1,h2,h3,h4,h5⟩
theorem wX{a:al}(r:Rep All H (.ref a) (.lst xs)):∃vs,H a=ae (.lst vs)/\bL All H vs xs:=by
 cases r with
 |lst e _ r=>exact⟨_,e,r⟩
theorem bL.upd{a:al}{xs:aa D}{o:HO}{ob:HO}(r:bL All H vs xs)(hp:θ xs=af)(ha:H a=ae ob)(hm:uV ob=af):bL All (upd H a o) vs xs:=by
 refine(r.bU (P':=λ_=>cy) hp).keep (λc oc hc h=>?_) λ_ h=>h.elim
 rw[aX]
 ·exact hc
 ·intro z;subst z;rcases h with h|h
  ·exact h
  ·rw[ha] at hc;cases hc;rw[hm] at h;cases h
theorem nA:θ (xs++ys)=(θ xs&&θ ys):=by
 induction xs with
 |nil=>simp[θ]
 |cons x xs ih=>rw[dS,θ,θ,ih,ye]
theorem jR(ho:own i=af)(hN:X.N[i]?=ae x)(hv:Vis X.env.scope x)(he:PE X e (gE fe re))(hd:nDb x:=by decide)(hcd:nCd x:=by decide)
 (hbase:jf (.Name x p1) "append" X.env (bP (.Name x p1) X.env)=bP (.Name x p1) X.env:=by rfl)
 (hs1:bp [e] X.env=(ai,bP e X.env)::bp [] X.env:=by rfl)
 (hfew:((eJ cpos (bp [e] X.env)).all (λx=>!x.1)&&(k9 cpos (la [] X.env)).all (λx=>x.1.isSome)
  &&ϒ (([e]:aa Expr).length+([]:aa gw).length+(if ([]:aa gw).isEmpty then 0 else 1)<30))=af:=by rfl)
 (hline:(apos.endLine==cpos.line)=af:=by rfl)
 (hs:eh (.Call (.Attribute (.Name x p1) "append" apos) [e] [] cpos) ak pos.line X.env=pure ai:=by rfl) :
  PS X (.Expr (.Call (.Attribute (.Name x p1) "append" apos) [e] [] cpos) pos) (tS own (mY i fe)):=
 PS.imp (vX (X6 lu tq Au v8 (iZ hN hv hd hcd) (i_ he oZ hs1) hbase hfew hline hs1 rfl) hs) λD' σ H z0=>by
 obtain⟨ρ,fl,E,h,q⟩:=z0;obtain⟨d,h1,h2⟩:=a_ h;split at h2
 ·rename_i xs hx;split at h2
  ·rename_i hk;cases h2;rw[bg] at hk;obtain⟨a,o,hσ,r,hin,ha,hm⟩:=E.ownAt ho (by rw[hx];intro z;cases z);rw[hx] at r hin;obtain⟨vs,hl,rr⟩:=wX r;refine⟨_,hσ,.inl ⟨rfl,vs,.of hl⟩,ρ,d,E.er,h1,λv H' s rv _=>⟨a,vs,v,rfl,rfl,s _ _ hl,by rw[rr.length];exact JT hk.1,?_⟩⟩;have E':=E.same s;have hl':=s _ _ hl;obtain⟨E2,k2⟩:=E'.mut ho hσ rfl (.lst aH trivial (((rr.same s).snoc rv).upd (by rw[nA];simp only[bg];exact⟨hin,by simp[θ,hk.2]⟩) hl' rfl)) (by show θ (xs++[d])=af;rw[nA];simp only[bg];exact⟨hin,by simp[θ,hk.2]⟩);exact q _ _ ((KU.same s).trans k2) E2
  ·exact bx h2
 ·exact bx h2
end
end Mi
namespace L2
open PySem PySem.Spec PyProof.Rows
section
variable {X:Cx} {scope:fq} {own:aa Str}
theorem aD5{y:Str}{py:bz}{iy:ah}(hNn:X.N.Nodup)(hiy:X.N[iy]?=ae y)(hxy:Loc X.env.scope y)(hfy:X.fn y=af\/X.env.scope.names.lookup y=ae .local){Ψ:aa (al×bb)}{σ:St}{D:Ends}{p C:al}{H5:Hp}{s6:ao}{m6:Str->az aj}(f:Inv X Ψ σ H5 s6)(k:W2 X Ψ H5 C)(n:s6.heap.Ns C m6)(q:xZ iy (.ref p) σ H5 D.nx):lj (ax X.prog X.w) X.A X.xe (ae (lP (.Name y py) X.env)) (λ_ s'=>SP X Ψ D .next s') (.ref p) C (.ok .next) s6:=by
 obtain⟨oC,esC,epC,hoC,hdC,_⟩:=id n;have finP:=f.N8 (pins':=Ψ++[(C,oC)]) λp hp=>(cS.mp hp).elim (λz=>f.pin p (eo _ z)) λz=>by
  have z':p=(C,oC):=by simpa using z
  subst z';exact⟨hoC,k.1,k.2.1,k.2.2.1,λv z=>by rw[hdC] at z;cases z⟩
 refine thn (aZ (pos:=py) hNn hiy hxy hfy _ _ σ H5 (.ref p) (.ref p) D.nx finP rfl q) λ_ s7 ⟨σ7,H7,I7,q7⟩=>?_
 obtain⟨g7,hC7,_⟩:=I7.pin (C,oC) (eo _ (eo _ (by simp)));refine⟨m6,n.at' λo e=>?_,λh' sb=>⟨σ7,H7,Inv.turned (t':=s7.toks) I7.rJ (λb o hb e=>sb.extBut b o hb e) hC7 k.2.1 k.2.2.2.1 k.2.2.2.2.1 k.2.2.2.2.2,q7⟩⟩;rw[hoC] at e;cases e;exact g7
theorem aKa{elt iter tg:Expr}{ifs:aa Expr}{wi:TI}{g:TG}{tc:TT}{te:TE}{pos:bz}(S:dJ X.N X.env.scope scope own)(hcalm:X.calm=af)(hi:PI X tg iter wi)
 (hg:∀X',c7 X X' scope own->PG X' tg g)(hc:(ifs=[]/\tc=λ_ H Q=>Q af H)\/∃c,ifs=[c]/\∀X',c7 X X' scope own->PT X' c tc)(he:∀X',c7 X X' scope own->PE X' elt te)
 (hs:∀x,eC iter X.env x=pure x){y:Str}{py pos2:bz}{iy:ah}(hNn:X.N.Nodup)(hiy:X.N[iy]?=ae y)(hxy:Loc X.env.scope y)(hfy:X.fn y=af\/X.env.scope.names.lookup y=ae .local)(hsw:eh (.ListComp elt [⟨tg,iter,ifs,0⟩] scope pos) (ae (.Name y py)) pos2.line X.env=pure af):PS X (.Assign [.Name y py] (.ListComp elt [⟨tg,iter,ifs,0⟩] scope pos) pos2) (aJ5 (PQ wi g tc te own.length) (xZ iy)):=by
 intro Ψ s σ H D I h;rw[exec_Assign_Name_used _ _ _ _ hsw];refine ay (Av (ay ?_));show ϑ _ X.A (do let _ <- yc (.ListComp elt [⟨tg,iter,ifs,0⟩] scope pos) scope X.env _ (t5 []) ai (bP iter X.env) (ae (lP (.Name y py) X.env))) _ _ s;exact ay (eL (PX (QQ:=λ_ s'=>SP X Ψ D .next s') S hcalm hi hg hc he hs I h (aD5 hNn hiy hxy hfy)) (λ_ s' hq=>bf (bf hq)) λ_ _ e=>e)
theorem Z5{elt iter tg c:Expr}{wi:TI}{g:TG}{tc:TT}{te:TE}{pos:bz}(S:dJ X.N X.env.scope scope own)(hcalm:X.calm=af)(hi:PI X tg iter wi)
 (hg:∀X',c7 X X' scope own->PG X' tg g)(hc:∀X',c7 X X' scope own->PT X' c tc)(he:∀X',c7 X X' scope own->PE X' elt te)
 (hs:∀x,eC iter X.env x=pure x){y:Str}{py pos2:bz}{iy:ah}(hNn:X.N.Nodup)(hiy:X.N[iy]?=ae y)(hxy:Loc X.env.scope y)(hfy:X.fn y=af\/X.env.scope.names.lookup y=ae .local)(hsw:eh (.ListComp elt [⟨tg,iter,[c],0⟩] scope pos) (ae (.Name y py)) pos2.line X.env=pure af):PS X (.Assign [.Name y py] (.ListComp elt [⟨tg,iter,[c],0⟩] scope pos) pos2) (aJ5 (PQ wi g tc te own.length) (xZ iy)):=
 aKa S hcalm hi hg (.inr ⟨c,rfl,hc⟩) he hs hNn hiy hxy hfy hsw
theorem aD6{elt iter tg:Expr}{wi:TI}{g:TG}{te:TE}{pos:bz}(S:dJ X.N X.env.scope scope own)(hcalm:X.calm=af)(hi:PI X tg iter wi)
 (hg:∀X',c7 X X' scope own->PG X' tg g)(he:∀X',c7 X X' scope own->PE X' elt te)
 (hs:∀x,eC iter X.env x=pure x){y:Str}{py pos2:bz}{iy:ah}(hNn:X.N.Nodup)(hiy:X.N[iy]?=ae y)(hxy:Loc X.env.scope y)(hfy:X.fn y=af\/X.env.scope.names.lookup y=ae .local)(hsw:eh (.ListComp elt [⟨tg,iter,[],0⟩] scope pos) (ae (.Name y py)) pos2.line X.env=pure af):PS X (.Assign [.Name y py] (.ListComp elt [⟨tg,iter,[],0⟩] scope pos) pos2) (aJ5 (PQ wi g (λ_ H Q=>Q af H) te own.length) (xZ iy)):=
 aKa S hcalm hi hg (.inl ⟨rfl,rfl⟩) he hs hNn hiy hxy hfy hsw
end
end L2
namespace Mi
open PySem L2 PySem.SeqAt PySem.Spec PyProof.Rows
section
variable [KFrag]
variable {own:ah->ap}
section
variable {X:Cx} {a b c e:Expr} {pos pos':bz} {fa fb fe:FE} {ra re:ap} {gc:FT} {f g:FS} {st:bo} {s1 s2:aa bo}
variable {scope:fq} {ownN:aa Str} {elt iter tg:Expr} {it:FI} {t:D->Res (aa D)} {gt:TG}
theorem aGm(S:dJ X.N X.env.scope scope ownN)(hn:X.N.length=n)(hm:ownN.length=m)(hcalm:X.calm=af)(hi:PI X tg iter (gI X.K it))(ht:TgC gt t n m)(hg:∀X',c7 X X' scope ownN->PG X' tg gt)(he:∀X',c7 X X' scope ownN->PE X' elt (gE fe re))
 (hs:∀x,eC iter X.env x=pure x)(ho:own iy=o)(hNn:X.N.Nodup)(hiy:X.N[iy]?=ae y)(hxy:Loc X.env.scope y)(hfy:X.fn y=af\/X.env.scope.names.lookup y=ae .local)(hsw:eh (.ListComp elt [⟨tg,iter,[],0⟩] scope pos) (ae (.Name y py)) pos2.line X.env=pure af) :
  PS X (.Assign [.Name y py] (.ListComp elt [⟨tg,iter,[],0⟩] scope pos) pos2) (tS own (b8 o iy (d7 n it t gQ fe re) af)):=by
 intro Ψ s σ H D I h;subst hm;refine aD6 S hcalm hi hg he hs hNn hiy hxy hfy hsw Ψ s σ H D I ?_;exact rY ht (λσ H Q h=>by obtain⟨ρ,b,E,h,q⟩:=h;cases h;exact q H (b_.refl H)) (I.len.trans hn) (QG ho h)
theorem Z6(S:dJ X.N X.env.scope scope ownN)(hn:X.N.length=n)(hm:ownN.length=m)(hcalm:X.calm=af)(hi:PI X tg iter (gI X.K it))(ht:TgC gt t n m)(hg:∀X',c7 X X' scope ownN->PG X' tg gt)(hc:∀X',c7 X X' scope ownN->PT X' c (gT gc))(he:∀X',c7 X X' scope ownN->PE X' elt (gE fe re))
 (hs:∀x,eC iter X.env x=pure x)(ho:own iy=o)(hNn:X.N.Nodup)(hiy:X.N[iy]?=ae y)(hxy:Loc X.env.scope y)(hfy:X.fn y=af\/X.env.scope.names.lookup y=ae .local)(hsw:eh (.ListComp elt [⟨tg,iter,[c],0⟩] scope pos) (ae (.Name y py)) pos2.line X.env=pure af) :
  PS X (.Assign [.Name y py] (.ListComp elt [⟨tg,iter,[c],0⟩] scope pos) pos2) (tS own (b8 o iy (d7 n it t gc fe re) af)):=by
 intro Ψ s σ H D I h;subst hm;refine Z5 S hcalm hi hg hc he hs hNn hiy hxy hfy hsw Ψ s σ H D I ?_;exact rY ht (λσ H Q h=>h) (I.len.trans hn) (QG ho h)
def aGn:V->aa V->Hp->VK->Prop:=λx vs H Q=>∃l xs j y,x=.ref l/\vs=[.int j,y]/\H l=ae (.lst xs)/\0<=j/\j<=xs.length/\xs.length<bj/\Q .non (upd H l (.lst (xs.take j.toNat++y::xs.drop j.toNat)))
theorem Z7:MtR X "list.insert" aGn:=by
 intro Ψ s σ H x vs v us Q I rx rv h;obtain⟨l,xs,j,y,rfl,rfl,hH,h0,h1,hz,q⟩:=h;cases rx;cases rv with
 |cons rj rv=>
  cases rv with
  |cons ry rv=>
   cases rv;obtain⟨tt,rfl⟩:=rj;obtain⟨z,its,n,r,hl,e⟩:=I.aIj hH;have hs:bj=16777216:=eD;refine jg Aw ⟨_,e,rfl⟩ F.entry_list_insert (F.args_list_insert_3 _ _ _) (BU l its.toArray n j tt _ (by
    rw[show Ax j=af from by unfold Ax;simp only[bg,d4];lia];decide) (by rw[cg];lia)) ⟨e,?_⟩
   refine⟨.non,_,I.aJm hH e ?_ ((r.take j.toNat).append (.cons ry (r.drop j.toNat))) ?_,rfl,q⟩
   ·have hj:¬j<0:=by lia
    have hm:min j.toNat its.length=j.toNat:=by lia
    simp only[hj,b9,cg,hm];apply lg.mp;simp[List.extract_eq_drop_take]
    first|rfl|(rw[mw];simp)
   ·rw[cw,ck,hG,iE];lia
theorem aKb(ho:own i=af)(hN:X.N[i]?=ae x)(hv:Vis X.env.scope x)(ha:PE X a (gE fa ra))(he:PE X e (gE fe re))(hd:nDb x:=by decide)(hcd:nCd x:=by decide)
 (hbase:jf (.Name x p1) "insert" X.env (bP (.Name x p1) X.env)=bP (.Name x p1) X.env:=by rfl)
 (hs0:bp [a,e] X.env=(ai,bP a X.env)::bp [e] X.env:=by rfl)(hs1:bp [e] X.env=(ai,bP e X.env)::bp [] X.env:=by rfl)
 (hfew:((eJ cpos (bp [a,e] X.env)).all (λx=>!x.1)&&(k9 cpos (la [] X.env)).all (λx=>x.1.isSome)
  &&ϒ (([a,e]:aa Expr).length+([]:aa gw).length+(if ([]:aa gw).isEmpty then 0 else 1)<30))=af:=by rfl)
 (hline:(apos.endLine==cpos.line)=af:=by rfl)(hpl:(eJ cpos (bp [e] X.env)).any (·.1)=ai:=by rfl)
 (hs:eh (.Call (.Attribute (.Name x p1) "insert" apos) [a,e] [] cpos) ak pos.line X.env=pure ai:=by rfl) :
  PS X (.Expr (.Call (.Attribute (.Name x p1) "insert" apos) [a,e] [] cpos) pos) (tS own (aJx i fa fe)):=
 PS.imp (vX (X6 lu Aw PySem.F.type_list_insert Z7 (iZ hN hv hd hcd) (i_ ha (i_ he oZ hs1) hs0) hbase hfew hline hs0 hpl) hs) λD' σ H z0=>by
 obtain⟨ρ,fl,E,h,q⟩:=z0;obtain⟨j,h0,h⟩:=a_ h;obtain⟨d,h1,h2⟩:=a_ h;split at h2
 ·rename_i xs jj hx;split at h2
  ·rename_i hk;cases h2;simp only[bg,d4] at hk;obtain⟨⟨⟨hk1,hk2⟩,hk3⟩,hk4⟩:=hk;obtain⟨a,o,hσ,r,hin,ha,hm⟩:=E.ownAt ho (by rw[hx];intro z;cases z);rw[hx] at r hin;obtain⟨vs,hl,rr⟩:=wX r;refine⟨_,hσ,.inl ⟨rfl,vs,.of hl⟩,ρ,_,E.er,h0,λv0 H0 s0 rv0 _=>⟨ρ,d,E.er.same s0,h1,λv H' s rv _=>?_⟩⟩;cases rv0.inv;have s':=s0.trans s;refine⟨a,vs,jj,v,rfl,rfl,s' _ _ hl,hk3,by rw[rr.length];exact hk4,by rw[rr.length];exact em hk1 (by rw[eD];decide),?_⟩;have E':=E.same s';have hl':=s' _ _ hl;have hin':θ xs=af:=hin;have hp:θ (xs.take jj.toNat++d::xs.drop jj.toNat)=af:=kO.mpr λy hy=>by
    rcases cS.mp hy with hy|hy
    ·exact kO.mp hin' y (List.mem_of_mem_take hy)
    ·rcases bm.mp hy with rfl|hy
     ·exact hk2
     ·exact kO.mp hin' y (xt hy)
   have rr':=rr.same s';obtain⟨E2,k2⟩:=E'.mut ho hσ rfl (.lst aH trivial (((rr'.take jj.toNat).append (.cons rv (rr'.drop jj.toNat))).upd hp hl' rfl)) hp;exact q _ _ ((KU.same s').trans k2) E2
  ·exact bx h2
 ·exact bx h2
theorem DG[fg κ]{k:κ}{v:V}(e:p.1=k)(h:k∉r.map (·.1)):putK (p::r) k v=(k,v)::r:=by
 unfold putK;rw[aq (by simp[e]),br,aq e,e]
 congr 1
 have:∀q∈r,(λkv:κ×V=>if kv.1=k then (kv.1,v) else kv) q=id q:=λq hq=>by
  have:q.1≠k:=λz=>h (b6.mpr ⟨q,hq,z⟩)
  simp[this]
 rw[e8 this,gV]
theorem DK[fg κ]{k:κ}{v:V}(e:¬p.1=k):putK (p::r) k v=p::putK r k v:=by
 unfold putK;rw[ki,c6 e,mf];split
 ·rw[br,av e]
 ·rfl
theorem kY[fg κ]:∀{kvs:aa (κ×V)},(kvs.map (·.1)).Nodup->((putK kvs k v).map (·.1)).Nodup:=λ{kvs} h=>by
 by_cases hk:rH kvs k=ak
 ·exact aFy v h hk
 ·unfold putK;rw[aq (by rw[rO];exact Option.isSome_iff_ne_none.mpr hk),df];have:(λx:κ×V=>x.1) ∘ (λkv:κ×V=>if kv.1=k then (kv.1,v) else kv)=λx=>x.1:=by
   funext q
   simp only[BY];split<;>rfl
  rw[this];exact h
theorem vL(rv:Rep P H v d):∀{kvs:aa (Key×V)}{ds:aa (D×D)},kE P H kvs ds->(kvs.map (·.1)).Nodup->kE P H (putK kvs k v) (putD ds (kD k) d)
 |_,_,.nil,_=>.cons rv .nil
 |_,_,.cons (k:=k') (v:=v') r t,hn=>by
  rw[br] at hn;obtain⟨h1,h2⟩:=dq.mp hn;rw[putD,JW];by_cases h:k'=k
  ·subst h;rw[aq (by simp),DG rfl h1];exact .cons rv t
  ·rw[av (by simpa using h),DK h];exact .cons r (vL rv t h2)
theorem DN(rv:Rep P H v d):∀{kvs:aa (aa Key×V)}{ds:aa (D×D)},tO P H kvs ds->(kvs.map (·.1)).Nodup->tO P H (putK kvs k v) (putD ds (.tup (k.map kD)) d)
 |_,_,.nil,_=>.cons rv .nil
 |_,_,.cons (k:=k') (v:=v') r t,hn=>by
  rw[br] at hn;obtain⟨h1,h2⟩:=dq.mp hn;rw[putD,aGd];by_cases h:k'=k
  ·subst h;rw[aq (by simp),DG rfl h1];exact .cons rv t
  ·rw[av (by simpa using h),DK h];exact .cons r (DN rv t h2)
theorem kE.length:∀{kvs:aa (Key×V)}{ds:aa (D×D)},kE P H kvs ds->kvs.length=ds.length
 |_,_,.nil=>rfl
 |_,_,.cons _ t=>by rw[ck,ck,kE.length t]
theorem tO.length:∀{kvs:aa (aa Key×V)}{ds:aa (D×D)},tO P H kvs ds->kvs.length=ds.length
 |_,_,.nil=>rfl
 |_,_,.cons _ t=>by rw[ck,ck,tO.length t]
theorem DP{a:al}(ha:H a=ae ob)(hm:uV ob=af):B_ (λ_=>cy) H (L2.upd H a o):=λc oc hc h=>by
 rw[aX]
 ·exact hc
 ·intro z;subst z;rcases h with h|h
  ·exact h.elim
  ·rw[ha] at hc;cases hc;rw[hm] at h;cases h
theorem tV(hd:d.pure=af):∀{ds:aa (D×D)},θ (ds.map (·.2))=af->θ ((putD ds k d).map (·.2))=af
 |[],_=>by simp[putD,θ,hd]
 | (q,w)::r,h=>by
  rw[br,θ,bg] at h;rw[putD];split
  ·rw[br,θ,bg];exact⟨hd,h.2⟩
  ·rw[br,θ,bg];exact⟨h.1,tV hd h.2⟩
theorem aMw{ad:al}{y v:V}{ds:aa (D×D)}{k d:D}(I:Inv X Ψ σ H s)(rd:Rep All H (.ref ad) (.dct ds))(hin:θ (ds.map (·.2))=af)(rk:Rep All H y k)(hk:o6 ds k=af)(hl:ds.length<bj)(rv:Rep All H v d)(hd:d.pure=af) :
  ∃H1 o,Inv X Ψ σ H1 s/\aCn H1 ad y v (L2.upd H ad o)/\uV o=af/\Rep All (L2.upd H ad o) (.ref ad) (.dct (putD ds k d)):=by
 unfold o6 at hk;rw[bg] at hk;obtain⟨h1,h2⟩:=hk;have rv':Rep (λ_=>cy) H v d:=rv.bU hd;cases rd with
 |@dK _ kvs ds e _ r n=>
  have hlen:=r.length;rcases kJ h1 rk with ⟨q,rfl,rfl⟩|⟨b,ks,rfl,eb,rfl⟩
  ·refine⟨H,.dK (putK kvs q v),I,.k e (by lia),rfl,.dK aH trivial ?_ (kY n)⟩;exact(vL rv' (r.bU hin) n).keep (DP e rfl) λ_ z=>z.elim
  ·cases r with
   |nil=>
    refine⟨L2.upd H ad (.dT []),.dT (putK [] ks v),oA I e,?_,rfl,.dT aH trivial ?_ (kY ie)⟩
    ·have:=aCn.t (H:=L2.upd H ad (.dT [])) (a:=ad) (b:=b) (kvs:=[]) (k:=ks) (v:=v) aH (by rw[aX (aFd eb e (by intro z;cases z))];exact eb) hl;rwa [N7] at this
    ·exact(DN (k:=ks) rv' .nil ie).keep (DP e rfl) λ_ z=>z.elim
   |cons r t=>
    rw[gi,n_] at h2;simp[isTup] at h2
 |@dT _ kvs ds e _ r n=>
  have hlen:=r.length;rcases kJ h1 rk with ⟨q,rfl,rfl⟩|⟨b,ks,rfl,eb,rfl⟩
  ·cases r with
   |nil=>
    refine⟨L2.upd H ad (.dK []),.dK (putK [] q v),oE I e,?_,rfl,.dK aH trivial ?_ (kY ie)⟩
    ·have:=aCn.k (H:=L2.upd H ad (.dK [])) (a:=ad) (kvs:=[]) (k:=q) (v:=v) aH hl;rwa [N7] at this
    ·exact(vL (k:=q) rv' .nil ie).keep (DP e rfl) λ_ z=>z.elim
   |cons r t=>
    rw[gi,n_] at h2;simp[isTup] at h2
  ·refine⟨H,.dT (putK kvs ks v),I,.t e eb (by lia),rfl,.dT aH trivial ?_ (kY n)⟩;exact(DN rv' (r.bU hin) n).keep (DP e rfl) λ_ z=>z.elim
theorem rZ(hu:X.A.units+20<bE)(ho:own i=af)(hN:X.N[i]?=ae x)(hvi:Vis X.env.scope x)(hk:PE X k (gE fk rk))(hv:PE X value (gE fv rv))
 (hs:eh value (ae (.Subscript (.Name x p1) k pos')) pos.line X.env=pure ai:=by rfl)(hd:nDb x:=by decide)(hcd:nCd x:=by decide) :
  PS X (.Assign [.Subscript (.Name x p1) k pos'] value pos) (tS own (wI i fk fv)):=by
 rintro Ψ s σ H D' I ⟨ρ,fl,E,h,q⟩;obtain⟨d,h0,h⟩:=a_ h;obtain⟨kd,h1,h2⟩:=a_ h;split at h2
 ·rename_i kvs hx;split at h2
  ·rename_i hg;cases h2;simp only[bg] at hg;obtain⟨⟨hg1,hg2⟩,hg3⟩:=hg;obtain⟨a,o,hσ,r,hin,ha,hm⟩:=E.ownAt ho (by rw[hx];intro z;cases z);rw[hx] at r hin;refine Ay (thn (hv Ψ s σ H (λv H1=>b_ H H1/\Rep All H1 v d) I ⟨ρ,d,E.er,h0,λv H1 s1 r1 _=>⟨s1,r1⟩⟩) λrr s1 ⟨v,H1,I1,rv1,sm1,rp1⟩=>
    thn (iZ hN hvi hd hcd Ψ s1 σ H1 (λw H2=>w=.ref a/\H2=H1) I1 ⟨_,hσ,rfl,rfl⟩) λu s2 ⟨xx,H2,I2,rx,ex,eH⟩=>
    thn (hk Ψ s2 σ H2 (λw H3=>b_ H2 H3/\Rep All H3 w kd) I2 ⟨ρ,kd,by rw[eH];exact E.er.same sm1,h1,λv H1 s1 r1 _=>⟨s1,r1⟩⟩) λiv s3 ⟨y,H3,I3,ry,sm3,rp3⟩=>?_) hs
   subst ex eH;obtain rfl:u=fI a:=rx;have sm:=sm1.trans sm3;obtain⟨H4,o4,I4,g,hmo,rp⟩:=aMw I3 (r.same sm) hin rp3 hg2 (JT hg1) (rp1.same sm3) hg3;obtain⟨E2,k2⟩:=(E.same sm).mut ho hσ hmo rp (tV hg3 hin);exact JC (by lia) I4 g ry rv1 λs4 I5=>⟨σ,_,I5,q _ _ ((KU.same sm).trans k2) E2⟩
  ·exact bx h2
 ·exact bx h2
def TgS(own:ah->ap)(g:TG)(t:D->aa D->Res (aa D)):Prop:=∀(v:V)(d:D)(ρ ρ':aa D)(σ:L2.St)(H:Hp)(Q:L2.St->Hp->Prop),ES own H σ ρ->Rep (λa=>¬Own own σ a) H v d->t d ρ=.ok ρ'->
 (∀σ',ES own H σ' ρ'->(∀a,Own own σ' a↔Own own σ a)->Q σ' H)->g v σ H Q
theorem iK(ho:own i=ai):TgS own (xZ i) (tg1 i):=λv d ρ ρ' σ H Q E r h q=>by
 cases h;exact q _ (E.set ho r) λa=>qW ho a
theorem ES.sets:∀{is:aa ah}{vs:aa V}{ds:aa D}{σ:L2.St}{ρ:aa D},(∀i∈is,own i=ai)->ES own H σ ρ->bL (λa=>¬Own own σ a) H vs ds->ES own H (kW is vs σ) (JP is ds ρ)/\∀a,Own own (kW is vs σ) a↔Own own σ a
 |[],_,_,_,_,_,E,_=>by simp only[kW,JP];exact⟨E,λ_=>trivial⟩
 |i::is,_,_,σ,ρ,h,E,.nil=>by simp only[kW,JP];exact⟨E,λ_=>trivial⟩
 |i::is,_,_,σ,ρ,h,E,.cons (v:=v) r t=>by
  have ho:=h i (bu ..);have hO:(λa=>¬Own own (σ.set i (ae v)) a)=λa=>¬Own own σ a:=funext λa=>by rw[qW ho]
  obtain⟨h1,h2⟩:=ES.sets (λj hj=>h j (bq _ hj)) (E.set ho r) (by rw[hO];exact t);exact⟨h1,λa=>(h2 a).trans (qW ho a)⟩
theorem tW(K:bX)(ho:∀i∈is,own i=ai):TgS own (aLv K is.length (gIx is)) (tgN is):=λv d ρ ρ' σ H Q E r h q=>by
 cases d<;>simp only[tgN] at h<;>(try (exact bx h;done))
 split at h
 ·rename_i hl;cases h;have hl':=e9 hl;obtain⟨a,xs,rfl,e,rr⟩:=r.fO;obtain⟨h1,h2⟩:=E.sets ho rr;exact⟨a,xs,rfl,.of e,by rw[rr.length];exact hl',C_ _ _ _ (by rw[rr.length];exact hl') (q _ h1 h2)⟩
 ·exact bx h
theorem ItQ.ku{K:bX}(h:ItQ K (λa=>¬Own own σ a) J H items)(k:KU own σ H σ' H')(E:ES own H σ ρ):ItQ K (λa=>¬Own own σ' a) J H' items:=h.keep' (k.keep E) λa o e n=>(k a o e n).2
theorem vM{K:bX}{g:TG}{t:D->aa D->Res (aa D)}{body:FS}{D':Ends}{J:It}{items:aa D}{σ:L2.St}{H1:Hp}{ρ:aa D}{fl:Fl}(tg:TgS own g t)(E:ES own H1 σ ρ)(hJ:ItQ K (λa=>¬Own own σ a) J H1 items)(hf:mZ t body items ρ=.ok fl)(q:kS own D' σ H1 fl) :
  ∃W:ah->ah->L2.St->Hp->Prop,(∃m,W 0 m σ H1)/\∀i m σ H,W i m σ H->
   (J.stop i H/\D'.nx σ H)\/(J.go i H/\∃N:L2.St->Hp->Prop,(∀σ' H',N σ' H'->∃m',m'<m/\W (i+1) m' σ' H')/\∀x H',J.yld i H x H'->g x σ H' λσ2 H2=>tS own body {D' with nx:=N,ct:=N,bk:=D'.nx} σ2 H2):=by
 refine⟨λi m σ' H'=>m=items.length-i/\i<=items.length/\ItQ K (λa=>¬Own own σ' a) J H' items/\∃ρ',ES own H' σ' ρ'/\mZ t body (items.drop i) ρ'=.ok fl/\kS own D' σ' H' fl,⟨items.length,rfl,eR _,hJ,ρ,E,hf,q⟩,?_⟩;rintro i m σ' H' ⟨rfl,hi,hJ',ρ',E',hf',q'⟩;rcases ow i items.length with hlt|hge
 ·refine .inr ?_;have e:items[i]?=ae items[i]:=dz hlt;obtain⟨g1,g2⟩:=hJ'.go e;rw[gz hlt] at hf';obtain⟨ρ1,h1,hf2⟩:=a_ hf';obtain⟨r,h2,hf3⟩:=a_ hf2;refine⟨g1,λσ2 H2=>ItQ K (λa=>¬Own own σ2 a) J H2 items/\∃ρ',ES own H2 σ2 ρ'/\mZ t body (items.drop (i+1)) ρ'=.ok fl/\kS own D' σ2 H2 fl,λσ2 H2 ⟨n1,n2⟩=>⟨items.length-(i+1),by lia,rfl,hlt,n1,n2⟩,λx H2 hy=>?_⟩;obtain⟨sH,rx⟩:=g2 x H2 hy;have ks:KU own σ' H' σ' H2:=λa o e n=>⟨sH a o e,n⟩
  have hJ':=hJ'.ku ks E';have q':=q'.step ks;have E':=E'.same sH;refine tg x items[i] ρ' ρ1 σ' H2 _ E' rx h1 λσ2 E2 hO=>?_
  have k0:KU own σ' H2 σ2 H2:=λa o e n=>⟨e,by rw[hO];exact n⟩
  have hJ2:=hJ'.ku k0 E';have q2:=q'.step k0;refine⟨ρ1,r,E2,h2,?_⟩;cases r with
  |nx ρ2=>exact λσ3 H3 k3 E3=>⟨hJ2.ku k3 E2,ρ2,E3,hf3,q2.step k3⟩
  |ct ρ2=>exact λσ3 H3 k3 E3=>⟨hJ2.ku k3 E2,ρ2,E3,hf3,q2.step k3⟩
  |bk ρ2=>cases hf3;exact λσ3 H3 k3 E3=>q2 σ3 H3 k3 E3
  |rt d=>cases hf3;exact q2
 ·refine .inl ⟨hJ'.stop hge,?_⟩;rw[rh hge] at hf';cases hf';exact q' σ' H' (λa o e n=>⟨e,n⟩) E'
theorem kZ{tg iter:Expr}{body:aa bo}{g:TG}{t:D->aa D->Res (aa D)}{it:FI}{fb:FS}(hp:ja (ax X.prog X.w) X.A X.env X.xe)(hc:X.calm=af)(hi:PI X tg iter (gI X.K it))(ht:TgS own g t)(hg:PG X tg g)(hb:PSs X body (tS own fb))
 (hs:∀x,eC iter X.env x=pure x:=by intro _;rfl):PS X (.For tg iter body [] pos) (tS own (wJ it t fb)):=PS.imp (HS hp hc hi hg hb hs) λD' σ H z0=>by
 obtain⟨ρ,fl,E,h,q⟩:=z0;obtain⟨⟨items,k⟩,h1,h2⟩:=a_ h;split at h2
 ·rename_i hk;exact⟨ρ,items,k,E.er,h1,λJ H1 s1 _ hJ=>vM ht (E.same s1) ((hJ hk).keep (λ_ _ e _=>e) λa ha ho=>by
   obtain⟨o,e1,_⟩:=E.live ho;rw[show H a=ak from ha] at e1;cases e1) h2 (q.step (.same s1))⟩
 ·exact bx h2
theorem Z8{g:TG}{t:D->aa D->Res (aa D)}{i:ah}{x:Str}{px:bz}{fb:FS}(ho:own i=ai)(hp:ja (ax X.prog X.w) X.A X.env X.xe)(hc:X.calm=af)(hN:X.N[i]?=ae x)(hv:Vis X.env.scope x)(ht:TgS own g t)(hg:PG X tg g)(hb:PSs X body (tS own fb))
 (hs:∀z,eC (.Name x px) X.env z=pure z:=by intro _;rfl)(hd:nDb x:=by decide)(hcd:nCd x:=by decide):PS X (.For tg (.Name x px) body [] pos) (tS own (Y6 i t fb)):=PS.imp (HS hp hc (aK8 hN hv hd hcd) hg hb hs) λD' σ H z0=>by
 obtain⟨ρ,fl,E,h,q⟩:=z0;obtain⟨d,h1,h⟩:=a_ h;obtain⟨items,h2,h3⟩:=a_ h;obtain⟨v,hv,r,e⟩:=E.er.var h1;have hne:ρ.getD i .uD≠.uD:=λz=>by
  rw[z] at e;subst e;exact Rep.uD r
 obtain⟨w,hw,hr⟩:=E.at_ i hne;rw[hv] at hw;cases hw;have r2:=hr ho;rw[e] at r2;exact⟨v,d,items,hv,r,h2,λJ hJ=>vM ht E (hJ _ r2) h3 q⟩
theorem TF{N ps:aa Str}(hst:start N vs=vs.map ae++cz (N.length-ps.length) ak)(hl:ds.length=ps.length)(r:bL All H vs ds)(hown:∀i,i<ps.length->own i=ai)(noown:∀a,¬Own own (start N vs) a):ES own H (start N vs) (ds++cz (N.length-ps.length) .uD):=by
 refine⟨by rw[hst];simp[r.length],λi hi=>?_,λi v hi hv=>?_⟩
 ·have hlt:i<ds.length:=Az λhge=>hi (by
   rw[eu,io hge,ke];split<;>rfl)
  have e:(ds++cz (N.length-ps.length) D.uD).getD i .uD=ds[i]:=by
   rw[eu,jd hlt,dz hlt];rfl
  obtain⟨v,g1,g2⟩:=r.get (i:=i) (d:=ds[i]) (by simp[hlt]);refine⟨v,by rw[hst,jd (by simp[r.length,hlt])];simp[g1],λ_=>?_⟩;rw[e];exact g2.mono λa _=>noown a
 ·exfalso;rw[hst] at hv;by_cases h:i<ps.length
  ·rw[hown i h] at hi;cases hi
  ·rw[io (by simp[r.length,hl];lia)] at hv;rw[ke] at hv;split at hv<;>cases hv
theorem aGo{N ps:aa Str}{f:FS}{vs:aa V}{H:Hp}{Q:VK}{E:XK}(hx:own rtX=ai)(hown:∀i,i<ps.length->own i=ai)(h0:spD (fnS ps.length N.length f) ps.length vs H Q E):tS own f {nx:=λ_ H'=>Q .non H',rt:=Q} (start N vs) H:=by
 obtain⟨ds,d,hl,r,h,q⟩:=h0
 ·obtain⟨fl,h1,h2⟩:=a_ h;have hst:start N vs=vs.map ae++cz (N.length-ps.length) ak:=by
   show vs.map ae++cz (N.length-vs.length) ak=_;rw[r.length,hl]
  have noown:∀a,¬Own own (start N vs) a:=λa z0=>by
   obtain⟨i,hi,e⟩:=z0;rw[hst] at e;by_cases h:i<ps.length
   ·rw[hown i h] at hi;cases hi
   ·rw[io (by simp[r.length,hl];lia)] at e;rw[ke] at e;split at e<;>cases e
  have E0:ES own H (start N vs) (ds++cz (N.length-ps.length) .uD):=TF hst hl r hown noown;refine⟨_,fl,E0,h1,?_⟩;have sm:∀{σ':L2.St}{H':Hp},KU own (start N vs) H σ' H'->b_ H H':=λk a o e=>(k a o e (noown a)).1
  cases fl with
  |nx ρ'=>cases h2;exact λσ' H' k E'=>q .non H' (sm k) .non λ_=>.non
  |rt d'=>
   cases h2;refine kRt.mk hx λv H' hk rp=>q v H' (λa o e=>hk a o e (noown a)) rp.all λ_=>rp.mono λa ha=>?_
   rcases ha with ha|ha
   ·exact bd ha (noown a)
   ·exact ha
  |bk ρ'=>exact bx h2
  |ct ρ'=>exact bx h2
theorem aKc{w:bi}{K:bX}{mg:Str->az aj}{base:aT}{x qual:Str}{st:bo}{fad:al}{fd:eP}{N ps:aa Str}{k:ah}{f:FS}(F:Fun K x qual st fad fd)(S:bR N ps (aQ st))(own:ah->ap)(hown:∀i,i<ps.length->own i=ai)(hNl:ps.length<=N.length)
 (hbody:∀(cdv:aj) (A:bw) (outer:aa dw) (s:ao) (H:Hp) (E:XK),vA k (A.deeper (gd qual (aQ st) s.heap.objs.size fad cdv))->PSs (aC8 CX0 P w K mg base N qual (aQ st) fad cdv A outer s H E).nox (iJ st) (tS own f))(hx:own rtX=ai:=by rfl):U7 P w K mg base CX0 (k+1) fad fd ps (spD (fnS ps.length N.length f) ps.length):=
 F.ok S (λvs H Q E h=>Z1 h) λcdv A outer s H vs Q E hr h=>⟨_,hbody cdv A outer s H E hr,aGo hx hown h⟩
end
end
variable [KFrag]
structure aMx where
 s₀:ao
 H₀:Hp
 env:dw
 outer:aa dw
 stack:aa dw
 ex:aa al
 fn:Str->ap
 pn:aa (al×bb)
abbrev mkC(X:Cx)(scope:fq)(ownN:aa Str)(y:aMx):Cx:=
 {X with N:=X.N.map (h_ ownN)++ownN,s₀:=y.s₀,H₀:=y.H₀,env:={y.env with scope:=ir scope X.env},outer:=y.outer,stack:=y.stack,ex:=y.ex,fn:=y.fn,pn:=y.pn,xe:=λ_ _=>cy}
theorem o_(cc:c7 X X' scope ownN):∃y,X'=mkC X scope ownN y:=by
 refine⟨⟨X'.s₀,X'.H₀,X'.env,X'.outer,X'.stack,X'.ex,X'.fn,X'.pn⟩,?_⟩;obtain⟨h1,h2,h3,h4,h5,h6,h7,h8,h9,h10⟩:=cc;cases X' with
 |mk a b c d e f g h i j k l m n o p q=>
  cases j;dsimp only at *;subst h1 h2 h3 h4 h5 h6 h7 h8 h9 h10;rfl
section
theorem sE(S:dJ X.N X.env.scope scope ownN)(hn:X.N.length=n)(hm:ownN.length=m)(hcalm:X.calm=af)(hi:PI X tg iter (gI X.K it))(ht:TgC g t n m)(hg:∀y,PG (mkC X scope ownN y) tg g)(he:∀y,PE (mkC X scope ownN y) elt (gE fe re))
 (hs:∀x,eC iter X.env x=pure x):PE X (.ListComp elt [⟨tg,iter,[],0⟩] scope pos) (gE (d7 n it t gQ fe re) af):=
 aGj S hn hm hcalm hi ht (λX' cc=>by obtain⟨y,rfl⟩:=o_ cc;exact hg y) (λX' cc=>by obtain⟨y,rfl⟩:=o_ cc;exact he y) hs
theorem V4(S:dJ X.N X.env.scope scope ownN)(hn:X.N.length=n)(hm:ownN.length=m)(hcalm:X.calm=af)(hi:PI X tg iter (gI X.K it))(ht:TgC g t n m)(hg:∀y,PG (mkC X scope ownN y) tg g)(hc:∀y,PT (mkC X scope ownN y) c (gT gc))(he:∀y,PE (mkC X scope ownN y) elt (gE fe re))
 (hs:∀x,eC iter X.env x=pure x):PE X (.ListComp elt [⟨tg,iter,[c],0⟩] scope pos) (gE (d7 n it t gc fe re) af):=
 Z4 S hn hm hcalm hi ht (λX' cc=>by obtain⟨y,rfl⟩:=o_ cc;exact hg y) (λX' cc=>by obtain⟨y,rfl⟩:=o_ cc;exact hc y) (λX' cc=>by obtain⟨y,rfl⟩:=o_ cc;exact he y) hs
theorem DQ(S:dJ X.N X.env.scope scope ownN)(hn:X.N.length=n)(hm:ownN.length=m)(hcalm:X.calm=af)(hi:PI X tg iter (gI X.K it))(ht:TgC g t n m)(hg:∀y,PG (mkC X scope ownN y) tg g)(he:∀y,PE (mkC X scope ownN y) elt (gE fe re))
 (hs:∀x,eC iter X.env x=pure x)(ho:own iy=o)(hNn:X.N.Nodup)(hiy:X.N[iy]?=ae y)(hxy:Loc X.env.scope y)(hfy:X.fn y=af\/X.env.scope.names.lookup y=ae .local)(hsw:eh (.ListComp elt [⟨tg,iter,[],0⟩] scope pos) (ae (.Name y py)) pos2.line X.env=pure af) :
  PS X (.Assign [.Name y py] (.ListComp elt [⟨tg,iter,[],0⟩] scope pos) pos2) (tS own (b8 o iy (d7 n it t gQ fe re) af)):=
 aGm S hn hm hcalm hi ht (λX' cc=>by obtain⟨y,rfl⟩:=o_ cc;exact hg y) (λX' cc=>by obtain⟨y,rfl⟩:=o_ cc;exact he y) hs ho hNn hiy hxy hfy hsw
theorem tX(S:dJ X.N X.env.scope scope ownN)(hn:X.N.length=n)(hm:ownN.length=m)(hcalm:X.calm=af)(hi:PI X tg iter (gI X.K it))(ht:TgC g t n m)(hg:∀y,PG (mkC X scope ownN y) tg g)(hc:∀y,PT (mkC X scope ownN y) c (gT gc))(he:∀y,PE (mkC X scope ownN y) elt (gE fe re))
 (hs:∀x,eC iter X.env x=pure x)(ho:own iy=o)(hNn:X.N.Nodup)(hiy:X.N[iy]?=ae y)(hxy:Loc X.env.scope y)(hfy:X.fn y=af\/X.env.scope.names.lookup y=ae .local)(hsw:eh (.ListComp elt [⟨tg,iter,[c],0⟩] scope pos) (ae (.Name y py)) pos2.line X.env=pure af) :
  PS X (.Assign [.Name y py] (.ListComp elt [⟨tg,iter,[c],0⟩] scope pos) pos2) (tS own (b8 o iy (d7 n it t gc fe re) af)):=
 Z6 S hn hm hcalm hi ht (λX' cc=>by obtain⟨y,rfl⟩:=o_ cc;exact hg y) (λX' cc=>by obtain⟨y,rfl⟩:=o_ cc;exact hc y) (λX' cc=>by obtain⟨y,rfl⟩:=o_ cc;exact he y) hs ho hNn hiy hxy hfy hsw
end
noncomputable def aNz:FS:=λ_=>.bad
theorem aGp{st:aa bo}:PSs X st (tS own aNz):=λΨ s σ H D I h=>by
 obtain⟨_,_,_,h,_⟩:=h;exact bx h
def cG(P:bn)(w:bi)(K:bX)(mg:Str->az aj)(base:aT)(k:ah)(x:Str)(n:ah)(f:aa D->Res D):Prop:=
 ∃(fad:al)(fd:eP)(ps:aa Str),U7 P w K mg base CX0 k fad fd ps (spD f n)/\mg x=ae (.ref fad)/\l6 K (.ref fad)=af/\Binds K fd ps []
section
theorem bF(C:cG X.prog X.w X.K X.mg X.base k x n f)(hr:vA k' X.A)(hkk:k<=k')(hg:Gl X x)(ha:PA X (e::es) (gA fs rr))(hdb:nDb x:=by decide)(he:bp (e::es) X.env=(ai,bP e X.env)::bp es X.env:=by rfl)(hpl:(eJ pos (bp es X.env)).any (·.1)=ai:=by rfl) :
  PE X (.Call (.Name x p) (e::es) [] pos) (gE (aN (cF n f) fs) af):=by
 obtain⟨fad,fd,ps,F,hm,hk,hb⟩:=C;exact aGi F (hr.mono hkk) hg hm hk hb ha hdb he hpl
theorem eU{K:bX}{st:bo}{fad:al}{fd:eP}{N ps:aa Str}{fs:FS}(F:Fun K x x st fad fd)(hm:mg x=ae (.ref fad))(hb:Binds K fd ps [])(S:bR N ps (aQ st))(own:ah->ap)(hown:∀i,i<ps.length->own i=ai)(hNl:ps.length<=N.length)
 (hbody:∀(cdv:aj) (A:bw) (outer:aa dw) (s:ao) (H:Hp) (E:XK),vA k (A.deeper (gd x (aQ st) s.heap.objs.size fad cdv))->PSs (aC8 CX0 P w K mg base N x (aQ st) fad cdv A outer s H E).nox (iJ st) (tS own fs))(hx:own rtX=ai:=by rfl):cG P w K mg base (k+1) x ps.length (fnS ps.length N.length fs):=
 ⟨fad,fd,ps,aKc F S own hown hNl hbody hx,hm,F.kp,hb⟩
end
theorem vN(hr:vA k A):A.units+20<bE:=Aq (Nat.add_le_add_left (by decide:20<=64) _) hr.units
structure Bt(mg:Str->az aj):Prop where
 len:mg "len"=ak
 min:mg "min"=ak
 max:mg "max"=ak
 list:mg "list"=ak
 tuple:mg "tuple"=ak
 sorted:mg "sorted"=ak
 range:mg "range"=ak
 isi:mg "isinstance"=ak
 int:mg "int"=ak
 bool:mg "bool"=ak
 str:mg "str"=ak
 dict:mg "dict"=ak
 all:mg "all"=ak
 enum:mg "enumerate"=ak
 sum:mg "sum"=ak
 zip:mg "zip"=ak
 abs:mg "abs"=ak
 reversed:mg "reversed"=ak
theorem cQ:en "len"=ae (.builtin "len"):=by decide +kernel
theorem zG:en "min"=ae (.builtin "min"):=by decide +kernel
theorem J5:en "max"=ae (.builtin "max"):=by decide +kernel
theorem gB:en "sorted"=ae (.builtin "sorted"):=by decide +kernel
theorem cC:en "isinstance"=ae (.builtin "isinstance"):=by decide +kernel
theorem wY:en "list"=ae (.type "list"):=by decide +kernel
theorem iV:en "tuple"=ae (.type "tuple"):=by decide +kernel
theorem aEr:en "int"=ae (.type "int"):=by decide +kernel
theorem Z9:en "bool"=ae (.type "bool"):=by decide +kernel
theorem aEs:en "str"=ae (.type "str"):=by decide +kernel
theorem ints_rep:∀ns:aa ag,bL P H (ns.map V.int) (ns.map δ)
 |[]=>.nil
 |n::ns=>.cons (.int n) (ints_rep ns)
end Mi
namespace Mi
open PySem L2
theorem Z_{ns:aa ag}{E:XK}(main:∀ns:aa ag,ns.length<=63->f [.scr (ns.map δ)]=.ok (.bl af))(hl:ns.length<=63)(hO:Only H)(hS:SqL K H a (ns.map V.int)):@spD ⟨K⟩ f 1 [.ref a] H (λv _=>v=.bl af) E:=by
 letI:KFrag:=⟨K⟩
 refine⟨[.scr (ns.map δ)],.bl af,rfl,.cons (.frz ?_ (ints_rep ns)) .nil,main ns hl,λv H' s r n=>by cases r.inv;rfl⟩;rcases hS with (h|⟨o,h⟩)|h
 ·rcases hO a with z|⟨o,xs,z⟩
  ·rw[h] at z;cases z
  ·rw[h] at z;cases z
 ·exact .inl ⟨o,h⟩
 ·exact .inr h
end Mi
namespace Mi
universe u
section
variable {α:Type u} {us:aa α}
theorem l1(h:us.length=1):∃a,us=[a]:=List.length_eq_one_iff.mp h
theorem l2(h:us.length=2):∃a b,us=[a,b]:=by
 cases us with
 |nil=>cases h
 |cons a t=>obtain⟨b,rfl⟩:=l1 (ut h);exact⟨a,b,rfl⟩
theorem l3(h:us.length=3):∃a b c,us=[a,b,c]:=by
 cases us with
 |nil=>cases h
 |cons a t=>obtain⟨b,c,rfl⟩:=l2 (ut h);exact⟨a,b,c,rfl⟩
theorem l4(h:us.length=4):∃a b c d,us=[a,b,c,d]:=by
 cases us with
 |nil=>cases h
 |cons a t=>obtain⟨b,c,d,rfl⟩:=l3 (ut h);exact⟨a,b,c,d,rfl⟩
end
open PySem L2 PySem.SeqAt PySem.Spec PyProof.Rows
noncomputable def aKd:D->Res (aa D)
 |.lst xs=>.ok xs
 |_=>.bad
variable [KFrag]
section
variable {X:Cx}
section
variable {a:Expr}
theorem QH{ch:aa al}{a:al}{o:HO}(I:Inv X Ψ σ H s)(k:∀b u,b∉ch->s.heap.get? b=ae u->h'.get? b=ae u)(hf:∀b∈ch,W2 X Ψ H b)(hp:s.heap.objs.size<=a)
 (new:jK X.prog X.w (upd H a o) h' a o):Inv X Ψ σ (upd H a o) {s with heap:=h',toks:=t'}:=by
 have hn:H a=ak:=I.hok.fresh hp;have nch:∀b u,H b=ae u->b∉ch:=λb u e z=>by rw[(hf b z).1] at e;cases e
 have kU:∀b u,H b=ae u->upd H a o b=ae u:=λb u e=>by rw[aX (dI e hn)];exact e
 refine I.step (λb hb=>?_) (λb u _ _ hc e _=>k b u hc e) (λb u _ _ hc e _=>⟨u.slots,k b u hc e⟩) (λb u _ e n=>?_)
  (λb u hc e=>⟨u,k b u hc e⟩) (λb xs e=>kU b _ e) (λb u v e=>kU b _ e) (λb ps e=>⟨#[],by rw[kU b _ e];simp⟩) (λm hm=>?_) (λb u e=>?_) I.bare
 ·obtain⟨_,f1,_,f3,f4,f5⟩:=hf b hb;exact⟨f3,f1,f4,f5⟩
 ·rw[aX (λz=>bd (em (bS e) hp) (by rw[z];exact fj _))];exact n
 ·obtain⟨u,es,ep,hu,r⟩:=hm;exact⟨u,es,ep,k _ u (λz=>(hf _ z).2.1 rfl) hu,r⟩
 ·by_cases hb:b=a
  ·subst hb;rw[aH] at e;cases e;exact new
  ·rw[aX hb] at e;refine(I.hok b u e).stay (λc v hc q=>k c v ?_ q) (λc q=>kU c _ q) λc xs q=>kU c _ q
   rcases hc with z|z
   ·rw[z];exact nch b u e
   ·exact nch c _ z
end
end
end Mi
namespace Mi
open PySem L2
theorem aEt(b:ap):asB (.bl b)=.ok b:=rfl
theorem bA:lim=1000000:=by unfold lim;exact Eq.refl _
theorem J6(h:ρ.length=n):R3 n ρ=ρ:=by
 subst h;apply List.ext_getElem
 ·simp[R3]
 ·intro i h1 h2;simp[R3,h2]
theorem cR(h:ds.length=n):cF n f ds=f ds:=by
 unfold cF;rw[aq (by simp[h])]
theorem aM(h1:a ρ=.ok x)(h2:b ρ=.ok y)(h3:f x y=.ok z):b2 f a b ρ=.ok z:=by
 unfold b2;rw[h1,ε,h2,ε,h3]
theorem bN(h:f ρ=.ok d):b8 ai i f af ρ=.ok (.nx (ρ.set i d)):=by
 unfold b8;rw[h,ε];rfl
theorem tY(h:f ρ=.ok d)(hp:d.pure=af):b8 ai i f ai ρ=.ok (.nx (ρ.set i d)):=by
 unfold b8;rw[h,ε];simp only[hp,mf,c_,b9,cb]
theorem cU(h:f ρ=.ok d)(hp:inner d=af):b8 af i f af ρ=.ok (.nx (ρ.set i d)):=by
 unfold b8;rw[h,ε];simp only[hp,ig,cb]
theorem aMy(h:jZ j ρ=.ok d):sAl i j ρ=.ok (.nx (ρ.set i d)):=by
 unfold sAl;rw[h,ε]
theorem aL(h1:f ρ=.ok (.nx ρ'))(h2:g ρ'=r):bI f g ρ=r:=by
 unfold bI;rw[h1,ε];exact h2
theorem aD7(h1:c ρ=.ok k)(h2:(if k then f ρ else g ρ)=r):sIf c f g ρ=r:=by
 unfold sIf;rw[h1,ε];exact h2
theorem HN(h1:c ρ=.ok af)(h2:f ρ=r):sIf c f g ρ=r:=aD7 h1 (by rw[aq rfl];exact h2)
theorem oG(h1:c ρ=.ok ai)(h2:g ρ=r):sIf c f g ρ=r:=aD7 h1 (by rw[av (by simp)];exact h2)
theorem dC(h1:f ρ=.ok (.bl k)):bTB f ρ=.ok k:=by
 unfold bTB;rw[h1,ε];rfl
theorem aGq(h1:a ρ=.ok af)(h2:b ρ=r):R1 a b ρ=r:=by
 unfold R1;rw[h1,ε,aq rfl,h2]
theorem aD8(h1:a ρ=.ok ai):R1 a b ρ=.ok ai:=by
 unfold R1;rw[h1,ε,av (by simp)];rfl
theorem aO0(h1:a ρ=.ok x)(h2:b ρ=.ok y)(h3:f x y=.ok (.bl af))(h4:c ρ=.ok z)(h5:g y z=r):bCh f g a b c ρ=r:=by
 unfold bCh;rw[h1,ε,h2,ε,h3,ε,aEt,ε,aq rfl,h4,ε,h5]
theorem aOz(h1:a ρ=.ok x)(h2:b ρ=.ok y)(h3:f x y=.ok (.bl ai)):bCh f g a b c ρ=.ok (.bl ai):=by
 unfold bCh;rw[h1,ε,h2,ε,h3,ε,aEt,ε,av (by simp)];rfl
theorem aC(h1:a ρ=.ok x)(h2:b ρ=.ok xs):aD a b ρ=.ok (x::xs):=by
 unfold aD;rw[h1,ε,h2,ε];rfl
theorem aK(h1:a ρ=.ok xs)(h2:f xs=.ok d):aN f a ρ=.ok d:=by
 unfold aN;rw[h1,ε,h2]
theorem dM(h:a ρ=.ok xs)(hl:xs.length<=lim):fQ a ρ=.ok (.tup xs):=by
 unfold fQ;rw[h,ε,aq (cu hl)];rfl
theorem gU(h:f ρ=.ok d)(hp:(k||d.pure)=af):jL f k ρ=.ok (.rt d):=by
 unfold jL;rw[h,ε,aq hp]
theorem mK(h1:it ρ=.ok (xs,af))(h2:mZ t body xs ρ=r):wJ it t body ρ=r:=by
 unfold wJ;rw[h1,ε];exact h2
theorem aA0(h1:jZ i ρ=.ok d)(h2:o7 d=.ok xs)(h3:mZ t body xs ρ=r):Y6 i t body ρ=r:=by
 unfold Y6;rw[h1,ε,h2,ε];exact h3
theorem uK(h:f ρ=.ok [.int n])(h1:0<=n)(h2:n<=1000000):oX f mX ρ=.ok ((cq n.toNat).map λ(k:ah)=>δ (0+(k:ag)),af):=by
 unfold oX;rw[h,ε];have:wG n=af:=by
  simp only[wG,bg,d4];lia
 simp only[mX,this,cb]
theorem sG(h1:g ρ=.ok d)(h2:f ρ=.ok k)(h3:ρ.getD i .uD=.dct kvs)(h4:kvs.length<lim)(h5:o6 kvs k=af)(h6:d.pure=af):wI i f g ρ=.ok (.nx (ρ.set i (.dct (putD kvs k d)))):=by
 unfold wI;rw[h1,ε,h2,ε,h3];simp only[cu h4,h5,h6,ig,cb]
theorem aKe(h1:f ρ=.ok (.int j))(h2:g ρ=.ok d)(h3:ρ.getD i .uD=.lst xs)(h4:xs.length<lim)(h5:d.pure=af)(h6:0<=j)(h7:j<=xs.length):aJx i f g ρ=.ok (.nx (ρ.set i (.lst (xs.take j.toNat++d::xs.drop j.toNat)))):=by
 unfold aJx;rw[h1,ε,h2,ε,h3];simp only[cu h4,h5,cu h6,cu h7,ig,cb]
theorem jT(h1:f ρ=.ok d)(h3:ρ.getD i .uD=.lst xs)(h4:xs.length<lim)(h5:d.pure=af):mY i f ρ=.ok (.nx (ρ.set i (.lst (xs++[d])))):=by
 unfold mY;rw[h1,ε,h3];simp only[cu h4,h5,ig,cb]
theorem iG(h1:t x ρ=.ok ρ1)(h2:body ρ1=.ok (.nx ρ2))(h3:mZ t body xs ρ2=r):mZ t body (x::xs) ρ=r:=by
 rw[mZ,h1,ε,h2,ε];exact h3
theorem qX(L:aa D)(i:ag)(h0:0<=i)(h1:i<L.length):∃(h:i.toNat<L.length),getD (.lst L) (.int i)=.ok L[i.toNat]:=by
 have hlt:i.toNat<L.length:=by lia
 refine⟨hlt,?_⟩;show ι ((ixD L.length i).bind λj=>L[j]?)=_;unfold ixD;rw[aq h0,aq h1];simp only[AA];rw[dz hlt];rfl
theorem jU(L:aa D):dY [.lst L]=.ok (.int L.length):=rfl
theorem iM(h1:it ρ=.ok (xs,kk))(h2:xs.length<=lim)(h3:qR (rT n t c f k ρ) [] xs=.ok ys):d7 n it t c f k ρ=.ok (.lst ys):=by
 unfold d7;rw[h1,ε];simp only[cu h2,cb];rw[h3];rfl
theorem jV{fr:ap}(h1:a ρ=.ok d)(h2:o7 d=.ok xs):cM a fr ρ=.ok (xs,fr||d.pure):=by
 unfold cM;rw[h1,ε,h2,ε];rfl
theorem k_(hρ:ρ.length=n)(h1:c (ρ++[x])=.ok b)(h2:b=af->f (ρ++[x])=.ok y/\(k||y.pure)=af):rT n x_ c f k ρ acc x=.ok (if b then acc++[y] else acc):=by
 unfold rT;show(do let ok <- c (R3 n ρ++[x]);_)=_;rw[J6 hρ,h1,ε];cases b with
 |true=>
  obtain⟨e1,e2⟩:=h2 rfl;rw[aq rfl,e1,ε,aq e2,aq rfl];rfl
 |false=>
  rw[av (by simp),av (by simp)];rfl
theorem lA(g:aa D->D->Res (aa D))(d:α->D)(p:α->ap)(y:α->D)(h:∀acc a,g acc (d a)=.ok (if p a then acc++[y a] else acc)):∀(xs:aa α)(acc:aa D),qR g acc (xs.map d)=.ok (acc++(xs.filter p).map y)
 |[],acc=>by simp[qR]
 |x::xs,acc=>by
  rw[br,qR,h];show qR g _ _=_;rw[lA g d p y h xs];by_cases hp:p x
  ·simp[hp]
  ·simp[hp]
theorem iT(a b:ag):bB .add (.int a) (.int b)=.ok (.int (a+b)):=rfl
theorem aA1(a b:ag)(h:j9 b=af):bB .mul (.int a) (.int b)=.ok (.int (a*b)):=by
 show(if j9 a||j9 b then τ (δ (a*b)) else .bad)=_;rw[h,Bool.or_true,aq rfl]
theorem QJ(a b:ag)(h:j9 a=af):bB .mul (.int a) (.int b)=.ok (.int (a*b)):=by
 show(if j9 a||j9 b then τ (δ (a*b)) else .bad)=_;rw[h,xn,aq rfl]
theorem j6(a b:ag)(h1:0<b)(h2:b<1073741824):bB .fdiv (.int a) (.int b)=.ok (.int (a / b)):=by
 show(if ϒ (0<b)&&ϒ (b<1073741824) then τ (δ (a / b)) else .bad)=_;rw[cu h1,cu h2,ig,aq rfl]
theorem jD(a b:ag)(h1:0<b):bB .mod (.int a) (.int b)=.ok (.int (a % b)):=by
 show(if ϒ (0<b) then τ (δ (a % b)) else .bad)=_;rw[cu h1,aq rfl]
theorem oH(a:ag)(h1:-1000000<=a)(h2:a<=1000000):j9 a=af:=by
 simp only[j9,bg,d4];lia
theorem O7(a b:Str)(h:a.length+b.length<=lim):bB .add (.str a) (.str b)=.ok (.str (a++b)):=by
 show(if ϒ (a.length+b.length<=lim) then τ (ν (a++b)) else .bad)=_;rw[cu h,aq rfl]
theorem str_len(a b:Str):(a++b).length=a.length+b.length:=by
 show(a.cps++b.cps).size=_;rw[AB];rfl
theorem aGr(h1:a.fD aR=af)(h2:b.fD aR=af)(h:gK o a b=ae k):b7 (.ord o) a b=.ok (.bl k):=by
 show(if a.fD aR&&b.fD aR then (match gK o a b with|some k=>τ (π k)|none=>.bad) else .bad)=_;rw[h1,h2,h,ig,aq rfl]
theorem DR(a b:aa D)(h:a.length+b.length<=lim)(ha:θ a=af)(hb:θ b=af):bB .add (.lst a) (.lst b)=.ok (.lst (a++b)):=by
 show(if ϒ (a.length+b.length<=lim)&&θ a&&θ b then τ (ξ (a++b)) else .bad)=_;rw[cu h,ha,hb,ig,ig,aq rfl]
theorem aEu(n:ah)(h:n<=1000):bB .pow (.int 10) (.int n)=.ok (.int (10 ^ n)):=by
 have h1:ϒ ((0:ag)<=(n:ag))=af:=by simp
 have h2:ϒ ((n:ag)<=1000000)=af:=by simp;lia
 have h3:ϒ ((10:ag).natAbs<2 ^ 64)=af:=by decide
 show(if ϒ ((0:ag)<=(n:ag))&&ϒ ((n:ag)<=1000000)&&ϒ ((10:ag).natAbs<2 ^ 64) then τ (δ (10 ^ ((n:ag).toNat))) else .bad)=_;rw[h1,h2,h3,ig,ig,aq rfl,ri]
theorem d8(S:aa ag):θ (S.map δ)=af:=by
 induction S with
 |nil=>rfl
 |cons q Q ih=>rw[br,θ,ih];rfl
theorem aGs(ns:aa ag)(lo hi:az ag):cutD (ns.map δ) lo hi=(cutD ns lo hi).map δ:=by
 unfold cutD;rw[aI,List.map_take,AC]
theorem aGt(ns:aa ag)(lo hi:az ag):(cutD ns lo hi).length<=ns.length:=by
 unfold cutD;exact dn (List.length_take_le' ..) (by rw[iE];lia)
open PySem.W PySem.SeqAt PySem.Spec PyProof.Rows
variable [KFrag]
def yE(a:FA):FE:=λρ=>do let xs <- a ρ;if ϒ (xs.length<=lim)&&θ xs then pure (.lst xs) else .bad
theorem DW{X:Cx}{pos:bz}{es:aa Expr}{f:FA}{r:ap}(h:PA X es (gA f r)):PE X (.List es pos) (gE (yE f) af):=PE.imp (XR h) λσ H Q z0=>by
  obtain⟨ρ,d,E,h,q⟩:=z0;obtain⟨xs,h1,h⟩:=a_ h;split at h
  ·rename_i hl;rw[bg] at hl;cases h;refine⟨ρ,xs,E,h1,λvs H1 s1 r1 n1=>⟨?_,λp hp=>?_⟩⟩
   ·rw[r1.length];exact dn (e9 hl.1) (by rw[eD];decide)
   ·have sp:b_ H1 (upd H1 p (.lst vs)):=b_.upd hp;exact q _ _ (s1.trans sp) (.lst aH trivial (r1.same sp)) λ_=>.lst aH (s1.free hp) ((r1.bU hl.2).same sp)
  ·exact bx h
end Mi
namespace Mi
open PySem L2 PySem.SeqAt PySem.Spec PyProof.Rows
noncomputable def TJ:aa D->Res D
 |[.int n]=>if ϒ (-1000000<=n)&&ϒ (n<=1000000) then .ok (.lst ((cq n.toNat).map λ(k:ah)=>δ k)) else .bad
 |_=>.bad
section
variable [KFrag]
section
theorem zH:∀(n:ah)(f:ah->ag)(xs:aa aj),xs.length=n->(∀(j:ah)(v:aj),xs[j]?=ae v->∃t,v=.int (f j) t)->Vals ((cq n).map λ(k:ah)=>V.int (f k)) xs:=by
 intro n;induction n with
 |zero=>intro f xs hl _;cases xs with|nil=>exact .nil|cons _ _=>simp at hl
 |succ n ih=>
  intro f xs hl h;cases xs with
  |nil=>simp at hl
  |cons x xs=>
   rw[t9,br,df];exact .cons (h 0 x rfl) (ih (λk=>f (k+1)) xs (by simpa using hl) λj v hj=>h (j+1) v (by simpa using hj))
theorem aD9(hc:X.calm=af):lF X (.type "list") (λvs H Q=>∃r n,vs=[.ref r]/\H r=ae (.rng 0 n)/\-1000000<=n/\n<=1000000/\∀q,H q=ak->Q (.ref q) (upd H q (.lst ((cq n.toNat).map λ(k:ah)=>V.int k)))):=by
 rintro Ψ s σ H vs us Q I vr ⟨r,n,e,er,h1,h2,q⟩;subst e;cases vr with
 |cons r1 vr=>
  cases vr;cases r1;obtain⟨t,u,v,hr⟩:=I.hok r _ er;have hn:sB 0 n 1=(n.toNat:ag):=by rw[sC];split<;>lia
  refine AD (I.ok.hd hc) hr (sA (by lia) (by lia) (by lia) (by lia)) hn (by lia) λh' tk acc' c' hk hS' hacc=>?_
  have hfr:H s.heap.objs.size=ak:=I.hok.fresh (ba _);refine⟨.ref s.heap.objs.size,_,I.laid hk (ba _) ?_,rfl,q _ hfr⟩;refine⟨by rw[aI,jw,eD];lia,acc'.toList,c',zH _ (λk=>(k:ag)) _ (by simp[hacc.1]) λj v hj=>?_,by simpa using hS'⟩;obtain⟨t,ht⟩:=hacc.2 j v (by simpa using hj);exact⟨t,by rw[ht];congr 1;lia⟩
theorem wZ:∀(l:aa ah),bL P H (l.map λ(k:ah)=>V.int k) (l.map λ(k:ah)=>δ k)
 |[]=>.nil
 |n::l=>.cons (.int _) (wZ l)
theorem aDa(hc:X.calm=af)(hg:Gl X "list")(hm:X.mg "list"=ak)(hg2:Gl X "range")(hm2:X.mg "range"=ak)(ha:PA X [a] (gA fs rr))(hs:bp [a] X.env=[(ai,bP a X.env)]:=by rfl) :
  PE X (.Call (.Name "list" p) [.Call (.Name "range" p2) [a] [] pos2] [] pos) (gE (aN TJ fs) af):=by
 have hr:PE X (.Call (.Name "range" p2) [a] [] pos2) (λσ H Q=>∃ρ n,ER H σ ρ/\fs ρ=.ok [.int n]/\∀H1 r,b_ H H1->H1 r=ak->Q (.ref r) (upd H1 r (.rng 0 n))):=by
  rintro Ψ s σ H Q I ⟨ρ,n,E,h1,q⟩;refine kb (uF I hg2 hm2 sD ?_);refine l5 (thn (ha pos2 Ψ s σ H (λvs H1=>b_ H H1/\vs=[.int n]) I ⟨ρ,_,E,h1,λvs H1 s1 r1 _=>⟨s1,?_⟩⟩) λus s1 ⟨vs,H1,I1,r1,sm,e⟩=>?_) hs rfl
  ·cases r1 with
   |cons r t=>cases t;cases r.inv;rfl
  ·subst e;cases r1 with
   |cons r t=>
    cases t;obtain⟨t,rfl⟩:=r;have hfr:H1 s1.heap.objs.size=ak:=I1.hok.fresh (ba _);exact wo ⟨.ref s1.heap.objs.size,_,I1.laid (o:=.rng 0 n) (λb o e=>cr _ e) (ba _) ⟨_,_,_,di _ rfl⟩,rfl,q H1 _ sm hfr⟩
 refine PE.imp (v4 (aD9 hc) hg hm wY (i_ hr oZ)) λσ H Q ⟨ρ,d,E,h,q⟩=>?_
 obtain⟨xs,h1,h2⟩:=a_ h;unfold TJ at h2;split at h2
 ·rename_i n;split at h2
  ·rename_i hb;rw[bg] at hb;cases h2;refine⟨ρ,n,E,h1,λH1 r s1 hr=>⟨r,n,rfl,aH,e9 hb.1,e9 hb.2,λq' hq'=>?_⟩⟩;have s2:=b_.upd (o:=.rng 0 n) hr;have s3:=b_.upd (o:=.lst ((cq n.toNat).map λ(k:ah)=>V.int k)) hq';exact q _ _ ((s1.trans s2).trans s3) (.lst aH trivial (wZ _)) λ_=>.lst aH ((s1.trans s2).free hq') (wZ _)
  ·exact bx h2
 ·exact bx h2
end
theorem aDb(ea:∀ob,H a=ae ob->aG8 ob=af)(b:al)(o:HO)(e:H b=ae o)(h:aG8 o=ai):upd H a u b=ae o:=by
 rw[aX λz=>by rw[z] at e;rw[ea _ e] at h;cases h];exact e
theorem J7{P:al->Prop}(ea:∀ob,H a=ae ob->aG8 ob=af)(q:bL P H v d)(h:θ d=af):bL P (upd H a u) v d:=q.JQ (aDb ea) h
end
noncomputable def HQ(c:FT)(body:FS):ah->aa D->Res Fl
 |0,_=>.bad
 |n+1,ρ=>do
  let k <- c ρ
  if k then (do
   let r <- body ρ
   match r with
   |.nx ρ'=>HQ c body n ρ'
   |.ct ρ'=>HQ c body n ρ'
   |.bk ρ'=>.ok (.nx ρ')
   |.rt d=>.ok (.rt d))
  else .ok (.nx ρ)
def aGu(c:FT)(body:FS):FS:=λρ=>HQ c body 1000 ρ
section
variable [KFrag]
section
theorem TQ(hp:ja (ax X.prog X.w) X.A X.env X.xe)(hc:PT X c (gT gc))(hb:PSs X body (tS own fb)):PS X (.While c body [] pos) (tS own (aGu gc fb)):=
 PS.imp (aCg hp hc hb) λD σ H z0=>by
 obtain⟨ρ,fl,E,h,q⟩:=z0;refine⟨λm σ' H'=>∃ρ' ,ES own H' σ' ρ'/\HQ gc fb m ρ'=.ok fl/\kS own D σ' H' fl,⟨1000,ρ,E,h,q⟩,?_⟩;rintro m σ H ⟨ρ,E,h,q⟩;cases m with
 |zero=>exact bx h
 |succ m=>
  rw[HQ] at h;obtain⟨k,h1,h2⟩:=a_ h;refine⟨ρ,k,E.er,h1,λH1 s=>?_⟩;cases k with
  |true=>
   rw[aq rfl];rw[aq rfl] at h2;obtain⟨r,h3,h4⟩:=a_ h2;refine⟨λσ' H'=>∃ρ',ES own H' σ' ρ'/\HQ gc fb m ρ'=.ok fl/\kS own D σ' H' fl,λσ' H' w=>⟨m,jq m,w⟩,ρ,r,E.same s,h3,?_⟩;have q1:=q.step (.same s);cases r with
   |nx ρ'=>exact λσ' H' ku E'=>⟨ρ',E',h4,q1.step ku⟩
   |ct ρ'=>exact λσ' H' ku E'=>⟨ρ',E',h4,q1.step ku⟩
   |bk ρ'=>cases h4;exact λσ' H' ku E'=>q1 σ' H' ku E'
   |rt d=>cases h4;exact q1
  |false=>
   rw[av (by simp)];rw[av (by simp)] at h2;cases h2;exact(q.step (.same s)) σ H1 (λa o e n=>⟨e,n⟩) (E.same s)
end
theorem aKf(h:(cL P w).is k v=af):RelV (kV k) v:=by
 have h:NZ k v=af:=h;rcases cJ h with ⟨i,t,rfl,rfl⟩|⟨x,t,rfl,rfl⟩
 ·exact⟨t,rfl⟩
 ·exact⟨t,rfl⟩
end
variable [KFrag]
section
variable {own:ah->ap}
noncomputable def nC(own:ah->ap)(i:ah):ah->ap:=λj=>own j&&!(j==i)
theorem lB(h:nC own i j=af):own j=af/\j≠i:=by
 unfold nC at h;simpa using h
theorem Own.of(h:Own (nC own i) σ b):Own own σ b:=by
 obtain⟨j,hj,e⟩:=h;exact⟨j,(lB hj).1,e⟩
end
end Mi
namespace Wz
open PySem PySem.Spec
theorem J8:uv table "dict.update.loop"=ae Builtin.«dict.update.loop»:=entryFor_of_tree (by kernel_rfl)
end Wz
namespace Mi
open PySem L2 PySem.SeqAt PySem.Spec PyProof.Rows
section
variable [KFrag]
theorem aDc:en "dict"=ae (.type "dict"):=by decide +kernel
theorem TV(r:Rep P H v d):∀{kvs:aa (Key×V)}{ds:aa (D×D)},kE P H kvs ds->(kvs.map (·.1)).Nodup->kE P H (putK kvs k v) (putD ds (kD k) d)
 |_,_,.nil,_=>.cons r .nil
 |_,_,.cons (k:=k') r' t,hn=>by
  rw[br,dq] at hn;rw[putD,JW];by_cases h:k'=k
  ·rw[DG h (by rw[<-h];exact hn.1),aq (cu h),h];exact .cons r t
  ·rw[DK h,av (by simpa using h)];exact .cons r' (TV r t hn.2)
end
noncomputable def aDd(i j:ah):FS:=λρ=>match ρ.getD i .uD with
 |.lst xs=>(match xs[xs.length-1]? with|some x=>.ok (.nx ((ρ.set i (.lst xs.dropLast)).set j x))|none=>.bad)
 |_=>.bad
def aKg(i:ah)(f:FE):FS:=λρ=>do
 let d <- f ρ
 match ρ.getD i .uD,d with
 |.lst xs,.lst ys=>if ϒ (xs.length+ys.length<=lim)&&θ ys then .ok (.nx (ρ.set i (.lst (xs++ys)))) else .bad
 |_,_=>.bad
section
variable [KFrag]
section
variable {X:Cx} {own:ah->ap} {e:Expr} {fe:FE} {re:ap} {pos:bz}
theorem aGv{i j:ah}{x y:Str}{p1 py apos cpos:bz}(ho:own i=af)(hN:X.N[i]?=ae x)(hv:Vis X.env.scope x)(hnd:X.N.Nodup)(hj:X.N[j]?=ae y)(hy:Loc X.env.scope y)(hoj:own j=ai)(hd:nDb x:=by decide)(hcd:nCd x:=by decide)
 (hbase:jf (.Name x p1) "pop" X.env (bP (.Name x p1) X.env)=bP (.Name x p1) X.env:=by rfl)
 (hline:(apos.endLine==cpos.line)=af:=by rfl)
 (hs:eh (.Call (.Attribute (.Name x p1) "pop" apos) [] [] cpos) (ae (.Name y py)) pos.line X.env=pure ai:=by rfl)(hf:X.fn y=af\/X.env.scope.names.lookup y=ae .local:=by first|exact .inl rfl|exact .inr rfl|assumption) :
  PS X (.Assign [.Name y py] (.Call (.Attribute (.Name x p1) "pop" apos) [] [] cpos) pos) (tS own (aDd i j)):=
 PS.imp (HR hnd hj hy (aJl lu xm PySem.F.type_list_pop aJn (iZ hN hv hd hcd) hbase hline) hs hf) λD' σ H z0=>by
 obtain⟨ρ,fl,E,h,q⟩:=z0;unfold aDd at h;split at h
 ·rename_i xs hx;split at h
  ·rename_i dx hdx;cases h;obtain⟨a,o,hσ,r,hin,ha,hm⟩:=E.ownAt ho (by rw[hx];intro z;cases z);rw[hx] at r hin;obtain⟨vs,hl,rr⟩:=wX r;obtain⟨v,hvx,rv⟩:=rr.get hdx;have hlen:=rr.length;refine⟨_,hσ,.inl ⟨rfl,vs,.of hl⟩,a,vs,v,rfl,rfl,hl,by rw[hlen];exact hvx,?_⟩;have hin':θ xs=af:=hin;have pall:∀y∈xs,y.pure=af:=λy hy=>kO.mp hin' y hy
   have pdx:dx.pure=af:=pall dx (nK hdx);have pe:θ xs.dropLast=af:=kO.mpr λy hy=>pall y (List.dropLast_subset _ hy)
   have er:bL All H vs.dropLast xs.dropLast:=by
    rw[AE,AE,hlen];exact rr.take _
   obtain⟨E2,k2⟩:=E.mut (o:=.lst vs.dropLast) (d:=.lst xs.dropLast) ho hσ rfl (.lst aH trivial (er.upd pe hl rfl)) pe;have r1:=(bL.cons rv .nil).upd (o:=.lst vs.dropLast) (by rw[θ,pdx];rfl) hl rfl;cases r1 with
   |cons r1 _=>
    have E3:=E2.set hoj (v:=v) (d:=dx) (r1.bU pdx);exact q _ _ (k2.trans λb ob eb nb=>⟨eb,by rw[qW hoj];exact nb⟩) E3
  ·exact bx h
 ·exact bx h
theorem aKh{i:ah}{x:Str}{p1 apos cpos:bz}(ho:own i=af)(hN:X.N[i]?=ae x)(hv:Vis X.env.scope x)(he:PE X e (gE fe re))(hd:nDb x:=by decide)(hcd:nCd x:=by decide)
 (hbase:jf (.Name x p1) "extend" X.env (bP (.Name x p1) X.env)=bP (.Name x p1) X.env:=by rfl)
 (hs1:bp [e] X.env=(ai,bP e X.env)::bp [] X.env:=by rfl)
 (hfew:((eJ cpos (bp [e] X.env)).all (λx=>!x.1)&&(k9 cpos (la [] X.env)).all (λx=>x.1.isSome)
  &&ϒ (([e]:aa Expr).length+([]:aa gw).length+(if ([]:aa gw).isEmpty then 0 else 1)<30))=af:=by rfl)
 (hline:(apos.endLine==cpos.line)=af:=by rfl)
 (hs:eh (.Call (.Attribute (.Name x p1) "extend" apos) [e] [] cpos) ak pos.line X.env=pure ai:=by rfl) :
  PS X (.Expr (.Call (.Attribute (.Name x p1) "extend" apos) [e] [] cpos) pos) (tS own (aKg i fe)):=
 PS.imp (vX (X6 lu nX AF X7 (iZ hN hv hd hcd) (i_ he oZ hs1) hbase hfew hline hs1 rfl) hs) λD' σ H z0=>by
 obtain⟨ρ,fl,E,h,q⟩:=z0;obtain⟨d,h1,h2⟩:=a_ h;split at h2
 ·rename_i xs ys hx;split at h2
  ·rename_i hk;cases h2;rw[bg,d4] at hk;obtain⟨a,o,hσ,r,hin,ha,hm⟩:=E.ownAt ho (by rw[hx];intro z;cases z);rw[hx] at r hin;obtain⟨vs,hl,rr⟩:=wX r;refine⟨_,hσ,.inl ⟨rfl,vs,.of hl⟩,ρ,_,E.er,h1,λv H' s rv _=>?_⟩;obtain⟨b,zs,rfl,hb,_,rz⟩:=rv.inv;have E':=E.same s;have hl':=s _ _ hl;refine⟨a,b,vs,zs,rfl,rfl,hl',hb,by rw[rr.length,rz.length];exact dn hk.1 (by rw[eD];decide),?_⟩;have hp:θ (xs++ys)=af:=by rw[nA,bg];exact⟨hin,hk.2⟩
   obtain⟨E2,k2⟩:=E'.mut (o:=.lst (vs++zs)) (d:=.lst (xs++ys)) ho hσ rfl (.lst aH trivial (((rr.same s).append rz).upd hp hl' rfl)) hp;exact q _ _ ((KU.same s).trans k2) E2
  ·exact bx h2
 ·exact bx h2
end
end
open PySem.W
def W4(h:aT)(d:al)(es:aw ip)(ep:ah):Prop:=∃o,h.get? d=ae o/\o.ExactDict/\o.data=.dict es ep
theorem W4.ty{s:ao}{d:al}{es:aw ip}{ep:ah}(x:W4 s.heap d es ep):s.TypeIs (.ref d) "dict":=let ⟨o,e,c,_⟩:=x;⟨o,e,c.1⟩
theorem W4.at{h h':aT}{d:al}{es:aw ip}{ep:ah}(x:W4 h d es ep)(k:∀o,h.get? d=ae o->h'.get? d=ae o):W4 h' d es ep:=let ⟨o,e,r⟩:=x;⟨o,k o e,r⟩
section
variable {prog:bn} {w:bi} {A:bw} {E:aj->ao->Prop} {s:ao} {d it:al} {es:aw ip} {ep i:ah}
theorem aDe{Q:aj->ao->Prop}(hd:(d==fi)=ai)(x:W4 s.heap d es ep)(q:Q (.ref s.heap.objs.size) {s with heap:=s.heap.push {cls:=.type "dict_keyiterator",data:=.fields #[.ref d,.int 0 0,.int es.size 0,.int ep 0]}}):ϑ (ax prog w) A (fS (.ref d)) Q E s:=by
 have T:=x.ty;obtain⟨o,e1,e2,e3⟩:=x;refine wpAny_pyIter_slot T AG (l7 AG T F.entry_dict_iter (?_:ϑ _ _ (Builtin.«dict.__iter__» _) _ _ _) (F.args_dict_iter_1 _));unfold Builtin.«dict.__iter__» B0 B1;refine ay (ay (AH T (?_:ϑ _ _ (pure (fI d)) _ _ s)));refine bf (?_:ϑ _ _ ((if d==fi then _ else _) >>= _) _ _ s);rw[av (by rw[hd];simp)];refine ay (bf (ay (uz e1 e3 (ay (uS e1 e3 ?_)))));exact ay (fw (bf ⟨_,rfl,"dict_keyiterator",_,⟨_,di _ rfl,rfl⟩,nq.lookup,q⟩))
theorem aDf{Q:az aj->ao->Prop}(y:s.heap.IsKeyIter it d i es.size ep)(x:W4 s.heap d es ep)(hi:i<es.size)(q:∀h',h'.IsKeyIter it d (i+1) es.size ep->kM it s.heap h'->Q (ae es[i].key) {s with heap:=h'}):ϑ (ax prog w) A (fu (.ref it)) Q E s:=by
 have T:=y.typeIs;obtain⟨o,o1,o2,o3⟩:=y;obtain⟨od,e1,e2,e3⟩:=x;have own:AI "dict_keyiterator"=ai:=by decide
 unfold fu;refine ay (uh (sT (name:=s_ "__next__") T nq (l7 nq T AJ ?_ (AK _))));refine ay (bf (ay (ay ?_)))
 first|refine ay (rm T (bf (ay (rn o1 o3 ?_))))|refine ay (ro T (bf (ay (rn o1 o3 ?_))))
 rw[own];refine(?_:ϑ _ _ (ite ((fI d==jy)=af) _ _) _ _ s);rw[av (by intro z;cases z)];refine ay (bf (ay (uz e1 e3 ?_)));rw[av (by simp)];refine ay (bf (ay (uS e1 e3 ?_)));rw[av (by simp)];refine bf ?_;simp only[show ¬((i:ag)<0) from by lia,b9,ri,AL hi];refine ay ?_
 first|refine ay (rm T (bf (ay (u7 T ?_))))|refine ay (ro T (bf (ay (u7 T ?_))))
 refine ay (m:=setField (.ref it) 1 (gX ((i:ag)+1))) (AM o1 o3 (by simp) ?_);have z:(s.heap.update it (AN (·.setIfInBounds 1 (gX ((i:ag)+1))))).IsKeyIter it d (i+1) es.size ep:=⟨_,ni _ o1 (Obj.isFreed_of_fields (AO o3 _)),(Obj.cls_mapFields ..).trans o2,by rw[AO o3];simp[gX]⟩
 refine ay (gv (ay (u7 (s:={s with heap:=s.heap.update it (AN (·.setIfInBounds 1 (gX ((i:ag)+1))))}) z.typeIs (?_:ϑ _ _ (pure es[i].key) _ _ _))));exact bf (bf ⟨_,rfl,bf (q _ z (AQ ..))⟩)
theorem aGw{Q:az aj->ao->Prop}(hh:A.handled=ak)(y:s.heap.IsKeyIter it d i es.size ep)(x:W4 s.heap d es ep)(hi:es.size<=i)(q:∀h',AR it s.heap h'->Q ak {s with heap:=h'}):ϑ (ax prog w) A (fu (.ref it)) Q E s:=by
 have T:=y.typeIs;obtain⟨o,o1,o2,o3⟩:=y;obtain⟨od,e1,e2,e3⟩:=x;have own:AI "dict_keyiterator"=ai:=by decide
 unfold fu;refine ay (uh (sT (name:=s_ "__next__") T nq (l7 nq T AJ ?_ (AK _))));refine ay (bf (ay (ay ?_)))
 first|refine ay (rm T (bf (ay (rn o1 o3 ?_))))|refine ay (ro T (bf (ay (rn o1 o3 ?_))))
 rw[own];refine(?_:ϑ _ _ (ite ((fI d==jy)=af) _ _) _ _ s);rw[av (by intro z;cases z)];refine ay (bf (ay (uz e1 e3 ?_)));rw[av (by simp)];refine ay (bf (ay (uS e1 e3 ?_)));rw[av (by simp)];refine bf ?_;simp only[show ¬((i:ag)<0) from by lia,b9,ri,va hi];refine ay ?_
 first|refine ay (rm T (bf ?_))|refine ay (ro T (bf ?_))
 refine ay (m:=setField (.ref it) 0 .none) (AM o1 o3 (by simp) (ay (m:=newExc (.type "StopIteration") []) ?_));simp only[newExc,uo];refine ay (fw (ay (m:=AS _ _) (lr (a:=jy) (by first|rfl|(simp only[AS];rfl)) (fw ?_ (by size_fits)))) (by size_fits));simp only[raiseNew];have hh':A.in1.handled=ak:=hh;refine ay (wpAny_handled ?hd);rw[hh'];refine ay (bf (wpAny_throw ?thrown));refine ay (wpAny_isInstance (b:=af) (T:= "StopIteration") ⟨_,di _ rfl,rfl⟩ isSubtype_stop ?_);exact bf (q _ (((AQ ..).extBut.push _).push _))
theorem aA2(hh:A.handled=ak)(I d:al)(hne:d≠I)(es:aw ip)(ep:ah):Walks prog w A I [I,d] [I] es.size (λi v=>∃h:i<es.size,v=es[i].key) (λi h=>h.IsKeyIter I d i es.size ep/\W4 h d es ep) where
 sub:=λb hb=>bm.mpr (.inl (eI.mp hb))
 frame:=λ_ _ _ st hk=>⟨Heap.IsKeyIter.at st.1 λo e=>hk I (by simp) o e,st.2.at λo e=>hk d (by simp) o e⟩
 item:=λi s Q E hi st hQ=>aDf st.1 st.2 hi λh' z sb=>hQ _ h' s.toks ⟨hi,rfl⟩ ⟨z,st.2.at λo e=>sb.extBut d o hne e⟩ λb o hb e=>sb.extBut b o (λh=>hb (by simp[h])) e
 done:=λs Q E st hQ=>aGw hh st.1 st.2 (ba _) λh' ex=>hQ h' s.toks λb o hb e=>ex b o (λh=>hb (by simp[h])) e
 self:=λ_ _ _ _ at_ q=>wpAny_pyIter_keyiter at_.1 q
end
section
variable {prog:bn} {w:bi} {A:bw} {E:aj->ao->Prop} {s:ao} {r:al}
def aMz(s:ao)(F:aw aj->Prop)(q:kQ)(s':ao):Prop:=∃(h':aT)(tk:ah)(acc:aw aj)(c:ah),q=.ok (.ret (.ref s.heap.objs.size))/\s'={s with heap:=h',toks:=tk}/\(∀b o,s.heap.get? b=ae o->h'.get? b=ae o)/\h'.get? s.heap.objs.size=ae {cls:=.type "list",dict:=ak,data:=.seq acc c,slots:=#[]}/\F acc
theorem aGx{Q:aa aj->ao->Prop}{F:aw aj->Prop}
 (key:ϑ (ax prog w) A.in1 (AT (.ref s.heap.objs.size) (.ref r) (.ref s.heap.objs.size)) (λfin s'=>match fin with|.done f=>aMz s F (.ok f) s'|.again c'=>c'.quiet=af/\codeAny (ax prog w) A c' (aMz s F) s') (λe s'=>aMz s F (.error e) s') {s with heap:=s.heap.push {cls:=.type "list",data:=.seq ([]:aa aj).toArray}})
 (q:∀h' tk acc,(∀b o,s.heap.get? b=ae o->h'.get? b=ae o)->s.heap.objs.size<=h'.objs.size->F acc->Q acc.toList {s with heap:=h',toks:=tk}):ϑ (ax prog w) A (mT (.ref r)) Q E s:=by
 have last:∀{h':aT}{tk:ah}{acc:aw aj}{c:ah},(∀b o,s.heap.get? b=ae o->h'.get? b=ae o)->h'.get? s.heap.objs.size=ae {cls:=.type "list",dict:=ak,data:=.seq acc c,slots:=#[]}->F acc->ϑ (ax prog w) A (load s.heap.objs.size >>= λo=>match o.data with|.seq xs _=>pure xs.toList|_=>unsupported "internal:collect") Q E {s with heap:=h',toks:=tk}:=λkp at_ f=>ay (wpAny_load at_ (bf (q _ _ _ kp (lI (bS at_)) f)))
 unfold mT;refine ay (wpAny_runValue (gn entry_proto_collect' (?_:ϑ _ _ (t5 [] >>= λl=>again (.builtin "list.__iadd__" ⟨[l,.ref r],[]⟩)) _ _ s)));rw[gS PySem.F.plain_proto_collect];refine ay (fw (bf ⟨gj AU _,gn entry_list_iadd' (?_:ϑ _ _ (AT _ _ _) _ _ _)⟩));rw[gS AU];refine eL key (λfin s' x=>?_) λe s' ⟨_,_,_,_,z,_⟩=>nomatch z
 cases fin with
 |done f=>
  obtain⟨h',tk,acc,c,e,rfl,kp,at_,f⟩:=x;cases e;exact last kp at_ f
 |again c1=>
  refine⟨x.1,k5 x.2 λp s2 y=>?_⟩;obtain⟨h',tk,acc,c,rfl,rfl,kp,at_,f⟩:=y;exact last kp at_ f
theorem aGy{d:al}{es:aw ip}{ep:ah}(lo:(d==fi)=ai):KdlSrc prog w "dict" d d es.size (λi v=>∃h:i<es.size,v=es[i].key) (λh=>W4 h d es ep) where
 type:=λ_ x=>x.ty
 there:=λh x=>by obtain⟨o,e,_⟩:=x;exact⟨bS e,bS e⟩
 keep:=λ_ _ x k=>x.at λo e=>k d (.inl rfl) o e
 notList:=rfl
 notTuple:=rfl
 hint:=λ_ _ _ _ x q=>kdl_hint_dict x.ty q
 iter:=λ_ s hh x=>⟨_,_,λ_ _ q=>aDe lo x q,aA2 hh _ d (by obtain⟨o,e,_⟩:=x;exact c9 (bS e)) es ep,⟨_,di _ rfl,rfl,rfl⟩,x.at λo e=>cr _ e⟩
theorem aA3{Q:aa aj->ao->Prop}{d:al}{es:aw ip}{ep:ah}(hh:A.handled=ak)(lo:(d==fi)=ai)(x:W4 s.heap d es ep)(hz:es.size<=bj)
 (q:∀h' tk,(∀b o,s.heap.get? b=ae o->h'.get? b=ae o)->s.heap.objs.size<=h'.objs.size->Q (es.toList.map (·.key)) {s with heap:=h',toks:=tk}):ϑ (ax prog w) A (mT (.ref d)) Q E s:=by
 have lt:d<s.heap.objs.size:=by obtain⟨o,e,_⟩:=x;exact bS e
 refine aGx (F:=λacc=>acc.toList=es.toList.map (·.key)) (kdl_extend (aGy (prog:=prog) (w:=w) (es:=es) (ep:=ep) lo) hh (x.at λo e=>cr _ e) s.heap.objs.size (jS lt) (jS lt) _ 0 (di _ rfl) (λh' tk acc c kp at_ it=>⟨h',tk,acc,c,rfl,rfl,λb o e=>kp b o (c9 (bS e)) (cr _ e),at_,?_⟩) hz) λh' tk acc kp sz e=>by rw[e];exact q h' tk kp sz
 refine List.ext_getElem? λi=>?_
 by_cases hi:i<es.size
 ·obtain⟨v,hv⟩:∃v,acc[i]?=ae v:=⟨acc[i]'(by rw[it.1];exact hi),by simp[it.1,hi]⟩
  obtain⟨_,e⟩:=it.2 i v hv;rw[hI,hv,e,kf,hI,AL hi];rfl
 ·rw[hI,va (by rw[it.1];lia),AV (by simpa using hi)]
end
variable [KFrag]
section
variable {X:Cx}
theorem aKi{H:Hp}{s:ao}{Ψ:aa (al×bb)}{σ:L2.St}{a:al}{kvs:aa (aa Key×V)}(I:Inv X Ψ σ H s)(e:H a=ae (.dT kvs)):∃(es:aw ip)(ep:ah)(xs:aa (aa Key×al×aj)),W4 s.heap a es ep/\(a==fi)=ai/\kvs.length<=bj/\KT H kvs xs/\es.toList=xs.map (entryOfKey (kG (cL X.prog X.w))):=by
 obtain⟨z,hd,xs,rel,o,es,ep,h1,h2,h3,h4,_⟩:=aCm I.hok e;exact⟨es,ep,xs,⟨o,h1,h2,h3⟩,hd,z,rel,h4⟩
end
end Mi
namespace Mi
open PySem L2 PySem.SeqAt PySem.Spec PyProof.Rows
def aA4(d k e:D):Res D:=
 match d,k with
 |.lst xs,.int j=>match (ixD xs.length j).bind λn=>(xs[n]?).map λy=>(n,y) with
  |some (n,.lst ys)=>if ϒ (ys.length<lim)&&e.pure then .ok (.lst (xs.set n (.lst (ys++[e])))) else .bad
  |_=>.bad
 |.dct kvs,k=>if fB k then (match bG kvs k with
  |some (.lst ys)=>if ϒ (ys.length<lim)&&e.pure then .ok (.dct (putD kvs k (.lst (ys++[e])))) else .bad
  |_=>.bad) else .bad
 |_,_=>.bad
def QK(i:ah)(fk fe:FE):FS:=λρ=>do
 let d <- jZ i ρ
 let k <- fk ρ
 let e <- fe ρ
 let r <- aA4 d k e
 .ok (.nx (ρ.set i r))
noncomputable def aO1(i:ah)(d:D):FS:=λρ=>.ok (.nx (ρ.set i d))
section
variable [KFrag]
noncomputable abbrev Cel:=ah->az (al×aa al)
def uW(c:Cel)(a:al):Prop:=∃i b as,c i=ae (b,as)/\a∈b::as
inductive InL(H:Hp):aa V->aa D->aa al->Prop
 |nil:InL H [] [] []
 |cons {a:al} {vs:aa V} {ds:aa D} {r:aa V} {es:aa D} {as:aa al}:H a=ae (.lst vs)->bL All H vs ds->θ ds=af->InL H r es as->InL H (.ref a::r) (.lst ds::es) (a::as)
inductive InK(H:Hp):aa (Key×V)->aa (D×D)->aa al->Prop
 |nil:InK H [] [] []
 |cons {k:Key} {a:al} {vs:aa V} {ds:aa D} {r:aa (Key×V)} {es:aa (D×D)} {as:aa al}:H a=ae (.lst vs)->bL All H vs ds->θ ds=af->InK H r es as->InK H ((k,.ref a)::r) ((kD k,.lst ds)::es) (a::as)
inductive InA(H:Hp)(as:aa al):aa V->aa D->Prop
 |nil:InA H as [] []
 |cons {a:al} {vs:aa V} {ds:aa D} {r:aa V} {es:aa D}:a∈as->H a=ae (.lst vs)->bL All H vs ds->θ ds=af->InA H as r es->InA H as (.ref a::r) (.lst ds::es)
noncomputable def aKj:HO->ap
 |.lst _=>af
 |.dK _=>af
 |_=>ai
theorem aA5{o:HO}(h:aKj o=af):uV o=af:=by cases o<;>first|rfl|cases h
inductive xF(q:ap)(H:Hp)(b:al)(as:aa al):D->Prop
 |lst {vs:aa V} {ds:aa D}:H b=ae (.lst vs)->InL H vs ds as->xF q H b as (.lst ds)
 |dct {kvs:aa (Key×V)} {ds:aa (D×D)}:H b=ae (.dK kvs)->InK H kvs ds as->(kvs.map (·.1)).Nodup->xF q H b as (.dct ds)
 |pln {d:D} {o:HO}:as=[]->H b=ae o->aKj o=af->Rep All H (.ref b) d->inner d=af->xF q H b as d
 |any {vs:aa V} {ds:aa D}:q=af->H b=ae (.lst vs)->InA H as vs ds->(∀a∈as,∃ws,H a=ae (.lst ws))->xF q H b as (.lst ds)
section
variable {H H':Hp} {vs:aa V} {ds:aa D} {as:aa al} {kvs:aa (Key×V)} {es:aa (D×D)}
theorem InL.reps(h:InL H vs ds as):bL All H vs ds:=by
 induction h with
 |nil=>exact .nil
 |cons e r p t ih=>exact .cons (.lst e trivial r) ih
theorem InK.reps(h:InK H kvs es as):kE All H kvs es:=by
 induction h with
 |nil=>exact .nil
 |cons e r p t ih=>exact .cons (.lst e trivial r) ih
theorem InL.same(h:InL H vs ds as)(s:b_ H H'):InL H' vs ds as:=by
 induction h with
 |nil=>exact .nil
 |cons e r p t ih=>exact .cons (s _ _ e) (r.same s) p ih
theorem InK.same(h:InK H kvs es as)(s:b_ H H'):InK H' kvs es as:=by
 induction h with
 |nil=>exact .nil
 |cons e r p t ih=>exact .cons (s _ _ e) (r.same s) p ih
theorem InL.live(h:InL H vs ds as):∀a∈as,∃ws,H a=ae (.lst ws):=by
 induction h with
 |nil=>intro a ha;cases ha
 |cons e r p t ih=>
  intro a ha;rcases bm.mp ha with rfl|ha
  ·exact⟨_,e⟩
  ·exact ih a ha
theorem InK.live(h:InK H kvs es as):∀a∈as,∃ws,H a=ae (.lst ws):=by
 induction h with
 |nil=>intro a ha;cases ha
 |cons e r p t ih=>
  intro a ha;rcases bm.mp ha with rfl|ha
  ·exact⟨_,e⟩
  ·exact ih a ha
theorem InL.upd{x:al}{o u:HO}(h:InL H vs ds as)(hx:x∉as)(hu:H x=ae u)(hm:uV u=af):InL (upd H x o) vs ds as:=by
 induction h with
 |nil=>exact .nil
 |cons e r p t ih=>
  rw[bm,hX] at hx;exact .cons (by rw[aX (Ne.symm hx.1)];exact e) (r.upd p hu hm) p (ih hx.2)
theorem InK.upd{x:al}{o u:HO}(h:InK H kvs es as)(hx:x∉as)(hu:H x=ae u)(hm:uV u=af):InK (upd H x o) kvs es as:=by
 induction h with
 |nil=>exact .nil
 |cons e r p t ih=>
  rw[bm,hX] at hx;exact .cons (by rw[aX (Ne.symm hx.1)];exact e) (r.upd p hu hm) p (ih hx.2)
theorem aDg{ds:aa D}{n:ah}{y:D}(h:θ ds=af)(hn:ds[n]?=ae y):y.pure=af:=by
 induction ds generalizing n with
 |nil=>simp at hn
 |cons d ds ih=>
  rw[θ,bg] at h;cases n with
  |zero=>simp at hn;subst hn;exact h.1
  |succ n=>exact ih h.2 (by simpa using hn)
theorem lQ{ds:aa D}{d:D}(h:θ ds=af)(hd:d.pure=af):θ (ds++[d])=af:=by
 rw[nA];simp only[bg];exact⟨h,by simp[θ,hd]⟩
theorem aA6{kvs:aa (D×D)}{k y:D}(h:θ (kvs.map (·.2))=af)(hl:bG kvs k=ae y):y.pure=af:=by
 induction kvs with
 |nil=>cases hl
 |cons p r ih=>
  rw[br,θ,bg] at h;rw[bG] at hl;split at hl
  ·cases hl;exact h.1
  ·exact ih h.2 hl
theorem InL.at_{n:ah}{y:D}(h:InL H vs ds as)(hn:ds[n]?=ae y)(nd:as.Nodup):∃a ws ys,y=.lst ys/\vs[n]?=ae (.ref a)/\a∈as/\H a=ae (.lst ws)/\bL All H ws ys/\
  ∀(H':Hp)(v:V)(e:D),b_ H H'->Rep All H' v e->e.pure=af->InL (L2.upd H' a (.lst (ws++[v]))) vs (ds.set n (.lst (ys++[e]))) as:=by
 induction h generalizing n with
 |nil=>simp at hn
 |@cons a ws ys r es as e rr p t ih=>
  rw[dq] at nd;cases n with
  |zero=>
   simp only[List.getElem?_cons_zero,ii] at hn;subst hn;refine⟨a,ws,ys,rfl,rfl,bu ..,e,rr,λH' v d sm rv hd=>?_⟩;exact .cons aH (((rr.same sm).snoc rv).upd (lQ p hd) (sm _ _ e) rfl) (lQ p hd) ((t.same sm).upd nd.1 (sm _ _ e) rfl)
  |succ n=>
   rw[AW] at hn;obtain⟨a',ws',ys',h1,h2,h3,h4,h5,h6⟩:=ih hn nd.2;refine⟨a',ws',ys',h1,by rw[AW];exact h2,bq _ h3,h4,h5,λH' v d sm rv hd=>?_⟩;have hne:a≠a':=λz=>by subst z;exact nd.1 h3
   exact .cons (by rw[aX hne];exact sm _ _ e) ((rr.same sm).upd p (sm _ _ h4) rfl) p (h6 H' v d sm rv hd)
theorem InK.at_{k:Key}{y:D}(h:InK H kvs es as)(hn:bG es (kD k)=ae y)(nd:as.Nodup):∃a ws ys,y=.lst ys/\rH kvs k=ae (.ref a)/\a∈as/\H a=ae (.lst ws)/\bL All H ws ys/\
  ∀(H':Hp)(v:V)(e:D),b_ H H'->Rep All H' v e->e.pure=af->InK (L2.upd H' a (.lst (ws++[v]))) kvs (putD es (kD k) (.lst (ys++[e]))) as:=by
 induction h with
 |nil=>cases hn
 |@cons q a ws ys r es as e rr p t ih=>
  rw[dq] at nd;rw[bG,JW] at hn;by_cases hq:q=k
  ·subst hq;rw[cu rfl,aq rfl] at hn;cases hn;refine⟨a,ws,ys,rfl,?_,bu ..,e,rr,λH' v d sm rv hd=>?_⟩
   ·simp[rH]
   ·rw[putD,JW,cu rfl,aq rfl];exact .cons aH (((rr.same sm).snoc rv).upd (lQ p hd) (sm _ _ e) rfl) (lQ p hd) ((t.same sm).upd nd.1 (sm _ _ e) rfl)
  ·rw[c6 hq,av (by simp)] at hn;obtain⟨a',ws',ys',h1,h2,h3,h4,h5,h6⟩:=ih hn nd.2;have hne:a≠a':=λz=>by subst z;exact nd.1 h3
   refine⟨a',ws',ys',h1,?_,bq _ h3,h4,h5,λH' v d sm rv hd=>?_⟩
   ·rw[<-h2];simp[rH,hq]
   ·rw[putD,JW,c6 hq,av (by simp)];exact .cons (by rw[aX hne];exact sm _ _ e) ((rr.same sm).upd p (sm _ _ h4) rfl) p (h6 H' v d sm rv hd)
theorem InA.reps(h:InA H as vs ds):bL All H vs ds:=by
 induction h with
 |nil=>exact .nil
 |cons m e r p t ih=>exact .cons (.lst e trivial r) ih
theorem InA.same(h:InA H as vs ds)(s:b_ H H'):InA H' as vs ds:=by
 induction h with
 |nil=>exact .nil
 |cons m e r p t ih=>exact .cons m (s _ _ e) (r.same s) p ih
theorem InA.upd{x:al}{o u:HO}(h:InA H as vs ds)(hx:x∉as)(hu:H x=ae u)(hm:uV u=af):InA (upd H x o) as vs ds:=by
 induction h with
 |nil=>exact .nil
 |cons m e r p t ih=>exact .cons m (by rw[aX (λz=>hx (by rw[<-z];exact m))];exact e) (r.upd p hu hm) p ih
theorem Rep.aP0{b x:al}{d:D}{o u:HO}(r:Rep All H (.ref b) d)(hi:inner d=af)(hx:x≠b)(hu:H x=ae u)(hm:uV u=af):Rep All (L2.upd H x o) (.ref b) d:=by
 refine(r.aIo (P':=λc=>c=b) hi rfl).keep (λc oc hc hp=>?_) λ_ _=>trivial
 rw[aX]
 ·exact hc
 ·intro z;subst z;rcases hp with hp|hp
  ·exact hx hp
  ·rw[hu] at hc;cases hc;rw[hm] at hp;cases hp
variable {qb:ap}
theorem xF.rep{b:al}{d:D}(h:xF qb H b as d):Rep All H (.ref b) d:=by
 cases h with
 |lst e i=>exact .lst e trivial i.reps
 |dct e i n=>exact .dK e trivial i.reps n
 |pln z e m r p=>exact r
 |any z e i l=>exact .lst e trivial i.reps
theorem xF.same{b:al}{d:D}(h:xF qb H b as d)(s:b_ H H'):xF qb H' b as d:=by
 cases h with
 |lst e i=>exact .lst (s _ _ e) (i.same s)
 |dct e i n=>exact .dct (s _ _ e) (i.same s) n
 |pln z e m r p=>exact .pln z (s _ _ e) m (r.same s) p
 |any z e i l=>exact .any z (s _ _ e) (i.same s) λa ha=>let ⟨ws,h⟩:=l a ha;⟨ws,s _ _ h⟩
theorem xF.live{b:al}{d:D}(h:xF qb H b as d):∀a∈b::as,∃o,H a=ae o/\uV o=af:=by
 intro a ha;cases h with
 |lst e i=>
  rcases bm.mp ha with rfl|ha
  ·exact⟨_,e,rfl⟩
  ·obtain⟨ws,h⟩:=i.live a ha;exact⟨_,h,rfl⟩
 |dct e i n=>
  rcases bm.mp ha with rfl|ha
  ·exact⟨_,e,rfl⟩
  ·obtain⟨ws,h⟩:=i.live a ha;exact⟨_,h,rfl⟩
 |pln z e m r p=>
  subst z;rw[eI.mp ha];exact⟨_,e,aA5 m⟩
 |any z e i l=>
  rcases bm.mp ha with rfl|ha
  ·exact⟨_,e,rfl⟩
  ·obtain⟨ws,h⟩:=l a ha;exact⟨_,h,rfl⟩
theorem xF.upd{b x:al}{d:D}{o u:HO}(h:xF qb H b as d)(hx:x∉b::as)(hu:H x=ae u)(hm:uV u=af):xF qb (L2.upd H x o) b as d:=by
 rw[bm,hX] at hx;cases h with
 |lst e i=>exact .lst (by rw[aX (Ne.symm hx.1)];exact e) (i.upd hx.2 hu hm)
 |dct e i n=>exact .dct (by rw[aX (Ne.symm hx.1)];exact e) (i.upd hx.2 hu hm) n
 |pln z e m r p=>exact .pln z (by rw[aX (Ne.symm hx.1)];exact e) m (r.aP0 p hx.1 hu hm) p
 |any z e i l=>exact .any z (by rw[aX (Ne.symm hx.1)];exact e) (i.upd hx.2 hu hm) λa ha=>let ⟨ws,h⟩:=l a ha;⟨ws,by rw[aX (λz=>hx.2 (by rw[<-z];exact ha))];exact h⟩
end
structure NQ(S:ah->ap)(c:Cel)(H:Hp)(σ:L2.St)(ρ:aa D):Prop where
 len:σ.length=ρ.length
 dom:∀i p,c i=ae p->S i=af
 nd:∀i b as,c i=ae (b,as)->(b::as).Nodup
 dj:∀i j b as b' as',i≠j->c i=ae (b,as)->c j=ae (b',as')->∀a∈b::as,a∉b'::as'
 at_:∀i,ρ.getD i .uD≠.uD->∃v,σ[i]?=ae (ae v)/\(S i=ai->Rep (λa=>¬uW c a) H v (ρ.getD i .uD))
 nst:∀i b as,c i=ae (b,as)->σ[i]?=ae (ae (.ref b))/\xF (S (i+1000)) H b as (ρ.getD i .uD)
 all:∀i,S i=af->ρ.getD i .uD≠.uD->∃p,c i=ae p
variable {S:ah->ap}
theorem NQ.er{c:Cel}{H:Hp}{σ:L2.St}{ρ:aa D}(E:NQ S c H σ ρ):ER H σ ρ:=λi hi=>by
 obtain⟨v,h1,h2⟩:=E.at_ i hi;cases ho:S i with
 |false=>exact⟨v,h1,(h2 ho).all⟩
 |true=>
  obtain⟨⟨b,as⟩,hp⟩:=E.all i ho hi;obtain⟨h3,h4⟩:=E.nst i b as hp;exact⟨_,h3,h4.rep⟩
theorem NQ.live{c:Cel}{H:Hp}{σ:L2.St}{ρ:aa D}(E:NQ S c H σ ρ){a:al}(h:uW c a):∃o,H a=ae o/\uV o=af:=by
 obtain⟨i,b,as,hc,ha⟩:=h;exact(E.nst i b as hc).2.live a ha
theorem NQ.same{c:Cel}{H H':Hp}{σ:L2.St}{ρ:aa D}(E:NQ S c H σ ρ)(s:b_ H H'):NQ S c H' σ ρ:=
 ⟨E.len,E.dom,E.nd,E.dj,λi hi=>let ⟨v,h1,h2⟩:=E.at_ i hi;⟨v,h1,λho=>(h2 ho).same s⟩,λi b as hc=>let ⟨h1,h2⟩:=E.nst i b as hc;⟨h1,h2.same s⟩,E.all⟩
def KC(c:Cel)(H:Hp)(c':Cel)(H':Hp):Prop:=∀a o,H a=ae o->¬uW c a->H' a=ae o/\¬uW c' a
theorem KC.trans{c c1 c2:Cel}{H H1 H2:Hp}(a:KC c H c1 H1)(b:KC c1 H1 c2 H2):KC c H c2 H2:=λx o e n=>let ⟨e1,n1⟩:=a x o e n;b x o e1 n1
theorem KC.same{c:Cel}{H H':Hp}(s:b_ H H'):KC c H c H':=λa o e n=>⟨s a o e,n⟩
theorem KC.keep{c c':Cel}{σ:L2.St}{H H':Hp}{ρ:aa D}(k:KC c H c' H')(E:NQ S c H σ ρ):B_ (λa=>¬uW c a) H H':=λa o h hp=>by
 by_cases ho:uW c a
 ·obtain⟨o',g1,g2⟩:=E.live ho;rw[h] at g1;cases g1;rcases hp with hp|hp
  ·exact bd ho hp
  ·rw[g2] at hp;cases hp
 ·exact(k a o h ho).1
theorem KC.rep{c c':Cel}{σ:L2.St}{H H':Hp}{ρ:aa D}(k:KC c H c' H')(E:NQ S c H σ ρ){v:V}{d:D}(r:Rep (λa=>¬uW c a) H v d):Rep (λa=>¬uW c' a) H' v d:=r.VM (k.keep E) λa o e n=>(k a o e n).2
def kN(S:ah->ap)(D:Ends)(c:Cel)(H:Hp):Fl->Prop
 |.nx ρ=>∀c' σ' H',KC c H c' H'->NQ S c' H' σ' ρ->D.nx σ' H'
 |.bk ρ=>∀c' σ' H',KC c H c' H'->NQ S c' H' σ' ρ->D.bk σ' H'
 |.ct ρ=>∀c' σ' H',KC c H c' H'->NQ S c' H' σ' ρ->D.ct σ' H'
 |.rt d=>∀v H',(∀a o,H a=ae o->¬uW c a->H' a=ae o)->Rep (λa=>uW c a\/H a=ak) H' v d->D.rt v H'
theorem kN.step{D:Ends}{c c':Cel}{H H':Hp}{fl:Fl}(k:KC c H c' H')(h:kN S D c H fl):kN S D c' H' fl:=by
 cases fl with
 |nx ρ=>exact λc2 σ2 H2 k2 e=>h c2 σ2 H2 (k.trans k2) e
 |bk ρ=>exact λc2 σ2 H2 k2 e=>h c2 σ2 H2 (k.trans k2) e
 |ct ρ=>exact λc2 σ2 H2 k2 e=>h c2 σ2 H2 (k.trans k2) e
 |rt d=>
  refine λv H2 hk r=>h v H2 (λa o e n=>let ⟨e1,n1⟩:=k a o e n;hk a o e1 n1) (r.mono λa ha=>?_)
  cases q:H a with
  |none=>exact .inr rfl
  |some o=>
   refine .inl (As λn=>?_);obtain⟨e1,n1⟩:=k a o q n;rcases ha with ha|ha
   ·exact n1 ha
   ·rw[e1] at ha;cases ha
noncomputable def tN(S:ah->ap)(f:FS):TS:=λD σ H=>∃c ρ fl,NQ S c H σ ρ/\f ρ=.ok fl/\kN S D c H fl
structure QS(X:Cx)(st:bo)(t:TS):Prop where
 out:PS X st t
structure QSs(X:Cx)(st:aa bo)(t:TS):Prop where
 out:PSs X st t
section
variable {X:Cx} {a b c e:Expr} {pos:bz} {fe:FE} {re:ap} {gc:FT} {f g:FS} {st:bo} {rest s1 s2:aa bo}
theorem aGz:QSs X [] (tN S jA):=QSs.mk <| PSs.imp XH λD σ H ⟨c,ρ,fl,E,h,q⟩=>by
 cases h;exact q c σ H (λa o e n=>⟨e,n⟩) E
theorem vO(h1:QS X st (tN S f))(h2:QSs X rest (tN S g)):QSs X (st::rest) (tN S (bI f g)):=QSs.mk <| PSs.imp (u_ h1.out h2.out) λD σ H ⟨c,ρ,fl,E,h,q⟩=>by
 obtain⟨r,h1,h2⟩:=a_ h;refine⟨c,ρ,r,E,h1,?_⟩;cases r with
 |nx ρ'=>exact λc' σ' H' k E'=>⟨c',ρ',fl,E',h2,q.step k⟩
 |bk ρ'=>cases h2;exact q
 |ct ρ'=>cases h2;exact q
 |rt d=>cases h2;exact q
theorem DX(h1:QS X st (tN S f)):QSs X [st] (tN S f):=⟨XJ h1.out⟩
theorem aN0(hc:PT X c (gT gc))(ha:QSs X s1 (tN S f))(hb:QSs X s2 (tN S g)):QS X (.If c s1 s2 pos) (tN S (sIf gc f g)):=QS.mk <| PS.imp (aJ3 hc ha.out hb.out) λD σ H ⟨c',ρ,fl,E,h,q⟩=>by
 obtain⟨k,h1,h2⟩:=a_ h;refine⟨ρ,k,E.er,h1,λH' s=>?_⟩;cases k with
 |true=>rw[aq rfl];rw[aq rfl] at h2;exact⟨c',ρ,fl,E.same s,h2,q.step (.same s)⟩
 |false=>rw[av (by simp)];rw[av (by simp)] at h2;exact⟨c',ρ,fl,E.same s,h2,q.step (.same s)⟩
theorem NQ.set{c:Cel}{H:Hp}{σ:L2.St}{ρ:aa D}{i:ah}{v:V}{d:D}(E:NQ S c H σ ρ)(ho:S i=ai)(r:Rep (λa=>¬uW c a) H v d):NQ S c H (σ.set i (ae v)) (ρ.set i d):=by
 have hne:∀j,S j=af->i≠j:=λj hj z=>by subst z;rw[ho] at hj;cases hj
 refine⟨by simp[E.len],E.dom,E.nd,E.dj,λj hj=>?_,λj b as hc=>?_,λj hj hd=>?_⟩
 ·rw[bM] at hj ⊢;by_cases h:i=j/\i<ρ.length
  ·rw[aq h];obtain⟨rfl,hl⟩:=h;exact⟨v,by rw[fN (by rw[E.len];exact hl)],λ_=>r⟩
  ·rw[av h] at hj ⊢;obtain⟨w,h1,h2⟩:=E.at_ j hj;by_cases hij:i=j
   ·subst hij;have:i<σ.length:=(dy.mp h1).1;rw[E.len] at this;exact bd ⟨rfl,this⟩ h
   ·exact⟨w,by rw[ef hij];exact h1,h2⟩
 ·have hij:=hne j (E.dom j _ hc);rw[bM,av λz=>hij z.1,ef hij];exact E.nst j b as hc
 ·have hij:=hne j hj;rw[bM,av λz=>hij z.1] at hd;exact E.all j hj hd
theorem NQ.app{c:Cel}{H:Hp}{σ:L2.St}{ρ:aa D}{i:ah}{b x:al}{as:aa al}{d:D}{o u:HO}(E:NQ S c H σ ρ)(hc:c i=ae (b,as))(hx:x∈b::as)(hu:H x=ae u)(hm:uV u=af)(hn:xF (S (i+1000)) (upd H x o) b as d):NQ S c (upd H x o) σ (ρ.set i d)/\KC c H c (upd H x o):=by
 have hO:uW c x:=⟨i,b,as,hc,hx⟩
 have k:KC c H c (upd H x o):=λa oa e n=>⟨by rw[aX (λz=>by subst z;exact n hO)];exact e,n⟩
 obtain⟨hσ,_⟩:=E.nst i b as hc;have hl:i<ρ.length:=by rw[<-E.len];exact(dy.mp hσ).1
 have hS:=E.dom i _ hc;refine⟨⟨by simp[E.len],E.dom,E.nd,E.dj,λj hj=>?_,λj b' as' hc'=>?_,λj hj hd=>?_⟩,k⟩
 ·rw[bM] at hj ⊢;by_cases h:i=j/\i<ρ.length
  ·obtain⟨rfl,_⟩:=h;exact⟨_,hσ,λz=>by rw[hS] at z;cases z⟩
  ·rw[av h] at hj ⊢;obtain⟨w,h1,h2⟩:=E.at_ j hj;exact⟨w,h1,λhj=>k.rep E (h2 hj)⟩
 ·by_cases hij:i=j
  ·subst hij;rw[hc] at hc';cases hc';rw[bM,aq ⟨rfl,hl⟩];exact⟨hσ,hn⟩
  ·rw[bM,av λz=>hij z.1];obtain⟨h1,h2⟩:=E.nst j b' as' hc';exact⟨h1,h2.upd (E.dj i j b as b' as' hij hc hc' x hx) hu hm⟩
 ·by_cases hij:i=j
  ·subst hij;exact⟨_,hc⟩
  ·rw[bM,av λz=>hij z.1] at hd;exact E.all j hj hd
def aP1(K:bX):R2:=λx y H Q=>aNt K x y H Q\/∃a kvs k v,x=.ref a/\y=kV k/\H a=ae (.dK kvs)/\rH kvs k=ae v/\Q v H
theorem aO2(hu:X.A.units+20<bE):IxR X (aP1 X.K):=IxR.or zU λvalue slice Ψ s σ H x y v u Q I rx ry h hs=>by
 obtain⟨a,kvs,k,w,rfl,rfl,e,hv,q⟩:=h;cases rx;have g:W3 H a (kV k) (rH kvs k):=.k e;rw[hv] at g;exact wQ hu I g ry hs (λ_ h=>h) q
theorem aA7{i:ah}{x:Str}{k:Expr}{fk:FE}{rk:ap}{p1 p2 apos cpos:bz}(hu:X.A.units+20<bE)(ho:S i=af)(hN:X.N[i]?=ae x)(hv:Vis X.env.scope x)(hk:PE X k (gE fk rk))(he:PE X e (gE fe re))(hp:tH k:=by exact λ_ _=>rfl)(hd:nDb x:=by decide)(hcd:nCd x:=by decide)
 (hbase:jf (.Subscript (.Name x p1) k p2) "append" X.env (bP (.Subscript (.Name x p1) k p2) X.env)=bP (.Subscript (.Name x p1) k p2) X.env:=by rfl)
 (hs1:bp [e] X.env=(ai,bP e X.env)::bp [] X.env:=by rfl)
 (hfew:((eJ cpos (bp [e] X.env)).all (λx=>!x.1)&&(k9 cpos (la [] X.env)).all (λx=>x.1.isSome)
  &&ϒ (([e]:aa Expr).length+([]:aa gw).length+(if ([]:aa gw).isEmpty then 0 else 1)<30))=af:=by rfl)
 (hline:(apos.endLine==cpos.line)=af:=by rfl)
 (hs:eh (.Call (.Attribute (.Subscript (.Name x p1) k p2) "append" apos) [e] [] cpos) ak pos.line X.env=pure ai:=by rfl)
 (hq:S (i+1000)=ai:=by rfl):QS X (.Expr (.Call (.Attribute (.Subscript (.Name x p1) k p2) "append" apos) [e] [] cpos) pos) (tN S (QK i fk fe)):=QS.mk <|
 PS.imp (vX (X6 lu tq Au v8 (aFt (aO2 hu) (iZ hN hv hd hcd) hk hp) (i_ he oZ hs1) hbase hfew hline hs1 rfl) hs) λD' σ H ⟨c,ρ,fl,E,h,q⟩=>by
 obtain⟨d,h1,hA⟩:=a_ h;obtain⟨kd,h2,hB⟩:=a_ hA;obtain⟨ed,h3,hC⟩:=a_ hB;obtain⟨r,h4,hD⟩:=a_ hC;cases hD;obtain⟨v0,hv0,r0,e0⟩:=E.er.var h1;have hne:ρ.getD i .uD≠.uD:=λz=>by rw[z] at e0;subst e0;exact Rep.uD r0
 obtain⟨⟨b,as⟩,hc⟩:=E.all i ho hne;obtain⟨hσ,hN0⟩:=E.nst i b as hc;have hnd:=E.nd i b as hc;rw[dq] at hnd;rw[e0,hq] at hN0;unfold aA4 at h4;split at h4
 ·rename_i xs j;split at h4
  ·rename_i n ys hix;split at h4
   ·rename_i hg;cases h4;rw[bg] at hg;obtain⟨n',hx1,hx2⟩:=Option.bind_eq_some_iff.mp hix;obtain⟨y',hx3,hx4⟩:=lf.mp hx2;cases hx4;refine⟨.ref b,hσ,ρ,_,E.er,h2,λkv H1 sm1 rk1 _=>?_⟩;cases rk1;have N1:=hN0.same sm1;cases N1 with
    |lst eb il=>
     obtain⟨a,ws,zs,q1,q2,q3,q4,q5,q6⟩:=il.at_ hx3 hnd.2;cases q1;refine .inl ⟨b,_,j,.ref a,rfl,rfl,.of eb,by rw[aEo,il.reps.length,hx1];exact q2,?_⟩;refine⟨.inl ⟨rfl,_,.of q4⟩,ρ,_,E.er.same sm1,h3,λev H2 sm2 re2 _=>⟨a,ws,ev,rfl,rfl,sm2 _ _ q4,by rw[q5.length];exact JT hg.1,?_⟩⟩;obtain⟨E2,k2⟩:=(E.same (sm1.trans sm2)).app (o:=.lst (ws++[ev])) hc (bq _ q3) (sm2 _ _ q4) rfl (.lst (by rw[aX (λz=>hnd.1 (by rw[z];exact q3))];exact sm2 _ _ eb) (q6 H2 ev ed sm2 re2 hg.2));exact q c σ _ ((KC.same (sm1.trans sm2)).trans k2) E2
    |pln _ _ _ _ pp=>
     have:=aDg pp hx3;cases this
    |any z=>cases z
   ·cases h4
  ·cases h4
 ·rename_i kvs;split at h4
  rotate_left
  ·cases h4
  rename_i hfk;obtain⟨z,rfl⟩:∃z:Key,kd=kD z:=by
   cases kd<;>first|exact⟨.inl _,rfl⟩|exact⟨.inr _,rfl⟩|cases hfk
  split at h4
  ·rename_i ys hlk;split at h4
   ·rename_i hg;cases h4;rw[bg] at hg;refine⟨.ref b,hσ,ρ,_,E.er,h2,λkv H1 sm1 rk1 _=>?_⟩;obtain rfl:kv=kV z:=by
     cases z with
     |inl i=>cases rk1;rfl
     |inr x=>cases rk1;rfl
    have N1:=hN0.same sm1;cases N1 with
    |pln _ _ _ _ pp=>
     have:=aA6 pp hlk;cases this
    |dct eb il nk=>
     obtain⟨a,ws,zs,q1,q2,q3,q4,q5,q6⟩:=il.at_ (k:=z) hlk hnd.2;cases q1;refine .inr ⟨b,_,z,.ref a,rfl,rfl,eb,q2,?_⟩;refine⟨.inl ⟨rfl,_,.of q4⟩,ρ,_,E.er.same sm1,h3,λev H2 sm2 re2 _=>⟨a,ws,ev,rfl,rfl,sm2 _ _ q4,by rw[q5.length];exact JT hg.1,?_⟩⟩;obtain⟨E2,k2⟩:=(E.same (sm1.trans sm2)).app (o:=.lst (ws++[ev])) hc (bq _ q3) (sm2 _ _ q4) rfl (.dct (by rw[aX (λz=>hnd.1 (by rw[z];exact q3))];exact sm2 _ _ eb) (q6 H2 ev ed sm2 re2 hg.2) nk);exact q c σ _ ((KC.same (sm1.trans sm2)).trans k2) E2
   ·cases h4
  ·cases h4
 ·cases h4
end
end
section
variable [KFrag]
variable {S:ah->ap}
theorem NQ.new{c:Cel}{H H':Hp}{σ:L2.St}{ρ:aa D}{i:ah}{b:al}{as:aa al}{d:D}(E:NQ S c H σ ρ)(ho:S i=af)(hl:i<σ.length)(sm:b_ H H')(nd:(b::as).Nodup)(hf:∀a∈b::as,H a=ak)(hn:xF (S (i+1000)) H' b as d):∃c',NQ S c' H' (σ.set i (ae (.ref b))) (ρ.set i d)/\KC c H c' H':=by
 have hlv:∀a,uW c a->a∉b::as:=λa ha z=>by
  obtain⟨o,h1,_⟩:=E.live ha;rw[hf a z] at h1;cases h1
 have own:∀a,uW (λj=>if j=i then ae (b,as) else c j) a->uW c a\/a∈b::as:=λa ⟨j,b',as',hc,ha⟩=>by
  by_cases hj:j=i
  ·simp only[hj,cb,ii,ij] at hc;obtain⟨rfl,rfl⟩:=hc;exact .inr ha
  ·simp only[hj,b9] at hc;exact .inl ⟨j,b',as',hc,ha⟩
 have k:KC c H (λj=>if j=i then ae (b,as) else c j) H':=λa o e n=>⟨sm a o e,λz=>by
  rcases own a z with z|z
  ·exact n z
  ·rw[hf a z] at e;cases e⟩
 have hlr:i<ρ.length:=by rw[<-E.len];exact hl
 refine⟨λj=>if j=i then ae (b,as) else c j,⟨by simp[E.len],λj p hc=>?_,λj b' as' hc=>?_,λj1 j2 b1 as1 b2 as2 hne h1 h2 a ha=>?_,λj hj=>?_,λj b' as' hc=>?_,λj hj hd=>?_⟩,k⟩
 ·by_cases hj:j=i
  ·rw[hj];exact ho
  ·simp only[hj,b9] at hc;exact E.dom j p hc
 ·by_cases hj:j=i
  ·simp only[hj,cb,ii,ij] at hc;obtain⟨rfl,rfl⟩:=hc;exact nd
  ·simp only[hj,b9] at hc;exact E.nd j b' as' hc
 ·by_cases e1:j1=i
  ·by_cases e2:j2=i
   ·exact bd (e1.trans e2.symm) hne
   ·simp only[e1,cb,ii,ij] at h1;simp only[e2,b9] at h2;obtain⟨rfl,rfl⟩:=h1;exact λz=>hlv a ⟨j2,b2,as2,h2,z⟩ ha
  ·simp only[e1,b9] at h1;by_cases e2:j2=i
   ·simp only[e2,cb,ii,ij] at h2;obtain⟨rfl,rfl⟩:=h2;exact hlv a ⟨j1,b1,as1,h1,ha⟩
   ·simp only[e2,b9] at h2;exact E.dj j1 j2 b1 as1 b2 as2 hne h1 h2 a ha
 ·rw[bM] at hj ⊢;by_cases h:i=j/\i<ρ.length
  ·obtain⟨rfl,_⟩:=h;exact⟨.ref b,by rw[fN hl],λz=>by rw[ho] at z;cases z⟩
  ·rw[av h] at hj ⊢;have hij:i≠j:=λz=>h ⟨z,hlr⟩
   obtain⟨w,h1,h2⟩:=E.at_ j hj;exact⟨w,by rw[ef hij];exact h1,λhs=>k.rep E (h2 hs)⟩
 ·by_cases hj:j=i
  ·subst hj;simp only[cb,ii,ij] at hc;obtain⟨rfl,rfl⟩:=hc;rw[bM,aq ⟨rfl,hlr⟩,fN hl];exact⟨rfl,hn⟩
  ·simp only[hj,b9] at hc;rw[bM,av λz=>hj z.1.symm,ef (Ne.symm hj)];obtain⟨h1,h2⟩:=E.nst j b' as' hc;exact⟨h1,h2.same sm⟩
 ·by_cases hji:j=i
  ·exact⟨(b,as),by simp[hji]⟩
  ·rw[bM,av λz=>hji z.1.symm] at hd;obtain⟨p,hp⟩:=E.all j hj hd;exact⟨p,by simp[hji,hp]⟩
section
variable {X:Cx} {a c e:Expr} {pos:bz} {fb:FE} {g:FS} {n:ah}
def TgN(S:ah->ap)(g:TG)(t:D->aa D->Res (aa D)):Prop:=∀(v:V)(d:D)(ρ ρ':aa D)(σ:L2.St)(H:Hp)(c:Cel)(Q:L2.St->Hp->Prop),NQ S c H σ ρ->Rep (λa=>¬uW c a) H v d->t d ρ=.ok ρ'->(∀σ',NQ S c H σ' ρ'->Q σ' H)->g v σ H Q
theorem NQ.sets{c:Cel}{H:Hp}:∀{is:aa ah}{vs:aa V}{ds:aa D}{σ:L2.St}{ρ:aa D},(∀i∈is,S i=ai)->NQ S c H σ ρ->bL (λa=>¬uW c a) H vs ds->NQ S c H (kW is vs σ) (JP is ds ρ)
 |[],_,_,_,_,_,E,_=>by simp only[kW,JP];exact E
 |i::is,_,_,σ,ρ,h,E,.nil=>by simp only[kW,JP];exact E
 |i::is,_,_,σ,ρ,h,E,.cons r t=>NQ.sets (is:=is) (λj hj=>h j (bq _ hj)) (E.set (h i (bu ..)) r) t
theorem aA8(K:bX){is:aa ah}(ho:∀i∈is,S i=ai):TgN S (aLv K is.length (gIx is)) (tgN is):=λv d ρ ρ' σ H c Q E r h q=>by
 cases d<;>simp only[tgN] at h<;>(try (cases h;done))
 split at h
 ·rename_i hl;cases h;have hl':=e9 hl;obtain⟨a,xs,rfl,e,rr⟩:=r.fO;exact⟨a,xs,rfl,.of e,by rw[rr.length];exact hl',C_ _ _ _ (by rw[rr.length];exact hl') (q _ (E.sets ho rr))⟩
 ·cases h
theorem ItQ.kc{K:bX}{J:It}{items:aa D}{c c':Cel}{σ:L2.St}{H H':Hp}{ρ:aa D}(h:ItQ K (λa=>¬uW c a) J H items)(k:KC c H c' H')(E:NQ S c H σ ρ):ItQ K (λa=>¬uW c' a) J H' items:=h.keep' (k.keep E) λa o e n=>(k a o e n).2
theorem aA9{K:bX}{g:TG}{t:D->aa D->Res (aa D)}{fb:FS}{D':Ends}{J:It}{items:aa D}{c:Cel}{σ:L2.St}{H1:Hp}{ρ:aa D}{fl:Fl}(ht:TgN S g t)(E:NQ S c H1 σ ρ)(hJ:ItQ K (λa=>¬uW c a) J H1 items)(hf:mZ t fb items ρ=.ok fl)(q:kN S D' c H1 fl) :
  ∃W:ah->ah->L2.St->Hp->Prop,(∃m,W 0 m σ H1)/\∀i m σ H,W i m σ H->
   (J.stop i H/\D'.nx σ H)\/(J.go i H/\∃N:L2.St->Hp->Prop,(∀σ' H',N σ' H'->∃m',m'<m/\W (i+1) m' σ' H')/\∀x H',J.yld i H x H'->g x σ H' λσ2 H2=>tN S fb {D' with nx:=N,ct:=N,bk:=D'.nx} σ2 H2):=by
  refine⟨λi m σ' H'=>m=items.length-i/\i<=items.length/\∃c' ρ',ItQ K (λa=>¬uW c' a) J H' items/\NQ S c' H' σ' ρ'/\mZ t fb (items.drop i) ρ'=.ok fl/\kN S D' c' H' fl,⟨items.length,rfl,eR _,c,ρ,hJ,E,hf,q⟩,?_⟩;rintro i m σ' H' ⟨rfl,hi,c',ρ',hJ',E',hf',q'⟩;rcases ow i items.length with hlt|hge
  ·refine .inr ?_;have e:items[i]?=ae items[i]:=dz hlt;obtain⟨g1,g2⟩:=hJ'.go e;rw[gz hlt] at hf';obtain⟨ρ1,h1,hf2⟩:=a_ hf';obtain⟨r,h2,hf3⟩:=a_ hf2;refine⟨g1,λσ2 H2=>∃c' ρ',ItQ K (λa=>¬uW c' a) J H2 items/\NQ S c' H2 σ2 ρ'/\mZ t fb (items.drop (i+1)) ρ'=.ok fl/\kN S D' c' H2 fl,λσ2 H2 n2=>⟨items.length-(i+1),by lia,rfl,hlt,n2⟩,λx H2 hy=>?_⟩;obtain⟨sH,rx⟩:=g2 x H2 hy;have hJ2:=hJ'.kc (.same sH) E';have q2:=q'.step (.same sH);refine ht x items[i] ρ' ρ1 σ' H2 c' _ (E'.same sH) rx h1 λσ2 E2=>⟨c',ρ1,r,E2,h2,?_⟩
   cases r with
   |nx ρ2=>exact λc3 σ3 H3 k3 E3=>⟨c3,ρ2,hJ2.kc k3 E2,E3,hf3,q2.step k3⟩
   |ct ρ2=>exact λc3 σ3 H3 k3 E3=>⟨c3,ρ2,hJ2.kc k3 E2,E3,hf3,q2.step k3⟩
   |bk ρ2=>cases hf3;exact λc3 σ3 H3 k3 E3=>q2 c3 σ3 H3 k3 E3
   |rt d=>cases hf3;exact q2
  ·refine .inl ⟨hJ'.stop hge,?_⟩;rw[rh hge] at hf';cases hf';exact q' c' σ' H' (λa o e n=>⟨e,n⟩) E'
theorem aEv{tg iter:Expr}{body:aa bo}{g:TG}{t:D->aa D->Res (aa D)}{it:FI}{fb:FS}(hp:ja (ax X.prog X.w) X.A X.env X.xe)(hc:X.calm=af)(hi:PI X tg iter (gI X.K it))(ht:TgN S g t)(hg:PG X tg g)(hb:QSs X body (tN S fb))
 (hs:∀x,eC iter X.env x=pure x:=by intro _;rfl):QS X (.For tg iter body [] pos) (tN S (wJ it t fb)):=QS.mk <| PS.imp (HS hp hc hi hg hb.out hs) λD' σ H ⟨c,ρ,fl,E,h,q⟩=>by
 obtain⟨⟨items,k⟩,h1,h2⟩:=a_ h;split at h2
 ·rename_i hk;refine⟨ρ,items,k,E.er,h1,λJ H1 s1 _ hJ=>aA9 ht (E.same s1) ((hJ hk).keep (λ_ _ e _=>e) λa ha ho=>?_) h2 (q.step (.same s1))⟩;obtain⟨o,e1,_⟩:=E.live ho;rw[show H a=ak from ha] at e1;cases e1
 ·cases h2
end
theorem aDh{N ps:aa Str}{f:FS}{vs:aa V}{H:Hp}{Q:VK}{E:XK}(hown:∀i,i<ps.length->S i=ai)(h0:spD (fnS ps.length N.length f) ps.length vs H Q E):tN S f {nx:=λ_ H'=>Q .non H',rt:=Q} (start N vs) H:=by
 obtain⟨ds,d,hl,r,h,q⟩:=h0;obtain⟨fl,h1,h2⟩:=a_ h;have hst:start N vs=vs.map ae++cz (N.length-ps.length) ak:=by
  show vs.map ae++cz (N.length-vs.length) ak=_;rw[r.length,hl]
 have no:∀a,¬uW (λ_=>ak) a:=λa ⟨i,b,as,hc,_⟩=>by cases hc
 have old:=TF (own:=λ_=>ai) hst hl r (λ_ _=>rfl) λa ⟨i,hi,_⟩=>by cases hi
 have hlt:∀i,(ds++cz (N.length-ps.length) D.uD).getD i .uD≠.uD->i<ps.length:=λi hi=>Az λhge=>hi (by
  rw[eu,io (by lia),ke];split<;>rfl)
 have E0:NQ S (λ_=>ak) H (start N vs) (ds++cz (N.length-ps.length) .uD):=by
  refine⟨old.len,λi p hc=>(by cases hc),λi b as hc=>(by cases hc),λi j b as b' as' _ hc=>(by cases hc),λi hi=>?_,λi b as hc=>(by cases hc),λi hi hd=>?_⟩
  ·obtain⟨v,g1,g2⟩:=old.at_ i hi;exact⟨v,g1,λ_=>(g2 rfl).mono λa _=>no a⟩
  ·rw[hown i (hlt i hd)] at hi;cases hi
 refine⟨_,_,fl,E0,h1,?_⟩;have sm:∀{c':Cel}{H':Hp},KC (λ_=>ak) H c' H'->b_ H H':=λk a o e=>(k a o e (no a)).1
 cases fl with
 |nx ρ'=>cases h2;exact λc' σ' H' k E'=>q .non H' (sm k) .non λ_=>.non
 |rt d'=>
  cases h2;refine λv H' hk rp=>q v H' (λa o e=>hk a o e (no a)) rp.all λ_=>rp.mono λa ha=>?_
  rcases ha with ha|ha
  ·exact bd ha (no a)
  ·exact ha
 |bk ρ'=>cases h2
 |ct ρ'=>cases h2
theorem aKk{P:bn}{w:bi}{K:bX}{mg:Str->az aj}{base:aT}{x qual:Str}{st:bo}{fad:al}{fd:eP}{N ps:aa Str}{k:ah}{f:FS}(F:Fun K x qual st fad fd)(sc:bR N ps (aQ st))(S:ah->ap)(hown:∀i,i<ps.length->S i=ai)(hNl:ps.length<=N.length)
 (hbody:∀(cdv:aj) (A:bw) (outer:aa dw) (s:ao) (H:Hp) (E:XK),vA k (A.deeper (gd qual (aQ st) s.heap.objs.size fad cdv))->QSs (aC8 CX0 P w K mg base N qual (aQ st) fad cdv A outer s H E).nox (iJ st) (tN S f)):U7 P w K mg base CX0 (k+1) fad fd ps (spD (fnS ps.length N.length f) ps.length):=
 F.ok sc (λvs H Q E h=>Z1 h) λcdv A outer s H vs Q E hr h=>⟨_,(hbody cdv A outer s H E hr).out,aDh hown h⟩
theorem aH0{P:bn}{w:bi}{K:bX}{mg:Str->az aj}{base:aT}{x:Str}{k:ah}{st:bo}{fad:al}{fd:eP}{N ps:aa Str}{fs:FS}(F:Fun K x x st fad fd)(hm:mg x=ae (.ref fad))(hb:Binds K fd ps [])(sc:bR N ps (aQ st))(S:ah->ap)(hown:∀i,i<ps.length->S i=ai)(hNl:ps.length<=N.length)
 (hbody:∀(cdv:aj) (A:bw) (outer:aa dw) (s:ao) (H:Hp) (E:XK),vA k (A.deeper (gd x (aQ st) s.heap.objs.size fad cdv))->QSs (aC8 CX0 P w K mg base N x (aQ st) fad cdv A outer s H E).nox (iJ st) (tN S fs)):cG P w K mg base (k+1) x ps.length (fnS ps.length N.length fs):=
 ⟨fad,fd,ps,aKk F sc S hown hNl hbody,hm,F.kp,hb⟩
end
noncomputable def aAa:D->ap
 |.lst _=>af
 |_=>ai
variable [KFrag]
variable {S:ah->ap}
theorem InL.aH1{H:Hp}{vs:aa V}{ds:aa D}{as:aa al}{P:al->Prop}(h:InL H vs ds as)(hp:∀a∈as,P a):bL P H vs ds:=by
 induction h with
 |nil=>exact .nil
 |cons e r p t ih=>exact .cons (.lst e (hp _ (bu ..)) (r.bU p)) (ih λa ha=>hp a (bq _ ha))
theorem InK.aH1{H:Hp}{vs:aa (Key×V)}{ds:aa (D×D)}{as:aa al}{P:al->Prop}(h:InK H vs ds as)(hp:∀a∈as,P a):kE P H vs ds:=by
 induction h with
 |nil=>exact .nil
 |cons e r p t ih=>exact .cons (.lst e (hp _ (bu ..)) (r.bU p)) (ih λa ha=>hp a (bq _ ha))
theorem InA.aH1{H:Hp}{vs:aa V}{ds:aa D}{as:aa al}{P:al->Prop}(h:InA H as vs ds)(hp:∀a∈as,P a):bL P H vs ds:=by
 induction h with
 |nil=>exact .nil
 |cons m e r p t ih=>exact .cons (.lst e (hp _ m) (r.bU p)) ih
theorem xF.aH1{qb:ap}{H:Hp}{b:al}{as:aa al}{d:D}{P:al->Prop}(h:xF qb H b as d)(hp:∀a∈b::as,P a):Rep P H (.ref b) d:=by
 have hb:=hp b (bu ..);have ha:∀a∈as,P a:=λa h=>hp a (bq _ h)
 cases h with
 |lst e i=>exact .lst e hb (i.aH1 ha)
 |dct e i n=>exact .dK e hb (i.aH1 ha) n
 |pln z e m r p=>exact r.aIo p hb
 |any z e i l=>exact .lst e hb (i.aH1 ha)
section
variable {X:Cx} {e:Expr} {pos pos':bz}
theorem aH2{i:ah}{x:Str}(ho:S i=af)(hN:X.N[i]?=ae x)(hv:Vis X.env.scope x)(hd:nDb x:=by decide)(hcd:nCd x:=by decide):QS X (.Return (ae (.Name x pos')) pos) (tN S (yC i)):=QS.mk <|
 PS.imp (XM (iZ hN hv hd hcd)) λD σ H ⟨c,ρ,fl,E,h,q⟩=>by
 obtain⟨d,h1,h2⟩:=a_ h;cases h2;obtain⟨v,hσ,r,e⟩:=E.er.var h1;have hne:ρ.getD i .uD≠.uD:=λz=>by rw[z] at e;subst e;exact Rep.uD r
 obtain⟨⟨b,as⟩,hc⟩:=E.all i ho hne;obtain⟨h3,h4⟩:=E.nst i b as hc;rw[e] at h4;exact⟨_,h3,q _ H (λa o e _=>e) (h4.aH1 λa ha=>.inl ⟨i,b,as,hc,ha⟩)⟩
end
end Mi
namespace Wn
open PySem PySem.Spec
section
variable {prog:bn} {w:bi} {A:bw} {E:aj->ao->Prop} {s:ao}
theorem both{α:Type}{M:i9}{c:Prop}[mB c]{a b:eg α}{Q:α->ao->Prop}(h1:ϑ M A a Q E s)(h2:ϑ M A b Q E s):ϑ M A (if c then a else b) Q E s:=by
 by_cases h:c
 ·rw[aq h];exact h1
 ·rw[av h];exact h2
theorem aKl(l:al)(items:aw aj)(n:ah)(dd:az al)(sl:aw (az aj))(t:ff) :
  kq (Builtin.«enumerate.__new__» ⟨[.type "enumerate",.ref l],[("start",.int 1 t)]⟩) (λ_ R s=>s.heap.get? l=ae {cls:=.type "list",dict:=dd,data:=.seq items n,slots:=sl}/\
   ∀h' e it tk,it=s.heap.objs.size->e=it+1->nr h' e it 1 .none->h'.IsListIter it l 0->h'.objs.size=it+2->(∀b o,s.heap.get? b=ae o->h'.get? b=ae o)->R (.ok (.ret (.ref e))) {s with heap:=h',toks:=tk}):=.of_wp λprog w A R s hs=>by
 obtain⟨hp,g,d,tk,os⟩:=s;obtain⟨hl,q⟩:=hs;have sub:=sub_enumerate;have p:Heap.IsList (Shared.heap ⟨hp,g,d,tk,os⟩) l items:=⟨_,hl,rfl,n,rfl⟩
 have hz:(hp.push {cls:=.type "list_iterator",data:=.fields #[.ref l,.int 0 0]}).objs.size=hp.objs.size+1:=iv ..;have fin:∀(tk':ah),R (.ok (.ret (.ref (hp.push {cls:=.type "list_iterator",data:=.fields #[.ref l,.int 0 0]}).objs.size))) ⟨(hp.push {cls:=.type "list_iterator",data:=.fields #[.ref l,.int 0 0]}).push {cls:=.type "enumerate",data:=.fields #[.none,.bool ai,.ref hp.objs.size,gX 1,.none,.none]},g,d,tk',os⟩:=λtk'=>by
  refine q _ _ _ tk' rfl hz (di _ rfl) ⟨_,cr _ (di _ rfl),rfl,rfl⟩ ?_ λb o e=>cr _ (cr _ e)
  rw[iv,hz]
 wp_walk using vb hl
 refine wpAny_stack_any λst=>bf ?_
 refine both ?_ ?_
 ·wp_walk using vb hl,kA p
  exact⟨_,rfl,fin tk⟩
 ·wp_walk using vb hl,kA p
  exact⟨_,rfl,fin tk⟩
theorem aN1(a:aj)(t:ff):checkTypeCall "enumerate" ⟨[a],[("start",.int 1 t)]⟩=pure ():=by kernel_rfl
theorem aN2(a:aj)(t:ff):checkBuiltinCall "enumerate.__new__" ⟨[.type "enumerate",a],[("start",.int 1 t)]⟩=pure ():=by kernel_rfl
theorem aN3(a b:aj)(t:ff):argsOk "object.__init__" ⟨[a,b],[("start",.int 1 t)]⟩:=by kernel_rfl
theorem aH3{self b:aj}{t:ff}{R:PySem.Fin->ao->Prop}(hT:s.TypeIs self "enumerate")(q:R (.done (.ret .none)) s):ϑ (ax prog w) A (Builtin.«object.__init__» ⟨[self,b],[("start",.int 1 t)]⟩) R E s:=by
 have hl:=vc.init.lookup;have hm:=vc.made
 repeat (any_goals (first|assumption|wp_step))
theorem aH4{l:al}{items:aw aj}{t:ff}{Q:aj->ao->Prop}(hL:s.heap.IsList l items)
 (q:∀h' e it tk,it=s.heap.objs.size->e=it+1->nr h' e it 1 .none->h'.IsListIter it l 0->h'.objs.size=it+2->(∀b o,s.heap.get? b=ae o->h'.get? b=ae o)->Q (.ref e) {s with heap:=h',toks:=tk}) :
  ϑ (ax prog w) A (call (.type "enumerate") [.ref l] [("start",.int 1 t)]) Q E s:=by
 have ft:=vc;obtain⟨c,tl,m0⟩:=ft.mro;have m1:=ft.made;have m2:=ft.sub;have m3:=ft.notType;have m4:=ft.canCreate;have k1:=aN1 (.ref l) t;obtain⟨⟨cl,dd,da,sl⟩,e,hc,n,hd⟩:=hL;simp only at hc hd;subst hc hd;refine wpAny_call (codeAny_of_tree (show ϑ _ _ (callAny (.type "enumerate") _) _ _ _ from bf ⟨vd _ (by decide +kernel),gn F.entry_type_call ?_⟩));rw[Around.under_plain (weight_type_call_type "enumerate" _ _) (units_type_call_type "enumerate" _ _)]
 repeat (any_goals (first|assumption|wp_step))
 have step:∀c (R:kQ->ao->Prop),c=(AX (.builtin "enumerate.__new__") ⟨[.type "enumerate",.ref l],[("start",.int 1 t)]⟩)->(∀h' e it tk,it=s.heap.objs.size->e=it+1->nr h' e it 1 .none->h'.IsListIter it l 0->h'.objs.size=it+2->(∀b o,s.heap.get? b=ae o->h'.get? b=ae o)->R (.ok (.ret (.ref e))) {s with heap:=h',toks:=tk})->codeAny (ax prog w) A.in1 c R s:=λc R hc hq=>by
  subst hc;exact AY ft.plain F.entry_enumerate_new (lr (aN2 (.ref l) t) (aKl l items n dd sl t prog w A.in1 R s ⟨e,hq⟩))
 refine k5 (step _ (λr s1=>∃h' a it tk,r=.ok (.ret (.ref a))/\s1={s with heap:=h',toks:=tk}/\nr h' a it 1 .none/\Q (.ref a) s1) rfl λh' a it tk x1 x2 x3 x4 x5 x6=>⟨h',a,it,tk,rfl,rfl,x3,q h' a it tk x1 x2 x3 x4 x5 x6⟩) λr s1 hr=>?_
 obtain⟨h',a,it,tk,rfl,rfl,x3,hq⟩:=hr;have hT:({s with heap:=h',toks:=tk}:ao).TypeIs (.ref a) "enumerate":=⟨_,x3,rfl⟩
 have hli:=ft.init.lookup;have hbi:=ft.init.bind (.ref a)
 repeat (any_goals (first|assumption|wp_step))
 have step2:∀c (R:kQ->ao->Prop),c=(AX (.builtin "object.__init__") ⟨[.ref a,.ref l],[("start",.int 1 t)]⟩)->R (.ok (.ret .none)) {s with heap:=h',toks:=tk}->codeAny (ax prog w) A.in1 c R {s with heap:=h',toks:=tk}:=λc R hc hq=>by
  subst hc;exact AY ft.init.plain F.entry_object_init (ft.init.check _ _ _ _ _ _ _ _ hT (aN3 _ _ _) (aH3 hT hq))
 refine k5 (step2 _ (λr s2=>r=.ok (.ret .none)/\s2={s with heap:=h',toks:=tk}) rfl ⟨rfl,rfl⟩) λr s2 hr=>?_
 obtain⟨rfl,rfl⟩:=hr
 repeat (any_goals (first|assumption|wp_step))
end
theorem shift{prog:bn}{w:bi}{A:bw}{it:al}{fp:aa al}{n:ah}{P:ah->aj->Prop}{St:ah->aT->Prop}(D:Draws prog w A it fp n P St)(m:ah):Draws prog w A it fp (m+n) (λj v=>P (j-m) v) (λj h=>∃i,j=m+i/\St i h) where
 live:=λj h ⟨i,_,st⟩=>D.live i h st
 frame:=λj h h' ⟨i,e,st⟩ k=>⟨i,e,D.frame i h h' st k⟩
 item:=λj s Q E hj ⟨i,e,st⟩ hQ=>D.item i s Q E (by lia) st λx h' tk px st' sb=>hQ x h' tk (by rw[e,AZ];exact px) ⟨i+1,by lia,st'⟩ sb
 done:=λs Q E ⟨i,e,st⟩ hE=>by
  obtain rfl:n=i:=by lia
  exact D.done s Q E st hE
theorem over{prog:bn}{w:bi}{A:bw}(hh:A.handled=ak)(it l:al)(items:aw aj)(i:ah)(hi:items[i]?=ak):Draws prog w A it [it,l] 0 (λ_ _=>ik) (λ_ h=>h.IsListIter it l i/\h.IsList l items) where
 live:=λ_ _ st=>let ⟨o,ho,_⟩:=st.1;⟨o,ho⟩
 frame:=λ_ _ _ st k=>⟨st.1.at λo e=>k it (bu ..) o e,st.2.at λo e=>k l (by simp) o e⟩
 item:=λj s Q E hj=>bd hj (Nat.not_lt_zero _)
 done:=λs Q E st hE=>wpAny_nextOf_list_end hh st.1 st.2 hi hE
end Wn
namespace Mi
open PySem L2 PySem.SeqAt PySem.Spec PyProof.Rows
def aAb(m:ah)(a:FE)(fr:ap):FI:=λρ=>do let x <- a ρ;let xs <- aKd x;pure (CW m xs,fr||x.pure)
section
variable [KFrag]
theorem aEw{h:aT}{a b:al}{o u:bb}{T U:dm}(e:h.get? a=ae o)(hc:o.cls=.type T)(e':h.get? b=ae u)(hc':u.cls=.type U)(ne:(lx T==lx U)=ai):a≠b:=λq=>by
 subst q;rw[e] at e';cases e';rw[hc] at hc';rw[hc'] at ne;simp at ne
theorem V5{P:bn}{w:bi}{K:bX}{elts:aa Expr}{x1}{tp:bz}(m:ah)(a e it:al)(hne:e≠it):Turn P w K (.Tuple elts x1 tp) (aNx K m a) [e,it] e (λi h=>(∃old,nr h e it ((m+i:ah):ag) old)/\h.IsListIter it a i) where
 mem:=bu ..
 obj:=λi h ⟨⟨old,h1⟩,o,h2,_,h3⟩ b hb=>by
  simp only[bm,rq,or_false] at hb;rcases hb with rfl|rfl
  ·exact⟨_,h1,λv z=>nomatch(show wl _=wm v from z)⟩
  ·exact⟨o,h2,λv z=>by rw[h3] at z;cases z⟩
 keep:=λi h h' ⟨⟨old,h1⟩,h2⟩ k=>⟨⟨old,k e (bu ..) _ h1⟩,h2.at λo q=>k it (by simp) o q⟩
 item:=by
  intro Y hP hw hK hc i Ψ s σ H E I hf ⟨⟨old,h1⟩,h2⟩ ⟨xs,x,hq,hx⟩;subst hP hw hK;obtain⟨its,rv,p,hz⟩:=I.list hq;obtain⟨u,hu,ru⟩:=rv.get hx;have hlt:e<s.heap.objs.size:=bS h1;obtain⟨oi,e2,c2,d2⟩:=id h2;obtain⟨ol,e3,c3,_⟩:=id p.isList;have nai:a≠it:=aEw e3 c3 e2 c2 (by decide);have nea:e≠a:=aEw h1 rfl e3 c3 (by decide);have D:=Wn.shift (Draws.list (prog:=Y.prog) (w:=Y.w) (A:=Y.A.in1) (show Y.A.in1.handled=ak from I.ok.hd hc) it a nai its.toArray) m;have hil:i<its.toArray.size:=by
   have:=(dy.mp hu).1;simpa using this
  refine wpAny_pyNext_enum_itemD D h1 ⟨i,rfl,h2,p.isList⟩ (by lia) hne (by simp[hne,nea]) λv h' tk o0 o1 o2 o3 o4 o5=>?_
  rw[AZ] at o0;obtain rfl:u=v:=by
   have:its[i]?=ae v:=by simpa using o0
   rw[hu] at this;exact cx this
  obtain⟨i',ei,st1,st2⟩:=o2;obtain rfl:i'=i+1:=by lia
  refine⟨_,rfl,wpAny_letOwnedTupleGo_enum o1 λh'' g1 g2=>?_⟩;have sb:kM e h' h'':=g2;have kk:∀b o,b∉[e,it]->s.heap.get? b=ae o->h''.get? b=ae o:=λb o hb eb=>by
   simp only[bm,rq,or_false,hX] at hb;exact(sb.2 b hb.1).trans (o5 b o hb.1 hb.2 eb)
  have t3:h''.get? s.heap.objs.size=ae {cls:=.type "tuple",data:=.seq #[.int ((m+i:ah):ag) tk,u]}:=(sb.2 _ (jS hlt)).trans o3;refine⟨.ref s.heap.objs.size,upd H s.heap.objs.size (.tup [.int ((m+i:ah):ag),x]),QH (s:=s) (h':=h'') (t':=tk+1) (ch:=[e,it]) I kk (λb hb=>hf b hb) (ba _) ?_,rfl,⟨_,x,λys hy=>by rw[I.u5 hy hq];exact hx,rfl,I.hok.fresh (ba _),rfl⟩,⟨⟨u,?_⟩,?_⟩,λb hb=>?_⟩
  ·exact⟨by show 2<=bj;rw[eD];decide,[.int ((m+i:ah):ag) tk,u],.cons ⟨_,rfl⟩ (.cons ru .nil),⟨_,t3,rfl,0,rfl⟩⟩
  ·have:((m+(i+1):ah):ag)=((m+i:ah):ag)+1:=by lia
   rw[this];exact g1
  ·obtain⟨o,ho,r⟩:=st1;exact⟨o,(sb.2 it (Ne.symm hne)).trans ho,r⟩
  ·rw[aX]
   ·exact(hf b hb).1
   ·intro z;simp only[bm,rq,or_false] at hb;rcases hb with h|h
    ·rw[<-h,z] at hlt;exact fj _ hlt
    ·have:=bS e2;rw[<-h,z] at this;exact fj _ this
 done:=by
  intro Y hP hw hK hc i Ψ s σ H E I hf ⟨⟨old,h1⟩,h2⟩ ⟨xs,hq,hx⟩;subst hP hw hK;obtain⟨its,rv,p,hz⟩:=I.list hq;obtain⟨f0,f1,f2,f3,f4,f5⟩:=hf it (by simp);have hl:=rv.length;exact wpAny_pyNext_enum_endD (Wn.over (show Y.A.in1.handled=ak from I.ok.hd hc) it a its.toArray i (by simp;lia)) h1 ⟨h2,p.isList⟩ λh' eb=>⟨rfl,I.turned (t':=s.toks) (λb o hb e=>eb b o hb e) f0 f1 f3 f4 f5⟩
 self:=λ_ _ _ _ _ ⟨⟨old,h1⟩,_⟩ h=>A0 h1 h
section
variable {X:Cx} {a:Expr} {fa:FE} {ra:ap} {p pos:bz}
theorem aH5{M:i9}{A:bw}{E:aj->ao->Prop}{s:ao}{T:dm}{args:aa (ap×eg aj)}{kws:aa (az Str×eg aj)}{Q:aj->ao->Prop}(hp:args.any (·.1)=ai)(hk:kws.any (·.1.isNone)=ai)
 (h:ϑ M A (evalArgs (.type T) af args kws) (λa s₁=>ϑ M A (call (.type T) a.pos a.kw) Q E s₁) E s):ϑ M A (callWith pos (.type T) [] args kws) Q E s:=by
 unfold callWith;refine ay (gv (eL h (λa s1 h1=>ay (Av ?_)) λ_ _ x=>x));rw[hp,hk];exact ay (bf (ay (eL h1 (λr s2 hr=>ay (gv (wpAny_point (bf hr)))) λ_ _ x=>x)))
theorem aDi{elts:aa Expr}{x1}{tp kp cp:bz}{j:ah}(hg:Gl X "enumerate")(hm:X.mg "enumerate"=ak)(ha:PA X [a] (gA (aD fa aV) ra))(hs:bp [a] X.env=[(ai,bP a X.env)]:=by rfl) :
  PI X (.Tuple elts x1 tp) (.Call (.Name "enumerate" p) [a] [⟨ae "start",.Constant (.int 1) j cp,kp⟩] pos) (gI X.K (aAb 1 fa ra)):=by
 intro Ψ s σ H R I ⟨ρ,items,k,E,h,q⟩;obtain⟨d,h1,h⟩:=a_ h;obtain⟨its,h2,h⟩:=a_ h;cases h;have hd:d=.lst its:=by
  unfold aKd at h2;split at h2
  ·cases h2;rfl
  ·cases h2
 subst hd;have hb:aD fa aV ρ=.ok [ξ its]:=by
  unfold aD;rw[h1];rfl
 refine kb (uF I hg hm B2 (aH5 (by rw[hs];rfl) rfl ?_));have hA:=ha pos Ψ s σ H (λvs H1=>∃v,vs=[v]/\b_ H H1/\Rep All H1 v (.lst its)/\(ra=af->Rep (New H) H1 v (.lst its))) I ⟨ρ,_,E,hb,λvs H1 s1 r1 n1=>by
  cases r1 with
  |cons r t=>
   cases t;refine⟨_,rfl,s1,r,λz=>?_⟩;cases n1 z with
   |cons r' _=>exact r'⟩
 rw[hs] at hA ⊢;refine evalArgs_kwB rfl (thn hA λus s1 ⟨vs,H1,I1,r1,q1⟩=>kws_cons (vS (kws_nil ?_)));obtain⟨v,rfl,s1',r,n⟩:=q1;cases r1 with
 |cons rv rr=>
  cases rr;obtain⟨l,ys,rfl,hl,rr⟩:=r.iU (K:=X.K);cases rv;obtain⟨vs,rvs,pl,hz⟩:=I1.list hl;refine Wn.aH4 (s:={s1 with toks:=s1.toks+1}) pl.isList λh' e it tk e1 e2 e3 e4 e5 e6=>A0 e3 ?_
  subst e2 e1;have hp1:∀b o,s1.heap.get? b=ae o->h'.get? b=ae o:=e6;refine⟨s1.heap.objs.size+1,[s1.heap.objs.size+1,s1.heap.objs.size],_,_,H1,rfl,I1.kept (t':=tk) λb o e=>hp1 b o e,V5 1 l (s1.heap.objs.size+1) s1.heap.objs.size (Nat.succ_ne_self _),⟨⟨_,e3⟩,e4⟩,λb hb=>?_,q _ H1 s1' (.enf 1 l its rfl r rfl) λhk=>.enf 1 l its rfl ?_ rfl⟩
  ·simp only[bm,rq,or_false] at hb;rcases hb with rfl|rfl
   ·exact I1.aFi (iu _) (I1.hok.fresh (iu _))
   ·exact I1.aFi (ba _) (I1.hok.fresh (ba _))
  ·rw[iX] at hk;rcases hk with hk|hk
   ·exact n hk
   ·cases hk
end
end
def sortedK:aa D->Res D
 |[.dct kvs]=>if kvs.all (λp=>!isTup p.1)&&bD (lO kvs) then .ok (.lst (gM (lO kvs))) else .bad
 |ds=>fC ds
def aDj(k v:D):Res D:=if fB k&&v.pure then .ok (.dct [(k,v)]) else .bad
def dgI(d k:D):Res (aa D):=match d with
 |.dct ds=>if fB k then (match bG ds k with|some e=>o7 e|none=>.bad) else .bad
 |_=>.bad
def J9(i:ah)(fk:FE)(t:D->aa D->Res (aa D))(body:FS):FS:=λρ=>do
 let d <- jZ i ρ
 let k <- fk ρ
 let xs <- dgI d k
 mZ t body xs ρ
section
variable [KFrag]
section
variable {X:Cx}
theorem V6{P:bn}{w:bi}{H:Hp}{Q:al->Prop}{es:aa ip}{vs:aa (Key×aj)}(hp:PySem.Pairs (cL P w) es vs):∀{kvs:aa (Key×V)}{ds:aa (D×D)},KV kvs vs->kE Q H kvs ds->Vals (kvs.map λp=>kV p.1) (es.map (·.key))/\bL All H (kvs.map λp=>kV p.1) (lO ds):=by
 induction hp with
 |nil=>
  intro kvs ds r u;cases r;cases u;exact⟨.nil,.nil⟩
 |cons h _ t ih=>
  intro kvs ds r u;cases r with
  |cons g r=>
   cases u with
   |@cons k _ _ _ _ _ u=>
    obtain⟨h1,h2⟩:=ih r u;obtain⟨g1,g2⟩:=g;refine⟨.cons (aKf (by rw[show k=_ from g1];exact h)) h1,.cons ?_ h2⟩;cases k with
    |inl i=>exact .int i
    |inr x=>exact .str x
theorem Rep.aP2{H:Hp}{a:al}{v:V}{d:D}{o ob:HO}(r:Rep All H v d)(hp:d.pure=af)(ha:H a=ae ob)(hm:uV ob=af):Rep All (upd H a o) v d:=by
 have:=(bL.cons r .nil).upd (o:=o) (by rw[θ,hp];rfl) ha hm;cases this with
 |cons r _=>exact r
theorem V7(hK:KFrag.K=X.K)(hc:X.calm=af)(hu:X.A.units+20<bE):lF X (.builtin "sorted") (rs sortedK af):=by
 intro Ψ s σ H xs us Q I vr ⟨ds,d,r,e,k⟩;unfold sortedK at e;split at e
 ·rename_i kvs;split at e
  ·rename_i hl;rw[bg] at hl;cases e;have fin:∀p xs',H p=ak->bL All H xs' (gM (lO kvs))->Q (.ref p) (upd H p (.lst xs')):=λp xs' hp r'=>by
    have sp:b_ H (upd H p (.lst xs')):=b_.upd hp;exact k _ _ sp (.lst aH trivial (r'.same sp)) λ_=>.lst aH hp ((r'.bU (wV hl.2)).same sp)
   obtain⟨vv,uu,rfl,rfl,r,v⟩:=mJ r vr;cases r with
   |dK e _ rk _=>
    cases v;obtain⟨hz,lo,vs,rel,o,es,ep,e1,e2,e3,_,hp,_⟩:=VB I.hok e;obtain⟨r1,r2⟩:=V6 hp rel rk;have hlen:es.size<=bj:=by rw[<-fR,<-aI (f:=(·.key)),<-r1.length,aI];exact hz
    exact qT hK I hu r1 (by rw[aI,fR];exact hlen) r2 hl.2 (λQ' E' h=>aA3 (I.ok.hd hc) lo ⟨o,e1,e2,e3⟩ hlen λh' tk kp sz=>h h' tk kp sz) fin
   |dT e _ rt _=>
    cases rt with
    |cons r t=>
     have:=hl.1;rw[gi,bg] at this;cases this.1
    |nil=>
     cases v;obtain⟨es,ep,zs,raw,lo,hz,rel,he⟩:=aKi I e;have h0:zs=[]:=by cases rel;rfl
     subst h0;have h1:es.toList=[]:=he;exact qT hK I hu .nil (eR _) .nil hl.2 (λQ' E' h=>aA3 (I.ok.hd hc) lo raw (by rw[<-fR,h1];exact eR _) λh' tk kp sz=>by rw[h1];exact h h' tk kp sz) fin
  ·cases e
 ·exact fZ hK hu Ψ s σ H xs us Q I vr ⟨_,d,r,e,k⟩
theorem QL{d:D}(h:fB d=af):∃k:Key,d=kD k:=by
 cases d<;>first|exact⟨.inl _,rfl⟩|exact⟨.inr _,rfl⟩|cases h
theorem aAc{P:al->Prop}{H:Hp}{v:V}{k:Key}(r:Rep P H v (kD k)):v=kV k:=by
 cases k with
 |inl i=>cases r;rfl
 |inr x=>cases r;rfl
theorem aAd{pos:bz}{k1 v1:Expr}{g1 h1:FE}{r1 r2:ap}(hk1:PE X k1 (gE g1 r1))(hv1:PE X v1 (gE h1 r2)):PE X (.Dict [ae k1] [v1] pos) (gE (b2 aDj g1 h1) af):=
 PE.imp (YG (zX hk1 hv1 YF) rfl rfl (by simp) (rL rfl)) λσ H Q ⟨ρ,d,E,h,q⟩=>by
 obtain⟨a1,e1,hA⟩:=a_ h;obtain⟨a2,e2,hB⟩:=a_ hA;clear h hA;unfold aDj at hB;split at hB
 ·rename_i hg;cases hB;rw[bg] at hg;obtain⟨k,rfl⟩:=QL hg.1;intro p hp;have s0:b_ H (upd H p (.dK [])):=b_.upd hp;refine⟨ρ,_,E.same s0,e1,λw1 H1 s1 q1 _=>?_⟩;obtain rfl:=aAc q1;refine⟨ρ,_,(E.same s0).same s1,e2,λw2 H2 s2 q2 _=>?_⟩;have sm:b_ (upd H p (.dK [])) H2:=s1.trans s2;refine⟨sm _ _ aH,[(k,w2)],rfl,rL rfl,?_⟩;have sf:b_ H (upd H2 p (.dK (fP [] [(k,w2)]))):=λb o e=>by
   rw[aX (dI e hp)];exact sm b o (s0 b o e)
  have rk:∀P:al->Prop,kE P (upd H2 p (.dK (fP [] [(k,w2)]))) (fP [] [(k,w2)]) [(kD k,a2)]:=λP=>.cons ((q2.aP2 hg.2 (sm _ _ aH) rfl).bU hg.2) .nil
  exact q _ _ sf (.dK aH trivial (rk All) (by simp[fP,putK])) λ_=>.dK aH hp (rk _) (by simp[fP,putK])
 ·cases hB
theorem TX{P:al->Prop}{H:Hp}{k:Key}:∀{kvs:aa (aa Key×V)}{ds:aa (D×D)},tO P H kvs ds->bG ds (kD k)=ak
 |_,_,.nil=>rfl
 |_,_,.cons _ t=>by
  have:=TX (k:=k) t;cases k<;>(rw[bG];simpa[kD,eqD] using this)
theorem aKm{H:Hp}{v:V}{ds:aa (D×D)}{k:Key}{e:D}(r:Rep All H v (.dct ds))(hl:bG ds (kD k)=ae e):∃a kvs w,v=.ref a/\H a=ae (.dK kvs)/\rH kvs k=ae w/\∀(P:al->Prop)(H':Hp),b_ H H'->Rep P H' v (.dct ds)->Rep P H' w e:=by
 cases r with
 |@dK a kvs ds e1 _ rk _=>
  rcases V2 (k:=k) rk with ⟨w,d,h1,h2,h3⟩|⟨_,h2⟩
  ·rw[hl] at h2;cases h2;refine⟨a,kvs,w,rfl,e1,h1,λP H' sm r'=>?_⟩;have e2:=sm _ _ e1;cases r' with
   |dK e1' _ rk' _=>
    rw[e2] at e1';cases e1';rcases V2 (k:=k) rk' with ⟨w',d',g1,g2,g3⟩|⟨_,g2⟩
    ·rw[hl] at g2;cases g2;rw[h1] at g1;cases g1;exact g3
    ·rw[hl] at g2;cases g2
   |dT e1' _ _ _=>rw[e2] at e1';cases e1'
  ·rw[hl] at h2;cases h2
 |dT e1 _ rt _=>rw[TX rt] at hl;cases hl
def gIK(K:bX)(i:ah)(fk:FE):TI:=λσ H R=>∃ρ v d kd items,ER H σ ρ/\σ[i]?=ae (ae v)/\Rep All H v d/\fk ρ=.ok kd/\dgI d kd=.ok items/\∀J H1,b_ H H1->(∀P:al->Prop,Rep P H1 v d->ItQ K P J H1 items)->R J H1
theorem aN4{tg k:Expr}{fk:FE}{rk:ap}{i:ah}{x:Str}{pos px:bz}(hu:X.A.units+20<bE)(hN:X.N[i]?=ae x)(hv:Vis X.env.scope x)(hk:PE X k (gE fk rk))(hp:tH k:=by exact λ_ _=>rfl)(hd:nDb x:=by decide)(hcd:nCd x:=by decide):PI X tg (.Subscript (.Name x px) k pos) (gIK X.K i fk):=by
 intro Ψ s σ H R I ⟨ρ,v,d,kd,items,E,hσ,r,hf,hi,q⟩;unfold dgI at hi;split at hi
 ·rename_i ds;split at hi
  ·rename_i hfk;obtain⟨key,rfl⟩:=QL hfk;split at hi
   ·rename_i e hl;obtain⟨a,kvs,w,rfl,ea,hw,all⟩:=aKm r hl;refine thn (aFt (aO2 hu) (iZ hN hv hd hcd) hk hp Ψ s σ H (λz H1=>b_ H H1/\z=w) I ⟨.ref a,hσ,ρ,_,E,hf,λkv H1 sm1 rk1 _=>?_⟩) λu s1 ⟨z,H1,I1,ru,sm,ez⟩=>?_
    ·obtain rfl:=aAc rk1;exact .inr ⟨a,kvs,key,w,rfl,rfl,sm1 _ _ ea,hw,sm1,rfl⟩
    ·subst ez;exact CZ I1 (all All H1 sm (r.same sm)) ru hi λJ hJ=>q J H1 sm λP rp=>hJ P (all P H1 sm rp)
   ·cases hi
  ·cases hi
 ·cases hi
theorem aDk{own:ah->ap}{tg k:Expr}{body:aa bo}{g:TG}{t:D->aa D->Res (aa D)}{i:ah}{x:Str}{px pi pos:bz}{fk:FE}{rk:ap}{fb:FS}(hu:X.A.units+20<bE)(ho:own i=ai)(hp:ja (ax X.prog X.w) X.A X.env X.xe)(hc:X.calm=af)(hN:X.N[i]?=ae x)(hv:Vis X.env.scope x)(hk:PE X k (gE fk rk))(ht:TgS own g t)(hg:PG X tg g)(hb:PSs X body (tS own fb))
 (hpk:tH k:=by exact λ_ _=>rfl)(hs:∀z,eC (.Subscript (.Name x px) k pi) X.env z=pure z:=by intro _;rfl)(hd:nDb x:=by decide)(hcd:nCd x:=by decide):PS X (.For tg (.Subscript (.Name x px) k pi) body [] pos) (tS own (J9 i fk t fb)):=PS.imp (HS hp hc (aN4 hu hN hv hk hpk hd hcd) hg hb hs) λD' σ H ⟨ρ,fl,E,h,q⟩=>by
 obtain⟨d,h1,h⟩:=a_ h;obtain⟨kd,h2,h⟩:=a_ h;obtain⟨items,h3,h4⟩:=a_ h;obtain⟨v,hv,r,e⟩:=E.er.var h1;have hne:ρ.getD i .uD≠.uD:=λz=>by
  rw[z] at e;subst e;exact Rep.uD r
 obtain⟨w,hw,hr⟩:=E.at_ i hne;rw[hv] at hw;cases hw;have r2:=hr ho;rw[e] at r2;exact⟨ρ,v,d,kd,items,E.er,hv,r,h2,h3,λJ H1 sm hJ=>vM ht (E.same sm) (hJ _ (r2.same sm)) h4 (q.step (.same sm))⟩
end
end
def aAe(i:ah)(fk:FE):FS:=λρ=>do
 let k <- fk ρ
 match ρ.getD i .uD with
 |.dct kvs=>if fB k&&(bG kvs k).isNone&&ϒ (kvs.length<lim)&&kvs.all (λp=>aAa p.2) then .ok (.nx (ρ.set i (.dct (kvs++[(k,.lst [])])))) else .bad
 |_=>.bad
section
variable [KFrag]
variable {S:ah->ap}
section
variable {H H':Hp} {vs:aa V} {ds:aa D} {as bs:aa al} {kvs:aa (Key×V)} {es:aa (D×D)} {qb:ap}
theorem bL.xG(r:bL All H vs ds)(hp:θ ds=af)(k:∀a o,H a=ae o->a∉bs->H' a=ae o)(hm:∀a∈bs,∃o,H a=ae o/\uV o=af):bL All H' vs ds:=
 (r.bU (P':=λ_=>cy) hp).keep (λa o e z=>k a o e λha=>by
  rcases z with z|z
  ·exact z
  ·obtain⟨o',h1,h2⟩:=hm a ha;rw[e] at h1;cases h1;rw[z] at h2;cases h2) λ_ z=>z.elim
theorem InL.xG(h:InL H vs ds as)(k:∀a o,H a=ae o->a∉bs->H' a=ae o)(hm:∀a∈bs,∃o,H a=ae o/\uV o=af)(dj:∀a∈as,a∉bs):InL H' vs ds as:=by
 induction h with
 |nil=>exact .nil
 |cons e r p t ih=>exact .cons (k _ _ e (dj _ (bu ..))) (r.xG p k hm) p (ih λa ha=>dj a (bq _ ha))
theorem InK.xG(h:InK H kvs es as)(k:∀a o,H a=ae o->a∉bs->H' a=ae o)(hm:∀a∈bs,∃o,H a=ae o/\uV o=af)(dj:∀a∈as,a∉bs):InK H' kvs es as:=by
 induction h with
 |nil=>exact .nil
 |cons e r p t ih=>exact .cons (k _ _ e (dj _ (bu ..))) (r.xG p k hm) p (ih λa ha=>dj a (bq _ ha))
theorem InA.xG(h:InA H as vs ds)(k:∀a o,H a=ae o->a∉bs->H' a=ae o)(hm:∀a∈bs,∃o,H a=ae o/\uV o=af)(dj:∀a∈as,a∉bs):InA H' as vs ds:=by
 induction h with
 |nil=>exact .nil
 |cons m e r p t ih=>exact .cons m (k _ _ e (dj _ m)) (r.xG p k hm) p ih
theorem xF.xG{b:al}{d:D}(h:xF qb H b as d)(k:∀a o,H a=ae o->a∉bs->H' a=ae o)(hm:∀a∈bs,∃o,H a=ae o/\uV o=af)(dj:∀a∈b::as,a∉bs):xF qb H' b as d:=by
 have hb:=dj b (bu ..);have ha:∀a∈as,a∉bs:=λa h=>dj a (bq _ h)
 cases h with
 |lst e i=>exact .lst (k _ _ e hb) (i.xG k hm ha)
 |dct e i n=>exact .dct (k _ _ e hb) (i.xG k hm ha) n
 |pln z e m r p=>
  refine .pln z (k _ _ e hb) m ((r.aIo (P':=λc=>c=b) p rfl).keep (λc oc hc hp=>k c oc hc λhx=>?_) λ_ _=>trivial) p;rcases hp with hp|hp
  ·exact hb (hp▸hx)
  ·obtain⟨o',h1,h2⟩:=hm c hx;rw[hc] at h1;cases h1;rw[hp] at h2;cases h2
 |any z e i l=>exact .any z (k _ _ e hb) (i.xG k hm ha) λa h=>let ⟨ws,g⟩:=l a h;⟨ws,k _ _ g (ha a h)⟩
end
theorem NQ.grow{c:Cel}{H H':Hp}{σ:L2.St}{ρ:aa D}{i:ah}{b:al}{as as':aa al}{d:D}(E:NQ S c H σ ρ)(hc:c i=ae (b,as))(hs:∀a∈as',a∈as\/H a=ak)(nd:(b::as').Nodup)(hk:∀a o,H a=ae o->a∉b::as->H' a=ae o)(hn:xF (S (i+1000)) H' b as' d):∃c',NQ S c' H' σ (ρ.set i d)/\KC c H c' H':=by
 obtain⟨hσ,hN0⟩:=E.nst i b as hc;have own:∀a,uW (λj=>if j=i then ae (b,as') else c j) a->uW c a\/H a=ak:=λa ⟨j,b',as2,hj,ha⟩=>by
  by_cases e1:j=i
  ·simp only[e1,cb,ii,ij] at hj;obtain⟨rfl,rfl⟩:=hj;rcases bm.mp ha with rfl|ha
   ·exact .inl ⟨i,a,as,hc,bu ..⟩
   ·rcases hs a ha with h|h
    ·exact .inl ⟨i,b,as,hc,bq _ h⟩
    ·exact .inr h
  ·simp only[e1,b9] at hj;exact .inl ⟨j,b',as2,hj,ha⟩
 have k:KC c H (λj=>if j=i then ae (b,as') else c j) H':=λa o e n=>⟨hk a o e λz=>n ⟨i,b,as,hc,z⟩,λz=>by
  rcases own a z with z|z
  ·exact n z
  ·rw[z] at e;cases e⟩
 have hl:i<ρ.length:=by rw[<-E.len];exact(dy.mp hσ).1
 have apart:∀j b' as2,j≠i->c j=ae (b',as2)->∀a∈b'::as2,a∉b::as':=λj b' as2 hj hcj a ha z=>by
  rcases bm.mp z with rfl|z
  ·exact E.dj j i b' as2 a as hj hcj hc a ha (bu ..)
  ·rcases hs a z with h|h
   ·exact E.dj j i b' as2 b as hj hcj hc a ha (bq _ h)
   ·obtain⟨o,g,_⟩:=E.live ⟨j,b',as2,hcj,ha⟩;rw[h] at g;cases g
 refine⟨λj=>if j=i then ae (b,as') else c j,⟨by simp[E.len],λj p hj=>?_,λj b' as2 hj=>?_,λj1 j2 b1 as1 b2 as2 hne h1 h2 a ha=>?_,λj hj=>?_,λj b' as2 hj=>?_,λj hj hd=>?_⟩,k⟩
 ·by_cases e1:j=i
  ·rw[e1];exact E.dom i _ hc
  ·simp only[e1,b9] at hj;exact E.dom j p hj
 ·by_cases e1:j=i
  ·simp only[e1,cb,ii,ij] at hj;obtain⟨rfl,rfl⟩:=hj;exact nd
  ·simp only[e1,b9] at hj;exact E.nd j b' as2 hj
 ·by_cases e1:j1=i
  ·by_cases e2:j2=i
   ·exact bd (e1.trans e2.symm) hne
   ·simp only[e1,cb,ii,ij] at h1;simp only[e2,b9] at h2;obtain⟨rfl,rfl⟩:=h1;exact λz=>apart j2 b2 as2 e2 h2 a z ha
  ·simp only[e1,b9] at h1;by_cases e2:j2=i
   ·simp only[e2,cb,ii,ij] at h2;obtain⟨rfl,rfl⟩:=h2;exact apart j1 b1 as1 e1 h1 a ha
   ·simp only[e2,b9] at h2;exact E.dj j1 j2 b1 as1 b2 as2 hne h1 h2 a ha
 ·rw[bM] at hj ⊢;by_cases h:i=j/\i<ρ.length
  ·obtain⟨rfl,_⟩:=h;exact⟨_,hσ,λz=>by rw[E.dom i _ hc] at z;cases z⟩
  ·rw[av h] at hj ⊢;obtain⟨w,h1,h2⟩:=E.at_ j hj;exact⟨w,h1,λhs=>k.rep E (h2 hs)⟩
 ·by_cases e1:j=i
  ·subst e1;simp only[cb,ii,ij] at hj;obtain⟨rfl,rfl⟩:=hj;rw[bM,aq ⟨rfl,hl⟩];exact⟨hσ,hn⟩
  ·simp only[e1,b9] at hj;rw[bM,av λz=>e1 z.1.symm];obtain⟨h1,h2⟩:=E.nst j b' as2 hj;exact⟨h1,h2.xG (bs:=b::as) hk hN0.live λa ha=>E.dj j i b' as2 b as e1 hj hc a ha⟩
 ·by_cases e1:j=i
  ·exact⟨(b,as'),by simp[e1]⟩
  ·rw[bM,av λz=>e1 z.1.symm] at hd;obtain⟨p,hp⟩:=E.all j hj hd;exact⟨p,by simp[e1,hp]⟩
section
variable {X:Cx} {e:Expr} {pos pos':bz}
theorem aH6{i:ah}{x:Str}{p2:bz}(ho:S i=af)(hN:X.N.Nodup)(hi:X.N[i]?=ae x)(hx:Loc X.env.scope x)(hs:eh (.Dict [] [] p2) (ae (.Name x pos')) pos.line X.env=pure ai:=by rfl)(hf:X.fn x=af\/X.env.scope.names.lookup x=ae .local:=by first|exact .inl rfl|exact .inr rfl|assumption) :
  QS X (.Assign [.Name x pos'] (.Dict [] [] p2) pos) (tN S (aO1 i (.dct []))):=QS.mk λΨ s σ H D I ⟨c,ρ,fl,E,h,q⟩=>by
 cases h;have hl:i<σ.length:=by
  rw[I.len];exact(dy.mp hi).1
 refine HR hN hi hx RW hs hf Ψ s σ H D I λb hb=>?_
 obtain⟨c',E',k⟩:=E.new (i:=i) (b:=b) (as:=[]) (d:=.dct []) ho hl (b_.upd hb) (by simp) (λa ha=>by rw[eI.mp ha];exact hb) (.dct aH .nil ie);exact q c' _ _ k E'
theorem zW{kvs:aa (Key×V)}{k:Key}{v:V}(h:rH kvs k=ak):putK kvs k v=kvs++[(k,v)]:=by
 unfold putK;rw[av];rw[Bool.not_eq_true,List.any_eq_false];intro p hp z;have hz:p.1=k:=e9 z;unfold rH at h;rw[A1,A2] at h;exact h p hp (cu hz)
theorem InK.snoc{H:Hp}{kvs:aa (Key×V)}{es:aa (D×D)}{as:aa al}{k:Key}{a:al}{ws:aa V}{ys:aa D}(h:InK H kvs es as)(e:H a=ae (.lst ws))(r:bL All H ws ys)(p:θ ys=af):InK H (kvs++[(k,.ref a)]) (es++[(kD k,.lst ys)]) (as++[a]):=by
 induction h with
 |nil=>exact .cons e r p .nil
 |cons e' r' p' t ih=>exact .cons e' r' p' ih
theorem aH7{i:ah}{x:Str}{k:Expr}{fk:FE}{rk:ap}{p1 p4:bz}(hu:X.A.units+20<bE)(ho:S i=af)(hN:X.N[i]?=ae x)(hvi:Vis X.env.scope x)(hk:PE X k (gE fk rk))
 (hs:eh (.List [] p4) (ae (.Subscript (.Name x p1) k pos')) pos.line X.env=pure ai:=by rfl)(hd:nDb x:=by decide)(hcd:nCd x:=by decide) :
  QS X (.Assign [.Subscript (.Name x p1) k pos'] (.List [] p4) pos) (tN S (aAe i fk)):=QS.mk λΨ s σ H D' I ⟨c,ρ,fl,E,h,q⟩=>by
 obtain⟨kd,h1,h2⟩:=a_ h;split at h2
 rotate_left
 ·cases h2
 rename_i kvs hx;split at h2
 rotate_left
 ·cases h2
 rename_i hg;cases h2;simp only[bg] at hg;obtain⟨⟨⟨hg1,hg2⟩,hg3⟩,hg4⟩:=hg;obtain⟨kz,rfl⟩:=QL hg1;obtain⟨⟨b,as⟩,hc⟩:=E.all i ho (by rw[hx];intro z;cases z);obtain⟨hσ,hN0⟩:=E.nst i b as hc;have hnd:=E.nd i b as hc;rw[hx] at hN0;obtain⟨ks,eb,il,nk⟩:∃ks,H b=ae (.dK ks)/\InK H ks kvs as/\(ks.map (·.1)).Nodup:=by
  cases hN0 with
  |dct e i n=>exact⟨_,e,i,n⟩
  |pln z e m r p=>
   cases kvs with
   |cons d ds=>
    rw[inner,br,θ,bg] at p;rw[gi,bg] at hg4;obtain⟨d1,d2⟩:=d;cases d2<;>simp[aAa] at hg4
    rw[D.pure] at p;cases p.1
   |nil=>
    subst z;cases r with
    |dK e' _ rk n'=>cases rk;exact⟨[],e',.nil,ie⟩
    |dT e' _ _ _=>rw[e] at e';cases e';cases m
 have hno:rH ks kz=ak:=by
  rcases V2 (k:=kz) il.reps with ⟨w,d,_,h2,_⟩|⟨h,_⟩
  ·rw[h2] at hg2;cases hg2
  ·exact h
 refine Ay (thn (XR oZ Ψ s σ H (λv H1=>∃p,v=.ref p/\H p=ak/\H1=upd H p (.lst [])) I ⟨eR _,λp hp=>⟨p,rfl,hp,rfl⟩⟩) λrr s1 ⟨v,H1,I1,rv1,p,ev,hp,e1⟩=>
  thn (iZ hN hvi hd hcd Ψ s1 σ H1 (λw H2=>w=.ref b/\H2=H1) I1 ⟨_,hσ,rfl,rfl⟩) λu s2 ⟨xx,H2,I2,rx,ex,eH⟩=>
  thn (hk Ψ s2 σ H2 (λw H3=>b_ H2 H3/\Rep All H3 w (kD kz)) I2 ⟨ρ,_,by rw[eH,e1];exact E.er.same (b_.upd hp),h1,λv H1 s1 r1 _=>⟨s1,r1⟩⟩) λiv s3 ⟨y,H3,I3,ry,sm3,rp3⟩=>?_) hs
 subst ex eH e1 ev;obtain rfl:u=fI b:=rx;obtain rfl:=aAc rp3;have sm:b_ H H3:=(b_.upd hp).trans sm3;have ep3:H3 p=ae (.lst []):=sm3 _ _ aH;have hpb:p≠b:=λz=>by subst z;rw[eb] at hp;cases hp
 have hpas:p∉as:=λz=>by obtain⟨ws,g⟩:=il.live p z;rw[g] at hp;cases hp
 have hlen:=il.reps.length;refine JC (by lia) I3 (aCn.k (sm _ _ eb) (by have:=JT hg3;lia)) ry rv1 λs4 I5=>?_
 rw[zW hno] at I5;rw[dq] at hnd;obtain⟨c',E',k'⟩:=E.grow (i:=i) (as':=as++[p]) (H':=upd H3 b (.dK (ks++[(kz,.ref p)]))) (d:=.dct (kvs++[(kD kz,.lst [])])) hc (λa ha=>by
  rcases cS.mp ha with h|h
  ·exact .inl h
  ·rw[eI.mp h];exact .inr hp) (by
  rw[dq,cS,eI,gq];refine⟨λz=>z.elim hnd.1 (λz=>hpb z.symm),hnd.2,by simp,λu hu w hw q=>?_⟩;rw[eI.mp hw] at q;exact hpas (q▸hu)) (λa o e n=>by
  rw[aX (λz=>n (by rw[z];exact bu ..))];exact sm _ _ e) (.dct aH (((il.same sm).upd hnd.1 (sm _ _ eb) rfl).snoc (by rw[aX hpb];exact ep3) .nil rfl) (by
   rw[c5,gq];refine⟨nk,by simp,λu hu w hw q=>?_⟩;rw[List.map_singleton,eI] at hw;obtain⟨pr,hpr,rfl⟩:=b6.mp hu;unfold rH at hno;rw[A1,A2] at hno;exact hno pr hpr (cu (q.trans hw))))
 exact⟨σ,_,I5,q c' _ _ k' E'⟩
end
end
section
variable [KFrag]
section
variable {own:ah->ap} {a e:Expr}
theorem aN5(E:ES own H σ ρ)(ho:own i=ai)(h:jZ i ρ=.ok d):∃v,σ[i]?=ae (ae v)/\Rep (λa=>¬Own own σ a) H v d:=by
 obtain⟨v,hv,r,e⟩:=E.er.var h;have hne:ρ.getD i .uD≠.uD:=λz=>by
  rw[z] at e;subst e;exact Rep.uD r
 obtain⟨w,hw,hr⟩:=E.at_ i hne;rw[hv] at hw;cases hw;have r2:=hr ho;rw[e] at r2;exact⟨v,hv,r2⟩
end
section
variable {X:Cx} {a e:Expr}
theorem tZ{a:al}{vs:aa V}(I:Inv X Ψ σ H s)(e:H a=ae (.lst vs)):∃o,Inv X Ψ σ (upd H a (.frz o (.lst vs))) s:=by
 obtain⟨its,n,r,ho,hz⟩:=I.lst e;refine⟨_,I.write (by rw[e];trivial) (.inl rfl) (λ_ _ _ q=>q) ⟨_,ho⟩ ⟨ho,hz,its,n,r,ho⟩⟩
end
end
def V8(i:ah)(t:D->aa D->Res (aa D))(body:FS):FS:=λρ=>do
 let d <- jZ i ρ
 match d with
 |.scr xs=>mZ t body xs ρ
 |_=>.bad
variable [KFrag]
section
theorem aKn{i:ah}(hK:KFrag.K=X.K)(hN:X.N[i]?=ae x)(hv:Vis X.env.scope x)(hd:nDb x:=by decide)(hcd:nCd x:=by decide) :
  PI X tg (.Name x pos) (λσ H R=>∃v items,σ[i]?=ae (ae v)/\Rep All H v (.scr items)/\∀J,(∀P:al->Prop,Rep P H v (.scr items)->ItQ X.K P J H items)->R J H):=by
 rintro Ψ s σ H R I ⟨v,items,hσ,r,q⟩;refine thn (iZ hN hv hd hcd Ψ s σ H (λw H1=>w=v/\H1=H) I ⟨v,hσ,rfl,rfl⟩) λu s1 ⟨w,H1,I1,ru,e1,e2⟩=>?_
 subst e1 e2;obtain⟨a,xs,rfl,ee,rr⟩:=r.inv;cases ru;obtain⟨its,rv,p,hz⟩:=I1.list (ee.sq hK);refine kA p.isList ?_;refine⟨s1.heap.objs.size,[s1.heap.objs.size],_,_,H1,rfl,I1.kept λb o e=>cr _ e,vY a _,⟨_,di _ rfl,rfl,rfl⟩,λb hb=>?_,q _ λP r=>.scr a hK rfl r⟩;have e:b=s1.heap.objs.size:=by simpa using hb
 subst e;exact I1.aFi (ba _) (I1.hok.fresh (ba _))
theorem aAf(hK:KFrag.K=X.K)(ho:own i=ai)(hp:ja (ax X.prog X.w) X.A X.env X.xe)(hc:X.calm=af)(hN:X.N[i]?=ae x)(hv:Vis X.env.scope x)(ht:TgS own g t)(hg:PG X tg g)(hb:PSs X body (tS own fb))
 (hs:∀z,eC (.Name x px) X.env z=pure z:=by intro _;rfl)(hd:nDb x:=by decide)(hcd:nCd x:=by decide):PS X (.For tg (.Name x px) body [] pos) (tS own (V8 i t fb)):=PS.imp (HS hp hc (aKn hK hN hv hd hcd) hg hb hs) λD' σ H z0=>by
 obtain⟨ρ,fl,E,h,q⟩:=z0;obtain⟨d,h1,h⟩:=a_ h;split at h
 ·rename_i items;obtain⟨v,hv,r⟩:=aN5 E ho h1;exact⟨v,items,hv,r.all,λJ hJ=>vM ht E (hJ _ r) h q⟩
 ·exact bx h
end
end Mi
namespace Wl
open PySem PySem.Spec
noncomputable abbrev liO(xs:aw aj)(n:ah)(sl:aw (az aj):=#[]):bb:={cls:=.type "list",data:=.seq xs n,slots:=sl}
theorem aAg:l8 (.type "list") "keys"=pure ak:=by rw[rS,rV];kernel_rfl
theorem noGet:l8 (.type "list") "__getattr__"=pure ak:=by rw[rS,rV];kernel_rfl
theorem aAh:uv table "list.__getattribute__"=ae Builtin.«object.__getattribute__»:=A3 (id':= "object.__getattribute__") (by kernel_rfl) (by decide +kernel) (by decide +kernel) (by kernel_rfl)
theorem qY(a:al)(xs:aw aj)(n:ah)(sl:aw (az aj))(u:ff):kq (Builtin.«object.__getattribute__» ⟨[.ref a,.str "keys" u],[]⟩) (λA R s=>s.heap.get? a=ae (liO xs n sl)/\raisesAttr (.ref a) "keys" A R s):=.of_wp λprog w A R s hs=>by
 obtain⟨hp,g,d,tk,os⟩:=s;obtain⟨e,hh,q⟩:=hs;have ty:(⟨hp,g,d,tk,os⟩:ao).TypeIs (.ref a) "list":=⟨_,e,rfl⟩
 have no:=aAg
 wp_walk
 exact A4 hh q (A5 (by decide +kernel) (by size_fits))
section
variable {prog:bn} {w:bi} {A:bw} {E:aj->ao->Prop} {hp:aT} {g:aw kH} {d:kK} {tk:ah} {os:rX} {a:al} {xs:aw aj} {n:ah} {sl:aw (az aj)}
theorem gone(e:hp.get? a=ae (liO xs n sl))(hh:A.handled=ak)(hk:kw=[])(q:∀h' tk' x,A6 hp h' x (.ref a) "keys"->E (.ref x) ⟨h',g,d,tk',os⟩) :
  ϑ (ax prog w) A (call (.builtin "list.__getattribute__") ([.ref a]++[.str "keys" u]) kw) Q E ⟨hp,g,d,tk,os⟩:=by
 subst hk;exact jg ve ⟨_,e,rfl⟩ aAh (F.args_list_getattribute_2 _ _) (qY a xs n sl u) ⟨e,hh,λh' tk' x hx=>q h' tk' x hx⟩
theorem lacks(e:hp.get? a=ae (liO xs n sl))(hh:A.handled=ak)(q:∀h' tk',(∀b o,hp.get? b=ae o->h'.get? b=ae o)->Q ak ⟨h',g,d,tk',os⟩):ϑ (ax prog w) A (vf (.ref a) "keys") Q E ⟨hp,g,d,tk,os⟩:=by
 have ty:∀tk',(⟨hp,g,d,tk',os⟩:ao).TypeIs (.ref a) "list":=λ_=>⟨_,e,rfl⟩
 have f3:=ve.lookup;have f4:=ve.bind (.ref a);have f5:=noGet;have sub:=A7
 wp_walk using gone e hh
 case hk=>rfl
 intro h' tk' x hx;obtain⟨t,u,ex⟩:=hx.there;show ϑ _ _ (A8 _ _ _ _ _ _ _) _ _ _
 wp_walk
 exact q _ _ hx.keeps
end
theorem aEx{h:aT}(e:h.get? c=ae o)(hc:o.cls=.type T)(ed:h.get? d=ae od)(hd:od.cls=.type U)(ne:(lx T==lx U)=ai):c≠d:=λq=>by
 subst q;rw[e] at ed;cases ed;rw[hc] at hd;rw[hd] at ne;simp at ne
def Prs{prog:bn}{w:bi}{K:Type}[fg K](knd:KeyKind prog w K)(items:aw aj)(ps:aa (K×aj))(h:aT):Prop:=items.size=ps.length/\∀(i:ah)(kv:K×aj),ps[i]?=ae kv->∃(p:al)(x:aj)(o:bb)(n:ah),items[i]?=ae (fI p)/\h.get? p=ae o/\o.cls=.type "tuple"/\o.data=.seq #[x,kv.2] n/\knd.is kv.1 x=af
theorem Prs.keep[fg K]{knd:KeyKind prog w K}{ps:aa (K×aj)}{h h':aT}(x:Prs knd items ps h)(k:∀c o,o.cls=.type "tuple"->h.get? c=ae o->h'.get? c=ae o):Prs knd items ps h':=
 ⟨x.1,λi kv e=>let ⟨p,v,o,n,h1,h2,h3,h4,h5⟩:=x.2 i kv e;⟨p,v,o,n,h1,k p o h3 h2,h3,h4,h5⟩⟩
end Wl
namespace Wt
open PySem PySem.Spec Wl
noncomputable abbrev tpO(xs:aw aj)(n:ah)(sl:aw (az aj)):bb:={cls:=.type "tuple",data:=.seq xs n,slots:=sl}
theorem aAg:l8 (.type "tuple") "keys"=pure ak:=by rw[rS,rV];kernel_rfl
theorem noGet:l8 (.type "tuple") "__getattr__"=pure ak:=by rw[rS,rV];kernel_rfl
theorem aAh:uv table "tuple.__getattribute__"=ae Builtin.«object.__getattribute__»:=A3 (id':= "object.__getattribute__") (by kernel_rfl) (by decide +kernel) (by decide +kernel) (by kernel_rfl)
theorem qY(a:al)(xs:aw aj)(n:ah)(sl:aw (az aj))(u:ff):kq (Builtin.«object.__getattribute__» ⟨[.ref a,.str "keys" u],[]⟩) (λA R s=>s.heap.get? a=ae (tpO xs n sl)/\raisesAttr (.ref a) "keys" A R s):=.of_wp λprog w A R s hs=>by
 obtain⟨hp,g,d,tk,os⟩:=s;obtain⟨e,hh,q⟩:=hs;have ty:(⟨hp,g,d,tk,os⟩:ao).TypeIs (.ref a) "tuple":=⟨_,e,rfl⟩
 have no:=aAg
 wp_walk
 exact A4 hh q (A5 (by decide +kernel) (by size_fits))
section
variable {prog:bn} {w:bi} {A:bw} {E:aj->ao->Prop} {hp:aT} {g:aw kH} {d:kK} {tk:ah} {os:rX} {a:al} {xs:aw aj} {n:ah} {sl:aw (az aj)}
theorem gone(e:hp.get? a=ae (tpO xs n sl))(hh:A.handled=ak)(hk:kw=[])(q:∀h' tk' x,A6 hp h' x (.ref a) "keys"->E (.ref x) ⟨h',g,d,tk',os⟩) :
  ϑ (ax prog w) A (call (.builtin "tuple.__getattribute__") ([.ref a]++[.str "keys" u]) kw) Q E ⟨hp,g,d,tk,os⟩:=by
 subst hk;exact jg vg ⟨_,e,rfl⟩ aAh (F.args_tuple_getattribute_2 _ _) (qY a xs n sl u) ⟨e,hh,λh' tk' x hx=>q h' tk' x hx⟩
theorem lacks(e:hp.get? a=ae (tpO xs n sl))(hh:A.handled=ak)(q:∀h' tk',(∀b o,hp.get? b=ae o->h'.get? b=ae o)->Q ak ⟨h',g,d,tk',os⟩):ϑ (ax prog w) A (vf (.ref a) "keys") Q E ⟨hp,g,d,tk,os⟩:=by
 have ty:∀tk',(⟨hp,g,d,tk',os⟩:ao).TypeIs (.ref a) "tuple":=λ_=>⟨_,e,rfl⟩
 have f3:=vg.lookup;have f4:=vg.bind (.ref a);have f5:=noGet;have sub:=A7
 wp_walk using gone e hh
 case hk=>rfl
 intro h' tk' x hx;obtain⟨t,u,ex⟩:=hx.there;show ϑ _ _ (A8 _ _ _ _ _ _ _) _ _ _
 wp_walk
 exact q _ _ hx.keeps
end
end Wt
namespace Wl
open PySem PySem.Spec
section
variable {prog:bn} {w:bi} {A:bw} {E:aj->ao->Prop} {hp:aT} {g:aw kH} {d:kK} {tk:ah} {os:rX} {a:al} {xs:aw aj} {n:ah} {sl:aw (az aj)}
noncomputable def tyN:ap->dm
 |true=>"list"
 |false=>"tuple"
abbrev sqO(b:ap)(xs:aw aj)(n:ah)(sl:aw (az aj)):bb:={cls:=.type (tyN b),data:=.seq xs n,slots:=sl}
def aEy:ap->aT->al->al->ah->Prop
 |true,h,it,l,k=>h.IsListIter it l k
 |false,h,it,l,k=>h.IsTupleIter it l k
theorem aKo(z:aEy b h it l k)(e:h.get? c=ae o)(hc:o.cls=.type "tuple"):c≠it:=by
 cases b<;>exact let ⟨oi,ei,ci,_⟩:=z;aEx e hc ei ci (by decide)
theorem aH8(z:aEy b h it l k)(e:h'.get? it=h.get? it):aEy b h' it l k:=by
 cases b<;>exact let ⟨oi,ei,r⟩:=z;⟨oi,e.trans ei,r⟩
theorem aKp(e:hp.get? a=ae (sqO b xs n sl))(hh:A.handled=ak)(q:∀h' tk',(∀b o,hp.get? b=ae o->h'.get? b=ae o)->Q ak ⟨h',g,d,tk',os⟩):ϑ (ax prog w) A (vf (.ref a) "keys") Q E ⟨hp,g,d,tk,os⟩:=by
 cases b
 ·exact Wt.lacks e hh q
 ·exact lacks e hh q
end
section
variable {prog:bn} {w:bi} {A:bw} {E:aj->ao->Prop} {s:ao} {it l:al} {items:aw aj} {nl k:ah} {sl:aw (az aj)}
theorem aH9{Q:az aj->ao->Prop}(z:aEy b s.heap it l k)(el:s.heap.get? l=ae (sqO b items nl sl))(hx:items[k]?=ae x)(hQ:∀h',aEy b h' it l (k+1)->kM it s.heap h'->Q (ae x) {s with heap:=h'}):ϑ (ax prog w) A (fu (.ref it)) Q E s:=by
 cases b
 ·exact we z ⟨_,el,rfl,_,rfl⟩ hx hQ
 ·exact wc z ⟨_,el,rfl,_,rfl⟩ hx hQ
theorem aKq{Q:az aj->ao->Prop}(hh:A.handled=ak)(z:aEy b s.heap it l k)(el:s.heap.get? l=ae (sqO b items nl sl))(hx:items[k]?=ak)(hQ:∀h',AR it s.heap h'->Q ak {s with heap:=h'}):ϑ (ax prog w) A (fu (.ref it)) Q E s:=by
 cases b
 ·exact wg hh z ⟨_,el,rfl,_,rfl⟩ hx hQ
 ·exact wd hh z ⟨_,el,rfl,_,rfl⟩ hx hQ
theorem aN6{Q:aj->ao->Prop}(el:s.heap.get? l=ae (sqO b items nl sl))(hQ:∀oi,aEy b (s.heap.push oi) s.heap.objs.size l 0->Q (.ref s.heap.objs.size) {s with heap:=s.heap.push oi}):ϑ (ax prog w) A (fS (.ref l)) Q E s:=by
 cases b
 ·exact rg ⟨_,el,rfl,_,rfl⟩ (hQ _ ⟨_,di _ rfl,rfl,rfl⟩)
 ·exact kA ⟨_,el,rfl,_,rfl⟩ (hQ _ ⟨_,di _ rfl,rfl,rfl⟩)
end
section
variable {prog:bn} {w:bi} {K:Type} [fg K] {knd:KeyKind prog w K} {A:bw} {R:Except aj Flow->ao->Prop} {it l d:al} {items:aw aj} {ps:aa (K×aj)} {nl:ah} {sl:aw (az aj)}
theorem aDl(hh:A.handled=ak)(hdi:d≠it)(hdl:d≠l)(hil:l≠it) :
  ∀(m k:ah)(s:ao)(kvs:aa (K×aj)),k+m=items.size->kvs.length+m<=bj->aEy b s.heap it l k->s.heap.get? l=ae (sqO b items nl sl)->Prs knd items ps s.heap->s.heap.DictOf knd d kvs->
  (∀h' tk,h'.DictOf knd d (n9 kvs (ps.drop k))->(∀c o,c≠d->c≠it->s.heap.get? c=ae o->h'.get? c=ae o)->R (.ok (.ret .none)) {s with heap:=h',toks:=tk})->
  codeAny (ax prog w) A (.builtin "dict.update.loop" ⟨[.ref d,.ref it,gX k,.none],[]⟩) R s:=by
 intro m;induction m with
 |zero=>
  intro k s kvs hkm hl Z el Pp hd q;refine gn Wz.J8 ?_;rw[gS (show plainId "dict.update.loop"=af by decide +kernel) _];refine ay (aKq hh Z el (va (by lia)) λh' kp=>?_);refine ay ?_;unfold B3;rw[yb];refine ay (bf (bf (bf ?_)));have e:ps.drop k=[]:=rh (by have:=Pp.1;lia);rw[e] at q;obtain⟨o,es,ep,ho,r⟩:=hd;exact q _ s.toks ⟨o,es,ep,kp d o hdi ho,r⟩ λc o _ c1 e=>kp c o c1 e
 |succ m ih=>
  intro k s kvs hkm hl Z el Pp hd q;have hlp:k<ps.length:=by have:=Pp.1;lia
  obtain⟨p,x,o,n,hi,hp,hpc,hpd,his⟩:=Pp.2 k ps[k] (dz hlp);have hpi:p≠it:=aKo Z hp hpc;refine gn Wz.J8 ?_;rw[gS (show plainId "dict.update.loop"=af by decide +kernel) _];refine ay (aH9 Z el hi λh' Z' kp=>?_);have hp':h'.get? p=ae o:=(kp.2 p hpi).trans hp;refine ay (gv (ay (i7 ?_)));refine ay (ti ⟨_,hp',hpc⟩ ?_);rw[aq (by decide)];refine ay (kx hp' hpd (bf ?_));show ϑ _ _ (sF [x,ps[k].2] (dictSet d x ps[k].2)) _ _ _;have hd':h'.DictOf knd d kvs:=let ⟨o,es,ep,ho,r⟩:=hd;⟨o,es,ep,(kp.2 d hdi).trans ho,r⟩
  obtain⟨od,es,ep,ho,hc,_⟩:=id hd';refine gv (wpAny_dictSet_pairs his hd' (λh2 hd2' sb=>?_) (by lia));refine bf ⟨vd _ (by decide +kernel),?_⟩;have ek:(gX (k+1):aj)=gX ((k+1:ah):ag):=rfl;rw[ek];have hdrop:ps.drop k=ps[k]::ps.drop (k+1):=gz hlp;have ls:(lc kvs ps[k].1 ps[k].2).length<=kvs.length+1:=by
   unfold lc;split
   ·rw[aI];lia
   ·rw[cw];exact ba _
  have keep:∀c o,c≠d->c≠it->s.heap.get? c=ae o->h2.get? c=ae o:=λc o c0 c1 e=>(sb.2 c c0).trans ((kp.2 c c1).trans e)
  have hdc:∀c (oc:bb),oc.cls=.type "tuple"->s.heap.get? c=ae oc->c≠d/\c≠it:=λc oc hoc e=>⟨let ⟨o1,_,_,e1,c1,_⟩:=hd;aEx e hoc e1 c1.1 (by decide),aKo Z e hoc⟩
  refine ih (k+1) _ (lc kvs ps[k].1 ps[k].2) (by lia) (by lia) (aH8 Z' (sb.2 it (Ne.symm hdi))) (keep l _ (Ne.symm hdl) hil el) (Pp.keep λc oc hoc e=>keep c oc (hdc c oc hoc e).1 (hdc c oc hoc e).2 e) hd2' λh3 tk hd3 kp3=>?_
  exact q h3 tk (by rw[hdrop];exact hd3) λc o c0 c1 e=>kp3 c o c0 c1 (keep c o c0 c1 e)
end
section
variable {prog:bn} {w:bi} {K:Type} [fg K] {knd:KeyKind prog w K} {A:bw} {E:aj->ao->Prop} {hp:aT} {g:aw kH} {dr:kK} {tk:ah} {os:rX} {l:al} {items:aw aj} {ps:aa (K×aj)} {nl:ah} {sl:aw (az aj)}
theorem aDm(hh:A.handled=ak)(el:hp.get? l=ae (sqO b items nl sl))(Pp:Prs knd items ps hp)(hz:items.size<=1000000)
 (q:∀h' tk',h'.DictOf knd hp.objs.size (n9 [] ps)->(∀c o,hp.get? c=ae o->h'.get? c=ae o)->Q (.ref hp.objs.size) ⟨h',g,dr,tk',os⟩) :
  ϑ (ax prog w) A (call (.type "dict") [.ref l]) Q E ⟨hp,g,dr,tk,os⟩:=by
 have hnew:(hp.push {cls:=.type "dict",data:=.dict #[]}).DictOf knd hp.objs.size []:=xp hp;have up:∀c o,hp.get? c=ae o->(hp.push {cls:=.type "dict",data:=.dict #[]}).get? c=ae o:=λc o e=>cr _ e
 have lt:∀{c o},hp.get? c=ae o->hp.objs.size≠c:=λe=>jS (bS e)
 refine callType_codes (Q₁:=λv s₁=>v=.ref hp.objs.size/\s₁=⟨hp.push {cls:=.type "dict",data:=.dict #[]},g,dr,tk,os⟩) F.kt_called_dict (F.kt_typeCall_dict_1 _) F.entry_dict_init (kt_code_dict_new _ ⟨rfl,rfl⟩) λv s₁ hv=>?_
 obtain⟨rfl,rfl⟩:=hv;have ty:(⟨hp.push {cls:=.type "dict",data:=.dict #[]},g,dr,tk,os⟩:ao).TypeIs (.ref hp.objs.size) "dict":=hnew.typeIs;have ez:=up _ _ el;have tz:(⟨hp.push {cls:=.type "dict",data:=.dict #[]},g,dr,tk,os⟩:ao).TypeIs (.ref l) (tyN b):=⟨_,ez,rfl⟩
 refine⟨ty,F.args_dict_init_2 _ _,ay (ay (AH ty (bf ?_)))⟩;refine ay (ti tz ?_);rw[aq (by cases b<;>decide)];refine ay (aKp ez hh λh' tk' kp=>?_);rw[aq (show(ak:az aj).isNone=af from rfl)];refine ay (jl (ay (aN6 (kp _ _ ez) λoi z0=>bf ⟨vd _ (by decide +kernel),?_⟩)));have hd':h'.DictOf knd hp.objs.size []:=let ⟨o,es,ep,ho,r⟩:=hnew;⟨o,es,ep,kp _ _ ho,r⟩
 have ltd:hp.objs.size<h'.objs.size:=let ⟨o,es,ep,ho,r⟩:=hd';bS ho
 have ltl:l<h'.objs.size:=bS (kp _ _ ez);refine aDl (ps:=ps) (it:=h'.objs.size) (l:=l) (items:=items) (nl:=nl) (sl:=sl) (show A.in1.handled=ak from hh) (c9 ltd) (lt el) (c9 ltl) items.size 0 _ [] (by lia) (by rw[eT,eD];lia) z0 (cr _ (kp _ _ ez)) (Pp.keep λc o _ e=>cr _ (kp c o (up c o e))) (let ⟨o,es,ep,ho,r⟩:=hd';⟨o,es,ep,cr _ ho,r⟩) λh2 tk2 hd2 kp2=>?_
 exact⟨rfl,q h2 tk2 hd2 λc o e=>kp2 c o (λx=>lt e x.symm) (c9 (bS (kp c o (up c o e)))) (cr _ (kp c o (up c o e)))⟩
end
end Wl
namespace Mi
open PySem L2 PySem.SeqAt PySem.Spec PyProof.Rows
def mL:aa D->az (aa (D×D))
 |[]=>ae []
 |.tup [k,v]::r=>if fB k&&v.pure then (mL r).map ((k,v)::·) else ak
 |_::_=>ak
def dD(kvs:aa (D×D))(more:aa (D×D)):aa (D×D):=more.foldl (λacc p=>putD acc p.1 p.2) kvs
def J_:D->Res D
 |.lst xs=>match mL xs with
  |some ps=>if ϒ (xs.length<=1000) then .ok (.dct (dD [] ps)) else .bad
  |none=>.bad
 |_=>.bad
section
variable [KFrag]
theorem TY(I:Inv X Ψ σ H s):∀{xs:aa D}{vs:aa V}{us:aa aj}{ps:aa (D×D)},bL All H vs xs->Vals vs us->mL xs=ae ps->
  ∃(kvs:aa (Key×V))(prs:aa (Key×aj)),KV kvs prs/\kE All H kvs ps/\θ (ps.map (·.2))=af/\us.length=prs.length/\∀(i:ah)(kv:Key×aj),prs[i]?=ae kv->∃(p:al)(x:aj)(o:bb)(n:ah),us[i]?=ae (fI p)/\s.heap.get? p=ae o/\o.cls=.type "tuple"/\o.data=.seq #[x,kv.2] n/\(cL X.prog X.w).is kv.1 x=af
 |[],_,_,_,.nil,.nil,h=>by
  cases h;exact⟨[],[],.nil,.nil,rfl,rfl,λi kv h=>by simp at h⟩
 |d::xs,_,_,ps,.cons r t,.cons rv tv,h=>by
  unfold mL at h;split at h
  ·rename_i h0;cases h0
  ·rename_i k v r' h0;injection h0 with h0 h1
   subst h0 h1;split at h
   ·rename_i hf;rw[bg] at hf;obtain⟨ps',hp,rfl⟩:=lf.mp h;obtain⟨kvs,prs,g1,g2,g3,g4,g5⟩:=TY I t tv hp;obtain⟨a,ws,rfl,ea,rr⟩:=r.fO;cases rv;obtain⟨its,rvs,o,ho,hc,n,hd⟩:=fY I ea;cases rr with
    |cons rk rr=>
     cases rr with
     |cons rw_ rr=>
      cases rr;cases rvs with
      |cons q1 rvs=>
       cases rvs with
       |cons q2 rvs=>
        cases rvs;rename_i wk ww uk uw;obtain⟨key,hk1,hk2⟩:∃key:Key,kD key=k/\(cL X.prog X.w).is key uk=af:=by
         cases rk with
         |int i=>exact⟨.inl i,rfl,IW q1⟩
         |str x=>exact⟨.inr x,rfl,IW q1⟩
         |_=>cases hf.1
        subst hk1;refine⟨(key,ww)::kvs,(key,uw)::prs,.cons ⟨rfl,q2⟩ g1,.cons rw_ g2,by rw[br,θ,hf.2,g3];rfl,by rw[ck,ck,g4],λi kv hi=>?_⟩;cases i with
        |zero=>
         simp at hi;subst hi;exact⟨a,uk,o,n,rfl,ho,hc,hd,hk2⟩
        |succ i=>
         obtain⟨p,x,o',n',z1,z2⟩:=g5 i kv (by simpa using hi);exact⟨p,x,o',n',by simpa using z1,z2⟩
   ·cases h
  ·cases h
theorem zJ:∀{more:aa (Key×V)}{ds:aa (D×D)}{kvs:aa (Key×V)}{es:aa (D×D)},kE P H more ds->kE P H kvs es->(kvs.map (·.1)).Nodup->kE P H (fP kvs more) (dD es ds)/\((fP kvs more).map (·.1)).Nodup
 |_,_,_,_,.nil,r,n=>⟨r,n⟩
 |_,_,_,_,.cons (k:=k) rv t,r,n=>by have:=zJ t (TV (k:=k) rv r n) (kY n);exact this
theorem uL:∀{ds es:aa (D×D)},θ (ds.map (·.2))=af->θ (es.map (·.2))=af->θ ((dD es ds).map (·.2))=af
 |[],_,_,h=>h
 | (k,v)::ds,es,h,h2=>by
  rw[br,θ,bg] at h;exact uL (ds:=ds) h.2 (tV h.1 h2)
section
theorem aEz{f:D->Res D}(hf:∀d0 d,f d0=.ok d->∃xs ps,(d0=.lst xs\/d0=.tup xs)/\mL xs=ae ps/\xs.length<=1000/\d=.dct (dD [] ps))(hc:X.calm=af)(hg:Gl X "dict")(hm:X.mg "dict"=ak)(he:PE X e (gE fe re))(hs:bp [e] X.env=[(ai,bP e X.env)]:=by rfl) :
  PE X (.Call (.Name "dict" p) [e] [] pos) (gE (b1 f fe) af):=by
 rintro Ψ s σ H Q I ⟨ρ,d,E,h,q⟩;obtain⟨d0,h1,h2⟩:=a_ h;obtain⟨xs,ps,h0,hps,hb,rfl⟩:=hf _ _ h2;refine kb (uF I hg hm aDc ?_);refine l5 ?_ hs rfl;rw[hs];show ϑ _ _ (sv [(ai,bP e X.env)]) _ _ s;refine wy (thn (he Ψ s σ H (λv H1=>b_ H H1/\Rep All H1 v d0) I ⟨ρ,_,E,h1,λv H1 s1 r1 _=>⟨s1,r1⟩⟩) λu s1 ⟨x,H1,I1,ru,sm,rx⟩=>?_);obtain⟨a,vs,its,b,nl,sl,rfl,rr,rv,hl⟩:∃a vs its b nl sl,x=.ref a/\bL All H1 vs xs/\Vals vs its/\s1.heap.get? a=ae (Wl.sqO b its.toArray nl sl):=by
  rcases h0 with rfl|rfl
  ·obtain⟨_,_,rfl,e,p,r⟩:=rx.inv;obtain⟨hz,its,nl,rv,hl⟩:_/\∃(its:aa aj)(n:ah),Vals _ its/\s1.heap.get? _=ae {cls:=.type "list",data:=.seq its.toArray n}:=I1.hok _ _ e;exact⟨_,_,its,af,nl,_,rfl,r,rv,hl⟩
  ·obtain⟨a,vs,rfl,ea,rr⟩:=rx.fO;obtain⟨hz,its,rv,⟨cl,dd,da,sl⟩,hl,e1,nl,e2⟩:vs.length<=bj/\∃its:aa aj,Vals vs its/\j8 s1.heap a its.toArray:=I1.hok a _ ea;simp only[ij] at e1 e2;obtain⟨e2,e3⟩:=e2;subst e1 e2 e3;exact⟨_,_,its,ai,nl,sl,rfl,rr,rv,hl⟩
 cases ru;refine wx ?_;obtain⟨kvs,prs,g1,g2,g3,g4,g5⟩:=TY I1 rr rv hps;have hlen:its.length<=1000:=by rw[<-rv.length,rr.length];exact hb
 obtain⟨hp,g,dr,tk,os⟩:=s1;refine Wl.aDm (knd:=cL X.prog X.w) (ps:=prs) (items:=its.toArray) (I1.ok.hd hc) hl ⟨by rw[cg];exact g4,λi kv hi=>?_⟩ (by rw[cg];lia) λh' tk' hd kp=>?_
 ·obtain⟨p,x,o,n,z1,z2⟩:=g5 i kv hi;exact⟨p,x,o,n,by simpa using z1,z2⟩
 ·have hfr:H1 hp.objs.size=ak:=I1.hok.fresh (ba _);have rel:KV (fP [] kvs) (n9 [] prs):=g1.merge .nil;have hz2:(fP [] kvs).length<=bj:=by
   have:=lG kvs [];have l1:kvs.length=prs.length:=kF g1;rw[eT] at this;rw[eD];lia
  obtain⟨rk,nd⟩:=zJ (kvs:=[]) g2 kE.nil ie;have sp:b_ H1 (upd H1 hp.objs.size (.dK (fP [] kvs))):=b_.upd hfr;have rk2:∀{P:al->Prop},kE P (upd H1 hp.objs.size (.dK (fP [] kvs))) (fP [] kvs) (dD [] ps):=λ{P}=>(rk.keep (.same sp) λ_ h=>h).bU (uL g3 rfl)
  refine⟨.ref hp.objs.size,_,I1.laid (a:=hp.objs.size) (t':=tk') (o:=.dK (fP [] kvs)) kp (ba _) (YC hz2 (sn.mpr ?_) rel hd),rfl,?_⟩
  ·exact Ne.symm (c9 I1.big)
  ·exact q _ _ (sm.trans sp) (.dK aH trivial rk2 nd) λ_=>.dK aH (sm.free hfr) rk2 nd
theorem aAi(hc:X.calm=af)(hg:Gl X "dict")(hm:X.mg "dict"=ak)(he:PE X e (gE fe re))(hs:bp [e] X.env=[(ai,bP e X.env)]:=by rfl) :
  PE X (.Call (.Name "dict" p) [e] [] pos) (gE (b1 J_ fe) af):=aEz (λd0 d h=>by
 unfold J_ at h
 repeat' split at h
 ·rename_i h1 h2;exact⟨_,_,.inl rfl,h1,e9 h2,(Res.ok.inj h).symm⟩
 all_goals exact bx h) hc hg hm he hs
end
end
def bFz(f:FE):FE:=λρ=>do
 let d <- f ρ
 match d with
 |.lst xs=>if θ xs then .ok (.scr xs) else .bad
 |_=>.bad
section
variable [KFrag]
section
variable {X:Cx} {e:Expr} {f:FE}
def tFz(t:TE):TE:=λσ H Q=>t σ H λv H1=>∃a vs,v=.ref a/\H1 a=ae (.lst vs)/\∀o,Q v (upd H1 a (.frz o (.lst vs)))
theorem aN7(h:PE X e t):PE X e (tFz t):=by
 intro Ψ s σ H Q I q;refine eL (h Ψ s σ H _ (I.wish _) q) (λu s1 ⟨v,H1,I1,r,a,vs,ev,ea,k⟩=>?_) λ_ _ z=>z
 obtain⟨o,I2⟩:=tZ I1 ea;exact⟨v,_,I2,r,k o⟩
theorem aKr(h:PE X e (gE f af)):PE X e (gE (bFz f) af):=PE.imp (aN7 h) λσ H Q ⟨ρ,d,E,h,q⟩=>by
 obtain⟨d0,h1,h2⟩:=a_ h;split at h2
 ·rename_i xs;split at h2
  ·rename_i hp;cases h2;refine⟨ρ,_,E,h1,λv H1 s1 r n=>?_⟩;cases n rfl with
   |@lst a vs _ ea pa ra=>
    refine⟨a,vs,rfl,ea,λo=>?_⟩;have noT:∀ob,H1 a=ae ob->aG8 ob=af:=λob z=>by rw[ea] at z;cases z;rfl
    have s2:b_ H (upd H1 a (.frz o (.lst vs))):=λb ob eb=>by
     rw[aX (λz=>by rw[z,show H a=ak from pa] at eb;cases eb)];exact s1 b ob eb
    have rp:∀P:al->Prop,Rep P (upd H1 a (.frz o (.lst vs))) (.ref a) (.scr xs):=λP=>.frz (.inl ⟨o,aH⟩) ((J7 noT ra hp).bU hp)
    exact q _ _ s2 (rp _) λ_=>rp _
  ·exact bx h2
 ·exact bx h2
end
end
def aF0(f:FE):FI:=λρ=>do
 let d <- f ρ
 match d with
 |.scr xs=>if θ xs then .ok (xs,af) else .bad
 |_=>.bad
noncomputable def fH(own:ah->ap)(i:ah):ah->ap:=λj=>own j||j==i
def aHa(i:ah)(f:FE)(g:FS):FS:=λρ=>do
 let d <- f ρ
 match d with
 |.lst xs=>if θ xs then g (ρ.set i (.lst xs)) else .bad
 |_=>.bad
noncomputable def uX(f g:FS):FS:=λρ=>do
 let r <- f ρ
 match r with
 |.nx ρ'=>g ρ'
 |.rt d=>.ok (.rt d)
 |_=>.bad
noncomputable def DY(i:ah)(g:FS):FS:=λρ=>match ρ.getD i .uD with
 |.lst xs=>g (ρ.set i (.scr xs))
 |_=>.bad
noncomputable def KD(i:ah)(g:FS):FS:=λρ=>match ρ.getD i .uD with
 |.lst xs=>(do
   let r <- g (ρ.set i (.scr xs))
   match r with
   |.rt d=>.ok (.rt d)
   |_=>.bad)
 |_=>.bad
def aAj(i:ah)(f:FE):FS:=λρ=>do
 let d <- f ρ
 match ρ.getD i .uD,d with
 |.lst xs,.scr ys=>if ϒ (xs.length+ys.length<=lim)&&θ ys then .ok (.nx (ρ.set i (.lst (xs++ys)))) else .bad
 |_,_=>.bad
def aO3:D->D->D->D->Res D
 |.int a,.int i,.int b,.int j=>.ok (.dct (putD [(.int a,.int i)] (.int b) (.int j)))
 |_,_,_,_=>.bad
def aKs(k v l w:FE):FE:=λρ=>do
 let k <- k ρ
 let v <- v ρ
 let l <- l ρ
 let w <- w ρ
 aO3 k v l w
noncomputable def D_:aa D->Res D
 |[.int m,.int n]=>if ϒ (-1000000<=m)&&ϒ (m<=1000000)&&ϒ (-1000000<=n)&&ϒ (n<=1000000) then .ok (.lst ((cq (n-m).toNat).map λ(k:ah)=>δ (m+k))) else .bad
 |_=>.bad
theorem aHb(l:al)(items:aw aj)(n:ah)(b:al)(items2:aw aj)(n2:ah)(sm:aw (az aj))(hc0:¬(!items.isEmpty&&ma (items.size+items2.size))=af)(hc1:items.size<=bj)(hs2:items.size+items2.size<=bj+1) :
  kq (Builtin.«list.extend» ⟨[.ref l,.ref b],[]⟩) (λ_ R s=>s.heap.get? l=ae {cls:=.type "list",dict:=ak,data:=.seq items n,slots:=#[]}/\s.heap.get? b=ae {cls:=.type "list",dict:=ak,data:=.seq items2 n2,slots:=sm}/\R (.ok (.ret jy)) {s with heap:=s.heap.update l (fA λx=>x++items2),toks:=s.toks}):=
 .of_wp λprog w A R s h=>by
  obtain⟨hp,g,d,tk,os⟩:=s;obtain⟨hl,hb,h⟩:=h;have f3:=zn;have hz':(items++items2).size<=bj+1:=by rw[AB];exact hs2
  wp_walk using (ky hl rfl (hz:=hc1) (_hz':=hz')),wpAny_loadPart' hl,wpAny_loadPart' hb;exact⟨_,rfl,h⟩
section
variable [KFrag]
section
variable {X:Cx} {own:ah->ap} {e:Expr} {fe f:FE} {g g1:FS}
theorem aAk{tg l:Expr}(hK:KFrag.K=X.K)(hl:PE X l (gE f rl)):PI X tg l (gI X.K (aF0 f)):=by
 intro Ψ s σ H R I ⟨ρ,items,k,E,h,q⟩;obtain⟨d,h1,h⟩:=a_ h;split at h
 ·rename_i its;split at h
  ·rename_i hpu;cases h;refine thn (hl Ψ s σ H (λv H1=>b_ H H1/\Rep All H1 v (.scr items)) I ⟨ρ,_,E,h1,λv H1 s1 r1 _=>⟨s1,r1⟩⟩) λu s1 ⟨v,H1,I1,ru,sm,r1⟩=>?_
   obtain⟨a,xs,rfl,ee,rr⟩:=r1.inv;cases ru;obtain⟨its,rv,p,hz⟩:=I1.list (ee.sq hK);refine kA p.isList ?_;refine⟨s1.heap.objs.size,[s1.heap.objs.size],_,_,H1,rfl,I1.kept λb o e=>cr _ e,vY a _,⟨_,di _ rfl,rfl,rfl⟩,λb hb=>?_,q _ H1 sm (.scr a hK rfl r1) λ_=>.scr a hK rfl (r1.bU ?_)⟩
   ·have e:b=s1.heap.objs.size:=by simpa using hb
    subst e;exact I1.aFi (ba _) (I1.hok.fresh (ba _))
   ·exact hpu
  ·exact bx h
 ·exact bx h
theorem vP:fH own i i=af:=by unfold fH;simp
theorem sI(h:fH own i j=af):own j=af\/j=i:=by
 unfold fH at h;simpa using h
theorem nD(h:own j=af):fH own i j=af:=by unfold fH;rw[h];rfl
theorem Own.to(h:Own own σ b):Own (fH own i) σ b:=by
 obtain⟨j,hj,e⟩:=h;exact⟨j,nD hj,e⟩
theorem V9(ho:own i=ai):nC (fH own i) i=own:=by
 funext j
 unfold nC fH;by_cases h:j=i
 ·subst h;rw[ho];simp
 ·have:(j==i)=ai:=by simpa using h
  rw[this,tm];simp
def KL(own:ah->ap)(i:ah)(σ:L2.St)(H:Hp)(σ':L2.St)(H':Hp):Prop:=∀a o,H a=ae o->¬Own (fH own i) σ a->H' a=ae o/\¬Own own σ' a
def kL(own:ah->ap)(i:ah)(D:Ends)(σ:L2.St)(H:Hp):Fl->Prop
 |.nx ρ=>∀σ' H',KL own i σ H σ' H'->ES own H' σ' ρ->D.nx σ' H'
 |.bk ρ=>∀σ' H',KL own i σ H σ' H'->ES own H' σ' ρ->D.bk σ' H'
 |.ct ρ=>∀σ' H',KL own i σ H σ' H'->ES own H' σ' ρ->D.ct σ' H'
 |.rt d=>kRt (fH own i) D σ H d
theorem kL.step{D:Ends}{σ σ':L2.St}{H H':Hp}{fl:Fl}(k:KU (fH own i) σ H σ' H')(h:kL own i D σ H fl):kL own i D σ' H' fl:=by
 cases fl with
 |nx ρ=>exact λσ2 H2 k2 e=>h σ2 H2 (λa o e n=>let ⟨e1,n1⟩:=k a o e n;k2 a o e1 n1) e
 |bk ρ=>exact λσ2 H2 k2 e=>h σ2 H2 (λa o e n=>let ⟨e1,n1⟩:=k a o e n;k2 a o e1 n1) e
 |ct ρ=>exact λσ2 H2 k2 e=>h σ2 H2 (λa o e n=>let ⟨e1,n1⟩:=k a o e n;k2 a o e1 n1) e
 |rt d=>exact kS.step (fl:=.rt d) k h
def tL(own:ah->ap)(i:ah)(f:FS):TS:=λD σ H=>∃ρ fl,ES (fH own i) H σ ρ/\f ρ=.ok fl/\kL own i D σ H fl
theorem EY{st:bo}{rest:aa bo}(h1:PS X st (tS (fH own i) g1))(h2:PSs X rest (tL own i g)):PSs X (st::rest) (tL own i (uX g1 g)):=PSs.imp (u_ h1 h2) λD σ H z=>by
 obtain⟨ρ,fl,E,h,q⟩:=z;obtain⟨r,h1,h2⟩:=a_ h;refine⟨ρ,r,E,h1,?_⟩;cases r with
 |nx ρ'=>exact λσ' H' k E'=>⟨ρ',fl,E',h2,q.step k⟩
 |bk ρ'=>exact bx h2
 |ct ρ'=>exact bx h2
 |rt d=>cases h2;exact q
theorem aF1(E:ES own H σ ρ)(ho:own i=af)(hσ:σ[i]?=ae (ae (.ref a)))(hd:ρ.getD i .uD=.lst ds)(hua:H a=ae (.lst vs))(rr:bL All H vs ds):ES (nC own i) (upd H a (.frz o (.lst vs))) σ (ρ.set i (.scr ds))/\¬Own (nC own i) σ a:=by
 obtain⟨a',oa,ea,ra,hin,hHa,hma,huq⟩:=E.own i _ ho hσ;cases ea;rw[hd] at ra hin;have hna:¬Own (nC own i) σ a:=λ⟨j,hj,e⟩=>(lB hj).2 (huq j (lB hj).1 e)
 have hOa:Own own σ a:=⟨i,ho,hσ⟩
 have hl:i<ρ.length:=by rw[<-E.len];exact(dy.mp hσ).1
 have noT:∀ob,H a=ae ob->aG8 ob=af:=λob z=>by rw[hua] at z;cases z;rfl
 refine⟨⟨by simp[E.len],λj hj=>?_,λj w hj hw=>?_⟩,hna⟩
 ·rw[bM] at hj ⊢;by_cases h:i=j/\i<ρ.length
  ·rw[aq h];obtain⟨rfl,_⟩:=h;exact⟨_,hσ,λ_=>.frz (.inl ⟨o,aH⟩) ((J7 noT rr hin).bU hin)⟩
  ·rw[av h] at hj ⊢;have hij:i≠j:=λz=>h ⟨z,hl⟩
   obtain⟨w,h1,h2⟩:=E.at_ j hj;refine⟨w,h1,λhj2=>?_⟩;have hoj:own j=ai:=by
    unfold nC at hj2;cases hq:own j with
    |false=>rfl
    |true=>rw[hq] at hj2;simp at hj2;exact bd hj2.symm hij
   refine(h2 hoj).keep (λb ob hb hp=>?_) λb hb hq=>hb hq.of
   rw[aX]
   ·exact hb
   ·intro z;subst z;rcases hp with hp|hp
    ·exact hp hOa
    ·rw[hua] at hb;cases hb;cases hp
 ·obtain⟨hoj,hji⟩:=lB hj;rw[bM,av λz=>hji z.1.symm];obtain⟨b,ob,h1,h2,h3,h4,h5,h6⟩:=E.own j w hoj hw;subst h1;have hba:b≠a:=λz=>by subst z;exact hji (huq j hoj hw)
  refine⟨b,ob,rfl,?_,h3,by rw[aX hba];exact h4,h5,λk hk hs=>h6 k (lB hk).1 hs⟩;refine(h2.aIo (P':=λc=>c=b) h3 rfl).keep (λc oc hc hp=>?_) λ_ _=>trivial
  rw[aX]
  ·exact hc
  ·intro z;subst z;rcases hp with hp|hp
   ·exact hba hp.symm
   ·rw[hua] at hc;cases hc;cases hp
theorem aAl{ss:aa bo}(hx:fH own i rtX=ai:=by rfl)(ho:own i=ai:=by rfl)(h2:PSs X ss (tS own g)):PSs X ss (tL own i (DY i g)):=by
 rintro Ψ s σ H D' I ⟨ρ,fl,E,h,q⟩;unfold DY at h;split at h
 ·rename_i xs hxs;obtain⟨a,o,hσ,r,hin,ha,hm⟩:=E.ownAt vP (by rw[hxs];intro z;cases z);rw[hxs] at r;obtain⟨vs,hl,rr⟩:=wX r;obtain⟨o,If⟩:=tZ I hl;obtain⟨EF,hna⟩:=aF1 (o:=o) E vP hσ hxs hl rr;rw[V9 ho] at EF hna;have hOa:Own (fH own i) σ a:=⟨i,vP,hσ⟩
  have hx0:own rtX=ai:=by
   cases q:own rtX with
   |false=>rfl
   |true=>rw[nD q] at hx;cases hx
  have kk:∀σ' H',KU own σ (upd H a (.frz o (.lst vs))) σ' H'->KL own i σ H σ' H':=λσ' H' k b ob e n=>k b ob (by rw[aX (λz=>by subst z;exact n hOa)];exact e) λz=>n z.to
  refine h2 Ψ s σ _ D' If ⟨_,fl,EF,h,?_⟩;cases fl with
  |nx ρ=>exact λσ' H' k E'=>q σ' H' (kk σ' H' k) E'
  |bk ρ=>exact λσ' H' k E'=>q σ' H' (kk σ' H' k) E'
  |ct ρ=>exact λσ' H' k E'=>q σ' H' (kk σ' H' k) E'
  |rt d=>
   refine kRt.mk hx0 λv H' hk rv=>kRt.old q hx v H' (λb ob hb hn=>hk b ob ?_ λz=>hn z.to) (rv.mono λb hb=>?_)
   ·rw[aX (λz=>by subst z;exact hn hOa)];exact hb
   ·rcases hb with hb|hb
    ·exact .inl hb.to
    ·exact .inr (by
      have:b≠a:=λz=>by subst z;rw[aH] at hb;cases hb
      rw[aX this] at hb;exact hb)
 ·exact bx h
theorem aDn(E:ES own H σ ρ)(ho:own i=ai):ES (fH own i) H (σ.set i ak) (ρ.set i .uD):=by
 have hs:∀j v,(σ.set i ak)[j]?=ae (ae v)->i≠j/\σ[j]?=ae (ae v):=λj v h=>by
  by_cases hij:i=j
  ·subst hij;rw[np] at h;split at h
   ·split at h<;>cases h
   ·exact bd rfl ‹_›
  ·rw[ef hij] at h;exact⟨hij,h⟩
 have hO:∀b,Own (fH own i) (σ.set i ak) b↔Own own σ b:=λb=>by
  constructor
  ·rintro⟨j,hj,e⟩;obtain⟨h1,h2⟩:=hs j _ e;rcases sI hj with h|h
   ·exact⟨j,h,h2⟩
   ·exact bd h.symm h1
  ·rintro⟨j,hj,e⟩;have hij:i≠j:=λz=>by subst z;rw[ho] at hj;cases hj
   exact⟨j,nD hj,by rw[ef hij];exact e⟩
 have hP:(λa=>¬Own (fH own i) (σ.set i ak) a)=λa=>¬Own own σ a:=funext λa=>by rw[hO]
 refine⟨by simp[E.len],λj hj=>?_,λj w hj hw=>?_⟩
 ·rw[bM] at hj ⊢;by_cases h:i=j/\i<ρ.length
  ·rw[aq h] at hj;exact bd rfl hj
  ·rw[av h] at hj ⊢;obtain⟨w,h1,h2⟩:=E.at_ j hj;have hij:i≠j:=λz=>h ⟨z,by subst z;rw[<-E.len];exact(dy.mp h1).1⟩
   rw[hP];refine⟨w,by rw[ef hij];exact h1,λhj2=>h2 ?_⟩;cases hq:own j with
   |false=>rfl
   |true=>rw[nD hq] at hj2;cases hj2
 ·obtain⟨hij,hw⟩:=hs j w hw;rw[bM,av λz=>hij z.1];have hoj:own j=af:=(sI hj).resolve_right λz=>hij z.symm
  obtain⟨b,ob,h1,h2,h3,h4,h5,h6⟩:=E.own j w hoj hw;refine⟨b,ob,h1,h2,h3,h4,h5,λk hk hs2=>?_⟩;obtain⟨hik,hs3⟩:=hs k _ hs2;exact h6 k ((sI hk).resolve_right λz=>hik z.symm) hs3
theorem aAm{rest:aa bo}(hx0:fH own i rtX=ai)(ho:own i=ai)(hN:X.N.Nodup)(hi:X.N[i]?=ae x)(hx:Loc X.env.scope x)(he:PE X e (gE fe af))(hr:PSs X rest (tL own i g))(hs:eh e (ae (.Name x pos')) pos.line X.env=pure ai:=by rfl)(hf:X.fn x=af\/X.env.scope.names.lookup x=ae .local:=by first|exact .inl rfl|exact .inr rfl|assumption) :
  PSs X (.Assign [.Name x pos'] e pos::rest) (tS own (aHa i fe g)):=PSs.imp (u_ (HR hN hi hx he hs hf) hr) λD σ H z=>by
 obtain⟨ρ,fl,E,h,q⟩:=z;obtain⟨d,h1,h2⟩:=a_ h;split at h2
 ·rename_i xs;split at h2
  ·rename_i hp;refine⟨ρ,_,E.er,h1,λv H' s r n=>?_⟩;obtain⟨a,ob,rfl,hn,ha,hm⟩:=aEq (n rfl) (show inner (.lst xs)=af from hp);obtain⟨E2,k⟩:=(aDn E ho).aNy s vP hn r (show inner (.lst xs)=af from hp) ha hm;rw[A9,A9] at E2;have hO:∀b,Own (fH own i) (σ.set i (ae (.ref a))) b->b=a\/Own own σ b:=λb ⟨j,hj,e⟩=>by
    by_cases hij:i=j
    ·subst hij;rw[np] at e;split at e
     ·split at e<;>cases e
      exact .inl rfl
     ·exact bd rfl ‹_›
    ·rw[ef hij] at e;exact .inr ⟨j,(sI hj).resolve_right λz=>hij z.symm,e⟩
   have hx1:own rtX=ai:=by
    cases q:own rtX with
    |false=>rfl
    |true=>rw[nD q] at hx0;cases hx0
   have kk:∀σ' H2,KL own i (σ.set i (ae (.ref a))) H' σ' H2->KU own σ H σ' H2:=λσ' H2 k b o e nn=>k b o (s b o e) λz=>by
    rcases hO b z with z|z
    ·subst z;rw[show H b=ak from hn] at e;cases e
    ·exact nn z
   refine⟨_,fl,E2,h2,?_⟩;cases fl with
   |nx ρ=>exact λσ' H2 k E'=>q σ' H2 (kk σ' H2 k) E'
   |bk ρ=>exact λσ' H2 k E'=>q σ' H2 (kk σ' H2 k) E'
   |ct ρ=>exact λσ' H2 k E'=>q σ' H2 (kk σ' H2 k) E'
   |rt d=>
    refine kRt.mk hx0 λv H2 hk rv=>kRt.old q hx1 v H2 (λb o e nn=>hk b o (s b o e) λz=>?_) (rv.mono λb hb=>?_)
    ·rcases hO b z with z|z
     ·subst z;rw[show H b=ak from hn] at e;cases e
     ·exact nn z
    ·rcases hb with hb|hb
     ·rcases hO b hb with z|z
      ·subst z;exact .inr hn
      ·exact .inl z
     ·refine .inr ?_;cases q:H b with
      |none=>rfl
      |some o=>rw[s b o q] at hb;cases hb
  ·exact bx h2
 ·exact bx h2
theorem T3{ss:aa bo}(ho:own i=af)(hr:PSs X ss (tS (nC own i) g))(hx:own rtX=ai:=by rfl):PSs X ss (tS own (KD i g)):=by
 rintro Ψ s σ H D' I ⟨ρ,fl,E,h,q⟩;unfold KD at h;split at h
 ·rename_i xs hxs;obtain⟨r2,h3,h4⟩:=a_ h;obtain⟨a,o,hσ,r,hin,ha,hm⟩:=E.ownAt ho (by rw[hxs];intro z;cases z);rw[hxs] at r;obtain⟨vs,hl,rr⟩:=wX r;obtain⟨o,If⟩:=tZ I hl;obtain⟨EF,hna⟩:=aF1 (o:=o) E ho hσ hxs hl rr;have hOa:Own own σ a:=⟨i,ho,hσ⟩
  refine hr Ψ s σ _ D' If ⟨_,r2,EF,h3,?_⟩;cases r2 with
  |rt d2=>
   cases h4;refine kRt.mk (by cases q:nC own i rtX with|false=>rfl|true=>have:=(lB q).1;rw[hx] at this;cases this) λv H' hk rv=>kRt.old q hx v H' (λb ob hb hn=>hk b ob ?_ λz=>hn z.of) (rv.mono λb hb=>?_)
   ·rw[aX (λz=>by subst z;exact hn hOa)];exact hb
   ·rcases hb with hb|hb
    ·exact .inl hb.of
    ·exact .inr (by
      have:b≠a:=λz=>by subst z;rw[aH] at hb;cases hb
      rw[aX this] at hb;exact hb)
  |_=>exact bx h4
 ·exact bx h
theorem aHc:MtM X "list.extend" (λx vs H Q=>∃l b xs zs,x=.ref l/\vs=[.ref b]/\H l=ae (.lst xs)/\SqL X.K H b zs/\xs.length+zs.length<=bj/\Q .non (upd H l (.lst (xs++zs)))):=by
 intro Ψ s σ H x vs v us Q I rx rv h;obtain⟨l,b,xs,zs,rfl,rfl,hH,hB,hz,q⟩:=h;cases rx;obtain⟨u,rfl,ru⟩:=rv.one;cases ru;obtain⟨z,its,n,r,hl,e⟩:=I.aIj hH;obtain⟨its2,r2,⟨o2,n2,e2,c2,d2,t2⟩,_⟩:=I.list hB;obtain⟨oc2,od2,ot2,os2⟩:=o2;dsimp only at c2 d2 t2;subst c2 d2 t2;have z2:=r2.length;have hsz:its.toArray.size+its2.toArray.size<=bj:=by rw[cg,cg];lia
 have hlong:¬(!its.toArray.isEmpty&&ma (its.toArray.size+its2.toArray.size))=af:=by
  rw[RT hsz,lb];exact lT
 refine jg nX ⟨_,e,rfl⟩ xk (xl _ _) (aHb l its.toArray n b its2.toArray n2 os2 hlong (by rw[cg];lia) (by lia)) ⟨e,e2,?_⟩;refine⟨.non,_,I.aJm (its':=its++its2) hH e (by simp) (r.append r2) ?_,rfl,q⟩;rw[cw];lia
theorem aHd{i:ah}{x:Str}{p1 apos cpos pos:bz}(hK:KFrag.K=X.K)(ho:own i=af)(hN:X.N[i]?=ae x)(hv:Vis X.env.scope x)(he:PE X e (gE fe re))(hd:nDb x:=by decide)(hcd:nCd x:=by decide)
 (hbase:jf (.Name x p1) "extend" X.env (bP (.Name x p1) X.env)=bP (.Name x p1) X.env:=by rfl)
 (hs1:bp [e] X.env=(ai,bP e X.env)::bp [] X.env:=by rfl)
 (hfew:((eJ cpos (bp [e] X.env)).all (λx=>!x.1)&&(k9 cpos (la [] X.env)).all (λx=>x.1.isSome)
  &&ϒ (([e]:aa Expr).length+([]:aa gw).length+(if ([]:aa gw).isEmpty then 0 else 1)<30))=af:=by rfl)
 (hline:(apos.endLine==cpos.line)=af:=by rfl)
 (hs:eh (.Call (.Attribute (.Name x p1) "extend" apos) [e] [] cpos) ak pos.line X.env=pure ai:=by rfl) :
  PS X (.Expr (.Call (.Attribute (.Name x p1) "extend" apos) [e] [] cpos) pos) (tS own (aAj i fe)):=
 PS.imp (vX (X6 lu nX AF aHc (iZ hN hv hd hcd) (i_ he oZ hs1) hbase hfew hline hs1 rfl) hs) λD' σ H z0=>by
 obtain⟨ρ,fl,E,h,q⟩:=z0;obtain⟨d,h1,h2⟩:=a_ h;split at h2
 ·rename_i xs ys hx;split at h2
  ·rename_i hk;cases h2;rw[bg,d4] at hk;obtain⟨a,o,hσ,r,hin,ha,hm⟩:=E.ownAt ho (by rw[hx];intro z;cases z);rw[hx] at r hin;obtain⟨vs,hl,rr⟩:=wX r;refine⟨_,hσ,.inl ⟨rfl,vs,.of hl⟩,ρ,_,E.er,h1,λv H' s rv _=>?_⟩;obtain⟨b,zs,rfl,hb,rz⟩:=rv.inv;have E':=E.same s;have hl':=s _ _ hl;refine⟨a,b,vs,zs,rfl,rfl,hl',hb.sq hK,by rw[rr.length,rz.length];exact dn hk.1 (by rw[eD];decide),?_⟩;have hp:θ (xs++ys)=af:=by rw[nA,bg];exact⟨hin,hk.2⟩
   obtain⟨E2,k2⟩:=E'.mut (o:=.lst (vs++zs)) (d:=.lst (xs++ys)) ho hσ rfl (.lst aH trivial (((rr.same s).append rz).upd hp hl' rfl)) hp;exact q _ _ ((KU.same s).trans k2) E2
  ·exact bx h2
 ·exact bx h2
theorem aAn(hc:X.calm=af):lF X (.type "list") (λvs H Q=>∃r m n,vs=[.ref r]/\H r=ae (.rng m n)/\-1000000<=m/\m<=1000000/\-1000000<=n/\n<=1000000/\∀q,H q=ak->Q (.ref q) (upd H q (.lst ((cq (n-m).toNat).map λ(k:ah)=>V.int (m+k))))):=by
 rintro Ψ s σ H vs us Q I vr ⟨r,m,n,e,er,h0,h00,h1,h2,q⟩;subst e;cases vr with
 |cons r1 vr=>
  cases vr;cases r1;obtain⟨t,u,v,hr⟩:=I.hok r _ er;have hn:sB m n 1=((n-m).toNat:ag):=by rw[sC];split<;>lia
  refine AD (I.ok.hd hc) hr (sA (by lia) (by lia) (by lia) (by lia)) hn (by lia) λh' tk acc' c' hk hS' hacc=>?_
  have hfr:H s.heap.objs.size=ak:=I.hok.fresh (ba _);refine⟨.ref s.heap.objs.size,_,I.laid hk (ba _) ?_,rfl,q _ hfr⟩;refine⟨by rw[aI,jw,eD];lia,acc'.toList,c',zH _ (λk=>(m+k:ag)) _ (by simp[hacc.1]) λj v hj=>?_,by simpa using hS'⟩;obtain⟨t,ht⟩:=hacc.2 j v (by simpa using hj);exact⟨t,by rw[ht];congr 1;lia⟩
theorem t6{m:ag}:∀(l:aa ah),bL P H (l.map λ(k:ah)=>V.int (m+k)) (l.map λ(k:ah)=>δ (m+k))
 |[]=>.nil
 |n::l=>.cons (.int _) (t6 l)
theorem aAo{a b:Expr}(hc:X.calm=af)(hg:Gl X "list")(hm:X.mg "list"=ak)(hg2:Gl X "range")(hm2:X.mg "range"=ak)(ha:PA X [a,b] (gA fs rr))(hs:bp [a,b] X.env=[(ai,bP a X.env),(ai,bP b X.env)]:=by rfl)(hs2:bp [b] X.env=[(ai,bP b X.env)]:=by rfl) :
  PE X (.Call (.Name "list" p) [.Call (.Name "range" p2) [a,b] [] pos2] [] pos) (gE (aN D_ fs) af):=by
 have hr:PE X (.Call (.Name "range" p2) [a,b] [] pos2) (λσ H Q=>∃ρ m n,ER H σ ρ/\fs ρ=.ok [.int m,.int n]/\∀H1 r,b_ H H1->H1 r=ak->Q (.ref r) (upd H1 r (.rng m n))):=by
  rintro Ψ s σ H Q I ⟨ρ,m,n,E,h1,q⟩;refine kb (uF I hg2 hm2 sD ?_);refine l5 (thn (ha pos2 Ψ s σ H (λvs H1=>b_ H H1/\vs=[.int m,.int n]) I ⟨ρ,_,E,h1,λvs H1 s1 r1 _=>⟨s1,?_⟩⟩) λus s1 ⟨vs,H1,I1,r1,sm,e⟩=>?_) (by rw[hs,hs2]) (by rw[hs2];rfl)
  ·cases r1 with
   |cons r t=>cases t with|cons r' t=>cases t;cases r.inv;cases r'.inv;rfl
  ·subst e;cases r1 with
   |cons r t=>
    cases t with
    |cons r' t=>
     cases t;obtain⟨t,rfl⟩:=r;obtain⟨t',rfl⟩:=r';have hfr:H1 s1.heap.objs.size=ak:=I1.hok.fresh (ba _);exact call_range_2 ⟨.ref s1.heap.objs.size,_,I1.laid (o:=.rng m n) (λb o e=>cr _ e) (ba _) ⟨_,_,_,di _ rfl⟩,rfl,q H1 _ sm hfr⟩
 refine PE.imp (v4 (aAn hc) hg hm wY (i_ hr oZ)) λσ H Q ⟨ρ,d,E,h,q⟩=>?_
 obtain⟨xs,h1,h2⟩:=a_ h;unfold D_ at h2;split at h2
 ·rename_i m n;split at h2
  ·rename_i hb;simp only[bg,d4] at hb;obtain⟨⟨⟨b1,b2⟩,b3⟩,b4⟩:=hb;cases h2;refine⟨ρ,m,n,E,h1,λH1 r s1 hr=>⟨r,m,n,rfl,aH,b1,b2,b3,b4,λq' hq'=>?_⟩⟩;have s2:=b_.upd (o:=.rng m n) hr;have s3:=b_.upd (o:=.lst ((cq (n-m).toNat).map λ(k:ah)=>V.int (m+k))) hq';exact q _ _ ((s1.trans s2).trans s3) (.lst aH trivial (t6 _)) λ_=>.lst aH ((s1.trans s2).free hq') (t6 _)
  ·exact bx h2
 ·exact bx h2
variable {k1 v1 k2 v2:Expr} {g1 h1 g2 h2:FE}
theorem aHe{r1 r2 r3 r4:ap}(hk1:PE X k1 (gE g1 r1))(hv1:PE X v1 (gE h1 r2))(hk2:PE X k2 (gE g2 r3))(hv2:PE X v2 (gE h2 r4)):PE X (.Dict [ae k1,ae k2] [v1,v2] pos) (gE (aKs g1 h1 g2 h2) af):=
 PE.imp (YG (zX hk1 hv1 (zX hk2 hv2 YF)) rfl rfl (by simp) (rL rfl)) λσ H Q z0=>by
 obtain⟨ρ,d,E,h,q⟩:=z0;obtain⟨a1,e1,hA⟩:=a_ h;obtain⟨a2,e2,hB⟩:=a_ hA;obtain⟨a3,e3,hC⟩:=a_ hB;obtain⟨a4,e4,hD⟩:=a_ hC;clear h hA hB hC;unfold aO3 at hD;split at hD
 ·rename_i x i y j;cases hD;intro p hp;have s0:b_ H (upd H p (.dK [])):=b_.upd hp;refine⟨ρ,_,E.same s0,e1,λw1 H1 s1 q1 _=>?_⟩;cases q1.inv;refine⟨ρ,_,(E.same s0).same s1,e2,λw2 H2 s2 q2 _=>?_⟩;cases q2.inv;refine⟨ρ,_,((E.same s0).same s1).same s2,e3,λw3 H3 s3 q3 _=>?_⟩;cases q3.inv;refine⟨ρ,_,(((E.same s0).same s1).same s2).same s3,e4,λw4 H4 s4 q4 _=>?_⟩;cases q4.inv;have sm:b_ (upd H p (.dK [])) H4:=((s1.trans s2).trans s3).trans s4;refine⟨sm _ _ aH,[(.inl x,.int i),(.inl y,.int j)],rfl,rL rfl,?_⟩;have sf:b_ H (upd H4 p (.dK (fP [] [(fo x,V.int i),(fo y,V.int j)]))):=λb o e=>by
   rw[aX (dI e hp)];exact sm b o (s0 b o e)
  have rk:∀P:al->Prop,kE P (upd H4 p (.dK (fP [] [(fo x,V.int i),(fo y,V.int j)]))) (putK [(fo x,V.int i)] (fo y) (V.int j)) (putD [(.int x,.int i)] (.int y) (.int j)):=λP=>vL (.int j) (.cons (.int i) .nil) (by simp)
  have nd:((putK [(fo x,V.int i)] (fo y:Key) (V.int j)).map (·.1)).Nodup:=kY (by simp);exact q _ _ sf (.dK aH trivial (rk All) nd) λ_=>.dK aH hp (rk _) nd
 ·exact bx hD
end
end
def xH:D->Res D
 |.tup xs=>match mL xs with
  |some ps=>if ϒ (xs.length<=1000) then .ok (.dct (dD [] ps)) else .bad
  |none=>.bad
 |_=>.bad
variable [KFrag]
theorem V_{X:Cx}{e:Expr}{fe:FE}{re:ap}{p pos:bz}(hc:X.calm=af)(hg:Gl X "dict")(hm:X.mg "dict"=ak)(he:PE X e (gE fe re))(hs:bp [e] X.env=[(ai,bP e X.env)]:=by rfl) :
  PE X (.Call (.Name "dict" p) [e] [] pos) (gE (b1 xH fe) af):=by
 refine aEz (λd0 d h=>?_) hc hg hm he hs;unfold xH at h
 repeat' split at h
 ·rename_i h1 h2;exact⟨_,_,.inr rfl,h1,e9 h2,(Res.ok.inj h).symm⟩
 all_goals exact bx h
end Mi
section
local macro_rules | `(tactic| trivial) => `(tactic| first | exact Or.inl rfl | exact Or.inr rfl | exact Or.inr (Or.inl rfl) | exact Or.inr (Or.inr rfl))
namespace Lk12
open PySem L2 Mi PySem.W
noncomputable def top(i:ah):bo:=PySem.Challenge.pw_hookmill_k12_way.main.body.getD i (.Pass ⟨0,0,0,0⟩)
abbrev nF:bo:=top 17
noncomputable def KH:ah->ap:=λi=>i==5
def nG:FS:=bI (b8 ai 2 (bC (.str "abcdefghijklmnopqrstuvwxyz")) af) (bI (b8 ai 3 (b2 (bB .add) e_ (b2 (bB .mod) cA BP)) af) (bI (b8 ai 4 (b2 (bB .mod) (b2 (bB .fdiv) cA BP) dU) af) (bI (b8 af 5 (bC (.dct [])) af) (bI (wJ (oX (aD PB aV) mX) (tg1 6) (bI (b8 ai 7 (bC (.str "")) af) (bI (wJ (oX (aD dU aV) mX) (tg1 8) (bI (b8 ai 9 (b2 (bB .mul) (b2 (bB .mod) (b2 (bB .fdiv) cA aG3) uU) (b2 (bB .add) rR uU)) af) (bI (sIf (bTB (b2 (b7 .eq) rR eO)) (b8 ai 9 e_ af) jA) (b8 ai 7 (b2 (bB .add) mH (b2 getD fM (b2 (bB .mod) (b2 (bB .add) (b2 (bB .fdiv) (b2 (bB .fdiv) cA JM) (b2 (bB .add) (b2 (bB .mul) rR rR) e_)) (b2 (bB .mul) lM JL)) YX))) af)))) (wI 5 mH (b2 getD (BV (aD (b2 (bB .add) uU (b2 (bB .mod) eE PB)) (aD (b2 (bB .add) uU (b2 (bB .mod) eE PB)) (aD (b2 (bB .mod) (b2 (bB .fdiv) eE PB) aG4) (aD (b2 (bB .mod) (b2 (bB .fdiv) eE PB) aG4) (aD dF aV)))))) lM))))) (yC 5)))))
def fU:aa D->Res D:=fnS 2 10 nG
abbrev jE:bo:=top 19
noncomputable def xJ:ah->ap:=λi=>i==2
def jF:FS:=bI (b8 af 2 (BV aV) af) (bI (wJ (oX (aD (aN dY (aD cA aV)) aV) mX) (tg1 3) (aJx 2 (b2 (bB .mod) (b2 (bB .add) (b2 (bB .fdiv) eE (b2 (bB .add) dU e_)) (b2 (bB .mul) dU dU)) (b2 (bB .add) dU e_)) (b2 getD cA dU))) (yC 2))
def dN:aa D->Res D:=fnS 2 4 jF
abbrev lU:bo:=top 20
noncomputable def E_:ah->ap:=λi=>i==4
def lV:FS:=bI (b8 ai 3 (aN (cF 2 dN) (aD (aN TJ (aD (b2 (bB .add) (aN dY (aD cA aV)) (b2 (bB .mul) uU eE)) aV)) (aD fM aV))) af) (bI (b8 af 4 (BV aV) af) (bI (wJ (oX (aD (aN dY (aD cA aV)) aV) mX) (tg1 5) (mY 4 (fQ (aD (fQ (aD dF (aD (b2 getD dU eZ) aV))) (aD (b2 getD cA eZ) aV))))) (bI (wJ (oX (aD eE aV) mX) (tg1 5) (bI (b8 ai 6 (aCb dU (wH (b2 (bB .add) (aN dY (aD cA aV)) (b2 (bB .mul) uU eZ))) (wH (b2 (bB .add) (b2 (bB .add) (aN dY (aD cA aV)) (b2 (bB .mul) uU eZ)) uU))) af) (mY 4 (fQ (aD (fQ (aD dF (aD (aN (cH .lt) (aD lM aV)) aV))) (aD (fQ (aD dF (aD (aN (cH .gt) (aD lM aV)) aV))) aV)))))) (yC 4))))
def gC:aa D->Res D:=fnS 3 7 lV
abbrev lW:bo:=top 21
noncomputable def FJ:ah->ap:=λi=>i==3
def lX:FS:=bI (b8 af 3 (BV aV) af) (bI (sIf (bTB (b2 (b7 (.ord .gt)) (b2 (bB .mod) fM (bC (.int 3))) dF)) (bI (b8 ai 0 (aN (cF 2 dN) (aD cA (aD (b2 (bB .fdiv) fM (bC (.int 3))) aV))) af) (aGu (bTB (b2 (b7 (.ord .gt)) (aN dY (aD cA aV)) e_)) (bI (mY 3 (fQ (aD (aN (cH .lt) (aD (b2 getD cA dF) (aD (b2 getD cA e_) aV))) (aD (aN (cH .gt) (aD (b2 getD cA dF) (aD (b2 getD cA e_) aV))) aV)))) (b8 ai 0 (aCb cA (wH uU) aG6) af)))) jA) (jL (b2 (bB .add) dU (aN (cF 3 gC) (aD cA (aD eE (aD fM aV))))) af))
def gD:aa D->Res D:=fnS 3 4 lX
abbrev lY:bo:=top 18
noncomputable def QM:ah->ap:=λi=>ai
def qZ:FS:=bI (b8 ai 2 (b2 getD cA (b2 (bB .mod) eE (aN dY (aD cA aV)))) ai) (bI (b8 ai 3 (d7 5 (cM cA ai) x_ (bTB (b2 (b7 .ne) eZ fM)) eZ ai) af) (bI (b8 ai 4 (b2 getD dU (b2 (bB .mod) (b2 (bB .fdiv) eE (aN dY (aD cA aV))) (aN dY (aD dU aV)))) ai) (jL (fQ (aD (aN (cH .lt) (aD fM (aD eO aV))) (aD (aN (cH .gt) (aD fM (aD eO aV))) aV))) ai)))
def eV:aa D->Res D:=fnS 2 5 qZ
abbrev fV:bo:=top 22
noncomputable def KJ:ah->ap:=λi=>i==4||i==6
def nH:FS:=bI (b8 ai 3 (aN Y5 (aD cA aV)) af) (bI (b8 af 4 (BV aV) af) (bI (b8 ai 5 (BV aV) af) (bI (b8 af 6 (BV aV) af) (bI (b8 ai 7 dF af) (bI (b8 ai 8 dF af) (bI (b8 ai 9 dF af) (bI (Y6 1 (tg1 10) (bI (b8 ai 11 (b2 (bB .fdiv) gP BP) af) (bI (sAl 12 5) (bI (sIf (bTB (b2 (b7 .eq) (b2 (bB .mod) gP BP) PB)) (b8 ai 12 (d7 13 (cM eZ ai) x_ (bTB (b2 (b7 .eq) (b2 getD j_ e_) dF)) j_ ai) af) jA) (sIf (R1 (bTB (b2 (b7 (.ord .lt)) (b2 (bB .mod) gP BP) aIl)) (bTB (b2 (b7 (.ord .lt)) (aN dY (aD eO aV)) aG5))) (bI (b8 ai 7 (b2 (bB .add) (b2 (bB .add) mH e_) (b2 (bB .mod) (b2 (bB .fdiv) lN (aN dY (aD dU aV))) (b2 (bB .pow) YZ aMm))) af) (bI (mY 4 (fQ (aD mH (aD (b2 getD dU (b2 (bB .mod) lN (aN dY (aD dU aV)))) aV)))) (b8 ai 5 (b2 (bB .add) eZ (d7 13 (oX (aD (b2 (bB .add) (b2 getD cA (b2 getD dU (b2 (bB .mod) lN (aN dY (aD dU aV))))) e_) aV) mX) x_ gQ (fQ (aD mH (aD j_ aV))) ai)) af))) (sIf (R1 (bTB (bCh (b7 (.ord .le)) (b7 (.ord .lt)) aIl (b2 (bB .mod) gP BP) aJw)) (bTB (b2 (b7 (.ord .gt)) (aN dY (aD O_ aV)) e_))) (bI (mY 6 (aN (cF 2 eV) (aD O_ (aD lN aV)))) (b8 ai 5 (d7 13 (cM eZ ai) x_ (bTB (b2 (b7 .lE) j_ (b2 getD lM (b1 aM0 e_)))) j_ ai) af)) (sIf (bTB (b2 (b7 .eq) (b2 (bB .mod) gP BP) aJw)) (b8 ai 8 (b2 (bB .add) rR e_) af) (sIf (bTB (b2 (b7 .eq) (b2 (bB .mod) gP BP) aG4)) (b8 ai 9 (b2 (bB .add) JL (b2 (bB .mod) lN (b2 (bB .pow) YZ (bC (.int 50))))) af) jA)))))))) (bI (b8 af 6 (b2 (bB .add) lM (aN (cF 3 gD) (aD eZ (aD rR (aD fM aV))))) af) (jL (fQ (aD (aN uI (aD eO aV)) (aD (aN uI (aD (aN fC (aD lM aV)) aV)) (aD JL aV)))) ai)))))))))
def iH:aa D->Res D:=fnS 3 13 nH
abbrev t7:bo:=top 1
noncomputable def WD:ah->ap:=λi=>i==1
def WF:FS:=bI (b8 af 1 (bC (.dct [])) af) (bI (wJ (cM (b2 getD cA e_) ai) (tgN [2,3]) (bI (wI 1 fM dU) (wI 1 dU fM))) (yC 1))
def oJ:aa D->Res D:=fnS 1 4 WF
abbrev lZ:bo:=top 11
noncomputable def FN:ah->ap:=λi=>i==2
def FP:FS:=bI (b8 ai 1 (aN (cF 1 oJ) (aD cA aV)) af) (bI (b8 af 2 (bC (.dct [])) af) (bI (wJ (cM (b2 getD cA dF) ai) (tgN [3,4]) (aHa 5 (BV aV) (uX (aGu (bTB (b2 (b7 .isin) (fQ (aD dU (aD (aN dY (aD eZ aV)) aV))) eE)) (mY 5 (b2 getD eE (fQ (aD dU (aD (aN dY (aD eZ aV)) aV)))))) (DY 5 (wI 2 dU eZ))))) (yC 2)))
def gF:aa D->Res D:=fnS 1 6 FP
abbrev l_:bo:=top 13
noncomputable def QR:ah->ap:=λi=>i==2
def QT:FS:=bI (b8 af 2 (BV aV) af) (bI (V8 1 (tg1 3) (aKg 2 (d7 4 (aF0 (b2 getD cA dU)) x_ (bTB (b2 (b7 .eq) (b2 getD eO dF) dF)) (fQ (aD (b2 getD eO e_) (aD dU aV))) ai))) (bI (sIf (bTr fM) (jL (bFz (yE (aD (b2 getD (aN (cH .lt) (aD fM aV)) e_) aV))) af) jA) (jL eE ai)))
def jG:aa D->Res D:=fnS 2 4 QT
abbrev q_:bo:=top 14
noncomputable def QV:ah->ap:=λi=>i==4||i==5||i==6
def QW:FS:=bI (b8 af 4 (yE (aD fM aV)) af) (bI (b8 af 5 (aKs dF dF fM e_) af) (bI (b8 af 6 (BV aV) af) (bI (b8 ai 7 (b2 (b7 .notN) dU (bC .non)) af) (bI (aGu (bTB (b2 (b7 (.ord .lt)) (aN dY (aD lM aV)) (aN dY (aD eO aV)))) (bI (b8 ai 8 (b2 getD eO (aN dY (aD lM aV))) ai) (aHa 9 (yE (aD (b2 getD cA rR) aV)) (uX (wJ (aF0 (b2 getD eE rR)) (tgN [10,11]) (bI (sIf (bTB (b2 (b7 .lE) gP eZ)) (bI (mY 4 gP) (wI 5 gP (aN dY (aD eO aV)))) jA) (bI (mY 9 (b2 getD eZ gP)) (mY 9 lN)))) (uX (sIf (R1 (bTr mH) (bTB (b2 (b7 .ne) JL (b2 getD (b2 getD dU dF) (aN dY (aD lM aV)))))) (bI (sIf (bTB (b2 (b7 (.ord .gt)) JL (b2 getD (b2 getD dU dF) (aN dY (aD lM aV))))) (jL (bC .non) af) jA) (b8 ai 7 (bC (.bl ai)) af)) jA) (DY 9 (mY 6 JL))))))) (KD 6 (KD 4 (jL (fQ (aD lM (aD eO aV))) ai)))))))
def dW:aa D->Res D:=fnS 4 12 QW
abbrev nJ:bo:=top 12
noncomputable def KN:ah->ap:=λi=>ai
def KQ:FS:=bI (b8 ai 3 (bC .non) af) (bI (wJ (aF0 (aN (cF 2 jG) (aD eE (aD fM aV)))) (tg1 4) (bI (b8 ai 5 (aN (cF 4 dW) (aD cA (aD eE (aD eO (aD dU aV))))) af) (sIf (bTB (b2 (b7 .notN) eZ (bC .non))) (sAl 3 5) jA))) (jL dU ai))
def cD:aa D->Res D:=fnS 3 6 KQ
abbrev nM:bo:=top 5
noncomputable def KR:ah->ap:=λi=>i==1
def nO:FS:=bI (aO1 1 (.dct [])) (bI (wJ (cM (b2 getD cA dF) ai) (tgN [2,3]) (aAe 1 fM)) (bI (wJ (cM (b2 getD cA e_) ai) (tgN [4,5]) (sIf (bTB (b2 (b7 .ne) (b2 getD eO dF) dF)) (bI (QK 1 (b2 getD eO dF) (b2 getD eZ dF)) (QK 1 (b2 getD eZ dF) (b2 getD eO dF))) jA)) (yC 1)))
def jW:aa D->Res D:=fnS 1 6 nO
abbrev gG:bo:=top 6
noncomputable def sJ:ah->ap:=λi=>i==2||i==3
def gH:FS:=bI (b8 af 2 (b2 aDj eE (bC (.bl af))) af) (bI (b8 af 3 (yE (aD eE aV)) af) (bI (aGu (bTr dU) (bI (aDd 3 4) (J9 0 eO (tg1 5) (sIf (bTB (b2 (b7 .lE) eZ fM)) (bI (wI 2 eZ (bC (.bl af))) (mY 3 eZ)) jA)))) (jL (aN sortedK (aD fM aV)) af)))
def bZ:aa D->Res D:=fnS 2 6 gH
abbrev QX:bo:=top 4
noncomputable def aHf:ah->ap:=λi=>i==2||i==3
def aHg:FS:=bI (b8 ai 1 (aN (cF 1 jW) (aD cA aV)) af) (bI (b8 af 2 (bC (.dct [])) af) (bI (b8 af 3 (BV aV) af) (bI (wJ (cM (b2 getD cA dF) ai) (tgN [4,5]) (sIf (bTB (b2 (b7 .lE) eO fM)) (bI (b8 ai 6 (bFz (aN (cF 2 bZ) (aD eE (aD eO aV)))) af) (bI (V8 6 (tg1 7) (wI 2 mH (bC (.bl af)))) (mY 3 lM))) jA)) (yC 3))))
def t8:aa D->Res D:=fnS 1 8 aHg
abbrev aAp:bo:=top 9
noncomputable def aN8:ah->ap:=λi=>i==4
def aN9:FS:=bI (b8 ai 1 (b1 xH (b2 getD cA dF)) af) (bI (b8 ai 2 (aN (cF 1 gF) (aD cA aV)) af) (bI (b8 ai 3 (aN fC (aD (d7 7 (cM (aN (cF 1 t8) (aD cA aV)) af) x_ gQ (aN (cF 3 cD) (aD eE (aD fM (aD mH aV)))) af) aV)) af) (bI (b8 af 4 (BV aV) af) (bI (Y6 3 (tgN [5,6]) (aAj 4 lM)) (jL (aN fC (aD (d7 7 (aAb 1 eO ai) (HJ 2) gQ (fQ (aD rR (aD mH aV))) ai) aV)) af)))))
def yF:aa D->Res D:=fnS 1 7 aN9
abbrev nP:bo:=top 24
noncomputable def KY:ah->ap:=λi=>ai
def KZ:FS:=jL (BR (b1 (oW .int) cA) (Y0 (b1 (oW .bool) cA))) af
def eX:aa D->Res D:=fnS 1 1 KZ
abbrev oK:bo:=top 26
noncomputable def WK:ah->ap:=λi=>i==2
def WL:FS:=bI (sIf (bOr (JN (bTr (b1 (oW .list) cA))) (bTB (b2 (b7 .ne) (aN dY (aD cA aV)) (aN dY (aD (b2 getD eE dF) aV))))) (jL (bC .non) af) jA) (bI (b8 af 2 (b2 aDj dF dF) af) (bI (wJ (oX (aD (aN dY (aD cA aV)) aV) mX) (tg1 3) (bI (b8 ai 4 (b2 getD cA dU) ai) (bI (sIf (bOr (JN (bTr (b1 (oW .tuple) eO))) (bOr (bTB (b2 (b7 .ne) (aN dY (aD eO aV)) uU)) (bOr (JN (bTr (aN (cF 1 eX) (aD (b2 getD eO dF) aV)))) (JN (bTr (aN (cF 1 eX) (aD (b2 getD eO e_) aV))))))) (jL (bC .non) af) jA) (bI (sIf (bTB (b2 (b7 .ne) (b2 getD eO dF) (b2 getD (b2 getD (b2 getD eE dF) dU) dF))) (jL (bC .non) af) jA) (wI 2 (b2 getD eO dF) (b2 getD eO e_)))))) (bI (sIf (bTB (b2 (b7 .ne) (aN fC (aD (d7 5 (cM (b2 getD eE dF) ai) (HJ 2) gQ (b2 getD fM eZ) ai) aV)) (aN D_ (aD e_ (aD (b2 (bB .add) (aN dY (aD cA aV)) e_) aV))))) (jL (bC .non) af) jA) (yC 2))))
def iY:aa D->Res D:=fnS 2 5 WL
abbrev oM:bo:=top 2
noncomputable def WM:ah->ap:=λi=>ai
def WN:FS:=bI (b8 ai 3 (d7 4 (cM eE ai) (HJ 2) gQ (fQ (aD (aN (cH .lt) (aD eO (aD eZ aV))) (aD (aN (cH .gt) (aD eO (aD eZ aV))) aV))) ai) af) (jL (fQ (aD (aN uI (aD (aN fC (aD cA aV)) aV)) (aD (aN uI (aD (aN fC (aD dU aV)) aV)) (aD fM aV)))) ai)
def oN:aa D->Res D:=fnS 3 4 WN
abbrev iI:bo:=top 10
noncomputable def K4:ah->ap:=λi=>i==2
def K5:FS:=bI (b8 af 2 (b1 J_ eE) af) (bI (wI 2 dF dF) (bI (b8 ai 3 (d7 5 (cM (b2 getD cA dF) ai) (HJ 2) gQ (fQ (aD (b2 getD fM eZ) (aD lM aV))) ai) af) (bI (b8 ai 4 (d7 5 (cM (b2 getD cA e_) ai) (HJ 2) gQ (fQ (aD (fQ (aD (b2 getD fM (b2 getD eZ dF)) (aD (b2 getD eZ e_) aV))) (aD (fQ (aD (b2 getD fM (b2 getD lM dF)) (aD (b2 getD lM e_) aV))) aV))) ai) af) (jL (aN (cF 3 oN) (aD dU (aD eO (aD (b2 getD cA uU) aV)))) af))))
def jX:aa D->Res D:=fnS 2 5 K5
abbrev aAq:bo:=top 8
noncomputable def aKt:ah->ap:=λi=>ai
def aKu:FS:=jL (aN (cF 2 jX) (aD cA (aD (aN (cF 1 yF) (aD cA aV)) aV))) af
def zK:aa D->Res D:=fnS 1 1 aKu
abbrev j7:bo:=top 16
noncomputable def yG:ah->ap:=λi=>ai
def fJ:FS:=bI (sIf (bTB (b2 (b7 (.ord .lt)) eE (aN dY (aD cA aV)))) (jL (b2 getD cA eE) ai) jA) (jL dF af)
def bW:aa D->Res D:=fnS 2 2 fJ
abbrev rA:bo:=top 23
noncomputable def xK:ah->ap:=λi=>ai
def mC(rr:aa D->Res D):FS:=bI (sIf (bTr (b1 (oW .tuple) eE)) (bI (sIf (bOr (JN (bTr (b1 (oW .tuple) cA))) (bTB (b2 (b7 .ne) (aN dY (aD cA aV)) (aN dY (aD eE aV))))) (jL (bC (.bl ai)) af) jA) (bI (wJ (oX (aD (aN dY (aD eE aV)) aV) mX) (tg1 2) (sIf (JN (bTr (aN (cF 2 rr) (aD (b2 getD cA fM) (aD (b2 getD eE fM) aV))))) (jL (bC (.bl ai)) af) jA)) (jL (bC (.bl af)) af))) jA) (bI (sIf (bTr (b1 (oW .str) eE)) (jL (BR (b1 (oW .str) cA) (b2 (b7 .eq) cA eE)) af) jA) (jL (BR (b1 (oW .int) cA) (BR (Y0 (b1 (oW .bool) cA)) (b2 (b7 .eq) cA eE))) af))
def bT:ah->aa D->Res D
 |0=>fnS 2 3 aNz
 |m+1=>fnS 2 3 (mC (bT m))
abbrev g_:bo:=top 25
noncomputable def yH:ah->ap:=λi=>i==3
def yI:FS:=bI (b8 ai 2 (aN fC (aD (d7 6 (cM (b2 getD cA dF) ai) (HJ 2) gQ (fQ (aD (b2 getD eE lM) (aD mH aV))) ai) aV)) af) (bI (b8 af 3 (BV aV) af) (bI (wJ (cM (b2 getD cA e_) ai) (tgN [4,5]) (bI (b8 ai 4 (fQ (aD (b2 getD eE (b2 getD eO dF)) (aD (b2 getD eO e_) aV))) ai) (bI (b8 ai 5 (fQ (aD (b2 getD eE (b2 getD eZ dF)) (aD (b2 getD eZ e_) aV))) ai) (mY 3 (fQ (aD (aN (cH .lt) (aD eO (aD eZ aV))) (aD (aN (cH .gt) (aD eO (aD eZ aV))) aV))))))) (jL (fQ (aD (aN uI (aD fM aV)) (aD (aN uI (aD (aN fC (aD dU aV)) aV)) (aD (b2 getD cA uU) aV)))) ai)))
def d9:aa D->Res D:=fnS 2 6 yI
abbrev FQ:bo:=top 27
noncomputable def o_law:ah->ap:=λi=>i==3
def aNa:FS:=bI (b8 ai 1 (aN (cF 2 fU) (aD (aN (cF 2 bW) (aD cA (aD dF aV))) (aD (aN (cF 2 bW) (aD cA (aD e_ aV))) aV))) af) (bI (b8 ai 2 (aN (cF 3 iH) (aD eE (aD (aCb cA (wH uU) (wH (bC (.int 66)))) (aD (aN (cF 2 bW) (aD cA (aD dF aV))) aV)))) af) (bI (b8 af 3 (aN (cF 1 yF) (aD fM aV)) af) (bI (b8 ai 4 (aN (cF 2 iY) (aD dU (aD fM aV))) af) (bI (sIf (bTB (b2 (b7 .isN) eO (bC .non))) (jL (bC (.bl ai)) af) jA) (bI (b8 ai 5 (aN (cF 1 zK) (aD fM aV)) af) (bI (sIf (JN (bTr (aN (cF 2 (bT 6)) (aD eZ (aD (aN (cF 2 d9) (aD fM (aD eO aV))) aV))))) (jL (bC (.bl ai)) af) jA) (bI (b8 ai 6 (aN Y5 (aD dU aV)) af) (bI (mY 3 (fQ (aD dF (aD dF aV)))) (bI (b8 ai 7 (aN (cF 2 iY) (aD (aN (cF 1 yF) (aD fM aV)) (aD fM aV))) af) (bI (sIf (bOr (bTB (b2 (b7 .isN) mH (bC .non))) (JN (bTr (aN (cF 2 (bT 6)) (aD (aN (cF 1 zK) (aD fM aV)) (aD eZ aV)))))) (jL (bC (.bl ai)) af) jA) (jL (BR (b2 (b7 .eq) dU (b2 (bB .add) lM (BV (aD (fQ (aD dF (aD dF aV))) aV)))) (aN (cF 2 (bT 6)) (aD eZ (aD (aN (cF 2 d9) (aD fM (aD mH aV))) aV)))) af)))))))))))
def QZ:aa D->Res D:=fnS 1 8 aNa
noncomputable abbrev uM:aa Str:=["cell","sides","letters","size","at","stock","k","name","j","step"]
noncomputable abbrev nQ:aa Str:=["some","seed","found","k"]
noncomputable abbrev sO:aa Str:=["loose","bare","seed","spots","ties","k","pair"]
noncomputable abbrev sS:aa Str:=["loose","bare","seed","ties"]
noncomputable abbrev mD:aa Str:=["loose","more","one","rest","other"]
noncomputable abbrev dO:aa Str:=["stock","cells","seed","names","pieces","loose","ties","number","bare","rings","cell","more","some"]
noncomputable abbrev zL:aa Str:=["net","mates","one","other"]
noncomputable abbrev sV:aa Str:=["net","mates","ends","number","name","around"]
noncomputable abbrev mF:aa Str:=["ends","part","at_rim","number"]
abbrev xM:aa Str:=["names","ends","start","best","order","places","rows","level","number","row","far","hook"]
abbrev uN:aa Str:=["names","ends","part","best","start","walk"]
noncomputable abbrev uO:aa Str:=["net","beside","number","name","one","other"]
abbrev jY:aa Str:=["beside","start","reached","waiting","current","number"]
noncomputable abbrev aAr:aa Str:=["net","beside","seen","found","number","name","part","member"]
noncomputable abbrev Q0:aa Str:=["net","names","ends","walks","order","rows","numbers"]
noncomputable abbrev uP:aa Str:=["found"]
noncomputable abbrev lC:aa Str:=["found","net","new","k","pair"]
noncomputable abbrev lD:aa Str:=["pieces","ties","rings","rows"]
noncomputable abbrev dR:aa Str:=["net","pairs","new","pieces","ties"]
noncomputable abbrev aF2:aa Str:=["net"]
noncomputable abbrev p_:aa Str:=["script","k"]
noncomputable abbrev rB:aa Str:=["found","due","k"]
noncomputable abbrev fK:aa Str:=["net","new","pieces","ties","one","other"]
noncomputable abbrev aKv:aa Str:=["script","stock","net","found","new","first","held","again"]
theorem FW:bR uM ["cell","sides"] (aQ nF):=by refine⟨rfl,rfl,rfl,?_,rfl,?_,?_⟩<;>decide +kernel
theorem uY:bR nQ ["some","seed"] (aQ jE):=by refine⟨rfl,rfl,rfl,?_,rfl,?_,?_⟩<;>decide +kernel
theorem yJ:bR sO ["loose","bare","seed"] (aQ lU):=by refine⟨rfl,rfl,rfl,?_,rfl,?_,?_⟩<;>decide +kernel
theorem yK:bR sS ["loose","bare","seed"] (aQ lW):=by refine⟨rfl,rfl,rfl,?_,rfl,?_,?_⟩<;>decide +kernel
theorem K6:bR mD ["loose","more"] (aQ lY):=by refine⟨rfl,rfl,rfl,?_,rfl,?_,?_⟩<;>decide +kernel
theorem FZ:bR dO ["stock","cells","seed"] (aQ fV):=by refine⟨rfl,rfl,rfl,?_,rfl,?_,?_⟩<;>decide +kernel
theorem Q3:bR zL ["net"] (aQ t7):=by refine⟨rfl,rfl,rfl,?_,rfl,?_,?_⟩<;>decide +kernel
theorem yL:bR sV ["net"] (aQ lZ):=by refine⟨rfl,rfl,rfl,?_,rfl,?_,?_⟩<;>decide +kernel
theorem K7:bR mF ["ends","part"] (aQ l_):=by refine⟨rfl,rfl,rfl,?_,rfl,?_,?_⟩<;>decide +kernel
theorem K8:bR xM ["names","ends","start","best"] (aQ q_):=by refine⟨rfl,rfl,rfl,?_,rfl,?_,?_⟩<;>decide +kernel
theorem F_:bR uN ["names","ends","part"] (aQ nJ):=by refine⟨rfl,rfl,rfl,?_,rfl,?_,?_⟩<;>decide +kernel
theorem GC:bR uO ["net"] (aQ nM):=by refine⟨rfl,rfl,rfl,?_,rfl,?_,?_⟩<;>decide +kernel
theorem rC:bR jY ["beside","start"] (aQ gG):=by refine⟨rfl,rfl,rfl,?_,rfl,?_,?_⟩<;>decide +kernel
theorem aDo:bR aAr ["net"] (aQ QX):=by refine⟨rfl,rfl,rfl,?_,rfl,?_,?_⟩<;>decide +kernel
theorem aKw:bR Q0 ["net"] (aQ aAp):=by refine⟨rfl,rfl,rfl,?_,rfl,?_,?_⟩<;>decide +kernel
theorem GD:bR uP ["found"] (aQ nP):=by refine⟨rfl,rfl,rfl,?_,rfl,?_,?_⟩<;>decide +kernel
theorem Q4:bR lC ["found","net"] (aQ oK):=by refine⟨rfl,rfl,rfl,?_,rfl,?_,?_⟩<;>decide +kernel
theorem Q5:bR lD ["pieces","ties","rings"] (aQ oM):=by refine⟨rfl,rfl,rfl,?_,rfl,?_,?_⟩<;>decide +kernel
theorem GF:bR dR ["net","pairs"] (aQ iI):=by refine⟨rfl,rfl,rfl,?_,rfl,?_,?_⟩<;>decide +kernel
theorem aHh:bR aF2 ["net"] (aQ aAq):=by refine⟨rfl,rfl,rfl,?_,rfl,?_,?_⟩<;>decide +kernel
theorem xN:bR p_ ["script","k"] (aQ j7):=by refine⟨rfl,rfl,rfl,?_,rfl,?_,?_⟩<;>decide +kernel
theorem K9:bR rB ["found","due"] (aQ rA):=by refine⟨rfl,rfl,rfl,?_,rfl,?_,?_⟩<;>decide +kernel
theorem xO:bR fK ["net","new"] (aQ g_):=by refine⟨rfl,rfl,rfl,?_,rfl,?_,?_⟩<;>decide +kernel
theorem aKx:bR aKv ["script"] (aQ FQ):=by refine⟨rfl,rfl,rfl,?_,rfl,?_,?_⟩<;>decide +kernel
section
variable [KFrag] {P:bn} {w:bi} {K:Frag} {mg:Str->az aj} {base:aT} {fad:al} {fd:eP} (hK:KFrag.K=K) (B:Bt mg)
include hK B
theorem yM(F:Fun K "_law_stock" "_law_stock" nF fad fd)(hm:mg "_law_stock"=ae (.ref fad)):cG P w K mg base 1 "_law_stock" 2 fU:=by
 have sc:=FW;have nd:=sc.nd;refine eU (ps:=["cell","sides"]) (N:=uM) (k:=0) F hm (F.binds λ_ _ _ _ _ _ us hl=>by obtain⟨_,_,rfl⟩:=Mi.l2 hl;rfl) sc KH (by decide) (by decide) λcdv A outer s H E hr=>?_
 have hu:=vN hr;exact aF (aY (i:=2) (o:=ai) rfl sc.nd rfl (by trivial) aEi) (aF (aY (i:=3) (o:=ai) rfl sc.nd rfl (by trivial) (bO eG aJ (bO fG (aA (i:=0)) aJ))) (aF (aY (i:=4) (o:=ai) rfl sc.nd rfl (by trivial) (bO fG (bO jB (aA (i:=0)) aJ) (aA (i:=3)))) (aF (aY (i:=5) (o:=af) rfl sc.nd rfl (by trivial) (vH)) (aF (kZ dL rfl (m_ (by rfl) B.range (aB aJ aG)) (iK (i:=6) rfl) (aZ (i:=6) sc.nd rfl (by trivial)) (aF (aY (i:=7) (o:=ai) rfl sc.nd rfl (by trivial) aEi) (aF (kZ dL rfl (m_ (by rfl) B.range (aB (aA (i:=3)) aG)) (iK (i:=8) rfl) (aZ (i:=8) sc.nd rfl (by trivial)) (aF (aY (i:=9) (o:=ai) rfl sc.nd rfl (by trivial) (bO wN (bO fG (bO jB (aA (i:=0)) aJ) aJ) (bO eG (aA (i:=8)) aJ))) (aF (iD (cV (CN hK hu) (aA (i:=8)) (aA (i:=4)) (cZ _)) (aO (aY (i:=9) (o:=ai) rfl sc.nd rfl (by trivial) aJ)) cO) (aO (aY (i:=7) (o:=ai) rfl sc.nd rfl (by trivial) (bO eG (aA (i:=7)) (bJ (aA (i:=2)) (bO fG (bO eG (bO jB (bO jB (aA (i:=0)) aJ) (bO eG (bO wN (aA (i:=8)) (aA (i:=8))) aJ)) (bO wN (aA (i:=6)) (aA (i:=9)))) aJ)))))))) (aO (rZ (i:=5) hu rfl rfl (by trivial) (aA (i:=7)) (bJ (jQ (aB (bO eG aJ (bO fG (aA (i:=1)) aJ)) (aB (bO eG aJ (bO fG (aA (i:=1)) aJ)) (aB (bO fG (bO jB (aA (i:=1)) aJ) aJ) (aB (bO fG (bO jB (aA (i:=1)) aJ) aJ) (aB aJ aG)))))) (aA (i:=6)))))))) (aO (qU (i:=5) rfl rfl (by trivial)))))))
theorem t_(F:Fun K "_law_shuffled" "_law_shuffled" jE fad fd)(hm:mg "_law_shuffled"=ae (.ref fad)):cG P w K mg base 1 "_law_shuffled" 2 dN:=by
 have sc:=uY;have nd:=sc.nd;refine eU (ps:=["some","seed"]) (N:=nQ) (k:=0) F hm (F.binds λ_ _ _ _ _ _ us hl=>by obtain⟨_,_,rfl⟩:=Mi.l2 hl;rfl) sc xJ (by decide) (by decide) λcdv A outer s H E hr=>?_
 have hu:=vN hr;exact aF (aY (i:=2) (o:=af) rfl sc.nd rfl (by trivial) (jQ aG)) (aF (kZ dL rfl (m_ (by rfl) B.range (aB (aW (cN hK) (by rfl) B.len cQ (aB (aA (i:=0)) aG)) aG)) (iK (i:=3) rfl) (aZ (i:=3) sc.nd rfl (by trivial)) (aO (aKb (i:=2) rfl rfl (by trivial) (bO fG (bO eG (bO jB (aA (i:=1)) (bO eG (aA (i:=3)) aJ)) (bO wN (aA (i:=3)) (aA (i:=3)))) (bO eG (aA (i:=3)) aJ)) (bJ (aA (i:=0)) (aA (i:=3)))))) (aO (qU (i:=2) rfl rfl (by trivial))))
theorem xP(p6:cG P w K mg base 1 "_law_shuffled" 2 dN)(F:Fun K "_law_rimmed" "_law_rimmed" lU fad fd)(hm:mg "_law_rimmed"=ae (.ref fad)):cG P w K mg base 2 "_law_rimmed" 3 gC:=by
 have sc:=yJ;have nd:=sc.nd;refine eU (ps:=["loose","bare","seed"]) (N:=sO) (k:=1) F hm (F.binds λ_ _ _ _ _ _ us hl=>by obtain⟨_,_,_,rfl⟩:=Mi.l3 hl;rfl) sc E_ (by decide) (by decide) λcdv A outer s H E hr=>?_
 have hu:=vN hr;exact aF (aY (i:=3) (o:=ai) rfl sc.nd rfl (by trivial) (bF p6 hr (by decide) (by rfl) (aB (aDa (by rfl) (by rfl) B.list (by rfl) B.range (aB (bO eG (aW (cN hK) (by rfl) B.len cQ (aB (aA (i:=0)) aG)) (bO wN aJ (aA (i:=1)))) aG)) (aB (aA (i:=2)) aG)))) (aF (aY (i:=4) (o:=af) rfl sc.nd rfl (by trivial) (jQ aG)) (aF (kZ dL rfl (m_ (by rfl) B.range (aB (aW (cN hK) (by rfl) B.len cQ (aB (aA (i:=0)) aG)) aG)) (iK (i:=5) rfl) (aZ (i:=5) sc.nd rfl (by trivial)) (aO (jR (i:=4) rfl rfl (by trivial) (dH (aB (dH (aB aJ (aB (bJ (aA (i:=3)) (aA (i:=5))) aG))) (aB (bJ (aA (i:=0)) (aA (i:=5))) aG)))))) (aF (kZ dL rfl (m_ (by rfl) B.range (aB (aA (i:=1)) aG)) (iK (i:=5) rfl) (aZ (i:=5) sc.nd rfl (by trivial)) (aF (aY (i:=6) (o:=ai) rfl sc.nd rfl (by trivial) (aGh hK (aA (i:=3)) (wU (bO eG (aW (cN hK) (by rfl) B.len cQ (aB (aA (i:=0)) aG)) (bO wN aJ (aA (i:=5))))) (wU (bO eG (bO eG (aW (cN hK) (by rfl) B.len cQ (aB (aA (i:=0)) aG)) (bO wN aJ (aA (i:=5)))) aJ)))) (aO (jR (i:=4) rfl rfl (by trivial) (dH (aB (dH (aB aJ (aB (aW (zE hK hu (by rfl)) (by rfl) B.min zG (aB (aA (i:=6)) aG)) aG))) (aB (dH (aB aJ (aB (aW (J2 hK hu (by rfl)) (by rfl) B.max J5 (aB (aA (i:=6)) aG)) aG))) aG))))))) (aO (qU (i:=4) rfl rfl (by trivial))))))
theorem xQ(p6:cG P w K mg base 1 "_law_shuffled" 2 dN)(pU:cG P w K mg base 2 "_law_rimmed" 3 gC)(F:Fun K "_law_closed" "_law_closed" lW fad fd)(hm:mg "_law_closed"=ae (.ref fad)):cG P w K mg base 3 "_law_closed" 3 gD:=by
 have sc:=yK;have nd:=sc.nd;refine eU (ps:=["loose","bare","seed"]) (N:=sS) (k:=2) F hm (F.binds λ_ _ _ _ _ _ us hl=>by obtain⟨_,_,_,rfl⟩:=Mi.l3 hl;rfl) sc FJ (by decide) (by decide) λcdv A outer s H E hr=>?_
 have hu:=vN hr;exact aF (aY (i:=3) (o:=af) rfl sc.nd rfl (by trivial) (jQ aG)) (aF (iD (cV (aD1 hK hu) (bO fG (aA (i:=2)) aJ) aJ (cZ _)) (aF (aY (i:=0) (o:=ai) rfl sc.nd rfl (by trivial) (bF p6 hr (by decide) (by rfl) (aB (aA (i:=0)) (aB (bO jB (aA (i:=2)) aJ) aG)))) (aO (TQ dL (cV (aD1 hK hu) (aW (cN hK) (by rfl) B.len cQ (aB (aA (i:=0)) aG)) aJ (cZ _)) (aF (jR (i:=3) rfl rfl (by trivial) (dH (aB (aW (zE hK hu (by rfl)) (by rfl) B.min zG (aB (bJ (aA (i:=0)) aJ) (aB (bJ (aA (i:=0)) aJ) aG))) (aB (aW (J2 hK hu (by rfl)) (by rfl) B.max J5 (aB (bJ (aA (i:=0)) aJ) (aB (bJ (aA (i:=0)) aJ) aG))) aG)))) (aO (aY (i:=0) (o:=ai) rfl sc.nd rfl (by trivial) (aGh hK (aA (i:=0)) (wU aJ) (aGg)))))))) cO) (aO (cW (bO eG (aA (i:=3)) (bF pU hr (by decide) (by rfl) (aB (aA (i:=0)) (aB (aA (i:=1)) (aB (aA (i:=2)) aG))))))))
theorem GJ(F:Fun K "_law_tied" "_law_tied" lY fad fd)(hm:mg "_law_tied"=ae (.ref fad)):cG P w K mg base 1 "_law_tied" 2 eV:=by
 have sc:=K6;have nd:=sc.nd;refine eU (ps:=["loose","more"]) (N:=mD) (k:=0) F hm (F.binds λ_ _ _ _ _ _ us hl=>by obtain⟨_,_,rfl⟩:=Mi.l2 hl;rfl) sc QM (by decide) (by decide) λcdv A outer s H E hr=>?_
 have hu:=vN hr;exact aF (aY (i:=2) (o:=ai) rfl sc.nd rfl (by trivial) (bJ (aA (i:=0)) (bO fG (aA (i:=1)) (aW (cN hK) (by rfl) B.len cQ (aB (aA (i:=0)) aG))))) (aF (tX (ownN:=(["end"]:aa Str)) (show dJ mD (aQ lY) _ (["end"]:aa Str) from by refine⟨rfl,?_,?_,?_,?_,?_,?_⟩<;>decide +kernel) (n:=5) (m:=1) rfl rfl rfl (jC (aA (i:=0))) (tR 5) (λ_=>aZ (i:=5) (show((eS (h_ (["end"]:aa Str)) mD++(["end"]:aa Str)):aa Str).Nodup from by decide +kernel) rfl (by trivial)) (λ_=>cV (JV hK hu) (aA (i:=5)) (aA (i:=2)) (cZ _)) (λ_=>aA (i:=5)) (λ_=>rfl) (iy:=3) (o:=ai) rfl sc.nd rfl (by trivial) (km rfl) (by with_unfolding_all rfl)) (aF (aY (i:=4) (o:=ai) rfl sc.nd rfl (by trivial) (bJ (aA (i:=3)) (bO fG (bO jB (aA (i:=1)) (aW (cN hK) (by rfl) B.len cQ (aB (aA (i:=0)) aG))) (aW (cN hK) (by rfl) B.len cQ (aB (aA (i:=3)) aG))))) (aO (cW (dH (aB (aW (zE hK hu (by rfl)) (by rfl) B.min zG (aB (aA (i:=2)) (aB (aA (i:=4)) aG))) (aB (aW (J2 hK hu (by rfl)) (by rfl) B.max J5 (aB (aA (i:=2)) (aB (aA (i:=4)) aG))) aG)))))))
theorem yN(pV:cG P w K mg base 1 "_law_tied" 2 eV)(pW:cG P w K mg base 3 "_law_closed" 3 gD)(F:Fun K "_law_grown" "_law_grown" fV fad fd)(hm:mg "_law_grown"=ae (.ref fad)):cG P w K mg base 4 "_law_grown" 3 iH:=by
 have sc:=FZ;have nd:=sc.nd;refine eU (ps:=["stock","cells","seed"]) (N:=dO) (k:=3) F hm (F.binds λ_ _ _ _ _ _ us hl=>by obtain⟨_,_,_,rfl⟩:=Mi.l3 hl;rfl) sc KJ (by decide) (by decide) λcdv A outer s H E hr=>?_
 have hu:=vN hr
 exact aF (aY (i:=3) (o:=ai) rfl sc.nd rfl (by trivial) (iC (Z0 (by rfl)) (by rfl) B.list wY (aB (aA (i:=0)) aG))) (aF (aY (i:=4) (o:=af) rfl sc.nd rfl (by trivial) (jQ aG)) (aF (aY (i:=5) (o:=ai) rfl sc.nd rfl (by trivial) (jQ aG)) (aF (aY (i:=6) (o:=af) rfl sc.nd rfl (by trivial) (jQ aG)) (aF (aY (i:=7) (o:=ai) rfl sc.nd rfl (by trivial) aJ) (aF (aY (i:=8) (o:=ai) rfl sc.nd rfl (by trivial) aJ) (aF (aY (i:=9) (o:=ai) rfl sc.nd rfl (by trivial) aJ) (aF (Z8 (i:=1) rfl dL rfl rfl (by trivial) (iK (i:=10) rfl) (aZ (i:=10) sc.nd rfl (by trivial)) (aF (aY (i:=11) (o:=ai) rfl sc.nd rfl (by trivial) (bO jB (aA (i:=10)) aJ)) (aF (aK9 (i:=12) (j:=5) rfl rfl sc.nd rfl (by trivial) rfl (by trivial)) (aF (iD (cV (CN hK hu) (bO fG (aA (i:=10)) aJ) aJ (cZ _)) (aO (tX (ownN:=(["end"]:aa Str)) (show dJ dO (aQ fV) _ (["end"]:aa Str) from by refine⟨rfl,?_,?_,?_,?_,?_,?_⟩<;>decide +kernel) (n:=13) (m:=1) rfl rfl rfl (jC (aA (i:=5))) (tR 13) (λ_=>aZ (i:=13) (show((eS (h_ (["end"]:aa Str)) dO++(["end"]:aa Str)):aa Str).Nodup from by decide +kernel) rfl (by trivial)) (λ_=>cV (CN hK hu) (bJ (aA (i:=13)) aJ) aJ (cZ _)) (λ_=>aA (i:=13)) (λ_=>rfl) (iy:=12) (o:=ai) rfl sc.nd rfl (by trivial) (km rfl) (by with_unfolding_all rfl))) cO) (aO (iD (PW.pt (ZP (cV (ZR hK hu) (bO fG (aA (i:=10)) aJ) aJ (cZ _)) (QB (cV (ZR hK hu) (aW (cN hK) (by rfl) B.len cQ (aB (aA (i:=4)) aG)) aJ (cZ _))))) (aF (aY (i:=7) (o:=ai) rfl sc.nd rfl (by trivial) (bO eG (bO eG (aA (i:=7)) aJ) (bO fG (bO jB (aA (i:=11)) (aW (cN hK) (by rfl) B.len cQ (aB (aA (i:=3)) aG))) (bO aEk aJ aJ)))) (aF (jR (i:=4) rfl rfl (by trivial) (dH (aB (aA (i:=7)) (aB (bJ (aA (i:=3)) (bO fG (aA (i:=11)) (aW (cN hK) (by rfl) B.len cQ (aB (aA (i:=3)) aG)))) aG)))) (aO (aY (i:=5) (o:=ai) rfl sc.nd rfl (by trivial) (bO eG (aA (i:=5)) (sE (ownN:=(["hook"]:aa Str)) (show dJ dO (aQ fV) _ (["hook"]:aa Str) from by refine⟨rfl,?_,?_,?_,?_,?_,?_⟩<;>decide +kernel) (n:=13) (m:=1) rfl rfl rfl (m_ (by rfl) B.range (aB (bO eG (bJ (aA (i:=0)) (bJ (aA (i:=3)) (bO fG (aA (i:=11)) (aW (cN hK) (by rfl) B.len cQ (aB (aA (i:=3)) aG))))) aJ) aG)) (tR 13) (λ_=>aZ (i:=13) (show((eS (h_ (["hook"]:aa Str)) dO++(["hook"]:aa Str)):aa Str).Nodup from by decide +kernel) rfl (by trivial)) (λ_=>dH (aB (aA (i:=7)) (aB (aA (i:=13)) aG))) (λ_=>rfl))))))) (aO (iD (PW.pt (ZP (aD0 (aMr hK hu) (ZR hK hu) aJ (bO fG (aA (i:=10)) aJ) aJ) (QB (cV (aD1 hK hu) (aW (cN hK) (by rfl) B.len cQ (aB (aA (i:=12)) aG)) aJ (cZ _))))) (aF (jR (i:=6) rfl rfl (by trivial) (bF pV hr (by decide) (by rfl) (aB (aA (i:=12)) (aB (aA (i:=11)) aG)))) (aO (tX (ownN:=(["end"]:aa Str)) (show dJ dO (aQ fV) _ (["end"]:aa Str) from by refine⟨rfl,?_,?_,?_,?_,?_,?_⟩<;>decide +kernel) (n:=13) (m:=1) rfl rfl rfl (jC (aA (i:=5))) (tR 13) (λ_=>aZ (i:=13) (show((eS (h_ (["end"]:aa Str)) dO++(["end"]:aa Str)):aa Str).Nodup from by decide +kernel) rfl (by trivial)) (λ_=>cV (vK hK hu) (aA (i:=13)) (bJ (aA (i:=6)) (aMp aK4 aJ)) (by with_unfolding_all rfl)) (λ_=>aA (i:=13)) (λ_=>rfl) (iy:=5) (o:=ai) rfl sc.nd rfl (by trivial) (km rfl) (by with_unfolding_all rfl)))) (aO (iD (cV (CN hK hu) (bO fG (aA (i:=10)) aJ) aJ (cZ _)) (aO (aY (i:=8) (o:=ai) rfl sc.nd rfl (by trivial) (bO eG (aA (i:=8)) aJ))) (aO (iD (cV (CN hK hu) (bO fG (aA (i:=10)) aJ) aJ (cZ _)) (aO (aY (i:=9) (o:=ai) rfl sc.nd rfl (by trivial) (bO eG (aA (i:=9)) (bO fG (aA (i:=11)) (bO aEk aJ aJ))))) cO)))))))))))) (aF (aY (i:=6) (o:=af) rfl sc.nd rfl (by trivial) (bO eG (aA (i:=6)) (bF pW hr (by decide) (by rfl) (aB (aA (i:=5)) (aB (aA (i:=8)) (aB (aA (i:=2)) aG)))))) (aO (cW (dH (aB (iC oF (by rfl) B.tuple iV (aB (aA (i:=4)) aG)) (aB (iC oF (by rfl) B.tuple iV (aB (aW (fZ hK hu) (by rfl) B.sorted gB (aB (aA (i:=6)) aG)) aG)) (aB (aA (i:=9)) aG))))))))))))))
theorem K_(F:Fun K "mates_of" "mates_of" t7 fad fd)(hm:mg "mates_of"=ae (.ref fad)):cG P w K mg base 1 "mates_of" 1 oJ:=by
 have sc:=Q3;have nd:=sc.nd;refine eU (ps:=["net"]) (N:=zL) (k:=0) F hm (F.binds λ_ _ _ _ _ _ us hl=>by obtain⟨_,rfl⟩:=Mi.l1 hl;rfl) sc WD (by decide) (by decide) λcdv A outer s H E hr=>?_
 have hu:=vN hr;exact aF (aY (i:=1) (o:=af) rfl sc.nd rfl (by trivial) (vH)) (aF (kZ dL rfl (jC (bJ (aA (i:=0)) aJ)) (tW _ (is:=[2,3]) (by decide)) (jM rfl (bK (aZ (i:=2) sc.nd rfl (by trivial)) (bK (aZ (i:=3) sc.nd rfl (by trivial)) (fW)))) (aF (rZ (i:=1) hu rfl rfl (by trivial) (aA (i:=2)) (aA (i:=3))) (aO (rZ (i:=1) hu rfl rfl (by trivial) (aA (i:=3)) (aA (i:=2)))))) (aO (qU (i:=1) rfl rfl (by trivial))))
theorem xR(pX:cG P w K mg base 1 "mates_of" 1 oJ)(F:Fun K "ends_around" "ends_around" lZ fad fd)(hm:mg "ends_around"=ae (.ref fad)):cG P w K mg base 2 "ends_around" 1 gF:=by
 have sc:=yL;have nd:=sc.nd;refine eU (ps:=["net"]) (N:=sV) (k:=1) F hm (F.binds λ_ _ _ _ _ _ us hl=>by obtain⟨_,rfl⟩:=Mi.l1 hl;rfl) sc FN (by decide) (by decide) λcdv A outer s H E hr=>?_
 have hu:=vN hr;exact aF (aY (i:=1) (o:=ai) rfl sc.nd rfl (by trivial) (bF pX hr (by decide) (by rfl) (aB (aA (i:=0)) aG))) (aF (aY (i:=2) (o:=af) rfl sc.nd rfl (by trivial) (vH)) (aF (kZ dL rfl (jC (bJ (aA (i:=0)) aJ)) (tW _ (is:=[3,4]) (by decide)) (jM rfl (bK (aZ (i:=3) sc.nd rfl (by trivial)) (bK (aZ (i:=4) sc.nd rfl (by trivial)) (fW)))) (aAm (i:=5) rfl rfl sc.nd rfl (by trivial) (jQ aG) (EY (TQ dL (cV (aMs hK hu) (dH (aB (aA (i:=3)) (aB (aW (cN hK) (by rfl) B.len cQ (aB (aA (i:=5)) aG)) aG))) (aA (i:=1)) (by with_unfolding_all rfl)) (aO (jR (i:=5) rfl rfl (by trivial) (bJ (aA (i:=1)) (dH (aB (aA (i:=3)) (aB (aW (cN hK) (by rfl) B.len cQ (aB (aA (i:=5)) aG)) aG))))))) (aAl (h2:=aO (rZ (i:=2) hu rfl rfl (by trivial) (aA (i:=3)) (aA (i:=5)))))))) (aO (qU (i:=2) rfl rfl (by trivial)))))
theorem GK(F:Fun K "starts_of" "starts_of" l_ fad fd)(hm:mg "starts_of"=ae (.ref fad)):cG P w K mg base 1 "starts_of" 2 jG:=by
 have sc:=K7;have nd:=sc.nd;refine eU (ps:=["ends","part"]) (N:=mF) (k:=0) F hm (F.binds λ_ _ _ _ _ _ us hl=>by obtain⟨_,_,rfl⟩:=Mi.l2 hl;rfl) sc QR (by decide) (by decide) λcdv A outer s H E hr=>?_
 have hu:=vN hr;exact aF (aY (i:=2) (o:=af) rfl sc.nd rfl (by trivial) (jQ aG)) (aF (aAf (i:=1) hK rfl dL rfl rfl (by trivial) (iK (i:=3) rfl) (aZ (i:=3) sc.nd rfl (by trivial)) (aO (aKh (i:=2) rfl rfl (by trivial) (V4 (ownN:=(["far"]:aa Str)) (show dJ mF (aQ l_) _ (["far"]:aa Str) from by refine⟨rfl,?_,?_,?_,?_,?_,?_⟩<;>decide +kernel) (n:=4) (m:=1) rfl rfl rfl (aAk hK (bJ (aA (i:=0)) (aA (i:=3)))) (tR 4) (λ_=>aZ (i:=4) (show((eS (h_ (["far"]:aa Str)) mF++(["far"]:aa Str)):aa Str).Nodup from by decide +kernel) rfl (by trivial)) (λ_=>cV (CN hK hu) (bJ (aA (i:=4)) aJ) aJ (cZ _)) (λ_=>dH (aB (bJ (aA (i:=4)) aJ) (aB (aA (i:=3)) aG))) (λ_=>rfl))))) (aF (iD (kI (aA (i:=2))) (aO (cW (aKr (DW (aB (bJ (aW (zE hK hu (by rfl)) (by rfl) B.min zG (aB (aA (i:=2)) aG)) aJ) aG))))) cO) (aO (cW (aA (i:=1))))))
theorem GP(F:Fun K "walk_from" "walk_from" q_ fad fd)(hm:mg "walk_from"=ae (.ref fad)):cG P w K mg base 1 "walk_from" 4 dW:=by
 have sc:=K8;have nd:=sc.nd;refine eU (ps:=["names","ends","start","best"]) (N:=xM) (k:=0) F hm (F.binds λ_ _ _ _ _ _ us hl=>by obtain⟨_,_,_,_,rfl⟩:=Mi.l4 hl;rfl) sc QV (by decide) (by decide) λcdv A outer s H E hr=>?_
 have hu:=vN hr;exact aF (aY (i:=4) (o:=af) rfl sc.nd rfl (by trivial) (DW (aB (aA (i:=2)) aG))) (aF (aY (i:=5) (o:=af) rfl sc.nd rfl (by trivial) (aHe aJ aJ (aA (i:=2)) aJ)) (aF (aY (i:=6) (o:=af) rfl sc.nd rfl (by trivial) (jQ aG)) (aF (aY (i:=7) (o:=ai) rfl sc.nd rfl (by trivial) (R_ ZS (aA (i:=3)) o8 (cZ _))) (aF (TQ dL (cV (ZR hK hu) (aW (cN hK) (by rfl) B.len cQ (aB (aA (i:=6)) aG)) (aW (cN hK) (by rfl) B.len cQ (aB (aA (i:=4)) aG)) (cZ _)) (aF (aY (i:=8) (o:=ai) rfl sc.nd rfl (by trivial) (bJ (aA (i:=4)) (aW (cN hK) (by rfl) B.len cQ (aB (aA (i:=6)) aG)))) (aAm (i:=9) rfl rfl sc.nd rfl (by trivial) (DW (aB (bJ (aA (i:=0)) (aA (i:=8))) aG)) (EY (kZ dL rfl (aAk hK (bJ (aA (i:=1)) (aA (i:=8)))) (tW _ (is:=[10,11]) (by decide)) (jM rfl (bK (aZ (i:=10) sc.nd rfl (by trivial)) (bK (aZ (i:=11) sc.nd rfl (by trivial)) (fW)))) (aF (iD (cV (vK hK hu) (aA (i:=10)) (aA (i:=5)) (by with_unfolding_all rfl)) (aF (jR (i:=4) rfl rfl (by trivial) (aA (i:=10))) (aO (rZ (i:=5) hu rfl rfl (by trivial) (aA (i:=10)) (aW (cN hK) (by rfl) B.len cQ (aB (aA (i:=4)) aG))))) cO) (aF (jR (i:=9) rfl rfl (by trivial) (bJ (aA (i:=5)) (aA (i:=10)))) (aO (jR (i:=9) rfl rfl (by trivial) (aA (i:=11))))))) (EY (iD (PW.pt (ZP (kI (aA (i:=7))) (QB (cV (JV hK hu) (aA (i:=9)) (bJ (bJ (aA (i:=3)) aJ) (aW (cN hK) (by rfl) B.len cQ (aB (aA (i:=6)) aG))) (cZ _))))) (aF (iD (cV (aD1 hK hu) (aA (i:=9)) (bJ (bJ (aA (i:=3)) aJ) (aW (cN hK) (by rfl) B.len cQ (aB (aA (i:=6)) aG))) (cZ _)) (aO (cW o8)) cO) (aO (aY (i:=7) (o:=ai) rfl sc.nd rfl (by trivial) yD))) cO) (aAl (h2:=aO (jR (i:=6) rfl rfl (by trivial) (aA (i:=9)))))))))) (T3 (i:=6) rfl (T3 (i:=4) rfl (aO (cW (dH (aB (aA (i:=6)) (aB (aA (i:=4)) aG)))))))))))
theorem yO(pY:cG P w K mg base 1 "walk_from" 4 dW)(pZ:cG P w K mg base 1 "starts_of" 2 jG)(F:Fun K "first_walk" "first_walk" nJ fad fd)(hm:mg "first_walk"=ae (.ref fad)):cG P w K mg base 2 "first_walk" 3 cD:=by
 have sc:=F_;have nd:=sc.nd;refine eU (ps:=["names","ends","part"]) (N:=uN) (k:=1) F hm (F.binds λ_ _ _ _ _ _ us hl=>by obtain⟨_,_,_,rfl⟩:=Mi.l3 hl;rfl) sc KN (by decide) (by decide) λcdv A outer s H E hr=>?_
 have hu:=vN hr;exact aF (aY (i:=3) (o:=ai) rfl sc.nd rfl (by trivial) o8) (aF (kZ dL rfl (aAk hK (bF pZ hr (by decide) (by rfl) (aB (aA (i:=1)) (aB (aA (i:=2)) aG)))) (iK (i:=4) rfl) (aZ (i:=4) sc.nd rfl (by trivial)) (aF (aY (i:=5) (o:=ai) rfl sc.nd rfl (by trivial) (bF pY hr (by decide) (by rfl) (aB (aA (i:=0)) (aB (aA (i:=1)) (aB (aA (i:=4)) (aB (aA (i:=3)) aG)))))) (aO (iD (cV ZS (aA (i:=5)) o8 (cZ _)) (aO (aK9 (i:=3) (j:=5) rfl rfl sc.nd rfl (by trivial) rfl (by trivial))) cO)))) (aO (cW (aA (i:=3)))))
theorem yP(F:Fun K "neighbours" "neighbours" nM fad fd)(hm:mg "neighbours"=ae (.ref fad)):cG P w K mg base 1 "neighbours" 1 jW:=by
 have sc:=GC;have nd:=sc.nd;refine aH0 (ps:=["net"]) (N:=uO) (k:=0) F hm (F.binds λ_ _ _ _ _ _ us hl=>by obtain⟨_,rfl⟩:=Mi.l1 hl;rfl) sc KR (by decide) (by decide) λcdv A outer s H E hr=>?_
 have hu:=vN hr;exact vO (aH6 (i:=1) rfl sc.nd rfl (by trivial)) (vO (aEv dL rfl (jC (bJ (aA (i:=0)) aJ)) (aA8 _ (is:=[2,3]) (by decide)) (jM rfl (bK (aZ (i:=2) sc.nd rfl (by trivial)) (bK (aZ (i:=3) sc.nd rfl (by trivial)) (fW)))) (DX (aH7 (i:=1) hu rfl rfl (by trivial) (aA (i:=2))))) (vO (aEv dL rfl (jC (bJ (aA (i:=0)) aJ)) (aA8 _ (is:=[4,5]) (by decide)) (jM rfl (bK (aZ (i:=4) sc.nd rfl (by trivial)) (bK (aZ (i:=5) sc.nd rfl (by trivial)) (fW)))) (DX (aN0 (cV (JV hK hu) (bJ (aA (i:=4)) aJ) aJ (cZ _)) (vO (aA7 (i:=1) hu rfl rfl (by trivial) (bJ (aA (i:=4)) aJ) (bJ (aA (i:=5)) aJ)) (DX (aA7 (i:=1) hu rfl rfl (by trivial) (bJ (aA (i:=5)) aJ) (bJ (aA (i:=4)) aJ)))) (aGz)))) (DX (aH2 (i:=1) rfl rfl (by trivial)))))
theorem oY(F:Fun K "hanging_together" "hanging_together" gG fad fd)(hm:mg "hanging_together"=ae (.ref fad)):cG P w K mg base 1 "hanging_together" 2 bZ:=by
 have sc:=rC;have nd:=sc.nd;refine eU (ps:=["beside","start"]) (N:=jY) (k:=0) F hm (F.binds λ_ _ _ _ _ _ us hl=>by obtain⟨_,_,rfl⟩:=Mi.l2 hl;rfl) sc sJ (by decide) (by decide) λcdv A outer s H E hr=>?_
 have hu:=vN hr;exact aF (aY (i:=2) (o:=af) rfl sc.nd rfl (by trivial) (aAd (aA (i:=1)) yD)) (aF (aY (i:=3) (o:=af) rfl sc.nd rfl (by trivial) (DW (aB (aA (i:=1)) aG))) (aF (TQ dL (kI (aA (i:=3))) (aF (aGv (i:=3) (j:=4) rfl rfl (by trivial) sc.nd rfl (by trivial) rfl) (aO (aDk (i:=0) hu rfl dL rfl rfl (by trivial) (aA (i:=4)) (iK (i:=5) rfl) (aZ (i:=5) sc.nd rfl (by trivial)) (aO (iD (cV (vK hK hu) (aA (i:=5)) (aA (i:=2)) (by with_unfolding_all rfl)) (aF (rZ (i:=2) hu rfl rfl (by trivial) (aA (i:=5)) yD) (aO (jR (i:=3) rfl rfl (by trivial) (aA (i:=5))))) cO)))))) (aO (cW (aW (V7 hK (by rfl) hu) (by rfl) B.sorted gB (aB (aA (i:=2)) aG))))))
theorem aAs(qa:cG P w K mg base 1 "neighbours" 1 jW)(qc:cG P w K mg base 1 "hanging_together" 2 bZ)(F:Fun K "parts" "parts" QX fad fd)(hm:mg "parts"=ae (.ref fad)):cG P w K mg base 2 "parts" 1 t8:=by
 have sc:=aDo;have nd:=sc.nd;refine eU (ps:=["net"]) (N:=aAr) (k:=1) F hm (F.binds λ_ _ _ _ _ _ us hl=>by obtain⟨_,rfl⟩:=Mi.l1 hl;rfl) sc aHf (by decide) (by decide) λcdv A outer s H E hr=>?_
 have hu:=vN hr;exact aF (aY (i:=1) (o:=ai) rfl sc.nd rfl (by trivial) (bF qa hr (by decide) (by rfl) (aB (aA (i:=0)) aG))) (aF (aY (i:=2) (o:=af) rfl sc.nd rfl (by trivial) (vH)) (aF (aY (i:=3) (o:=af) rfl sc.nd rfl (by trivial) (jQ aG)) (aF (kZ dL rfl (jC (bJ (aA (i:=0)) aJ)) (tW _ (is:=[4,5]) (by decide)) (jM rfl (bK (aZ (i:=4) sc.nd rfl (by trivial)) (bK (aZ (i:=5) sc.nd rfl (by trivial)) (fW)))) (aO (iD (cV (vK hK hu) (aA (i:=4)) (aA (i:=2)) (by with_unfolding_all rfl)) (aF (aY (i:=6) (o:=ai) rfl sc.nd rfl (by trivial) (aKr (bF qc hr (by decide) (by rfl) (aB (aA (i:=1)) (aB (aA (i:=4)) aG))))) (aF (aAf (i:=6) hK rfl dL rfl rfl (by trivial) (iK (i:=7) rfl) (aZ (i:=7) sc.nd rfl (by trivial)) (aO (rZ (i:=2) hu rfl rfl (by trivial) (aA (i:=7)) yD))) (aO (jR (i:=3) rfl rfl (by trivial) (aA (i:=6)))))) cO))) (aO (qU (i:=3) rfl rfl (by trivial))))))
theorem aHi(qe:cG P w K mg base 2 "ends_around" 1 gF)(qf:cG P w K mg base 2 "parts" 1 t8)(qg:cG P w K mg base 2 "first_walk" 3 cD)(F:Fun K "way" "way" aAp fad fd)(hm:mg "way"=ae (.ref fad)):cG P w K mg base 3 "way" 1 yF:=by
 have sc:=aKw;have nd:=sc.nd;refine eU (ps:=["net"]) (N:=Q0) (k:=2) F hm (F.binds λ_ _ _ _ _ _ us hl=>by obtain⟨_,rfl⟩:=Mi.l1 hl;rfl) sc aN8 (by decide) (by decide) λcdv A outer s H E hr=>?_
 have hu:=vN hr;exact aF (aY (i:=1) (o:=ai) rfl sc.nd rfl (by trivial) (V_ (by rfl) (by rfl) B.dict (bJ (aA (i:=0)) aJ))) (aF (aY (i:=2) (o:=ai) rfl sc.nd rfl (by trivial) (bF qe hr (by decide) (by rfl) (aB (aA (i:=0)) aG))) (aF (aY (i:=3) (o:=ai) rfl sc.nd rfl (by trivial) (aW (fZ hK hu) (by rfl) B.sorted gB (aB (sE (ownN:=(["part"]:aa Str)) (show dJ Q0 (aQ aAp) _ (["part"]:aa Str) from by refine⟨rfl,?_,?_,?_,?_,?_,?_⟩<;>decide +kernel) (n:=7) (m:=1) rfl rfl rfl (jC (bF qf hr (by decide) (by rfl) (aB (aA (i:=0)) aG))) (tR 7) (λ_=>aZ (i:=7) (show((eS (h_ (["part"]:aa Str)) Q0++(["part"]:aa Str)):aa Str).Nodup from by decide +kernel) rfl (by trivial)) (λ_=>bF qg hr (by decide) (by rfl) (aB (aA (i:=1)) (aB (aA (i:=2)) (aB (aA (i:=7)) aG)))) (λ_=>rfl)) aG))) (aF (aY (i:=4) (o:=af) rfl sc.nd rfl (by trivial) (jQ aG)) (aF (Z8 (i:=3) rfl dL rfl rfl (by trivial) (tW _ (is:=[5,6]) (by decide)) (jM rfl (bK (aZ (i:=5) sc.nd rfl (by trivial)) (bK (aZ (i:=6) sc.nd rfl (by trivial)) (fW)))) (aO (aHd (i:=4) hK rfl rfl (by trivial) (aA (i:=6))))) (aO (cW (aW (fZ hK hu) (by rfl) B.sorted gB (aB (sE (ownN:=(["place","number"]:aa Str)) (show dJ Q0 (aQ aAp) _ (["place","number"]:aa Str) from by refine⟨rfl,?_,?_,?_,?_,?_,?_⟩<;>decide +kernel) (n:=7) (m:=2) rfl rfl rfl (aDi (by rfl) B.enum (aB (aA (i:=4)) aG)) (tU _ 7 2) (λ_=>jM rfl (bK (aZ (i:=7) (show((eS (h_ (["place","number"]:aa Str)) Q0++(["place","number"]:aa Str)):aa Str).Nodup from by decide +kernel) rfl (by trivial)) (bK (aZ (i:=8) (show((eS (h_ (["place","number"]:aa Str)) Q0++(["place","number"]:aa Str)):aa Str).Nodup from by decide +kernel) rfl (by trivial)) (fW)))) (λ_=>dH (aB (aA (i:=8)) (aB (aA (i:=7)) aG))) (λ_=>rfl)) aG))))))))
theorem yQ(F:Fun K "_law_whole" "_law_whole" nP fad fd)(hm:mg "_law_whole"=ae (.ref fad)):cG P w K mg base 1 "_law_whole" 1 eX:=by
 have sc:=GD;have nd:=sc.nd;refine eU (ps:=["found"]) (N:=uP) (k:=0) F hm (F.binds λ_ _ _ _ _ _ us hl=>by obtain⟨_,rfl⟩:=Mi.l1 hl;rfl) sc KY (by decide) (by decide) λcdv A outer s H E hr=>?_
 have hu:=vN hr;exact aO (cW (JS (o9 .int (aA (i:=0)) (by rfl) B.isi cC (by rfl) B.int aEr) (SJ (aEj (o9 .bool (aA (i:=0)) (by rfl) B.isi cC (by rfl) B.bool Z9)))))
theorem LC(pK:cG P w K mg base 1 "_law_whole" 1 eX)(F:Fun K "_law_new" "_law_new" oK fad fd)(hm:mg "_law_new"=ae (.ref fad)):cG P w K mg base 2 "_law_new" 2 iY:=by
 have sc:=Q4;have nd:=sc.nd;refine eU (ps:=["found","net"]) (N:=lC) (k:=1) F hm (F.binds λ_ _ _ _ _ _ us hl=>by obtain⟨_,_,rfl⟩:=Mi.l2 hl;rfl) sc WK (by decide) (by decide) λcdv A outer s H E hr=>?_
 have hu:=vN hr;exact aF (iD (PW.pt (V1 (uJ (kI (o9 .list (aA (i:=0)) (by rfl) B.isi cC (by rfl) B.list wY))) (SQ (cV (JV hK hu) (aW (cN hK) (by rfl) B.len cQ (aB (aA (i:=0)) aG)) (aW (cN hK) (by rfl) B.len cQ (aB (bJ (aA (i:=1)) aJ) aG)) (cZ _))))) (aO (cW o8)) cO) (aF (aY (i:=2) (o:=af) rfl sc.nd rfl (by trivial) (aAd aJ aJ)) (aF (kZ dL rfl (m_ (by rfl) B.range (aB (aW (cN hK) (by rfl) B.len cQ (aB (aA (i:=0)) aG)) aG)) (iK (i:=3) rfl) (aZ (i:=3) sc.nd rfl (by trivial)) (aF (aY (i:=4) (o:=ai) rfl sc.nd rfl (by trivial) (bJ (aA (i:=0)) (aA (i:=3)))) (aF (iD (PW.pt (V1 (uJ (kI (o9 .tuple (aA (i:=4)) (by rfl) B.isi cC (by rfl) B.tuple iV))) (V1 (cV (JV hK hu) (aW (cN hK) (by rfl) B.len cQ (aB (aA (i:=4)) aG)) aJ (cZ _)) (V1 (uJ (kI (bF pK hr (by decide) (by rfl) (aB (bJ (aA (i:=4)) aJ) aG)))) (SQ (uJ (kI (bF pK hr (by decide) (by rfl) (aB (bJ (aA (i:=4)) aJ) aG))))))))) (aO (cW o8)) cO) (aF (iD (cV (JV hK hu) (bJ (aA (i:=4)) aJ) (bJ (bJ (bJ (aA (i:=1)) aJ) (aA (i:=3))) aJ) (cZ _)) (aO (cW o8)) cO) (aO (rZ (i:=2) hu rfl rfl (by trivial) (bJ (aA (i:=4)) aJ) (bJ (aA (i:=4)) aJ))))))) (aF (iD (cV (JV hK hu) (aW (fZ hK hu) (by rfl) B.sorted gB (aB (sE (ownN:=(["number","name"]:aa Str)) (show dJ lC (aQ oK) _ (["number","name"]:aa Str) from by refine⟨rfl,?_,?_,?_,?_,?_,?_⟩<;>decide +kernel) (n:=5) (m:=2) rfl rfl rfl (jC (bJ (aA (i:=1)) aJ)) (tU _ 5 2) (λ_=>jM rfl (bK (aZ (i:=5) (show((eS (h_ (["number","name"]:aa Str)) lC++(["number","name"]:aa Str)):aa Str).Nodup from by decide +kernel) rfl (by trivial)) (bK (aZ (i:=6) (show((eS (h_ (["number","name"]:aa Str)) lC++(["number","name"]:aa Str)):aa Str).Nodup from by decide +kernel) rfl (by trivial)) (fW)))) (λ_=>bJ (aA (i:=2)) (aA (i:=5))) (λ_=>rfl)) aG)) (aAo (by rfl) (by rfl) B.list (by rfl) B.range (aB aJ (aB (bO eG (aW (cN hK) (by rfl) B.len cQ (aB (aA (i:=0)) aG)) aJ) aG))) (cZ _)) (aO (cW o8)) cO) (aO (qU (i:=2) rfl rfl (by trivial))))))
theorem LK(F:Fun K "arranged" "arranged" oM fad fd)(hm:mg "arranged"=ae (.ref fad)):cG P w K mg base 1 "arranged" 3 oN:=by
 have sc:=Q5;have nd:=sc.nd;refine eU (ps:=["pieces","ties","rings"]) (N:=lD) (k:=0) F hm (F.binds λ_ _ _ _ _ _ us hl=>by obtain⟨_,_,_,rfl⟩:=Mi.l3 hl;rfl) sc WM (by decide) (by decide) λcdv A outer s H E hr=>?_
 have hu:=vN hr;exact aF (DQ (ownN:=(["one","other"]:aa Str)) (show dJ lD (aQ oM) _ (["one","other"]:aa Str) from by refine⟨rfl,?_,?_,?_,?_,?_,?_⟩<;>decide +kernel) (n:=4) (m:=2) rfl rfl rfl (jC (aA (i:=1))) (tU _ 4 2) (λ_=>jM rfl (bK (aZ (i:=4) (show((eS (h_ (["one","other"]:aa Str)) lD++(["one","other"]:aa Str)):aa Str).Nodup from by decide +kernel) rfl (by trivial)) (bK (aZ (i:=5) (show((eS (h_ (["one","other"]:aa Str)) lD++(["one","other"]:aa Str)):aa Str).Nodup from by decide +kernel) rfl (by trivial)) (fW)))) (λ_=>dH (aB (aW (zE hK hu (by rfl)) (by rfl) B.min zG (aB (aA (i:=4)) (aB (aA (i:=5)) aG))) (aB (aW (J2 hK hu (by rfl)) (by rfl) B.max J5 (aB (aA (i:=4)) (aB (aA (i:=5)) aG))) aG))) (λ_=>rfl) (iy:=3) (o:=ai) rfl sc.nd rfl (by trivial) (km rfl) (by with_unfolding_all rfl)) (aO (cW (dH (aB (iC oF (by rfl) B.tuple iV (aB (aW (fZ hK hu) (by rfl) B.sorted gB (aB (aA (i:=0)) aG)) aG)) (aB (iC oF (by rfl) B.tuple iV (aB (aW (fZ hK hu) (by rfl) B.sorted gB (aB (aA (i:=3)) aG)) aG)) (aB (aA (i:=2)) aG))))))
theorem yR(qh:cG P w K mg base 1 "arranged" 3 oN)(F:Fun K "renumbered" "renumbered" iI fad fd)(hm:mg "renumbered"=ae (.ref fad)):cG P w K mg base 2 "renumbered" 2 jX:=by
 have sc:=GF;have nd:=sc.nd;refine eU (ps:=["net","pairs"]) (N:=dR) (k:=1) F hm (F.binds λ_ _ _ _ _ _ us hl=>by obtain⟨_,_,rfl⟩:=Mi.l2 hl;rfl) sc K4 (by decide) (by decide) λcdv A outer s H E hr=>?_
 have hu:=vN hr;exact aF (aY (i:=2) (o:=af) rfl sc.nd rfl (by trivial) (aAi (by rfl) (by rfl) B.dict (aA (i:=1)))) (aF (rZ (i:=2) hu rfl rfl (by trivial) aJ aJ) (aF (DQ (ownN:=(["number","name"]:aa Str)) (show dJ dR (aQ iI) _ (["number","name"]:aa Str) from by refine⟨rfl,?_,?_,?_,?_,?_,?_⟩<;>decide +kernel) (n:=5) (m:=2) rfl rfl rfl (jC (bJ (aA (i:=0)) aJ)) (tU _ 5 2) (λ_=>jM rfl (bK (aZ (i:=5) (show((eS (h_ (["number","name"]:aa Str)) dR++(["number","name"]:aa Str)):aa Str).Nodup from by decide +kernel) rfl (by trivial)) (bK (aZ (i:=6) (show((eS (h_ (["number","name"]:aa Str)) dR++(["number","name"]:aa Str)):aa Str).Nodup from by decide +kernel) rfl (by trivial)) (fW)))) (λ_=>dH (aB (bJ (aA (i:=2)) (aA (i:=5))) (aB (aA (i:=6)) aG))) (λ_=>rfl) (iy:=3) (o:=ai) rfl sc.nd rfl (by trivial) (km rfl) (by with_unfolding_all rfl)) (aF (DQ (ownN:=(["one","other"]:aa Str)) (show dJ dR (aQ iI) _ (["one","other"]:aa Str) from by refine⟨rfl,?_,?_,?_,?_,?_,?_⟩<;>decide +kernel) (n:=5) (m:=2) rfl rfl rfl (jC (bJ (aA (i:=0)) aJ)) (tU _ 5 2) (λ_=>jM rfl (bK (aZ (i:=5) (show((eS (h_ (["one","other"]:aa Str)) dR++(["one","other"]:aa Str)):aa Str).Nodup from by decide +kernel) rfl (by trivial)) (bK (aZ (i:=6) (show((eS (h_ (["one","other"]:aa Str)) dR++(["one","other"]:aa Str)):aa Str).Nodup from by decide +kernel) rfl (by trivial)) (fW)))) (λ_=>dH (aB (dH (aB (bJ (aA (i:=2)) (bJ (aA (i:=5)) aJ)) (aB (bJ (aA (i:=5)) aJ) aG))) (aB (dH (aB (bJ (aA (i:=2)) (bJ (aA (i:=6)) aJ)) (aB (bJ (aA (i:=6)) aJ) aG))) aG))) (λ_=>rfl) (iy:=4) (o:=ai) rfl sc.nd rfl (by trivial) (km rfl) (by with_unfolding_all rfl)) (aO (cW (bF qh hr (by decide) (by rfl) (aB (aA (i:=3)) (aB (aA (i:=4)) (aB (bJ (aA (i:=0)) aJ) aG)))))))))
theorem aDp(p5:cG P w K mg base 3 "way" 1 yF)(qi:cG P w K mg base 2 "renumbered" 2 jX)(F:Fun K "told" "told" aAq fad fd)(hm:mg "told"=ae (.ref fad)):cG P w K mg base 4 "told" 1 zK:=by
 have sc:=aHh;have nd:=sc.nd;refine eU (ps:=["net"]) (N:=aF2) (k:=3) F hm (F.binds λ_ _ _ _ _ _ us hl=>by obtain⟨_,rfl⟩:=Mi.l1 hl;rfl) sc aKt (by decide) (by decide) λcdv A outer s H E hr=>?_
 have hu:=vN hr;exact aO (cW (bF qi hr (by decide) (by rfl) (aB (aA (i:=0)) (aB (bF p5 hr (by decide) (by rfl) (aB (aA (i:=0)) aG)) aG))))
theorem uZ(F:Fun K "_law_cell_at" "_law_cell_at" j7 fad fd)(hm:mg "_law_cell_at"=ae (.ref fad)):cG P w K mg base 1 "_law_cell_at" 2 bW:=by
 have sc:=xN;have nd:=sc.nd;refine eU (ps:=["script","k"]) (N:=p_) (k:=0) F hm (F.binds λ_ _ _ _ _ _ us hl=>by obtain⟨_,_,rfl⟩:=Mi.l2 hl;rfl) sc yG (by decide) (by decide) λcdv A outer s H E hr=>?_
 have hu:=vN hr;exact aF (iD (cV (ZR hK hu) (aA (i:=1)) (aW (cN hK) (by rfl) B.len cQ (aB (aA (i:=0)) aG)) (cZ _)) (aO (cW (bJ (aA (i:=0)) (aA (i:=1))))) cO) (aO (cW aJ))
theorem GQ(F:Fun K "_law_same" "_law_same" rA fad fd)(hm:mg "_law_same"=ae (.ref fad)):∀m:ah,cG P w K mg base (m+1) "_law_same" 2 (bT m):=by
 have sc:=K9;have nd:=sc.nd;intro m;induction m with
 |zero=>
  refine eU (ps:=["found","due"]) (N:=rB) (k:=0) F hm (F.binds λ_ _ _ _ _ _ us hl=>by obtain⟨_,_,rfl⟩:=Mi.l2 hl;rfl) sc xK (by decide) (by decide) λcdv A outer s H E hr=>?_
  exact aGp
 |succ m ih=>
  have p3:=ih;refine eU (ps:=["found","due"]) (N:=rB) (k:=m+1) F hm (F.binds λ_ _ _ _ _ _ us hl=>by obtain⟨_,_,rfl⟩:=Mi.l2 hl;rfl) sc xK (by decide) (by decide) λcdv A outer s H E hr=>?_
  have hu:=vN hr;exact aF (iD (kI (o9 .tuple (aA (i:=1)) (by rfl) B.isi cC (by rfl) B.tuple iV)) (aF (iD (PW.pt (V1 (uJ (kI (o9 .tuple (aA (i:=0)) (by rfl) B.isi cC (by rfl) B.tuple iV))) (SQ (cV (JV hK hu) (aW (cN hK) (by rfl) B.len cQ (aB (aA (i:=0)) aG)) (aW (cN hK) (by rfl) B.len cQ (aB (aA (i:=1)) aG)) (cZ _))))) (aO (cW yD)) cO) (aF (kZ dL rfl (m_ (by rfl) B.range (aB (aW (cN hK) (by rfl) B.len cQ (aB (aA (i:=1)) aG)) aG)) (iK (i:=2) rfl) (aZ (i:=2) sc.nd rfl (by trivial)) (aO (iD (uJ (kI (bF p3 hr (ba _) (by rfl) (aB (bJ (aA (i:=0)) (aA (i:=2))) (aB (bJ (aA (i:=1)) (aA (i:=2))) aG))))) (aO (cW yD)) cO))) (aO (cW yD)))) cO) (aF (iD (kI (o9 .str (aA (i:=1)) (by rfl) B.isi cC (by rfl) B.str aEs)) (aO (cW (JS (o9 .str (aA (i:=0)) (by rfl) B.isi cC (by rfl) B.str aEs) (SJ (R_ (CN hK hu) (aA (i:=0)) (aA (i:=1)) (cZ _)))))) cO) (aO (cW (JS (o9 .int (aA (i:=0)) (by rfl) B.isi cC (by rfl) B.int aEr) (JS (aEj (o9 .bool (aA (i:=0)) (by rfl) B.isi cC (by rfl) B.bool Z9)) (SJ (R_ (CN hK hu) (aA (i:=0)) (aA (i:=1)) (cZ _))))))))
theorem u0(F:Fun K "_law_carried" "_law_carried" g_ fad fd)(hm:mg "_law_carried"=ae (.ref fad)):cG P w K mg base 1 "_law_carried" 2 d9:=by
 have sc:=xO;have nd:=sc.nd;refine eU (ps:=["net","new"]) (N:=fK) (k:=0) F hm (F.binds λ_ _ _ _ _ _ us hl=>by obtain⟨_,_,rfl⟩:=Mi.l2 hl;rfl) sc yH (by decide) (by decide) λcdv A outer s H E hr=>?_
 have hu:=vN hr;exact aF (aY (i:=2) (o:=ai) rfl sc.nd rfl (by trivial) (aW (fZ hK hu) (by rfl) B.sorted gB (aB (sE (ownN:=(["number","name"]:aa Str)) (show dJ fK (aQ g_) _ (["number","name"]:aa Str) from by refine⟨rfl,?_,?_,?_,?_,?_,?_⟩<;>decide +kernel) (n:=6) (m:=2) rfl rfl rfl (jC (bJ (aA (i:=0)) aJ)) (tU _ 6 2) (λ_=>jM rfl (bK (aZ (i:=6) (show((eS (h_ (["number","name"]:aa Str)) fK++(["number","name"]:aa Str)):aa Str).Nodup from by decide +kernel) rfl (by trivial)) (bK (aZ (i:=7) (show((eS (h_ (["number","name"]:aa Str)) fK++(["number","name"]:aa Str)):aa Str).Nodup from by decide +kernel) rfl (by trivial)) (fW)))) (λ_=>dH (aB (bJ (aA (i:=1)) (aA (i:=6))) (aB (aA (i:=7)) aG))) (λ_=>rfl)) aG))) (aF (aY (i:=3) (o:=af) rfl sc.nd rfl (by trivial) (jQ aG)) (aF (kZ dL rfl (jC (bJ (aA (i:=0)) aJ)) (tW _ (is:=[4,5]) (by decide)) (jM rfl (bK (aZ (i:=4) sc.nd rfl (by trivial)) (bK (aZ (i:=5) sc.nd rfl (by trivial)) (fW)))) (aF (aY (i:=4) (o:=ai) rfl sc.nd rfl (by trivial) (dH (aB (bJ (aA (i:=1)) (bJ (aA (i:=4)) aJ)) (aB (bJ (aA (i:=4)) aJ) aG)))) (aF (aY (i:=5) (o:=ai) rfl sc.nd rfl (by trivial) (dH (aB (bJ (aA (i:=1)) (bJ (aA (i:=5)) aJ)) (aB (bJ (aA (i:=5)) aJ) aG)))) (aO (jR (i:=3) rfl rfl (by trivial) (dH (aB (aW (zE hK hu (by rfl)) (by rfl) B.min zG (aB (aA (i:=4)) (aB (aA (i:=5)) aG))) (aB (aW (J2 hK hu (by rfl)) (by rfl) B.max J5 (aB (aA (i:=4)) (aB (aA (i:=5)) aG))) aG)))))))) (aO (cW (dH (aB (iC oF (by rfl) B.tuple iV (aB (aA (i:=2)) aG)) (aB (iC oF (by rfl) B.tuple iV (aB (aW (fZ hK hu) (by rfl) B.sorted gB (aB (aA (i:=3)) aG)) aG)) (aB (bJ (aA (i:=0)) aJ) aG))))))))
theorem aKy(p7:cG P w K mg base 1 "_law_cell_at" 2 bW)(qj:cG P w K mg base 1 "_law_stock" 2 fU)(qk:cG P w K mg base 4 "_law_grown" 3 iH)(p5:cG P w K mg base 3 "way" 1 yF)(pM:cG P w K mg base 2 "_law_new" 2 iY)(pN:cG P w K mg base 4 "told" 1 zK)(pP:cG P w K mg base 1 "_law_carried" 2 d9)(p3:cG P w K mg base 7 "_law_same" 2 (bT 6))(F:Fun K "law" "law" FQ fad fd):U7 P w K mg base CX0 8 fad fd ["script"] (spD QZ 1):=by
 have sc:=aKx;have nd:=sc.nd;refine aKc (ps:=["script"]) (N:=aKv) (k:=7) F sc o_law (by decide) (by decide) λcdv A outer s H E hr=>?_
 have hu:=vN hr;exact aF (aY (i:=1) (o:=ai) rfl sc.nd rfl (by trivial) (bF qj hr (by decide) (by rfl) (aB (bF p7 hr (by decide) (by rfl) (aB (aA (i:=0)) (aB aJ aG))) (aB (bF p7 hr (by decide) (by rfl) (aB (aA (i:=0)) (aB aJ aG))) aG)))) (aF (aY (i:=2) (o:=ai) rfl sc.nd rfl (by trivial) (bF qk hr (by decide) (by rfl) (aB (aA (i:=1)) (aB (aGh hK (aA (i:=0)) (wU aJ) (wU aJ)) (aB (bF p7 hr (by decide) (by rfl) (aB (aA (i:=0)) (aB aJ aG))) aG))))) (aF (aY (i:=3) (o:=af) rfl sc.nd rfl (by trivial) (bF p5 hr (by decide) (by rfl) (aB (aA (i:=2)) aG))) (aF (aY (i:=4) (o:=ai) rfl sc.nd rfl (by trivial) (bF pM hr (by decide) (by rfl) (aB (aA (i:=3)) (aB (aA (i:=2)) aG)))) (aF (iD (cV aEm (aA (i:=4)) o8 (cZ _)) (aO (cW yD)) cO) (aF (aY (i:=5) (o:=ai) rfl sc.nd rfl (by trivial) (bF pN hr (by decide) (by rfl) (aB (aA (i:=2)) aG))) (aF (iD (uJ (kI (bF p3 hr (by decide) (by rfl) (aB (aA (i:=5)) (aB (bF pP hr (by decide) (by rfl) (aB (aA (i:=2)) (aB (aA (i:=4)) aG))) aG))))) (aO (cW yD)) cO) (aF (aY (i:=6) (o:=ai) rfl sc.nd rfl (by trivial) (iC (Z0 (by rfl)) (by rfl) B.list wY (aB (aA (i:=3)) aG))) (aF (jR (i:=3) rfl rfl (by trivial) (dH (aB aJ (aB aJ aG)))) (aF (aY (i:=7) (o:=ai) rfl sc.nd rfl (by trivial) (bF pM hr (by decide) (by rfl) (aB (bF p5 hr (by decide) (by rfl) (aB (aA (i:=2)) aG)) (aB (aA (i:=2)) aG)))) (aF (iD (PW.pt (V1 (cV aEm (aA (i:=7)) o8 (cZ _)) (SQ (uJ (kI (bF p3 hr (by decide) (by rfl) (aB (bF pN hr (by decide) (by rfl) (aB (aA (i:=2)) aG)) (aB (aA (i:=5)) aG)))))))) (aO (cW yD)) cO) (aO (cW (JS (R_ (CN hK hu) (aA (i:=3)) (bO eG (aA (i:=6)) (jQ (aB (dH (aB aJ (aB aJ aG))) aG))) (cZ _)) (SJ (bF p3 hr (by decide) (by rfl) (aB (aA (i:=5)) (aB (bF pP hr (by decide) (by rfl) (aB (aA (i:=2)) (aB (aA (i:=7)) aG))) aG)))))))))))))))))
end
def AtN(K:Frag)(n:Str)(st:bo):Prop:=∃(f:al)(fd:eP),nsIn K cK n=ae (ae (.ref f))/\Fun K n n st f fd
theorem aNb{K:Frag}{n:Str}{st:bo}{f:al}{oc kV dc pm cd ct:aj}{od an:az al}{sl:aw (az aj)}(a:nsIn K cK n=ae (ae (.ref f)))(l:K.lookup f=ae ⟨oc,od,.func (fnOf n n (qO st) (iJ st) (aQ st) .none kV dc pm an cd ct),sl⟩)(c:codeIn K cd n=af)(k:keepIn K (.ref f)=af):AtN K n st:=⟨f,_,a,aEd (st:=st) l c k⟩
theorem aKz{l:OpenLaw}{w:bi}{K:Frag}{h:aT}{mg:Str->az aj}{fa:al}(X:K.In h)(G:h.Ns cK mg)(hfa:mg "law"=ae (.ref fa))(a0:AtN K "_law_stock" nF)(a1:AtN K "_law_shuffled" jE)(a2:AtN K "_law_rimmed" lU)(a3:AtN K "_law_closed" lW)(a4:AtN K "_law_tied" lY)(a5:AtN K "_law_grown" fV)(a6:AtN K "mates_of" t7)(a7:AtN K "ends_around" lZ)(a8:AtN K "starts_of" l_)(a9:AtN K "walk_from" q_)(a10:AtN K "first_walk" nJ)(a11:AtN K "neighbours" nM)(a12:AtN K "hanging_together" gG)(a13:AtN K "parts" QX)(a14:AtN K "way" aAp)(a15:AtN K "_law_whole" nP)(a16:AtN K "_law_new" oK)(a17:AtN K "arranged" oM)(a18:AtN K "renumbered" iI)(a19:AtN K "told" aAq)(a20:AtN K "_law_cell_at" j7)(a21:AtN K "_law_same" rA)(a22:AtN K "_law_carried" g_)
 {f23:al}{oc23 kV23 dc23 pm23 cd23 ct23:aj}{od23 an23:az al}{sl23:aw (az aj)}(a23:nsIn K cK "law"=ae (ae (.ref f23)))(l23:K.lookup f23=ae ⟨oc23,od23,.func (fnOf "law" "law" (qO FQ) (iJ FQ) (aQ FQ) .none kV23 dc23 pm23 an23 cd23 ct23),sl23⟩)(c23:codeIn K cd23 "law"=af)(k23:keepIn K (.ref f23)=af)(p8:nsIn K cK "len"=ae ak)(p9:nsIn K cK "min"=ae ak)(pf:nsIn K cK "max"=ae ak)(pg:nsIn K cK "list"=ae ak)(ph:nsIn K cK "tuple"=ae ak)(pj:nsIn K cK "sorted"=ae ak)(pk:nsIn K cK "range"=ae ak)(po:nsIn K cK "isinstance"=ae ak)(pq:nsIn K cK "int"=ae ak)(pz:nsIn K cK "bool"=ae ak)(pA:nsIn K cK "str"=ae ak)(pB:nsIn K cK "dict"=ae ak)(pC:nsIn K cK "all"=ae ak)(pD:nsIn K cK "enumerate"=ae ak)(pG:nsIn K cK "sum"=ae ak)(pH:nsIn K cK "zip"=ae ak)(pI:nsIn K cK "abs"=ae ak)(pJ:nsIn K cK "reversed"=ae ak) :
  ∃fd:eP,(∀(s:ao)(v:aj),kX s fd ⟨[v],[]⟩ [("script",v)])/\∀base:aT,K.In base->base.Ns cK mg->U7 l.prog w K mg base CX0 8 fa fd ["script"] (@spD ⟨K⟩ QZ 1):=by
 have e:=hfa.symm.trans (mg_of X G a23);cases e
 letI:KFrag:=⟨K⟩
 have Y:=λ{n:Str}{v:aj}=>mg_of (n:=n) (v:=v) X G
 have Z:=λ{n:Str}=>mg_none_of (n:=n) X G
 obtain⟨f0,_,a0,F0⟩:=a0;obtain⟨f1,_,a1,F1⟩:=a1;obtain⟨f2,_,a2,F2⟩:=a2;obtain⟨f3,_,a3,F3⟩:=a3;obtain⟨f4,_,a4,F4⟩:=a4;obtain⟨f5,_,a5,F5⟩:=a5;obtain⟨f6,_,a6,F6⟩:=a6;obtain⟨f7,_,a7,F7⟩:=a7;obtain⟨f8,_,a8,F8⟩:=a8;obtain⟨f9,_,a9,F9⟩:=a9;obtain⟨f10,_,a10,F10⟩:=a10;obtain⟨f11,_,a11,F11⟩:=a11;obtain⟨f12,_,a12,F12⟩:=a12;obtain⟨f13,_,a13,F13⟩:=a13;obtain⟨f14,_,a14,F14⟩:=a14;obtain⟨f15,_,a15,F15⟩:=a15;obtain⟨f16,_,a16,F16⟩:=a16;obtain⟨f17,_,a17,F17⟩:=a17;obtain⟨f18,_,a18,F18⟩:=a18;obtain⟨f19,_,a19,F19⟩:=a19;obtain⟨f20,_,a20,F20⟩:=a20;obtain⟨f21,_,a21,F21⟩:=a21;obtain⟨f22,_,a22,F22⟩:=a22;have B:Bt mg:=⟨Z p8,Z p9,Z pf,Z pg,Z ph,Z pj,Z pk,Z po,Z pq,Z pz,Z pA,Z pB,Z pC,Z pD,Z pG,Z pH,Z pI,Z pJ⟩
 refine⟨fnOf "law" "law" (qO FQ) (iJ FQ) (aQ FQ) .none kV23 dc23 pm23 an23 cd23 ct23,λs v=>.of_eq rfl,λbase _ _=>?_⟩;have qm:=yM (P:=l.prog) (w:=w) (base:=base) rfl B  F0 (Y a0);have pQ:=t_ (P:=l.prog) (w:=w) (base:=base) rfl B  F1 (Y a1);have qo:=xP (P:=l.prog) (w:=w) (base:=base) rfl B pQ F2 (Y a2);have qr:=xQ (P:=l.prog) (w:=w) (base:=base) rfl B pQ qo F3 (Y a3);have qt:=GJ (P:=l.prog) (w:=w) (base:=base) rfl B  F4 (Y a4);have qu:=yN (P:=l.prog) (w:=w) (base:=base) rfl B qt qr F5 (Y a5);have qv:=K_ (P:=l.prog) (w:=w) (base:=base) rfl B  F6 (Y a6);have qw:=xR (P:=l.prog) (w:=w) (base:=base) rfl B qv F7 (Y a7);have qx:=GK (P:=l.prog) (w:=w) (base:=base) rfl B  F8 (Y a8);have qy:=GP (P:=l.prog) (w:=w) (base:=base) rfl B  F9 (Y a9);have qz:=yO (P:=l.prog) (w:=w) (base:=base) rfl B qy qx F10 (Y a10);have qA:=yP (P:=l.prog) (w:=w) (base:=base) rfl B  F11 (Y a11);have qB:=oY (P:=l.prog) (w:=w) (base:=base) rfl B  F12 (Y a12);have qC:=aAs (P:=l.prog) (w:=w) (base:=base) rfl B qA qB F13 (Y a13);have pT:=aHi (P:=l.prog) (w:=w) (base:=base) rfl B qw qC qz F14 (Y a14);have qD:=yQ (P:=l.prog) (w:=w) (base:=base) rfl B  F15 (Y a15);have qE:=LC (P:=l.prog) (w:=w) (base:=base) rfl B qD F16 (Y a16);have qF:=LK (P:=l.prog) (w:=w) (base:=base) rfl B  F17 (Y a17);have qG:=yR (P:=l.prog) (w:=w) (base:=base) rfl B qF F18 (Y a18);have qH:=aDp (P:=l.prog) (w:=w) (base:=base) rfl B pT qG F19 (Y a19);have qI:=uZ (P:=l.prog) (w:=w) (base:=base) rfl B  F20 (Y a20);have qJ:=GQ (P:=l.prog) (w:=w) (base:=base) rfl B  F21 (Y a21) 6;have qK:=u0 (P:=l.prog) (w:=w) (base:=base) rfl B  F22 (Y a22);exact aKy rfl B qI qm qu pT qE qH qK qJ (aEd (st:=FQ) l23 c23 k23)
theorem walk{l:OpenLaw}{q:bn}{loose:aa Str}{XP:(Str->az aj)->aT->Prop}{YP:bi->aT->Prop}{d:DefRec}{K:oe->Frag}(main:∀ns:aa ag,ns.length<=63->QZ [.scr (ns.map δ)]=.ok (.bl af))(hn:l.most=ae 63)(hdf:d.params.defaults=[])
 (hY:∀(w:bi) (h:aT),YP w h->(K w.params).In h)
 (F:∀(w:bi) (mg:Str->az aj) (fa:al) (h:aT),(K w.params).In h->h.Ns cK mg->mg d.name=ae (.ref fa)->
   ∃fd:eP,(∀(s:ao) (u:aj),kX s fd ⟨[u],[]⟩ [("script",u)])/\∀base:aT,(K w.params).In base->base.Ns cK mg->U7 l.prog w (K w.params) mg base CX0 8 fa fd ["script"] (@spD ⟨K w.params⟩ QZ 1)) :
  WalkO q loose XP YP l.row.toRowW d [] (λf vs=>tx f vs):=
 L2.aFx (n:=63) (k:=8) (x:= "script") (CX:=λ_=>CX0) (sp:=λw=>@spD ⟨K w.params⟩ QZ 1) hn (by decide) hdf ⟨rfl,by decide,by decide⟩ hY F (λw H a ns hl hO hS=>Z_ main hl hO hS) λ_ _ _ _ _ z=>z
end Lk12
end
namespace Lk12
open PySem L2 Mi
noncomputable abbrev Pt:=ag×ag
noncomputable def enP(p:Pt):D:=.tup [.int p.1,.int p.2]
abbrev Tie:=Pt×Pt
def bV(t:Tie):D:=.tup [enP t.1,enP t.2]
theorem xT(p q:Pt):eqD (enP p) (enP q)=ϒ (p=q):=by
 obtain⟨a,b⟩:=p;obtain⟨c,d⟩:=q;by_cases h1:a=c<;>by_cases h2:b=d<;>simp[enP,eqD,lJ,h1,h2]
def ltP(p q:Pt):Prop:=p.1<q.1\/p.1=q.1/\p.2<q.2
noncomputable instance (p q:Pt):mB (ltP p q):=by unfold ltP;infer_instance
theorem sW(p q:Pt):gK .lt (enP p) (enP q)=ae (ϒ (ltP p q)):=by
 obtain⟨a,b⟩:=p;obtain⟨c,d⟩:=q;by_cases h1:a=c<;>by_cases h2:b=d<;>simp[enP,gK,dG,eqD,h1,h2,eY.int,eY.nat,ltP]
theorem T4(p q:Pt):gK .gt (enP p) (enP q)=ae (ϒ (ltP q p)):=by
 obtain⟨a,b⟩:=p;obtain⟨c,d⟩:=q;by_cases h1:a=c
 ·by_cases h2:b=d<;>simp[enP,gK,dG,eqD,h1,h2,eY.int,eY.nat,ltP]
 ·simp[enP,gK,dG,eqD,h1,eY.int];simp only[ltP];lia
theorem aHj(p q:Pt):b7 .ne (enP p) (enP q)=.ok (.bl (!ϒ (p=q))):=by
 rw[<-xT];rfl
noncomputable def ends(T:aa Tie):aa Pt:=T.flatMap λt=>[t.1,t.2]
noncomputable abbrev Pc:=ag×Str
def pcD(c:Pc):D:=.tup [.int c.1,.str c.2]
theorem z2:ϒ ((2:ah)<=lim)=af:=rfl
theorem oO{α:Type}[BEq α][LawfulBEq α]:∀(l1 l2:aa α),l1.Nodup->(∀x∈l1,x∈l2)->l1.length<=l2.length
 |[],_,_,_=>eR _
 |x::l,l2,hn,h=>by
  rw[dq] at hn;have hx:=h x (bu ..);have:=oO l (l2.erase x) hn.2 λy hy=>by
   refine(List.mem_erase_of_ne ?_).mpr (h y (bq _ hy));rintro rfl;exact hn.1 hy
  rw[List.length_erase_of_mem hx] at this;have:0<l2.length:=List.length_pos_of_mem hx;simp only[ck];lia
def gR(Q:aa Pc)(T:aa Tie)(r:ag):D:=.tup [.tup (Q.map pcD),.tup (T.map bV),.int r]
theorem sX(Q:aa Pc):(D.tup (Q.map pcD)).pure=af:=by
 show θ (Q.map pcD)=af;induction Q with
 |nil=>rfl
 |cons q Q ih=>rw[br,θ,ih];rfl
theorem sY(T:aa Tie):(D.tup (T.map bV)).pure=af:=by
 show θ (T.map bV)=af;induction T with
 |nil=>rfl
 |cons q Q ih=>rw[br,θ,ih];rfl
theorem gJ(l:aa Pt):θ (l.map enP)=af:=by
 induction l with
 |nil=>rfl
 |cons q Q ih=>rw[br,θ,ih];rfl
def aHk:FS:=(bI (b8 ai 9 (b2 (bB .mul) (b2 (bB .mod) (b2 (bB .fdiv) cA aG3) uU) (b2 (bB .add) rR uU)) af) (bI (sIf (bTB (b2 (b7 .eq) rR eO)) (b8 ai 9 e_ af) jA) (b8 ai 7 (b2 (bB .add) mH (b2 getD fM (b2 (bB .mod) (b2 (bB .add) (b2 (bB .fdiv) (b2 (bB .fdiv) cA JM) (b2 (bB .add) (b2 (bB .mul) rR rR) e_)) (b2 (bB .mul) lM JL)) YX))) af)))
def aNc:FS:=(bI (b8 ai 7 (bC (.str "")) af) (bI (wJ (oX (aD dU aV) mX) (tg1 8) (bI (b8 ai 9 (b2 (bB .mul) (b2 (bB .mod) (b2 (bB .fdiv) cA aG3) uU) (b2 (bB .add) rR uU)) af) (bI (sIf (bTB (b2 (b7 .eq) rR eO)) (b8 ai 9 e_ af) jA) (b8 ai 7 (b2 (bB .add) mH (b2 getD fM (b2 (bB .mod) (b2 (bB .add) (b2 (bB .fdiv) (b2 (bB .fdiv) cA JM) (b2 (bB .add) (b2 (bB .mul) rR rR) e_)) (b2 (bB .mul) lM JL)) YX))) af)))) (wI 5 mH (b2 getD (BV (aD (b2 (bB .add) uU (b2 (bB .mod) eE PB)) (aD (b2 (bB .add) uU (b2 (bB .mod) eE PB)) (aD (b2 (bB .mod) (b2 (bB .fdiv) eE PB) aG4) (aD (b2 (bB .mod) (b2 (bB .fdiv) eE PB) aG4) (aD dF aV)))))) lM))))
noncomputable def abc:Str:= "abcdefghijklmnopqrstuvwxyz"
theorem letter(i:ag)(h0:0<=i)(h1:i<26):∃c:Str,getD (.str abc) (.int i)=.ok (.str c)/\c.length=1:=by
 have hl:ϒ (abc.length<=lim)=af:=by decide +kernel
 have h26:abc.cps.toList.length=26:=by decide +kernel
 have hix:ixD abc.cps.toList.length i=ae i.toNat:=by
  unfold ixD;rw[aq h0,h26,aq (by lia)]
 have hlt:i.toNat<abc.cps.toList.length:=by rw[h26];lia
 refine⟨⟨#[abc.cps.toList[i.toNat]]⟩,?_,rfl⟩;show(if ϒ (abc.length<=lim) then ι (((ixD abc.cps.toList.length i).bind λj=>abc.cps.toList[j]?).map λc=>ν ⟨#[c]⟩) else .bad)=_;rw[hl,aq rfl,hix];simp only[AA];rw[dz hlt];rfl
theorem zM{c0 c1 sz at_ k:ag}{dk:D}{ab:Str}(hab:∀i:ag,0<=i->i<26->∃c:Str,getD (.str ab) (.int i)=.ok (.str c)/\c.length=1)(hk0:0<=k)(hk1:k<=10):∀(js:aa ah)(nm:Str)(x y:D),(∀j∈js,j<10)->nm.length+js.length<=1000->∃nm' x' y',nm'.length<=nm.length+js.length/\
  mZ (tg1 8) aHk (js.map λ(j:ah)=>δ (0+(j:ag))) [.int c0,.int c1,.str ab,.int sz,.int at_,dk,.int k,.str nm,x,y]=.ok (.nx [.int c0,.int c1,.str ab,.int sz,.int at_,dk,.int k,.str nm',x',y'])
 |[],nm,x,y,_,_=>⟨nm,x,y,by simp,rfl⟩
 |j::js,nm,x,y,hj,hl=>by
  have hj':=hj j (bu ..);rw[ck] at hl;generalize hjj:(0+(j:ag))=jj;have b0:0<=jj:=by lia
  have b1:jj<10:=by lia
  have hsq:jj*jj<100:=by
   have:jj*jj<=9*9:=Ba (by lia) (by lia) b0 (by lia);lia
  have hsq0:0<=jj*jj:=Bb b0 b0;have f1:=j6 c0 64 (by decide) (by decide);have f2:=jD (c0 / 64) 2 (by decide);have f3:=iT jj 2;have f4:=aA1 (c0 / 64 % 2) (jj+2) (oH _ (by lia) (by lia));have f5:b7 .eq (.int jj) (.int at_)=.ok (.bl (jj==at_)):=rfl;have f6:=j6 c0 128 (by decide) (by decide);have f7:=aA1 jj jj (oH _ (by lia) (by lia));have f8:=iT (jj*jj) 1;have f9:=j6 (c0 / 128) (jj*jj+1) (by lia) (by lia);have pi:∀i:ag,(δ i).pure=af:=λ_=>rfl
  have ps:∀i:Str,(ν i).pure=af:=λ_=>rfl
  rw[br,mZ,hjj];have rest:∀st:ag,∃(cc:Str)(nm':Str)(x' y':D),nm'.length<=nm.length+(js.length+1)/\(b8 ai 7 (b2 (bB .add) mH (b2 getD fM (b2 (bB .mod) (b2 (bB .add) (b2 (bB .fdiv) (b2 (bB .fdiv) cA JM) (b2 (bB .add) (b2 (bB .mul) rR rR) e_)) (b2 (bB .mul) lM JL)) YX))) af) [.int c0,.int c1,.str ab,.int sz,.int at_,dk,.int k,.str nm,.int jj,.int st]=.ok (.nx [.int c0,.int c1,.str ab,.int sz,.int at_,dk,.int k,.str (nm++cc),.int jj,.int st])/\
    mZ (tg1 8) aHk (js.map λ(j:ah)=>δ (0+(j:ag))) [.int c0,.int c1,.str ab,.int sz,.int at_,dk,.int k,.str (nm++cc),.int jj,.int st]=.ok (.nx [.int c0,.int c1,.str ab,.int sz,.int at_,dk,.int k,.str nm',x',y']):=by
   intro st;have g1:=QJ k st (oH _ (by lia) (by lia));have g2:=iT (c0 / 128 / (jj*jj+1)) (k*st);have g3:=jD (c0 / 128 / (jj*jj+1)+k*st) 26 (by decide);obtain⟨cc,g4,g5⟩:=hab ((c0 / 128 / (jj*jj+1)+k*st) % 26) (by lia) (by lia);have g6:=O7 nm cc (by rw[g5,bA];lia);obtain⟨nm',x',y',h1,h2⟩:=zM (c0:=c0) (c1:=c1) (sz:=sz) (at_:=at_) (dk:=dk) hab hk0 hk1 js (nm++cc) (.int jj) (.int st) (λj hj2=>hj j (bq _ hj2)) (by rw[str_len,g5];lia);refine⟨cc,nm',x',y',by rw[str_len,g5] at h1;lia,?_,h2⟩;exact bN (aM rfl (aM rfl (aM (aM (aM (aM rfl rfl f6) (aM (aM rfl rfl f7) rfl f8) f9) (aM rfl rfl g1) g2) rfl g3) g4) g6)
  have step:∃st:ag,aHk [.int c0,.int c1,.str ab,.int sz,.int at_,dk,.int k,.str nm,.int jj,y]=(b8 ai 7 (b2 (bB .add) mH (b2 getD fM (b2 (bB .mod) (b2 (bB .add) (b2 (bB .fdiv) (b2 (bB .fdiv) cA JM) (b2 (bB .add) (b2 (bB .mul) rR rR) e_)) (b2 (bB .mul) lM JL)) YX))) af) [.int c0,.int c1,.str ab,.int sz,.int at_,dk,.int k,.str nm,.int jj,.int st]:=by
   cases he:(jj==at_) with
   |true=>
    refine⟨1,?_⟩;exact aL (bN (aM (aM (aM rfl rfl f1) rfl f2) (aM rfl rfl f3) f4)) (aL (aD7 (dC (aM rfl rfl (f5.trans (by rw[he])))) rfl) rfl)
   |false=>
    refine⟨c0 / 64 % 2*(jj+2),?_⟩;exact aL (bN (aM (aM (aM rfl rfl f1) rfl f2) (aM rfl rfl f3) f4)) (aL (aD7 (dC (aM rfl rfl (f5.trans (by rw[he])))) rfl) rfl)
  obtain⟨st,step⟩:=step;obtain⟨cc,nm',x',y',h1,s7,h2⟩:=rest st;refine⟨nm',x',y',h1,?_⟩;have tgx:tg1 8 (.int jj) [.int c0,.int c1,.str ab,.int sz,.int at_,dk,.int k,.str nm,x,y]=.ok [.int c0,.int c1,.str ab,.int sz,.int at_,dk,.int k,.str nm,.int jj,y]:=rfl;rw[tgx,ε,step,s7,ε];exact h2
def iQ(kvs:aa (D×D)):Prop:=∀p∈kvs,∃(s:Str)(v:ag),p=(.str s,.int v)/\0<=v/\v<=6
theorem LQ{s:Str}{v:ag}(h0:0<=v)(h1:v<=6):∀{kvs:aa (D×D)},iQ kvs->iQ (putD kvs (.str s) (.int v))/\(putD kvs (.str s) (.int v)).length<=kvs.length+1/\putD kvs (.str s) (.int v)≠[]
 |[],h=>⟨λp hp=>⟨s,v,by simpa[putD] using hp,h0,h1⟩,by simp[putD],by simp[putD]⟩
 | (k,w)::r,h=>by
  obtain⟨i1,i2,i3⟩:=LQ (s:=s) h0 h1 (kvs:=r) λp hp=>h p (bq _ hp)
  rw[putD];split
  ·obtain⟨s',v',e,_⟩:=h _ (bu ..);cases e;refine⟨λp hp=>?_,by simp,by simp⟩;rcases bm.mp hp with rfl|hp
   ·exact⟨s',v,rfl,h0,h1⟩
   ·exact h p (bq _ hp)
  ·refine⟨λp hp=>?_,by simp only[ck];lia,by simp⟩;rcases bm.mp hp with rfl|hp
   ·exact h _ (bu ..)
   ·exact i1 p hp
theorem aAt{kvs:aa (D×D)}(h:iQ kvs)(s:Str):o6 kvs (.str s)=af:=by
 unfold o6;rw[show keyOk (.str s)=af from rfl,nh,dh];intro p hp;obtain⟨s',v',rfl,_⟩:=h p hp;rfl
theorem range_all(n:ah):∀j∈cq n,j<n:=λj hj=>lz.mp hj
theorem aF3{a:FA}{ρ xs:aa D}(h:a ρ=.ok xs)(hl:xs.length<=lim):BV a ρ=.ok (.lst xs):=by
 unfold BV;rw[h,ε,aq (by simpa using hl)];rfl
theorem aHl(c1:ag)(k:ah)(hk:k<5):∃v:ag,0<=v/\v<=6/\getD (.lst [.int (2+c1 % 5),.int (2+c1 % 5),.int (c1 / 5 % 7),.int (c1 / 5 % 7),.int 0]) (.int (0+(k:ag)))=.ok (.int v):=by
 match k,hk with
 |0,_=>exact⟨2+c1 % 5,by lia,by lia,rfl⟩
 |1,_=>exact⟨2+c1 % 5,by lia,by lia,rfl⟩
 |2,_=>exact⟨c1 / 5 % 7,by lia,by lia,rfl⟩
 |3,_=>exact⟨c1 / 5 % 7,by lia,by lia,rfl⟩
 |4,_=>exact⟨0,by lia,by lia,rfl⟩
theorem zN{c0 c1 sz at_:ag}{ab:Str}(hab:∀i:ag,0<=i->i<26->∃c:Str,getD (.str ab) (.int i)=.ok (.str c)/\c.length=1)(hs0:0<=sz)(hs1:sz<=9):∀(ks:aa ah)(kvs:aa (D×D))(x6 x7 x8 x9:D),(∀k∈ks,k<5)->iQ kvs->kvs.length+ks.length<=1000->
  ∃kvs' y6 y7 y8 y9,iQ kvs'/\(ks≠[]\/kvs≠[]->kvs'≠[])/\kvs'.length<=kvs.length+ks.length/\
  mZ (tg1 6) aNc (ks.map λ(j:ah)=>δ (0+(j:ag))) [.int c0,.int c1,.str ab,.int sz,.int at_,.dct kvs,x6,x7,x8,x9]=.ok (.nx [.int c0,.int c1,.str ab,.int sz,.int at_,.dct kvs',y6,y7,y8,y9])
 |[],kvs,x6,x7,x8,x9,_,hk,_=>⟨kvs,x6,x7,x8,x9,hk,λh=>h.elim (λz=>bd rfl z) id,by simp,rfl⟩
 |k::ks,kvs,x6,x7,x8,x9,hks,hk,hl=>by
  have hk':=hks k (bu ..);rw[ck] at hl;obtain⟨v,v0,v6,hv⟩:=aHl c1 k hk';generalize hkk:(0+(k:ag))=kk;rw[hkk] at hv;obtain⟨nm,u8,u9,_,hin⟩:=zM (c0:=c0) (c1:=c1) (sz:=sz) (at_:=at_) (k:=kk) (dk:=.dct kvs) hab (by lia) (by lia) (cq sz.toNat) "" x8 x9 (λj hj=>by have:=range_all _ j hj;lia) (by
   rw[jw];have:("" : Str).length=0:=rfl;lia)
  obtain⟨i1,i2,i3⟩:=LQ (s:=nm) (v:=v) v0 v6 hk;obtain⟨kvs',y6,y7,y8,y9,j1,j2,j3,j4⟩:=zN (c0:=c0) (c1:=c1) (at_:=at_) hab hs0 hs1 ks (putD kvs (.str nm) (.int v)) (.int kk) (.str nm) u8 u9 (λj hj=>hks j (bq _ hj)) i1 (by lia);refine⟨kvs',y6,y7,y8,y9,j1,λ_=>j2 (.inr i3),by simp only[ck];lia,?_⟩;rw[br,hkk];have m5:=jD c1 5 (by decide);have a2:=iT 2 (c1 % 5);have d5:=j6 c1 5 (by decide) (by decide);have m7:=jD (c1 / 5) 7 (by decide);refine iG (ρ1:=[.int c0,.int c1,.str ab,.int sz,.int at_,.dct kvs,.int kk,x7,x8,x9]) rfl ?_ j4;refine aL (ρ':=[.int c0,.int c1,.str ab,.int sz,.int at_,.dct kvs,.int kk,.str "",x8,x9]) (bN rfl) ?_;refine aL (ρ':=[.int c0,.int c1,.str ab,.int sz,.int at_,.dct kvs,.int kk,.str nm,u8,u9]) (mK (uK (n:=sz) (aC rfl rfl) hs0 (by lia)) hin) ?_;have h1:(b2 (bB .add) uU (b2 (bB .mod) eE PB)) [.int c0,.int c1,.str ab,.int sz,.int at_,.dct kvs,.int kk,.str nm,u8,u9]=.ok (.int (2+c1 % 5)):=aM rfl (aM rfl rfl m5) a2;have h2:(b2 (bB .mod) (b2 (bB .fdiv) eE PB) aG4) [.int c0,.int c1,.str ab,.int sz,.int at_,.dct kvs,.int kk,.str nm,u8,u9]=.ok (.int (c1 / 5 % 7)):=aM (aM rfl rfl d5) rfl m7;exact sG (kvs:=kvs) (aM (aF3 (aC h1 (aC h1 (aC h2 (aC h2 (aC rfl rfl))))) (by rw[bA];simp)) rfl hv) rfl rfl (by rw[bA];lia) (aAt hk nm) rfl
theorem aDq(c0 c1:ag):∃kvs,iQ kvs/\kvs≠[]/\kvs.length<=5/\fU [.int c0,.int c1]=.ok (.dct kvs):=by
 have m8:=jD c0 8 (by decide);have a1:=iT 1 (c0 % 8);have f8:=j6 c0 8 (by decide) (by decide);have ms:=jD (c0 / 8) (1+c0 % 8) (by lia);obtain⟨kvs',y6,y7,y8,y9,j1,j2,j3,j4⟩:=zN (c0:=c0) (c1:=c1) (sz:=1+c0 % 8) (at_:=c0 / 8 % (1+c0 % 8)) (ab:=abc) letter (by lia) (by lia) (cq 5) [] .uD .uD .uD .uD (λj hj=>range_all _ j hj) (λp hp=>by cases hp) (by rw[jw];simp);refine⟨kvs',j1,j2 (.inl (by decide)),by rw[jw] at j3;simpa using j3,?_⟩;have e:nG [.int c0,.int c1,.uD,.uD,.uD,.uD,.uD,.uD,.uD,.uD]=.ok (.rt (.dct kvs')):=by
  refine aL (ρ':=[.int c0,.int c1,.str abc,.uD,.uD,.uD,.uD,.uD,.uD,.uD]) (bN rfl) ?_;refine aL (ρ':=[.int c0,.int c1,.str abc,.int (1+c0 % 8),.uD,.uD,.uD,.uD,.uD,.uD]) (bN (aM rfl (aM rfl rfl m8) a1)) ?_;refine aL (ρ':=[.int c0,.int c1,.str abc,.int (1+c0 % 8),.int (c0 / 8 % (1+c0 % 8)),.uD,.uD,.uD,.uD,.uD]) (bN (aM (aM rfl rfl f8) rfl ms)) ?_;refine aL (ρ':=[.int c0,.int c1,.str abc,.int (1+c0 % 8),.int (c0 / 8 % (1+c0 % 8)),.dct [],.uD,.uD,.uD,.uD]) (cU rfl rfl) ?_;refine aL (mK (uK (n:=5) (aC rfl rfl) (by lia) (by lia)) j4) ?_;rfl
 show(do let r <- nG _;YW r)=_;rw[show([δ c0,δ c1]++cz (10-2) D.uD)=[.int c0,.int c1,.uD,.uD,.uD,.uD,.uD,.uD,.uD,.uD] from rfl,e];rfl
theorem aAu(L:aa Pt)(i:ag)(h0:0<=i)(h1:i<L.length):∃p∈L,getD (.lst (L.map enP)) (.int i)=.ok (enP p):=by
 obtain⟨h,e⟩:=qX (L.map enP) i h0 (by simpa using h1);rw[aI] at h;refine⟨L[i.toNat],gN _,?_⟩;rw[e];simp
theorem LR(o:eY)(a b:Pt)(r:Pt->Pt->Prop)[∀x y,mB (r x y)](h:∀x y,gK o (enP x) (enP y)=ae (ϒ (r x y))):cH o [enP a,enP b]=.ok (enP (if r b a then b else a)):=by
 show qQ o [enP a,enP b]=_;have hall:([enP a,enP b].all λx=>x.fD aR&&[enP a,enP b].all λy=>(gK o x y).isSome)=af:=by
  simp only[gi,Bc,h,tu,i5];rfl
 rw[qQ,aq hall];simp only[li,Bd,h,ov];by_cases hr:r b a
 ·simp[hr]
 ·simp[hr]
theorem aDr{α:Type}[fg α]{L:aa α}(hn:L.Nodup){a:α}(ha:a∈L):(L.filter λx=>!ϒ (x=a)).length+1=L.length:=by
 induction L with
 |nil=>cases ha
 |cons x L ih=>
  rw[dq] at hn;rw[List.filter_cons];by_cases h:x=a
  ·subst h;have:(L.filter λy=>!ϒ (y=x))=L:=Be.mpr λy hy=>by
    have:y≠x:=λz=>hn.1 (z▸hy)
    simp[this]
   simp[this]
  ·rw[aq (by simp[h])];rcases bm.mp ha with rfl|ha
   ·exact bd rfl h
   ·have:=ih hn.2 ha;simp only[ck];lia
theorem aHm(L:aa Pt)(more:ag)(hn:L.Nodup)(h2:2<=L.length)(hl:L.length<=100000):∃a b,a∈L/\b∈L/\ltP a b/\eV [.lst (L.map enP),.int more]=.ok (bV (a,b)):=by
 have hpos:(0:ag)<(L.length:ag):=by lia
 have g0:=jD more L.length hpos;obtain⟨one,h1,e1⟩:=aAu L (more % L.length) (lw _ (by lia)) (r_ _ hpos);have hf:=aDr hn h1
 let R:=L.filter λx=>!ϒ (x=one)
 have hR:R.length+1=L.length:=hf;have hRp:(0:ag)<(R.length:ag):=by lia
 have g1:=j6 more L.length hpos (by lia);have g2:=jD (more / L.length) R.length hRp;obtain⟨other,h3,e3⟩:=aAu R (more / L.length % R.length) (lw _ (by lia)) (r_ _ hRp);have h4:other∈L/\other≠one:=by
  have:=ly.mp h3;exact⟨this.1,by simpa using this.2⟩
 have lL:dY [.lst (L.map enP)]=.ok (.int L.length):=by rw[jU,aI]
 have lR:dY [.lst (R.map enP)]=.ok (.int R.length):=by rw[jU,aI]
 have mn:=LR .lt one other ltP sW;have mx:=LR .gt one other (λx y=>ltP y x) T4;have tri:ltP one other\/ltP other one:=by
  have:one≠other:=λz=>h4.2 z.symm
  simp only[ltP];by_cases hh:one.1=other.1
  ·have:one.2≠other.2:=λz=>this (Prod.ext hh z)
   lia
  ·lia
 have aC9:ltP other one->¬ltP one other:=by
  simp only[ltP];lia
 have body:qZ [.lst (L.map enP),.int more,.uD,.uD,.uD]=.ok (.rt (.tup [enP (if ltP other one then other else one),enP (if ltP one other then other else one)])):=by
  refine aL (ρ':=[.lst (L.map enP),.int more,enP one,.uD,.uD]) (tY (aM rfl (aM rfl (aK (aC rfl rfl) lL) g0) e1) rfl) ?_;refine aL (ρ':=[.lst (L.map enP),.int more,enP one,.lst (R.map enP),.uD]) (bN (iM (jV rfl rfl) (by rw[aI,bA];lia) ?_)) ?_
  ·rw[lA _ enP (λx=>!ϒ (x=one)) enP]
   ·rfl
   ·intro acc p;exact k_ (ρ:=[.lst (L.map enP),.int more,enP one,.uD,.uD]) rfl (dC (aM rfl rfl (aHj p one))) λ_=>⟨rfl,rfl⟩
  refine aL (ρ':=[.lst (L.map enP),.int more,enP one,.lst (R.map enP),enP other]) (tY (aM rfl (aM (aM rfl (aK (aC rfl rfl) lL) g1) (aK (aC rfl rfl) lR) g2) e3) rfl) ?_;exact gU (dM (aC (aK (aC rfl (aC rfl rfl)) mn) (aC (aK (aC rfl (aC rfl rfl)) mx) rfl)) (by rw[bA];simp)) rfl
 have ev:eV [.lst (L.map enP),.int more]=.ok (.tup [enP (if ltP other one then other else one),enP (if ltP one other then other else one)]):=by
  show(do let r <- qZ _;YW r)=_;rw[show([ξ (L.map enP),δ more]++cz (5-2) D.uD)=[.lst (L.map enP),.int more,.uD,.uD,.uD] from rfl,body];rfl
 rcases tri with h|h
 ·have n:¬ltP other one:=λz=>aC9 z h
  rw[av n,aq h] at ev;exact⟨one,other,h1,h4.1,h,ev⟩
 ·rw[aq h,av (aC9 h)] at ev;exact⟨other,one,h4.1,h1,h,ev⟩
def rb1:FS:=(aJx 2 (b2 (bB .mod) (b2 (bB .add) (b2 (bB .fdiv) eE (b2 (bB .add) dU e_)) (b2 (bB .mul) dU dU)) (b2 (bB .add) dU e_)) (b2 getD cA dU))
def rb2:FS:=(mY 4 (fQ (aD (fQ (aD dF (aD (b2 getD dU eZ) aV))) (aD (b2 getD cA eZ) aV))))
def rb3:FS:=(bI (b8 ai 6 (aCb dU (wH (b2 (bB .add) (aN dY (aD cA aV)) (b2 (bB .mul) uU eZ))) (wH (b2 (bB .add) (b2 (bB .add) (aN dY (aD cA aV)) (b2 (bB .mul) uU eZ)) uU))) af) (mY 4 (fQ (aD (fQ (aD dF (aD (aN (cH .lt) (aD lM aV)) aV))) (aD (fQ (aD dF (aD (aN (cH .gt) (aD lM aV)) aV))) aV)))))
theorem L_{xs:aa D}{seed:ag}(hp:∀x∈xs,x.pure=af)(hl:xs.length<=10000):∀(n k:ah)(F:aa D)(x3:D),k+n=xs.length->F.Perm (xs.take k)->∃(F':aa D)(y3:D),F'.Perm xs/\
  mZ (tg1 3) rb1 ((nj k n).map λ(j:ah)=>δ (0+(j:ag))) [.lst xs,.int seed,.lst F,x3]=.ok (.nx [.lst xs,.int seed,.lst F',y3])
 |0,k,F,x3,h1,h2=>⟨F,x3,by rw[mw (by lia)] at h2;exact h2,rfl⟩
 |n+1,k,F,x3,h1,h2=>by
  rw[sd,br];generalize hkk:(0+(k:ag))=kk;have hkl:k<xs.length:=by lia
  have hkk':kk=(k:ag):=by lia
  have hsq:kk*kk<=10000*10000:=Ba (by lia) (by lia) (by lia) (by lia);have hsq0:0<=kk*kk:=Bb (by lia) (by lia);have g1:=iT kk 1;have g2:=j6 seed (kk+1) (by lia) (by lia);have g3:=aA1 kk kk (oH _ (by lia) (by lia));have g4:=iT (seed / (kk+1)) (kk*kk);have g5:=jD (seed / (kk+1)+kk*kk) (kk+1) (by lia);generalize hj:(seed / (kk+1)+kk*kk) % (kk+1)=j at g5;have j0:0<=j:=by rw[<-hj];exact lw _ (by lia)
  have j1:j<kk+1:=by rw[<-hj];exact r_ _ (by lia)
  have hF:F.length=k:=by rw[h2.length_eq,hG];lia
  have hg:getD (.lst xs) (.int kk)=.ok xs[k]:=by
   obtain⟨h,e⟩:=qX xs kk (by lia) (by lia);rw[e]
   congr 2
   lia
  have hperm:(F.take j.toNat++xs[k]::F.drop j.toNat).Perm (xs.take (k+1)):=by
   refine Bf.trans ?_;rw[mI,rf hkl];exact(Bg _ h2).trans (List.perm_append_singleton _ _).symm
  obtain⟨F',y3,i1,i2⟩:=L_ hp hl n (k+1) (F.take j.toNat++xs[k]::F.drop j.toNat) (.int kk) (by lia) hperm;refine⟨F',y3,i1,?_⟩;refine iG (ρ1:=[.lst xs,.int seed,.lst F,.int kk]) rfl (aKe (xs:=F) (aM (aM (aM rfl (aM rfl rfl g1) g2) (aM rfl rfl g3) g4) (aM rfl rfl g1) g5) (aM rfl rfl hg) rfl (by rw[bA];lia) (hp _ (gN _)) j0 (by lia)) ?_;rw[<-i2];rfl
theorem aAv{xs:aa D}(seed:ag)(hp:∀x∈xs,x.pure=af)(hl:xs.length<=10000):∃ys:aa D,ys.Perm xs/\cF 2 dN [.lst xs,.int seed]=.ok (.lst ys):=by
 obtain⟨ys,y3,h1,h2⟩:=L_ (seed:=seed) hp hl xs.length 0 [] .uD (by lia) (by simp);refine⟨ys,h1,(cR rfl).trans ?_⟩;have e:jF [.lst xs,.int seed,.uD,.uD]=.ok (.rt (.lst ys)):=by
  refine aL (ρ':=[.lst xs,.int seed,.lst [],.uD]) (cU rfl rfl) ?_;refine aL (ρ':=[.lst xs,.int seed,.lst ys,y3]) (mK (uK (n:=xs.length) (aC (aK (aC rfl rfl) (jU xs)) rfl) (by lia) (by lia)) ?_) ?_
  ·rw[<-h2,show((xs.length:ag)).toNat=xs.length by lia,se];rfl
  rfl
 show(do let r <- jF _;YW r)=_;rw[show([ξ xs,δ seed]++cz (4-2) D.uD)=[.lst xs,.int seed,.uD,.uD] from rfl,e];rfl
theorem GR{α:Type}(f:α->D)(g:D->α)(h:∀a,g (f a)=a){ys:aa D}{L:aa α}(p:ys.Perm (L.map f)):∃L':aa α,L'.Perm L/\ys=L'.map f:=by
 refine⟨ys.map g,?_,?_⟩
 ·refine(p.map g).trans ?_;rw[df];refine B4 ?_
  conv=>rhs;rw[<-gV L]
  exact e8 λa _=>h a
 ·rw[df]
  conv=>lhs;rw[<-gV ys]
  refine e8 λy hy=>?_
  obtain⟨a,_,rfl⟩:=b6.mp (p.mem_iff.mp hy);show f a=f (g (f a));rw[h]
noncomputable def unI:D->ag
 |.int i=>i
 |_=>0
noncomputable def rim(s:ag):Pt:=(0,s)
theorem sZ(T:aa Tie)(t:Tie):ends (T++[t])=ends T++[t.1,t.2]:=by simp[ends]
theorem aL0{bare seed:ag}{a6:D}{L:aa Pt}{S:aa ag}(hL:∀p∈L,0<p.1):∀(n k:ah)(T:aa Tie)(x4:D),L.length=k+n->k+n<=S.length->T.length+n<=10000->∃(T':aa Tie)(y4:D),(ends T').Perm (ends T++(L.drop k++((S.drop k).take n).map rim))/\(∀t∈T',t∈T\/ltP t.1 t.2)/\T'.length=T.length+n/\
  mZ (tg1 5) rb2 ((nj k n).map λ(j:ah)=>δ (0+(j:ag))) [.lst (L.map enP),.int bare,.int seed,.lst (S.map δ),.lst (T.map bV),x4,a6]=.ok (.nx [.lst (L.map enP),.int bare,.int seed,.lst (S.map δ),.lst (T'.map bV),y4,a6])
 |0,k,T,x4,h1,_,_=>⟨T,x4,by rw[mo (by lia)];simp,λt ht=>.inl ht,rfl,rfl⟩
 |n+1,k,T,x4,h1,h2,h3=>by
  have hk1:k<L.length:=by lia
  have hk2:k<S.length:=by lia
  have e1:getD (.lst (S.map δ)) (.int (0+(k:ag)))=.ok (.int S[k]):=by
   obtain⟨h,e⟩:=qX (S.map δ) (0+(k:ag)) (by lia) (by rw[aI];lia);rw[e];simp
  have e2:getD (.lst (L.map enP)) (.int (0+(k:ag)))=.ok (enP L[k]):=by
   obtain⟨h,e⟩:=qX (L.map enP) (0+(k:ag)) (by lia) (by rw[aI];lia);rw[e];simp
  have hpos:=hL L[k] (gN _);obtain⟨T',y4,i1,i2,i3,i4⟩:=aL0 (bare:=bare) (seed:=seed) (a6:=a6) (S:=S) hL n (k+1) (T++[(rim S[k],L[k])]) (.int (0+(k:ag))) (by lia) (by lia) (by simp;lia);refine⟨T',y4,?_,λt ht=>?_,by rw[i3];simp;lia,?_⟩
  ·refine i1.trans ?_;rw[sZ,dg];refine kB _ ?_;rw[gz hk1,gz hk2,List.take_succ_cons,br];show(rim S[k]::L[k]::(L.drop (k+1)++((S.drop (k+1)).take n).map rim)).Perm (L[k]::(L.drop (k+1)++rim S[k]::((S.drop (k+1)).take n).map rim));exact(List.Perm.swap ..).trans (Bg _ Bf.symm)
  ·rcases i2 t ht with h|h
   ·rcases cS.mp h with h|h
    ·exact .inl h
    ·have:t=(rim S[k],L[k]):=by simpa using h
     subst this;exact .inr (.inl hpos)
   ·exact .inr h
  ·rw[sd,br];refine iG (ρ1:=[.lst (L.map enP),.int bare,.int seed,.lst (S.map δ),.lst (T.map bV),.int (0+(k:ag)),a6]) rfl (jT (xs:=T.map bV) (dM (aC (dM (aC rfl (aC (aM rfl rfl e1) rfl)) (by rw[bA];simp)) (aC (aM rfl rfl e2) rfl)) (by rw[bA];simp)) rfl (by rw[aI,bA];lia) rfl) ?_;rw[<-i4,c5];rfl
theorem aNd{a:FE}{l h:aa D->Res (az ag)}{ρ:aa D}{x:D}{i j:az ag}{d:D}(h1:a ρ=.ok x)(h2:l ρ=.ok i)(h3:h ρ=.ok j)(h4:Y4 x i j=.ok d):aCb a l h ρ=.ok d:=by
 unfold aCb;rw[h1,ε,h2,ε,h3,ε,h4]
theorem aAw{a:FE}{ρ:aa D}{i:ag}(h1:a ρ=.ok (.int i)):wH a ρ=.ok (ae i):=by
 unfold wH;rw[h1,ε];rfl
theorem aL1(o:eY)(a b:ag)(r:ag->ag->Prop)[∀x y,mB (r x y)](h:∀x y,gK o (.int x) (.int y)=ae (ϒ (r x y))):cH o [.lst [.int a,.int b]]=.ok (.int (if r b a then b else a)):=by
 show qQ o [.int a,.int b]=_;have hall:([δ a,δ b].all λx=>x.fD aR&&[δ a,δ b].all λy=>(gK o x y).isSome)=af:=by
  simp only[gi,Bc,h,tu,i5];rfl
 rw[qQ,aq hall];simp only[li,Bd,h,ov];by_cases hr:r b a
 ·simp[hr]
 ·simp[hr]
theorem aL2{bare seed:ag}{L:aa Pt}{S:aa ag}(hS:S.Nodup)(hb:S.length<=10000):∀(n k:ah)(T:aa Tie)(x4 x6:D),L.length+2*(k+n)=S.length->T.length+n<=10000->∃(T':aa Tie)(y4 y6:D),(ends T').Perm (ends T++(S.drop (L.length+2*k)).map rim)/\(∀t∈T',t∈T\/ltP t.1 t.2)/\T'.length=T.length+n/\
  mZ (tg1 5) rb3 ((nj k n).map λ(j:ah)=>δ (0+(j:ag))) [.lst (L.map enP),.int bare,.int seed,.lst (S.map δ),.lst (T.map bV),x4,x6]=.ok (.nx [.lst (L.map enP),.int bare,.int seed,.lst (S.map δ),.lst (T'.map bV),y4,y6])
 |0,k,T,x4,x6,h1,_=>⟨T,x4,x6,by rw[mo (by lia)];simp,λt ht=>.inl ht,rfl,rfl⟩
 |n+1,k,T,x4,x6,h1,h3=>by
  have hi:L.length+2*k<S.length:=by lia
  have hi2:L.length+2*k+1<S.length:=by lia
  have hd:S.drop (L.length+2*k)=S[L.length+2*k]::S[L.length+2*k+1]::S.drop (L.length+2*(k+1)):=by
   rw[gz hi,gz hi2];rfl
  generalize ha:S[L.length+2*k]=a at hd;generalize hb':S[L.length+2*k+1]=b at hd;have hab:a≠b:=by
   have:=(List.drop_sublist (L.length+2*k) S).nodup hS;rw[hd,dq] at this;intro z;subst z;exact this.1 (bu ..)
  have lL:dY [.lst (L.map enP)]=.ok (.int L.length):=by rw[jU,aI]
  generalize hkk:(0+(k:ag))=kk;have m2:=QJ 2 kk (oH _ (by lia) (by lia));have a1:=iT L.length (2*kk);have a2:=iT (L.length+2*kk) 2;have sl:Y4 (.lst (S.map δ)) (ae (L.length+2*kk)) (ae (L.length+2*kk+2))=.ok (.lst [.int a,.int b]):=by
   simp only[Y4,d8,cb]
   congr 2
   have e1:R0 (S.map δ).length 0 (ae ((L.length:ag)+2*kk))=L.length+2*k:=by
    simp only[R0,aI];rw[av (by lia)];lia
   have e2:R0 (S.map δ).length (S.map δ).length (ae ((L.length:ag)+2*kk+2))=L.length+2*k+2:=by
    simp only[R0,aI];rw[av (by lia)];lia
   unfold cutD;rw[e1,e2,<-AC,hd,show L.length+2*k+2-(L.length+2*k)=2 by lia];rfl
  have mn:=aL1 .lt a b (λx y=>x<y) λx y=>rfl
  have mx:=aL1 .gt a b (λx y=>y<x) λx y=>rfl
  have main:∃u v:ag,(u=a/\v=b\/u=b/\v=a)/\u<v/\cH .lt [.lst [.int a,.int b]]=.ok (.int u)/\cH .gt [.lst [.int a,.int b]]=.ok (.int v):=by
   by_cases hlt:b<a
   ·rw[aq hlt] at mn;rw[av (by lia)] at mx;exact⟨b,a,.inr ⟨rfl,rfl⟩,hlt,mn,mx⟩
   ·rw[av hlt] at mn;rw[aq (by lia)] at mx;exact⟨a,b,.inl ⟨rfl,rfl⟩,by lia,mn,mx⟩
  obtain⟨u,v,huv,hlt,mn,mx⟩:=main;obtain⟨T',y4,y6,i1,i2,i3,i4⟩:=aL2 (bare:=bare) (seed:=seed) (L:=L) hS hb n (k+1) (T++[(rim u,rim v)]) (.int kk) (.lst [.int a,.int b]) (by lia) (by simp;lia);refine⟨T',y4,y6,?_,λt ht=>?_,by rw[i3];simp;lia,?_⟩
  ·refine i1.trans ?_;rw[sZ,dg];refine kB _ ?_;rw[hd];rcases huv with ⟨rfl,rfl⟩|⟨rfl,rfl⟩
   ·exact B5 _
   ·exact List.Perm.swap ..
  ·rcases i2 t ht with h|h
   ·rcases cS.mp h with h|h
    ·exact .inl h
    ·have:t=(rim u,rim v):=by simpa using h
     subst this;exact .inr (.inr ⟨rfl,hlt⟩)
   ·exact .inr h
  ·rw[sd,br,hkk];refine iG (ρ1:=[.lst (L.map enP),.int bare,.int seed,.lst (S.map δ),.lst (T.map bV),.int kk,x6]) rfl (aL (ρ':=[.lst (L.map enP),.int bare,.int seed,.lst (S.map δ),.lst (T.map bV),.int kk,.lst [.int a,.int b]]) (bN (aNd rfl (aAw (aM (aK (aC rfl rfl) lL) (aM rfl rfl m2) a1)) (aAw (aM (aM (aK (aC rfl rfl) lL) (aM rfl rfl m2) a1) rfl a2)) sl)) (jT (xs:=T.map bV) (dM (aC (dM (aC rfl (aC (aK (aC rfl rfl) mn) rfl)) (by rw[bA];simp)) (aC (dM (aC rfl (aC (aK (aC rfl rfl) mx) rfl)) (by rw[bA];simp)) rfl)) (by rw[bA];simp)) rfl (by rw[aI,bA];lia) rfl)) ?_;rw[<-i4,c5];rfl
theorem aAx(L:aa Pt)(bare:ah)(seed:ag)(hL:∀p∈L,0<p.1)(hl:L.length+2*bare<=5000):∃(R:aa Tie)(S:aa ag),S.Nodup/\S.Perm ((cq S.length).map λ(k:ah)=>(k:ag))/\(ends R).Perm (L++S.map rim)/\(∀t∈R,ltP t.1 t.2)/\R.length=L.length+bare/\gC [.lst (L.map enP),.int bare,.int seed]=.ok (.lst (R.map bV)):=by
 have lL:dY [.lst (L.map enP)]=.ok (.int L.length):=by rw[jU,aI]
 have m2:=QJ 2 (bare:ag) (oH _ (by lia) (by lia));have a1:=iT L.length (2*(bare:ag));have hr:TJ [.int (L.length+2*(bare:ag))]=.ok (.lst (((cq (L.length+2*bare)).map λ(k:ah)=>(k:ag)).map δ)):=by
  show(if ϒ (-1000000<=(L.length:ag)+2*(bare:ag))&&ϒ ((L.length:ag)+2*(bare:ag)<=1000000) then τ (ξ ((cq ((L.length:ag)+2*(bare:ag)).toNat).map λ(k:ah)=>δ k)) else .bad)=_;rw[aq (by rw[cu (by lia),cu (by lia)];rfl),show((L.length:ag)+2*(bare:ag)).toNat=L.length+2*bare by lia,df];rfl
 obtain⟨ys,p0,s4⟩:=aAv (xs:=((cq (L.length+2*bare)).map λ(k:ah)=>(k:ag)).map δ) seed (λx hx=>by
  obtain⟨a,_,rfl⟩:=b6.mp hx;rfl) (by simp;lia)
 obtain⟨S,pS,rfl⟩:=GR δ unI (λ_=>rfl) p0;have s1:S.length=L.length+2*bare:=by rw[pS.length_eq];simp
 have s2:∀s∈S,0<=s/\s<S.length:=λs hs=>by
  obtain⟨k,hk,rfl⟩:=b6.mp (pS.mem_iff.mp hs);have:=lz.mp hk;lia
 have s3:S.Nodup:=pS.nodup_iff.mpr (vh _ (λa b hab z=>hab (by lia)) Bh);obtain⟨T1,z4,t1,t2,t3,t4⟩:=aL0 (bare:=bare) (seed:=seed) (a6:=.uD) (L:=L) (S:=S) hL L.length 0 [] .uD (by lia) (by lia) (by simp;lia);obtain⟨T2,w4,w6,u1,u2,u3,u4⟩:=aL2 (bare:=bare) (seed:=seed) (L:=L) (S:=S) s3 (by lia) bare 0 T1 z4 .uD (by lia) (by rw[t3];simp;lia);refine⟨T2,S,s3,by rw[s1];exact pS,?_,λt ht=>?_,by rw[u3,t3];simp,?_⟩
 ·refine u1.trans ?_;have t1':(ends T1).Perm (L++(S.take L.length).map rim):=by simpa[ends] using t1
  refine(t1'.append_right _).trans ?_;rw[dg,<-c5];simp only[Nat.mul_zero,tI];rw[mI]
 ·rcases u2 t ht with h|h
  ·rcases t2 t h with h|h
   ·cases h
   ·exact h
  ·exact h
 ·have e:lV [.lst (L.map enP),.int bare,.int seed,.uD,.uD,.uD,.uD]=.ok (.rt (.lst (T2.map bV))):=by
   refine aL (ρ':=[.lst (L.map enP),.int bare,.int seed,.lst (S.map δ),.uD,.uD,.uD]) (bN (i:=3) (aK (xs:=[.lst (((cq (L.length+2*bare)).map λ(k:ah)=>(k:ag)).map δ),.int seed]) (aC (aK (xs:=[.int (L.length+2*(bare:ag))]) (aC (aM (aK (aC rfl rfl) lL) (aM rfl rfl m2) a1) rfl) hr) (aC rfl rfl)) s4)) ?_;refine aL (ρ':=[.lst (L.map enP),.int bare,.int seed,.lst (S.map δ),.lst [],.uD,.uD]) (cU rfl rfl) ?_;refine aL (ρ':=[.lst (L.map enP),.int bare,.int seed,.lst (S.map δ),.lst (T1.map bV),z4,.uD]) (mK (uK (n:=L.length) (aC (aK (aC rfl rfl) lL) rfl) (by lia) (by lia)) ?_) ?_
   ·rw[<-t4,show((L.length:ag)).toNat=L.length by lia,se];rfl
   refine aL (ρ':=[.lst (L.map enP),.int bare,.int seed,.lst (S.map δ),.lst (T2.map bV),w4,w6]) (mK (uK (n:=bare) (aC rfl rfl) (by lia) (by lia)) ?_) ?_
   ·rw[<-u4,show((bare:ag)).toNat=bare by lia,se];rfl
   rfl
  show(do let r <- lV _;YW r)=_;rw[show([ξ (L.map enP),δ bare,δ seed]++cz (7-3) D.uD)=[.lst (L.map enP),.int bare,.int seed,.uD,.uD,.uD,.uD] from rfl,e];rfl
def gbr:FS:=(sIf (R1 (bTB (b2 (b7 (.ord .lt)) (b2 (bB .mod) gP BP) aIl)) (bTB (b2 (b7 (.ord .lt)) (aN dY (aD eO aV)) aG5))) (bI (b8 ai 7 (b2 (bB .add) (b2 (bB .add) mH e_) (b2 (bB .mod) (b2 (bB .fdiv) lN (aN dY (aD dU aV))) (b2 (bB .pow) YZ aMm))) af) (bI (mY 4 (fQ (aD mH (aD (b2 getD dU (b2 (bB .mod) lN (aN dY (aD dU aV)))) aV)))) (b8 ai 5 (b2 (bB .add) eZ (d7 13 (oX (aD (b2 (bB .add) (b2 getD cA (b2 getD dU (b2 (bB .mod) lN (aN dY (aD dU aV))))) e_) aV) mX) x_ gQ (fQ (aD mH (aD j_ aV))) ai)) af))) (sIf (R1 (bTB (bCh (b7 (.ord .le)) (b7 (.ord .lt)) aIl (b2 (bB .mod) gP BP) aJw)) (bTB (b2 (b7 (.ord .gt)) (aN dY (aD O_ aV)) e_))) (bI (mY 6 (aN (cF 2 eV) (aD O_ (aD lN aV)))) (b8 ai 5 (d7 13 (cM eZ ai) x_ (bTB (b2 (b7 .lE) j_ (b2 getD lM (b1 aM0 e_)))) j_ ai) af)) (sIf (bTB (b2 (b7 .eq) (b2 (bB .mod) gP BP) aJw)) (b8 ai 8 (b2 (bB .add) rR e_) af) (sIf (bTB (b2 (b7 .eq) (b2 (bB .mod) gP BP) aG4)) (b8 ai 9 (b2 (bB .add) JL (b2 (bB .mod) lN (b2 (bB .pow) YZ (bC (.int 50))))) af) jA))))
def aAy:FS:=(bI (b8 ai 11 (b2 (bB .fdiv) gP BP) af) (bI (sAl 12 5) (bI (sIf (bTB (b2 (b7 .eq) (b2 (bB .mod) gP BP) PB)) (b8 ai 12 (d7 13 (cM eZ ai) x_ (bTB (b2 (b7 .eq) (b2 getD j_ e_) dF)) j_ ai) af) jA) gbr)))
def vOf(kvs:aa (D×D))(s:Str):ah:=match bG kvs (.str s) with
 |some (.int v)=>v.toNat
 |_=>0
theorem aF4{kvs:aa (D×D)}{s:Str}{v:ah}(h:bG kvs (.str s)=ae (.int v)):vOf kvs s=v:=by
 unfold vOf;rw[h];rfl
def aNe(kvs:aa (D×D))(pc:Pc):aa Pt:=(cq (vOf kvs pc.2+1)).map λ(h:ah)=>((pc.1,(h:ag)):Pt)
def hks(kvs:aa (D×D))(Q:aa Pc):aa Pt:=Q.flatMap (aNe kvs)
structure Gr(kvs:aa (D×D))(Q:aa Pc)(L:aa Pt)(T:aa Tie)(num:ag):Prop where
 nd:(ends T++L).Nodup
 qn:(Q.map (·.1)).Nodup
 qb:∀pc∈Q,0<pc.1/\pc.1<=num
 n0:0<=num
 chf:∀pc∈Q,(pc.1,(0:ag))∈ends T++L
 num:∀e∈ends T++L,e.1∈Q.map (·.1)
 lt:∀t∈T,ltP t.1 t.2
 ll:L.length<=7*Q.length
 ql:Q.length<=30
 qs:Q.Pairwise λa b=>a.1<b.1
 pm:(ends T++L).Perm (hks kvs Q)
 sk:∀pc∈Q,∃v:ah,v<=6/\bG kvs (.str pc.2)=ae (.int v)
theorem Gr.perm{kvs:aa (D×D)}{Q:aa Pc}{L L':aa Pt}{T T':aa Tie}{num:ag}(g:Gr kvs Q L T num)(p:(ends T'++L').Perm (ends T++L))(hlt:∀t∈T',ltP t.1 t.2)(hl:L'.length<=L.length):Gr kvs Q L' T' num:=
 ⟨p.nodup_iff.mpr g.nd,g.qn,g.qb,g.n0,λpc h=>p.mem_iff.mpr (g.chf pc h),λe h=>g.num e (p.mem_iff.mp h),hlt,dn hl g.ll,g.ql,g.qs,p.trans g.pm,g.sk⟩
theorem Gr.ln{kvs:aa (D×D)}{Q:aa Pc}{L:aa Pt}{T:aa Tie}{num:ag}(g:Gr kvs Q L T num):L.Nodup:=(gq.mp g.nd).2.1
theorem Gr.tie{kvs:aa (D×D)}{Q:aa Pc}{L:aa Pt}{T:aa Tie}{num:ag}(g:Gr kvs Q L T num){a b:Pt}(ha:a∈L)(hb:b∈L)(h:ltP a b):Gr kvs Q (L.filter λx=>!(ϒ (a=x)||ϒ (b=x))) (T++[(a,b)]) num:=by
 have hab:a≠b:=λz=>by subst z;simp only[ltP] at h;lia
 have split:∀{L:aa Pt},L.Nodup->a∈L->b∈L->(a::b::L.filter λx=>!(ϒ (a=x)||ϒ (b=x))).Perm L:=by
  intro L hn ha hb;refine(List.perm_iff_count).mpr λx=>?_
  rw[Bi,Bi];have hc:∀{M:aa Pt}(y:Pt),M.Nodup->List.count y M=if y∈M then 1 else 0:=λ{M} y hm=>B6 hm
  rw[hc x hn,hc x (Bj.nodup hn)];simp only[ly,ko,Bool.or_eq_false_iff,mP,mE];by_cases h1:a=x
  ·subst h1;have:¬b=a:=λz=>hab z.symm
   simp[ha,this]
  ·by_cases h2:b=x
   ·subst h2;simp[hb,h1]
   ·simp[h1,h2]
 refine g.perm ?_ (λt ht=>?_) (vk ..)
 ·rw[sZ,dg];exact kB _ (split g.ln ha hb)
 ·rcases cS.mp ht with ht|ht
  ·exact g.lt t ht
  ·have:t=(a,b):=by simpa using ht
   subst this;exact h
theorem Gr.piece{kvs:aa (D×D)}{Q:aa Pc}{L:aa Pt}{T:aa Tie}{num:ag}(g:Gr kvs Q L T num){n:ag}{s:Str}{v:ah}(hn:num<n)(hv:v<=6)(hlk:bG kvs (.str s)=ae (.int v))(hq:Q.length<30):Gr kvs (Q++[(n,s)]) (L++(cq (v+1)).map λ(h:ah)=>((n,(h:ag)):Pt)) T n:=by
 have old:∀e∈ends T++L,e.1<=num:=λe he=>by
  obtain⟨pc,h1,h2⟩:=b6.mp (g.num e he);have:=g.qb pc h1;lia
 have newm:∀e∈(cq (v+1)).map (λ(h:ah)=>((n,(h:ag)):Pt)),e.1=n:=λe he=>by
  obtain⟨h,_,rfl⟩:=b6.mp he;rfl
 refine⟨?_,?_,λpc h=>?_,by have:=g.n0;lia,λpc h=>?_,λe he=>?_,g.lt,?_,by simp;lia,nt.mpr ⟨g.qs,by simp,λa ha b hb=>by have:=g.qb a ha;rw[show b=(n,s) from by simpa using hb];show a.1<n;lia⟩,?_,λpc h=>?_⟩
 ·rw[<-dg];refine gq.mpr ⟨g.nd,?_,λa ha b hb z=>?_⟩
  ·refine vh _ ?_ Bh;intro a b hab z;have:(a:ag)=b:=d6 Bk z;lia
  ·subst z;have:=old a ha;rw[newm a hb] at this;lia
 ·rw[c5];refine gq.mpr ⟨g.qn,by simp,λa ha b hb z=>?_⟩;subst z;obtain⟨pc,h1,h2⟩:=b6.mp ha;have:=g.qb pc h1;have:a=n:=by simpa using hb
  lia
 ·rcases cS.mp h with h|h
  ·have:=g.qb pc h;lia
  ·have:pc=(n,s):=by simpa using h
   subst this;have:=g.n0;show 0<n/\n<=n;lia
 ·rw[<-dg];rcases cS.mp h with h|h
  ·exact eM _ (g.chf pc h)
  ·have:pc=(n,s):=by simpa using h
   subst this;exact eo _ (b6.mpr ⟨0,by simp,rfl⟩)
 ·rw[<-dg] at he;rw[c5];rcases cS.mp he with he|he
  ·exact eM _ (g.num e he)
  ·rw[newm e he];exact eo _ (by simp)
 ·have:=g.ll;simp;lia
 ·rw[<-dg];have e:hks kvs (Q++[(n,s)])=hks kvs Q++(cq (v+1)).map λ(h:ah)=>((n,(h:ag)):Pt):=by
   simp only[hks,vm,nu,List.flatMap_nil,f_,aNe,aF4 hlk]
  rw[e];exact g.pm.append_right _
 ·rcases cS.mp h with h|h
  ·exact g.sk pc h
  ·have:pc=(n,s):=by simpa using h
   subst this;exact⟨v,hv,hlk⟩
section
variable {kvs:aa (D×D)} {cells:D} {seed:ag} {NS:aa Str}
@[reducible] noncomputable def St(kvs:aa (D×D))(cells:D)(seed:ag)(NS:aa Str)(Q:aa Pc)(L:aa Pt)(T:aa Tie)(num bare rings:ag)(c m sm:D):aa D:=
 [.dct kvs,cells,.int seed,.lst (NS.map ν),.lst (Q.map pcD),.lst (L.map enP),.lst (T.map bV),.int num,.int bare,.int rings,c,m,sm]
theorem aL3{Q:aa Pc}{L:aa Pt}{T:aa Tie}{num bare rings c:ag}{m sm:D}(hl:L.length<=10000):∃SM:aa Pt,SM.Sublist L/\∀r,gbr (St kvs cells seed NS Q L T num bare rings (.int c) (.int (c / 8)) (.lst (SM.map enP)))=r->aAy (St kvs cells seed NS Q L T num bare rings (.int c) m sm)=r:=by
 have f8:=j6 c 8 (by decide) (by decide);have m8:=jD c 8 (by decide);have ce:b7 .eq (.int (c % 8)) (.int 5)=.ok (.bl (c % 8==5)):=rfl;have s1:b8 ai 11 (b2 (bB .fdiv) gP BP) af (St kvs cells seed NS Q L T num bare rings (.int c) m sm)=.ok (.nx (St kvs cells seed NS Q L T num bare rings (.int c) (.int (c / 8)) sm)):=bN (aM rfl rfl f8);have s2:sAl 12 5 (St kvs cells seed NS Q L T num bare rings (.int c) (.int (c / 8)) sm)=.ok (.nx (St kvs cells seed NS Q L T num bare rings (.int c) (.int (c / 8)) (.lst (L.map enP)))):=aMy rfl;have tc:bTB (b2 (b7 .eq) (b2 (bB .mod) gP BP) PB) (St kvs cells seed NS Q L T num bare rings (.int c) (.int (c / 8)) (.lst (L.map enP)))=.ok (c % 8==5):=dC (aM (aM rfl rfl m8) rfl ce);unfold aAy;cases h:(c % 8==5) with
 |true=>
  rw[h] at tc;refine⟨L.filter λx=>x.2==0,Bj,λr hr=>?_⟩;have cf:d7 13 (cM eZ ai) x_ (bTB (b2 (b7 .eq) (b2 getD j_ e_) dF)) j_ ai (St kvs cells seed NS Q L T num bare rings (.int c) (.int (c / 8)) (.lst (L.map enP)))=.ok (.lst ((L.filter λx=>x.2==0).map enP)):=by
   refine iM (jV rfl rfl) (by rw[aI,bA];lia) ?_;rw[lA _ enP (λx=>x.2==0) enP]
   ·rfl
   ·intro acc p;have e1:b2 getD j_ e_ (St kvs cells seed NS Q L T num bare rings (.int c) (.int (c / 8)) (.lst (L.map enP))++[enP p])=.ok (.int p.2):=aM (x:=enP p) (y:=.int 1) rfl rfl rfl;have e2:b7 .eq (.int p.2) (.int 0)=.ok (.bl (p.2==0)):=rfl;exact k_ (ρ:=St kvs cells seed NS Q L T num bare rings (.int c) (.int (c / 8)) (.lst (L.map enP))) rfl (dC (aM e1 rfl e2)) λ_=>⟨rfl,rfl⟩
  have s3:sIf (bTB (b2 (b7 .eq) (b2 (bB .mod) gP BP) PB)) (b8 ai 12 (d7 13 (cM eZ ai) x_ (bTB (b2 (b7 .eq) (b2 getD j_ e_) dF)) j_ ai) af) jA (St kvs cells seed NS Q L T num bare rings (.int c) (.int (c / 8)) (.lst (L.map enP)))=.ok (.nx (St kvs cells seed NS Q L T num bare rings (.int c) (.int (c / 8)) (.lst ((L.filter λx=>x.2==0).map enP)))):=HN tc (bN cf);exact aL s1 (aL s2 (aL s3 hr))
 |false=>
  rw[h] at tc;refine⟨L,B7 _,λr hr=>?_⟩;exact aL s1 (aL s2 (aL (oG tc rfl) hr))
theorem lH(NS:aa Str)(i:ag)(h0:0<=i)(h1:i<NS.length):∃s∈NS,getD (.lst (NS.map ν)) (.int i)=.ok (.str s):=by
 obtain⟨h,e⟩:=qX (NS.map ν) i h0 (by simpa using h1);rw[aI] at h;refine⟨NS[i.toNat],gN _,?_⟩;rw[e];simp
theorem MF{s:Str}:∀{kvs:aa (D×D)},iQ kvs->ν s∈lO kvs->∃v:ah,v<=6/\bG kvs (.str s)=ae (.int v)
 |[],_,hm=>by cases hm
 |p::r,h,hm=>by
  obtain⟨s',v,rfl,h0,h1⟩:=h _ (bu ..);rw[bG];by_cases e:eqD (.str s') (.str s)=af
  ·rw[aq e];exact⟨v.toNat,by lia,by congr 2;lia⟩
  ·rw[av e];refine MF (λp hp=>h p (bq _ hp)) ?_;rcases bm.mp (show ν s∈ν s'::lO r from hm) with z|z
   ·cases z;exact bd (by simp[eqD]) e
   ·exact z
theorem aP3(Q:aa Pc):dY [.lst (Q.map pcD)]=.ok (.int Q.length):=by rw[jU,aI]
theorem aNf(Q:aa Str):dY [.lst (Q.map ν)]=.ok (.int Q.length):=by rw[jU,aI]
theorem aNg(Q:aa Pt):dY [.lst (Q.map enP)]=.ok (.int Q.length):=by rw[jU,aI]
theorem aHn(hst:iQ kvs)(hNS:lO kvs=NS.map ν)(hne:NS≠[])(hNl:NS.length<=1000){Q:aa Pc}{L:aa Pt}{T:aa Tie}{num rings c:ag}{bare:ah}{m sm:D}(g:Gr kvs Q L T num)(hT:T.length<=1000)(hb:bare<=1000)(hr:0<=rings) :
  ∃(Q':aa Pc)(L':aa Pt)(T':aa Tie)(num' rings':ag)(bare':ah)(m' sm':D),Gr kvs Q' L' T' num'/\0<=rings'/\T'.length<=T.length+1/\bare'<=bare+1/\aAy (St kvs cells seed NS Q L T num bare rings (.int c) m sm)=.ok (.nx (St kvs cells seed NS Q' L' T' num' bare' rings' (.int c) m' sm')):=by
 have hll:=g.ll;have hql:=g.ql;obtain⟨SM,hSM,pre⟩:=aL3 (kvs:=kvs) (cells:=cells) (seed:=seed) (NS:=NS) (Q:=Q) (L:=L) (T:=T) (num:=num) (bare:=bare) (rings:=rings) (c:=c) (m:=m) (sm:=sm) (by lia);have m8:=jD c 8 (by decide);have c4:b7 (.ord .lt) (.int (c % 8)) (.int 4)=.ok (.bl (ϒ (c % 8<4))):=rfl;have c60:b7 (.ord .lt) (.int Q.length) (.int 30)=.ok (.bl (ϒ ((Q.length:ag)<30))):=rfl;have c46:b7 (.ord .le) (.int 4) (.int (c % 8))=.ok (.bl (ϒ (4<=c % 8))):=rfl;have c66:b7 (.ord .lt) (.int (c % 8)) (.int 6)=.ok (.bl (ϒ (c % 8<6))):=rfl;have c1:b7 (.ord .gt) (.int SM.length) (.int 1)=.ok (.bl (ϒ ((1:ag)<SM.length))):=rfl;have e6:b7 .eq (.int (c % 8)) (.int 6)=.ok (.bl (c % 8==6)):=rfl;have e7:b7 .eq (.int (c % 8)) (.int 7)=.ok (.bl (c % 8==7)):=rfl;have hNp:(0:ag)<(NS.length:ag):=by
  cases NS with
  |nil=>exact bd rfl hne
  |cons _ _=>simp
 -- the first test
 have t1:∀b,b=(ϒ (c % 8<4)&&ϒ ((Q.length:ag)<30))->R1 (bTB (b2 (b7 (.ord .lt)) (b2 (bB .mod) gP BP) aIl)) (bTB (b2 (b7 (.ord .lt)) (aN dY (aD eO aV)) aG5)) (St kvs cells seed NS Q L T num bare rings (.int c) (.int (c / 8)) (.lst (SM.map enP)))=.ok b:=by
  rintro b rfl;cases h1:ϒ (c % 8<4) with
  |true=>rw[h1] at c4;exact aGq (dC (aM (aM rfl rfl m8) rfl c4)) (dC (aM (aK (aC rfl rfl) (aP3 Q)) rfl c60))
  |false=>rw[h1] at c4;exact aD8 (dC (aM (aM rfl rfl m8) rfl c4))
 have t2:∀b,b=(ϒ (4<=c % 8)&&ϒ (c % 8<6)&&ϒ ((1:ag)<SM.length))->R1 (bTB (bCh (b7 (.ord .le)) (b7 (.ord .lt)) aIl (b2 (bB .mod) gP BP) aJw)) (bTB (b2 (b7 (.ord .gt)) (aN dY (aD O_ aV)) e_)) (St kvs cells seed NS Q L T num bare rings (.int c) (.int (c / 8)) (.lst (SM.map enP)))=.ok b:=by
  rintro b rfl;cases h1:ϒ (4<=c % 8) with
  |false=>rw[h1] at c46;exact aD8 (dC (aOz rfl (aM rfl rfl m8) c46))
  |true=>
   rw[h1] at c46;cases h2:ϒ (c % 8<6) with
   |false=>rw[h2] at c66;exact aD8 (dC (aO0 rfl (aM rfl rfl m8) c46 rfl c66))
   |true=>rw[h2] at c66;exact aGq (dC (aO0 rfl (aM rfl rfl m8) c46 rfl c66)) (dC (aM (aK (aC rfl rfl) (aNg SM)) rfl c1))
 have fin:∀{r:Res Fl},gbr (St kvs cells seed NS Q L T num bare rings (.int c) (.int (c / 8)) (.lst (SM.map enP)))=r->aAy (St kvs cells seed NS Q L T num bare rings (.int c) m sm)=r:=λ{r} h=>pre r h
 cases hA:(ϒ (c % 8<4)&&ϒ ((Q.length:ag)<30)) with
 |true=>
  rw[bg,d4,d4] at hA;have T1:=t1 af (by rw[cu hA.1,cu hA.2];rfl);have gm:=jD (c / 8) NS.length hNp;obtain⟨s,hs,es⟩:=lH NS (c / 8 % NS.length) (lw _ (by lia)) (r_ _ hNp);obtain⟨v,hv,ev⟩:=MF (s:=s) hst (by rw[hNS];exact b6.mpr ⟨s,hs,rfl⟩);have gs:getD (.dct kvs) (.str s)=.ok (.int v):=by
   show(if keyOk (.str s) then ι (bG kvs (.str s)) else .bad)=_;rw[ev];rfl
  have f1:=j6 (c / 8) NS.length hNp (by lia);obtain⟨pw,hp,f2⟩:∃pw:ag,0<pw/\bB .pow (.int 10) (.int 9)=.ok (.int pw):=⟨10 ^ 9,by decide,aEu 9 (by decide)⟩
  have f3:=jD (c / 8 / NS.length) pw hp;have f4:=iT num 1;have f5:=iT (num+1) (c / 8 / NS.length % pw);have h9:0<=c / 8 / NS.length % pw:=lw _ (by lia);generalize hn:num+1+c / 8 / NS.length % pw=n at f5;have G:=g.piece (n:=n) (s:=s) (v:=v) (by lia) hv ev (by lia);refine⟨_,_,T,n,rings,bare,.int (c / 8),.lst (SM.map enP),G,hr,by lia,by lia,fin ?_⟩;have s1:b8 ai 7 (b2 (bB .add) (b2 (bB .add) mH e_) (b2 (bB .mod) (b2 (bB .fdiv) lN (aN dY (aD dU aV))) (b2 (bB .pow) YZ aMm))) af (St kvs cells seed NS Q L T num bare rings (.int c) (.int (c / 8)) (.lst (SM.map enP)))=.ok (.nx (St kvs cells seed NS Q L T n bare rings (.int c) (.int (c / 8)) (.lst (SM.map enP)))):=
   bN (aM (aM rfl rfl f4) (aM (aM rfl (aK (aC rfl rfl) (aNf NS)) f1) (aM rfl rfl f2) f3) f5)
  have s2:mY 4 (fQ (aD mH (aD (b2 getD dU (b2 (bB .mod) lN (aN dY (aD dU aV)))) aV))) (St kvs cells seed NS Q L T n bare rings (.int c) (.int (c / 8)) (.lst (SM.map enP)))=.ok (.nx (St kvs cells seed NS (Q++[(n,s)]) L T n bare rings (.int c) (.int (c / 8)) (.lst (SM.map enP)))):=by
   have d0:fQ (aD mH (aD (b2 getD dU (b2 (bB .mod) lN (aN dY (aD dU aV)))) aV)) (St kvs cells seed NS Q L T n bare rings (.int c) (.int (c / 8)) (.lst (SM.map enP)))=.ok (.tup [.int n,.str s]):=dM (aC rfl (aC (aM rfl (aM rfl (aK (aC rfl rfl) (aNf NS)) gm) es) rfl)) (by rw[bA];simp);refine(jT (i:=4) (ρ:=St kvs cells seed NS Q L T n bare rings (.int c) (.int (c / 8)) (.lst (SM.map enP))) (xs:=Q.map pcD) (d:=.tup [.int n,.str s]) d0 rfl (by rw[aI,bA];lia) rfl).trans ?_;show _=τ (Fl.nx [.dct kvs,cells,.int seed,.lst (NS.map ν),.lst ((Q++[(n,s)]).map pcD),.lst (L.map enP),.lst (T.map bV),.int n,.int bare,.int rings,.int c,.int (c / 8),.lst (SM.map enP)]);rw[c5];rfl
  have cf:d7 13 (oX (aD (b2 (bB .add) (b2 getD cA (b2 getD dU (b2 (bB .mod) lN (aN dY (aD dU aV))))) e_) aV) mX) x_ gQ (fQ (aD mH (aD j_ aV))) ai (St kvs cells seed NS (Q++[(n,s)]) L T n bare rings (.int c) (.int (c / 8)) (.lst (SM.map enP)))=.ok (.lst (((cq (v+1)).map λ(h:ah)=>((n,(h:ag)):Pt)).map enP)):=by
   refine iM (uK (n:=(v:ag)+1) (aC (aM (aM rfl (aM rfl (aM rfl (aK (aC rfl rfl) (aNf NS)) gm) es) gs) rfl (iT v 1)) rfl) (by lia) (by lia)) (by rw[aI,jw,bA];lia) ?_;rw[lA _ (λ(k:ah)=>δ (0+(k:ag))) (λ_=>af) (λ(k:ah)=>enP (n,(k:ag)))]
   ·rw[show((v:ag)+1).toNat=v+1 by lia];rw[Be.mpr (λ_ _=>rfl),df,eW];rfl
   ·intro acc k;refine k_ (ρ:=St kvs cells seed NS (Q++[(n,s)]) L T n bare rings (.int c) (.int (c / 8)) (.lst (SM.map enP))) (b:=af) rfl rfl λ_=>⟨?_,rfl⟩
    have d1:fQ (aD mH (aD j_ aV)) (St kvs cells seed NS (Q++[(n,s)]) L T n bare rings (.int c) (.int (c / 8)) (.lst (SM.map enP))++[δ (0+(k:ag))])=.ok (.tup [.int n,.int (0+(k:ag))]):=dM (aC rfl (aC rfl rfl)) (by rw[bA];simp);refine d1.trans ?_;rw[Int.zero_add];rfl
  have s3:b8 ai 5 (b2 (bB .add) eZ (d7 13 (oX (aD (b2 (bB .add) (b2 getD cA (b2 getD dU (b2 (bB .mod) lN (aN dY (aD dU aV))))) e_) aV) mX) x_ gQ (fQ (aD mH (aD j_ aV))) ai)) af (St kvs cells seed NS (Q++[(n,s)]) L T n bare rings (.int c) (.int (c / 8)) (.lst (SM.map enP)))=.ok (.nx (St kvs cells seed NS (Q++[(n,s)]) (L++(cq (v+1)).map λ(h:ah)=>((n,(h:ag)):Pt)) T n bare rings (.int c) (.int (c / 8)) (.lst (SM.map enP)))):=by
   refine(bN (aM rfl cf (DR (L.map enP) _ (by simp only[aI,jw,bA];lia) (gJ _) (gJ _)))).trans ?_;rw[<-c5];rfl
  exact HN T1 (aL s1 (aL s2 s3))
 |false=>
  have T1:=t1 ai hA.symm;cases hB:(ϒ (4<=c % 8)&&ϒ (c % 8<6)&&ϒ ((1:ag)<SM.length)) with
  |true=>
   have T2:=t2 af hB.symm;rw[bg,d4] at hB;obtain⟨a,b,ha,hb',hlt,et⟩:=aHm SM (c / 8) (hSM.nodup g.ln) (by lia) (by have:=hSM.length_le;lia);have G:=g.tie (hSM.mem ha) (hSM.mem hb') hlt;refine⟨Q,_,T++[(a,b)],num,rings,bare,.int (c / 8),.lst (SM.map enP),G,hr,by simp,by lia,fin (oG T1 (HN T2 ?_))⟩;have s1:mY 6 (aN (cF 2 eV) (aD O_ (aD lN aV))) (St kvs cells seed NS Q L T num bare rings (.int c) (.int (c / 8)) (.lst (SM.map enP)))=.ok (.nx (St kvs cells seed NS Q L (T++[(a,b)]) num bare rings (.int c) (.int (c / 8)) (.lst (SM.map enP)))):=by
    have d0:aN (cF 2 eV) (aD O_ (aD lN aV)) (St kvs cells seed NS Q L T num bare rings (.int c) (.int (c / 8)) (.lst (SM.map enP)))=.ok (bV (a,b)):=aK (aC rfl (aC rfl rfl)) ((cR rfl).trans et);refine(jT (i:=6) (ρ:=St kvs cells seed NS Q L T num bare rings (.int c) (.int (c / 8)) (.lst (SM.map enP))) (xs:=T.map bV) (d:=bV (a,b)) d0 rfl (by rw[aI,bA];lia) rfl).trans ?_;show _=τ (Fl.nx [.dct kvs,cells,.int seed,.lst (NS.map ν),.lst (Q.map pcD),.lst (L.map enP),.lst ((T++[(a,b)]).map bV),.int num,.int bare,.int rings,.int c,.int (c / 8),.lst (SM.map enP)]);rw[c5];rfl
   have gl:getD (.lst ((T++[(a,b)]).map bV)) (.int (-1))=.ok (bV (a,b)):=by
    show ι ((ixD ((T++[(a,b)]).map bV).length (-1)).bind λj=>((T++[(a,b)]).map bV)[j]?)=_;have:ixD ((T++[(a,b)]).map bV).length (-1)=ae T.length:=by
     unfold ixD;rw[av (by decide),aq (by simp only[aI,cw,ck,eT];lia)]
     congr 1
     simp only[aI,cw,ck,eT];lia
    rw[this];simp
   have cf:d7 13 (cM eZ ai) x_ (bTB (b2 (b7 .lE) j_ (b2 getD lM (b1 aM0 e_)))) j_ ai (St kvs cells seed NS Q L (T++[(a,b)]) num bare rings (.int c) (.int (c / 8)) (.lst (SM.map enP)))=.ok (.lst ((L.filter λx=>!(ϒ (a=x)||ϒ (b=x))).map enP)):=by
    refine iM (jV rfl rfl) (by rw[aI,bA];lia) ?_;rw[lA _ enP (λx=>!(ϒ (a=x)||ϒ (b=x))) enP]
    ·rfl
    ·intro acc p;have cn:b7 .lE (enP p) (bV (a,b))=.ok (.bl (!(ϒ (a=p)||ϒ (b=p)))):=by
      show(if (enP p).fD aR&&μ aR [enP a,enP b] then τ (π (!([enP a,enP b].any λy=>eqD y (enP p)))) else .bad)=_;rw[aq (show(D.fD aR (enP p)&&μ aR [enP a,enP b])=af from rfl)];simp only[ki,List.any_nil,xT,tm]
     exact k_ (ρ:=St kvs cells seed NS Q L (T++[(a,b)]) num bare rings (.int c) (.int (c / 8)) (.lst (SM.map enP))) rfl (dC (aM (x:=enP p) rfl (aM rfl (y:=.int (-1)) rfl gl) cn)) λ_=>⟨rfl,rfl⟩
   exact aL s1 (bN cf)
  |false=>
   have T2:=t2 ai hB.symm;cases h6:(c % 8==6) with
   |true=>
    rw[h6] at e6;refine⟨Q,L,T,num,rings,bare+1,.int (c / 8),.lst (SM.map enP),g,hr,by lia,by lia,fin (oG T1 (oG T2 (HN (dC (aM (aM rfl rfl m8) rfl e6)) ?_)))⟩;exact bN (aM rfl rfl (iT bare 1))
   |false=>
    rw[h6] at e6;cases h7:(c % 8==7) with
    |true=>
     rw[h7] at e7;have f2:bB .pow (.int 10) (.int 50)=.ok (.int (10 ^ 50)):=aEu 50 (by decide);have f3:=jD (c / 8) (10 ^ 50) (by decide);refine⟨Q,L,T,num,rings+c / 8 % 10 ^ 50,bare,.int (c / 8),.lst (SM.map enP),g,Int.add_nonneg hr (lw _ (by decide)),by lia,by lia,fin (oG T1 (oG T2 (oG (dC (aM (aM rfl rfl m8) rfl e6)) (HN (dC (aM (aM rfl rfl m8) rfl e7)) ?_))))⟩;exact bN (aM rfl (aM rfl (aM rfl rfl f2) f3) (iT rings _))
    |false=>
     rw[h7] at e7;exact⟨Q,L,T,num,rings,bare,.int (c / 8),.lst (SM.map enP),g,hr,by lia,by lia,fin (oG T1 (oG T2 (oG (dC (aM (aM rfl rfl m8) rfl e6)) (oG (dC (aM (aM rfl rfl m8) rfl e7)) rfl))))⟩
theorem MJ(hst:iQ kvs)(hNS:lO kvs=NS.map ν)(hne:NS≠[])(hNl:NS.length<=1000):∀(cs:aa ag){Q:aa Pc}{L:aa Pt}{T:aa Tie}{num rings:ag}{bare:ah}{x m sm:D},Gr kvs Q L T num->0<=rings->T.length+cs.length<=1000->bare+cs.length<=1000->
  ∃(Q':aa Pc)(L':aa Pt)(T':aa Tie)(num' rings':ag)(bare':ah)(x' m' sm':D),Gr kvs Q' L' T' num'/\0<=rings'/\T'.length<=T.length+cs.length/\bare'<=bare+cs.length/\mZ (tg1 10) aAy (cs.map δ) (St kvs cells seed NS Q L T num bare rings x m sm)=.ok (.nx (St kvs cells seed NS Q' L' T' num' bare' rings' x' m' sm'))
 |[],Q,L,T,num,rings,bare,x,m,sm,g,hr,_,_=>⟨Q,L,T,num,rings,bare,x,m,sm,g,hr,by simp,by simp,rfl⟩
 |c::cs,Q,L,T,num,rings,bare,x,m,sm,g,hr,h1,h2=>by
  rw[ck] at h1 h2;obtain⟨Q1,L1,T1,n1,r1,b1,m1,s1,g1,hr1,i1,i2,e1⟩:=aHn (cells:=cells) (seed:=seed) (rings:=rings) (c:=c) (m:=m) (sm:=sm) hst hNS hne hNl g (bare:=bare) (by lia) (by lia) hr;obtain⟨Q2,L2,T2,n2,r2,b2,x2,m2,s2,g2,hr2,j1,j2,e2⟩:=MJ hst hNS hne hNl cs (rings:=r1) (bare:=b1) (x:=.int c) (m:=m1) (sm:=s1) g1 hr1 (by lia) (by lia);refine⟨Q2,L2,T2,n2,r2,b2,x2,m2,s2,g2,hr2,by simp only[ck];lia,by simp only[ck];lia,?_⟩;exact iG (ρ1:=St kvs cells seed NS Q L T num bare rings (.int c) m sm) rfl e1 e2
end
theorem gr0{kvs:aa (D×D)}:Gr kvs [] [] [] 0:=⟨by simp[ends],by simp,by simp,by lia,by simp,by simp[ends],by simp,by simp,by simp,by simp,by simp[ends,hks],by simp⟩
noncomputable def aDs:D->Tie
 |.tup [.tup [.int a,.int b],.tup [.int c,.int d]]=>((a,b),(c,d))
 |_=>((0,0),(0,0))
theorem aAz(t:Tie):aDs (bV t)=t:=rfl
def mG(U:aa Tie):aa Tie:=(gM (U.map bV)).map aDs
theorem oR(U:aa Tie):(mG U).Perm U:=by
 have h:=(cX (U.map bV)).map aDs;rw[df] at h;have e:U.map (aDs ∘ bV)=U:=by
  conv=>rhs;rw[<-gV U]
  exact e8 λt _=>aAz t
 rw[e] at h;exact h
theorem aB0(U:aa Tie):(mG U).map bV=gM (U.map bV):=by
 unfold mG;rw[df]
 conv=>rhs;rw[<-gV (gM (U.map bV))]
 refine e8 λd hd=>?_
 obtain⟨t,_,rfl⟩:=b6.mp ((cX (U.map bV)).mem_iff.mp hd);rfl
theorem aHo(s t:Tie):∃k,gK .lt (bV s) (bV t)=ae k:=by
 have e:gK .lt (bV s) (bV t)=(if eqD (enP s.1) (enP t.1) then (if eqD (enP s.2) (enP t.2) then ae (eY.lt.nat 0 0) else gK .lt (enP s.2) (enP t.2)) else gK .lt (enP s.1) (enP t.1)):=rfl;rw[e,sW,sW];split
 ·split
  ·exact⟨_,rfl⟩
  ·exact⟨_,rfl⟩
 ·exact⟨_,rfl⟩
theorem xU(U:aa Tie):bD (U.map bV)=af:=by
 unfold bD;refine dh.mpr λd hd=>?_
 obtain⟨t,ht,rfl⟩:=b6.mp hd;have hk:dZ ((U.map bV).headD .non)=5:=by
  cases U with
  |nil=>cases ht
  |cons u U=>rfl
 have h5:dZ (bV t)=5:=rfl;have hp:(bV t).plain=af:=rfl;have hq:(bV t).fD aR=af:=rfl;rw[hk,h5,hp,hq];refine dh.mpr λb hb=>?_
 obtain⟨u,_,rfl⟩:=b6.mp hb;obtain⟨k,e⟩:=aHo t u;rw[e];rfl
theorem GX(U:aa Tie):fC [.lst (U.map bV)]=.ok (.lst ((mG U).map bV)):=by
 show(if bD (U.map bV) then τ (ξ (gM (U.map bV))) else .bad)=_;rw[xU,aq rfl,aB0]
def LeT(s t:Tie):Prop:=leE (bV s) (bV t)=af
theorem MK(U:aa Tie):(mG U).Pairwise LeT:=by
 have h:=jO (U.map bV);rw[<-aB0,i6] at h;exact h
theorem aHp(a b:ag):eqD (.int a) (.int b)=(a==b):=rfl
theorem aL4(a b:Pc):∃k,gK .lt (pcD a) (pcD b)=ae k/\(a.1≠b.1->k=ϒ (a.1<b.1)):=by
 have e:gK .lt (pcD a) (pcD b)=(if eqD (.int a.1) (.int b.1) then (if eqD (.str a.2) (.str b.2) then ae (eY.lt.nat 0 0) else ae (eY.lt.str a.2 b.2)) else ae (eY.lt.int a.1 b.1)):=rfl;rw[e,aHp];by_cases h:a.1=b.1
 ·rw[aq (by simp[h])];split
  ·exact⟨_,rfl,λz=>bd h z⟩
  ·exact⟨_,rfl,λz=>bd h z⟩
 ·rw[av (by simp[h])];exact⟨_,rfl,λ_=>rfl⟩
theorem yS(U:aa Pc):bD (U.map pcD)=af:=by
 unfold bD;refine dh.mpr λd hd=>?_
 obtain⟨t,ht,rfl⟩:=b6.mp hd;have hk:dZ ((U.map pcD).headD .non)=3:=by
  cases U with
  |nil=>cases ht
  |cons u U=>rfl
 have h5:dZ (pcD t)=3:=rfl;have hp:(pcD t).plain=af:=rfl;have hq:(pcD t).fD aR=af:=rfl;rw[hk,h5,hp,hq];refine dh.mpr λb hb=>?_
 obtain⟨u,_,rfl⟩:=b6.mp hb;obtain⟨k,e,_⟩:=aL4 t u;rw[e];rfl
def LtN(a b:Pc):Prop:=a.1<b.1
theorem gY(T:aa Tie):θ (T.map bV)=af:=sY T
theorem xV(T:aa Pc):θ (T.map pcD)=af:=sX T
theorem GZ(Q:aa Pc)(V:aa Tie)(r:ag):(gR Q V r).pure=af:=by
 show((D.tup (Q.map pcD)).pure&&((D.tup (V.map bV)).pure&&(af&&af)))=af;rw[sX,sY];rfl
theorem xW:∀{kvs:aa (D×D)},iQ kvs->∃NS:aa Str,lO kvs=NS.map ν
 |[],_=>⟨[],rfl⟩
 |p::kvs,h=>by
  obtain⟨s,v,e,_⟩:=h p (bu ..);obtain⟨NS,ih⟩:=xW (kvs:=kvs) λq hq=>h q (bq _ hq)
  refine⟨s::NS,?_⟩;subst e;show ν s::lO kvs=_;rw[ih];rfl
theorem WP{kvs:aa (D×D)}(h:iQ kvs):Y5 [.dct kvs]=.ok (.lst (lO kvs)):=by
 have e:kvs.all (λp=>!isTup p.1)=af:=dh.mpr λp hp=>by
  obtain⟨s,v,rfl,_⟩:=h p hp;rfl
 show(if kvs.all (λp=>!isTup p.1) then τ (ξ (lO kvs)) else .bad)=_;rw[e,aq rfl]
theorem call_v{n m:ah}{f:FS}{ds:aa D}{d:D}(h:f (ds++cz (m-n) D.uD)=.ok (.rt d)):fnS n m f ds=.ok d:=by
 show(do let r <- f (ds++cz (m-n) D.uD);YW r)=_;rw[h];rfl
theorem nR{n:ah}{t:D->Res (aa D)}{c:FT}{f:FE}{k:ap}{ρ acc bs:aa D}{x y:D}{b:ap}(hρ:ρ.length=n)(ht:t x=.ok bs)(h1:c (ρ++bs)=.ok b)(h2:b=af->f (ρ++bs)=.ok y/\(k||y.pure)=af):rT n t c f k ρ acc x=.ok (if b then acc++[y] else acc):=by
 unfold rT;rw[ht,ε,J6 hρ,h1,ε];cases b with
 |false=>rfl
 |true=>
  obtain⟨h3,h4⟩:=h2 rfl;rw[aq rfl,h3,ε,aq h4];rfl
theorem aF5{f:FE}{ρ:aa D}{d:D}{b:ap}(h:f ρ=.ok d)(h2:aMn d=.ok b):bTr f ρ=.ok b:=by
 unfold bTr;rw[h];exact h2
theorem uQ{f:FT}{ρ:aa D}{b:ap}(h:f ρ=.ok b):JN f ρ=.ok (!b):=by
 unfold JN;rw[h];rfl
theorem aIp{x y:FT}{ρ:aa D}{r:Res ap}(h1:x ρ=.ok ai)(h2:y ρ=r):bOr x y ρ=r:=by
 unfold bOr;rw[h1];exact h2
theorem T5{a b:FE}{ρ:aa D}{r:Res D}(h1:a ρ=.ok (.bl af))(h2:b ρ=r):BR a b ρ=r:=by
 unfold BR;rw[h1];exact h2
theorem aDt{f:D->Res D}{a:FE}{ρ:aa D}{x y:D}(h1:a ρ=.ok x)(h2:f x=.ok y):b1 f a ρ=.ok y:=by
 unfold b1;rw[h1];exact h2
theorem aHq{a:FE}{ρ:aa D}{k:ap}(h:a ρ=.ok (.bl k)):Y0 a ρ=.ok (.bl (!k)):=by
 unfold Y0;rw[h];rfl
theorem irr(a b:Pt)(h:ltP a b):¬ltP b a:=by
 simp only[ltP] at *;lia
section
variable (Q:aa Pc) (T:aa Tie) (r:ag)
theorem n0:getD (gR Q T r) (.int 0)=.ok (.tup (Q.map pcD)):=rfl
theorem n1:getD (gR Q T r) (.int 1)=.ok (.tup (T.map bV)):=rfl
theorem n2:getD (gR Q T r) (.int 2)=.ok (.int r):=rfl
end
theorem ends_app(T R:aa Tie):ends (T++R)=ends T++ends R:=by simp[ends]
theorem aB1{V U:aa Tie}(h:V.Perm U):(ends V).Perm (ends U):=by
 unfold ends;induction h with
 |nil=>exact .nil
 |cons x _ ih=>simpa using ih
 |swap x y l=>
  simp only[nu];rw[<-dg,<-dg];exact B8 _ Bl
 |trans _ _ ih1 ih2=>exact ih1.trans ih2
theorem MN{f g:FS}{ρ:aa D}{d:D}(h:f ρ=.ok (.rt d)):bI f g ρ=.ok (.rt d):=by
 unfold bI;rw[h];rfl
def qL:ah->D->ap
 |0,_=>ai
 |n+1,.tup xs=>ϒ (xs.length<=1000000)&&xs.all (qL n)
 |_+1,.int _=>af
 |_+1,.str _=>af
 |_+1,_=>ai
theorem aB2(xs:aa D)(j:ah)(h:j<xs.length):getD (.tup xs) (.int (0+(j:ag)))=.ok xs[j]:=by
 show ι ((ixD xs.length (0+(j:ag))).bind λi=>xs[i]?)=_;have e:ixD xs.length (0+(j:ag))=ae j:=by
  unfold ixD;rw[aq (by lia),aq (by lia)]
  congr 1
  lia
 rw[e];show ι (xs[j]?)=_;rw[dz h];rfl
theorem MP{rr:aa D->Res D}{xs:aa D}(ih:∀d∈xs,rr [d,d]=.ok (.bl af)):∀(m k:ah)(x:D),k+m=xs.length->∃x',mZ (tg1 2) (sIf (JN (bTr (aN (cF 2 rr) (aD (b2 getD cA fM) (aD (b2 getD eE fM) aV))))) (jL (bC (.bl ai)) af) jA) ((nj k m).map λ(j:ah)=>δ (0+(j:ag))) [.tup xs,.tup xs,x]=.ok (.nx [.tup xs,.tup xs,x'])
 |0,k,x,_=>⟨x,rfl⟩
 |m+1,k,x,h=>by
  obtain⟨x',e⟩:=MP ih m (k+1) (.int (0+(k:ag))) (by lia);have hk:k<xs.length:=by lia
  have hg:=aB2 xs k hk;have hr:cF 2 rr [xs[k],xs[k]]=.ok (.bl af):=(cR rfl).trans (ih _ (gN hk));refine⟨x',?_⟩;rw[sd,br];exact iG (ρ1:=[.tup xs,.tup xs,.int (0+(k:ag))]) (ρ2:=[.tup xs,.tup xs,.int (0+(k:ag))]) rfl (oG (uQ (b:=af) (aF5 (aK (xs:=[xs[k],xs[k]]) (aC (aM (x:=.tup xs) (y:=.int (0+(k:ag))) rfl rfl hg) (aC (aM (x:=.tup xs) (y:=.int (0+(k:ag))) rfl rfl hg) rfl)) hr) rfl)) rfl) e
theorem aB3:∀(n:ah)(d:D),qL n d=af->bT n [d,d]=.ok (.bl af)
 |0,_,h=>by cases h
 |n+1,.tup xs,h=>by
  simp only[qL,bg,d4] at h;obtain⟨hl,ha⟩:=h;obtain⟨x',e⟩:=MP (rr:=bT n) (xs:=xs) (λd hd=>aB3 n d (dh.mp ha d hd)) xs.length 0 .uD (by lia);rw[<-se] at e;have hlen:aN dY (aD eE aV) [.tup xs,.tup xs,.uD]=.ok (.int xs.length):=aK (xs:=[.tup xs]) (aC rfl rfl) rfl;have hlen0:aN dY (aD cA aV) [.tup xs,.tup xs,.uD]=.ok (.int xs.length):=aK (xs:=[.tup xs]) (aC rfl rfl) rfl;have hne:b7 .ne (.int xs.length) (.int xs.length)=.ok (.bl ai):=by
   show τ (π (!((xs.length:ag)==xs.length)))=_;simp
  have hr:=uK (f:=aD (aN dY (aD eE aV)) aV) (ρ:=[.tup xs,.tup xs,.uD]) (n:=(xs.length:ag)) (aC hlen rfl) (by lia) (by lia);have first:(sIf (bTr (b1 (oW .tuple) eE)) (bI (sIf (bOr (JN (bTr (b1 (oW .tuple) cA))) (bTB (b2 (b7 .ne) (aN dY (aD cA aV)) (aN dY (aD eE aV))))) (jL (bC (.bl ai)) af) jA) (bI (wJ (oX (aD (aN dY (aD eE aV)) aV) mX) (tg1 2) (sIf (JN (bTr (aN (cF 2 (bT n)) (aD (b2 getD cA fM) (aD (b2 getD eE fM) aV))))) (jL (bC (.bl ai)) af) jA)) (jL (bC (.bl af)) af))) jA) [.tup xs,.tup xs,.uD]=.ok (.rt (.bl af)):=by
   refine HN (aF5 (d:=.bl af) rfl rfl) ?_;refine aL (ρ':=[.tup xs,.tup xs,.uD]) (oG (aIp (uQ (b:=af) (aF5 (d:=.bl af) rfl rfl)) (dC (aM hlen0 hlen hne))) rfl) ?_;exact aL (mK hr e) rfl
  show fnS 2 3 (mC (bT n)) [.tup xs,.tup xs]=_;refine call_v ?_;exact MN first
 |n+1,.int i,_=>by
  show fnS 2 3 (mC (bT n)) [.int i,.int i]=_;refine call_v ?_;refine aL (ρ':=[.int i,.int i,.uD]) (oG (aF5 (d:=.bl ai) rfl rfl) rfl) ?_;refine aL (ρ':=[.int i,.int i,.uD]) (oG (aF5 (d:=.bl ai) rfl rfl) rfl) ?_;refine gU (d:=.bl af) (T5 rfl (T5 (aHq (k:=ai) rfl) (aM (x:=.int i) (y:=.int i) rfl rfl ?_))) rfl;show τ (π (i==i))=_;simp
 |n+1,.str i,_=>by
  have e:(sIf (bTr (b1 (oW .str) eE)) (jL (BR (b1 (oW .str) cA) (b2 (b7 .eq) cA eE)) af) jA) [.str i,.str i,.uD]=.ok (.rt (.bl af)):=by
   refine HN (aF5 (d:=.bl af) rfl rfl) (gU (d:=.bl af) (T5 rfl (aM (x:=.str i) (y:=.str i) rfl rfl ?_)) rfl);show τ (π (i==i))=_;simp
  show fnS 2 3 (mC (bT n)) [.str i,.str i]=_;refine call_v ?_;refine aL (ρ':=[.str i,.str i,.uD]) (oG (aF5 (d:=.bl ai) rfl rfl) rfl) ?_;exact MN e
 |n+1,.uD,h=>by cases h
 |n+1,.non,h=>by cases h
 |n+1,.bl _,h=>by cases h
 |n+1,.lst _,h=>by cases h
 |n+1,.dct _,h=>by cases h
 |n+1,.scr _,h=>by cases h
theorem aDu{Q:aa Pc}{T:aa Tie}{r:ag}(hq:Q.length<=1000)(ht:T.length<=100000):cF 2 (bT 6) [gR Q T r,gR Q T r]=.ok (.bl af):=by
 refine(cR rfl).trans (aB3 6 _ ?_);have h1:qL 5 (.tup (Q.map pcD))=af:=by
  simp only[qL,bg,d4,aI];refine⟨by lia,dh.mpr λd hd=>?_⟩;obtain⟨p,_,rfl⟩:=b6.mp hd;rfl
 have h2:qL 5 (.tup (T.map bV))=af:=by
  simp only[qL,bg,d4,aI];refine⟨by lia,dh.mpr λd hd=>?_⟩;obtain⟨p,_,rfl⟩:=b6.mp hd;rfl
 show(ϒ (3<=1000000)&&(qL 5 (.tup (Q.map pcD))&&(qL 5 (.tup (T.map bV))&&(qL 5 (.int r)&&af))))=af;rw[h1,h2];rfl
structure Net(kvs:aa (D×D))(Q:aa Pc)(T:aa Tie):Prop where
 nd:(ends T).Nodup
 small:T.length<=1000
 qs:Q.Pairwise LtN
 qpos:∀pc∈Q,0<pc.1
 ql:Q.length<=30
 sk:∀pc∈Q,∃v:ah,v<=6/\bG kvs (.str pc.2)=ae (.int v)
 lt:∀t∈T,ltP t.1 t.2
 srt:T.Pairwise LeT
 rims:∃S:aa ag,S.Nodup/\S.Perm ((cq S.length).map λ(k:ah)=>(k:ag))/\(ends T).Perm (hks kvs Q++S.map rim)
theorem aL5{kvs:aa (D×D)}{Q:aa Pc}{L:aa Pt}{T R:aa Tie}{num:ag}{S:aa ag}(g:Gr kvs Q L T num)(hS:S.Nodup)(hS2:S.Perm ((cq S.length).map λ(k:ah)=>(k:ag)))(pR:(ends R).Perm (L++S.map rim))(hR:∀t∈R,ltP t.1 t.2)(hsm:(T++R).length<=1000):Net kvs Q (mG (T++R)):=by
 have pE:(ends (mG (T++R))).Perm (ends T++L++S.map rim):=by
  refine(aB1 (oR _)).trans ?_;rw[ends_app,dg];exact kB _ pR
 have pos:∀e∈ends T++L,0<e.1:=λe he=>by
  obtain⟨pc,h1,h2⟩:=b6.mp (g.num e he);have:=(g.qb pc h1).1;lia
 refine⟨?_,by rw[(oR _).length_eq];exact hsm,g.qs,λpc h=>(g.qb pc h).1,g.ql,g.sk,λt ht=>?_,MK _,S,hS,hS2,pE.trans (g.pm.append_right _)⟩
 ·refine pE.nodup_iff.mpr (gq.mpr ⟨g.nd,?_,λa ha b hb z=>?_⟩)
  ·refine vh _ ?_ hS;intro a b hab z;exact hab (d6 Bk z)
  ·obtain⟨s,_,rfl⟩:=b6.mp hb;have:=pos a ha;rw[z] at this;exact bd this (xL 0)
 ·rcases cS.mp ((oR _).mem_iff.mp ht) with h|h
  ·exact g.lt t h
  ·exact hR t h
def OkT(N:aa ag)(t:Tie):Prop:=(t.1.1=0/\(t.2.1=0\/t.2.1∈N))\/(t.1.1∈N/\t.2.1∈N)
structure Wf(Q:aa Pc)(V:aa Tie):Prop where
 qs:(Q.map (·.1)).Pairwise (·<·)
 qp:∀n∈Q.map (·.1),0<n
 ql:(Q.map (·.1)).length<=40
 ok:∀t∈V,OkT (Q.map (·.1)) t
 vl:V.length<=1000
theorem aB4{kvs:aa (D×D)}{Q:aa Pc}{e:Pt}:e∈hks kvs Q↔∃pc∈Q,pc.1=e.1/\0<=e.2/\e.2<=vOf kvs pc.2:=by
 unfold hks aNe;simp only[kC,b6,lz];constructor
 ·rintro⟨pc,h1,h,h2,rfl⟩;exact⟨pc,h1,rfl,by show(0:ag)<=(h:ag);lia,by show(h:ag)<=_;lia⟩
 ·rintro⟨pc,h1,h2,h3,h4⟩;exact⟨pc,h1,e.2.toNat,by lia,Prod.ext h2 (by show((e.2.toNat:ah):ag)=e.2;lia)⟩
theorem Net.wf{kvs:aa (D×D)}{Q:aa Pc}{V:aa Tie}(w:Net kvs Q V):Wf Q V:=by
 obtain⟨S,_,_,p⟩:=w.rims;have cas:∀e∈ends V,e.1=0\/(0<e.1/\e.1∈Q.map (·.1)):=λe he=>by
  rcases cS.mp (p.mem_iff.mp he) with h|h
  ·obtain⟨pc,h1,h2,_⟩:=aB4.mp h;exact .inr ⟨by have:=w.qpos pc h1;lia,b6.mpr ⟨pc,h1,h2⟩⟩
  ·obtain⟨s,_,rfl⟩:=b6.mp h;exact .inl rfl
 refine⟨i6.mpr w.qs,λn h=>?_,by rw[aI];have:=w.ql;lia,λt ht=>?_,w.small⟩
 ·obtain⟨pc,h1,rfl⟩:=b6.mp h;exact w.qpos pc h1
 ·have me:t.1∈ends V/\t.2∈ends V:=by
   simp only[ends,kC];exact⟨⟨t,ht,by simp⟩,⟨t,ht,by simp⟩⟩
  have hlt:=w.lt t ht;rcases cas _ me.1 with h1|⟨h1,h1'⟩<;>rcases cas _ me.2 with h2|⟨h2,h2'⟩
  ·exact .inl ⟨h1,.inl h2⟩
  ·exact .inl ⟨h1,.inr h2'⟩
  ·simp only[ltP] at hlt;lia
  ·exact .inr ⟨h1',h2'⟩
theorem tB{c:FT}{body:FS}{n:ah}{ρ ρ':aa D}{r:Res Fl}(h1:c ρ=.ok af)(h2:body ρ=.ok (.nx ρ'))(h3:HQ c body n ρ'=r):HQ c body (n+1) ρ=r:=by
 rw[HQ,h1,ε,aq rfl,h2];exact h3
theorem rD{c:FT}{body:FS}{n:ah}{ρ:aa D}(h1:c ρ=.ok ai):HQ c body (n+1) ρ=.ok (.nx ρ):=by
 rw[HQ,h1];rfl
def aL6:FT:=(bTB (b2 (b7 (.ord .gt)) (aN dY (aD cA aV)) e_))
def aNh:FS:=(bI (mY 3 (fQ (aD (aN (cH .lt) (aD (b2 getD cA dF) (aD (b2 getD cA e_) aV))) (aD (aN (cH .gt) (aD (b2 getD cA dF) (aD (b2 getD cA e_) aV))) aV)))) (b8 ai 0 (aCb cA (wH uU) aG6) af))
theorem aF6{a:FE}{l h:aa D->Res (az ag)}{ρ:aa D}{x:D}{i j:az ag}{d:D}(h1:a ρ=.ok x)(h2:l ρ=.ok i)(h3:h ρ=.ok j)(h4:Y4 x i j=.ok d):aCb a l h ρ=.ok d:=by
 unfold aCb;rw[h1,ε,h2,ε,h3,ε,h4]
theorem G3(L:aa Pt)(b s:D)(T:aa Tie)(k:ap)(h:k=ϒ (1<L.length)):aL6 [.lst (L.map enP),b,s,.lst (T.map bV)]=.ok k:=by
 have lL:dY [.lst (L.map enP)]=.ok (.int L.length):=by rw[jU,aI]
 have hc:b7 (.ord .gt) (.int L.length) (.int 1)=.ok (.bl (ϒ ((1:ag)<L.length))):=rfl;refine dC (aM (aK (aC rfl rfl) lL) rfl (hc.trans ?_));rw[h]
 congr 2
 exact vn.mpr (by lia)
theorem xX{b s:D}:∀(L:aa Pt)(T:aa Tie),L.Nodup->T.length+L.length<=10000->∃(L':aa Pt)(T':aa Tie),L'.Sublist L/\(ends T'++L').Perm (ends T++L)/\(∀t∈T',t∈T\/ltP t.1 t.2)/\L'.length+T'.length<=L.length+T.length/\
  ∀fuel,L.length<fuel->HQ aL6 aNh fuel [.lst (L.map enP),b,s,.lst (T.map bV)]=.ok (.nx [.lst (L'.map enP),b,s,.lst (T'.map bV)])
 |[],T,_,_=>⟨[],T,.refl _,.refl _,λt h=>.inl h,ba _,λfuel hf=>by
   obtain⟨f,rfl⟩:∃f,fuel=f+1:=⟨fuel-1,by lia⟩
   exact rD (G3 [] b s T ai rfl)⟩
 |[a],T,_,_=>⟨[a],T,.refl _,.refl _,λt h=>.inl h,ba _,λfuel hf=>by
   obtain⟨f,rfl⟩:∃f,fuel=f+1:=⟨fuel-1,by lia⟩
   exact rD (G3 [a] b s T ai rfl)⟩
 |a::c::L,T,hn,hl=>by
  have mn:=LR .lt a c ltP sW;have mx:=LR .gt a c (λx y=>ltP y x) T4;have hac:a≠c:=λz=>by subst z;exact(dq.mp hn).1 (bu ..)
  obtain⟨u,v,huv,hlt,mn,mx⟩:∃u v:Pt,[u,v].Perm [a,c]/\ltP u v/\cH .lt [enP a,enP c]=.ok (enP u)/\cH .gt [enP a,enP c]=.ok (enP v):=by
   have tot:ltP a c\/ltP c a:=by
    obtain⟨a1,a2⟩:=a;obtain⟨c1,c2⟩:=c;simp only[ltP];have:a1≠c1\/a2≠c2:=by
     by_cases h1:a1=c1
     ·exact .inr λh2=>hac (by rw[h1,h2])
     ·exact .inl h1
    lia
   rcases tot with h|h
   ·refine⟨a,c,.refl _,h,?_,?_⟩
    ·rw[mn,av (irr _ _ h)]
    ·rw[mx,aq h]
   ·refine⟨c,a,.swap ..,h,?_,?_⟩
    ·rw[mn,aq h]
    ·rw[mx,av (irr _ _ h)]
  simp only[ck] at hl;obtain⟨L',T',i1,i2,i2',i3,i4⟩:=xX (b:=b) (s:=s) L (T++[(u,v)]) (dq.mp (dq.mp hn).2).2 (by simp;lia);refine⟨L',T',(i1.cons _).cons _,?_,λt ht=>?_,by simp only[cw,ck,eT] at i3 ⊢;lia,λfuel hf=>?_⟩
  ·refine i2.trans ?_;rw[sZ,dg];exact kB _ (huv.append_right L)
  ·rcases i2' t ht with h|h
   ·rcases cS.mp h with h|h
    ·exact .inl h
    ·have:t=(u,v):=by simpa using h
     subst this;exact .inr hlt
   ·exact .inr h
  ·simp only[ck] at hf;obtain⟨f,rfl⟩:∃f,fuel=f+1:=⟨fuel-1,by lia⟩
   have e0:getD (.lst ((a::c::L).map enP)) (.int 0)=.ok (enP a):=by
    obtain⟨h,e⟩:=qX ((a::c::L).map enP) 0 (by lia) (by simp only[aI,ck];lia);rw[e];rfl
   have e1:getD (.lst ((a::c::L).map enP)) (.int 1)=.ok (enP c):=by
    obtain⟨h,e⟩:=qX ((a::c::L).map enP) 1 (by lia) (by simp only[aI,ck];lia);rw[e];rfl
   have sl:Y4 (.lst ((a::c::L).map enP)) (ae 2) ak=.ok (.lst (L.map enP)):=by
    simp only[Y4,gJ,cb]
    congr 2
    have e1:R0 ((a::c::L).map enP).length 0 (ae 2)=2:=by
     simp only[R0,aI,ck];rw[av (by lia)];lia
    have e2:R0 ((a::c::L).map enP).length ((a::c::L).map enP).length ak=L.length+2:=by
     simp only[R0,aI,ck]
    unfold cutD;rw[e1,e2,show L.length+2-2=(L.map enP).length by simp];exact ur ..
   refine tB (G3 (a::c::L) b s T af (by simp)) (ρ':=[.lst (L.map enP),b,s,.lst ((T++[(u,v)]).map bV)]) ?_ (i4 f (by lia));refine aL (ρ':=[.lst ((a::c::L).map enP),b,s,.lst ((T++[(u,v)]).map bV)]) ?_ (bN (i:=0) (aF6 rfl rfl rfl sl));refine(jT (i:=3) (ρ:=[.lst ((a::c::L).map enP),b,s,.lst (T.map bV)]) (xs:=T.map bV) (dM (xs:=[enP u,enP v]) (aC (aK (xs:=[enP a,enP c]) (aC (aM rfl rfl e0) (aC (aM rfl rfl e1) rfl)) mn) (aC (aK (xs:=[enP a,enP c]) (aC (aM rfl rfl e0) (aC (aM rfl rfl e1) rfl)) mx) rfl)) (by rw[bA];simp)) rfl (by rw[aI,bA];lia) rfl).trans ?_;rw[c5];rfl
noncomputable def unE:D->Pt
 |.tup [.int a,.int b]=>(a,b)
 |_=>(0,0)
theorem aB5(L:aa Pt)(bare:ah)(seed:ag)(hn:L.Nodup)(hL:∀p∈L,0<p.1)(hl:L.length+2*bare<=900):∃(R:aa Tie)(S:aa ag),S.Nodup/\S.Perm ((cq S.length).map λ(k:ah)=>(k:ag))/\(ends R).Perm (L++S.map rim)/\(∀t∈R,ltP t.1 t.2)/\R.length<=L.length+bare/\gD [.lst (L.map enP),.int bare,.int seed]=.ok (.lst (R.map bV)):=by
 have m3:=jD seed 3 (by decide);have d3:=j6 seed 3 (by decide) (by decide);have hc:b7 (.ord .gt) (.int (seed % 3)) (.int 0)=.ok (.bl (ϒ (0<seed % 3))):=rfl;have rest:∀(L':aa Pt)(T:aa Tie),(ends T++L').Perm L->(∀t∈T,ltP t.1 t.2)->L'.length+T.length<=L.length->∃(R:aa Tie)(S:aa ag),S.Nodup/\S.Perm ((cq S.length).map λ(k:ah)=>(k:ag))/\(ends R).Perm (L++S.map rim)/\(∀t∈R,ltP t.1 t.2)/\R.length<=L.length+bare/\(jL (b2 (bB .add) dU (aN (cF 3 gC) (aD cA (aD eE (aD fM aV))))) af) [.lst (L'.map enP),.int bare,.int seed,.lst (T.map bV)]=.ok (.rt (.lst (R.map bV))):=λL' T h1 h2 h3=>by
  obtain⟨R,S,r1,rb,r2,r3,r4,r5⟩:=aAx L' bare seed (λp hp=>hL p (h1.mem_iff.mp (eo _ hp))) (by lia);refine⟨T++R,S,r1,rb,?_,λt ht=>?_,by rw[cw];lia,?_⟩
  ·rw[ends_app];refine(kB _ r2).trans ?_;rw[<-dg];exact h1.append_right _
  ·rcases cS.mp ht with h|h
   ·exact h2 t h
   ·exact r3 t h
  ·refine gU (aM rfl (aK (aC rfl (aC rfl (aC rfl rfl))) ((cR rfl).trans r5)) ?_) rfl;rw[c5];exact DR _ _ (by rw[aI,aI,bA];lia) (gY _) (gY _)
 have fin:∃(R:aa Tie)(S:aa ag),S.Nodup/\S.Perm ((cq S.length).map λ(k:ah)=>(k:ag))/\(ends R).Perm (L++S.map rim)/\(∀t∈R,ltP t.1 t.2)/\R.length<=L.length+bare/\lX [.lst (L.map enP),.int bare,.int seed,.uD]=.ok (.rt (.lst (R.map bV))):=by
  by_cases h:0<seed % 3
  ·obtain⟨ys,p0,s4⟩:=aAv (xs:=L.map enP) (seed / 3) (λx hx=>by
    obtain⟨a,_,rfl⟩:=b6.mp hx;rfl) (by simp;lia)
   obtain⟨L1,pL,rfl⟩:=GR enP unE (λ_=>rfl) p0;obtain⟨L',T',i1,i2,i2',i3,i4⟩:=xX (b:=.int bare) (s:=.int seed) L1 [] (pL.nodup_iff.mpr hn) (by rw[pL.length_eq];simp;lia);obtain⟨R,S,r1,r2,r3,r4,r5,r6⟩:=rest L' T' (i2.trans pL) (λt ht=>by
    rcases i2' t ht with h|h
    ·cases h
    ·exact h) (by rw[<-pL.length_eq];simpa using i3)
   refine⟨R,S,r1,r2,r3,r4,r5,?_⟩;refine aL (ρ':=[.lst (L.map enP),.int bare,.int seed,.lst []]) (cU rfl rfl) ?_;refine aL (ρ':=[.lst (L'.map enP),.int bare,.int seed,.lst (T'.map bV)]) (HN (dC (aM (aM rfl rfl m3) rfl (hc.trans (by rw[cu h])))) ?_) r6;refine aL (ρ':=[.lst (L1.map enP),.int bare,.int seed,.lst []]) (bN (i:=0) (aK (xs:=[.lst (L.map enP),.int (seed / 3)]) (aC rfl (aC (aM rfl rfl d3) rfl)) s4)) ?_;exact i4 1000 (by rw[pL.length_eq];lia)
  ·obtain⟨R,S,r1,r2,r3,r4,r5,r6⟩:=rest L [] (.refl _) (λt ht=>by cases ht) (by simp);refine⟨R,S,r1,r2,r3,r4,r5,?_⟩;refine aL (ρ':=[.lst (L.map enP),.int bare,.int seed,.lst []]) (cU rfl rfl) ?_;exact aL (ρ':=[.lst (L.map enP),.int bare,.int seed,.lst []]) (oG (dC (aM (aM rfl rfl m3) rfl (hc.trans (by rw[c6 h])))) rfl) r6
 obtain⟨R,S,r1,r2,r3,r4,r5,e⟩:=fin;refine⟨R,S,r1,r2,r3,r4,r5,?_⟩;show(do let r <- lX _;YW r)=_;rw[show([ξ (L.map enP),δ bare,δ seed]++cz (4-3) D.uD)=[.lst (L.map enP),.int bare,.int seed,.uD] from rfl,e];rfl
theorem aDv{kvs:aa (D×D)}(hst:iQ kvs)(hne:kvs≠[])(hl:kvs.length<=5)(cs:aa ag)(hc:cs.length<=200)(seed:ag):∃(Q:aa Pc)(V:aa Tie)(r:ag),Net kvs Q V/\0<=r/\cF 3 iH [.dct kvs,.lst (cs.map δ),.int seed]=.ok (gR Q V r):=by
 obtain⟨NS,hNS⟩:=xW hst;have lNS:NS.length=kvs.length:=by
  have:=d6 gu hNS;simpa[lO] using this.symm
 have nNS:NS≠[]:=λz=>hne (by rw[z] at lNS;exact List.length_eq_zero_iff.mp lNS.symm)
 obtain⟨Q,L,T,num,rings,bare,x,m,sm,g,hrg,i1,i2,e1⟩:=MJ (cells:=.lst (cs.map δ)) (seed:=seed) hst hNS nNS (by lia) cs (rings:=0) (bare:=0) (x:=.uD) (m:=.uD) (sm:=.uD) gr0 (Int.le_refl 0) (by simp;lia) (by lia);have lL:L.length<=210:=by have:=g.ll;have:=g.ql;lia
 have posE:∀p∈ends T++L,0<p.1:=λp hp=>by
  obtain⟨pc,h1,h2⟩:=b6.mp (g.num p hp);have:=(g.qb pc h1).1;lia
 simp only[eT] at i1;obtain⟨R,S,r1,rb,r2,r3,r4,r5⟩:=aB5 L bare seed g.ln (λp hp=>posE p (eo _ hp)) (by lia);have lTR:(T++R).length<=1000:=by rw[cw];lia
 have hadd:bB .add (.lst (T.map bV)) (.lst (R.map bV))=.ok (.lst ((T++R).map bV)):=by
  rw[c5];refine DR _ _ ?_ (gY T) (gY R);rw[aI,aI,bA];rw[cw] at lTR;lia
 have hrim:cF 3 gD [.lst (L.map enP),.int bare,.int seed]=.ok (.lst (R.map bV)):=(cR rfl).trans r5;have hli:=WP hst;rw[hNS] at hli;have hin:inner (.lst ((T++R).map bV))=af:=gY _;refine⟨Q,mG (T++R),rings,aL5 g r1 rb r2 r3 lTR,hrg,(cR rfl).trans ?_⟩;have fin:nH [.dct kvs,.lst (cs.map δ),.int seed,.uD,.uD,.uD,.uD,.uD,.uD,.uD,.uD,.uD,.uD]=.ok (.rt (gR Q (mG (T++R)) rings)):=by
  refine aL (ρ':=[.dct kvs,.lst (cs.map δ),.int seed,.lst (NS.map ν),.uD,.uD,.uD,.uD,.uD,.uD,.uD,.uD,.uD]) (bN (aK (aC rfl rfl) hli)) ?_;refine aL (ρ':=[.dct kvs,.lst (cs.map δ),.int seed,.lst (NS.map ν),.lst [],.uD,.uD,.uD,.uD,.uD,.uD,.uD,.uD]) (cU rfl rfl) ?_;refine aL (ρ':=[.dct kvs,.lst (cs.map δ),.int seed,.lst (NS.map ν),.lst [],.lst [],.uD,.uD,.uD,.uD,.uD,.uD,.uD]) (bN rfl) ?_;refine aL (ρ':=[.dct kvs,.lst (cs.map δ),.int seed,.lst (NS.map ν),.lst [],.lst [],.lst [],.uD,.uD,.uD,.uD,.uD,.uD]) (cU rfl rfl) ?_;refine aL (ρ':=[.dct kvs,.lst (cs.map δ),.int seed,.lst (NS.map ν),.lst [],.lst [],.lst [],.int 0,.uD,.uD,.uD,.uD,.uD]) (bN rfl) ?_;refine aL (ρ':=[.dct kvs,.lst (cs.map δ),.int seed,.lst (NS.map ν),.lst [],.lst [],.lst [],.int 0,.int 0,.uD,.uD,.uD,.uD]) (bN rfl) ?_;refine aL (ρ':=[.dct kvs,.lst (cs.map δ),.int seed,.lst (NS.map ν),.lst [],.lst [],.lst [],.int 0,.int 0,.int 0,.uD,.uD,.uD]) (bN rfl) ?_;refine aL (aA0 (d:=.lst (cs.map δ)) (xs:=cs.map δ) rfl rfl e1) ?_;refine aL (ρ':=[.dct kvs,.lst (cs.map δ),.int seed,.lst (NS.map ν),.lst (Q.map pcD),.lst (L.map enP),.lst ((T++R).map bV),.int num,.int bare,.int rings,x,m,sm])
   (cU (i:=6) (aM (x:=.lst (T.map bV)) (y:=.lst (R.map bV)) rfl (aK (xs:=[.lst (L.map enP),.int bare,.int seed]) (aC rfl (aC rfl (aC rfl rfl))) hrim) hadd) hin) ?_
  refine gU (d:=gR Q (mG (T++R)) rings) (dM (xs:=[.tup (Q.map pcD),.tup ((mG (T++R)).map bV),.int rings]) (aC (aK (xs:=[.lst (Q.map pcD)]) (aC rfl rfl) rfl) (aC (aK (xs:=[.lst ((mG (T++R)).map bV)]) (aC (aK (xs:=[.lst ((T++R).map bV)]) (aC rfl rfl) (GX _)) rfl) rfl) (aC rfl rfl))) ?_) ?_
  ·rw[bA];show 3<=1000000;lia
  ·rw[GZ];rfl
 show(do let r <- nH _;YW r)=_;rw[show([D.dct kvs,ξ (cs.map δ),δ seed]++cz (13-3) D.uD)=[.dct kvs,.lst (cs.map δ),.int seed,.uD,.uD,.uD,.uD,.uD,.uD,.uD,.uD,.uD,.uD] from rfl,fin];rfl
noncomputable def cellAt(ns:aa ag)(k:ah):ag:=ns.getD k 0
theorem cell_eq(ns:aa ag)(k:ah):cF 2 bW [.scr (ns.map δ),.int k]=.ok (.int (cellAt ns k)):=by
 refine(cR rfl).trans ?_;have hl:dY [.scr (ns.map δ)]=.ok (.int ns.length):=by
  show τ (δ ((ns.map δ).length:ag))=_;rw[aI]
 have hc:b7 (.ord .lt) (.int k) (.int ns.length)=.ok (.bl (ϒ ((k:ag)<ns.length))):=rfl;show(do let r <- fJ [.scr (ns.map δ),.int k];YW r)=_;by_cases h:k<ns.length
 ·have hg:getD (.scr (ns.map δ)) (.int k)=.ok (.int (cellAt ns k)):=by
   show ι ((ixD (ns.map δ).length k).bind λj=>(ns.map δ)[j]?)=_;have:ixD (ns.map δ).length k=ae k:=by
    unfold ixD;rw[aq (by lia),aq (by rw[aI];lia)];rfl
   rw[this];show ι ((ns.map δ)[k]?)=_;rw[kf,dz h];show τ (δ ns[k])=_;rw[cellAt,eu,dz h];rfl
  have e:fJ [.scr (ns.map δ),.int k]=.ok (.rt (.int (cellAt ns k))):=by
   have ht:(bTB (b2 (b7 (.ord .lt)) eE (aN dY (aD cA aV)))) [.scr (ns.map δ),.int k]=.ok af:=by
    refine dC (aM rfl (aK (aC rfl rfl) hl) (hc.trans ?_));rw[cu (by lia)]
   unfold fJ bI;rw[HN (r:=.ok (.rt (.int (cellAt ns k)))) ht (gU (aM rfl rfl hg) rfl)];rfl
  rw[e];rfl
 ·have e:fJ [.scr (ns.map δ),.int k]=.ok (.rt (.int (cellAt ns k))):=by
   refine aL (oG (r:=.ok (.nx [.scr (ns.map δ),.int k])) (dC (aM rfl (aK (aC rfl rfl) hl) (hc.trans ?_))) rfl) (gU (d:=.int (cellAt ns k)) ?_ rfl)
   ·rw[c6 (by lia)]
   ·rw[cellAt,eu,AV (by lia)];rfl
  rw[e];rfl
noncomputable def news:aa ag->aa ag->aa ag
 |_,[]=>[]
 |R,y::ys=>if y∈R then news R ys else y::news (R++[y]) ys
theorem news_mem:∀{ys R:aa ag}{z:ag},z∈news R ys->z∈ys
 |[],R,z,h=>h
 |y::ys,R,z,h=>by
  rw[news] at h;split at h
  ·exact bq _ (news_mem h)
  ·rcases bm.mp h with rfl|h
   ·exact bu ..
   ·exact bq _ (news_mem h)
theorem G4:∀{ys R:aa ag},R.Nodup->(R++news R ys).Nodup
 |[],R,h=>by rw[news,f_];exact h
 |y::ys,R,h=>by
  rw[news];split
  ·exact G4 h
  ·rename_i hy;have:(R++[y]).Nodup:=by
    rw[gq];exact⟨h,by simp,λa ha b hb z=>hy (by rw[<-eI.mp hb,<-z];exact ha)⟩
   have:=G4 (ys:=ys) this;rwa [dg] at this
theorem vQ:∀{ys R:aa ag}{z:ag},z∈ys->z∈R++news R ys
 |y::ys,R,z,h=>by
  rw[news];rcases bm.mp h with rfl|h
  ·split
   ·exact eM _ (by assumption)
   ·simp
  ·split
   ·exact vQ h
   ·have:=vQ (R:=R++[y]) h;rwa [dg] at this
inductive Rc(f:ag->aa ag)(s:ag):ag->Prop
 |refl:Rc f s s
 |step {x y:ag}:Rc f s x->y∈f x->Rc f s y
theorem Rc.trans{f:ag->aa ag}{a b c:ag}(h:Rc f a b)(g:Rc f b c):Rc f a c:=by
 induction g with
 |refl=>exact h
 |step _ hy ih=>exact ih.step hy
theorem Rc.mem{f:ag->aa ag}{s:ag}{M:aa ag}(hs:s∈M)(hc:∀x∈M,∀y∈f x,y∈M){x:ag}(h:Rc f s x):x∈M:=by
 induction h with
 |refl=>exact hs
 |step _ hy ih=>exact hc _ ih _ hy
theorem Rc.to{f g:ag->aa ag}{s:ag}{M:aa ag}(hs:s∈M)(hc:∀x∈M,∀y∈f x,y∈M)(hfg:∀x∈M,∀y∈f x,y∈g x){x:ag}(h:Rc f s x):Rc g s x:=by
 induction h with
 |refl=>exact .refl
 |step hx hy ih=>exact ih.step (hfg _ (hx.mem hs hc) _ hy)
theorem Rc.symm{f:ag->aa ag}(hsy:∀x y,y∈f x->x∈f y){s x:ag}(h:Rc f s x):Rc f x s:=by
 induction h with
 |refl=>exact .refl
 |step _ hy ih=>exact(Rc.refl.step (hsy _ _ hy)).trans ih
structure Dv(f:ag->aa ag)(s:ag)(R W:aa ag):Prop where
 nd:R.Nodup
 sR:s∈R
 wR:∀w∈W,w∈R
 rc:∀r∈R,Rc f s r
 cl:∀r∈R,r∈W\/∀y∈f r,y∈R
theorem dv0(f:ag->aa ag)(s:ag):Dv f s [s] [s]:=⟨by simp,by simp,λw h=>h,λr h=>by rw[eI.mp h];exact .refl,λr h=>.inl h⟩
theorem Dv.step{f:ag->aa ag}{s c:ag}{R W:aa ag}(h:Dv f s R (W++[c])):Dv f s (R++news R (f c)) (W++news R (f c)):=by
 have hc:c∈R:=h.wR c (by simp);refine⟨G4 h.nd,eM _ h.sR,λw hw=>?_,λr hr=>?_,λr hr=>?_⟩
 ·rcases cS.mp hw with hw|hw
  ·exact eM _ (h.wR w (eM _ hw))
  ·exact eo _ hw
 ·rcases cS.mp hr with hr|hr
  ·exact h.rc r hr
  ·exact(h.rc c hc).step (news_mem hr)
 ·rcases cS.mp hr with hr|hr
  ·rcases h.cl r hr with g|g
   ·rcases cS.mp g with g|g
    ·exact .inl (eM _ g)
    ·rw[eI.mp g];exact .inr λy hy=>vQ hy
   ·exact .inr λy hy=>eM _ (g y hy)
  ·exact .inl (eo _ hr)
theorem Dv.fin{f:ag->aa ag}{s:ag}{R:aa ag}(h:Dv f s R []){x:ag}:x∈R↔Rc f s x:=
 ⟨h.rc x,λg=>g.mem h.sR λr hr=>(h.cl r hr).resolve_left (by simp)⟩
theorem Dv.len{f:ag->aa ag}{s:ag}{R W M:aa ag}(h:Dv f s R W)(hs:s∈M)(hc:∀x∈M,∀y∈f x,y∈M):R.length<=M.length:=oO _ _ h.nd λx hx=>(h.rc x hx).mem hs hc
structure Bv(f:ag->aa ag)(s:ag)(R:aa ag)(n:ah):Prop where
 nd:R.Nodup
 sR:s∈R
 rc:∀r∈R,Rc f s r
 cl:∀r∈R.take n,∀y∈f r,y∈R
theorem bv0(f:ag->aa ag)(s:ag):Bv f s [s] 0:=⟨by simp,by simp,λr h=>by rw[eI.mp h];exact .refl,λr h=>by cases h⟩
theorem Bv.step{f:ag->aa ag}{s:ag}{R:aa ag}{n:ah}(h:Bv f s R n)(hn:n<R.length):Bv f s (R++news R (f R[n])) (n+1):=by
 have hc:R[n]∈R:=gN hn;refine⟨G4 h.nd,eM _ h.sR,λr hr=>?_,λr hr=>?_⟩
 ·rcases cS.mp hr with hr|hr
  ·exact h.rc r hr
  ·exact(h.rc _ hc).step (news_mem hr)
 ·rw[List.take_append_of_le_length (by lia),rf hn] at hr;rcases cS.mp hr with hr|hr
  ·exact λy hy=>eM _ (h.cl r hr y hy)
  ·rw[eI.mp hr];exact λy hy=>vQ hy
theorem Bv.fin{f:ag->aa ag}{s:ag}{R:aa ag}{n:ah}(h:Bv f s R n)(hn:R.length<=n){x:ag}:x∈R↔Rc f s x:=by
 have hcl:=h.cl;rw[mw hn] at hcl;exact⟨h.rc x,λg=>g.mem h.sR hcl⟩
theorem Bv.len{f:ag->aa ag}{s:ag}{R M:aa ag}{n:ah}(h:Bv f s R n)(hs:s∈M)(hc:∀x∈M,∀y∈f x,y∈M):R.length<=M.length:=oO _ _ h.nd λx hx=>(h.rc x hx).mem hs hc
def sortI(l:aa ag):aa ag:=(gM (l.map δ)).map unI
theorem sortI_perm(l:aa ag):(sortI l).Perm l:=by
 have h:=(cX (l.map δ)).map unI;rw[df] at h;have e:l.map (unI ∘ δ)=l:=by
  conv=>rhs;rw[<-gV l]
  exact e8 λt _=>rfl
 rw[e] at h;exact h
theorem Q6(l:aa ag):(sortI l).map δ=gM (l.map δ):=by
 unfold sortI;rw[df]
 conv=>rhs;rw[<-gV (gM (l.map δ))]
 refine e8 λd hd=>?_
 obtain⟨t,_,rfl⟩:=b6.mp ((cX (l.map δ)).mem_iff.mp hd);rfl
theorem aHr(a b:ag):leE (.int a) (.int b)=af↔a<=b:=by
 have e:(enc (.int b)<enc (.int a))↔b<a:=by
  show([0,b]:aa ag)<[0,a]↔b<a;rw[fy,fy];simp
 unfold leE;rw[ko,mP,e];lia
theorem aDw(l:aa ag):(sortI l).Pairwise (·<=·):=by
 have h:=jO (l.map δ);rw[<-Q6,i6] at h;exact h.imp λ{a b} h=>(aHr a b).mp h
theorem T6{l:aa ag}(h:l.Nodup):(sortI l).Pairwise (·<·):=by
 have h1:=aDw l;have h2:(sortI l).Pairwise (·≠·):=(sortI_perm l).nodup_iff.mpr h;exact(h1.and h2).imp λ{a b} ⟨h1,h2⟩=>by lia
theorem G5:∀{l m:aa ag},l.Pairwise (·<·)->m.Pairwise (·<·)->(∀x,x∈l↔x∈m)->l=m
 |[],[],_,_,_=>rfl
 |[],b::m,_,_,h=>by have:=(h b).mpr (bu ..);cases this
 |a::l,[],_,_,h=>by have:=(h a).mp (bu ..);cases this
 |a::l,b::m,h1,h2,h=>by
  rw[iP] at h1 h2;have e:a=b:=by
   rcases bm.mp ((h a).mp (bu ..)) with g|g
   ·exact g
   ·rcases bm.mp ((h b).mpr (bu ..)) with g'|g'
    ·exact g'.symm
    ·have:=h2.1 a g;have:=h1.1 b g';lia
  subst e;rw[G5 h1.2 h2.2 λx=>⟨λhx=>by
   rcases bm.mp ((h x).mp (bq _ hx)) with g|g
   ·have:=h1.1 x hx;lia
   ·exact g,λhx=>by
   rcases bm.mp ((h x).mpr (bq _ hx)) with g|g
   ·have:=h2.1 x hx;lia
   ·exact g⟩]
theorem aDx{l m:aa ag}(hl:l.Nodup)(hm:m.Pairwise (·<·))(h:∀x,x∈l↔x∈m):sortI l=m:=G5 (T6 hl) hm λx=>(sortI_perm l).mem_iff.trans (h x)
structure Ps(f:ag->aa ag)(N1:aa ag)(F:aa (aa ag)):Prop where
 nd:F.flatten.Nodup
 cv:∀n∈N1,n∈F.flatten
 cl:∀x∈F.flatten,∀y,Rc f x y->y∈F.flatten
 ea:∀p∈F,∃n q,p=n::q/\n∈N1/\p.Pairwise (·<·)/\∀x,x∈p↔Rc f n x
 hd:F.Pairwise λp q=>p.headD 0<q.headD 0
theorem ps0(f:ag->aa ag):Ps f [] []:=⟨by simp,by simp,by simp,by simp,by simp⟩
theorem Ps.skip{f:ag->aa ag}{N1:aa ag}{F:aa (aa ag)}{n:ag}(h:Ps f N1 F)(hn:n∈F.flatten):Ps f (N1++[n]) F:=
 ⟨h.nd,λm hm=>by
  rcases cS.mp hm with g|g
  ·exact h.cv m g
  ·rw[eI.mp g];exact hn,h.cl,λp hp=>let ⟨m,q,h1,h2,h3⟩:=h.ea p hp;⟨m,q,h1,eM _ h2,h3⟩,h.hd⟩
theorem Ps.more{f:ag->aa ag}(hsy:∀x y,y∈f x->x∈f y){N1 N2:aa ag}{F:aa (aa ag)}{n:ag}{R:aa ag}(h:Ps f N1 F)(hs:(N1++n::N2).Pairwise (·<·))(hc:∀x∈N1++n::N2,∀y∈f x,y∈N1++n::N2)(hn:n∉F.flatten)(hR:R.Nodup)(hm:∀x,x∈R↔Rc f n x):Ps f (N1++[n]) (F++[sortI R])/\(∀x∈sortI R,x∉F.flatten):=by
 have mem:∀x,x∈sortI R↔Rc f n x:=λx=>(sortI_perm R).mem_iff.trans (hm x)
 have new:∀x∈sortI R,x∉F.flatten:=λx hx hF=>hn (h.cl x hF n (((mem x).mp hx).symm hsy))
 have big:∀x∈sortI R,n<=x:=λx hx=>by
  have h1:=((mem x).mp hx).mem (M:=N1++n::N2) (by simp) hc;rcases cS.mp h1 with h1|h1
  ·exact bd (h.cv x h1) (new x hx)
  ·rcases bm.mp h1 with h1|h1
   ·lia
   ·have:=(nt.mp hs).2.1;rw[iP] at this;have:=this.1 x h1;lia
 have hnR:n∈sortI R:=(mem n).mpr .refl;have hlt:=T6 hR;obtain⟨q,hq⟩:∃q,sortI R=n::q:=by
  cases e:sortI R with
  |nil=>rw[e] at hnR;cases hnR
  |cons a q=>
   rw[e] at hnR hlt;have:=big a (by rw[e];exact bu ..);rw[iP] at hlt;rcases bm.mp hnR with g|g
   ·exact⟨q,by rw[g]⟩
   ·have:=hlt.1 n g;lia
 refine⟨⟨?_,λm hm=>?_,λx hx y hy=>?_,λp hp=>?_,?_⟩,new⟩
 ·rw[sg,sh,gq];exact⟨h.nd,(sortI_perm R).nodup_iff.mpr hR,λa ha b hb z=>new b hb (z▸ha)⟩
 ·rw[sg,sh];rcases cS.mp hm with g|g
  ·exact eM _ (h.cv m g)
  ·rw[eI.mp g];exact eo _ hnR
 ·rw[sg,sh] at hx ⊢;rcases cS.mp hx with g|g
  ·exact eM _ (h.cl x g y hy)
  ·exact eo _ ((mem y).mpr (((mem x).mp g).trans hy))
 ·rcases cS.mp hp with g|g
  ·obtain⟨m,q,h1,h2,h3⟩:=h.ea p g;exact⟨m,q,h1,eM _ h2,h3⟩
  ·rw[eI.mp g];exact⟨n,q,hq,by simp,hlt,mem⟩
 ·rw[nt];refine⟨h.hd,by simp,λp hp r hr=>?_⟩;rw[eI.mp hr,hq];obtain⟨m,q',h1,h2,_⟩:=h.ea p hp;rw[h1];exact(nt.mp hs).2.2 m h2 n (by simp)
theorem cY{α:Type}{t:D->aa D->Res (aa D)}{body:FS}{d:α->D}{I:aa α->aa D->Prop}(xs:aa α)(step:∀ys a zs ρ,xs=ys++a::zs->I ys ρ->∃ρ1 ρ2,t (d a) ρ=.ok ρ1/\body ρ1=.ok (.nx ρ2)/\I (ys++[a]) ρ2){ρ:aa D}(h0:I [] ρ):∃ρ',mZ t body (xs.map d) ρ=.ok (.nx ρ')/\I xs ρ':=by
 have key:∀zs ys ρ,xs=ys++zs->I ys ρ->∃ρ',mZ t body (zs.map d) ρ=.ok (.nx ρ')/\I xs ρ':=by
  intro zs;induction zs with
  |nil=>
   intro ys ρ e h;rw[f_] at e;subst e;exact⟨ρ,rfl,h⟩
  |cons a zs ih=>
   intro ys ρ e h;obtain⟨ρ1,ρ2,h1,h2,h3⟩:=step ys a zs ρ e h;obtain⟨ρ',g1,g2⟩:=ih (ys++[a]) ρ2 (by rw[e,dg];rfl) h3;exact⟨ρ',iG h1 h2 g1,g2⟩
 exact key xs [] ρ rfl h0
theorem dX(a b:ag):eqD (.int a) (.int b)=ϒ (a=b):=by
 show(a==b)=_;by_cases h:a=b
 ·subst h;simp
 ·rw[c6 h];simpa using h
noncomputable def dA(M:aa ag)(f:ag->aa ag):aa (D×D):=M.map λn=>(.int n,.lst ((f n).map δ))
theorem Q7{f:ag->aa ag}{x:ag}:∀{M:aa ag},x∈M->bG (dA M f) (.int x)=ae (.lst ((f x).map δ))
 |m::M,h=>by
  show(if eqD (.int m) (.int x) then _ else _)=_;rw[dX];by_cases e:m=x
  ·subst e;simp
  ·rw[c6 e,av (by simp)];exact Q7 ((bm.mp h).resolve_left (Ne.symm e))
theorem aB6{f:ag->aa ag}{x:ag}:∀{M:aa ag},x∉M->bG (dA M f) (.int x)=ak
 |[],_=>rfl
 |m::M,h=>by
  rw[bm,hX] at h;show(if eqD (.int m) (.int x) then _ else _)=_;rw[dX,c6 (Ne.symm h.1),av (by simp)];exact aB6 h.2
theorem aF7{f g:ag->aa ag}{x:ag}{y:aa ag}(hx:g x=y)(hg:∀n,n≠x->g n=f n):∀{M:aa ag},M.Nodup->x∈M->putD (dA M f) (.int x) (.lst (y.map δ))=dA M g
 |m::M,nd,h=>by
  rw[dq] at nd;show(if eqD (.int m) (.int x) then _ else _)=_;rw[dX];by_cases e:m=x
  ·subst e;rw[cu rfl,aq rfl];show _=(δ m,ξ ((g m).map δ))::dA M g;rw[hx]
   congr 1
   refine e8 λn hn=>?_
   rw[hg n λz=>nd.1 (z▸hn)]
  ·rw[c6 e,av (by simp)];show _=(δ m,ξ ((g m).map δ))::dA M g;rw[hg m e]
   congr 1
   exact aF7 hx hg nd.2 ((bm.mp h).resolve_left (Ne.symm e))
noncomputable def T7(f:ag->aa ag)(x y:ag):ag->aa ag:=λn=>if n=x then f n++[y] else f n
theorem aB7{M:aa ag}{f:ag->aa ag}{x y:ag}(nd:M.Nodup)(hx:x∈M)(hl:(f x).length<100000):aA4 (.dct (dA M f)) (.int x) (.int y)=.ok (.dct (dA M (T7 f x y))):=by
 have e:=Q7 (f:=f) hx;have hl':ϒ (((f x).map δ).length<lim)=af:=cu (by rw[aI,bA];lia);simp only[aA4,fB,e,hl',D.pure,ig,cb];have:=aF7 (f:=f) (g:=T7 f x y) (x:=x) (y:=f x++[y]) (by simp[T7]) (λn hn=>by simp[T7,hn]) nd hx;rw[c5] at this;rw[<-this];rfl
theorem aB8{i:ah}{fk fe:FE}{ρ:aa D}{d k e r:D}(h1:jZ i ρ=.ok d)(h2:fk ρ=.ok k)(h3:fe ρ=.ok e)(h4:aA4 d k e=.ok r):QK i fk fe ρ=.ok (.nx (ρ.set i r)):=by
 unfold QK;rw[h1,ε,h2,ε,h3,ε,h4];rfl
theorem aHs{i:ah}{fk:FE}{ρ:aa D}{M:aa ag}{x:ag}(h1:fk ρ=.ok (.int x))(h2:ρ.getD i .uD=.dct (dA M λ_=>[]))(hx:x∉M)(hl:M.length<100000):aAe i fk ρ=.ok (.nx (ρ.set i (.dct (dA (M++[x]) λ_=>[])))):=by
 unfold aAe;rw[h1,ε,h2];have hc:(fB (.int x)&&(bG (dA M λ_=>[]) (.int x)).isNone&&ϒ ((dA M λ_=>[]).length<lim)&&(dA M λ_=>[]).all (λp=>aAa p.2))=af:=by
  rw[aB6 hx,cu (by rw[dA,aI,bA];lia)];have:(dA M λ_=>[]).all (λp=>aAa p.2)=af:=by
   refine dh.mpr λp hp=>?_
   obtain⟨n,_,rfl⟩:=b6.mp hp;rfl
  rw[this];rfl
 show(if (fB (.int x)&&(bG (dA M λ_=>[]) (.int x)).isNone&&ϒ ((dA M λ_=>[]).length<lim)&&(dA M λ_=>[]).all (λp=>aAa p.2))=af then τ (Fl.nx (ρ.set i (.dct ((dA M λ_=>[])++[(.int x,.lst [])])))) else .bad)=_;rw[aq hc]
 congr 4
 simp[dA]
def stB(f:ag->aa ag)(t:Tie):ag->aa ag:=if t.1.1=0 then f else T7 (T7 f t.1.1 t.2.1) t.2.1 t.1.1
def stN(f:ag->aa ag)(t:Tie):ag->aa ag:=T7 (T7 f t.1.1 t.2.1) t.2.1 t.1.1
def uA(V:aa Tie):ag->aa ag:=V.foldl stB λ_=>[]
theorem T8{f:ag->aa ag}{x y n z:ag}:z∈T7 f x y n↔z∈f n\/(n=x/\z=y):=by
 unfold T7;split
 ·rename_i h;simp[h]
 ·rename_i h;simp[h]
def aB9(t:Tie)(x y:ag):Prop:=(t.1.1=x/\t.2.1=y)\/(t.2.1=x/\t.1.1=y)
theorem aHt{f:ag->aa ag}{t:Tie}{x y:ag}:y∈stN f t x↔y∈f x\/aB9 t x y:=by
 unfold stN aB9;rw[T8,T8];constructor
 ·rintro((h|⟨h1,h2⟩)|⟨h1,h2⟩)
  ·exact .inl h
  ·exact .inr (.inl ⟨h1.symm,h2.symm⟩)
  ·exact .inr (.inr ⟨h1.symm,h2.symm⟩)
 ·rintro(h|⟨h1,h2⟩|⟨h1,h2⟩)
  ·exact .inl (.inl h)
  ·exact .inl (.inr ⟨h1.symm,h2.symm⟩)
  ·exact .inr ⟨h1.symm,h2.symm⟩
theorem aHu{f:ag->aa ag}{t:Tie}{x y:ag}:y∈stB f t x↔y∈f x\/(t.1.1≠0/\aB9 t x y):=by
 unfold stB;split
 ·rename_i h;simp[h]
 ·rename_i h;have:=aHt (f:=f) (t:=t) (x:=x) (y:=y);unfold stN at this;rw[this];simp[h]
theorem aF8{x y:ag}:∀(V:aa Tie)(f:ag->aa ag),y∈V.foldl stB f x↔y∈f x\/∃t∈V,t.1.1≠0/\aB9 t x y
 |[],f=>by simp
 |t::V,f=>by
  rw[li,aF8 V,aHu];simp only[bm,exists_eq_or_imp,or_assoc]
theorem vR{V:aa Tie}{x y:ag}:y∈uA V x↔∃t∈V,t.1.1≠0/\aB9 t x y:=by simp[uA,aF8]
theorem G6(f:ag->aa ag)(x y n:ag):(T7 f x y n).length<=(f n).length+1:=by
 unfold T7;split<;>simp
theorem aBa:∀(V:aa Tie)(f:ag->aa ag)(x:ag),(V.foldl stB f x).length<=(f x).length+2*V.length
 |[],f,x=>by simp
 |t::V,f,x=>by
  have h1:=aBa V (stB f t) x;have h2:=G6 (T7 f t.1.1 t.2.1) t.2.1 t.1.1 x;have h3:=G6 f t.1.1 t.2.1 x;have h4:(stB f t x).length<=(f x).length+2:=by
   unfold stB;split
   ·lia
   ·lia
  rw[li,ck];lia
section
variable {Q:aa Pc} {V:aa Tie}
theorem rE(w:Wf Q V):∀x∈Q.map (·.1),∀y∈uA V x,y∈Q.map (·.1):=λx _ y hy=>by
 obtain⟨t,ht,h0,hj⟩:=vR.mp hy;rcases w.ok t ht with ⟨h1,_⟩|⟨h1,h2⟩
 ·exact bd h1 h0
 ·rcases hj with ⟨_,h⟩|⟨_,h⟩
  ·exact h▸h2
  ·exact h▸h1
theorem MT(V:aa Tie):∀x y,y∈uA V x->x∈uA V y:=λx y hy=>by
 obtain⟨t,ht,h0,hj⟩:=vR.mp hy;exact vR.mpr ⟨t,ht,h0,hj.symm.imp (λ⟨a,b⟩=>⟨b,a⟩) λ⟨a,b⟩=>⟨b,a⟩⟩
end
theorem G7{a:FE}{t:D->aa D->Res (aa D)}{body:FS}{ρ:aa D}{xs:aa D}{r:Res Fl}(h1:a ρ=.ok (.tup xs))(hp:θ xs=af)(h2:mZ t body xs ρ=r):wJ (cM a ai) t body ρ=r:=by
 refine mK ?_ h2;have:=jV (fr:=ai) h1 (show o7 (.tup xs)=.ok xs from rfl);rw[this,mf,D.pure,hp]
theorem Wf.nd{Q:aa Pc}{V:aa Tie}(w:Wf Q V):(Q.map (·.1)).Nodup:=w.qs.imp λ{a b} h=>by lia
def aNi:FS:=(sIf (bTB (b2 (b7 .ne) (b2 getD eO dF) dF)) (bI (QK 1 (b2 getD eO dF) (b2 getD eZ dF)) (QK 1 (b2 getD eZ dF) (b2 getD eO dF))) jA)
theorem aBb{Q ys zs:aa Pc}{V:aa Tie}{a:Pc}(w:Wf Q V)(e:Q=ys++a::zs):a.1∉ys.map (·.1):=λz=>by
 have h:=w.qs;rw[e,c5,br,nt] at h;have:=h.2.2 a.1 z a.1 (bu ..);lia
theorem G8{Q:aa Pc}{V:aa Tie}{r:ag}(w:Wf Q V):cF 1 jW [gR Q V r]=.ok (.dct (dA (Q.map (·.1)) (uA V))):=by
 refine(cR rfl).trans ?_;have ql:=w.ql;obtain⟨ρ1,e1,x2,x3,rfl⟩:=cY (t:=tgN [2,3]) (body:=aAe 1 fM) (d:=pcD) (I:=λys ρ=>∃a b,ρ=[gR Q V r,.dct (dA (ys.map (·.1)) λ_=>[]),a,b,.uD,.uD]) Q (λys a zs ρ e ⟨x,y,h⟩=>by
  subst h;refine⟨_,_,rfl,aHs (i:=1) (M:=ys.map (·.1)) (x:=a.1) rfl rfl (aBb w e) (by rw[e] at ql;simp at ql ⊢;lia),.int a.1,.str a.2,?_⟩;rw[c5];rfl) (ρ:=[gR Q V r,.dct [],.uD,.uD,.uD,.uD]) ⟨.uD,.uD,rfl⟩
 obtain⟨ρ2,e2,x2,x3,x4,x5,rfl⟩:=cY (t:=tgN [4,5]) (body:=aNi) (d:=bV) (I:=λys ρ=>∃a b c d,ρ=[gR Q V r,.dct (dA (Q.map (·.1)) (uA ys)),a,b,c,d]) V (λys t zs ρ e ⟨x,y,z,u,h⟩=>by
  subst h;have ht:t∈V:=by rw[e];simp
  have hl:ys.length<=1000:=by have:=w.vl;rw[e] at this;simp at this;lia
  have hb:∀n,(uA ys n).length<=2000:=λn=>by have:=aBa ys (λ_=>[]) n;unfold uA;simp at this;lia
  have ha:uA (ys++[t])=stB (uA ys) t:=by unfold uA;rw[uq];rfl
  refine⟨[gR Q V r,.dct (dA (Q.map (·.1)) (uA ys)),x,y,enP t.1,enP t.2],[gR Q V r,.dct (dA (Q.map (·.1)) (uA (ys++[t]))),x,y,enP t.1,enP t.2],rfl,?_,x,y,_,_,rfl⟩;have hc:b7 .ne (.int t.1.1) (.int 0)=.ok (.bl (!ϒ (t.1.1=0))):=by
   rw[<-dX];rfl
  by_cases h0:t.1.1=0
  ·refine oG (dC (aM (x:=.int t.1.1) rfl rfl (hc.trans (by rw[cu h0];rfl)))) ?_;rw[ha,stB,aq h0];rfl
  ·have hm:t.1.1∈Q.map (·.1)/\t.2.1∈Q.map (·.1):=(w.ok t ht).resolve_left λz=>h0 z.1
   refine HN (dC (aM (x:=.int t.1.1) rfl rfl (hc.trans (by rw[c6 h0];rfl)))) ?_;have a1:=aB7 (f:=uA ys) (y:=t.2.1) w.nd hm.1 (by have:=hb t.1.1;lia);have a2:=aB7 (f:=T7 (uA ys) t.1.1 t.2.1) (y:=t.1.1) w.nd hm.2 (by have:=hb t.2.1;have:=G6 (uA ys) t.1.1 t.2.1 t.2.1;lia);refine aL (aB8 (i:=1) rfl (k:=.int t.1.1) rfl (e:=.int t.2.1) rfl a1) ?_;refine(aB8 (i:=1) rfl (k:=.int t.2.1) rfl (e:=.int t.1.1) rfl a2).trans ?_;rw[ha,stB,av h0];rfl) (ρ:=[gR Q V r,.dct (dA (Q.map (·.1)) λ_=>[]),x2,x3,.uD,.uD]) ⟨_,_,_,_,rfl⟩
 have e:nO [gR Q V r,.uD,.uD,.uD,.uD,.uD]=.ok (.rt (.dct (dA (Q.map (·.1)) (uA V)))):=by
  refine aL (ρ':=[gR Q V r,.dct [],.uD,.uD,.uD,.uD]) rfl ?_;refine aL (G7 (xs:=Q.map pcD) rfl (sX Q) e1) ?_;refine aL (G7 (xs:=V.map bV) rfl (sY V) e2) ?_;rfl
 show(do let r <- nO _;YW r)=_;rw[show([gR Q V r]++cz (6-1) D.uD)=[gR Q V r,.uD,.uD,.uD,.uD,.uD] from rfl,e];rfl
noncomputable def kT(R:aa ag):aa (D×D):=R.map λr=>(.int r,.bl af)
theorem aBc{x:ag}:∀{R:aa ag},(bG (kT R) (.int x)).isSome=ϒ (x∈R)
 |[]=>by simp[kT,bG]
 |r::R=>by
  show(if eqD (.int r) (.int x) then ae (π af) else bG (kT R) (.int x)).isSome=_;rw[dX];by_cases e:r=x
  ·subst e;simp
  ·rw[c6 e,av (by simp)];refine aBc.trans (vn.mpr ?_);simp[Ne.symm e]
theorem aBd{x:ag}:∀{R:aa ag},x∉R->putD (kT R) (.int x) (.bl af)=kT (R++[x])
 |[],_=>rfl
 |r::R,h=>by
  rw[bm,hX] at h;show(if eqD (.int r) (.int x) then _ else _)=_;rw[dX,c6 (Ne.symm h.1),av (by simp)];show(δ r,π af)::putD (kT R) (.int x) (.bl af)=_;rw[aBd h.2];rfl
theorem aBe(R:aa ag)(x:ag):o6 (kT R) (.int x)=af:=by
 unfold o6;rw[bg];refine⟨rfl,dh.mpr λp hp=>?_⟩;obtain⟨r,_,rfl⟩:=b6.mp hp;rfl
theorem vU(R:aa ag)(x:ag):b7 .lE (.int x) (.dct (kT R))=.ok (.bl (!ϒ (x∈R))):=by
 show(if o6 (kT R) (.int x) then τ (π (!(bG (kT R) (.int x)).isSome)) else .bad)=_;rw[aBe,aq rfl,aBc]
theorem nT(U:aa ag):bD (U.map δ)=af:=by
 unfold bD;refine dh.mpr λd hd=>?_
 obtain⟨t,ht,rfl⟩:=b6.mp hd;have hk:dZ ((U.map δ).headD .non)=1:=by
  cases U with
  |nil=>cases ht
  |cons u U=>rfl
 rw[hk];have:((U.map δ).all λb=>(gK .lt (.int t) b).isSome)=af:=by
  refine dh.mpr λb hb=>?_
  obtain⟨u,_,rfl⟩:=b6.mp hb;rfl
 rw[this];rfl
theorem aHv(R:aa ag):lO (kT R)=R.map δ:=by
 unfold lO kT;rw[df];rfl
theorem aBf(R:aa ag):sortedK [.dct (kT R)]=.ok (.lst ((sortI R).map δ)):=by
 have h1:(kT R).all (λp=>!isTup p.1)=af:=by
  refine dh.mpr λp hp=>?_
  obtain⟨r,_,rfl⟩:=b6.mp hp;rfl
 show(if (kT R).all (λp=>!isTup p.1)&&bD (lO (kT R)) then τ (ξ (gM (lO (kT R)))) else .bad)=_;rw[h1,aHv,nT,Q6];rfl
theorem sorted_ints(R:aa ag):fC [.lst (R.map δ)]=.ok (.lst ((sortI R).map δ)):=by
 show(if bD (R.map δ) then τ (ξ (gM (R.map δ))) else .bad)=_;rw[nT,aq rfl,Q6]
theorem tD(a:ag):∀(ys R:aa ag),news R (ys++[a])=news R ys++(if a∈R++news R ys then [] else [a])
 |[],R=>by simp[news]
 |y::ys,R=>by
  rw[dS,news,news];split
  ·exact tD a ys R
  ·rw[tD a ys (R++[y])];simp
theorem vV:∀(ys R:aa ag),(news R ys).length<=ys.length
 |[],R=>by simp[news]
 |y::ys,R=>by
  rw[news];split
  ·have:=vV ys R;simp only[ck];lia
  ·have:=vV ys (R++[y]);simp only[ck];lia
def hbody:FS:=(sIf (bTB (b2 (b7 .lE) eZ fM)) (bI (wI 2 eZ (bC (.bl af))) (mY 3 eZ)) jA)
def hloop:FS:=(bI (aDd 3 4) (J9 0 eO (tg1 5) hbody))
theorem aL7{M:aa ag}{f:ag->aa ag}{c:ag}(h:c∈M):dgI (.dct (dA M f)) (.int c)=.ok ((f c).map δ):=by
 have e:=Q7 (f:=f) h;simp only[dgI,fB,e,cb];rfl
theorem aDy{i:ah}{fk:FE}{t:D->aa D->Res (aa D)}{body:FS}{ρ:aa D}{d k:D}{xs:aa D}{r:Res Fl}(h1:jZ i ρ=.ok d)(h2:fk ρ=.ok k)(h3:dgI d k=.ok xs)(h4:mZ t body xs ρ=r):J9 i fk t body ρ=r:=by
 unfold J9;rw[h1,ε,h2,ε,h3,ε,h4]
section
variable {M:aa ag} {f:ag->aa ag} {s:ag}
def hst(M:aa ag)(f:ag->aa ag)(s:ag)(R W:aa ag)(x y:D):aa D:=[.dct (dA M f),.int s,.dct (kT R),.lst (W.map δ),x,y]
theorem WQ{R W:aa ag}{c:ag}{y:D}(hR:R.length<=1000)(hW:W.length<=1000)(hf:(f c).length<=5000):∃y',mZ (tg1 5) hbody ((f c).map δ) (hst M f s R W (.int c) y)=.ok (.nx (hst M f s (R++news R (f c)) (W++news R (f c)) (.int c) y')):=by
 obtain⟨ρ,e,y',rfl⟩:=cY (t:=tg1 5) (body:=hbody) (d:=δ) (I:=λys ρ=>∃y',ρ=hst M f s (R++news R ys) (W++news R ys) (.int c) y') (f c) (λys a zs ρ e ⟨y',h⟩=>by
  subst h;have hl:ys.length<=5000:=by rw[e] at hf;simp at hf;lia
  have hn:=vV ys R;refine⟨hst M f s (R++news R ys) (W++news R ys) (.int c) (.int a),hst M f s (R++news R (ys++[a])) (W++news R (ys++[a])) (.int c) (.int a),rfl,?_,_,rfl⟩;rw[tD];by_cases ha:a∈R++news R ys
  ·rw[aq ha,f_];exact oG (dC (aM rfl rfl ((vU _ a).trans (by rw[cu ha];rfl)))) rfl
  ·rw[av ha,<-dg,<-dg];refine HN (dC (aM rfl rfl ((vU _ a).trans (by rw[c6 ha];rfl)))) ?_;refine aL (sG (i:=2) (kvs:=kT (R++news R ys)) (k:=.int a) (d:=.bl af) rfl rfl rfl (by rw[kT,aI,cw,bA];lia) (aBe _ a) rfl) ?_;refine(jT (i:=3) (xs:=(W++news R ys).map δ) (d:=.int a) rfl rfl (by rw[aI,cw,bA];lia) rfl).trans ?_;rw[aBd ha];unfold hst;rw[c5 (l₁:=W++news R ys)];rfl) (ρ:=hst M f s R W (.int c) y) ⟨y,by simp[news]⟩
 exact⟨y',e⟩
theorem aBg(hs:s∈M)(hc:∀x∈M,∀y∈f x,y∈M)(hM:M.length<=100)(hf:∀x,(f x).length<=5000):∀(m:ah),m<=500->∀(R W:aa ag)(x y:D),Dv f s R W->M.length+W.length<=m+R.length->∃R' x' y',Dv f s R' []/\∀fuel,m<fuel->HQ (bTr dU) hloop fuel (hst M f s R W x y)=.ok (.nx (hst M f s R' [] x' y')):=by
 intro m;induction m with
 |zero=>
  intro _ R W x y dv hm;have:=dv.len hs hc;have hW:W=[]:=ug (by lia);subst hW;refine⟨R,x,y,dv,λfuel hfu=>?_⟩;obtain⟨k,rfl⟩:∃k,fuel=k+1:=⟨fuel-1,by lia⟩
  exact rD rfl
 |succ m ih=>
  intro hm5 R W x y dv hm;rcases List.eq_nil_or_concat W with rfl|⟨W0,c,rfl⟩
  ·refine⟨R,x,y,dv,λfuel hfu=>?_⟩;obtain⟨k,rfl⟩:∃k,fuel=k+1:=⟨fuel-1,by lia⟩
   exact rD rfl
  ·rw[List.concat_eq_append] at dv hm ⊢;have hR:=dv.len hs hc;have hWR:(W0++[c]).length<=m+1+R.length:=by lia
   have hcM:c∈M:=(dv.rc c (dv.wR c (by simp))).mem hs hc;simp only[cw,jh] at hm hWR;obtain⟨y1,e1⟩:=WQ (M:=M) (f:=f) (s:=s) (R:=R) (W:=W0) (c:=c) (y:=y) (by lia) (by lia) (hf c);obtain⟨R',x',y',d1,d2⟩:=ih (by lia) (R++news R (f c)) (W0++news R (f c)) (.int c) y1 dv.step (by simp only[cw];lia);refine⟨R',x',y',d1,λfuel hfu=>?_⟩;obtain⟨k,rfl⟩:∃k,fuel=k+1:=⟨fuel-1,by lia⟩
   have ht:(bTr dU) (hst M f s R (W0++[c]) x y)=.ok af:=by
    show aMn (.lst ((W0++[c]).map δ))=_;show τ (!((W0++[c]).map δ).isEmpty)=_;simp
   refine tB ht (ρ':=hst M f s (R++news R (f c)) (W0++news R (f c)) (.int c) y1) ?_ (d2 k (by lia));refine aL (ρ':=hst M f s R W0 (.int c) y) ?_ (aDy (i:=0) (k:=.int c) rfl rfl (aL7 hcM) e1);have hp:((W0++[c]).map δ)[((W0++[c]).map δ).length-1]?=ae (.int c):=by simp
   show(match ((W0++[c]).map δ)[((W0++[c]).map δ).length-1]? with|some z=>τ (Fl.nx (((hst M f s R (W0++[c]) x y).set 3 (.lst ((W0++[c]).map δ).dropLast)).set 4 z))|none=>.bad)=_;rw[hp];simp[hst]
theorem WR(hs:s∈M)(hc:∀x∈M,∀y∈f x,y∈M)(hM:M.length<=100)(hf:∀x,(f x).length<=5000):∃R:aa ag,R.Nodup/\(∀x,x∈R↔Rc f s x)/\cF 2 bZ [.dct (dA M f),.int s]=.ok (.lst ((sortI R).map δ)):=by
 obtain⟨R,x,y,dv,e⟩:=aBg hs hc hM hf M.length (by lia) [s] [s] .uD .uD (dv0 f s) (by simp);refine⟨R,dv.nd,λx=>dv.fin,(cR rfl).trans ?_⟩;have fin:gH [.dct (dA M f),.int s,.uD,.uD,.uD,.uD]=.ok (.rt (.lst ((sortI R).map δ))):=by
  refine aL (ρ':=[.dct (dA M f),.int s,.dct (kT [s]),.uD,.uD,.uD]) (cU (i:=2) (aM rfl rfl rfl) rfl) ?_;refine aL (ρ':=hst M f s [s] [s] .uD .uD) (cU (i:=3) rfl rfl) ?_;refine aL (e 1000 (by lia)) ?_;exact gU (aK (xs:=[.dct (kT R)]) (aC rfl rfl) (aBf R)) rfl
 show(do let r <- gH _;YW r)=_;rw[show([D.dct (dA M f),δ s]++cz (6-2) D.uD)=[.dct (dA M f),.int s,.uD,.uD,.uD,.uD] from rfl,fin];rfl
end
theorem G9{V:aa Tie}{t:Tie}(h:t∈V):t.1∈ends V/\t.2∈ends V:=by
 unfold ends;exact⟨kC.mpr ⟨t,h,by simp⟩,kC.mpr ⟨t,h,by simp⟩⟩
def aBh(V:aa Tie)(e f:Pt):Prop:=(e,f)∈V\/(f,e)∈V
theorem aBh.mem{V:aa Tie}{e f:Pt}(h:aBh V e f):e∈ends V/\f∈ends V:=by
 rcases h with h|h
 ·exact G9 h
 ·exact⟨(G9 h).2,(G9 h).1⟩
theorem aBh.symm{V:aa Tie}{e f:Pt}(h:aBh V e f):aBh V f e:=Or.symm h
theorem aHw{V:aa Tie}{e:Pt}(h:e∈ends V):∃f,aBh V e f:=by
 obtain⟨t,ht,h⟩:=kC.mp h;rcases bm.mp h with h|h
 ·exact⟨t.2,.inl (by rw[h];exact ht)⟩
 ·exact⟨t.1,.inr (by rw[show e=t.2 by simpa using h];exact ht)⟩
theorem aHx{Q:aa Pc}{V:aa Tie}{r:ag}{ρ:aa D}:cM (b2 getD cA e_) ai (gR Q V r::ρ)=.ok (V.map bV,af):=by
 refine(jV (d:=.tup (V.map bV)) (xs:=V.map bV) (aM rfl rfl rfl) rfl).trans ?_;rw[sY];rfl
noncomputable def norm(t:Tie):Tie:=(if ltP t.2 t.1 then t.2 else t.1,if ltP t.1 t.2 then t.2 else t.1)
def kvD(kv:Pt×Pt):D×D:=(enP kv.1,enP kv.2)
noncomputable def aL8:aa (Pt×Pt)->Pt->Pt->aa (Pt×Pt)
 |[],p,q=>[(p,q)]
 | (k,v)::r,p,q=>if k=p then (k,q)::r else (k,v)::aL8 r p q
noncomputable def yU:aa (Pt×Pt)->Pt->az Pt
 |[],_=>ak
 | (k,v)::r,p=>if k=p then ae v else yU r p
theorem aBi(p q:Pt):∀m:aa (Pt×Pt),putD (m.map kvD) (enP p) (enP q)=(aL8 m p q).map kvD
 |[]=>rfl
 | (k,v)::r=>by
  rw[br,kvD,putD,xT,aL8];by_cases h:k=p
  ·simp[h,kvD]
  ·simp only[h,Bm,c_,b9];rw[aBi p q r];rfl
theorem Q8(p:Pt):∀m:aa (Pt×Pt),bG (m.map kvD) (enP p)=(yU m p).map enP
 |[]=>rfl
 | (k,v)::r=>by
  rw[br,kvD,bG,xT,yU];by_cases h:k=p
  ·simp[h]
  ·simp only[h,Bm,c_,b9];exact Q8 p r
theorem aHy(m:aa (Pt×Pt))(p:Pt):o6 (m.map kvD) (enP p)=af:=by
 unfold o6;rw[show keyOk (enP p)=af from rfl,nh,dh];intro x hx;obtain⟨y,_,rfl⟩:=b6.mp hx;rfl
theorem G_{p q:Pt}:∀{m:aa (Pt×Pt)},p∉m.map (·.1)->aL8 m p q=m++[(p,q)]
 |[],_=>rfl
 | (k,v)::r,h=>by
  rw[br,bm,hX] at h;rw[aL8,av (λz=>h.1 z.symm),G_ h.2];rfl
theorem M3{p q:Pt}:∀{m:aa (Pt×Pt)},(m.map (·.1)).Nodup->(p,q)∈m->yU m p=ae q
 | (k,v)::r,hn,h=>by
  rw[br,dq] at hn;rw[yU];rcases bm.mp h with e|h
  ·cases e;rw[aq rfl]
  ·rw[av,M3 hn.2 h];rintro rfl;exact hn.1 (b6.mpr ⟨_,h,rfl⟩)
noncomputable def both(T:aa Tie):aa (Pt×Pt):=T.flatMap λt=>[(t.1,t.2),(t.2,t.1)]
theorem tE(T:aa Tie):(both T).map (·.1)=ends T:=by
 induction T with
 |nil=>rfl
 |cons t T ih=>simp only[both,ends,nu,c5] at *;rw[ih];rfl
theorem aDz(T:aa Tie):(both T).length=2*T.length:=by
 induction T with
 |nil=>rfl
 |cons t T ih=>simp only[both,nu,cw,ck,eT] at *;lia
theorem aE0{V:aa Tie}{e f:Pt}:aBh V e f->(e,f)∈both V:=λh=>by
 unfold both;rcases h with h|h
 ·exact kC.mpr ⟨_,h,by simp⟩
 ·exact kC.mpr ⟨_,h,by simp⟩
theorem look_both{V:aa Tie}{e f:Pt}(hn:(ends V).Nodup)(h:aBh V e f):yU (both V) e=ae f:=M3 (by rw[tE];exact hn) (aE0 h)
def aNj:FS:=bI (wI 1 fM dU) (wI 1 dU fM)
theorem zO{a:D}:∀(T S:aa Tie)(p q:D),(ends (S++T)).Nodup->2*(S++T).length<lim->∃p' q',mZ (tgN [2,3]) aNj (T.map bV) [a,.dct ((both S).map kvD),p,q]=.ok (.nx [a,.dct ((both (S++T)).map kvD),p',q'])
 |[],S,p,q,_,_=>⟨p,q,by rw[f_];rfl⟩
 |t::T,S,p,q,hn,hl=>by
  have hS:S++t::T=S++[t]++T:=by simp
  obtain⟨p',q',e⟩:=zO (a:=a) T (S++[t]) (enP t.1) (enP t.2) (by rw[<-hS];exact hn) (by rw[<-hS];exact hl);refine⟨p',q',?_⟩;rw[hS,<-e];have hb:both (S++[t])=(both S++[(t.1,t.2)])++[(t.2,t.1)]:=by simp[both]
  have hd:(ends S++([t.1,t.2]++ends T)).Nodup:=by
   have:ends (S++t::T)=ends S++([t.1,t.2]++ends T):=by simp[ends]
   rwa [this] at hn
  have n1:t.1∉(both S).map (·.1):=by
   rw[tE];intro h;exact(gq.mp hd).2.2 _ h t.1 (by simp) rfl
  have n2:t.2∉(both S++[(t.1,t.2)]).map (·.1):=by
   rw[c5,tE];intro h;rcases cS.mp h with h|h
   ·exact(gq.mp hd).2.2 _ h t.2 (by simp) rfl
   ·have e:t.2=t.1:=by simpa using h
    have:=(gq.mp (gq.mp hd).2.1).1;rw[e] at this;simp at this
  have hlen:(both S).length+1<lim:=by
   rw[aDz];rw[cw,ck] at hl;lia
  have s1:=aBi t.1 t.2 (both S);have s2:=aBi t.2 t.1 (both S++[(t.1,t.2)]);rw[G_ n1] at s1;rw[G_ n2,<-hb] at s2;refine iG (ρ1:=[a,.dct ((both S).map kvD),enP t.1,enP t.2]) (ρ2:=[a,.dct ((both (S++[t])).map kvD),enP t.1,enP t.2]) rfl ?_ rfl;refine aL (ρ':=[a,.dct ((both S++[(t.1,t.2)]).map kvD),enP t.1,enP t.2]) ?_ ?_
  ·rw[<-s1];exact sG (i:=1) (kvs:=(both S).map kvD) (k:=enP t.1) (d:=enP t.2) rfl rfl rfl (by rw[aI];lia) (aHy _ _) rfl
  ·rw[<-s2];exact sG (i:=1) (kvs:=(both S++[(t.1,t.2)]).map kvD) (k:=enP t.2) (d:=enP t.1) rfl rfl rfl (by rw[aI,cw];exact hlen) (aHy _ _) rfl
theorem aE1{Q:aa Pc}{V:aa Tie}{r:ag}(hn:(ends V).Nodup)(hl:2*V.length<lim):cF 1 oJ [gR Q V r]=.ok (.dct ((both V).map kvD)):=by
 obtain⟨p',q',e⟩:=zO (a:=gR Q V r) V [] .uD .uD (by simpa using hn) (by simpa using hl);refine(cR rfl).trans (call_v ?_);refine aL (ρ':=[gR Q V r,.dct [],.uD,.uD]) (cU rfl rfl) ?_;refine aL (mK aHx e) ?_;rfl
noncomputable def unP:D->Pt
 |.tup [.int a,.int b]=>(a,b)
 |_=>(0,0)
theorem aL9(p:Pt):unP (enP p)=p:=rfl
def yV(U:aa Pt):aa Pt:=(gM (U.map enP)).map unP
theorem uB(U:aa Pt):(yV U).Perm U:=by
 have h:=(cX (U.map enP)).map unP;rw[df] at h;have e:U.map (unP ∘ enP)=U:=by
  conv=>rhs;rw[<-gV U]
  exact e8 λt _=>aL9 t
 rw[e] at h;exact h
theorem aBj(U:aa Pt):(yV U).map enP=gM (U.map enP):=by
 unfold yV;rw[df]
 conv=>rhs;rw[<-gV (gM (U.map enP))]
 refine e8 λd hd=>?_
 obtain⟨t,_,rfl⟩:=b6.mp ((cX (U.map enP)).mem_iff.mp hd);rfl
theorem yW(U:aa Pt):bD (U.map enP)=af:=by
 unfold bD;refine dh.mpr λd hd=>?_
 obtain⟨t,ht,rfl⟩:=b6.mp hd;have hk:dZ ((U.map enP).headD .non)=3:=by
  cases U with
  |nil=>cases ht
  |cons u U=>rfl
 have h5:dZ (enP t)=3:=rfl;have hp:(enP t).plain=af:=rfl;have hq:(enP t).fD aR=af:=rfl;rw[hk,h5,hp,hq];refine dh.mpr λb hb=>?_
 obtain⟨u,_,rfl⟩:=b6.mp hb;rw[sW];rfl
theorem WT{U:aa Pt}(hn:U.Nodup):(yV U).Pairwise ltP:=by
 have h:=jO (U.map enP);rw[<-aBj,i6] at h;have hn':(yV U).Nodup:=(uB U).nodup_iff.mpr hn;refine(List.pairwise_and_iff.mpr ⟨h,hn'⟩).imp λ{a b} hab=>?_
 obtain⟨h1,h2⟩:=hab;have e:=PL (enP b) (enP a) _ rfl rfl (sW b a);unfold leE at h1;rw[<-e] at h1;have h3:¬ltP b a:=by simpa using h1
 unfold ltP at h3 ⊢;have:a.1≠b.1\/a.2≠b.2:=by
  by_cases z:a.1=b.1
  ·exact .inr λy=>h2 (Prod.ext z y)
  ·exact .inl z
 lia
def mt(V:aa Tie)(e:Pt):Pt:=(yU (both V) e).getD e
theorem aBk{V:aa Tie}{e f:Pt}(hn:(ends V).Nodup)(h:aBh V e f):mt V e=f:=by
 unfold mt;rw[look_both hn h];rfl
theorem Q9{V:aa Tie}{e:Pt}(hn:(ends V).Nodup)(h:e∈ends V):aBh V e (mt V e):=by
 obtain⟨f,hf⟩:=aHw h;rw[aBk hn hf];exact hf
noncomputable def pS(p:aa ag):D:=.scr (p.map δ)
theorem aBl{i:ah}{t:D->aa D->Res (aa D)}{body:FS}{ρ xs:aa D}{r:Res Fl}(h1:jZ i ρ=.ok (.scr xs))(h2:mZ t body xs ρ=r):V8 i t body ρ=r:=by
 unfold V8;rw[h1,ε];exact h2
theorem aLa{f:FE}{ρ xs:aa D}(h:f ρ=.ok (.lst xs))(hp:θ xs=af):bFz f ρ=.ok (.scr xs):=by
 unfold bFz;rw[h,ε];show(if θ xs then _ else _)=_;rw[hp,aq rfl]
theorem Ps.sub{f:ag->aa ag}{N1 N:aa ag}{F:aa (aa ag)}(h:Ps f N1 F)(hN:∀n∈N1,n∈N)(hc:∀x∈N,∀y∈f x,y∈N):∀x∈F.flatten,x∈N:=λx hx=>by
 obtain⟨p,h1,h2⟩:=List.mem_flatten.mp hx;obtain⟨n,q,e,h3,_,h4⟩:=h.ea p h1;exact((h4 x).mp h2).mem (hN n h3) hc
theorem Ps.len{f:ag->aa ag}{N1 N:aa ag}{F:aa (aa ag)}(h:Ps f N1 F)(hN:∀n∈N1,n∈N)(hc:∀x∈N,∀y∈f x,y∈N):F.flatten.length<=N.length:=oO _ _ h.nd (h.sub hN hc)
def W5(Q:aa Pc)(V:aa Tie):D:=.dct (dA (Q.map (·.1)) (uA V))
def aNk:FS:=(sIf (bTB (b2 (b7 .lE) eO fM)) (bI (b8 ai 6 (bFz (aN (cF 2 bZ) (aD eE (aD eO aV)))) af) (bI (V8 6 (tg1 7) (wI 2 mH (bC (.bl af)))) (mY 3 lM))) jA)
theorem aE2{a b c d e f g:D}{K p:aa ag}(nd:p.Nodup)(hd:∀x∈p,x∉K)(hl:p.length+K.length<=100000):∃g',mZ (tg1 7) (wI 2 mH (bC (.bl af))) (p.map δ) [a,b,.dct (kT K),c,d,e,f,g]=.ok (.nx [a,b,.dct (kT (K++p)),c,d,e,f,g']):=by
 obtain⟨ρ,h,x,rfl⟩:=cY (t:=tg1 7) (body:=wI 2 mH (bC (.bl af))) (d:=δ) (I:=λys ρ=>∃x,ρ=[a,b,.dct (kT (K++ys)),c,d,e,f,x]) p (λys n zs ρ e0 ⟨x,h⟩=>by
  subst h;have hn:n∉K++ys:=λz=>by
   rcases cS.mp z with z|z
   ·exact hd n (by rw[e0];simp) z
   ·rw[e0] at nd;exact(gq.mp nd).2.2 n z n (bu ..) rfl
  have hyl:ys.length<=p.length:=by rw[e0];simp
  refine⟨[a,b,.dct (kT (K++ys)),c,d,e,f,.int n],[a,b,.dct (kT (K++(ys++[n]))),c,d,e,f,.int n],rfl,?_,_,rfl⟩;refine(sG (i:=2) (kvs:=kT (K++ys)) (k:=.int n) (d:=.bl af) rfl rfl rfl (by rw[kT,aI,cw,bA];lia) (aBe _ n) rfl).trans ?_;rw[aBd hn,dg];rfl) (ρ:=[a,b,.dct (kT K),c,d,e,f,g]) ⟨g,by rw[f_]⟩
 exact⟨x,h⟩
theorem aE3{Q:aa Pc}{V:aa Tie}{r:ag}(w:Wf Q V):∃F:aa (aa ag),Ps (uA V) (Q.map (·.1)) F/\F.length<=40/\cF 1 t8 [gR Q V r]=.ok (.lst (F.map pS)):=by
 have ql:=w.ql;have hcl:=rE w;have hb:∀n,(uA V n).length<=5000:=λn=>by have:=aBa V (λ_=>[]) n;have:=w.vl;unfold uA;simp at *;lia
 obtain⟨ρ1,e1,F,x4,x5,x6,x7,ps,hl,rfl⟩:=cY (t:=tgN [4,5]) (body:=aNk) (d:=pcD) (I:=λys ρ=>∃F x4 x5 x6 x7,Ps (uA V) (ys.map (·.1)) F/\F.length<=ys.length/\ρ=[gR Q V r,W5 Q V,.dct (kT F.flatten),.lst (F.map pS),x4,x5,x6,x7]) Q (λys a zs ρ e ⟨F,x4,x5,x6,x7,ps,hl,h⟩=>by
  subst h;have eN:Q.map (·.1)=ys.map (·.1)++a.1::zs.map (·.1):=by rw[e,c5];rfl
  have hsub:∀n∈ys.map (·.1),n∈Q.map (·.1):=λn hn=>by rw[eN];exact eM _ hn
  have haN:a.1∈Q.map (·.1):=by rw[eN];simp
  have hyl:ys.length<=40:=by rw[eN] at ql;simp at ql;lia
  have hK:=ps.len hsub hcl;rw[c5,cw];refine⟨[gR Q V r,W5 Q V,.dct (kT F.flatten),.lst (F.map pS),.int a.1,.str a.2,x6,x7],?_⟩;by_cases hn:a.1∈F.flatten
  ·refine⟨_,rfl,oG (dC (aM (x:=.int a.1) rfl rfl ((vU _ a.1).trans (by rw[cu hn];rfl)))) rfl,F,_,_,_,_,ps.skip hn,by lia,rfl⟩
  ·obtain⟨R,r1,r2,r3⟩:=WR (M:=Q.map (·.1)) (f:=uA V) haN hcl (by lia) hb;obtain⟨ps2,hnew⟩:=ps.more (MT V) (by rw[<-eN];exact w.qs) (by rw[<-eN];exact hcl) hn r1 r2;have hnd:(sortI R).Nodup:=(sortI_perm R).nodup_iff.mpr r1;have hlR:(sortI R).length<=40:=dn (oO _ _ hnd λx hx=>((r2 x).mp ((sortI_perm R).mem_iff.mp hx)).mem haN hcl) ql;obtain⟨g',hg⟩:=aE2 (a:=gR Q V r) (b:=W5 Q V) (c:=.lst (F.map pS)) (d:=.int a.1) (e:=.str a.2) (f:=pS (sortI R)) (g:=x7) (K:=F.flatten) hnd hnew (by lia);refine⟨[gR Q V r,W5 Q V,.dct (kT (F.flatten++sortI R)),.lst ((F++[sortI R]).map pS),.int a.1,.str a.2,pS (sortI R),g'],rfl,HN (dC (aM (x:=.int a.1) rfl rfl ((vU _ a.1).trans (by rw[c6 hn];rfl)))) ?_,F++[sortI R],.int a.1,.str a.2,pS (sortI R),g',ps2,by simp;lia,?_⟩
   ·have r3':cF 2 bZ [W5 Q V,.int a.1]=.ok (.lst ((sortI R).map δ)):=r3;have c1:aN (cF 2 bZ) (aD eE (aD eO aV)) [gR Q V r,W5 Q V,.dct (kT F.flatten),.lst (F.map pS),.int a.1,.str a.2,x6,x7]=.ok (.lst ((sortI R).map δ)):=aK (aC rfl (aC rfl rfl)) r3';refine aL (ρ':=[gR Q V r,W5 Q V,.dct (kT F.flatten),.lst (F.map pS),.int a.1,.str a.2,pS (sortI R),x7]) (bN (i:=6) (aLa c1 (d8 _))) ?_;refine aL (ρ':=[gR Q V r,W5 Q V,.dct (kT (F.flatten++sortI R)),.lst (F.map pS),.int a.1,.str a.2,pS (sortI R),g']) (aBl (i:=6) (xs:=(sortI R).map δ) rfl hg) ?_;refine(jT (i:=3) (xs:=F.map pS) (d:=pS (sortI R)) rfl rfl (by rw[aI,bA];lia) (d8 _)).trans ?_;rw[c5];rfl
   ·rw[sg,sh]) (ρ:=[gR Q V r,W5 Q V,.dct [],.lst [],.uD,.uD,.uD,.uD]) ⟨[],_,_,_,_,ps0 _,ba _,rfl⟩
 refine⟨F,ps,by rw[aI] at ql;lia,(cR rfl).trans ?_⟩;refine call_v (d:=.lst (F.map pS)) ?_;refine aL (ρ':=[gR Q V r,W5 Q V,.uD,.uD,.uD,.uD,.uD,.uD]) (bN (i:=1) (aK (xs:=[gR Q V r]) (aC rfl rfl) (G8 w))) ?_;refine aL (ρ':=[gR Q V r,W5 Q V,.dct [],.uD,.uD,.uD,.uD,.uD]) (cU (i:=2) rfl rfl) ?_;refine aL (ρ':=[gR Q V r,W5 Q V,.dct [],.lst [],.uD,.uD,.uD,.uD]) (cU (i:=3) rfl rfl) ?_;refine aL (G7 (xs:=Q.map pcD) rfl (sX Q) e1) ?_;rfl
theorem HB{pc:Pc}:∀{Q:aa Pc},Q.Pairwise LtN->pc∈Q->Q.find? (λc=>ϒ (c.1=pc.1))=ae pc
 |[],_,h=>by cases h
 |c::Q,hp,h=>by
  rw[iF];rcases bm.mp h with rfl|h
  ·simp
  ·have h1:=(iP.mp hp).1 pc h;have:¬c.1=pc.1:=by unfold LtN at h1;lia
   rw[c6 this];exact HB (iP.mp hp).2 h
def vq(kvs:aa (D×D))(Q:aa Pc)(n:ag):ah:=((Q.find? λc=>ϒ (c.1=n)).map λc=>vOf kvs c.2+1).getD 0
theorem aLb{kvs:aa (D×D)}{Q:aa Pc}{pc:Pc}(h:Q.Pairwise LtN)(hp:pc∈Q):vq kvs Q pc.1=vOf kvs pc.2+1:=by
 unfold vq;rw[HB h hp];rfl
theorem aBm{kvs:aa (D×D)}{Q:aa Pc}{V:aa Tie}(w:Net kvs Q V){pc:Pc}(hp:pc∈Q):vOf kvs pc.2<=6:=by
 obtain⟨v,h1,h2⟩:=w.sk pc hp;rw[aF4 h2];exact h1
theorem vW{kvs:aa (D×D)}{Q:aa Pc}{V:aa Tie}(w:Net kvs Q V){pc:Pc}(hp:pc∈Q)(h:ag):(pc.1,h)∈ends V↔0<=h/\h<=vOf kvs pc.2:=by
 obtain⟨S,_,_,p⟩:=w.rims;rw[p.mem_iff,cS,aB4];constructor
 ·rintro(⟨c,h1,h2,h3⟩|z)
  ·have e:c=pc:=by
    have a:=HB w.qs h1;have b:=HB w.qs hp;have h2':c.1=pc.1:=h2;rw[h2',b] at a;cases a;rfl
   subst e;exact h3
  ·obtain⟨s,_,e⟩:=b6.mp z;have:=w.qpos pc hp;have e1:(0:ag)=pc.1:=d6 Aa e;lia
 ·exact λz=>.inl ⟨pc,hp,rfl,z⟩
def eA(V:aa Tie)(n:ag)(k:ah):aa Pt:=(cq k).map λ(j:ah)=>mt V (n,(j:ag))
def ea(kvs:aa (D×D))(Q:aa Pc)(V:aa Tie)(n:ag):aa Pt:=eA V n (vq kvs Q n)
theorem M4(V:aa Tie)(n:ag)(k:ah):(eA V n k).length=k:=by simp[eA]
theorem aHz(V:aa Tie)(n:ag)(k:ah):eA V n (k+1)=eA V n k++[mt V (n,(k:ag))]:=by simp[eA,List.range_succ]
theorem aBn{kvs:aa (D×D)}{Q:aa Pc}{V:aa Tie}(w:Net kvs Q V){pc:Pc}(hp:pc∈Q){f:Pt}:f∈ea kvs Q V pc.1↔∃h,aBh V (pc.1,h) f:=by
 unfold ea eA;rw[aLb w.qs hp];simp only[b6,lz];constructor
 ·rintro⟨j,h1,rfl⟩;exact⟨j,Q9 w.nd ((vW w hp j).mpr (by lia))⟩
 ·rintro⟨h,ht⟩;have:=(vW w hp h).mp ht.mem.1;refine⟨h.toNat,by lia,?_⟩;rw[show((h.toNat:ah):ag)=h by lia];exact aBk w.nd ht
def dE(M:aa ag)(g:ag->aa Pt):aa (D×D):=M.map λn=>(.int n,.scr ((g n).map enP))
theorem aBo{g:ag->aa Pt}{x:ag}:∀{M:aa ag},x∈M->bG (dE M g) (.int x)=ae (.scr ((g x).map enP))
 |m::M,h=>by
  show(if eqD (.int m) (.int x) then ae (D.scr ((g m).map enP)) else bG (dE M g) (.int x))=_;rw[dX];by_cases e:m=x
  ·subst e;rw[cu rfl,aq rfl]
  ·rw[c6 e,av (by simp)];exact aBo ((bm.mp h).resolve_left λz=>e z.symm)
theorem aF9{g:ag->aa Pt}{x:ag}:∀{M:aa ag},x∉M->putD (dE M g) (.int x) (.scr ((g x).map enP))=dE (M++[x]) g
 |[],_=>rfl
 |m::M,h=>by
  show(if eqD (.int m) (.int x) then _ else _)=_;have e:¬m=x:=λz=>h (by rw[z];simp)
  rw[dX,c6 e,av (by simp)];show _::putD (dE M g) (.int x) (.scr ((g x).map enP))=_;rw[aF9 λz=>h (bq _ z)];rfl
theorem aLc(M:aa ag)(g:ag->aa Pt)(x:ag):o6 (dE M g) (.int x)=af:=by
 unfold o6;rw[show keyOk (.int x)=af from rfl,nh,dh];intro p hp;obtain⟨n,_,rfl⟩:=b6.mp hp;rfl
theorem aBp{V:aa Tie}(hn:(ends V).Nodup)(e:Pt):b7 .isin (enP e) (.dct ((both V).map kvD))=.ok (.bl (ϒ (e∈ends V))):=by
 show(if o6 ((both V).map kvD) (enP e) then τ (π (bG ((both V).map kvD) (enP e)).isSome) else .bad)=_;rw[aHy,aq rfl,Q8];by_cases h:e∈ends V
 ·rw[look_both hn (Q9 hn h),cu h];rfl
 ·have:yU (both V) e=ak:=by
   have key:∀m:aa (Pt×Pt),e∉m.map (·.1)->yU m e=ak:=by
    intro m;induction m with
    |nil=>intro _;rfl
    |cons kv m ih=>
     intro z;rw[yU,av (λq=>z (by rw[<-q];simp))];exact ih λq=>z (bq _ q)
   exact key _ (by rw[tE];exact h)
  rw[this,c6 h];rfl
theorem aE4{V:aa Tie}(hn:(ends V).Nodup){e:Pt}(h:e∈ends V):getD (.dct ((both V).map kvD)) (enP e)=.ok (enP (mt V e)):=by
 show(if keyOk (enP e) then ι (bG ((both V).map kvD) (enP e)) else .bad)=_;rw[Q8,look_both hn (Q9 hn h)];rfl
def aLd:FT:=(bTB (b2 (b7 .isin) (fQ (aD dU (aD (aN dY (aD eZ aV)) aV))) eE))
def aLe:FS:=(mY 5 (b2 getD eE (fQ (aD dU (aD (aN dY (aD eZ aV)) aV)))))
theorem aI0{net ends_ nm:D}{V:aa Tie}{n:ag}{L:aa Pt}:(fQ (aD dU (aD (aN dY (aD eZ aV)) aV))) [net,.dct ((both V).map kvD),ends_,.int n,nm,.lst (L.map enP)]=.ok (enP (n,(L.length:ag))):=by
 refine dM (xs:=[.int n,.int L.length]) (aC rfl (aC (aK (xs:=[.lst (L.map enP)]) (aC rfl rfl) (aNg L)) rfl)) (by rw[bA];simp)
theorem aFa{net ends_ nm:D}{kvs:aa (D×D)}{Q:aa Pc}{V:aa Tie}(w:Net kvs Q V){pc:Pc}(hp:pc∈Q):∀(m k fuel:ah),k+m=vOf kvs pc.2+1->m<fuel->
  HQ aLd aLe fuel [net,.dct ((both V).map kvD),ends_,.int pc.1,nm,.lst ((eA V pc.1 k).map enP)]=.ok (.nx [net,.dct ((both V).map kvD),ends_,.int pc.1,nm,.lst ((eA V pc.1 (vOf kvs pc.2+1)).map enP)])
 |0,k,fuel,h,hf=>by
  obtain⟨f,rfl⟩:∃f,fuel=f+1:=⟨fuel-1,by lia⟩
  have e:k=vOf kvs pc.2+1:=by lia
  subst e;refine rD (dC (aM aI0 rfl ((aBp w.nd _).trans ?_)));rw[M4,c6];rw[vW w hp];lia
 |m+1,k,fuel,h,hf=>by
  obtain⟨f,rfl⟩:∃f,fuel=f+1:=⟨fuel-1,by lia⟩
  have v6:=aBm w hp;have hin:(pc.1,((eA V pc.1 k).length:ag))∈ends V:=by
   rw[M4,vW w hp];lia
  refine tB (dC (aM aI0 rfl ((aBp w.nd _).trans ?_))) ?_ (aFa w hp m (k+1) f (by lia) (by lia))
  ·rw[cu hin]
  ·refine(jT (i:=5) (xs:=(eA V pc.1 k).map enP) (d:=enP (mt V (pc.1,(k:ag)))) (aM rfl aI0 ?_) rfl (by rw[aI,M4,bA];lia) rfl).trans ?_
   ·have:=aE4 w.nd hin;rw[M4] at this ⊢;exact this
   ·rw[aHz,c5];rfl
theorem aFb{i:ah}{f:FE}{g:FS}{ρ xs:aa D}{r:Res Fl}(h1:f ρ=.ok (.lst xs))(hp:θ xs=af)(h2:g (ρ.set i (.lst xs))=r):aHa i f g ρ=r:=by
 unfold aHa;rw[h1,ε];show(if θ xs then _ else _)=_;rw[hp,aq rfl,h2]
theorem Q_{f g:FS}{ρ ρ':aa D}{r:Res Fl}(h1:f ρ=.ok (.nx ρ'))(h2:g ρ'=r):uX f g ρ=r:=by
 unfold uX;rw[h1,ε];exact h2
theorem aBq{i:ah}{g:FS}{ρ xs:aa D}{r:Res Fl}(h1:ρ.getD i .uD=.lst xs)(h2:g (ρ.set i (.scr xs))=r):DY i g ρ=r:=by
 unfold DY;rw[h1];exact h2
theorem aBr(L:aa Pt):(D.scr (L.map enP)).pure=af:=gJ L
def aNl:FS:=(aHa 5 (BV aV) (uX (aGu aLd aLe) (DY 5 (wI 2 dU eZ))))
theorem aI1{kvs:aa (D×D)}{Q:aa Pc}{V:aa Tie}{r:ag}(w:Net kvs Q V):cF 1 gF [gR Q V r]=.ok (.dct (dE (Q.map (·.1)) (ea kvs Q V))):=by
 have ql:=w.ql;have wf:=w.wf;obtain⟨ρ1,e1,x3,x4,x5,rfl⟩:=cY (t:=tgN [3,4]) (body:=aNl) (d:=pcD) (I:=λys ρ=>∃a b c,ρ=[gR Q V r,.dct ((both V).map kvD),.dct (dE (ys.map (·.1)) (ea kvs Q V)),a,b,c]) Q (λys a zs ρ e ⟨x,y,z,h⟩=>by
  subst h;have ha:a∈Q:=by rw[e];simp
  have hyl:ys.length<=30:=by rw[e] at ql;simp at ql;lia
  have hnew:=aBb wf e;have v6:=aBm w ha;refine⟨[gR Q V r,.dct ((both V).map kvD),.dct (dE (ys.map (·.1)) (ea kvs Q V)),.int a.1,.str a.2,z],[gR Q V r,.dct ((both V).map kvD),.dct (dE ((ys++[a]).map (·.1)) (ea kvs Q V)),.int a.1,.str a.2,.scr ((ea kvs Q V a.1).map enP)],rfl,?_,_,_,_,rfl⟩;refine aFb (i:=5) (xs:=[]) rfl rfl ?_;refine Q_ (ρ':=[gR Q V r,.dct ((both V).map kvD),.dct (dE (ys.map (·.1)) (ea kvs Q V)),.int a.1,.str a.2,.lst ((ea kvs Q V a.1).map enP)]) ?_ ?_
  ·have:=aFa (net:=gR Q V r) (ends_:=.dct (dE (ys.map (·.1)) (ea kvs Q V))) (nm:=.str a.2) w ha (vOf kvs a.2+1) 0 1000 (by lia) (by lia);unfold ea;rw[aLb w.qs ha];exact this
  ·refine aBq (i:=5) rfl ?_;refine(sG (i:=2) (kvs:=dE (ys.map (·.1)) (ea kvs Q V)) (k:=.int a.1) (d:=.scr ((ea kvs Q V a.1).map enP)) rfl rfl rfl (by rw[dE,aI,aI,bA];lia) (aLc _ _ _) (aBr _)).trans ?_;rw[aF9 hnew,c5];rfl) (ρ:=[gR Q V r,.dct ((both V).map kvD),.dct [],.uD,.uD,.uD]) ⟨_,_,_,rfl⟩
 refine(cR rfl).trans (call_v ?_);refine aL (ρ':=[gR Q V r,.dct ((both V).map kvD),.uD,.uD,.uD,.uD]) (bN (i:=1) (aK (xs:=[gR Q V r]) (aC rfl rfl) (aE1 w.nd (by have:=w.small;rw[bA];lia)))) ?_;refine aL (ρ':=[gR Q V r,.dct ((both V).map kvD),.dct [],.uD,.uD,.uD]) (cU (i:=2) rfl rfl) ?_;refine aL (G7 (xs:=Q.map pcD) rfl (sX Q) e1) ?_;rfl
def gW(s:Str)(l:aa ag):aa D:=.str s::l.map δ
def aNm(d:D):Prop:=∃(s:Str)(l:aa ag),d=.scr (gW s l)
def jH(ds:aa D):Prop:=∀d∈ds,aNm d
theorem HD(o:eY):∀a b:aa ag,∃k,dG o (a.map δ) (b.map δ)=ae k
 |[],b=>⟨_,rfl⟩
 |x::a,[]=>⟨_,rfl⟩
 |x::a,y::b=>by
  obtain⟨k,h⟩:=HD o a b;show ∃k,(if eqD (.int x) (.int y) then dG o (a.map δ) (b.map δ) else gK o (.int x) (.int y))=ae k;split
  ·exact⟨k,h⟩
  ·exact⟨_,rfl⟩
theorem T9(o:eY)(s s':Str)(l l':aa ag):∃k,dG o (gW s l) (gW s' l')=ae k:=by
 obtain⟨k,h⟩:=HD o l l';show ∃k,(if eqD (.str s) (.str s') then dG o (l.map δ) (l'.map δ) else gK o (.str s) (.str s'))=ae k;split
 ·exact⟨k,h⟩
 ·exact⟨_,rfl⟩
theorem oU(n:ah):∀p:aa ag,μ n (p.map δ)=af
 |[]=>by cases n<;>rfl
 |x::p=>by
  rw[br,μ,oU n p];cases n<;>rfl
theorem nU(n:ah)(s:Str)(l:aa ag):μ n (gW s l)=af:=by
 unfold gW;rw[μ,oU];cases n<;>rfl
theorem xY(s:Str)(l:aa ag):θ (gW s l)=af:=by
 unfold gW;rw[θ,d8];rfl
theorem aLf(s s':Str)(l l':aa ag):∃k,b7 .ne (.lst (gW s l)) (.scr (gW s' l'))=.ok (.bl k):=by
 refine⟨!eqD (.lst (gW s l)) (.scr (gW s' l')),?_⟩;show(if μ 11 (gW s l)&&μ 11 (gW s' l') then τ (π (!eqD (.lst (gW s l)) (.scr (gW s' l')))) else .bad)=_;rw[nU,nU];rfl
theorem aLg(s s':Str)(l l':aa ag):∃k,b7 (.ord .gt) (.lst (gW s l)) (.scr (gW s' l'))=.ok (.bl k):=by
 obtain⟨k,h⟩:=T9 .gt s s' l l';exact⟨k,aGr (nU 11 _ _) (nU 11 _ _) h⟩
structure Pl(pl:aa (D×D))(R:aa ag):Prop where
 at_:∀x:ag,x=0\/x∈R->∃i:ag,bG pl (.int x)=ae (.int i)
 no:∀x:ag,¬(x=0\/x∈R)->bG pl (.int x)=ak
 fit:∀x:ag,o6 pl (.int x)=af
 len:pl.length<=R.length+1
theorem oV(x y:ag)(d:D):∀pl:aa (D×D),bG (putD pl (.int x) d) (.int y)=if x=y then ae d else bG pl (.int y)
 |[]=>by
  show(if eqD (.int x) (.int y) then ae d else ak)=_;rw[dX];by_cases h:x=y<;>simp[h,bG]
 | (k,v)::pl=>by
  show bG (if eqD k (.int x) then (k,d)::pl else (k,v)::putD pl (.int x) d) (.int y)=if x=y then ae d else if eqD k (.int y) then ae v else bG pl (.int y)
  have ih:=oV x y d pl;by_cases h:eqD k (.int x)=af
  ·rw[aq h];show(if eqD k (.int y) then ae d else bG pl (.int y))=_;by_cases hxy:x=y
   ·subst hxy;rw[aq h,aq rfl]
   ·have:eqD k (.int y)≠af:=by
     cases k with
     |int i=>
      rw[dX,d4] at h;rw[dX];intro z;exact hxy (h.symm.trans (e9 z))
     |bl b=>
      have h1:((if b then (1:ag) else 0)==x)=af:=h;show((if b then (1:ag) else 0)==y)≠af;rw[mE] at h1;simp only[ne_eq,mE];intro z;exact hxy (h1.symm.trans z)
     |_=>simp[eqD] at h
    rw[av this,av hxy,av this]
  ·rw[av h];show(if eqD k (.int y) then ae v else bG (putD pl (.int x) d) (.int y))=_;by_cases hxy:x=y
   ·subst hxy;rw[av h,ih,aq rfl,aq rfl]
   ·rw[ih,av hxy,av hxy]
theorem aBs{pl:aa (D×D)}{x:ag}{d:D}(h:∀y:ag,o6 pl (.int y)=af)(y:ag):o6 (putD pl (.int x) d) (.int y)=af:=by
 have key:∀pl:aa (D×D),pl.all (λp=>isTup p.1==ai)=af->(putD pl (.int x) d).all (λp=>isTup p.1==ai)=af:=by
  intro pl;induction pl with
  |nil=>intro _;rfl
  |cons kv pl ih=>
   intro h;obtain⟨k,v⟩:=kv;rw[gi,bg] at h;show(if eqD k (.int x) then (k,d)::pl else (k,v)::putD pl (.int x) d).all _=af;split
   ·rw[gi,bg];exact h
   ·rw[gi,bg];exact⟨h.1,ih h.2⟩
 have h0:=h y;unfold o6 at h0 ⊢;exact key pl h0
theorem RB(x:ag)(d:D):∀pl:aa (D×D),(putD pl (.int x) d).length<=pl.length+1
 |[]=>ba _
 | (k,v)::pl=>by
  show(if eqD k (.int x) then (k,d)::pl else (k,v)::putD pl (.int x) d).length<=_;have:=RB x d pl;split<;>simp only[ck]<;>lia
theorem Pl.put{pl:aa (D×D)}{R:aa ag}(h:Pl pl R)(x i:ag):Pl (putD pl (.int x) (.int i)) (R++[x]) where
 at_ y hy:=by
  rw[oV];by_cases e:x=y
  ·exact⟨i,aq e⟩
  ·rw[av e];refine h.at_ y ?_;rcases hy with hy|hy
   ·exact .inl hy
   ·rcases cS.mp hy with hy|hy
    ·exact .inr hy
    ·exact bd (eI.mp hy).symm e
 no y hy:=by
  rw[oV,av λe=>hy (.inr (by rw[e];simp))];exact h.no y λz=>hy (z.imp id λz=>eM _ z)
 fit:=aBs h.fit
 len:=by have:=RB x (.int i) pl;have:=h.len;rw[cw,jh];lia
theorem Pl.lE{pl:aa (D×D)}{R:aa ag}(h:Pl pl R)(x:ag):b7 .lE (.int x) (.dct pl)=.ok (.bl (!ϒ (x=0\/x∈R))):=by
 show(if o6 pl (.int x) then τ (π (!(bG pl (.int x)).isSome)) else .bad)=_;rw[h.fit,aq rfl];by_cases e:x=0\/x∈R
 ·obtain⟨i,hi⟩:=h.at_ x e;rw[hi,cu e];rfl
 ·rw[h.no x e,c6 e];rfl
theorem Pl.get{pl:aa (D×D)}{R:aa ag}(h:Pl pl R){x:ag}(hx:x=0\/x∈R):∃i:ag,getD (.dct pl) (.int x)=.ok (.int i):=by
 obtain⟨i,hi⟩:=h.at_ x hx;refine⟨i,?_⟩;show(if keyOk (.int x) then ι (bG pl (.int x)) else .bad)=_;rw[hi];rfl
theorem pl0(s:ag):Pl (putD [(.int 0,.int 0)] (.int s) (.int 1)) [s]:=by
 have h0:Pl [(.int 0,.int 0)] []:=⟨λx hx=>⟨0,by
  have e:x=0:=hx.resolve_right (by simp);subst e;rfl⟩,λx hx=>by
  show(if eqD (.int 0) (.int x) then _ else _)=_;rw[dX,c6 λe=>hx (.inl e.symm)];rfl,λx=>rfl,ba _⟩
 exact h0.put s 1
noncomputable def gf(ys:aa Pt):aa ag:=(ys.map (·.1)).filter λz=>ϒ (z≠0)
theorem aI2(ys:aa Pt)(a:Pt):gf (ys++[a])=gf ys++if a.1=0 then [] else [a.1]:=by
 unfold gf;rw[c5,List.filter_append];by_cases h:a.1=0<;>simp[h]
theorem aLh(ys:aa Pt):(gf ys).length<=ys.length:=by
 unfold gf;exact dn (vk ..) (by simp)
def wib:FS:=(bI (sIf (bTB (b2 (b7 .lE) gP eZ)) (bI (mY 4 gP) (wI 5 gP (aN dY (aD eO aV)))) jA) (bI (mY 9 (b2 getD eZ gP)) (mY 9 lN)))
def ws(nk dk:aa (D×D))(s:ag)(best:D)(R:aa ag)(pl:aa (D×D))(rows:aa D)(lv:ap)(n x9 x10 x11:D):aa D:=[.dct nk,.dct dk,.int s,best,.lst (R.map δ),.dct pl,.lst rows,.bl lv,n,x9,x10,x11]
theorem aI3{nk dk:aa (D×D)}{s:ag}{best:D}{R:aa ag}{pl:aa (D×D)}{rows:aa D}{lv:ap}{n:D}{nm:Str}{x10 x11:D}(E:aa Pt)(hE:E.length<=100)(hR:R.length<=1000)(hp:Pl pl R):∃pl' l y10 y11,Pl pl' (R++news R (gf E))/\
  mZ (tgN [10,11]) wib (E.map enP) (ws nk dk s best R pl rows lv n (.lst (gW nm [])) x10 x11)=.ok (.nx (ws nk dk s best (R++news R (gf E)) pl' rows lv n (.lst (gW nm l)) y10 y11)):=by
 obtain⟨ρ,h,pl',l,y10,y11,p',_,rfl⟩:=cY (t:=tgN [10,11]) (body:=wib) (d:=enP) (I:=λys ρ=>∃pl' l y10 y11,Pl pl' (R++news R (gf ys))/\l.length<=2*ys.length/\ρ=ws nk dk s best (R++news R (gf ys)) pl' rows lv n (.lst (gW nm l)) y10 y11) E (λys a zs ρ e ⟨pl',l,y10,y11,p',hl,h⟩=>by
  subst h;have hyl:ys.length<=100:=by rw[e] at hE;simp at hE;lia
  have hn:=vV (gf ys) R;have hg:=aLh ys;have hRl:(R++news R (gf ys)).length<=1200:=by rw[cw];lia
  have hsn:R++news R (gf (ys++[a]))=(R++news R (gf ys))++if a.1=0\/a.1∈R++news R (gf ys) then [] else [a.1]:=by
   rw[aI2];by_cases h0:a.1=0
   ·rw[aq h0,f_,aq (.inl h0),f_]
   ·rw[av h0,tD,dg];by_cases h1:a.1∈R++news R (gf ys)
    ·rw[aq h1,aq (.inr h1)]
    ·rw[av h1,av λz=>z.elim h0 h1]
  generalize hRR:R++news R (gf ys)=R' at *;have mid:∃pl2,Pl pl2 (R++news R (gf (ys++[a])))/\(a.1=0\/a.1∈R++news R (gf (ys++[a])))/\(sIf (bTB (b2 (b7 .lE) gP eZ)) (bI (mY 4 gP) (wI 5 gP (aN dY (aD eO aV)))) jA) (ws nk dk s best R' pl' rows lv n (.lst (gW nm l)) (.int a.1) (.int a.2))=.ok (.nx (ws nk dk s best (R++news R (gf (ys++[a]))) pl2 rows lv n (.lst (gW nm l)) (.int a.1) (.int a.2))):=by
   rw[hsn];by_cases h:a.1=0\/a.1∈R'
   ·rw[aq h,f_];exact⟨pl',p',h,oG (dC (aM (x:=.int a.1) rfl rfl ((p'.lE a.1).trans (by rw[cu h];rfl)))) rfl⟩
   ·rw[av h];have pl3:=p'.len;refine⟨_,p'.put a.1 ((R'++[a.1]).length:ah),.inr (by simp),HN (dC (aM (x:=.int a.1) rfl rfl ((p'.lE a.1).trans (by rw[c6 h];rfl)))) ?_⟩;refine aL (ρ':=ws nk dk s best (R'++[a.1]) pl' rows lv n (.lst (gW nm l)) (.int a.1) (.int a.2)) ((jT (i:=4) (xs:=R'.map δ) (d:=.int a.1) rfl rfl (by rw[aI,bA];lia) rfl).trans (by rw[show R'.map δ++[.int a.1]=(R'++[a.1]).map δ by rw[c5];rfl];rfl)) ?_;exact sG (i:=5) (kvs:=pl') (k:=.int a.1) (d:=.int ((R'++[a.1]).length:ah)) (aK (xs:=[.lst ((R'++[a.1]).map δ)]) (aC rfl rfl) (by rw[jU,aI])) rfl rfl (by rw[bA];lia) (p'.fit _) rfl
  obtain⟨pl2,q1,q2,q3⟩:=mid;obtain⟨i,hi⟩:=q1.get q2;generalize R++news R (gf (ys++[a]))=R2 at *;refine⟨ws nk dk s best R' pl' rows lv n (.lst (gW nm l)) (.int a.1) (.int a.2),ws nk dk s best R2 pl2 rows lv n (.lst (gW nm (l++[i,a.2]))) (.int a.1) (.int a.2),rfl,?_,pl2,_,_,_,q1,by simp only[cw,ck,eT];lia,rfl⟩;refine aL q3 ?_;have e1:∀l:aa ag,∀j:ag,gW nm l++[.int j]=gW nm (l++[j]):=λl j=>by unfold gW;rw[c5];rfl
  have e2:∀l:aa ag,(gW nm l).length=l.length+1:=λl=>by simp[gW]
  refine aL (ρ':=ws nk dk s best R2 pl2 rows lv n (.lst (gW nm (l++[i]))) (.int a.1) (.int a.2)) ((jT (i:=9) (xs:=gW nm l) (d:=.int i) (aM rfl rfl hi) rfl (by rw[e2,bA];lia) rfl).trans (by rw[e1];rfl)) ?_;refine(jT (i:=9) (xs:=gW nm (l++[i])) (d:=.int a.2) rfl rfl (by rw[e2,bA,cw,jh];lia) rfl).trans ?_;rw[e1,dg];rfl) (ρ:=ws nk dk s best R pl rows lv n (.lst (gW nm [])) x10 x11) ⟨pl,[],x10,x11,by simpa[gf,news] using hp,by simp,by simp[gf,news]⟩
 exact⟨pl',l,y10,y11,p',h⟩
theorem aLi(n j:ah)(h:j<n):ixD n (j:ag)=ae j:=by
 unfold ixD;rw[aq (by lia),aq (by lia)];rfl
theorem aBt(xs:aa D)(j:ah)(h:j<xs.length):getD (.scr xs) (.int (j:ag))=.ok xs[j]:=by
 show ι ((ixD xs.length (j:ag)).bind λj=>xs[j]?)=_;rw[aLi _ _ h];show ι (xs[j]?)=_;rw[dz h];rfl
theorem T_(xs:aa D)(j:ah)(h:j<xs.length):getD (.lst xs) (.int (j:ag))=.ok xs[j]:=aBt xs j h
theorem iR{i:ah}{ρ:aa D}{d:D}(h:ρ.getD i .uD=d)(hd:d≠.uD):jZ i ρ=.ok d:=by
 unfold jZ;rw[h];cases d<;>first|rfl|exact bd rfl hd
theorem aLj{c:FT}{body:FS}{n:ah}{ρ:aa D}{d:D}(h1:c ρ=.ok af)(h2:body ρ=.ok (.rt d)):HQ c body (n+1) ρ=.ok (.rt d):=by
 rw[HQ,h1,ε,aq rfl,h2];rfl
theorem aI4{f g:FS}{ρ:aa D}{d:D}(h1:f ρ=.ok (.rt d)):uX f g ρ=.ok (.rt d):=by
 unfold uX;rw[h1];rfl
theorem aBu{f:FE}{ρ xs:aa D}(h:f ρ=.ok (.scr xs))(hp:θ xs=af):aF0 f ρ=.ok (xs,af):=by
 unfold aF0;rw[h,ε];show(if θ xs then _ else _)=_;rw[hp,aq rfl]
theorem aBv{i:ah}{g:FS}{ρ xs:aa D}{d:D}(h1:ρ.getD i .uD=.lst xs)(h2:g (ρ.set i (.scr xs))=.ok (.rt d)):KD i g ρ=.ok (.rt d):=by
 unfold KD;rw[h1];show(do let r <- g (ρ.set i (.scr xs));_)=_;rw[h2];rfl
theorem uC:∀{rows:aa D},jH rows->θ rows=af
 |[],_=>rfl
 |d::rows,h=>by
  obtain⟨s,l,rfl⟩:=h d (bu ..);rw[θ,uC λd hd=>h d (bq _ hd),i5];exact xY s l
def aLk:FE:=b2 getD (b2 getD dU dF) (aN dY (aD lM aV))
def aM1:FS:=(sIf (R1 (bTr mH) (bTB (b2 (b7 .ne) JL aLk))) (bI (sIf (bTB (b2 (b7 (.ord .gt)) JL aLk)) (jL (bC .non) af) jA) (b8 ai 7 (bC (.bl ai)) af)) jA)
def aE5:FT:=(bTB (b2 (b7 (.ord .lt)) (aN dY (aD lM aV)) (aN dY (aD eO aV))))
def WW:FS:=(bI (b8 ai 8 (b2 getD eO (aN dY (aD lM aV))) ai) (aHa 9 (yE (aD (b2 getD cA rR) aV)) (uX (wJ (aF0 (b2 getD eE rR)) (tgN [10,11]) wib) (uX aM1 (DY 9 (mY 6 JL))))))
noncomputable def wkD(rows:aa D)(R:aa ag):D:=.tup [.scr rows,.scr (R.map δ)]
def zP(best:D)(m:ah):Prop:=∃rb ob,best=.tup [.scr rb,ob]/\jH rb/\m<=rb.length
section
variable {nk dk:aa (D×D)} {s:ag} {best:D} {R:aa ag} {pl:aa (D×D)} {rows:aa D} {lv:ap} {n:D} {nm:Str} {l:aa ag} {x10 x11:D}
theorem aLl{i:ah}{ρ:aa D}{b:ap}(h:ρ.getD i .uD=.bl b):bTr (jZ i) ρ=.ok b:=by
 unfold bTr jZ;rw[h];rfl
theorem aLm(hb:lv=af->zP best (rows.length+1)):(∃lv',(lv'=af->lv=af)/\aM1 (ws nk dk s best R pl rows lv n (.lst (gW nm l)) x10 x11)=.ok (.nx (ws nk dk s best R pl rows lv' n (.lst (gW nm l)) x10 x11)))\/(lv=af/\aM1 (ws nk dk s best R pl rows lv n (.lst (gW nm l)) x10 x11)=.ok (.rt .non)):=by
 cases lv with
 |false=>exact .inl ⟨ai,id,oG (aD8 (aLl rfl)) rfl⟩
 |true=>
  obtain⟨rb,ob,rfl,h1,h2⟩:=hb rfl;have hl:rows.length<rb.length:=by lia
  obtain⟨s',l',e⟩:=h1 rb[rows.length] (gN hl);have hg:aLk (ws nk dk s (.tup [.scr rb,ob]) R pl rows af n (.lst (gW nm l)) x10 x11)=.ok (.scr (gW s' l')):=by
   refine aM (x:=.scr rb) (aM rfl rfl rfl) (aK (xs:=[.lst rows]) (aC rfl rfl) (jU rows)) ?_;rw[aBt _ _ hl,e]
  obtain⟨k1,e1⟩:=aLf nm s' l l';obtain⟨k2,e2⟩:=aLg nm s' l l';have c1:(R1 (bTr mH) (bTB (b2 (b7 .ne) JL aLk))) (ws nk dk s (.tup [.scr rb,ob]) R pl rows af n (.lst (gW nm l)) x10 x11)=.ok k1:=aGq (aLl rfl) (dC (aM rfl hg e1));have c2:(bTB (b2 (b7 (.ord .gt)) JL aLk)) (ws nk dk s (.tup [.scr rb,ob]) R pl rows af n (.lst (gW nm l)) x10 x11)=.ok k2:=dC (aM rfl hg e2);cases k1 with
  |false=>exact .inl ⟨af,id,oG c1 rfl⟩
  |true=>
   cases k2 with
   |true=>exact .inr ⟨rfl,HN c1 (MN (HN c2 rfl))⟩
   |false=>exact .inl ⟨ai,λ_=>rfl,HN c1 (aL (oG c2 rfl) (bN rfl))⟩
theorem HF{x9:D}(b:ap)(h:b=ϒ (rows.length<R.length)):aE5 (ws nk dk s best R pl rows lv n x9 x10 x11)=.ok b:=by
 have hc:b7 (.ord .lt) (.int rows.length) (.int R.length)=.ok (.bl (ϒ ((rows.length:ag)<R.length))):=rfl;refine dC (aM (aK (xs:=[.lst rows]) (aC rfl rfl) (jU rows)) (aK (xs:=[.lst (R.map δ)]) (aC rfl rfl) (by rw[jU,aI])) (hc.trans ?_));rw[h]
 congr 2
 exact vn.mpr (by lia)
end
section
variable {nk dk:aa (D×D)} {s:ag} {best:D} {M:aa ag} {E:ag->aa Pt}
structure Gd(nk dk:aa (D×D))(M:aa ag)(E:ag->aa Pt):Prop where
 cl:∀x∈M,∀y∈gf (E x),y∈M
 ml:M.length<=100
 el:∀x,(E x).length<=100
 ds:∀x∈M,bG dk (.int x)=ae (.scr ((E x).map enP))
 ns:∀x∈M,∃nm:Str,bG nk (.int x)=ae (.str nm)
theorem aLn(g:Gd nk dk M E){R:aa ag}{pl:aa (D×D)}{rows:aa D}{lv:ap}{x8 x9 x10 x11:D}(hn:rows.length<R.length)(hM:∀x∈R,x∈M)(hR:R.length<=100)(hp:Pl pl R)(hb:lv=af->zP best (rows.length+1)) :
  (∃pl' lv' nm l y8 y9 y10 y11,Pl pl' (R++news R (gf (E R[rows.length])))/\(lv'=af->lv=af)/\WW (ws nk dk s best R pl rows lv x8 x9 x10 x11)=.ok (.nx (ws nk dk s best (R++news R (gf (E R[rows.length]))) pl' (rows++[.scr (gW nm l)]) lv' y8 y9 y10 y11)))\/(lv=af/\WW (ws nk dk s best R pl rows lv x8 x9 x10 x11)=.ok (.rt .non)):=by
 have hc:R[rows.length]∈M:=hM _ (gN hn);generalize hcc:R[rows.length]=c at hc ⊢;obtain⟨nm,hnm⟩:=g.ns c hc;have hds:=g.ds c hc;obtain⟨pl',l,y10,y11,p',e1⟩:=aI3 (nk:=nk) (dk:=dk) (s:=s) (best:=best) (rows:=rows) (lv:=lv) (n:=.int c) (nm:=nm) (x10:=x10) (x11:=x11) (E c) (g.el c) (by lia) hp;have g8:(b2 getD eO (aN dY (aD lM aV))) (ws nk dk s best R pl rows lv x8 x9 x10 x11)=.ok (.int c):=by
  refine aM (x:=.lst (R.map δ)) rfl (aK (xs:=[.lst rows]) (aC rfl rfl) (jU rows)) ?_;rw[T_ _ _ (by rw[aI];exact hn),vo,hcc]
 have g9:(yE (aD (b2 getD cA rR) aV)) (ws nk dk s best R pl rows lv (.int c) x9 x10 x11)=.ok (.lst (gW nm [])):=by
  have:(aD (b2 getD cA rR) aV) (ws nk dk s best R pl rows lv (.int c) x9 x10 x11)=.ok [.str nm]:=by
   refine aC (aM rfl rfl ?_) rfl;show(if keyOk (.int c) then ι (bG nk (.int c)) else .bad)=_;rw[hnm];rfl
  unfold yE;rw[this,ε];rfl
 have gE:(b2 getD eE rR) (ws nk dk s best R pl rows lv (.int c) (.lst (gW nm [])) x10 x11)=.ok (.scr ((E c).map enP)):=by
  refine aM rfl rfl ?_;show(if keyOk (.int c) then ι (bG dk (.int c)) else .bad)=_;rw[hds];rfl
 have pre:∀r,(uX aM1 (DY 9 (mY 6 JL))) (ws nk dk s best (R++news R (gf (E c))) pl' rows lv (.int c) (.lst (gW nm l)) y10 y11)=r->WW (ws nk dk s best R pl rows lv x8 x9 x10 x11)=r:=λr h=>by
  refine aL (ρ':=ws nk dk s best R pl rows lv (.int c) x9 x10 x11) (tY (i:=8) g8 rfl) ?_;refine aFb (i:=9) g9 (xY nm []) ?_;exact Q_ (mK (aBu gE (gJ _)) e1) h
 rcases aLm (nk:=nk) (dk:=dk) (s:=s) (R:=R++news R (gf (E c))) (pl:=pl') (n:=.int c) (nm:=nm) (l:=l) (x10:=y10) (x11:=y11) hb with ⟨lv',h1,h2⟩|⟨h1,h2⟩
 ·refine .inl ⟨pl',lv',nm,l,.int c,.scr (gW nm l),y10,y11,p',h1,pre _ (Q_ h2 ?_)⟩;refine aBq (i:=9) (xs:=gW nm l) rfl ?_;exact jT (i:=6) (xs:=rows) (d:=.scr (gW nm l)) rfl rfl (by rw[bA];lia) (xY nm l)
 ·exact .inr ⟨h1,pre _ (aI4 h2)⟩
theorem aLo(g:Gd nk dk M E)(hs:s∈M):∀(m:ah)(R:aa ag)(pl:aa (D×D))(rows:aa D)(lv:ap)(x8 x9 x10 x11:D),Bv (λx=>gf (E x)) s R rows.length->Pl pl R->jH rows->rows.length<=R.length->(lv=af->zP best M.length)->M.length<=m+rows.length->
  (lv=af/\∀fuel,m<fuel->HQ aE5 WW fuel (ws nk dk s best R pl rows lv x8 x9 x10 x11)=.ok (.rt .non))\/∃R' pl' rows' lv' y8 y9 y10 y11,Bv (λx=>gf (E x)) s R' rows'.length/\rows'.length=R'.length/\jH rows'/\∀fuel,m<fuel->HQ aE5 WW fuel (ws nk dk s best R pl rows lv x8 x9 x10 x11)=.ok (.nx (ws nk dk s best R' pl' rows' lv' y8 y9 y10 y11)):=by
 intro m;induction m with
 |zero=>
  intro R pl rows lv x8 x9 x10 x11 bv hp ho hl hb hm;have:=bv.len hs g.cl;refine .inr ⟨R,pl,rows,lv,x8,x9,x10,x11,bv,by lia,ho,λfuel hfu=>?_⟩;obtain⟨k,rfl⟩:∃k,fuel=k+1:=⟨fuel-1,by lia⟩
  exact rD (HF ai (c6 (by lia)).symm)
 |succ m ih=>
  intro R pl rows lv x8 x9 x10 x11 bv hp ho hl hb hm;have hR:=bv.len hs g.cl;have hM:=g.ml;by_cases hn:rows.length<R.length
  ·have hc:=HF (nk:=nk) (dk:=dk) (s:=s) (best:=best) (pl:=pl) (lv:=lv) (n:=x8) (x9:=x9) (x10:=x10) (x11:=x11) af (cu hn).symm;rcases aLn (nk:=nk) (dk:=dk) (s:=s) (best:=best) (x8:=x8) (x9:=x9) (x10:=x10) (x11:=x11) g hn (λx hx=>(bv.rc x hx).mem hs g.cl) (by lia) hp (λz=>by
    obtain⟨rb,ob,h1,h2,h3⟩:=hb z;exact⟨rb,ob,h1,h2,by lia⟩) with ⟨pl',lv',nm,l,y8,y9,y10,y11,p',h1,h2⟩|⟨h1,h2⟩
   ·have e1:(rows++[D.scr (gW nm l)]).length=rows.length+1:=by simp
    have ho':jH (rows++[D.scr (gW nm l)]):=λd hd=>by
     rcases cS.mp hd with hd|hd
     ·exact ho d hd
     ·rw[eI.mp hd];exact⟨nm,l,rfl⟩
    rcases ih (R++news R (gf (E R[rows.length]))) pl' (rows++[.scr (gW nm l)]) lv' y8 y9 y10 y11 (by rw[e1];exact bv.step hn) p' ho' (by rw[e1,cw];lia) (λz=>hb (h1 z)) (by lia) with ⟨i1,i2⟩|⟨R',pl'',rows',lv'',z8,z9,z10,z11,i1,i2,i3,i4⟩
    ·refine .inl ⟨h1 i1,λfuel hfu=>?_⟩;obtain⟨k,rfl⟩:∃k,fuel=k+1:=⟨fuel-1,by lia⟩
     exact tB hc h2 (i2 k (by lia))
    ·refine .inr ⟨R',pl'',rows',lv'',z8,z9,z10,z11,i1,i2,i3,λfuel hfu=>?_⟩;obtain⟨k,rfl⟩:∃k,fuel=k+1:=⟨fuel-1,by lia⟩
     exact tB hc h2 (i4 k (by lia))
   ·refine .inl ⟨h1,λfuel hfu=>?_⟩;obtain⟨k,rfl⟩:∃k,fuel=k+1:=⟨fuel-1,by lia⟩
    exact aLj hc h2
  ·refine .inr ⟨R,pl,rows,lv,x8,x9,x10,x11,bv,by lia,ho,λfuel hfu=>?_⟩;obtain⟨k,rfl⟩:∃k,fuel=k+1:=⟨fuel-1,by lia⟩
   exact rD (HF ai (c6 hn).symm)
def IsW(p:aa ag)(x:aa D×aa ag):Prop:=x.2.Nodup/\(∀y,y∈x.2↔y∈p)/\x.1.length=x.2.length/\jH x.1
theorem aI5(g:Gd nk dk M E)(hs:s∈M)(hrc:∀x,Rc (λx=>gf (E x)) s x↔x∈M)(hb:best=.non\/zP best M.length):(best≠.non/\cF 4 dW [.dct nk,.dct dk,.int s,best]=.ok .non)\/∃x,IsW M x/\cF 4 dW [.dct nk,.dct dk,.int s,best]=.ok (wkD x.1 x.2):=by
 have hlv:∃lv,(lv=af->zP best M.length/\best≠.non)/\b7 .notN best .non=.ok (.bl lv):=by
  rcases hb with rfl|⟨rb,ob,rfl,h⟩
  ·exact⟨ai,λz=>(by cases z),rfl⟩
  ·exact⟨af,λ_=>⟨⟨rb,ob,rfl,h⟩,λz=>by cases z⟩,rfl⟩
 obtain⟨lv,h1,h2⟩:=hlv;have hM:=g.ml;have pre:∀d,(bI (aGu aE5 WW) (KD 6 (KD 4 (jL (fQ (aD lM (aD eO aV))) ai)))) (ws nk dk s best [s] (putD [(.int 0,.int 0)] (.int s) (.int 1)) [] lv .uD .uD .uD .uD)=.ok (.rt d)->cF 4 dW [.dct nk,.dct dk,.int s,best]=.ok d:=λd h=>by
  refine(cR rfl).trans (call_v ?_);refine aL (ρ':=[.dct nk,.dct dk,.int s,best,.lst [.int s],.uD,.uD,.uD,.uD,.uD,.uD,.uD]) (cU (i:=4) rfl rfl) ?_;refine aL (ρ':=[.dct nk,.dct dk,.int s,best,.lst [.int s],.dct (putD [(.int 0,.int 0)] (.int s) (.int 1)),.uD,.uD,.uD,.uD,.uD,.uD]) (cU (i:=5) rfl ?_) ?_
  ·show θ ((putD [(.int 0,.int 0)] (.int s) (.int 1)).map (·.2))=af;show θ ((if eqD (.int 0) (.int s) then [(δ 0,δ 1)] else [(δ 0,δ 0),(δ s,δ 1)]).map (·.2))=af;split<;>rfl
  refine aL (ρ':=[.dct nk,.dct dk,.int s,best,.lst [.int s],.dct (putD [(.int 0,.int 0)] (.int s) (.int 1)),.lst [],.uD,.uD,.uD,.uD,.uD]) (cU (i:=6) rfl rfl) ?_;refine aL (ρ':=ws nk dk s best [s] (putD [(.int 0,.int 0)] (.int s) (.int 1)) [] lv .uD .uD .uD .uD) (bN (i:=7) (aM (x:=best) (iR rfl ?_) rfl h2)) h;rcases hb with rfl|⟨rb,ob,rfl,_⟩<;>(intro z;cases z)
 rcases aLo (best:=best) g hs M.length [s] _ [] lv .uD .uD .uD .uD (bv0 _ s) (pl0 s) (λd hd=>by cases hd) (by simp) (λz=>(h1 z).1) (by simp) with ⟨i1,i2⟩|⟨R',pl',rows',lv',y8,y9,y10,y11,i1,i2,i3,i4⟩
 ·exact .inl ⟨(h1 i1).2,pre _ (MN (i2 1000 (by lia)))⟩
 ·refine .inr ⟨(rows',R'),⟨i1.nd,λy=>(i1.fin (by lia)).trans (hrc y),i2,i3⟩,pre _ (aL (i4 1000 (by lia)) ?_)⟩;refine aBv (i:=6) (xs:=rows') rfl (aBv (i:=4) (xs:=R'.map δ) rfl ?_);refine gU (dM (xs:=[.scr rows',.scr (R'.map δ)]) (aC rfl (aC rfl rfl)) (by rw[bA];simp)) ?_;show(ai||(θ rows'&&(θ (R'.map δ)&&af)))=af;rw[uC i3,d8];rfl
end
theorem UG{α:Type}(f:α->α->α)(h:∀a b,f a b=a\/f a b=b):∀(xs:aa α)(x:α),xs.foldl f x∈x::xs
 |[],x=>by simp
 |y::xs,x=>by
  rw[li];have:=UG f h xs (f x y);rcases h x y with e|e
  ·rw[e] at this ⊢;rcases bm.mp this with z|z
   ·rw[z];simp
   ·exact bq _ (bq _ z)
  ·rw[e] at this ⊢;exact bq _ this
theorem aI6(P:aa Pt)(h:P≠[]):∃q∈P,cH .lt [.lst (P.map enP)]=.ok (enP q):=by
 cases P with
 |nil=>exact bd rfl h
 |cons p P=>
  have hall:(((p::P).map enP).all λa=>a.fD aR&&((p::P).map enP).all λb=>(gK .lt a b).isSome)=af:=by
   refine dh.mpr λa ha=>?_
   obtain⟨q,_,rfl⟩:=b6.mp ha;rw[show(enP q).fD aR=af from rfl,nh];refine dh.mpr λb hb=>?_
   obtain⟨q',_,rfl⟩:=b6.mp hb;rw[sW];rfl
  have e:cH .lt [.lst ((p::P).map enP)]=.ok ((P.map enP).foldl (λm y=>if (gK .lt y m).getD ai then y else m) (enP p)):=by
   show(if (((p::P).map enP).all λa=>a.fD aR&&((p::P).map enP).all λb=>(gK .lt a b).isSome) then τ _ else .bad)=_;rw[hall,aq rfl]
  have hm:=UG (λ(m y:D)=>if (gK .lt y m).getD ai then y else m) (λa b=>by split<;>simp) (P.map enP) (enP p);rw[show enP p::P.map enP=(p::P).map enP from rfl] at hm;obtain⟨q,h1,h2⟩:=b6.mp hm;exact⟨q,h1,by rw[e,h2]⟩
def stb:FS:=(aKg 2 (d7 4 (aF0 (b2 getD cA dU)) x_ (bTB (b2 (b7 .eq) (b2 getD eO dF) dF)) (fQ (aD (b2 getD eO e_) (aD dU aV))) ai))
theorem aLp{i:ah}{f:FE}{ρ xs ys:aa D}(h1:f ρ=.ok (.lst ys))(h2:ρ.getD i .uD=.lst xs)(h3:xs.length+ys.length<=lim)(h4:θ ys=af):aKg i f ρ=.ok (.nx (ρ.set i (.lst (xs++ys)))):=by
 unfold aKg;rw[h1,ε,h2];show(if ϒ (xs.length+ys.length<=lim)&&θ ys then _ else _)=_;rw[cu h3,h4];rfl
section
variable {nk dk:aa (D×D)} {M:aa ag} {E:ag->aa Pt}
theorem aI7(g:Gd nk dk M E){pd:D}{A:aa Pt}{c:ag}(hc:c∈M)(hA:A.length<=10000):∃A':aa Pt,(∀q∈A',q∈A\/q.2=c)/\A'.length<=A.length+100/\stb [.dct dk,pd,.lst (A.map enP),.int c]=.ok (.nx [.dct dk,pd,.lst (A'.map enP),.int c]):=by
 have hds:=g.ds c hc;have hel:=g.el c;have gE:(b2 getD cA dU) [.dct dk,pd,.lst (A.map enP),.int c]=.ok (.scr ((E c).map enP)):=by
  refine aM rfl rfl ?_;show(if keyOk (.int c) then ι (bG dk (.int c)) else .bad)=_;rw[hds];rfl
 have hcomp:=lA (rT 4 x_ (bTB (b2 (b7 .eq) (b2 getD eO dF) dF)) (fQ (aD (b2 getD eO e_) (aD dU aV))) ai [.dct dk,pd,.lst (A.map enP),.int c]) enP (λf=>ϒ (f.1=0)) (λf=>enP (f.2,c)) (λacc f=>by
  refine k_ rfl (dC (aM (x:=.int f.1) (aM rfl rfl rfl) rfl ?_)) λ_=>⟨dM (xs:=[.int f.2,.int c]) (aC (aM rfl rfl rfl) (aC rfl rfl)) (by rw[bA];simp),rfl⟩
  show τ (π (eqD (.int f.1) (.int 0)))=_;rw[dX]) (E c) []
 have hl:((E c).filter λf=>ϒ (f.1=0)).length<=100:=dn (vk ..) hel;refine⟨A++((E c).filter λf=>ϒ (f.1=0)).map λf=>(f.2,c),λq hq=>?_,by rw[cw,aI];lia,?_⟩
 ·rcases cS.mp hq with hq|hq
  ·exact .inl hq
  ·obtain⟨f,_,rfl⟩:=b6.mp hq;exact .inr rfl
 ·have hm:(((E c).filter λf=>ϒ (f.1=0)).map λf=>enP (f.2,c))=(((E c).filter λf=>ϒ (f.1=0)).map λf=>(f.2,c)).map enP:=by rw[df];rfl
  refine(aLp (i:=2) (xs:=A.map enP) (iM (aBu gE (gJ _)) (by rw[aI,bA];lia) hcomp) rfl ?_ ?_).trans ?_
  ·rw[eW,aI,aI,bA];lia
  ·rw[eW,hm];exact gJ _
  ·rw[eW,hm,c5];rfl
theorem aBw(g:Gd nk dk M E)(hne:M≠[]):∃S:aa ag,S≠[]/\(∀x∈S,x∈M)/\cF 2 jG [.dct dk,pS M]=.ok (pS S):=by
 have hM:=g.ml;obtain⟨ρ,e1,A,x3,h1,h2,rfl⟩:=cY (t:=tg1 3) (body:=stb) (d:=δ) (I:=λys ρ=>∃(A:aa Pt)(x3:D),(∀q∈A,q.2∈M)/\A.length<=100*ys.length/\ρ=[.dct dk,pS M,.lst (A.map enP),x3]) M (λys c zs ρ e ⟨A,x3,h1,h2,h⟩=>by
  subst h;have hyl:ys.length<=100:=by rw[e] at hM;simp at hM;lia
  have hc:c∈M:=by rw[e];simp
  obtain⟨A',i1,i2,i3⟩:=aI7 (pd:=pS M) (A:=A) g hc (by lia);refine⟨[.dct dk,pS M,.lst (A.map enP),.int c],_,rfl,i3,A',.int c,λq hq=>?_,by rw[cw,jh];lia,rfl⟩;rcases i1 q hq with z|z
  ·exact h1 q z
  ·rw[z];exact hc) (ρ:=[.dct dk,pS M,.lst [],.uD]) ⟨[],.uD,by simp,by simp,rfl⟩
 have pre:∀d,(bI (sIf (bTr fM) (jL (bFz (yE (aD (b2 getD (aN (cH .lt) (aD fM aV)) e_) aV))) af) jA) (jL eE ai)) [.dct dk,pS M,.lst (A.map enP),x3]=.ok (.rt d)->cF 2 jG [.dct dk,pS M]=.ok d:=λd h=>by
  refine(cR rfl).trans (call_v ?_);refine aL (ρ':=[.dct dk,pS M,.lst [],.uD]) (cU (i:=2) rfl rfl) ?_;exact aL (aBl (i:=1) (xs:=M.map δ) rfl e1) h
 by_cases hA:A=[]
 ·subst hA;refine⟨M,hne,λx h=>h,pre _ (aL (ρ':=[.dct dk,pS M,.lst [],x3]) (oG rfl rfl) (gU rfl ?_))⟩;show(ai||θ (M.map δ))=af;rw[d8];rfl
 ·obtain⟨q,hq,hm⟩:=aI6 A hA;have ht:(bTr fM) [.dct dk,pS M,.lst (A.map enP),x3]=.ok af:=by
   show τ (!(A.map enP).isEmpty)=_;cases A with
   |nil=>exact bd rfl hA
   |cons a A=>rfl
  refine⟨[q.2],by simp,λx hx=>by rw[eI.mp hx];exact h1 q hq,pre _ (MN (HN ht (gU (aLa (xs:=[.int q.2]) ?_ rfl) rfl)))⟩;have:(aD (b2 getD (aN (cH .lt) (aD fM aV)) e_) aV) [.dct dk,pS M,.lst (A.map enP),x3]=.ok [.int q.2]:=aC (aM (x:=enP q) (aK (xs:=[.lst (A.map enP)]) (aC rfl rfl) hm) rfl rfl) rfl;unfold yE;rw[this,ε];rfl
def fwb:FS:=(bI (b8 ai 5 (aN (cF 4 dW) (aD cA (aD eE (aD eO (aD dU aV))))) af) (sIf (bTB (b2 (b7 .notN) eZ (bC .non))) (sAl 3 5) jA))
theorem aI8{p:aa ag}{x:aa D×aa ag}(h:IsW p x):(wkD x.1 x.2).pure=af:=by
 show(θ x.1&&(θ (x.2.map δ)&&af))=af;rw[uC h.2.2.2,d8];rfl
theorem rF{p q:aa ag}(h1:p.Nodup)(h2:q.Nodup)(h:∀y,y∈p↔y∈q):p.Perm q:=(List.perm_ext_iff_of_nodup h1 h2).mpr h
theorem aE6(g:Gd nk dk M E)(hne:M≠[])(hnd:M.Nodup)(hrc:∀s∈M,∀x,Rc (λx=>gf (E x)) s x↔x∈M):∃x,IsW M x/\cF 3 cD [.dct nk,.dct dk,pS M]=.ok (wkD x.1 x.2):=by
 obtain⟨S,s1,s2,s3⟩:=aBw g hne;obtain⟨ρ,e1,b,x4,x5,h1,rfl⟩:=cY (t:=tg1 4) (body:=fwb) (d:=δ) (I:=λys ρ=>∃b x4 x5,((ys=[]/\b=.non)\/∃x,IsW M x/\b=wkD x.1 x.2)/\ρ=[.dct nk,.dct dk,pS M,b,x4,x5]) S (λys c zs ρ e ⟨b,x4,x5,h1,h⟩=>by
  subst h;have hc:c∈M:=s2 c (by rw[e];simp);have hbb:b=.non\/zP b M.length:=by
   rcases h1 with ⟨_,z⟩|⟨x,hx,z⟩
   ·exact .inl z
   ·refine .inr ⟨x.1,.scr (x.2.map δ),z,hx.2.2.2,?_⟩;rw[hx.2.2.1,(rF hx.1 hnd hx.2.1).length_eq];exact ba _
  have hu:b≠.uD:=by
   rcases h1 with ⟨_,z⟩|⟨x,hx,z⟩<;>(rw[z];intro q;cases q)
  refine⟨[.dct nk,.dct dk,pS M,b,.int c,x5],?_⟩;have ha:∀d,cF 4 dW [.dct nk,.dct dk,.int c,b]=.ok d->(b8 ai 5 (aN (cF 4 dW) (aD cA (aD eE (aD eO (aD dU aV))))) af) [.dct nk,.dct dk,pS M,b,.int c,x5]=.ok (.nx [.dct nk,.dct dk,pS M,b,.int c,d]):=λd h=>bN (i:=5) (aK (xs:=[.dct nk,.dct dk,.int c,b]) (aC rfl (aC rfl (aC rfl (aC (iR rfl hu) rfl)))) h)
  rcases aI5 g hc (hrc c hc) hbb with ⟨i1,i2⟩|⟨x,i1,i2⟩
  ·refine⟨[.dct nk,.dct dk,pS M,b,.int c,.non],rfl,aL (ha _ i2) (oG rfl rfl),b,.int c,.non,?_,rfl⟩;exact .inr (h1.resolve_left λz=>i1 z.2)
  ·refine⟨[.dct nk,.dct dk,pS M,wkD x.1 x.2,.int c,wkD x.1 x.2],rfl,aL (ha _ i2) (HN rfl rfl),wkD x.1 x.2,.int c,_,.inr ⟨x,i1,rfl⟩,rfl⟩) (ρ:=[.dct nk,.dct dk,pS M,.non,.uD,.uD]) ⟨.non,.uD,.uD,.inl ⟨rfl,rfl⟩,rfl⟩
 obtain⟨x,hx,rfl⟩:=h1.resolve_left λz=>s1 z.1
 refine⟨x,hx,(cR rfl).trans (call_v ?_)⟩;refine aL (ρ':=[.dct nk,.dct dk,pS M,.non,.uD,.uD]) (bN (i:=3) rfl) ?_;refine aL (mK (aBu (xs:=S.map δ) (aK (xs:=[.dct dk,pS M]) (aC rfl (aC rfl rfl)) s3) (d8 S)) e1) ?_;refine gU (d:=wkD x.1 x.2) rfl ?_;rw[aI8 hx];rfl
end
theorem jJ{α:Type}(g:aa D->D->Res (aa D))(d y:α->D):∀(xs:aa α)(acc:aa D),(∀acc,∀a∈xs,g acc (d a)=.ok (acc++[y a]))->qR g acc (xs.map d)=.ok (acc++xs.map y)
 |[],acc,_=>by rw[iL,iL,f_];rfl
 |a::xs,acc,h=>by
  show(do let r <- g acc (d a);qR g r (xs.map d))=_;rw[h acc a (bu ..),ε,jJ g d y xs _ λacc b hb=>h acc b (bq _ hb)];simp
def wk2(x:aa D×aa ag):D:=wkD x.1 x.2
def unW:D->aa D×aa ag
 |.tup [.scr rows,.scr o]=>(rows,o.map unI)
 |_=>([],[])
theorem aLq(x:aa D×aa ag):unW (wk2 x)=x:=by
 show(x.1,(x.2.map δ).map unI)=x;rw[df];have:x.2.map (unI ∘ δ)=x.2:=by
  conv=>rhs;rw[<-gV x.2]
  exact e8 λt _=>rfl
 rw[this]
theorem rG:∀l:aa ag,D.eQ (l.map δ)=af
 |[]=>rfl
 |x::l=>by rw[br,D.eQ,rG l];rfl
theorem aBx(s:Str)(l:aa ag):(D.scr (gW s l)).plain=af:=by
 show(af&&D.eQ (l.map δ))=af;rw[rG];rfl
theorem zQ:∀{rows:aa D},jH rows->D.eQ rows=af
 |[],_=>rfl
 |d::rows,h=>by
  obtain⟨s,l,rfl⟩:=h d (bu ..);rw[D.eQ,aBx,zQ λd hd=>h d (bq _ hd)];rfl
theorem M5:∀{rows:aa D},jH rows->μ 10 rows=af
 |[],_=>rfl
 |d::rows,h=>by
  obtain⟨s,l,rfl⟩:=h d (bu ..);rw[μ,M5 λd hd=>h d (bq _ hd),i5];exact nU 9 s l
theorem M6:∀{a b:aa D},jH a->jH b->∃k,dG .lt a b=ae k
 |[],b,_,_=>⟨_,rfl⟩
 |x::a,[],_,_=>⟨_,rfl⟩
 |x::a,y::b,ha,hb=>by
  obtain⟨k,h⟩:=M6 (λd hd=>ha d (bq _ hd)) λd hd=>hb d (bq _ hd)
  obtain⟨s,l,rfl⟩:=ha x (bu ..);obtain⟨s',l',rfl⟩:=hb y (bu ..);show ∃k,(if eqD (.scr (gW s l)) (.scr (gW s' l')) then dG .lt a b else dG .lt (gW s l) (gW s' l'))=ae k;split
  ·exact⟨k,h⟩
  ·exact T9 .lt s s' l l'
theorem aLr{x y:aa D×aa ag}(hx:jH x.1)(hy:jH y.1):∃k,gK .lt (wk2 x) (wk2 y)=ae k:=by
 obtain⟨k1,h1⟩:=M6 hx hy;obtain⟨k2,h2⟩:=HD .lt x.2 y.2;show ∃k,(if eqD (.scr x.1) (.scr y.1) then (if eqD (.scr (x.2.map δ)) (.scr (y.2.map δ)) then dG .lt [] [] else dG .lt (x.2.map δ) (y.2.map δ)) else dG .lt x.1 y.1)=ae k;split
 ·split
  ·exact⟨_,rfl⟩
  ·exact⟨k2,h2⟩
 ·exact⟨k1,h1⟩
theorem HH{L:aa (aa D×aa ag)}(h:∀x∈L,jH x.1):bD (L.map wk2)=af:=by
 unfold bD;refine dh.mpr λd hd=>?_
 obtain⟨x,hx,rfl⟩:=b6.mp hd;have hk:dZ ((L.map wk2).headD .non)=6:=by
  cases L with
  |nil=>cases hx
  |cons u U=>rfl
 have h6:dZ (wk2 x)=6:=rfl;have hp:(wk2 x).plain=af:=by
  show(D.eQ x.1&&(D.eQ (x.2.map δ)&&af))=af;rw[zQ (h x hx),rG];rfl
 have hq:(wk2 x).fD aR=af:=by
  show(μ 10 x.1&&(μ 10 (x.2.map δ)&&af))=af;rw[M5 (h x hx),oU];rfl
 rw[hk,h6,hp,hq];refine dh.mpr λb hb=>?_
 obtain⟨y,hy,rfl⟩:=b6.mp hb;obtain⟨k,e⟩:=aLr (h x hx) (h y hy);rw[e];rfl
theorem aI9{i:ah}{f:FE}{ρ xs ys:aa D}(h1:f ρ=.ok (.scr ys))(h2:ρ.getD i .uD=.lst xs)(h3:xs.length+ys.length<=lim)(h4:θ ys=af):aAj i f ρ=.ok (.nx (ρ.set i (.lst (xs++ys)))):=by
 unfold aAj;rw[h1,ε,h2];show(if ϒ (xs.length+ys.length<=lim)&&θ ys then _ else _)=_;rw[cu h3,h4];rfl
noncomputable def EP:ah->aa ag->aa Pt
 |_,[]=>[]
 |m,o::O=>((m:ag),o)::EP (m+1) O
theorem aBy(m:ah):∀(k:ah)(O:aa ag),((O.map δ).zipIdx k).map (λp=>D.tup [.int ((m+p.2:ah):ag),p.1])=(EP (m+k) O).map enP
 |_,[]=>rfl
 |k,o::O=>by
  rw[br,xy,br,aBy m (k+1) O];rfl
theorem UJ(m:ah)(O:aa ag):CW m (O.map δ)=(EP m O).map enP:=aBy m 0 O
theorem aBz:∀(m:ah)(O:aa ag),(EP m O).map (·.2)=O
 |_,[]=>rfl
 |m,o::O=>by
  show o::(EP (m+1) O).map (·.2)=_;rw[aBz]
theorem aFc:∀(m:ah)(O:aa ag),(EP m O).map (·.1)=(cq O.length).map λ(k:ah)=>((m:ag)+k)
 |_,[]=>rfl
 |m,o::O=>by
  show(m:ag)::(EP (m+1) O).map (·.1)=_;rw[aFc (m+1) O,ck,t9,br,df];have e1:((m:ag)+((0:ah):ag))=m:=by lia
  rw[e1];refine d6 _ (e8 λk _=>?_);show((m+1:ah):ag)+k=(m:ag)+((k+1:ah):ag);lia
theorem WX(U:aa Pt):fC [.lst (U.map enP)]=.ok (.lst ((yV U).map enP)):=by
 show(if bD (U.map enP) then τ (ξ (gM (U.map enP))) else .bad)=_;rw[yW,aq rfl,aBj]
theorem aC0{U:aa Pt}{M:aa ag}(h:(U.map (·.1)).Perm M)(hM:M.Pairwise (·<·)):(yV U).map (·.1)=M:=by
 have hnd:M.Nodup:=hM.imp λ{a b} z=>by lia
 have hU:(U.map (·.1)).Nodup:=h.nodup_iff.mpr hnd;have hUn:U.Nodup:=(i6.mp hU).imp λ{a b} z e=>z (by rw[e])
 have hp:((yV U).map (·.1)).Perm M:=((uB U).map _).trans h;refine G5 ?_ hM λx=>hp.mem_iff
 have h1:(yV U).Pairwise λa b=>a.1≠b.1:=i6.mp (hp.nodup_iff.mpr hnd)
 refine i6.mpr (B9 ?_ (WT hUn) h1);intro a b z1 z2;unfold ltP at z1;lia
theorem UL:∀Q:aa Pc,mL (Q.map pcD)=ae (Q.map λc=>(δ c.1,ν c.2))
 |[]=>rfl
 |c::Q=>by
  show(if fB (.int c.1)&&(ν c.2).pure then (mL (Q.map pcD)).map ((δ c.1,ν c.2)::·) else ak)=_;rw[UL Q];rfl
theorem zR:∀(Q:aa Pc)(acc:aa (D×D))(n:ag),n∈Q.map (·.1)\/(∃s:Str,bG acc (.int n)=ae (.str s))->∃s:Str,bG (dD acc (Q.map λc=>(δ c.1,ν c.2))) (.int n)=ae (.str s)
 |[],acc,n,h=>h.resolve_left (by simp)
 |c::Q,acc,n,h=>by
  show ∃s:Str,bG (dD (putD acc (.int c.1) (.str c.2)) (Q.map λc=>(δ c.1,ν c.2))) (.int n)=ae (.str s);refine zR Q _ n ?_;rw[oV];by_cases e:c.1=n
  ·exact .inr ⟨c.2,aq e⟩
  ·rw[av e];rcases h with h|h
   ·exact .inl ((bm.mp h).resolve_left λz=>e z.symm)
   ·exact .inr h
def nkD(Q:aa Pc):aa (D×D):=dD [] (Q.map λc=>(δ c.1,ν c.2))
theorem aE7{Q:aa Pc}(h:Q.length<=30):xH (.tup (Q.map pcD))=.ok (.dct (nkD Q)):=by
 show(match mL (Q.map pcD) with|some ps=>if ϒ ((Q.map pcD).length<=1000) then τ (D.dct (dD [] ps)) else .bad|none=>.bad)=_;rw[UL];show(if ϒ ((Q.map pcD).length<=1000) then τ (D.dct (nkD Q)) else .bad)=_;rw[cu (by rw[aI];lia),aq rfl]
section
variable {kvs:aa (D×D)} {Q:aa Pc} {V:aa Tie} {r:ag}
theorem UV(w:Net kvs Q V){x:ag}(hx:x∈Q.map (·.1)){y:ag}:y∈gf (ea kvs Q V x)↔y∈uA V x:=by
 obtain⟨pc,hp,rfl⟩:=b6.mp hx;have wf:=w.wf;have h0:=w.qpos pc hp;unfold gf;rw[ly,vR];simp only[b6,d4];constructor
 ·rintro⟨⟨f,hf,rfl⟩,hy⟩;obtain⟨h,ht⟩:=(aBn w hp).mp hf;rcases ht with ht|ht
  ·exact⟨_,ht,by show pc.1≠0;lia,.inl ⟨rfl,rfl⟩⟩
  ·exact⟨_,ht,hy,.inr ⟨rfl,rfl⟩⟩
 ·rintro⟨t,ht,h1,h2⟩;have hm:t.1.1∈Q.map (·.1)/\t.2.1∈Q.map (·.1):=(wf.ok t ht).resolve_left λz=>h1 z.1
  have q1:=wf.qp _ hm.1;have q2:=wf.qp _ hm.2;rcases h2 with ⟨h2,h3⟩|⟨h2,h3⟩
  ·refine⟨⟨t.2,(aBn w hp).mpr ⟨t.1.2,.inl ?_⟩,h3⟩,by lia⟩;rw[show(pc.1,t.1.2)=t.1 from Prod.ext h2.symm rfl];exact ht
  ·refine⟨⟨t.1,(aBn w hp).mpr ⟨t.2.2,.inr ?_⟩,h3⟩,by lia⟩;rw[show(pc.1,t.2.2)=t.2 from Prod.ext h2.symm rfl];exact ht
theorem aLs(w:Net kvs Q V)(x:ag):(ea kvs Q V x).length<=100:=by
 unfold ea;rw[M4];unfold vq;cases h:Q.find? λc=>ϒ (c.1=x) with
 |none=>simp
 |some c=>
  have:=aBm w (List.mem_of_find?_eq_some h);show vOf kvs c.2+1<=100;lia
theorem aC1(w:Net kvs Q V){F:aa (aa ag)}(ps:Ps (uA V) (Q.map (·.1)) F){p:aa ag}(hp:p∈F):Gd (nkD Q) (dE (Q.map (·.1)) (ea kvs Q V)) p (ea kvs Q V)/\p≠[]/\p.Nodup/\∀s∈p,∀x,Rc (λx=>gf (ea kvs Q V x)) s x↔x∈p:=by
 have wf:=w.wf;have hcl:=rE wf;obtain⟨n,q,e,hn,hlt,hm⟩:=ps.ea p hp;have hsub:∀x∈p,x∈Q.map (·.1):=λx hx=>((hm x).mp hx).mem hn hcl
 have hnd:p.Nodup:=hlt.imp λ{a b} z=>by lia
 have hl:p.length<=30:=by
  have:=oO _ _ hnd hsub;rw[aI] at this;have:=w.ql;lia
 refine⟨⟨λx hx y hy=>?_,by lia,aLs w,λx hx=>aBo (hsub x hx),λx hx=>zR Q [] x (.inl (hsub x hx))⟩,by rw[e];simp,hnd,λs hs x=>?_⟩
 ·exact(hm y).mpr (((hm x).mp hx).step ((UV w (hsub x hx)).mp hy))
 ·have hs':=(hm s).mp hs;have hsN:=hsub s hs;have cl2:∀x∈Q.map (·.1),∀y∈gf (ea kvs Q V x),y∈Q.map (·.1):=λx hx y hy=>hcl x hx y ((UV w hx).mp hy)
  constructor
  ·intro h;exact(hm x).mpr (hs'.trans (Rc.to hsN cl2 (λx hx y hy=>(UV w hx).mp hy) h))
  ·intro h;have h1:Rc (uA V) s x:=(hs'.symm (MT V)).trans ((hm x).mp h);exact Rc.to hsN hcl (λx hx y hy=>(UV w hx).mpr hy) h1
theorem M7:∀{F:aa (aa ag)}{W:aa ag->aa D×aa ag},(∀p∈F,(W p).2.Perm p)->((F.map W).flatMap (·.2)).Perm F.flatten
 |[],_,_=>.refl _
 |p::F,W,h=>by
  show((W p).2++(F.map W).flatMap (·.2)).Perm (p++F.flatten);exact(h p (bu ..)).append (M7 λq hq=>h q (bq _ hq))
theorem uR{α β:Type}(f:α->aa β){l m:aa α}(h:l.Perm m):(l.flatMap f).Perm (m.flatMap f):=by
 induction h with
 |nil=>exact .refl _
 |cons a _ ih=>exact kB _ ih
 |swap a b l=>
  show(f b++(f a++_)).Perm (f a++(f b++_));rw[<-dg,<-dg];exact(Bl).append_right _
 |trans _ _ h1 h2=>exact h1.trans h2
def wn(net:D)(nk dk:aa (D×D))(x3 x4 x5 x6:D):aa D:=[net,.dct nk,.dct dk,x3,x4,x5,x6]
def prs(O:aa ag):aa Pt:=(EP 1 O).map λe=>((e.2,e.1):Pt)
theorem aIa(O:aa ag):(prs O).map (·.1)=O:=by unfold prs;rw[df];exact aBz 1 O
theorem aIb(O:aa ag):(prs O).map (·.2)=(cq O.length).map λ(k:ah)=>((1:ag)+k):=by unfold prs;rw[df];exact aFc 1 O
theorem aC2{net:D}{nk dk:aa (D×D)}{F:aa (aa ag)}{W:aa ag->aa D×aa ag}(hW:∀p∈F,cF 3 cD [.dct nk,.dct dk,pS p]=.ok (wk2 (W p))):qR (rT 7 x_ gQ (aN (cF 3 cD) (aD eE (aD fM (aD mH aV)))) af (wn net nk dk .uD .uD .uD .uD)) [] (F.map pS)=.ok ((F.map W).map wk2):=by
 have h:=jJ (rT 7 x_ gQ (aN (cF 3 cD) (aD eE (aD fM (aD mH aV)))) af (wn net nk dk .uD .uD .uD .uD)) pS (λp=>wk2 (W p)) F [] (λacc p hp=>by
  have hf:(aN (cF 3 cD) (aD eE (aD fM (aD mH aV)))) [net,.dct nk,.dct dk,.uD,.uD,.uD,.uD,pS p]=.ok (wk2 (W p)):=aK (xs:=[.dct nk,.dct dk,pS p]) (aC rfl (aC rfl (aC rfl rfl))) (hW p hp);exact k_ (b:=af) rfl rfl λ_=>⟨hf,rfl⟩)
 rw[h,eW,df];rfl
theorem aC3{net x3 x5 x6:D}{nk dk:aa (D×D)}{O:aa ag}:qR (rT 7 (HJ 2) gQ (fQ (aD rR (aD mH aV))) ai (wn net nk dk x3 (.lst (O.map δ)) x5 x6)) [] (CW 1 (O.map δ))=.ok ((prs O).map enP):=by
 rw[UJ,jJ _ enP (λe=>enP (e.2,e.1)) (EP 1 O) [] (λacc e _=>by
  exact nR (bs:=[.int e.1,.int e.2]) (b:=af) rfl rfl rfl λ_=>⟨dM (xs:=[.int e.2,.int e.1]) (aC rfl (aC rfl rfl)) (by rw[bA];simp),rfl⟩),eW]
 unfold prs;rw[df];rfl
theorem aIc{net:D}{nk dk:aa (D×D)}{F:aa (aa ag)}{W:aa ag->aa D×aa ag}{qd:D}(h0:getD net (.int 0)=.ok qd)(hu:net≠.uD)(hnm:xH qd=.ok (.dct nk))(he:cF 1 gF [net]=.ok (.dct dk))(hp:cF 1 t8 [net]=.ok (.lst (F.map pS)))
 (hF:F.length<=40)(hW:∀p∈F,jH (W p).1/\cF 3 cD [.dct nk,.dct dk,pS p]=.ok (wk2 (W p)))(hl:((F.map W).flatMap (·.2)).length<=30) :
  ∃SL:aa (aa D×aa ag),SL.Perm (F.map W)/\cF 1 yF [net]=.ok (.lst ((yV (prs (SL.flatMap (·.2)))).map enP)):=by
 have hrow:∀x∈F.map W,jH x.1:=λx hx=>by
  obtain⟨p,hp,rfl⟩:=b6.mp hx;exact(hW p hp).1
 have hsrt:fC [.lst ((F.map W).map wk2)]=.ok (.lst (gM ((F.map W).map wk2))):=by
  show(if bD ((F.map W).map wk2) then τ (ξ (gM ((F.map W).map wk2))) else .bad)=_;rw[HH hrow,aq rfl]
 obtain⟨SL,pSL,eSL⟩:=GR wk2 unW aLq (cX ((F.map W).map wk2));rw[eSL] at hsrt;have hOl:(SL.flatMap (·.2)).length<=30:=by rw[(uR (·.2) pSL).length_eq];exact hl
 obtain⟨ρ1,e1,x5,x6,rfl⟩:=cY (t:=tgN [5,6]) (body:=aAj 4 lM) (d:=wk2) (I:=λys ρ=>∃x5 x6,ρ=wn net nk dk (.lst (SL.map wk2)) (.lst ((ys.flatMap (·.2)).map δ)) x5 x6) SL (λys a zs ρ e ⟨x5,x6,h⟩=>by
  subst h;have hl:(ys.flatMap (·.2)).length+a.2.length<=30:=by
   rw[e,vm,nu,cw,cw] at hOl;lia
  refine⟨wn net nk dk (.lst (SL.map wk2)) (.lst ((ys.flatMap (·.2)).map δ)) (.scr a.1) (.scr (a.2.map δ)),wn net nk dk (.lst (SL.map wk2)) (.lst (((ys++[a]).flatMap (·.2)).map δ)) (.scr a.1) (.scr (a.2.map δ)),rfl,?_,_,_,rfl⟩;refine(aI9 (i:=4) (xs:=(ys.flatMap (·.2)).map δ) (ys:=a.2.map δ) rfl rfl (by rw[aI,aI,bA];lia) (d8 _)).trans ?_;rw[vm,List.flatMap_singleton,c5];rfl) (ρ:=wn net nk dk (.lst (SL.map wk2)) (.lst []) .uD .uD) ⟨_,_,rfl⟩
 generalize hO:SL.flatMap (·.2)=O at *;have hb:∀(x1 x2 x3 x4 x5 x6:D),jZ 0 [net,x1,x2,x3,x4,x5,x6]=.ok net:=λ_ _ _ _ _ _=>iR rfl hu
 have hc1:d7 7 (cM (aN (cF 1 t8) (aD cA aV)) af) x_ gQ (aN (cF 3 cD) (aD eE (aD fM (aD mH aV)))) af (wn net nk dk .uD .uD .uD .uD)=.ok (.lst ((F.map W).map wk2)):=iM (xs:=F.map pS) (jV (fr:=af) (d:=.lst (F.map pS)) (aK (xs:=[net]) (aC (hb _ _ _ _ _ _) rfl) hp) rfl) (by rw[aI,bA];lia) (aC2 λp h=>(hW p h).2);have hen:(CW 1 (O.map δ)).length<=lim:=by
  rw[UJ,aI,<-aI (f:=(·.2)),aBz,bA];lia
 have hc2:d7 7 (aAb 1 eO ai) (HJ 2) gQ (fQ (aD rR (aD mH aV))) ai (wn net nk dk (.lst (SL.map wk2)) (.lst (O.map δ)) x5 x6)=.ok (.lst ((prs O).map enP)):=iM (xs:=CW 1 (O.map δ)) (kk:=ai) rfl hen aC3;refine⟨SL,pSL,(cR rfl).trans ?_⟩;rw[hO];refine call_v ?_;refine aL (ρ':=[net,.dct nk,.uD,.uD,.uD,.uD,.uD]) (bN (i:=1) (aDt (aM (hb _ _ _ _ _ _) rfl h0) hnm)) ?_;refine aL (ρ':=wn net nk dk .uD .uD .uD .uD) (bN (i:=2) (aK (xs:=[net]) (aC (hb _ _ _ _ _ _) rfl) he)) ?_;refine aL (ρ':=wn net nk dk (.lst (SL.map wk2)) .uD .uD .uD) (bN (i:=3) (aK (xs:=[.lst ((F.map W).map wk2)]) (aC hc1 rfl) hsrt)) ?_;refine aL (ρ':=wn net nk dk (.lst (SL.map wk2)) (.lst []) .uD .uD) (cU (i:=4) rfl rfl) ?_;refine aL (aA0 (i:=3) (d:=.lst (SL.map wk2)) (xs:=SL.map wk2) rfl rfl e1) ?_;exact gU (aK (xs:=[.lst ((prs O).map enP)]) (aC hc2 rfl) (WX (prs O))) rfl
theorem aLt(w:Net kvs Q V):∃Z:aa Pt,Z.map (·.1)=Q.map (·.1)/\(Z.map (·.2)).Perm ((cq Q.length).map λ(k:ah)=>((1:ag)+k))/\cF 1 yF [gR Q V r]=.ok (.lst (Z.map enP)):=by
 have wf:=w.wf;have ql:=w.ql;obtain⟨F,ps,hF,hparts⟩:=aE3 (r:=r) wf;have hch:∀p:aa ag,∃x:aa D×aa ag,p∈F->IsW p x/\cF 3 cD [.dct (nkD Q),.dct (dE (Q.map (·.1)) (ea kvs Q V)),pS p]=.ok (wk2 x):=λp=>by
  by_cases hp:p∈F
  ·obtain⟨g,h1,h2,h3⟩:=aC1 w ps hp;obtain⟨x,i1,i2⟩:=aE6 g h1 h2 h3;exact⟨x,λ_=>⟨i1,i2⟩⟩
  ·exact⟨([],[]),λz=>bd z hp⟩
 obtain⟨W,hW⟩:=Ca hch;have hperm:∀p∈F,(W p).2.Perm p:=λp hp=>rF (hW p hp).1.1 (aC1 w ps hp).2.2.1 (hW p hp).1.2.1
 have pF:((F.map W).flatMap (·.2)).Perm (Q.map (·.1)):=(M7 hperm).trans (rF ps.nd wf.nd λy=>⟨ps.sub (λn h=>h) (rE wf) y,ps.cv y⟩);obtain⟨SL,pSL,hway⟩:=aIc (net:=gR Q V r) (W:=W) (qd:=.tup (Q.map pcD)) rfl (λz=>by cases z) (aE7 ql) (aI1 w) hparts hF (λp hp=>⟨(hW p hp).1.2.2.2,(hW p hp).2⟩) (by rw[pF.length_eq,aI];exact ql);have pO:(SL.flatMap (·.2)).Perm (Q.map (·.1)):=(uR (·.2) pSL).trans pF;refine⟨_,aC0 (by rw[aIa];exact pO) wf.qs,?_,hway⟩;refine((uB _).map _).trans ?_;rw[aIb,pO.length_eq,aI]
end
theorem aC4:(2:ah)<=lim:=by rw[bA];lia
theorem aO4:(3:ah)<=lim:=by rw[bA];lia
def aNn:D->Pc
 |.tup [.int a,.str b]=>(a,b)
 |_=>(0,"")
def qM(U:aa Pc):aa Pc:=(gM (U.map pcD)).map aNn
theorem RC(U:aa Pc):(qM U).Perm U:=by
 have h:=(cX (U.map pcD)).map aNn;rw[df] at h;have e:U.map (aNn ∘ pcD)=U:=by
  conv=>rhs;rw[<-gV U]
  exact e8 λt _=>rfl
 rw[e] at h;exact h
theorem aE8(U:aa Pc):(qM U).map pcD=gM (U.map pcD):=by
 unfold qM;rw[df]
 conv=>rhs;rw[<-gV (gM (U.map pcD))]
 refine e8 λd hd=>?_
 obtain⟨t,_,rfl⟩:=b6.mp ((cX (U.map pcD)).mem_iff.mp hd);rfl
theorem M8(U:aa Pc):fC [.lst (U.map pcD)]=.ok (.lst ((qM U).map pcD)):=by
 show(if bD (U.map pcD) then τ (ξ (gM (U.map pcD))) else .bad)=_;rw[yS,aq rfl,aE8]
theorem RD{P:aa Pc}{U:aa Tie}(r:ag)(hl:U.length<=lim):cF 3 oN [.lst (P.map pcD),.lst (U.map bV),.int r]=.ok (gR (qM P) (mG (U.map norm)) r):=by
 refine(cR rfl).trans (call_v ?_);have hf:qR (rT 4 (HJ 2) gQ (fQ (aD (aN (cH .lt) (aD eO (aD eZ aV))) (aD (aN (cH .gt) (aD eO (aD eZ aV))) aV))) ai [.lst (P.map pcD),.lst (U.map bV),.int r,.uD]) [] (U.map bV)=.ok ((U.map norm).map bV):=by
  rw[jJ _ bV (λt=>bV (norm t)) U [] λacc t _=>by
   have e1:=LR .lt t.1 t.2 ltP sW;have e2:=LR .gt t.1 t.2 (λx y=>ltP y x) T4;exact nR (n:=4) (t:=HJ 2) (c:=gQ) (k:=ai) (acc:=acc) (x:=bV t) (b:=af) (bs:=[enP t.1,enP t.2]) (y:=bV (norm t)) rfl rfl rfl λ_=>⟨dM (xs:=[enP (norm t).1,enP (norm t).2]) (aC (aK (xs:=[enP t.1,enP t.2]) (aC rfl (aC rfl rfl)) e1) (aC (aK (xs:=[enP t.1,enP t.2]) (aC rfl (aC rfl rfl)) e2) rfl)) aC4,rfl⟩,eW,df]
  rfl
 refine aL (ρ':=[.lst (P.map pcD),.lst (U.map bV),.int r,.lst ((U.map norm).map bV)]) (bN (i:=3) (iM (jV rfl rfl) (by rw[aI];exact hl) hf)) ?_;refine gU (d:=gR (qM P) (mG (U.map norm)) r) (dM (xs:=[.tup ((qM P).map pcD),.tup ((mG (U.map norm)).map bV),.int r]) (aC (aK (xs:=[.lst ((qM P).map pcD)]) (aC (aK (xs:=[.lst (P.map pcD)]) (aC rfl rfl) (M8 P)) rfl) rfl) (aC (aK (xs:=[.lst ((mG (U.map norm)).map bV)]) (aC (aK (xs:=[.lst ((U.map norm).map bV)]) (aC rfl rfl) (GX _)) rfl) rfl) (aC rfl rfl))) aO4) ?_;rw[GZ];rfl
noncomputable def kvI(p:Pt):D×D:=(.int p.1,.int p.2)
def fz(Z:aa Pt)(n:ag):ag:=((Z.find? λp=>ϒ (p.1=n)).map (·.2)).getD 0
theorem uE(n:ag):∀(Z:aa Pt)(acc:aa (D×D)),(Z.map (·.1)).Nodup->bG (dD acc (Z.map kvI)) (.int n)=if n∈Z.map (·.1) then ae (.int (fz Z n)) else bG acc (.int n)
 |[],acc,_=>by simp[dD]
 |p::Z,acc,h=>by
  rw[br,dq] at h;show bG (dD (putD acc (.int p.1) (.int p.2)) (Z.map kvI)) (.int n)=_;rw[uE n Z _ h.2,oV];by_cases e:p.1=n
  ·subst e;rw[av h.1,aq rfl,aq (by simp)];simp[fz]
  ·have e2:fz (p::Z) n=fz Z n:=by simp[fz,iF,e]
   rw[av e,e2];by_cases hm:n∈Z.map (·.1)
   ·rw[aq hm,aq (by simp only[br];exact bq _ hm)]
   ·rw[av hm,av];intro z;rcases bm.mp z with z|z
    ·exact e z.symm
    ·exact hm z
def RG(nd:aa (D×D))(M:aa ag)(nf:ag->ag):Prop:=∀n,n=0\/n∈M->bG nd (.int n)=ae (.int (nf n))
def nfZ(Z:aa Pt)(n:ag):ag:=if n=0 then 0 else fz Z n
theorem aP4{Z:aa Pt}(h:(Z.map (·.1)).Nodup):RG (putD (dD [] (Z.map kvI)) (.int 0) (.int 0)) (Z.map (·.1)) (nfZ Z):=λn hn=>by
 rw[oV];unfold nfZ;by_cases e:n=0
 ·subst e;rw[aq rfl,aq rfl]
 ·rw[av λz=>e z.symm,av e,uE n Z _ h,aq (hn.resolve_left e)]
theorem aO5{Z:aa Pt}(h:(Z.map (·.1)).Nodup)(h0:0∉Z.map (·.1)):RG (dD [(.int 0,.int 0)] (Z.map kvI)) (Z.map (·.1)) (nfZ Z):=λn hn=>by
 unfold nfZ;rw[uE n Z _ h];by_cases e:n=0
 ·subst e;rw[av h0,aq rfl];rfl
 ·rw[av e,aq (hn.resolve_left e)]
theorem RG.get{nd:aa (D×D)}{M:aa ag}{nf:ag->ag}(h:RG nd M nf){n:ag}(hn:n=0\/n∈M):getD (.dct nd) (.int n)=.ok (.int (nf n)):=by
 show(if keyOk (.int n) then ι (bG nd (.int n)) else .bad)=_;rw[h n hn];rfl
noncomputable def cP(nf:ag->ag)(c:Pc):Pc:=(nf c.1,c.2)
noncomputable def cE(nf:ag->ag)(e:Pt):Pt:=(nf e.1,e.2)
def cT(nf:ag->ag)(t:Tie):Tie:=(cE nf t.1,cE nf t.2)
theorem Wf.tie{Q:aa Pc}{V:aa Tie}(w:Wf Q V){t:Tie}(h:t∈V):(t.1.1=0\/t.1.1∈Q.map (·.1))/\(t.2.1=0\/t.2.1∈Q.map (·.1)):=by
 rcases w.ok t h with ⟨h1,h2⟩|⟨h1,h2⟩
 ·exact⟨.inl h1,h2⟩
 ·exact⟨.inr h1,.inr h2⟩
theorem aC5:∀Z:aa Pt,mL (Z.map enP)=ae (Z.map kvI)
 |[]=>rfl
 |p::Z=>by
  show(if fB (.int p.1)&&(δ p.2).pure then (mL (Z.map enP)).map ((δ p.1,δ p.2)::·) else ak)=_;rw[aC5 Z];rfl
theorem UW{Q:aa Pc}{nd:aa (D×D)}{nf:ag->ag}(h:RG nd (Q.map (·.1)) nf){m:ah}{ρ:aa D}{f:FE}(hl:ρ.length=m)(hf:∀c∈Q,f (ρ++[.int c.1,.str c.2])=.ok (pcD (cP nf c))):qR (rT m (HJ 2) gQ f ai ρ) [] (Q.map pcD)=.ok ((Q.map (cP nf)).map pcD):=by
 rw[jJ _ pcD (λc=>pcD (cP nf c)) Q [] λacc c hc=>by
  exact nR (x:=pcD c) (b:=af) (bs:=[.int c.1,.str c.2]) (y:=pcD (cP nf c)) hl rfl rfl λ_=>⟨hf c hc,rfl⟩,eW,df]
 rfl
theorem aC6{V:aa Tie}{nf:ag->ag}{m:ah}{ρ:aa D}{f:FE}(hl:ρ.length=m)(hf:∀t∈V,f (ρ++[enP t.1,enP t.2])=.ok (bV (cT nf t))):qR (rT m (HJ 2) gQ f ai ρ) [] (V.map bV)=.ok ((V.map (cT nf)).map bV):=by
 rw[jJ _ bV (λt=>bV (cT nf t)) V [] λacc t ht=>by
  exact nR (x:=bV t) (b:=af) (bs:=[enP t.1,enP t.2]) (y:=bV (cT nf t)) hl rfl rfl λ_=>⟨hf t ht,rfl⟩,eW,df]
 rfl
theorem nW{a:FE}{ρ xs:aa D}(h:a ρ=.ok (.tup xs))(hp:θ xs=af):cM a ai ρ=.ok (xs,af):=by
 have:=jV (fr:=ai) h (show o7 (.tup xs)=.ok xs from rfl);rw[this,mf,D.pure,hp]
def M9(Q:aa Pc)(V:aa Tie)(r:ag)(nf:ag->ag):D:=gR (qM (Q.map (cP nf))) (mG ((V.map (cT nf)).map norm)) r
theorem aIe{net:D}{Q:aa Pc}{V:aa Tie}{r:ag}{Z:aa Pt}{md nd:aa (D×D)}{nf:ag->ag}(w:Wf Q V)(e0:getD net (.int 0)=.ok (.tup (Q.map pcD)))(e1:getD net (.int 1)=.ok (.tup (V.map bV)))(e2:getD net (.int 2)=.ok (.int r))(hu:net≠.uD)
 (hd:J_ (.lst (Z.map enP))=.ok (.dct md))(hmp:θ (md.map (·.2))=af)(hml:md.length<=40)(hfit:o6 md (.int 0)=af)(hnd:putD md (.int 0) (.int 0)=nd)(hN:RG nd (Q.map (·.1)) nf):cF 2 jX [net,.lst (Z.map enP)]=.ok (M9 Q V r nf):=by
 have hb:∀(x1 x2 x3 x4:D),jZ 0 [net,x1,x2,x3,x4]=.ok net:=λ_ _ _ _=>iR rfl hu
 have hc1:(d7 5 (cM (b2 getD cA dF) ai) (HJ 2) gQ (fQ (aD (b2 getD fM eZ) (aD lM aV))) ai) [net,.lst (Z.map enP),.dct nd,.uD,.uD]=.ok (.lst ((Q.map (cP nf)).map pcD)):=
  iM (nW (aM (hb _ _ _ _) rfl e0) (xV Q)) (by have:=w.ql;rw[aI] at this ⊢;rw[bA];lia) (UW hN rfl λc hc=>dM (xs:=[.int (nf c.1),.str c.2]) (aC (aM rfl rfl (hN.get (.inr (b6.mpr ⟨c,hc,rfl⟩)))) (aC rfl rfl)) aC4)
 have hc2:(d7 5 (cM (b2 getD cA e_) ai) (HJ 2) gQ (fQ (aD (fQ (aD (b2 getD fM (b2 getD eZ dF)) (aD (b2 getD eZ e_) aV))) (aD (fQ (aD (b2 getD fM (b2 getD lM dF)) (aD (b2 getD lM e_) aV))) aV))) ai) [net,.lst (Z.map enP),.dct nd,.lst ((Q.map (cP nf)).map pcD),.uD]=.ok (.lst ((V.map (cT nf)).map bV)):=
  iM (nW (aM (hb _ _ _ _) rfl e1) (gY V)) (by have:=w.vl;rw[aI,bA];lia) (aC6 rfl λt ht=>dM (xs:=[enP (cE nf t.1),enP (cE nf t.2)]) (aC (dM (xs:=[.int (nf t.1.1),.int t.1.2]) (aC (aM (y:=.int t.1.1) rfl (aM rfl rfl rfl) (hN.get (w.tie ht).1)) (aC (aM rfl rfl rfl) rfl)) aC4) (aC (dM (xs:=[.int (nf t.2.1),.int t.2.2]) (aC (aM (y:=.int t.2.1) rfl (aM rfl rfl rfl) (hN.get (w.tie ht).2)) (aC (aM rfl rfl rfl) rfl)) aC4) rfl)) aC4)
 refine(cR rfl).trans (call_v ?_);refine aL (ρ':=[net,.lst (Z.map enP),.dct md,.uD,.uD]) (cU (i:=2) (aDt rfl hd) hmp) ?_;refine aL (ρ':=[net,.lst (Z.map enP),.dct nd,.uD,.uD]) ((sG (i:=2) (kvs:=md) (k:=.int 0) (d:=.int 0) rfl rfl rfl (by rw[bA];lia) hfit rfl).trans (by rw[hnd];rfl)) ?_;refine aL (ρ':=[net,.lst (Z.map enP),.dct nd,.lst ((Q.map (cP nf)).map pcD),.uD]) (bN (i:=3) hc1) ?_;refine aL (ρ':=[net,.lst (Z.map enP),.dct nd,.lst ((Q.map (cP nf)).map pcD),.lst ((V.map (cT nf)).map bV)]) (bN (i:=4) hc2) ?_;exact gU (aK (xs:=[.lst ((Q.map (cP nf)).map pcD),.lst ((V.map (cT nf)).map bV),.int r]) (aC rfl (aC rfl (aC (aM (hb _ _ _ _) rfl e2) rfl))) (RD r (by have:=w.vl;rw[aI,bA];lia))) rfl
theorem M_{i:ag}(x:ag):∀{kvs:aa (D×D)},θ (kvs.map (·.2))=af->θ ((putD kvs (.int x) (.int i)).map (·.2))=af
 |[],_=>rfl
 | (k,v)::r,h=>by
  rw[br,θ,bg] at h;show θ ((if eqD k (.int x) then (k,δ i)::r else (k,v)::putD r (.int x) (.int i)).map (·.2))=af;split
  ·rw[br,θ,h.2];rfl
  ·rw[br,θ,M_ x h.2,i5];exact h.1
theorem merge_inv:∀(Z:aa Pt)(acc:aa (D×D)),θ (acc.map (·.2))=af->(∀y:ag,o6 acc (.int y)=af)->θ ((dD acc (Z.map kvI)).map (·.2))=af/\(∀y:ag,o6 (dD acc (Z.map kvI)) (.int y)=af)/\(dD acc (Z.map kvI)).length<=acc.length+Z.length
 |[],acc,h1,h2=>⟨h1,h2,ba _⟩
 |p::Z,acc,h1,h2=>by
  obtain⟨i1,i2,i3⟩:=merge_inv Z (putD acc (.int p.1) (.int p.2)) (M_ p.1 h1) (aBs h2);have:=RB p.1 (.int p.2) acc;exact⟨i1,i2,dn i3 (by rw[ck];lia)⟩
theorem aIf(y:ag):o6 [] (.int y)=af:=rfl
theorem aNo(y:ag):o6 [(.int 0,.int 0)] (.int y)=af:=rfl
theorem aE9{net:D}{Q:aa Pc}{V:aa Tie}{r:ag}{Z:aa Pt}(w:Wf Q V)(e0:getD net (.int 0)=.ok (.tup (Q.map pcD)))(e1:getD net (.int 1)=.ok (.tup (V.map bV)))(e2:getD net (.int 2)=.ok (.int r))(hu:net≠.uD)(hZ:Z.map (·.1)=Q.map (·.1))(hw:cF 1 yF [net]=.ok (.lst (Z.map enP))):cF 1 zK [net]=.ok (M9 Q V r (nfZ Z)):=by
 have hl:Z.length<=40:=by have:=d6 gu hZ;rw[aI] at this;have:=w.ql;lia
 obtain⟨i1,i2,i3⟩:=merge_inv Z [] rfl aIf;have hd:J_ (.lst (Z.map enP))=.ok (.dct (dD [] (Z.map kvI))):=by
  show(match mL (Z.map enP) with|some ps=>if ϒ ((Z.map enP).length<=1000) then τ (D.dct (dD [] ps)) else .bad|none=>.bad)=_;rw[aC5];show(if ϒ ((Z.map enP).length<=1000) then τ (D.dct (dD [] (Z.map kvI))) else .bad)=_;rw[cu (by rw[aI];lia),aq rfl]
 have hN:=aP4 (Z:=Z) (by rw[hZ];exact w.nd);rw[hZ] at hN;have hr:=aIe (nf:=nfZ Z) w e0 e1 e2 hu hd i1 (by rw[eT] at i3;lia) (i2 0) rfl hN;refine(cR rfl).trans (call_v (gU (aK (xs:=[net,.lst (Z.map enP)]) (aC (iR rfl hu) (aC (aK (xs:=[net]) (aC (iR rfl hu) rfl) hw) rfl)) hr) rfl))
def cbd:FS:=(bI (b8 ai 4 (fQ (aD (b2 getD eE (b2 getD eO dF)) (aD (b2 getD eO e_) aV))) ai) (bI (b8 ai 5 (fQ (aD (b2 getD eE (b2 getD eZ dF)) (aD (b2 getD eZ e_) aV))) ai) (mY 3 (fQ (aD (aN (cH .lt) (aD eO (aD eZ aV))) (aD (aN (cH .gt) (aD eO (aD eZ aV))) aV))))))
theorem RJ{net:D}{Q:aa Pc}{V:aa Tie}{r:ag}{nd:aa (D×D)}{nf:ag->ag}(w:Wf Q V)(e0:getD net (.int 0)=.ok (.tup (Q.map pcD)))(e1:getD net (.int 1)=.ok (.tup (V.map bV)))(e2:getD net (.int 2)=.ok (.int r))(hu:net≠.uD)(hN:RG nd (Q.map (·.1)) nf):cF 2 d9 [net,.dct nd]=.ok (M9 Q V r nf):=by
 have hb:∀(x1 x2 x3 x4 x5:D),jZ 0 [net,x1,x2,x3,x4,x5]=.ok net:=λ_ _ _ _ _=>iR rfl hu
 have vl:=w.vl;have hc1:(d7 6 (cM (b2 getD cA dF) ai) (HJ 2) gQ (fQ (aD (b2 getD eE lM) (aD mH aV))) ai) [net,.dct nd,.uD,.uD,.uD,.uD]=.ok (.lst ((Q.map (cP nf)).map pcD)):=
  iM (nW (aM (hb _ _ _ _ _) rfl e0) (xV Q)) (by have:=w.ql;rw[aI] at this ⊢;rw[bA];lia) (UW hN rfl λc hc=>dM (xs:=[.int (nf c.1),.str c.2]) (aC (aM rfl rfl (hN.get (.inr (b6.mpr ⟨c,hc,rfl⟩)))) (aC rfl rfl)) aC4)
 generalize hS:(qM (Q.map (cP nf))).map pcD=SP;have hs1:=M8 (Q.map (cP nf));rw[hS] at hs1;obtain⟨ρ,h1,x4,x5,rfl⟩:=cY (t:=tgN [4,5]) (body:=cbd) (d:=bV) (I:=λys ρ=>∃x4 x5,ρ=[net,.dct nd,.lst SP,.lst (((ys.map (cT nf)).map norm).map bV),x4,x5]) V (λys t zs ρ e ⟨x4,x5,h⟩=>by
  subst h;have ht:t∈V:=by rw[e];simp
  have hyl:ys.length<=1000:=by rw[e] at vl;simp at vl;lia
  have b1:=LR .lt (cE nf t.1) (cE nf t.2) ltP sW;have b2':=LR .gt (cE nf t.1) (cE nf t.2) (λx y=>ltP y x) T4;generalize hT:((ys.map (cT nf)).map norm).map bV=T;have hTl:T.length=ys.length:=by rw[<-hT];simp
  refine⟨[net,.dct nd,.lst SP,.lst T,enP t.1,enP t.2],[net,.dct nd,.lst SP,.lst (T++[bV (norm (cT nf t))]),enP (cE nf t.1),enP (cE nf t.2)],rfl,?_,enP (cE nf t.1),enP (cE nf t.2),?_⟩
  ·refine aL (ρ':=[net,.dct nd,.lst SP,.lst T,enP (cE nf t.1),enP t.2]) (tY (i:=4) (dM (xs:=[.int (nf t.1.1),.int t.1.2]) (aC (aM (y:=.int t.1.1) rfl (aM rfl rfl rfl) (hN.get (w.tie ht).1)) (aC (aM rfl rfl rfl) rfl)) aC4) rfl) ?_;refine aL (ρ':=[net,.dct nd,.lst SP,.lst T,enP (cE nf t.1),enP (cE nf t.2)]) (tY (i:=5) (dM (xs:=[.int (nf t.2.1),.int t.2.2]) (aC (aM (y:=.int t.2.1) rfl (aM rfl rfl rfl) (hN.get (w.tie ht).2)) (aC (aM rfl rfl rfl) rfl)) aC4) rfl) ?_;exact jT (i:=3) (xs:=T) (d:=bV (norm (cT nf t))) (dM (xs:=[enP (norm (cT nf t)).1,enP (norm (cT nf t)).2]) (aC (aK (xs:=[enP (cE nf t.1),enP (cE nf t.2)]) (aC rfl (aC rfl rfl)) b1) (aC (aK (xs:=[enP (cE nf t.1),enP (cE nf t.2)]) (aC rfl (aC rfl rfl)) b2') rfl)) aC4) rfl (by rw[hTl,bA];lia) rfl
  ·rw[c5,c5,c5,hT];rfl) (ρ:=[net,.dct nd,.lst SP,.lst [],.uD,.uD]) ⟨_,_,rfl⟩
 have hs2:=GX ((V.map (cT nf)).map norm);generalize hU:((V.map (cT nf)).map norm).map bV=UT at h1 hs2;refine(cR rfl).trans (call_v ?_);refine aL (ρ':=[net,.dct nd,.lst SP,.uD,.uD,.uD]) (bN (i:=2) (aK (xs:=[.lst ((Q.map (cP nf)).map pcD)]) (aC hc1 rfl) hs1)) ?_;refine aL (ρ':=[net,.dct nd,.lst SP,.lst [],.uD,.uD]) (cU (i:=3) rfl rfl) ?_;refine aL (mK (nW (aM (hb _ _ _ _ _) rfl e1) (gY V)) h1) ?_;have hd:M9 Q V r nf=.tup [.tup SP,.tup ((mG ((V.map (cT nf)).map norm)).map bV),.int r]:=by unfold M9 gR;rw[hS]
 have hp:(M9 Q V r nf).pure=af:=GZ _ _ _;rw[hd] at hp ⊢;generalize (mG ((V.map (cT nf)).map norm)).map bV=VT at hs2 hp ⊢;refine gU (d:=.tup [.tup SP,.tup VT,.int r]) (dM (xs:=[.tup SP,.tup VT,.int r]) (aC (aK (xs:=[.lst SP]) (aC rfl rfl) rfl) (aC (aK (xs:=[.lst VT]) (aC (aK (xs:=[.lst UT]) (aC rfl rfl) hs2) rfl) rfl) (aC (aM (hb _ _ _ _ _) rfl e2) rfl))) aO4) ?_;rw[hp];rfl
theorem NB:∀p:aa ag,lJ (p.map δ) (p.map δ)=af
 |[]=>rfl
 |x::p=>by
  show(eqD (.int x) (.int x)&&lJ (p.map δ) (p.map δ))=af;rw[NB p,dX,cu rfl];rfl
theorem aIg(p:aa ag):b7 .ne (.lst (p.map δ)) (.lst (p.map δ))=.ok (.bl ai):=by
 show(if μ 11 (p.map δ)&&μ 11 (p.map δ) then τ (π (!lJ (p.map δ) (p.map δ))) else .bad)=_;rw[oU,NB];rfl
theorem ne_int(a:ag):b7 .ne (.int a) (.int a)=.ok (.bl ai):=by
 show τ (π (!eqD (.int a) (.int a)))=_;rw[dX,cu rfl];rfl
theorem RK{n k:ah}{ys zs:aa ah}(e:cq n=ys++k::zs):k=ys.length/\k<n:=by
 have h1:=d6 (λl=>l[ys.length]?) e;have hl:ys.length<n:=by have:=d6 gu e;simp at this;lia
 simp[hl] at h1;exact⟨h1.symm,by lia⟩
theorem WY(acc:aa (D×D))(Z:aa Pt)(p:Pt):dD acc ((Z++[p]).map kvI)=putD (dD acc (Z.map kvI)) (.int p.1) (.int p.2):=by
 unfold dD;rw[c5,uq];rfl
theorem NK(i:ag):cF 1 eX [.int i]=.ok (.bl af):=rfl
theorem zT{f:FE}{ρ:aa D}{b:ap}(h:f ρ=.ok (.bl b)):bTr f ρ=.ok b:=aF5 h rfl
def lnb:FS:=(bI (b8 ai 4 (b2 getD cA dU) ai) (bI (sIf (bOr (JN (bTr (b1 (oW .tuple) eO))) (bOr (bTB (b2 (b7 .ne) (aN dY (aD eO aV)) uU)) (bOr (JN (bTr (aN (cF 1 eX) (aD (b2 getD eO dF) aV)))) (JN (bTr (aN (cF 1 eX) (aD (b2 getD eO e_) aV))))))) (jL (bC .non) af) jA) (bI (sIf (bTB (b2 (b7 .ne) (b2 getD eO dF) (b2 getD (b2 getD (b2 getD eE dF) dU) dF))) (jL (bC .non) af) jA) (wI 2 (b2 getD eO dF) (b2 getD eO e_)))))
theorem aNp{Z:aa Pt}(h:(Z.map (·.1)).Nodup):(Z.map (·.1)).map (fz Z)=Z.map (·.2):=by
 rw[df];refine e8 λp hp=>?_
 have key:∀{Z:aa Pt},(Z.map (·.1)).Nodup->p∈Z->fz Z p.1=p.2:=by
  intro Z;induction Z with
  |nil=>intro _ h;cases h
  |cons q Z ih=>
   intro hn hp;rw[br,dq] at hn;by_cases e:q.1=p.1
   ·rcases bm.mp hp with rfl|hp
    ·simp[fz]
    ·have hm:p.1∈Z.map (·.1):=b6.mpr ⟨p,hp,rfl⟩;rw[<-e] at hm;exact bd hm hn.1
   ·have:fz (q::Z) p.1=fz Z p.1:=by simp[fz,iF,e]
    rw[this];refine ih hn.2 ((bm.mp hp).resolve_left λz=>e (by rw[z]))
 exact key h hp
theorem aIh{net:D}{Q:aa Pc}{V:aa Tie}{Z:aa Pt}(w:Wf Q V)(e0:getD net (.int 0)=.ok (.tup (Q.map pcD)))(hu:net≠.uD)(hZ:Z.map (·.1)=Q.map (·.1))(hZ2:(Z.map (·.2)).Perm ((cq Q.length).map λ(k:ah)=>((1:ag)+k))):cF 2 iY [.lst (Z.map enP),net]=.ok (.dct (dD [(.int 0,.int 0)] (Z.map kvI))):=by
 have hlen:Z.length=Q.length:=by have:=d6 gu hZ;simpa using this
 have ql:=w.ql;rw[aI] at ql;have hnd:(Z.map (·.1)).Nodup:=by rw[hZ];exact w.nd
 have h00:0∉Z.map (·.1):=λz=>by have:=w.qp 0 (by rw[<-hZ];exact z);lia
 have hN:=aO5 hnd h00;rw[hZ] at hN;have hb:∀(x0 x2 x3 x4:D),jZ 1 [x0,net,x2,x3,x4]=.ok net:=λ_ _ _ _=>iR rfl hu
 have hlE:dY [.lst (Z.map enP)]=.ok (.int Z.length):=aNg Z;have hlQ:dY [.tup (Q.map pcD)]=.ok (.int Z.length):=by
  show τ (δ ((Q.map pcD).length:ag))=_;rw[aI,hlen]
 obtain⟨ρ,h1,x3,x4,rfl⟩:=cY (t:=tg1 3) (body:=lnb) (d:=λ(k:ah)=>δ (0+(k:ag))) (I:=λys ρ=>∃x3 x4,ρ=[.lst (Z.map enP),net,.dct (dD [(.int 0,.int 0)] ((Z.take ys.length).map kvI)),x3,x4]) (cq Z.length) (λys k zs ρ e ⟨x3,x4,h⟩=>by
  subst h;obtain⟨rfl,hk⟩:=RK e;have hkQ:ys.length<Q.length:=by lia
  have hget:getD (.lst (Z.map enP)) (.int (0+(ys.length:ag)))=.ok (enP Z[ys.length]):=by
   rw[show(0+(ys.length:ag))=(ys.length:ag) by lia,T_ _ _ (by rw[aI];exact hk),vo]
  have hgQ:getD (.tup (Q.map pcD)) (.int (0+(ys.length:ag)))=.ok (pcD Q[ys.length]):=by
   rw[aB2 _ _ (by rw[aI];exact hkQ),vo]
  have hfst:Z[ys.length].1=Q[ys.length].1:=by
   have a:(Z.map (·.1))[ys.length]?=(Q.map (·.1))[ys.length]?:=by rw[hZ]
   rw[kf,kf,dz hk,dz hkQ] at a;simpa using a
  have htk:Z.take (ys++[ys.length]).length=Z.take ys.length++[Z[ys.length]]:=by
   rw[cw,jh,rf hk]
  obtain⟨i1,i2,i3⟩:=merge_inv (Z.take ys.length) [(.int 0,.int 0)] rfl aNo;have htl:(Z.take ys.length).length<=40:=by rw[hG];lia
  generalize Z[ys.length]=p at hget hfst htk;generalize hmd:dD [(.int 0,.int 0)] ((Z.take ys.length).map kvI)=md at i1 i2 i3 ⊢;have hput:dD [(.int 0,.int 0)] ((Z.take (ys++[ys.length]).length).map kvI)=putD md (.int p.1) (.int p.2):=by rw[htk,WY,hmd]
  have hcQ:∀ρ:aa D,jZ 1 ρ=.ok net->jZ 3 ρ=.ok (.int (0+(ys.length:ag)))->(b2 getD (b2 getD (b2 getD eE dF) dU) dF) ρ=.ok (.int p.1):=λρ a b=>by
   rw[hfst];exact aM (aM (aM a rfl e0) b hgQ) rfl rfl
  refine⟨[.lst (Z.map enP),net,.dct md,.int (0+(ys.length:ag)),x4],[.lst (Z.map enP),net,.dct (putD md (.int p.1) (.int p.2)),.int (0+(ys.length:ag)),enP p],rfl,?_,.int (0+(ys.length:ag)),enP p,?_⟩
  ·generalize (0+(ys.length:ag))=kk at hget hcQ ⊢;refine aL (ρ':=[.lst (Z.map enP),net,.dct md,.int kk,enP p]) (tY (i:=4) (aM rfl rfl hget) rfl) ?_;refine aL (ρ':=[.lst (Z.map enP),net,.dct md,.int kk,enP p]) (oG (aIp (uQ (b:=af) (zT (aDt (x:=enP p) rfl rfl))) (aIp (dC (aM (x:=.int 2) (aK (xs:=[enP p]) (aC rfl rfl) rfl) rfl (ne_int 2))) (aIp (uQ (b:=af) (zT (aK (xs:=[.int p.1]) (aC (aM (x:=enP p) rfl rfl rfl) rfl) (NK _)))) (uQ (b:=af) (zT (aK (xs:=[.int p.2]) (aC (aM (x:=enP p) rfl rfl rfl) rfl) (NK _))))))) rfl) ?_;refine aL (ρ':=[.lst (Z.map enP),net,.dct md,.int kk,enP p]) (oG (dC (aM (x:=.int p.1) (aM (x:=enP p) rfl rfl rfl) (hcQ _ (hb _ _ _ _) rfl) (ne_int p.1))) rfl) ?_;exact sG (i:=2) (kvs:=md) (k:=.int p.1) (d:=.int p.2) (aM (x:=enP p) rfl rfl rfl) (aM (x:=enP p) rfl rfl rfl) rfl (by rw[bA];simp only[ck,eT] at i3;lia) (i2 _) rfl
  ·rw[hput]) (ρ:=[.lst (Z.map enP),net,.dct [(.int 0,.int 0)],.uD,.uD]) ⟨_,_,rfl⟩
 rw[jw,ur] at h1;generalize hmd:dD [(.int 0,.int 0)] (Z.map kvI)=md at *;have hvals:(Q.map (·.1)).map (nfZ Z)=Z.map (·.2):=by
  rw[<-aNp hnd,<-hZ];refine e8 λn hn=>?_
  unfold nfZ;rw[av λz=>h00 (by rw[<-z];exact hn)]
 have hc:(d7 5 (cM (b2 getD eE dF) ai) (HJ 2) gQ (b2 getD fM eZ) ai) [.lst (Z.map enP),net,.dct md,x3,x4]=.ok (.lst ((Z.map (·.2)).map δ)):=by
  refine iM (nW (aM (hb _ _ _ _) rfl e0) (xV Q)) (by rw[aI,bA];lia) ?_;rw[jJ _ pcD (λc=>δ (nfZ Z c.1)) Q [] λacc c hc=>by
   exact nR (x:=pcD c) (b:=af) (bs:=[.int c.1,.str c.2]) (y:=.int (nfZ Z c.1)) rfl rfl rfl λ_=>⟨aM rfl rfl (hN.get (.inr (b6.mpr ⟨c,hc,rfl⟩))),rfl⟩,eW,<-hvals,df,df]
  rfl
 have hrg:((cq Q.length).map λ(k:ah)=>((1:ag)+k)).Pairwise (·<·):=i6.mpr (List.pairwise_lt_range.imp λ{a b} h=>by lia);have hsi:sortI (Z.map (·.2))=(cq Q.length).map λ(k:ah)=>((1:ag)+k):=aDx (hZ2.nodup_iff.mpr (hrg.imp λ{a b} h=>by lia)) hrg λx=>hZ2.mem_iff
 have hso:=sorted_ints (Z.map (·.2));rw[hsi] at hso;have hr2:D_ [.int 1,.int ((Z.length:ag)+1)]=.ok (.lst (((cq Q.length).map λ(k:ah)=>((1:ag)+k)).map δ)):=by
  show(if ϒ ((-1000000:ag)<=1)&&ϒ ((1:ag)<=1000000)&&ϒ (-1000000<=(Z.length:ag)+1)&&ϒ ((Z.length:ag)+1<=1000000) then τ (ξ ((cq ((Z.length:ag)+1-1).toNat).map λ(k:ah)=>δ (1+k))) else .bad)=_;rw[aq (by simp;lia),show((Z.length:ag)+1-1).toNat=Q.length by lia,df];rfl
 refine(cR rfl).trans (call_v ?_);refine aL (ρ':=[.lst (Z.map enP),net,.uD,.uD,.uD]) (oG (aIp (uQ (b:=af) (zT (aDt (x:=.lst (Z.map enP)) rfl rfl))) (dC (aM (x:=.int Z.length) (y:=.int Z.length) (aK (xs:=[.lst (Z.map enP)]) (aC rfl rfl) hlE) (aK (xs:=[.tup (Q.map pcD)]) (aC (aM (hb _ _ _ _) rfl e0) rfl) hlQ) (ne_int _)))) rfl) ?_;refine aL (ρ':=[.lst (Z.map enP),net,.dct [(.int 0,.int 0)],.uD,.uD]) (cU (i:=2) (aM rfl rfl rfl) rfl) ?_;refine aL (mK (uK (n:=Z.length) (aC (aK (xs:=[.lst (Z.map enP)]) (aC rfl rfl) hlE) rfl) (by lia) (by lia)) (by rw[ri];exact h1)) ?_;refine aL (ρ':=[.lst (Z.map enP),net,.dct md,x3,x4]) (oG (dC (aM (aK (xs:=[.lst ((Z.map (·.2)).map δ)]) (aC hc rfl) hso) (aK (xs:=[.int 1,.int ((Z.length:ag)+1)]) (aC rfl (aC (aM (aK (xs:=[.lst (Z.map enP)]) (aC rfl rfl) hlE) rfl (iT _ _)) rfl)) hr2) (aIg _))) rfl) ?_;rfl
theorem U0:∀p:aa Pt,lJ (p.map enP) (p.map enP)=af
 |[]=>rfl
 |x::p=>by
  show(eqD (enP x) (enP x)&&lJ (p.map enP) (p.map enP))=af;rw[U0 p,xT,cu rfl];rfl
theorem NP:∀p:aa Pt,μ 11 (p.map enP)=af
 |[]=>rfl
 |x::p=>by
  rw[br,μ,NP p];rfl
theorem aLu(p:aa Pt):b7 .eq (.lst (p.map enP)) (.lst (p.map enP))=.ok (.bl af):=by
 show(if μ 11 (p.map enP)&&μ 11 (p.map enP) then τ (π (lJ (p.map enP) (p.map enP))) else .bad)=_;rw[NP,U0];rfl
theorem aIi{sc stk net td:D}{nd:aa (D×D)}{Z:aa Pt}{c0 c1:D}{cs:D}(hsc:sc≠.uD)(hnet:net≠.uD)(htd:td≠.uD)
 (hc0:cF 2 bW [sc,.int 0]=.ok c0)(hc1:cF 2 bW [sc,.int 1]=.ok c1)(hstk:cF 2 fU [c0,c1]=.ok stk)(hstu:stk≠.uD)(hcs:Y4 sc (ae 2) (ae 66)=.ok cs)(hg:cF 3 iH [stk,cs,c0]=.ok net)
 (hw:cF 1 yF [net]=.ok (.lst (Z.map enP)))(hn:cF 2 iY [.lst (Z.map enP),net]=.ok (.dct nd))(ht:cF 1 zK [net]=.ok td)(hc:cF 2 d9 [net,.dct nd]=.ok td)(hs:cF 2 (bT 6) [td,td]=.ok (.bl af))(hZl:Z.length<=1000):QZ [sc]=.ok (.bl af):=by
 have hsnoc:bB .add (.lst (Z.map enP)) (.lst [enP (0,0)])=.ok (.lst ((Z++[(0,0)]).map enP)):=by
  rw[c5];exact DR _ _ (by rw[aI,bA,jh];lia) (gJ Z) rfl
 have hpz:=gJ Z;have heq:=aLu (Z++[(0,0)]);have hlz:(Z.map enP).length<lim:=by rw[aI,bA];lia
 have happ:Z.map enP++[enP (0,0)]=(Z++[(0,0)]).map enP:=by rw[c5];rfl
 generalize (Z++[(0,0)]).map enP=Z' at hsnoc heq happ;generalize Z.map enP=Zd at *;have v0:∀(x1 x2 x3 x4 x5 x6 x7:D),jZ 0 [sc,x1,x2,x3,x4,x5,x6,x7]=.ok sc:=λ_ _ _ _ _ _ _=>iR rfl hsc
 have v1:∀(x0 x2 x3 x4 x5 x6 x7:D),jZ 1 [x0,stk,x2,x3,x4,x5,x6,x7]=.ok stk:=λ_ _ _ _ _ _ _=>iR rfl hstu
 have v2:∀(x0 x1 x3 x4 x5 x6 x7:D),jZ 2 [x0,x1,net,x3,x4,x5,x6,x7]=.ok net:=λ_ _ _ _ _ _ _=>iR rfl hnet
 have v5:∀(x0 x1 x2 x3 x4 x6 x7:D),jZ 5 [x0,x1,x2,x3,x4,td,x6,x7]=.ok td:=λ_ _ _ _ _ _ _=>iR rfl htd
 have k0:∀(x1 x2 x3 x4 x5 x6 x7:D),(aN (cF 2 bW) (aD cA (aD dF aV))) [sc,x1,x2,x3,x4,x5,x6,x7]=.ok c0:=λ_ _ _ _ _ _ _=>aK (aC (v0 _ _ _ _ _ _ _) (aC rfl rfl)) hc0
 have k1:∀(x1 x2 x3 x4 x5 x6 x7:D),(aN (cF 2 bW) (aD cA (aD e_ aV))) [sc,x1,x2,x3,x4,x5,x6,x7]=.ok c1:=λ_ _ _ _ _ _ _=>aK (aC (v0 _ _ _ _ _ _ _) (aC rfl rfl)) hc1
 refine call_v ?_;refine aL (ρ':=[sc,stk,.uD,.uD,.uD,.uD,.uD,.uD]) (bN (i:=1) (aK (xs:=[c0,c1]) (aC (k0 _ _ _ _ _ _ _) (aC (k1 _ _ _ _ _ _ _) rfl)) hstk)) ?_;refine aL (ρ':=[sc,stk,net,.uD,.uD,.uD,.uD,.uD]) (bN (i:=2) (aK (xs:=[stk,cs,c0]) (aC (v1 _ _ _ _ _ _ _) (aC (aF6 (v0 _ _ _ _ _ _ _) rfl rfl hcs) (aC (k0 _ _ _ _ _ _ _) rfl))) hg)) ?_;refine aL (ρ':=[sc,stk,net,.lst Zd,.uD,.uD,.uD,.uD]) (cU (i:=3) (aK (xs:=[net]) (aC (v2 _ _ _ _ _ _ _) rfl) hw) hpz) ?_;refine aL (ρ':=[sc,stk,net,.lst Zd,.dct nd,.uD,.uD,.uD]) (bN (i:=4) (aK (xs:=[.lst Zd,net]) (aC rfl (aC (v2 _ _ _ _ _ _ _) rfl)) hn)) ?_;refine aL (ρ':=[sc,stk,net,.lst Zd,.dct nd,.uD,.uD,.uD]) (oG (dC (aM rfl rfl rfl)) rfl) ?_;refine aL (ρ':=[sc,stk,net,.lst Zd,.dct nd,td,.uD,.uD]) (bN (i:=5) (aK (xs:=[net]) (aC (v2 _ _ _ _ _ _ _) rfl) ht)) ?_;refine aL (ρ':=[sc,stk,net,.lst Zd,.dct nd,td,.uD,.uD]) (oG (uQ (b:=af) (zT (aK (xs:=[td,td]) (aC (v5 _ _ _ _ _ _ _) (aC (aK (xs:=[net,.dct nd]) (aC (v2 _ _ _ _ _ _ _) (aC rfl rfl)) hc) rfl)) hs))) rfl) ?_;refine aL (ρ':=[sc,stk,net,.lst Zd,.dct nd,td,.lst Zd,.uD]) (bN (i:=6) (aK (xs:=[.lst Zd]) (aC rfl rfl) ?_)) ?_
 ·show(if θ Zd then τ (ξ Zd) else .bad)=_;have:θ Zd=af:=hpz;rw[this,aq rfl]
 have hap:mY 3 (fQ (aD dF (aD dF aV))) [sc,stk,net,.lst Zd,.dct nd,td,.lst Zd,.uD]=.ok (.nx [sc,stk,net,.lst Z',.dct nd,td,.lst Zd,.uD]):=by
  rw[<-happ];exact jT (i:=3) (xs:=Zd) (d:=enP (0,0)) (dM (xs:=[.int 0,.int 0]) (aC rfl (aC rfl rfl)) aC4) rfl hlz rfl
 refine aL hap ?_;refine aL (ρ':=[sc,stk,net,.lst Z',.dct nd,td,.lst Zd,.dct nd]) (bN (i:=7) (aK (xs:=[.lst Zd,net]) (aC (aK (xs:=[net]) (aC (v2 _ _ _ _ _ _ _) rfl) hw) (aC (v2 _ _ _ _ _ _ _) rfl)) hn)) ?_;refine aL (ρ':=[sc,stk,net,.lst Z',.dct nd,td,.lst Zd,.dct nd]) (oG (aIp (dC (aM rfl rfl rfl)) (uQ (b:=af) (zT (aK (xs:=[td,td]) (aC (aK (xs:=[net]) (aC (v2 _ _ _ _ _ _ _) rfl) ht) (aC (v5 _ _ _ _ _ _ _) rfl)) hs)))) rfl) ?_;refine gU (T5 (aM (x:=.lst Z') (y:=.lst Z') rfl (aM (x:=.lst Zd) (y:=.lst [enP (0,0)]) rfl (aF3 (xs:=[enP (0,0)]) (aC (dM (xs:=[.int 0,.int 0]) (aC rfl (aC rfl rfl)) aC4) rfl) (by rw[bA];simp)) hsnoc) heq) (aK (xs:=[td,td]) (aC (v5 _ _ _ _ _ _ _) (aC (aK (xs:=[net,.dct nd]) (aC (v2 _ _ _ _ _ _ _) (aC rfl rfl)) hc) rfl)) hs)) rfl
theorem main:∀ns:aa ag,ns.length<=63->QZ [.scr (ns.map δ)]=.ok (.bl af):=by
 intro ns hn;obtain⟨kvs,k1,k2,k3,k4⟩:=aDq (cellAt ns 0) (cellAt ns 1);have k4':cF 2 fU [.int (cellAt ns 0),.int (cellAt ns 1)]=.ok (.dct kvs):=(cR rfl).trans k4;have hs:Y4 (.scr (ns.map δ)) (ae 2) (ae 66)=.ok (.lst ((cutD ns (ae 2) (ae 66)).map δ)):=by
  show(if θ (ns.map δ) then τ (ξ (cutD (ns.map δ) (ae 2) (ae 66))) else .bad)=_;rw[d8,aq rfl,aGs]
 have hcl:=aGt ns (ae 2) (ae 66);obtain⟨Q,V,r,w,hr,hg⟩:=aDv k1 k2 k3 (cutD ns (ae 2) (ae 66)) (by lia) (cellAt ns 0);obtain⟨Z,hZ,hZ2,hw⟩:=aLt (r:=r) w;have wf:=w.wf;have ql:=wf.ql;have hZl:Z.length<=1000:=by have:=d6 gu hZ;rw[aI] at this;lia
 have h00:0∉Z.map (·.1):=λz=>by have:=wf.qp 0 (by rw[<-hZ];exact z);lia
 have hN:=aO5 (Z:=Z) (by rw[hZ];exact wf.nd) h00;rw[hZ] at hN;have hu:gR Q V r≠.uD:=λz=>by cases z
 have htold:=aE9 (net:=gR Q V r) (r:=r) wf rfl rfl rfl hu hZ hw;have hcar:=RJ (net:=gR Q V r) (r:=r) wf rfl rfl rfl hu hN;have hnew:=aIh (net:=gR Q V r) wf rfl hu hZ hZ2;have hsm:cF 2 (bT 6) [M9 Q V r (nfZ Z),M9 Q V r (nfZ Z)]=.ok (.bl af):=aDu (by rw[(RC _).length_eq,aI];rw[aI] at ql;lia) (by rw[(oR _).length_eq,aI,aI];have:=wf.vl;lia);exact aIi (λz=>by cases z) hu (λz=>by cases z) (cell_eq ns 0) (cell_eq ns 1) k4' (λz=>by cases z) hs hg hw hnew htold hcar hsm hZl
end Lk12
section
open PySem PySem.W PyProof.Rows
namespace PySem.W.Fast
def tw5696548897740149279:=()
def tw3491948004819796703:=()
def tw10934998631083896576:=()
def tw17240625039883639866:=()
def tw3955842400893558768:=()
def tw2174176700174480883:=()
def tw12212782062921386718:=()
def tw10148626444026088926:=()
def tw3012501231572258601:=()
def tw2191766370733323692:=()
def tw8836632837193631028:=()
def tw386792673889231195:=()
def tw15307438289195967916:=()
def tw10982403760307506993:=()
def tw14813462019199855293:=()
def tw6293650945922414210:=()
def tw10662083931890443524:=()
def tw2730865848456706568:=()
def tw2152314786018893459:=()
def tw5649540091316668567:=()
def tw14069662139729607824:=()
def tw11566182430728821538:=()
def tw4814727298177258436:=()
def tw14353262185603853664:=()
def tw16100733618486146139:=()
def tw163647255387615113:=()
def tw5622339885561441859:=()
def tw12227433751303708615:=()
def tw14999856281535860946:=()
def tw9559689971897510270:=()
def tw9242937853495884941:=()
def tw17896527364716593399:=()
def tw14022829732628192659:=()
def tw521065408120286860:=()
def tw491044517659112381:=()
def tw4981861686094982401:=()
def tw12731064020132116694:=()
def tw3504887372853920628:=()
def tw13936243429502627716:=()
def tw739769641546189391:=()
def tw4871476866108190995:=()
def tw4596778721673574266:=()
def tw12171238204884535115:=()
def tw18271783984463946130:=()
def tw13030959279040376121:=()
def tw12634862112080662678:=()
def tw13516790703087870609:=()
def tw12295587731600917806:=()
def tw5609085245810581916:=()
def tw5925810446829824418:=()
def tw10787278571599709021:=()
def tw5180010598532225315:=()
def tw15038987041570338135:=()
def tw36816488055092098:=()
def tw6608335716022342302:=()
def tw18221669425128953538:=()
def tw14064937427155484877:=()
def tw7955774393598946439:=()
def tw3328165138614110667:=()
def tw8843646362387305423:=()
def tw15354334867889217150:=()
def tw5840128594264382619:=()
def tw2467160693001447702:=()
def tw11923914293795231473:=()
def tw6275735704808239528:=()
def tw3825196638924570246:=()
def tw1235492522924693035:=()
def tw14807208881297970250:=()
def tw3994093223604006340:=()
def tw7558206939784153004:=()
def tw7423043007623542214:=()
def tw15426133800107162839:=()
def tw10591832536634361476:=()
def tw7543276732900760790:=()
def tw151320675122586652:=()
def tw16334579745813529258:=()
def tw18349419346329055987:=()
def tw14075689015552191081:=()
def tw527038423145636372:=()
def tw16181841480722156350:=()
def tw1780053786099782200:=()
def tw6778906887018659384:=()
def tw18305033415680510958:=()
def tw7680934636202296975:=()
def tw10096086225214205705:=()
def tw13093744333743573873:=()
def tw7195514015527376879:=()
def tw2848823241274644164:=()
def tw10218866486932193010:=()
def tw5882985996376318579:=()
def tw13148039201563194279:=()
def tw5425954547155806642:=()
def tw10254835297839010033:=()
def tw4434932763787126194:=()
def tw14235287116908897044:=()
def tw4147122532935780703:=()
def tw9395811219464760240:=()
def tw11820137987685259829:=()
def tw6480845770848706599:=()
def tw7956414376497195634:=()
def tw12792493449405573767:=()
def tw5801597290534232872:=()
def tw2068540524929065041:=()
def tw10849002964652472469:=()
def tw5827784591180422175:=()
def tw6521151451449078451:=()
def tw17361061657726205838:=()
def tw8205401936611089865:=()
def tw12499047665567461246:=()
def tw9912411304351919183:=()
def tw11962564261002224135:=()
def tw524960195196744985:=()
def tw10063391483102080393:=()
def tw15727725099945546456:=()
def tw14511827256841053687:=()
def tw8682059874325713370:=()
def tw14946785428303519653:=()
def tw10270533306466079579:=()
def tw12120594835303798363:=()
def tw9279524892495961933:=()
def tw5859920261126489350:=()
def tw3685937054815724655:=()
def tw12897715059374641758:=()
def tw2229998057044864945:=()
def tw15292839586333325957:=()
def tw480254354241619228:=()
def tw5863593234688873028:=()
def tw8414921721501439529:=()
def tw10856058810338892386:=()
def tw12696376572137086484:=()
def tw2220682275848363755:=()
def tw6476926642783453753:=()
def tw13991402523272821327:=()
def tw11348181885756086621:=()
def tw4622869729146027504:=()
def tw15377074241453678954:=()
def tw13949785561901200049:=()
def tw8083850749838082106:=()
def tw14682122330010245922:=()
def tw16943269801455180300:=()
def tw201968472128492071:=()
def tw11749601612885513296:=()
def tw107118272992631931:=()
def tw3290754005802241152:=()
def tw12575595133605663851:=()
def tw14980361753946261930:=()
def tw12547385056498529213:=()
def tw17582051822410436255:=()
end PySem.W.Fast
set_option maxRecDepth 100000 in
set_option maxHeartbeats 0 in
theorem PySem.Challenge.cw_hookmill_k12_way_holds : PySem.Challenge.rw_hookmill_k12_way.Holds := by
 w_on;o_law;k_head;(case hw=>w_witness2)
 k_fill
 refine Lk12.walk (l:=PySem.Challenge.rw_hookmill_k12_way) Lk12.main rfl rfl (fun w h Y=>PySem.W.kIn_of Y) ?F
 case F=>
  intro w mg fa h KX G hmg
  refine' Lk12.aKz KX G hmg ?a0 ?a1 ?a2 ?a3 ?a4 ?a5 ?a6 ?a7 ?a8 ?a9 ?a10 ?a11 ?a12 ?a13 ?a14 ?a15 ?a16 ?a17 ?a18 ?a19 ?a20 ?a21 ?a22 ?a23 ?l23 ?c23 ?k23 ?p8 ?p9 ?pf ?pg ?ph ?pj ?pk ?po ?pq ?pz ?pA ?pB ?pC ?pD ?pG ?pH ?pI ?pJ
  (case a0|a1|a2|a3|a4|a5|a6|a7|a8|a9|a10|a11|a12|a13|a14|a15|a16|a17|a18|a19|a20|a21|a22=>refine' Lk12.aNb ?a ?b ?c ?d;(case a=>k_is);(case b=>k_is);(case c=>k_is);case d=>k_is)
  (case a23|l23|c23|k23|p8|p9|pf|pg|ph|pj|pk|po|pq|pz|pA|pB|pC|pD|pG|pH|pI|pJ=>k_is)
end
