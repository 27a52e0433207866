import PyProof.Rows.All
import Wide.All
import OpenK.AllK
import Wide.FinOn
import PySem.Challenge.RW_hookmill_k03_no_net
open Array renaming toList_append->fy,length_toList->gj,getElem?_toList->gX,getD->ir,toList_inj->kT,toList_push->kU,toList_extract->mv,toList_reverse->ol,getElem?_eq_some_iff->sj,toList->sT,perm_iff_toList_perm->vo,getElem?_eq_getElem->wm,getElem?_eq_none->wn,append_assoc->xu,size_setIfInBounds->zb,toList_setIfInBounds->zc,size_extract->zd,toList_modify->zg,size_map->zv
open Array.Perm renaming refl->mE
open Bool renaming true->af,false->ag,and_eq_true->bj,false_eq_true->db,or_eq_true->iv,and_self->iX,not_eq_true'->ko,not_true->kQ,true_and->lc,not_false->qmt,false_ne_true->ve,false_or->vg,and_true->vz,or_false->yg,and_false->yo,true_or->yq,and_assoc->zo,decide_and->A6
open Classical renaming choose->zD,choose_spec->zI,byContradiction->Bz
open False renaming elim->dE
open ForInStep renaming yield->vp
open Function renaming comp_def->Bk,comp->BB
open Int renaming emod_nonneg->eM,emod_lt_of_pos->gi,toNat_natCast->wo,mul_nonneg->w_,add_assoc->xj,mul_one->xE,lt_irrefl->zi,mul_le_mul->AV,zero_add->A3,le_refl->A5
open List renaming length_map->bp,map_cons->bw,mem_cons->bX,mem_cons_of_mem->b6,replicate->ck,length_cons->cr,mem_cons_self->cu,size_toArray->cv,mem_map->cS,length_append->de,getD_eq_getElem?_getD->dh,map_append->dv,getElem?_eq_getElem->dP,all_eq_true->dQ,getElem?_eq_some_iff->d4,append_assoc->eh,cons_append->ek,getElem?_set_ne->en,range->eu,mem_append->eJ,getElem?_append_right->eL,nodup_cons->eR,mem_append_right->eT,getElem?_set_self->fi,length->fx,map->fE,append_nil->fS,length_nil->fT,nil_append->gd,map_map->gf,drop_eq_getElem_cons->gq,cons_lt_cons_iff->gu,mem_filter->gL,length_take->gS,all_cons->hI,nodup_nil->hZ,getElem?_replicate->io,getElem?_append_left->ip,lookup_cons->iw,getElem_mem->jc,take_append_drop->jd,nodup_append->jt,any_cons->ki,filter_cons->kj,length_range->kr,filter_eq_self->ky,mem_range->kB,length_drop->kM,find?_cons->kN,map_nil->kP,map_congr_left->lb,filterMap_cons->lI,mem_append_left->lP,getElem?_map->ma,mem_of_getElem?->me,extract_eq_take_drop->mw,getElem?_drop->my,take_of_length_le->mz,getElem_of_mem->mB,toList_toArray->mS,pairwise_map->m4,map_id->nh,getElem?_take_of_lt->nz,drop_of_length_le->oh,take_add_one->oi,pairwise_cons->om,foldl_cons->oq,zip_cons_cons->oy,drop_eq_nil_of_le->oS,range'->r_,perm_middle->sB,length_pos_iff->sD,mem_filterMap->uo,of_mem_zip->ur,pairwise_iff_getElem->vm,eq_nil_of_length_eq_zero->wa,getElem?_set->wj,getElem?_eq_none->ww,filter_sublist->w8,range'_succ->xa,range_eq_range'->xf,flatMap_cons->xh,mem_flatMap->xi,length_replicate->x5,length_singleton->yn,length_filter_le->yt,mem_singleton->yz,mem_of_mem_drop->yA,take_zero->yT,drop_zero->yY,drop_drop->za,set_append_right->zf,lt_of_le_of_lt->zk,not_lt->zl,zip_nil_left->zq,zip_nil_right->zr,lt_irrefl->zS,take_length->Ai,mem_range'_1->Al,mem_of_mem_take->Ao,map_drop->Ar,length_take_le'->As,sum_cons->AE,getElem?_eq_none_iff->AF,set_set->AI,all_nil->AW,foldl_nil->AX,count_cons->AY,length_eq_zero_iff->A4,singleton_append->A8
open List.Nodup renaming count->BM
open List.Pairwise renaming map->xg,nil->Bi
open List.Perm renaming append_left->sC,refl->xb,eq_of_pairwise->Bj,cons->BI,append_right->BO
open List.Sublist renaming map->BH,refl->BN
open List.cons renaming injEq->iO
open Nat renaming le_refl->bi,ne_of_lt->c9,le_trans->du,lt_of_lt_of_le->dz,zero_le->eS,lt_irrefl->fg,lt_succ_of_lt->hX,le_succ->jg,lt_succ_self->jh,ne_of_gt->jx,le_of_lt->lz,lt_or_ge->mP,le_of_eq->n9,add_zero->vn,add_assoc->ze,le_succ_of_le->zw,lt_of_le_of_lt->Ak
open Nat.succ renaming inj->wl
open Option renaming some->ae,none->aj,isSome_iff_exists->kK,getD_some->mM,bind_some->ni,map_eq_some_iff->nV,isSome_some->vf,isSome_map->vh,getD_none->yh
open Option.some renaming inj->cz
open Or renaming inl->iF
open Prod renaming snd->AZ
open PyProof.Rows renaming arrOf->am,Keyed->au,wpS_bind->aI,wpS_pure->aT,pendingOf->bn,SortSt->cg,wpS->c6,mirror->c8,envOfC->dj,setArr->dm,wpS_mono->dw,wpS_forRange->dy,seqObj->em,failedOf->fq,pairsOf->fz,SortKind->f_,wpS_get->gr,AllBare->ii,wpS_modify->iL,wpS_reverse->iN,wpS_lift->jb,mirror_perm->je,mirror_size->kn,IntsAre->mj,subscriptTail->nK,setPending->ot,bubble->ou,tuples'->oD,slot_tuple_getitem->uS,keyKind'->vE,sortedHeap->vF,listUpdate_at->vS,seqEpoch_at->vT,callWith_type1->xI,slicePart_none->ya,subscriptTail_builtinR->ye,keyLt'_oneType->z3,oneLt_int->z5,oneLt_str->Aa,pairsOf_size->Ab,callWith_builtin1->Ba,lt_int->Bn,le_int->Bo,gt_int->Bp,ge_int->Bq,lt_str->Br,lt'_eq->Bu,pairsOf_toList->Bv,mem_zip_self->Bw,collect_list->Bx,size_push'->By
open PyProof.Rows.SortSt renaming mk'->mr
open PySem renaming Value->ak,Addr->al,Shared->ao,wpAny_bind->aw,model->ax,Heap->aS,Obj->bf,mainGlobals->bg,wpAny_pure->bh,World->bo,sizeLine->bq,starEach->br,Program->bu,Stmt->bE,Around->bP,cLine->b9,Pos->cb,Env->c5,compareOp->c_,argBest->dn,backTo->dA,swapsWith->dL,Scope->dS,wpAny_mono->d5,foldedSetIterable->d6,FuncData->eo,Sem->eB,bootBuiltins->eI,sysModules->eP,wpAny_newObj_type->eW,Tok->e9,binaryOp->fj,sizeLine_eq->fo,strIterType->fw,pyNext->fI,pyIter->fN,CmpOp->fR,rawInt->gn,wpAny_holding->gV,plainId_quiet->ig,Model->ij,wpAny_truthy_bool->ik,NameKind->im,Keyword->iq,relabel->ix,IsPart->iz,atKey->iA,DictEntry->iE,codeAny_builtin->iP,bindL->i6,bindC->i7,attributeBase->i8,valueAt->i9,wpAny_tryCatch->jo,wpAny_letGo->jq,assign->jv,assignEach->jw,rule->jy,wpAny_field->jS,getItem->ka,sliceBounds->kb,typeOf->ke,callerA->kl,wpAny_rule->km,Paired->kz,tupleKind->kA,behindInMarks->kF,BindsTo->kG,codeAny_mono->kH,mem_of_lookup->kL,compPost->k7,richCompare->k8,collect->la,seqItems?->lg,wpAny_seqItems->lh,updateSeq->li,wpAny_updateSeq->lj,wpAny_of_eq->lm,numAt->lv,letOwnedTupleGo->lS,wpAny_passesOwn->lT,Result->l8,wpAny_call_entry->mf,backToKw->mh,keywordEach->mi,wpAny_attempt->mT,wpAny_pyIter_list->ng,wpAny_setField->nj,Str->nl,isTrue->nn,PassesOwn->nq,unaryOp->nt,lastMarks->nu,wpAny_call->nw,wpAny_Call_Name_kw->ny,subscripted->nN,without->nS,tupleKind_room_in1->nX,Params->n4,Builtin->og,richCompare_meets_room->oB,call_function_tree->oP,wpAny_typeNameOfWhole_keyiter->su,wpAny_fieldsOf->sv,wpAny_typeNameOf_keyiter->sA,builtinsNs->sQ,wpAny_Name->sR,wpAny_execs_nil->s_,wpAny_execs_cons->tv,holding->uq,cellsFrom->ut,wpAny_callSpecial?_slot->uw,operate->va,typeIs_str->vb,call_meets->vd,call->vk,newList->vx,newTuple->wf,wpAny_pyIter_tuple->wg,setField->wu,noteFrame->wv,wpAny_dictEntries->wx,wpAny_dictEpoch->wy,wpAny_isOneOf_keyiter->wz,Within->xr,interactive->xw,wpAny_Expr_any->xy,swapsWithSole->xA,swappedStores->xB,IsRangeIter->xD,intBits_le_64->xL,recursionLimit->xS,evalPart_none->yc,seqIndex_of->yd,slot_list_getitem->yf,call_list_seq->yj,call_meetsIn->yu,comprehension->zm,eval_ListComp->zn,wpAny_newList->zt,codeAny_call_builtin->Ax,checkBuiltinCall->Az,firstArgMember->AQ,wpAny->ϑ
open Decidable renaming decide->ϒ
open PySem.Around renaming under_plainId->jm
open PySem.AutoSeq1 renaming list_extend_list_list_0->Bg,sub_tuple_tuple->Bl,list_insert_list_int_val_1->BA
open PySem.Builtin.Builtins renaming bindParams->oQ
open PySem.Builtin.Dict renaming dictSlotNone->BF,showsAll->BG
open PySem.Builtin.Dict_items renaming ownsTuple->AL
open PySem.Builtin.List renaming listTooLong->vc,listFitsIndex->An,listExtendWith->AR
open PySem.Builtin.Range renaming rangeSize->A9
open PySem.Builtin.Slice renaming slicePlaces->nE,sliceAdjust->uv,sliceApplied->yb,slicePartIndex->Bb,sliceFields->Bc
open PySem.Builtin.Str renaming strSliceIndices->Aq
open PySem.Builtin.Tuple renaming tupleExact->nI,tupleItemsOf->Bd,tupleCompareSizes->Bm
open PySem.Calls renaming Name_function_global->xv,callWith_builtin->yk,evalArgs_plain->yl
open PySem.Data renaming seq->xq
open PySem.EntryCells renaming newEntry->AD
open PySem.F renaming plain_min_loop->jn,plain_max_loop->jr,slot_dict_keyiterator_next->nk,entry_min_loop->wd,entry_max_loop->we,plainAttrs_list->wk,slot_list_append->ym,slot_list_extend->yp,slot_dict_pop->yw,kind_min->Ac,plain_min->Ad,entry_min->Ae,kind_max->Af,plain_max->Ag,entry_max->Ah,slot_list_insert->Am,excBase_ValueError->Av,excAttr_ValueError->AA,slot_dict_values->AG,plainAttrs_dict->AH,slot_dict_iter->AK,entry_dict_keyiterator_next->AM,args_dict_keyiterator_next_1->AN,plain_list_iadd->AS
open PySem.Heap renaming lt_size->bS,get?_push_of_some->cq,get?_push_size->dg,size_push->ji,get?_update_other->kh,get?_update_self->kq,SameBut->kC,size_update->v3,get?_push_ne->zu,get?_update_ne->zC,MadeExcOf->Au
open PySem.Heap.DictOf renaming new->Bh
open PySem.Heap.IsSliceOf renaming new->Be
open PySem.Heap.SameBut renaming update->AO
open PySem.Heap.UpToSlots renaming trans->AJ,of_keeps->BE
open PySem.IsL renaming update->Bf
open PySem.NameKind renaming free->jf,cell->vq
open PySem.Obj renaming mapSeq->e8,mapFields->sh,data_mapFields->si,isFreed_of_fields->AB,cls_mapFields->AC
open PySem.Paired renaming length->i5,snoc->yr
open PySem.PassesOwn renaming never->fA,leaving->BD
open PySem.SeqAt.EqAt renaming same->vy,int_str->xn,str_int->xo,of_refs->zp
open PySem.Str renaming ofString->uz
open PySem.Txt renaming slice->iS,slice_le->Ap
open PySem.Value renaming ref->ff,none->fF,int->lx,str->ly,builtin->sf,bool->sL,isInt->xl,isStrOf->xm
open PySem.Value.ref renaming inj->BC
open PySem.W renaming Frag->bz,kitOne->cy,Looks->jl,keepIn->jz,fnOf->jI,findIn->lr,codeIn->nB,nsIn->ox,excIn->sd,mroIn->se,exmOne->sr,methodObj->sM,hideAll->sN,of_hideAll->sP,kat_kind->wb,looks_findIn->wt,hideAll_get->xt,cellsFrom_some->x3,looks_mroIn->Aw
open PySem.W.KF renaming slot_gs->Ay
open PySem.W.Looks renaming of_pure->oI,ld->wc
open PySem.W.WData renaming int->yx
open PySem.W.WShape renaming has->yy
open PySem.Walks renaming tuple->Aj
open Sum renaming inr->i0,inl->ju
open _root_ renaming List->aa,Nat->ah,Int->ai,Bool->aq,if_pos->av,Option->ay,if_neg->az,Array->aE,absurd->bb,False->cm,if_true->cw,if_false->cx,decide_eq_true->cK,congrArg->di,decide_eq_false->dq,String->dr,decide_eq_true_eq->eD,of_decide_eq_true->ft,DecidableEq->gw,True->gz,Unit->gN,beq_iff_eq->iu,StateT->ja,not_or->kX,beq_self_eq_true->mI,Decidable->oj,dif_pos->ov,decide_eq_false_iff_not->ow,eq_iff_iff->oz,beq_eq_false_iff_ne->sK,eq_false_of_ne_true->yB,getElem?_pos->zh,bne_self_eq_false->zz,decide_true->AT,decide_false->AU,decide_eq_decide->A7
set_option Elab.async false
set_option maxRecDepth 100000
set_option maxHeartbeats 4000000
noncomputable section
set_option linter.all false
set_option autoImplicit true
set_option genSizeOfSpec false
set_option genInjectivity true
abbrev nDb(x:nl):Prop:= (x==("__debug__" : nl))=ag
abbrev nCd(x:nl):Prop:= (x==("__classdict__" : nl))=ag
namespace L2
open PySem PySem.Spec PyProof.Rows
noncomputable abbrev Key:=Sum ai Str
noncomputable def QC:Key->ak->aq
 |.inl k,v=>xl k v
 |.inr x,v=>xm x v
noncomputable def aNi(w:bo):Key->ai
 |.inl k=>hashInt k
 |.inr x=>hashStr w x
theorem cT:∀{k:Key}{v:ak},QC k v=af->(∃i t,k=ju i/\v=lx i t)\/(∃x t,k=i0 x/\v=ly x t)
 |.inl i,v,h=>by
  obtain⟨t,e⟩:=Value.isInt_shape (k:=i) (v:=v) h;exact .inl ⟨i,t,rfl,e⟩
 |.inr x,v,h=>by
  obtain⟨t,e⟩:=Value.isStrOf_shape (x:=x) (v:=v) h;exact .inr ⟨x,t,rfl,e⟩
theorem Y4(i:ai)(t:e9):QC (.inl i) (.int i t)=af:=by simp[QC,xl]
theorem Y5(x:Str)(t:e9):QC (.inr x) (.str x t)=af:=by simp[QC,xm]
theorem aIm(a b:ai):ϒ ((ju a:Key)=ju b)=(a==b):=by
 by_cases e:a=b
 ·subst e;simp
 ·have h:¬(ju a:Key)=ju b:=λq=>e (Sum.inl.inj q)
  rw[dq h];exact(sK.mpr e).symm
theorem aIn(a b:Str):ϒ ((i0 a:Key)=i0 b)=ϒ (a=b):=by
 by_cases e:a=b
 ·subst e;simp
 ·have h:¬(i0 a:Key)=i0 b:=λq=>e (Sum.inr.inj q)
  rw[dq h,dq e]
theorem aIo(a:ai)(b:Str):ϒ ((ju a:Key)=i0 b)=ag:=dq (λq=>nomatch q)
theorem aIp(a:Str)(b:ai):ϒ ((i0 a:Key)=ju b)=ag:=dq (λq=>nomatch q)
def cU(prog:bu)(w:bo):PySem.KeyKind prog w Key where
 is:=QC
 hash:=aNi w
 inj:=λv a b ha hb=>by
  rcases cT ha with ⟨i,t,rfl,rfl⟩|⟨x,t,rfl,rfl⟩
  ·rcases cT hb with ⟨j,u,rfl,e⟩|⟨y,u,rfl,e⟩
   ·injection e with e1 _;rw[e1]
   ·exact nomatch e
  ·rcases cT hb with ⟨j,u,rfl,e⟩|⟨y,u,rfl,e⟩
   ·exact nomatch e
   ·injection e with e1 _;rw[e1]
 byValue:=λk v h=>by
  rcases cT h with ⟨i,t,rfl,rfl⟩|⟨x,t,rfl,rfl⟩<;>rfl
 pyHash:=λhv h=>by
  rcases cT hv with ⟨i,t,rfl,rfl⟩|⟨x,t,rfl,rfl⟩
  ·exact wpAny_pyHash_int h
  ·exact wpAny_pyHash_str h
 eqBool:=λhu hv h=>by
  rcases cT hu with ⟨i,t,rfl,rfl⟩|⟨x,t,rfl,rfl⟩
  ·rcases cT hv with ⟨j,u,rfl,rfl⟩|⟨y,u,rfl,rfl⟩
   ·rw[aIm] at h;exact wpAny_eqBool_int h
   ·rw[aIo] at h;exact xn i t y u _ _ _ _ h
  ·rcases cT hv with ⟨j,u,rfl,rfl⟩|⟨y,u,rfl,rfl⟩
   ·rw[aIp] at h;exact xo x t j u _ _ _ _ h
   ·rw[aIn] at h;exact wpAny_eqBool_str h
 «strs»:=λk x t v h=>by
  rcases cT h with ⟨i,u,rfl,e⟩|⟨y,u,rfl,e⟩
  ·exact nomatch e
  ·injection e with e1 _
   subst e1;cases v<;>rfl
theorem QD(prog:bu)(w:bo)(i:ai)(t:e9):(cU prog w).is (.inl i) (.int i t)=af:=Y4 i t
theorem QF(prog:bu)(w:bo)(x:Str)(t:e9):(cU prog w).is (.inr x) (.str x t)=af:=Y5 x t
inductive V where
 |non|bl (b:aq)|int (i:ai)|str (x:Str)|byt (b:aE UInt8)|flt (b:UInt64)|ref (a:al)|ty (n:dr)
 deriving gw
def RelV:V->ak->Prop
 |.non,u=>u=fF
 |.bl b,u=>u=sL b
 |.int i,u=>∃t,u=lx i t
 |.str x,u=>∃t,u=ly x t
 |.byt b,u=>∃t,u=Value.bytes b t
 |.flt b,u=>∃t,u=Value.float b t
 |.ref a,u=>u=ff a
 |.ty n,u=>u=Value.type n
abbrev Vals:aa V->aa ak->Prop:=kz RelV
theorem Vals.length{xs:aa V}{us:aa ak}(r:Vals xs us):xs.length=us.length:=i5 r
theorem Vals.get:∀{xs:aa V}{us:aa ak}{i:ah}{x:V},Vals xs us->xs[i]?=ae x->∃u,us[i]?=ae u/\RelV x u
 |_,_,_,_,.nil,e=>by simp at e
 |_,_,0,_,.cons r _,e=>by simp at e;subst e;exact⟨_,rfl,r⟩
 |_,_,i+1,x,.cons _ t,e=>by
  obtain⟨u,h1,h2⟩:=Vals.get (i:=i) (x:=x) t (by simpa using e);exact⟨u,by simpa using h1,h2⟩
theorem Vals.append:∀{xs ys:aa V}{us ws:aa ak},Vals xs us->Vals ys ws->Vals (xs++ys) (us++ws)
 |_,_,_,_,.nil,s=>s
 |_,_,_,_,.cons r t,s=>.cons r (Vals.append t s)
theorem Vals.take:∀{xs:aa V}{us:aa ak}(n:ah),Vals xs us->Vals (xs.take n) (us.take n)
 |_,_,0,_=>.nil
 |_,_,_+1,.nil=>.nil
 |_,_,n+1,.cons r t=>.cons r (Vals.take n t)
theorem Vals.drop:∀{xs:aa V}{us:aa ak}(n:ah),Vals xs us->Vals (xs.drop n) (us.drop n)
 |_,_,0,r=>r
 |_,_,_+1,.nil=>.nil
 |_,_,n+1,.cons _ t=>Vals.drop n t
def Y6:ay V->ay ak->Prop
 |some v,ae u=>RelV v u
 |none,aj=>gz
 |_,_=>cm
def KV{κ:Type}:aa (κ×V)->aa (κ×ak)->Prop:=kz λ(p:κ×V)(q:κ×ak)=>p.1=q.1/\RelV p.2 q.2
noncomputable def kV:Key->V
 |.inl i=>.int i
 |.inr x=>.str x
inductive HO where
 |lst (xs:aa V)
 |tup (xs:aa V)
 |dK (kvs:aa (Key×V))|dT (kvs:aa (aa Key×V))
 |set (S:ai->aq) (n:ah)
 |ins (C dx:al) (fs:aa (Str×V))
 |own (x:al)
 |xd (fs:aa (Str×V))
 |met (f x:al)
 |rng (lo hi:ai)
 |frz (o:bf) (u:HO)
 |tbl (ps:aE ak)
 |ext (φ:aS->Prop)
noncomputable abbrev Hp:=al->ay HO
noncomputable def upd(H:Hp)(a:al)(o:HO):Hp:=λb=>if b=a then ae o else H b
theorem aN{H:Hp}{a:al}{o:HO}:upd H a o a=ae o:=by unfold upd;rw[av rfl]
theorem bD{H:Hp}{a b:al}{o:HO}(h:b≠a):upd H a o b=H b:=by unfold upd;rw[az h]
theorem QG{H:Hp}{a:al}{o u:HO}:upd (upd H a o) a u=upd H a u:=by
 funext b;unfold upd;split<;>rfl
theorem aFx{H:Hp}{a b:al}{o u:HO}(h:H a=ae o)(h':H b=ae u)(d:o≠u):a≠b:=by
 intro e;subst e;rw[h] at h';exact d (cz h')
theorem cD{H:Hp}{a b:al}{o:HO}(h:H a=ae o)(h':H b=aj):a≠b:=by
 intro e;subst e;rw[h] at h';cases h'
def mU(h:aS)(a:al)(its:aE ak):Prop:=∃o,h.get? a=ae o/\o.cls=.type "tuple"/\∃n,(o.data,o.dict)=(xq its n,aj)
theorem mU.tup{h:aS}{a:al}{its:aE ak}(t:mU h a its):IsTup h a its:=let ⟨o,e,c,n,d⟩:=t;⟨o,e,c,n,di (·.1) d⟩
theorem mU.bare{h:aS}{a:al}{its:aE ak}(t:mU h a its):∃o,h.get? a=ae o/\o.dict=aj:=let ⟨o,e,_,_,d⟩:=t;⟨o,e,di (·.2) d⟩
theorem mU.new(h:aS)(items:aE ak):mU (h.push {cls:=.type "tuple",data:=.seq items}) h.objs.size items:=⟨_,dg _ rfl,rfl,_,rfl⟩
section
variable (P:bu) (w:bo)
def iC(H:Hp)(h:aS)(a:al):HO->Prop
 |.lst xs=>xs.length<=bq/\∃(its:aa ak)(n:ah),Vals xs its/\h.get? a=ae {cls:=.type "list",data:=.seq its.toArray n}
 |.tup xs=>xs.length<=bq/\∃its:aa ak,Vals xs its/\mU h a its.toArray
 |.dK kvs=>kvs.length<=bq/\(a==eP)=ag/\∃vs,KV kvs vs/\h.DictOf (cU P w) a vs
 |.dT kvs=>kvs.length<=bq/\(a==eP)=ag/\∃xs:aa (aa Key×al×ak),
   kz (λ(p:aa Key×V)(q:aa Key×al×ak)=>p.1=q.1/\H q.2.1=ae (.tup (p.1.map kV))/\RelV p.2 q.2.2) kvs xs/\
   ∃o es ep,h.get? a=ae o/\o.ExactDict/\o.data=.dict es ep/\es.toList=xs.map (entryOfKey (kA (cU P w)))/\(xs.map (·.1)).Nodup
 |.set S n=>h.SetOf (intKind P w) a S n
 |.ins C dx fs=>H dx=ae (.own a)/\fs.length<=1000/\dx≠a/\h.get? a=ae (PySem.W.instObj C dx)/\
   ∃mA,h.Ns1 dx mA/\(∀f,Y6 (fs.lookup f) (mA f))/\xr mA (fs.map (·.1))
 |.own _=>∃o,h.get? a=ae o
 |.xd fs=>∃mA,h.Ns1 a mA/\∀f,Y6 (fs.lookup f) (mA f)
 |.rng lo hi=>∃t u v,h.get? a=ae {cls:=.type "range",data:=.fields #[.int lo t,.int hi u,.int 1 v]}
 |.frz o u=>h.get? a=ae o/\iC H h a u
 |.tbl ps=>h.get? a=ae {cls:=.none,data:=.fields ps}
 |.met f x=>h.get? a=ae (sM (.ref f) (.ref x))
 |.ext φ=>φ h/\(∃o,h.get? a=ae o)/\∀h1 h2:aS,φ h1->(∀o,h1.get? a=ae o->h2.get? a=ae o)->φ h2
def HOk(H:Hp)(h:aS):Prop:=∀a o,H a=ae o->iC P w H h a o
end
section
variable {P:bu} {w:bo} {H H':Hp} {h h':aS} {a:al} {o:HO}
theorem iC.lt(x:iC P w H h a o):a<h.objs.size:=by
 cases o with
 |lst xs=>obtain⟨_,_,_,_,e⟩:=x;exact bS e
 |tup xs=>obtain⟨_,_,_,p⟩:=x;exact p.tup.lt
 |dK kvs=>obtain⟨_,_,_,_,o,_,_,e,_⟩:=x;exact bS e
 |dT kvs=>obtain⟨_,_,_,_,o,_,_,e,_⟩:=x;exact bS e
 |set S n=>obtain⟨o,_,_,_,e,_⟩:=x;exact bS e
 |ins C dx fs=>obtain⟨_,_,_,e,_⟩:=x;exact bS e
 |own y=>obtain⟨_,e⟩:=x;exact bS e
 |xd fs=>obtain⟨_,⟨_,_,_,e,_⟩,_⟩:=x;exact bS e
 |rng lo hi=>obtain⟨_,_,_,e⟩:=x;exact bS e
 |frz ob u=>obtain⟨e,_⟩:=x;exact bS e
 |tbl ps=>exact bS (show h.get? a=ae _ from x)
 |met f y=>exact bS (show h.get? a=ae _ from x)
 |ext φ=>obtain⟨_,⟨_,e⟩,_⟩:=x;exact bS e
theorem Paired.aLp{α β:Type}{F G:α->β->Prop}:∀{l₁:aa α}{l₂:aa β},kz F l₁ l₂->(∀a b,F a b->G a b)->kz G l₁ l₂
 |_,_,.nil,_=>.nil
 |_,_,.cons r t,f=>.cons (f _ _ r) (Paired.aLp t f)
theorem iC.stay(x:iC P w H h a o)(k:∀b u,(b=a\/H b=ae (.own a))->h.get? b=ae u->h'.get? b=ae u)
 (ho:∀b,H b=ae (.own a)->H' b=ae (.own a))(ht:∀b xs,H b=ae (.tup xs)->H' b=ae (.tup xs)):iC P w H' h' a o:=by
 induction o with
 |lst xs=>obtain⟨z,its,n,r,e⟩:=x;exact⟨z,its,n,r,k _ _ (.inl rfl) e⟩
 |tup xs=>obtain⟨z,its,r,ob,e,c⟩:=x;exact⟨z,its,r,ob,k _ _ (.inl rfl) e,c⟩
 |dK kvs=>obtain⟨z,y,vs,r,ob,es,ep,e,c⟩:=x;exact⟨z,y,vs,r,ob,es,ep,k _ _ (.inl rfl) e,c⟩
 |dT kvs=>
  obtain⟨z,y,xs,r,ob,es,ep,e,c⟩:=x;exact⟨z,y,xs,Paired.aLp r λp q z=>⟨z.1,ht _ _ z.2.1,z.2.2⟩,ob,es,ep,k _ _ (.inl rfl) e,c⟩
 |set S n=>obtain⟨ob,es,ep,t,e,c⟩:=x;exact⟨ob,es,ep,t,k _ _ (.inl rfl) e,c⟩
 |ins C dx fs=>
  obtain⟨d,z,ne,e,mA,⟨od,es,ep,e2,c⟩,r⟩:=x;exact⟨ho _ d,z,ne,k _ _ (.inl rfl) e,mA,⟨od,es,ep,k _ _ (.inr d) e2,c⟩,r⟩
 |own y=>obtain⟨ob,e⟩:=x;exact⟨ob,k _ _ (.inl rfl) e⟩
 |xd fs=>obtain⟨mA,⟨od,es,ep,e,c⟩,r⟩:=x;exact⟨mA,⟨od,es,ep,k _ _ (.inl rfl) e,c⟩,r⟩
 |rng lo hi=>obtain⟨t,u,v,e⟩:=x;exact⟨t,u,v,k _ _ (.inl rfl) e⟩
 |frz ob u ih=>obtain⟨e,q⟩:=x;exact⟨k _ _ (.inl rfl) e,ih q⟩
 |tbl ps=>
  have e:h.get? a=ae {cls:=.none,data:=.fields ps}:=x;show h'.get? a=ae {cls:=.none,data:=.fields ps};exact k a _ (.inl rfl) e
 |met f y=>
  have e:h.get? a=ae (sM (.ref f) (.ref y)):=x;show h'.get? a=ae (sM (.ref f) (.ref y));exact k a _ (.inl rfl) e
 |ext φ=>obtain⟨p,⟨o,e⟩,st⟩:=x;exact⟨st _ _ p λo q=>k _ _ (.inl rfl) q,⟨o,k _ _ (.inl rfl) e⟩,st⟩
theorem HOk.lt(x:HOk P w H h)(e:H a=ae o):a<h.objs.size:=(x a o e).lt
theorem HOk.fresh(x:HOk P w H h)(e:h.objs.size<=a):H a=aj:=by
 cases q:H a with
 |none=>rfl
 |some u=>exact bb (dz (x.lt q) e) (fg _)
theorem HOk.kept(x:HOk P w H h)(k:∀b u,h.get? b=ae u->h'.get? b=ae u):HOk P w H h':=λa o e=>
 (x a o e).stay (λb u _ q=>k b u q) (λ_ q=>q) λ_ _ q=>q
theorem HOk.laid(x:HOk P w H h)(k:∀b u,h.get? b=ae u->h'.get? b=ae u)(hp:h.objs.size<=a)(new:iC P w (upd H a o) h' a o):HOk P w (upd H a o) h':=λb u e=>by
 have hn:=x.fresh hp;by_cases hb:b=a
 ·subst hb;rw[aN] at e;cases e;exact new
 ·rw[bD hb] at e;exact(x b u e).stay (λc v _ q=>k c v q) (λc q=>by rw[bD (cD q hn)];exact q) λc xs q=>by rw[bD (cD q hn)];exact q
end
def Rd(H:Hp)(a:al)(u:HO):Prop:=H a=ae u\/∃o,H a=ae (.frz o u)
theorem Rd.ok{P:bu}{w:bo}{H:Hp}{h:aS}{a:al}{u:HO}(r:Rd H a u)(x:HOk P w H h):iC P w H h a u:=by
 rcases r with r|⟨o,r⟩
 ·exact x a u r
 ·obtain⟨_,q⟩:=x a _ r;exact q
def Mut:ay HO->Prop
 |some (.lst _)=>gz
 |some (.dK _)=>gz
 |some (.dT _)=>gz
 |some (.set _ _)=>gz
 |some (.ins _ _ _)=>gz
 |some (.ext _)=>gz
 |_=>cm
section
variable {P:bu} {w:bo} {H:Hp} {h h':aS} {x e:al} {o':HO}
theorem HOk.write(ok:HOk P w H h)(mu:Mut (H x))(he:e=x\/H e=ae (.own x))(k:∀b u,b≠e->h.get? b=ae u->h'.get? b=ae u)(heo:∃u,h'.get? e=ae u)
 (new:iC P w (upd H x o') h' x o'):HOk P w (upd H x o') h':=λb u q=>by
 have nown:∀c y,H c=ae (.own y)->c≠x:=λc y r z=>by subst z;rw[r] at mu;exact mu
 have ntup:∀c xs,H c=ae (.tup xs)->c≠x:=λc xs r z=>by subst z;rw[r] at mu;exact mu
 by_cases hb:b=x
 ·subst hb;rw[aN] at q;cases q;exact new
 ·rw[bD hb] at q;by_cases hbe:b=e
  ·have q':H b=ae (.own x):=by
    rcases he with z|z
    ·exact bb (hbe.trans z) hb
    ·rw[hbe];exact z
   rw[q] at q';cases q';obtain⟨v,hv⟩:=heo;exact⟨v,by rw[hbe];exact hv⟩
  ·refine(ok b u q).stay (λc v hc r=>k c v ?_ r) (λc r=>by rw[bD (nown c b r)];exact r) λc xs r=>by rw[bD (ntup c xs r)];exact r
   rcases hc with rfl|hc
   ·exact hbe
   ·rintro rfl;rcases he with z|z
    ·exact nown c b hc z
    ·rw[hc] at z;cases z;exact hb rfl
end
structure Un(fs ex:aa al)(H H':Hp)(h h':aS):Prop where
 keep:∀b o,h.get? b=ae o->H b=aj->b∉fs->b∉ex->h'.get? b=ae o
 slot:∀b o,h.get? b=ae o->H b=aj->b∈fs->b∉ex->∃sl,h'.get? b=ae {o with slots:=sl}
 free:∀b o,h.get? b=ae o->H b=aj->b∉ex->H' b=aj
 there:∀b o,h.get? b=ae o->b∉ex->∃o',h'.get? b=ae o'
 tups:∀b xs,H b=ae (.tup xs)->H' b=ae (.tup xs)
 frzs:∀b o u,H b=ae (.frz o u)->H' b=ae (.frz o u)
 tbls:∀b ps,H b=ae (.tbl ps)->∃more,H' b=ae (.tbl (ps++more))
section
variable {fs ex:aa al} {H H1:Hp} {h h1 h':aS} {a x e:al} {o:HO}
theorem Un.any(u:Un fs ex H H1 h h1){b:al}{ob:bf}(q:h.get? b=ae ob)(n:H b=aj)(hx:b∉ex):∃sl,h1.get? b=ae {ob with slots:=sl}:=by
 by_cases hb:b∈fs
 ·exact u.slot b ob q n hb hx
 ·exact⟨ob.slots,u.keep b ob q n hb hx⟩
theorem Un.kept(k:∀b u,h.get? b=ae u->h'.get? b=ae u):Un fs ex H H h h':=
 ⟨λb ob q _ _ _=>k b ob q,λb ob q _ _ _=>⟨ob.slots,k b ob q⟩,λ_ _ _ n _=>n,λb ob q _=>⟨ob,k b ob q⟩,λ_ _ q=>q,λ_ _ _ q=>q,λ_ ps q=>⟨#[],by rw[q];simp⟩⟩
theorem Un.refl:Un fs ex H H h h:=Un.kept λ_ _ q=>q
theorem Un.laid(k:∀b u,h.get? b=ae u->h'.get? b=ae u)(hp:h.objs.size<=a)(hn:H a=aj):Un fs ex H (upd H a o) h h' where
 keep:=λb u q _ _ _=>k b u q
 slot:=λb u q _ _ _=>⟨u.slots,k b u q⟩
 free:=λb u q n _=>by rw[bD (c9 (dz (bS q) hp))];exact n
 there:=λb u q _=>⟨u,k b u q⟩
 tups:=λb xs q=>by rw[bD (cD q hn)];exact q
 frzs:=λb u xs q=>by rw[bD (cD q hn)];exact q
 tbls:=λb ps q=>⟨#[],by rw[bD (cD q hn),q];simp⟩
theorem Un.write(mu:Mut (H x))(he:e=x\/H e=ae (.own x))(k:∀b u,b≠e->h.get? b=ae u->h'.get? b=ae u)(heo:∃u,h'.get? e=ae u):Un fs ex H (upd H x o) h h':=by
 have hx:∀b,H b=aj->b≠x:=λb n z=>by subst z;rw[n] at mu;exact mu
 have hb:∀b,H b=aj->b≠e:=λb n z=>by
  subst z;rcases he with r|r
  ·exact hx b n r
  ·rw[n] at r;cases r
 have hm:∀b u,H b=ae u->¬Mut (ae u)->b≠x:=λb u q nm z=>by subst z;rw[q] at mu;exact nm mu
 refine⟨λb u q n _ _=>k b u (hb b n) q,λb u q n _ _=>⟨u.slots,k b u (hb b n) q⟩,λb u q n _=>by rw[bD (hx b n)];exact n,λb u q _=>?_,
  λb xs q=>by rw[bD (hm b _ q λz=>z)];exact q,λb u xs q=>by rw[bD (hm b _ q λz=>z)];exact q,λb ps q=>⟨#[],by rw[bD (hm b _ q λz=>z),q];simp⟩⟩
 by_cases hbe:b=e
 ·subst hbe;exact heo
 ·exact⟨u,k b u hbe q⟩
end
noncomputable def trk(h:aS)(H:Hp):aa al:=(eu h.objs.size).filter λa=>(H a).isSome
def aCs(h:aS)(H:Hp):aS:=sN h (trk h H)
theorem Y7(h:aS)(H:Hp):(aCs h H).objs.size=h.objs.size:=PySem.W.hideAll_size _ _
theorem aCt{h:aS}{H:Hp}{b:al}{o:bf}(e:h.get? b=ae o)(n:H b=aj):(aCs h H).get? b=ae o:=
 xt _ e λhm=>by
  have q:(H b).isSome=af:=(gL.mp hm).2;rw[n] at q;simp at q
theorem aFy{h:aS}{H:Hp}{b:al}{o:bf}(e:(aCs h H).get? b=ae o):h.get? b=ae o/\H b=aj:=by
 have e':h.get? b=ae o:=sP (trk h H) e;refine⟨e',?_⟩;cases q:H b with
 |none=>rfl
 |some x=>
  have hm:b∈trk h H:=gL.mpr ⟨kB.mpr (bS e'),by simp[q]⟩;have z:(aCs h H).get? b=aj:=PySem.W.hideAll_none (trk h H) hm;rw[z] at e;cases e
structure Mod(K:bz)(mg:Str->ay ak)(base:aS):Prop where
 kin:K.In base
 glob:base.Ns bg mg
 blt:∃mb,base.Ns sQ mb/\∀x:Str,x ≠ "__name__"->mb x=eI x
 nolimit:base.NoLimit
/-- the context: a def's body (or a comprehension's block) running. base: fixed through the whole law;s₀,H₀: the entry;outer: the frames whose slots others may change (a def's callers);stack: all frames that run;
   ex: iterators that were made ahead of the entry and are walked here (a comprehension's);fn: the names whose cells were made at the entry (a def: all;a comprehension's block: its own);calm: not within an except suite;pn: Ψ that every state bears;xe: what is wanted of an exception that leaves the code -/
structure Cx where
 prog:bu
 w:bo
 K:bz
 mg:Str->ay ak
 base:aS
 A:bP
 N:aa Str
 s₀:ao
 H₀:Hp
 env:c5
 outer:aa c5
 stack:aa c5
 ex:aa al
 fn:Str->aq
 calm:aq
 pn:aa (al×bf)
 xe:ak->ao->Prop
noncomputable def frs(l:aa c5):aa al:=l.filterMap (·.frame)
abbrev Cx.fs(X:Cx):aa al:=frs X.outer
def Vis(sc:dS)(x:Str):Prop:=sc.names.lookup x=ae .local\/sc.names.lookup x=ae .cell\/sc.names.lookup x=ae .free
def Loc(sc:dS)(x:Str):Prop:=sc.names.lookup x=ae .local\/sc.names.lookup x=ae .cell
def Look(env:c5)(h:aS)(m:Str->ay ak)(x:Str)(u:ak):Prop:=
 (env.kindOf x=ae .local/\m x=ae u)\/((env.kindOf x=ae .cell\/env.kindOf x=ae .free)/\∃c,env.cells.lookup x=ae c/\h.IsCell c (ae u))
structure Cx.Ok(X:Cx):Prop where
 mod:Mod X.K X.mg X.base
 kind:X.env.scope.kind=.function
 glob:X.env.globals=bg
 blt:X.env.builtins=sQ
 above:X.s₀.heap.objs.size<=X.env.locals
 inj:∀x y c,X.env.cells.lookup x=ae c->X.env.cells.lookup y=ae c->x=y
 has:∀x,(X.env.kindOf x=ae .cell\/X.env.kindOf x=ae .free)->∃c,X.env.cells.lookup x=ae c
 cab:∀x c,X.fn x=af->X.env.cells.lookup x=ae c->X.s₀.heap.objs.size<=c
 hd:X.calm=af->X.A.handled=aj
 frames:X.A.frames=ae X.stack
 stk:X.stack=X.outer\/(X.stack=X.env::X.outer/\X.env.frame=ae X.env.locals)
 exf:∀b∈X.ex,b≠X.env.locals/\∀x c,X.env.cells.lookup x=ae c->c≠b
 bs:∀b o,X.base.get? b=ae o->X.s₀.heap.get? b=ae o/\X.H₀ b=aj
 bsz:X.base.objs.size<=X.s₀.heap.objs.size
 noex:∀b o,X.base.get? b=ae o->b∉X.ex
 exfs:∀b∈X.ex,b∉X.fs
 YS:X.s₀.heap.FunFrames X.base X.outer
 frf:∀b∈X.fs,X.H₀ b=aj
structure Inv(X:Cx)(Ψ:aa (al×bf))(σ:aa (ay V))(H:Hp)(s:ao):Prop where
 ok:X.Ok
 os:s.os=X.s₀.os
 bare:ii s.gens
 base:Un X.fs X.ex X.H₀ H X.s₀.heap s.heap
 loc:∃m,s.heap.Ns X.env.locals m/\∀(i:ah)(x:Str)(v:V),X.N[i]?=ae x->σ[i]?=ae (ae v)->Vis X.env.scope x->∃u,RelV v u/\Look X.env s.heap m x u
 cell:∀x c,X.env.cells.lookup x=ae c->∃v,s.heap.IsCell c v
 free:H X.env.locals=aj
 freeC:∀x c,X.env.cells.lookup x=ae c->H c=aj
 pin:∀p∈X.pn++Ψ,s.heap.get? p.1=ae p.2/\H p.1=aj/\p.1≠X.env.locals/\p.1∉X.fs/\∀v,p.2.data≠.cell v
 hok:HOk X.prog X.w H s.heap
 len:σ.length=X.N.length
section
variable {X:Cx} {Ψ:aa (al×bf)} {σ:aa (ay V)} {H H':Hp} {s:ao} {h':aS}
theorem Cx.Ok.aNj(ok:X.Ok){b:al}{o:bf}(e:X.base.get? b=ae o):b∉X.fs:=λhb=>by
 have:=(ok.YS.mem hb).1;rw[e] at this;cases this
theorem Inv.bs(I:Inv X Ψ σ H s):∀b o,X.base.get? b=ae o->s.heap.get? b=ae o/\H b=aj:=λb o e=>
 ⟨I.base.keep b o (I.ok.bs b o e).1 (I.ok.bs b o e).2 (I.ok.aNj e) (I.ok.noex b o e),I.base.free b o (I.ok.bs b o e).1 (I.ok.bs b o e).2 (I.ok.noex b o e)⟩
theorem Inv.bk(I:Inv X Ψ σ H s):∀b o,X.base.get? b=ae o->s.heap.get? b=ae o:=λb o e=>(I.bs b o e).1
theorem Inv.mod(I:Inv X Ψ σ H s):Mod X.K X.mg X.base:=I.ok.mod
theorem Inv.kIn(I:Inv X Ψ σ H s):X.K.In s.heap:=I.ok.mod.kin.keeps I.bk
theorem Inv.lt(I:Inv X Ψ σ H s):X.env.locals<s.heap.objs.size:=let ⟨_,hn,_⟩:=I.loc;hn.lt
theorem Inv.sz(I:Inv X Ψ σ H s):X.s₀.heap.objs.size<=s.heap.objs.size:=du I.ok.above (lz I.lt)
theorem Inv.aN1(I:Inv X Ψ σ H s){a:al}(h:s.heap.objs.size<=a):a∉X.fs:=λhb=>by
 obtain⟨_,o,ho,_⟩:=I.ok.YS.mem hb;exact bb (dz (bS ho) (du I.sz h)) (fg _)
theorem Inv.cne(I:Inv X Ψ σ H s):∀x c,X.env.cells.lookup x=ae c->c≠X.env.locals:=λx c e z=>by
 obtain⟨v,o,ho,hd⟩:=I.cell x c e;obtain⟨m,⟨o',es,ep,ho',hd',_⟩,_⟩:=I.loc;rw[z,ho'] at ho;cases ho;rw[hd'] at hd;cases hd
theorem Inv.YS(I:Inv X Ψ σ H s):s.heap.FunFrames X.base X.outer:=by
 have all:∀(l:aa c5),(∀b∈frs l,b∈X.fs)->X.s₀.heap.FunFrames X.base l->s.heap.FunFrames X.base l:=by
  intro l;induction l with
  |nil=>intro _ _;trivial
  |cons env r ih=>
   intro hs hl;obtain⟨hk,⟨L,o,hf,hn,ho,hd⟩,hr⟩:=hl;have hL:L∈X.fs:=hs L (by unfold frs;rw[lI,hf];exact cu);obtain⟨sl,e⟩:=I.base.slot L o ho (I.ok.frf L hL) hL λz=>I.ok.exfs L z hL
   exact⟨hk,⟨L,_,hf,hn,e,hd⟩,ih (λb hb=>hs b (by unfold frs;rw[lI,hf];exact b6 _ hb)) hr⟩
 exact all X.outer (λ_ hb=>hb) I.ok.YS
theorem Inv.stack(I:Inv X Ψ σ H s):s.heap.FunFrames X.base X.stack:=by
 rcases I.ok.stk with e|⟨e,hf⟩
 ·rw[e];exact I.YS
 ·rw[e];obtain⟨m,hn,_⟩:=I.loc;refine .cons (by rw[I.ok.kind];decide) hf hn ?_ I.YS;exact Heap.get?_none_of_le (du I.ok.bsz I.ok.above)
theorem Inv.S_(I:Inv X Ψ σ H s):∀b∈frs X.stack,b∈X.env.locals::X.fs:=λb hb=>by
 rcases I.ok.stk with e|⟨e,hf⟩
 ·rw[e] at hb;exact b6 _ hb
 ·rw[e] at hb;unfold frs at hb;rw[lI,hf] at hb;exact hb
theorem Inv.QH(I:Inv X Ψ σ H s):∀b∈frs X.stack,H b=aj:=λb hb=>by
 rcases bX.mp (I.S_ b hb) with e|hb
 ·rw[e];exact I.free
 ·obtain⟨_,o,ho,_⟩:=I.ok.YS.mem hb;exact I.base.free b o ho (I.ok.frf b hb) λz=>I.ok.exfs b z hb
theorem Inv.step{g':aE GenState}{t':ah}{d':Drawn}{ch:aa al}(I:Inv X Ψ σ H s)
 (hch:∀b∈ch,(b∈X.ex\/X.s₀.heap.objs.size<=b)/\b≠X.env.locals/\(∀x c,X.env.cells.lookup x=ae c->c≠b)/\∀p∈X.pn++Ψ,p.1≠b)
 (keep:∀b o,b≠X.env.locals->b∉X.fs->b∉ch->s.heap.get? b=ae o->H b=aj->h'.get? b=ae o)
 (slot:∀b o,b≠X.env.locals->b∈X.fs->b∉ch->s.heap.get? b=ae o->H b=aj->∃sl,h'.get? b=ae {o with slots:=sl})(free:∀b o,b∉ch->s.heap.get? b=ae o->H b=aj->H' b=aj)
 (there:∀b o,b∉ch->s.heap.get? b=ae o->∃o',h'.get? b=ae o')
 (tups:∀b xs,H b=ae (.tup xs)->H' b=ae (.tup xs))(frzs:∀b o u,H b=ae (.frz o u)->H' b=ae (.frz o u))(tbls:∀b ps,H b=ae (.tbl ps)->∃more,H' b=ae (.tbl (ps++more)))
 (ns:∀m,s.heap.Ns X.env.locals m->h'.Ns X.env.locals m)(hok:HOk X.prog X.w H' h')(hg:ii g') :
  Inv X Ψ σ H' {s with heap:=h',gens:=g',drawn:=d',toks:=t'}:=by
 have neL:∀b o,X.s₀.heap.get? b=ae o->b≠X.env.locals:=λb o e=>c9 (dz (bS e) I.ok.above)
 have neC:∀b o,X.s₀.heap.get? b=ae o->b∉X.ex->b∉ch:=λb o e hx hb=>by
  rcases(hch b hb).1 with z|z
  ·exact hx z
  ·exact bb (dz (bS e) z) (fg _)
 have cellK:∀x c,X.env.cells.lookup x=ae c->∀v,s.heap.IsCell c v->h'.IsCell c v:=λx c e v ⟨o,ho,hd⟩=>by
  have nch:c∉ch:=λz=>(hch c z).2.2.1 x c e rfl
  by_cases hc:c∈X.fs
  ·obtain⟨sl,q⟩:=slot c o (I.cne x c e) hc nch ho (I.freeC x c e);exact⟨_,q,hd⟩
  ·exact⟨o,keep c o (I.cne x c e) hc nch ho (I.freeC x c e),hd⟩
 refine⟨I.ok,I.os,hg,⟨λb o e n hb hx=>?_,λb o e n hb hx=>?_,λb o e n hx=>?_,λb o e hx=>?_,λb xs e=>tups b xs (I.base.tups b xs e),λb o xs e=>frzs b o xs (I.base.frzs b o xs e),λb ps e=>?_⟩,?_,λx c e=>?_,?_,λx c e=>?_,λp hp=>?_,hok,I.len⟩
 ·exact keep b o (neL b o e) hb (neC b o e hx) (I.base.keep b o e n hb hx) (I.base.free b o e n hx)
 ·obtain⟨sl,e1⟩:=I.base.slot b o e n hb hx;obtain⟨sl',e2⟩:=slot b _ (neL b o e) hb (neC b o e hx) e1 (I.base.free b o e n hx);exact⟨sl',e2⟩
 ·obtain⟨o',e1⟩:=I.base.there b o e hx;exact free b o' (neC b o e hx) e1 (I.base.free b o e n hx)
 ·obtain⟨o',e1⟩:=I.base.there b o e hx;exact there b o' (neC b o e hx) e1
 ·obtain⟨m1,e1⟩:=I.base.tbls b ps e;obtain⟨m2,e2⟩:=tbls b _ e1;exact⟨m1++m2,by rw[e2,xu]⟩
 ·obtain⟨m,hn,hl⟩:=I.loc;refine⟨m,ns m hn,λi x v e1 e2 e3=>?_⟩;obtain⟨u,r,l⟩:=hl i x v e1 e2 e3;refine⟨u,r,?_⟩;rcases l with l|⟨k,c,e,z⟩
  ·exact .inl l
  ·exact .inr ⟨k,c,e,cellK x c e _ z⟩
 ·obtain⟨v,z⟩:=I.cell x c e;exact⟨v,cellK x c e v z⟩
 ·obtain⟨m,⟨o,_,_,ho,_⟩,_⟩:=I.loc;exact free _ o (λz=>(hch _ z).2.1 rfl) ho I.free
 ·obtain⟨v,o,ho,hd⟩:=I.cell x c e;exact free c o (λz=>(hch c z).2.2.1 x c e rfl) ho (I.freeC x c e)
 ·obtain⟨e,n,ne,nf,d⟩:=I.pin p hp;have nch:p.1∉ch:=λz=>(hch p.1 z).2.2.2 p hp rfl
  exact⟨keep p.1 p.2 ne nf nch e n,free p.1 p.2 nch e n,ne,nf,d⟩
theorem Inv.un{t':ah}(I:Inv X Ψ σ H s)(u:Un X.fs [] H H' s.heap h')(hok:HOk X.prog X.w H' h'):Inv X Ψ σ H' {s with heap:=h',toks:=t'}:=by
 obtain⟨m,⟨o,es,ep,ho,r⟩,_⟩:=id I.loc;obtain⟨sl,hL⟩:=u.any ho I.free (by simp);exact I.step (g':=s.gens) (d':=s.drawn) (ch:=[]) (λ_ z=>nomatch z) (λb o _ hb _ e n=>u.keep b o e n hb (by simp)) (λb o _ hb _ e n=>u.slot b o e n hb (by simp)) (λb o _ e n=>u.free b o e n (by simp)) (λb o _ e=>u.there b o e (by simp)) u.tups u.frzs u.tbls (λm' hm=>by
  obtain⟨o',es',ep',ho',r'⟩:=hm;rw[ho] at ho';cases ho';exact⟨_,es',ep',hL,r'⟩) hok I.bare
theorem Inv.call{g':aE GenState}{t':ah}{d':Drawn}{ch:aa al}(I:Inv X Ψ σ H s)(u:Un (frs X.stack) ch H H' s.heap h')(hok:HOk X.prog X.w H' h')(hg:ii g')
 (hch:∀b∈ch,(b∈X.ex\/X.s₀.heap.objs.size<=b)/\b≠X.env.locals/\(∀x c,X.env.cells.lookup x=ae c->c≠b)/\∀p∈X.pn++Ψ,p.1≠b) :
  Inv X Ψ σ H' {s with heap:=h',gens:=g',drawn:=d',toks:=t'}:=by
 obtain⟨m,⟨o,es,ep,ho,r⟩,_⟩:=id I.loc;obtain⟨sl,hL⟩:=u.any ho I.free λz=>(hch _ z).2.1 rfl
 exact I.step (ch:=ch) hch (λb o hL hb hc e n=>u.keep b o e n (λz=>(bX.mp (I.S_ b z)).elim hL hb) hc) (λb o _ _ hc e n=>u.any e n hc) (λb o hc e n=>u.free b o e n hc) (λb o hc e=>u.there b o e hc) u.tups u.frzs u.tbls (λm' hm=>by
  obtain⟨o',es',ep',ho',r'⟩:=hm;rw[ho] at ho';cases ho';exact⟨_,es',ep',hL,r'⟩) hok hg
theorem Inv.turned{t':ah}{it:al}(I:Inv X Ψ σ H s)(k:∀b o,b≠it->s.heap.get? b=ae o->h'.get? b=ae o)(hn:H it=aj)(hL:it≠X.env.locals)
 (h1:it∈X.ex\/X.s₀.heap.objs.size<=it)(h2:∀x c,X.env.cells.lookup x=ae c->c≠it)(h3:∀p∈X.pn++Ψ,p.1≠it):Inv X Ψ σ H {s with heap:=h',toks:=t'}:=by
 have nit:∀b u,H b=ae u->b≠it:=λb u e z=>by rw[z,hn] at e;cases e
 refine I.step (g':=s.gens) (d':=s.drawn) (ch:=[it]) (λb hb=>?_) (λb o _ _ hc e _=>k b o (λz=>hc (by simp[z])) e) (λb o _ _ hc e _=>⟨o.slots,k b o (λz=>hc (by simp[z])) e⟩) (λ_ _ _ _ n=>n)
  (λb o hc e=>⟨o,k b o (λz=>hc (by simp[z])) e⟩) (λ_ _ e=>e) (λ_ _ _ e=>e) (λb ps e=>⟨#[],by rw[e];simp⟩) (λm hm=>?_) (λb u e=>?_) I.bare
 ·have e:b=it:=by simpa using hb
  subst e;exact⟨h1,hL,h2,h3⟩
 ·obtain⟨o,es,ep,ho,r⟩:=hm;exact⟨o,es,ep,k _ o (Ne.symm hL) ho,r⟩
 ·refine(I.hok b u e).stay (λc v hc q=>k c v ?_ q) (λ_ q=>q) λ_ _ q=>q
  rcases hc with z|z
  ·rw[z];exact nit b u e
  ·exact nit c _ z
theorem Inv.tok(I:Inv X Ψ σ H s)(t:ah):Inv X Ψ σ H {s with toks:=t}:=I.un (h':=s.heap) (t':=t) Un.refl I.hok
theorem Inv.kept{t':ah}(I:Inv X Ψ σ H s)(k:∀b u,s.heap.get? b=ae u->h'.get? b=ae u):Inv X Ψ σ H {s with heap:=h',toks:=t'}:=I.un (Un.kept k) (I.hok.kept k)
theorem Inv.laid{a:al}{o:HO}{t':ah}(I:Inv X Ψ σ H s)(k:∀b u,s.heap.get? b=ae u->h'.get? b=ae u)(hp:s.heap.objs.size<=a)(new:iC X.prog X.w (upd H a o) h' a o) :
  Inv X Ψ σ (upd H a o) {s with heap:=h',toks:=t'}:=I.un (Un.laid k hp (I.hok.fresh hp)) (I.hok.laid k hp new)
theorem Inv.write{x e:al}{o:HO}{t':ah}(I:Inv X Ψ σ H s)(mu:Mut (H x))(he:e=x\/H e=ae (.own x))(k:∀b u,b≠e->s.heap.get? b=ae u->h'.get? b=ae u)(heo:∃u,h'.get? e=ae u)
 (new:iC X.prog X.w (upd H x o) h' x o):Inv X Ψ σ (upd H x o) {s with heap:=h',toks:=t'}:=I.un (Un.write mu he k heo) (I.hok.write mu he k heo new)
theorem Inv.weak{σ':aa (ay V)}(I:Inv X Ψ σ H s)(hl:σ'.length=σ.length)(w:∀(i:ah) v,σ'[i]?=ae (ae v)->σ[i]?=ae (ae v)):Inv X Ψ σ' H s:=
 ⟨I.ok,I.os,I.bare,I.base,let ⟨m,hn,hl'⟩:=I.loc;⟨m,hn,λi x v e1 e2 e3=>hl' i x v e1 (w i v e2) e3⟩,I.cell,I.free,I.freeC,I.pin,I.hok,hl.trans I.len⟩
theorem Inv.QJ{pins':aa (al×bf)}(I:Inv X Ψ σ H s)(h:∀p∈pins',s.heap.get? p.1=ae p.2/\H p.1=aj/\p.1≠X.env.locals/\p.1∉X.fs/\∀v,p.2.data≠.cell v):Inv X pins' σ H s:=
 ⟨I.ok,I.os,I.bare,I.base,I.loc,I.cell,I.free,I.freeC,λp hp=>(eJ.mp hp).elim (λz=>I.pin p (lP _ z)) (h p),I.hok,I.len⟩
theorem FQ{N:aa Str}(hN:N.Nodup){i j:ah}{x:Str}(a:N[i]?=ae x)(b:N[j]?=ae x):i=j:=by
 obtain⟨h1,e1⟩:=d4.mp a;obtain⟨h2,e2⟩:=d4.mp b;exact(List.getElem_inj hN).mp (e1.trans e2.symm)
theorem KC{M:ij}{A:bP}{E:ak->ao->Prop}{i:ah}{x:Str}{v:V}{u:ak}{Q:gN->ao->Prop}(I:Inv X Ψ σ H s)(hN:X.N.Nodup)(hi:X.N[i]?=ae x)(hx:Loc X.env.scope x)(r:RelV v u)
 (h:∀s',Inv X Ψ (σ.set i (ae v)) H s'->(∃a,kC a s.heap s'.heap/\(a=X.env.locals\/X.env.cells.lookup x=ae a))->Q () s')(hf:X.fn x=af\/X.env.scope.names.lookup x=ae .local:=by first|exact .inl rfl|exact .inr rfl|assumption):ϑ M A (storeName X.env x u) Q E s:=by
 obtain⟨m,hn,hl⟩:=id I.loc;have hcls:(X.env.scope.kind==.class||(X.env.scope.kind==.module&&X.env.locals !=X.env.globals))=ag:=by rw[I.ok.kind];rfl
 have hiσ:i<σ.length:=by rw[I.len];exact(d4.mp hi).1
 have cne:=I.cne;have tracked:∀{a:al}{h':aS},(∃o,s.heap.get? a=ae o/\H a=aj)->kC a s.heap h'->HOk X.prog X.w H h':=λ{a h'} ha hs b ob e=>by
  obtain⟨_,_,hfree⟩:=ha;refine(I.hok b ob e).stay (λc w' hc q=>(hs.2 c ?_).trans q) (λ_ q=>q) λ_ _ q=>q
  rintro rfl;rcases hc with rfl|hc
  ·rw[hfree] at e;cases e
  ·rw[hfree] at hc;cases hc
 rcases hx with hk|hk
 ·refine wpAny_storeName_local hk hn (λh' hn' hs=>?_) hcls;obtain⟨oL,_,_,hoL,_⟩:=id hn;refine h _ ⟨I.ok,I.os,I.bare,⟨λb o e n hb hx=>?_,λb o e n hb hx=>?_,I.base.free,λb o e hx=>?_,I.base.tups,I.base.frzs,I.base.tbls⟩,⟨_,hn',λj y v' e1 e2 e3=>?_⟩,λy c e=>?_,I.free,I.freeC,λp hp=>?_,tracked ⟨oL,hoL,I.free⟩ hs,by simpa using I.len⟩ ⟨_,hs,.inl rfl⟩
  ·exact(hs.2 b (c9 (dz (bS e) I.ok.above))).trans (I.base.keep b o e n hb hx)
  ·obtain⟨sl,e1⟩:=I.base.slot b o e n hb hx;exact⟨sl,(hs.2 b (c9 (dz (bS e) I.ok.above))).trans e1⟩
  ·obtain⟨o',e1⟩:=I.base.there b o e hx;exact⟨o',(hs.2 b (c9 (dz (bS e) I.ok.above))).trans e1⟩
  ·by_cases hj:j=i
   ·subst hj;rw[hi] at e1;cases e1;rw[fi hiσ] at e2;cases e2;exact⟨u,r,.inl ⟨hk,by simp⟩⟩
   ·rw[en (Ne.symm hj)] at e2;obtain⟨u',r',q⟩:=hl j y v' e1 e2 e3;refine⟨u',r',?_⟩;rcases q with ⟨k,e⟩|⟨k,c,e,z⟩
    ·refine .inl ⟨k,?_⟩;have:y≠x:=λe=>hj (FQ hN e1 (e▸hi))
     simp[this,e]
    ·exact .inr ⟨k,c,e,z.sameBut hs (cne y c e)⟩
  ·obtain⟨w',z⟩:=I.cell y c e;exact⟨w',z.sameBut hs (cne y c e)⟩
  ·obtain⟨e,n,ne,nf,d⟩:=I.pin p hp;exact⟨(hs.2 p.1 ne).trans e,n,ne,nf,d⟩
 ·have hfn:X.fn x=af:=by
   rcases hf with z|z
   ·exact z
   ·rw[z] at hk;cases hk
  obtain⟨c,hc⟩:=I.ok.has x (.inl hk);obtain⟨w',z⟩:=I.cell x c hc;refine wpAny_storeName_cell I.ok.kind hk hc z (λh' hc' hs=>?_);obtain⟨oc,hoc,hocd⟩:=id z;refine h {s with heap:=h'} ⟨I.ok,I.os,I.bare,⟨λb o e n hb hx=>?_,λb o e n hb hx=>?_,I.base.free,λb o e hx=>?_,I.base.tups,I.base.frzs,I.base.tbls⟩,⟨m,hn.sameBut hs (Ne.symm (cne x c hc)),λj y v' e1 e2 e3=>?_⟩,λy c' e=>?_,I.free,I.freeC,λp hp=>?_,tracked ⟨oc,hoc,I.freeC x c hc⟩ hs,by simpa using I.len⟩ ⟨c,hs,.inr hc⟩
  ·exact(hs.2 b (c9 (dz (bS e) (I.ok.cab x c hfn hc)))).trans (I.base.keep b o e n hb hx)
  ·obtain⟨sl,e1⟩:=I.base.slot b o e n hb hx;exact⟨sl,(hs.2 b (c9 (dz (bS e) (I.ok.cab x c hfn hc)))).trans e1⟩
  ·obtain⟨o',e1⟩:=I.base.there b o e hx;exact⟨o',(hs.2 b (c9 (dz (bS e) (I.ok.cab x c hfn hc)))).trans e1⟩
  ·by_cases hj:j=i
   ·subst hj;rw[hi] at e1;cases e1;rw[fi hiσ] at e2;cases e2;exact⟨u,r,.inr ⟨.inl hk,c,hc,hc'⟩⟩
   ·rw[en (Ne.symm hj)] at e2;obtain⟨u',r',q⟩:=hl j y v' e1 e2 e3;refine⟨u',r',?_⟩;rcases q with q|⟨k,c',e,z'⟩
    ·exact .inl q
    ·refine .inr ⟨k,c',e,z'.sameBut hs ?_⟩;rintro rfl;exact hj (FQ hN e1 (I.ok.inj _ _ _ e hc▸hi))
  ·by_cases hcc:c'=c
   ·subst hcc;exact⟨_,hc'⟩
   ·obtain⟨w2,z2⟩:=I.cell y c' e;exact⟨w2,z2.sameBut hs hcc⟩
  ·obtain⟨e,n,ne,nf,d⟩:=I.pin p hp;refine⟨(hs.2 p.1 ?_).trans e,n,ne,nf,d⟩;intro q;rw[q,hoc] at e;have q':oc=p.2:=cz e;exact d w' (by rw[<-q'];exact hocd)
theorem TF{M:ij}{A:bP}{E:ak->ao->Prop}{i:ah}{x:Str}{v:V}{u:ak}{Q:gN->ao->Prop}(I:Inv X Ψ σ H s)(hN:X.N.Nodup)(hi:X.N[i]?=ae x)(hx:Loc X.env.scope x)(r:RelV v u)
 (h:∀s',Inv X Ψ (σ.set i (ae v)) H s'->Q () s')(hf:X.fn x=af\/X.env.scope.names.lookup x=ae .local:=by first|exact .inl rfl|exact .inr rfl|assumption):ϑ M A (storeName X.env x u) Q E s:=
 KC I hN hi hx r (λs' I' _=>h s' I') hf
theorem Inv.call'{s':ao}{ch:aa al}(I:Inv X Ψ σ H s)(ho:s'.os=s.os)(u:Un (frs X.stack) ch H H' s.heap s'.heap)(hok:HOk X.prog X.w H' s'.heap)(hg:ii s'.gens)
 (hch:∀b∈ch,(b∈X.ex\/X.s₀.heap.objs.size<=b)/\b≠X.env.locals/\(∀x c,X.env.cells.lookup x=ae c->c≠b)/\∀p∈X.pn++Ψ,p.1≠b):Inv X Ψ σ H' s':=by
 obtain⟨h',g',d',t',o'⟩:=s';have e:o'=s.os:=ho;subst e;exact I.call (g':=g') (t':=t') (d':=d') u hok hg hch
end
abbrev XK:=ak->ay al->Hp->Prop
noncomputable abbrev St:=aa (ay V)
abbrev VK:=V->Hp->Prop
abbrev TE:=St->Hp->VK->Prop
abbrev TT:=St->Hp->(aq->Hp->Prop)->Prop
abbrev TA:=St->Hp->(aa V->Hp->Prop)->Prop
structure Ends where
 nx:St->Hp->Prop
 rt:VK
 bk:St->Hp->Prop:=λ_ _=>cm
 ct:St->Hp->Prop:=λ_ _=>cm
abbrev TS:=Ends->St->Hp->Prop
def EP(X:Cx)(Ψ:aa (al×bf))(σ:St)(Q:VK)(u:ak)(s':ao):Prop:=∃v H',Inv X Ψ σ H' s'/\RelV v u/\Q v H'
def TP(X:Cx)(Ψ:aa (al×bf))(σ:St)(Q:aq->Hp->Prop)(b:aq)(s':ao):Prop:=∃H',Inv X Ψ σ H' s'/\Q b H'
def AP(X:Cx)(Ψ:aa (al×bf))(σ:St)(Q:aa V->Hp->Prop)(us:aa ak)(s':ao):Prop:=∃vs H',Inv X Ψ σ H' s'/\Vals vs us/\Q vs H'
def SP(X:Cx)(Ψ:aa (al×bf))(D:Ends)(f:Flow)(s':ao):Prop:=
 match f with
 |.next=>∃σ' H',Inv X Ψ σ' H' s'/\D.nx σ' H'
 |.brk=>∃σ' H',Inv X Ψ σ' H' s'/\D.bk σ' H'
 |.cont=>∃σ' H',Inv X Ψ σ' H' s'/\D.ct σ' H'
 |.ret u=>∃v σ' H',Inv X Ψ σ' H' s'/\RelV v u/\D.rt v H'
def PE(X:Cx)(e:Expr)(t:TE):Prop:=
 ∀(Ψ:aa (al×bf))(s:ao)(σ:St)(H:Hp)(Q:VK),Inv X Ψ σ H s->t σ H Q->ϑ (ax X.prog X.w) X.A (eval e X.env) (EP X Ψ σ Q) X.xe s
def PT(X:Cx)(e:Expr)(t:TT):Prop:=
 ∀(Ψ:aa (al×bf))(s:ao)(σ:St)(H:Hp)(Q:aq->Hp->Prop),Inv X Ψ σ H s->t σ H Q->ϑ (ax X.prog X.w) X.A (nn e X.env (eval e X.env)) (TP X Ψ σ Q) X.xe s
def PW(X:Cx)(e:Expr)(t:TT):Prop:=
 ∀(whole:eB ak)(Ψ:aa (al×bf))(s:ao)(σ:St)(H:Hp)(Q:aq->Hp->Prop),Inv X Ψ σ H s->t σ H Q->ϑ (ax X.prog X.w) X.A (nn e X.env whole) (TP X Ψ σ Q) X.xe s
theorem PW.pt{X:Cx}{e:Expr}{t:TT}(h:PW X e t):PT X e t:=h _
def PA(X:Cx)(es:aa Expr)(t:TA):Prop:=
 ∀(pos:cb)(Ψ:aa (al×bf))(s:ao)(σ:St)(H:Hp)(Q:aa V->Hp->Prop),Inv X Ψ σ H s->t σ H Q->ϑ (ax X.prog X.w) X.A (spliced (dA pos (br es X.env))) (AP X Ψ σ Q) X.xe s
def PS(X:Cx)(st:bE)(t:TS):Prop:=
 ∀(Ψ:aa (al×bf))(s:ao)(σ:St)(H:Hp)(D:Ends),Inv X Ψ σ H s->t D σ H->ϑ (ax X.prog X.w) X.A (exec st X.env) (SP X Ψ D) X.xe s
def PSs(X:Cx)(st:aa bE)(t:TS):Prop:=
 ∀(Ψ:aa (al×bf))(s:ao)(σ:St)(H:Hp)(D:Ends),Inv X Ψ σ H s->t D σ H->ϑ (ax X.prog X.w) X.A (execs st X.env) (SP X Ψ D) X.xe s
theorem thn{α:Type}{t:eB α}{Q Q':α->ao->Prop}{M:ij}{A:bP}{E:ak->ao->Prop}{s:ao}(h:ϑ M A t Q E s)(hQ:∀a s,Q a s->Q' a s):ϑ M A t Q' E s:=d5 h hQ λ_ _ x=>x
section
variable {X:Cx}
noncomputable def aNk(i:ah):TE:=λσ H Q=>∃v,σ[i]?=ae (ae v)/\Q v H
noncomputable def tC(v:V):TE:=λ_ H Q=>Q v H
theorem kI{i:ah}{x:Str}{pos:cb}(hN:X.N[i]?=ae x)(hv:Vis X.env.scope x)(hd:nDb x:=by decide)(hcd:nCd x:=by decide):PE X (.Name x pos) (aNk i):=by
 intro Ψ s σ H Q I h;obtain⟨v,e,h⟩:=h;obtain⟨m,hn,hl⟩:=I.loc;obtain⟨u,r,l⟩:=hl i x v hN e hv;have fin:EP X Ψ σ Q u s:=⟨v,H,I,r,h⟩
 rcases l with ⟨hk,hm⟩|⟨hk,c,hc,hcell⟩
 ·exact sR (wpAny_loadName_local I.ok.kind hk hn hm fin) hd
 ·rcases hk with hk|hk
  ·exact sR (wpAny_loadName_cell I.ok.kind hk hc hcell fin) hd
  ·exact sR (wpAny_loadName_free I.ok.kind hk hc hcell fin hcd) hd
theorem aIq{i j pos}:PE X (.Constant (.int i) j pos) (tC (.int i)):=λ_ _ _ H _ I h=>wpAny_Constant_int ⟨.int i,H,I.tok _,⟨_,rfl⟩,h⟩
theorem aLq{b j pos}:PE X (.Constant (.bool b) j pos) (tC (.bl b)):=λ_ _ _ H _ I h=>Constant_bool ⟨.bl b,H,I,rfl,h⟩
theorem aIr{j pos}:PE X (.Constant .none j pos) (tC .non):=λ_ _ _ H _ I h=>Constant_none ⟨.non,H,I,rfl,h⟩
theorem aEv{x j pos}:PE X (.Constant (.str x) j pos) (tC (.str x)):=λ_ _ _ H _ I h=>Calls.Constant_str ⟨.str x,H,I.tok _,⟨_,rfl⟩,h⟩
def Gl(X:Cx)(x:Str):Prop:=X.env.kindOf x=ae .globalImplicit
theorem xH{E:ak->ao->Prop}{Ψ:aa (al×bf)}{s:ao}{σ:St}{H:Hp}{x:Str}{u:ak}{pos:cb}{Q:ak->ao->Prop}(I:Inv X Ψ σ H s)(hg:Gl X x)(hm:X.mg x=ae u)(h:Q u s)
 (hd:nDb x:=by decide):ϑ (ax X.prog X.w) X.A (eval (.Name x pos) X.env) Q E s:=
 xv I.ok.kind hg (Calls.loadGlobal_global (by rw[I.ok.glob];exact I.mod.glob.keeps I.bk) hm h) hd
theorem TJ{E:ak->ao->Prop}{Ψ:aa (al×bf)}{s:ao}{σ:St}{H:Hp}{x:Str}{u:ak}{pos:cb}{Q:ak->ao->Prop}(I:Inv X Ψ σ H s)(hg:Gl X x)(hm:X.mg x=aj)(hv:eI x=ae u)(h:Q u s)
 (hn:x ≠ "__name__":=by decide)(hd:nDb x:=by decide):ϑ (ax X.prog X.w) X.A (eval (.Name x pos) X.env) Q E s:=by
 obtain⟨mb,h1,h2⟩:=I.mod.blt;exact xv I.ok.kind hg (Calls.loadGlobal_builtin (by rw[I.ok.glob];exact I.mod.glob.keeps I.bk) hm (by rw[I.ok.blt];exact h1.keeps I.bk) ((h2 x hn).trans hv) h) hd
theorem fC{x:Str}{v:V}{u:ak}{pos:cb}(hg:Gl X x)(hm:X.mg x=ae u)(r:RelV v u)(hd:nDb x:=by decide):PE X (.Name x pos) (tC v):=
 λ_ _ _ H _ I h=>xH I hg hm ⟨v,H,I,r,h⟩ hd
theorem aFz{x:Str}{v:V}{u:ak}{pos:cb}(hg:Gl X x)(hm:X.mg x=aj)(hv:eI x=ae u)(r:RelV v u)(hn:x ≠ "__name__":=by decide)(hd:nDb x:=by decide):PE X (.Name x pos) (tC v):=
 λ_ _ _ H _ I h=>TJ I hg hm hv ⟨v,H,I,r,h⟩ hn hd
variable {a b:Expr} {ta tb:TE} {pos:cb}
variable {tA tB':TT} {rest:aa Expr}
noncomputable def aNl(t u:TT):TT:=λσ H Q=>t σ H λc H1=>if c=af then u σ H1 Q else Q ag H1
noncomputable def tOr(t u:TT):TT:=λσ H Q=>t σ H λc H1=>if c=af then Q af H1 else u σ H1 Q
noncomputable def aNm(t:TT):TT:=λσ H Q=>t σ H λc H1=>Q (!c) H1
theorem aG0(ha:PT X a tA):PW X (.BoolOp .And [a] pos) tA:=by
 intro wh Ψ s σ H Q I h;refine isTrue_and (thn (ha Ψ s σ H Q I h) λc s1 e=>?_);cases c with
 |true=>exact isTrue_and_nil e
 |false=>exact e
theorem aIs(ha:PT X a tA):PW X (.BoolOp .Or [a] pos) tA:=by
 intro wh Ψ s σ H Q I h;refine isTrue_or (thn (ha Ψ s σ H Q I h) λc s1 e=>?_);cases c with
 |false=>exact isTrue_or_nil e
 |true=>exact e
theorem aIt(ha:PT X a tA)(hb:PW X (.BoolOp .And (b::rest) pos) tB'):PW X (.BoolOp .And (a::b::rest) pos) (aNl tA tB'):=by
 intro wh Ψ s σ H Q I h;refine isTrue_and (thn (ha Ψ s σ H _ I h) λc s1 ⟨H1,I1,q1⟩=>?_);cases c with
 |true=>exact hb wh Ψ s1 σ H1 Q I1 q1
 |false=>exact⟨H1,I1,q1⟩
theorem aLr(ha:PT X a tA)(hb:PW X (.BoolOp .Or (b::rest) pos) tB'):PW X (.BoolOp .Or (a::b::rest) pos) (tOr tA tB'):=by
 intro wh Ψ s σ H Q I h;refine isTrue_or (thn (ha Ψ s σ H _ I h) λc s1 ⟨H1,I1,q1⟩=>?_);cases c with
 |true=>exact⟨H1,I1,q1⟩
 |false=>exact hb wh Ψ s1 σ H1 Q I1 q1
theorem aIu(ha:PT X a tA):PT X (.UnaryOp .Not a pos) (aNm tA):=by
 intro Ψ s σ H Q I h;exact isTrue_not (ha Ψ s σ H (λc H1=>Q (!c) H1) I h)
noncomputable def aLs(ta tb:TE):TE:=λσ H Q=>ta σ H λx H1=>∃c,x=.bl c/\if c=af then tb σ H1 Q else Q (.bl ag) H1
noncomputable def aNn(ta tb:TE):TE:=λσ H Q=>ta σ H λx H1=>∃c,x=.bl c/\if c=af then Q (.bl af) H1 else tb σ H1 Q
noncomputable def aLt(ta:TE):TE:=λσ H Q=>ta σ H λx H1=>∃c,x=.bl c/\Q (.bl (!c)) H1
theorem aIv{op}{t:TE}(h:PE X a t):PE X (.BoolOp op [a] pos) t:=λΨ s σ H Q I hw=>BoolOp_one (h Ψ s σ H Q I hw)
theorem aIw(ha:PE X a ta)(hb:PE X (.BoolOp .And (b::rest) pos) tb):PE X (.BoolOp .And (a::b::rest) pos) (aLs ta tb):=by
 intro Ψ s σ H Q I h;refine BoolOp_and (thn (ha Ψ s σ H _ I h) λv s1 ⟨x,H1,I1,r1,q1⟩=>?_);obtain⟨c,rfl,q1⟩:=q1;cases r1;refine ik ?_;cases c with
 |true=>exact hb Ψ s1 σ H1 Q I1 q1
 |false=>exact⟨.bl ag,H1,I1,rfl,q1⟩
theorem aLu(ha:PE X a ta)(hb:PE X (.BoolOp .Or (b::rest) pos) tb):PE X (.BoolOp .Or (a::b::rest) pos) (aNn ta tb):=by
 intro Ψ s σ H Q I h;refine BoolOp_or (thn (ha Ψ s σ H _ I h) λv s1 ⟨x,H1,I1,r1,q1⟩=>?_);obtain⟨c,rfl,q1⟩:=q1;cases r1;refine ik ?_;cases c with
 |false=>exact hb Ψ s1 σ H1 Q I1 q1
 |true=>exact⟨.bl af,H1,I1,rfl,q1⟩
theorem aIx(ha:PE X a ta):PE X (.UnaryOp .Not a pos) (aLt ta):=by
 intro Ψ s σ H Q I h;refine UnaryOp_ (thn (ha Ψ s σ H _ I h) λv s1 ⟨x,H1,I1,r1,q1⟩=>?_);obtain⟨c,rfl,q1⟩:=q1;cases r1;exact not_of (ik ⟨.bl (!c),H1,I1,rfl,q1⟩)
end
def SqL(K:bz)(H:Hp)(a:al)(xs:aa V):Prop:=
 Rd H a (.lst xs)\/
  ∃(o:bf)(its:aE ak)(n:ah),K.lookup a=ae o/\o.cls=.type "list"/\o.dict=aj/\o.data=.seq its n/\its.size<=bq/\Vals xs its.toList
def SqT(K:bz)(H:Hp)(a:al)(xs:aa V):Prop:=
 Rd H a (.tup xs)\/
  ∃(o:bf)(its:aE ak)(n:ah),K.lookup a=ae o/\o.cls=.type "tuple"/\o.data=.seq its n/\its.size<=bq/\Vals xs its.toList
noncomputable def aNo:ak->ay V
 |.none=>ae .non
 |.bool b=>ae (.bl b)
 |.int i _=>ae (.int i)
 |.str x _=>ae (.str x)
 |.bytes b _=>ae (.byt b)
 |.float b _=>ae (.flt b)
 |.ref a=>ae (.ref a)
 |.type n=>ae (.ty n)
 |_=>aj
theorem RelV.abs{x:V}{u:ak}(r:RelV x u):aNo u=ae x:=by
 cases x with
 |non=>cases r;rfl
 |bl _=>cases r;rfl
 |int _=>obtain⟨t,rfl⟩:=r;rfl
 |str _=>obtain⟨t,rfl⟩:=r;rfl
 |byt _=>obtain⟨t,rfl⟩:=r;rfl
 |flt _=>obtain⟨t,rfl⟩:=r;rfl
 |ref _=>cases r;rfl
 |ty _=>cases r;rfl
theorem RelV.inj{x y:V}{u:ak}(r:RelV x u)(q:RelV y u):x=y:=cz (r.abs.symm.trans q.abs)
theorem Vals.inj:∀{xs ys:aa V}{us:aa ak},Vals xs us->Vals ys us->xs=ys
 |_,_,_,.nil,.nil=>rfl
 |_,_,_,.cons r t,.cons r' t'=>by rw[r.inj r',Vals.inj t t']
section
variable {X:Cx} {Ψ:aa (al×bf)} {σ:St} {H:Hp} {s:ao} {a:al} {xs ys:aa V}
theorem SqL.of{K:bz}(h:H a=ae (.lst xs)):SqL K H a xs:=.inl (.inl h)
theorem SqT.of{K:bz}(h:H a=ae (.tup xs)):SqT K H a xs:=.inl (.inl h)
theorem Inv.list(I:Inv X Ψ σ H s)(h:SqL X.K H a xs):∃its:aa ak,Vals xs its/\PlainL s.heap a its.toArray/\xs.length<=bq:=by
 rcases h with h|⟨o,its,n,hk,hc,hd,hs,hz,r⟩
 ·obtain⟨z,its,n,r,e⟩:=h.ok I.hok;exact⟨its,r,⟨_,n,e,rfl,rfl,rfl⟩,z⟩
 ·refine⟨its.toList,r,⟨o,n,I.kIn a o hk,hc,hd,by simpa using hs⟩,?_⟩;have e:=r.length;simp only[gj] at e;lia
theorem Inv.tuple(I:Inv X Ψ σ H s)(h:SqT X.K H a xs):∃its:aa ak,Vals xs its/\IsTup s.heap a its.toArray/\xs.length<=bq:=by
 rcases h with h|⟨o,its,n,hk,hc,hs,hz,r⟩
 ·obtain⟨z,its,r,p⟩:=h.ok I.hok;exact⟨its,r,p.tup,z⟩
 ·refine⟨its.toList,r,⟨o,I.kIn a o hk,hc,n,by simpa using hs⟩,?_⟩;have e:=r.length;simp only[gj] at e;lia
theorem Inv.aCu(I:Inv X Ψ σ H s)(h:SqL X.K H a xs)(h':SqL X.K H a ys):xs=ys:=by
 obtain⟨its,r,⟨o,n,e,_,_,d⟩,_⟩:=I.list h;obtain⟨its',r',⟨o',n',e',_,_,d'⟩,_⟩:=I.list h';rw[e] at e';cases e';rw[d] at d';injection d' with d1 _
 have:its=its':=by simpa using di sT d1
 subst this;exact r.inj r'
theorem Inv.Y8(I:Inv X Ψ σ H s)(h:SqT X.K H a xs)(h':SqT X.K H a ys):xs=ys:=by
 obtain⟨its,r,⟨o,e,_,n,d⟩,_⟩:=I.tuple h;obtain⟨its',r',⟨o',e',_,n',d'⟩,_⟩:=I.tuple h';rw[e] at e';cases e';rw[d] at d';injection d' with d1 _
 have:its=its':=by simpa using di sT d1
 subst this;exact r.inj r'
end
noncomputable abbrev Cx.wish(X:Cx)(E:ak->ao->Prop):Cx:={X with xe:=E}
noncomputable abbrev Cx.nox(X:Cx):Cx:=X.wish λ_ _=>cm
theorem Cx.Ok.wish{X:Cx}(ok:X.Ok)(E:ak->ao->Prop):(X.wish E).Ok:=
 ⟨ok.mod,ok.kind,ok.glob,ok.blt,ok.above,ok.inj,ok.has,ok.cab,ok.hd,ok.frames,ok.stk,ok.exf,ok.bs,ok.bsz,ok.noex,ok.exfs,ok.YS,ok.frf⟩
theorem Cx.Ok.mY{X:Cx}{E:ak->ao->Prop}(ok:(X.wish E).Ok):X.Ok:=
 ⟨ok.mod,ok.kind,ok.glob,ok.blt,ok.above,ok.inj,ok.has,ok.cab,ok.hd,ok.frames,ok.stk,ok.exf,ok.bs,ok.bsz,ok.noex,ok.exfs,ok.YS,ok.frf⟩
section
variable {X:Cx} {Ψ:aa (al×bf)} {σ:St} {H:Hp} {s:ao} {E:ak->ao->Prop}
theorem Inv.wish(I:Inv X Ψ σ H s)(E:ak->ao->Prop):Inv (X.wish E) Ψ σ H s:=⟨I.ok.wish E,I.os,I.bare,I.base,I.loc,I.cell,I.free,I.freeC,I.pin,I.hok,I.len⟩
theorem Inv.mY(I:Inv (X.wish E) Ψ σ H s):Inv X Ψ σ H s:=⟨I.ok.mY,I.os,I.bare,I.base,I.loc,I.cell,I.free,I.freeC,I.pin,I.hok,I.len⟩
theorem SP.mY{D:Ends}{f:Flow}{s':ao}(h:SP (X.wish E) Ψ D f s'):SP X Ψ D f s':=by
 cases f with
 |next=>obtain⟨σ',H',I,q⟩:=h;exact⟨σ',H',I.mY,q⟩
 |brk=>obtain⟨σ',H',I,q⟩:=h;exact⟨σ',H',I.mY,q⟩
 |cont=>obtain⟨σ',H',I,q⟩:=h;exact⟨σ',H',I.mY,q⟩
 |ret u=>obtain⟨v,σ',H',I,r,q⟩:=h;exact⟨v,σ',H',I.mY,r,q⟩
theorem PSs.nox{st:aa bE}{t:TS}(h:PSs X.nox st t):PSs X st t:=λΨ s σ H D I hw=>
 d5 (h Ψ s σ H D (I.wish _) hw) (λ_ _ q=>q.mY) λ_ _ z=>dE z
end
section
variable {X:Cx} {st:bE} {rest:aa bE} {t u:TS} {e:Expr} {te:TE} {pos:cb}
noncomputable def aLv:TS:=λD σ H=>D.nx σ H
noncomputable def aN2(t u:TS):TS:=λD σ H=>t {D with nx:=u D} σ H
theorem aG1:PSs X [] aLv:=λ_ _ σ H _ I h=>s_ ⟨σ,H,I,h⟩
theorem TQ(h1:PS X st t)(h2:PSs X rest u):PSs X (st::rest) (aN2 t u):=by
 intro Ψ s σ H D I h;refine tv (thn (h1 Ψ s σ H {D with nx:=u D} I h) λf s1 q=>?_);cases f with
 |next=>
  obtain⟨σ',H',I',q⟩:=q;exact h2 Ψ s1 σ' H' D I' q
 |ret v=>exact q
 |brk=>exact q
 |cont=>exact q
theorem QK(h1:PS X st t):PSs X [st] t:=by
 intro Ψ s σ H D I h;refine tv (thn (h1 Ψ s σ H D I h) λf s1 q=>?_);cases f with
 |next=>exact s_ q
 |ret v=>exact q
 |brk=>exact q
 |cont=>exact q
theorem Inv.quiet{Ψ:aa (al×bf)}{σ:St}{H:Hp}{s:ao}(I:Inv X Ψ σ H s):xw X.env=ag:=by simp[xw,I.ok.kind]
noncomputable def aLw(te:TE):TS:=λD σ H=>te σ H λ_ H1=>D.nx σ H1
theorem xJ(he:PE X e te)(hs:dL e aj pos.line X.env=pure ag:=by rfl):PS X (.Expr e pos) (aLw te):=by
 intro Ψ s σ H D I h;exact xy (thn (he Ψ s σ H _ I h) λv s1 ⟨x,H1,I1,r1,q1⟩=>⟨σ,H1,I1,q1⟩) I.quiet hs
noncomputable def aNp(te:TE):TS:=λD σ H=>te σ H D.rt
theorem aEw(he:PE X e te):PS X (.Return (ae e) pos) (aNp te):=by
 intro Ψ s σ H D I h;exact wpAny_Return_some (thn (he Ψ s σ H _ I h) λv s1 ⟨x,H1,I1,r1,q1⟩=>⟨x,σ,H1,I1,r1,q1⟩)
noncomputable def aNq(c:TT)(t u:TS):TS:=λD σ H=>c σ H λb H1=>if b=af then t D σ H1 else u D σ H1
theorem aIy{c:Expr}{a b:aa bE}{tc:TT}(hc:PT X c tc)(ha:PSs X a t)(hb:PSs X b u):PS X (.If c a b pos) (aNq tc t u):=by
 intro Ψ s σ H D I h;refine wpAny_If (thn (hc Ψ s σ H _ I h) λd s1 ⟨H1,I1,q1⟩=>?_);cases d with
 |true=>exact ha Ψ s1 σ H1 D I1 q1
 |false=>exact hb Ψ s1 σ H1 D I1 q1
end
abbrev TG:=V->St->Hp->(St->Hp->Prop)->Prop
abbrev TGs:=aa V->St->Hp->(St->Hp->Prop)->Prop
def PG(X:Cx)(target:Expr)(t:TG):Prop:=
 ∀(Ψ:aa (al×bf))(s:ao)(σ:St)(H:Hp)(v:V)(u:ak)(Q:St->Hp->Prop),Inv X Ψ σ H s->RelV v u->t v σ H Q->
  ϑ (ax X.prog X.w) X.A (jv target X.env u) (λ_ s'=>∃σ' H',Inv X Ψ σ' H' s'/\Q σ' H') X.xe s
def PGs(X:Cx)(ts:aa Expr)(t:TGs):Prop:=
 ∀(Ψ:aa (al×bf))(s:ao)(σ:St)(H:Hp)(vs:aa V)(us:aa ak)(Q:St->Hp->Prop),Inv X Ψ σ H s->Vals vs us->t vs σ H Q->
  ϑ (ax X.prog X.w) X.A (assignInOrder ((jw ts X.env).map (·.2)) us) (λ_ s'=>∃σ' H',Inv X Ψ σ' H' s'/\Q σ' H') X.xe s
section
variable {X:Cx} {pos:cb}
noncomputable def uW(i:ah):TG:=λv σ H Q=>Q (σ.set i (ae v)) H
theorem bH{i:ah}{x:Str}(hN:X.N.Nodup)(hi:X.N[i]?=ae x)(hx:Loc X.env.scope x)(hf:X.fn x=af\/X.env.scope.names.lookup x=ae .local:=by first|exact .inl rfl|exact .inr rfl|assumption):PG X (.Name x pos) (uW i):=by
 intro Ψ s σ H v u Q I r h;exact wpAny_assign_Name (TF I hN hi hx r (λs' I'=>⟨_,H,I',h⟩) hf)
noncomputable def aN3:TGs:=λvs σ H Q=>vs=[]/\Q σ H
noncomputable def aIz(t:TG)(u:TGs):TGs:=λvs σ H Q=>∃v r,vs=v::r/\t v σ H λσ' H'=>u r σ' H' Q
theorem mZ:PGs X [] aN3:=by
 intro Ψ s σ H vs us Q I r h;obtain⟨e,h⟩:=h;subst e;cases r;exact assignInOrder_nil ⟨σ,H,I,h⟩
theorem dD{e:Expr}{es:aa Expr}{t:TG}{u:TGs}(h1:PG X e t)(h2:PGs X es u)
 (hs:(jw (e::es) X.env).map (·.2)=jv e X.env::(jw es X.env).map (·.2):=by rfl):PGs X (e::es) (aIz t u):=by
 intro Ψ s σ H vs us Q I r h;obtain⟨v,vr,e1,h⟩:=h;subst e1;cases r with
 |cons r rr=>
  rw[hs];refine assignInOrder_cons (thn (h1 Ψ s σ H _ _ _ I r h) λ_ s1 ⟨σ1,H1,I1,q1⟩=>?_);exact h2 Ψ s1 σ1 H1 _ _ Q I1 rr q1
noncomputable def aLx(K:bz)(n:ah)(t:TGs):TG:=λv σ H Q=>∃a xs,v=.ref a/\SqT K H a xs/\xs.length=n/\t xs σ H Q
theorem vZ{es:aa Expr}{k:ah}{t:TGs}{n:ah}(hc:X.calm=af)(h:PGs X es t)
 (hn:(jw es X.env).length=n:=by rfl)(hst:(jw es X.env).findIdx? (·.1)=aj:=by rfl):PG X (.Tuple es k pos) (aLx X.K n t):=by
 intro Ψ s σ H v u Q I r hw;obtain⟨a,xs,e1,hq,hl,hw⟩:=hw;subst e1;cases r;obtain⟨its,rv,ht,hz⟩:=I.tuple hq;refine assign_Tuple_tuple (I.ok.hd hc) ht (by simp[hn,<-hl,rv.length]) hst λh' hx=>?_
 have I1:Inv X Ψ σ H {s with heap:=h'}:=I.kept (t':=s.toks) λb o e=>hx b o (c9 (bS e)) e
 exact h Ψ _ σ H xs _ Q I1 (by simpa using rv) hw
noncomputable def aEx(te:TE)(g:TG):TS:=λD σ H=>te σ H λx H1=>g x σ H1 D.nx
theorem aJ0{tg e:Expr}{te:TE}{g:TG}(he:PE X e te)(hg:PG X tg g)(hs:xA [tg] e pos.line X.env=pure ag:=by rfl)(hw:xB [tg] e X.env=pure aj:=by rfl)
 (h1:(jw [tg] X.env).map (·.2)=[jv tg X.env]:=by rfl):PS X (.Assign [tg] e pos) (aEx te g):=by
 intro Ψ s σ H D I h;refine wpAny_Assign_stores (thn (he Ψ s σ H _ I h) λv s1 ⟨x,H1,I1,r1,q1⟩=>?_) hs hw;rw[h1];exact thn (hg Ψ s1 σ H1 x v _ I1 r1 q1) λ_ s2 q=>q
theorem Y9{i:ah}{x:Str}{e:Expr}{te:TE}{pos':cb}(hN:X.N.Nodup)(hi:X.N[i]?=ae x)(hx:Loc X.env.scope x)(he:PE X e te)(hs:dL e (ae (.Name x pos')) pos.line X.env=pure ag:=by rfl)(hf:X.fn x=af\/X.env.scope.names.lookup x=ae .local:=by first|exact .inl rfl|exact .inr rfl|assumption) :
  PS X (.Assign [.Name x pos'] e pos) (aEx te (uW i)):=by
 intro Ψ s σ H D I h;refine wpAny_Assign_Name (thn (he Ψ s σ H _ I h) λv s1 ⟨y,H1,I1,r1,q1⟩=>?_) hs;exact TF I1 hN hi hx r1 (λs2 I2=>⟨_,H1,I2,q1⟩) hf
end
structure It where
 go:ah->Hp->Prop
 yld:ah->Hp->V->Hp->Prop
 stop:ah->Hp->Prop
def Y_(X:Cx)(Ψ:aa (al×bf))(H:Hp)(b:al):Prop:=
 H b=aj/\b≠X.env.locals/\b∉X.fs/\(b∈X.ex\/X.s₀.heap.objs.size<=b)/\(∀x c,X.env.cells.lookup x=ae c->c≠b)/\∀p∈X.pn++Ψ,p.1≠b
theorem Inv.aEy{X:Cx}{Ψ:aa (al×bf)}{σ:St}{H H':Hp}{s:ao}{b:al}(I:Inv X Ψ σ H s)(hb:s.heap.objs.size<=b)(hn:H' b=aj):Y_ X Ψ H' b:=by
 refine⟨hn,jx (dz I.lt hb),I.aN1 hb,.inr (du I.sz hb),λx c e z=>?_,λp hp z=>?_⟩
 ·obtain⟨v,q⟩:=I.cell x c e;exact bb (dz q.lt (by rw[z];exact hb)) (fg _)
 ·exact bb (dz (bS (I.pin p hp).1) (by rw[z];exact hb)) (fg _)
structure Turn(P:bu)(w:bo)(K:bz)(tg:Expr)(J:It)(fp:aa al)(it:al)(tn:ah->aS->Prop):Prop where
 mem:it∈fp
 obj:∀i h,tn i h->∀b∈fp,∃o,h.get? b=ae o/\∀v,o.data≠.cell v
 keep:∀i h h',tn i h->(∀b∈fp,∀o,h.get? b=ae o->h'.get? b=ae o)->tn i h'
 item:∀(X:Cx),X.prog=P->X.w=w->X.K=K->X.calm=af->∀(i:ah)(Ψ:aa (al×bf))(s:ao)(σ:St)(H:Hp)(E:ak->ao->Prop),Inv X Ψ σ H s->(∀b∈fp,Y_ X Ψ H b)->tn i s.heap->J.go i H->
  ϑ (ax P w) X.A (fI (.ref it)) (λr s1=>∃u,r=ae u/\
   ϑ (ax P w) X.A (lS tg (.ref it) u) (λ_ s2=>∃x H',Inv X Ψ σ H' s2/\RelV x u/\J.yld i H x H'/\tn (i+1) s2.heap/\∀b∈fp,H' b=aj) E s1) E s
 done:∀(X:Cx),X.prog=P->X.w=w->X.K=K->X.calm=af->∀(i:ah)(Ψ:aa (al×bf))(s:ao)(σ:St)(H:Hp)(E:ak->ao->Prop),Inv X Ψ σ H s->(∀b∈fp,Y_ X Ψ H b)->tn i s.heap->J.stop i H->
  ϑ (ax P w) X.A (fI (.ref it)) (λr s1=>r=aj/\Inv X Ψ σ H s1) E s
 self:∀(A:bP)(i:ah)(s:ao)(Q:ak->ao->Prop)(E:ak->ao->Prop),tn i s.heap->Q (.ref it) s->ϑ (ax P w) A (fN (.ref it)) Q E s
abbrev TI:=St->Hp->(It->Hp->Prop)->Prop
def PIE(X:Cx)(Ψ:aa (al×bf))(σ:St)(tg:Expr)(R:It->Hp->Prop)(itv:ak)(s2:ao):Prop:=
 ∃(it:al)(fp:aa al)(tn:ah->aS->Prop)(J:It)(H':Hp),itv=.ref it/\Inv X Ψ σ H' s2/\Turn X.prog X.w X.K tg J fp it tn/\tn 0 s2.heap/\(∀b∈fp,Y_ X Ψ H' b)/\R J H'
def PI(X:Cx)(tg iter:Expr)(wi:TI):Prop:=
 ∀(Ψ:aa (al×bf))(s:ao)(σ:St)(H:Hp)(R:It->Hp->Prop),Inv X Ψ σ H s->wi σ H R->
  ϑ (ax X.prog X.w) X.A (eval iter X.env) (λv s1=>ϑ (ax X.prog X.w) X.A (fN v) (PIE X Ψ σ tg R) X.xe s1) X.xe s
theorem ZC{M:ij}{A:bP}{E:ak->ao->Prop}{s:ao}{tg:Expr}{it:al}{u:ak}{o:bf}{n:dr}{vs:aE ak}{Q:gN->ao->Prop}(ho:s.heap.get? it=ae o)(hc:o.cls=.type n)(hd:o.data=.fields vs)
 (hn:["enumerate","zip","dict_itemiterator","dict_reverseitemiterator","odict_iterator","itertools.zip_longest","itertools.pairwise"].contains n=ag)(hQ:Q () s):ϑ M A (lS tg (.ref it) u) Q E s:= by
  unfold lS;cases tg<;>first
    |exact bh hQ
    | (cases u<;>first
        |exact bh hQ
        | (refine aw (wpAny_load ho ?_)
           rw[hc,hd];show ϑ M A (if (["enumerate","zip","dict_itemiterator","dict_reverseitemiterator","odict_iterator","itertools.zip_longest","itertools.pairwise"].contains n&&vs[0]?==ae (gn _))=af then _ else _) Q E s;rw[az (by intro h;rw[hn,Bool.false_and] at h;cases h)];exact bh hQ))
noncomputable def Itl(K:bz)(a:al):It:=
 ⟨λi H=>∃xs x,SqL K H a xs/\xs[i]?=ae x,λi H x H'=>H'=H/\∀xs,SqL K H a xs->xs[i]?=ae x,λi H=>∃xs,SqL K H a xs/\xs.length<=i⟩
noncomputable def Itt(K:bz)(a:al):It:=
 ⟨λi H=>∃xs x,SqT K H a xs/\xs[i]?=ae x,λi H x H'=>H'=H/\∀xs,SqT K H a xs->xs[i]?=ae x,λi H=>∃xs,SqT K H a xs/\xs.length<=i⟩
noncomputable def Itr(lo:ai)(n:ah):It:=⟨λi _=>i<n,λi H x H'=>H'=H/\x=.int (lo+i),λi _=>n<=i⟩
theorem sS{P:bu}{w:bo}{K:bz}{tg:Expr}(a it:al):Turn P w K tg (Itl K a) [it] it (λi h=>h.IsListIter it a i) where
 mem:=by simp
 obj:=λi h st b hb=>by
  have e:b=it:=by simpa using hb
  subst e;obtain⟨o,e,c,d⟩:=st;exact⟨o,e,λv z=>by rw[d] at z;cases z⟩
 keep:=λi h h' st k=>st.at λo e=>k it (by simp) o e
 item:=by
  intro X hP hw hK hc i Ψ s σ H E I hf st hg;subst hP hw hK;obtain⟨xs,x,hq,hx⟩:=hg;obtain⟨its,rv,p,hz⟩:=I.list hq;obtain⟨u,hu,ru⟩:=rv.get hx;obtain⟨f0,f1,f2,f3,f4,f5⟩:=hf it (by simp);refine wpAny_pyNext_list_item st p.isList (x:=u) (by simpa using hu) λh' st' sb=>?_
  have I1:Inv X Ψ σ H {s with heap:=h'}:=I.turned (t':=s.toks) (λb o hb e=>(sb.2 b hb).trans e) f0 f1 f3 f4 f5;obtain⟨o,e,c,d⟩:=id st';exact⟨u,rfl,ZC (s:={s with heap:=h'}) e c d (by decide) ⟨x,H,I1,ru,⟨rfl,λys hy=>by rw[I.aCu hy hq];exact hx⟩,st',λb hb=>(hf b hb).1⟩⟩
 done:=by
  intro X hP hw hK hc i Ψ s σ H E I hf st hg;subst hP hw hK;obtain⟨xs,hq,hx⟩:=hg;obtain⟨its,rv,p,hz⟩:=I.list hq;obtain⟨f0,f1,f2,f3,f4,f5⟩:=hf it (by simp);have hl:=rv.length;exact wpAny_pyNext_list_end (I.ok.hd hc) st p.isList (by simp;lia) λh' eb=>⟨rfl,I.turned (t':=s.toks) (λb o hb e=>eb b o hb e) f0 f1 f3 f4 f5⟩
 self:=λ_ _ _ _ _ st h=>wpAny_pyIter_listiter st h
theorem WT{P:bu}{w:bo}{K:bz}{tg:Expr}(a it:al):Turn P w K tg (Itt K a) [it] it (λi h=>h.IsTupleIter it a i) where
 mem:=by simp
 obj:=λi h st b hb=>by
  have e:b=it:=by simpa using hb
  subst e;obtain⟨o,e,c,d⟩:=st;exact⟨o,e,λv z=>by rw[d] at z;cases z⟩
 keep:=λi h h' st k=>st.at λo e=>k it (by simp) o e
 item:=by
  intro X hP hw hK hc i Ψ s σ H E I hf st hg;subst hP hw hK;obtain⟨xs,x,hq,hx⟩:=hg;obtain⟨its,rv,p,hz⟩:=I.tuple hq;obtain⟨u,hu,ru⟩:=rv.get hx;obtain⟨f0,f1,f2,f3,f4,f5⟩:=hf it (by simp);refine wpAny_pyNext_tuple_item st (show s.heap.IsTuple a its.toArray from p) (x:=u) (by simpa using hu) λh' st' sb=>?_
  have I1:Inv X Ψ σ H {s with heap:=h'}:=I.turned (t':=s.toks) (λb o hb e=>(sb.2 b hb).trans e) f0 f1 f3 f4 f5;obtain⟨o,e,c,d⟩:=id st';exact⟨u,rfl,ZC (s:={s with heap:=h'}) e c d (by decide) ⟨x,H,I1,ru,⟨rfl,λys hy=>by rw[I.Y8 hy hq];exact hx⟩,st',λb hb=>(hf b hb).1⟩⟩
 done:=by
  intro X hP hw hK hc i Ψ s σ H E I hf st hg;subst hP hw hK;obtain⟨xs,hq,hx⟩:=hg;obtain⟨its,rv,p,hz⟩:=I.tuple hq;obtain⟨f0,f1,f2,f3,f4,f5⟩:=hf it (by simp);have hl:=rv.length;exact wpAny_pyNext_tuple_end (I.ok.hd hc) st (show s.heap.IsTuple a its.toArray from p) (by simp;lia) λh' eb=>⟨rfl,I.turned (t':=s.toks) (λb o hb e=>eb b o hb e) f0 f1 f3 f4 f5⟩
 self:=λ_ _ _ _ _ st h=>wpAny_pyIter_tupleiter st h
theorem WW{P:bu}{w:bo}{K:bz}{tg:Expr}(it:al)(lo:ai)(n:ah):Turn P w K tg (Itr lo n) [it] it (λi h=>xD h it (lo+(i:ah)*1) ((n:ai)-(i:ah)) 1) where
 mem:=by simp
 obj:=λi h st b hb=>by
  have e:b=it:=by simpa using hb
  subst e;exact⟨_,st,λv z=>by
   have z':Data.fields _=Data.cell v:=z;cases z'⟩
 keep:=λi h h' st k=>k it (by simp) _ st
 item:=by
  intro X hP hw hK hc i Ψ s σ H E I hf st hg;subst hP hw hK;obtain⟨f0,f1,f2,f3,f4,f5⟩:=hf it (by simp);have W:=Walks.range (prog:=X.prog) (w:=X.w) (I.ok.hd hc) it lo 1 n;refine W.item i s _ _ hg st λv h' tk hv st' kk=>?_
  obtain⟨t,rfl⟩:=hv;have I1:Inv X Ψ σ H {s with heap:=h',toks:=tk}:=I.turned (λb o hb e=>kk b o (by simpa using hb) e) f0 f1 f3 f4 f5;refine⟨_,rfl,ZC (s:={s with heap:=h',toks:=tk}) (n:= "range_iterator") st' rfl rfl (by decide) ⟨.int (lo+i),H,I1,⟨t,?_⟩,⟨rfl,rfl⟩,st',λb hb=>(hf b hb).1⟩⟩;rw[xE]
 done:=by
  intro X hP hw hK hc i Ψ s σ H E I hf st hg;subst hP hw hK;obtain⟨f0,f1,f2,f3,f4,f5⟩:=hf it (by simp);exact wpAny_pyNext_range_end (I.ok.hd hc) st (by have:n<=i:=hg;lia) λh' eb=>⟨rfl,I.turned (t':=s.toks) (λb o hb e=>eb b o hb e) f0 f1 f3 f4 f5⟩
 self:=λ_ _ _ _ _ st h=>wpAny_pyIter_rangeiter st h
section
variable {X:Cx} {tg:Expr}
theorem aCv{Ψ:aa (al×bf)}{σ:St}{H:Hp}{s:ao}{R:It->Hp->Prop}{E:ak->ao->Prop}{lo hi:ai}{t u v:e9}{tk:ah}(I:Inv X Ψ σ H s)(h1:-(2 ^ 62)<=lo)(h2:lo<2 ^ 62)(h3:-(2 ^ 62)<=hi)(h4:hi<2 ^ 62)
 (q:R (Itr lo (hi-lo).toNat) H):ϑ (ax X.prog X.w) X.A (fN (.ref s.heap.objs.size)) (PIE X Ψ σ tg R) E {s with heap:=s.heap.push {cls:=.type "range",data:=.fields #[.int lo t,.int hi u,.int 1 v]},toks:=tk}:=by
 refine wpAny_pyIter_range (IsRange.new ..) (small_one h1 h2 h3 h4) ?_;have I1:Inv X Ψ σ H {s with heap:=s.heap.push {cls:=.type "range",data:=.fields #[.int lo t,.int hi u,.int 1 v]},toks:=tk}:=I.kept λb o e=>cq _ e
 refine⟨(s.heap.push {cls:=.type "range",data:=.fields #[.int lo t,.int hi u,.int 1 v]}).objs.size,[(s.heap.push {cls:=.type "range",data:=.fields #[.int lo t,.int hi u,.int 1 v]}).objs.size],_,_,H,rfl,
  I1.kept (t':=tk) λb o e=>cq _ e,WW _ lo (hi-lo).toNat,?_,λb hb=>?_,q⟩
 ·have e1:lo+((0:ah):ai)*1=lo:=by simp
  have e2:(((hi-lo).toNat:ah):ai)-((0:ah):ai)=A9 lo hi 1:=by rw[rangeSize_one];split<;>lia
  show xD _ _ (lo+((0:ah):ai)*1) ((((hi-lo).toNat:ah):ai)-((0:ah):ai)) 1;rw[e1,e2];exact dg _ rfl
 ·have e:b=(s.heap.push {cls:=.type "range",data:=.fields #[.int lo t,.int hi u,.int 1 v]}).objs.size:=by simpa using hb
  subst e;exact I1.aEy (bi _) (I1.hok.fresh (bi _))
def aLy(ta:TA):TI:=λσ H R=>ta σ H λvs H1=>∃j:ai,vs=[.int j]/\-(2 ^ 62)<=j/\j<2 ^ 62/\R (Itr 0 j.toNat) H1
theorem ZD{a:Expr}{ta:TA}{p pos:cb}(hg:Gl X "range")(hm:X.mg "range"=aj)(ha:PA X [a] ta)(hs:br [a] X.env=[(ag,eval a X.env)]:=by rfl):PI X tg (.Call (.Name "range" p) [a] [] pos) (aLy ta):=by
 intro Ψ s σ H R I h;refine Call_ (TJ I hg hm boot_range (xI (thn (ha pos Ψ s σ H _ I h) λus s1 ⟨vs,H1,I1,r1,q1⟩=>?_) hs rfl));obtain⟨j,e,q1,q2,q⟩:=q1;subst e;cases r1 with
 |cons r rr=>
  cases rr;obtain⟨t,rfl⟩:=r;exact call_range_1 (aCv I1 (by lia) (by lia) q1 q2 (by simpa using q))
def aNr(wi:TI)(g:TG)(tb:TS):TS:=λD σ H=>wi σ H λJ H1=>∃W:ah->ah->St->Hp->Prop,(∃m,W 0 m σ H1)/\∀i m σ H,W i m σ H->
 (J.stop i H/\D.nx σ H)\/(J.go i H/\∃N:St->Hp->Prop,(∀σ' H',N σ' H'->∃m',m'<m/\W (i+1) m' σ' H')/\∀x H',J.yld i H x H'->g x σ H' λσ2 H2=>tb {D with nx:=N,ct:=N,bk:=D.nx} σ2 H2)
noncomputable def xK(fp:aa al)(h:aS):aa (al×bf):=fp.filterMap λb=>(h.get? b).map λo=>(b,o)
theorem oG{fp:aa al}{h:aS}{b:al}{o:bf}(hb:b∈fp)(e:h.get? b=ae o):(b,o)∈xK fp h:=uo.mpr ⟨b,hb,by rw[e];rfl⟩
theorem ZF{fp:aa al}{h:aS}{p:al×bf}(hp:p∈xK fp h):p.1∈fp/\h.get? p.1=ae p.2:=by
 obtain⟨b,hb,e⟩:=uo.mp hp;cases q:h.get? b with
 |none=>rw[q] at e;cases e
 |some o=>
  rw[q] at e;have e':(b,o)=p:=cz e;subst e';exact⟨hb,q⟩
theorem Inv.pinned{Ψ:aa (al×bf)}{σ:St}{H:Hp}{s:ao}{fp:aa al}(I:Inv X Ψ σ H s)(hf:∀b∈fp,Y_ X Ψ H b)(ho:∀b∈fp,∃o,s.heap.get? b=ae o/\∀v,o.data≠.cell v):Inv X (Ψ++xK fp s.heap) σ H s:=
 I.QJ λp hp=>(eJ.mp hp).elim (λz=>I.pin p (eT _ z)) λz=>by
  obtain⟨hb,e⟩:=ZF z;obtain⟨f0,f1,f2,_⟩:=hf p.1 hb;obtain⟨o,e',d⟩:=ho p.1 hb;rw[e] at e';cases e';exact⟨e,f0,f1,f2,d⟩
theorem Inv.sV{Ψ pl:aa (al×bf)}{σ:St}{H:Hp}{s:ao}(I:Inv X (Ψ++pl) σ H s):Inv X Ψ σ H s:=I.QJ λp hp=>I.pin p (eT _ (lP _ hp))
theorem TV{iter:Expr}{body:aa bE}{wi:TI}{g:TG}{tb:TS}{pos:cb}(hp:nq (ax X.prog X.w) X.A X.env X.xe)(hc:X.calm=af)(hi:PI X tg iter wi)(hg:PG X tg g)(hb:PSs X body tb)
 (hs:∀x,d6 iter X.env x=pure x:=by intro _;rfl):PS X (.For tg iter body [] pos) (aNr wi g tb):=by
 intro Ψ s σ H D I h;refine wpAny_For (thn (hi Ψ s σ H _ I h) λv s1 h1=>thn h1 λitv s2 h2=>?_) hs;obtain⟨it,fp,tn,J,H2,e,I2,T,st2,f2,W,⟨m0,w0⟩,turn⟩:=h2;subst e
 -- what stays af of the iterator's objects through the loop
 have stat:∀{H':Hp},(∀b∈fp,H' b=aj)->∀b∈fp,Y_ X Ψ H' b:=λhn b hb=>⟨hn b hb,(f2 b hb).2⟩
 refine codeAny_forLoop_any (λn s'=>∃i σ' H',Inv X Ψ σ' H' s'/\tn i s'.heap/\(∀b∈fp,H' b=aj)/\W i n σ' H') ?_ m0 ⟨0,σ,H2,I2,st2,λb hb=>(f2 b hb).1,w0⟩;rintro n s3 ⟨i,σ3,H3,I3,st3,fr3,w3⟩;rcases turn i n σ3 H3 w3 with ⟨stop,qn⟩|⟨go,N,hN,step⟩
 ·refine lT hp (thn (T.done X rfl rfl rfl hc i Ψ s3 σ3 H3 X.xe I3 (stat fr3) st3 stop) λr s4 ⟨hr,I4⟩=>?_);subst hr;exact s_ ⟨σ3,H3,I4,qn⟩
 ·refine lT hp (thn (T.item X rfl rfl rfl hc i Ψ s3 σ3 H3 X.xe I3 (stat fr3) st3 go) λr s4 ⟨u,hr,h4⟩=>?_);subst hr;refine lT hp (thn h4 λ_ s5 ⟨x,H5,I5,r5,y5,st5,fr5⟩=>?_);have I5':=I5.pinned (stat fr5) (T.obj _ _ st5);refine lT hp (thn (hg _ s5 σ3 H5 x u _ I5' r5 (step x H5 y5)) λ_ s6 ⟨σ6,H6,I6,q6⟩=>?_);refine lT hp (thn (hb _ s6 σ6 H6 _ I6 q6) λf s7 q7=>?_);have again:∀{σ7:St}{H7:Hp},Inv X (Ψ++xK fp s5.heap) σ7 H7 s7->N σ7 H7->∃m,m<n/\∃i σ' H',Inv X Ψ σ' H' s7/\tn i s7.heap/\(∀b∈fp,H' b=aj)/\W i m σ' H':=λ{σ7 H7} I7 n7=>by
   obtain⟨m',hm,w7⟩:=hN σ7 H7 n7;refine⟨m',hm,i+1,σ7,H7,I7.sV,T.keep _ _ _ st5 λb hb o e=>(I7.pin (b,o) (eT _ (eT _ (oG hb e)))).1,λb hb=>?_,w7⟩;obtain⟨o,e,d⟩:=T.obj _ _ st5 b hb;exact(I7.pin (b,o) (eT _ (eT _ (oG hb e)))).2.1
  cases f with
  |next=>obtain⟨σ7,H7,I7,n7⟩:=q7;exact again I7 n7
  |cont=>obtain⟨σ7,H7,I7,n7⟩:=q7;exact again I7 n7
  |brk=>obtain⟨σ7,H7,I7,q7⟩:=q7;exact⟨σ7,H7,I7.sV,q7⟩
  |ret v=>obtain⟨x7,σ7,H7,I7,r7,q7⟩:=q7;exact⟨x7,σ7,H7,I7.sV,r7,q7⟩
end
abbrev R2:=V->V->Hp->VK->Prop
def OpR(X:Cx)(f:ak->ak->eB ak)(r:R2):Prop:=
 ∀(Ψ:aa (al×bf))(s:ao)(σ:St)(H:Hp)(x y:V)(v u:ak)(Q:VK),Inv X Ψ σ H s->RelV x v->RelV y u->r x y H Q->
  ϑ (ax X.prog X.w) X.A (f v u) (EP X Ψ σ Q) X.xe s
def UnR(X:Cx)(f:ak->eB ak)(r:V->Hp->VK->Prop):Prop:=
 ∀(Ψ:aa (al×bf))(s:ao)(σ:St)(H:Hp)(x:V)(v:ak)(Q:VK),Inv X Ψ σ H s->RelV x v->r x H Q->
  ϑ (ax X.prog X.w) X.A (f v) (EP X Ψ σ Q) X.xe s
def jG(X:Cx)(f:ak)(r:aa V->Hp->VK->Prop):Prop:=
 ∀(Ψ:aa (al×bf))(s:ao)(σ:St)(H:Hp)(xs:aa V)(us:aa ak)(Q:VK),Inv X Ψ σ H s->Vals xs us->r xs H Q->
  ϑ (ax X.prog X.w) X.A (call f us) (EP X Ψ σ Q) X.xe s
def aNs(X:Cx)(r:V->Hp->(aq->Hp->Prop)->Prop):Prop:=
 ∀(Ψ:aa (al×bf))(s:ao)(σ:St)(H:Hp)(x:V)(v:ak)(Q:aq->Hp->Prop),Inv X Ψ σ H s->RelV x v->r x H Q->
  ϑ (ax X.prog X.w) X.A (truthy v) (TP X Ψ σ Q) X.xe s
noncomputable def tOp(r:R2)(ta tb:TE):TE:=λσ H Q=>ta σ H λx H1=>tb σ H1 λy H2=>r x y H2 Q
noncomputable def tUn(r:V->Hp->VK->Prop)(ta:TE):TE:=λσ H Q=>ta σ H λx H1=>r x H1 Q
noncomputable def rI(C:ai->ai->Prop)(g:ai->ai->V):R2:=λx y H Q=>∃i j,x=.int i/\y=.int j/\C i j/\Q (g i j) H
noncomputable def rI0(g:ai->ai->V):R2:=λx y H Q=>∃i j,x=.int i/\y=.int j/\Q (g i j) H
def rU(g:ai->V):V->Hp->VK->Prop:=λx H Q=>∃i,x=.int i/\Q (g i) H
section
variable {X:Cx} {a b:Expr} {ta tb:TE} {pos:cb}
theorem aLz(ha:PE X a ta)(hb:PE X b tb){Ψ:aa (al×bf)}{s:ao}{σ:St}{H:Hp}{R:V->V->Hp->Prop}(I:Inv X Ψ σ H s)
 (h:ta σ H λx H1=>tb σ H1 λy H2=>R x y H2){Q:ak->ao->Prop}{f:ak->ak->eB ak}
 (hf:∀v u s2 x y H2,Inv X Ψ σ H2 s2->RelV x v->RelV y u->R x y H2->ϑ (ax X.prog X.w) X.A (f v u) Q X.xe s2) :
  ϑ (ax X.prog X.w) X.A (eval a X.env) (λv s₁=>ϑ (ax X.prog X.w) X.A (eval b X.env) (λu s₂=>ϑ (ax X.prog X.w) X.A (f v u) Q X.xe s₂) X.xe s₁) X.xe s:=by
 refine thn (ha Ψ s σ H _ I h) λv s1 ⟨x,H1,I1,r1,q1⟩=>?_
 refine thn (hb Ψ s1 σ H1 _ I1 q1) λu s2 ⟨y,H2,I2,r2,q2⟩=>?_
 exact hf v u s2 x y H2 I2 r1 r2 q2
theorem aM0{op:Operator}{r:R2}(ho:OpR X (fj op) r)(ha:PE X a ta)(hb:PE X b tb):PE X (.BinOp a op b pos) (tOp r ta tb):=by
 intro Ψ s σ H Q I h;exact wpAny_BinOp (aLz ha hb I h λv u s2 x y H2 I2 rx ry q=>ho Ψ s2 σ H2 x y v u Q I2 rx ry q)
theorem aM1{op:UnaryOp}{r:V->Hp->VK->Prop}(ho:UnR X (nt op) r)(ha:PE X a ta):PE X (.UnaryOp op a pos) (tUn r ta):=by
 intro Ψ s σ H Q I h;exact UnaryOp_ (thn (ha Ψ s σ H _ I h) λv s1 ⟨x,H1,I1,r1,q1⟩=>ho Ψ s1 σ H1 x v Q I1 r1 q1)
theorem opI{f:ak->ak->eB ak}{C:ai->ai->Prop}{g:ai->ai->ai}
 (jy:∀(i j:ai) (t u:e9) (s:ao) (Q:ak->ao->Prop) (E:ak->ao->Prop),C i j->Q (.int (g i j) s.toks) {s with toks:=s.toks+1}->ϑ (ax X.prog X.w) X.A (f (.int i t) (.int j u)) Q E s) :
  OpR X f (rI C λi j=>.int (g i j)):=by
 intro Ψ s σ H x y v u Q I rx ry h;obtain⟨i,j,rfl,rfl,hc,q⟩:=h;obtain⟨t,rfl⟩:=rx;obtain⟨t',rfl⟩:=ry;exact jy i j t t' s _ _ hc ⟨.int (g i j),H,I.tok _,⟨_,rfl⟩,q⟩
theorem aN4{f:ak->ak->eB ak}{g:ai->ai->ai}
 (jy:∀(i j:ai) (t u:e9) (s:ao) (Q:ak->ao->Prop) (E:ak->ao->Prop),Q (.int (g i j) s.toks) {s with toks:=s.toks+1}->ϑ (ax X.prog X.w) X.A (f (.int i t) (.int j u)) Q E s) :
  OpR X f (rI0 λi j=>.int (g i j)):=by
 intro Ψ s σ H x y v u Q I rx ry h;obtain⟨i,j,rfl,rfl,q⟩:=h;obtain⟨t,rfl⟩:=rx;obtain⟨t',rfl⟩:=ry;exact jy i j t t' s _ _ ⟨.int (g i j),H,I.tok _,⟨_,rfl⟩,q⟩
def aNt(i j:ai):Prop:=0<j/\j<1073741824
def aNu(i j:ai):Prop:=0<=j/\j<=1000000/\i.natAbs<2 ^ 64
def aM2(i j:ai):Prop:=(-(2 ^ 64)<i/\i<2 ^ 64)\/(-(2 ^ 64)<j/\j<2 ^ 64)
theorem aM2.ok{i j:ai}(h:aM2 i j):IntMulOk i j:=by
 rcases h with ⟨h1,h2⟩|⟨h1,h2⟩
 ·exact .of_left (xL h1 h2)
 ·exact .of_right (xL h1 h2)
theorem aJ1:OpR X (fj .Add) (rI0 λi j=>.int (i+j)):=aN4 λ_ _ _ _ _ _ _ q=>add_int q
theorem aJ2:OpR X (fj .Sub) (rI0 λi j=>.int (i-j)):=aN4 λ_ _ _ _ _ _ _ q=>sub_int q
theorem aJ3:OpR X (fj .Mult) (rI aM2 λi j=>.int (i*j)):=opI λ_ _ _ _ _ _ _ hc q=>mul_int q hc.ok
theorem aG2:OpR X (fj .FloorDiv) (rI aNt λi j=>.int (i / j)):=opI λi j _ _ _ _ _ hc q=>by
 have h1:(0:ai)<j:=hc.1;have h2:j<1073741824:=hc.2;exact floordiv_int (by lia) (by rw[Int.fdiv_eq_ediv_of_nonneg i (by lia)];exact q) (.inl (PyProof.noPylong_small (by lia)))
theorem aJ4:OpR X (fj .Mod) (rI (λ_ j=>0<j) λi j=>.int (i % j)):=opI λi j _ _ _ _ _ hc q=>by
 have h1:(0:ai)<j:=hc;exact mod_int' (by lia) (by rw[Int.fmod_eq_emod_of_nonneg i (by lia)];exact q)
theorem aJ5:OpR X (fj .Pow) (rI aNu λi j=>.int (i ^ j.toNat)):=opI λ_ _ _ _ _ _ _ hc q=>pow_int_small hc.1 hc.2.1 hc.2.2 q
theorem unI{f:ak->eB ak}{g:ai->ai}
 (jy:∀(i:ai) (t:e9) (s:ao) (Q:ak->ao->Prop) (E:ak->ao->Prop),Q (.int (g i) s.toks) {s with toks:=s.toks+1}->ϑ (ax X.prog X.w) X.A (f (.int i t)) Q E s) :
  UnR X f (rU λi=>.int (g i)):=by
 intro Ψ s σ H x v Q I rx h;obtain⟨i,rfl,q⟩:=h;obtain⟨t,rfl⟩:=rx;exact jy i t s _ _ ⟨.int (g i),H,I.tok _,⟨_,rfl⟩,q⟩
theorem aJ6:UnR X (nt .USub) (rU λi=>.int (-i)):=unI λ_ _ _ _ _ q=>neg_int q
end
section
variable {X:Cx} {a b c:Expr} {ta tb tc:TE} {pos:cb}
theorem cY(b:Expr){op:fR}(h:op≠.In:=by decide)(h2:op≠.NotIn:=by decide):kF op b=ag:=by
 have e1:(op==CmpOp.In)=ag:=by cases op<;>first|rfl|exact bb rfl h
 have e2:(op==CmpOp.NotIn)=ag:=by cases op<;>first|rfl|exact bb rfl h2
 cases b<;>simp[kF,e1,e2]
theorem aG3{op:fR}{r:R2}(ho:OpR X (c_ op) r)(ha:PE X a ta)(hb:PE X b tb)(hm:kF op b=ag):PE X (.Compare a [op] [b] pos) (tOp r ta tb):=by
 intro Ψ s σ H Q I h;exact wpAny_Compare1 (aLz ha hb I h λv u s2 x y H2 I2 rx ry q=>ho Ψ s2 σ H2 x y v u Q I2 rx ry q) hm
noncomputable def aJ7(t:TE):TT:=λσ H Q=>t σ H λx H'=>∃k,x=.bl k/\Q k H'
theorem aG4{op:fR}{r:R2}(ho:OpR X (c_ op) r)(ha:PE X a ta)(hb:PE X b tb)(hm:kF op b=ag):PT X (.Compare a [op] [b] pos) (aJ7 (tOp r ta tb)):=by
 intro Ψ s σ H Q I h;refine wpAny_isTrue_Compare1 (thn (ha Ψ s σ H _ I h) λv s1 ⟨x,H1,I1,r1,q1⟩=>thn (hb Ψ s1 σ H1 _ I1 q1) λu s2 ⟨y,H2,I2,r2,q2⟩=>
  thn (ho Ψ s2 σ H2 x y v u _ I2 r1 r2 q2) λc s3 ⟨z,H3,I3,r3,k,e,q3⟩=>?_) hm
 subst e;cases r3;exact ik ⟨H3,I3,q3⟩
noncomputable def ZG(r r':R2)(ta tb tc:TE):TE:=λσ H Q=>ta σ H λx H1=>tb σ H1 λy H2=>r x y H2 λz H3=>∃k,z=.bl k/\
 (if k=af then tc σ H3 λw' H4=>r' y w' H4 Q else Q (.bl ag) H3)
theorem aCw{op op':fR}{r r':R2}(ho:OpR X (c_ op) r)(ho':OpR X (c_ op') r')(ha:PE X a ta)(hb:PE X b tb)(hc:PE X c tc)
 (hm:nu [op,op'] [b,c]=ag:=by with_unfolding_all rfl):PE X (.Compare a [op,op'] [b,c] pos) (ZG r r' ta tb tc):=by
 intro Ψ s σ H Q I h;refine Compare_chain (thn (ha Ψ s σ H _ I h) λv s1 ⟨x,H1,I1,r1,q1⟩=>chain_link (thn (hb Ψ s1 σ H1 _ I1 q1) λu s2 ⟨y,H2,I2,r2,q2⟩=>
  thn (ho Ψ s2 σ H2 x y v u _ I2 r1 r2 q2) λd s3 ⟨z,H3,I3,r3,k,e,q3⟩=>?_)) hm
 subst e;cases r3;refine ik ?_;cases k with
 |false=>exact ite_ff ⟨.bl ag,H3,I3,rfl,q3⟩
 |true=>exact ite_tt (chain_last (thn (hc Ψ s3 σ H3 _ I3 q3) λw' s4 ⟨z',H4,I4,r4,q4⟩=>ho' Ψ s4 σ H4 y z' u w' Q I4 r2 r4 q4))
theorem aCx{op op':fR}{r r':R2}(ho:OpR X (c_ op) r)(ho':OpR X (c_ op') r')(ha:PE X a ta)(hb:PE X b tb)(hc:PE X c tc)
 (hm:nu [op,op'] [b,c]=ag:=by with_unfolding_all rfl):PT X (.Compare a [op,op'] [b,c] pos) (aJ7 (ZG r r' ta tb tc)):=by
 intro Ψ s σ H Q I h;refine isTrue_chain (thn (ha Ψ s σ H _ I h) λv s1 ⟨x,H1,I1,r1,q1⟩=>test_link (thn (hb Ψ s1 σ H1 _ I1 q1) λu s2 ⟨y,H2,I2,r2,q2⟩=>
  thn (ho Ψ s2 σ H2 x y v u _ I2 r1 r2 q2) λd s3 ⟨z,H3,I3,r3,k,e,q3⟩=>?_)) hm
 subst e;cases r3;refine ik ?_;cases k with
 |false=>
  obtain⟨k',e',q'⟩:=q3;cases e';exact ite_ff ⟨H3,I3,q'⟩
 |true=>
  refine ite_tt (test_last (thn (hc Ψ s3 σ H3 _ I3 q3) λw' s4 ⟨z',H4,I4,r4,q4⟩=>thn (ho' Ψ s4 σ H4 y z' u w' _ I4 r2 r4 q4) λd' s5 ⟨z2,H5,I5,r5,k2,e2,q5⟩=>?_));subst e2;cases r5;exact ik ⟨H5,I5,q5⟩
def aM3(K:bz)(x:V)(H:Hp)(k:aq):Prop:=
 match x with
 |.non=>k=ag
 |.bl b=>k=b
 |.int i=>k=(i !=0)
 |.str y=>y.length<=bq/\k=((y.length:ai)!=0)
 |.byt y=>y.size<=bq/\k=((y.size:ai)!=0)
 |.ref p=>(∃xs,SqL K H p xs/\k=!xs.isEmpty)\/(∃xs,SqT K H p xs/\k=!xs.isEmpty)\/∃kvs,H p=ae (.dK kvs)/\k=!kvs.isEmpty
 |_=>cm
theorem WX{κ:Type}{kvs:aa (κ×V)}{vs:aa (κ×ak)}(r:KV kvs vs):(!vs.isEmpty)=!kvs.isEmpty:=by
 cases r<;>rfl
theorem CK{xs:aa V}{its:aa ak}(r:Vals xs its):(!its.toArray.isEmpty)=!xs.isEmpty:=by
 cases r<;>simp
theorem CN:(bq:ah)<2 ^ 63:=by rw[fo];decide
theorem aJ8:aNs X (λx H Q=>∃k,aM3 X.K x H k/\Q k H):=by
 intro Ψ s σ H x v Q I rx h;obtain⟨k,e,q⟩:=h;have hl:=CN;have hs:bq=16777216:=fo;cases x with
 |non=>
  cases rx;have e':k=ag:=e;subst e';exact truthy_none ⟨H,I,q⟩
 |bl b=>
  cases rx;have e':k=b:=e;subst e';exact ik ⟨H,I,q⟩
 |int i=>
  obtain⟨t,rfl⟩:=rx;have e':k=(i !=0):=e;subst e';exact PySem.P.truthy_int ⟨H,I,q⟩
 |str y=>
  obtain⟨t,rfl⟩:=rx;obtain⟨hy,e'⟩:y.length<=bq/\k=((y.length:ai)!=0):=e;subst e';exact PySem.P.truthy_str (by lia) ⟨H,I.tok _,q⟩
 |byt y=>
  obtain⟨t,rfl⟩:=rx;obtain⟨hy,e'⟩:y.size<=bq/\k=((y.size:ai)!=0):=e;subst e';exact PySem.W.truthy_bytes (by lia) ⟨H,I.tok _,q⟩
 |ref p=>
  cases rx;have e':(∃xs,SqL X.K H p xs/\k=!xs.isEmpty)\/(∃xs,SqT X.K H p xs/\k=!xs.isEmpty)\/∃kvs,H p=ae (.dK kvs)/\k=!kvs.isEmpty:=e;rcases e' with ⟨xs,hx,e'⟩|⟨xs,hx,e'⟩|⟨kvs,hx,e'⟩
  ·subst e';obtain⟨its,r,pl,hz⟩:=I.list hx;have hlen:=r.length;exact wpAny_truthy_list pl.isList (by simp only[cv];lia) ⟨H,I.tok _,by rw[CK r];exact q⟩
  ·subst e';obtain⟨its,r,pl,hz⟩:=I.tuple hx;have hlen:=r.length;exact truthy_tuple pl (by simp only[cv];lia) ⟨H,I.tok _,by rw[CK r];exact q⟩
  ·subst e';obtain⟨hz,hS,vs,r,m⟩:kvs.length<=bq/\(p==eP)=ag/\∃vs,KV kvs vs/\s.heap.DictOf (cU X.prog X.w) p vs:=I.hok p _ hx;have hlen:kvs.length=vs.length:=i5 r;exact wpAny_truthy_dict hS m (by lia) ⟨H,I.tok _,by rw[WX r];exact q⟩
 |_=>exact(show cm from e).elim
theorem aCy(ha:PE X a ta)(he:∀whole,nn a X.env whole=(do let v <- whole;standAt a.pos;uq [v] (truthy v))) :
  PT X a (λσ H Q=>ta σ H λx H'=>∃k,aM3 X.K x H' k/\Q k H'):=by
 intro Ψ s σ H Q I h;exact isTrue_plain (thn (ha Ψ s σ H _ I h) λv s1 ⟨x,H1,I1,r1,q1⟩=>aJ8 Ψ s1 σ H1 x v Q I1 r1 q1) (he _)
theorem WY:OpR X (fj .Add) (λx y H Q=>∃i j,x=.str i/\y=.str j/\i.length+j.length<=bq/\Q (.str (i++j)) H):=by
 intro Ψ s σ H x y v u Q I rx ry h;obtain⟨i,j,rfl,rfl,hz,q⟩:=h;obtain⟨t,rfl⟩:=rx;obtain⟨t',rfl⟩:=ry;exact add_str (λt' tk=>⟨.str (i++j),H,I.tok _,⟨_,rfl⟩,q⟩) hz
theorem vals1{x:V}{us:aa ak}(r:Vals [x] us):∃u,us=[u]/\RelV x u:=by
 cases r with
 |cons r1 r2=>cases r2;exact⟨_,rfl,r1⟩
end
theorem Y6.some_of{v:V}{o:ay ak}(r:Y6 (ae v) o):∃u,o=ae u/\RelV v u:=by
 cases o with
 |none=>exact(show cm from r).elim
 |some u=>exact⟨u,rfl,r⟩
structure uR(k:ah)(A:bP):Prop where
 hd:A.handled=aj
 dp:A.depth+3*k+5<xS
 un:A.units+16*k+200<b9
theorem uR.mono{j k:ah}{A:bP}(r:uR k A)(h:j<=k):uR j A:=⟨r.hd,by have:=r.dp;lia,by have:=r.un;lia⟩
theorem uR.deeper{k:ah}{A:bP}(r:uR (k+1) A)(env:c5):uR k (A.deeper env):=
 ⟨r.hd,by have:=r.dp;show A.depth+1+3*k+5<_;lia,by have:=r.un;show A.units+3+16*k+200<_;lia⟩
theorem uR.depth{k:ah}{A:bP}(r:uR k A):A.depth<xS:=by have:=r.dp;lia
theorem uR.units{k:ah}{A:bP}(r:uR k A):A.units+64<b9:=by have:=r.un;lia
noncomputable def aNv:TA:=λ_ H Q=>Q [] H
noncomputable def aM4(ta:TE)(tr:TA):TA:=λσ H Q=>ta σ H λx H1=>tr σ H1 λxs H2=>Q (x::xs) H2
section
variable {X:Cx} {e:Expr} {es:aa Expr} {te:TE} {t:TA} {pos:cb}
theorem xM:PA X [] aNv:=λ_ _ _ _ H Q I h=>Calls.spliced_nil ⟨[],H,I,.nil,h⟩
theorem jW(ha:PE X e te)(hr:PA X es t)(hs:br (e::es) X.env=(ag,eval e X.env)::br es X.env:=by rfl):PA X (e::es) (aM4 te t):=by
 intro pos Ψ s σ H Q I h;rw[hs];show ϑ _ _ (spliced ((ag,eval e X.env)::dA pos (br es X.env))) _ _ s;refine Calls.spliced_cons (thn (ha Ψ s σ H _ I h) λu s1 ⟨x,H1,I1,r1,q1⟩=>?_);exact thn (hr pos Ψ s1 σ H1 _ I1 q1) λus s2 ⟨xs,H2,I2,r2,q2⟩=>⟨x::xs,H2,I2,.cons r1 r2,q2⟩
def aNw(t:TA):TE:=λσ H Q=>t σ H λxs H1=>xs.length<=bq/\∀p,H1 p=aj->Q (.ref p) (upd H1 p (.tup xs))
def aNx(t:TA):TE:=λσ H Q=>t σ H λxs H1=>xs.length<=bq/\∀p,H1 p=aj->Q (.ref p) (upd H1 p (.lst xs))
theorem aJ9{x1}(h:PA X es t):PE X (.Tuple es x1 pos) (aNw t):=by
 intro Ψ s σ H Q I hq;refine wpAny_Tuple_spliced (thn (h pos Ψ s σ H _ I hq) λus s1 ⟨xs,H1,I1,r,z,q⟩=>⟨by rw[<-r.length];exact z,?_⟩);have hf:H1 s1.heap.objs.size=aj:=I1.hok.fresh (bi _);refine⟨.ref s1.heap.objs.size,upd H1 s1.heap.objs.size (.tup xs),I1.laid (t':=s1.toks) (λb u e=>cq _ e) (bi _) ?_,rfl,q _ hf⟩;exact⟨z,us,r,⟨_,dg _ rfl,rfl,_,rfl⟩⟩
theorem aJa(h:PA X es t):PE X (.List es pos) (aNx t):=by
 intro Ψ s σ H Q I hq;refine wpAny_List_spliced (thn (h pos Ψ s σ H _ I hq) λus s1 ⟨xs,H1,I1,r,z,q⟩=>⟨by rw[<-r.length];exact z,?_⟩);have hf:H1 s1.heap.objs.size=aj:=I1.hok.fresh (bi _);refine⟨.ref s1.heap.objs.size,upd H1 s1.heap.objs.size (.lst xs),I1.laid (t':=s1.toks) (λb u e=>cq _ e) (bi _) ?_,rfl,q _ hf⟩;exact⟨z,us,0,r,dg _ rfl⟩
end
abbrev Sp:=aa V->Hp->VK->XK->Prop
abbrev CXT:=aa c5->Hp->ao->XK->ak->ao->Prop
structure aLf(P:bu)(w:bo)(K:bz)(mg:Str->ay ak)(base:aS)(A:bP)(outer:aa c5)(s:ao)(H:Hp):Prop where
 frames:A.frames=ae outer
 mod:Mod K mg base
 bs:∀b o,base.get? b=ae o->s.heap.get? b=ae o/\H b=aj
 bsz:base.objs.size<=s.heap.objs.size
 YS:s.heap.FunFrames base outer
 frf:∀b∈frs outer,H b=aj
 hok:HOk P w H s.heap
 bare:ii s.gens
def CE(outer:aa c5)(P:bu)(w:bo)(H:Hp)(s:ao)(Q:VK)(u:ak)(s':ao):Prop:=
 ∃v H',s'.os=s.os/\ii s'.gens/\Un (frs outer) [] H H' s.heap s'.heap/\HOk P w H' s'.heap/\RelV v u/\Q v H'
def CR(CX:CXT)(outer:aa c5)(P:bu)(w:bo)(H:Hp)(s:ao)(Q:VK)(E:XK)(r:l8)(s':ao):Prop:=
 match r with
 |.ok (.ret u)=>CE outer P w H s Q u s'
 |.ok _=>cm
 |.error e=>CX outer H s E e s'
structure TX(P:bu)(w:bo)(K:bz)(mg:Str->ay ak)(base:aS)(CX:CXT)(k:ah)(f:al)(fd:eo)(ps:aa Str)(sp:Sp):Prop where
 len:∀vs H Q E,sp vs H Q E->vs.length=ps.length
 run:∀(A:bP)(outer:aa c5)(s:ao)(H:Hp)(args:Args)(us:aa ak)(vs:aa V)(Q:VK)(E:XK),uR k A->aLf P w K mg base A outer s H->kG s fd args (ps.zip us)->Vals vs us->sp vs H Q E->
  codeAny (ax P w) A (.call (.ref f) args) (CR CX outer P w H s Q E) s
section
variable {X:Cx} {Ψ:aa (al×bf)} {σ:St} {H:Hp} {s s':ao}
theorem Inv.env0(I:Inv X Ψ σ H s):aLf X.prog X.w X.K X.mg X.base X.A X.stack s H:=
 ⟨I.ok.frames,I.ok.mod,I.bs,du I.ok.bsz I.sz,I.stack,I.QH,I.hok,I.bare⟩
theorem Inv.after{Q:VK}{u:ak}(I:Inv X Ψ σ H s)(h:CE X.stack X.prog X.w H s Q u s'):EP X Ψ σ Q u s':=by
 obtain⟨v,H',os,bare,un,hok,r,q⟩:=h;obtain⟨hh,g,d,t,os'⟩:=s';obtain rfl:os'=s.os:=os;exact⟨v,H',I.call (h':=hh) (g':=g) (d':=d) (t':=t) (ch:=[]) un hok bare (λb z=>bb z (by simp)),r,q⟩
end
noncomputable def aM5(sp:Sp)(dvs:aa V)(E:XK)(t:TA):TE:=λσ H Q=>t σ H λvs H1=>sp (vs++dvs) H1 Q E
def Binds(K:bz)(fd:eo)(ps:aa Str)(ds:aa ak):Prop:=
 ∀(s:ao)(us:aa ak),K.In s.heap->(us++ds).length=ps.length->kG s fd ⟨us,[]⟩ (ps.zip (us++ds))
theorem Binds.all{K:bz}{fd:eo}{ps:aa Str}(h:∀us:aa ak,us.length=ps.length->bindArgs fd ⟨us,[]⟩=pure (ps.zip us)):Binds K fd ps []:=λs us _ hl=>by
 rw[fS] at hl ⊢;exact .of_eq (h us hl)
def TY(CX:CXT)(X:Cx)(E:XK):Prop:=∀(Ψ:aa (al×bf))(σ:St)(H:Hp)(s:ao)(e:ak)(s':ao),Inv X Ψ σ H s->CX X.stack H s E e s'->X.xe e s'
section
variable {X:Cx} {CX:CXT} {k:ah} {f:al} {fd:eo} {ps:aa Str} {sp:Sp} {dvs:aa V} {ds:aa ak} {E:XK} {x:Str} {p pos:cb} {e:Expr} {es:aa Expr} {t:TA}
theorem aJb{Ψ:aa (al×bf)}{σ:St}{H:Hp}{s:ao}{Q:VK}{us:aa ak}{vs:aa V}(F:TX X.prog X.w X.K X.mg X.base CX k f fd ps sp)(hr:uR k X.A)(hb:Binds X.K fd ps ds)(hd:Vals dvs ds)(hx:TY CX X E)
 (I:Inv X Ψ σ H s)(r:Vals vs us)(h:sp (vs++dvs) H Q E):ϑ (ax X.prog X.w) X.A (call (.ref f) us) (EP X Ψ σ Q) X.xe s:=by
 have r2:Vals (vs++dvs) (us++ds):=r.append hd;have hl:(us++ds).length=ps.length:=by rw[<-r2.length];exact F.len _ _ _ _ h
 refine nw (kH (F.run X.A X.stack s H ⟨us,[]⟩ (us++ds) (vs++dvs) Q E hr I.env0 (hb s us I.kIn hl) r2 h) λr s' hq=>?_);cases r with
 |error e=>exact hx Ψ σ H s e s' I hq
 |ok fl=>
  cases fl with
  |ret u=>exact I.after hq
  |next=>exact dE hq
  |brk=>exact dE hq
  |cont=>exact dE hq
theorem QL(F:TX X.prog X.w X.K X.mg X.base CX k f fd ps sp)(hr:uR k X.A)(hg:Gl X x)(hm:X.mg x=ae (.ref f))(hk:jz X.K (.ref f)=af)(hb:Binds X.K fd ps ds)(hd:Vals dvs ds)(hx:TY CX X E)
 (ha:PA X (e::es) t)(hdb:nDb x:=by decide)(he:br (e::es) X.env=(ag,eval e X.env)::br es X.env:=by rfl)(hpl:(dA pos (br es X.env)).any (·.1)=ag:=by rfl) :
  PE X (.Call (.Name x p) (e::es) [] pos) (aM5 sp dvs E t):=by
 intro Ψ s σ H Q I h;refine ny (xH I hg hm ?_ hdb);refine PySem.W.callWith_K (h₀:=X.base) I.ok.mod.kin hk (thn (ha pos Ψ s σ H _ I h) λus s1 ⟨vs,H1,I1,r,q⟩=>⟨I1.kIn,?_⟩) he hpl;exact aJb F hr hb hd hx I1 r q
end
structure cA(N P:aa Str)(sc:dS):Prop where
 kind:sc.kind=.function
 co:sc.isCoroutine=ag
 gen:sc.isGenerator=ag
 nd:N.Nodup
 pre:N.take P.length=P
 par:∀x∈P,sc.names.lookup x=ae .local\/sc.names.lookup x=ae .cell
 nofree:∀y∈sc.names,y.2≠.free
theorem KD{kindOf:Str->ay im}{x:Str}:∀{binds:aa (Str×ak)}{m:Str->ay ak},(∀v,(x,v)∉binds)->i6 kindOf binds m x=m x
 |[],_,_=>rfl
 | (n,v)::r,m,h=>by
  unfold i6;rw[KD λw hw=>h w (b6 _ hw)];split
  ·have:x≠n:=by rintro rfl;exact h v cu
   simp[this]
  ·rfl
theorem KH{kindOf:Str->ay im}{x:Str}:∀{binds:aa (Str×ak)}{m:Str->ay ak},(∀v,(x,v)∉binds)->i7 kindOf binds m x=m x
 |[],_,_=>rfl
 | (n,v)::r,m,h=>by
  unfold i7;rw[KH λw hw=>h w (b6 _ hw)];split
  ·rfl
  ·have:x≠n:=by rintro rfl;exact h v cu
   simp[this]
theorem KJ{kindOf:Str->ay im}{x:Str}{v:ak}:∀{P:aa Str}{vs:aa ak}{i:ah}{m:Str->ay ak},P.Nodup->P[i]?=ae x->vs[i]?=ae v->kindOf x=ae .local->
  i6 kindOf (P.zip vs) m x=ae v
 |[],_,_,_,_,h,_,_=>by simp at h
 |_::_,[],_,_,_,_,h,_=>by simp at h
 |p::P,w::vs,0,m,nd,h1,h2,hk=>by
  simp at h1 h2;subst h1;subst h2;show i6 kindOf ((p,w)::P.zip vs) m p=_;unfold i6;rw[KD λv hv=>(eR.mp nd).1 (ur hv).1,av hk];simp
 |p::P,w::vs,i+1,m,nd,h1,h2,hk=>by
  show i6 kindOf ((p,w)::P.zip vs) m x=_;unfold i6;exact KJ (i:=i) (eR.mp nd).2 (by simpa using h1) (by simpa using h2) hk
theorem KN{kindOf:Str->ay im}{x:Str}{v:ak}:∀{P:aa Str}{vs:aa ak}{i:ah}{m:Str->ay ak},P.Nodup->P[i]?=ae x->vs[i]?=ae v->kindOf x≠ae .local->
  i7 kindOf (P.zip vs) m x=ae v
 |[],_,_,_,_,h,_,_=>by simp at h
 |_::_,[],_,_,_,_,h,_=>by simp at h
 |p::P,w::vs,0,m,nd,h1,h2,hk=>by
  simp at h1 h2;subst h1;subst h2;show i7 kindOf ((p,w)::P.zip vs) m p=_;unfold i7;rw[KH λv hv=>(eR.mp nd).1 (ur hv).1,az hk];simp
 |p::P,w::vs,i+1,m,nd,h1,h2,hk=>by
  show i7 kindOf ((p,w)::P.zip vs) m x=_;unfold i7;exact KN (i:=i) (eR.mp nd).2 (by simpa using h1) (by simpa using h2) hk
noncomputable def start(N:aa Str)(vs:aa V):St:=vs.map ae++ck (N.length-vs.length) aj
noncomputable def v4(CX:CXT)(P:bu)(w:bo)(K:bz)(mg:Str->ay ak)(base:aS)(N:aa Str)(qual:Str)(scope:dS)(f:al)(cd:ak)(A:bP)(outer:aa c5)(s:ao)(H:Hp)(E:XK):Cx where
 prog:=P
 w:=w
 K:=K
 mg:=mg
 base:=base
 A:=A.deeper (dj qual scope s.heap.objs.size f cd)
 N:=N
 s₀:=s
 H₀:=H
 env:=dj qual scope s.heap.objs.size f cd
 outer:=outer
 stack:=dj qual scope s.heap.objs.size f cd::outer
 ex:=[]
 calm:=af
 fn:=λ_=>af
 pn:=[]
 xe:=λe s'=>ϑ (ax P w) (A.deeper (dj qual scope s.heap.objs.size f cd)) (leaving (dj qual scope s.heap.objs.size f cd) e) (λ_ s''=>CX outer H s E e s'') (λe' s''=>CX outer H s E e' s'') s'
theorem T3{sc:dS}{n:ah}{x:Str}(h:sc.names.lookup x=ae .cell):∃c,(ut n sc.names []).lookup x=ae c:=by
 have q:=x3 sc.names n [] (.inl h);exact kK.mp q
theorem ZJ{CX:CXT}{P:bu}{w:bo}{K:bz}{mg:Str->ay ak}{base:aS}{N ps:aa Str}{qual:Str}{scope:dS}{f:al}{cd:ak}{A:bP}{outer:aa c5}{s s1:ao}{H:Hp}{E:XK}{us:aa ak}{vs:aa V}
 (S:cA N ps scope)(hd:A.handled=aj)(e0:aLf P w K mg base A outer s H)(hl:vs.length=ps.length)(r:Vals vs us)
 (x:InCallC s s.heap.objs.size (i6 (dj qual scope s.heap.objs.size f cd).kindOf (ps.zip us) λ_=>aj) (ut (s.heap.objs.size+1) scope.names []) (i7 (dj qual scope s.heap.objs.size f cd).kindOf (ps.zip us) λ_=>aj) s1) :
  Inv (v4 CX P w K mg base N qual scope f cd A outer s H E) [] (start N vs) H s1:=by
 have hpl:ps.length<=N.length:=by have:=di fx S.pre;rw[gS] at this;lia
 obtain⟨h1,tk,rfl,hk⟩:=x.done;have noA:∀b:al,b∉(v4 CX P w K mg base N qual scope f cd A outer s H E).ex:=λb z=>bb (show b∈([]:aa al) from z) (by simp)
 refine⟨⟨e0.mod,S.kind,rfl,rfl,bi _,λy z c h1 h2=>?_,λy hy=>?_,λy c _ h=>?_,λ_=>hd,Around.frames_deeper e0.frames,.inr ⟨rfl,rfl⟩,λb z=>bb z (noA b),e0.bs,e0.bsz,λb _ _=>noA b,λb z=>bb z (noA b),e0.YS,e0.frf⟩,
  rfl,e0.bare,Un.kept hk,⟨_,x.toInCall.ns,λi y v h1 h2 h3=>?_⟩,λy c h=>⟨_,x.cell y c h⟩,e0.hok.fresh (bi _),λy c h=>?_,λp hp=>bb (show p∈([]:aa (al×bf)) from hp) (by simp),e0.hok.kept hk,?_⟩
 ·exact name_of_addr x.apart (kL h1) (kL h2)
 ·have hy:scope.names.lookup y=ae .cell\/scope.names.lookup y=ae .free:=hy;rcases hy with hy|hy
  ·exact T3 hy
  ·exact bb rfl (S.nofree _ (kL hy))
 ·exact lz (x.above y c (kL h))
 ·have hi:i<vs.length:=by
   unfold start at h2;by_cases hi:i<vs.length
   ·exact hi
   ·rw[eL (by simpa using hi)] at h2;rw[io] at h2;split at h2<;>cases h2
  have ha:vs[i]?=ae v:=by
   unfold start at h2;rw[ip (by simpa using hi),ma] at h2;cases e:vs[i]? with
   |none=>rw[e] at h2;cases h2
   |some a=>rw[e] at h2;cases h2;rfl
  obtain⟨u,hu,rv⟩:=r.get ha;have hp:ps[i]?=ae y:=by
   rw[<-S.pre,nz (by lia)];exact h1
  have ndP:ps.Nodup:=by rw[<-S.pre];exact S.nd.sublist (List.take_sublist _ _)
  refine⟨u,rv,?_⟩;rcases S.par y (me hp) with k|k
  ·exact .inl ⟨k,KJ ndP hp hu k⟩
  ·obtain⟨c,e⟩:=T3 (n:=s.heap.objs.size+1) k;refine .inr ⟨.inl k,c,e,?_⟩;have q:=x.cell y c e;rw[KN ndP hp hu (by show scope.names.lookup y≠_;rw[k];decide)] at q;exact q
 ·exact e0.hok.fresh (lz (x.above y c (kL h)))
 ·unfold start;show _=N.length;rw[de,bp,x5];lia
theorem aG5{CX:CXT}{P:bu}{w:bo}{K:bz}{mg:Str->ay ak}{base:aS}{k:ah}{f:al}{name qual:Str}{params:Arguments}{body:aa bE}{scope:dS}{dV kV doc pm cdv ct oc:ak}{an od:ay al}
 {osl:aE (ay ak)}{N ps:aa Str}{sp:Sp}(lk:K.lookup f=ae ⟨oc,od,.func (jI name qual params body scope dV kV doc pm an cdv ct),osl⟩)(hcd:nB K cdv qual=af)(S:cA N ps scope)
 (len:∀vs H Q E,sp vs H Q E->vs.length=ps.length)
 (hbody:∀(A:bP) (outer:aa c5) (s:ao) (H:Hp) (vs:aa V) (Q:VK) (E:XK),uR k (A.deeper (dj qual scope s.heap.objs.size f cdv))->sp vs H Q E->
   ∃t,PSs (v4 CX P w K mg base N qual scope f cdv A outer s H E) body t/\t {nx:=λ_ H'=>Q .non H',rt:=Q} (start N vs) H) :
  TX P w K mg base CX (k+1) f (jI name qual params body scope dV kV doc pm an cdv ct) ps sp:=by
 refine⟨len,λA outer s H args us vs Q E hr e0 hb r hsp=>?_⟩;have hl:=len _ _ _ _ hsp;have KX:K.In s.heap:=e0.mod.kin.keeps λb o e=>(e0.bs b o e).1
 have lim:s.heap.NoLimit:=e0.mod.nolimit.keeps λb o e=>(e0.bs b o e).1
 have hkind:∀y∈ps.zip us,scope.names.lookup y.1=ae .local\/(scope.names.lookup y.1=ae .cell/\((ut (s.heap.objs.size+1) scope.names []).lookup y.1).isSome=af):=λ⟨n,v⟩ hy=>by
  rcases S.par n (ur hy).1 with q|q
  ·exact .inl q
  ·exact .inr ⟨q,x3 _ _ _ (.inl q)⟩
 refine codeAny_call_function hr.depth (KX _ _ lk) rfl S.co S.gen rfl (PySem.W.codeRec_of KX hcd) (hb _ _ _ _ ?_);refine wpAny_newFunctionEnv_cells S.kind hkind λenv he s1 x=>?_
 subst he;refine⟨lim.keeps x.toInCall.keep,codeAny_func ?_⟩;obtain⟨t,ht,hq⟩:=hbody A outer s H vs Q E (hr.deeper _) hsp;have I:Inv (v4 CX P w K mg base N qual scope f cdv A outer s H E) [] (start N vs) H s1:=ZJ S hr.hd e0 hl r x;refine d5 (ht [] s1 (start N vs) H _ I hq) (λfl s' hs=>?_) λe s' hs=>hs
 have fin:∀{σ':St}{H':Hp}{v:V}{u:ak},Inv (v4 CX P w K mg base N qual scope f cdv A outer s H E) [] σ' H' s'->RelV v u->Q v H'->CE outer P w H s Q u s':=
  λ{σ' H' v u} J rv q=>⟨v,H',J.os,J.bare,J.base,J.hok,rv,q⟩
 cases fl with
 |ret u=>
  obtain⟨v,σ',H',J,rv,q⟩:=hs;exact fin J rv q
 |next=>
  obtain⟨σ',H',J,q⟩:=hs;exact fin (v:=V.non) (u:=fF) J rfl q
 |brk=>
  obtain⟨_,_,_,q⟩:=hs;exact dE q
 |cont=>
  obtain⟨_,_,_,q⟩:=hs;exact dE q
section
variable {X:Cx} {x:Str} {p pos:cb} {e:Expr} {es:aa Expr} {t:TA} {id T:dr} {r:aa V->Hp->VK->Prop}
noncomputable def tCB(r:aa V->Hp->VK->Prop)(t:TA):TE:=λσ H Q=>t σ H λvs H1=>r vs H1 Q
theorem T4(hc:jG X (.builtin id) r)(hg:Gl X x)(hm:X.mg x=aj)(hv:eI x=ae (.builtin id))(ha:PA X (e::es) t)(hn:x ≠ "__name__":=by decide)(hdb:nDb x:=by decide)
 (he:br (e::es) X.env=(ag,eval e X.env)::br es X.env:=by rfl)(hpl:(dA pos (br es X.env)).any (·.1)=ag:=by rfl):PE X (.Call (.Name x p) (e::es) [] pos) (tCB r t):=by
 intro Ψ s σ H Q I h;refine ny (TJ I hg hm hv ?_ hn hdb);exact Ba (thn (ha pos Ψ s σ H _ I h) λus s1 ⟨vs,H1,I1,r1,q1⟩=>hc Ψ s1 σ H1 vs us Q I1 r1 q1) he hpl
theorem ZK(hc:jG X (.type T) r)(hg:Gl X x)(hm:X.mg x=aj)(hv:eI x=ae (.type T))(ha:PA X (e::es) t)(hn:x ≠ "__name__":=by decide)(hdb:nDb x:=by decide)
 (he:br (e::es) X.env=(ag,eval e X.env)::br es X.env:=by rfl)(hpl:(dA pos (br es X.env)).any (·.1)=ag:=by rfl):PE X (.Call (.Name x p) (e::es) [] pos) (tCB r t):=by
 intro Ψ s σ H Q I h;refine ny (TJ I hg hm hv ?_ hn hdb);exact xI (thn (ha pos Ψ s σ H _ I h) λus s1 ⟨vs,H1,I1,r1,q1⟩=>hc Ψ s1 σ H1 vs us Q I1 r1 q1) he hpl
end
end L2
namespace HT
open PySem PyProof.Rows
section
variable {prog:bu} {w:bo} {A:bP} {E:ak->ao->Prop} {s:ao}
noncomputable def sIx(n d:ah):ay ai->ah
 |none=>d
 |some v=>if v<0 then (v+(n:ai)).toNat else min v.toNat n
theorem aJc(n d:ah)(hd:d<=n)(o:ay ai):sIx n d o<=n:=by
 cases o with
 |none=>exact hd
 |some v=>
  show(if v<0 then (v+(n:ai)).toNat else min v.toNat n)<=n;by_cases hv:v<0
  ·rw[av hv];lia
  ·rw[az hv];exact Nat.min_le_right _ _
theorem ZL(v:ai)(n d:ah):(if v<0 then max (v+(n:ai)) 0 else min v (n:ai))=((sIx n d (ae v):ah):ai):=by
 show(if v<0 then max (v+(n:ai)) 0 else min v (n:ai))=(((if v<0 then (v+(n:ai)).toNat else min v.toNat n):ah):ai);by_cases hv:v<0
 ·simp only[av hv];lia
 ·simp only[az hv];lia
theorem W0(lo hi:ay ai)(n:ah):uv lo hi 1 (n:ai)=(((sIx n 0 lo:ah):ai),((sIx n n hi:ah):ai)):=by
 have h1:¬((1:ai)<0):=by lia
 unfold uv;simp only[h1,cx];refine Prod.ext ?_ ?_
 ·cases lo with
  |none=>rfl
  |some v=>exact ZL v n 0
 ·cases hi with
  |none=>rfl
  |some v=>exact ZL v n n
theorem W2(i j:ah):nE (i:ai) (j:ai) 1=j-i:=by
 unfold nE;have h1:(1:ai) > 0:=by lia
 simp only[h1,cw,Int.ediv_one];split<;>lia
theorem CP{v:ak}{o:ay ai}{Q:ay ai->ao->Prop}(p:iz v o)(h:Q o s):ϑ (ax prog w) A (Bb v) Q E s:=by
 cases p with
 |none=>exact ya h
 |int i t=>exact slicePart_int h
theorem wB{sl:al}{vl vu:ak}{lo hi:ay ai}{n:ah}{Q:ai×ai×ah->ao->Prop}(hs:s.heap.IsSliceOf sl vl vu .none)(pl:iz vl lo)(pu:iz vu hi)
 (h:Q (((sIx n 0 lo:ah):ai),1,sIx n n hi-sIx n 0 lo) s):ϑ (ax prog w) A (yb (.ref sl) (pure (n:ai))) Q E s:=by
 obtain⟨os,hos,hcs,hds⟩:=id hs;unfold yb Bc;refine aw (aw (jS hos hds (x:=vl) rfl (aw (jS hos hds (x:=vu) rfl (aw (jS hos hds (x:=.none) rfl (bh ?_)))))));refine aw (ya ?_);show ϑ _ _ (if ((1:ai)==0)=af then _ else _) _ _ s;rw[az (by decide)];refine aw (CP pl (aw (CP pu (aw (bh ?_)))));show ϑ _ _ (match uv lo hi 1 (n:ai) with|(lo,hi)=>pure (lo,(1:ai),nE lo hi 1)) _ _ s;rw[W0 lo hi n];show ϑ _ _ (pure (((sIx n 0 lo:ah):ai),(1:ai),nE ((sIx n 0 lo:ah):ai) ((sIx n n hi:ah):ai) 1)) _ _ s;rw[W2];exact bh h
theorem aCz(xs:aE ak)(i k:ah):((eu k).filterMap λ(m:ah)=>xs[((i:ai)+(m:ai)*1).toNat]?).toArray=((xs.toList.drop i).take k).toArray:=by
 have e:(λ(m:ah)=>xs[((i:ai)+(m:ai)*1).toNat]?)=λm=>xs[i+m]?:=by
  funext m
  have:((i:ai)+(m:ai)*1).toNat=i+m:=by lia
  rw[this]
 rw[e];have:=pick_run xs i k;rw[List.filterMap_map] at this;have e2:((λx=>xs[x]?) ∘ λx=>i+x)=λm=>xs[i+m]?:=rfl
 rw[e2] at this;rw[this]
theorem uX{t sl:al}{items:aE ak}{vl vu:ak}{lo hi:ay ai}{Q:ak->ao->Prop}(ht:IsTup s.heap t items)(hs:s.heap.IsSliceOf sl vl vu .none)(pl:iz vl lo)(pu:iz vu hi)
 (hw:¬(sIx items.size 0 lo=0/\sIx items.size items.size hi=items.size))
 (h:Q (.ref s.heap.objs.size) {s with heap:=s.heap.push {cls:=.type "tuple",data:=.seq ((items.toList.drop (sIx items.size 0 lo)).take (sIx items.size items.size hi-sIx items.size 0 lo)).toArray}})
 (hsz:items.size<=bq):ϑ (ax prog w) A (ka (.ref t) (.ref sl)) Q E s:=by
 have htake:sizeOk (.seq ((items.toList.drop (sIx items.size 0 lo)).take (sIx items.size items.size hi-sIx items.size 0 lo)).toArray):=by
  show((items.toList.drop (sIx items.size 0 lo)).take (sIx items.size items.size hi-sIx items.size 0 lo)).toArray.size<=bq;rw[cv,gS,kM,gj];lia
 have hj:sIx items.size items.size hi<=items.size:=aJc _ _ (bi _) hi;obtain⟨os,hos,hcs,hds⟩:=id hs;have hTs:s.TypeIs (.ref sl) "slice":=⟨os,hos,hcs⟩
 unfold ka
 try with_reducible refine gV ?_
 first|refine aw (bh ?_)|skip
 refine aw (wpAny_sequenceKey ht.typeIs (by decide) ?_);refine aw (uw (name:=uz "__getitem__") ht.typeIs uS
  (mf uS ht.typeIs entry_tuple_getitem ?_ (args_tuple_getitem _ _)))
 show ϑ _ _ (Bd (.ref t) >>= _) _ _ s;refine aw (tupleItemsOf_ ht ?_);refine aw (wpAny_typeOf hTs ?_);rw[av (by decide)];refine aw (wB hs pl pu ?_);have hno:¬((((sIx items.size 0 lo:ah):ai)==0&&(1:ai)==1&&(sIx items.size items.size hi-sIx items.size 0 lo)==items.size)=af):=by
  intro q;rw[bj,bj] at q;have q1:((sIx items.size 0 lo:ah):ai)=0:=eq_of_beq q.1.1;have q2:sIx items.size items.size hi-sIx items.size 0 lo=items.size:=eq_of_beq q.2;exact hw ⟨by lia,by lia⟩
 show ϑ _ _ (if (((sIx items.size 0 lo:ah):ai)==0&&(1:ai)==1&&(sIx items.size items.size hi-sIx items.size 0 lo)==items.size)=af then _ else _) _ _ s;rw[az hno,aCz]
 first
  |exact aw (m:=nI _) (eW (bh ⟨_,rfl,bh h⟩) htake)
  |exact aw (m:=nI _) (eW (aw (bh (bh ⟨_,rfl,bh h⟩))) htake)
  |exact aw (aw (m:=nI _) (eW (bh (bh ⟨_,rfl,bh h⟩)) htake))
  |exact aw (aw (m:=nI _) (eW (bh ⟨_,rfl,bh h⟩) htake))
end
end HT
namespace L2
open PySem PySem.Spec PyProof.Rows
abbrev TO:=St->Hp->(ay ai->Hp->Prop)->Prop
def PO(X:Cx)(e:ay Expr)(t:TO):Prop:=
 ∀(Ψ:aa (al×bf))(s:ao)(σ:St)(H:Hp)(Q:ay ai->Hp->Prop),Inv X Ψ σ H s->t σ H Q->
  ϑ (ax X.prog X.w) X.A (evalPart e X.env) (λu s'=>∃o H',Inv X Ψ σ H' s'/\iz u o/\Q o H') X.xe s
noncomputable def aG6:TO:=λ_ H Q=>Q aj H
noncomputable def aM6(t:TE):TO:=λσ H Q=>t σ H λx H1=>∃i,x=.int i/\Q (ae i) H1
section
variable {X:Cx} {e:Expr} {te:TE} {lo hi:ay Expr} {tl th:TO} {pos p2:cb}
theorem aG7:PO X aj aG6:=by
 intro Ψ s σ H Q I h;rw[yc];exact bh ⟨aj,H,I,.none,h⟩
theorem aG8(h:PE X e te):PO X (ae e) (aM6 te):=by
 intro Ψ s σ H Q I hw;rw[evalPart_some];refine thn (h Ψ s σ H _ I hw) λu s1 ⟨x,H1,I1,r1,q1⟩=>?_
 obtain⟨i,rfl,q⟩:=q1;obtain⟨t,rfl⟩:=r1;exact⟨ae i,H1,I1,.int i t,q⟩
def SlR(X:Cx)(r:V->ay ai->ay ai->Hp->VK->Prop):Prop:=
 ∀(Ψ:aa (al×bf))(s:ao)(σ:St)(H:Hp)(x:V)(v vl vu:ak)(lo hi:ay ai)(sl:al)(Q:VK),Inv X Ψ σ H s->RelV x v->s.heap.IsSliceOf sl vl vu .none->iz vl lo->iz vu hi->r x lo hi H Q->
  ∃T id,typeLookup (.type T) "__getitem__"=pure (ae (.builtin id))/\s.TypeIs v T/\ϑ (ax X.prog X.w) X.A (ka v (.ref sl)) (EP X Ψ σ Q) X.xe s
noncomputable def tSl(r:V->ay ai->ay ai->Hp->VK->Prop)(te:TE)(tl th:TO):TE:=λσ H Q=>te σ H λx H1=>tl σ H1 λl H2=>th σ H2 λu H3=>r x l u H3 Q
theorem T5{r:V->ay ai->ay ai->Hp->VK->Prop}(hr:SlR X r)(he:PE X e te)(hl:PO X lo tl)(hu:PO X hi th):PE X (.Subscript e (.Slice lo hi aj p2) pos) (tSl r te tl th):=by
 intro Ψ s σ H Q I h;refine Subscript_ (thn (he Ψ s σ H _ I h) λv s1 ⟨x,H1,I1,r1,q1⟩=>?_);refine wpAny_Slice (thn (hl Ψ s1 σ H1 _ I1 q1) λvl s2 ⟨l,H2,I2,pl,q2⟩=>thn (hu Ψ s2 σ H2 _ I2 q2) λvu s3 ⟨u,H3,I3,pu,q3⟩=>?_);rw[yc];refine bh ?_;have I4:Inv X Ψ σ H3 {s3 with heap:=s3.heap.push {cls:=.type "slice",data:=.fields #[vl,vu,.none]}}:=I3.kept (t':=s3.toks) λb ob q=>cq _ q
 obtain⟨T,id,hT,ht,hg⟩:=hr Ψ {s3 with heap:=s3.heap.push {cls:=.type "slice",data:=.fields #[vl,vu,.none]}} σ H3 x v vl vu l u s3.heap.objs.size Q I4 r1 (Be ..) pl pu q3;show ϑ (ax X.prog X.w) X.A (nK e (.Slice lo hi aj p2) v (.ref s3.heap.objs.size)) (EP X Ψ σ Q) X.xe {s3 with heap:=s3.heap.push {cls:=.type "slice",data:=.fields #[vl,vu,.none]}};exact tail_any (ops:=[.ref s3.heap.objs.size,v]) ht hT hg (by with_unfolding_all rfl)
noncomputable def ZM(xs:aa V)(lo hi:ay ai):aa V:=(xs.drop (HT.sIx xs.length 0 lo)).take (HT.sIx xs.length xs.length hi-HT.sIx xs.length 0 lo)
theorem xN(xs:aa V)(lo hi:ay ai):(ZM xs lo hi).length<=xs.length:=by
 unfold ZM;rw[gS,kM];lia
def aNy(K:bz):V->ay ai->ay ai->Hp->VK->Prop:=λx lo hi H Q=>∃a xs,x=.ref a/\SqT K H a xs/\
 ¬(HT.sIx xs.length 0 lo=0/\HT.sIx xs.length xs.length hi=xs.length)/\∀p,H p=aj->Q (.ref p) (upd H p (.tup (ZM xs lo hi)))
theorem aJd:SlR X (aNy X.K):=by
 intro Ψ s σ H x v vl vu lo hi sl Q I rx hs pl pu h;obtain⟨a,xs,rfl,hx,hw,q⟩:=h;cases rx;obtain⟨its,r,ht,hz⟩:=I.tuple hx;have hlen:its.toArray.size=xs.length:=by rw[cv];exact r.length.symm
 refine⟨"tuple",_,uS.lookup,ht.typeIs,?_⟩;refine HT.uX ht hs pl pu (by rw[hlen];exact hw) ?_ (by rw[hlen];exact hz);rw[hlen];refine⟨.ref s.heap.objs.size,_,I.laid (t':=s.toks) (o:=.tup (ZM xs lo hi)) (λb ob q=>cq _ q) (bi _) ?_,rfl,q _ (I.hok.fresh (bi _))⟩;exact⟨du (xN xs lo hi) hz,_,(r.drop (HT.sIx xs.length 0 lo)).take (HT.sIx xs.length xs.length hi-HT.sIx xs.length 0 lo),mU.new _ _⟩
end
noncomputable def ixN(n:ah)(i:ai):ay ah:=if 0<=i then (if i<n then ae i.toNat else aj) else if -(n:ai)<=i then ae (i+n).toNat else aj
def atI{α:Type}(xs:aa α)(i:ai):ay α:=(ixN xs.length i).bind λj=>xs[j]?
theorem aG9{n:ah}{i:ai}{j:ah}(h:ixN n i=ae j):seqIndex? i n=ae j/\j<n/\-(n:ai)<=i/\i<n:=by
 unfold ixN at h;by_cases h0:0<=i
 ·rw[av h0] at h;by_cases h1:i<n
  ·rw[av h1] at h;have e:i.toNat=j:=cz h;exact⟨by rw[yd h0 h1,e],by lia,by lia,h1⟩
  ·rw[az h1] at h;cases h
 ·rw[az h0] at h;by_cases h1:-(n:ai)<=i
  ·rw[av h1] at h;have e:(i+n).toNat=j:=cz h;exact⟨by rw[seqIndex_neg (by lia) h1,e],by lia,h1,by lia⟩
  ·rw[az h1] at h;cases h
theorem QM{α:Type}{xs:aa α}{i:ai}{v:α}(h:atI xs i=ae v):∃j,seqIndex? i xs.length=ae j/\xs[j]?=ae v/\j<xs.length/\-(xs.length:ai)<=i/\i<xs.length:=by
 unfold atI at h;cases e:ixN xs.length i with
 |none=>rw[e] at h;cases h
 |some j=>
  rw[e] at h;obtain⟨h1,h2,h3,h4⟩:=aG9 e;exact⟨j,h1,h,h2,h3,h4⟩
def QR(b:Expr):Prop:=∀o i,nN b ag o i=va [o,i] (ka o i)
def IxR(X:Cx)(r:R2):Prop:=
 ∀(value slice:Expr)(Ψ:aa (al×bf))(s:ao)(σ:St)(H:Hp)(x y:V)(v u:ak)(Q:VK),Inv X Ψ σ H s->RelV x v->RelV y u->r x y H Q->
  nN slice ag v u=va [v,u] (ka v u)->ϑ (ax X.prog X.w) X.A (nK value slice v u) (EP X Ψ σ Q) X.xe s
def MtR(X:Cx)(id:dr)(r:V->aa V->Hp->VK->Prop):Prop:=
 ∀(Ψ:aa (al×bf))(s:ao)(σ:St)(H:Hp)(x:V)(xs:aa V)(v:ak)(us:aa ak)(Q:VK),Inv X Ψ σ H s->RelV x v->Vals xs us->r x xs H Q->
  ϑ (ax X.prog X.w) X.A (call (.builtin id) (v::us)) (EP X Ψ σ Q) X.xe s
section
variable {X:Cx} {a b:Expr} {ta tb:TE} {pos:cb}
theorem aM7{r:R2}(hr:IxR X r)(ha:PE X a ta)(hb:PE X b tb)(hs:QR b):PE X (.Subscript a b pos) (tOp r ta tb):=by
 intro Ψ s σ H Q I h;exact Subscript_ (aLz ha hb I h λv u s2 x y H2 I2 rx ry q=>hr a b Ψ s2 σ H2 x y v u Q I2 rx ry q (hs _ _))
def aNz(K:bz):R2:=λx y H Q=>∃p xs i v,x=.ref p/\y=.int i/\SqL K H p xs/\atI xs i=ae v/\Q v H
def aO0(K:bz):R2:=λx y H Q=>∃p xs i v,x=.ref p/\y=.int i/\SqT K H p xs/\atI xs i=ae v/\Q v H
def aO1:R2:=λx y H Q=>∃z i c,x=.str z/\y=.int i/\z.length<=bq/\atI z.cps.toList i=ae c/\Q (.str ⟨#[c]⟩) H
theorem QS:IxR X (aNz X.K):=by
 intro value slice Ψ s σ H x y v u Q I rx ry h hs;obtain⟨p,xs,i,z,rfl,rfl,hq,he,q⟩:=h;cases rx;obtain⟨t,rfl⟩:=ry;obtain⟨its,r,pl,hz⟩:=I.list hq;obtain⟨j,h1,h2,h3,h4,h5⟩:=QM he;obtain⟨w,ew,rw'⟩:=r.get h2;have hl:=r.length;have hn:=CN;have fin:EP X Ψ σ Q w s:=⟨z,H,I,rw',q⟩
 by_cases h0:0<=i
 ·have hj:i.toNat=j:=by
   rw[yd h0 h5] at h1;exact cz h1
  exact item_listR pl.isList h0 (by lia) (by rw[hj];simpa using ew) fin hs
 ·have hj:(i+(its.toArray.size:ai)).toNat=j:=by
   rw[seqIndex_neg (by lia) h4] at h1;rw[cv,<-hl];exact cz h1
  exact ye (x:=w) pl.isList.typeIs yf.lookup
   (wpAny_getItem_list_neg (Q:=λr s'=>r=w/\EP X Ψ σ Q r s') pl.isList (by lia) (by rw[cv]<;>lia) (by lia) (by rw[hj];simpa using ew) ⟨rfl,fin⟩) hs
theorem aJe:IxR X (aO0 X.K):=by
 intro value slice Ψ s σ H x y v u Q I rx ry h hs;obtain⟨p,xs,i,z,rfl,rfl,hq,he,q⟩:=h;cases rx;obtain⟨t,rfl⟩:=ry;obtain⟨its,r,pl,hz⟩:=I.tuple hq;obtain⟨j,h1,h2,h3,h4,h5⟩:=QM he;obtain⟨w,ew,rw'⟩:=r.get h2;have hl:=r.length;have hn:=CN;have fin:EP X Ψ σ Q w s:=⟨z,H,I,rw',q⟩
 exact ye (x:=w) pl.typeIs slot_tuple_getitem.lookup
  (getItem_tuple (j:=j) (Q:=λr s'=>r=w/\EP X Ψ σ Q r s') pl (by lia) (by lia) (by rw[cv,<-hl];exact h1) (by simpa using ew) ⟨rfl,fin⟩) hs
theorem aJf:IxR X aO1:=by
 intro value slice Ψ s σ H x y v u Q I rx ry h hs;obtain⟨z,i,c,rfl,rfl,hz,he,q⟩:=h;obtain⟨t,rfl⟩:=rx;obtain⟨t',rfl⟩:=ry;obtain⟨j,h1,h2,h3,h4,h5⟩:=QM he;have hl:z.cps.toList.length=z.length:=by simp[Str.length]
 rw[hl] at h1 h4 h5;have hn:=CN;exact tail_any (vb s z t) slot_str_getitem.lookup (getItem_str (c:=c) (by
  have e1:ϒ (i < -(2 ^ 63:ai))=ag:=dq (by lia);have e2:ϒ (i >= 2 ^ 63)=ag:=dq (by lia);rw[e1,e2,yg]) (by rw[h1];simpa using h2) ⟨.str ⟨#[c]⟩,H,I.tok _,⟨_,rfl⟩,q⟩) hs
theorem Inv.lst{Ψ:aa (al×bf)}{σ:St}{H:Hp}{s:ao}{p:al}{xs:aa V}(I:Inv X Ψ σ H s)(h:H p=ae (.lst xs)) :
  ∃(its:aa ak)(n:ah),Vals xs its/\s.heap.get? p=ae {cls:=.type "list",data:=.seq its.toArray n}/\xs.length<=bq:=by
 obtain⟨z,its,n,r,e⟩:=I.hok p _ h;exact⟨its,n,r,e,z⟩
theorem KQ(lo hi:ay ai)(n:ah):(kb lo hi aj n).1=((HT.sIx n 0 lo:ah):ai)/\(kb lo hi aj n).2.1=((HT.sIx n n hi:ah):ai)/\(kb lo hi aj n).2.2=1:=by
 refine⟨?_,?_,rfl⟩
 ·cases lo with
  |none=>simp[kb,HT.sIx]
  |some i=>
   simp only[kb,HT.sIx,yh,show(1:ai) > 0 by decide,cw];by_cases h:i<0
   ·simp only[h,cw]<;>lia
   ·simp only[h,cx]<;>lia
 ·cases hi with
  |none=>simp[kb,HT.sIx]
  |some i=>
   simp only[kb,HT.sIx,yh,show(1:ai) > 0 by decide,cw];by_cases h:i<0
   ·simp only[h,cw]<;>lia
   ·simp only[h,cx]<;>lia
theorem FW(its:aa ak)(lo hi:ay ai):slicePick its.toArray lo hi aj=((its.drop (HT.sIx its.length 0 lo)).take (HT.sIx its.length its.length hi-HT.sIx its.length 0 lo)).toArray:=by
 obtain⟨h1,h2,h3⟩:=KQ lo hi its.toArray.size;unfold slicePick;rw[h1,h2,h3];simp only[sliceRange_one,pick_run,cv]<;>rfl
def aO2(K:bz):V->ay ai->ay ai->Hp->VK->Prop:=λx lo hi H Q=>∃a xs,x=.ref a/\SqL K H a xs/\∀p,H p=aj->Q (.ref p) (upd H p (.lst (ZM xs lo hi)))
theorem ZP:SlR X (aO2 X.K):=by
 intro Ψ s σ H x v vl vu lo hi sl Q I rx hs pl pu h;obtain⟨a,xs,rfl,hx,q⟩:=h;cases rx;obtain⟨its,r,ht,hz⟩:=I.list hx;have hlen:=r.length;refine⟨"list",_,yf.lookup,ht.isList.typeIs,?_⟩;refine wpAny_getItem_list_slice ht.isList hs pl pu .none (by simp) ?_ (by rw[cv]<;>lia);rw[FW,<-hlen];refine⟨.ref s.heap.objs.size,_,I.laid (t':=s.toks) (o:=.lst (ZM xs lo hi)) (λb ob q=>cq _ q) (bi _) ?_,rfl,q _ (I.hok.fresh (bi _))⟩;exact⟨du (xN xs lo hi) hz,_,0,(r.drop (HT.sIx xs.length 0 lo)).take (HT.sIx xs.length xs.length hi-HT.sIx xs.length 0 lo),dg _ rfl⟩
theorem jO:jG X (.builtin "len") (λxs H Q=>∃p ys,xs=[.ref p]/\(SqL X.K H p ys\/SqT X.K H p ys)/\Q (.int ys.length) H):=by
 intro Ψ s σ H xs us Q I r h;obtain⟨p,ys,rfl,hq,q⟩:=h;obtain⟨u,rfl,rx⟩:=vals1 r;cases rx;have hn:=CN;rcases hq with hq|hq
 ·obtain⟨its,r',pl,hz⟩:=I.list hq;have hlen:=r'.length;exact Calls.call_len_list pl.isList (by simp only[cv]<;>lia) ⟨.int ys.length,H,I.tok _,⟨s.toks+1,by rw[cv,hlen]⟩,q⟩
 ·obtain⟨its,r',pl,hz⟩:=I.tuple hq;have hlen:=r'.length;exact len_tuple pl (by simp only[cv]<;>lia) ⟨.int ys.length,H,I.tok _,⟨s.toks+1,by rw[cv,hlen]⟩,q⟩
theorem KR:jG X (.builtin "len") (λxs H Q=>∃z,xs=[.str z]/\z.length<=bq/\Q (.int z.length) H):=by
 intro Ψ s σ H xs us Q I r h;obtain⟨z,rfl,hz,q⟩:=h;obtain⟨u,rfl,t,rfl⟩:=vals1 r;have hn:=CN;exact len_str (by lia) ⟨.int z.length,H,I.tok _,⟨_,rfl⟩,q⟩
theorem m5:jG X (.type "list") (λxs H Q=>∃p ys,xs=[.ref p]/\(SqL X.K H p ys\/SqT X.K H p ys)/\∀l,H l=aj->Q (.ref l) (upd H l (.lst ys))):=by
 intro Ψ s σ H xs us Q I r h;obtain⟨p,ys,rfl,hq,q⟩:=h;obtain⟨u,rfl,rx⟩:=vals1 r;cases rx;have fin:∀(its:aa ak),Vals ys its->ys.length<=bq->∀(h':aS)(c':ah),(∀b o',s.heap.get? b=ae o'->h'.get? b=ae o')->
   h'.get? s.heap.objs.size=ae {cls:=.type "list",dict:=aj,data:=.seq its.toArray c',slots:=#[]}->EP X Ψ σ Q (.ref s.heap.objs.size) {s with heap:=h'}:=λits r' hz h' c' kp e=>
  ⟨.ref s.heap.objs.size,_,I.laid (t':=s.toks) kp (bi _) (show iC X.prog X.w _ h' _ (.lst ys) from ⟨hz,its,c',r',e⟩),rfl,q _ (I.hok.fresh (bi _))⟩
 rcases hq with hq|hq
 ·obtain⟨its,r',pl,hz⟩:=I.list hq;have hlen:=r'.length;obtain⟨o,ho,hc,n,hd⟩:=pl.isList;exact yj p (.inl rfl) ho hc hd (λh' c' kp e=>fin its r' hz h' c' kp e) (by simp only[cv]<;>lia)
 ·obtain⟨its,r',pl,hz⟩:=I.tuple hq;have hlen:=r'.length;obtain⟨o,ho,hc,n,hd⟩:=pl;exact yj p (.inr rfl) ho hc hd (λh' c' kp e=>fin its r' hz h' c' kp e) (by simp only[cv]<;>lia)
theorem sW:jG X (.type "tuple") (λxs H Q=>∃p ys,xs=[.ref p]/\((SqL X.K H p ys/\∀l,H l=aj->Q (.ref l) (upd H l (.tup ys)))\/(SqT X.K H p ys/\Q (.ref p) H))):=by
 intro Ψ s σ H xs us Q I r h;obtain⟨p,ys,rfl,h⟩:=h;obtain⟨u,rfl,rx⟩:=vals1 r;cases rx;rcases h with ⟨hq,q⟩|⟨hq,q⟩
 ·obtain⟨its,r',pl,hz⟩:=I.list hq;have hlen:=r'.length;refine call_tuple_list pl.isList (λh' kp=>?_) (by simp only[cv]<;>lia);have I1:Inv X Ψ σ H {s with heap:=h'}:=I.kept (t':=s.toks) kp;have I2:Inv X Ψ σ (upd H h'.objs.size (.tup ys)) {s with heap:=h'.push {cls:=.type "tuple",data:=.seq its.toArray}}:=
   I1.laid (t':=s.toks) (λb o e=>cq _ e) (bi _) (show iC X.prog X.w _ _ _ (.tup ys) from ⟨hz,its,r',mU.new _ _⟩)
  exact⟨.ref h'.objs.size,_,I2,rfl,q _ (I1.hok.fresh (bi _))⟩
 ·obtain⟨its,r',pl,hz⟩:=I.tuple hq;exact call_tuple_same pl ⟨.ref p,H,I,rfl,q⟩
def tyV(K:bz)(T:dr)(x:V)(H:Hp):Prop:=match x with
 |.str _=>T="str"
 |.int _=>T="int"
 |.ref p=>(T="list"/\∃xs,SqL K H p xs)\/(T="tuple"/\((∃o,K.lookup p=ae o/\o.cls=.type "tuple"/\o.dict=aj)\/∃xs,H p=ae (.tup xs)))\/
   (T="dict"/\((∃kvs,H p=ae (.dK kvs))\/∃kvs,H p=ae (.dT kvs)))\/(T="set"/\∃S n,H p=ae (.set S n))
 |_=>cm
theorem aEz{Ψ:aa (al×bf)}{σ:St}{H:Hp}{s:ao}{T:dr}{x:V}{v:ak}(I:Inv X Ψ σ H s)(r:RelV x v)(ty:tyV X.K T x H) :
  s.TypeIs v T/\∀a,v=.ref a->∃ob,s.heap.get? a=ae ob/\ob.dict=aj:=by
 cases x with
 |str z=>
  obtain⟨t,rfl⟩:=r;cases (show T="str" from ty);exact⟨vb s z t,λ_ e=>nomatch e⟩
 |int i=>
  obtain⟨t,rfl⟩:=r;cases (show T="int" from ty);exact⟨typeIs_int s i t,λ_ e=>nomatch e⟩
 |ref p=>
  cases r;rcases ty with ⟨rfl,xs,hq⟩|⟨rfl,⟨o,hk,hc,hd⟩|⟨xs,hk⟩⟩|⟨rfl,hk⟩|⟨rfl,S,n,hk⟩
  ·obtain⟨its,_,pl,_⟩:=I.list hq;refine⟨pl.isList.typeIs,λa e=>?_⟩;cases e;obtain⟨o,n,e,c,hd,_⟩:=pl;exact⟨o,e,hd⟩
  ·refine⟨⟨o,I.kIn p o hk,hc⟩,λa e=>?_⟩;cases e;exact⟨o,I.kIn _ o hk,hd⟩
  ·obtain⟨_,its,_,pl⟩:=I.hok p _ hk;refine⟨(mU.tup pl).typeIs,λa e=>?_⟩;cases e;exact mU.bare pl
  ·have z:∃o,s.heap.get? p=ae o/\o.ExactDict:=by
    rcases hk with ⟨kvs,hk⟩|⟨kvs,hk⟩
    ·obtain⟨_,_,_,_,o,_,_,e,ex,_⟩:=I.hok p _ hk;exact⟨o,e,ex⟩
    ·obtain⟨_,_,_,_,o,_,_,e,ex,_⟩:=I.hok p _ hk;exact⟨o,e,ex⟩
   obtain⟨o,e,ex⟩:=z;refine⟨⟨o,e,ex.1⟩,λa e2=>?_⟩;cases e2;exact⟨o,e,ex.2.1⟩
  ·obtain⟨o,_,_,_,e,ex,_⟩:=I.hok p _ hk;refine⟨⟨o,e,ex.1⟩,λa e2=>?_⟩;cases e2;exact⟨o,e,ex.2.1⟩
 |_=>exact dE ty
noncomputable def aO3(K:bz)(T:dr)(r:V->aa V->Hp->VK->Prop)(to:TE):TE:=λσ H Q=>to σ H λx H1=>tyV K T x H1/\r x [] H1 Q
noncomputable def tBM(K:bz)(T:dr)(r:V->aa V->Hp->VK->Prop)(to:TE)(t:TA):TE:=λσ H Q=>to σ H λx H1=>tyV K T x H1/\t σ H1 λxs H2=>r x xs H2 Q
variable {o e:Expr} {es:aa Expr} {to:TE} {t:TA} {name:Str} {apos cpos:cb} {T id:dr} {r:V->aa V->Hp->VK->Prop}
theorem aJg(pa:PlainAttrs T)(slot:Slot T name id)(hty:ke (.builtin id)=pure (.type "method_descriptor"))(hm:MtR X id r)(ho:PE X o to)
 (hbase:i8 o name X.env (eval o X.env)=eval o X.env:=by rfl)(hline:(apos.endLine==cpos.line)=af:=by rfl):PE X (.Call (.Attribute o name apos) [] [] cpos) (aO3 X.K T r to):=by
 intro Ψ s σ H Q I h;refine wpAny_Call_method0_late hbase hline (thn (ho Ψ s σ H _ I h) λv s1 ⟨x,H1,I1,r1,ty,q1⟩=>?_);obtain⟨h1,h2⟩:=aEz I1 r1 ty;exact⟨T,id,pa,slot,hty,h1,h2,yk rfl (PySem.evalArgs_none (hm Ψ s1 σ H1 x [] v [] Q I1 r1 .nil q1))⟩
theorem aD0(pa:PlainAttrs T)(slot:Slot T name id)(hty:ke (.builtin id)=pure (.type "method_descriptor"))(hm:MtR X id r)(ho:PE X o to)(ha:PA X (e::es) t)
 (hbase:i8 o name X.env (eval o X.env)=eval o X.env:=by rfl)
 (hfew:((dA cpos (br (e::es) X.env)).all (λx=>!x.1)&&(mh cpos (mi [] X.env)).all (λx=>x.1.isSome)
  &&ϒ ((e::es).length+([]:aa iq).length+(if ([]:aa iq).isEmpty then 0 else 1)<30))=af:=by rfl)
 (hline:(apos.endLine==cpos.line)=af:=by rfl)(hs:br (e::es) X.env=(ag,eval e X.env)::br es X.env:=by rfl)(hplain:(dA cpos (br es X.env)).any (·.1)=ag:=by rfl) :
  PE X (.Call (.Attribute o name apos) (e::es) [] cpos) (tBM X.K T r to t):=by
 intro Ψ s σ H Q I h;refine wpAny_Call_method_late hbase hfew hline rfl (thn (ho Ψ s σ H _ I h) λv s1 ⟨x,H1,I1,r1,ty,q1⟩=>?_);obtain⟨h1,h2⟩:=aEz I1 r1 ty;refine⟨T,id,pa,slot,hty,h1,h2,?_⟩;have hA:=ha cpos Ψ s1 σ H1 _ I1 q1;rw[hs] at hA ⊢;refine yk (by show(ag||(dA cpos (br es X.env)).any (·.1))=ag;rw[hplain]<;>rfl) (yl ?_);exact thn hA λus s2 ⟨vs,H2,I2,r2,q2⟩=>hm Ψ s2 σ H2 x vs v us Q I2 r1 r2 q2
end
def MtM(X:Cx)(id:dr)(r:V->aa V->Hp->VK->Prop):Prop:=
 ∀(Ψ:aa (al×bf))(s:ao)(σ:St)(H:Hp)(x:V)(xs:aa V)(v:ak)(us:aa ak)(Q:VK),Inv X Ψ σ H s->RelV x v->Vals xs us->r x xs H Q->
  ϑ (ax X.prog X.w) X.A (call (.builtin id) (v::us)) (EP X Ψ σ Q) X.xe s
theorem Vals.one:∀{x:V}{us:aa ak},Vals [x] us->∃u,us=[u]/\RelV x u
 |_,_,.cons r .nil=>⟨_,rfl,r⟩
section
variable {X:Cx} {Ψ:aa (al×bf)} {σ:St} {H:Hp} {s:ao} {l:al} {xs ys:aa V}
theorem Inv.aM8{its its':aa ak}{n:ah}{f:aE ak->aE ak}{t':ah}(I:Inv X Ψ σ H s)(hH:H l=ae (.lst xs))
 (e:s.heap.get? l=ae {cls:=.type "list",data:=.seq its.toArray n})(hf:f its.toArray=its'.toArray)(hv:Vals ys its')(hz:ys.length<=bq) :
  Inv X Ψ σ (upd H l (.lst ys)) {s with heap:=s.heap.update l (e8 f),toks:=t'}:=by
 have q:=Bf e f;rw[hf] at q;refine I.write (x:=l) (e:=l) (by rw[hH];exact trivial) (.inl rfl) (λb' u hb hu=>(kh s.heap (e8 f) (Ne.symm hb)).trans hu) ⟨_,q⟩ ?_;exact⟨hz,its',_,hv,q⟩
theorem Inv.aO4{its:aa ak}{t':ah}(I:Inv X Ψ σ H s)(hv:Vals ys its)(hz:ys.length<=bq) :
  Inv X Ψ σ (upd H s.heap.objs.size (.lst ys)) {s with heap:=s.heap.push {cls:=.type "list",data:=.seq its.toArray},toks:=t'}:=
 I.laid (λ_ _ q=>cq _ q) (bi _) ⟨hz,its,0,hv,dg _ rfl⟩
theorem Inv.fresh(I:Inv X Ψ σ H s):H s.heap.objs.size=aj:=I.hok.fresh (bi _)
theorem Inv.aLg(I:Inv X Ψ σ H s)(hH:H l=ae (.lst xs)):xs.length<=bq/\∃(its:aa ak)(n:ah),Vals xs its/\xs.length=its.length/\s.heap.get? l=ae {cls:=.type "list",data:=.seq its.toArray n}:=by
 obtain⟨z,its,n,r,e⟩:=I.hok l _ hH;exact⟨z,its,n,r,r.length,e⟩
theorem aD1{n:ah}(h:n<=bq):vc n=ag:=by
 unfold vc;exact dq (by lia)
end
section
variable {X:Cx}
def aGa:V->aa V->Hp->VK->Prop:=λx vs H Q=>∃l xs y,x=.ref l/\vs=[y]/\H l=ae (.lst xs)/\xs.length<bq/\Q .non (upd H l (.lst (xs++[y])))
theorem KY:MtM X "list.append" aGa:=by
 intro Ψ s σ H x vs v us Q I rx rv h;obtain⟨l,xs,y,rfl,rfl,hH,hz,q⟩:=h;cases rx;obtain⟨u,rfl,ru⟩:=rv.one;obtain⟨z,its,n,r,hl,e⟩:=I.aLg hH;refine vd ym ⟨_,e,rfl⟩ F.entry_list_append (F.args_list_append_2 _ _) (PySem.list_append l its.toArray n u (by rw[cv];lia)) ⟨e,?_⟩;refine⟨.non,_,I.aM8 (its':=its++[u]) hH e (by simp) (r.append (.cons ru .nil)) ?_,rfl,q⟩;rw[de,yn];lia
def aGb:V->aa V->Hp->VK->Prop:=λx vs H Q=>∃l b xs zs,x=.ref l/\vs=[.ref b]/\H l=ae (.lst xs)/\H b=ae (.lst zs)/\xs.length+zs.length<=bq/\Q .non (upd H l (.lst (xs++zs)))
theorem ZQ:MtM X "list.extend" aGb:=by
 intro Ψ s σ H x vs v us Q I rx rv h;obtain⟨l,b,xs,zs,rfl,rfl,hH,hB,hz,q⟩:=h;cases rx;obtain⟨u,rfl,ru⟩:=rv.one;cases ru;obtain⟨z,its,n,r,hl,e⟩:=I.aLg hH;obtain⟨z2,its2,n2,r2,hl2,e2⟩:=I.aLg hB;have hsz:its.toArray.size+its2.toArray.size<=bq:=by rw[cv,cv];lia
 have hlong:¬(!its.toArray.isEmpty&&vc (its.toArray.size+its2.toArray.size))=af:=by
  rw[aD1 hsz,yo];exact ve
 refine vd yp ⟨_,e,rfl⟩ F.entry_list_extend (F.args_list_extend_2 _ _)
  (Bg l its.toArray n b its2.toArray n2 hlong (by rw[cv];lia) (by lia)) ⟨e,e2,?_⟩
 refine⟨.non,_,I.aM8 (its':=its++its2) hH e (by simp) (r.append r2) ?_,rfl,q⟩;rw[de];lia
end
section
variable {κ:Type} [gw κ]
noncomputable def xO(kvs:aa (κ×V))(k:κ):ay V:=(kvs.find? λkv=>ϒ (kv.1=k)).map (·.2)
noncomputable def putK(kvs:aa (κ×V))(k:κ)(v:V):aa (κ×V):=
 if (kvs.any λkv=>ϒ (kv.1=k))=af then kvs.map (λkv=>if kv.1=k then (kv.1,v) else kv) else kvs++[(k,v)]
noncomputable def zY(kvs:aa (κ×V))(k:κ):aa (κ×V):=kvs.filter λkv=>ϒ (kv.1≠k)
theorem sX{p:κ×V}{r:aa (κ×V)}{k:κ}(e:p.1=k):xO (p::r) k=ae p.2:=by simp[xO,kN,e]
theorem sY{p:κ×V}{r:aa (κ×V)}{k:κ}(e:¬p.1=k):xO (p::r) k=xO r k:=by simp[xO,kN,e]
theorem sZ(k:κ):∀kvs:aa (κ×V),(kvs.any λkv=>ϒ (kv.1=k))=(xO kvs k).isSome
 |[]=>rfl
 |p::r=>by
  rw[ki];by_cases e:p.1=k
  ·simp only[sX e,cK e,yq,vf]
  ·rw[sY e,dq e,vg];exact sZ k r
theorem xP(kvs:aa (κ×V))(k:κ)(v:V):(putK kvs k v).length<=kvs.length+1:=by
 unfold putK;split
 ·rw[bp];lia
 ·rw[de,cr,fT];lia
theorem aD2{kvs:aa (κ×V)}{k:κ}(v:V)(h:xO kvs k=aj):putK kvs k v=kvs++[(k,v)]:=by
 unfold putK;rw[sZ,h];exact az (by decide)
theorem Y6.m9{o:ay V}{u:ay ak}(r:Y6 o u):o.isSome=u.isSome:=by
 cases o with
 |none=>cases u with
  |none=>rfl
  |some _=>exact(show cm from r).elim
 |some _=>cases u with
  |none=>exact(show cm from r).elim
  |some _=>rfl
theorem KV.val{kvs:aa (κ×V)}{vs:aa (κ×ak)}(r:KV kvs vs)(k:κ):Y6 (xO kvs k) (i9 vs k):=by
 unfold KV at r;induction r with
 |nil=>exact True.intro
 |@cons p q ps qs h t ih=>
  obtain⟨h1,h2⟩:=h;by_cases e:p.1=k
  ·have e':q.1=k:=h1.symm.trans e;have b:i9 (q::qs) k=ae q.2:=by simp[i9,kN,e']
   rw[sX e,b];exact h2
  ·have e':¬q.1=k:=λz=>e (h1.trans z)
   have b:i9 (q::qs) k=i9 qs k:=by simp[i9,kN,e']
   rw[sY e,b];exact ih
theorem KV.any{kvs:aa (κ×V)}{vs:aa (κ×ak)}(r:KV kvs vs)(k:κ):(kvs.any λkv=>ϒ (kv.1=k))=vs.any λkv=>ϒ (kv.1=k):=by
 unfold KV at r;induction r with
 |nil=>rfl
 |cons h t ih=>rw[ki,ki,ih,h.1]
theorem KV.repl{kvs:aa (κ×V)}{vs:aa (κ×ak)}(r:KV kvs vs)(k:κ){y:V}{u:ak}(ry:RelV y u) :
  KV (kvs.map λkv=>if kv.1=k then (kv.1,y) else kv) (vs.map λkv=>if kv.1=k then (kv.1,u) else kv):=by
 unfold KV at r ⊢;induction r with
 |nil=>exact .nil
 |@cons p q ps qs h t ih=>
  rw[bw,bw];refine .cons ?_ ih;obtain⟨h1,h2⟩:=h;by_cases e:p.1=k
  ·rw[av e,av (h1.symm.trans e)];exact⟨h1,ry⟩
  ·rw[az e,az (λz=>e (h1.trans z))];exact⟨h1,h2⟩
theorem KV.put{kvs:aa (κ×V)}{vs:aa (κ×ak)}(r:KV kvs vs)(k:κ){y:V}{u:ak}(ry:RelV y u):KV (putK kvs k y) (stored vs k u):=by
 unfold putK stored;rw[r.any k];by_cases e:(vs.any λkv=>ϒ (kv.1=k))=af
 ·rw[av e,av e];exact r.repl k ry
 ·rw[az e,az e];exact yr r ⟨rfl,ry⟩
theorem KV.drop{kvs:aa (κ×V)}{vs:aa (κ×ak)}(r:KV kvs vs)(k:κ):KV (zY kvs k) (nS vs k):=by
 unfold KV at r ⊢;unfold zY nS;induction r with
 |nil=>exact .nil
 |@cons p q ps qs h t ih=>
  obtain⟨h1,h2⟩:=h;rw[kj,kj];by_cases e:p.1=k
  ·have a:¬ϒ (p.1≠k)=af:=by simp[e]
   have b:¬ϒ (q.1≠k)=af:=by simp[h1.symm.trans e]
   rw[az a,az b];exact ih
  ·have e':¬q.1=k:=λz=>e (h1.trans z)
   have a:ϒ (p.1≠k)=af:=by simp[e]
   have b:ϒ (q.1≠k)=af:=by simp[e']
   rw[av a,av b];exact .cons ⟨h1,h2⟩ ih
theorem KV.length{kvs:aa (κ×V)}{vs:aa (κ×ak)}(r:KV kvs vs):kvs.length=vs.length:=i5 r
theorem aD3(kvs:aa (κ×V))(k:κ):(zY kvs k).length<=kvs.length:=yt _ _
end
theorem W3{P:bu}{w:bo}{k:Key}{u:ak}(r:RelV (kV k) u):(cU P w).is k u=af:=by
 cases k with
 |inl i=>obtain⟨t,e⟩:=(show ∃t,u=lx i t from r);subst e;exact QD P w i t
 |inr x=>obtain⟨t,e⟩:=(show ∃t,u=ly x t from r);subst e;exact QF P w x t
theorem KZ{P:bu}{w:bo}:∀{ks:aa Key}{us:aa ak},Vals (ks.map kV) us->ItemsAre (cU P w) ks us
 |[],_,r=>by rw[kP] at r;cases r;exact .nil
 |k::ks,_,r=>by
  rw[bw] at r;cases r with
  |cons h t=>exact .cons (W3 h) (KZ t)
abbrev KT(H:Hp):aa (aa Key×V)->aa (aa Key×al×ak)->Prop:=kz λp q=>p.1=q.1/\H q.2.1=ae (.tup (p.1.map kV))/\RelV p.2 q.2.2
theorem KT.val{H:Hp}{kvs:aa (aa Key×V)}{xs:aa (aa Key×al×ak)}(r:KT H kvs xs)(k:aa Key):Y6 (xO kvs k) ((iA xs k).map (·.2)):=by
 induction r with
 |nil=>exact True.intro
 |@cons p q ps qs h t ih=>
  obtain⟨h1,_,h2⟩:=h;by_cases e:p.1=k
  ·have e':q.1=k:=h1.symm.trans e;have b:iA (q::qs) k=ae q.2:=by simp[iA,kN,e']
   rw[sX e,b];exact h2
  ·have e':¬q.1=k:=λz=>e (h1.trans z)
   have b:iA (q::qs) k=iA qs k:=by simp[iA,kN,e']
   rw[sY e,b];exact ih
theorem KT.repl{H:Hp}{kvs:aa (aa Key×V)}{xs:aa (aa Key×al×ak)}(r:KT H kvs xs)(k:aa Key){y:V}{u:ak}(ry:RelV y u) :
  KT H (kvs.map λkv=>if kv.1=k then (kv.1,y) else kv) (xs.map (putAt k u)):=by
 induction r with
 |nil=>exact .nil
 |@cons p q ps qs h t ih=>
  rw[bw,bw];refine .cons ?_ ih;obtain⟨h1,h2,h3⟩:=h;unfold putAt;by_cases e:p.1=k
  ·rw[av e,av (h1.symm.trans e)];exact⟨h1,h2,ry⟩
  ·rw[az e,az (λz=>e (h1.trans z))];exact⟨h1,h2,h3⟩
theorem KT.put{H:Hp}{kvs:aa (aa Key×V)}{xs:aa (aa Key×al×ak)}(r:KT H kvs xs)(k:aa Key){b:al}{y:V}{u:ak}(hb:H b=ae (.tup (k.map kV)))(ry:RelV y u) :
  KT H (putK kvs k y) (storedH xs k b u):=by
 have e:(kvs.any λkv=>ϒ (kv.1=k))=(iA xs k).isSome:=by
  rw[sZ,(r.val k).m9,vh]
 unfold putK storedH;rw[e];by_cases q:(iA xs k).isSome=af
 ·rw[av q,av q];exact r.repl k ry
 ·rw[az q,az q];exact yr r ⟨rfl,hb,ry⟩
theorem KT.keeps{H H':Hp}{kvs:aa (aa Key×V)}{xs:aa (aa Key×al×ak)}(r:KT H kvs xs)(ht:∀b ys,H b=ae (.tup ys)->H' b=ae (.tup ys)):KT H' kvs xs:=
 Paired.aLp r λ_ _ z=>⟨z.1,ht _ _ z.2.1,z.2.2⟩
section
variable {P:bu} {w:bo} {H:Hp} {h:aS} {a:al}
theorem aJh{u:HO}(ok:HOk P w H h)(e:Rd H a u):iC P w H h a u:=e.ok ok
theorem K4{kvs:aa (Key×V)}(ok:HOk P w H h)(e:Rd H a (.dK kvs)):kvs.length<=bq/\(a==eP)=ag/\∃vs,KV kvs vs/\h.DictOf (cU P w) a vs:=
 show iC P w H h a (.dK kvs) from aJh ok e
theorem QT{kvs:aa (Key×V)}(ok:HOk P w H h)(e:H a=ae (.dK kvs)):kvs.length<=bq/\(a==eP)=ag/\∃vs,KV kvs vs/\h.DictOf (cU P w) a vs:=K4 ok (.inl e)
theorem K5{ks:aa Key}(ok:HOk P w H h)(e:H a=ae (.tup (ks.map kV))):(kA (cU P w)).is h ks a:=by
 obtain⟨_,its,r,o,h1,h2,n,h3⟩:=(show iC P w H h a (.tup (ks.map kV)) from ok a _ e)
 exact⟨o,its.toArray,n,h1,h2,di (·.1) h3,by simpa using KZ r⟩
theorem ZR{kvs:aa (aa Key×V)}(ok:HOk P w H h)(e:Rd H a (.dT kvs)):kvs.length<=bq/\(a==eP)=ag/\
  ∃xs,KT H kvs xs/\h.DictOfH (kA (cU P w)) a xs:=by
 obtain⟨z,y,xs,r,o,es,ep,h1,h2,h3,h4,h5⟩:=(show iC P w H h a (.dT kvs) from aJh ok e)
 refine⟨z,y,xs,r,o,es,ep,h1,h2,h3,h4,λx hx=>?_,h5⟩;have all:∀{l:aa (aa Key×V)}{m:aa (aa Key×al×ak)},KT H l m->∀x∈m,(kA (cU P w)).is h x.1 x.2.1:=by
  intro l m q;induction q with
  |nil=>intro x hx;exact nomatch hx
  |@cons p q ps qs hq t ih=>
   intro x hx;rcases bX.mp hx with e|hx
   ·subst e;exact K5 ok (by rw[<-hq.1];exact hq.2.1)
   ·exact ih x hx
 exact all r x hx
theorem aGc{kvs:aa (aa Key×V)}(ok:HOk P w H h)(e:H a=ae (.dT kvs)):kvs.length<=bq/\(a==eP)=ag/\
  ∃xs,KT H kvs xs/\h.DictOfH (kA (cU P w)) a xs:=ZR ok (.inl e)
end
def ZS(H:Hp)(a:al)(y:V)(r:ay V):Prop:=
 (∃kvs k,Rd H a (.dK kvs)/\y=kV k/\r=xO kvs k)\/∃kvs k b,Rd H a (.dT kvs)/\y=.ref b/\H b=ae (.tup (k.map kV))/\r=xO kvs k
def aF0(H:Hp)(a:al)(y v:V)(H':Hp):Prop:=
 (∃kvs k,H a=ae (.dK kvs)/\y=kV k/\kvs.length<bq/\H'=upd H a (.dK (putK kvs k v)))\/
 ∃kvs k b,H a=ae (.dT kvs)/\y=.ref b/\H b=ae (.tup (k.map kV))/\kvs.length<bq/\H'=upd H a (.dT (putK kvs k v))
theorem ZS.k{H:Hp}{a:al}{kvs:aa (Key×V)}{k:Key}(e:H a=ae (.dK kvs)):ZS H a (kV k) (xO kvs k):=.inl ⟨kvs,k,.inl e,rfl,rfl⟩
theorem ZS.t{H:Hp}{a b:al}{kvs:aa (aa Key×V)}{k:aa Key}(e:H a=ae (.dT kvs))(eb:H b=ae (.tup (k.map kV))):ZS H a (.ref b) (xO kvs k):=.inr ⟨kvs,k,b,.inl e,rfl,eb,rfl⟩
theorem aF0.k{H:Hp}{a:al}{kvs:aa (Key×V)}{k:Key}{v:V}(e:H a=ae (.dK kvs))(hl:kvs.length<bq):aF0 H a (kV k) v (upd H a (.dK (putK kvs k v))):=.inl ⟨kvs,k,e,rfl,hl,rfl⟩
theorem aF0.t{H:Hp}{a b:al}{kvs:aa (aa Key×V)}{k:aa Key}{v:V}(e:H a=ae (.dT kvs))(eb:H b=ae (.tup (k.map kV)))(hl:kvs.length<bq) :
  aF0 H a (.ref b) v (upd H a (.dT (putK kvs k v))):=.inr ⟨kvs,k,b,e,rfl,eb,hl,rfl⟩
section
variable {X:Cx} {Ψ:aa (al×bf)} {σ:St} {H:Hp} {s:ao} {a:al} {y v:V} {u r:ak} {o:ay V} {A:bP} {E:ak->ao->Prop}
theorem Inv.big(I:Inv X Ψ σ H s):eP<s.heap.objs.size:=by
 have h:bg<s.heap.objs.size:=(I.mod.glob.keeps I.bk).lt;exact Nat.lt_trans (by decide) h
theorem ZV{Q:ak->ao->Prop}(hu:A.units+1<b9)(I:Inv X Ψ σ H s)(g:ZS H a y (ae v))(ry:RelV y u)(h:∀w' s',Inv X Ψ σ H s'->RelV v w'->Q w' s') :
  ϑ (ax X.prog X.w) A (ka (.ref a) u) Q E s:=by
 rcases g with ⟨kvs,k,e,ey,l⟩|⟨kvs,k,b,e,ey,eb,l⟩
 ·subst ey;obtain⟨z,hd,vs,rel,dd⟩:=K4 I.hok e;obtain⟨w',hw,rw'⟩:=Y6.some_of (v:=v) (o:=i9 vs k) (by rw[l];exact rel.val k);exact wpAny_getItem_of (W3 ry) dd.mapOf hw (h w' _ (I.tok _) rw')
 ·subst ey;cases (show u=ff b from ry);obtain⟨z,hd,xs,rel,dd⟩:=ZR I.hok e;obtain⟨w',hw,rw'⟩:=Y6.some_of (v:=v) (o:=(iA xs k).map (·.2)) (by rw[l];exact rel.val k);obtain⟨p,hp,hp2⟩:=nV.mp hw;refine wpAny_getItem_heap (nX hu) (K5 I.hok eb) dd hp ?_;rw[hp2];exact h w' _ (I.tok _) rw'
theorem aO5{Q:ak->ao->Prop}(hu:A.units+1<b9)(I:Inv X Ψ σ H s)(g:ZS H a y o)(ry:RelV y u)(h:∀s',Inv X Ψ σ H s'->Q (.bool o.isSome) s') :
  ϑ (ax X.prog X.w) A (c_ .In u (.ref a)) Q E s:=by
 rcases g with ⟨kvs,k,e,ey,l⟩|⟨kvs,k,b,e,ey,eb,l⟩
 ·subst ey;obtain⟨z,hd,vs,rel,dd⟩:=K4 I.hok e;refine wpAny_in_of (W3 ry) hd dd.mapOf ?_;rw[<-(rel.val k).m9,<-l];exact h _ (I.tok _)
 ·subst ey;cases (show u=ff b from ry);obtain⟨z,hd,xs,rel,dd⟩:=ZR I.hok e;refine wpAny_in_heap (nX hu) (K5 I.hok eb) hd dd ?_;have q:=(rel.val k).m9;rw[vh] at q;rw[<-q,<-l];exact h _ (I.tok _)
theorem ZW{Q:ak->ao->Prop}(hu:A.units+1<b9)(I:Inv X Ψ σ H s)(g:ZS H a y o)(ry:RelV y u)(h:∀s',Inv X Ψ σ H s'->Q (.bool (!o.isSome)) s') :
  ϑ (ax X.prog X.w) A (c_ .NotIn u (.ref a)) Q E s:=by
 rcases g with ⟨kvs,k,e,ey,l⟩|⟨kvs,k,b,e,ey,eb,l⟩
 ·subst ey;obtain⟨z,hd,vs,rel,dd⟩:=K4 I.hok e;refine wpAny_notIn_of (W3 ry) hd dd.mapOf ?_;rw[<-(rel.val k).m9,<-l];exact h _ (I.tok _)
 ·subst ey;cases (show u=ff b from ry);obtain⟨z,hd,xs,rel,dd⟩:=ZR I.hok e;refine wpAny_notIn_heap (nX hu) (K5 I.hok eb) hd dd ?_;have q:=(rel.val k).m9;rw[vh] at q;rw[<-q,<-l];exact h _ (I.tok _)
theorem QV{h':aS}{t':ah}{ob:HO}(I:Inv X Ψ σ H s)(mu:Mut (H a))(hs:kC a s.heap h')(he:∃q,h'.get? a=ae q)(new:iC X.prog X.w (upd H a ob) h' a ob) :
  Inv X Ψ σ (upd H a ob) {s with heap:=h',toks:=t'}:=
 I.write (x:=a) (e:=a) mu (.inl rfl) (λb q hb z=>(hs.2 b hb).trans z) he new
theorem ZX{P:bu}{w:bo}{H':Hp}{h':aS}{kvs:aa (Key×V)}{vs:aa (Key×ak)}(z:kvs.length<=bq)(hd:(a==eP)=ag)(rel:KV kvs vs)(dd:h'.DictOf (cU P w) a vs) :
  iC P w H' h' a (.dK kvs):=⟨z,hd,vs,rel,dd⟩
theorem ZZ{H':Hp}{Q:gN->ao->Prop}(hu:A.units+1<b9)(I:Inv X Ψ σ H s)(g:aF0 H a y v H')(ry:RelV y u)(rv:RelV v r)(h:∀s',Inv X Ψ σ H' s'->Q () s') :
  ϑ (ax X.prog X.w) A (setItem (.ref a) u r) Q E s:=by
 rcases g with ⟨kvs,k,e,ey,l,eH⟩|⟨kvs,k,b,e,ey,eb,l,eH⟩
 ·subst ey eH;obtain⟨z,hd,vs,rel,dd⟩:=QT I.hok e;have hz:vs.length<=bq:=by rw[<-rel.length];exact z
  have hl:(putK kvs k v).length<=bq:=by have:=xP kvs k v;lia
  refine wpAny_setItem_pairs (hsz:=hz) (W3 ry) dd λh' dd' hs=>h _ ?_
  have he:∃q,h'.get? a=ae q:=let ⟨q,_,_,hq,_⟩:=dd';⟨q,hq⟩
  exact QV I (by rw[e];exact True.intro) hs he (ZX hl hd (rel.put k rv) dd')
 ·subst ey eH;cases (show u=ff b from ry);obtain⟨z,hd,xs,rel,dd⟩:=aGc I.hok e;have hz:xs.length<=bq:=by rw[<-i5 rel];exact z
  have hl:(putK kvs k v).length<=bq:=by have:=xP kvs k v;lia
  refine wpAny_setItem_heap (hsz:=hz) (nX hu) (K5 I.hok eb) dd λh' dd' hs=>h _ ?_
  obtain⟨q,es,ep,hq,h2,h3,h4,_,h5⟩:=dd';refine QV I (by rw[e];exact True.intro) hs ⟨q,hq⟩ ⟨hl,hd,_,(rel.put k eb rv).keeps λc ys ec=>?_,q,es,ep,hq,h2,h3,h4,h5⟩;rw[bD (aFx ec e (λz=>nomatch z))];exact ec
end
section
variable {X:Cx} {Ψ:aa (al×bf)} {σ:St} {H:Hp} {s:ao} {a:al} {kvs:aa (Key×V)} {k:Key} {u:ak} {A:bP} {E:ak->ao->Prop}
theorem aM9{v:V}{more:aa ak}{Q:ak->ao->Prop}(I:Inv X Ψ σ H s)(e:H a=ae (.dK kvs))(ry:RelV (kV k) u)(l:xO kvs k=ae v)(hm:more=[]\/∃x,more=[x])
 (h:∀w' s',Inv X Ψ σ (upd H a (.dK (zY kvs k))) s'->RelV v w'->Q w' s'):ϑ (ax X.prog X.w) A (call (.builtin "dict.pop") (.ref a::u::more)) Q E s:=by
 obtain⟨z,hd,vs,rel,dd⟩:=QT I.hok e;obtain⟨w',hw,rw'⟩:=Y6.some_of (v:=v) (o:=i9 vs k) (by rw[<-l];exact rel.val k);have hp:(keyPart u).isSome=af:=by
  cases k with
  |inl i=>obtain⟨t,q⟩:=(show ∃t,u=lx i t from ry);subst q;rfl
  |inr x=>obtain⟨t,q⟩:=(show ∃t,u=ly x t from ry);subst q;rfl
 have ha:argsOk "dict.pop" ⟨.ref a::u::more,[]⟩:=by
  rcases hm with q|⟨x,q⟩
  ·subst q;exact PySem.F.args_dict_pop_2 _ _
  ·subst q;exact PySem.F.args_dict_pop_3 _ _ _
 refine yu yw dd.typeIs PySem.F.entry_dict_pop ha (meets_dict_pop_there (cU X.prog X.w) a (W3 ry) more hm hp)
  ⟨vs,w',dd,by rw[<-rel.length];exact z,hw,λh' dd' hs=>h w' _ ?_ rw'⟩
 have he:∃q,h'.get? a=ae q:=let ⟨q,_,_,hq,_⟩:=dd';⟨q,hq⟩
 exact QV I (by rw[e];exact True.intro) hs he (ZX (du (aD3 kvs k) z) hd (rel.drop k) dd')
end
theorem QW{X:Cx}{Ψ:aa (al×bf)}{σ:St}{H:Hp}{s:ao}{a:al}{y:V}{o:ay V}(I:Inv X Ψ σ H s)(g:ZS H a y o):s.TypeIs (.ref a) "dict":=by
 rcases g with ⟨kvs,k,e,_,_⟩|⟨kvs,k,b,e,_,_,_⟩
 ·obtain⟨_,_,vs,_,dd⟩:=K4 I.hok e;exact dd.typeIs
 ·obtain⟨_,_,xs,_,dd⟩:=ZR I.hok e;exact dd.typeIs
theorem aD4{P:bu}{w:bo}{H:Hp}(h:aS)(hb:eP<h.objs.size):iC P w H (h.push {cls:=.type "dict",data:=.dict #[]}) h.objs.size (.dK []):=
 ⟨eS _,sK.mpr (Ne.symm (c9 hb)),[],.nil,Bh h⟩
def aJi:TE:=λ_ H Q=>∀p,H p=aj->Q (.ref p) (upd H p (.dK []))
section
variable {X:Cx} {pos:cb}
theorem aD5:PE X (.Dict [] [] pos) aJi:=λΨ s σ H Q I h=>
 wpAny_Dict_empty ⟨.ref s.heap.objs.size,_,I.laid (a:=s.heap.objs.size) (o:=.dK []) (t':=s.toks) (λ_ _ q=>cq _ q) (bi _) (aD4 s.heap I.big),rfl,h _ (I.hok.fresh (bi _))⟩
end
end L2
namespace Att
open PySem PySem.W PySem.Calls PyProof.Rows
theorem xQ{P:n4}{h:aS}:∀(ns:aa ai)(vs:aa ak),WellAll P h vs (ns.map yx)->mj vs ns:=by
 intro ns;induction ns with
 |nil=>
  intro vs w;rw[kP] at w;cases w;exact .nil
 |cons n ns ih=>
  intro vs w;rw[bw] at w;cases w with
  |cons a b=>
   cases a;exact .cons _ _ (ih _ b)
theorem Z0{l:OpenLaw}{n:ah}(hn:l.most=ae n){P:n4}{h:aS}{args:aa WData}{vals:aa ak}
 (hpre:l.row.toRowW.claim.pre args=af)(hwl:WellAll P h vals args) :
  ∃a vs ns,vals=[ff a]/\args=[WData.list (ns.map yx)]/\h.get? a=ae {cls:=.type "list",data:=.seq vs.toArray}/\mj vs ns/\ns.length<=n:=by
 have hsh:WShape.hasAll [] args [.list .int]=af:=(pre_splitW hpre).1;have hc:l.pre.holds [] {args:=args}=af:=(pre_splitW hpre).2;obtain⟨d,r,rfl,h1,h2⟩:=hasAllW_cons hsh;obtain rfl:=hasAllW_nil h2;obtain⟨xs,rfl,h3⟩:=hasW_list h1;obtain⟨ns,rfl⟩:=items_int h3;have hlen:ns.length<=n:=by
  unfold OpenLaw.pre at hc;have h4:(WTm.not (.lt (.lit (.int (n:ai))) (.len (.arg 0)))).holds [] {args:=[.list (ns.map .int)]}=af:=by
   have h4:=(holds_andW hc).1;rw[hn] at h4;exact h4
  have h5:=condW_of h4 (w_not (w_lt w_lit (w_len_list (w_arg rfl))));rw[bp] at h5;refine Nat.le_of_not_lt λq=>?_
  have q':(n:ai)<((ns.length:ah):ai):=by lia
  first
   | (rw[cK q'] at h5;exact bb h5 (by decide))
   | (simp at h5;lia)
 cases hwl with
 |cons w1 w2=>
  cases w2;cases w1 with
  |list ho hall=>exact⟨_,_,ns,rfl,rfl,ho,xQ ns _ hall,hlen⟩
theorem Z1(l:OpenLaw)(args:aa WData):l.row.toRowW.claim.post args (.bool af) args=af:=
 postW_of (r:=l.row.toRowW) (X:=(af==af))
  (show yy [] (.bool af) .bool=af by first|rfl|decide|simp[yy,WShape.arms,WShape.armsAll])
  (show(WTm.eq .res (.lit (.bool af))).value [] {args:=args,res:=ae (.bool af),after:=args}=ae (.bool (af==af)) from w_eq_bool (w_res rfl) w_lit) rfl
theorem QX{l:OpenLaw}{n:ah}{q:bu}{loose:aa Str}{XP:(Str->ay ak)->aS->Prop}{YP:bo->aS->Prop}{d:DefRec}
 (hn:l.most=ae n)(hdf:d.params.defaults=[])
 (call:∀(w:bo) (s₀ s₁:ao) (mg mb:Str->ay ak) (fa:al) (o:bf) (pm cd doc:ak) (a:al) (vs:aa ak) (ns:aa ai),
   Ground q loose [] XP w s₀ mg mb s₁.heap->YP w s₁.heap->
   s₁.heap.get? fa=ae o->o.data=.func (docDef d.name d.params d.body d.scope pm cd doc)->s₁.heap.CodeRec cd d.name->mg d.name=ae (.ref fa)->
   s₁.heap.get? a=ae {cls:=.type "list",data:=.seq vs.toArray}->mj vs ns->ns.length<=n->s₁.gens=#[]->
   codeAny (ax l.prog w) kl (.call (.ref fa) ⟨[.ref a],[]⟩) (λr s'=>r=.ok (.ret (.bool af))/\OldK s₁.heap s'.heap/\s'.os=s₁.os/\ii s'.gens) s₁) :
  WalkO q loose XP YP l.row.toRowW d [] (λf vs=>vk f vs):=by
 intro w s₀ s₁ mg mb G Y fa o pm cd doc dV kV ho hd hcd hD hmg hg args vals as hpre hlay hrd hwl hlo;obtain rfl:dV=.none:=Dflts.none hD hdf;obtain rfl:kV=.none:=Dflts.noKw hD;obtain⟨a,vs,ns,rfl,rfl,hobj,hints,hlen⟩:=Z0 hn hpre hwl;refine enter_call (kH (call w s₀ s₁ mg mb fa o pm cd doc a vs ns G Y ho (fd_plain hd) hcd hmg hobj hints hlen hg) λr s' hq=>?_);obtain⟨rfl,h2,h3,h4⟩:=hq;exact⟨.inl ⟨.bool af,.bool af,[],rfl,λ_=>rfl,.bool af,Z1 l _,λ_=>⟨Bi,λ_ hm=>(nomatch hm)⟩⟩,h2,h3,h4⟩
end Att
namespace L2
open PySem PySem.Spec PyProof.Rows
theorem m_:∀{vs:aa ak}{ns:aa ai},mj vs ns->Vals (ns.map V.int) vs
 |_,_,.nil=>.nil
 |_,_,.cons n t h=>.cons ⟨t,rfl⟩ (m_ h)
def Only(H:Hp):Prop:=∀b,H b=aj\/∃o xs,H b=ae (.frz o (.lst xs))
theorem aD6{P:bu}{w:bo}{K:bz}{mg mb:Str->ay ak}{CX:CXT}{k:ah}{fa a:al}{fd:eo}{x:Str}{sp:Sp}{s₁:ao}{vs:aa ak}{ns:aa ai}
 (KX:K.In s₁.heap)(hns:s₁.heap.Ns bg mg)(hb:s₁.heap.Ns sQ mb)(hbb:∀x:Str,x ≠ "__name__"->mb x=eI x)(hlim:s₁.heap.NoLimit)(hg:s₁.gens=#[])
 (ha:s₁.heap.get? a=ae {cls:=.type "list",data:=.seq vs.toArray})(hi:mj vs ns)(hl:ns.length<=bq)(hr:uR k kl)
 (F:∀base:aS,K.In base->base.Ns bg mg->TX P w K mg base CX k fa fd [x] sp)(hbind:∀(s:ao) (u:ak),kG s fd ⟨[u],[]⟩ [(x,u)])
 (hsp:∀H:Hp,Only H->SqL K H a (ns.map V.int)->sp [.ref a] H (λv _=>v=.bl af) λ_ _ _=>cm)
 (hCX:∀H e s',CX [] H s₁ (λ_ _ _=>cm) e s'->cm) :
  codeAny (ax P w) kl (.call (.ref fa) ⟨[.ref a],[]⟩) (λr s'=>r=.ok (.ret (.bool af))/\OldK s₁.heap s'.heap/\s'.os=s₁.os/\ii s'.gens) s₁:=by
 have rv:=m_ hi;have lenV:=hi.length
 -- from an abstract heap in which nothing but the script may be tracked
 have core:∀H:Hp,Only H->SqL K H a (ns.map V.int)->HOk P w H s₁.heap->(∀b,H b≠aj->b=a)->(H a≠aj->K.lookup a=aj)->
   codeAny (ax P w) kl (.call (.ref fa) ⟨[.ref a],[]⟩) (λr s'=>r=.ok (.ret (.bool af))/\OldK s₁.heap s'.heap/\s'.os=s₁.os/\ii s'.gens) s₁:=by
  intro H hO hS hok hA hK;have base_of:∀{b:al}{o:bf},s₁.heap.get? b=ae o->H b=aj->(aCs s₁.heap H).get? b=ae o:=λe n=>aCt e n
  have noA:∀{b:al}{o:bf}{es:aE iE}{ep:ah},s₁.heap.get? b=ae o->o.data=.dict es ep->H b=aj:=λ{b o es ep} e d=>by
   cases q:H b with
   |none=>rfl
   |some u=>
    have e':b=a:=hA b (by rw[q];simp);subst e';rw[ha] at e;cases e;have d':xq vs.toArray _=Data.dict es ep:=d;cases d'
  have nsK:∀{b:al}{m:Str->ay ak},s₁.heap.Ns b m->(aCs s₁.heap H).Ns b m:=λ{b m} ⟨o,es,ep,e,d,r⟩=>⟨o,es,ep,base_of e (noA e d),d,r⟩
  have hKb:K.In (aCs s₁.heap H):=λb o e=>base_of (KX b o e) (by
   cases q:H b with
   |none=>rfl
   |some u=>
    have e':b=a:=hA b (by rw[q];simp);subst e';rw[hK (by rw[q];simp)] at e;cases e)
  have hM:Mod K mg (aCs s₁.heap H):=⟨hKb,nsK hns,⟨mb,nsK hb,hbb⟩,let ⟨mc,h1,h2⟩:=hlim;⟨mc,nsK h1,h2⟩⟩
  have e0:aLf P w K mg (aCs s₁.heap H) kl [] s₁ H:=⟨rfl,hM,λb o e=>aFy e,n9 (Y7 _ _),trivial,λb hb=>bb (show b∈([]:aa al) from hb) (by simp),hok,.of_eq hg⟩
  refine kH ((F _ hKb (nsK hns)).run kl [] s₁ H ⟨[.ref a],[]⟩ [.ref a] [.ref a] _ _ hr e0 (hbind s₁ (.ref a)) (.cons rfl .nil) (hsp H hO hS)) λr s' h=>?_
  cases r with
  |error e=>exact(hCX H e s' h).elim
  |ok fl=>
   cases fl with
   |next=>exact dE h
   |brk=>exact dE h
   |cont=>exact dE h
   |ret u=>
    obtain⟨v,H',os,bare,un,hok',r',q⟩:=h;have q':v=.bl af:=q;subst q';obtain rfl:u=sL af:=r';refine⟨rfl,OldK.of_keep λb o e=>?_,os,bare⟩;cases q:H b with
    |none=>exact un.keep b o e q (by intro z;exact bb (show b∈([]:aa al) from z) (by simp)) (by simp)
    |some u=>
     rcases hO b with z|⟨ob,xs,z⟩
     ·rw[q] at z;cases z
     ·have z2:=un.frzs b ob _ z;obtain⟨e1,_⟩:=hok b _ z;obtain⟨e2,_⟩:=hok' b _ z2;rw[e] at e1;cases e1;exact e2
 cases hk:K.lookup a with
 |some o=>
  -- the script is one of the module's own objects
  have e:=KX a o hk;rw[ha] at e;cases e;refine core (λ_=>aj) (λ_=>.inl rfl) (.inr ⟨_,vs.toArray,_,hk,rfl,rfl,rfl,by rw[cv,lenV];exact hl,by simpa using rv⟩) (λb u z=>by have z':(aj:ay HO)=ae u:=z;cases z') (λb z=>bb rfl z) λz=>bb rfl z
 |none=>
  refine core (λb=>if b=a then ae (.frz {cls:=.type "list",data:=.seq vs.toArray} (.lst (ns.map V.int))) else aj) (λb=>?_) (.inl (.inr ⟨{cls:=.type "list",data:=.seq vs.toArray},av rfl⟩)) (λb u z=>?_) (λb z=>?_) λ_=>hk
  ·by_cases hb:b=a
   ·exact .inr ⟨_,_,av hb⟩
   ·exact .inl (az hb)
  ·by_cases hb:b=a
   ·have z':=(av hb).symm.trans z;cases z';subst hb;exact⟨ha,by rw[bp];exact hl,vs,_,rv,ha⟩
   ·have z':=(az hb).symm.trans z;cases z'
  ·by_cases hb:b=a
   ·exact hb
   ·exact bb (az hb) z
theorem aGd{l:PySem.W.OpenLaw}{n k:ah}{q:bu}{loose:aa Str}{XP:(Str->ay ak)->aS->Prop}{YP:bo->aS->Prop}{d:DefRec}{K:n4->bz}{CX:bo->CXT}{sp:bo->Sp}{x:Str}
 (hn:l.most=ae n)(hn2:n<=bq)(hdf:d.params.defaults=[])(hr:uR k kl)
 (hY:∀(w:bo) (h:aS),YP w h->(K w.params).In h)
 (F:∀(w:bo) (mg:Str->ay ak) (fa:al) (h:aS),(K w.params).In h->h.Ns bg mg->mg d.name=ae (.ref fa)->
   ∃fd:eo,(∀(s:ao) (u:ak),kG s fd ⟨[u],[]⟩ [(x,u)])/\
    ∀base:aS,(K w.params).In base->base.Ns bg mg->TX l.prog w (K w.params) mg base (CX w) k fa fd [x] (sp w))
 (hsp:∀(w:bo) (H:Hp) (a:al) (ns:aa ai),ns.length<=n->Only H->SqL (K w.params) H a (ns.map V.int)->sp w [.ref a] H (λv _=>v=.bl af) λ_ _ _=>cm)
 (hCX:∀(w:bo) (H:Hp) (s:ao) (e:ak) (s':ao),CX w [] H s (λ_ _ _=>cm) e s'->cm) :
  PySem.W.WalkO q loose XP YP l.row.toRowW d [] (λf vs=>vk f vs):=by
 refine Att.QX hn hdf λw s₀ s₁ mg mb fa o pm cd doc a vs ns G Y ho hd hcd hmg hobj hints hlen hg=>?_
 have KX:=hY w _ Y;obtain⟨fd,hb,hF⟩:=F w mg fa _ KX G.T.g hmg;exact aD6 KX G.T.g G.T.b G.T.builtins G.T.nolimit hg hobj hints (du hlen hn2) hr hF hb (λH hO hS=>hsp w H a ns hlen hO hS) λH e s'=>hCX w H s₁ e s'
noncomputable def lK(s:bE):Arguments:=match s with
 |.FunctionDef _ a _ _ _ _ _ _ _ _=>a
 |_=>{posonlyargs:=[],args:=[],vararg:=aj,kwonlyargs:=[],kw_defaults:=[],kwarg:=aj,defaults:=[]}
noncomputable def gK(s:bE):aa bE:=match s with
 |.FunctionDef _ _ b _ _ _ _ _ _ _=>b
 |_=>[]
noncomputable def aP(s:bE):dS:=match s with
 |.FunctionDef _ _ _ _ _ _ sc _ _ _=>sc
 |_=>{kind:=.function,names:=[],isGenerator:=ag,isCoroutine:=ag}
noncomputable abbrev CX0:CXT:=λ_ _ _ _ _ _=>cm
noncomputable abbrev E0:XK:=λ_ _ _=>cm
theorem aMa{X:Cx}:TY CX0 X E0:=λ_ _ _ _ _ _ _ h=>h.elim
structure Fun(K:bz)(x qual:Str)(st:bE)(f:al)(fd:eo):Prop where
 ex:∃(oc:ak)(od:ay al)(kV doc pm:ak)(an:ay al)(cdv ct:ak)(osl:aE (ay ak)),
  fd=jI x qual (lK st) (gK st) (aP st) .none kV doc pm an cdv ct/\K.lookup f=ae ⟨oc,od,.func fd,osl⟩/\nB K cdv qual=af
 kp:jz K (.ref f)=af
section
variable {P:bu} {w:bo} {K:bz} {mg:Str->ay ak} {base:aS}
theorem Fun.ok{x qual:Str}{st:bE}{f:al}{fd:eo}{N ps:aa Str}{k:ah}{sp:Sp}(F:Fun K x qual st f fd)(S:cA N ps (aP st))(len:∀vs H Q E,sp vs H Q E->vs.length=ps.length)
 (hbody:∀(cdv:ak) (A:bP) (outer:aa c5) (s:ao) (H:Hp) (vs:aa V) (Q:VK) (E:XK),uR k (A.deeper (dj qual (aP st) s.heap.objs.size f cdv))->sp vs H Q E->
   ∃t,PSs (v4 CX0 P w K mg base N qual (aP st) f cdv A outer s H E).nox (gK st) t/\t {nx:=λ_ H'=>Q .non H',rt:=Q} (start N vs) H):TX P w K mg base CX0 (k+1) f fd ps sp:=by
 obtain⟨oc,od,kV,doc,pm,an,cdv,ct,osl,rfl,lk,hcd⟩:=F.ex;refine aG5 lk hcd S len λA outer s H vs Q E hr hsp=>?_
 obtain⟨t,h,q⟩:=hbody cdv A outer s H vs Q E hr hsp;exact⟨t,h.nox,q⟩
theorem Fun.binds{x qual:Str}{st:bE}{f:al}{fd:eo}{ps:aa Str}(F:Fun K x qual st f fd)
 (h:∀(kV doc pm:ak) (an:ay al) (cdv ct:ak) (us:aa ak),us.length=ps.length->bindArgs (jI x qual (lK st) (gK st) (aP st) .none kV doc pm an cdv ct) ⟨us,[]⟩=pure (ps.zip us)):Binds K fd ps []:=by
 obtain⟨oc,od,kV,doc,pm,an,cdv,ct,osl,rfl,lk,hcd⟩:=F.ex;exact .all (h kV doc pm an cdv ct)
theorem aF1{x qual:Str}{st:bE}{f:al}{oc:ak}{od an:ay al}{osl:aE (ay ak)}{kV doc pm cdv ct:ak}(l:K.lookup f=ae ⟨oc,od,.func (jI x qual (lK st) (gK st) (aP st) .none kV doc pm an cdv ct),osl⟩)
 (c:nB K cdv qual=af)(k:jz K (.ref f)=af):Fun K x qual st f (jI x qual (lK st) (gK st) (aP st) .none kV doc pm an cdv ct):=⟨⟨oc,od,kV,doc,pm,an,cdv,ct,osl,rfl,l,c⟩,k⟩
end
def cX(H H':Hp):Prop:=∀b o,H b=ae o->H' b=ae o
theorem cX.refl(H:Hp):cX H H:=λ_ _ h=>h
theorem cX.trans{H H1 H2:Hp}(a:cX H H1)(b:cX H1 H2):cX H H2:=λc o h=>b c o (a c o h)
theorem cX.free{H H':Hp}(e:cX H H'){l:al}(h:H' l=aj):H l=aj:=by
 cases q:H l with
 |none=>rfl
 |some o=>
  rw[e l o q] at h;cases h
section
variable {κ:Type} [gw κ]
theorem aD7{kvs:aa (κ×V)}{k:κ}(h:xO kvs k=aj):¬k∈kvs.map (·.1):=by
 intro m;obtain⟨p,hp,e⟩:=cS.mp m;have q:(kvs.any λkv=>ϒ (kv.1=k))=af:=List.any_eq_true.mpr ⟨p,hp,cK e⟩;rw[sZ,h] at q;exact bb q (by simp)
theorem Z4:∀{l:aa κ}{k:κ},l.Nodup->¬k∈l->(l++[k]).Nodup
 |[],k,_,_=>by simp
 |a::r,k,h,hk=>by
  obtain⟨h1,h2⟩:=eR.mp h;show(a::(r++[k])).Nodup;refine eR.mpr ⟨λm=>?_,Z4 h2 λm=>hk (bX.mpr (Or.inr m))⟩;rcases eJ.mp m with q|q
  ·exact h1 q
  ·exact hk (bX.mpr (iF (yz.mp q).symm))
theorem aGe{kvs:aa (κ×V)}{k:κ}(v:V)(hn:(kvs.map (·.1)).Nodup)(h:xO kvs k=aj):((putK kvs k v).map (·.1)).Nodup:=by
 rw[aD2 v h,dv];exact Z4 hn (aD7 h)
end
end L2
namespace TS
open PySem PyProof.Rows
noncomputable def Z5:aq->au->aE au->ah->ah->ah->ja cg eB (ay ah):=sortPriv% PySem.Builtin.gallop
noncomputable def F_:ah->ja cg eB gN:=sortPriv% PySem.Builtin.setMinGallop
noncomputable def aD8:aE au->aE au->ja cg eB (aE au):=sortPriv% PySem.Builtin.mergeLo
noncomputable def aD9:aE au->aE au->ja cg eB (aE au):=sortPriv% PySem.Builtin.mergeHi
noncomputable def QZ(left:aq)(key:au)(arr:aE au)(base i:ah):ja cg eB (ay aq):=
 elem' arr (base+i) >>= λx=>if left=af then lt' x key else lt' key x >>= λr=>pure (Option.map (λb=>!b) r)
theorem oH{prog:bu}{w:bo}{A:bP}{E:ak->ao->Prop}{s:ao}{g:ah}{st:cg}{Q:gN->cg->Prop}
 (h:Q () (mr (kindOf st) (am st) (bn st) g (fq st))):c6 (ax prog w) A E s (F_ g) Q st:=iL h
section
variable {prog:bu} {w:bo} {A:bP} {E:ak->ao->Prop} {s:ao}
theorem W4{left:aq}{key:au}{arr:aE au}{base n hint:ah}{st:cg}{Q:ay ah->cg->Prop}(p:ah->aq)
 (hp:∀i (R:ay aq->cg->Prop),i<n->R (ae (p i)) st->c6 (ax prog w) A E s (QZ left key arr base i) R st)
 (hm:∀i j,i<=j->j<n->p j=af->p i=af)(hh:hint<n)
 (h:∀k,k<=n->(∀i,i<k->p i=af)->(∀i,k<=i->i<n->p i=ag)->Q (ae k) st) :
  c6 (ax prog w) A E s (Z5 left key arr base n hint) Q st:=by
 with_unfolding_all refine aI (hp _ _ hh ?_)
 dsimp only;cases hr:p hint with
 |true=>
  simp only[cw];refine aI (dw (dy
   (I:=λx c st'=>st'=st/\∃l o,c=(aj,l,o)/\l<o/\x+1<=o/\hint+l<n/\p (hint+l)=af)
   (Q:=λc st'=>st'=st/\∃l o,c=(aj,l,o)/\l<o/\hint+l<n/\p (hint+l)=af/\(n-hint<=o\/(hint+o<n/\p (hint+o)=ag))) ?step ?fin ?init) ?post)
  case init=>exact⟨rfl,0,1,rfl,by lia,by lia,hh,hr⟩
  case fin=>
   rintro c st' ⟨rfl,l,o,rfl,a1,a2,a3,a4⟩;exact⟨rfl,l,o,rfl,a1,a3,a4,.inl (by lia)⟩
  case step=>
   rintro x c st' _ hx ⟨rfl,l,o,rfl,a1,a2,a3,a4⟩;dsimp only;by_cases hge:o >= n-hint
   ·rw[av hge];exact aT ⟨rfl,l,o,rfl,a1,a3,a4,.inl hge⟩
   ·rw[az hge];refine aI (hp _ _ (by lia) ?_);dsimp only;cases hb:p (hint+o) with
    |true=>
     simp only[kQ,db,cx];exact aT ⟨rfl,_,_,rfl,by lia,by lia,by lia,hb⟩
    |false=>
     simp only[qmt,cw];exact aT ⟨rfl,_,_,rfl,a1,a3,a4,.inr ⟨by lia,hb⟩⟩
  case post=>
   rintro c st₀ ⟨rfl,l,o,rfl,a1,a3,a4,a5⟩;dsimp only;have H1:∀i,i<hint+l+1->p i=af:=λi hi=>hm i (hint+l) (by lia) a3 a4
   have H2:∀i,hint+min o (n-hint)<=i->i<n->p i=ag:=by
    intro i i1 i2;rcases a5 with a5|⟨a5,a6⟩
    ·lia
    ·cases hq:p i with
     |false=>rfl
     |true=>rw[hm (hint+o) i (by lia) i2 hq] at a6;cases a6
   refine aI (dw (dy
    (I:=λx c st'=>st'=st₀/\∃l r,c=(aj,l,r)/\l<=r/\r<=n/\r-l<=n-x/\(∀i,i<l->p i=af)/\(∀i,r<=i->i<n->p i=ag))
    (Q:=λc st'=>st'=st₀/\∃l r,c=(aj,l,r)/\l=r/\r<=n/\(∀i,i<l->p i=af)/\(∀i,r<=i->i<n->p i=ag)) ?step2 ?fin2 ?init2) ?post2)
   case init2=>exact⟨rfl,_,_,rfl,by lia,by lia,by lia,H1,H2⟩
   case fin2=>
    rintro c st' ⟨rfl,l,r,rfl,a1,a2,a3,a4,a5⟩;exact⟨rfl,l,r,rfl,by lia,a2,a4,a5⟩
   case step2=>
    rintro x c st' _ hx ⟨rfl,l,r,rfl,a1,a2,a3,a4,a5⟩;dsimp only;by_cases hge:l >= r
    ·rw[av hge];exact aT ⟨rfl,l,r,rfl,by lia,a2,a4,a5⟩
    ·rw[az hge];refine aI (hp _ _ (by lia) ?_);dsimp only;cases hb:p (l+(r-l) / 2) with
     |true=>
      simp only[cw];exact aT ⟨rfl,_,_,rfl,by lia,a2,by lia,λi hi=>hm i _ (by lia) (by lia) hb,a5⟩
     |false=>
      simp only[db,cx];refine aT ⟨rfl,_,_,rfl,by lia,by lia,by lia,a4,λi i1 i2=>?_⟩;cases hq:p i with
      |false=>rfl
      |true=>rw[hm _ i i1 i2 hq] at hb;cases hb
   case post2=>
    rintro c st' ⟨rfl,l,r,rfl,rfl,a2,a4,a5⟩;exact aT (h l a2 a4 a5)
 |false=>
  simp only[db,cx];refine aI (dw (dy
   (I:=λx c st'=>st'=st/\∃l o,c=(aj,l,o)/\l<o/\x+1<=o/\l<=hint/\p (hint-l)=ag)
   (Q:=λc st'=>st'=st/\∃l o,c=(aj,l,o)/\l<o/\l<=hint/\p (hint-l)=ag/\(hint+1<=o\/(o<=hint/\p (hint-o)=af))) ?step ?fin ?init) ?post)
  case init=>exact⟨rfl,0,1,rfl,by lia,by lia,by lia,hr⟩
  case fin=>
   rintro c st' ⟨rfl,l,o,rfl,a1,a2,a3,a4⟩;exact⟨rfl,l,o,rfl,a1,a3,a4,.inl (by lia)⟩
  case step=>
   rintro x c st' _ hx ⟨rfl,l,o,rfl,a1,a2,a3,a4⟩;dsimp only;by_cases hge:o >= hint+1
   ·rw[av hge];exact aT ⟨rfl,l,o,rfl,a1,a3,a4,.inl hge⟩
   ·rw[az hge];refine aI (hp _ _ (by lia) ?_);dsimp only;cases hb:p (hint-o) with
    |false=>
     simp only[db,cx];exact aT ⟨rfl,_,_,rfl,by lia,by lia,by lia,hb⟩
    |true=>
     simp only[cw];exact aT ⟨rfl,_,_,rfl,a1,a3,a4,.inr ⟨by lia,hb⟩⟩
  case post=>
   rintro c st₀ ⟨rfl,l,o,rfl,a1,a3,a4,a5⟩;dsimp only;have H1:∀i,i<hint+1-min o (hint+1)->p i=af:=by
    intro i hi;rcases a5 with a5|⟨a5,a6⟩
    ·lia
    ·exact hm i (hint-o) (by lia) (by lia) a6
   have H2:∀i,hint-l<=i->i<n->p i=ag:=by
    intro i i1 i2;cases hq:p i with
    |false=>rfl
    |true=>rw[hm (hint-l) i (by lia) i2 hq] at a4;cases a4
   refine aI (dw (dy
    (I:=λx c st'=>st'=st₀/\∃l r,c=(aj,l,r)/\l<=r/\r<=n/\r-l<=n-x/\(∀i,i<l->p i=af)/\(∀i,r<=i->i<n->p i=ag))
    (Q:=λc st'=>st'=st₀/\∃l r,c=(aj,l,r)/\l=r/\r<=n/\(∀i,i<l->p i=af)/\(∀i,r<=i->i<n->p i=ag)) ?step2 ?fin2 ?init2) ?post2)
   case init2=>exact⟨rfl,_,_,rfl,by lia,by lia,by lia,H1,H2⟩
   case fin2=>
    rintro c st' ⟨rfl,l,r,rfl,a1,a2,a3,a4,a5⟩;exact⟨rfl,l,r,rfl,by lia,a2,a4,a5⟩
   case step2=>
    rintro x c st' _ hx ⟨rfl,l,r,rfl,a1,a2,a3,a4,a5⟩;dsimp only;by_cases hge:l >= r
    ·rw[av hge];exact aT ⟨rfl,l,r,rfl,by lia,a2,a4,a5⟩
    ·rw[az hge];refine aI (hp _ _ (by lia) ?_);dsimp only;cases hb:p (l+(r-l) / 2) with
     |true=>
      simp only[cw];exact aT ⟨rfl,_,_,rfl,by lia,a2,by lia,λi hi=>hm i _ (by lia) (by lia) hb,a5⟩
     |false=>
      simp only[db,cx];refine aT ⟨rfl,_,_,rfl,by lia,by lia,by lia,a4,λi i1 i2=>?_⟩;cases hq:p i with
      |false=>rfl
      |true=>rw[hm _ i i1 i2 hq] at hb;cases hb
   case post2=>
    rintro c st' ⟨rfl,l,r,rfl,rfl,a2,a4,a5⟩;exact aT (h l a2 a4 a5)
end
structure Ord(U:au->Prop)(blt:au->au->aq):Prop where
 irr:∀x,U x->blt x x=ag
 tr:∀x y z,U x->U y->U z->blt x y=af->blt y z=af->blt x z=af
 ntr:∀x y z,U x->U y->U z->blt x z=af->blt x y=af\/blt y z=af
noncomputable abbrev dk:au:=(.none,.none)
def gt(a:aE au)(i:ah):au:=a.getD i dk
theorem nA{a:aE au}{i:ah}(h:i<a.size):a[i]?=ae (gt a i):=by
 unfold gt;simp[ir,h]
def t_(U:au->Prop)(a:aE au):Prop:=∀i,i<a.size->U (gt a i)
def Srt(blt:au->au->aq)(a:aE au)(lo hi:ah):Prop:=∀i j,lo<=i->i<=j->j<hi->blt (gt a j) (gt a i)=ag
def W5(prog:bu)(w:bo)(A:bP)(E:ak->ao->Prop)(s:ao)(kd:f_)(U:au->Prop)(blt:au->au->aq):Prop:=
 ∀(x y:au)(st:cg)(Q:ay aq->cg->Prop),U x->U y->kindOf st=kd->Q (ae (blt x y)) st->c6 (ax prog w) A E s (lt' x y) Q st
section
variable {prog:bu} {w:bo} {A:bP} {E:ak->ao->Prop} {s:ao} {kd:f_} {U:au->Prop} {blt:au->au->aq}
theorem b7{arr:aE au}{i:ah}{st:cg}{Q:au->cg->Prop}(hi:i<arr.size)(h:Q (gt arr i) st):c6 (ax prog w) A E s (elem' arr i) Q st:=by
 rw[elem'_eq,nA hi];exact aT h
def gp(blt:au->au->aq)(left:aq)(key:au)(arr:aE au)(base i:ah):aq:=if left then blt (gt arr (base+i)) key else !blt key (gt arr (base+i))
theorem W6(hL:W5 prog w A E s kd U blt){left:aq}{key:au}{arr:aE au}{base i:ah}{st:cg}{R:ay aq->cg->Prop}(hk:kindOf st=kd)(hi:base+i<arr.size)(hU:t_ U arr)(hK:U key)
 (h:R (ae (gp blt left key arr base i)) st):c6 (ax prog w) A E s (QZ left key arr base i) R st:=by
 unfold QZ;refine aI (b7 hi ?_);unfold gp at h;cases left with
 |true=>
  simp only[cw] at h ⊢;exact hL _ _ _ _ (hU _ hi) hK hk h
 |false=>
  simp only[db,cx] at h ⊢;refine aI (hL _ _ _ _ hK (hU _ hi) hk (aT ?_));exact h
theorem aGf(O:Ord U blt){left:aq}{key:au}{arr:aE au}{base n:ah}(hn:base+n<=arr.size)(hU:t_ U arr)(hK:U key)(hs:Srt blt arr base (base+n)) :
  ∀i j,i<=j->j<n->gp blt left key arr base j=af->gp blt left key arr base i=af:=by
 intro i j hij hj h;have h0:=hs (base+i) (base+j) (by lia) (by lia) (by lia);have ui:=hU (base+i) (by lia);have uj:=hU (base+j) (by lia);unfold gp at h ⊢;cases left with
 |true=>
  simp only[cw] at h ⊢;rcases O.ntr _ (gt arr (base+i)) _ uj ui hK h with q|q
  ·rw[h0] at q;cases q
  ·exact q
 |false=>
  simp only[db,cx] at h ⊢;cases q:blt key (gt arr (base+i)) with
  |false=>rfl
  |true=>
   rcases O.ntr _ (gt arr (base+j)) _ hK uj ui q with z|z
   ·rw[z] at h;cases h
   ·rw[h0] at z;cases z
theorem uY(O:Ord U blt)(hL:W5 prog w A E s kd U blt){left:aq}{key:au}{arr:aE au}{base n hint:ah}{st:cg}{Q:ay ah->cg->Prop}(hk:kindOf st=kd)(hn:base+n<=arr.size)(hU:t_ U arr)(hK:U key)
 (hs:Srt blt arr base (base+n))(hh:hint<n)
 (h:∀k,k<=n->(∀i,i<k->gp blt left key arr base i=af)->(∀i,k<=i->i<n->gp blt left key arr base i=ag)->Q (ae k) st):c6 (ax prog w) A E s (Z5 left key arr base n hint) Q st:=
 W4 (gp blt left key arr base) (λi R hi r=>W6 hL hk (by lia) hU hK r) (aGf O hn hU hK hs) hh h
end
section
variable (blt:au->au->aq)
noncomputable abbrev le(x y:au):aq:=!blt y x
def mrg(xs ys:aa au):aa au:=xs.merge ys (le blt)
variable {blt}
theorem nC{a:aE au}{i:ah}(h:i<a.size):a.toList.drop i=gt a i::a.toList.drop (i+1):=by
 rw[gq (by simpa using h)]
 congr 1
 unfold gt;simp[ir,h]
theorem GC{a:aE au}{i:ah}(h:a.size<=i):a.toList.drop i=[]:=oh (by simpa using h)
theorem nD(xs:aa au):mrg blt xs []=xs:=List.merge_right xs
theorem o8(ys:aa au):mrg blt [] ys=ys:=List.nil_merge ys
theorem iI(x y:au)(xs ys:aa au):mrg blt (x::xs) (y::ys)=if blt y x then y::mrg blt (x::xs) ys else x::mrg blt xs (y::ys):=by
 unfold mrg;rw[List.cons_merge_cons];cases h:blt y x<;>simp[le,h]
def J(blt:au->au->aq)(a b:aE au)(out:aE au)(ia ib:ah):Prop:=
 out.toList++mrg blt (a.toList.drop ia) (b.toList.drop ib)=mrg blt a.toList b.toList
variable {a b out:aE au} {ia ib:ah}
theorem J.pb(h:J blt a b out ia ib)(ha:ia<a.size)(hb:ib<b.size)(q:blt (gt b ib) (gt a ia)=af):J blt a b (out.push (gt b ib)) ia (ib+1):=by
 unfold J at h ⊢;rw[<-h,nC ha,nC hb,iI,av q,<-nC ha];simp
theorem J.pa(h:J blt a b out ia ib)(ha:ia<a.size)(hb:ib<b.size)(q:blt (gt b ib) (gt a ia)=ag):J blt a b (out.push (gt a ia)) (ia+1) ib:=by
 unfold J at h ⊢;rw[<-h,nC ha,nC hb,iI,az (by simp[q]),<-nC hb];simp
theorem T6{a:aE au}{i k:ah}(h:i+k<a.size)(out:aE au):out++a.extract i (i+(k+1))=(out++a.extract i (i+k)).push (gt a (i+k)):=by
 apply kT.mp;simp only[fy,mv,mw,kU];rw[show i+(k+1)-i=k+1 by lia,show i+k-i=k by lia,oi,eh]
 congr 2
 rw[my];have:a.toList[i+k]?=ae (gt a (i+k)):=by rw[gX];exact nA h
 rw[this];rfl
theorem T7(a:aE au)(i:ah)(out:aE au):out++a.extract i (i+0)=out:=by
 apply kT.mp;simp
theorem J.ga(h:J blt a b out ia ib)(hb:ib<b.size):∀k,ia+k<=a.size->(∀i,i<k->blt (gt b ib) (gt a (ia+i))=ag)->J blt a b (out++a.extract ia (ia+k)) (ia+k) ib
 |0,_,_=>by rw[T7];exact h
 |k+1,hk,q=>by
  have ih:=J.ga h hb k (by lia) λi hi=>q i (by lia)
  rw[T6 (by lia)];exact J.pa ih (by lia) hb (q k (by lia))
theorem J.gb(h:J blt a b out ia ib)(ha:ia<a.size):∀k,ib+k<=b.size->(∀i,i<k->blt (gt b (ib+i)) (gt a ia)=af)->J blt a b (out++b.extract ib (ib+k)) ia (ib+k)
 |0,_,_=>by rw[T7];exact h
 |k+1,hk,q=>by
  have ih:=J.gb h ha k (by lia) λi hi=>q i (by lia)
  rw[T6 (by lia)];exact J.pb ih ha (by lia) (q k (by lia))
theorem oJ(a:aE au)(i:ah):(a.extract i a.size).toList=a.toList.drop i:=by
 simp[mv,mw,mz]
theorem J.W7(h:J blt a b out ia ib)(hb:ib=b.size):(out++a.extract ia a.size++b.extract ib b.size).toList=mrg blt a.toList b.toList:=by
 rw[<-h,fy,fy,oJ,oJ,GC (n9 hb.symm),nD];simp
theorem J.W8(h:J blt a b out ia ib)(ha:ia=a.size):(out++a.extract ia a.size++b.extract ib b.size).toList=mrg blt a.toList b.toList:=by
 rw[<-h,fy,fy,oJ,oJ,GC (n9 ha.symm),o8];simp
theorem GD(x:au):∀ys:aa au,(∀y∈ys,blt y x=af)->mrg blt [x] ys=ys++[x]
 |[],_=>nD _
 |y::ys,h=>by
  rw[iI,av (h y (cu ..)),GD x ys λz hz=>h z (b6 _ hz)];rfl
theorem aF2{a:aE au}{x:au}(h:x∈a.toList):∃i,i<a.size/\x=gt a i:=by
 obtain⟨i,hi,e⟩:=mB h;refine⟨i,by simpa using hi,?_⟩;unfold gt;rw[<-e];have hi':i<a.size:=by simpa using hi
 simp[ir,hi']
theorem J.last(h:J blt a b out ia ib)(ha:ia+1=a.size)(q:∀i,i<b.size->blt (gt b i) (gt a ia)=af):(out++b.extract ib b.size++a.extract ia a.size).toList=mrg blt a.toList b.toList:=by
 rw[<-h,fy,fy,oJ,oJ,nC (by lia:ia<a.size),GC (a:=a) (i:=ia+1) (by lia),GD,eh];intro y hy;obtain⟨i,hi,e⟩:=aF2 (yA hy);rw[e];exact q i hi
end
structure Sim(st st':cg):Prop where
 kd:kindOf st'=kindOf st
 ar:am st'=am st
 pd:bn st'=bn st
 fl:fq st'=fq st
section
variable {σ α:Type} {M:ij} {A:bP} {E:ak->ao->Prop} {s:ao} {st:σ} {Q:α->σ->Prop}
theorem wO{m:ja σ eB α}(h:∀Q':α->σ->Prop,(∀c s',Q c s'->Q' c s')->c6 M A E s m Q' st):c6 M A E s m Q st:=h Q λ_ _ x=>x
variable {p q:ja σ eB α}
theorem fV{c:Prop}[oj c](h1:c->c6 M A E s p Q st)(h2:¬c->c6 M A E s q Q st):c6 M A E s (if c then p else q) Q st:=if h:c then (av h).symm▸h1 h else (az h).symm▸h2 h
theorem eG{x y:ah}(h1:x=y->c6 M A E s p Q st)(h2:x≠y->c6 M A E s q Q st):c6 M A E s (if (x==y)=af then p else q) Q st:=fV (λh=>h1 (eq_of_beq h)) λh=>h2 λe=>h (iu.mpr e)
end
section
variable {prog:bu} {w:bo} {A:bP} {E:ak->ao->Prop} {s:ao} {kd:f_} {U:au->Prop} {blt:au->au->aq}
theorem Q0(O:Ord U blt)(hL:W5 prog w A E s kd U blt){a b:aE au}{st:cg}{Q:aE au->cg->Prop}(hk:kindOf st=kd)(hUa:t_ U a)(hUb:t_ U b)(hsa:Srt blt a 0 a.size)(hsb:Srt blt b 0 b.size)
 (ha:0<a.size)(hb:0<b.size)(hf:blt (gt b 0) (gt a 0)=af)(hl:∀i,i<b.size->blt (gt b i) (gt a (a.size-1))=af)
 (h:∀r st',Sim st st'->r.toList=mrg blt a.toList b.toList->Q r st'):c6 (ax prog w) A E s (aD8 a b) Q st:=by
 have lastAt:∀{j:ah},j+1=a.size->∀i,i<b.size->blt (gt b i) (gt a j)=af:=λ{j} hj i hi=>by
  have:=hl i hi;rwa [show a.size-1=j by lia] at this
 with_unfolding_all refine aI (jb (km ⟨rfl,?_⟩))
 refine aI (b7 hb ?_);have J0:J blt a b #[gt b 0] 0 1:=J.pb (out:=#[]) (by unfold J;simp) ha hb hf;have sim0:Sim st st:=⟨rfl,rfl,rfl,rfl⟩
 refine eG (λe=>aT (h _ _ sim0 (J0.W7 e))) λe1=>eG (λe=>aT (h _ _ sim0 (J0.last e (lastAt e)))) λe2=>aI (gr (aI (dw (dy
  (I:=λx c st'=>Sim st st'/\∃out ia ib mg,c=(aj,out,ia,ib,mg)/\J blt a b out ia ib/\ia+1<a.size/\ib<b.size/\x<=ia+ib)
  (Q:=λc st'=>Sim st st'/\∃r,c.1=ae r/\r.toList=mrg blt a.toList b.toList) ?step ?fin ?init) ?post)))
 case init=>exact⟨sim0,_,_,_,_,rfl,J0,by lia,by lia,by lia⟩
 case fin=>
  rintro c st' ⟨_,out,ia,ib,mg,rfl,_,h1,h2,h3⟩;lia
 case post=>
  rintro⟨c1,c2⟩ st' ⟨sim,r,rfl,hr⟩;exact aT (h r st' sim hr)
 case step=>
  rintro x₀ c st1 _ hx0 ⟨sim,out,ia,ib,mg,rfl,j1,h1,h2,h3⟩;refine aI (dw (dy
   (I:=λx c st'=>Sim st st'/\∃out ia ib ac bc,c=(aj,out,ia,ib,ac,bc)/\J blt a b out ia ib/\ia+1<a.size/\ib<b.size/\x₀<=ia+ib/\x<=ia+ib)
   (Q:=λc st'=>Sim st st'/\((∃r,c.1=ae r/\r.toList=mrg blt a.toList b.toList)\/∃out ia ib ac bc,c=(aj,out,ia,ib,ac,bc)/\J blt a b out ia ib/\ia+1<a.size/\ib<b.size/\x₀+1<=ia+ib)) ?step2 ?fin2 ?init2) ?post2)
  case init2=>exact⟨sim,out,ia,ib,_,_,rfl,j1,h1,h2,h3,by lia⟩
  case fin2=>
   rintro c st' ⟨_,out,ia,ib,ac,bc,rfl,_,h1,h2,_,h3⟩;lia
  case step2=>
   rintro x c st2 _ hx ⟨sim,out,ia,ib,ac,bc,rfl,j2,h1,h2,h3,h4⟩;refine wO λQ hQ=>?_
   have hd:∀r d,r.toList=mrg blt a.toList b.toList->Q (.done (ae r,d)) st2:=λr d e=>hQ _ _ ⟨sim,.inl ⟨r,rfl,e⟩⟩
   have hb':∀out ia ib ac bc,J blt a b out ia ib->ia+1<a.size/\ib<b.size/\x₀+1<=ia+ib->Q (.done (aj,out,ia,ib,ac,bc)) st2:=λ_ _ _ _ _ j q=>hQ _ _ ⟨sim,.inr ⟨_,_,_,_,_,rfl,j,q⟩⟩
   have hy:∀out ia ib ac bc,J blt a b out ia ib->ia+1<a.size/\ib<b.size/\x₀<=ia+ib/\x+1<=ia+ib->Q (.yield (aj,out,ia,ib,ac,bc)) st2:=λ_ _ _ _ _ j q=>hQ _ _ ⟨sim,_,_,_,_,_,rfl,j,q⟩
   clear hQ;dsimp only;refine aI (b7 h2 (aI (b7 (i:=ia) (by lia) (aI (hL _ _ _ _ (hUb _ h2) (hUa _ (by lia)) (sim.1.trans hk) ?_)))));refine fV (λq=>aI (b7 h2 ?_)) λq=>aI (b7 (i:=ia) (by lia) ?_)
   ·have j3:=J.pb j2 (by lia) h2 q;exact eG (λe=>aT (hd _ _ (j3.W7 e))) λe=>fV (λ_=>aT (hb' _ _ _ _ _ j3 (by lia))) λ_=>aT (hy _ _ _ _ _ j3 (by lia))
   ·have j3:=J.pa j2 (by lia) h2 (yB q);exact eG (λe=>aT (hd _ _ (j3.last e (lastAt e)))) λe=>fV (λ_=>aT (hb' _ _ _ _ _ j3 (by lia))) λ_=>aT (hy _ _ _ _ _ j3 (by lia))
  case post2=>
   rintro⟨c1,c2⟩ st2 ⟨sim,⟨r,e,hr⟩|⟨out,ia,ib,ac,bc,e,j2,h1,h2,h3⟩⟩
   ·subst e;exact aT ⟨sim,r,rfl,hr⟩
   ·cases e;refine aI (jb (km ⟨rfl,aI (dw (dy
     (I:=λx c st'=>Sim st st'/\∃out ia ib mg ac bc,c=(aj,out,ia,ib,mg,ac,bc)/\J blt a b out ia ib/\ia+1<a.size/\ib<b.size/\x₀+1<=ia+ib/\x<=ia+ib)
     (Q:=λc st'=>Sim st st'/\((∃r,c.1=ae r/\r.toList=mrg blt a.toList b.toList)\/∃out ia ib mg ac bc,c=(aj,out,ia,ib,mg,ac,bc)/\J blt a b out ia ib/\ia+1<a.size/\ib<b.size/\x₀+1<=ia+ib)) ?step3 ?fin3 ?init3) ?post3)⟩))
    case init3=>exact⟨sim,out,ia,ib,_,_,_,rfl,j2,h1,h2,h3,by lia⟩
    case fin3=>
     rintro c st' ⟨_,out,ia,ib,mg,ac,bc,rfl,_,h1,h2,_,h3⟩;lia
    case post3=>
     rintro⟨c1,c2⟩ st3 ⟨sim,⟨r,e,hr⟩|⟨out,ia,ib,mg,ac,bc,e,j3,h1,h2,h3⟩⟩
     ·subst e;exact aT ⟨sim,r,rfl,hr⟩
     ·cases e;refine aI (oH (aT ⟨⟨sim.1,sim.2,sim.3,sim.4⟩,_,_,_,_,rfl,j3,h1,h2,by lia⟩))
    case step3=>
     rintro x c st3 _ hx ⟨sim,out,ia,ib,mg,ac,bc,rfl,j3,h1,h2,h3,h4⟩;refine wO λQ hQ=>?_
     have hd:∀r d st',Sim st st'->r.toList=mrg blt a.toList b.toList->Q (.done (ae r,d)) st':=λr d st' m e=>hQ _ _ ⟨m,.inl ⟨r,rfl,e⟩⟩
     have hb':∀out ia ib mg ac bc st',Sim st st'->J blt a b out ia ib->ia+1<a.size/\ib<b.size/\x₀+1<=ia+ib->Q (.done (aj,out,ia,ib,mg,ac,bc)) st':=λ_ _ _ _ _ _ _ m j q=>hQ _ _ ⟨m,.inr ⟨_,_,_,_,_,_,rfl,j,q⟩⟩
     have hy:∀out ia ib mg ac bc st',Sim st st'->J blt a b out ia ib->ia+1<a.size/\ib<b.size/\x₀+1<=ia+ib/\x+1<=ia+ib->Q (.yield (aj,out,ia,ib,mg,ac,bc)) st':=λ_ _ _ _ _ _ _ m j q=>hQ _ _ ⟨m,_,_,_,_,_,_,rfl,j,q⟩
     clear hQ
     extract_lets -underBinder s0 o1 s1 a1 s2 b1 s3 m1 s4 c1 d1 jp m2
     have K1:∀m,c6 (ax prog w) A E s (jp () m) Q st3:=λm=>by
      dsimp -zeta only [jp,s0,o1,s1,a1,s2,b1,s3,m1,s4,c1,d1];refine aI (oH ?_);have sim':Sim st (mr (kindOf st3) (am st3) (bn st3) m (fq st3)):=⟨sim.1,sim.2,sim.3,sim.4⟩
      generalize mr (kindOf st3) (am st3) (bn st3) m (fq st3)=st4 at sim' ⊢;have hk':=sim'.1.trans hk;refine aI (b7 (by lia) (aI (uY O hL hk' (by lia) hUa (hUb _ (by lia)) (λi j i1 i2 i3=>hsa i j (by lia) i2 (by lia)) (by lia) λk hk1 y1 y2=>?_)));dsimp -zeta only
      extract_lets -underBinder n1 jp2 n2 n3
      have K2:∀out ia,J blt a b out ia ib->ia+1<a.size->x₀+1<=ia+ib->x<=ia+ib->blt (gt b ib) (gt a ia)=af->c6 (ax prog w) A E s (jp2 () out ia) Q st4:=λout ia j1 h1 h3 h4 hz=>by
       dsimp -zeta only [jp2];refine aI (b7 h2 ?_);have j2:=J.pb j1 (by lia) h2 hz;refine eG (λe=>aT (hd _ _ _ sim' (j2.W7 e))) λe=>aI (b7 (by lia) (aI (uY O hL hk' (by lia) hUb (hUa _ (by lia)) (λi j i1 i2 i3=>hsb i j (by lia) i2 (by lia)) (by lia) λk1 hk1 y1 y2=>?_)))
       dsimp -zeta only
       extract_lets -underBinder n1 jp3 n2 n3
       have K3:∀out ib',J blt a b out ia ib'->ib'<b.size->ib<=ib'->blt (gt b ib') (gt a ia)=ag->c6 (ax prog w) A E s (jp3 () out ib') Q st4:=λout ib' j3 h2 h5 hz=>by
        dsimp -zeta only [jp3];refine aI (b7 (by lia) ?_);have j4:=J.pa j3 (by lia) h2 hz;refine eG (λe=>aT (hd _ _ _ sim' (j4.last e (lastAt e)))) λe=>fV (λ_=>aT (hb' _ _ _ _ _ _ _ sim' j4 (by lia))) λ_=>aT (hy _ _ _ _ _ _ _ sim' j4 (by lia))
       refine fV (λkp=>eG (λe3=>aT (hd _ _ _ sim' ((J.gb j2 (by lia) k1 (by lia) λi hi=>by have:=y1 i hi;simpa[gp] using this).W7 e3))) λe3=>K3 _ _ (J.gb j2 (by lia) k1 (by lia) λi hi=>by have:=y1 i hi;simpa[gp] using this) (by lia) (by lia) (by have:=y2 k1 (bi _) (by lia);simpa[gp] using this)) λkp=>K3 _ _ j2 (by lia) (by lia) (by have:=y2 0 (by lia) (by lia);simpa[gp] using this)
      have j5:∀i,i<k->blt (gt b ib) (gt a (ia+i))=ag:=λi hi=>by have:=y1 i hi;simpa[gp] using this
      refine fV (λkp=>?_) λkp=>K2 _ _ j3 h1 h3 h4 (by have:=y2 0 (by lia) (by lia);simpa[gp] using this)
      have j1:=J.ga j3 h2 k (by lia) j5;refine eG (λe=>aT (hd _ _ _ sim' (j1.last e (lastAt e)))) λe=>eG (λe=>aT (hd _ _ _ sim' (j1.W8 e))) λe'=>K2 _ _ j1 (by lia) (by lia) (by lia) (by have:=y2 k (bi _) (by lia);simpa[gp] using this)
     exact fV (λ_=>K1 _) λ_=>K1 _
end
section
variable {blt:au->au->aq}
theorem Q3{a:aE au}{n:ah}(h:n<a.size):a.toList.take (n+1)=a.toList.take n++[gt a n]:=by
 rw[oi];have:a.toList[n]?=ae (gt a n):=by rw[gX];exact nA h
 rw[this];rfl
theorem xR{a:aE au}{n:ah}{z:au}(h:z∈a.toList.take n):∃i,i<n/\i<a.size/\z=gt a i:= by
  obtain⟨i,hi,e⟩:= mB h;rw[gS] at hi;have h2:i<a.size:= by simpa using (show i<a.toList.length by lia)
  refine⟨i,by lia,h2,?_⟩;rw[<-e,List.getElem_take];unfold gt;simp[ir,h2]
theorem xT(x:au):∀(xs zs:aa au),(∀z∈zs,blt z x=af)->mrg blt (xs++[x]) zs=mrg blt xs zs++[x]
 |[],zs,h=>by rw[gd,GD x zs h,o8]
 |x0::xs,[],_=>by rw[nD,nD]
 |x0::xs,z::zs,h=>by
  rw[ek,iI,iI];by_cases q:blt z x0=af
  ·rw[av q,av q,<-ek,xT x (x0::xs) zs λy hy=>h y (b6 _ hy)];rfl
  ·rw[az q,az q,xT x xs (z::zs) h];rfl
 termination_by xs zs=>xs.length+zs.length
theorem K6(y:au):∀zs:aa au,(∀z∈zs,blt y z=ag)->mrg blt zs [y]=zs++[y]
 |[],_=>o8 _
 |z::zs,h=>by
  rw[iI,az (by simp[h z (cu ..)]),K6 y zs λu hu=>h u (b6 _ hu)];rfl
theorem xU(y:au):∀(zs ys:aa au),(∀z∈zs,blt y z=ag)->mrg blt zs (ys++[y])=mrg blt zs ys++[y]
 |zs,[],h=>by rw[gd,K6 y zs h,nD]
 |[],y0::ys,_=>by rw[o8,o8]
 |z::zs,y0::ys,h=>by
  rw[ek,iI,iI];by_cases q:blt y0 z=af
  ·rw[av q,av q,xU y (z::zs) ys h];rfl
  ·rw[az q,az q,<-ek,xU y zs (y0::ys) λu hu=>h u (b6 _ hu)];rfl
 termination_by zs ys=>zs.length+ys.length
def JH(blt:au->au->aq)(a b:aE au)(out:aE au)(na nb:ah):Prop:=
 mrg blt (a.toList.take na) (b.toList.take nb)++out.toList.reverse=mrg blt a.toList b.toList
variable {a b out:aE au} {na nb:ah}
theorem JH.pa(h:JH blt a b out na nb)(ha:0<na)(h1:na<=a.size)(h2:nb<=b.size)(q:∀i,i<nb->blt (gt b i) (gt a (na-1))=af):JH blt a b (out.push (gt a (na-1))) (na-1) nb:=by
 unfold JH at h ⊢;obtain⟨n,rfl⟩:∃n,na=n+1:=⟨na-1,by lia⟩
 rw[Q3 (by lia),xT _ _ _ (λz hz=>by obtain⟨i,i1,i2,rfl⟩:=xR hz;exact q i i1)] at h;rw[<-h];simp
theorem JH.pb(h:JH blt a b out na nb)(hb:0<nb)(h1:na<=a.size)(h2:nb<=b.size)(q:∀i,i<na->blt (gt b (nb-1)) (gt a i)=ag):JH blt a b (out.push (gt b (nb-1))) na (nb-1):=by
 unfold JH at h ⊢;obtain⟨n,rfl⟩:∃n,nb=n+1:=⟨nb-1,by lia⟩
 rw[Q3 (by lia),xU _ _ _ (λz hz=>by obtain⟨i,i1,i2,rfl⟩:=xR hz;exact q i i1)] at h;rw[<-h];simp
theorem Z6{a:aE au}{i n:ah}(h:i<n)(hn:n<=a.size)(out:aE au):out++(a.extract i n).reverse=(out.push (gt a (n-1)))++(a.extract i (n-1)).reverse:=by
 apply kT.mp;simp only[fy,ol,mv,mw,kU];obtain⟨m,rfl⟩:∃m,n=m+1:=⟨n-1,by lia⟩
 rw[show m+1-i=(m-i)+1 by lia,oi,my,show i+(m-i)=m by lia];have:a.toList[m]?=ae (gt a m):=by rw[gX];exact nA (by lia)
 rw[this];simp
theorem wQ{a:aE au}{i:ah}(out:aE au):out++(a.extract i i).reverse=out:=by
 apply kT.mp;simp
theorem JH.ga:∀{na:ah}{out:aE au},JH blt a b out na nb->na<=a.size->nb<=b.size->∀at_,at_<=na->(∀i,at_<=i->i<na->∀z,z<nb->blt (gt b z) (gt a i)=af)->JH blt a b (out++(a.extract at_ na).reverse) at_ nb
 |0,out,h,_,_,at_,h0,_=>by
  obtain rfl:at_=0:=by lia
  rw[wQ];exact h
 |n+1,out,h,h1,h2,at_,h0,q=>by
  by_cases e:at_=n+1
  ·subst e;rw[wQ];exact h
  ·rw[Z6 (by lia) h1];exact JH.ga (na:=n) (JH.pa h (by lia) h1 h2 (q n (by lia) (by lia))) (by lia) h2 at_ (by lia) λi i1 i2=>q i i1 (by lia)
theorem JH.gb:∀{nb:ah}{out:aE au},JH blt a b out na nb->na<=a.size->nb<=b.size->∀at_,at_<=nb->(∀i,at_<=i->i<nb->∀z,z<na->blt (gt b i) (gt a z)=ag)->JH blt a b (out++(b.extract at_ nb).reverse) na at_
 |0,out,h,_,_,at_,h0,_=>by
  obtain rfl:at_=0:=by lia
  rw[wQ];exact h
 |n+1,out,h,h1,h2,at_,h0,q=>by
  by_cases e:at_=n+1
  ·subst e;rw[wQ];exact h
  ·rw[Z6 (by lia) h2];exact JH.gb (nb:=n) (JH.pb h (by lia) h1 h2 (q n (by lia) (by lia))) h1 (by lia) at_ (by lia) λi i1 i2=>q i i1 (by lia)
theorem oK(a:aE au)(n:ah):(a.extract 0 n).toList=a.toList.take n:=by
 simp[mv,mw]
theorem JH.W8(h:JH blt a b out na nb)(e:na=0):(a.extract 0 na++b.extract 0 nb++out.reverse).toList=mrg blt a.toList b.toList:=by
 subst e;rw[<-h,fy,fy,oK,oK,ol,yT,o8];rfl
theorem JH.W7(h:JH blt a b out na nb)(e:nb=0):(a.extract 0 na++b.extract 0 nb++out.reverse).toList=mrg blt a.toList b.toList:=by
 subst e;rw[<-h,fy,fy,oK,oK,ol,yT,nD,fS]
theorem JH.first(h:JH blt a b out na nb)(e:nb=1)(ha:0<a.size)(hb:0<b.size)(hf:blt (gt b 0) (gt a 0)=af)(hn:0<na):(b.extract 0 nb++a.extract 0 na++out.reverse).toList=mrg blt a.toList b.toList:=by
 subst e;rw[<-h,fy,fy,oK,oK,ol];have e1:b.toList.take 1=[gt b 0]:=by rw[Q3 (a:=b) (n:=0) hb];rfl
 obtain⟨m,rfl⟩:∃m,na=m+1:=⟨na-1,by lia⟩
 have e2:a.toList.take (m+1)=gt a 0::(a.toList.drop 1).take m:=by
  have:=nC (a:=a) (i:=0) ha;rw[yY] at this;rw[this];rfl
 rw[e1,e2,iI,av hf,nD];rfl
variable {U:au->Prop}
theorem leA(O:Ord U blt)(hUa:t_ U a)(hUb:t_ U b)(hsa:Srt blt a 0 a.size){n i z:ah}(hn:n<=a.size)(hi:i<b.size)(hz:z<n)(q:blt (gt b i) (gt a (n-1))=ag):blt (gt b i) (gt a z)=ag:=by
 cases e:blt (gt b i) (gt a z) with
 |false=>rfl
 |true=>
  rcases O.ntr _ (gt a (n-1)) _ (hUb i hi) (hUa _ (by lia)) (hUa z (by lia)) e with p|p
  ·rw[q] at p;cases p
  ·rw[hsa z (n-1) (by lia) (by lia) (by lia)] at p;cases p
theorem aN5(O:Ord U blt)(hUa:t_ U a)(hUb:t_ U b)(hsb:Srt blt b 0 b.size){n i z:ah}(hn:n<=b.size)(hi:i<a.size)(hz:z<n)(q:blt (gt b (n-1)) (gt a i)=af):blt (gt b z) (gt a i)=af:=by
 rcases O.ntr _ (gt b z) _ (hUb (n-1) (by lia)) (hUb z (by lia)) (hUa i hi) q with p|p
 ·rw[hsb z (n-1) (by lia) (by lia) (by lia)] at p;cases p
 ·exact p
end
section
variable {prog:bu} {w:bo} {A:bP} {E:ak->ao->Prop} {s:ao} {kd:f_} {U:au->Prop} {blt:au->au->aq}
theorem Q4(O:Ord U blt)(hL:W5 prog w A E s kd U blt){a b:aE au}{st:cg}{Q:aE au->cg->Prop}(hk:kindOf st=kd)(hUa:t_ U a)(hUb:t_ U b)(hsa:Srt blt a 0 a.size)(hsb:Srt blt b 0 b.size)
 (ha:0<a.size)(hb:0<b.size)(hf:blt (gt b 0) (gt a 0)=af)(hl:∀i,i<b.size->blt (gt b i) (gt a (a.size-1))=af)
 (h:∀r st',Sim st st'->r.toList=mrg blt a.toList b.toList->Q r st'):c6 (ax prog w) A E s (aD9 a b) Q st:=by
 with_unfolding_all refine aI (jb (km ⟨rfl,?_⟩))
 refine aI (b7 (by lia) ?_);have J0:JH blt a b #[gt a (a.size-1)] (a.size-1) b.size:=JH.pa (out:=#[]) (na:=a.size) (by unfold JH;simp[mz]) ha (bi _) (bi _) hl;have sim0:Sim st st:=⟨rfl,rfl,rfl,rfl⟩
 refine eG (λe=>aT (h _ _ sim0 (J0.W8 e))) λe1=>eG (λe=>aT (h _ _ sim0 (J0.first e ha hb hf (by lia)))) λe2=>aI (gr (aI (dw (dy
  (I:=λx c st'=>Sim st st'/\∃out na nb mg,c=(aj,na,nb,out,mg)/\JH blt a b out na nb/\0<na/\1<nb/\na<a.size/\nb<=b.size/\x+na+nb<=a.size+b.size)
  (Q:=λc st'=>Sim st st'/\∃r,c.1=ae r/\r.toList=mrg blt a.toList b.toList) ?step ?fin ?init) ?post)))
 case init=>exact⟨sim0,_,_,_,_,rfl,J0,by lia,by lia,by lia,by lia,by lia⟩
 case fin=>
  rintro c st' ⟨_,out,na,nb,mg,rfl,_,h1,h2,h3,h4,h5⟩;lia
 case post=>
  rintro⟨c1,c2⟩ st' ⟨sim,r,rfl,hr⟩;exact aT (h r st' sim hr)
 case step=>
  rintro x₀ c st1 _ hx0 ⟨sim,out,na,nb,mg,rfl,j1,h1,h2,h3,h4,h5⟩;dsimp -zeta only;refine aI (dw (dy
   (I:=λx c st'=>Sim st st'/\∃out na nb ac bc,c=(aj,na,nb,out,ac,bc)/\JH blt a b out na nb/\0<na/\1<nb/\na<a.size/\nb<=b.size/\x₀+na+nb<=a.size+b.size/\x+na+nb<=a.size+b.size)
   (Q:=λc st'=>Sim st st'/\((∃r,c.1=ae r/\r.toList=mrg blt a.toList b.toList)\/∃out na nb ac bc,c=(aj,na,nb,out,ac,bc)/\JH blt a b out na nb/\0<na/\1<nb/\na<a.size/\nb<=b.size/\x₀+1+na+nb<=a.size+b.size)) ?step2 ?fin2 ?init2) ?post2)
  case init2=>exact⟨sim,out,na,nb,_,_,rfl,j1,h1,h2,h3,h4,h5,by lia⟩
  case fin2=>
   rintro c st' ⟨_,out,na,nb,ac,bc,rfl,_,h1,h2,h3,h4,_,h5⟩;lia
  case step2=>
   rintro x c st2 _ hx ⟨sim,out,na,nb,ac,bc,rfl,j2,h1,h2,h3,h4,h5,h6⟩;refine wO λQ hQ=>?_
   have hd:∀r d,r.toList=mrg blt a.toList b.toList->Q (.done (ae r,d)) st2:=λr d e=>hQ _ _ ⟨sim,.inl ⟨r,rfl,e⟩⟩
   have hb':∀out na nb ac bc,JH blt a b out na nb->0<na/\1<nb/\na<a.size/\nb<=b.size/\x₀+1+na+nb<=a.size+b.size->Q (.done (aj,na,nb,out,ac,bc)) st2:=λ_ _ _ _ _ j q=>hQ _ _ ⟨sim,.inr ⟨_,_,_,_,_,rfl,j,q⟩⟩
   have hy:∀out na nb ac bc,JH blt a b out na nb->0<na/\1<nb/\na<a.size/\nb<=b.size/\x₀+na+nb<=a.size+b.size/\x+1+na+nb<=a.size+b.size->Q (.yield (aj,na,nb,out,ac,bc)) st2:=λ_ _ _ _ _ j q=>hQ _ _ ⟨sim,_,_,_,_,_,rfl,j,q⟩
   clear hQ;dsimp only;refine aI (b7 (i:=nb-1) (by lia) (aI (b7 (i:=na-1) (by lia) (aI (hL _ _ _ _ (hUb _ (by lia)) (hUa _ (by lia)) (sim.1.trans hk) ?_)))));refine fV (λq=>aI (b7 (i:=na-1) (by lia) ?_)) λq=>aI (b7 (i:=nb-1) (by lia) ?_)
   ·have j3:=JH.pa j2 (by lia) (by lia) h4 (λi hi=>aN5 O hUa hUb hsb h4 (by lia) hi q);exact eG (λe=>aT (hd _ _ (j3.W8 e))) λe=>fV (λ_=>aT (hb' _ _ _ _ _ j3 (by lia))) λ_=>aT (hy _ _ _ _ _ j3 (by lia))
   ·have j3:=JH.pb j2 (by lia) (by lia) h4 (λi hi=>leA O hUa hUb hsa (by lia) (by lia) hi (yB q));exact eG (λe=>aT (hd _ _ (j3.first e ha hb hf (by lia)))) λe=>fV (λ_=>aT (hb' _ _ _ _ _ j3 (by lia))) λ_=>aT (hy _ _ _ _ _ j3 (by lia))
  case post2=>
   rintro⟨c1,c2⟩ st2 ⟨sim,⟨r,rfl,hr⟩|⟨out,na,nb,ac,bc,e,j2,h1,h2,h3,h4,h5⟩⟩
   ·exact aT ⟨sim,r,rfl,hr⟩
   ·cases e;dsimp -zeta only;refine aI (jb (km ⟨rfl,aI (dw (dy
     (I:=λx c st'=>Sim st st'/\∃out na nb mg ac bc,c=(aj,na,nb,out,mg,ac,bc)/\JH blt a b out na nb/\0<na/\1<nb/\na<a.size/\nb<=b.size/\x₀+1+na+nb<=a.size+b.size/\x+na+nb<=a.size+b.size)
     (Q:=λc st'=>Sim st st'/\((∃r,c.1=ae r/\r.toList=mrg blt a.toList b.toList)\/∃out na nb mg ac bc,c=(aj,na,nb,out,mg,ac,bc)/\JH blt a b out na nb/\0<na/\1<nb/\na<a.size/\nb<=b.size/\x₀+1+na+nb<=a.size+b.size)) ?step3 ?fin3 ?init3) ?post3)⟩))
    case init3=>exact⟨sim,out,na,nb,_,_,_,rfl,j2,h1,h2,h3,h4,h5,by lia⟩
    case fin3=>
     rintro c st' ⟨_,out,na,nb,mg,ac,bc,rfl,_,h1,h2,h3,h4,_,h5⟩;lia
    case post3=>
     rintro⟨c1,c2⟩ st3 ⟨sim,⟨r,rfl,hr⟩|⟨out,na,nb,mg,ac,bc,e,j3,h1,h2,h3,h4,h5⟩⟩
     ·exact aT ⟨sim,r,rfl,hr⟩
     ·cases e;exact aI (oH (aT ⟨⟨sim.1,sim.2,sim.3,sim.4⟩,_,_,_,_,rfl,j3,h1,h2,h3,h4,by lia⟩))
    case step3=>
     rintro x c st3 _ hx ⟨sim,out,na,nb,mg,ac,bc,rfl,j3,h1,h2,h3,h4,h5,h6⟩;refine wO λQ hQ=>?_
     have hd:∀r d st',Sim st st'->r.toList=mrg blt a.toList b.toList->Q (.done (ae r,d)) st':=λr d _ m e=>hQ _ _ ⟨m,.inl ⟨r,rfl,e⟩⟩
     have hb':∀out na nb mg ac bc st',Sim st st'->JH blt a b out na nb->0<na/\1<nb/\na<a.size/\nb<=b.size/\x₀+1+na+nb<=a.size+b.size->Q (.done (aj,na,nb,out,mg,ac,bc)) st':=λ_ _ _ _ _ _ _ m j q=>hQ _ _ ⟨m,.inr ⟨_,_,_,_,_,_,rfl,j,q⟩⟩
     have hy:∀out na nb mg ac bc st',Sim st st'->JH blt a b out na nb->0<na/\1<nb/\na<a.size/\nb<=b.size/\x₀+1+na+nb<=a.size+b.size/\x+1+na+nb<=a.size+b.size->Q (.yield (aj,na,nb,out,mg,ac,bc)) st':=λ_ _ _ _ _ _ _ m j q=>hQ _ _ ⟨m,_,_,_,_,_,_,rfl,j,q⟩
     clear hQ
     extract_lets -underBinder s0 o1 s1 a1 s2 b1 s3 m1 s4 c1 d1 jp m2
     have K1:∀m,c6 (ax prog w) A E s (jp () m) Q st3:=λm=>by
      dsimp -zeta only [jp,s0,o1,s1,a1,s2,b1,s3,m1,s4,c1,d1];refine aI (oH ?_);have sim':Sim st (mr (kindOf st3) (am st3) (bn st3) m (fq st3)):=⟨sim.1,sim.2,sim.3,sim.4⟩
      generalize mr (kindOf st3) (am st3) (bn st3) m (fq st3)=st4 at sim' ⊢;have hk':=sim'.1.trans hk;refine aI (b7 (by lia) (aI (uY O hL hk' (by lia) hUa (hUb _ (by lia)) (λi j i1 i2 i3=>hsa i j (by lia) i2 (by lia)) (by lia) λat_ hk1 y1 y2=>?_)));dsimp -zeta only;have y1':∀i,i<at_->blt (gt b (nb-1)) (gt a i)=ag:=λi hi=>by have:=y1 i hi;simpa[gp] using this
      have y2':∀i,at_<=i->i<na->blt (gt b (nb-1)) (gt a i)=af:=λi i1 i2=>by have:=y2 i i1 i2;simpa[gp] using this
      clear y1 y2
      extract_lets -underBinder n1 n2 jp2 n3
      have K2:∀na out,JH blt a b out na nb->0<na->na<a.size->x₀+1+na+nb<=a.size+b.size->x+na+nb<=a.size+b.size->(∀z,z<na->blt (gt b (nb-1)) (gt a z)=ag)->c6 (ax prog w) A E s (jp2 () na out) Q st4:=λna out j1 h1 h3 h5 h6 hz=>by
       dsimp -zeta only [jp2];refine aI (b7 (by lia) ?_);have j2:=JH.pb j1 (by lia) (by lia) (by lia) hz;refine eG (λe=>aT (hd _ _ _ sim' (j2.first e ha hb hf (by lia)))) λe=>aI (b7 (by lia) (aI (uY O hL hk' (by lia) hUb (hUa _ (by lia)) (λi j i1 i2 i3=>hsb i j (by lia) i2 (by lia)) (by lia) λk1 hk1 y1 y2=>?_)))
       dsimp -zeta only;have y1':∀i,i<k1->blt (gt b i) (gt a (na-1))=af:=λi hi=>by have:=y1 i hi;simpa[gp] using this
       have y2':∀i,k1<=i->i<nb-1->blt (gt b i) (gt a (na-1))=ag:=λi i1 i2=>by have:=y2 i i1 i2;simpa[gp] using this
       clear y1 y2
       extract_lets -underBinder n1 n2 jp3 n3
       have K3:∀nb' out,JH blt a b out na nb'->1<nb'->nb'<nb->(∀z,z<nb'->blt (gt b z) (gt a (na-1))=af)->c6 (ax prog w) A E s (jp3 () nb' out) Q st4:=λnb' out j3 q1 q2 hz=>by
        dsimp -zeta only [jp3];refine aI (b7 (by lia) ?_);have j4:=JH.pa j3 (by lia) (by lia) (by lia) hz;exact eG (λe=>aT (hd _ _ _ sim' (j4.W8 e))) λe=>fV (λ_=>aT (hb' _ _ _ _ _ _ _ sim' j4 (by lia))) λ_=>aT (hy _ _ _ _ _ _ _ sim' j4 (by lia))
       refine fV (λkp=>?_) λkp=>K3 _ _ j2 (by lia) (by lia) λz hz=>y1' z (by lia)
       have j3:=JH.gb j2 (by lia) (by lia) k1 (by lia) (λi i1 i2 z hz=>leA O hUa hUb hsa (by lia) (by lia) hz (y2' i i1 i2));exact eG (λe=>aT (hd _ _ _ sim' (j3.first e ha hb hf (by lia)))) λe=>eG (λe=>aT (hd _ _ _ sim' (j3.W7 e))) λe'=>K3 _ _ j3 (by lia) (by lia) y1'
      refine fV (λkp=>?_) λkp=>K2 _ _ j3 h1 h3 h5 h6 λz hz=>y1' z (by lia)
      have j1:=JH.ga j3 (by lia) (by lia) at_ (by lia) (λi i1 i2 z hz=>aN5 O hUa hUb hsb (by lia) (by lia) hz (y2' i i1 i2));exact eG (λe=>aT (hd _ _ _ sim' (j1.W8 e))) λe=>K2 _ _ j1 (by lia) (by lia) (by lia) (by lia) y1'
     exact fV (λ_=>K1 _) λ_=>K1 _
end
section
variable {blt:au->au->aq} {U:au->Prop}
def SL(blt:au->au->aq)(l:aa au):Prop:=l.Pairwise λu v=>blt v u=ag
theorem GF(xs ys:aa au):(mrg blt xs ys).Perm (xs++ys):=List.merge_perm_append _
theorem Q5{xs ys:aa au}{z:au}:z∈mrg blt xs ys↔z∈xs\/z∈ys:=by
 rw[(GF xs ys).mem_iff,eJ]
theorem Ord.le_trans(O:Ord U blt){x y z:au}(hx:U x)(hy:U y)(hz:U z)(h1:blt y x=ag)(h2:blt z y=ag):blt z x=ag:=by
 cases e:blt z x with
 |false=>rfl
 |true=>
  rcases O.ntr _ y _ hz hy hx e with p|p
  ·rw[h2] at p;cases p
  ·rw[h1] at p;cases p
theorem Ord.aCo(O:Ord U blt){x y:au}(hx:U x)(hy:U y)(h:blt x y=af):blt y x=ag:=by
 cases e:blt y x with
 |false=>rfl
 |true=>
  have:=O.tr _ _ _ hx hy hx h e;rw[O.irr x hx] at this;cases this
theorem Z7(O:Ord U blt):∀(xs ys:aa au),(∀z∈xs,U z)->(∀z∈ys,U z)->SL blt xs->SL blt ys->SL blt (mrg blt xs ys)
 |[],ys,_,_,_,h=>by rw[o8];exact h
 |x::xs,[],_,_,h,_=>by rw[nD];exact h
 |x::xs,y::ys,ux,uy,sx,sy=>by
  rw[iI];have ux0:=ux x (cu ..);have uy0:=uy y (cu ..);have sx':=om.mp sx;have sy':=om.mp sy;by_cases q:blt y x=af
  ·rw[av q];refine om.mpr ⟨λz hz=>?_,Z7 O (x::xs) ys ux (λz hz=>uy z (b6 _ hz)) sx sy'.2⟩;rcases Q5.mp hz with hz|hz
   ·rcases bX.mp hz with rfl|hz
    ·exact O.aCo uy0 ux0 q
    ·exact O.le_trans uy0 ux0 (ux z (b6 _ hz)) (O.aCo uy0 ux0 q) (sx'.1 z hz)
   ·exact sy'.1 z hz
  ·rw[az q];have q':blt y x=ag:=by simpa using q
   refine om.mpr ⟨λz hz=>?_,Z7 O xs (y::ys) (λz hz=>ux z (b6 _ hz)) uy sx'.2 sy⟩;rcases Q5.mp hz with hz|hz
   ·exact sx'.1 z hz
   ·rcases bX.mp hz with rfl|hz
    ·exact q'
    ·exact O.le_trans ux0 uy0 (uy z (b6 _ hz)) q' (sy'.1 z hz)
 termination_by xs ys=>xs.length+ys.length
noncomputable def str(a:aE au)(lo n:ah):aa au:=(a.toList.drop lo).take n
theorem lM{a:aE au}{lo n i:ah}(hi:i<n)(h:lo+n<=a.size):(str a lo n)[i]?=ae (gt a (lo+i)):=by
 unfold str;rw[nz hi,my,gX];exact nA (by lia)
theorem str_len{a:aE au}{lo n:ah}(h:lo+n<=a.size):(str a lo n).length=n:=by
 unfold str;rw[gS,kM,gj];lia
theorem Srt.sl{a:aE au}{lo n:ah}(h:Srt blt a lo (lo+n))(hn:lo+n<=a.size):SL blt (str a lo n):=by
 unfold SL;rw[vm];intro i j hi hj hij;rw[str_len hn] at hi hj;have e1:=lM (a:=a) (lo:=lo) hi hn;have e2:=lM (a:=a) (lo:=lo) hj hn;rw[dP (by rw[str_len hn];exact hi)] at e1;rw[dP (by rw[str_len hn];exact hj)] at e2;rw[cz e1,cz e2];exact h _ _ (by lia) (by lia) (by lia)
theorem SL.srt{a:aE au}{lo n:ah}(O:Ord U blt)(hU:t_ U a)(h:SL blt (str a lo n))(hn:lo+n<=a.size):Srt blt a lo (lo+n):=by
 intro i j h1 h2 h3;by_cases e:i=j
 ·subst e;exact O.irr _ (hU _ (by lia))
 ·unfold SL at h;rw[vm] at h;have q:=h (i-lo) (j-lo) (by rw[str_len hn];lia) (by rw[str_len hn];lia) (by lia);have e1:=lM (a:=a) (lo:=lo) (i:=i-lo) (n:=n) (by lia) hn;have e2:=lM (a:=a) (lo:=lo) (i:=j-lo) (n:=n) (by lia) hn;rw[dP (by rw[str_len hn];lia)] at e1 e2;rw[cz e1,cz e2,show lo+(i-lo)=i by lia,show lo+(j-lo)=j by lia] at q;exact q
theorem Q6(a:aE au)(lo m n:ah):str a lo (m+n)=str a lo m++str a (lo+m) n:=by
 unfold str;rw[List.take_add,za]
theorem GJ{a:aE au}{lo n:ah}{z:au}(h:z∈str a lo n):∃i,lo<=i/\i<lo+n/\i<a.size/\z=gt a i:=by
 obtain⟨i,hi,e⟩:=mB h;unfold str at hi;rw[gS,kM,gj] at hi;refine⟨lo+i,by lia,by lia,by lia,?_⟩;have h2:(str a lo n)[i]?=ae z:=by rw[<-e];exact dP _
 unfold str at h2;rw[nz (by lia),my,gX,nA (by lia)] at h2;exact(cz h2).symm
theorem Z8(a:aE au)(i j:ah):(a.extract i j).toList=str a i (j-i):=by
 unfold str;rw[mv,mw]
noncomputable def put(a:aE au)(off:ah)(l:aa au):aE au:=l.zipIdx.foldl (λa (p,j)=>a.setIfInBounds (off+j) p) a
theorem aF3(off:ah):∀(l:aa au)(k:ah)(a:aE au),off+k+l.length<=a.size->
  ((l.zipIdx k).foldl (λa (p,j)=>a.setIfInBounds (off+j) p) a).toList=a.toList.take (off+k)++l++a.toList.drop (off+k+l.length)
 |[],k,a,_=>by simp
 |x::l,k,a,h=>by
  rw[List.zipIdx_cons,oq];rw[cr] at h;rw[aF3 off l (k+1) _ (by rw[zb];lia)];rw[zc];have e1:(a.toList.set (off+k) x).take (off+(k+1))=a.toList.take (off+k)++[x]:=by
   rw[show off+(k+1)=(off+k)+1 by lia,oi,List.take_set_of_le (bi _),fi (by rw[gj];lia)];rfl
  have e2:(a.toList.set (off+k) x).drop (off+(k+1)+l.length)=a.toList.drop (off+k+(x::l).length):=by
   rw[List.drop_set_of_lt (by lia),cr]
   congr 1
   lia
  rw[e1,e2];simp
theorem GK{a:aE au}{off:ah}{l:aa au}(h:off+l.length<=a.size):(put a off l).toList=a.toList.take off++l++a.toList.drop (off+l.length):=by
 have:=aF3 off l 0 a (by lia);rw[vn] at this;exact this
theorem Q7{a:aE au}{i:ah}:gt a i=a.toList.getD i dk:=by
 unfold gt;by_cases h:i<a.size
 ·simp[ir,h]
 ·simp[ir,h]
structure Stp(lo hi:ah)(st st':cg):Prop where
 kd:kindOf st'=kindOf st
 fl:fq st'=fq st
 pm:(am st').Perm (am st)
 out:∀j,j<lo\/hi<=j->gt (am st') j=gt (am st) j
theorem Stp.sz{lo hi:ah}{st st':cg}(h:Stp lo hi st st'):(am st').size=(am st).size:=h.pm.size_eq
theorem bJ{a b:aE au}(hU:t_ U a)(p:b.Perm a):t_ U b:=λi hi=>by
 have:gt b i∈b.toList:=by
  rw[Q7,dh,dP (by simpa using hi)];exact jc _
 obtain⟨j,hj,e⟩:=aF2 ((vo.mp p).mem_iff.mp this);rw[e];exact hU j hj
theorem Srt.mono{a:aE au}{lo hi lo' hi':ah}(h:Srt blt a lo hi)(h1:lo<=lo')(h2:hi'<=hi):Srt blt a lo' hi':=λi j a1 a2 a3=>h i j (by lia) a2 (by lia)
theorem Srt.out{a b:aE au}{lo hi:ah}(h:Srt blt a lo hi)(e:∀j,lo<=j->j<hi->gt b j=gt a j):Srt blt b lo hi:=λi j a1 a2 a3=>by
 rw[e i (by lia) (by lia),e j (by lia) a3];exact h i j a1 a2 a3
theorem W9(a:aE au)(i m n:ah):a.toList=a.toList.take i++(str a i m++str a (i+m) n)++a.toList.drop (i+(m+n)):=by
 rw[<-Q6];unfold str;rw[eh,<-za,jd,jd]
theorem aGg{a:aE au}{off:ah}{l:aa au}(h:off+l.length<=a.size):str (put a off l) off l.length=l:=by
 unfold str;rw[GK h,eh,List.drop_left' (by rw[gS,gj];lia),List.take_left' rfl]
theorem xV{a:aE au}{off:ah}{l:aa au}(h:off+l.length<=a.size){j:ah}(hj:j<off\/off+l.length<=j):gt (put a off l) j=gt a j:=by
 rw[Q7,Q7,GK h,dh,dh]
 congr 1
 have hl:(a.toList.take off).length=off:=by rw[gS,gj];lia
 rcases hj with hj|hj
 ·rw[eh,ip (by lia),nz hj]
 ·rw[eL (by rw[de];lia),de,hl,my]
  congr 1
  lia
end
section
variable {prog:bu} {w:bo} {A:bP} {E:ak->ao->Prop} {s:ao} {kd:f_} {U:au->Prop} {blt:au->au->aq}
theorem aGh{σ:Type}{M:ij}{st st':σ}{Q:PUnit->σ->Prop}(h:Q ⟨⟩ st'):c6 M A E s (set st':ja σ eB PUnit) Q st:=by
 unfold c6;rw[StateT.run_set];exact bh ⟨rfl,h⟩
theorem Q8(O:Ord U blt)(hL:W5 prog w A E s kd U blt){i:ah}{st:cg}{Q:aq->cg->Prop}(hk:kindOf st=kd)(hU:t_ U (am st))(hF:fq st=aj){sa na pw sb nb pw2:ah}
 (p1:(bn st)[i]?=ae (sa,na,pw))(p2:(bn st)[i+1]?=ae (sb,nb,pw2))(hsb:sb=sa+na)(hsz:sb+nb<=(am st).size)(hna:0<na)(hnb:0<nb)
 (s1:Srt blt (am st) sa (sa+na))(s2:Srt blt (am st) sb (sb+nb))
 (h:∀st',Stp sa (sb+nb) st st'->Srt blt (am st') sa (sb+nb)->bn st'=((bn st).setIfInBounds i (sa,na+nb,pw)).eraseIdxIfInBounds (i+1)->Q af st') :
  c6 (ax prog w) A E s (mergeAt' i) Q st:=by
 subst hsb
 with_unfolding_all refine aI (gr ?_)
 dsimp only;rw[p1,p2];dsimp only;refine aI (aGh ?_);have hk':kindOf (ot st (((bn st).setIfInBounds i (sa,na+nb,pw)).eraseIdxIfInBounds (i+1)))=kd:=hk;refine aI (b7 (arr:=am st) (by lia) ?_);refine aI (uY (arr:=am st) O hL hk' (by lia) hU (hU _ (by lia)) (s1.mono (bi _) (by lia)) (by lia) λk hk1 y1 y2=>?_);dsimp only;have y1':∀i,i<k->blt (gt (am st) (sa+na)) (gt (am st) (sa+i))=ag:=λi hi=>by have:=y1 i hi;simpa[gp] using this
 have y2':∀i,k<=i->i<na->blt (gt (am st) (sa+na)) (gt (am st) (sa+i))=af:=λi i1 i2=>by have:=y2 i i1 i2;simpa[gp] using this
 -- the whole stretch is sorted as soon as the first part's last is no more than the second's first
 have whole:(∀i j,sa<=i->i<sa+na->sa+na<=j->j<sa+na+nb->blt (gt (am st) j) (gt (am st) i)=ag)->Srt blt (am st) sa (sa+na+nb):=λq i j a1 a2 a3=>by
  by_cases c1:j<sa+na
  ·exact s1 i j a1 a2 c1
  ·by_cases c2:sa+na<=i
   ·exact s2 i j c2 a2 a3
   ·exact q i j a1 (by lia) (by lia) a3
 have stp0:Stp sa (sa+na+nb) st (ot st (((bn st).setIfInBounds i (sa,na+nb,pw)).eraseIdxIfInBounds (i+1))):=⟨rfl,rfl,mE _,λ_ _=>rfl⟩
 by_cases e1:na-k=0
 ·rw[av (by simpa using e1)];refine aT (h _ stp0 (whole λi j i1 i2 j1 j2=>?_) rfl);have q:=y1' (i-sa) (by lia);rw[show sa+(i-sa)=i by lia] at q;exact O.le_trans (hU _ (by lia)) (hU _ (by lia)) (hU _ (by lia)) q (s2 _ _ (bi _) j1 j2)
 rw[az (by simpa using e1)];refine aI (b7 (arr:=am st) (by lia) ?_);refine aI (uY (arr:=am st) O hL hk' (by lia) hU (hU _ (by lia)) (s2.mono (bi _) (by lia)) (by lia) λnb' hnb1 z1 z2=>?_);dsimp only;have ez:sa+k+(na-k)-1=sa+na-1:=by lia
 have z1':∀i,i<nb'->blt (gt (am st) (sa+na+i)) (gt (am st) (sa+na-1))=af:=λi hi=>by have:=z1 i hi;rw[ez] at this;simpa[gp] using this
 have z2':∀i,nb'<=i->i<nb->blt (gt (am st) (sa+na+i)) (gt (am st) (sa+na-1))=ag:=λi i1 i2=>by have:=z2 i i1 i2;rw[ez] at this;simpa[gp] using this
 by_cases e2:nb'=0
 ·rw[av (by simpa using e2)];refine aT (h _ stp0 (whole λi j i1 i2 j1 j2=>?_) rfl);have q:=z2' (j-(sa+na)) (by lia) (by lia);rw[show sa+na+(j-(sa+na))=j by lia] at q;exact O.le_trans (hU _ (by lia)) (hU (sa+na-1) (by lia)) (hU _ (by lia)) (s1 i (sa+na-1) i1 (by lia) (by lia)) q
 rw[az (by simpa using e2)];have ex:((am st).extract (sa+k) (sa+na)).toList=str (am st) (sa+k) (na-k):=by rw[Z8];congr 1;lia
 have ey:((am st).extract (sa+na) (sa+na+nb')).toList=str (am st) (sa+na) nb':=by rw[Z8];congr 1;lia
 have zx:((am st).extract (sa+k) (sa+na)).size=na-k:=by rw[zd];lia
 have zy:((am st).extract (sa+na) (sa+na+nb')).size=nb':=by rw[zd];lia
 have gx:∀i,i<na-k->gt ((am st).extract (sa+k) (sa+na)) i=gt (am st) (sa+k+i):=λi hi=>by
  have e:=lM (a:=am st) (lo:=sa+k) (i:=i) (n:=na-k) hi (by lia);rw[<-ex,gX,nA (by lia)] at e;exact cz e
 have gy:∀i,i<nb'->gt ((am st).extract (sa+na) (sa+na+nb')) i=gt (am st) (sa+na+i):=λi hi=>by
  have e:=lM (a:=am st) (lo:=sa+na) (i:=i) (n:=nb') hi (by lia);rw[<-ey,gX,nA (by lia)] at e;exact cz e
 have fin:∀(r:aE au)(st2:cg),Sim (ot st (((bn st).setIfInBounds i (sa,na+nb,pw)).eraseIdxIfInBounds (i+1))) st2->
   r.toList=mrg blt ((am st).extract (sa+k) (sa+na)).toList ((am st).extract (sa+na) (sa+na+nb')).toList->
   c6 (ax prog w) A E s (do
    modify λs=>dm s (r.toList.zipIdx.foldl (λa (p,j)=>a.setIfInBounds (sa+k+j) p) (am s))
    return (fq (<- get)).isNone) Q st2:=by
  intro r st2 sim hr;rw[ex,ey] at hr;have hlen:r.toList.length=(na-k)+nb':=by
   rw[hr,(GF _ _).length_eq,de,str_len (by lia),str_len (by lia)]
  have hfit:sa+k+r.toList.length<=(am st).size:=by lia
  have ear:am st2=am st:=sim.ar;refine aI (iL (aI (gr (aT ?_))));show Q (fq st2).isNone (dm st2 (put (am st2) (sa+k) r.toList));rw[sim.fl,show fq (ot st _)=aj from hF,ear];have hp:(put (am st) (sa+k) r.toList).Perm (am st):=by
   rw[vo,GK hfit,hlen];have sp:=W9 (am st) (sa+k) (na-k) nb';rw[show sa+k+(na-k)=sa+na by lia] at sp
   conv=>rhs;rw[sp]
   rw[hr];exact(((GF _ _).append_left _).append_right _)
  have hU':=bJ hU hp;refine h _ ⟨sim.kd,sim.fl,hp,λj hj=>?_⟩ ?_ ?_
  ·show gt (put (am st) (sa+k) r.toList) j=gt (am st) j;exact xV hfit (by lia)
  ·show Srt blt (put (am st) (sa+k) r.toList) sa (sa+na+nb);have hsz':(put (am st) (sa+k) r.toList).size=(am st).size:=hp.size_eq;have e0:str (put (am st) (sa+k) r.toList) (sa+k) ((na-k)+nb')=mrg blt (str (am st) (sa+k) (na-k)) (str (am st) (sa+na) nb'):=by
    rw[<-hlen,aGg hfit,hr]
   have ux:∀z∈str (am st) (sa+k) (na-k),U z:=λz hz=>by obtain⟨i,_,_,i3,rfl⟩:=GJ hz;exact hU i i3
   have uy:∀z∈str (am st) (sa+na) nb',U z:=λz hz=>by obtain⟨i,_,_,i3,rfl⟩:=GJ hz;exact hU i i3
   have sm:SL blt (mrg blt (str (am st) (sa+k) (na-k)) (str (am st) (sa+na) nb')):=
    Z7 O _ _ ux uy (Srt.sl (s1.mono (by lia) (by lia)) (by lia)) (Srt.sl (s2.mono (bi _) (by lia)) (by lia))
   have mid:Srt blt (put (am st) (sa+k) r.toList) (sa+k) (sa+k+((na-k)+nb')):=SL.srt O hU' (by rw[e0];exact sm) (by lia);have inmid:∀j,sa+k<=j->j<sa+na+nb'->∃q,gt (put (am st) (sa+k) r.toList) j=gt (am st) q/\((sa+k<=q/\q<sa+na)\/(sa+na<=q/\q<sa+na+nb')):=by
    intro j j1 j2;have e:=lM (a:=put (am st) (sa+k) r.toList) (lo:=sa+k) (i:=j-(sa+k)) (n:=(na-k)+nb') (by lia) (by lia);rw[e0,show sa+k+(j-(sa+k))=j by lia] at e;have hm:=me e;rcases Q5.mp hm with hm|hm
    ·obtain⟨q,q1,q2,q3,q4⟩:=GJ hm;exact⟨q,q4,.inl ⟨q1,by lia⟩⟩
    ·obtain⟨q,q1,q2,q3,q4⟩:=GJ hm;exact⟨q,q4,.inr ⟨q1,q2⟩⟩
   intro i j a1 a2 a3
   -- three zones
   by_cases ci:i<sa+k
   ·have ei:gt (put (am st) (sa+k) r.toList) i=gt (am st) i:=xV hfit (by lia);by_cases cj:j<sa+k
    ·have ej:gt (put (am st) (sa+k) r.toList) j=gt (am st) j:=xV hfit (by lia);rw[ei,ej];exact s1 i j a1 a2 (by lia)
    ·have yi:=y1' (i-sa) (by lia);rw[show sa+(i-sa)=i by lia] at yi;have leB:∀q,sa+na<=q->q<sa+na+nb->blt (gt (am st) q) (gt (am st) i)=ag:=λq q1 q2=>
      O.le_trans (hU _ (by lia)) (hU _ (by lia)) (hU _ (by lia)) yi (s2 _ _ (bi _) q1 q2)
     by_cases cj2:j<sa+na+nb'
     ·obtain⟨q,eq,hq⟩:=inmid j (by lia) cj2;rw[ei,eq];rcases hq with ⟨q1,q2⟩|⟨q1,q2⟩
      ·exact s1 i q a1 (by lia) q2
      ·exact leB q q1 (by lia)
     ·have ej:gt (put (am st) (sa+k) r.toList) j=gt (am st) j:=xV hfit (by lia);rw[ei,ej];exact leB j (by lia) a3
   ·by_cases ci2:i<sa+na+nb'
    ·by_cases cj2:j<sa+na+nb'
     ·exact mid i j (by lia) a2 (by lia)
     ·have ej:gt (put (am st) (sa+k) r.toList) j=gt (am st) j:=xV hfit (by lia);obtain⟨q,eq,hq⟩:=inmid i (by lia) ci2;rw[eq,ej];rcases hq with ⟨q1,q2⟩|⟨q1,q2⟩
      ·have zj:=z2' (j-(sa+na)) (by lia) (by lia);rw[show sa+na+(j-(sa+na))=j by lia] at zj;exact O.le_trans (hU _ (by lia)) (hU (sa+na-1) (by lia)) (hU _ (by lia)) (s1 q (sa+na-1) (by lia) (by lia) (by lia)) zj
      ·exact s2 q j q1 (by lia) a3
    ·have ei:gt (put (am st) (sa+k) r.toList) i=gt (am st) i:=xV hfit (by lia);have ej:gt (put (am st) (sa+k) r.toList) j=gt (am st) j:=xV hfit (by lia);rw[ei,ej];exact s2 i j (by lia) a2 a3
  ·show bn st2=_;exact sim.pd
 have hUx:t_ U ((am st).extract (sa+k) (sa+na)):=λi hi=>by rw[zx] at hi;rw[gx i hi];exact hU _ (by lia)
 have hUy:t_ U ((am st).extract (sa+na) (sa+na+nb')):=λi hi=>by rw[zy] at hi;rw[gy i hi];exact hU _ (by lia)
 have hsx:Srt blt ((am st).extract (sa+k) (sa+na)) 0 ((am st).extract (sa+k) (sa+na)).size:=λi j a1 a2 a3=>by
  rw[zx] at a3;rw[gx i (by lia),gx j a3];exact s1 _ _ (by lia) (by lia) (by lia)
 have hsy:Srt blt ((am st).extract (sa+na) (sa+na+nb')) 0 ((am st).extract (sa+na) (sa+na+nb')).size:=λi j a1 a2 a3=>by
  rw[zy] at a3;rw[gy i (by lia),gy j a3];exact s2 _ _ (by lia) (by lia) (by lia)
 have hfst:blt (gt ((am st).extract (sa+na) (sa+na+nb')) 0) (gt ((am st).extract (sa+k) (sa+na)) 0)=af:=by
  rw[gx 0 (by lia),gy 0 (by lia)];exact y2' k (bi _) (by lia)
 have hlst:∀i,i<((am st).extract (sa+na) (sa+na+nb')).size->blt (gt ((am st).extract (sa+na) (sa+na+nb')) i) (gt ((am st).extract (sa+k) (sa+na)) (((am st).extract (sa+k) (sa+na)).size-1))=af:=λi hi=>by
  rw[zy] at hi;rw[zx,gx (na-k-1) (by lia),gy i hi,show sa+k+(na-k-1)=sa+na-1 by lia];exact z1' i hi
 by_cases ce:na-k<=nb'
 ·rw[av ce];exact aI (Q0 (a:=(am st).extract (sa+k) (sa+na)) (b:=(am st).extract (sa+na) (sa+na+nb')) O hL hk' hUx hUy hsx hsy (by lia) (by lia) hfst hlst fin)
 ·rw[az ce];exact aI (Q4 (a:=(am st).extract (sa+k) (sa+na)) (b:=(am st).extract (sa+na) (sa+na+nb')) O hL hk' hUx hUy hsx hsy (by lia) (by lia) hfst hlst fin)
end
section
variable {blt:au->au->aq} {U:au->Prop}
def Eqv(blt:au->au->aq)(x y:au):Prop:=blt x y=ag/\blt y x=ag
theorem Eqv.aCp(O:Ord U blt){x:au}(h:U x):Eqv blt x x:=⟨O.irr x h,O.irr x h⟩
theorem Eqv.symm{x y:au}(h:Eqv blt x y):Eqv blt y x:=⟨h.2,h.1⟩
theorem Eqv.trans(O:Ord U blt){x y z:au}(hx:U x)(hy:U y)(hz:U z)(h:Eqv blt x y)(g:Eqv blt y z):Eqv blt x z:=⟨O.le_trans hz hy hx g.1 h.1,O.le_trans hx hy hz h.2 g.2⟩
def NonInc(blt:au->au->aq)(a:aE au)(lo n:ah):Prop:=∀i j,lo<=i->i<=j->j<lo+n->blt (gt a i) (gt a j)=ag
theorem aLh(a:aE au)(i:ah):gt a i=(a[i]?).getD dk:=by
 unfold gt;by_cases h:i<a.size
 ·simp[ir,h]
 ·simp[ir,h]
theorem nF{a:aE au}{i j:ah}(hj:j<=a.size)(k:ah):gt (c8 a i j ((j-i) / 2)) k=if i<=k/\k<j then gt a (i+j-1-k) else gt a k:=by
 rw[aLh,getElem?_mirror_all hj];split<;>rw[aLh]
theorem Stp.mir{lo hi:ah}{st st':cg}(h:Stp lo hi st st'){i j:ah}(hi':lo<=i)(hj:j<=hi)(hs:j<=(am st').size):Stp lo hi st (dm st' (c8 (am st') i j ((j-i) / 2))):=
 ⟨h.kd,h.fl,(je _ _ _ _).trans h.pm,λk hk=>by
  show gt (c8 (am st') i j ((j-i) / 2)) k=_;rw[nF hs,az (by lia)];exact h.out k hk⟩
theorem uA(O:Ord U blt){a:aE au}{lo x:ah}(hU:t_ U a)(hx:lo+x<a.size)(h0:1<=x)(h:Srt blt a lo (lo+x))(e:blt (gt a (lo+x)) (gt a (lo+x-1))=ag):Srt blt a lo (lo+(x+1)):=λi j a1 a2 a3=>by
 by_cases c:j<lo+x
 ·exact h i j a1 a2 c
 ·obtain rfl:j=lo+x:=by lia
  by_cases d:i=lo+x
  ·rw[d];exact O.irr _ (hU _ hx)
  ·exact O.le_trans (hU _ (by lia)) (hU _ (by lia)) (hU _ hx) (h i (lo+x-1) a1 (by lia) (by lia)) e
theorem uZ(O:Ord U blt){a:aE au}{lo x:ah}(hU:t_ U a)(hx:lo+x<a.size)(h0:1<=x)(h:NonInc blt a lo x)(e:blt (gt a (lo+x-1)) (gt a (lo+x))=ag):NonInc blt a lo (x+1):=λi j a1 a2 a3=>by
 by_cases c:j<lo+x
 ·exact h i j a1 a2 c
 ·obtain rfl:j=lo+x:=by lia
  by_cases d:i=lo+x
  ·rw[d];exact O.irr _ (hU _ hx)
  ·exact O.le_trans (hU _ hx) (hU _ (by lia)) (hU _ (by lia)) e (h i (lo+x-1) a1 (by lia) (by lia))
theorem GP{a:aE au}{lo m:ah}(hs:lo+m<=a.size)(h:NonInc blt a lo m):Srt blt (c8 a lo (lo+m) ((lo+m-lo) / 2)) lo (lo+m):=λi j a1 a2 a3=>by
 rw[nF hs,nF hs,av (by lia),av (by lia)];exact h _ _ (by lia) (by lia) (by lia)
theorem GQ(O:Ord U blt){a:aE au}{lo m neq:ah}(hU:t_ U a)(hs:lo+m<=a.size)(hq:neq+1<=m)(h:∀i,lo+m-(neq+1)<=i->i<lo+m->Eqv blt (gt a i) (gt a (lo+m-1))) :
  ∀k,k<a.size->Eqv blt (gt (c8 a (lo+m-(neq+1)) (lo+m) ((lo+m-(lo+m-(neq+1))) / 2)) k) (gt a k):=λk hk=>by
 rw[nF hs];by_cases c:lo+m-(neq+1)<=k/\k<lo+m
 ·rw[av c];exact(h _ (by lia) (by lia)).trans O (hU _ (by lia)) (hU _ (by lia)) (hU _ (by lia)) (h k c.1 c.2).symm
 ·rw[az c];exact Eqv.aCp O (hU _ hk)
theorem K7(O:Ord U blt){a b:aE au}{lo n:ah}(hU:t_ U a)(hV:t_ U b)(hs:lo+n<=a.size)(ht:lo+n<=b.size)(h:NonInc blt a lo n)(e:∀k,k<a.size->Eqv blt (gt b k) (gt a k)):NonInc blt b lo n:=λi j a1 a2 a3=>
 O.le_trans (hV j (by lia)) (hU j (by lia)) (hV i (by lia)) (e j (by lia)).2 (O.le_trans (hU j (by lia)) (hU i (by lia)) (hV i (by lia)) (h i j a1 a2 a3) (e i (by lia)).1)
end
section
variable {prog:bu} {w:bo} {A:bP} {E:ak->ao->Prop} {s:ao} {kd:f_} {U:au->Prop} {blt:au->au->aq}
theorem wpS_ltAt(hL:W5 prog w A E s kd U blt){i j:ah}{st:cg}{Q:ay aq->cg->Prop}(hk:kindOf st=kd)(hU:t_ U (am st))(hi:i<(am st).size)(hj:j<(am st).size)
 (h:Q (ae (blt (gt (am st) i) (gt (am st) j))) st):c6 (ax prog w) A E s (ltAt' i j) Q st:=by
 rw[ltAt'_eq];exact aI (gr (aI (b7 hi (aI (b7 hj (hL _ _ _ _ (hU _ hi) (hU _ hj) hk h))))))
noncomputable abbrev mrA(st3:cg)(lo m neq:ah):cg:=dm st3 (c8 (am st3) (lo+m-(neq+1)) (lo+m) ((lo+m-(lo+m-(neq+1))) / 2))
noncomputable abbrev mrB(st3:cg)(lo m:ah):cg:=dm st3 (c8 (am st3) lo (lo+m) ((lo+m-lo) / 2))
theorem wpS_countRun(O:Ord U blt)(hL:W5 prog w A E s kd U blt){lo nrem:ah}{st:cg}{Q:ay ah->cg->Prop}(hk:kindOf st=kd)(hU:t_ U (am st))(hn:lo+nrem<=(am st).size)(h1:1<=nrem)
 (h:∀m st',Stp lo (lo+nrem) st st'->bn st'=bn st->1<=m->m<=nrem->Srt blt (am st') lo (lo+m)->Q (ae m) st'):c6 (ax prog w) A E s (countRun' lo nrem) Q st:=by
 rw[countRun'_eq];have stp0:Stp lo (lo+nrem) st st:=⟨rfl,rfl,mE _,λ_ _=>rfl⟩
 refine aI (dw (dy
  (I:=λx c st'=>st'=st/\c=(aj,x)/\Srt blt (am st) lo (lo+x))
  (Q:=λc st'=>st'=st/\∃m,c=(aj,m)/\1<=m/\m<=nrem/\Srt blt (am st) lo (lo+m)/\(m=nrem\/(m<nrem/\blt (gt (am st) (lo+m)) (gt (am st) (lo+m-1))=af))) ?step ?fin ?init) ?post)
 case init=>exact⟨rfl,rfl,λi j a1 a2 a3=>by rw[show i=lo by lia,show j=lo by lia];exact O.irr _ (hU _ (by lia))⟩
 case fin=>
  rintro c st' ⟨rfl,rfl,q⟩;rw[show max 1 nrem=nrem by lia] at q ⊢;exact⟨rfl,nrem,rfl,h1,bi _,q,.inl rfl⟩
 case step=>
  rintro x c st' x1 x2 ⟨rfl,rfl,q⟩;dsimp only;refine aI (wpS_ltAt hL hk hU (by lia) (by lia) ?_);dsimp only;cases e:blt (gt (am st') (lo+x)) (gt (am st') (lo+x-1)) with
  |true=>
   simp only[cw];exact aT ⟨rfl,x,rfl,x1,by lia,q,.inr ⟨x2,e⟩⟩
  |false=>
   simp only[db,cx];exact aT ⟨rfl,rfl,uA O hU (by lia) x1 q e⟩
 case post=>
  rintro c st ⟨hst,n,rfl,n1,n2,q,hor⟩;have hst:=hst.symm;subst hst;dsimp only;by_cases hnn:n=nrem
  ·rw[av (by simpa using hnn)];exact aT (h n _ stp0 rfl n1 n2 q)
  rw[az (by simpa using hnn)];obtain⟨n3,hlt⟩:=hor.resolve_left hnn;by_cases hgt:n > 1
  ·rw[av hgt];refine aI (wpS_ltAt hL hk hU (by lia) (by lia) ?_);dsimp only;cases e:blt (gt (am st) lo) (gt (am st) (lo+n-1)) with
   |true=>
    simp only[cw];exact aT (h n _ stp0 rfl n1 n2 q)
   |false=>
    simp only[db,cx];refine aI (iN ?_);have stp2:Stp lo (lo+nrem) st (dm st (c8 (am st) lo (lo+n) ((lo+n-lo) / 2))):=stp0.mir (bi _) (by lia) (by lia);have pd2:bn (dm st (c8 (am st) lo (lo+n) ((lo+n-lo) / 2)))=bn st:=rfl;have ev:∀i,lo<=i->i<lo+n->Eqv blt (gt (am st) i) (gt (am st) (lo+n-1)):=λi i1 i2=>by
     refine⟨?_,q i (lo+n-1) i1 (by lia) (by lia)⟩
     ·cases z:blt (gt (am st) i) (gt (am st) (lo+n-1)) with
      |false=>rfl
      |true=>
       rcases O.ntr _ (gt (am st) lo) _ (hU i (by lia)) (hU lo (by lia)) (hU (lo+n-1) (by lia)) z with p|p
       ·rw[q lo i (bi _) i1 i2] at p;cases p
       ·rw[e] at p;cases p
    have hm:∀k,k<(am st).size->Eqv blt (gt (c8 (am st) lo (lo+n) ((lo+n-lo) / 2)) k) (gt (am st) k):=λk hk'=>by
     rw[nF (by lia)];by_cases c:lo<=k/\k<lo+n
     ·rw[av c];exact(ev _ (by lia) (by lia)).trans O (hU _ (by lia)) (hU _ (by lia)) (hU _ (by lia)) (ev k c.1 c.2).symm
     ·rw[az c];exact Eqv.aCp O (hU _ hk')
    have ni1:NonInc blt (am st) lo n:=λi j a1 a2 a3=>((ev i a1 (by lia)).trans O (hU _ (by lia)) (hU _ (by lia)) (hU _ (by lia)) (ev j (by lia) a3).symm).1
    have ni2:NonInc blt (am (dm st (c8 (am st) lo (lo+n) ((lo+n-lo) / 2)))) lo (n+1):=
     K7 O hU (bJ hU (je _ _ _ _)) (by lia) (by show lo+(n+1)<=(c8 _ _ _ _).size;rw[kn];lia) (uZ O hU (by lia) n1 ni1 (O.aCo (hU _ (by lia)) (hU _ (by lia)) hlt)) hm
    refine aI (jb (km ⟨rfl,?_⟩));refine aI (dw (dy
     (I:=λx c st'=>∃neq,c=(aj,x,neq)/\Stp lo (lo+nrem) st st'/\bn st'=bn st/\NonInc blt (am st') lo x/\neq+1<=x/\∀i,lo+x-(neq+1)<=i->i<lo+x->Eqv blt (gt (am st') i) (gt (am st') (lo+x-1)))
     (Q:=λc st'=>∃m neq,c=(aj,m,neq)/\n+1<=m/\m<=nrem/\Stp lo (lo+nrem) st st'/\bn st'=bn st/\NonInc blt (am st') lo m/\neq+1<=m/\∀i,lo+m-(neq+1)<=i->i<lo+m->Eqv blt (gt (am st') i) (gt (am st') (lo+m-1))) ?dstep ?dfin ?dinit) ?dpost)
    case dinit=>exact⟨0,rfl,stp2,pd2,ni2,by lia,λi i1 i2=>by rw[show i=lo+(n+1)-1 by lia];exact Eqv.aCp O (bJ hU stp2.pm _ (by rw[stp2.sz];lia))⟩
    case dfin=>
     rintro c st' ⟨neq,rfl,q1,q2,q3,q4,q5⟩;rw[show max (n+1) nrem=nrem by lia] at q3 q4 q5 ⊢;exact⟨nrem,neq,rfl,by lia,bi _,q1,q2,q3,q4,q5⟩
    case dstep=>
     rintro x c st' x1 x2 ⟨neq,rfl,q1,q2,q3,q4,q5⟩;dsimp only;have hUx:=bJ hU q1.pm;have hzx:lo+nrem<=(am st').size:=by rw[q1.sz];lia
     refine aI (wpS_ltAt hL (q1.kd.trans hk) hUx (by lia) (by lia) ?_);dsimp only;cases e:blt (gt (am st') (lo+x)) (gt (am st') (lo+x-1)) with
     |true=>
      simp only[cw];have ni':NonInc blt (am st') lo (x+1):=uZ O hUx (by lia) (by lia) q3 (O.aCo (hUx _ (by lia)) (hUx _ (by lia)) e);by_cases hq:neq > 0
      ·rw[av hq];refine aI (iN (aT ⟨0,rfl,q1.mir (by lia) (by lia) (by lia),q2,?_,by lia,λi i1 i2=>?_⟩))
       ·exact K7 O hUx (bJ hUx (je _ _ _ _)) (by lia) (by rw[kn];lia) ni' (GQ O hUx (by lia) (by lia) q5)
       ·rw[show i=lo+(x+1)-1 by lia];exact Eqv.aCp O (bJ hUx (je _ _ _ _) _ (by rw[kn];lia))
      ·rw[az hq];exact aT ⟨0,rfl,q1,q2,ni',by lia,λi i1 i2=>by rw[show i=lo+(x+1)-1 by lia];exact Eqv.aCp O (hUx _ (by lia))⟩
     |false=>
      simp only[db,cx];refine aI (wpS_ltAt hL (q1.kd.trans hk) hUx (by lia) (by lia) ?_);dsimp only;cases e2:blt (gt (am st') (lo+x-1)) (gt (am st') (lo+x)) with
      |true=>
       simp only[cw];exact aT ⟨x,neq,rfl,x1,by lia,q1,q2,q3,q4,q5⟩
      |false=>
       simp only[db,cx];refine aT ⟨neq+1,rfl,q1,q2,uZ O hUx (by lia) (by lia) q3 e2,by lia,λi i1 i2=>?_⟩;rw[show lo+(x+1)-1=lo+x by lia];by_cases c:i=lo+x
       ·rw[c];exact Eqv.aCp O (hUx _ (by lia))
       ·exact(q5 i (by lia) (by lia)).trans O (hUx _ (by lia)) (hUx _ (by lia)) (hUx _ (by lia)) ⟨e2,e⟩
    case dpost=>
     rintro c st3 ⟨m,neq,rfl,m1,m2,q1,q2,q3,q4,q5⟩;dsimp only;have hU3:=bJ hU q1.pm;have hz3:lo+nrem<=(am st3).size:=by rw[q1.sz];lia
     by_cases hq:neq > 0
     ·rw[av hq];refine aI (iN ?_);have stp4:=q1.mir (i:=lo+m-(neq+1)) (j:=lo+m) (by lia) (by lia) (by lia);have ni4:NonInc blt (c8 (am st3) (lo+m-(neq+1)) (lo+m) ((lo+m-(lo+m-(neq+1))) / 2)) lo m:=
       K7 O hU3 (bJ hU3 (je _ _ _ _)) (by lia) (by rw[kn];lia) q3 (GQ O hU3 (by lia) (by lia) q5)
      refine aI (iN ?_);have stpA:Stp lo (lo+nrem) st (dm (mrA st3 lo m neq) (c8 (am (mrA st3 lo m neq)) lo (lo+m) ((lo+m-lo) / 2))):=stp4.mir (bi _) (by lia) (by rw[stp4.sz];lia);have pdA:bn (dm (mrA st3 lo m neq) (c8 (am (mrA st3 lo m neq)) lo (lo+m) ((lo+m-lo) / 2)))=bn st:=q2;have hsA:Srt blt (am (dm (mrA st3 lo m neq) (c8 (am (mrA st3 lo m neq)) lo (lo+m) ((lo+m-lo) / 2)))) lo (lo+m):=GP (by rw[stp4.sz];lia) ni4;refine aI (dw (dy
       (I:=λx c st'=>st'=(dm (mrA st3 lo m neq) (c8 (am (mrA st3 lo m neq)) lo (lo+m) ((lo+m-lo) / 2)))/\c=(aj,x)/\Srt blt (am (dm (mrA st3 lo m neq) (c8 (am (mrA st3 lo m neq)) lo (lo+m) ((lo+m-lo) / 2)))) lo (lo+x))
       (Q:=λc st'=>st'=(dm (mrA st3 lo m neq) (c8 (am (mrA st3 lo m neq)) lo (lo+m) ((lo+m-lo) / 2)))/\∃mm,c=(aj,mm)/\m<=mm/\mm<=nrem/\Srt blt (am (dm (mrA st3 lo m neq) (c8 (am (mrA st3 lo m neq)) lo (lo+m) ((lo+m-lo) / 2)))) lo (lo+mm)) ?stepA ?finA ?initA) ?postA)
      case initA=>exact⟨rfl,rfl,hsA⟩
      case finA=>
       rintro c st' ⟨rfl,rfl,q⟩;rw[show max m nrem=nrem by lia] at q ⊢;exact⟨rfl,nrem,rfl,by lia,bi _,q⟩
      case postA=>
       rintro c st' ⟨rfl,mm,rfl,mm1,mm2,q⟩;exact aT (h mm _ stpA pdA (by lia) mm2 q)
      case stepA=>
       rintro x c st' x1 x2 ⟨rfl,rfl,q⟩;dsimp only;refine aI (wpS_ltAt hL (stpA.kd.trans hk) (bJ hU stpA.pm) (by rw[stpA.sz];lia) (by rw[stpA.sz];lia) ?_);dsimp only;cases e:blt (gt (am (dm (mrA st3 lo m neq) (c8 (am (mrA st3 lo m neq)) lo (lo+m) ((lo+m-lo) / 2)))) (lo+x)) (gt (am (dm (mrA st3 lo m neq) (c8 (am (mrA st3 lo m neq)) lo (lo+m) ((lo+m-lo) / 2)))) (lo+x-1)) with
       |true=>
        simp only[cw];exact aT ⟨rfl,x,rfl,x1,by lia,q⟩
       |false=>
        simp only[db,cx];exact aT ⟨rfl,rfl,uA O (bJ hU stpA.pm) (by rw[stpA.sz];lia) (by lia) q e⟩
     ·rw[az hq];refine aI (iN ?_);have stpB:Stp lo (lo+nrem) st (mrB st3 lo m):=q1.mir (bi _) (by lia) (by rw[q1.sz];lia);have pdB:bn (mrB st3 lo m)=bn st:=q2;have hsB:Srt blt (am (mrB st3 lo m)) lo (lo+m):=GP (by rw[q1.sz];lia) q3;refine aI (dw (dy
       (I:=λx c st'=>st'=(mrB st3 lo m)/\c=(aj,x)/\Srt blt (am (mrB st3 lo m)) lo (lo+x))
       (Q:=λc st'=>st'=(mrB st3 lo m)/\∃mm,c=(aj,mm)/\m<=mm/\mm<=nrem/\Srt blt (am (mrB st3 lo m)) lo (lo+mm)) ?stepB ?finB ?initB) ?postB)
      case initB=>exact⟨rfl,rfl,hsB⟩
      case finB=>
       rintro c st' ⟨rfl,rfl,q⟩;rw[show max m nrem=nrem by lia] at q ⊢;exact⟨rfl,nrem,rfl,by lia,bi _,q⟩
      case postB=>
       rintro c st' ⟨rfl,mm,rfl,mm1,mm2,q⟩;exact aT (h mm _ stpB pdB (by lia) mm2 q)
      case stepB=>
       rintro x c st' x1 x2 ⟨rfl,rfl,q⟩;dsimp only;refine aI (wpS_ltAt hL (stpB.kd.trans hk) (bJ hU stpB.pm) (by rw[stpB.sz];lia) (by rw[stpB.sz];lia) ?_);dsimp only;cases e:blt (gt (am (mrB st3 lo m)) (lo+x)) (gt (am (mrB st3 lo m)) (lo+x-1)) with
       |true=>
        simp only[cw];exact aT ⟨rfl,x,rfl,x1,by lia,q⟩
       |false=>
        simp only[db,cx];exact aT ⟨rfl,rfl,uA O (bJ hU stpB.pm) (by rw[stpB.sz];lia) (by lia) q e⟩
  ·rw[az hgt];obtain rfl:n=1:=by lia
   have stp2:=stp0;have pd2:bn st=bn st:=rfl;have ni2:NonInc blt (am st) lo (1+1):=uZ O hU (by lia) (bi _) (λi j a1 a2 a3=>by rw[show i=lo by lia,show j=lo by lia];exact O.irr _ (hU _ (by lia))) (O.aCo (hU _ (by lia)) (hU _ (by lia)) hlt);refine aI (jb (km ⟨rfl,?_⟩));refine aI (dw (dy
    (I:=λx c st'=>∃neq,c=(aj,x,neq)/\Stp lo (lo+nrem) st st'/\bn st'=bn st/\NonInc blt (am st') lo x/\neq+1<=x/\∀i,lo+x-(neq+1)<=i->i<lo+x->Eqv blt (gt (am st') i) (gt (am st') (lo+x-1)))
    (Q:=λc st'=>∃m neq,c=(aj,m,neq)/\1+1<=m/\m<=nrem/\Stp lo (lo+nrem) st st'/\bn st'=bn st/\NonInc blt (am st') lo m/\neq+1<=m/\∀i,lo+m-(neq+1)<=i->i<lo+m->Eqv blt (gt (am st') i) (gt (am st') (lo+m-1))) ?dstep ?dfin ?dinit) ?dpost)
   case dinit=>exact⟨0,rfl,stp2,pd2,ni2,by lia,λi i1 i2=>by rw[show i=lo+(1+1)-1 by lia];exact Eqv.aCp O (bJ hU stp2.pm _ (by rw[stp2.sz];lia))⟩
   case dfin=>
    rintro c st' ⟨neq,rfl,q1,q2,q3,q4,q5⟩;rw[show max (1+1) nrem=nrem by lia] at q3 q4 q5 ⊢;exact⟨nrem,neq,rfl,by lia,bi _,q1,q2,q3,q4,q5⟩
   case dstep=>
    rintro x c st' x1 x2 ⟨neq,rfl,q1,q2,q3,q4,q5⟩;dsimp only;have hUx:=bJ hU q1.pm;have hzx:lo+nrem<=(am st').size:=by rw[q1.sz];lia
    refine aI (wpS_ltAt hL (q1.kd.trans hk) hUx (by lia) (by lia) ?_);dsimp only;cases e:blt (gt (am st') (lo+x)) (gt (am st') (lo+x-1)) with
    |true=>
     simp only[cw];have ni':NonInc blt (am st') lo (x+1):=uZ O hUx (by lia) (by lia) q3 (O.aCo (hUx _ (by lia)) (hUx _ (by lia)) e);by_cases hq:neq > 0
     ·rw[av hq];refine aI (iN (aT ⟨0,rfl,q1.mir (by lia) (by lia) (by lia),q2,?_,by lia,λi i1 i2=>?_⟩))
      ·exact K7 O hUx (bJ hUx (je _ _ _ _)) (by lia) (by rw[kn];lia) ni' (GQ O hUx (by lia) (by lia) q5)
      ·rw[show i=lo+(x+1)-1 by lia];exact Eqv.aCp O (bJ hUx (je _ _ _ _) _ (by rw[kn];lia))
     ·rw[az hq];exact aT ⟨0,rfl,q1,q2,ni',by lia,λi i1 i2=>by rw[show i=lo+(x+1)-1 by lia];exact Eqv.aCp O (hUx _ (by lia))⟩
    |false=>
     simp only[db,cx];refine aI (wpS_ltAt hL (q1.kd.trans hk) hUx (by lia) (by lia) ?_);dsimp only;cases e2:blt (gt (am st') (lo+x-1)) (gt (am st') (lo+x)) with
     |true=>
      simp only[cw];exact aT ⟨x,neq,rfl,x1,by lia,q1,q2,q3,q4,q5⟩
     |false=>
      simp only[db,cx];refine aT ⟨neq+1,rfl,q1,q2,uZ O hUx (by lia) (by lia) q3 e2,by lia,λi i1 i2=>?_⟩;rw[show lo+(x+1)-1=lo+x by lia];by_cases c:i=lo+x
      ·rw[c];exact Eqv.aCp O (hUx _ (by lia))
      ·exact(q5 i (by lia) (by lia)).trans O (hUx _ (by lia)) (hUx _ (by lia)) (hUx _ (by lia)) ⟨e2,e⟩
   case dpost=>
    rintro c st3 ⟨m,neq,rfl,m1,m2,q1,q2,q3,q4,q5⟩;dsimp only;have hU3:=bJ hU q1.pm;have hz3:lo+nrem<=(am st3).size:=by rw[q1.sz];lia
    by_cases hq:neq > 0
    ·rw[av hq];refine aI (iN ?_);have stp4:=q1.mir (i:=lo+m-(neq+1)) (j:=lo+m) (by lia) (by lia) (by lia);have ni4:NonInc blt (c8 (am st3) (lo+m-(neq+1)) (lo+m) ((lo+m-(lo+m-(neq+1))) / 2)) lo m:=
      K7 O hU3 (bJ hU3 (je _ _ _ _)) (by lia) (by rw[kn];lia) q3 (GQ O hU3 (by lia) (by lia) q5)
     refine aI (iN ?_);have stpA:Stp lo (lo+nrem) st (dm (mrA st3 lo m neq) (c8 (am (mrA st3 lo m neq)) lo (lo+m) ((lo+m-lo) / 2))):=stp4.mir (bi _) (by lia) (by rw[stp4.sz];lia);have pdA:bn (dm (mrA st3 lo m neq) (c8 (am (mrA st3 lo m neq)) lo (lo+m) ((lo+m-lo) / 2)))=bn st:=q2;have hsA:Srt blt (am (dm (mrA st3 lo m neq) (c8 (am (mrA st3 lo m neq)) lo (lo+m) ((lo+m-lo) / 2)))) lo (lo+m):=GP (by rw[stp4.sz];lia) ni4;refine aI (dw (dy
      (I:=λx c st'=>st'=(dm (mrA st3 lo m neq) (c8 (am (mrA st3 lo m neq)) lo (lo+m) ((lo+m-lo) / 2)))/\c=(aj,x)/\Srt blt (am (dm (mrA st3 lo m neq) (c8 (am (mrA st3 lo m neq)) lo (lo+m) ((lo+m-lo) / 2)))) lo (lo+x))
      (Q:=λc st'=>st'=(dm (mrA st3 lo m neq) (c8 (am (mrA st3 lo m neq)) lo (lo+m) ((lo+m-lo) / 2)))/\∃mm,c=(aj,mm)/\m<=mm/\mm<=nrem/\Srt blt (am (dm (mrA st3 lo m neq) (c8 (am (mrA st3 lo m neq)) lo (lo+m) ((lo+m-lo) / 2)))) lo (lo+mm)) ?stepA ?finA ?initA) ?postA)
     case initA=>exact⟨rfl,rfl,hsA⟩
     case finA=>
      rintro c st' ⟨rfl,rfl,q⟩;rw[show max m nrem=nrem by lia] at q ⊢;exact⟨rfl,nrem,rfl,by lia,bi _,q⟩
     case postA=>
      rintro c st' ⟨rfl,mm,rfl,mm1,mm2,q⟩;exact aT (h mm _ stpA pdA (by lia) mm2 q)
     case stepA=>
      rintro x c st' x1 x2 ⟨rfl,rfl,q⟩;dsimp only;refine aI (wpS_ltAt hL (stpA.kd.trans hk) (bJ hU stpA.pm) (by rw[stpA.sz];lia) (by rw[stpA.sz];lia) ?_);dsimp only;cases e:blt (gt (am (dm (mrA st3 lo m neq) (c8 (am (mrA st3 lo m neq)) lo (lo+m) ((lo+m-lo) / 2)))) (lo+x)) (gt (am (dm (mrA st3 lo m neq) (c8 (am (mrA st3 lo m neq)) lo (lo+m) ((lo+m-lo) / 2)))) (lo+x-1)) with
      |true=>
       simp only[cw];exact aT ⟨rfl,x,rfl,x1,by lia,q⟩
      |false=>
       simp only[db,cx];exact aT ⟨rfl,rfl,uA O (bJ hU stpA.pm) (by rw[stpA.sz];lia) (by lia) q e⟩
    ·rw[az hq];refine aI (iN ?_);have stpB:Stp lo (lo+nrem) st (mrB st3 lo m):=q1.mir (bi _) (by lia) (by rw[q1.sz];lia);have pdB:bn (mrB st3 lo m)=bn st:=q2;have hsB:Srt blt (am (mrB st3 lo m)) lo (lo+m):=GP (by rw[q1.sz];lia) q3;refine aI (dw (dy
      (I:=λx c st'=>st'=(mrB st3 lo m)/\c=(aj,x)/\Srt blt (am (mrB st3 lo m)) lo (lo+x))
      (Q:=λc st'=>st'=(mrB st3 lo m)/\∃mm,c=(aj,mm)/\m<=mm/\mm<=nrem/\Srt blt (am (mrB st3 lo m)) lo (lo+mm)) ?stepB ?finB ?initB) ?postB)
     case initB=>exact⟨rfl,rfl,hsB⟩
     case finB=>
      rintro c st' ⟨rfl,rfl,q⟩;rw[show max m nrem=nrem by lia] at q ⊢;exact⟨rfl,nrem,rfl,by lia,bi _,q⟩
     case postB=>
      rintro c st' ⟨rfl,mm,rfl,mm1,mm2,q⟩;exact aT (h mm _ stpB pdB (by lia) mm2 q)
     case stepB=>
      rintro x c st' x1 x2 ⟨rfl,rfl,q⟩;dsimp only;refine aI (wpS_ltAt hL (stpB.kd.trans hk) (bJ hU stpB.pm) (by rw[stpB.sz];lia) (by rw[stpB.sz];lia) ?_);dsimp only;cases e:blt (gt (am (mrB st3 lo m)) (lo+x)) (gt (am (mrB st3 lo m)) (lo+x-1)) with
      |true=>
       simp only[cw];exact aT ⟨rfl,x,rfl,x1,by lia,q⟩
      |false=>
       simp only[db,cx];exact aT ⟨rfl,rfl,uA O (bJ hU stpB.pm) (by rw[stpB.sz];lia) (by lia) q e⟩
end
section
theorem xW{a:aE au}{src d:ah}(hs:src<a.size)(hd:d<=src)(k:ah) :
  gt (ou a src d) k=if k=src-d then gt a src else if src-d<k/\k<=src then gt a (k-1) else gt a k:=by
 rw[aLh,getElem?_bubble hs d hd]
 repeat' split
 all_goals rw[aLh]
end
section
variable {prog:bu} {w:bo} {A:bP} {E:ak->ao->Prop} {s:ao} {kd:f_} {U:au->Prop} {blt:au->au->aq}
theorem wpS_binarySort(O:Ord U blt)(hL:W5 prog w A E s kd U blt){lo n ok:ah}{st:cg}{Q:aq->cg->Prop}(hk:kindOf st=kd)(hU:t_ U (am st))(hn:lo+n<=(am st).size)(hok:ok<=n)
 (hs:Srt blt (am st) lo (lo+ok))
 (h:∀st',Stp lo (lo+n) st st'->bn st'=bn st->Srt blt (am st') lo (lo+n)->Q af st'):c6 (ax prog w) A E s (binarySort' lo n ok) Q st:=by
 rw[binarySort'_eq];have stp0:Stp lo (lo+n) st st:=⟨rfl,rfl,mE _,λ_ _=>rfl⟩
 refine aI (dw (dy (I:=λk c st'=>c=(aj,())/\Stp lo (lo+n) st st'/\bn st'=bn st/\Srt blt (am st') lo (lo+min k n))
  (Q:=λc st'=>c=(aj,())/\Stp lo (lo+n) st st'/\bn st'=bn st/\Srt blt (am st') lo (lo+n)) ?step ?fin ?init) ?post)
 case post=>
  rintro c st' ⟨rfl,q1,q2,q3⟩;exact aT (h st' q1 q2 q3)
 case init=>
  refine⟨rfl,stp0,rfl,λi j a1 a2 a3=>?_⟩;by_cases h1:ok=0
  ·rw[show i=j by lia];exact O.irr _ (hU _ (by lia))
  ·exact hs i j a1 a2 (by lia)
 case fin=>
  rintro c st' ⟨hc,q1,q2,q3⟩;rw[show min (max (max ok 1) n) n=n by lia] at q3;exact⟨hc,q1,q2,q3⟩
 case step=>
  rintro k c st' k1 k2 ⟨rfl,q1,q2,q3⟩;rw[show min k n=k by lia] at q3;have hU':=bJ hU q1.pm;have hz:lo+n<=(am st').size:=by rw[q1.sz];exact hn
  refine aI (dw (dy (I:=λx c st''=>st''=st'/\∃l r,c=(aj,l,r)/\l<=r/\r<=k/\r-l<=k-x/\
    (∀i,lo<=i->i<lo+l->blt (gt (am st') (lo+k)) (gt (am st') i)=ag)/\(∀i,lo+r<=i->i<lo+k->blt (gt (am st') (lo+k)) (gt (am st') i)=af))
   (Q:=λc st''=>st''=st'/\∃l r,c=(aj,l,r)/\l<=k/\
    (∀i,lo<=i->i<lo+l->blt (gt (am st') (lo+k)) (gt (am st') i)=ag)/\(∀i,lo+l<=i->i<lo+k->blt (gt (am st') (lo+k)) (gt (am st') i)=af)) ?istep ?ifin ?iinit) ?ipost)
  case iinit=>exact⟨rfl,0,k,rfl,by lia,by lia,by lia,λi i1 i2=>by lia,λi i1 i2=>by lia⟩
  case ifin=>
   rintro c st'' ⟨rfl,l,r,rfl,b1,b2,b3,b4,b5⟩;obtain rfl:l=r:=by lia
   exact⟨rfl,l,l,rfl,b2,b4,b5⟩
  case istep=>
   rintro x c st'' _ hx ⟨rfl,l,r,rfl,b1,b2,b3,b4,b5⟩;dsimp only;by_cases hge:l >= r
   ·rw[av hge];obtain rfl:l=r:=by lia
    exact aT ⟨rfl,l,l,rfl,b2,b4,b5⟩
   ·rw[az hge];refine aI (wpS_ltAt hL (q1.kd.trans hk) hU' (by lia) (by lia) ?_);dsimp only;cases e:blt (gt (am st'') (lo+k)) (gt (am st'') (lo+(l+r) / 2)) with
    |true=>
     simp only[cw];refine aT ⟨rfl,l,(l+r) / 2,rfl,by lia,by lia,by lia,b4,λi i1 i2=>?_⟩;rcases O.ntr _ (gt (am st'') i) _ (hU' _ (by lia)) (hU' i (by lia)) (hU' _ (by lia)) e with p|p
     ·exact p
     ·rw[q3 _ i (by lia) i1 (by lia)] at p;cases p
    |false=>
     simp only[db,cx];refine aT ⟨rfl,(l+r) / 2+1,r,rfl,by lia,by lia,by lia,λi i1 i2=>?_,b5⟩;exact O.le_trans (hU' _ (by lia)) (hU' (lo+(l+r) / 2) (by lia)) (hU' _ (by lia)) (q3 i (lo+(l+r) / 2) i1 (by lia) (by lia)) e
  case ipost=>
   rintro c st'' ⟨rfl,l,r,rfl,b1,b4,b5⟩;show c6 _ _ _ _ (moveDown' (lo+k) (lo+l) >>= λ_=>pure (vp (aj,()))) _ _;rw[moveDown'_eq];refine aI (iL (aT ⟨rfl,⟨q1.kd,q1.fl,(bubble_perm _ _ _).trans q1.pm,λj hj=>?_⟩,q2,?_⟩))
   ·show gt (ou (am st'') (lo+k) (lo+k-(lo+l))) j=_;rw[xW (by lia) (by lia),az (by lia),az (by lia)];exact q1.out j hj
   ·rw[show min (k+1) n=k+1 by lia];intro i j a1 a2 a3;show blt (gt (ou (am st'') (lo+k) (lo+k-(lo+l))) j) (gt (ou (am st'') (lo+k) (lo+k-(lo+l))) i)=ag;rw[xW (by lia) (by lia),xW (by lia) (by lia),show lo+k-(lo+k-(lo+l))=lo+l by lia]
    repeat' split
    all_goals first
     | (exfalso;lia)
     |exact O.irr _ (hU' _ (by lia))
     |exact b4 _ (by lia) (by lia)
     |exact O.aCo (hU' _ (by lia)) (hU' _ (by lia)) (b5 _ (by lia) (by lia))
     |exact q3 _ _ (by lia) (by lia) (by lia)
end
section
variable {blt:au->au->aq}
def Runs(blt:au->au->aq)(a:aE au):aa (ah×ah×ah)->ah->ah->Prop
 |[],b,e=>b=e
 | (s,n,_)::r,b,e=>s=b/\0<n/\Srt blt a b (b+n)/\Runs blt a r (b+n) e
theorem Runs.le{a:aE au}:∀{l:aa (ah×ah×ah)}{b e:ah},Runs blt a l b e->b+l.length<=e
 |[],b,e,h=>by have:b=e:=h;simp;lia
 | (s,n,p)::r,b,e,h=>by
  obtain⟨_,h1,_,h2⟩:=h;have:=Runs.le h2;rw[cr];lia
theorem Runs.app{a:aE au}:∀{l r:aa (ah×ah×ah)}{b e:ah},Runs blt a (l++r) b e↔∃m,Runs blt a l b m/\Runs blt a r m e
 |[],r,b,e=>⟨λh=>⟨b,rfl,h⟩,λz0=>by obtain⟨m,h1,h2⟩:=z0;have:b=m:=h1;subst this;exact h2⟩
 | (s,n,p)::l,r,b,e=>by
  constructor
  ·rintro⟨h1,h2,h3,h4⟩;obtain⟨m,h5,h6⟩:=Runs.app.mp h4;exact⟨m,⟨h1,h2,h3,h5⟩,h6⟩
  ·rintro⟨m,⟨h1,h2,h3,h5⟩,h6⟩;exact⟨h1,h2,h3,Runs.app.mpr ⟨m,h5,h6⟩⟩
theorem Runs.out{a a':aE au}:∀{l:aa (ah×ah×ah)}{b e:ah},Runs blt a l b e->(∀j,b<=j->j<e->gt a' j=gt a j)->Runs blt a' l b e
 |[],b,e,h,_=>h
 | (s,n,p)::l,b,e,⟨h1,h2,h3,h4⟩,q=>by
  have:=h4.le;exact⟨h1,h2,h3.out λj j1 j2=>q j j1 (by lia),Runs.out h4 λj j1 j2=>q j (by lia) j2⟩
theorem Runs.two{a : aE au}{l1 l2 : aa (ah × ah × ah)}{sa na p sb nb q b e : ah}(h : Runs blt a (l1 ++ (sa,na,p) :: (sb,nb,q) :: l2) b e) :
  b<=sa/\sb=sa+na/\0<na/\0<nb/\sb+nb<=e/\Srt blt a sa (sa+na)/\Srt blt a sb (sb+nb):=by
 obtain⟨m,h1,h2,h3,h4,h5,h6,h7,h8⟩:=Runs.app.mp h;subst h2 h5;have e1:=h1.le;have e2:=h8.le;exact⟨by lia,rfl,h3,h6,by lia,h4,h7⟩
theorem Runs.merge{a a':aE au}{l1 l2:aa (ah×ah×ah)}{sa na p sb nb q b e:ah}(h:Runs blt a (l1++(sa,na,p)::(sb,nb,q)::l2) b e)
 (ho:∀j,j<sa\/sb+nb<=j->gt a' j=gt a j)(hs:Srt blt a' sa (sb+nb)):Runs blt a' (l1++(sa,na+nb,p)::l2) b e:=by
 obtain⟨m,h1,h2,h3,h4,h5,h6,h7,h8⟩:=Runs.app.mp h;subst h2 h5;have e1:=h1.le;have e2:=h8.le;refine Runs.app.mpr ⟨sa,h1.out λj _ j2=>ho j (by lia),rfl,by lia,?_,?_⟩
 ·rw[<-ze];exact hs
 ·rw[<-ze];exact h8.out λj j1 _=>ho j (by lia)
theorem ers{p:aE (ah×ah×ah)}{i:ah}{x y v:ah×ah×ah}{l1 l2:aa (ah×ah×ah)}(h:p.toList=l1++x::y::l2)(hi:l1.length=i) :
  ((p.setIfInBounds i v).eraseIdxIfInBounds (i+1)).toList=l1++v::l2:=by
 have hz:p.size=l1.length+(l2.length+2):=by
  have:=di fx h;simpa using this
 have:i+1<(p.setIfInBounds i v).size:=by rw[zb];lia
 rw[Array.eraseIdxIfInBounds,ov this,Array.toList_eraseIdx,zc,h,zf _ _ (by lia),show i-l1.length=0 by lia,List.set_cons_zero,
  List.eraseIdx_append_of_length_le (by lia),show i+1-l1.length=1 by lia]
 rfl
theorem aJj{p:aE (ah×ah×ah)}{i:ah}(h:i+1<p.size):∃x y l1 l2,p.toList=l1++x::y::l2/\l1.length=i/\p[i]?=ae x/\p[i+1]?=ae y:=by
 refine⟨p[i],p[i+1],p.toList.take i,p.toList.drop (i+2),?_,?_,by simp,by simp⟩
 ·conv=>lhs;rw[<-jd i p.toList]
  rw[gq (by simp;lia),gq (i:=i+1) (by simp;lia)];rfl
 ·simp;lia
end
section
variable {prog:bu} {w:bo} {A:bP} {E:ak->ao->Prop} {s:ao} {kd:f_} {U:au->Prop} {blt:au->au->aq}
structure Bs(U:au->Prop)(kd:f_)(a₀:aE au)(st:cg):Prop where
 kd:kindOf st=kd
 fl:fq st=aj
 pm:(am st).Perm a₀
theorem Bs.stp{a₀:aE au}{st st':cg}{lo hi:ah}(b:Bs U kd a₀ st)(h:Stp lo hi st st'):Bs U kd a₀ st':=⟨h.kd.trans b.kd,h.fl.trans b.fl,h.pm.trans b.pm⟩
theorem GR{a:aE au}(pw:ah):∀(i:ah){l:aa (ah×ah×ah)}{b e:ah},Runs blt a l b e->Runs blt a (l.modify i λx=>(x.1,x.2.1,pw)) b e
 |_,[],_,_,h=>by
  rw[List.modify_nil];exact h
 |0,(s,n,p)::l,b,e,h=>h
 |i+1,(s,n,p)::l,b,e,⟨h1,h2,h3,h4⟩=>⟨h1,h2,h3,GR pw i h4⟩
theorem xX(O:Ord U blt)(hL:W5 prog w A E s kd U blt){a₀:aE au}(hU:t_ U a₀){st:cg}{e i:ah}{Q:aq->cg->Prop}(B:Bs U kd a₀ st)(he:e<=a₀.size)(R:Runs blt (am st) (bn st).toList 0 e)
 (hi:i+1<(bn st).size)
 (h:∀st',Bs U kd a₀ st'->Runs blt (am st') (bn st').toList 0 e->(bn st').size+1=(bn st).size->(∀j,e<=j->gt (am st') j=gt (am st) j)->Q af st'):c6 (ax prog w) A E s (mergeAt' i) Q st:=by
 obtain⟨⟨sa,na,p⟩,⟨sb,nb,q⟩,l1,l2,e1,e2,e3,e4⟩:=aJj hi;rw[e1] at R;obtain⟨r1,r2,r3,r4,r5,r6,r7⟩:=R.two;have hz:(am st).size=a₀.size:=B.pm.size_eq;refine Q8 O hL B.kd (bJ hU B.pm) B.fl e3 e4 r2 (by lia) r3 r4 r6 r7 λst' S Z P=>?_
 have P':(bn st').toList=l1++(sa,na+nb,p)::l2:=by rw[P];exact ers e1 e2
 refine h st' (B.stp S) ?_ ?_ λj hj=>S.out j (by lia)
 ·rw[P'];exact R.merge S.out Z
 ·have h1:=di fx P';have h2:=di fx e1;simp at h1 h2;lia
theorem wpS_sortRuns(O:Ord U blt)(hL:W5 prog w A E s kd U blt){a₀:aE au}(hU:t_ U a₀){st:cg}{Q:gN->cg->Prop}(B:Bs U kd a₀ st)(hp:bn st=#[])(hz:0<a₀.size)
 (h:∀st',Bs U kd a₀ st'->Srt blt (am st') 0 a₀.size->Q () st'):c6 (ax prog w) A E s sortRuns' Q st:=by
 have sz:∀{st':cg},Bs U kd a₀ st'->(am st').size=a₀.size:=λb=>b.pm.size_eq
 rw[sortRuns'_eq];refine aI (gr ?_);dsimp only;rw[sz B];generalize minRun' a₀.size a₀.size 0=minrun;refine aI (dw (dy
  (I:=λx c st'=>∃lo,c=(aj,lo)/\lo<=a₀.size/\(x<=lo\/lo=a₀.size)/\Bs U kd a₀ st'/\Runs blt (am st') (bn st').toList 0 lo)
  (Q:=λc st'=>c=(aj,a₀.size)/\Bs U kd a₀ st'/\Runs blt (am st') (bn st').toList 0 a₀.size) ?step ?fin ?init) ?post)
 case init=>exact⟨0,rfl,eS _,.inl (bi _),B,by rw[hp];rfl⟩
 case fin=>
  rintro c st' ⟨lo,rfl,a1,a2,b,r⟩;obtain rfl:lo=a₀.size:=by lia
  exact⟨rfl,b,r⟩
 case step=>
  rintro x c st1 _ hx ⟨lo,rfl,a1,a2,b,r⟩;dsimp only;by_cases hge:lo >= a₀.size
  ·rw[av hge];obtain rfl:lo=a₀.size:=by lia
   exact aT ⟨rfl,b,r⟩
  rw[az hge];refine aI (wpS_countRun O hL b.kd (bJ hU b.pm) (by rw[sz b];lia) (by lia) λm st2 S2 P2 m1 m2 Z2=>?_);dsimp only;have b2:=b.stp S2;have r2:Runs blt (am st2) (bn st2).toList 0 lo:=by rw[P2];exact r.out λj _ j2=>S2.out j (.inl j2)
  have rest:∀(n:ah),1<=n->lo+n<=a₀.size->∀(st4:cg),Bs U kd a₀ st4->∀l,(bn st4).toList=l++[(lo,n,0)]->Runs blt (am st4) l 0 lo->Srt blt (am st4) lo (lo+n)->
    ∃lo',((aj,lo+n):ay gN×ah)=(aj,lo')/\lo'<=a₀.size/\(x+1<=lo'\/lo'=a₀.size)/\Bs U kd a₀ st4/\Runs blt (am st4) (bn st4).toList 0 lo':=by
   intro n n1 n2 st4 b4 l e r4 z4;refine⟨lo+n,rfl,n2,?_,b4,?_⟩
   ·rcases a2 with a2|a2
    ·exact .inl (by lia)
    ·lia
   ·rw[e];exact Runs.app.mpr ⟨lo,r4,rfl,by lia,z4,rfl⟩
  by_cases hm:m<minrun
  ·rw[av hm];refine aI (jb (km ⟨rfl,?_⟩));refine aI (wpS_binarySort O hL b2.kd (bJ hU b2.pm) (by rw[sz b2];lia) (by lia) Z2 λst3 S3 P3 Z3=>?_);simp only[kQ,db,cx];have b3:=b2.stp S3;have r3:Runs blt (am st3) (bn st3).toList 0 lo:=by rw[P3];exact r2.out λj _ j2=>S3.out j (.inl j2)
   have hmm:1<=min (a₀.size-lo) minrun/\lo+min (a₀.size-lo) minrun<=a₀.size:=⟨by lia,by lia⟩
   refine aI (gr ?_);cases hbk:(bn st3).back? with
   |none=>
    dsimp only;refine aI (iL (aT (rest (min (a₀.size-lo) minrun) (by lia) (by lia) _ ⟨b3.kd,b3.fl,b3.pm⟩ _ ?_ r3 Z3)));show((bn st3).push (lo,(min (a₀.size-lo) minrun),0)).toList=_;rw[kU]
   |some t=>
    obtain⟨s1,n1',pw1⟩:=t;dsimp only;refine aI (dw (dy
     (I:=λy c st'=>c=(aj,())/\Bs U kd a₀ st'/\Runs blt (am st') (bn st').toList 0 lo/\∀j,lo<=j->gt (am st') j=gt (am st3) j)
     (Q:=λc st'=>c=(aj,())/\Bs U kd a₀ st'/\Runs blt (am st') (bn st').toList 0 lo/\∀j,lo<=j->gt (am st') j=gt (am st3) j) ?mstep (λc st' q=>q) ⟨rfl,b3,r3,λ_ _=>rfl⟩) ?mpost)
    case mpost=>
     rintro c st4 ⟨rfl,b4,r4,o4⟩;dsimp only;refine aI (iL (aI (iL (aT (rest (min (a₀.size-lo) minrun) (by lia) (by lia) _ ⟨b4.kd,b4.fl,b4.pm⟩ _ ?_ (GR (power' a₀.size (2*s1+n1') (2*s1+n1'+n1'+min (a₀.size-lo) minrun) a₀.size) ((bn st4).size-1) r4) (Z3.out λj j1 j2=>o4 j j1))))));show(((bn st4).modify _ _).push (lo,(min (a₀.size-lo) minrun),0)).toList=_;rw[kU,zg]
    case mstep=>
     rintro y c st4 _ hy ⟨rfl,b4,r4,o4⟩;refine aI (gr ?_);by_cases hp:(bn st4).size > 1
     ·rw[av hp];obtain⟨t,ht⟩:∃t,(bn st4)[(bn st4).size-2]?=ae t:=⟨_,zh _ _ (by lia)⟩
      rw[ht];obtain⟨t1,t2,older⟩:=t;dsimp only;split
      ·exact aT ⟨rfl,b4,r4,o4⟩
      ·refine aI (xX O hL hU b4 (by lia) r4 (by lia) λst5 b5 r5 _ o5=>?_);simp only[kQ,db,cx];exact aT ⟨rfl,b5,r5,λj hj=>(o5 j hj).trans (o4 j hj)⟩
     ·rw[az hp];exact aT ⟨rfl,b4,r4,o4⟩
  ·rw[az hm];refine aI (gr ?_);cases hbk:(bn st2).back? with
   |none=>
    dsimp only;refine aI (iL (aT (rest m (by lia) (by lia) _ ⟨b2.kd,b2.fl,b2.pm⟩ _ ?_ r2 Z2)));show((bn st2).push (lo,m,0)).toList=_;rw[kU]
   |some t=>
    obtain⟨s1,n1',pw1⟩:=t;dsimp only;refine aI (dw (dy
     (I:=λy c st'=>c=(aj,())/\Bs U kd a₀ st'/\Runs blt (am st') (bn st').toList 0 lo/\∀j,lo<=j->gt (am st') j=gt (am st2) j)
     (Q:=λc st'=>c=(aj,())/\Bs U kd a₀ st'/\Runs blt (am st') (bn st').toList 0 lo/\∀j,lo<=j->gt (am st') j=gt (am st2) j) ?mstep (λc st' q=>q) ⟨rfl,b2,r2,λ_ _=>rfl⟩) ?mpost)
    case mpost=>
     rintro c st4 ⟨rfl,b4,r4,o4⟩;dsimp only;refine aI (iL (aI (iL (aT (rest m (by lia) (by lia) _ ⟨b4.kd,b4.fl,b4.pm⟩ _ ?_ (GR (power' a₀.size (2*s1+n1') (2*s1+n1'+n1'+m) a₀.size) ((bn st4).size-1) r4) (Z2.out λj j1 j2=>o4 j j1))))));show(((bn st4).modify _ _).push (lo,m,0)).toList=_;rw[kU,zg]
    case mstep=>
     rintro y c st4 _ hy ⟨rfl,b4,r4,o4⟩;refine aI (gr ?_);by_cases hp:(bn st4).size > 1
     ·rw[av hp];obtain⟨t,ht⟩:∃t,(bn st4)[(bn st4).size-2]?=ae t:=⟨_,zh _ _ (by lia)⟩
      rw[ht];obtain⟨t1,t2,older⟩:=t;dsimp only;split
      ·exact aT ⟨rfl,b4,r4,o4⟩
      ·refine aI (xX O hL hU b4 (by lia) r4 (by lia) λst5 b5 r5 _ o5=>?_);simp only[kQ,db,cx];exact aT ⟨rfl,b5,r5,λj hj=>(o5 j hj).trans (o4 j hj)⟩
     ·rw[az hp];exact aT ⟨rfl,b4,r4,o4⟩
 case post=>
  rintro c st1 ⟨rfl,b,r⟩;dsimp only;have hle:=r.le;rw[gj] at hle;refine aI (dw (dy
   (I:=λx c st'=>c=(aj,())/\Bs U kd a₀ st'/\Runs blt (am st') (bn st').toList 0 a₀.size/\((bn st').size+x<=a₀.size\/(bn st').size<=1))
   (Q:=λc st'=>c=(aj,())/\Bs U kd a₀ st'/\Runs blt (am st') (bn st').toList 0 a₀.size/\(bn st').size<=1) ?fstep ?ffin ?finit) ?fpost)
  case finit=>exact⟨rfl,b,r,.inl (by lia)⟩
  case ffin=>
   rintro c st' ⟨rfl,q1,q2,q3⟩;exact⟨rfl,q1,q2,by lia⟩
  case fpost=>
   rintro c st' ⟨rfl,q1,q2,q3⟩;refine aT (h st' q1 ?_)
   match hl:(bn st').toList with
   |[]=>rw[hl] at q2;have:0=a₀.size:=q2;lia
   |[(s0,n0,p0)]=>
    rw[hl] at q2;obtain⟨_,_,z,e⟩:=q2;have e:0+n0=a₀.size:=e;rw[e] at z;exact z
   |_::_::_=>
    have:=di fx hl;rw[gj] at this;simp at this;lia
  case fstep=>
   rintro x c st4 _ hx ⟨rfl,b4,r4,o4⟩;refine aI (gr ?_);by_cases hp1:(bn st4).size<=1
   ·rw[av hp1];exact aT ⟨rfl,b4,r4,hp1⟩
   rw[az hp1];refine aI (xX O hL hU b4 (bi _) r4 ?hi λst5 b5 r5 e5 _=>?_)
   case hi=>
    repeat' split
    all_goals lia
   simp only[kQ,db,cx];exact aT ⟨rfl,b5,r5,by lia⟩
end
end TS
namespace Mi
open PySem
inductive D where
 |uD|non|bl (b:aq)|int (i:ai)|str (x:Str)
 |tup (xs:aa D)|lst (xs:aa D)|dct (kvs:aa (D×D))|scr (xs:aa D)|fdc (kvs:aa (D×D))|cel (a:ah) (xs:aa D)|exc (c:Str) (fs:aa (Str×Str))|ins (c:Str) (fs:aa (Str×D))|adr (a:ah)|dcl (a:ah) (kvs:aa (D×D))
 deriving Inhabited
noncomputable def aN6:D->aq
 |.int _=>af
 |_=>ag
noncomputable def isT0:D->aq
 |.tup _=>af
 |_=>ag
def K8(kvs:aa (D×D)):aq:=!kvs.isEmpty&&kvs.all (λp=>!isT0 p.1&&aN6 p.2)
mutual
noncomputable def D.pure:D->aq
 |.tup xs=>D.aW xs
 |.lst _=>ag
 |.dct _=>ag
 |.uD=>ag
 |.scr xs=>D.aW xs
 |.fdc kvs=>K8 kvs
 |.cel _ _=>ag
 |.exc _ _=>ag
 |.ins _ _=>ag
 |.adr _=>ag
 |.dcl _ _=>ag
 |_=>af
noncomputable def D.aW:aa D->aq
 |[]=>af
 |x::xs=>x.pure&&D.aW xs
end
mutual
noncomputable def eqD:D->D->aq
 |.non,.non=>af
 |.bl a,.bl b=>a==b
 |.int a,.int b=>a==b
 |.bl a,.int b=>(if a then (1:ai) else 0)==b
 |.int a,.bl b=>a==(if b then (1:ai) else 0)
 |.str a,.str b=>a==b
 |.tup xs,.tup ys=>xY xs ys
 |.lst xs,.lst ys=>xY xs ys
 |_,_=>ag
noncomputable def xY:aa D->aa D->aq
 |[],[]=>af
 |x::xs,y::ys=>eqD x y&&xY xs ys
 |_,_=>ag
end
theorem aJk(a b:ai):eqD (.int a) (.int b)=(a==b):=id rfl
theorem aJl(a b:Str):eqD (.str a) (.str b)=(a==b):=id rfl
theorem aJm(a:ai)(b:Str):eqD (.int a) (.str b)=ag:=id rfl
theorem aJn(a:Str)(b:ai):eqD (.str a) (.int b)=ag:=id rfl
theorem aJo(a b:aa D):eqD (.tup a) (.tup b)=xY a b:=id rfl
mutual
noncomputable def D.fY:ah->D->aq
 |n+1,.tup xs=>D.dW n xs
 |n+1,.lst xs=>D.dW n xs
 |0,.tup _=>ag
 |0,.lst _=>ag
 |_,.dct _=>ag
 |_,.uD=>ag
 |_,.scr _=>ag
 |_,.fdc _=>ag
 |_,.cel _ _=>ag
 |_,.exc _ _=>ag
 |_,.ins _ _=>ag
 |_,.adr _=>ag
 |_,.dcl _ _=>ag
 |_,_=>af
noncomputable def D.dW:ah->aa D->aq
 |_,[]=>af
 |n,x::xs=>D.fY n x&&D.dW n xs
end
inductive iJ where|lt|le|gt|ge
 deriving gw
def iJ.int:iJ->ai->ai->aq
 |.lt,a,b=>ϒ (a<b)|.le,a,b=>ϒ (a<=b)|.gt,a,b=>ϒ (b<a)|.ge,a,b=>ϒ (b<=a)
def iJ.nat:iJ->ah->ah->aq
 |.lt,a,b=>ϒ (a<b)|.le,a,b=>ϒ (a<=b)|.gt,a,b=>ϒ (b<a)|.ge,a,b=>ϒ (b<=a)
noncomputable def Z9(a b:Str):aq:=ϒ (a.cps.toList<b.cps.toList)
def iJ.str:iJ->Str->Str->aq
 |.lt,a,b=>Z9 a b|.le,a,b=>!Z9 b a|.gt,a,b=>Z9 b a|.ge,a,b=>!Z9 a b
mutual
noncomputable def jF(o:iJ):D->D->ay aq
 |.int a,.int b=>ae (o.int a b)
 |.str a,.str b=>ae (o.str a b)
 |.tup xs,.tup ys=>jX o xs ys
 |_,_=>aj
noncomputable def jX(o:iJ):aa D->aa D->ay aq
 |[],ys=>ae (o.nat 0 ys.length)
 |x::xs,[]=>ae (o.nat (x::xs).length 0)
 |x::xs,y::ys=>if eqD x y then jX o xs ys else jF o x y
end
inductive Res(α:Type) where
 |ok (a:α)|err (c:Str) (as:aa D)|bad
noncomputable def Res.bind{α β:Type}:Res α->(α->Res β)->Res β
 |.ok a,f=>f a
 |.err c as,_=>.err c as
 |.bad,_=>.bad
noncomputable instance:Monad Res where
 pure:=.ok
 bind:=Res.bind
@[simp] theorem Res.aU(a:α)(f:α->Res β):((Res.ok a) >>= f)=f a:=rfl
@[simp] theorem Res.aLi(c:Str)(as:aa D)(f:α->Res β):((Res.err c as:Res α) >>= f)=.err c as:=rfl
@[simp] theorem Res.aLj(f:α->Res β):((Res.bad:Res α) >>= f)=.bad:=rfl
@[simp] theorem Res.pure_eq(a:α):(pure a:Res α)=.ok a:=rfl
theorem Res.aGi{f:α->Res β}(h:(m >>= f)=.ok b):∃a,m=.ok a/\f a=.ok b:=by
 cases m with
 |ok a=>exact⟨a,rfl,h⟩
 |err c as=>cases h
 |bad=>cases h
theorem bx{P:Prop}(h:(Res.bad:Res α)=.ok d):P:=by cases h
theorem fx0{P:Prop}(h:ag=af):P:=by cases h
theorem nx0{P:Prop}(h:(aj:ay α)=ae d):P:=by cases h
noncomputable def Res.ofOpt{α:Type}:ay α->Res α
 |some a=>.ok a
 |none=>.bad
@[simp] theorem Res.aIb(a:α):Res.ofOpt (ae a)=.ok a:=rfl
theorem Res.lN(h:Res.ofOpt o=.ok a):o=ae a:=by
 cases o with
 |none=>cases h
 |some b=>cases h;rfl
noncomputable def lim:ah:=1000000
inductive Bop where|add|sub|mul|fdiv|mod|pow
 deriving gw
inductive Cop where|eq|ne|ord (o:iJ)|isin|notin|isN|notN
 deriving gw
noncomputable def kJ(i:ai):aq:=ϒ (-(2 ^ 64)<i)&&ϒ (i<2 ^ 64)
def aQ:Bop->D->D->Res D
 |.add,.int a,.int b=>.ok (.int (a+b))
 |.sub,.int a,.int b=>.ok (.int (a-b))
 |.mul,.int a,.int b=>if kJ a||kJ b then .ok (.int (a*b)) else .bad
 |.fdiv,.int a,.int b=>if ϒ (0<b)&&ϒ (b<1073741824) then .ok (.int (a / b)) else .bad
 |.mod,.int a,.int b=>if ϒ (0<b) then .ok (.int (a % b)) else .bad
 |.pow,.int a,.int b=>if ϒ (0<=b)&&ϒ (b<=1000000)&&ϒ (a.natAbs<2 ^ 64) then .ok (.int (a ^ b.toNat)) else .bad
 |.add,.str a,.str b=>if ϒ (a.length+b.length<=lim) then .ok (.str (a++b)) else .bad
 |.add,.lst a,.lst b=>if ϒ (a.length+b.length<=lim)&&D.aW a&&D.aW b then .ok (.lst (a++b)) else .bad
 |_,_,_=>.bad
def aN7:D->Res aq
 |.non=>.ok ag
 |.bl b=>.ok b
 |.int i=>.ok (i !=0)
 |.str x=>if ϒ (x.length<=lim) then .ok ((x.length:ai)!=0) else .bad
 |.tup xs=>.ok (!xs.isEmpty)
 |.lst xs=>.ok (!xs.isEmpty)
 |.dct kvs=>.ok (!kvs.isEmpty)
 |.uD=>.bad
 |.fdc _=>.bad
 |.cel _ _=>.bad
 |.exc _ _=>.bad
 |.ins _ _=>.bad
 |.adr _=>.bad
 |.dcl _ _=>.bad
 |.scr xs=>.ok (!xs.isEmpty)
def u_:D->aq
 |.int _=>af
 |.str _=>af
 |_=>ag
def keyOk:D->aq
 |.int _=>af
 |.str _=>af
 |.tup xs=>xs.all u_
 |_=>ag
noncomputable def isTup:D->aq
 |.tup _=>af
 |_=>ag
def bR:aa (D×D)->D->ay D
 |[],_=>aj
 | (k,v)::r,q=>if eqD k q then ae v else bR r q
def putD:aa (D×D)->D->D->aa (D×D)
 |[],q,w=>[(q,w)]
 | (k,v)::r,q,w=>if eqD k q then (k,w)::r else (k,v)::putD r q w
def zT(kvs:aa (D×D))(k:D):aq:=keyOk k&&kvs.all (λp=>isTup p.1==isTup k)
noncomputable def aR:ah:=12
def b8:Cop->D->D->Res D
 |.eq,a,b=>if a.fY aR&&b.fY aR then .ok (.bl (eqD a b)) else .bad
 |.ne,a,b=>if a.fY aR&&b.fY aR then .ok (.bl (!eqD a b)) else .bad
 |.ord o,a,b=>if a.fY aR&&b.fY aR then (match jF o a b with|some k=>.ok (.bl k)|none=>.bad) else .bad
 |.isin,a,.tup ys=>if a.fY aR&&D.dW aR ys then .ok (.bl (ys.any λy=>eqD y a)) else .bad
 |.isin,a,.lst ys=>if a.fY aR&&D.dW aR ys then .ok (.bl (ys.any λy=>eqD y a)) else .bad
 |.isin,a,.dct kvs=>if zT kvs a then .ok (.bl (bR kvs a).isSome) else .bad
 |.notin,a,.tup ys=>if a.fY aR&&D.dW aR ys then .ok (.bl (!(ys.any λy=>eqD y a))) else .bad
 |.notin,a,.lst ys=>if a.fY aR&&D.dW aR ys then .ok (.bl (!(ys.any λy=>eqD y a))) else .bad
 |.notin,a,.dct kvs=>if zT kvs a then .ok (.bl (!(bR kvs a).isSome)) else .bad
 |.isN,.scr _,.non=>.bad
 |.notN,.scr _,.non=>.bad
 |.isN,.fdc _,.non=>.bad
 |.notN,.fdc _,.non=>.bad
 |.isN,.cel _ _,.non=>.bad
 |.notN,.cel _ _,.non=>.bad
 |.isN,.non,.non=>.ok (.bl af)
 |.isN,a,.non=>.ok (.bl ag)
 |.notN,.non,.non=>.ok (.bl ag)
 |.notN,a,.non=>.ok (.bl af)
 |_,_,_=>.bad
noncomputable def ixD(n:ah)(i:ai):ay ah:=if 0<=i then (if i<n then ae i.toNat else aj) else if -(n:ai)<=i then ae (i+n).toNat else aj
def getD(d i:D):Res D:=
 match d,i with
 |.tup xs,.int i=>Res.ofOpt ((ixD xs.length i).bind λj=>xs[j]?)
 |.lst xs,.int i=>Res.ofOpt ((ixD xs.length i).bind λj=>xs[j]?)
 |.scr xs,.int i=>Res.ofOpt ((ixD xs.length i).bind λj=>xs[j]?)
 |.cel _ xs,.int i=>Res.ofOpt ((ixD xs.length i).bind λj=>xs[j]?)
 |.str x,.int i=>if ϒ (x.length<=lim) then Res.ofOpt (((ixD x.cps.toList.length i).bind λj=>x.cps.toList[j]?).map λc=>D.str ⟨#[c]⟩) else .bad
 |.dct kvs,k=>if keyOk k then Res.ofOpt (bR kvs k) else .bad
 |.fdc kvs,k=>if keyOk k then Res.ofOpt (bR kvs k) else .bad
 |_,_=>.bad
noncomputable def zU(n d:ah):ay ai->ah
 |none=>d
 |some v=>if v<0 then (max (v+(n:ai)) 0).toNat else (min v (n:ai)).toNat
def cutD{α:Type}(xs:aa α)(lo hi:ay ai):aa α:=(xs.drop (zU xs.length 0 lo)).take (zU xs.length xs.length hi-zU xs.length 0 lo)
mutual
noncomputable def D.plain:D->aq
 |.int _=>af
 |.str _=>af
 |.tup xs=>D.gM xs
 |_=>ag
noncomputable def D.gM:aa D->aq
 |[]=>af
 |x::xs=>x.plain&&D.gM xs
end
mutual
noncomputable def enc:D->aa ai
 |.int i=>[0,i]
 |.str x=>1::(x.cps.toList.map (λ(c:ah)=>(c:ai)+1)++[0])
 |.tup xs=>2::P_ xs
 |_=>[]
noncomputable def P_:aa D->aa ai
 |[]=>[0]
 |x::xs=>1::(enc x++P_ xs)
end
def gG:D->ah
 |.int _=>1
 |.str _=>2
 |.tup (.int _::_)=>3
 |.tup (.str _::_)=>4
 |.tup (.tup _::_)=>5
 |_=>0
def bQ(xs:aa D):aq:=xs.all λa=>a.plain&&a.fY aR&&gG a !=0&&gG a==gG (xs.headD .non)&&xs.all λb=>(jF .lt a b).isSome
def leE(a b:D):aq:=!ϒ (enc b<enc a)
def i_(xs:aa D):aa D:=xs.mergeSort leE
noncomputable def xZ(i:ai):aq:=ϒ (-(2 ^ 62)<=i)&&ϒ (i<2 ^ 62)
noncomputable def asB:D->Res aq
 |.bl b=>.ok b
 |_=>.bad
noncomputable def asI:D->Res ai
 |.int i=>.ok i
 |_=>.bad
inductive Fl where
 |nx (ρ:aa D)|rt (d:D)|bk (ρ:aa D)|ct (ρ:aa D)
noncomputable def aDa:Fl->Res D
 |.rt d=>.ok d
 |.nx _=>.ok .non
 |_=>.bad
noncomputable abbrev FE:=aa D->Res D
noncomputable abbrev FT:=aa D->Res aq
noncomputable abbrev FA:=aa D->Res (aa D)
noncomputable def jH(i:ah):FE:=λρ=>match ρ.getD i .uD with|.uD=>.bad|d=>.ok d
noncomputable def bC(d:D):FE:=λ_=>.ok d
abbrev iK:FE:= jH 1
abbrev cH:FE:= jH 0
abbrev cJ:FE:= jH 3
abbrev iT:FE:= jH 8
abbrev d_:FE:= jH 4
abbrev zV:FE:= jH 7
abbrev dX:FE:= jH 2
abbrev lO:FE:= jH 6
abbrev o9:FE:= jH 9
abbrev iM:FE:= jH 5
abbrev gH:FE:= jH 11
abbrev gY:FE:= jH 14
abbrev mW:FE:= jH 12
abbrev x_:FE:= jH 13
abbrev wC:FE:= jH 10
abbrev GX:FE:= jH 16
abbrev cQ:FE:= bC (.int 0)
abbrev dG:FE:= bC (.int 1)
abbrev GZ:FE:= bC (.int 8)
abbrev aCq:FE:= bC (.int 3)
abbrev Z_:FE:= bC (.int 192)
abbrev zW:FE:= bC (.int 2)
abbrev K9:FE:= bC (.int 384)
abbrev aA0:FE:= bC (.int 26)
abbrev zX:FE:= bC (.int 7)
abbrev jY:FE:= bC (.int 10)
abbrev aF4:FE:= bC (.int 9)
abbrev zZ:FE:= bC (.int 50)
abbrev aIc:FE:= bC (.int 5)
abbrev aIe:FE:= bC (.int 4)
abbrev aJp:FE:= bC (.int 6)
noncomputable def b2(f:D->D->Res D)(a b:FE):FE:=λρ=>do let x <- a ρ;let y <- b ρ;f x y
noncomputable def b1(f:D->Res D)(a:FE):FE:=λρ=>do let x <- a ρ;f x
def bTB(a:FE):FT:=λρ=>do let x <- a ρ;asB x
noncomputable def aF5(a:FT):FT:=λρ=>do let x <- a ρ;pure (!x)
noncomputable def T8(a b:FT):FT:=λρ=>do let x <- a ρ;if x then b ρ else pure ag
noncomputable def bOr(a b:FT):FT:=λρ=>do let x <- a ρ;if x then pure af else b ρ
def aDb(a:FE):FE:=λρ=>do let x <- a ρ;let k <- asB x;pure (.bl (!k))
def G3(a b:FE):FE:=λρ=>do let x <- a ρ;let k <- asB x;if k then b ρ else pure (.bl ag)
def aMb(a b:FE):FE:=λρ=>do let x <- a ρ;let k <- asB x;if k then pure (.bl af) else b ρ
def bCh(f g:D->D->Res D)(a b c:FE):FE:=λρ=>do let x <- a ρ;let y <- b ρ;let z <- f x y;let k <- asB z;if k then (do let u <- c ρ;g y u) else pure (.bl ag)
noncomputable def aO:FA:=λ_=>.ok []
noncomputable def aB(a:FE)(b:FA):FA:=λρ=>do let x <- a ρ;let xs <- b ρ;pure (x::xs)
def cL(a:FA):FE:=λρ=>do let xs <- a ρ;if ϒ (xs.length<=lim) then pure (.tup xs) else .bad
def uT(a:FA):FE:=λρ=>do let xs <- a ρ;if ϒ (xs.length<=lim) then pure (.lst xs) else .bad
noncomputable def aL(f:aa D->Res D)(a:FA):FE:=λρ=>do let xs <- a ρ;f xs
def jJ(a:FE):aa D->Res (ay ai):=λρ=>do let x <- a ρ;let i <- asI x;pure (ae i)
noncomputable def o_:aa D->Res (ay ai):=λ_=>.ok aj
def aN8:D->Res aq
 |.dct _=>.bad
 |.scr _=>.bad
 |.fdc _=>.bad
 |d=>aN7 d
def bTr(a:FE):FT:=λρ=>do let x <- a ρ;aN8 x
noncomputable def YT:D->Res D
 |.int i=>.ok (.int (-i))
 |_=>.bad
def J9:D->ay ai->ay ai->Res D
 |.lst xs,lo,hi=>if D.aW xs then .ok (.lst (cutD xs lo hi)) else .bad
 |.scr xs,lo,hi=>if D.aW xs then .ok (.lst (cutD xs lo hi)) else .bad
 |.tup xs,lo,hi=>if !D.aW xs||ϒ (zU xs.length 0 lo=0/\zU xs.length xs.length hi=xs.length) then .bad else .ok (.tup (cutD xs lo hi))
 |_,_,_=>.bad
def YW(a:FE)(lo hi:aa D->Res (ay ai)):FE:=λρ=>do let x <- a ρ;let l <- lo ρ;let h <- hi ρ;J9 x l h
def p_(o:iJ):aa D->Res D
 |[]=>.bad
 |x::xs=>if ((x::xs).all λa=>a.fY aR&&(x::xs).all λb=>(jF o a b).isSome) then .ok (xs.foldl (λm y=>if (jF o y m).getD ag then y else m) x) else .bad
def btD(o:iJ)(ds:aa D)(i j:ah):aq:=(jF o (ds.getD i .non) (ds.getD j .non)).getD ag
def fL(o:iJ):aa D->Res D
 |[.lst xs]=>p_ o xs
 |[.tup xs]=>p_ o xs
 |[a,b]=>p_ o [a,b]
 |_=>.bad
def gJ:aa D->Res D
 |[.tup xs]=>.ok (.int xs.length)
 |[.lst xs]=>.ok (.int xs.length)
 |[.scr xs]=>.ok (.int xs.length)
 |[.cel _ xs]=>.ok (.int xs.length)
 |[.str x]=>if ϒ (x.length<=lim) then .ok (.int x.length) else .bad
 |_=>.bad
noncomputable def fG(kvs:aa (D×D)):aa D:=kvs.map (·.1)
def oV:aa D->Res D
 |[.tup xs]=>if D.aW xs then .ok (.lst xs) else .bad
 |[.lst xs]=>if D.aW xs then .ok (.lst xs) else .bad
 |[.dct kvs]=>if kvs.all (λp=>!isTup p.1) then .ok (.lst (fG kvs)) else .bad
 |_=>.bad
noncomputable def CQ:aa D->Res D
 |[.tup xs]=>.ok (.tup xs)
 |[.lst xs]=>.ok (.tup xs)
 |_=>.bad
def nG:aa D->Res D
 |[.lst xs]=>if bQ xs then .ok (.lst (i_ xs)) else .bad
 |_=>.bad
noncomputable def cF(n:ah)(f:aa D->Res D):aa D->Res D:=λds=>if ϒ (ds.length=n) then f ds else .bad
noncomputable abbrev FI:=aa D->Res (aa D×aq)
noncomputable def kO:D->Res (aa D)
 |.lst xs=>.ok xs
 |.tup xs=>.ok xs
 |.scr xs=>.ok xs
 |_=>.bad
def fZ(a:FE)(fr:aq):FI:=λρ=>do let x <- a ρ;let xs <- kO x;pure (xs,fr||x.pure)
def uB:aa D->Res (aa D×aq)
 |[.int n]=>if xZ n then .ok ((eu n.toNat).map λ(k:ah)=>D.int (0+(k:ai)),af) else .bad
 |_=>.bad
noncomputable def vA(f:FA)(g:aa D->Res (aa D×aq)):FI:=λρ=>do let xs <- f ρ;g xs
noncomputable def T9(n:ah)(ρ:aa D):aa D:=(eu n).map λi=>ρ.getD i .uD
noncomputable def uU:D->Res (aa D):=λd=>.ok [d]
noncomputable def aDc(m:ah):D->Res (aa D)
 |.tup ds=>if ϒ (ds.length=m) then .ok ds else .bad
 |_=>.bad
def z6(n:ah)(t:D->Res (aa D))(c:FT)(f:FE)(k:aq)(ρ:aa D)(acc:aa D)(x:D):Res (aa D):=do
 let bs <- t x
 let ok <- c (T9 n ρ++bs)
 if ok then (do
  let y <- f (T9 n ρ++bs)
  if k||y.pure then pure (acc++[y]) else .bad)
 else pure acc
noncomputable def G4(g:aa D->D->Res (aa D)):aa D->aa D->Res (aa D)
 |acc,[]=>.ok acc
 |acc,x::xs=>do let a <- g acc x;G4 g a xs
def dN(n:ah)(it:FI)(t:D->Res (aa D))(c:FT)(f:FE)(k:aq):FE:=λρ=>do
 let xs <- it ρ
 if ϒ (xs.1.length<=lim) then (do
  let ys <- G4 (z6 n t c f k ρ) [] xs.1
  pure (.lst ys)) else .bad
noncomputable def jA:FT:=λ_=>.ok af
noncomputable abbrev FS:=aa D->Res Fl
def inner:D->aq
 |.lst xs=>D.aW xs
 |.dct kvs=>D.aW (kvs.map (·.2))
 |.cel _ xs=>D.aW xs
 |.dcl _ kvs=>D.aW (kvs.map (·.2))
 |_=>ag
noncomputable def jM:FS:=λρ=>.ok (.nx ρ)
noncomputable def bI(f g:FS):FS:=λρ=>do
 let r <- f ρ
 match r with
 |.nx ρ'=>g ρ'
 |r=>.ok r
def b_(o:aq)(i:ah)(f:FE)(k:aq):FS:=λρ=>do
 let d <- f ρ
 if (if o then k&&inner d else k||d.pure) then .ok (.nx (ρ.set i d)) else .bad
def sAl(i j:ah):FS:=λρ=>do
 let d <- jH j ρ
 .ok (.nx (ρ.set i d))
noncomputable def sIf(c:FT)(f g:FS):FS:=λρ=>do
 let k <- c ρ
 if k then f ρ else g ρ
noncomputable def uV(f:FE)(k:aq):FS:=λρ=>do
 let d <- f ρ
 if k||d.pure then .ok (.rt d) else .bad
def Q9(i:ah):FS:=λρ=>do
 let d <- jH i ρ
 .ok (.rt d)
noncomputable def rtX:ah:=1000000
noncomputable def wD(f:FE):FS:=λρ=>do
 let _ <- f ρ
 .ok (.nx ρ)
def lJ(i:ah)(f:FE):FS:=λρ=>do
 let d <- f ρ
 match ρ.getD i .uD with
 |.lst xs=>if ϒ (xs.length<lim)&&d.pure then .ok (.nx (ρ.set i (.lst (xs++[d])))) else .bad
 |_=>.bad
def aJq(i:ah)(f:FE)(g:FE):FS:=λρ=>do
 let j <- f ρ
 let d <- g ρ
 match ρ.getD i .uD,j with
 |.lst xs,.int j=>if ϒ (xs.length<lim)&&d.pure&&ϒ (0<=j)&&ϒ (j<=xs.length) then .ok (.nx (ρ.set i (.lst (xs.take j.toNat++d::xs.drop j.toNat)))) else .bad
 |_,_=>.bad
def aDd(i:ah)(f:FE)(g:FE):FS:=λρ=>do
 let d <- g ρ
 let k <- f ρ
 match ρ.getD i .uD with
 |.dct kvs=>if ϒ (kvs.length<lim)&&zT kvs k&&d.pure then .ok (.nx (ρ.set i (.dct (putD kvs k d)))) else .bad
 |_=>.bad
noncomputable def tg1(i:ah):D->aa D->Res (aa D):=λd ρ=>.ok (ρ.set i d)
noncomputable def aA1:aa ah->aa D->aa D->aa D
 |i::is,d::ds,ρ=>aA1 is ds (ρ.set i d)
 |_,_,ρ=>ρ
def tgN(is:aa ah):D->aa D->Res (aa D)
 |.tup ds,ρ=>if ϒ (ds.length=is.length) then .ok (aA1 is ds ρ) else .bad
 |_,_=>.bad
noncomputable def lW(t:D->aa D->Res (aa D))(body:FS):aa D->aa D->Res Fl
 |[],ρ=>.ok (.nx ρ)
 |x::xs,ρ=>do
  let ρ1 <- t x ρ
  let r <- body ρ1
  match r with
  |.nx ρ'=>lW t body xs ρ'
  |.ct ρ'=>lW t body xs ρ'
  |.bk ρ'=>.ok (.nx ρ')
  |.rt d=>.ok (.rt d)
def Q_(it:FI)(t:D->aa D->Res (aa D))(body:FS):FS:=λρ=>do
 let xs <- it ρ
 if xs.2 then lW t body xs.1 ρ else .bad
def uC(i:ah)(t:D->aa D->Res (aa D))(body:FS):FS:=λρ=>do
 let d <- jH i ρ
 let xs <- kO d
 lW t body xs ρ
def fnS(n m:ah)(f:FS):aa D->Res D:=λds=>do
 let r <- f (ds++ck (m-n) .uD)
 aDa r
mutual
theorem aF6(a b:D)(h1:a.plain=af)(h2:b.plain=af)(h:eqD a b=af):a=b:=by
 cases a with
 |int i=>
  cases b with
  |int j=>rw[eq_of_beq (show(i==j)=af from h)]
  |str _=>exact fx0 h
  |tup _=>exact fx0 h
  |_=>exact fx0 h2
 |str i=>
  cases b with
  |str j=>rw[eq_of_beq (show(i==j)=af from h)]
  |int _=>exact fx0 h
  |tup _=>exact fx0 h
  |_=>exact fx0 h2
 |tup xs=>
  cases b with
  |tup ys=>rw[aA2 xs ys h1 h2 h]
  |int _=>exact fx0 h
  |str _=>exact fx0 h
  |_=>exact fx0 h2
 |_=>exact fx0 h1
theorem aA2:∀(a b:aa D),D.gM a=af->D.gM b=af->xY a b=af->a=b
 |[],[],_,_,_=>rfl
 |x::xs,y::ys,h1,h2,h=>by
  rw[D.gM,bj] at h1 h2;rw[xY,bj] at h;rw[aF6 x y h1.1 h2.1 h.1,aA2 xs ys h1.2 h2.2 h.2]
 |[],_::_,_,_,h=>by exact fx0 h
 |_::_,[],_,_,h=>by exact fx0 h
end
mutual
theorem wR(a:D)(h:a.plain=af):eqD a a=af:=by
 cases a with
 |int i=>exact mI i
 |str i=>exact mI i
 |tup xs=>exact K_ xs h
 |_=>exact fx0 h
theorem K_:∀(a:aa D),D.gM a=af->xY a a=af
 |[],_=>rfl
 |x::xs,h=>by
  rw[D.gM,bj] at h;rw[xY,wR x h.1,K_ xs h.2];rfl
end
theorem aA3:∀(a b:aa ah)(r t:aa ai),(a.map (λ(c:ah)=>(c:ai)+1)++[0])++r=(b.map (λ(c:ah)=>(c:ai)+1)++[0])++t->a=b/\r=t
 |[],[],r,t,h=>by simpa using h
 |[],c::b,r,t,h=>by
  simp only[kP,gd,ek,bw,iO] at h;lia
 |c::a,[],r,t,h=>by
  simp only[kP,gd,ek,bw,iO] at h;lia
 |c::a,d::b,r,t,h=>by
  simp only[ek,bw,iO] at h;obtain⟨e1,e2⟩:=aA3 a b r t h.2;exact⟨by rw[e1,show c=d by lia],e2⟩
mutual
theorem G5:∀(a b:D)(r t:aa ai),a.plain=af->b.plain=af->enc a++r=enc b++t->a=b/\r=t
 |.int i,b,r,t,_,h2,h=>by
  cases b<;>simp only[enc,D.plain,db,ek,iO,gd] at h h2<;>try omega
  ·exact⟨by rw[h.2.1],h.2.2⟩
 |.str x,b,r,t,_,h2,h=>by
  cases b with
  |str y=>
   simp only[enc,ek,iO,true_and] at h;obtain⟨e1,e2⟩:=aA3 _ _ _ _ h;refine⟨?_,e2⟩;cases x;cases y;simp only[] at e1
   congr 2
   exact kT.mp e1
  |_=>simp[enc,D.plain] at h h2
 |.tup xs,b,r,t,h1,h2,h=>by
  cases b with
  |tup ys=>
   rw[D.plain] at h1 h2;simp only[enc,ek,iO,true_and] at h;obtain⟨e1,e2⟩:=T_ xs ys r t h1 h2 h;exact⟨by rw[e1],e2⟩
  |_=>simp[enc,D.plain] at h h2
 |.uD,_,_,_,h,_,_=>by simp[D.plain] at h
 |.scr _,_,_,_,h,_,_=>by simp[D.plain] at h
 |.non,_,_,_,h,_,_=>by simp[D.plain] at h
 |.bl _,_,_,_,h,_,_=>by simp[D.plain] at h
 |.lst _,_,_,_,h,_,_=>by simp[D.plain] at h
 |.dct _,_,_,_,h,_,_=>by simp[D.plain] at h
theorem T_:∀(a b:aa D)(r t:aa ai),D.gM a=af->D.gM b=af->P_ a++r=P_ b++t->a=b/\r=t
 |[],[],r,t,_,_,h=>by simpa[P_] using h
 |[],_::_,r,t,_,_,h=>by simp[P_] at h
 |_::_,[],r,t,_,_,h=>by simp[P_] at h
 |x::xs,y::ys,r,t,h1,h2,h=>by
  rw[D.gM,bj] at h1 h2;simp only[P_,ek,iO,true_and,eh] at h;obtain⟨e1,e2⟩:=G5 x y _ _ h1.1 h2.1 h;obtain⟨e3,e4⟩:=T_ xs ys r t h1.2 h2.2 e2;exact⟨by rw[e1,e3],e4⟩
end
theorem aGj(h1:a.plain=af)(h2:b.plain=af)(h:enc a=enc b):a=b:=(G5 a b [] [] h1 h2 (by rw[h])).1
theorem RB(p:aa ai)(r t:aa ai):p++r<p++t↔r<t:=by
 induction p with
 |nil=>rfl
 |cons x p ih=>rw[ek,ek,gu];simp[ih]
theorem aF7:∀(u v r t:aa ai),(∀z,u++z≠v)->(∀z,v++z≠u)->(u++r<v++t↔u<v)
 |[],v,_,_,h,_=>bb rfl (h v)
 |u,[],_,_,_,h=>bb rfl (h u)
 |x::u,y::v,r,t,h1,h2=>by
  rw[ek,ek,gu,gu];by_cases e:x=y
  ·subst e;have:=aF7 u v r t (λz hz=>h1 z (by rw[ek,hz])) (λz hz=>h2 z (by rw[ek,hz]));simp[this]
  ·simp[e]
theorem aA4:∀(a b:aa ah),(a.map (λ(c:ah)=>(c:ai)+1)++[0]<b.map (λ(c:ah)=>(c:ai)+1)++[0])↔a<b
 |[],[]=>by simp
 |[],c::b=>by
  simp only[kP,gd,bw,ek,gu,List.nil_lt_cons,iff_true]
  left;lia
 |c::a,[]=>by
  simp only[kP,gd,bw,ek,gu,List.not_lt_nil,iff_false,kX,not_and];exact⟨by lia,λh=>by lia⟩
 |c::a,d::b=>by
  simp only[bw,ek,gu,aA4 a b];constructor
  ·rintro(h|⟨h,k⟩)
   ·left;lia
   ·right;exact⟨by lia,k⟩
  ·rintro(h|⟨h,k⟩)
   ·left;lia
   ·right;exact⟨by lia,k⟩
mutual
theorem RC:∀(a b:D)(k:aq),a.plain=af->b.plain=af->jF .lt a b=ae k->k=ϒ (enc a<enc b)
 |.int i,.int j,k,_,_,h=>by
  rw[jF] at h;rw[<-cz h];simp[enc,iJ.int,gu]
 |.str x,.str y,k,_,_,h=>by
  rw[jF] at h;rw[<-cz h];have:=aA4 x.cps.toList y.cps.toList;simp only[enc,iJ.str,Z9,gu,true_and];simp[this]
 |.tup xs,.tup ys,k,h1,h2,h=>by
  rw[D.plain] at h1 h2;rw[jF] at h;rw[UG xs ys k h1 h2 h];simp[enc,gu]
 |.int _,.str _,_,_,_,h=>by exact nx0 h
 |.int _,.tup _,_,_,_,h=>by exact nx0 h
 |.int _,.uD,_,_,_,h=>by exact nx0 h
 |.int _,.scr _,_,_,_,h=>by exact nx0 h
 |.int _,.non,_,_,_,h=>by exact nx0 h
 |.int _,.bl _,_,_,_,h=>by exact nx0 h
 |.int _,.lst _,_,_,_,h=>by exact nx0 h
 |.int _,.dct _,_,_,_,h=>by exact nx0 h
 |.str _,.int _,_,_,_,h=>by exact nx0 h
 |.str _,.tup _,_,_,_,h=>by exact nx0 h
 |.str _,.uD,_,_,_,h=>by exact nx0 h
 |.str _,.scr _,_,_,_,h=>by exact nx0 h
 |.str _,.non,_,_,_,h=>by exact nx0 h
 |.str _,.bl _,_,_,_,h=>by exact nx0 h
 |.str _,.lst _,_,_,_,h=>by exact nx0 h
 |.str _,.dct _,_,_,_,h=>by exact nx0 h
 |.tup _,.int _,_,_,_,h=>by exact nx0 h
 |.tup _,.str _,_,_,_,h=>by exact nx0 h
 |.tup _,.uD,_,_,_,h=>by exact nx0 h
 |.tup _,.scr _,_,_,_,h=>by exact nx0 h
 |.tup _,.non,_,_,_,h=>by exact nx0 h
 |.tup _,.bl _,_,_,_,h=>by exact nx0 h
 |.tup _,.lst _,_,_,_,h=>by exact nx0 h
 |.tup _,.dct _,_,_,_,h=>by exact nx0 h
 |.uD,_,_,h,_,_=>by simp[D.plain] at h
 |.scr _,_,_,h,_,_=>by simp[D.plain] at h
 |.non,_,_,h,_,_=>by simp[D.plain] at h
 |.bl _,_,_,h,_,_=>by simp[D.plain] at h
 |.lst _,_,_,h,_,_=>by simp[D.plain] at h
 |.dct _,_,_,h,_,_=>by simp[D.plain] at h
theorem UG:∀(a b:aa D)(k:aq),D.gM a=af->D.gM b=af->jX .lt a b=ae k->k=ϒ (P_ a<P_ b)
 |[],[],k,_,_,h=>by rw[jX] at h;rw[<-cz h];simp[P_,iJ.nat]
 |[],y::ys,k,_,_,h=>by rw[jX] at h;rw[<-cz h];simp[P_,iJ.nat,gu]
 |x::xs,[],k,_,_,h=>by rw[jX] at h;rw[<-cz h];simp[P_,iJ.nat,gu]
 |x::xs,y::ys,k,h1,h2,h=>by
  rw[D.gM,bj] at h1 h2;rw[jX] at h;simp only[P_,gu,true_and,zi,false_or];cases e:eqD x y with
  |true=>
   rw[e,av rfl] at h;have:=aF6 x y h1.1 h2.1 e;subst this;rw[UG xs ys k h1.2 h2.2 h];simp[RB]
  |false=>
   rw[e,az (by simp)] at h;rw[RC x y k h1.1 h2.1 h];have hne:x≠y:=λz=>by subst z;rw[wR x h1.1] at e;cases e
   have:=aF7 (enc x) (enc y) (P_ xs) (P_ ys) (λz hz=>hne (G5 x y z [] h1.1 h2.1 (by simpa using hz)).1) (λz hz=>hne (G5 y x z [] h2.1 h1.1 (by simpa using hz)).1.symm);simp[this]
end
theorem aA5(a b c:D)(h1:leE a b=af)(h2:leE b c=af):leE a c=af:=by
 simp only[leE,ko,ow] at *;exact λh=>by
  rcases(inferInstance:Std.Trichotomous (α:=aa ai) (·<·)) with _
  exact h1 (zk (zl.mp h2) h)
theorem aA6(a b:D):(leE a b||leE b a)=af:=by
 simp only[leE,iv,ko,ow];by_cases h:enc b<enc a
 ·right;exact List.lt_asymm h
 ·left;exact h
theorem gB(ds:aa D):(i_ ds).Perm ds:=List.mergeSort_perm ds leE
theorem nH(ds:aa D):(i_ ds).Pairwise λa b=>leE a b=af:=List.pairwise_mergeSort (λa b c=>aA5 a b c) (λa b=>aA6 a b) ds
theorem yC{ds es:aa D}(hp:∀d∈ds,d.plain=af)(h:ds.Perm es)(h1:ds.Pairwise λa b=>leE a b=af)(h2:es.Pairwise λa b=>leE a b=af):ds=es:=by
 refine Bj (λa b ha hb h1 h2=>?_) h1 h2 h;simp only[leE,ko,ow] at h1 h2;exact aGj (hp a ha) (hp b (h.mem_iff.mpr hb)) (List.le_antisymm h1 h2)
open L2
class KFrag where
 K:bz
variable [KFrag]
def aDe(H:Hp)(a:al)(xs:aa V):Prop:=(∃o,H a=ae (.frz o (.lst xs)))\/
 ∃(o:bf)(its:aE ak)(n:ah),KFrag.K.lookup a=ae o/\o.cls=.type "list"/\o.dict=aj/\o.data=.seq its n/\its.size<=bq/\Vals xs its.toList
theorem aDe.sq(h:aDe H a xs)(hK:KFrag.K=K):SqL K H a xs:=by
 subst hK;rcases h with ⟨o,h⟩|h
 ·exact .inl (.inr ⟨o,h⟩)
 ·exact .inr h
def kD:Key->D
 |.inl i=>.int i
 |.inr x=>.str x
noncomputable def W_:HO->aq
 |.lst _=>af
 |.dK _=>af
 |.dT _=>af
 |_=>ag
def XO(a C:al)(dx:ay al)(h:aS):Prop:=∃o,h.get? a=ae o/\o.cls=.ref C/\o.dict=dx/\∃vs,o.data=.fields vs
def XD(dx:al)(fs:aa (Str×Str))(h:aS):Prop:=∃mA,h.Ns1 dx mA/\xr mA (fs.map (·.1))/\∀f,match fs.lookup f with
 |some t=>∃tk,mA f=ae (.str t tk)
 |none=>mA f=aj
def XDs(H:Hp)(fs:aa (Str×Str)):ay al->Prop
 |none=>fs=[]
 |some d=>H d=ae (.ext (XD d fs))
mutual
inductive Rep(P:al->Prop)(H:Hp):V->D->Prop
 |non:Rep P H .non .non
 |bl (b:aq):Rep P H (.bl b) (.bl b)
 |int (i:ai):Rep P H (.int i) (.int i)
 |str (x:Str):Rep P H (.str x) (.str x)
 |tup {a:al} {xs:aa V} {ds:aa D}:H a=ae (.tup xs)->bW P H xs ds->Rep P H (.ref a) (.tup ds)
 |lst {a:al} {xs:aa V} {ds:aa D}:H a=ae (.lst xs)->P a->bW P H xs ds->Rep P H (.ref a) (.lst ds)
 |cel {a:al} {xs:aa V} {ds:aa D}:H a=ae (.lst xs)->P a->bW P H xs ds->Rep P H (.ref a) (.cel a ds)
 |frz {a:al} {xs:aa V} {ds:aa D}:aDe H a xs->bW P H xs ds->Rep P H (.ref a) (.scr ds)
 |dK {a:al} {kvs:aa (Key×V)} {ds:aa (D×D)}:H a=ae (.dK kvs)->P a->kE P H kvs ds->(kvs.map (·.1)).Nodup->Rep P H (.ref a) (.dct ds)
 |dT {a:al} {kvs:aa (aa Key×V)} {ds:aa (D×D)}:H a=ae (.dT kvs)->P a->sO P H kvs ds->(kvs.map (·.1)).Nodup->Rep P H (.ref a) (.dct ds)
 |fdK {a:al} {o:bf} {kvs:aa (Key×V)} {ds:aa (D×D)}:H a=ae (.frz o (.dK kvs))->kE P H kvs ds->(kvs.map (·.1)).Nodup->Rep P H (.ref a) (.fdc ds)
 |fdT {a:al} {o:bf} {kvs:aa (aa Key×V)} {ds:aa (D×D)}:H a=ae (.frz o (.dT kvs))->sO P H kvs ds->(kvs.map (·.1)).Nodup->Rep P H (.ref a) (.fdc ds)
 |exc {a C:al} {dx:ay al} {c:Str} {fs:aa (Str×Str)}:ox KFrag.K bg c=ae (ae (.ref C))->H a=ae (.ext (XO a C dx))->XDs H fs dx->Rep P H (.ref a) (.exc c fs)
 |ins {a C dx:al} {c:Str} {vs:aa (Str×V)} {fs:aa (Str×D)}:ox KFrag.K bg c=ae (ae (.ref C))->H a=ae (.ins C dx vs)->aCr P H vs fs->Rep P H (.ref a) (.ins c fs)
 |adr {a:al}:Rep P H (.ref a) (.adr a)
 |dlK {a:al} {kvs:aa (Key×V)} {ds:aa (D×D)}:H a=ae (.dK kvs)->P a->kE P H kvs ds->(kvs.map (·.1)).Nodup->Rep P H (.ref a) (.dcl a ds)
 |dlT {a:al} {kvs:aa (aa Key×V)} {ds:aa (D×D)}:H a=ae (.dT kvs)->P a->sO P H kvs ds->(kvs.map (·.1)).Nodup->Rep P H (.ref a) (.dcl a ds)
inductive aCr(P:al->Prop)(H:Hp):aa (Str×V)->aa (Str×D)->Prop
 |nil:aCr P H [] []
 |cons {f:Str} {v:V} {d:D} {r:aa (Str×V)} {ds:aa (Str×D)}:Rep P H v d->aCr P H r ds->aCr P H ((f,v)::r) ((f,d)::ds)
inductive bW(P:al->Prop)(H:Hp):aa V->aa D->Prop
 |nil:bW P H [] []
 |cons {v:V} {d:D} {vs:aa V} {ds:aa D}:Rep P H v d->bW P H vs ds->bW P H (v::vs) (d::ds)
inductive kE(P:al->Prop)(H:Hp):aa (Key×V)->aa (D×D)->Prop
 |nil:kE P H [] []
 |cons {k:Key} {v:V} {d:D} {r:aa (Key×V)} {ds:aa (D×D)}:Rep P H v d->kE P H r ds->kE P H ((k,v)::r) ((kD k,d)::ds)
inductive sO(P:al->Prop)(H:Hp):aa (aa Key×V)->aa (D×D)->Prop
 |nil:sO P H [] []
 |cons {k:aa Key} {v:V} {d:D} {r:aa (aa Key×V)} {ds:aa (D×D)}:Rep P H v d->sO P H r ds->sO P H ((k,v)::r) ((.tup (k.map kD),d)::ds)
end
def J_(P:al->Prop)(H H':Hp):Prop:=∀a o,H a=ae o->(P a\/W_ o=ag)->H' a=ae o
theorem J_.same(h:cX H H'):J_ P H H':=λa o e _=>h a o e
theorem XDs.keep{P:al->Prop}{H H':Hp}(k:J_ P H H')(q:XDs H fs dx):XDs H' fs dx:=by
 cases dx with
 |none=>exact q
 |some _=>exact k _ _ q (.inr rfl)
mutual
theorem Rep.gP{P P':al->Prop}{H H':Hp}(k:J_ P H H')(m:∀a o,H a=ae o->P a->P' a){v:V}{d:D}(q:Rep P H v d):Rep P' H' v d:=by
 cases q with
 |non=>exact .non
 |bl b=>exact .bl b
 |int i=>exact .int i
 |str x=>exact .str x
 |tup e r=>exact .tup (k _ _ e (.inr rfl)) (bW.gP k m r)
 |lst e p r=>exact .lst (k _ _ e (.inl p)) (m _ _ e p) (bW.gP k m r)
 |cel e p r=>exact .cel (k _ _ e (.inl p)) (m _ _ e p) (bW.gP k m r)
 |frz e r=>exact .frz (e.imp (λz=>z.imp λo e=>k _ _ e (.inr rfl)) id) (bW.gP k m r)
 |dK e p r n=>exact .dK (k _ _ e (.inl p)) (m _ _ e p) (kE.gP k m r) n
 |dT e p r n=>exact .dT (k _ _ e (.inl p)) (m _ _ e p) (sO.gP k m r) n
 |fdK e r n=>exact .fdK (k _ _ e (.inr rfl)) (kE.gP k m r) n
 |fdT e r n=>exact .fdT (k _ _ e (.inr rfl)) (sO.gP k m r) n
 |exc n e q=>exact .exc n (k _ _ e (.inr rfl)) (XDs.keep k q)
 |ins n e r=>exact .ins n (k _ _ e (.inr rfl)) (aCr.gP k m r)
 |adr=>exact .adr
 |dlK e p r n=>exact .dlK (k _ _ e (.inl p)) (m _ _ e p) (kE.gP k m r) n
 |dlT e p r n=>exact .dlT (k _ _ e (.inl p)) (m _ _ e p) (sO.gP k m r) n
theorem bW.gP{P P':al->Prop}{H H':Hp}(k:J_ P H H')(m:∀a o,H a=ae o->P a->P' a){v:aa V}{d:aa D}(q:bW P H v d):bW P' H' v d:=by
 cases q with
 |nil=>exact .nil
 |cons r t=>exact .cons (Rep.gP k m r) (bW.gP k m t)
theorem aCr.gP{P P':al->Prop}{H H':Hp}(k:J_ P H H')(m:∀a o,H a=ae o->P a->P' a){v:aa (Str×V)}{d:aa (Str×D)}(q:aCr P H v d):aCr P' H' v d:=by
 cases q with
 |nil=>exact .nil
 |cons r t=>exact .cons (Rep.gP k m r) (aCr.gP k m t)
theorem kE.gP{P P':al->Prop}{H H':Hp}(k:J_ P H H')(m:∀a o,H a=ae o->P a->P' a){v:aa (Key×V)}{d:aa (D×D)}(q:kE P H v d):kE P' H' v d:=by
 cases q with
 |nil=>exact .nil
 |cons r t=>exact .cons (Rep.gP k m r) (kE.gP k m t)
theorem sO.gP{P P':al->Prop}{H H':Hp}(k:J_ P H H')(m:∀a o,H a=ae o->P a->P' a){v:aa (aa Key×V)}{d:aa (D×D)}(q:sO P H v d):sO P' H' v d:=by
 cases q with
 |nil=>exact .nil
 |cons r t=>exact .cons (Rep.gP k m r) (sO.gP k m t)
end
theorem Rep.keep(k:J_ P H H')(m:∀a,P a->P' a)(q:Rep P H v d):Rep P' H' v d:=q.gP k λa _ _=>m a
theorem bW.keep(k:J_ P H H')(m:∀a,P a->P' a)(q:bW P H v d):bW P' H' v d:=q.gP k λa _ _=>m a
theorem kE.keep(k:J_ P H H')(m:∀a,P a->P' a)(q:kE P H v d):kE P' H' v d:=q.gP k λa _ _=>m a
theorem sO.keep(k:J_ P H H')(m:∀a,P a->P' a)(q:sO P H v d):sO P' H' v d:=q.gP k λa _ _=>m a
theorem Rep.mono(r:Rep P H v d)(m:∀a,P a->P' a):Rep P' H v d:=r.keep (λ_ _ e _=>e) m
theorem bW.mono(r:bW P H v d)(m:∀a,P a->P' a):bW P' H v d:=r.keep (λ_ _ e _=>e) m
theorem Rep.same(r:Rep P H v d)(s:cX H H'):Rep P H' v d:=r.keep (.same s) λ_ h=>h
theorem bW.same(r:bW P H v d)(s:cX H H'):bW P H' v d:=r.keep (.same s) λ_ h=>h
noncomputable def YX:HO->aq
 |.tup _=>ag
 |.frz _ (.lst _)=>ag
 |.frz _ (.dK _)=>ag
 |_=>af
theorem kE.ints{P P':al->Prop}{H H':Hp}:∀{kvs:aa (Key×V)}{ds:aa (D×D)},kE P H kvs ds->ds.all (λp=>!isT0 p.1&&aN6 p.2)=af->kE P' H' kvs ds:=by
 intro kvs ds r h;induction ds generalizing kvs with
 |nil=>cases r;exact .nil
 |cons d ds ih=>
  cases r with
  |cons r t=>
   rw[hI,bj,bj] at h;refine .cons ?_ (ih t h.2);cases r with
   |int i=>exact .int i
   |_=>exact fx0 h.1.2
mutual
theorem Rep.G6{P P':al->Prop}{H H':Hp}(k:∀a o,H a=ae o->YX o=ag->H' a=ae o){v:V}{d:D}(q:Rep P H v d)(h:d.pure=af):Rep P' H' v d:=by
 cases q with
 |non=>exact .non
 |bl b=>exact .bl b
 |int i=>exact .int i
 |str x=>exact .str x
 |tup e r=>exact .tup (k _ _ e rfl) (bW.G6 k r h)
 |frz e r=>exact .frz (e.imp (λz=>z.imp λo e=>k _ _ e rfl) id) (bW.G6 k r h)
 |fdK e r n=>
  replace h:K8 _=af:=h;unfold K8 at h;rw[bj] at h;exact .fdK (k _ _ e rfl) (kE.ints r h.2) n
 |fdT e r n=>
  replace h:K8 _=af:=h;unfold K8 at h;rw[bj] at h;cases r with
  |nil=>exact fx0 h.1
  |cons r t=>
   have h:=h.2;rw[hI] at h;exact fx0 h
 |_=>exact fx0 h
theorem bW.G6{P P':al->Prop}{H H':Hp}(k:∀a o,H a=ae o->YX o=ag->H' a=ae o){v:aa V}{d:aa D}(q:bW P H v d)(h:D.aW d=af):bW P' H' v d:=by
 cases q with
 |nil=>exact .nil
 |cons r t=>
  rw[D.aW,bj] at h;exact .cons (Rep.G6 k r h.1) (bW.G6 k t h.2)
end
theorem Rep.bV(r:Rep P H v d)(h:d.pure=af):Rep P' H v d:=r.G6 (λ_ _ e _=>e) h
theorem bW.bV(r:bW P H v d)(h:D.aW d=af):bW P' H v d:=r.G6 (λ_ _ e _=>e) h
theorem bW.length:∀{v:aa V}{d:aa D},bW P H v d->v.length=d.length
 |_,_,.nil=>rfl
 |_,_,.cons _ t=>by rw[cr,cr,bW.length t]
theorem bW.get:∀{vs:aa V}{ds:aa D}{i:ah}{d:D},bW P H vs ds->ds[i]?=ae d->∃v,vs[i]?=ae v/\Rep P H v d
 |_,_,_,_,.nil,e=>by simp at e
 |_,_,0,_,.cons r _,e=>by simp at e;subst e;exact⟨_,rfl,r⟩
 |_,_,i+1,d,.cons _ t,e=>by
  obtain⟨v,h1,h2⟩:=bW.get t (by simpa using e);exact⟨v,by simpa using h1,h2⟩
theorem bW.at:∀{vs:aa V}{ds:aa D}{i:ah}{v:V},bW P H vs ds->vs[i]?=ae v->∃d,ds[i]?=ae d/\Rep P H v d
 |_,_,_,_,.nil,e=>by simp at e
 |_,_,0,_,.cons r _,e=>by simp at e;subst e;exact⟨_,rfl,r⟩
 |_,_,i+1,d,.cons _ t,e=>by
  obtain⟨v,h1,h2⟩:=bW.at t (by simpa using e);exact⟨v,by simpa using h1,h2⟩
theorem bW.append:∀{vs ws:aa V}{ds es:aa D},bW P H vs ds->bW P H ws es->bW P H (vs++ws) (ds++es)
 |_,_,_,_,.nil,s=>s
 |_,_,_,_,.cons r t,s=>.cons r (bW.append t s)
theorem bW.take:∀{vs:aa V}{ds:aa D}(n:ah),bW P H vs ds->bW P H (vs.take n) (ds.take n)
 |_,_,0,_=>.nil
 |_,_,_+1,.nil=>.nil
 |_,_,n+1,.cons r t=>.cons r (bW.take n t)
theorem bW.drop:∀{vs:aa V}{ds:aa D}(n:ah),bW P H vs ds->bW P H (vs.drop n) (ds.drop n)
 |_,_,0,r=>r
 |_,_,_+1,.nil=>.nil
 |_,_,n+1,.cons _ t=>bW.drop n t
theorem bW.snoc(t:bW P H vs ds)(r:Rep P H v d):bW P H (vs++[v]) (ds++[d]):=t.append (.cons r .nil)
theorem Rep.uD:¬Rep P H v .uD:=λh=>by cases h
abbrev All:al->Prop:=λ_=>gz
abbrev New(H:Hp):al->Prop:=λa=>H a=aj
theorem Rep.all(r:Rep P H v d):Rep All H v d:=r.mono λ_ _=>trivial
theorem bW.all(r:bW P H v d):bW All H v d:=r.mono λ_ _=>trivial
theorem cX.new(s:cX H H'):∀a,New H' a->New H a:=λa h=>s.free h
theorem cX.upd(h:H a=aj):cX H (upd H a o):=λb u e=>by rw[bD (cD e h)];exact e
def ER(H:Hp)(σ:St)(ρ:aa D):Prop:=∀i,ρ.getD i .uD≠.uD->∃v,σ[i]?=ae (ae v)/\Rep All H v (ρ.getD i .uD)
theorem ER.same(e:ER H σ ρ)(s:cX H H'):ER H' σ ρ:=λi h=>by
 obtain⟨v,h1,h2⟩:=e i h;exact⟨v,h1,h2.same s⟩
theorem PE.imp(h:PE X e t)(i:∀σ H Q,t' σ H Q->t σ H Q):PE X e t':=λΨ s σ H Q I q=>h Ψ s σ H Q I (i σ H Q q)
theorem PT.imp(h:PT X e t)(i:∀σ H Q,t' σ H Q->t σ H Q):PT X e t':=λΨ s σ H Q I q=>h Ψ s σ H Q I (i σ H Q q)
theorem PA.imp(h:PA X e t)(i:∀σ H Q,t' σ H Q->t σ H Q):PA X e t':=λpos Ψ s σ H Q I q=>h pos Ψ s σ H Q I (i σ H Q q)
theorem Rep.dom(r:Rep P H v d):Rep (λa=>P a/\H a≠aj) H v d:=r.gP (λ_ _ e _=>e) λa o e p=>⟨p,by rw[e];simp⟩
theorem Rep.aDf(r:Rep P H v d)(k:J_ P H H')(m:∀a o,H a=ae o->P a->P' a):Rep P' H' v d:=r.gP k m
def aO6(P:al->Prop)(H:Hp)(v:V):D->Prop
 |.non=>v=.non
 |.bl b=>v=.bl b
 |.int i=>v=.int i
 |.str x=>v=.str x
 |.tup ds=>∃a xs,v=.ref a/\H a=ae (.tup xs)/\bW P H xs ds
 |.lst ds=>∃a xs,v=.ref a/\H a=ae (.lst xs)/\P a/\bW P H xs ds
 |.cel b ds=>∃xs,v=.ref b/\H b=ae (.lst xs)/\P b/\bW P H xs ds
 |.scr ds=>∃a xs,v=.ref a/\aDe H a xs/\bW P H xs ds
 |.ins c fs=>∃a C dx vs,v=.ref a/\ox KFrag.K bg c=ae (ae (.ref C))/\H a=ae (.ins C dx vs)/\aCr P H vs fs
 |.exc c fs=>∃a C dx,v=.ref a/\ox KFrag.K bg c=ae (ae (.ref C))/\H a=ae (.ext (XO a C dx))/\XDs H fs dx
 |.uD=>cm
 |.adr b=>v=.ref b
 |.dcl b ds=>v=.ref b/\Rep P H v (.dct ds)
 |_=>gz
theorem Rep.inv(r:Rep P H v d):aO6 P H v d:=by
 cases r with
 |non=>rfl
 |bl=>rfl
 |int=>rfl
 |str=>rfl
 |tup e r=>exact⟨_,_,rfl,e,r⟩
 |lst e p r=>exact⟨_,_,rfl,e,p,r⟩
 |cel e p r=>exact⟨_,rfl,e,p,r⟩
 |frz e r=>exact⟨_,_,rfl,e,r⟩
 |ins n e r=>exact⟨_,_,_,_,rfl,n,e,r⟩
 |exc n e r=>exact⟨_,_,_,rfl,n,e,r⟩
 |adr=>rfl
 |dlK e p r n=>exact⟨rfl,.dK e p r n⟩
 |dlT e p r n=>exact⟨rfl,.dT e p r n⟩
 |_=>trivial
end Mi
open Mi.D renaming int->δ,aW->θ,str->ι,dW->ν,lst->ξ,plain->ο,bl->π
open Mi.Res renaming ok->ε,aU->τ,ofOpt->μ
namespace L2
open PySem PySem.Spec PyProof.Rows
noncomputable def jN(own:aa Str)(x:Str):Str:=if own.contains x then x++(" " : Str) else x
def clF(env:c5):aa (Str×im)->aa (Str×al)->aa (Str×al)
 |[],acc=>acc
 | (n,k)::r,acc=>clF env r (if k==.free then (n,(env.cells.lookup n).getD 0)::acc else acc)
theorem vB:∀(names:aa (Str×im))(acc:aa (Str×al)),(∀y∈names,y.2=.free->∃c,env.cells.lookup y.1=ae c)->
  (forIn names acc λx cs=>(match x with
   | (name,kind)=>if (kind==.free)=af then cellOf env name >>= λc=>pure (vp ((name,c)::cs)) else pure (vp cs):eB (ForInStep (aa (Str×al)))))=(pure (clF env names acc):eB _)
 |[],acc,_=>by rw[List.forIn_nil];rfl
 | (n,k)::r,acc,h=>by
  rw[List.forIn_cons];by_cases hk:(k==.free)=af
  ·have hk':k=.free:=by simpa using hk
   obtain⟨c,e⟩:=h (n,k) (cu ..) hk';have e':cellOf env n=pure c:=by
    unfold cellOf;have e2:env.cells.lookup n=ae c:=e;rw[e2]
   dsimp only;rw[av hk,e',pure_bind,pure_bind];dsimp only;rw[vB r _ λy hy=>h y (b6 _ hy)];have e2:env.cells.lookup n=ae c:=e;simp only[clF,hk,cw,e2,mM]
  ·dsimp only;rw[az hk,pure_bind];dsimp only;rw[vB r _ λy hy=>h y (b6 _ hy)];simp only[clF,hk,db,cx]
theorem XF(h:∀y∈scope.names,y.2=.free->∃c,env.cells.lookup y.1=ae c):closureFor scope env=pure (clF env scope.names []):=by
 unfold closureFor;have:=vB scope.names [] h;simp only[bind_pure] at *;exact this
theorem RD:∀{names:aa (Str×im)}{acc:aa (Str×al)}{x:Str}{c:al},(∀y∈names,y.2=.free->∃c,env.cells.lookup y.1=ae c)->(∀x c,acc.lookup x=ae c->env.cells.lookup x=ae c)->
  (clF env names acc).lookup x=ae c->env.cells.lookup x=ae c
 |[],acc,x,c,_,h,e=>h x c e
 | (n,k)::r,acc,x,c,q,h,e=>by
  unfold clF at e;refine RD (λy hy=>q y (b6 _ hy)) (λy d hy=>?_) e;by_cases hk:(k==.free)=af
  ·rw[av hk,iw] at hy;obtain⟨c',e'⟩:=q (n,k) (cu ..) (by simpa using hk);have e2:env.cells.lookup n=ae c':=e';cases hyn:y==n with
   |true=>
    rw[hyn] at hy;have:y=n:=by simpa using hyn
    subst this;rw[e2] at hy;simp only[mM] at hy;rw[e2];exact hy
   |false=>rw[hyn] at hy;exact h y d hy
  ·rw[az hk] at hy;exact h y d hy
theorem aA7:∀{names:aa (Str×im)}{acc:aa (Str×al)}{x:Str},(∃c,acc.lookup x=ae c)->∃c,(clF env names acc).lookup x=ae c
 |[],_,_,h=>h
 | (n,k)::r,acc,x,⟨c,h⟩=>by
  unfold clF;refine aA7 ?_;by_cases hk:(k==.free)=af
  ·rw[av hk,iw];cases x==n with
   |true=>exact⟨_,rfl⟩
   |false=>exact⟨c,h⟩
  ·rw[az hk];exact⟨c,h⟩
theorem RG:∀{names:aa (Str×im)}{acc:aa (Str×al)}{x:Str},(x,jf)∈names->∃c,(clF env names acc).lookup x=ae c
 | (n,k)::r,acc,x,h=>by
  unfold clF;rcases bX.mp h with e|h
  ·cases e;refine aA7 ?_;rw[av (by decide),iw];simp
  ·exact RG h
structure cZ(N:aa Str)(sc scope:dS)(own:aa Str):Prop where
 kind:scope.kind=.function
 nocell:∀y∈scope.names,y.2≠.cell
 names:∀y∈scope.names,y.2=.local->scope.names.lookup y.1=ae .local
 free:∀y∈scope.names,y.2=.free->sc.names.lookup y.1=ae .cell\/sc.names.lookup y.1=ae .free
 ownl:∀x∈own,scope.names.lookup x=ae .local
 hid:∀x∈own,scope.names.lookup (x++(" " : Str))=aj
 loc:∀y∈scope.names,y.2=.local->y.1∈own\/y.1∉N
structure c7(X X':Cx)(scope:dS)(own:aa Str):Prop where
 prog:X'.prog=X.prog
 w:X'.w=X.w
 K:X'.K=X.K
 mg:X'.mg=X.mg
 base:X'.base=X.base
 A:X'.A=X.A
 N:X'.N=X.N.map (jN own)++own
 scope:X'.env.scope=ix scope X.env
 calm:X'.calm=X.calm
 xe:X'.xe=λ_ _=>cm
def UJ(X:Cx)(scope:dS)(cl:aa (Str×al))(C:al)(own:aa Str)(s₂:ao)(H₂:Hp)(fp:aa al):Cx:=
 {X with N:=X.N.map (jN own)++own,s₀:=s₂,H₀:=H₂,env:=compEnvC scope cl C X.env,outer:=X.stack,stack:=X.stack,ex:=fp,fn:=λ_=>ag,pn:=[],xe:=λ_ _=>cm}
theorem aA8:c7 X (UJ X scope cl C own s₂ H₂ fp) scope own:=
 ⟨rfl,rfl,rfl,rfl,rfl,rfl,rfl,rfl,rfl,rfl⟩
def Ext(σ σ2:St):Prop:=σ2.length=σ.length/\∀(i:ah) v,σ[i]?=ae (ae v)->σ2[i]?=ae (ae v)
def RJ(wi:TI)(g:TG)(tc:TT)(te:TE)(m:ah):TE:=λσ H Q=>wi σ H λJ H1=>∀p,H1 p=aj->
 ∃W:ah->ah->aa V->Hp->Prop,(∃n,W 0 n [] (upd H1 p (.lst [])))/\∀i n ys H,W i n ys H->H p=ae (.lst ys)/\((J.stop i H/\Q (.ref p) H)\/(J.go i H/\ys.length<bq/\
  ∀x H2,J.yld i H x H2->g x (σ++ck m aj) H2 λσ2 H3=>Ext (σ++ck m aj) σ2/\tc σ2 H3 λb H4=>if b=af then te σ2 H4 λy H5=>H5 p=ae (.lst ys)/\∃n',n'<n/\W (i+1) n' (ys++[y]) (upd H5 p (.lst (ys++[y])))
   else ∃n',n'<n/\W (i+1) n' ys H4))
section
theorem Inv.comp(I:Inv X Ψ σ H2 s2)(S:cZ X.N X.env.scope scope own)(hf:∀b∈fp,Y_ X Ψ H2 b)
 (hfx:∀b∈fp,b<s2.heap.objs.size)(hns:h1.Ns (s2.heap.objs.size+1) (λ_=>aj))
 (hk:∀b o,s2.heap.get? b=ae o->h1.get? b=ae o)(hacc:h1.get? s2.heap.objs.size=ae {cls:=.type "list",data:=.seq #[]}) :
  Inv (UJ X scope (clF X.env scope.names []) (s2.heap.objs.size+1) own s2 H2 fp) [] (σ++ck own.length aj) (upd H2 s2.heap.objs.size (.lst [])) {s2 with heap:=h1,toks:=t1}:=by
 have hD:H2 s2.heap.objs.size=aj:=I.hok.fresh (bi _);have hC:H2 (s2.heap.objs.size+1)=aj:=I.hok.fresh (jg _);have cells:∀y∈scope.names,y.2=.free->∃c,X.env.cells.lookup y.1=ae c:=λy hy hk=>I.ok.has y.1 (S.free y hy hk)
 have sub:∀x c,(clF X.env scope.names []).lookup x=ae c->X.env.cells.lookup x=ae c:=λx c e=>RD cells (λ_ _ h=>by simp at h) e
 have relk:∀x,(ix scope X.env).names.lookup x=ae .cell\/(ix scope X.env).names.lookup x=ae .free->(x,jf)∈scope.names:=by
  intro x hx;have go:∀(l:aa (Str×im)),(∀y∈l,y.2≠.cell)->((l.map λ(n,k)=>if (k==jf&&X.env.scope.kind==.function&&X.env.kindOf n==ae .cell) then (n,vq) else (n,k)).lookup x=ae .cell\/(l.map λ(n,k)=>if (k==jf&&X.env.scope.kind==.function&&X.env.kindOf n==ae .cell) then (n,vq) else (n,k)).lookup x=ae .free)->(x,jf)∈l:=by
   intro l;induction l with
   |nil=>intro _ h;rcases h with h|h<;>simp at h
   |cons p l ih=>
    obtain⟨n,k⟩:=p;intro nc h;rw[bw] at h;dsimp only at h;by_cases hc:(k==jf&&X.env.scope.kind==.function&&X.env.kindOf n==ae .cell)=af
    ·rw[av hc] at h;rw[iw] at h;cases e:x==n with
     |true=>
      have:x=n:=by simpa using e
      subst this;simp only[bj] at hc;have:k=.free:=by simpa using hc.1.1
      subst this;exact cu ..
     |false=>
      rw[e] at h;exact b6 _ (ih (λy hy=>nc y (b6 _ hy)) h)
    ·rw[az hc] at h;rw[iw] at h;cases e:x==n with
     |true=>
      have:x=n:=by simpa using e
      subst this;rw[e] at h;dsimp only at h;rcases h with h|h
      ·exact bb (cz h) (nc (x,k) (cu ..))
      ·have:=cz h;subst this;exact cu ..
     |false=>
      rw[e] at h;exact b6 _ (ih (λy hy=>nc y (b6 _ hy)) h)
  exact go scope.names S.nocell hx
 have hne:s2.heap.objs.size≠s2.heap.objs.size+1:=c9 (jh _);have hlt:∀b o,s2.heap.get? b=ae o->b<s2.heap.objs.size:=λb o e=>bS e
 have hstk:∀b∈frs X.stack,b<s2.heap.objs.size:=λb hb=>by
  obtain⟨_,o,ho,_⟩:=I.stack.mem hb;exact hlt b o ho
 refine⟨⟨I.mod,?_,I.ok.glob,I.ok.blt,jg _,λx y c e1 e2=>I.ok.inj x y c (sub x c e1) (sub y c e2),λx hx=>?_,λ_ _ h=>(by cases h),I.ok.hd,I.ok.frames,.inl rfl,λb hb=>?_,λb o e=>I.bs b o e,?_,λb o e hb=>?_,λb hb hz=>?_,I.stack,I.QH⟩,
  rfl,I.bare,Un.laid hk (bi _) hD,?_,λx c e=>?_,?_,λx c e=>?_,λp hp=>(by simp[UJ] at hp),?_,?_⟩
 ·exact S.kind
 ·have hx':(ix scope X.env).names.lookup x=ae .cell\/(ix scope X.env).names.lookup x=ae .free:=hx;exact RG (relk x hx')
 ·refine⟨c9 (hX (hfx b hb)),λx c e z=>?_⟩;exact(hf b hb).2.2.2.2.1 x c (sub x c e) z
 ·exact du I.ok.bsz I.sz
 ·rcases(hf b hb).2.2.2.1 with z|z
  ·exact I.ok.noex b o e z
  ·exact bb (dz (bS e) (du I.ok.bsz z)) (fg _)
 ·rcases bX.mp (I.S_ b hz) with z'|z'
  ·exact(hf b hb).2.1 z'
  ·exact(hf b hb).2.2.1 z'
 ·refine⟨_,hns,λi x v e1 e2 e3=>?_⟩;have hi:i<σ.length:=by
   rcases mP i σ.length with h|h
   ·exact h
   ·rw[eL h,io] at e2;split at e2<;>cases e2
  rw[ip hi] at e2;have hiN:i<X.N.length:=by rw[<-I.len];exact hi
  have e1':(X.N.map (jN own))[i]?=ae x:=by
   have:(X.N.map (jN own)++own)[i]?=ae x:=e1;rwa [ip (by rw[bp];exact hiN)] at this
  rw[ma] at e1';obtain⟨y,hy,ey⟩:=nV.mp e1';have hyN:y∈X.N:=me hy;have e3':(ix scope X.env).names.lookup x=ae .local\/(ix scope X.env).names.lookup x=ae .cell\/(ix scope X.env).names.lookup x=ae .free:=e3;have keys:∀z k,(ix scope X.env).names.lookup z=ae k->∃k',scope.names.lookup z=ae k'/\(k=.local->k'=.local):=by
   intro z k;show(scope.names.map λ(n,k)=>if (k==jf&&X.env.scope.kind==.function&&X.env.kindOf n==ae .cell) then (n,vq) else (n,k)).lookup z=ae k->_;generalize scope.names=l;induction l with
   |nil=>intro h;simp at h
   |cons p l ih=>
    obtain⟨n,k0⟩:=p;intro h;rw[bw] at h;dsimp only at h;by_cases hc:(k0==jf&&X.env.scope.kind==.function&&X.env.kindOf n==ae .cell)=af
    ·rw[av hc,iw] at h;rw[iw];cases e:z==n with
     |true=>
      rw[e] at h;dsimp only at h;cases h;exact⟨k0,rfl,λq=>by cases q⟩
     |false=>rw[e] at h;exact ih h
    ·rw[az hc,iw] at h;rw[iw];cases e:z==n with
     |true=>
      rw[e] at h;dsimp only at h;cases h;exact⟨_,rfl,λq=>q⟩
     |false=>rw[e] at h;exact ih h
  by_cases hown:own.contains y=af
  ·exfalso;have ex:x=y++(" " : Str):=by rw[<-ey];unfold jN;rw[av hown]
   have hn:=S.hid y (by simpa using hown);rw[<-ex] at hn;rcases e3' with q|q|q
   all_goals
    obtain⟨k',hk',_⟩:=keys _ _ q;rw[hn] at hk';cases hk'
  ·have ex:x=y:=by rw[<-ey];unfold jN;rw[az hown]
   subst ex;rcases e3' with q|q
   ·exfalso;obtain⟨k',hk',hl⟩:=keys _ _ q;have:=hl rfl;subst this;rcases S.loc _ (kL hk') rfl with z|z
    ·exact hown (by simpa using z)
    ·exact z hyN
   ·have hfr:=relk x q;have hv:=S.free _ hfr rfl;obtain⟨m,_,hl⟩:=I.loc;obtain⟨u,ru,lk⟩:=hl i x v hy e2 (.inr hv);refine⟨u,ru,.inr ⟨q,?_⟩⟩;rcases lk with ⟨z,_⟩|⟨_,c,hc,o,ho,hd⟩
    ·have z':X.env.scope.names.lookup x=ae .local:=z;rcases hv with hv|hv<;>(rw[z'] at hv;cases hv)
    ·obtain⟨c',hc'⟩:=RG hfr;have:=sub x c' hc';rw[hc] at this;cases this;exact⟨c,hc',o,hk c o ho,hd⟩
 ·obtain⟨v,z⟩:=I.cell x c (sub x c e);obtain⟨o,ho,hd⟩:=z;exact⟨v,o,hk c o ho,hd⟩
 ·show upd H2 _ _ (s2.heap.objs.size+1)=aj;rw[bD (Ne.symm hne)];exact hC
 ·obtain⟨v,o,ho,_⟩:=I.cell x c (sub x c e);show upd H2 _ _ c=aj;rw[bD (c9 (hlt c o ho))];exact I.freeC x c (sub x c e)
 ·exact I.hok.laid hk (bi _) ⟨eS _,[],0,.nil,hacc⟩
 ·show(σ++ck own.length aj).length=(X.N.map (jN own)++own).length;rw[de,de,x5,bp,I.len]
end
section
variable {X:Cx} {scope:dS} {own:aa Str}
def cI(X':Cx)(σ:St)(fp:aa al)(tn:ah->aS->Prop)(W:ah->ah->aa V->Hp->Prop)(n:ah)(s:ao):Prop:=∃i ys H',Inv X' [] σ H' s/\tn i s.heap/\(∀b∈fp,H' b=aj)/\W i n ys H'
abbrev cE(X X':Cx)(use:ay (ak->eB gN))(QQ:ak->ao->Prop)(p:al):ak->ao->Prop:=notedBy (ax X.prog X.w) X.A X'.env λe s'=>k7 (ax X.prog X.w) X.A X.xe use QQ (.ref p) (p+1) (.error e) s'
def cB(X':Cx)(σ:St)(fp:aa al)(tn:ah->aS->Prop)(W:ah->ah->aa V->Hp->Prop)(n i:ah)(h:aS):Prop:=∀{ys':aa V}{H9:Hp}{s9:ao}{σ9:St},Ext σ σ9->Inv X' ([]++xK fp h) σ9 H9 s9->(∃n',n'<n/\W (i+1) n' ys' H9)->∃m,m<n/\cI X' σ fp tn W m s9
theorem RK(S:cZ X.N X.env.scope scope own)(hcalm:X.calm=af)(hi:PI X tg iter wi)
 (hg:∀X',c7 X X' scope own->PG X' tg g)(hc:(ifs=[]/\tc=λ_ H Q=>Q af H)\/∃c,ifs=[c]/\∀X',c7 X X' scope own->PT X' c tc)(he:∀X',c7 X X' scope own->PE X' elt te)
 (hs:∀x,d6 iter X.env x=pure x)(I:Inv X Ψ σ H s)(h:RJ wi g tc te own.length σ H R)
 (last:∀{p C:al} {H5:Hp} {s6:ao} {m6:Str->ay ak},Inv X Ψ σ H5 s6->Y_ X Ψ H5 C->s6.heap.Ns C m6->R (.ref p) H5->k7 (ax X.prog X.w) X.A X.xe use QQ (.ref p) C (.ok .next) s6) :
  ϑ (ax X.prog X.w) X.A (zm (.ListComp elt [⟨tg,iter,ifs,0⟩] scope pos) scope X.env ps (vx []) ag (eval iter X.env) use) QQ X.xe s:=by
 have cells:∀y∈scope.names,y.2=.free->∃c,X.env.cells.lookup y.1=ae c:=λy hy hk=>I.ok.has y.1 (S.free y hy hk)
 refine wpAny_comprehension_free rfl hs (XF cells) S.kind S.names (thn (hi Ψ s σ H _ I h) λxv s1 h1=>thn h1 λitv s2 h2=>?_);obtain⟨it,fp,tn,J,H2,e,I2,T,st2,f2,hW⟩:=h2;subst e;have hD:H2 s2.heap.objs.size=aj:=I2.hok.fresh (bi _);obtain⟨W,⟨n0,w0⟩,turn⟩:=hW _ hD;have hfx:∀b∈fp,b<s2.heap.objs.size:=λb hb=>by
  obtain⟨o,ho,_⟩:=T.obj 0 _ st2 b hb;exact bS ho
 refine eW (wpAny_newFunctionEnv S.nocell (by intro y hy;simp at hy) (λh₁ hns₁ hsb₁=>?_) S.kind);dsimp only at hns₁ hsb₁ ⊢;have hC:(s2.heap.push {cls:=.type "list",dict:=aj,data:=.seq ([]:aa ak).toArray}).objs.size=s2.heap.objs.size+1:=ji ..;have hne:s2.heap.objs.size≠s2.heap.objs.size+1:=c9 (jh _);rw[hC] at hns₁ hsb₁ ⊢;have old:∀b o,s2.heap.get? b=ae o->h₁.get? b=ae o:=λb o e=>hsb₁.extBut b o (c9 (hX (bS e))) (cq _ (cq _ e))
 have hacc:h₁.get? s2.heap.objs.size=ae {cls:=.type "list",data:=.seq #[]}:=hsb₁.extBut _ _ hne (cq _ (dg _ rfl));have I4:=Inv.comp (t1:=s2.toks+([]:aa (Str×ak)).length) I2 S f2 hfx hns₁ old hacc;generalize hX':UJ X scope (clF X.env scope.names []) (s2.heap.objs.size+1) own s2 H2 fp=X' at I4;have cc:c7 X X' scope own:=by rw[<-hX'];exact aA8
 have eenv:X'.env=compEnvC scope (clF X.env scope.names []) (s2.heap.objs.size+1) X.env:=by rw[<-hX'];rfl
 have eA:X'.A=X.A:=cc.A;have ep:X'.prog=X.prog:=cc.prog;have ew:X'.w=X.w:=cc.w;have efs:X'.fs=frs X.stack:=by rw[<-hX'];rfl
 have eex:X'.ex=fp:=by rw[<-hX'];rfl
 have es0:X'.s₀=s2:=by rw[<-hX'];rfl
 have eH0:X'.H₀=H2:=by rw[<-hX'];rfl
 have epn:X'.pn=[]:=by rw[<-hX'];rfl
 have eK:X'.K=X.K:=cc.K;have exe:=cc.xe;have ecalm:X'.calm=af:=cc.calm.trans hcalm
 -- the iterator's records within the block
 have fpok:∀{H':Hp},(∀b∈fp,H' b=aj)->∀b∈fp,Y_ X' [] H' b:=λ{H'} hn b hb=>by
  obtain⟨_,f1,f3,_,f5,_⟩:=f2 b hb;refine⟨hn b hb,?_,?_,.inl (by rw[eex];exact hb),λx c e=>?_,λp hp=>by rw[epn] at hp;simp at hp⟩
  ·rw[eenv];exact c9 (hX (hfx b hb))
  ·rw[efs];intro z;rcases bX.mp (I2.S_ b z) with z|z
   ·exact f1 z
   ·exact f3 z
  ·rw[eenv] at e;exact f5 x c (RD cells (λ_ _ h=>by simp at h) e)
 have st4:tn 0 h₁:=T.keep _ _ _ st2 λb _ o e=>old b o e
 have fr4:∀b∈fp,(upd H2 s2.heap.objs.size (.lst [])) b=aj:=λb hb=>by rw[bD (c9 (hfx b hb))];exact(f2 b hb).1
 have loop:∀s4:ao,s4={s2 with heap:=h₁,toks:=s2.toks+([]:aa (Str×ak)).length}->
   codeAny (ax X.prog X.w) X.A (.compLoop (.ListComp elt [⟨tg,iter,ifs,0⟩] scope pos) 0 (.ref it) (.ref s2.heap.objs.size) X'.env)
    (k7 (ax X.prog X.w) X.A X.xe use QQ (.ref s2.heap.objs.size) (s2.heap.objs.size+1)) s4:=by
  rintro s4 rfl;have put:∀(n i:ah)(ys:aa V)(s7:ao)(σ8:St)(H8:Hp)(s8:ao),cB X' (σ++ck own.length aj) fp tn W n i s7.heap->Inv X' ([]++xK fp s7.heap) σ8 H8 s8->Ext (σ++ck own.length aj) σ8->ys.length<bq->(te σ8 H8 λy H5=>H5 s2.heap.objs.size=ae (.lst ys)/\∃n',n'<n/\W (i+1) n' (ys++[y]) (upd H5 s2.heap.objs.size (.lst (ys++[y]))))->
    ϑ (ax X.prog X.w) X.A (eval elt X'.env) (λx s₄=>ϑ (ax X.prog X.w) X.A (call (.builtin "list.append") [.ref s2.heap.objs.size,x]) (λ_ s₅=>∃m,m<n/\cI X' (σ++ck own.length aj) fp tn W m s₅) (cE X X' use QQ s2.heap.objs.size) s₄) (cE X X' use QQ s2.heap.objs.size) s8:=by
   intro n i ys s7 σ8 H8 s8 back I8 ext8 hlen q8;have he':=he X' cc _ s8 _ H8 _ I8 q8;rw[ep,ew,eA,exe] at he';refine d5 he' (λyv s10 ⟨y,H10,I10,r10,p10,q10⟩=>?_) λ_ _ z=>dE z
   have hm:=KY _ s10 σ8 H10 (.ref s2.heap.objs.size) [y] (.ref s2.heap.objs.size) [yv] (λ_ H11=>∃n',n'<n/\W (i+1) n' (ys++[y]) H11) I10 rfl (.cons r10 .nil) ⟨s2.heap.objs.size,ys,y,rfl,rfl,p10,hlen,q10⟩;rw[ep,ew,eA,exe] at hm;exact d5 hm (λ_ s11 ⟨_,H11,I11,_,q11⟩=>back ext8 I11 q11) λ_ _ z=>dE z
  have key:∀(PO:ah->ao->Prop),(∀(n i:ah)(ys:aa V)(s7:ao)(σ8:St)(H8:Hp)(s8:ao),cB X' (σ++ck own.length aj) fp tn W n i s7.heap->Inv X' ([]++xK fp s7.heap) σ8 H8 s8->Ext (σ++ck own.length aj) σ8->ys.length<bq->(tc σ8 H8 λb H4=>if b=af then te σ8 H4 λy H5=>H5 s2.heap.objs.size=ae (.lst ys)/\∃n',n'<n/\W (i+1) n' (ys++[y]) (upd H5 s2.heap.objs.size (.lst (ys++[y]))) else ∃n',n'<n/\W (i+1) n' ys H4)->PO n s8)->
    ∀n s5,(cI X' (σ++ck own.length aj) fp tn W n s5)->ϑ (ax X.prog X.w) X.A (fI (.ref it)) (λr s₁=>match r with
     |none=>k7 (ax X.prog X.w) X.A X.xe use QQ (.ref s2.heap.objs.size) (s2.heap.objs.size+1) (.ok .next) s₁
     |some v=>ϑ (ax X.prog X.w) X.A (lS tg (.ref it) v) (λ_ s₀=>ϑ (ax X.prog X.w) X.A (jv tg X'.env v) (λ_ s₂=>PO n s₂) (cE X X' use QQ s2.heap.objs.size) s₀) (cE X X' use QQ s2.heap.objs.size) s₁) (cE X X' use QQ s2.heap.objs.size) s5:=by
   intro PO hPO;rintro n s5 ⟨i,ys,H5,I5,st5,fr5,w5⟩;obtain⟨hacc5,tr⟩:=turn i n ys H5 w5;rcases tr with ⟨stop,q⟩|⟨go,hlen,step⟩
   ·have done:=T.done X' ep ew eK ecalm i [] s5 _ H5 (cE X X' use QQ s2.heap.objs.size) I5 (fpok fr5) st5 stop;rw[eA] at done;refine thn done λr s6 ⟨hr,I6⟩=>?_
    subst hr;obtain⟨m6,hn6,_⟩:=id I6.loc;rw[eenv] at hn6;have u6:Un (frs X.stack) fp H2 H5 s2.heap s6.heap:=by
     have:=I6.base;rw[efs,eex,eH0,es0] at this;exact this
    have hCn:H5 (s2.heap.objs.size+1)=aj:=by
     have:=I6.free;rw[eenv] at this;exact this
    have hok6:HOk X.prog X.w H5 s6.heap:=by
     have:=I6.hok;rw[ep,ew] at this;exact this
    have hos:s6.os=s2.os:=by have:=I6.os;rw[es0] at this;exact this
    obtain⟨hh,gg,dd,tt,oo⟩:=s6;obtain rfl:oo=s2.os:=hos;have fin:=Inv.call (g':=gg) (d':=dd) (t':=tt) (ch:=fp) I2 u6 hok6 I6.bare λb hb=>⟨(f2 b hb).2.2.2.1,(f2 b hb).2.1,(f2 b hb).2.2.2.2.1,(f2 b hb).2.2.2.2.2⟩
    refine last fin ⟨hCn,jx (hX I2.lt),I2.aN1 (jg _),.inr (du I2.sz (jg _)),λx c e z=>?_,λp hp z=>?_⟩ hn6 q
    ·obtain⟨v,qq⟩:=I2.cell x c e;exact bb (hX qq.lt) (by rw[z];exact fg _)
    ·exact bb (hX (bS (I2.pin p hp).1)) (by rw[z];exact fg _)
   ·have item:=T.item X' ep ew eK ecalm i [] s5 _ H5 (cE X X' use QQ s2.heap.objs.size) I5 (fpok fr5) st5 go;rw[eA] at item;refine thn item λr s6 ⟨u,hr,h6⟩=>?_
    subst hr;refine thn h6 λ_ s7 ⟨x,H7,I7,r7,y7,st7,fr7⟩=>?_
    have I7':=I7.pinned (fpok fr7) (T.obj _ _ st7);have hg':=hg X' cc _ s7 _ H7 x u _ I7' r7 (step x H7 y7);rw[ep,ew,eA,exe] at hg';refine d5 hg' (λ_ s8 ⟨σ8,H8,I8,ext8,q8⟩=>?_) λ_ _ z=>dE z
    have back:cB X' (σ++ck own.length aj) fp tn W n i s7.heap:=by
     rintro ys' H9 s9 σ9 ex9 I9 ⟨n',hn',w9⟩;refine⟨n',hn',i+1,ys',H9,(I9.weak ex9.1.symm ex9.2).sV,T.keep _ _ _ st7 λb hb o e=>(I9.pin (b,o) (eT _ (eT _ (oG hb e)))).1,λb hb=>?_,w9⟩;obtain⟨o,e,d⟩:=T.obj _ _ st7 b hb;exact(I9.pin (b,o) (eT _ (eT _ (oG hb e)))).2.1
    exact hPO n i ys s7 σ8 H8 s8 back I8 ext8 hlen q8
  rcases hc with ⟨rfl,rfl⟩|⟨c,rfl,hc⟩
  ·refine PySem.W.kcp_loop _ (key _ λn i ys s7 σ8 H8 s8 back I8 ext8 hlen q8=>?_) n0 ⟨0,[],_,I4,st4,fr4,w0⟩;simp only[cw] at q8;exact put n i ys s7 σ8 H8 s8 back I8 ext8 hlen q8
  ·refine PySem.W.kct_loop _ (key _ λn i ys s7 σ8 H8 s8 back I8 ext8 hlen q8=>?_) n0 ⟨0,[],_,I4,st4,fr4,w0⟩;have hc':=hc X' cc _ s8 _ H8 _ I8 q8;rw[ep,ew,eA,exe] at hc';refine d5 hc' (λb s9 ⟨H9,I9,q9⟩=>?_) λ_ _ z=>dE z
   cases b with
   |false=>
    simp only[db,cx] at q9 ⊢;exact back ext8 I9 q9
   |true=>
    simp only[cw] at q9 ⊢;exact put n i ys s7 σ8 H9 s9 back I9 ext8 hlen q9
 have l4:=loop _ rfl;rw[eenv] at l4;exact codeAny_compStart_list l4 (T.self X.A 0 _ _ _ st4 l4)
theorem UL(f:Inv X Ψ σ H5 s6)(k:Y_ X Ψ H5 C)(n:s6.heap.Ns C m6)(q:Q (.ref p) H5):k7 (ax X.prog X.w) X.A X.xe aj (EP X Ψ σ Q) (.ref p) C (.ok .next) s6:=
 ⟨m6,n,λh' sb=>⟨.ref p,H5,Inv.turned f (λb o hb e=>sb.extBut b o hb e) k.1 k.2.1 k.2.2.2.1 k.2.2.2.2.1 k.2.2.2.2.2,rfl,q⟩⟩
theorem aA9(S:cZ X.N X.env.scope scope own)(hcalm:X.calm=af)(hi:PI X tg iter wi)
 (hg:∀X',c7 X X' scope own->PG X' tg g)(hc:∀X',c7 X X' scope own->PT X' c tc)(he:∀X',c7 X X' scope own->PE X' elt te)
 (hs:∀x,d6 iter X.env x=pure x):PE X (.ListComp elt [⟨tg,iter,[c],0⟩] scope pos) (RJ wi g tc te own.length):=by
 intro Ψ s σ H Q I h;rw[zn];exact RK S hcalm hi hg (.inr ⟨c,rfl,hc⟩) he hs I h UL
theorem UT(S:cZ X.N X.env.scope scope own)(hcalm:X.calm=af)(hi:PI X tg iter wi)
 (hg:∀X',c7 X X' scope own->PG X' tg g)(he:∀X',c7 X X' scope own->PE X' elt te)
 (hs:∀x,d6 iter X.env x=pure x):PE X (.ListComp elt [⟨tg,iter,[],0⟩] scope pos) (RJ wi g (λ_ H Q=>Q af H) te own.length):=by
 intro Ψ s σ H Q I h;rw[zn];exact RK S hcalm hi hg (.inl ⟨rfl,rfl⟩) he hs I h UL
end
end L2
namespace Mi
open PySem L2 PySem.SeqAt
section
variable [KFrag]
theorem iU(I:Inv X Ψ σ H s)(e:H a=ae (.tup xs)):∃its:aa ak,Vals xs its/\s.heap.IsTuple a its.toArray:=by
 obtain⟨_,its,r,p⟩:xs.length<=bq/\∃its:aa ak,Vals xs its/\mU s.heap a its.toArray:=I.hok a _ e;exact⟨its,r,p.tup⟩
theorem oW(I:Inv X Ψ σ H s)(e:SqL X.K H a xs):∃its:aa ak,Vals xs its/\s.heap.IsList a its.toArray:=by
 obtain⟨its,r,p,_⟩:=I.list e;exact⟨its,r,p.isList⟩
theorem Rep.kW(r:Rep P H v (.lst ds)):∃a xs,v=.ref a/\SqL K H a xs/\bW P H xs ds:=by
 obtain⟨_,_,rfl,e,p,r⟩:=r.inv;exact⟨_,_,rfl,.inl (.inl e),r⟩
theorem Rep.iD(r:Rep P H v (.tup ds)):∃a xs,v=.ref a/\H a=ae (.tup xs)/\bW P H xs ds:=by
 obtain⟨_,_,rfl,e,r⟩:=r.inv;exact⟨_,_,rfl,e,r⟩
mutual
theorem G7:∀(n:ah)(d:D),d.fY n=af->eqD d d=af
 |_,.non,_=>rfl
 |_,.bl b,_=>by exact mI b
 |_,.int i,_=>by exact mI i
 |_,.str x,_=>by exact mI x
 |n+1,.tup xs,h=>by exact yD n xs h
 |n+1,.lst xs,h=>by exact yD n xs h
 |0,.tup xs,h=>by exact fx0 h
 |0,.lst xs,h=>by exact fx0 h
 |n,.dct _,h=>by cases n<;>exact fx0 h
 |n,.uD,h=>by cases n<;>exact fx0 h
 |n,.scr _,h=>by cases n<;>exact fx0 h
 |n,.fdc _,h=>by cases n<;>exact fx0 h
 |n,.exc _ _,h=>by cases n<;>exact fx0 h
 |n,.ins _ _,h=>by cases n<;>exact fx0 h
 |n,.adr _,h=>by cases n<;>exact fx0 h
 |n,.dcl _ _,h=>by cases n<;>exact fx0 h
 |n,.cel _ _,h=>by cases n<;>exact fx0 h
theorem yD:∀(n:ah)(ds:aa D),ν n ds=af->xY ds ds=af
 |_,[],_=>rfl
 |n,d::ds,h=>by
  rw[ν,bj] at h;rw[xY,G7 n d h.1,yD n ds h.2];rfl
end
theorem bW.aN9{n:ah}{P P':al->Prop}{H:Hp}(ih:∀{v:V} {d e:D},d.fY n=af->e.fY n=af->Rep P H v d->Rep P' H v e->d=e){vs:aa V}:∀{ds es:aa D},ν n ds=af->ν n es=af->bW P H vs ds->bW P' H vs es->ds=es:=by
 induction vs with
 |nil=>intro ds es h h' r q;cases r;cases q;rfl
 |cons v vs ih2=>
  intro ds es h h' r q;cases r with
  |cons r t=>
   cases q with
   |cons r' t'=>
    rw[ν,bj] at h h';rw[ih h.1 h'.1 r r',ih2 h.2 h'.2 t t']
theorem Rep.inj{P P':al->Prop}{H:Hp}(n:ah):∀{v:V}{d e:D},d.fY n=af->e.fY n=af->Rep P H v d->Rep P' H v e->d=e:=by
 induction n with
 |zero=>
  intro v d e h h' r q;cases d with
  |non=>obtain rfl:=r.inv;cases q;rfl
  |bl b=>obtain rfl:=r.inv;cases q;rfl
  |int i=>obtain rfl:=r.inv;cases q;rfl
  |str x=>obtain rfl:=r.inv;cases q;rfl
  |_=>exact fx0 h
 |succ n ih=>
  intro v d e h h' r q;cases d with
  |non=>obtain rfl:=r.inv;cases q;rfl
  |bl b=>obtain rfl:=r.inv;cases q;rfl
  |int i=>obtain rfl:=r.inv;cases q;rfl
  |str x=>obtain rfl:=r.inv;cases q;rfl
  |tup ds=>
   obtain⟨a,xs,rfl,e1,r1⟩:=r.inv;cases q with
   |tup e2 r2=>
    rw[e1] at e2;cases e2;rw[bW.aN9 ih h h' r1 r2]
   |lst e2 _ _=>rw[e1] at e2;cases e2
   |dK e2 _ _ _=>rw[e1] at e2;cases e2
   |dT e2 _ _ _=>rw[e1] at e2;cases e2
   |_=>exact fx0 h'
  |lst ds=>
   obtain⟨a,xs,rfl,e1,_,r1⟩:=r.inv;cases q with
   |tup e2 r2=>rw[e1] at e2;cases e2
   |lst e2 _ r2=>
    rw[e1] at e2;cases e2;rw[bW.aN9 ih h h' r1 r2]
   |dK e2 _ _ _=>rw[e1] at e2;cases e2
   |dT e2 _ _ _=>rw[e1] at e2;cases e2
   |_=>exact fx0 h'
  |_=>exact fx0 h
theorem vC:∀(xs ys:aa D),xY xs ys=((eu (min xs.length ys.length)).all (λj=>eqD (xs.getD j .non) (ys.getD j .non))&&xs.length==ys.length)
 |[],[]=>by simp[xY]
 |[],y::ys=>by simp[xY]
 |x::xs,[]=>by simp[xY]
 |x::xs,y::ys=>by
  have e:min (x::xs).length (y::ys).length=min xs.length ys.length+1:=by simp only[cr];lia
  rw[xY,vC xs ys,e,List.range_succ_eq_map,hI,List.all_map,zo]
  congr 1
  simp[Bk]
theorem iV:∀{ds:aa D}{j:ah},ν n ds=af->j<ds.length->(ds.getD j .non).fY n=af
 |[],j,_,h=>by simp at h
 |d::ds,0,h,_=>by rw[ν,bj] at h;exact h.1
 |d::ds,j+1,h,hj=>by
  rw[ν,bj] at h;simpa using iV h.2 (by simpa using hj)
theorem bW.getD(r:bW P H vs ds)(hj:j<ds.length):∃v,vs[j]?=ae v/\Rep P H v (ds.getD j .non):=by
 obtain⟨v,h1,h2⟩:=r.get (i:=j) (d:=ds.getD j .non) (by simp[hj]);exact⟨v,h1,h2⟩
section
theorem yE(ha:a.fY 0=af)(hb:b.fY 0=af)(rx:Rep All H x a)(ry:Rep All H y b)(ru:RelV x u)(rv:RelV y v):RcAt A s u v (eqD a b)/\RcNeAt A s u v (!eqD a b)/\EqAt A s u v (eqD a b):=by
 cases rx with
 |non=>
  cases ru;cases ry with
  |non=>cases rv;exact⟨RcAt.none_none,RcNeAt.none_none,vy _⟩
  |bl _=>cases rv;exact⟨RcAt.none_bool _,RcNeAt.none_bool _,EqAt.none_bool _⟩
  |int _=>obtain⟨t,rfl⟩:=rv;exact⟨RcAt.none_int _ _,RcNeAt.none_int _ _,EqAt.none_int _ _⟩
  |str _=>obtain⟨t,rfl⟩:=rv;exact⟨RcAt.none_str _ _,RcNeAt.none_str _ _,EqAt.none_str _ _⟩
  |_=>exact fx0 hb
 |bl _=>
  cases ru;cases ry with
  |non=>cases rv;exact⟨RcAt.bool_none _,RcNeAt.bool_none _,EqAt.bool_none _⟩
  |bl _=>cases rv;exact⟨RcAt.bool_bool _ _,RcNeAt.bool_bool _ _,EqAt.bool_bool _ _⟩
  |int _=>obtain⟨t,rfl⟩:=rv;exact⟨RcAt.bool_int _ _ _,RcNeAt.bool_int _ _ _,EqAt.bool_int _ _ _⟩
  |str _=>obtain⟨t,rfl⟩:=rv;exact⟨RcAt.bool_str _ _ _,RcNeAt.bool_str _ _ _,EqAt.bool_str _ _ _⟩
  |_=>exact fx0 hb
 |int _=>
  obtain⟨t,rfl⟩:=ru;cases ry with
  |non=>cases rv;exact⟨RcAt.int_none _ _,RcNeAt.int_none _ _,EqAt.int_none _ _⟩
  |bl _=>cases rv;exact⟨RcAt.int_bool _ _ _,RcNeAt.int_bool _ _ _,EqAt.int_bool _ _ _⟩
  |int _=>obtain⟨t',rfl⟩:=rv;exact⟨RcAt.int_int _ _ _ _,RcNeAt.int_int _ _ _ _,EqAt.int_int _ _ _ _⟩
  |str _=>obtain⟨t',rfl⟩:=rv;exact⟨RcAt.int_str _ _ _ _,RcNeAt.int_str _ _ _ _,xn _ _ _ _⟩
  |_=>exact fx0 hb
 |str _=>
  obtain⟨t,rfl⟩:=ru;cases ry with
  |non=>cases rv;exact⟨RcAt.str_none _ _,RcNeAt.str_none _ _,EqAt.str_none _ _⟩
  |bl _=>cases rv;exact⟨RcAt.str_bool _ _ _,RcNeAt.str_bool _ _ _,EqAt.str_bool _ _ _⟩
  |int _=>obtain⟨t',rfl⟩:=rv;exact⟨RcAt.str_int _ _ _ _,RcNeAt.str_int _ _ _ _,xo _ _ _ _⟩
  |str _=>obtain⟨t',rfl⟩:=rv;exact⟨RcAt.str_str _ _ _ _,RcNeAt.str_str _ _ _ _,EqAt.str_str _ _ _ _⟩
  |_=>exact fx0 hb
 |_=>exact fx0 ha
theorem LC(I:Inv X Ψ σ H s):∀(n:ah)(A:bP){x y:V}{a b:D}{u v:ak},A.units+n<b9->a.fY n=af->b.fY n=af->Rep All H x a->Rep All H y b->RelV x u->RelV y v->
  RcAt A s u v (eqD a b)/\RcNeAt A s u v (!eqD a b)/\EqAt A s u v (eqD a b):=by
 intro n;induction n with
 |zero=>exact λA=>λ_ ha hb rx ry ru rv=>yE ha hb rx ry ru rv
 |succ n ih=>
  intro A x y a b u v hu ha hb rx ry ru rv;have hu0:A.units<b9:=by lia
  have hu1:A.in1.units+n<b9:=by show A.units+1+n<b9;lia
  have itm:∀{xs ys:aa V}{ds es:aa D}{i1 i2:aa ak},ν n ds=af->ν n es=af->bW All H xs ds->bW All H ys es->Vals xs i1->Vals ys i2->∀j (g1:j<i1.toArray.size) (g2:j<i2.toArray.size),EqAt A.in1 s i1.toArray[j] i2.toArray[j] (eqD (ds.getD j .non) (es.getD j .non)):=by
   intro xs ys ds es i1 i2 ha hb r1 r2 vr1 vr2 j g1 g2;have z1:i1.toArray.size=ds.length:=by rw[cv,<-vr1.length,r1.length]
   have z2:i2.toArray.size=es.length:=by rw[cv,<-vr2.length,r2.length]
   obtain⟨v1,w1,rr1⟩:=r1.getD (j:=j) (by lia);obtain⟨v2,w2,rr2⟩:=r2.getD (j:=j) (by lia);obtain⟨u1,k1,l1⟩:=vr1.get w1;obtain⟨u2,k2,l2⟩:=vr2.get w2;have m1:i1.toArray[j]=u1:=by
    rw[dP (by simpa using g1)] at k1;simpa using cz k1
   have m2:i2.toArray[j]=u2:=by
    rw[dP (by simpa using g2)] at k2;simpa using cz k2
   rw[m1,m2];exact(ih A.in1 hu1 (iV ha (by lia)) (iV hb (by lia)) rr1 rr2 l1 l2).2.2
  cases a with
  |non=>
   cases b with
   |tup es=>
    cases rx.inv;cases ru;obtain⟨q,ys,rfl,e2,r2⟩:=ry.iD;cases rv;obtain⟨its2,vr2,h2⟩:=iU I e2;exact⟨RcAt.none_tuple h2 hu0,RcNeAt.none_tuple h2 hu0,EqAt.none_tuple h2 hu0⟩
   |lst es=>
    cases rx.inv;cases ru;obtain⟨q,ys,rfl,e2,r2⟩:=ry.kW (K:=X.K);cases rv;obtain⟨its2,vr2,h2⟩:=oW I e2;exact⟨RcAt.none_list h2 hu0,RcNeAt.none_list h2 hu0,EqAt.none_list h2 hu0⟩
   |_=>first|exact yE rfl rfl rx ry ru rv|exact bb ry Rep.uD|exact fx0 hb
  |bl _=>
   cases b with
   |tup es=>
    cases rx.inv;cases ru;obtain⟨q,ys,rfl,e2,r2⟩:=ry.iD;cases rv;obtain⟨its2,vr2,h2⟩:=iU I e2;exact⟨RcAt.bool_tuple _ h2 hu0,RcNeAt.bool_tuple _ h2 hu0,EqAt.bool_tuple _ h2 hu0⟩
   |lst es=>
    cases rx.inv;cases ru;obtain⟨q,ys,rfl,e2,r2⟩:=ry.kW (K:=X.K);cases rv;obtain⟨its2,vr2,h2⟩:=oW I e2;exact⟨RcAt.bool_list _ h2 hu0,RcNeAt.bool_list _ h2 hu0,EqAt.bool_list _ h2 hu0⟩
   |_=>first|exact yE rfl rfl rx ry ru rv|exact bb ry Rep.uD|exact fx0 hb
  |int _=>
   cases b with
   |tup es=>
    cases rx.inv;obtain⟨t1,rfl⟩:=ru;obtain⟨q,ys,rfl,e2,r2⟩:=ry.iD;cases rv;obtain⟨its2,vr2,h2⟩:=iU I e2;exact⟨RcAt.int_tuple _ _ h2 hu0,RcNeAt.int_tuple _ _ h2 hu0,EqAt.int_tuple _ _ h2 hu0⟩
   |lst es=>
    cases rx.inv;obtain⟨t1,rfl⟩:=ru;obtain⟨q,ys,rfl,e2,r2⟩:=ry.kW (K:=X.K);cases rv;obtain⟨its2,vr2,h2⟩:=oW I e2;exact⟨RcAt.int_list _ _ h2 hu0,RcNeAt.int_list _ _ h2 hu0,EqAt.int_list _ _ h2 hu0⟩
   |_=>first|exact yE rfl rfl rx ry ru rv|exact bb ry Rep.uD|exact fx0 hb
  |str _=>
   cases b with
   |tup es=>
    cases rx.inv;obtain⟨t1,rfl⟩:=ru;obtain⟨q,ys,rfl,e2,r2⟩:=ry.iD;cases rv;obtain⟨its2,vr2,h2⟩:=iU I e2;exact⟨RcAt.str_tuple _ _ h2 hu0,RcNeAt.str_tuple _ _ h2 hu0,EqAt.str_tuple _ _ h2 hu0⟩
   |lst es=>
    cases rx.inv;obtain⟨t1,rfl⟩:=ru;obtain⟨q,ys,rfl,e2,r2⟩:=ry.kW (K:=X.K);cases rv;obtain⟨its2,vr2,h2⟩:=oW I e2;exact⟨RcAt.str_list _ _ h2 hu0,RcNeAt.str_list _ _ h2 hu0,EqAt.str_list _ _ h2 hu0⟩
   |_=>first|exact yE rfl rfl rx ry ru rv|exact bb ry Rep.uD|exact fx0 hb
  |tup ds=>
   obtain⟨p,xs,rfl,e1,r1⟩:=rx.iD;cases ru;obtain⟨its1,vr1,h1⟩:=iU I e1;replace ha:ν _ _=af:=ha;cases b with
   |non=>cases ry.inv;cases rv;exact⟨RcAt.tuple_none h1 hu0,RcNeAt.tuple_none h1 hu0,EqAt.tuple_none h1 hu0⟩
   |bl _=>cases ry.inv;cases rv;exact⟨RcAt.tuple_bool _ h1 hu0,RcNeAt.tuple_bool _ h1 hu0,EqAt.tuple_bool _ h1 hu0⟩
   |int _=>cases ry.inv;obtain⟨t2,rfl⟩:=rv;exact⟨RcAt.tuple_int _ _ h1 hu0,RcNeAt.tuple_int _ _ h1 hu0,EqAt.tuple_int _ _ h1 hu0⟩
   |str _=>cases ry.inv;obtain⟨t2,rfl⟩:=rv;exact⟨RcAt.tuple_str _ _ h1 hu0,RcNeAt.tuple_str _ _ h1 hu0,EqAt.tuple_str _ _ h1 hu0⟩
   |tup es=>
    obtain⟨q,ys,rfl,e2,r2⟩:=ry.iD;cases rv;obtain⟨its2,vr2,h2⟩:=iU I e2;replace hb:ν _ _=af:=hb;have z1:its1.toArray.size=ds.length:=by rw[cv,<-vr1.length,r1.length]
    have z2:its2.toArray.size=es.length:=by rw[cv,<-vr2.length,r2.length]
    have he:=itm ha hb r1 r2 vr1 vr2;have ee:eqD (.tup ds) (.tup es)=((eu (min its1.toArray.size its2.toArray.size)).all (λj=>eqD (ds.getD j .non) (es.getD j .non))&&its1.toArray.size==its2.toArray.size):=by
     rw[show eqD (.tup _) (.tup _)=xY _ _ from rfl,vC,z1,z2]
    have r0:=RcAt.tuples h1 h2 hu0 he;have r0':=RcNeAt.tuples h1 h2 hu0 he;rw[<-ee] at r0 r0';refine⟨r0,r0',?_⟩;by_cases hpq:p=q
    ·subst hpq;have hab:(D.tup ds)=(.tup es):=Rep.inj (n+1) ha hb rx ry;rw[<-hab,G7 (n+1) (.tup ds) ha];exact vy _
    ·exact zp hpq r0
   |lst es=>
    obtain⟨q,ys,rfl,e2,r2⟩:=ry.kW (K:=X.K);cases rv;obtain⟨its2,vr2,h2⟩:=oW I e2;exact⟨RcAt.tuple_list h1 h2 hu0,RcNeAt.tuple_list h1 h2 hu0,EqAt.tuple_list h1 h2 hu0⟩
   |_=>first|exact bb ry Rep.uD|exact fx0 hb
  |lst ds=>
   obtain⟨p,xs,rfl,e1,r1⟩:=rx.kW (K:=X.K);cases ru;obtain⟨its1,vr1,h1⟩:=oW I e1;replace ha:ν _ _=af:=ha;cases b with
   |non=>cases ry.inv;cases rv;exact⟨RcAt.list_none h1 hu0,RcNeAt.list_none h1 hu0,EqAt.list_none h1 hu0⟩
   |bl _=>cases ry.inv;cases rv;exact⟨RcAt.list_bool _ h1 hu0,RcNeAt.list_bool _ h1 hu0,EqAt.list_bool _ h1 hu0⟩
   |int _=>cases ry.inv;obtain⟨t2,rfl⟩:=rv;exact⟨RcAt.list_int _ _ h1 hu0,RcNeAt.list_int _ _ h1 hu0,EqAt.list_int _ _ h1 hu0⟩
   |str _=>cases ry.inv;obtain⟨t2,rfl⟩:=rv;exact⟨RcAt.list_str _ _ h1 hu0,RcNeAt.list_str _ _ h1 hu0,EqAt.list_str _ _ h1 hu0⟩
   |tup es=>
    obtain⟨q,ys,rfl,e2,r2⟩:=ry.iD;cases rv;obtain⟨its2,vr2,h2⟩:=iU I e2;exact⟨RcAt.list_tuple h1 h2 hu0,RcNeAt.list_tuple h1 h2 hu0,EqAt.list_tuple h1 h2 hu0⟩
   |lst es=>
    obtain⟨q,ys,rfl,e2,r2⟩:=ry.kW (K:=X.K);cases rv;obtain⟨its2,vr2,h2⟩:=oW I e2;replace hb:ν _ _=af:=hb;have z1:its1.toArray.size=ds.length:=by rw[cv,<-vr1.length,r1.length]
    have z2:its2.toArray.size=es.length:=by rw[cv,<-vr2.length,r2.length]
    have he:=itm ha hb r1 r2 vr1 vr2;have r00:RcAt A s (.ref p) (.ref q) (eqD (.lst ds) (.lst es))/\RcNeAt A s (.ref p) (.ref q) (!eqD (.lst ds) (.lst es)):=by
     rw[show eqD (.lst _) (.lst _)=xY _ _ from rfl,vC];by_cases hz:ds.length=es.length
     ·have r0:=RcAt.lists h1 h2 (by lia) hu0 he;have r0':=RcNeAt.lists h1 h2 (by lia) hu0 he;rw[z1] at r0 r0';rw[show min ds.length es.length=ds.length by lia,show(ds.length==es.length)=af by simpa using hz,vz];exact⟨r0,r0'⟩
     ·have hz':(its1.toArray.size !=its2.toArray.size)=af:=by rw[z1,z2];simpa using hz
      rw[show(ds.length==es.length)=ag by simpa using hz,yo];exact⟨RcAt.lists_lengths h1 h2 hz' hu0,RcNeAt.lists_lengths h1 h2 hz' hu0⟩
    obtain⟨r0,r0'⟩:=r00;refine⟨r0,r0',?_⟩;by_cases hpq:p=q
    ·subst hpq;have hab:(ξ ds)=(.lst es):=Rep.inj (n+1) ha hb rx ry;rw[<-hab,G7 (n+1) (.lst ds) ha];exact vy _
    ·exact zp hpq r0
   |_=>first|exact bb ry Rep.uD|exact fx0 hb
  |_=>first|exact bb rx Rep.uD|exact fx0 ha
end
end
open PySem.AutoSeq1 (wpAny_loadPart')
open PySem.MeetsSeq PySem.MeetsSeq2 PySem.MeetsSeq3
variable [KFrag]
def iJ.op:iJ->fR
 |.lt=>.Lt|.le=>.LtE|.gt=>.Gt|.ge=>.GtE
def aIf(op:fR)(A:bP)(s:ao)(u v:ak)(b:aq):Prop:=
 ∀(prog:bu)(w:bo)(E:ak->ao->Prop)(Q:ak->ao->Prop),Q (.bool b) s->ϑ (ax prog w) A (k8 op u v) Q E s
def C2(o:iJ)(A:bP)(s:ao)(vs ws:aa ak)(xs ys:aa D):Prop:=
 vs.length=xs.length/\ws.length=ys.length/\∀(j:ah)(v w:ak)(x y:D),vs[j]?=ae v->ws[j]?=ae w->xs[j]?=ae x->ys[j]?=ae y->
  EqAt A s v w (eqD x y)/\(eqD x y=ag->∀k,jF o x y=ae k->aIf o.op A s v w k)
theorem C2.tail(h:C2 o A s (v::vs) (w::ws) (x::xs) (y::ys)):C2 o A s vs ws xs ys:=
 ⟨by simpa using h.1,by simpa using h.2.1,λj a b c d e1 e2 e3 e4=>h.2.2 (j+1) a b c d (by simpa using e1) (by simpa using e2) (by simpa using e3) (by simpa using e4)⟩
def iJ.bt:iJ->Builtin
 |.lt=>Builtin.«tuple.__lt__»|.le=>Builtin.«tuple.__le__»|.gt=>Builtin.«tuple.__gt__»|.ge=>Builtin.«tuple.__ge__»
theorem RL(o q:iJ)(eq:q=o)(l b:al)(items items2:aE ak)(n n2:ah)(dd dd2:ay al)(sl sl2:aE (ay ak))(xs ys:aa D)(res:aq)(hr:jX q xs ys=ae res) :
  Meets (o.bt ⟨[.ref l,.ref b],[]⟩)
   (λA R s=>s.heap.get? l=ae {cls:=.type "tuple",dict:=dd,data:=.seq items n,slots:=sl}/\s.heap.get? b=ae {cls:=.type "tuple",dict:=dd2,data:=.seq items2 n2,slots:=sl2}/\
    C2 q A.in1 s items.toList items2.toList xs ys/\R (.ok (.ret (.bool res))) s):=by
 cases o<;>exact .of_wp λprog w A R s h=>by
  obtain⟨hp,g,d,tk,os⟩:=s;obtain⟨hl,hb,hC,h⟩:=h;have f2:=Bl;have z1:items.size=xs.length:=by rw[<-hC.1];simp
  have z2:items2.size=ys.length:=by rw[<-hC.2.1];simp
  wp_walk using wpAny_loadPart' hl,wpAny_loadPart' hb,wpAny_forIn_list _ (λrest b s'=>b.1=aj/\s'=⟨hp,g,d,tk,os⟩/\∃(vs ws:aa ak)(xs' ys':aa D),rest=vs.zip ws/\
   C2 q A.in1 ⟨hp,g,d,tk,os⟩ vs ws xs' ys'/\xs'.length+items2.size=ys'.length+items.size/\jX q xs' ys'=ae res) _
  case turn=>
   subst eq;rintro⟨y,x⟩ rest b s' ⟨hb',rfl,vs,ws,xs',ys',hz,hC',hlen,hR⟩;cases vs with
   |nil=>rw[zq] at hz;cases hz
   |cons v vs=>
    cases ws with
    |nil=>rw[zr] at hz;cases hz
    |cons w' ws=>
     rw[oy] at hz;injection hz with hyx hrest
     injection hyx with hy hx
     subst hy hx;cases xs' with
     |nil=>exact bb hC'.1 (by simp)
     |cons x0 xs'=>
      cases ys' with
      |nil=>exact bb hC'.2.1 (by simp)
      |cons y0 ys'=>
       rw[jX] at hR;simp only[cr] at hlen;obtain⟨he,hlt⟩:=hC'.2.2 0 _ _ _ _ rfl rfl rfl rfl;refine aw (he prog w _ _ ?_);cases e:eqD x0 y0 with
       |true=>
        rw[e] at hR;simp only[cw] at hR
        wp_walk
        exact⟨rfl,rfl,_,_,_,_,hrest,hC'.tail,by lia,hR⟩
       |false=>
        rw[e] at hR;simp only[db,cx] at hR;have hri:=hlt e res hR prog w;dsimp only[iJ.op] at hri
        wp_walk using hri
        exact⟨_,rfl,by simpa using h⟩
  case fin=>
   rintro⟨b1,b2⟩ s' ⟨hb',rfl,vs,ws,xs',ys',hz,hC',hlen,hR⟩;simp only at hb';subst hb';have hv:res=iJ.nat q items.size items2.size:=by
    subst eq;cases xs' with
    |nil=>
     rw[jX] at hR;have:=cz hR;rw[<-this];simp only[fT] at hlen;simp only[iJ.nat]
     congr 1
     simp only[oz];lia
    |cons x0 xs'=>
     cases ys' with
     |nil=>
      rw[jX] at hR;have:=cz hR;rw[<-this];simp only[fT,cr] at hlen;simp only[iJ.nat,cr]
      congr 1
      simp only[oz];lia
     |cons y0 ys'=>
      exfalso;cases vs with
      |nil=>exact bb hC'.1 (by simp)
      |cons v vs=>
       cases ws with
       |nil=>exact bb hC'.2.1 (by simp)
       |cons w' ws=>rw[oy] at hz;cases hz
   rw[hv] at h;subst eq
   wp_walk
   exact⟨_,rfl,by simpa[Bm,iJ.nat] using h⟩
  case h=>
   exact⟨rfl,rfl,items.toList,items2.toList,xs,ys,rfl,hC,by lia,hr⟩
theorem aIf.tup(o:iJ)(hl:s.heap.IsTuple l items)(hb:s.heap.IsTuple b items2)(hC:C2 o A.in1 s items.toList items2.toList xs ys)(hr:jX o xs ys=ae res)(hu:A.units<b9) :
  aIf o.op A s (.ref l) (.ref b) res:=λprog w E Q h=>by
 obtain⟨⟨cls,dd,data,sl⟩,ho,hc,n,hd⟩:=id hl;obtain⟨⟨cls2,dd2,data2,sl2⟩,ho2,hc2,n2,hd2⟩:=id hb;simp only at hc hd hc2 hd2;subst hc hd hc2 hd2;have M:=RL o o rfl l b items items2 n n2 dd dd2 sl sl2 xs ys res hr;have G:_/\_/\C2 o A.in1 s items.toList items2.toList xs ys/\(sL res≠Value.notImplemented/\Q (.bool res) s):=⟨ho,ho2,hC,(λx=>nomatch x),h⟩
 cases o
 ·exact oB ⟨_,ho,rfl⟩ ⟨_,ho2,rfl⟩ PySem.F.slot_tuple_lt PySem.F.entry_tuple_lt (PySem.F.args_tuple_lt_2 _ _) M G hu
 ·exact oB ⟨_,ho,rfl⟩ ⟨_,ho2,rfl⟩ PySem.F.slot_tuple_le PySem.F.entry_tuple_le (PySem.F.args_tuple_le_2 _ _) M G hu
 ·exact oB ⟨_,ho,rfl⟩ ⟨_,ho2,rfl⟩ PySem.F.slot_tuple_gt PySem.F.entry_tuple_gt (PySem.F.args_tuple_gt_2 _ _) M G hu
 ·exact oB ⟨_,ho,rfl⟩ ⟨_,ho2,rfl⟩ PySem.F.slot_tuple_ge PySem.F.entry_tuple_ge (PySem.F.args_tuple_ge_2 _ _) M G hu
section
theorem UV(o:iJ)(na:∀ds,a≠.tup ds)(rx:Rep All H x a)(ry:Rep All H y b)(ru:RelV x u)(rv:RelV y v)(hk:jF o a b=ae k):aIf o.op A s u v k:=by
 cases a with
 |int i=>
  cases b with
  |int j=>
   cases rx;cases ry;obtain⟨t,rfl⟩:=ru;obtain⟨t',rfl⟩:=rv;rw[jF] at hk;have:=cz hk;subst this;cases o with
   |lt=>exact λprog w E Q h=>(Bn h:ϑ (ax prog w) A (c_ .Lt (.int i t) (.int j t')) Q E s)
   |le=>exact λprog w E Q h=>(Bo h:ϑ (ax prog w) A (c_ .LtE (.int i t) (.int j t')) Q E s)
   |gt=>exact λprog w E Q h=>(Bp h:ϑ (ax prog w) A (c_ .Gt (.int i t) (.int j t')) Q E s)
   |ge=>exact λprog w E Q h=>(Bq h:ϑ (ax prog w) A (c_ .GtE (.int i t) (.int j t')) Q E s)
  |_=>exact nx0 hk
 |str i=>
  cases b with
  |str j=>
   cases rx;cases ry;obtain⟨t,rfl⟩:=ru;obtain⟨t',rfl⟩:=rv;rw[jF] at hk;have:=cz hk;subst this;cases o with
   |lt=>exact λprog w E Q h=>(Br h:ϑ (ax prog w) A (c_ .Lt (.str i t) (.str j t')) Q E s)
   |le=>exact λprog w E Q h=>(PySem.P.le_str h:ϑ (ax prog w) A (c_ .LtE (.str i t) (.str j t')) Q E s)
   |gt=>exact λprog w E Q h=>(PySem.P.gt_str h:ϑ (ax prog w) A (c_ .Gt (.str i t) (.str j t')) Q E s)
   |ge=>exact λprog w E Q h=>(PySem.P.ge_str h:ϑ (ax prog w) A (c_ .GtE (.str i t) (.str j t')) Q E s)
  |_=>exact nx0 hk
 |tup ds=>exact bb rfl (na ds)
 |_=>cases b<;>exact nx0 hk
theorem RM(I:Inv X Ψ σ H s)(o:iJ):∀(n:ah)(A:bP){x y:V}{a b:D}{u v:ak}{k:aq},A.units+n<b9->a.fY n=af->b.fY n=af->Rep All H x a->Rep All H y b->RelV x u->RelV y v->
  jF o a b=ae k->aIf o.op A s u v k:=by
 intro n;induction n with
 |zero=>
  intro A x y a b u v k hu ha hb rx ry ru rv hk;cases a with
  |tup _=>exact fx0 ha
  |_=>exact UV o (by intro ds z;cases z) rx ry ru rv hk
 |succ n ih=>
  intro A x y a b u v k hu ha hb rx ry ru rv hk;have hu0:A.units<b9:=by lia
  have hu1:A.in1.units+n<b9:=by show A.units+1+n<b9;lia
  cases a with
  |tup ds=>
   cases b with
   |tup es=>
    obtain⟨p,xs,rfl,e1,r1⟩:=rx.iD;cases ru;obtain⟨its1,vr1,h1⟩:=iU I e1;obtain⟨q,ys,rfl,e2,r2⟩:=ry.iD;cases rv;obtain⟨its2,vr2,h2⟩:=iU I e2;rw[D.fY] at ha hb;rw[jF] at hk;have hC:∀o',o'=o->C2 o' A.in1 s its1.toArray.toList its2.toArray.toList ds es:=by
     rintro o' rfl;refine⟨by rw[mS,<-vr1.length,r1.length],by rw[mS,<-vr2.length,r2.length],λj v w x y a1 a2 a3 a4=>?_⟩;rw[mS] at a1 a2;obtain⟨v1,w1,rr1⟩:=r1.get a3;obtain⟨v2,w2,rr2⟩:=r2.get a4;obtain⟨u1,k1,l1⟩:=vr1.get w1;obtain⟨u2,k2,l2⟩:=vr2.get w2;rw[a1] at k1;cases k1;rw[a2] at k2;cases k2;have g1:x.fY n=af:=by
      have:=iV ha (d4.mp a3).1;rwa [dh,a3] at this
     have g2:y.fY n=af:=by
      have:=iV hb (d4.mp a4).1;rwa [dh,a4] at this
     exact⟨(LC I n A.in1 hu1 g1 g2 rr1 rr2 l1 l2).2.2,λ_ k hk=>ih A.in1 hu1 g1 g2 rr1 rr2 l1 l2 hk⟩
    exact aIf.tup o h1 h2 (hC o rfl) hk hu0
   |_=>exact nx0 hk
  |_=>exact UV o (by intro ds z;cases z) rx ry ru rv hk
end
end Mi
namespace TS
open PySem PyProof.Rows
theorem G8(ho:s.heap.get? a=ae (em "list" vs.toArray n))(hn:vs.length<=bq)
 (hk:2<=vs.length->∃κ U blt,Ord U blt/\t_ U (fz vs)/\
   (∀Q:f_->ao->Prop,Q κ {s with heap:=((s.heap.update a (e8 λ_=>(#[]:aE ak))).push (em "tuple" vs.toArray 0)).push (em "list" #[] 0)}->ϑ (ax prog w) A (vE vs.toArray) Q E {s with heap:=((s.heap.update a (e8 λ_=>(#[]:aE ak))).push (em "tuple" vs.toArray 0)).push (em "list" #[] 0)})/\
   W5 prog w A E {s with heap:=((s.heap.update a (e8 λ_=>(#[]:aE ak))).push (em "tuple" vs.toArray 0)).push (em "list" #[] 0)} κ U blt/\
   ∀arr:aE au,arr.Perm (fz vs)->Srt blt arr 0 (fz vs).size->P (.done (.ret .none)) {s with heap:=vF s.heap a vs (arr.map (·.2))})
 (h1:vs.length<2->P (.done (.ret .none)) {s with heap:=vF s.heap a vs ((fz vs).map (·.2))}) :
  ϑ (ax prog w) A (Builtin.«list.sort» ⟨[.ref a],[]⟩) P E s:=by
 rw[list_sort_plain];have ha:a<s.heap.objs.size:=bS ho;refine aw (listItems_at ho rfl ?_);refine aw (vS ho rfl ?_ (by rw[cv];exact hn) (eS _));obtain⟨e1,ho1⟩:∃e1,(s.heap.update a (e8 λ_=>(#[]:aE ak))).get? a=ae (em "list" #[] e1):=⟨_,get?_update_seq ho (λ_=>#[])⟩
 refine aw (vT ho1 rfl ?_);refine aw (wpAny_newTuple ?_ (by show vs.length<=_;exact hn));refine aw (zt ?_ (eS _));refine gV ?_;have ho6:(((s.heap.update a (e8 λ_=>(#[]:aE ak))).push (em "tuple" vs.toArray 0)).push (em "list" #[] 0)).get? a=ae (em "list" #[] e1):=by
  rw[zu _ _ _ (by rw[size_push',v3];exact c9 (hX ha)),zu _ _ _ (by rw[v3];exact c9 ha)];exact ho1
 show ϑ (ax prog w) A _ P E {s with heap:=((s.heap.update a (e8 λ_=>(#[]:aE ak))).push (em "tuple" vs.toArray 0)).push (em "list" #[] 0)};dsimp only;have hsz:vs.toArray.size=vs.length:=by simp
 by_cases h2:vs.toArray.size<2
 ·rw[av h2,av h2];refine aw (bh ?_);rw[StateT.run_pure];refine aw (bh ?_);dsimp only;refine aw (vT ho6 rfl ?_);refine aw (vS ho6 rfl ?_ (eS _) (hsz2:=by rw[zv];show(fz vs).size<=_;rw[pairsOf_size];exact zw hn));simp only[zz,db,cx];exact bh (h1 (by lia))
 ·rw[az h2,az h2];obtain⟨κ,U,blt,O,hU,hkk,hL,fin⟩:=hk (by lia);refine aw (hkk _ ?_);refine aw (d5 (wpS_sortRuns
   (Q:=λ_ st'=>(am st').Perm (fz vs)/\fq st'=aj/\Srt blt (am st') 0 (fz vs).size) O hL hU ⟨rfl,rfl,mE _⟩ rfl (by rw[pairsOf_size];lia) λst' b z=>⟨b.pm,b.fl,z⟩) ?_ λ_ _ e=>e)
  rintro⟨⟨⟩,st'⟩ s' ⟨rfl,hp,hf,hs⟩;dsimp only;refine aw (vT ho6 rfl ?_);refine aw (vS ho6 rfl ?_ (eS _) (hsz2:=by refine du (n9 ((zv ..).trans (hp.size_eq.trans (pairsOf_size _)))) ?_;exact zw hn));rw[hf];simp only[zz,db,cx];exact bh (fin (am st') hp hs)
noncomputable def aIg(h:aS)(vs:aa ak):aS:=
 (((h.push (em "list" vs.toArray 0)).update h.objs.size (e8 λ_=>(#[]:aE ak))).push (em "tuple" vs.toArray 0)).push (em "list" #[] 0)
theorem aDg(hb:h.get? b=ae o):(aIg h vs).get? b=ae o:=by
 have hlt:b<h.objs.size:=bS hb;unfold aIg;refine cq _ (cq _ ?_);rw[zC _ _ _ _ (c9 hlt)];exact cq _ hb
noncomputable def aIh(h:aS)(vs:aa ak)(out:aE ak):aS:=vF (h.push (em "list" vs.toArray 0)) h.objs.size vs out
theorem aDh(hb:h.get? b=ae o):(aIh h vs out).get? b=ae o:=by
 have hlt:b<h.objs.size:=bS hb;unfold aIh;rw[sortedHeap_old (c9 hlt) (by rw[size_push'];exact hX hlt)];exact cq _ hb
theorem aGk(h:aS)(vs:aa ak)(out:aE ak):∃e,(aIh h vs out).get? h.objs.size=ae (em "list" out e):=sortedHeap_at (dg _ rfl)
theorem XH(hn:vs.length<=bq)
 (hcol:∀(Q':aa ak->ao->Prop) (E':ak->ao->Prop),(∀h1 tk,(∀b o,s.heap.get? b=ae o->h1.get? b=ae o)->s.heap.objs.size<=h1.objs.size->Q' vs {s with heap:=h1,toks:=tk})->ϑ (ax prog w) A.in1 (la v) Q' E' s)
 (hk:∀h1 tk,(∀b o,s.heap.get? b=ae o->h1.get? b=ae o)->s.heap.objs.size<=h1.objs.size->2<=vs.length->∃κ U blt,Ord U blt/\t_ U (fz vs)/\
   (∀Q:f_->ao->Prop,Q κ {s with heap:=aIg h1 vs,toks:=tk}->ϑ (ax prog w) A.in1.in1 (vE vs.toArray) Q (λ_ _=>cm) {s with heap:=aIg h1 vs,toks:=tk})/\
   W5 prog w A.in1.in1 (λ_ _=>cm) {s with heap:=aIg h1 vs,toks:=tk} κ U blt/\
   ∀arr:aE au,arr.Perm (fz vs)->Srt blt arr 0 (fz vs).size->Q (.ref h1.objs.size) {s with heap:=aIh h1 vs (arr.map (·.2)),toks:=tk})
 (h1:∀h1 tk,(∀b o,s.heap.get? b=ae o->h1.get? b=ae o)->s.heap.objs.size<=h1.objs.size->vs.length<2->Q (.ref h1.objs.size) {s with heap:=aIh h1 vs ((fz vs).map (·.2)),toks:=tk}) :
  ϑ (ax prog w) A (call (.builtin "sorted") [v]) Q E s:=by
 refine Calls.call_function_entry kind_sorted plain_sorted entry_sorted (args_sorted1 _) ?_;unfold Builtin.«sorted»;refine aw (bh ?_);refine aw (hcol _ _ λhh tk kp hle=>?_);refine aw (zt ?_ hn);have hoL:(hh.push (em "list" vs.toArray 0)).get? hh.objs.size=ae (em "list" vs.toArray 0):=dg _ rfl;show ϑ _ _ _ _ _ {s with heap:=hh.push (em "list" vs.toArray 0),toks:=tk};refine aw (gV (mf slot_list_sort ⟨_,hoL,rfl⟩ entry_list_sort ?body (args_list_sort _)))
 case body=>
  refine d5 (G8 (E:=λ_ _=>cm) (P:=λf s'=>∃v,f=.done (.ret v)/\v=fF/\Q (.ref hh.objs.size) s') hoL hn (λh2=>?_) (λh2=>⟨_,rfl,rfl,h1 hh tk kp hle h2⟩)) (λf s' h=>?_) λ_ _ z=>dE z
  ·obtain⟨κ,U,blt,O,hU,hkk,hL,fin⟩:=hk hh tk kp hle h2;exact⟨κ,U,blt,O,hU,hkk,hL,λarr p z=>⟨_,rfl,rfl,fin arr p z⟩⟩
  ·obtain⟨v,rfl,rfl,q⟩:=h;exact⟨_,rfl,bh ⟨_,rfl,q⟩⟩
end TS
namespace Mi
open PySem L2 PySem.SeqAt
open PyProof.Rows (Keyed lt' keyLt' oneLt' SortKind SortSt kindOf tuples' oneType' pairsOf wpS wpS_bind wpS_pure wpS_get wpS_lift keyKind')
section
variable [KFrag]
def mX(H:Hp)(u:ak):D:=by
 classical
 exact if h:∃d,d.plain=af/\d.fY aR=af/\∃v,RelV v u/\Rep All H v d then zD h else .non
theorem wU(hp:d.plain=af)(hq:d.fY aR=af)(rv:RelV v u)(r:Rep All H v d):mX H u=d:=by
 unfold mX;have h:∃d,d.plain=af/\d.fY aR=af/\∃v,RelV v u/\Rep All H v d:=⟨d,hp,hq,v,rv,r⟩
 rw[ov h];obtain⟨h1,h2,v',rv',r'⟩:=zI h;have:=rv'.inj rv;subst this;exact Rep.inj aR h2 hq r' r
theorem fH(h:bQ ds=af)(ha:a∈ds):a.plain=af/\a.fY aR=af/\gG a≠0/\gG a=gG (ds.headD .non)/\∀b∈ds,∃k,jF .lt a b=ae k:=by
 unfold bQ at h;have:=dQ.mp h a ha;simp only[bj,bne_iff_ne,iu] at this;obtain⟨⟨⟨⟨h1,h2⟩,h3⟩,h4⟩,h5⟩:=this;refine⟨h1,h2,h3,h4,λb hb=>kK.mp (dQ.mp h5 b hb)⟩
theorem aJr(h:bQ ds=af)(ha:a∈ds)(hb:b∈ds):jF .lt a b=ae (ϒ (enc a<enc b)):=by
 obtain⟨p1,_,_,_,q⟩:=fH h ha;obtain⟨p2,_⟩:=fH h hb;obtain⟨k,hk⟩:=q b hb;rw[hk,RC a b k p1 p2 hk]
def sU(H:Hp)(ds:aa D)(k:au):Prop:=∃v d,RelV v k.1/\Rep All H v d/\d∈ds
def sLt(H:Hp)(x y:au):aq:=ϒ (enc (mX H x.1)<enc (mX H y.1))
theorem aO7(H:Hp)(ds:aa D):TS.Ord (sU H ds) (sLt H):=by
 refine⟨λx _=>?_,λx y z _ _ _ h1 h2=>?_,λx y z _ _ _ h=>?_⟩
 ·simp[sLt,zS]
 ·simp only[sLt,eD] at *;exact List.lt_trans h1 h2
 ·simp only[sLt,eD] at *;by_cases q:enc (mX H x.1)<enc (mX H y.1)
  ·exact .inl q
  ·exact .inr (zk (zl.mp q) h)
section
variable {X:Cx} {Ψ:aa (al×bf)} {σ:L2.St} {H:Hp} {s:ao}
open PySem.W in
theorem G9:∀(vs ws:aa ak)(xs ys:aa D)(i:ah),(b&&i==0)=ag->C2 .lt A s vs ws xs ys->jX .lt xs ys=ae k->xs.length+n2=ys.length+n1->Q k s->
  KatLex prog w A b (ϒ (n1<n2)) Q (vs.zip ws) i s
 |[],ws,xs,ys,i,_,hC,hk,hf,q=>by
  have:xs=[]:=wa hC.1.symm;subst this;rw[zq];rw[jX] at hk;have e:k=ϒ (n1<n2):=by
   rw[<-cz hk];simp only[iJ.nat,fT] at hf ⊢
   congr 1
   simp only[oz];lia
  rw[<-e];exact q
 |v::vs,[],xs,ys,i,_,hC,hk,hf,q=>by
  have:ys=[]:=wa hC.2.1.symm;subst this;rw[zr];cases xs with
  |nil=>exact bb hC.1 (by simp)
  |cons x xs=>
   rw[jX] at hk;have e:k=ϒ (n1<n2):=by
    rw[<-cz hk];simp only[iJ.nat,fT,cr] at hf ⊢
    congr 1
    simp only[oz];lia
   rw[<-e];exact q
 |v::vs,w'::ws,[],ys,i,_,hC,hk,hf,q=>bb hC.1 (by simp)
 |v::vs,w'::ws,x::xs,[],i,_,hC,hk,hf,q=>bb hC.2.1 (by simp)
 |v::vs,w'::ws,x::xs,y::ys,i,hi,hC,hk,hf,q=>by
  rw[oy];obtain⟨he,hlt⟩:=hC.2.2 0 _ _ _ _ rfl rfl rfl rfl;rw[jX] at hk;refine kat_cons (he prog w _ _ ?_);cases e:eqD x y with
  |true=>
   rw[e,av rfl] at hk;exact kat_yes (G9 vs ws xs ys (i+1) (by simp) hC.tail hk (by simp only[cr] at hf;lia) q)
  |false=>
   rw[e,az (by simp)] at hk;refine kat_no ?_;rw[hi];exact kat_one _ _ (hlt e k hk prog w _ _ q)
theorem aMc(I:Inv X Ψ σ H s)(hu:A.units+n<b9)(ha:ν n ds=af)(hb:ν n es=af)(r1:bW All H xs ds)(r2:bW All H ys es)(vr1:Vals xs its1)(vr2:Vals ys its2) :
  C2 .lt A s its1 its2 ds es:=by
 refine⟨by rw[<-vr1.length,r1.length],by rw[<-vr2.length,r2.length],λj v w x y a1 a2 a3 a4=>?_⟩;obtain⟨v1,w1,rr1⟩:=r1.get a3;obtain⟨v2,w2,rr2⟩:=r2.get a4;obtain⟨u1,k1,l1⟩:=vr1.get w1;obtain⟨u2,k2,l2⟩:=vr2.get w2;rw[a1] at k1;cases k1;rw[a2] at k2;cases k2;have g1:x.fY n=af:=by
  have:=iV ha (d4.mp a3).1;rwa [dh,a3] at this
 have g2:y.fY n=af:=by
  have:=iV hb (d4.mp a4).1;rwa [dh,a4] at this
 exact⟨(LC I n A hu g1 g2 rr1 rr2 l1 l2).2.2,λ_ k hk=>RM I .lt n A hu g1 g2 rr1 rr2 l1 l2 hk⟩
theorem kind_le(d:D):gG d<=5:=by
 unfold gG;split<;>lia
theorem aGl(h:gG d=1):∃i,d=.int i:=by
 unfold gG at h;split at h<;>first|lia|exact⟨_,rfl⟩
theorem aGm(h:gG d=2):∃i,d=.str i:=by
 unfold gG at h;split at h<;>first|lia|exact⟨_,rfl⟩
theorem aDi(h:gG d=3):∃i r,d=.tup (.int i::r):=by
 unfold gG at h;split at h<;>first|lia|exact⟨_,_,rfl⟩
theorem aDj(h:gG d=4):∃i r,d=.tup (.str i::r):=by
 unfold gG at h;split at h<;>first|lia|exact⟨_,_,rfl⟩
theorem aJs(h:gG d=5):∃i r,d=.tup (.tup i::r):=by
 unfold gG at h;split at h<;>first|lia|exact⟨_,_,rfl⟩
theorem UW(r:bW All H xs ds)(vr:Vals xs its)(hu:u∈its):∃v d,RelV v u/\Rep All H v d/\d∈ds:=by
 obtain⟨j,hj,e⟩:=mB hu;have hj':j<ds.length:=by rw[<-r.length,vr.length];exact hj
 obtain⟨v,h1,h2⟩:=r.get (i:=j) (d:=ds[j]) (by simp[hj']);obtain⟨u',h3,h4⟩:=vr.get h1;rw[dP hj,e] at h3;cases h3;exact⟨v,_,h4,h2,jc _⟩
open PySem.W in
theorem G_(I:Inv X Ψ σ H s){F:D->Prop}(hF:∀(d:D) (v:V) (u:ak),F d->RelV v u->Rep All H v d->jl (ax X.prog X.w) s.heap (ke u) T) :
  ∀{xs:aa V}{ds:aa D}{its:aa ak},bW All H xs ds->Vals xs its->(∀d∈ds,∃f r,d=.tup (f::r)/\F f)->∃fs,KatTups s.heap its fs/\fs.length=its.length/\∀f∈fs,jl (ax X.prog X.w) s.heap (ke f) T
 |_,_,_,.nil,.nil,_=>⟨[],.nil,rfl,λ_ h=>by simp at h⟩
 |_,_,_,.cons r t,.cons v vt,h=>by
  obtain⟨fs,h1,h2,h3⟩:=G_ I hF t vt λd hd=>h d (b6 _ hd)
  obtain⟨f,rr,rfl,hf⟩:=h _ (cu ..);obtain⟨a,ys,rfl,e,rs⟩:=r.iD;cases v;obtain⟨its2,vr2,o,ho,hc,n,hd⟩:=iU I e;cases rs with
  |cons r0 rs=>
   cases vr2 with
   |cons v0 vr2=>
    refine⟨_::fs,.cons ho hc hd rfl h1,by simp[h2],λg hg=>?_⟩;rcases bX.mp hg with rfl|hg
    ·exact hF _ _ _ hf v0 r0
    ·exact h3 g hg
open PySem.W in
theorem aAa(I:Inv X Ψ σ H s)(hu:A.units+aR<b9)(hc:bQ ds=af)(r:bW All H xs ds)(vr:Vals xs its)(h2:2<=its.length) :
  ∃κ:f_,(∀Q:f_->ao->Prop,Q κ s->ϑ (ax X.prog X.w) A (vE its.toArray) Q (λ_ _=>cm) s)/\
   ∀(x y:au)(Q:aq->ao->Prop),sU H ds x->sU H ds y->Q (sLt H x y) s->ϑ (ax X.prog X.w) A (keyLt' κ x.1 y.1) Q (λ_ _=>cm) s:=by
 have hlen:ds.length=its.length:=by rw[<-r.length,vr.length]
 have hkind:∀d∈ds,gG d=gG (ds.headD .non):=λd hd=>(fH hc hd).2.2.2.1
 have hne:gG (ds.headD .non)≠0:=by
  have hd:ds.headD .non∈ds:=by
   cases ds with
   |nil=>simp at hlen;lia
   |cons d ds=>simp
  exact(fH hc hd).2.2.1
 have lty:∀{x y:au}{v v':V}{d d':D},RelV v x.1->Rep All H v d->d∈ds->RelV v' y.1->Rep All H v' d'->d'∈ds->jF .lt d d'=ae (sLt H x y):=λ{x y v v' d d'} rv rp hd rv' rp' hd'=>by
  have e1:=wU (fH hc hd).1 (fH hc hd).2.1 rv rp;have e2:=wU (fH hc hd').1 (fH hc hd').2.1 rv' rp';rw[aJr hc hd hd'];unfold sLt;rw[e1,e2]
 -- two tuples whose first items are told by a jy of their own,or by the common one
 have tupl:∀(b:aq)(x y:au)(Q:aq->ao->Prop),sU H ds x->sU H ds y->(∀d∈ds,∃f r,d=.tup (f::r))->
   (b=af->∀(f g:D)(v v':V)(u u':ak)(k:aq)(Q:aq->ao->Prop),(∃r,D.tup (f::r)∈ds)->(∃r,D.tup (g::r)∈ds)->RelV v u->Rep All H v f->RelV v' u'->Rep All H v' g->jF .lt f g=ae k->Q k s->ϑ (ax X.prog X.w) A (oneLt' af u u') Q (λ_ _=>cm) s)->
   Q (sLt H x y) s->ϑ (ax X.prog X.w) A (keyLt' (oD b) x.1 y.1) Q (λ_ _=>cm) s:=by
  rintro b ⟨x1,x2⟩ ⟨y1,y2⟩ Q ⟨v,d,rv,rp,hd⟩ ⟨v',d',rv',rp',hd'⟩ htup hone q;have hk:=lty rv rp hd rv' rp' hd';have q1:=(fH hc hd).2.1;have q2:=(fH hc hd').2.1;obtain⟨f,rr,rfl⟩:=htup d hd;obtain⟨g,rr',rfl⟩:=htup d' hd';obtain⟨a,ys,rfl,e,rs⟩:=rp.iD;obtain⟨a',ys',rfl,e',rs'⟩:=rp'.iD;cases rv;cases rv';obtain⟨i1,vr1,o1,ho1,hc1,n1,hd1⟩:=iU I e;obtain⟨i2,vr2,o2,ho2,hc2,n2,hd2⟩:=iU I e';rw[jF] at hk;have q1':ν 11 (f::rr)=af:=q1;have q2':ν 11 (g::rr')=af:=q2;have hu':A.units+11<b9:=by have:A.units+12<b9:=hu;lia
  have C:=aMc I hu' q1' q2' rs rs' vr1 vr2;refine kat_lt ho1 hd1 ho2 hd2 ?_;have z1:i1.toArray.size=(f::rr).length:=by rw[cv,<-vr1.length,rs.length]
  have z2:i2.toArray.size=(g::rr').length:=by rw[cv,<-vr2.length,rs'.length]
  rw[mS,mS,z1,z2];cases b with
  |false=>exact G9 i1 i2 (f::rr) (g::rr') 0 rfl C hk (by lia) q
  |true=>
   cases rs with
   |cons r0 rs=>
    cases rs' with
    |cons r0' rs'=>
     cases vr1 with
     |cons v0 vr1=>
      cases vr2 with
      |cons v0' vr2=>
       rw[oy];obtain⟨he,_⟩:=C.2.2 0 _ _ _ _ rfl rfl rfl rfl;rw[jX] at hk;refine kat_cons (he X.prog X.w _ _ ?_);cases e0:eqD f g with
       |true=>
        rw[e0,av rfl] at hk;exact kat_yes (G9 _ _ rr rr' 1 (by simp) C.tail hk (by simp only[cr];lia) q)
       |false=>
        rw[e0,az (by simp)] at hk;refine kat_no ?_;exact hone rfl f g _ _ _ _ _ Q ⟨_,hd⟩ ⟨_,hd'⟩ v0 r0 v0' r0' hk q
 have h5:=kind_le (ds.headD .non);have cases5:gG (ds.headD .non)=1\/gG (ds.headD .non)=2\/gG (ds.headD .non)=3\/gG (ds.headD .non)=4\/gG (ds.headD .non)=5:=by lia
 rcases cases5 with c|c|c|c|c
 ·refine⟨oneType',λQ q=>kas_kind (T:=.type "int") h2 (λu hm=>?_) (by decide) (by decide) q,λx y Q hx hy q=>?_⟩
  ·obtain⟨v,d,rv,rp,hd⟩:=UW r vr hm;obtain⟨i,rfl⟩:=aGl ((hkind d hd).trans c);cases rp.inv;obtain⟨t,rfl⟩:=rv;exact oI rfl
  ·obtain⟨v,d,rv,rp,hd⟩:=hx;obtain⟨v',d',rv',rp',hd'⟩:=hy;have hk:=lty rv rp hd rv' rp' hd';obtain⟨i,rfl⟩:=aGl ((hkind d hd).trans c);obtain⟨j,rfl⟩:=aGl ((hkind d' hd').trans c);cases rp.inv;cases rp'.inv;obtain⟨t,e1⟩:=rv;obtain⟨t',e2⟩:=rv';rw[jF] at hk;rw[<-cz hk] at q;rw[e1,e2,z3];exact z5 q
 ·refine⟨oneType',λQ q=>kas_kind (T:=.type "str") h2 (λu hm=>?_) (by decide) (by decide) q,λx y Q hx hy q=>?_⟩
  ·obtain⟨v,d,rv,rp,hd⟩:=UW r vr hm;obtain⟨i,rfl⟩:=aGm ((hkind d hd).trans c);cases rp.inv;obtain⟨t,rfl⟩:=rv;exact oI rfl
  ·obtain⟨v,d,rv,rp,hd⟩:=hx;obtain⟨v',d',rv',rp',hd'⟩:=hy;have hk:=lty rv rp hd rv' rp' hd';obtain⟨i,rfl⟩:=aGm ((hkind d hd).trans c);obtain⟨j,rfl⟩:=aGm ((hkind d' hd').trans c);cases rp.inv;cases rp'.inv;obtain⟨t,e1⟩:=rv;obtain⟨t',e2⟩:=rv';rw[jF] at hk;rw[<-cz hk] at q;rw[e1,e2,z3];exact Aa q
 ·obtain⟨fs,t1,t2,t3⟩:=G_ I (T:=.type "int") (F:=λf=>∃i,f=.int i) (λd v u hf rv rp=>by
   obtain⟨i,rfl⟩:=hf;cases rp.inv;obtain⟨t,rfl⟩:=rv;exact oI rfl) r vr (λd hd=>by
   obtain⟨i,rr,rfl⟩:=aDi ((hkind d hd).trans c);exact⟨_,_,rfl,i,rfl⟩)
  refine⟨oD af,λQ q=>wb (T:=.type "int") t1 (by lia) t3 (by decide) q,λx y Q hx hy q=>tupl af x y Q hx hy (λd hd=>?_) (λ_ f g v v' u u' k Q hf hg rv rp rv' rp' hk q=>?_) q⟩
  ·obtain⟨i,rr,rfl⟩:=aDi ((hkind d hd).trans c);exact⟨_,_,rfl⟩
  ·obtain⟨r1,hf⟩:=hf;obtain⟨r2,hg⟩:=hg;obtain⟨i,rr,e1⟩:=aDi ((hkind _ hf).trans c);obtain⟨j,rr',e2⟩:=aDi ((hkind _ hg).trans c);cases e1;cases e2;cases rp.inv;cases rp'.inv;obtain⟨t,rfl⟩:=rv;obtain⟨t',rfl⟩:=rv';rw[jF] at hk;rw[<-cz hk] at q;exact z5 q
 ·obtain⟨fs,t1,t2,t3⟩:=G_ I (T:=.type "str") (F:=λf=>∃i,f=.str i) (λd v u hf rv rp=>by
   obtain⟨i,rfl⟩:=hf;cases rp.inv;obtain⟨t,rfl⟩:=rv;exact oI rfl) r vr (λd hd=>by
   obtain⟨i,rr,rfl⟩:=aDj ((hkind d hd).trans c);exact⟨_,_,rfl,i,rfl⟩)
  refine⟨oD af,λQ q=>wb (T:=.type "str") t1 (by lia) t3 (by decide) q,λx y Q hx hy q=>tupl af x y Q hx hy (λd hd=>?_) (λ_ f g v v' u u' k Q hf hg rv rp rv' rp' hk q=>?_) q⟩
  ·obtain⟨i,rr,rfl⟩:=aDj ((hkind d hd).trans c);exact⟨_,_,rfl⟩
  ·obtain⟨r1,hf⟩:=hf;obtain⟨r2,hg⟩:=hg;obtain⟨i,rr,e1⟩:=aDj ((hkind _ hf).trans c);obtain⟨j,rr',e2⟩:=aDj ((hkind _ hg).trans c);cases e1;cases e2;cases rp.inv;cases rp'.inv;obtain⟨t,rfl⟩:=rv;obtain⟨t',rfl⟩:=rv';rw[jF] at hk;rw[<-cz hk] at q;exact Aa q
 ·obtain⟨fs,t1,t2,t3⟩:=G_ I (T:=.type "tuple") (F:=λf=>∃i,f=.tup i) (λd v u hf rv rp=>by
   obtain⟨i,rfl⟩:=hf;obtain⟨a,ys,rfl,e,rs⟩:=rp.iD;cases rv;obtain⟨i1,vr1,o1,ho1,hc1,n1,hd1⟩:=iU I e;have:=(show jl (ax X.prog X.w) s.heap (ke (.ref a)) o1.cls from (wc ho1).andThen .now)
   rwa [hc1] at this) r vr (λd hd=>by
   obtain⟨i,rr,rfl⟩:=aJs ((hkind d hd).trans c);exact⟨_,_,rfl,i,rfl⟩)
  refine⟨oD ag,λQ q=>wb (T:=.type "tuple") t1 (by lia) t3 (by decide) q,λx y Q hx hy q=>tupl ag x y Q hx hy (λd hd=>?_) (λh=>by cases h) q⟩;obtain⟨i,rr,rfl⟩:=aJs ((hkind d hd).trans c);exact⟨_,_,rfl⟩
theorem aGn(I:Inv X Ψ σ H s)(h:∀(x y:au) (Q:aq->ao->Prop),sU H ds x->sU H ds y->Q (sLt H x y) s->ϑ (ax X.prog X.w) A (keyLt' κ x.1 y.1) Q (λ_ _=>cm) s) :
  TS.W5 X.prog X.w A (λ_ _=>cm) s κ (sU H ds) (sLt H):=by
 intro x y st Q hx hy hk q;rw[Bu];refine aI (gr ?_);rw[hk];refine aI (jb (mT (d5 (h x y (λb s'=>s'=s/\b=sLt H x y) hx hy ⟨rfl,rfl⟩) (λb s' ⟨e1,e2⟩=>⟨e1,?_⟩) λ_ _ z=>dE z)));subst e2;exact aT q
theorem lX(I:Inv X Ψ σ H s)(hu:X.A.units+20<b9)(vr:Vals xs its)(hn:its.length<=bq)(r:bW All H xs ds)(hc:bQ ds=af)
 (hcol:∀(Q':aa ak->ao->Prop) (E':ak->ao->Prop),(∀h1 tk,(∀b o,s.heap.get? b=ae o->h1.get? b=ae o)->s.heap.objs.size<=h1.objs.size->Q' its {s with heap:=h1,toks:=tk})->ϑ (ax X.prog X.w) X.A.in1 (la v) Q' E' s)
 (q:∀p xs',H p=aj->bW All H xs' (i_ ds)->Q (.ref p) (upd H p (.lst xs'))):ϑ (ax X.prog X.w) X.A (call (.builtin "sorted") [v]) (EP X Ψ σ Q) X.xe s:=by
 have hz:xs.length<=bq:=by rw[vr.length];exact hn
 -- what comes,told by its data
 have fin:∀(h1:aS)(tk:ah),(∀b o,s.heap.get? b=ae o->h1.get? b=ae o)->s.heap.objs.size<=h1.objs.size->∀arr:aE au,arr.Perm (fz its)->(∀i j,i<=j->j<arr.size->leE (mX H (TS.gt arr i).1) (mX H (TS.gt arr j).1)=af)->EP X Ψ σ Q (.ref h1.objs.size) {s with heap:=TS.aIh h1 its (arr.map (·.2)),toks:=tk}:=by
  intro h1' tk kp hle arr hp hs;have hpl:arr.toList.Perm (its.zip its):=by rw[<-Bv];exact vo.mp hp
  have hmem:∀p∈arr.toList,p.1=p.2/\p.1∈its:=λp hp'=>Bw (hpl.mem_iff.mp hp')
  have e1:(arr.map (·.2)).toList=arr.toList.map (·.1):=by
   rw[Array.toList_map];exact lb λp hp'=>(hmem p hp').1.symm
  -- the values and their data
  have all:∀l:aa au,(∀p∈l,p∈arr.toList)->∃ys,Vals ys (l.map (·.1))/\bW All H ys (l.map λp=>mX H p.1):=by
   intro l;induction l with
   |nil=>intro _;exact⟨[],.nil,.nil⟩
   |cons p l ih=>
    intro h;obtain⟨ys,h1,h2⟩:=ih λp hp'=>h p (b6 _ hp')
    obtain⟨v,d,rv,rp,hd⟩:=UW r vr (hmem p (h p (cu ..))).2;refine⟨v::ys,.cons rv h1,?_⟩;rw[bw,wU (fH hc hd).1 (fH hc hd).2.1 rv rp];exact .cons rp h2
  obtain⟨ys,h1,h2⟩:=all arr.toList λ_ h=>h
  have dats:its.map (mX H)=ds:=by
   clear all h1 h2 hp hs hpl hmem e1;have:∀{xs:aa V}{es:aa D}{us:aa ak},bW All H xs es->Vals xs us->(∀d∈es,d∈ds)->us.map (mX H)=es:=by
    intro xs es us r;induction us generalizing xs es with
    |nil=>intro v _;cases v;cases r;rfl
    |cons u us ih=>
     intro v hsub;cases v with
     |cons v0 vt=>
      cases r with
      |cons r0 rt=>
       have hd:=hsub _ (cu ..);rw[bw,ih rt vt λd hd=>hsub d (b6 _ hd),wU (fH hc hd).1 (fH hc hd).2.1 v0 r0]
   exact this r vr λ_ h=>h
  have hperm:(arr.toList.map λp=>mX H p.1).Perm ds:=by
   have:=hpl.map λp=>mX H p.1
   have e2:(its.zip its).map (λp=>mX H p.1)=ds:=by
    have:(its.zip its).map (λp=>mX H p.1)=((its.zip its).map Prod.fst).map (mX H):=by rw[gf];rfl
    rw[this,List.map_fst_zip (bi _),dats]
   rwa [e2] at this
  have hsorted:(arr.toList.map λp=>mX H p.1).Pairwise λa b=>leE a b=af:=by
   rw[m4,vm];intro i j hi hj hij;have:=hs i j (lz hij) (by simpa using hj);have g:∀k (hk:k<arr.toList.length),TS.gt arr k=arr.toList[k]:=λk hk=>by
    unfold TS.gt;have hk':k<arr.size:=by simpa using hk
    simp[ir,hk']
   rwa [g i hi,g j hj] at this
  have eq:(arr.toList.map λp=>mX H p.1)=i_ ds:=by
   refine yC (λd hd=>?_) (hperm.trans (gB ds).symm) hsorted (nH ds);exact(fH hc (hperm.mem_iff.mp hd)).1
  rw[eq] at h2;rw[<-e1] at h1;have hfr:H h1'.objs.size=aj:=I.hok.fresh hle;obtain⟨ee,he⟩:=TS.aGk h1' its (arr.map (·.2));refine⟨.ref h1'.objs.size,_,I.laid (λb o e=>TS.aDh (kp b o e)) hle ?_,rfl,q _ ys hfr h2⟩;refine⟨?_,(arr.map (·.2)).toList,ee,h1,by rw[he]⟩;rw[h2.length,(gB ds).length_eq,<-r.length];exact hz
 refine TS.XH hn hcol (λhh tk kp hle h2=>?_) (λhh tk kp hle h2=>?_)
 ·have I':Inv X Ψ σ H {s with heap:=TS.aIg hh its,toks:=tk}:=I.kept λb o e=>TS.aDg (kp b o e)
  have hu2:X.A.in1.in1.units+aR<b9:=by show X.A.units+1+1+12<b9;lia
  obtain⟨κ,k1,k2⟩:=aAa I' hu2 hc r vr h2;refine⟨κ,sU H ds,sLt H,aO7 H ds,λi hi=>?_,k1,aGn I' k2,λarr p z=>fin hh tk kp hle arr p λi j a1 a2=>?_⟩
  ·rw[Ab] at hi;have e:TS.gt (fz its) i=(its[i],its[i]):=by
    unfold TS.gt fz;simp[ir,hi]
   rw[e];exact UW r vr (jc hi)
  ·have:=z i j (eS _) a1 (by rw[<-p.size_eq];exact a2);unfold leE;unfold sLt at this;rw[this];rfl
 ·refine fin hh tk kp hle _ (mE _) λi j a1 a2=>?_
  rw[Ab] at a2;rw[show i=j by lia];simp[leE,zS]
theorem CT(I:Inv X Ψ σ H s)(hu:X.A.units+20<b9)(hl:SqL X.K H l xs)(r:bW All H xs ds)(hc:bQ ds=af)
 (q:∀p xs',H p=aj->bW All H xs' (i_ ds)->Q (.ref p) (upd H p (.lst xs'))):ϑ (ax X.prog X.w) X.A (call (.builtin "sorted") [.ref l]) (EP X Ψ σ Q) X.xe s:=by
 obtain⟨its,vr,pl,hz⟩:=I.list hl;have hn:its.length<=bq:=by rw[<-vr.length];exact hz
 refine lX I hu vr hn r hc (λQ' E' h=>Bx pl.isList (h _ s.toks (λb o e=>?_) ?_) hn) q
 ·rw[zC _ _ _ _ (c9 (bS e))];exact cq _ e
 ·rw[v3,By];exact jg _
end
end
open PySem.Spec PyProof.Rows
section
variable [KFrag]
def kR(H:Hp)(d:D)(fr:aq)(Q:VK):Prop:=∀v H',cX H H'->Rep All H' v d->(fr=af->Rep (New H) H' v d)->Q v H'
noncomputable def gE(f:FE)(fr:aq):TE:=λσ H Q=>∃ρ d,ER H σ ρ/\f ρ=.ok d/\kR H d fr Q
noncomputable def gT(f:FT):TT:=λσ H Q=>∃ρ b,ER H σ ρ/\f ρ=.ok b/\∀H',cX H H'->Q b H'
noncomputable def gA(f:FA)(fr:aq):TA:=λσ H Q=>∃ρ ds,ER H σ ρ/\f ρ=.ok ds/\∀vs H',cX H H'->bW All H' vs ds->(fr=af->bW (New H) H' vs ds)->Q vs H'
theorem kR.self{fr:aq}(q:kR H d fr Q)(r:Rep All H v d)(r2:fr=af->Rep (New H) H v d):Q v H:=q v H (cX.refl H) r r2
theorem kR.imp{fr fr':aq}(q:kR H d fr Q)(s:cX H H')(h:fr=af->fr'=af):kR H' d fr' Q:=λv H2 s2 r n=>q v H2 (s.trans s2) r λhf=>(n (h hf)).mono (cX.new s)
theorem kR.int{fr:aq}{Q:VK}(q:kR H (.int i) fr Q):Q (.int i) H:=q.self (.int i) λ_=>.int i
theorem kR.bl{fr:aq}{Q:VK}(q:kR H (.bl i) fr Q):Q (.bl i) H:=q.self (.bl i) λ_=>.bl i
theorem kR.str{fr:aq}{Q:VK}(q:kR H (.str i) fr Q):Q (.str i) H:=q.self (.str i) λ_=>.str i
theorem kR.non{fr:aq}{Q:VK}(q:kR H .non fr Q):Q .non H:=q.self .non λ_=>.non
noncomputable def r2(f:D->D->Res D)(fr:aq):R2:=λx y H Q=>∃a b d,Rep All H x a/\Rep All H y b/\f a b=.ok d/\kR H d fr Q
def r1(f:D->Res D)(fr:aq):V->Hp->VK->Prop:=λx H Q=>∃a d,Rep All H x a/\f a=.ok d/\kR H d fr Q
def rs(f:aa D->Res D)(fr:aq):aa V->Hp->VK->Prop:=λxs H Q=>∃ds d,bW All H xs ds/\f ds=.ok d/\kR H d fr Q
theorem bL{f:α->Res β}(h:(do let x <- m;f x)=.ok b):∃a,m=.ok a/\f a=.ok b:=Res.aGi h
section
variable {X:Cx} {a b e:Expr} {pos:cb} {fa fb fe:FE} {ra rb re:aq} {ga:FT}
theorem ER.var(E:ER H σ ρ)(h:jH i ρ=.ok d):∃v,σ[i]?=ae (ae v)/\Rep All H v d/\ρ.getD i .uD=d:=by
 have:ρ.getD i .uD=d/\d≠.uD:=by
  unfold jH at h;split at h
  ·exact bx h
  ·cases h;refine⟨rfl,λz=>?_⟩;rename_i q;exact q z
 obtain⟨e1,e2⟩:=this;obtain⟨v,h1,h2⟩:=E i (by rw[e1];exact e2);exact⟨v,h1,by rw[e1] at h2;exact h2,e1⟩
theorem aC(hN:X.N[i]?=ae x:=by exact rfl)(hv:Vis X.env.scope x:=by trivial)(hd:nDb x:=by decide)(hcd:nCd x:=by decide):PE X (.Name x pos) (gE (jH i) ag):=
 PE.imp (kI hN hv hd hcd) λσ H Q z0=>by
  obtain⟨ρ,d,E,h,q⟩:=z0;obtain⟨v,h1,h2,_⟩:=E.var h;exact⟨v,h1,q.self h2 (λz=>by cases z)⟩
theorem aH{i j}:PE X (.Constant (.int i) j pos) (gE (bC (.int i)) af):=PE.imp aIq λσ H Q z0=>by obtain⟨ρ,d,E,h,q⟩:=z0;cases h;exact q.int
theorem XJ{i j}:PE X (.Constant (.bool i) j pos) (gE (bC (.bl i)) af):=PE.imp aLq λσ H Q z0=>by obtain⟨ρ,d,E,h,q⟩:=z0;cases h;exact q.bl
theorem LK{i j}:PE X (.Constant (.str i) j pos) (gE (bC (.str i)) af):=PE.imp aEv λσ H Q z0=>by obtain⟨ρ,d,E,h,q⟩:=z0;cases h;exact q.str
theorem aJt{j}:PE X (.Constant .none j pos) (gE (bC .non) af):=PE.imp aIr λσ H Q z0=>by obtain⟨ρ,d,E,h,q⟩:=z0;cases h;exact q.non
theorem two{fr:aq}{σ:L2.St}{H:Hp}{Q:VK}(h:gE (b2 f fa fb) fr σ H Q):tOp (r2 f fr) (gE fa ra) (gE fb rb) σ H Q:=by
 obtain⟨ρ,d,E,h,q⟩:=h;obtain⟨x,h1,h⟩:=bL h;obtain⟨y,h2,h⟩:=bL h;refine⟨ρ,x,E,h1,λv H1 s1 rp1 _=>⟨ρ,y,E.same s1,h2,λu H2 s2 rp2 _=>⟨x,y,d,rp1.same s2,rp2,h,q.imp (s1.trans s2) id⟩⟩⟩
theorem aV{o:Operator}{f:D->D->Res D}{fr:aq}(ho:OpR X (fj o) (r2 f fr))(ha:PE X a (gE fa ra))(hb:PE X b (gE fb rb)):PE X (.BinOp a o b pos) (gE (b2 f fa fb) fr):=PE.imp (aM0 ho ha hb) λ_ _ _=>two
theorem U0{o:fR}{f:D->D->Res D}{fr:aq}(ho:OpR X (c_ o) (r2 f fr))(ha:PE X a (gE fa ra))(hb:PE X b (gE fb rb))(hm:kF o b=ag):PE X (.Compare a [o] [b] pos) (gE (b2 f fa fb) fr):=PE.imp (aG3 ho ha hb hm) λ_ _ _=>two
theorem cV{o:fR}{f:D->D->Res D}{fr:aq}(ho:OpR X (c_ o) (r2 f fr))(ha:PE X a (gE fa ra))(hb:PE X b (gE fb rb))(hm:kF o b=ag):PT X (.Compare a [o] [b] pos) (gT (bTB (b2 f fa fb))):=
 PT.imp (aG4 ho ha hb hm) λσ H Q z0=>by
  obtain⟨ρ,k,E,h,q⟩:=z0;obtain⟨d,h1,h2⟩:=bL h;refine two ⟨ρ,d,E,h1,λv H' s r _=>?_⟩;cases d<;>simp only[asB] at h2<;>cases h2
  cases r.inv;exact⟨_,rfl,q H' s⟩
theorem RN{f:D->Res D}{fr:aq}(ho:UnR X (nt o) (r1 f fr))(ha:PE X a (gE fa ra)):PE X (.UnaryOp o a pos) (gE (b1 f fa) fr):=
 PE.imp (aM1 ho ha) λσ H Q z0=>by
  obtain⟨ρ,d,E,h,q⟩:=z0;obtain⟨x,h1,h⟩:=bL h;exact⟨ρ,x,E,h1,λv H1 s1 rp1 _=>⟨x,d,rp1,h,q.imp s1 id⟩⟩
theorem aMd{f:D->D->Res D}{fr:aq}(ho:IxR X (r2 f fr))(ha:PE X a (gE fa ra))(hb:PE X b (gE fb rb))(hs:QR b):PE X (.Subscript a b pos) (gE (b2 f fa fb) fr):=PE.imp (aM7 ho ha hb hs) λ_ _ _=>two
theorem aO8(r:Rep All H v d)(h:aN7 d=.ok k)(hd:∀kvs,d≠.dct kvs)(hs:∀xs,d≠.scr xs):aM3 X.K v H k:=by
 cases r with
 |non=>cases h;rfl
 |bl b=>cases h;rfl
 |int i=>cases h;rfl
 |str x=>
  replace h:(if ϒ (x.length<=lim) then ε ((x.length:ai)!=0) else .bad)=.ok k:=h;split at h
  ·rename_i hl;cases h;exact⟨du (ft hl) (by rw[fo];decide),rfl⟩
  ·exact bx h
 |tup e rr=>cases h;exact .inr (.inl ⟨_,.of e,by cases rr<;>rfl⟩)
 |lst e p rr=>cases h;exact .inl ⟨_,.of e,by cases rr<;>rfl⟩
 |frz e rr=>exact bb rfl (hs _)
 |dK e p rr n=>exact bb rfl (hd _)
 |dT e p rr n=>exact bb rfl (hd _)
 |fdK e rr n=>exact bx h
 |fdT e rr n=>exact bx h
 |exc n e q=>exact bx h
 |ins n e q=>exact bx h
 |adr=>exact bx h
 |dlK _ _ _ _=>exact bx h
 |dlT _ _ _ _=>exact bx h
 |cel e p rr=>exact bx h
theorem jP(ha:PE X a (gE fa ra))(he:∀whole,nn a X.env whole=(do let v <- whole;standAt a.pos;uq [v] (truthy v)):=by intro _;rfl):PT X a (gT (bTr fa)):=
 PT.imp (aCy ha he) λσ H Q z0=>by
  obtain⟨ρ,k,E,h,q⟩:=z0;obtain⟨d,h1,h2⟩:=bL h;refine⟨ρ,d,E,h1,λv H' s r _=>⟨k,aO8 r ?_ ?_ ?_,q H' s⟩⟩
  ·cases d<;>first|exact h2|exact bx h2
  ·rintro kvs rfl;exact bx h2
  ·rintro kvs rfl;exact bx h2
theorem aF8(ha:PT X a (gT ga)):PT X (.UnaryOp .Not a pos) (gT (aF5 ga)):=PT.imp (aIu ha) λσ H Q z0=>by
  obtain⟨ρ,k,E,h,q⟩:=z0;obtain⟨d,h1,h2⟩:=bL h;cases h2;exact⟨ρ,d,E,h1,λH' s=>q H' s⟩
theorem U3{op}(ha:PE X a (gE fa ra)):PE X (.BoolOp op [a] pos) (gE fa ra):=aIv ha
theorem LQ(h:asB d=.ok k):d=.bl k:=by cases d<;>simp only[asB] at h<;>cases h;rfl
theorem aJu(h:asI d=.ok k):d=.int k:=by cases d<;>simp only[asI] at h<;>cases h;rfl
theorem aJv(ha:PE X a (gE fa ra)):PE X (.UnaryOp .Not a pos) (gE (aDb fa) af):=PE.imp (aIx ha) λσ H Q z0=>by
  obtain⟨ρ,k,E,h,q⟩:=z0;obtain⟨d,h1,h⟩:=bL h;obtain⟨z,h2,h⟩:=bL h;cases h;cases LQ h2;exact⟨ρ,_,E,h1,λv H' s r _=>by cases r.inv;exact⟨_,rfl,(q.imp s id).bl⟩⟩
theorem U4{rest:aa Expr}(ha:PE X a (gE fa ra))(hb:PE X (.BoolOp .And (b::rest) pos) (gE fb rb)):PE X (.BoolOp .And (a::b::rest) pos) (gE (G3 fa fb) rb):=PE.imp (aIw ha hb) λσ H Q z0=>by
  obtain⟨ρ,k,E,h,q⟩:=z0;obtain⟨d,h1,h⟩:=bL h;obtain⟨z,h2,h3⟩:=bL h;cases LQ h2;refine⟨ρ,_,E,h1,λv H' s r _=>?_⟩;cases r.inv;refine⟨_,rfl,?_⟩;cases z with
  |true=>rw[av rfl];rw[av rfl] at h3;exact⟨ρ,k,E.same s,h3,q.imp s id⟩
  |false=>rw[az (by simp)];rw[az (by simp)] at h3;cases h3;exact(q.imp s id).bl
theorem aJw{rest:aa Expr}(ha:PE X a (gE fa ra))(hb:PE X (.BoolOp .Or (b::rest) pos) (gE fb rb)):PE X (.BoolOp .Or (a::b::rest) pos) (gE (aMb fa fb) rb):=PE.imp (aLu ha hb) λσ H Q z0=>by
  obtain⟨ρ,k,E,h,q⟩:=z0;obtain⟨d,h1,h⟩:=bL h;obtain⟨z,h2,h3⟩:=bL h;cases LQ h2;refine⟨ρ,_,E,h1,λv H' s r _=>?_⟩;cases r.inv;refine⟨_,rfl,?_⟩;cases z with
  |true=>rw[av rfl];rw[av rfl] at h3;cases h3;exact(q.imp s id).bl
  |false=>rw[az (by simp)];rw[az (by simp)] at h3;exact⟨ρ,k,E.same s,h3,q.imp s id⟩
theorem aF:PA X [] (gA aO af):=PA.imp xM λσ H Q z0=>by obtain⟨ρ,ds,E,h,q⟩:=z0;cases h;exact q [] H (cX.refl H) .nil λ_=>.nil
theorem aA(he:PE X e (gE fe re))(hes:PA X es (gA f r))(hs:br (e::es) X.env=(ag,eval e X.env)::br es X.env:=by rfl):PA X (e::es) (gA (aB fe f) (re&&r)):=PA.imp (jW he hes hs) λσ H Q z0=>by
  obtain⟨ρ,ds,E,h,q⟩:=z0;obtain⟨x,h1,h⟩:=bL h;obtain⟨xs,h2,h⟩:=bL h;cases h;refine⟨ρ,x,E,h1,λv H1 s1 r1 n1=>⟨ρ,xs,E.same s1,h2,λvs H2 s2 r2 n2=>q _ _ (s1.trans s2) (.cons (r1.same s2) r2) λhf=>?_⟩⟩;obtain⟨f1,f2⟩:=(bj _ _▸hf:re=af/\r=af)
  exact .cons ((n1 f1).same s2) ((n2 f2).mono (cX.new s1))
theorem bK{x1}(h:PA X es (gA f r)):PE X (.Tuple es x1 pos) (gE (cL f) r):=PE.imp (aJ9 h) λσ H Q z0=>by
  obtain⟨ρ,d,E,h,q⟩:=z0;obtain⟨xs,h1,h⟩:=bL h;split at h
  ·rename_i hl;cases h;refine⟨ρ,xs,E,h1,λvs H1 s1 r1 n1=>⟨?_,λp hp=>?_⟩⟩
   ·rw[r1.length];exact du (ft hl) (by rw[fo];decide)
   ·have sp:cX H1 (upd H1 p (.tup vs)):=cX.upd hp;exact q _ _ (s1.trans sp) (.tup aN (r1.same sp)) λhf=>.tup aN ((n1 hf).same sp)
  ·exact bx h
theorem gC(h:PA X es (gA f r)):PE X (.List es pos) (gE (uT f) r):=PE.imp (aJa h) λσ H Q z0=>by
  obtain⟨ρ,d,E,h,q⟩:=z0;obtain⟨xs,h1,h⟩:=bL h;split at h
  ·rename_i hl;cases h;refine⟨ρ,xs,E,h1,λvs H1 s1 r1 n1=>⟨?_,λp hp=>?_⟩⟩
   ·rw[r1.length];exact du (ft hl) (by rw[fo];decide)
   ·have sp:cX H1 (upd H1 p (.lst vs)):=cX.upd hp;exact q _ _ (s1.trans sp) (.lst aN trivial (r1.same sp)) λhf=>.lst aN (s1.free hp) ((n1 hf).same sp)
  ·exact bx h
theorem HB:PE X (.Dict [] [] pos) (gE (bC (.dct [])) af):=PE.imp aD5 λσ H Q z0=>by
  obtain⟨ρ,d,E,h,q⟩:=z0;cases h;exact λp hp=>q _ _ (cX.upd hp) (.dK aN trivial .nil hZ) λ_=>.dK aN hp .nil hZ
end
section
variable {a b c e:Expr}
theorem uE(h:ϒ (n<=lim)=af):n<=bq:=du (ft h) (by rw[fo];decide)
theorem aF9(h:ϒ (n<lim)=af):n<bq:=dz (ft h) (by rw[fo];decide)
theorem Rep.aJx(r:Rep P H v (.lst ds)):∃a xs,v=.ref a/\Rd H a (.lst xs)/\bW P H xs ds:=by
 cases r with
 |lst e p rr=>exact⟨_,_,rfl,.inl e,rr⟩
theorem PW.imp(h:PW X e t)(i:∀σ H Q,t' σ H Q->t σ H Q):PW X e t':=λwh Ψ s σ H Q I q=>h wh Ψ s σ H Q I (i σ H Q q)
theorem HD(ha:PT X a (gT ga)):PW X (.BoolOp .And [a] pos) (gT ga):=aG0 ha
theorem aAb(ha:PT X a (gT ga)):PW X (.BoolOp .Or [a] pos) (gT ga):=aIs ha
theorem U5{rest:aa Expr}(ha:PT X a (gT ga))(hb:PW X (.BoolOp .And (b::rest) pos) (gT gb)):PW X (.BoolOp .And (a::b::rest) pos) (gT (T8 ga gb)):=PW.imp (aIt ha hb) λσ H Q z0=>by
 obtain⟨ρ,k,E,h,q⟩:=z0;obtain⟨z,h1,h3⟩:=bL h;refine⟨ρ,z,E,h1,λH' s=>?_⟩;cases z with
 |true=>rw[av rfl];rw[av rfl] at h3;exact⟨ρ,k,E.same s,h3,λH2 s2=>q H2 (s.trans s2)⟩
 |false=>rw[az (by simp)];rw[az (by simp)] at h3;cases h3;exact q H' s
theorem HF{rest:aa Expr}(ha:PT X a (gT ga))(hb:PW X (.BoolOp .Or (b::rest) pos) (gT gb)):PW X (.BoolOp .Or (a::b::rest) pos) (gT (bOr ga gb)):=PW.imp (aLr ha hb) λσ H Q z0=>by
 obtain⟨ρ,k,E,h,q⟩:=z0;obtain⟨z,h1,h3⟩:=bL h;refine⟨ρ,z,E,h1,λH' s=>?_⟩;cases z with
 |true=>rw[av rfl];rw[av rfl] at h3;cases h3;exact q H' s
 |false=>rw[az (by simp)];rw[az (by simp)] at h3;exact⟨ρ,k,E.same s,h3,λH2 s2=>q H2 (s.trans s2)⟩
theorem aFa(h:gE (bCh f g fa fb fc) r' σ H Q):ZG (r2 f r) (r2 g r') (gE fa ra) (gE fb rb) (gE fc rc) σ H Q:=by
 obtain⟨ρ,d,E,h,q⟩:=h;obtain⟨x,h1,h⟩:=bL h;obtain⟨y,h2,h⟩:=bL h;obtain⟨z,h3,h⟩:=bL h;obtain⟨k,h4,h7⟩:=bL h;refine⟨ρ,x,E,h1,λv H1 s1 rp1 _=>⟨ρ,y,E.same s1,h2,λu H2 s2 rp2 _=>⟨x,y,z,rp1.same s2,rp2,h3,λt H3 s3 rp3 _=>?_⟩⟩⟩;have e:=LQ h4;subst e;cases rp3.inv;refine⟨k,rfl,?_⟩;have s13:=(s1.trans s2).trans s3;cases k with
 |true=>
  rw[av rfl];rw[av rfl] at h7;obtain⟨w,h5,h6⟩:=bL h7;exact⟨ρ,w,E.same s13,h5,λt H4 s4 rp4 _=>⟨y,w,d,(rp2.same s3).same s4,rp4,h6,q.imp (s13.trans s4) id⟩⟩
 |false=>
  rw[az (by simp)];rw[az (by simp)] at h7;cases h7;exact(q.imp s13 id).bl
theorem U6(ho:OpR X (c_ o) (r2 f r))(ho':OpR X (c_ o') (r2 g r'))(ha:PE X a (gE fa ra))(hb:PE X b (gE fb rb))(hc:PE X c (gE fc rc))
 (hm:nu [o,o'] [b,c]=ag:=by with_unfolding_all rfl):PE X (.Compare a [o,o'] [b,c] pos) (gE (bCh f g fa fb fc) r'):=PE.imp (aCw ho ho' ha hb hc hm) λ_ _ _=>aFa
theorem aDk(ho:OpR X (c_ o) (r2 f r))(ho':OpR X (c_ o') (r2 g r'))(ha:PE X a (gE fa ra))(hb:PE X b (gE fb rb))(hc:PE X c (gE fc rc))
 (hm:nu [o,o'] [b,c]=ag:=by with_unfolding_all rfl):PT X (.Compare a [o,o'] [b,c] pos) (gT (bTB (bCh f g fa fb fc))):=PT.imp (aCx ho ho' ha hb hc hm) λσ H Q z0=>by
  obtain⟨ρ,k,E,h,q⟩:=z0;obtain⟨d,h1,h2⟩:=bL h;refine aFa ⟨ρ,d,E,h1,λv H' s r _=>?_⟩;have e:=LQ h2;subst e;cases r.inv;exact⟨_,rfl,q H' s⟩
theorem bU:OpR X (fj .Add) (r2 (aQ .add) af):=by
 intro Ψ s σ H x y v u Q I rx ry h;obtain⟨a,b,d,p,q,e,k⟩:=h;cases p with
 |int i=>
  cases q with
  |int j=>cases e;exact aJ1 Ψ s σ H _ _ v u Q I rx ry ⟨i,j,rfl,rfl,k.int⟩
  |_=>exact bx e
 |str i=>
  cases q with
  |str j=>
   replace e:(if ϒ (i.length+j.length<=lim) then ε (ι (i++j)) else .bad)=.ok d:=e;split at e
   ·rename_i hl;cases e;exact WY Ψ s σ H _ _ v u Q I rx ry ⟨i,j,rfl,rfl,uE hl,k.str⟩
   ·exact bx e
  |_=>exact bx e
 |non=>exact bx e
 |bl _=>exact bx e
 |tup _ _=>exact bx e
 |dK _ _ _ _=>exact bx e
 |dT _ _ _ _=>exact bx e
 |fdK _ _ _=>exact bx e
 |fdT _ _ _=>exact bx e
 |exc _ _ _=>exact bx e
 |ins _ _ _=>exact bx e
 |adr=>exact bx e
 |dlK _ _ _ _=>exact bx e
 |dlT _ _ _ _=>exact bx e
 |cel _ _ _=>exact bx e
 |@lst a1 xs ds e1 p1 r1=>
  have hR:Rep All H (.ref a1) (.lst ds):=.lst e1 p1 r1;cases b with
  |lst es=>
   replace e:(if ϒ (ds.length+es.length<=lim)&&θ ds&&θ es then ε (ξ (ds++es)) else .bad)=.ok d:=e;split at e
   ·rename_i hl;cases e;rw[bj,bj] at hl;obtain⟨⟨hl,hp1⟩,hp2⟩:=hl;obtain⟨l1,xs1,e1',rd1,rr1⟩:=hR.aJx;obtain⟨l2,xs2,rfl,rd2,rr2⟩:=q.aJx;cases e1';cases rx;cases ry;obtain⟨z,its,n,vr1,ee1⟩:=rd1.ok I.hok;obtain⟨z2,its2,n2,vr2,ee2⟩:=rd2.ok I.hok;have hz:xs1.length+xs2.length<=bq:=by rw[rr1.length,rr2.length];exact uE hl
    have t1:=vr1.length;have t2:=vr2.length;refine PySem.P.add_list ee1 ee2 ?_ (by rw[cv,cv];lia);have ea:its.toArray++its2.toArray=(its++its2).toArray:=by simp
    rw[ea];refine⟨.ref _,_,I.aO4 (vr1.append vr2) (by rw[de];lia),rfl,?_⟩;have sp:cX H (upd H s.heap.objs.size (.lst (xs1++xs2))):=cX.upd I.fresh;exact k _ _ sp (.lst aN trivial ((rr1.append rr2).same sp)) λ_=>.lst aN I.fresh (((rr1.bV hp1).append (rr2.bV hp2)).same sp)
   ·exact bx e
  |_=>exact bx e
 |frz _ _=>exact bx e
theorem HH(h:OpR X f (rI C g))
 (hi:∀i j d,op (.int i) (.int j)=.ok d->C i j/\∃k,d=.int k/\g i j=.int k)(hn:∀a b d,op a b=.ok d->(∃i,a=.int i)/\∃j,b=.int j):OpR X f (r2 op af):=by
 rintro Ψ s σ H x y v u Q I rx ry ⟨a,b,d,p,q,e,k⟩;obtain⟨⟨i,rfl⟩,⟨j,rfl⟩⟩:=hn a b d e;cases p.inv;cases q.inv;obtain⟨hc,m,rfl,hm⟩:=hi i j d e;exact h Ψ s σ H _ _ v u Q I rx ry ⟨i,j,rfl,rfl,hc,by rw[hm];exact k.int⟩
theorem uF(ho:o≠.add){a b d:D}(e:aQ o a b=.ok d):(∃i,a=.int i)/\∃j,b=.int j:=by
 cases a with
 |int i=>
  cases b with
  |int j=>exact⟨⟨i,rfl⟩,j,rfl⟩
  |_=>cases o<;>first|exact bx e|exact bb rfl ho
 |_=>cases o<;>first|exact bx e|exact bb rfl ho
theorem aAc:OpR X (fj .Sub) (r2 (aQ .sub) af):=by
 rintro Ψ s σ H x y v u Q I rx ry ⟨a,b,d,p,q,e,k⟩;obtain⟨⟨i,rfl⟩,j,rfl⟩:=uF (by decide) e;cases p.inv;cases q.inv;cases e;exact aJ2 Ψ s σ H _ _ v u Q I rx ry ⟨_,_,rfl,rfl,k.int⟩
theorem v5:OpR X (fj .Mult) (r2 (aQ .mul) af):=by
 refine HH aJ3 (λi j d e=>?_) λa b d e=>uF (by decide) e
 ·replace e:(if kJ i||kJ j then ε (δ (i*j)) else .bad)=.ok d:=e;split at e
  ·rename_i hl;cases e;refine⟨?_,_,rfl,rfl⟩;simp only[kJ,iv,bj,eD] at hl;exact hl
  ·exact bx e
theorem cP:OpR X (fj .FloorDiv) (r2 (aQ .fdiv) af):=by
 refine HH aG2 (λi j d e=>?_) λa b d e=>uF (by decide) e
 ·replace e:(if ϒ (0<j)&&ϒ (j<1073741824) then ε (δ (i / j)) else .bad)=.ok d:=e;split at e
  ·rename_i hl;cases e;refine⟨?_,_,rfl,rfl⟩;simp only[bj,eD] at hl;exact hl
  ·exact bx e
theorem cW:OpR X (fj .Mod) (r2 (aQ .mod) af):=by
 refine HH aJ4 (λi j d e=>?_) λa b d e=>uF (by decide) e
 ·replace e:(if ϒ (0<j) then ε (δ (i % j)) else .bad)=.ok d:=e;split at e
  ·rename_i hl;cases e;refine⟨?_,_,rfl,rfl⟩;simp only[bj,eD] at hl;exact hl
  ·exact bx e
theorem yF:OpR X (fj .Pow) (r2 (aQ .pow) af):=by
 refine HH aJ5 (λi j d e=>?_) λa b d e=>uF (by decide) e
 ·replace e:(if ϒ (0<=j)&&ϒ (j<=1000000)&&ϒ (i.natAbs<2 ^ 64) then ε (δ (i ^ j.toNat)) else .bad)=.ok d:=e;split at e
  ·rename_i hl;cases e;refine⟨?_,_,rfl,rfl⟩;simp only[bj,eD] at hl;exact⟨hl.1.1,hl.1.2,hl.2⟩
  ·exact bx e
theorem yG:UnR X (nt .USub) (r1 YT af):=by
 rintro Ψ s σ H x v Q I rx ⟨a,d,p,e,k⟩;cases a<;>try exact bx e
 cases e;cases p.inv;exact aJ6 Ψ s σ H _ v Q I rx ⟨_,rfl,k.int⟩
theorem uG(hu:X.A.units+20<b9):OpR X (c_ .Eq) (r2 (b8 .eq) af):=by
 rintro Ψ s σ H x y v u Q I rx ry ⟨a,b,d,p,q,e,k⟩;replace e:(if a.fY aR&&b.fY aR then ε (π (eqD a b)) else .bad)=.ok d:=e;split at e
 ·rename_i hl;cases e;rw[bj] at hl;exact(LC I aR X.A (by have:aR=12:=rfl;lia) hl.1 hl.2 p q rx ry).1 X.prog X.w X.xe _ ⟨.bl _,H,I,rfl,k.bl⟩
 ·exact bx e
theorem aAd(hu:X.A.units+20<b9):OpR X (c_ .NotEq) (r2 (b8 .ne) af):=by
 rintro Ψ s σ H x y v u Q I rx ry ⟨a,b,d,p,q,e,k⟩;replace e:(if a.fY aR&&b.fY aR then ε (π (!eqD a b)) else .bad)=.ok d:=e;split at e
 ·rename_i hl;cases e;rw[bj] at hl;exact(LC I aR X.A (by have:aR=12:=rfl;lia) hl.1 hl.2 p q rx ry).2.1 X.prog X.w X.xe _ ⟨.bl _,H,I,rfl,k.bl⟩
 ·exact bx e
theorem aAe(o:iJ)(hu:X.A.units+20<b9):OpR X (c_ o.op) (r2 (b8 (.ord o)) af):=by
 rintro Ψ s σ H x y v u Q I rx ry ⟨a,b,d,p,q,e,k⟩;replace e:(if a.fY aR&&b.fY aR then (match jF o a b with|some k=>ε (π k)|none=>.bad) else .bad)=.ok d:=e;split at e
 ·rename_i hl;rw[bj] at hl;split at e
  ·rename_i m hm;cases e;have:=RM I o aR X.A (by have:aR=12:=rfl;lia) hl.1 hl.2 p q rx ry hm X.prog X.w X.xe _ (show EP X Ψ σ Q (.bool m) s from ⟨.bl _,H,I,rfl,k.bl⟩);cases o<;>exact this
  ·exact bx e
 ·exact bx e
theorem LR(hu:X.A.units+20<b9):OpR X (c_ .Lt) (r2 (b8 (.ord .lt)) af):=aAe .lt hu
theorem aDl(hu:X.A.units+20<b9):OpR X (c_ .LtE) (r2 (b8 (.ord .le)) af):=aAe .le hu
theorem aDm(hu:X.A.units+20<b9):OpR X (c_ .Gt) (r2 (b8 (.ord .gt)) af):=aAe .gt hu
end
end
variable [KFrag]
theorem aAf(k q:Key):eqD (kD k) (kD q)=ϒ (k=q):=by
 cases k<;>cases q<;>simp[kD,aJk,aJl,aJm,aJn,Bool.beq_eq_decide_eq]
theorem aFb:∀(k q:aa Key),xY (k.map kD) (q.map kD)=ϒ (k=q)
 |[],[]=>by simp[xY]
 |[],_::_=>by simp[xY]
 |_::_,[]=>by simp[xY]
 |a::k,b::q=>by
  rw[bw,bw,xY,aAf,aFb k q];by_cases h:a=b<;>by_cases h':k=q<;>simp[h,h']
theorem aGo(k q:aa Key):eqD (.tup (k.map kD)) (.tup (q.map kD))=ϒ (k=q):=by rw[aJo,aFb]
theorem aAg:∀{kvs:aa (Key×V)}{ds:aa (D×D)},kE P H kvs ds->(∃v d,xO kvs k=ae v/\bR ds (kD k)=ae d/\Rep P H v d)\/(xO kvs k=aj/\bR ds (kD k)=aj)
 |_,_,.nil=>.inr ⟨rfl,rfl⟩
 |_,_,.cons (k:=k') r t=>by
  by_cases h:k'=k
  ·subst h;exact .inl ⟨_,_,sX rfl,by rw[bR,aAf,av (by simp)],r⟩
  ·rw[bR,aAf,az (by simpa using h),sY h];exact aAg t
theorem aGp:∀{kvs:aa (aa Key×V)}{ds:aa (D×D)},sO P H kvs ds->(∃v d,xO kvs k=ae v/\bR ds (.tup (k.map kD))=ae d/\Rep P H v d)\/(xO kvs k=aj/\bR ds (.tup (k.map kD))=aj)
 |_,_,.nil=>.inr ⟨rfl,rfl⟩
 |_,_,.cons (k:=k') r t=>by
  by_cases h:k'=k
  ·subst h;exact .inl ⟨_,_,sX rfl,by rw[bR,aGo,av (by simp)],r⟩
  ·rw[bR,aGo,az (by simpa using h),sY h];exact aGp t
theorem wV(h:u_ d=af)(r:Rep All H v d):∃k,v=kV k/\d=kD k:=by
 cases r<;>simp[u_] at h
 ·exact⟨.inl _,rfl,rfl⟩
 ·exact⟨.inr _,rfl,rfl⟩
theorem flat_keys:∀{vs:aa V}{ds:aa D},ds.all u_=af->bW All H vs ds->∃ks:aa Key,vs=ks.map kV/\ds=ks.map kD
 |_,_,_,.nil=>⟨[],rfl,rfl⟩
 |_,_,h,.cons r t=>by
  rw[hI,bj] at h;obtain⟨k,rfl,rfl⟩:=wV h.1 r;obtain⟨ks,rfl,rfl⟩:=flat_keys h.2 t;exact⟨k::ks,rfl,rfl⟩
theorem kY(h:keyOk k=af)(r:Rep All H y k):(∃q,y=kV q/\k=kD q)\/∃(b:al)(ks:aa Key),y=.ref b/\H b=ae (.tup (ks.map kV))/\k=.tup (ks.map kD):=by
 cases k<;>simp[keyOk] at h
 ·exact .inl (wV rfl r)
 ·exact .inl (wV rfl r)
 ·obtain⟨a,xs,rfl,e,rr⟩:=r.iD;obtain⟨ks,rfl,rfl⟩:=flat_keys (dQ.mpr h) rr;exact .inr ⟨a,ks,rfl,e,rfl⟩
theorem lY(k:Key):isTup (kD k)=ag:=by cases k<;>rfl
section
variable {a:al}
theorem HJ(e:H a=ae o):upd (upd H a o') a o=H:=by
 rw[QG]
 funext b
 by_cases h:b=a
 ·subst h;rw[aN,e]
 ·rw[bD h]
theorem oM(I:Inv X Ψ σ H s)(e:H a=ae (.dK [])):Inv X Ψ σ (upd H a (.dT [])) s:=by
 obtain⟨z,hd,vs,rel,o,es,ep,h1,h2,h3,h4,h5,h6⟩:=QT I.hok e;cases rel;refine I.write (by rw[e];trivial) (.inl rfl) (λ_ _ _ q=>q) ⟨o,h1⟩ ?_;refine⟨eS _,hd,[],.nil,o,es,ep,h1,h2,h3,?_,hZ⟩;cases h5':es.toList with
 |nil=>rfl
 |cons _ _=>rw[h5'] at h5;cases h5
theorem k_(I:Inv X Ψ σ H s)(e:H a=ae (.dT [])):Inv X Ψ σ (upd H a (.dK [])) s:=by
 obtain⟨z,hd,vs,rel,o,es,ep,h1,h2,h3,h4,h5,h6⟩:=aGc I.hok e;cases rel;refine I.write (by rw[e];trivial) (.inl rfl) (λ_ _ _ q=>q) ⟨o,h1⟩ ?_;have h0:es.toList=[]:=h4;refine⟨eS _,hd,[],.nil,o,es,ep,h1,h2,h3,?_,?_,hZ⟩
 ·intro x hx;have:x∈es.toList:=by simpa using hx
  rw[h0] at this;cases this
 ·rw[h0];exact .nil
theorem U7:∀{kvs:aa (Key×V)}{ds:aa (D×D)},kE P H kvs ds->∀p∈ds,isTup p.1=ag
 |_,_,.nil,_,h=>by cases h
 |_,_,.cons r t,p,h=>by
  rcases bX.mp h with rfl|h
  ·exact lY _
  ·exact U7 t p h
theorem L_:∀{kvs:aa (aa Key×V)}{ds:aa (D×D)},sO P H kvs ds->∀p∈ds,isTup p.1=af
 |_,_,.nil,_,h=>by cases h
 |_,_,.cons r t,p,h=>by
  rcases bX.mp h with rfl|h
  ·rfl
  ·exact L_ t p h
theorem aGq(I:Inv X Ψ σ H s)(rd:Rep All H x (.dct ds))(rk:Rep All H y k)(hk:zT ds k=af) :
  ∃H1 a o,x=.ref a/\Inv X Ψ σ H1 s/\(∀s',Inv X Ψ σ H1 s'->Inv X Ψ σ H s')/\ZS H1 a y o/\((o=aj/\bR ds k=aj)\/∃v d,o=ae v/\bR ds k=ae d/\Rep All H v d):=by
 unfold zT at hk;rw[bj] at hk;obtain⟨h1,h2⟩:=hk;cases rd with
 |@dK a kvs ds e _ r n=>
  rcases kY h1 rk with ⟨q,rfl,rfl⟩|⟨b,ks,rfl,eb,rfl⟩
  ·refine⟨H,a,_,rfl,I,λ_ h=>h,.k e,?_⟩;rcases aAg r with ⟨v,d,g1,g2,g3⟩|⟨g1,g2⟩
   ·exact .inr ⟨v,d,g1,g2,g3⟩
   ·exact .inl ⟨g1,g2⟩
  ·cases r with
   |nil=>
    have e2:=HJ (o':=.dT []) e;refine⟨upd H a (.dT []),a,aj,rfl,oM I e,λs' I'=>?_,.t (k:=ks) aN (by rw[bD (aFx eb e (by intro z;cases z))];exact eb),.inl ⟨rfl,rfl⟩⟩;have:=k_ I' aN;rwa [e2] at this
   |cons r t=>
    rw[hI,lY] at h2;simp[isTup] at h2
 |@dT a kvs ds e _ r n=>
  rcases kY h1 rk with ⟨q,rfl,rfl⟩|⟨b,ks,rfl,eb,rfl⟩
  ·cases r with
   |nil=>
    have e2:=HJ (o':=.dK []) e;refine⟨upd H a (.dK []),a,aj,rfl,k_ I e,λs' I'=>?_,.k (k:=q) aN,.inl ⟨rfl,rfl⟩⟩;have:=oM I' aN;rwa [e2] at this
   |cons r t=>
    rw[hI,lY] at h2;simp[isTup] at h2
  ·refine⟨H,a,_,rfl,I,λ_ h=>h,.t e eb,?_⟩;rcases aGp (k:=ks) r with ⟨v,d,g1,g2,g3⟩|⟨g1,g2⟩
   ·exact .inr ⟨v,d,g1,g2,g3⟩
   ·exact .inl ⟨g1,g2⟩
theorem aDn(rd:Rep All H x (.dct ds))(hk:keyOk k=af)(h:bR ds k=ae d):zT ds k=af:=by
 have one:∀{ds:aa (D×D)},bR ds k=ae d->∃p∈ds,eqD p.1 k=af:=by
  intro ds;induction ds with
  |nil=>intro h;cases h
  |cons p ds ih=>
   intro h;obtain⟨p1,p2⟩:=p;rw[bR] at h;by_cases hq:eqD p1 k=af
   ·exact⟨_,cu ..,hq⟩
   ·rw[az hq] at h;obtain⟨p,hp,e⟩:=ih h;exact⟨p,b6 _ hp,e⟩
 obtain⟨p,hp,he⟩:=one h;unfold zT;rw[hk,lc,dQ];intro q hq;have same:isTup p.1=isTup k:=by
  obtain⟨p1,p2⟩:=p;cases k with
  |int _=>cases p1<;>first|rfl|exact fx0 he
  |str _=>cases p1<;>first|rfl|exact fx0 he
  |tup _=>cases p1<;>first|rfl|exact fx0 he
  |_=>exact fx0 hk
 cases rd with
 |dK e _ r n=>rw[U7 r q hq,<-same,U7 r p hp];rfl
 |dT e _ r n=>rw[L_ r q hq,<-same,L_ r p hp];rfl
end
section
variable {X:Cx} {a b c e:Expr} {pos:cb} {fa fb fe:FE} {ra rb re:aq}
def QB(H:Hp)(u:ak):D:=by
 classical
 exact if h:∃d,d.fY aR=af/\∃v,RelV v u/\Rep All H v d then zD h else .non
theorem aAh(hq:d.fY aR=af)(rv:RelV v u)(r:Rep All H v d):QB H u=d:=by
 unfold QB;have h:∃d,d.fY aR=af/\∃v,RelV v u/\Rep All H v d:=⟨d,hq,v,rv,r⟩
 rw[ov h];obtain⟨h2,v',rv',r'⟩:=zI h;have:=rv'.inj rv;subst this;exact Rep.inj aR h2 hq r' r
theorem yH{a:D}:∀{xs:aa V}{ds:aa D}{its:aa ak},ν aR ds=af->bW All H xs ds->Vals xs its->(its.any λu=>eqD (QB H u) a)=ds.any λy=>eqD y a
 |_,_,_,_,.nil,.nil=>rfl
 |_,_,_,h,.cons r t,.cons v vt=>by
  rw[ν,bj] at h;rw[ki,ki,aAh h.1 v r,yH h.2 t vt]
theorem HN{s:ao}(I:Inv X Ψ σ H s)(hu:X.A.units+20<b9){a:D}{x:V}{v:ak}(ha:a.fY aR=af)(rx:Rep All H x a)(rv:RelV x v)
 {xs:aa V}{ds:aa D}{its:aa ak}(h:ν aR ds=af)(r:bW All H xs ds)(vr:Vals xs its)(u:ak)(hm:u∈its):EqAt X.A.in1 s u v (eqD (QB H u) a):=by
 obtain⟨j,hj,e⟩:=mB hm;have hj':j<ds.length:=by rw[<-r.length,vr.length];exact hj
 obtain⟨w,h1,h2⟩:=r.get (i:=j) (d:=ds[j]) (by simp[hj']);obtain⟨u',h3,h4⟩:=vr.get h1;rw[dP hj,e] at h3;cases h3;have hd:ds[j].fY aR=af:=by
  have:=iV h hj';rwa [dh,dP hj'] at this
 rw[aAh hd h4 h2];exact(LC I aR X.A.in1 (by show X.A.units+1+12<b9;lia) hd ha h2 rx h4 rv).2.2
theorem aGr(hu:X.A.units+20<b9):OpR X (c_ .In) (r2 (b8 .isin) af):=by
 rintro Ψ s σ H x y v u Q I rx ry ⟨a,b,d,p,q,e,k⟩;cases b with
 |tup ys=>
  replace e:(if a.fY aR&&ν aR ys then ε (π (ys.any λy=>eqD y a)) else .bad)=.ok d:=e;split at e
  ·rename_i hl;cases e;rw[bj] at hl;obtain⟨l,xs,rfl,ee,rr⟩:=q.iD;cases ry;obtain⟨its,vr,pl⟩:=iU I ee;refine in_tupleAt (λu=>eqD (QB H u) a) pl (λw hw=>HN I hu hl.1 p rx hl.2 rr vr w (by simpa using hw)) ⟨.bl _,H,I,rfl,?_⟩;rw[show its.toArray.any (λu=>eqD (QB H u) a)=its.any (λu=>eqD (QB H u) a) by simp,yH hl.2 rr vr];exact k.bl
  ·cases e
 |lst ys=>
  replace e:(if a.fY aR&&ν aR ys then ε (π (ys.any λy=>eqD y a)) else .bad)=.ok d:=e;split at e
  ·rename_i hl;cases e;rw[bj] at hl;obtain⟨l,xs,rfl,ee,rr⟩:=q.kW;cases ry;obtain⟨its,vr,pl⟩:=oW I ee;refine in_listAt (λu=>eqD (QB H u) a) pl (λw hw=>HN I hu hl.1 p rx hl.2 rr vr w (by simpa using hw)) ⟨.bl _,H,I,rfl,?_⟩;rw[show its.toArray.any (λu=>eqD (QB H u) a)=its.any (λu=>eqD (QB H u) a) by simp,yH hl.2 rr vr];exact k.bl
  ·cases e
 |dct kvs=>
  replace e:(if zT kvs a then ε (π ((bR kvs a).isSome)) else .bad)=.ok d:=e;split at e
  ·rename_i hl;cases e;obtain⟨H1,a1,o,rfl,I1,bk,g,hc⟩:=aGq I q p hl;cases ry;refine aO5 (by lia) I1 g rx λs' I'=>⟨.bl _,H,bk s' I',rfl,?_⟩
   rcases hc with ⟨rfl,h2⟩|⟨w,dd,rfl,h2,_⟩
   ·rw[h2] at k;exact k.bl
   ·rw[h2] at k;exact k.bl
  ·cases e
 |_=>exact bx e
theorem U8(hu:X.A.units+20<b9):OpR X (c_ .NotIn) (r2 (b8 .notin) af):=by
 rintro Ψ s σ H x y v u Q I rx ry ⟨a,b,d,p,q,e,k⟩;cases b with
 |tup ys=>
  replace e:(if a.fY aR&&ν aR ys then ε (π (!(ys.any λy=>eqD y a))) else .bad)=.ok d:=e;split at e
  ·rename_i hl;cases e;rw[bj] at hl;obtain⟨l,xs,rfl,ee,rr⟩:=q.iD;cases ry;obtain⟨its,vr,pl⟩:=iU I ee;refine notIn_tupleAt (λu=>eqD (QB H u) a) pl (λw hw=>HN I hu hl.1 p rx hl.2 rr vr w (by simpa using hw)) ⟨.bl _,H,I,rfl,?_⟩;rw[show its.toArray.any (λu=>eqD (QB H u) a)=its.any (λu=>eqD (QB H u) a) by simp,yH hl.2 rr vr];exact k.bl
  ·cases e
 |lst ys=>
  replace e:(if a.fY aR&&ν aR ys then ε (π (!(ys.any λy=>eqD y a))) else .bad)=.ok d:=e;split at e
  ·rename_i hl;cases e;rw[bj] at hl;obtain⟨l,xs,rfl,ee,rr⟩:=q.kW;cases ry;obtain⟨its,vr,pl⟩:=oW I ee;refine notIn_listAt (λu=>eqD (QB H u) a) pl (λw hw=>HN I hu hl.1 p rx hl.2 rr vr w (by simpa using hw)) ⟨.bl _,H,I,rfl,?_⟩;rw[show its.toArray.any (λu=>eqD (QB H u) a)=its.any (λu=>eqD (QB H u) a) by simp,yH hl.2 rr vr];exact k.bl
  ·cases e
 |dct kvs=>
  replace e:(if zT kvs a then ε (π (!((bR kvs a).isSome))) else .bad)=.ok d:=e;split at e
  ·rename_i hl;cases e;obtain⟨H1,a1,o,rfl,I1,bk,g,hc⟩:=aGq I q p hl;cases ry;refine ZW (by lia) I1 g rx λs' I'=>⟨.bl _,H,bk s' I',rfl,?_⟩
   rcases hc with ⟨rfl,h2⟩|⟨w,dd,rfl,h2,_⟩
   ·rw[h2] at k;exact k.bl
   ·rw[h2] at k;exact k.bl
  ·cases e
 |_=>exact bx e
theorem aJy(xs:aa α)(i:ai):L2.atI xs i=(ixD xs.length i).bind λj=>xs[j]?:=rfl
theorem bW.atI(r:bW P H xs ds)(h:((ixD ds.length i).bind λj=>ds[j]?)=ae d):∃v,L2.atI xs i=ae v/\Rep P H v d:=by
 rw[aJy,r.length];cases hi:ixD ds.length i with
 |none=>rw[hi] at h;cases h
 |some j=>
  rw[hi] at h;obtain⟨v,h1,h2⟩:=r.get h;exact⟨v,h1,h2⟩
theorem MF{a:al}{y v':V}{u:ak}{Q:VK}(hu:X.A.units+20<b9)(I:Inv X Ψ σ H s)(g:ZS H a y (ae v'))(ry:RelV y u){H':Hp}
 (hs:nN slice ag (.ref a) u=va [.ref a,u] (ka (.ref a) u))(bk:∀s',Inv X Ψ σ H s'->Inv X Ψ σ H' s')(q:Q v' H') :
  ϑ (ax X.prog X.w) X.A (nK value slice (.ref a) u) (EP X Ψ σ Q) X.xe s:=by
 have hT:=QW I g;unfold nK;refine aw ?_;rw[getitemInPython_of_ne hT.not_modules];refine aw (wpAny_specialOf hT PySem.F.slot_dict_getitem.lookup ?_);have fin:ϑ (ax X.prog X.w) X.A (nN slice ag (.ref a) u) (λr s₃=>ϑ (ax X.prog X.w) X.A (letTemporaryGo value (.ref a) r >>= λ_=>pure r) (EP X Ψ σ Q) X.xe s₃) X.xe s:=by
  rw[hs];exact wpAny_operating (ZV (by lia) I g ry λw' s3 I3 rw'=>aw (wpAny_letTemporaryGo (bh ⟨v',H',bk s3 I3,rw',q⟩)))
 first
  |exact bh (aw fin)
  |exact aw (bh (aw fin))
  |exact aw fin
theorem HQ:∀{ds:aa (D×D)},keyOk k=af->bR ds k=ae d->∃p∈ds,isTup p.1=isTup k
 |[],_,h=>by cases h
 | (p1,p2)::ds,hk,h=>by
  rw[bR] at h;by_cases hq:eqD p1 k=af
  ·refine⟨_,cu ..,?_⟩;cases k with
   |int _=>cases p1<;>first|rfl|exact fx0 hq
   |str _=>cases p1<;>first|rfl|exact fx0 hq
   |tup _=>cases p1<;>first|rfl|exact fx0 hq
   |_=>exact fx0 hk
  ·rw[az hq] at h;obtain⟨p,hp,e⟩:=HQ hk h;exact⟨p,b6 _ hp,e⟩
theorem aMe(rd:Rep All H x (.fdc ds))(rk:Rep All H y k)(hk:keyOk k=af)(h:bR ds k=ae d):∃a v,x=.ref a/\ZS H a y (ae v)/\Rep All H v d:=by
 obtain⟨p,hp,et⟩:=HQ hk h;cases rd with
 |@fdK a o kvs ds e r n=>
  rcases kY hk rk with ⟨q,rfl,rfl⟩|⟨b,ks,rfl,eb,rfl⟩
  ·rcases aAg r with ⟨v,d',g1,g2,g3⟩|⟨g1,g2⟩
   ·rw[g2] at h;cases h;exact⟨a,v,rfl,.inl ⟨kvs,q,.inr ⟨o,e⟩,rfl,g1.symm⟩,g3⟩
   ·rw[g2] at h;cases h
  ·rw[U7 r p hp] at et;cases et
 |@fdT a o kvs ds e r n=>
  rcases kY hk rk with ⟨q,rfl,rfl⟩|⟨b,ks,rfl,eb,rfl⟩
  ·rw[L_ r p hp,lY] at et;cases et
  ·rcases aGp r with ⟨v,d',g1,g2,g3⟩|⟨g1,g2⟩
   ·rw[g2] at h;cases h;exact⟨a,v,rfl,.inr ⟨kvs,ks,b,.inr ⟨o,e⟩,rfl,eb,g1.symm⟩,g3⟩
   ·rw[g2] at h;cases h
theorem aMf(hK:KFrag.K=X.K)(hu:X.A.units+20<b9):IxR X (r2 getD ag):=by
 rintro value slice Ψ s σ H x y v u Q I rx ry ⟨a,b,d,p,q,e,k⟩ hs;cases a with
 |tup ys=>
  cases b<;>try exact bx e
  have e':=Res.lN e;obtain⟨l,xs,rfl,ee,rr⟩:=p.iD;cases q;obtain⟨w,h1,h2⟩:=rr.atI e';exact aJe value slice Ψ s σ H _ _ v u Q I rx ry ⟨l,xs,_,w,rfl,rfl,.of ee,h1,k.self h2 λz=>by cases z⟩ hs
 |lst ys=>
  cases b<;>try exact bx e
  have e':=Res.lN e;obtain⟨l,xs,rfl,ee,rr⟩:=p.kW;cases q;obtain⟨w,h1,h2⟩:=rr.atI e';exact QS value slice Ψ s σ H _ _ v u Q I rx ry ⟨l,xs,_,w,rfl,rfl,ee,h1,k.self h2 λz=>by cases z⟩ hs
 |cel ca ys=>
  cases b<;>try exact bx e
  have e':=Res.lN e;obtain⟨_,rfl,ee,pp,rr⟩:=p.inv;cases q;obtain⟨w,h1,h2⟩:=rr.atI e';exact QS value slice Ψ s σ H _ _ v u Q I rx ry ⟨_,_,_,w,rfl,rfl,.inl (.inl ee),h1,k.self h2 λz=>by cases z⟩ hs
 |scr ys=>
  cases b<;>try exact bx e
  have e':=Res.lN e;obtain⟨_,_,rfl,ee,rr⟩:=p.inv;cases q;obtain⟨w,h1,h2⟩:=rr.atI e';exact QS value slice Ψ s σ H _ _ v u Q I rx ry ⟨_,_,_,w,rfl,rfl,ee.sq hK,h1,k.self h2 λz=>by cases z⟩ hs
 |str z=>
  cases b<;>try exact bx e
  rename_i i;replace e:(if ϒ (z.length<=lim) then μ (((ixD z.cps.toList.length i).bind λj=>z.cps.toList[j]?).map λc=>ι ⟨#[c]⟩) else .bad)=.ok d:=e;split at e
  ·rename_i hl;have e':=Res.lN e;obtain⟨cc,h1,h2⟩:=nV.mp e';subst h2;cases p;cases q;exact aJf value slice Ψ s σ H _ _ v u Q I rx ry ⟨z,_,cc,rfl,rfl,uE hl,h1,k.str⟩ hs
  ·cases e
 |dct kvs=>
  have e':keyOk b=af/\bR kvs b=ae d:=by
   replace e:(if keyOk b then μ (bR kvs b) else .bad)=.ok d:=by cases b<;>exact e
   split at e
   ·rename_i hl;exact⟨hl,Res.lN e⟩
   ·exact bx e
  obtain⟨H1,a1,o,rfl,I1,bk,g,hc⟩:=aGq I p q (aDn p e'.1 e'.2);cases rx;rcases hc with ⟨rfl,h2⟩|⟨w,dd,rfl,h2,h3⟩
  ·rw[h2] at e';cases e'.2
  ·rw[h2] at e';cases e'.2;exact MF hu I1 g ry hs bk (k.self h3 λz=>by cases z)
 |fdc kvs=>
  have e':keyOk b=af/\bR kvs b=ae d:=by
   replace e:(if keyOk b then μ (bR kvs b) else .bad)=.ok d:=by cases b<;>exact e
   split at e
   ·rename_i hl;exact⟨hl,Res.lN e⟩
   ·exact bx e
  obtain⟨a1,w,rfl,g,h3⟩:=aMe p q e'.1 e'.2;cases rx;exact MF hu I g ry hs (λ_ h=>h) (k.self h3 λz=>by cases z)
 |_=>cases b<;>exact bx e
theorem cC{X:Cx}{a b:Expr}{pos:cb}{fa fb:FE}{ra rb:aq}(ha:PE X a (gE fa ra))(hb:PE X b (gE fb rb))(hK:KFrag.K=X.K:=by assumption)(hu:X.A.units+20<b9:=by assumption)(hs:QR b:=by exact λ_ _=>rfl):PE X (.Subscript a b pos) (gE (b2 getD fa fb) ag):=aMd (aMf hK hu) ha hb hs
noncomputable def gO(f:aa D->Res (ay ai)):TO:=λσ H Q=>∃ρ i,ER H σ ρ/\f ρ=.ok i/\∀H',cX H H'->Q i H'
theorem PO.imp{X:Cx}{e:ay PySem.Expr}{t t':TO}(h:PO X e t)(i:∀σ H Q,t' σ H Q->t σ H Q):PO X e t':=λΨ s σ H Q I q=>h Ψ s σ H Q I (i σ H Q q)
theorem jB:PO X aj (gO o_):=PO.imp aG7 λσ H Q z0=>by obtain⟨ρ,i,E,h,q⟩:=z0;cases h;exact q H (cX.refl H)
theorem fJ(ha:PE X a (gE fa ra)):PO X (ae a) (gO (jJ fa)):=PO.imp (aG8 ha) λσ H Q z0=>by
 obtain⟨ρ,i,E,h,q⟩:=z0;obtain⟨x,h1,h⟩:=bL h;obtain⟨j,h2,h⟩:=bL h;cases h;have e:=aJu h2;subst e;exact⟨ρ,_,E,h1,λv H' s r _=>by cases r;exact⟨j,rfl,q H' s⟩⟩
theorem aFc(n d:ah)(o:ay ai):HT.sIx n d o=zU n d o:=by
 cases o with
 |none=>rfl
 |some v=>
  show(if v<0 then (v+(n:ai)).toNat else min v.toNat n)=(if v<0 then (max (v+(n:ai)) 0).toNat else (min v (n:ai)).toNat);split<;>lia
theorem bW.cut(r:bW P H xs ds)(lo hi:ay ai):bW P H (ZM xs lo hi) (cutD ds lo hi):=by
 unfold ZM cutD;rw[r.length];simp only[aFc];exact(r.drop _).take _
theorem jK:θ ds=af↔∀d∈ds,d.pure=af:=by
 induction ds with
 |nil=>simp[θ]
 |cons d ds ih=>rw[θ,bj,ih];simp
def rSl:V->ay ai->ay ai->Hp->VK->Prop:=λx lo hi H Q=>∃a d,Rep All H x a/\J9 a lo hi=.ok d/\kR H d af Q
theorem aJz(hK:KFrag.K=X.K):SlR X rSl:=by
 rintro Ψ s σ H x v vl vu lo hi sl Q I rx hs pl pu ⟨a,d,p,e,k⟩;cases a<;>simp only[J9] at e<;>(try (cases e;done))
 ·split at e
  ·cases e
  ·rename_i hw;cases e;obtain⟨l,xs,rfl,ee,rr⟩:=p.iD;refine aJd Ψ s σ H _ v vl vu lo hi sl Q I rx hs pl pu ⟨l,xs,rfl,.of ee,?_,λp hp=>?_⟩
   ·simp only[aFc,rr.length];simp only[ko,iv,kX,Bool.not_eq_false',eD] at hw;exact hw.2
   ·have sp:cX H (upd H p (.tup (ZM xs lo hi))):=cX.upd hp;have hp2:θ ‹aa D›=af:=by
     simp only[iv,kX,ko] at hw;simpa using hw.1
    exact k _ _ sp (.tup aN ((rr.cut lo hi).same sp)) λz=>.tup aN (((rr.bV hp2).cut lo hi).same sp)
 ·split at e
  ·rename_i hl;cases e;obtain⟨l,xs,rfl,ee,rr⟩:=p.kW;refine ZP Ψ s σ H _ v vl vu lo hi sl Q I rx hs pl pu ⟨l,xs,rfl,ee,λp hp=>?_⟩;have sp:cX H (upd H p (.lst (ZM xs lo hi))):=cX.upd hp;exact k _ _ sp (.lst aN trivial ((rr.cut lo hi).same sp)) λz=>.lst aN hp (((rr.bV hl).cut lo hi).same sp)
  ·cases e
 ·split at e
  ·rename_i hl;cases e;cases p with
   |@frz l xs ds ee rr=>
    refine ZP Ψ s σ H _ v vl vu lo hi sl Q I rx hs pl pu ⟨l,xs,rfl,ee.sq hK,λp hp=>?_⟩;have sp:cX H (upd H p (.lst (ZM xs lo hi))):=cX.upd hp;exact k _ _ sp (.lst aN trivial ((rr.cut lo hi).same sp)) λz=>.lst aN hp (((rr.bV hl).cut lo hi).same sp)
  ·cases e
theorem MJ{lo hi:ay Expr}(hK:KFrag.K=X.K)(he:PE X e (gE fe re))(hl:PO X lo (gO fl))(hh:PO X hi (gO fh)):PE X (.Subscript e (.Slice lo hi aj p2) pos) (gE (YW fe fl fh) af):=
 PE.imp (T5 (aJz hK) he hl hh) λσ H Q z0=>by
  obtain⟨ρ,d,E,h,q⟩:=z0;obtain⟨x,h1,h⟩:=bL h;obtain⟨l,h2,h⟩:=bL h;obtain⟨u,h3,h⟩:=bL h;exact⟨ρ,x,E,h1,λv H1 s1 r1 _=>⟨ρ,l,E.same s1,h2,λH2 s2=>⟨ρ,u,E.same (s1.trans s2),h3,λH3 s3=>⟨x,d,r1.same (s2.trans s3),h,q.imp ((s1.trans s2).trans s3) id⟩⟩⟩⟩
end
end Mi
namespace PySem.Mm
open PySem
noncomputable def wdL:aq->dr
 |false=>"min.loop"
 |true=>"max.loop"
noncomputable def wdO:aq->fR
 |false=>.Lt
 |true=>.Gt
section
variable {prog:bu} {w:bo} {A:bP} {R:l8->ao->Prop} {I S:al} {fp wr:aa al} {n:ah} {P:ah->ak->Prop} {St:ah->aS->Prop} {bt:ah->ah->aq} {Gd:ao->Prop} {op:fR}
structure aK0(prog:bu)(w:bo)(A:bP)(op:fR)(P:ah->ak->Prop)(bt:ah->ah->aq)(wr:aa al)(top:ah)(Gd:ao->Prop):Prop where
 keep:∀s h' tk,Gd s->(∀b o,b∉wr->b<top->s.heap.get? b=ae o->h'.get? b=ae o)->Gd {s with heap:=h',toks:=tk}
 says:∀i j vi vj s Q E,Gd s->P i vi->P j vj->Q (.bool (bt i j)) s->ϑ (ax prog w) A (k8 op vi vj) Q E s
def aNa(P:ah->ak->Prop)(bt:ah->ah->aq)(n:ah):ah->aE ak->Prop
 |0,a=>a=#[]/\0<n
 |j+1,a=>∃v,a=#[v,v]/\P (dn bt j) v
theorem touched(J:aK0 prog w A op P bt wr S Gd){s:ao}{f:aE ak->aE ak}(g:Gd s):Gd {s with heap:=s.heap.update S (e8 f)}:=
 J.keep s _ s.toks g λb o _ hb e=>(kh _ _ (jx hb)).trans e
theorem turn(m:aq)(W:Walks prog w A.in1 I fp wr n P St)(hS:S∉fp)(J:aK0 prog w A.in1 (wdO m) P bt wr S Gd):∀(k j:ah)(s:ao)(a:aE ak)(c:ah),j+k=n->St j s.heap->Gd s->aNa P bt n j a->
  s.heap.get? S=ae {cls:=.type "list",dict:=aj,data:=.seq a c,slots:=#[]}->
  (∀v h' tk,P (dn bt (n-1)) v->(∀b o,b∉wr->b≠S->s.heap.get? b=ae o->h'.get? b=ae o)->R (.ok (.ret v)) {s with heap:=h',toks:=tk})->
  codeAny (ax prog w) A (.builtin (wdL m) ⟨[.ref I,.none,.ref S],[]⟩) R s:=by
 have off:S∉wr:=λh=>hS (W.sub _ h)
 have still:∀{j:ah}{h:aS}{f:aE ak->aE ak},St j h->St j (h.update S (e8 f)):=λst=>
  W.frame _ _ _ st λb hb o e=>(kh _ _ λz:S=b=>hS (z▸hb)).trans e
 intro k;induction k with
 |zero=>
  intro j s a c hj st g hb hs fin;have hjn:j=n:=hj;subst hjn;cases j with
  |zero=>exact bb hb.2 (fg 0)
  |succ j=>
   obtain⟨v,rfl,hv⟩:=hb;have last:∀(h':aS)(tk:ah),(∀b o,b∉wr->s.heap.get? b=ae o->h'.get? b=ae o)->R (.ok (.ret v)) {s with heap:=h'.update S (e8 λ_=>#[]),toks:=tk}:=λh' tk kp=>
    fin v _ tk hv λb o h1 h2 e=>(kh _ _ (Ne.symm h2)).trans (kp b o h1 e)
   cases m
   ·show codeAny (ax prog w) A (.builtin "min.loop" ⟨[.ref I,.none,.ref S],[]⟩) R s;refine iP wd ?_;rw[jm jn];refine aw (m:=lg (.ref S)) (lh hs rfl ?_);refine aw (jo (m:=fI (.ref I)) (W.done s _ _ st λh' tk kp=>?_));exact aw (m:=li S _) (lj (kp S _ off hs) rfl (aw (jq (bh (last h' tk kp)))))
   ·show codeAny (ax prog w) A (.builtin "max.loop" ⟨[.ref I,.none,.ref S],[]⟩) R s;refine iP we ?_;rw[jm jr];refine aw (m:=lg (.ref S)) (lh hs rfl ?_);refine aw (jo (m:=fI (.ref I)) (W.done s _ _ st λh' tk kp=>?_));exact aw (m:=li S _) (lj (kp S _ off hs) rfl (aw (jq (bh (last h' tk kp)))))
 |succ k ih=>
  intro j s a c hj st g hb hs fin;have hjn:j<n:=by lia
  /- what is left to do behind the list's change,or nS one -/
  have on:∀(v:ak)(h':aS)(tk:ah),P j v->St (j+1) h'->(∀b o,b∉wr->s.heap.get? b=ae o->h'.get? b=ae o)->(∀(a':aE ak)(c':ah)(h2:aS),aNa P bt n (j+1) a'->h2.get? S=ae {cls:=.type "list",dict:=aj,data:=.seq a' c',slots:=#[]}->(h2=h'\/∃f:aE ak->aE ak,h2=h'.update S (e8 f))->
    codeAny (ax prog w) A (.builtin (wdL m) ⟨[.ref I,.none,.ref S],[]⟩) R {s with heap:=h2,toks:=tk}):=by
   intro v h' tk _ st' kp a' c' h2 hb' hs' hh;have g':Gd {s with heap:=h',toks:=tk}:=J.keep s h' tk g λb o h1 _ e=>kp b o h1 e
   rcases hh with rfl|⟨f,rfl⟩
   ·exact ih (j+1) _ a' c' (by lia) st' g' hb' hs' λu h3 t3 hu k3=>fin u h3 t3 hu λb o h1 h2 e=>k3 b o h1 h2 (kp b o h1 e)
   ·exact ih (j+1) _ a' c' (by lia) (still st') (touched J g') hb' hs' λu h3 t3 hu k3=>fin u h3 t3 hu λb o h1 h2 e=>k3 b o h1 h2 ((kh _ _ (Ne.symm h2)).trans (kp b o h1 e))
  have nmn:(toString "min" ++ toString ".loop" : dr)="min.loop":=by decide
  have nmx:(toString "max" ++ toString ".loop" : dr)="max.loop":=by decide
  cases j with
  |zero=>
   obtain⟨rfl,_⟩:=hb;cases m
   ·show codeAny (ax prog w) A (.builtin "min.loop" ⟨[.ref I,.none,.ref S],[]⟩) R s;refine iP wd ?_;rw[jm jn];refine aw (m:=lg (.ref S)) (lh hs rfl ?_);refine aw (jo (m:=fI (.ref I)) (W.item 0 s _ _ hjn st λv h' tk pv st' kp=>?_));have hs':=kp S _ off hs;refine aw (m:=li S _) (lj hs' rfl ?_);rw[nmn];exact bh ⟨ig jn _,on v h' tk pv st' kp #[v,v] _ _ ⟨v,rfl,pv⟩ (kq _ hs' rfl) (.inr ⟨_,rfl⟩)⟩
   ·show codeAny (ax prog w) A (.builtin "max.loop" ⟨[.ref I,.none,.ref S],[]⟩) R s;refine iP we ?_;rw[jm jr];refine aw (m:=lg (.ref S)) (lh hs rfl ?_);refine aw (jo (m:=fI (.ref I)) (W.item 0 s _ _ hjn st λv h' tk pv st' kp=>?_));have hs':=kp S _ off hs;refine aw (m:=li S _) (lj hs' rfl ?_);rw[nmx];exact bh ⟨ig jr _,on v h' tk pv st' kp #[v,v] _ _ ⟨v,rfl,pv⟩ (kq _ hs' rfl) (.inr ⟨_,rfl⟩)⟩
  |succ j=>
   obtain⟨u,rfl,hu⟩:=hb;cases m
   ·show codeAny (ax prog w) A (.builtin "min.loop" ⟨[.ref I,.none,.ref S],[]⟩) R s;refine iP wd ?_;rw[jm jn];refine aw (m:=lg (.ref S)) (lh hs rfl ?_);refine aw (jo (m:=fI (.ref I)) (W.item (j+1) s _ _ hjn st λv h' tk pv st' kp=>?_));have hs':=kp S _ off hs;refine aw (bh ?_);refine aw (jo (gV (aw (m:=k8 .Lt v u) (J.says (j+1) (dn bt j) v u _ _ _ (J.keep s h' tk g λb o h1 _ e=>kp b o h1 e) pv hu ?_))));refine aw (gV (ik (aw (jq (bh ?_)))));cases hx:bt (j+1) (dn bt j)
    ·rw[az ve];refine aw (jq ?_);rw[nmn];exact bh ⟨ig jn _,on v h' tk pv st' kp _ _ _ ⟨u,rfl,by rw[dn,hx];exact hu⟩ hs' (.inl rfl)⟩
    ·rw[av rfl];refine aw (m:=li S _) (lj hs' rfl (aw (jq ?_)));rw[nmn];exact bh ⟨ig jn _,on v h' tk pv st' kp #[v,v] _ _ ⟨v,rfl,by rw[dn,hx];exact pv⟩ (kq _ hs' rfl) (.inr ⟨_,rfl⟩)⟩
   ·show codeAny (ax prog w) A (.builtin "max.loop" ⟨[.ref I,.none,.ref S],[]⟩) R s;refine iP we ?_;rw[jm jr];refine aw (m:=lg (.ref S)) (lh hs rfl ?_);refine aw (jo (m:=fI (.ref I)) (W.item (j+1) s _ _ hjn st λv h' tk pv st' kp=>?_));have hs':=kp S _ off hs;refine aw (bh ?_);refine aw (jo (gV (aw (m:=k8 .Gt v u) (J.says (j+1) (dn bt j) v u _ _ _ (J.keep s h' tk g λb o h1 _ e=>kp b o h1 e) pv hu ?_))));refine aw (gV (ik (aw (jq (bh ?_)))));cases hx:bt (j+1) (dn bt j)
    ·rw[az ve];refine aw (jq ?_);rw[nmx];exact bh ⟨ig jr _,on v h' tk pv st' kp _ _ _ ⟨u,rfl,by rw[dn,hx];exact hu⟩ hs' (.inl rfl)⟩
    ·rw[av rfl];refine aw (m:=li S _) (lj hs' rfl (aw (jq ?_)));rw[nmx];exact bh ⟨ig jr _,on v h' tk pv st' kp #[v,v] _ _ ⟨v,rfl,by rw[dn,hx];exact pv⟩ (kq _ hs' rfl) (.inr ⟨_,rfl⟩)⟩
end
section
variable {prog:bu} {w:bo} {A:bP} {E:ak->ao->Prop} {s:ao} {Q:ak->ao->Prop}
abbrev Seen(prog:bu)(w:bo)(A:bP)(op:fR)(Q:ak->ao->Prop)(it:ak)(t:ao):Prop:=
 ∃(I:al)(fp wr:aa al)(n:ah)(P:ah->ak->Prop)(St:ah->aS->Prop)(bt:ah->ah->aq),it=.ref I/\Walks prog w A I fp wr n P St/\St 0 t.heap/\(∀b∈fp,b<t.heap.objs.size)/\0<n/\
  (∃Gd:ao->Prop,Gd t/\(∀s h' tk,Gd s->(∀b o,b∉wr->b<t.heap.objs.size->s.heap.get? b=ae o->h'.get? b=ae o)->Gd {s with heap:=h',toks:=tk})/\
   ∀i j vi vj s Q E,Gd s->P i vi->P j vj->Q (.bool (bt i j)) s->ϑ (ax prog w) A (k8 op vi vj) Q E s)/\
  ∀v h' tk,P (dn bt (n-1)) v->(∀b o,b∉wr->t.heap.get? b=ae o->h'.get? b=ae o)->Q v {t with heap:=h',toks:=tk}
theorem begun(m:aq){it:ak}{t:ao}{R:l8->ao->Prop}(hR:∀v s,Q v s->R (.ok (.ret v)) s)(h:Seen prog w A.in1 (wdO m) Q it t) :
  codeAny (ax prog w) A (.builtin (wdL m) ⟨[it,.none,.ref t.heap.objs.size],[]⟩) R {t with heap:=t.heap.push {cls:=.type "list",data:=.seq #[]}}:=by
 obtain⟨I,fp,wr,n,P,St,bt,rfl,W,st,hfp,hn,⟨Gd,g,gk,gs⟩,q⟩:=h;have up:∀b o,t.heap.get? b=ae o->(t.heap.push {cls:=.type "list",data:=.seq #[]}).get? b=ae o:=λb o e=>cq _ e
 refine turn m W (λz=>fg _ (hfp _ z)) ⟨gk,gs⟩ n 0 _ #[] _ (Nat.zero_add n) (W.frame _ _ _ st λb _ o e=>up b o e) (gk t _ t.toks g λb o _ _ e=>up b o e) ⟨rfl,hn⟩ (dg _ rfl) λv h' tk hv kp=>?_
 exact hR _ _ (q v h' tk hv λb o h1 e=>kp b o h1 (c9 (bS e)) (up b o e))
theorem MK{x:ak}(h:ϑ (ax prog w) A.in1 (fN x) (Seen prog w A.in1 .Lt Q) E s):ϑ (ax prog w) A (call (.builtin "min") [x]) Q E s:=by
 have nmn:(toString "min" ++ toString ".loop" : dr)="min.loop":=by decide
 refine oP Ac Ad Ae (F.args_min1 _) ?_;refine aw (m:=oQ "min" ["key","default"] 0 ⟨[],[]⟩) (lm (a:=[aj,aj]) rfl ?_);refine aw (bh (aw (d5 h (λit t ht=>aw (eW ?_)) λ_ _ e=>e)));rw[nmn];exact bh ⟨ig jn _,begun ag (λ_ _ q=>q) ht⟩
theorem MN{x:ak}(h:ϑ (ax prog w) A.in1 (fN x) (Seen prog w A.in1 .Gt Q) E s):ϑ (ax prog w) A (call (.builtin "max") [x]) Q E s:=by
 have nmx:(toString "max" ++ toString ".loop" : dr)="max.loop":=by decide
 refine oP Af Ag Ah (F.args_max1 _) ?_;refine aw (m:=oQ "max" ["key","default"] 0 ⟨[],[]⟩) (lm (a:=[aj,aj]) rfl ?_);refine aw (bh (aw (d5 h (λit t ht=>aw (eW ?_)) λ_ _ e=>e)));rw[nmx];exact bh ⟨ig jr _,begun af (λ_ _ q=>q) ht⟩
theorem RP{a b:ak}(h:ϑ (ax prog w) A.in1 (fN (.ref s.heap.objs.size)) (Seen prog w A.in1 .Lt Q) E {s with heap:=s.heap.push {cls:=.type "tuple",data:=.seq #[a,b]}}):ϑ (ax prog w) A (call (.builtin "min") [a,b]) Q E s:=by
 have nmn:(toString "min" ++ toString ".loop" : dr)="min.loop":=by decide
 refine oP Ac Ad Ae (F.args_min2 _ _) ?_;refine aw (m:=oQ "min" ["key","default"] 0 ⟨[],[]⟩) (lm (a:=[aj,aj]) rfl ?_);refine aw (m:=wf [a,b]) (eW (aw (d5 h (λit t ht=>aw (eW ?_)) λ_ _ e=>e)));rw[nmn];exact bh ⟨ig jn _,begun ag (λ_ _ q=>q) ht⟩
theorem RQ{a b:ak}(h:ϑ (ax prog w) A.in1 (fN (.ref s.heap.objs.size)) (Seen prog w A.in1 .Gt Q) E {s with heap:=s.heap.push {cls:=.type "tuple",data:=.seq #[a,b]}}):ϑ (ax prog w) A (call (.builtin "max") [a,b]) Q E s:=by
 have nmx:(toString "max" ++ toString ".loop" : dr)="max.loop":=by decide
 refine oP Af Ag Ah (F.args_max2 _ _) ?_;refine aw (m:=oQ "max" ["key","default"] 0 ⟨[],[]⟩) (lm (a:=[aj,aj]) rfl ?_);refine aw (m:=wf [a,b]) (eW (aw (d5 h (λit t ht=>aw (eW ?_)) λ_ _ e=>e)));rw[nmx];exact bh ⟨ig jr _,begun af (λ_ _ q=>q) ht⟩
end
end PySem.Mm
namespace Mi
open PySem L2 PySem.SeqAt PySem.Spec PyProof.Rows
variable [KFrag]
theorem MP(o:iJ)(x:D)(xs:aa D):∀k,k<=xs.length->(xs.take k).foldl (λm y=>if (jF o y m).getD ag then y else m) x=(x::xs).getD (dn (btD o (x::xs)) k) .non
 |0,_=>by simp[dn]
 |k+1,h=>by
  have ih:=MP o x xs k (by lia);have hk:k<xs.length:=by lia
  rw[List.take_succ_eq_append_getElem hk,List.foldl_append,ih];have e:(x::xs).getD (k+1) .non=xs[k]:=by simp[hk]
  have hb:btD o (x::xs) (k+1) (dn (btD o (x::xs)) k)=(jF o xs[k] ((x::xs).getD (dn (btD o (x::xs)) k) .non)).getD ag:=by unfold btD;rw[e]
  show(if (jF o xs[k] ((x::xs).getD (dn (btD o (x::xs)) k) .non)).getD ag then xs[k] else (x::xs).getD (dn (btD o (x::xs)) k) .non)=(x::xs).getD (if btD o (x::xs) (k+1) (dn (btD o (x::xs)) k) then k+1 else dn (btD o (x::xs)) k) .non;rw[<-hb];cases btD o (x::xs) (k+1) (dn (btD o (x::xs)) k) with
  |true=>rw[av rfl,av rfl,e]
  |false=>rw[az (by simp),az (by simp)]
section
variable {X:Cx} {Ψ:aa (al×bf)} {σ:L2.St} {H:Hp} {s:ao}
def Gds(s:ao)(s':ao):Prop:=∃h' tk,s'={s with heap:=h',toks:=tk}/\∀b o,s.heap.get? b=ae o->h'.get? b=ae o
theorem HR(I:Inv X Ψ σ H s)(hu:X.A.units+20<b9){o:iJ}{xs:aa V}{ds:aa D}{its:aa ak}{d:D}(r:bW All H xs ds)(vr:Vals xs its)(h:p_ o ds=.ok d)(i j:ah)(vi vj:ak)(s':ao)(Q:ak->ao->Prop)(E:ak->ao->Prop)
 (g:Gds s s')(hi:its.toArray[i]?=ae vi)(hj:its.toArray[j]?=ae vj)(q:Q (.bool (btD o ds i j)) s'):ϑ (ax X.prog X.w) X.A.in1 (k8 o.op vi vj) Q E s':=by
 obtain⟨h',tk,rfl,hk⟩:=g;have I':Inv X Ψ σ H {s with heap:=h',toks:=tk}:=I.kept hk;have hi':its[i]?=ae vi:=by simpa using hi
 have hj':its[j]?=ae vj:=by simpa using hj
 have at_:∀{i:ah}{v:ak},its[i]?=ae v->∃d w,ds.getD i .non=d/\d∈ds/\RelV w v/\Rep All H w d:=by
  intro i v hv;have hlt:i<its.length:=(d4.mp hv).1;have hlt':i<ds.length:=by rw[<-r.length,vr.length];exact hlt
  obtain⟨w,h1,h2⟩:=r.get (i:=i) (d:=ds[i]) (by simp[hlt']);obtain⟨u,h3,h4⟩:=vr.get h1;rw[hv] at h3;cases h3;exact⟨ds[i],w,by simp[hlt'],jc _,h4,h2⟩
 obtain⟨d1,w1,e1,m1,v1,r1⟩:=at_ hi';obtain⟨d2,w2,e2,m2,v2,r2⟩:=at_ hj';cases ds with
 |nil=>cases m1
 |cons x xs'=>
  simp only[p_] at h;split at h
  ·rename_i hall;have h1:=dQ.mp hall d1 m1;have h2:=dQ.mp hall d2 m2;rw[bj] at h1 h2;obtain⟨k,hk⟩:=kK.mp (dQ.mp h1.2 d2 m2);have:btD o (x::xs') i j=k:=by unfold btD;rw[e1,e2,hk];rfl
   rw[this] at q;exact RM I' o aR X.A.in1 (by show X.A.units+1+12<b9;lia) h1.1 h2.1 r1 r2 v1 v2 hk X.prog X.w E Q q
  ·exact bx h
theorem RT{o:iJ}{xs:aa V}{ds:aa D}{its:aa ak}{d:D}(r:bW All H xs ds)(vr:Vals xs its)(h:p_ o ds=.ok d){v:ak}(hv:its.toArray[dn (btD o ds) (its.length-1)]?=ae v):∃w,RelV w v/\Rep All H w d:=by
 have hv':its[dn (btD o ds) (its.length-1)]?=ae v:=by simpa using hv
 cases ds with
 |nil=>exact bx h
 |cons x xs'=>
  simp only[p_] at h;split at h
  ·cases h;have hl:its.length-1=xs'.length:=by rw[<-vr.length,r.length];simp
   rw[hl] at hv';have fb:=MP o x xs' xs'.length (bi _);rw[Ai] at fb;have hlt:dn (btD o (x::xs')) xs'.length<its.length:=(d4.mp hv').1;have hlt':dn (btD o (x::xs')) xs'.length<(x::xs').length:=by rw[<-r.length,vr.length];exact hlt
   obtain⟨w,h1,h2⟩:=r.get (i:=dn (btD o (x::xs')) xs'.length) (d:=(x::xs')[dn (btD o (x::xs')) xs'.length]) (by simp[hlt']);obtain⟨u,h3,h4⟩:=vr.get h1;rw[hv'] at h3;cases h3;refine⟨w,h4,?_⟩;rw[fb,dh,dP hlt'];exact h2
  ·exact bx h
theorem Gds.grow{s':ao}{h1:aS}{tk1:ah}(g:Gds s s'){wq:aa al}{n:ah}(hw:∀b∈wq,s.heap.objs.size<=b)(hn:s.heap.objs.size<=n)
 (kk:∀b o,b∉wq->b<n->s'.heap.get? b=ae o->h1.get? b=ae o):Gds s {s' with heap:=h1,toks:=tk1}:=by
 obtain⟨h',tk,rfl,hk⟩:=g;refine⟨h1,tk1,rfl,λb o e=>kk b o (λhb=>?_) (dz (bS e) hn) (hk b o e)⟩;exact bb (dz (bS e) (hw b hb)) (fg _)
end
section
variable {X:Cx}
theorem U9{o:iJ}{ds:aa D}{d:D}(h:p_ o ds=.ok d):0<ds.length:=by
 cases ds with
 |nil=>exact bx h
 |cons _ _=>simp
structure Mms(o:iJ)(nm:dr):Prop where
 walk:∀{prog:bu}{w:bo}{A:bP}{Q:ak->ao->Prop}{E:ak->ao->Prop}{s:ao}{x:ak},ϑ (ax prog w) A.in1 (fN x) (Mm.Seen prog w A.in1 o.op Q) E s->ϑ (ax prog w) A (call (.builtin nm) [x]) Q E s
 two:∀{prog:bu}{w:bo}{A:bP}{Q:ak->ao->Prop}{E:ak->ao->Prop}{s:ao}{a b:ak},ϑ (ax prog w) A.in1 (fN (.ref s.heap.objs.size)) (Mm.Seen prog w A.in1 o.op Q) E {s with heap:=s.heap.push {cls:=.type "tuple",data:=.seq #[a,b]}}->ϑ (ax prog w) A (call (.builtin nm) [a,b]) Q E s
theorem aAi{o:iJ}{nm:dr}(M:Mms o nm)(hu:X.A.units+20<b9)(hc:X.calm=af){Ψ:aa (al×bf)}{σ:L2.St}{H:Hp}{s:ao}{l:al}{xs:aa V}{ds:aa D}{d:D}{Q:VK}(I:Inv X Ψ σ H s)(hl:SqL X.K H l xs)(r:bW All H xs ds)(h:p_ o ds=.ok d)(q:kR H d ag Q) :
  ϑ (ax X.prog X.w) X.A (call (.builtin nm) [.ref l]) (EP X Ψ σ Q) X.xe s:=by
 obtain⟨its,vr,pl⟩:=oW I hl;have hlt:l<s.heap.objs.size:=by obtain⟨_,e,_⟩:=pl;exact bS e
 refine M.walk (ng pl ?_);refine⟨_,_,_,_,_,_,btD o ds,rfl,Walks.list (A:=X.A.in1) (I.ok.hd hc) _ l (c9 hlt) its.toArray,⟨⟨_,dg _ rfl,rfl,rfl⟩,pl.push _⟩,λb hb=>?_,by rw[cv,<-vr.length,r.length];exact U9 h,⟨Gds s,⟨_,s.toks,rfl,λb o e=>cq _ e⟩,λs' h' tk g kk=>g.grow (wq:=[s.heap.objs.size]) (n:=s.heap.objs.size+1) (λb hb=>?_) (jg _) λb o h1 h2 e=>kk b o h1 (by show b<(s.heap.push _).objs.size;rw[ji];exact h2) e,λi j vi vj s' Q E g h1 h2 q=>HR I hu r vr h i j vi vj s' Q E g h1 h2 q⟩,λv h' tk hP hk=>?_⟩
 ·show b<(s.heap.push _).objs.size;rw[ji];rcases bX.mp hb with rfl|hb
  ·exact jh _
  ·rcases bX.mp hb with rfl|hb
   ·exact hX hlt
   ·cases hb
 ·rcases bX.mp hb with rfl|hb
  ·exact bi _
  ·cases hb
 ·obtain⟨w,v1,r1⟩:=RT r vr h (by simpa using hP);refine⟨w,H,I.kept λb o e=>hk b o (λhb=>?_) (cq _ e),v1,q.self r1 λz=>by cases z⟩;rcases bX.mp hb with rfl|hb
  ·exact bb (bS e) (fg _)
  ·cases hb
theorem aAj{o:iJ}{nm:dr}(M:Mms o nm)(hu:X.A.units+20<b9)(hc:X.calm=af){Ψ:aa (al×bf)}{σ:L2.St}{H:Hp}{s:ao}{l:al}{xs:aa V}{ds:aa D}{d:D}{Q:VK}(I:Inv X Ψ σ H s)(hl:H l=ae (.tup xs))(r:bW All H xs ds)(h:p_ o ds=.ok d)(q:kR H d ag Q) :
  ϑ (ax X.prog X.w) X.A (call (.builtin nm) [.ref l]) (EP X Ψ σ Q) X.xe s:=by
 obtain⟨its,vr,pl⟩:=iU I hl;have hlt:l<s.heap.objs.size:=by obtain⟨_,e,_⟩:=pl;exact bS e
 refine M.walk (wg pl ?_);refine⟨_,_,_,_,_,_,btD o ds,rfl,Aj (A:=X.A.in1) (I.ok.hd hc) _ l (c9 hlt) its.toArray,⟨⟨_,dg _ rfl,rfl,rfl⟩,pl.push _⟩,λb hb=>?_,by rw[cv,<-vr.length,r.length];exact U9 h,⟨Gds s,⟨_,s.toks,rfl,λb o e=>cq _ e⟩,λs' h' tk g kk=>g.grow (wq:=[s.heap.objs.size]) (n:=s.heap.objs.size+1) (λb hb=>?_) (jg _) λb o h1 h2 e=>kk b o h1 (by show b<(s.heap.push _).objs.size;rw[ji];exact h2) e,λi j vi vj s' Q E g h1 h2 q=>HR I hu r vr h i j vi vj s' Q E g h1 h2 q⟩,λv h' tk hP hk=>?_⟩
 ·show b<(s.heap.push _).objs.size;rw[ji];rcases bX.mp hb with rfl|hb
  ·exact jh _
  ·rcases bX.mp hb with rfl|hb
   ·exact hX hlt
   ·cases hb
 ·rcases bX.mp hb with rfl|hb
  ·exact bi _
  ·cases hb
 ·obtain⟨w,v1,r1⟩:=RT r vr h (by simpa using hP);refine⟨w,H,I.kept λb o e=>hk b o (λhb=>?_) (cq _ e),v1,q.self r1 λz=>by cases z⟩;rcases bX.mp hb with rfl|hb
  ·exact bb (bS e) (fg _)
  ·cases hb
theorem aAk{o:iJ}{nm:dr}(two:∀{prog:bu} {w:bo} {A:bP} {Q:ak->ao->Prop} {E:ak->ao->Prop} {s:ao} {a b:ak},ϑ (ax prog w) A.in1 (fN (.ref s.heap.objs.size)) (Mm.Seen prog w A.in1 o.op Q) E {s with heap:=s.heap.push {cls:=.type "tuple",data:=.seq #[a,b]}}->ϑ (ax prog w) A (call (.builtin nm) [a,b]) Q E s)(hu:X.A.units+20<b9)(hc:X.calm=af){Ψ:aa (al×bf)}{σ:L2.St}{H:Hp}{s:ao}{x y:V}{u w:ak}{a b d:D}{Q:VK}(I:Inv X Ψ σ H s)(rx:Rep All H x a)(ry:Rep All H y b)(ru:RelV x u)(rw':RelV y w)(h:p_ o [a,b]=.ok d)(q:kR H d ag Q) :
  ϑ (ax X.prog X.w) X.A (call (.builtin nm) [u,w]) (EP X Ψ σ Q) X.xe s:=by
 have r:bW All H [x,y] [a,b]:=.cons rx (.cons ry .nil);have vr:Vals [x,y] [u,w]:=.cons ru (.cons rw' .nil);have pl:(s.heap.push {cls:=.type "tuple",data:=.seq #[u,w]}).IsTuple s.heap.objs.size [u,w].toArray:=⟨_,dg _ rfl,rfl,0,rfl⟩
 have hsz:(s.heap.push {cls:=.type "tuple",data:=.seq #[u,w]}).objs.size=s.heap.objs.size+1:=ji ..;refine two (wg pl ?_);refine⟨_,_,_,_,_,_,btD o [a,b],rfl,Aj (A:=X.A.in1) (I.ok.hd hc) _ s.heap.objs.size (by rw[hsz];exact c9 (jh _)) [u,w].toArray,⟨⟨_,dg _ rfl,rfl,rfl⟩,pl.push _⟩,λb hb=>?_,by simp,⟨Gds s,⟨_,s.toks,rfl,λb o e=>cq _ (cq _ e)⟩,λs' h' tk g kk=>g.grow (wq:=[s.heap.objs.size+1]) (n:=s.heap.objs.size+2) (λb hb=>?_) (by lia) λb o h1 h2 e=>kk b o (by rw[hsz];exact h1) (by show b<((s.heap.push _).push _).objs.size;rw[ji,hsz];exact h2) e,λi j vi vj s' Q E g h1 h2 q=>HR I hu r vr h i j vi vj s' Q E g h1 h2 q⟩,λv h' tk hP hk=>?_⟩
 ·show b<((s.heap.push _).push _).objs.size;rw[ji,hsz];rcases bX.mp hb with rfl|hb
  ·rw[hsz];exact jh _
  ·rcases bX.mp hb with rfl|hb
   ·exact hX (jh _)
   ·cases hb
 ·rcases bX.mp hb with rfl|hb
  ·lia
  ·cases hb
 ·obtain⟨w,v1,r1⟩:=RT r vr h (by simpa using hP);refine⟨w,H,I.kept λb o e=>hk b o (λhb=>?_) (cq _ (cq _ e)),v1,q.self r1 λz=>by cases z⟩;rcases bX.mp hb with hb|hb
  ·have:=bS e;rw[hb,hsz] at this;exact bb this (Nat.not_lt.mpr (jg _))
  ·cases hb
theorem aK1{o:iJ}{nm:dr}(M:Mms o nm)(hu:X.A.units+20<b9)(hc:X.calm=af):jG X (.builtin nm) (rs (fL o) ag):=by
 rintro Ψ s σ H xs us Q I vr ⟨ds,d,r,e,k⟩;unfold fL at e;split at e
 ·cases r with
  |cons r t=>
   cases t;cases vr with
   |cons v vt=>
    cases vt;obtain⟨l,ys,rfl,hl,rr⟩:=r.kW (K:=X.K);cases v;exact aAi M hu hc I hl rr e k
 ·cases r with
  |cons r t=>
   cases t;cases vr with
   |cons v vt=>
    cases vt;obtain⟨l,ys,rfl,hl,rr⟩:=r.iD;cases v;exact aAj M hu hc I hl rr e k
 ·cases r with
  |cons r t=>
   cases t with
   |cons r' t=>
    cases t;cases vr with
    |cons v vt=>
     cases vt with
     |cons v' vt=>
      cases vt;exact aAk M.two hu hc I r r' v v' e k
 ·exact bx e
theorem aAl(hu:X.A.units+20<b9)(hc:X.calm=af):jG X (.builtin "min") (rs (fL .lt) ag):=aK1 ⟨Mm.MK,Mm.RP⟩ hu hc
theorem U_(hu:X.A.units+20<b9)(hc:X.calm=af):jG X (.builtin "max") (rs (fL .gt) ag):=aK1 ⟨Mm.MN,Mm.RQ⟩ hu hc
end
end Mi
namespace PySem.Mm
open PySem PyProof.Rows PySem.W
theorem v6{K:Type}[gw K]{knd:KeyKind prog w K}{d:al}{kvs:aa (K×ak)}{ep n:ah}(hh:A.handled=aj)(lo:(d==eP)=ag)
 (hm:s.heap.DictAt knd d kvs ep)(hn:kvs.length=n)(hl:n<=2 ^ 24)
 (q:∀h' tk acc c,(∀b o,s.heap.get? b=ae o->h'.get? b=ae o)->h'.get? s.heap.objs.size=ae {cls:=.type "list",dict:=aj,data:=.seq acc c,slots:=#[]}->
   ItemsOf (λi v=>∃k x,kvs[i]?=ae (k,x)/\knd.is k v=af) acc n->Q (.ref s.heap.objs.size) {s with heap:=h',toks:=tk}):ϑ (ax prog w) A (call (.type "list") [.ref d]) Q E s:=by
 subst hn;exact kdl_call (kdl_dict lo) hh hm (kdl_size hl) q
end PySem.Mm
namespace Mi
open PySem L2 PySem.SeqAt PySem.Spec PyProof.Rows
section
variable [KFrag]
section
variable {b e:Expr} {x:Str} {id T:dr}
theorem fM(r:bW P H xs [d])(vr:Vals xs us):∃v u,xs=[v]/\us=[u]/\Rep P H v d/\RelV v u:=by
 cases r with
 |cons r t=>
  cases t;cases vr with
  |cons v vt=>
   cases vt;exact⟨_,_,rfl,rfl,r,v⟩
theorem VB{fr:aq}(h:gE (aL f fs) fr σ H Q):tCB (rs f fr) (gA fs rr) σ H Q:=by
 obtain⟨ρ,d,E,h,q⟩:=h;obtain⟨ds,h1,h2⟩:=bL h;exact⟨ρ,ds,E,h1,λvs H1 s1 r1 _=>⟨ds,d,r1,h2,q.imp s1 id⟩⟩
theorem a_{fr:aq}(hc:jG X (.builtin id) (rs f fr))(hg:Gl X x)(hm:X.mg x=aj)(hv:eI x=ae (.builtin id))(ha:PA X (e::es) (gA fs rr))(hn:x ≠ "__name__":=by decide)(hdb:nDb x:=by decide)
 (he:br (e::es) X.env=(ag,eval e X.env)::br es X.env:=by rfl)(hpl:(dA pos (br es X.env)).any (·.1)=ag:=by rfl):PE X (.Call (.Name x p) (e::es) [] pos) (gE (aL f fs) fr):=
 PE.imp (T4 hc hg hm hv ha hn hdb he hpl) λ_ _ _=>VB
theorem bM{fr:aq}(hc:jG X (.type T) (rs f fr))(hg:Gl X x)(hm:X.mg x=aj)(hv:eI x=ae (.type T))(ha:PA X (e::es) (gA fs rr))(hn:x ≠ "__name__":=by decide)(hdb:nDb x:=by decide)
 (he:br (e::es) X.env=(ag,eval e X.env)::br es X.env:=by rfl)(hpl:(dA pos (br es X.env)).any (·.1)=ag:=by rfl):PE X (.Call (.Name x p) (e::es) [] pos) (gE (aL f fs) fr):=
 PE.imp (ZK hc hg hm hv ha hn hdb he hpl) λ_ _ _=>VB
theorem dH(hK:KFrag.K=X.K):jG X (.builtin "len") (rs gJ af):=by
 rintro Ψ s σ H xs us Q I vr ⟨ds,d,r,e,k⟩;unfold gJ at e;split at e
 ·cases e;obtain⟨vv,uu,rfl,rfl,r,v⟩:=fM r vr;obtain⟨l,ys,rfl,hl,rr⟩:=r.iD;cases v;exact jO Ψ s σ H [.ref l] [.ref l] Q I (.cons rfl .nil) ⟨l,ys,rfl,.inr (.of hl),by rw[rr.length];exact k.int⟩
 ·cases e;obtain⟨vv,uu,rfl,rfl,r,v⟩:=fM r vr;obtain⟨l,ys,rfl,hl,rr⟩:=r.kW;cases v;exact jO Ψ s σ H [.ref l] [.ref l] Q I (.cons rfl .nil) ⟨l,ys,rfl,.inl hl,by rw[rr.length];exact k.int⟩
 ·cases e;obtain⟨vv,uu,rfl,rfl,r,v⟩:=fM r vr;cases r with
  |@frz l xs ds ee rr=>
   cases v;exact jO Ψ s σ H [.ref l] [.ref l] Q I (.cons rfl .nil) ⟨l,xs,rfl,.inl (ee.sq hK),by rw[rr.length];exact k.int⟩
 ·cases e;obtain⟨vv,uu,rfl,rfl,r,v⟩:=fM r vr;obtain⟨_,rfl,ee,pp,rr⟩:=r.inv;cases v;exact jO Ψ s σ H [.ref _] [.ref _] Q I (.cons rfl .nil) ⟨_,_,rfl,.inl (.inl (.inl ee)),by rw[rr.length];exact k.int⟩
 ·split at e
  ·rename_i hl;cases e;obtain⟨vv,uu,rfl,rfl,r,v⟩:=fM r vr;cases r.inv;exact KR Ψ s σ H _ _ Q I (.cons v .nil) ⟨_,rfl,uE hl,k.int⟩
  ·exact bx e
 ·exact bx e
theorem kE.keys:∀{kvs:aa (Key×V)}{ds:aa (D×D)},kE P H kvs ds->bW P' H (kvs.map λp=>kV p.1) (fG ds)
 |_,_,.nil=>.nil
 |_,_,.cons (k:=k) _ t=>.cons (by cases k<;>first|exact .int _|exact .str _) t.keys
theorem list_dict(hc:X.calm=af)(I:Inv X Ψ σ H s)(e:H l=ae (.dK kvs))
 (q:∀p s',H p=aj->Inv X Ψ σ (upd H p (.lst (kvs.map λp=>kV p.1))) s'->(∀l0 o0,H l0=ae o0->l0≠p)->Q (.ref p) s'):ϑ (ax X.prog X.w) X.A (call (.type "list") [.ref l]) Q X.xe s:=by
 obtain⟨z,hd,vs,rel,dd⟩:=QT I.hok e;obtain⟨ep,da⟩:=dd.dictAt;have hlen:kvs.length=vs.length:=i5 rel;refine Mm.v6 (I.ok.hd hc) hd da rfl (by rw[<-hlen];rw[fo] at z;lia) λh' tk acc' c' kp e1 it=>?_
 obtain⟨i1,i2⟩:=it;have hfr:H s.heap.objs.size=aj:=I.hok.fresh (bi _);refine q _ _ hfr (I.laid kp (bi _) ?_) λl0 o0 h0=>cD h0 hfr
 refine⟨by rw[bp];exact z,acc'.toList,c',?_,by simpa using e1⟩;have gen:∀(kvs:aa (Key×V))(vs:aa (Key×ak))(xs:aa ak),KV kvs vs->xs.length=vs.length->(∀(j:ah)(v:ak),xs[j]?=ae v->∃k x,vs[j]?=ae (k,x)/\(cU X.prog X.w).is k v=af)->Vals (kvs.map λp=>kV p.1) xs:=by
  intro kvs vs xs rel;induction rel generalizing xs with
  |nil=>intro hl _;cases xs with|nil=>exact .nil|cons _ _=>simp at hl
  |@cons p q ps qs hpq t ih=>
   intro hl g;cases xs with
   |nil=>simp at hl
   |cons x xs=>
    refine .cons ?_ (ih xs (by simpa using hl) λj v hv=>g (j+1) v (by simpa using hv));obtain⟨k,x',h1,h2⟩:=g 0 x rfl;have h1':q=(k,x'):=by simpa using h1
    show RelV (kV p.1) x;rw[hpq.1,h1'];rcases cT h2 with ⟨i,t,rfl,rfl⟩|⟨i,t,rfl,rfl⟩
    ·exact⟨t,rfl⟩
    ·exact⟨t,rfl⟩
 exact gen kvs vs acc'.toList rel (by simpa using i1) λj v hv=>i2 j v (by simpa using hv)
theorem jZ(hc:X.calm=af):jG X (.type "list") (rs oV af):=by
 rintro Ψ s σ H xs us Q I vr ⟨ds,d,r,e,k⟩;unfold oV at e;split at e
 ·split at e
  ·rename_i hl;cases e;obtain⟨vv,uu,rfl,rfl,r,v⟩:=fM r vr;obtain⟨l,ys,rfl,hl',rr⟩:=r.iD;cases v;refine m5 Ψ s σ H [.ref l] [.ref l] Q I (.cons rfl .nil) ⟨l,ys,rfl,.inr (.of hl'),λp hp=>?_⟩;have sp:cX H (upd H p (.lst ys)):=cX.upd hp;exact k _ _ sp (.lst aN trivial (rr.same sp)) λ_=>.lst aN hp ((rr.bV hl).same sp)
  ·exact bx e
 ·split at e
  ·rename_i hl;cases e;obtain⟨vv,uu,rfl,rfl,r,v⟩:=fM r vr;obtain⟨l,ys,rfl,hl',rr⟩:=r.kW;cases v;refine m5 Ψ s σ H [.ref l] [.ref l] Q I (.cons rfl .nil) ⟨l,ys,rfl,.inl hl',λp hp=>?_⟩;have sp:cX H (upd H p (.lst ys)):=cX.upd hp;exact k _ _ sp (.lst aN trivial (rr.same sp)) λ_=>.lst aN hp ((rr.bV hl).same sp)
  ·exact bx e
 ·split at e
  ·rename_i hl;cases e;obtain⟨vv,uu,rfl,rfl,r,v⟩:=fM r vr;cases r with
   |@dK l kvs ds e _ r n=>
    cases v;refine list_dict hc I e λp s' hp I' _=>⟨.ref p,_,I',rfl,?_⟩
    have sp:cX H (upd H p (.lst (kvs.map λp=>kV p.1))):=cX.upd hp;exact k _ _ sp (.lst aN trivial (r.keys.same sp)) λ_=>.lst aN hp (r.keys.same sp)
   |@dT l kvs ds e _ r n=>
    cases v;cases r with
    |cons r t=>simp[isTup] at hl
    |nil=>
     have e2:=HJ (o':=.dK []) e;refine list_dict hc (k_ I e) aN λp s' hp I' hne=>?_
     have hp':p≠l:=λz=>by subst z;rw[aN] at hp;cases hp
     have hpn:H p=aj:=by rw[bD hp'] at hp;exact hp
     have hcm:upd (upd (upd H l (.dK [])) p (.lst [])) l (.dT [])=upd H p (.lst []):=by
      funext b
      by_cases hb:b=l
      ·subst hb;rw[aN,bD (Ne.symm hp'),e]
      ·rw[bD hb];by_cases hb2:b=p
       ·subst hb2;rw[aN,aN]
       ·rw[bD hb2,bD hb2,bD hb]
     have I2:=oM I' (by rw[bD (Ne.symm hp'),aN]);have I3:Inv X Ψ σ (upd H p (.lst [])) s':=by
      have:Inv X Ψ σ (upd (upd (upd H l (.dK [])) p (.lst [])) l (.dT [])) s':=I2;rwa [hcm] at this
     have sp:cX H (upd H p (.lst [])):=cX.upd hpn;exact⟨.ref p,_,I3,rfl,k _ _ sp (.lst aN trivial .nil) λ_=>.lst aN hpn .nil⟩
  ·exact bx e
 ·exact bx e
theorem wW:jG X (.type "tuple") (rs CQ ag):=by
 rintro Ψ s σ H xs us Q I vr ⟨ds,d,r,e,k⟩;unfold CQ at e;split at e
 ·cases e;obtain⟨vv,uu,rfl,rfl,r,v⟩:=fM r vr;obtain⟨l,ys,rfl,hl',rr⟩:=r.iD;cases v;exact sW Ψ s σ H [.ref l] [.ref l] Q I (.cons rfl .nil) ⟨l,ys,rfl,.inr ⟨.of hl',k.self (.tup hl' rr) λz=>by cases z⟩⟩
 ·cases e;obtain⟨vv,uu,rfl,rfl,r,v⟩:=fM r vr;obtain⟨l,ys,rfl,hl',rr⟩:=r.kW;cases v;refine sW Ψ s σ H [.ref l] [.ref l] Q I (.cons rfl .nil) ⟨l,ys,rfl,.inl ⟨hl',λp hp=>?_⟩⟩;have sp:cX H (upd H p (.tup ys)):=cX.upd hp;exact k _ _ sp (.tup aN (rr.same sp)) λz=>by cases z
 ·exact bx e
mutual
theorem CV:∀(d:D),d.plain=af->d.pure=af
 |.tup xs,h=>by rw[ο] at h;rw[D.pure];exact v7 xs h
 |.int _,_=>rfl
 |.str _,_=>rfl
 |.uD,h=>by simp[ο] at h
 |.non,_=>rfl
 |.bl _,_=>rfl
 |.lst _,h=>by simp[ο] at h
 |.dct _,h=>by simp[ο] at h
 |.scr _,h=>by simp[ο] at h
 |.fdc _,h=>by simp[ο] at h
 |.exc _ _,h=>by simp[ο] at h
 |.ins _ _,h=>by simp[ο] at h
 |.adr _,h=>by simp[ο] at h
 |.dcl _ _,h=>by simp[ο] at h
 |.cel _ _,h=>by simp[ο] at h
theorem v7:∀(ds:aa D),D.gM ds=af->θ ds=af
 |[],_=>rfl
 |x::xs,h=>by rw[D.gM,bj] at h;rw[θ,bj];exact⟨CV x h.1,v7 xs h.2⟩
end
theorem yI(h:bQ ds=af):θ (i_ ds)=af:=jK.mpr λd hd=>CV d (fH h ((gB ds).mem_iff.mp hd)).1
theorem yJ(hu:X.A.units+20<b9):jG X (.builtin "sorted") (rs nG af):=by
 rintro Ψ s σ H xs us Q I vr ⟨ds,d,r,e,k⟩;unfold nG at e;split at e
 ·split at e
  ·rename_i hl;cases e;obtain⟨vv,uu,rfl,rfl,r,v⟩:=fM r vr;obtain⟨l,ys,rfl,hl',rr⟩:=r.kW;cases v;refine CT I hu hl' rr hl λp xs' hp r'=>?_
   have sp:cX H (upd H p (.lst xs')):=cX.upd hp;exact k _ _ sp (.lst aN trivial (r'.same sp)) λ_=>.lst aN hp ((r'.bV (yI hl)).same sp)
  ·exact bx e
 ·exact bx e
noncomputable def spD(f:aa D->Res D)(n:ah):Sp:=λvs H Q _=>∃ds d,ds.length=n/\bW All H vs ds/\f ds=.ok d/\kR H d af Q
theorem aGs{E:XK}(h:spD f n vs H Q E):vs.length=n:=by
 obtain⟨ds,d,h1,r,_⟩:=h;rw[r.length,h1]
theorem aGt(F:TX X.prog X.w X.K X.mg X.base CX0 k fad fd ps (spD f n))(hr:uR k X.A)(hg:Gl X x)(hm:X.mg x=ae (.ref fad))(hk:jz X.K (.ref fad)=af)(hb:Binds X.K fd ps [])
 (ha:PA X (e::es) (gA fs rr))(hdb:nDb x:=by decide)(he:br (e::es) X.env=(ag,eval e X.env)::br es X.env:=by rfl)(hpl:(dA pos (br es X.env)).any (·.1)=ag:=by rfl) :
  PE X (.Call (.Name x p) (e::es) [] pos) (gE (aL (cF n f) fs) af):=
 PE.imp (QL F hr hg hm hk hb .nil aMa ha hdb he hpl) λσ H Q z0=>by
  obtain⟨ρ,d,E,h,q⟩:=z0;obtain⟨ds,h1,h⟩:=bL h;unfold cF at h;split at h
  ·rename_i hl;exact⟨ρ,ds,E,h1,λvs H1 s1 r1 _=>⟨ds,d,ft hl,by rw[fS];exact r1,h,q.imp s1 id⟩⟩
  ·exact bx h
end
end
noncomputable def MT(x:Str):aa D:=x.cps.toList.map λc=>ι ⟨#[c]⟩
section
variable [KFrag]
def aMg(x:Str):It:=⟨λi _=>i<x.cps.size,λi H v H'=>H'=H/\∃c,x.cps[i]?=ae c/\v=.str ⟨#[c]⟩,λi _=>x.cps.size<=i⟩
structure ItQ(K:bz)(P:al->Prop)(J:It)(H:Hp)(items:aa D):Prop where
 it:∀(P':al->Prop)(H':Hp),J_ P H H'->(∀a o,H a=ae o->P a->P' a)->(∀i,items.length<=i->J.stop i H')/\∀i d,items[i]?=ae d->J.go i H'/\∀x H'',J.yld i H' x H''->cX H' H''/\Rep P' H'' x d
section
variable {K:bz} {P P':al->Prop} {J:It} {H H':Hp} {items:aa D}
theorem ItQ.keep'(h:ItQ K P J H items)(k:J_ P H H')(m:∀a o,H a=ae o->P a->P' a):ItQ K P' J H' items:=
 ⟨λP2 H2 k2 m2=>h.it P2 H2 (λa o e hp=>k2 a o (k a o e hp) (hp.imp (m a o e) id)) λa o e hp=>m2 a o (k a o e (.inl hp)) (m a o e hp)⟩
theorem ItQ.keep(h:ItQ K P J H items)(k:J_ P H H')(m:∀a,P a->P' a):ItQ K P' J H' items:=h.keep' k λa _ _=>m a
theorem ItQ.stop(h:ItQ K P J H items)(hi:items.length<=i):J.stop i H:=(h.it P H (λ_ _ e _=>e) λ_ _ _ hp=>hp).1 i hi
theorem ItQ.go(h:ItQ K P J H items)(hi:items[i]?=ae d):J.go i H/\∀x H',J.yld i H x H'->cX H H'/\Rep P H' x d:=(h.it P H (λ_ _ e _=>e) λ_ _ _ hp=>hp).2 i d hi
theorem ItQ.lst(a:al)(e:J=Itl K a)(r:Rep P H (.ref a) (.lst items)):ItQ K P J H items:=by
 refine⟨λP H kk mm=>?_⟩;have r:=r.aDf kk mm;refine⟨λi hi=>?_,λi d hi=>?_⟩
 ·subst e;obtain⟨a',xs,e,hq,rr⟩:=r.kW;cases e;exact⟨xs,hq,by rw[rr.length];exact hi⟩
 ·subst e;obtain⟨a',xs,e,hq,rr⟩:=r.kW;cases e;obtain⟨v,h1,h2⟩:=rr.get hi;refine⟨⟨xs,v,hq,h1⟩,λx H' ⟨e,hy⟩=>?_⟩;subst e;refine⟨cX.refl _,?_⟩;have:=hy xs hq;rw[h1] at this;cases this;exact h2
theorem ItQ.tup(a:al)(e:J=Itt K a)(r:Rep P H (.ref a) (.tup items)):ItQ K P J H items:=by
 refine⟨λP H kk mm=>?_⟩;have r:=r.aDf kk mm;refine⟨λi hi=>?_,λi d hi=>?_⟩
 ·subst e;obtain⟨a',xs,e,hq,rr⟩:=r.iD;cases e;exact⟨xs,.of hq,by rw[rr.length];exact hi⟩
 ·subst e;obtain⟨a',xs,e,hq,rr⟩:=r.iD;cases e;obtain⟨v,h1,h2⟩:=rr.get hi;refine⟨⟨xs,v,.of hq,h1⟩,λx H' ⟨e,hy⟩=>?_⟩;subst e;refine⟨cX.refl _,?_⟩;have:=hy xs (.of hq);rw[h1] at this;cases this;exact h2
theorem ItQ.rng(lo:ai)(n:ah)(e:J=Itr lo n)(r:items=(eu n).map λ(k:ah)=>δ (lo+k)):ItQ K P J H items:=by
 refine⟨λP H k m=>?_⟩;refine⟨λi hi=>?_,λi d hi=>?_⟩
 ·subst e r;show n<=i;simpa using hi
 ·subst e r;have hlt:i<n:=by
   have:=(d4.mp hi).1;simpa using this
  refine⟨hlt,λx H' ⟨e,hy⟩=>?_⟩;subst e;have e2:δ (lo+(i:ai))=d:=by simpa[hlt] using hi
  rw[hy,<-e2];exact⟨cX.refl _,.int _⟩
theorem ItQ.chs(z:Str)(e:J=aMg z)(r:items=MT z):ItQ K P J H items:=by
 refine⟨λP H k m=>?_⟩;refine⟨λi hi=>?_,λi d hi=>?_⟩
 ·subst e r;show z.cps.size<=i;simpa[MT] using hi
 ·subst e r;have hlt:i<z.cps.size:=by
   have:=(d4.mp hi).1;simpa[MT] using this
  refine⟨hlt,λx H' ⟨e,c,hc,hv⟩=>?_⟩;subst e hv;refine⟨cX.refl _,?_⟩;have e2:ι ⟨#[c]⟩=d:=by
   unfold MT at hi;rw[ma,gX,hc] at hi;simpa using hi
  rw[<-e2];exact .str _
theorem ItQ.scr(a:al)(hK:KFrag.K=K)(e:J=Itl K a)(r:Rep P H (.ref a) (.scr items)):ItQ K P J H items:=by
 refine⟨λP H kk mm=>?_⟩;have r:=r.aDf kk mm;refine⟨λi hi=>?_,λi d hi=>?_⟩
 ·subst e;cases r with
  |frz ee rr=>exact⟨_,ee.sq hK,by rw[rr.length];exact hi⟩
 ·subst e;cases r with
  |@frz _ xs _ ee rr=>
   obtain⟨v,h1,h2⟩:=rr.get hi;refine⟨⟨xs,v,ee.sq hK,h1⟩,λx H' ⟨e,hy⟩=>?_⟩;subst e;refine⟨cX.refl _,?_⟩;have:=hy xs (ee.sq hK);rw[h1] at this;cases this;exact h2
end
noncomputable def gI(K:bz)(f:FI):TI:=λσ H R=>∃ρ items k,ER H σ ρ/\f ρ=.ok (items,k)/\∀J H1,cX H H1->ItQ K All J H1 items->(k=af->ItQ K (New H) J H1 items)->R J H1
def gIV(K:bz)(i:ah):TI:=λσ H R=>∃v d items,σ[i]?=ae (ae v)/\Rep All H v d/\kO d=.ok items/\∀J,(∀P:al->Prop,Rep P H v d->ItQ K P J H items)->R J H
section
variable {X:Cx} {tg l a b:Expr} {fl:FE} {rl rr:aq} {fs:FA} {p pos:cb}
theorem HS(hK:KFrag.K=X.K)(I1:Inv X Ψ σ H1 s1)(r:Rep All H1 v d)(ru:RelV v u)(hi:kO d=.ok items)
 (q:∀J,(∀P:al->Prop,Rep P H1 v d->ItQ X.K P J H1 items)->R J H1):ϑ (ax X.prog X.w) X.A (fN u) (PIE X Ψ σ tg R) X.xe s1:=by
 cases d<;>simp only[kO] at hi<;>cases hi
 ·obtain⟨a,xs,rfl,e,rr⟩:=r.iD;cases ru;obtain⟨its,rv,p,hz⟩:=I1.tuple (.of e);refine wg (show s1.heap.IsTuple a its.toArray from p) ?_;refine⟨s1.heap.objs.size,[s1.heap.objs.size],_,_,H1,rfl,I1.kept λb o e=>cq _ e,WT a _,⟨_,dg _ rfl,rfl,rfl⟩,λb hb=>?_,q _ λP r=>.tup a rfl r⟩;have e:b=s1.heap.objs.size:=by simpa using hb
  subst e;exact I1.aEy (bi _) (I1.hok.fresh (bi _))
 ·obtain⟨a,xs,rfl,e,rr⟩:=r.kW;cases ru;obtain⟨its,rv,p,hz⟩:=I1.list e;refine ng p.isList ?_;refine⟨s1.heap.objs.size,[s1.heap.objs.size],_,_,H1,rfl,I1.kept λb o e=>cq _ e,sS a _,⟨_,dg _ rfl,rfl,rfl⟩,λb hb=>?_,q _ λP r=>.lst a rfl r⟩;have e:b=s1.heap.objs.size:=by simpa using hb
  subst e;exact I1.aEy (bi _) (I1.hok.fresh (bi _))
 ·obtain⟨a,xs,rfl,ee,rr⟩:=r.inv;cases ru;obtain⟨its,rv,p,hz⟩:=I1.list (ee.sq hK);refine ng p.isList ?_;refine⟨s1.heap.objs.size,[s1.heap.objs.size],_,_,H1,rfl,I1.kept λb o e=>cq _ e,sS a _,⟨_,dg _ rfl,rfl,rfl⟩,λb hb=>?_,q _ λP r=>.scr a hK rfl r⟩;have e:b=s1.heap.objs.size:=by simpa using hb
  subst e;exact I1.aEy (bi _) (I1.hok.fresh (bi _))
theorem oX(hK:KFrag.K=X.K)(hl:PE X l (gE fl rl)):PI X tg l (gI X.K (fZ fl rl)):=by
 rintro Ψ s σ H R I ⟨ρ,items,k,E,h,q⟩;obtain⟨d,h1,h⟩:=bL h;obtain⟨its,h2,h⟩:=bL h;cases h;refine thn (hl Ψ s σ H _ I ⟨ρ,d,E,h1,λv H1 s1 r1 n1=>(show(∃d',Rep All H1 v d/\d'=d/\∀J,(∀P:al->Prop,Rep P H1 v d->ItQ X.K P J H1 items)->R J H1) from ⟨d,r1,rfl,λJ hJ=>q J H1 s1 (hJ _ r1) λhk=>hJ _ ?_⟩)⟩) λu s1 ⟨v,H1,I1,ru,d',r1,e,q1⟩=>HS hK I1 r1 ru h2 q1
 rw[iv] at hk;rcases hk with hk|hk
 ·exact n1 hk
 ·exact r1.bV hk
theorem aFd(hK:KFrag.K=X.K)(hN:X.N[i]?=ae x)(hv:Vis X.env.scope x)(hd:nDb x:=by decide)(hcd:nCd x:=by decide):PI X tg (.Name x pos) (gIV X.K i):=by
 rintro Ψ s σ H R I ⟨v,d,items,hσ,r,hi,q⟩;exact thn (kI hN hv hd hcd Ψ s σ H (λw H1=>w=v/\H1=H) I ⟨v,hσ,rfl,rfl⟩) λu s1 z0=>by
  obtain⟨w,H1,I1,ru,e1,e2⟩:=z0;subst e1 e2;exact HS hK I1 r ru hi q
theorem XM(h:xZ i=af):-(2 ^ 62)<=i/\i<2 ^ 62:=by
 simp only[xZ,bj,eD] at h;exact h
theorem PI.imp(h:PI X tg l w)(i:∀σ H R,w' σ H R->w σ H R):PI X tg l w':=λΨ s σ H R I q=>h Ψ s σ H R I (i σ H R q)
theorem vD(hg:Gl X "range")(hm:X.mg "range"=aj)(ha:PA X [a] (gA fs rr))(hs:br [a] X.env=[(ag,eval a X.env)]:=by rfl):PI X tg (.Call (.Name "range" p) [a] [] pos) (gI X.K (vA fs uB)):=
 PI.imp (ZD hg hm ha hs) λσ H R z0=>by
  obtain⟨ρ,items,k,E,h,q⟩:=z0;obtain⟨xs,h1,h⟩:=bL h;unfold uB at h;split at h
  ·split at h
   ·rename_i hb;cases h;obtain⟨b1,b2⟩:=XM hb;refine⟨ρ,_,E,h1,λvs H1 s1 r1 _=>?_⟩;cases r1 with
    |cons r t=>
     cases t;cases r.inv;exact⟨_,rfl,b1,b2,q _ H1 s1 (.rng 0 _ rfl rfl) λ_=>.rng 0 _ rfl rfl⟩
   ·exact bx h
  ·exact bx h
end
theorem aDo(n:ah)(ρ bs:aa D)(i:ah)(h:i<n):(T9 n ρ++bs).getD i .uD=ρ.getD i .uD:=by
 rw[dh,ip (by simp[T9];exact h)];simp[T9,h]
theorem VD(n:ah)(ρ:aa D):(T9 n ρ).length=n:=by simp[T9]
def TgC(g:TG)(t:D->Res (aa D))(n m:ah):Prop:=∀(v:V)(d:D)(bs:aa D)(σ:L2.St)(H:Hp)(Q:L2.St->Hp->Prop),σ.length=n->Rep All H v d->t d=.ok bs->
 (∀σ2,Ext (σ++ck m aj) σ2->(∀j b,bs[j]?=ae b->∃w,σ2[n+j]?=ae (ae w)/\Rep All H w b)->Q σ2 H)->g v (σ++ck m aj) H Q
theorem ER.ext(E:ER H σ ρ)(hn:σ.length=n)(x:Ext (σ++ck m aj) σ2)(hb:∀j b,bs[j]?=ae b->∃w,σ2[n+j]?=ae (ae w)/\Rep All H w b):ER H σ2 (T9 n ρ++bs):=by
 intro i hi;by_cases h:i<n
 ·rw[aDo n ρ bs i h] at hi ⊢;obtain⟨v,h1,h2⟩:=E i hi;exact⟨v,x.2 i v (by rw[ip (by rw[hn];exact h)];exact h1),h2⟩
 ·have e:(T9 n ρ++bs).getD i .uD=bs.getD (i-n) .uD:=by
   rw[dh,eL (by rw[VD];lia),VD,<-dh]
  rw[e] at hi ⊢;cases hq:bs[i-n]? with
  |none=>rw[dh,hq] at hi;exact bb rfl hi
  |some b=>
   obtain⟨w,h1,h2⟩:=hb (i-n) b hq;rw[dh,hq];exact⟨w,by rw[<-h1];congr 1;lia,h2⟩
theorem nJ{K:bz}{n m:ah}{g:TG}{tc:TT}(tg:TgC g t n m)(hc:∀σ H Q,gT c σ H Q->tc σ H Q){σ:L2.St}{H:Hp}{Q:VK}(hn:σ.length=n)(h:gE (dN n it t c f k) af σ H Q) :
  RJ (gI K it) g tc (gE f k) m σ H Q:=by
 obtain⟨ρ,d,E,h,q⟩:=h;obtain⟨⟨items,kk⟩,h1,h⟩:=bL h;split at h
 ·rename_i hlim;obtain⟨ys,h2,h⟩:=bL h;cases h;refine⟨ρ,items,kk,E,h1,λJ H1 s1 hJ _ p hp=>?_⟩;have hp0:H p=aj:=s1.free hp;refine⟨λi n' vs H'=>n'=items.length-i/\i<=items.length/\H' p=ae (.lst vs)/\cX H1 H'/\∃acc,acc.length<=i/\bW (λa=>H a=aj/\a≠p) H' vs acc/\G4 (z6 n t c f k ρ) acc (items.drop i)=.ok ys,⟨items.length,?_⟩,?_⟩
  ·exact⟨rfl,eS _,aN,cX.upd hp,[],eS _,.nil,h2⟩
  ·rintro i n' vs H' ⟨rfl,hi,hH,sm,acc,hal,racc,hf⟩;refine⟨hH,?_⟩;have hJ':ItQ K All J H' items:=hJ.keep (.same sm) λ_ z=>z
   rcases mP i items.length with hlt|hge
   ·refine .inr ?_;have e:items[i]?=ae items[i]:=dP hlt;obtain⟨g1,g2⟩:=hJ'.go e;have hl1:items.length<=lim:=ft hlim;refine⟨g1,?_,λx H2 hy=>?_⟩
    ·rw[racc.length];exact Ak hal (dz hlt (du hl1 (by rw[fo];decide)))
    ·obtain⟨sH,rx⟩:=g2 x H2 hy;have hH:=sH p _ hH;have sm:=sm.trans sH;have racc:=racc.same sH;rw[gq hlt] at hf;obtain⟨acc2,hs,hf⟩:=bL hf;obtain⟨bs,hb,hs⟩:=bL hs;obtain⟨ok,hok,hs⟩:=bL hs;refine tg x items[i] bs σ H2 _ hn rx hb λσ2 hx hbs=>⟨hx,hc _ _ _ ?_⟩
     have E2:ER H2 σ2 (T9 n ρ++bs):=(E.same (s1.trans sm)).ext hn hx hbs;refine⟨_,ok,E2,hok,λH4 s4=>?_⟩;cases ok with
     |true=>
      rw[av rfl];rw[av rfl] at hs;obtain⟨y,hy2,hs⟩:=bL hs;split at hs
      ·rename_i hk;cases hs;refine⟨_,y,E2.same s4,hy2,λw H5 s5 r5 n5=>⟨s5 p _ (s4 p _ hH),items.length-(i+1),by lia,rfl,hlt,aN,?_,acc++[y],?_,?_,hf⟩⟩
       ·exact λb o e=>by
         rw[bD (cD e hp)];exact s5 b o (s4 b o (sm b o e))
       ·rw[de,yn];lia
       ·have hp5:H5 p=ae (.lst vs):=s5 p _ (s4 p _ hH);have ry:Rep (λa=>H a=aj/\a≠p) H5 w y:=by
         rw[iv] at hk;rcases hk with hk|hk
         ·exact(n5 hk).mono λa ha=>⟨((s1.trans sm).trans s4).free ha,λz=>by subst z;have h0:=s4 _ _ hH;rw[show H4 _=aj from ha] at h0;cases h0⟩
         ·exact r5.bV hk
        have all:bW (λa=>H a=aj/\a≠p) H5 (vs++[w]) (acc++[y]):=(racc.same (s4.trans s5)).snoc ry;refine all.keep (λb o e hb=>?_) λ_ z=>z
        rw[bD]
        ·exact e
        ·rcases hb with hb|hb
         ·exact hb.2
         ·intro z;subst z;rw[hp5] at e;cases e;cases hb
      ·exact bx hs
     |false=>
      rw[az (by simp)];rw[az (by simp)] at hs;cases hs;exact⟨items.length-(i+1),by lia,rfl,hlt,s4 p _ hH,sm.trans s4,acc,by lia,racc.same s4,hf⟩
   ·refine .inl ⟨hJ'.stop hge,?_⟩;rw[oS hge] at hf;cases hf;exact q _ _ (s1.trans sm) (.lst hH trivial racc.all) λ_=>.lst hH hp0 (racc.mono λa z=>z.1)
 ·exact bx h
def gIx:aa ah->TGs
 |[]=>aN3
 |i::is=>aIz (uW i) (gIx is)
noncomputable def nM:aa ah->aa V->L2.St->L2.St
 |i::is,v::vs,σ=>nM is vs (σ.set i (ae v))
 |_,_,σ=>σ
theorem RV:∀(is:aa ah)(vs:aa V)(σ:L2.St),vs.length=is.length->Q (nM is vs σ) H->gIx is vs σ H Q
 |[],[],σ,_,q=>⟨rfl,q⟩
 |i::is,v::vs,σ,h,q=>⟨v,vs,rfl,RV is vs (σ.set i (ae v)) (by simpa using h) q⟩
 |[],_::_,_,h,_=>by simp at h
 |_::_,[],_,h,_=>by simp at h
theorem M3:∀(is:aa ah)(vs:aa V)(σ:L2.St),(nM is vs σ).length=σ.length
 |[],_,_=>by simp[nM]
 |_::_,[],_=>by simp[nM]
 |i::is,v::vs,σ=>by rw[nM,M3 is vs];simp
theorem yK:∀(is:aa ah)(vs:aa V)(σ:L2.St)(k:ah),k∉is->(nM is vs σ)[k]?=σ[k]?
 |[],_,_,_,_=>by simp[nM]
 |_::_,[],_,_,_=>by simp[nM]
 |i::is,v::vs,σ,k,h=>by
  rw[bX,kX] at h;rw[nM,yK is vs _ k h.2,en (Ne.symm h.1)]
theorem VF:∀(is:aa ah)(vs:aa V)(σ:L2.St)(j i:ah)(v:V),is.Nodup->(∀i∈is,i<σ.length)->is[j]?=ae i->vs[j]?=ae v->(nM is vs σ)[i]?=ae (ae v)
 |[],_,_,_,_,_,_,_,h,_=>by simp at h
 |_::_,[],_,_,_,_,_,_,_,h=>by simp at h
 |a::is,w::vs,σ,0,i,v,hn,hl,h1,h2=>by
  have e1:a=i:=by simpa using h1
  have e2:w=v:=by simpa using h2
  subst e1 e2;rw[nM,yK is vs _ a (eR.mp hn).1,fi (hl a (cu ..))]
 |a::is,w::vs,σ,j+1,i,v,hn,hl,h1,h2=>by
  rw[nM];exact VF is vs _ j i v (eR.mp hn).2 (λi hi=>by rw[List.length_set];exact hl i (b6 _ hi)) (by simpa using h1) (by simpa using h2)
theorem lZ(n:ah):TgC (uW n) uU n 1:=by
 intro v d bs σ H Q hn r h q;cases h;have hl:(σ++ck 1 (aj:ay V)).length=n+1:=by simp[hn]
 refine q _ ⟨by simp,λi w hi=>?_⟩ λj b hj=>?_
 ·have:i≠n:=λz=>by
   subst z;rw[eL (by lia)] at hi;simp[hn] at hi
  rw[en (Ne.symm this)];exact hi
 ·have e:j=0:=by
   have:=(d4.mp hj).1;simp at this;exact this
  subst e;have e:d=b:=by simpa using hj
  subst e;exact⟨v,by rw[vn,fi (by lia)],r⟩
theorem aAm(K:bz)(n m:ah):TgC (aLx K m (gIx (r_ n m))) (aDc m) n m:=by
 intro v d bs σ H Q hn r h q;cases d<;>simp only[aDc] at h<;>(try (exact bx h;done))
 split at h
 ·rename_i hm;cases h;have hm':=ft hm;obtain⟨a,xs,rfl,e,rr⟩:=r.iD;refine⟨a,xs,rfl,.of e,by rw[rr.length];exact hm',RV _ _ _ (by rw[rr.length,hm'];simp) ?_⟩;refine q _ ⟨by rw[M3],λi w hi=>?_⟩ λj b hj=>?_
  ·rw[yK]
   ·exact hi
   ·intro hmem;have:=Al.mp hmem;rw[eL (by lia)] at hi;rw[io] at hi;split at hi<;>cases hi
  ·obtain⟨w,h1,h2⟩:=rr.get hj;have hjm:j<m:=by rw[<-hm'];exact(d4.mp hj).1
   refine⟨w,VF _ _ _ j (n+j) w (List.nodup_range' ..) (λi hi=>?_) ?_ h1,h2⟩
   ·have:=Al.mp hi;simp[hn];lia
   ·rw[List.getElem?_range' hjm];simp
 ·exact bx h
section
theorem aGu(S:cZ X.N X.env.scope scope ownN)(hn:X.N.length=n)(hm:ownN.length=m)(hcalm:X.calm=af)(hi:PI X tg iter (gI X.K it))(ht:TgC g t n m)(hg:∀X',c7 X X' scope ownN->PG X' tg g)(he:∀X',c7 X X' scope ownN->PE X' elt (gE fe re))
 (hs:∀x,d6 iter X.env x=pure x):PE X (.ListComp elt [⟨tg,iter,[],0⟩] scope pos) (gE (dN n it t jA fe re) af):=by
 intro Ψ s σ H Q I h;subst hm;exact UT S hcalm hi hg he hs Ψ s σ H Q I (nJ ht (λσ H Q h=>by obtain⟨ρ,b,E,h,q⟩:=h;cases h;exact q H (cX.refl H)) (I.len.trans hn) h)
theorem aAn(S:cZ X.N X.env.scope scope ownN)(hn:X.N.length=n)(hm:ownN.length=m)(hcalm:X.calm=af)(hi:PI X tg iter (gI X.K it))(ht:TgC g t n m)(hg:∀X',c7 X X' scope ownN->PG X' tg g)(hc:∀X',c7 X X' scope ownN->PT X' c (gT gc))(he:∀X',c7 X X' scope ownN->PE X' elt (gE fe re))
 (hs:∀x,d6 iter X.env x=pure x):PE X (.ListComp elt [⟨tg,iter,[c],0⟩] scope pos) (gE (dN n it t gc fe re) af):=by
 intro Ψ s σ H Q I h;subst hm;exact aA9 S hcalm hi hg hc he hs Ψ s σ H Q I (nJ ht (λσ H Q h=>h) (I.len.trans hn) h)
end
end
variable [KFrag]
theorem kE.bV:∀{v:aa (Key×V)}{d:aa (D×D)},kE P H v d->θ (d.map (·.2))=af->kE P' H v d
 |_,_,.nil,_=>.nil
 |_,_,.cons r t,h=>by
  rw[bw,θ,bj] at h;exact .cons (r.bV h.1) (t.bV h.2)
theorem sO.bV:∀{v:aa (aa Key×V)}{d:aa (D×D)},sO P H v d->θ (d.map (·.2))=af->sO P' H v d
 |_,_,.nil,_=>.nil
 |_,_,.cons r t,h=>by
  rw[bw,θ,bj] at h;exact .cons (r.bV h.1) (t.bV h.2)
theorem Rep.aLk(r:Rep P H (.ref a) d)(h:inner d=af)(hp:P' a):Rep P' H (.ref a) d:=by
 cases r with
 |tup e r=>cases h
 |lst e p r=>exact .lst e hp (r.bV h)
 |cel e p r=>exact .cel e hp (r.bV h)
 |frz e r=>cases h
 |dK e p r n=>exact .dK e hp (r.bV h) n
 |dT e p r n=>exact .dT e hp (r.bV h) n
 |fdK e r n=>cases h
 |fdT e r n=>cases h
 |exc n e q=>cases h
 |ins n e q=>cases h
 |adr=>cases h
 |dlK e p r n=>exact .dlK e hp (r.bV h) n
 |dlT e p r n=>exact .dlT e hp (r.bV h) n
def Own(own:ah->aq)(σ:L2.St)(a:al):Prop:=∃i,own i=af/\σ[i]?=ae (ae (.ref a))
structure ES(own:ah->aq)(H:Hp)(σ:L2.St)(ρ:aa D):Prop where
 len:σ.length=ρ.length
 at_:∀i,ρ.getD i .uD≠.uD->∃v,σ[i]?=ae (ae v)/\(own i=ag->Rep (λa=>¬Own own σ a) H v (ρ.getD i .uD))
 own:∀i v,own i=af->σ[i]?=ae (ae v)->∃a o,v=.ref a/\Rep All H v (ρ.getD i .uD)/\inner (ρ.getD i .uD)=af/\H a=ae o/\W_ o=af/\∀j,own j=af->σ[j]?=ae (ae (.ref a))->j=i
variable {own:ah->aq}
theorem ES.er(e:ES own H σ ρ):ER H σ ρ:=λi hi=>by
 obtain⟨v,h1,h2⟩:=e.at_ i hi;cases ho:own i with
 |false=>exact⟨v,h1,(h2 ho).all⟩
 |true=>
  obtain⟨a,o,_,h3,_⟩:=e.own i v ho h1;exact⟨v,h1,h3⟩
theorem ES.live(e:ES own H σ ρ)(h:Own own σ a):∃o,H a=ae o/\W_ o=af:=by
 obtain⟨i,hi,hs⟩:=h;obtain⟨b,o,eb,_,_,h3,h4,_⟩:=e.own i _ hi hs;cases eb;exact⟨o,h3,h4⟩
theorem ES.same(e:ES own H σ ρ)(s:cX H H'):ES own H' σ ρ:=by
 refine⟨e.len,λi hi=>?_,λi v hi hv=>?_⟩
 ·obtain⟨v,h1,h2⟩:=e.at_ i hi;exact⟨v,h1,λho=>(h2 ho).same s⟩
 ·obtain⟨a,o,h1,h2,h3,h4,h5,h6⟩:=e.own i v hi hv;exact⟨a,o,h1,h2.same s,h3,s _ _ h4,h5,h6⟩
def KU(own:ah->aq)(σ:L2.St)(H:Hp)(σ':L2.St)(H':Hp):Prop:=∀a o,H a=ae o->¬Own own σ a->H' a=ae o/\¬Own own σ' a
theorem KU.trans(a:KU own σ H σ1 H1)(b:KU own σ1 H1 σ2 H2):KU own σ H σ2 H2:=λc o e n=>let ⟨e1,n1⟩:=a c o e n;b c o e1 n1
theorem KU.same(s:cX H H'):KU own σ H σ H':=λa o e n=>⟨s a o e,n⟩
theorem KU.keep(k:KU own σ H σ' H')(e:ES own H σ ρ):J_ (λa=>¬Own own σ a) H H':=λa o h hp=>by
 by_cases ho:Own own σ a
 ·obtain⟨o',h1,h2⟩:=e.live ho;rw[h] at h1;cases h1;rcases hp with hp|hp
  ·exact bb ho hp
  ·rw[h2] at hp;cases hp
 ·exact(k a o h ho).1
theorem KU.rep(k:KU own σ H σ' H')(e:ES own H σ ρ)(r:Rep (λa=>¬Own own σ a) H v d):Rep (λa=>¬Own own σ' a) H' v d:=r.aDf (k.keep e) λa o h n=>(k a o h n).2
def kRt(own:ah->aq)(D:Ends)(σ:L2.St)(H:Hp)(d:Mi.D):Prop:=if own rtX=af then ∃d0 ρ',d=.tup (d0::ρ')/\∀v σ' H',KU own σ H σ' H'->ES own H' σ' ρ'->Rep (λa=>(Own own σ a\/H a=aj)/\∀i b xs,ρ'.getD i .uD=.cel b xs->a≠b) H' v d0->D.rt v H'
  else ∀v H',(∀a o,H a=ae o->¬Own own σ a->H' a=ae o)->Rep (λa=>Own own σ a\/H a=aj) H' v d->D.rt v H'
theorem kRt.old{D:Ends}(h:kRt own D σ H d)(hx:own rtX=ag):∀v H',(∀a o,H a=ae o->¬Own own σ a->H' a=ae o)->Rep (λa=>Own own σ a\/H a=aj) H' v d->D.rt v H':=by
 unfold kRt at h;rw[az (by rw[hx];simp)] at h;exact h
theorem kRt.mk{D:Ends}(hx:own rtX=ag)(h:∀v H',(∀a o,H a=ae o->¬Own own σ a->H' a=ae o)->Rep (λa=>Own own σ a\/H a=aj) H' v d->D.rt v H'):kRt own D σ H d:=by
 unfold kRt;rw[az (by rw[hx];simp)];exact h
def kS(own:ah->aq)(D:Ends)(σ:L2.St)(H:Hp):Fl->Prop
 |.nx ρ=>∀σ' H',KU own σ H σ' H'->ES own H' σ' ρ->D.nx σ' H'
 |.bk ρ=>∀σ' H',KU own σ H σ' H'->ES own H' σ' ρ->D.bk σ' H'
 |.ct ρ=>∀σ' H',KU own σ H σ' H'->ES own H' σ' ρ->D.ct σ' H'
 |.rt d=>kRt own D σ H d
theorem kS.step{D:Ends}{σ σ':L2.St}{H H':Hp}{fl:Fl}(k:KU own σ H σ' H')(h:kS own D σ H fl):kS own D σ' H' fl:=by
 cases fl with
 |nx ρ=>exact λσ2 H2 k2 e=>h σ2 H2 (k.trans k2) e
 |bk ρ=>exact λσ2 H2 k2 e=>h σ2 H2 (k.trans k2) e
 |ct ρ=>exact λσ2 H2 k2 e=>h σ2 H2 (k.trans k2) e
 |rt d=>
  have old:∀a,(Own own σ' a\/H' a=aj)->Own own σ a\/H a=aj:=λa ha=>by
   cases q:H a with
   |none=>exact .inr rfl
   |some o=>
    refine .inl (Bz λn=>?_);obtain⟨e1,n1⟩:=k a o q n;rcases ha with ha|ha
    ·exact n1 ha
    ·rw[e1] at ha;cases ha
  have h:kRt own D σ H d:=h;show kRt own D σ' H' d;unfold kRt at h ⊢;by_cases hx:own rtX=af
  ·rw[av hx] at h ⊢;obtain⟨d0,ρ',e,g⟩:=h;exact⟨d0,ρ',e,λv σ2 H2 k2 E2 r=>g v σ2 H2 (k.trans k2) E2 (r.mono λa ha=>⟨old a ha.1,ha.2⟩)⟩
  ·rw[az hx] at h ⊢;exact λv H2 hk r=>h v H2 (λa o e n=>let ⟨e1,n1⟩:=k a o e n;hk a o e1 n1) (r.mono λa ha=>old a ha)
noncomputable def tS(own:ah->aq)(f:FS):TS:=λD σ H=>∃ρ fl,ES own H σ ρ/\f ρ=.ok fl/\kS own D σ H fl
theorem PS.imp{st:bE}(h:PS X st t)(i:∀D σ H,t' D σ H->t D σ H):PS X st t':=λΨ s σ H D I q=>h Ψ s σ H D I (i D σ H q)
theorem PSs.imp{st:aa bE}{t t':TS}(h:PSs X st t)(i:∀D σ H,t' D σ H->t D σ H):PSs X st t':=λΨ s σ H D I q=>h Ψ s σ H D I (i D σ H q)
section
variable {X:Cx} {a b c e:Expr} {pos pos':cb} {fe:FE} {re:aq} {gc:FT} {f g:FS} {st:bE} {rest s1 s2:aa bE}
theorem eN:PSs X [] (tS own jM):=PSs.imp aG1 λD σ H z0=>by
 obtain⟨ρ,fl,E,h,q⟩:=z0;cases h;exact q σ H (λa o e n=>⟨e,n⟩) E
theorem aGv{D:Ends}(h:tS own (bI f g) D σ H):aN2 (tS own f) (tS own g) D σ H:=by
 obtain⟨ρ,fl,E,h,q⟩:=h;obtain⟨r,h1,h2⟩:=bL h;refine⟨ρ,r,E,h1,?_⟩;cases r with
 |nx ρ'=>exact λσ' H' k E'=>⟨ρ',fl,E',h2,q.step k⟩
 |bk ρ'=>cases h2;exact q
 |ct ρ'=>cases h2;exact q
 |rt d=>cases h2;exact q
theorem aG(h1:PS X st (tS own f))(h2:PSs X rest (tS own g)):PSs X (st::rest) (tS own (bI f g)):=PSs.imp (TQ h1 h2) λ_ _ _=>aGv
theorem aX(h1:PS X st (tS own f)):PSs X [st] (tS own f):=QK h1
theorem lA(hc:PT X c (gT gc))(ha:PSs X s1 (tS own f))(hb:PSs X s2 (tS own g)):PS X (.If c s1 s2 pos) (tS own (sIf gc f g)):=PS.imp (aIy hc ha hb) λD σ H z0=>by
 obtain⟨ρ,fl,E,h,q⟩:=z0;obtain⟨k,h1,h2⟩:=bL h;refine⟨ρ,k,E.er,h1,λH' s=>?_⟩;cases k with
 |true=>rw[av rfl];rw[av rfl] at h2;exact⟨ρ,fl,E.same s,h2,q.step (.same s)⟩
 |false=>rw[az (by simp)];rw[az (by simp)] at h2;exact⟨ρ,fl,E.same s,h2,q.step (.same s)⟩
theorem eV(he:PE X e (gE fe re))(hx:own rtX=ag:=by rfl):PS X (.Return (ae e) pos) (tS own (uV fe re)):=PS.imp (aEw he) λD σ H z0=>by
 obtain⟨ρ,fl,E,h,q⟩:=z0;obtain⟨d,h1,h2⟩:=bL h;split at h2
 ·rename_i hk;cases h2;refine⟨ρ,d,E.er,h1,λv H' s r n=>q.old hx v H' (λa o e _=>s a o e) ?_⟩;rw[iv] at hk;rcases hk with hk|hk
  ·exact(n hk).mono λa ha=>.inr ha
  ·exact r.bV hk
 ·exact bx h2
theorem vG(ho:own i=af)(hN:X.N[i]?=ae x)(hv:Vis X.env.scope x)(hd:nDb x:=by decide)(hcd:nCd x:=by decide)(hx:own rtX=ag:=by rfl):PS X (.Return (ae (.Name x pos')) pos) (tS own (Q9 i)):=
 PS.imp (aEw (kI hN hv hd hcd)) λD σ H z0=>by
 obtain⟨ρ,fl,E,h,q⟩:=z0;obtain⟨d,h1,h2⟩:=bL h;cases h2;obtain⟨v,hv,r,e⟩:=E.er.var h1;obtain⟨a,o,rfl,r2,hin,_⟩:=E.own i v ho hv;rw[e] at hin;exact⟨_,hv,q.old hx _ H (λa o e _=>e) (r.aLk hin (.inl ⟨i,ho,hv⟩))⟩
theorem nO(ho:own i=ag)(a:al):Own own (σ.set i (ae v)) a↔Own own σ a:=by
 constructor
 ·rintro⟨j,hj,e⟩;have:i≠j:=λz=>by subst z;rw[ho] at hj;cases hj
  rw[en this] at e;exact⟨j,hj,e⟩
 ·rintro⟨j,hj,e⟩;have:i≠j:=λz=>by subst z;rw[ho] at hj;cases hj
  exact⟨j,hj,by rw[en this];exact e⟩
theorem dO{ρ:aa D}:(ρ.set i d).getD j .uD=if i=j/\i<ρ.length then d else ρ.getD j .uD:=by
 rw[dh,dh,wj];by_cases h:i=j
 ·subst h;by_cases h2:i<ρ.length
  ·simp[h2]
  ·simp[h2]
 ·simp[h]
theorem ES.set(E:ES own H σ ρ)(ho:own i=ag)(r:Rep (λa=>¬Own own σ a) H v d):ES own H (σ.set i (ae v)) (ρ.set i d):=by
 have hO:(λa=>¬Own own (σ.set i (ae v)) a)=λa=>¬Own own σ a:=funext λa=>by rw[nO ho]
 refine⟨by simp[E.len],λj hj=>?_,λj w hj hw=>?_⟩
 ·rw[dO] at hj ⊢;rw[hO];by_cases h:i=j/\i<ρ.length
  ·rw[av h];obtain⟨rfl,hl⟩:=h;exact⟨v,by rw[fi (by rw[E.len];exact hl)],λ_=>r⟩
  ·rw[az h] at hj ⊢;obtain⟨w,h1,h2⟩:=E.at_ j hj;by_cases hij:i=j
   ·subst hij;have:i<σ.length:=(d4.mp h1).1;rw[E.len] at this;exact bb ⟨rfl,this⟩ h
   ·exact⟨w,by rw[en hij];exact h1,h2⟩
 ·have hij:i≠j:=λz=>by subst z;rw[ho] at hj;cases hj
  rw[en hij] at hw;rw[dO,az λz=>hij z.1];obtain⟨a,o,h1,h2,h3,h4,h5,h6⟩:=E.own j w hj hw;refine⟨a,o,h1,h2,h3,h4,h5,λk hk hs=>h6 k hk ?_⟩;have hik:i≠k:=λz=>by subst z;rw[ho] at hk;cases hk
  rwa [en hik] at hs
theorem ES.aO9{i:ah}{a:al}{o:HO}{d:D}(E:ES own H σ ρ)(s:cX H H')(ho:own i=af)(hn:H a=aj)(r:Rep All H' (.ref a) d)(hin:inner d=af)(ha:H' a=ae o)(hm:W_ o=af) :
  ES own H' (σ.set i (ae (.ref a))) (ρ.set i d)/\KU own σ H (σ.set i (ae (.ref a))) H':=by
 have hO:∀b,H b≠aj->¬Own own σ b->¬Own own (σ.set i (ae (.ref a))) b:=λb hb n z0=>by
  obtain⟨j,hj,e⟩:=z0;by_cases hij:i=j
  ·subst hij;by_cases hl:i<σ.length
   ·rw[fi hl] at e;cases e;exact hb hn
   ·rw[wj,av rfl,az hl] at e;cases e
  ·rw[en hij] at e;exact n ⟨j,hj,e⟩
 refine⟨⟨by simp[E.len],λj hj=>?_,λj w hj hw=>?_⟩,λb ob e n=>⟨s b ob e,hO b (by rw[e];simp) n⟩⟩
 ·rw[dO] at hj ⊢;by_cases h:i=j/\i<ρ.length
  ·rw[av h];obtain⟨rfl,hl⟩:=h;exact⟨.ref a,by rw[fi (by rw[E.len];exact hl)],λz=>by rw[ho] at z;cases z⟩
  ·rw[az h] at hj ⊢;obtain⟨w,h1,h2⟩:=E.at_ j hj;by_cases hij:i=j
   ·subst hij;have:i<σ.length:=(d4.mp h1).1;rw[E.len] at this;exact bb ⟨rfl,this⟩ h
   ·exact⟨w,by rw[en hij];exact h1,λhj=>((h2 hj).dom.same s).mono λb ⟨n,hb⟩=>hO b hb n⟩
 ·by_cases hij:i=j
  ·subst hij;have hl:i<σ.length:=by
    have:=(d4.mp hw).1;simpa using this
   rw[fi hl] at hw;cases hw;rw[dO,av ⟨rfl,by rw[<-E.len];exact hl⟩];refine⟨a,o,rfl,r,hin,ha,hm,λk hk hs=>?_⟩;by_cases hik:i=k
   ·exact hik.symm
   ·rw[en hik] at hs;obtain⟨o',h1,_⟩:=E.live ⟨k,hk,hs⟩;rw[hn] at h1;cases h1
  ·rw[en hij] at hw;rw[dO,az λz=>hij z.1];obtain⟨b,ob,h1,h2,h3,h4,h5,h6⟩:=E.own j w hj hw;refine⟨b,ob,h1,h2.same s,h3,s _ _ h4,h5,λk hk hs=>?_⟩;by_cases hik:i=k
   ·subst hik;by_cases hl:i<σ.length
    ·rw[fi hl] at hs;cases hs;rw[hn] at h4;cases h4
    ·rw[wj,av rfl,az hl] at hs;cases hs
   ·rw[en hik] at hs;exact h6 k hk hs
theorem aK2(r:Rep P H v d)(hin:inner d=af):∃a o,v=.ref a/\P a/\H a=ae o/\W_ o=af:=by
 cases r with
 |lst e p r=>exact⟨_,_,rfl,p,e,rfl⟩
 |cel e p r=>exact⟨_,_,rfl,p,e,rfl⟩
 |dK e p r n=>exact⟨_,_,rfl,p,e,rfl⟩
 |dT e p r n=>exact⟨_,_,rfl,p,e,rfl⟩
 |dlK e p r n=>exact⟨_,_,rfl,p,e,rfl⟩
 |dlT e p r n=>exact⟨_,_,rfl,p,e,rfl⟩
 |fdK e r n=>cases hin
 |fdT e r n=>cases hin
 |_=>cases hin
theorem aGw(E:ES own H σ ρ)(r:Rep (New H) H' v d):Rep (λa=>¬Own own σ a) H' v d:=r.mono λa ha ho=>by
 obtain⟨o,h1,_⟩:=E.live ho;rw[show H a=aj from ha] at h1;cases h1
theorem HW(ho:own i=o)(h:tS own (b_ o i fe re) D' σ H):aEx (gE fe re) (uW i) D' σ H:=by
 obtain⟨ρ,fl,E,h,q⟩:=h;obtain⟨d,h1,h2⟩:=bL h;cases o with
 |true=>
  simp only[cw] at h2;split at h2
  ·rename_i hk;cases h2;refine⟨ρ,d,E.er,h1,λv H' s r n=>?_⟩;rw[bj] at hk;obtain⟨a,ob,rfl,hn,ha,hm⟩:=aK2 (n hk.1) hk.2;obtain⟨E2,k⟩:=E.aO9 s ho hn r hk.2 ha hm;exact q _ H' k E2
  ·exact bx h2
 |false=>
  simp only[db,cx] at h2;split at h2
  ·rename_i hk;cases h2;refine⟨ρ,d,E.er,h1,λv H' s r n=>?_⟩;rw[iv] at hk;have r2:Rep (λa=>¬Own own σ a) H' v d:=by
    rcases hk with hk|hk
    ·exact aGw E (n hk)
    ·exact r.bV hk
   exact q _ H' (λa ob e hn=>⟨s a ob e,by rw[nO ho];exact hn⟩) ((E.same s).set ho r2)
  ·exact bx h2
theorem aZ(ho:own i=o)(hN:X.N.Nodup)(hi:X.N[i]?=ae x)(hx:Loc X.env.scope x)(he:PE X e (gE fe re))(hs:dL e (ae (.Name x pos')) pos.line X.env=pure ag:=by rfl)(hf:X.fn x=af\/X.env.scope.names.lookup x=ae .local:=by first|exact .inl rfl|exact .inr rfl|assumption) :
  PS X (.Assign [.Name x pos'] e pos) (tS own (b_ o i fe re)):=PS.imp (Y9 hN hi hx he hs hf) λ_ _ _=>HW ho
theorem aOa{i:ah}{x:Str}{o:aq}(he:PE X e (gE fe re))(ho:own i=o:=by rfl)(hN:X.N.Nodup:=by assumption)(hi:X.N[i]?=ae x:=by exact rfl)(hx:Loc X.env.scope x:=by trivial)(hs:dL e (ae (.Name x pos')) pos.line X.env=pure ag:=by rfl)(hf:X.fn x=af\/X.env.scope.names.lookup x=ae .local:=by first|exact .inl rfl|exact .inr rfl|assumption):PS X (.Assign [.Name x pos'] e pos) (tS own (b_ o i fe re)):=aZ ho hN hi hx he hs hf
theorem aMh(ho:own i=ag)(hoj:own j=ag)(hN:X.N.Nodup)(hi:X.N[i]?=ae x)(hx:Loc X.env.scope x)(hj:X.N[j]?=ae y)(hy:Vis X.env.scope y)(hs:dL (.Name y py) (ae (.Name x pos')) pos.line X.env=pure ag:=by rfl)(hf:X.fn x=af\/X.env.scope.names.lookup x=ae .local:=by first|exact .inl rfl|exact .inr rfl|assumption)
 (hd:(y==("__debug__" : Str))=ag:=by decide)(hcd:(y==("__classdict__" : Str))=ag:=by decide):PS X (.Assign [.Name x pos'] (.Name y py) pos) (tS own (sAl i j)):=PS.imp (Y9 hN hi hx (kI hj hy hd hcd) hs hf) λD' σ H z0=>by
 obtain⟨ρ,fl,E,h,q⟩:=z0;obtain⟨d,h1,h2⟩:=bL h;cases h2;obtain⟨v,hv,r,e⟩:=E.er.var h1;have hne:ρ.getD j .uD≠.uD:=λz=>by
  rw[z] at e;subst e;exact Rep.uD r
 obtain⟨w,hw,hr⟩:=E.at_ j hne;rw[hv] at hw;cases hw;have r2:=hr hoj;rw[e] at r2;exact⟨v,hv,q _ H (λa ob e hn=>⟨e,by rw[nO ho];exact hn⟩) (E.set ho r2)⟩
theorem ES.mut{i:ah}{a:al}{o:HO}{d:D}(E:ES own H σ ρ)(ho:own i=af)(hi:σ[i]?=ae (ae (.ref a)))(hm:W_ o=af)(r:Rep All (upd H a o) (.ref a) d)(hin:inner d=af) :
  ES own (upd H a o) σ (ρ.set i d)/\KU own σ H σ (upd H a o):=by
 have hOa:Own own σ a:=⟨i,ho,hi⟩
 obtain⟨a',oa,ea,_,_,hHa,hma,huq⟩:=E.own i _ ho hi;cases ea;have k:KU own σ H σ (upd H a o):=λb ob e n=>⟨by rw[bD (λz=>by subst z;exact n hOa)];exact e,n⟩
 have hl:i<ρ.length:=by rw[<-E.len];exact(d4.mp hi).1
 refine⟨⟨by simp[E.len],λj hj=>?_,λj w hj hw=>?_⟩,k⟩
 ·rw[dO] at hj ⊢;by_cases h:i=j/\i<ρ.length
  ·obtain⟨rfl,_⟩:=h;exact⟨_,hi,λz=>by rw[ho] at z;cases z⟩
  ·rw[az h] at hj ⊢;obtain⟨w,h1,h2⟩:=E.at_ j hj;exact⟨w,h1,λhj=>k.rep E (h2 hj)⟩
 ·by_cases hij:i=j
  ·subst hij;rw[hi] at hw;cases hw;rw[dO,av ⟨rfl,hl⟩];exact⟨a,o,rfl,r,hin,aN,hm,huq⟩
  ·rw[dO,az λz=>hij z.1];obtain⟨b,ob,h1,h2,h3,h4,h5,h6⟩:=E.own j w hj hw;subst h1;have hba:b≠a:=λz=>by subst z;exact hij (h6 i ho hi)
   refine⟨b,ob,rfl,?_,h3,by rw[bD hba];exact h4,h5,h6⟩;refine(h2.aLk (P':=λc=>c=b) h3 rfl).keep (λc oc hc hp=>?_) λ_ _=>trivial
   rw[bD]
   ·exact hc
   ·intro z;subst z;rcases hp with hp|hp
    ·exact hba hp.symm
    ·rw[hHa] at hc;cases hc;rw[hma] at hp;cases hp
theorem ES.ownAt(E:ES own H σ ρ)(ho:own i=af)(hd:ρ.getD i .uD≠.uD):∃a o,σ[i]?=ae (ae (.ref a))/\Rep All H (.ref a) (ρ.getD i .uD)/\inner (ρ.getD i .uD)=af/\H a=ae o/\W_ o=af:=by
 obtain⟨v,h1,_⟩:=E.at_ i hd;obtain⟨a,o,rfl,h2,h3,h4,h5,_⟩:=E.own i v ho h1;exact⟨a,o,h1,h2,h3,h4,h5⟩
theorem aAo{a:al}(r:Rep All H (.ref a) (.lst xs)):∃vs,H a=ae (.lst vs)/\bW All H vs xs:=by
 cases r with
 |lst e _ r=>exact⟨_,e,r⟩
theorem bW.upd{a:al}{xs:aa D}{o:HO}{ob:HO}(r:bW All H vs xs)(hp:θ xs=af)(ha:H a=ae ob)(hm:W_ ob=af):bW All (upd H a o) vs xs:=by
 refine(r.bV (P':=λ_=>cm) hp).keep (λc oc hc h=>?_) λ_ h=>h.elim
 rw[bD]
 ·exact hc
 ·intro z;subst z;rcases h with h|h
  ·exact h
  ·rw[ha] at hc;cases hc;rw[hm] at h;cases h
theorem yL:θ (xs++ys)=(θ xs&&θ ys):=by
 induction xs with
 |nil=>simp[θ]
 |cons x xs ih=>rw[ek,θ,θ,ih,zo]
theorem gQ(ho:own i=af)(hN:X.N[i]?=ae x)(hv:Vis X.env.scope x)(he:PE X e (gE fe re))(hd:nDb x:=by decide)(hcd:nCd x:=by decide)
 (hbase:i8 (.Name x p1) "append" X.env (eval (.Name x p1) X.env)=eval (.Name x p1) X.env:=by rfl)
 (hs1:br [e] X.env=(ag,eval e X.env)::br [] X.env:=by rfl)
 (hfew:((dA cpos (br [e] X.env)).all (λx=>!x.1)&&(mh cpos (mi [] X.env)).all (λx=>x.1.isSome)
  &&ϒ (([e]:aa Expr).length+([]:aa iq).length+(if ([]:aa iq).isEmpty then 0 else 1)<30))=af:=by rfl)
 (hline:(apos.endLine==cpos.line)=af:=by rfl)
 (hs:dL (.Call (.Attribute (.Name x p1) "append" apos) [e] [] cpos) aj pos.line X.env=pure ag:=by rfl) :
  PS X (.Expr (.Call (.Attribute (.Name x p1) "append" apos) [e] [] cpos) pos) (tS own (lJ i fe)):=
 PS.imp (xJ (aD0 wk ym PySem.F.type_list_append KY (kI hN hv hd hcd) (jW he xM hs1) hbase hfew hline hs1 rfl) hs) λD' σ H z0=>by
 obtain⟨ρ,fl,E,h,q⟩:=z0;obtain⟨d,h1,h2⟩:=bL h;split at h2
 ·rename_i xs hx;split at h2
  ·rename_i hk;cases h2;rw[bj] at hk;obtain⟨a,o,hσ,r,hin,ha,hm⟩:=E.ownAt ho (by rw[hx];intro z;cases z);rw[hx] at r hin;obtain⟨vs,hl,rr⟩:=aAo r;refine⟨_,hσ,.inl ⟨rfl,vs,.of hl⟩,ρ,d,E.er,h1,λv H' s rv _=>⟨a,vs,v,rfl,rfl,s _ _ hl,by rw[rr.length];exact aF9 hk.1,?_⟩⟩;have E':=E.same s;have hl':=s _ _ hl;obtain⟨E2,k2⟩:=E'.mut ho hσ rfl (.lst aN trivial (((rr.same s).snoc rv).upd (by rw[yL];simp only[bj];exact⟨hin,by simp[θ,hk.2]⟩) hl' rfl)) (by show θ (xs++[d])=af;rw[yL];simp only[bj];exact⟨hin,by simp[θ,hk.2]⟩);exact q _ _ ((KU.same s).trans k2) E2
  ·exact bx h2
 ·exact bx h2
end
end Mi
namespace L2
open PySem PySem.Spec PyProof.Rows
section
variable {X:Cx} {scope:dS} {own:aa Str}
theorem aDp{y:Str}{py:cb}{iy:ah}(hNn:X.N.Nodup)(hiy:X.N[iy]?=ae y)(hxy:Loc X.env.scope y)(hfy:X.fn y=af\/X.env.scope.names.lookup y=ae .local){Ψ:aa (al×bf)}{σ:St}{D:Ends}{p C:al}{H5:Hp}{s6:ao}{m6:Str->ay ak}(f:Inv X Ψ σ H5 s6)(k:Y_ X Ψ H5 C)(n:s6.heap.Ns C m6)(q:uW iy (.ref p) σ H5 D.nx):k7 (ax X.prog X.w) X.A X.xe (ae (jv (.Name y py) X.env)) (λ_ s'=>SP X Ψ D .next s') (.ref p) C (.ok .next) s6:=by
 obtain⟨oC,esC,epC,hoC,hdC,_⟩:=id n;have finP:=f.QJ (pins':=Ψ++[(C,oC)]) λp hp=>(eJ.mp hp).elim (λz=>f.pin p (eT _ z)) λz=>by
  have z':p=(C,oC):=by simpa using z
  subst z';exact⟨hoC,k.1,k.2.1,k.2.2.1,λv z=>by rw[hdC] at z;cases z⟩
 refine thn (bH (pos:=py) hNn hiy hxy hfy _ _ σ H5 (.ref p) (.ref p) D.nx finP rfl q) λ_ s7 ⟨σ7,H7,I7,q7⟩=>?_
 obtain⟨g7,hC7,_⟩:=I7.pin (C,oC) (eT _ (eT _ (by simp)));refine⟨m6,n.at' λo e=>?_,λh' sb=>⟨σ7,H7,Inv.turned (t':=s7.toks) I7.sV (λb o hb e=>sb.extBut b o hb e) hC7 k.2.1 k.2.2.2.1 k.2.2.2.2.1 k.2.2.2.2.2,q7⟩⟩;rw[hoC] at e;cases e;exact g7
theorem aK3{elt iter tg:Expr}{ifs:aa Expr}{wi:TI}{g:TG}{tc:TT}{te:TE}{pos:cb}(S:cZ X.N X.env.scope scope own)(hcalm:X.calm=af)(hi:PI X tg iter wi)
 (hg:∀X',c7 X X' scope own->PG X' tg g)(hc:(ifs=[]/\tc=λ_ H Q=>Q af H)\/∃c,ifs=[c]/\∀X',c7 X X' scope own->PT X' c tc)(he:∀X',c7 X X' scope own->PE X' elt te)
 (hs:∀x,d6 iter X.env x=pure x){y:Str}{py pos2:cb}{iy:ah}(hNn:X.N.Nodup)(hiy:X.N[iy]?=ae y)(hxy:Loc X.env.scope y)(hfy:X.fn y=af\/X.env.scope.names.lookup y=ae .local)(hsw:dL (.ListComp elt [⟨tg,iter,ifs,0⟩] scope pos) (ae (.Name y py)) pos2.line X.env=pure af):PS X (.Assign [.Name y py] (.ListComp elt [⟨tg,iter,ifs,0⟩] scope pos) pos2) (aEx (RJ wi g tc te own.length) (uW iy)):=by
 intro Ψ s σ H D I h;rw[exec_Assign_Name_used _ _ _ _ hsw];refine aw (wpAny_standAt (aw ?_));show ϑ _ X.A (do let _ <- zm (.ListComp elt [⟨tg,iter,ifs,0⟩] scope pos) scope X.env _ (vx []) ag (eval iter X.env) (ae (jv (.Name y py) X.env))) _ _ s;exact aw (d5 (RK (QQ:=λ_ s'=>SP X Ψ D .next s') S hcalm hi hg hc he hs I h (aDp hNn hiy hxy hfy)) (λ_ s' hq=>bh (bh hq)) λ_ _ e=>e)
theorem aAp{elt iter tg c:Expr}{wi:TI}{g:TG}{tc:TT}{te:TE}{pos:cb}(S:cZ X.N X.env.scope scope own)(hcalm:X.calm=af)(hi:PI X tg iter wi)
 (hg:∀X',c7 X X' scope own->PG X' tg g)(hc:∀X',c7 X X' scope own->PT X' c tc)(he:∀X',c7 X X' scope own->PE X' elt te)
 (hs:∀x,d6 iter X.env x=pure x){y:Str}{py pos2:cb}{iy:ah}(hNn:X.N.Nodup)(hiy:X.N[iy]?=ae y)(hxy:Loc X.env.scope y)(hfy:X.fn y=af\/X.env.scope.names.lookup y=ae .local)(hsw:dL (.ListComp elt [⟨tg,iter,[c],0⟩] scope pos) (ae (.Name y py)) pos2.line X.env=pure af):PS X (.Assign [.Name y py] (.ListComp elt [⟨tg,iter,[c],0⟩] scope pos) pos2) (aEx (RJ wi g tc te own.length) (uW iy)):=
 aK3 S hcalm hi hg (.inr ⟨c,rfl,hc⟩) he hs hNn hiy hxy hfy hsw
theorem VG{elt iter tg:Expr}{wi:TI}{g:TG}{te:TE}{pos:cb}(S:cZ X.N X.env.scope scope own)(hcalm:X.calm=af)(hi:PI X tg iter wi)
 (hg:∀X',c7 X X' scope own->PG X' tg g)(he:∀X',c7 X X' scope own->PE X' elt te)
 (hs:∀x,d6 iter X.env x=pure x){y:Str}{py pos2:cb}{iy:ah}(hNn:X.N.Nodup)(hiy:X.N[iy]?=ae y)(hxy:Loc X.env.scope y)(hfy:X.fn y=af\/X.env.scope.names.lookup y=ae .local)(hsw:dL (.ListComp elt [⟨tg,iter,[],0⟩] scope pos) (ae (.Name y py)) pos2.line X.env=pure af):PS X (.Assign [.Name y py] (.ListComp elt [⟨tg,iter,[],0⟩] scope pos) pos2) (aEx (RJ wi g (λ_ H Q=>Q af H) te own.length) (uW iy)):=
 aK3 S hcalm hi hg (.inl ⟨rfl,rfl⟩) he hs hNn hiy hxy hfy hsw
end
end L2
namespace Mi
open PySem L2 PySem.SeqAt PySem.Spec PyProof.Rows
section
variable [KFrag]
variable {own:ah->aq}
section
variable {X:Cx} {a b c e:Expr} {pos pos':cb} {fa fb fe:FE} {ra re:aq} {gc:FT} {f g:FS} {st:bE} {s1 s2:aa bE}
variable {scope:dS} {ownN:aa Str} {elt iter tg:Expr} {it:FI} {t:D->Res (aa D)} {gt:TG}
theorem aGx(S:cZ X.N X.env.scope scope ownN)(hn:X.N.length=n)(hm:ownN.length=m)(hcalm:X.calm=af)(hi:PI X tg iter (gI X.K it))(ht:TgC gt t n m)(hg:∀X',c7 X X' scope ownN->PG X' tg gt)(he:∀X',c7 X X' scope ownN->PE X' elt (gE fe re))
 (hs:∀x,d6 iter X.env x=pure x)(ho:own iy=o)(hNn:X.N.Nodup)(hiy:X.N[iy]?=ae y)(hxy:Loc X.env.scope y)(hfy:X.fn y=af\/X.env.scope.names.lookup y=ae .local)(hsw:dL (.ListComp elt [⟨tg,iter,[],0⟩] scope pos) (ae (.Name y py)) pos2.line X.env=pure af) :
  PS X (.Assign [.Name y py] (.ListComp elt [⟨tg,iter,[],0⟩] scope pos) pos2) (tS own (b_ o iy (dN n it t jA fe re) af)):=by
 intro Ψ s σ H D I h;subst hm;refine VG S hcalm hi hg he hs hNn hiy hxy hfy hsw Ψ s σ H D I ?_;exact nJ ht (λσ H Q h=>by obtain⟨ρ,b,E,h,q⟩:=h;cases h;exact q H (cX.refl H)) (I.len.trans hn) (HW ho h)
theorem aAq(S:cZ X.N X.env.scope scope ownN)(hn:X.N.length=n)(hm:ownN.length=m)(hcalm:X.calm=af)(hi:PI X tg iter (gI X.K it))(ht:TgC gt t n m)(hg:∀X',c7 X X' scope ownN->PG X' tg gt)(hc:∀X',c7 X X' scope ownN->PT X' c (gT gc))(he:∀X',c7 X X' scope ownN->PE X' elt (gE fe re))
 (hs:∀x,d6 iter X.env x=pure x)(ho:own iy=o)(hNn:X.N.Nodup)(hiy:X.N[iy]?=ae y)(hxy:Loc X.env.scope y)(hfy:X.fn y=af\/X.env.scope.names.lookup y=ae .local)(hsw:dL (.ListComp elt [⟨tg,iter,[c],0⟩] scope pos) (ae (.Name y py)) pos2.line X.env=pure af) :
  PS X (.Assign [.Name y py] (.ListComp elt [⟨tg,iter,[c],0⟩] scope pos) pos2) (tS own (b_ o iy (dN n it t gc fe re) af)):=by
 intro Ψ s σ H D I h;subst hm;refine aAp S hcalm hi hg hc he hs hNn hiy hxy hfy hsw Ψ s σ H D I ?_;exact nJ ht (λσ H Q h=>h) (I.len.trans hn) (HW ho h)
def aGy:V->aa V->Hp->VK->Prop:=λx vs H Q=>∃l xs j y,x=.ref l/\vs=[.int j,y]/\H l=ae (.lst xs)/\0<=j/\j<=xs.length/\xs.length<bq/\Q .non (upd H l (.lst (xs.take j.toNat++y::xs.drop j.toNat)))
theorem aAr:MtR X "list.insert" aGy:=by
 intro Ψ s σ H x vs v us Q I rx rv h;obtain⟨l,xs,j,y,rfl,rfl,hH,h0,h1,hz,q⟩:=h;cases rx;cases rv with
 |cons rj rv=>
  cases rv with
  |cons ry rv=>
   cases rv;obtain⟨tt,rfl⟩:=rj;obtain⟨z,its,n,r,hl,e⟩:=I.aLg hH;have hs:bq=16777216:=fo;refine vd Am ⟨_,e,rfl⟩ F.entry_list_insert (F.args_list_insert_3 _ _ _) (BA l its.toArray n j tt _ (by
    rw[show An j=af from by unfold An;simp only[bj,eD];lia];decide) (by rw[cv];lia)) ⟨e,?_⟩
   refine⟨.non,_,I.aM8 hH e ?_ ((r.take j.toNat).append (.cons ry (r.drop j.toNat))) ?_,rfl,q⟩
   ·have hj:¬j<0:=by lia
    have hm:min j.toNat its.length=j.toNat:=by lia
    simp only[hj,cx,cv,hm];apply kT.mp;simp[List.extract_eq_drop_take]
    first|rfl|(rw[mz];simp)
   ·rw[de,cr,gS,kM];lia
theorem aK4(ho:own i=af)(hN:X.N[i]?=ae x)(hv:Vis X.env.scope x)(ha:PE X a (gE fa ra))(he:PE X e (gE fe re))(hd:nDb x:=by decide)(hcd:nCd x:=by decide)
 (hbase:i8 (.Name x p1) "insert" X.env (eval (.Name x p1) X.env)=eval (.Name x p1) X.env:=by rfl)
 (hs0:br [a,e] X.env=(ag,eval a X.env)::br [e] X.env:=by rfl)(hs1:br [e] X.env=(ag,eval e X.env)::br [] X.env:=by rfl)
 (hfew:((dA cpos (br [a,e] X.env)).all (λx=>!x.1)&&(mh cpos (mi [] X.env)).all (λx=>x.1.isSome)
  &&ϒ (([a,e]:aa Expr).length+([]:aa iq).length+(if ([]:aa iq).isEmpty then 0 else 1)<30))=af:=by rfl)
 (hline:(apos.endLine==cpos.line)=af:=by rfl)(hpl:(dA cpos (br [e] X.env)).any (·.1)=ag:=by rfl)
 (hs:dL (.Call (.Attribute (.Name x p1) "insert" apos) [a,e] [] cpos) aj pos.line X.env=pure ag:=by rfl) :
  PS X (.Expr (.Call (.Attribute (.Name x p1) "insert" apos) [a,e] [] cpos) pos) (tS own (aJq i fa fe)):=
 PS.imp (xJ (aD0 wk Am PySem.F.type_list_insert aAr (kI hN hv hd hcd) (jW ha (jW he xM hs1) hs0) hbase hfew hline hs0 hpl) hs) λD' σ H z0=>by
 obtain⟨ρ,fl,E,h,q⟩:=z0;obtain⟨j,h0,h⟩:=bL h;obtain⟨d,h1,h2⟩:=bL h;split at h2
 ·rename_i xs jj hx;split at h2
  ·rename_i hk;cases h2;simp only[bj,eD] at hk;obtain⟨⟨⟨hk1,hk2⟩,hk3⟩,hk4⟩:=hk;obtain⟨a,o,hσ,r,hin,ha,hm⟩:=E.ownAt ho (by rw[hx];intro z;cases z);rw[hx] at r hin;obtain⟨vs,hl,rr⟩:=aAo r;refine⟨_,hσ,.inl ⟨rfl,vs,.of hl⟩,ρ,_,E.er,h0,λv0 H0 s0 rv0 _=>⟨ρ,d,E.er.same s0,h1,λv H' s rv _=>?_⟩⟩;cases rv0.inv;have s':=s0.trans s;refine⟨a,vs,jj,v,rfl,rfl,s' _ _ hl,hk3,by rw[rr.length];exact hk4,by rw[rr.length];exact dz hk1 (by rw[fo];decide),?_⟩;have E':=E.same s';have hl':=s' _ _ hl;have hin':θ xs=af:=hin;have hp:θ (xs.take jj.toNat++d::xs.drop jj.toNat)=af:=jK.mpr λy hy=>by
    rcases eJ.mp hy with hy|hy
    ·exact jK.mp hin' y (Ao hy)
    ·rcases bX.mp hy with rfl|hy
     ·exact hk2
     ·exact jK.mp hin' y (yA hy)
   have rr':=rr.same s';obtain⟨E2,k2⟩:=E'.mut ho hσ rfl (.lst aN trivial (((rr'.take jj.toNat).append (.cons rv (rr'.drop jj.toNat))).upd hp hl' rfl)) hp;exact q _ _ ((KU.same s').trans k2) E2
  ·exact bx h2
 ·exact bx h2
theorem VH[gw κ]{k:κ}{v:V}(e:p.1=k)(h:k∉r.map (·.1)):putK (p::r) k v=(k,v)::r:=by
 unfold putK;rw[av (by simp[e]),bw,av e,e]
 congr 1
 have:∀q∈r,(λkv:κ×V=>if kv.1=k then (kv.1,v) else kv) q=id q:=λq hq=>by
  have:q.1≠k:=λz=>h (cS.mpr ⟨q,hq,z⟩)
  simp[this]
 rw[lb this,nh]
theorem VJ[gw κ]{k:κ}{v:V}(e:¬p.1=k):putK (p::r) k v=p::putK r k v:=by
 unfold putK;rw[ki,dq e,vg];split
 ·rw[bw,az e]
 ·rfl
theorem uH[gw κ]:∀{kvs:aa (κ×V)},(kvs.map (·.1)).Nodup->((putK kvs k v).map (·.1)).Nodup:=λ{kvs} h=>by
 by_cases hk:xO kvs k=aj
 ·exact aGe v h hk
 ·unfold putK;rw[av (by rw[sZ];exact Option.isSome_iff_ne_none.mpr hk),gf];have:(λx:κ×V=>x.1) ∘ (λkv:κ×V=>if kv.1=k then (kv.1,v) else kv)=λx=>x.1:=by
   funext q
   simp only[BB];split<;>rfl
  rw[this];exact h
theorem HX(rv:Rep P H v d):∀{kvs:aa (Key×V)}{ds:aa (D×D)},kE P H kvs ds->(kvs.map (·.1)).Nodup->kE P H (putK kvs k v) (putD ds (kD k) d)
 |_,_,.nil,_=>.cons rv .nil
 |_,_,.cons (k:=k') (v:=v') r t,hn=>by
  rw[bw] at hn;obtain⟨h1,h2⟩:=eR.mp hn;rw[putD,aAf];by_cases h:k'=k
  ·subst h;rw[av (by simp),VH rfl h1];exact .cons rv t
  ·rw[az (by simpa using h),VJ h];exact .cons r (HX rv t h2)
theorem HY(rv:Rep P H v d):∀{kvs:aa (aa Key×V)}{ds:aa (D×D)},sO P H kvs ds->(kvs.map (·.1)).Nodup->sO P H (putK kvs k v) (putD ds (.tup (k.map kD)) d)
 |_,_,.nil,_=>.cons rv .nil
 |_,_,.cons (k:=k') (v:=v') r t,hn=>by
  rw[bw] at hn;obtain⟨h1,h2⟩:=eR.mp hn;rw[putD,aGo];by_cases h:k'=k
  ·subst h;rw[av (by simp),VH rfl h1];exact .cons rv t
  ·rw[az (by simpa using h),VJ h];exact .cons r (HY rv t h2)
theorem kE.length:∀{kvs:aa (Key×V)}{ds:aa (D×D)},kE P H kvs ds->kvs.length=ds.length
 |_,_,.nil=>rfl
 |_,_,.cons _ t=>by rw[cr,cr,kE.length t]
theorem sO.length:∀{kvs:aa (aa Key×V)}{ds:aa (D×D)},sO P H kvs ds->kvs.length=ds.length
 |_,_,.nil=>rfl
 |_,_,.cons _ t=>by rw[cr,cr,sO.length t]
theorem yM{a:al}(ha:H a=ae ob)(hm:W_ ob=af):J_ (λ_=>cm) H (L2.upd H a o):=λc oc hc h=>by
 rw[bD]
 ·exact hc
 ·intro z;subst z;rcases h with h|h
  ·exact h.elim
  ·rw[ha] at hc;cases hc;rw[hm] at h;cases h
theorem CW(hd:d.pure=af):∀{ds:aa (D×D)},θ (ds.map (·.2))=af->θ ((putD ds k d).map (·.2))=af
 |[],_=>by simp[putD,θ,hd]
 | (q,w)::r,h=>by
  rw[bw,θ,bj] at h;rw[putD];split
  ·rw[bw,θ,bj];exact⟨hd,h.2⟩
  ·rw[bw,θ,bj];exact⟨h.1,CW hd h.2⟩
theorem aMi{ad:al}{y v:V}{ds:aa (D×D)}{k d:D}(I:Inv X Ψ σ H s)(rd:Rep All H (.ref ad) (.dct ds))(hin:θ (ds.map (·.2))=af)(rk:Rep All H y k)(hk:zT ds k=af)(hl:ds.length<bq)(rv:Rep All H v d)(hd:d.pure=af) :
  ∃H1 o,Inv X Ψ σ H1 s/\aF0 H1 ad y v (L2.upd H ad o)/\W_ o=af/\Rep All (L2.upd H ad o) (.ref ad) (.dct (putD ds k d)):=by
 unfold zT at hk;rw[bj] at hk;obtain⟨h1,h2⟩:=hk;have rv':Rep (λ_=>cm) H v d:=rv.bV hd;cases rd with
 |@dK _ kvs ds e _ r n=>
  have hlen:=r.length;rcases kY h1 rk with ⟨q,rfl,rfl⟩|⟨b,ks,rfl,eb,rfl⟩
  ·refine⟨H,.dK (putK kvs q v),I,.k e (by lia),rfl,.dK aN trivial ?_ (uH n)⟩;exact(HX rv' (r.bV hin) n).keep (yM e rfl) λ_ z=>z.elim
  ·cases r with
   |nil=>
    refine⟨L2.upd H ad (.dT []),.dT (putK [] ks v),oM I e,?_,rfl,.dT aN trivial ?_ (uH hZ)⟩
    ·have:=aF0.t (H:=L2.upd H ad (.dT [])) (a:=ad) (b:=b) (kvs:=[]) (k:=ks) (v:=v) aN (by rw[bD (aFx eb e (by intro z;cases z))];exact eb) hl;rwa [QG] at this
    ·exact(HY (k:=ks) rv' .nil hZ).keep (yM e rfl) λ_ z=>z.elim
   |cons r t=>
    rw[hI,lY] at h2;simp[isTup] at h2
 |@dT _ kvs ds e _ r n=>
  have hlen:=r.length;rcases kY h1 rk with ⟨q,rfl,rfl⟩|⟨b,ks,rfl,eb,rfl⟩
  ·cases r with
   |nil=>
    refine⟨L2.upd H ad (.dK []),.dK (putK [] q v),k_ I e,?_,rfl,.dK aN trivial ?_ (uH hZ)⟩
    ·have:=aF0.k (H:=L2.upd H ad (.dK [])) (a:=ad) (kvs:=[]) (k:=q) (v:=v) aN hl;rwa [QG] at this
    ·exact(HX (k:=q) rv' .nil hZ).keep (yM e rfl) λ_ z=>z.elim
   |cons r t=>
    rw[hI,lY] at h2;simp[isTup] at h2
  ·refine⟨H,.dT (putK kvs ks v),I,.t e eb (by lia),rfl,.dT aN trivial ?_ (uH n)⟩;exact(HY rv' (r.bV hin) n).keep (yM e rfl) λ_ z=>z.elim
theorem aAs(hu:X.A.units+20<b9)(ho:own i=af)(hN:X.N[i]?=ae x)(hvi:Vis X.env.scope x)(hk:PE X k (gE fk rk))(hv:PE X value (gE fv rv))
 (hs:dL value (ae (.Subscript (.Name x p1) k pos')) pos.line X.env=pure ag:=by rfl)(hd:nDb x:=by decide)(hcd:nCd x:=by decide) :
  PS X (.Assign [.Subscript (.Name x p1) k pos'] value pos) (tS own (aDd i fk fv)):=by
 rintro Ψ s σ H D' I ⟨ρ,fl,E,h,q⟩;obtain⟨d,h0,h⟩:=bL h;obtain⟨kd,h1,h2⟩:=bL h;split at h2
 ·rename_i kvs hx;split at h2
  ·rename_i hg;cases h2;simp only[bj] at hg;obtain⟨⟨hg1,hg2⟩,hg3⟩:=hg;obtain⟨a,o,hσ,r,hin,ha,hm⟩:=E.ownAt ho (by rw[hx];intro z;cases z);rw[hx] at r hin;refine wpAny_Assign_Subscript (thn (hv Ψ s σ H (λv H1=>cX H H1/\Rep All H1 v d) I ⟨ρ,d,E.er,h0,λv H1 s1 r1 _=>⟨s1,r1⟩⟩) λrr s1 ⟨v,H1,I1,rv1,sm1,rp1⟩=>
    thn (kI hN hvi hd hcd Ψ s1 σ H1 (λw H2=>w=.ref a/\H2=H1) I1 ⟨_,hσ,rfl,rfl⟩) λu s2 ⟨xx,H2,I2,rx,ex,eH⟩=>
    thn (hk Ψ s2 σ H2 (λw H3=>cX H2 H3/\Rep All H3 w kd) I2 ⟨ρ,kd,by rw[eH];exact E.er.same sm1,h1,λv H1 s1 r1 _=>⟨s1,r1⟩⟩) λiv s3 ⟨y,H3,I3,ry,sm3,rp3⟩=>?_) hs
   subst ex eH;obtain rfl:u=ff a:=rx;have sm:=sm1.trans sm3;obtain⟨H4,o4,I4,g,hmo,rp⟩:=aMi I3 (r.same sm) hin rp3 hg2 (aF9 hg1) (rp1.same sm3) hg3;obtain⟨E2,k2⟩:=(E.same sm).mut ho hσ hmo rp (CW hg3 hin);exact ZZ (by lia) I4 g ry rv1 λs4 I5=>⟨σ,_,I5,q _ _ ((KU.same sm).trans k2) E2⟩
  ·exact bx h2
 ·exact bx h2
def TgS(own:ah->aq)(g:TG)(t:D->aa D->Res (aa D)):Prop:=∀(v:V)(d:D)(ρ ρ':aa D)(σ:L2.St)(H:Hp)(Q:L2.St->Hp->Prop),ES own H σ ρ->Rep (λa=>¬Own own σ a) H v d->t d ρ=.ok ρ'->
 (∀σ',ES own H σ' ρ'->(∀a,Own own σ' a↔Own own σ a)->Q σ' H)->g v σ H Q
theorem iG(ho:own i=ag):TgS own (uW i) (tg1 i):=λv d ρ ρ' σ H Q E r h q=>by
 cases h;exact q _ (E.set ho r) λa=>nO ho a
theorem ES.sets:∀{is:aa ah}{vs:aa V}{ds:aa D}{σ:L2.St}{ρ:aa D},(∀i∈is,own i=ag)->ES own H σ ρ->bW (λa=>¬Own own σ a) H vs ds->ES own H (nM is vs σ) (aA1 is ds ρ)/\∀a,Own own (nM is vs σ) a↔Own own σ a
 |[],_,_,_,_,_,E,_=>by simp only[nM,aA1];exact⟨E,λ_=>trivial⟩
 |i::is,_,_,σ,ρ,h,E,.nil=>by simp only[nM,aA1];exact⟨E,λ_=>trivial⟩
 |i::is,_,_,σ,ρ,h,E,.cons (v:=v) r t=>by
  have ho:=h i (cu ..);have hO:(λa=>¬Own own (σ.set i (ae v)) a)=λa=>¬Own own σ a:=funext λa=>by rw[nO ho]
  obtain⟨h1,h2⟩:=ES.sets (λj hj=>h j (b6 _ hj)) (E.set ho r) (by rw[hO];exact t);exact⟨h1,λa=>(h2 a).trans (nO ho a)⟩
theorem vH(K:bz)(ho:∀i∈is,own i=ag):TgS own (aLx K is.length (gIx is)) (tgN is):=λv d ρ ρ' σ H Q E r h q=>by
 cases d<;>simp only[tgN] at h<;>(try (exact bx h;done))
 split at h
 ·rename_i hl;cases h;have hl':=ft hl;obtain⟨a,xs,rfl,e,rr⟩:=r.iD;obtain⟨h1,h2⟩:=E.sets ho rr;exact⟨a,xs,rfl,.of e,by rw[rr.length];exact hl',RV _ _ _ (by rw[rr.length];exact hl') (q _ h1 h2)⟩
 ·exact bx h
theorem ItQ.ku{K:bz}(h:ItQ K (λa=>¬Own own σ a) J H items)(k:KU own σ H σ' H')(E:ES own H σ ρ):ItQ K (λa=>¬Own own σ' a) J H' items:=h.keep' (k.keep E) λa o e n=>(k a o e n).2
theorem VL{K:bz}{g:TG}{t:D->aa D->Res (aa D)}{body:FS}{D':Ends}{J:It}{items:aa D}{σ:L2.St}{H1:Hp}{ρ:aa D}{fl:Fl}(tg:TgS own g t)(E:ES own H1 σ ρ)(hJ:ItQ K (λa=>¬Own own σ a) J H1 items)(hf:lW t body items ρ=.ok fl)(q:kS own D' σ H1 fl) :
  ∃W:ah->ah->L2.St->Hp->Prop,(∃m,W 0 m σ H1)/\∀i m σ H,W i m σ H->
   (J.stop i H/\D'.nx σ H)\/(J.go i H/\∃N:L2.St->Hp->Prop,(∀σ' H',N σ' H'->∃m',m'<m/\W (i+1) m' σ' H')/\∀x H',J.yld i H x H'->g x σ H' λσ2 H2=>tS own body {D' with nx:=N,ct:=N,bk:=D'.nx} σ2 H2):=by
 refine⟨λi m σ' H'=>m=items.length-i/\i<=items.length/\ItQ K (λa=>¬Own own σ' a) J H' items/\∃ρ',ES own H' σ' ρ'/\lW t body (items.drop i) ρ'=.ok fl/\kS own D' σ' H' fl,⟨items.length,rfl,eS _,hJ,ρ,E,hf,q⟩,?_⟩;rintro i m σ' H' ⟨rfl,hi,hJ',ρ',E',hf',q'⟩;rcases mP i items.length with hlt|hge
 ·refine .inr ?_;have e:items[i]?=ae items[i]:=dP hlt;obtain⟨g1,g2⟩:=hJ'.go e;rw[gq hlt] at hf';obtain⟨ρ1,h1,hf2⟩:=bL hf';obtain⟨r,h2,hf3⟩:=bL hf2;refine⟨g1,λσ2 H2=>ItQ K (λa=>¬Own own σ2 a) J H2 items/\∃ρ',ES own H2 σ2 ρ'/\lW t body (items.drop (i+1)) ρ'=.ok fl/\kS own D' σ2 H2 fl,λσ2 H2 ⟨n1,n2⟩=>⟨items.length-(i+1),by lia,rfl,hlt,n1,n2⟩,λx H2 hy=>?_⟩;obtain⟨sH,rx⟩:=g2 x H2 hy;have ks:KU own σ' H' σ' H2:=λa o e n=>⟨sH a o e,n⟩
  have hJ':=hJ'.ku ks E';have q':=q'.step ks;have E':=E'.same sH;refine tg x items[i] ρ' ρ1 σ' H2 _ E' rx h1 λσ2 E2 hO=>?_
  have k0:KU own σ' H2 σ2 H2:=λa o e n=>⟨e,by rw[hO];exact n⟩
  have hJ2:=hJ'.ku k0 E';have q2:=q'.step k0;refine⟨ρ1,r,E2,h2,?_⟩;cases r with
  |nx ρ2=>exact λσ3 H3 k3 E3=>⟨hJ2.ku k3 E2,ρ2,E3,hf3,q2.step k3⟩
  |ct ρ2=>exact λσ3 H3 k3 E3=>⟨hJ2.ku k3 E2,ρ2,E3,hf3,q2.step k3⟩
  |bk ρ2=>cases hf3;exact λσ3 H3 k3 E3=>q2 σ3 H3 k3 E3
  |rt d=>cases hf3;exact q2
 ·refine .inl ⟨hJ'.stop hge,?_⟩;rw[oS hge] at hf';cases hf';exact q' σ' H' (λa o e n=>⟨e,n⟩) E'
theorem nP{tg iter:Expr}{body:aa bE}{g:TG}{t:D->aa D->Res (aa D)}{it:FI}{fb:FS}(hp:nq (ax X.prog X.w) X.A X.env X.xe)(hc:X.calm=af)(hi:PI X tg iter (gI X.K it))(ht:TgS own g t)(hg:PG X tg g)(hb:PSs X body (tS own fb))
 (hs:∀x,d6 iter X.env x=pure x:=by intro _;rfl):PS X (.For tg iter body [] pos) (tS own (Q_ it t fb)):=PS.imp (TV hp hc hi hg hb hs) λD' σ H z0=>by
 obtain⟨ρ,fl,E,h,q⟩:=z0;obtain⟨⟨items,k⟩,h1,h2⟩:=bL h;split at h2
 ·rename_i hk;exact⟨ρ,items,k,E.er,h1,λJ H1 s1 _ hJ=>VL ht (E.same s1) ((hJ hk).keep (λ_ _ e _=>e) λa ha ho=>by
   obtain⟨o,e1,_⟩:=E.live ho;rw[show H a=aj from ha] at e1;cases e1) h2 (q.step (.same s1))⟩
 ·exact bx h2
theorem aAt{g:TG}{t:D->aa D->Res (aa D)}{i:ah}{x:Str}{px:cb}{fb:FS}(hK:KFrag.K=X.K)(ho:own i=ag)(hp:nq (ax X.prog X.w) X.A X.env X.xe)(hc:X.calm=af)(hN:X.N[i]?=ae x)(hv:Vis X.env.scope x)(ht:TgS own g t)(hg:PG X tg g)(hb:PSs X body (tS own fb))
 (hs:∀z,d6 (.Name x px) X.env z=pure z:=by intro _;rfl)(hd:nDb x:=by decide)(hcd:nCd x:=by decide):PS X (.For tg (.Name x px) body [] pos) (tS own (uC i t fb)):=PS.imp (TV hp hc (aFd hK hN hv hd hcd) hg hb hs) λD' σ H z0=>by
 obtain⟨ρ,fl,E,h,q⟩:=z0;obtain⟨d,h1,h⟩:=bL h;obtain⟨items,h2,h3⟩:=bL h;obtain⟨v,hv,r,e⟩:=E.er.var h1;have hne:ρ.getD i .uD≠.uD:=λz=>by
  rw[z] at e;subst e;exact Rep.uD r
 obtain⟨w,hw,hr⟩:=E.at_ i hne;rw[hv] at hw;cases hw;have r2:=hr ho;rw[e] at r2;exact⟨v,d,items,hv,r,h2,λJ hJ=>VL ht E (hJ _ r2) h3 q⟩
theorem H_{N ps:aa Str}(hst:start N vs=vs.map ae++ck (N.length-ps.length) aj)(hl:ds.length=ps.length)(r:bW All H vs ds)(hown:∀i,i<ps.length->own i=ag)(noown:∀a,¬Own own (start N vs) a):ES own H (start N vs) (ds++ck (N.length-ps.length) .uD):=by
 refine⟨by rw[hst];simp[r.length],λi hi=>?_,λi v hi hv=>?_⟩
 ·have hlt:i<ds.length:=Nat.lt_of_not_le λhge=>hi (by
   rw[dh,eL hge,io];split<;>rfl)
  have e:(ds++ck (N.length-ps.length) D.uD).getD i .uD=ds[i]:=by
   rw[dh,ip hlt,dP hlt];rfl
  obtain⟨v,g1,g2⟩:=r.get (i:=i) (d:=ds[i]) (by simp[hlt]);refine⟨v,by rw[hst,ip (by simp[r.length,hlt])];simp[g1],λ_=>?_⟩;rw[e];exact g2.mono λa _=>noown a
 ·exfalso;rw[hst] at hv;by_cases h:i<ps.length
  ·rw[hown i h] at hi;cases hi
  ·rw[eL (by simp[r.length,hl];lia)] at hv;rw[io] at hv;split at hv<;>cases hv
theorem RW{N ps:aa Str}{f:FS}{vs:aa V}{H:Hp}{Q:VK}{E:XK}(hx:own rtX=ag)(hown:∀i,i<ps.length->own i=ag)(h0:spD (fnS ps.length N.length f) ps.length vs H Q E):tS own f {nx:=λ_ H'=>Q .non H',rt:=Q} (start N vs) H:=by
 obtain⟨ds,d,hl,r,h,q⟩:=h0
 ·obtain⟨fl,h1,h2⟩:=bL h;have hst:start N vs=vs.map ae++ck (N.length-ps.length) aj:=by
   show vs.map ae++ck (N.length-vs.length) aj=_;rw[r.length,hl]
  have noown:∀a,¬Own own (start N vs) a:=λa z0=>by
   obtain⟨i,hi,e⟩:=z0;rw[hst] at e;by_cases h:i<ps.length
   ·rw[hown i h] at hi;cases hi
   ·rw[eL (by simp[r.length,hl];lia)] at e;rw[io] at e;split at e<;>cases e
  have E0:ES own H (start N vs) (ds++ck (N.length-ps.length) .uD):=H_ hst hl r hown noown;refine⟨_,fl,E0,h1,?_⟩;have sm:∀{σ':L2.St}{H':Hp},KU own (start N vs) H σ' H'->cX H H':=λk a o e=>(k a o e (noown a)).1
  cases fl with
  |nx ρ'=>cases h2;exact λσ' H' k E'=>q .non H' (sm k) .non λ_=>.non
  |rt d'=>
   cases h2;refine kRt.mk hx λv H' hk rp=>q v H' (λa o e=>hk a o e (noown a)) rp.all λ_=>rp.mono λa ha=>?_
   rcases ha with ha|ha
   ·exact bb ha (noown a)
   ·exact ha
  |bk ρ'=>exact bx h2
  |ct ρ'=>exact bx h2
theorem aK5{w:bo}{K:bz}{mg:Str->ay ak}{base:aS}{x qual:Str}{st:bE}{fad:al}{fd:eo}{N ps:aa Str}{k:ah}{f:FS}(F:Fun K x qual st fad fd)(S:cA N ps (aP st))(own:ah->aq)(hown:∀i,i<ps.length->own i=ag)(hNl:ps.length<=N.length)
 (hbody:∀(cdv:ak) (A:bP) (outer:aa c5) (s:ao) (H:Hp) (E:XK),uR k (A.deeper (dj qual (aP st) s.heap.objs.size fad cdv))->PSs (v4 CX0 P w K mg base N qual (aP st) fad cdv A outer s H E).nox (gK st) (tS own f))(hx:own rtX=ag:=by rfl):TX P w K mg base CX0 (k+1) fad fd ps (spD (fnS ps.length N.length f) ps.length):=
 F.ok S (λvs H Q E h=>aGs h) λcdv A outer s H vs Q E hr h=>⟨_,hbody cdv A outer s H E hr,RW hx hown h⟩
end
end
variable [KFrag]
structure aMj where
 s₀:ao
 H₀:Hp
 env:c5
 outer:aa c5
 stack:aa c5
 ex:aa al
 fn:Str->aq
 pn:aa (al×bf)
abbrev mkC(X:Cx)(scope:dS)(ownN:aa Str)(y:aMj):Cx:=
 {X with N:=X.N.map (jN ownN)++ownN,s₀:=y.s₀,H₀:=y.H₀,env:={y.env with scope:=ix scope X.env},outer:=y.outer,stack:=y.stack,ex:=y.ex,fn:=y.fn,pn:=y.pn,xe:=λ_ _=>cm}
theorem jQ(cc:c7 X X' scope ownN):∃y,X'=mkC X scope ownN y:=by
 refine⟨⟨X'.s₀,X'.H₀,X'.env,X'.outer,X'.stack,X'.ex,X'.fn,X'.pn⟩,?_⟩;obtain⟨h1,h2,h3,h4,h5,h6,h7,h8,h9,h10⟩:=cc;cases X' with
 |mk a b c d e f g h i j k l m n o p q=>
  cases j;dsimp only at *;subst h1 h2 h3 h4 h5 h6 h7 h8 h9 h10;rfl
section
theorem VM(S:cZ X.N X.env.scope scope ownN)(hn:X.N.length=n)(hm:ownN.length=m)(hcalm:X.calm=af)(hi:PI X tg iter (gI X.K it))(ht:TgC g t n m)(hg:∀y,PG (mkC X scope ownN y) tg g)(he:∀y,PE (mkC X scope ownN y) elt (gE fe re))
 (hs:∀x,d6 iter X.env x=pure x):PE X (.ListComp elt [⟨tg,iter,[],0⟩] scope pos) (gE (dN n it t jA fe re) af):=
 aGu S hn hm hcalm hi ht (λX' cc=>by obtain⟨y,rfl⟩:=jQ cc;exact hg y) (λX' cc=>by obtain⟨y,rfl⟩:=jQ cc;exact he y) hs
theorem XN(S:cZ X.N X.env.scope scope ownN)(hn:X.N.length=n)(hm:ownN.length=m)(hcalm:X.calm=af)(hi:PI X tg iter (gI X.K it))(ht:TgC g t n m)(hg:∀y,PG (mkC X scope ownN y) tg g)(hc:∀y,PT (mkC X scope ownN y) c (gT gc))(he:∀y,PE (mkC X scope ownN y) elt (gE fe re))
 (hs:∀x,d6 iter X.env x=pure x):PE X (.ListComp elt [⟨tg,iter,[c],0⟩] scope pos) (gE (dN n it t gc fe re) af):=
 aAn S hn hm hcalm hi ht (λX' cc=>by obtain⟨y,rfl⟩:=jQ cc;exact hg y) (λX' cc=>by obtain⟨y,rfl⟩:=jQ cc;exact hc y) (λX' cc=>by obtain⟨y,rfl⟩:=jQ cc;exact he y) hs
theorem aDq(S:cZ X.N X.env.scope scope ownN)(hn:X.N.length=n)(hm:ownN.length=m)(hcalm:X.calm=af)(hi:PI X tg iter (gI X.K it))(ht:TgC g t n m)(hg:∀y,PG (mkC X scope ownN y) tg g)(he:∀y,PE (mkC X scope ownN y) elt (gE fe re))
 (hs:∀x,d6 iter X.env x=pure x)(ho:own iy=o)(hNn:X.N.Nodup)(hiy:X.N[iy]?=ae y)(hxy:Loc X.env.scope y)(hfy:X.fn y=af\/X.env.scope.names.lookup y=ae .local)(hsw:dL (.ListComp elt [⟨tg,iter,[],0⟩] scope pos) (ae (.Name y py)) pos2.line X.env=pure af) :
  PS X (.Assign [.Name y py] (.ListComp elt [⟨tg,iter,[],0⟩] scope pos) pos2) (tS own (b_ o iy (dN n it t jA fe re) af)):=
 aGx S hn hm hcalm hi ht (λX' cc=>by obtain⟨y,rfl⟩:=jQ cc;exact hg y) (λX' cc=>by obtain⟨y,rfl⟩:=jQ cc;exact he y) hs ho hNn hiy hxy hfy hsw
theorem lB(S:cZ X.N X.env.scope scope ownN)(hn:X.N.length=n)(hm:ownN.length=m)(hcalm:X.calm=af)(hi:PI X tg iter (gI X.K it))(ht:TgC g t n m)(hg:∀y,PG (mkC X scope ownN y) tg g)(hc:∀y,PT (mkC X scope ownN y) c (gT gc))(he:∀y,PE (mkC X scope ownN y) elt (gE fe re))
 (hs:∀x,d6 iter X.env x=pure x)(ho:own iy=o)(hNn:X.N.Nodup)(hiy:X.N[iy]?=ae y)(hxy:Loc X.env.scope y)(hfy:X.fn y=af\/X.env.scope.names.lookup y=ae .local)(hsw:dL (.ListComp elt [⟨tg,iter,[c],0⟩] scope pos) (ae (.Name y py)) pos2.line X.env=pure af) :
  PS X (.Assign [.Name y py] (.ListComp elt [⟨tg,iter,[c],0⟩] scope pos) pos2) (tS own (b_ o iy (dN n it t gc fe re) af)):=
 aAq S hn hm hcalm hi ht (λX' cc=>by obtain⟨y,rfl⟩:=jQ cc;exact hg y) (λX' cc=>by obtain⟨y,rfl⟩:=jQ cc;exact hc y) (λX' cc=>by obtain⟨y,rfl⟩:=jQ cc;exact he y) hs ho hNn hiy hxy hfy hsw
end
def dC(P:bu)(w:bo)(K:bz)(mg:Str->ay ak)(base:aS)(k:ah)(x:Str)(n:ah)(f:aa D->Res D):Prop:=
 ∃(fad:al)(fd:eo)(ps:aa Str),TX P w K mg base CX0 k fad fd ps (spD f n)/\mg x=ae (.ref fad)/\jz K (.ref fad)=af/\Binds K fd ps []
section
theorem bA(C:dC X.prog X.w X.K X.mg X.base k x n f)(hr:uR k' X.A)(hkk:k<=k')(hg:Gl X x)(ha:PA X (e::es) (gA fs rr))(hdb:nDb x:=by decide)(he:br (e::es) X.env=(ag,eval e X.env)::br es X.env:=by rfl)(hpl:(dA pos (br es X.env)).any (·.1)=ag:=by rfl) :
  PE X (.Call (.Name x p) (e::es) [] pos) (gE (aL (cF n f) fs) af):=by
 obtain⟨fad,fd,ps,F,hm,hk,hb⟩:=C;exact aGt F (hr.mono hkk) hg hm hk hb ha hdb he hpl
theorem iW{K:bz}{st:bE}{fad:al}{fd:eo}{N ps:aa Str}{fs:FS}(F:Fun K x x st fad fd)(hm:mg x=ae (.ref fad))(hb:Binds K fd ps [])(S:cA N ps (aP st))(own:ah->aq)(hown:∀i,i<ps.length->own i=ag)(hNl:ps.length<=N.length)
 (hbody:∀(cdv:ak) (A:bP) (outer:aa c5) (s:ao) (H:Hp) (E:XK),uR k (A.deeper (dj x (aP st) s.heap.objs.size fad cdv))->PSs (v4 CX0 P w K mg base N x (aP st) fad cdv A outer s H E).nox (gK st) (tS own fs))(hx:own rtX=ag:=by rfl):dC P w K mg base (k+1) x ps.length (fnS ps.length N.length fs):=
 ⟨fad,fd,ps,aK5 F S own hown hNl hbody hx,hm,F.kp,hb⟩
end
theorem z7(hr:uR k A):A.units+20<b9:=Ak (Nat.add_le_add_left (by decide:20<=64) _) hr.units
structure Bt(mg:Str->ay ak):Prop where
 len:mg "len"=aj
 min:mg "min"=aj
 max:mg "max"=aj
 list:mg "list"=aj
 tuple:mg "tuple"=aj
 sorted:mg "sorted"=aj
 range:mg "range"=aj
 isi:mg "isinstance"=aj
 int:mg "int"=aj
 bool:mg "bool"=aj
 str:mg "str"=aj
 dict:mg "dict"=aj
 all:mg "all"=aj
 enum:mg "enumerate"=aj
 sum:mg "sum"=aj
 zip:mg "zip"=aj
 abs:mg "abs"=aj
 reversed:mg "reversed"=aj
theorem dI:eI "len"=ae (.builtin "len"):=by decide +kernel
theorem aAu:eI "min"=ae (.builtin "min"):=by decide +kernel
theorem VN:eI "max"=ae (.builtin "max"):=by decide +kernel
theorem yN:eI "sorted"=ae (.builtin "sorted"):=by decide +kernel
theorem fW:eI "list"=ae (.type "list"):=by decide +kernel
theorem wX:eI "tuple"=ae (.type "tuple"):=by decide +kernel
theorem aFe:eI "int"=ae (.type "int"):=by decide +kernel
theorem IK:eI "dict"=ae (.type "dict"):=by decide +kernel
theorem ints_rep:∀ns:aa ai,bW P H (ns.map V.int) (ns.map δ)
 |[]=>.nil
 |n::ns=>.cons (.int n) (ints_rep ns)
end Mi
namespace Mi
open PySem L2
theorem aAv{ns:aa ai}{E:XK}(main:∀ns:aa ai,ns.length<=63->f [.scr (ns.map δ)]=.ok (.bl af))(hl:ns.length<=63)(hO:Only H)(hS:SqL K H a (ns.map V.int)):@spD ⟨K⟩ f 1 [.ref a] H (λv _=>v=.bl af) E:=by
 letI:KFrag:=⟨K⟩
 refine⟨[.scr (ns.map δ)],.bl af,rfl,.cons (.frz ?_ (ints_rep ns)) .nil,main ns hl,λv H' s r n=>by cases r.inv;rfl⟩;rcases hS with (h|⟨o,h⟩)|h
 ·rcases hO a with z|⟨o,xs,z⟩
  ·rw[h] at z;cases z
  ·rw[h] at z;cases z
 ·exact .inl ⟨o,h⟩
 ·exact .inr h
end Mi
namespace Mi
universe u
section
variable {α:Type u} {us:aa α}
theorem l1(h:us.length=1):∃a,us=[a]:=List.length_eq_one_iff.mp h
theorem l2(h:us.length=2):∃a b,us=[a,b]:=by
 cases us with
 |nil=>cases h
 |cons a t=>obtain⟨b,rfl⟩:=l1 (wl h);exact⟨a,b,rfl⟩
theorem l3(h:us.length=3):∃a b c,us=[a,b,c]:=by
 cases us with
 |nil=>cases h
 |cons a t=>obtain⟨b,c,rfl⟩:=l2 (wl h);exact⟨a,b,c,rfl⟩
theorem l4(h:us.length=4):∃a b c d,us=[a,b,c,d]:=by
 cases us with
 |nil=>cases h
 |cons a t=>obtain⟨b,c,d,rfl⟩:=l3 (wl h);exact⟨a,b,c,d,rfl⟩
end
open PySem L2 PySem.SeqAt PySem.Spec PyProof.Rows
def aGz:D->ay ai->ay ai->Res D
 |.str x,lo,hi=>if ϒ (x.length<=lim) then .ok (.str (iS x lo hi)) else .bad
 |d,lo,hi=>J9 d lo hi
def aAw(a:FE)(lo hi:aa D->Res (ay ai)):FE:=λρ=>do let x <- a ρ;let l <- lo ρ;let h <- hi ρ;aGz x l h
def M4:D->Res (aa D)
 |.str x=>if ϒ (x.length<=lim) then .ok (MT x) else .bad
 |d=>kO d
def vI(a:FE)(fr:aq):FI:=λρ=>do let x <- a ρ;let xs <- M4 x;pure (xs,fr||x.pure)
variable [KFrag]
section
variable {X:Cx}
theorem part_of(h:iz v o):∃l:ay (ai×e9),partValue l=v/\l.map (·.1)=o:=by
 cases h with
 |none=>exact⟨aj,rfl,rfl⟩
 |int i t=>exact⟨ae (i,t),rfl,rfl⟩
theorem aK6(hK:KFrag.K=X.K):SlR X (λx lo hi H Q=>∃a d,Rep All H x a/\aGz a lo hi=.ok d/\kR H d af Q):=by
 rintro Ψ s σ H x v vl vu lo hi sl Q I rx hs pl pu ⟨a,d,p,e,k⟩;by_cases hz:∃z,a=.str z
 ·obtain⟨z,rfl⟩:=hz;simp only[aGz] at e;split at e
  ·rename_i hl;cases e;cases p.inv;obtain⟨t,rfl⟩:=rx;obtain⟨l,e1,e2⟩:=part_of pl;obtain⟨m,e3,e4⟩:=part_of pu;subst e1 e2 e3 e4;refine⟨"str",_,F.slot_str_getitem.lookup,vb _ _ _,?_⟩;obtain⟨o,ho,hc,hd⟩:=hs;refine wpAny_getItem_str_slice (st:=aj) ⟨o,ho,hc,hd⟩ rfl ?_;have hle:(iS z (l.map (·.1)) (m.map (·.1))).length<=bq:=du (Ap ..) (uE hl);have q:∀(t':e9)(k2:ah),EP X Ψ σ Q (.str (iS z (l.map (·.1)) (m.map (·.1))) t') {s with toks:=k2}:=λt' k2=>⟨.str _,H,I.tok k2,⟨t',rfl⟩,k.str⟩
   show Made.post (if ((1:ai)==1&&(Aq (l.map (·.1)) (m.map (·.1)) 1 z.length).length==z.length)=af then .val (.str z t) else .str ⟨((Aq (l.map (·.1)) (m.map (·.1)) 1 z.length).filterMap (z.cps[·]?)).toArray⟩) _ s;unfold iS at hle q;split
   ·rename_i hh;have:=q t s.toks;rw[av hh] at this;exact this
   ·rename_i hh;rw[az hh] at hle;have:=q s.toks (s.toks+1);rw[az hh] at this;exact⟨hle,this⟩
  ·exact bx e
 ·have he:aGz a lo hi=J9 a lo hi:=by
   unfold aGz;split
   ·exact bb ⟨_,rfl⟩ hz
   ·rfl
  rw[he] at e;exact aJz hK Ψ s σ H x v vl vu lo hi sl Q I rx hs pl pu ⟨a,d,p,e,k⟩
theorem CZ{lo hi:ay Expr}{p2:cb}{fl fh:aa D->Res (ay ai)}(hK:KFrag.K=X.K)(he:PE X e (gE fe re))(hl:PO X lo (gO fl))(hh:PO X hi (gO fh)):PE X (.Subscript e (.Slice lo hi aj p2) pos) (gE (aAw fe fl fh) af):=
 PE.imp (T5 (aK6 hK) he hl hh) λσ H Q z0=>by
  obtain⟨ρ,d,E,h,q⟩:=z0;obtain⟨x,h1,h⟩:=bL h;obtain⟨l,h2,h⟩:=bL h;obtain⟨u,h3,h⟩:=bL h;exact⟨ρ,x,E,h1,λv H1 s1 r1 _=>⟨ρ,l,E.same s1,h2,λH2 s2=>⟨ρ,u,E.same (s1.trans s2),h3,λH3 s3=>⟨x,d,r1.same (s2.trans s3),h,q.imp ((s1.trans s2).trans s3) id⟩⟩⟩⟩
theorem aDr{K:bz}(x:Str)(t:e9)(it:al):Turn P w K tg (aMg x) [it] it (λi h=>h.IsStrIter it (fw x) x t i) where
 mem:=by simp
 obj:=λi h st b hb=>by
  have e:b=it:=by simpa using hb
  subst e;obtain⟨o,e,c,d⟩:=st;exact⟨o,e,λv z=>by rw[d] at z;cases z⟩
 keep:=λi h h' st k=>by
  obtain⟨o,e,r⟩:=st;exact⟨o,k it (by simp) o e,r⟩
 item:=by
  intro Y hP hw hK hc i Ψ s σ H E I hf st hg;subst hP hw hK;obtain⟨f0,f1,f2,f3,f4,f5⟩:=hf it (by simp);have hx:x.cps[i]?=ae x.cps[i]:=wm hg;have fin:∀(h':aS)(ty:dr),(["enumerate","zip","dict_itemiterator","dict_reverseitemiterator","odict_iterator","itertools.zip_longest","itertools.pairwise"].contains ty=ag)->fw x=ty->h'.IsStrIter it ty x t (i+1)->kC it s.heap h'->
    ∃u,ae (ly ⟨#[x.cps[i]]⟩ s.toks)=ae u/\ϑ (ax Y.prog Y.w) Y.A (lS tg (.ref it) u) (λ_ s2=>∃v H',Inv Y Ψ σ H' s2/\RelV v u/\(aMg x).yld i H v H'/\s2.heap.IsStrIter it (fw x) x t (i+1)/\∀b∈[it],H' b=aj) E {s with heap:=h',toks:=s.toks+1}:=by
   intro h' ty hn hty st' sb;have I1:Inv Y Ψ σ H {s with heap:=h',toks:=s.toks+1}:=I.turned (λb o hb e=>(sb.2 b hb).trans e) f0 f1 f3 f4 f5;obtain⟨o,e,c,d⟩:=id st';exact⟨_,rfl,ZC e c d hn ⟨.str ⟨#[x.cps[i]]⟩,H,I1,⟨_,rfl⟩,⟨rfl,_,hx,rfl⟩,by rw[hty];exact st',λb hb=>(hf b hb).1⟩⟩
  cases ha:x.cps.all (·<128)
  ·have hty:fw x="str_iterator":=by simp[fw,ha]
   rw[hty] at st;exact wpAny_pyNext_wide_item st hx λh' st' sb=>fin h' _ (by decide) hty st' sb
  ·have hty:fw x="str_ascii_iterator":=by simp[fw,ha]
   rw[hty] at st;exact wpAny_pyNext_ascii_item st hx λh' st' sb=>fin h' _ (by decide) hty st' sb
 done:=by
  intro Y hP hw hK hc i Ψ s σ H E I hf st hg;subst hP hw hK;obtain⟨f0,f1,f2,f3,f4,f5⟩:=hf it (by simp);have hx:x.cps[i]?=aj:=wn hg;cases ha:x.cps.all (·<128)
  ·have hty:fw x="str_iterator":=by simp[fw,ha]
   rw[hty] at st;exact wpAny_pyNext_wide_end (I.ok.hd hc) st hx λh' eb=>⟨rfl,I.turned (λb o hb e=>eb b o hb e) f0 f1 f3 f4 f5⟩
  ·have hty:fw x="str_ascii_iterator":=by simp[fw,ha]
   rw[hty] at st;exact wpAny_pyNext_ascii_end (I.ok.hd hc) st hx λh' eb=>⟨rfl,I.turned (λb o hb e=>eb b o hb e) f0 f1 f3 f4 f5⟩
 self:=λ_ _ _ _ _ st h=>by
  cases ha:x.cps.all (·<128)
  ·have hty:fw x="str_iterator":=by simp[fw,ha]
   rw[hty] at st;exact wpAny_pyIter_striter_wide st h
  ·have hty:fw x="str_ascii_iterator":=by simp[fw,ha]
   rw[hty] at st;exact wpAny_pyIter_striter_ascii st h
section
variable {tg l:Expr}
theorem aAx(hK:KFrag.K=X.K)(I1:Inv X Ψ σ H1 s1)(r:Rep All H1 v d)(ru:RelV v u)(hi:M4 d=.ok items)
 (q:∀J,(∀P:al->Prop,Rep P H1 v d->ItQ X.K P J H1 items)->R J H1):ϑ (ax X.prog X.w) X.A (fN u) (PIE X Ψ σ tg R) X.xe s1:=by
 by_cases hz:∃z,d=.str z
 ·obtain⟨z,rfl⟩:=hz;simp only[M4] at hi;split at hi
  ·cases hi;cases r.inv;obtain⟨t,rfl⟩:=ru;refine wpAny_pyIter_strU ?_;refine⟨s1.heap.objs.size,[s1.heap.objs.size],_,_,H1,rfl,I1.kept λb o e=>cq _ e,aDr z t _,⟨_,dg _ rfl,rfl,rfl⟩,λb hb=>?_,q _ λP r=>.chs z rfl rfl⟩;have e:b=s1.heap.objs.size:=by simpa using hb
   subst e;exact I1.aEy (bi _) (I1.hok.fresh (bi _))
  ·exact bx hi
 ·have he:M4 d=kO d:=by
   unfold M4;split
   ·exact bb ⟨_,rfl⟩ hz
   ·rfl
  rw[he] at hi;exact HS hK I1 r ru hi q
theorem RX(hK:KFrag.K=X.K)(hl:PE X l (gE fl rl)):PI X tg l (gI X.K (vI fl rl)):=by
 rintro Ψ s σ H R I ⟨ρ,items,k,E,h,q⟩;obtain⟨d,h1,h⟩:=bL h;obtain⟨its,h2,h⟩:=bL h;cases h;refine thn (hl Ψ s σ H _ I ⟨ρ,d,E,h1,λv H1 s1 r1 n1=>(show(∃d',Rep All H1 v d/\d'=d/\∀J,(∀P:al->Prop,Rep P H1 v d->ItQ X.K P J H1 items)->R J H1) from ⟨d,r1,rfl,λJ hJ=>q J H1 s1 (hJ _ r1) λhk=>hJ _ ?_⟩)⟩) λu s1 ⟨v,H1,I1,ru,d',r1,e,q1⟩=>aAx hK I1 r1 ru h2 q1
 rw[iv] at hk;rcases hk with hk|hk
 ·exact n1 hk
 ·exact r1.bV hk
end
end
end Mi
namespace Mi
open PySem L2
theorem aFf(b:aq):asB (.bl b)=.ok b:=rfl
theorem bT:lim=1000000:=by unfold lim;exact Eq.refl _
theorem M5(h:ρ.length=n):T9 n ρ=ρ:=by
 subst h;apply List.ext_getElem
 ·simp[T9]
 ·intro i h1 h2;simp[T9,h2]
theorem cG(h:ds.length=n):cF n f ds=f ds:=by
 unfold cF;rw[av (by simp[h])]
theorem aJ(h1:a ρ=.ok x)(h2:b ρ=.ok y)(h3:f x y=.ok z):b2 f a b ρ=.ok z:=by
 unfold b2;rw[h1,τ,h2,τ,h3]
theorem bN(h:f ρ=.ok d):b_ ag i f af ρ=.ok (.nx (ρ.set i d)):=by
 unfold b_;rw[h,τ];rfl
theorem IV(h:f ρ=.ok d)(hp:d.pure=af):b_ ag i f ag ρ=.ok (.nx (ρ.set i d)):=by
 unfold b_;rw[h,τ];simp only[hp,vg,db,cx,cw]
theorem eO(h:f ρ=.ok d)(hp:inner d=af):b_ af i f af ρ=.ok (.nx (ρ.set i d)):=by
 unfold b_;rw[h,τ];simp only[hp,iX,cw]
theorem aMk(h:jH j ρ=.ok d):sAl i j ρ=.ok (.nx (ρ.set i d)):=by
 unfold sAl;rw[h,τ]
theorem aK(h1:f ρ=.ok (.nx ρ'))(h2:g ρ'=r):bI f g ρ=r:=by
 unfold bI;rw[h1,τ];exact h2
theorem aDs(h1:c ρ=.ok k)(h2:(if k then f ρ else g ρ)=r):sIf c f g ρ=r:=by
 unfold sIf;rw[h1,τ];exact h2
theorem RZ(h1:c ρ=.ok af)(h2:f ρ=r):sIf c f g ρ=r:=aDs h1 (by rw[av rfl];exact h2)
theorem wF(h1:c ρ=.ok ag)(h2:g ρ=r):sIf c f g ρ=r:=aDs h1 (by rw[az (by simp)];exact h2)
theorem dR(h1:f ρ=.ok (.bl k)):bTB f ρ=.ok k:=by
 unfold bTB;rw[h1,τ];rfl
theorem XQ(h1:a ρ=.ok af)(h2:b ρ=r):T8 a b ρ=r:=by
 unfold T8;rw[h1,τ,av rfl,h2]
theorem aAy(h1:a ρ=.ok ag):T8 a b ρ=.ok ag:=by
 unfold T8;rw[h1,τ,az (by simp)];rfl
theorem aLl(h1:a ρ=.ok x)(h2:b ρ=.ok y)(h3:f x y=.ok (.bl af))(h4:c ρ=.ok z)(h5:g y z=r):bCh f g a b c ρ=r:=by
 unfold bCh;rw[h1,τ,h2,τ,h3,τ,aFf,τ,av rfl,h4,τ,h5]
theorem aMl(h1:a ρ=.ok x)(h2:b ρ=.ok y)(h3:f x y=.ok (.bl ag)):bCh f g a b c ρ=.ok (.bl ag):=by
 unfold bCh;rw[h1,τ,h2,τ,h3,τ,aFf,τ,az (by simp)];rfl
theorem aD(h1:a ρ=.ok x)(h2:b ρ=.ok xs):aB a b ρ=.ok (x::xs):=by
 unfold aB;rw[h1,τ,h2,τ];rfl
theorem aM(h1:a ρ=.ok xs)(h2:f xs=.ok d):aL f a ρ=.ok d:=by
 unfold aL;rw[h1,τ,h2]
theorem g_(h:a ρ=.ok xs)(hl:xs.length<=lim):cL a ρ=.ok (.tup xs):=by
 unfold cL;rw[h,τ,av (cK hl)];rfl
theorem h_(h:f ρ=.ok d)(hp:(k||d.pure)=af):uV f k ρ=.ok (.rt d):=by
 unfold uV;rw[h,τ,av hp]
theorem nQ(h1:it ρ=.ok (xs,af))(h2:lW t body xs ρ=r):Q_ it t body ρ=r:=by
 unfold Q_;rw[h1,τ];exact h2
theorem q_(h1:jH i ρ=.ok d)(h2:kO d=.ok xs)(h3:lW t body xs ρ=r):uC i t body ρ=r:=by
 unfold uC;rw[h1,τ,h2,τ];exact h3
theorem C_(h:f ρ=.ok [.int n])(h1:0<=n)(h2:n<=1000000):vA f uB ρ=.ok ((eu n.toNat).map λ(k:ah)=>δ (0+(k:ai)),af):=by
 unfold vA;rw[h,τ];have:xZ n=af:=by
  simp only[xZ,bj,eD];lia
 simp only[uB,this,cw]
theorem aAz(h1:g ρ=.ok d)(h2:f ρ=.ok k)(h3:ρ.getD i .uD=.dct kvs)(h4:kvs.length<lim)(h5:zT kvs k=af)(h6:d.pure=af):aDd i f g ρ=.ok (.nx (ρ.set i (.dct (putD kvs k d)))):=by
 unfold aDd;rw[h1,τ,h2,τ,h3];simp only[cK h4,h5,h6,iX,cw]
theorem aK7(h1:f ρ=.ok (.int j))(h2:g ρ=.ok d)(h3:ρ.getD i .uD=.lst xs)(h4:xs.length<lim)(h5:d.pure=af)(h6:0<=j)(h7:j<=xs.length):aJq i f g ρ=.ok (.nx (ρ.set i (.lst (xs.take j.toNat++d::xs.drop j.toNat)))):=by
 unfold aJq;rw[h1,τ,h2,τ,h3];simp only[cK h4,h5,cK h6,cK h7,iX,cw]
theorem yO(h1:f ρ=.ok d)(h3:ρ.getD i .uD=.lst xs)(h4:xs.length<lim)(h5:d.pure=af):lJ i f ρ=.ok (.nx (ρ.set i (.lst (xs++[d])))):=by
 unfold lJ;rw[h1,τ,h3];simp only[cK h4,h5,iX,cw]
theorem bZ(h1:t x ρ=.ok ρ1)(h2:body ρ1=.ok (.nx ρ2))(h3:lW t body xs ρ2=r):lW t body (x::xs) ρ=r:=by
 rw[lW,h1,τ,h2,τ];exact h3
theorem IW(L:aa D)(i:ai)(h0:0<=i)(h1:i<L.length):∃(h:i.toNat<L.length),getD (.lst L) (.int i)=.ok L[i.toNat]:=by
 have hlt:i.toNat<L.length:=by lia
 refine⟨hlt,?_⟩;show μ ((ixD L.length i).bind λj=>L[j]?)=_;unfold ixD;rw[av h0,av h1];simp only[ni];rw[dP hlt];rfl
theorem uI(L:aa D):gJ [.lst L]=.ok (.int L.length):=rfl
theorem j6(h1:it ρ=.ok (xs,kk))(h2:xs.length<=lim)(h3:G4 (z6 n t c f k ρ) [] xs=.ok ys):dN n it t c f k ρ=.ok (.lst ys):=by
 unfold dN;rw[h1,τ];simp only[cK h2,cw];rw[h3];rfl
theorem jC{fr:aq}(h1:a ρ=.ok d)(h2:kO d=.ok xs):fZ a fr ρ=.ok (xs,fr||d.pure):=by
 unfold fZ;rw[h1,τ,h2,τ];rfl
theorem nR(hρ:ρ.length=n)(h1:c (ρ++[x])=.ok b)(h2:b=af->f (ρ++[x])=.ok y/\(k||y.pure)=af):z6 n uU c f k ρ acc x=.ok (if b then acc++[y] else acc):=by
 unfold z6;show(do let ok <- c (T9 n ρ++[x]);_)=_;rw[M5 hρ,h1,τ];cases b with
 |true=>
  obtain⟨e1,e2⟩:=h2 rfl;rw[av rfl,e1,τ,av e2,av rfl];rfl
 |false=>
  rw[az (by simp),az (by simp)];rfl
theorem eX(g:aa D->D->Res (aa D))(d:α->D)(p:α->aq)(y:α->D)(h:∀acc a,g acc (d a)=.ok (if p a then acc++[y a] else acc)):∀(xs:aa α)(acc:aa D),G4 g acc (xs.map d)=.ok (acc++(xs.filter p).map y)
 |[],acc=>by simp[G4]
 |x::xs,acc=>by
  rw[bw,G4,h];show G4 g _ _=_;rw[eX g d p y h xs];by_cases hp:p x
  ·simp[hp]
  ·simp[hp]
theorem dF(a b:ai):aQ .add (.int a) (.int b)=.ok (.int (a+b)):=rfl
theorem aB0(a b:ai):aQ .sub (.int a) (.int b)=.ok (.int (a-b)):=rfl
theorem aB1(a b:ai)(h:kJ b=af):aQ .mul (.int a) (.int b)=.ok (.int (a*b)):=by
 show(if kJ a||kJ b then ε (δ (a*b)) else .bad)=_;rw[h,Bool.or_true,av rfl]
theorem I_(a b:ai)(h:kJ a=af):aQ .mul (.int a) (.int b)=.ok (.int (a*b)):=by
 show(if kJ a||kJ b then ε (δ (a*b)) else .bad)=_;rw[h,yq,av rfl]
theorem eQ(a b:ai)(h1:0<b)(h2:b<1073741824):aQ .fdiv (.int a) (.int b)=.ok (.int (a / b)):=by
 show(if ϒ (0<b)&&ϒ (b<1073741824) then ε (δ (a / b)) else .bad)=_;rw[cK h1,cK h2,iX,av rfl]
theorem dJ(a b:ai)(h1:0<b):aQ .mod (.int a) (.int b)=.ok (.int (a % b)):=by
 show(if ϒ (0<b) then ε (δ (a % b)) else .bad)=_;rw[cK h1,av rfl]
theorem l_(a:ai)(h1:-1000000<=a)(h2:a<=1000000):kJ a=af:=by
 simp only[kJ,bj,eD];lia
theorem Q6(a b:Str)(h:a.length+b.length<=lim):aQ .add (.str a) (.str b)=.ok (.str (a++b)):=by
 show(if ϒ (a.length+b.length<=lim) then ε (ι (a++b)) else .bad)=_;rw[cK h,av rfl]
theorem str_len(a b:Str):(a++b).length=a.length+b.length:=by
 show(a.cps++b.cps).size=_;rw[Array.size_append];rfl
theorem JB(a b:aa D)(h:a.length+b.length<=lim)(ha:θ a=af)(hb:θ b=af):aQ .add (.lst a) (.lst b)=.ok (.lst (a++b)):=by
 show(if ϒ (a.length+b.length<=lim)&&θ a&&θ b then ε (ξ (a++b)) else .bad)=_;rw[cK h,ha,hb,iX,iX,av rfl]
theorem DG(n:ah)(h:n<=1000):aQ .pow (.int 10) (.int n)=.ok (.int (10 ^ n)):=by
 have h1:ϒ ((0:ai)<=(n:ai))=af:=by simp
 have h2:ϒ ((n:ai)<=1000000)=af:=by simp;lia
 have h3:ϒ ((10:ai).natAbs<2 ^ 64)=af:=by decide
 show(if ϒ ((0:ai)<=(n:ai))&&ϒ ((n:ai)<=1000000)&&ϒ ((10:ai).natAbs<2 ^ 64) then ε (δ (10 ^ ((n:ai).toNat))) else .bad)=_;rw[h1,h2,h3,iX,iX,av rfl,wo]
theorem vJ(S:aa ai):θ (S.map δ)=af:=by
 induction S with
 |nil=>rfl
 |cons q Q ih=>rw[bw,θ,ih];rfl
theorem aH0(ns:aa ai)(lo hi:ay ai):cutD (ns.map δ) lo hi=(cutD ns lo hi).map δ:=by
 unfold cutD;rw[bp,List.map_take,Ar]
theorem aH1(ns:aa ai)(lo hi:ay ai):(cutD ns lo hi).length<=ns.length:=by
 unfold cutD;exact du (As ..) (by rw[kM];lia)
open PySem.SeqAt PySem.Spec PyProof.Rows
theorem R0{P:bu}{w:bo}{H:Hp}{h:aS}{a:al}{o:HO}(x:iC P w H h a o):∃ob,h.get? a=ae ob:=by
 cases o with
 |lst xs=>obtain⟨_,_,_,_,e⟩:=x;exact⟨_,e⟩
 |tup xs=>obtain⟨_,_,_,_,e,_⟩:=x;exact⟨_,e⟩
 |dK kvs=>obtain⟨_,_,_,_,o,_,_,e,_⟩:=x;exact⟨_,e⟩
 |dT kvs=>obtain⟨_,_,_,_,o,_,_,e,_⟩:=x;exact⟨_,e⟩
 |set S n=>obtain⟨o,_,_,_,e,_⟩:=x;exact⟨_,e⟩
 |ins C dx fs=>obtain⟨_,_,_,e,_⟩:=x;exact⟨_,e⟩
 |own y=>exact x
 |xd fs=>obtain⟨_,⟨_,_,_,e,_⟩,_⟩:=x;exact⟨_,e⟩
 |rng lo hi=>obtain⟨_,_,_,e⟩:=x;exact⟨_,e⟩
 |frz ob u=>obtain⟨e,_⟩:=x;exact⟨_,e⟩
 |tbl ps=>exact⟨_,show h.get? a=ae _ from x⟩
 |met f y=>exact⟨_,show h.get? a=ae _ from x⟩
 |ext φ=>obtain⟨_,e,_⟩:=x;exact e
theorem aH2{K:bz}{h:aS}{C:al}{bmB:aa ak}{newId:dr}(X:K.In h)(q:sd K C bmB newId=af) :
  ∃bm N nm qn bs hdct sn sub ab col dd k0 k1 k2 k3 k5 mN,h.get? C=ae (excClassObj nm qn C N bs bm hdct sn sub ab col dd k0 k1 k2 k3 k5 newId)/\h.Ns N mN/\mN "__init__"=aj/\OwnTail h bmB bm:=by
 unfold sd at q;split at q
 ·rename_i dd cd sl ho;split at q
  ·rename_i C' bm k0 k1 k2 k3 n k5 hm hs;rw[bj,bj,bj,bj,bj] at q;obtain⟨⟨⟨⟨⟨q1,q2⟩,q3⟩,q4⟩,q5⟩,q6⟩:=q;have q1:=iu.mp q1;have q2:=iu.mp q2;rw[ko] at q3;subst q1 q2;obtain⟨nm,bs,mro,ns,qn,hd,sn,sub,ab,col,del⟩:=cd;obtain⟨l⟩:=sl;dsimp only at hm q3 q5 q6 hs;subst hm q3 hs;exact⟨bm,ns,nm,qn,bs,hd,sn,sub,ab,col,dd,k0,k1,k2,k3,k5,_,X _ _ ho,.of_isNs (PySem.W.isNs_of_in X q5),PySem.W.nsMap_none_of_in X q5 (iu.mp q6),PySem.W.tail_of_in X q4⟩
  ·cases q
 ·cases q
abbrev aIi:aa ak:=[.type "ValueError",.type "Exception",.type "BaseException",.type "object"]
theorem aDt{X:Cx}{x:Str}{C:al}{np cpos pos:cb}{e:Expr}{ta:TA}(hc:X.calm=af)(hg:Gl X x)(hm:X.mg x=ae (.ref C))(hq:sd X.K C aIi "ValueError.__new__"=af)(ha:PA X [e] ta)
 (he:br [e] X.env=[(ag,eval e X.env)]:=by rfl)(hd:nDb x:=by decide) :
  PS X (.Raise (ae (.Call (.Name x np) [e] [] cpos)) aj pos) (λD σ H=>ta σ H λvs H1=>vs.length<=bq/\∀(Ψ:aa (al×bf))(s:ao)(h2:aS)(a:al)(us:aa ak),Inv X Ψ σ H1 s->Au s.heap h2 a (.ref C) us->X.xe (.ref a) {s with heap:=h2}):=by
 intro Ψ s σ H D I h;obtain⟨bm,N,nm,qn,bs,hdct,sn,sub,ab,col,dd,k0,k1,k2,k3,k5,mN,hC,hN,hni,T⟩:=aH2 I.mod.kin hq;refine wpAny_Raise_call_subT (C:=C) (nm:=nm) (q:=qn) (N:=N) (bs:=bs) (bm:=bm) (hdct:=hdct) (sn:=sn) (sub:=sub) (ab:=ab) (col:=col) (dd:=dd) (k0:=k0) (k1:=k1) (k2:=k2) (k3:=k3) (k5:=k5)
  Av (mN:=mN) (T.hasType Av.hasBase) (I.ok.hd hc) (by rw[he];rfl) hni (xH I hg hm ⟨rfl,?_⟩ hd)
 rw[he];have h':=ha cpos Ψ s σ H _ I h;rw[he] at h';refine yl (d5 h' (λus s2 ⟨vs,H1,I1,r,hl,hx⟩=>⟨rfl,by rw[<-r.length];exact hl,I1.bk _ _ hC,hN.keeps I1.bk,T.keeps I1.bk,λh2 a hm=>hx Ψ s2 h2 a us I1 hm⟩) λ_ _ y=>y)
section
variable [KFrag]
theorem PS.nox{X:Cx}{st:bE}{t:TS}(h:PS X.nox st t):PS X st t:=λΨ s σ H D I hw=>
 d5 (h Ψ s σ H D (I.wish _) hw) (λ_ _ q=>SP.mY q) λ_ _ z=>dE z
end
open PySem.W PySem.Builtin PySem.Builtin.ObjectAttr PySem.Builtin.Getset_descriptor
def ExcAt(a C:al)(h:aS):Prop:=∃o,h.get? a=ae o/\o.cls=.ref C
structure XC(K:Frag)(C:al):Prop where
 cl:(clsIn K C).isSome=af
 ga:lr K (.ref C) "__getattribute__"=ae (ae (.builtin "BaseException.__getattribute__"))
 gh:lr K (.ref C) "__getattr__"=ae aj
 kc:lr K (.ref C) "__class__"=ae (ae (.builtin "object.__class__"))
 kg:specialIn K (.builtin "object.__class__") "__get__"=ae (ae (.builtin "getset_descriptor.__get__"))
 kt:takesIn K (.builtin "object.__class__")=ae af
 ob:se K C (.type "object")=ae af
 be:se K C (.type "BaseException")=ae af
section
variable {prog:bu} {w:bo} {A:bP} {E:ak->ao->Prop} {s:ao} {K:Frag} {x C:al}
theorem M6{M:ij}{h:aS}(p:ExcAt x C h):jl M h (ke (.ref x)) (.ref C):=by
 obtain⟨o,h1,h2⟩:=p;rw[<-h2];exact(wc h1).andThen .now
theorem aDu{M:ij}{h:aS}(X:K.In h)(c:XC K C):jl M h (find (.ref x) (.ref C) "__class__") (.bind (.builtin "getset_descriptor.__get__") (.builtin "object.__class__")):=by
 refine(wt (M:=M) X c.kc).andThen ((looks_specialIn (M:=M) X c.kg).andThen ?_);have L:jl M h (dataDescriptor? (ae (.builtin "object.__class__")) (ae (.builtin "getset_descriptor.__get__"))) (ae (.builtin "getset_descriptor.__get__",.builtin "object.__class__")):=(looks_takesIn (M:=M) X c.kt).andThen .now;exact L.andThen (Looks.tag .now)
theorem aH3{R:l8->ao->Prop}{tp:ak}(X:K.In s.heap)(p:ExcAt x C s.heap)(c:XC K C)(h:R (.ok (.ret (.ref C))) s) :
  codeAny (ax prog w) A (.call (.builtin "getset_descriptor.__get__") ⟨[.builtin "object.__class__",.ref x,tp],[]⟩) R s:=by
 obtain⟨hh,g,d,t,os⟩:=s;have L0:=M6 (M:=ax prog w) p;have L1:=Aw (M:=ax prog w) X c.ob;refine Ax Ay.plain KF.entry_gs (Ay.check _ _ _ _ _ _ _ _ KF.type_class (KF.args_gs _ _ _) ?_)
 (unfold Builtin.«getset_descriptor.__get__» descrGet;rw[dga_obj];refine aw (bh ?_);unfold descrGetter descrCheckInstance descrNameAndClass isInstance;simp only[KF.owner_class])
 repeat lk
 refine⟨Code.quiet_builtin _ (by decide +kernel),iP KF.entry_class ?_⟩
 (unfold Builtin.«object.__class__» shownTypeOf;repeat lk)
 exact h
theorem aB2{tk:e9}{Q:Fin->ao->Prop}(X:K.In s.heap)(p:ExcAt x C s.heap)(c:XC K C)(h:Q (.done (.ret (.ref C))) s) :
  ϑ (ax prog w) A (Builtin.«object.__getattribute__» ⟨[.ref x,.str "__class__" tk],[]⟩) Q E s:=by
 obtain⟨hh,g,d,t,os⟩:=s;have L0:=M6 (M:=ax prog w) p;have L1:=aDu (M:=ax prog w) (x:=x) X c;unfold Builtin.«object.__getattribute__»;refine aw (bh ?_);refine aw (bh ?_);refine aw (L0.at (aw (L1.at ?_)));show ϑ _ _ (uq [_] (call _ [_,.ref x,.ref C]) >>= ret) _ _ _;exact aw (gV (nw (aH3 X p c (bh h))))
theorem aB3{M:ij}{nv:ak}{Q:gN->ao->Prop}(X:K.In s.heap)(p:ExcAt x C s.heap)(c:XC K C)(h:Q () s):ϑ M A (Az "BaseException.__getattribute__" ⟨[.ref x,nv],[]⟩) Q E s:=by
 obtain⟨hh,g,d,t,os⟩:=s;have L0:jl M hh (isInstance (.ref x) (.type "BaseException")) af:=(M6 (M:=M) p).andThen (Aw (M:=M) X c.be);have e1:builtinKind "BaseException.__getattribute__"=ae .slot:=by decide +kernel
 have e2:splitId "BaseException.__getattribute__"=ae ("BaseException","__getattribute__"):=by decide +kernel
 have ha:=F.args_bexc_ga (.ref x) nv;simp only[Az,e1,e2];refine aw (L0.at ?_)
 repeat (any_goals (first|assumption|wp_step))
theorem aH4{Q:ay ak->ao->Prop}(X:K.In s.heap)(p:ExcAt x C s.heap)(c:XC K C)(h:Q (ae (.ref C)) {s with toks:=s.toks+1}):ϑ (ax prog w) A (getAttr? (.ref x) "__class__") Q E s:=by
 obtain⟨hh,g,d,t,os⟩:=s;have L0:=M6 (M:=ax prog w) p;have L1:=wt (M:=ax prog w) X c.ga;have L2:=wt (M:=ax prog w) X c.gh;have e2:(sf "BaseException.__getattribute__"==sf "object.__getattribute__")=ag:=by decide +kernel
 have e1:(onTheHeap (ff C)&&sf "BaseException.__getattribute__"==sf "object.__getattribute__")=ag:=by rw[e2];rfl
 unfold getAttr? getAttrBy? getAttrBy;refine aw (wpAny_mkText (aw (mT (gV (aw (L0.at (aw (L1.at ?_))))))));dsimp only;rw[e1,az (by decide)];unfold getAttrByItsOwn hookBefore callGetattribute boundAndCalled;rw[av (show onTheHeap (ff C)=af from rfl)];refine aw (L2.at (aw (mT (gV ?_))));rw[az (by decide)];refine aw (lm (AA.ga.bind (.ref x)) ?_);refine nw (Ax AA.ga.plain F.entry_bexc_ga (aB3 (K:=K) (C:=C) X p c (aB2 (K:=K) (C:=C) X p c ?_)));show ϑ _ _ (handedOut (.ref C)) _ _ _;exact bh (bh h)
theorem aDv(c:XC K C):KitX K (.ref x) (.ref C) (ExcAt x C) where
 ty:=λ_ _ _ p=>M6 p
 it:=λM h X _=>by
  obtain⟨cd,hc⟩:=kK.mp c.cl;unfold clsIn at hc;split at hc
  ·rename_i ho;intro A' Q' E' s' k q
   (unfold isType loadHead;exact aw (wpAny_loadPart (k _ _ (X _ _ ho)) (bh q)))
  ·cases hc
 ne:=λh tp dd its n sl X e=>by
  obtain⟨cd,hc⟩:=kK.mp c.cl;unfold clsIn at hc;split at hc
  ·rename_i ho;refine Bool.eq_false_iff.mpr λq=>?_
   have z:C=tp:=BC (iu.mp q);subst z;cases (X _ _ ho).symm.trans e
  ·cases hc
 ca:=λX p h=>aH4 X p c h
end
end Mi
namespace Mi
open PySem L2 PySem.W PySem.SeqAt PySem.Spec PyProof.Rows
noncomputable abbrev mrk(X:Cx)(v:ak):Cx:={X with A:=X.A.mark (ae v),calm:=ag}
section
variable {X:Cx} {Ψ:aa (al×bf)} {σ:L2.St} {H H2:Hp} {s:ao} {h h6:aS} {a:al}
theorem aB4(I:Inv X Ψ σ H s)(v:ak):Inv (mrk X v) Ψ σ H s:=
 ⟨⟨I.ok.mod,I.ok.kind,I.ok.glob,I.ok.blt,I.ok.above,I.ok.inj,I.ok.has,I.ok.cab,(λz=>nomatch z),I.ok.frames,I.ok.stk,I.ok.exf,I.ok.bs,I.ok.bsz,I.ok.noex,I.ok.exfs,I.ok.YS,I.ok.frf⟩,I.os,I.bare,I.base,I.loc,I.cell,I.free,I.freeC,I.pin,I.hok,I.len⟩
theorem aB5{v:ak}(ok:X.Ok)(I:Inv (mrk X v) Ψ σ H s):Inv X Ψ σ H s:=
 ⟨ok,I.os,I.bare,I.base,I.loc,I.cell,I.free,I.freeC,I.pin,I.hok,I.len⟩
theorem aK8{fs:aa al}{o:HO}(u:Un fs [] H H2 h h6)(hg:h.get? a=aj)(hn:H2 a=aj):Un fs [] H (upd H2 a o) h h6:=by
 have ne:∀b ob,h.get? b=ae ob->b≠a:=λb ob q z=>by rw[z,hg] at q;cases q
 refine⟨u.keep,u.slot,λb ob q n hx=>by rw[bD (ne b ob q)];exact u.free b ob q n hx,u.there,λb xs q=>?_,λb ob xs q=>?_,λb ps q=>?_⟩
 ·have z:=u.tups b xs q;rw[bD (cD z hn)];exact z
 ·have z:=u.frzs b ob xs q;rw[bD (cD z hn)];exact z
 ·obtain⟨m,z⟩:=u.tbls b ps q;exact⟨m,by rw[bD (cD z hn)];exact z⟩
theorem aH5{P:bu}{w:bo}{o:HO}(x:HOk P w H2 h6)(hn:H2 a=aj)(new:iC P w (upd H2 a o) h6 a o):HOk P w (upd H2 a o) h6:=λb u e=>by
 by_cases hb:b=a
 ·subst hb;rw[aN] at e;cases e;exact new
 ·rw[bD hb] at e;exact(x b u e).stay (λc v _ q=>q) (λc q=>by rw[bD (cD q hn)];exact q) λc xs q=>by rw[bD (cD q hn)];exact q
theorem aDw{i:ah}{x:Str}{v:ay ak}{t':ah}{h':aS}{m:Str->ay ak}(I:Inv X Ψ σ H s)(hN:X.N.Nodup)(hi:X.N[i]?=ae x)(hn:s.heap.Ns X.env.locals m)
 (hl:∀(i:ah) (x:Str) (v:V),X.N[i]?=ae x->σ[i]?=ae (ae v)->Vis X.env.scope x->∃u,RelV v u/\Look X.env s.heap m x u)
 (hn':h'.Ns X.env.locals (λy=>if y=x then v else m y))(hs:kC X.env.locals s.heap h'):Inv X Ψ (σ.set i aj) H {s with heap:=h',toks:=t'}:=by
 have hiσ:i<σ.length:=by rw[I.len];exact(d4.mp hi).1
 have cne:=I.cne;have ne:∀b o,X.s₀.heap.get? b=ae o->b≠X.env.locals:=λb o e=>c9 (dz (bS e) I.ok.above)
 refine⟨I.ok,I.os,I.bare,⟨λb o e n hb hx=>(hs.2 b (ne b o e)).trans (I.base.keep b o e n hb hx),λb o e n hb hx=>?_,I.base.free,λb o e hx=>?_,I.base.tups,I.base.frzs,I.base.tbls⟩,⟨_,hn',λj y v' e1 e2 e3=>?_⟩,λy c e=>?_,I.free,I.freeC,λp hp=>?_,λb ob e=>?_,by simpa using I.len⟩
 ·obtain⟨sl,e1⟩:=I.base.slot b o e n hb hx;exact⟨sl,(hs.2 b (ne b o e)).trans e1⟩
 ·obtain⟨o',e1⟩:=I.base.there b o e hx;exact⟨o',(hs.2 b (ne b o e)).trans e1⟩
 ·by_cases hj:j=i
  ·subst hj;rw[fi hiσ] at e2;cases e2
  ·rw[en (Ne.symm hj)] at e2;obtain⟨u',r',q⟩:=hl j y v' e1 e2 e3;refine⟨u',r',?_⟩;rcases q with ⟨k,e⟩|⟨k,c,e,z⟩
   ·refine .inl ⟨k,?_⟩;have:y≠x:=λe=>hj (FQ hN e1 (e▸hi))
    simp[this,e]
   ·exact .inr ⟨k,c,e,z.sameBut hs (cne y c e)⟩
 ·obtain⟨w',z⟩:=I.cell y c e;exact⟨w',z.sameBut hs (cne y c e)⟩
 ·obtain⟨e,n,ne,nf,d⟩:=I.pin p hp;exact⟨(hs.2 p.1 ne).trans e,n,ne,nf,d⟩
 ·refine(I.hok b ob e).stay (λc w' hc q=>(hs.2 c ?_).trans q) (λ_ q=>q) λ_ _ q=>q
  intro z;rcases hc with hc|hc
  ·rw[<-hc,z,I.free] at e;cases e
  ·rw[z,I.free] at hc;cases hc
end
variable [KFrag]
theorem aDx{H:Hp}{a:al}{o:HO}(h:H a=aj):cX H (upd H a o):=λb u e=>by rw[bD (cD e h)];exact e
theorem JC:eI "ValueError"=ae (.type "ValueError"):=by decide +kernel
noncomputable def aIj(f:FE)(t:D->aa D->Res (aa D)):FS:=λρ=>do
 let d <- f ρ
 if d.pure then (do let ρ' <- t d ρ;.ok (.nx ρ')) else .bad
theorem aB6{X:Cx}{own:ah->aq}{e tg:Expr}{pos:cb}{fe:FE}{re:aq}{g:TG}{t:D->aa D->Res (aa D)}(he:PE X e (gE fe re))(ht:TgS own g t)(hg:PG X tg g)(hs:xA [tg] e pos.line X.env=pure ag:=by rfl)(hw:xB [tg] e X.env=pure aj:=by rfl)
 (h1:(jw [tg] X.env).map (·.2)=[jv tg X.env]:=by rfl):PS X (.Assign [tg] e pos) (tS own (aIj fe t)):=PS.imp (aJ0 he hg hs hw h1) λD' σ H z0=>by
 obtain⟨ρ,fl,E,h,q⟩:=z0;obtain⟨d,h1,h2⟩:=bL h;split at h2
 ·rename_i hp;obtain⟨ρ',h3,h4⟩:=bL h2;cases h4;refine⟨ρ,d,E.er,h1,λv H1 s1 r _=>ht v d ρ ρ' σ H1 _ (E.same s1) (r.bV hp) h3 λσ2 E2 hO=>?_⟩;have k0:KU own σ H1 σ2 H1:=λa o e n=>⟨e,by rw[hO];exact n⟩
  exact q σ2 H1 ((KU.same s1).trans k0) E2
 ·exact bx h2
end Mi
namespace Mi
open PySem
theorem aB7(o:bf)(f:aE ak->aE ak):(o.mapFields f).dict=o.dict:=by
 obtain⟨c,d,dt,sl⟩:=o;cases dt<;>rfl
theorem VP(T:al):(ff T !=fF)=af:=by simp
theorem aDy(L:al):¬((fF==gn L)=af):=by simp[gn]
def TrD(h B:aS)(e:al)(c:ak)(dd:ay al)(fl:ak):Prop:=
 ∃o vs T oT ts,(h.get? e=ae o/\o.cls=c/\o.dict=dd/\o.data=.fields vs)/\(vs[1]?=ae (.ref T)/\B.get? T=aj/\T≠e)/\h.get? T=ae oT/\oT.data=.fields ts/\ts[3]?=ae fl/\(dd≠aj->vs[2]?=ae .none)
def FD(B:aS)(l:aa c5)(e:al)(c:ak)(dd:ay al)(fl:ak)(h:aS):Prop:=B.StaysIn h/\B.get? e=aj/\h.FunFrames B l/\TrD h B e c dd fl
theorem FD.there{B h:aS}{l:aa c5}{e:al}{c fl:ak}{dd:ay al}(x:FD B l e c dd fl h):∃o,h.get? e=ae o/\o.cls=c/\o.dict=dd/\∃vs,o.data=.fields vs:=by
 obtain⟨_,_,_,o,vs,_,_,_,⟨a,b,d,f⟩,_⟩:=x;exact⟨o,a,b,d,vs,f⟩
section
variable {M:ij} {A:bP} {E:ak->ao->Prop} {s:ao} {B:aS} {env:c5} {outer l:aa c5} {L e:al} {oe:bf} {vs:aE ak} {head c:ak} {dd:ay al} {Q:gN->ao->Prop}
theorem R1{h:aS}{a:al}{o:bf}{ws:aE ak}(i:ah)(v:ak)(ho:h.get? a=ae o)(hd:o.data=.fields ws) :
  ∃h2:aS,h2=h.update a (sh (·.setIfInBounds i v))/\(∀b,b≠a->h2.get? b=h.get? b)/\∃o2,h2.get? a=ae o2/\o2.cls=o.cls/\o2.dict=o.dict/\o2.data=.fields (ws.setIfInBounds i v):=
 ⟨_,rfl,λb hb=>kh _ _ (Ne.symm hb),_,kq _ ho (AB (si hd _)),AC _ _,aB7 _ _,si hd _⟩
theorem VR{had:aq}(hfr:A.frames=ae (env::outer))(hl:s.heap.FunFrames B (env::outer))(hf:env.frame=ae L)(he:s.heap.get? e=ae oe)(hB:B.StaysIn s.heap)(hn:B.get? e=aj)(hd:oe.data=.fields vs)(hz:1<vs.size)(h2:oe.dict≠aj->vs[2]?=ae .none)
 (q:∀h',FD B (env::outer) e oe.cls oe.dict (gn L) h'->s.heap.UpToSlots h'->Q () {s with heap:=h'}) :
  ϑ M A (do let a <- frameOf env;let pl <- entryPlaceOf L had;let b <- AD head a .none (gn L) .none pl;wu (.ref e) 1 b) Q E s:=by
 have nf:e∉(env::outer).filterMap (·.frame):=λz=>by
  obtain⟨_,o,ho,k⟩:=hl.mem z;cases he.symm.trans ho;exact k _ hd
 refine aw (wpAny_frameOf_fun hfr hl hf λh1 so=>aw (wpAny_entryPlaceOf λpl hp=>?_));unfold AD;unfold newFields;refine aw (eW ?_ (hp.sizeOk5 _ _ _ _ _));generalize hon:({cls:=.type "traceback",dict:=aj,data:=.fields ([head,.ref L,.none,gn L,.none]++(if pl.isEmpty then ck 6 fF else pl)).toArray}:bf)=on;have e1:h1.get? e=ae oe:=(so.2.1 e nf).trans he;have B1:B.StaysIn h1:=λb o k=>(so.2.1 b λz=>by rw[(hl.mem z).1] at k;cases k).trans (hB b o k)
 have e2:=cq (h:=h1) on e1;obtain⟨h3,r3,k3,o3,g3,c3,d3,f3⟩:=R1 1 (.ref h1.objs.size) e2 hd;have ne:h1.objs.size≠e:=jx (bS e1);have t3:h3.get? h1.objs.size=ae on:=(k3 _ ne).trans (dg h1 (by rw[<-hon];rfl));have keep:∀b o,b≠e->h1.get? b=ae o->h3.get? b=ae o:=λb o hb k=>(k3 b hb).trans (cq _ k)
 have nr:∀b o,s.heap.get? b=ae o->(∀vs,o.data≠.fields vs)->b≠e:=λb o k z w=>by
  rw[w] at k;cases he.symm.trans k;exact z _ hd
 have up:s.heap.UpToSlots h3:=λb o k z=>by
  obtain⟨sl,w⟩:=so.2.2 b o k;exact⟨sl,keep b _ (nr b o k z) w⟩
 refine nj e2 hd hz ?_;rw[<-r3];refine q h3 ⟨λb o k=>keep b o (λz=>by rw[z,hn] at k;cases k) (B1 b o k),hn,hl.of_keeps λb o k z=>let ⟨sl,w⟩:=up b o k z;⟨_,w,rfl⟩,?_⟩ up;have don:on.data=.fields ([head,.ref L,.none,gn L,.none]++(if pl.isEmpty then ck 6 fF else pl)).toArray:=by rw[<-hon]
 exact⟨o3,_,h1.objs.size,on,_,⟨g3,c3,d3,f3⟩,⟨by simp[hz],B1.fresh,ne⟩,t3,don,by simp,λz=>by rw[Array.getElem?_setIfInBounds,az (by decide)];exact h2 z⟩
theorem uJ{fl:ak}(x:FD B l e c dd fl s.heap)(q:∀h',FD B l e c dd .none h'->s.heap.UpToSlots h'->Q () {s with heap:=h'}):ϑ M A (setFlight (.ref e) aj) Q E s:=by
 obtain⟨k1,k2,k3,o,vs,T,oT,ts,⟨g1,g2,g3,g4⟩,⟨t1,t2,t3⟩,u1,u2,u3,u4⟩:=x;obtain⟨h2,r2,j2,o2,p1,p2,p3,p4⟩:=R1 3 fF u1 u2;have hz:3<ts.size:=(sj.mp u3).1;have up:∀b o,s.heap.get? b=ae o->(∀vs,o.data≠.fields vs)->h2.get? b=ae o:=λb o k z=>(j2 b λw=>by
  rw[w] at k;cases u1.symm.trans k;exact z _ u2).trans k
 unfold setFlight;refine aw (jS g1 g4 t1 ?_);rw[av (VP T)];refine nj u1 u2 hz ?_;show Q () {s with heap:=s.heap.update T (sh (·.setIfInBounds 3 fF))};rw[<-r2];exact q h2 ⟨λb o k=>(j2 b λw=>by rw[w,t2] at k;cases k).trans (k1 b o k),k2,k3.of_keeps λb o k z=>⟨o,up b o k z,rfl⟩,o,vs,T,o2,_,⟨(j2 e (Ne.symm t3)).trans g1,g2,g3,g4⟩,⟨t1,t2,t3⟩,p1,p4,by simp[hz],u4⟩ λb o k z=>⟨o.slots,up b o k z⟩
theorem aB8(hfr:A.frames=ae (env::outer))(hf:env.frame=ae L)(x:FD B (env::outer) e c dd .none s.heap)(q:∀h',FD B (env::outer) e c dd (gn L) h'->s.heap.UpToSlots h'->Q () {s with heap:=h'}):ϑ M A (wv (.ref e) env) Q E s:=by
 obtain⟨k1,k2,k3,o,vs,T,oT,ts,⟨g1,g2,g3,g4⟩,⟨t1,t2,t3⟩,u1,u2,u3,u4⟩:=x;obtain⟨h2,r2,j2,o2,p1,p2,p3,p4⟩:=R1 3 fF u1 u2;have up:∀b o,s.heap.get? b=ae o->(∀vs,o.data≠.fields vs)->h2.get? b=ae o:=λb o k z=>(j2 b λw=>by
  rw[w] at k;cases u1.symm.trans k;exact z _ u2).trans k
 unfold wv;simp only[hf];refine aw (jS g1 g4 t1 ?_);rw[av (VP T)];refine aw (jS u1 u2 u3 ?_);rw[az (aDy L)];refine aw (nj u1 u2 (sj.mp u3).1 ?_);rw[<-r2];have g1':h2.get? e=ae o:=(j2 e (Ne.symm t3)).trans g1;subst g2 g3;refine VR (s:={s with heap:=h2}) hfr (k3.of_keeps λb o k z=>⟨o,up b o k z,rfl⟩) hf g1' (λb o k=>(j2 b λw=>by rw[w,t2] at k;cases k).trans (k1 b o k)) k2 g4 (sj.mp t1).1 u4 λh' y z=>q h' y λb o k w=>z b o (up b o k w) w
theorem aDz(hfr:A.frames=ae (env::outer))(hf:env.frame=ae L)(x:FD B (env::outer) e c dd .none s.heap)(q:∀h',FD B outer e c dd .none h'->s.heap.UpToSlots h'->Q () {s with heap:=h'}):ϑ M A (leaving env (.ref e)) Q E s:=by
 unfold leaving;refine aw (aB8 hfr hf x λh1 x1 u1=>uJ (s:={s with heap:=h1}) x1 λh2 x2 u2=>q h2 ⟨x2.1,x2.2.1,x2.2.2.1.2.2,x2.2.2.2⟩ (u1.trans u2))
theorem aE0(hfr:A.frames=ae (env::outer))(hf:env.frame=ae L)(hl:s.heap.FunFrames B (env::outer))(he:s.heap.get? e=ae oe)(hB:B.StaysIn s.heap)(hn:B.get? e=aj)(hd:oe.data=.fields vs)(hv:vs[1]?=ae .none)(h2:oe.dict≠aj->vs[2]?=ae .none)
 (q:∀h',FD B outer e oe.cls oe.dict .none h'->s.heap.UpToSlots h'->Q () {s with heap:=h'}):ϑ M A (leaving env (.ref e)) Q E s:=by
 unfold leaving wv;simp only[hf];refine aw (aw (jS he hd hv ?_));rw[az (by decide)];exact VR hfr hl hf he hB hn hd (sj.mp hv).1 h2 λh1 x1 u1=>uJ (s:={s with heap:=h1}) x1 λh2 x2 u2=>q h2 ⟨x2.1,x2.2.1,x2.2.2.1.2.2,x2.2.2.2⟩ (u1.trans u2)
end
open L2 PySem.W PySem.SeqAt PySem.Spec PyProof.Rows Builtin Builtin.ObjectAttr
theorem XO.stay(x:XO a C dx h1)(k:∀o,h1.get? a=ae o->h2.get? a=ae o):XO a C dx h2:=let ⟨o,e,r⟩:=x;⟨o,k _ e,r⟩
section
theorem aMm(x:XO a C dx h):iC P w H h a (.ext (XO a C dx)):=⟨x,let ⟨o,e,_⟩:=x;⟨o,e⟩,λ_ _ y k=>y.stay k⟩
end
def CX2(P:bu)(w:bo):CXT:=λouter H s E e s'=>∃(a C:al)(dd:ay al)(H1:Hp)(B:aS),e=.ref a/\s'.os=s.os/\ii s'.gens/\FD B outer a (.ref C) dd .none s'.heap/\
 (∀h6:aS,B.StaysIn h6->s'.heap.UpToSlots h6->Un (L2.frs outer) [] H H1 s.heap h6/\HOk P w H1 h6)/\H1 a=aj/\s.heap.get? a=aj/\E (.ref C) dd H1
section
variable {P:bu} {w:bo} {K:bz} {mg:Str->ay ak} {base:aS} {N:aa Str} {qual:Str} {scope:dS} {f C:al} {cd:ak} {A:bP} {outer:aa c5} {s:ao} {H:Hp} {E:XK}
theorem DK:TY (CX2 P w) (v4 (CX2 P w) P w K mg base N qual scope f cd A outer s H E) E:=by
 intro Ψ σ Hm sm e s' I hx;obtain⟨a,C,dd,H1,B,rfl,os',bare',fly,clo,hn,hgone,hE⟩:=hx
 let env:=dj qual scope s.heap.objs.size f cd
 have hfr:L2.frs (env::outer)=s.heap.objs.size::L2.frs outer:=by
  unfold L2.frs;rw[lI];rfl
 have u0:Un (L2.frs outer) [] H Hm s.heap sm.heap:=I.base;show ϑ (ax P w) (A.deeper env) (leaving env (.ref a)) (λ_ s''=>CX2 P w outer H s E (.ref a) s'') (λe' s''=>CX2 P w outer H s E e' s'') s';refine aDz I.ok.frames rfl fly λh' x1 x4=>?_
 have hgone0:s.heap.get? a=aj:=by
  cases q:s.heap.get? a with
  |none=>rfl
  |some o=>
   obtain⟨o',e1⟩:=u0.there a o q (by simp);rw[hgone] at e1;cases e1
 refine⟨a,C,dd,H1,B,rfl,os'.trans I.os,bare',x1,λh6 st up=>?_,hn,hgone0,hE⟩;obtain⟨u2,hok⟩:=clo h6 st (x4.trans up);have nL:∀b o,s.heap.get? b=ae o->b∉L2.frs outer->b∉L2.frs (env::outer):=λb o eb hb z=>by
  rw[hfr] at z;rcases bX.mp z with z|z
  ·exact bb (bS eb) (by rw[z];exact fg _)
  ·exact hb z
 refine⟨⟨λb o eb hn hb hx'=>u2.keep b o (u0.keep b o eb hn hb hx') (u0.free b o eb hn hx') (nL b o eb hb) (by simp),λb o eb hn hb hx'=>?_,λb o eb hn hx'=>?_,λb o eb hx'=>?_,λb xs q=>u2.tups b xs (u0.tups b xs q),λb o u q=>u2.frzs b o u (u0.frzs b o u q),λb ps q=>?_⟩,hok⟩
 ·obtain⟨sl,e1⟩:=u0.slot b o eb hn hb hx';obtain⟨sl',e2⟩:=u2.slot b _ e1 (u0.free b o eb hn hx') (show b∈L2.frs (env::outer) by rw[hfr];exact b6 _ hb) (by simp);exact⟨sl',e2⟩
 ·obtain⟨o',e1⟩:=u0.there b o eb hx';exact u2.free b o' e1 (u0.free b o eb hn hx') (by simp)
 ·obtain⟨o',e1⟩:=u0.there b o eb hx';exact u2.there b o' e1 (by simp)
 ·obtain⟨m1,q1⟩:=u0.tbls b ps q;obtain⟨m2,q2⟩:=u2.tbls b _ q1;exact⟨m1++m2,by rw[<-xu];exact q2⟩
end
end Mi
namespace Mi
open PySem L2 PySem.SeqAt PySem.Spec PyProof.Rows
noncomputable def intsOf:aa D->ay (aa ai)
 |[]=>ae []
 |.int i::r=>(intsOf r).map (i::·)
 |_::_=>aj
def XR:aa D->Res D
 |[.lst ds]=>match intsOf ds with
  |some ns=>if ns.all (λi=>ϒ (-1000<=i)&&ϒ (i<=1000))&&ϒ (ns.length<=100000) then .ok (.int ns.sum) else .bad
  |none=>.bad
 |_=>.bad
theorem M7:∀{ds:aa D}{ns:aa ai},intsOf ds=ae ns->ds=ns.map δ
 |[],ns,h=>by cases h;rfl
 |d::ds,ns,h=>by
  unfold intsOf at h;split at h
  ·rename_i e;cases e
  ·rename_i i r e;cases e;obtain⟨ms,h1,h2⟩:=nV.mp h;subst h2;rw[bw,<-M7 h1]
  ·cases h
theorem aB9(ps:aa (ai×e9)):∀j,j<=ps.length->preSum (lv ps.toArray) j=((ps.map (·.1)).take j).sum:=by
 intro j;induction j with
 |zero=>intro _;simp[preSum]
 |succ j ih=>
  intro hj;have hlt:j<ps.length:=by lia
  have e:lv ps.toArray j=(ps.map (·.1))[j]'(by simpa using hlt):=by simp[lv,hlt]
  rw[preSum,ih (by lia),e,<-List.take_append_getElem (by simpa using hlt),List.sum_append];simp
theorem M8(c:ai)(hc:0<=c):∀(l:aa ai),(∀i∈l,-c<=i/\i<=c)->-(c*l.length)<=l.sum/\l.sum<=c*l.length
 |[],_=>by simp
 |x::l,h=>by
  have h1:=h x (cu ..);have h2:=M8 c hc l λi hi=>h i (b6 _ hi)
  simp only[AE,cr,Int.natCast_add,Int.mul_add];simp only[Int.natCast_one,xE];lia
section
variable [KFrag]
section
variable {e:Expr}
theorem m_:∀{ns:aa ai}{ys:aa V}{its:aa ak},bW P H ys (ns.map δ)->Vals ys its->∃ps:aa (ai×e9),its=ps.map (λp=>lx p.1 p.2)/\ps.map (·.1)=ns
 |[],_,_,.nil,.nil=>⟨[],rfl,rfl⟩
 |n::ns,_,_,.cons r t,.cons v vs=>by
  obtain⟨ps,h1,h2⟩:=m_ t vs;cases r.inv;obtain⟨tk,rfl⟩:=v;exact⟨(n,tk)::ps,by rw[h1];rfl,by rw[bw,h2]⟩
theorem aK9(hc:X.calm=af):jG X (.builtin "sum") (rs XR af):=by
 rintro Ψ s σ H xs us Q I vr ⟨ds,d,r,e,k⟩;unfold XR at e;split at e
 ·split at e
  ·rename_i ns hns;split at e
   ·rename_i hb;rw[bj] at hb;cases e;obtain⟨vv,uu,rfl,rfl,r,v⟩:=fM r vr;obtain⟨l,ys,rfl,hl',rr⟩:=r.kW;cases v;rw[M7 hns] at rr;obtain⟨its,vi,il,_⟩:=I.list hl';obtain⟨ps,h1,h2⟩:=m_ rr vi;subst h1;have hlen:ps.length=ns.length:=by rw[<-h2,bp]
    have hn:ns.length<=100000:=ft hb.2;have hall:∀i∈ns,-1000<=i/\i<=1000:=λi hi=>by
     have:=dQ.mp hb.1 i hi;rw[bj,eD,eD] at this;exact this
    have ia:s.heap.IsList l (intItems ps.toArray):=by
     obtain⟨o,n,e1,e2,e3,e4⟩:=il;exact⟨o,e1,e2,n,by simpa[intItems] using e4⟩
    refine sum_intList (I.ok.hd hc) ia (λj hj=>?_) λh' tk t' kp=>⟨.int ns.sum,H,I.kept kp,⟨t',?_⟩,k _ _ (cX.refl H) (.int _) λ_=>.int _⟩
    ·have hj':j<ps.length:=by simpa using hj
     refine⟨?_,?_⟩
     ·have hm:lv ps.toArray j∈ns:=by
       have e:lv ps.toArray j=(ps.map (·.1))[j]'(by simpa using hj'):=by simp[lv,hj']
       rw[e,<-h2];exact jc _
      have:=hall _ hm;unfold InLong;lia
     ·rw[aB9 ps (j+1) (by lia),h2];have:=M8 1000 (by decide) (ns.take (j+1)) λi hi=>hall i (Ao hi)
      have hl:(ns.take (j+1)).length<=100000:=du (As ..) hn;unfold InLong;lia
    ·have:=aB9 ps ps.length (bi _);rw[h2,hlen,Ai] at this;rw[cv,hlen,this]
   ·exact bx e
  ·exact bx e
 ·exact bx e
theorem aKa:eI "sum"=ae (.builtin "sum"):=by decide +kernel
end
noncomputable def FZ(a:al)(o:bf):HO:=.ext λh=>h.get? a=ae o
def DV(H:Hp)(a:al)(kvs:aa (Key×V)):Prop:=H a=ae (.dK kvs)\/(kvs=[]/\H a=ae (.dT []))
def Itv(a:al)(o:bf)(kvs:aa (Key×V)):It where
 go:=λi H=>H a=ae (FZ a o)/\∃p,kvs[i]?=ae p
 yld:=λi H x H'=>H'=H/\∃k,kvs[i]?=ae (k,x)
 stop:=λi H=>H a=ae (FZ a o)/\kvs.length<=i
theorem aFg:∀{kvs:aa (κ×V)}{vs:aa (κ×ak)}{i:ah}{p:κ×V},KV kvs vs->kvs[i]?=ae p->∃u,vs[i]?=ae (p.1,u)/\RelV p.2 u
 |_,_,_,_,.nil,h=>by simp at h
 |_,_,0,_,.cons r _,h=>by
  simp at h;subst h;exact⟨_,by simp[r.1],r.2⟩
 |_,_,i+1,_,.cons _ t,h=>by
  obtain⟨u,h1,h2⟩:=aFg t (by simpa using h);exact⟨u,by simpa using h1,h2⟩
theorem aBa{K:bz}{a it:al}{o:bf}{kvs:aa (Key×V)}{vs:aa (Key×ak)}{ep:ah}(hd:∀h:aS,h.get? a=ae o->h.DictAt (cU P w) a vs ep)(rel:KV kvs vs) :
  Turn P w K tg (Itv a o kvs) [it] it (λi h=>h.IsValIter it a i vs.length ep) where
 mem:=by simp
 obj:=λi h st b hb=>by
  have e:b=it:=by simpa using hb
  subst e;obtain⟨o,e,c,d⟩:=st;exact⟨o,e,λv z=>by rw[d] at z;cases z⟩
 keep:=λi h h' st k=>st.at λo e=>k it (by simp) o e
 item:=by
  intro X hP hw hK hc i Ψ s σ H E I hf st hg;subst hP hw hK;obtain⟨ea,⟨k,x⟩,hx⟩:=hg;obtain⟨px,_⟩:=I.hok a _ ea;obtain⟨u,hu,ru⟩:=aFg rel hx;obtain⟨f0,f1,f2,f3,f4,f5⟩:=hf it (by simp);refine wpAny_pyNext_values_item st (hd _ px) hu λh' st' sb=>?_
  have I1:Inv X Ψ σ H {s with heap:=h'}:=I.turned (λb o hb e=>(sb.2 b hb).trans e) f0 f1 f3 f4 f5;obtain⟨o',e,c,d⟩:=id st';exact⟨u,rfl,ZC e c d (by decide) ⟨x,H,I1,ru,⟨rfl,k,hx⟩,st',λb hb=>(hf b hb).1⟩⟩
 done:=by
  intro X hP hw hK hc i Ψ s σ H E I hf st hg;subst hP hw hK;obtain⟨ea,hx⟩:=hg;obtain⟨px,_⟩:=I.hok a _ ea;obtain⟨f0,f1,f2,f3,f4,f5⟩:=hf it (by simp);have hl:kvs.length=vs.length:=i5 rel;exact wpAny_pyNext_values_end (I.ok.hd hc) st (hd _ px) (AF.mpr (by lia)) λh' eb=>⟨rfl,I.turned (λb o hb e=>eb b o hb e) f0 f1 f3 f4 f5⟩
 self:=λ_ _ _ _ _ st h=>wpAny_pyIter_valiter st h
section
variable {a:al}
theorem aKb(hu:DV H a kvs):L2.Mut (H a):=by
 rcases hu with h|⟨_,h⟩<;>rw[h]<;>trivial
theorem aBb(I:Inv X Ψ σ H s)(hu:DV H a kvs):kvs.length<=bq/\(a==eP)=ag/\∃vs,KV kvs vs/\s.heap.DictOf (cU X.prog X.w) a vs:=by
 rcases hu with h|⟨rfl,h⟩
 ·exact QT I.hok h
 ·exact QT (k_ I h).hok aN
theorem aBc:MtR X "dict.values" (λx xs H Q=>∃a kvs,x=.ref a/\xs=[]/\DV H a kvs/\∀vw,H vw=aj->Q (.ref vw) (upd H vw (.ext λh=>h.IsValuesView vw a))):=by
 rintro Ψ s σ H x xs v us Q I rx rxs ⟨a,kvs,e1,e2,hu,q⟩;subst e1 e2;cases rx;cases rxs;obtain⟨z,hs,vs,rel,dd⟩:=aBb I hu;have hfr:H s.heap.objs.size=aj:=I.hok.fresh (bi _);refine yu AG dd.typeIs PySem.F.entry_dict_values (PySem.F.args_dict_values_1 _) (meets_dict_values (cU X.prog X.w) a hs) ⟨⟨vs,dd⟩,?_⟩;refine⟨.ref s.heap.objs.size,_,I.laid (λb o e=>cq _ e) (bi _) ?_,rfl,q _ hfr⟩;have hg:=dg s.heap (o:={cls:=.type "dict_values",data:=.fields #[.ref a]}) rfl;exact⟨⟨_,hg,rfl,rfl⟩,⟨_,hg⟩,λh1 h2 ⟨o,e,r⟩ k=>⟨o,k o e,r⟩⟩
theorem aKc(I:Inv X Ψ σ H s)(hu:DV H a kvs)(ho:s.heap.get? a=ae o):∃u,H a=ae u/\∀(H':Hp)(h:aS),h.get? a=ae o->iC X.prog X.w H' h a u:=by
 rcases hu with h|⟨_,h⟩
 ·obtain⟨z,hs,vs,rel,o',es,ep,ho',c⟩:=I.hok a _ h;rw[ho] at ho';cases ho';exact⟨_,h,λH' h' e=>⟨z,hs,vs,rel,o,es,ep,e,c⟩⟩
 ·obtain⟨z,hs,xs,rel,o',es,ep,ho',c⟩:=I.hok a _ h;rw[ho] at ho';cases ho';cases rel;exact⟨_,h,λH' h' e=>⟨z,hs,[],.nil,o,es,ep,e,c⟩⟩
theorem aH6{tg:Expr}{x:Str}{i:ah}{np ap cp:cb}(hN:X.N[i]?=ae x)(hv:Vis X.env.scope x)(hd:nDb x:=by decide)(hcd:nCd x:=by decide)(hbase:i8 (.Name x np) "values" X.env (eval (.Name x np) X.env)=eval (.Name x np) X.env:=by rfl)(hline:(ap.endLine==cp.line)=af:=by rfl) :
  PI X tg (.Call (.Attribute (.Name x np) "values" ap) [] [] cp) (λσ H R=>∃a kvs,σ[i]?=ae (ae (.ref a))/\DV H a kvs/\∀o H1 u,cX H H1->H a=ae u->(∀(H':Hp)(h:aS),h.get? a=ae o->iC X.prog X.w H' h a u)->R (Itv a o kvs) (upd H1 a (FZ a o))):=by
 rintro Ψ s σ H R I ⟨a,kvs,hσ,hu,q⟩;have ty:tyV X.K "dict" (.ref a) H:=by
  rcases hu with h|⟨_,h⟩
  ·exact .inr (.inr (.inl ⟨rfl,.inl ⟨_,h⟩⟩))
  ·exact .inr (.inr (.inl ⟨rfl,.inr ⟨_,h⟩⟩))
 have hp:=aJg AH AG PySem.F.type_dict_values aBc (kI hN hv hd hcd) hbase hline;refine thn (hp Ψ s σ H (λv H1=>∃vw,v=.ref vw/\H1 vw=ae (.ext λh=>h.IsValuesView vw a)/\cX H H1) I ⟨.ref a,hσ,ty,a,kvs,rfl,rfl,hu,λvw hvw=>⟨vw,rfl,aN,cX.upd hvw⟩⟩) λu s1 ⟨v,H1,I1,r1,vw,e,evw,sm⟩=>?_
 subst e;cases r1;have hu1:DV H1 a kvs:=by
  rcases hu with h|⟨h0,h⟩
  ·exact .inl (sm _ _ h)
  ·exact .inr ⟨h0,sm _ _ h⟩
 obtain⟨z,hs,vs,rel,dd⟩:=aBb I1 hu1;obtain⟨ep,da⟩:=dd.dictAt;obtain⟨o,es,ho,r⟩:=id da;have hda:∀h:aS,h.get? a=ae o->h.DictAt (cU X.prog X.w) a vs ep:=λh e=>⟨o,es,e,r⟩
 obtain⟨pv,_⟩:=I1.hok vw _ evw;obtain⟨u,hu2,fu⟩:=aKc I1 hu1 ho;have hu0:H a=ae u:=by
  rcases hu with h|⟨_,h⟩
  ·rw[sm _ _ h] at hu2;rw[h];exact hu2
  ·rw[sm _ _ h] at hu2;rw[h];exact hu2
 have If:Inv X Ψ σ (upd H1 a (FZ a o)) s1:=I1.write (aKb hu1) (.inl rfl) (λ_ _ _ q=>q) ⟨o,ho⟩ ⟨ho,⟨o,ho⟩,λh1 h2 e k=>k o e⟩;refine wpAny_pyIter_values pv da ?_;have I2:Inv X Ψ σ (upd H1 a (FZ a o)) {s1 with heap:=s1.heap.push {cls:=.type "dict_valueiterator",data:=.fields #[.ref a,.int 0 0,.int vs.length 0,.int ep 0]}}:=If.kept λb o e=>cq _ e
 refine⟨s1.heap.objs.size,[s1.heap.objs.size],λi h=>h.IsValIter s1.heap.objs.size a i vs.length ep,Itv a o kvs,_,rfl,I2,aBa hda rel,⟨_,dg _ rfl,rfl,rfl⟩,λb hb=>?_,q o H1 u sm hu0 fu⟩;have e:b=s1.heap.objs.size:=by simpa using hb
 subst e;exact If.aEy (bi _) (If.hok.fresh (bi _))
end
theorem VV(ea:∀ob,H a=ae ob->YX ob=af)(b:al)(o:HO)(e:H b=ae o)(h:YX o=ag):upd H a u b=ae o:=by
 rw[bD λz=>by rw[z] at e;rw[ea _ e] at h;cases h];exact e
theorem JD{P:al->Prop}(ea:∀ob,H a=ae ob->YX ob=af)(q:Rep P H v d)(h:d.pure=af):Rep P (upd H a u) v d:=q.G6 (VV ea) h
theorem uK{P:al->Prop}(ea:∀ob,H a=ae ob->YX ob=af)(q:bW P H v d)(h:θ d=af):bW P (upd H a u) v d:=q.G6 (VV ea) h
theorem vK:∀{acc:aa D}{y:D},θ acc=af->y.pure=af->θ (acc++[y])=af
 |[],y,_,h=>by show(y.pure&&af)=af;rw[h];rfl
 |x::acc,y,h,hy=>by
  rw[θ,bj] at h;show(x.pure&&θ (acc++[y]))=af;rw[h.1,vK h.2 hy];rfl
noncomputable def aIk(n:ah)(f:FE):aa D->Res (aa D)
 |[]=>.ok []
 |d::ds=>do
  let y <- f (ck n .uD++[d])
  if y.pure then (do let ys <- aIk n f ds;.ok (y::ys)) else .bad
def aE1(i n:ah)(f:FE):FE:=λρ=>do
 let d <- jH i ρ
 match d with
 |.dct kvs=>if ϒ (kvs.length<=lim)&&(kvs.all (λp=>!isTup p.1)&&θ (kvs.map (·.2))) then (do let ys <- aIk n f (kvs.map (·.2));pure (.lst ys)) else .bad
 |_=>.bad
theorem yP{P:al->Prop}{H:Hp}:∀{kvs:aa (Key×V)}{ds:aa (D×D)},kE P H kvs ds->bW P H (kvs.map (·.2)) (ds.map (·.2))
 |_,_,.nil=>.nil
 |_,_,.cons r t=>.cons r (yP t)
section
theorem aH7(S:cZ X.N X.env.scope scope [c])(hn:X.N.length=n)(hcalm:X.calm=af)(hN:X.N[i]?=ae x)(hv:Vis X.env.scope x)(hg:∀y,PG (mkC X scope [c] y) (.Name c cpos) (uW n))(he:∀y,PE (mkC X scope [c] y) elt (gE fe re))
 (hs:∀z,d6 (.Call (.Attribute (.Name x np) "values" ap) [] [] cp) X.env z=pure z)(hd:nDb x:=by decide)(hcd:nCd x:=by decide)(hbase:i8 (.Name x np) "values" X.env (eval (.Name x np) X.env)=eval (.Name x np) X.env:=by rfl)(hline:(ap.endLine==cp.line)=af:=by rfl) :
  PE X (.ListComp elt [⟨.Name c cpos,.Call (.Attribute (.Name x np) "values" ap) [] [] cp,[],0⟩] scope pos) (gE (aE1 i n fe) af):=by
 rintro Ψ s σ H Q I ⟨ρ,d,E,h,q⟩;obtain⟨d0,h1,h2⟩:=bL h;obtain⟨v,hσ,r,ed⟩:=E.var h1;split at h2
 ·rename_i ds;split at h2
  ·rename_i hb;rw[bj,bj] at hb;obtain⟨ys,h3,h4⟩:=bL h2;cases h4;obtain⟨a,kvs,rfl,hu,rv⟩:∃a kvs,v=.ref a/\DV H a kvs/\bW All H (kvs.map (·.2)) (ds.map (·.2)):=by
    cases r with
    |dK e _ rk _=>exact⟨_,_,rfl,.inl e,yP rk⟩
    |dT e _ rt _=>
     cases rt with
     |nil=>exact⟨_,[],rfl,.inr ⟨rfl,e⟩,.nil⟩
     |cons r t=>simp[isTup] at hb
   have hlen:kvs.length=(ds.map (·.2)).length:=by have:=rv.length;simpa using this
   have hlim:ds.length<=lim:=ft hb.1;have key:=UT (pos:=pos) S hcalm (aH6 (tg:=.Name c cpos) (np:=np) (ap:=ap) (cp:=cp) hN hv hd hcd hbase hline) (λX' cc=>by obtain⟨y,rfl⟩:=jQ cc;exact hg y) (λX' cc=>by obtain⟨y,rfl⟩:=jQ cc;exact he y) hs Ψ s σ H
    (λv H'=>∃o u,H a=ae u/\H' a=ae (FZ a o)/\(∀(H':Hp)(h:aS),h.get? a=ae o->iC X.prog X.w H' h a u)/\Q v (upd H' a u)) I
   refine thn (key ⟨a,kvs,hσ,hu,λo H1 u sm hu0 fu p hp=>?_⟩) λw s' ⟨v,H',I',rv',o,u,hu0,ea,fu,q'⟩=>?_
   ·have hpa:p≠a:=λz=>by subst z;rw[aN] at hp;cases hp
    have hp1:H1 p=aj:=by rw[bD hpa] at hp;exact hp
    have hp0:H p=aj:=sm.free hp1;have hσl:σ.length=n:=I.len.trans hn;refine⟨λi' n' vs H'=>n'=kvs.length-i'/\i'<=kvs.length/\H' p=ae (.lst vs)/\cX (upd H1 a (FZ a o)) H'/\∃acc rest,bW All H' vs acc/\θ acc=af/\acc.length=i'/\aIk n fe ((ds.map (·.2)).drop i')=.ok rest/\ys=acc++rest,⟨kvs.length,rfl,eS _,aN,cX.upd hp,[],ys,.nil,rfl,rfl,h3,rfl⟩,?_⟩;rintro i' n' vs H' ⟨rfl,hi,hH,sH,acc,rest,racc,pacc,lacc,hv,hys⟩;have ea:H' a=ae (FZ a o):=sH a _ aN;refine⟨hH,?_⟩;rcases mP i' kvs.length with hlt|hge
    ·refine .inr ⟨⟨ea,_,dP hlt⟩,?_,λx H2 hy=>?_⟩
     ·rw[racc.length,lacc];rw[hlen,bp] at hlt;exact dz hlt (du hlim (by rw[fo];decide))
     ·obtain⟨rfl,k,hx⟩:=hy;have hlt2:i'<(ds.map (·.2)).length:=hlen▸hlt;obtain⟨dx,hdx,rx⟩:=rv.at (i:=i') (v:=x) (by simp[hx]);have edx:(ds.map (·.2))[i']=dx:=by
       have:=dP hlt2;rw[hdx] at this;exact(cz this).symm
      have pdx:dx.pure=af:=by
       have:∀(l:aa D),θ l=af->∀e∈l,e.pure=af:=by
        intro l;induction l with
        |nil=>intro _ e he;cases he
        |cons z l ih=>
         intro hz e he;rw[θ,bj] at hz;rcases bX.mp he with rfl|he
         ·exact hz.1
         ·exact ih hz.2 e he
       exact this _ hb.2.2 dx (me hdx)
      rw[gq hlt2,edx] at hv;obtain⟨y,hy1,hv2⟩:=bL hv;split at hv2
      ·rename_i py;obtain⟨ys2,hv3,hv4⟩:=bL hv2;cases hv4;have hun:∀ob,H1 a=ae ob->YX ob=af:=λxs z=>by
        rcases hu with h|⟨_,h⟩<;>(rw[sm _ _ h] at z;cases z;rfl)
       have rx2:Rep All H2 x dx:=(JD (u:=FZ a o) hun (rx.same sm) pdx).same sH;have hset:(σ++ck [c].length aj).set n (ae x)=σ++[ae x]:=by
        rw[zf _ _ (by lia),hσl,Nat.sub_self];rfl
       refine⟨⟨by simp,λj v hj=>?_⟩,?_⟩
       ·rw[hset];by_cases hjn:j<σ.length
        ·rw[ip hjn] at hj ⊢;exact hj
        ·rw[eL (by lia),io] at hj;split at hj<;>cases hj
       ·show(if af=af then _ else _);rw[av rfl,hset];have ER2:ER H2 (σ++[ae x]) (ck n .uD++[dx]):=λj hj=>by
         rcases Nat.lt_trichotomy j n with hjn|rfl|hjn
         ·exact bb (by rw[dh,ip (by simpa using hjn),io,av hjn];rfl) hj
         ·refine⟨x,by rw[<-hσl,eL (bi _)];simp,?_⟩;have:(ck j D.uD++[dx]).getD j .uD=dx:=by
           rw[dh,eL (by simp)];simp
          rw[this];exact rx2
         ·exact bb (by rw[dh,ww (by simp;lia)];rfl) hj
        refine⟨_,y,ER2,hy1,λw H5 s5 r5 _=>⟨s5 p _ hH,kvs.length-(i'+1),by lia,rfl,hlt,aN,?_,acc++[y],ys2,?_,?_,by simp[lacc],hv3,by rw[hys,eh];rfl⟩⟩
        ·exact λb ob e=>by
          rw[bD (cD e hp)];exact s5 b ob (sH b ob e)
        ·have hp5:H5 p=ae (.lst vs):=s5 p _ hH;have hpn:∀ob,H5 p=ae ob->YX ob=af:=λxs z=>by rw[hp5] at z;cases z;rfl
         have pall:θ (acc++[y])=af:=vK pacc py;exact uK hpn ((racc.same s5).snoc r5) pall
        ·exact vK pacc py
      ·exact bx hv2
    ·refine .inl ⟨⟨ea,hge⟩,o,u,hu0,ea,fu,?_⟩;rw[oS (by lia)] at hv;cases hv;rw[fS] at hys;subst hys;have hna:∀ob,H' a=ae ob->YX ob=af:=λxs z=>by rw[ea] at z;cases z;rfl
     have sF:cX H (upd H' a u):=λb ob e=>by
      by_cases hba:b=a
      ·subst hba;rw[aN,<-hu0];exact e
      ·rw[bD hba];exact sH b ob (by rw[bD hba];exact sm b ob e)
     have hpF:upd H' a u p=ae (.lst vs):=by rw[bD hpa];exact hH
     have rF:∀{P:al->Prop},bW P (upd H' a u) vs ys:=λ{P}=>(uK hna racc pacc).bV pacc
     exact q _ _ sF (.lst hpF trivial rF) λ_=>.lst hpF hp0 rF
   ·obtain⟨px,_⟩:=I'.hok a _ ea;exact⟨v,_,I'.write (t':=s'.toks) (x:=a) (e:=a) (h':=s'.heap) (o:=u) (by rw[ea];trivial) (.inl rfl) (λ_ _ _ q=>q) ⟨o,px⟩ (fu _ _ px),rv',q'⟩
  ·exact bx h2
 ·exact bx h2
end
structure aMn(K:bz)(x qual:Str)(st:bE)(f:al)(fd:eo)(T:al)(its:aE ak):Prop where
 ex:∃(oc:ak)(od:ay al)(kV doc pm:ak)(an:ay al)(cdv ct:ak)(osl:aE (ay ak)),
  fd=jI x qual (lK st) (gK st) (aP st) (.ref T) kV doc pm an cdv ct/\K.lookup f=ae ⟨oc,od,.func fd,osl⟩/\nB K cdv qual=af
 kp:jz K (.ref f)=af
 df:∃(tc:ak)(td:ay al)(tn:ah)(tl:aE (ay ak)),K.lookup T=ae ⟨tc,td,.seq its tn,tl⟩
theorem aKd(h:(cU P w).is k v=af):RelV (kV k) v:=by
 have h:QC k v=af:=h;rcases cT h with ⟨i,t,rfl,rfl⟩|⟨x,t,rfl,rfl⟩
 ·exact⟨t,rfl⟩
 ·exact⟨t,rfl⟩
theorem aKe(r:Rep P H (.ref a) (.dct ds))(hua:H a=ae u)(hp:θ (ds.map (·.2))=af):Rep P' (upd H a (.frz o u)) (.ref a) (.fdc ds):=by
 have hna:∀ob,H a=ae ob->YX ob=af:=λxs z=>by
  cases r with
  |dK e _ _ _=>rw[e] at z;cases z;rfl
  |dT e _ _ _=>rw[e] at z;cases z;rfl
 have goK:∀{kvs:aa (Key×V)}{ds:aa (D×D)},kE P H kvs ds->θ (ds.map (·.2))=af->kE P' (upd H a (.frz o u)) kvs ds:=by
  intro kvs ds r;induction kvs generalizing ds with
  |nil=>cases r;intro _;exact .nil
  |cons p kvs ih=>cases r with
   |cons r t=>
    intro h;rw[bw,θ,bj] at h;exact .cons ((JD hna r h.1).bV h.1) (ih t h.2)
 have goT:∀{kvs:aa (aa Key×V)}{ds:aa (D×D)},sO P H kvs ds->θ (ds.map (·.2))=af->sO P' (upd H a (.frz o u)) kvs ds:=by
  intro kvs ds r;induction kvs generalizing ds with
  |nil=>cases r;intro _;exact .nil
  |cons p kvs ih=>cases r with
   |cons r t=>
    intro h;rw[bw,θ,bj] at h;exact .cons ((JD hna r h.1).bV h.1) (ih t h.2)
 cases r with
 |dK e _ r n=>rw[e] at hua;cases hua;exact .fdK aN (goK r hp) n
 |dT e _ r n=>rw[e] at hua;cases hua;exact .fdT aN (goT r hp) n
section
variable {own:ah->aq}
noncomputable def uL(own:ah->aq)(i:ah):ah->aq:=λj=>own j&&!(j==i)
theorem lC(h:uL own i j=af):own j=af/\j≠i:=by
 unfold uL at h;simpa using h
theorem Own.of(h:Own (uL own i) σ b):Own own σ b:=by
 obtain⟨j,hj,e⟩:=h;exact⟨j,(lC hj).1,e⟩
theorem aMo(E:ES own H σ ρ)(ho:own i=af)(hσ:σ[i]?=ae (ae (.ref a)))(hd:ρ.getD i .uD=.dct ds)(hua:H a=ae u)(hmu:W_ u=af):ES (uL own i) (upd H a (.frz o u)) σ (ρ.set i (.fdc ds))/\¬Own (uL own i) σ a:=by
 obtain⟨a',oa,ea,ra,hin,hHa,hma,huq⟩:=E.own i _ ho hσ;cases ea;rw[hd] at ra hin;have hna:¬Own (uL own i) σ a:=λ⟨j,hj,e⟩=>(lC hj).2 (huq j (lC hj).1 e)
 have hOa:Own own σ a:=⟨i,ho,hσ⟩
 have hl:i<ρ.length:=by rw[<-E.len];exact(d4.mp hσ).1
 refine⟨⟨by simp[E.len],λj hj=>?_,λj w hj hw=>?_⟩,hna⟩
 ·rw[dO] at hj ⊢;by_cases h:i=j/\i<ρ.length
  ·rw[av h];obtain⟨rfl,_⟩:=h;exact⟨_,hσ,λ_=>aKe ra hua hin⟩
  ·rw[az h] at hj ⊢;have hij:i≠j:=λz=>h ⟨z,hl⟩
   obtain⟨w,h1,h2⟩:=E.at_ j hj;refine⟨w,h1,λhj2=>?_⟩;have hoj:own j=ag:=by
    unfold uL at hj2;cases hq:own j with
    |false=>rfl
    |true=>rw[hq] at hj2;simp at hj2;exact bb hj2.symm hij
   refine(h2 hoj).keep (λb ob hb hp=>?_) λb hb hq=>hb hq.of
   rw[bD]
   ·exact hb
   ·intro z;subst z;rcases hp with hp|hp
    ·exact hp hOa
    ·rw[hua] at hb;cases hb;rw[hmu] at hp;cases hp
 ·obtain⟨hoj,hji⟩:=lC hj;rw[dO,az λz=>hji z.1.symm];obtain⟨b,ob,h1,h2,h3,h4,h5,h6⟩:=E.own j w hoj hw;subst h1;have hba:b≠a:=λz=>by subst z;exact hji (huq j hoj hw)
  refine⟨b,ob,rfl,?_,h3,by rw[bD hba];exact h4,h5,λk hk hs=>h6 k (lC hk).1 hs⟩;refine(h2.aLk (P':=λc=>c=b) h3 rfl).keep (λc oc hc hp=>?_) λ_ _=>trivial
  rw[bD]
  ·exact hc
  ·intro z;subst z;rcases hp with hp|hp
   ·exact hba hp.symm
   ·rw[hHa] at hc;cases hc;rw[hma] at hp;cases hp
end
end
def aLm(i:ah)(f:FE):FS:=λρ=>do
 let d <- f ρ
 match ρ.getD i .uD,d with
 |.lst xs,.lst ys=>if ϒ (xs.length+ys.length<=lim)&&θ ys then .ok (.nx (ρ.set i (.lst (xs++ys)))) else .bad
 |_,_=>.bad
noncomputable def aH8:aa D->Res D
 |[.bl b]=>.ok (.int (if b then 1 else 0))
 |[.int i]=>.ok (.int i)
 |_=>.bad
section
variable [KFrag]
theorem aBd{X:Cx}:jG X (.type "int") (rs aH8 af):=by
 rintro Ψ s σ H xs us Q I vr ⟨ds,d,r,e,k⟩;unfold aH8 at e;split at e
 ·cases e;obtain⟨vv,uu,rfl,rfl,r,v⟩:=fM r vr;cases r.inv;cases v;exact call_int_bool ⟨.int _,H,I.tok _,⟨_,rfl⟩,k.int⟩
 ·cases e;obtain⟨vv,uu,rfl,rfl,r,v⟩:=fM r vr;cases r.inv;obtain⟨t,rfl⟩:=v;exact call_int_int ⟨.int _,H,I,⟨_,rfl⟩,k.int⟩
 ·exact bx e
section
variable {X:Cx} {own:ah->aq} {e:Expr} {fe:FE} {re:aq} {pos:cb}
theorem aKf{i:ah}{x:Str}{p1 apos cpos:cb}(ho:own i=af)(hN:X.N[i]?=ae x)(hv:Vis X.env.scope x)(he:PE X e (gE fe re))(hd:nDb x:=by decide)(hcd:nCd x:=by decide)
 (hbase:i8 (.Name x p1) "extend" X.env (eval (.Name x p1) X.env)=eval (.Name x p1) X.env:=by rfl)
 (hs1:br [e] X.env=(ag,eval e X.env)::br [] X.env:=by rfl)
 (hfew:((dA cpos (br [e] X.env)).all (λx=>!x.1)&&(mh cpos (mi [] X.env)).all (λx=>x.1.isSome)
  &&ϒ (([e]:aa Expr).length+([]:aa iq).length+(if ([]:aa iq).isEmpty then 0 else 1)<30))=af:=by rfl)
 (hline:(apos.endLine==cpos.line)=af:=by rfl)
 (hs:dL (.Call (.Attribute (.Name x p1) "extend" apos) [e] [] cpos) aj pos.line X.env=pure ag:=by rfl) :
  PS X (.Expr (.Call (.Attribute (.Name x p1) "extend" apos) [e] [] cpos) pos) (tS own (aLm i fe)):=
 PS.imp (xJ (aD0 wk yp PySem.F.type_list_extend ZQ (kI hN hv hd hcd) (jW he xM hs1) hbase hfew hline hs1 rfl) hs) λD' σ H z0=>by
 obtain⟨ρ,fl,E,h,q⟩:=z0;obtain⟨d,h1,h2⟩:=bL h;split at h2
 ·rename_i xs ys hx;split at h2
  ·rename_i hk;cases h2;rw[bj,eD] at hk;obtain⟨a,o,hσ,r,hin,ha,hm⟩:=E.ownAt ho (by rw[hx];intro z;cases z);rw[hx] at r hin;obtain⟨vs,hl,rr⟩:=aAo r;refine⟨_,hσ,.inl ⟨rfl,vs,.of hl⟩,ρ,_,E.er,h1,λv H' s rv _=>?_⟩;obtain⟨b,zs,rfl,hb,_,rz⟩:=rv.inv;have E':=E.same s;have hl':=s _ _ hl;refine⟨a,b,vs,zs,rfl,rfl,hl',hb,by rw[rr.length,rz.length];exact du hk.1 (by rw[fo];decide),?_⟩;have hp:θ (xs++ys)=af:=by rw[yL,bj];exact⟨hin,hk.2⟩
   obtain⟨E2,k2⟩:=E'.mut (o:=.lst (vs++zs)) (d:=.lst (xs++ys)) ho hσ rfl (.lst aN trivial (((rr.same s).append rz).upd hp hl' rfl)) hp;exact q _ _ ((KU.same s).trans k2) E2
  ·exact bx h2
 ·exact bx h2
end
end
noncomputable def aIl:D->ay (aa D)
 |.lst xs=>ae xs
 |.cel _ xs=>ae xs
 |_=>aj
noncomputable def bPu(f:FE):FE:=λρ=>do
 let d <- f ρ
 if d.pure then .ok d else .bad
section
variable [KFrag]
section
variable {own:ah->aq}
theorem aFh(r:Rep P H (.ref a) d)(h:aIl d=ae xs):∃vs,H a=ae (.lst vs)/\P a/\bW P H vs xs:=by
 cases d<;>simp only[aIl] at h<;>cases h<;>cases r
 ·exact⟨_,by assumption,by assumption,by assumption⟩
 ·exact⟨_,by assumption,by assumption,by assumption⟩
theorem aH9(r:Rep P H v (.cel b xs)):v=.ref b:=by cases r;rfl
theorem aKg(h:aIl d=ae xs):inner d=θ xs:=by
 cases d<;>simp only[aIl] at h<;>cases h<;>rfl
theorem aKh(h:aIl d=ae xs):d≠.uD:=λz=>by subst z;cases h
theorem ES.aOb(E:ES own H σ ρ)(ho:own i=af)(hi:σ[i]?=ae (ae (.ref a)))(hk:∀b ob,H b=ae ob->b≠a->H' b=ae ob)(e:H' a=ae o)(hm:W_ o=af)(r:Rep All H' (.ref a) d)(hin:inner d=af) :
  ES own H' σ (ρ.set i d)/\KU own σ H σ H':=by
 have hOa:Own own σ a:=⟨i,ho,hi⟩
 obtain⟨a',oa,ea,_,_,hHa,hma,huq⟩:=E.own i _ ho hi;cases ea;have k:KU own σ H σ H':=λb ob e n=>⟨hk b ob e (λz=>by subst z;exact n hOa),n⟩
 have hl:i<ρ.length:=by rw[<-E.len];exact(d4.mp hi).1
 refine⟨⟨by simp[E.len],λj hj=>?_,λj w hj hw=>?_⟩,k⟩
 ·rw[dO] at hj ⊢;by_cases h:i=j/\i<ρ.length
  ·obtain⟨rfl,_⟩:=h;exact⟨_,hi,λz=>by rw[ho] at z;cases z⟩
  ·rw[az h] at hj ⊢;obtain⟨w,h1,h2⟩:=E.at_ j hj;exact⟨w,h1,λhj=>k.rep E (h2 hj)⟩
 ·by_cases hij:i=j
  ·subst hij;rw[hi] at hw;cases hw;rw[dO,av ⟨rfl,hl⟩];exact⟨a,o,rfl,r,hin,e,hm,huq⟩
  ·rw[dO,az λz=>hij z.1];obtain⟨b,ob,h1,h2,h3,h4,h5,h6⟩:=E.own j w hj hw;subst h1;have hba:b≠a:=λz=>by subst z;exact hij (h6 i ho hi)
   refine⟨b,ob,rfl,?_,h3,hk _ _ h4 hba,h5,h6⟩;refine(h2.aLk (P':=λc=>c=b) h3 rfl).keep (λc oc hc hp=>?_) λ_ _=>trivial
   refine hk _ _ hc λz=>?_
   subst z;rcases hp with hp|hp
   ·exact hba hp.symm
   ·rw[hHa] at hc;cases hc;rw[hma] at hp;cases hp
end
section
variable {own:ah->aq} {a b e:Expr}
theorem aBe(E:ES own H σ ρ){i b:ah}{xs:aa D}(h:ρ.getD i .uD=.cel b xs):∃vs,σ[i]?=ae (ae (.ref b))/\H b=ae (.lst vs):=by
 obtain⟨v,h1,h2⟩:=E.er i (by rw[h];intro z;cases z);rw[h] at h2;obtain⟨_,rfl,e,_,_⟩:=h2.inv;exact⟨_,h1,e⟩
theorem aHa(E:ES own H σ ρ)(ho:own i=af)(h:aIl (ρ.getD i .uD)=ae xs):∃a vs,σ[i]?=ae (ae (.ref a))/\H a=ae (.lst vs)/\bW All H vs xs/\θ xs=af/\Rep All H (.ref a) (ρ.getD i .uD)/\∀b,ρ.getD i .uD=.cel b xs->b=a:=by
 obtain⟨a,o,hσ,r,hin,ha,hm⟩:=E.ownAt ho (aKh h);obtain⟨vs,e,_,rr⟩:=aFh r h;exact⟨a,vs,hσ,e,rr,by rw[aKg h] at hin;exact hin,r,λb hb=>by rw[hb] at r;have:=aH9 r;cases this;rfl⟩
end
section
variable {X:Cx} {a e:Expr}
theorem DN{a:al}{vs:aa V}(I:Inv X Ψ σ H s)(e:H a=ae (.lst vs)):∃o,Inv X Ψ σ (upd H a (.frz o (.lst vs))) s:=by
 obtain⟨its,n,r,ho,hz⟩:=I.lst e;refine⟨_,I.write (by rw[e];trivial) (.inl rfl) (λ_ _ _ q=>q) ⟨_,ho⟩ ⟨ho,hz,its,n,r,ho⟩⟩
end
end
def lD:aa D->Res D
 |[.scr xs]=>if θ xs then .ok (.lst xs) else .bad
 |_=>.bad
section
variable [KFrag]
section
theorem wY(hK:KFrag.K=X.K):jG X (.type "list") (rs lD af):=by
 rintro Ψ s σ H xs us Q I vr ⟨ds,d,r,e,k⟩;unfold lD at e;split at e
 ·split at e
  ·rename_i hl;cases e;obtain⟨vv,uu,rfl,rfl,r,v⟩:=fM r vr;obtain⟨l,ys,rfl,ee,rr⟩:=r.inv;cases v;refine m5 Ψ s σ H [.ref l] [.ref l] Q I (.cons rfl .nil) ⟨l,ys,rfl,.inl (ee.sq hK),λp hp=>?_⟩;have sp:cX H (upd H p (.lst ys)):=cX.upd hp;exact k _ _ sp (.lst aN trivial (rr.same sp)) λ_=>.lst aN hp ((rr.bV hl).same sp)
  ·exact bx e
 ·exact bx e
theorem M9(ha:PE X a (gE fa ra)):PE X a (gE (bPu fa) af):=PE.imp ha λσ H Q z0=>by
 obtain⟨ρ,d,E,h,q⟩:=z0;obtain⟨x,h1,h⟩:=bL h;split at h
 ·rename_i hp;cases h;exact⟨ρ,_,E,h1,λv H' s r _=>q v H' s r λ_=>r.bV hp⟩
 ·exact bx h
end
end
noncomputable def forL(a i:ah)(t:D->aa D->Res (aa D))(body:FS):ah->ah->aa D->Res Fl
 |0,_,_=>.bad
 |n+1,k,ρ=>match ρ.getD i .uD with
  |.cel a' ys=>if a'=a then (match ys[k]? with
   |none=>.ok (.nx ρ)
   |some x=>do
    let ρ1 <- t x ρ
    let r <- body ρ1
    match r with
    |.nx ρ'=>forL a i t body n (k+1) ρ'
    |.ct ρ'=>forL a i t body n (k+1) ρ'
    |_=>.bad) else .bad
  |_=>.bad
open Classical in
def JF(i:ah)(t:D->aa D->Res (aa D))(body:FS):FS:=λρ=>match ρ.getD i .uD with
 |.lst xs=>if h:∃p:aa D×aa D,i<p.1.length/\∀a,forL a i t body 10000 0 (ρ.set i (.cel a xs))=.ok (.nx (p.1.set i (.cel a p.2))) then .ok (.nx (h.choose.1.set i (.lst h.choose.2))) else .bad
 |_=>.bad
theorem aHb{i:ah}{t:D->aa D->Res (aa D)}{body:FS}{ρ xs:aa D}{r:Fl}(hx:ρ.getD i .uD=.lst xs)(h:JF i t body ρ=.ok r):∃(ρ' xs':aa D),i<ρ'.length/\r=.nx (ρ'.set i (.lst xs'))/\∀a,forL a i t body 10000 0 (ρ.set i (.cel a xs))=.ok (.nx (ρ'.set i (.cel a xs'))):=by
 unfold JF at h;rw[hx] at h;dsimp only at h;split at h
 ·rename_i e;cases h;exact⟨_,_,e.choose_spec.1,rfl,e.choose_spec.2⟩
 ·exact bx h
theorem aHc{i:ah}{t:D->aa D->Res (aa D)}{body:FS}{ρ xs ρ' xs':aa D}(hx:ρ.getD i .uD=.lst xs)(hl:i<ρ'.length)(h:∀a,forL a i t body 10000 0 (ρ.set i (.cel a xs))=.ok (.nx (ρ'.set i (.cel a xs')))):JF i t body ρ=.ok (.nx (ρ'.set i (.lst xs'))):=by
 have e:∃p:aa D×aa D,i<p.1.length/\∀a,forL a i t body 10000 0 (ρ.set i (.cel a xs))=.ok (.nx (p.1.set i (.cel a p.2))):=⟨(ρ',xs'),hl,h⟩
 have q:JF i t body ρ=.ok (.nx (e.choose.1.set i (.lst e.choose.2))):=by
  unfold JF;rw[hx];dsimp only;rw[ov e]
 rw[q];obtain⟨z1,z2⟩:=e.choose_spec;have z:=z2 0;rw[h 0] at z;injection z with z
 injection z with z
 have g1:=di (λl:aa D=>l.getD i .uD) z;simp only[dh,fi hl,fi z1,mM] at g1;injection g1 with _ g1
 have g2:=di (λl:aa D=>l.set i (.lst xs')) z;simp only[AI] at g2;rw[<-g1,<-g2]
section
variable [KFrag]
section
variable {own:ah->aq} {X:Cx} {pos:cb}
theorem ES.cel{H:Hp}{σ:L2.St}{ρ:aa D}{i:ah}{a:al}{d:D}(E:ES own H σ ρ)(ho:own i=af)(hi:σ[i]?=ae (ae (.ref a)))(r:Rep All H (.ref a) d)(hin:inner d=af):ES own H σ (ρ.set i d):=by
 obtain⟨a',o,e,_,_,h1,h2,_⟩:=E.own i _ ho hi;cases e;exact(E.aOb (H':=H) (o:=o) (d:=d) ho hi (λb ob e _=>e) h1 h2 r hin).1
theorem aKi{tg:Expr}{i:ah}{x:Str}(hN:X.N[i]?=ae x)(hv:Vis X.env.scope x)(hd:nDb x:=by decide)(hcd:nCd x:=by decide) :
  PI X tg (.Name x pos) (λσ H R=>∃a vs,σ[i]?=ae (ae (.ref a))/\H a=ae (.lst vs)/\R (Itl X.K a) H):=by
 rintro Ψ s σ H R I ⟨a,vs,hσ,e,q⟩;refine thn (kI (pos:=pos) hN hv hd hcd Ψ s σ H (λw H1=>w=.ref a/\H1=H) I ⟨_,hσ,rfl,rfl⟩) λu s1 ⟨w,H1,I1,ru,e1,e2⟩=>?_
 subst e1 e2;cases ru;obtain⟨its,rv,p,hz⟩:=I1.list (.inl (.inl e));refine ng p.isList ?_;refine⟨s1.heap.objs.size,[s1.heap.objs.size],_,_,H1,rfl,I1.kept (t':=s1.toks) λb o e=>cq _ e,sS a _,⟨_,dg _ rfl,rfl,rfl⟩,λb hb=>?_,q⟩;have e:b=s1.heap.objs.size:=by simpa using hb
 subst e;exact I1.aEy (bi _) (I1.hok.fresh (bi _))
theorem aHd{tg:Expr}{body:aa bE}{g:TG}{t:D->aa D->Res (aa D)}{i:ah}{x:Str}{px:cb}{fb:FS}(ho:own i=af)(hp:nq (ax X.prog X.w) X.A X.env X.xe)(hc:X.calm=af)(hN:X.N[i]?=ae x)(hv:Vis X.env.scope x)(ht:TgS own g t)(hg:PG X tg g)(hb:PSs X body (tS own fb))
 (hs:∀z,d6 (.Name x px) X.env z=pure z:=by intro _;rfl)(hd:nDb x:=by decide)(hcd:nCd x:=by decide):PS X (.For tg (.Name x px) body [] pos) (tS own (JF i t fb)):=PS.imp (TV hp hc (aKi hN hv hd hcd) hg hb hs) λD' σ H z0=>by
 obtain⟨ρ,fl,E,h,q⟩:=z0;have hx:∃xs,ρ.getD i .uD=.lst xs:=by
  unfold JF at h;split at h
  ·exact⟨_,by assumption⟩
  ·exact bx h
 obtain⟨xs,hx⟩:=hx;obtain⟨ρp,xs',hlp,rfl,hf⟩:=aHb hx h;obtain⟨a,vs,hσ,e0,rr,hin,rp,_⟩:=aHa E ho (xs:=xs) (by rw[hx];rfl);refine⟨a,vs,hσ,e0,?_⟩;have E0:ES own H σ (ρ.set i (.cel a xs)):=E.cel ho hσ (.cel e0 trivial rr) hin;refine⟨λk m σ' H'=>∃ρ',ES own H' σ' ρ'/\forL a i t fb m k ρ'=.ok (.nx (ρp.set i (.cel a xs')))/\kS own D' σ' H' (.nx (ρp.set i (.lst xs'))),⟨10000,_,E0,hf a,q⟩,?_⟩;rintro k m σ' H' ⟨ρ',E',hf',q'⟩;cases m with
 |zero=>exact bx hf'
 |succ m=>
  rw[forL] at hf';split at hf'
  ·rename_i a' ys hy;split at hf'
   ·rename_i ea;subst ea;obtain⟨ws,hσ',eb⟩:=aBe E' hy;obtain⟨b,o,eb2,rb,hin',hb1,hb2,_⟩:=E'.own i _ ho hσ';cases eb2;rw[hy] at rb hin';obtain⟨vs',e1,_,rr'⟩:=aFh rb rfl;split at hf'
    ·rename_i hk;injection hf' with hf'
     injection hf' with hf'
     subst hf';refine .inl ⟨⟨vs',.inl (.inl e1),by rw[rr'.length];exact AF.mp hk⟩,?_⟩;have g1:(ρp.set i (D.cel a' xs')).getD i .uD=.cel a' xs':=by rw[dh,fi hlp];rfl
     rw[g1] at hy;cases hy;have E2:ES own H' σ' ((ρp.set i (D.cel a' xs')).set i (.lst xs')):=E'.cel ho hσ' (.lst e1 trivial rr') hin';rw[AI] at E2;exact q' σ' H' (λb o e n=>⟨e,n⟩) E2
    ·rename_i dx hk;refine .inr ?_;obtain⟨v,h1,h2⟩:=rr'.get hk;have pdx:dx.pure=af:=jK.mp hin' dx (me hk);obtain⟨ρ1,g1,hf2⟩:=bL hf';obtain⟨r,g2,hf3⟩:=bL hf2;refine⟨⟨vs',v,.inl (.inl e1),h1⟩,λσ2 H2=>∃ρ',ES own H2 σ2 ρ'/\forL a' i t fb m (k+1) ρ'=.ok (.nx (ρp.set i (.cel a' xs')))/\kS own D' σ2 H2 (.nx (ρp.set i (.lst xs'))),λσ2 H2 w=>⟨m,jh m,w⟩,λx H2 hy2=>?_⟩;obtain⟨rfl,hyl⟩:=hy2;have hv2:=hyl vs' (.inl (.inl e1));rw[h1] at hv2;cases hv2;refine ht v dx ρ' ρ1 σ' H2 _ E' (h2.bV pdx) g1 λσ2 E2 hO=>?_
     have k0:KU own σ' H2 σ2 H2:=λa o e n=>⟨e,by rw[hO];exact n⟩
     refine⟨ρ1,r,E2,g2,?_⟩;cases r with
     |nx ρ2=>exact λσ3 H3 k3 E3=>⟨ρ2,E3,hf3,(q'.step k0).step k3⟩
     |ct ρ2=>exact λσ3 H3 k3 E3=>⟨ρ2,E3,hf3,(q'.step k0).step k3⟩
     |bk ρ2=>exact bx hf3
     |rt d=>exact bx hf3
   ·exact bx hf'
  ·exact bx hf'
end
end
open PySem.W
noncomputable def noE{α:Type}(f:aa D->Res α):aa D->Res α:=λρ=>match f ρ with|.ok a=>.ok a|_=>.bad
theorem lE(h:f ρ=.ok a):noE f ρ=.ok a:=by unfold noE;rw[h]
theorem M_{f:aa D->Res α}:(∃a,f ρ=.ok a/\noE f ρ=.ok a)\/noE f ρ=.bad:=by
 unfold noE;cases f ρ with
 |ok a=>exact .inl ⟨a,rfl,rfl⟩
 |err c as=>exact .inr rfl
 |bad=>exact .inr rfl
def noT(t:D->aa D->Res (aa D)):D->aa D->Res (aa D):=λx=>noE (t x)
section
variable [KFrag]
def aFi(own:ah->aq)(E:XK)(σ:L2.St)(H:Hp)(c:Str)(as:aa D):Prop:=∃fs C,as=[.exc c fs]/\nsIn KFrag.K bg c=ae (ae (.ref C))/\∀σ' H' dx,KU own σ H σ' H'->XDs H' fs dx->E (.ref C) dx H'
def kZ(own:ah->aq)(E:XK)(D:Ends)(σ:L2.St)(H:Hp):Res Fl->Prop
 |.ok fl=>kS own D σ H fl
 |.err c as=>aFi own E σ H c as
 |.bad=>cm
noncomputable def tZ(own:ah->aq)(E:XK)(f:FS):TS:=λD σ H=>∃ρ,ES own H σ ρ/\kZ own E D σ H (f ρ)
def R3(E:XK)(H:Hp)(c:Str)(as:aa D):Prop:=∃fs C,as=[.exc c fs]/\nsIn KFrag.K bg c=ae (ae (.ref C))/\∀H' dx,cX H H'->XDs H' fs dx->E (.ref C) dx H'
def kZE(E:XK)(H:Hp)(Q:VK):Res D->Prop
 |.ok d=>kR H d af Q
 |.err c as=>R3 E H c as
 |.bad=>cm
noncomputable def gZ(E:XK)(f:FE):TE:=λσ H Q=>∃ρ,ER H σ ρ/\kZE E H Q (f ρ)
noncomputable def spZ(f:aa D->Res D)(n:ah):Sp:=λvs H Q E=>∃ds,ds.length=n/\bW All H vs ds/\kZE E H Q (f ds)
def vL(P:bu)(w:bo)(K:bz)(mg:Str->ay ak)(base:aS)(k:ah)(x:Str)(n:ah)(f:aa D->Res D):Prop:=
 ∃(fad:al)(fd:eo)(ps:aa Str),TX P w K mg base (CX2 P w) k fad fd ps (spZ f n)/\mg x=ae (.ref fad)/\jz K (.ref fad)=af/\Binds K fd ps []
theorem vL.cal{K:bz}{base:aS}{k:ah}{x:Str}{n:ah}{f:aa D->Res D}(Z:vL P w K mg base k x n f):dC P w K mg base k x n f:=by
 obtain⟨fad,fd,ps,F,hm,hk,hb⟩:=Z;have go:∀{vs H Q E},spD f n vs H Q E->spZ f n vs H Q (λ_ _ _=>cm):=λ⟨ds,d,h1,r,h,q⟩=>⟨ds,h1,r,by rw[h];exact q⟩
 refine⟨fad,fd,ps,⟨λvs H Q E h=>F.len vs H Q _ (go h),λA outer s H args us vs Q E hr he hb hv h=>kH (F.run A outer s H args us vs Q _ hr he hb hv (go h)) λr s' hq=>?_⟩,hm,hk,hb⟩;cases r with
 |ok fl=>cases fl<;>exact hq
 |error e=>
  obtain⟨_,_,_,_,_,_,_,_,_,_,_,_,z⟩:=hq;exact z.elim
section
variable {own:ah->aq} {E:XK} {D':Ends} {σ σ':L2.St} {H H':Hp}
theorem aFi.step(k:KU own σ H σ' H')(h:aFi own E σ H c as):aFi own E σ' H' c as:=let ⟨fs,C,h1,h2,h3⟩:=h;⟨fs,C,h1,h2,λσ2 H2 dx k2 x=>h3 σ2 H2 dx (k.trans k2) x⟩
theorem kZ.step(k:KU own σ H σ' H')(h:kZ own E D' σ H r):kZ own E D' σ' H' r:=by
 cases r with
 |ok fl=>exact kS.step k h
 |err c as=>exact aFi.step k h
 |bad=>exact h
theorem aFi.expr(h:aFi own E σ H c as):R3 E H c as:=let ⟨fs,C,h1,h2,h3⟩:=h;⟨fs,C,h1,h2,λH' dx sm x=>h3 σ H' dx (.same sm) x⟩
end
section
variable {own:ah->aq} {E:XK} {X:Cx} {st:bE} {rest s1 s2:aa bE} {f g:FS} {c e:Expr} {gc:FT} {pos:cb} {fe:FE}
theorem yQ(h:PS X.nox st (tS own f)):PS X st (tZ own E (noE f)):=PS.imp (PS.nox h) λD σ H ⟨ρ,es,k⟩=>by
 rcases M_ with ⟨fl,h1,h2⟩|h2
 ·rw[h2] at k;exact⟨ρ,fl,es,h1,k⟩
 ·rw[h2] at k;exact k.elim
theorem R4:PSs X [] (tZ own E jM):=PSs.imp eN λD σ H ⟨ρ,es,k⟩=>⟨ρ,_,es,rfl,k⟩
theorem wG(h:PS X st (tZ own E f)):PSs X [st] (tZ own E f):=QK h
theorem mV(h1:PS X st (tZ own E f))(h2:PSs X rest (tZ own E g)):PSs X (st::rest) (tZ own E (bI f g)):=PSs.imp (TQ h1 h2) λD σ H ⟨ρ,es,k⟩=>by
 refine⟨ρ,es,?_⟩;cases hf:f ρ with
 |ok r=>
  cases r with
  |nx ρ'=>
   have e:bI f g ρ=g ρ':=by unfold bI;rw[hf];rfl
   rw[e] at k;exact λσ' H' ku E'=>⟨ρ',E',k.step ku⟩
  |bk ρ'=>
   have e:bI f g ρ=.ok (.bk ρ'):=by unfold bI;rw[hf];rfl
   rw[e] at k;exact k
  |ct ρ'=>
   have e:bI f g ρ=.ok (.ct ρ'):=by unfold bI;rw[hf];rfl
   rw[e] at k;exact k
  |rt d=>
   have e:bI f g ρ=.ok (.rt d):=by unfold bI;rw[hf];rfl
   rw[e] at k;exact k
 |err c as=>
  have e:bI f g ρ=.err c as:=by unfold bI;rw[hf];rfl
  rw[e] at k;exact k
 |bad=>
  have e:bI f g ρ=.bad:=by unfold bI;rw[hf];rfl
  rw[e] at k;exact k
theorem aHe(hc:PT X c (gT gc))(ha:PSs X s1 (tZ own E f))(hb:PSs X s2 (tZ own E g)):PS X (.If c s1 s2 pos) (tZ own E (sIf (noE gc) f g)):=PS.imp (aIy hc ha hb) λD σ H ⟨ρ,es,k⟩=>by
 rcases M_ (f:=gc) with ⟨b,h1,h2⟩|h2
 ·have e:sIf (noE gc) f g ρ=if b then f ρ else g ρ:=by unfold sIf;rw[h2];rfl
  rw[e] at k;refine⟨ρ,b,es.er,h1,λH' sm=>?_⟩;cases b with
  |true=>rw[av rfl];rw[av rfl] at k;exact⟨ρ,es.same sm,k.step (.same sm)⟩
  |false=>rw[az (by simp)];rw[az (by simp)] at k;exact⟨ρ,es.same sm,k.step (.same sm)⟩
 ·have e:sIf (noE gc) f g ρ=.bad:=by unfold sIf;rw[h2];rfl
  rw[e] at k;exact k.elim
theorem aKj(he:PE X e (gZ E fe))(hs:dL e aj pos.line X.env=pure ag:=by rfl):PS X (.Expr e pos) (tZ own E (wD fe)):=PS.imp (xJ he hs) λD σ H ⟨ρ,es,k⟩=>by
 refine⟨ρ,es.er,?_⟩;cases hfe:fe ρ with
 |ok d=>
  have e:wD fe ρ=.ok (.nx ρ):=by unfold wD;rw[hfe];rfl
  rw[e] at k;exact λv H' s r n=>k σ H' (.same s) (es.same s)
 |err c as=>
  have e:wD fe ρ=.err c as:=by unfold wD;rw[hfe];rfl
  rw[e] at k;exact aFi.expr k
 |bad=>
  have e:wD fe ρ=.bad:=by unfold wD;rw[hfe];rfl
  rw[e] at k;exact k.elim
end
section
variable {own:ah->aq} {E:XK}
theorem aBf{K:bz}{g:TG}{t:D->aa D->Res (aa D)}{body:FS}{D':Ends}{J:It}{items:aa D}{σ:L2.St}{H1:Hp}{ρ:aa D}{rr:Res Fl}(tg:TgS own g t)(es:ES own H1 σ ρ)(hJ:ItQ K (λa=>¬Own own σ a) J H1 items)(hf:lW (noT t) body items ρ=rr)(q:kZ own E D' σ H1 rr) :
  ∃W:ah->ah->L2.St->Hp->Prop,(∃m,W 0 m σ H1)/\∀i m σ H,W i m σ H->
   (J.stop i H/\D'.nx σ H)\/(J.go i H/\∃N:L2.St->Hp->Prop,(∀σ' H',N σ' H'->∃m',m'<m/\W (i+1) m' σ' H')/\∀x H',J.yld i H x H'->g x σ H' λσ2 H2=>tZ own E body {D' with nx:=N,ct:=N,bk:=D'.nx} σ2 H2):=by
 refine⟨λi m σ' H'=>m=items.length-i/\i<=items.length/\ItQ K (λa=>¬Own own σ' a) J H' items/\∃ρ',ES own H' σ' ρ'/\lW (noT t) body (items.drop i) ρ'=rr/\kZ own E D' σ' H' rr,⟨items.length,rfl,eS _,hJ,ρ,es,hf,q⟩,?_⟩;rintro i m σ' H' ⟨rfl,hi,hJ',ρ',E',hf',q'⟩;rcases mP i items.length with hlt|hge
 ·refine .inr ?_;have e:items[i]?=ae items[i]:=dP hlt;obtain⟨g1,g2⟩:=hJ'.go e;rw[gq hlt] at hf';rcases M_ with ⟨ρ1,h1,h2⟩|h2
  ·have hf2:(do let r <- body ρ1;match r with|.nx ρ'=>lW (noT t) body (items.drop (i+1)) ρ'|.ct ρ'=>lW (noT t) body (items.drop (i+1)) ρ'|.bk ρ'=>.ok (.nx ρ')|.rt d=>.ok (.rt d):Res Fl)=rr:=by
    rw[<-hf'];show _=(noE (t items[i]) ρ' >>= _);rw[h2];rfl
   refine⟨g1,λσ2 H2=>ItQ K (λa=>¬Own own σ2 a) J H2 items/\∃ρ',ES own H2 σ2 ρ'/\lW (noT t) body (items.drop (i+1)) ρ'=rr/\kZ own E D' σ2 H2 rr,λσ2 H2 ⟨n1,n2⟩=>⟨items.length-(i+1),by lia,rfl,hlt,n1,n2⟩,λx H2 hy=>?_⟩;obtain⟨sH,rx⟩:=g2 x H2 hy;have ks:KU own σ' H' σ' H2:=λa o e n=>⟨sH a o e,n⟩
   have hJ':=hJ'.ku ks E';have q':=q'.step ks;have E':=E'.same sH;refine tg x items[i] ρ' ρ1 σ' H2 _ E' rx h1 λσ2 E2 hO=>?_
   have k0:KU own σ' H2 σ2 H2:=λa o e n=>⟨e,by rw[hO];exact n⟩
   have hJ2:=hJ'.ku k0 E';have q2:=q'.step k0;refine⟨ρ1,E2,?_⟩;cases hb:body ρ1 with
   |ok r=>
    rw[hb] at hf2;cases r with
    |nx ρ2=>exact λσ3 H3 k3 E3=>⟨hJ2.ku k3 E2,ρ2,E3,hf2,q2.step k3⟩
    |ct ρ2=>exact λσ3 H3 k3 E3=>⟨hJ2.ku k3 E2,ρ2,E3,hf2,q2.step k3⟩
    |bk ρ2=>
     have hf2:ε (Fl.nx ρ2)=rr:=hf2;subst hf2;exact λσ3 H3 k3 E3=>q2 σ3 H3 k3 E3
    |rt d=>
     have hf2:ε (Fl.rt d)=rr:=hf2;subst hf2;exact q2
   |err c as=>
    rw[hb] at hf2;have hf2:Res.err c as=rr:=hf2;subst hf2;exact q2
   |bad=>
    rw[hb] at hf2;have hf2:Res.bad=rr:=hf2;subst hf2;exact q2
  ·have hf2:Res.bad=rr:=by
    rw[<-hf'];show _=(noE (t items[i]) ρ' >>= _);rw[h2];rfl
   subst hf2;exact q'.elim
 ·refine .inl ⟨hJ'.stop hge,?_⟩;rw[oS hge] at hf';have hf':ε (Fl.nx ρ')=rr:=hf';subst hf';exact q' σ' H' (λa o e n=>⟨e,n⟩) E'
end
section
variable {P:bu} {w:bo} {K:bz} {mg:Str->ay ak} {base:aS} {N:aa Str} {qual:Str} {scope:dS} {fad C:al} {cd:ak} {A:bP} {outer:aa c5} {s:ao} {H:Hp} {E:XK} {own:ah->aq} {pos:cb}
theorem aFj(hK:KFrag.K=K)(ho:own i=ag)(hN:N[i]?=ae x)(hv:Vis scope x)(ht:TgS own g t)(hg:PG (v4 (CX2 P w) P w K mg base N qual scope fad cd A outer s H E) tg g)(hb:PSs (v4 (CX2 P w) P w K mg base N qual scope fad cd A outer s H E) body (tZ own E fb))
 (hs:∀z,d6 (.Name x px) (dj qual scope s.heap.objs.size fad cd) z=pure z:=by intro _;rfl)(hd:nDb x:=by decide)(hcd:nCd x:=by decide):PS (v4 (CX2 P w) P w K mg base N qual scope fad cd A outer s H E) (.For tg (.Name x px) body [] pos) (tZ own E (uC i (noT t) fb)):=by
 refine PS.imp (TV BD rfl (aFd hK hN hv hd hcd) hg hb hs) λD' σ H1 ⟨ρ,es,k⟩=>?_
 cases h1:jH i ρ with
 |ok d=>
  cases h2:kO d with
  |ok items=>
   have e:uC i (noT t) fb ρ=lW (noT t) fb items ρ:=by unfold uC;rw[h1];show(kO d >>= _)=_;rw[h2];rfl
   rw[e] at k;obtain⟨v,hv,rv,e⟩:=es.er.var h1;have hne:ρ.getD i .uD≠.uD:=λz=>by
    rw[z] at e;subst e;exact Rep.uD rv
   obtain⟨w',hw,hr⟩:=es.at_ i hne;rw[hv] at hw;cases hw;have r2:=hr ho;rw[e] at r2;exact⟨v,d,items,hv,rv,h2,λJ hJ=>aBf ht es (hJ _ r2) rfl k⟩
  |err c as=>cases d<;>cases h2
  |bad=>
   have e:uC i (noT t) fb ρ=.bad:=by unfold uC;rw[h1];show(kO d >>= _)=_;rw[h2];rfl
   rw[e] at k;exact k.elim
 |err c as=>
  unfold jH at h1;split at h1<;>cases h1
 |bad=>
  have e:uC i (noT t) fb ρ=.bad:=by unfold uC;rw[h1];rfl
  rw[e] at k;exact k.elim
theorem aHf(R:vL P w K mg base k x n v)(hr:uR k' (A.deeper (dj qual scope s.heap.objs.size fad cd)))(hkk:k<=k')(hg:Gl (v4 (CX2 P w) P w K mg base N qual scope fad cd A outer s H E) x)(ha:PA (v4 (CX2 P w) P w K mg base N qual scope fad cd A outer s H E) (e::es) (gA fa r))
 (hdb:nDb x:=by decide)(he:br (e::es) (dj qual scope s.heap.objs.size fad cd)=(ag,eval e (dj qual scope s.heap.objs.size fad cd))::br es (dj qual scope s.heap.objs.size fad cd):=by rfl)(hpl:(dA cpos (br es (dj qual scope s.heap.objs.size fad cd))).any (·.1)=ag:=by rfl) :
  PE (v4 (CX2 P w) P w K mg base N qual scope fad cd A outer s H E) (.Call (.Name x p) (e::es) [] cpos) (gZ E (aL (cF n v) (noE fa))):=by
 obtain⟨fm,fdm,ps,F,hm,hk,hb⟩:=R;refine PE.imp (QL F (hr.mono hkk) hg hm hk hb .nil DK ha hdb he hpl) λσ H1 Q ⟨ρ,er,k⟩=>?_
 rcases M_ with ⟨ds,h1,h2⟩|h2
 ·have e:aL (cF n v) (noE fa) ρ=cF n v ds:=by unfold aL;rw[h2];rfl
  rw[e] at k;unfold cF at k;split at k
  ·rename_i hl;refine⟨ρ,ds,er,h1,λvs H' sm rs _=>⟨ds,ft hl,by rw[fS];exact rs,?_⟩⟩;cases hv:v ds with
   |ok d=>rw[hv] at k;exact kR.imp k sm id
   |err c as=>
    rw[hv] at k;obtain⟨fs,C,e1,e2,e3⟩:=k;exact⟨fs,C,e1,e2,λH2 dx s2 x=>e3 H2 dx (sm.trans s2) x⟩
   |bad=>rw[hv] at k;exact k
  ·exact k.elim
 ·have e:aL (cF n v) (noE fa) ρ=.bad:=by unfold aL;rw[h2];rfl
  rw[e] at k;exact k.elim
end
theorem aFk{K:bz}{mg:Str->ay ak}{base:aS}{x:Str}{st:bE}{fad:al}{fd:eo}{N ps:aa Str}{k:ah}{f:FS}(F:Fun K x x st fad fd)(hm:mg x=ae (.ref fad))(hb:Binds K fd ps [])(S:cA N ps (aP st))(own:ah->aq)(hown:∀i,i<ps.length->own i=ag)(hNl:ps.length<=N.length)
 (hbody:∀(cdv:ak) (A:bP) (outer:aa c5) (s:ao) (H:Hp) (E:XK),uR k (A.deeper (dj x (aP st) s.heap.objs.size fad cdv))->PSs (v4 (CX2 P w) P w K mg base N x (aP st) fad cdv A outer s H E) (gK st) (tZ own E f))(hx:own rtX=ag:=by rfl):vL P w K mg base (k+1) x ps.length (fnS ps.length N.length f):=by
 refine⟨fad,fd,ps,?_,hm,F.kp,hb⟩;obtain⟨oc,od,kV,doc,pm,an,cdv,ct,osl,rfl,lk,hcd⟩:=F.ex;refine aG5 lk hcd S (λvs H Q E ⟨ds,h1,r,_⟩=>by rw[r.length,h1]) λA outer s H vs Q E hr ⟨ds,hl,r,h⟩=>?_
 refine⟨_,hbody cdv A outer s H E hr,?_⟩;have hst:start N vs=vs.map ae++ck (N.length-ps.length) aj:=by
  show vs.map ae++ck (N.length-vs.length) aj=_;rw[r.length,hl]
 have noown:∀a,¬Own own (start N vs) a:=λa ⟨i,hi,e⟩=>by
  rw[hst] at e;by_cases h:i<ps.length
  ·rw[hown i h] at hi;cases hi
  ·rw[eL (by simp[r.length,hl];lia)] at e;rw[io] at e;split at e<;>cases e
 cases hv:fnS ps.length N.length f ds with
 |ok d=>
  rw[hv] at h;obtain⟨ρ,fl,es,h1,q⟩:=RW (E:=E) hx hown ⟨ds,d,hl,r,hv,h⟩;exact⟨ρ,es,by rw[h1];exact q⟩
 |err c as=>
  rw[hv] at h;refine⟨_,H_ hst hl r hown noown,?_⟩;cases hf:f (ds++ck (N.length-ps.length) .uD) with
  |ok fl=>
   exfalso;unfold fnS at hv;rw[hf] at hv;cases fl<;>cases hv
  |err c' as'=>
   unfold fnS at hv;rw[hf] at hv;cases hv;obtain⟨fs,C,e1,e2,e3⟩:=h;exact⟨fs,C,e1,e2,λσ' H' dx kk x=>e3 H' dx (λa o e=>(kk a o e (noown a)).1) x⟩
  |bad=>
   exfalso;unfold fnS at hv;rw[hf] at hv;cases hv
 |bad=>rw[hv] at h;exact h.elim
end
open Builtin Builtin.ObjectAttr
noncomputable def JG(tbl:aa (Str×aq))(i:ah):FE:=λρ=>match ρ.getD i .uD with
 |.exc c _=>(match tbl.lookup c with|some b=>.ok (.bl b)|none=>.bad)
 |_=>.bad
def aLn(v:aa D->Res D)(n:ah)(fa:FA)(cs:aa Str)(ic ie:ah):FS:=λρ=>do
 let ds <- fa ρ
 match cF n v ds with
 |.err c [.exc c' fs]=>if c'==c&&cs.contains c&&ϒ (ie<ρ.length) then .ok (.nx (((ρ.set ie (.exc c fs)).set ic (.exc c fs)).set ie .uD)) else .bad
 |_=>.bad
variable [KFrag]
theorem XO.exc(x:XO a C dx h):ExcAt a C h:=let ⟨o,e,c,_⟩:=x;⟨o,e,c⟩
end Mi
namespace Mi
open PySem L2 PySem.W PySem.SeqAt PySem.Spec PyProof.Rows
def aMp(K:Frag)(cM:ak)(t:TA)(sp:Sp)(ie:ah)(ts:TS):TS:=λD σ H=>t σ H λvs H1=>sp vs H1 (λ_ _=>cm) λCv dd H2=>∃C,Cv=.ref C/\sr K (.ref C) cM=ae af/\∀a,H2 a=aj->ts {nx:=λσ' H'=>D.nx (σ'.set ie aj) H',rt:=λ_ _=>cm} (σ.set ie (ae (.ref a))) (upd H2 a (.ext (XO a C dd)))
theorem aHg
  (hst:X.stack=X.env::X.outer) (hfr:X.env.frame=ae X.env.locals) (F:TX X.prog X.w X.K X.mg X.base (CX2 X.prog X.w) k fad fd ps sp) (hr:uR k X.A) (hg:Gl X f) (hm:X.mg f=ae (.ref fad)) (hk:keepIn X.K (.ref fad)=af) (hb:Binds X.K fd ps [])
  (ha:PA X.nox (e::es) t) (hgM:Gl X mx) (hmM:X.mg mx=ae cM) (hN:X.N.Nodup) (hin:X.N[ie]?=ae n) (hln:X.env.scope.names.lookup n=ae .local)
  (hs:∀v,PSs (mrk X v).nox (b0::suite) ts)
  (hdb:(f==("__debug__" : Str))=ag:=by decide) (hdM:(mx==("__debug__" : Str))=ag:=by decide) (he:br (e::es) X.env=(ag,eval e X.env)::br es X.env:=by rfl) (hpl:(dA cpos (br es X.env)).any (·.1)=ag:=by rfl)
  (hsw:dL (.Call (.Name f p) (e::es) [] cpos) aj xpos.line X.env=pure ag:=by rfl) :
  PS X (.Try [.Expr (.Call (.Name f p) (e::es) [] cpos) xpos] [.ExceptHandler (ae (.Name mx mp)) (ae n) (b0::suite) hpos] [] [] pos) (aMp X.K cM t sp ie ts):=by
 intro Ψ s σ H D I h;refine wpAny_Try_except (tv (xy ?_ I.quiet hsw));refine ny (xH I hg hm ?_ hdb);refine callWith_K I.ok.mod.kin hk (d5 (ha cpos Ψ s σ H _ (I.wish _) h) (λus s1 ⟨vs,H1,I1,r,q⟩=>⟨I1.kIn,?_⟩) λ_ _ z=>dE z) he hpl;have I1:Inv X Ψ σ H1 s1:=I1.mY;have hl:(us++[]).length=ps.length:=by rw[fS,<-r.length];exact F.len _ _ _ _ q
 have hb':=hb s1 us I1.kIn hl;rw[fS] at hb';refine nw (kH (F.run X.A X.stack s1 H1 ⟨us,[]⟩ us vs _ _ hr I1.env0 hb' r q) λr s' hq=>?_);cases r with
 |ok fl=>
  cases fl with
  |ret u=>obtain⟨_,_,_,_,_,_,_,z⟩:=hq;exact z.elim
  |next=>exact dE hq
  |brk=>exact dE hq
  |cont=>exact dE hq
 |error e=>
  obtain⟨a,C',dd,H2,B,rfl,os',bare',fly,clo,hn,hgone,C,eC,hx,hE⟩:=hq;cases eC;rw[hst] at fly;refine aB8 (by rw[I.ok.frames,hst]) hfr fly λh4 held4 sm4=>?_
  refine uJ held4 λh5 fly5 sm5=>?_
  have up5:s'.heap.UpToSlots h5:=AJ sm4 sm5;have I5:Inv X Ψ σ H2 {s' with heap:=h5}:=by
   obtain⟨un,hok⟩:=clo h5 fly5.1 up5;exact I1.call' os' un hok bare' (λb z=>bb z (by simp))
  refine wpAny_handleBy_cons (codeAny_handlers_test ?_) (by intro q;cases q);refine xH (aB4 I5 _) hgM hmM ?_ hdM;have LT:jl (ax X.prog X.w) h5 (ke (.ref a)) (.ref C'):=by
   obtain⟨ob,hob,hc,_⟩:=fly5.there;rw[<-hc];exact(wc hob).andThen .now
  refine(exm_one I5.kIn LT hx).here ?_;refine codeAny_handlers_suite_as ?_;refine uJ fly5 λh6 fly6 sm6=>?_
  obtain⟨un6,hok6⟩:=clo h6 fly6.1 (AJ up5 sm6);have I6:Inv X Ψ σ (upd H2 a (.ext (XO a C' dd))) {s' with heap:=h6}:=
   I1.call' os' (aK8 un6 hgone hn) (aH5 hok6 hn (aMm fly6.there)) bare' (λb z=>bb z (by simp))
  refine KC (v:=.ref a) I6 hN hin (.inl hln) rfl (λs7 I7 _=>?_) (.inr hln);refine d5 (hs (.ref a) Ψ s7 _ _ _ ((aB4 I7 _).wish _) (hE a hn)) (λfl s8 q8=>?_) λ_ _ z=>dE z
  cases fl with
  |ret u=>obtain⟨_,_,_,_,_,z⟩:=q8;exact z.elim
  |brk=>obtain⟨_,_,_,z⟩:=q8;exact z.elim
  |cont=>obtain⟨_,_,_,z⟩:=q8;exact z.elim
  |next=>
   obtain⟨σ8,H8,I8,q⟩:=q8;have I8:Inv X Ψ σ8 H8 s8:=aB5 I.ok I8.mY;obtain⟨m,hm8,hl8⟩:=id I8.loc;refine wpAny_nameGoes_keeps hln hm8 (by rw[I.ok.kind];rfl) λh9 v hn9 sb9=>?_
   exact⟨_,H8,aDw I8 hN hin hm8 hl8 hn9 sb9,q⟩
section
variable [KFrag]
theorem V0(ho:own i=ag)(a:al):Own own (σ.set i aj) a↔Own own σ a:=by
 constructor
 ·rintro⟨j,hj,e⟩;have:i≠j:=λz=>by subst z;rw[ho] at hj;cases hj
  rw[en this] at e;exact⟨j,hj,e⟩
 ·rintro⟨j,hj,e⟩;have:i≠j:=λz=>by subst z;rw[ho] at hj;cases hj
  exact⟨j,hj,by rw[en this];exact e⟩
theorem ES.drop{own:ah->aq}(ho:own i=ag)(es:ES own H σ ρ):ES own H (σ.set i aj) (ρ.set i .uD):=by
 refine⟨by simp[es.len],λj hj=>?_,λj v hj hv=>?_⟩
 ·rw[dO] at hj ⊢;by_cases h:i=j/\i<ρ.length
  ·rw[av h] at hj;exact bb rfl hj
  ·rw[az h] at hj ⊢;obtain⟨v,h1,h2⟩:=es.at_ j hj;have ne:i≠j:=λz=>by
    subst z;have:i<σ.length:=(d4.mp h1).1;exact h ⟨rfl,by rw[<-es.len];exact this⟩
   exact⟨v,by rw[en ne];exact h1,λo=>(h2 o).mono λa n z=>n ((V0 ho a).mp z)⟩
 ·have ne:i≠j:=λz=>by subst z;rw[ho] at hj;cases hj
  rw[en ne] at hv;obtain⟨a,o,h1,h2,h3,h4,h5,h6⟩:=es.own j v hj hv;have e:(ρ.set i .uD).getD j .uD=ρ.getD j .uD:=by rw[dO,az (λz=>ne z.1)]
  refine⟨a,o,h1,by rw[e];exact h2,by rw[e];exact h3,h4,h5,λl hl hs=>h6 l hl ?_⟩;have:i≠l:=λz=>by subst z;rw[ho] at hl;cases hl
  rwa [en this] at hs
section
theorem aKk(hK:KFrag.K=X.K)(hst:X.stack=X.env::X.outer)(hfr:X.env.frame=ae X.env.locals)(R:vL X.prog X.w X.K X.mg X.base k f n v)(hr:uR k' X.A)(hkk:k<=k')(hg:Gl X f)(ha:PA X.nox (e::es) (gA fa ra))(hgM:Gl X mx)(hmM:X.mg mx=ae cM)
 (hcs:∀c,cs.contains c=af->∃C,nsIn X.K bg c=ae (ae (.ref C))/\sr X.K (.ref C) cM=ae af)
 (hN:X.N.Nodup)(hin:X.N[ie]?=ae nm)(hln:X.env.scope.names.lookup nm=ae .local)(hic:X.N[ic]?=ae cn)(hlc:Loc X.env.scope cn)(hfc:X.fn cn=af\/X.env.scope.names.lookup cn=ae .local)(oc:own ic=ag)(oe:own ie=ag)(hne:ie≠ic)
 (hdb:(f==("__debug__" : Str))=ag:=by decide)(hdM:(mx==("__debug__" : Str))=ag:=by decide)(he:br (e::es) X.env=(ag,eval e X.env)::br es X.env:=by rfl)(hpl:(dA cpos (br es X.env)).any (·.1)=ag:=by rfl)
 (hsw:dL (.Call (.Name f p) (e::es) [] cpos) aj xpos.line X.env=pure ag:=by rfl)(hs2:dL (.Name nm ep) (ae (.Name cn tp)) ap.line X.env=pure ag:=by rfl)(hd1:(nm==("__debug__" : Str))=ag:=by decide)(hd2:(nm==("__classdict__" : Str))=ag:=by decide) :
  PS X (.Try [.Expr (.Call (.Name f p) (e::es) [] cpos) xpos] [.ExceptHandler (ae (.Name mx mp)) (ae nm) [.Assign [.Name cn tp] (.Name nm ep) ap] hpos] [] [] pos) (tS own (aLn v n fa cs ic ie)):=by
 obtain⟨fm,fdm,ps,F,hm,hk,hb⟩:=R;refine PS.imp (aHg hst hfr F (hr.mono hkk) hg hm hk hb ha hgM hmM hN hin hln (λv=>QK (Y9 hN hic hlc (kI hin (.inl hln) hd1 hd2) hs2 hfc)) hdb hdM he hpl hsw) λD σ H ⟨ρ,fl,es,h,q⟩=>?_
 obtain⟨ds,h1,h⟩:=bL h;refine⟨ρ,ds,es.er,h1,λvs H1 sm rs _=>?_⟩;split at h
 ·rename_i c c' fs hv;split at h
  ·rename_i hc;rw[bj,bj] at hc;have ec:=iu.mp hc.1.1;subst ec;cases h;unfold cF at hv;split at hv
   ·rename_i hl;obtain⟨C,hn,hx⟩:=hcs _ hc.1.2;refine⟨ds,ft hl,rs,?_⟩;rw[hv];refine⟨fs,C,rfl,by rw[hK];exact hn,λH2 dd s2 xd=>⟨C,rfl,hx,λa ha=>?_⟩⟩;have hl2:ie<σ.length:=by
     rw[es.len];exact ft hc.2
    have rp:∀P,Rep P (upd H2 a (.ext (XO a C dd))) (.ref a) (.exc c' fs):=λP=>.exc (by rw[hK];exact hn) aN (by
     cases dd with
     |none=>exact xd
     |some d=>
      have xd:H2 d=ae (.ext (XD d fs)):=xd;show upd _ _ _ d=_;rw[bD (λz=>by rw[z,ha] at xd;cases xd)];exact xd)
    have sm3:cX H (upd H2 a (.ext (XO a C dd))):=sm.trans (s2.trans (aDx ha));have es3:=(((es.same sm3).set oe (rp _)).set oc (rp _)).drop oe;refine⟨.ref a,by rw[fi hl2],?_⟩;exact q _ _ (λb o eb nb=>⟨sm3 b o eb,λz=>nb ((nO oe b).mp ((nO oc b).mp ((V0 oe b).mp z)))⟩) es3
   ·cases hv
  ·exact bx h
 ·exact bx h
end
section
theorem aHh(er:ER H σ ρ)(h:ρ.getD i .uD=.exc c fs):∃a C dx,σ[i]?=ae (ae (.ref a))/\nsIn KFrag.K bg c=ae (ae (.ref C))/\H a=ae (.ext (XO a C dx)):=by
 obtain⟨v,h1,r1⟩:=er i (by rw[h];intro z;cases z);rw[h] at r1;obtain⟨a,C,dx,rfl,n,e,q⟩:=r1.inv;exact⟨a,C,dx,h1,n,e⟩
theorem eY(hK:KFrag.K=X.K)(ht:∀c b,tbl.lookup c=ae b->∃C,nsIn X.K bg c=ae (ae (.ref C))/\XC X.K C/\cy X.K (.ref C) u=ae b)(hu:∀u',RelV v u'->u'=u)(hg:Gl X "isinstance")(hm:X.mg "isinstance"=aj)(hN:X.N[i]?=ae y)(hv:Vis X.env.scope y)(ha:PE X ce (tC v))
 (hst:br [ce] X.env=(ag,eval ce X.env)::br [] X.env)(hpl:(dA pos (br [ce] X.env)).any (·.1)=ag)
 (hd:(y==("__debug__" : Str))=ag:=by decide)(hcd:(y==("__classdict__" : Str))=ag:=by decide) :
  PE X (.Call (.Name "isinstance" p) [.Name y np,ce] [] pos) (gE (JG tbl i) af):=by
 have hc:jG X (.builtin "isinstance") (λvs H Q=>∃a C dx b,vs=[.ref a,v]/\H a=ae (.ext (XO a C dx))/\XC X.K C/\cy X.K (.ref C) u=ae b/\Q (.bl b) H):=by
  intro Ψ s σ H vs us Q I r ⟨a,C,dx,b,e,ea,c,hk,q⟩;subst e;cases r with
  |cons r1 r=>
   cases r with
   |cons r2 r=>
    cases r;cases r1;have e2:=hu _ r2;subst e2;obtain⟨px,_⟩:=I.hok a _ ea;exact kia_one (aDv c) I.kIn px.exc hk (by intro z;cases z) λtk=>⟨.bl b,H,I.tok tk,rfl,q⟩
 refine PE.imp (T4 hc hg hm (by decide +kernel) (jW (kI hN hv hd hcd) (jW ha xM hst)) (hpl:=hpl)) λσ H Q ⟨ρ,d,er,h,q⟩=>?_
 unfold JG at h;split at h
 ·rename_i c fs hρ;split at h
  ·rename_i b hb;cases h;obtain⟨a,C,dx,h1,n,e⟩:=aHh er hρ;obtain⟨C',n',xc,hk⟩:=ht c b hb;rw[hK,n'] at n;cases n;exact⟨.ref a,h1,a,C,dx,b,rfl,e,xc,hk,q _ _ (λ_ _ z=>z) (.bl b) λ_=>.bl b⟩
  ·exact bx h
 ·exact bx h
end
end
def JK(p:Str->aq->Prop):aa (Str×aq)->Prop
 |[]=>gz
 | (c,b)::r=>p c b/\JK p r
theorem eU:∀{t:aa (Str×aq)},JK p t->∀c b,t.lookup c=ae b->p c b
 |[],_,_,_,h=>by cases h
 | (d,e)::r,⟨h1,h2⟩,c,b,h=>by
  rw[iw] at h;split at h
  ·rename_i z;rw[iu.mp z];cases h;exact h1
  ·exact eU h2 c b h
def aMq(p:Str->Prop):aa Str->Prop
 |[]=>gz
 |c::r=>p c/\aMq p r
theorem aBg:∀{t:aa Str},aMq p t->∀c,t.contains c=af->p c
 |[],_,_,h=>by cases h
 |d::r,⟨h1,h2⟩,c,h=>by
  rw[List.contains_cons] at h;rcases(iv _ _).mp h with z|z
  ·rw[iu.mp z];exact h1
  ·exact aBg h2 c z
section
variable [KFrag]
end
noncomputable def gR(c:Str):FS:=λ_=>.err c [.exc c []]
section
variable {P:bu} {w:bo} {K:bz} {mg:Str->ay ak} {base:aS} {N:aa Str} {qual:Str} {scope:dS} {f C:al} {cd:ak} {A:bP} {outer:aa c5} {s:ao} {H:Hp} {E:XK}
theorem aBh(I:Inv (v4 (CX2 P w) P w K mg base N qual scope f cd A outer s H E) Ψ σ H1 s1)(keeps:∀b o,s1.heap.get? b=ae o->h2.get? b=ae o)(new:s1.heap.get? e=aj)(ht:h2.get? e=ae {cls:=.ref C,data:=.fields vs})(hv:vs[1]?=ae .none)(hE:E (.ref C) aj H1) :
  (v4 (CX2 P w) P w K mg base N qual scope f cd A outer s H E).xe (.ref e) {s1 with heap:=h2}:=by
 let env:=dj qual scope s.heap.objs.size f cd
 have hfr:L2.frs (env::outer)=s.heap.objs.size::L2.frs outer:=by
  unfold L2.frs;rw[lI];rfl
 have hin:∀v∈(env::outer),∀b,v.frame=ae b->b∈L2.frs (env::outer):=λv hv b hb=>uo.mpr ⟨v,hv,hb⟩
 have stk:s1.heap.FunFrames base (env::outer):=I.stack;have sfree:∀b∈L2.frs (env::outer),H1 b=aj:=I.QH;have u0:Un (L2.frs outer) [] H H1 s.heap s1.heap:=I.base;have hn0:(sN s1.heap (L2.frs (env::outer))).get? e=aj:=by
  cases q:(sN s1.heap (L2.frs (env::outer))).get? e with
  |none=>rfl
  |some o=>
   have e1:=sP _ q;rw[new] at e1;cases e1
 show ϑ (ax P w) (A.deeper env) (leaving env (.ref e)) (λ_ s''=>CX2 P w outer H s E (.ref e) s'') (λe' s''=>CX2 P w outer H s E e' s'') {s1 with heap:=h2};refine aE0 I.ok.frames rfl ((PySem.W.funFrames_hide stk hin).of_keeps λb o k _=>⟨o,keeps b o k,rfl⟩) ht (λb o q=>keeps b o (sP _ q)) hn0 rfl hv (λz=>bb rfl z) λh' x1 x4=>?_
 have hgone:s.heap.get? e=aj:=by
  cases q:s.heap.get? e with
  |none=>rfl
  |some o=>
   obtain⟨o',e1⟩:=u0.there e o q (by simp);rw[new] at e1;cases e1
 have huntr:H1 e=aj:=by
  cases q:H1 e with
  |none=>rfl
  |some u=>
   obtain⟨o,e1⟩:=R0 (I.hok e u q);rw[new] at e1;cases e1
 refine⟨e,C,aj,H1,_,rfl,I.os,I.bare,x1,λh6 st up=>?_,huntr,hgone,hE⟩;have k:∀b o,s1.heap.get? b=ae o->b∉L2.frs (env::outer)->h6.get? b=ae o:=λb o eb hb=>st b o (xt _ eb hb)
 have up6:s1.heap.UpToSlots h6:=((BE keeps).trans x4).trans up;have nL:∀b o,s.heap.get? b=ae o->b∉L2.frs outer->b∉L2.frs (env::outer):=λb o eb hb z=>by
  rw[hfr] at z;rcases bX.mp z with z|z
  ·exact bb (bS eb) (by rw[z];exact fg _)
  ·exact hb z
 have slot:∀b o,s1.heap.get? b=ae o->b∈L2.frs outer->∃sl,h6.get? b=ae {o with slots:=sl}:=λb o eb hb=>by
  obtain⟨_,o',ho',hd⟩:=stk.mem (show b∈L2.frs (env::outer) by rw[hfr];exact b6 _ hb);rw[eb] at ho';cases ho';exact up6 b o eb hd
 refine⟨⟨λb o eb hn hb hx'=>k b o (u0.keep b o eb hn hb hx') (nL b o eb hb),λb o eb hn hb hx'=>?_,λb o eb hn hx'=>u0.free b o eb hn hx',λb o eb hx'=>?_,u0.tups,u0.frzs,u0.tbls⟩,λb u eb=>?_⟩
 ·obtain⟨sl,e1⟩:=u0.slot b o eb hn hb hx';obtain⟨sl',e2⟩:=slot b _ e1 hb;exact⟨sl',e2⟩
 ·obtain⟨o',e1⟩:=u0.there b o eb hx';by_cases hb:b∈L2.frs outer
  ·obtain⟨sl,e2⟩:=slot b o' e1 hb;exact⟨_,e2⟩
  ·exact⟨o',k b o' e1 (nL b o eb hb)⟩
 ·refine(I.hok b u eb).stay (λc v hc q=>k c v q λz=>?_) (λ_ q=>q) λ_ _ q=>q
  have:=sfree c z;rcases hc with hc|hc
  ·rw[hc,eb] at this;cases this
  ·rw[hc] at this;cases this
theorem aBi(I:Inv (v4 (CX2 P w) P w K mg base N qual scope f cd A outer s H E) Ψ σ H1 s1)(hx:Au s1.heap h2 e (.ref C) args)(hE:E (.ref C) aj H1) :
  (v4 (CX2 P w) P w K mg base N qual scope f cd A outer s H E).xe (.ref e) {s1 with heap:=h2}:=
 let ⟨_,ht,_,_⟩:=hx.there
 aBh I hx.keeps hx.new ht rfl hE
end
variable [KFrag]
section
variable {P:bu} {w:bo} {K:bz} {mg:Str->ay ak} {base:aS} {N:aa Str} {qual:Str} {scope:dS} {fad C:al} {cd:ak} {A:bP} {outer:aa c5} {s:ao} {H:Hp} {E:XK} {own:ah->aq} {pos:cb}
theorem mD(hK:KFrag.K=K)(hn:nsIn K bg x=ae (ae (.ref C)))(hg:Gl (v4 (CX2 P w) P w K mg base N qual scope fad cd A outer s H E) x)(mC:mg x=ae (.ref C))(xC:sd K C aIi "ValueError.__new__"=af)(hd:nDb x:=by decide) :
  PS (v4 (CX2 P w) P w K mg base N qual scope fad cd A outer s H E) (.Raise (ae (.Call (.Name x np) [.Constant (.str tx) xk xp] [] cpos)) aj pos) (tZ own E (gR x)):=by
 subst hK;refine PS.imp (aDt rfl hg mC xC (jW aEv xM) rfl hd) λD σ H1 ⟨ρ,e,q⟩=>⟨by show 1<=bq;decide,λΨ s h2 a us I hx=>aBi I hx ?_⟩
 obtain⟨fs,C',e1,e2,e3⟩:=q;rw[hn] at e2;cases e2;cases e1;exact e3 σ H1 aj (.same λ_ _ z=>z) rfl
end
def kZA(E:XK)(H:Hp)(Q:aa V->Hp->Prop):Res (aa D)->Prop
 |.ok ds=>∀vs H',cX H H'->bW All H' vs ds->Q vs H'
 |.err c as=>R3 E H c as
 |.bad=>cm
noncomputable def gZA(E:XK)(f:FA):TA:=λσ H Q=>∃ρ,ER H σ ρ/\kZA E H Q (f ρ)
section
variable {X:Cx} {E:XK} {e:Expr} {es:aa Expr} {fe:FE} {f:FA} {r:aq}
theorem R3.same(h:R3 E H c as)(s:cX H H'):R3 E H' c as:=let ⟨fs,C,h1,h2,h3⟩:=h;⟨fs,C,h1,h2,λH2 dx s2 x=>h3 H2 dx (s.trans s2) x⟩
theorem aHi(he:PE X e (gZ E fe))(hes:PA X es (gA f r))(hs:br (e::es) X.env=(ag,eval e X.env)::br es X.env:=by rfl):PA X (e::es) (gZA E (aB fe (noE f))):=PA.imp (jW he hes hs) λσ H Q ⟨ρ,er,k⟩=>by
 refine⟨ρ,er,?_⟩;cases hx:fe ρ with
 |ok x=>
  intro v H1 s1 r1 n1;rcases M_ with ⟨xs,h1,h2⟩|h2
  ·have e0:aB fe (noE f) ρ=.ok (x::xs):=by unfold aB;rw[hx];show(noE f ρ >>= _)=_;rw[h2];rfl
   rw[e0] at k;exact⟨ρ,xs,er.same s1,h1,λvs H2 s2 r2 _=>k _ _ (s1.trans s2) (.cons (r1.same s2) r2)⟩
  ·have e0:aB fe (noE f) ρ=.bad:=by unfold aB;rw[hx];show(noE f ρ >>= _)=_;rw[h2];rfl
   rw[e0] at k;exact k.elim
 |err c as=>
  have e0:aB fe (noE f) ρ=.err c as:=by unfold aB;rw[hx];rfl
  rw[e0] at k;exact k
 |bad=>
  have e0:aB fe (noE f) ρ=.bad:=by unfold aB;rw[hx];rfl
  rw[e0] at k;exact k
end
section
theorem aE2{P:bu}{w:bo}{K:bz}{mg:Str->ay ak}{base:aS}{N:aa Str}{qual:Str}{scope:dS}{fad C:al}{cd:ak}{A:bP}{outer:aa c5}{s:ao}{H:Hp}{E:XK}(R:vL P w K mg base k x n v)(hr:uR k' (A.deeper (dj qual scope s.heap.objs.size fad cd)))(hkk:k<=k')(hg:Gl (v4 (CX2 P w) P w K mg base N qual scope fad cd A outer s H E) x)(ha:PA (v4 (CX2 P w) P w K mg base N qual scope fad cd A outer s H E) (e::es) (gZA E fa))
 (hdb:nDb x:=by decide)(he:br (e::es) (dj qual scope s.heap.objs.size fad cd)=(ag,eval e (dj qual scope s.heap.objs.size fad cd))::br es (dj qual scope s.heap.objs.size fad cd):=by rfl)(hpl:(dA cpos (br es (dj qual scope s.heap.objs.size fad cd))).any (·.1)=ag:=by rfl) :
  PE (v4 (CX2 P w) P w K mg base N qual scope fad cd A outer s H E) (.Call (.Name x p) (e::es) [] cpos) (gZ E (aL (cF n v) fa)):=by
 obtain⟨fm,fdm,ps,F,hm,hk,hb⟩:=R;refine PE.imp (QL F (hr.mono hkk) hg hm hk hb .nil DK ha hdb he hpl) λσ H1 Q ⟨ρ,er,k⟩=>?_
 refine⟨ρ,er,?_⟩;cases hf:fa ρ with
 |ok ds=>
  have e:aL (cF n v) fa ρ=cF n v ds:=by unfold aL;rw[hf];rfl
  rw[e] at k;unfold cF at k;split at k
  ·rename_i hl;refine λvs H' sm rs=>⟨ds,ft hl,by rw[fS];exact rs,?_⟩
   cases hv:v ds with
   |ok d=>rw[hv] at k;exact kR.imp k sm id
   |err c as=>rw[hv] at k;exact R3.same k sm
   |bad=>rw[hv] at k;exact k
  ·exact k.elim
 |err c as=>
  have e:aL (cF n v) fa ρ=.err c as:=by unfold aL;rw[hf];rfl
  rw[e] at k;exact k
 |bad=>
  have e:aL (cF n v) fa ρ=.bad:=by unfold aL;rw[hf];rfl
  rw[e] at k;exact k.elim
end
end Mi
namespace Mi
open PySem L2 PySem.SeqAt PySem.Spec PyProof.Rows
def bFz(f:FE):FE:=λρ=>do
 let d <- f ρ
 match d with
 |.lst xs=>if θ xs then .ok (.scr xs) else .bad
 |_=>.bad
section
variable [KFrag]
section
variable {X:Cx} {e:Expr} {f:FE}
def tFz(t:TE):TE:=λσ H Q=>t σ H λv H1=>∃a vs,v=.ref a/\H1 a=ae (.lst vs)/\∀o,Q v (upd H1 a (.frz o (.lst vs)))
theorem aMr(h:PE X e t):PE X e (tFz t):=by
 intro Ψ s σ H Q I q;refine d5 (h Ψ s σ H _ (I.wish _) q) (λu s1 ⟨v,H1,I1,r,a,vs,ev,ea,k⟩=>?_) λ_ _ z=>z
 obtain⟨o,I2⟩:=DN I1 ea;exact⟨v,_,I2,r,k o⟩
theorem j7(h:PE X e (gE f af)):PE X e (gE (bFz f) af):=PE.imp (aMr h) λσ H Q ⟨ρ,d,E,h,q⟩=>by
 obtain⟨d0,h1,h2⟩:=bL h;split at h2
 ·rename_i xs;split at h2
  ·rename_i hp;cases h2;refine⟨ρ,_,E,h1,λv H1 s1 r n=>?_⟩;cases n rfl with
   |@lst a vs _ ea pa ra=>
    refine⟨a,vs,rfl,ea,λo=>?_⟩;have noT:∀ob,H1 a=ae ob->YX ob=af:=λob z=>by rw[ea] at z;cases z;rfl
    have s2:cX H (upd H1 a (.frz o (.lst vs))):=λb ob eb=>by
     rw[bD (λz=>by rw[z,show H a=aj from pa] at eb;cases eb)];exact s1 b ob eb
    have rp:∀P:al->Prop,Rep P (upd H1 a (.frz o (.lst vs))) (.ref a) (.scr xs):=λP=>.frz (.inl ⟨o,aN⟩) ((uK noT ra hp).bV hp)
    exact q _ _ s2 (rp _) λ_=>rp _
  ·exact bx h2
 ·exact bx h2
end
end
def txK(kvs:aa (D×D)):aq:=!kvs.isEmpty&&kvs.all (λp=>!isTup p.1)
def aBj:aa D->Res D
 |[.fdc kvs]=>if txK kvs then .ok (.lst (fG kvs)) else .bad
 |_=>.bad
def NB(a b:D):Res D:=match b with
 |.fdc kvs=>if txK kvs&&u_ a then .ok (.bl (!(bR kvs a).isSome)) else .bad
 |_=>.bad
section
variable [KFrag]
theorem aBk(r:Rep P H v (.fdc ds))(hb:txK ds=af):∃a o kvs,v=.ref a/\H a=ae (.frz o (.dK kvs))/\kE P H kvs ds:=by
 unfold txK at hb;rw[bj] at hb;cases r with
 |fdK e rk n=>exact⟨_,_,_,rfl,e,rk⟩
 |fdT e rt n=>
  cases rt with
  |nil=>exact bb hb.1 (by simp)
  |cons r t=>exact bb hb.2 (by simp[isTup])
section
variable {X:Cx} {e:Expr}
theorem aE3(hc:X.calm=af):jG X (.type "list") (rs aBj af):=by
 intro Ψ s σ H xs us Q I vr ⟨ds,d,r,e,k⟩;unfold aBj at e;split at e
 ·rename_i kd;split at e
  ·rename_i hl;cases e;obtain⟨vv,uu,rfl,rfl,r,v⟩:=fM r vr;obtain⟨l,o,kvs,rfl,ea,rk⟩:=aBk r hl;cases v;obtain⟨z,hd,vs,rel,dd⟩:=K4 I.hok (.inr ⟨o,ea⟩);obtain⟨ep,da⟩:=dd.dictAt;have hlen:kvs.length=vs.length:=i5 rel;refine Mm.v6 (I.ok.hd hc) hd da rfl (by rw[<-hlen];rw[fo] at z;lia) λh' tk acc' c' kp e1 it=>?_
   obtain⟨i1,i2⟩:=it;have hfr:H s.heap.objs.size=aj:=I.hok.fresh (bi _);have sp:cX H (upd H s.heap.objs.size (.lst (kvs.map λp=>kV p.1))):=cX.upd hfr;refine⟨.ref s.heap.objs.size,_,I.laid (o:=.lst (kvs.map λp=>kV p.1)) kp (bi _) ⟨by rw[bp];exact z,acc'.toList,c',?_,by simpa using e1⟩,rfl,k _ _ sp (.lst aN trivial (rk.keys.same sp)) λ_=>.lst aN hfr (rk.keys.same sp)⟩;have gen:∀(kvs:aa (Key×V))(vs:aa (Key×ak))(xs:aa ak),KV kvs vs->xs.length=vs.length->(∀(j:ah)(v:ak),xs[j]?=ae v->∃k x,vs[j]?=ae (k,x)/\(cU X.prog X.w).is k v=af)->Vals (kvs.map λp=>kV p.1) xs:=by
    intro kvs vs xs rel;induction rel generalizing xs with
    |nil=>intro hx _;cases xs with|nil=>exact .nil|cons a b=>cases hx
    |cons h t ih=>
     intro hx hv;cases xs with
     |nil=>cases hx
     |cons a b=>
      obtain⟨k,x,g1,g2⟩:=hv 0 a rfl;cases g1;refine .cons ?_ (ih b (by simpa using hx) λj v hj=>hv (j+1) v hj);show RelV (kV _) a;rw[h.1];exact aKd g2
   exact gen kvs vs acc'.toList rel (by simpa using i1) λj v hj=>i2 j v (by simpa using hj)
  ·exact bx e
 ·exact bx e
theorem aBl(hu:X.A.units+20<b9):OpR X (c_ .NotIn) (r2 NB af):=by
 intro Ψ s σ H x y v u Q I rx ry ⟨a,b,d,p,q,e,k⟩;unfold NB at e;split at e
 ·rename_i kd;split at e
  ·rename_i hl;cases e;rw[bj] at hl;obtain⟨l,o,kvs,rfl,ea,rk⟩:=aBk q hl.1;cases ry;obtain⟨qk,rfl,rfl⟩:=wV hl.2 p;refine ZW (o:=xO kvs qk) (by lia) I (.inl ⟨kvs,qk,.inr ⟨o,ea⟩,rfl,rfl⟩) rx λs' I'=>⟨.bl _,H,I',rfl,?_⟩
   rcases aAg (k:=qk) rk with ⟨v,d,g1,g2,g3⟩|⟨g1,g2⟩
   ·rw[g2] at k;rw[g1];exact k.bl
   ·rw[g2] at k;rw[g1];exact k.bl
  ·exact bx e
 ·exact bx e
end
end
open PySem.W
def YZ(h:aS)(d:al)(es:aE iE)(ep:ah):Prop:=∃o,h.get? d=ae o/\o.ExactDict/\o.data=.dict es ep
theorem YZ.ty{s:ao}{d:al}{es:aE iE}{ep:ah}(x:YZ s.heap d es ep):s.TypeIs (.ref d) "dict":=let ⟨o,e,c,_⟩:=x;⟨o,e,c.1⟩
theorem YZ.at{h h':aS}{d:al}{es:aE iE}{ep:ah}(x:YZ h d es ep)(k:∀o,h.get? d=ae o->h'.get? d=ae o):YZ h' d es ep:=let ⟨o,e,r⟩:=x;⟨o,k o e,r⟩
section
variable {prog:bu} {w:bo} {A:bP} {E:ak->ao->Prop} {s:ao} {d it:al} {es:aE iE} {ep i:ah}
theorem aE4{Q:ak->ao->Prop}(hd:(d==eP)=ag)(x:YZ s.heap d es ep)(q:Q (.ref s.heap.objs.size) {s with heap:=s.heap.push {cls:=.type "dict_keyiterator",data:=.fields #[.ref d,.int 0 0,.int es.size 0,.int ep 0]}}):ϑ (ax prog w) A (fN (.ref d)) Q E s:=by
 have T:=x.ty;obtain⟨o,e1,e2,e3⟩:=x;refine wpAny_pyIter_slot T AK (mf AK T F.entry_dict_iter (?_:ϑ _ _ (Builtin.«dict.__iter__» _) _ _ _) (F.args_dict_iter_1 _));unfold Builtin.«dict.__iter__» BF BG;refine aw (aw (wpAny_notOrdered_dict T (?_:ϑ _ _ (pure (ff d)) _ _ s)));refine bh (?_:ϑ _ _ ((if d==eP then _ else _) >>= _) _ _ s);rw[az (by rw[hd];simp)];refine aw (bh (aw (wx e1 e3 (aw (wy e1 e3 ?_)))));exact aw (eW (bh ⟨_,rfl,"dict_keyiterator",_,⟨_,dg _ rfl,rfl⟩,nk.lookup,q⟩))
theorem aE5{Q:ay ak->ao->Prop}(y:s.heap.IsKeyIter it d i es.size ep)(x:YZ s.heap d es ep)(hi:i<es.size)(q:∀h',h'.IsKeyIter it d (i+1) es.size ep->kC it s.heap h'->Q (ae es[i].key) {s with heap:=h'}):ϑ (ax prog w) A (fI (.ref it)) Q E s:=by
 have T:=y.typeIs;obtain⟨o,o1,o2,o3⟩:=y;obtain⟨od,e1,e2,e3⟩:=x;have own:AL "dict_keyiterator"=ag:=by decide
 unfold fI;refine aw (mT (uw (name:=uz "__next__") T nk (mf nk T AM ?_ (AN _))));refine aw (bh (aw (aw ?_)))
 first|refine aw (su T (bh (aw (sv o1 o3 ?_))))|refine aw (sA T (bh (aw (sv o1 o3 ?_))))
 rw[own];refine(?_:ϑ _ _ (ite ((ff d==fF)=af) _ _) _ _ s);rw[az (by intro z;cases z)];refine aw (bh (aw (wx e1 e3 ?_)));rw[az (by simp)];refine aw (bh (aw (wy e1 e3 ?_)));rw[az (by simp)];refine bh ?_;simp only[show ¬((i:ai)<0) from by lia,cx,wo,wm hi];refine aw ?_
 first|refine aw (su T (bh (aw (wz T ?_))))|refine aw (sA T (bh (aw (wz T ?_))))
 refine aw (m:=wu (.ref it) 1 (gn ((i:ai)+1))) (nj o1 o3 (by simp) ?_);have z:(s.heap.update it (sh (·.setIfInBounds 1 (gn ((i:ai)+1))))).IsKeyIter it d (i+1) es.size ep:=⟨_,kq _ o1 (AB (si o3 _)),(AC ..).trans o2,by rw[si o3];simp[gn]⟩
 refine aw (gV (aw (wz (s:={s with heap:=s.heap.update it (sh (·.setIfInBounds 1 (gn ((i:ai)+1))))}) z.typeIs (?_:ϑ _ _ (pure es[i].key) _ _ _))));exact bh (bh ⟨_,rfl,bh (q _ z (AO ..))⟩)
theorem aHj{Q:ay ak->ao->Prop}(hh:A.handled=aj)(y:s.heap.IsKeyIter it d i es.size ep)(x:YZ s.heap d es ep)(hi:es.size<=i)(q:∀h',Heap.ExtBut it s.heap h'->Q aj {s with heap:=h'}):ϑ (ax prog w) A (fI (.ref it)) Q E s:=by
 have T:=y.typeIs;obtain⟨o,o1,o2,o3⟩:=y;obtain⟨od,e1,e2,e3⟩:=x;have own:AL "dict_keyiterator"=ag:=by decide
 unfold fI;refine aw (mT (uw (name:=uz "__next__") T nk (mf nk T AM ?_ (AN _))));refine aw (bh (aw (aw ?_)))
 first|refine aw (su T (bh (aw (sv o1 o3 ?_))))|refine aw (sA T (bh (aw (sv o1 o3 ?_))))
 rw[own];refine(?_:ϑ _ _ (ite ((ff d==fF)=af) _ _) _ _ s);rw[az (by intro z;cases z)];refine aw (bh (aw (wx e1 e3 ?_)));rw[az (by simp)];refine aw (bh (aw (wy e1 e3 ?_)));rw[az (by simp)];refine bh ?_;simp only[show ¬((i:ai)<0) from by lia,cx,wo,wn hi];refine aw ?_
 first|refine aw (su T (bh ?_))|refine aw (sA T (bh ?_))
 refine aw (m:=wu (.ref it) 0 .none) (nj o1 o3 (by simp) (aw (m:=newExc (.type "StopIteration") []) ?_));simp only[newExc,wf];refine aw (eW (aw (m:=AQ _ _) (lm (a:=fF) (by first|rfl|(simp only[AQ];rfl)) (eW ?_ (by size_fits)))) (by size_fits));simp only[raiseNew];have hh':A.in1.handled=aj:=hh;refine aw (wpAny_handled ?hd);rw[hh'];refine aw (bh (wpAny_throw ?thrown));refine aw (wpAny_isInstance (b:=af) (T:= "StopIteration") ⟨_,dg _ rfl,rfl⟩ isSubtype_stop ?_);exact bh (q _ (((AO ..).extBut.push _).push _))
theorem aBm(hh:A.handled=aj)(I d:al)(hne:d≠I)(es:aE iE)(ep:ah):Walks prog w A I [I,d] [I] es.size (λi v=>∃h:i<es.size,v=es[i].key) (λi h=>h.IsKeyIter I d i es.size ep/\YZ h d es ep) where
 sub:=λb hb=>bX.mpr (.inl (yz.mp hb))
 frame:=λ_ _ _ st hk=>⟨Heap.IsKeyIter.at st.1 λo e=>hk I (by simp) o e,st.2.at λo e=>hk d (by simp) o e⟩
 item:=λi s Q E hi st hQ=>aE5 st.1 st.2 hi λh' z sb=>hQ _ h' s.toks ⟨hi,rfl⟩ ⟨z,st.2.at λo e=>sb.extBut d o hne e⟩ λb o hb e=>sb.extBut b o (λh=>hb (by simp[h])) e
 done:=λs Q E st hQ=>aHj hh st.1 st.2 (bi _) λh' ex=>hQ h' s.toks λb o hb e=>ex b o (λh=>hb (by simp[h])) e
 self:=λ_ _ _ _ at_ q=>wpAny_pyIter_keyiter at_.1 q
end
section
variable {prog:bu} {w:bo} {A:bP} {E:ak->ao->Prop} {s:ao} {r:al}
def aMs(s:ao)(F:aE ak->Prop)(q:l8)(s':ao):Prop:=∃(h':aS)(tk:ah)(acc:aE ak)(c:ah),q=.ok (.ret (.ref s.heap.objs.size))/\s'={s with heap:=h',toks:=tk}/\(∀b o,s.heap.get? b=ae o->h'.get? b=ae o)/\h'.get? s.heap.objs.size=ae {cls:=.type "list",dict:=aj,data:=.seq acc c,slots:=#[]}/\F acc
theorem aBn{Q:aa ak->ao->Prop}{F:aE ak->Prop}
 (key:ϑ (ax prog w) A.in1 (AR (.ref s.heap.objs.size) (.ref r) (.ref s.heap.objs.size)) (λfin s'=>match fin with|.done f=>aMs s F (.ok f) s'|.again c'=>c'.quiet=af/\codeAny (ax prog w) A c' (aMs s F) s') (λe s'=>aMs s F (.error e) s') {s with heap:=s.heap.push {cls:=.type "list",data:=.seq ([]:aa ak).toArray}})
 (q:∀h' tk acc,(∀b o,s.heap.get? b=ae o->h'.get? b=ae o)->s.heap.objs.size<=h'.objs.size->F acc->Q acc.toList {s with heap:=h',toks:=tk}):ϑ (ax prog w) A (la (.ref r)) Q E s:=by
 have last:∀{h':aS}{tk:ah}{acc:aE ak}{c:ah},(∀b o,s.heap.get? b=ae o->h'.get? b=ae o)->h'.get? s.heap.objs.size=ae {cls:=.type "list",dict:=aj,data:=.seq acc c,slots:=#[]}->F acc->ϑ (ax prog w) A (load s.heap.objs.size >>= λo=>match o.data with|.seq xs _=>pure xs.toList|_=>unsupported "internal:collect") Q E {s with heap:=h',toks:=tk}:=λkp at_ f=>aw (wpAny_load at_ (bh (q _ _ _ kp (lz (bS at_)) f)))
 unfold la;refine aw (wpAny_runValue (iP entry_proto_collect' (?_:ϑ _ _ (vx [] >>= λl=>again (.builtin "list.__iadd__" ⟨[l,.ref r],[]⟩)) _ _ s)));rw[jm PySem.F.plain_proto_collect];refine aw (eW (bh ⟨ig AS _,iP entry_list_iadd' (?_:ϑ _ _ (AR _ _ _) _ _ _)⟩));rw[jm AS];refine d5 key (λfin s' x=>?_) λe s' ⟨_,_,_,_,z,_⟩=>nomatch z
 cases fin with
 |done f=>
  obtain⟨h',tk,acc,c,e,rfl,kp,at_,f⟩:=x;cases e;exact last kp at_ f
 |again c1=>
  refine⟨x.1,kH x.2 λp s2 y=>?_⟩;obtain⟨h',tk,acc,c,rfl,rfl,kp,at_,f⟩:=y;exact last kp at_ f
theorem aHk{Q:aa ak->ao->Prop}{o:bf}{its:aE ak}{n:ah}(ho:s.heap.get? r=ae o)(hc:o.cls=.type "tuple")(hd:o.data=.seq its n)(hz:its.size<=bq)
 (q:∀h' tk,(∀b o,s.heap.get? b=ae o->h'.get? b=ae o)->s.heap.objs.size<=h'.objs.size->Q its.toList {s with heap:=h',toks:=tk}):ϑ (ax prog w) A (la (.ref r)) Q E s:=by
 have hS:=dg (h:=s.heap) (o:={cls:=.type "list",data:=.seq ([]:aa ak).toArray}) rfl;obtain⟨c,hc2⟩:∃c,((s.heap.push {cls:=.type "list",data:=.seq ([]:aa ak).toArray}).update s.heap.objs.size (e8 (·++its))).get? s.heap.objs.size=ae {cls:=.type "list",dict:=aj,data:=.seq its c,slots:=#[]}:=by
  rw[kq (e8 (·++its)) hS rfl];simp only[e8,Array.empty_append];exact⟨_,rfl⟩
 refine aBn (F:=λacc=>acc=its) (wpAny_extend_seq (hsz:=hz) (s:={s with heap:=s.heap.push {cls:=.type "list",data:=.seq ([]:aa ak).toArray}}) _ r _ 0 (.inr rfl) hS (cq _ ho) hc hd ⟨_,s.toks,its,c,rfl,rfl,λb o' hb=>?_,hc2,rfl⟩) λh' tk acc kp sz e=>by rw[e];exact q h' tk kp sz
 exact(kh _ _ (jx (bS hb))).trans ((cq _ hb))
theorem aHl{d:al}{es:aE iE}{ep:ah}(lo:(d==eP)=ag):KdlSrc prog w "dict" d d es.size (λi v=>∃h:i<es.size,v=es[i].key) (λh=>YZ h d es ep) where
 type:=λ_ x=>x.ty
 there:=λh x=>by obtain⟨o,e,_⟩:=x;exact⟨bS e,bS e⟩
 keep:=λ_ _ x k=>x.at λo e=>k d (.inl rfl) o e
 notList:=rfl
 notTuple:=rfl
 hint:=λ_ _ _ _ x q=>kdl_hint_dict x.ty q
 iter:=λ_ s hh x=>⟨_,_,λ_ _ q=>aE4 lo x q,aBm hh _ d (by obtain⟨o,e,_⟩:=x;exact c9 (bS e)) es ep,⟨_,dg _ rfl,rfl,rfl⟩,x.at λo e=>cq _ e⟩
theorem aBo{Q:aa ak->ao->Prop}{d:al}{es:aE iE}{ep:ah}(hh:A.handled=aj)(lo:(d==eP)=ag)(x:YZ s.heap d es ep)(hz:es.size<=bq)
 (q:∀h' tk,(∀b o,s.heap.get? b=ae o->h'.get? b=ae o)->s.heap.objs.size<=h'.objs.size->Q (es.toList.map (·.key)) {s with heap:=h',toks:=tk}):ϑ (ax prog w) A (la (.ref d)) Q E s:=by
 have lt:d<s.heap.objs.size:=by obtain⟨o,e,_⟩:=x;exact bS e
 refine aBn (F:=λacc=>acc.toList=es.toList.map (·.key)) (kdl_extend (aHl (prog:=prog) (w:=w) (es:=es) (ep:=ep) lo) hh (x.at λo e=>cq _ e) s.heap.objs.size (jx lt) (jx lt) _ 0 (dg _ rfl) (λh' tk acc c kp at_ it=>⟨h',tk,acc,c,rfl,rfl,λb o e=>kp b o (c9 (bS e)) (cq _ e),at_,?_⟩) hz) λh' tk acc kp sz e=>by rw[e];exact q h' tk kp sz
 refine List.ext_getElem? λi=>?_
 by_cases hi:i<es.size
 ·obtain⟨v,hv⟩:∃v,acc[i]?=ae v:=⟨acc[i]'(by rw[it.1];exact hi),by simp[it.1,hi]⟩
  obtain⟨_,e⟩:=it.2 i v hv;rw[gX,hv,e,ma,gX,wm hi];rfl
 ·rw[gX,wn (by rw[it.1];lia),ww (by simpa using hi)]
end
def JL:aa D->Res D
 |[.dct kvs]=>if kvs.all (λp=>isTup p.1)&&bQ (fG kvs) then .ok (.lst (i_ (fG kvs))) else .bad
 |[.tup xs]=>if bQ xs then .ok (.lst (i_ xs)) else .bad
 |[.scr xs]=>if bQ xs then .ok (.lst (i_ xs)) else .bad
 |ds=>nG ds
variable [KFrag]
section
variable {X:Cx}
theorem aFl{H:Hp}{s:ao}{Ψ:aa (al×bf)}{σ:L2.St}{a:al}{kvs:aa (aa Key×V)}(I:Inv X Ψ σ H s)(e:H a=ae (.dT kvs)):∃(es:aE iE)(ep:ah)(xs:aa (aa Key×al×ak)),YZ s.heap a es ep/\(a==eP)=ag/\kvs.length<=bq/\KT H kvs xs/\es.toList=xs.map (entryOfKey (kA (cU X.prog X.w))):=by
 obtain⟨z,hd,xs,rel,o,es,ep,h1,h2,h3,h4,_⟩:=aGc I.hok e;exact⟨es,ep,xs,⟨o,h1,h2,h3⟩,hd,z,rel,h4⟩
theorem yR{H:Hp}:∀k:aa Key,bW All H (k.map kV) (k.map kD)
 |[]=>.nil
 |.inl i::r=>.cons (.int i) (yR r)
 |.inr x::r=>.cons (.str x) (yR r)
theorem aHm{H:Hp}{P:al->Prop}{kvs:aa (aa Key×V)}{xs:aa (aa Key×al×ak)}(rel:KT H kvs xs):∀{ds:aa (D×D)},sO P H kvs ds->Vals (xs.map λx=>V.ref x.2.1) (xs.map λx=>ff x.2.1)/\bW All H (xs.map λx=>V.ref x.2.1) (fG ds):=by
 induction rel with
 |nil=>
  intro ds r;cases r;exact⟨.nil,.nil⟩
 |@cons p q ps qs h t ih=>
  intro ds r;cases r with
  |cons r u=>
   obtain⟨h1,h2⟩:=ih u;exact⟨.cons rfl h1,.cons (.tup h.2.1 (yR _)) h2⟩
theorem XS(hK:KFrag.K=X.K)(hc:X.calm=af)(hu:X.A.units+20<b9):jG X (.builtin "sorted") (rs JL af):=by
 rintro Ψ s σ H xs us Q I vr ⟨ds,d,r,e,k⟩;have fin:∀{ys:aa D},bQ ys=af->d=.lst (i_ ys)->∀p xs',H p=aj->bW All H xs' (i_ ys)->Q (.ref p) (upd H p (.lst xs')):=λ{ys} hl e p xs' hp r'=>by
  subst e;have sp:cX H (upd H p (.lst xs')):=cX.upd hp;exact k _ _ sp (.lst aN trivial (r'.same sp)) λ_=>.lst aN hp ((r'.bV (yI hl)).same sp)
 unfold JL at e;split at e
 ·rename_i kvs;split at e
  ·rename_i hl;rw[bj] at hl;cases e;obtain⟨vv,uu,rfl,rfl,r,v⟩:=fM r vr;have key:∀{H':Hp}{a:al}{kk:aa (aa Key×V)},Inv X Ψ σ H' s->H' a=ae (.dT kk)->sO All H' kk kvs->H'=H->vv=.ref a->ϑ (ax X.prog X.w) X.A (call (.builtin "sorted") [.ref a]) (EP X Ψ σ Q) X.xe s:=λ{H' a kk} I' e rt eH _=>by
    subst eH;obtain⟨es,ep,zs,raw,lo,hz,rel,he⟩:=aFl I' e;obtain⟨r1,r2⟩:=aHm rel rt;have hl2:es.size=zs.length:=by rw[<-gj,he,bp]
    have hl3:kk.length=zs.length:=i5 rel;have keys:es.toList.map (·.key)=zs.map λx=>ff x.2.1:=by rw[he,gf];rfl
    exact lX I' hu r1 (by rw[bp,<-hl3];exact hz) r2 hl.2 (λQ' E' h=>aBo (I'.ok.hd hc) lo raw (by rw[hl2,<-hl3];exact hz) λh1 tk kp sz=>by rw[keys];exact h h1 tk kp sz) (fin hl.2 rfl)
   cases r with
   |dK e _ rk _=>
    cases rk with
    |cons r t=>
     have:=hl.1;rw[hI,lY] at this;cases this
    |nil=>
     cases v;obtain⟨_,lo,vs,rel,o,es,ep,e1,e2,e3,_,hp,_⟩:=QT I.hok e;have h0:vs.length=0:=by rw[<-rel.length];rfl
     have h1:es.toList=[]:=wa (by rw[hp.length];exact h0);exact lX I hu .nil (eS _) .nil hl.2 (λQ' E' h=>aBo (I.ok.hd hc) lo ⟨o,e1,e2,e3⟩ (by rw[<-gj,h1];exact eS _) λh' tk kp sz=>by rw[h1];exact h h' tk kp sz) (fin hl.2 rfl)
   |dT e _ rt _=>
    cases v;exact key I e rt rfl rfl
  ·cases e
 ·rename_i ys;split at e
  ·rename_i hl;cases e;obtain⟨vv,uu,rfl,rfl,r,v⟩:=fM r vr;cases r with
   |tup e rr=>
    cases v;obtain⟨its,vr,o,ho,hc',n,hd⟩:=iU I e;have hz:=I.hok _ _ e;exact lX I hu vr (by rw[<-vr.length];exact hz.1) rr hl (λQ' E' h=>aHk ho hc' hd (by rw[cv,<-vr.length];exact hz.1) λh1 tk kp sz=>by simpa using h h1 tk kp sz) (fin hl rfl)
  ·cases e
 ·split at e
  ·rename_i hl;cases e;obtain⟨vv,uu,rfl,rfl,r,v⟩:=fM r vr;obtain⟨a,ys,rfl,ee,rr⟩:=r.inv;cases v;exact CT I hu (ee.sq hK) rr hl (fin hl rfl)
  ·cases e
 ·exact yJ hu Ψ s σ H xs us Q I vr ⟨_,d,r,e,k⟩
end
end Mi
namespace Mi
open PySem L2 PySem.SeqAt PySem.Spec PyProof.Rows
def aKl(i:ah)(g:FS):FS:=λρ=>do
 let d <- jH i ρ
 match d with
 |.dct kvs=>(do
   let r <- g (ρ.set i (.fdc kvs))
   match r with
   |.rt d=>.ok (.rt d)
   |_=>.bad)
 |_=>.bad
section
variable [KFrag]
section
variable {X:Cx} {e:Expr} {own:ah->aq}
theorem aHn(I:Inv X Ψ σ H s)(hua:H a=ae u)(hu:(∃kvs,u=.dK kvs)\/∃kvs,u=.dT kvs):∃o,Inv X Ψ σ (upd H a (.frz o u)) s:=by
 have hk:=I.hok a _ hua;have keepT:∀o b xs,H b=ae (.tup xs)->upd H a (.frz o u) b=ae (.tup xs):=λo b xs h=>by
  rw[bD (λz=>by subst z;rw[hua] at h;cases h;rcases hu with ⟨_,z⟩|⟨_,z⟩<;>cases z)];exact h
 rcases hu with ⟨kvs,rfl⟩|⟨kvs,rfl⟩
 ·obtain⟨z,hs,vs,rel,o,es,ep,ho,c⟩:=hk;exact⟨o,I.write (o:=.frz o (.dK kvs)) (by rw[hua];trivial) (.inl rfl) (λ_ _ _ q=>q) ⟨o,ho⟩ ⟨ho,z,hs,vs,rel,o,es,ep,ho,c⟩⟩
 ·obtain⟨es,ep,zs,raw,lo,hz,rel,he⟩:=aFl I hua;obtain⟨o,ho,hx,hdt⟩:=raw;exact⟨o,I.write (t':=s.toks) (x:=a) (e:=a) (h':=s.heap) (o:=.frz o (.dT kvs)) (by rw[hua];trivial) (.inl rfl) (λ_ _ _ q=>q) ⟨o,ho⟩ ⟨ho,hk.stay (λ_ _ _ q=>q) (λb hb=>by
   rw[bD (λz=>by subst z;rw[hua] at hb;cases hb)];exact hb) (keepT o)⟩⟩
theorem aE6(r:Rep P H (.ref a) (.dct ds)):∃u,H a=ae u/\W_ u=af/\((∃kvs,u=.dK kvs)\/∃kvs,u=.dT kvs):=by
 cases r with
 |dK e p r n=>exact⟨_,e,rfl,.inl ⟨_,rfl⟩⟩
 |dT e p r n=>exact⟨_,e,rfl,.inr ⟨_,rfl⟩⟩
theorem aBp{ss:aa bE}{i:ah}{g:FS}(ho:own i=af)(hr:PSs X ss (tS (uL own i) g))(hx:own rtX=ag:=by rfl):PSs X ss (tS own (aKl i g)):=by
 rintro Ψ s σ H D' I ⟨ρ,fl,E,h,q⟩;obtain⟨d,h1,h2⟩:=bL h;obtain⟨v,hσ,r,ed⟩:=E.er.var h1;split at h2
 ·rename_i ds;obtain⟨r2,h3,h4⟩:=bL h2;obtain⟨a,rfl⟩:∃a,v=.ref a:=by cases r<;>exact⟨_,rfl⟩
  obtain⟨u,hua,hmu,hu⟩:=aE6 r;obtain⟨o,If⟩:=aHn I hua hu;obtain⟨EF,hna⟩:=aMo (o:=o) E ho hσ ed hua hmu;have hOa:Own own σ a:=⟨i,ho,hσ⟩
  refine hr Ψ s σ _ D' If ⟨_,r2,EF,h3,?_⟩;cases r2 with
  |rt d2=>
   cases h4;refine kRt.mk (by cases q:uL own i rtX with|false=>rfl|true=>have:=(lC q).1;rw[hx] at this;cases this) λv H' hk rv=>kRt.old q hx v H' (λb ob hb hn=>hk b ob ?_ λz=>hn z.of) (rv.mono λb hb=>?_)
   ·rw[bD (λz=>by subst z;exact hn hOa)];exact hb
   ·rcases hb with hb|hb
    ·exact .inl hb.of
    ·exact .inr (by
      have:b≠a:=λz=>by subst z;rw[aN] at hb;cases hb
      rw[bD this] at hb;exact hb)
  |nx _=>exact bx h4
  |bk _=>exact bx h4
  |ct _=>exact bx h4
 ·exact bx h2
end
end
def jD(kvs:aa (D×D))(k:D):aa (D×D):=kvs.filter λp=>!eqD p.1 k
def aKm(i:ah)(f:FE):FS:=λρ=>do
 let k <- f ρ
 match ρ.getD i .uD,k with
 |.dct kvs,.str x=>if (bR kvs (.str x)).isSome then .ok (.nx (ρ.set i (.dct (jD kvs (.str x))))) else .bad
 |_,_=>.bad
section
variable [KFrag]
section
variable {X:Cx} {e:Expr} {fe:FE} {re:aq} {pos:cb}
theorem V1{P:al->Prop}{H:Hp}{k:Key}:∀{kvs:aa (Key×V)}{ds:aa (D×D)},kE P H kvs ds->kE P H (zY kvs k) (jD ds (kD k))
 |_,_,.nil=>.nil
 |_,_,.cons (k:=k') (v:=v) (r:=r) (ds:=ds) h t=>by
  have ih:=V1 (k:=k) t;unfold zY jD at ih ⊢;rw[kj,kj];simp only[aAf];by_cases z:k'=k
  ·simp only[z,AT,kQ,db,cx,ne_eq,not_true_eq_false,AU];exact ih
  ·simp only[z,AU,qmt,cw,ne_eq,not_false_eq_true,AT];exact .cons h ih
theorem aE7:MtR X "dict.pop" (λx xs H Q=>∃a kvs k v,x=.ref a/\xs=[kV k]/\H a=ae (.dK kvs)/\xO kvs k=ae v/\Q v (upd H a (.dK (zY kvs k)))):=by
 intro Ψ s σ H x xs v us Q I rx rxs ⟨a,kvs,k,w,e1,e2,ea,el,q⟩;subst e1 e2;cases rx;cases rxs with
 |cons r1 r2=>
  cases r2;exact aM9 I ea r1 el (.inl rfl) λw' s' I' rw'=>⟨w,_,I',rw',q⟩
theorem DP{ds:aa (D×D)}{k:D}(h:θ (ds.map (·.2))=af):θ ((jD ds k).map (·.2))=af:=jK.mpr λd hd=>by
 obtain⟨p,hp,rfl⟩:=cS.mp hd;exact jK.mp h _ (List.mem_map_of_mem (gL.mp hp).1)
theorem aHo{own:ah->aq}{i:ah}{x:Str}{p1 apos cpos:cb}(ho:own i=af)(hN:X.N[i]?=ae x)(hv:Vis X.env.scope x)(he:PE X e (gE fe re))(hd:nDb x:=by decide)(hcd:nCd x:=by decide)
 (hbase:i8 (.Name x p1) "pop" X.env (eval (.Name x p1) X.env)=eval (.Name x p1) X.env:=by rfl)
 (hs1:br [e] X.env=(ag,eval e X.env)::br [] X.env:=by rfl)
 (hfew:((dA cpos (br [e] X.env)).all (λx=>!x.1)&&(mh cpos (mi [] X.env)).all (λx=>x.1.isSome)
  &&ϒ (([e]:aa Expr).length+([]:aa iq).length+(if ([]:aa iq).isEmpty then 0 else 1)<30))=af:=by rfl)
 (hline:(apos.endLine==cpos.line)=af:=by rfl)
 (hs:dL (.Call (.Attribute (.Name x p1) "pop" apos) [e] [] cpos) aj pos.line X.env=pure ag:=by rfl) :
  PS X (.Expr (.Call (.Attribute (.Name x p1) "pop" apos) [e] [] cpos) pos) (tS own (aKm i fe)):=
 PS.imp (xJ (aD0 AH yw PySem.F.type_dict_pop aE7 (kI hN hv hd hcd) (jW he xM hs1) hbase hfew hline hs1 rfl) hs) λD' σ H ⟨ρ,fl,E,h,q⟩=>by
 obtain⟨k,h1,h2⟩:=bL h;split at h2
 ·rename_i ds kx hx;split at h2
  ·rename_i hk;cases h2;obtain⟨a,o,hσ,r,hin,ha,hm⟩:=E.ownAt ho (by rw[hx];intro z;cases z);rw[hx] at r hin;cases r with
   |@dK _ kvs _ e0 _ rk nd=>
    rcases aAg (k:=.inr kx) rk with ⟨v,d',g1,g2,g3⟩|⟨g1,g2⟩
    ·refine⟨_,hσ,.inr (.inr (.inl ⟨rfl,.inl ⟨_,e0⟩⟩)),ρ,_,E.er,h1,λw H' s rw1 _=>?_⟩;cases rw1;refine⟨a,kvs,.inr kx,v,rfl,rfl,s _ _ e0,g1,?_⟩;have E':=E.same s;have rn:kE (λ_=>cm) H' (zY kvs (.inr kx)) (jD ds (.str kx)):=((V1 (k:=.inr kx) rk).bV (DP hin)).keep (.same s) λ_ z=>z
     have nd2:((zY kvs (i0 kx:Key)).map (·.1)).Nodup:=nd.sublist (BH _ (w8));obtain⟨E2,k2⟩:=E'.mut (o:=.dK (zY kvs (.inr kx))) (d:=.dct (jD ds (.str kx))) ho hσ rfl (.dK aN trivial (rn.keep (yM (s _ _ e0) rfl) λ_ z=>z.elim) nd2) (DP hin);exact q _ _ ((KU.same s).trans k2) E2
    ·have g2:bR ds (.str kx)=aj:=g2;rw[g2] at hk;cases hk
   |@dT _ kvs _ e0 _ rt nd=>
    exfalso;obtain⟨d,hd⟩:=kK.mp hk;obtain⟨p,hp,e⟩:=HQ (k:=.str kx) rfl hd;rw[L_ rt p hp] at e;cases e
  ·cases h2
 ·cases h2
end
end
def aKn:aa D->Res D
 |[.fdc kvs]=>if txK kvs then .ok (.int kvs.length) else .bad
 |ds=>gJ ds
def z8:aa D->Res D
 |[.fdc kvs]=>if txK kvs&&θ (kvs.map (·.2)) then .ok (.dct kvs) else .bad
 |_=>.bad
def Y0(f:FE):FI:=λρ=>do
 let d <- f ρ
 match d with
 |.scr xs=>if θ xs then .ok (xs,af) else .bad
 |_=>.bad
variable [KFrag]
section
variable {X:Cx} {e:Expr} {f:FE}
theorem aHp(hK:KFrag.K=X.K):jG X (.builtin "len") (rs aKn af):=by
 rintro Ψ s σ H xs us Q I vr ⟨ds,d,r,e,k⟩;unfold aKn at e;split at e
 ·rename_i kd;split at e
  ·rename_i hb;cases e;obtain⟨vv,uu,rfl,rfl,r,v⟩:=fM r vr;obtain⟨l,o,kvs,rfl,ea,rk⟩:=aBk r hb;cases v;obtain⟨z,hd,vs,rel,dd⟩:=K4 I.hok (.inr ⟨o,ea⟩);have rl:kvs.length=kd.length:=by have:=(yP rk).length;simpa using this
   refine call_len_dict hd dd (by rw[<-rel.length];rw[fo] at z;lia) ?_;rw[<-rel.length,rl];exact⟨.int _,H,I.tok _,⟨_,rfl⟩,k.int⟩
  ·exact bx e
 ·exact dH hK Ψ s σ H xs us Q I vr ⟨_,d,r,e,k⟩
theorem aKo(r:Rep P H v (.fdc ds))(hb:txK ds=af):∃a o kvs,v=.ref a/\H a=ae (.frz o (.dK kvs))/\kE P H kvs ds/\(kvs.map (·.1)).Nodup:=by
 unfold txK at hb;rw[bj] at hb;cases r with
 |fdK e rk n=>exact⟨_,_,_,rfl,e,rk,n⟩
 |fdT e rt n=>
  cases rt with
  |nil=>exact bb hb.1 (by simp)
  |cons r t=>exact bb hb.2 (by simp[isTup])
theorem wZ:jG X (.type "dict") (rs z8 af):=by
 intro Ψ s σ H xs us Q I vr ⟨ds,d,r,e,k⟩;unfold z8 at e;split at e
 ·rename_i kd;split at e
  ·rename_i hl;rw[bj] at hl;cases e;obtain⟨vv,uu,rfl,rfl,r,v⟩:=fM r vr;obtain⟨a,o,kv,rfl,ea,rk,n⟩:=aKo r hl.1;cases v;obtain⟨z,sm,vs,rel,dd⟩:=K4 I.hok (.inr ⟨o,ea⟩);refine kt_call_dict sm dd (by rw[<-rel.length];exact z) λh' dd' hs=>?_
   have hp:H s.heap.objs.size=aj:=I.hok.fresh (bi _);have I':=I.laid (a:=s.heap.objs.size) (o:=.dK kv) (h':=h') (t':=s.toks) (λb q hq=>(hs.2 b (c9 (bS hq))).trans (cq _ hq)) (bi _) (ZX z (sK.mpr (Ne.symm (c9 I.big))) rel dd');have sp:cX H (upd H s.heap.objs.size (.dK kv)):=cX.upd hp;have ku:∀{P:al->Prop},kE P (upd H s.heap.objs.size (.dK kv)) kv _:=λ{P}=>(kE.bV rk hl.2).keep (.same sp) λ_ h=>h
   exact⟨.ref _,_,I',rfl,k _ _ sp (.dK aN trivial ku n) λ_=>.dK aN hp ku n⟩
  ·exact bx e
 ·exact bx e
theorem aBq{tg l:Expr}(hK:KFrag.K=X.K)(hl:PE X l (gE f rl)):PI X tg l (gI X.K (Y0 f)):=by
 intro Ψ s σ H R I ⟨ρ,items,k,E,h,q⟩;obtain⟨d,h1,h⟩:=bL h;split at h
 ·rename_i its;split at h
  ·rename_i hpu;cases h;refine thn (hl Ψ s σ H (λv H1=>cX H H1/\Rep All H1 v (.scr items)) I ⟨ρ,_,E,h1,λv H1 s1 r1 _=>⟨s1,r1⟩⟩) λu s1 ⟨v,H1,I1,ru,sm,r1⟩=>?_
   obtain⟨a,xs,rfl,ee,rr⟩:=r1.inv;cases ru;obtain⟨its,rv,p,hz⟩:=I1.list (ee.sq hK);refine ng p.isList ?_;refine⟨s1.heap.objs.size,[s1.heap.objs.size],_,_,H1,rfl,I1.kept λb o e=>cq _ e,sS a _,⟨_,dg _ rfl,rfl,rfl⟩,λb hb=>?_,q _ H1 sm (.scr a hK rfl r1) λ_=>.scr a hK rfl (r1.bV ?_)⟩
   ·have e:b=s1.heap.objs.size:=by simpa using hb
    subst e;exact I1.aEy (bi _) (I1.hok.fresh (bi _))
   ·exact hpu
  ·exact bx h
 ·exact bx h
theorem aKp{st:bE}{iy:ah}(h:PS X st (aEx (gE f af) (uW iy))):PS X st (aEx (gE (bFz f) af) (uW iy)):=by
 intro Ψ s σ H Dn I ⟨ρ,d,E,hf,q⟩;obtain⟨d0,h1,h2⟩:=bL hf;split at h2
 ·rename_i xs;split at h2
  ·rename_i hp;cases h2;refine thn (h Ψ s σ H {Dn with nx:=λσ' H'=>∃a vs,H' a=ae (.lst vs)/\∀o,Dn.nx σ' (upd H' a (.frz o (.lst vs)))} I ⟨ρ,.lst xs,E,h1,λv H1 s1 r n=>?_⟩) λfl s' hq=>?_
   ·cases n rfl with
    |@lst a vs _ ea pa ra=>
     refine⟨a,vs,ea,λo=>?_⟩;have noT:∀ob,H1 a=ae ob->YX ob=af:=λob z=>by rw[ea] at z;cases z;rfl
     have s2:cX H (upd H1 a (.frz o (.lst vs))):=λb ob eb=>by
      rw[bD (λz=>by rw[z,show H a=aj from pa] at eb;cases eb)];exact s1 b ob eb
     have rp:∀P:al->Prop,Rep P (upd H1 a (.frz o (.lst vs))) (.ref a) (.scr xs):=λP=>.frz (.inl ⟨o,aN⟩) ((uK noT ra hp).bV hp)
     exact q _ _ s2 (rp _) λ_=>rp _
   ·cases fl with
    |next=>
     obtain⟨σ',H',I',a,vs,ea,k⟩:=hq;obtain⟨o,I2⟩:=DN I' ea;exact⟨σ',_,I2,k o⟩
    |brk=>exact hq
    |cont=>exact hq
    |ret u=>exact hq
  ·exact bx h2
 ·exact bx h2
section
variable {own:ah->aq} {scope:dS} {ownN:aa Str} {elt iter tg:Expr} {it:FI} {t:D->Res (aa D)} {g:TG} {fe:FE} {re:aq}
theorem NK(S:cZ X.N X.env.scope scope ownN)(hn:X.N.length=n)(hm:ownN.length=m)(hcalm:X.calm=af)(hi:PI X tg iter (gI X.K it))(ht:TgC g t n m)(hg:∀y,PG (mkC X scope ownN y) tg g)(he:∀y,PE (mkC X scope ownN y) elt (gE fe re))
 (hs:∀x,d6 iter X.env x=pure x)(ho:own iy=o)(hNn:X.N.Nodup)(hiy:X.N[iy]?=ae y)(hxy:Loc X.env.scope y)(hfy:X.fn y=af\/X.env.scope.names.lookup y=ae .local)(hsw:dL (.ListComp elt [⟨tg,iter,[],0⟩] scope pos) (ae (.Name y py)) pos2.line X.env=pure af) :
  PS X (.Assign [.Name y py] (.ListComp elt [⟨tg,iter,[],0⟩] scope pos) pos2) (tS own (b_ o iy (bFz (dN n it t jA fe re)) af)):=by
 refine PS.imp (aKp (f:=dN n it t jA fe re) λΨ s σ H D I h=>?_) λD σ H h=>HW ho h
 subst hm;refine VG S hcalm hi (λX' cc=>by obtain⟨y,rfl⟩:=jQ cc;exact hg y) (λX' cc=>by obtain⟨y,rfl⟩:=jQ cc;exact he y) hs hNn hiy hxy hfy hsw Ψ s σ H D I ?_;exact nJ ht (λσ H Q h=>by obtain⟨ρ,b,E,h,q⟩:=h;cases h;exact q H (cX.refl H)) (I.len.trans hn) h
end
end
theorem aHq{P:bu}{w:bo}{T:al}{its:aE ak}{K:bz}{mg:Str->ay ak}{base:aS}{x:Str}{st:bE}{fad:al}{fd:eo}{N ps:aa Str}{k:ah}{f:FS}(F:aMn K x x st fad fd T its)(hm:mg x=ae (.ref fad))(hb:Binds K fd ps [])(S:cA N ps (aP st))(own:ah->aq)(hown:∀i,i<ps.length->own i=ag)(hNl:ps.length<=N.length)
 (hbody:∀(cdv:ak) (A:bP) (outer:aa c5) (s:ao) (H:Hp) (E:XK),uR k (A.deeper (dj x (aP st) s.heap.objs.size fad cdv))->PSs (v4 (CX2 P w) P w K mg base N x (aP st) fad cdv A outer s H E) (gK st) (tZ own E f))(hx:own rtX=ag:=by rfl):vL P w K mg base (k+1) x ps.length (fnS ps.length N.length f):=by
 refine⟨fad,fd,ps,?_,hm,F.kp,hb⟩;obtain⟨oc,od,kV,doc,pm,an,cdv,ct,osl,rfl,lk,hcd⟩:=F.ex;refine aG5 lk hcd S (λvs H Q E ⟨ds,h1,r,_⟩=>by rw[r.length,h1]) λA outer s H vs Q E hr ⟨ds,hl,r,h⟩=>?_
 refine⟨_,hbody cdv A outer s H E hr,?_⟩;have hst:start N vs=vs.map ae++ck (N.length-ps.length) aj:=by
  show vs.map ae++ck (N.length-vs.length) aj=_;rw[r.length,hl]
 have noown:∀a,¬Own own (start N vs) a:=λa ⟨i,hi,e⟩=>by
  rw[hst] at e;by_cases h:i<ps.length
  ·rw[hown i h] at hi;cases hi
  ·rw[eL (by simp[r.length,hl];lia)] at e;rw[io] at e;split at e<;>cases e
 cases hv:fnS ps.length N.length f ds with
 |ok d=>
  rw[hv] at h;obtain⟨ρ,fl,es,h1,q⟩:=RW (E:=E) hx hown ⟨ds,d,hl,r,hv,h⟩;exact⟨ρ,es,by rw[h1];exact q⟩
 |err c as=>
  rw[hv] at h;refine⟨_,H_ hst hl r hown noown,?_⟩;cases hf:f (ds++ck (N.length-ps.length) .uD) with
  |ok fl=>
   exfalso;unfold fnS at hv;rw[hf] at hv;cases fl<;>cases hv
  |err c' as'=>
   unfold fnS at hv;rw[hf] at hv;cases hv;obtain⟨fs,C,e1,e2,e3⟩:=h;exact⟨fs,C,e1,e2,λσ' H' dx kk x=>e3 H' dx (λa o e=>(kk a o e (noown a)).1) x⟩
  |bad=>
   exfalso;unfold fnS at hv;rw[hf] at hv;cases hv
 |bad=>rw[hv] at h;exact h.elim
end Mi
section
local macro_rules | `(tactic| trivial) => `(tactic| first | exact Or.inl rfl | exact Or.inr rfl | exact Or.inr (Or.inl rfl) | exact Or.inr (Or.inr rfl))
namespace Lk03
open PySem L2 Mi PySem.W
noncomputable def top(i:ah):bE:=PySem.Challenge.pw_hookmill_k03_no_net.main.body.getD i (.Pass ⟨0,0,0,0⟩)
abbrev j8:bE:=top 27
noncomputable def z_:ah->aq:=λi=>ag
def fO:FS:=bI (sIf (bTB (b2 (b8 (.ord .lt)) iK (aL gJ (aB cH aO)))) (uV (b2 getD cH iK) ag) jM) (uV cQ af)
def dB:aa D->Res D:=fnS 2 2 fO
abbrev nT:bE:=top 28
noncomputable def NP:ah->aq:=λi=>i==5
def nU:FS:=bI (b_ ag 2 (bC (.str "abcdefghijklmnopqrstuvwxyz")) af) (bI (b_ ag 3 (b2 (aQ .add) dG (b2 (aQ .mod) cH GZ)) af) (bI (b_ ag 4 (b2 (aQ .mod) (b2 (aQ .fdiv) cH GZ) cJ) af) (bI (b_ af 5 (bC (.dct [])) af) (bI (Q_ (vA (aB (b2 (aQ .add) aCq (b2 (aQ .mod) (b2 (aQ .fdiv) cH (bC (.int 64))) aCq)) aO) uB) (tg1 6) (bI (b_ ag 7 (bC (.str "")) af) (bI (Q_ (vA (aB cJ aO) uB) (tg1 8) (bI (b_ ag 9 (b2 (aQ .mul) (b2 (aQ .mod) (b2 (aQ .fdiv) cH Z_) zW) (b2 (aQ .add) iT zW)) af) (bI (sIf (bTB (b2 (b8 .eq) iT d_)) (b_ ag 9 dG af) jM) (b_ ag 7 (b2 (aQ .add) zV (b2 getD dX (b2 (aQ .mod) (b2 (aQ .add) (b2 (aQ .fdiv) (b2 (aQ .fdiv) cH K9) (b2 (aQ .add) (b2 (aQ .mul) iT iT) dG)) (b2 (aQ .mul) lO o9)) aA0))) af)))) (bI (aDd 5 zV (b2 (aQ .mod) iK zX)) (b_ ag 1 (b2 (aQ .fdiv) iK zX) af))))) (Q9 5)))))
def iY:aa D->Res D:=fnS 2 10 nU
abbrev mF:bE:=top 30
noncomputable def JM:ah->aq:=λi=>i==3||i==5
def mG:FS:=bI (b_ af 3 (uT aO) af) (bI (Q_ (vA (aB (b2 (aQ .add) (aL gJ (aB cH aO)) (b2 (aQ .mul) zW iK)) aO) uB) (tg1 4) (aJq 3 (b2 (aQ .mod) (b2 (aQ .add) (b2 (aQ .fdiv) dX (b2 (aQ .add) d_ dG)) (b2 (aQ .mul) d_ d_)) (b2 (aQ .add) d_ dG)) d_)) (bI (b_ af 5 (uT aO) af) (bI (Q_ (vA (aB (aL gJ (aB cH aO)) aO) uB) (tg1 4) (lJ 5 (cL (aB (cL (aB cQ (aB (b2 getD cJ d_) aO))) (aB (b2 getD cH d_) aO))))) (bI (Q_ (vA (aB iK aO) uB) (tg1 4) (bI (b_ ag 6 (YW cJ (jJ (b2 (aQ .add) (aL gJ (aB cH aO)) (b2 (aQ .mul) zW d_))) (jJ (b2 (aQ .add) (b2 (aQ .add) (aL gJ (aB cH aO)) (b2 (aQ .mul) zW d_)) zW))) af) (lJ 5 (cL (aB (cL (aB cQ (aB (aL (fL .lt) (aB lO aO)) aO))) (aB (cL (aB cQ (aB (aL (fL .gt) (aB lO aO)) aO))) aO)))))) (Q9 5)))))
def gU:aa D->Res D:=fnS 3 7 mG
abbrev mH:bE:=top 29
noncomputable def R5:ah->aq:=λi=>ag
def sE:FS:=bI (b_ ag 2 (b2 getD cH (b2 (aQ .mod) iK (aL gJ (aB cH aO)))) ag) (bI (b_ ag 3 (dN 5 (fZ cH ag) uU (bTB (b2 (b8 .ne) iM dX)) iM ag) af) (bI (b_ ag 4 (b2 getD cJ (b2 (aQ .mod) (b2 (aQ .fdiv) iK (aL gJ (aB cH aO))) (aL gJ (aB cJ aO)))) ag) (uV (cL (aB (aL (fL .lt) (aB dX (aB d_ aO))) (aB (aL (fL .gt) (aB dX (aB d_ aO))) aO))) ag)))
def eZ:aa D->Res D:=fnS 2 5 sE
abbrev gD:bE:=top 31
noncomputable def NQ:ah->aq:=λi=>i==5||i==7
def nW:FS:=bI (b_ ag 3 (aL oV (aB cH aO)) af) (bI (b_ ag 4 (b2 getD (uT (aB (b2 (aQ .pow) jY aF4) (aB (b2 (aQ .pow) jY aF4) (aB (b2 (aQ .pow) jY zZ) aO)))) (b2 (aQ .mod) (b2 (aQ .fdiv) dX aCq) aCq)) ag) (bI (b_ af 5 (uT aO) af) (bI (b_ ag 6 (uT aO) af) (bI (b_ af 7 (uT aO) af) (bI (b_ ag 8 cQ af) (bI (b_ ag 9 cQ af) (bI (b_ ag 10 cQ af) (bI (uC 1 (tg1 11) (bI (b_ ag 12 (b2 (aQ .fdiv) gH GZ) af) (bI (sAl 13 6) (bI (sIf (bTB (b2 (b8 .eq) (b2 (aQ .mod) gH GZ) aIc)) (b_ ag 13 (dN 14 (fZ lO ag) uU (bTB (b2 (b8 .eq) (b2 getD gY dG) cQ)) gY ag) af) jM) (sIf (T8 (bTB (b2 (b8 (.ord .lt)) (b2 (aQ .mod) gH GZ) aIe)) (bTB (b2 (b8 (.ord .lt)) (aL gJ (aB iM aO)) jY))) (bI (b_ ag 8 (b2 (aQ .add) (b2 (aQ .add) iT dG) (b2 (aQ .mod) (b2 (aQ .fdiv) mW (aL gJ (aB cJ aO))) d_)) af) (bI (lJ 5 (cL (aB iT (aB (b2 getD cJ (b2 (aQ .mod) mW (aL gJ (aB cJ aO)))) aO)))) (b_ ag 6 (b2 (aQ .add) lO (dN 14 (vA (aB (b2 (aQ .add) (b2 getD cH (b2 getD cJ (b2 (aQ .mod) mW (aL gJ (aB cJ aO))))) dG) aO) uB) uU jA (cL (aB iT (aB gY aO))) ag)) af))) (sIf (T8 (bTB (bCh (b8 (.ord .le)) (b8 (.ord .lt)) aIe (b2 (aQ .mod) gH GZ) aJp)) (bTB (b2 (b8 (.ord .gt)) (aL gJ (aB x_ aO)) dG))) (bI (lJ 7 (aL (cF 2 eZ) (aB x_ (aB mW aO)))) (b_ ag 6 (dN 14 (fZ lO ag) uU (bTB (b2 (b8 .notin) gY (b2 getD zV (b1 YT dG)))) gY ag) af)) (sIf (bTB (b2 (b8 .eq) (b2 (aQ .mod) gH GZ) aJp)) (b_ ag 9 (b2 (aQ .add) o9 dG) af) (sIf (bTB (b2 (b8 .eq) (b2 (aQ .mod) gH GZ) zX)) (b_ ag 10 (b2 (aQ .add) wC (b2 (aQ .mod) mW (b2 (aQ .pow) jY zZ))) af) jM)))))))) (bI (b_ af 7 (b2 (aQ .add) zV (aL (cF 3 gU) (aB lO (aB o9 (aB dX aO))))) af) (uV (cL (aB (aL CQ (aB iM aO)) (aB (aL CQ (aB (aL nG (aB zV aO)) aO)) (aB wC aO)))) ag))))))))))
def jR:aa D->Res D:=fnS 3 14 nW
abbrev vM:bE:=top 35
noncomputable def XX:ah->aq:=λi=>ag
def X3:FS:=bI (b_ ag 1 cQ af) (bI (Q_ (fZ (b2 getD cH dG) ag) (tgN [2,3]) (b_ ag 1 (b2 (aQ .add) (b2 (aQ .add) iK (aL aH8 (aB (b2 (b8 .eq) (b2 getD dX cQ) cQ) aO))) (aL aH8 (aB (b2 (b8 .eq) (b2 getD cJ cQ) cQ) aO))) af)) (uV iK ag))
def fB:aa D->Res D:=fnS 1 4 X3
abbrev mJ:bE:=top 23
noncomputable def R6:ah->aq:=λi=>ag
def R7:FS:=uV (aL gJ (aB (dN 1 (fZ cH ag) uU (bTB (b2 (b8 .eq) (b2 getD iK cQ) cQ)) iK ag) aO)) af
def jL:aa D->Res D:=fnS 1 1 R7
abbrev sG:bE:=top 25
noncomputable def R8:ah->aq:=λi=>ag
def R9:FS:=bI (b_ ag 3 (b2 getD dX cQ) ag) (bI (sIf (bTB (b2 (b8 .eq) cJ cQ)) (uV (bCh (b8 (.ord .le)) (b8 (.ord .lt)) cQ (b2 getD dX dG) iK) af) jM) (uV (G3 (b2 (b8 .isin) cJ cH) (bCh (b8 (.ord .le)) (b8 (.ord .le)) cQ (b2 getD dX dG) (b2 getD cH cJ))) af))
def fX:aa D->Res D:=fnS 3 4 R9
abbrev jT:bE:=top 24
noncomputable def NT:ah->aq:=λi=>i==3
def nY:FS:=bI (noE (b_ ag 2 (aL (cF 1 jL) (aB iK aO)) af)) (bI (noE (b_ af 3 (bC (.dct [])) af)) (bI (uC 1 (noT (tg1 4)) (bI (sIf (noE (bTB (b2 (b8 .isin) d_ cJ))) (gR "NoNet") jM) (bI (sIf (noE (aF5 (bTr (aL (cF 3 fX) (aB cH (aB dX (aB d_ aO))))))) (gR "NoNet") jM) (noE (aDd 3 d_ (bC (.bl af))))))) (sIf (noE (bTB (b2 (b8 (.ord .lt)) (b2 (aQ .sub) (aL gJ (aB iK aO)) dX) (aL XR (aB (aE1 0 5 (b2 (aQ .add) iM dG)) aO))))) (gR "NoNet") jM)))
def iZ:aa D->Res D:=fnS 2 5 nY
abbrev oN:bE:=top 20
noncomputable def X4:ah->aq:=λi=>ag
def X5:FS:=bI (b_ ag 3 (dN 4 (fZ iK ag) (aDc 2) jA (cL (aB (aL (fL .lt) (aB d_ (aB iM aO))) (aB (aL (fL .gt) (aB d_ (aB iM aO))) aO))) ag) af) (uV (cL (aB (aL CQ (aB (aL JL (aB cH aO)) aO)) (aB (aL CQ (aB (aL nG (aB cJ aO)) aO)) (aB dX aO)))) ag)
def oO:aa D->Res D:=fnS 3 4 X5
abbrev iH:bE:=top 21
noncomputable def vN:ah->aq:=λi=>i==2
def vO:FS:=bI (noE (b_ af 2 (bC (.dct [])) af)) (bI (uC 1 (noT (tgN [3,4])) (bI (sIf (noE (bTB (b2 (b8 (.ord .lt)) cJ dG))) (gR "NoNet") jM) (bI (sIf (noE (bTB (b2 (b8 .isin) cJ dX))) (gR "NoNet") jM) (bI (sIf (noE (bTB (b2 (b8 .notin) d_ cH))) (gR "NoNet") jM) (noE (aDd 2 cJ (b2 getD cH d_))))))) (noE (Q9 2)))
def cR:aa D->Res D:=fnS 2 5 vO
abbrev yS:bE:=top 22
noncomputable def aBr:ah->aq:=λi=>i==1
def aBs:FS:=bI (b_ af 1 (uT aO) af) (bI (uC 0 (tgN [2,3]) (bI (lJ 1 dX) (lJ 1 cJ))) (Q9 1))
def nZ:aa D->Res D:=fnS 1 4 aBs
abbrev DQ:bE:=top 19
noncomputable def aKq:ah->aq:=λi=>ag
def aKr:FS:=bI (sIf (noE (bTB (b2 (b8 (.ord .lt)) cJ cQ))) (gR "NoNet") jM) (bI (wD (aL (cF 2 iZ) (aB (aL (cF 2 cR) (noE (aB cH (aB iK aO)))) (noE (aB (aL (cF 1 nZ) (aB dX aO)) aO))))) (noE (uV (aL (cF 3 oO) (aB iK (aB dX (aB cJ aO)))) af)))
def n6:aa D->Res D:=fnS 4 4 aKr
abbrev n8:bE:=top 38
noncomputable def NZ:ah->aq:=λi=>ag
def N5:FS:=bI (sIf (bOr (bTr (JG [("NoNet",ag)] 0)) (bOr (bTr (JG [("NoNet",ag)] 0)) (bOr (bTr (JG [("NoNet",ag)] 0)) (bTr (JG [("NoNet",ag)] 0))))) (uV (bC (.bl af)) af) jM) (bI (sIf (bOr (bTr (JG [("NoNet",ag)] 0)) (bOr (bTr (JG [("NoNet",ag)] 0)) (bOr (bTr (JG [("NoNet",ag)] 0)) (bTr (JG [("NoNet",ag)] 0))))) (uV (bC (.bl af)) af) jM) (bI (sIf (bOr (bTr (JG [("NoNet",ag)] 0)) (bOr (bTr (JG [("NoNet",ag)] 0)) (bOr (bTr (JG [("NoNet",ag)] 0)) (bTr (JG [("NoNet",ag)] 0))))) (uV (bC (.bl af)) af) jM) (uV (aMb (JG [("NoNet",ag)] 0) (aMb (JG [("NoNet",ag)] 0) (JG [("NoNet",ag)] 0))) af)))
def jU:aa D->Res D:=fnS 1 1 N5
abbrev j9:bE:=top 39
noncomputable def A_:ah->aq:=λi=>ag
def BJ:FS:=bI (b_ ag 4 (bC .non) af) (bI (aLn n6 4 (aB (aL z8 (aB cH aO)) (aB (aL lD (aB iK aO)) (aB (aL lD (aB dX aO)) (aB cJ aO)))) ["NoNet"] 4 5) (uV (G3 (JG [("NoNet",af)] 4) (G3 (JG [("NoNet",af)] 4) (aDb (aL (cF 1 jU) (aB d_ aO))))) af))
def eE:aa D->Res D:=fnS 4 6 BJ
abbrev vP:bE:=top 33
noncomputable def X6:ah->aq:=λi=>ag
def X7:FS:=bI (b_ ag 3 (b2 (aQ .mod) iK (b2 (aQ .add) (aL gJ (aB cH aO)) dG)) af) (uV (b2 (aQ .add) (b2 (aQ .add) (YW cH o_ (jJ cJ)) (uT (aB (bPu dX) aO))) (YW cH (jJ cJ) o_)) af)
def bG:aa D->Res D:=fnS 3 4 X7
abbrev mK:bE:=top 32
noncomputable def JN:ah->aq:=λi=>ag
def JP:FS:=bI (sIf (bTB (b2 (b8 .eq) (b2 getD cH cQ) iK)) (uV (cL (aB dX (aB (b2 getD cH dG) aO))) ag) jM) (bI (sIf (T8 (bTB (b2 (b8 .eq) (b2 getD cH cQ) cQ)) (bTB (b2 (b8 .eq) dX cQ))) (uV (cL (aB cQ (aB (b2 (aQ .add) (b2 getD cH dG) cJ) aO))) af) jM) (uV cH ag))
def bY:aa D->Res D:=fnS 4 4 JP
abbrev dY:bE:=top 34
noncomputable def wH:ah->aq:=λi=>i==7||i==12
def wI:FS:=bI (b_ ag 3 (bFz (aL oV (aB (b2 getD iK cQ) aO))) af) (bI (b_ ag 4 (bFz (aL oV (aB (b2 getD iK dG) aO))) af) (bI (aIj (b2 getD cJ (b2 (aQ .mod) dX (aL gJ (aB cJ aO)))) (tgN [5,6])) (bI (b_ af 7 (uT aO) af) (bI (Q_ (vI (uT (aB cQ (aB (b2 (aQ .sub) (b1 YT dG) (b2 (aQ .mod) (b2 (aQ .fdiv) dX aCq) (b2 (aQ .pow) jY zZ))) aO))) af) (tg1 8) (bI (b_ ag 9 (bFz (dN 16 (Y0 cJ) (aDc 2) jA (cL (aB (b2 getD (aL (cF 4 bY) (aB (cL (aB GX (aB cQ aO))) (aB iM (aB iT (aB cQ aO))))) cQ) (aB (jH 17) aO))) ag)) af) (bI (b_ ag 10 (b2 (aQ .add) (b2 getD cH lO) dG) af) (bI (b_ ag 11 (bFz (dN 16 (Y0 d_) uU jA (cL (aB (aL (cF 4 bY) (aB (b2 getD GX cQ) (aB iM (aB iT (aB wC aO))))) (aB (aL (cF 4 bY) (aB (b2 getD GX dG) (aB iM (aB iT (aB wC aO))))) aO))) af)) af) (lJ 7 (cL (aB cH (aB o9 (aB gH aO))))))))) (bI (lJ 7 (cL (aB cH (aB (bFz (aL (cF 3 bG) (aB cJ (aB (b2 (aQ .fdiv) dX zX) (aB (cL (aB iM (aB lO aO))) aO))))) (aB d_ aO))))) (bI (lJ 7 (cL (aB cH (aB (bFz (aL (cF 3 bG) (aB cJ (aB (b2 (aQ .fdiv) dX zX) (aB (cL (aB iM (aB (b2 getD (aL aBj (aB cH aO)) (b2 (aQ .mod) (b2 (aQ .fdiv) dX aIc) (aL aKn (aB cH aO)))) aO))) aO))))) (aB d_ aO))))) (bI (b_ af 12 (aL z8 (aB cH aO)) af) (bI (aKm 12 lO) (aKl 12 (bI (lJ 7 (cL (aB mW (aB cJ (aB d_ aO))))) (bI (b_ ag 13 (b2 (aQ .mod) dX (aL gJ (aB cJ aO))) af) (bI (Q_ (vI (uT (aB (aAw lO o_ (jJ (b1 YT dG))) (aB (aAw lO (jJ dG) o_) (aB (b2 (aQ .add) (aAw lO o_ (jJ zX)) (bC (.str "q"))) (aB (b2 (aQ .add) (bC (.str "q")) (aAw lO o_ (jJ zX))) aO))))) af) (tg1 14) (sIf (T8 (bTB (b2 (b8 .ne) gY (bC (.str "")))) (bTB (b2 NB gY cH))) (lJ 7 (cL (aB cH (aB (bFz (b2 (aQ .add) (b2 (aQ .add) (aAw cJ o_ (jJ x_)) (uT (aB (bPu (cL (aB iM (aB gY aO)))) aO))) (aAw cJ (jJ (b2 (aQ .add) x_ dG)) o_))) (aB d_ aO))))) jM)) (bI (Q_ (vI (uT (aB (bPu (cL (aB iM (aB (b2 (aQ .add) (b2 getD cH lO) dG) aO)))) (aB (bPu (cL (aB iM (aB (b1 YT dG) aO)))) (aB (cL (aB (b1 YT iM) (aB cQ aO))) aO)))) af) (tg1 15) (lJ 7 (cL (aB cH (aB cJ (aB (bFz (aL (cF 3 bG) (aB d_ (aB (b2 (aQ .fdiv) dX (bC (.int 11))) (aB (cL (aB (jH 15) (aB (cL (aB cQ (aB (aL (cF 1 fB) (aB iK aO)) aO))) aO))) aO))))) aO)))))) (Q9 7))))))))))))))
def dZ:aa D->Res D:=fnS 3 16 wI
abbrev fP:bE:=top 36
noncomputable def BK:ah->aq:=λi=>i==6
def BL:FS:=bI (b_ ag 2 (b2 (aQ .mod) iK (aL gJ (aB (b2 getD cH dG) aO))) af) (bI (aIj (b2 getD (b2 getD cH dG) dX) (tgN [3,4])) (bI (b_ ag 5 (b2 (aQ .add) (aL oV (aB (YW (b2 getD cH dG) o_ (jJ dX)) aO)) (aL oV (aB (YW (b2 getD cH dG) (jJ (b2 (aQ .add) dX dG)) o_) aO))) af) (bI (b_ af 6 (uT aO) af) (bI (Q_ (fZ (b2 getD cH dG) ag) (tg1 7) (aLm 6 (aL oV (aB zV aO)))) (bI (b_ ag 8 (dN 11 (fZ lO ag) uU (bTB (b2 (b8 .ne) gH d_)) gH ag) af) (bI (b_ ag 9 (dN 11 (fZ lO ag) uU (bTB (b2 (b8 .ne) gH cJ)) gH ag) af) (bI (b_ ag 10 (b2 (aQ .fdiv) iK (aL gJ (aB (b2 getD cH dG) aO))) af) (uV (uT (aB (bFz (b2 (aQ .add) iM (uT (aB (bPu (cL (aB cJ (aB (b2 getD iT (b2 (aQ .mod) wC (aL gJ (aB iT aO)))) aO)))) aO)))) (aB (bFz (b2 (aQ .add) (uT (aB (bPu (cL (aB (b2 getD o9 (b2 (aQ .mod) (b2 (aQ .fdiv) wC zW) (aL gJ (aB o9 aO)))) (aB d_ aO)))) aO)) iM)) aO))) af))))))))
def iQ:aa D->Res D:=fnS 2 11 BL
abbrev j_:bE:=top 37
noncomputable def BP:ah->aq:=λi=>i==10
def BR:FS:=bI (b_ ag 3 (bFz (aL oV (aB (b2 getD iK cQ) aO))) af) (bI (b_ ag 4 (bFz (aL oV (aB (b2 getD iK dG) aO))) af) (bI (b_ ag 5 (cL (aB cQ (aB (aL (cF 1 fB) (aB iK aO)) aO))) af) (bI (b_ ag 6 (b2 (aQ .mod) dX (aL gJ (aB d_ aO))) af) (bI (b_ ag 7 (bFz (b2 (aQ .add) (YW d_ o_ (jJ lO)) (YW d_ (jJ (b2 (aQ .add) lO dG)) o_))) af) (bI (aIj (b2 getD d_ lO) (tgN [8,9])) (bI (b_ af 10 (uT (aB (bPu (cL (aB cH (aB cJ (aB (bFz (aL (cF 3 bG) (aB d_ (aB (b2 (aQ .fdiv) dX zX) (aB (cL (aB iT (aB o9 aO))) aO))))) aO))))) aO)) af) (bI (lJ 10 (cL (aB cH (aB cJ (aB (bFz (aL (cF 3 bG) (aB d_ (aB (b2 (aQ .fdiv) dX zX) (aB (cL (aB iT (aB iM aO))) aO))))) aO))))) (bI (lJ 10 (cL (aB cH (aB cJ (aB (bFz (aL (cF 3 bG) (aB d_ (aB (b2 (aQ .fdiv) dX zX) (aB (cL (aB iM (aB o9 aO))) aO))))) aO))))) (bI (Q_ (fZ (aL (cF 2 iQ) (aB iK (aB dX aO))) af) (tg1 11) (lJ 10 (cL (aB cH (aB cJ (aB gH aO)))))) (bI (sIf (bTB (b2 (b8 (.ord .gt)) (b2 getD o9 cQ) cQ)) (lJ 10 (cL (aB cH (aB cJ (aB (bFz (aL (cF 3 bG) (aB zV (aB (b2 (aQ .fdiv) dX zX) (aB (cL (aB iT (aB iM aO))) aO))))) aO))))) jM) (bI (sIf (bTB (b2 (b8 .eq) (b2 getD iT cQ) cQ)) (bI (lJ 10 (cL (aB cH (aB cJ (aB (bFz (aL (cF 3 bG) (aB zV (aB (b2 (aQ .fdiv) dX zX) (aB (cL (aB iM (aB o9 aO))) aO))))) aO))))) (lJ 10 (cL (aB cH (aB cJ (aB (bFz (aL (cF 3 bG) (aB zV (aB (b2 (aQ .fdiv) dX zX) (aB (cL (aB (cL (aB cQ (aB (b1 YT dG) aO))) (aB o9 aO))) aO))))) aO)))))) jM) (Q9 10))))))))))))
def fQ:aa D->Res D:=fnS 3 12 BR
abbrev BV:bE:=top 40
noncomputable def o_law:ah->aq:=λi=>i==2||i==8
def aKs:FS:=bI (b_ ag 1 (aL (cF 2 dB) (aB cH (aB dG aO))) af) (bI (b_ af 2 (aL (cF 2 iY) (aB (aL (cF 2 dB) (aB cH (aB cQ aO))) (aB iK aO))) af) (bI (b_ ag 3 (aL (cF 3 jR) (aB dX (aB (YW cH (jJ zW) (jJ (bC (.int 66)))) (aB (aL (cF 2 dB) (aB cH (aB cQ aO))) aO)))) af) (aKl 2 (bI (b_ ag 4 (bFz (aL oV (aB (b2 getD cJ cQ) aO))) af) (bI (b_ ag 5 (bFz (aL oV (aB (b2 getD cJ dG) aO))) af) (bI (b_ ag 6 (cL (aB cQ (aB (aL (cF 1 fB) (aB cJ aO)) aO))) af) (bI (b_ ag 7 (b2 (aQ .add) (b2 (aQ .add) (aL (fL .gt) (aB (b2 (aQ .add) (dN 11 (Y0 d_) uU jA (b2 getD gH cQ) ag) (uT (aB cQ aO))) aO)) dG) (b2 (aQ .mod) iK (b2 (aQ .pow) jY zZ))) af) (bI (b_ af 8 (uT (aB (bPu (cL (aB dX (aB d_ (aB (bFz (aL (cF 3 bG) (aB iM (aB iK (aB (cL (aB lO (aB lO aO))) aO))))) aO))))) aO)) af) (bI (lJ 8 (cL (aB dX (aB d_ (aB (bFz (aL (cF 3 bG) (aB iM (aB iK (aB (cL (aB (cL (aB zV (aB cQ aO))) (aB lO aO))) aO))))) aO))))) (bI (sIf (bTB (b2 (b8 (.ord .gt)) (aL gJ (aB d_ aO)) cQ)) (b_ af 8 (b2 (aQ .add) iT (aL (cF 3 dZ) (aB dX (aB cJ (aB iK aO))))) af) jM) (bI (sIf (bTB (b2 (b8 (.ord .gt)) (aL gJ (aB iM aO)) cQ)) (b_ af 8 (b2 (aQ .add) iT (aL (cF 3 fQ) (aB dX (aB cJ (aB iK aO))))) af) jM) (bI (JF 8 (tg1 9) (bI (sIf (aF5 (bTr (aL (cF 4 eE) (aB (b2 getD o9 cQ) (aB (b2 getD o9 dG) (aB (b2 getD o9 zW) (aB (b2 getD cJ zW) aO))))))) (uV (bC (.bl ag)) af) jM) (sIf (bTB (b2 (b8 .ne) (aL (cF 4 n6) (aB (aL z8 (aB dX aO)) (aB (aL lD (aB d_ aO)) (aB (aL lD (aB iM aO)) (aB (b2 getD cJ zW) aO))))) cJ)) (uV (bC (.bl ag)) af) jM))) (bI (b_ ag 10 (b2 (aQ .sub) (b1 YT dG) (b2 (aQ .mul) (b2 (aQ .mod) (aL (cF 2 dB) (aB cH (aB cQ aO))) aCq) (b2 (aQ .mod) iK (b2 (aQ .pow) jY zZ)))) af) (uV (G3 (aL (cF 4 eE) (aB dX (aB d_ (aB iM (aB wC aO))))) (b2 (b8 .eq) (aL (cF 4 n6) (aB (aL z8 (aB dX aO)) (aB d_ (aB iM (aB (b2 getD cJ zW) aO))))) cJ)) af))))))))))))))
def X8:aa D->Res D:=fnS 1 11 aKs
noncomputable abbrev oY:aa Str:=["script","k"]
noncomputable abbrev v8:aa Str:=["cell","sides","letters","size","at","stock","k","name","j","step"]
noncomputable abbrev uM:aa Str:=["loose","bare","seed","spots","k","ties","pair"]
noncomputable abbrev mL:aa Str:=["loose","more","one","rest","other"]
noncomputable abbrev dM:aa Str:=["stock","cells","seed","names","far","pieces","loose","ties","number","bare","rings","cell","more","some"]
noncomputable abbrev DR:aa Str:=["net","many","one","other"]
noncomputable abbrev mO:aa Str:=["ends"]
noncomputable abbrev yU:aa Str:=["sides","bound","end","number"]
noncomputable abbrev jV:aa Str:=["sides","ends","bound","seen","end"]
noncomputable abbrev lF:aa Str:=["pieces","ties","rings","rows"]
noncomputable abbrev lG:aa Str:=["stock","pieces","sides","number","name"]
noncomputable abbrev N6:aa Str:=["ties","ends","one","other"]
noncomputable abbrev aFm:aa Str:=["stock","pieces","ties","rings"]
noncomputable abbrev v9:aa Str:=["e"]
noncomputable abbrev oZ:aa Str:=["stock","pieces","ties","rings","caught","e"]
noncomputable abbrev DW:aa Str:=["some","cell","thing","at"]
noncomputable abbrev uN:aa Str:=["end","number","low","up"]
noncomputable abbrev cN:aa Str:=["stock","net","cell","pieces","ties","number","name","faults","low","some","up","moved","fewer","at","word","end"]
noncomputable abbrev eF:aa Str:=["net","cell","at","one","other","rest","ends","tie","first","second","more"]
noncomputable abbrev o6:aa Str:=["stock","net","cell","pieces","ties","behind","at","rest","one","other","faults","some"]
noncomputable abbrev aE8:aa Str:=["script","cell","stock","net","pieces","ties","behind","strange","faults","fault","below"]
theorem yV:cA oY ["script","k"] (aP j8):=by refine⟨rfl,rfl,rfl,?_,rfl,?_,?_⟩<;>decide +kernel
theorem JQ:cA v8 ["cell","sides"] (aP nT):=by refine⟨rfl,rfl,rfl,?_,rfl,?_,?_⟩<;>decide +kernel
theorem BW:cA uM ["loose","bare","seed"] (aP mF):=by refine⟨rfl,rfl,rfl,?_,rfl,?_,?_⟩<;>decide +kernel
theorem N7:cA mL ["loose","more"] (aP mH):=by refine⟨rfl,rfl,rfl,?_,rfl,?_,?_⟩<;>decide +kernel
theorem JR:cA dM ["stock","cells","seed"] (aP gD):=by refine⟨rfl,rfl,rfl,?_,rfl,?_,?_⟩<;>decide +kernel
theorem R_:cA DR ["net"] (aP vM):=by refine⟨rfl,rfl,rfl,?_,rfl,?_,?_⟩<;>decide +kernel
theorem N8:cA mO ["ends"] (aP mJ):=by refine⟨rfl,rfl,rfl,?_,rfl,?_,?_⟩<;>decide +kernel
theorem N_:cA yU ["sides","bound","end"] (aP sG):=by refine⟨rfl,rfl,rfl,?_,rfl,?_,?_⟩<;>decide +kernel
theorem JS:cA jV ["sides","ends"] (aP jT):=by refine⟨rfl,rfl,rfl,?_,rfl,?_,?_⟩<;>decide +kernel
theorem SJ:cA lF ["pieces","ties","rings"] (aP oN):=by refine⟨rfl,rfl,rfl,?_,rfl,?_,?_⟩<;>decide +kernel
theorem uO:cA lG ["stock","pieces"] (aP iH):=by refine⟨rfl,rfl,rfl,?_,rfl,?_,?_⟩<;>decide +kernel
theorem X_:cA N6 ["ties"] (aP yS):=by refine⟨rfl,rfl,rfl,?_,rfl,?_,?_⟩<;>decide +kernel
theorem aHr:cA aFm ["stock","pieces","ties","rings"] (aP DQ):=by refine⟨rfl,rfl,rfl,?_,rfl,?_,?_⟩<;>decide +kernel
theorem JT:cA v9 ["e"] (aP n8):=by refine⟨rfl,rfl,rfl,?_,rfl,?_,?_⟩<;>decide +kernel
theorem yW:cA oZ ["stock","pieces","ties","rings"] (aP j9):=by refine⟨rfl,rfl,rfl,?_,rfl,?_,?_⟩<;>decide +kernel
theorem SN:cA DW ["some","cell","thing"] (aP vP):=by refine⟨rfl,rfl,rfl,?_,rfl,?_,?_⟩<;>decide +kernel
theorem BX:cA uN ["end","number","low","up"] (aP mK):=by refine⟨rfl,rfl,rfl,?_,rfl,?_,?_⟩<;>decide +kernel
theorem vQ:cA cN ["stock","net","cell"] (aP dY):=by refine⟨rfl,rfl,rfl,?_,rfl,?_,?_⟩<;>decide +kernel
theorem yX:cA eF ["net","cell"] (aP fP):=by refine⟨rfl,rfl,rfl,?_,rfl,?_,?_⟩<;>decide +kernel
theorem yZ:cA o6 ["stock","net","cell"] (aP j_):=by refine⟨rfl,rfl,rfl,?_,rfl,?_,?_⟩<;>decide +kernel
theorem aKt:cA aE8 ["script"] (aP BV):=by refine⟨rfl,rfl,rfl,?_,rfl,?_,?_⟩<;>decide +kernel
section
variable [KFrag] {P:bu} {w:bo} {K:Frag} {mg:Str->ay ak} {base:aS} {fad C:al} {fd:eo} (hK:KFrag.K=K) (B:Bt mg)
include hK B
theorem wJ(F:Fun K "_law_cell_at" "_law_cell_at" j8 fad fd)(hm:mg "_law_cell_at"=ae (.ref fad)):dC P w K mg base 1 "_law_cell_at" 2 dB:=by
 have sc:=yV;have nd:=sc.nd;refine iW (ps:=["script","k"]) (N:=oY) (k:=0) F hm (F.binds λ_ _ _ _ _ _ us hl=>by obtain⟨_,_,rfl⟩:=Mi.l2 hl;rfl) sc z_ (by decide) (by decide) λcdv A outer s H E hr=>?_
 have hu:=z7 hr;exact aG (lA (cV (LR hu) (aC (i:=1)) (a_ (dH hK) (by rfl) B.len dI (aA (aC (i:=0)) aF)) (cY _)) (aX (eV (cC (aC (i:=0)) (aC (i:=1))))) eN) (aX (eV aH))
theorem BZ(F:Fun K "_law_stock" "_law_stock" nT fad fd)(hm:mg "_law_stock"=ae (.ref fad)):dC P w K mg base 1 "_law_stock" 2 iY:=by
 have sc:=JQ;have nd:=sc.nd;refine iW (ps:=["cell","sides"]) (N:=v8) (k:=0) F hm (F.binds λ_ _ _ _ _ _ us hl=>by obtain⟨_,_,rfl⟩:=Mi.l2 hl;rfl) sc NP (by decide) (by decide) λcdv A outer s H E hr=>?_
 have hu:=z7 hr;exact aG (aZ (i:=2) (o:=ag) rfl sc.nd rfl (by trivial) LK) (aG (aZ (i:=3) (o:=ag) rfl sc.nd rfl (by trivial) (aV bU aH (aV cW (aC (i:=0)) aH))) (aG (aZ (i:=4) (o:=ag) rfl sc.nd rfl (by trivial) (aV cW (aV cP (aC (i:=0)) aH) (aC (i:=3)))) (aG (aZ (i:=5) (o:=af) rfl sc.nd rfl (by trivial) (HB)) (aG (nP fA rfl (vD (by rfl) B.range (aA (aV bU aH (aV cW (aV cP (aC (i:=0)) aH) aH)) aF)) (iG (i:=6) rfl) (bH (i:=6) sc.nd rfl (by trivial)) (aG (aZ (i:=7) (o:=ag) rfl sc.nd rfl (by trivial) LK) (aG (nP fA rfl (vD (by rfl) B.range (aA (aC (i:=3)) aF)) (iG (i:=8) rfl) (bH (i:=8) sc.nd rfl (by trivial)) (aG (aZ (i:=9) (o:=ag) rfl sc.nd rfl (by trivial) (aV v5 (aV cW (aV cP (aC (i:=0)) aH) aH) (aV bU (aC (i:=8)) aH))) (aG (lA (cV (uG hu) (aC (i:=8)) (aC (i:=4)) (cY _)) (aX (aZ (i:=9) (o:=ag) rfl sc.nd rfl (by trivial) aH)) eN) (aX (aZ (i:=7) (o:=ag) rfl sc.nd rfl (by trivial) (aV bU (aC (i:=7)) (cC (aC (i:=2)) (aV cW (aV bU (aV cP (aV cP (aC (i:=0)) aH) (aV bU (aV v5 (aC (i:=8)) (aC (i:=8))) aH)) (aV v5 (aC (i:=6)) (aC (i:=9)))) aH)))))))) (aG (aAs (i:=5) hu rfl rfl (by trivial) (aC (i:=7)) (aV cW (aC (i:=1)) aH)) (aX (aZ (i:=1) (o:=ag) rfl sc.nd rfl (by trivial) (aV cP (aC (i:=1)) aH))))))) (aX (vG (i:=5) rfl rfl (by trivial)))))))
theorem y_(F:Fun K "_law_rimmed" "_law_rimmed" mF fad fd)(hm:mg "_law_rimmed"=ae (.ref fad)):dC P w K mg base 1 "_law_rimmed" 3 gU:=by
 have sc:=BW;have nd:=sc.nd;refine iW (ps:=["loose","bare","seed"]) (N:=uM) (k:=0) F hm (F.binds λ_ _ _ _ _ _ us hl=>by obtain⟨_,_,_,rfl⟩:=Mi.l3 hl;rfl) sc JM (by decide) (by decide) λcdv A outer s H E hr=>?_
 have hu:=z7 hr;exact aG (aZ (i:=3) (o:=af) rfl sc.nd rfl (by trivial) (gC aF)) (aG (nP fA rfl (vD (by rfl) B.range (aA (aV bU (a_ (dH hK) (by rfl) B.len dI (aA (aC (i:=0)) aF)) (aV v5 aH (aC (i:=1)))) aF)) (iG (i:=4) rfl) (bH (i:=4) sc.nd rfl (by trivial)) (aX (aK4 (i:=3) rfl rfl (by trivial) (aV cW (aV bU (aV cP (aC (i:=2)) (aV bU (aC (i:=4)) aH)) (aV v5 (aC (i:=4)) (aC (i:=4)))) (aV bU (aC (i:=4)) aH)) (aC (i:=4))))) (aG (aZ (i:=5) (o:=af) rfl sc.nd rfl (by trivial) (gC aF)) (aG (nP fA rfl (vD (by rfl) B.range (aA (a_ (dH hK) (by rfl) B.len dI (aA (aC (i:=0)) aF)) aF)) (iG (i:=4) rfl) (bH (i:=4) sc.nd rfl (by trivial)) (aX (gQ (i:=5) rfl rfl (by trivial) (bK (aA (bK (aA aH (aA (cC (aC (i:=3)) (aC (i:=4))) aF))) (aA (cC (aC (i:=0)) (aC (i:=4))) aF)))))) (aG (nP fA rfl (vD (by rfl) B.range (aA (aC (i:=1)) aF)) (iG (i:=4) rfl) (bH (i:=4) sc.nd rfl (by trivial)) (aG (aZ (i:=6) (o:=ag) rfl sc.nd rfl (by trivial) (MJ hK (aC (i:=3)) (fJ (aV bU (a_ (dH hK) (by rfl) B.len dI (aA (aC (i:=0)) aF)) (aV v5 aH (aC (i:=4))))) (fJ (aV bU (aV bU (a_ (dH hK) (by rfl) B.len dI (aA (aC (i:=0)) aF)) (aV v5 aH (aC (i:=4)))) aH)))) (aX (gQ (i:=5) rfl rfl (by trivial) (bK (aA (bK (aA aH (aA (a_ (aAl hu (by rfl)) (by rfl) B.min aAu (aA (aC (i:=6)) aF)) aF))) (aA (bK (aA aH (aA (a_ (U_ hu (by rfl)) (by rfl) B.max VN (aA (aC (i:=6)) aF)) aF))) aF))))))) (aX (vG (i:=5) rfl rfl (by trivial)))))))
theorem JV(F:Fun K "_law_tied" "_law_tied" mH fad fd)(hm:mg "_law_tied"=ae (.ref fad)):dC P w K mg base 1 "_law_tied" 2 eZ:=by
 have sc:=N7;have nd:=sc.nd;refine iW (ps:=["loose","more"]) (N:=mL) (k:=0) F hm (F.binds λ_ _ _ _ _ _ us hl=>by obtain⟨_,_,rfl⟩:=Mi.l2 hl;rfl) sc R5 (by decide) (by decide) λcdv A outer s H E hr=>?_
 have hu:=z7 hr;exact aG (aZ (i:=2) (o:=ag) rfl sc.nd rfl (by trivial) (cC (aC (i:=0)) (aV cW (aC (i:=1)) (a_ (dH hK) (by rfl) B.len dI (aA (aC (i:=0)) aF))))) (aG (lB (ownN:=(["end"]:aa Str)) (show cZ mL (aP mH) _ (["end"]:aa Str) from by refine⟨rfl,?_,?_,?_,?_,?_,?_⟩<;>decide +kernel) (n:=5) (m:=1) rfl rfl rfl (oX hK (aC (i:=0))) (lZ 5) (λ_=>bH (i:=5) (show((fE (jN (["end"]:aa Str)) mL++(["end"]:aa Str)):aa Str).Nodup from by decide +kernel) rfl (by trivial)) (λ_=>cV (aAd hu) (aC (i:=5)) (aC (i:=2)) (cY _)) (λ_=>aC (i:=5)) (λ_=>rfl) (iy:=3) (o:=ag) rfl sc.nd rfl (by trivial) (iF rfl) (by with_unfolding_all rfl)) (aG (aZ (i:=4) (o:=ag) rfl sc.nd rfl (by trivial) (cC (aC (i:=3)) (aV cW (aV cP (aC (i:=1)) (a_ (dH hK) (by rfl) B.len dI (aA (aC (i:=0)) aF))) (a_ (dH hK) (by rfl) B.len dI (aA (aC (i:=3)) aF))))) (aX (eV (bK (aA (a_ (aAl hu (by rfl)) (by rfl) B.min aAu (aA (aC (i:=2)) (aA (aC (i:=4)) aF))) (aA (a_ (U_ hu (by rfl)) (by rfl) B.max VN (aA (aC (i:=2)) (aA (aC (i:=4)) aF))) aF)))))))
theorem B_(t5:dC P w K mg base 1 "_law_tied" 2 eZ)(t6:dC P w K mg base 1 "_law_rimmed" 3 gU)(F:Fun K "_law_grown" "_law_grown" gD fad fd)(hm:mg "_law_grown"=ae (.ref fad)):dC P w K mg base 2 "_law_grown" 3 jR:=by
 have sc:=JR;have nd:=sc.nd;refine iW (ps:=["stock","cells","seed"]) (N:=dM) (k:=1) F hm (F.binds λ_ _ _ _ _ _ us hl=>by obtain⟨_,_,_,rfl⟩:=Mi.l3 hl;rfl) sc NQ (by decide) (by decide) λcdv A outer s H E hr=>?_
 have hu:=z7 hr
 exact aG (aZ (i:=3) (o:=ag) rfl sc.nd rfl (by trivial) (bM (jZ (by rfl)) (by rfl) B.list fW (aA (aC (i:=0)) aF))) (aG (aZ (i:=4) (o:=ag) rfl sc.nd rfl (by trivial) (cC (gC (aA (aV yF aH aH) (aA (aV yF aH aH) (aA (aV yF aH aH) aF)))) (aV cW (aV cP (aC (i:=2)) aH) aH))) (aG (aZ (i:=5) (o:=af) rfl sc.nd rfl (by trivial) (gC aF)) (aG (aZ (i:=6) (o:=ag) rfl sc.nd rfl (by trivial) (gC aF)) (aG (aZ (i:=7) (o:=af) rfl sc.nd rfl (by trivial) (gC aF)) (aG (aZ (i:=8) (o:=ag) rfl sc.nd rfl (by trivial) aH) (aG (aZ (i:=9) (o:=ag) rfl sc.nd rfl (by trivial) aH) (aG (aZ (i:=10) (o:=ag) rfl sc.nd rfl (by trivial) aH) (aG (aAt (i:=1) hK rfl fA rfl rfl (by trivial) (iG (i:=11) rfl) (bH (i:=11) sc.nd rfl (by trivial)) (aG (aZ (i:=12) (o:=ag) rfl sc.nd rfl (by trivial) (aV cP (aC (i:=11)) aH)) (aG (aMh (i:=13) (j:=6) rfl rfl sc.nd rfl (by trivial) rfl (by trivial)) (aG (lA (cV (uG hu) (aV cW (aC (i:=11)) aH) aH (cY _)) (aX (lB (ownN:=(["end"]:aa Str)) (show cZ dM (aP gD) _ (["end"]:aa Str) from by refine⟨rfl,?_,?_,?_,?_,?_,?_⟩<;>decide +kernel) (n:=14) (m:=1) rfl rfl rfl (oX hK (aC (i:=6))) (lZ 14) (λ_=>bH (i:=14) (show((fE (jN (["end"]:aa Str)) dM++(["end"]:aa Str)):aa Str).Nodup from by decide +kernel) rfl (by trivial)) (λ_=>cV (uG hu) (cC (aC (i:=14)) aH) aH (cY _)) (λ_=>aC (i:=14)) (λ_=>rfl) (iy:=13) (o:=ag) rfl sc.nd rfl (by trivial) (iF rfl) (by with_unfolding_all rfl))) eN) (aX (lA (PW.pt (U5 (cV (LR hu) (aV cW (aC (i:=11)) aH) aH (cY _)) (HD (cV (LR hu) (a_ (dH hK) (by rfl) B.len dI (aA (aC (i:=5)) aF)) aH (cY _))))) (aG (aZ (i:=8) (o:=ag) rfl sc.nd rfl (by trivial) (aV bU (aV bU (aC (i:=8)) aH) (aV cW (aV cP (aC (i:=12)) (a_ (dH hK) (by rfl) B.len dI (aA (aC (i:=3)) aF))) (aC (i:=4))))) (aG (gQ (i:=5) rfl rfl (by trivial) (bK (aA (aC (i:=8)) (aA (cC (aC (i:=3)) (aV cW (aC (i:=12)) (a_ (dH hK) (by rfl) B.len dI (aA (aC (i:=3)) aF)))) aF)))) (aX (aZ (i:=6) (o:=ag) rfl sc.nd rfl (by trivial) (aV bU (aC (i:=6)) (VM (ownN:=(["hook"]:aa Str)) (show cZ dM (aP gD) _ (["hook"]:aa Str) from by refine⟨rfl,?_,?_,?_,?_,?_,?_⟩<;>decide +kernel) (n:=14) (m:=1) rfl rfl rfl (vD (by rfl) B.range (aA (aV bU (cC (aC (i:=0)) (cC (aC (i:=3)) (aV cW (aC (i:=12)) (a_ (dH hK) (by rfl) B.len dI (aA (aC (i:=3)) aF))))) aH) aF)) (lZ 14) (λ_=>bH (i:=14) (show((fE (jN (["hook"]:aa Str)) dM++(["hook"]:aa Str)):aa Str).Nodup from by decide +kernel) rfl (by trivial)) (λ_=>bK (aA (aC (i:=8)) (aA (aC (i:=14)) aF))) (λ_=>rfl))))))) (aX (lA (PW.pt (U5 (aDk (aDl hu) (LR hu) aH (aV cW (aC (i:=11)) aH) aH) (HD (cV (aDm hu) (a_ (dH hK) (by rfl) B.len dI (aA (aC (i:=13)) aF)) aH (cY _))))) (aG (gQ (i:=7) rfl rfl (by trivial) (bA t5 hr (by decide) (by rfl) (aA (aC (i:=13)) (aA (aC (i:=12)) aF)))) (aX (lB (ownN:=(["end"]:aa Str)) (show cZ dM (aP gD) _ (["end"]:aa Str) from by refine⟨rfl,?_,?_,?_,?_,?_,?_⟩<;>decide +kernel) (n:=14) (m:=1) rfl rfl rfl (oX hK (aC (i:=6))) (lZ 14) (λ_=>bH (i:=14) (show((fE (jN (["end"]:aa Str)) dM++(["end"]:aa Str)):aa Str).Nodup from by decide +kernel) rfl (by trivial)) (λ_=>cV (U8 hu) (aC (i:=14)) (cC (aC (i:=7)) (RN yG aH)) (by with_unfolding_all rfl)) (λ_=>aC (i:=14)) (λ_=>rfl) (iy:=6) (o:=ag) rfl sc.nd rfl (by trivial) (iF rfl) (by with_unfolding_all rfl)))) (aX (lA (cV (uG hu) (aV cW (aC (i:=11)) aH) aH (cY _)) (aX (aZ (i:=9) (o:=ag) rfl sc.nd rfl (by trivial) (aV bU (aC (i:=9)) aH))) (aX (lA (cV (uG hu) (aV cW (aC (i:=11)) aH) aH (cY _)) (aX (aZ (i:=10) (o:=ag) rfl sc.nd rfl (by trivial) (aV bU (aC (i:=10)) (aV cW (aC (i:=12)) (aV yF aH aH))))) eN)))))))))))) (aG (aZ (i:=7) (o:=af) rfl sc.nd rfl (by trivial) (aV bU (aC (i:=7)) (bA t6 hr (by decide) (by rfl) (aA (aC (i:=6)) (aA (aC (i:=9)) (aA (aC (i:=2)) aF)))))) (aX (eV (bK (aA (bM wW (by rfl) B.tuple wX (aA (aC (i:=5)) aF)) (aA (bM wW (by rfl) B.tuple wX (aA (a_ (yJ hu) (by rfl) B.sorted yN (aA (aC (i:=7)) aF)) aF)) (aA (aC (i:=10)) aF)))))))))))))))
theorem OD(F:Fun K "_law_rim" "_law_rim" vM fad fd)(hm:mg "_law_rim"=ae (.ref fad)):dC P w K mg base 1 "_law_rim" 1 fB:=by
 have sc:=R_;have nd:=sc.nd;refine iW (ps:=["net"]) (N:=DR) (k:=0) F hm (F.binds λ_ _ _ _ _ _ us hl=>by obtain⟨_,rfl⟩:=Mi.l1 hl;rfl) sc XX (by decide) (by decide) λcdv A outer s H E hr=>?_
 have hu:=z7 hr;exact aG (aZ (i:=1) (o:=ag) rfl sc.nd rfl (by trivial) aH) (aG (nP fA rfl (oX hK (cC (aC (i:=0)) aH)) (vH _ (is:=[2,3]) (by decide)) (vZ rfl (dD (bH (i:=2) sc.nd rfl (by trivial)) (dD (bH (i:=3) sc.nd rfl (by trivial)) (mZ)))) (aX (aZ (i:=1) (o:=ag) rfl sc.nd rfl (by trivial) (aV bU (aV bU (aC (i:=1)) (bM aBd (by rfl) B.int aFe (aA (U0 (uG hu) (cC (aC (i:=2)) aH) aH (cY _)) aF))) (bM aBd (by rfl) B.int aFe (aA (U0 (uG hu) (cC (aC (i:=3)) aH) aH (cY _)) aF)))))) (aX (eV (aC (i:=1)))))
theorem JW(F:Fun K "rim_among" "rim_among" mJ fad fd)(hm:mg "rim_among"=ae (.ref fad)):dC P w K mg base 1 "rim_among" 1 jL:=by
 have sc:=N8;have nd:=sc.nd;refine iW (ps:=["ends"]) (N:=mO) (k:=0) F hm (F.binds λ_ _ _ _ _ _ us hl=>by obtain⟨_,rfl⟩:=Mi.l1 hl;rfl) sc R6 (by decide) (by decide) λcdv A outer s H E hr=>?_
 have hu:=z7 hr;exact aX (eV (a_ (dH hK) (by rfl) B.len dI (aA (XN (ownN:=(["end"]:aa Str)) (show cZ mO (aP mJ) _ (["end"]:aa Str) from by refine⟨rfl,?_,?_,?_,?_,?_,?_⟩<;>decide +kernel) (n:=1) (m:=1) rfl rfl rfl (oX hK (aC (i:=0))) (lZ 1) (λ_=>bH (i:=1) (show((fE (jN (["end"]:aa Str)) mO++(["end"]:aa Str)):aa Str).Nodup from by decide +kernel) rfl (by trivial)) (λ_=>cV (uG hu) (cC (aC (i:=1)) aH) aH (cY _)) (λ_=>aC (i:=1)) (λ_=>rfl)) aF)))
theorem JX(F:Fun K "has_place" "has_place" sG fad fd)(hm:mg "has_place"=ae (.ref fad)):dC P w K mg base 1 "has_place" 3 fX:=by
 have sc:=N_;have nd:=sc.nd;refine iW (ps:=["sides","bound","end"]) (N:=yU) (k:=0) F hm (F.binds λ_ _ _ _ _ _ us hl=>by obtain⟨_,_,_,rfl⟩:=Mi.l3 hl;rfl) sc R8 (by decide) (by decide) λcdv A outer s H E hr=>?_
 have hu:=z7 hr;exact aG (aZ (i:=3) (o:=ag) rfl sc.nd rfl (by trivial) (cC (aC (i:=2)) aH)) (aG (lA (cV (uG hu) (aC (i:=3)) aH (cY _)) (aX (eV (U6 (aDl hu) (LR hu) aH (cC (aC (i:=2)) aH) (aC (i:=1))))) eN) (aX (eV (U4 (U0 (aGr hu) (aC (i:=3)) (aC (i:=0)) (by with_unfolding_all rfl)) (U3 (U6 (aDl hu) (aDl hu) aH (cC (aC (i:=2)) aH) (cC (aC (i:=0)) (aC (i:=3)))))))))
theorem CG(t7:dC P w K mg base 1 "rim_among" 1 jL)(t8:dC P w K mg base 1 "has_place" 3 fX){pe:al}(pf:nsIn K bg "NoNet"=ae (ae (.ref pe)))(pg:mg "NoNet"=ae (.ref pe))(ph:excIn K pe aIi "ValueError.__new__"=af)(F:Fun K "check_ends" "check_ends" jT fad fd)(hm:mg "check_ends"=ae (.ref fad)):vL P w K mg base 2 "check_ends" 2 iZ:=by
 have sc:=JS;have nd:=sc.nd;refine aFk (ps:=["sides","ends"]) (N:=jV) (k:=1) F hm (F.binds λ_ _ _ _ _ _ us hl=>by obtain⟨_,_,rfl⟩:=Mi.l2 hl;rfl) sc NT (by decide) (by decide) λcdv A outer s H E hr=>?_
 have hu:=z7 hr;exact mV (yQ (aZ (i:=2) (o:=ag) rfl sc.nd rfl (by trivial) (bA t7 hr (by decide) (by rfl) (aA (aC (i:=1)) aF)))) (mV (yQ (aZ (i:=3) (o:=af) rfl sc.nd rfl (by trivial) (HB))) (mV (aFj (i:=1) hK rfl rfl (by trivial) (iG (i:=4) rfl) (bH (i:=4) sc.nd rfl (by trivial)) (mV (aHe (cV (aGr hu) (aC (i:=4)) (aC (i:=3)) (by with_unfolding_all rfl)) (wG (mD hK pf (by rfl) pg ph)) R4) (mV (aHe (aF8 (jP (bA t8 hr (by decide) (by rfl) (aA (aC (i:=0)) (aA (aC (i:=2)) (aA (aC (i:=4)) aF)))))) (wG (mD hK pf (by rfl) pg ph)) R4) (wG (yQ (aAs (i:=3) hu rfl rfl (by trivial) (aC (i:=4)) XJ)))))) (wG (aHe (cV (LR hu) (aV aAc (a_ (dH hK) (by rfl) B.len dI (aA (aC (i:=1)) aF)) (aC (i:=2))) (a_ (aK9 (by rfl)) (by rfl) B.sum aKa (aA (aH7 (show cZ jV (aP jT) _ (["count"]:aa Str) from by refine⟨rfl,?_,?_,?_,?_,?_,?_⟩<;>decide +kernel) (i:=0) (n:=5) rfl rfl rfl (by trivial) (λ_=>bH (i:=5) (show((fE (jN (["count"]:aa Str)) jV++(["count"]:aa Str)):aa Str).Nodup from by decide +kernel) rfl (by trivial)) (λ_=>aV bU (aC (i:=5)) aH) (λ_=>rfl)) aF)) (cY _)) (wG (mD hK pf (by rfl) pg ph)) R4))))
theorem OJ(F:Fun K "arranged" "arranged" oN fad fd)(hm:mg "arranged"=ae (.ref fad)):dC P w K mg base 1 "arranged" 3 oO:=by
 have sc:=SJ;have nd:=sc.nd;refine iW (ps:=["pieces","ties","rings"]) (N:=lF) (k:=0) F hm (F.binds λ_ _ _ _ _ _ us hl=>by obtain⟨_,_,_,rfl⟩:=Mi.l3 hl;rfl) sc X4 (by decide) (by decide) λcdv A outer s H E hr=>?_
 have hu:=z7 hr;exact aG (aDq (ownN:=(["one","other"]:aa Str)) (show cZ lF (aP oN) _ (["one","other"]:aa Str) from by refine⟨rfl,?_,?_,?_,?_,?_,?_⟩<;>decide +kernel) (n:=4) (m:=2) rfl rfl rfl (oX hK (aC (i:=1))) (aAm _ 4 2) (λ_=>vZ rfl (dD (bH (i:=4) (show((fE (jN (["one","other"]:aa Str)) lF++(["one","other"]:aa Str)):aa Str).Nodup from by decide +kernel) rfl (by trivial)) (dD (bH (i:=5) (show((fE (jN (["one","other"]:aa Str)) lF++(["one","other"]:aa Str)):aa Str).Nodup from by decide +kernel) rfl (by trivial)) (mZ)))) (λ_=>bK (aA (a_ (aAl hu (by rfl)) (by rfl) B.min aAu (aA (aC (i:=4)) (aA (aC (i:=5)) aF))) (aA (a_ (U_ hu (by rfl)) (by rfl) B.max VN (aA (aC (i:=4)) (aA (aC (i:=5)) aF))) aF))) (λ_=>rfl) (iy:=3) (o:=ag) rfl sc.nd rfl (by trivial) (iF rfl) (by with_unfolding_all rfl)) (aX (eV (bK (aA (bM wW (by rfl) B.tuple wX (aA (a_ (XS hK (by rfl) hu) (by rfl) B.sorted yN (aA (aC (i:=0)) aF)) aF)) (aA (bM wW (by rfl) B.tuple wX (aA (a_ (yJ hu) (by rfl) B.sorted yN (aA (aC (i:=3)) aF)) aF)) (aA (aC (i:=2)) aF))))))
theorem sI{pe:al}(pf:nsIn K bg "NoNet"=ae (ae (.ref pe)))(pg:mg "NoNet"=ae (.ref pe))(ph:excIn K pe aIi "ValueError.__new__"=af)(F:Fun K "sides_by_number" "sides_by_number" iH fad fd)(hm:mg "sides_by_number"=ae (.ref fad)):vL P w K mg base 1 "sides_by_number" 2 cR:=by
 have sc:=uO;have nd:=sc.nd;refine aFk (ps:=["stock","pieces"]) (N:=lG) (k:=0) F hm (F.binds λ_ _ _ _ _ _ us hl=>by obtain⟨_,_,rfl⟩:=Mi.l2 hl;rfl) sc vN (by decide) (by decide) λcdv A outer s H E hr=>?_
 have hu:=z7 hr;exact mV (yQ (aZ (i:=2) (o:=af) rfl sc.nd rfl (by trivial) (HB))) (mV (aFj (i:=1) hK rfl rfl (by trivial) (vH _ (is:=[3,4]) (by decide)) (vZ rfl (dD (bH (i:=3) sc.nd rfl (by trivial)) (dD (bH (i:=4) sc.nd rfl (by trivial)) (mZ)))) (mV (aHe (cV (LR hu) (aC (i:=3)) aH (cY _)) (wG (mD hK pf (by rfl) pg ph)) R4) (mV (aHe (cV (aGr hu) (aC (i:=3)) (aC (i:=2)) (by with_unfolding_all rfl)) (wG (mD hK pf (by rfl) pg ph)) R4) (mV (aHe (cV (U8 hu) (aC (i:=4)) (aC (i:=0)) (by with_unfolding_all rfl)) (wG (mD hK pf (by rfl) pg ph)) R4) (wG (yQ (aAs (i:=2) hu rfl rfl (by trivial) (aC (i:=3)) (cC (aC (i:=0)) (aC (i:=4)))))))))) (wG (yQ (vG (i:=2) rfl rfl (by trivial)))))
theorem SQ(F:Fun K "ends_of" "ends_of" yS fad fd)(hm:mg "ends_of"=ae (.ref fad)):dC P w K mg base 1 "ends_of" 1 nZ:=by
 have sc:=X_;have nd:=sc.nd;refine iW (ps:=["ties"]) (N:=N6) (k:=0) F hm (F.binds λ_ _ _ _ _ _ us hl=>by obtain⟨_,rfl⟩:=Mi.l1 hl;rfl) sc aBr (by decide) (by decide) λcdv A outer s H E hr=>?_
 have hu:=z7 hr;exact aG (aZ (i:=1) (o:=af) rfl sc.nd rfl (by trivial) (gC aF)) (aG (aAt (i:=0) hK rfl fA rfl rfl (by trivial) (vH _ (is:=[2,3]) (by decide)) (vZ rfl (dD (bH (i:=2) sc.nd rfl (by trivial)) (dD (bH (i:=3) sc.nd rfl (by trivial)) (mZ)))) (aG (gQ (i:=1) rfl rfl (by trivial) (aC (i:=2))) (aX (gQ (i:=1) rfl rfl (by trivial) (aC (i:=3)))))) (aX (vG (i:=1) rfl rfl (by trivial))))
theorem aE9(t9:dC P w K mg base 1 "ends_of" 1 nZ)(tf:dC P w K mg base 1 "arranged" 3 oO)(po:vL P w K mg base 2 "check_ends" 2 iZ)(pq:vL P w K mg base 1 "sides_by_number" 2 cR){pe:al}(pf:nsIn K bg "NoNet"=ae (ae (.ref pe)))(pg:mg "NoNet"=ae (.ref pe))(ph:excIn K pe aIi "ValueError.__new__"=af){T:al}{its:aE ak}(F:aMn K "made" "made" DQ fad fd T its)(hm:mg "made"=ae (.ref fad))(hb:Binds K fd ["stock","pieces","ties","rings"] []):vL P w K mg base 3 "made" 4 n6:=by
 have sc:=aHr;have nd:=sc.nd;refine aHq (ps:=["stock","pieces","ties","rings"]) (N:=aFm) (k:=2) F hm hb sc aKq (by decide) (by decide) λcdv A outer s H E hr=>?_
 have hu:=z7 hr;exact mV (aHe (cV (LR hu) (aC (i:=3)) aH (cY _)) (wG (mD hK pf (by rfl) pg ph)) R4) (mV (aKj (aE2 (C:=fad) po hr (by decide) (by rfl) (aHi (aHf pq hr (by decide) (by rfl) (aA (aC (i:=0)) (aA (aC (i:=1)) aF))) (aA (bA t9 hr (by decide) (by rfl) (aA (aC (i:=2)) aF)) aF)))) (wG (yQ (eV (bA tf hr (by decide) (by rfl) (aA (aC (i:=1)) (aA (aC (i:=2)) (aA (aC (i:=3)) aF))))))))
theorem CJ{pB:al}(ti:mg "BadKind"=ae (.ref pB)){pC:al}(tj:mg "BadRow"=ae (.ref pC)){pD:al}(tm:mg "Lacking"=ae (.ref pD)){pH:al}(tq:mg "NoEnd"=ae (.ref pH)){pI:al}(tu:mg "NoName"=ae (.ref pI)){pJ:al}(tw:mg "NoPair"=ae (.ref pJ)){pK:al}(tz:mg "NoRule"=ae (.ref pK)){pL:al}(tB:mg "NoTerm"=ae (.ref pL)){pM:al}(tD:mg "NoValue"=ae (.ref pM)){pN:al}(tE:mg "Spent"=ae (.ref pN)){pO:al}(tF:mg "Stuck"=ae (.ref pO)){pP:al}(tG:mg "Twice"=ae (.ref pP)){pQ:al}(tH:mg "TwoRules"=ae (.ref pQ)){pS:al}(tI:mg "Uneven"=ae (.ref pS)){pT:al}(tJ:mg "Unfit"=ae (.ref pT))(y1:JK (λc b=>∃C,nsIn K bg c=ae (ae (.ref C))/\XC K C/\cy K (.ref C) (.ref pB)=ae b) [("NoNet",ag)])(y2:JK (λc b=>∃C,nsIn K bg c=ae (ae (.ref C))/\XC K C/\cy K (.ref C) (.ref pC)=ae b) [("NoNet",ag)])(y3:JK (λc b=>∃C,nsIn K bg c=ae (ae (.ref C))/\XC K C/\cy K (.ref C) (.ref pD)=ae b) [("NoNet",ag)])(y4:JK (λc b=>∃C,nsIn K bg c=ae (ae (.ref C))/\XC K C/\cy K (.ref C) (.ref pH)=ae b) [("NoNet",ag)])(y5:JK (λc b=>∃C,nsIn K bg c=ae (ae (.ref C))/\XC K C/\cy K (.ref C) (.ref pI)=ae b) [("NoNet",ag)])(y6:JK (λc b=>∃C,nsIn K bg c=ae (ae (.ref C))/\XC K C/\cy K (.ref C) (.ref pJ)=ae b) [("NoNet",ag)])(y7:JK (λc b=>∃C,nsIn K bg c=ae (ae (.ref C))/\XC K C/\cy K (.ref C) (.ref pK)=ae b) [("NoNet",ag)])(y8:JK (λc b=>∃C,nsIn K bg c=ae (ae (.ref C))/\XC K C/\cy K (.ref C) (.ref pL)=ae b) [("NoNet",ag)])(y9:JK (λc b=>∃C,nsIn K bg c=ae (ae (.ref C))/\XC K C/\cy K (.ref C) (.ref pM)=ae b) [("NoNet",ag)])(y10:JK (λc b=>∃C,nsIn K bg c=ae (ae (.ref C))/\XC K C/\cy K (.ref C) (.ref pN)=ae b) [("NoNet",ag)])(y11:JK (λc b=>∃C,nsIn K bg c=ae (ae (.ref C))/\XC K C/\cy K (.ref C) (.ref pO)=ae b) [("NoNet",ag)])(y12:JK (λc b=>∃C,nsIn K bg c=ae (ae (.ref C))/\XC K C/\cy K (.ref C) (.ref pP)=ae b) [("NoNet",ag)])(y13:JK (λc b=>∃C,nsIn K bg c=ae (ae (.ref C))/\XC K C/\cy K (.ref C) (.ref pQ)=ae b) [("NoNet",ag)])(y14:JK (λc b=>∃C,nsIn K bg c=ae (ae (.ref C))/\XC K C/\cy K (.ref C) (.ref pS)=ae b) [("NoNet",ag)])(y15:JK (λc b=>∃C,nsIn K bg c=ae (ae (.ref C))/\XC K C/\cy K (.ref C) (.ref pT)=ae b) [("NoNet",ag)])(F:Fun K "_law_other" "_law_other" n8 fad fd)(hm:mg "_law_other"=ae (.ref fad)):dC P w K mg base 1 "_law_other" 1 jU:=by
 have sc:=JT;have nd:=sc.nd;refine iW (ps:=["e"]) (N:=v9) (k:=0) F hm (F.binds λ_ _ _ _ _ _ us hl=>by obtain⟨_,rfl⟩:=Mi.l1 hl;rfl) sc NZ (by decide) (by decide) λcdv A outer s H E hr=>?_
 have hu:=z7 hr;exact aG (lA (PW.pt (HF (jP (eY (i:=0) (v:=.ref pB) hK (eU y1) (λu r=>r) (by rfl) B.isi rfl (by trivial) (fC (by rfl) ti rfl) rfl rfl)) (HF (jP (eY (i:=0) (v:=.ref pC) hK (eU y2) (λu r=>r) (by rfl) B.isi rfl (by trivial) (fC (by rfl) tj rfl) rfl rfl)) (HF (jP (eY (i:=0) (v:=.ref pD) hK (eU y3) (λu r=>r) (by rfl) B.isi rfl (by trivial) (fC (by rfl) tm rfl) rfl rfl)) (aAb (jP (eY (i:=0) (v:=.ref pH) hK (eU y4) (λu r=>r) (by rfl) B.isi rfl (by trivial) (fC (by rfl) tq rfl) rfl rfl))))))) (aX (eV XJ)) eN) (aG (lA (PW.pt (HF (jP (eY (i:=0) (v:=.ref pI) hK (eU y5) (λu r=>r) (by rfl) B.isi rfl (by trivial) (fC (by rfl) tu rfl) rfl rfl)) (HF (jP (eY (i:=0) (v:=.ref pJ) hK (eU y6) (λu r=>r) (by rfl) B.isi rfl (by trivial) (fC (by rfl) tw rfl) rfl rfl)) (HF (jP (eY (i:=0) (v:=.ref pK) hK (eU y7) (λu r=>r) (by rfl) B.isi rfl (by trivial) (fC (by rfl) tz rfl) rfl rfl)) (aAb (jP (eY (i:=0) (v:=.ref pL) hK (eU y8) (λu r=>r) (by rfl) B.isi rfl (by trivial) (fC (by rfl) tB rfl) rfl rfl))))))) (aX (eV XJ)) eN) (aG (lA (PW.pt (HF (jP (eY (i:=0) (v:=.ref pM) hK (eU y9) (λu r=>r) (by rfl) B.isi rfl (by trivial) (fC (by rfl) tD rfl) rfl rfl)) (HF (jP (eY (i:=0) (v:=.ref pN) hK (eU y10) (λu r=>r) (by rfl) B.isi rfl (by trivial) (fC (by rfl) tE rfl) rfl rfl)) (HF (jP (eY (i:=0) (v:=.ref pO) hK (eU y11) (λu r=>r) (by rfl) B.isi rfl (by trivial) (fC (by rfl) tF rfl) rfl rfl)) (aAb (jP (eY (i:=0) (v:=.ref pP) hK (eU y12) (λu r=>r) (by rfl) B.isi rfl (by trivial) (fC (by rfl) tG rfl) rfl rfl))))))) (aX (eV XJ)) eN) (aX (eV (aJw (eY (i:=0) (v:=.ref pQ) hK (eU y13) (λu r=>r) (by rfl) B.isi rfl (by trivial) (fC (by rfl) tH rfl) rfl rfl) (aJw (eY (i:=0) (v:=.ref pS) hK (eU y14) (λu r=>r) (by rfl) B.isi rfl (by trivial) (fC (by rfl) tI rfl) rfl rfl) (U3 (eY (i:=0) (v:=.ref pT) hK (eU y15) (λu r=>r) (by rfl) B.isi rfl (by trivial) (fC (by rfl) tJ rfl) rfl rfl))))))))
theorem wK(tK:dC P w K mg base 1 "_law_other" 1 jU)(pr:vL P w K mg base 3 "made" 4 n6){rG:al}(tL:mg "MillError"=ae (.ref rG)){pU:al}(tM:mg "NoNet"=ae (.ref pU))(tN:mg "ValueError"=aj)(y1:aMq (λc=>∃C,nsIn K bg c=ae (ae (.ref C))/\sr K (.ref C) (.ref rG)=ae af) ["NoNet"])(y2:JK (λc b=>∃C,nsIn K bg c=ae (ae (.ref C))/\XC K C/\cy K (.ref C) (.ref pU)=ae b) [("NoNet",af)])(y3:JK (λc b=>∃C,nsIn K bg c=ae (ae (.ref C))/\XC K C/\cy K (.ref C) (.type "ValueError")=ae b) [("NoNet",af)])(F:Fun K "_law_refused" "_law_refused" j9 fad fd)(hm:mg "_law_refused"=ae (.ref fad)):dC P w K mg base 4 "_law_refused" 4 eE:=by
 have sc:=yW;have nd:=sc.nd;refine iW (ps:=["stock","pieces","ties","rings"]) (N:=oZ) (k:=3) F hm (F.binds λ_ _ _ _ _ _ us hl=>by obtain⟨_,_,_,_,rfl⟩:=Mi.l4 hl;rfl) sc A_ (by decide) (by decide) λcdv A outer s H E hr=>?_
 have hu:=z7 hr;exact aG (aZ (i:=4) (o:=ag) rfl sc.nd rfl (by trivial) aJt) (aG (aKk (ic:=4) (ie:=5) hK rfl rfl pr hr (by decide) (by rfl) (aA (bM wZ (by rfl) B.dict IK (aA (aC (i:=0)) aF)) (aA (bM (wY hK) (by rfl) B.list fW (aA (aC (i:=1)) aF)) (aA (bM (wY hK) (by rfl) B.list fW (aA (aC (i:=2)) aF)) (aA (aC (i:=3)) aF)))) (by rfl) tL (aBg y1) sc.nd rfl rfl rfl (by trivial) (.inl rfl) rfl rfl (by decide)) (aX (eV (U4 (eY (i:=4) (v:=.ref pU) hK (eU y2) (λu r=>r) (by rfl) B.isi rfl (by trivial) (fC (by rfl) tM rfl) rfl rfl) (U4 (eY (i:=4) (v:=.ty "ValueError") hK (eU y3) (λu r=>r) (by rfl) B.isi rfl (by trivial) (aFz (by rfl) tN JC rfl) rfl rfl) (U3 (aJv (bA tK hr (by decide) (by rfl) (aA (aC (i:=4)) aF)))))))))
theorem O1(F:Fun K "_law_put" "_law_put" vP fad fd)(hm:mg "_law_put"=ae (.ref fad)):dC P w K mg base 1 "_law_put" 3 bG:=by
 have sc:=SN;have nd:=sc.nd;refine iW (ps:=["some","cell","thing"]) (N:=DW) (k:=0) F hm (F.binds λ_ _ _ _ _ _ us hl=>by obtain⟨_,_,_,rfl⟩:=Mi.l3 hl;rfl) sc X6 (by decide) (by decide) λcdv A outer s H E hr=>?_
 have hu:=z7 hr;exact aG (aZ (i:=3) (o:=ag) rfl sc.nd rfl (by trivial) (aV cW (aC (i:=1)) (aV bU (a_ (dH hK) (by rfl) B.len dI (aA (aC (i:=0)) aF)) aH))) (aX (eV (aV bU (aV bU (MJ hK (aC (i:=0)) (jB) (fJ (aC (i:=3)))) (gC (aA (M9 (aC (i:=2))) aF))) (MJ hK (aC (i:=0)) (fJ (aC (i:=3))) (jB)))))
theorem zA(F:Fun K "_law_end_by" "_law_end_by" mK fad fd)(hm:mg "_law_end_by"=ae (.ref fad)):dC P w K mg base 1 "_law_end_by" 4 bY:=by
 have sc:=BX;have nd:=sc.nd;refine iW (ps:=["end","number","low","up"]) (N:=uN) (k:=0) F hm (F.binds λ_ _ _ _ _ _ us hl=>by obtain⟨_,_,_,_,rfl⟩:=Mi.l4 hl;rfl) sc JN (by decide) (by decide) λcdv A outer s H E hr=>?_
 have hu:=z7 hr;exact aG (lA (cV (uG hu) (cC (aC (i:=0)) aH) (aC (i:=1)) (cY _)) (aX (eV (bK (aA (aC (i:=2)) (aA (cC (aC (i:=0)) aH) aF))))) eN) (aG (lA (PW.pt (U5 (cV (uG hu) (cC (aC (i:=0)) aH) aH (cY _)) (HD (cV (uG hu) (aC (i:=2)) aH (cY _))))) (aX (eV (bK (aA aH (aA (aV bU (cC (aC (i:=0)) aH) (aC (i:=3))) aF))))) eN) (aX (eV (aC (i:=0)))))
theorem uP(pV:dC P w K mg base 1 "_law_end_by" 4 bY)(p8:dC P w K mg base 1 "_law_put" 3 bG)(pj:dC P w K mg base 1 "_law_rim" 1 fB)(F:Fun K "_law_of_pieces" "_law_of_pieces" dY fad fd)(hm:mg "_law_of_pieces"=ae (.ref fad)):dC P w K mg base 2 "_law_of_pieces" 3 dZ:=by
 have sc:=vQ;have nd:=sc.nd;refine iW (ps:=["stock","net","cell"]) (N:=cN) (k:=1) F hm (F.binds λ_ _ _ _ _ _ us hl=>by obtain⟨_,_,_,rfl⟩:=Mi.l3 hl;rfl) sc wH (by decide) (by decide) λcdv A outer s H E hr=>?_
 have hu:=z7 hr
 exact aG (aZ (i:=3) (o:=ag) rfl sc.nd rfl (by trivial) (j7 (bM (jZ (by rfl)) (by rfl) B.list fW (aA (cC (aC (i:=1)) aH) aF)))) (aG (aZ (i:=4) (o:=ag) rfl sc.nd rfl (by trivial) (j7 (bM (jZ (by rfl)) (by rfl) B.list fW (aA (cC (aC (i:=1)) aH) aF)))) (aG (aB6 (cC (aC (i:=3)) (aV cW (aC (i:=2)) (a_ (dH hK) (by rfl) B.len dI (aA (aC (i:=3)) aF)))) (vH _ (is:=[5,6]) (by decide)) (vZ rfl (dD (bH (i:=5) sc.nd rfl (by trivial)) (dD (bH (i:=6) sc.nd rfl (by trivial)) (mZ))))) (aG (aZ (i:=7) (o:=af) rfl sc.nd rfl (by trivial) (gC aF)) (aG (nP fA rfl (RX hK (gC (aA aH (aA (aV aAc (RN yG aH) (aV cW (aV cP (aC (i:=2)) aH) (aV yF aH aH))) aF)))) (iG (i:=8) rfl) (bH (i:=8) sc.nd rfl (by trivial)) (aG (NK (ownN:=(["k","word"]:aa Str)) (show cZ cN (aP dY) _ (["k","word"]:aa Str) from by refine⟨rfl,?_,?_,?_,?_,?_,?_⟩<;>decide +kernel) (n:=16) (m:=2) rfl rfl rfl (aBq hK (aC (i:=3))) (aAm _ 16 2) (λ_=>vZ rfl (dD (bH (i:=16) (show((fE (jN (["k","word"]:aa Str)) cN++(["k","word"]:aa Str)):aa Str).Nodup from by decide +kernel) rfl (by trivial)) (dD (bH (i:=17) (show((fE (jN (["k","word"]:aa Str)) cN++(["k","word"]:aa Str)):aa Str).Nodup from by decide +kernel) rfl (by trivial)) (mZ)))) (λ_=>bK (aA (cC (bA pV hr (by decide) (by rfl) (aA (bK (aA (aC (i:=16)) (aA aH aF))) (aA (aC (i:=5)) (aA (aC (i:=8)) (aA aH aF))))) aH) (aA (aC (i:=17)) aF))) (λ_=>rfl) (iy:=9) (o:=ag) rfl sc.nd rfl (by trivial) (iF rfl) (by with_unfolding_all rfl)) (aG (aZ (i:=10) (o:=ag) rfl sc.nd rfl (by trivial) (aV bU (cC (aC (i:=0)) (aC (i:=6))) aH)) (aG (NK (ownN:=(["tie"]:aa Str)) (show cZ cN (aP dY) _ (["tie"]:aa Str) from by refine⟨rfl,?_,?_,?_,?_,?_,?_⟩<;>decide +kernel) (n:=16) (m:=1) rfl rfl rfl (aBq hK (aC (i:=4))) (lZ 16) (λ_=>bH (i:=16) (show((fE (jN (["tie"]:aa Str)) cN++(["tie"]:aa Str)):aa Str).Nodup from by decide +kernel) rfl (by trivial)) (λ_=>bK (aA (bA pV hr (by decide) (by rfl) (aA (cC (aC (i:=16)) aH) (aA (aC (i:=5)) (aA (aC (i:=8)) (aA (aC (i:=10)) aF))))) (aA (bA pV hr (by decide) (by rfl) (aA (cC (aC (i:=16)) aH) (aA (aC (i:=5)) (aA (aC (i:=8)) (aA (aC (i:=10)) aF))))) aF))) (λ_=>rfl) (iy:=11) (o:=ag) rfl sc.nd rfl (by trivial) (iF rfl) (by with_unfolding_all rfl)) (aX (gQ (i:=7) rfl rfl (by trivial) (bK (aA (aC (i:=0)) (aA (aC (i:=9)) (aA (aC (i:=11)) aF)))))))))) (aG (gQ (i:=7) rfl rfl (by trivial) (bK (aA (aC (i:=0)) (aA (j7 (bA p8 hr (by decide) (by rfl) (aA (aC (i:=3)) (aA (aV cP (aC (i:=2)) aH) (aA (bK (aA (aC (i:=5)) (aA (aC (i:=6)) aF))) aF))))) (aA (aC (i:=4)) aF))))) (aG (gQ (i:=7) rfl rfl (by trivial) (bK (aA (aC (i:=0)) (aA (j7 (bA p8 hr (by decide) (by rfl) (aA (aC (i:=3)) (aA (aV cP (aC (i:=2)) aH) (aA (bK (aA (aC (i:=5)) (aA (cC (bM (aE3 (by rfl)) (by rfl) B.list fW (aA (aC (i:=0)) aF)) (aV cW (aV cP (aC (i:=2)) aH) (a_ (aHp hK) (by rfl) B.len dI (aA (aC (i:=0)) aF)))) aF))) aF))))) (aA (aC (i:=4)) aF))))) (aG (aZ (i:=12) (o:=af) rfl sc.nd rfl (by trivial) (bM wZ (by rfl) B.dict IK (aA (aC (i:=0)) aF))) (aG (aHo (i:=12) rfl rfl (by trivial) (aC (i:=6))) (aBp (i:=12) rfl (aG (gQ (i:=7) rfl rfl (by trivial) (bK (aA (aC (i:=12)) (aA (aC (i:=3)) (aA (aC (i:=4)) aF))))) (aG (aZ (i:=13) (o:=ag) rfl sc.nd rfl (by trivial) (aV cW (aC (i:=2)) (a_ (dH hK) (by rfl) B.len dI (aA (aC (i:=3)) aF)))) (aG (nP fA rfl (RX hK (gC (aA (CZ hK (aC (i:=6)) (jB) (fJ (RN yG aH))) (aA (CZ hK (aC (i:=6)) (fJ aH) (jB)) (aA (aV bU (CZ hK (aC (i:=6)) (jB) (fJ aH)) LK) (aA (aV bU LK (CZ hK (aC (i:=6)) (jB) (fJ aH))) aF)))))) (iG (i:=14) rfl) (bH (i:=14) sc.nd rfl (by trivial)) (aX (lA (PW.pt (U5 (cV (aAd hu) (aC (i:=14)) LK (cY _)) (HD (cV (aBl hu) (aC (i:=14)) (aC (i:=0)) (by with_unfolding_all rfl))))) (aX (gQ (i:=7) rfl rfl (by trivial) (bK (aA (aC (i:=0)) (aA (j7 (aV bU (aV bU (CZ hK (aC (i:=3)) (jB) (fJ (aC (i:=13)))) (gC (aA (M9 (bK (aA (aC (i:=5)) (aA (aC (i:=14)) aF)))) aF))) (CZ hK (aC (i:=3)) (fJ (aV bU (aC (i:=13)) aH)) (jB)))) (aA (aC (i:=4)) aF)))))) eN))) (aG (nP fA rfl (RX hK (gC (aA (M9 (bK (aA (aC (i:=5)) (aA (aV bU (cC (aC (i:=0)) (aC (i:=6))) aH) aF)))) (aA (M9 (bK (aA (aC (i:=5)) (aA (RN yG aH) aF)))) (aA (bK (aA (RN yG (aC (i:=5))) (aA aH aF))) aF))))) (iG (i:=15) rfl) (bH (i:=15) sc.nd rfl (by trivial)) (aX (gQ (i:=7) rfl rfl (by trivial) (bK (aA (aC (i:=0)) (aA (aC (i:=3)) (aA (j7 (bA p8 hr (by decide) (by rfl) (aA (aC (i:=4)) (aA (aV cP (aC (i:=2)) aH) (aA (bK (aA (aC (i:=15)) (aA (bK (aA aH (aA (bA pj hr (by decide) (by rfl) (aA (aC (i:=1)) aF)) aF))) aF))) aF))))) aF))))))) (aX (vG (i:=7) rfl rfl (by trivial))))))))))))))))
theorem wL(F:Fun K "_law_written" "_law_written" fP fad fd)(hm:mg "_law_written"=ae (.ref fad)):dC P w K mg base 1 "_law_written" 2 iQ:=by
 have sc:=yX;have nd:=sc.nd;refine iW (ps:=["net","cell"]) (N:=eF) (k:=0) F hm (F.binds λ_ _ _ _ _ _ us hl=>by obtain⟨_,_,rfl⟩:=Mi.l2 hl;rfl) sc BK (by decide) (by decide) λcdv A outer s H E hr=>?_
 have hu:=z7 hr;exact aG (aZ (i:=2) (o:=ag) rfl sc.nd rfl (by trivial) (aV cW (aC (i:=1)) (a_ (dH hK) (by rfl) B.len dI (aA (cC (aC (i:=0)) aH) aF)))) (aG (aB6 (cC (cC (aC (i:=0)) aH) (aC (i:=2))) (vH _ (is:=[3,4]) (by decide)) (vZ rfl (dD (bH (i:=3) sc.nd rfl (by trivial)) (dD (bH (i:=4) sc.nd rfl (by trivial)) (mZ))))) (aG (aZ (i:=5) (o:=ag) rfl sc.nd rfl (by trivial) (aV bU (bM (jZ (by rfl)) (by rfl) B.list fW (aA (MJ hK (cC (aC (i:=0)) aH) (jB) (fJ (aC (i:=2)))) aF)) (bM (jZ (by rfl)) (by rfl) B.list fW (aA (MJ hK (cC (aC (i:=0)) aH) (fJ (aV bU (aC (i:=2)) aH)) (jB)) aF)))) (aG (aZ (i:=6) (o:=af) rfl sc.nd rfl (by trivial) (gC aF)) (aG (nP fA rfl (oX hK (cC (aC (i:=0)) aH)) (iG (i:=7) rfl) (bH (i:=7) sc.nd rfl (by trivial)) (aX (aKf (i:=6) rfl rfl (by trivial) (bM (jZ (by rfl)) (by rfl) B.list fW (aA (aC (i:=7)) aF))))) (aG (lB (ownN:=(["end"]:aa Str)) (show cZ eF (aP fP) _ (["end"]:aa Str) from by refine⟨rfl,?_,?_,?_,?_,?_,?_⟩<;>decide +kernel) (n:=11) (m:=1) rfl rfl rfl (oX hK (aC (i:=6))) (lZ 11) (λ_=>bH (i:=11) (show((fE (jN (["end"]:aa Str)) eF++(["end"]:aa Str)):aa Str).Nodup from by decide +kernel) rfl (by trivial)) (λ_=>cV (aAd hu) (aC (i:=11)) (aC (i:=4)) (cY _)) (λ_=>aC (i:=11)) (λ_=>rfl) (iy:=8) (o:=ag) rfl sc.nd rfl (by trivial) (iF rfl) (by with_unfolding_all rfl)) (aG (lB (ownN:=(["end"]:aa Str)) (show cZ eF (aP fP) _ (["end"]:aa Str) from by refine⟨rfl,?_,?_,?_,?_,?_,?_⟩<;>decide +kernel) (n:=11) (m:=1) rfl rfl rfl (oX hK (aC (i:=6))) (lZ 11) (λ_=>bH (i:=11) (show((fE (jN (["end"]:aa Str)) eF++(["end"]:aa Str)):aa Str).Nodup from by decide +kernel) rfl (by trivial)) (λ_=>cV (aAd hu) (aC (i:=11)) (aC (i:=3)) (cY _)) (λ_=>aC (i:=11)) (λ_=>rfl) (iy:=9) (o:=ag) rfl sc.nd rfl (by trivial) (iF rfl) (by with_unfolding_all rfl)) (aG (aZ (i:=10) (o:=ag) rfl sc.nd rfl (by trivial) (aV cP (aC (i:=1)) (a_ (dH hK) (by rfl) B.len dI (aA (cC (aC (i:=0)) aH) aF)))) (aX (eV (gC (aA (j7 (aV bU (aC (i:=5)) (gC (aA (M9 (bK (aA (aC (i:=3)) (aA (cC (aC (i:=8)) (aV cW (aC (i:=10)) (a_ (dH hK) (by rfl) B.len dI (aA (aC (i:=8)) aF)))) aF)))) aF)))) (aA (j7 (aV bU (gC (aA (M9 (bK (aA (cC (aC (i:=9)) (aV cW (aV cP (aC (i:=10)) aH) (a_ (dH hK) (by rfl) B.len dI (aA (aC (i:=9)) aF)))) (aA (aC (i:=4)) aF)))) aF)) (aC (i:=5)))) aF))))))))))))
theorem wM(pj:dC P w K mg base 1 "_law_rim" 1 fB)(p8:dC P w K mg base 1 "_law_put" 3 bG)(tO:dC P w K mg base 1 "_law_written" 2 iQ)(F:Fun K "_law_of_ties" "_law_of_ties" j_ fad fd)(hm:mg "_law_of_ties"=ae (.ref fad)):dC P w K mg base 2 "_law_of_ties" 3 fQ:=by
 have sc:=yZ;have nd:=sc.nd;refine iW (ps:=["stock","net","cell"]) (N:=o6) (k:=1) F hm (F.binds λ_ _ _ _ _ _ us hl=>by obtain⟨_,_,_,rfl⟩:=Mi.l3 hl;rfl) sc BP (by decide) (by decide) λcdv A outer s H E hr=>?_
 have hu:=z7 hr
 exact aG (aZ (i:=3) (o:=ag) rfl sc.nd rfl (by trivial) (j7 (bM (jZ (by rfl)) (by rfl) B.list fW (aA (cC (aC (i:=1)) aH) aF)))) (aG (aZ (i:=4) (o:=ag) rfl sc.nd rfl (by trivial) (j7 (bM (jZ (by rfl)) (by rfl) B.list fW (aA (cC (aC (i:=1)) aH) aF)))) (aG (aZ (i:=5) (o:=ag) rfl sc.nd rfl (by trivial) (bK (aA aH (aA (bA pj hr (by decide) (by rfl) (aA (aC (i:=1)) aF)) aF)))) (aG (aZ (i:=6) (o:=ag) rfl sc.nd rfl (by trivial) (aV cW (aC (i:=2)) (a_ (dH hK) (by rfl) B.len dI (aA (aC (i:=4)) aF)))) (aG (aZ (i:=7) (o:=ag) rfl sc.nd rfl (by trivial) (j7 (aV bU (MJ hK (aC (i:=4)) (jB) (fJ (aC (i:=6)))) (MJ hK (aC (i:=4)) (fJ (aV bU (aC (i:=6)) aH)) (jB))))) (aG (aB6 (cC (aC (i:=4)) (aC (i:=6))) (vH _ (is:=[8,9]) (by decide)) (vZ rfl (dD (bH (i:=8) sc.nd rfl (by trivial)) (dD (bH (i:=9) sc.nd rfl (by trivial)) (mZ))))) (aG (aZ (i:=10) (o:=af) rfl sc.nd rfl (by trivial) (gC (aA (M9 (bK (aA (aC (i:=0)) (aA (aC (i:=3)) (aA (j7 (bA p8 hr (by decide) (by rfl) (aA (aC (i:=4)) (aA (aV cP (aC (i:=2)) aH) (aA (bK (aA (aC (i:=8)) (aA (aC (i:=9)) aF))) aF))))) aF))))) aF))) (aG (gQ (i:=10) rfl rfl (by trivial) (bK (aA (aC (i:=0)) (aA (aC (i:=3)) (aA (j7 (bA p8 hr (by decide) (by rfl) (aA (aC (i:=4)) (aA (aV cP (aC (i:=2)) aH) (aA (bK (aA (aC (i:=8)) (aA (aC (i:=5)) aF))) aF))))) aF))))) (aG (gQ (i:=10) rfl rfl (by trivial) (bK (aA (aC (i:=0)) (aA (aC (i:=3)) (aA (j7 (bA p8 hr (by decide) (by rfl) (aA (aC (i:=4)) (aA (aV cP (aC (i:=2)) aH) (aA (bK (aA (aC (i:=5)) (aA (aC (i:=9)) aF))) aF))))) aF))))) (aG (nP fA rfl (oX hK (bA tO hr (by decide) (by rfl) (aA (aC (i:=1)) (aA (aC (i:=2)) aF)))) (iG (i:=11) rfl) (bH (i:=11) sc.nd rfl (by trivial)) (aX (gQ (i:=10) rfl rfl (by trivial) (bK (aA (aC (i:=0)) (aA (aC (i:=3)) (aA (aC (i:=11)) aF))))))) (aG (lA (cV (aDm hu) (cC (aC (i:=9)) aH) aH (cY _)) (aX (gQ (i:=10) rfl rfl (by trivial) (bK (aA (aC (i:=0)) (aA (aC (i:=3)) (aA (j7 (bA p8 hr (by decide) (by rfl) (aA (aC (i:=7)) (aA (aV cP (aC (i:=2)) aH) (aA (bK (aA (aC (i:=8)) (aA (aC (i:=5)) aF))) aF))))) aF)))))) eN) (aG (lA (cV (uG hu) (cC (aC (i:=8)) aH) aH (cY _)) (aG (gQ (i:=10) rfl rfl (by trivial) (bK (aA (aC (i:=0)) (aA (aC (i:=3)) (aA (j7 (bA p8 hr (by decide) (by rfl) (aA (aC (i:=7)) (aA (aV cP (aC (i:=2)) aH) (aA (bK (aA (aC (i:=5)) (aA (aC (i:=9)) aF))) aF))))) aF))))) (aX (gQ (i:=10) rfl rfl (by trivial) (bK (aA (aC (i:=0)) (aA (aC (i:=3)) (aA (j7 (bA p8 hr (by decide) (by rfl) (aA (aC (i:=7)) (aA (aV cP (aC (i:=2)) aH) (aA (bK (aA (bK (aA aH (aA (RN yG aH) aF))) (aA (aC (i:=9)) aF))) aF))))) aF))))))) eN) (aX (vG (i:=10) rfl rfl (by trivial))))))))))))))
theorem aKu(pA:dC P w K mg base 1 "_law_cell_at" 2 dB)(tP:dC P w K mg base 1 "_law_stock" 2 iY)(tQ:dC P w K mg base 2 "_law_grown" 3 jR)(pj:dC P w K mg base 1 "_law_rim" 1 fB)(p8:dC P w K mg base 1 "_law_put" 3 bG)(tR:dC P w K mg base 2 "_law_of_pieces" 3 dZ)(tT:dC P w K mg base 2 "_law_of_ties" 3 fQ)(rH:dC P w K mg base 4 "_law_refused" 4 eE)(rJ:dC P w K mg base 3 "made" 4 n6)(F:Fun K "law" "law" BV fad fd):TX P w K mg base CX0 5 fad fd ["script"] (spD X8 1):=by
 have sc:=aKt;have nd:=sc.nd;refine aK5 (ps:=["script"]) (N:=aE8) (k:=4) F sc o_law (by decide) (by decide) λcdv A outer s H E hr=>?_
 have hu:=z7 hr
 exact aG (aZ (i:=1) (o:=ag) rfl sc.nd rfl (by trivial) (bA pA hr (by decide) (by rfl) (aA (aC (i:=0)) (aA aH aF)))) (aG (aZ (i:=2) (o:=af) rfl sc.nd rfl (by trivial) (bA tP hr (by decide) (by rfl) (aA (bA pA hr (by decide) (by rfl) (aA (aC (i:=0)) (aA aH aF))) (aA (aC (i:=1)) aF)))) (aG (aZ (i:=3) (o:=ag) rfl sc.nd rfl (by trivial) (bA tQ hr (by decide) (by rfl) (aA (aC (i:=2)) (aA (MJ hK (aC (i:=0)) (fJ aH) (fJ aH)) (aA (bA pA hr (by decide) (by rfl) (aA (aC (i:=0)) (aA aH aF))) aF))))) (aBp (i:=2) rfl (aG (aZ (i:=4) (o:=ag) rfl sc.nd rfl (by trivial) (j7 (bM (jZ (by rfl)) (by rfl) B.list fW (aA (cC (aC (i:=3)) aH) aF)))) (aG (aZ (i:=5) (o:=ag) rfl sc.nd rfl (by trivial) (j7 (bM (jZ (by rfl)) (by rfl) B.list fW (aA (cC (aC (i:=3)) aH) aF)))) (aG (aZ (i:=6) (o:=ag) rfl sc.nd rfl (by trivial) (bK (aA aH (aA (bA pj hr (by decide) (by rfl) (aA (aC (i:=3)) aF)) aF)))) (aG (aZ (i:=7) (o:=ag) rfl sc.nd rfl (by trivial) (aV bU (aV bU (a_ (U_ hu (by rfl)) (by rfl) B.max VN (aA (aV bU (VM (ownN:=(["piece"]:aa Str)) (show cZ aE8 (aP BV) _ (["piece"]:aa Str) from by refine⟨rfl,?_,?_,?_,?_,?_,?_⟩<;>decide +kernel) (n:=11) (m:=1) rfl rfl rfl (aBq hK (aC (i:=4))) (lZ 11) (λ_=>bH (i:=11) (show((fE (jN (["piece"]:aa Str)) aE8++(["piece"]:aa Str)):aa Str).Nodup from by decide +kernel) rfl (by trivial)) (λ_=>cC (aC (i:=11)) aH) (λ_=>rfl)) (gC (aA aH aF))) aF)) aH) (aV cW (aC (i:=1)) (aV yF aH aH)))) (aG (aZ (i:=8) (o:=af) rfl sc.nd rfl (by trivial) (gC (aA (M9 (bK (aA (aC (i:=2)) (aA (aC (i:=4)) (aA (j7 (bA p8 hr (by decide) (by rfl) (aA (aC (i:=5)) (aA (aC (i:=1)) (aA (bK (aA (aC (i:=6)) (aA (aC (i:=6)) aF))) aF))))) aF))))) aF))) (aG (gQ (i:=8) rfl rfl (by trivial) (bK (aA (aC (i:=2)) (aA (aC (i:=4)) (aA (j7 (bA p8 hr (by decide) (by rfl) (aA (aC (i:=5)) (aA (aC (i:=1)) (aA (bK (aA (bK (aA (aC (i:=7)) (aA aH aF))) (aA (aC (i:=6)) aF))) aF))))) aF))))) (aG (lA (cV (aDm hu) (a_ (dH hK) (by rfl) B.len dI (aA (aC (i:=4)) aF)) aH (cY _)) (aX (aZ (i:=8) (o:=af) rfl sc.nd rfl (by trivial) (aV bU (aC (i:=8)) (bA tR hr (by decide) (by rfl) (aA (aC (i:=2)) (aA (aC (i:=3)) (aA (aC (i:=1)) aF))))))) eN) (aG (lA (cV (aDm hu) (a_ (dH hK) (by rfl) B.len dI (aA (aC (i:=5)) aF)) aH (cY _)) (aX (aZ (i:=8) (o:=af) rfl sc.nd rfl (by trivial) (aV bU (aC (i:=8)) (bA tT hr (by decide) (by rfl) (aA (aC (i:=2)) (aA (aC (i:=3)) (aA (aC (i:=1)) aF))))))) eN) (aG (aHd (i:=8) rfl fA rfl rfl (by trivial) (iG (i:=9) rfl) (bH (i:=9) sc.nd rfl (by trivial)) (aG (lA (aF8 (jP (bA rH hr (by decide) (by rfl) (aA (cC (aC (i:=9)) aH) (aA (cC (aC (i:=9)) aH) (aA (cC (aC (i:=9)) aH) (aA (cC (aC (i:=3)) aH) aF))))))) (aX (eV XJ)) eN) (aX (lA (cV (aAd hu) (bA rJ hr (by decide) (by rfl) (aA (bM wZ (by rfl) B.dict IK (aA (aC (i:=2)) aF)) (aA (bM (wY hK) (by rfl) B.list fW (aA (aC (i:=4)) aF)) (aA (bM (wY hK) (by rfl) B.list fW (aA (aC (i:=5)) aF)) (aA (cC (aC (i:=3)) aH) aF))))) (aC (i:=3)) (cY _)) (aX (eV XJ)) eN)))) (aG (aZ (i:=10) (o:=ag) rfl sc.nd rfl (by trivial) (aV aAc (RN yG aH) (aV v5 (aV cW (bA pA hr (by decide) (by rfl) (aA (aC (i:=0)) (aA aH aF))) aH) (aV cW (aC (i:=1)) (aV yF aH aH))))) (aX (eV (U4 (bA rH hr (by decide) (by rfl) (aA (aC (i:=2)) (aA (aC (i:=4)) (aA (aC (i:=5)) (aA (aC (i:=10)) aF))))) (U3 (U0 (uG hu) (bA rJ hr (by decide) (by rfl) (aA (bM wZ (by rfl) B.dict IK (aA (aC (i:=2)) aF)) (aA (aC (i:=4)) (aA (aC (i:=5)) (aA (cC (aC (i:=3)) aH) aF))))) (aC (i:=3)) (cY _)))))))))))))))))))
end
def AtN(K:Frag)(n:Str)(st:bE):Prop:=∃(f:al)(fd:eo),nsIn K bg n=ae (ae (.ref f))/\Fun K n n st f fd
theorem aMt{K:Frag}{n:Str}{st:bE}{f:al}{oc kV dc pm cd ct:ak}{od an:ay al}{sl:aE (ay ak)}(a:nsIn K bg n=ae (ae (.ref f)))(l:K.lookup f=ae ⟨oc,od,.func (fnOf n n (lK st) (gK st) (aP st) .none kV dc pm an cd ct),sl⟩)(c:codeIn K cd n=af)(k:keepIn K (.ref f)=af):AtN K n st:=⟨f,_,a,aF1 (st:=st) l c k⟩
theorem aKv{l:OpenLaw}{w:bo}{K:Frag}{h:aS}{mg:Str->ay ak}{fa:al}(X:K.In h)(G:h.Ns bg mg)(hfa:mg "law"=ae (.ref fa))(a0:AtN K "_law_cell_at" j8)(a1:AtN K "_law_stock" nT)(a2:AtN K "_law_rimmed" mF)(a3:AtN K "_law_tied" mH)(a4:AtN K "_law_grown" gD)(a5:AtN K "_law_rim" vM)(a6:AtN K "rim_among" mJ)(a7:AtN K "has_place" sG)(a8:AtN K "check_ends" jT)(a9:AtN K "arranged" oN)(a10:AtN K "sides_by_number" iH)(a11:AtN K "ends_of" yS)
 {f12 T12:al}{oc12 kV12 dc12 pm12 cd12 ct12 tc12:ak}{od12 an12 td12:ay al}{sl12 tl12:aE (ay ak)}{tk12:e9}{tn12:ah}(a12:nsIn K bg "made"=ae (ae (.ref f12)))(l12:K.lookup f12=ae ⟨oc12,od12,.func (fnOf "made" "made" (lK DQ) (gK DQ) (aP DQ) (.ref T12) kV12 dc12 pm12 an12 cd12 ct12),sl12⟩)(c12:codeIn K cd12 "made"=af)(k12:keepIn K (.ref f12)=af)(t12:K.lookup T12=ae ⟨tc12,td12,.seq #[.int 0 tk12] tn12,tl12⟩)(a13:AtN K "_law_other" n8)(a14:AtN K "_law_refused" j9)(a15:AtN K "_law_put" vP)(a16:AtN K "_law_end_by" mK)(a17:AtN K "_law_of_pieces" dY)(a18:AtN K "_law_written" fP)(a19:AtN K "_law_of_ties" j_)
 {f20:al}{oc20 kV20 dc20 pm20 cd20 ct20:ak}{od20 an20:ay al}{sl20:aE (ay ak)}(a20:nsIn K bg "law"=ae (ae (.ref f20)))(l20:K.lookup f20=ae ⟨oc20,od20,.func (fnOf "law" "law" (lK BV) (gK BV) (aP BV) .none kV20 dc20 pm20 an20 cd20 ct20),sl20⟩)(c20:codeIn K cd20 "law"=af)(k20:keepIn K (.ref f20)=af)(pW:nsIn K bg "len"=ae aj)(pX:nsIn K bg "min"=ae aj)(pY:nsIn K bg "max"=ae aj)(pZ:nsIn K bg "list"=ae aj)(qa:nsIn K bg "tuple"=ae aj)(qc:nsIn K bg "sorted"=ae aj)(qd:nsIn K bg "range"=ae aj)(qe:nsIn K bg "isinstance"=ae aj)(qf:nsIn K bg "int"=ae aj)(qg:nsIn K bg "bool"=ae aj)(qh:nsIn K bg "str"=ae aj)(qi:nsIn K bg "dict"=ae aj)(qj:nsIn K bg "all"=ae aj)(qm:nsIn K bg "enumerate"=ae aj)(qo:nsIn K bg "sum"=ae aj)(qp:nsIn K bg "zip"=ae aj)(qr:nsIn K bg "abs"=ae aj)(qt:nsIn K bg "reversed"=ae aj){p5:al}(p6:nsIn K bg "NoNet"=ae (ae (.ref p5))){rK:al}(qu:nsIn K bg "BadKind"=ae (ae (.ref rK))){rL:al}(qv:nsIn K bg "BadRow"=ae (ae (.ref rL))){rM:al}(qw:nsIn K bg "Lacking"=ae (ae (.ref rM))){rN:al}(qx:nsIn K bg "NoEnd"=ae (ae (.ref rN))){rO:al}(qy:nsIn K bg "NoName"=ae (ae (.ref rO))){rP:al}(qz:nsIn K bg "NoPair"=ae (ae (.ref rP))){rQ:al}(qA:nsIn K bg "NoRule"=ae (ae (.ref rQ))){rR:al}(qB:nsIn K bg "NoTerm"=ae (ae (.ref rR))){rS:al}(qC:nsIn K bg "NoValue"=ae (ae (.ref rS))){rT:al}(qD:nsIn K bg "Spent"=ae (ae (.ref rT))){rV:al}(qE:nsIn K bg "Stuck"=ae (ae (.ref rV))){rW:al}(qF:nsIn K bg "Twice"=ae (ae (.ref rW))){rX:al}(qG:nsIn K bg "TwoRules"=ae (ae (.ref rX))){rY:al}(qH:nsIn K bg "Uneven"=ae (ae (.ref rY))){rZ:al}(qI:nsIn K bg "Unfit"=ae (ae (.ref rZ))){t0:al}(qJ:nsIn K bg "MillError"=ae (ae (.ref t0)))(pk:excIn K p5 aIi "ValueError.__new__"=af)(qK:isClsIn K p5=af)(qL:lr K (.ref p5) "__getattribute__"=ae (ae (.builtin "BaseException.__getattribute__")))(qM:lr K (.ref p5) "__getattr__"=ae aj)(qN:lr K (.ref p5) "__class__"=ae (ae (.builtin "object.__class__")))(qO:specialIn K (.builtin "object.__class__") "__get__"=ae (ae (.builtin "getset_descriptor.__get__")))(qP:takesIn K (.builtin "object.__class__")=ae af)(qQ:se K p5 (.type "object")=ae af)(qR:se K p5 (.type "BaseException")=ae af)(qS:cy K (.ref p5) (.ref rK)=ae ag)(qT:cy K (.ref p5) (.ref rL)=ae ag)(qU:cy K (.ref p5) (.ref rM)=ae ag)(qV:cy K (.ref p5) (.ref rN)=ae ag)(qW:cy K (.ref p5) (.ref rO)=ae ag)(qX:cy K (.ref p5) (.ref rP)=ae ag)(qY:cy K (.ref p5) (.ref rQ)=ae ag)(qZ:cy K (.ref p5) (.ref rR)=ae ag)(r8:cy K (.ref p5) (.ref rS)=ae ag)(r9:cy K (.ref p5) (.ref rT)=ae ag)(rg:cy K (.ref p5) (.ref rV)=ae ag)(rh:cy K (.ref p5) (.ref rW)=ae ag)(ri:cy K (.ref p5) (.ref rX)=ae ag)(rm:cy K (.ref p5) (.ref rY)=ae ag)(ro:cy K (.ref p5) (.ref rZ)=ae ag)(rq:nsIn K bg "ValueError"=ae aj)(rA:sr K (.ref p5) (.ref t0)=ae af)(rB:cy K (.ref p5) (.ref p5)=ae af)(rC:cy K (.ref p5) (.type "ValueError")=ae af) :
  ∃fd:eo,(∀(s:ao)(v:ak),kG s fd ⟨[v],[]⟩ [("script",v)])/\∀base:aS,K.In base->base.Ns bg mg->TX l.prog w K mg base CX0 5 fa fd ["script"] (@spD ⟨K⟩ X8 1):=by
 have e:=hfa.symm.trans (mg_of X G a20);cases e
 letI:KFrag:=⟨K⟩
 have p7:XC K p5:=⟨qK,qL,qM,qN,qO,qP,qQ,qR⟩
 have Y:=λ{n:Str}{v:ak}=>mg_of (n:=n) (v:=v) X G
 have Z:=λ{n:Str}=>mg_none_of (n:=n) X G
 obtain⟨f0,_,a0,F0⟩:=a0;obtain⟨f1,_,a1,F1⟩:=a1;obtain⟨f2,_,a2,F2⟩:=a2;obtain⟨f3,_,a3,F3⟩:=a3;obtain⟨f4,_,a4,F4⟩:=a4;obtain⟨f5,_,a5,F5⟩:=a5;obtain⟨f6,_,a6,F6⟩:=a6;obtain⟨f7,_,a7,F7⟩:=a7;obtain⟨f8,_,a8,F8⟩:=a8;obtain⟨f9,_,a9,F9⟩:=a9;obtain⟨f10,_,a10,F10⟩:=a10;obtain⟨f11,_,a11,F11⟩:=a11;obtain⟨f13,_,a13,F13⟩:=a13;obtain⟨f14,_,a14,F14⟩:=a14;obtain⟨f15,_,a15,F15⟩:=a15;obtain⟨f16,_,a16,F16⟩:=a16;obtain⟨f17,_,a17,F17⟩:=a17;obtain⟨f18,_,a18,F18⟩:=a18;obtain⟨f19,_,a19,F19⟩:=a19;have B:Bt mg:=⟨Z pW,Z pX,Z pY,Z pZ,Z qa,Z qc,Z qd,Z qe,Z qf,Z qg,Z qh,Z qi,Z qj,Z qm,Z qo,Z qp,Z qr,Z qt⟩
 refine⟨fnOf "law" "law" (lK BV) (gK BV) (aP BV) .none kV20 dc20 pm20 an20 cd20 ct20,λs v=>.of_eq rfl,λbase _ _=>?_⟩;have tU:=wJ (P:=l.prog) (w:=w) (base:=base) rfl B  F0 (Y a0);have tV:=BZ (P:=l.prog) (w:=w) (base:=base) rfl B  F1 (Y a1);have tW:=y_ (P:=l.prog) (w:=w) (base:=base) rfl B  F2 (Y a2);have tX:=JV (P:=l.prog) (w:=w) (base:=base) rfl B  F3 (Y a3);have tY:=B_ (P:=l.prog) (w:=w) (base:=base) rfl B tX tW F4 (Y a4);have rD:=OD (P:=l.prog) (w:=w) (base:=base) rfl B  F5 (Y a5);have u5:=JW (P:=l.prog) (w:=w) (base:=base) rfl B  F6 (Y a6);have u7:=JX (P:=l.prog) (w:=w) (base:=base) rfl B  F7 (Y a7);have po:=CG (P:=l.prog) (w:=w) (base:=base) rfl B u5 u7 p6 (Y p6) pk F8 (Y a8);have ul:=po.cal;have ua:=OJ (P:=l.prog) (w:=w) (base:=base) rfl B  F9 (Y a9);have pq:=sI (P:=l.prog) (w:=w) (base:=base) rfl B  p6 (Y p6) pk F10 (Y a10);have um:=pq.cal;have ub:=SQ (P:=l.prog) (w:=w) (base:=base) rfl B  F11 (Y a11);have F12:aMn K "made" "made" DQ f12 _ T12 #[.int 0 tk12]:=⟨⟨_,_,_,_,_,_,_,_,_,rfl,l12,c12⟩,k12,⟨_,_,_,_,t12⟩⟩
 have pr:=aE9 (P:=l.prog) (w:=w) (base:=base) rfl B ub ua po pq p6 (Y p6) pk F12 (Y a12) (λs us X' hl=>by obtain⟨_,_,_,_,rfl⟩:=Mi.l4 (by simpa using hl);exact BindsTo.of_defaults rfl (X' _ _ t12) rfl rfl rfl);have uc:=pr.cal;have ud:=CJ (P:=l.prog) (w:=w) (base:=base) rfl B  (Y qu) (Y qv) (Y qw) (Y qx) (Y qy) (Y qz) (Y qA) (Y qB) (Y qC) (Y qD) (Y qE) (Y qF) (Y qG) (Y qH) (Y qI) ⟨⟨_,p6,p7,qS⟩,trivial⟩ ⟨⟨_,p6,p7,qT⟩,trivial⟩ ⟨⟨_,p6,p7,qU⟩,trivial⟩ ⟨⟨_,p6,p7,qV⟩,trivial⟩ ⟨⟨_,p6,p7,qW⟩,trivial⟩ ⟨⟨_,p6,p7,qX⟩,trivial⟩ ⟨⟨_,p6,p7,qY⟩,trivial⟩ ⟨⟨_,p6,p7,qZ⟩,trivial⟩ ⟨⟨_,p6,p7,r8⟩,trivial⟩ ⟨⟨_,p6,p7,r9⟩,trivial⟩ ⟨⟨_,p6,p7,rg⟩,trivial⟩ ⟨⟨_,p6,p7,rh⟩,trivial⟩ ⟨⟨_,p6,p7,ri⟩,trivial⟩ ⟨⟨_,p6,p7,rm⟩,trivial⟩ ⟨⟨_,p6,p7,ro⟩,trivial⟩ F13 (Y a13);have ue:=wK (P:=l.prog) (w:=w) (base:=base) rfl B ud pr (Y qJ) (Y p6) (mg_none_of X G rq) ⟨⟨_,p6,rA⟩,trivial⟩ ⟨⟨_,p6,p7,rB⟩,trivial⟩ ⟨⟨_,p6,p7,rC⟩,trivial⟩ F14 (Y a14);have rE:=O1 (P:=l.prog) (w:=w) (base:=base) rfl B  F15 (Y a15);have uf:=zA (P:=l.prog) (w:=w) (base:=base) rfl B  F16 (Y a16);have ug:=uP (P:=l.prog) (w:=w) (base:=base) rfl B uf rE rD F17 (Y a17);have uh:=wL (P:=l.prog) (w:=w) (base:=base) rfl B  F18 (Y a18);have uk:=wM (P:=l.prog) (w:=w) (base:=base) rfl B rD rE uh F19 (Y a19);exact aKu rfl B tU tV tY rD rE ug uk ue uc (aF1 (st:=BV) l20 c20 k20)
theorem walk{l:OpenLaw}{q:bu}{loose:aa Str}{XP:(Str->ay ak)->aS->Prop}{YP:bo->aS->Prop}{d:DefRec}{K:n4->Frag}(main:∀ns:aa ai,ns.length<=63->X8 [.scr (ns.map δ)]=.ok (.bl af))(hn:l.most=ae 63)(hdf:d.params.defaults=[])
 (hY:∀(w:bo) (h:aS),YP w h->(K w.params).In h)
 (F:∀(w:bo) (mg:Str->ay ak) (fa:al) (h:aS),(K w.params).In h->h.Ns bg mg->mg d.name=ae (.ref fa)->
   ∃fd:eo,(∀(s:ao) (u:ak),kG s fd ⟨[u],[]⟩ [("script",u)])/\∀base:aS,(K w.params).In base->base.Ns bg mg->TX l.prog w (K w.params) mg base CX0 5 fa fd ["script"] (@spD ⟨K w.params⟩ X8 1)) :
  WalkO q loose XP YP l.row.toRowW d [] (λf vs=>vk f vs):=
 L2.aGd (n:=63) (k:=5) (x:= "script") (CX:=λ_=>CX0) (sp:=λw=>@spD ⟨K w.params⟩ X8 1) hn (by decide) hdf ⟨rfl,by decide,by decide⟩ hY F (λw H a ns hl hO hS=>aAv main hl hO hS) λ_ _ _ _ _ z=>z
end Lk03
end
namespace Lk03
open PySem L2 Mi
noncomputable abbrev Pt:=ai×ai
noncomputable def enP(p:Pt):D:=.tup [.int p.1,.int p.2]
abbrev Tie:=Pt×Pt
def bB(t:Tie):D:=.tup [enP t.1,enP t.2]
noncomputable def okD(d:D):Res D:=match d with|.uD=>.bad|d=>.ok d
theorem zB(i:ah)(ρ:aa D):jH i ρ=okD (ρ.getD i .uD):=rfl
theorem JZ(p q:Pt):eqD (enP p) (enP q)=ϒ (p=q):=by
 obtain⟨a,b⟩:=p;obtain⟨c,d⟩:=q;by_cases h1:a=c<;>by_cases h2:b=d<;>simp[enP,eqD,xY,h1,h2]
def ltP(p q:Pt):Prop:=p.1<q.1\/p.1=q.1/\p.2<q.2
noncomputable instance (p q:Pt):oj (ltP p q):=by unfold ltP;infer_instance
theorem V2(p q:Pt):jF .lt (enP p) (enP q)=ae (ϒ (ltP p q)):=by
 obtain⟨a,b⟩:=p;obtain⟨c,d⟩:=q;by_cases h1:a=c<;>by_cases h2:b=d<;>simp[enP,jF,jX,eqD,h1,h2,iJ.int,iJ.nat,ltP]
theorem aFn(p q:Pt):jF .gt (enP p) (enP q)=ae (ϒ (ltP q p)):=by
 obtain⟨a,b⟩:=p;obtain⟨c,d⟩:=q;by_cases h1:a=c
 ·by_cases h2:b=d<;>simp[enP,jF,jX,eqD,h1,h2,iJ.int,iJ.nat,ltP]
 ·simp[enP,jF,jX,eqD,h1,iJ.int];simp only[ltP];lia
theorem aBt(p q:Pt):b8 .ne (enP p) (enP q)=.ok (.bl (!ϒ (p=q))):=by
 rw[<-JZ];rfl
noncomputable def ends(T:aa Tie):aa Pt:=T.flatMap λt=>[t.1,t.2]
noncomputable abbrev Pc:=ai×Str
def pcD(c:Pc):D:=.tup [.int c.1,.str c.2]
theorem z2:ϒ ((2:ah)<=lim)=af:=rfl
def gW(Q:aa Pc)(T:aa Tie)(r:ai):D:=.tup [.tup (Q.map pcD),.tup (T.map bB),.int r]
theorem aEa(Q:aa Pc):(D.tup (Q.map pcD)).pure=af:=by
 show θ (Q.map pcD)=af;induction Q with
 |nil=>rfl
 |cons q Q ih=>rw[bw,θ,ih];rfl
theorem O2(T:aa Tie):(D.tup (T.map bB)).pure=af:=by
 show θ (T.map bB)=af;induction T with
 |nil=>rfl
 |cons q Q ih=>rw[bw,θ,ih];rfl
theorem O3(l:aa Pt):θ (l.map enP)=af:=by
 induction l with
 |nil=>rfl
 |cons q Q ih=>rw[bw,θ,ih];rfl
def aHs:FS:=(bI (b_ ag 9 (b2 (aQ .mul) (b2 (aQ .mod) (b2 (aQ .fdiv) cH Z_) zW) (b2 (aQ .add) iT zW)) af) (bI (sIf (bTB (b2 (b8 .eq) iT d_)) (b_ ag 9 dG af) jM) (b_ ag 7 (b2 (aQ .add) zV (b2 getD dX (b2 (aQ .mod) (b2 (aQ .add) (b2 (aQ .fdiv) (b2 (aQ .fdiv) cH K9) (b2 (aQ .add) (b2 (aQ .mul) iT iT) dG)) (b2 (aQ .mul) lO o9)) aA0))) af)))
def aMu:FS:=(bI (b_ ag 7 (bC (.str "")) af) (bI (Q_ (vA (aB cJ aO) uB) (tg1 8) (bI (b_ ag 9 (b2 (aQ .mul) (b2 (aQ .mod) (b2 (aQ .fdiv) cH Z_) zW) (b2 (aQ .add) iT zW)) af) (bI (sIf (bTB (b2 (b8 .eq) iT d_)) (b_ ag 9 dG af) jM) (b_ ag 7 (b2 (aQ .add) zV (b2 getD dX (b2 (aQ .mod) (b2 (aQ .add) (b2 (aQ .fdiv) (b2 (aQ .fdiv) cH K9) (b2 (aQ .add) (b2 (aQ .mul) iT iT) dG)) (b2 (aQ .mul) lO o9)) aA0))) af)))) (bI (aDd 5 zV (b2 (aQ .mod) iK zX)) (b_ ag 1 (b2 (aQ .fdiv) iK zX) af))))
noncomputable def abc:Str:= "abcdefghijklmnopqrstuvwxyz"
noncomputable def lf(i:ai):ah:=abc.cps.toList.getD i.toNat 0
noncomputable def stp(c0 at_:ai)(jj:ai):ai:=if jj==at_ then 1 else c0 / 192 % 2*(jj+2)
def chj(c0 at_ k:ai)(j:ah):ah:=lf ((c0 / 384 / ((0+(j:ai))*(0+(j:ai))+1)+k*stp c0 at_ (0+(j:ai))) % 26)
theorem letter(i:ai)(h0:0<=i)(h1:i<26):getD (.str abc) (.int i)=.ok (.str ⟨#[lf i]⟩):=by
 have hl:ϒ (abc.length<=lim)=af:=by decide +kernel
 have h26:abc.cps.toList.length=26:=by decide +kernel
 have hix:ixD abc.cps.toList.length i=ae i.toNat:=by
  unfold ixD;rw[av h0,h26,av (by lia)]
 have hlt:i.toNat<abc.cps.toList.length:=by rw[h26];lia
 have hlf:lf i=abc.cps.toList[i.toNat]:=by
  unfold lf;rw[dh,dP hlt];rfl
 rw[hlf];show(if ϒ (abc.length<=lim) then μ (((ixD abc.cps.toList.length i).bind λj=>abc.cps.toList[j]?).map λc=>ι ⟨#[c]⟩) else .bad)=_;rw[hl,av rfl,hix];simp only[ni];rw[dP hlt];rfl
theorem DX{c0 c1 sz at_ k:ai}{dk:D}{ab:Str}(hab:∀i:ai,0<=i->i<26->getD (.str ab) (.int i)=.ok (.str ⟨#[lf i]⟩))(hk0:0<=k)(hk1:k<=10):∀(js:aa ah)(nm:Str)(x y:D),(∀j∈js,j<10)->nm.length+js.length<=1000->∃nm' x' y',nm'.cps.toList=nm.cps.toList++js.map (chj c0 at_ k)/\
  lW (tg1 8) aHs (js.map λ(j:ah)=>δ (0+(j:ai))) [.int c0,.int c1,.str ab,.int sz,.int at_,dk,.int k,.str nm,x,y]=.ok (.nx [.int c0,.int c1,.str ab,.int sz,.int at_,dk,.int k,.str nm',x',y'])
 |[],nm,x,y,_,_=>⟨nm,x,y,by simp,rfl⟩
 |j::js,nm,x,y,hj,hl=>by
  have hj':=hj j (cu ..);rw[cr] at hl;generalize hjj:(0+(j:ai))=jj;have b0:0<=jj:=by lia
  have b1:jj<10:=by lia
  have hsq:jj*jj<100:=by
   have:jj*jj<=9*9:=AV (by lia) (by lia) b0 (by lia);lia
  have hsq0:0<=jj*jj:=w_ b0 b0;have f1:=eQ c0 192 (by decide) (by decide);have f2:=dJ (c0 / 192) 2 (by decide);have f3:=dF jj 2;have f4:=aB1 (c0 / 192 % 2) (jj+2) (l_ _ (by lia) (by lia));have f5:b8 .eq (.int jj) (.int at_)=.ok (.bl (jj==at_)):=rfl;have f6:=eQ c0 384 (by decide) (by decide);have f7:=aB1 jj jj (l_ _ (by lia) (by lia));have f8:=dF (jj*jj) 1;have f9:=eQ (c0 / 384) (jj*jj+1) (by lia) (by lia);have pi:∀i:ai,(δ i).pure=af:=λ_=>rfl
  have ps:∀i:Str,(ι i).pure=af:=λ_=>rfl
  rw[show((j::js).map λ(j:ah)=>δ (0+(j:ai)))=δ (0+(j:ai))::js.map λ(j:ah)=>δ (0+(j:ai)) from rfl,lW,hjj];have rest:∀st:ai,st=stp c0 at_ jj->∃(cc:Str)(nm':Str)(x' y':D),nm'.cps.toList=nm.cps.toList++(j::js).map (chj c0 at_ k)/\(b_ ag 7 (b2 (aQ .add) zV (b2 getD dX (b2 (aQ .mod) (b2 (aQ .add) (b2 (aQ .fdiv) (b2 (aQ .fdiv) cH K9) (b2 (aQ .add) (b2 (aQ .mul) iT iT) dG)) (b2 (aQ .mul) lO o9)) aA0))) af) [.int c0,.int c1,.str ab,.int sz,.int at_,dk,.int k,.str nm,.int jj,.int st]=.ok (.nx [.int c0,.int c1,.str ab,.int sz,.int at_,dk,.int k,.str (nm++cc),.int jj,.int st])/\
    lW (tg1 8) aHs (js.map λ(j:ah)=>δ (0+(j:ai))) [.int c0,.int c1,.str ab,.int sz,.int at_,dk,.int k,.str (nm++cc),.int jj,.int st]=.ok (.nx [.int c0,.int c1,.str ab,.int sz,.int at_,dk,.int k,.str nm',x',y']):=by
   intro st hst;have g1:=I_ k st (l_ _ (by lia) (by lia));have g2:=dF (c0 / 384 / (jj*jj+1)) (k*st);have g3:=dJ (c0 / 384 / (jj*jj+1)+k*st) 26 (by decide);have g4:=hab ((c0 / 384 / (jj*jj+1)+k*st) % 26) (by lia) (by lia);have hch:lf ((c0 / 384 / (jj*jj+1)+k*st) % 26)=chj c0 at_ k j:=by
    unfold chj;rw[hjj,hst]
   rw[hch] at g4;have g5:(⟨#[chj c0 at_ k j]⟩:Str).length=1:=rfl;generalize hcc:(⟨#[chj c0 at_ k j]⟩:Str)=cc at g4 g5;have g6:=Q6 nm cc (by rw[g5,bT];lia);obtain⟨nm',x',y',h1,h2⟩:=DX (c0:=c0) (c1:=c1) (sz:=sz) (at_:=at_) (dk:=dk) hab hk0 hk1 js (nm++cc) (.int jj) (.int st) (λj hj2=>hj j (b6 _ hj2)) (by rw[str_len,g5];lia);refine⟨cc,nm',x',y',by
    rw[h1,bw];show(nm.cps++cc.cps).toList++_=_;rw[<-hcc];simp,?_,h2⟩
   exact bN (aJ rfl (aJ rfl (aJ (aJ (aJ (aJ rfl rfl f6) (aJ (aJ rfl rfl f7) rfl f8) f9) (aJ rfl rfl g1) g2) rfl g3) g4) g6)
  have step:∃st:ai,st=stp c0 at_ jj/\aHs [.int c0,.int c1,.str ab,.int sz,.int at_,dk,.int k,.str nm,.int jj,y]=(b_ ag 7 (b2 (aQ .add) zV (b2 getD dX (b2 (aQ .mod) (b2 (aQ .add) (b2 (aQ .fdiv) (b2 (aQ .fdiv) cH K9) (b2 (aQ .add) (b2 (aQ .mul) iT iT) dG)) (b2 (aQ .mul) lO o9)) aA0))) af) [.int c0,.int c1,.str ab,.int sz,.int at_,dk,.int k,.str nm,.int jj,.int st]:=by
   cases he:(jj==at_) with
   |true=>
    refine⟨1,by unfold stp;rw[he];rfl,?_⟩;exact aK (bN (aJ (aJ (aJ rfl rfl f1) rfl f2) (aJ rfl rfl f3) f4)) (aK (aDs (dR (aJ rfl rfl (f5.trans (by rw[he])))) rfl) rfl)
   |false=>
    refine⟨c0 / 192 % 2*(jj+2),by unfold stp;rw[he];rfl,?_⟩;exact aK (bN (aJ (aJ (aJ rfl rfl f1) rfl f2) (aJ rfl rfl f3) f4)) (aK (aDs (dR (aJ rfl rfl (f5.trans (by rw[he])))) rfl) rfl)
  obtain⟨st,hst,step⟩:=step;obtain⟨cc,nm',x',y',h1,s7,h2⟩:=rest st hst;refine⟨nm',x',y',h1,?_⟩;have tgx:tg1 8 (.int jj) [.int c0,.int c1,.str ab,.int sz,.int at_,dk,.int k,.str nm,x,y]=.ok [.int c0,.int c1,.str ab,.int sz,.int at_,dk,.int k,.str nm,.int jj,y]:=rfl;rw[tgx,τ,step,s7,τ];exact h2
def bO(kvs:aa (D×D)):Prop:=∀p∈kvs,∃(s:Str)(v:ai),p=(.str s,.int v)/\0<=v/\v<=6/\s.length<=9
theorem O4{s:Str}{v:ai}(hs:s.length<=9)(h0:0<=v)(h1:v<=6):∀{kvs:aa (D×D)},bO kvs->bO (putD kvs (.str s) (.int v))/\(putD kvs (.str s) (.int v)).length<=kvs.length+1/\putD kvs (.str s) (.int v)≠[]
 |[],h=>⟨λp hp=>⟨s,v,by simpa[putD] using hp,h0,h1,hs⟩,by simp[putD],by simp[putD]⟩
 | (k,w)::r,h=>by
  obtain⟨i1,i2,i3⟩:=O4 (s:=s) hs h0 h1 (kvs:=r) λp hp=>h p (b6 _ hp)
  rw[putD];split
  ·obtain⟨s',v',e,_,_,hs'⟩:=h _ (cu ..);cases e;refine⟨λp hp=>?_,by simp,by simp⟩;rcases bX.mp hp with rfl|hp
   ·exact⟨s',v,rfl,h0,h1,hs'⟩
   ·exact h p (b6 _ hp)
  ·refine⟨λp hp=>?_,by simp only[cr];lia,by simp⟩;rcases bX.mp hp with rfl|hp
   ·exact h _ (cu ..)
   ·exact i1 p hp
theorem O5{kvs:aa (D×D)}(h:bO kvs)(s:Str):zT kvs (.str s)=af:=by
 unfold zT;rw[show keyOk (.str s)=af from rfl,lc,dQ];intro p hp;obtain⟨s',v',rfl,_⟩:=h p hp;rfl
theorem range_all(n:ah):∀j∈eu n,j<n:=λj hj=>kB.mp hj
def nmK(c0 sz at_ k:ai):Str:=⟨((eu sz.toNat).map (chj c0 at_ k)).toArray⟩
theorem V3{s:Str}{v:D}:∀{kvs:aa (D×D)},bO kvs->ι s∈fG (putD kvs (.str s) v)/\∀d∈fG kvs,d∈fG (putD kvs (.str s) v)
 |[],_=>⟨by simp[putD,fG],λd h=>by cases h⟩
 | (k,w)::r,h=>by
  obtain⟨i1,i2⟩:=V3 (s:=s) (v:=v) (kvs:=r) λp hp=>h p (b6 _ hp)
  obtain⟨s',v',e,_⟩:=h _ (cu ..);cases e;rw[putD];split
  ·rename_i hh;have hh:s'=s:=by simpa[eqD] using hh
   subst hh;exact⟨by simp[fG],λd hd=>by simpa[fG] using hd⟩
  ·refine⟨b6 _ i1,λd hd=>?_⟩;rcases bX.mp hd with rfl|hd
   ·exact cu ..
   ·exact b6 _ (i2 d hd)
theorem DY{c0 sz at_:ai}{ab:Str}(hab:∀i:ai,0<=i->i<26->getD (.str ab) (.int i)=.ok (.str ⟨#[lf i]⟩))(hs0:0<=sz)(hs1:sz<=9):∀(ks:aa ah)(c1:ai)(kvs:aa (D×D))(x6 x7 x8 x9:D),(∀k∈ks,k<10)->bO kvs->kvs.length+ks.length<=1000->
  ∃c1' kvs' y6 y7 y8 y9,bO kvs'/\((∀k∈ks,ι (nmK c0 sz at_ (0+(k:ai)))∈fG kvs')/\∀d∈fG kvs,d∈fG kvs')/\(ks≠[]\/kvs≠[]->kvs'≠[])/\kvs'.length<=kvs.length+ks.length/\
  lW (tg1 6) aMu (ks.map λ(j:ah)=>δ (0+(j:ai))) [.int c0,.int c1,.str ab,.int sz,.int at_,.dct kvs,x6,x7,x8,x9]=.ok (.nx [.int c0,c1',.str ab,.int sz,.int at_,.dct kvs',y6,y7,y8,y9])
 |[],c1,kvs,x6,x7,x8,x9,_,hk,_=>⟨.int c1,kvs,x6,x7,x8,x9,hk,⟨λ_ h=>(by cases h),λ_ h=>h⟩,λh=>h.elim (λz=>bb rfl z) id,by simp,rfl⟩
 |k::ks,c1,kvs,x6,x7,x8,x9,hks,hk,hl=>by
  have hk':=hks k (cu ..);rw[cr] at hl;generalize hkk:(0+(k:ai))=kk;obtain⟨nm,u8,u9,hnm,hin⟩:=DX (c0:=c0) (c1:=c1) (sz:=sz) (at_:=at_) (k:=kk) (dk:=.dct kvs) hab (by lia) (by lia) (eu sz.toNat) "" x8 x9 (λj hj=>by have:=range_all _ j hj;lia) (by
   rw[kr];have:("" : Str).length=0:=rfl;lia)
  have enm:nm=nmK c0 sz at_ kk:=by
   unfold nmK;have:nm.cps.toList=(eu sz.toNat).map (chj c0 at_ kk):=hnm;rw[<-this]
  obtain⟨q1,q2⟩:=V3 (s:=nm) (v:=.int (c1 % 7)) hk;obtain⟨i1,i2,i3⟩:=O4 (s:=nm) (v:=c1 % 7) (by
   have e:nm.cps.toList.length=sz.toNat:=by rw[enm];unfold nmK;simp
   have e2:nm.length=nm.cps.toList.length:=rfl;lia) (by lia) (by lia) hk
  obtain⟨c1',kvs',y6,y7,y8,y9,j1,jk,j2,j3,j4⟩:=DY hab hs0 hs1 ks (c1 / 7) (putD kvs (.str nm) (.int (c1 % 7))) (.int kk) (.str nm) u8 u9 (λj hj=>hks j (b6 _ hj)) i1 (by lia);refine⟨c1',kvs',y6,y7,y8,y9,j1,⟨λm hm=>?_,λd hd=>jk.2 d (q2 d hd)⟩,λ_=>j2 (.inr i3),by simp only[cr];lia,?_⟩
  ·rcases bX.mp hm with rfl|hm
   ·rw[hkk,<-enm];exact jk.2 _ q1
   ·exact jk.1 m hm
  rw[bw,hkk];have m7:=dJ c1 7 (by decide);have d7:=eQ c1 7 (by decide) (by decide);refine bZ (ρ1:=[.int c0,.int c1,.str ab,.int sz,.int at_,.dct kvs,.int kk,x7,x8,x9]) rfl ?_ j4;refine aK (bN rfl) ?_;refine aK (nQ (C_ (n:=sz) (aD rfl rfl) hs0 (by lia)) hin) ?_;refine aK (aAz (kvs:=kvs) (aJ rfl rfl m7) rfl rfl (by rw[bT];lia) (O5 hk nm) rfl) ?_;exact bN (aJ rfl rfl d7)
theorem aKw{i j:ai}(h0:0<=i)(h1:i<26)(h2:0<=j)(h3:j<26)(h:lf i=lf j):i=j:=by
 have key:∀a b:Fin 26,abc.cps.toList.getD a.val 0=abc.cps.toList.getD b.val 0->a=b:=by decide +kernel
 have:=key ⟨i.toNat,by lia⟩ ⟨j.toNat,by lia⟩ h;rw[Fin.mk.injEq] at this;lia
theorem aMv{c0 sz at_:ai}(h:0<sz)(h0:0<=at_)(h1:at_<sz):nmK c0 sz at_ (0+((0:ah):ai))≠nmK c0 sz at_ (0+((1:ah):ai)):=λz=>by
 unfold nmK at z;rw[Str.mk.injEq] at z;have z:=di sT z;simp only[List.map_inj_left] at z;have z:=z at_.toNat (kB.mpr (by lia));unfold chj at z;have e:(0+((at_.toNat:ah):ai))=at_:=by lia
 rw[e] at z;have s1:stp c0 at_ at_=1:=by unfold stp;simp
 rw[s1] at z;have:=aKw (eM _ (by decide)) (gi _ (by decide)) (eM _ (by decide)) (gi _ (by decide)) z;generalize c0 / 384 / (at_*at_+1)=w at this;lia
theorem aEb(c0 c1:ai):∃kvs,bO kvs/\(∃a b:Str,a≠b/\ι a∈fG kvs/\ι b∈fG kvs)/\kvs≠[]/\kvs.length<=5/\iY [.int c0,.int c1]=.ok (.dct kvs):=by
 have m8:=dJ c0 8 (by decide);have a1:=dF 1 (c0 % 8);have f8:=eQ c0 8 (by decide) (by decide);have ms:=dJ (c0 / 8) (1+c0 % 8) (by lia);have f64:=eQ c0 64 (by decide) (by decide);have m3:=dJ (c0 / 64) 3 (by decide);have a3:=dF 3 (c0 / 64 % 3);obtain⟨c1',kvs',y6,y7,y8,y9,j1,jk,j2,j3,j4⟩:=DY (c0:=c0) (sz:=1+c0 % 8) (at_:=c0 / 8 % (1+c0 % 8)) (ab:=abc) letter (by lia) (by lia) (eu (3+c0 / 64 % 3).toNat) c1 [] .uD .uD .uD .uD (λj hj=>by have:=range_all _ j hj;lia) (λp hp=>by cases hp) (by rw[kr];simp;lia);refine⟨kvs',j1,⟨nmK c0 (1+c0 % 8) (c0 / 8 % (1+c0 % 8)) (0+((0:ah):ai)),nmK c0 (1+c0 % 8) (c0 / 8 % (1+c0 % 8)) (0+((1:ah):ai)),aMv (by lia) (eM _ (by lia)) (gi _ (by lia)),jk.1 0 (kB.mpr (by lia)),jk.1 1 (kB.mpr (by lia))⟩,j2 (.inl λz=>?_),by rw[kr] at j3;simp at j3;lia,?_⟩
 ·have:=di fx z;rw[kr] at this;simp at this;lia
 ·have e:nU [.int c0,.int c1,.uD,.uD,.uD,.uD,.uD,.uD,.uD,.uD]=.ok (.rt (.dct kvs')):=by
   refine aK (bN rfl) ?_;refine aK (bN (aJ rfl (aJ rfl rfl m8) a1)) ?_;refine aK (bN (aJ (aJ rfl rfl f8) rfl ms)) ?_;refine aK (eO rfl rfl) ?_;refine aK (nQ (C_ (n:=3+c0 / 64 % 3) (aD (aJ rfl (aJ (aJ rfl rfl f64) rfl m3) a3) rfl) (by lia) (by lia)) j4) ?_;rfl
  show(do let r <- nU _;aDa r)=_;rw[show([δ c0,δ c1]++ck (10-2) D.uD)=[.int c0,.int c1,.uD,.uD,.uD,.uD,.uD,.uD,.uD,.uD] from rfl,e];rfl
theorem aBu(L:aa Pt)(i:ai)(h0:0<=i)(h1:i<L.length):∃p∈L,getD (.lst (L.map enP)) (.int i)=.ok (enP p):=by
 obtain⟨h,e⟩:=IW (L.map enP) i h0 (by simpa using h1);rw[bp] at h;refine⟨L[i.toNat],jc _,?_⟩;rw[e];simp
theorem aEc(o:iJ)(a b:Pt)(r:Pt->Pt->Prop)[∀x y,oj (r x y)](h:∀x y,jF o (enP x) (enP y)=ae (ϒ (r x y))):fL o [enP a,enP b]=.ok (enP (if r b a then b else a)):=by
 show p_ o [enP a,enP b]=_;have hall:([enP a,enP b].all λx=>x.fY aR&&[enP a,enP b].all λy=>(jF o x y).isSome)=af:=by
  simp only[hI,AW,h,vf,vz];rfl
 rw[p_,av hall];simp only[oq,AX,h,mM];by_cases hr:r b a
 ·simp[hr]
 ·simp[hr]
theorem aEd{α:Type}[gw α]{L:aa α}(hn:L.Nodup){a:α}(ha:a∈L):(L.filter λx=>!ϒ (x=a)).length+1=L.length:=by
 induction L with
 |nil=>cases ha
 |cons x L ih=>
  rw[eR] at hn;rw[kj];by_cases h:x=a
  ·subst h;have:(L.filter λy=>!ϒ (y=x))=L:=ky.mpr λy hy=>by
    have:y≠x:=λz=>hn.1 (z▸hy)
    simp[this]
   simp[this]
  ·rw[av (by simp[h])];rcases bX.mp ha with rfl|ha
   ·exact bb rfl h
   ·have:=ih hn.2 ha;simp only[cr];lia
theorem aHt(L:aa Pt)(more:ai)(hn:L.Nodup)(h2:2<=L.length)(hl:L.length<=100000):∃a b,a∈L/\b∈L/\ltP a b/\eZ [.lst (L.map enP),.int more]=.ok (bB (a,b)):=by
 have hpos:(0:ai)<(L.length:ai):=by lia
 have g0:=dJ more L.length hpos;obtain⟨one,h1,e1⟩:=aBu L (more % L.length) (eM _ (by lia)) (gi _ hpos);have hf:=aEd hn h1
 let R:=L.filter λx=>!ϒ (x=one)
 have hR:R.length+1=L.length:=hf;have hRp:(0:ai)<(R.length:ai):=by lia
 have g1:=eQ more L.length hpos (by lia);have g2:=dJ (more / L.length) R.length hRp;obtain⟨other,h3,e3⟩:=aBu R (more / L.length % R.length) (eM _ (by lia)) (gi _ hRp);have h4:other∈L/\other≠one:=by
  have:=gL.mp h3;exact⟨this.1,by simpa using this.2⟩
 have lL:gJ [.lst (L.map enP)]=.ok (.int L.length):=by rw[uI,bp]
 have lR:gJ [.lst (R.map enP)]=.ok (.int R.length):=by rw[uI,bp]
 have mn:=aEc .lt one other ltP V2;have mx:=aEc .gt one other (λx y=>ltP y x) aFn;have tri:ltP one other\/ltP other one:=by
  have:one≠other:=λz=>h4.2 z.symm
  simp only[ltP];by_cases hh:one.1=other.1
  ·have:one.2≠other.2:=λz=>this (Prod.ext hh z)
   lia
  ·lia
 have aCo:ltP other one->¬ltP one other:=by
  simp only[ltP];lia
 have body:sE [.lst (L.map enP),.int more,.uD,.uD,.uD]=.ok (.rt (.tup [enP (if ltP other one then other else one),enP (if ltP one other then other else one)])):=by
  refine aK (ρ':=[.lst (L.map enP),.int more,enP one,.uD,.uD]) (IV (aJ rfl (aJ rfl (aM (aD rfl rfl) lL) g0) e1) rfl) ?_;refine aK (ρ':=[.lst (L.map enP),.int more,enP one,.lst (R.map enP),.uD]) (bN (j6 (jC rfl rfl) (by rw[bp,bT];lia) ?_)) ?_
  ·rw[eX _ enP (λx=>!ϒ (x=one)) enP]
   ·rfl
   ·intro acc p;exact nR (ρ:=[.lst (L.map enP),.int more,enP one,.uD,.uD]) rfl (dR (aJ rfl rfl (aBt p one))) λ_=>⟨rfl,rfl⟩
  refine aK (ρ':=[.lst (L.map enP),.int more,enP one,.lst (R.map enP),enP other]) (IV (aJ rfl (aJ (aJ rfl (aM (aD rfl rfl) lL) g1) (aM (aD rfl rfl) lR) g2) e3) rfl) ?_;exact h_ (g_ (aD (aM (aD rfl (aD rfl rfl)) mn) (aD (aM (aD rfl (aD rfl rfl)) mx) rfl)) (by rw[bT];simp)) rfl
 have ev:eZ [.lst (L.map enP),.int more]=.ok (.tup [enP (if ltP other one then other else one),enP (if ltP one other then other else one)]):=by
  show(do let r <- sE _;aDa r)=_;rw[show([ξ (L.map enP),δ more]++ck (5-2) D.uD)=[.lst (L.map enP),.int more,.uD,.uD,.uD] from rfl,body];rfl
 rcases tri with h|h
 ·have n:¬ltP other one:=λz=>aCo z h
  rw[az n,av h] at ev;exact⟨one,other,h1,h4.1,h,ev⟩
 ·rw[av h,az (aCo h)] at ev;exact⟨other,one,h4.1,h1,h,ev⟩
def rb1:FS:=(aJq 3 (b2 (aQ .mod) (b2 (aQ .add) (b2 (aQ .fdiv) dX (b2 (aQ .add) d_ dG)) (b2 (aQ .mul) d_ d_)) (b2 (aQ .add) d_ dG)) d_)
def rb2:FS:=(lJ 5 (cL (aB (cL (aB cQ (aB (b2 getD cJ d_) aO))) (aB (b2 getD cH d_) aO))))
def rb3:FS:=(bI (b_ ag 6 (YW cJ (jJ (b2 (aQ .add) (aL gJ (aB cH aO)) (b2 (aQ .mul) zW d_))) (jJ (b2 (aQ .add) (b2 (aQ .add) (aL gJ (aB cH aO)) (b2 (aQ .mul) zW d_)) zW))) af) (lJ 5 (cL (aB (cL (aB cQ (aB (aL (fL .lt) (aB lO aO)) aO))) (aB (cL (aB cQ (aB (aL (fL .gt) (aB lO aO)) aO))) aO)))))
theorem D_{a0 a1 a5 a6:D}{seed:ai}:∀(n k:ah)(S:aa ai)(x4:D),S.length=k->(∀s∈S,0<=s/\s<k)->S.Nodup->k+n<=10000->∃(S':aa ai)(y4:D),S'.length=k+n/\(∀s∈S',0<=s/\s<(k+n:ah))/\S'.Nodup/\
  lW (tg1 4) rb1 ((r_ k n).map λ(j:ah)=>δ (0+(j:ai))) [a0,a1,.int seed,.lst (S.map δ),x4,a5,a6]=.ok (.nx [a0,a1,.int seed,.lst (S'.map δ),y4,a5,a6])
 |0,k,S,x4,h1,h2,h3,_=>⟨S,x4,h1,by simpa using h2,h3,rfl⟩
 |n+1,k,S,x4,h1,h2,h3,hl=>by
  rw[xa,bw];generalize hkk:(0+(k:ai))=kk;have hkk':kk=(k:ai):=by lia
  have hsq:kk*kk<=10000*10000:=AV (by lia) (by lia) (by lia) (by lia);have hsq0:0<=kk*kk:=w_ (by lia) (by lia);have g1:=dF kk 1;have g2:=eQ seed (kk+1) (by lia) (by lia);have g3:=aB1 kk kk (l_ _ (by lia) (by lia));have g4:=dF (seed / (kk+1)) (kk*kk);have g5:=dJ (seed / (kk+1)+kk*kk) (kk+1) (by lia);generalize hj:(seed / (kk+1)+kk*kk) % (kk+1)=j at g5;have j0:0<=j:=by rw[<-hj];exact eM _ (by lia)
  have j1:j<kk+1:=by rw[<-hj];exact gi _ (by lia)
  have hperm:(S.take j.toNat++kk::S.drop j.toNat).Perm (kk::S):=by
   refine sB.trans ?_;rw[jd]
  obtain⟨S',y4,i1,i2,i3,i4⟩:=D_ (a0:=a0) (a1:=a1) (a5:=a5) (a6:=a6) (seed:=seed) n (k+1) (S.take j.toNat++kk::S.drop j.toNat) (.int kk) (by rw[hperm.length_eq,cr,h1]) (λs hs=>by
   rcases bX.mp (hperm.mem_iff.mp hs) with rfl|hs
   ·lia
   ·have:=h2 s hs;lia) (hperm.nodup_iff.mpr (eR.mpr ⟨λz=>by have:=h2 _ z;lia,h3⟩)) (by lia)
  refine⟨S',y4,by lia,λs hs=>by have:=i2 s hs;lia,i3,?_⟩;refine bZ (ρ1:=[a0,a1,.int seed,.lst (S.map δ),.int kk,a5,a6]) rfl (aK7 (xs:=S.map δ) (aJ (aJ (aJ rfl (aJ rfl rfl g1) g2) (aJ rfl rfl g3) g4) (aJ rfl rfl g1) g5) rfl rfl (by rw[bp,bT];lia) rfl j0 (by rw[bp];lia)) ?_;rw[<-i4];have:(S.map δ).take j.toNat++δ kk::(S.map δ).drop j.toNat=(S.take j.toNat++kk::S.drop j.toNat).map δ:=by simp
  rw[<-this];rfl
noncomputable def rim(s:ai):Pt:=(0,s)
theorem zE(T:aa Tie)(t:Tie):ends (T++[t])=ends T++[t.1,t.2]:=by simp[ends]
theorem aKx{bare seed:ai}{a6:D}{L:aa Pt}{S:aa ai}(hL:∀p∈L,0<p.1):∀(n k:ah)(T:aa Tie)(x4:D),L.length=k+n->k+n<=S.length->T.length+n<=10000->∃(T':aa Tie)(y4:D),(ends T').Perm (ends T++(L.drop k++((S.drop k).take n).map rim))/\(∀t∈T',t∈T\/ltP t.1 t.2)/\T'.length=T.length+n/\
  lW (tg1 4) rb2 ((r_ k n).map λ(j:ah)=>δ (0+(j:ai))) [.lst (L.map enP),.int bare,.int seed,.lst (S.map δ),x4,.lst (T.map bB),a6]=.ok (.nx [.lst (L.map enP),.int bare,.int seed,.lst (S.map δ),y4,.lst (T'.map bB),a6])
 |0,k,T,x4,h1,_,_=>⟨T,x4,by rw[oh (by lia)];simp,λt ht=>.inl ht,rfl,rfl⟩
 |n+1,k,T,x4,h1,h2,h3=>by
  have hk1:k<L.length:=by lia
  have hk2:k<S.length:=by lia
  have e1:getD (.lst (S.map δ)) (.int (0+(k:ai)))=.ok (.int S[k]):=by
   obtain⟨h,e⟩:=IW (S.map δ) (0+(k:ai)) (by lia) (by rw[bp];lia);rw[e];simp
  have e2:getD (.lst (L.map enP)) (.int (0+(k:ai)))=.ok (enP L[k]):=by
   obtain⟨h,e⟩:=IW (L.map enP) (0+(k:ai)) (by lia) (by rw[bp];lia);rw[e];simp
  have hpos:=hL L[k] (jc _);obtain⟨T',y4,i1,i2,i3,i4⟩:=aKx (bare:=bare) (seed:=seed) (a6:=a6) (S:=S) hL n (k+1) (T++[(rim S[k],L[k])]) (.int (0+(k:ai))) (by lia) (by lia) (by simp;lia);refine⟨T',y4,?_,λt ht=>?_,by rw[i3];simp;lia,?_⟩
  ·refine i1.trans ?_;rw[zE,eh];refine sC _ ?_;rw[gq hk1,gq hk2,List.take_succ_cons,bw];show(rim S[k]::L[k]::(L.drop (k+1)++((S.drop (k+1)).take n).map rim)).Perm (L[k]::(L.drop (k+1)++rim S[k]::((S.drop (k+1)).take n).map rim));exact(List.Perm.swap ..).trans (BI _ sB.symm)
  ·rcases i2 t ht with h|h
   ·rcases eJ.mp h with h|h
    ·exact .inl h
    ·have:t=(rim S[k],L[k]):=by simpa using h
     subst this;exact .inr (.inl hpos)
   ·exact .inr h
  ·rw[xa,bw];refine bZ rfl (yO (g_ (aD (g_ (aD rfl (aD (aJ rfl rfl e1) rfl)) (by rw[bT];simp)) (aD (aJ rfl rfl e2) rfl)) (by rw[bT];simp)) rfl (by rw[bp,bT];lia) rfl) ?_;rw[<-i4,dv];rfl
theorem O6{a:FE}{l h:aa D->Res (ay ai)}{ρ:aa D}{x:D}{i j:ay ai}{d:D}(h1:a ρ=.ok x)(h2:l ρ=.ok i)(h3:h ρ=.ok j)(h4:J9 x i j=.ok d):YW a l h ρ=.ok d:=by
 unfold YW;rw[h1,τ,h2,τ,h3,τ,h4]
theorem fK{a:FE}{ρ:aa D}{i:ai}(h1:a ρ=.ok (.int i)):jJ a ρ=.ok (ae i):=by
 unfold jJ;rw[h1,τ];rfl
theorem aKy(o:iJ)(a b:ai)(r:ai->ai->Prop)[∀x y,oj (r x y)](h:∀x y,jF o (.int x) (.int y)=ae (ϒ (r x y))):fL o [.lst [.int a,.int b]]=.ok (.int (if r b a then b else a)):=by
 show p_ o [.int a,.int b]=_;have hall:([δ a,δ b].all λx=>x.fY aR&&[δ a,δ b].all λy=>(jF o x y).isSome)=af:=by
  simp only[hI,AW,h,vf,vz];rfl
 rw[p_,av hall];simp only[oq,AX,h,mM];by_cases hr:r b a
 ·simp[hr]
 ·simp[hr]
theorem aKz{bare seed:ai}{L:aa Pt}{S:aa ai}(hS:S.Nodup)(hb:S.length<=10000):∀(n k:ah)(T:aa Tie)(x4 x6:D),L.length+2*(k+n)=S.length->T.length+n<=10000->∃(T':aa Tie)(y4 y6:D),(ends T').Perm (ends T++(S.drop (L.length+2*k)).map rim)/\(∀t∈T',t∈T\/ltP t.1 t.2)/\T'.length=T.length+n/\
  lW (tg1 4) rb3 ((r_ k n).map λ(j:ah)=>δ (0+(j:ai))) [.lst (L.map enP),.int bare,.int seed,.lst (S.map δ),x4,.lst (T.map bB),x6]=.ok (.nx [.lst (L.map enP),.int bare,.int seed,.lst (S.map δ),y4,.lst (T'.map bB),y6])
 |0,k,T,x4,x6,h1,_=>⟨T,x4,x6,by rw[oh (by lia)];simp,λt ht=>.inl ht,rfl,rfl⟩
 |n+1,k,T,x4,x6,h1,h3=>by
  have hi:L.length+2*k<S.length:=by lia
  have hi2:L.length+2*k+1<S.length:=by lia
  have hd:S.drop (L.length+2*k)=S[L.length+2*k]::S[L.length+2*k+1]::S.drop (L.length+2*(k+1)):=by
   rw[gq hi,gq hi2];rfl
  generalize ha:S[L.length+2*k]=a at hd;generalize hb':S[L.length+2*k+1]=b at hd;have hab:a≠b:=by
   have:=(List.drop_sublist (L.length+2*k) S).nodup hS;rw[hd,eR] at this;intro z;subst z;exact this.1 (cu ..)
  have lL:gJ [.lst (L.map enP)]=.ok (.int L.length):=by rw[uI,bp]
  generalize hkk:(0+(k:ai))=kk;have m2:=I_ 2 kk (l_ _ (by lia) (by lia));have a1:=dF L.length (2*kk);have a2:=dF (L.length+2*kk) 2;have sl:J9 (.lst (S.map δ)) (ae (L.length+2*kk)) (ae (L.length+2*kk+2))=.ok (.lst [.int a,.int b]):=by
   simp only[J9,vJ,cw]
   congr 2
   have e1:zU (S.map δ).length 0 (ae ((L.length:ai)+2*kk))=L.length+2*k:=by
    simp only[zU,bp];rw[az (by lia)];lia
   have e2:zU (S.map δ).length (S.map δ).length (ae ((L.length:ai)+2*kk+2))=L.length+2*k+2:=by
    simp only[zU,bp];rw[az (by lia)];lia
   unfold cutD;rw[e1,e2,<-Ar,hd,show L.length+2*k+2-(L.length+2*k)=2 by lia];rfl
  have mn:=aKy .lt a b (λx y=>x<y) λx y=>rfl
  have mx:=aKy .gt a b (λx y=>y<x) λx y=>rfl
  have main:∃u v:ai,(u=a/\v=b\/u=b/\v=a)/\u<v/\fL .lt [.lst [.int a,.int b]]=.ok (.int u)/\fL .gt [.lst [.int a,.int b]]=.ok (.int v):=by
   by_cases hlt:b<a
   ·rw[av hlt] at mn;rw[az (by lia)] at mx;exact⟨b,a,.inr ⟨rfl,rfl⟩,hlt,mn,mx⟩
   ·rw[az hlt] at mn;rw[av (by lia)] at mx;exact⟨a,b,.inl ⟨rfl,rfl⟩,by lia,mn,mx⟩
  obtain⟨u,v,huv,hlt,mn,mx⟩:=main;obtain⟨T',y4,y6,i1,i2,i3,i4⟩:=aKz (bare:=bare) (seed:=seed) (L:=L) hS hb n (k+1) (T++[(rim u,rim v)]) (.int kk) (.lst [.int a,.int b]) (by lia) (by simp;lia);refine⟨T',y4,y6,?_,λt ht=>?_,by rw[i3];simp;lia,?_⟩
  ·refine i1.trans ?_;rw[zE,eh];refine sC _ ?_;rw[hd];rcases huv with ⟨rfl,rfl⟩|⟨rfl,rfl⟩
   ·exact xb _
   ·exact List.Perm.swap ..
  ·rcases i2 t ht with h|h
   ·rcases eJ.mp h with h|h
    ·exact .inl h
    ·have:t=(rim u,rim v):=by simpa using h
     subst this;exact .inr (.inr ⟨rfl,hlt⟩)
   ·exact .inr h
  ·rw[xa,bw,hkk];refine bZ rfl (aK (bN (O6 rfl (fK (aJ (aM (aD rfl rfl) lL) (aJ rfl rfl m2) a1)) (fK (aJ (aJ (aM (aD rfl rfl) lL) (aJ rfl rfl m2) a1) rfl a2)) sl)) (yO (g_ (aD (g_ (aD rfl (aD (aM (aD rfl rfl) mn) rfl)) (by rw[bT];simp)) (aD (g_ (aD rfl (aD (aM (aD rfl rfl) mx) rfl)) (by rw[bT];simp)) rfl)) (by rw[bT];simp)) rfl (by rw[bp,bT];lia) rfl)) ?_;rw[<-i4,dv];rfl
theorem aBv(L:aa Pt)(bare:ah)(seed:ai)(hL:∀p∈L,0<p.1)(hl:L.length+2*bare<=5000):∃(R:aa Tie)(S:aa ai),S.Nodup/\(∀s∈S,0<=s/\s<S.length)/\(ends R).Perm (L++S.map rim)/\(∀t∈R,ltP t.1 t.2)/\R.length=L.length+bare/\gU [.lst (L.map enP),.int bare,.int seed]=.ok (.lst (R.map bB)):=by
 have lL:gJ [.lst (L.map enP)]=.ok (.int L.length):=by rw[uI,bp]
 have m2:=I_ 2 (bare:ai) (l_ _ (by lia) (by lia));have a1:=dF L.length (2*(bare:ai));obtain⟨S,y4,s1,s2,s3,s4⟩:=D_ (a0:=.lst (L.map enP)) (a1:=.int bare) (a5:=.uD) (a6:=.uD) (seed:=seed) (L.length+2*bare) 0 [] .uD rfl (by simp) hZ (by lia);obtain⟨T1,z4,t1,t2,t3,t4⟩:=aKx (bare:=bare) (seed:=seed) (a6:=.uD) (L:=L) (S:=S) hL L.length 0 [] y4 (by lia) (by lia) (by simp;lia);obtain⟨T2,w4,w6,u1,u2,u3,u4⟩:=aKz (bare:=bare) (seed:=seed) (L:=L) (S:=S) s3 (by lia) bare 0 T1 z4 .uD (by lia) (by rw[t3];simp;lia);refine⟨T2,S,s3,λs hs=>by have:=s2 s hs;lia,?_,λt ht=>?_,by rw[u3,t3];simp,?_⟩
 ·refine u1.trans ?_;have t1':(ends T1).Perm (L++(S.take L.length).map rim):=by simpa[ends] using t1
  refine(t1'.append_right _).trans ?_;rw[eh,<-dv];simp only[Nat.mul_zero,vn];rw[jd]
 ·rcases u2 t ht with h|h
  ·rcases t2 t h with h|h
   ·cases h
   ·exact h
  ·exact h
 ·have e:mG [.lst (L.map enP),.int bare,.int seed,.uD,.uD,.uD,.uD]=.ok (.rt (.lst (T2.map bB))):=by
   refine aK (eO rfl rfl) ?_;refine aK (ρ':=[.lst (L.map enP),.int bare,.int seed,.lst (S.map δ),y4,.uD,.uD]) (nQ (C_ (n:=L.length+2*(bare:ai)) (aD (aJ (aM (aD rfl rfl) lL) (aJ rfl rfl m2) a1) rfl) (by lia) (by lia)) ?_) ?_
   ·rw[<-s4,show((L.length:ai)+2*(bare:ai)).toNat=L.length+2*bare by lia,xf];rfl
   refine aK (eO rfl rfl) ?_;refine aK (ρ':=[.lst (L.map enP),.int bare,.int seed,.lst (S.map δ),z4,.lst (T1.map bB),.uD]) (nQ (C_ (n:=L.length) (aD (aM (aD rfl rfl) lL) rfl) (by lia) (by lia)) ?_) ?_
   ·rw[<-t4,show((L.length:ai)).toNat=L.length by lia,xf];rfl
   refine aK (ρ':=[.lst (L.map enP),.int bare,.int seed,.lst (S.map δ),w4,.lst (T2.map bB),w6]) (nQ (C_ (n:=bare) (aD rfl rfl) (by lia) (by lia)) ?_) ?_
   ·rw[<-u4,show((bare:ai)).toNat=bare by lia,xf];rfl
   rfl
  show(do let r <- mG _;aDa r)=_;rw[show([ξ (L.map enP),δ bare,δ seed]++ck (7-3) D.uD)=[.lst (L.map enP),.int bare,.int seed,.uD,.uD,.uD,.uD] from rfl,e];rfl
def gbr:FS:=(sIf (T8 (bTB (b2 (b8 (.ord .lt)) (b2 (aQ .mod) gH GZ) aIe)) (bTB (b2 (b8 (.ord .lt)) (aL gJ (aB iM aO)) jY))) (bI (b_ ag 8 (b2 (aQ .add) (b2 (aQ .add) iT dG) (b2 (aQ .mod) (b2 (aQ .fdiv) mW (aL gJ (aB cJ aO))) d_)) af) (bI (lJ 5 (cL (aB iT (aB (b2 getD cJ (b2 (aQ .mod) mW (aL gJ (aB cJ aO)))) aO)))) (b_ ag 6 (b2 (aQ .add) lO (dN 14 (vA (aB (b2 (aQ .add) (b2 getD cH (b2 getD cJ (b2 (aQ .mod) mW (aL gJ (aB cJ aO))))) dG) aO) uB) uU jA (cL (aB iT (aB gY aO))) ag)) af))) (sIf (T8 (bTB (bCh (b8 (.ord .le)) (b8 (.ord .lt)) aIe (b2 (aQ .mod) gH GZ) aJp)) (bTB (b2 (b8 (.ord .gt)) (aL gJ (aB x_ aO)) dG))) (bI (lJ 7 (aL (cF 2 eZ) (aB x_ (aB mW aO)))) (b_ ag 6 (dN 14 (fZ lO ag) uU (bTB (b2 (b8 .notin) gY (b2 getD zV (b1 YT dG)))) gY ag) af)) (sIf (bTB (b2 (b8 .eq) (b2 (aQ .mod) gH GZ) aJp)) (b_ ag 9 (b2 (aQ .add) o9 dG) af) (sIf (bTB (b2 (b8 .eq) (b2 (aQ .mod) gH GZ) zX)) (b_ ag 10 (b2 (aQ .add) wC (b2 (aQ .mod) mW (b2 (aQ .pow) jY zZ))) af) jM))))
def aBw:FS:=(bI (b_ ag 12 (b2 (aQ .fdiv) gH GZ) af) (bI (sAl 13 6) (bI (sIf (bTB (b2 (b8 .eq) (b2 (aQ .mod) gH GZ) aIc)) (b_ ag 13 (dN 14 (fZ lO ag) uU (bTB (b2 (b8 .eq) (b2 getD gY dG) cQ)) gY ag) af) jM) gbr)))
def vOf(kvs:aa (D×D))(s:Str):ah:=match bR kvs (.str s) with
 |some (.int v)=>v.toNat
 |_=>0
theorem V4{kvs:aa (D×D)}{s:Str}{v:ah}(h:bR kvs (.str s)=ae (.int v)):vOf kvs s=v:=by
 unfold vOf;rw[h];rfl
def aL0(kvs:aa (D×D))(pc:Pc):aa Pt:=(eu (vOf kvs pc.2+1)).map λ(h:ah)=>((pc.1,(h:ai)):Pt)
def hks(kvs:aa (D×D))(Q:aa Pc):aa Pt:=Q.flatMap (aL0 kvs)
structure Gr(kvs:aa (D×D))(Q:aa Pc)(L:aa Pt)(T:aa Tie)(num:ai):Prop where
 nd:(ends T++L).Nodup
 qn:(Q.map (·.1)).Nodup
 qb:∀pc∈Q,0<pc.1/\pc.1<=num
 n0:0<=num
 chf:∀pc∈Q,(pc.1,(0:ai))∈ends T++L
 num:∀e∈ends T++L,e.1∈Q.map (·.1)
 lt:∀t∈T,ltP t.1 t.2
 ll:L.length<=7*Q.length
 ql:Q.length<=10
 qs:Q.Pairwise λa b=>a.1<b.1
 pm:(ends T++L).Perm (hks kvs Q)
 sk:∀pc∈Q,∃v:ah,v<=6/\bR kvs (.str pc.2)=ae (.int v)
theorem Gr.perm{kvs:aa (D×D)}{Q:aa Pc}{L L':aa Pt}{T T':aa Tie}{num:ai}(g:Gr kvs Q L T num)(p:(ends T'++L').Perm (ends T++L))(hlt:∀t∈T',ltP t.1 t.2)(hl:L'.length<=L.length):Gr kvs Q L' T' num:=
 ⟨p.nodup_iff.mpr g.nd,g.qn,g.qb,g.n0,λpc h=>p.mem_iff.mpr (g.chf pc h),λe h=>g.num e (p.mem_iff.mp h),hlt,du hl g.ll,g.ql,g.qs,p.trans g.pm,g.sk⟩
theorem Gr.ln{kvs:aa (D×D)}{Q:aa Pc}{L:aa Pt}{T:aa Tie}{num:ai}(g:Gr kvs Q L T num):L.Nodup:=(jt.mp g.nd).2.1
theorem Gr.tie{kvs:aa (D×D)}{Q:aa Pc}{L:aa Pt}{T:aa Tie}{num:ai}(g:Gr kvs Q L T num){a b:Pt}(ha:a∈L)(hb:b∈L)(h:ltP a b):Gr kvs Q (L.filter λx=>!(ϒ (a=x)||ϒ (b=x))) (T++[(a,b)]) num:=by
 have hab:a≠b:=λz=>by subst z;simp only[ltP] at h;lia
 have split:∀{L:aa Pt},L.Nodup->a∈L->b∈L->(a::b::L.filter λx=>!(ϒ (a=x)||ϒ (b=x))).Perm L:=by
  intro L hn ha hb;refine(List.perm_iff_count).mpr λx=>?_
  rw[AY,AY];have hc:∀{M:aa Pt}(y:Pt),M.Nodup->List.count y M=if y∈M then 1 else 0:=λ{M} y hm=>BM hm
  rw[hc x hn,hc x (w8.nodup hn)];simp only[gL,ko,Bool.or_eq_false_iff,ow,iu];by_cases h1:a=x
  ·subst h1;have:¬b=a:=λz=>hab z.symm
   simp[ha,this]
  ·by_cases h2:b=x
   ·subst h2;simp[hb,h1]
   ·simp[h1,h2]
 refine g.perm ?_ (λt ht=>?_) (yt ..)
 ·rw[zE,eh];exact sC _ (split g.ln ha hb)
 ·rcases eJ.mp ht with ht|ht
  ·exact g.lt t ht
  ·have:t=(a,b):=by simpa using ht
   subst this;exact h
theorem Gr.piece{kvs:aa (D×D)}{Q:aa Pc}{L:aa Pt}{T:aa Tie}{num:ai}(g:Gr kvs Q L T num){n:ai}{s:Str}{v:ah}(hn:num<n)(hv:v<=6)(hlk:bR kvs (.str s)=ae (.int v))(hq:Q.length<10):Gr kvs (Q++[(n,s)]) (L++(eu (v+1)).map λ(h:ah)=>((n,(h:ai)):Pt)) T n:=by
 have old:∀e∈ends T++L,e.1<=num:=λe he=>by
  obtain⟨pc,h1,h2⟩:=cS.mp (g.num e he);have:=g.qb pc h1;lia
 have newm:∀e∈(eu (v+1)).map (λ(h:ah)=>((n,(h:ai)):Pt)),e.1=n:=λe he=>by
  obtain⟨h,_,rfl⟩:=cS.mp he;rfl
 refine⟨?_,?_,λpc h=>?_,by have:=g.n0;lia,λpc h=>?_,λe he=>?_,g.lt,?_,by simp;lia,List.pairwise_append.mpr ⟨g.qs,by simp,λa ha b hb=>by have:=g.qb a ha;rw[show b=(n,s) from by simpa using hb];show a.1<n;lia⟩,?_,λpc h=>?_⟩
 ·rw[<-eh];refine jt.mpr ⟨g.nd,?_,λa ha b hb z=>?_⟩
  ·refine xg _ ?_ List.nodup_range;intro a b hab z;have:(a:ai)=b:=di AZ z;lia
  ·subst z;have:=old a ha;rw[newm a hb] at this;lia
 ·rw[dv];refine jt.mpr ⟨g.qn,by simp,λa ha b hb z=>?_⟩;subst z;obtain⟨pc,h1,h2⟩:=cS.mp ha;have:=g.qb pc h1;have:a=n:=by simpa using hb
  lia
 ·rcases eJ.mp h with h|h
  ·have:=g.qb pc h;lia
  ·have:pc=(n,s):=by simpa using h
   subst this;have:=g.n0;show 0<n/\n<=n;lia
 ·rw[<-eh];rcases eJ.mp h with h|h
  ·exact lP _ (g.chf pc h)
  ·have:pc=(n,s):=by simpa using h
   subst this;exact eT _ (cS.mpr ⟨0,by simp,rfl⟩)
 ·rw[<-eh] at he;rw[dv];rcases eJ.mp he with he|he
  ·exact lP _ (g.num e he)
  ·rw[newm e he];exact eT _ (by simp)
 ·have:=g.ll;simp;lia
 ·rw[<-eh];have e:hks kvs (Q++[(n,s)])=hks kvs Q++(eu (v+1)).map λ(h:ah)=>((n,(h:ai)):Pt):=by
   simp only[hks,List.flatMap_append,xh,List.flatMap_nil,fS,aL0,V4 hlk]
  rw[e];exact g.pm.append_right _
 ·rcases eJ.mp h with h|h
  ·exact g.sk pc h
  ·have:pc=(n,s):=by simpa using h
   subst this;exact⟨v,hv,hlk⟩
section
variable {kvs:aa (D×D)} {cells:D} {seed far:ai} {NS:aa Str}
@[reducible] noncomputable def St(kvs:aa (D×D))(cells:D)(seed:ai)(NS:aa Str)(far:ai)(Q:aa Pc)(L:aa Pt)(T:aa Tie)(num bare rings:ai)(c m sm:D):aa D:=
 [.dct kvs,cells,.int seed,.lst (NS.map ι),.int far,.lst (Q.map pcD),.lst (L.map enP),.lst (T.map bB),.int num,.int bare,.int rings,c,m,sm]
theorem aL1{Q:aa Pc}{L:aa Pt}{T:aa Tie}{num bare rings c:ai}{m sm:D}(hl:L.length<=10000):∃SM:aa Pt,SM.Sublist L/\∀r,gbr (St kvs cells seed NS far Q L T num bare rings (.int c) (.int (c / 8)) (.lst (SM.map enP)))=r->aBw (St kvs cells seed NS far Q L T num bare rings (.int c) m sm)=r:=by
 have f8:=eQ c 8 (by decide) (by decide);have m8:=dJ c 8 (by decide);have ce:b8 .eq (.int (c % 8)) (.int 5)=.ok (.bl (c % 8==5)):=rfl;have s1:b_ ag 12 (b2 (aQ .fdiv) gH GZ) af (St kvs cells seed NS far Q L T num bare rings (.int c) m sm)=.ok (.nx (St kvs cells seed NS far Q L T num bare rings (.int c) (.int (c / 8)) sm)):=bN (aJ rfl rfl f8);have s2:sAl 13 6 (St kvs cells seed NS far Q L T num bare rings (.int c) (.int (c / 8)) sm)=.ok (.nx (St kvs cells seed NS far Q L T num bare rings (.int c) (.int (c / 8)) (.lst (L.map enP)))):=aMk rfl;have tc:bTB (b2 (b8 .eq) (b2 (aQ .mod) gH GZ) aIc) (St kvs cells seed NS far Q L T num bare rings (.int c) (.int (c / 8)) (.lst (L.map enP)))=.ok (c % 8==5):=dR (aJ (aJ rfl rfl m8) rfl ce);unfold aBw;cases h:(c % 8==5) with
 |true=>
  rw[h] at tc;refine⟨L.filter λx=>x.2==0,w8,λr hr=>?_⟩;have cf:dN 14 (fZ lO ag) uU (bTB (b2 (b8 .eq) (b2 getD gY dG) cQ)) gY ag (St kvs cells seed NS far Q L T num bare rings (.int c) (.int (c / 8)) (.lst (L.map enP)))=.ok (.lst ((L.filter λx=>x.2==0).map enP)):=by
   refine j6 (jC rfl rfl) (by rw[bp,bT];lia) ?_;rw[eX _ enP (λx=>x.2==0) enP]
   ·rfl
   ·intro acc p;have e1:b2 getD gY dG (St kvs cells seed NS far Q L T num bare rings (.int c) (.int (c / 8)) (.lst (L.map enP))++[enP p])=.ok (.int p.2):=aJ (x:=enP p) (y:=.int 1) rfl rfl rfl;have e2:b8 .eq (.int p.2) (.int 0)=.ok (.bl (p.2==0)):=rfl;exact nR (ρ:=St kvs cells seed NS far Q L T num bare rings (.int c) (.int (c / 8)) (.lst (L.map enP))) rfl (dR (aJ e1 rfl e2)) λ_=>⟨rfl,rfl⟩
  have s3:sIf (bTB (b2 (b8 .eq) (b2 (aQ .mod) gH GZ) aIc)) (b_ ag 13 (dN 14 (fZ lO ag) uU (bTB (b2 (b8 .eq) (b2 getD gY dG) cQ)) gY ag) af) jM (St kvs cells seed NS far Q L T num bare rings (.int c) (.int (c / 8)) (.lst (L.map enP)))=.ok (.nx (St kvs cells seed NS far Q L T num bare rings (.int c) (.int (c / 8)) (.lst ((L.filter λx=>x.2==0).map enP)))):=RZ tc (bN cf);exact aK s1 (aK s2 (aK s3 hr))
 |false=>
  rw[h] at tc;refine⟨L,BN _,λr hr=>?_⟩;exact aK s1 (aK s2 (aK (wF tc rfl) hr))
theorem lM(NS:aa Str)(i:ai)(h0:0<=i)(h1:i<NS.length):∃s∈NS,getD (.lst (NS.map ι)) (.int i)=.ok (.str s):=by
 obtain⟨h,e⟩:=IW (NS.map ι) i h0 (by simpa using h1);rw[bp] at h;refine⟨NS[i.toNat],jc _,?_⟩;rw[e];simp
theorem O7{s:Str}:∀{kvs:aa (D×D)},bO kvs->ι s∈fG kvs->∃v:ah,v<=6/\bR kvs (.str s)=ae (.int v)
 |[],_,hm=>by cases hm
 |p::r,h,hm=>by
  obtain⟨s',v,rfl,h0,h1⟩:=h _ (cu ..);rw[bR];by_cases e:eqD (.str s') (.str s)=af
  ·rw[av e];exact⟨v.toNat,by lia,by congr 2;lia⟩
  ·rw[az e];refine O7 (λp hp=>h p (b6 _ hp)) ?_;rcases bX.mp (show ι s∈ι s'::fG r from hm) with z|z
   ·cases z;exact bb (by simp[eqD]) e
   ·exact z
theorem aOc(Q:aa Pc):gJ [.lst (Q.map pcD)]=.ok (.int Q.length):=by rw[uI,bp]
theorem aMw(Q:aa Str):gJ [.lst (Q.map ι)]=.ok (.int Q.length):=by rw[uI,bp]
theorem aOd(Q:aa Pt):gJ [.lst (Q.map enP)]=.ok (.int Q.length):=by rw[uI,bp]
theorem aHu(hfar:0<far)(hst:bO kvs)(hNS:fG kvs=NS.map ι)(hne:NS≠[])(hNl:NS.length<=1000){Q:aa Pc}{L:aa Pt}{T:aa Tie}{num rings c:ai}{bare:ah}{m sm:D}(g:Gr kvs Q L T num)(hT:T.length<=1000)(hb:bare<=1000)(hr:0<=rings) :
  ∃(Q':aa Pc)(L':aa Pt)(T':aa Tie)(num' rings':ai)(bare':ah)(m' sm':D),Gr kvs Q' L' T' num'/\0<=rings'/\T'.length<=T.length+1/\bare'<=bare+1/\aBw (St kvs cells seed NS far Q L T num bare rings (.int c) m sm)=.ok (.nx (St kvs cells seed NS far Q' L' T' num' bare' rings' (.int c) m' sm')):=by
 have hll:=g.ll;have hql:=g.ql;obtain⟨SM,hSM,pre⟩:=aL1 (kvs:=kvs) (cells:=cells) (seed:=seed) (far:=far) (NS:=NS) (Q:=Q) (L:=L) (T:=T) (num:=num) (bare:=bare) (rings:=rings) (c:=c) (m:=m) (sm:=sm) (by lia);have m8:=dJ c 8 (by decide);have c4:b8 (.ord .lt) (.int (c % 8)) (.int 4)=.ok (.bl (ϒ (c % 8<4))):=rfl;have c60:b8 (.ord .lt) (.int Q.length) (.int 10)=.ok (.bl (ϒ ((Q.length:ai)<10))):=rfl;have c46:b8 (.ord .le) (.int 4) (.int (c % 8))=.ok (.bl (ϒ (4<=c % 8))):=rfl;have c66:b8 (.ord .lt) (.int (c % 8)) (.int 6)=.ok (.bl (ϒ (c % 8<6))):=rfl;have c1:b8 (.ord .gt) (.int SM.length) (.int 1)=.ok (.bl (ϒ ((1:ai)<SM.length))):=rfl;have e6:b8 .eq (.int (c % 8)) (.int 6)=.ok (.bl (c % 8==6)):=rfl;have e7:b8 .eq (.int (c % 8)) (.int 7)=.ok (.bl (c % 8==7)):=rfl;have hNp:(0:ai)<(NS.length:ai):=by
  cases NS with
  |nil=>exact bb rfl hne
  |cons _ _=>simp
 -- the first test
 have t1:∀b,b=(ϒ (c % 8<4)&&ϒ ((Q.length:ai)<10))->T8 (bTB (b2 (b8 (.ord .lt)) (b2 (aQ .mod) gH GZ) aIe)) (bTB (b2 (b8 (.ord .lt)) (aL gJ (aB iM aO)) jY)) (St kvs cells seed NS far Q L T num bare rings (.int c) (.int (c / 8)) (.lst (SM.map enP)))=.ok b:=by
  rintro b rfl;cases h1:ϒ (c % 8<4) with
  |true=>rw[h1] at c4;exact XQ (dR (aJ (aJ rfl rfl m8) rfl c4)) (dR (aJ (aM (aD rfl rfl) (aOc Q)) rfl c60))
  |false=>rw[h1] at c4;exact aAy (dR (aJ (aJ rfl rfl m8) rfl c4))
 have t2:∀b,b=(ϒ (4<=c % 8)&&ϒ (c % 8<6)&&ϒ ((1:ai)<SM.length))->T8 (bTB (bCh (b8 (.ord .le)) (b8 (.ord .lt)) aIe (b2 (aQ .mod) gH GZ) aJp)) (bTB (b2 (b8 (.ord .gt)) (aL gJ (aB x_ aO)) dG)) (St kvs cells seed NS far Q L T num bare rings (.int c) (.int (c / 8)) (.lst (SM.map enP)))=.ok b:=by
  rintro b rfl;cases h1:ϒ (4<=c % 8) with
  |false=>rw[h1] at c46;exact aAy (dR (aMl rfl (aJ rfl rfl m8) c46))
  |true=>
   rw[h1] at c46;cases h2:ϒ (c % 8<6) with
   |false=>rw[h2] at c66;exact aAy (dR (aLl rfl (aJ rfl rfl m8) c46 rfl c66))
   |true=>rw[h2] at c66;exact XQ (dR (aLl rfl (aJ rfl rfl m8) c46 rfl c66)) (dR (aJ (aM (aD rfl rfl) (aOd SM)) rfl c1))
 have fin:∀{r:Res Fl},gbr (St kvs cells seed NS far Q L T num bare rings (.int c) (.int (c / 8)) (.lst (SM.map enP)))=r->aBw (St kvs cells seed NS far Q L T num bare rings (.int c) m sm)=r:=λ{r} h=>pre r h
 cases hA:(ϒ (c % 8<4)&&ϒ ((Q.length:ai)<10)) with
 |true=>
  rw[bj,eD,eD] at hA;have T1:=t1 af (by rw[cK hA.1,cK hA.2];rfl);have gm:=dJ (c / 8) NS.length hNp;obtain⟨s,hs,es⟩:=lM NS (c / 8 % NS.length) (eM _ (by lia)) (gi _ hNp);obtain⟨v,hv,ev⟩:=O7 (s:=s) hst (by rw[hNS];exact cS.mpr ⟨s,hs,rfl⟩);have gs:getD (.dct kvs) (.str s)=.ok (.int v):=by
   show(if keyOk (.str s) then μ (bR kvs (.str s)) else .bad)=_;rw[ev];rfl
  have f1:=eQ (c / 8) NS.length hNp (by lia);have f3:=dJ (c / 8 / NS.length) far hfar;have f4:=dF num 1;have f5:=dF (num+1) (c / 8 / NS.length % far);have h9:0<=c / 8 / NS.length % far:=eM _ (by lia);generalize hn:num+1+c / 8 / NS.length % far=n at f5;have G:=g.piece (n:=n) (s:=s) (v:=v) (by lia) hv ev (by lia);refine⟨_,_,T,n,rings,bare,.int (c / 8),.lst (SM.map enP),G,hr,by lia,by lia,fin ?_⟩;have s1:b_ ag 8 (b2 (aQ .add) (b2 (aQ .add) iT dG) (b2 (aQ .mod) (b2 (aQ .fdiv) mW (aL gJ (aB cJ aO))) d_)) af (St kvs cells seed NS far Q L T num bare rings (.int c) (.int (c / 8)) (.lst (SM.map enP)))=.ok (.nx (St kvs cells seed NS far Q L T n bare rings (.int c) (.int (c / 8)) (.lst (SM.map enP)))):=
   bN (aJ (aJ rfl rfl f4) (aJ (aJ rfl (aM (aD rfl rfl) (aMw NS)) f1) rfl f3) f5)
  have s2:lJ 5 (cL (aB iT (aB (b2 getD cJ (b2 (aQ .mod) mW (aL gJ (aB cJ aO)))) aO))) (St kvs cells seed NS far Q L T n bare rings (.int c) (.int (c / 8)) (.lst (SM.map enP)))=.ok (.nx (St kvs cells seed NS far (Q++[(n,s)]) L T n bare rings (.int c) (.int (c / 8)) (.lst (SM.map enP)))):=by
   have d0:cL (aB iT (aB (b2 getD cJ (b2 (aQ .mod) mW (aL gJ (aB cJ aO)))) aO)) (St kvs cells seed NS far Q L T n bare rings (.int c) (.int (c / 8)) (.lst (SM.map enP)))=.ok (.tup [.int n,.str s]):=g_ (aD rfl (aD (aJ rfl (aJ rfl (aM (aD rfl rfl) (aMw NS)) gm) es) rfl)) (by rw[bT];simp);refine(yO (ρ:=St kvs cells seed NS far Q L T n bare rings (.int c) (.int (c / 8)) (.lst (SM.map enP))) d0 rfl (by rw[bp,bT];lia) rfl).trans ?_;show _=ε (Fl.nx [.dct kvs,cells,.int seed,.lst (NS.map ι),.int far,.lst ((Q++[(n,s)]).map pcD),.lst (L.map enP),.lst (T.map bB),.int n,.int bare,.int rings,.int c,.int (c / 8),.lst (SM.map enP)]);rw[dv];rfl
  have cf:dN 14 (vA (aB (b2 (aQ .add) (b2 getD cH (b2 getD cJ (b2 (aQ .mod) mW (aL gJ (aB cJ aO))))) dG) aO) uB) uU jA (cL (aB iT (aB gY aO))) ag (St kvs cells seed NS far (Q++[(n,s)]) L T n bare rings (.int c) (.int (c / 8)) (.lst (SM.map enP)))=.ok (.lst (((eu (v+1)).map λ(h:ah)=>((n,(h:ai)):Pt)).map enP)):=by
   refine j6 (C_ (n:=(v:ai)+1) (aD (aJ (aJ rfl (aJ rfl (aJ rfl (aM (aD rfl rfl) (aMw NS)) gm) es) gs) rfl (dF v 1)) rfl) (by lia) (by lia)) (by rw[bp,kr,bT];lia) ?_;rw[eX _ (λ(k:ah)=>δ (0+(k:ai))) (λ_=>af) (λ(k:ah)=>enP (n,(k:ai)))]
   ·rw[show((v:ai)+1).toNat=v+1 by lia];rw[ky.mpr (λ_ _=>rfl),gf,gd];rfl
   ·intro acc k;refine nR (ρ:=St kvs cells seed NS far (Q++[(n,s)]) L T n bare rings (.int c) (.int (c / 8)) (.lst (SM.map enP))) rfl rfl λ_=>⟨?_,rfl⟩
    have d1:cL (aB iT (aB gY aO)) (St kvs cells seed NS far (Q++[(n,s)]) L T n bare rings (.int c) (.int (c / 8)) (.lst (SM.map enP))++[δ (0+(k:ai))])=.ok (.tup [.int n,.int (0+(k:ai))]):=g_ (aD rfl (aD rfl rfl)) (by rw[bT];simp);refine d1.trans ?_;rw[A3];rfl
  have s3:b_ ag 6 (b2 (aQ .add) lO (dN 14 (vA (aB (b2 (aQ .add) (b2 getD cH (b2 getD cJ (b2 (aQ .mod) mW (aL gJ (aB cJ aO))))) dG) aO) uB) uU jA (cL (aB iT (aB gY aO))) ag)) af (St kvs cells seed NS far (Q++[(n,s)]) L T n bare rings (.int c) (.int (c / 8)) (.lst (SM.map enP)))=.ok (.nx (St kvs cells seed NS far (Q++[(n,s)]) (L++(eu (v+1)).map λ(h:ah)=>((n,(h:ai)):Pt)) T n bare rings (.int c) (.int (c / 8)) (.lst (SM.map enP)))):=by
   refine(bN (aJ rfl cf (JB (L.map enP) _ (by simp only[bp,kr,bT];lia) (O3 _) (O3 _)))).trans ?_;rw[<-dv];rfl
  exact RZ T1 (aK s1 (aK s2 s3))
 |false=>
  have T1:=t1 ag hA.symm;cases hB:(ϒ (4<=c % 8)&&ϒ (c % 8<6)&&ϒ ((1:ai)<SM.length)) with
  |true=>
   have T2:=t2 af hB.symm;rw[bj,eD] at hB;obtain⟨a,b,ha,hb',hlt,et⟩:=aHt SM (c / 8) (hSM.nodup g.ln) (by lia) (by have:=hSM.length_le;lia);have G:=g.tie (hSM.mem ha) (hSM.mem hb') hlt;refine⟨Q,_,T++[(a,b)],num,rings,bare,.int (c / 8),.lst (SM.map enP),G,hr,by simp,by lia,fin (wF T1 (RZ T2 ?_))⟩;have s1:lJ 7 (aL (cF 2 eZ) (aB x_ (aB mW aO))) (St kvs cells seed NS far Q L T num bare rings (.int c) (.int (c / 8)) (.lst (SM.map enP)))=.ok (.nx (St kvs cells seed NS far Q L (T++[(a,b)]) num bare rings (.int c) (.int (c / 8)) (.lst (SM.map enP)))):=by
    have d0:aL (cF 2 eZ) (aB x_ (aB mW aO)) (St kvs cells seed NS far Q L T num bare rings (.int c) (.int (c / 8)) (.lst (SM.map enP)))=.ok (bB (a,b)):=aM (aD rfl (aD rfl rfl)) ((cG rfl).trans et);refine(yO (ρ:=St kvs cells seed NS far Q L T num bare rings (.int c) (.int (c / 8)) (.lst (SM.map enP))) d0 rfl (by rw[bp,bT];lia) rfl).trans ?_;show _=ε (Fl.nx [.dct kvs,cells,.int seed,.lst (NS.map ι),.int far,.lst (Q.map pcD),.lst (L.map enP),.lst ((T++[(a,b)]).map bB),.int num,.int bare,.int rings,.int c,.int (c / 8),.lst (SM.map enP)]);rw[dv];rfl
   have gl:getD (.lst ((T++[(a,b)]).map bB)) (.int (-1))=.ok (bB (a,b)):=by
    show μ ((ixD ((T++[(a,b)]).map bB).length (-1)).bind λj=>((T++[(a,b)]).map bB)[j]?)=_;have:ixD ((T++[(a,b)]).map bB).length (-1)=ae T.length:=by
     unfold ixD;rw[az (by decide),av (by simp only[bp,de,cr,fT];lia)]
     congr 1
     simp only[bp,de,cr,fT];lia
    rw[this];simp
   have cf:dN 14 (fZ lO ag) uU (bTB (b2 (b8 .notin) gY (b2 getD zV (b1 YT dG)))) gY ag (St kvs cells seed NS far Q L (T++[(a,b)]) num bare rings (.int c) (.int (c / 8)) (.lst (SM.map enP)))=.ok (.lst ((L.filter λx=>!(ϒ (a=x)||ϒ (b=x))).map enP)):=by
    refine j6 (jC rfl rfl) (by rw[bp,bT];lia) ?_;rw[eX _ enP (λx=>!(ϒ (a=x)||ϒ (b=x))) enP]
    ·rfl
    ·intro acc p;have cn:b8 .notin (enP p) (bB (a,b))=.ok (.bl (!(ϒ (a=p)||ϒ (b=p)))):=by
      show(if (enP p).fY aR&&ν aR [enP a,enP b] then ε (π (!([enP a,enP b].any λy=>eqD y (enP p)))) else .bad)=_;rw[av (show(D.fY aR (enP p)&&ν aR [enP a,enP b])=af from rfl)];simp only[ki,List.any_nil,JZ,yg]
     exact nR (ρ:=St kvs cells seed NS far Q L (T++[(a,b)]) num bare rings (.int c) (.int (c / 8)) (.lst (SM.map enP))) rfl (dR (aJ rfl (aJ rfl rfl gl) cn)) λ_=>⟨rfl,rfl⟩
   exact aK s1 (bN cf)
  |false=>
   have T2:=t2 ag hB.symm;cases h6:(c % 8==6) with
   |true=>
    rw[h6] at e6;refine⟨Q,L,T,num,rings,bare+1,.int (c / 8),.lst (SM.map enP),g,hr,by lia,by lia,fin (wF T1 (wF T2 (RZ (dR (aJ (aJ rfl rfl m8) rfl e6)) ?_)))⟩;exact bN (aJ rfl rfl (dF bare 1))
   |false=>
    rw[h6] at e6;cases h7:(c % 8==7) with
    |true=>
     rw[h7] at e7;have f2:aQ .pow (.int 10) (.int 50)=.ok (.int (10 ^ 50)):=DG 50 (by decide);have f3:=dJ (c / 8) (10 ^ 50) (by decide);refine⟨Q,L,T,num,rings+c / 8 % 10 ^ 50,bare,.int (c / 8),.lst (SM.map enP),g,Int.add_nonneg hr (eM _ (by decide)),by lia,by lia,fin (wF T1 (wF T2 (wF (dR (aJ (aJ rfl rfl m8) rfl e6)) (RZ (dR (aJ (aJ rfl rfl m8) rfl e7)) ?_))))⟩;exact bN (aJ rfl (aJ rfl (aJ rfl rfl f2) f3) (dF rings _))
    |false=>
     rw[h7] at e7;exact⟨Q,L,T,num,rings,bare,.int (c / 8),.lst (SM.map enP),g,hr,by lia,by lia,fin (wF T1 (wF T2 (wF (dR (aJ (aJ rfl rfl m8) rfl e6)) (wF (dR (aJ (aJ rfl rfl m8) rfl e7)) rfl))))⟩
theorem O8(hfar:0<far)(hst:bO kvs)(hNS:fG kvs=NS.map ι)(hne:NS≠[])(hNl:NS.length<=1000):∀(cs:aa ai){Q:aa Pc}{L:aa Pt}{T:aa Tie}{num rings:ai}{bare:ah}{x m sm:D},Gr kvs Q L T num->0<=rings->T.length+cs.length<=1000->bare+cs.length<=1000->
  ∃(Q':aa Pc)(L':aa Pt)(T':aa Tie)(num' rings':ai)(bare':ah)(x' m' sm':D),Gr kvs Q' L' T' num'/\0<=rings'/\T'.length<=T.length+cs.length/\bare'<=bare+cs.length/\lW (tg1 11) aBw (cs.map δ) (St kvs cells seed NS far Q L T num bare rings x m sm)=.ok (.nx (St kvs cells seed NS far Q' L' T' num' bare' rings' x' m' sm'))
 |[],Q,L,T,num,rings,bare,x,m,sm,g,hr,_,_=>⟨Q,L,T,num,rings,bare,x,m,sm,g,hr,by simp,by simp,rfl⟩
 |c::cs,Q,L,T,num,rings,bare,x,m,sm,g,hr,h1,h2=>by
  rw[cr] at h1 h2;obtain⟨Q1,L1,T1,n1,r1,b1,m1,s1,g1,hr1,i1,i2,e1⟩:=aHu (cells:=cells) (seed:=seed) (rings:=rings) (c:=c) (m:=m) (sm:=sm) hfar hst hNS hne hNl g (bare:=bare) (by lia) (by lia) hr;obtain⟨Q2,L2,T2,n2,r2,b2,x2,m2,s2,g2,hr2,j1,j2,e2⟩:=O8 hfar hst hNS hne hNl cs (rings:=r1) (bare:=b1) (x:=.int c) (m:=m1) (sm:=s1) g1 hr1 (by lia) (by lia);refine⟨Q2,L2,T2,n2,r2,b2,x2,m2,s2,g2,hr2,by simp only[cr];lia,by simp only[cr];lia,?_⟩;exact bZ (ρ1:=St kvs cells seed NS far Q L T num bare rings (.int c) m sm) rfl e1 e2
end
theorem gr0{kvs:aa (D×D)}:Gr kvs [] [] [] 0:=⟨by simp[ends],by simp,by simp,by lia,by simp,by simp[ends],by simp,by simp,by simp,by simp,by simp[ends,hks],by simp⟩
noncomputable def aBx:D->Tie
 |.tup [.tup [.int a,.int b],.tup [.int c,.int d]]=>((a,b),(c,d))
 |_=>((0,0),(0,0))
theorem zF(t:Tie):aBx (bB t)=t:=rfl
def vR(U:aa Tie):aa Tie:=(i_ (U.map bB)).map aBx
theorem oR(U:aa Tie):(vR U).Perm U:=by
 have h:=(gB (U.map bB)).map aBx;rw[gf] at h;have e:U.map (aBx ∘ bB)=U:=by
  conv=>rhs;rw[<-nh U]
  exact lb λt _=>zF t
 rw[e] at h;exact h
theorem aBy(U:aa Tie):(vR U).map bB=i_ (U.map bB):=by
 unfold vR;rw[gf]
 conv=>rhs;rw[<-nh (i_ (U.map bB))]
 refine lb λd hd=>?_
 obtain⟨t,_,rfl⟩:=cS.mp ((gB (U.map bB)).mem_iff.mp hd);rfl
theorem aHv(s t:Tie):∃k,jF .lt (bB s) (bB t)=ae k:=by
 have e:jF .lt (bB s) (bB t)=(if eqD (enP s.1) (enP t.1) then (if eqD (enP s.2) (enP t.2) then ae (iJ.lt.nat 0 0) else jF .lt (enP s.2) (enP t.2)) else jF .lt (enP s.1) (enP t.1)):=rfl;rw[e,V2,V2];split
 ·split
  ·exact⟨_,rfl⟩
  ·exact⟨_,rfl⟩
 ·exact⟨_,rfl⟩
theorem zG(U:aa Tie):bQ (U.map bB)=af:=by
 unfold bQ;refine dQ.mpr λd hd=>?_
 obtain⟨t,ht,rfl⟩:=cS.mp hd;have hk:gG ((U.map bB).headD .non)=5:=by
  cases U with
  |nil=>cases ht
  |cons u U=>rfl
 have h5:gG (bB t)=5:=rfl;have hp:(bB t).plain=af:=rfl;have hq:(bB t).fY aR=af:=rfl;rw[hk,h5,hp,hq];refine dQ.mpr λb hb=>?_
 obtain⟨u,_,rfl⟩:=cS.mp hb;obtain⟨k,e⟩:=aHv t u;rw[e];rfl
theorem V5(U:aa Tie):nG [.lst (U.map bB)]=.ok (.lst ((vR U).map bB)):=by
 show(if bQ (U.map bB) then ε (ξ (i_ (U.map bB))) else .bad)=_;rw[zG,av rfl,aBy]
def LeT(s t:Tie):Prop:=leE (bB s) (bB t)=af
theorem v_(U:aa Tie):(vR U).Pairwise LeT:=by
 have h:=nH (U.map bB);rw[<-aBy,m4] at h;exact h
theorem aBz:∀{xs ys:aa Tie},xs.map bB=ys.map bB->xs=ys
 |[],[],_=>rfl
 |x::xs,y::ys,h=>by
  rw[bw,bw,iO] at h;have e:=di aBx h.1;rw[zF,zF] at e;rw[e,aBz h.2]
 |[],_::_,h=>by cases h
 |_::_,[],h=>by cases h
theorem eq_of_sorted{U V:aa Tie}(h:U.Perm V)(h1:U.Pairwise LeT)(h2:V.Pairwise LeT):U=V:=by
 refine aBz (yC (λd hd=>?_) (h.map bB) (m4.mpr h1) (m4.mpr h2));obtain⟨t,_,rfl⟩:=cS.mp hd;rfl
theorem aEe{U:aa Tie}(h:U.Pairwise LeT):vR U=U:=eq_of_sorted (oR U) (v_ U) h
theorem J1(a b:ai):eqD (.int a) (.int b)=(a==b):=rfl
theorem aFo(a b:Pc):∃k,jF .lt (pcD a) (pcD b)=ae k/\(a.1≠b.1->k=ϒ (a.1<b.1)):=by
 have e:jF .lt (pcD a) (pcD b)=(if eqD (.int a.1) (.int b.1) then (if eqD (.str a.2) (.str b.2) then ae (iJ.lt.nat 0 0) else ae (iJ.lt.str a.2 b.2)) else ae (iJ.lt.int a.1 b.1)):=rfl;rw[e,J1];by_cases h:a.1=b.1
 ·rw[av (by simp[h])];split
  ·exact⟨_,rfl,λz=>bb h z⟩
  ·exact⟨_,rfl,λz=>bb h z⟩
 ·rw[az (by simp[h])];exact⟨_,rfl,λ_=>rfl⟩
theorem iR(U:aa Pc):bQ (U.map pcD)=af:=by
 unfold bQ;refine dQ.mpr λd hd=>?_
 obtain⟨t,ht,rfl⟩:=cS.mp hd;have hk:gG ((U.map pcD).headD .non)=3:=by
  cases U with
  |nil=>cases ht
  |cons u U=>rfl
 have h5:gG (pcD t)=3:=rfl;have hp:(pcD t).plain=af:=rfl;have hq:(pcD t).fY aR=af:=rfl;rw[hk,h5,hp,hq];refine dQ.mpr λb hb=>?_
 obtain⟨u,_,rfl⟩:=cS.mp hb;obtain⟨k,e,_⟩:=aFo t u;rw[e];rfl
def LtN(a b:Pc):Prop:=a.1<b.1
theorem oU(T:aa Tie):θ (T.map bB)=af:=O2 T
theorem V6(Q:aa Pc)(V:aa Tie)(r:ai):(gW Q V r).pure=af:=by
 show((D.tup (Q.map pcD)).pure&&((D.tup (V.map bB)).pure&&(af&&af)))=af;rw[aEa,O2];rfl
theorem sJ:∀{kvs:aa (D×D)},bO kvs->∃NS:aa Str,fG kvs=NS.map ι
 |[],_=>⟨[],rfl⟩
 |p::kvs,h=>by
  obtain⟨s,v,e,_⟩:=h p (cu ..);obtain⟨NS,ih⟩:=sJ (kvs:=kvs) λq hq=>h q (b6 _ hq)
  refine⟨s::NS,?_⟩;subst e;show ι s::fG kvs=_;rw[ih];rfl
theorem YB{kvs:aa (D×D)}(h:bO kvs):oV [.dct kvs]=.ok (.lst (fG kvs)):=by
 have e:kvs.all (λp=>!isTup p.1)=af:=dQ.mpr λp hp=>by
  obtain⟨s,v,rfl,_⟩:=h p hp;rfl
 show(if kvs.all (λp=>!isTup p.1) then ε (ξ (fG kvs)) else .bad)=_;rw[e,av rfl]
theorem aEf{U W:aa Pc}(p:U.Perm W)(h:W.Pairwise LtN):nG [.lst (U.map pcD)]=.ok (.lst (W.map pcD)):=by
 show(if bQ (U.map pcD) then ε (ξ (i_ (U.map pcD))) else .bad)=_;rw[iR,av rfl]
 congr 2
 refine yC (λd hd=>?_) ((gB _).trans (p.map pcD)) (nH _) (m4.mpr (h.imp λ{a b} hab=>?_))
 ·obtain⟨t,_,rfl⟩:=cS.mp ((gB (U.map pcD)).mem_iff.mp hd);rfl
 ·have hab:a.1<b.1:=hab;obtain⟨k,e,hk⟩:=aFo b a;have e1:=RC (pcD b) (pcD a) k rfl rfl e;rw[hk (by lia),dq (by lia)] at e1;unfold leE;rw[<-e1];rfl
theorem call_v{n m:ah}{f:FS}{ds:aa D}{d:D}(h:f (ds++ck (m-n) D.uD)=.ok (.rt d)):fnS n m f ds=.ok d:=by
 show(do let r <- f (ds++ck (m-n) D.uD);aDa r)=_;rw[h];rfl
theorem n_{n:ah}{t:D->Res (aa D)}{c:FT}{f:FE}{k:aq}{ρ acc bs:aa D}{x y:D}{b:aq}(hρ:ρ.length=n)(ht:t x=.ok bs)(h1:c (ρ++bs)=.ok b)(h2:b=af->f (ρ++bs)=.ok y/\(k||y.pure)=af):z6 n t c f k ρ acc x=.ok (if b then acc++[y] else acc):=by
 unfold z6;rw[ht,τ,M5 hρ,h1,τ];cases b with
 |false=>rfl
 |true=>
  obtain⟨h3,h4⟩:=h2 rfl;rw[av rfl,h3,τ,av h4];rfl
theorem aNb{f:FE}{ρ:aa D}{d:D}{b:aq}(h:f ρ=.ok d)(h2:aN8 d=.ok b):bTr f ρ=.ok b:=by
 unfold bTr;rw[h];exact h2
theorem aFp{f:FT}{ρ:aa D}{b:aq}(h:f ρ=.ok b):aF5 f ρ=.ok (!b):=by
 unfold aF5;rw[h];rfl
theorem V7{a b:FE}{ρ:aa D}{r:Res D}(h1:a ρ=.ok (.bl af))(h2:b ρ=r):G3 a b ρ=r:=by
 unfold G3;rw[h1];exact h2
theorem YC{f:D->Res D}{a:FE}{ρ:aa D}{x y:D}(h1:a ρ=.ok x)(h2:f x=.ok y):b1 f a ρ=.ok y:=by
 unfold b1;rw[h1];exact h2
theorem aHw{a:FE}{ρ:aa D}{k:aq}(h:a ρ=.ok (.bl k)):aDb a ρ=.ok (.bl (!k)):=by
 unfold aDb;rw[h];rfl
theorem irr(a b:Pt)(h:ltP a b):¬ltP b a:=by
 simp only[ltP] at *;lia
section
variable (Q:aa Pc) (T:aa Tie) (r:ai)
theorem n0:getD (gW Q T r) (.int 0)=.ok (.tup (Q.map pcD)):=rfl
theorem n1:getD (gW Q T r) (.int 1)=.ok (.tup (T.map bB)):=rfl
theorem n2:getD (gW Q T r) (.int 2)=.ok (.int r):=rfl
end
theorem O9{tt:D}:∀(T:aa Tie)(E:aa Pt)(x y:D),E.length+2*T.length<lim->∃x' y',lW (tgN [2,3]) (bI (lJ 1 dX) (lJ 1 cJ)) (T.map bB) [tt,.lst (E.map enP),x,y]=.ok (.nx [tt,.lst ((E++ends T).map enP),x',y'])
 |[],E,x,y,_=>⟨x,y,by simp[ends,lW]⟩
 |t::T,E,x,y,h=>by
  rw[cr] at h;obtain⟨x',y',ih⟩:=O9 (tt:=tt) T (E++[t.1,t.2]) (enP t.1) (enP t.2) (by rw[de];simp only[cr,fT];lia);refine⟨x',y',bZ (ρ1:=[tt,.lst (E.map enP),enP t.1,enP t.2]) (ρ2:=[tt,.lst ((E++[t.1,t.2]).map enP),enP t.1,enP t.2]) rfl (aK (ρ':=[tt,.lst (E.map enP++[enP t.1]),enP t.1,enP t.2]) (yO (i:=1) (ρ:=[tt,.lst (E.map enP),enP t.1,enP t.2]) rfl rfl (by rw[bp];lia) rfl) ?_) ?_⟩
  ·rw[yO (i:=1) (ρ:=[tt,.lst (E.map enP++[enP t.1]),enP t.1,enP t.2]) (d:=enP t.2) rfl rfl (by rw[de,bp];simp only[cr,fT];lia) rfl];simp
  ·rw[ih];simp[ends]
noncomputable def fU(E:aa Pt):ah:=(E.filter λe=>e.1==0).length
theorem aEg{n:ah}{ρ:aa D}(hρ:ρ.length=n)(hv:∀e:Pt,jH n (ρ++[enP e])=.ok (enP e))(acc:aa D)(e:Pt):z6 n uU (bTB (b2 (b8 .eq) (b2 getD (jH n) cQ) cQ)) (jH n) ag ρ acc (enP e)=.ok (if (e.1==0) then acc++[enP e] else acc):=
 n_ hρ rfl (dR (aJ (aJ (x:=enP e) (hv e) rfl (z:=.int e.1) rfl) rfl rfl)) λ_=>⟨hv e,rfl⟩
theorem aEh(E:aa Pt)(h:E.length<=lim):cF 1 jL [.lst (E.map enP)]=.ok (.int (fU E)):=by
 refine(cG rfl).trans (call_v ?_);have hf:=eX (z6 1 uU (bTB (b2 (b8 .eq) (b2 getD iK cQ) cQ)) iK ag [.lst (E.map enP)]) enP (λe:Pt=>e.1==0) enP (λacc e=>aEg rfl (λ_=>rfl) acc e) E [];refine h_ (d:=.int (fU E)) (aM (xs:=[.lst ((E.filter λe=>e.1==0).map enP)]) (aD (j6 (jC rfl rfl) (by rw[bp];exact h) (by simpa using hf)) rfl) ?_) rfl;rw[uI,bp];rfl
theorem V8(T:aa Tie):(ends T).length=2*T.length:=by
 induction T with
 |nil=>rfl
 |cons t T ih=>simp only[ends,xh,de,cr,fT] at *;lia
theorem ends_app(T R:aa Tie):ends (T++R)=ends T++ends R:=by simp[ends]
theorem O_{V U:aa Tie}(h:V.Perm U):(ends V).Perm (ends U):=by
 unfold ends;induction h with
 |nil=>exact .nil
 |cons x _ ih=>simpa using ih
 |swap x y l=>
  simp only[xh];rw[<-eh,<-eh];exact BO _ List.perm_append_comm
 |trans _ _ ih1 ih2=>exact ih1.trans ih2
theorem aC0{f g:FS}{ρ:aa D}{d:D}(h:f ρ=.ok (.rt d)):bI f g ρ=.ok (.rt d):=by
 unfold bI;rw[h];rfl
structure Net(kvs:aa (D×D))(Q:aa Pc)(T:aa Tie):Prop where
 nd:(ends T).Nodup
 small:T.length<=1000
 qs:Q.Pairwise LtN
 qpos:∀pc∈Q,0<pc.1
 ql:Q.length<=10
 sk:∀pc∈Q,∃v:ah,v<=6/\bR kvs (.str pc.2)=ae (.int v)
 lt:∀t∈T,ltP t.1 t.2
 srt:T.Pairwise LeT
 rims:∃S:aa ai,S.Nodup/\(∀s∈S,0<=s/\s<S.length)/\(ends T).Perm (hks kvs Q++S.map rim)
theorem aL2{kvs:aa (D×D)}{Q:aa Pc}{L:aa Pt}{T R:aa Tie}{num:ai}{S:aa ai}(g:Gr kvs Q L T num)(hS:S.Nodup)(hS2:∀s∈S,0<=s/\s<S.length)(pR:(ends R).Perm (L++S.map rim))(hR:∀t∈R,ltP t.1 t.2)(hsm:(T++R).length<=1000):Net kvs Q (vR (T++R)):=by
 have pE:(ends (vR (T++R))).Perm (ends T++L++S.map rim):=by
  refine(O_ (oR _)).trans ?_;rw[ends_app,eh];exact sC _ pR
 have pos:∀e∈ends T++L,0<e.1:=λe he=>by
  obtain⟨pc,h1,h2⟩:=cS.mp (g.num e he);have:=(g.qb pc h1).1;lia
 refine⟨?_,by rw[(oR _).length_eq];exact hsm,g.qs,λpc h=>(g.qb pc h).1,g.ql,g.sk,λt ht=>?_,v_ _,S,hS,hS2,pE.trans (g.pm.append_right _)⟩
 ·refine pE.nodup_iff.mpr (jt.mpr ⟨g.nd,?_,λa ha b hb z=>?_⟩)
  ·refine xg _ ?_ hS;intro a b hab z;exact hab (di AZ z)
  ·obtain⟨s,_,rfl⟩:=cS.mp hb;have:=pos a ha;rw[z] at this;exact bb this (zi 0)
 ·rcases eJ.mp ((oR _).mem_iff.mp ht) with h|h
  ·exact g.lt t h
  ·exact hR t h
theorem aL3(seed:ai):∃far:ai,0<far/\∀(a b:D)(c:D)(r:aa D),b2 getD (uT (aB (b2 (aQ .pow) jY aF4) (aB (b2 (aQ .pow) jY aF4) (aB (b2 (aQ .pow) jY zZ) aO)))) (b2 (aQ .mod) (b2 (aQ .fdiv) dX aCq) aCq) (a::b::.int seed::c::r)=.ok (.int far):=by
 have p9:aQ .pow (.int 10) (.int 9)=.ok (.int (10 ^ 9)):=DG 9 (by decide);have p50:aQ .pow (.int 10) (.int 50)=.ok (.int (10 ^ 50)):=DG 50 (by decide);have f3:=eQ seed 3 (by decide) (by decide);have m3:=dJ (seed / 3) 3 (by decide);have h0:0<=seed / 3 % 3:=eM _ (by decide);have h1:seed / 3 % 3<3:=gi _ (by decide);have key:∀(far:ai) ,getD (.lst [.int (10 ^ 9),.int (10 ^ 9),.int (10 ^ 50)]) (.int (seed / 3 % 3))=.ok (.int far)->∀(a b:D)(c:D)(r:aa D),b2 getD (uT (aB (b2 (aQ .pow) jY aF4) (aB (b2 (aQ .pow) jY aF4) (aB (b2 (aQ .pow) jY zZ) aO)))) (b2 (aQ .mod) (b2 (aQ .fdiv) dX aCq) aCq) (a::b::.int seed::c::r)=.ok (.int far):=by
  intro far hg a b c r;refine aJ (x:=.lst [.int (10 ^ 9),.int (10 ^ 9),.int (10 ^ 50)]) ?_ (aJ (aJ (x:=.int seed) rfl rfl f3) rfl m3) hg;have hc:(aB (b2 (aQ .pow) jY aF4) (aB (b2 (aQ .pow) jY aF4) (aB (b2 (aQ .pow) jY zZ) aO))) (a::b::.int seed::c::r)=.ok [.int (10 ^ 9),.int (10 ^ 9),.int (10 ^ 50)]:=aD (aJ rfl rfl p9) (aD (aJ rfl rfl p9) (aD (aJ rfl rfl p50) rfl));unfold uT;rw[hc,τ,av (by rw[bT];decide)];rfl
 have h:seed / 3 % 3=0\/seed / 3 % 3=1\/seed / 3 % 3=2:=by lia
 rcases h with h|h|h
 ·exact⟨10 ^ 9,by decide,key _ (by rw[h];rfl)⟩
 ·exact⟨10 ^ 9,by decide,key _ (by rw[h];rfl)⟩
 ·exact⟨10 ^ 50,by decide,key _ (by rw[h];rfl)⟩
theorem aEi{kvs:aa (D×D)}(hst:bO kvs)(hne:kvs≠[])(hl:kvs.length<=5)(cs:aa ai)(hc:cs.length<=200)(seed:ai):∃(Q:aa Pc)(V:aa Tie)(r:ai),Net kvs Q V/\0<=r/\cF 3 jR [.dct kvs,.lst (cs.map δ),.int seed]=.ok (gW Q V r):=by
 obtain⟨NS,hNS⟩:=sJ hst;have lNS:NS.length=kvs.length:=by
  have:=di fx hNS;simpa[fG] using this.symm
 have nNS:NS≠[]:=λz=>hne (by rw[z] at lNS;exact A4.mp lNS.symm)
 obtain⟨far,hfar,efar⟩:=aL3 seed;obtain⟨Q,L,T,num,rings,bare,x,m,sm,g,hrg,i1,i2,e1⟩:=O8 (cells:=.lst (cs.map δ)) (seed:=seed) hfar hst hNS nNS (by lia) cs (rings:=0) (bare:=0) (m:=.uD) (sm:=.uD) gr0 (A5 0) (by simp;lia) (by lia);have lL:L.length<=140:=by have:=g.ll;have:=g.ql;lia
 have posE:∀p∈ends T++L,0<p.1:=λp hp=>by
  obtain⟨pc,h1,h2⟩:=cS.mp (g.num p hp);have:=(g.qb pc h1).1;lia
 simp only[fT] at i1;obtain⟨R,S,r1,rb,r2,r3,r4,r5⟩:=aBv L bare seed (λp hp=>posE p (eT _ hp)) (by lia);have lTR:(T++R).length<=1000:=by rw[de,r4];lia
 have hadd:aQ .add (.lst (T.map bB)) (.lst (R.map bB))=.ok (.lst ((T++R).map bB)):=by
  rw[dv];refine JB _ _ ?_ (oU T) (oU R);rw[bp,bp,bT];rw[de] at lTR;lia
 have hrim:cF 3 gU [.lst (L.map enP),.int bare,.int seed]=.ok (.lst (R.map bB)):=(cG rfl).trans r5;have hli:=YB hst;rw[hNS] at hli;have hin:inner (.lst ((T++R).map bB))=af:=oU _;refine⟨Q,vR (T++R),rings,aL2 g r1 rb r2 r3 lTR,hrg,(cG rfl).trans ?_⟩;have fin:nW [.dct kvs,.lst (cs.map δ),.int seed,.uD,.uD,.uD,.uD,.uD,.uD,.uD,.uD,.uD,.uD,.uD]=.ok (.rt (gW Q (vR (T++R)) rings)):=by
  refine aK (bN (aM (aD rfl rfl) hli)) ?_;refine aK (ρ':=[.dct kvs,.lst (cs.map δ),.int seed,.lst (NS.map ι),.int far,.uD,.uD,.uD,.uD,.uD,.uD,.uD,.uD,.uD]) (IV (efar _ _ _ _) rfl) ?_;refine aK (eO rfl rfl) ?_;refine aK (bN rfl) ?_;refine aK (eO rfl rfl) ?_;refine aK (bN rfl) ?_;refine aK (bN rfl) ?_;refine aK (bN rfl) ?_;refine aK (q_ rfl rfl e1) ?_;refine aK
   (eO (aJ rfl (aM (aD rfl (aD rfl (aD rfl rfl))) hrim) hadd) hin) ?_
  refine h_ (g_ (aD (aM (aD rfl rfl) rfl) (aD (aM (aD (aM (aD rfl rfl) (V5 _)) rfl) rfl) (aD rfl rfl))) ?_) ?_
  ·rw[bT];show 3<=1000000;lia
  ·rw[V6];rfl
 show(do let r <- nW _;aDa r)=_;rw[show([D.dct kvs,ξ (cs.map δ),δ seed]++ck (14-3) D.uD)=[.dct kvs,.lst (cs.map δ),.int seed,.uD,.uD,.uD,.uD,.uD,.uD,.uD,.uD,.uD,.uD,.uD] from rfl,fin];rfl
noncomputable def cellAt(ns:aa ai)(k:ah):ai:=ns.getD k 0
theorem cell_eq(ns:aa ai)(k:ah):cF 2 dB [.scr (ns.map δ),.int k]=.ok (.int (cellAt ns k)):=by
 refine(cG rfl).trans ?_;have hl:gJ [.scr (ns.map δ)]=.ok (.int ns.length):=by
  show ε (δ ((ns.map δ).length:ai))=_;rw[bp]
 have hc:b8 (.ord .lt) (.int k) (.int ns.length)=.ok (.bl (ϒ ((k:ai)<ns.length))):=rfl;show(do let r <- fO [.scr (ns.map δ),.int k];aDa r)=_;by_cases h:k<ns.length
 ·have hg:getD (.scr (ns.map δ)) (.int k)=.ok (.int (cellAt ns k)):=by
   show μ ((ixD (ns.map δ).length k).bind λj=>(ns.map δ)[j]?)=_;have:ixD (ns.map δ).length k=ae k:=by
    unfold ixD;rw[av (by lia),av (by rw[bp];lia)];rfl
   rw[this];show μ ((ns.map δ)[k]?)=_;rw[ma,dP h];show ε (δ ns[k])=_;rw[cellAt,dh,dP h];rfl
  have e:fO [.scr (ns.map δ),.int k]=.ok (.rt (.int (cellAt ns k))):=by
   have ht:(bTB (b2 (b8 (.ord .lt)) iK (aL gJ (aB cH aO)))) [.scr (ns.map δ),.int k]=.ok af:=by
    refine dR (aJ rfl (aM (aD rfl rfl) hl) (hc.trans ?_));rw[cK (by lia)]
   unfold fO bI;rw[RZ (r:=.ok (.rt (.int (cellAt ns k)))) ht (h_ (aJ rfl rfl hg) rfl)];rfl
  rw[e];rfl
 ·have e:fO [.scr (ns.map δ),.int k]=.ok (.rt (.int (cellAt ns k))):=by
   refine aK (wF (r:=.ok (.nx [.scr (ns.map δ),.int k])) (dR (aJ rfl (aM (aD rfl rfl) hl) (hc.trans ?_))) rfl) (h_ ?_ rfl)
   ·rw[dq (by lia)]
   ·rw[cellAt,dh,ww (by lia)];rfl
  rw[e];rfl
def Is(d:D)(xs:aa D):Prop:=d=.lst xs\/d=.scr xs
theorem Is.items{d:D}{xs:aa D}(h:Is d xs):kO d=.ok xs:=by rcases h with rfl|rfl<;>rfl
def aFq(kvs:aa (D×D))(pc:Pc):D×D:=(.int pc.1,.int (vOf kvs pc.2))
def aY(kvs:aa (D×D))(P:aa Pc):aa (D×D):=P.map (aFq kvs)
theorem Is.var{d:D}{xs ρ:aa D}{i:ah}(h:Is d xs)(e:ρ.getD i .uD=d):jH i ρ=.ok d:=by
 unfold jH;rw[e];rcases h with rfl|rfl<;>rfl
theorem zH{kvs:aa (D×D)}{n:ai}:∀{P:aa Pc},n∉P.map (·.1)->bR (aY kvs P) (.int n)=aj
 |[],_=>rfl
 |pc::P,h=>by
  rw[bw,bX,kX] at h;show(if eqD (.int pc.1) (.int n) then _ else bR (aY kvs P) (.int n))=aj;rw[J1,az (by simpa using λz=>h.1 z.symm),zH h.2]
theorem oA{kvs:aa (D×D)}{pc:Pc}:∀{P:aa Pc},(P.map (·.1)).Nodup->pc∈P->bR (aY kvs P) (.int pc.1)=ae (.int (vOf kvs pc.2))
 |q::P,hn,h=>by
  rw[bw,eR] at hn;show(if eqD (.int q.1) (.int pc.1) then ae (δ (vOf kvs q.2)) else bR (aY kvs P) (.int pc.1))=_;rw[J1];rcases bX.mp h with rfl|h
  ·rw[av (by simp)]
  ·rw[az,oA hn.2 h];intro z;have z:q.1=pc.1:=by simpa using z
   exact hn.1 (z▸cS.mpr ⟨pc,h,rfl⟩)
theorem SX{k w:D}:∀{m:aa (D×D)},bR m k=aj->putD m k w=m++[(k,w)]
 |[],_=>rfl
 | (a,b)::m,h=>by
  rw[bR] at h;by_cases e:eqD a k=af
  ·rw[av e] at h;cases h
  ·rw[az e] at h;rw[putD,az e,SX h];rfl
theorem J2(kvs:aa (D×D))(n:ai)(P:aa Pc):zT (aY kvs P) (.int n)=af:=by
 unfold zT;rw[show keyOk (.int n)=af from rfl,lc,dQ];intro x hx;obtain⟨y,_,rfl⟩:=cS.mp hx;rfl
theorem vU{n m:ah}{f:FS}{ds:aa D}(h:f (ds++ck (m-n) D.uD)=.err "NoNet" [.exc "NoNet" []]):fnS n m f ds=.err "NoNet" [.exc "NoNet" []]:=by
 show(do let r <- f (ds++ck (m-n) D.uD);aDa r)=_;rw[h];rfl
theorem V9{kvs:aa (D×D)}{n:ai}:∀{P:aa Pc},n∈P.map (·.1)->∃d,bR (aY kvs P) (.int n)=ae d
 |pc::P,h=>by
  show ∃d,(if eqD (.int pc.1) (.int n) then ae (δ (vOf kvs pc.2)) else bR (aY kvs P) (.int n))=ae d;rw[J1];by_cases z:pc.1=n
  ·exact⟨_,av (by simpa using z)⟩
  ·rw[az (by simpa using z)];rw[bw] at h;rcases bX.mp h with h|h
   ·exact bb h.symm z
   ·exact V9 h
def aLo(kvs:aa (D×D))(pc:Pc):Prop:=0<pc.1/\∃v:ah,v<=6/\bR kvs (.str pc.2)=ae (.int v)
def J3(kvs:aa (D×D))(P:aa Pc):Prop:=(P.map (·.1)).Nodup/\∀pc∈P,aLo kvs pc
noncomputable abbrev no{α:Type}:Res α:=.err "NoNet" [.exc "NoNet" []]
theorem o7{f g:FS}{ρ:aa D}(h:f ρ=no):bI f g ρ=no:=by
 unfold bI;rw[h];rfl
theorem vV{c:FT}{f:FS}{ρ:aa D}(h:c ρ=.ok ag):sIf (noE c) f jM ρ=.ok (.nx ρ):=wF (lE h) rfl
theorem S5{c:FT}{ρ:aa D}(h:c ρ=.ok af):sIf (noE c) (gR "NoNet") jM ρ=no:=RZ (lE h) rfl
theorem zJ{t:D->aa D->Res (aa D)}{body:FS}{x:D}{xs ρ ρ1:aa D}(h1:t x ρ=.ok ρ1)(h2:body ρ1=no):lW t body (x::xs) ρ=no:=by
 rw[lW,h1,τ,h2];rfl
theorem YD{kvs:aa (D×D)}(s:Str):bO kvs->(bR kvs (.str s)=aj\/∃v:ah,v<=6/\bR kvs (.str s)=ae (.int v)):=by
 induction kvs with
 |nil=>exact λ_=>.inl rfl
 |cons p kvs ih=>
  intro h;obtain⟨a,b⟩:=p;rw[bR];split
  ·obtain⟨s',v,e,h0,h1⟩:=h _ (cu ..);cases e;exact .inr ⟨v.toNat,by lia,by rw[show((v.toNat:ah):ai)=v by lia]⟩
  ·exact ih λp hp=>h p (b6 _ hp)
def aHx:FS:=(bI (sIf (noE (bTB (b2 (b8 (.ord .lt)) cJ dG))) (gR "NoNet") jM) (bI (sIf (noE (bTB (b2 (b8 .isin) cJ dX))) (gR "NoNet") jM) (bI (sIf (noE (bTB (b2 (b8 .notin) d_ cH))) (gR "NoNet") jM) (noE (aDd 2 cJ (b2 getD cH d_))))))
theorem EY{kvs:aa (D×D)}(hst:bO kvs){pp:D}:∀(P S:aa Pc)(x y:D),(S++P).length<=1000->((((S.map (·.1)).Nodup->((S++P).map (·.1)).Nodup)/\∀pc∈P,aLo kvs pc)/\∃x' y',lW (noT (tgN [3,4])) aHx (P.map pcD) [.dct kvs,pp,.dct (aY kvs S),x,y]=.ok (.nx [.dct kvs,pp,.dct (aY kvs (S++P)),x',y']))\/((¬((S++P).map (·.1)).Nodup\/¬∀pc∈P,aLo kvs pc)/\lW (noT (tgN [3,4])) aHx (P.map pcD) [.dct kvs,pp,.dct (aY kvs S),x,y]=no)
 |[],S,x,y,_=>.inl ⟨⟨λh=>by simpa using h,λ_ h=>by cases h⟩,x,y,by rw[fS];rfl⟩
 |pc::P,S,x,y,hl=>by
  have hS:S++pc::P=(S++[pc])++P:=by simp
  have ht:noT (tgN [3,4]) (pcD pc) [.dct kvs,pp,.dct (aY kvs S),x,y]=.ok [.dct kvs,pp,.dct (aY kvs S),.int pc.1,.str pc.2]:=lE (f:=tgN [3,4] (pcD pc)) rfl;have hlen:(aY kvs S).length<lim:=by
   rw[de] at hl;rw[aY,bp,bT];lia
  have k1:bTB (b2 (b8 (.ord .lt)) cJ dG) [.dct kvs,pp,.dct (aY kvs S),.int pc.1,.str pc.2]=.ok (ϒ (pc.1<1)):=dR (aJ rfl rfl rfl);by_cases h0:0<pc.1
  ·rw[dq (by lia)] at k1;have k2:bTB (b2 (b8 .isin) cJ dX) [.dct kvs,pp,.dct (aY kvs S),.int pc.1,.str pc.2]=.ok (bR (aY kvs S) (.int pc.1)).isSome:=dR (aJ rfl rfl (by
    show(if zT (aY kvs S) (.int pc.1) then ε (π (bR (aY kvs S) (.int pc.1)).isSome) else .bad)=_;rw[J2,av rfl]))
   by_cases hnot:pc.1∈S.map (·.1)
   ·refine .inr ⟨.inl λz=>?_,?_⟩
    ·rw[dv] at z;exact(jt.mp z).2.2 _ hnot pc.1 (by simp) rfl
    ·obtain⟨d,hd⟩:=V9 (kvs:=kvs) hnot;rw[hd] at k2;exact zJ ht (aK (vV k1) (o7 (S5 k2)))
   ·have hno:=zH (kvs:=kvs) hnot;rw[hno] at k2;have k3:bTB (b2 (b8 .notin) d_ cH) [.dct kvs,pp,.dct (aY kvs S),.int pc.1,.str pc.2]=.ok (!(bR kvs (.str pc.2)).isSome):=dR (aJ rfl rfl (by
     show(if zT kvs (.str pc.2) then ε (π (!(bR kvs (.str pc.2)).isSome)) else .bad)=_;rw[O5 hst,av rfl]))
    rcases YD pc.2 hst with hn|⟨v,hv,ev⟩
    ·refine .inr ⟨.inr λz=>?_,?_⟩
     ·obtain⟨_,v,_,e⟩:=z pc (cu ..);rw[hn] at e;cases e
     ·rw[hn] at k3;exact zJ ht (aK (vV k1) (aK (vV k2) (o7 (S5 k3))))
    ·rw[ev] at k3;have gs:getD (.dct kvs) (.str pc.2)=.ok (.int v):=by
      show(if keyOk (.str pc.2) then μ (bR kvs (.str pc.2)) else .bad)=_;rw[ev];rfl
     have hput:putD (aY kvs S) (.int pc.1) (.int v)=aY kvs (S++[pc]):=by
      rw[SX hno,aY,aY,dv];show _++[(δ pc.1,δ v)]=_++[(δ pc.1,δ (vOf kvs pc.2))];rw[V4 ev]
     have step:aHx [.dct kvs,pp,.dct (aY kvs S),.int pc.1,.str pc.2]=.ok (.nx [.dct kvs,pp,.dct (aY kvs (S++[pc])),.int pc.1,.str pc.2]):=by
      refine aK (vV k1) (aK (vV k2) (aK (vV k3) (lE ?_)));rw[<-hput];exact aAz (kvs:=aY kvs S) (k:=.int pc.1) (aJ rfl rfl gs) rfl rfl hlen (J2 kvs _ S) rfl
     have hnd:(S.map (·.1)).Nodup->((S++[pc]).map (·.1)).Nodup:=λh=>by
      rw[dv];exact jt.mpr ⟨h,by simp,λa ha b hb z=>hnot (by rw[<-show b=pc.1 by simpa using hb,<-z];exact ha)⟩
     rcases EY hst (pp:=pp) P (S++[pc]) (.int pc.1) (.str pc.2) (by rw[<-hS];exact hl) with ⟨⟨g1,g2⟩,x',y',e⟩|⟨g,e⟩
     ·refine .inl ⟨⟨λh=>by rw[hS];exact g1 (hnd h),λq hq=>?_⟩,x',y',?_⟩
      ·rcases bX.mp hq with rfl|hq
       ·exact⟨h0,v,hv,ev⟩
       ·exact g2 q hq
      ·rw[hS,bw];exact bZ ht step e
     ·refine .inr ⟨?_,by rw[bw];exact bZ ht step e⟩;rcases g with g|g
      ·exact .inl (by rw[hS];exact g)
      ·exact .inr λz=>g λq hq=>z q (b6 _ hq)
  ·rw[cK (by lia)] at k1;exact .inr ⟨.inr λz=>h0 (z pc (cu ..)).1,zJ ht (o7 (S5 k1))⟩
theorem aHy{kvs:aa (D×D)}(hst:bO kvs)(P:aa Pc){pp:D}(hpp:Is pp (P.map pcD))(hl:P.length<=1000):(J3 kvs P/\cF 2 cR [.dct kvs,pp]=.ok (.dct (aY kvs P)))\/(¬J3 kvs P/\cF 2 cR [.dct kvs,pp]=no):=by
 rcases EY hst (pp:=pp) P [] .uD .uD (by simpa using hl) with ⟨⟨g1,g2⟩,x',y',e⟩|⟨g,e⟩
 ·refine .inl ⟨⟨by simpa using g1 hZ,g2⟩,(cG rfl).trans (call_v ?_)⟩;refine aK (lE (eO rfl rfl)) ?_;refine aK (q_ (hpp.var rfl) hpp.items e) ?_;rfl
 ·refine .inr ⟨λz=>?_,(cG rfl).trans (vU ?_)⟩
  ·rcases g with g|g
   ·exact g (by simpa using z.1)
   ·exact g z.2
  ·refine aK (lE (eO rfl rfl)) ?_;exact o7 (q_ (hpp.var rfl) hpp.items e)
theorem aHz(T:aa Tie){tt:D}(htt:Is tt (T.map bB))(h:2*T.length<lim):cF 1 nZ [tt]=.ok (.lst ((ends T).map enP)):=by
 obtain⟨x',y',e⟩:=O9 (tt:=tt) T [] .uD .uD (by simpa using h);refine(cG rfl).trans (call_v ?_);refine aK (eO rfl rfl) ?_;refine aK (q_ (htt.var rfl) htt.items e) ?_;rfl
def Place(kvs:aa (D×D))(P:aa Pc)(b:ai)(e:Pt):Prop:=(e.1=0->0<=e.2/\e.2<b)/\(e.1≠0->∃pc∈P,e.1=pc.1/\0<=e.2/\e.2<=vOf kvs pc.2)
theorem aL4{a b:FE}{ρ:aa D}(h1:a ρ=.ok (.bl ag)):G3 a b ρ=.ok (.bl ag):=by
 unfold G3;rw[h1];rfl
open Classical in
theorem aI0{kvs:aa (D×D)}{P:aa Pc}{b:ai}(e:Pt)(hn:(P.map (·.1)).Nodup):cF 3 fX [.dct (aY kvs P),.int b,enP e]=.ok (.bl (ϒ (Place kvs P b e))):=by
 refine(cG rfl).trans (call_v ?_);refine aK (IV (aJ rfl rfl rfl) rfl) ?_;have ht:bTB (b2 (b8 .eq) cJ cQ) [.dct (aY kvs P),.int b,enP e,.int e.1]=.ok (e.1==0):=dR (aJ rfl rfl rfl);have le0:b8 (.ord .le) (.int 0) (.int e.2)=.ok (.bl (ϒ (0<=e.2))):=rfl;by_cases h0:e.1=0
 ·rw[show(e.1==0)=af by simpa using h0] at ht;refine aC0 (RZ ht (h_ ?_ rfl));have hp:ϒ (Place kvs P b e)=(ϒ (0<=e.2)&&ϒ (e.2<b)):=by
   rw[<-A6];exact A7.mpr ⟨λh=>h.1 h0,λh=>⟨λ_=>h,λz=>bb h0 z⟩⟩
  rw[hp];by_cases a1:0<=e.2
  ·rw[cK a1] at le0 ⊢;exact aLl rfl (aJ rfl rfl rfl) le0 rfl rfl
  ·rw[dq a1] at le0 ⊢;exact aMl rfl (aJ rfl rfl rfl) le0
 ·rw[show(e.1==0)=ag by simpa using h0] at ht;refine aK (wF ht rfl) (h_ ?_ rfl);have kin:b2 (b8 .isin) cJ cH [.dct (aY kvs P),.int b,enP e,.int e.1]=.ok (.bl (bR (aY kvs P) (.int e.1)).isSome):=aJ rfl rfl (by
   show(if zT (aY kvs P) (.int e.1) then ε (π (bR (aY kvs P) (.int e.1)).isSome) else .bad)=_;rw[J2,av rfl])
  by_cases hin:e.1∈P.map (·.1)
  ·obtain⟨pc,m,e1⟩:=cS.mp hin;have hl:=oA (kvs:=kvs) hn m;rw[e1] at hl;have hp:ϒ (Place kvs P b e)=(ϒ (0<=e.2)&&ϒ (e.2<=vOf kvs pc.2)):=by
    rw[<-A6];refine A7.mpr ⟨λh=>?_,λh=>⟨λz=>bb z h0,λ_=>⟨pc,m,e1.symm,h⟩⟩⟩;obtain⟨q,mq,eq,h1⟩:=h.2 h0;have hl2:=oA (kvs:=kvs) hn mq;rw[<-eq,hl] at hl2;have hl2:(vOf kvs pc.2:ai)=vOf kvs q.2:=by simpa using hl2
    rw[hl2];exact h1
   rw[hl] at kin;rw[hp];refine V7 kin ?_;have gv:getD (.dct (aY kvs P)) (.int e.1)=.ok (.int (vOf kvs pc.2)):=by
    show(if keyOk (.int e.1) then μ (bR (aY kvs P) (.int e.1)) else .bad)=_;rw[hl];rfl
   by_cases a1:0<=e.2
   ·rw[cK a1] at le0 ⊢;exact aLl (z:=.int (vOf kvs pc.2)) rfl (aJ rfl rfl rfl) le0 (aJ rfl rfl gv) rfl
   ·rw[dq a1] at le0 ⊢;exact aMl rfl (aJ rfl rfl rfl) le0
  ·have hno:=zH (kvs:=kvs) hin;rw[hno] at kin;rw[dq λh=>?_]
   ·exact aL4 kin
   ·obtain⟨q,mq,eq,_⟩:=h.2 h0;exact hin (eq▸cS.mpr ⟨q,mq,rfl⟩)
def gF(e:Pt):D×D:=(enP e,.bl af)
theorem PB{e:Pt}:∀{E:aa Pt},e∉E->bR (E.map gF) (enP e)=aj
 |[],_=>rfl
 |q::E,h=>by
  rw[bX,kX] at h;show(if eqD (enP q) (enP e) then _ else bR (E.map gF) (enP e))=aj;rw[JZ,az (by simpa using λz=>h.1 z.symm),PB h.2]
theorem V_(e:Pt)(E:aa Pt):zT (E.map gF) (enP e)=af:=by
 unfold zT;rw[show keyOk (enP e)=af from rfl,lc,dQ];intro x hx;obtain⟨y,_,rfl⟩:=cS.mp hx;rfl
theorem PJ{e:Pt}:∀{E:aa Pt},e∈E->bR (E.map gF) (enP e)=ae (.bl af)
 |q::E,h=>by
  show(if eqD (enP q) (enP e) then ae (π af) else bR (E.map gF) (enP e))=_;rw[JZ];by_cases z:q=e
  ·rw[av (by simpa using z)]
  ·rw[az (by simpa using z)];rcases bX.mp h with h|h
   ·exact bb h.symm z
   ·exact PJ h
def aI1:FS:=(bI (sIf (noE (bTB (b2 (b8 .isin) d_ cJ))) (gR "NoNet") jM) (bI (sIf (noE (aF5 (bTr (aL (cF 3 fX) (aB cH (aB dX (aB d_ aO))))))) (gR "NoNet") jM) (noE (aDd 3 d_ (bC (.bl af))))))
open Classical in
theorem PK{kvs:aa (D×D)}{P:aa Pc}{b:ai}{ee:D}(hn:(P.map (·.1)).Nodup):∀(E S:aa Pt)(x:D),(S++E).length<=10000->(((S.Nodup->(S++E).Nodup)/\∀e∈E,Place kvs P b e)/\∃(m:aa (D×D))(x':D),lW (noT (tg1 4)) aI1 (E.map enP) [.dct (aY kvs P),ee,.int b,.dct (S.map gF),x]=.ok (.nx [.dct (aY kvs P),ee,.int b,.dct m,x']))\/((¬(S++E).Nodup\/¬∀e∈E,Place kvs P b e)/\lW (noT (tg1 4)) aI1 (E.map enP) [.dct (aY kvs P),ee,.int b,.dct (S.map gF),x]=no)
 |[],S,x,_=>.inl ⟨⟨λh=>by simpa using h,λ_ h=>by cases h⟩,_,x,rfl⟩
 |e::E,S,x,hl=>by
  have hS:S++e::E=(S++[e])++E:=by simp
  have ht:noT (tg1 4) (enP e) [.dct (aY kvs P),ee,.int b,.dct (S.map gF),x]=.ok [.dct (aY kvs P),ee,.int b,.dct (S.map gF),enP e]:=lE (f:=tg1 4 (enP e)) rfl;have k1:bTB (b2 (b8 .isin) d_ cJ) [.dct (aY kvs P),ee,.int b,.dct (S.map gF),enP e]=.ok (bR (S.map gF) (enP e)).isSome:=dR (aJ rfl rfl (by
   show(if zT (S.map gF) (enP e) then ε (π (bR (S.map gF) (enP e)).isSome) else .bad)=_;rw[V_,av rfl]))
  by_cases hin:e∈S
  ·rw[PJ hin] at k1;exact .inr ⟨.inl λz=>(jt.mp z).2.2 _ hin e (by simp) rfl,zJ ht (o7 (S5 k1))⟩
  ·have hno:=PB hin;rw[hno] at k1;have k2:∀k:aq,cF 3 fX [.dct (aY kvs P),.int b,enP e]=.ok (.bl k)->aF5 (bTr (aL (cF 3 fX) (aB cH (aB dX (aB d_ aO))))) [.dct (aY kvs P),ee,.int b,.dct (S.map gF),enP e]=.ok (!k):=λk h=>aFp (aNb (aM (aD rfl (aD rfl (aD rfl rfl))) h) rfl)
   have pz:=aI0 (kvs:=kvs) (b:=b) e hn;by_cases hp:Place kvs P b e
   ·rw[cK hp] at pz;have hlen:(S.map gF).length<lim:=by
     rw[de] at hl;rw[bp,bT];lia
    have hput:putD (S.map gF) (enP e) (.bl af)=(S++[e]).map gF:=by
     rw[SX hno,dv];rfl
    have step:aI1 [.dct (aY kvs P),ee,.int b,.dct (S.map gF),enP e]=.ok (.nx [.dct (aY kvs P),ee,.int b,.dct ((S++[e]).map gF),enP e]):=by
     refine aK (vV k1) (aK (vV (k2 af pz)) (lE ?_));rw[<-hput];exact aAz (i:=3) (kvs:=S.map gF) (k:=enP e) (d:=.bl af) rfl rfl rfl hlen (V_ e S) rfl
    have hnd:S.Nodup->(S++[e]).Nodup:=λh=>jt.mpr ⟨h,by simp,λa ha b hb z=>hin (by rw[<-show b=e by simpa using hb,<-z];exact ha)⟩
    rcases PK (kvs:=kvs) (b:=b) (ee:=ee) hn E (S++[e]) (enP e) (by rw[<-hS];exact hl) with ⟨⟨g1,g2⟩,m,x',h⟩|⟨g,h⟩
    ·refine .inl ⟨⟨λz=>by rw[hS];exact g1 (hnd z),λq hq=>?_⟩,m,x',by rw[bw];exact bZ ht step h⟩;rcases bX.mp hq with rfl|hq
     ·exact hp
     ·exact g2 q hq
    ·refine .inr ⟨?_,by rw[bw];exact bZ ht step h⟩;rcases g with g|g
     ·exact .inl (by rw[hS];exact g)
     ·exact .inr λz=>g λq hq=>z q (b6 _ hq)
   ·rw[dq hp] at pz;exact .inr ⟨.inr λz=>hp (z e (cu ..)),zJ ht (aK (vV k1) (o7 (S5 (k2 ag pz))))⟩
def cnt(kvs:aa (D×D))(pc:Pc):ai:=(vOf kvs pc.2:ai)+1
theorem aEj(kvs:aa (D×D))(pc:Pc):(aL0 kvs pc).length=vOf kvs pc.2+1:=by
 rw[aL0,bp,kr]
theorem aC1(kvs:aa (D×D)):∀P:aa Pc,((hks kvs P).length:ai)=(P.map (cnt kvs)).sum
 |[]=>rfl
 |pc::P=>by
  have ih:=aC1 kvs P;rw[bw,AE,<-ih];show(((aL0 kvs pc++hks kvs P).length:ah):ai)=_;rw[de,aEj,cnt];lia
theorem aC2(kvs:aa (D×D)):∀P:aa Pc,aIk 5 (b2 (aQ .add) iM dG) ((aY kvs P).map (·.2))=.ok ((P.map (cnt kvs)).map δ)
 |[]=>rfl
 |pc::P=>by
  have ih:=aC2 kvs P;have e0:(aY kvs (pc::P)).map (λx=>x.2)=δ (vOf kvs pc.2)::(aY kvs P).map (λx=>x.2):=rfl;rw[e0,aIk];rw[aJ (z:=.int (cnt kvs pc)) (x:=.int (vOf kvs pc.2)) (y:=.int 1) rfl rfl (dF _ _),τ,ih];rfl
theorem E_:∀ns:aa ai,intsOf (ns.map δ)=ae ns
 |[]=>rfl
 |n::ns=>by
  show(intsOf (ns.map δ)).map (n::·)=_;rw[E_ ns];rfl
theorem aL5{kvs:aa (D×D)}{P:aa Pc}(hk:∀pc∈P,vOf kvs pc.2<=6)(hl:P.length<=1000):XR [.lst ((P.map (cnt kvs)).map δ)]=.ok (.int ((hks kvs P).length:ai)):=by
 unfold XR;simp only[E_];rw[av,aC1];rw[bj,eD,bp];refine⟨dQ.mpr λi hi=>?_,by lia⟩;obtain⟨pc,m,rfl⟩:=cS.mp hi;have:=hk pc m;rw[cnt,cK (by lia),cK (by lia)];rfl
def aC3(kvs:aa (D×D))(P:aa Pc)(E:aa Pt):Prop:=E.Nodup/\(∀e∈E,Place kvs P (fU E) e)/\(hks kvs P).length+fU E<=E.length
theorem aI2{kvs:aa (D×D)}{P:aa Pc}(E:aa Pt)(hn:(P.map (·.1)).Nodup)(hl:E.length<=10000)(hP:P.length<=1000)(hk:∀pc∈P,vOf kvs pc.2<=6):(aC3 kvs P E/\cF 2 iZ [.dct (aY kvs P),.lst (E.map enP)]=.ok .non)\/(¬aC3 kvs P E/\cF 2 iZ [.dct (aY kvs P),.lst (E.map enP)]=no):=by
 have ham:=aEh E (by rw[bT];lia);have s1:noE (b_ ag 2 (aL (cF 1 jL) (aB iK aO)) af) [.dct (aY kvs P),.lst (E.map enP),.uD,.uD,.uD]=.ok (.nx [.dct (aY kvs P),.lst (E.map enP),.int (fU E),.uD,.uD]):=lE (bN (i:=2) (aM (xs:=[.lst (E.map enP)]) (aD rfl rfl) ham));have s2:noE (b_ af 3 (bC (.dct [])) af) [.dct (aY kvs P),.lst (E.map enP),.int (fU E),.uD,.uD]=.ok (.nx [.dct (aY kvs P),.lst (E.map enP),.int (fU E),.dct [],.uD]):=lE (eO rfl rfl);rcases PK (kvs:=kvs) (P:=P) (b:=fU E) (ee:=.lst (E.map enP)) hn E [] .uD (by simpa using hl) with ⟨⟨g1,g2⟩,m,x',e⟩|⟨g,e⟩
 ·have hv:aE1 0 5 (b2 (aQ .add) iM dG) [.dct (aY kvs P),.lst (E.map enP),.int (fU E),.dct m,x']=.ok (.lst ((P.map (cnt kvs)).map δ)):=by
   show(if ϒ ((aY kvs P).length<=lim)&&((aY kvs P).all (λp=>!isTup p.1)&&θ ((aY kvs P).map λx=>x.2)) then Res.bind (aIk 5 (b2 (aQ .add) iM dG) ((aY kvs P).map λx=>x.2)) (λys=>ε (ξ ys)) else .bad)=_;have h1:ϒ ((aY kvs P).length<=lim)=af:=cK (by rw[aY,bp,bT];lia);have h2:(aY kvs P).all (λp=>!isTup p.1)=af:=dQ.mpr λx hx=>by
    obtain⟨y,_,rfl⟩:=cS.mp hx;rfl
   have h3:θ ((aY kvs P).map (·.2))=af:=by
    rw[aY,gf,show(λp:D×D=>p.2) ∘ aFq kvs=δ ∘ λpc:Pc=>(vOf kvs pc.2:ai) from rfl,<-gf];exact vJ _
   rw[h1,h2,h3,av (show(af&&(af&&af))=af from rfl),aC2];rfl
  have kt:bTB (b2 (b8 (.ord .lt)) (b2 (aQ .sub) (aL gJ (aB iK aO)) dX) (aL XR (aB (aE1 0 5 (b2 (aQ .add) iM dG)) aO))) [.dct (aY kvs P),.lst (E.map enP),.int (fU E),.dct m,x']=.ok (ϒ (((E.map enP).length:ai)-fU E<((hks kvs P).length:ai))):=dR (aJ (x:=.int (((E.map enP).length:ai)-fU E)) (y:=.int ((hks kvs P).length:ai)) (aJ (x:=.int ((E.map enP).length:ai)) (y:=.int (fU E)) (aM (xs:=[.lst (E.map enP)]) (aD rfl rfl) (uI _)) rfl (aB0 _ _)) (aM (xs:=[.lst ((P.map (cnt kvs)).map δ)]) (aD hv rfl) (aL5 hk hP)) rfl);rw[bp] at kt;by_cases hc:(hks kvs P).length+fU E<=E.length
  ·rw[dq (by lia)] at kt;refine .inl ⟨⟨by simpa using g1 hZ,g2,hc⟩,(cG rfl).trans ?_⟩;have body:nY [.dct (aY kvs P),.lst (E.map enP),.uD,.uD,.uD]=.ok (.nx [.dct (aY kvs P),.lst (E.map enP),.int (fU E),.dct m,x']):=aK s1 (aK s2 (aK (q_ (d:=.lst (E.map enP)) (xs:=E.map enP) rfl rfl e) (vV kt)));show(do let r <- nY _;aDa r)=_;rw[show([D.dct (aY kvs P),ξ (E.map enP)]++ck (5-2) D.uD)=[.dct (aY kvs P),.lst (E.map enP),.uD,.uD,.uD] from rfl,body];rfl
  ·rw[cK (by lia)] at kt;exact .inr ⟨λz=>hc z.2.2,(cG rfl).trans (vU (aK s1 (aK s2 (aK (q_ (d:=.lst (E.map enP)) (xs:=E.map enP) rfl rfl e) (S5 kt)))))⟩
 ·refine .inr ⟨λz=>?_,(cG rfl).trans (vU (aK s1 (aK s2 (o7 (q_ (d:=.lst (E.map enP)) (xs:=E.map enP) rfl rfl e)))))⟩;rcases g with g|g
  ·exact g (by simpa using z.1)
  ·exact g z.2.1
noncomputable def norm(t:Tie):Tie:=(if ltP t.2 t.1 then t.2 else t.1,if ltP t.1 t.2 then t.2 else t.1)
theorem aI3{t:Tie}(h:ltP t.1 t.2):norm t=t:=by
 unfold norm;rw[az (irr _ _ h),av h]
theorem aI4{f:FE}{ρ:aa D}{d:D}(h:f ρ=.ok d):wD f ρ=.ok (.nx ρ):=by
 unfold wD;rw[h];rfl
theorem aC4{kvs:aa (D×D)}{Q:aa Pc}{e:Pt}(h:e∈hks kvs Q):∃pc∈Q,e.1=pc.1/\0<=e.2/\e.2<=vOf kvs pc.2:=by
 obtain⟨pc,m,h⟩:=xi.mp h;obtain⟨k,hk,rfl⟩:=cS.mp h;have:=kB.mp hk;exact⟨pc,m,rfl,by show(0:ai)<=k;lia,by show(k:ai)<=_;lia⟩
def aNc:D->Pc
 |.tup [.int n,.str s]=>(n,s)
 |_=>(0,"")
def S6(U:aa Pc):aa Pc:=(i_ (U.map pcD)).map aNc
theorem S7(U:aa Pc):(S6 U).map pcD=i_ (U.map pcD):=by
 unfold S6;rw[gf]
 conv=>rhs;rw[<-nh (i_ (U.map pcD))]
 refine lb λd hd=>?_
 obtain⟨t,_,rfl⟩:=cS.mp ((gB (U.map pcD)).mem_iff.mp hd);rfl
theorem aC5:∀{xs ys:aa Pc},xs.map pcD=ys.map pcD->xs=ys
 |[],[],_=>rfl
 |x::xs,y::ys,h=>by
  rw[bw,bw,iO] at h;rw[aC5 h.2]
  congr 1
  have:=di aNc h.1;exact this
 |[],_::_,h=>by cases h
 |_::_,[],h=>by cases h
theorem aC6{P:aa Pc}{pp:D}(h:Is pp (P.map pcD)):JL [pp]=.ok (.lst ((S6 P).map pcD)):=by
 rcases h with rfl|rfl
 ·show(if bQ (P.map pcD) then ε (ξ (i_ (P.map pcD))) else .bad)=_;rw[iR,av rfl,S7]
 ·show(if bQ (P.map pcD) then ε (ξ (i_ (P.map pcD))) else .bad)=_;rw[iR,av rfl,S7]
theorem YF(P:aa Pc)(U:aa Tie)(r:ai){pp tt:D}(hpp:Is pp (P.map pcD))(htt:Is tt (U.map bB))(hl:U.length<=lim):cF 3 oO [pp,tt,.int r]=.ok (gW (S6 P) (vR (U.map norm)) r):=by
 refine(cG rfl).trans (call_v ?_);have h2:(2:ah)<=lim:=by rw[bT];lia
 have hf:G4 (z6 4 (aDc 2) jA (cL (aB (aL (fL .lt) (aB d_ (aB iM aO))) (aB (aL (fL .gt) (aB d_ (aB iM aO))) aO))) ag [pp,tt,.int r,.uD]) [] (U.map bB)=.ok ((U.map norm).map bB):=by
  rw[eX _ bB (λ_=>af) (λt=>bB (norm t))]
  ·rw[ky.mpr (λ_ _=>rfl),gf,gd];rfl
  ·intro acc t;have e1:=aEc .lt t.1 t.2 ltP V2;have e2:=aEc .gt t.1 t.2 (λx y=>ltP y x) aFn;exact n_ (n:=4) (t:=aDc 2) (c:=jA) (k:=ag) (acc:=acc) (ρ:=[pp,tt,.int r,.uD]) (bs:=[enP t.1,enP t.2]) rfl rfl rfl λ_=>⟨g_ (aD (aM (aD rfl (aD rfl rfl)) e1) (aD (aM (aD rfl (aD rfl rfl)) e2) rfl)) h2,rfl⟩
 have hs:=V5 (U.map norm);refine aK (bN (j6 (jC (htt.var rfl) htt.items) (by rw[bp];exact hl) hf)) ?_;refine h_ (g_ (aD (aM (aD (aM (aD (hpp.var rfl) rfl) (aC6 hpp)) rfl) rfl) (aD (aM (aD (aM (aD rfl rfl) hs) rfl) rfl) (aD rfl rfl))) ?_) ?_
 ·rw[bT];show 3<=1000000;lia
 ·rw[V6];rfl
section
variable {kvs:aa (D×D)} {P:aa Pc} {U:aa Tie} {r:ai}
def iB(kvs:aa (D×D))(P:aa Pc)(U:aa Tie)(r:ai):Prop:=0<=r/\J3 kvs P/\aC3 kvs P (ends U)
theorem aI5{a:FE}{b:FA}{ρ:aa D}(h:a ρ=no):aB a b ρ=no:=by
 unfold aB;rw[h];rfl
theorem aEk{f:aa D->Res D}{a:FA}{ρ:aa D}(h:a ρ=no):aL f a ρ=no:=by
 unfold aL;rw[h];rfl
theorem aC7{f:aa D->Res D}{a:FA}{ρ xs:aa D}{r:Res D}(h:a ρ=.ok xs)(h2:f xs=r):aL f a ρ=r:=by
 unfold aL;rw[h];exact h2
theorem aC8{f:FE}{ρ:aa D}(h:f ρ=no):wD f ρ=no:=by
 unfold wD;rw[h];rfl
theorem aFr(hst:bO kvs){pp tt:D}(hpp:Is pp (P.map pcD))(htt:Is tt (U.map bB))(hP:P.length<=1000)(hU:U.length<=2000):(iB kvs P U r/\cF 4 n6 [.dct kvs,pp,tt,.int r]=.ok (gW (S6 P) (vR (U.map norm)) r))\/(¬iB kvs P U r/\cF 4 n6 [.dct kvs,pp,tt,.int r]=no):=by
 have k0:bTB (b2 (b8 (.ord .lt)) cJ cQ) [.dct kvs,pp,tt,.int r]=.ok (ϒ (r<0)):=dR (aJ rfl rfl rfl);by_cases hr:0<=r
 ·rw[dq (by lia)] at k0;have a1:noE (aB cH (aB iK aO)) [.dct kvs,pp,tt,.int r]=.ok [.dct kvs,pp]:=lE (aD rfl (aD (hpp.var rfl) rfl));rcases aHy hst P hpp hP with ⟨hs,h1⟩|⟨hs,h1⟩
  ·have hk:∀pc∈P,vOf kvs pc.2<=6:=λpc h=>by
    obtain⟨_,v,hv,ev⟩:=hs.2 pc h;rw[V4 ev];exact hv
   have h2:=aHz U htt (by rw[bT];lia);have a2:aB (aL (cF 2 cR) (noE (aB cH (aB iK aO)))) (noE (aB (aL (cF 1 nZ) (aB dX aO)) aO)) [.dct kvs,pp,tt,.int r]=.ok [.dct (aY kvs P),.lst ((ends U).map enP)]:=aD (aM a1 h1) (lE (aD (aM (aD (htt.var rfl) rfl) h2) rfl));rcases aI2 (kvs:=kvs) (P:=P) (ends U) hs.1 (by rw[V8];lia) hP hk with ⟨he,h3⟩|⟨he,h3⟩
   ·refine .inl ⟨⟨hr,hs,he⟩,(cG rfl).trans (call_v ?_)⟩;have ha:=YF P U r hpp htt (by rw[bT];lia);exact aK (vV k0) (aK (aI4 (aM a2 h3)) (lE (h_ (aM (aD (hpp.var rfl) (aD (htt.var rfl) (aD rfl rfl))) ha) rfl)))
   ·exact .inr ⟨λz=>he z.2.2,(cG rfl).trans (vU (aK (vV k0) (o7 (aC8 (aC7 a2 h3)))))⟩
  ·exact .inr ⟨λz=>hs z.2.1,(cG rfl).trans (vU (aK (vV k0) (o7 (aC8 (aEk (aI5 (aC7 a1 h1)))))))⟩
 ·rw[cK (by lia)] at k0;exact .inr ⟨λz=>hr z.1,(cG rfl).trans (vU (o7 (S5 k0)))⟩
theorem vW{α:Type}(f:α->D)(h:∀a,(f a).plain=af):∀xs:aa α,D.gM (xs.map f)=af
 |[]=>rfl
 |x::xs=>by rw[bw,D.gM,h,vW f h xs];rfl
theorem zK{α:Type}(f:α->D)(n:ah)(h:∀a,(f a).fY n=af):∀xs:aa α,ν n (xs.map f)=af
 |[]=>by cases n<;>rfl
 |x::xs=>by
  have:=zK f n h xs;rw[bw];unfold ν;rw[h,this];rfl
theorem PL(P:aa Pc)(U:aa Tie)(r:ai):(gW P U r).plain=af:=by
 show(D.gM (P.map pcD)&&(D.gM (U.map bB)&&af))=af;rw[vW pcD (λ_=>rfl),vW bB (λ_=>rfl)];rfl
theorem WD(P:aa Pc)(U:aa Tie)(r:ai):(gW P U r).fY aR=af:=by
 show(ν 10 (P.map pcD)&&(ν 10 (U.map bB)&&af))=af;rw[zK pcD 10 (λ_=>rfl),zK bB 10 (λ_=>rfl)];rfl
structure Good(kvs:aa (D×D))(P:aa Pc)(U:aa Tie)(r:ai):Prop where
 made:iB kvs P U r
 ps:S6 P=P
 ts:vR (U.map norm)=U
end
theorem aEm{Q:aa Pc}(h:Q.Pairwise LtN):S6 Q=Q:=by
 have h1:=aEf (xb Q) h;have h2:nG [.lst (Q.map pcD)]=.ok (.lst (i_ (Q.map pcD))):=by
  show(if bQ (Q.map pcD) then ε (ξ (i_ (Q.map pcD))) else .bad)=_;rw[iR,av rfl]
 rw[h2] at h1;have h3:i_ (Q.map pcD)=Q.map pcD:=by
  injection h1 with h1
  injection h1
 refine aC5 ?_;rw[S7,h3]
section
variable {kvs:aa (D×D)} {Q:aa Pc} {V:aa Tie} {r:ai}
theorem aFs(n:Net kvs Q V):∀e∈hks kvs Q,0<e.1:=λe he=>by
 obtain⟨pc,m,h1,_⟩:=aC4 he;rw[h1];exact n.qpos pc m
theorem vX(n:Net kvs Q V):(Q.map (·.1)).Nodup:=by
 refine xg (S:=λa b:ai=>a≠b) _ (λa b hab=>?_) n.qs;have hab:a.1<b.1:=hab;lia
theorem aC9(n:Net kvs Q V):J3 kvs Q:=⟨vX n,λpc h=>⟨n.qpos pc h,n.sk pc h⟩⟩
theorem aCa(n:Net kvs Q V):∃S:aa ai,S.Nodup/\(∀s∈S,0<=s/\s<S.length)/\(ends V).Perm (hks kvs Q++S.map rim)/\fU (ends V)=S.length:=by
 obtain⟨S,s1,s2,s3⟩:=n.rims;refine⟨S,s1,s2,s3,?_⟩;unfold fU;rw[(s3.filter _).length_eq,List.filter_append];have e1:(hks kvs Q).filter (λe=>e.1==0)=[]:=List.filter_eq_nil_iff.mpr λe he=>by
  have:=aFs n e he;simp;lia
 have e2:(S.map rim).filter (λe=>e.1==0)=S.map rim:=ky.mpr λe he=>by
  obtain⟨s,_,rfl⟩:=cS.mp he;rfl
 rw[e1,e2,gd,bp]
theorem PN(n:Net kvs Q V):(ends V).length=(hks kvs Q).length+fU (ends V):=by
 obtain⟨S,_,_,s3,s4⟩:=aCa n;rw[s3.length_eq,de,s4,bp]
theorem aCb(n:Net kvs Q V):∀e∈ends V,Place kvs Q (fU (ends V)) e:=λe he=>by
 obtain⟨S,s1,s2,s3,s4⟩:=aCa n;rcases eJ.mp (s3.mem_iff.mp he) with h|h
 ·have h0:=aFs n e h;exact⟨λz=>by lia,λ_=>aC4 h⟩
 ·obtain⟨s,hs,rfl⟩:=cS.mp h;refine⟨λ_=>?_,λz=>bb rfl z⟩;rw[s4];exact s2 s hs
theorem aEn(n:Net kvs Q V)(hr:0<=r):Good kvs Q V r:=by
 refine⟨⟨hr,aC9 n,n.nd,aCb n,by rw[PN n];exact bi _⟩,aEm n.qs,?_⟩;have:V.map norm=V:=by
  conv=>rhs;rw[<-nh V]
  exact lb λt ht=>aI3 (n.lt t ht)
 rw[this];exact aEe n.srt
theorem aCc{P:aa Pc}{U:aa Tie}(h:r<0):¬iB kvs P U r:=λg=>by have:=g.1;lia
theorem aEo{P:aa Pc}{U:aa Tie}(h:¬(P.map (·.1)).Nodup):¬iB kvs P U r:=λg=>h g.2.1.1
theorem aCd{P:aa Pc}{U:aa Tie}{pc:Pc}(m:pc∈P)(h:¬aLo kvs pc):¬iB kvs P U r:=λg=>h (g.2.1.2 pc m)
theorem aCe{P:aa Pc}{U:aa Tie}(h:¬(ends U).Nodup):¬iB kvs P U r:=λg=>h g.2.2.1
theorem S8{P:aa Pc}{U:aa Tie}{e:Pt}(m:e∈ends U)(h:¬Place kvs P (fU (ends U)) e):¬iB kvs P U r:=λg=>h (g.2.2.2.1 e m)
theorem aCf{P:aa Pc}{U:aa Tie}(h:(ends U).length<(hks kvs P).length+fU (ends U)):¬iB kvs P U r:=λg=>by have:=g.2.2.2.2;lia
theorem xF{U:aa Tie}{t:Tie}(h:t∈U):t.1∈ends U/\t.2∈ends U:=by
 unfold ends;exact⟨xi.mpr ⟨t,h,by simp⟩,xi.mpr ⟨t,h,by simp⟩⟩
end
theorem aCg{f:FE}{t:D->aa D->Res (aa D)}{ρ ρ':aa D}{d:D}(h:f ρ=.ok d)(hp:d.pure=af)(ht:t d ρ=.ok ρ'):aIj f t ρ=.ok (.nx ρ'):=by
 unfold aIj;rw[h,τ,av hp,ht];rfl
theorem zL{a b:FE}{ρ:aa D}{i j:ai}(h1:a ρ=.ok (.int i))(h2:b ρ=.ok (.int j)):cL (aB a (aB b aO)) ρ=.ok (enP (i,j)):=g_ (aD h1 (aD h2 rfl)) (by rw[bT];simp)
theorem wN{a b:FE}{ρ:aa D}{t:Tie}(h1:a ρ=.ok (enP t.1))(h2:b ρ=.ok (enP t.2)):cL (aB a (aB b aO)) ρ=.ok (bB t):=g_ (aD h1 (aD h2 rfl)) (by rw[bT];simp)
theorem aOe{α:Type}(f:α->D)(xs:aa α):gJ [.tup (xs.map f)]=.ok (.int xs.length):=by
 show ε (δ ((xs.map f).length:ai))=_;rw[bp]
theorem aNd{α:Type}(f:α->D)(xs:aa α):gJ [.lst (xs.map f)]=.ok (.int xs.length):=by
 show ε (δ ((xs.map f).length:ai))=_;rw[bp]
theorem aI6(n:ah)(i:ai)(h0:0<=i)(h1:i<n):ixD n i=ae i.toNat:=by
 unfold ixD;rw[av h0,av h1]
theorem aOf{α:Type}(f:α->D)(A B:aa α)(p:α):getD (.tup ((A++p::B).map f)) (.int A.length)=.ok (f p):=by
 show μ ((ixD ((A++p::B).map f).length A.length).bind λj=>((A++p::B).map f)[j]?)=_;rw[aI6 _ _ (by lia) (by simp;lia)];simp only[ni];rw[show((A.length:ai)).toNat=A.length by lia,dv,eL (by simp)];simp
theorem aNe{α:Type}(f:α->D)(A B:aa α)(p:α):getD (.scr ((A++p::B).map f)) (.int A.length)=.ok (f p):=by
 show μ ((ixD ((A++p::B).map f).length A.length).bind λj=>((A++p::B).map f)[j]?)=_;rw[aI6 _ _ (by lia) (by simp;lia)];simp only[ni];rw[show((A.length:ai)).toNat=A.length by lia,dv,eL (by simp)];simp
theorem getL{α:Type}(f:α->D)(A B:aa α)(p:α):getD (.lst ((A++p::B).map f)) (.int A.length)=.ok (f p):=by
 show μ ((ixD ((A++p::B).map f).length A.length).bind λj=>((A++p::B).map f)[j]?)=_;rw[aI6 _ _ (by lia) (by simp;lia)];simp only[ni];rw[show((A.length:ai)).toNat=A.length by lia,dv,eL (by simp)];simp
theorem YG{α:Type}(f:α->D)(xs:aa α):gJ [.scr (xs.map f)]=.ok (.int xs.length):=by
 show ε (δ ((xs.map f).length:ai))=_;rw[bp]
theorem cO{α:Type}(f:α->D)(h:∀a,(f a).pure=af):∀xs:aa α,θ (xs.map f)=af
 |[]=>rfl
 |x::xs=>by rw[bw,θ,h,cO f h xs];rfl
theorem WF{α:Type}(f:α->D)(h:∀a,(f a).pure=af)(A B:aa α):J9 (.scr ((A++B).map f)) aj (ae A.length)=.ok (.lst (A.map f)):=by
 show(if θ ((A++B).map f) then ε (ξ (cutD ((A++B).map f) aj (ae A.length))) else .bad)=_;rw[cO f h,av rfl];unfold cutD;rw[show zU ((A++B).map f).length 0 aj=0 from rfl];have:zU ((A++B).map f).length ((A++B).map f).length (ae A.length)=A.length:=by
  unfold zU;simp only;rw[az (by lia),bp,de];lia
 rw[this,yY,Nat.sub_zero,dv,List.take_append_of_le_length (by simp)];rw[mz (by simp)]
theorem aCh{α:Type}(f:α->D)(h:∀a,(f a).pure=af)(A B:aa α):J9 (.scr ((A++B).map f)) (ae A.length) aj=.ok (.lst (B.map f)):=by
 show(if θ ((A++B).map f) then ε (ξ (cutD ((A++B).map f) (ae A.length) aj)) else .bad)=_;rw[cO f h,av rfl];unfold cutD;have:zU ((A++B).map f).length 0 (ae A.length)=A.length:=by
  unfold zU;simp only;rw[az (by lia),bp,de];lia
 rw[this,show zU ((A++B).map f).length ((A++B).map f).length aj=((A++B).map f).length from rfl,dv,List.drop_append_of_le_length (by simp),oh (by simp),gd];rw[mz (by simp)]
theorem mQ{α:Type}(f:α->D)(hp:∀a,(f a).pure=af)(A B:aa α)(h:A.length+B.length<=10000):aQ .add (.lst (A.map f)) (.lst (B.map f))=.ok (.lst ((A++B).map f)):=by
 rw[dv];exact JB _ _ (by rw[bp,bp,bT];lia) (cO f hp _) (cO f hp _)
theorem J4{α:Type}{Q:aa α}{i:ai}(h0:0<=i)(h1:i<Q.length):∃A p B,Q=A++p::B/\(A.length:ai)=i:=by
 have hi:i.toNat<Q.length:=by lia
 refine⟨Q.take i.toNat,Q[i.toNat],Q.drop (i.toNat+1),?_,?_⟩
 ·rw[<-gq hi,jd]
 ·rw[gS];lia
abbrev Fa:=aa (D×D)×aa Pc×aa Tie
def fD(f:Fa):D:=.tup [.fdc f.1,.scr (f.2.1.map pcD),.scr (f.2.2.map bB)]
structure Bad(f:Fa):Prop where
 st:bO f.1
 ne:f.1≠[]
 lp:f.2.1.length<=1000
 lu:f.2.2.length<=1500
 no:∀r,¬iB f.1 f.2.1 f.2.2 r
theorem aI7{kvs:aa (D×D)}(h:bO kvs)(hne:kvs≠[]):K8 kvs=af:=by
 unfold K8;rw[show kvs.isEmpty=ag from by simpa using hne,qmt,lc];refine dQ.mpr λp hp=>?_
 obtain⟨s,v,rfl,_⟩:=h p hp;rfl
theorem aEp{kvs:aa (D×D)}(h:bO kvs)(hne:kvs≠[]):txK kvs=af:=by
 unfold txK;rw[show kvs.isEmpty=ag from by simpa using hne,qmt,lc];refine dQ.mpr λp hp=>?_
 obtain⟨s,v,rfl,_⟩:=h p hp;rfl
theorem mR:∀{kvs:aa (D×D)},bO kvs->θ (kvs.map (·.2))=af
 |[],_=>rfl
 |p::kvs,h=>by
  obtain⟨s,v,rfl,_⟩:=h p (cu ..);have:=mR (kvs:=kvs) λq hq=>h q (b6 _ hq)
  rw[bw,θ,this];rfl
theorem bF(t:Tie):(bB t).pure=af:=rfl
theorem dU(t:Pc):(pcD t).pure=af:=rfl
theorem zM{f:Fa}(h:Bad f):(fD f).pure=af:=by
 show(K8 f.1&&(θ (f.2.1.map pcD)&&(θ (f.2.2.map bB)&&af)))=af;rw[aI7 h.st h.ne,cO _ dU,cO _ bF];rfl
theorem zN{a b c:FE}{ρ:aa D}(f:Fa)(h1:a ρ=.ok (.fdc f.1))(h2:b ρ=.ok (.scr (f.2.1.map pcD)))(h3:c ρ=.ok (.scr (f.2.2.map bB))):cL (aB a (aB b (aB c aO))) ρ=.ok (fD f):=g_ (aD h1 (aD h2 (aD h3 rfl))) (by rw[bT];simp)
theorem aEq{i:ah}{f:FE}{ρ:aa D}{F:aa Fa}{a:Fa}(h:Bad a)(h1:f ρ=.ok (fD a))(h2:ρ.getD i .uD=.lst (F.map fD))(h3:F.length<10000):lJ i f ρ=.ok (.nx (ρ.set i (.lst ((F++[a]).map fD)))):=by
 rw[dv];exact yO h1 h2 (by rw[bp,bT];lia) (zM h)
theorem e_{F:aa Fa}{a:Fa}(h:∀f∈F,Bad f)(ha:Bad a):∀f∈F++[a],Bad f:=λf hf=>by
 rcases eJ.mp hf with hf|hf
 ·exact h f hf
 ·rw[show f=a by simpa using hf];exact ha
theorem oE{α:Type}(f:α->D)(hp:∀a,(f a).pure=af){e:FE}{ρ:aa D}{xs:aa α}(h:e ρ=.ok (.lst (xs.map f))):bFz e ρ=.ok (.scr (xs.map f)):=by
 unfold bFz;rw[h,τ];show(if θ (xs.map f) then _ else _)=_;rw[cO f hp,av rfl]
theorem PP{e:FE}{ρ:aa D}{d:D}(h:e ρ=.ok d)(hp:d.pure=af):bPu e ρ=.ok d:=by
 unfold bPu;rw[h,τ,av hp]
theorem oF{a:FA}{ρ xs:aa D}(h:a ρ=.ok xs)(hl:xs.length<=1000):uT a ρ=.ok (.lst xs):=by
 unfold uT;rw[h,τ,cK (by rw[bT];lia),av rfl];rfl
theorem aFt{i:ah}{g:FS}{ρ:aa D}{kvs:aa (D×D)}{d:D}(h:ρ.getD i .uD=.dct kvs)(h2:g (ρ.set i (.fdc kvs))=.ok (.rt d)):aKl i g ρ=.ok (.rt d):=by
 unfold aKl;rw[zB,h];show(do let r <- g (ρ.set i (.fdc kvs));match r with|.rt d=>ε (Fl.rt d)|_=>.bad)=_;rw[h2];rfl
theorem J5{α:Type}(f:α->D)(hp:∀a,(f a).pure=af)(xs:aa α):lD [.scr (xs.map f)]=.ok (.lst (xs.map f)):=by
 show(if θ (xs.map f) then _ else _)=_;rw[cO f hp,av rfl]
theorem WK{kvs:aa (D×D)}(h:bO kvs)(hne:kvs≠[]):z8 [.fdc kvs]=.ok (.dct kvs):=by
 show(if txK kvs&&θ (kvs.map (·.2)) then _ else _)=_;rw[aEp h hne,mR h];rfl
theorem zO{α:Type}(f:α->D)(hp:∀a,(f a).pure=af){e:FE}{ρ:aa D}{xs:aa α}(h:e ρ=.ok (.scr (xs.map f))):Y0 e ρ=.ok (xs.map f,af):=by
 unfold Y0;rw[h,τ];show(if θ (xs.map f) then _ else _)=_;rw[cO f hp,av rfl]
theorem aMx{i:ah}{ρ:aa D}{d:D}(hp:d.pure=af)(h:ρ.getD i .uD=d):jH i ρ=.ok d:=by
 rw[zB,h];cases d<;>first|rfl|cases hp
theorem PQ{α:Type}(f:α->D)(hp:∀a,(f a).pure=af)(U:aa α)(hl:U.length<=2000)(c:ai)(x:α):∃A B,U=A++B/\cF 3 bG [.scr (U.map f),.int c,f x]=.ok (.lst ((A++x::B).map f)):=by
 have h0:0<=c % ((U.length:ai)+1):=eM _ (by lia);have h1:c % ((U.length:ai)+1)<(U.length:ai)+1:=gi _ (by lia);generalize hi:c % ((U.length:ai)+1)=i at h0 h1;refine⟨U.take i.toNat,U.drop i.toNat,(jd ..).symm,(cG rfl).trans (call_v ?_)⟩;have hU:U=U.take i.toNat++U.drop i.toNat:=(jd ..).symm;have hA:((U.take i.toNat).length:ai)=i:=by
  rw[gS];lia
 generalize U.take i.toNat=A at *;generalize U.drop i.toNat=B at *;subst hU;have hm:aQ .mod (.int c) (.int (((A++B).length:ai)+1))=.ok (.int A.length):=by
  rw[dJ _ _ (by lia),hi,hA]
 rw[de] at hl;refine aK (bN (aJ rfl (aJ (aM (aD rfl rfl) (YG f (A++B))) rfl (dF _ _)) hm)) ?_;have e1:A++x::B=(A++[x])++B:=by simp
 rw[e1];refine h_ (aJ (aJ (O6 rfl rfl (fK rfl) (WF f hp A B)) (oF (xs:=[x].map f) (aD (PP (aMx (hp x) rfl) (hp x)) rfl) (by simp)) (mQ f hp A [x] (by simp;lia))) (O6 rfl (fK rfl) rfl (aCh f hp A B)) (mQ f hp (A++[x]) B (by simp;lia))) rfl
theorem aEr:cF 1 jU [.exc "NoNet" []]=.ok (.bl ag):=by
 refine(cG rfl).trans (call_v ?_);rfl
theorem FJ{kvs:aa (D×D)}{P:aa Pc}{U:aa Tie}{r:ai}(hst:bO kvs)(hne:kvs≠[])(hP:P.length<=1000)(hU:U.length<=1500)(h:¬iB kvs P U r):cF 4 eE [.fdc kvs,.scr (P.map pcD),.scr (U.map bB),.int r]=.ok (.bl af):=by
 refine(cG rfl).trans (call_v ?_);refine aK (bN rfl) ?_;have ha:(aB (aL z8 (aB cH aO)) (aB (aL lD (aB iK aO)) (aB (aL lD (aB dX aO)) (aB cJ aO)))) [.fdc kvs,.scr (P.map pcD),.scr (U.map bB),.int r,.non,.uD]=.ok [.dct kvs,.lst (P.map pcD),.lst (U.map bB),.int r]:=aD (aM (aD rfl rfl) (WK hst hne)) (aD (aM (aD rfl rfl) (J5 pcD dU P)) (aD (aM (aD rfl rfl) (J5 bB bF U)) (aD rfl rfl)));rcases aFr (r:=r) hst (pp:=.lst (P.map pcD)) (tt:=.lst (U.map bB)) (.inl rfl) (.inl rfl) hP (by lia) with ⟨g,_⟩|⟨_,e⟩
 ·exact bb g h
 have ht:aLn n6 4 (aB (aL z8 (aB cH aO)) (aB (aL lD (aB iK aO)) (aB (aL lD (aB dX aO)) (aB cJ aO)))) ["NoNet"] 4 5 [.fdc kvs,.scr (P.map pcD),.scr (U.map bB),.int r,.non,.uD]=.ok (.nx [.fdc kvs,.scr (P.map pcD),.scr (U.map bB),.int r,.exc "NoNet" [],.uD]):=by
  unfold aLn;rw[ha,τ,e];rfl
 refine aK ht ?_;exact h_ (V7 rfl (V7 rfl (aHw (k:=ag) (aM (xs:=[.exc "NoNet" []]) (aD rfl rfl) aEr)))) rfl
theorem aFu{kvs:aa (D×D)}{Q:aa Pc}{V:aa Tie}{r:ai}{pp tt:D}(hst:bO kvs)(n:Net kvs Q V)(hr:0<=r)(hpp:Is pp (Q.map pcD))(htt:Is tt (V.map bB)):cF 4 n6 [.dct kvs,pp,tt,.int r]=.ok (gW Q V r):=by
 have g:=aEn n hr;have l1:=n.ql;have l2:=n.small;rcases aFr (r:=r) hst hpp htt (by lia) (by lia) with ⟨_,e⟩|⟨z,_⟩
 ·rw[e,g.ps,g.ts]
 ·exact bb g.made z
def rb:FS:=(b_ ag 1 (b2 (aQ .add) (b2 (aQ .add) iK (aL aH8 (aB (b2 (b8 .eq) (b2 getD dX cQ) cQ) aO))) (aL aH8 (aB (b2 (b8 .eq) (b2 getD cJ cQ) cQ) aO))) af)
noncomputable def J6(e:Pt):ai:=if e.1==0 then 1 else 0
theorem uQ(e:Pt)(E:aa Pt):(fU (e::E):ai)=J6 e+fU E:=by
 unfold fU J6;rw[kj];split<;>simp<;>lia
theorem WL{a0:D}:∀(V:aa Tie)(m:ai)(x y:D),∃x' y',lW (tgN [2,3]) rb (V.map bB) [a0,.int m,x,y]=.ok (.nx [a0,.int (m+fU (ends V)),x',y'])
 |[],m,x,y=>⟨x,y,by rw[show fU (ends [])=0 from rfl];simp[lW]⟩
 |t::V,m,x,y=>by
  obtain⟨x',y',ih⟩:=WL (a0:=a0) V (m+J6 t.1+J6 t.2) (enP t.1) (enP t.2);refine⟨x',y',bZ rfl (bN ?_) (ih.trans ?_)⟩
  ·have k:∀e:Pt,aH8 [.bl (e.1==0)]=.ok (.int (J6 e)):=λe=>rfl
   exact aJ (aJ rfl (aM (aD (aJ (aJ rfl rfl rfl) rfl rfl) rfl) (k t.1)) (dF _ _)) (aM (aD (aJ (aJ rfl rfl rfl) rfl rfl) rfl) (k t.2)) (dF _ _)
  ·rw[show ends (t::V)=t.1::t.2::ends V from rfl,uQ,uQ,xj (m+J6 t.1),xj m,<-xj (J6 t.1)]
theorem aCi(Q:aa Pc)(V:aa Tie)(r:ai):cF 1 fB [gW Q V r]=.ok (.int (fU (ends V))):=by
 obtain⟨x',y',h⟩:=WL (a0:=gW Q V r) V 0 .uD .uD;rw[A3] at h;refine(cG rfl).trans (call_v ?_);refine aK (bN rfl) ?_;refine aK (nQ ((jC (aJ rfl rfl rfl) rfl).trans ?_) h) (h_ rfl rfl);show ε (V.map bB,ag||θ (V.map bB))=_;rw[oU];rfl
theorem aCj{E F:aa Pt}(h:E.Perm F):fU E=fU F:=(h.filter _).length_eq
theorem jE(A B:aa Tie)(t:Tie):(ends (A++t::B)).Perm (t.1::t.2::ends (A++B)):=by
 refine(O_ (sB (a:=t) (l₁:=A) (l₂:=B))).trans ?_;exact xb _
section
variable {kvs:aa (D×D)} {Q:aa Pc} {A B A' B':aa Tie} {t x:Tie} {r:ai}
theorem vY(h:x.1=x.2\/x.1∈ends (A++B)\/x.2∈ends (A++B)):¬iB kvs Q (A++x::B) r:=by
 refine aCe λz=>?_
 have z:=(jE A B x).nodup_iff.mp z;rw[eR,eR] at z;rcases h with h|h|h
 ·exact z.1 (by rw[h];simp)
 ·exact z.1 (b6 _ h)
 ·exact z.2.1 h
theorem WM{e:Pt}(he:e=x.1\/e=x.2)(h0:e.1≠0)(hno:∀pc∈Q,e.1=pc.1->¬(0<=e.2/\e.2<=vOf kvs pc.2)):¬iB kvs Q (A++x::B) r:=by
 refine S8 (e:=e) ?_ λz=>?_
 ·refine(jE A B x).mem_iff.mpr ?_;rcases he with rfl|rfl<;>simp
 ·obtain⟨pc,m,e1,e2⟩:=z.2 h0;exact hno pc m e1 e2
theorem aMy{V:aa Tie}(n:Net kvs Q V){a b:Pc}(ha:a∈Q)(hb:b∈Q)(e:a.1=b.1):vOf kvs a.2=vOf kvs b.2:=by
 have h1:=oA (kvs:=kvs) (vX n) ha;have h2:=oA (kvs:=kvs) (vX n) hb;rw[e,h2] at h1;have h1:(vOf kvs b.2:ai)=vOf kvs a.2:=by simpa using h1
 lia
theorem xG(hr:A'++B'=A++B):(fU (ends (A'++x::B')):ai)=J6 x.1+(J6 x.2+fU (ends (A++B))):=by
 rw[aCj (jE A' B' x),uQ,uQ,hr]
theorem aEs(n:Net kvs Q (A++t::B))(h:0<t.2.1)(hr:A'++B'=A++B){m:ai}(hx:x=(t.1,(0,m))):¬iB kvs Q (A'++x::B') r:=by
 have c:=PN n;have l1:=(jE A B t).length_eq;have l2:=(jE A' B' x).length_eq;have m1:=xG (A:=A) (B:=B) (A':=A) (B':=B) (x:=t) rfl;have m2:=xG (x:=x) hr;have o2:J6 t.2=0:=by
  unfold J6;rw[az (by simp;lia)]
 have o3:J6 x.2=1:=by rw[hx];rfl
 have o4:J6 x.1=J6 t.1:=by rw[hx]
 refine aCf ?_;rw[hr] at l2;simp only[cr] at l1 l2;lia
theorem YH(n:Net kvs Q (A++t::B))(h:t.1.1=0)(hr:A'++B'=A++B)(hx:x=((0,(fU (ends (A++t::B)):ai)),t.2)):¬iB kvs Q (A'++x::B') r:=by
 have m1:=xG (A:=A) (B:=B) (A':=A) (B':=B) (x:=t) rfl;have m2:=xG (x:=x) hr;have o1:J6 t.1=1:=by
  unfold J6;rw[av (by simpa using h)]
 have o2:J6 x.1=1:=by rw[hx];rfl
 have o3:J6 x.2=J6 t.2:=by rw[hx]
 refine S8 (e:=x.1) ((jE A' B' x).mem_iff.mpr (by simp)) λz=>?_
 have:=(z.1 (by rw[hx])).2;rw[show x.1.2=(fU (ends (A++t::B)):ai) by rw[hx]] at this;lia
theorem aCk(hx:x.1=(0,-1)):¬iB kvs Q (A++x::B) r:=by
 refine S8 (e:=x.1) ((jE A B x).mem_iff.mpr (by simp)) λz=>?_
 have:=(z.1 (by rw[hx])).1;rw[hx] at this;simp at this
theorem aI8{A B:aa Pc}{p:Pc}{U:aa Tie}(h:p.1∈(A++B).map (·.1)):¬iB kvs (A++p::B) U r:=by
 refine aEo λz=>?_
 have:=((sB (a:=p) (l₁:=A) (l₂:=B)).map (·.1)).nodup_iff.mp z;rw[bw,eR] at this;exact this.1 h
end
theorem PX(s:Str):∀(kvs:aa (D×D)),bO kvs->bR (jD kvs (.str s)) (.str s)=aj
 |[],_=>rfl
 |p::kvs,h=>by
  have ih:=PX s kvs λq hq=>h q (b6 _ hq)
  unfold jD at ih ⊢;rw[kj];by_cases z:eqD p.1 (.str s)=af
  ·rw[z];exact ih
  ·rw[show eqD p.1 (.str s)=ag by simpa using z,qmt,av rfl,bR,show eqD p.1 (.str s)=ag by simpa using z];exact ih
theorem YJ{kvs:aa (D×D)}(h:bO kvs)(k:D):bO (jD kvs k):=λp hp=>h p (gL.mp hp).1
theorem aI9{kvs:aa (D×D)}{s:Str}(h2:∃a b:Str,a≠b/\ι a∈fG kvs/\ι b∈fG kvs):jD kvs (.str s)≠[]:=λz=>by
 obtain⟨a,b,hab,ha,hb⟩:=h2;have key:∀c:Str,ι c∈fG kvs->c=s:=λc hc=>by
  obtain⟨p,hp,e⟩:=cS.mp hc;by_cases q:c=s
  ·exact q
  ·exfalso;have:p∈jD kvs (.str s):=gL.mpr ⟨hp,by rw[e];simp[eqD,q]⟩;rw[z] at this;cases this
 exact hab ((key a ha).trans (key b hb).symm)
theorem aL6{α:Type}(f:α->D)(hp:∀a,(f a).pure=af)(A B:aa α):cutD ((A++B).map f) aj (ae (A.length:ai))=A.map f:=by
 have h:=WF f hp A B;have e:J9 (.scr ((A++B).map f)) aj (ae A.length)=if θ ((A++B).map f) then ε (ξ (cutD ((A++B).map f) aj (ae (A.length:ai)))) else .bad:=rfl
 rw[e,cO f hp,av rfl] at h;injection h with h
 injection h
theorem aL7{α:Type}(f:α->D)(hp:∀a,(f a).pure=af)(A B:aa α):cutD ((A++B).map f) (ae (A.length:ai)) aj=B.map f:=by
 have h:=aCh f hp A B;have e:J9 (.scr ((A++B).map f)) (ae A.length) aj=if θ ((A++B).map f) then ε (ξ (cutD ((A++B).map f) (ae (A.length:ai)) aj)) else .bad:=rfl
 rw[e,cO f hp,av rfl] at h;injection h with h
 injection h
theorem aL8{α:Type}(f:α->D)(hp:∀a,(f a).pure=af)(A B:aa α)(t:α):J9 (.tup ((A++t::B).map f)) aj (ae (A.length:ai))=.ok (.tup (A.map f)):=by
 have e:J9 (.tup ((A++t::B).map f)) aj (ae (A.length:ai))=if !θ ((A++t::B).map f)||ϒ (zU ((A++t::B).map f).length 0 aj=0/\zU ((A++t::B).map f).length ((A++t::B).map f).length (ae (A.length:ai))=((A++t::B).map f).length) then .bad else .ok (.tup (cutD ((A++t::B).map f) aj (ae (A.length:ai)))):=rfl
 rw[e,cO f hp,dq,aL6 f hp A (t::B)]
 ·rfl
 ·intro z;have z:=z.2;unfold zU at z;simp only[bp,de,cr] at z;rw[az (by lia)] at z;lia
theorem aL9{α:Type}(f:α->D)(hp:∀a,(f a).pure=af)(A B:aa α)(t:α):J9 (.tup ((A++t::B).map f)) (ae ((A.length:ai)+1)) aj=.ok (.tup (B.map f)):=by
 have e:J9 (.tup ((A++t::B).map f)) (ae ((A.length:ai)+1)) aj=if !θ ((A++t::B).map f)||ϒ (zU ((A++t::B).map f).length 0 (ae ((A.length:ai)+1))=0/\zU ((A++t::B).map f).length ((A++t::B).map f).length aj=((A++t::B).map f).length) then .bad else .ok (.tup (cutD ((A++t::B).map f) (ae ((A.length:ai)+1)) aj)):=rfl
 have h2:=aL7 f hp (A++[t]) B;rw[eh,A8,show(((A++[t]).length:ah):ai)=(A.length:ai)+1 by simp] at h2;rw[e,cO f hp,dq,h2]
 ·rfl
 ·intro z;have z:=z.1;unfold zU at z;simp only[bp,de,cr] at z;rw[az (by lia)] at z;lia
theorem aCl{α:Type}(f:α->D)(hp:∀a,(f a).pure=af)(A B:aa α)(t:α):J9 (.scr ((A++t::B).map f)) (ae ((A.length:ai)+1)) aj=.ok (.lst (B.map f)):=by
 have h2:=aCh f hp (A++[t]) B;rw[eh,A8,show(((A++[t]).length:ah):ai)=(A.length:ai)+1 by simp] at h2;exact h2
theorem wA{α:Type}(f:α->D)(hp:∀a,(f a).pure=af)(xs:aa α):oV [.tup (xs.map f)]=.ok (.lst (xs.map f)):=by
 show(if θ (xs.map f) then _ else _)=_;rw[cO f hp,av rfl]
theorem pick{α:Type}(f:α->D){E:aa α}(h:E≠[])(c:ai):∃e∈E,getD (.lst (E.map f)) (.int (c % E.length))=.ok (f e):=by
 have hl:0<E.length:=sD.mpr h;obtain⟨A,e,B,h1,h2⟩:=J4 (Q:=E) (i:=c % E.length) (eM _ (by lia)) (gi _ (by lia));refine⟨e,by rw[h1];simp,?_⟩;rw[<-h2,h1];exact getL f A B e
theorem YK{a:FE}{ρ xs:aa D}(h:a ρ=.ok (.tup xs))(hp:θ xs=af):fZ a ag ρ=.ok (xs,af):=by
 rw[jC (fr:=ag) h rfl];show ε (xs,θ xs)=_;rw[hp]
theorem WN{a0 a1 a2 a3 a4 a5 a8 a9 a10:D}:∀(V:aa Tie)(E:aa Pt)(x:D),E.length+2*V.length<=10000->∃x',lW (tg1 7) (aLm 6 (aL oV (aB zV aO))) (V.map bB) [a0,a1,a2,a3,a4,a5,.lst (E.map enP),x,a8,a9,a10]=.ok (.nx [a0,a1,a2,a3,a4,a5,.lst ((E++ends V).map enP),x',a8,a9,a10])
 |[],E,x,_=>⟨x,by rw[show ends []=[] from rfl,fS];rfl⟩
 |t::V,E,x,h=>by
  rw[cr] at h;obtain⟨x',ih⟩:=WN (a0:=a0) (a1:=a1) (a2:=a2) (a3:=a3) (a4:=a4) (a5:=a5) (a8:=a8) (a9:=a9) (a10:=a10) V (E++[t.1,t.2]) (bB t) (by simp;lia);refine⟨x',bZ (ρ1:=[a0,a1,a2,a3,a4,a5,.lst (E.map enP),bB t,a8,a9,a10]) (ρ2:=[a0,a1,a2,a3,a4,a5,.lst ((E++[t.1,t.2]).map enP),bB t,a8,a9,a10]) rfl ?_ ?_⟩
  ·unfold aLm;have e:aL oV (aB zV aO) [a0,a1,a2,a3,a4,a5,.lst (E.map enP),bB t,a8,a9,a10]=.ok (.lst [enP t.1,enP t.2]):=aM (aD rfl rfl) rfl;rw[e,τ];show(if ϒ ((E.map enP).length+2<=lim)&&af then ε (Fl.nx [a0,a1,a2,a3,a4,a5,.lst (E.map enP++[enP t.1,enP t.2]),bB t,a8,a9,a10]) else .bad)=_;rw[cK (by rw[bp,bT];lia),dv];rfl
  ·rw[ih,show ends (t::V)=[t.1,t.2]++ends V from rfl,eh]
theorem WP{ρ:aa D}(i:ah){E:aa Pt}{o:Pt}(hρ:ρ.length=11)(h6:jH 6 ρ=.ok (.lst (E.map enP)))(hi:∀x,jH i (ρ++[x])=.ok (enP o))(hl:E.length<=10000):dN 11 (fZ lO ag) uU (bTB (b2 (b8 .ne) gH (jH i))) gH ag ρ=.ok (.lst ((E.filter λe=>!ϒ (e=o)).map enP)):=by
 refine j6 (jC h6 rfl) (by rw[bp,bT];lia) ?_;rw[eX _ enP (λe=>!ϒ (e=o)) enP]
 ·rfl
 ·intro acc p;have hv:jH 11 (ρ++[enP p])=.ok (enP p):=by
   have:(ρ++[enP p]).getD 11 .uD=enP p:=by
    rw[dh,eL (by lia),hρ];rfl
   rw[zB,this];rfl
  exact nR hρ (dR (aJ hv (hi _) (aBt p o))) λ_=>⟨hv,rfl⟩
theorem YL{kvs:aa (D×D)}{Q:aa Pc}{A B:aa Tie}{t:Tie}{r:ai}(n:Net kvs Q (A++t::B))(c:ai)(hc:c % ((A++t::B).length:ai)=A.length):∃f g:Pt,(f∈ends (A++t::B)/\f≠t.2)/\(g∈ends (A++t::B)/\g≠t.1)/\cF 2 iQ [gW Q (A++t::B) r,.int c]=.ok (.lst [.scr ((A++B++[(t.1,f)]).map bB),.scr (([(g,t.2)]++(A++B)).map bB)]):=by
 have hs:=n.small;have hV:0<((A++t::B).length:ai):=by simp;lia
 have ht:t.1≠t.2:=λz=>by
  have:=n.lt t (by simp);rw[z] at this;simp only[ltP] at this;lia
 have m1:t.1∈ends (A++t::B):=(xF (t:=t) (by simp)).1;have m2:t.2∈ends (A++t::B):=(xF (t:=t) (by simp)).2;have hE:(ends (A++t::B)).length<=3000:=by rw[V8];lia
 generalize hc2:c / ((A++t::B).length:ai)=mo;have hF:((ends (A++t::B)).filter λe=>!ϒ (e=t.2))≠[]:=λz=>by
  have:t.1∈(ends (A++t::B)).filter λe=>!ϒ (e=t.2):=gL.mpr ⟨m1,by simp[ht]⟩
  rw[z] at this;cases this
 have hG:((ends (A++t::B)).filter λe=>!ϒ (e=t.1))≠[]:=λz=>by
  have:t.2∈(ends (A++t::B)).filter λe=>!ϒ (e=t.1):=gL.mpr ⟨m2,by simp[Ne.symm ht]⟩
  rw[z] at this;cases this
 obtain⟨f,hf,ef⟩:=pick enP hF mo;obtain⟨g,hg,eg⟩:=pick enP hG (mo / 2);have hf':=gL.mp hf;have hg':=gL.mp hg;refine⟨f,g,⟨hf'.1,by simpa using hf'.2⟩,⟨hg'.1,by simpa using hg'.2⟩,(cG rfl).trans (call_v ?_)⟩;have pF:=sD.mpr hF;have pG:=sD.mpr hG;have g1:∀ρ:aa D,b2 getD cH dG (gW Q (A++t::B) r::ρ)=.ok (.tup ((A++t::B).map bB)):=λρ=>aJ rfl rfl (n1 Q (A++t::B) r)
 have gl:∀ρ:aa D,aL gJ (aB (b2 getD cH dG) aO) (gW Q (A++t::B) r::ρ)=.ok (.int ((A++t::B).length:ai)):=λρ=>aM (aD (g1 ρ) rfl) (aOe bB _)
 obtain⟨x7,e7⟩:=WN (a0:=gW Q (A++t::B) r) (a1:=.int c) (a2:=.int A.length) (a3:=enP t.1) (a4:=enP t.2) (a5:=.lst ((A++B).map bB)) (a8:=.uD) (a9:=.uD) (a10:=.uD) (A++t::B) [] .uD (by simp only[fT];lia);rw[gd] at e7;generalize hEE:ends (A++t::B)=E at *;generalize hFF:(E.filter λe=>!ϒ (e=t.2))=F at *;generalize hGG:(E.filter λe=>!ϒ (e=t.1))=G at *;have hm:aQ .mod (.int c) (.int ((A++t::B).length:ai))=.ok (.int A.length):=by rw[dJ _ _ hV,hc]
 have hfd:aQ .fdiv (.int c) (.int ((A++t::B).length:ai))=.ok (.int mo):=by rw[eQ _ _ hV (by lia),hc2]
 have hlim:((A++t::B).length:ai)<=1000:=by lia
 rw[show([gW Q (A++t::B) r,δ c]++ck (11-2) D.uD)=[gW Q (A++t::B) r,.int c,.uD,.uD,.uD,.uD,.uD,.uD,.uD,.uD,.uD] from rfl];refine aK (bN (aJ rfl (gl _) hm)) ?_;refine aK (ρ':=[gW Q (A++t::B) r,.int c,.int A.length,enP t.1,enP t.2,.uD,.uD,.uD,.uD,.uD,.uD]) (aCg (d:=bB t) (aJ (g1 _) rfl (aOf bB A B t)) rfl rfl) ?_;have lAB:A.length+B.length<=10000:=by simp at hlim;lia
 refine aK (bN (aJ (aM (aD (O6 (g1 _) rfl (fK rfl) (aL8 bB bF A B t)) rfl) (wA bB bF A)) (aM (aD (O6 (g1 _) (fK (aJ rfl rfl (dF _ _))) rfl (aL9 bB bF A B t)) rfl) (wA bB bF B)) (mQ bB bF A B lAB))) ?_;refine aK (eO rfl rfl) ?_;refine aK (nQ (YK (g1 _) (cO bB bF _)) e7) ?_;refine aK (ρ':=[gW Q (A++t::B) r,.int c,.int A.length,enP t.1,enP t.2,.lst ((A++B).map bB),.lst (E.map enP),x7,.lst (F.map enP),.uD,.uD]) (bN (by rw[<-hFF];exact WP 4 rfl rfl (λ_=>rfl) (by lia))) ?_;refine aK (ρ':=[gW Q (A++t::B) r,.int c,.int A.length,enP t.1,enP t.2,.lst ((A++B).map bB),.lst (E.map enP),x7,.lst (F.map enP),.lst (G.map enP),.uD]) (bN (by rw[<-hGG];exact WP 3 rfl rfl (λ_=>rfl) (by lia))) ?_;refine aK (ρ':=[gW Q (A++t::B) r,.int c,.int A.length,enP t.1,enP t.2,.lst ((A++B).map bB),.lst (E.map enP),x7,.lst (F.map enP),.lst (G.map enP),.int mo]) (bN (aJ (x:=.int c) rfl (gl _) hfd)) ?_;have kf:aQ .mod (.int mo) (.int (F.length:ai))=.ok (.int (mo % F.length)):=dJ _ _ (by lia);have kg:aQ .mod (.int (mo / 2)) (.int (G.length:ai))=.ok (.int (mo / 2 % G.length)):=dJ _ _ (by lia);have lAB':(A++B).length<=9000:=by simp at hlim ⊢;lia
 refine h_ (oF (aD (oE bB bF (aJ rfl (oF (xs:=[(t.1,f)].map bB) (aD (PP (wN rfl (aJ rfl (aJ rfl (aM (aD rfl rfl) (aNd enP F)) kf) ef)) rfl) rfl) (by simp)) (mQ bB bF (A++B) [(t.1,f)] (by simp at lAB' ⊢;lia)))) (aD (oE bB bF (aJ (oF (xs:=[(g,t.2)].map bB) (aD (PP (wN (aJ rfl (aJ (aJ rfl rfl (eQ mo 2 (by decide) (by decide))) (aM (aD rfl rfl) (aNd enP G)) kg) eg) rfl) rfl) rfl) (by simp)) rfl (mQ bB bF [(g,t.2)] (A++B) (by simp at lAB' ⊢;lia)))) rfl)) (by simp)) rfl
section
variable {kvs:aa (D×D)} {Q:aa Pc} {A B:aa Tie} {t:Tie} {r c:ai}
def stT(kvs:aa (D×D))(Q:aa Pc)(A B:aa Tie)(t:Tie)(r c:ai)(F:aa Fa)(x:D):aa D:=[.fdc kvs,gW Q (A++t::B) r,.int c,.scr (Q.map pcD),.scr ((A++t::B).map bB),enP (0,(fU (ends (A++t::B)):ai)),.int A.length,.scr ((A++B).map bB),enP t.1,enP t.2,.lst (F.map fD),x]
theorem aNf{ρ:aa D}{i:ah}{e:FE}{U:aa Tie}{x:Tie}(hl:U.length<=1200)(h2:ρ.getD 2 .uD=.int c)(hi:ρ.getD i .uD=.scr (U.map bB))(he:e ρ=.ok (bB x)):∃A' B',A'++B'=U/\bFz (aL (cF 3 bG) (aB (jH i) (aB (b2 (aQ .fdiv) dX zX) (aB e aO)))) ρ=.ok (.scr ((A'++x::B').map bB)):=by
 obtain⟨A',B',h,ep⟩:=PQ bB bF U (by lia) (c / 7) x;refine⟨A',B',h.symm,oE bB bF (aM (aD (by rw[zB,hi];rfl) (aD (aJ (x:=.int c) ((zB 2 ρ).trans (by rw[h2];rfl)) rfl (eQ _ _ (by decide) (by decide))) (aD he rfl))) ep)⟩
theorem aLa(hst:bO kvs)(hne:kvs≠[])(n:Net kvs Q (A++t::B)){F:aa Fa}{x:D}{i:ah}{e:FE}{U:aa Tie}{z:Tie}(hU:U.length<=1000)(hi:(stT kvs Q A B t r c F x).getD i .uD=.scr (U.map bB))(he:e (stT kvs Q A B t r c F x)=.ok (bB z))(hb:∀A' B' r,A'++B'=U->¬iB kvs Q (A'++z::B') r)(hF:∀f∈F,Bad f)(hl:F.length<=50):∃a,Bad a/\lJ 10 (cL (aB cH (aB cJ (aB (bFz (aL (cF 3 bG) (aB (jH i) (aB (b2 (aQ .fdiv) dX zX) (aB e aO))))) aO)))) (stT kvs Q A B t r c F x)=.ok (.nx (stT kvs Q A B t r c (F++[a]) x)):=by
 obtain⟨A',B',h,ep⟩:=aNf (c:=c) (by lia) rfl hi he;have lq:=n.ql;have bd:Bad (kvs,Q,A'++z::B'):=⟨hst,hne,by show Q.length<=1000;lia,by
  show(A'++z::B').length<=1500;have:=di fx h;simp at this ⊢;lia,λr=>hb A' B' r h⟩
 exact⟨_,bd,aEq bd (zN (kvs,Q,A'++z::B') rfl rfl ep) rfl (by lia)⟩
theorem YM(hst:bO kvs)(hne:kvs≠[]){V:aa Tie}(n:Net kvs Q V)(hV:0<V.length)(c:ai):∃F:aa Fa,(∀f∈F,Bad f)/\F.length<=10/\cF 3 fQ [.fdc kvs,gW Q V r,.int c]=.ok (.lst (F.map fD)):=by
 obtain⟨A,t,B,rfl,hA⟩:=J4 (Q:=V) (i:=c % V.length) (eM _ (by lia)) (gi _ (by lia));have hs:=n.small;have hVi:0<((A++t::B).length:ai):=by lia
 have hm:aQ .mod (.int c) (.int ((A++t::B).length:ai))=.ok (.int A.length):=by rw[dJ _ _ hVi,hA]
 have lAB:A.length+B.length<=1000:=by simp at hs;lia
 have lU:(A++B).length<=1000:=by simp;lia
 have m1:t.1∈ends (A++t::B):=(xF (t:=t) (by simp)).1;have m2:t.2∈ends (A++t::B):=(xF (t:=t) (by simp)).2;obtain⟨f,g,⟨hf1,hf2⟩,⟨hg1,hg2⟩,ew⟩:=YL (r:=r) n c hA.symm;have lq:=n.ql
 -- the first one
 obtain⟨A0,B0,h0,e0⟩:=aNf (c:=c) (ρ:=[.fdc kvs,gW Q (A++t::B) r,.int c,.scr (Q.map pcD),.scr ((A++t::B).map bB),enP (0,(fU (ends (A++t::B)):ai)),.int A.length,.scr ((A++B).map bB),enP t.1,enP t.2,.uD,.uD]) (i:=4) (e:=cL (aB iT (aB o9 aO))) (x:=t) (U:=A++t::B) (by lia) rfl rfl (wN rfl rfl);have b0:Bad (kvs,Q,A0++t::B0):=⟨hst,hne,by show Q.length<=1000;lia,by
  show(A0++t::B0).length<=1500;have:=di fx h0;simp at this hs ⊢;lia,λr=>vY (.inr (.inl (by rw[h0];exact m1)))⟩
 have k0:∀f∈[((kvs,Q,A0++t::B0):Fa)],Bad f:=λf hf=>by rw[show f=_ by simpa using hf];exact b0
 obtain⟨a1,bb1,s1⟩:=aLa (r:=r) (c:=c) hst hne n (F:=[(kvs,Q,A0++t::B0)]) (x:=.uD) (i:=4) (e:=cL (aB iT (aB iM aO))) (z:=(t.1,(0,(fU (ends (A++t::B)):ai)))) hs rfl (wN rfl rfl) (λA' B' r h=>vY (.inr (.inl (by rw[h];exact m1)))) k0 (by simp);have k1:=e_ k0 bb1;obtain⟨a2,b2_,s2⟩:=aLa (r:=r) (c:=c) hst hne n (F:=[(kvs,Q,A0++t::B0)]++[a1]) (x:=.uD) (i:=4) (e:=cL (aB iM (aB o9 aO))) (z:=((0,(fU (ends (A++t::B)):ai)),t.2)) hs rfl (wN rfl rfl) (λA' B' r h=>vY (.inr (.inr (by rw[h];exact m2)))) k1 (by simp);have k2:=e_ k1 b2_
 -- written
 have bw1:Bad (kvs,Q,A++B++[(t.1,f)]):=⟨hst,hne,by show Q.length<=1000;lia,by show(A++B++[(t.1,f)]).length<=1500;simp;lia,λr=>by
  have:=vY (kvs:=kvs) (Q:=Q) (A:=A++B) (B:=[]) (x:=(t.1,f)) (r:=r) ?_
  ·exact this
  ·rw[fS];rcases bX.mp ((jE A B t).mem_iff.mp hf1) with h|h
   ·exact .inl h.symm
   ·rcases bX.mp h with h|h
    ·exact bb h hf2
    ·exact .inr (.inr h)⟩
 have bw2:Bad (kvs,Q,[(g,t.2)]++(A++B)):=⟨hst,hne,by show Q.length<=1000;lia,by show([(g,t.2)]++(A++B)).length<=1500;simp;lia,λr=>by
  have:=vY (kvs:=kvs) (Q:=Q) (A:=[]) (B:=A++B) (x:=(g,t.2)) (r:=r) ?_
  ·exact this
  ·rw[gd];rcases bX.mp ((jE A B t).mem_iff.mp hg1) with h|h
   ·exact bb h hg2
   ·rcases bX.mp h with h|h
    ·exact .inl h
    ·exact .inr (.inl h)⟩
 generalize hF2:[((kvs,Q,A0++t::B0):Fa)]++[a1]++[a2]=F2 at *;have l2:F2.length=3:=by rw[<-hF2];rfl
 have sw:lW (tg1 11) (lJ 10 (cL (aB cH (aB cJ (aB gH aO))))) [.scr ((A++B++[(t.1,f)]).map bB),.scr (([(g,t.2)]++(A++B)).map bB)] (stT kvs Q A B t r c F2 .uD)=.ok (.nx (stT kvs Q A B t r c (F2++[(kvs,Q,A++B++[(t.1,f)])]++[(kvs,Q,[(g,t.2)]++(A++B))]) (.scr (([(g,t.2)]++(A++B)).map bB)))):=by
  refine bZ (ρ1:=stT kvs Q A B t r c F2 (.scr ((A++B++[(t.1,f)]).map bB))) rfl (aEq bw1 (zN (kvs,Q,A++B++[(t.1,f)]) rfl rfl rfl) rfl (by lia)) ?_;exact bZ (ρ1:=stT kvs Q A B t r c (F2++[(kvs,Q,A++B++[(t.1,f)])]) (.scr (([(g,t.2)]++(A++B)).map bB))) rfl (aEq bw2 (zN (kvs,Q,[(g,t.2)]++(A++B)) rfl rfl rfl) rfl (by simp;lia)) rfl
 have k4:=e_ (e_ k2 bw1) bw2;generalize hF4:F2++[((kvs,Q,A++B++[(t.1,f)]):Fa)]++[(kvs,Q,[(g,t.2)]++(A++B))]=F4 at *;have l4:F4.length=5:=by rw[<-hF4];simp[l2]
 generalize hx4:D.scr (([(g,t.2)]++(A++B)).map bB)=x4 at *
 -- a hook that stands nowhere
 have s5:∃F5:aa Fa,(∀f∈F5,Bad f)/\F5.length<=6/\(sIf (bTB (b2 (b8 (.ord .gt)) (b2 getD o9 cQ) cQ)) (lJ 10 (cL (aB cH (aB cJ (aB (bFz (aL (cF 3 bG) (aB zV (aB (b2 (aQ .fdiv) dX zX) (aB (cL (aB iT (aB iM aO))) aO))))) aO))))) jM) (stT kvs Q A B t r c F4 x4)=.ok (.nx (stT kvs Q A B t r c F5 x4)):=by
  have ht:bTB (b2 (b8 (.ord .gt)) (b2 getD o9 cQ) cQ) (stT kvs Q A B t r c F4 x4)=.ok (ϒ (t.2.1 > 0)):=dR (aJ (aJ rfl rfl rfl) rfl rfl);by_cases h:t.2.1 > 0
  ·rw[cK h] at ht;obtain⟨a,ba,sa⟩:=aLa (r:=r) (c:=c) hst hne n (F:=F4) (x:=x4) (i:=7) (e:=cL (aB iT (aB iM aO))) (z:=(t.1,(0,(fU (ends (A++t::B)):ai)))) lU rfl (wN rfl rfl) (λA' B' r h'=>aEs n h h' rfl) k4 (by lia);exact⟨_,e_ k4 ba,by simp[l4],RZ ht sa⟩
  ·rw[dq h] at ht;exact⟨F4,k4,by lia,wF ht rfl⟩
 obtain⟨F5,k5,l5,s5⟩:=s5;have s6:∃F6:aa Fa,(∀f∈F6,Bad f)/\F6.length<=8/\(sIf (bTB (b2 (b8 .eq) (b2 getD iT cQ) cQ)) (bI (lJ 10 (cL (aB cH (aB cJ (aB (bFz (aL (cF 3 bG) (aB zV (aB (b2 (aQ .fdiv) dX zX) (aB (cL (aB iM (aB o9 aO))) aO))))) aO))))) (lJ 10 (cL (aB cH (aB cJ (aB (bFz (aL (cF 3 bG) (aB zV (aB (b2 (aQ .fdiv) dX zX) (aB (cL (aB (cL (aB cQ (aB (b1 YT dG) aO))) (aB o9 aO))) aO))))) aO)))))) jM) (stT kvs Q A B t r c F5 x4)=.ok (.nx (stT kvs Q A B t r c F6 x4)):=by
  have ht:bTB (b2 (b8 .eq) (b2 getD iT cQ) cQ) (stT kvs Q A B t r c F5 x4)=.ok (t.1.1==0):=dR (aJ (aJ rfl rfl rfl) rfl rfl);by_cases h:t.1.1=0
  ·rw[show(t.1.1==0)=af by simpa using h] at ht;obtain⟨a,ba,sa⟩:=aLa (r:=r) (c:=c) hst hne n (F:=F5) (x:=x4) (i:=7) (e:=cL (aB iM (aB o9 aO))) (z:=((0,(fU (ends (A++t::B)):ai)),t.2)) lU rfl (wN rfl rfl) (λA' B' r h'=>YH n h h' rfl) k5 (by lia);have k6:=e_ k5 ba;obtain⟨a',ba',sa'⟩:=aLa (r:=r) (c:=c) hst hne n (F:=F5++[a]) (x:=x4) (i:=7) (e:=cL (aB (cL (aB cQ (aB (b1 YT dG) aO))) (aB o9 aO))) (z:=((0,-1),t.2)) lU rfl (wN (zL rfl (YC rfl rfl)) rfl) (λA' B' r h'=>aCk rfl) k6 (by simp;lia);exact⟨_,e_ k6 ba',by simp;lia,RZ ht (aK sa sa')⟩
  ·rw[show(t.1.1==0)=ag by simpa using h] at ht;exact⟨F5,k5,by lia,wF ht rfl⟩
 obtain⟨F6,k6,l6,s6⟩:=s6;refine⟨F6,k6,by lia,(cG rfl).trans (call_v ?_)⟩;refine aK (bN (oE pcD dU (aM (aD (aJ rfl rfl (n0 Q (A++t::B) r)) rfl) (wA pcD dU Q)))) ?_;refine aK (bN (oE bB bF (aM (aD (aJ rfl rfl (n1 Q (A++t::B) r)) rfl) (wA bB bF (A++t::B))))) ?_;refine aK (bN (zL rfl (aM (aD rfl rfl) (aCi Q (A++t::B) r)))) ?_;refine aK (bN (aJ rfl (aM (aD rfl rfl) (YG bB (A++t::B))) hm)) ?_;refine aK (bN (oE bB bF (aJ (O6 rfl rfl (fK rfl) (WF bB bF A (t::B))) (O6 rfl (fK (aJ rfl rfl (dF _ _))) rfl (aCl bB bF A B t)) (mQ bB bF A B (by lia))))) ?_;refine aK (ρ':=[.fdc kvs,gW Q (A++t::B) r,.int c,.scr (Q.map pcD),.scr ((A++t::B).map bB),enP (0,(fU (ends (A++t::B)):ai)),.int A.length,.scr ((A++B).map bB),enP t.1,enP t.2,.uD,.uD]) (aCg (d:=bB t) (aJ rfl rfl (aNe bB A B t)) rfl rfl) ?_;refine aK (ρ':=stT kvs Q A B t r c [(kvs,Q,A0++t::B0)] .uD) (eO (d:=.lst [fD (kvs,Q,A0++t::B0)]) (oF (aD (PP (zN (kvs,Q,A0++t::B0) rfl rfl e0) (zM b0)) rfl) (by simp)) ?_) ?_
 ·show θ [fD (kvs,Q,A0++t::B0)]=af;rw[θ,zM b0];rfl
 refine aK s1 (aK s2 ?_);refine aK (nQ (jC (fr:=af) (aM (aD rfl (aD rfl rfl)) ew) rfl) sw) ?_;refine aK s5 (aK s6 ?_);rfl
end
noncomputable def eb(n low up:ai)(e:Pt):Pt:=if e.1=n then (low,e.2) else if e.1=0/\low=0 then (0,e.2+up) else e
theorem zP(n low up:ai)(e:Pt):cF 4 bY [enP e,.int n,.int low,.int up]=.ok (enP (eb n low up e)):=by
 refine(cG rfl).trans (call_v ?_);have k1:bTB (b2 (b8 .eq) (b2 getD cH cQ) iK) [enP e,.int n,.int low,.int up]=.ok (e.1==n):=dR (aJ (aJ rfl rfl rfl) rfl rfl);have k2:bTB (b2 (b8 .eq) (b2 getD cH cQ) cQ) [enP e,.int n,.int low,.int up]=.ok (e.1==0):=dR (aJ (aJ rfl rfl rfl) rfl rfl);have k3:bTB (b2 (b8 .eq) dX cQ) [enP e,.int n,.int low,.int up]=.ok (low==0):=dR (aJ rfl rfl rfl);unfold eb;by_cases h1:e.1=n
 ·rw[show(e.1==n)=af by simpa using h1] at k1;rw[av h1];exact aC0 (RZ k1 (h_ (zL rfl (aJ rfl rfl rfl)) rfl))
 ·rw[show(e.1==n)=ag by simpa using h1] at k1;rw[az h1];refine aK (wF k1 rfl) ?_;by_cases h2:e.1=0
  ·rw[show(e.1==0)=af by simpa using h2] at k2;by_cases h3:low=0
   ·rw[show(low==0)=af by simpa using h3] at k3;rw[av ⟨h2,h3⟩];exact aC0 (RZ (XQ k2 k3) (h_ (zL rfl (aJ (aJ rfl rfl rfl) rfl (dF _ _))) rfl))
   ·rw[show(low==0)=ag by simpa using h3] at k3;rw[az (λz=>h3 z.2)];exact aK (wF (XQ k2 k3) rfl) (h_ rfl rfl)
  ·rw[show(e.1==0)=ag by simpa using h2] at k2;rw[az (λz=>h2 z.1)];exact aK (wF (aAy k2) rfl) (h_ rfl rfl)
section
variable {kvs:aa (D×D)} {A B:aa Pc} {p:Pc} {V:aa Tie} {r c:ai}
def stP(kvs:aa (D×D))(A B:aa Pc)(p:Pc)(V:aa Tie)(r c:ai)(F:aa Fa)(x8 x9 x10 x11 x12 x13 x14 x15:D):aa D:=[.fdc kvs,gW (A++p::B) V r,.int c,.scr ((A++p::B).map pcD),.scr (V.map bB),.int p.1,.str p.2,.lst (F.map fD),x8,x9,x10,x11,x12,x13,x14,x15]
def smP(n low:ai)(pc:Pc):Pc:=((eb n low 0 (pc.1,0)).1,pc.2)
def mvT(n low up:ai)(t:Tie):Tie:=(eb n low up t.1,eb n low up t.2)
def aMz:FS:=(bI (b_ ag 9 (bFz (dN 16 (Y0 cJ) (aDc 2) jA (cL (aB (b2 getD (aL (cF 4 bY) (aB (cL (aB GX (aB cQ aO))) (aB iM (aB iT (aB cQ aO))))) cQ) (aB (jH 17) aO))) ag)) af) (bI (b_ ag 10 (b2 (aQ .add) (b2 getD cH lO) dG) af) (bI (b_ ag 11 (bFz (dN 16 (Y0 d_) uU jA (cL (aB (aL (cF 4 bY) (aB (b2 getD GX cQ) (aB iM (aB iT (aB wC aO))))) (aB (aL (cF 4 bY) (aB (b2 getD GX dG) (aB iM (aB iT (aB wC aO))))) aO))) af)) af) (lJ 7 (cL (aB cH (aB o9 (aB gH aO))))))))
def aLb:FS:=(sIf (T8 (bTB (b2 (b8 .ne) gY (bC (.str "")))) (bTB (b2 NB gY cH))) (lJ 7 (cL (aB cH (aB (bFz (b2 (aQ .add) (b2 (aQ .add) (aAw cJ o_ (jJ x_)) (uT (aB (bPu (cL (aB iM (aB gY aO)))) aO))) (aAw cJ (jJ (b2 (aQ .add) x_ dG)) o_))) (aB d_ aO))))) jM)
def aN0:FS:=(lJ 7 (cL (aB cH (aB cJ (aB (bFz (aL (cF 3 bG) (aB d_ (aB (b2 (aQ .fdiv) dX (bC (.int 11))) (aB (cL (aB (jH 15) (aB (cL (aB cQ (aB (aL (cF 1 fB) (aB iK aO)) aO))) aO))) aO))))) aO)))))
theorem aIa{F:aa Fa}{low:ai}{x9 x10 x11 x12 x13 x14 x15:D}(n:Net kvs (A++p::B) V):(dN 16 (Y0 cJ) (aDc 2) jA (cL (aB (b2 getD (aL (cF 4 bY) (aB (cL (aB GX (aB cQ aO))) (aB iM (aB iT (aB cQ aO))))) cQ) (aB (jH 17) aO))) ag) (stP kvs A B p V r c F (.int low) x9 x10 x11 x12 x13 x14 x15)=.ok (.lst (((A++p::B).map (smP p.1 low)).map pcD)):=by
 refine j6 (zO pcD dU rfl) (by rw[bp,bT];have:=n.ql;lia) ?_;rw[eX _ pcD (λ_=>af) (λq=>pcD (smP p.1 low q))]
 ·rw[ky.mpr (λ_ _=>rfl),gf];rfl
 ·intro acc q;exact n_ (n:=16) (t:=aDc 2) (c:=jA) (k:=ag) (acc:=acc) (ρ:=stP kvs A B p V r c F (.int low) x9 x10 x11 x12 x13 x14 x15) (bs:=[.int q.1,.str q.2]) (b:=af) rfl rfl rfl λ_=>⟨g_ (aD (aJ (x:=enP (eb p.1 low 0 (q.1,0))) (aM (xs:=[enP (q.1,0),.int p.1,.int low,.int 0]) (aD (zL rfl rfl) (aD rfl (aD rfl (aD rfl rfl)))) (zP _ _ _ _)) rfl rfl) (aD rfl rfl)) (by rw[bT];simp),rfl⟩
theorem aEt{F:aa Fa}{low up:ai}{x9 x11 x12 x13 x14 x15:D}(n:Net kvs (A++p::B) V):(dN 16 (Y0 d_) uU jA (cL (aB (aL (cF 4 bY) (aB (b2 getD GX cQ) (aB iM (aB iT (aB wC aO))))) (aB (aL (cF 4 bY) (aB (b2 getD GX dG) (aB iM (aB iT (aB wC aO))))) aO))) af) (stP kvs A B p V r c F (.int low) x9 (.int up) x11 x12 x13 x14 x15)=.ok (.lst ((V.map (mvT p.1 low up)).map bB)):=by
 refine j6 (zO bB bF rfl) (by rw[bp,bT];have:=n.small;lia) ?_;rw[eX _ bB (λ_=>af) (λq=>bB (mvT p.1 low up q))]
 ·rw[ky.mpr (λ_ _=>rfl),gf];rfl
 ·intro acc q;exact n_ (n:=16) (t:=uU) (c:=jA) (k:=af) (acc:=acc) (ρ:=stP kvs A B p V r c F (.int low) x9 (.int up) x11 x12 x13 x14 x15) (bs:=[bB q]) (b:=af) rfl rfl rfl λ_=>⟨wN (t:=mvT p.1 low up q) (aM (xs:=[enP q.1,.int p.1,.int low,.int up]) (aD (aJ (x:=bB q) rfl rfl rfl) (aD rfl (aD rfl (aD rfl rfl)))) (zP _ _ _ _)) (aM (xs:=[enP q.2,.int p.1,.int low,.int up]) (aD (aJ (x:=bB q) rfl rfl rfl) (aD rfl (aD rfl (aD rfl rfl)))) (zP _ _ _ _)),rfl⟩
theorem aFv{v:ah}(ev:bR kvs (.str p.2)=ae (.int v)):getD (.fdc kvs) (.str p.2)=.ok (.int v):=by
 show(if keyOk (.str p.2) then μ (bR kvs (.str p.2)) else .bad)=_;rw[ev];rfl
theorem WQ{v:ah}(ev:bR kvs (.str p.2)=ae (.int v))(hst:bO kvs)(hne:kvs≠[])(n:Net kvs (A++p::B) V){low:ai}(hlow:low<=0){F:aa Fa}(hl:F.length<=50)(x9 x10 x11 x12 x13 x14 x15:D):∃a y9 y10 y11,Bad a/\aMz (stP kvs A B p V r c F (.int low) x9 x10 x11 x12 x13 x14 x15)=.ok (.nx (stP kvs A B p V r c (F++[a]) (.int low) y9 y10 y11 x12 x13 x14 x15)):=by
 have lq:=n.ql;have ls:=n.small;have ba:Bad (kvs,(A++p::B).map (smP p.1 low),V.map (mvT p.1 low ((v:ai)+1))):=⟨hst,hne,by show((A++p::B).map _).length<=1000;rw[bp];lia,by show(V.map _).length<=1500;rw[bp];lia,λr=>aCd (pc:=smP p.1 low p) (cS.mpr ⟨p,by simp,rfl⟩) λz=>by
  have:=z.1;unfold smP eb at this;rw[av rfl] at this;simp at this;lia⟩
 refine⟨_,.scr (((A++p::B).map (smP p.1 low)).map pcD),.int ((v:ai)+1),.scr ((V.map (mvT p.1 low ((v:ai)+1))).map bB),ba,?_⟩;refine aK (ρ':=stP kvs A B p V r c F (.int low) (.scr (((A++p::B).map (smP p.1 low)).map pcD)) x10 x11 x12 x13 x14 x15) (bN (oE pcD dU (aIa n))) ?_;refine aK (ρ':=stP kvs A B p V r c F (.int low) (.scr (((A++p::B).map (smP p.1 low)).map pcD)) (.int ((v:ai)+1)) x11 x12 x13 x14 x15) (bN (aJ (aJ rfl rfl (aFv ev)) rfl (dF _ _))) ?_;refine aK (ρ':=stP kvs A B p V r c F (.int low) (.scr (((A++p::B).map (smP p.1 low)).map pcD)) (.int ((v:ai)+1)) (.scr ((V.map (mvT p.1 low ((v:ai)+1))).map bB)) x12 x13 x14 x15) (bN (oE bB bF (aEt n))) ?_;exact aEq ba (zN (kvs,(A++p::B).map (smP p.1 low),V.map (mvT p.1 low ((v:ai)+1))) rfl rfl rfl) rfl (by lia)
theorem FN{a:FE}{l h:aa D->Res (ay ai)}{ρ:aa D}{x:D}{i j:ay ai}{d:D}(h1:a ρ=.ok x)(h2:l ρ=.ok i)(h3:h ρ=.ok j)(h4:aGz x i j=.ok d):aAw a l h ρ=.ok d:=by
 unfold aAw;rw[h1,τ,h2,τ,h3,τ,h4]
theorem aCm(hst:bO kvs)(hne:kvs≠[])(n:Net kvs (A++p::B) V){F:aa Fa}(hF:∀f∈F,Bad f)(hl:F.length<=50)(w:Str)(x8 x9 x10 x11 x12 x15:D):∃F':aa Fa,(∀f∈F',Bad f)/\F'.length<=F.length+1/\aLb (stP kvs A B p V r c F x8 x9 x10 x11 x12 (.int A.length) (.str w) x15)=.ok (.nx (stP kvs A B p V r c F' x8 x9 x10 x11 x12 (.int A.length) (.str w) x15)):=by
 have lq:=n.ql;have ls:=n.small;have k1:bTB (b2 (b8 .ne) gY (bC (.str ""))) (stP kvs A B p V r c F x8 x9 x10 x11 x12 (.int A.length) (.str w) x15)=.ok (!eqD (.str w) (.str "")):=dR (aJ rfl rfl rfl);have k2:bTB (b2 NB gY cH) (stP kvs A B p V r c F x8 x9 x10 x11 x12 (.int A.length) (.str w) x15)=.ok (!(bR kvs (.str w)).isSome):=dR (aJ rfl rfl (by
  show(if txK kvs&&u_ (.str w) then ε (π (!(bR kvs (.str w)).isSome)) else .bad)=_;rw[aEp hst hne];rfl))
 cases h1:(!eqD (.str w) (.str "")) with
 |false=>
  rw[h1] at k1;exact⟨F,hF,by lia,wF (aAy k1) rfl⟩
 |true=>
  rw[h1] at k1;cases h2:bR kvs (.str w) with
  |some d=>
   rw[h2] at k2;exact⟨F,hF,by lia,wF (XQ k1 k2) rfl⟩
  |none=>
   rw[h2] at k2;have ba:Bad (kvs,A++[(p.1,w)]++B,V):=⟨hst,hne,by show(A++[(p.1,w)]++B).length<=1000;simp at lq ⊢;lia,by show V.length<=1500;lia,λr=>aCd (pc:=(p.1,w)) (by simp) λz=>by
    obtain⟨_,v,_,e⟩:=z;rw[show((p.1,w):Pc).2=w from rfl,h2] at e;cases e⟩
   simp at lq;refine⟨_,e_ hF ba,by simp,RZ (XQ k1 k2) (aEq ba (zN (kvs,A++[(p.1,w)]++B,V) rfl (oE pcD dU (aJ (aJ (FN rfl rfl (fK rfl) (WF pcD dU A (p::B))) (oF (xs:=[(p.1,w)].map pcD) (aD (PP (g_ (aD rfl (aD rfl rfl)) (by rw[bT];simp)) rfl) rfl) (by simp)) (mQ pcD dU A [(p.1,w)] (by simp;lia))) (FN rfl (fK (aJ rfl rfl (dF _ _))) rfl (aCl pcD dU A B p)) (mQ pcD dU (A++[(p.1,w)]) B (by simp;lia)))) rfl) rfl (by lia))⟩
theorem FP(hst:bO kvs)(hne:kvs≠[])(n:Net kvs (A++p::B) V)(x8 x9 x10 x11 x12 x15:D):∀(ws:aa Str)(F:aa Fa)(x14:D),(∀f∈F,Bad f)->F.length+ws.length<=50->∃(F':aa Fa)(y:D),(∀f∈F',Bad f)/\F'.length<=F.length+ws.length/\lW (tg1 14) aLb (ws.map ι) (stP kvs A B p V r c F x8 x9 x10 x11 x12 (.int A.length) x14 x15)=.ok (.nx (stP kvs A B p V r c F' x8 x9 x10 x11 x12 (.int A.length) y x15))
 |[],F,x14,hF,_=>⟨F,x14,hF,by simp,rfl⟩
 |w::ws,F,x14,hF,hl=>by
  rw[cr] at hl;obtain⟨F1,b1_,l1,s1⟩:=aCm (r:=r) (c:=c) hst hne n hF (by lia) w x8 x9 x10 x11 x12 x15;obtain⟨F2,y,b2_,l2,s2⟩:=FP hst hne n x8 x9 x10 x11 x12 x15 ws F1 (.str w) b1_ (by lia);exact⟨F2,y,b2_,by rw[cr];lia,bZ rfl s1 s2⟩
theorem J7(hst:bO kvs)(hne:kvs≠[])(n:Net kvs (A++p::B) V){F:aa Fa}(hl:F.length<=50)(e:Pt)(h0:e.1≠0)(hno:∀pc∈A++p::B,e.1=pc.1->¬(0<=e.2/\e.2<=vOf kvs pc.2))(x8 x9 x10 x11 x12 x13 x14:D):∃a,Bad a/\aN0 (stP kvs A B p V r c F x8 x9 x10 x11 x12 x13 x14 (enP e))=.ok (.nx (stP kvs A B p V r c (F++[a]) x8 x9 x10 x11 x12 x13 x14 (enP e))):=by
 have lq:=n.ql;have ls:=n.small;obtain⟨A',B',h,ep⟩:=PQ bB bF V (by lia) (c / 11) (e,(0,(fU (ends V):ai)));have ba:Bad (kvs,A++p::B,A'++(e,(0,(fU (ends V):ai)))::B'):=⟨hst,hne,by show(A++p::B).length<=1000;lia,by
  show(A'++(e,(0,(fU (ends V):ai)))::B').length<=1500;have:=di fx h;simp at this ⊢;lia,λr=>WM (e:=e) (.inl rfl) h0 hno⟩
 exact⟨_,ba,aEq ba (zN (kvs,A++p::B,A'++(e,(0,(fU (ends V):ai)))::B') rfl rfl (oE bB bF (aM (xs:=[.scr (V.map bB),.int (c / 11),bB (e,(0,(fU (ends V):ai)))]) (aD rfl (aD (aJ (x:=.int c) rfl rfl (eQ _ _ (by decide) (by decide))) (aD (wN rfl (zL rfl (aM (aD rfl rfl) (aCi _ V r)))) rfl))) ep))) rfl (by lia)⟩
end
theorem WR{s:Str}{d:D}:∀{kvs:aa (D×D)},bO kvs->bR kvs (.str s)=ae d->s.length<=9
 |[],_,h=>by cases h
 |q::kvs,hst,h=>by
  obtain⟨s',v,rfl,_,_,hl⟩:=hst q (cu ..);rw[bR] at h;by_cases z:eqD (.str s') (.str s)=af
  ·have z:s'=s:=by simpa[eqD] using z
   rw[<-z];exact hl
  ·rw[az z] at h;exact WR (λp hp=>hst p (b6 _ hp)) h
theorem zQ{a:FE}{ρ xs:aa D}(h:a ρ=.ok (.lst xs)):vI a af ρ=.ok (xs,af):=by
 unfold vI;rw[h];rfl
theorem S9{s:Str}(h:s.length<=9)(lo hi:ay ai):aGz (.str s) lo hi=.ok (.str (iS s lo hi)):=by
 show(if ϒ (s.length<=lim) then _ else _)=_;rw[cK (by rw[bT];lia),av rfl]
theorem add_str{a b:Str}(h:a.length+b.length<=100):aQ .add (.str a) (.str b)=.ok (.str (a++b)):=by
 show(if ϒ (a.length+b.length<=lim) then _ else _)=_;rw[cK (by rw[bT];lia),av rfl]
section
variable {kvs:aa (D×D)} {A B:aa Pc} {p:Pc} {V:aa Tie} {r c:ai}
theorem aNg(hst:bO kvs)(hne:kvs≠[])(n:Net kvs (A++p::B) V){F:aa Fa}(hl:F.length<=50){e:FE}(s:Str){x8 x9 x10 x11 x12 x13 x14 x15:D}(he:e (stP kvs A B p V r c F x8 x9 x10 x11 x12 x13 x14 x15)=.ok (pcD (p.1,s))):∃a,Bad a/\lJ 7 (cL (aB cH (aB (bFz (aL (cF 3 bG) (aB cJ (aB (b2 (aQ .fdiv) dX zX) (aB e aO))))) (aB d_ aO)))) (stP kvs A B p V r c F x8 x9 x10 x11 x12 x13 x14 x15)=.ok (.nx (stP kvs A B p V r c (F++[a]) x8 x9 x10 x11 x12 x13 x14 x15)):=by
 have lq:=n.ql;have ls:=n.small;obtain⟨A',B',h,ep⟩:=PQ pcD dU (A++p::B) (by lia) (c / 7) (p.1,s);have ba:Bad (kvs,A'++(p.1,s)::B',V):=⟨hst,hne,by
  show(A'++(p.1,s)::B').length<=1000;have:=di fx h;simp at this lq ⊢;lia,by show V.length<=1500;lia,λr=>aI8 (by rw[<-h];exact cS.mpr ⟨p,by simp,rfl⟩)⟩
 exact⟨_,ba,aEq ba (zN (kvs,A'++(p.1,s)::B',V) rfl (oE pcD dU (aM (xs:=[.scr ((A++p::B).map pcD),.int (c / 7),pcD (p.1,s)]) (aD rfl (aD (aJ (x:=.int c) rfl rfl (eQ _ _ (by decide) (by decide))) (aD he rfl))) ep)) rfl) rfl (by lia)⟩
end
theorem P0{kvs:aa (D×D)}{Q:aa Pc}{V:aa Tie}{r:ai}(n:Net kvs Q V)(hst:bO kvs)(hne:kvs≠[])(h2:∃a b:Str,a≠b/\ι a∈fG kvs/\ι b∈fG kvs)(hk5:kvs.length<=5)(hQ:0<Q.length)(c:ai):∃F:aa Fa,(∀f∈F,Bad f)/\F.length<=20/\cF 3 dZ [.fdc kvs,gW Q V r,.int c]=.ok (.lst (F.map fD)):=by
 obtain⟨A,p,B,rfl,hA⟩:=J4 (Q:=Q) (i:=c % Q.length) (eM _ (by lia)) (gi _ (by lia));have lq:=n.ql;have ls:=n.small;have hQi:0<((A++p::B).length:ai):=by lia
 have hm:aQ .mod (.int c) (.int ((A++p::B).length:ai))=.ok (.int A.length):=by rw[dJ _ _ hQi,hA]
 have pm:p∈A++p::B:=by simp
 obtain⟨v,hv6,ev⟩:=n.sk p pm;have hpp:=n.qpos p pm;have hvo:vOf kvs p.2=v:=V4 ev;have hlen:=WR hst ev
 -- numbers below 1
 have p50:aQ .pow (.int 10) (.int 50)=.ok (.int (10 ^ 50)):=DG 50 (by decide);have m50:=dJ (c / 3) (10 ^ 50) (by decide);have hlo:0<=c / 3 % 10 ^ 50:=eM _ (by decide);obtain⟨a1,y9,y10,y11,g1,s1⟩:=WQ (r:=r) (c:=c) ev hst hne n (low:=0) (by lia) (F:=[]) (by simp) .uD .uD .uD .uD .uD .uD .uD;obtain⟨a2,z9,z10,z11,g2,s2⟩:=WQ (r:=r) (c:=c) ev hst hne n (low:=-1-c / 3 % 10 ^ 50) (by lia) (F:=[]++[a1]) (by simp) y9 y10 y11 .uD .uD .uD .uD;have k2:∀f∈[]++[a1]++[a2],Bad f:=e_ (e_ (λf h=>by cases h) g1) g2;generalize hF2:[]++[a1]++[a2]=F2 at *;have l2:F2.length=2:=by rw[<-hF2];rfl
 have hlw:aQ .sub (.int (-1)) (.int (c / 3 % 10 ^ 50))=.ok (.int (-1-c / 3 % 10 ^ 50)):=aB0 _ _;generalize δ (-1-c / 3 % 10 ^ 50)=lw at *
 -- a number twice
 obtain⟨a3,g3,s3⟩:=aNg (r:=r) (c:=c) hst hne n (F:=F2) (by lia) (e:=cL (aB iM (aB lO aO))) p.2 (x8:=lw) (x9:=z9) (x10:=z10) (x11:=z11) (x12:=.uD) (x13:=.uD) (x14:=.uD) (x15:=.uD) (g_ (aD rfl (aD rfl rfl)) (by rw[bT];simp));obtain⟨NS,hNS⟩:=sJ hst;have lNS:NS.length=kvs.length:=by
  have:=di fx hNS;simpa[fG] using this.symm
 have nNS:NS≠[]:=λz=>hne (by rw[z] at lNS;exact A4.mp lNS.symm)
 obtain⟨s,_,es⟩:=pick ι nNS (c / 5);have hlf:aBj [.fdc kvs]=.ok (.lst (NS.map ι)):=by
  show(if txK kvs then ε (ξ (fG kvs)) else .bad)=_;rw[aEp hst hne,hNS];rfl
 have hnf:aKn [.fdc kvs]=.ok (.int (NS.length:ai)):=by
  show(if txK kvs then ε (δ (kvs.length:ai)) else .bad)=_;rw[aEp hst hne,lNS];rfl
 have pNS:=sD.mpr nNS;obtain⟨a4,g4,s4⟩:=aNg (r:=r) (c:=c) hst hne n (F:=F2++[a3]) (by simp;lia) (e:=cL (aB iM (aB (b2 getD (aL aBj (aB cH aO)) (b2 (aQ .mod) (b2 (aQ .fdiv) dX aIc) (aL aKn (aB cH aO)))) aO))) s (x8:=lw) (x9:=z9) (x10:=z10) (x11:=z11) (x12:=.uD) (x13:=.uD) (x14:=.uD) (x15:=.uD) (g_ (aD rfl (aD (aJ (aM (aD rfl rfl) hlf) (aJ (aJ (x:=.int c) rfl rfl (eQ _ _ (by decide) (by decide))) (aM (aD rfl rfl) hnf) (dJ _ _ (by lia))) es) rfl)) (by rw[bT];simp));have k4:=e_ (e_ k2 g3) g4;generalize hF4:F2++[a3]++[a4]=F4 at *;have l4:F4.length=4:=by rw[<-hF4];simp[l2]
 -- a stock nS the name
 have g5:Bad (jD kvs (.str p.2),A++p::B,V):=⟨YJ hst _,aI9 h2,by show(A++p::B).length<=1000;lia,by show V.length<=1500;lia,λr=>aCd pm λz=>by
  obtain⟨_,v,_,e⟩:=z;rw[show(jD kvs (ι p.2),A++p::B,V).1=jD kvs (.str p.2) from rfl,PX p.2 kvs hst] at e;cases e⟩
 have k5:=e_ k4 g5;generalize hF5:F4++[((jD kvs (.str p.2),A++p::B,V):Fa)]=F5 at *;have l5:F5.length=5:=by rw[<-hF5];simp[l4]
 -- other names
 generalize hw1:iS p.2 aj (ae (-1))=w1;generalize hw2:iS p.2 (ae 1) aj=w2;have l7:(iS p.2 aj (ae 7)).length<=9:=du (Ap ..) hlen;generalize hw7:iS p.2 aj (ae 7)=w7 at l7;have e7:=S9 hlen aj (ae 7);rw[hw7] at e7;have e1:=S9 hlen aj (ae (-1));rw[hw1] at e1;have e2:=S9 hlen (ae 1) aj;rw[hw2] at e2;have q1:("q" : Str).length=1:=rfl;obtain⟨F6,y14,k6,l6,s6⟩:=FP (r:=r) (c:=c) hst hne n lw z9 z10 z11 (.fdc (jD kvs (.str p.2))) .uD [w1,w2,w7 ++ "q","q" ++ w7] F5 .uD k5 (by simp;lia)
 -- ends
 have v1:∀pc∈A++p::B,p.1=pc.1->vOf kvs pc.2=v:=λpc m e=>by rw[<-aMy n pm m e];exact hvo
 simp only[cr,fT] at l6;obtain⟨b1_,g7,s7⟩:=J7 (r:=r) (c:=c) hst hne n (F:=F6) (by lia) (p.1,(v:ai)+1) (by show p.1≠0;lia) (λpc m e ⟨_,h⟩=>by
  have:=v1 pc m e;rw[this] at h;simp only at h;lia) lw z9 z10 z11 (.fdc (jD kvs (.str p.2))) (.int A.length) y14
 obtain⟨b2_,g8,s8⟩:=J7 (r:=r) (c:=c) hst hne n (F:=F6++[b1_]) (by simp;lia) (p.1,-1) (by show p.1≠0;lia) (λpc m e ⟨h,_⟩=>by simp at h) lw z9 z10 z11 (.fdc (jD kvs (.str p.2))) (.int A.length) y14;obtain⟨b3_,g9,s9⟩:=J7 (r:=r) (c:=c) hst hne n (F:=F6++[b1_]++[b2_]) (by simp;lia) (-p.1,0) (by show -p.1≠0;lia) (λpc m e _=>by
  have:=n.qpos pc m;have e:-p.1=pc.1:=e;lia) lw z9 z10 z11 (.fdc (jD kvs (.str p.2))) (.int A.length) y14
 have k9:=e_ (e_ (e_ k6 g7) g8) g9;generalize hF9:F6++[b1_]++[b2_]++[b3_]=F9 at *;have l9:F9.length<=12:=by rw[<-hF9];simp;lia
 refine⟨F9,k9,by lia,(cG rfl).trans (call_v ?_)⟩;refine aK (bN (oE pcD dU (aM (aD (aJ rfl rfl (n0 (A++p::B) V r)) rfl) (wA pcD dU (A++p::B))))) ?_;refine aK (bN (oE bB bF (aM (aD (aJ rfl rfl (n1 (A++p::B) V r)) rfl) (wA bB bF V)))) ?_;refine aK (ρ':=[.fdc kvs,gW (A++p::B) V r,.int c,.scr ((A++p::B).map pcD),.scr (V.map bB),.int p.1,.str p.2,.uD,.uD,.uD,.uD,.uD,.uD,.uD,.uD,.uD]) (aCg (d:=pcD p) (aJ rfl (aJ rfl (aM (aD rfl rfl) (YG pcD (A++p::B))) hm) (aNe pcD A B p)) rfl rfl) ?_;refine aK (ρ':=stP kvs A B p V r c [] .uD .uD .uD .uD .uD .uD .uD .uD) (eO rfl rfl) ?_;refine aK (nQ (zQ (oF (xs:=[.int 0,lw]) (aD rfl (aD (aJ (YC rfl rfl) (aJ (aJ (x:=.int c) rfl rfl (eQ _ _ (by decide) (by decide))) (aJ rfl rfl p50) m50) (hlw)) rfl)) (by simp))) (bZ (ρ1:=stP kvs A B p V r c [] (.int 0) .uD .uD .uD .uD .uD .uD .uD) rfl s1 (bZ (ρ1:=stP kvs A B p V r c ([]++[a1]) lw y9 y10 y11 .uD .uD .uD .uD) rfl s2 rfl))) ?_;refine aK s3 (aK s4 ?_);refine aK (ρ':=stP kvs A B p V r c F4 lw z9 z10 z11 (.dct kvs) .uD .uD .uD) (eO (aM (aD rfl rfl) (WK hst hne)) (mR hst)) ?_;refine aK (ρ':=stP kvs A B p V r c F4 lw z9 z10 z11 (.dct (jD kvs (.str p.2))) .uD .uD .uD) ?_ ?_
 ·show(if (bR kvs (.str p.2)).isSome then ε (Fl.nx (stP kvs A B p V r c F4 lw z9 z10 z11 (.dct (jD kvs (.str p.2))) .uD .uD .uD)) else .bad)=_;rw[ev];rfl
 refine aFt rfl ?_;show _=ε (Fl.rt _);refine aK (ρ':=stP kvs A B p V r c F5 lw z9 z10 z11 (.fdc (jD kvs (.str p.2))) .uD .uD .uD) (by rw[<-hF5];exact aEq g5 (zN (jD kvs (.str p.2),A++p::B,V) rfl rfl rfl) rfl (by lia)) ?_;refine aK (ρ':=stP kvs A B p V r c F5 lw z9 z10 z11 (.fdc (jD kvs (.str p.2))) (.int A.length) .uD .uD) (bN (aJ rfl (aM (aD rfl rfl) (YG pcD (A++p::B))) hm)) ?_;refine aK (nQ (zQ (oF (xs:=[w1,w2,w7 ++ "q","q" ++ w7].map ι) (aD (FN rfl rfl (fK (YC rfl rfl)) e1) (aD (FN rfl (fK rfl) rfl e2) (aD (aJ (FN rfl rfl (fK rfl) e7) rfl (add_str (by lia))) (aD (aJ rfl (FN rfl rfl (fK rfl) e7) (add_str (by lia))) rfl)))) (by simp))) s6) ?_;refine aK (nQ (zQ (oF (xs:=[enP (p.1,(v:ai)+1),enP (p.1,-1),enP (-p.1,0)]) (aD (PP (zL rfl (aJ (aJ rfl rfl (aFv ev)) rfl (dF _ _))) rfl) (aD (PP (zL rfl (YC rfl rfl)) rfl) (aD (zL (YC rfl rfl) rfl) rfl))) (by simp))) (bZ rfl s7 (bZ rfl s8 (bZ rfl s9 rfl)))) ?_;rfl
theorem zR:∀(xs:aa ai)(x:ai),∃M:ai,(xs.map δ).foldl (λm y=>if (jF .gt y m).getD ag then y else m) (.int x)=.int M/\(M=x\/M∈xs)/\x<=M/\∀y∈xs,y<=M
 |[],x=>⟨x,rfl,.inl rfl,A5 _,λ_ h=>nomatch h⟩
 |y::xs,x=>by
  have e:jF .gt (.int y) (.int x)=ae (ϒ (x<y)):=rfl;rw[bw,oq,e];by_cases h:x<y
  ·rw[cK h];obtain⟨M,h1,h2,h3,h4⟩:=zR xs y;refine⟨M,h1,.inr ?_,by lia,λz hz=>?_⟩
   ·rcases h2 with h2|h2
    ·rw[h2];exact cu ..
    ·exact b6 _ h2
   ·rcases bX.mp hz with hz|hz
    ·rw[hz];exact h3
    ·exact h4 z hz
  ·rw[dq h];obtain⟨M,h1,h2,h3,h4⟩:=zR xs x;refine⟨M,h1,?_,h3,λz hz=>?_⟩
   ·rcases h2 with h2|h2
    ·exact .inl h2
    ·exact .inr (b6 _ h2)
   ·rcases bX.mp hz with hz|hz
    ·lia
    ·exact h4 z hz
theorem aEu(l:aa ai)(hl:l≠[]):∃M∈l,(∀y∈l,y<=M)/\fL .gt [.lst (l.map δ)]=.ok (.int M):=by
 cases l with
 |nil=>exact bb rfl hl
 |cons x xs=>
  obtain⟨M,h1,h2,h3,h4⟩:=zR xs x;refine⟨M,?_,λy hy=>?_,?_⟩
  ·rcases h2 with h2|h2
   ·rw[h2];exact cu ..
   ·exact b6 _ h2
  ·rcases bX.mp hy with hy|hy
   ·lia
   ·exact h4 y hy
  ·show(if ((δ x::xs.map δ).all λa=>a.fY aR&&(δ x::xs.map δ).all λb=>(jF .gt a b).isSome) then ε ((xs.map δ).foldl (λm y=>if (jF .gt y m).getD ag then y else m) (.int x)) else .bad)=_;rw[av,h1];have all:∀d∈(δ x::xs.map δ),∃i:ai,d=.int i:=λd hd=>by
    rcases bX.mp hd with hd|hd
    ·exact⟨x,hd⟩
    ·obtain⟨i,_,rfl⟩:=cS.mp hd;exact⟨i,rfl⟩
   refine dQ.mpr λd hd=>?_
   obtain⟨i,rfl⟩:=all d hd;rw[bj];refine⟨rfl,dQ.mpr λe he=>?_⟩;obtain⟨j,rfl⟩:=all e he;rfl
theorem lH:∀{F:aa Fa},(∀f∈F,Bad f)->θ (F.map fD)=af
 |[],_=>rfl
 |f::F,h=>by
  rw[bw,θ,zM (h f (cu ..)),lH λg hg=>h g (b6 _ hg)];rfl
theorem aNh{F G:aa Fa}(hF:∀f∈F,Bad f)(hG:∀f∈G,Bad f)(hl:F.length+G.length<=1000):aQ .add (.lst (F.map fD)) (.lst (G.map fD))=.ok (.lst ((F++G).map fD)):=by
 rw[dv];exact JB _ _ (by rw[bp,bp,bT];lia) (lH hF) (lH hG)
section
variable {kvs:aa (D×D)} {Q:aa Pc} {V:aa Tie} {r c sg:ai} {d0:D}
def stL(d0:D)(kvs:aa (D×D))(Q:aa Pc)(V:aa Tie)(r c sg:ai)(d8 d9 d10:D):aa D:=[d0,.int c,.fdc kvs,gW Q V r,.scr (Q.map pcD),.scr (V.map bB),enP (0,(fU (ends V):ai)),.int sg,d8,d9,d10]
def J8:FS:=(bI (sIf (aF5 (bTr (aL (cF 4 eE) (aB (b2 getD o9 cQ) (aB (b2 getD o9 dG) (aB (b2 getD o9 zW) (aB (b2 getD cJ zW) aO))))))) (uV (bC (.bl ag)) af) jM) (sIf (bTB (b2 (b8 .ne) (aL (cF 4 n6) (aB (aL z8 (aB dX aO)) (aB (aL lD (aB d_ aO)) (aB (aL lD (aB iM aO)) (aB (b2 getD cJ zW) aO))))) cJ)) (uV (bC (.bl ag)) af) jM))
theorem aLc(P:aa Pc)(U:aa Tie)(r:ai):b8 .eq (gW P U r) (gW P U r)=.ok (.bl af):=by
 show(if (gW P U r).fY aR&&(gW P U r).fY aR then ε (π (eqD (gW P U r) (gW P U r))) else .bad)=_;rw[WD,wR _ (PL _ _ _)];rfl
theorem aLd(P:aa Pc)(U:aa Tie)(r:ai):b8 .ne (gW P U r) (gW P U r)=.ok (.bl ag):=by
 show(if (gW P U r).fY aR&&(gW P U r).fY aR then ε (π (!eqD (gW P U r) (gW P U r))) else .bad)=_;rw[WD,wR _ (PL _ _ _)];rfl
theorem aLe(hst:bO kvs)(hne:kvs≠[])(n:Net kvs Q V)(hr:0<=r){f:Fa}(h:Bad f)(d8:D):J8 (stL d0 kvs Q V r c sg d8 (fD f) .uD)=.ok (.nx (stL d0 kvs Q V r c sg d8 (fD f) .uD)):=by
 have e:=FJ (r:=r) h.st h.ne h.lp h.lu (h.no r);have m:=aFu (pp:=.lst (Q.map pcD)) (tt:=.lst (V.map bB)) hst n hr (.inl rfl) (.inl rfl);refine aK (ρ':=stL d0 kvs Q V r c sg d8 (fD f) .uD) (wF (aFp (b:=af) (aNb (aM (xs:=[.fdc f.1,.scr (f.2.1.map pcD),.scr (f.2.2.map bB),.int r]) (aD (aJ (x:=fD f) rfl rfl rfl) (aD (aJ (x:=fD f) rfl rfl rfl) (aD (aJ (x:=fD f) rfl rfl rfl) (aD (aJ (x:=gW Q V r) rfl rfl (n2 Q V r)) rfl)))) e) rfl)) rfl) ?_;exact wF (dR (aJ (aM (xs:=[.dct kvs,.lst (Q.map pcD),.lst (V.map bB),.int r]) (aD (aM (xs:=[.fdc kvs]) (aD rfl rfl) (WK hst hne)) (aD (aM (xs:=[.scr (Q.map pcD)]) (aD rfl rfl) (J5 pcD dU Q)) (aD (aM (xs:=[.scr (V.map bB)]) (aD rfl rfl) (J5 bB bF V)) (aD (aJ (x:=gW Q V r) rfl rfl (n2 Q V r)) rfl)))) m) rfl (aLd Q V r))) rfl
def aCn:aa Fa->D->D
 |[],d=>d
 |f::G,_=>aCn G (fD f)
theorem aFw(hst:bO kvs)(hne:kvs≠[])(n:Net kvs Q V)(hr:0<=r){F:aa Fa}(hF:∀f∈F,Bad f)(a:ah):∀(G P:aa Fa)(m:ah)(d9:D),P++G=F->G.length<m->forL a 8 (tg1 9) J8 m P.length (stL d0 kvs Q V r c sg (.cel a (F.map fD)) d9 .uD)=.ok (.nx (stL d0 kvs Q V r c sg (.cel a (F.map fD)) (aCn G d9) .uD))
 |[],P,m+1,d9,h,_=>by
  have e:(F.map fD)[P.length]?=aj:=by
   rw[<-h,fS];simp
  show(if a=a then (match (F.map fD)[P.length]? with|none=>ε (Fl.nx (stL d0 kvs Q V r c sg (.cel a (F.map fD)) d9 .uD))|some x=>_) else Res.bad)=_;rw[av rfl,e];rfl
 |f::G,P,m+1,d9,h,hl=>by
  have e:(F.map fD)[P.length]?=ae (fD f):=by
   rw[<-h];simp
  have ih:=aFw hst hne n hr hF a G (P++[f]) m (fD f) (by rw[<-h];simp) (by simp at hl;lia);rw[de] at ih;rw[forL];show(if a=a then (match (F.map fD)[P.length]? with|none=>ε (Fl.nx (stL d0 kvs Q V r c sg (.cel a (F.map fD)) d9 .uD))|some x=>(do let ρ1 <- tg1 9 x (stL d0 kvs Q V r c sg (.cel a (F.map fD)) d9 .uD);let rr <- J8 ρ1;match rr with|.nx ρ'=>forL a 8 (tg1 9) J8 m (P.length+1) ρ'|.ct ρ'=>forL a 8 (tg1 9) J8 m (P.length+1) ρ'|_=>.bad)) else Res.bad)=_;rw[av rfl,e];show(do let rr <- J8 (stL d0 kvs Q V r c sg (.cel a (F.map fD)) (fD f) .uD);match rr with|.nx ρ'=>forL a 8 (tg1 9) J8 m (P.length+1) ρ'|.ct ρ'=>forL a 8 (tg1 9) J8 m (P.length+1) ρ'|_=>Res.bad)=_;rw[aLe hst hne n hr (hF f (by rw[<-h];simp))];exact ih
theorem YQ(n:Net kvs Q V)(d7 d8 d9 d10:D):∃sg:ai,(0<sg/\∀pc∈Q,pc.1<sg)/\(b2 (aQ .add) (b2 (aQ .add) (aL (fL .gt) (aB (b2 (aQ .add) (dN 11 (Y0 d_) uU jA (b2 getD gH cQ) ag) (uT (aB cQ aO))) aO)) dG) (b2 (aQ .mod) iK (b2 (aQ .pow) jY zZ))) [d0,.int c,.fdc kvs,gW Q V r,.scr (Q.map pcD),.scr (V.map bB),enP (0,(fU (ends V):ai)),d7,d8,d9,d10]=.ok (.int sg):=by
 obtain⟨M,h1,h2,h3⟩:=aEu ((Q.map (·.1))++[0]) (by simp);have lq:=n.ql;have p50:aQ .pow (.int 10) (.int 50)=.ok (.int (10 ^ 50)):=DG 50 (by decide);have m50:=dJ c (10 ^ 50) (by decide);have h0:0<=c % 10 ^ 50:=eM _ (by decide);have hM:0<=M:=h2 0 (by simp);have hc:dN 11 (Y0 d_) uU jA (b2 getD gH cQ) ag [d0,.int c,.fdc kvs,gW Q V r,.scr (Q.map pcD),.scr (V.map bB),enP (0,(fU (ends V):ai)),d7,d8,d9,d10]=.ok (.lst ((Q.map (·.1)).map δ)):=by
  refine j6 (zO pcD dU rfl) (by rw[bp,bT];lia) ?_;rw[eX _ pcD (λ_=>af) (λq=>δ q.1)]
  ·rw[ky.mpr (λ_ _=>rfl),gf];rfl
  ·intro acc q;exact n_ (n:=11) (t:=uU) (c:=jA) (k:=ag) (acc:=acc) (ρ:=[d0,.int c,.fdc kvs,gW Q V r,.scr (Q.map pcD),.scr (V.map bB),enP (0,(fU (ends V):ai)),d7,d8,d9,d10]) (bs:=[pcD q]) (b:=af) rfl rfl rfl λ_=>⟨aJ (x:=pcD q) rfl rfl rfl,rfl⟩
 refine⟨M+1+c % 10 ^ 50,⟨by lia,λpc hp=>?_⟩,aJ (aJ (aM (aD (aJ hc (oF (xs:=[(0:ai)].map δ) (aD rfl rfl) (by simp)) (mQ δ (λ_=>rfl) (Q.map (·.1)) [0] (by simp;lia))) rfl) h3) rfl (dF _ _)) (aJ rfl (aJ rfl rfl p50) m50) (dF _ _)⟩;have:=h2 pc.1 (lP _ (cS.mpr ⟨pc,hp,rfl⟩));lia
end
theorem main:∀ns:aa ai,ns.length<=63->X8 [.scr (ns.map δ)]=.ok (.bl af):=by
 intro ns hn;have c0:=cell_eq ns 0;have c1:=cell_eq ns 1;obtain⟨kvs,k1,k5,k2,k3,k4⟩:=aEb (cellAt ns 0) (cellAt ns 1);have k4':cF 2 iY [.int (cellAt ns 0),.int (cellAt ns 1)]=.ok (.dct kvs):=(cG rfl).trans k4;have hs:J9 (.scr (ns.map δ)) (ae 2) (ae 66)=.ok (.lst ((cutD ns (ae 2) (ae 66)).map δ)):=by
  show(if θ (ns.map δ) then ε (ξ (cutD (ns.map δ) (ae 2) (ae 66))) else .bad)=_;rw[vJ,av rfl,aH0]
 have hcl:=aH1 ns (ae 2) (ae 66);generalize cutD ns (ae 2) (ae 66)=cs at hs hcl;obtain⟨Q,V,r,n,hr,n2_⟩:=aEi k1 k2 k3 cs (by lia) (cellAt ns 0);generalize cellAt ns 1=c at c1 k4 k4';generalize cellAt ns 0=z0 at c0 k4 k4' n2_;have lQ:=n.ql;have lV:=n.small;generalize hd0:D.scr (ns.map δ)=d0 at c0 c1 hs;have hv0:∀ρ:aa D,jH 0 (d0::ρ)=.ok d0:=λρ=>by rw[<-hd0];rfl
 obtain⟨sg,⟨hg1,hg2⟩,hg⟩:=YQ (r:=r) (c:=c) (d0:=d0) n .uD .uD .uD .uD
 -- an end twice,an end of no piece
 obtain⟨A1,B1,h1,e1⟩:=PQ bB bF V (by lia) c ((0,(fU (ends V):ai)),(0,(fU (ends V):ai)));have b1_:Bad (kvs,Q,A1++((0,(fU (ends V):ai)),(0,(fU (ends V):ai)))::B1):=⟨k1,k2,by show Q.length<=1000;lia,by
  show(A1++((0,(fU (ends V):ai)),(0,(fU (ends V):ai)))::B1).length<=1500;have:=di fx h1;simp at this ⊢;lia,λr=>vY (.inl rfl)⟩
 obtain⟨A2,B2,h2,e2⟩:=PQ bB bF V (by lia) c ((sg,0),(0,(fU (ends V):ai)));have b2_:Bad (kvs,Q,A2++((sg,0),(0,(fU (ends V):ai)))::B2):=⟨k1,k2,by show Q.length<=1000;lia,by
  show(A2++((sg,0),(0,(fU (ends V):ai)))::B2).length<=1500;have:=di fx h2;simp at this ⊢;lia,λr=>WM (e:=(sg,0)) (.inl rfl) (by show sg≠0;lia) λpc hp e=>by
   have:=hg2 pc hp;have e:sg=pc.1:=e;lia⟩
 generalize hf1:((kvs,Q,A1++((0,(fU (ends V):ai)),(0,(fU (ends V):ai)))::B1):Fa)=f1 at b1_;generalize hf2:((kvs,Q,A2++((sg,0),(0,(fU (ends V):ai)))::B2):Fa)=f2 at b2_;have q0:∀f∈[f1]++[f2],Bad f:=e_ (λf hf=>by rw[show f=f1 by simpa using hf];exact b1_) b2_;have pcs:∃F1:aa Fa,(∀f∈F1,Bad f)/\F1.length<=22/\(sIf (bTB (b2 (b8 (.ord .gt)) (aL gJ (aB d_ aO)) cQ)) (b_ af 8 (b2 (aQ .add) iT (aL (cF 3 dZ) (aB dX (aB cJ (aB iK aO))))) af) jM) (stL d0 kvs Q V r c sg (.lst (([f1]++[f2]).map fD)) .uD .uD)=.ok (.nx (stL d0 kvs Q V r c sg (.lst (F1.map fD)) .uD .uD)):=by
  have ct:bTB (b2 (b8 (.ord .gt)) (aL gJ (aB d_ aO)) cQ) (stL d0 kvs Q V r c sg (.lst (([f1]++[f2]).map fD)) .uD .uD)=.ok (ϒ ((0:ai)<Q.length)):=dR (aJ (x:=.int (Q.length:ai)) (aM (aD rfl rfl) (YG pcD Q)) rfl rfl);by_cases hQ:0<Q.length
  ·rw[cK (by lia)] at ct;obtain⟨F,g1,g2,g3⟩:=P0 (r:=r) n k1 k2 k5 k3 hQ c;have g4:∀f∈[f1]++[f2]++F,Bad f:=λf hf=>(eJ.mp hf).elim (q0 f) (g1 f)
   exact⟨[f1]++[f2]++F,g4,by simp;lia,RZ ct (eO (aJ rfl (aM (xs:=[.fdc kvs,gW Q V r,.int c]) (aD rfl (aD rfl (aD rfl rfl))) g3) (aNh q0 g1 (by simp;lia))) (lH g4))⟩
  ·rw[dq (by lia)] at ct;exact⟨_,q0,by simp,wF ct rfl⟩
 obtain⟨F1,q1,l1,s1⟩:=pcs;have tis:∃F2:aa Fa,(∀f∈F2,Bad f)/\F2.length<=40/\(sIf (bTB (b2 (b8 (.ord .gt)) (aL gJ (aB iM aO)) cQ)) (b_ af 8 (b2 (aQ .add) iT (aL (cF 3 fQ) (aB dX (aB cJ (aB iK aO))))) af) jM) (stL d0 kvs Q V r c sg (.lst (F1.map fD)) .uD .uD)=.ok (.nx (stL d0 kvs Q V r c sg (.lst (F2.map fD)) .uD .uD)):=by
  have ct:bTB (b2 (b8 (.ord .gt)) (aL gJ (aB iM aO)) cQ) (stL d0 kvs Q V r c sg (.lst (F1.map fD)) .uD .uD)=.ok (ϒ ((0:ai)<V.length)):=dR (aJ (x:=.int (V.length:ai)) (aM (aD rfl rfl) (YG bB V)) rfl rfl);by_cases hV:0<V.length
  ·rw[cK (by lia)] at ct;obtain⟨F,g1,g2,g3⟩:=YM (r:=r) k1 k2 n hV c;have g4:∀f∈F1++F,Bad f:=λf hf=>(eJ.mp hf).elim (q1 f) (g1 f)
   exact⟨F1++F,g4,by simp;lia,RZ ct (eO (aJ rfl (aM (xs:=[.fdc kvs,gW Q V r,.int c]) (aD rfl (aD rfl (aD rfl rfl))) g3) (aNh q1 g1 (by lia))) (lH g4))⟩
  ·rw[dq (by lia)] at ct;exact⟨F1,q1,by lia,wF ct rfl⟩
 obtain⟨F2,q2,l2,s2⟩:=tis;have lp:JF 8 (tg1 9) J8 (stL d0 kvs Q V r c sg (.lst (F2.map fD)) .uD .uD)=.ok (.nx (stL d0 kvs Q V r c sg (.lst (F2.map fD)) (aCn F2 .uD) .uD)):=aHc (ρ':=stL d0 kvs Q V r c sg (.lst (F2.map fD)) (aCn F2 .uD) .uD) (xs':=F2.map fD) rfl (by show 8<11;decide) λa=>aFw (c:=c) (sg:=sg) (d0:=d0) k1 k2 n hr q2 a F2 [] 10000 .uD rfl (by lia)
 have p50:aQ .pow (.int 10) (.int 50)=.ok (.int (10 ^ 50)):=DG 50 (by decide);have m50:=dJ c (10 ^ 50) (by decide);have m3:=dJ z0 3 (by decide);have c3a:0<=z0 % 3:=eM _ (by decide);have c3b:z0 % 3<3:=gi _ (by decide);have ml:=I_ (z0 % 3) (c % 10 ^ 50) (l_ _ (by lia) (by lia));have hlow:0<=z0 % 3*(c % 10 ^ 50):=w_ c3a (eM _ (by decide));generalize z0 % 3*(c % 10 ^ 50)=low at ml hlow;have rf:=FJ (r:=-1-low) k1 k2 (P:=Q) (U:=V) (by lia) (by lia) (aCc (by lia));have md:=aFu (pp:=.scr (Q.map pcD)) (tt:=.scr (V.map bB)) k1 n hr (.inr rfl) (.inr rfl);refine call_v (n:=1) (m:=11) ?_;show aKs [d0,.uD,.uD,.uD,.uD,.uD,.uD,.uD,.uD,.uD,.uD]=_;refine aK (ρ':=[d0,.int c,.uD,.uD,.uD,.uD,.uD,.uD,.uD,.uD,.uD]) (bN (i:=1) (aM (xs:=[d0,.int 1]) (aD (hv0 _) (aD rfl rfl)) c1)) ?_;refine aK (ρ':=[d0,.int c,.dct kvs,.uD,.uD,.uD,.uD,.uD,.uD,.uD,.uD]) (eO (i:=2) (aM (xs:=[.int z0,.int c]) (aD (aM (xs:=[d0,.int 0]) (aD (hv0 _) (aD rfl rfl)) c0) (aD rfl rfl)) k4') (mR k1)) ?_;refine aK (ρ':=[d0,.int c,.dct kvs,gW Q V r,.uD,.uD,.uD,.uD,.uD,.uD,.uD]) (bN (i:=3) (aM (xs:=[.dct kvs,.lst (cs.map δ),.int z0]) (aD rfl (aD (O6 (x:=d0) (hv0 _) (fK (i:=2) rfl) (fK (i:=66) rfl) hs) (aD (aM (xs:=[d0,.int 0]) (aD (hv0 _) (aD rfl rfl)) c0) rfl))) n2_)) ?_;refine aFt (kvs:=kvs) rfl ?_;show _=ε (Fl.rt (π af));refine aK (ρ':=[d0,.int c,.fdc kvs,gW Q V r,.scr (Q.map pcD),.uD,.uD,.uD,.uD,.uD,.uD]) (bN (oE pcD dU (aM (aD (aJ (x:=gW Q V r) rfl rfl (n0 Q V r)) rfl) (wA pcD dU Q)))) ?_;refine aK (ρ':=[d0,.int c,.fdc kvs,gW Q V r,.scr (Q.map pcD),.scr (V.map bB),.uD,.uD,.uD,.uD,.uD]) (bN (oE bB bF (aM (aD (aJ (x:=gW Q V r) rfl rfl (n1 Q V r)) rfl) (wA bB bF V)))) ?_;refine aK (ρ':=[d0,.int c,.fdc kvs,gW Q V r,.scr (Q.map pcD),.scr (V.map bB),enP (0,(fU (ends V):ai)),.uD,.uD,.uD,.uD]) (bN (zL rfl (aM (xs:=[gW Q V r]) (aD rfl rfl) (aCi Q V r)))) ?_;refine aK (ρ':=stL d0 kvs Q V r c sg .uD .uD .uD) (bN hg) ?_;refine aK (ρ':=stL d0 kvs Q V r c sg (.lst ([f1].map fD)) .uD .uD) (eO (d:=.lst ([f1].map fD)) (oF (aD (PP (d:=fD f1) (by rw[<-hf1];exact zN _ rfl rfl (oE bB bF (aM (xs:=[.scr (V.map bB),.int c,bB ((0,(fU (ends V):ai)),(0,(fU (ends V):ai)))]) (aD rfl (aD rfl (aD (wN rfl rfl) rfl))) e1))) (zM b1_)) rfl) (by simp)) (lH λf hf=>by rw[show f=f1 by simpa using hf];exact b1_)) ?_
 refine aK (ρ':=stL d0 kvs Q V r c sg (.lst (([f1]++[f2]).map fD)) .uD .uD) (aEq b2_ (by rw[<-hf2];exact zN _ rfl rfl (oE bB bF (aM (xs:=[.scr (V.map bB),.int c,bB ((sg,0),(0,(fU (ends V):ai)))]) (aD rfl (aD rfl (aD (wN (zL rfl rfl) rfl) rfl))) e2))) rfl (by simp)) ?_;refine aK s1 (aK s2 (aK lp ?_));refine aK (ρ':=stL d0 kvs Q V r c sg (.lst (F2.map fD)) (aCn F2 .uD) (.int (-1-low))) (bN (aJ (YC rfl rfl) (aJ (aJ (aM (xs:=[d0,.int 0]) (aD (hv0 _) (aD rfl rfl)) c0) rfl m3) (aJ rfl (aJ rfl rfl p50) m50) ml) (aB0 _ _))) ?_;refine h_ (V7 (aM (xs:=[.fdc kvs,.scr (Q.map pcD),.scr (V.map bB),.int (-1-low)]) (aD rfl (aD rfl (aD rfl (aD rfl rfl)))) rf) (aJ (aM (xs:=[.dct kvs,.scr (Q.map pcD),.scr (V.map bB),.int r]) (aD (aM (xs:=[.fdc kvs]) (aD rfl rfl) (WK k1 k2)) (aD rfl (aD rfl (aD (aJ (x:=gW Q V r) rfl rfl (n2 Q V r)) rfl)))) md) rfl (aLc Q V r))) rfl
end Lk03
section
open PySem PySem.W PyProof.Rows
namespace PySem.W.Fast
def tw11429168751455106760:=()
def tw16556171676431709662:=()
def tw4580322182680447769:=()
def tw290815728360490585:=()
def tw4900133419641348502:=()
def tw11148132138015229738:=()
def tw5892777400860754900:=()
def tw3877005747631152317:=()
def tw1914105109648363390:=()
def tw10309695320031711661:=()
def tw8332925862840875103:=()
def tw15097536932516280658:=()
def tw17925052426096148971:=()
def tw6827201406495545033:=()
def tw17384577012486279987:=()
def tw10137216654249525172:=()
def tw12278718653658422818:=()
def tw5588331948390614531:=()
def tw7183877088986590159:=()
def tw7555548149133369215:=()
def tw15110054929341486443:=()
def tw14578136106221581131:=()
def tw10398643898970118325:=()
def tw6027878679192530237:=()
def tw7338860490229872340:=()
def tw13329649283943296410:=()
def tw5486017991206479473:=()
def tw5818112979804693906:=()
def tw8645528542680860363:=()
def tw1293103743090592797:=()
def tw15692784405076912433:=()
def tw9801563725586432176:=()
def tw1677894211289359635:=()
def tw6484912130622628121:=()
def tw3218667002804058325:=()
def tw5154793339178487594:=()
def tw2484623194821542503:=()
def tw5946177582896291121:=()
def tw4735274617586471534:=()
def tw13927188854612505805:=()
def tw8458271831503508984:=()
def tw5335008831319840870:=()
def tw10838249591308487731:=()
def tw3524090138962785971:=()
def tw7975700865430905405:=()
def tw16164008810935613276:=()
def tw15819530268154370121:=()
def tw7563388181100124696:=()
def tw3044567760825976713:=()
def tw2764034857027947066:=()
def tw12749312967768311842:=()
def tw471249446628035362:=()
def tw11160936533520081057:=()
def tw10347107854505217520:=()
def tw5100239561059078576:=()
def tw2233032278106597642:=()
def tw4283991934213748422:=()
def tw3516592046451956902:=()
def tw9904157295775223403:=()
def tw5475662621188667765:=()
def tw13061905448798477467:=()
def tw15122352175697123531:=()
def tw14210182955273590180:=()
def tw3253426193018903324:=()
def tw2254273931502438389:=()
def tw11779793656141000684:=()
def tw1133320277943725386:=()
def tw5450819121583642182:=()
def tw258081985747087828:=()
def tw3525881099657730853:=()
def tw4975028938862879143:=()
def tw12084326162694023050:=()
def tw18034908491941386250:=()
def tw12138931085841091246:=()
def tw18265010935456146635:=()
def tw3075219473677907253:=()
def tw6895809872084596198:=()
def tw519099661743117270:=()
def tw5062472022765617692:=()
def tw2728664731341857702:=()
def tw10243403969729271889:=()
def tw2765031023477254724:=()
def tw12942237821988830340:=()
def tw15068920851441869117:=()
def tw11925855309978810305:=()
def tw6779994886027853488:=()
def tw8570106293709932581:=()
def tw14790728796066962725:=()
def tw16412250057146678734:=()
def tw13058074836057110066:=()
def tw7418305323003886362:=()
def tw2665568801752084381:=()
def tw5672127291306726354:=()
def tw1208857744426744441:=()
def tw4607003667458391920:=()
def tw8099892075466966750:=()
def tw8448148472658770236:=()
def tw5480898824131417876:=()
def tw17716400403589945745:=()
def tw18335909334892418954:=()
def tw636375501637143836:=()
def tw8957133370260977564:=()
def tw2278288992706651926:=()
def tw17869398361046199568:=()
def tw3764207000735346628:=()
def tw18237859524203801156:=()
def tw13575588995740399280:=()
def tw9367970354853722041:=()
def tw17552815579154815407:=()
def tw17201233134562516780:=()
def tw9050702682928915831:=()
def tw9271983197180270478:=()
def tw18295122526915004858:=()
def tw1090914775726592339:=()
def tw7564128337131318522:=()
def tw16153442307763806240:=()
def tw9339568446893036773:=()
def tw704199044783605348:=()
def tw11630278229758657428:=()
def tw13918027489857935725:=()
def tw14604017224216362602:=()
def tw17252097810435940708:=()
def tw15960148713100110729:=()
def tw2854348964071909046:=()
def tw5220014690137234884:=()
def tw3014420449338126871:=()
def tw15769472996774526932:=()
def tw17747055832504918642:=()
def tw3549920282989122596:=()
def tw12238035438463962762:=()
def tw9878605017298871410:=()
def tw10721587459160573423:=()
def tw18044039611776985224:=()
def tw16348112242125309466:=()
def tw1622164458403128519:=()
def tw11990598422386860208:=()
def tw4487200382333873403:=()
def tw8403234261955607721:=()
def tw5777819077985646714:=()
def tw14094617134954644062:=()
def tw12083678219185116310:=()
def tw296740569164268317:=()
def tw13774372731259570709:=()
def tw7405596257833700033:=()
def tw7384814389341976550:=()
def tw5791699760910493435:=()
def tw4264621570614640773:=()
def tw1085755634203165117:=()
def tw4761424711409974255:=()
def tw8563303157163502331:=()
def tw3562177687055366558:=()
def tw10174484435753869706:=()
def tw15835019877115838938:=()
def tw6878266493140438536:=()
def tw7103210471655389199:=()
def tw7292461836305786236:=()
def tw14195858662549772867:=()
def tw7842114867963517647:=()
def tw4222055314941360269:=()
def tw9998344971207941148:=()
def tw3469752386392849261:=()
def tw12050977035445552019:=()
def tw9154377032720339828:=()
def tw5250561418757171523:=()
def tw2296561985194431640:=()
def tw12733256206877486486:=()
def tw6008473237017742974:=()
def tw4816112985584313353:=()
def tw3148655578168735756:=()
def tw13556953297149984617:=()
def tw9415240314493697380:=()
def tw8599400063946899501:=()
def tw15617403296634581194:=()
def tw660428467095263331:=()
def tw13134106142343400910:=()
def tw7460771564463161768:=()
def tw2675731564302117429:=()
def tw12633156755962840944:=()
def tw1301215229888684219:=()
def tw13255995501649813753:=()
def tw18125401643455708832:=()
def tw18142670787638015078:=()
def tw13109576383422541088:=()
def tw4785224370446286602:=()
def tw15314316059758463776:=()
def tw15505322380018453421:=()
def tw15253335174933172973:=()
def tw10489900912531608348:=()
def tw4063057722555303153:=()
def tw7453799542490309316:=()
def tw12881641935470167147:=()
def tw4761890931819521819:=()
def tw11028083492595626607:=()
def tw5887338548401814448:=()
def tw12552227962589520407:=()
def tw9418510717315607269:=()
def tw12388324818217974166:=()
def tw4048945140993737733:=()
def tw5639482023549948410:=()
def tw3483731379928444751:=()
end PySem.W.Fast
set_option maxRecDepth 100000 in
set_option maxHeartbeats 0 in
theorem PySem.Challenge.cw_hookmill_k03_no_net_holds : PySem.Challenge.rw_hookmill_k03_no_net.Holds := by
 w_on;o_law;k_head;(case hw=>w_witness2)
 k_fill
 refine Lk03.walk (l:=PySem.Challenge.rw_hookmill_k03_no_net) Lk03.main rfl rfl (fun w h Y=>PySem.W.kIn_of Y) ?F
 case F=>
  intro w mg fa h KX G hmg
  refine' Lk03.aKv KX G hmg ?a0 ?a1 ?a2 ?a3 ?a4 ?a5 ?a6 ?a7 ?a8 ?a9 ?a10 ?a11 ?a12 ?l12 ?c12 ?k12 ?t12 ?a13 ?a14 ?a15 ?a16 ?a17 ?a18 ?a19 ?a20 ?l20 ?c20 ?k20 ?pW ?pX ?pY ?pZ ?qa ?qc ?qd ?qe ?qf ?qg ?qh ?qi ?qj ?qm ?qo ?qp ?qr ?qt ?p6 ?qu ?qv ?qw ?qx ?qy ?qz ?qA ?qB ?qC ?qD ?qE ?qF ?qG ?qH ?qI ?qJ ?pk ?qK ?qL ?qM ?qN ?qO ?qP ?qQ ?qR ?qS ?qT ?qU ?qV ?qW ?qX ?qY ?qZ ?r8 ?r9 ?rg ?rh ?ri ?rm ?ro ?rq ?rA ?rB ?rC
  (case a0|a1|a2|a3|a4|a5|a6|a7|a8|a9|a10|a11|a13|a14|a15|a16|a17|a18|a19=>refine' Lk03.aMt ?a ?b ?c ?d;(case a=>k_is);(case b=>k_is);(case c=>k_is);case d=>k_is)
  (case a12|l12|c12|k12|t12|a20|l20|c20|k20|pW|pX|pY|pZ|qa|qc|qd|qe|qf|qg|qh|qi|qj|qm|qo|qp|qr|qt|p6|qu|qv|qw|qx|qy|qz|qA|qB|qC|qD|qE|qF|qG|qH|qI|qJ|qK|qL|qM|qN|qO|qP|qQ|qR|rq=>k_is)
  (case pk=>k_exc)
  (case qS=>kit_is)
  (case qT=>kit_is)
  (case qU=>kit_is)
  (case qV=>kit_is)
  (case qW=>kit_is)
  (case qX=>kit_is)
  (case qY=>kit_is)
  (case qZ=>kit_is)
  (case r8=>kit_is)
  (case r9=>kit_is)
  (case rg=>kit_is)
  (case rh=>kit_is)
  (case ri=>kit_is)
  (case rm=>kit_is)
  (case ro=>kit_is)
  (case rA=>kts_exm)
  (case rB=>kit_is)
  (case rC=>kit_is)
end
