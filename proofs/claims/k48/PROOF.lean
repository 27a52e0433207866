import PyProof.Rows.All
import Wide.All
import OpenK.AllK
import Wide.FinOn
import PySem.Challenge.RW_hookmill_k48_not_sound
open Array renaming getElem?_eq_some_iff->nh,length_toList->nE,getElem?_eq_getElem->sh,toList->ui,getElem?_toList->vm,ext'->w_,append_assoc->yb,getElem?_eq_none->Ac,forIn_toList->As
open Bool renaming true->ag,false->ah,and_eq_true->bf,or_eq_true->dm,false_eq_true->i8,true_and->jt,false_ne_true->jS,and_self->kF,not_eq_true'->oP,or_false->vh,and_false->vk,false_or->vo,or_true->wa,not_eq_true->xp,false_and->yh,and_assoc->zq,eq_false_iff->Ak
open Classical renaming choose->BH,choose_spec->BI,byContradiction->BM
open Except renaming error->lj,ok->Bs
open False renaming elim->dE
open ForInStep renaming yield->zk
open Function renaming comp_def->oB,comp->BN
open Int renaming toNat_natCast->jw,emod_nonneg->lh,emod_lt_of_pos->nn,zero_add->Be
open List renaming range->ay,length_map->aE,map_cons->bc,mem_append->bo,mem_cons_self->bq,mem_cons->bt,length_append->bz,map_append->bE,mem_map->b9,append_assoc->cf,replicate->ck,getElem?_eq_getElem->cq,mem_cons_of_mem->cr,map_map->cv,map->cw,size_toArray->cy,length_cons->cz,mem_range->cS,getD_eq_getElem?_getD->de,append_nil->dg,getElem?_set_ne->du,length_range->dv,getElem_mem->dA,getElem?_eq_some_iff->dQ,mem_append_right->dS,mem_of_getElem?->ef,mem_map_of_mem->eg,mem_of_mem_take->eI,getElem?_append_right->eJ,length_singleton->eP,nodup_append->eS,nodup_cons->eT,length_take->eW,getElem?_set_self->fq,mem_singleton->fw,mem_of_mem_drop->fA,mem_append_left->fN,lookup_cons->fS,all_eq_true->fT,all_cons->gj,mem_filter->gn,getElem?_append_left->gq,map_nil->gv,range'->gx,cons_append->gz,nil_append->gN,getElem?_replicate->hZ,nodup_nil->ig,reverse_cons->ik,map_take->iz,length_reverse->iL,length_drop->i4,find?_cons->i5,any_cons->i6,drop_eq_getElem_cons->jb,length_nil->jr,forIn_nil->ky,drop_eq_nil_of_le->kC,map_drop->kG,dropLast_eq_take->kU,nodup_iff_pairwise_ne->li,filterMap_cons->lr,length->lx,getElem?_map->ly,take_sublist->lz,length_replicate->lI,forIn_cons->me,mem_range'_1->mh,getElem?_set->mj,take_of_length_le->mT,not_mem_nil->nj,range'_succ->nq,take_append_drop->nu,find?_eq_none->nw,nodup_range'->oS,replicate_succ->sF,pairwise_map->sL,mem_of_find?_eq_some->sP,dropLast_append_of_ne_nil->sQ,length_filter_le->sR,mem_filterMap->uk,of_mem_zip->ut,range_succ_eq_map->vz,ext_getElem->vT,drop_zero->wo,dropLast_concat->xj,map_reverse->xk,reverse_append->xl,find?_some->xn,getLast?_eq_none_iff->xq,dropLast_sublist->xr,dropLast_cons_of_ne_nil->xt,length_pos_of_mem->xu,getElem_inj->yc,getElem?_take_of_lt->yx,length_set->y0,map_congr_left->zS,map_id->Aa,zipIdx_cons->Ao,zipIdx_nil->Ap,length_zip->AD,zip_nil_right->AF,dropLast_subset->AH,take_succ_cons->AI,lookup_cons_self->AV,getElem?_eq_none->A3,contains_cons->A5,foldl_cons->A9,append_cancel_right->Ba,append_inj_right'->Bf,getElem_map->Bi,length_range'->Bj,perm_append_comm->Bk,range_eq_range'->Bl,length_pos_iff->Bm,nodup_range->Bn,flatMap_cons->Bq,map_id'->Br,getLast?_eq_getElem?->Bu,mem_of_getLast?->Bv,mem_flatMap->Bx
open List.Pairwise renaming imp_of_mem->Bg,nil->BG,imp->Cb
open List.cons renaming injEq->Bc
open Nat renaming le_refl->br,ne_of_lt->c_,le_trans->dh,lt_of_lt_of_le->dP,zero_le->gw,lt_irrefl->gS,ne_of_gt->iO,lt_succ_of_lt->kz,le_succ->mf,lt_of_not_le->mr,lt_or_ge->oy,le_add_right->sB,sub_self->sM,le_of_lt->uf,lt_succ_self->vx,min_eq_left->xg,add_sub_cancel->xh,le_of_eq->zj,lt_of_le_of_lt->zC,add_zero->zD,not_le->AJ,le_of_ble_eq_true->A8,add_comm->Bb,min_eq_right->Bh,mul_add->Bo,mul_one->Bp
open Nat.succ renaming inj->ms
open Option renaming some->ae,none->aj,map_eq_some_iff->l9,isSome_iff_exists->n4,isSome_map->vp,bind_some->wz,getD_none->za,getD_some->zn
open Option.some renaming inj->fz,injEq->Ca
open Or renaming inl->fu
open Prod renaming fst->A7,snd->Bw
open PyProof.Rows renaming envOfC->bS,AllBare->gV,callWith_type1->ji,IsTup->lp,slot_tuple_getitem->l7,IntsAre->ma,subscriptTail->oh,callWith_builtin1->yy,slicePart_none->yz,subscriptTail_builtinR->yT,len_tuple->AW,getItem_tuple->B5
open PySem renaming Addr->ak,Value->am,wpAny_bind->ao,Shared->au,model->ax,Heap->az,sizeLine->aI,wpAny_pure->aS,Obj->bd,Stmt->bi,World->bj,Program->bp,mainGlobals->bu,starEach->bP,Pos->b6,Around->cj,Env->cx,FuncData->c6,rawInt->di,wpAny_field->dj,swapsWith->dy,Builtin->dz,cLine->dL,sizeLine_eq->d4,bootBuiltins->ei,Scope->el,foldedSetIterable->em,binaryOp->en,compareOp->eu,wpAny_holding->eM,Tok->ff,backTo->fg,strIterType->fx,wpAny_mono->fR,wpAny_of_eq->f_,sysModules->gf,pyNext->gi,assignEach->gp,attributeBase->hG,wpAny_Call_Name_kw->hI,NameKind->hV,relabel->ib,assign->ip,IsPart->ir,wpAny_newObj_type->iu,wpAny_attempt->iE,wpAny_seqItems->iF,wpAny_call->iP,bindL->iS,bindC->iX,atKey->i7,typeLookup_type->je,builtinLookup_eq_fast->jf,Paired->jg,wpAny_passesOwn->jh,behindInMarks->jj,getItem->jk,wpAny_callSpecial?_slot->jn,wpAny_call_entry->jo,sliceBounds->jp,Slot->jq,callerA->js,wpAny_specialOf->ju,wpAny_loadPart_at->jy,PassesOwn->jI,pyIter->ka,rule->kb,BindsTo->ke,codeAny_mono->kf,mem_of_lookup->kh,typeOf->ko,call_meets->kq,valueAt->kr,stored->kx,compPost->kB,codeAny_call_builtin->kH,isInstance->kK,wpAny_rule->kM,wpAny_setField_rec->kN,GenState->kP,Drawn->kQ,OsState->kT,wpAny_setField->k9,isSubtype_type->lf,argsOk->lg,tupleKind->lq,spliced->lu,letOwnedTupleGo->lv,holding->lw,typeLookup->l8,JoinOk->mv,onTheHeap->mE,Meets->mI,entryFor->mP,table->mS,wpAny_ite_split->ni,Str->ny,isTrue->nB,wpAny_execs_nil->nI,swapsWithSole->nK,swappedStores->nN,unaryOp->nS,wpAny_typeOf->og,subscripted->oj,tupleKind_room_in1->oq,merged->ou,CmpOp->oI,ItemsOf->oQ,wpAny_standAt->r_,updateSeq->sv,field->sw,wpAny_isInstance->sA,builtinsNs->ue,wpAny_Name->ug,wpAny_truthy_bool->uh,wpAny_execs_cons->uj,standAt->um,getAttr->uo,cellsFrom->uv,concat_meets->ux,noFill_tuple_add->uy,seq_tuple_add->uz,seqIndex?->vc,seqIndex_of->vd,seqIndex_neg->ve,operate->vf,typeIs_str->vg,PlainAttrs->vi,call->vq,wpAny_pyIter_tuple->vF,wpAny_Assign_Subscript->vS,codeAny_builtin->we,getAttr?->wf,wpAny_onRaise->wg,wpAny_letGo->wj,entryFor_of_tree->wn,noteFrame->wr,refuseLoop_ref->wv,signature?_of->ww,wpAny_updateSeq->wx,Within->xD,keywordEach->xS,interactive->ye,wpAny_Expr_any->yf,assignInOrder->yg,wpAny_pyNext_list_item->yi,wpAny_pyNext_list_end->yj,IsRangeIter->yk,rangeSize_one->ym,call_range_1->yn,intBits_le_64->yo,recursionLimit->yr,evalPart_none->yB,slot_list_getitem->yY,call_list_seq->zc,comprehension->zo,eval_ListComp->zp,wpAny_pyIter_list->zz,checkBuiltinCall->Ae,wpAny_mkText->Af,getAttrByItsOwn->Ag,callGetattribute->Ah,boundAndCalled->Ai,Fin->An,wpAny_newTuple->Aq,callType_new->Aw,entryFor_alias->Ax,isSubtype_stop->AA,callType_codes->AE,wpAny_isSubtype_exc->AM,wpAny_nsSet1->AQ,wpAny_lookBehind->AS,pastItsLine_dict->AT,plainObj_wpAny_Assign_Attribute->AU,wpAny_mkInt->AX,plainId_quiet->A0,wpAny->ϑ
open Decidable renaming decide->ϒ
open PySem.Around renaming under->uq,under_plainId->AB
open PySem.AutoSeq1 renaming list_extend_list_list_0->BE
open PySem.Builtin.Dict renaming addKeywords->AC,selfAndRest->BY
open PySem.Builtin.List renaming listTooLong->om,listExtendWith->sC,listLengthHint->AY,listSameRef->AZ,listItems->A2,listFitsIndex->B7,listUpdate->B8
open PySem.Builtin.Range renaming rangeSize->yl
open PySem.Builtin.Slice renaming slicePlaces->n9,sliceAdjust->vb,sliceApplied->yA,slicePartIndex->Bz,sliceFields->BA
open PySem.Builtin.SmallTypes renaming nextOf->jx,ownedTupleIsFree->wk,ownedTupleHandOut->BS,newRecord->B4,stopIteration->B6
open PySem.Builtin.Str renaming occurrences->yp,strSliceIndices->Ab,tooLong->BO,glued->B9
open PySem.Builtin.Tuple renaming tupleItemsOf->BB
open PySem.Calls renaming spliced_nil->nV,spliced_cons->nX,Name_function_global->yd,callWith_builtin->zd
open PySem.Code renaming quiet_builtin->mz,isFrame->ur,frames->yt
open PySem.Data renaming seq->xC
open PySem.DictEntry renaming refKey->By
open PySem.EntryCells renaming newEntry->AL
open PySem.F renaming plainAttrs_list->mq,excAttr_ValueError->sk,slot_tuple_iterator_next->su,slot_zip_next->sx,slot_tuple_add->uS,entry_tuple_add->u7,args_tuple_add_2->va,slot_list_append->vj,slot_list_pop->vn,slot_zip_getattribute->wm,excBase_ValueError->wt,store_ValueError->wu,slot_list_extend->ze,type_list_append->zI,entry_bexc_ga->Aj,entry_tuple_iterator_next->Al,args_tuple_iterator_next_1->Am,entry_zip_next->Ay,args_zip_next_1->Az,type_list_pop->AG,plain_extend_loop->A1
open PySem.Heap renaming lt_size->bX,get?_push_of_some->cu,get?_push_size->dq,size_push->eB,SameBut->fj,get?_update_self->ia,get?_update_other->km,ExtBut->sr,get?_none_of_le->ya,IsTuple->Au,get?_update_ne->AN,get?_push_at->AO
open PySem.Heap.DictOf renaming new->zg
open PySem.Heap.IsSliceOf renaming new->BC
open PySem.Heap.IsTuple renaming push->BU
open PySem.Heap.Ns1 renaming of_empty->B0
open PySem.Heap.SameBut renaming update->mM,refl->Ar
open PySem.Heap.UpToSlots renaming trans->A6
open PySem.IsL renaming update->BD
open PySem.IsiPair renaming dict_int->zt,dict_str->zu,dict_bool->zv,dict_list->zw,dict_tuple->zx,dict_dict->zy
open PySem.Manifest renaming owners->B2,sig_reversed->B3
open PySem.MeetsSeq renaming list_pop_last->BF
open PySem.NameKind renaming free->i9,cell->vw
open PySem.Obj renaming mapSeq->gu,mapFields->kL,data_mapFields->k6,isFreed_of_fields->wq,cls_mapFields->AK
open PySem.Paired renaming length->ll,snoc->zf
open PySem.PassesOwn renaming never->iN,leaving->A4
open PySem.SeqAt.EqAt renaming same->vE,int_str->xy,str_int->xA,of_refs->zr
open PySem.Shared renaming heap->Av
open PySem.Txt renaming slice->gL,join->mw,mul->se,slice_le->sg
open PySem.Value renaming ref->c5,none->gl,type->io,builtin->iA,str->jz,int->sT,isInt->xv,isStrOf->xw,bool->xB
open PySem.Value.ref renaming inj->BQ
open PySem.W renaming Frag->bn,findIn->dn,kitOne->d5,kitAny->gk,Looks->ii,keepIn->iq,specialIn->jc,looks_findIn->jd,mroIn->jv,fnOf->kj,readsIn->la,findCls->lc,exmOne->nk,nsIn->ox,looks_mroIn->sj,methodObj->s_,codeIn->uw,hasDictIn->wy,hideAll_get->xE,of_hideAll->xI,hideAll_none->xL,lookIn->yq,callWith_K->yu,cellsFrom_some->yw
open PySem.W.KF renaming slot_gs->Ad
open PySem.W.Looks renaming ld->si
open PySem.W.WData renaming int->zh
open PySem.W.WShape renaming has->zi
open PySem.Within renaming cons->AR
open Sum renaming inr->d6,inl->fE
open _root_ renaming List->aa,Nat->af,Int->ai,Bool->aq,if_pos->ar,Option->av,if_neg->aw,absurd->aT,decide_eq_true->bg,Array->bw,decide_eq_false->cg,False->cK,of_decide_eq_true->c9,beq_eq_false_iff_ne->df,congrArg->dw,decide_eq_true_eq->eD,if_true->eL,beq_iff_eq->eR,Except->fy,String->fF,DecidableEq->fI,True->gm,if_false->gs,Unit->iw,not_or->ja,beq_self_eq_true->oz
set_option Elab.async false
set_option maxRecDepth 100000
set_option maxHeartbeats 4000000
noncomputable section
local macro_rules|`(0x0)=>`(by trivial)|`(0x1)=>`(by lia)|`(0x2)=>`(by simp)|`(0x3)=>`(by rfl)|`(0x4)=>`(by decide)|`(0x5)=>`(by with_unfolding_all rfl)|`(0x6)=>`(by decide +kernel)|`(0x7)=>`(by intro z;cases z)|`(0x8)=>`(by kernel_rfl)|`(0x9)=>`(by refine⟨rfl,?_,?_,?_,?_,?_,?_⟩<;>decide +kernel)|`(0xa)=>`(by refine⟨rfl,rfl,rfl,?_,rfl,?_,?_⟩<;>decide +kernel)
set_option linter.all false
set_option autoImplicit true
set_option genSizeOfSpec false
set_option genInjectivity true
abbrev nDb(x:ny):Prop:= (x==("__debug__" : ny))=ah
abbrev nCd(x:ny):Prop:= (x==("__classdict__" : ny))=ah
namespace L2
open PySem PySem.Spec PyProof.Rows
noncomputable abbrev Key:=Sum ai Str
noncomputable def WK:Key->am->aq
 |.inl k,v=>xv k v
 |.inr x,v=>xw x v
noncomputable def aRg(w:bj):Key->ai
 |.inl k=>hashInt k
 |.inr x=>hashStr w x
theorem fC:∀{k:Key}{v:am},WK k v=ag->(∃i t,k=fE i/\v=sT i t)\/(∃x t,k=d6 x/\v=jz x t)
 |.inl i,v,h=>by
  obtain⟨t,e⟩:=Value.isInt_shape h;exact .inl ⟨i,t,rfl,e⟩
 |.inr x,v,h=>by
  obtain⟨t,e⟩:=Value.isStrOf_shape h;exact .inr ⟨x,t,rfl,e⟩
theorem YW(i:ai)(t:ff):WK (.inl i) (.int i t)=ag:=by simp[WK,xv]
theorem YX(x:Str)(t:ff):WK (.inr x) (.str x t)=ag:=by simp[WK,xw]
theorem aK2(a b:ai):ϒ ((fE a:Key)=fE b)=(a==b):=by
 by_cases e:a=b
 .subst e;simp
 .have h:¬(fE a:Key)=fE b:=λq=>e (Sum.inl.inj q)
  rw[cg h];exact(df.mpr e).symm
theorem aK3(a b:Str):ϒ ((d6 a:Key)=d6 b)=ϒ (a=b):=by
 by_cases e:a=b
 .subst e;simp
 .have h:¬(d6 a:Key)=d6 b:=λq=>e (Sum.inr.inj q)
  rw[cg h,cg e]
theorem aK4(a:ai)(b:Str):ϒ ((fE a:Key)=d6 b)=ah:=cg (λq=>nomatch q)
theorem aK5(a:Str)(b:ai):ϒ ((d6 a:Key)=fE b)=ah:=cg (λq=>nomatch q)
def fK(prog:bp)(w:bj):PySem.KeyKind prog w Key where
 is:=WK
 hash:=aRg w
 inj:=λv a b ha hb=>by
  rcases fC ha with ⟨i,t,rfl,rfl⟩|⟨x,t,rfl,rfl⟩
  .rcases fC hb with ⟨j,u,rfl,e⟩|⟨y,u,rfl,e⟩
   .injection e with e1 _;rw[e1]
   .exact nomatch e
  .rcases fC hb with ⟨j,u,rfl,e⟩|⟨y,u,rfl,e⟩
   .exact nomatch e
   .injection e with e1 _;rw[e1]
 byValue:=λk v h=>by
  rcases fC h with ⟨i,t,rfl,rfl⟩|⟨x,t,rfl,rfl⟩<;>rfl
 pyHash:=λhv h=>by
  rcases fC hv with ⟨i,t,rfl,rfl⟩|⟨x,t,rfl,rfl⟩
  .exact wpAny_pyHash_int h
  .exact wpAny_pyHash_str h
 eqBool:=λhu hv h=>by
  rcases fC hu with ⟨i,t,rfl,rfl⟩|⟨x,t,rfl,rfl⟩
  .rcases fC hv with ⟨j,u,rfl,rfl⟩|⟨y,u,rfl,rfl⟩
   .rw[aK2] at h;exact wpAny_eqBool_int h
   .rw[aK4] at h;exact xy i t y u _ _ _ _ h
  .rcases fC hv with ⟨j,u,rfl,rfl⟩|⟨y,u,rfl,rfl⟩
   .rw[aK5] at h;exact xA x t j u _ _ _ _ h
   .rw[aK3] at h;exact wpAny_eqBool_str h
 «strs»:=λk x t v h=>by
  rcases fC h with ⟨i,u,rfl,e⟩|⟨y,u,rfl,e⟩
  .exact nomatch e
  .injection e with e1 _
   subst e1;cases v<;>rfl
theorem Q3(prog:bp)(w:bj)(i:ai)(t:ff):(fK prog w).is (.inl i) (.int i t)=ag:=YW i t
theorem Q4(prog:bp)(w:bj)(x:Str)(t:ff):(fK prog w).is (.inr x) (.str x t)=ag:=YX x t
inductive V where
 |non|bl (b:aq)|int (i:ai)|str (x:Str)|byt (b:bw UInt8)|flt (b:UInt64)|ref (a:ak)|ty (n:fF)
 deriving fI
def RelV:V->am->Prop
 |.non,u=>u=gl
 |.bl b,u=>u=xB b
 |.int i,u=>∃t,u=sT i t
 |.str x,u=>∃t,u=jz x t
 |.byt b,u=>∃t,u=Value.bytes b t
 |.flt b,u=>∃t,u=Value.float b t
 |.ref a,u=>u=c5 a
 |.ty n,u=>u=io n
abbrev Vals:aa V->aa am->Prop:=jg RelV
theorem Vals.length(r:Vals xs us):xs.length=us.length:=ll r
theorem Vals.get:∀{xs:aa V}{us:aa am}{i:af}{x:V},Vals xs us->xs[i]?=ae x->∃u,us[i]?=ae u/\RelV x u
 |_,_,_,_,.nil,e=>by simp at e
 |_,_,0,_,.cons r _,e=>by simp at e;subst e;exact⟨_,rfl,r⟩
 |_,_,i+1,x,.cons _ t,e=>by
  obtain⟨u,h1,h2⟩:=Vals.get t (by simpa using e);exact⟨u,by simpa using h1,h2⟩
theorem Vals.set(r:RelV x u):∀{xs:aa V}{us:aa am}(i:af),Vals xs us->Vals (xs.set i x) (us.set i u)
 |_,_,_,.nil=>.nil
 |_,_,0,.cons _ t=>.cons r t
 |_,_,i+1,.cons q t=>.cons q (Vals.set r i t)
theorem Vals.append:∀{xs ys:aa V}{us ws:aa am},Vals xs us->Vals ys ws->Vals (xs++ys) (us++ws)
 |_,_,_,_,.nil,s=>s
 |_,_,_,_,.cons r t,s=>.cons r (Vals.append t s)
theorem Vals.take:∀{xs:aa V}{us:aa am}(n:af),Vals xs us->Vals (xs.take n) (us.take n)
 |_,_,0,_=>.nil
 |_,_,_+1,.nil=>.nil
 |_,_,n+1,.cons r t=>.cons r (Vals.take n t)
theorem Vals.drop:∀{xs:aa V}{us:aa am}(n:af),Vals xs us->Vals (xs.drop n) (us.drop n)
 |_,_,0,r=>r
 |_,_,_+1,.nil=>.nil
 |_,_,n+1,.cons _ t=>Vals.drop n t
def aCq:av V->av am->Prop
 |some v,ae u=>RelV v u
 |none,aj=>gm
 |_,_=>cK
def KV{κ:Type}:aa (κ×V)->aa (κ×am)->Prop:=jg λ(p:κ×V)(q:κ×am)=>p.1=q.1/\RelV p.2 q.2
noncomputable def kV:Key->V
 |.inl i=>.int i
 |.inr x=>.str x
inductive HO where
 |lst (xs:aa V)
 |tup (xs:aa V)
 |dK (kvs:aa (Key×V))|dT (kvs:aa (aa Key×V))
 |set (S:ai->aq) (n:af)
 |ins (C dx:ak) (fs:aa (Str×V))
 |own (x:ak)
 |xd (fs:aa (Str×V))
 |met (f x:ak)
 |rng (lo hi:ai)
 |frz (o:bd) (u:HO)
 |tbl (ps:bw am)
 |ext (φ:az->Prop)
noncomputable abbrev Hp:=ak->av HO
noncomputable def upd(H:Hp)(a:ak)(o:HO):Hp:=λb=>if b=a then ae o else H b
theorem aO:upd H a o a=ae o:=by unfold upd;rw[ar rfl]
theorem bY(h:b≠a):upd H a o b=H b:=by unfold upd;rw[aw h]
theorem Q5:upd (upd H a o) a u=upd H a u:=by
 funext b;unfold upd;split<;>rfl
theorem aGt{H:Hp}(h:H a=ae o)(h':H b=ae u)(d:o≠u):a≠b:=by
 intro e;subst e;rw[h] at h';exact d (fz h')
theorem dG{H:Hp}(h:H a=ae o)(h':H b=aj):a≠b:=by
 intro e;subst e;rw[h] at h';cases h'
def mV(h:az)(a:ak)(its:bw am):Prop:=∃o,h.get? a=ae o/\o.cls=.type "tuple"/\∃n,(o.data,o.dict)=(xC its n,aj)
theorem mV.tup{h:az}{a:ak}{its:bw am}(t:mV h a its):lp h a its:=let ⟨o,e,c,n,d⟩:=t;⟨o,e,c,n,dw (·.1) d⟩
theorem mV.bare(t:mV h a its):∃o,h.get? a=ae o/\o.dict=aj:=let ⟨o,e,_,_,d⟩:=t;⟨o,e,dw (·.2) d⟩
theorem mV.new(h:az)(items:bw am):mV (h.push {cls:=.type "tuple",data:=.seq items}) h.objs.size items:=⟨_,dq _ rfl,rfl,_,rfl⟩
section
variable (P:bp) (w:bj)
def jN(H:Hp)(h:az)(a:ak):HO->Prop
 |.lst xs=>xs.length<=aI/\∃(its:aa am)(n:af),Vals xs its/\h.get? a=ae {cls:=.type "list",data:=.seq its.toArray n}
 |.tup xs=>xs.length<=aI/\∃its:aa am,Vals xs its/\mV h a its.toArray
 |.dK kvs=>kvs.length<=aI/\(a==gf)=ah/\∃vs,KV kvs vs/\h.DictOf (fK P w) a vs
 |.dT kvs=>kvs.length<=aI/\(a==gf)=ah/\∃xs:aa (aa Key×ak×am),
   jg (λ(p:aa Key×V)(q:aa Key×ak×am)=>p.1=q.1/\H q.2.1=ae (.tup (p.1.map kV))/\RelV p.2 q.2.2) kvs xs/\
   ∃o es ep,h.get? a=ae o/\o.ExactDict/\o.data=.dict es ep/\es.toList=xs.map (entryOfKey (lq (fK P w)))/\(xs.map (·.1)).Nodup
 |.set S n=>h.SetOf (intKind P w) a S n
 |.ins C dx fs=>H dx=ae (.own a)/\fs.length<=1000/\dx≠a/\h.get? a=ae (PySem.W.instObj C dx)/\
   ∃mA,h.Ns1 dx mA/\(∀f,aCq (fs.lookup f) (mA f))/\xD mA (fs.map (·.1))
 |.own _=>∃o,h.get? a=ae o
 |.xd fs=>∃mA,h.Ns1 a mA/\∀f,aCq (fs.lookup f) (mA f)
 |.rng lo hi=>∃t u v,h.get? a=ae {cls:=.type "range",data:=.fields #[.int lo t,.int hi u,.int 1 v]}
 |.frz o u=>h.get? a=ae o/\jN H h a u
 |.tbl ps=>h.get? a=ae {cls:=.none,data:=.fields ps}
 |.met f x=>h.get? a=ae (s_ (.ref f) (.ref x))
 |.ext φ=>φ h/\(∃o,h.get? a=ae o)/\∀h1 h2:az,φ h1->(∀o,h1.get? a=ae o->h2.get? a=ae o)->φ h2
def HOk(H:Hp)(h:az):Prop:=∀a o,H a=ae o->jN P w H h a o
end
section
variable {P:bp} {w:bj} {H H':Hp} {h h':az} {a:ak} {o:HO}
theorem jN.lt(x:jN P w H h a o):a<h.objs.size:=by
 cases o with
 |lst xs=>obtain⟨_,_,_,_,e⟩:=x;exact bX e
 |tup xs=>obtain⟨_,_,_,p⟩:=x;exact p.tup.lt
 |dK kvs=>obtain⟨_,_,_,_,o,_,_,e,_⟩:=x;exact bX e
 |dT kvs=>obtain⟨_,_,_,_,o,_,_,e,_⟩:=x;exact bX e
 |set S n=>obtain⟨o,_,_,_,e,_⟩:=x;exact bX e
 |ins C dx fs=>obtain⟨_,_,_,e,_⟩:=x;exact bX e
 |own y=>obtain⟨_,e⟩:=x;exact bX e
 |xd fs=>obtain⟨_,⟨_,_,_,e,_⟩,_⟩:=x;exact bX e
 |rng lo hi=>obtain⟨_,_,_,e⟩:=x;exact bX e
 |frz ob u=>obtain⟨e,_⟩:=x;exact bX e
 |tbl ps=>exact bX (show h.get? a=ae _ from x)
 |met f y=>exact bX (show h.get? a=ae _ from x)
 |ext φ=>obtain⟨_,⟨_,e⟩,_⟩:=x;exact bX e
theorem Paired.aOo:∀{l₁:aa α}{l₂:aa β},jg F l₁ l₂->(∀a b,F a b->G a b)->jg G l₁ l₂
 |_,_,.nil,_=>.nil
 |_,_,.cons r t,f=>.cons (f _ _ r) (Paired.aOo t f)
theorem jN.stay(x:jN P w H h a o)(k:∀b u,(b=a\/H b=ae (.own a))->h.get? b=ae u->h'.get? b=ae u)
 (ho:∀b,H b=ae (.own a)->H' b=ae (.own a))(ht:∀b xs,H b=ae (.tup xs)->H' b=ae (.tup xs)):jN P w H' h' a o:=by
 induction o with
 |lst xs=>obtain⟨z,its,n,r,e⟩:=x;exact⟨z,its,n,r,k _ _ (.inl rfl) e⟩
 |tup xs=>obtain⟨z,its,r,ob,e,c⟩:=x;exact⟨z,its,r,ob,k _ _ (.inl rfl) e,c⟩
 |dK kvs=>obtain⟨z,y,vs,r,ob,es,ep,e,c⟩:=x;exact⟨z,y,vs,r,ob,es,ep,k _ _ (.inl rfl) e,c⟩
 |dT kvs=>
  obtain⟨z,y,xs,r,ob,es,ep,e,c⟩:=x;exact⟨z,y,xs,Paired.aOo r λp q z=>⟨z.1,ht _ _ z.2.1,z.2.2⟩,ob,es,ep,k _ _ (.inl rfl) e,c⟩
 |set S n=>obtain⟨ob,es,ep,t,e,c⟩:=x;exact⟨ob,es,ep,t,k _ _ (.inl rfl) e,c⟩
 |ins C dx fs=>
  obtain⟨d,z,ne,e,mA,⟨od,es,ep,e2,c⟩,r⟩:=x;exact⟨ho _ d,z,ne,k _ _ (.inl rfl) e,mA,⟨od,es,ep,k _ _ (.inr d) e2,c⟩,r⟩
 |own y=>obtain⟨ob,e⟩:=x;exact⟨ob,k _ _ (.inl rfl) e⟩
 |xd fs=>obtain⟨mA,⟨od,es,ep,e,c⟩,r⟩:=x;exact⟨mA,⟨od,es,ep,k _ _ (.inl rfl) e,c⟩,r⟩
 |rng lo hi=>obtain⟨t,u,v,e⟩:=x;exact⟨t,u,v,k _ _ (.inl rfl) e⟩
 |frz ob u ih=>obtain⟨e,q⟩:=x;exact⟨k _ _ (.inl rfl) e,ih q⟩
 |tbl ps=>
  have e:h.get? a=ae {cls:=.none,data:=.fields ps}:=x;show h'.get? a=ae {cls:=.none,data:=.fields ps};exact k a _ (.inl rfl) e
 |met f y=>
  have e:h.get? a=ae (s_ (.ref f) (.ref y)):=x;show h'.get? a=ae (s_ (.ref f) (.ref y));exact k a _ (.inl rfl) e
 |ext φ=>obtain⟨p,⟨o,e⟩,st⟩:=x;exact⟨st _ _ p λo q=>k _ _ (.inl rfl) q,⟨o,k _ _ (.inl rfl) e⟩,st⟩
theorem HOk.lt(x:HOk P w H h)(e:H a=ae o):a<h.objs.size:=(x a o e).lt
theorem HOk.fresh(x:HOk P w H h)(e:h.objs.size<=a):H a=aj:=by
 cases q:H a with
 |none=>rfl
 |some u=>exact aT (dP (x.lt q) e) (gS _)
theorem HOk.kept(x:HOk P w H h)(k:∀b u,h.get? b=ae u->h'.get? b=ae u):HOk P w H h':=λa o e=>
 (x a o e).stay (λb u _ q=>k b u q) (λ_ q=>q) λ_ _ q=>q
theorem HOk.laid(x:HOk P w H h)(k:∀b u,h.get? b=ae u->h'.get? b=ae u)(hp:h.objs.size<=a)(new:jN P w (upd H a o) h' a o):HOk P w (upd H a o) h':=λb u e=>by
 have hn:=x.fresh hp;by_cases hb:b=a
 .subst hb;rw[aO] at e;cases e;exact new
 .rw[bY hb] at e;exact(x b u e).stay (λc v _ q=>k c v q) (λc q=>by rw[bY (dG q hn)];exact q) λc xs q=>by rw[bY (dG q hn)];exact q
end
def Rd(H:Hp)(a:ak)(u:HO):Prop:=H a=ae u\/∃o,H a=ae (.frz o u)
theorem Rd.ok(r:Rd H a u)(x:HOk P w H h):jN P w H h a u:=by
 rcases r with r|⟨o,r⟩
 .exact x a u r
 .obtain⟨_,q⟩:=x a _ r;exact q
def Mut:av HO->Prop
 |some (.lst _)=>gm
 |some (.dK _)=>gm
 |some (.dT _)=>gm
 |some (.set _ _)=>gm
 |some (.ins _ _ _)=>gm
 |some (.ext _)=>gm
 |_=>cK
section
variable {P:bp} {w:bj} {H:Hp} {h h':az} {x e:ak} {o':HO}
theorem HOk.write(ok:HOk P w H h)(mu:Mut (H x))(he:e=x\/H e=ae (.own x))(k:∀b u,b≠e->h.get? b=ae u->h'.get? b=ae u)(heo:∃u,h'.get? e=ae u)
 (new:jN P w (upd H x o') h' x o'):HOk P w (upd H x o') h':=λb u q=>by
 have nown:∀c y,H c=ae (.own y)->c≠x:=λc y r z=>by subst z;rw[r] at mu;exact mu
 have ntup:∀c xs,H c=ae (.tup xs)->c≠x:=λc xs r z=>by subst z;rw[r] at mu;exact mu
 by_cases hb:b=x
 .subst hb;rw[aO] at q;cases q;exact new
 .rw[bY hb] at q;by_cases hbe:b=e
  .have q':H b=ae (.own x):=by
    rcases he with z|z
    .exact aT (hbe.trans z) hb
    .rw[hbe];exact z
   rw[q] at q';cases q';obtain⟨v,hv⟩:=heo;exact⟨v,by rw[hbe];exact hv⟩
  .refine(ok b u q).stay (λc v hc r=>k c v ?_ r) (λc r=>by rw[bY (nown c b r)];exact r) λc xs r=>by rw[bY (ntup c xs r)];exact r
   rcases hc with rfl|hc
   .exact hbe
   .rintro rfl;rcases he with z|z
    .exact nown c b hc z
    .rw[hc] at z;cases z;exact hb rfl
end
structure Un(fs ex:aa ak)(H H':Hp)(h h':az):Prop where
 keep:∀b o,h.get? b=ae o->H b=aj->b∉fs->b∉ex->h'.get? b=ae o
 slot:∀b o,h.get? b=ae o->H b=aj->b∈fs->b∉ex->∃sl,h'.get? b=ae {o with slots:=sl}
 free:∀b o,h.get? b=ae o->H b=aj->b∉ex->H' b=aj
 there:∀b o,h.get? b=ae o->b∉ex->∃o',h'.get? b=ae o'
 tups:∀b xs,H b=ae (.tup xs)->H' b=ae (.tup xs)
 frzs:∀b o u,H b=ae (.frz o u)->H' b=ae (.frz o u)
 tbls:∀b ps,H b=ae (.tbl ps)->∃more,H' b=ae (.tbl (ps++more))
section
variable {fs ex:aa ak} {H H1:Hp} {h h1 h':az} {a x e:ak} {o:HO}
theorem Un.any(u:Un fs ex H H1 h h1)(q:h.get? b=ae ob)(n:H b=aj)(hx:b∉ex):∃sl,h1.get? b=ae {ob with slots:=sl}:=by
 by_cases hb:b∈fs
 .exact u.slot b ob q n hb hx
 .exact⟨ob.slots,u.keep b ob q n hb hx⟩
theorem Un.kept(k:∀b u,h.get? b=ae u->h'.get? b=ae u):Un fs ex H H h h':=
 ⟨λb ob q _ _ _=>k b ob q,λb ob q _ _ _=>⟨ob.slots,k b ob q⟩,λ_ _ _ n _=>n,λb ob q _=>⟨ob,k b ob q⟩,λ_ _ q=>q,λ_ _ _ q=>q,λ_ ps q=>⟨#[],by rw[q];simp⟩⟩
theorem Un.refl:Un fs ex H H h h:=Un.kept λ_ _ q=>q
theorem Un.laid(k:∀b u,h.get? b=ae u->h'.get? b=ae u)(hp:h.objs.size<=a)(hn:H a=aj):Un fs ex H (upd H a o) h h' where
 keep:=λb u q _ _ _=>k b u q
 slot:=λb u q _ _ _=>⟨u.slots,k b u q⟩
 free:=λb u q n _=>by rw[bY (c_ (dP (bX q) hp))];exact n
 there:=λb u q _=>⟨u,k b u q⟩
 tups:=λb xs q=>by rw[bY (dG q hn)];exact q
 frzs:=λb u xs q=>by rw[bY (dG q hn)];exact q
 tbls:=λb ps q=>⟨#[],by rw[bY (dG q hn),q];simp⟩
theorem Un.write(mu:Mut (H x))(he:e=x\/H e=ae (.own x))(k:∀b u,b≠e->h.get? b=ae u->h'.get? b=ae u)(heo:∃u,h'.get? e=ae u):Un fs ex H (upd H x o) h h':=by
 have hx:∀b,H b=aj->b≠x:=λb n z=>by subst z;rw[n] at mu;exact mu
 have hb:∀b,H b=aj->b≠e:=λb n z=>by
  subst z;rcases he with r|r
  .exact hx b n r
  .rw[n] at r;cases r
 have hm:∀b u,H b=ae u->¬Mut (ae u)->b≠x:=λb u q nm z=>by subst z;rw[q] at mu;exact nm mu
 refine⟨λb u q n _ _=>k b u (hb b n) q,λb u q n _ _=>⟨u.slots,k b u (hb b n) q⟩,λb u q n _=>by rw[bY (hx b n)];exact n,λb u q _=>?_,
  λb xs q=>by rw[bY (hm b _ q λz=>z)];exact q,λb u xs q=>by rw[bY (hm b _ q λz=>z)];exact q,λb ps q=>⟨#[],by rw[bY (hm b _ q λz=>z),q];simp⟩⟩
 by_cases hbe:b=e
 .subst hbe;exact heo
 .exact⟨u,k b u hbe q⟩
end
noncomputable def trk(h:az)(H:Hp):aa ak:=(ay h.objs.size).filter λa=>(H a).isSome
def aCx(h:az)(H:Hp):az:=PySem.W.hideAll h (trk h H)
theorem YZ(h:az)(H:Hp):(aCx h H).objs.size=h.objs.size:=PySem.W.hideAll_size _ _
theorem aCy(e:h.get? b=ae o)(n:H b=aj):(aCx h H).get? b=ae o:=
 xE _ e λhm=>by
  have q:(H b).isSome=ag:=(gn.mp hm).2;rw[n] at q;simp at q
theorem aGu(e:(aCx h H).get? b=ae o):h.get? b=ae o/\H b=aj:=by
 have e':h.get? b=ae o:=xI (trk h H) e;refine⟨e',?_⟩;cases q:H b with
 |none=>rfl
 |some x=>
  have hm:b∈trk h H:=gn.mpr ⟨cS.mpr (bX e'),by simp[q]⟩;have z:(aCx h H).get? b=aj:=xL (trk h H) hm;rw[z] at e;cases e
structure Mod(K:bn)(mg:Str->av am)(base:az):Prop where
 kin:K.In base
 glob:base.Ns bu mg
 blt:∃mb,base.Ns ue mb/\∀x:Str,x ≠ "__name__"->mb x=ei x
 nolimit:base.NoLimit
/-- the context: a def's body (or a comprehension's block) running. base: fixed through the whole law;s₀,H₀: the entry;outer: the frames whose slots others may change (a def's callers);stack: all frames that run;
   ex: iterators that were made ahead of the entry and are walked here (a comprehension's);fn: the names whose cells were made at the entry (a def: all;a comprehension's block: its own);calm: not within an except suite;pn: Ψ that every state bears;xe: what is wanted of an exception that leaves the code -/
structure Cx where
 prog:bp
 w:bj
 K:bn
 mg:Str->av am
 base:az
 A:cj
 N:aa Str
 s₀:au
 H₀:Hp
 env:cx
 outer:aa cx
 stack:aa cx
 ex:aa ak
 fn:Str->aq
 calm:aq
 pn:aa (ak×bd)
 xe:am->au->Prop
noncomputable def frs(l:aa cx):aa ak:=l.filterMap (·.frame)
abbrev Cx.fs(X:Cx):aa ak:=frs X.outer
def Vis(sc:el)(x:Str):Prop:=sc.names.lookup x=ae .local\/sc.names.lookup x=ae .cell\/sc.names.lookup x=ae .free
def Loc(sc:el)(x:Str):Prop:=sc.names.lookup x=ae .local\/sc.names.lookup x=ae .cell
def Look(env:cx)(h:az)(m:Str->av am)(x:Str)(u:am):Prop:=
 (env.kindOf x=ae .local/\m x=ae u)\/((env.kindOf x=ae .cell\/env.kindOf x=ae .free)/\∃c,env.cells.lookup x=ae c/\h.IsCell c (ae u))
abbrev zSE(X:Cx)(e:Expr)(es:aa Expr):Prop:=bP (e::es) X.env=(ah,eval e X.env)::bP es X.env
abbrev zSP(X:Cx)(pos:b6)(es:aa Expr):Prop:=(fg pos (bP es X.env)).any (·.1)=ah
abbrev zFw(X:Cx)(cpos:b6)(es:aa Expr):Prop:=((fg cpos (bP es X.env)).all (λx=>!x.1)&&(backToKw cpos (xS [] X.env)).all (λx=>x.1.isSome)
  &&ϒ (es.length+([]:aa Keyword).length+(if ([]:aa Keyword).isEmpty then 0 else 1)<30))=ag
abbrev zSw(X:Cx)(e:Expr)(x:Str)(pos' pos:b6):Prop:=dy e (ae (.Name x pos')) pos.line X.env=pure ah
abbrev zFn(X:Cx)(x:Str):Prop:=X.fn x=ag\/X.env.scope.names.lookup x=ae .local
structure Cx.Ok(X:Cx):Prop where
 mod:Mod X.K X.mg X.base
 kind:X.env.scope.kind=.function
 glob:X.env.globals=bu
 blt:X.env.builtins=ue
 above:X.s₀.heap.objs.size<=X.env.locals
 inj:∀x y c,X.env.cells.lookup x=ae c->X.env.cells.lookup y=ae c->x=y
 has:∀x,(X.env.kindOf x=ae .cell\/X.env.kindOf x=ae .free)->∃c,X.env.cells.lookup x=ae c
 cab:∀x c,X.fn x=ag->X.env.cells.lookup x=ae c->X.s₀.heap.objs.size<=c
 hd:X.calm=ag->X.A.handled=aj
 frames:X.A.frames=ae X.stack
 stk:X.stack=X.outer\/(X.stack=X.env::X.outer/\X.env.frame=ae X.env.locals)
 exf:∀b∈X.ex,b≠X.env.locals/\∀x c,X.env.cells.lookup x=ae c->c≠b
 bs:∀b o,X.base.get? b=ae o->X.s₀.heap.get? b=ae o/\X.H₀ b=aj
 bsz:X.base.objs.size<=X.s₀.heap.objs.size
 noex:∀b o,X.base.get? b=ae o->b∉X.ex
 exfs:∀b∈X.ex,b∉X.fs
 WL:X.s₀.heap.FunFrames X.base X.outer
 frf:∀b∈X.fs,X.H₀ b=aj
structure Inv(X:Cx)(Ψ:aa (ak×bd))(σ:aa (av V))(H:Hp)(s:au):Prop where
 ok:X.Ok
 os:s.os=X.s₀.os
 bare:gV s.gens
 base:Un X.fs X.ex X.H₀ H X.s₀.heap s.heap
 loc:∃m,s.heap.Ns X.env.locals m/\∀(i:af)(x:Str)(v:V),X.N[i]?=ae x->σ[i]?=ae (ae v)->Vis X.env.scope x->∃u,RelV v u/\Look X.env s.heap m x u
 cell:∀x c,X.env.cells.lookup x=ae c->∃v,s.heap.IsCell c v
 free:H X.env.locals=aj
 freeC:∀x c,X.env.cells.lookup x=ae c->H c=aj
 pin:∀p∈X.pn++Ψ,s.heap.get? p.1=ae p.2/\H p.1=aj/\p.1≠X.env.locals/\p.1∉X.fs/\∀v,p.2.data≠.cell v
 hok:HOk X.prog X.w H s.heap
 len:σ.length=X.N.length
section
variable {X:Cx} {Ψ:aa (ak×bd)} {σ:aa (av V)} {H H':Hp} {s:au} {h':az}
theorem Cx.Ok.aRh(ok:X.Ok)(e:X.base.get? b=ae o):b∉X.fs:=λhb=>by
 have:=(ok.WL.mem hb).1;rw[e] at this;cases this
theorem Inv.bs(I:Inv X Ψ σ H s):∀b o,X.base.get? b=ae o->s.heap.get? b=ae o/\H b=aj:=λb o e=>
 ⟨I.base.keep b o (I.ok.bs b o e).1 (I.ok.bs b o e).2 (I.ok.aRh e) (I.ok.noex b o e),I.base.free b o (I.ok.bs b o e).1 (I.ok.bs b o e).2 (I.ok.noex b o e)⟩
theorem Inv.bk(I:Inv X Ψ σ H s):∀b o,X.base.get? b=ae o->s.heap.get? b=ae o:=λb o e=>(I.bs b o e).1
theorem Inv.mod(I:Inv X Ψ σ H s):Mod X.K X.mg X.base:=I.ok.mod
theorem Inv.kIn(I:Inv X Ψ σ H s):X.K.In s.heap:=I.ok.mod.kin.keeps I.bk
theorem Inv.lt(I:Inv X Ψ σ H s):X.env.locals<s.heap.objs.size:=let ⟨_,hn,_⟩:=I.loc;hn.lt
theorem Inv.sz(I:Inv X Ψ σ H s):X.s₀.heap.objs.size<=s.heap.objs.size:=dh I.ok.above (uf I.lt)
theorem Inv.aQc(I:Inv X Ψ σ H s)(h:s.heap.objs.size<=a):a∉X.fs:=λhb=>by
 obtain⟨_,o,ho,_⟩:=I.ok.WL.mem hb;exact aT (dP (bX ho) (dh I.sz h)) (gS _)
theorem Inv.cne(I:Inv X Ψ σ H s):∀x c,X.env.cells.lookup x=ae c->c≠X.env.locals:=λx c e z=>by
 obtain⟨v,o,ho,hd⟩:=I.cell x c e;obtain⟨m,⟨o',es,ep,ho',hd',_⟩,_⟩:=I.loc;rw[z,ho'] at ho;cases ho;rw[hd'] at hd;cases hd
theorem Inv.WL(I:Inv X Ψ σ H s):s.heap.FunFrames X.base X.outer:=by
 have all:∀(l:aa cx),(∀b∈frs l,b∈X.fs)->X.s₀.heap.FunFrames X.base l->s.heap.FunFrames X.base l:=by
  intro l;induction l with
  |nil=>intro _ _;trivial
  |cons env r ih=>
   intro hs hl;obtain⟨hk,⟨L,o,hf,hn,ho,hd⟩,hr⟩:=hl;have hL:L∈X.fs:=hs L (by unfold frs;rw[lr,hf];exact bq);obtain⟨sl,e⟩:=I.base.slot L o ho (I.ok.frf L hL) hL λz=>I.ok.exfs L z hL
   exact⟨hk,⟨L,_,hf,hn,e,hd⟩,ih (λb hb=>hs b (by unfold frs;rw[lr,hf];exact cr _ hb)) hr⟩
 exact all X.outer (λ_ hb=>hb) I.ok.WL
theorem Inv.stack(I:Inv X Ψ σ H s):s.heap.FunFrames X.base X.stack:=by
 rcases I.ok.stk with e|⟨e,hf⟩
 .rw[e];exact I.WL
 .rw[e];obtain⟨m,hn,_⟩:=I.loc;refine .cons (by rw[I.ok.kind];decide) hf hn ?_ I.WL;exact ya (dh I.ok.bsz I.ok.above)
theorem Inv.TQ(I:Inv X Ψ σ H s):∀b∈frs X.stack,b∈X.env.locals::X.fs:=λb hb=>by
 rcases I.ok.stk with e|⟨e,hf⟩
 .rw[e] at hb;exact cr _ hb
 .rw[e] at hb;unfold frs at hb;rw[lr,hf] at hb;exact hb
theorem Inv.Q6(I:Inv X Ψ σ H s):∀b∈frs X.stack,H b=aj:=λb hb=>by
 rcases bt.mp (I.TQ b hb) with e|hb
 .rw[e];exact I.free
 .obtain⟨_,o,ho,_⟩:=I.ok.WL.mem hb;exact I.base.free b o ho (I.ok.frf b hb) λz=>I.ok.exfs b z hb
theorem Inv.step{ch:aa ak}(I:Inv X Ψ σ H s)
 (hch:∀b∈ch,(b∈X.ex\/X.s₀.heap.objs.size<=b)/\b≠X.env.locals/\(∀x c,X.env.cells.lookup x=ae c->c≠b)/\∀p∈X.pn++Ψ,p.1≠b)
 (keep:∀b o,b≠X.env.locals->b∉X.fs->b∉ch->s.heap.get? b=ae o->H b=aj->h'.get? b=ae o)
 (slot:∀b o,b≠X.env.locals->b∈X.fs->b∉ch->s.heap.get? b=ae o->H b=aj->∃sl,h'.get? b=ae {o with slots:=sl})(free:∀b o,b∉ch->s.heap.get? b=ae o->H b=aj->H' b=aj)
 (there:∀b o,b∉ch->s.heap.get? b=ae o->∃o',h'.get? b=ae o')
 (tups:∀b xs,H b=ae (.tup xs)->H' b=ae (.tup xs))(frzs:∀b o u,H b=ae (.frz o u)->H' b=ae (.frz o u))(tbls:∀b ps,H b=ae (.tbl ps)->∃more,H' b=ae (.tbl (ps++more)))
 (ns:∀m,s.heap.Ns X.env.locals m->h'.Ns X.env.locals m)(hok:HOk X.prog X.w H' h')(hg:gV g') :
  Inv X Ψ σ H' {s with heap:=h',gens:=g',drawn:=d',toks:=t'}:=by
 have neL:∀b o,X.s₀.heap.get? b=ae o->b≠X.env.locals:=λb o e=>c_ (dP (bX e) I.ok.above)
 have neC:∀b o,X.s₀.heap.get? b=ae o->b∉X.ex->b∉ch:=λb o e hx hb=>by
  rcases(hch b hb).1 with z|z
  .exact hx z
  .exact aT (dP (bX e) z) (gS _)
 have cellK:∀x c,X.env.cells.lookup x=ae c->∀v,s.heap.IsCell c v->h'.IsCell c v:=λx c e v ⟨o,ho,hd⟩=>by
  have nch:c∉ch:=λz=>(hch c z).2.2.1 x c e rfl
  by_cases hc:c∈X.fs
  .obtain⟨sl,q⟩:=slot c o (I.cne x c e) hc nch ho (I.freeC x c e);exact⟨_,q,hd⟩
  .exact⟨o,keep c o (I.cne x c e) hc nch ho (I.freeC x c e),hd⟩
 refine⟨I.ok,I.os,hg,⟨λb o e n hb hx=>?_,λb o e n hb hx=>?_,λb o e n hx=>?_,λb o e hx=>?_,λb xs e=>tups b xs (I.base.tups b xs e),λb o xs e=>frzs b o xs (I.base.frzs b o xs e),λb ps e=>?_⟩,?_,λx c e=>?_,?_,λx c e=>?_,λp hp=>?_,hok,I.len⟩
 .exact keep b o (neL b o e) hb (neC b o e hx) (I.base.keep b o e n hb hx) (I.base.free b o e n hx)
 .obtain⟨sl,e1⟩:=I.base.slot b o e n hb hx;obtain⟨sl',e2⟩:=slot b _ (neL b o e) hb (neC b o e hx) e1 (I.base.free b o e n hx);exact⟨sl',e2⟩
 .obtain⟨o',e1⟩:=I.base.there b o e hx;exact free b o' (neC b o e hx) e1 (I.base.free b o e n hx)
 .obtain⟨o',e1⟩:=I.base.there b o e hx;exact there b o' (neC b o e hx) e1
 .obtain⟨m1,e1⟩:=I.base.tbls b ps e;obtain⟨m2,e2⟩:=tbls b _ e1;exact⟨m1++m2,by rw[e2,yb]⟩
 .obtain⟨m,hn,hl⟩:=I.loc;refine⟨m,ns m hn,λi x v e1 e2 e3=>?_⟩;obtain⟨u,r,l⟩:=hl i x v e1 e2 e3;refine⟨u,r,?_⟩;rcases l with l|⟨k,c,e,z⟩
  .exact .inl l
  .exact .inr ⟨k,c,e,cellK x c e _ z⟩
 .obtain⟨v,z⟩:=I.cell x c e;exact⟨v,cellK x c e v z⟩
 .obtain⟨m,⟨o,_,_,ho,_⟩,_⟩:=I.loc;exact free _ o (λz=>(hch _ z).2.1 rfl) ho I.free
 .obtain⟨v,o,ho,hd⟩:=I.cell x c e;exact free c o (λz=>(hch c z).2.2.1 x c e rfl) ho (I.freeC x c e)
 .obtain⟨e,n,ne,nf,d⟩:=I.pin p hp;have nch:p.1∉ch:=λz=>(hch p.1 z).2.2.2 p hp rfl
  exact⟨keep p.1 p.2 ne nf nch e n,free p.1 p.2 nch e n,ne,nf,d⟩
theorem Inv.un(I:Inv X Ψ σ H s)(u:Un X.fs [] H H' s.heap h')(hok:HOk X.prog X.w H' h'):Inv X Ψ σ H' {s with heap:=h',toks:=t'}:=by
 obtain⟨m,⟨o,es,ep,ho,r⟩,_⟩:=id I.loc;obtain⟨sl,hL⟩:=u.any ho I.free 0x2;exact I.step (ch:=[]) (λ_ z=>nomatch z) (λb o _ hb _ e n=>u.keep b o e n hb 0x2) (λb o _ hb _ e n=>u.slot b o e n hb 0x2) (λb o _ e n=>u.free b o e n 0x2) (λb o _ e=>u.there b o e 0x2) u.tups u.frzs u.tbls (λm' hm=>by
  obtain⟨o',es',ep',ho',r'⟩:=hm;rw[ho] at ho';cases ho';exact⟨_,es',ep',hL,r'⟩) hok I.bare
theorem Inv.call(I:Inv X Ψ σ H s)(u:Un (frs X.stack) ch H H' s.heap h')(hok:HOk X.prog X.w H' h')(hg:gV g')
 (hch:∀b∈ch,(b∈X.ex\/X.s₀.heap.objs.size<=b)/\b≠X.env.locals/\(∀x c,X.env.cells.lookup x=ae c->c≠b)/\∀p∈X.pn++Ψ,p.1≠b) :
  Inv X Ψ σ H' {s with heap:=h',gens:=g',drawn:=d',toks:=t'}:=by
 obtain⟨m,⟨o,es,ep,ho,r⟩,_⟩:=id I.loc;obtain⟨sl,hL⟩:=u.any ho I.free λz=>(hch _ z).2.1 rfl
 exact I.step hch (λb o hL hb hc e n=>u.keep b o e n (λz=>(bt.mp (I.TQ b z)).elim hL hb) hc) (λb o _ _ hc e n=>u.any e n hc) (λb o hc e n=>u.free b o e n hc) (λb o hc e=>u.there b o e hc) u.tups u.frzs u.tbls (λm' hm=>by
  obtain⟨o',es',ep',ho',r'⟩:=hm;rw[ho] at ho';cases ho';exact⟨_,es',ep',hL,r'⟩) hok hg
theorem Inv.turned(I:Inv X Ψ σ H s)(k:∀b o,b≠it->s.heap.get? b=ae o->h'.get? b=ae o)(hn:H it=aj)(hL:it≠X.env.locals)
 (h1:it∈X.ex\/X.s₀.heap.objs.size<=it)(h2:∀x c,X.env.cells.lookup x=ae c->c≠it)(h3:∀p∈X.pn++Ψ,p.1≠it):Inv X Ψ σ H {s with heap:=h',toks:=t'}:=by
 have nit:∀b u,H b=ae u->b≠it:=λb u e z=>by rw[z,hn] at e;cases e
 refine I.step (ch:=[it]) (λb hb=>?_) (λb o _ _ hc e _=>k b o (λz=>hc (by simp[z])) e) (λb o _ _ hc e _=>⟨o.slots,k b o (λz=>hc (by simp[z])) e⟩) (λ_ _ _ _ n=>n)
  (λb o hc e=>⟨o,k b o (λz=>hc (by simp[z])) e⟩) (λ_ _ e=>e) (λ_ _ _ e=>e) (λb ps e=>⟨#[],by rw[e];simp⟩) (λm hm=>?_) (λb u e=>?_) I.bare
 .have e:b=it:=by simpa using hb
  subst e;exact⟨h1,hL,h2,h3⟩
 .obtain⟨o,es,ep,ho,r⟩:=hm;exact⟨o,es,ep,k _ o (Ne.symm hL) ho,r⟩
 .refine(I.hok b u e).stay (λc v hc q=>k c v ?_ q) (λ_ q=>q) λ_ _ q=>q
  rcases hc with z|z
  .rw[z];exact nit b u e
  .exact nit c _ z
theorem Inv.tok(I:Inv X Ψ σ H s)(t:af):Inv X Ψ σ H {s with toks:=t}:=I.un Un.refl I.hok
theorem Inv.kept(I:Inv X Ψ σ H s)(k:∀b u,s.heap.get? b=ae u->h'.get? b=ae u):Inv X Ψ σ H {s with heap:=h',toks:=t'}:=I.un (Un.kept k) (I.hok.kept k)
theorem Inv.laid(I:Inv X Ψ σ H s)(k:∀b u,s.heap.get? b=ae u->h'.get? b=ae u)(hp:s.heap.objs.size<=a)(new:jN X.prog X.w (upd H a o) h' a o) :
  Inv X Ψ σ (upd H a o) {s with heap:=h',toks:=t'}:=I.un (Un.laid k hp (I.hok.fresh hp)) (I.hok.laid k hp new)
theorem Inv.write(I:Inv X Ψ σ H s)(mu:Mut (H x))(he:e=x\/H e=ae (.own x))(k:∀b u,b≠e->s.heap.get? b=ae u->h'.get? b=ae u)(heo:∃u,h'.get? e=ae u)
 (new:jN X.prog X.w (upd H x o) h' x o):Inv X Ψ σ (upd H x o) {s with heap:=h',toks:=t'}:=I.un (Un.write mu he k heo) (I.hok.write mu he k heo new)
theorem Inv.weak(I:Inv X Ψ σ H s)(hl:σ'.length=σ.length)(w:∀(i:af) v,σ'[i]?=ae (ae v)->σ[i]?=ae (ae v)):Inv X Ψ σ' H s:=
 ⟨I.ok,I.os,I.bare,I.base,let ⟨m,hn,hl'⟩:=I.loc;⟨m,hn,λi x v e1 e2 e3=>hl' i x v e1 (w i v e2) e3⟩,I.cell,I.free,I.freeC,I.pin,I.hok,hl.trans I.len⟩
theorem Inv.Q7(I:Inv X Ψ σ H s)(h:∀p∈pins',s.heap.get? p.1=ae p.2/\H p.1=aj/\p.1≠X.env.locals/\p.1∉X.fs/\∀v,p.2.data≠.cell v):Inv X pins' σ H s:=
 ⟨I.ok,I.os,I.bare,I.base,I.loc,I.cell,I.free,I.freeC,λp hp=>(bo.mp hp).elim (λz=>I.pin p (fN _ z)) (h p),I.hok,I.len⟩
theorem GQ{N:aa Str}(hN:N.Nodup){i j:af}(a:N[i]?=ae x)(b:N[j]?=ae x):i=j:=by
 obtain⟨h1,e1⟩:=dQ.mp a;obtain⟨h2,e2⟩:=dQ.mp b;exact(yc hN).mp (e1.trans e2.symm)
theorem KZ(I:Inv X Ψ σ H s)(hN:X.N.Nodup)(hi:X.N[i]?=ae x)(hx:Loc X.env.scope x)(r:RelV v u)
 (h:∀s',Inv X Ψ (σ.set i (ae v)) H s'->(∃a,fj a s.heap s'.heap/\(a=X.env.locals\/X.env.cells.lookup x=ae a))->Q () s')(hf:zFn X x:=by first|exact .inl rfl|exact .inr rfl|assumption):ϑ M A (storeName X.env x u) Q E s:=by
 obtain⟨m,hn,hl⟩:=id I.loc;have hcls:(X.env.scope.kind==.class||(X.env.scope.kind==.module&&X.env.locals !=X.env.globals))=ah:=by rw[I.ok.kind];rfl
 have hiσ:i<σ.length:=by rw[I.len];exact(dQ.mp hi).1
 have cne:=I.cne;have tracked:∀{a:ak}{h':az},(∃o,s.heap.get? a=ae o/\H a=aj)->fj a s.heap h'->HOk X.prog X.w H h':=λ{a h'} ha hs b ob e=>by
  obtain⟨_,_,hfree⟩:=ha;refine(I.hok b ob e).stay (λc w' hc q=>(hs.2 c ?_).trans q) (λ_ q=>q) λ_ _ q=>q
  rintro rfl;rcases hc with rfl|hc
  .rw[hfree] at e;cases e
  .rw[hfree] at hc;cases hc
 rcases hx with hk|hk
 .refine wpAny_storeName_local hk hn (λh' hn' hs=>?_) hcls;obtain⟨oL,_,_,hoL,_⟩:=id hn;refine h _ ⟨I.ok,I.os,I.bare,⟨λb o e n hb hx=>?_,λb o e n hb hx=>?_,I.base.free,λb o e hx=>?_,I.base.tups,I.base.frzs,I.base.tbls⟩,⟨_,hn',λj y v' e1 e2 e3=>?_⟩,λy c e=>?_,I.free,I.freeC,λp hp=>?_,tracked ⟨oL,hoL,I.free⟩ hs,by simpa using I.len⟩ ⟨_,hs,.inl rfl⟩
  .exact(hs.2 b (c_ (dP (bX e) I.ok.above))).trans (I.base.keep b o e n hb hx)
  .obtain⟨sl,e1⟩:=I.base.slot b o e n hb hx;exact⟨sl,(hs.2 b (c_ (dP (bX e) I.ok.above))).trans e1⟩
  .obtain⟨o',e1⟩:=I.base.there b o e hx;exact⟨o',(hs.2 b (c_ (dP (bX e) I.ok.above))).trans e1⟩
  .by_cases hj:j=i
   .subst hj;rw[hi] at e1;cases e1;rw[fq hiσ] at e2;cases e2;exact⟨u,r,.inl ⟨hk,by simp⟩⟩
   .rw[du (Ne.symm hj)] at e2;obtain⟨u',r',q⟩:=hl j y v' e1 e2 e3;refine⟨u',r',?_⟩;rcases q with ⟨k,e⟩|⟨k,c,e,z⟩
    .refine .inl ⟨k,?_⟩;have:y≠x:=λe=>hj (GQ hN e1 (e▸hi))
     simp[this,e]
    .exact .inr ⟨k,c,e,z.sameBut hs (cne y c e)⟩
  .obtain⟨w',z⟩:=I.cell y c e;exact⟨w',z.sameBut hs (cne y c e)⟩
  .obtain⟨e,n,ne,nf,d⟩:=I.pin p hp;exact⟨(hs.2 p.1 ne).trans e,n,ne,nf,d⟩
 .have hfn:X.fn x=ag:=by
   rcases hf with z|z
   .exact z
   .rw[z] at hk;cases hk
  obtain⟨c,hc⟩:=I.ok.has x (.inl hk);obtain⟨w',z⟩:=I.cell x c hc;refine wpAny_storeName_cell I.ok.kind hk hc z (λh' hc' hs=>?_);obtain⟨oc,hoc,hocd⟩:=id z;refine h {s with heap:=h'} ⟨I.ok,I.os,I.bare,⟨λb o e n hb hx=>?_,λb o e n hb hx=>?_,I.base.free,λb o e hx=>?_,I.base.tups,I.base.frzs,I.base.tbls⟩,⟨m,hn.sameBut hs (Ne.symm (cne x c hc)),λj y v' e1 e2 e3=>?_⟩,λy c' e=>?_,I.free,I.freeC,λp hp=>?_,tracked ⟨oc,hoc,I.freeC x c hc⟩ hs,by simpa using I.len⟩ ⟨c,hs,.inr hc⟩
  .exact(hs.2 b (c_ (dP (bX e) (I.ok.cab x c hfn hc)))).trans (I.base.keep b o e n hb hx)
  .obtain⟨sl,e1⟩:=I.base.slot b o e n hb hx;exact⟨sl,(hs.2 b (c_ (dP (bX e) (I.ok.cab x c hfn hc)))).trans e1⟩
  .obtain⟨o',e1⟩:=I.base.there b o e hx;exact⟨o',(hs.2 b (c_ (dP (bX e) (I.ok.cab x c hfn hc)))).trans e1⟩
  .by_cases hj:j=i
   .subst hj;rw[hi] at e1;cases e1;rw[fq hiσ] at e2;cases e2;exact⟨u,r,.inr ⟨.inl hk,c,hc,hc'⟩⟩
   .rw[du (Ne.symm hj)] at e2;obtain⟨u',r',q⟩:=hl j y v' e1 e2 e3;refine⟨u',r',?_⟩;rcases q with q|⟨k,c',e,z'⟩
    .exact .inl q
    .refine .inr ⟨k,c',e,z'.sameBut hs ?_⟩;rintro rfl;exact hj (GQ hN e1 (I.ok.inj _ _ _ e hc▸hi))
  .by_cases hcc:c'=c
   .subst hcc;exact⟨_,hc'⟩
   .obtain⟨w2,z2⟩:=I.cell y c' e;exact⟨w2,z2.sameBut hs hcc⟩
  .obtain⟨e,n,ne,nf,d⟩:=I.pin p hp;refine⟨(hs.2 p.1 ?_).trans e,n,ne,nf,d⟩;intro q;rw[q,hoc] at e;have q':oc=p.2:=fz e;exact d w' (by rw[<-q'];exact hocd)
theorem TV(I:Inv X Ψ σ H s)(hN:X.N.Nodup)(hi:X.N[i]?=ae x)(hx:Loc X.env.scope x)(r:RelV v u)
 (h:∀s',Inv X Ψ (σ.set i (ae v)) H s'->Q () s')(hf:zFn X x:=by first|exact .inl rfl|exact .inr rfl|assumption):ϑ M A (storeName X.env x u) Q E s:=
 KZ I hN hi hx r (λs' I' _=>h s' I') hf
theorem Inv.call'(I:Inv X Ψ σ H s)(ho:s'.os=s.os)(u:Un (frs X.stack) ch H H' s.heap s'.heap)(hok:HOk X.prog X.w H' s'.heap)(hg:gV s'.gens)
 (hch:∀b∈ch,(b∈X.ex\/X.s₀.heap.objs.size<=b)/\b≠X.env.locals/\(∀x c,X.env.cells.lookup x=ae c->c≠b)/\∀p∈X.pn++Ψ,p.1≠b):Inv X Ψ σ H' s':=by
 obtain⟨h',g',d',t',o'⟩:=s';have e:o'=s.os:=ho;subst e;exact I.call u hok hg hch
end
abbrev XK:=am->av ak->Hp->Prop
noncomputable abbrev St:=aa (av V)
abbrev VK:=V->Hp->Prop
abbrev TE:=St->Hp->VK->Prop
abbrev TT:=St->Hp->(aq->Hp->Prop)->Prop
abbrev TA:=St->Hp->(aa V->Hp->Prop)->Prop
structure Ends where
 nx:St->Hp->Prop
 rt:VK
 bk:St->Hp->Prop:=λ_ _=>cK
 ct:St->Hp->Prop:=λ_ _=>cK
abbrev TS:=Ends->St->Hp->Prop
def EP(X:Cx)(Ψ:aa (ak×bd))(σ:St)(Q:VK)(u:am)(s':au):Prop:=∃v H',Inv X Ψ σ H' s'/\RelV v u/\Q v H'
def TP(X:Cx)(Ψ:aa (ak×bd))(σ:St)(Q:aq->Hp->Prop)(b:aq)(s':au):Prop:=∃H',Inv X Ψ σ H' s'/\Q b H'
def AP(X:Cx)(Ψ:aa (ak×bd))(σ:St)(Q:aa V->Hp->Prop)(us:aa am)(s':au):Prop:=∃vs H',Inv X Ψ σ H' s'/\Vals vs us/\Q vs H'
def SP(X:Cx)(Ψ:aa (ak×bd))(D:Ends)(f:Flow)(s':au):Prop:=
 match f with
 |.next=>∃σ' H',Inv X Ψ σ' H' s'/\D.nx σ' H'
 |.brk=>∃σ' H',Inv X Ψ σ' H' s'/\D.bk σ' H'
 |.cont=>∃σ' H',Inv X Ψ σ' H' s'/\D.ct σ' H'
 |.ret u=>∃v σ' H',Inv X Ψ σ' H' s'/\RelV v u/\D.rt v H'
def PE(X:Cx)(e:Expr)(t:TE):Prop:=
 ∀(Ψ:aa (ak×bd))(s:au)(σ:St)(H:Hp)(Q:VK),Inv X Ψ σ H s->t σ H Q->ϑ (ax X.prog X.w) X.A (eval e X.env) (EP X Ψ σ Q) X.xe s
def PT(X:Cx)(e:Expr)(t:TT):Prop:=
 ∀(Ψ:aa (ak×bd))(s:au)(σ:St)(H:Hp)(Q:aq->Hp->Prop),Inv X Ψ σ H s->t σ H Q->ϑ (ax X.prog X.w) X.A (nB e X.env (eval e X.env)) (TP X Ψ σ Q) X.xe s
def PW(X:Cx)(e:Expr)(t:TT):Prop:=
 ∀(whole:Sem am)(Ψ:aa (ak×bd))(s:au)(σ:St)(H:Hp)(Q:aq->Hp->Prop),Inv X Ψ σ H s->t σ H Q->ϑ (ax X.prog X.w) X.A (nB e X.env whole) (TP X Ψ σ Q) X.xe s
theorem PW.pt(h:PW X e t):PT X e t:=h _
def PA(X:Cx)(es:aa Expr)(t:TA):Prop:=
 ∀(pos:b6)(Ψ:aa (ak×bd))(s:au)(σ:St)(H:Hp)(Q:aa V->Hp->Prop),Inv X Ψ σ H s->t σ H Q->ϑ (ax X.prog X.w) X.A (lu (fg pos (bP es X.env))) (AP X Ψ σ Q) X.xe s
def PS(X:Cx)(st:bi)(t:TS):Prop:=
 ∀(Ψ:aa (ak×bd))(s:au)(σ:St)(H:Hp)(D:Ends),Inv X Ψ σ H s->t D σ H->ϑ (ax X.prog X.w) X.A (exec st X.env) (SP X Ψ D) X.xe s
def PSs(X:Cx)(st:aa bi)(t:TS):Prop:=
 ∀(Ψ:aa (ak×bd))(s:au)(σ:St)(H:Hp)(D:Ends),Inv X Ψ σ H s->t D σ H->ϑ (ax X.prog X.w) X.A (execs st X.env) (SP X Ψ D) X.xe s
theorem thn(h:ϑ M A t Q E s)(hQ:∀a s,Q a s->Q' a s):ϑ M A t Q' E s:=fR h hQ λ_ _ x=>x
section
variable {X:Cx}
noncomputable def WM(i:af):TE:=λσ H Q=>∃v,σ[i]?=ae (ae v)/\Q v H
noncomputable def tC(v:V):TE:=λ_ H Q=>Q v H
theorem cZ(hN:X.N[i]?=ae x)(hv:Vis X.env.scope x)(hd:nDb x:=by decide)(hcd:nCd x:=by decide):PE X (.Name x pos) (WM i):=by
 intro Ψ s σ H Q I h;obtain⟨v,e,h⟩:=h;obtain⟨m,hn,hl⟩:=I.loc;obtain⟨u,r,l⟩:=hl i x v hN e hv;have fin:EP X Ψ σ Q u s:=⟨v,H,I,r,h⟩
 rcases l with ⟨hk,hm⟩|⟨hk,c,hc,hcell⟩
 .exact ug (wpAny_loadName_local I.ok.kind hk hn hm fin) hd
 .rcases hk with hk|hk
  .exact ug (wpAny_loadName_cell I.ok.kind hk hc hcell fin) hd
  .exact ug (wpAny_loadName_free I.ok.kind hk hc hcell fin hcd) hd
theorem aK6{i j pos}:PE X (.Constant (.int i) j pos) (tC (.int i)):=λ_ _ _ H _ I h=>wpAny_Constant_int ⟨.int i,H,I.tok _,⟨_,rfl⟩,h⟩
theorem aOp{b j pos}:PE X (.Constant (.bool b) j pos) (tC (.bl b)):=λ_ _ _ H _ I h=>Constant_bool ⟨.bl b,H,I,rfl,h⟩
theorem aK7{j pos}:PE X (.Constant .none j pos) (tC .non):=λ_ _ _ H _ I h=>Constant_none ⟨.non,H,I,rfl,h⟩
theorem aK8{x j pos}:PE X (.Constant (.str x) j pos) (tC (.str x)):=λ_ _ _ H _ I h=>Calls.Constant_str ⟨.str x,H,I.tok _,⟨_,rfl⟩,h⟩
def Gl(X:Cx)(x:Str):Prop:=X.env.kindOf x=ae .globalImplicit
theorem vQ(I:Inv X Ψ σ H s)(hg:Gl X x)(hm:X.mg x=ae u)(h:Q u s)
 (hd:nDb x:=by decide):ϑ (ax X.prog X.w) X.A (eval (.Name x pos) X.env) Q E s:=
 yd I.ok.kind hg (Calls.loadGlobal_global (by rw[I.ok.glob];exact I.mod.glob.keeps I.bk) hm h) hd
theorem uM(I:Inv X Ψ σ H s)(hg:Gl X x)(hm:X.mg x=aj)(hv:ei x=ae u)(h:Q u s)
 (hn:x ≠ "__name__":=by decide)(hd:nDb x:=by decide):ϑ (ax X.prog X.w) X.A (eval (.Name x pos) X.env) Q E s:=by
 obtain⟨mb,h1,h2⟩:=I.mod.blt;exact yd I.ok.kind hg (Calls.loadGlobal_builtin (by rw[I.ok.glob];exact I.mod.glob.keeps I.bk) hm (by rw[I.ok.blt];exact h1.keeps I.bk) ((h2 x hn).trans hv) h) hd
theorem gY(hg:Gl X x)(hm:X.mg x=ae u)(r:RelV v u)(hd:nDb x:=by decide):PE X (.Name x pos) (tC v):=
 λ_ _ _ H _ I h=>vQ I hg hm ⟨v,H,I,r,h⟩ hd
theorem Y0(hg:Gl X x)(hm:X.mg x=aj)(hv:ei x=ae u)(r:RelV v u)(hn:x ≠ "__name__":=by decide)(hd:nDb x:=by decide):PE X (.Name x pos) (tC v):=
 λ_ _ _ H _ I h=>uM I hg hm hv ⟨v,H,I,r,h⟩ hn hd
variable {a b:Expr} {ta tb:TE} {pos:b6}
variable {tA tB':TT} {rest:aa Expr}
noncomputable def aRi(t u:TT):TT:=λσ H Q=>t σ H λc H1=>if c=ag then u σ H1 Q else Q ah H1
noncomputable def tOr(t u:TT):TT:=λσ H Q=>t σ H λc H1=>if c=ag then Q ag H1 else u σ H1 Q
noncomputable def aRj(t:TT):TT:=λσ H Q=>t σ H λc H1=>Q (!c) H1
theorem aGv(ha:PT X a tA):PW X (.BoolOp .And [a] pos) tA:=by
 intro wh Ψ s σ H Q I h;refine isTrue_and (thn (ha Ψ s σ H Q I h) λc s1 e=>?_);cases c with
 |true=>exact isTrue_and_nil e
 |false=>exact e
theorem aK9(ha:PT X a tA):PW X (.BoolOp .Or [a] pos) tA:=by
 intro wh Ψ s σ H Q I h;refine isTrue_or (thn (ha Ψ s σ H Q I h) λc s1 e=>?_);cases c with
 |false=>exact isTrue_or_nil e
 |true=>exact e
theorem aKa(ha:PT X a tA)(hb:PW X (.BoolOp .And (b::rest) pos) tB'):PW X (.BoolOp .And (a::b::rest) pos) (aRi tA tB'):=by
 intro wh Ψ s σ H Q I h;refine isTrue_and (thn (ha Ψ s σ H _ I h) λc s1 ⟨H1,I1,q1⟩=>?_);cases c with
 |true=>exact hb wh Ψ s1 σ H1 Q I1 q1
 |false=>exact⟨H1,I1,q1⟩
theorem aOq(ha:PT X a tA)(hb:PW X (.BoolOp .Or (b::rest) pos) tB'):PW X (.BoolOp .Or (a::b::rest) pos) (tOr tA tB'):=by
 intro wh Ψ s σ H Q I h;refine isTrue_or (thn (ha Ψ s σ H _ I h) λc s1 ⟨H1,I1,q1⟩=>?_);cases c with
 |true=>exact⟨H1,I1,q1⟩
 |false=>exact hb wh Ψ s1 σ H1 Q I1 q1
theorem aKb(ha:PT X a tA):PT X (.UnaryOp .Not a pos) (aRj tA):=by
 intro Ψ s σ H Q I h;exact isTrue_not (ha Ψ s σ H (λc H1=>Q (!c) H1) I h)
noncomputable def aOr(ta tb:TE):TE:=λσ H Q=>ta σ H λx H1=>∃c,x=.bl c/\if c=ag then tb σ H1 Q else Q (.bl ah) H1
theorem aKc{op}(h:PE X a t):PE X (.BoolOp op [a] pos) t:=λΨ s σ H Q I hw=>BoolOp_one (h Ψ s σ H Q I hw)
theorem aKd(ha:PE X a ta)(hb:PE X (.BoolOp .And (b::rest) pos) tb):PE X (.BoolOp .And (a::b::rest) pos) (aOr ta tb):=by
 intro Ψ s σ H Q I h;refine BoolOp_and (thn (ha Ψ s σ H _ I h) λv s1 ⟨x,H1,I1,r1,q1⟩=>?_);obtain⟨c,rfl,q1⟩:=q1;cases r1;refine uh ?_;cases c with
 |true=>exact hb Ψ s1 σ H1 Q I1 q1
 |false=>exact⟨.bl ah,H1,I1,rfl,q1⟩
end
def SqL(K:bn)(H:Hp)(a:ak)(xs:aa V):Prop:=
 Rd H a (.lst xs)\/
  ∃(o:bd)(its:bw am)(n:af),K.lookup a=ae o/\o.cls=.type "list"/\o.dict=aj/\o.data=.seq its n/\its.size<=aI/\Vals xs its.toList
def SqT(K:bn)(H:Hp)(a:ak)(xs:aa V):Prop:=
 Rd H a (.tup xs)\/
  ∃(o:bd)(its:bw am)(n:af),K.lookup a=ae o/\o.cls=.type "tuple"/\o.data=.seq its n/\its.size<=aI/\Vals xs its.toList
noncomputable def aRk:am->av V
 |.none=>ae .non
 |.bool b=>ae (.bl b)
 |.int i _=>ae (.int i)
 |.str x _=>ae (.str x)
 |.bytes b _=>ae (.byt b)
 |.float b _=>ae (.flt b)
 |.ref a=>ae (.ref a)
 |.type n=>ae (.ty n)
 |_=>aj
theorem RelV.abs(r:RelV x u):aRk u=ae x:=by
 cases x with
 |non=>cases r;rfl
 |bl _=>cases r;rfl
 |int _=>obtain⟨t,rfl⟩:=r;rfl
 |str _=>obtain⟨t,rfl⟩:=r;rfl
 |byt _=>obtain⟨t,rfl⟩:=r;rfl
 |flt _=>obtain⟨t,rfl⟩:=r;rfl
 |ref _=>cases r;rfl
 |ty _=>cases r;rfl
theorem RelV.inj(r:RelV x u)(q:RelV y u):x=y:=fz (r.abs.symm.trans q.abs)
theorem Vals.inj:∀{xs ys:aa V}{us:aa am},Vals xs us->Vals ys us->xs=ys
 |_,_,_,.nil,.nil=>rfl
 |_,_,_,.cons r t,.cons r' t'=>by rw[r.inj r',Vals.inj t t']
section
variable {X:Cx} {Ψ:aa (ak×bd)} {σ:St} {H:Hp} {s:au} {a:ak} {xs ys:aa V}
theorem SqL.of{K:bn}(h:H a=ae (.lst xs)):SqL K H a xs:=.inl (.inl h)
theorem SqT.of{K:bn}(h:H a=ae (.tup xs)):SqT K H a xs:=.inl (.inl h)
theorem Inv.list(I:Inv X Ψ σ H s)(h:SqL X.K H a xs):∃its:aa am,Vals xs its/\PlainL s.heap a its.toArray/\xs.length<=aI:=by
 rcases h with h|⟨o,its,n,hk,hc,hd,hs,hz,r⟩
 .obtain⟨z,its,n,r,e⟩:=h.ok I.hok;exact⟨its,r,⟨_,n,e,rfl,rfl,rfl⟩,z⟩
 .refine⟨its.toList,r,⟨o,n,I.kIn a o hk,hc,hd,by simpa using hs⟩,?_⟩;have e:=r.length;simp only[nE] at e;lia
theorem Inv.tuple(I:Inv X Ψ σ H s)(h:SqT X.K H a xs):∃its:aa am,Vals xs its/\lp s.heap a its.toArray/\xs.length<=aI:=by
 rcases h with h|⟨o,its,n,hk,hc,hs,hz,r⟩
 .obtain⟨z,its,r,p⟩:=h.ok I.hok;exact⟨its,r,p.tup,z⟩
 .refine⟨its.toList,r,⟨o,I.kIn a o hk,hc,n,by simpa using hs⟩,?_⟩;have e:=r.length;simp only[nE] at e;lia
theorem Inv.aCz(I:Inv X Ψ σ H s)(h:SqL X.K H a xs)(h':SqL X.K H a ys):xs=ys:=by
 obtain⟨its,r,⟨o,n,e,_,_,d⟩,_⟩:=I.list h;obtain⟨its',r',⟨o',n',e',_,_,d'⟩,_⟩:=I.list h';rw[e] at e';cases e';rw[d] at d';injection d' with d1 _
 have:its=its':=by simpa using dw ui d1
 subst this;exact r.inj r'
theorem Inv.Y4(I:Inv X Ψ σ H s)(h:SqT X.K H a xs)(h':SqT X.K H a ys):xs=ys:=by
 obtain⟨its,r,⟨o,e,_,n,d⟩,_⟩:=I.tuple h;obtain⟨its',r',⟨o',e',_,n',d'⟩,_⟩:=I.tuple h';rw[e] at e';cases e';rw[d] at d';injection d' with d1 _
 have:its=its':=by simpa using dw ui d1
 subst this;exact r.inj r'
end
noncomputable abbrev Cx.wish(X:Cx)(E:am->au->Prop):Cx:={X with xe:=E}
noncomputable abbrev Cx.nox(X:Cx):Cx:=X.wish λ_ _=>cK
theorem Cx.Ok.wish{X:Cx}(ok:X.Ok)(E:am->au->Prop):(X.wish E).Ok:=
 ⟨ok.mod,ok.kind,ok.glob,ok.blt,ok.above,ok.inj,ok.has,ok.cab,ok.hd,ok.frames,ok.stk,ok.exf,ok.bs,ok.bsz,ok.noex,ok.exfs,ok.WL,ok.frf⟩
theorem Cx.Ok.oH{X:Cx}(ok:(X.wish E).Ok):X.Ok:=
 ⟨ok.mod,ok.kind,ok.glob,ok.blt,ok.above,ok.inj,ok.has,ok.cab,ok.hd,ok.frames,ok.stk,ok.exf,ok.bs,ok.bsz,ok.noex,ok.exfs,ok.WL,ok.frf⟩
section
variable {X:Cx} {Ψ:aa (ak×bd)} {σ:St} {H:Hp} {s:au} {E:am->au->Prop}
theorem Inv.wish(I:Inv X Ψ σ H s)(E:am->au->Prop):Inv (X.wish E) Ψ σ H s:=⟨I.ok.wish E,I.os,I.bare,I.base,I.loc,I.cell,I.free,I.freeC,I.pin,I.hok,I.len⟩
theorem Inv.oH(I:Inv (X.wish E) Ψ σ H s):Inv X Ψ σ H s:=⟨I.ok.oH,I.os,I.bare,I.base,I.loc,I.cell,I.free,I.freeC,I.pin,I.hok,I.len⟩
theorem SP.oH(h:SP (X.wish E) Ψ D f s'):SP X Ψ D f s':=by
 cases f with
 |next=>obtain⟨σ',H',I,q⟩:=h;exact⟨σ',H',I.oH,q⟩
 |brk=>obtain⟨σ',H',I,q⟩:=h;exact⟨σ',H',I.oH,q⟩
 |cont=>obtain⟨σ',H',I,q⟩:=h;exact⟨σ',H',I.oH,q⟩
 |ret u=>obtain⟨v,σ',H',I,r,q⟩:=h;exact⟨v,σ',H',I.oH,r,q⟩
theorem PSs.nox{st:aa bi}(h:PSs X.nox st t):PSs X st t:=λΨ s σ H D I hw=>
 fR (h Ψ s σ H D (I.wish _) hw) (λ_ _ q=>q.oH) λ_ _ z=>dE z
end
section
variable {X:Cx} {st:bi} {rest:aa bi} {t u:TS} {e:Expr} {te:TE} {pos:b6}
noncomputable def aKe:TS:=λD σ H=>D.nx σ H
noncomputable def aFj(t u:TS):TS:=λD σ H=>t {D with nx:=u D} σ H
theorem Y5:PSs X [] aKe:=λ_ _ σ H _ I h=>nI ⟨σ,H,I,h⟩
theorem kJ(h1:PS X st t)(h2:PSs X rest u):PSs X (st::rest) (aFj t u):=by
 intro Ψ s σ H D I h;refine uj (thn (h1 Ψ s σ H {D with nx:=u D} I h) λf s1 q=>?_);cases f with
 |next=>
  obtain⟨σ',H',I',q⟩:=q;exact h2 Ψ s1 σ' H' D I' q
 |ret v=>exact q
 |brk=>exact q
 |cont=>exact q
theorem mH(h1:PS X st t):PSs X [st] t:=by
 intro Ψ s σ H D I h;refine uj (thn (h1 Ψ s σ H D I h) λf s1 q=>?_);cases f with
 |next=>exact nI q
 |ret v=>exact q
 |brk=>exact q
 |cont=>exact q
theorem Inv.quiet(I:Inv X Ψ σ H s):ye X.env=ah:=by simp[ye,I.ok.kind]
noncomputable def aGw(te:TE):TS:=λD σ H=>te σ H λ_ H1=>D.nx σ H1
theorem nF(he:PE X e te)(hs:dy e aj pos.line X.env=pure ah:=by rfl):PS X (.Expr e pos) (aGw te):=by
 intro Ψ s σ H D I h;exact yf (thn (he Ψ s σ H _ I h) λv s1 ⟨x,H1,I1,r1,q1⟩=>⟨σ,H1,I1,q1⟩) I.quiet hs
noncomputable def aRl(te:TE):TS:=λD σ H=>te σ H D.rt
theorem DY(he:PE X e te):PS X (.Return (ae e) pos) (aRl te):=by
 intro Ψ s σ H D I h;exact wpAny_Return_some (thn (he Ψ s σ H _ I h) λv s1 ⟨x,H1,I1,r1,q1⟩=>⟨x,σ,H1,I1,r1,q1⟩)
noncomputable def aQd(c:TT)(t u:TS):TS:=λD σ H=>c σ H λb H1=>if b=ag then t D σ H1 else u D σ H1
theorem Y6(hc:PT X c tc)(ha:PSs X a t)(hb:PSs X b u):PS X (.If c a b pos) (aQd tc t u):=by
 intro Ψ s σ H D I h;refine wpAny_If (thn (hc Ψ s σ H _ I h) λd s1 ⟨H1,I1,q1⟩=>?_);cases d with
 |true=>exact ha Ψ s1 σ H1 D I1 q1
 |false=>exact hb Ψ s1 σ H1 D I1 q1
end
abbrev TG:=V->St->Hp->(St->Hp->Prop)->Prop
abbrev TGs:=aa V->St->Hp->(St->Hp->Prop)->Prop
def PG(X:Cx)(target:Expr)(t:TG):Prop:=
 ∀(Ψ:aa (ak×bd))(s:au)(σ:St)(H:Hp)(v:V)(u:am)(Q:St->Hp->Prop),Inv X Ψ σ H s->RelV v u->t v σ H Q->
  ϑ (ax X.prog X.w) X.A (ip target X.env u) (λ_ s'=>∃σ' H',Inv X Ψ σ' H' s'/\Q σ' H') X.xe s
def PGs(X:Cx)(ts:aa Expr)(t:TGs):Prop:=
 ∀(Ψ:aa (ak×bd))(s:au)(σ:St)(H:Hp)(vs:aa V)(us:aa am)(Q:St->Hp->Prop),Inv X Ψ σ H s->Vals vs us->t vs σ H Q->
  ϑ (ax X.prog X.w) X.A (yg ((gp ts X.env).map (·.2)) us) (λ_ s'=>∃σ' H',Inv X Ψ σ' H' s'/\Q σ' H') X.xe s
abbrev aRm:=V->V->V->Hp->(Hp->Prop)->Prop
def aRn(X:Cx)(t:aRm):Prop:=
 ∀(Ψ:aa (ak×bd))(s:au)(σ:St)(H:Hp)(o i v:V)(ov iv u:am)(Q:Hp->Prop),Inv X Ψ σ H s->RelV o ov->RelV i iv->RelV v u->t o i v H Q->
  ϑ (ax X.prog X.w) X.A (setItem ov iv u) (λ_ s'=>∃H',Inv X Ψ σ H' s'/\Q H') X.xe s
section
variable {X:Cx} {pos:b6}
noncomputable def yJ(i:af):TG:=λv σ H Q=>Q (σ.set i (ae v)) H
theorem aM(hN:X.N.Nodup)(hi:X.N[i]?=ae x)(hx:Loc X.env.scope x)(hf:zFn X x:=by first|exact .inl rfl|exact .inr rfl|assumption):PG X (.Name x pos) (yJ i):=by
 intro Ψ s σ H v u Q I r h;exact wpAny_assign_Name (TV I hN hi hx r (λs' I'=>⟨_,H,I',h⟩) hf)
noncomputable def aQe:TGs:=λvs σ H Q=>vs=[]/\Q σ H
noncomputable def aKf(t:TG)(u:TGs):TGs:=λvs σ H Q=>∃v r,vs=v::r/\t v σ H λσ' H'=>u r σ' H' Q
theorem fD:PGs X [] aQe:=by
 intro Ψ s σ H vs us Q I r h;obtain⟨e,h⟩:=h;subst e;cases r;exact assignInOrder_nil ⟨σ,H,I,h⟩
theorem aP(h1:PG X e t)(h2:PGs X es u)
 (hs:(gp (e::es) X.env).map (·.2)=ip e X.env::(gp es X.env).map (·.2):=by rfl):PGs X (e::es) (aKf t u):=by
 intro Ψ s σ H vs us Q I r h;obtain⟨v,vr,e1,h⟩:=h;subst e1;cases r with
 |cons r rr=>
  rw[hs];refine assignInOrder_cons (thn (h1 Ψ s σ H _ _ _ I r h) λ_ s1 ⟨σ1,H1,I1,q1⟩=>?_);exact h2 Ψ s1 σ1 H1 _ _ Q I1 rr q1
noncomputable def aOs(K:bn)(n:af)(t:TGs):TG:=λv σ H Q=>∃a xs,v=.ref a/\SqT K H a xs/\xs.length=n/\t xs σ H Q
theorem nZ(hc:X.calm=ag)(h:PGs X es t)
 (hn:(gp es X.env).length=n:=by rfl)(hst:(gp es X.env).findIdx? (·.1)=aj:=by rfl):PG X (.Tuple es k pos) (aOs X.K n t):=by
 intro Ψ s σ H v u Q I r hw;obtain⟨a,xs,e1,hq,hl,hw⟩:=hw;subst e1;cases r;obtain⟨its,rv,ht,hz⟩:=I.tuple hq;refine assign_Tuple_tuple (I.ok.hd hc) ht (by simp[hn,<-hl,rv.length]) hst λh' hx=>?_
 have I1:Inv X Ψ σ H {s with heap:=h'}:=I.kept λb o e=>hx b o (c_ (bX e)) e
 exact h Ψ _ σ H xs _ Q I1 (by simpa using rv) hw
noncomputable def aGx(te:TE)(g:TG):TS:=λD σ H=>te σ H λx H1=>g x σ H1 D.nx
theorem Y7(he:PE X e te)(hg:PG X tg g)(hs:nK [tg] e pos.line X.env=pure ah:=by rfl)(hw:nN [tg] e X.env=pure aj:=by rfl)
 (h1:(gp [tg] X.env).map (·.2)=[ip tg X.env]:=by rfl):PS X (.Assign [tg] e pos) (aGx te g):=by
 intro Ψ s σ H D I h;refine wpAny_Assign_stores (thn (he Ψ s σ H _ I h) λv s1 ⟨x,H1,I1,r1,q1⟩=>?_) hs hw;rw[h1];exact thn (hg Ψ s1 σ H1 x v _ I1 r1 q1) λ_ s2 q=>q
theorem yK(hN:X.N.Nodup)(hi:X.N[i]?=ae x)(hx:Loc X.env.scope x)(he:PE X e te)(hs:zSw X e x pos' pos:=by rfl)(hf:zFn X x:=by first|exact .inl rfl|exact .inr rfl|assumption) :
  PS X (.Assign [.Name x pos'] e pos) (aGx te (yJ i)):=by
 intro Ψ s σ H D I h;refine wpAny_Assign_Name (thn (he Ψ s σ H _ I h) λv s1 ⟨y,H1,I1,r1,q1⟩=>?_) hs;exact TV I1 hN hi hx r1 (λs2 I2=>⟨_,H1,I2,q1⟩) hf
def aKg(c:TT)(tb:TS):TS:=λD σ H=>∃W:af->St->Hp->Prop,(∃m,W m σ H)/\∀m σ H,W m σ H->
 c σ H λb H1=>if b=ag then ∃N:St->Hp->Prop,(∀σ' H',N σ' H'->∃m',m'<m/\W m' σ' H')/\tb {D with nx:=N,ct:=N,bk:=D.nx} σ H1 else D.nx σ H1
theorem aD0(hp:jI (ax X.prog X.w) X.A X.env X.xe)(hc:PT X c tc)(hb:PSs X body tb):PS X (.While c body [] pos) (aKg tc tb):=by
 intro Ψ s σ H D I h;obtain⟨W,⟨m0,w0⟩,turn⟩:=h;refine wpAny_While (codeAny_whileLoop (λn s'=>∃σ' H',Inv X Ψ σ' H' s'/\W n σ' H') ?_ m0 ⟨σ,H,I,w0⟩);rintro n s1 ⟨σ1,H1,I1,w1⟩;refine jh hp (thn (hc Ψ s1 σ1 H1 _ I1 (turn n σ1 H1 w1)) λb s2 ⟨H2,I2,q2⟩=>?_);cases b with
 |true=>
  obtain⟨N,hN,q2⟩:=q2;rw[ar rfl];refine jh hp (thn (hb Ψ s2 σ1 H2 _ I2 q2) λf s3 q3=>?_);cases f with
  |next=>
   obtain⟨σ3,H3,I3,n3⟩:=q3;obtain⟨m',hm,w3⟩:=hN σ3 H3 n3;exact⟨m',hm,σ3,H3,I3,w3⟩
  |cont=>
   obtain⟨σ3,H3,I3,n3⟩:=q3;obtain⟨m',hm,w3⟩:=hN σ3 H3 n3;exact⟨m',hm,σ3,H3,I3,w3⟩
  |brk=>exact q3
  |ret v=>exact q3
 |false=>
  rw[aw jS];exact nI ⟨σ1,H2,I2,q2⟩
end
structure It where
 go:af->Hp->Prop
 yld:af->Hp->V->Hp->Prop
 stop:af->Hp->Prop
def Y8(X:Cx)(Ψ:aa (ak×bd))(H:Hp)(b:ak):Prop:=
 H b=aj/\b≠X.env.locals/\b∉X.fs/\(b∈X.ex\/X.s₀.heap.objs.size<=b)/\(∀x c,X.env.cells.lookup x=ae c->c≠b)/\∀p∈X.pn++Ψ,p.1≠b
theorem Inv.aOa(I:Inv X Ψ σ H s)(hb:s.heap.objs.size<=b)(hn:H' b=aj):Y8 X Ψ H' b:=by
 refine⟨hn,iO (dP I.lt hb),I.aQc hb,.inr (dh I.sz hb),λx c e z=>?_,λp hp z=>?_⟩
 .obtain⟨v,q⟩:=I.cell x c e;exact aT (dP q.lt (by rw[z];exact hb)) (gS _)
 .exact aT (dP (bX (I.pin p hp).1) (by rw[z];exact hb)) (gS _)
structure Turn(P:bp)(w:bj)(K:bn)(tg:Expr)(J:It)(fp:aa ak)(it:ak)(tn:af->az->Prop):Prop where
 mem:it∈fp
 obj:∀i h,tn i h->∀b∈fp,∃o,h.get? b=ae o/\∀v,o.data≠.cell v
 keep:∀i h h',tn i h->(∀b∈fp,∀o,h.get? b=ae o->h'.get? b=ae o)->tn i h'
 item:∀(X:Cx),X.prog=P->X.w=w->X.K=K->X.calm=ag->∀(i:af)(Ψ:aa (ak×bd))(s:au)(σ:St)(H:Hp)(E:am->au->Prop),Inv X Ψ σ H s->(∀b∈fp,Y8 X Ψ H b)->tn i s.heap->J.go i H->
  ϑ (ax P w) X.A (gi (.ref it)) (λr s1=>∃u,r=ae u/\
   ϑ (ax P w) X.A (lv tg (.ref it) u) (λ_ s2=>∃x H',Inv X Ψ σ H' s2/\RelV x u/\J.yld i H x H'/\tn (i+1) s2.heap/\∀b∈fp,H' b=aj) E s1) E s
 done:∀(X:Cx),X.prog=P->X.w=w->X.K=K->X.calm=ag->∀(i:af)(Ψ:aa (ak×bd))(s:au)(σ:St)(H:Hp)(E:am->au->Prop),Inv X Ψ σ H s->(∀b∈fp,Y8 X Ψ H b)->tn i s.heap->J.stop i H->
  ϑ (ax P w) X.A (gi (.ref it)) (λr s1=>r=aj/\Inv X Ψ σ H s1) E s
 self:∀(A:cj)(i:af)(s:au)(Q:am->au->Prop)(E:am->au->Prop),tn i s.heap->Q (.ref it) s->ϑ (ax P w) A (ka (.ref it)) Q E s
abbrev TI:=St->Hp->(It->Hp->Prop)->Prop
def PIE(X:Cx)(Ψ:aa (ak×bd))(σ:St)(tg:Expr)(R:It->Hp->Prop)(itv:am)(s2:au):Prop:=
 ∃(it:ak)(fp:aa ak)(tn:af->az->Prop)(J:It)(H':Hp),itv=.ref it/\Inv X Ψ σ H' s2/\Turn X.prog X.w X.K tg J fp it tn/\tn 0 s2.heap/\(∀b∈fp,Y8 X Ψ H' b)/\R J H'
def PI(X:Cx)(tg iter:Expr)(wi:TI):Prop:=
 ∀(Ψ:aa (ak×bd))(s:au)(σ:St)(H:Hp)(R:It->Hp->Prop),Inv X Ψ σ H s->wi σ H R->
  ϑ (ax X.prog X.w) X.A (eval iter X.env) (λv s1=>ϑ (ax X.prog X.w) X.A (ka v) (PIE X Ψ σ tg R) X.xe s1) X.xe s
theorem aD1(ho:s.heap.get? it=ae o)(hc:o.cls=.type n)(hd:o.data=.fields vs)
 (hn:["enumerate","zip","dict_itemiterator","dict_reverseitemiterator","odict_iterator","itertools.zip_longest","itertools.pairwise"].contains n=ah)(hQ:Q () s):ϑ M A (lv tg (.ref it) u) Q E s:= by
  unfold lv;cases tg<;>first
    |exact aS hQ
    | (cases u<;>first
        |exact aS hQ
        | (refine ao (wpAny_load ho ?_)
           rw[hc,hd];show ϑ M A (if (["enumerate","zip","dict_itemiterator","dict_reverseitemiterator","odict_iterator","itertools.zip_longest","itertools.pairwise"].contains n&&vs[0]?==ae (di _))=ag then _ else _) Q E s;rw[aw (by intro h;rw[hn,yh] at h;cases h)];exact aS hQ))
noncomputable def Itl(K:bn)(a:ak):It:=
 ⟨λi H=>∃xs x,SqL K H a xs/\xs[i]?=ae x,λi H x H'=>H'=H/\∀xs,SqL K H a xs->xs[i]?=ae x,λi H=>∃xs,SqL K H a xs/\xs.length<=i⟩
noncomputable def Itt(K:bn)(a:ak):It:=
 ⟨λi H=>∃xs x,SqT K H a xs/\xs[i]?=ae x,λi H x H'=>H'=H/\∀xs,SqT K H a xs->xs[i]?=ae x,λi H=>∃xs,SqT K H a xs/\xs.length<=i⟩
noncomputable def Itr(lo:ai)(n:af):It:=⟨λi _=>i<n,λi H x H'=>H'=H/\x=.int (lo+i),λi _=>n<=i⟩
theorem Y9{K:bn}(a it:ak):Turn P w K tg (Itl K a) [it] it (λi h=>h.IsListIter it a i) where
 mem:=by simp
 obj:=λi h st b hb=>by
  have e:b=it:=by simpa using hb
  subst e;obtain⟨o,e,c,d⟩:=st;exact⟨o,e,λv z=>by rw[d] at z;cases z⟩
 keep:=λi h h' st k=>st.at λo e=>k it 0x2 o e
 item:=by
  intro X hP hw hK hc i Ψ s σ H E I hf st hg;subst hP hw hK;obtain⟨xs,x,hq,hx⟩:=hg;obtain⟨its,rv,p,hz⟩:=I.list hq;obtain⟨u,hu,ru⟩:=rv.get hx;obtain⟨f0,f1,f2,f3,f4,f5⟩:=hf it 0x2;refine yi st p.isList (by simpa using hu) λh' st' sb=>?_
  have I1:Inv X Ψ σ H {s with heap:=h'}:=I.turned (λb o hb e=>(sb.2 b hb).trans e) f0 f1 f3 f4 f5;obtain⟨o,e,c,d⟩:=id st';exact⟨u,rfl,aD1 e c d 0x4 ⟨x,H,I1,ru,⟨rfl,λys hy=>by rw[I.aCz hy hq];exact hx⟩,st',λb hb=>(hf b hb).1⟩⟩
 done:=by
  intro X hP hw hK hc i Ψ s σ H E I hf st hg;subst hP hw hK;obtain⟨xs,hq,hx⟩:=hg;obtain⟨its,rv,p,hz⟩:=I.list hq;obtain⟨f0,f1,f2,f3,f4,f5⟩:=hf it 0x2;have hl:=rv.length;exact yj (I.ok.hd hc) st p.isList (by simp;lia) λh' eb=>⟨rfl,I.turned (λb o hb e=>eb b o hb e) f0 f1 f3 f4 f5⟩
 self:=λ_ _ _ _ _ st h=>wpAny_pyIter_listiter st h
theorem WN{K:bn}(a it:ak):Turn P w K tg (Itt K a) [it] it (λi h=>h.IsTupleIter it a i) where
 mem:=by simp
 obj:=λi h st b hb=>by
  have e:b=it:=by simpa using hb
  subst e;obtain⟨o,e,c,d⟩:=st;exact⟨o,e,λv z=>by rw[d] at z;cases z⟩
 keep:=λi h h' st k=>st.at λo e=>k it 0x2 o e
 item:=by
  intro X hP hw hK hc i Ψ s σ H E I hf st hg;subst hP hw hK;obtain⟨xs,x,hq,hx⟩:=hg;obtain⟨its,rv,p,hz⟩:=I.tuple hq;obtain⟨u,hu,ru⟩:=rv.get hx;obtain⟨f0,f1,f2,f3,f4,f5⟩:=hf it 0x2;refine wpAny_pyNext_tuple_item st (show s.heap.IsTuple a its.toArray from p) (by simpa using hu) λh' st' sb=>?_
  have I1:Inv X Ψ σ H {s with heap:=h'}:=I.turned (λb o hb e=>(sb.2 b hb).trans e) f0 f1 f3 f4 f5;obtain⟨o,e,c,d⟩:=id st';exact⟨u,rfl,aD1 e c d 0x4 ⟨x,H,I1,ru,⟨rfl,λys hy=>by rw[I.Y4 hy hq];exact hx⟩,st',λb hb=>(hf b hb).1⟩⟩
 done:=by
  intro X hP hw hK hc i Ψ s σ H E I hf st hg;subst hP hw hK;obtain⟨xs,hq,hx⟩:=hg;obtain⟨its,rv,p,hz⟩:=I.tuple hq;obtain⟨f0,f1,f2,f3,f4,f5⟩:=hf it 0x2;have hl:=rv.length;exact wpAny_pyNext_tuple_end (I.ok.hd hc) st (show s.heap.IsTuple a its.toArray from p) (by simp;lia) λh' eb=>⟨rfl,I.turned (λb o hb e=>eb b o hb e) f0 f1 f3 f4 f5⟩
 self:=λ_ _ _ _ _ st h=>wpAny_pyIter_tupleiter st h
theorem WP{K:bn}(it:ak)(lo:ai)(n:af):Turn P w K tg (Itr lo n) [it] it (λi h=>yk h it (lo+(i:af)*1) ((n:ai)-(i:af)) 1) where
 mem:=by simp
 obj:=λi h st b hb=>by
  have e:b=it:=by simpa using hb
  subst e;exact⟨_,st,λv z=>by
   have z':Data.fields _=Data.cell v:=z;cases z'⟩
 keep:=λi h h' st k=>k it 0x2 _ st
 item:=by
  intro X hP hw hK hc i Ψ s σ H E I hf st hg;subst hP hw hK;obtain⟨f0,f1,f2,f3,f4,f5⟩:=hf it 0x2;have W:=Walks.range (prog:=X.prog) (w:=X.w) (I.ok.hd hc) it lo 1 n;refine W.item i s _ _ hg st λv h' tk hv st' kk=>?_
  obtain⟨t,rfl⟩:=hv;have I1:Inv X Ψ σ H {s with heap:=h',toks:=tk}:=I.turned (λb o hb e=>kk b o (by simpa using hb) e) f0 f1 f3 f4 f5;refine⟨_,rfl,aD1 st' rfl rfl 0x4 ⟨.int (lo+i),H,I1,⟨t,?_⟩,⟨rfl,rfl⟩,st',λb hb=>(hf b hb).1⟩⟩;rw[Int.mul_one]
 done:=by
  intro X hP hw hK hc i Ψ s σ H E I hf st hg;subst hP hw hK;obtain⟨f0,f1,f2,f3,f4,f5⟩:=hf it 0x2;exact wpAny_pyNext_range_end (I.ok.hd hc) st (by have:n<=i:=hg;lia) λh' eb=>⟨rfl,I.turned (λb o hb e=>eb b o hb e) f0 f1 f3 f4 f5⟩
 self:=λ_ _ _ _ _ st h=>wpAny_pyIter_rangeiter st h
section
variable {X:Cx} {tg:Expr}
theorem aD2{lo hi:ai}{t u v:ff}{tk:af}(I:Inv X Ψ σ H s)(h1:-(2 ^ 62)<=lo)(h2:lo<2 ^ 62)(h3:-(2 ^ 62)<=hi)(h4:hi<2 ^ 62)
 (q:R (Itr lo (hi-lo).toNat) H):ϑ (ax X.prog X.w) X.A (ka (.ref s.heap.objs.size)) (PIE X Ψ σ tg R) E {s with heap:=s.heap.push {cls:=.type "range",data:=.fields #[.int lo t,.int hi u,.int 1 v]},toks:=tk}:=by
 refine wpAny_pyIter_range (IsRange.new ..) (small_one h1 h2 h3 h4) ?_;have I1:Inv X Ψ σ H {s with heap:=s.heap.push {cls:=.type "range",data:=.fields #[.int lo t,.int hi u,.int 1 v]},toks:=tk}:=I.kept λb o e=>cu _ e
 refine⟨(s.heap.push {cls:=.type "range",data:=.fields #[.int lo t,.int hi u,.int 1 v]}).objs.size,[(s.heap.push {cls:=.type "range",data:=.fields #[.int lo t,.int hi u,.int 1 v]}).objs.size],_,_,H,rfl,
  I1.kept λb o e=>cu _ e,WP _ lo (hi-lo).toNat,?_,λb hb=>?_,q⟩
 .have e1:lo+((0:af):ai)*1=lo:=by simp
  have e2:(((hi-lo).toNat:af):ai)-((0:af):ai)=yl lo hi 1:=by rw[ym];split<;>lia
  show yk _ _ (lo+((0:af):ai)*1) ((((hi-lo).toNat:af):ai)-((0:af):ai)) 1;rw[e1,e2];exact dq _ rfl
 .have e:b=(s.heap.push {cls:=.type "range",data:=.fields #[.int lo t,.int hi u,.int 1 v]}).objs.size:=by simpa using hb
  subst e;exact I1.aOa (br _) (I1.hok.fresh (br _))
def aOt(ta:TA):TI:=λσ H R=>ta σ H λvs H1=>∃j:ai,vs=[.int j]/\-(2 ^ 62)<=j/\j<2 ^ 62/\R (Itr 0 j.toNat) H1
theorem K1{p pos:b6}(hg:Gl X "range")(hm:X.mg "range"=aj)(ha:PA X [a] ta)(hs:bP [a] X.env=[(ah,eval a X.env)]:=by rfl):PI X tg (.Call (.Name "range" p) [a] [] pos) (aOt ta):=by
 intro Ψ s σ H R I h;refine Call_ (uM I hg hm boot_range (ji (thn (ha pos Ψ s σ H _ I h) λus s1 ⟨vs,H1,I1,r1,q1⟩=>?_) hs rfl));obtain⟨j,e,q1,q2,q⟩:=q1;subst e;cases r1 with
 |cons r rr=>
  cases rr;obtain⟨t,rfl⟩:=r;exact yn (aD2 I1 0x1 0x1 q1 q2 (by simpa using q))
def aRo(wi:TI)(g:TG)(tb:TS):TS:=λD σ H=>wi σ H λJ H1=>∃W:af->af->St->Hp->Prop,(∃m,W 0 m σ H1)/\∀i m σ H,W i m σ H->
 (J.stop i H/\D.nx σ H)\/(J.go i H/\∃N:St->Hp->Prop,(∀σ' H',N σ' H'->∃m',m'<m/\W (i+1) m' σ' H')/\∀x H',J.yld i H x H'->g x σ H' λσ2 H2=>tb {D with nx:=N,ct:=N,bk:=D.nx} σ2 H2)
noncomputable def yL(fp:aa ak)(h:az):aa (ak×bd):=fp.filterMap λb=>(h.get? b).map λo=>(b,o)
theorem o9(hb:b∈fp)(e:h.get? b=ae o):(b,o)∈yL fp h:=uk.mpr ⟨b,hb,by rw[e];rfl⟩
theorem Y_(hp:p∈yL fp h):p.1∈fp/\h.get? p.1=ae p.2:=by
 obtain⟨b,hb,e⟩:=uk.mp hp;cases q:h.get? b with
 |none=>rw[q] at e;cases e
 |some o=>
  rw[q] at e;have e':(b,o)=p:=fz e;subst e';exact⟨hb,q⟩
theorem Inv.pinned(I:Inv X Ψ σ H s)(hf:∀b∈fp,Y8 X Ψ H b)(ho:∀b∈fp,∃o,s.heap.get? b=ae o/\∀v,o.data≠.cell v):Inv X (Ψ++yL fp s.heap) σ H s:=
 I.Q7 λp hp=>(bo.mp hp).elim (λz=>I.pin p (dS _ z)) λz=>by
  obtain⟨hb,e⟩:=Y_ z;obtain⟨f0,f1,f2,_⟩:=hf p.1 hb;obtain⟨o,e',d⟩:=ho p.1 hb;rw[e] at e';cases e';exact⟨e,f0,f1,f2,d⟩
theorem Inv.uN(I:Inv X (Ψ++pl) σ H s):Inv X Ψ σ H s:=I.Q7 λp hp=>I.pin p (dS _ (fN _ hp))
theorem K3(hp:jI (ax X.prog X.w) X.A X.env X.xe)(hc:X.calm=ag)(hi:PI X tg iter wi)(hg:PG X tg g)(hb:PSs X body tb)
 (hs:∀x,em iter X.env x=pure x:=by intro _;rfl):PS X (.For tg iter body [] pos) (aRo wi g tb):=by
 intro Ψ s σ H D I h;refine wpAny_For (thn (hi Ψ s σ H _ I h) λv s1 h1=>thn h1 λitv s2 h2=>?_) hs;obtain⟨it,fp,tn,J,H2,e,I2,T,st2,f2,W,⟨m0,w0⟩,turn⟩:=h2;subst e
 -- what stays ag of the iterator's objects through the loop
 have stat:∀{H':Hp},(∀b∈fp,H' b=aj)->∀b∈fp,Y8 X Ψ H' b:=λhn b hb=>⟨hn b hb,(f2 b hb).2⟩
 refine codeAny_forLoop_any (λn s'=>∃i σ' H',Inv X Ψ σ' H' s'/\tn i s'.heap/\(∀b∈fp,H' b=aj)/\W i n σ' H') ?_ m0 ⟨0,σ,H2,I2,st2,λb hb=>(f2 b hb).1,w0⟩;rintro n s3 ⟨i,σ3,H3,I3,st3,fr3,w3⟩;rcases turn i n σ3 H3 w3 with ⟨stop,qn⟩|⟨go,N,hN,step⟩
 .refine jh hp (thn (T.done X rfl rfl rfl hc i Ψ s3 σ3 H3 X.xe I3 (stat fr3) st3 stop) λr s4 ⟨hr,I4⟩=>?_);subst hr;exact nI ⟨σ3,H3,I4,qn⟩
 .refine jh hp (thn (T.item X rfl rfl rfl hc i Ψ s3 σ3 H3 X.xe I3 (stat fr3) st3 go) λr s4 ⟨u,hr,h4⟩=>?_);subst hr;refine jh hp (thn h4 λ_ s5 ⟨x,H5,I5,r5,y5,st5,fr5⟩=>?_);have I5':=I5.pinned (stat fr5) (T.obj _ _ st5);refine jh hp (thn (hg _ s5 σ3 H5 x u _ I5' r5 (step x H5 y5)) λ_ s6 ⟨σ6,H6,I6,q6⟩=>?_);refine jh hp (thn (hb _ s6 σ6 H6 _ I6 q6) λf s7 q7=>?_);have again:∀{σ7:St}{H7:Hp},Inv X (Ψ++yL fp s5.heap) σ7 H7 s7->N σ7 H7->∃m,m<n/\∃i σ' H',Inv X Ψ σ' H' s7/\tn i s7.heap/\(∀b∈fp,H' b=aj)/\W i m σ' H':=λ{σ7 H7} I7 n7=>by
   obtain⟨m',hm,w7⟩:=hN σ7 H7 n7;refine⟨m',hm,i+1,σ7,H7,I7.uN,T.keep _ _ _ st5 λb hb o e=>(I7.pin (b,o) (dS _ (dS _ (o9 hb e)))).1,λb hb=>?_,w7⟩;obtain⟨o,e,d⟩:=T.obj _ _ st5 b hb;exact(I7.pin (b,o) (dS _ (dS _ (o9 hb e)))).2.1
  cases f with
  |next=>obtain⟨σ7,H7,I7,n7⟩:=q7;exact again I7 n7
  |cont=>obtain⟨σ7,H7,I7,n7⟩:=q7;exact again I7 n7
  |brk=>obtain⟨σ7,H7,I7,q7⟩:=q7;exact⟨σ7,H7,I7.uN,q7⟩
  |ret v=>obtain⟨x7,σ7,H7,I7,r7,q7⟩:=q7;exact⟨x7,σ7,H7,I7.uN,r7,q7⟩
end
abbrev R2:=V->V->Hp->VK->Prop
def OpR(X:Cx)(f:am->am->Sem am)(r:R2):Prop:=
 ∀(Ψ:aa (ak×bd))(s:au)(σ:St)(H:Hp)(x y:V)(v u:am)(Q:VK),Inv X Ψ σ H s->RelV x v->RelV y u->r x y H Q->
  ϑ (ax X.prog X.w) X.A (f v u) (EP X Ψ σ Q) X.xe s
def UnR(X:Cx)(f:am->Sem am)(r:V->Hp->VK->Prop):Prop:=
 ∀(Ψ:aa (ak×bd))(s:au)(σ:St)(H:Hp)(x:V)(v:am)(Q:VK),Inv X Ψ σ H s->RelV x v->r x H Q->
  ϑ (ax X.prog X.w) X.A (f v) (EP X Ψ σ Q) X.xe s
def sV(X:Cx)(f:am)(r:aa V->Hp->VK->Prop):Prop:=
 ∀(Ψ:aa (ak×bd))(s:au)(σ:St)(H:Hp)(xs:aa V)(us:aa am)(Q:VK),Inv X Ψ σ H s->Vals xs us->r xs H Q->
  ϑ (ax X.prog X.w) X.A (call f us) (EP X Ψ σ Q) X.xe s
def aRp(X:Cx)(r:V->Hp->(aq->Hp->Prop)->Prop):Prop:=
 ∀(Ψ:aa (ak×bd))(s:au)(σ:St)(H:Hp)(x:V)(v:am)(Q:aq->Hp->Prop),Inv X Ψ σ H s->RelV x v->r x H Q->
  ϑ (ax X.prog X.w) X.A (truthy v) (TP X Ψ σ Q) X.xe s
noncomputable def tOp(r:R2)(ta tb:TE):TE:=λσ H Q=>ta σ H λx H1=>tb σ H1 λy H2=>r x y H2 Q
noncomputable def tUn(r:V->Hp->VK->Prop)(ta:TE):TE:=λσ H Q=>ta σ H λx H1=>r x H1 Q
noncomputable def rI(C:ai->ai->Prop)(g:ai->ai->V):R2:=λx y H Q=>∃i j,x=.int i/\y=.int j/\C i j/\Q (g i j) H
noncomputable def rI0(g:ai->ai->V):R2:=λx y H Q=>∃i j,x=.int i/\y=.int j/\Q (g i j) H
def rU(g:ai->V):V->Hp->VK->Prop:=λx H Q=>∃i,x=.int i/\Q (g i) H
section
variable {X:Cx} {a b:Expr} {ta tb:TE} {pos:b6}
theorem aOu(ha:PE X a ta)(hb:PE X b tb){R:V->V->Hp->Prop}(I:Inv X Ψ σ H s)
 (h:ta σ H λx H1=>tb σ H1 λy H2=>R x y H2){Q:am->au->Prop}{f:am->am->Sem am}
 (hf:∀v u s2 x y H2,Inv X Ψ σ H2 s2->RelV x v->RelV y u->R x y H2->ϑ (ax X.prog X.w) X.A (f v u) Q X.xe s2) :
  ϑ (ax X.prog X.w) X.A (eval a X.env) (λv s₁=>ϑ (ax X.prog X.w) X.A (eval b X.env) (λu s₂=>ϑ (ax X.prog X.w) X.A (f v u) Q X.xe s₂) X.xe s₁) X.xe s:=by
 refine thn (ha Ψ s σ H _ I h) λv s1 ⟨x,H1,I1,r1,q1⟩=>?_
 refine thn (hb Ψ s1 σ H1 _ I1 q1) λu s2 ⟨y,H2,I2,r2,q2⟩=>?_
 exact hf v u s2 x y H2 I2 r1 r2 q2
theorem aGy(ho:OpR X (en op) r)(ha:PE X a ta)(hb:PE X b tb):PE X (.BinOp a op b pos) (tOp r ta tb):=by
 intro Ψ s σ H Q I h;exact wpAny_BinOp (aOu ha hb I h λv u s2 x y H2 I2 rx ry q=>ho Ψ s2 σ H2 x y v u Q I2 rx ry q)
theorem aOv(ho:UnR X (nS op) r)(ha:PE X a ta):PE X (.UnaryOp op a pos) (tUn r ta):=by
 intro Ψ s σ H Q I h;exact UnaryOp_ (thn (ha Ψ s σ H _ I h) λv s1 ⟨x,H1,I1,r1,q1⟩=>ho Ψ s1 σ H1 x v Q I1 r1 q1)
theorem opI{g:ai->ai->ai}
 (kb:∀(i j:ai) (t u:ff) (s:au) (Q:am->au->Prop) (E:am->au->Prop),C i j->Q (.int (g i j) s.toks) {s with toks:=s.toks+1}->ϑ (ax X.prog X.w) X.A (f (.int i t) (.int j u)) Q E s) :
  OpR X f (rI C λi j=>.int (g i j)):=by
 intro Ψ s σ H x y v u Q I rx ry h;obtain⟨i,j,rfl,rfl,hc,q⟩:=h;obtain⟨t,rfl⟩:=rx;obtain⟨t',rfl⟩:=ry;exact kb i j t t' s _ _ hc ⟨.int (g i j),H,I.tok _,⟨_,rfl⟩,q⟩
theorem aQf{g:ai->ai->ai}
 (kb:∀(i j:ai) (t u:ff) (s:au) (Q:am->au->Prop) (E:am->au->Prop),Q (.int (g i j) s.toks) {s with toks:=s.toks+1}->ϑ (ax X.prog X.w) X.A (f (.int i t) (.int j u)) Q E s) :
  OpR X f (rI0 λi j=>.int (g i j)):=by
 intro Ψ s σ H x y v u Q I rx ry h;obtain⟨i,j,rfl,rfl,q⟩:=h;obtain⟨t,rfl⟩:=rx;obtain⟨t',rfl⟩:=ry;exact kb i j t t' s _ _ ⟨.int (g i j),H,I.tok _,⟨_,rfl⟩,q⟩
def aRq(i j:ai):Prop:=0<j/\j<1073741824
def aOw(i j:ai):Prop:=(-(2 ^ 64)<i/\i<2 ^ 64)\/(-(2 ^ 64)<j/\j<2 ^ 64)
theorem aOw.ok(h:aOw i j):IntMulOk i j:=by
 rcases h with ⟨h1,h2⟩|⟨h1,h2⟩
 .exact .of_left (yo h1 h2)
 .exact .of_right (yo h1 h2)
theorem aKh:OpR X (en .Add) (rI0 λi j=>.int (i+j)):=aQf λ_ _ _ _ _ _ _ q=>add_int q
theorem aKi:OpR X (en .Sub) (rI0 λi j=>.int (i-j)):=aQf λ_ _ _ _ _ _ _ q=>sub_int q
theorem aKj:OpR X (en .Mult) (rI aOw λi j=>.int (i*j)):=opI λ_ _ _ _ _ _ _ hc q=>mul_int q hc.ok
theorem aGz:OpR X (en .FloorDiv) (rI aRq λi j=>.int (i / j)):=opI λi j _ _ _ _ _ hc q=>by
 have h1:(0:ai)<j:=hc.1;have h2:j<1073741824:=hc.2;exact floordiv_int 0x1 (by rw[Int.fdiv_eq_ediv_of_nonneg i 0x1];exact q) (.inl (PyProof.noPylong_small 0x1))
theorem aKk:OpR X (en .Mod) (rI (λ_ j=>0<j) λi j=>.int (i % j)):=opI λi j _ _ _ _ _ hc q=>by
 have h1:(0:ai)<j:=hc;exact mod_int' 0x1 (by rw[Int.fmod_eq_emod_of_nonneg i 0x1];exact q)
theorem unI{g:ai->ai}
 (kb:∀(i:ai) (t:ff) (s:au) (Q:am->au->Prop) (E:am->au->Prop),Q (.int (g i) s.toks) {s with toks:=s.toks+1}->ϑ (ax X.prog X.w) X.A (f (.int i t)) Q E s) :
  UnR X f (rU λi=>.int (g i)):=by
 intro Ψ s σ H x v Q I rx h;obtain⟨i,rfl,q⟩:=h;obtain⟨t,rfl⟩:=rx;exact kb i t s _ _ ⟨.int (g i),H,I.tok _,⟨_,rfl⟩,q⟩
theorem aKl:UnR X (nS .USub) (rU λi=>.int (-i)):=unI λ_ _ _ _ _ q=>neg_int q
end
section
variable {X:Cx} {a b c:Expr} {ta tb:TE} {pos:b6}
theorem aKm(I:Inv X Ψ σ H s)(q:Q (.bl k) H)(e:k=k'):EP X Ψ σ Q (.bool k') s:=by
 subst e;exact⟨.bl k,H,I,rfl,q⟩
theorem ZC:OpR X (eu .In) (λx y H Q=>∃i j,x=.str i/\y=.str j/\Q (.bl (!(yp j i 0 j.length 1).isEmpty)) H):=by
 intro Ψ s σ H x y v u Q I rx ry h;obtain⟨i,j,rfl,rfl,q⟩:=h;obtain⟨t,rfl⟩:=rx;obtain⟨t',rfl⟩:=ry;exact in_str (aKm I q rfl)
theorem bL(b:Expr)(h:op≠.In:=by decide)(h2:op≠.NotIn:=by decide):jj op b=ah:=by
 have e1:(op==CmpOp.In)=ah:=by cases op<;>first|rfl|exact aT rfl h
 have e2:(op==CmpOp.NotIn)=ah:=by cases op<;>first|rfl|exact aT rfl h2
 cases b<;>simp[jj,e1,e2]
theorem aH0(ho:OpR X (eu op) r)(ha:PE X a ta)(hb:PE X b tb)(hm:jj op b=ah):PE X (.Compare a [op] [b] pos) (tOp r ta tb):=by
 intro Ψ s σ H Q I h;exact wpAny_Compare1 (aOu ha hb I h λv u s2 x y H2 I2 rx ry q=>ho Ψ s2 σ H2 x y v u Q I2 rx ry q) hm
noncomputable def aOx(t:TE):TT:=λσ H Q=>t σ H λx H'=>∃k,x=.bl k/\Q k H'
theorem ZD(ho:OpR X (eu op) r)(ha:PE X a ta)(hb:PE X b tb)(hm:jj op b=ah):PT X (.Compare a [op] [b] pos) (aOx (tOp r ta tb)):=by
 intro Ψ s σ H Q I h;refine wpAny_isTrue_Compare1 (thn (ha Ψ s σ H _ I h) λv s1 ⟨x,H1,I1,r1,q1⟩=>thn (hb Ψ s1 σ H1 _ I1 q1) λu s2 ⟨y,H2,I2,r2,q2⟩=>
  thn (ho Ψ s2 σ H2 x y v u _ I2 r1 r2 q2) λc s3 ⟨z,H3,I3,r3,k,e,q3⟩=>?_) hm
 subst e;cases r3;exact uh ⟨H3,I3,q3⟩
def aOy(K:bn)(x:V)(H:Hp)(k:aq):Prop:=
 match x with
 |.non=>k=ah
 |.bl b=>k=b
 |.int i=>k=(i !=0)
 |.str y=>y.length<=aI/\k=((y.length:ai)!=0)
 |.byt y=>y.size<=aI/\k=((y.size:ai)!=0)
 |.ref p=>(∃xs,SqL K H p xs/\k=!xs.isEmpty)\/(∃xs,SqT K H p xs/\k=!xs.isEmpty)\/∃kvs,H p=ae (.dK kvs)/\k=!kvs.isEmpty
 |_=>cK
theorem WQ(r:KV kvs vs):(!vs.isEmpty)=!kvs.isEmpty:=by
 cases r<;>rfl
theorem D_(r:Vals xs its):(!its.toArray.isEmpty)=!xs.isEmpty:=by
 cases r<;>simp
theorem yM:(aI:af)<2 ^ 63:=by rw[d4];decide
theorem aKn:aRp X (λx H Q=>∃k,aOy X.K x H k/\Q k H):=by
 intro Ψ s σ H x v Q I rx h;obtain⟨k,e,q⟩:=h;have hl:=yM;have hs:aI=16777216:=d4;cases x with
 |non=>
  cases rx;have e':k=ah:=e;subst e';exact truthy_none ⟨H,I,q⟩
 |bl b=>
  cases rx;have e':k=b:=e;subst e';exact uh ⟨H,I,q⟩
 |int i=>
  obtain⟨t,rfl⟩:=rx;have e':k=(i !=0):=e;subst e';exact PySem.P.truthy_int ⟨H,I,q⟩
 |str y=>
  obtain⟨t,rfl⟩:=rx;obtain⟨hy,e'⟩:y.length<=aI/\k=((y.length:ai)!=0):=e;subst e';exact PySem.P.truthy_str 0x1 ⟨H,I.tok _,q⟩
 |byt y=>
  obtain⟨t,rfl⟩:=rx;obtain⟨hy,e'⟩:y.size<=aI/\k=((y.size:ai)!=0):=e;subst e';exact PySem.W.truthy_bytes 0x1 ⟨H,I.tok _,q⟩
 |ref p=>
  cases rx;have e':(∃xs,SqL X.K H p xs/\k=!xs.isEmpty)\/(∃xs,SqT X.K H p xs/\k=!xs.isEmpty)\/∃kvs,H p=ae (.dK kvs)/\k=!kvs.isEmpty:=e;rcases e' with ⟨xs,hx,e'⟩|⟨xs,hx,e'⟩|⟨kvs,hx,e'⟩
  .subst e';obtain⟨its,r,pl,hz⟩:=I.list hx;have hlen:=r.length;exact wpAny_truthy_list pl.isList (by simp only[cy];lia) ⟨H,I.tok _,by rw[D_ r];exact q⟩
  .subst e';obtain⟨its,r,pl,hz⟩:=I.tuple hx;have hlen:=r.length;exact truthy_tuple pl (by simp only[cy];lia) ⟨H,I.tok _,by rw[D_ r];exact q⟩
  .subst e';obtain⟨hz,hS,vs,r,m⟩:kvs.length<=aI/\(p==gf)=ah/\∃vs,KV kvs vs/\s.heap.DictOf (fK X.prog X.w) p vs:=I.hok p _ hx;have hlen:kvs.length=vs.length:=ll r;exact wpAny_truthy_dict hS m 0x1 ⟨H,I.tok _,by rw[WQ r];exact q⟩
 |_=>exact(show cK from e).elim
theorem aD3(ha:PE X a ta)(he:∀whole,nB a X.env whole=(do let v <- whole;um a.pos;lw [v] (truthy v))) :
  PT X a (λσ H Q=>ta σ H λx H'=>∃k,aOy X.K x H' k/\Q k H'):=by
 intro Ψ s σ H Q I h;exact isTrue_plain (thn (ha Ψ s σ H _ I h) λv s1 ⟨x,H1,I1,r1,q1⟩=>aKn Ψ s1 σ H1 x v Q I1 r1 q1) (he _)
theorem WR:OpR X (en .Add) (λx y H Q=>∃i j,x=.str i/\y=.str j/\i.length+j.length<=aI/\Q (.str (i++j)) H):=by
 intro Ψ s σ H x y v u Q I rx ry h;obtain⟨i,j,rfl,rfl,hz,q⟩:=h;obtain⟨t,rfl⟩:=rx;obtain⟨t',rfl⟩:=ry;exact add_str (λt' tk=>⟨.str (i++j),H,I.tok _,⟨_,rfl⟩,q⟩) hz
theorem vals1(r:Vals [x] us):∃u,us=[u]/\RelV x u:=by
 cases r with
 |cons r1 r2=>cases r2;exact⟨_,rfl,r1⟩
end
theorem K4{h:az}(n:h.Ns1 dx mA):∃od,h.get? dx=ae od/\∀name,yq name od=ae (mA name):=by
 obtain⟨o,es,ep,ho,hd,hk,_,hm⟩:=n;refine⟨o,ho,λname=>?_⟩;have e:=hm name;unfold nsFind findBy at e;rw[<-Array.find?_toList] at e;unfold yq;rw[hd];dsimp only;split
 .rename_i y q;rw[q] at e;exact dw ae e
 .rename_i q;rw[q] at e;have a:es.toList.any (·.refKey)=ah:=by
   rw[List.any_eq_false];intro y hy;obtain⟨z,t,hkey⟩:=hk y (Array.mem_toList_iff.mp hy);simp[By,hkey]
  have a':¬es.toList.any (·.refKey)=ag:=by rw[a];exact jS
  rw[aw a'];exact dw ae e
theorem aCq.some_of(r:aCq (ae v) o):∃u,o=ae u/\RelV v u:=by
 cases o with
 |none=>exact(show cK from r).elim
 |some u=>exact⟨u,rfl,r⟩
section
variable {s:au} {f:Str} {A:cj} {E:am->au->Prop}
theorem aH1(hb:hG e f env (eval e env)=eval e env)
 (h:ϑ (ax prog w) A (eval e env) (λo s₁=>ϑ (ax prog w) A (uo o f ag) Q E s₁) E s):ϑ (ax prog w) A (eval (.Attribute e f pos) env) Q E s:=
 Attribute_any_ h (by rw[arm_eval_Attribute,hb])
end
structure lR(k:af)(A:cj):Prop where
 hd:A.handled=aj
 dp:A.depth+3*k+5<yr
 un:A.units+16*k+200<dL
theorem lR.mono(r:lR k A)(h:j<=k):lR j A:=⟨r.hd,by have:=r.dp;lia,by have:=r.un;lia⟩
theorem lR.deeper(r:lR (k+1) A)(env:cx):lR k (A.deeper env):=
 ⟨r.hd,by have:=r.dp;show A.depth+1+3*k+5<_;lia,by have:=r.un;show A.units+3+16*k+200<_;lia⟩
theorem WT{A:cj}:(A.under (.builtin "type.__call__" ⟨.ref C::us,kw⟩)).depth=A.depth+1:=by
 first|rfl|simp[uq,Code.weight,Code.isCreation,Code.isGuard,Code.isCaller,yt,ur,guardIds]
theorem WW{A:cj}:(A.under (.builtin "type.__call__" ⟨.ref C::us,kw⟩)).units=A.units+1:=by
 first|rfl|simp[uq,Code.cUnits,yt,ur]
theorem lR.make(r:lR (k+1) A)(C:ak)(us:aa am)(kw:aa (Str×am)):lR k (A.under (.builtin "type.__call__" ⟨.ref C::us,kw⟩)):=
 ⟨r.hd,by have:=r.dp;rw[WT];lia,by have:=r.un;rw[WW];lia⟩
theorem lR.depth(r:lR k A):A.depth<yr:=by have:=r.dp;lia
theorem lR.units(r:lR k A):A.units+64<dL:=by have:=r.un;lia
noncomputable def aOz:TA:=λ_ H Q=>Q [] H
noncomputable def WX(ta:TE)(tr:TA):TA:=λσ H Q=>ta σ H λx H1=>tr σ H1 λxs H2=>Q (x::xs) H2
section
variable {X:Cx} {e:Expr} {es:aa Expr} {te:TE} {t:TA} {pos:b6}
theorem jH:PA X [] aOz:=λ_ _ _ _ H Q I h=>nV ⟨[],H,I,.nil,h⟩
theorem bV(ha:PE X e te)(hr:PA X es t)(hs:zSE X e es:=by rfl):PA X (e::es) (WX te t):=by
 intro pos Ψ s σ H Q I h;rw[hs];show ϑ _ _ (lu ((ah,eval e X.env)::fg pos (bP es X.env))) _ _ s;refine nX (thn (ha Ψ s σ H _ I h) λu s1 ⟨x,H1,I1,r1,q1⟩=>?_);exact thn (hr pos Ψ s1 σ H1 _ I1 q1) λus s2 ⟨xs,H2,I2,r2,q2⟩=>⟨x::xs,H2,I2,.cons r1 r2,q2⟩
def aRr(t:TA):TE:=λσ H Q=>t σ H λxs H1=>xs.length<=aI/\∀p,H1 p=aj->Q (.ref p) (upd H1 p (.tup xs))
def aRs(t:TA):TE:=λσ H Q=>t σ H λxs H1=>xs.length<=aI/\∀p,H1 p=aj->Q (.ref p) (upd H1 p (.lst xs))
theorem aFk{x1}(h:PA X es t):PE X (.Tuple es x1 pos) (aRr t):=by
 intro Ψ s σ H Q I hq;refine wpAny_Tuple_spliced (thn (h pos Ψ s σ H _ I hq) λus s1 ⟨xs,H1,I1,r,z,q⟩=>⟨by rw[<-r.length];exact z,?_⟩);have hf:H1 s1.heap.objs.size=aj:=I1.hok.fresh (br _);refine⟨.ref s1.heap.objs.size,upd H1 s1.heap.objs.size (.tup xs),I1.laid (λb u e=>cu _ e) (br _) ?_,rfl,q _ hf⟩;exact⟨z,us,r,⟨_,dq _ rfl,rfl,_,rfl⟩⟩
theorem TX(h:PA X es t):PE X (.List es pos) (aRs t):=by
 intro Ψ s σ H Q I hq;refine wpAny_List_spliced (thn (h pos Ψ s σ H _ I hq) λus s1 ⟨xs,H1,I1,r,z,q⟩=>⟨by rw[<-r.length];exact z,?_⟩);have hf:H1 s1.heap.objs.size=aj:=I1.hok.fresh (br _);refine⟨.ref s1.heap.objs.size,upd H1 s1.heap.objs.size (.lst xs),I1.laid (λb u e=>cu _ e) (br _) ?_,rfl,q _ hf⟩;exact⟨z,us,0,r,dq _ rfl⟩
end
abbrev Sp:=aa V->Hp->VK->XK->Prop
abbrev CXT:=aa cx->Hp->au->XK->am->au->Prop
structure aH2(P:bp)(w:bj)(K:bn)(mg:Str->av am)(base:az)(A:cj)(outer:aa cx)(s:au)(H:Hp):Prop where
 frames:A.frames=ae outer
 mod:Mod K mg base
 bs:∀b o,base.get? b=ae o->s.heap.get? b=ae o/\H b=aj
 bsz:base.objs.size<=s.heap.objs.size
 WL:s.heap.FunFrames base outer
 frf:∀b∈frs outer,H b=aj
 hok:HOk P w H s.heap
 bare:gV s.gens
def CE(outer:aa cx)(P:bp)(w:bj)(H:Hp)(s:au)(Q:VK)(u:am)(s':au):Prop:=
 ∃v H',s'.os=s.os/\gV s'.gens/\Un (frs outer) [] H H' s.heap s'.heap/\HOk P w H' s'.heap/\RelV v u/\Q v H'
def CR(CX:CXT)(outer:aa cx)(P:bp)(w:bj)(H:Hp)(s:au)(Q:VK)(E:XK)(r:Result)(s':au):Prop:=
 match r with
 |.ok (.ret u)=>CE outer P w H s Q u s'
 |.ok _=>cK
 |.error e=>CX outer H s E e s'
structure uO(P:bp)(w:bj)(K:bn)(mg:Str->av am)(base:az)(CX:CXT)(k:af)(f:ak)(fd:c6)(ps:aa Str)(sp:Sp):Prop where
 len:∀vs H Q E,sp vs H Q E->vs.length=ps.length
 run:∀(A:cj)(outer:aa cx)(s:au)(H:Hp)(args:Args)(us:aa am)(vs:aa V)(Q:VK)(E:XK),lR k A->aH2 P w K mg base A outer s H->ke s fd args (ps.zip us)->Vals vs us->sp vs H Q E->
  codeAny (ax P w) A (.call (.ref f) args) (CR CX outer P w H s Q E) s
theorem aH2.make{K:bn}{base:az}{A:cj}{outer:aa cx}{s:au}{H:Hp}(e:aH2 P w K mg base A outer s H)(C:ak)(us:aa am)(kw:aa (Str×am)) :
  aH2 P w K mg base (A.under (.builtin "type.__call__" ⟨.ref C::us,kw⟩)) outer s H:=⟨by first|exact e.frames|(simpa[uq,Code.envs,ur,pushEnvs] using e.frames),e.mod,e.bs,e.bsz,e.WL,e.frf,e.hok,e.bare⟩
section
variable {X:Cx} {Ψ:aa (ak×bd)} {σ:St} {H:Hp} {s s':au}
theorem Inv.env0(I:Inv X Ψ σ H s):aH2 X.prog X.w X.K X.mg X.base X.A X.stack s H:=
 ⟨I.ok.frames,I.ok.mod,I.bs,dh I.ok.bsz I.sz,I.stack,I.Q6,I.hok,I.bare⟩
theorem Inv.after(I:Inv X Ψ σ H s)(h:CE X.stack X.prog X.w H s Q u s'):EP X Ψ σ Q u s':=by
 obtain⟨v,H',os,bare,un,hok,r,q⟩:=h;obtain⟨hh,g,d,t,os'⟩:=s';obtain rfl:os'=s.os:=os;exact⟨v,H',I.call un hok bare (λb z=>aT z 0x2),r,q⟩
end
noncomputable def aP0(sp:Sp)(dvs:aa V)(E:XK)(t:TA):TE:=λσ H Q=>t σ H λvs H1=>sp (vs++dvs) H1 Q E
def Binds(K:bn)(fd:c6)(ps:aa Str)(ds:aa am):Prop:=
 ∀(s:au)(us:aa am),K.In s.heap->(us++ds).length=ps.length->ke s fd ⟨us,[]⟩ (ps.zip (us++ds))
theorem Binds.all{K:bn}(h:∀us:aa am,us.length=ps.length->bindArgs fd ⟨us,[]⟩=pure (ps.zip us)):Binds K fd ps []:=λs us _ hl=>by
 rw[dg] at hl ⊢;exact .of_eq (h us hl)
def TY(CX:CXT)(X:Cx)(E:XK):Prop:=∀(Ψ:aa (ak×bd))(σ:St)(H:Hp)(s:au)(e:am)(s':au),Inv X Ψ σ H s->CX X.stack H s E e s'->X.xe e s'
section
variable {X:Cx} {CX:CXT} {k:af} {f:ak} {fd:c6} {ps:aa Str} {sp:Sp} {dvs:aa V} {ds:aa am} {E:XK} {x:Str} {p pos:b6} {e:Expr} {es:aa Expr} {t:TA}
theorem aKo(F:uO X.prog X.w X.K X.mg X.base CX k f fd ps sp)(hr:lR k X.A)(hb:Binds X.K fd ps ds)(hd:Vals dvs ds)(hx:TY CX X E)
 (I:Inv X Ψ σ H s)(r:Vals vs us)(h:sp (vs++dvs) H Q E):ϑ (ax X.prog X.w) X.A (call (.ref f) us) (EP X Ψ σ Q) X.xe s:=by
 have r2:Vals (vs++dvs) (us++ds):=r.append hd;have hl:(us++ds).length=ps.length:=by rw[<-r2.length];exact F.len _ _ _ _ h
 refine iP (kf (F.run X.A X.stack s H ⟨us,[]⟩ (us++ds) (vs++dvs) Q E hr I.env0 (hb s us I.kIn hl) r2 h) λr s' hq=>?_);cases r with
 |error e=>exact hx Ψ σ H s e s' I hq
 |ok fl=>
  cases fl with
  |ret u=>exact I.after hq
  |next=>exact dE hq
  |brk=>exact dE hq
  |cont=>exact dE hq
theorem vR(F:uO X.prog X.w X.K X.mg X.base CX k f fd ps sp)(hr:lR k X.A)(hg:Gl X x)(hm:X.mg x=ae (.ref f))(hk:iq X.K (.ref f)=ag)(hb:Binds X.K fd ps ds)(hd:Vals dvs ds)(hx:TY CX X E)
 (ha:PA X (e::es) t)(hdb:nDb x:=by decide)(he:zSE X e es:=by rfl)(hpl:zSP X pos es:=by rfl) :
  PE X (.Call (.Name x p) (e::es) [] pos) (aP0 sp dvs E t):=by
 intro Ψ s σ H Q I h;refine hI (vQ I hg hm ?_ hdb);refine yu I.ok.mod.kin hk (thn (ha pos Ψ s σ H _ I h) λus s1 ⟨vs,H1,I1,r,q⟩=>⟨I1.kIn,?_⟩) he hpl;exact aKo F hr hb hd hx I1 r q
end
structure cA(N P:aa Str)(sc:el):Prop where
 kind:sc.kind=.function
 co:sc.isCoroutine=ah
 gen:sc.isGenerator=ah
 nd:N.Nodup
 pre:N.take P.length=P
 par:∀x∈P,sc.names.lookup x=ae .local\/sc.names.lookup x=ae .cell
 nofree:∀y∈sc.names,y.2≠.free
theorem K5{kindOf:Str->av hV}:∀{binds:aa (Str×am)}{m:Str->av am},(∀v,(x,v)∉binds)->iS kindOf binds m x=m x
 |[],_,_=>rfl
 | (n,v)::r,m,h=>by
  unfold iS;rw[K5 λw hw=>h w (cr _ hw)];split
  .have:x≠n:=by rintro rfl;exact h v bq
   simp[this]
  .rfl
theorem K6{kindOf:Str->av hV}:∀{binds:aa (Str×am)}{m:Str->av am},(∀v,(x,v)∉binds)->iX kindOf binds m x=m x
 |[],_,_=>rfl
 | (n,v)::r,m,h=>by
  unfold iX;rw[K6 λw hw=>h w (cr _ hw)];split
  .rfl
  .have:x≠n:=by rintro rfl;exact h v bq
   simp[this]
theorem K7{kindOf:Str->av hV}:∀{P:aa Str}{vs:aa am}{i:af}{m:Str->av am},P.Nodup->P[i]?=ae x->vs[i]?=ae v->kindOf x=ae .local->
  iS kindOf (P.zip vs) m x=ae v
 |[],_,_,_,_,h,_,_=>by simp at h
 |_::_,[],_,_,_,_,h,_=>by simp at h
 |p::P,w::vs,0,m,nd,h1,h2,hk=>by
  simp at h1 h2;subst h1;subst h2;show iS kindOf ((p,w)::P.zip vs) m p=_;unfold iS;rw[K5 λv hv=>(eT.mp nd).1 (ut hv).1,ar hk];simp
 |p::P,w::vs,i+1,m,nd,h1,h2,hk=>by
  show iS kindOf ((p,w)::P.zip vs) m x=_;unfold iS;exact K7 (eT.mp nd).2 (by simpa using h1) (by simpa using h2) hk
theorem K8{kindOf:Str->av hV}:∀{P:aa Str}{vs:aa am}{i:af}{m:Str->av am},P.Nodup->P[i]?=ae x->vs[i]?=ae v->kindOf x≠ae .local->
  iX kindOf (P.zip vs) m x=ae v
 |[],_,_,_,_,h,_,_=>by simp at h
 |_::_,[],_,_,_,_,h,_=>by simp at h
 |p::P,w::vs,0,m,nd,h1,h2,hk=>by
  simp at h1 h2;subst h1;subst h2;show iX kindOf ((p,w)::P.zip vs) m p=_;unfold iX;rw[K6 λv hv=>(eT.mp nd).1 (ut hv).1,aw hk];simp
 |p::P,w::vs,i+1,m,nd,h1,h2,hk=>by
  show iX kindOf ((p,w)::P.zip vs) m x=_;unfold iX;exact K8 (eT.mp nd).2 (by simpa using h1) (by simpa using h2) hk
noncomputable def start(N:aa Str)(vs:aa V):St:=vs.map ae++ck (N.length-vs.length) aj
noncomputable def nA(CX:CXT)(P:bp)(w:bj)(K:bn)(mg:Str->av am)(base:az)(N:aa Str)(qual:Str)(scope:el)(f:ak)(cd:am)(A:cj)(outer:aa cx)(s:au)(H:Hp)(E:XK):Cx where
 prog:=P
 w:=w
 K:=K
 mg:=mg
 base:=base
 A:=A.deeper (bS qual scope s.heap.objs.size f cd)
 N:=N
 s₀:=s
 H₀:=H
 env:=bS qual scope s.heap.objs.size f cd
 outer:=outer
 stack:=bS qual scope s.heap.objs.size f cd::outer
 ex:=[]
 calm:=ag
 fn:=λ_=>ag
 pn:=[]
 xe:=λe s'=>ϑ (ax P w) (A.deeper (bS qual scope s.heap.objs.size f cd)) (leaving (bS qual scope s.heap.objs.size f cd) e) (λ_ s''=>CX outer H s E e s'') (λe' s''=>CX outer H s E e' s'') s'
theorem T3{sc:el}(h:sc.names.lookup x=ae .cell):∃c,(uv n sc.names []).lookup x=ae c:=by
 have q:=yw sc.names n [] (.inl h);exact n4.mp q
theorem ZF{CX:CXT}{P:bp}{w:bj}{K:bn}{mg:Str->av am}{base:az}{N ps:aa Str}{qual:Str}{scope:el}{f:ak}{cd:am}{A:cj}{outer:aa cx}{s s1:au}{H:Hp}{E:XK}{us:aa am}{vs:aa V}
 (S:cA N ps scope)(hd:A.handled=aj)(e0:aH2 P w K mg base A outer s H)(hl:vs.length=ps.length)(r:Vals vs us)
 (x:InCallC s s.heap.objs.size (iS (bS qual scope s.heap.objs.size f cd).kindOf (ps.zip us) λ_=>aj) (uv (s.heap.objs.size+1) scope.names []) (iX (bS qual scope s.heap.objs.size f cd).kindOf (ps.zip us) λ_=>aj) s1) :
  Inv (nA CX P w K mg base N qual scope f cd A outer s H E) [] (start N vs) H s1:=by
 have hpl:ps.length<=N.length:=by have:=dw lx S.pre;rw[eW] at this;lia
 obtain⟨h1,tk,rfl,hk⟩:=x.done;have noA:∀b:ak,b∉(nA CX P w K mg base N qual scope f cd A outer s H E).ex:=λb z=>aT (show b∈([]:aa ak) from z) 0x2
 refine⟨⟨e0.mod,S.kind,rfl,rfl,br _,λy z c h1 h2=>?_,λy hy=>?_,λy c _ h=>?_,λ_=>hd,Around.frames_deeper e0.frames,.inr ⟨rfl,rfl⟩,λb z=>aT z (noA b),e0.bs,e0.bsz,λb _ _=>noA b,λb z=>aT z (noA b),e0.WL,e0.frf⟩,
  rfl,e0.bare,Un.kept hk,⟨_,x.toInCall.ns,λi y v h1 h2 h3=>?_⟩,λy c h=>⟨_,x.cell y c h⟩,e0.hok.fresh (br _),λy c h=>?_,λp hp=>aT (show p∈([]:aa (ak×bd)) from hp) 0x2,e0.hok.kept hk,?_⟩
 .exact name_of_addr x.apart (kh h1) (kh h2)
 .have hy:scope.names.lookup y=ae .cell\/scope.names.lookup y=ae .free:=hy;rcases hy with hy|hy
  .exact T3 hy
  .exact aT rfl (S.nofree _ (kh hy))
 .exact uf (x.above y c (kh h))
 .have hi:i<vs.length:=by
   unfold start at h2;by_cases hi:i<vs.length
   .exact hi
   .rw[eJ (by simpa using hi)] at h2;rw[hZ] at h2;split at h2<;>cases h2
  have ha:vs[i]?=ae v:=by
   unfold start at h2;rw[gq (by simpa using hi),ly] at h2;cases e:vs[i]? with
   |none=>rw[e] at h2;cases h2
   |some a=>rw[e] at h2;cases h2;rfl
  obtain⟨u,hu,rv⟩:=r.get ha;have hp:ps[i]?=ae y:=by
   rw[<-S.pre,yx 0x1];exact h1
  have ndP:ps.Nodup:=by rw[<-S.pre];exact S.nd.sublist (lz _ _)
  refine⟨u,rv,?_⟩;rcases S.par y (ef hp) with k|k
  .exact .inl ⟨k,K7 ndP hp hu k⟩
  .obtain⟨c,e⟩:=T3 k;refine .inr ⟨.inl k,c,e,?_⟩;have q:=x.cell y c e;rw[K8 ndP hp hu (by show scope.names.lookup y≠_;rw[k];decide)] at q;exact q
 .exact e0.hok.fresh (uf (x.above y c (kh h)))
 .unfold start;show _=N.length;rw[bz,aE,lI];lia
theorem aH3{w:bj}{K:bn}{mg:Str->av am}{base:az}{k:af}{f:ak}{name qual:Str}{params:Arguments}{body:aa bi}{scope:el}{dV kV doc pm cdv ct oc:am}{an od:av ak}
 {osl:bw (av am)}{N ps:aa Str}{sp:Sp}(lk:K.lookup f=ae ⟨oc,od,.func (kj name qual params body scope dV kV doc pm an cdv ct),osl⟩)(hcd:uw K cdv qual=ag)(S:cA N ps scope)
 (len:∀vs H Q E,sp vs H Q E->vs.length=ps.length)
 (hbody:∀(A:cj) (outer:aa cx) (s:au) (H:Hp) (vs:aa V) (Q:VK) (E:XK),lR k (A.deeper (bS qual scope s.heap.objs.size f cdv))->sp vs H Q E->
   ∃t,PSs (nA CX P w K mg base N qual scope f cdv A outer s H E) body t/\t {nx:=λ_ H'=>Q .non H',rt:=Q} (start N vs) H) :
  uO P w K mg base CX (k+1) f (kj name qual params body scope dV kV doc pm an cdv ct) ps sp:=by
 refine⟨len,λA outer s H args us vs Q E hr e0 hb r hsp=>?_⟩;have hl:=len _ _ _ _ hsp;have KX:K.In s.heap:=e0.mod.kin.keeps λb o e=>(e0.bs b o e).1
 have lim:s.heap.NoLimit:=e0.mod.nolimit.keeps λb o e=>(e0.bs b o e).1
 have hkind:∀y∈ps.zip us,scope.names.lookup y.1=ae .local\/(scope.names.lookup y.1=ae .cell/\((uv (s.heap.objs.size+1) scope.names []).lookup y.1).isSome=ag):=λ⟨n,v⟩ hy=>by
  rcases S.par n (ut hy).1 with q|q
  .exact .inl q
  .exact .inr ⟨q,yw _ _ _ (.inl q)⟩
 refine codeAny_call_function hr.depth (KX _ _ lk) rfl S.co S.gen rfl (PySem.W.codeRec_of KX hcd) (hb _ _ _ _ ?_);refine wpAny_newFunctionEnv_cells S.kind hkind λenv he s1 x=>?_
 subst he;refine⟨lim.keeps x.toInCall.keep,codeAny_func ?_⟩;obtain⟨t,ht,hq⟩:=hbody A outer s H vs Q E (hr.deeper _) hsp;have I:Inv (nA CX P w K mg base N qual scope f cdv A outer s H E) [] (start N vs) H s1:=ZF S hr.hd e0 hl r x;refine fR (ht [] s1 (start N vs) H _ I hq) (λfl s' hs=>?_) λe s' hs=>hs
 have fin:∀{σ':St}{H':Hp}{v:V}{u:am},Inv (nA CX P w K mg base N qual scope f cdv A outer s H E) [] σ' H' s'->RelV v u->Q v H'->CE outer P w H s Q u s':=
  λ{σ' H' v u} J rv q=>⟨v,H',J.os,J.bare,J.base,J.hok,rv,q⟩
 cases fl with
 |ret u=>
  obtain⟨v,σ',H',J,rv,q⟩:=hs;exact fin J rv q
 |next=>
  obtain⟨σ',H',J,q⟩:=hs;exact fin (v:=V.non) J rfl q
 |brk=>
  obtain⟨_,_,_,q⟩:=hs;exact dE q
 |cont=>
  obtain⟨_,_,_,q⟩:=hs;exact dE q
section
variable {X:Cx} {x:Str} {p pos:b6} {e:Expr} {es:aa Expr} {t:TA} {id T:fF} {r:aa V->Hp->VK->Prop}
noncomputable def tCB(r:aa V->Hp->VK->Prop)(t:TA):TE:=λσ H Q=>t σ H λvs H1=>r vs H1 Q
theorem yC(hc:sV X (.builtin id) r)(hg:Gl X x)(hm:X.mg x=aj)(hv:ei x=ae (.builtin id))(ha:PA X (e::es) t)(hn:x ≠ "__name__":=by decide)(hdb:nDb x:=by decide)
 (he:zSE X e es:=by rfl)(hpl:zSP X pos es:=by rfl):PE X (.Call (.Name x p) (e::es) [] pos) (tCB r t):=by
 intro Ψ s σ H Q I h;refine hI (uM I hg hm hv ?_ hn hdb);exact yy (thn (ha pos Ψ s σ H _ I h) λus s1 ⟨vs,H1,I1,r1,q1⟩=>hc Ψ s1 σ H1 vs us Q I1 r1 q1) he hpl
theorem K9(hc:sV X (.type T) r)(hg:Gl X x)(hm:X.mg x=aj)(hv:ei x=ae (.type T))(ha:PA X (e::es) t)(hn:x ≠ "__name__":=by decide)(hdb:nDb x:=by decide)
 (he:zSE X e es:=by rfl)(hpl:zSP X pos es:=by rfl):PE X (.Call (.Name x p) (e::es) [] pos) (tCB r t):=by
 intro Ψ s σ H Q I h;refine hI (uM I hg hm hv ?_ hn hdb);exact ji (thn (ha pos Ψ s σ H _ I h) λus s1 ⟨vs,H1,I1,r1,q1⟩=>hc Ψ s1 σ H1 vs us Q I1 r1 q1) he hpl
end
end L2
namespace HT
open PySem PyProof.Rows
section
variable {prog:bp} {w:bj} {A:cj} {E:am->au->Prop} {s:au}
theorem aH4(ht:lp s.heap t vs.toArray)(hb:lp s.heap b ws.toArray)(hv:vs≠[])
 (h1:ws=[]->Q (.ref t) s)(h2:ws≠[]->Q (.ref s.heap.objs.size) {s with heap:=s.heap.push {cls:=.type "tuple",data:=.seq (vs++ws).toArray}})
 (hsz:vs.length+ws.length<=aI):ϑ (ax prog w) A (en .Add (.ref t) (.ref b)) Q E s:=by
 obtain⟨⟨cls,dd,data,sl⟩,ho,hc,n,hd⟩:=id ht;obtain⟨⟨cls2,dd2,data2,sl2⟩,ho2,hc2,n2,hd2⟩:=id hb;simp only at hc hd hc2 hd2;subst hc hd hc2 hd2;have e:vs.toArray++ws.toArray=(vs++ws).toArray:=by simp
 by_cases hw:ws=[]
 .exact ux ⟨_,ho,rfl⟩ ⟨_,ho2,rfl⟩ uy uz uS u7 (va _ _)
   (tuple_addW1 t b vs.toArray ws.toArray n n2 dd dd2 sl sl2 (by simpa using hv) (by simp[hw])) ⟨ho,ho2,h1 hw⟩
 .refine ux ⟨_,ho,rfl⟩ ⟨_,ho2,rfl⟩ uy uz uS u7 (va _ _)
   (tuple_addW2 t b vs.toArray ws.toArray n n2 dd dd2 sl sl2 (by simpa using hv) (by simpa using hw) (by rw[cy,cy];exact hsz)) ⟨ho,ho2,?_⟩
  rw[e];exact h2 hw
noncomputable def sIx(n d:af):av ai->af
 |none=>d
 |some v=>if v<0 then (v+(n:ai)).toNat else min v.toNat n
theorem aKp(n d:af)(hd:d<=n)(o:av ai):sIx n d o<=n:=by
 cases o with
 |none=>exact hd
 |some v=>
  show(if v<0 then (v+(n:ai)).toNat else min v.toNat n)<=n;by_cases hv:v<0
  .rw[ar hv];lia
  .rw[aw hv];exact Nat.min_le_right _ _
theorem ZG(v:ai)(n d:af):(if v<0 then max (v+(n:ai)) 0 else min v (n:ai))=((sIx n d (ae v):af):ai):=by
 show(if v<0 then max (v+(n:ai)) 0 else min v (n:ai))=(((if v<0 then (v+(n:ai)).toNat else min v.toNat n):af):ai);by_cases hv:v<0
 .simp only[ar hv];lia
 .simp only[aw hv];lia
theorem WY(lo hi:av ai)(n:af):vb lo hi 1 (n:ai)=(((sIx n 0 lo:af):ai),((sIx n n hi:af):ai)):=by
 have h1:¬((1:ai)<0):=by lia
 unfold vb;simp only[h1,gs];refine Prod.ext ?_ ?_
 .cases lo with
  |none=>rfl
  |some v=>exact ZG v n 0
 .cases hi with
  |none=>rfl
  |some v=>exact ZG v n n
theorem W0(i j:af):n9 (i:ai) (j:ai) 1=j-i:=by
 unfold n9;have h1:(1:ai) > 0:=by lia
 simp only[h1,eL,Int.ediv_one];split<;>lia
theorem EY(p:ir v o)(h:Q o s):ϑ (ax prog w) A (Bz v) Q E s:=by
 cases p with
 |none=>exact yz h
 |int i t=>exact slicePart_int h
theorem xK{lo hi:av ai}{Q:ai×ai×af->au->Prop}(hs:s.heap.IsSliceOf sl vl vu .none)(pl:ir vl lo)(pu:ir vu hi)
 (h:Q (((sIx n 0 lo:af):ai),1,sIx n n hi-sIx n 0 lo) s):ϑ (ax prog w) A (yA (.ref sl) (pure (n:ai))) Q E s:=by
 obtain⟨os,hos,hcs,hds⟩:=id hs;unfold yA BA;refine ao (ao (dj hos hds rfl (ao (dj hos hds rfl (ao (dj hos hds rfl (aS ?_)))))));refine ao (yz ?_);show ϑ _ _ (if ((1:ai)==0)=ag then _ else _) _ _ s;rw[aw 0x4];refine ao (EY pl (ao (EY pu (ao (aS ?_)))));show ϑ _ _ (match vb lo hi 1 (n:ai) with|(lo,hi)=>pure (lo,(1:ai),n9 lo hi 1)) _ _ s;rw[WY lo hi n];show ϑ _ _ (pure (((sIx n 0 lo:af):ai),(1:ai),n9 ((sIx n 0 lo:af):ai) ((sIx n n hi:af):ai) 1)) _ _ s;rw[W0];exact aS h
theorem aD4(xs:bw am)(i k:af):((ay k).filterMap λ(m:af)=>xs[((i:ai)+(m:ai)*1).toNat]?).toArray=((xs.toList.drop i).take k).toArray:=by
 have e:(λ(m:af)=>xs[((i:ai)+(m:ai)*1).toNat]?)=λm=>xs[i+m]?:=by
  funext m
  have:((i:ai)+(m:ai)*1).toNat=i+m:=by lia
  rw[this]
 rw[e];have:=pick_run xs i k;rw[List.filterMap_map] at this;have e2:((λx=>xs[x]?) ∘ λx=>i+x)=λm=>xs[i+m]?:=rfl
 rw[e2] at this;rw[this]
theorem vV{lo hi:av ai}{Q:am->au->Prop}(ht:lp s.heap t items)(hs:s.heap.IsSliceOf sl vl vu .none)(pl:ir vl lo)(pu:ir vu hi)
 (hw:¬(sIx items.size 0 lo=0/\sIx items.size items.size hi=items.size))
 (h:Q (.ref s.heap.objs.size) {s with heap:=s.heap.push {cls:=.type "tuple",data:=.seq ((items.toList.drop (sIx items.size 0 lo)).take (sIx items.size items.size hi-sIx items.size 0 lo)).toArray}})
 (hsz:items.size<=aI):ϑ (ax prog w) A (jk (.ref t) (.ref sl)) Q E s:=by
 have htake:sizeOk (.seq ((items.toList.drop (sIx items.size 0 lo)).take (sIx items.size items.size hi-sIx items.size 0 lo)).toArray):=by
  show((items.toList.drop (sIx items.size 0 lo)).take (sIx items.size items.size hi-sIx items.size 0 lo)).toArray.size<=aI;rw[cy,eW,i4,nE];lia
 have hj:sIx items.size items.size hi<=items.size:=aKp _ _ (br _) hi;obtain⟨os,hos,hcs,hds⟩:=id hs;have hTs:s.TypeIs (.ref sl) "slice":=⟨os,hos,hcs⟩
 unfold jk
 try with_reducible refine eM ?_
 first|refine ao (aS ?_)|skip
 refine ao (wpAny_sequenceKey ht.typeIs 0x4 ?_);refine ao (jn ht.typeIs l7
  (jo l7 ht.typeIs entry_tuple_getitem ?_ (args_tuple_getitem _ _)))
 show ϑ _ _ (BB (.ref t) >>= _) _ _ s;refine ao (tupleItemsOf_ ht ?_);refine ao (og hTs ?_);rw[ar 0x4];refine ao (xK hs pl pu ?_);have hno:¬((((sIx items.size 0 lo:af):ai)==0&&(1:ai)==1&&(sIx items.size items.size hi-sIx items.size 0 lo)==items.size)=ag):=by
  intro q;rw[bf,bf] at q;have q1:((sIx items.size 0 lo:af):ai)=0:=eq_of_beq q.1.1;have q2:sIx items.size items.size hi-sIx items.size 0 lo=items.size:=eq_of_beq q.2;exact hw ⟨by lia,by lia⟩
 show ϑ _ _ (if (((sIx items.size 0 lo:af):ai)==0&&(1:ai)==1&&(sIx items.size items.size hi-sIx items.size 0 lo)==items.size)=ag then _ else _) _ _ s;rw[aw hno,aD4]
 first
  |exact ao (iu (aS ⟨_,rfl,aS h⟩) htake)
  |exact ao (iu (ao (aS (aS ⟨_,rfl,aS h⟩))) htake)
  |exact ao (ao (iu (aS (aS ⟨_,rfl,aS h⟩)) htake))
  |exact ao (ao (iu (aS ⟨_,rfl,aS h⟩) htake))
end
end HT
namespace L2
open PySem PySem.Spec PyProof.Rows
abbrev TO:=St->Hp->(av ai->Hp->Prop)->Prop
def PO(X:Cx)(e:av Expr)(t:TO):Prop:=
 ∀(Ψ:aa (ak×bd))(s:au)(σ:St)(H:Hp)(Q:av ai->Hp->Prop),Inv X Ψ σ H s->t σ H Q->
  ϑ (ax X.prog X.w) X.A (evalPart e X.env) (λu s'=>∃o H',Inv X Ψ σ H' s'/\ir u o/\Q o H') X.xe s
noncomputable def aH5:TO:=λ_ H Q=>Q aj H
noncomputable def aP1(t:TE):TO:=λσ H Q=>t σ H λx H1=>∃i,x=.int i/\Q (ae i) H1
section
variable {X:Cx} {e:Expr} {te:TE} {lo hi:av Expr} {tl th:TO} {pos p2:b6}
theorem aH6:PO X aj aH5:=by
 intro Ψ s σ H Q I h;rw[yB];exact aS ⟨aj,H,I,.none,h⟩
theorem aH7(h:PE X e te):PO X (ae e) (aP1 te):=by
 intro Ψ s σ H Q I hw;rw[evalPart_some];refine thn (h Ψ s σ H _ I hw) λu s1 ⟨x,H1,I1,r1,q1⟩=>?_
 obtain⟨i,rfl,q⟩:=q1;obtain⟨t,rfl⟩:=r1;exact⟨ae i,H1,I1,.int i t,q⟩
def SlR(X:Cx)(r:V->av ai->av ai->Hp->VK->Prop):Prop:=
 ∀(Ψ:aa (ak×bd))(s:au)(σ:St)(H:Hp)(x:V)(v vl vu:am)(lo hi:av ai)(sl:ak)(Q:VK),Inv X Ψ σ H s->RelV x v->s.heap.IsSliceOf sl vl vu .none->ir vl lo->ir vu hi->r x lo hi H Q->
  ∃T id,l8 (.type T) "__getitem__"=pure (ae (.builtin id))/\s.TypeIs v T/\ϑ (ax X.prog X.w) X.A (jk v (.ref sl)) (EP X Ψ σ Q) X.xe s
noncomputable def tSl(r:V->av ai->av ai->Hp->VK->Prop)(te:TE)(tl th:TO):TE:=λσ H Q=>te σ H λx H1=>tl σ H1 λl H2=>th σ H2 λu H3=>r x l u H3 Q
theorem aD5(hr:SlR X r)(he:PE X e te)(hl:PO X lo tl)(hu:PO X hi th):PE X (.Subscript e (.Slice lo hi aj p2) pos) (tSl r te tl th):=by
 intro Ψ s σ H Q I h;refine Subscript_ (thn (he Ψ s σ H _ I h) λv s1 ⟨x,H1,I1,r1,q1⟩=>?_);refine wpAny_Slice (thn (hl Ψ s1 σ H1 _ I1 q1) λvl s2 ⟨l,H2,I2,pl,q2⟩=>thn (hu Ψ s2 σ H2 _ I2 q2) λvu s3 ⟨u,H3,I3,pu,q3⟩=>?_);rw[yB];refine aS ?_;have I4:Inv X Ψ σ H3 {s3 with heap:=s3.heap.push {cls:=.type "slice",data:=.fields #[vl,vu,.none]}}:=I3.kept λb ob q=>cu _ q
 obtain⟨T,id,hT,ht,hg⟩:=hr Ψ {s3 with heap:=s3.heap.push {cls:=.type "slice",data:=.fields #[vl,vu,.none]}} σ H3 x v vl vu l u s3.heap.objs.size Q I4 r1 (BC ..) pl pu q3;show ϑ (ax X.prog X.w) X.A (oh e (.Slice lo hi aj p2) v (.ref s3.heap.objs.size)) (EP X Ψ σ Q) X.xe {s3 with heap:=s3.heap.push {cls:=.type "slice",data:=.fields #[vl,vu,.none]}};exact tail_any ht hT hg 0x5
noncomputable def aD6(xs:aa V)(lo hi:av ai):aa V:=(xs.drop (HT.sIx xs.length 0 lo)).take (HT.sIx xs.length xs.length hi-HT.sIx xs.length 0 lo)
theorem yN(xs:aa V)(lo hi:av ai):(aD6 xs lo hi).length<=xs.length:=by
 unfold aD6;rw[eW,i4];lia
def aRt(K:bn):V->av ai->av ai->Hp->VK->Prop:=λx lo hi H Q=>∃a xs,x=.ref a/\SqT K H a xs/\
 ¬(HT.sIx xs.length 0 lo=0/\HT.sIx xs.length xs.length hi=xs.length)/\∀p,H p=aj->Q (.ref p) (upd H p (.tup (aD6 xs lo hi)))
theorem aKq:SlR X (aRt X.K):=by
 intro Ψ s σ H x v vl vu lo hi sl Q I rx hs pl pu h;obtain⟨a,xs,rfl,hx,hw,q⟩:=h;cases rx;obtain⟨its,r,ht,hz⟩:=I.tuple hx;have hlen:its.toArray.size=xs.length:=by rw[cy];exact r.length.symm
 refine⟨"tuple",_,l7.lookup,ht.typeIs,?_⟩;refine HT.vV ht hs pl pu (by rw[hlen];exact hw) ?_ (by rw[hlen];exact hz);rw[hlen];refine⟨.ref s.heap.objs.size,_,I.laid (λb ob q=>cu _ q) (br _) ?_,rfl,q _ (I.hok.fresh (br _))⟩;exact⟨dh (yN xs lo hi) hz,_,(r.drop (HT.sIx xs.length 0 lo)).take (HT.sIx xs.length xs.length hi-HT.sIx xs.length 0 lo),mV.new _ _⟩
def aP2(K:bn):R2:=λx y H Q=>∃a b xs ys,x=.ref a/\y=.ref b/\SqT K H a xs/\SqT K H b ys/\xs≠[]/\xs.length+ys.length<=aI/\
 (ys=[]->Q (.ref a) H)/\(ys≠[]->∀p,H p=aj->Q (.ref p) (upd H p (.tup (xs++ys))))
theorem Vals.yO(r:Vals xs us):us=[]↔xs=[]:=by
 cases r with
 |nil=>simp
 |cons _ _=>simp
theorem aH8:OpR X (en .Add) (aP2 X.K):=by
 intro Ψ s σ H x y v u Q I rx ry h;obtain⟨a,b,xs,ys,rfl,rfl,ha,hb,hx,hz,q1,q2⟩:=h;cases rx;cases ry;obtain⟨its,r1,p1,_⟩:=I.tuple ha;obtain⟨its2,r2,p2,_⟩:=I.tuple hb;refine HT.aH4 p1 p2 (λz=>hx (r1.yO.mp z)) (λz=>⟨.ref a,H,I,rfl,q1 (r2.yO.mp z)⟩) (λz=>?_) (by rw[<-r1.length,<-r2.length];exact hz);refine⟨.ref s.heap.objs.size,_,I.laid (λb ob q=>cu _ q) (br _) ?_,rfl,q2 (λw=>z (r2.yO.mpr w)) _ (I.hok.fresh (br _))⟩;exact⟨by rw[bz];exact hz,_,r1.append r2,mV.new _ _⟩
end
noncomputable def ixN(n:af)(i:ai):av af:=if 0<=i then (if i<n then ae i.toNat else aj) else if -(n:ai)<=i then ae (i+n).toNat else aj
def atI{α:Type}(xs:aa α)(i:ai):av α:=(ixN xs.length i).bind λj=>xs[j]?
theorem ZJ(h:ixN n i=ae j):vc i n=ae j/\j<n/\-(n:ai)<=i/\i<n:=by
 unfold ixN at h;by_cases h0:0<=i
 .rw[ar h0] at h;by_cases h1:i<n
  .rw[ar h1] at h;have e:i.toNat=j:=fz h;exact⟨by rw[vd h0 h1,e],by lia,by lia,h1⟩
  .rw[aw h1] at h;cases h
 .rw[aw h0] at h;by_cases h1:-(n:ai)<=i
  .rw[ar h1] at h;have e:(i+n).toNat=j:=fz h;exact⟨by rw[ve 0x1 h1,e],by lia,h1,by lia⟩
  .rw[aw h1] at h;cases h
theorem Q8(h:atI xs i=ae v):∃j,vc i xs.length=ae j/\xs[j]?=ae v/\j<xs.length/\-(xs.length:ai)<=i/\i<xs.length:=by
 unfold atI at h;cases e:ixN xs.length i with
 |none=>rw[e] at h;cases h
 |some j=>
  rw[e] at h;obtain⟨h1,h2,h3,h4⟩:=ZJ e;exact⟨j,h1,h,h2,h3,h4⟩
def GR(b:Expr):Prop:=∀o i,oj b ah o i=vf [o,i] (jk o i)
def IxR(X:Cx)(r:R2):Prop:=
 ∀(value slice:Expr)(Ψ:aa (ak×bd))(s:au)(σ:St)(H:Hp)(x y:V)(v u:am)(Q:VK),Inv X Ψ σ H s->RelV x v->RelV y u->r x y H Q->
  oj slice ah v u=vf [v,u] (jk v u)->ϑ (ax X.prog X.w) X.A (oh value slice v u) (EP X Ψ σ Q) X.xe s
def MtR(X:Cx)(id:fF)(r:V->aa V->Hp->VK->Prop):Prop:=
 ∀(Ψ:aa (ak×bd))(s:au)(σ:St)(H:Hp)(x:V)(xs:aa V)(v:am)(us:aa am)(Q:VK),Inv X Ψ σ H s->RelV x v->Vals xs us->r x xs H Q->
  ϑ (ax X.prog X.w) X.A (call (.builtin id) (v::us)) (EP X Ψ σ Q) X.xe s
section
variable {X:Cx} {a b:Expr} {ta tb:TE} {pos:b6}
theorem aKr(hr:IxR X r)(ha:PE X a ta)(hb:PE X b tb)(hs:GR b):PE X (.Subscript a b pos) (tOp r ta tb):=by
 intro Ψ s σ H Q I h;exact Subscript_ (aOu ha hb I h λv u s2 x y H2 I2 rx ry q=>hr a b Ψ s2 σ H2 x y v u Q I2 rx ry q (hs _ _))
def aRu(K:bn):R2:=λx y H Q=>∃p xs i v,x=.ref p/\y=.int i/\SqL K H p xs/\atI xs i=ae v/\Q v H
def aRv(K:bn):R2:=λx y H Q=>∃p xs i v,x=.ref p/\y=.int i/\SqT K H p xs/\atI xs i=ae v/\Q v H
def aRw:R2:=λx y H Q=>∃z i c,x=.str z/\y=.int i/\z.length<=aI/\atI z.cps.toList i=ae c/\Q (.str ⟨#[c]⟩) H
theorem Q9:IxR X (aRu X.K):=by
 intro value slice Ψ s σ H x y v u Q I rx ry h hs;obtain⟨p,xs,i,z,rfl,rfl,hq,he,q⟩:=h;cases rx;obtain⟨t,rfl⟩:=ry;obtain⟨its,r,pl,hz⟩:=I.list hq;obtain⟨j,h1,h2,h3,h4,h5⟩:=Q8 he;obtain⟨w,ew,rw'⟩:=r.get h2;have hl:=r.length;have hn:=yM;have fin:EP X Ψ σ Q w s:=⟨z,H,I,rw',q⟩
 by_cases h0:0<=i
 .have hj:i.toNat=j:=by
   rw[vd h0 h5] at h1;exact fz h1
  exact item_listR pl.isList h0 0x1 (by rw[hj];simpa using ew) fin hs
 .have hj:(i+(its.toArray.size:ai)).toNat=j:=by
   rw[ve 0x1 h4] at h1;rw[cy,<-hl];exact fz h1
  exact yT pl.isList.typeIs yY.lookup
   (wpAny_getItem_list_neg pl.isList 0x1 (by rw[cy]<;>lia) 0x1 (by rw[hj];simpa using ew) ⟨rfl,fin⟩) hs
theorem aKs:IxR X (aRv X.K):=by
 intro value slice Ψ s σ H x y v u Q I rx ry h hs;obtain⟨p,xs,i,z,rfl,rfl,hq,he,q⟩:=h;cases rx;obtain⟨t,rfl⟩:=ry;obtain⟨its,r,pl,hz⟩:=I.tuple hq;obtain⟨j,h1,h2,h3,h4,h5⟩:=Q8 he;obtain⟨w,ew,rw'⟩:=r.get h2;have hl:=r.length;have hn:=yM;have fin:EP X Ψ σ Q w s:=⟨z,H,I,rw',q⟩
 exact yT pl.typeIs slot_tuple_getitem.lookup
  (getItem_tuple pl 0x1 0x1 (by rw[cy,<-hl];exact h1) (by simpa using ew) ⟨rfl,fin⟩) hs
theorem aKt:IxR X aRw:=by
 intro value slice Ψ s σ H x y v u Q I rx ry h hs;obtain⟨z,i,c,rfl,rfl,hz,he,q⟩:=h;obtain⟨t,rfl⟩:=rx;obtain⟨t',rfl⟩:=ry;obtain⟨j,h1,h2,h3,h4,h5⟩:=Q8 he;have hl:z.cps.toList.length=z.length:=by simp[Str.length]
 rw[hl] at h1 h4 h5;have hn:=yM;exact tail_any (vg s z t) slot_str_getitem.lookup (getItem_str (by
  have e1:ϒ (i < -(2 ^ 63:ai))=ah:=cg 0x1;have e2:ϒ (i >= 2 ^ 63)=ah:=cg 0x1;rw[e1,e2,vh]) (by rw[h1];simpa using h2) ⟨.str ⟨#[c]⟩,H,I.tok _,⟨_,rfl⟩,q⟩) hs
theorem W2(its:aa am)(n j:af)(u:am):gu (·.setIfInBounds j u) {cls:=.type "list",data:=.seq its.toArray n}={cls:=.type "list",data:=.seq (its.set j u).toArray n}:=by
 simp[gu]
theorem Inv.lst{Ψ:aa (ak×bd)}{σ:St}{H:Hp}{s:au}{p:ak}{xs:aa V}(I:Inv X Ψ σ H s)(h:H p=ae (.lst xs)) :
  ∃(its:aa am)(n:af),Vals xs its/\s.heap.get? p=ae {cls:=.type "list",data:=.seq its.toArray n}/\xs.length<=aI:=by
 obtain⟨z,its,n,r,e⟩:=I.hok p _ h;exact⟨its,n,r,e,z⟩
theorem Inv.aKu{its its':aa am}{n n':af}{f:bd->bd}(I:Inv X Ψ σ H s)(h:H p=ae (.lst xs))
 (ho:s.heap.get? p=ae {cls:=.type "list",data:=.seq its.toArray n})(hf:f {cls:=.type "list",data:=.seq its.toArray n}={cls:=.type "list",data:=.seq its'.toArray n'})(r:Vals ys its')(hz:ys.length<=aI)(t:af) :
  Inv X Ψ σ (upd H p (.lst ys)) {s with heap:=s.heap.update p f,toks:=t}:=by
 have e:(s.heap.update p f).get? p=ae {cls:=.type "list",data:=.seq its'.toArray n'}:=by
  rw[ia f ho (by rw[hf]<;>rfl),hf]
 refine I.write (by rw[h];trivial) (.inl rfl) (λb u hb q=>(km _ _ (Ne.symm hb)).trans q) ⟨_,e⟩ ?_;exact⟨hz,its',n',r,e⟩
def aP3:V->V->V->Hp->(Hp->Prop)->Prop:=λo i v H Q=>∃p xs k j,o=.ref p/\i=.int k/\H p=ae (.lst xs)/\ixN xs.length k=ae j/\Q (upd H p (.lst (xs.set j v)))
theorem set_list:aRn X aP3:=by
 intro Ψ s σ H o i v ov iv u Q I ro ri rv h;obtain⟨p,xs,k,j,rfl,rfl,hp,hj,q⟩:=h;cases ro;obtain⟨t,rfl⟩:=ri;obtain⟨its,n,r,ho,hz⟩:=I.lst hp;obtain⟨h1,h2,h3,h4⟩:=ZJ hj;have hl:=r.length;have hn:=yM;have I':Inv X Ψ σ (upd H p (.lst (xs.set j v))) {s with heap:=s.heap.update p (gu (·.setIfInBounds j u))}:=
  I.aKu hp ho (W2 its n j u) (r.set rv j) (by rw[y0];exact hz) s.toks
 by_cases h0:0<=k
 .have hk:k.toNat=j:=by
   rw[vd h0 h4] at h1;exact fz h1
  exact PySem.W.ki_setAt ho h0 0x1 (by rw[cy,<-hl];exact h4) (by rw[hk];exact⟨_,I',q⟩)
 .have hk:(k+(its.toArray.size:ai)).toNat=j:=by
   rw[ve 0x1 h3] at h1;rw[cy,<-hl];exact fz h1
  exact PySem.W.ki_setBack ho 0x1 (by rw[cy,<-hl];exact h3) 0x1 (by rw[hk];exact⟨_,I',q⟩)
theorem K_(lo hi:av ai)(n:af):(jp lo hi aj n).1=((HT.sIx n 0 lo:af):ai)/\(jp lo hi aj n).2.1=((HT.sIx n n hi:af):ai)/\(jp lo hi aj n).2.2=1:=by
 refine⟨?_,?_,rfl⟩
 .cases lo with
  |none=>simp[jp,HT.sIx]
  |some i=>
   simp only[jp,HT.sIx,za,show(1:ai) > 0 by decide,eL];by_cases h:i<0
   .simp only[h,eL]<;>lia
   .simp only[h,gs]<;>lia
 .cases hi with
  |none=>simp[jp,HT.sIx]
  |some i=>
   simp only[jp,HT.sIx,za,show(1:ai) > 0 by decide,eL];by_cases h:i<0
   .simp only[h,eL]<;>lia
   .simp only[h,gs]<;>lia
theorem GX(its:aa am)(lo hi:av ai):slicePick its.toArray lo hi aj=((its.drop (HT.sIx its.length 0 lo)).take (HT.sIx its.length its.length hi-HT.sIx its.length 0 lo)).toArray:=by
 obtain⟨h1,h2,h3⟩:=K_ lo hi its.toArray.size;unfold slicePick;rw[h1,h2,h3];simp only[sliceRange_one,pick_run,cy]<;>rfl
def aRx(K:bn):V->av ai->av ai->Hp->VK->Prop:=λx lo hi H Q=>∃a xs,x=.ref a/\SqL K H a xs/\∀p,H p=aj->Q (.ref p) (upd H p (.lst (aD6 xs lo hi)))
theorem ZK:SlR X (aRx X.K):=by
 intro Ψ s σ H x v vl vu lo hi sl Q I rx hs pl pu h;obtain⟨a,xs,rfl,hx,q⟩:=h;cases rx;obtain⟨its,r,ht,hz⟩:=I.list hx;have hlen:=r.length;refine⟨"list",_,yY.lookup,ht.isList.typeIs,?_⟩;refine wpAny_getItem_list_slice ht.isList hs pl pu .none 0x2 ?_ (by rw[cy]<;>lia);rw[GX,<-hlen];refine⟨.ref s.heap.objs.size,_,I.laid (λb ob q=>cu _ q) (br _) ?_,rfl,q _ (I.hok.fresh (br _))⟩;exact⟨dh (yN xs lo hi) hz,_,0,(r.drop (HT.sIx xs.length 0 lo)).take (HT.sIx xs.length xs.length hi-HT.sIx xs.length 0 lo),dq _ rfl⟩
theorem lW:sV X (.builtin "len") (λxs H Q=>∃p ys,xs=[.ref p]/\(SqL X.K H p ys\/SqT X.K H p ys)/\Q (.int ys.length) H):=by
 intro Ψ s σ H xs us Q I r h;obtain⟨p,ys,rfl,hq,q⟩:=h;obtain⟨u,rfl,rx⟩:=vals1 r;cases rx;have hn:=yM;rcases hq with hq|hq
 .obtain⟨its,r',pl,hz⟩:=I.list hq;have hlen:=r'.length;exact Calls.call_len_list pl.isList (by simp only[cy]<;>lia) ⟨.int ys.length,H,I.tok _,⟨s.toks+1,by rw[cy,hlen]⟩,q⟩
 .obtain⟨its,r',pl,hz⟩:=I.tuple hq;have hlen:=r'.length;exact len_tuple pl (by simp only[cy]<;>lia) ⟨.int ys.length,H,I.tok _,⟨s.toks+1,by rw[cy,hlen]⟩,q⟩
theorem LC:sV X (.builtin "len") (λxs H Q=>∃z,xs=[.str z]/\z.length<=aI/\Q (.int z.length) H):=by
 intro Ψ s σ H xs us Q I r h;obtain⟨z,rfl,hz,q⟩:=h;obtain⟨u,rfl,t,rfl⟩:=vals1 r;have hn:=yM;exact len_str 0x1 ⟨.int z.length,H,I.tok _,⟨_,rfl⟩,q⟩
theorem wR:sV X (.type "list") (λxs H Q=>∃p ys,xs=[.ref p]/\(SqL X.K H p ys\/SqT X.K H p ys)/\∀l,H l=aj->Q (.ref l) (upd H l (.lst ys))):=by
 intro Ψ s σ H xs us Q I r h;obtain⟨p,ys,rfl,hq,q⟩:=h;obtain⟨u,rfl,rx⟩:=vals1 r;cases rx;have fin:∀(its:aa am),Vals ys its->ys.length<=aI->∀(h':az)(c':af),(∀b o',s.heap.get? b=ae o'->h'.get? b=ae o')->
   h'.get? s.heap.objs.size=ae {cls:=.type "list",dict:=aj,data:=.seq its.toArray c',slots:=#[]}->EP X Ψ σ Q (.ref s.heap.objs.size) {s with heap:=h'}:=λits r' hz h' c' kp e=>
  ⟨.ref s.heap.objs.size,_,I.laid kp (br _) (show jN X.prog X.w _ h' _ (.lst ys) from ⟨hz,its,c',r',e⟩),rfl,q _ (I.hok.fresh (br _))⟩
 rcases hq with hq|hq
 .obtain⟨its,r',pl,hz⟩:=I.list hq;have hlen:=r'.length;obtain⟨o,ho,hc,n,hd⟩:=pl.isList;exact zc p (.inl rfl) ho hc hd (λh' c' kp e=>fin its r' hz h' c' kp e) (by simp only[cy]<;>lia)
 .obtain⟨its,r',pl,hz⟩:=I.tuple hq;have hlen:=r'.length;obtain⟨o,ho,hc,n,hd⟩:=pl;exact zc p (.inr rfl) ho hc hd (λh' c' kp e=>fin its r' hz h' c' kp e) (by simp only[cy]<;>lia)
theorem uP:sV X (.type "tuple") (λxs H Q=>∃p ys,xs=[.ref p]/\((SqL X.K H p ys/\∀l,H l=aj->Q (.ref l) (upd H l (.tup ys)))\/(SqT X.K H p ys/\Q (.ref p) H))):=by
 intro Ψ s σ H xs us Q I r h;obtain⟨p,ys,rfl,h⟩:=h;obtain⟨u,rfl,rx⟩:=vals1 r;cases rx;rcases h with ⟨hq,q⟩|⟨hq,q⟩
 .obtain⟨its,r',pl,hz⟩:=I.list hq;have hlen:=r'.length;refine call_tuple_list pl.isList (λh' kp=>?_) (by simp only[cy]<;>lia);have I1:Inv X Ψ σ H {s with heap:=h'}:=I.kept kp;have I2:Inv X Ψ σ (upd H h'.objs.size (.tup ys)) {s with heap:=h'.push {cls:=.type "tuple",data:=.seq its.toArray}}:=
   I1.laid (λb o e=>cu _ e) (br _) (show jN X.prog X.w _ _ _ (.tup ys) from ⟨hz,its,r',mV.new _ _⟩)
  exact⟨.ref h'.objs.size,_,I2,rfl,q _ (I1.hok.fresh (br _))⟩
 .obtain⟨its,r',pl,hz⟩:=I.tuple hq;exact call_tuple_same pl ⟨.ref p,H,I,rfl,q⟩
def tyV(K:bn)(T:fF)(x:V)(H:Hp):Prop:=match x with
 |.str _=>T="str"
 |.int _=>T="int"
 |.ref p=>(T="list"/\∃xs,SqL K H p xs)\/(T="tuple"/\((∃o,K.lookup p=ae o/\o.cls=.type "tuple"/\o.dict=aj)\/∃xs,H p=ae (.tup xs)))\/
   (T="dict"/\((∃kvs,H p=ae (.dK kvs))\/∃kvs,H p=ae (.dT kvs)))\/(T="set"/\∃S n,H p=ae (.set S n))
 |_=>cK
theorem aFl(I:Inv X Ψ σ H s)(r:RelV x v)(ty:tyV X.K T x H) :
  s.TypeIs v T/\∀a,v=.ref a->∃ob,s.heap.get? a=ae ob/\ob.dict=aj:=by
 cases x with
 |str z=>
  obtain⟨t,rfl⟩:=r;cases (show T="str" from ty);exact⟨vg s z t,λ_ e=>nomatch e⟩
 |int i=>
  obtain⟨t,rfl⟩:=r;cases (show T="int" from ty);exact⟨typeIs_int s i t,λ_ e=>nomatch e⟩
 |ref p=>
  cases r;rcases ty with ⟨rfl,xs,hq⟩|⟨rfl,⟨o,hk,hc,hd⟩|⟨xs,hk⟩⟩|⟨rfl,hk⟩|⟨rfl,S,n,hk⟩
  .obtain⟨its,_,pl,_⟩:=I.list hq;refine⟨pl.isList.typeIs,λa e=>?_⟩;cases e;obtain⟨o,n,e,c,hd,_⟩:=pl;exact⟨o,e,hd⟩
  .refine⟨⟨o,I.kIn p o hk,hc⟩,λa e=>?_⟩;cases e;exact⟨o,I.kIn _ o hk,hd⟩
  .obtain⟨_,its,_,pl⟩:=I.hok p _ hk;refine⟨(mV.tup pl).typeIs,λa e=>?_⟩;cases e;exact mV.bare pl
  .have z:∃o,s.heap.get? p=ae o/\o.ExactDict:=by
    rcases hk with ⟨kvs,hk⟩|⟨kvs,hk⟩
    .obtain⟨_,_,_,_,o,_,_,e,ex,_⟩:=I.hok p _ hk;exact⟨o,e,ex⟩
    .obtain⟨_,_,_,_,o,_,_,e,ex,_⟩:=I.hok p _ hk;exact⟨o,e,ex⟩
   obtain⟨o,e,ex⟩:=z;refine⟨⟨o,e,ex.1⟩,λa e2=>?_⟩;cases e2;exact⟨o,e,ex.2.1⟩
  .obtain⟨o,_,_,_,e,ex,_⟩:=I.hok p _ hk;refine⟨⟨o,e,ex.1⟩,λa e2=>?_⟩;cases e2;exact⟨o,e,ex.2.1⟩
 |_=>exact dE ty
noncomputable def aRy(K:bn)(T:fF)(r:V->aa V->Hp->VK->Prop)(to:TE):TE:=λσ H Q=>to σ H λx H1=>tyV K T x H1/\r x [] H1 Q
noncomputable def tBM(K:bn)(T:fF)(r:V->aa V->Hp->VK->Prop)(to:TE)(t:TA):TE:=λσ H Q=>to σ H λx H1=>tyV K T x H1/\t σ H1 λxs H2=>r x xs H2 Q
variable {o e:Expr} {es:aa Expr} {to:TE} {t:TA} {name:Str} {apos cpos:b6} {T id:fF} {r:V->aa V->Hp->VK->Prop}
theorem aFm(pa:vi T)(slot:jq T name id)(hty:ko (.builtin id)=pure (.type "method_descriptor"))(hm:MtR X id r)(ho:PE X o to)
 (hbase:hG o name X.env (eval o X.env)=eval o X.env:=by rfl)(hline:(apos.endLine==cpos.line)=ag:=by rfl):PE X (.Call (.Attribute o name apos) [] [] cpos) (aRy X.K T r to):=by
 intro Ψ s σ H Q I h;refine wpAny_Call_method0_late hbase hline (thn (ho Ψ s σ H _ I h) λv s1 ⟨x,H1,I1,r1,ty,q1⟩=>?_);obtain⟨h1,h2⟩:=aFl I1 r1 ty;exact⟨T,id,pa,slot,hty,h1,h2,zd rfl (PySem.evalArgs_none (hm Ψ s1 σ H1 x [] v [] Q I1 r1 .nil q1))⟩
theorem aD7(pa:vi T)(slot:jq T name id)(hty:ko (.builtin id)=pure (.type "method_descriptor"))(hm:MtR X id r)(ho:PE X o to)(ha:PA X (e::es) t)
 (hbase:hG o name X.env (eval o X.env)=eval o X.env:=by rfl)
 (hfew:zFw X cpos (e::es):=by rfl)
 (hline:(apos.endLine==cpos.line)=ag:=by rfl)(hs:zSE X e es:=by rfl)(hplain:zSP X cpos es:=by rfl) :
  PE X (.Call (.Attribute o name apos) (e::es) [] cpos) (tBM X.K T r to t):=by
 intro Ψ s σ H Q I h;refine wpAny_Call_method_late hbase hfew hline rfl (thn (ho Ψ s σ H _ I h) λv s1 ⟨x,H1,I1,r1,ty,q1⟩=>?_);obtain⟨h1,h2⟩:=aFl I1 r1 ty;refine⟨T,id,pa,slot,hty,h1,h2,?_⟩;have hA:=ha cpos Ψ s1 σ H1 _ I1 q1;rw[hs] at hA ⊢;refine zd (by show(ah||(fg cpos (bP es X.env)).any (·.1))=ah;rw[hplain]<;>rfl) (Calls.evalArgs_plain ?_);exact thn hA λus s2 ⟨vs,H2,I2,r2,q2⟩=>hm Ψ s2 σ H2 x vs v us Q I2 r1 r2 q2
end
def MtM(X:Cx)(id:fF)(r:V->aa V->Hp->VK->Prop):Prop:=
 ∀(Ψ:aa (ak×bd))(s:au)(σ:St)(H:Hp)(x:V)(xs:aa V)(v:am)(us:aa am)(Q:VK),Inv X Ψ σ H s->RelV x v->Vals xs us->r x xs H Q->
  ϑ (ax X.prog X.w) X.A (call (.builtin id) (v::us)) (EP X Ψ σ Q) X.xe s
theorem Vals.one:∀{x:V}{us:aa am},Vals [x] us->∃u,us=[u]/\RelV x u
 |_,_,.cons r .nil=>⟨_,rfl,r⟩
theorem Vals.zero:∀{us:aa am},Vals [] us->us=[]
 |_,.nil=>rfl
theorem Vals.dropLast(h:Vals xs us):Vals xs.dropLast us.dropLast:=by
 induction h with
 |nil=>exact .nil
 |cons r t ih=>
  cases t with
  |nil=>exact .nil
  |cons q t'=>exact .cons r ih
theorem W3(l:aa α):l.eraseIdx (l.length-1)=l.dropLast:=by
 induction l with
 |nil=>rfl
 |cons a r ih=>
  cases r with
  |nil=>rfl
  |cons b r=>
   have e:(a::b::r).length-1=((b::r).length-1)+1:=by
    have h1:(a::b::r).length=r.length+2:=rfl;have h2:(b::r).length=r.length+1:=rfl;lia
   rw[e,List.eraseIdx_cons_succ,ih]
   all_goals rfl
section
variable {X:Cx} {Ψ:aa (ak×bd)} {σ:St} {H:Hp} {s:au} {l:ak} {xs ys:aa V}
theorem Inv.aP4{its its':aa am}(I:Inv X Ψ σ H s)(hH:H l=ae (.lst xs))
 (e:s.heap.get? l=ae {cls:=.type "list",data:=.seq its.toArray n})(hf:f its.toArray=its'.toArray)(hv:Vals ys its')(hz:ys.length<=aI) :
  Inv X Ψ σ (upd H l (.lst ys)) {s with heap:=s.heap.update l (gu f),toks:=t'}:=by
 have q:=BD e f;rw[hf] at q;refine I.write (by rw[hH];exact trivial) (.inl rfl) (λb' u hb hu=>(km s.heap (gu f) (Ne.symm hb)).trans hu) ⟨_,q⟩ ?_;exact⟨hz,its',_,hv,q⟩
theorem Inv.aRz(I:Inv X Ψ σ H s)(hv:Vals ys its)(hz:ys.length<=aI) :
  Inv X Ψ σ (upd H s.heap.objs.size (.lst ys)) {s with heap:=s.heap.push {cls:=.type "list",data:=.seq its.toArray},toks:=t'}:=
 I.laid (λ_ _ q=>cu _ q) (br _) ⟨hz,its,0,hv,dq _ rfl⟩
theorem Inv.fresh(I:Inv X Ψ σ H s):H s.heap.objs.size=aj:=I.hok.fresh (br _)
theorem Inv.aOb(I:Inv X Ψ σ H s)(hH:H l=ae (.lst xs)):xs.length<=aI/\∃(its:aa am)(n:af),Vals xs its/\xs.length=its.length/\s.heap.get? l=ae {cls:=.type "list",data:=.seq its.toArray n}:=by
 obtain⟨z,its,n,r,e⟩:=I.hok l _ hH;exact⟨z,its,n,r,r.length,e⟩
theorem aD8(h:n<=aI):om n=ah:=by
 unfold om;exact cg 0x1
end
section
variable {X:Cx}
def aH9:V->aa V->Hp->VK->Prop:=λx vs H Q=>∃l xs y,x=.ref l/\vs=[y]/\H l=ae (.lst xs)/\xs.length<aI/\Q .non (upd H l (.lst (xs++[y])))
theorem yP:MtM X "list.append" aH9:=by
 intro Ψ s σ H x vs v us Q I rx rv h;obtain⟨l,xs,y,rfl,rfl,hH,hz,q⟩:=h;cases rx;obtain⟨u,rfl,ru⟩:=rv.one;obtain⟨z,its,n,r,hl,e⟩:=I.aOb hH;refine kq vj ⟨_,e,rfl⟩ F.entry_list_append (F.args_list_append_2 _ _) (PySem.list_append l its.toArray n u (by rw[cy];lia)) ⟨e,?_⟩;refine⟨.non,_,I.aP4 hH e 0x2 (r.append (.cons ru .nil)) ?_,rfl,q⟩;rw[bz,eP];lia
def aHa:V->aa V->Hp->VK->Prop:=λx vs H Q=>∃l b xs zs,x=.ref l/\vs=[.ref b]/\H l=ae (.lst xs)/\H b=ae (.lst zs)/\xs.length+zs.length<=aI/\Q .non (upd H l (.lst (xs++zs)))
theorem ZL:MtM X "list.extend" aHa:=by
 intro Ψ s σ H x vs v us Q I rx rv h;obtain⟨l,b,xs,zs,rfl,rfl,hH,hB,hz,q⟩:=h;cases rx;obtain⟨u,rfl,ru⟩:=rv.one;cases ru;obtain⟨z,its,n,r,hl,e⟩:=I.aOb hH;obtain⟨z2,its2,n2,r2,hl2,e2⟩:=I.aOb hB;have hsz:its.toArray.size+its2.toArray.size<=aI:=by rw[cy,cy];lia
 have hlong:¬(!its.toArray.isEmpty&&om (its.toArray.size+its2.toArray.size))=ag:=by
  rw[aD8 hsz,vk];exact jS
 refine kq ze ⟨_,e,rfl⟩ F.entry_list_extend (F.args_list_extend_2 _ _)
  (BE l its.toArray n b its2.toArray n2 hlong (by rw[cy];lia) 0x1) ⟨e,e2,?_⟩
 refine⟨.non,_,I.aP4 hH e 0x2 (r.append r2) ?_,rfl,q⟩;rw[bz];lia
def aS0:V->aa V->Hp->VK->Prop:=λx vs H Q=>∃l xs y,x=.ref l/\vs=[]/\H l=ae (.lst xs)/\xs[xs.length-1]?=ae y/\Q y (upd H l (.lst xs.dropLast))
theorem aFn:MtM X "list.pop" aS0:=by
 intro Ψ s σ H x vs v us Q I rx rv h;obtain⟨l,xs,y,rfl,rfl,hH,hy,q⟩:=h;cases rx;have hus:=rv.zero;subst hus;obtain⟨z,its,n,r,hl,e⟩:=I.aOb hH;obtain⟨u,hu,ru⟩:=r.get hy;have hy':its.toArray[its.toArray.size-1]?=ae u:=by
  show its.toArray[its.length-1]?=ae u;rw[<-vm,<-hl];exact hu
 refine kq vn ⟨_,e,rfl⟩ F.entry_list_pop (F.args_list_pop_1 _) (BF l its.toArray n u hy' (by rw[cy];lia)) ⟨e,?_⟩;refine⟨y,_,I.aP4 hH e ?_ r.dropLast ?_,ru,q⟩
 .show its.toArray.eraseIdxIfInBounds (its.toArray.size-1)=its.dropLast.toArray;rw[cy,List.eraseIdxIfInBounds_toArray,W3]
 .rw[List.length_dropLast];lia
end
section
variable {κ:Type} [fI κ]
noncomputable def E_(kvs:aa (κ×V))(k:κ):av V:=(kvs.find? λkv=>ϒ (kv.1=k)).map (·.2)
noncomputable def putK(kvs:aa (κ×V))(k:κ)(v:V):aa (κ×V):=
 if (kvs.any λkv=>ϒ (kv.1=k))=ag then kvs.map (λkv=>if kv.1=k then (kv.1,v) else kv) else kvs++[(k,v)]
theorem uQ{k:κ}(e:p.1=k):E_ (p::r) k=ae p.2:=by simp[E_,i5,e]
theorem uR{k:κ}(e:¬p.1=k):E_ (p::r) k=E_ r k:=by simp[E_,i5,e]
theorem uT(k:κ):∀kvs:aa (κ×V),(kvs.any λkv=>ϒ (kv.1=k))=(E_ kvs k).isSome
 |[]=>rfl
 |p::r=>by
  rw[i6];by_cases e:p.1=k
  .simp only[uQ e,bg e,Bool.true_or,Option.isSome_some]
  .rw[uR e,cg e,vo];exact uT k r
theorem uF(kvs:aa (κ×V))(k:κ)(v:V):(putK kvs k v).length<=kvs.length+1:=by
 unfold putK;split
 .rw[aE];lia
 .rw[bz,cz,jr];lia
theorem aD9{k:κ}(v:V)(h:E_ kvs k=aj):putK kvs k v=kvs++[(k,v)]:=by
 unfold putK;rw[uT,h];exact aw 0x4
theorem aCq.oJ(r:aCq o u):o.isSome=u.isSome:=by
 cases o with
 |none=>cases u with
  |none=>rfl
  |some _=>exact(show cK from r).elim
 |some _=>cases u with
  |none=>exact(show cK from r).elim
  |some _=>rfl
theorem KV.val(r:KV kvs vs)(k:κ):aCq (E_ kvs k) (kr vs k):=by
 unfold KV at r;induction r with
 |nil=>exact True.intro
 |@cons p q ps qs h t ih=>
  obtain⟨h1,h2⟩:=h;by_cases e:p.1=k
  .have e':q.1=k:=h1.symm.trans e;have b:kr (q::qs) k=ae q.2:=by simp[kr,i5,e']
   rw[uQ e,b];exact h2
  .have e':¬q.1=k:=λz=>e (h1.trans z)
   have b:kr (q::qs) k=kr qs k:=by simp[kr,i5,e']
   rw[uR e,b];exact ih
theorem KV.any(r:KV kvs vs)(k:κ):(kvs.any λkv=>ϒ (kv.1=k))=vs.any λkv=>ϒ (kv.1=k):=by
 unfold KV at r;induction r with
 |nil=>rfl
 |cons h t ih=>rw[i6,i6,ih,h.1]
theorem KV.repl(r:KV kvs vs)(k:κ)(ry:RelV y u) :
  KV (kvs.map λkv=>if kv.1=k then (kv.1,y) else kv) (vs.map λkv=>if kv.1=k then (kv.1,u) else kv):=by
 unfold KV at r ⊢;induction r with
 |nil=>exact .nil
 |@cons p q ps qs h t ih=>
  rw[bc,bc];refine .cons ?_ ih;obtain⟨h1,h2⟩:=h;by_cases e:p.1=k
  .rw[ar e,ar (h1.symm.trans e)];exact⟨h1,ry⟩
  .rw[aw e,aw (λz=>e (h1.trans z))];exact⟨h1,h2⟩
theorem KV.put(r:KV kvs vs)(k:κ)(ry:RelV y u):KV (putK kvs k y) (kx vs k u):=by
 unfold putK kx;rw[r.any k];by_cases e:(vs.any λkv=>ϒ (kv.1=k))=ag
 .rw[ar e,ar e];exact r.repl k ry
 .rw[aw e,aw e];exact zf r ⟨rfl,ry⟩
theorem KV.length(r:KV kvs vs):kvs.length=vs.length:=ll r
end
theorem LK(r:RelV (kV k) u):(fK P w).is k u=ag:=by
 cases k with
 |inl i=>obtain⟨t,e⟩:=(show ∃t,u=sT i t from r);subst e;exact Q3 P w i t
 |inr x=>obtain⟨t,e⟩:=(show ∃t,u=jz x t from r);subst e;exact Q4 P w x t
theorem LQ:∀{ks:aa Key}{us:aa am},Vals (ks.map kV) us->ItemsAre (fK P w) ks us
 |[],_,r=>by rw[gv] at r;cases r;exact .nil
 |k::ks,_,r=>by
  rw[bc] at r;cases r with
  |cons h t=>exact .cons (LK h) (LQ t)
abbrev KT(H:Hp):aa (aa Key×V)->aa (aa Key×ak×am)->Prop:=jg λp q=>p.1=q.1/\H q.2.1=ae (.tup (p.1.map kV))/\RelV p.2 q.2.2
theorem KT.val(r:KT H kvs xs)(k:aa Key):aCq (E_ kvs k) ((i7 xs k).map (·.2)):=by
 induction r with
 |nil=>exact True.intro
 |@cons p q ps qs h t ih=>
  obtain⟨h1,_,h2⟩:=h;by_cases e:p.1=k
  .have e':q.1=k:=h1.symm.trans e;have b:i7 (q::qs) k=ae q.2:=by simp[i7,i5,e']
   rw[uQ e,b];exact h2
  .have e':¬q.1=k:=λz=>e (h1.trans z)
   have b:i7 (q::qs) k=i7 qs k:=by simp[i7,i5,e']
   rw[uR e,b];exact ih
theorem KT.repl(r:KT H kvs xs)(k:aa Key)(ry:RelV y u) :
  KT H (kvs.map λkv=>if kv.1=k then (kv.1,y) else kv) (xs.map (putAt k u)):=by
 induction r with
 |nil=>exact .nil
 |@cons p q ps qs h t ih=>
  rw[bc,bc];refine .cons ?_ ih;obtain⟨h1,h2,h3⟩:=h;unfold putAt;by_cases e:p.1=k
  .rw[ar e,ar (h1.symm.trans e)];exact⟨h1,h2,ry⟩
  .rw[aw e,aw (λz=>e (h1.trans z))];exact⟨h1,h2,h3⟩
theorem KT.put(r:KT H kvs xs)(k:aa Key)(hb:H b=ae (.tup (k.map kV)))(ry:RelV y u) :
  KT H (putK kvs k y) (storedH xs k b u):=by
 have e:(kvs.any λkv=>ϒ (kv.1=k))=(i7 xs k).isSome:=by
  rw[uT,(r.val k).oJ,vp]
 unfold putK storedH;rw[e];by_cases q:(i7 xs k).isSome=ag
 .rw[ar q,ar q];exact r.repl k ry
 .rw[aw q,aw q];exact zf r ⟨rfl,hb,ry⟩
theorem KT.keeps(r:KT H kvs xs)(ht:∀b ys,H b=ae (.tup ys)->H' b=ae (.tup ys)):KT H' kvs xs:=
 Paired.aOo r λ_ _ z=>⟨z.1,ht _ _ z.2.1,z.2.2⟩
section
variable {P:bp} {w:bj} {H:Hp} {h:az} {a:ak}
theorem aKv(ok:HOk P w H h)(e:Rd H a u):jN P w H h a u:=e.ok ok
theorem ZM(ok:HOk P w H h)(e:Rd H a (.dK kvs)):kvs.length<=aI/\(a==gf)=ah/\∃vs,KV kvs vs/\h.DictOf (fK P w) a vs:=
 show jN P w H h a (.dK kvs) from aKv ok e
theorem W4(ok:HOk P w H h)(e:H a=ae (.dK kvs)):kvs.length<=aI/\(a==gf)=ah/\∃vs,KV kvs vs/\h.DictOf (fK P w) a vs:=ZM ok (.inl e)
theorem LR(ok:HOk P w H h)(e:H a=ae (.tup (ks.map kV))):(lq (fK P w)).is h ks a:=by
 obtain⟨_,its,r,o,h1,h2,n,h3⟩:=(show jN P w H h a (.tup (ks.map kV)) from ok a _ e)
 exact⟨o,its.toArray,n,h1,h2,dw (·.1) h3,by simpa using LQ r⟩
theorem ZP(ok:HOk P w H h)(e:Rd H a (.dT kvs)):kvs.length<=aI/\(a==gf)=ah/\
  ∃xs,KT H kvs xs/\h.DictOfH (lq (fK P w)) a xs:=by
 obtain⟨z,y,xs,r,o,es,ep,h1,h2,h3,h4,h5⟩:=(show jN P w H h a (.dT kvs) from aKv ok e)
 refine⟨z,y,xs,r,o,es,ep,h1,h2,h3,h4,λx hx=>?_,h5⟩;have all:∀{l:aa (aa Key×V)}{m:aa (aa Key×ak×am)},KT H l m->∀x∈m,(lq (fK P w)).is h x.1 x.2.1:=by
  intro l m q;induction q with
  |nil=>intro x hx;exact nomatch hx
  |@cons p q ps qs hq t ih=>
   intro x hx;rcases bt.mp hx with e|hx
   .subst e;exact LR ok (by rw[<-hq.1];exact hq.2.1)
   .exact ih x hx
 exact all r x hx
theorem aHb(ok:HOk P w H h)(e:H a=ae (.dT kvs)):kvs.length<=aI/\(a==gf)=ah/\
  ∃xs,KT H kvs xs/\h.DictOfH (lq (fK P w)) a xs:=ZP ok (.inl e)
end
def ZQ(H:Hp)(a:ak)(y:V)(r:av V):Prop:=
 (∃kvs k,Rd H a (.dK kvs)/\y=kV k/\r=E_ kvs k)\/∃kvs k b,Rd H a (.dT kvs)/\y=.ref b/\H b=ae (.tup (k.map kV))/\r=E_ kvs k
def aFo(H:Hp)(a:ak)(y v:V)(H':Hp):Prop:=
 (∃kvs k,H a=ae (.dK kvs)/\y=kV k/\kvs.length<aI/\H'=upd H a (.dK (putK kvs k v)))\/
 ∃kvs k b,H a=ae (.dT kvs)/\y=.ref b/\H b=ae (.tup (k.map kV))/\kvs.length<aI/\H'=upd H a (.dT (putK kvs k v))
theorem ZQ.k{k:Key}(e:H a=ae (.dK kvs)):ZQ H a (kV k) (E_ kvs k):=.inl ⟨kvs,k,.inl e,rfl,rfl⟩
theorem ZQ.t{k:aa Key}(e:H a=ae (.dT kvs))(eb:H b=ae (.tup (k.map kV))):ZQ H a (.ref b) (E_ kvs k):=.inr ⟨kvs,k,b,.inl e,rfl,eb,rfl⟩
theorem aFo.k{k:Key}{v:V}(e:H a=ae (.dK kvs))(hl:kvs.length<aI):aFo H a (kV k) v (upd H a (.dK (putK kvs k v))):=.inl ⟨kvs,k,e,rfl,hl,rfl⟩
theorem aFo.t{H:Hp}{a b:ak}{kvs:aa (aa Key×V)}{k:aa Key}{v:V}(e:H a=ae (.dT kvs))(eb:H b=ae (.tup (k.map kV)))(hl:kvs.length<aI) :
  aFo H a (.ref b) v (upd H a (.dT (putK kvs k v))):=.inr ⟨kvs,k,b,e,rfl,eb,hl,rfl⟩
section
variable {X:Cx} {Ψ:aa (ak×bd)} {σ:St} {H:Hp} {s:au} {a:ak} {y v:V} {u r:am} {o:av V} {A:cj} {E:am->au->Prop}
theorem Inv.big(I:Inv X Ψ σ H s):gf<s.heap.objs.size:=by
 have h:bu<s.heap.objs.size:=(I.mod.glob.keeps I.bk).lt;exact Nat.lt_trans 0x4 h
theorem ZR(hu:A.units+1<dL)(I:Inv X Ψ σ H s)(g:ZQ H a y (ae v))(ry:RelV y u)(h:∀w' s',Inv X Ψ σ H s'->RelV v w'->Q w' s') :
  ϑ (ax X.prog X.w) A (jk (.ref a) u) Q E s:=by
 rcases g with ⟨kvs,k,e,ey,l⟩|⟨kvs,k,b,e,ey,eb,l⟩
 .subst ey;obtain⟨z,hd,vs,rel,dd⟩:=ZM I.hok e;obtain⟨w',hw,rw'⟩:=aCq.some_of (by rw[l];exact rel.val k);exact wpAny_getItem_of (LK ry) dd.mapOf hw (h w' _ (I.tok _) rw')
 .subst ey;cases (show u=c5 b from ry);obtain⟨z,hd,xs,rel,dd⟩:=ZP I.hok e;obtain⟨w',hw,rw'⟩:=aCq.some_of (by rw[l];exact rel.val k);obtain⟨p,hp,hp2⟩:=l9.mp hw;refine wpAny_getItem_heap (oq hu) (LR I.hok eb) dd hp ?_;rw[hp2];exact h w' _ (I.tok _) rw'
theorem aS1(hu:A.units+1<dL)(I:Inv X Ψ σ H s)(g:ZQ H a y o)(ry:RelV y u)(h:∀s',Inv X Ψ σ H s'->Q (.bool o.isSome) s') :
  ϑ (ax X.prog X.w) A (eu .In u (.ref a)) Q E s:=by
 rcases g with ⟨kvs,k,e,ey,l⟩|⟨kvs,k,b,e,ey,eb,l⟩
 .subst ey;obtain⟨z,hd,vs,rel,dd⟩:=ZM I.hok e;refine wpAny_in_of (LK ry) hd dd.mapOf ?_;rw[<-(rel.val k).oJ,<-l];exact h _ (I.tok _)
 .subst ey;cases (show u=c5 b from ry);obtain⟨z,hd,xs,rel,dd⟩:=ZP I.hok e;refine wpAny_in_heap (oq hu) (LR I.hok eb) hd dd ?_;have q:=(rel.val k).oJ;rw[vp] at q;rw[<-q,<-l];exact h _ (I.tok _)
theorem aHc(hu:A.units+1<dL)(I:Inv X Ψ σ H s)(g:ZQ H a y o)(ry:RelV y u)(h:∀s',Inv X Ψ σ H s'->Q (.bool (!o.isSome)) s') :
  ϑ (ax X.prog X.w) A (eu .NotIn u (.ref a)) Q E s:=by
 rcases g with ⟨kvs,k,e,ey,l⟩|⟨kvs,k,b,e,ey,eb,l⟩
 .subst ey;obtain⟨z,hd,vs,rel,dd⟩:=ZM I.hok e;refine wpAny_notIn_of (LK ry) hd dd.mapOf ?_;rw[<-(rel.val k).oJ,<-l];exact h _ (I.tok _)
 .subst ey;cases (show u=c5 b from ry);obtain⟨z,hd,xs,rel,dd⟩:=ZP I.hok e;refine wpAny_notIn_heap (oq hu) (LR I.hok eb) hd dd ?_;have q:=(rel.val k).oJ;rw[vp] at q;rw[<-q,<-l];exact h _ (I.tok _)
theorem Q_(I:Inv X Ψ σ H s)(mu:Mut (H a))(hs:fj a s.heap h')(he:∃q,h'.get? a=ae q)(new:jN X.prog X.w (upd H a ob) h' a ob) :
  Inv X Ψ σ (upd H a ob) {s with heap:=h',toks:=t'}:=
 I.write mu (.inl rfl) (λb q hb z=>(hs.2 b hb).trans z) he new
theorem T4(z:kvs.length<=aI)(hd:(a==gf)=ah)(rel:KV kvs vs)(dd:h'.DictOf (fK P w) a vs) :
  jN P w H' h' a (.dK kvs):=⟨z,hd,vs,rel,dd⟩
theorem L_(hu:A.units+1<dL)(I:Inv X Ψ σ H s)(g:aFo H a y v H')(ry:RelV y u)(rv:RelV v r)(h:∀s',Inv X Ψ σ H' s'->Q () s') :
  ϑ (ax X.prog X.w) A (setItem (.ref a) u r) Q E s:=by
 rcases g with ⟨kvs,k,e,ey,l,eH⟩|⟨kvs,k,b,e,ey,eb,l,eH⟩
 .subst ey eH;obtain⟨z,hd,vs,rel,dd⟩:=W4 I.hok e;have hz:vs.length<=aI:=by rw[<-rel.length];exact z
  have hl:(putK kvs k v).length<=aI:=by have:=uF kvs k v;lia
  refine wpAny_setItem_pairs (LK ry) dd λh' dd' hs=>h _ ?_
  have he:∃q,h'.get? a=ae q:=let ⟨q,_,_,hq,_⟩:=dd';⟨q,hq⟩
  exact Q_ I (by rw[e];exact True.intro) hs he (T4 hl hd (rel.put k rv) dd')
 .subst ey eH;cases (show u=c5 b from ry);obtain⟨z,hd,xs,rel,dd⟩:=aHb I.hok e;have hz:xs.length<=aI:=by rw[<-ll rel];exact z
  have hl:(putK kvs k v).length<=aI:=by have:=uF kvs k v;lia
  refine wpAny_setItem_heap (oq hu) (LR I.hok eb) dd λh' dd' hs=>h _ ?_
  obtain⟨q,es,ep,hq,h2,h3,h4,_,h5⟩:=dd';refine Q_ I (by rw[e];exact True.intro) hs ⟨q,hq⟩ ⟨hl,hd,_,(rel.put k eb rv).keeps λc ys ec=>?_,q,es,ep,hq,h2,h3,h4,h5⟩;rw[bY (aGt ec e (λz=>nomatch z))];exact ec
end
theorem RB(I:Inv X Ψ σ H s)(g:ZQ H a y o):s.TypeIs (.ref a) "dict":=by
 rcases g with ⟨kvs,k,e,_,_⟩|⟨kvs,k,b,e,_,_,_⟩
 .obtain⟨_,_,vs,_,dd⟩:=ZM I.hok e;exact dd.typeIs
 .obtain⟨_,_,xs,_,dd⟩:=ZP I.hok e;exact dd.typeIs
theorem T5(h:az)(hb:gf<h.objs.size):jN P w H (h.push {cls:=.type "dict",data:=.dict #[]}) h.objs.size (.dK []):=
 ⟨gw _,df.mpr (Ne.symm (c_ hb)),[],.nil,zg h⟩
def aKw:TE:=λ_ H Q=>∀p,H p=aj->Q (.ref p) (upd H p (.dK []))
section
variable {X:Cx} {pos:b6}
theorem aDa:PE X (.Dict [] [] pos) aKw:=λΨ s σ H Q I h=>
 wpAny_Dict_empty ⟨.ref s.heap.objs.size,_,I.laid (λ_ _ q=>cu _ q) (br _) (T5 s.heap I.big),rfl,h _ (I.hok.fresh (br _))⟩
end
def ZV:aa (TE×TE)->St->Hp->(aa (V×V)->Hp->Prop)->Prop
 |[],_,H,Q=>Q [] H
 | (tk,tv)::r,σ,H,Q=>tk σ H λx H1=>tv σ H1 λy H2=>ZV r σ H2 λps H3=>Q ((x,y)::ps) H3
abbrev VV:aa (V×V)->aa (am×am)->Prop:=jg λp q=>RelV p.1 q.1/\RelV p.2 q.2
def PPs(X:Cx)(pos:b6)(keys:aa (av Expr))(values:aa Expr)(trs:aa (TE×TE)):Prop:=
 ∀(Ψ:aa (ak×bd))(s:au)(σ:St)(H:Hp)(Q:aa (V×V)->Hp->Prop),Inv X Ψ σ H s->ZV trs σ H Q->
  ϑ (ax X.prog X.w) X.A (evalPairs (pairTrees keys values X.env pos)) (λvs s'=>∃ps H',Inv X Ψ σ H' s'/\VV ps vs/\Q ps H') X.xe s
theorem aHd:PPs X pos [] [] []:=λΨ s σ H Q I h=>pairTrees_nil_walk ⟨[],H,I,.nil,h⟩
theorem T6(hk:PE X k tk)(hv:PE X v tv)(hr:PPs X pos ks vs trs) :
  PPs X pos (ae k::ks) (v::vs) ((tk,tv)::trs):=λΨ s σ H Q I h=>
 pairTrees_cons_walk (thn (hk Ψ s σ H _ I h) λu s1 ⟨x,H1,I1,rx,q1⟩=>thn (hv Ψ s1 σ H1 _ I1 q1) λw2 s2 ⟨y,H2,I2,ry,q2⟩=>
  thn (hr Ψ s2 σ H2 _ I2 q2) λws s3 ⟨ps,H3,I3,rel,q3⟩=>⟨(x,y)::ps,H3,I3,.cons ⟨rx,ry⟩ rel,q3⟩)
def lA(kvs more:aa (Key×V)):aa (Key×V):=more.foldl (λacc kv=>putK acc kv.1 kv.2) kvs
theorem KV.merge:∀{more:aa (Key×V)}{rs:aa (Key×am)}{kvs:aa (Key×V)}{vs:aa (Key×am)},KV more rs->KV kvs vs->KV (lA kvs more) (ou vs rs):=by
 intro more rs kvs vs r;unfold KV at r;induction r generalizing kvs vs with
 |nil=>intro q;exact q
 |@cons p q ps qs h t ih=>
  intro r0;have e:KV (putK kvs p.1 p.2) (kx vs q.1 q.2):=by
   have:=r0.put p.1 h.2;rw[<-h.1];exact this
  exact ih e
theorem nG:∀(more kvs:aa (Key×V)),(lA kvs more).length<=kvs.length+more.length
 |[],kvs=>by show kvs.length<=kvs.length+0;lia
 |p::r,kvs=>by
  have h1:=nG r (putK kvs p.1 p.2);have h2:=uF kvs p.1 p.2;show(lA (putK kvs p.1 p.2) r).length<=_;rw[cz];lia
theorem FJ:∀{kvs:aa (Key×V)}{ws:aa (am×am)},VV (kvs.map λkv=>(kV kv.1,kv.2)) ws->∃rs,Carries (fK P w) ws rs/\KV kvs rs
 |[],_,r=>by rw[gv] at r;cases r;exact⟨[],True.intro,.nil⟩
 |p::kvs,_,r=>by
  rw[bc] at r;cases r with
  |@cons a b as bs h t=>
   obtain⟨rs,c,q⟩:=FJ t;obtain⟨b1,b2⟩:=b;exact⟨(p.1,b2)::rs,⟨LK h.1,rfl,c⟩,.cons ⟨rfl,h.2⟩ q⟩
def aP5(trs:aa (TE×TE)):TE:=λσ H Q=>∀p,H p=aj->ZV trs σ (upd H p (.dK [])) λps H2=>H2 p=ae (.dK [])/\∃kvs:aa (Key×V),ps=kvs.map (λkv=>(kV kv.1,kv.2))/\kvs.length<=15/\Q (.ref p) (upd H2 p (.dK (lA [] kvs)))
theorem aHe(h:PPs X pos keys values trs)(hall:keys.all (·.isSome)=ag)(hl:keys.length=values.length)(h0:keys≠[])
 (h15:keys.length<=15):PE X (.Dict keys values pos) (aP5 trs):=by
 intro Ψ s σ H Q I q;have hn:=I.hok.fresh (br s.heap.objs.size);have I1:=I.laid (t':=s.toks) (λ_ _ q=>cu _ q) (br _) (T5 s.heap I.big);refine wpAny_Dict_walk (knd:=fK X.prog X.w) hall hl h0 h15 (thn (h Ψ _ σ _ _ I1 (q _ hn)) λws s2 ⟨ps,H2,I2,rel,e,kvs,ep,lk,q2⟩=>?_);subst ep;obtain⟨rs,c,rk⟩:=FJ (P:=X.prog) (w:=X.w) rel;obtain⟨z,hd,vs0,r0,dd⟩:=W4 I2.hok e;cases r0;refine⟨rs,c,dd,λh' dd' hs=>⟨.ref s.heap.objs.size,_,?_,rfl,q2⟩⟩;have hz:(lA [] kvs).length<=aI:=by
  have h1:=nG kvs [];rw[jr] at h1;rw[d4];lia
 have he:∃q,h'.get? s.heap.objs.size=ae q:=let ⟨q,_,_,hq,_⟩:=dd';⟨q,hq⟩
 exact Q_ I2 (by rw[e];exact True.intro) hs he (T4 hz hd (rk.merge .nil) dd')
end L2
namespace Att
open PySem PySem.W PySem.Calls PyProof.Rows
theorem yQ:∀(ns:aa ai)(vs:aa am),WellAll P h vs (ns.map zh)->ma vs ns:=by
 intro ns;induction ns with
 |nil=>
  intro vs w;rw[gv] at w;cases w;exact .nil
 |cons n ns ih=>
  intro vs w;rw[bc] at w;cases w with
  |cons a b=>
   cases a;exact .cons _ _ (ih _ b)
theorem ZW{l:OpenLaw}(hn:l.most=ae n)
 (hpre:l.row.toRowW.claim.pre args=ag)(hwl:WellAll P h vals args) :
  ∃a vs ns,vals=[c5 a]/\args=[WData.list (ns.map zh)]/\h.get? a=ae {cls:=.type "list",data:=.seq vs.toArray}/\ma vs ns/\ns.length<=n:=by
 have hsh:WShape.hasAll [] args [.list .int]=ag:=(pre_splitW hpre).1;have hc:l.pre.holds [] {args:=args}=ag:=(pre_splitW hpre).2;obtain⟨d,r,rfl,h1,h2⟩:=hasAllW_cons hsh;obtain rfl:=hasAllW_nil h2;obtain⟨xs,rfl,h3⟩:=hasW_list h1;obtain⟨ns,rfl⟩:=items_int h3;have hlen:ns.length<=n:=by
  unfold OpenLaw.pre at hc;have h4:(WTm.not (.lt (.lit (.int (n:ai))) (.len (.arg 0)))).holds [] {args:=[.list (ns.map .int)]}=ag:=by
   have h4:=(holds_andW hc).1;rw[hn] at h4;exact h4
  have h5:=condW_of h4 (w_not (w_lt w_lit (w_len_list (w_arg rfl))));rw[aE] at h5;refine Nat.le_of_not_lt λq=>?_
  have q':(n:ai)<((ns.length:af):ai):=by lia
  first
   | (rw[bg q'] at h5;exact aT h5 0x4)
   | (simp at h5;lia)
 cases hwl with
 |cons w1 w2=>
  cases w2;cases w1 with
  |list ho hall=>exact⟨_,_,ns,rfl,rfl,ho,yQ ns _ hall,hlen⟩
theorem ZX(l:OpenLaw)(args:aa WData):l.row.toRowW.claim.post args (.bool ag) args=ag:=
 postW_of
  (show zi [] (.bool ag) .bool=ag by first|rfl|decide|simp[zi,WShape.arms,WShape.armsAll])
  (show(WTm.eq .res (.lit (.bool ag))).value [] {args:=args,res:=ae (.bool ag),after:=args}=ae (.bool (ag==ag)) from w_eq_bool (w_res rfl) w_lit) rfl
theorem RC{l:OpenLaw}
 (hn:l.most=ae n)(hdf:d.params.defaults=[])
 (call:∀(w:bj) (s₀ s₁:au) (mg mb:Str->av am) (fa:ak) (o:bd) (pm cd doc:am) (a:ak) (vs:aa am) (ns:aa ai),
   Ground q loose [] XP w s₀ mg mb s₁.heap->YP w s₁.heap->
   s₁.heap.get? fa=ae o->o.data=.func (docDef d.name d.params d.body d.scope pm cd doc)->s₁.heap.CodeRec cd d.name->mg d.name=ae (.ref fa)->
   s₁.heap.get? a=ae {cls:=.type "list",data:=.seq vs.toArray}->ma vs ns->ns.length<=n->s₁.gens=#[]->
   codeAny (ax l.prog w) js (.call (.ref fa) ⟨[.ref a],[]⟩) (λr s'=>r=.ok (.ret (.bool ag))/\OldK s₁.heap s'.heap/\s'.os=s₁.os/\gV s'.gens) s₁) :
  WalkO q loose XP YP l.row.toRowW d [] (λf vs=>vq f vs):=by
 intro w s₀ s₁ mg mb G Y fa o pm cd doc dV kV ho hd hcd hD hmg hg args vals as hpre hlay hrd hwl hlo;obtain rfl:dV=.none:=Dflts.none hD hdf;obtain rfl:kV=.none:=Dflts.noKw hD;obtain⟨a,vs,ns,rfl,rfl,hobj,hints,hlen⟩:=ZW hn hpre hwl;refine enter_call (kf (call w s₀ s₁ mg mb fa o pm cd doc a vs ns G Y ho (fd_plain hd) hcd hmg hobj hints hlen hg) λr s' hq=>?_);obtain⟨rfl,h2,h3,h4⟩:=hq;exact⟨.inl ⟨.bool ag,.bool ag,[],rfl,λ_=>rfl,.bool ag,ZX l _,λ_=>⟨BG,λ_ hm=>(nomatch hm)⟩⟩,h2,h3,h4⟩
end Att
namespace L2
open PySem PySem.Spec PyProof.Rows
theorem MF:∀{vs:aa am}{ns:aa ai},ma vs ns->Vals (ns.map V.int) vs
 |_,_,.nil=>.nil
 |_,_,.cons n t h=>.cons ⟨t,rfl⟩ (MF h)
def Only(H:Hp):Prop:=∀b,H b=aj\/∃o xs,H b=ae (.frz o (.lst xs))
theorem aDb{K:bn}{mg mb:Str->av am}{CX:CXT}{k:af}{fa a:ak}{fd:c6}{x:Str}{sp:Sp}{s₁:au}{vs:aa am}{ns:aa ai}
 (KX:K.In s₁.heap)(hns:s₁.heap.Ns bu mg)(hb:s₁.heap.Ns ue mb)(hbb:∀x:Str,x ≠ "__name__"->mb x=ei x)(hlim:s₁.heap.NoLimit)(hg:s₁.gens=#[])
 (ha:s₁.heap.get? a=ae {cls:=.type "list",data:=.seq vs.toArray})(hi:ma vs ns)(hl:ns.length<=aI)(hr:lR k js)
 (F:∀base:az,K.In base->base.Ns bu mg->uO P w K mg base CX k fa fd [x] sp)(hbind:∀(s:au) (u:am),ke s fd ⟨[u],[]⟩ [(x,u)])
 (hsp:∀H:Hp,Only H->SqL K H a (ns.map V.int)->sp [.ref a] H (λv _=>v=.bl ag) λ_ _ _=>cK)
 (hCX:∀H e s',CX [] H s₁ (λ_ _ _=>cK) e s'->cK) :
  codeAny (ax P w) js (.call (.ref fa) ⟨[.ref a],[]⟩) (λr s'=>r=.ok (.ret (.bool ag))/\OldK s₁.heap s'.heap/\s'.os=s₁.os/\gV s'.gens) s₁:=by
 have rv:=MF hi;have lenV:=hi.length
 -- from an abstract heap in which nothing but the script may be tracked
 have core:∀H:Hp,Only H->SqL K H a (ns.map V.int)->HOk P w H s₁.heap->(∀b,H b≠aj->b=a)->(H a≠aj->K.lookup a=aj)->
   codeAny (ax P w) js (.call (.ref fa) ⟨[.ref a],[]⟩) (λr s'=>r=.ok (.ret (.bool ag))/\OldK s₁.heap s'.heap/\s'.os=s₁.os/\gV s'.gens) s₁:=by
  intro H hO hS hok hA hK;have base_of:∀{b:ak}{o:bd},s₁.heap.get? b=ae o->H b=aj->(aCx s₁.heap H).get? b=ae o:=λe n=>aCy e n
  have noA:∀{b:ak}{o:bd}{es:bw DictEntry}{ep:af},s₁.heap.get? b=ae o->o.data=.dict es ep->H b=aj:=λ{b o es ep} e d=>by
   cases q:H b with
   |none=>rfl
   |some u=>
    have e':b=a:=hA b (by rw[q];simp);subst e';rw[ha] at e;cases e;have d':xC vs.toArray _=Data.dict es ep:=d;cases d'
  have nsK:∀{b:ak}{m:Str->av am},s₁.heap.Ns b m->(aCx s₁.heap H).Ns b m:=λ{b m} ⟨o,es,ep,e,d,r⟩=>⟨o,es,ep,base_of e (noA e d),d,r⟩
  have hKb:K.In (aCx s₁.heap H):=λb o e=>base_of (KX b o e) (by
   cases q:H b with
   |none=>rfl
   |some u=>
    have e':b=a:=hA b (by rw[q];simp);subst e';rw[hK (by rw[q];simp)] at e;cases e)
  have hM:Mod K mg (aCx s₁.heap H):=⟨hKb,nsK hns,⟨mb,nsK hb,hbb⟩,let ⟨mc,h1,h2⟩:=hlim;⟨mc,nsK h1,h2⟩⟩
  have e0:aH2 P w K mg (aCx s₁.heap H) js [] s₁ H:=⟨rfl,hM,λb o e=>aGu e,zj (YZ _ _),trivial,λb hb=>aT (show b∈([]:aa ak) from hb) 0x2,hok,.of_eq hg⟩
  refine kf ((F _ hKb (nsK hns)).run js [] s₁ H ⟨[.ref a],[]⟩ [.ref a] [.ref a] _ _ hr e0 (hbind s₁ (.ref a)) (.cons rfl .nil) (hsp H hO hS)) λr s' h=>?_
  cases r with
  |error e=>exact(hCX H e s' h).elim
  |ok fl=>
   cases fl with
   |next=>exact dE h
   |brk=>exact dE h
   |cont=>exact dE h
   |ret u=>
    obtain⟨v,H',os,bare,un,hok',r',q⟩:=h;have q':v=.bl ag:=q;subst q';obtain rfl:u=xB ag:=r';refine⟨rfl,OldK.of_keep λb o e=>?_,os,bare⟩;cases q:H b with
    |none=>exact un.keep b o e q (by intro z;exact aT (show b∈([]:aa ak) from z) 0x2) 0x2
    |some u=>
     rcases hO b with z|⟨ob,xs,z⟩
     .rw[q] at z;cases z
     .have z2:=un.frzs b ob _ z;obtain⟨e1,_⟩:=hok b _ z;obtain⟨e2,_⟩:=hok' b _ z2;rw[e] at e1;cases e1;exact e2
 cases hk:K.lookup a with
 |some o=>
  -- the script is one of the module's own objects
  have e:=KX a o hk;rw[ha] at e;cases e;refine core (λ_=>aj) (λ_=>.inl rfl) (.inr ⟨_,vs.toArray,_,hk,rfl,rfl,rfl,by rw[cy,lenV];exact hl,by simpa using rv⟩) (λb u z=>by have z':(aj:av HO)=ae u:=z;cases z') (λb z=>aT rfl z) λz=>aT rfl z
 |none=>
  refine core (λb=>if b=a then ae (.frz {cls:=.type "list",data:=.seq vs.toArray} (.lst (ns.map V.int))) else aj) (λb=>?_) (.inl (.inr ⟨{cls:=.type "list",data:=.seq vs.toArray},ar rfl⟩)) (λb u z=>?_) (λb z=>?_) λ_=>hk
  .by_cases hb:b=a
   .exact .inr ⟨_,_,ar hb⟩
   .exact .inl (aw hb)
  .by_cases hb:b=a
   .have z':=(ar hb).symm.trans z;cases z';subst hb;exact⟨ha,by rw[aE];exact hl,vs,_,rv,ha⟩
   .have z':=(aw hb).symm.trans z;cases z'
  .by_cases hb:b=a
   .exact hb
   .exact aT (aw hb) z
theorem aHf{l:PySem.W.OpenLaw}{YP:bj->az->Prop}{d:DefRec}{K:Params->bn}{CX:bj->CXT}{sp:bj->Sp}{x:Str}
 (hn:l.most=ae n)(hn2:n<=aI)(hdf:d.params.defaults=[])(hr:lR k js)
 (hY:∀(w:bj) (h:az),YP w h->(K w.params).In h)
 (F:∀(w:bj) (mg:Str->av am) (fa:ak) (h:az),(K w.params).In h->h.Ns bu mg->mg d.name=ae (.ref fa)->
   ∃fd:c6,(∀(s:au) (u:am),ke s fd ⟨[u],[]⟩ [(x,u)])/\
    ∀base:az,(K w.params).In base->base.Ns bu mg->uO l.prog w (K w.params) mg base (CX w) k fa fd [x] (sp w))
 (hsp:∀(w:bj) (H:Hp) (a:ak) (ns:aa ai),ns.length<=n->Only H->SqL (K w.params) H a (ns.map V.int)->sp w [.ref a] H (λv _=>v=.bl ag) λ_ _ _=>cK)
 (hCX:∀(w:bj) (H:Hp) (s:au) (e:am) (s':au),CX w [] H s (λ_ _ _=>cK) e s'->cK) :
  PySem.W.WalkO q loose XP YP l.row.toRowW d [] (λf vs=>vq f vs):=by
 refine Att.RC hn hdf λw s₀ s₁ mg mb fa o pm cd doc a vs ns G Y ho hd hcd hmg hobj hints hlen hg=>?_
 have KX:=hY w _ Y;obtain⟨fd,hb,hF⟩:=F w mg fa _ KX G.T.g hmg;exact aDb KX G.T.g G.T.b G.T.builtins G.T.nolimit hg hobj hints (dh hlen hn2) hr hF hb (λH hO hS=>hsp w H a ns hlen hO hS) λH e s'=>hCX w H s₁ e s'
noncomputable def oK(s:bi):Arguments:=match s with
 |.FunctionDef _ a _ _ _ _ _ _ _ _=>a
 |_=>{posonlyargs:=[],args:=[],vararg:=aj,kwonlyargs:=[],kw_defaults:=[],kwarg:=aj,defaults:=[]}
noncomputable def fW(s:bi):aa bi:=match s with
 |.FunctionDef _ _ b _ _ _ _ _ _ _=>b
 |_=>[]
noncomputable def aL(s:bi):el:=match s with
 |.FunctionDef _ _ _ _ _ _ sc _ _ _=>sc
 |_=>{kind:=.function,names:=[],isGenerator:=ah,isCoroutine:=ah}
noncomputable abbrev CX0:CXT:=λ_ _ _ _ _ _=>cK
noncomputable abbrev E0:XK:=λ_ _ _=>cK
theorem aHg:TY CX0 X E0:=λ_ _ _ _ _ _ _ h=>h.elim
structure Fun(K:bn)(x qual:Str)(st:bi)(f:ak)(fd:c6):Prop where
 ex:∃(oc:am)(od:av ak)(kV doc pm:am)(an:av ak)(cdv ct:am)(osl:bw (av am)),
  fd=kj x qual (oK st) (fW st) (aL st) .none kV doc pm an cdv ct/\K.lookup f=ae ⟨oc,od,.func fd,osl⟩/\uw K cdv qual=ag
 kp:iq K (.ref f)=ag
section
variable {P:bp} {w:bj} {K:bn} {mg:Str->av am} {base:az}
theorem Fun.ok{st:bi}{fd:c6}{N ps:aa Str}{k:af}{sp:Sp}(F:Fun K x qual st f fd)(S:cA N ps (aL st))(len:∀vs H Q E,sp vs H Q E->vs.length=ps.length)
 (hbody:∀(cdv:am) (A:cj) (outer:aa cx) (s:au) (H:Hp) (vs:aa V) (Q:VK) (E:XK),lR k (A.deeper (bS qual (aL st) s.heap.objs.size f cdv))->sp vs H Q E->
   ∃t,PSs (nA CX0 P w K mg base N qual (aL st) f cdv A outer s H E).nox (fW st) t/\t {nx:=λ_ H'=>Q .non H',rt:=Q} (start N vs) H):uO P w K mg base CX0 (k+1) f fd ps sp:=by
 obtain⟨oc,od,kV,doc,pm,an,cdv,ct,osl,rfl,lk,hcd⟩:=F.ex;refine aH3 lk hcd S len λA outer s H vs Q E hr hsp=>?_
 obtain⟨t,h,q⟩:=hbody cdv A outer s H vs Q E hr hsp;exact⟨t,h.nox,q⟩
theorem Fun.binds{st:bi}(F:Fun K x qual st f fd)
 (h:∀(kV doc pm:am) (an:av ak) (cdv ct:am) (us:aa am),us.length=ps.length->bindArgs (kj x qual (oK st) (fW st) (aL st) .none kV doc pm an cdv ct) ⟨us,[]⟩=pure (ps.zip us)):Binds K fd ps []:=by
 obtain⟨oc,od,kV,doc,pm,an,cdv,ct,osl,rfl,lk,hcd⟩:=F.ex;exact .all (h kV doc pm an cdv ct)
theorem ZZ{st:bi}{oc:am}{od an:av ak}{osl:bw (av am)}{kV doc pm cdv ct:am}(l:K.lookup f=ae ⟨oc,od,.func (kj x qual (oK st) (fW st) (aL st) .none kV doc pm an cdv ct),osl⟩)
 (c:uw K cdv qual=ag)(k:iq K (.ref f)=ag):Fun K x qual st f (kj x qual (oK st) (fW st) (aL st) .none kV doc pm an cdv ct):=⟨⟨oc,od,kV,doc,pm,an,cdv,ct,osl,rfl,l,c⟩,k⟩
end
def dH(H H':Hp):Prop:=∀b o,H b=ae o->H' b=ae o
theorem dH.refl(H:Hp):dH H H:=λ_ _ h=>h
theorem dH.trans(a:dH H H1)(b:dH H1 H2):dH H H2:=λc o h=>b c o (a c o h)
theorem dH.free(e:dH H H')(h:H' l=aj):H l=aj:=by
 cases q:H l with
 |none=>rfl
 |some o=>
  rw[e l o q] at h;cases h
section
variable {κ:Type} [fI κ]
theorem aDc{kvs:aa (κ×V)}{k:κ}(h:E_ kvs k=aj):¬k∈kvs.map (·.1):=by
 intro m;obtain⟨p,hp,e⟩:=b9.mp m;have q:(kvs.any λkv=>ϒ (kv.1=k))=ag:=List.any_eq_true.mpr ⟨p,hp,bg e⟩;rw[uT,h] at q;exact aT q 0x2
theorem Z0:∀{l:aa κ}{k:κ},l.Nodup->¬k∈l->(l++[k]).Nodup
 |[],k,_,_=>by simp
 |a::r,k,h,hk=>by
  obtain⟨h1,h2⟩:=eT.mp h;show(a::(r++[k])).Nodup;refine eT.mpr ⟨λm=>?_,Z0 h2 λm=>hk (bt.mpr (Or.inr m))⟩;rcases bo.mp m with q|q
  .exact h1 q
  .exact hk (bt.mpr (fu (fw.mp q).symm))
theorem aHh{kvs:aa (κ×V)}{k:κ}(v:V)(hn:(kvs.map (·.1)).Nodup)(h:E_ kvs k=aj):((putK kvs k v).map (·.1)).Nodup:=by
 rw[aD9 v h,bE];exact Z0 hn (aDc h)
end
end L2
namespace Mi
open PySem
inductive D where
 |uD|non|bl (b:aq)|int (i:ai)|str (x:Str)
 |tup (xs:aa D)|lst (xs:aa D)|dct (kvs:aa (D×D))|scr (xs:aa D)|cel (a:af) (xs:aa D)|exc (c:Str) (fs:aa (Str×Str))|ins (c:Str) (fs:aa (Str×D))
 deriving Inhabited
mutual
noncomputable def D.pure:D->aq
 |.tup xs=>D.aY xs
 |.lst _=>ah
 |.dct _=>ah
 |.uD=>ah
 |.scr xs=>D.aY xs
 |.cel _ _=>ah
 |.exc _ _=>ah
 |.ins _ _=>ah
 |_=>ag
noncomputable def D.aY:aa D->aq
 |[]=>ag
 |x::xs=>x.pure&&D.aY xs
end
mutual
noncomputable def eqD:D->D->aq
 |.non,.non=>ag
 |.bl a,.bl b=>a==b
 |.int a,.int b=>a==b
 |.bl a,.int b=>(if a then (1:ai) else 0)==b
 |.int a,.bl b=>a==(if b then (1:ai) else 0)
 |.str a,.str b=>a==b
 |.tup xs,.tup ys=>xM xs ys
 |.lst xs,.lst ys=>xM xs ys
 |_,_=>ah
noncomputable def xM:aa D->aa D->aq
 |[],[]=>ag
 |x::xs,y::ys=>eqD x y&&xM xs ys
 |_,_=>ah
end
theorem aKx(a b:ai):eqD (.int a) (.int b)=(a==b):=id rfl
theorem aKy(a b:Str):eqD (.str a) (.str b)=(a==b):=id rfl
theorem aKz(a:ai)(b:Str):eqD (.int a) (.str b)=ah:=id rfl
theorem aL0(a:Str)(b:ai):eqD (.str a) (.int b)=ah:=id rfl
theorem aL1(a b:aa D):eqD (.tup a) (.tup b)=xM a b:=id rfl
mutual
noncomputable def D.jF:af->D->aq
 |n+1,.tup xs=>D.dR n xs
 |n+1,.lst xs=>D.dR n xs
 |0,.tup _=>ah
 |0,.lst _=>ah
 |_,.dct _=>ah
 |_,.uD=>ah
 |_,.scr _=>ah
 |_,.cel _ _=>ah
 |_,.exc _ _=>ah
 |_,.ins _ _=>ah
 |_,_=>ag
noncomputable def D.dR:af->aa D->aq
 |_,[]=>ag
 |n,x::xs=>D.jF n x&&D.dR n xs
end
inductive Z1 where|lt|le|gt|ge
 deriving fI
noncomputable def Z1.int:Z1->ai->ai->aq
 |.lt,a,b=>ϒ (a<b)|.le,a,b=>ϒ (a<=b)|.gt,a,b=>ϒ (b<a)|.ge,a,b=>ϒ (b<=a)
noncomputable def Z1.nat:Z1->af->af->aq
 |.lt,a,b=>ϒ (a<b)|.le,a,b=>ϒ (a<=b)|.gt,a,b=>ϒ (b<a)|.ge,a,b=>ϒ (b<=a)
noncomputable def aDd(a b:Str):aq:=ϒ (a.cps.toList<b.cps.toList)
def Z1.str:Z1->Str->Str->aq
 |.lt,a,b=>aDd a b|.le,a,b=>!aDd b a|.gt,a,b=>aDd b a|.ge,a,b=>!aDd a b
mutual
noncomputable def aQg(o:Z1):D->D->av aq
 |.int a,.int b=>ae (o.int a b)
 |.str a,.str b=>ae (o.str a b)
 |.tup xs,.tup ys=>aL2 o xs ys
 |_,_=>aj
noncomputable def aL2(o:Z1):aa D->aa D->av aq
 |[],ys=>ae (o.nat 0 ys.length)
 |x::xs,[]=>ae (o.nat (x::xs).length 0)
 |x::xs,y::ys=>if eqD x y then aL2 o xs ys else aQg o x y
end
inductive Res(α:Type) where
 |ok (a:α)|err (c:Str) (as:aa D)|bad
noncomputable def Res.bind{α β:Type}:Res α->(α->Res β)->Res β
 |.ok a,f=>f a
 |.err c as,_=>.err c as
 |.bad,_=>.bad
noncomputable instance:Monad Res where
 pure:=.ok
 bind:=Res.bind
@[simp] theorem Res.aQ(a:α)(f:α->Res β):((Res.ok a) >>= f)=f a:=rfl
@[simp] theorem Res.aOc(c:Str)(as:aa D)(f:α->Res β):((Res.err c as:Res α) >>= f)=.err c as:=rfl
@[simp] theorem Res.aOd(f:α->Res β):((Res.bad:Res α) >>= f)=.bad:=rfl
@[simp] theorem Res.pure_eq(a:α):(pure a:Res α)=.ok a:=rfl
theorem Res.aHi{f:α->Res β}(h:(m >>= f)=.ok b):∃a,m=.ok a/\f a=.ok b:=by
 cases m with
 |ok a=>exact⟨a,rfl,h⟩
 |err c as=>cases h
 |bad=>cases h
theorem bx{P:Prop}(h:(Res.bad:Res α)=.ok d):P:=by cases h
theorem fx0{P:Prop}(h:ah=ag):P:=by cases h
noncomputable def Res.ofOpt{α:Type}:av α->Res α
 |some a=>.ok a
 |none=>.bad
@[simp] theorem Res.aJy(a:α):Res.ofOpt (ae a)=.ok a:=rfl
theorem Res.nH(h:Res.ofOpt o=.ok a):o=ae a:=by
 cases o with
 |none=>cases h
 |some b=>cases h;rfl
noncomputable def lim:af:=1000000
inductive Bop where|add|sub|mul|fdiv|mod|pow
 deriving fI
inductive Cop where|eq|ne|ord (o:Z1)|isin|notin|isN|notN
 deriving fI
noncomputable def kE(i:ai):aq:=ϒ (-(2 ^ 64)<i)&&ϒ (i<2 ^ 64)
def aW:Bop->D->D->Res D
 |.add,.int a,.int b=>.ok (.int (a+b))
 |.sub,.int a,.int b=>.ok (.int (a-b))
 |.mul,.int a,.int b=>if kE a||kE b then .ok (.int (a*b)) else .bad
 |.fdiv,.int a,.int b=>if ϒ (0<b)&&ϒ (b<1073741824) then .ok (.int (a / b)) else .bad
 |.mod,.int a,.int b=>if ϒ (0<b) then .ok (.int (a % b)) else .bad
 |.pow,.int a,.int b=>if ϒ (0<=b)&&ϒ (b<=1000000)&&ϒ (a.natAbs<2 ^ 64) then .ok (.int (a ^ b.toNat)) else .bad
 |.add,.str a,.str b=>if ϒ (a.length+b.length<=lim) then .ok (.str (a++b)) else .bad
 |.add,.lst a,.lst b=>if ϒ (a.length+b.length<=lim)&&D.aY a&&D.aY b then .ok (.lst (a++b)) else .bad
 |_,_,_=>.bad
def aQh:D->Res aq
 |.non=>.ok ah
 |.bl b=>.ok b
 |.int i=>.ok (i !=0)
 |.str x=>if ϒ (x.length<=lim) then .ok ((x.length:ai)!=0) else .bad
 |.tup xs=>.ok (!xs.isEmpty)
 |.lst xs=>.ok (!xs.isEmpty)
 |.dct kvs=>.ok (!kvs.isEmpty)
 |.uD=>.bad
 |.cel _ _=>.bad
 |.exc _ _=>.bad
 |.ins _ _=>.bad
 |.scr xs=>.ok (!xs.isEmpty)
noncomputable def oM:D->aq
 |.int _=>ag
 |.str _=>ag
 |_=>ah
def keyOk:D->aq
 |.int _=>ag
 |.str _=>ag
 |.tup xs=>xs.all oM
 |_=>ah
noncomputable def isTup:D->aq
 |.tup _=>ag
 |_=>ah
def dB:aa (D×D)->D->av D
 |[],_=>aj
 | (k,v)::r,q=>if eqD k q then ae v else dB r q
def putD:aa (D×D)->D->D->aa (D×D)
 |[],q,w=>[(q,w)]
 | (k,v)::r,q,w=>if eqD k q then (k,w)::r else (k,v)::putD r q w
def wU(kvs:aa (D×D))(k:D):aq:=keyOk k&&kvs.all (λp=>isTup p.1==isTup k)
noncomputable def bI:af:=12
def cX:Cop->D->D->Res D
 |.eq,a,b=>if a.jF bI&&b.jF bI then .ok (.bl (eqD a b)) else .bad
 |.ne,a,b=>if a.jF bI&&b.jF bI then .ok (.bl (!eqD a b)) else .bad
 |.ord o,a,b=>if a.jF bI&&b.jF bI then (match aQg o a b with|some k=>.ok (.bl k)|none=>.bad) else .bad
 |.isin,a,.tup ys=>if a.jF bI&&D.dR bI ys then .ok (.bl (ys.any λy=>eqD y a)) else .bad
 |.isin,a,.lst ys=>if a.jF bI&&D.dR bI ys then .ok (.bl (ys.any λy=>eqD y a)) else .bad
 |.isin,a,.dct kvs=>if wU kvs a then .ok (.bl (dB kvs a).isSome) else .bad
 |.notin,a,.tup ys=>if a.jF bI&&D.dR bI ys then .ok (.bl (!(ys.any λy=>eqD y a))) else .bad
 |.notin,a,.lst ys=>if a.jF bI&&D.dR bI ys then .ok (.bl (!(ys.any λy=>eqD y a))) else .bad
 |.notin,a,.dct kvs=>if wU kvs a then .ok (.bl (!(dB kvs a).isSome)) else .bad
 |.isN,.scr _,.non=>.bad
 |.notN,.scr _,.non=>.bad
 |.isN,.cel _ _,.non=>.bad
 |.notN,.cel _ _,.non=>.bad
 |.isN,.non,.non=>.ok (.bl ag)
 |.isN,a,.non=>.ok (.bl ah)
 |.notN,.non,.non=>.ok (.bl ah)
 |.notN,a,.non=>.ok (.bl ag)
 |_,_,_=>.bad
noncomputable def ixD(n:af)(i:ai):av af:=if 0<=i then (if i<n then ae i.toNat else aj) else if -(n:ai)<=i then ae (i+n).toNat else aj
def getD(d i:D):Res D:=
 match d,i with
 |.tup xs,.int i=>Res.ofOpt ((ixD xs.length i).bind λj=>xs[j]?)
 |.lst xs,.int i=>Res.ofOpt ((ixD xs.length i).bind λj=>xs[j]?)
 |.scr xs,.int i=>Res.ofOpt ((ixD xs.length i).bind λj=>xs[j]?)
 |.cel _ xs,.int i=>Res.ofOpt ((ixD xs.length i).bind λj=>xs[j]?)
 |.str x,.int i=>if ϒ (x.length<=lim) then Res.ofOpt (((ixD x.cps.toList.length i).bind λj=>x.cps.toList[j]?).map λc=>D.str ⟨#[c]⟩) else .bad
 |.dct kvs,k=>if keyOk k then Res.ofOpt (dB kvs k) else .bad
 |_,_=>.bad
noncomputable def vN(n d:af):av ai->af
 |none=>d
 |some v=>if v<0 then (max (v+(n:ai)) 0).toNat else (min v (n:ai)).toNat
def cutD{α:Type}(xs:aa α)(lo hi:av ai):aa α:=(xs.drop (vN xs.length 0 lo)).take (vN xs.length xs.length hi-vN xs.length 0 lo)
inductive Ty where|int|str|bool|list|tuple|dict
 deriving fI
noncomputable def aP6:Ty->D->Res aq
 |_,.uD=>.bad
 |_,.scr _=>.bad
 |_,.cel _ _=>.bad
 |_,.exc _ _=>.bad
 |_,.ins _ _=>.bad
 |.int,.int _=>.ok ag
 |.int,.bl _=>.ok ag
 |.bool,.bl _=>.ok ag
 |.str,.str _=>.ok ag
 |.tuple,.tup _=>.ok ag
 |.list,.lst _=>.ok ag
 |.dict,.dct _=>.ok ag
 |_,_=>.ok ah
noncomputable def uG(i:ai):aq:=ϒ (-(2 ^ 62)<=i)&&ϒ (i<2 ^ 62)
noncomputable def asB:D->Res aq
 |.bl b=>.ok b
 |_=>.bad
noncomputable def asI:D->Res ai
 |.int i=>.ok i
 |_=>.bad
inductive Fl where
 |nx (ρ:aa D)|rt (d:D)|bk (ρ:aa D)|ct (ρ:aa D)
noncomputable def aS2:Fl->Res D
 |.rt d=>.ok d
 |.nx _=>.ok .non
 |_=>.bad
noncomputable abbrev FE:=aa D->Res D
noncomputable abbrev FT:=aa D->Res aq
noncomputable abbrev FA:=aa D->Res (aa D)
noncomputable def cV(i:af):FE:=λρ=>match ρ.getD i .uD with|.uD=>.bad|d=>.ok d
noncomputable def bC(d:D):FE:=λ_=>.ok d
abbrev gC:FE:= cV 1
abbrev fX:FE:= cV 0
abbrev dW:FE:= cV 2
abbrev dJ:FE:= cV 10
abbrev fY:FE:= cV 3
abbrev g_:FE:= cV 4
abbrev iK:FE:= cV 11
abbrev fG:FE:= cV 7
abbrev jO:FE:= cV 8
abbrev mJ:FE:= cV 12
abbrev oF:FE:= cV 13
abbrev fP:FE:= cV 5
abbrev eF:FE:= cV 6
abbrev jG:FE:= cV 14
abbrev gD:FE:= cV 9
abbrev xN:FE:= cV 15
abbrev MJ:FE:= cV 16
abbrev W5:FE:= cV 20
abbrev W6:FE:= cV 17
abbrev eU:FE:= bC (.int 0)
abbrev cO:FE:= bC (.int 1)
abbrev nC:FE:= bC (.int 3)
abbrev fQ:FE:= bC (.int 2)
abbrev xO:FE:= bC (.int 26)
abbrev RD:FE:= bC (.int 4)
abbrev aCr:FE:= bC (.int 6)
abbrev T7:FE:= bC (.int 5)
abbrev aFp:FE:= bC (.int 9)
abbrev Z2:FE:= bC (.int 18)
abbrev aHj:FE:= bC (.int 8)
abbrev aHk:FE:= bC (.int 40)
abbrev Z3:FE:= bC (.int 300)
abbrev aHl:FE:= bC (.int 20)
abbrev Z4:FE:= bC (.int 120)
noncomputable def b2(f:D->D->Res D)(a b:FE):FE:=λρ=>do let x <- a ρ;let y <- b ρ;f x y
noncomputable def b1(f:D->Res D)(a:FE):FE:=λρ=>do let x <- a ρ;f x
def bTB(a:FE):FT:=λρ=>do let x <- a ρ;asB x
noncomputable def aL3(a:FT):FT:=λρ=>do let x <- a ρ;pure (!x)
noncomputable def KY(a b:FT):FT:=λρ=>do let x <- a ρ;if x then b ρ else pure ah
noncomputable def bOr(a b:FT):FT:=λρ=>do let x <- a ρ;if x then pure ag else b ρ
def W7(a b:FE):FE:=λρ=>do let x <- a ρ;let k <- asB x;if k then b ρ else pure (.bl ah)
noncomputable def aR:FA:=λ_=>.ok []
noncomputable def aC(a:FE)(b:FA):FA:=λρ=>do let x <- a ρ;let xs <- b ρ;pure (x::xs)
def fM(a:FA):FE:=λρ=>do let xs <- a ρ;if ϒ (xs.length<=lim) then pure (.tup xs) else .bad
def sW(a:FA):FE:=λρ=>do let xs <- a ρ;if ϒ (xs.length<=lim) then pure (.lst xs) else .bad
noncomputable def aX(f:aa D->Res D)(a:FA):FE:=λρ=>do let xs <- a ρ;f xs
noncomputable def bM(f:D->aa D->Res D)(o:FE)(a:FA):FE:=λρ=>do let x <- o ρ;let xs <- a ρ;f x xs
def bW(a:FE):aa D->Res (av ai):=λρ=>do let x <- a ρ;let i <- asI x;pure (ae i)
noncomputable def cF:aa D->Res (av ai):=λ_=>.ok aj
def aP7:D->Res aq
 |.dct _=>.bad
 |.scr _=>.bad
 |d=>aQh d
def bTr(a:FE):FT:=λρ=>do let x <- a ρ;aP7 x
noncomputable def B_:D->Res D
 |.int i=>.ok (.int (-i))
 |_=>.bad
def aOe:D->av ai->av ai->Res D
 |.lst xs,lo,hi=>if D.aY xs then .ok (.lst (cutD xs lo hi)) else .bad
 |.scr xs,lo,hi=>if D.aY xs then .ok (.lst (cutD xs lo hi)) else .bad
 |.tup xs,lo,hi=>if !D.aY xs||ϒ (vN xs.length 0 lo=0/\vN xs.length xs.length hi=xs.length) then .bad else .ok (.tup (cutD xs lo hi))
 |_,_,_=>.bad
def h_:aa D->Res D
 |[.tup xs]=>.ok (.int xs.length)
 |[.lst xs]=>.ok (.int xs.length)
 |[.scr xs]=>.ok (.int xs.length)
 |[.cel _ xs]=>.ok (.int xs.length)
 |[.str x]=>if ϒ (x.length<=lim) then .ok (.int x.length) else .bad
 |_=>.bad
noncomputable def aL4(kvs:aa (D×D)):aa D:=kvs.map (·.1)
def yR:aa D->Res D
 |[.tup xs]=>if D.aY xs then .ok (.lst xs) else .bad
 |[.lst xs]=>if D.aY xs then .ok (.lst xs) else .bad
 |[.dct kvs]=>if kvs.all (λp=>!isTup p.1) then .ok (.lst (aL4 kvs)) else .bad
 |_=>.bad
noncomputable def gU:aa D->Res D
 |[.tup xs]=>.ok (.tup xs)
 |[.lst xs]=>.ok (.tup xs)
 |_=>.bad
noncomputable def Ty.nm:Ty->fF
 |.int=>"int" | .str=>"str" | .bool=>"bool" | .list=>"list" | .tuple=>"tuple" | .dict=>"dict"
def aL5(t:Ty)(d:D):Res D:=do let k <- aP6 t d;pure (.bl k)
noncomputable def mW(n:af)(f:aa D->Res D):aa D->Res D:=λds=>if ϒ (ds.length=n) then f ds else .bad
noncomputable abbrev FI:=aa D->Res (aa D×aq)
noncomputable def sZ:D->Res (aa D)
 |.lst xs=>.ok xs
 |.tup xs=>.ok xs
 |_=>.bad
def mX:aa D->Res (aa D×aq)
 |[.int n]=>if uG n then .ok ((ay n.toNat).map λ(k:af)=>D.int (0+(k:ai)),ag) else .bad
 |_=>.bad
noncomputable def sX(f:FA)(g:aa D->Res (aa D×aq)):FI:=λρ=>do let xs <- f ρ;g xs
noncomputable def T8(n:af)(ρ:aa D):aa D:=(ay n).map λi=>ρ.getD i .uD
noncomputable def mK:D->Res (aa D):=λd=>.ok [d]
noncomputable def aP8(m:af):D->Res (aa D)
 |.tup ds=>if ϒ (ds.length=m) then .ok ds else .bad
 |_=>.bad
def RG(n:af)(t:D->Res (aa D))(c:FT)(f:FE)(k:aq)(ρ:aa D)(acc:aa D)(x:D):Res (aa D):=do
 let bs <- t x
 let ok <- c (T8 n ρ++bs)
 if ok then (do
  let y <- f (T8 n ρ++bs)
  if k||y.pure then pure (acc++[y]) else .bad)
 else pure acc
noncomputable def xP(g:aa D->D->Res (aa D)):aa D->aa D->Res (aa D)
 |acc,[]=>.ok acc
 |acc,x::xs=>do let a <- g acc x;xP g a xs
def dM(n:af)(it:FI)(t:D->Res (aa D))(c:FT)(f:FE)(k:aq):FE:=λρ=>do
 let xs <- it ρ
 if ϒ (xs.1.length<=lim) then (do
  let ys <- xP (RG n t c f k ρ) [] xs.1
  pure (.lst ys)) else .bad
noncomputable def iU:FT:=λ_=>.ok ag
noncomputable abbrev FS:=aa D->Res Fl
noncomputable def D.T9:D->aq
 |.cel _ _=>ah
 |_=>ag
def inner:D->aq
 |.lst xs=>D.aY xs
 |.dct kvs=>D.aY (kvs.map (·.2))
 |.cel _ xs=>D.aY xs
 |_=>ah
noncomputable def kO:FS:=λρ=>.ok (.nx ρ)
noncomputable def a_(f g:FS):FS:=λρ=>do
 let r <- f ρ
 match r with
 |.nx ρ'=>g ρ'
 |r=>.ok r
def b7(o:aq)(i:af)(f:FE)(k:aq):FS:=λρ=>do
 let d <- f ρ
 if (if o then k&&inner d else k||d.pure) then .ok (.nx (ρ.set i d)) else .bad
def sAl(i j:af):FS:=λρ=>do
 let d <- cV j ρ
 .ok (.nx (ρ.set i d))
noncomputable def sIf(c:FT)(f g:FS):FS:=λρ=>do
 let k <- c ρ
 if k then f ρ else g ρ
noncomputable def RJ(f:FE)(k:aq):FS:=λρ=>do
 let d <- f ρ
 if k||d.pure then .ok (.rt d) else .bad
def aHm(i:af):FS:=λρ=>do
 let d <- cV i ρ
 .ok (.rt d)
noncomputable def rtX:af:=1000000
noncomputable def MK(f:FE)(k:aq):FS:=λρ=>do
 let d <- f ρ
 if k||d.pure then .ok (.rt (.tup (d::ρ))) else .bad
def FN(i:af):FS:=λρ=>do
 let d <- cV i ρ
 if d.T9 then .ok (.rt (.tup (d::ρ))) else .bad
noncomputable def oG(f:FE):FS:=λρ=>do
 let _ <- f ρ
 .ok (.nx ρ)
def aCs(i:af)(f:FE):FS:=λρ=>do
 let d <- f ρ
 match ρ.getD i .uD with
 |.lst xs=>if ϒ (xs.length<lim)&&d.pure then .ok (.nx (ρ.set i (.lst (xs++[d])))) else .bad
 |_=>.bad
def aFq(i:af)(f:FE)(g:FE):FS:=λρ=>do
 let d <- g ρ
 let k <- f ρ
 match ρ.getD i .uD with
 |.dct kvs=>if ϒ (kvs.length<lim)&&wU kvs k&&d.pure then .ok (.nx (ρ.set i (.dct (putD kvs k d)))) else .bad
 |_=>.bad
noncomputable def tg1(i:af):D->aa D->Res (aa D):=λd ρ=>.ok (ρ.set i d)
noncomputable def MN:aa af->aa D->aa D->aa D
 |i::is,d::ds,ρ=>MN is ds (ρ.set i d)
 |_,_,ρ=>ρ
def tgN(is:aa af):D->aa D->Res (aa D)
 |.tup ds,ρ=>if ϒ (ds.length=is.length) then .ok (MN is ds ρ) else .bad
 |_,_=>.bad
noncomputable def o_(t:D->aa D->Res (aa D))(body:FS):aa D->aa D->Res Fl
 |[],ρ=>.ok (.nx ρ)
 |x::xs,ρ=>do
  let ρ1 <- t x ρ
  let r <- body ρ1
  match r with
  |.nx ρ'=>o_ t body xs ρ'
  |.ct ρ'=>o_ t body xs ρ'
  |.bk ρ'=>.ok (.nx ρ')
  |.rt d=>.ok (.rt d)
def FP(it:FI)(t:D->aa D->Res (aa D))(body:FS):FS:=λρ=>do
 let xs <- it ρ
 if xs.2 then o_ t body xs.1 ρ else .bad
def nJ(i:af)(t:D->aa D->Res (aa D))(body:FS):FS:=λρ=>do
 let d <- cV i ρ
 let xs <- sZ d
 o_ t body xs ρ
def fnS(n m:af)(f:FS):aa D->Res D:=λds=>do
 let r <- f (ds++ck (m-n) .uD)
 aS2 r
open L2
class KFrag where
 K:bn
variable [KFrag]
def aDe(H:Hp)(a:ak)(xs:aa V):Prop:=(∃o,H a=ae (.frz o (.lst xs)))\/
 ∃(o:bd)(its:bw am)(n:af),KFrag.K.lookup a=ae o/\o.cls=.type "list"/\o.dict=aj/\o.data=.seq its n/\its.size<=aI/\Vals xs its.toList
theorem aDe.sq(h:aDe H a xs)(hK:KFrag.K=K):SqL K H a xs:=by
 subst hK;rcases h with ⟨o,h⟩|h
 .exact .inl (.inr ⟨o,h⟩)
 .exact .inr h
noncomputable def kD:Key->D
 |.inl i=>.int i
 |.inr x=>.str x
noncomputable def T_:HO->aq
 |.lst _=>ag
 |.dK _=>ag
 |.dT _=>ag
 |_=>ah
def XO(a C:ak)(dx:av ak)(h:az):Prop:=∃o,h.get? a=ae o/\o.cls=.ref C/\o.dict=dx/\∃vs,o.data=.fields vs
def XD(dx:ak)(fs:aa (Str×Str))(h:az):Prop:=∃mA,h.Ns1 dx mA/\xD mA (fs.map (·.1))/\∀f,match fs.lookup f with
 |some t=>∃tk,mA f=ae (.str t tk)
 |none=>mA f=aj
def XDs(H:Hp)(fs:aa (Str×Str)):av ak->Prop
 |none=>fs=[]
 |some d=>H d=ae (.ext (XD d fs))
mutual
inductive Rep(P:ak->Prop)(H:Hp):V->D->Prop
 |non:Rep P H .non .non
 |bl (b:aq):Rep P H (.bl b) (.bl b)
 |int (i:ai):Rep P H (.int i) (.int i)
 |str (x:Str):Rep P H (.str x) (.str x)
 |tup {a:ak} {xs:aa V} {ds:aa D}:H a=ae (.tup xs)->cN P H xs ds->Rep P H (.ref a) (.tup ds)
 |lst {a:ak} {xs:aa V} {ds:aa D}:H a=ae (.lst xs)->P a->cN P H xs ds->Rep P H (.ref a) (.lst ds)
 |cel {a:ak} {xs:aa V} {ds:aa D}:H a=ae (.lst xs)->P a->cN P H xs ds->Rep P H (.ref a) (.cel a ds)
 |frz {a:ak} {xs:aa V} {ds:aa D}:aDe H a xs->cN P H xs ds->Rep P H (.ref a) (.scr ds)
 |dK {a:ak} {kvs:aa (Key×V)} {ds:aa (D×D)}:H a=ae (.dK kvs)->P a->n6 P H kvs ds->(kvs.map (·.1)).Nodup->Rep P H (.ref a) (.dct ds)
 |dT {a:ak} {kvs:aa (aa Key×V)} {ds:aa (D×D)}:H a=ae (.dT kvs)->P a->wV P H kvs ds->(kvs.map (·.1)).Nodup->Rep P H (.ref a) (.dct ds)
 |exc {a C:ak} {dx:av ak} {c:Str} {fs:aa (Str×Str)}:ox KFrag.K bu c=ae (ae (.ref C))->H a=ae (.ext (XO a C dx))->XDs H fs dx->Rep P H (.ref a) (.exc c fs)
 |ins {a C dx:ak} {c:Str} {vs:aa (Str×V)} {fs:aa (Str×D)}:ox KFrag.K bu c=ae (ae (.ref C))->H a=ae (.ins C dx vs)->aCt P H vs fs->Rep P H (.ref a) (.ins c fs)
inductive aCt(P:ak->Prop)(H:Hp):aa (Str×V)->aa (Str×D)->Prop
 |nil:aCt P H [] []
 |cons {f:Str} {v:V} {d:D} {r:aa (Str×V)} {ds:aa (Str×D)}:Rep P H v d->aCt P H r ds->aCt P H ((f,v)::r) ((f,d)::ds)
inductive cN(P:ak->Prop)(H:Hp):aa V->aa D->Prop
 |nil:cN P H [] []
 |cons {v:V} {d:D} {vs:aa V} {ds:aa D}:Rep P H v d->cN P H vs ds->cN P H (v::vs) (d::ds)
inductive n6(P:ak->Prop)(H:Hp):aa (Key×V)->aa (D×D)->Prop
 |nil:n6 P H [] []
 |cons {k:Key} {v:V} {d:D} {r:aa (Key×V)} {ds:aa (D×D)}:Rep P H v d->n6 P H r ds->n6 P H ((k,v)::r) ((kD k,d)::ds)
inductive wV(P:ak->Prop)(H:Hp):aa (aa Key×V)->aa (D×D)->Prop
 |nil:wV P H [] []
 |cons {k:aa Key} {v:V} {d:D} {r:aa (aa Key×V)} {ds:aa (D×D)}:Rep P H v d->wV P H r ds->wV P H ((k,v)::r) ((.tup (k.map kD),d)::ds)
end
def GZ(P:ak->Prop)(H H':Hp):Prop:=∀a o,H a=ae o->(P a\/T_ o=ah)->H' a=ae o
theorem GZ.same(h:dH H H'):GZ P H H':=λa o e _=>h a o e
theorem XDs.keep{P:ak->Prop}{H H':Hp}(k:GZ P H H')(q:XDs H fs dx):XDs H' fs dx:=by
 cases dx with
 |none=>exact q
 |some _=>exact k _ _ q (.inr rfl)
mutual
theorem Rep.iV{P P':ak->Prop}{H H':Hp}(k:GZ P H H')(m:∀a o,H a=ae o->P a->P' a){v:V}{d:D}(q:Rep P H v d):Rep P' H' v d:=by
 cases q with
 |non=>exact .non
 |bl b=>exact .bl b
 |int i=>exact .int i
 |str x=>exact .str x
 |tup e r=>exact .tup (k _ _ e (.inr rfl)) (cN.iV k m r)
 |lst e p r=>exact .lst (k _ _ e (.inl p)) (m _ _ e p) (cN.iV k m r)
 |cel e p r=>exact .cel (k _ _ e (.inl p)) (m _ _ e p) (cN.iV k m r)
 |frz e r=>exact .frz (e.imp (λz=>z.imp λo e=>k _ _ e (.inr rfl)) id) (cN.iV k m r)
 |dK e p r n=>exact .dK (k _ _ e (.inl p)) (m _ _ e p) (n6.iV k m r) n
 |dT e p r n=>exact .dT (k _ _ e (.inl p)) (m _ _ e p) (wV.iV k m r) n
 |exc n e q=>exact .exc n (k _ _ e (.inr rfl)) (XDs.keep k q)
 |ins n e r=>exact .ins n (k _ _ e (.inr rfl)) (aCt.iV k m r)
theorem cN.iV{P P':ak->Prop}{H H':Hp}(k:GZ P H H')(m:∀a o,H a=ae o->P a->P' a){v:aa V}{d:aa D}(q:cN P H v d):cN P' H' v d:=by
 cases q with
 |nil=>exact .nil
 |cons r t=>exact .cons (Rep.iV k m r) (cN.iV k m t)
theorem aCt.iV{P P':ak->Prop}{H H':Hp}(k:GZ P H H')(m:∀a o,H a=ae o->P a->P' a){v:aa (Str×V)}{d:aa (Str×D)}(q:aCt P H v d):aCt P' H' v d:=by
 cases q with
 |nil=>exact .nil
 |cons r t=>exact .cons (Rep.iV k m r) (aCt.iV k m t)
theorem n6.iV{P P':ak->Prop}{H H':Hp}(k:GZ P H H')(m:∀a o,H a=ae o->P a->P' a){v:aa (Key×V)}{d:aa (D×D)}(q:n6 P H v d):n6 P' H' v d:=by
 cases q with
 |nil=>exact .nil
 |cons r t=>exact .cons (Rep.iV k m r) (n6.iV k m t)
theorem wV.iV{P P':ak->Prop}{H H':Hp}(k:GZ P H H')(m:∀a o,H a=ae o->P a->P' a){v:aa (aa Key×V)}{d:aa (D×D)}(q:wV P H v d):wV P' H' v d:=by
 cases q with
 |nil=>exact .nil
 |cons r t=>exact .cons (Rep.iV k m r) (wV.iV k m t)
end
theorem Rep.keep(k:GZ P H H')(m:∀a,P a->P' a)(q:Rep P H v d):Rep P' H' v d:=q.iV k λa _ _=>m a
theorem cN.keep(k:GZ P H H')(m:∀a,P a->P' a)(q:cN P H v d):cN P' H' v d:=q.iV k λa _ _=>m a
theorem n6.keep(k:GZ P H H')(m:∀a,P a->P' a)(q:n6 P H v d):n6 P' H' v d:=q.iV k λa _ _=>m a
theorem wV.keep(k:GZ P H H')(m:∀a,P a->P' a)(q:wV P H v d):wV P' H' v d:=q.iV k λa _ _=>m a
theorem Rep.mono(r:Rep P H v d)(m:∀a,P a->P' a):Rep P' H v d:=r.keep (λ_ _ e _=>e) m
theorem cN.mono(r:cN P H v d)(m:∀a,P a->P' a):cN P' H v d:=r.keep (λ_ _ e _=>e) m
theorem Rep.same(r:Rep P H v d)(s:dH H H'):Rep P H' v d:=r.keep (.same s) λ_ h=>h
theorem cN.same(r:cN P H v d)(s:dH H H'):cN P H' v d:=r.keep (.same s) λ_ h=>h
noncomputable def aFr:HO->aq
 |.tup _=>ah
 |.frz _ (.lst _)=>ah
 |_=>ag
mutual
theorem Rep.G3{P P':ak->Prop}{H H':Hp}(k:∀a o,H a=ae o->aFr o=ah->H' a=ae o){v:V}{d:D}(q:Rep P H v d)(h:d.pure=ag):Rep P' H' v d:=by
 cases q with
 |non=>exact .non
 |bl b=>exact .bl b
 |int i=>exact .int i
 |str x=>exact .str x
 |tup e r=>exact .tup (k _ _ e rfl) (cN.G3 k r h)
 |frz e r=>exact .frz (e.imp (λz=>z.imp λo e=>k _ _ e rfl) id) (cN.G3 k r h)
 |_=>exact fx0 h
theorem cN.G3{P P':ak->Prop}{H H':Hp}(k:∀a o,H a=ae o->aFr o=ah->H' a=ae o){v:aa V}{d:aa D}(q:cN P H v d)(h:D.aY d=ag):cN P' H' v d:=by
 cases q with
 |nil=>exact .nil
 |cons r t=>
  rw[D.aY,bf] at h;exact .cons (Rep.G3 k r h.1) (cN.G3 k t h.2)
end
theorem Rep.cJ(r:Rep P H v d)(h:d.pure=ag):Rep P' H v d:=r.G3 (λ_ _ e _=>e) h
theorem cN.cJ(r:cN P H v d)(h:D.aY d=ag):cN P' H v d:=r.G3 (λ_ _ e _=>e) h
theorem cN.length:∀{v:aa V}{d:aa D},cN P H v d->v.length=d.length
 |_,_,.nil=>rfl
 |_,_,.cons _ t=>by rw[cz,cz,cN.length t]
theorem cN.get:∀{vs:aa V}{ds:aa D}{i:af}{d:D},cN P H vs ds->ds[i]?=ae d->∃v,vs[i]?=ae v/\Rep P H v d
 |_,_,_,_,.nil,e=>by simp at e
 |_,_,0,_,.cons r _,e=>by simp at e;subst e;exact⟨_,rfl,r⟩
 |_,_,i+1,d,.cons _ t,e=>by
  obtain⟨v,h1,h2⟩:=cN.get t (by simpa using e);exact⟨v,by simpa using h1,h2⟩
theorem cN.at:∀{vs:aa V}{ds:aa D}{i:af}{v:V},cN P H vs ds->vs[i]?=ae v->∃d,ds[i]?=ae d/\Rep P H v d
 |_,_,_,_,.nil,e=>by simp at e
 |_,_,0,_,.cons r _,e=>by simp at e;subst e;exact⟨_,rfl,r⟩
 |_,_,i+1,d,.cons _ t,e=>by
  obtain⟨v,h1,h2⟩:=cN.at t (by simpa using e);exact⟨v,by simpa using h1,h2⟩
theorem cN.append:∀{vs ws:aa V}{ds es:aa D},cN P H vs ds->cN P H ws es->cN P H (vs++ws) (ds++es)
 |_,_,_,_,.nil,s=>s
 |_,_,_,_,.cons r t,s=>.cons r (cN.append t s)
theorem cN.take:∀{vs:aa V}{ds:aa D}(n:af),cN P H vs ds->cN P H (vs.take n) (ds.take n)
 |_,_,0,_=>.nil
 |_,_,_+1,.nil=>.nil
 |_,_,n+1,.cons r t=>.cons r (cN.take n t)
theorem cN.drop:∀{vs:aa V}{ds:aa D}(n:af),cN P H vs ds->cN P H (vs.drop n) (ds.drop n)
 |_,_,0,r=>r
 |_,_,_+1,.nil=>.nil
 |_,_,n+1,.cons _ t=>cN.drop n t
theorem cN.set(r:Rep P H v d):∀{vs:aa V}{ds:aa D}(n:af),cN P H vs ds->cN P H (vs.set n v) (ds.set n d)
 |_,_,_,.nil=>.nil
 |_,_,0,.cons _ t=>.cons r t
 |_,_,n+1,.cons q t=>.cons q (cN.set r n t)
theorem cN.snoc(t:cN P H vs ds)(r:Rep P H v d):cN P H (vs++[v]) (ds++[d]):=t.append (.cons r .nil)
theorem Rep.uD:¬Rep P H v .uD:=λh=>by cases h
abbrev All:ak->Prop:=λ_=>gm
abbrev New(H:Hp):ak->Prop:=λa=>H a=aj
theorem Rep.all(r:Rep P H v d):Rep All H v d:=r.mono λ_ _=>trivial
theorem cN.all(r:cN P H v d):cN All H v d:=r.mono λ_ _=>trivial
theorem dH.new(s:dH H H'):∀a,New H' a->New H a:=λa h=>s.free h
theorem dH.upd(h:H a=aj):dH H (upd H a o):=λb u e=>by rw[bY (dG e h)];exact e
def ER(H:Hp)(σ:St)(ρ:aa D):Prop:=∀i,ρ.getD i .uD≠.uD->∃v,σ[i]?=ae (ae v)/\Rep All H v (ρ.getD i .uD)
theorem ER.same(e:ER H σ ρ)(s:dH H H'):ER H' σ ρ:=λi h=>by
 obtain⟨v,h1,h2⟩:=e i h;exact⟨v,h1,h2.same s⟩
theorem PE.imp(h:PE X e t)(i:∀σ H Q,t' σ H Q->t σ H Q):PE X e t':=λΨ s σ H Q I q=>h Ψ s σ H Q I (i σ H Q q)
theorem PT.imp(h:PT X e t)(i:∀σ H Q,t' σ H Q->t σ H Q):PT X e t':=λΨ s σ H Q I q=>h Ψ s σ H Q I (i σ H Q q)
theorem PA.imp(h:PA X e t)(i:∀σ H Q,t' σ H Q->t σ H Q):PA X e t':=λpos Ψ s σ H Q I q=>h pos Ψ s σ H Q I (i σ H Q q)
theorem Rep.dom(r:Rep P H v d):Rep (λa=>P a/\H a≠aj) H v d:=r.iV (λ_ _ e _=>e) λa o e p=>⟨p,by rw[e];simp⟩
theorem Rep.aHn(r:Rep P H v d)(k:GZ P H H')(m:∀a o,H a=ae o->P a->P' a):Rep P' H' v d:=r.iV k m
def aS3(P:ak->Prop)(H:Hp)(v:V):D->Prop
 |.non=>v=.non
 |.bl b=>v=.bl b
 |.int i=>v=.int i
 |.str x=>v=.str x
 |.tup ds=>∃a xs,v=.ref a/\H a=ae (.tup xs)/\cN P H xs ds
 |.lst ds=>∃a xs,v=.ref a/\H a=ae (.lst xs)/\P a/\cN P H xs ds
 |.cel b ds=>∃xs,v=.ref b/\H b=ae (.lst xs)/\P b/\cN P H xs ds
 |.scr ds=>∃a xs,v=.ref a/\aDe H a xs/\cN P H xs ds
 |.ins c fs=>∃a C dx vs,v=.ref a/\ox KFrag.K bu c=ae (ae (.ref C))/\H a=ae (.ins C dx vs)/\aCt P H vs fs
 |.exc c fs=>∃a C dx,v=.ref a/\ox KFrag.K bu c=ae (ae (.ref C))/\H a=ae (.ext (XO a C dx))/\XDs H fs dx
 |.uD=>cK
 |_=>gm
theorem Rep.inv(r:Rep P H v d):aS3 P H v d:=by
 cases r with
 |non=>rfl
 |bl=>rfl
 |int=>rfl
 |str=>rfl
 |tup e r=>exact⟨_,_,rfl,e,r⟩
 |lst e p r=>exact⟨_,_,rfl,e,p,r⟩
 |cel e p r=>exact⟨_,rfl,e,p,r⟩
 |frz e r=>exact⟨_,_,rfl,e,r⟩
 |ins n e r=>exact⟨_,_,_,_,rfl,n,e,r⟩
 |exc n e r=>exact⟨_,_,_,rfl,n,e,r⟩
 |_=>trivial
end Mi
open Mi.Res renaming ok->δ,aQ->ε,ofOpt->π,bad->ψ
open Mi.D renaming int->τ,aY->θ,str->ι,tup->ν,lst->ξ,dR->ο,bl->υ,pure->χ
namespace L2
open PySem PySem.Spec PyProof.Rows
noncomputable def eE(own:aa Str)(x:Str):Str:=if own.contains x then x++(" " : Str) else x
def clF(env:cx):aa (Str×hV)->aa (Str×ak)->aa (Str×ak)
 |[],acc=>acc
 | (n,k)::r,acc=>clF env r (if k==.free then (n,(env.cells.lookup n).getD 0)::acc else acc)
theorem vW:∀(names:aa (Str×hV))(acc:aa (Str×ak)),(∀y∈names,y.2=.free->∃c,env.cells.lookup y.1=ae c)->
  (forIn names acc λx cs=>(match x with
   | (name,kind)=>if (kind==.free)=ag then cellOf env name >>= λc=>pure (zk ((name,c)::cs)) else pure (zk cs):Sem (ForInStep (aa (Str×ak)))))=(pure (clF env names acc):Sem _)
 |[],acc,_=>by rw[ky];rfl
 | (n,k)::r,acc,h=>by
  rw[me];by_cases hk:(k==.free)=ag
  .have hk':k=.free:=by simpa using hk
   obtain⟨c,e⟩:=h (n,k) (bq ..) hk';have e':cellOf env n=pure c:=by
    unfold cellOf;have e2:env.cells.lookup n=ae c:=e;rw[e2]
   dsimp only;rw[ar hk,e',pure_bind,pure_bind];dsimp only;rw[vW r _ λy hy=>h y (cr _ hy)];have e2:env.cells.lookup n=ae c:=e;simp only[clF,hk,eL,e2,zn]
  .dsimp only;rw[aw hk,pure_bind];dsimp only;rw[vW r _ λy hy=>h y (cr _ hy)];simp only[clF,hk,i8,gs]
theorem W8(h:∀y∈scope.names,y.2=.free->∃c,env.cells.lookup y.1=ae c):closureFor scope env=pure (clF env scope.names []):=by
 unfold closureFor;have:=vW scope.names [] h;simp only[bind_pure] at *;exact this
theorem RK:∀{names:aa (Str×hV)}{acc:aa (Str×ak)}{x:Str}{c:ak},(∀y∈names,y.2=.free->∃c,env.cells.lookup y.1=ae c)->(∀x c,acc.lookup x=ae c->env.cells.lookup x=ae c)->
  (clF env names acc).lookup x=ae c->env.cells.lookup x=ae c
 |[],acc,x,c,_,h,e=>h x c e
 | (n,k)::r,acc,x,c,q,h,e=>by
  unfold clF at e;refine RK (λy hy=>q y (cr _ hy)) (λy d hy=>?_) e;by_cases hk:(k==.free)=ag
  .rw[ar hk,fS] at hy;obtain⟨c',e'⟩:=q (n,k) (bq ..) (by simpa using hk);have e2:env.cells.lookup n=ae c':=e';cases hyn:y==n with
   |true=>
    rw[hyn] at hy;have:y=n:=by simpa using hyn
    subst this;rw[e2] at hy;simp only[zn] at hy;rw[e2];exact hy
   |false=>rw[hyn] at hy;exact h y d hy
  .rw[aw hk] at hy;exact h y d hy
theorem Z5:∀{names:aa (Str×hV)}{acc:aa (Str×ak)}{x:Str},(∃c,acc.lookup x=ae c)->∃c,(clF env names acc).lookup x=ae c
 |[],_,_,h=>h
 | (n,k)::r,acc,x,⟨c,h⟩=>by
  unfold clF;refine Z5 ?_;by_cases hk:(k==.free)=ag
  .rw[ar hk,fS];cases x==n with
   |true=>exact⟨_,rfl⟩
   |false=>exact⟨c,h⟩
  .rw[aw hk];exact⟨c,h⟩
theorem RL:∀{names:aa (Str×hV)}{acc:aa (Str×ak)}{x:Str},(x,i9)∈names->∃c,(clF env names acc).lookup x=ae c
 | (n,k)::r,acc,x,h=>by
  unfold clF;rcases bt.mp h with e|h
  .cases e;refine Z5 ?_;rw[ar 0x4,fS];simp
  .exact RL h
structure cH(N:aa Str)(sc scope:el)(own:aa Str):Prop where
 kind:scope.kind=.function
 nocell:∀y∈scope.names,y.2≠.cell
 names:∀y∈scope.names,y.2=.local->scope.names.lookup y.1=ae .local
 free:∀y∈scope.names,y.2=.free->sc.names.lookup y.1=ae .cell\/sc.names.lookup y.1=ae .free
 ownl:∀x∈own,scope.names.lookup x=ae .local
 hid:∀x∈own,scope.names.lookup (x++(" " : Str))=aj
 loc:∀y∈scope.names,y.2=.local->y.1∈own\/y.1∉N
structure eV(X X':Cx)(scope:el)(own:aa Str):Prop where
 prog:X'.prog=X.prog
 w:X'.w=X.w
 K:X'.K=X.K
 mg:X'.mg=X.mg
 base:X'.base=X.base
 A:X'.A=X.A
 N:X'.N=X.N.map (eE own)++own
 scope:X'.env.scope=ib scope X.env
 calm:X'.calm=X.calm
 xe:X'.xe=λ_ _=>cK
def UG(X:Cx)(scope:el)(cl:aa (Str×ak))(C:ak)(own:aa Str)(s₂:au)(H₂:Hp)(fp:aa ak):Cx:=
 {X with N:=X.N.map (eE own)++own,s₀:=s₂,H₀:=H₂,env:=compEnvC scope cl C X.env,outer:=X.stack,stack:=X.stack,ex:=fp,fn:=λ_=>ah,pn:=[],xe:=λ_ _=>cK}
theorem Z6:eV X (UG X scope cl C own s₂ H₂ fp) scope own:=
 ⟨rfl,rfl,rfl,rfl,rfl,rfl,rfl,rfl,rfl,rfl⟩
def Ext(σ σ2:St):Prop:=σ2.length=σ.length/\∀(i:af) v,σ[i]?=ae (ae v)->σ2[i]?=ae (ae v)
def RM(wi:TI)(g:TG)(tc:TT)(te:TE)(m:af):TE:=λσ H Q=>wi σ H λJ H1=>∀p,H1 p=aj->
 ∃W:af->af->aa V->Hp->Prop,(∃n,W 0 n [] (upd H1 p (.lst [])))/\∀i n ys H,W i n ys H->H p=ae (.lst ys)/\((J.stop i H/\Q (.ref p) H)\/(J.go i H/\ys.length<aI/\
  ∀x H2,J.yld i H x H2->g x (σ++ck m aj) H2 λσ2 H3=>Ext (σ++ck m aj) σ2/\tc σ2 H3 λb H4=>if b=ag then te σ2 H4 λy H5=>H5 p=ae (.lst ys)/\∃n',n'<n/\W (i+1) n' (ys++[y]) (upd H5 p (.lst (ys++[y])))
   else ∃n',n'<n/\W (i+1) n' ys H4))
section
theorem Inv.comp(I:Inv X Ψ σ H2 s2)(S:cH X.N X.env.scope scope own)(hf:∀b∈fp,Y8 X Ψ H2 b)
 (hfx:∀b∈fp,b<s2.heap.objs.size)(hns:h1.Ns (s2.heap.objs.size+1) (λ_=>aj))
 (hk:∀b o,s2.heap.get? b=ae o->h1.get? b=ae o)(hacc:h1.get? s2.heap.objs.size=ae {cls:=.type "list",data:=.seq #[]}) :
  Inv (UG X scope (clF X.env scope.names []) (s2.heap.objs.size+1) own s2 H2 fp) [] (σ++ck own.length aj) (upd H2 s2.heap.objs.size (.lst [])) {s2 with heap:=h1,toks:=t1}:=by
 have hD:H2 s2.heap.objs.size=aj:=I.hok.fresh (br _);have hC:H2 (s2.heap.objs.size+1)=aj:=I.hok.fresh (mf _);have cells:∀y∈scope.names,y.2=.free->∃c,X.env.cells.lookup y.1=ae c:=λy hy hk=>I.ok.has y.1 (S.free y hy hk)
 have sub:∀x c,(clF X.env scope.names []).lookup x=ae c->X.env.cells.lookup x=ae c:=λx c e=>RK cells (λ_ _ h=>by simp at h) e
 have relk:∀x,(ib scope X.env).names.lookup x=ae .cell\/(ib scope X.env).names.lookup x=ae .free->(x,i9)∈scope.names:=by
  intro x hx;have go:∀(l:aa (Str×hV)),(∀y∈l,y.2≠.cell)->((l.map λ(n,k)=>if (k==i9&&X.env.scope.kind==.function&&X.env.kindOf n==ae .cell) then (n,vw) else (n,k)).lookup x=ae .cell\/(l.map λ(n,k)=>if (k==i9&&X.env.scope.kind==.function&&X.env.kindOf n==ae .cell) then (n,vw) else (n,k)).lookup x=ae .free)->(x,i9)∈l:=by
   intro l;induction l with
   |nil=>intro _ h;rcases h with h|h<;>simp at h
   |cons p l ih=>
    obtain⟨n,k⟩:=p;intro nc h;rw[bc] at h;dsimp only at h;by_cases hc:(k==i9&&X.env.scope.kind==.function&&X.env.kindOf n==ae .cell)=ag
    .rw[ar hc] at h;rw[fS] at h;cases e:x==n with
     |true=>
      have:x=n:=by simpa using e
      subst this;simp only[bf] at hc;have:k=.free:=by simpa using hc.1.1
      subst this;exact bq ..
     |false=>
      rw[e] at h;exact cr _ (ih (λy hy=>nc y (cr _ hy)) h)
    .rw[aw hc] at h;rw[fS] at h;cases e:x==n with
     |true=>
      have:x=n:=by simpa using e
      subst this;rw[e] at h;dsimp only at h;rcases h with h|h
      .exact aT (fz h) (nc (x,k) (bq ..))
      .have:=fz h;subst this;exact bq ..
     |false=>
      rw[e] at h;exact cr _ (ih (λy hy=>nc y (cr _ hy)) h)
  exact go scope.names S.nocell hx
 have hne:s2.heap.objs.size≠s2.heap.objs.size+1:=c_ (vx _);have hlt:∀b o,s2.heap.get? b=ae o->b<s2.heap.objs.size:=λb o e=>bX e
 have hstk:∀b∈frs X.stack,b<s2.heap.objs.size:=λb hb=>by
  obtain⟨_,o,ho,_⟩:=I.stack.mem hb;exact hlt b o ho
 refine⟨⟨I.mod,?_,I.ok.glob,I.ok.blt,mf _,λx y c e1 e2=>I.ok.inj x y c (sub x c e1) (sub y c e2),λx hx=>?_,λ_ _ h=>(by cases h),I.ok.hd,I.ok.frames,.inl rfl,λb hb=>?_,λb o e=>I.bs b o e,?_,λb o e hb=>?_,λb hb hz=>?_,I.stack,I.Q6⟩,
  rfl,I.bare,Un.laid hk (br _) hD,?_,λx c e=>?_,?_,λx c e=>?_,λp hp=>(by simp[UG] at hp),?_,?_⟩
 .exact S.kind
 .have hx':(ib scope X.env).names.lookup x=ae .cell\/(ib scope X.env).names.lookup x=ae .free:=hx;exact RL (relk x hx')
 .refine⟨c_ (kz (hfx b hb)),λx c e z=>?_⟩;exact(hf b hb).2.2.2.2.1 x c (sub x c e) z
 .exact dh I.ok.bsz I.sz
 .rcases(hf b hb).2.2.2.1 with z|z
  .exact I.ok.noex b o e z
  .exact aT (dP (bX e) (dh I.ok.bsz z)) (gS _)
 .rcases bt.mp (I.TQ b hz) with z'|z'
  .exact(hf b hb).2.1 z'
  .exact(hf b hb).2.2.1 z'
 .refine⟨_,hns,λi x v e1 e2 e3=>?_⟩;have hi:i<σ.length:=by
   rcases oy i σ.length with h|h
   .exact h
   .rw[eJ h,hZ] at e2;split at e2<;>cases e2
  rw[gq hi] at e2;have hiN:i<X.N.length:=by rw[<-I.len];exact hi
  have e1':(X.N.map (eE own))[i]?=ae x:=by
   have:(X.N.map (eE own)++own)[i]?=ae x:=e1;rwa [gq (by rw[aE];exact hiN)] at this
  rw[ly] at e1';obtain⟨y,hy,ey⟩:=l9.mp e1';have hyN:y∈X.N:=ef hy;have e3':(ib scope X.env).names.lookup x=ae .local\/(ib scope X.env).names.lookup x=ae .cell\/(ib scope X.env).names.lookup x=ae .free:=e3;have keys:∀z k,(ib scope X.env).names.lookup z=ae k->∃k',scope.names.lookup z=ae k'/\(k=.local->k'=.local):=by
   intro z k;show(scope.names.map λ(n,k)=>if (k==i9&&X.env.scope.kind==.function&&X.env.kindOf n==ae .cell) then (n,vw) else (n,k)).lookup z=ae k->_;generalize scope.names=l;induction l with
   |nil=>intro h;simp at h
   |cons p l ih=>
    obtain⟨n,k0⟩:=p;intro h;rw[bc] at h;dsimp only at h;by_cases hc:(k0==i9&&X.env.scope.kind==.function&&X.env.kindOf n==ae .cell)=ag
    .rw[ar hc,fS] at h;rw[fS];cases e:z==n with
     |true=>
      rw[e] at h;dsimp only at h;cases h;exact⟨k0,rfl,λq=>by cases q⟩
     |false=>rw[e] at h;exact ih h
    .rw[aw hc,fS] at h;rw[fS];cases e:z==n with
     |true=>
      rw[e] at h;dsimp only at h;cases h;exact⟨_,rfl,λq=>q⟩
     |false=>rw[e] at h;exact ih h
  by_cases hown:own.contains y=ag
  .exfalso;have ex:x=y++(" " : Str):=by rw[<-ey];unfold eE;rw[ar hown]
   have hn:=S.hid y (by simpa using hown);rw[<-ex] at hn;rcases e3' with q|q|q
   all_goals
    obtain⟨k',hk',_⟩:=keys _ _ q;rw[hn] at hk';cases hk'
  .have ex:x=y:=by rw[<-ey];unfold eE;rw[aw hown]
   subst ex;rcases e3' with q|q
   .exfalso;obtain⟨k',hk',hl⟩:=keys _ _ q;have:=hl rfl;subst this;rcases S.loc _ (kh hk') rfl with z|z
    .exact hown (by simpa using z)
    .exact z hyN
   .have hfr:=relk x q;have hv:=S.free _ hfr rfl;obtain⟨m,_,hl⟩:=I.loc;obtain⟨u,ru,lk⟩:=hl i x v hy e2 (.inr hv);refine⟨u,ru,.inr ⟨q,?_⟩⟩;rcases lk with ⟨z,_⟩|⟨_,c,hc,o,ho,hd⟩
    .have z':X.env.scope.names.lookup x=ae .local:=z;rcases hv with hv|hv<;>(rw[z'] at hv;cases hv)
    .obtain⟨c',hc'⟩:=RL hfr;have:=sub x c' hc';rw[hc] at this;cases this;exact⟨c,hc',o,hk c o ho,hd⟩
 .obtain⟨v,z⟩:=I.cell x c (sub x c e);obtain⟨o,ho,hd⟩:=z;exact⟨v,o,hk c o ho,hd⟩
 .show upd H2 _ _ (s2.heap.objs.size+1)=aj;rw[bY (Ne.symm hne)];exact hC
 .obtain⟨v,o,ho,_⟩:=I.cell x c (sub x c e);show upd H2 _ _ c=aj;rw[bY (c_ (hlt c o ho))];exact I.freeC x c (sub x c e)
 .exact I.hok.laid hk (br _) ⟨gw _,[],0,.nil,hacc⟩
 .show(σ++ck own.length aj).length=(X.N.map (eE own)++own).length;rw[bz,bz,lI,aE,I.len]
end
section
variable {X:Cx} {scope:el} {own:aa Str}
def cI(X':Cx)(σ:St)(fp:aa ak)(tn:af->az->Prop)(W:af->af->aa V->Hp->Prop)(n:af)(s:au):Prop:=∃i ys H',Inv X' [] σ H' s/\tn i s.heap/\(∀b∈fp,H' b=aj)/\W i n ys H'
abbrev cE(X X':Cx)(use:av (am->Sem iw))(QQ:am->au->Prop)(p:ak):am->au->Prop:=notedBy (ax X.prog X.w) X.A X'.env λe s'=>kB (ax X.prog X.w) X.A X.xe use QQ (.ref p) (p+1) (.error e) s'
def cB(X':Cx)(σ:St)(fp:aa ak)(tn:af->az->Prop)(W:af->af->aa V->Hp->Prop)(n i:af)(h:az):Prop:=∀{ys':aa V}{H9:Hp}{s9:au}{σ9:St},Ext σ σ9->Inv X' ([]++yL fp h) σ9 H9 s9->(∃n',n'<n/\W (i+1) n' ys' H9)->∃m,m<n/\cI X' σ fp tn W m s9
theorem RN(S:cH X.N X.env.scope scope own)(hcalm:X.calm=ag)(hi:PI X tg iter wi)
 (hg:∀X',eV X X' scope own->PG X' tg g)(hc:(ifs=[]/\tc=λ_ H Q=>Q ag H)\/∃c,ifs=[c]/\∀X',eV X X' scope own->PT X' c tc)(he:∀X',eV X X' scope own->PE X' elt te)
 (hs:∀x,em iter X.env x=pure x)(I:Inv X Ψ σ H s)(h:RM wi g tc te own.length σ H R)
 (last:∀{p C:ak} {H5:Hp} {s6:au} {m6:Str->av am},Inv X Ψ σ H5 s6->Y8 X Ψ H5 C->s6.heap.Ns C m6->R (.ref p) H5->kB (ax X.prog X.w) X.A X.xe use QQ (.ref p) C (.ok .next) s6) :
  ϑ (ax X.prog X.w) X.A (zo (.ListComp elt [⟨tg,iter,ifs,0⟩] scope pos) scope X.env ps (newList []) ah (eval iter X.env) use) QQ X.xe s:=by
 have cells:∀y∈scope.names,y.2=.free->∃c,X.env.cells.lookup y.1=ae c:=λy hy hk=>I.ok.has y.1 (S.free y hy hk)
 refine wpAny_comprehension_free rfl hs (W8 cells) S.kind S.names (thn (hi Ψ s σ H _ I h) λxv s1 h1=>thn h1 λitv s2 h2=>?_);obtain⟨it,fp,tn,J,H2,e,I2,T,st2,f2,hW⟩:=h2;subst e;have hD:H2 s2.heap.objs.size=aj:=I2.hok.fresh (br _);obtain⟨W,⟨n0,w0⟩,turn⟩:=hW _ hD;have hfx:∀b∈fp,b<s2.heap.objs.size:=λb hb=>by
  obtain⟨o,ho,_⟩:=T.obj 0 _ st2 b hb;exact bX ho
 refine iu (wpAny_newFunctionEnv S.nocell (by intro y hy;simp at hy) (λh₁ hns₁ hsb₁=>?_) S.kind);dsimp only at hns₁ hsb₁ ⊢;have hC:(s2.heap.push {cls:=.type "list",dict:=aj,data:=.seq ([]:aa am).toArray}).objs.size=s2.heap.objs.size+1:=eB ..;have hne:s2.heap.objs.size≠s2.heap.objs.size+1:=c_ (vx _);rw[hC] at hns₁ hsb₁ ⊢;have old:∀b o,s2.heap.get? b=ae o->h₁.get? b=ae o:=λb o e=>hsb₁.extBut b o (c_ (kz (bX e))) (cu _ (cu _ e))
 have hacc:h₁.get? s2.heap.objs.size=ae {cls:=.type "list",data:=.seq #[]}:=hsb₁.extBut _ _ hne (cu _ (dq _ rfl));have I4:=Inv.comp (t1:=s2.toks+([]:aa (Str×am)).length) I2 S f2 hfx hns₁ old hacc;generalize hX':UG X scope (clF X.env scope.names []) (s2.heap.objs.size+1) own s2 H2 fp=X' at I4;have cc:eV X X' scope own:=by rw[<-hX'];exact Z6
 have eenv:X'.env=compEnvC scope (clF X.env scope.names []) (s2.heap.objs.size+1) X.env:=by rw[<-hX'];rfl
 have eA:X'.A=X.A:=cc.A;have ep:X'.prog=X.prog:=cc.prog;have ew:X'.w=X.w:=cc.w;have efs:X'.fs=frs X.stack:=by rw[<-hX'];rfl
 have eex:X'.ex=fp:=by rw[<-hX'];rfl
 have es0:X'.s₀=s2:=by rw[<-hX'];rfl
 have eH0:X'.H₀=H2:=by rw[<-hX'];rfl
 have epn:X'.pn=[]:=by rw[<-hX'];rfl
 have eK:X'.K=X.K:=cc.K;have exe:=cc.xe;have ecalm:X'.calm=ag:=cc.calm.trans hcalm
 -- the iterator's records within the block
 have fpok:∀{H':Hp},(∀b∈fp,H' b=aj)->∀b∈fp,Y8 X' [] H' b:=λ{H'} hn b hb=>by
  obtain⟨_,f1,f3,_,f5,_⟩:=f2 b hb;refine⟨hn b hb,?_,?_,.inl (by rw[eex];exact hb),λx c e=>?_,λp hp=>by rw[epn] at hp;simp at hp⟩
  .rw[eenv];exact c_ (kz (hfx b hb))
  .rw[efs];intro z;rcases bt.mp (I2.TQ b z) with z|z
   .exact f1 z
   .exact f3 z
  .rw[eenv] at e;exact f5 x c (RK cells (λ_ _ h=>by simp at h) e)
 have st4:tn 0 h₁:=T.keep _ _ _ st2 λb _ o e=>old b o e
 have fr4:∀b∈fp,(upd H2 s2.heap.objs.size (.lst [])) b=aj:=λb hb=>by rw[bY (c_ (hfx b hb))];exact(f2 b hb).1
 have loop:∀s4:au,s4={s2 with heap:=h₁,toks:=s2.toks+([]:aa (Str×am)).length}->
   codeAny (ax X.prog X.w) X.A (.compLoop (.ListComp elt [⟨tg,iter,ifs,0⟩] scope pos) 0 (.ref it) (.ref s2.heap.objs.size) X'.env)
    (kB (ax X.prog X.w) X.A X.xe use QQ (.ref s2.heap.objs.size) (s2.heap.objs.size+1)) s4:=by
  rintro s4 rfl;have put:∀(n i:af)(ys:aa V)(s7:au)(σ8:St)(H8:Hp)(s8:au),cB X' (σ++ck own.length aj) fp tn W n i s7.heap->Inv X' ([]++yL fp s7.heap) σ8 H8 s8->Ext (σ++ck own.length aj) σ8->ys.length<aI->(te σ8 H8 λy H5=>H5 s2.heap.objs.size=ae (.lst ys)/\∃n',n'<n/\W (i+1) n' (ys++[y]) (upd H5 s2.heap.objs.size (.lst (ys++[y]))))->
    ϑ (ax X.prog X.w) X.A (eval elt X'.env) (λx s₄=>ϑ (ax X.prog X.w) X.A (call (.builtin "list.append") [.ref s2.heap.objs.size,x]) (λ_ s₅=>∃m,m<n/\cI X' (σ++ck own.length aj) fp tn W m s₅) (cE X X' use QQ s2.heap.objs.size) s₄) (cE X X' use QQ s2.heap.objs.size) s8:=by
   intro n i ys s7 σ8 H8 s8 back I8 ext8 hlen q8;have he':=he X' cc _ s8 _ H8 _ I8 q8;rw[ep,ew,eA,exe] at he';refine fR he' (λyv s10 ⟨y,H10,I10,r10,p10,q10⟩=>?_) λ_ _ z=>dE z
   have hm:=yP _ s10 σ8 H10 (.ref s2.heap.objs.size) [y] (.ref s2.heap.objs.size) [yv] (λ_ H11=>∃n',n'<n/\W (i+1) n' (ys++[y]) H11) I10 rfl (.cons r10 .nil) ⟨s2.heap.objs.size,ys,y,rfl,rfl,p10,hlen,q10⟩;rw[ep,ew,eA,exe] at hm;exact fR hm (λ_ s11 ⟨_,H11,I11,_,q11⟩=>back ext8 I11 q11) λ_ _ z=>dE z
  have key:∀(PO:af->au->Prop),(∀(n i:af)(ys:aa V)(s7:au)(σ8:St)(H8:Hp)(s8:au),cB X' (σ++ck own.length aj) fp tn W n i s7.heap->Inv X' ([]++yL fp s7.heap) σ8 H8 s8->Ext (σ++ck own.length aj) σ8->ys.length<aI->(tc σ8 H8 λb H4=>if b=ag then te σ8 H4 λy H5=>H5 s2.heap.objs.size=ae (.lst ys)/\∃n',n'<n/\W (i+1) n' (ys++[y]) (upd H5 s2.heap.objs.size (.lst (ys++[y]))) else ∃n',n'<n/\W (i+1) n' ys H4)->PO n s8)->
    ∀n s5,(cI X' (σ++ck own.length aj) fp tn W n s5)->ϑ (ax X.prog X.w) X.A (gi (.ref it)) (λr s₁=>match r with
     |none=>kB (ax X.prog X.w) X.A X.xe use QQ (.ref s2.heap.objs.size) (s2.heap.objs.size+1) (.ok .next) s₁
     |some v=>ϑ (ax X.prog X.w) X.A (lv tg (.ref it) v) (λ_ s₀=>ϑ (ax X.prog X.w) X.A (ip tg X'.env v) (λ_ s₂=>PO n s₂) (cE X X' use QQ s2.heap.objs.size) s₀) (cE X X' use QQ s2.heap.objs.size) s₁) (cE X X' use QQ s2.heap.objs.size) s5:=by
   intro PO hPO;rintro n s5 ⟨i,ys,H5,I5,st5,fr5,w5⟩;obtain⟨hacc5,tr⟩:=turn i n ys H5 w5;rcases tr with ⟨stop,q⟩|⟨go,hlen,step⟩
   .have done:=T.done X' ep ew eK ecalm i [] s5 _ H5 (cE X X' use QQ s2.heap.objs.size) I5 (fpok fr5) st5 stop;rw[eA] at done;refine thn done λr s6 ⟨hr,I6⟩=>?_
    subst hr;obtain⟨m6,hn6,_⟩:=id I6.loc;rw[eenv] at hn6;have u6:Un (frs X.stack) fp H2 H5 s2.heap s6.heap:=by
     have:=I6.base;rw[efs,eex,eH0,es0] at this;exact this
    have hCn:H5 (s2.heap.objs.size+1)=aj:=by
     have:=I6.free;rw[eenv] at this;exact this
    have hok6:HOk X.prog X.w H5 s6.heap:=by
     have:=I6.hok;rw[ep,ew] at this;exact this
    have hos:s6.os=s2.os:=by have:=I6.os;rw[es0] at this;exact this
    obtain⟨hh,gg,dd,tt,oo⟩:=s6;obtain rfl:oo=s2.os:=hos;have fin:=Inv.call (g':=gg) (d':=dd) (t':=tt) (ch:=fp) I2 u6 hok6 I6.bare λb hb=>⟨(f2 b hb).2.2.2.1,(f2 b hb).2.1,(f2 b hb).2.2.2.2.1,(f2 b hb).2.2.2.2.2⟩
    refine last fin ⟨hCn,iO (kz I2.lt),I2.aQc (mf _),.inr (dh I2.sz (mf _)),λx c e z=>?_,λp hp z=>?_⟩ hn6 q
    .obtain⟨v,qq⟩:=I2.cell x c e;exact aT (kz qq.lt) (by rw[z];exact gS _)
    .exact aT (kz (bX (I2.pin p hp).1)) (by rw[z];exact gS _)
   .have item:=T.item X' ep ew eK ecalm i [] s5 _ H5 (cE X X' use QQ s2.heap.objs.size) I5 (fpok fr5) st5 go;rw[eA] at item;refine thn item λr s6 ⟨u,hr,h6⟩=>?_
    subst hr;refine thn h6 λ_ s7 ⟨x,H7,I7,r7,y7,st7,fr7⟩=>?_
    have I7':=I7.pinned (fpok fr7) (T.obj _ _ st7);have hg':=hg X' cc _ s7 _ H7 x u _ I7' r7 (step x H7 y7);rw[ep,ew,eA,exe] at hg';refine fR hg' (λ_ s8 ⟨σ8,H8,I8,ext8,q8⟩=>?_) λ_ _ z=>dE z
    have back:cB X' (σ++ck own.length aj) fp tn W n i s7.heap:=by
     rintro ys' H9 s9 σ9 ex9 I9 ⟨n',hn',w9⟩;refine⟨n',hn',i+1,ys',H9,(I9.weak ex9.1.symm ex9.2).uN,T.keep _ _ _ st7 λb hb o e=>(I9.pin (b,o) (dS _ (dS _ (o9 hb e)))).1,λb hb=>?_,w9⟩;obtain⟨o,e,d⟩:=T.obj _ _ st7 b hb;exact(I9.pin (b,o) (dS _ (dS _ (o9 hb e)))).2.1
    exact hPO n i ys s7 σ8 H8 s8 back I8 ext8 hlen q8
  rcases hc with ⟨rfl,rfl⟩|⟨c,rfl,hc⟩
  .refine PySem.W.kcp_loop _ (key _ λn i ys s7 σ8 H8 s8 back I8 ext8 hlen q8=>?_) n0 ⟨0,[],_,I4,st4,fr4,w0⟩;simp only[eL] at q8;exact put n i ys s7 σ8 H8 s8 back I8 ext8 hlen q8
  .refine PySem.W.kct_loop _ (key _ λn i ys s7 σ8 H8 s8 back I8 ext8 hlen q8=>?_) n0 ⟨0,[],_,I4,st4,fr4,w0⟩;have hc':=hc X' cc _ s8 _ H8 _ I8 q8;rw[ep,ew,eA,exe] at hc';refine fR hc' (λb s9 ⟨H9,I9,q9⟩=>?_) λ_ _ z=>dE z
   cases b with
   |false=>
    simp only[i8,gs] at q9 ⊢;exact back ext8 I9 q9
   |true=>
    simp only[eL] at q9 ⊢;exact put n i ys s7 σ8 H9 s9 back I9 ext8 hlen q9
 have l4:=loop _ rfl;rw[eenv] at l4;exact codeAny_compStart_list l4 (T.self X.A 0 _ _ _ st4 l4)
theorem UJ(f:Inv X Ψ σ H5 s6)(k:Y8 X Ψ H5 C)(n:s6.heap.Ns C m6)(q:Q (.ref p) H5):kB (ax X.prog X.w) X.A X.xe aj (EP X Ψ σ Q) (.ref p) C (.ok .next) s6:=
 ⟨m6,n,λh' sb=>⟨.ref p,H5,Inv.turned f (λb o hb e=>sb.extBut b o hb e) k.1 k.2.1 k.2.2.2.1 k.2.2.2.2.1 k.2.2.2.2.2,rfl,q⟩⟩
theorem Z7(S:cH X.N X.env.scope scope own)(hcalm:X.calm=ag)(hi:PI X tg iter wi)
 (hg:∀X',eV X X' scope own->PG X' tg g)(hc:∀X',eV X X' scope own->PT X' c tc)(he:∀X',eV X X' scope own->PE X' elt te)
 (hs:∀x,em iter X.env x=pure x):PE X (.ListComp elt [⟨tg,iter,[c],0⟩] scope pos) (RM wi g tc te own.length):=by
 intro Ψ s σ H Q I h;rw[zp];exact RN S hcalm hi hg (.inr ⟨c,rfl,hc⟩) he hs I h UJ
theorem aDf(S:cH X.N X.env.scope scope own)(hcalm:X.calm=ag)(hi:PI X tg iter wi)
 (hg:∀X',eV X X' scope own->PG X' tg g)(he:∀X',eV X X' scope own->PE X' elt te)
 (hs:∀x,em iter X.env x=pure x):PE X (.ListComp elt [⟨tg,iter,[],0⟩] scope pos) (RM wi g (λ_ H Q=>Q ag H) te own.length):=by
 intro Ψ s σ H Q I h;rw[zp];exact RN S hcalm hi hg (.inl ⟨rfl,rfl⟩) he hs I h UJ
end
end L2
namespace Mi
open PySem L2 PySem.SeqAt
section
variable [KFrag]
theorem t_(I:Inv X Ψ σ H s)(e:H a=ae (.tup xs)):∃its:aa am,Vals xs its/\s.heap.IsTuple a its.toArray:=by
 obtain⟨_,its,r,p⟩:xs.length<=aI/\∃its:aa am,Vals xs its/\mV s.heap a its.toArray:=I.hok a _ e;exact⟨its,r,p.tup⟩
theorem oN(I:Inv X Ψ σ H s)(e:SqL X.K H a xs):∃its:aa am,Vals xs its/\s.heap.IsList a its.toArray:=by
 obtain⟨its,r,p,_⟩:=I.list e;exact⟨its,r,p.isList⟩
theorem Rep.mY(r:Rep P H v (.lst ds)):∃a xs,v=.ref a/\SqL K H a xs/\cN P H xs ds:=by
 obtain⟨_,_,rfl,e,p,r⟩:=r.inv;exact⟨_,_,rfl,.inl (.inl e),r⟩
theorem Rep.lC(r:Rep P H v (.tup ds)):∃a xs,v=.ref a/\H a=ae (.tup xs)/\cN P H xs ds:=by
 obtain⟨_,_,rfl,e,r⟩:=r.inv;exact⟨_,_,rfl,e,r⟩
mutual
theorem G4:∀(n:af)(d:D),d.jF n=ag->eqD d d=ag
 |_,.non,_=>rfl
 |_,.bl b,_=>by exact oz b
 |_,.int i,_=>by exact oz i
 |_,.str x,_=>by exact oz x
 |n+1,.tup xs,h=>by exact yS n xs h
 |n+1,.lst xs,h=>by exact yS n xs h
 |0,.tup xs,h=>by exact fx0 h
 |0,.lst xs,h=>by exact fx0 h
 |n,.dct _,h=>by cases n<;>exact fx0 h
 |n,.uD,h=>by cases n<;>exact fx0 h
 |n,.scr _,h=>by cases n<;>exact fx0 h
 |n,.exc _ _,h=>by cases n<;>exact fx0 h
 |n,.ins _ _,h=>by cases n<;>exact fx0 h
 |n,.cel _ _,h=>by cases n<;>exact fx0 h
theorem yS:∀(n:af)(ds:aa D),ο n ds=ag->xM ds ds=ag
 |_,[],_=>rfl
 |n,d::ds,h=>by
  rw[ο,bf] at h;rw[xM,G4 n d h.1,yS n ds h.2];rfl
end
theorem cN.aQi{n:af}{P P':ak->Prop}{H:Hp}(ih:∀{v:V} {d e:D},d.jF n=ag->e.jF n=ag->Rep P H v d->Rep P' H v e->d=e){vs:aa V}:∀{ds es:aa D},ο n ds=ag->ο n es=ag->cN P H vs ds->cN P' H vs es->ds=es:=by
 induction vs with
 |nil=>intro ds es h h' r q;cases r;cases q;rfl
 |cons v vs ih2=>
  intro ds es h h' r q;cases r with
  |cons r t=>
   cases q with
   |cons r' t'=>
    rw[ο,bf] at h h';rw[ih h.1 h'.1 r r',ih2 h.2 h'.2 t t']
theorem Rep.inj{P P':ak->Prop}{H:Hp}(n:af):∀{v:V}{d e:D},d.jF n=ag->e.jF n=ag->Rep P H v d->Rep P' H v e->d=e:=by
 induction n with
 |zero=>
  intro v d e h h' r q;cases d with
  |non=>obtain rfl:=r.inv;cases q;rfl
  |bl b=>obtain rfl:=r.inv;cases q;rfl
  |int i=>obtain rfl:=r.inv;cases q;rfl
  |str x=>obtain rfl:=r.inv;cases q;rfl
  |_=>exact fx0 h
 |succ n ih=>
  intro v d e h h' r q;cases d with
  |non=>obtain rfl:=r.inv;cases q;rfl
  |bl b=>obtain rfl:=r.inv;cases q;rfl
  |int i=>obtain rfl:=r.inv;cases q;rfl
  |str x=>obtain rfl:=r.inv;cases q;rfl
  |tup ds=>
   obtain⟨a,xs,rfl,e1,r1⟩:=r.inv;cases q with
   |tup e2 r2=>
    rw[e1] at e2;cases e2;rw[cN.aQi ih h h' r1 r2]
   |lst e2 _ _=>rw[e1] at e2;cases e2
   |dK e2 _ _ _=>rw[e1] at e2;cases e2
   |dT e2 _ _ _=>rw[e1] at e2;cases e2
   |_=>exact fx0 h'
  |lst ds=>
   obtain⟨a,xs,rfl,e1,_,r1⟩:=r.inv;cases q with
   |tup e2 r2=>rw[e1] at e2;cases e2
   |lst e2 _ r2=>
    rw[e1] at e2;cases e2;rw[cN.aQi ih h h' r1 r2]
   |dK e2 _ _ _=>rw[e1] at e2;cases e2
   |dT e2 _ _ _=>rw[e1] at e2;cases e2
   |_=>exact fx0 h'
  |_=>exact fx0 h
theorem vX:∀(xs ys:aa D),xM xs ys=((ay (min xs.length ys.length)).all (λj=>eqD (xs.getD j .non) (ys.getD j .non))&&xs.length==ys.length)
 |[],[]=>by simp[xM]
 |[],y::ys=>by simp[xM]
 |x::xs,[]=>by simp[xM]
 |x::xs,y::ys=>by
  have e:min (x::xs).length (y::ys).length=min xs.length ys.length+1:=by simp only[cz];lia
  rw[xM,vX xs ys,e,vz,gj,List.all_map,zq]
  congr 1
  simp[oB]
theorem uU:∀{ds:aa D}{j:af},ο n ds=ag->j<ds.length->(ds.getD j .non).jF n=ag
 |[],j,_,h=>by simp at h
 |d::ds,0,h,_=>by rw[ο,bf] at h;exact h.1
 |d::ds,j+1,h,hj=>by
  rw[ο,bf] at h;simpa using uU h.2 (by simpa using hj)
theorem cN.getD(r:cN P H vs ds)(hj:j<ds.length):∃v,vs[j]?=ae v/\Rep P H v (ds.getD j .non):=by
 obtain⟨v,h1,h2⟩:=r.get (i:=j) (d:=ds.getD j .non) (by simp[hj]);exact⟨v,h1,h2⟩
section
theorem yU(ha:a.jF 0=ag)(hb:b.jF 0=ag)(rx:Rep All H x a)(ry:Rep All H y b)(ru:RelV x u)(rv:RelV y v):RcAt A s u v (eqD a b)/\RcNeAt A s u v (!eqD a b)/\EqAt A s u v (eqD a b):=by
 cases rx with
 |non=>
  cases ru;cases ry with
  |non=>cases rv;exact⟨RcAt.none_none,RcNeAt.none_none,vE _⟩
  |bl _=>cases rv;exact⟨RcAt.none_bool _,RcNeAt.none_bool _,EqAt.none_bool _⟩
  |int _=>obtain⟨t,rfl⟩:=rv;exact⟨RcAt.none_int _ _,RcNeAt.none_int _ _,EqAt.none_int _ _⟩
  |str _=>obtain⟨t,rfl⟩:=rv;exact⟨RcAt.none_str _ _,RcNeAt.none_str _ _,EqAt.none_str _ _⟩
  |_=>exact fx0 hb
 |bl _=>
  cases ru;cases ry with
  |non=>cases rv;exact⟨RcAt.bool_none _,RcNeAt.bool_none _,EqAt.bool_none _⟩
  |bl _=>cases rv;exact⟨RcAt.bool_bool _ _,RcNeAt.bool_bool _ _,EqAt.bool_bool _ _⟩
  |int _=>obtain⟨t,rfl⟩:=rv;exact⟨RcAt.bool_int _ _ _,RcNeAt.bool_int _ _ _,EqAt.bool_int _ _ _⟩
  |str _=>obtain⟨t,rfl⟩:=rv;exact⟨RcAt.bool_str _ _ _,RcNeAt.bool_str _ _ _,EqAt.bool_str _ _ _⟩
  |_=>exact fx0 hb
 |int _=>
  obtain⟨t,rfl⟩:=ru;cases ry with
  |non=>cases rv;exact⟨RcAt.int_none _ _,RcNeAt.int_none _ _,EqAt.int_none _ _⟩
  |bl _=>cases rv;exact⟨RcAt.int_bool _ _ _,RcNeAt.int_bool _ _ _,EqAt.int_bool _ _ _⟩
  |int _=>obtain⟨t',rfl⟩:=rv;exact⟨RcAt.int_int _ _ _ _,RcNeAt.int_int _ _ _ _,EqAt.int_int _ _ _ _⟩
  |str _=>obtain⟨t',rfl⟩:=rv;exact⟨RcAt.int_str _ _ _ _,RcNeAt.int_str _ _ _ _,xy _ _ _ _⟩
  |_=>exact fx0 hb
 |str _=>
  obtain⟨t,rfl⟩:=ru;cases ry with
  |non=>cases rv;exact⟨RcAt.str_none _ _,RcNeAt.str_none _ _,EqAt.str_none _ _⟩
  |bl _=>cases rv;exact⟨RcAt.str_bool _ _ _,RcNeAt.str_bool _ _ _,EqAt.str_bool _ _ _⟩
  |int _=>obtain⟨t',rfl⟩:=rv;exact⟨RcAt.str_int _ _ _ _,RcNeAt.str_int _ _ _ _,xA _ _ _ _⟩
  |str _=>obtain⟨t',rfl⟩:=rv;exact⟨RcAt.str_str _ _ _ _,RcNeAt.str_str _ _ _ _,EqAt.str_str _ _ _ _⟩
  |_=>exact fx0 hb
 |_=>exact fx0 ha
theorem Z8(I:Inv X Ψ σ H s):∀(n:af)(A:cj){x y:V}{a b:D}{u v:am},A.units+n<dL->a.jF n=ag->b.jF n=ag->Rep All H x a->Rep All H y b->RelV x u->RelV y v->
  RcAt A s u v (eqD a b)/\RcNeAt A s u v (!eqD a b)/\EqAt A s u v (eqD a b):=by
 intro n;induction n with
 |zero=>exact λA=>λ_ ha hb rx ry ru rv=>yU ha hb rx ry ru rv
 |succ n ih=>
  intro A x y a b u v hu ha hb rx ry ru rv;have hu0:A.units<dL:=by lia
  have hu1:A.in1.units+n<dL:=by show A.units+1+n<dL;lia
  have itm:∀{xs ys:aa V}{ds es:aa D}{i1 i2:aa am},ο n ds=ag->ο n es=ag->cN All H xs ds->cN All H ys es->Vals xs i1->Vals ys i2->∀j (g1:j<i1.toArray.size) (g2:j<i2.toArray.size),EqAt A.in1 s i1.toArray[j] i2.toArray[j] (eqD (ds.getD j .non) (es.getD j .non)):=by
   intro xs ys ds es i1 i2 ha hb r1 r2 vr1 vr2 j g1 g2;have z1:i1.toArray.size=ds.length:=by rw[cy,<-vr1.length,r1.length]
   have z2:i2.toArray.size=es.length:=by rw[cy,<-vr2.length,r2.length]
   obtain⟨v1,w1,rr1⟩:=r1.getD (j:=j) 0x1;obtain⟨v2,w2,rr2⟩:=r2.getD (j:=j) 0x1;obtain⟨u1,k1,l1⟩:=vr1.get w1;obtain⟨u2,k2,l2⟩:=vr2.get w2;have m1:i1.toArray[j]=u1:=by
    rw[cq (by simpa using g1)] at k1;simpa using fz k1
   have m2:i2.toArray[j]=u2:=by
    rw[cq (by simpa using g2)] at k2;simpa using fz k2
   rw[m1,m2];exact(ih A.in1 hu1 (uU ha 0x1) (uU hb 0x1) rr1 rr2 l1 l2).2.2
  cases a with
  |non=>
   cases b with
   |tup es=>
    cases rx.inv;cases ru;obtain⟨q,ys,rfl,e2,r2⟩:=ry.lC;cases rv;obtain⟨its2,vr2,h2⟩:=t_ I e2;exact⟨RcAt.none_tuple h2 hu0,RcNeAt.none_tuple h2 hu0,EqAt.none_tuple h2 hu0⟩
   |lst es=>
    cases rx.inv;cases ru;obtain⟨q,ys,rfl,e2,r2⟩:=ry.mY (K:=X.K);cases rv;obtain⟨its2,vr2,h2⟩:=oN I e2;exact⟨RcAt.none_list h2 hu0,RcNeAt.none_list h2 hu0,EqAt.none_list h2 hu0⟩
   |_=>first|exact yU rfl rfl rx ry ru rv|exact aT ry Rep.uD|exact fx0 hb
  |bl _=>
   cases b with
   |tup es=>
    cases rx.inv;cases ru;obtain⟨q,ys,rfl,e2,r2⟩:=ry.lC;cases rv;obtain⟨its2,vr2,h2⟩:=t_ I e2;exact⟨RcAt.bool_tuple _ h2 hu0,RcNeAt.bool_tuple _ h2 hu0,EqAt.bool_tuple _ h2 hu0⟩
   |lst es=>
    cases rx.inv;cases ru;obtain⟨q,ys,rfl,e2,r2⟩:=ry.mY (K:=X.K);cases rv;obtain⟨its2,vr2,h2⟩:=oN I e2;exact⟨RcAt.bool_list _ h2 hu0,RcNeAt.bool_list _ h2 hu0,EqAt.bool_list _ h2 hu0⟩
   |_=>first|exact yU rfl rfl rx ry ru rv|exact aT ry Rep.uD|exact fx0 hb
  |int _=>
   cases b with
   |tup es=>
    cases rx.inv;obtain⟨t1,rfl⟩:=ru;obtain⟨q,ys,rfl,e2,r2⟩:=ry.lC;cases rv;obtain⟨its2,vr2,h2⟩:=t_ I e2;exact⟨RcAt.int_tuple _ _ h2 hu0,RcNeAt.int_tuple _ _ h2 hu0,EqAt.int_tuple _ _ h2 hu0⟩
   |lst es=>
    cases rx.inv;obtain⟨t1,rfl⟩:=ru;obtain⟨q,ys,rfl,e2,r2⟩:=ry.mY (K:=X.K);cases rv;obtain⟨its2,vr2,h2⟩:=oN I e2;exact⟨RcAt.int_list _ _ h2 hu0,RcNeAt.int_list _ _ h2 hu0,EqAt.int_list _ _ h2 hu0⟩
   |_=>first|exact yU rfl rfl rx ry ru rv|exact aT ry Rep.uD|exact fx0 hb
  |str _=>
   cases b with
   |tup es=>
    cases rx.inv;obtain⟨t1,rfl⟩:=ru;obtain⟨q,ys,rfl,e2,r2⟩:=ry.lC;cases rv;obtain⟨its2,vr2,h2⟩:=t_ I e2;exact⟨RcAt.str_tuple _ _ h2 hu0,RcNeAt.str_tuple _ _ h2 hu0,EqAt.str_tuple _ _ h2 hu0⟩
   |lst es=>
    cases rx.inv;obtain⟨t1,rfl⟩:=ru;obtain⟨q,ys,rfl,e2,r2⟩:=ry.mY (K:=X.K);cases rv;obtain⟨its2,vr2,h2⟩:=oN I e2;exact⟨RcAt.str_list _ _ h2 hu0,RcNeAt.str_list _ _ h2 hu0,EqAt.str_list _ _ h2 hu0⟩
   |_=>first|exact yU rfl rfl rx ry ru rv|exact aT ry Rep.uD|exact fx0 hb
  |tup ds=>
   obtain⟨p,xs,rfl,e1,r1⟩:=rx.lC;cases ru;obtain⟨its1,vr1,h1⟩:=t_ I e1;replace ha:ο _ _=ag:=ha;cases b with
   |non=>cases ry.inv;cases rv;exact⟨RcAt.tuple_none h1 hu0,RcNeAt.tuple_none h1 hu0,EqAt.tuple_none h1 hu0⟩
   |bl _=>cases ry.inv;cases rv;exact⟨RcAt.tuple_bool _ h1 hu0,RcNeAt.tuple_bool _ h1 hu0,EqAt.tuple_bool _ h1 hu0⟩
   |int _=>cases ry.inv;obtain⟨t2,rfl⟩:=rv;exact⟨RcAt.tuple_int _ _ h1 hu0,RcNeAt.tuple_int _ _ h1 hu0,EqAt.tuple_int _ _ h1 hu0⟩
   |str _=>cases ry.inv;obtain⟨t2,rfl⟩:=rv;exact⟨RcAt.tuple_str _ _ h1 hu0,RcNeAt.tuple_str _ _ h1 hu0,EqAt.tuple_str _ _ h1 hu0⟩
   |tup es=>
    obtain⟨q,ys,rfl,e2,r2⟩:=ry.lC;cases rv;obtain⟨its2,vr2,h2⟩:=t_ I e2;replace hb:ο _ _=ag:=hb;have z1:its1.toArray.size=ds.length:=by rw[cy,<-vr1.length,r1.length]
    have z2:its2.toArray.size=es.length:=by rw[cy,<-vr2.length,r2.length]
    have he:=itm ha hb r1 r2 vr1 vr2;have ee:eqD (.tup ds) (.tup es)=((ay (min its1.toArray.size its2.toArray.size)).all (λj=>eqD (ds.getD j .non) (es.getD j .non))&&its1.toArray.size==its2.toArray.size):=by
     rw[show eqD (.tup _) (.tup _)=xM _ _ from rfl,vX,z1,z2]
    have r0:=RcAt.tuples h1 h2 hu0 he;have r0':=RcNeAt.tuples h1 h2 hu0 he;rw[<-ee] at r0 r0';refine⟨r0,r0',?_⟩;by_cases hpq:p=q
    .subst hpq;have hab:(ν ds)=(.tup es):=Rep.inj (n+1) ha hb rx ry;rw[<-hab,G4 (n+1) (.tup ds) ha];exact vE _
    .exact zr hpq r0
   |lst es=>
    obtain⟨q,ys,rfl,e2,r2⟩:=ry.mY (K:=X.K);cases rv;obtain⟨its2,vr2,h2⟩:=oN I e2;exact⟨RcAt.tuple_list h1 h2 hu0,RcNeAt.tuple_list h1 h2 hu0,EqAt.tuple_list h1 h2 hu0⟩
   |_=>first|exact aT ry Rep.uD|exact fx0 hb
  |lst ds=>
   obtain⟨p,xs,rfl,e1,r1⟩:=rx.mY (K:=X.K);cases ru;obtain⟨its1,vr1,h1⟩:=oN I e1;replace ha:ο _ _=ag:=ha;cases b with
   |non=>cases ry.inv;cases rv;exact⟨RcAt.list_none h1 hu0,RcNeAt.list_none h1 hu0,EqAt.list_none h1 hu0⟩
   |bl _=>cases ry.inv;cases rv;exact⟨RcAt.list_bool _ h1 hu0,RcNeAt.list_bool _ h1 hu0,EqAt.list_bool _ h1 hu0⟩
   |int _=>cases ry.inv;obtain⟨t2,rfl⟩:=rv;exact⟨RcAt.list_int _ _ h1 hu0,RcNeAt.list_int _ _ h1 hu0,EqAt.list_int _ _ h1 hu0⟩
   |str _=>cases ry.inv;obtain⟨t2,rfl⟩:=rv;exact⟨RcAt.list_str _ _ h1 hu0,RcNeAt.list_str _ _ h1 hu0,EqAt.list_str _ _ h1 hu0⟩
   |tup es=>
    obtain⟨q,ys,rfl,e2,r2⟩:=ry.lC;cases rv;obtain⟨its2,vr2,h2⟩:=t_ I e2;exact⟨RcAt.list_tuple h1 h2 hu0,RcNeAt.list_tuple h1 h2 hu0,EqAt.list_tuple h1 h2 hu0⟩
   |lst es=>
    obtain⟨q,ys,rfl,e2,r2⟩:=ry.mY (K:=X.K);cases rv;obtain⟨its2,vr2,h2⟩:=oN I e2;replace hb:ο _ _=ag:=hb;have z1:its1.toArray.size=ds.length:=by rw[cy,<-vr1.length,r1.length]
    have z2:its2.toArray.size=es.length:=by rw[cy,<-vr2.length,r2.length]
    have he:=itm ha hb r1 r2 vr1 vr2;have r00:RcAt A s (.ref p) (.ref q) (eqD (.lst ds) (.lst es))/\RcNeAt A s (.ref p) (.ref q) (!eqD (.lst ds) (.lst es)):=by
     rw[show eqD (.lst _) (.lst _)=xM _ _ from rfl,vX];by_cases hz:ds.length=es.length
     .have r0:=RcAt.lists h1 h2 0x1 hu0 he;have r0':=RcNeAt.lists h1 h2 0x1 hu0 he;rw[z1] at r0 r0';rw[show min ds.length es.length=ds.length by lia,show(ds.length==es.length)=ag by simpa using hz,Bool.and_true];exact⟨r0,r0'⟩
     .have hz':(its1.toArray.size !=its2.toArray.size)=ag:=by rw[z1,z2];simpa using hz
      rw[show(ds.length==es.length)=ah by simpa using hz,vk];exact⟨RcAt.lists_lengths h1 h2 hz' hu0,RcNeAt.lists_lengths h1 h2 hz' hu0⟩
    obtain⟨r0,r0'⟩:=r00;refine⟨r0,r0',?_⟩;by_cases hpq:p=q
    .subst hpq;have hab:(ξ ds)=(.lst es):=Rep.inj (n+1) ha hb rx ry;rw[<-hab,G4 (n+1) (.lst ds) ha];exact vE _
    .exact zr hpq r0
   |_=>first|exact aT ry Rep.uD|exact fx0 hb
  |_=>first|exact aT rx Rep.uD|exact fx0 ha
end
end
open PySem.Spec PyProof.Rows
section
variable [KFrag]
def kR(H:Hp)(d:D)(fr:aq)(Q:VK):Prop:=∀v H',dH H H'->Rep All H' v d->(fr=ag->Rep (New H) H' v d)->Q v H'
noncomputable def gE(f:FE)(fr:aq):TE:=λσ H Q=>∃ρ d,ER H σ ρ/\f ρ=.ok d/\kR H d fr Q
noncomputable def gT(f:FT):TT:=λσ H Q=>∃ρ b,ER H σ ρ/\f ρ=.ok b/\∀H',dH H H'->Q b H'
noncomputable def gA(f:FA)(fr:aq):TA:=λσ H Q=>∃ρ ds,ER H σ ρ/\f ρ=.ok ds/\∀vs H',dH H H'->cN All H' vs ds->(fr=ag->cN (New H) H' vs ds)->Q vs H'
theorem kR.self{fr:aq}(q:kR H d fr Q)(r:Rep All H v d)(r2:fr=ag->Rep (New H) H v d):Q v H:=q v H (dH.refl H) r r2
theorem kR.imp{fr fr':aq}(q:kR H d fr Q)(s:dH H H')(h:fr=ag->fr'=ag):kR H' d fr' Q:=λv H2 s2 r n=>q v H2 (s.trans s2) r λhf=>(n (h hf)).mono (dH.new s)
theorem kR.int{fr:aq}{Q:VK}(q:kR H (.int i) fr Q):Q (.int i) H:=q.self (.int i) λ_=>.int i
theorem kR.bl{fr:aq}{Q:VK}(q:kR H (.bl i) fr Q):Q (.bl i) H:=q.self (.bl i) λ_=>.bl i
theorem kR.str{fr:aq}{Q:VK}(q:kR H (.str i) fr Q):Q (.str i) H:=q.self (.str i) λ_=>.str i
theorem kR.non{fr:aq}{Q:VK}(q:kR H .non fr Q):Q .non H:=q.self .non λ_=>.non
noncomputable def r2(f:D->D->Res D)(fr:aq):R2:=λx y H Q=>∃a b d,Rep All H x a/\Rep All H y b/\f a b=.ok d/\kR H d fr Q
def r1(f:D->Res D)(fr:aq):V->Hp->VK->Prop:=λx H Q=>∃a d,Rep All H x a/\f a=.ok d/\kR H d fr Q
def rs(f:aa D->Res D)(fr:aq):aa V->Hp->VK->Prop:=λxs H Q=>∃ds d,cN All H xs ds/\f ds=.ok d/\kR H d fr Q
def rm(f:D->aa D->Res D)(fr:aq):V->aa V->Hp->VK->Prop:=λx xs H Q=>∃a ds d,Rep All H x a/\cN All H xs ds/\f a ds=.ok d/\kR H d fr Q
theorem bG{f:α->Res β}(h:(do let x <- m;f x)=.ok b):∃a,m=.ok a/\f a=.ok b:=Res.aHi h
section
variable {X:Cx} {a b e:Expr} {pos:b6} {fa fb fe:FE} {ra rb re:aq} {ga:FT}
theorem ER.var(E:ER H σ ρ)(h:cV i ρ=.ok d):∃v,σ[i]?=ae (ae v)/\Rep All H v d/\ρ.getD i .uD=d:=by
 have:ρ.getD i .uD=d/\d≠.uD:=by
  unfold cV at h;split at h
  .exact bx h
  .cases h;refine⟨rfl,λz=>?_⟩;rename_i q;exact q z
 obtain⟨e1,e2⟩:=this;obtain⟨v,h1,h2⟩:=E i (by rw[e1];exact e2);exact⟨v,h1,by rw[e1] at h2;exact h2,e1⟩
theorem aA(hN:X.N[i]?=ae x:=by exact rfl)(hv:Vis X.env.scope x:=by trivial)(hd:nDb x:=by decide)(hcd:nCd x:=by decide):PE X (.Name x pos) (gE (cV i) ah):=
 PE.imp (cZ hN hv hd hcd) λσ H Q z0=>by
  obtain⟨ρ,d,E,h,q⟩:=z0;obtain⟨v,h1,h2,_⟩:=E.var h;exact⟨v,h1,q.self h2 (λz=>by cases z)⟩
theorem aF{i j}:PE X (.Constant (.int i) j pos) (gE (bC (.int i)) ag):=PE.imp aK6 λσ H Q z0=>by obtain⟨ρ,d,E,h,q⟩:=z0;cases h;exact q.int
theorem RQ{i j}:PE X (.Constant (.bool i) j pos) (gE (bC (.bl i)) ag):=PE.imp aOp λσ H Q z0=>by obtain⟨ρ,d,E,h,q⟩:=z0;cases h;exact q.bl
theorem iQ{i j}:PE X (.Constant (.str i) j pos) (gE (bC (.str i)) ag):=PE.imp aK8 λσ H Q z0=>by obtain⟨ρ,d,E,h,q⟩:=z0;cases h;exact q.str
theorem aL6{j}:PE X (.Constant .none j pos) (gE (bC .non) ag):=PE.imp aK7 λσ H Q z0=>by obtain⟨ρ,d,E,h,q⟩:=z0;cases h;exact q.non
theorem two{fr:aq}{σ:L2.St}{H:Hp}{Q:VK}(h:gE (b2 f fa fb) fr σ H Q):tOp (r2 f fr) (gE fa ra) (gE fb rb) σ H Q:=by
 obtain⟨ρ,d,E,h,q⟩:=h;obtain⟨x,h1,h⟩:=bG h;obtain⟨y,h2,h⟩:=bG h;refine⟨ρ,x,E,h1,λv H1 s1 rp1 _=>⟨ρ,y,E.same s1,h2,λu H2 s2 rp2 _=>⟨x,y,d,rp1.same s2,rp2,h,q.imp (s1.trans s2) id⟩⟩⟩
theorem aN{o:Operator}{f:D->D->Res D}{fr:aq}(ho:OpR X (en o) (r2 f fr))(ha:PE X a (gE fa ra))(hb:PE X b (gE fb rb)):PE X (.BinOp a o b pos) (gE (b2 f fa fb) fr):=PE.imp (aGy ho ha hb) λ_ _ _=>two
theorem FQ{o:oI}{f:D->D->Res D}{fr:aq}(ho:OpR X (eu o) (r2 f fr))(ha:PE X a (gE fa ra))(hb:PE X b (gE fb rb))(hm:jj o b=ah):PE X (.Compare a [o] [b] pos) (gE (b2 f fa fb) fr):=PE.imp (aH0 ho ha hb hm) λ_ _ _=>two
theorem bF{o:oI}{f:D->D->Res D}{fr:aq}(ho:OpR X (eu o) (r2 f fr))(ha:PE X a (gE fa ra))(hb:PE X b (gE fb rb))(hm:jj o b=ah):PT X (.Compare a [o] [b] pos) (gT (bTB (b2 f fa fb))):=
 PT.imp (ZD ho ha hb hm) λσ H Q z0=>by
  obtain⟨ρ,k,E,h,q⟩:=z0;obtain⟨d,h1,h2⟩:=bG h;refine two ⟨ρ,d,E,h1,λv H' s r _=>?_⟩;cases d<;>simp only[asB] at h2<;>cases h2
  cases r.inv;exact⟨_,rfl,q H' s⟩
theorem yV{f:D->Res D}{fr:aq}(ho:UnR X (nS o) (r1 f fr))(ha:PE X a (gE fa ra)):PE X (.UnaryOp o a pos) (gE (b1 f fa) fr):=
 PE.imp (aOv ho ha) λσ H Q z0=>by
  obtain⟨ρ,d,E,h,q⟩:=z0;obtain⟨x,h1,h⟩:=bG h;exact⟨ρ,x,E,h1,λv H1 s1 rp1 _=>⟨x,d,rp1,h,q.imp s1 id⟩⟩
theorem aP9{f:D->D->Res D}{fr:aq}(ho:IxR X (r2 f fr))(ha:PE X a (gE fa ra))(hb:PE X b (gE fb rb))(hs:GR b):PE X (.Subscript a b pos) (gE (b2 f fa fb) fr):=PE.imp (aKr ho ha hb hs) λ_ _ _=>two
theorem aS4(r:Rep All H v d)(h:aQh d=.ok k)(hd:∀kvs,d≠.dct kvs)(hs:∀xs,d≠.scr xs):aOy X.K v H k:=by
 cases r with
 |non=>cases h;rfl
 |bl b=>cases h;rfl
 |int i=>cases h;rfl
 |str x=>
  replace h:(if ϒ (x.length<=lim) then δ ((x.length:ai)!=0) else .bad)=.ok k:=h;split at h
  .rename_i hl;cases h;exact⟨dh (c9 hl) (by rw[d4];decide),rfl⟩
  .exact bx h
 |tup e rr=>cases h;exact .inr (.inl ⟨_,.of e,by cases rr<;>rfl⟩)
 |lst e p rr=>cases h;exact .inl ⟨_,.of e,by cases rr<;>rfl⟩
 |frz e rr=>exact aT rfl (hs _)
 |dK e p rr n=>exact aT rfl (hd _)
 |dT e p rr n=>exact aT rfl (hd _)
 |exc n e q=>exact bx h
 |ins n e q=>exact bx h
 |cel e p rr=>exact bx h
theorem MP(ha:PE X a (gE fa ra))(he:∀whole,nB a X.env whole=(do let v <- whole;um a.pos;lw [v] (truthy v)):=by intro _;rfl):PT X a (gT (bTr fa)):=
 PT.imp (aD3 ha he) λσ H Q z0=>by
  obtain⟨ρ,k,E,h,q⟩:=z0;obtain⟨d,h1,h2⟩:=bG h;refine⟨ρ,d,E,h1,λv H' s r _=>⟨k,aS4 r ?_ ?_ ?_,q H' s⟩⟩
  .cases d<;>first|exact h2|exact bx h2
  .rintro kvs rfl;exact bx h2
  .rintro kvs rfl;exact bx h2
theorem aFs(ha:PT X a (gT ga)):PT X (.UnaryOp .Not a pos) (gT (aL3 ga)):=PT.imp (aKb ha) λσ H Q z0=>by
  obtain⟨ρ,k,E,h,q⟩:=z0;obtain⟨d,h1,h2⟩:=bG h;cases h2;exact⟨ρ,d,E,h1,λH' s=>q H' s⟩
theorem aFt{op}(ha:PE X a (gE fa ra)):PE X (.BoolOp op [a] pos) (gE fa ra):=aKc ha
theorem aFu(h:asB d=.ok k):d=.bl k:=by cases d<;>simp only[asB] at h<;>cases h;rfl
theorem aL7(h:asI d=.ok k):d=.int k:=by cases d<;>simp only[asI] at h<;>cases h;rfl
theorem Z9{rest:aa Expr}(ha:PE X a (gE fa ra))(hb:PE X (.BoolOp .And (b::rest) pos) (gE fb rb)):PE X (.BoolOp .And (a::b::rest) pos) (gE (W7 fa fb) rb):=PE.imp (aKd ha hb) λσ H Q z0=>by
  obtain⟨ρ,k,E,h,q⟩:=z0;obtain⟨d,h1,h⟩:=bG h;obtain⟨z,h2,h3⟩:=bG h;cases aFu h2;refine⟨ρ,_,E,h1,λv H' s r _=>?_⟩;cases r.inv;refine⟨_,rfl,?_⟩;cases z with
  |true=>rw[ar rfl];rw[ar rfl] at h3;exact⟨ρ,k,E.same s,h3,q.imp s id⟩
  |false=>rw[aw 0x2];rw[aw 0x2] at h3;cases h3;exact(q.imp s id).bl
theorem aH:PA X [] (gA aR ag):=PA.imp jH λσ H Q z0=>by obtain⟨ρ,ds,E,h,q⟩:=z0;cases h;exact q [] H (dH.refl H) .nil λ_=>.nil
theorem aB(he:PE X e (gE fe re))(hes:PA X es (gA f r))(hs:zSE X e es:=by rfl):PA X (e::es) (gA (aC fe f) (re&&r)):=PA.imp (bV he hes hs) λσ H Q z0=>by
  obtain⟨ρ,ds,E,h,q⟩:=z0;obtain⟨x,h1,h⟩:=bG h;obtain⟨xs,h2,h⟩:=bG h;cases h;refine⟨ρ,x,E,h1,λv H1 s1 r1 n1=>⟨ρ,xs,E.same s1,h2,λvs H2 s2 r2 n2=>q _ _ (s1.trans s2) (.cons (r1.same s2) r2) λhf=>?_⟩⟩;obtain⟨f1,f2⟩:=(bf _ _▸hf:re=ag/\r=ag)
  exact .cons ((n1 f1).same s2) ((n2 f2).mono (dH.new s1))
theorem b8{x1}(h:PA X es (gA f r)):PE X (.Tuple es x1 pos) (gE (fM f) r):=PE.imp (aFk h) λσ H Q z0=>by
  obtain⟨ρ,d,E,h,q⟩:=z0;obtain⟨xs,h1,h⟩:=bG h;split at h
  .rename_i hl;cases h;refine⟨ρ,xs,E,h1,λvs H1 s1 r1 n1=>⟨?_,λp hp=>?_⟩⟩
   .rw[r1.length];exact dh (c9 hl) (by rw[d4];decide)
   .have sp:dH H1 (upd H1 p (.tup vs)):=dH.upd hp;exact q _ _ (s1.trans sp) (.tup aO (r1.same sp)) λhf=>.tup aO ((n1 hf).same sp)
  .exact bx h
theorem iB(h:PA X es (gA f r)):PE X (.List es pos) (gE (sW f) r):=PE.imp (TX h) λσ H Q z0=>by
  obtain⟨ρ,d,E,h,q⟩:=z0;obtain⟨xs,h1,h⟩:=bG h;split at h
  .rename_i hl;cases h;refine⟨ρ,xs,E,h1,λvs H1 s1 r1 n1=>⟨?_,λp hp=>?_⟩⟩
   .rw[r1.length];exact dh (c9 hl) (by rw[d4];decide)
   .have sp:dH H1 (upd H1 p (.lst vs)):=dH.upd hp;exact q _ _ (s1.trans sp) (.lst aO trivial (r1.same sp)) λhf=>.lst aO (s1.free hp) ((n1 hf).same sp)
  .exact bx h
theorem UL:PE X (.Dict [] [] pos) (gE (bC (.dct [])) ag):=PE.imp aDa λσ H Q z0=>by
  obtain⟨ρ,d,E,h,q⟩:=z0;cases h;exact λp hp=>q _ _ (dH.upd hp) (.dK aO trivial .nil ig) λ_=>.dK aO hp .nil ig
end
section
variable {a b e:Expr}
theorem nO(h:ϒ (n<=lim)=ag):n<=aI:=dh (c9 h) (by rw[d4];decide)
theorem UT(h:ϒ (n<lim)=ag):n<aI:=dP (c9 h) (by rw[d4];decide)
theorem Rep.aL8(r:Rep P H v (.lst ds)):∃a xs,v=.ref a/\Rd H a (.lst xs)/\cN P H xs ds:=by
 cases r with
 |lst e p rr=>exact⟨_,_,rfl,.inl e,rr⟩
theorem PW.imp(h:PW X e t)(i:∀σ H Q,t' σ H Q->t σ H Q):PW X e t':=λwh Ψ s σ H Q I q=>h wh Ψ s σ H Q I (i σ H Q q)
theorem oO(ha:PT X a (gT ga)):PW X (.BoolOp .And [a] pos) (gT ga):=aGv ha
theorem MT(ha:PT X a (gT ga)):PW X (.BoolOp .Or [a] pos) (gT ga):=aK9 ha
theorem wW{rest:aa Expr}(ha:PT X a (gT ga))(hb:PW X (.BoolOp .And (b::rest) pos) (gT gb)):PW X (.BoolOp .And (a::b::rest) pos) (gT (KY ga gb)):=PW.imp (aKa ha hb) λσ H Q z0=>by
 obtain⟨ρ,k,E,h,q⟩:=z0;obtain⟨z,h1,h3⟩:=bG h;refine⟨ρ,z,E,h1,λH' s=>?_⟩;cases z with
 |true=>rw[ar rfl];rw[ar rfl] at h3;exact⟨ρ,k,E.same s,h3,λH2 s2=>q H2 (s.trans s2)⟩
 |false=>rw[aw 0x2];rw[aw 0x2] at h3;cases h3;exact q H' s
theorem Z_{rest:aa Expr}(ha:PT X a (gT ga))(hb:PW X (.BoolOp .Or (b::rest) pos) (gT gb)):PW X (.BoolOp .Or (a::b::rest) pos) (gT (bOr ga gb)):=PW.imp (aOq ha hb) λσ H Q z0=>by
 obtain⟨ρ,k,E,h,q⟩:=z0;obtain⟨z,h1,h3⟩:=bG h;refine⟨ρ,z,E,h1,λH' s=>?_⟩;cases z with
 |true=>rw[ar rfl];rw[ar rfl] at h3;cases h3;exact q H' s
 |false=>rw[aw 0x2];rw[aw 0x2] at h3;exact⟨ρ,k,E.same s,h3,λH2 s2=>q H2 (s.trans s2)⟩
theorem aZ:OpR X (en .Add) (r2 (aW .add) ag):=by
 intro Ψ s σ H x y v u Q I rx ry h;obtain⟨a,b,d,p,q,e,k⟩:=h;cases p with
 |int i=>
  cases q with
  |int j=>cases e;exact aKh Ψ s σ H _ _ v u Q I rx ry ⟨i,j,rfl,rfl,k.int⟩
  |_=>exact bx e
 |str i=>
  cases q with
  |str j=>
   replace e:(if ϒ (i.length+j.length<=lim) then δ (ι (i++j)) else .bad)=.ok d:=e;split at e
   .rename_i hl;cases e;exact WR Ψ s σ H _ _ v u Q I rx ry ⟨i,j,rfl,rfl,nO hl,k.str⟩
   .exact bx e
  |_=>exact bx e
 |non=>exact bx e
 |bl _=>exact bx e
 |tup _ _=>exact bx e
 |dK _ _ _ _=>exact bx e
 |dT _ _ _ _=>exact bx e
 |exc _ _ _=>exact bx e
 |ins _ _ _=>exact bx e
 |cel _ _ _=>exact bx e
 |@lst a1 xs ds e1 p1 r1=>
  have hR:Rep All H (.ref a1) (.lst ds):=.lst e1 p1 r1;cases b with
  |lst es=>
   replace e:(if ϒ (ds.length+es.length<=lim)&&θ ds&&θ es then δ (ξ (ds++es)) else .bad)=.ok d:=e;split at e
   .rename_i hl;cases e;rw[bf,bf] at hl;obtain⟨⟨hl,hp1⟩,hp2⟩:=hl;obtain⟨l1,xs1,e1',rd1,rr1⟩:=hR.aL8;obtain⟨l2,xs2,rfl,rd2,rr2⟩:=q.aL8;cases e1';cases rx;cases ry;obtain⟨z,its,n,vr1,ee1⟩:=rd1.ok I.hok;obtain⟨z2,its2,n2,vr2,ee2⟩:=rd2.ok I.hok;have hz:xs1.length+xs2.length<=aI:=by rw[rr1.length,rr2.length];exact nO hl
    have t1:=vr1.length;have t2:=vr2.length;refine PySem.P.add_list ee1 ee2 ?_ (by rw[cy,cy];lia);have ea:its.toArray++its2.toArray=(its++its2).toArray:=by simp
    rw[ea];refine⟨.ref _,_,I.aRz (vr1.append vr2) (by rw[bz];lia),rfl,?_⟩;have sp:dH H (upd H s.heap.objs.size (.lst (xs1++xs2))):=dH.upd I.fresh;exact k _ _ sp (.lst aO trivial ((rr1.append rr2).same sp)) λ_=>.lst aO I.fresh (((rr1.cJ hp1).append (rr2.cJ hp2)).same sp)
   .exact bx e
  |_=>exact bx e
 |frz _ _=>exact bx e
theorem RT(h:OpR X f (rI C g))
 (hi:∀i j d,op (.int i) (.int j)=.ok d->C i j/\∃k,d=.int k/\g i j=.int k)(hn:∀a b d,op a b=.ok d->(∃i,a=.int i)/\∃j,b=.int j):OpR X f (r2 op ag):=by
 rintro Ψ s σ H x y v u Q I rx ry ⟨a,b,d,p,q,e,k⟩;obtain⟨⟨i,rfl⟩,⟨j,rfl⟩⟩:=hn a b d e;cases p.inv;cases q.inv;obtain⟨hc,m,rfl,hm⟩:=hi i j d e;exact h Ψ s σ H _ _ v u Q I rx ry ⟨i,j,rfl,rfl,hc,by rw[hm];exact k.int⟩
theorem yD(ho:o≠.add){a b d:D}(e:aW o a b=.ok d):(∃i,a=.int i)/\∃j,b=.int j:=by
 cases a with
 |int i=>
  cases b with
  |int j=>exact⟨⟨i,rfl⟩,j,rfl⟩
  |_=>cases o<;>first|exact bx e|exact aT rfl ho
 |_=>cases o<;>first|exact bx e|exact aT rfl ho
theorem uA:OpR X (en .Sub) (r2 (aW .sub) ag):=by
 rintro Ψ s σ H x y v u Q I rx ry ⟨a,b,d,p,q,e,k⟩;obtain⟨⟨i,rfl⟩,j,rfl⟩:=yD 0x4 e;cases p.inv;cases q.inv;cases e;exact aKi Ψ s σ H _ _ v u Q I rx ry ⟨_,_,rfl,rfl,k.int⟩
theorem aL9:OpR X (en .Mult) (r2 (aW .mul) ag):=by
 refine RT aKj (λi j d e=>?_) λa b d e=>yD 0x4 e
 .replace e:(if kE i||kE j then δ (τ (i*j)) else .bad)=.ok d:=e;split at e
  .rename_i hl;cases e;refine⟨?_,_,rfl,rfl⟩;simp only[kE,dm,bf,eD] at hl;exact hl
  .exact bx e
theorem cR:OpR X (en .FloorDiv) (r2 (aW .fdiv) ag):=by
 refine RT aGz (λi j d e=>?_) λa b d e=>yD 0x4 e
 .replace e:(if ϒ (0<j)&&ϒ (j<1073741824) then δ (τ (i / j)) else .bad)=.ok d:=e;split at e
  .rename_i hl;cases e;refine⟨?_,_,rfl,rfl⟩;simp only[bf,eD] at hl;exact hl
  .exact bx e
theorem bQ:OpR X (en .Mod) (r2 (aW .mod) ag):=by
 refine RT aKk (λi j d e=>?_) λa b d e=>yD 0x4 e
 .replace e:(if ϒ (0<j) then δ (τ (i % j)) else .bad)=.ok d:=e;split at e
  .rename_i hl;cases e;refine⟨?_,_,rfl,rfl⟩;simp only[bf,eD] at hl;exact hl
  .exact bx e
theorem oR:UnR X (nS .USub) (r1 B_ ag):=by
 rintro Ψ s σ H x v Q I rx ⟨a,d,p,e,k⟩;cases a<;>try exact bx e
 cases e;cases p.inv;exact aKl Ψ s σ H _ v Q I rx ⟨_,rfl,k.int⟩
theorem dU(hu:X.A.units+20<dL):OpR X (eu .Eq) (r2 (cX .eq) ag):=by
 rintro Ψ s σ H x y v u Q I rx ry ⟨a,b,d,p,q,e,k⟩;replace e:(if a.jF bI&&b.jF bI then δ (υ (eqD a b)) else .bad)=.ok d:=e;split at e
 .rename_i hl;cases e;rw[bf] at hl;exact(Z8 I bI X.A (by have:bI=12:=rfl;lia) hl.1 hl.2 p q rx ry).1 X.prog X.w X.xe _ ⟨.bl _,H,I,rfl,k.bl⟩
 .exact bx e
theorem uH(hu:X.A.units+20<dL):OpR X (eu .NotEq) (r2 (cX .ne) ag):=by
 rintro Ψ s σ H x y v u Q I rx ry ⟨a,b,d,p,q,e,k⟩;replace e:(if a.jF bI&&b.jF bI then δ (υ (!eqD a b)) else .bad)=.ok d:=e;split at e
 .rename_i hl;cases e;rw[bf] at hl;exact(Z8 I bI X.A (by have:bI=12:=rfl;lia) hl.1 hl.2 p q rx ry).2.1 X.prog X.w X.xe _ ⟨.bl _,H,I,rfl,k.bl⟩
 .exact bx e
end
end
variable [KFrag]
theorem aA0(k q:Key):eqD (kD k) (kD q)=ϒ (k=q):=by
 cases k<;>cases q<;>simp[kD,aKx,aKy,aKz,aL0,Bool.beq_eq_decide_eq]
theorem aFv:∀(k q:aa Key),xM (k.map kD) (q.map kD)=ϒ (k=q)
 |[],[]=>by simp[xM]
 |[],_::_=>by simp[xM]
 |_::_,[]=>by simp[xM]
 |a::k,b::q=>by
  rw[bc,bc,xM,aA0,aFv k q];by_cases h:a=b<;>by_cases h':k=q<;>simp[h,h']
theorem aHo(k q:aa Key):eqD (.tup (k.map kD)) (.tup (q.map kD))=ϒ (k=q):=by rw[aL1,aFv]
theorem aHp:∀{kvs:aa (Key×V)}{ds:aa (D×D)},n6 P H kvs ds->(∃v d,E_ kvs k=ae v/\dB ds (kD k)=ae d/\Rep P H v d)\/(E_ kvs k=aj/\dB ds (kD k)=aj)
 |_,_,.nil=>.inr ⟨rfl,rfl⟩
 |_,_,.cons (k:=k') r t=>by
  by_cases h:k'=k
  .subst h;exact .inl ⟨_,_,uQ rfl,by rw[dB,aA0,ar 0x2],r⟩
  .rw[dB,aA0,aw (by simpa using h),uR h];exact aHp t
theorem aHq:∀{kvs:aa (aa Key×V)}{ds:aa (D×D)},wV P H kvs ds->(∃v d,E_ kvs k=ae v/\dB ds (.tup (k.map kD))=ae d/\Rep P H v d)\/(E_ kvs k=aj/\dB ds (.tup (k.map kD))=aj)
 |_,_,.nil=>.inr ⟨rfl,rfl⟩
 |_,_,.cons (k:=k') r t=>by
  by_cases h:k'=k
  .subst h;exact .inl ⟨_,_,uQ rfl,by rw[dB,aHo,ar 0x2],r⟩
  .rw[dB,aHo,aw (by simpa using h),uR h];exact aHq t
theorem G5(h:oM d=ag)(r:Rep All H v d):∃k,v=kV k/\d=kD k:=by
 cases r<;>simp[oM] at h
 .exact⟨.inl _,rfl,rfl⟩
 .exact⟨.inr _,rfl,rfl⟩
theorem flat_keys:∀{vs:aa V}{ds:aa D},ds.all oM=ag->cN All H vs ds->∃ks:aa Key,vs=ks.map kV/\ds=ks.map kD
 |_,_,_,.nil=>⟨[],rfl,rfl⟩
 |_,_,h,.cons r t=>by
  rw[gj,bf] at h;obtain⟨k,rfl,rfl⟩:=G5 h.1 r;obtain⟨ks,rfl,rfl⟩:=flat_keys h.2 t;exact⟨k::ks,rfl,rfl⟩
theorem mZ(h:keyOk k=ag)(r:Rep All H y k):(∃q,y=kV q/\k=kD q)\/∃(b:ak)(ks:aa Key),y=.ref b/\H b=ae (.tup (ks.map kV))/\k=.tup (ks.map kD):=by
 cases k<;>simp[keyOk] at h
 .exact .inl (G5 rfl r)
 .exact .inl (G5 rfl r)
 .obtain⟨a,xs,rfl,e,rr⟩:=r.lC;obtain⟨ks,rfl,rfl⟩:=flat_keys (fT.mpr h) rr;exact .inr ⟨a,ks,rfl,e,rfl⟩
theorem p_(k:Key):isTup (kD k)=ah:=by cases k<;>rfl
section
variable {a:ak}
theorem G6(e:H a=ae o):upd (upd H a o') a o=H:=by
 rw[Q5]
 funext b
 by_cases h:b=a
 .subst h;rw[aO,e]
 .rw[bY h]
theorem q_(I:Inv X Ψ σ H s)(e:H a=ae (.dK [])):Inv X Ψ σ (upd H a (.dT [])) s:=by
 obtain⟨z,hd,vs,rel,o,es,ep,h1,h2,h3,h4,h5,h6⟩:=W4 I.hok e;cases rel;refine I.write (by rw[e];trivial) (.inl rfl) (λ_ _ _ q=>q) ⟨o,h1⟩ ?_;refine⟨gw _,hd,[],.nil,o,es,ep,h1,h2,h3,?_,ig⟩;cases h5':es.toList with
 |nil=>rfl
 |cons _ _=>rw[h5'] at h5;cases h5
theorem sE(I:Inv X Ψ σ H s)(e:H a=ae (.dT [])):Inv X Ψ σ (upd H a (.dK [])) s:=by
 obtain⟨z,hd,vs,rel,o,es,ep,h1,h2,h3,h4,h5,h6⟩:=aHb I.hok e;cases rel;refine I.write (by rw[e];trivial) (.inl rfl) (λ_ _ _ q=>q) ⟨o,h1⟩ ?_;have h0:es.toList=[]:=h4;refine⟨gw _,hd,[],.nil,o,es,ep,h1,h2,h3,?_,?_,ig⟩
 .intro x hx;have:x∈es.toList:=by simpa using hx
  rw[h0] at this;cases this
 .rw[h0];exact .nil
theorem UV:∀{kvs:aa (Key×V)}{ds:aa (D×D)},n6 P H kvs ds->∀p∈ds,isTup p.1=ah
 |_,_,.nil,_,h=>by cases h
 |_,_,.cons r t,p,h=>by
  rcases bt.mp h with rfl|h
  .exact p_ _
  .exact UV t p h
theorem UW:∀{kvs:aa (aa Key×V)}{ds:aa (D×D)},wV P H kvs ds->∀p∈ds,isTup p.1=ag
 |_,_,.nil,_,h=>by cases h
 |_,_,.cons r t,p,h=>by
  rcases bt.mp h with rfl|h
  .rfl
  .exact UW t p h
theorem aHr(I:Inv X Ψ σ H s)(rd:Rep All H x (.dct ds))(rk:Rep All H y k)(hk:wU ds k=ag) :
  ∃H1 a o,x=.ref a/\Inv X Ψ σ H1 s/\(∀s',Inv X Ψ σ H1 s'->Inv X Ψ σ H s')/\ZQ H1 a y o/\((o=aj/\dB ds k=aj)\/∃v d,o=ae v/\dB ds k=ae d/\Rep All H v d):=by
 unfold wU at hk;rw[bf] at hk;obtain⟨h1,h2⟩:=hk;cases rd with
 |@dK a kvs ds e _ r n=>
  rcases mZ h1 rk with ⟨q,rfl,rfl⟩|⟨b,ks,rfl,eb,rfl⟩
  .refine⟨H,a,_,rfl,I,λ_ h=>h,.k e,?_⟩;rcases aHp r with ⟨v,d,g1,g2,g3⟩|⟨g1,g2⟩
   .exact .inr ⟨v,d,g1,g2,g3⟩
   .exact .inl ⟨g1,g2⟩
  .cases r with
   |nil=>
    have e2:=G6 (o':=.dT []) e;refine⟨upd H a (.dT []),a,aj,rfl,q_ I e,λs' I'=>?_,.t (k:=ks) aO (by rw[bY (aGt eb e 0x7)];exact eb),.inl ⟨rfl,rfl⟩⟩;have:=sE I' aO;rwa [e2] at this
   |cons r t=>
    rw[gj,p_] at h2;simp[isTup] at h2
 |@dT a kvs ds e _ r n=>
  rcases mZ h1 rk with ⟨q,rfl,rfl⟩|⟨b,ks,rfl,eb,rfl⟩
  .cases r with
   |nil=>
    have e2:=G6 (o':=.dK []) e;refine⟨upd H a (.dK []),a,aj,rfl,sE I e,λs' I'=>?_,.k (k:=q) aO,.inl ⟨rfl,rfl⟩⟩;have:=q_ I' aO;rwa [e2] at this
   |cons r t=>
    rw[gj,p_] at h2;simp[isTup] at h2
  .refine⟨H,a,_,rfl,I,λ_ h=>h,.t e eb,?_⟩;rcases aHq (k:=ks) r with ⟨v,d,g1,g2,g3⟩|⟨g1,g2⟩
   .exact .inr ⟨v,d,g1,g2,g3⟩
   .exact .inl ⟨g1,g2⟩
theorem aDg(rd:Rep All H x (.dct ds))(hk:keyOk k=ag)(h:dB ds k=ae d):wU ds k=ag:=by
 have one:∀{ds:aa (D×D)},dB ds k=ae d->∃p∈ds,eqD p.1 k=ag:=by
  intro ds;induction ds with
  |nil=>intro h;cases h
  |cons p ds ih=>
   intro h;obtain⟨p1,p2⟩:=p;rw[dB] at h;by_cases hq:eqD p1 k=ag
   .exact⟨_,bq ..,hq⟩
   .rw[aw hq] at h;obtain⟨p,hp,e⟩:=ih h;exact⟨p,cr _ hp,e⟩
 obtain⟨p,hp,he⟩:=one h;unfold wU;rw[hk,jt,fT];intro q hq;have same:isTup p.1=isTup k:=by
  obtain⟨p1,p2⟩:=p;cases k with
  |int _=>cases p1<;>first|rfl|exact fx0 he
  |str _=>cases p1<;>first|rfl|exact fx0 he
  |tup _=>cases p1<;>first|rfl|exact fx0 he
  |_=>exact fx0 hk
 cases rd with
 |dK e _ r n=>rw[UV r q hq,<-same,UV r p hp];rfl
 |dT e _ r n=>rw[UW r q hq,<-same,UW r p hp];rfl
end
section
variable {X:Cx} {a b c e:Expr} {pos:b6} {fa fb:FE} {ra rb:aq}
def QV(H:Hp)(u:am):D:=by
 classical
 exact if h:∃d,d.jF bI=ag/\∃v,RelV v u/\Rep All H v d then BH h else .non
theorem aA1(hq:d.jF bI=ag)(rv:RelV v u)(r:Rep All H v d):QV H u=d:=by
 unfold QV;have h:∃d,d.jF bI=ag/\∃v,RelV v u/\Rep All H v d:=⟨d,hq,v,rv,r⟩
 rw[dif_pos h];obtain⟨h2,v',rv',r'⟩:=BI h;have:=rv'.inj rv;subst this;exact Rep.inj bI h2 hq r' r
theorem yW{a:D}:∀{xs:aa V}{ds:aa D}{its:aa am},ο bI ds=ag->cN All H xs ds->Vals xs its->(its.any λu=>eqD (QV H u) a)=ds.any λy=>eqD y a
 |_,_,_,_,.nil,.nil=>rfl
 |_,_,_,h,.cons r t,.cons v vt=>by
  rw[ο,bf] at h;rw[i6,i6,aA1 h.1 v r,yW h.2 t vt]
theorem G7{s:au}(I:Inv X Ψ σ H s)(hu:X.A.units+20<dL){a:D}{x:V}{v:am}(ha:a.jF bI=ag)(rx:Rep All H x a)(rv:RelV x v)
 {xs:aa V}{ds:aa D}{its:aa am}(h:ο bI ds=ag)(r:cN All H xs ds)(vr:Vals xs its)(u:am)(hm:u∈its):EqAt X.A.in1 s u v (eqD (QV H u) a):=by
 obtain⟨j,hj,e⟩:=List.getElem_of_mem hm;have hj':j<ds.length:=by rw[<-r.length,vr.length];exact hj
 obtain⟨w,h1,h2⟩:=r.get (i:=j) (d:=ds[j]) (by simp[hj']);obtain⟨u',h3,h4⟩:=vr.get h1;rw[cq hj,e] at h3;cases h3;have hd:ds[j].jF bI=ag:=by
  have:=uU h hj';rwa [de,cq hj'] at this
 rw[aA1 hd h4 h2];exact(Z8 I bI X.A.in1 (by show X.A.units+1+12<dL;lia) hd ha h2 rx h4 rv).2.2
theorem aLa(hu:X.A.units+20<dL):OpR X (eu .In) (r2 (cX .isin) ag):=by
 rintro Ψ s σ H x y v u Q I rx ry ⟨a,b,d,p,q,e,k⟩;cases b with
 |tup ys=>
  replace e:(if a.jF bI&&ο bI ys then δ (υ (ys.any λy=>eqD y a)) else .bad)=.ok d:=e;split at e
  .rename_i hl;cases e;rw[bf] at hl;obtain⟨l,xs,rfl,ee,rr⟩:=q.lC;cases ry;obtain⟨its,vr,pl⟩:=t_ I ee;refine in_tupleAt (λu=>eqD (QV H u) a) pl (λw hw=>G7 I hu hl.1 p rx hl.2 rr vr w (by simpa using hw)) ⟨.bl _,H,I,rfl,?_⟩;rw[show its.toArray.any (λu=>eqD (QV H u) a)=its.any (λu=>eqD (QV H u) a) by simp,yW hl.2 rr vr];exact k.bl
  .cases e
 |lst ys=>
  replace e:(if a.jF bI&&ο bI ys then δ (υ (ys.any λy=>eqD y a)) else .bad)=.ok d:=e;split at e
  .rename_i hl;cases e;rw[bf] at hl;obtain⟨l,xs,rfl,ee,rr⟩:=q.mY;cases ry;obtain⟨its,vr,pl⟩:=oN I ee;refine in_listAt (λu=>eqD (QV H u) a) pl (λw hw=>G7 I hu hl.1 p rx hl.2 rr vr w (by simpa using hw)) ⟨.bl _,H,I,rfl,?_⟩;rw[show its.toArray.any (λu=>eqD (QV H u) a)=its.any (λu=>eqD (QV H u) a) by simp,yW hl.2 rr vr];exact k.bl
  .cases e
 |dct kvs=>
  replace e:(if wU kvs a then δ (υ ((dB kvs a).isSome)) else .bad)=.ok d:=e;split at e
  .rename_i hl;cases e;obtain⟨H1,a1,o,rfl,I1,bk,g,hc⟩:=aHr I q p hl;cases ry;refine aS1 0x1 I1 g rx λs' I'=>⟨.bl _,H,bk s' I',rfl,?_⟩
   rcases hc with ⟨rfl,h2⟩|⟨w,dd,rfl,h2,_⟩
   .rw[h2] at k;exact k.bl
   .rw[h2] at k;exact k.bl
  .cases e
 |_=>exact bx e
theorem uV(hu:X.A.units+20<dL):OpR X (eu .NotIn) (r2 (cX .notin) ag):=by
 rintro Ψ s σ H x y v u Q I rx ry ⟨a,b,d,p,q,e,k⟩;cases b with
 |tup ys=>
  replace e:(if a.jF bI&&ο bI ys then δ (υ (!(ys.any λy=>eqD y a))) else .bad)=.ok d:=e;split at e
  .rename_i hl;cases e;rw[bf] at hl;obtain⟨l,xs,rfl,ee,rr⟩:=q.lC;cases ry;obtain⟨its,vr,pl⟩:=t_ I ee;refine notIn_tupleAt (λu=>eqD (QV H u) a) pl (λw hw=>G7 I hu hl.1 p rx hl.2 rr vr w (by simpa using hw)) ⟨.bl _,H,I,rfl,?_⟩;rw[show its.toArray.any (λu=>eqD (QV H u) a)=its.any (λu=>eqD (QV H u) a) by simp,yW hl.2 rr vr];exact k.bl
  .cases e
 |lst ys=>
  replace e:(if a.jF bI&&ο bI ys then δ (υ (!(ys.any λy=>eqD y a))) else .bad)=.ok d:=e;split at e
  .rename_i hl;cases e;rw[bf] at hl;obtain⟨l,xs,rfl,ee,rr⟩:=q.mY;cases ry;obtain⟨its,vr,pl⟩:=oN I ee;refine notIn_listAt (λu=>eqD (QV H u) a) pl (λw hw=>G7 I hu hl.1 p rx hl.2 rr vr w (by simpa using hw)) ⟨.bl _,H,I,rfl,?_⟩;rw[show its.toArray.any (λu=>eqD (QV H u) a)=its.any (λu=>eqD (QV H u) a) by simp,yW hl.2 rr vr];exact k.bl
  .cases e
 |dct kvs=>
  replace e:(if wU kvs a then δ (υ (!((dB kvs a).isSome))) else .bad)=.ok d:=e;split at e
  .rename_i hl;cases e;obtain⟨H1,a1,o,rfl,I1,bk,g,hc⟩:=aHr I q p hl;cases ry;refine aHc 0x1 I1 g rx λs' I'=>⟨.bl _,H,bk s' I',rfl,?_⟩
   rcases hc with ⟨rfl,h2⟩|⟨w,dd,rfl,h2,_⟩
   .rw[h2] at k;exact k.bl
   .rw[h2] at k;exact k.bl
  .cases e
 |_=>exact bx e
theorem aLb(xs:aa α)(i:ai):L2.atI xs i=(ixD xs.length i).bind λj=>xs[j]?:=rfl
theorem cN.atI(r:cN P H xs ds)(h:((ixD ds.length i).bind λj=>ds[j]?)=ae d):∃v,L2.atI xs i=ae v/\Rep P H v d:=by
 rw[aLb,r.length];cases hi:ixD ds.length i with
 |none=>rw[hi] at h;cases h
 |some j=>
  rw[hi] at h;obtain⟨v,h1,h2⟩:=r.get h;exact⟨v,h1,h2⟩
theorem M3{a:ak}{y v':V}{u:am}{Q:VK}(hu:X.A.units+20<dL)(I:Inv X Ψ σ H s)(g:ZQ H a y (ae v'))(ry:RelV y u){H':Hp}
 (hs:oj slice ah (.ref a) u=vf [.ref a,u] (jk (.ref a) u))(bk:∀s',Inv X Ψ σ H s'->Inv X Ψ σ H' s')(q:Q v' H') :
  ϑ (ax X.prog X.w) X.A (oh value slice (.ref a) u) (EP X Ψ σ Q) X.xe s:=by
 have hT:=RB I g;unfold oh;refine ao ?_;rw[getitemInPython_of_ne hT.not_modules];refine ao (ju hT PySem.F.slot_dict_getitem.lookup ?_);have fin:ϑ (ax X.prog X.w) X.A (oj slice ah (.ref a) u) (λr s₃=>ϑ (ax X.prog X.w) X.A (letTemporaryGo value (.ref a) r >>= λ_=>pure r) (EP X Ψ σ Q) X.xe s₃) X.xe s:=by
  rw[hs];exact wpAny_operating (ZR 0x1 I g ry λw' s3 I3 rw'=>ao (wpAny_letTemporaryGo (aS ⟨v',H',bk s3 I3,rw',q⟩)))
 first
  |exact aS (ao fin)
  |exact ao (aS (ao fin))
  |exact ao fin
theorem U0:∀{ds:aa (D×D)},keyOk k=ag->dB ds k=ae d->∃p∈ds,isTup p.1=isTup k
 |[],_,h=>by cases h
 | (p1,p2)::ds,hk,h=>by
  rw[dB] at h;by_cases hq:eqD p1 k=ag
  .refine⟨_,bq ..,?_⟩;cases k with
   |int _=>cases p1<;>first|rfl|exact fx0 hq
   |str _=>cases p1<;>first|rfl|exact fx0 hq
   |tup _=>cases p1<;>first|rfl|exact fx0 hq
   |_=>exact fx0 hk
  .rw[aw hq] at h;obtain⟨p,hp,e⟩:=U0 hk h;exact⟨p,cr _ hp,e⟩
theorem aLc(hK:KFrag.K=X.K)(hu:X.A.units+20<dL):IxR X (r2 getD ah):=by
 rintro value slice Ψ s σ H x y v u Q I rx ry ⟨a,b,d,p,q,e,k⟩ hs;cases a with
 |tup ys=>
  cases b<;>try exact bx e
  have e':=Res.nH e;obtain⟨l,xs,rfl,ee,rr⟩:=p.lC;cases q;obtain⟨w,h1,h2⟩:=rr.atI e';exact aKs value slice Ψ s σ H _ _ v u Q I rx ry ⟨l,xs,_,w,rfl,rfl,.of ee,h1,k.self h2 λz=>by cases z⟩ hs
 |lst ys=>
  cases b<;>try exact bx e
  have e':=Res.nH e;obtain⟨l,xs,rfl,ee,rr⟩:=p.mY;cases q;obtain⟨w,h1,h2⟩:=rr.atI e';exact Q9 value slice Ψ s σ H _ _ v u Q I rx ry ⟨l,xs,_,w,rfl,rfl,ee,h1,k.self h2 λz=>by cases z⟩ hs
 |cel ca ys=>
  cases b<;>try exact bx e
  have e':=Res.nH e;obtain⟨_,rfl,ee,pp,rr⟩:=p.inv;cases q;obtain⟨w,h1,h2⟩:=rr.atI e';exact Q9 value slice Ψ s σ H _ _ v u Q I rx ry ⟨_,_,_,w,rfl,rfl,.inl (.inl ee),h1,k.self h2 λz=>by cases z⟩ hs
 |scr ys=>
  cases b<;>try exact bx e
  have e':=Res.nH e;obtain⟨_,_,rfl,ee,rr⟩:=p.inv;cases q;obtain⟨w,h1,h2⟩:=rr.atI e';exact Q9 value slice Ψ s σ H _ _ v u Q I rx ry ⟨_,_,_,w,rfl,rfl,ee.sq hK,h1,k.self h2 λz=>by cases z⟩ hs
 |str z=>
  cases b<;>try exact bx e
  rename_i i;replace e:(if ϒ (z.length<=lim) then π (((ixD z.cps.toList.length i).bind λj=>z.cps.toList[j]?).map λc=>ι ⟨#[c]⟩) else .bad)=.ok d:=e;split at e
  .rename_i hl;have e':=Res.nH e;obtain⟨cc,h1,h2⟩:=l9.mp e';subst h2;cases p;cases q;exact aKt value slice Ψ s σ H _ _ v u Q I rx ry ⟨z,_,cc,rfl,rfl,nO hl,h1,k.str⟩ hs
  .cases e
 |dct kvs=>
  have e':keyOk b=ag/\dB kvs b=ae d:=by
   replace e:(if keyOk b then π (dB kvs b) else .bad)=.ok d:=by cases b<;>exact e
   split at e
   .rename_i hl;exact⟨hl,Res.nH e⟩
   .exact bx e
  obtain⟨H1,a1,o,rfl,I1,bk,g,hc⟩:=aHr I p q (aDg p e'.1 e'.2);cases rx;rcases hc with ⟨rfl,h2⟩|⟨w,dd,rfl,h2,h3⟩
  .rw[h2] at e';cases e'.2
  .rw[h2] at e';cases e'.2;exact M3 hu I1 g ry hs bk (k.self h3 λz=>by cases z)
 |_=>cases b<;>exact bx e
theorem aU{X:Cx}{a b:Expr}{pos:b6}{fa fb:FE}{ra rb:aq}(ha:PE X a (gE fa ra))(hb:PE X b (gE fb rb))(hK:KFrag.K=X.K:=by assumption)(hu:X.A.units+20<dL:=by assumption)(hs:GR b:=by exact λ_ _=>rfl):PE X (.Subscript a b pos) (gE (b2 getD fa fb) ah):=aP9 (aLc hK hu) ha hb hs
noncomputable def gO(f:aa D->Res (av ai)):TO:=λσ H Q=>∃ρ i,ER H σ ρ/\f ρ=.ok i/\∀H',dH H H'->Q i H'
theorem PO.imp{X:Cx}{e:av PySem.Expr}{t t':TO}(h:PO X e t)(i:∀σ H Q,t' σ H Q->t σ H Q):PO X e t':=λΨ s σ H Q I q=>h Ψ s σ H Q I (i σ H Q q)
theorem bO:PO X aj (gO cF):=PO.imp aH6 λσ H Q z0=>by obtain⟨ρ,i,E,h,q⟩:=z0;cases h;exact q H (dH.refl H)
theorem bJ(ha:PE X a (gE fa ra)):PO X (ae a) (gO (bW fa)):=PO.imp (aH7 ha) λσ H Q z0=>by
 obtain⟨ρ,i,E,h,q⟩:=z0;obtain⟨x,h1,h⟩:=bG h;obtain⟨j,h2,h⟩:=bG h;cases h;have e:=aL7 h2;subst e;exact⟨ρ,_,E,h1,λv H' s r _=>by cases r;exact⟨j,rfl,q H' s⟩⟩
theorem aFw(n d:af)(o:av ai):HT.sIx n d o=vN n d o:=by
 cases o with
 |none=>rfl
 |some v=>
  show(if v<0 then (v+(n:ai)).toNat else min v.toNat n)=(if v<0 then (max (v+(n:ai)) 0).toNat else (min v (n:ai)).toNat);split<;>lia
theorem cN.cut(r:cN P H xs ds)(lo hi:av ai):cN P H (aD6 xs lo hi) (cutD ds lo hi):=by
 unfold aD6 cutD;rw[r.length];simp only[aFw];exact(r.drop _).take _
theorem iW:θ ds=ag↔∀d∈ds,d.pure=ag:=by
 induction ds with
 |nil=>simp[θ]
 |cons d ds ih=>rw[θ,bf,ih];simp
def rSl:V->av ai->av ai->Hp->VK->Prop:=λx lo hi H Q=>∃a d,Rep All H x a/\aOe a lo hi=.ok d/\kR H d ag Q
theorem aPb(hK:KFrag.K=X.K):SlR X rSl:=by
 rintro Ψ s σ H x v vl vu lo hi sl Q I rx hs pl pu ⟨a,d,p,e,k⟩;cases a<;>simp only[aOe] at e<;>(try (cases e;done))
 .split at e
  .cases e
  .rename_i hw;cases e;obtain⟨l,xs,rfl,ee,rr⟩:=p.lC;refine aKq Ψ s σ H _ v vl vu lo hi sl Q I rx hs pl pu ⟨l,xs,rfl,.of ee,?_,λp hp=>?_⟩
   .simp only[aFw,rr.length];simp only[oP,dm,ja,Bool.not_eq_false',eD] at hw;exact hw.2
   .have sp:dH H (upd H p (.tup (aD6 xs lo hi))):=dH.upd hp;have hp2:θ ‹aa D›=ag:=by
     simp only[dm,ja,oP] at hw;simpa using hw.1
    exact k _ _ sp (.tup aO ((rr.cut lo hi).same sp)) λz=>.tup aO (((rr.cJ hp2).cut lo hi).same sp)
 .split at e
  .rename_i hl;cases e;obtain⟨l,xs,rfl,ee,rr⟩:=p.mY;refine ZK Ψ s σ H _ v vl vu lo hi sl Q I rx hs pl pu ⟨l,xs,rfl,ee,λp hp=>?_⟩;have sp:dH H (upd H p (.lst (aD6 xs lo hi))):=dH.upd hp;exact k _ _ sp (.lst aO trivial ((rr.cut lo hi).same sp)) λz=>.lst aO hp (((rr.cJ hl).cut lo hi).same sp)
  .cases e
 .split at e
  .rename_i hl;cases e;cases p with
   |@frz l xs ds ee rr=>
    refine ZK Ψ s σ H _ v vl vu lo hi sl Q I rx hs pl pu ⟨l,xs,rfl,ee.sq hK,λp hp=>?_⟩;have sp:dH H (upd H p (.lst (aD6 xs lo hi))):=dH.upd hp;exact k _ _ sp (.lst aO trivial ((rr.cut lo hi).same sp)) λz=>.lst aO hp (((rr.cJ hl).cut lo hi).same sp)
  .cases e
end
end Mi
namespace PySem.Mm
open PySem PyProof.Rows PySem.W
theorem M4{K:Type}[fI K]{knd:KeyKind prog w K}{d:ak}{kvs:aa (K×am)}{ep n:af}(hh:A.handled=aj)(lo:(d==gf)=ah)
 (hm:s.heap.DictAt knd d kvs ep)(hn:kvs.length=n)(hl:n<=2 ^ 24)
 (q:∀h' tk acc c,(∀b o,s.heap.get? b=ae o->h'.get? b=ae o)->h'.get? s.heap.objs.size=ae {cls:=.type "list",dict:=aj,data:=.seq acc c,slots:=#[]}->
   oQ (λi v=>∃k x,kvs[i]?=ae (k,x)/\knd.is k v=ag) acc n->Q (.ref s.heap.objs.size) {s with heap:=h',toks:=tk}):ϑ (ax prog w) A (call (.type "list") [.ref d]) Q E s:=by
 subst hn;exact kdl_call (kdl_dict lo) hh hm (kdl_size hl) q
end PySem.Mm
namespace Mi
open PySem L2 PySem.SeqAt PySem.Spec PyProof.Rows
section
variable [KFrag]
section
variable {a b e:Expr} {x:Str} {id T:fF}
theorem n8(r:cN P H xs [d])(vr:Vals xs us):∃v u,xs=[v]/\us=[u]/\Rep P H v d/\RelV v u:=by
 cases r with
 |cons r t=>
  cases t;cases vr with
  |cons v vt=>
   cases vt;exact⟨_,_,rfl,rfl,r,v⟩
theorem U3{fr:aq}(h:gE (aX f fs) fr σ H Q):tCB (rs f fr) (gA fs rr) σ H Q:=by
 obtain⟨ρ,d,E,h,q⟩:=h;obtain⟨ds,h1,h2⟩:=bG h;exact⟨ρ,ds,E,h1,λvs H1 s1 r1 _=>⟨ds,d,r1,h2,q.imp s1 id⟩⟩
theorem bH{fr:aq}(hc:sV X (.builtin id) (rs f fr))(hg:Gl X x)(hm:X.mg x=aj)(hv:ei x=ae (.builtin id))(ha:PA X (e::es) (gA fs rr))(hn:x ≠ "__name__":=by decide)(hdb:nDb x:=by decide)
 (he:zSE X e es:=by rfl)(hpl:zSP X pos es:=by rfl):PE X (.Call (.Name x p) (e::es) [] pos) (gE (aX f fs) fr):=
 PE.imp (yC hc hg hm hv ha hn hdb he hpl) λ_ _ _=>U3
theorem dX{fr:aq}(hc:sV X (.type T) (rs f fr))(hg:Gl X x)(hm:X.mg x=aj)(hv:ei x=ae (.type T))(ha:PA X (e::es) (gA fs rr))(hn:x ≠ "__name__":=by decide)(hdb:nDb x:=by decide)
 (he:zSE X e es:=by rfl)(hpl:zSP X pos es:=by rfl):PE X (.Call (.Name x p) (e::es) [] pos) (gE (aX f fs) fr):=
 PE.imp (K9 hc hg hm hv ha hn hdb he hpl) λ_ _ _=>U3
theorem cP(hK:KFrag.K=X.K):sV X (.builtin "len") (rs h_ ag):=by
 rintro Ψ s σ H xs us Q I vr ⟨ds,d,r,e,k⟩;unfold h_ at e;split at e
 .cases e;obtain⟨vv,uu,rfl,rfl,r,v⟩:=n8 r vr;obtain⟨l,ys,rfl,hl,rr⟩:=r.lC;cases v;exact lW Ψ s σ H [.ref l] [.ref l] Q I (.cons rfl .nil) ⟨l,ys,rfl,.inr (.of hl),by rw[rr.length];exact k.int⟩
 .cases e;obtain⟨vv,uu,rfl,rfl,r,v⟩:=n8 r vr;obtain⟨l,ys,rfl,hl,rr⟩:=r.mY;cases v;exact lW Ψ s σ H [.ref l] [.ref l] Q I (.cons rfl .nil) ⟨l,ys,rfl,.inl hl,by rw[rr.length];exact k.int⟩
 .cases e;obtain⟨vv,uu,rfl,rfl,r,v⟩:=n8 r vr;cases r with
  |@frz l xs ds ee rr=>
   cases v;exact lW Ψ s σ H [.ref l] [.ref l] Q I (.cons rfl .nil) ⟨l,xs,rfl,.inl (ee.sq hK),by rw[rr.length];exact k.int⟩
 .cases e;obtain⟨vv,uu,rfl,rfl,r,v⟩:=n8 r vr;obtain⟨_,rfl,ee,pp,rr⟩:=r.inv;cases v;exact lW Ψ s σ H [.ref _] [.ref _] Q I (.cons rfl .nil) ⟨_,_,rfl,.inl (.inl (.inl ee)),by rw[rr.length];exact k.int⟩
 .split at e
  .rename_i hl;cases e;obtain⟨vv,uu,rfl,rfl,r,v⟩:=n8 r vr;cases r.inv;exact LC Ψ s σ H _ _ Q I (.cons v .nil) ⟨_,rfl,nO hl,k.int⟩
  .exact bx e
 .exact bx e
theorem n6.keys:∀{kvs:aa (Key×V)}{ds:aa (D×D)},n6 P H kvs ds->cN P' H (kvs.map λp=>kV p.1) (aL4 ds)
 |_,_,.nil=>.nil
 |_,_,.cons (k:=k) _ t=>.cons (by cases k<;>first|exact .int _|exact .str _) t.keys
theorem list_dict(hc:X.calm=ag)(I:Inv X Ψ σ H s)(e:H l=ae (.dK kvs))
 (q:∀p s',H p=aj->Inv X Ψ σ (upd H p (.lst (kvs.map λp=>kV p.1))) s'->(∀l0 o0,H l0=ae o0->l0≠p)->Q (.ref p) s'):ϑ (ax X.prog X.w) X.A (call (.type "list") [.ref l]) Q X.xe s:=by
 obtain⟨z,hd,vs,rel,dd⟩:=W4 I.hok e;obtain⟨ep,da⟩:=dd.dictAt;have hlen:kvs.length=vs.length:=ll rel;refine Mm.M4 (I.ok.hd hc) hd da rfl (by rw[<-hlen];rw[d4] at z;lia) λh' tk acc' c' kp e1 it=>?_
 obtain⟨i1,i2⟩:=it;have hfr:H s.heap.objs.size=aj:=I.hok.fresh (br _);refine q _ _ hfr (I.laid kp (br _) ?_) λl0 o0 h0=>dG h0 hfr
 refine⟨by rw[aE];exact z,acc'.toList,c',?_,by simpa using e1⟩;have gen:∀(kvs:aa (Key×V))(vs:aa (Key×am))(xs:aa am),KV kvs vs->xs.length=vs.length->(∀(j:af)(v:am),xs[j]?=ae v->∃k x,vs[j]?=ae (k,x)/\(fK X.prog X.w).is k v=ag)->Vals (kvs.map λp=>kV p.1) xs:=by
  intro kvs vs xs rel;induction rel generalizing xs with
  |nil=>intro hl _;cases xs with|nil=>exact .nil|cons _ _=>simp at hl
  |@cons p q ps qs hpq t ih=>
   intro hl g;cases xs with
   |nil=>simp at hl
   |cons x xs=>
    refine .cons ?_ (ih xs (by simpa using hl) λj v hv=>g (j+1) v (by simpa using hv));obtain⟨k,x',h1,h2⟩:=g 0 x rfl;have h1':q=(k,x'):=by simpa using h1
    show RelV (kV p.1) x;rw[hpq.1,h1'];rcases fC h2 with ⟨i,t,rfl,rfl⟩|⟨i,t,rfl,rfl⟩
    .exact⟨t,rfl⟩
    .exact⟨t,rfl⟩
 exact gen kvs vs acc'.toList rel (by simpa using i1) λj v hv=>i2 j v (by simpa using hv)
theorem RV(hc:X.calm=ag):sV X (.type "list") (rs yR ag):=by
 rintro Ψ s σ H xs us Q I vr ⟨ds,d,r,e,k⟩;unfold yR at e;split at e
 .split at e
  .rename_i hl;cases e;obtain⟨vv,uu,rfl,rfl,r,v⟩:=n8 r vr;obtain⟨l,ys,rfl,hl',rr⟩:=r.lC;cases v;refine wR Ψ s σ H [.ref l] [.ref l] Q I (.cons rfl .nil) ⟨l,ys,rfl,.inr (.of hl'),λp hp=>?_⟩;have sp:dH H (upd H p (.lst ys)):=dH.upd hp;exact k _ _ sp (.lst aO trivial (rr.same sp)) λ_=>.lst aO hp ((rr.cJ hl).same sp)
  .exact bx e
 .split at e
  .rename_i hl;cases e;obtain⟨vv,uu,rfl,rfl,r,v⟩:=n8 r vr;obtain⟨l,ys,rfl,hl',rr⟩:=r.mY;cases v;refine wR Ψ s σ H [.ref l] [.ref l] Q I (.cons rfl .nil) ⟨l,ys,rfl,.inl hl',λp hp=>?_⟩;have sp:dH H (upd H p (.lst ys)):=dH.upd hp;exact k _ _ sp (.lst aO trivial (rr.same sp)) λ_=>.lst aO hp ((rr.cJ hl).same sp)
  .exact bx e
 .split at e
  .rename_i hl;cases e;obtain⟨vv,uu,rfl,rfl,r,v⟩:=n8 r vr;cases r with
   |@dK l kvs ds e _ r n=>
    cases v;refine list_dict hc I e λp s' hp I' _=>⟨.ref p,_,I',rfl,?_⟩
    have sp:dH H (upd H p (.lst (kvs.map λp=>kV p.1))):=dH.upd hp;exact k _ _ sp (.lst aO trivial (r.keys.same sp)) λ_=>.lst aO hp (r.keys.same sp)
   |@dT l kvs ds e _ r n=>
    cases v;cases r with
    |cons r t=>simp[isTup] at hl
    |nil=>
     have e2:=G6 (o':=.dK []) e;refine list_dict hc (sE I e) aO λp s' hp I' hne=>?_
     have hp':p≠l:=λz=>by subst z;rw[aO] at hp;cases hp
     have hpn:H p=aj:=by rw[bY hp'] at hp;exact hp
     have hcm:upd (upd (upd H l (.dK [])) p (.lst [])) l (.dT [])=upd H p (.lst []):=by
      funext b
      by_cases hb:b=l
      .subst hb;rw[aO,bY (Ne.symm hp'),e]
      .rw[bY hb];by_cases hb2:b=p
       .subst hb2;rw[aO,aO]
       .rw[bY hb2,bY hb2,bY hb]
     have I2:=q_ I' (by rw[bY (Ne.symm hp'),aO]);have I3:Inv X Ψ σ (upd H p (.lst [])) s':=by
      have:Inv X Ψ σ (upd (upd (upd H l (.dK [])) p (.lst [])) l (.dT [])) s':=I2;rwa [hcm] at this
     have sp:dH H (upd H p (.lst [])):=dH.upd hpn;exact⟨.ref p,_,I3,rfl,k _ _ sp (.lst aO trivial .nil) λ_=>.lst aO hpn .nil⟩
  .exact bx e
 .exact bx e
theorem iY:sV X (.type "tuple") (rs gU ah):=by
 rintro Ψ s σ H xs us Q I vr ⟨ds,d,r,e,k⟩;unfold gU at e;split at e
 .cases e;obtain⟨vv,uu,rfl,rfl,r,v⟩:=n8 r vr;obtain⟨l,ys,rfl,hl',rr⟩:=r.lC;cases v;exact uP Ψ s σ H [.ref l] [.ref l] Q I (.cons rfl .nil) ⟨l,ys,rfl,.inr ⟨.of hl',k.self (.tup hl' rr) λz=>by cases z⟩⟩
 .cases e;obtain⟨vv,uu,rfl,rfl,r,v⟩:=n8 r vr;obtain⟨l,ys,rfl,hl',rr⟩:=r.mY;cases v;refine uP Ψ s σ H [.ref l] [.ref l] Q I (.cons rfl .nil) ⟨l,ys,rfl,.inl ⟨hl',λp hp=>?_⟩⟩;have sp:dH H (upd H p (.tup ys)):=dH.upd hp;exact k _ _ sp (.tup aO (rr.same sp)) λz=>by cases z
 .exact bx e
theorem isi(I:Inv X Ψ σ H s)(r:Rep All H v d)(ru:RelV v u)(h:aP6 t d=.ok k)
 (q:∀tk,Q (.bool k) {s with toks:=tk}):ϑ (ax X.prog X.w) X.A (call (.builtin "isinstance") [u,.type t.nm]) Q X.xe s:=by
 have q0:Q (.bool k) s:=q s.toks;cases r with
 |non=>cases ru;cases t<;>cases h<;>first|exact IsiPair.NoneType_int (q _)|exact IsiPair.NoneType_str (q _)|exact IsiPair.NoneType_bool (q _)|exact IsiPair.NoneType_list (q _)|exact IsiPair.NoneType_tuple (q _)|exact IsiPair.NoneType_dict (q _)
 |bl b=>cases ru;cases t<;>cases h<;>first|exact IsiPair.bool_int q0|exact IsiPair.bool_str (q _)|exact IsiPair.bool_bool q0|exact IsiPair.bool_list (q _)|exact IsiPair.bool_tuple (q _)|exact IsiPair.bool_dict (q _)
 |int b=>obtain⟨tt,rfl⟩:=ru;cases t<;>cases h<;>first|exact IsiPair.int_int q0|exact IsiPair.int_str (q _)|exact IsiPair.int_bool (q _)|exact IsiPair.int_list (q _)|exact IsiPair.int_tuple (q _)|exact IsiPair.int_dict (q _)
 |str b=>obtain⟨tt,rfl⟩:=ru;cases t<;>cases h<;>first|exact IsiPair.str_int (q _)|exact IsiPair.str_str q0|exact IsiPair.str_bool (q _)|exact IsiPair.str_list (q _)|exact IsiPair.str_tuple (q _)|exact IsiPair.str_dict (q _)
 |tup e rr=>
  cases ru;obtain⟨its,vr,o,ho,hc,_⟩:=t_ I e;cases t<;>cases h<;>first|exact IsiPair.tuple_int ho hc (q _)|exact IsiPair.tuple_str ho hc (q _)|exact IsiPair.tuple_bool ho hc (q _)|exact IsiPair.tuple_list ho hc (q _)|exact IsiPair.tuple_tuple ho hc q0|exact IsiPair.tuple_dict ho hc (q _)
 |lst e p rr=>
  cases ru;obtain⟨its,vr,o,ho,hc,_⟩:=oN I (.of e);cases t<;>cases h<;>first|exact IsiPair.list_int ho hc (q _)|exact IsiPair.list_str ho hc (q _)|exact IsiPair.list_bool ho hc (q _)|exact IsiPair.list_list ho hc q0|exact IsiPair.list_tuple ho hc (q _)|exact IsiPair.list_dict ho hc (q _)
 |frz e rr=>cases t<;>exact bx h
 |exc n e q=>cases t<;>exact bx h
 |ins n e q=>cases t<;>exact bx h
 |cel e p rr=>cases t<;>exact bx h
 |dK e p rr n=>
  cases ru;obtain⟨_,_,_,_,o,_,_,ho,hx,_⟩:=W4 I.hok e;have hc:=hx.1;cases t<;>cases h<;>first|exact zt ho hc (q _)|exact zu ho hc (q _)|exact zv ho hc (q _)|exact zw ho hc (q _)|exact zx ho hc (q _)|exact zy ho hc q0
 |dT e p rr n=>
  cases ru;obtain⟨_,_,_,_,o,_,_,ho,hx,_⟩:=aHb I.hok e;have hc:=hx.1;cases t<;>cases h<;>first|exact zt ho hc (q _)|exact zu ho hc (q _)|exact zv ho hc (q _)|exact zw ho hc (q _)|exact zx ho hc (q _)|exact zy ho hc q0
def aS5(t:Ty):aa V->Hp->VK->Prop:=λxs H Q=>∃v d k,xs=[v,.ty t.nm]/\Rep All H v d/\aP6 t d=.ok k/\Q (.bl k) H
theorem aLd(t:Ty):sV X (.builtin "isinstance") (aS5 t):=by
 rintro Ψ s σ H xs us Q I vr ⟨v,d,k,e,r,h,q⟩;subst e;cases vr with
 |cons rv vt=>
  cases vt with
  |cons rt vt=>
   cases vt;cases rt;exact isi I r rv h λtk=>⟨.bl k,H,I.tok tk,rfl,q⟩
theorem aLe(t:Ty)(ha:PE X a (gE fa ra))(hg:Gl X "isinstance")(hm:X.mg "isinstance"=aj)(hv:ei "isinstance"=ae (.builtin "isinstance"))(gy:Gl X y)(my:X.mg y=aj)(vy:ei y=ae (.type t.nm))
 (hy:y ≠ "__name__":=by decide)(hyd:(y==("__debug__" : Str))=ah:=by decide)
 (he:bP [a,.Name y p2] X.env=(ah,eval a X.env)::bP [.Name y p2] X.env:=by rfl)(he2:bP [.Name y p2] X.env=(ah,eval (.Name y p2) X.env)::bP [] X.env:=by rfl)
 (hpl:(fg pos (bP [.Name y p2] X.env)).any (·.1)=ah:=by rfl):PE X (.Call (.Name "isinstance" p) [a,.Name y p2] [] pos) (gE (b1 (aL5 t) fa) ag):=
 PE.imp (yC (aLd t) hg hm hv (bV ha (bV (Y0 gy my vy (v:=.ty t.nm) rfl hy hyd) jH he2) he) 0x4 0x4 he hpl) λσ H Q z0=>by
  obtain⟨ρ,d,E,h,q⟩:=z0;obtain⟨x,h1,h⟩:=bG h;obtain⟨k,h2,h⟩:=bG h;cases h;exact⟨ρ,x,E,h1,λv H1 s1 r1 _=>⟨v,x,k,rfl,r1,h2,(q.imp s1 id).bl⟩⟩
theorem aPc{ro fr:aq}{name:Str}{apos cpos:b6}{f:D->aa D->Res D}(pa:vi T)(slot:jq T name id)(hty:ko (.builtin id)=pure (.type "method_descriptor"))(hm:MtR X id (rm f fr))(ho:PE X o (gE fo ro))(ha:PA X (e::es) (gA fs rr))
 (hT:∀(d:D) (ds:aa D) (r:D) (v:V) (H:Hp),f d ds=.ok r->Rep All H v d->tyV X.K T v H)
 (hbase:hG o name X.env (eval o X.env)=eval o X.env:=by rfl)
 (hfew:zFw X cpos (e::es):=by rfl)
 (hline:(apos.endLine==cpos.line)=ag:=by rfl)(hs:zSE X e es:=by rfl)(hplain:zSP X cpos es:=by rfl) :
  PE X (.Call (.Attribute o name apos) (e::es) [] cpos) (gE (bM f fo fs) fr):=
 PE.imp (aD7 pa slot hty hm ho ha hbase hfew hline hs hplain) λσ H Q z0=>by
  obtain⟨ρ,d,E,h,q⟩:=z0;obtain⟨x,h1,h⟩:=bG h;obtain⟨ds,h2,h⟩:=bG h;exact⟨ρ,x,E,h1,λv H1 s1 r1 _=>⟨hT x ds d v H1 h r1,ρ,ds,E.same s1,h2,λvs H2 s2 r2 _=>⟨x,ds,d,r1.same s2,r2,h,q.imp (s1.trans s2) λz=>z⟩⟩⟩
noncomputable def spD(f:aa D->Res D)(n:af):Sp:=λvs H Q _=>∃ds d,ds.length=n/\cN All H vs ds/\f ds=.ok d/\kR H d ag Q
theorem aHs{E:XK}(h:spD f n vs H Q E):vs.length=n:=by
 obtain⟨ds,d,h1,r,_⟩:=h;rw[r.length,h1]
theorem aHt(F:uO X.prog X.w X.K X.mg X.base CX0 k fad fd ps (spD f n))(hr:lR k X.A)(hg:Gl X x)(hm:X.mg x=ae (.ref fad))(hk:iq X.K (.ref fad)=ag)(hb:Binds X.K fd ps [])
 (ha:PA X (e::es) (gA fs rr))(hdb:nDb x:=by decide)(he:zSE X e es:=by rfl)(hpl:zSP X pos es:=by rfl) :
  PE X (.Call (.Name x p) (e::es) [] pos) (gE (aX (mW n f) fs) ag):=
 PE.imp (vR F hr hg hm hk hb .nil aHg ha hdb he hpl) λσ H Q z0=>by
  obtain⟨ρ,d,E,h,q⟩:=z0;obtain⟨ds,h1,h⟩:=bG h;unfold mW at h;split at h
  .rename_i hl;exact⟨ρ,ds,E,h1,λvs H1 s1 r1 _=>⟨ds,d,c9 hl,by rw[dg];exact r1,h,q.imp s1 id⟩⟩
  .exact bx h
end
end
noncomputable def M5(x:Str):aa D:=x.cps.toList.map λc=>ι ⟨#[c]⟩
section
variable [KFrag]
noncomputable def aPd(x:Str):It:=⟨λi _=>i<x.cps.size,λi H v H'=>H'=H/\∃c,x.cps[i]?=ae c/\v=.str ⟨#[c]⟩,λi _=>x.cps.size<=i⟩
structure ItQ(K:bn)(P:ak->Prop)(J:It)(H:Hp)(items:aa D):Prop where
 it:∀(P':ak->Prop)(H':Hp),GZ P H H'->(∀a o,H a=ae o->P a->P' a)->(∀i,items.length<=i->J.stop i H')/\∀i d,items[i]?=ae d->J.go i H'/\∀x H'',J.yld i H' x H''->dH H' H''/\Rep P' H'' x d
section
variable {K:bn} {P P':ak->Prop} {J:It} {H H':Hp} {items:aa D}
theorem ItQ.keep'(h:ItQ K P J H items)(k:GZ P H H')(m:∀a o,H a=ae o->P a->P' a):ItQ K P' J H' items:=
 ⟨λP2 H2 k2 m2=>h.it P2 H2 (λa o e hp=>k2 a o (k a o e hp) (hp.imp (m a o e) id)) λa o e hp=>m2 a o (k a o e (.inl hp)) (m a o e hp)⟩
theorem ItQ.keep(h:ItQ K P J H items)(k:GZ P H H')(m:∀a,P a->P' a):ItQ K P' J H' items:=h.keep' k λa _ _=>m a
theorem ItQ.stop(h:ItQ K P J H items)(hi:items.length<=i):J.stop i H:=(h.it P H (λ_ _ e _=>e) λ_ _ _ hp=>hp).1 i hi
theorem ItQ.go(h:ItQ K P J H items)(hi:items[i]?=ae d):J.go i H/\∀x H',J.yld i H x H'->dH H H'/\Rep P H' x d:=(h.it P H (λ_ _ e _=>e) λ_ _ _ hp=>hp).2 i d hi
theorem ItQ.lst(a:ak)(e:J=Itl K a)(r:Rep P H (.ref a) (.lst items)):ItQ K P J H items:=by
 refine⟨λP H kk mm=>?_⟩;have r:=r.aHn kk mm;refine⟨λi hi=>?_,λi d hi=>?_⟩
 .subst e;obtain⟨a',xs,e,hq,rr⟩:=r.mY;cases e;exact⟨xs,hq,by rw[rr.length];exact hi⟩
 .subst e;obtain⟨a',xs,e,hq,rr⟩:=r.mY;cases e;obtain⟨v,h1,h2⟩:=rr.get hi;refine⟨⟨xs,v,hq,h1⟩,λx H' ⟨e,hy⟩=>?_⟩;subst e;refine⟨dH.refl _,?_⟩;have:=hy xs hq;rw[h1] at this;cases this;exact h2
theorem ItQ.tup(a:ak)(e:J=Itt K a)(r:Rep P H (.ref a) (.tup items)):ItQ K P J H items:=by
 refine⟨λP H kk mm=>?_⟩;have r:=r.aHn kk mm;refine⟨λi hi=>?_,λi d hi=>?_⟩
 .subst e;obtain⟨a',xs,e,hq,rr⟩:=r.lC;cases e;exact⟨xs,.of hq,by rw[rr.length];exact hi⟩
 .subst e;obtain⟨a',xs,e,hq,rr⟩:=r.lC;cases e;obtain⟨v,h1,h2⟩:=rr.get hi;refine⟨⟨xs,v,.of hq,h1⟩,λx H' ⟨e,hy⟩=>?_⟩;subst e;refine⟨dH.refl _,?_⟩;have:=hy xs (.of hq);rw[h1] at this;cases this;exact h2
theorem ItQ.rng(lo:ai)(n:af)(e:J=Itr lo n)(r:items=(ay n).map λ(k:af)=>τ (lo+k)):ItQ K P J H items:=by
 refine⟨λP H k m=>?_⟩;refine⟨λi hi=>?_,λi d hi=>?_⟩
 .subst e r;show n<=i;simpa using hi
 .subst e r;have hlt:i<n:=by
   have:=(dQ.mp hi).1;simpa using this
  refine⟨hlt,λx H' ⟨e,hy⟩=>?_⟩;subst e;have e2:τ (lo+(i:ai))=d:=by simpa[hlt] using hi
  rw[hy,<-e2];exact⟨dH.refl _,.int _⟩
theorem ItQ.chs(z:Str)(e:J=aPd z)(r:items=M5 z):ItQ K P J H items:=by
 refine⟨λP H k m=>?_⟩;refine⟨λi hi=>?_,λi d hi=>?_⟩
 .subst e r;show z.cps.size<=i;simpa[M5] using hi
 .subst e r;have hlt:i<z.cps.size:=by
   have:=(dQ.mp hi).1;simpa[M5] using this
  refine⟨hlt,λx H' ⟨e,c,hc,hv⟩=>?_⟩;subst e hv;refine⟨dH.refl _,?_⟩;have e2:ι ⟨#[c]⟩=d:=by
   unfold M5 at hi;rw[ly,vm,hc] at hi;simpa using hi
  rw[<-e2];exact .str _
end
noncomputable def gI(K:bn)(f:FI):TI:=λσ H R=>∃ρ items k,ER H σ ρ/\f ρ=.ok (items,k)/\∀J H1,dH H H1->ItQ K All J H1 items->(k=ag->ItQ K (New H) J H1 items)->R J H1
def gIV(K:bn)(i:af):TI:=λσ H R=>∃v d items,σ[i]?=ae (ae v)/\Rep All H v d/\sZ d=.ok items/\∀J,(∀P:ak->Prop,Rep P H v d->ItQ K P J H items)->R J H
section
variable {X:Cx} {tg l a b:Expr} {rr:aq} {fs:FA} {p pos:b6}
theorem U4(I1:Inv X Ψ σ H1 s1)(r:Rep All H1 v d)(ru:RelV v u)(hi:sZ d=.ok items)
 (q:∀J,(∀P:ak->Prop,Rep P H1 v d->ItQ X.K P J H1 items)->R J H1):ϑ (ax X.prog X.w) X.A (ka u) (PIE X Ψ σ tg R) X.xe s1:=by
 cases d<;>simp only[sZ] at hi<;>cases hi
 .obtain⟨a,xs,rfl,e,rr⟩:=r.lC;cases ru;obtain⟨its,rv,p,hz⟩:=I1.tuple (.of e);refine vF (show s1.heap.IsTuple a its.toArray from p) ?_;refine⟨s1.heap.objs.size,[s1.heap.objs.size],_,_,H1,rfl,I1.kept λb o e=>cu _ e,WN a _,⟨_,dq _ rfl,rfl,rfl⟩,λb hb=>?_,q _ λP r=>.tup a rfl r⟩;have e:b=s1.heap.objs.size:=by simpa using hb
  subst e;exact I1.aOa (br _) (I1.hok.fresh (br _))
 .obtain⟨a,xs,rfl,e,rr⟩:=r.mY;cases ru;obtain⟨its,rv,p,hz⟩:=I1.list e;refine zz p.isList ?_;refine⟨s1.heap.objs.size,[s1.heap.objs.size],_,_,H1,rfl,I1.kept λb o e=>cu _ e,Y9 a _,⟨_,dq _ rfl,rfl,rfl⟩,λb hb=>?_,q _ λP r=>.lst a rfl r⟩;have e:b=s1.heap.objs.size:=by simpa using hb
  subst e;exact I1.aOa (br _) (I1.hok.fresh (br _))
theorem aFx(hN:X.N[i]?=ae x)(hv:Vis X.env.scope x)(hd:nDb x:=by decide)(hcd:nCd x:=by decide):PI X tg (.Name x pos) (gIV X.K i):=by
 rintro Ψ s σ H R I ⟨v,d,items,hσ,r,hi,q⟩;exact thn (cZ hN hv hd hcd Ψ s σ H (λw H1=>w=v/\H1=H) I ⟨v,hσ,rfl,rfl⟩) λu s1 z0=>by
  obtain⟨w,H1,I1,ru,e1,e2⟩:=z0;subst e1 e2;exact U4 I1 r ru hi q
theorem FW(h:uG i=ag):-(2 ^ 62)<=i/\i<2 ^ 62:=by
 simp only[uG,bf,eD] at h;exact h
theorem PI.imp(h:PI X tg l w)(i:∀σ H R,w' σ H R->w σ H R):PI X tg l w':=λΨ s σ H R I q=>h Ψ s σ H R I (i σ H R q)
theorem mL(hg:Gl X "range")(hm:X.mg "range"=aj)(ha:PA X [a] (gA fs rr))(hs:bP [a] X.env=[(ah,eval a X.env)]:=by rfl):PI X tg (.Call (.Name "range" p) [a] [] pos) (gI X.K (sX fs mX)):=
 PI.imp (K1 hg hm ha hs) λσ H R z0=>by
  obtain⟨ρ,items,k,E,h,q⟩:=z0;obtain⟨xs,h1,h⟩:=bG h;unfold mX at h;split at h
  .split at h
   .rename_i hb;cases h;obtain⟨b1,b2⟩:=FW hb;refine⟨ρ,_,E,h1,λvs H1 s1 r1 _=>?_⟩;cases r1 with
    |cons r t=>
     cases t;cases r.inv;exact⟨_,rfl,b1,b2,q _ H1 s1 (.rng 0 _ rfl rfl) λ_=>.rng 0 _ rfl rfl⟩
   .exact bx h
  .exact bx h
end
theorem aDh(n:af)(ρ bs:aa D)(i:af)(h:i<n):(T8 n ρ++bs).getD i .uD=ρ.getD i .uD:=by
 rw[de,gq (by simp[T8];exact h)];simp[T8,h]
theorem U5(n:af)(ρ:aa D):(T8 n ρ).length=n:=by simp[T8]
def TgC(g:TG)(t:D->Res (aa D))(n m:af):Prop:=∀(v:V)(d:D)(bs:aa D)(σ:L2.St)(H:Hp)(Q:L2.St->Hp->Prop),σ.length=n->Rep All H v d->t d=.ok bs->
 (∀σ2,Ext (σ++ck m aj) σ2->(∀j b,bs[j]?=ae b->∃w,σ2[n+j]?=ae (ae w)/\Rep All H w b)->Q σ2 H)->g v (σ++ck m aj) H Q
theorem ER.ext(E:ER H σ ρ)(hn:σ.length=n)(x:Ext (σ++ck m aj) σ2)(hb:∀j b,bs[j]?=ae b->∃w,σ2[n+j]?=ae (ae w)/\Rep All H w b):ER H σ2 (T8 n ρ++bs):=by
 intro i hi;by_cases h:i<n
 .rw[aDh n ρ bs i h] at hi ⊢;obtain⟨v,h1,h2⟩:=E i hi;exact⟨v,x.2 i v (by rw[gq (by rw[hn];exact h)];exact h1),h2⟩
 .have e:(T8 n ρ++bs).getD i .uD=bs.getD (i-n) .uD:=by
   rw[de,eJ (by rw[U5];lia),U5,<-de]
  rw[e] at hi ⊢;cases hq:bs[i-n]? with
  |none=>rw[de,hq] at hi;exact aT rfl hi
  |some b=>
   obtain⟨w,h1,h2⟩:=hb (i-n) b hq;rw[de,hq];exact⟨w,by rw[<-h1];congr 1;lia,h2⟩
theorem uW{K:bn}{n m:af}{g:TG}{tc:TT}(tg:TgC g t n m)(hc:∀σ H Q,gT c σ H Q->tc σ H Q){σ:L2.St}{H:Hp}{Q:VK}(hn:σ.length=n)(h:gE (dM n it t c f k) ag σ H Q) :
  RM (gI K it) g tc (gE f k) m σ H Q:=by
 obtain⟨ρ,d,E,h,q⟩:=h;obtain⟨⟨items,kk⟩,h1,h⟩:=bG h;split at h
 .rename_i hlim;obtain⟨ys,h2,h⟩:=bG h;cases h;refine⟨ρ,items,kk,E,h1,λJ H1 s1 hJ _ p hp=>?_⟩;have hp0:H p=aj:=s1.free hp;refine⟨λi n' vs H'=>n'=items.length-i/\i<=items.length/\H' p=ae (.lst vs)/\dH H1 H'/\∃acc,acc.length<=i/\cN (λa=>H a=aj/\a≠p) H' vs acc/\xP (RG n t c f k ρ) acc (items.drop i)=.ok ys,⟨items.length,?_⟩,?_⟩
  .exact⟨rfl,gw _,aO,dH.upd hp,[],gw _,.nil,h2⟩
  .rintro i n' vs H' ⟨rfl,hi,hH,sm,acc,hal,racc,hf⟩;refine⟨hH,?_⟩;have hJ':ItQ K All J H' items:=hJ.keep (.same sm) λ_ z=>z
   rcases oy i items.length with hlt|hge
   .refine .inr ?_;have e:items[i]?=ae items[i]:=cq hlt;obtain⟨g1,g2⟩:=hJ'.go e;have hl1:items.length<=lim:=c9 hlim;refine⟨g1,?_,λx H2 hy=>?_⟩
    .rw[racc.length];exact zC hal (dP hlt (dh hl1 (by rw[d4];decide)))
    .obtain⟨sH,rx⟩:=g2 x H2 hy;have hH:=sH p _ hH;have sm:=sm.trans sH;have racc:=racc.same sH;rw[jb hlt] at hf;obtain⟨acc2,hs,hf⟩:=bG hf;obtain⟨bs,hb,hs⟩:=bG hs;obtain⟨ok,hok,hs⟩:=bG hs;refine tg x items[i] bs σ H2 _ hn rx hb λσ2 hx hbs=>⟨hx,hc _ _ _ ?_⟩
     have E2:ER H2 σ2 (T8 n ρ++bs):=(E.same (s1.trans sm)).ext hn hx hbs;refine⟨_,ok,E2,hok,λH4 s4=>?_⟩;cases ok with
     |true=>
      rw[ar rfl];rw[ar rfl] at hs;obtain⟨y,hy2,hs⟩:=bG hs;split at hs
      .rename_i hk;cases hs;refine⟨_,y,E2.same s4,hy2,λw H5 s5 r5 n5=>⟨s5 p _ (s4 p _ hH),items.length-(i+1),by lia,rfl,hlt,aO,?_,acc++[y],?_,?_,hf⟩⟩
       .exact λb o e=>by
         rw[bY (dG e hp)];exact s5 b o (s4 b o (sm b o e))
       .rw[bz,eP];lia
       .have hp5:H5 p=ae (.lst vs):=s5 p _ (s4 p _ hH);have ry:Rep (λa=>H a=aj/\a≠p) H5 w y:=by
         rw[dm] at hk;rcases hk with hk|hk
         .exact(n5 hk).mono λa ha=>⟨((s1.trans sm).trans s4).free ha,λz=>by subst z;have h0:=s4 _ _ hH;rw[show H4 _=aj from ha] at h0;cases h0⟩
         .exact r5.cJ hk
        have all:cN (λa=>H a=aj/\a≠p) H5 (vs++[w]) (acc++[y]):=(racc.same (s4.trans s5)).snoc ry;refine all.keep (λb o e hb=>?_) λ_ z=>z
        rw[bY]
        .exact e
        .rcases hb with hb|hb
         .exact hb.2
         .intro z;subst z;rw[hp5] at e;cases e;cases hb
      .exact bx hs
     |false=>
      rw[aw 0x2];rw[aw 0x2] at hs;cases hs;exact⟨items.length-(i+1),by lia,rfl,hlt,s4 p _ hH,sm.trans s4,acc,by lia,racc.same s4,hf⟩
   .refine .inl ⟨hJ'.stop hge,?_⟩;rw[kC hge] at hf;cases hf;exact q _ _ (s1.trans sm) (.lst hH trivial racc.all) λ_=>.lst hH hp0 (racc.mono λa z=>z.1)
 .exact bx h
def gIx:aa af->TGs
 |[]=>aQe
 |i::is=>aKf (yJ i) (gIx is)
noncomputable def oU:aa af->aa V->L2.St->L2.St
 |i::is,v::vs,σ=>oU is vs (σ.set i (ae v))
 |_,_,σ=>σ
theorem yX:∀(is:aa af)(vs:aa V)(σ:L2.St),vs.length=is.length->Q (oU is vs σ) H->gIx is vs σ H Q
 |[],[],σ,_,q=>⟨rfl,q⟩
 |i::is,v::vs,σ,h,q=>⟨v,vs,rfl,yX is vs (σ.set i (ae v)) (by simpa using h) q⟩
 |[],_::_,_,h,_=>by simp at h
 |_::_,[],_,h,_=>by simp at h
theorem M6:∀(is:aa af)(vs:aa V)(σ:L2.St),(oU is vs σ).length=σ.length
 |[],_,_=>by simp[oU]
 |_::_,[],_=>by simp[oU]
 |i::is,v::vs,σ=>by rw[oU,M6 is vs];simp
theorem yZ:∀(is:aa af)(vs:aa V)(σ:L2.St)(k:af),k∉is->(oU is vs σ)[k]?=σ[k]?
 |[],_,_,_,_=>by simp[oU]
 |_::_,[],_,_,_=>by simp[oU]
 |i::is,v::vs,σ,k,h=>by
  rw[bt,ja] at h;rw[oU,yZ is vs _ k h.2,du (Ne.symm h.1)]
theorem U6:∀(is:aa af)(vs:aa V)(σ:L2.St)(j i:af)(v:V),is.Nodup->(∀i∈is,i<σ.length)->is[j]?=ae i->vs[j]?=ae v->(oU is vs σ)[i]?=ae (ae v)
 |[],_,_,_,_,_,_,_,h,_=>by simp at h
 |_::_,[],_,_,_,_,_,_,_,h=>by simp at h
 |a::is,w::vs,σ,0,i,v,hn,hl,h1,h2=>by
  have e1:a=i:=by simpa using h1
  have e2:w=v:=by simpa using h2
  subst e1 e2;rw[oU,yZ is vs _ a (eT.mp hn).1,fq (hl a (bq ..))]
 |a::is,w::vs,σ,j+1,i,v,hn,hl,h1,h2=>by
  rw[oU];exact U6 is vs _ j i v (eT.mp hn).2 (λi hi=>by rw[y0];exact hl i (cr _ hi)) (by simpa using h1) (by simpa using h2)
theorem cT(n:af):TgC (yJ n) mK n 1:=by
 intro v d bs σ H Q hn r h q;cases h;have hl:(σ++ck 1 (aj:av V)).length=n+1:=by simp[hn]
 refine q _ ⟨by simp,λi w hi=>?_⟩ λj b hj=>?_
 .have:i≠n:=λz=>by
   subst z;rw[eJ 0x1] at hi;simp[hn] at hi
  rw[du (Ne.symm this)];exact hi
 .have e:j=0:=by
   have:=(dQ.mp hj).1;simp at this;exact this
  subst e;have e:d=b:=by simpa using hj
  subst e;exact⟨v,by rw[zD,fq 0x1],r⟩
theorem aHu(K:bn)(n m:af):TgC (aOs K m (gIx (gx n m))) (aP8 m) n m:=by
 intro v d bs σ H Q hn r h q;cases d<;>simp only[aP8] at h<;>(try (exact bx h;done))
 split at h
 .rename_i hm;cases h;have hm':=c9 hm;obtain⟨a,xs,rfl,e,rr⟩:=r.lC;refine⟨a,xs,rfl,.of e,by rw[rr.length];exact hm',yX _ _ _ (by rw[rr.length,hm'];simp) ?_⟩;refine q _ ⟨by rw[M6],λi w hi=>?_⟩ λj b hj=>?_
  .rw[yZ]
   .exact hi
   .intro hmem;have:=mh.mp hmem;rw[eJ 0x1] at hi;rw[hZ] at hi;split at hi<;>cases hi
  .obtain⟨w,h1,h2⟩:=rr.get hj;have hjm:j<m:=by rw[<-hm'];exact(dQ.mp hj).1
   refine⟨w,U6 _ _ _ j (n+j) w (oS ..) (λi hi=>?_) ?_ h1,h2⟩
   .have:=mh.mp hi;simp[hn];lia
   .rw[List.getElem?_range' hjm];simp
 .exact bx h
section
theorem aHv(S:cH X.N X.env.scope scope ownN)(hn:X.N.length=n)(hm:ownN.length=m)(hcalm:X.calm=ag)(hi:PI X tg iter (gI X.K it))(ht:TgC g t n m)(hg:∀X',eV X X' scope ownN->PG X' tg g)(he:∀X',eV X X' scope ownN->PE X' elt (gE fe re))
 (hs:∀x,em iter X.env x=pure x):PE X (.ListComp elt [⟨tg,iter,[],0⟩] scope pos) (gE (dM n it t iU fe re) ag):=by
 intro Ψ s σ H Q I h;subst hm;exact aDf S hcalm hi hg he hs Ψ s σ H Q I (uW ht (λσ H Q h=>by obtain⟨ρ,b,E,h,q⟩:=h;cases h;exact q H (dH.refl H)) (I.len.trans hn) h)
theorem aA2(S:cH X.N X.env.scope scope ownN)(hn:X.N.length=n)(hm:ownN.length=m)(hcalm:X.calm=ag)(hi:PI X tg iter (gI X.K it))(ht:TgC g t n m)(hg:∀X',eV X X' scope ownN->PG X' tg g)(hc:∀X',eV X X' scope ownN->PT X' c (gT gc))(he:∀X',eV X X' scope ownN->PE X' elt (gE fe re))
 (hs:∀x,em iter X.env x=pure x):PE X (.ListComp elt [⟨tg,iter,[c],0⟩] scope pos) (gE (dM n it t gc fe re) ag):=by
 intro Ψ s σ H Q I h;subst hm;exact Z7 S hcalm hi hg hc he hs Ψ s σ H Q I (uW ht (λσ H Q h=>h) (I.len.trans hn) h)
end
end
variable [KFrag]
theorem n6.cJ:∀{v:aa (Key×V)}{d:aa (D×D)},n6 P H v d->θ (d.map (·.2))=ag->n6 P' H v d
 |_,_,.nil,_=>.nil
 |_,_,.cons r t,h=>by
  rw[bc,θ,bf] at h;exact .cons (r.cJ h.1) (t.cJ h.2)
theorem wV.cJ:∀{v:aa (aa Key×V)}{d:aa (D×D)},wV P H v d->θ (d.map (·.2))=ag->wV P' H v d
 |_,_,.nil,_=>.nil
 |_,_,.cons r t,h=>by
  rw[bc,θ,bf] at h;exact .cons (r.cJ h.1) (t.cJ h.2)
theorem Rep.y_(r:Rep P H (.ref a) d)(h:inner d=ag)(hp:P' a):Rep P' H (.ref a) d:=by
 cases r with
 |tup e r=>cases h
 |lst e p r=>exact .lst e hp (r.cJ h)
 |cel e p r=>exact .cel e hp (r.cJ h)
 |frz e r=>cases h
 |dK e p r n=>exact .dK e hp (r.cJ h) n
 |dT e p r n=>exact .dT e hp (r.cJ h) n
 |exc n e q=>cases h
 |ins n e q=>cases h
def Own(own:af->aq)(σ:L2.St)(a:ak):Prop:=∃i,own i=ag/\σ[i]?=ae (ae (.ref a))
structure ES(own:af->aq)(H:Hp)(σ:L2.St)(ρ:aa D):Prop where
 len:σ.length=ρ.length
 at_:∀i,ρ.getD i .uD≠.uD->∃v,σ[i]?=ae (ae v)/\(own i=ah->Rep (λa=>¬Own own σ a) H v (ρ.getD i .uD))
 own:∀i v,own i=ag->σ[i]?=ae (ae v)->∃a o,v=.ref a/\Rep All H v (ρ.getD i .uD)/\inner (ρ.getD i .uD)=ag/\H a=ae o/\T_ o=ag/\∀j,own j=ag->σ[j]?=ae (ae (.ref a))->j=i
variable {own:af->aq}
theorem ES.er(e:ES own H σ ρ):ER H σ ρ:=λi hi=>by
 obtain⟨v,h1,h2⟩:=e.at_ i hi;cases ho:own i with
 |false=>exact⟨v,h1,(h2 ho).all⟩
 |true=>
  obtain⟨a,o,_,h3,_⟩:=e.own i v ho h1;exact⟨v,h1,h3⟩
theorem ES.live(e:ES own H σ ρ)(h:Own own σ a):∃o,H a=ae o/\T_ o=ag:=by
 obtain⟨i,hi,hs⟩:=h;obtain⟨b,o,eb,_,_,h3,h4,_⟩:=e.own i _ hi hs;cases eb;exact⟨o,h3,h4⟩
theorem ES.same(e:ES own H σ ρ)(s:dH H H'):ES own H' σ ρ:=by
 refine⟨e.len,λi hi=>?_,λi v hi hv=>?_⟩
 .obtain⟨v,h1,h2⟩:=e.at_ i hi;exact⟨v,h1,λho=>(h2 ho).same s⟩
 .obtain⟨a,o,h1,h2,h3,h4,h5,h6⟩:=e.own i v hi hv;exact⟨a,o,h1,h2.same s,h3,s _ _ h4,h5,h6⟩
def KU(own:af->aq)(σ:L2.St)(H:Hp)(σ':L2.St)(H':Hp):Prop:=∀a o,H a=ae o->¬Own own σ a->H' a=ae o/\¬Own own σ' a
theorem KU.trans(a:KU own σ H σ1 H1)(b:KU own σ1 H1 σ2 H2):KU own σ H σ2 H2:=λc o e n=>let ⟨e1,n1⟩:=a c o e n;b c o e1 n1
theorem KU.same(s:dH H H'):KU own σ H σ H':=λa o e n=>⟨s a o e,n⟩
theorem KU.keep(k:KU own σ H σ' H')(e:ES own H σ ρ):GZ (λa=>¬Own own σ a) H H':=λa o h hp=>by
 by_cases ho:Own own σ a
 .obtain⟨o',h1,h2⟩:=e.live ho;rw[h] at h1;cases h1;rcases hp with hp|hp
  .exact aT ho hp
  .rw[h2] at hp;cases hp
 .exact(k a o h ho).1
theorem KU.rep(k:KU own σ H σ' H')(e:ES own H σ ρ)(r:Rep (λa=>¬Own own σ a) H v d):Rep (λa=>¬Own own σ' a) H' v d:=r.aHn (k.keep e) λa o h n=>(k a o h n).2
def kRt(own:af->aq)(D:Ends)(σ:L2.St)(H:Hp)(d:Mi.D):Prop:=if own rtX=ag then ∃d0 ρ',d=.tup (d0::ρ')/\∀v σ' H',KU own σ H σ' H'->ES own H' σ' ρ'->Rep (λa=>(Own own σ a\/H a=aj)/\∀i b xs,ρ'.getD i .uD=.cel b xs->a≠b) H' v d0->D.rt v H'
  else ∀v H',(∀a o,H a=ae o->¬Own own σ a->H' a=ae o)->Rep (λa=>Own own σ a\/H a=aj) H' v d->D.rt v H'
theorem kRt.old{D:Ends}(h:kRt own D σ H d)(hx:own rtX=ah):∀v H',(∀a o,H a=ae o->¬Own own σ a->H' a=ae o)->Rep (λa=>Own own σ a\/H a=aj) H' v d->D.rt v H':=by
 unfold kRt at h;rw[aw (by rw[hx];simp)] at h;exact h
theorem kRt.mk{D:Ends}(hx:own rtX=ah)(h:∀v H',(∀a o,H a=ae o->¬Own own σ a->H' a=ae o)->Rep (λa=>Own own σ a\/H a=aj) H' v d->D.rt v H'):kRt own D σ H d:=by
 unfold kRt;rw[aw (by rw[hx];simp)];exact h
def kS(own:af->aq)(D:Ends)(σ:L2.St)(H:Hp):Fl->Prop
 |.nx ρ=>∀σ' H',KU own σ H σ' H'->ES own H' σ' ρ->D.nx σ' H'
 |.bk ρ=>∀σ' H',KU own σ H σ' H'->ES own H' σ' ρ->D.bk σ' H'
 |.ct ρ=>∀σ' H',KU own σ H σ' H'->ES own H' σ' ρ->D.ct σ' H'
 |.rt d=>kRt own D σ H d
theorem kS.step{D:Ends}{σ σ':L2.St}{H H':Hp}{fl:Fl}(k:KU own σ H σ' H')(h:kS own D σ H fl):kS own D σ' H' fl:=by
 cases fl with
 |nx ρ=>exact λσ2 H2 k2 e=>h σ2 H2 (k.trans k2) e
 |bk ρ=>exact λσ2 H2 k2 e=>h σ2 H2 (k.trans k2) e
 |ct ρ=>exact λσ2 H2 k2 e=>h σ2 H2 (k.trans k2) e
 |rt d=>
  have old:∀a,(Own own σ' a\/H' a=aj)->Own own σ a\/H a=aj:=λa ha=>by
   cases q:H a with
   |none=>exact .inr rfl
   |some o=>
    refine .inl (BM λn=>?_);obtain⟨e1,n1⟩:=k a o q n;rcases ha with ha|ha
    .exact n1 ha
    .rw[e1] at ha;cases ha
  have h:kRt own D σ H d:=h;show kRt own D σ' H' d;unfold kRt at h ⊢;by_cases hx:own rtX=ag
  .rw[ar hx] at h ⊢;obtain⟨d0,ρ',e,g⟩:=h;exact⟨d0,ρ',e,λv σ2 H2 k2 E2 r=>g v σ2 H2 (k.trans k2) E2 (r.mono λa ha=>⟨old a ha.1,ha.2⟩)⟩
  .rw[aw hx] at h ⊢;exact λv H2 hk r=>h v H2 (λa o e n=>let ⟨e1,n1⟩:=k a o e n;hk a o e1 n1) (r.mono λa ha=>old a ha)
noncomputable def tS(own:af->aq)(f:FS):TS:=λD σ H=>∃ρ fl,ES own H σ ρ/\f ρ=.ok fl/\kS own D σ H fl
theorem PS.imp{st:bi}(h:PS X st t)(i:∀D σ H,t' D σ H->t D σ H):PS X st t':=λΨ s σ H D I q=>h Ψ s σ H D I (i D σ H q)
theorem PSs.imp{st:aa bi}{t t':TS}(h:PSs X st t)(i:∀D σ H,t' D σ H->t D σ H):PSs X st t':=λΨ s σ H D I q=>h Ψ s σ H D I (i D σ H q)
section
variable {X:Cx} {a b c e:Expr} {pos pos':b6} {fe:FE} {re:aq} {gc:FT} {f g:FS} {st:bi} {rest s1 s2:aa bi}
theorem dC:PSs X [] (tS own kO):=PSs.imp Y5 λD σ H z0=>by
 obtain⟨ρ,fl,E,h,q⟩:=z0;cases h;exact q σ H (λa o e n=>⟨e,n⟩) E
theorem aHw{D:Ends}(h:tS own (a_ f g) D σ H):aFj (tS own f) (tS own g) D σ H:=by
 obtain⟨ρ,fl,E,h,q⟩:=h;obtain⟨r,h1,h2⟩:=bG h;refine⟨ρ,r,E,h1,?_⟩;cases r with
 |nx ρ'=>exact λσ' H' k E'=>⟨ρ',fl,E',h2,q.step k⟩
 |bk ρ'=>cases h2;exact q
 |ct ρ'=>cases h2;exact q
 |rt d=>cases h2;exact q
theorem aK(h1:PS X st (tS own f))(h2:PSs X rest (tS own g)):PSs X (st::rest) (tS own (a_ f g)):=PSs.imp (kJ h1 h2) λ_ _ _=>aHw
theorem aV(h1:PS X st (tS own f)):PSs X [st] (tS own f):=mH h1
theorem fO(hc:PT X c (gT gc))(ha:PSs X s1 (tS own f))(hb:PSs X s2 (tS own g)):PS X (.If c s1 s2 pos) (tS own (sIf gc f g)):=PS.imp (Y6 hc ha hb) λD σ H z0=>by
 obtain⟨ρ,fl,E,h,q⟩:=z0;obtain⟨k,h1,h2⟩:=bG h;refine⟨ρ,k,E.er,h1,λH' s=>?_⟩;cases k with
 |true=>rw[ar rfl];rw[ar rfl] at h2;exact⟨ρ,fl,E.same s,h2,q.step (.same s)⟩
 |false=>rw[aw 0x2];rw[aw 0x2] at h2;exact⟨ρ,fl,E.same s,h2,q.step (.same s)⟩
theorem oV(he:PE X e (gE fe re))(hx:own rtX=ah:=by rfl):PS X (.Return (ae e) pos) (tS own (RJ fe re)):=PS.imp (DY he) λD σ H z0=>by
 obtain⟨ρ,fl,E,h,q⟩:=z0;obtain⟨d,h1,h2⟩:=bG h;split at h2
 .rename_i hk;cases h2;refine⟨ρ,d,E.er,h1,λv H' s r n=>q.old hx v H' (λa o e _=>s a o e) ?_⟩;rw[dm] at hk;rcases hk with hk|hk
  .exact(n hk).mono λa ha=>.inr ha
  .exact r.cJ hk
 .exact bx h2
theorem aA3(ho:own i=ag)(hN:X.N[i]?=ae x)(hv:Vis X.env.scope x)(hd:nDb x:=by decide)(hcd:nCd x:=by decide)(hx:own rtX=ah:=by rfl):PS X (.Return (ae (.Name x pos')) pos) (tS own (aHm i)):=
 PS.imp (DY (cZ hN hv hd hcd)) λD σ H z0=>by
 obtain⟨ρ,fl,E,h,q⟩:=z0;obtain⟨d,h1,h2⟩:=bG h;cases h2;obtain⟨v,hv,r,e⟩:=E.er.var h1;obtain⟨a,o,rfl,r2,hin,_⟩:=E.own i v ho hv;rw[e] at hin;exact⟨_,hv,q.old hx _ H (λa o e _=>e) (r.y_ hin (.inl ⟨i,ho,hv⟩))⟩
theorem lD(ho:own i=ah)(a:ak):Own own (σ.set i (ae v)) a↔Own own σ a:=by
 constructor
 .rintro⟨j,hj,e⟩;have:i≠j:=λz=>by subst z;rw[ho] at hj;cases hj
  rw[du this] at e;exact⟨j,hj,e⟩
 .rintro⟨j,hj,e⟩;have:i≠j:=λz=>by subst z;rw[ho] at hj;cases hj
  exact⟨j,hj,by rw[du this];exact e⟩
theorem eX{ρ:aa D}:(ρ.set i d).getD j .uD=if i=j/\i<ρ.length then d else ρ.getD j .uD:=by
 rw[de,de,mj];by_cases h:i=j
 .subst h;by_cases h2:i<ρ.length
  .simp[h2]
  .simp[h2]
 .simp[h]
theorem ES.set(E:ES own H σ ρ)(ho:own i=ah)(r:Rep (λa=>¬Own own σ a) H v d):ES own H (σ.set i (ae v)) (ρ.set i d):=by
 have hO:(λa=>¬Own own (σ.set i (ae v)) a)=λa=>¬Own own σ a:=funext λa=>by rw[lD ho]
 refine⟨by simp[E.len],λj hj=>?_,λj w hj hw=>?_⟩
 .rw[eX] at hj ⊢;rw[hO];by_cases h:i=j/\i<ρ.length
  .rw[ar h];obtain⟨rfl,hl⟩:=h;exact⟨v,by rw[fq (by rw[E.len];exact hl)],λ_=>r⟩
  .rw[aw h] at hj ⊢;obtain⟨w,h1,h2⟩:=E.at_ j hj;by_cases hij:i=j
   .subst hij;have:i<σ.length:=(dQ.mp h1).1;rw[E.len] at this;exact aT ⟨rfl,this⟩ h
   .exact⟨w,by rw[du hij];exact h1,h2⟩
 .have hij:i≠j:=λz=>by subst z;rw[ho] at hj;cases hj
  rw[du hij] at hw;rw[eX,aw λz=>hij z.1];obtain⟨a,o,h1,h2,h3,h4,h5,h6⟩:=E.own j w hj hw;refine⟨a,o,h1,h2,h3,h4,h5,λk hk hs=>h6 k hk ?_⟩;have hik:i≠k:=λz=>by subst z;rw[ho] at hk;cases hk
  rwa [du hik] at hs
theorem ES.aS6{i:af}{a:ak}{o:HO}{d:D}(E:ES own H σ ρ)(s:dH H H')(ho:own i=ag)(hn:H a=aj)(r:Rep All H' (.ref a) d)(hin:inner d=ag)(ha:H' a=ae o)(hm:T_ o=ag) :
  ES own H' (σ.set i (ae (.ref a))) (ρ.set i d)/\KU own σ H (σ.set i (ae (.ref a))) H':=by
 have hO:∀b,H b≠aj->¬Own own σ b->¬Own own (σ.set i (ae (.ref a))) b:=λb hb n z0=>by
  obtain⟨j,hj,e⟩:=z0;by_cases hij:i=j
  .subst hij;by_cases hl:i<σ.length
   .rw[fq hl] at e;cases e;exact hb hn
   .rw[mj,ar rfl,aw hl] at e;cases e
  .rw[du hij] at e;exact n ⟨j,hj,e⟩
 refine⟨⟨by simp[E.len],λj hj=>?_,λj w hj hw=>?_⟩,λb ob e n=>⟨s b ob e,hO b (by rw[e];simp) n⟩⟩
 .rw[eX] at hj ⊢;by_cases h:i=j/\i<ρ.length
  .rw[ar h];obtain⟨rfl,hl⟩:=h;exact⟨.ref a,by rw[fq (by rw[E.len];exact hl)],λz=>by rw[ho] at z;cases z⟩
  .rw[aw h] at hj ⊢;obtain⟨w,h1,h2⟩:=E.at_ j hj;by_cases hij:i=j
   .subst hij;have:i<σ.length:=(dQ.mp h1).1;rw[E.len] at this;exact aT ⟨rfl,this⟩ h
   .exact⟨w,by rw[du hij];exact h1,λhj=>((h2 hj).dom.same s).mono λb ⟨n,hb⟩=>hO b hb n⟩
 .by_cases hij:i=j
  .subst hij;have hl:i<σ.length:=by
    have:=(dQ.mp hw).1;simpa using this
   rw[fq hl] at hw;cases hw;rw[eX,ar ⟨rfl,by rw[<-E.len];exact hl⟩];refine⟨a,o,rfl,r,hin,ha,hm,λk hk hs=>?_⟩;by_cases hik:i=k
   .exact hik.symm
   .rw[du hik] at hs;obtain⟨o',h1,_⟩:=E.live ⟨k,hk,hs⟩;rw[hn] at h1;cases h1
  .rw[du hij] at hw;rw[eX,aw λz=>hij z.1];obtain⟨b,ob,h1,h2,h3,h4,h5,h6⟩:=E.own j w hj hw;refine⟨b,ob,h1,h2.same s,h3,s _ _ h4,h5,λk hk hs=>?_⟩;by_cases hik:i=k
   .subst hik;by_cases hl:i<σ.length
    .rw[fq hl] at hs;cases hs;rw[hn] at h4;cases h4
    .rw[mj,ar rfl,aw hl] at hs;cases hs
   .rw[du hik] at hs;exact h6 k hk hs
theorem aFy(r:Rep P H v d)(hin:inner d=ag):∃a o,v=.ref a/\P a/\H a=ae o/\T_ o=ag:=by
 cases r with
 |lst e p r=>exact⟨_,_,rfl,p,e,rfl⟩
 |cel e p r=>exact⟨_,_,rfl,p,e,rfl⟩
 |dK e p r n=>exact⟨_,_,rfl,p,e,rfl⟩
 |dT e p r n=>exact⟨_,_,rfl,p,e,rfl⟩
 |_=>cases hin
theorem RW(E:ES own H σ ρ)(r:Rep (New H) H' v d):Rep (λa=>¬Own own σ a) H' v d:=r.mono λa ha ho=>by
 obtain⟨o,h1,_⟩:=E.live ho;rw[show H a=aj from ha] at h1;cases h1
theorem G8(ho:own i=o)(h:tS own (b7 o i fe re) D' σ H):aGx (gE fe re) (yJ i) D' σ H:=by
 obtain⟨ρ,fl,E,h,q⟩:=h;obtain⟨d,h1,h2⟩:=bG h;cases o with
 |true=>
  simp only[eL] at h2;split at h2
  .rename_i hk;cases h2;refine⟨ρ,d,E.er,h1,λv H' s r n=>?_⟩;rw[bf] at hk;obtain⟨a,ob,rfl,hn,ha,hm⟩:=aFy (n hk.1) hk.2;obtain⟨E2,k⟩:=E.aS6 s ho hn r hk.2 ha hm;exact q _ H' k E2
  .exact bx h2
 |false=>
  simp only[i8,gs] at h2;split at h2
  .rename_i hk;cases h2;refine⟨ρ,d,E.er,h1,λv H' s r n=>?_⟩;rw[dm] at hk;have r2:Rep (λa=>¬Own own σ a) H' v d:=by
    rcases hk with hk|hk
    .exact RW E (n hk)
    .exact r.cJ hk
   exact q _ H' (λa ob e hn=>⟨s a ob e,by rw[lD ho];exact hn⟩) ((E.same s).set ho r2)
  .exact bx h2
theorem aLf(ho:own i=o)(hN:X.N.Nodup)(hi:X.N[i]?=ae x)(hx:Loc X.env.scope x)(he:PE X e (gE fe re))(hs:zSw X e x pos' pos:=by rfl)(hf:zFn X x:=by first|exact .inl rfl|exact .inr rfl|assumption) :
  PS X (.Assign [.Name x pos'] e pos) (tS own (b7 o i fe re)):=PS.imp (yK hN hi hx he hs hf) λ_ _ _=>G8 ho
theorem bD{i:af}{x:Str}{o:aq}(he:PE X e (gE fe re))(ho:own i=o:=by rfl)(hN:X.N.Nodup:=by assumption)(hi:X.N[i]?=ae x:=by exact rfl)(hx:Loc X.env.scope x:=by trivial)(hs:zSw X e x pos' pos:=by rfl)(hf:zFn X x:=by first|exact .inl rfl|exact .inr rfl|assumption):PS X (.Assign [.Name x pos'] e pos) (tS own (b7 o i fe re)):=aLf ho hN hi hx he hs hf
theorem aLg(ho:own i=ah)(hoj:own j=ah)(hN:X.N.Nodup)(hi:X.N[i]?=ae x)(hx:Loc X.env.scope x)(hj:X.N[j]?=ae y)(hy:Vis X.env.scope y)(hs:dy (.Name y py) (ae (.Name x pos')) pos.line X.env=pure ah:=by rfl)(hf:zFn X x:=by first|exact .inl rfl|exact .inr rfl|assumption)
 (hd:(y==("__debug__" : Str))=ah:=by decide)(hcd:(y==("__classdict__" : Str))=ah:=by decide):PS X (.Assign [.Name x pos'] (.Name y py) pos) (tS own (sAl i j)):=PS.imp (yK hN hi hx (cZ hj hy hd hcd) hs hf) λD' σ H z0=>by
 obtain⟨ρ,fl,E,h,q⟩:=z0;obtain⟨d,h1,h2⟩:=bG h;cases h2;obtain⟨v,hv,r,e⟩:=E.er.var h1;have hne:ρ.getD j .uD≠.uD:=λz=>by
  rw[z] at e;subst e;exact Rep.uD r
 obtain⟨w,hw,hr⟩:=E.at_ j hne;rw[hv] at hw;cases hw;have r2:=hr hoj;rw[e] at r2;exact⟨v,hv,q _ H (λa ob e hn=>⟨e,by rw[lD ho];exact hn⟩) (E.set ho r2)⟩
theorem ES.mut{i:af}{a:ak}{o:HO}{d:D}(E:ES own H σ ρ)(ho:own i=ag)(hi:σ[i]?=ae (ae (.ref a)))(hm:T_ o=ag)(r:Rep All (upd H a o) (.ref a) d)(hin:inner d=ag) :
  ES own (upd H a o) σ (ρ.set i d)/\KU own σ H σ (upd H a o):=by
 have hOa:Own own σ a:=⟨i,ho,hi⟩
 obtain⟨a',oa,ea,_,_,hHa,hma,huq⟩:=E.own i _ ho hi;cases ea;have k:KU own σ H σ (upd H a o):=λb ob e n=>⟨by rw[bY (λz=>by subst z;exact n hOa)];exact e,n⟩
 have hl:i<ρ.length:=by rw[<-E.len];exact(dQ.mp hi).1
 refine⟨⟨by simp[E.len],λj hj=>?_,λj w hj hw=>?_⟩,k⟩
 .rw[eX] at hj ⊢;by_cases h:i=j/\i<ρ.length
  .obtain⟨rfl,_⟩:=h;exact⟨_,hi,λz=>by rw[ho] at z;cases z⟩
  .rw[aw h] at hj ⊢;obtain⟨w,h1,h2⟩:=E.at_ j hj;exact⟨w,h1,λhj=>k.rep E (h2 hj)⟩
 .by_cases hij:i=j
  .subst hij;rw[hi] at hw;cases hw;rw[eX,ar ⟨rfl,hl⟩];exact⟨a,o,rfl,r,hin,aO,hm,huq⟩
  .rw[eX,aw λz=>hij z.1];obtain⟨b,ob,h1,h2,h3,h4,h5,h6⟩:=E.own j w hj hw;subst h1;have hba:b≠a:=λz=>by subst z;exact hij (h6 i ho hi)
   refine⟨b,ob,rfl,?_,h3,by rw[bY hba];exact h4,h5,h6⟩;refine(h2.y_ (P':=λc=>c=b) h3 rfl).keep (λc oc hc hp=>?_) λ_ _=>trivial
   rw[bY]
   .exact hc
   .intro z;subst z;rcases hp with hp|hp
    .exact hba hp.symm
    .rw[hHa] at hc;cases hc;rw[hma] at hp;cases hp
theorem ES.ownAt(E:ES own H σ ρ)(ho:own i=ag)(hd:ρ.getD i .uD≠.uD):∃a o,σ[i]?=ae (ae (.ref a))/\Rep All H (.ref a) (ρ.getD i .uD)/\inner (ρ.getD i .uD)=ag/\H a=ae o/\T_ o=ag:=by
 obtain⟨v,h1,_⟩:=E.at_ i hd;obtain⟨a,o,rfl,h2,h3,h4,h5,_⟩:=E.own i v ho h1;exact⟨a,o,h1,h2,h3,h4,h5⟩
theorem FZ{a:ak}(r:Rep All H (.ref a) (.lst xs)):∃vs,H a=ae (.lst vs)/\cN All H vs xs:=by
 cases r with
 |lst e _ r=>exact⟨_,e,r⟩
theorem cN.upd{a:ak}{xs:aa D}{o:HO}{ob:HO}(r:cN All H vs xs)(hp:θ xs=ag)(ha:H a=ae ob)(hm:T_ ob=ag):cN All (upd H a o) vs xs:=by
 refine(r.cJ (P':=λ_=>cK) hp).keep (λc oc hc h=>?_) λ_ h=>h.elim
 rw[bY]
 .exact hc
 .intro z;subst z;rcases h with h|h
  .exact h
  .rw[ha] at hc;cases hc;rw[hm] at h;cases h
theorem uX:θ (xs++ys)=(θ xs&&θ ys):=by
 induction xs with
 |nil=>simp[θ]
 |cons x xs ih=>rw[gz,θ,θ,ih,zq]
theorem zA(ho:own i=ag)(hN:X.N[i]?=ae x)(hv:Vis X.env.scope x)(he:PE X e (gE fe re))(hd:nDb x:=by decide)(hcd:nCd x:=by decide)
 (hbase:hG (.Name x p1) "append" X.env (eval (.Name x p1) X.env)=eval (.Name x p1) X.env:=by rfl)
 (hs1:zSE X e []:=by rfl)
 (hfew:zFw X cpos [e]:=by rfl)
 (hline:(apos.endLine==cpos.line)=ag:=by rfl)
 (hs:dy (.Call (.Attribute (.Name x p1) "append" apos) [e] [] cpos) aj pos.line X.env=pure ah:=by rfl) :
  PS X (.Expr (.Call (.Attribute (.Name x p1) "append" apos) [e] [] cpos) pos) (tS own (aCs i fe)):=
 PS.imp (nF (aD7 mq vj zI yP (cZ hN hv hd hcd) (bV he jH hs1) hbase hfew hline hs1 rfl) hs) λD' σ H z0=>by
 obtain⟨ρ,fl,E,h,q⟩:=z0;obtain⟨d,h1,h2⟩:=bG h;split at h2
 .rename_i xs hx;split at h2
  .rename_i hk;cases h2;rw[bf] at hk;obtain⟨a,o,hσ,r,hin,ha,hm⟩:=E.ownAt ho (by rw[hx];intro z;cases z);rw[hx] at r hin;obtain⟨vs,hl,rr⟩:=FZ r;refine⟨_,hσ,.inl ⟨rfl,vs,.of hl⟩,ρ,d,E.er,h1,λv H' s rv _=>⟨a,vs,v,rfl,rfl,s _ _ hl,by rw[rr.length];exact UT hk.1,?_⟩⟩;have E':=E.same s;have hl':=s _ _ hl;obtain⟨E2,k2⟩:=E'.mut ho hσ rfl (.lst aO trivial (((rr.same s).snoc rv).upd (by rw[uX];simp only[bf];exact⟨hin,by simp[θ,hk.2]⟩) hl' rfl)) (by show θ (xs++[d])=ag;rw[uX];simp only[bf];exact⟨hin,by simp[θ,hk.2]⟩);exact q _ _ ((KU.same s).trans k2) E2
  .exact bx h2
 .exact bx h2
end
end Mi
namespace L2
open PySem PySem.Spec PyProof.Rows
section
theorem aDi(hNn:X.N.Nodup)(hiy:X.N[iy]?=ae y)(hxy:Loc X.env.scope y)(hfy:zFn X y)(f:Inv X Ψ σ H5 s6)(k:Y8 X Ψ H5 C)(n:s6.heap.Ns C m6)(q:yJ iy (.ref p) σ H5 D.nx):kB (ax X.prog X.w) X.A X.xe (ae (ip (.Name y py) X.env)) (λ_ s'=>SP X Ψ D .next s') (.ref p) C (.ok .next) s6:=by
 obtain⟨oC,esC,epC,hoC,hdC,_⟩:=id n;have finP:=f.Q7 (pins':=Ψ++[(C,oC)]) λp hp=>(bo.mp hp).elim (λz=>f.pin p (dS _ z)) λz=>by
  have z':p=(C,oC):=by simpa using z
  subst z';exact⟨hoC,k.1,k.2.1,k.2.2.1,λv z=>by rw[hdC] at z;cases z⟩
 refine thn (aM hNn hiy hxy hfy _ _ σ H5 (.ref p) (.ref p) D.nx finP rfl q) λ_ s7 ⟨σ7,H7,I7,q7⟩=>?_
 obtain⟨g7,hC7,_⟩:=I7.pin (C,oC) (dS _ (dS _ 0x2));refine⟨m6,n.at' λo e=>?_,λh' sb=>⟨σ7,H7,Inv.turned I7.uN (λb o hb e=>sb.extBut b o hb e) hC7 k.2.1 k.2.2.2.1 k.2.2.2.2.1 k.2.2.2.2.2,q7⟩⟩;rw[hoC] at e;cases e;exact g7
theorem aLh(S:cH X.N X.env.scope scope own)(hcalm:X.calm=ag)(hi:PI X tg iter wi)
 (hg:∀X',eV X X' scope own->PG X' tg g)(hc:(ifs=[]/\tc=λ_ H Q=>Q ag H)\/∃c,ifs=[c]/\∀X',eV X X' scope own->PT X' c tc)(he:∀X',eV X X' scope own->PE X' elt te)
 (hs:∀x,em iter X.env x=pure x)(hNn:X.N.Nodup)(hiy:X.N[iy]?=ae y)(hxy:Loc X.env.scope y)(hfy:zFn X y)(hsw:dy (.ListComp elt [⟨tg,iter,ifs,0⟩] scope pos) (ae (.Name y py)) pos2.line X.env=pure ag):PS X (.Assign [.Name y py] (.ListComp elt [⟨tg,iter,ifs,0⟩] scope pos) pos2) (aGx (RM wi g tc te own.length) (yJ iy)):=by
 intro Ψ s σ H D I h;rw[exec_Assign_Name_used _ _ _ _ hsw];refine ao (r_ (ao ?_));show ϑ _ X.A (do let _ <- zo (.ListComp elt [⟨tg,iter,ifs,0⟩] scope pos) scope X.env _ (newList []) ah (eval iter X.env) (ae (ip (.Name y py) X.env))) _ _ s;exact ao (fR (RN S hcalm hi hg hc he hs I h (aDi hNn hiy hxy hfy)) (λ_ s' hq=>aS (aS hq)) λ_ _ e=>e)
theorem aA4(S:cH X.N X.env.scope scope own)(hcalm:X.calm=ag)(hi:PI X tg iter wi)
 (hg:∀X',eV X X' scope own->PG X' tg g)(hc:∀X',eV X X' scope own->PT X' c tc)(he:∀X',eV X X' scope own->PE X' elt te)
 (hs:∀x,em iter X.env x=pure x)(hNn:X.N.Nodup)(hiy:X.N[iy]?=ae y)(hxy:Loc X.env.scope y)(hfy:zFn X y)(hsw:dy (.ListComp elt [⟨tg,iter,[c],0⟩] scope pos) (ae (.Name y py)) pos2.line X.env=pure ag):PS X (.Assign [.Name y py] (.ListComp elt [⟨tg,iter,[c],0⟩] scope pos) pos2) (aGx (RM wi g tc te own.length) (yJ iy)):=
 aLh S hcalm hi hg (.inr ⟨c,rfl,hc⟩) he hs hNn hiy hxy hfy hsw
theorem aDj(S:cH X.N X.env.scope scope own)(hcalm:X.calm=ag)(hi:PI X tg iter wi)
 (hg:∀X',eV X X' scope own->PG X' tg g)(he:∀X',eV X X' scope own->PE X' elt te)
 (hs:∀x,em iter X.env x=pure x)(hNn:X.N.Nodup)(hiy:X.N[iy]?=ae y)(hxy:Loc X.env.scope y)(hfy:zFn X y)(hsw:dy (.ListComp elt [⟨tg,iter,[],0⟩] scope pos) (ae (.Name y py)) pos2.line X.env=pure ag):PS X (.Assign [.Name y py] (.ListComp elt [⟨tg,iter,[],0⟩] scope pos) pos2) (aGx (RM wi g (λ_ H Q=>Q ag H) te own.length) (yJ iy)):=
 aLh S hcalm hi hg (.inl ⟨rfl,rfl⟩) he hs hNn hiy hxy hfy hsw
end
end L2
namespace Mi
open PySem L2 PySem.SeqAt PySem.Spec PyProof.Rows
section
variable [KFrag]
variable {own:af->aq}
section
variable {X:Cx} {a b c e:Expr} {pos pos':b6} {fb fe:FE} {re:aq} {gc:FT} {f g:FS} {st:bi} {s1 s2:aa bi}
variable {scope:el} {ownN:aa Str} {elt iter tg:Expr} {it:FI} {t:D->Res (aa D)} {gt:TG}
theorem aHx(S:cH X.N X.env.scope scope ownN)(hn:X.N.length=n)(hm:ownN.length=m)(hcalm:X.calm=ag)(hi:PI X tg iter (gI X.K it))(ht:TgC gt t n m)(hg:∀X',eV X X' scope ownN->PG X' tg gt)(he:∀X',eV X X' scope ownN->PE X' elt (gE fe re))
 (hs:∀x,em iter X.env x=pure x)(ho:own iy=o)(hNn:X.N.Nodup)(hiy:X.N[iy]?=ae y)(hxy:Loc X.env.scope y)(hfy:zFn X y)(hsw:dy (.ListComp elt [⟨tg,iter,[],0⟩] scope pos) (ae (.Name y py)) pos2.line X.env=pure ag) :
  PS X (.Assign [.Name y py] (.ListComp elt [⟨tg,iter,[],0⟩] scope pos) pos2) (tS own (b7 o iy (dM n it t iU fe re) ag)):=by
 intro Ψ s σ H D I h;subst hm;refine aDj S hcalm hi hg he hs hNn hiy hxy hfy hsw Ψ s σ H D I ?_;exact uW ht (λσ H Q h=>by obtain⟨ρ,b,E,h,q⟩:=h;cases h;exact q H (dH.refl H)) (I.len.trans hn) (G8 ho h)
theorem aA5(S:cH X.N X.env.scope scope ownN)(hn:X.N.length=n)(hm:ownN.length=m)(hcalm:X.calm=ag)(hi:PI X tg iter (gI X.K it))(ht:TgC gt t n m)(hg:∀X',eV X X' scope ownN->PG X' tg gt)(hc:∀X',eV X X' scope ownN->PT X' c (gT gc))(he:∀X',eV X X' scope ownN->PE X' elt (gE fe re))
 (hs:∀x,em iter X.env x=pure x)(ho:own iy=o)(hNn:X.N.Nodup)(hiy:X.N[iy]?=ae y)(hxy:Loc X.env.scope y)(hfy:zFn X y)(hsw:dy (.ListComp elt [⟨tg,iter,[c],0⟩] scope pos) (ae (.Name y py)) pos2.line X.env=pure ag) :
  PS X (.Assign [.Name y py] (.ListComp elt [⟨tg,iter,[c],0⟩] scope pos) pos2) (tS own (b7 o iy (dM n it t gc fe re) ag)):=by
 intro Ψ s σ H D I h;subst hm;refine aA4 S hcalm hi hg hc he hs hNn hiy hxy hfy hsw Ψ s σ H D I ?_;exact uW ht (λσ H Q h=>h) (I.len.trans hn) (G8 ho h)
theorem G9[fI κ]{k:κ}{v:V}(e:p.1=k)(h:k∉r.map (·.1)):putK (p::r) k v=(k,v)::r:=by
 unfold putK;rw[ar (by simp[e]),bc,ar e,e]
 congr 1
 have:∀q∈r,(λkv:κ×V=>if kv.1=k then (kv.1,v) else kv) q=id q:=λq hq=>by
  have:q.1≠k:=λz=>h (b9.mpr ⟨q,hq,z⟩)
  simp[this]
 rw[zS this,Aa]
theorem G_[fI κ]{k:κ}{v:V}(e:¬p.1=k):putK (p::r) k v=p::putK r k v:=by
 unfold putK;rw[i6,cg e,vo];split
 .rw[bc,aw e]
 .rfl
theorem m5[fI κ]:∀{kvs:aa (κ×V)},(kvs.map (·.1)).Nodup->((putK kvs k v).map (·.1)).Nodup:=λ{kvs} h=>by
 by_cases hk:E_ kvs k=aj
 .exact aHh v h hk
 .unfold putK;rw[ar (by rw[uT];exact Option.isSome_iff_ne_none.mpr hk),cv];have:(λx:κ×V=>x.1) ∘ (λkv:κ×V=>if kv.1=k then (kv.1,v) else kv)=λx=>x.1:=by
   funext q
   simp only[BN];split<;>rfl
  rw[this];exact h
theorem yE(rv:Rep P H v d):∀{kvs:aa (Key×V)}{ds:aa (D×D)},n6 P H kvs ds->(kvs.map (·.1)).Nodup->n6 P H (putK kvs k v) (putD ds (kD k) d)
 |_,_,.nil,_=>.cons rv .nil
 |_,_,.cons (k:=k') (v:=v') r t,hn=>by
  rw[bc] at hn;obtain⟨h1,h2⟩:=eT.mp hn;rw[putD,aA0];by_cases h:k'=k
  .subst h;rw[ar 0x2,G9 rfl h1];exact .cons rv t
  .rw[aw (by simpa using h),G_ h];exact .cons r (yE rv t h2)
theorem HB(rv:Rep P H v d):∀{kvs:aa (aa Key×V)}{ds:aa (D×D)},wV P H kvs ds->(kvs.map (·.1)).Nodup->wV P H (putK kvs k v) (putD ds (.tup (k.map kD)) d)
 |_,_,.nil,_=>.cons rv .nil
 |_,_,.cons (k:=k') (v:=v') r t,hn=>by
  rw[bc] at hn;obtain⟨h1,h2⟩:=eT.mp hn;rw[putD,aHo];by_cases h:k'=k
  .subst h;rw[ar 0x2,G9 rfl h1];exact .cons rv t
  .rw[aw (by simpa using h),G_ h];exact .cons r (HB rv t h2)
theorem n6.length:∀{kvs:aa (Key×V)}{ds:aa (D×D)},n6 P H kvs ds->kvs.length=ds.length
 |_,_,.nil=>rfl
 |_,_,.cons _ t=>by rw[cz,cz,n6.length t]
theorem wV.length:∀{kvs:aa (aa Key×V)}{ds:aa (D×D)},wV P H kvs ds->kvs.length=ds.length
 |_,_,.nil=>rfl
 |_,_,.cons _ t=>by rw[cz,cz,wV.length t]
theorem HD{a:ak}(ha:H a=ae ob)(hm:T_ ob=ag):GZ (λ_=>cK) H (L2.upd H a o):=λc oc hc h=>by
 rw[bY]
 .exact hc
 .intro z;subst z;rcases h with h|h
  .exact h.elim
  .rw[ha] at hc;cases hc;rw[hm] at h;cases h
theorem sG(hd:d.pure=ag):∀{ds:aa (D×D)},θ (ds.map (·.2))=ag->θ ((putD ds k d).map (·.2))=ag
 |[],_=>by simp[putD,θ,hd]
 | (q,w)::r,h=>by
  rw[bc,θ,bf] at h;rw[putD];split
  .rw[bc,θ,bf];exact⟨hd,h.2⟩
  .rw[bc,θ,bf];exact⟨h.1,sG hd h.2⟩
theorem aLi{ad:ak}{y v:V}{ds:aa (D×D)}{k d:D}(I:Inv X Ψ σ H s)(rd:Rep All H (.ref ad) (.dct ds))(hin:θ (ds.map (·.2))=ag)(rk:Rep All H y k)(hk:wU ds k=ag)(hl:ds.length<aI)(rv:Rep All H v d)(hd:d.pure=ag) :
  ∃H1 o,Inv X Ψ σ H1 s/\aFo H1 ad y v (L2.upd H ad o)/\T_ o=ag/\Rep All (L2.upd H ad o) (.ref ad) (.dct (putD ds k d)):=by
 unfold wU at hk;rw[bf] at hk;obtain⟨h1,h2⟩:=hk;have rv':Rep (λ_=>cK) H v d:=rv.cJ hd;cases rd with
 |@dK _ kvs ds e _ r n=>
  have hlen:=r.length;rcases mZ h1 rk with ⟨q,rfl,rfl⟩|⟨b,ks,rfl,eb,rfl⟩
  .refine⟨H,.dK (putK kvs q v),I,.k e 0x1,rfl,.dK aO trivial ?_ (m5 n)⟩;exact(yE rv' (r.cJ hin) n).keep (HD e rfl) λ_ z=>z.elim
  .cases r with
   |nil=>
    refine⟨L2.upd H ad (.dT []),.dT (putK [] ks v),q_ I e,?_,rfl,.dT aO trivial ?_ (m5 ig)⟩
    .have:=aFo.t (H:=L2.upd H ad (.dT [])) (a:=ad) (b:=b) (kvs:=[]) (k:=ks) (v:=v) aO (by rw[bY (aGt eb e 0x7)];exact eb) hl;rwa [Q5] at this
    .exact(HB (k:=ks) rv' .nil ig).keep (HD e rfl) λ_ z=>z.elim
   |cons r t=>
    rw[gj,p_] at h2;simp[isTup] at h2
 |@dT _ kvs ds e _ r n=>
  have hlen:=r.length;rcases mZ h1 rk with ⟨q,rfl,rfl⟩|⟨b,ks,rfl,eb,rfl⟩
  .cases r with
   |nil=>
    refine⟨L2.upd H ad (.dK []),.dK (putK [] q v),sE I e,?_,rfl,.dK aO trivial ?_ (m5 ig)⟩
    .have:=aFo.k (H:=L2.upd H ad (.dK [])) (a:=ad) (kvs:=[]) (k:=q) (v:=v) aO hl;rwa [Q5] at this
    .exact(yE (k:=q) rv' .nil ig).keep (HD e rfl) λ_ z=>z.elim
   |cons r t=>
    rw[gj,p_] at h2;simp[isTup] at h2
  .refine⟨H,.dT (putK kvs ks v),I,.t e eb 0x1,rfl,.dT aO trivial ?_ (m5 n)⟩;exact(HB rv' (r.cJ hin) n).keep (HD e rfl) λ_ z=>z.elim
theorem aA6(hu:X.A.units+20<dL)(ho:own i=ag)(hN:X.N[i]?=ae x)(hvi:Vis X.env.scope x)(hk:PE X k (gE fk rk))(hv:PE X value (gE fv rv))
 (hs:dy value (ae (.Subscript (.Name x p1) k pos')) pos.line X.env=pure ah:=by rfl)(hd:nDb x:=by decide)(hcd:nCd x:=by decide) :
  PS X (.Assign [.Subscript (.Name x p1) k pos'] value pos) (tS own (aFq i fk fv)):=by
 rintro Ψ s σ H D' I ⟨ρ,fl,E,h,q⟩;obtain⟨d,h0,h⟩:=bG h;obtain⟨kd,h1,h2⟩:=bG h;split at h2
 .rename_i kvs hx;split at h2
  .rename_i hg;cases h2;simp only[bf] at hg;obtain⟨⟨hg1,hg2⟩,hg3⟩:=hg;obtain⟨a,o,hσ,r,hin,ha,hm⟩:=E.ownAt ho (by rw[hx];intro z;cases z);rw[hx] at r hin;refine vS (thn (hv Ψ s σ H (λv H1=>dH H H1/\Rep All H1 v d) I ⟨ρ,d,E.er,h0,λv H1 s1 r1 _=>⟨s1,r1⟩⟩) λrr s1 ⟨v,H1,I1,rv1,sm1,rp1⟩=>
    thn (cZ hN hvi hd hcd Ψ s1 σ H1 (λw H2=>w=.ref a/\H2=H1) I1 ⟨_,hσ,rfl,rfl⟩) λu s2 ⟨xx,H2,I2,rx,ex,eH⟩=>
    thn (hk Ψ s2 σ H2 (λw H3=>dH H2 H3/\Rep All H3 w kd) I2 ⟨ρ,kd,by rw[eH];exact E.er.same sm1,h1,λv H1 s1 r1 _=>⟨s1,r1⟩⟩) λiv s3 ⟨y,H3,I3,ry,sm3,rp3⟩=>?_) hs
   subst ex eH;obtain rfl:u=c5 a:=rx;have sm:=sm1.trans sm3;obtain⟨H4,o4,I4,g,hmo,rp⟩:=aLi I3 (r.same sm) hin rp3 hg2 (UT hg1) (rp1.same sm3) hg3;obtain⟨E2,k2⟩:=(E.same sm).mut ho hσ hmo rp (sG hg3 hin);exact L_ 0x1 I4 g ry rv1 λs4 I5=>⟨σ,_,I5,q _ _ ((KU.same sm).trans k2) E2⟩
  .exact bx h2
 .exact bx h2
def TgS(own:af->aq)(g:TG)(t:D->aa D->Res (aa D)):Prop:=∀(v:V)(d:D)(ρ ρ':aa D)(σ:L2.St)(H:Hp)(Q:L2.St->Hp->Prop),ES own H σ ρ->Rep (λa=>¬Own own σ a) H v d->t d ρ=.ok ρ'->
 (∀σ',ES own H σ' ρ'->(∀a,Own own σ' a↔Own own σ a)->Q σ' H)->g v σ H Q
theorem lF(ho:own i=ah):TgS own (yJ i) (tg1 i):=λv d ρ ρ' σ H Q E r h q=>by
 cases h;exact q _ (E.set ho r) λa=>lD ho a
theorem ES.sets:∀{is:aa af}{vs:aa V}{ds:aa D}{σ:L2.St}{ρ:aa D},(∀i∈is,own i=ah)->ES own H σ ρ->cN (λa=>¬Own own σ a) H vs ds->ES own H (oU is vs σ) (MN is ds ρ)/\∀a,Own own (oU is vs σ) a↔Own own σ a
 |[],_,_,_,_,_,E,_=>by simp only[oU,MN];exact⟨E,λ_=>trivial⟩
 |i::is,_,_,σ,ρ,h,E,.nil=>by simp only[oU,MN];exact⟨E,λ_=>trivial⟩
 |i::is,_,_,σ,ρ,h,E,.cons (v:=v) r t=>by
  have ho:=h i (bq ..);have hO:(λa=>¬Own own (σ.set i (ae v)) a)=λa=>¬Own own σ a:=funext λa=>by rw[lD ho]
  obtain⟨h1,h2⟩:=ES.sets (λj hj=>h j (cr _ hj)) (E.set ho r) (by rw[hO];exact t);exact⟨h1,λa=>(h2 a).trans (lD ho a)⟩
theorem lG(K:bn)(ho:∀i∈is,own i=ah):TgS own (aOs K is.length (gIx is)) (tgN is):=λv d ρ ρ' σ H Q E r h q=>by
 cases d<;>simp only[tgN] at h<;>(try (exact bx h;done))
 split at h
 .rename_i hl;cases h;have hl':=c9 hl;obtain⟨a,xs,rfl,e,rr⟩:=r.lC;obtain⟨h1,h2⟩:=E.sets ho rr;exact⟨a,xs,rfl,.of e,by rw[rr.length];exact hl',yX _ _ _ (by rw[rr.length];exact hl') (q _ h1 h2)⟩
 .exact bx h
theorem ItQ.ku{K:bn}(h:ItQ K (λa=>¬Own own σ a) J H items)(k:KU own σ H σ' H')(E:ES own H σ ρ):ItQ K (λa=>¬Own own σ' a) J H' items:=h.keep' (k.keep E) λa o e n=>(k a o e n).2
theorem HF{K:bn}{g:TG}{t:D->aa D->Res (aa D)}{body:FS}{D':Ends}{J:It}{items:aa D}{σ:L2.St}{H1:Hp}{ρ:aa D}{fl:Fl}(tg:TgS own g t)(E:ES own H1 σ ρ)(hJ:ItQ K (λa=>¬Own own σ a) J H1 items)(hf:o_ t body items ρ=.ok fl)(q:kS own D' σ H1 fl) :
  ∃W:af->af->L2.St->Hp->Prop,(∃m,W 0 m σ H1)/\∀i m σ H,W i m σ H->
   (J.stop i H/\D'.nx σ H)\/(J.go i H/\∃N:L2.St->Hp->Prop,(∀σ' H',N σ' H'->∃m',m'<m/\W (i+1) m' σ' H')/\∀x H',J.yld i H x H'->g x σ H' λσ2 H2=>tS own body {D' with nx:=N,ct:=N,bk:=D'.nx} σ2 H2):=by
 refine⟨λi m σ' H'=>m=items.length-i/\i<=items.length/\ItQ K (λa=>¬Own own σ' a) J H' items/\∃ρ',ES own H' σ' ρ'/\o_ t body (items.drop i) ρ'=.ok fl/\kS own D' σ' H' fl,⟨items.length,rfl,gw _,hJ,ρ,E,hf,q⟩,?_⟩;rintro i m σ' H' ⟨rfl,hi,hJ',ρ',E',hf',q'⟩;rcases oy i items.length with hlt|hge
 .refine .inr ?_;have e:items[i]?=ae items[i]:=cq hlt;obtain⟨g1,g2⟩:=hJ'.go e;rw[jb hlt] at hf';obtain⟨ρ1,h1,hf2⟩:=bG hf';obtain⟨r,h2,hf3⟩:=bG hf2;refine⟨g1,λσ2 H2=>ItQ K (λa=>¬Own own σ2 a) J H2 items/\∃ρ',ES own H2 σ2 ρ'/\o_ t body (items.drop (i+1)) ρ'=.ok fl/\kS own D' σ2 H2 fl,λσ2 H2 ⟨n1,n2⟩=>⟨items.length-(i+1),by lia,rfl,hlt,n1,n2⟩,λx H2 hy=>?_⟩;obtain⟨sH,rx⟩:=g2 x H2 hy;have ks:KU own σ' H' σ' H2:=λa o e n=>⟨sH a o e,n⟩
  have hJ':=hJ'.ku ks E';have q':=q'.step ks;have E':=E'.same sH;refine tg x items[i] ρ' ρ1 σ' H2 _ E' rx h1 λσ2 E2 hO=>?_
  have k0:KU own σ' H2 σ2 H2:=λa o e n=>⟨e,by rw[hO];exact n⟩
  have hJ2:=hJ'.ku k0 E';have q2:=q'.step k0;refine⟨ρ1,r,E2,h2,?_⟩;cases r with
  |nx ρ2=>exact λσ3 H3 k3 E3=>⟨hJ2.ku k3 E2,ρ2,E3,hf3,q2.step k3⟩
  |ct ρ2=>exact λσ3 H3 k3 E3=>⟨hJ2.ku k3 E2,ρ2,E3,hf3,q2.step k3⟩
  |bk ρ2=>cases hf3;exact λσ3 H3 k3 E3=>q2 σ3 H3 k3 E3
  |rt d=>cases hf3;exact q2
 .refine .inl ⟨hJ'.stop hge,?_⟩;rw[kC hge] at hf';cases hf';exact q' σ' H' (λa o e n=>⟨e,n⟩) E'
theorem M7{tg iter:Expr}{body:aa bi}{g:TG}{t:D->aa D->Res (aa D)}{it:FI}{fb:FS}(hp:jI (ax X.prog X.w) X.A X.env X.xe)(hc:X.calm=ag)(hi:PI X tg iter (gI X.K it))(ht:TgS own g t)(hg:PG X tg g)(hb:PSs X body (tS own fb))
 (hs:∀x,em iter X.env x=pure x:=by intro _;rfl):PS X (.For tg iter body [] pos) (tS own (FP it t fb)):=PS.imp (K3 hp hc hi hg hb hs) λD' σ H z0=>by
 obtain⟨ρ,fl,E,h,q⟩:=z0;obtain⟨⟨items,k⟩,h1,h2⟩:=bG h;split at h2
 .rename_i hk;exact⟨ρ,items,k,E.er,h1,λJ H1 s1 _ hJ=>HF ht (E.same s1) ((hJ hk).keep (λ_ _ e _=>e) λa ha ho=>by
   obtain⟨o,e1,_⟩:=E.live ho;rw[show H a=aj from ha] at e1;cases e1) h2 (q.step (.same s1))⟩
 .exact bx h2
theorem aA7{g:TG}{t:D->aa D->Res (aa D)}{i:af}{x:Str}{px:b6}{fb:FS}(ho:own i=ah)(hp:jI (ax X.prog X.w) X.A X.env X.xe)(hc:X.calm=ag)(hN:X.N[i]?=ae x)(hv:Vis X.env.scope x)(ht:TgS own g t)(hg:PG X tg g)(hb:PSs X body (tS own fb))
 (hs:∀z,em (.Name x px) X.env z=pure z:=by intro _;rfl)(hd:nDb x:=by decide)(hcd:nCd x:=by decide):PS X (.For tg (.Name x px) body [] pos) (tS own (nJ i t fb)):=PS.imp (K3 hp hc (aFx hN hv hd hcd) hg hb hs) λD' σ H z0=>by
 obtain⟨ρ,fl,E,h,q⟩:=z0;obtain⟨d,h1,h⟩:=bG h;obtain⟨items,h2,h3⟩:=bG h;obtain⟨v,hv,r,e⟩:=E.er.var h1;have hne:ρ.getD i .uD≠.uD:=λz=>by
  rw[z] at e;subst e;exact Rep.uD r
 obtain⟨w,hw,hr⟩:=E.at_ i hne;rw[hv] at hw;cases hw;have r2:=hr ho;rw[e] at r2;exact⟨v,d,items,hv,r,h2,λJ hJ=>HF ht E (hJ _ r2) h3 q⟩
theorem HH{N ps:aa Str}(hst:start N vs=vs.map ae++ck (N.length-ps.length) aj)(hl:ds.length=ps.length)(r:cN All H vs ds)(hown:∀i,i<ps.length->own i=ah)(noown:∀a,¬Own own (start N vs) a):ES own H (start N vs) (ds++ck (N.length-ps.length) .uD):=by
 refine⟨by rw[hst];simp[r.length],λi hi=>?_,λi v hi hv=>?_⟩
 .have hlt:i<ds.length:=mr λhge=>hi (by
   rw[de,eJ hge,hZ];split<;>rfl)
  have e:(ds++ck (N.length-ps.length) D.uD).getD i .uD=ds[i]:=by
   rw[de,gq hlt,cq hlt];rfl
  obtain⟨v,g1,g2⟩:=r.get (i:=i) (d:=ds[i]) (by simp[hlt]);refine⟨v,by rw[hst,gq (by simp[r.length,hlt])];simp[g1],λ_=>?_⟩;rw[e];exact g2.mono λa _=>noown a
 .exfalso;rw[hst] at hv;by_cases h:i<ps.length
  .rw[hown i h] at hi;cases hi
  .rw[eJ (by simp[r.length,hl];lia)] at hv;rw[hZ] at hv;split at hv<;>cases hv
theorem aA8{N ps:aa Str}{f:FS}{vs:aa V}{H:Hp}{Q:VK}{E:XK}(hx:own rtX=ah)(hown:∀i,i<ps.length->own i=ah)(h0:spD (fnS ps.length N.length f) ps.length vs H Q E):tS own f {nx:=λ_ H'=>Q .non H',rt:=Q} (start N vs) H:=by
 obtain⟨ds,d,hl,r,h,q⟩:=h0
 .obtain⟨fl,h1,h2⟩:=bG h;have hst:start N vs=vs.map ae++ck (N.length-ps.length) aj:=by
   show vs.map ae++ck (N.length-vs.length) aj=_;rw[r.length,hl]
  have noown:∀a,¬Own own (start N vs) a:=λa z0=>by
   obtain⟨i,hi,e⟩:=z0;rw[hst] at e;by_cases h:i<ps.length
   .rw[hown i h] at hi;cases hi
   .rw[eJ (by simp[r.length,hl];lia)] at e;rw[hZ] at e;split at e<;>cases e
  have E0:ES own H (start N vs) (ds++ck (N.length-ps.length) .uD):=HH hst hl r hown noown;refine⟨_,fl,E0,h1,?_⟩;have sm:∀{σ':L2.St}{H':Hp},KU own (start N vs) H σ' H'->dH H H':=λk a o e=>(k a o e (noown a)).1
  cases fl with
  |nx ρ'=>cases h2;exact λσ' H' k E'=>q .non H' (sm k) .non λ_=>.non
  |rt d'=>
   cases h2;refine kRt.mk hx λv H' hk rp=>q v H' (λa o e=>hk a o e (noown a)) rp.all λ_=>rp.mono λa ha=>?_
   rcases ha with ha|ha
   .exact aT ha (noown a)
   .exact ha
  |bk ρ'=>exact bx h2
  |ct ρ'=>exact bx h2
theorem aLj{w:bj}{K:bn}{mg:Str->av am}{base:az}{x qual:Str}{st:bi}{fad:ak}{fd:c6}{N ps:aa Str}{k:af}{f:FS}(F:Fun K x qual st fad fd)(S:cA N ps (aL st))(own:af->aq)(hown:∀i,i<ps.length->own i=ah)(hNl:ps.length<=N.length)
 (hbody:∀(cdv:am) (A:cj) (outer:aa cx) (s:au) (H:Hp) (E:XK),lR k (A.deeper (bS qual (aL st) s.heap.objs.size fad cdv))->PSs (nA CX0 P w K mg base N qual (aL st) fad cdv A outer s H E).nox (fW st) (tS own f))(hx:own rtX=ah:=by rfl):uO P w K mg base CX0 (k+1) fad fd ps (spD (fnS ps.length N.length f) ps.length):=
 F.ok S (λvs H Q E h=>aHs h) λcdv A outer s H vs Q E hr h=>⟨_,hbody cdv A outer s H E hr,aA8 hx hown h⟩
end
end
variable [KFrag]
structure aPe where
 s₀:au
 H₀:Hp
 env:cx
 outer:aa cx
 stack:aa cx
 ex:aa ak
 fn:Str->aq
 pn:aa (ak×bd)
abbrev mkC(X:Cx)(scope:el)(ownN:aa Str)(y:aPe):Cx:=
 {X with N:=X.N.map (eE ownN)++ownN,s₀:=y.s₀,H₀:=y.H₀,env:={y.env with scope:=ib scope X.env},outer:=y.outer,stack:=y.stack,ex:=y.ex,fn:=y.fn,pn:=y.pn,xe:=λ_ _=>cK}
theorem uB(cc:eV X X' scope ownN):∃y,X'=mkC X scope ownN y:=by
 refine⟨⟨X'.s₀,X'.H₀,X'.env,X'.outer,X'.stack,X'.ex,X'.fn,X'.pn⟩,?_⟩;obtain⟨h1,h2,h3,h4,h5,h6,h7,h8,h9,h10⟩:=cc;cases X' with
 |mk a b c d e f g h i j k l m n o p q=>
  cases j;dsimp only at *;subst h1 h2 h3 h4 h5 h6 h7 h8 h9 h10;rfl
section
theorem iH(S:cH X.N X.env.scope scope ownN)(hn:X.N.length=n)(hm:ownN.length=m)(hcalm:X.calm=ag)(hi:PI X tg iter (gI X.K it))(ht:TgC g t n m)(hg:∀y,PG (mkC X scope ownN y) tg g)(he:∀y,PE (mkC X scope ownN y) elt (gE fe re))
 (hs:∀x,em iter X.env x=pure x):PE X (.ListComp elt [⟨tg,iter,[],0⟩] scope pos) (gE (dM n it t iU fe re) ag):=
 aHv S hn hm hcalm hi ht (λX' cc=>by obtain⟨y,rfl⟩:=uB cc;exact hg y) (λX' cc=>by obtain⟨y,rfl⟩:=uB cc;exact he y) hs
theorem iR(S:cH X.N X.env.scope scope ownN)(hn:X.N.length=n)(hm:ownN.length=m)(hcalm:X.calm=ag)(hi:PI X tg iter (gI X.K it))(ht:TgC g t n m)(hg:∀y,PG (mkC X scope ownN y) tg g)(hc:∀y,PT (mkC X scope ownN y) c (gT gc))(he:∀y,PE (mkC X scope ownN y) elt (gE fe re))
 (hs:∀x,em iter X.env x=pure x):PE X (.ListComp elt [⟨tg,iter,[c],0⟩] scope pos) (gE (dM n it t gc fe re) ag):=
 aA2 S hn hm hcalm hi ht (λX' cc=>by obtain⟨y,rfl⟩:=uB cc;exact hg y) (λX' cc=>by obtain⟨y,rfl⟩:=uB cc;exact hc y) (λX' cc=>by obtain⟨y,rfl⟩:=uB cc;exact he y) hs
theorem kW(S:cH X.N X.env.scope scope ownN)(hn:X.N.length=n)(hm:ownN.length=m)(hcalm:X.calm=ag)(hi:PI X tg iter (gI X.K it))(ht:TgC g t n m)(hg:∀y,PG (mkC X scope ownN y) tg g)(he:∀y,PE (mkC X scope ownN y) elt (gE fe re))
 (hs:∀x,em iter X.env x=pure x)(ho:own iy=o)(hNn:X.N.Nodup)(hiy:X.N[iy]?=ae y)(hxy:Loc X.env.scope y)(hfy:zFn X y)(hsw:dy (.ListComp elt [⟨tg,iter,[],0⟩] scope pos) (ae (.Name y py)) pos2.line X.env=pure ag) :
  PS X (.Assign [.Name y py] (.ListComp elt [⟨tg,iter,[],0⟩] scope pos) pos2) (tS own (b7 o iy (dM n it t iU fe re) ag)):=
 aHx S hn hm hcalm hi ht (λX' cc=>by obtain⟨y,rfl⟩:=uB cc;exact hg y) (λX' cc=>by obtain⟨y,rfl⟩:=uB cc;exact he y) hs ho hNn hiy hxy hfy hsw
theorem m7(S:cH X.N X.env.scope scope ownN)(hn:X.N.length=n)(hm:ownN.length=m)(hcalm:X.calm=ag)(hi:PI X tg iter (gI X.K it))(ht:TgC g t n m)(hg:∀y,PG (mkC X scope ownN y) tg g)(hc:∀y,PT (mkC X scope ownN y) c (gT gc))(he:∀y,PE (mkC X scope ownN y) elt (gE fe re))
 (hs:∀x,em iter X.env x=pure x)(ho:own iy=o)(hNn:X.N.Nodup)(hiy:X.N[iy]?=ae y)(hxy:Loc X.env.scope y)(hfy:zFn X y)(hsw:dy (.ListComp elt [⟨tg,iter,[c],0⟩] scope pos) (ae (.Name y py)) pos2.line X.env=pure ag) :
  PS X (.Assign [.Name y py] (.ListComp elt [⟨tg,iter,[c],0⟩] scope pos) pos2) (tS own (b7 o iy (dM n it t gc fe re) ag)):=
 aA5 S hn hm hcalm hi ht (λX' cc=>by obtain⟨y,rfl⟩:=uB cc;exact hg y) (λX' cc=>by obtain⟨y,rfl⟩:=uB cc;exact hc y) (λX' cc=>by obtain⟨y,rfl⟩:=uB cc;exact he y) hs ho hNn hiy hxy hfy hsw
end
def vY(P:bp)(w:bj)(K:bn)(mg:Str->av am)(base:az)(k:af)(x:Str)(n:af)(f:aa D->Res D):Prop:=
 ∃(fad:ak)(fd:c6)(ps:aa Str),uO P w K mg base CX0 k fad fd ps (spD f n)/\mg x=ae (.ref fad)/\iq K (.ref fad)=ag/\Binds K fd ps []
section
theorem sI(C:vY X.prog X.w X.K X.mg X.base k x n f)(hr:lR k' X.A)(hkk:k<=k')(hg:Gl X x)(ha:PA X (e::es) (gA fs rr))(hdb:nDb x:=by decide)(he:zSE X e es:=by rfl)(hpl:zSP X pos es:=by rfl) :
  PE X (.Call (.Name x p) (e::es) [] pos) (gE (aX (mW n f) fs) ag):=by
 obtain⟨fad,fd,ps,F,hm,hk,hb⟩:=C;exact aHt F (hr.mono hkk) hg hm hk hb ha hdb he hpl
theorem M8{K:bn}{st:bi}{fad:ak}{fd:c6}{N ps:aa Str}{fs:FS}(F:Fun K x x st fad fd)(hm:mg x=ae (.ref fad))(hb:Binds K fd ps [])(S:cA N ps (aL st))(own:af->aq)(hown:∀i,i<ps.length->own i=ah)(hNl:ps.length<=N.length)
 (hbody:∀(cdv:am) (A:cj) (outer:aa cx) (s:au) (H:Hp) (E:XK),lR k (A.deeper (bS x (aL st) s.heap.objs.size fad cdv))->PSs (nA CX0 P w K mg base N x (aL st) fad cdv A outer s H E).nox (fW st) (tS own fs))(hx:own rtX=ah:=by rfl):vY P w K mg base (k+1) x ps.length (fnS ps.length N.length fs):=
 ⟨fad,fd,ps,aLj F S own hown hNl hbody hx,hm,F.kp,hb⟩
end
theorem yF(hr:lR k A):A.units+20<dL:=zC (Nat.add_le_add_left (by decide:20<=64) _) hr.units
structure Bt(mg:Str->av am):Prop where
 len:mg "len"=aj
 min:mg "min"=aj
 max:mg "max"=aj
 list:mg "list"=aj
 tuple:mg "tuple"=aj
 sorted:mg "sorted"=aj
 range:mg "range"=aj
 isi:mg "isinstance"=aj
 int:mg "int"=aj
 bool:mg "bool"=aj
 str:mg "str"=aj
 dict:mg "dict"=aj
 all:mg "all"=aj
 enum:mg "enumerate"=aj
 sum:mg "sum"=aj
 zip:mg "zip"=aj
 abs:mg "abs"=aj
 reversed:mg "reversed"=aj
theorem cQ:ei "len"=ae (.builtin "len"):=0x6
theorem HJ:ei "isinstance"=ae (.builtin "isinstance"):=0x6
theorem zE:ei "list"=ae (.type "list"):=0x6
theorem iZ:ei "tuple"=ae (.type "tuple"):=0x6
theorem aLk:ei "str"=ae (.type "str"):=0x6
theorem aHy:ei "dict"=ae (.type "dict"):=0x6
theorem ints_rep:∀ns:aa ai,cN P H (ns.map V.int) (ns.map τ)
 |[]=>.nil
 |n::ns=>.cons (.int n) (ints_rep ns)
end Mi
namespace Mi
open PySem L2
theorem aA9{ns:aa ai}{E:XK}(main:∀ns:aa ai,ns.length<=63->f [.scr (ns.map τ)]=.ok (.bl ag))(hl:ns.length<=63)(hO:Only H)(hS:SqL K H a (ns.map V.int)):@spD ⟨K⟩ f 1 [.ref a] H (λv _=>v=.bl ag) E:=by
 letI:KFrag:=⟨K⟩
 refine⟨[.scr (ns.map τ)],.bl ag,rfl,.cons (.frz ?_ (ints_rep ns)) .nil,main ns hl,λv H' s r n=>by cases r.inv;rfl⟩;rcases hS with (h|⟨o,h⟩)|h
 .rcases hO a with z|⟨o,xs,z⟩
  .rw[h] at z;cases z
  .rw[h] at z;cases z
 .exact .inl ⟨o,h⟩
 .exact .inr h
end Mi
namespace Mi
universe u
section
variable {α:Type u} {us:aa α}
theorem l1(h:us.length=1):∃a,us=[a]:=List.length_eq_one_iff.mp h
theorem l2(h:us.length=2):∃a b,us=[a,b]:=by
 cases us with
 |nil=>cases h
 |cons a t=>obtain⟨b,rfl⟩:=l1 (ms h);exact⟨a,b,rfl⟩
theorem l3(h:us.length=3):∃a b c,us=[a,b,c]:=by
 cases us with
 |nil=>cases h
 |cons a t=>obtain⟨b,c,rfl⟩:=l2 (ms h);exact⟨a,b,c,rfl⟩
theorem l4(h:us.length=4):∃a b c d,us=[a,b,c,d]:=by
 cases us with
 |nil=>cases h
 |cons a t=>obtain⟨b,c,d,rfl⟩:=l3 (ms h);exact⟨a,b,c,d,rfl⟩
theorem l5(h:us.length=5):∃a b c d e,us=[a,b,c,d,e]:=by
 cases us with
 |nil=>cases h
 |cons a t=>obtain⟨b,c,d,e,rfl⟩:=l4 (ms h);exact⟨a,b,c,d,e,rfl⟩
theorem l6(h:us.length=6):∃a b c d e f,us=[a,b,c,d,e,f]:=by
 cases us with
 |nil=>cases h
 |cons a t=>obtain⟨b,c,d,e,f,rfl⟩:=l5 (ms h);exact⟨a,b,c,d,e,f,rfl⟩
end
open PySem L2 PySem.SeqAt PySem.Spec PyProof.Rows
def QW:D->D->Res D
 |.str x,.int n=>if ϒ (0<=n)&&ϒ (n<=100000)&&ϒ (x.length*n.toNat<=lim) then .ok (.str (se x n)) else .bad
 |a,b=>aW .mul a b
def inX:D->D->Res D
 |.str c,.str x=>.ok (.bl (!(yp x c 0 x.length 1).isEmpty))
 |a,b=>cX .isin a b
def aLl:D->av ai->av ai->Res D
 |.str x,lo,hi=>if ϒ (x.length<=lim) then .ok (.str (gL x lo hi)) else .bad
 |d,lo,hi=>aOe d lo hi
def eG(a:FE)(lo hi:aa D->Res (av ai)):FE:=λρ=>do let x <- a ρ;let l <- lo ρ;let h <- hi ρ;aLl x l h
def M9:D->Res (aa D)
 |.str x=>if ϒ (x.length<=lim) then .ok (M5 x) else .bad
 |d=>sZ d
def bT(a:FE)(fr:aq):FI:=λρ=>do let x <- a ρ;let xs <- M9 x;pure (xs,fr||x.pure)
noncomputable def zF:aa D->av (aa Str)
 |[]=>ae []
 |.str x::r=>(zF r).map (x::·)
 |_::_=>aj
def joinM:D->aa D->Res D
 |.str sep,[.lst ds]=>match zF ds with
  |some ts=>if mv sep ts then .ok (.str (mw sep ts)) else .bad
  |none=>.bad
 |_,_=>.bad
variable [KFrag]
section
variable {X:Cx}
theorem uI:OpR X (en .Mult) (r2 QW ag):=by
 rintro Ψ s σ H x y v u Q I rx ry ⟨a,b,d,p,q,e,k⟩;by_cases hs:∃z n,a=.str z/\b=.int n
 .obtain⟨z,n,rfl,rfl⟩:=hs;simp only[QW] at e;split at e
  .rename_i hl;cases e;simp only[bf,eD] at hl;obtain⟨⟨h0,h1⟩,h2⟩:=hl;cases p.inv;cases q.inv;obtain⟨t,rfl⟩:=rx;obtain⟨t',rfl⟩:=ry;have hz:z.length*n.toNat<=aI:=dh h2 (by rw[d4];decide);refine SB.mul ⟨?_,λh3 _=>?_,λ_ _=>?_⟩ λt2 k2=>⟨.str _,H,I.tok k2,⟨t2,rfl⟩,k.str⟩
   .rw[cg 0x1,cg 0x1];rfl
   .have hn:0<n:=by lia
    have h4:(z.length:ai)*n<=2 ^ 63-1:=by
     have h5:((z.length*n.toNat:af):ai)<=1000000:=by
      have:lim=1000000:=by unfold lim;exact Eq.refl _
      lia
     rw[Int.natCast_mul,Int.toNat_of_nonneg h0] at h5;lia
    have h6:=(Int.le_ediv_iff_mul_le hn).mpr h4;lia
   .unfold BO;exact cg 0x1
  .exact bx e
 .have he:QW a b=aW .mul a b:=by
   unfold QW;split
   .exact aT ⟨_,_,rfl,rfl⟩ hs
   .rfl
  rw[he] at e;exact aL9 Ψ s σ H x y v u Q I rx ry ⟨a,b,d,p,q,e,k⟩
theorem M_(hu:X.A.units+20<dL):OpR X (eu .In) (r2 inX ag):=by
 rintro Ψ s σ H x y v u Q I rx ry ⟨a,b,d,p,q,e,k⟩;by_cases hs:∃z n,a=.str z/\b=.str n
 .obtain⟨z,n,rfl,rfl⟩:=hs;cases e;cases p.inv;cases q.inv;exact ZC Ψ s σ H _ _ v u Q I rx ry ⟨_,_,rfl,rfl,k.bl⟩
 .have he:inX a b=cX .isin a b:=by
   unfold inX;split
   .exact aT ⟨_,_,rfl,rfl⟩ hs
   .rfl
  rw[he] at e;exact aLa hu Ψ s σ H x y v u Q I rx ry ⟨a,b,d,p,q,e,k⟩
theorem part_of(h:ir v o):∃l:av (ai×ff),partValue l=v/\l.map (·.1)=o:=by
 cases h with
 |none=>exact⟨aj,rfl,rfl⟩
 |int i t=>exact⟨ae (i,t),rfl,rfl⟩
theorem aLm(hK:KFrag.K=X.K):SlR X (λx lo hi H Q=>∃a d,Rep All H x a/\aLl a lo hi=.ok d/\kR H d ag Q):=by
 rintro Ψ s σ H x v vl vu lo hi sl Q I rx hs pl pu ⟨a,d,p,e,k⟩;by_cases hz:∃z,a=.str z
 .obtain⟨z,rfl⟩:=hz;simp only[aLl] at e;split at e
  .rename_i hl;cases e;cases p.inv;obtain⟨t,rfl⟩:=rx;obtain⟨l,e1,e2⟩:=part_of pl;obtain⟨m,e3,e4⟩:=part_of pu;subst e1 e2 e3 e4;refine⟨"str",_,F.slot_str_getitem.lookup,vg _ _ _,?_⟩;obtain⟨o,ho,hc,hd⟩:=hs;refine wpAny_getItem_str_slice (st:=aj) ⟨o,ho,hc,hd⟩ rfl ?_;have hle:(gL z (l.map (·.1)) (m.map (·.1))).length<=aI:=dh (sg ..) (nO hl);have q:∀(t':ff)(k2:af),EP X Ψ σ Q (.str (gL z (l.map (·.1)) (m.map (·.1))) t') {s with toks:=k2}:=λt' k2=>⟨.str _,H,I.tok k2,⟨t',rfl⟩,k.str⟩
   show Made.post (if ((1:ai)==1&&(Ab (l.map (·.1)) (m.map (·.1)) 1 z.length).length==z.length)=ag then .val (.str z t) else .str ⟨((Ab (l.map (·.1)) (m.map (·.1)) 1 z.length).filterMap (z.cps[·]?)).toArray⟩) _ s;unfold gL at hle q;split
   .rename_i hh;have:=q t s.toks;rw[ar hh] at this;exact this
   .rename_i hh;rw[aw hh] at hle;have:=q s.toks (s.toks+1);rw[aw hh] at this;exact⟨hle,this⟩
  .exact bx e
 .have he:aLl a lo hi=aOe a lo hi:=by
   unfold aLl;split
   .exact aT ⟨_,rfl⟩ hz
   .rfl
  rw[he] at e;exact aPb hK Ψ s σ H x v vl vu lo hi sl Q I rx hs pl pu ⟨a,d,p,e,k⟩
theorem b_{lo hi:av Expr}{p2:b6}{fl fh:aa D->Res (av ai)}(hK:KFrag.K=X.K)(he:PE X e (gE fe re))(hl:PO X lo (gO fl))(hh:PO X hi (gO fh)):PE X (.Subscript e (.Slice lo hi aj p2) pos) (gE (eG fe fl fh) ag):=
 PE.imp (aD5 (aLm hK) he hl hh) λσ H Q z0=>by
  obtain⟨ρ,d,E,h,q⟩:=z0;obtain⟨x,h1,h⟩:=bG h;obtain⟨l,h2,h⟩:=bG h;obtain⟨u,h3,h⟩:=bG h;exact⟨ρ,x,E,h1,λv H1 s1 r1 _=>⟨ρ,l,E.same s1,h2,λH2 s2=>⟨ρ,u,E.same (s1.trans s2),h3,λH3 s3=>⟨x,d,r1.same (s2.trans s3),h,q.imp ((s1.trans s2).trans s3) id⟩⟩⟩⟩
theorem U7:∀{xs:aa V}{ds:aa D}{its:aa am}{ts:aa Str},cN P H xs ds->Vals xs its->zF ds=ae ts->∃l:aa (Str×ff),its=strValues l/\l.map (·.1)=ts
 |[],[],[],_,_,_,h=>by cases h;exact⟨[],rfl,rfl⟩
 |_,_,_,_,.cons (d:=d) r t,.cons rv tv,h=>by
  cases d with
  |str z=>
   obtain⟨ts,h1,h2⟩:=l9.mp h;cases r.inv;obtain⟨tk,rfl⟩:=rv;obtain⟨l,e1,e2⟩:=U7 t tv h1;refine⟨(z,tk)::l,?_,?_⟩
   .rw[e1];rfl
   .rw[<-h2,<-e2];rfl
  |_=>simp only[zF] at h;cases h
theorem aHz:MtR X "str.join" (rm joinM ag):=by
 rintro Ψ s σ H x xs v us Q I rv vr ⟨a,ds,d,ra,rs,h,k⟩;unfold joinM at h;split at h
 .split at h
  .rename_i ts hts;split at h
   .rename_i hok;cases h;obtain⟨vv,uu,rfl,rfl,r,rk⟩:=n8 rs vr;obtain⟨l,ys,rfl,hl,rr⟩:=r.mY;cases rk;cases ra.inv;obtain⟨t,rfl⟩:=rv;obtain⟨its,vr',pl⟩:=oN I hl;obtain⟨l2,e1,e2⟩:=U7 rr vr' hts;subst e1;exact SC.join pl e2 hok λt' k2=>⟨.str _,H,I.tok k2,⟨t',rfl⟩,k.str⟩
   .exact bx h
  .exact bx h
 .exact bx h
theorem aDk(h:joinM d ds=.ok r)(rp:Rep All H v d):tyV X.K "str" v H:=by
 have:∃z,d=.str z:=by
  unfold joinM at h;split at h
  .exact⟨_,rfl⟩
  .exact bx h
 obtain⟨z,rfl⟩:=this;cases rp.inv;rfl
theorem aDl{K:bn}(x:Str)(t:ff)(it:ak):Turn P w K tg (aPd x) [it] it (λi h=>h.IsStrIter it (fx x) x t i) where
 mem:=by simp
 obj:=λi h st b hb=>by
  have e:b=it:=by simpa using hb
  subst e;obtain⟨o,e,c,d⟩:=st;exact⟨o,e,λv z=>by rw[d] at z;cases z⟩
 keep:=λi h h' st k=>by
  obtain⟨o,e,r⟩:=st;exact⟨o,k it 0x2 o e,r⟩
 item:=by
  intro Y hP hw hK hc i Ψ s σ H E I hf st hg;subst hP hw hK;obtain⟨f0,f1,f2,f3,f4,f5⟩:=hf it 0x2;have hx:x.cps[i]?=ae x.cps[i]:=sh hg;have fin:∀(h':az)(ty:fF),(["enumerate","zip","dict_itemiterator","dict_reverseitemiterator","odict_iterator","itertools.zip_longest","itertools.pairwise"].contains ty=ah)->fx x=ty->h'.IsStrIter it ty x t (i+1)->fj it s.heap h'->
    ∃u,ae (jz ⟨#[x.cps[i]]⟩ s.toks)=ae u/\ϑ (ax Y.prog Y.w) Y.A (lv tg (.ref it) u) (λ_ s2=>∃v H',Inv Y Ψ σ H' s2/\RelV v u/\(aPd x).yld i H v H'/\s2.heap.IsStrIter it (fx x) x t (i+1)/\∀b∈[it],H' b=aj) E {s with heap:=h',toks:=s.toks+1}:=by
   intro h' ty hn hty st' sb;have I1:Inv Y Ψ σ H {s with heap:=h',toks:=s.toks+1}:=I.turned (λb o hb e=>(sb.2 b hb).trans e) f0 f1 f3 f4 f5;obtain⟨o,e,c,d⟩:=id st';exact⟨_,rfl,aD1 e c d hn ⟨.str ⟨#[x.cps[i]]⟩,H,I1,⟨_,rfl⟩,⟨rfl,_,hx,rfl⟩,by rw[hty];exact st',λb hb=>(hf b hb).1⟩⟩
  cases ha:x.cps.all (·<128)
  .have hty:fx x="str_iterator":=by simp[fx,ha]
   rw[hty] at st;exact wpAny_pyNext_wide_item st hx λh' st' sb=>fin h' _ 0x4 hty st' sb
  .have hty:fx x="str_ascii_iterator":=by simp[fx,ha]
   rw[hty] at st;exact wpAny_pyNext_ascii_item st hx λh' st' sb=>fin h' _ 0x4 hty st' sb
 done:=by
  intro Y hP hw hK hc i Ψ s σ H E I hf st hg;subst hP hw hK;obtain⟨f0,f1,f2,f3,f4,f5⟩:=hf it 0x2;have hx:x.cps[i]?=aj:=Ac hg;cases ha:x.cps.all (·<128)
  .have hty:fx x="str_iterator":=by simp[fx,ha]
   rw[hty] at st;exact wpAny_pyNext_wide_end (I.ok.hd hc) st hx λh' eb=>⟨rfl,I.turned (λb o hb e=>eb b o hb e) f0 f1 f3 f4 f5⟩
  .have hty:fx x="str_ascii_iterator":=by simp[fx,ha]
   rw[hty] at st;exact wpAny_pyNext_ascii_end (I.ok.hd hc) st hx λh' eb=>⟨rfl,I.turned (λb o hb e=>eb b o hb e) f0 f1 f3 f4 f5⟩
 self:=λ_ _ _ _ _ st h=>by
  cases ha:x.cps.all (·<128)
  .have hty:fx x="str_iterator":=by simp[fx,ha]
   rw[hty] at st;exact wpAny_pyIter_striter_wide st h
  .have hty:fx x="str_ascii_iterator":=by simp[fx,ha]
   rw[hty] at st;exact wpAny_pyIter_striter_ascii st h
section
variable {tg l:Expr}
theorem aAa(I1:Inv X Ψ σ H1 s1)(r:Rep All H1 v d)(ru:RelV v u)(hi:M9 d=.ok items)
 (q:∀J,(∀P:ak->Prop,Rep P H1 v d->ItQ X.K P J H1 items)->R J H1):ϑ (ax X.prog X.w) X.A (ka u) (PIE X Ψ σ tg R) X.xe s1:=by
 by_cases hz:∃z,d=.str z
 .obtain⟨z,rfl⟩:=hz;simp only[M9] at hi;split at hi
  .cases hi;cases r.inv;obtain⟨t,rfl⟩:=ru;refine wpAny_pyIter_strU ?_;refine⟨s1.heap.objs.size,[s1.heap.objs.size],_,_,H1,rfl,I1.kept λb o e=>cu _ e,aDl z t _,⟨_,dq _ rfl,rfl,rfl⟩,λb hb=>?_,q _ λP r=>.chs z rfl rfl⟩;have e:b=s1.heap.objs.size:=by simpa using hb
   subst e;exact I1.aOa (br _) (I1.hok.fresh (br _))
  .exact bx hi
 .have he:M9 d=sZ d:=by
   unfold M9;split
   .exact aT ⟨_,rfl⟩ hz
   .rfl
  rw[he] at hi;exact U4 I1 r ru hi q
theorem cL(hl:PE X l (gE fl rl)):PI X tg l (gI X.K (bT fl rl)):=by
 rintro Ψ s σ H R I ⟨ρ,items,k,E,h,q⟩;obtain⟨d,h1,h⟩:=bG h;obtain⟨its,h2,h⟩:=bG h;cases h;refine thn (hl Ψ s σ H _ I ⟨ρ,d,E,h1,λv H1 s1 r1 n1=>(show(∃d',Rep All H1 v d/\d'=d/\∀J,(∀P:ak->Prop,Rep P H1 v d->ItQ X.K P J H1 items)->R J H1) from ⟨d,r1,rfl,λJ hJ=>q J H1 s1 (hJ _ r1) λhk=>hJ _ ?_⟩)⟩) λu s1 ⟨v,H1,I1,ru,d',r1,e,q1⟩=>aAa I1 r1 ru h2 q1
 rw[dm] at hk;rcases hk with hk|hk
 .exact n1 hk
 .exact r1.cJ hk
end
end
end Mi
namespace Mi
open PySem L2
theorem aLn(b:aq):asB (.bl b)=.ok b:=rfl
theorem bA:lim=1000000:=by unfold lim;exact Eq.refl _
theorem aAb(h:ρ.length=n):T8 n ρ=ρ:=by
 subst h;apply vT
 .simp[T8]
 .intro i h1 h2;simp[T8,h2]
theorem fH(h:ds.length=n):mW n f ds=f ds:=by
 unfold mW;rw[ar (by simp[h])]
theorem aJ(h1:a ρ=.ok x)(h2:b ρ=.ok y)(h3:f x y=.ok z):b2 f a b ρ=.ok z:=by
 unfold b2;rw[h1,ε,h2,ε,h3]
theorem bB(h:f ρ=.ok d):b7 ah i f ag ρ=.ok (.nx (ρ.set i d)):=by
 unfold b7;rw[h,ε];rfl
theorem bZ(h:f ρ=.ok d)(hp:d.pure=ag):b7 ah i f ah ρ=.ok (.nx (ρ.set i d)):=by
 unfold b7;rw[h,ε];simp only[hp,vo,i8,gs,eL]
theorem fZ(h:f ρ=.ok d)(hp:inner d=ag):b7 ag i f ag ρ=.ok (.nx (ρ.set i d)):=by
 unfold b7;rw[h,ε];simp only[hp,kF,eL]
theorem aLo(h:cV j ρ=.ok d):sAl i j ρ=.ok (.nx (ρ.set i d)):=by
 unfold sAl;rw[h,ε]
theorem aG(h1:f ρ=.ok (.nx ρ'))(h2:g ρ'=r):a_ f g ρ=r:=by
 unfold a_;rw[h1,ε];exact h2
theorem aLp(h1:c ρ=.ok k)(h2:(if k then f ρ else g ρ)=r):sIf c f g ρ=r:=by
 unfold sIf;rw[h1,ε];exact h2
theorem lO(h1:c ρ=.ok ag)(h2:f ρ=r):sIf c f g ρ=r:=aLp h1 (by rw[ar rfl];exact h2)
theorem gW(h1:c ρ=.ok ah)(h2:g ρ=r):sIf c f g ρ=r:=aLp h1 (by rw[aw 0x2];exact h2)
theorem dO(h1:f ρ=.ok (.bl k)):bTB f ρ=.ok k:=by
 unfold bTB;rw[h1,ε];rfl
theorem xQ(h1:a ρ=.ok ag)(h2:b ρ=r):KY a b ρ=r:=by
 unfold KY;rw[h1,ε,ar rfl,h2]
theorem NB(h1:a ρ=.ok ah):KY a b ρ=.ok ah:=by
 unfold KY;rw[h1,ε,aw 0x2];rfl
theorem aD(h1:a ρ=.ok x)(h2:b ρ=.ok xs):aC a b ρ=.ok (x::xs):=by
 unfold aC;rw[h1,ε,h2,ε];rfl
theorem cU(h1:a ρ=.ok xs)(h2:f xs=.ok d):aX f a ρ=.ok d:=by
 unfold aX;rw[h1,ε,h2]
theorem dD(h:a ρ=.ok xs)(hl:xs.length<=lim):fM a ρ=.ok (.tup xs):=by
 unfold fM;rw[h,ε,ar (bg hl)];rfl
theorem uY(h:f ρ=.ok d)(hp:(k||d.pure)=ag):RJ f k ρ=.ok (.rt d):=by
 unfold RJ;rw[h,ε,ar hp]
theorem lH(h1:it ρ=.ok (xs,ag))(h2:o_ t body xs ρ=r):FP it t body ρ=r:=by
 unfold FP;rw[h1,ε];exact h2
theorem oW(h1:cV i ρ=.ok d)(h2:sZ d=.ok xs)(h3:o_ t body xs ρ=r):nJ i t body ρ=r:=by
 unfold nJ;rw[h1,ε,h2,ε];exact h3
theorem uC(h:f ρ=.ok [.int n])(h1:0<=n)(h2:n<=1000000):sX f mX ρ=.ok ((ay n.toNat).map λ(k:af)=>τ (0+(k:ai)),ag):=by
 unfold sX;rw[h,ε];have:uG n=ag:=by
  simp only[uG,bf,eD];lia
 simp only[mX,this,eL]
theorem aAc(h1:g ρ=.ok d)(h2:f ρ=.ok k)(h3:ρ.getD i .uD=.dct kvs)(h4:kvs.length<lim)(h5:wU kvs k=ag)(h6:d.pure=ag):aFq i f g ρ=.ok (.nx (ρ.set i (.dct (putD kvs k d)))):=by
 unfold aFq;rw[h1,ε,h2,ε,h3];simp only[bg h4,h5,h6,kF,eL]
theorem zG(h1:f ρ=.ok d)(h3:ρ.getD i .uD=.lst xs)(h4:xs.length<lim)(h5:d.pure=ag):aCs i f ρ=.ok (.nx (ρ.set i (.lst (xs++[d])))):=by
 unfold aCs;rw[h1,ε,h3];simp only[bg h4,h5,kF,eL]
theorem gF(h1:t x ρ=.ok ρ1)(h2:body ρ1=.ok (.nx ρ2))(h3:o_ t body xs ρ2=r):o_ t body (x::xs) ρ=r:=by
 rw[o_,h1,ε,h2,ε];exact h3
theorem aAd(h1:it ρ=.ok (xs,kk))(h2:xs.length<=lim)(h3:xP (RG n t c f k ρ) [] xs=.ok ys):dM n it t c f k ρ=.ok (.lst ys):=by
 unfold dM;rw[h1,ε];simp only[bg h2,eL];rw[h3];rfl
theorem NK(hρ:ρ.length=n)(h1:c (ρ++[x])=.ok b)(h2:b=ag->f (ρ++[x])=.ok y/\(k||y.pure)=ag):RG n mK c f k ρ acc x=.ok (if b then acc++[y] else acc):=by
 unfold RG;show(do let ok <- c (T8 n ρ++[x]);_)=_;rw[aAb hρ,h1,ε];cases b with
 |true=>
  obtain⟨e1,e2⟩:=h2 rfl;rw[ar rfl,e1,ε,ar e2,ar rfl];rfl
 |false=>
  rw[aw 0x2,aw 0x2];rfl
theorem i_(a b:ai):aW .add (.int a) (.int b)=.ok (.int (a+b)):=rfl
theorem aAe(a b:ai):aW .sub (.int a) (.int b)=.ok (.int (a-b)):=rfl
theorem aLq(a b:ai)(h:kE b=ag):aW .mul (.int a) (.int b)=.ok (.int (a*b)):=by
 show(if kE a||kE b then δ (τ (a*b)) else .bad)=_;rw[h,wa,ar rfl]
theorem jA(a b:ai)(h1:0<b)(h2:b<1073741824):aW .fdiv (.int a) (.int b)=.ok (.int (a / b)):=by
 show(if ϒ (0<b)&&ϒ (b<1073741824) then δ (τ (a / b)) else .bad)=_;rw[bg h1,bg h2,kF,ar rfl]
theorem dY(a b:ai)(h1:0<b):aW .mod (.int a) (.int b)=.ok (.int (a % b)):=by
 show(if ϒ (0<b) then δ (τ (a % b)) else .bad)=_;rw[bg h1,ar rfl]
theorem HN(a:ai)(h1:-1000000<=a)(h2:a<=1000000):kE a=ag:=by
 simp only[kE,bf,eD];lia
theorem aAf(a b:Str)(h:a.length+b.length<=lim):aW .add (.str a) (.str b)=.ok (.str (a++b)):=by
 show(if ϒ (a.length+b.length<=lim) then δ (ι (a++b)) else .bad)=_;rw[bg h,ar rfl]
theorem HQ(a b:aa D)(h:a.length+b.length<=lim)(ha:θ a=ag)(hb:θ b=ag):aW .add (.lst a) (.lst b)=.ok (.lst (a++b)):=by
 show(if ϒ (a.length+b.length<=lim)&&θ a&&θ b then δ (ξ (a++b)) else .bad)=_;rw[bg h,ha,hb,kF,kF,ar rfl]
theorem vZ(S:aa ai):θ (S.map τ)=ag:=by
 induction S with
 |nil=>rfl
 |cons q Q ih=>rw[bc,θ,ih];rfl
theorem aI0(ns:aa ai)(lo hi:av ai):cutD (ns.map τ) lo hi=(cutD ns lo hi).map τ:=by
 unfold cutD;rw[aE,iz,kG]
open PySem.SeqAt PySem.Spec PyProof.Rows
section
variable [KFrag]
theorem PS.nox{st:bi}(h:PS X.nox st t):PS X st t:=λΨ s σ H D I hw=>
 fR (h Ψ s σ H D (I.wish _) hw) (λ_ _ q=>SP.oH q) λ_ _ z=>dE z
end
open PySem.W PySem.Builtin PySem.Builtin.ObjectAttr PySem.Builtin.Getset_descriptor
def ExcAt(a C:ak)(h:az):Prop:=∃o,h.get? a=ae o/\o.cls=.ref C
structure XC(K:Frag)(C:ak):Prop where
 cl:(clsIn K C).isSome=ag
 ga:dn K (.ref C) "__getattribute__"=ae (ae (.builtin "BaseException.__getattribute__"))
 gh:dn K (.ref C) "__getattr__"=ae aj
 kc:dn K (.ref C) "__class__"=ae (ae (.builtin "object.__class__"))
 kg:jc K (.builtin "object.__class__") "__get__"=ae (ae (.builtin "getset_descriptor.__get__"))
 kt:takesIn K (.builtin "object.__class__")=ae ag
 ob:jv K C (.type "object")=ae ag
 be:jv K C (.type "BaseException")=ae ag
section
variable {prog:bp} {w:bj} {A:cj} {E:am->au->Prop} {s:au} {K:Frag} {x C:ak}
theorem F_(p:ExcAt x C h):ii M h (ko (.ref x)) (.ref C):=by
 obtain⟨o,h1,h2⟩:=p;rw[<-h2];exact(si h1).andThen .now
theorem aDm(X:K.In h)(c:XC K C):ii M h (find (.ref x) (.ref C) "__class__") (.bind (.builtin "getset_descriptor.__get__") (.builtin "object.__class__")):=by
 refine(jd X c.kc).andThen ((looks_specialIn X c.kg).andThen ?_);have L:ii M h (dataDescriptor? (ae (.builtin "object.__class__")) (ae (.builtin "getset_descriptor.__get__"))) (ae (.builtin "getset_descriptor.__get__",.builtin "object.__class__")):=(looks_takesIn X c.kt).andThen .now;exact L.andThen (Looks.tag .now)
theorem aI1(X:K.In s.heap)(p:ExcAt x C s.heap)(c:XC K C)(h:R (.ok (.ret (.ref C))) s) :
  codeAny (ax prog w) A (.call (.builtin "getset_descriptor.__get__") ⟨[.builtin "object.__class__",.ref x,tp],[]⟩) R s:=by
 obtain⟨hh,g,d,t,os⟩:=s;have L0:=F_ (M:=ax prog w) p;have L1:=sj (M:=ax prog w) X c.ob;refine kH Ad.plain KF.entry_gs (Ad.check _ _ _ _ _ _ _ _ KF.type_class (KF.args_gs _ _ _) ?_)
 (unfold dz.«getset_descriptor.__get__» descrGet;rw[dga_obj];refine ao (aS ?_);unfold descrGetter descrCheckInstance descrNameAndClass kK;simp only[KF.owner_class])
 repeat lk
 refine⟨mz _ 0x6,we KF.entry_class ?_⟩
 (unfold dz.«object.__class__» shownTypeOf;repeat lk)
 exact h
theorem aAg(X:K.In s.heap)(p:ExcAt x C s.heap)(c:XC K C)(h:Q (.done (.ret (.ref C))) s) :
  ϑ (ax prog w) A (dz.«object.__getattribute__» ⟨[.ref x,.str "__class__" tk],[]⟩) Q E s:=by
 obtain⟨hh,g,d,t,os⟩:=s;have L0:=F_ (M:=ax prog w) p;have L1:=aDm (M:=ax prog w) (x:=x) X c;unfold dz.«object.__getattribute__»;refine ao (aS ?_);refine ao (aS ?_);refine ao (L0.at (ao (L1.at ?_)));show ϑ _ _ (lw [_] (call _ [_,.ref x,.ref C]) >>= ret) _ _ _;exact ao (eM (iP (aI1 X p c (aS h))))
theorem NP(X:K.In s.heap)(p:ExcAt x C s.heap)(c:XC K C)(h:Q () s):ϑ M A (Ae "BaseException.__getattribute__" ⟨[.ref x,nv],[]⟩) Q E s:=by
 obtain⟨hh,g,d,t,os⟩:=s;have L0:ii M hh (kK (.ref x) (.type "BaseException")) ag:=(F_ p).andThen (sj X c.be);have e1:builtinKind "BaseException.__getattribute__"=ae .slot:=by decide +kernel
 have e2:splitId "BaseException.__getattribute__"=ae ("BaseException","__getattribute__"):=by decide +kernel
 have ha:=F.args_bexc_ga (.ref x) nv;simp only[Ae,e1,e2];refine ao (L0.at ?_)
 repeat (any_goals (first|assumption|wp_step))
theorem aI2(X:K.In s.heap)(p:ExcAt x C s.heap)(c:XC K C)(h:Q (ae (.ref C)) {s with toks:=s.toks+1}):ϑ (ax prog w) A (wf (.ref x) "__class__") Q E s:=by
 obtain⟨hh,g,d,t,os⟩:=s;have L0:=F_ (M:=ax prog w) p;have L1:=jd (M:=ax prog w) X c.ga;have L2:=jd (M:=ax prog w) X c.gh;have e2:(iA "BaseException.__getattribute__"==iA "object.__getattribute__")=ah:=by decide +kernel
 have e1:(mE (c5 C)&&iA "BaseException.__getattribute__"==iA "object.__getattribute__")=ah:=by rw[e2];rfl
 unfold wf getAttrBy? getAttrBy;refine ao (Af (ao (iE (eM (ao (L0.at (ao (L1.at ?_))))))));dsimp only;rw[e1,aw 0x4];unfold Ag hookBefore Ah Ai;rw[ar (show mE (c5 C)=ag from rfl)];refine ao (L2.at (ao (iE (eM ?_))));rw[aw 0x4];refine ao (f_ (sk.ga.bind (.ref x)) ?_);refine iP (kH sk.ga.plain Aj (NP (K:=K) (C:=C) X p c (aAg (K:=K) (C:=C) X p c ?_)));show ϑ _ _ (handedOut (.ref C)) _ _ _;exact aS (aS h)
theorem U8(c:XC K C):KitX K (.ref x) (.ref C) (ExcAt x C) where
 ty:=λ_ _ _ p=>F_ p
 it:=λM h X _=>by
  obtain⟨cd,hc⟩:=n4.mp c.cl;unfold clsIn at hc;split at hc
  .rename_i ho;intro A' Q' E' s' k q
   (unfold isType loadHead;exact ao (wpAny_loadPart (k _ _ (X _ _ ho)) (aS q)))
  .cases hc
 ne:=λh tp dd its n sl X e=>by
  obtain⟨cd,hc⟩:=n4.mp c.cl;unfold clsIn at hc;split at hc
  .rename_i ho;refine Ak.mpr λq=>?_
   have z:C=tp:=BQ (eR.mp q);subst z;cases (X _ _ ho).symm.trans e
  .cases hc
 ca:=λX p h=>aI2 X p c h
end
end Mi
namespace Mi
open PySem L2 PySem.W PySem.SeqAt PySem.Spec PyProof.Rows
noncomputable abbrev mrk(X:Cx)(v:am):Cx:={X with A:=X.A.mark (ae v),calm:=ah}
section
variable {a:ak}
theorem aAh(I:Inv X Ψ σ H s)(v:am):Inv (mrk X v) Ψ σ H s:=
 ⟨⟨I.ok.mod,I.ok.kind,I.ok.glob,I.ok.blt,I.ok.above,I.ok.inj,I.ok.has,I.ok.cab,(λz=>nomatch z),I.ok.frames,I.ok.stk,I.ok.exf,I.ok.bs,I.ok.bsz,I.ok.noex,I.ok.exfs,I.ok.WL,I.ok.frf⟩,I.os,I.bare,I.base,I.loc,I.cell,I.free,I.freeC,I.pin,I.hok,I.len⟩
theorem aAi(ok:X.Ok)(I:Inv (mrk X v) Ψ σ H s):Inv X Ψ σ H s:=
 ⟨ok,I.os,I.bare,I.base,I.loc,I.cell,I.free,I.freeC,I.pin,I.hok,I.len⟩
theorem aFz(u:Un fs [] H H2 h h6)(hg:h.get? a=aj)(hn:H2 a=aj):Un fs [] H (upd H2 a o) h h6:=by
 have ne:∀b ob,h.get? b=ae ob->b≠a:=λb ob q z=>by rw[z,hg] at q;cases q
 refine⟨u.keep,u.slot,λb ob q n hx=>by rw[bY (ne b ob q)];exact u.free b ob q n hx,u.there,λb xs q=>?_,λb ob xs q=>?_,λb ps q=>?_⟩
 .have z:=u.tups b xs q;rw[bY (dG z hn)];exact z
 .have z:=u.frzs b ob xs q;rw[bY (dG z hn)];exact z
 .obtain⟨m,z⟩:=u.tbls b ps q;exact⟨m,by rw[bY (dG z hn)];exact z⟩
theorem aAj(x:HOk P w H2 h6)(hn:H2 a=aj)(new:jN P w (upd H2 a o) h6 a o):HOk P w (upd H2 a o) h6:=λb u e=>by
 by_cases hb:b=a
 .subst hb;rw[aO] at e;cases e;exact new
 .rw[bY hb] at e;exact(x b u e).stay (λc v _ q=>q) (λc q=>by rw[bY (dG q hn)];exact q) λc xs q=>by rw[bY (dG q hn)];exact q
theorem aDn(I:Inv X Ψ σ H s)(hN:X.N.Nodup)(hi:X.N[i]?=ae x)(hn:s.heap.Ns X.env.locals m)
 (hl:∀(i:af) (x:Str) (v:V),X.N[i]?=ae x->σ[i]?=ae (ae v)->Vis X.env.scope x->∃u,RelV v u/\Look X.env s.heap m x u)
 (hn':h'.Ns X.env.locals (λy=>if y=x then v else m y))(hs:fj X.env.locals s.heap h'):Inv X Ψ (σ.set i aj) H {s with heap:=h',toks:=t'}:=by
 have hiσ:i<σ.length:=by rw[I.len];exact(dQ.mp hi).1
 have cne:=I.cne;have ne:∀b o,X.s₀.heap.get? b=ae o->b≠X.env.locals:=λb o e=>c_ (dP (bX e) I.ok.above)
 refine⟨I.ok,I.os,I.bare,⟨λb o e n hb hx=>(hs.2 b (ne b o e)).trans (I.base.keep b o e n hb hx),λb o e n hb hx=>?_,I.base.free,λb o e hx=>?_,I.base.tups,I.base.frzs,I.base.tbls⟩,⟨_,hn',λj y v' e1 e2 e3=>?_⟩,λy c e=>?_,I.free,I.freeC,λp hp=>?_,λb ob e=>?_,by simpa using I.len⟩
 .obtain⟨sl,e1⟩:=I.base.slot b o e n hb hx;exact⟨sl,(hs.2 b (ne b o e)).trans e1⟩
 .obtain⟨o',e1⟩:=I.base.there b o e hx;exact⟨o',(hs.2 b (ne b o e)).trans e1⟩
 .by_cases hj:j=i
  .subst hj;rw[fq hiσ] at e2;cases e2
  .rw[du (Ne.symm hj)] at e2;obtain⟨u',r',q⟩:=hl j y v' e1 e2 e3;refine⟨u',r',?_⟩;rcases q with ⟨k,e⟩|⟨k,c,e,z⟩
   .refine .inl ⟨k,?_⟩;have:y≠x:=λe=>hj (GQ hN e1 (e▸hi))
    simp[this,e]
   .exact .inr ⟨k,c,e,z.sameBut hs (cne y c e)⟩
 .obtain⟨w',z⟩:=I.cell y c e;exact⟨w',z.sameBut hs (cne y c e)⟩
 .obtain⟨e,n,ne,nf,d⟩:=I.pin p hp;exact⟨(hs.2 p.1 ne).trans e,n,ne,nf,d⟩
 .refine(I.hok b ob e).stay (λc w' hc q=>(hs.2 c ?_).trans q) (λ_ q=>q) λ_ _ q=>q
  intro z;rcases hc with hc|hc
  .rw[<-hc,z,I.free] at e;cases e
  .rw[z,I.free] at hc;cases hc
end
variable [KFrag]
theorem NQ:∀{cs:aa ak}{us:aa am},Vals (cs.map V.ref) us->us=cs.map c5
 |[],_,.nil=>rfl
 |c::cs,_,.cons r t=>by rw[NQ t];cases r;rfl
theorem uZ{H:Hp}{a:ak}{o:HO}(h:H a=aj):dH H (upd H a o):=λb u e=>by rw[bY (dG e h)];exact e
theorem HR:ei "ValueError"=ae (.type "ValueError"):=0x6
noncomputable def aG0(f:FE)(t:D->aa D->Res (aa D)):FS:=λρ=>do
 let d <- f ρ
 if d.pure then (do let ρ' <- t d ρ;.ok (.nx ρ')) else .bad
theorem NT{X:Cx}{own:af->aq}{e tg:Expr}{pos:b6}{fe:FE}{re:aq}{g:TG}{t:D->aa D->Res (aa D)}(he:PE X e (gE fe re))(ht:TgS own g t)(hg:PG X tg g)(hs:nK [tg] e pos.line X.env=pure ah:=by rfl)(hw:nN [tg] e X.env=pure aj:=by rfl)
 (h1:(gp [tg] X.env).map (·.2)=[ip tg X.env]:=by rfl):PS X (.Assign [tg] e pos) (tS own (aG0 fe t)):=PS.imp (Y7 he hg hs hw h1) λD' σ H z0=>by
 obtain⟨ρ,fl,E,h,q⟩:=z0;obtain⟨d,h1,h2⟩:=bG h;split at h2
 .rename_i hp;obtain⟨ρ',h3,h4⟩:=bG h2;cases h4;refine⟨ρ,d,E.er,h1,λv H1 s1 r _=>ht v d ρ ρ' σ H1 _ (E.same s1) (r.cJ hp) h3 λσ2 E2 hO=>?_⟩;have k0:KU own σ H1 σ2 H1:=λa o e n=>⟨e,by rw[hO];exact n⟩
  exact q σ2 H1 ((KU.same s1).trans k0) E2
 .exact bx h2
def j6(a:FA):FE:=λρ=>do let xs <- a ρ;if ϒ (xs.length<=lim)&&θ xs then pure (.lst xs) else .bad
theorem gB{X:Cx}{pos:b6}{es:aa Expr}{f:FA}{r:aq}(h:PA X es (gA f r)):PE X (.List es pos) (gE (j6 f) ag):=PE.imp (TX h) λσ H Q z0=>by
  obtain⟨ρ,d,E,h,q⟩:=z0;obtain⟨xs,h1,h⟩:=bG h;split at h
  .rename_i hl;rw[bf] at hl;cases h;refine⟨ρ,xs,E,h1,λvs H1 s1 r1 n1=>⟨?_,λp hp=>?_⟩⟩
   .rw[r1.length];exact dh (c9 hl.1) (by rw[d4];decide)
   .have sp:dH H1 (upd H1 p (.lst vs)):=dH.upd hp;exact q _ _ (s1.trans sp) (.lst aO trivial (r1.same sp)) λ_=>.lst aO (s1.free hp) ((r1.cJ hl.2).same sp)
  .exact bx h
end Mi
namespace Mi
open PySem L2 PySem.SeqAt PySem.Spec PyProof.Rows
noncomputable def aAk:aa D->Res D
 |[.int n]=>if ϒ (-1000000<=n)&&ϒ (n<=1000000) then .ok (.lst ((ay n.toNat).map λ(k:af)=>τ k)) else .bad
 |_=>.bad
section
variable [KFrag]
section
theorem W9:∀(n:af)(f:af->ai)(xs:aa am),xs.length=n->(∀(j:af)(v:am),xs[j]?=ae v->∃t,v=.int (f j) t)->Vals ((ay n).map λ(k:af)=>V.int (f k)) xs:=by
 intro n;induction n with
 |zero=>intro f xs hl _;cases xs with|nil=>exact .nil|cons _ _=>simp at hl
 |succ n ih=>
  intro f xs hl h;cases xs with
  |nil=>simp at hl
  |cons x xs=>
   rw[vz,bc,cv];exact .cons (h 0 x rfl) (ih (λk=>f (k+1)) xs (by simpa using hl) λj v hj=>h (j+1) v (by simpa using hj))
theorem aDo(hc:X.calm=ag):sV X (.type "list") (λvs H Q=>∃r n,vs=[.ref r]/\H r=ae (.rng 0 n)/\-1000000<=n/\n<=1000000/\∀q,H q=aj->Q (.ref q) (upd H q (.lst ((ay n.toNat).map λ(k:af)=>V.int k)))):=by
 rintro Ψ s σ H vs us Q I vr ⟨r,n,e,er,h1,h2,q⟩;subst e;cases vr with
 |cons r1 vr=>
  cases vr;cases r1;obtain⟨t,u,v,hr⟩:=I.hok r _ er;have hn:yl 0 n 1=(n.toNat:ai):=by rw[ym];split<;>lia
  refine call_list_range (I.ok.hd hc) hr (small_one 0x1 0x1 0x1 0x1) hn 0x1 λh' tk acc' c' hk hS' hacc=>?_
  have hfr:H s.heap.objs.size=aj:=I.hok.fresh (br _);refine⟨.ref s.heap.objs.size,_,I.laid hk (br _) ?_,rfl,q _ hfr⟩;refine⟨by rw[aE,dv,d4];lia,acc'.toList,c',W9 _ (λk=>(k:ai)) _ (by simp[hacc.1]) λj v hj=>?_,by simpa using hS'⟩;obtain⟨t,ht⟩:=hacc.2 j v (by simpa using hj);exact⟨t,by rw[ht];congr 1;lia⟩
theorem zH:∀(l:aa af),cN P H (l.map λ(k:af)=>V.int k) (l.map λ(k:af)=>τ k)
 |[]=>.nil
 |n::l=>.cons (.int _) (zH l)
theorem aDp(hc:X.calm=ag)(hg:Gl X "list")(hm:X.mg "list"=aj)(hg2:Gl X "range")(hm2:X.mg "range"=aj)(ha:PA X [a] (gA fs rr))(hs:bP [a] X.env=[(ah,eval a X.env)]:=by rfl) :
  PE X (.Call (.Name "list" p) [.Call (.Name "range" p2) [a] [] pos2] [] pos) (gE (aX aAk fs) ag):=by
 have hr:PE X (.Call (.Name "range" p2) [a] [] pos2) (λσ H Q=>∃ρ n,ER H σ ρ/\fs ρ=.ok [.int n]/\∀H1 r,dH H H1->H1 r=aj->Q (.ref r) (upd H1 r (.rng 0 n))):=by
  rintro Ψ s σ H Q I ⟨ρ,n,E,h1,q⟩;refine hI (uM I hg2 hm2 boot_range ?_);refine ji (thn (ha pos2 Ψ s σ H (λvs H1=>dH H H1/\vs=[.int n]) I ⟨ρ,_,E,h1,λvs H1 s1 r1 _=>⟨s1,?_⟩⟩) λus s1 ⟨vs,H1,I1,r1,sm,e⟩=>?_) hs rfl
  .cases r1 with
   |cons r t=>cases t;cases r.inv;rfl
  .subst e;cases r1 with
   |cons r t=>
    cases t;obtain⟨t,rfl⟩:=r;have hfr:H1 s1.heap.objs.size=aj:=I1.hok.fresh (br _);exact yn ⟨.ref s1.heap.objs.size,_,I1.laid (o:=.rng 0 n) (λb o e=>cu _ e) (br _) ⟨_,_,_,dq _ rfl⟩,rfl,q H1 _ sm hfr⟩
 refine PE.imp (K9 (aDo hc) hg hm zE (bV hr jH)) λσ H Q ⟨ρ,d,E,h,q⟩=>?_
 obtain⟨xs,h1,h2⟩:=bG h;unfold aAk at h2;split at h2
 .rename_i n;split at h2
  .rename_i hb;rw[bf] at hb;cases h2;refine⟨ρ,n,E,h1,λH1 r s1 hr=>⟨r,n,rfl,aO,c9 hb.1,c9 hb.2,λq' hq'=>?_⟩⟩;have s2:=dH.upd (o:=.rng 0 n) hr;have s3:=dH.upd (o:=.lst ((ay n.toNat).map λ(k:af)=>V.int k)) hq';exact q _ _ ((s1.trans s2).trans s3) (.lst aO trivial (zH _)) λ_=>.lst aO ((s1.trans s2).free hq') (zH _)
  .exact bx h2
 .exact bx h2
end
theorem U9(ea:∀ob,H a=ae ob->aFr ob=ag)(b:ak)(o:HO)(e:H b=ae o)(h:aFr o=ah):upd H a u b=ae o:=by
 rw[bY λz=>by rw[z] at e;rw[ea _ e] at h;cases h];exact e
theorem aDq{P:ak->Prop}(ea:∀ob,H a=ae ob->aFr ob=ag)(q:Rep P H v d)(h:d.pure=ag):Rep P (upd H a u) v d:=q.G3 (U9 ea) h
theorem NZ{P:ak->Prop}(ea:∀ob,H a=ae ob->aFr ob=ag)(q:cN P H v d)(h:θ d=ag):cN P (upd H a u) v d:=q.G3 (U9 ea) h
end
def nD:D->D->Res D
 |.tup a,.tup b=>if ϒ (a.length+b.length<=lim) then .ok (.tup (a++b)) else .bad
 |_,_=>.bad
def u9:aa D->aa D->aa (D×D)->aa (D×D)
 |k::ks,v::vs,m=>u9 ks vs (putD m k v)
 |_,_,m=>m
def aAl:aa D->Res D
 |[.tup xs,.tup ys]=>if ϒ (xs.length<=1000)&&ϒ (ys.length=xs.length)&&xs.all oM&&θ ys then .ok (.dct (u9 xs ys [])) else .bad
 |_=>.bad
noncomputable def YS(c:FT)(body:FS):af->aa D->Res Fl
 |0,_=>.bad
 |n+1,ρ=>do
  let k <- c ρ
  if k then (do
   let r <- body ρ
   match r with
   |.nx ρ'=>YS c body n ρ'
   |.ct ρ'=>YS c body n ρ'
   |.bk ρ'=>.ok (.nx ρ')
   |.rt d=>.ok (.rt d))
  else .ok (.nx ρ)
def aQj(c:FT)(body:FS):FS:=λρ=>YS c body 1000 ρ
variable [KFrag]
section
theorem dZ:OpR X (en .Add) (r2 nD ah):=by
 intro Ψ s σ H x y v u Q I rx ry h;obtain⟨a,b,d,p,q,e,k⟩:=h;unfold nD at e;split at e
 .rename_i da db;split at e
  .rename_i hl;cases e;obtain⟨l1,xs1,rfl,e1,r1⟩:=p.inv;obtain⟨l2,xs2,rfl,e2,r2⟩:=q.inv;cases rx;cases ry;have hz:xs1.length+xs2.length<=aI:=by rw[r1.length,r2.length];exact nO hl
   obtain⟨its,w1,p1,_⟩:=I.tuple (.of e1);obtain⟨its2,w2,p2,_⟩:=I.tuple (.of e2);obtain⟨⟨cls,dd,data,sl⟩,ho,hc,n,hd⟩:=id p1;obtain⟨⟨cls2,dd2,data2,sl2⟩,ho2,hc2,n2,hd2⟩:=id p2;simp only at hc hd hc2 hd2;by_cases hv:its=[]
   .have:xs1=[]:=w1.yO.mp hv;subst this;cases r1;refine ux ⟨_,ho,hc⟩ ⟨_,ho2,hc2⟩ uy uz uS u7 (va _ _)
     (tuple_addW0 l1 l2 its.toArray its2.toArray n n2 dd dd2 sl sl2 (by simp[hv])) ⟨by subst hc hd;exact ho,by subst hc2 hd2;exact ho2,.ref l2,H,I,rfl,?_⟩
    exact k.self (.tup e2 r2) (λz=>by cases z)
   .refine aH8 Ψ s σ H (.ref l1) (.ref l2) _ _ Q I rfl rfl ⟨l1,l2,xs1,xs2,rfl,rfl,.of e1,.of e2,λz=>hv (w1.yO.mpr z),hz,λz=>?_,λz p hp=>?_⟩
    .subst z;cases r2;rw[dg] at k;exact k.self (.tup e1 r1) (λz=>by cases z)
    .have sp:dH H (upd H p (.tup (xs1++xs2))):=dH.upd hp;exact k _ _ sp (.tup aO ((r1.append r2).same sp)) λz=>by cases z
  .exact bx e
 .exact bx e
theorem aLr(hp:jI (ax X.prog X.w) X.A X.env X.xe)(hc:PT X c (gT gc))(hb:PSs X body (tS own fb)):PS X (.While c body [] pos) (tS own (aQj gc fb)):=
 PS.imp (aD0 hp hc hb) λD σ H z0=>by
 obtain⟨ρ,fl,E,h,q⟩:=z0;refine⟨λm σ' H'=>∃ρ' ,ES own H' σ' ρ'/\YS gc fb m ρ'=.ok fl/\kS own D σ' H' fl,⟨1000,ρ,E,h,q⟩,?_⟩;rintro m σ H ⟨ρ,E,h,q⟩;cases m with
 |zero=>exact bx h
 |succ m=>
  rw[YS] at h;obtain⟨k,h1,h2⟩:=bG h;refine⟨ρ,k,E.er,h1,λH1 s=>?_⟩;cases k with
  |true=>
   rw[ar rfl];rw[ar rfl] at h2;obtain⟨r,h3,h4⟩:=bG h2;refine⟨λσ' H'=>∃ρ',ES own H' σ' ρ'/\YS gc fb m ρ'=.ok fl/\kS own D σ' H' fl,λσ' H' w=>⟨m,vx m,w⟩,ρ,r,E.same s,h3,?_⟩;have q1:=q.step (.same s);cases r with
   |nx ρ'=>exact λσ' H' ku E'=>⟨ρ',E',h4,q1.step ku⟩
   |ct ρ'=>exact λσ' H' ku E'=>⟨ρ',E',h4,q1.step ku⟩
   |bk ρ'=>cases h4;exact λσ' H' ku E'=>q1 σ' H' ku E'
   |rt d=>cases h4;exact q1
  |false=>
   rw[aw 0x2];rw[aw 0x2] at h2;cases h2;exact(q.step (.same s)) σ H1 (λa o e n=>⟨e,n⟩) (E.same s)
end
end Mi
namespace Wz
open PySem PySem.Spec
noncomputable abbrev itO(t:ak)(i:af):bd:={cls:=.type "tuple_iterator",data:=.fields #[.ref t,.int i 0]}
noncomputable abbrev tuO(xs:bw am)(n:af)(dd:av ak)(sl:bw (av am)):bd:={cls:=.type "tuple",dict:=dd,data:=.seq xs n,slots:=sl}
abbrev zpO(f0 f1:am)(TI TO:ak):bd:={cls:=.type "zip",data:=.fields #[f0,f1,.bool ah,.ref TI,.ref TO]}
noncomputable abbrev prO(a b:am):bd:={cls:=.type "tuple",data:=.seq #[a,b]}
theorem W_(it t:ak)(i:af)(xs:bw am)(n:af)(dd:av ak)(sl:bw (av am))(x:am)(hx:xs[i]?=ae x) :
  mI (dz.«tuple_iterator.__next__» ⟨[.ref it],[]⟩) (λ_ R s=>s.heap.get? it=ae (itO t i)/\s.heap.get? t=ae (tuO xs n dd sl)/\R (.ok (.ret x)) {s with heap:=s.heap.update it (kL (·.setIfInBounds 1 (di (i+1))))}):=.of_wp λprog w A R s hs=>by
 obtain⟨hp,g,d,tk,os⟩:=s;obtain⟨e1,e2,hq⟩:=hs
 wp_walk
 rw[jw,hx]
 wp_walk
 exact⟨_,rfl,hq⟩
theorem XF(it t:ak)(i:af)(xs:bw am)(n:af)(dd:av ak)(sl:bw (av am))(hx:xs[i]?=aj) :
  mI (dz.«tuple_iterator.__next__» ⟨[.ref it],[]⟩) (λA R s=>A.handled=aj/\s.heap.get? it=ae (itO t i)/\s.heap.get? t=ae (tuO xs n dd sl)/\∀h' e,sr it s.heap h'->(∃o,h'.get? e=ae o/\o.cls=.type "StopIteration")->R (.error (.ref e)) {s with heap:=h'}):=.of_wp λprog w A R s hs=>by
 obtain⟨hp,g,d,tk,os⟩:=s;obtain⟨hh,e1,e2,hq⟩:=hs
 wp_walk
 rw[jw,hx]
 wp_walk
 have hh1:A.in1.handled=aj:=hh;unfold raiseNew
 wp_walk
 exact hq _ _ (((mM ..).extBut.push _).push _) ⟨_,dq _ rfl,rfl⟩
section
variable {prog:bp} {w:bj} {A:cj} {E:am->au->Prop} {s:au} {it t:ak} {i:af} {xs:bw am} {x:am} {n:af} {dd:av ak} {sl:bw (av am)}
theorem drawn{Q:am->au->Prop}(e1:s.heap.get? it=ae (itO t i))(e2:s.heap.get? t=ae (tuO xs n dd sl))(hx:xs[i]?=ae x)
 (q:∀h',h'.get? it=ae (itO t (i+1))->fj it s.heap h'->Q x {s with heap:=h'}):ϑ (ax prog w) A (jx (.ref it)) Q E s:=by
 have ty:s.TypeIs (.ref it) "tuple_iterator":=⟨_,e1,rfl⟩
 refine ao (jn ty su ?_);refine kq su ty Al (Am _) (W_ it t i xs n dd sl x hx) ⟨e1,e2,aS (q _ ?_ (mM ..))⟩;exact ia _ e1 rfl
theorem over{Q:am->au->Prop}(hh:A.handled=aj)(e1:s.heap.get? it=ae (itO t i))(e2:s.heap.get? t=ae (tuO xs n dd sl))(hx:xs[i]?=aj)
 (q:∀h' e,sr it s.heap h'->(∃o,h'.get? e=ae o/\o.cls=.type "StopIteration")->E (.ref e) {s with heap:=h'}):ϑ (ax prog w) A (jx (.ref it)) Q E s:=by
 have ty:s.TypeIs (.ref it) "tuple_iterator":=⟨_,e1,rfl⟩
 refine ao (jn ty su ?_);exact kq su ty Al (Am _) (XF it t i xs n dd sl hx) ⟨hh,e1,e2,λh' e k o=>q h' e k o⟩
end
structure Apart(z TI TO i1 i2 l1 l2:ak):Prop where
 zTI:z≠TI
 zTO:z≠TO
 z1:z≠i1
 z2:z≠i2
 zl:z≠l1
 zm:z≠l2
 TT:TI≠TO
 T1:TI≠i1
 T2:TI≠i2
 O1:TO≠i1
 O2:TO≠i2
 Ol:TO≠l1
 Om:TO≠l2
 ij:i1≠i2
 il:i1≠l1
 im:i1≠l2
 jl:i2≠l1
 jm:i2≠l2
structure W(z TI TO i1 i2 l1 l2:ak)(o1 o2:bd)(f0 f1 a b:am)(k1 k2:af)(h:az):Prop where
 z_:h.get? z=ae (zpO f0 f1 TI TO)
 ti:h.get? TI=ae (prO (.ref i1) (.ref i2))
 to:h.get? TO=ae (prO a b)
 j1:h.get? i1=ae (itO l1 k1)
 j2:h.get? i2=ae (itO l2 k2)
 t1:h.get? l1=ae o1
 t2:h.get? l2=ae o2
section
variable {z TI TO i1 i2 l1 l2:ak} {o1 o2:bd} {f0 f1 g0 g1 a b c d:am} {k1 k2:af} {h h':az}
theorem W.onZ(x:W z TI TO i1 i2 l1 l2 o1 o2 f0 f1 a b k1 k2 h)(ap:Apart z TI TO i1 i2 l1 l2)(e:h'.get? z=ae (zpO g0 g1 TI TO))(k:fj z h h'):W z TI TO i1 i2 l1 l2 o1 o2 g0 g1 a b k1 k2 h':=
 ⟨e,(k.2 _ ap.zTI.symm).trans x.ti,(k.2 _ ap.zTO.symm).trans x.to,(k.2 _ ap.z1.symm).trans x.j1,(k.2 _ ap.z2.symm).trans x.j2,(k.2 _ ap.zl.symm).trans x.t1,(k.2 _ ap.zm.symm).trans x.t2⟩
theorem W.onT(x:W z TI TO i1 i2 l1 l2 o1 o2 f0 f1 a b k1 k2 h)(ap:Apart z TI TO i1 i2 l1 l2)(e:h'.get? TO=ae (prO c d))(k:fj TO h h'):W z TI TO i1 i2 l1 l2 o1 o2 f0 f1 c d k1 k2 h':=
 ⟨(k.2 _ ap.zTO).trans x.z_,(k.2 _ ap.TT).trans x.ti,e,(k.2 _ ap.O1.symm).trans x.j1,(k.2 _ ap.O2.symm).trans x.j2,(k.2 _ ap.Ol.symm).trans x.t1,(k.2 _ ap.Om.symm).trans x.t2⟩
theorem W.on1{k:af}(x:W z TI TO i1 i2 l1 l2 o1 o2 f0 f1 a b k1 k2 h)(ap:Apart z TI TO i1 i2 l1 l2)(e:h'.get? i1=ae (itO l1 k))(s:fj i1 h h'):W z TI TO i1 i2 l1 l2 o1 o2 f0 f1 a b k k2 h':=
 ⟨(s.2 _ ap.z1).trans x.z_,(s.2 _ ap.T1).trans x.ti,(s.2 _ ap.O1).trans x.to,e,(s.2 _ ap.ij.symm).trans x.j2,(s.2 _ ap.il.symm).trans x.t1,(s.2 _ ap.im.symm).trans x.t2⟩
theorem W.on2{k:af}(x:W z TI TO i1 i2 l1 l2 o1 o2 f0 f1 a b k1 k2 h)(ap:Apart z TI TO i1 i2 l1 l2)(e:h'.get? i2=ae (itO l2 k))(s:fj i2 h h'):W z TI TO i1 i2 l1 l2 o1 o2 f0 f1 a b k1 k h':=
 ⟨(s.2 _ ap.z2).trans x.z_,(s.2 _ ap.T2).trans x.ti,(s.2 _ ap.O2).trans x.to,(s.2 _ ap.ij).trans x.j1,e,(s.2 _ ap.jl.symm).trans x.t1,(s.2 _ ap.jm.symm).trans x.t2⟩
theorem W.up(x:W z TI TO i1 i2 l1 l2 o1 o2 f0 f1 a b k1 k2 h)(k:∀c o,c=z\/c=TI\/c=TO\/c=i1\/c=i2\/c=l1\/c=l2->h.get? c=ae o->h'.get? c=ae o):W z TI TO i1 i2 l1 l2 o1 o2 f0 f1 a b k1 k2 h':=
 ⟨k _ _ 0x2 x.z_,k _ _ 0x2 x.ti,k _ _ 0x2 x.to,k _ _ 0x2 x.j1,k _ _ 0x2 x.j2,k _ _ 0x2 x.t1,k _ _ 0x2 x.t2⟩
end
def aDr(z TO i1 i2:ak)(h h':az):Prop:=∀c o,c≠z->c≠TO->c≠i1->c≠i2->h.get? c=ae o->h'.get? c=ae o
section
variable {s:au} {z TI TO i1 i2 l1 l2:ak} {f0 f1 a b:am}
theorem W.ty{o1 o2:bd}{k1 k2:af}(hw:W z TI TO i1 i2 l1 l2 o1 o2 f0 f1 a b k1 k2 s.heap):s.TypeIs (.ref z) "zip":=⟨_,hw.z_,rfl⟩
end
noncomputable abbrev nxt(z:ak):Sem An:=dz.«zip.__next__» ⟨[.ref z],[]⟩
abbrev Got(Q:am->au->Prop):An->au->Prop:=λr t=>∃v,r=.done (.ret v)/\Q v t
section
theorem there(e:s.heap.get? c=ae o)(q:Q (ae o) s):ϑ (ax prog w) A (loadIfAlive c) Q E s:=λΓ p _=>by
 show Sem.wp _ Γ (.loadIfAlive c pure) _ _ p s;rw[Sem.wp_loadIfAlive,e];exact q
theorem keptAt(j:af)(v c d:am)(hw:W z TI TO i1 i2 l1 l2 o1 o2 f0 f1 a b k1 k2 s.heap)(ap:Apart z TI TO i1 i2 l1 l2)(hj:(#[a,b]:bw am).setIfInBounds j v=#[c,d])
 (q:∀h',W z TI TO i1 i2 l1 l2 o1 o2 f0 f1 c d k1 k2 h'->fj TO s.heap h'->Q () {s with heap:=h'}):ϑ (ax prog w) A (sv TO (·.setIfInBounds j v)) Q E s:=
 wpAny_updateSeq_pair hw.to λh' e sb=>q h' (hw.onT ap (by rw[e,hj]) sb) sb
theorem first(ap:Apart z TI TO i1 i2 l1 l2)(hw:W z TI TO i1 i2 l1 l2 (tuO xs n1 d1 s1) (tuO ys n2 d2 s2) .none (.bool ah) a b k k s.heap)(hx:xs[k]?=ae x)(hy:ys[k]?=ae y)
 (q:∀(h':az) (p:ak),W z TI TO i1 i2 l1 l2 (tuO xs n1 d1 s1) (tuO ys n2 d2 s2) (di p) (.bool ah) x y (k+1) (k+1) h'->h'.get? p=ae (prO x y)->p=s.heap.objs.size->aDr z TO i1 i2 s.heap h'->Q (.ref p) {s with heap:=h'}) :
  ϑ (ax prog w) A (nxt z) (Got Q) E s:=by
 refine ao (m:=sw (.ref z) 2) (dj hw.z_ rfl rfl (ao (dj hw.z_ rfl rfl (ao (iF hw.ti rfl ?_)))));refine ao (ao (dj hw.z_ rfl (x:=.none) rfl (aS ?_)));rw[ar rfl];refine ao (kM (ao (dj hw.z_ rfl (x:=.ref TO) rfl (ao (kN hw.z_ 0x2 λh1 e1 k1=>?_)))));have w1:W z TI TO i1 i2 l1 l2 (tuO xs n1 d1 s1) (tuO ys n2 d2 s2) .ellipsis (.bool ah) a b k k h1:=hw.onZ ap e1 k1;simp only[Ao,Ap,me,ky];refine ao (ao (ao (wg (ao (m:=jx (.ref i1)) (drawn w1.j1 w1.t1 hx λh2 e2 k2=>aS ?_)))));have w2:=w1.on1 ap e2 k2;refine ao (iF w2.to rfl (ao (keptAt 0 x x b w2 ap rfl λh3 w3 k3=>ao (wj (aS ?_)))));refine ao (ao (wg (ao (m:=jx (.ref i2)) (drawn w3.j2 w3.t2 hy λh4 e4 k4=>aS ?_))));have w4:=w3.on2 ap e4 k4;refine ao (iF w4.to rfl (ao (keptAt 1 y x y w4 ap rfl λh5 w5 k5=>ao (wj (aS (aS ?_))))));have sd:aDr z TO i1 i2 s.heap h5:=λc o c1 c2 c3 c4 e=>(k5.2 c c2).trans ((k4.2 c c4).trans ((k3.2 c c2).trans ((k2.2 c c3).trans ((k1.2 c c1).trans e))))
 have sz:h5.objs.size=s.heap.objs.size:=by rw[k5.1,k4.1,k3.1,k2.1,k1.1]
 refine ao (iF w5.to rfl (ao (Aq ?_)));have w6:W z TI TO i1 i2 l1 l2 (tuO xs n1 d1 s1) (tuO ys n2 d2 s2) .ellipsis (.bool ah) x y (k+1) (k+1) (h5.push (prO x y)):=w5.up λc o _ e=>cu _ e
 refine ao (m:=BS (.ref z) (.ref h5.objs.size)) (ao (kN w6.z_ 0x2 λh7 e7 k7=>?_));have w7:W z TI TO i1 i2 l1 l2 (tuO xs n1 d1 s1) (tuO ys n2 d2 s2) (di h5.objs.size) (.bool ah) x y (k+1) (k+1) h7:=w6.onZ ap e7 k7;refine kN w7.z_ 0x2 λh8 e8 k8=>aS ⟨_,rfl,?_⟩
 have w8:W z TI TO i1 i2 l1 l2 (tuO xs n1 d1 s1) (tuO ys n2 d2 s2) (di h5.objs.size) (.bool ah) x y (k+1) (k+1) h8:=w7.onZ ap e8 k8;have nz:h5.objs.size≠z:=iO (bX w5.z_);exact q h8 _ w8 ((k8.2 _ nz).trans ((k7.2 _ nz).trans (dq _ rfl))) sz λc o c1 c2 c3 c4 e=>(k8.2 c c1).trans ((k7.2 c c1).trans (cu _ (sd c o c1 c2 c3 c4 e)))
theorem aDs(hh:A.handled=aj)(ap:Apart z TI TO i1 i2 l1 l2)(hw:W z TI TO i1 i2 l1 l2 (tuO xs n1 d1 s1) (tuO ys n2 d2 s2) .none (.bool ah) a b k k s.heap)(hx:xs[k]?=aj)
 (q:∀h' e,aDr z TO i1 i2 s.heap h'->(∃o,h'.get? e=ae o/\o.cls=.type "StopIteration")->E (.ref e) {s with heap:=h'}) :
  ϑ (ax prog w) A (nxt z) Q E s:=by
 refine ao (m:=sw (.ref z) 2) (dj hw.z_ rfl rfl (ao (dj hw.z_ rfl rfl (ao (iF hw.ti rfl ?_)))));refine ao (m:=wk (.ref z)) (ao (dj hw.z_ rfl (x:=.none) rfl (aS ?_)));rw[ar rfl];refine ao (kM (ao (dj hw.z_ rfl (x:=.ref TO) rfl (ao (kN hw.z_ 0x2 λh1 e1 k1=>?_)))));have w1:W z TI TO i1 i2 l1 l2 (tuO xs n1 d1 s1) (tuO ys n2 d2 s2) .ellipsis (.bool ah) a b k k h1:=hw.onZ ap e1 k1;simp only[Ao,Ap,me,ky];refine ao (ao (ao (wg (ao (m:=jx (.ref i1)) (over hh w1.j1 w1.t1 hx λh2 e k2 he=>?_)))));obtain⟨oe,he,hc⟩:=he;have ez:h2.get? z=ae (zpO .ellipsis (.bool ah) TI TO):=k2 _ _ ap.z1 w1.z_;have hez:e≠z:=λv=>by
  rw[v,ez] at he;cases he;exact aT (show io "zip"=io "StopIteration" from hc) 0x4
 exact kN ez 0x2 λh3 _ k3=>q h3 e (λc o c1 _ c3 _ v=>(k3.2 c c1).trans (k2 c o c3 ((k1.2 c c1).trans v))) ⟨oe,(k3.2 e hez).trans he,hc⟩
theorem taken{T:ak}(ap:Apart z TI TO i1 i2 l1 l2)(hw:W z TI TO i1 i2 l1 l2 o1 o2 (di T) (.bool bb) a b k1 k2 s.heap)(hT:s.heap.get? T=ae oT)
 (q:∀h',W z TI TO i1 i2 l1 l2 o1 o2 (di T) (.bool ag) a b k1 k2 h'->fj z s.heap h'->Q ah {s with heap:=h'}):ϑ (ax prog w) A (wk (.ref z)) Q E s:=by
 refine ao (dj hw.z_ rfl rfl (ao (there hT ?_)));refine ao (dj hw.z_ rfl rfl ?_);cases bb
 .exact ao (kN hw.z_ 0x2 λh1 e1 k1=>aS (q h1 (hw.onZ ap e1 k1) k1))
 .exact aS (q _ hw (Ar _ _))
theorem more{T:ak}{bb:aq}{oT:bd}{Q:am->au->Prop}(ap:Apart z TI TO i1 i2 l1 l2)(hw:W z TI TO i1 i2 l1 l2 (tuO xs n1 d1 s1) (tuO ys n2 d2 s2) (di T) (.bool bb) a b k k s.heap)(hT:s.heap.get? T=ae oT)(hx:xs[k]?=ae x)(hy:ys[k]?=ae y)
 (q:∀h' p,W z TI TO i1 i2 l1 l2 (tuO xs n1 d1 s1) (tuO ys n2 d2 s2) (di T) (.bool ag) a b (k+1) (k+1) h'->h'.get? p=ae (prO x y)->aDr z TO i1 i2 s.heap h'->Q (.ref p) {s with heap:=h'}) :
  ϑ (ax prog w) A (nxt z) (Got Q) E s:=by
 refine ao (m:=sw (.ref z) 2) (dj hw.z_ rfl rfl (ao (dj hw.z_ rfl rfl (ao (iF hw.ti rfl ?_)))));refine ao (m:=wk (.ref z)) (taken ap hw hT λh1 w1 k1=>?_);rw[aw jS];dsimp only;rw[<-As];simp only[me,ky];refine ao (ao (ao (eM (ao (m:=jx (.ref i1)) (drawn w1.j1 w1.t1 hx λh2 e2 k2=>aS (aS ?_))))));have w2:=w1.on1 ap e2 k2;refine ao (ao (eM (ao (m:=jx (.ref i2)) (drawn w2.j2 w2.t2 hy λh3 e3 k3=>aS (aS (aS ?_))))));have w3:=w2.on2 ap e3 k3;refine ao (Aq (aS ⟨_,rfl,?_⟩) (hsz:=by show(2:af)<=aI;decide));exact q _ _ (w3.up λc o _ e=>cu _ e) (dq _ rfl) λc o c1 c2 c3 c4 e=>cu _ ((k3.2 c c4).trans ((k2.2 c c3).trans ((k1.2 c c1).trans e)))
theorem aI3{T:ak}{bb:aq}{oT:bd}{Q:Fin->au->Prop}(hh:A.handled=aj)(ap:Apart z TI TO i1 i2 l1 l2)(hw:W z TI TO i1 i2 l1 l2 (tuO xs n1 d1 s1) (tuO ys n2 d2 s2) (di T) (.bool bb) a b k k s.heap)(hT:s.heap.get? T=ae oT)(hx:xs[k]?=aj)
 (q:∀h' e,aDr z TO i1 i2 s.heap h'->(∃o,h'.get? e=ae o/\o.cls=.type "StopIteration")->E (.ref e) {s with heap:=h'}) :
  ϑ (ax prog w) A (nxt z) Q E s:=by
 refine ao (m:=sw (.ref z) 2) (dj hw.z_ rfl rfl (ao (dj hw.z_ rfl rfl (ao (iF hw.ti rfl ?_)))));refine ao (taken ap hw hT λh1 w1 k1=>?_);rw[aw jS];dsimp only;rw[<-As];simp only[me,ky];exact ao (ao (ao (eM (ao (over hh w1.j1 w1.t1 hx λh2 e k2 he=>q h2 e (λc o c1 _ c3 _ v=>k2 c o c3 ((k1.2 c c1).trans v)) he)))))
end
theorem five(h:az)(a b c d e:bd)(fa:a.isFreed=ah)(fb:b.isFreed=ah)(fc:c.isFreed=ah)(fd:d.isFreed=ah)(fe:e.isFreed=ah) :
  (((((h.push a).push b).push c).push d).push e).get? h.objs.size=ae a/\(((((h.push a).push b).push c).push d).push e).get? (h.objs.size+1)=ae b/\(((((h.push a).push b).push c).push d).push e).get? (h.objs.size+2)=ae c/\(((((h.push a).push b).push c).push d).push e).get? (h.objs.size+3)=ae d/\(((((h.push a).push b).push c).push d).push e).get? (h.objs.size+4)=ae e/\
  (∀x o,h.get? x=ae o->(((((h.push a).push b).push c).push d).push e).get? x=ae o)/\(((((h.push a).push b).push c).push d).push e).objs.size=h.objs.size+5:=by
 have z1:(h.push a).objs.size=h.objs.size+1:=eB ..;have z2:((h.push a).push b).objs.size=h.objs.size+2:=(eB ..).trans (by rw[z1]);have z3:(((h.push a).push b).push c).objs.size=h.objs.size+3:=(eB ..).trans (by rw[z2]);have z4:((((h.push a).push b).push c).push d).objs.size=h.objs.size+4:=(eB ..).trans (by rw[z3]);have up:∀{h:az}{x:ak}{o q:bd},h.get? x=ae o->(h.push q).get? x=ae o:=λe=>cu _ e
 have g2:=dq (h.push a) (o:=b) fb;have g3:=dq ((h.push a).push b) (o:=c) fc;have g4:=dq (((h.push a).push b).push c) (o:=d) fd;have g5:=dq ((((h.push a).push b).push c).push d) (o:=e) fe;rw[z1] at g2;rw[z2] at g3;rw[z3] at g4;rw[z4] at g5;exact⟨up (up (up (up (dq h fa)))),up (up (up g2)),up (up g3),up g4,g5,λx o q=>up (up (up (up (up q)))),(eB ..).trans (by rw[z4])⟩
theorem aAm(t u:ak)(xs ys:bw am) :
  mI (dz.«zip.__new__» ⟨[.type "zip",.ref t,.ref u],[]⟩) (λ_ R s=>s.heap.IsTuple t xs/\s.heap.IsTuple u ys/\∀h' n,n=s.heap.objs.size->h'.get? n=ae (itO t 0)->h'.get? (n+1)=ae (itO u 0)->h'.get? (n+2)=ae (prO (.ref n) (.ref (n+1)))->h'.get? (n+3)=ae (prO .none .none)->h'.get? (n+4)=ae (zpO .none (.bool ah) (n+2) (n+3))->
   (∀x o,s.heap.get? x=ae o->h'.get? x=ae o)->h'.objs.size=n+5->R (.ok (.ret (.ref (n+4)))) {s with heap:=h'}):=
 .of_wp λprog w A R s hs=>by
  obtain⟨hp,g,d,tk,os⟩:=s;obtain⟨ht,hu,q⟩:=hs;have sub:=sub_zip;have p1:Au (Av ⟨hp,g,d,tk,os⟩) t xs:=ht;have p2:Au (Av ⟨hp.push {cls:=.type "tuple_iterator",data:=.fields #[.ref t,.int 0 0]},g,d,tk,os⟩) u ys:=BU hu _;have f:=five hp (itO t 0) (itO u 0) (prO (.ref hp.objs.size) (.ref (hp.objs.size+1))) (prO .none .none) (zpO .none (.bool ah) (hp.objs.size+2) (hp.objs.size+3)) rfl rfl rfl rfl rfl
  wp_walk using vF p1,vF p2
  refine⟨_,rfl,?_⟩;have fin:=q _ hp.objs.size rfl f.1 f.2.1 f.2.2.1 f.2.2.2.1 f.2.2.2.2.1 f.2.2.2.2.2.1 f.2.2.2.2.2.2;have gen:∀m1 m2 m3 m4:af,m1=hp.objs.size+1->m2=hp.objs.size+2->m3=hp.objs.size+3->m4=hp.objs.size+4->R (.ok (.ret (.ref m4))) ⟨((((hp.push (itO t 0)).push (itO u 0)).push (prO (.ref hp.objs.size) (.ref m1))).push (prO .none .none)).push (zpO .none (.bool ah) m2 m3),g,d,tk,os⟩:=by
   intro m1 m2 m3 m4 q1 q2 q3 q4;subst q1 q2 q3 q4;exact fin
  exact gen _ _ _ _ (eB ..) ((eB ..).trans (dw (·+1) (eB ..))) ((eB ..).trans (dw (·+1) ((eB ..).trans (dw (·+1) (eB ..))))) ((eB ..).trans (dw (·+1) ((eB ..).trans (dw (·+1) ((eB ..).trans (dw (·+1) (eB ..)))))))
section
variable {prog:bp} {w:bj} {A:cj} {E:am->au->Prop} {s:au}
theorem aLs{t u:ak}{xs ys:bw am}{Q:am->au->Prop}(ht:s.heap.IsTuple t xs)(hu:s.heap.IsTuple u ys)
 (q:∀h' n,n=s.heap.objs.size->h'.get? n=ae (itO t 0)->h'.get? (n+1)=ae (itO u 0)->h'.get? (n+2)=ae (prO (.ref n) (.ref (n+1)))->h'.get? (n+3)=ae (prO .none .none)->h'.get? (n+4)=ae (zpO .none (.bool ah) (n+2) (n+3))->
   (∀x o,s.heap.get? x=ae o->h'.get? x=ae o)->h'.objs.size=n+5->Q (.ref (n+4)) {s with heap:=h'}) :
  ϑ (ax prog w) A (call (.type "zip") [.ref t,.ref u]) Q E s:=
 Aw F.called_zip 0x4 (F.typeCall_zip_2 _ _) (F.newCall_zip_2 _ _) (λobj=>F.args_object_init_3 obj _ _) F.entry_zip_new (aAm t u xs ys)
  ⟨ht,hu,λh' n e a1 a2 a3 a4 a5 k z=>⟨⟨_,a5,rfl⟩,q h' n e a1 a2 a3 a4 a5 k z⟩⟩
end
theorem aLt:l8 (.type "zip") "keys"=pure aj:=by rw[je,jf];kernel_rfl
theorem noGet:l8 (.type "zip") "__getattr__"=pure aj:=by rw[je,jf];kernel_rfl
theorem aLu:mP mS "zip.__getattribute__"=ae dz.«object.__getattribute__»:=Ax (id':= "object.__getattribute__") 0x8 0x6 0x6 0x8
theorem RX(a:ak)(f0 f1:am)(TI TO:ak)(u:ff):mI (dz.«object.__getattribute__» ⟨[.ref a,.str "keys" u],[]⟩) (λA R s=>s.heap.get? a=ae (zpO f0 f1 TI TO)/\raisesAttr (.ref a) "keys" A R s):=.of_wp λprog w A R s hs=>by
 obtain⟨hp,g,d,tk,os⟩:=s;obtain⟨e,hh,q⟩:=hs;have ty:(⟨hp,g,d,tk,os⟩:au).TypeIs (.ref a) "zip":=⟨_,e,rfl⟩
 have no:=aLt
 wp_walk
 exact wpAny_raiseAttrError hh q (attrMsg_fits 0x6 (by size_fits))
section
variable {prog:bp} {w:bj} {A:cj} {E:am->au->Prop} {hp:az} {g:bw kP} {d:kQ} {tk:af} {os:kT} {a TI TO:ak} {f0 f1:am}
theorem gone{u:ff}{kw:aa (Str×am)}{Q:am->au->Prop}(e:hp.get? a=ae (zpO f0 f1 TI TO))(hh:A.handled=aj)(hk:kw=[])(q:∀h' tk' x,Heap.NewAttrErr hp h' x (.ref a) "keys"->E (.ref x) ⟨h',g,d,tk',os⟩) :
  ϑ (ax prog w) A (call (.builtin "zip.__getattribute__") ([.ref a]++[.str "keys" u]) kw) Q E ⟨hp,g,d,tk,os⟩:=by
 subst hk;exact kq wm ⟨_,e,rfl⟩ aLu (F.args_zip_getattribute_2 _ _) (RX a f0 f1 TI TO u) ⟨e,hh,λh' tk' x hx=>q h' tk' x hx⟩
theorem lacks{Q:av am->au->Prop}(e:hp.get? a=ae (zpO f0 f1 TI TO))(hh:A.handled=aj)(q:∀h' tk',(∀b o,hp.get? b=ae o->h'.get? b=ae o)->Q aj ⟨h',g,d,tk',os⟩):ϑ (ax prog w) A (wf (.ref a) "keys") Q E ⟨hp,g,d,tk,os⟩:=by
 have ty:∀tk',(⟨hp,g,d,tk',os⟩:au).TypeIs (.ref a) "zip":=λ_=>⟨_,e,rfl⟩
 have f3:=wm.lookup;have f4:=wm.bind (.ref a);have f5:=noGet;have sub:=sub_AttributeError
 wp_walk using gone e hh
 case hk=>rfl
 intro h' tk' x hx;obtain⟨t,u,ex⟩:=hx.there;show ϑ _ _ (getattributeRaised _ _ _ _ _ _ _) _ _ _
 wp_walk
 exact q _ _ hx.keeps
end
def ZS(z TI TO i1 i2 l1 l2:ak)(o1 o2:bd)(k:af)(h:az):Prop:=∃f0 f1 a b,W z TI TO i1 i2 l1 l2 o1 o2 f0 f1 a b k k h/\
 ((f0=.none/\f1=.bool ah)\/∃(T:ak)(bb:aq)(u v:am),f0=di T/\f1=.bool bb/\h.get? T=ae (prO u v)/\T≠z/\T≠TO/\T≠i1/\T≠i2)
section
variable {prog:bp} {w:bj} {A:cj} {E:am->au->Prop} {s:au} {z TI TO i1 i2 l1 l2 d:ak} {n1 n2:af} {d1 d2:av ak} {s1 s2:bw (av am)} {x y:am} {k:af} {xs ys:bw am}
theorem apart{h:az}{c d:ak}{o od:bd}{T:fF}(e:h.get? c=ae o)(hc:o.cls=.type T)(ed:h.get? d=ae od)(hd:od.cls=.type "dict")(ne:(io T==io "dict")=ah):c≠d:=λq=>by
 subst q;rw[e] at ed;cases ed;rw[hc] at hd;rw[hd] at ne;simp at ne
theorem ZS.keep{h h':az}{od:bd}(Z:ZS z TI TO i1 i2 l1 l2 (tuO xs n1 d1 s1) (tuO ys n2 d2 s2) k h)(ed:h.get? d=ae od)(hd:od.cls=.type "dict")(e:∀c o,c≠d->h.get? c=ae o->h'.get? c=ae o):ZS z TI TO i1 i2 l1 l2 (tuO xs n1 d1 s1) (tuO ys n2 d2 s2) k h':=by
 obtain⟨f0,f1,a,b,hw,hf⟩:=Z;refine⟨f0,f1,a,b,⟨e _ _ (apart hw.z_ rfl ed hd 0x4) hw.z_,e _ _ (apart hw.ti rfl ed hd 0x4) hw.ti,e _ _ (apart hw.to rfl ed hd 0x4) hw.to,e _ _ (apart hw.j1 rfl ed hd 0x4) hw.j1,e _ _ (apart hw.j2 rfl ed hd 0x4) hw.j2,e _ _ (apart hw.t1 rfl ed hd 0x4) hw.t1,e _ _ (apart hw.t2 rfl ed hd 0x4) hw.t2⟩,?_⟩;rcases hf with hf|⟨T,bb,u,v,h1,h2,h3,h4⟩
 .exact .inl hf
 .exact .inr ⟨T,bb,u,v,h1,h2,e _ _ (apart h3 rfl ed hd 0x4) h3,h4⟩
theorem aI4{Q:av am->au->Prop}(ap:Apart z TI TO i1 i2 l1 l2)(Z:ZS z TI TO i1 i2 l1 l2 (tuO xs n1 d1 s1) (tuO ys n2 d2 s2) k s.heap)(hx:xs[k]?=ae x)(hy:ys[k]?=ae y)
 (q:∀h' p,ZS z TI TO i1 i2 l1 l2 (tuO xs n1 d1 s1) (tuO ys n2 d2 s2) (k+1) h'->h'.get? p=ae (prO x y)->aDr z TO i1 i2 s.heap h'->Q (ae (.ref p)) {s with heap:=h'}):ϑ (ax prog w) A (gi (.ref z)) Q E s:=by
 obtain⟨f0,f1,a,b,hw,hf⟩:=Z;refine ao (iE (jn hw.ty sx (jo sx hw.ty Ay ?_ (Az _))));rcases hf with ⟨rfl,rfl⟩|⟨T,bb,u,v,rfl,rfl,hT,t1,t2,t3,t4⟩
 .refine first ap hw hx hy λh' p w' ep pp sd=>aS (q h' p ⟨_,_,_,_,w',.inr ⟨p,ah,x,y,rfl,rfl,ep,?_⟩⟩ ep sd)
  subst pp;have lt:∀{c o},s.heap.get? c=ae o->s.heap.objs.size≠c:=λe=>iO (bX e)
  exact⟨lt hw.z_,lt hw.to,lt hw.j1,lt hw.j2⟩
 .exact more ap hw hT hx hy λh' p w' ep sd=>aS (q h' p ⟨_,_,_,_,w',.inr ⟨T,ag,u,v,rfl,rfl,sd _ _ t1 t2 t3 t4 hT,t1,t2,t3,t4⟩⟩ ep sd)
theorem aLv{Q:av am->au->Prop}(hh:A.handled=aj)(ap:Apart z TI TO i1 i2 l1 l2)(Z:ZS z TI TO i1 i2 l1 l2 (tuO xs n1 d1 s1) (tuO ys n2 d2 s2) k s.heap)(hx:xs[k]?=aj)
 (q:∀h',aDr z TO i1 i2 s.heap h'->Q aj {s with heap:=h'}):ϑ (ax prog w) A (gi (.ref z)) Q E s:=by
 obtain⟨f0,f1,a,b,hw,hf⟩:=Z;refine ao (iE (jn hw.ty sx (jo sx hw.ty Ay ?_ (Az _))));have stop:∀h' e,aDr z TO i1 i2 s.heap h'->(∃o,h'.get? e=ae o/\o.cls=.type "StopIteration")->ϑ (ax prog w) A (do if <- kK (.ref e) (.type "StopIteration") then pure aj else throw (.ref e)) Q E {s with heap:=h'}:=λh' e sd he=>ao (sA (T:= "StopIteration") (b:=ag) he AA (aS (q h' sd)))
 rcases hf with ⟨rfl,rfl⟩|⟨T,bb,u,v,rfl,rfl,hT,_⟩
 .exact aDs hh ap hw hx λh' e sd he=>stop h' e sd he
 .exact aI3 hh ap hw hT hx λh' e sd he=>stop h' e sd he
end
theorem N5:mP mS "dict.update.loop"=ae dz.«dict.update.loop»:=wn 0x8
section
variable {prog:bp} {w:bj} {K:Type} [fI K] {knd:KeyKind prog w K} {A:cj} {R:fy am Flow->au->Prop} {z TI TO i1 i2 l1 l2 d:ak} {n1 n2:af} {d1 d2:av ak} {s1 s2:bw (av am)} {xs ys:bw am} {ks:aa K}
theorem aDt(hh:A.handled=aj)(ap:Apart z TI TO i1 i2 l1 l2)(hdz:d≠z)(hdT:d≠TO)(hd1:d≠i1)(hd2:d≠i2)(hsz:ys.size=xs.size)(hk:∀(i:af) (x:am),xs[i]?=ae x->∃k,ks[i]?=ae k/\knd.is k x=ag) :
  ∀(m k:af)(s:au)(kvs:aa (K×am)),k+m=xs.size->kvs.length+m<=aI->ZS z TI TO i1 i2 l1 l2 (tuO xs n1 d1 s1) (tuO ys n2 d2 s2) k s.heap->s.heap.DictOf knd d kvs->
  (∀h' tk,h'.DictOf knd d (ou kvs ((ks.zip ys.toList).drop k))->(∀c o,c≠d->c≠z->c≠TO->c≠i1->c≠i2->s.heap.get? c=ae o->h'.get? c=ae o)->R (.ok (.ret .none)) {s with heap:=h',toks:=tk})->
  codeAny (ax prog w) A (.builtin "dict.update.loop" ⟨[.ref d,.ref z,di k,.none],[]⟩) R s:=by
 intro m;induction m with
 |zero=>
  intro k s kvs hkm hl Z hd q;refine we N5 ?_;rw[AB (show plainId "dict.update.loop"=ag by decide +kernel) _];refine ao (m:=gi (.ref z)) (aLv hh ap Z (Ac 0x1) λh' kp=>?_);refine ao (m:=AC d []) ?_;unfold AC;rw[ky];refine ao (aS (aS (aS ?_)));have e:(ks.zip ys.toList).drop k=[]:=kC (by rw[AD];have:ys.toList.length=ys.size:=nE;lia);rw[e] at q;obtain⟨o,es,ep,ho,r⟩:=hd;exact q _ s.toks ⟨o,es,ep,kp d o hdz hdT hd1 hd2 ho,r⟩ λc o _ c1 c2 c3 c4 e=>kp c o c1 c2 c3 c4 e
 |succ m ih=>
  intro k s kvs hkm hl Z hd q;have hlt:k<xs.size:=by lia
  have hlt2:k<ys.size:=by lia
  have hx:xs[k]?=ae xs[k]:=sh hlt;have hy:ys[k]?=ae ys[k]:=sh hlt2;obtain⟨key,hkey,his⟩:=hk k _ hx;refine we N5 ?_;rw[AB (show plainId "dict.update.loop"=ag by decide +kernel) _];refine ao (m:=gi (.ref z)) (aI4 ap Z hx hy λh' p Z' hp kp=>?_);refine ao (eM (ao (wpAny_tryCatch ?_)));refine ao (og (T:= "tuple") ⟨_,hp,rfl⟩ ?_);rw[ar 0x4];refine ao (iF hp rfl (aS ?_));show ϑ _ _ (lw [xs[k],ys[k]] (dictSet d xs[k] ys[k])) _ _ _;have hd':h'.DictOf knd d kvs:=let ⟨o,es,ep,ho,r⟩:=hd;⟨o,es,ep,kp d o hdz hdT hd1 hd2 ho,r⟩
  obtain⟨od,es,ep,ho,hc,_⟩:=id hd';refine eM (wpAny_dictSet_pairs his hd' (λh2 hd2' sb=>?_) 0x1);refine aS ⟨mz _ 0x6,?_⟩;have ek:(di (k+1):am)=di ((k+1:af):ai):=rfl;rw[ek];have hzip:(ks.zip ys.toList).drop k=(key,ys[k])::(ks.zip ys.toList).drop (k+1):=by
   have hlz:(ks.zip ys.toList)[k]?=ae (key,ys[k]):=by
    rw[List.getElem?_zip_eq_some];exact⟨hkey,by rw[vm];exact hy⟩
   obtain⟨h1,h2⟩:=dQ.mp hlz;rw[jb h1,h2]
  have ls:(kx kvs key ys[k]).length<=kvs.length+1:=by
   unfold kx;split
   .rw[aE];lia
   .rw[bz];exact br _
  refine ih (k+1) _ (kx kvs key ys[k]) 0x1 0x1 (Z'.keep ho hc.1 λc o hcd e=>(sb.2 c hcd).trans e) hd2' λh3 tk hd3 kp3=>?_
  refine q h3 tk (by rw[hzip];exact hd3) λc o c0 c1 c2 c3 c4 e=>kp3 c o c0 c1 c2 c3 c4 ((sb.2 c c0).trans (kp c o c1 c2 c3 c4 e))
end
section
variable {prog:bp} {w:bj} {K:Type} [fI K] {knd:KeyKind prog w K} {A:cj} {E:am->au->Prop} {hp:az} {g:bw kP} {dr:kQ} {tk:af} {os:kT} {z TI TO i1 i2 l1 l2:ak} {n1 n2:af} {d1 d2:av ak} {s1 s2:bw (av am)} {xs ys:bw am} {ks:aa K}
theorem aDu{Q:am->au->Prop}(hh:A.handled=aj)(ap:Apart z TI TO i1 i2 l1 l2){a b:am}(hw:W z TI TO i1 i2 l1 l2 (tuO xs n1 d1 s1) (tuO ys n2 d2 s2) .none (.bool ah) a b 0 0 hp)(hsz:ys.size=xs.size)(hxs:xs.size<=1000)(hk:∀(i:af) (x:am),xs[i]?=ae x->∃k,ks[i]?=ae k/\knd.is k x=ag)
 (q:∀h' tk',h'.DictOf knd hp.objs.size (ou [] (ks.zip ys.toList))->aDr z TO i1 i2 hp h'->Q (.ref hp.objs.size) ⟨h',g,dr,tk',os⟩) :
  ϑ (ax prog w) A (call (.type "dict") [.ref z]) Q E ⟨hp,g,dr,tk,os⟩:=by
 have hnew:(hp.push {cls:=.type "dict",data:=.dict #[]}).DictOf knd hp.objs.size []:=zg hp;have up:∀c o,hp.get? c=ae o->(hp.push {cls:=.type "dict",data:=.dict #[]}).get? c=ae o:=λc o e=>cu _ e
 have lt:∀{c o},hp.get? c=ae o->hp.objs.size≠c:=λe=>iO (bX e)
 refine AE (Q₁:=λv s₁=>v=.ref hp.objs.size/\s₁=⟨hp.push {cls:=.type "dict",data:=.dict #[]},g,dr,tk,os⟩) F.kt_called_dict (F.kt_typeCall_dict_1 _) F.entry_dict_init (kt_code_dict_new _ ⟨rfl,rfl⟩) λv s₁ hv=>?_
 obtain⟨rfl,rfl⟩:=hv;have ty:(⟨hp.push {cls:=.type "dict",data:=.dict #[]},g,dr,tk,os⟩:au).TypeIs (.ref hp.objs.size) "dict":=hnew.typeIs;have ez:=up _ _ hw.z_;have tz:(⟨hp.push {cls:=.type "dict",data:=.dict #[]},g,dr,tk,os⟩:au).TypeIs (.ref z) "zip":=⟨_,ez,rfl⟩
 refine⟨ty,F.args_dict_init_2 _ _,ao (m:=BY "__init__" _) (ao (wpAny_notOrdered_dict ty (aS ?_)))⟩;refine ao (m:=ko (.ref z)) (og tz ?_);rw[ar 0x4];refine ao (lacks ez hh λh' tk' kp=>?_);rw[ar (show(aj:av am).isNone=ag from rfl)];refine ao (kM (ao (wpAny_pyIter_zip (TI:=TI) (TO:=TO) (f0:=.none) (kp _ _ ez) (aS ⟨mz _ 0x6,?_⟩))));have hd':h'.DictOf knd hp.objs.size []:=let ⟨o,es,ep,ho,r⟩:=hnew;⟨o,es,ep,kp _ _ ho,r⟩
 refine aDt (A:=A.in1) (ks:=ks) (show A.in1.handled=aj from hh) ap (lt hw.z_) (lt hw.to) (lt hw.j1) (lt hw.j2) hsz hk xs.size 0 ⟨h',g,dr,tk',os⟩ [] 0x1 (by rw[jr,d4];lia) ⟨_,_,_,_,hw.up λc o _ e=>kp c o (up c o e),.inl ⟨rfl,rfl⟩⟩ hd' λh2 tk2 hd2 kp2=>?_
 exact⟨rfl,q h2 tk2 hd2 λc o c1 c2 c3 c4 e=>kp2 c o (λx=>lt e x.symm) c1 c2 c3 c4 (kp c o (up c o e))⟩
end
end Wz
namespace Mi
open PySem L2 PySem.SeqAt PySem.Spec PyProof.Rows
section
variable [KFrag]
theorem boot_zip:ei "zip"=ae (.type "zip"):=0x6
theorem aDv:ei "dict"=ae (.type "dict"):=0x6
theorem aAn{pr:bp}:∀{vs:aa V}{us:aa am}{ds:aa D},cN P H vs ds->Vals vs us->ds.all oM=ag->∃ks:aa Key,ks.map kD=ds/\ks.length=us.length/\∀(i:af)(u:am),us[i]?=ae u->∃k,ks[i]?=ae k/\(fK pr w).is k u=ag
 |_,_,_,.nil,.nil,_=>⟨[],rfl,rfl,λi u h=>by simp at h⟩
 |v::vs,u::us,d::ds,.cons r t,.cons rv tv,h=>by
  rw[gj,bf] at h;obtain⟨ks,h1,h2,h3⟩:=aAn t tv h.2;obtain⟨k,hk1,hk2⟩:∃k:Key,kD k=d/\(fK pr w).is k u=ag:=by
   cases r with
   |int i=>exact⟨.inl i,rfl,LK rv⟩
   |str x=>exact⟨.inr x,rfl,LK rv⟩
   |_=>cases h.1
  refine⟨k::ks,by rw[bc,hk1,h1],by rw[cz,cz,h2],λi u' hu=>?_⟩;cases i with
  |zero=>simp at hu;subst hu;exact⟨k,rfl,hk2⟩
  |succ i=>exact h3 i u' (by simpa using hu)
theorem U_(r:Rep P H v d):∀{kvs:aa (Key×V)}{ds:aa (D×D)},n6 P H kvs ds->(kvs.map (·.1)).Nodup->n6 P H (putK kvs k v) (putD ds (kD k) d)
 |_,_,.nil,_=>.cons r .nil
 |_,_,.cons (k:=k') r' t,hn=>by
  rw[bc,eT] at hn;rw[putD,aA0];by_cases h:k'=k
  .rw[G9 h (by rw[<-h];exact hn.1),ar (bg h),h];exact .cons r t
  .rw[G_ h,aw (by simpa using h)];exact .cons r' (U_ r t hn.2)
theorem VB:∀{ks:aa Key}{vs:aa V}{ds:aa D}{kvs:aa (Key×V)}{es:aa (D×D)},cN P H vs ds->n6 P H kvs es->(kvs.map (·.1)).Nodup->n6 P H (lA kvs (ks.zip vs)) (u9 (ks.map kD) ds es)/\((lA kvs (ks.zip vs)).map (·.1)).Nodup
 |[],_,_,_,_,_,r,n=>by
  rw[List.zip_nil_left];exact⟨by cases ‹aa D›<;>exact r,n⟩
 |k::ks,_,_,kvs,es,.nil,r,n=>⟨r,n⟩
 |k::ks,_,_,kvs,es,.cons rv tv,r,n=>VB (ks:=ks) tv (U_ rv r n) (m5 n)
theorem aLw(r:Vals vs us):∀ks:aa Key,KV (ks.zip vs) (ks.zip us):=by
 induction r with
 |nil=>intro ks;rw[AF,AF];exact .nil
 |cons h t ih=>
  intro ks;cases ks with
  |nil=>exact .nil
  |cons k ks=>exact .cons ⟨rfl,h⟩ (ih ks)
theorem aAo{n l m:af}(hl:l<n)(hm:m<n):Wz.Apart (n+4) (n+2) (n+3) n (n+1) l m:=by
 constructor<;>(intro h;replace h:@Eq af _ _:=h;lia)
section
theorem aI5(hg:Gl X "dict")(hm:X.mg "dict"=aj)(hg2:Gl X "zip")(hm2:X.mg "zip"=aj)(ha:PA X [a,b] (gA fs rr))(hc:X.calm=ag:=by rfl)(hs2:bP [a,b] X.env=(ah,eval a X.env)::bP [b] X.env:=by rfl)(hpl2:(fg pos2 (bP [b] X.env)).any (·.1)=ah:=by rfl)
 (hs:bP [.Call (.Name "zip" p2) [a,b] [] pos2] X.env=(ah,eval (.Call (.Name "zip" p2) [a,b] [] pos2) X.env)::bP [] X.env:=by rfl) :
  PE X (.Call (.Name "dict" p) [.Call (.Name "zip" p2) [a,b] [] pos2] [] pos) (gE (aX aAl fs) ag):=by
 rintro Ψ s σ H Q I ⟨ρ,d,E,h,q⟩;obtain⟨xs,h1,h2⟩:=bG h;unfold aAl at h2;split at h2
 .rename_i xs ys;split at h2
  .rename_i hb;cases h2;simp only[bf,eD] at hb;obtain⟨⟨⟨hb1,hb2⟩,hb3⟩,hb4⟩:=hb;refine hI (uM I hg hm aDv ?_);refine ji ?_ hs rfl;rw[hs];show ϑ _ _ (lu ((ah,eval (.Call (.Name "zip" p2) [a,b] [] pos2) X.env)::fg pos (bP [] X.env))) _ _ s;refine nX ?_;refine hI (uM I hg2 hm2 boot_zip ?_);refine ji (thn (ha pos2 Ψ s σ H (λvs H1=>dH H H1/\cN All H1 vs [.tup xs,.tup ys]) I ⟨ρ,_,E,h1,λvs H1 s1 r1 _=>⟨s1,r1⟩⟩) λus s1 ⟨vs,H1,I1,r1,sm,rp⟩=>?_) hs2 hpl2;cases rp with
   |cons rp1 rp=>
    cases rp with
    |cons rp2 rp=>
     cases rp;obtain⟨l1,vs1,rfl,e1,rr1⟩:=rp1.lC;obtain⟨l2,vs2,rfl,e2,rr2⟩:=rp2.lC;cases r1 with
     |cons q1 r1=>
      cases r1 with
      |cons q2 r1=>
       cases r1;cases q1;cases q2;obtain⟨its1,w1,p1,_⟩:=I1.tuple (.of e1);obtain⟨its2,w2,p2,_⟩:=I1.tuple (.of e2);have t1:s1.heap.IsTuple l1 its1.toArray:=p1;have t2:s1.heap.IsTuple l2 its2.toArray:=p2;obtain⟨⟨c1,dd1,da1,sl1⟩,g1,hc1,m1,hd1⟩:=id p1;obtain⟨⟨c2,dd2,da2,sl2⟩,g2,hc2,m2,hd2⟩:=id p2;simp only at hc1 hd1 hc2 hd2;subst hc1 hd1 hc2 hd2;have hl1:=bX g1;have hl2:=bX g2;refine Wz.aLs t1 t2 λh' n hn z1 z2 z3 z4 z5 kp zsz=>?_
       subst hn;refine nV ?_;have n1:=w1.length;have n2:=w2.length;have m1:=rr1.length;have m2:=rr2.length;obtain⟨ks,k1,k2,k3⟩:=aAn rr1 w1 hb3;refine Wz.aDu (I1.ok.hd hc) (aAo hl1 hl2) ⟨z5,z3,z4,z1,z2,kp _ _ g1,kp _ _ g2⟩ (by simp only[cy];lia) (by simp only[cy];lia) (λi u hu=>k3 i u (by simpa using hu)) λh2 tk dd kp2=>?_
       have hfr:H1 h'.objs.size=aj:=I1.hok.fresh (by rw[zsz];lia);have kall:∀c o,s1.heap.get? c=ae o->h2.get? c=ae o:=λc o e=>by
        have:=bX e;exact kp2 c o (c_ (dP this (sB _ 4))) (c_ (dP this (sB _ 3))) (c_ this) (c_ (dP this (sB _ 1))) (kp c o e)
       have rel:KV (lA [] (ks.zip vs2)) (ou [] (ks.zip its2)):=(aLw w2 ks).merge .nil;have hz:(lA [] (ks.zip vs2)).length<=aI:=by
        have:=nG (ks.zip vs2) [];rw[jr,AD] at this;rw[d4];lia
       obtain⟨rk,nd⟩:=VB (rr2) n6.nil ig;rw[k1] at rk;have sp:dH H1 (upd H1 h'.objs.size (.dK (lA [] (ks.zip vs2)))):=dH.upd hfr;have pv:θ ((u9 xs ys []).map (·.2))=ag:=by
        have go:∀(a b:aa D)(m:aa (D×D)),θ b=ag->θ (m.map (·.2))=ag->θ ((u9 a b m).map (·.2))=ag:=by
         intro a;induction a with
         |nil=>intro b m _ hm;cases b<;>exact hm
         |cons x a ih=>
          intro b m hb hm;cases b with
          |nil=>exact hm
          |cons y b=>
           rw[θ,bf] at hb;refine ih b _ hb.2 ?_;have hp:=sG (ds:=m) (k:=x) hb.1 hm;exact hp
        exact go xs ys [] hb4 rfl
       have rk2:∀{P:ak->Prop},n6 P (upd H1 h'.objs.size (.dK (lA [] (ks.zip vs2)))) (lA [] (ks.zip vs2)) (u9 xs ys []):=λ{P}=>(rk.keep (.same sp) λ_ h=>h).cJ pv
       refine⟨.ref h'.objs.size,_,I1.laid (a:=h'.objs.size) (t':=tk) (o:=.dK (lA [] (ks.zip vs2))) kall (by rw[zsz];lia) (T4 hz (df.mpr ?_) rel (by simpa using dd)),rfl,?_⟩
       .exact Ne.symm (c_ (dP I1.big (by rw[zsz];exact sB _ 5)))
       .exact q _ _ (sm.trans sp) (.dK aO trivial rk2 nd) λ_=>.dK aO (sm.free hfr) rk2 nd
  .exact bx h2
 .exact bx h2
end
end
noncomputable def aAp(i j:af):FS:=λρ=>match ρ.getD i .uD with
 |.lst xs=>(match xs[xs.length-1]? with|some x=>.ok (.nx ((ρ.set i (.lst xs.dropLast)).set j x))|none=>.bad)
 |_=>.bad
def aJz(i:af)(f:FE):FS:=λρ=>do
 let d <- f ρ
 match ρ.getD i .uD,d with
 |.lst xs,.lst ys=>if ϒ (xs.length+ys.length<=lim)&&θ ys then .ok (.nx (ρ.set i (.lst (xs++ys)))) else .bad
 |_,_=>.bad
section
variable [KFrag]
section
theorem aI6(ho:own i=ag)(hN:X.N[i]?=ae x)(hv:Vis X.env.scope x)(hnd:X.N.Nodup)(hj:X.N[j]?=ae y)(hy:Loc X.env.scope y)(hoj:own j=ah)(hd:nDb x:=by decide)(hcd:nCd x:=by decide)
 (hbase:hG (.Name x p1) "pop" X.env (eval (.Name x p1) X.env)=eval (.Name x p1) X.env:=by rfl)
 (hline:(apos.endLine==cpos.line)=ag:=by rfl)
 (hs:dy (.Call (.Attribute (.Name x p1) "pop" apos) [] [] cpos) (ae (.Name y py)) pos.line X.env=pure ah:=by rfl)(hf:zFn X y:=by first|exact .inl rfl|exact .inr rfl|assumption) :
  PS X (.Assign [.Name y py] (.Call (.Attribute (.Name x p1) "pop" apos) [] [] cpos) pos) (tS own (aAp i j)):=
 PS.imp (yK hnd hj hy (aFm mq vn AG aFn (cZ hN hv hd hcd) hbase hline) hs hf) λD' σ H z0=>by
 obtain⟨ρ,fl,E,h,q⟩:=z0;unfold aAp at h;split at h
 .rename_i xs hx;split at h
  .rename_i dx hdx;cases h;obtain⟨a,o,hσ,r,hin,ha,hm⟩:=E.ownAt ho (by rw[hx];intro z;cases z);rw[hx] at r hin;obtain⟨vs,hl,rr⟩:=FZ r;obtain⟨v,hvx,rv⟩:=rr.get hdx;have hlen:=rr.length;refine⟨_,hσ,.inl ⟨rfl,vs,.of hl⟩,a,vs,v,rfl,rfl,hl,by rw[hlen];exact hvx,?_⟩;have hin':θ xs=ag:=hin;have pall:∀y∈xs,y.pure=ag:=λy hy=>iW.mp hin' y hy
   have pdx:dx.pure=ag:=pall dx (ef hdx);have pe:θ xs.dropLast=ag:=iW.mpr λy hy=>pall y (AH _ hy)
   have er:cN All H vs.dropLast xs.dropLast:=by
    rw[kU,kU,hlen];exact rr.take _
   obtain⟨E2,k2⟩:=E.mut ho hσ rfl (.lst aO trivial (er.upd pe hl rfl)) pe;have r1:=(cN.cons rv .nil).upd (o:=.lst vs.dropLast) (by rw[θ,pdx];rfl) hl rfl;cases r1 with
   |cons r1 _=>
    have E3:=E2.set hoj (r1.cJ pdx);exact q _ _ (k2.trans λb ob eb nb=>⟨eb,by rw[lD hoj];exact nb⟩) E3
  .exact bx h
 .exact bx h
theorem aAq(ho:own i=ag)(hN:X.N[i]?=ae x)(hv:Vis X.env.scope x)(he:PE X e (gE fe re))(hd:nDb x:=by decide)(hcd:nCd x:=by decide)
 (hbase:hG (.Name x p1) "extend" X.env (eval (.Name x p1) X.env)=eval (.Name x p1) X.env:=by rfl)
 (hs1:zSE X e []:=by rfl)
 (hfew:zFw X cpos [e]:=by rfl)
 (hline:(apos.endLine==cpos.line)=ag:=by rfl)
 (hs:dy (.Call (.Attribute (.Name x p1) "extend" apos) [e] [] cpos) aj pos.line X.env=pure ah:=by rfl) :
  PS X (.Expr (.Call (.Attribute (.Name x p1) "extend" apos) [e] [] cpos) pos) (tS own (aJz i fe)):=
 PS.imp (nF (aD7 mq ze PySem.F.type_list_extend ZL (cZ hN hv hd hcd) (bV he jH hs1) hbase hfew hline hs1 rfl) hs) λD' σ H z0=>by
 obtain⟨ρ,fl,E,h,q⟩:=z0;obtain⟨d,h1,h2⟩:=bG h;split at h2
 .rename_i xs ys hx;split at h2
  .rename_i hk;cases h2;rw[bf,eD] at hk;obtain⟨a,o,hσ,r,hin,ha,hm⟩:=E.ownAt ho (by rw[hx];intro z;cases z);rw[hx] at r hin;obtain⟨vs,hl,rr⟩:=FZ r;refine⟨_,hσ,.inl ⟨rfl,vs,.of hl⟩,ρ,_,E.er,h1,λv H' s rv _=>?_⟩;obtain⟨b,zs,rfl,hb,_,rz⟩:=rv.inv;have E':=E.same s;have hl':=s _ _ hl;refine⟨a,b,vs,zs,rfl,rfl,hl',hb,by rw[rr.length,rz.length];exact dh hk.1 (by rw[d4];decide),?_⟩;have hp:θ (xs++ys)=ag:=by rw[uX,bf];exact⟨hin,hk.2⟩
   obtain⟨E2,k2⟩:=E'.mut ho hσ rfl (.lst aO trivial (((rr.same s).append rz).upd hp hl' rfl)) hp;exact q _ _ ((KU.same s).trans k2) E2
  .exact bx h2
 .exact bx h2
end
end
noncomputable abbrev FX:=aa D->Res (D×aa D)
noncomputable abbrev FXT:=aa D->Res (aq×aa D)
noncomputable def QX:D->av (aa D)
 |.lst xs=>ae xs
 |.cel _ xs=>ae xs
 |_=>aj
noncomputable def aG1:D->aa D->D
 |.cel a _,xs=>.cel a xs
 |_,xs=>.lst xs
noncomputable def y_(k:af):af->aq:=λi=>ϒ (i<k)
open Classical in
noncomputable def ch1(f:aa D->Res D)(xs rest:aa D):Res (D×aa D):=
 if h:∃p:D×aa D,∀b,f (.cel b xs::rest)=.ok (.tup [p.1,.cel b p.2]) then .ok h.choose else .bad
theorem aLx{xs rest:aa D}(h:ch1 f xs rest=.ok p):∀b,f (.cel b xs::rest)=.ok (.tup [p.1,.cel b p.2]):=by
 unfold ch1 at h;split at h
 .rename_i e;cases h;exact e.choose_spec
 .exact bx h
theorem N6{xs rest xs':aa D}(h:∀b,f (.cel b xs::rest)=.ok (.tup [r,.cel b xs'])):ch1 f xs rest=.ok (r,xs'):=by
 have e:∃p:D×aa D,∀b,f (.cel b xs::rest)=.ok (.tup [p.1,.cel b p.2]):=⟨(r,xs'),h⟩
 have q:ch1 f xs rest=.ok e.choose:=by unfold ch1;rw[dif_pos e]
 rw[q];have z:=e.choose_spec 0;rw[h 0] at z;injection z with z
 injection z with z
 injection z with z1 z2
 injection z2 with z2
 injection z2 with _ z2
 rw[z1,z2]
noncomputable def aPf(k:af):Fl->Res D
 |.rt (.tup (d::ρ))=>.ok (.tup (d::ρ.take k))
 |.nx ρ=>.ok (.tup (.non::ρ.take k))
 |_=>.bad
def fnX(k n m:af)(f:FS):aa D->Res D:=λds=>do
 let r <- f (ds++ck (m-n) .uD)
 aPf k r
def gG(f:aa D->Res D)(n i:af)(fs:FA):FX:=λρ=>do
 let rest <- fs ρ
 match QX (ρ.getD i .uD) with
 |some xs=>if ϒ (rest.length+1=n) then (do
   let p <- ch1 f xs rest
   if θ p.2 then .ok (p.1,ρ.set i (aG1 (ρ.getD i .uD) p.2)) else .bad) else .bad
 |none=>.bad
noncomputable def x2L(f:D->D->Res D)(fa:FX)(fb:FE):FX:=λρ=>do
 let p <- fa ρ
 if p.1.pure then (do
  let y <- fb p.2
  let d <- f p.1 y
  if d.pure then .ok (d,p.2) else .bad) else .bad
noncomputable def x2R(f:D->D->Res D)(fa:FE)(fb:FX):FX:=λρ=>do
 let x <- fa ρ
 let p <- fb ρ
 let d <- f x p.1
 if d.pure then .ok (d,p.2) else .bad
def xTB(f:FX):FXT:=λρ=>do
 let p <- f ρ
 let b <- asB p.1
 .ok (b,p.2)
def lU(o:aq)(i:af)(f:FX):FS:=λρ=>do
 let p <- f ρ
 if (if o then inner p.1 else ag) then .ok (.nx (p.2.set i p.1)) else .bad
noncomputable def aG2(c:FXT)(f g:FS):FS:=λρ=>do
 let p <- c ρ
 if p.1 then f p.2 else g p.2
def XH(i:af)(fk fv:FE):FS:=λρ=>do
 let d <- fv ρ
 let k <- fk ρ
 match QX (ρ.getD i .uD),k with
 |some xs,.int k=>if d.pure then (match ixD xs.length k with|some j=>.ok (.nx (ρ.set i (aG1 (ρ.getD i .uD) (xs.set j d))))|none=>.bad) else .bad
 |_,_=>.bad
noncomputable def bPu(f:FE):FE:=λρ=>do
 let d <- f ρ
 if d.pure then .ok d else .bad
noncomputable def isI:D->aq
 |.int _=>ag
 |_=>ah
def aI7:aa D->Res (aa D)
 |[]=>.bad
 |.lst ys::xs=>if ys.all isI&&θ xs then .ok (.scr ys::xs) else .bad
 |x::xs=>if x.pure then (do let r <- aI7 xs;.ok (x::r)) else .bad
def aPg(f:FE):FE:=λρ=>do
 let d <- f ρ
 match d with
 |.lst xs=>(do let r <- aI7 xs;.ok (.lst r))
 |_=>.bad
section
variable [KFrag]
section
variable {own:af->aq}
theorem aG3(r:Rep P H (.ref a) d)(h:QX d=ae xs):∃vs,H a=ae (.lst vs)/\P a/\cN P H vs xs:=by
 cases d<;>simp only[QX] at h<;>cases h<;>cases r
 .exact⟨_,by assumption,by assumption,by assumption⟩
 .exact⟨_,by assumption,by assumption,by assumption⟩
theorem aAr(r:Rep P H v (.cel b xs)):v=.ref b:=by cases r;rfl
theorem aG4(r:Rep P H (.ref a) d)(h:QX d=ae xs)(e:H' a=ae (.lst vs'))(p:P' a)(r':cN P' H' vs' xs'):Rep P' H' (.ref a) (aG1 d xs'):=by
 cases d<;>simp only[QX] at h<;>cases h<;>cases r
 .exact .lst e p r'
 .exact .cel e p r'
theorem aLy(h:QX d=ae xs):inner d=θ xs:=by
 cases d<;>simp only[QX] at h<;>cases h<;>rfl
theorem aAs(h:QX d=ae xs):inner (aG1 d xs')=θ xs':=by
 cases d<;>simp only[QX] at h<;>cases h<;>rfl
theorem aLz(h:QX d=ae xs):d≠.uD:=λz=>by subst z;cases h
theorem ES.aQk(E:ES own H σ ρ)(ho:own i=ag)(hi:σ[i]?=ae (ae (.ref a)))(hk:∀b ob,H b=ae ob->b≠a->H' b=ae ob)(e:H' a=ae o)(hm:T_ o=ag)(r:Rep All H' (.ref a) d)(hin:inner d=ag) :
  ES own H' σ (ρ.set i d)/\KU own σ H σ H':=by
 have hOa:Own own σ a:=⟨i,ho,hi⟩
 obtain⟨a',oa,ea,_,_,hHa,hma,huq⟩:=E.own i _ ho hi;cases ea;have k:KU own σ H σ H':=λb ob e n=>⟨hk b ob e (λz=>by subst z;exact n hOa),n⟩
 have hl:i<ρ.length:=by rw[<-E.len];exact(dQ.mp hi).1
 refine⟨⟨by simp[E.len],λj hj=>?_,λj w hj hw=>?_⟩,k⟩
 .rw[eX] at hj ⊢;by_cases h:i=j/\i<ρ.length
  .obtain⟨rfl,_⟩:=h;exact⟨_,hi,λz=>by rw[ho] at z;cases z⟩
  .rw[aw h] at hj ⊢;obtain⟨w,h1,h2⟩:=E.at_ j hj;exact⟨w,h1,λhj=>k.rep E (h2 hj)⟩
 .by_cases hij:i=j
  .subst hij;rw[hi] at hw;cases hw;rw[eX,ar ⟨rfl,hl⟩];exact⟨a,o,rfl,r,hin,e,hm,huq⟩
  .rw[eX,aw λz=>hij z.1];obtain⟨b,ob,h1,h2,h3,h4,h5,h6⟩:=E.own j w hj hw;subst h1;have hba:b≠a:=λz=>by subst z;exact hij (h6 i ho hi)
   refine⟨b,ob,rfl,?_,h3,hk _ _ h4 hba,h5,h6⟩;refine(h2.y_ (P':=λc=>c=b) h3 rfl).keep (λc oc hc hp=>?_) λ_ _=>trivial
   refine hk _ _ hc λz=>?_
   subst z;rcases hp with hp|hp
   .exact hba hp.symm
   .rw[hHa] at hc;cases hc;rw[hma] at hp;cases hp
def NS(own:af->aq)(ρ ρ':aa D):Prop:=∀i,own i=ah->ρ'.getD i .uD=ρ.getD i .uD
theorem NS.set(ho:own i=ag):NS own ρ (ρ.set i d):=λj hj=>by
 rw[eX,aw];rintro⟨rfl,_⟩;rw[ho] at hj;cases hj
def kX(own:af->aq)(σ:L2.St)(H:Hp)(ρ:aa D)(d:D)(ρ':aa D)(Q:VK):Prop:=∀v H',KU own σ H σ H'->ES own H' σ ρ'->NS own ρ ρ'->Rep (New H) H' v d->Q v H'
noncomputable def gX(own:af->aq)(f:FX):TE:=λσ H Q=>∃ρ d ρ',ES own H σ ρ/\f ρ=.ok (d,ρ')/\kX own σ H ρ d ρ' Q
noncomputable def gXT(own:af->aq)(f:FXT):TT:=λσ H Q=>∃ρ d ρ',ES own H σ ρ/\f ρ=.ok (d,ρ')/\∀H',KU own σ H σ H'->ES own H' σ ρ'->NS own ρ ρ'->Q d H'
noncomputable def gAO(own:af->aq)(f:FA):TA:=λσ H Q=>∃ρ ds,ES own H σ ρ/\f ρ=.ok ds/\∀vs H',dH H H'->cN (λa=>¬Own own σ a) H' vs ds->Q vs H'
theorem aAt(E:ES own H σ ρ)(h:H a=aj):¬Own own σ a:=λn=>by
 obtain⟨o',e,_⟩:=E.live n;rw[h] at e;cases e
theorem aI8(E:ES own H σ ρ)(E1:ES own H1 σ ρ1)(k:KU own σ H1 σ H2):GZ (New H) H1 H2:=λa o e hp=>by
 refine(k a o e ?_).1;rcases hp with hp|hp
 .exact aAt E hp
 .intro n;obtain⟨o',e',hm⟩:=E1.live n;rw[e] at e';cases e';rw[hp] at hm;cases hm
theorem Rep.ku(r:Rep (New H) H1 v d)(E:ES own H σ ρ)(E1:ES own H1 σ ρ1)(k:KU own σ H1 σ H2):Rep (New H) H2 v d:=r.keep (aI8 E E1 k) λ_ h=>h
theorem ES.aS7(E:ES own H σ ρ)(k:KU own σ H σ H')(E':ES own H' σ ρ')(ns:NS own ρ ρ')(ho:own i=ag)(hn:H a=aj)(r:Rep All H' (.ref a) d)(hin:inner d=ag)(ha:H' a=ae o)(hm:T_ o=ag) :
  ES own H' (σ.set i (ae (.ref a))) (ρ'.set i d)/\KU own σ H (σ.set i (ae (.ref a))) H':=by
 have hO:∀b,H b≠aj->¬Own own σ b->¬Own own (σ.set i (ae (.ref a))) b:=λb hb n z0=>by
  obtain⟨j,hj,e⟩:=z0;by_cases hij:i=j
  .subst hij;by_cases hl:i<σ.length
   .rw[fq hl] at e;cases e;exact hb hn
   .rw[mj,ar rfl,aw hl] at e;cases e
  .rw[du hij] at e;exact n ⟨j,hj,e⟩
 have hna:¬Own own σ a:=aAt E hn;refine⟨⟨by simp[E'.len],λj hj=>?_,λj w hj hw=>?_⟩,λb ob e n=>⟨(k b ob e n).1,hO b (by rw[e];simp) n⟩⟩
 .rw[eX] at hj ⊢;by_cases h:i=j/\i<ρ'.length
  .rw[ar h];obtain⟨rfl,hl⟩:=h;exact⟨.ref a,by rw[fq (by rw[E'.len];exact hl)],λz=>by rw[ho] at z;cases z⟩
  .rw[aw h] at hj ⊢;obtain⟨w,h1,h2⟩:=E'.at_ j hj;by_cases hij:i=j
   .subst hij;have:i<σ.length:=(dQ.mp h1).1;rw[E'.len] at this;exact aT ⟨rfl,this⟩ h
   .refine⟨w,by rw[du hij];exact h1,λhoj=>?_⟩;rw[ns j hoj] at hj ⊢;obtain⟨w',h1',h2'⟩:=E.at_ j hj;rw[h1] at h1';cases h1';exact(h2' hoj).dom.keep (λc oc hc hp=>k.keep E c oc hc (hp.imp And.left id)) λb ⟨n,hb⟩=>hO b hb n
 .by_cases hij:i=j
  .subst hij;have hl:i<σ.length:=by
    have:=(dQ.mp hw).1;simpa using this
   rw[fq hl] at hw;cases hw;rw[eX,ar ⟨rfl,by rw[<-E'.len];exact hl⟩];refine⟨a,o,rfl,r,hin,ha,hm,λk hk hs=>?_⟩;by_cases hik:i=k
   .exact hik.symm
   .rw[du hik] at hs;exact aT ⟨k,hk,hs⟩ hna
  .rw[du hij] at hw;rw[eX,aw λz=>hij z.1];obtain⟨b,ob,h1,h2,h3,h4,h5,h6⟩:=E'.own j w hj hw;refine⟨b,ob,h1,h2,h3,h4,h5,λk hk hs=>?_⟩;by_cases hik:i=k
   .subst hik;by_cases hl:i<σ.length
    .rw[fq hl] at hs;cases hs;subst h1;exact aT ⟨j,hj,hw⟩ hna
    .rw[mj,ar rfl,aw hl] at hs;cases hs
   .rw[du hik] at hs;exact h6 k hk hs
end
section
variable {own:af->aq} {X:Cx} {a b e:Expr} {pos pos':b6} {fa fb:FE} {rb:aq} {xa xb xe:FX}
theorem aS8{fr:aq}(h:gX own (x2L f xa fb) σ H Q):tOp (r2 f fr) (gX own xa) (gE fb rb) σ H Q:=by
 obtain⟨ρ,d,ρ',E,h,q⟩:=h;obtain⟨⟨x,ρ1⟩,h1,h⟩:=bG h;split at h
 .rename_i hp;obtain⟨y,h2,h⟩:=bG h;obtain⟨z,h3,h⟩:=bG h;split at h
  .rename_i hz;cases h;refine⟨ρ,x,ρ1,E,h1,λv H1 k1 E1 ns r1=>⟨ρ1,y,E1.er,h2,λw H2 s2 r2 _=>⟨x,y,_,(r1.same s2).all,r2,h3,λu H3 s3 r3 _=>?_⟩⟩⟩;exact q u H3 (k1.trans (.same (s2.trans s3))) (E1.same (s2.trans s3)) ns (r3.cJ hz)
  .exact bx h
 .exact bx h
theorem VD{fr:aq}(ho:OpR X (en o) (r2 f fr))(ha:PE X a (gX own xa))(hb:PE X b (gE fb rb)):PE X (.BinOp a o b pos) (gX own (x2L f xa fb)):=PE.imp (aGy ho ha hb) λ_ _ _=>aS8
theorem aQl{fr:aq}(h:gX own (x2R f fa xb) σ H Q):tOp (r2 f fr) (gE fa ag) (gX own xb) σ H Q:=by
 obtain⟨ρ,d,ρ',E,h,q⟩:=h;obtain⟨x,h1,h⟩:=bG h;obtain⟨⟨y,ρ1⟩,h2,h⟩:=bG h;obtain⟨z,h3,h⟩:=bG h;split at h
 .rename_i hz;cases h;refine⟨ρ,x,E.er,h1,λv H1 s1 r1 n1=>⟨ρ,y,ρ1,E.same s1,h2,λw H2 k2 E2 ns r2=>⟨x,y,_,((n1 rfl).ku E (E.same s1) k2).all,r2.all,h3,λu H3 s3 r3 _=>?_⟩⟩⟩;exact q u H3 ((KU.same s1).trans (k2.trans (.same s3))) (E2.same s3) ns (r3.cJ hz)
 .exact bx h
theorem aM0{fr:aq}(ho:OpR X (en o) (r2 f fr))(ha:PE X a (gE fa ag))(hb:PE X b (gX own xb)):PE X (.BinOp a o b pos) (gX own (x2R f fa xb)):=PE.imp (aGy ho ha hb) λ_ _ _=>aQl
theorem aM1(E:ES own H σ ρ)(ho:own i=ah)(h:cV i ρ=.ok d):∃v,σ[i]?=ae (ae v)/\Rep (λa=>¬Own own σ a) H v d:=by
 obtain⟨v,hv,r,e⟩:=E.er.var h;have hne:ρ.getD i .uD≠.uD:=λz=>by
  rw[z] at e;subst e;exact Rep.uD r
 obtain⟨w,hw,hr⟩:=E.at_ i hne;rw[hv] at hw;cases hw;have r2:=hr ho;rw[e] at r2;exact⟨v,hv,r2⟩
theorem aS9{fr:aq}{σ:L2.St}{H:Hp}{Q:VK}(ho:own i=ah)(h:gX own (x2R f (cV i) xb) σ H Q):tOp (r2 f fr) (WM i) (gX own xb) σ H Q:=by
 obtain⟨ρ,d,ρ',E,h,q⟩:=h;obtain⟨x,h1,h⟩:=bG h;obtain⟨⟨y,ρ1⟩,h2,h⟩:=bG h;obtain⟨z,h3,h⟩:=bG h;obtain⟨v,hv,rv⟩:=aM1 E ho h1;split at h
 .rename_i hz;cases h;refine⟨v,hv,ρ,y,ρ1,E,h2,λw H2 k2 E2 ns r2=>⟨x,y,_,(k2.rep E rv).all,r2.all,h3,λu H3 s3 r3 _=>?_⟩⟩;exact q u H3 (k2.trans (.same s3)) (E2.same s3) ns (r3.cJ hz)
 .exact bx h
theorem aM2{pv:b6}{f:D->D->Res D}{fr:aq}(ho:IxR X (r2 f fr))(hoi:own i=ah)(hN:X.N[i]?=ae x)(hv:Vis X.env.scope x)(hb:PE X b (gX own xb))(hs:GR b)(hd:nDb x:=by decide)(hcd:nCd x:=by decide):PE X (.Subscript (.Name x pv) b pos) (gX own (x2R f (cV i) xb)):=PE.imp (aKr ho (cZ hN hv hd hcd) hb hs) λ_ _ _=>aS9 hoi
theorem aDw(ho:own i=o)(h:tS own (lU o i xe) D' σ H):aGx (gX own xe) (yJ i) D' σ H:=by
 obtain⟨ρ,fl,E,h,q⟩:=h;obtain⟨⟨d,ρ1⟩,h1,h2⟩:=bG h;cases o with
 |true=>
  simp only[eL] at h2;split at h2
  .rename_i hk;cases h2;refine⟨ρ,d,ρ1,E,h1,λv H' k E1 ns r=>?_⟩;obtain⟨a,ob,rfl,hn,ha,hm⟩:=aFy r hk;obtain⟨E2,k2⟩:=E.aS7 k E1 ns ho hn r.all hk ha hm;exact q _ H' k2 E2
  .exact bx h2
 |false=>
  simp only[i8,gs,eL] at h2;cases h2;refine⟨ρ,d,ρ1,E,h1,λv H' k E1 ns r=>?_⟩;exact q _ H' (λa ob e hn=>⟨(k a ob e hn).1,by rw[lD ho];exact hn⟩) (E1.set ho (RW E r))
theorem lJ(ho:own i=o)(hN:X.N.Nodup)(hi:X.N[i]?=ae x)(hx:Loc X.env.scope x)(he:PE X e (gX own xe))(hs:zSw X e x pos' pos:=by rfl)(hf:zFn X x:=by first|exact .inl rfl|exact .inr rfl|assumption) :
  PS X (.Assign [.Name x pos'] e pos) (tS own (lU o i xe)):=PS.imp (yK hN hi hx he hs hf) λ_ _ _=>aDw ho
end
section
variable {own:af->aq} {X:Cx} {a b c e:Expr} {pos pos':b6} {fe:FE} {ra re:aq}
theorem kRt.new{D:Ends}(h:kRt own D σ H (.tup (d0::ρ')))(hx:own rtX=ag):∀v σ' H',KU own σ H σ' H'->ES own H' σ' ρ'->Rep (λa=>(Own own σ a\/H a=aj)/\∀i b xs,ρ'.getD i .uD=.cel b xs->a≠b) H' v d0->D.rt v H':=by
 unfold kRt at h;rw[ar hx] at h;obtain⟨d1,ρ1,e,g⟩:=h;cases e;exact g
theorem m8(E:ES own H σ ρ){i b:af}{xs:aa D}(h:ρ.getD i .uD=.cel b xs):∃vs,σ[i]?=ae (ae (.ref b))/\H b=ae (.lst vs):=by
 obtain⟨v,h1,h2⟩:=E.er i (by rw[h];intro z;cases z);rw[h] at h2;obtain⟨_,rfl,e,_,_⟩:=h2.inv;exact⟨_,h1,e⟩
theorem HS(he:PE X e (gE fe re))(hx:own rtX=ag:=by rfl):PS X (.Return (ae e) pos) (tS own (MK fe re)):=PS.imp (DY he) λD σ H z0=>by
 obtain⟨ρ,fl,E,h,q⟩:=z0;obtain⟨d,h1,h2⟩:=bG h;split at h2
 .rename_i hk;cases h2;refine⟨ρ,d,E.er,h1,λv H' s r n=>kRt.new q hx v σ H' (.same s) (E.same s) ?_⟩;rw[dm] at hk;rcases hk with hk|hk
  .refine(n hk).mono λa ha=>⟨.inr ha,λi b xs hb z=>?_⟩
   obtain⟨vs,_,e⟩:=m8 E hb;subst z;rw[show H a=aj from ha] at e;cases e
  .exact r.cJ hk
 .exact bx h2
theorem VF(ho:own i=ag)(hN:X.N[i]?=ae x)(hv:Vis X.env.scope x)(hd:nDb x:=by decide)(hcd:nCd x:=by decide)(hx:own rtX=ag:=by rfl):PS X (.Return (ae (.Name x pos')) pos) (tS own (FN i)):=
 PS.imp (DY (cZ hN hv hd hcd)) λD σ H z0=>by
 obtain⟨ρ,fl,E,h,q⟩:=z0;obtain⟨d,h1,h2⟩:=bG h;split at h2
 .rename_i hc;cases h2;obtain⟨v,hv,r,e⟩:=E.er.var h1;obtain⟨a,o,rfl,r2,hin,_,_,huq⟩:=E.own i v ho hv;rw[e] at hin;refine⟨_,hv,kRt.new q hx _ σ H (.same (dH.refl H)) E (r.y_ hin ⟨.inl ⟨i,ho,hv⟩,λj b xs hb z=>?_⟩)⟩;obtain⟨vs,hj,eb⟩:=m8 E hb;subst z;cases hoj:own j with
  |true=>
   have:=huq j hoj hj;subst this;rw[hb] at e;subst e;cases hc
  |false=>
   obtain⟨w,hw,hr⟩:=E.at_ j (by rw[hb];intro z;cases z);have r3:=hr hoj;rw[hb] at r3;obtain⟨_,rfl,e,p,r⟩:=r3.inv;exact p ⟨i,ho,hv⟩
 .exact bx h2
def spV(k:af)(f:aa D->Res D)(n:af):Sp:=λvs H Q _=>∃ds d ds',ds.length=n/\vs.length=n/\ES (y_ k) H (vs.map ae) ds/\(∀i,i<k->∃b xs xs',ds.getD i .uD=.cel b xs/\ds'.getD i .uD=.cel b xs')/\f ds=.ok (.tup (d::ds'))/\
 ∀v H',(∀a o,H a=ae o->¬Own (y_ k) (vs.map ae) a->H' a=ae o)->(∀i v,i<k->vs[i]?=ae v->Rep All H' v (ds'.getD i .uD)/\inner (ds'.getD i .uD)=ag)->Rep (New H) H' v d->Q v H'
theorem aI9{E:XK}(h:spV k f n vs H Q E):vs.length=n:=by
 obtain⟨ds,d,ds',h1,h2,_⟩:=h;exact h2
theorem N7{ρ:aa D}(h:i<k):(ρ.take k).getD i .uD=ρ.getD i .uD:=by
 rw[de,de,List.getElem?_take,ar h]
theorem aDx{k:af}{N ps:aa Str}{f:FS}{vs:aa V}{H:Hp}{Q:VK}{E:XK}(hx:own rtX=ag)(hown:∀i,i<ps.length->own i=y_ k i)(hkn:k<=ps.length)(h0:spV k (fnX k ps.length N.length f) ps.length vs H Q E):tS own f {nx:=λ_ H'=>Q .non H',rt:=Q} (start N vs) H:=by
 obtain⟨ds,d,ds',hl,hvl,E0,hc,h,q⟩:=h0;obtain⟨fl,h1,h2⟩:=bG h;have hst:start N vs=vs.map ae++ck (N.length-ps.length) aj:=by
  show vs.map ae++ck (N.length-vs.length) aj=_;rw[hvl]
 have low:∀i,i<ps.length->(start N vs)[i]?=(vs.map ae)[i]?:=λi hi=>by rw[hst,gq (by simp[hvl,hi])]
 have high:∀i v,ps.length<=i->(start N vs)[i]?≠ae (ae v):=λi v hi e=>by
  rw[hst,eJ (by simp[hvl];lia),hZ] at e;split at e<;>cases e
 have hO:∀a,Own own (start N vs) a↔Own (y_ k) (vs.map ae) a:=λa=>by
  constructor
  .rintro⟨i,hi,e⟩;by_cases hlt:i<ps.length
   .exact⟨i,by rw[<-hown i hlt];exact hi,by rw[<-low i hlt];exact e⟩
   .exact aT e (high i _ 0x1)
  .rintro⟨i,hi,e⟩;have hik:i<k:=by simpa[y_] using hi
   have hlt:i<ps.length:=by lia
   exact⟨i,by rw[hown i hlt];exact hi,by rw[low i hlt];exact e⟩
 have hOf:(λa=>¬Own own (start N vs) a)=λa=>¬Own (y_ k) (vs.map ae) a:=funext λa=>by rw[hO]
 have gd:∀i,i<ps.length->(ds++ck (N.length-ps.length) D.uD).getD i .uD=ds.getD i .uD:=λi hi=>by
  rw[de,gq 0x1,de]
 have ES0:ES own H (start N vs) (ds++ck (N.length-ps.length) .uD):=by
  refine⟨by rw[hst];simp[hvl,hl],λi hi=>?_,λi v hi hv=>?_⟩
  .have hlt:i<ps.length:=mr λhge=>hi (by
    rw[de,eJ 0x1,hZ];split<;>rfl)
   rw[gd i hlt] at hi ⊢;obtain⟨v,g1,g2⟩:=E0.at_ i hi;exact⟨v,by rw[low i hlt];exact g1,λho=>by rw[hOf];exact g2 (by rw[<-hown i hlt];exact ho)⟩
  .have hlt:i<ps.length:=mr λhge=>high i v hge hv
   rw[low i hlt] at hv;rw[gd i hlt];obtain⟨a,o,g1,g2,g3,g4,g5,g6⟩:=E0.own i v (by rw[<-hown i hlt];exact hi) hv;refine⟨a,o,g1,g2,g3,g4,g5,λj hj hs=>?_⟩;have hjl:j<ps.length:=mr λhge=>high j _ hge hs
   exact g6 j (by rw[<-hown j hjl];exact hj) (by rw[<-low j hjl];exact hs)
 have fin:∀v σ' H' ρ',ds'=ρ'.take k->KU own (start N vs) H σ' H'->ES own H' σ' ρ'->Rep (New H) H' v d->Q v H':=λv σ' H' ρ' ed ku E' r=>by
  refine q v H' (λa o e n=>(ku a o e (by rw[hO];exact n)).1) (λi w hi hw=>?_) r;have hlt:i<ps.length:=by lia
  obtain⟨b,xs,xs',g1,g2⟩:=hc i hi;have hoi:own i=ag:=by rw[hown i hlt];simp[y_,hi]
  have g3:ρ'.getD i .uD=.cel b xs':=by rw[ed,N7 hi] at g2;exact g2
  obtain⟨vs0,z1,_⟩:=m8 E0 g1;rw[ly,hw] at z1;cases z1;obtain⟨w',z2,_⟩:=E'.at_ i (by rw[g3];intro z;cases z);obtain⟨a,o,rfl,g4,g5,_⟩:=E'.own i w' hoi z2;rw[g3] at g4 g5;have:=aAr g4;cases this;rw[g2];exact⟨g4,g5⟩
 refine⟨_,fl,ES0,h1,?_⟩;cases fl with
 |nx ρ'=>
  simp only[aPf] at h2;injection h2 with h2
  injection h2 with h2
  injection h2 with z1 z2
  subst z1;exact λσ' H' ku E'=>fin .non σ' H' ρ' z2.symm ku E' .non
 |bk ρ'=>exact bx h2
 |ct ρ'=>exact bx h2
 |rt d'=>
  show kRt own _ _ _ d';unfold kRt;rw[ar hx];unfold aPf at h2;split at h2
  .rename_i d1 ρ' heq;cases heq;injection h2 with h2
   injection h2 with h2
   injection h2 with z1 z2
   subst z1;refine⟨_,_,rfl,λv σ' H' ku E' r=>fin v σ' H' ρ' z2.symm ku E' (r.mono λa ha=>?_)⟩;rcases ha.1 with ⟨i,hi,e⟩|hn
   .exfalso;have hlt:i<ps.length:=mr λhge=>high i _ hge e
    have hik:i<k:=by rw[hown i hlt] at hi;simpa[y_] using hi
    obtain⟨b,xs,xs',g1,g2⟩:=hc i hik;obtain⟨vs0,q1,_⟩:=m8 E0 g1;rw[low i hlt,q1] at e;cases e;rw[<-z2,N7 hik] at g2;exact ha.2 i _ xs' g2 rfl
   .exact hn
  .rename_i heq;cases heq
  .exact bx h2
theorem aM3{P:bp}{w:bj}{K:bn}{mg:Str->av am}{base:az}{x qual:Str}{st:bi}{fad:ak}{fd:c6}{N ps:aa Str}{k c:af}{f:FS}(F:Fun K x qual st fad fd)(S:cA N ps (aL st))(own:af->aq)(hx:own rtX=ag)(hown:∀i,i<ps.length->own i=y_ c i)(hkn:c<=ps.length)
 (hbody:∀(cdv:am) (A:cj) (outer:aa cx) (s:au) (H:Hp) (E:XK),lR k (A.deeper (bS qual (aL st) s.heap.objs.size fad cdv))->PSs (nA CX0 P w K mg base N qual (aL st) fad cdv A outer s H E).nox (fW st) (tS own f)):uO P w K mg base CX0 (k+1) fad fd ps (spV c (fnX c ps.length N.length f) ps.length):=
 F.ok S (λvs H Q E h=>aI9 h) λcdv A outer s H vs Q E hr h=>⟨_,hbody cdv A outer s H E hr,aDx hx hown hkn h⟩
def QZ(P:bp)(w:bj)(K:bn)(mg:Str->av am)(base:az)(k:af)(x:Str)(n c:af)(f:aa D->Res D):Prop:=
 ∃(fad:ak)(fd:c6)(ps:aa Str),uO P w K mg base CX0 k fad fd ps (spV c f n)/\mg x=ae (.ref fad)/\iq K (.ref fad)=ag/\Binds K fd ps []
theorem zJ{w:bj}{K:bn}{mg:Str->av am}{base:az}{x:Str}{k:af}{st:bi}{fad:ak}{fd:c6}{N ps:aa Str}{fs:FS}(c:af)(F:Fun K x x st fad fd)(hm:mg x=ae (.ref fad))(hb:Binds K fd ps [])(S:cA N ps (aL st))(own:af->aq)(hown:∀i,i<ps.length->own i=y_ c i)(hkn:c<=ps.length)
 (hbody:∀(cdv:am) (A:cj) (outer:aa cx) (s:au) (H:Hp) (E:XK),lR k (A.deeper (bS x (aL st) s.heap.objs.size fad cdv))->PSs (nA CX0 P w K mg base N x (aL st) fad cdv A outer s H E).nox (fW st) (tS own fs))(hx:own rtX=ag:=by rfl):QZ P w K mg base (k+1) x ps.length c (fnX c ps.length N.length fs):=
 ⟨fad,fd,ps,aM3 F S own hx hown hkn hbody,hm,F.kp,hb⟩
theorem kI:PA X [] (gAO own aR):=PA.imp jH λσ H Q z0=>by obtain⟨ρ,ds,E,h,q⟩:=z0;cases h;exact q [] H (dH.refl H) .nil
theorem aG5(ho:own i=ah)(hN:X.N[i]?=ae x)(hv:Vis X.env.scope x)(hes:PA X es (gAO own f))(hd:nDb x:=by decide)(hcd:nCd x:=by decide)(hs:bP (.Name x pos::es) X.env=(ah,eval (.Name x pos) X.env)::bP es X.env:=by rfl):PA X (.Name x pos::es) (gAO own (aC (cV i) f)):=PA.imp (bV (cZ hN hv hd hcd) hes hs) λσ H Q z0=>by
 obtain⟨ρ,ds,E,h,q⟩:=z0;obtain⟨x,h1,h⟩:=bG h;obtain⟨xs,h2,h⟩:=bG h;cases h;obtain⟨v,hv,rv⟩:=aM1 E ho h1;exact⟨v,hv,ρ,xs,E,h2,λvs H2 s2 r2=>q _ _ s2 (.cons (rv.same s2) r2)⟩
theorem aM4(he:PE X e (gE fe re))(hes:PA X es (gAO own f))(hs:zSE X e es:=by rfl):PA X (e::es) (gAO own (aC (bPu fe) f)):=PA.imp (bV he hes hs) λσ H Q z0=>by
 obtain⟨ρ,ds,E,h,q⟩:=z0;obtain⟨x,h1,h⟩:=bG h;obtain⟨xs,h2,h⟩:=bG h;cases h;obtain⟨y,h3,h1⟩:=bG h1;split at h1
 .rename_i hp;cases h1;exact⟨ρ,_,E.er,h3,λv H1 s1 r1 _=>⟨ρ,xs,E.same s1,h2,λvs H2 s2 r2=>q _ _ (s1.trans s2) (.cons ((r1.cJ hp).same s2) r2)⟩⟩
 .exact bx h1
theorem aM5(he:PE X e (gE fe ag))(hes:PA X es (gAO own f))(hs:zSE X e es:=by rfl):PA X (e::es) (gAO own (aC fe f)):=PA.imp (bV he hes hs) λσ H Q z0=>by
 obtain⟨ρ,ds,E,h,q⟩:=z0;obtain⟨x,h1,h⟩:=bG h;obtain⟨xs,h2,h⟩:=bG h;cases h;exact⟨ρ,_,E.er,h1,λv H1 s1 r1 n1=>⟨ρ,xs,E.same s1,h2,λvs H2 s2 r2=>q _ _ (s1.trans s2) (.cons ((RW E (n1 rfl)).same s2) r2)⟩⟩
theorem aPh{a:ak}{vs0:aa V}{vs:aa V}{rest:aa D}(ha:H a=ae (.lst vs0))(ra:cN All H vs0 xs)(hp:θ xs=ag)(rs:cN (λb=>b≠a) H vs rest):ES (y_ 1) H ((V.ref a::vs).map ae) (.cel a xs::rest):=by
 have hO:∀b,Own (y_ 1) ((V.ref a::vs).map ae) b->b=a:=λb z0=>by
  obtain⟨j,hj,e⟩:=z0;have:j=0:=by simp[y_] at hj;lia
  subst this;simp at e;exact e.symm
 refine⟨by simp[rs.length],λi hi=>?_,λi v hi hv=>?_⟩
 .cases i with
  |zero=>exact⟨.ref a,rfl,λz=>by simp[y_] at z⟩
  |succ i=>
   have e:(D.cel a xs::rest).getD (i+1) .uD=rest.getD i .uD:=rfl;rw[e] at hi ⊢;cases hq:rest[i]? with
   |none=>rw[de,hq] at hi;exact aT rfl hi
   |some d=>
    obtain⟨v,g1,g2⟩:=rs.get hq;rw[de,hq];exact⟨v,by simp[g1],λ_=>g2.mono λb hb ho=>hb (hO b ho)⟩
 .have:i=0:=by simp[y_] at hi;lia
  subst this;simp at hv;subst hv;exact⟨a,.lst vs0,rfl,.cel ha trivial ra,hp,ha,rfl,λj hj _=>by simp[y_] at hj;lia⟩
theorem aAu(E:ES own H σ ρ)(ho:own i=ag)(h:QX (ρ.getD i .uD)=ae xs):∃a vs,σ[i]?=ae (ae (.ref a))/\H a=ae (.lst vs)/\cN All H vs xs/\θ xs=ag/\Rep All H (.ref a) (ρ.getD i .uD)/\∀b,ρ.getD i .uD=.cel b xs->b=a:=by
 obtain⟨a,o,hσ,r,hin,ha,hm⟩:=E.ownAt ho (aLz h);obtain⟨vs,e,_,rr⟩:=aG3 r h;exact⟨a,vs,hσ,e,rr,by rw[aLy h] at hin;exact hin,r,λb hb=>by rw[hb] at r;have:=aAr r;cases this;rfl⟩
theorem aM6{H H':Hp}{a:ak}{d:D}{xs xs':aa D}(r:Rep All H (.ref a) d)(h:QX d=ae xs)(r':Rep All H' (.ref a) (.cel a xs')):∃vs,H' a=ae (.lst vs)/\Rep All H' (.ref a) (aG1 d xs'):=by
 obtain⟨vs,e,_,rr⟩:=aG3 r' rfl;exact⟨vs,e,aG4 r h e trivial rr⟩
theorem fJ(C:QZ X.prog X.w X.K X.mg X.base k x n 1 f)(hr:lR k' X.A)(hkk:k<=k')(hg:Gl X x)(ho:own i=ag)(hN:X.N[i]?=ae y)(hv:Vis X.env.scope y)(ha:PA X es (gAO own fs))(hdb:nDb x:=by decide)(hd:(y==("__debug__" : Str))=ah:=by decide)(hcd:(y==("__classdict__" : Str))=ah:=by decide)
 (he:bP (.Name y py::es) X.env=(ah,eval (.Name y py) X.env)::bP es X.env:=by rfl)(hpl:zSP X pos es:=by rfl):PE X (.Call (.Name x p) (.Name y py::es) [] pos) (gX own (gG f n i fs)):=by
 obtain⟨fad,fd,ps,F,hm,hk,hb⟩:=C;refine PE.imp (vR F (hr.mono hkk) hg hm hk hb .nil aHg (bV (cZ hN hv hd hcd) ha he) hdb he hpl) λσ H Q ⟨ρ,d,ρ',E,h,q⟩=>?_
 obtain⟨rest,h1,h⟩:=bG h;split at h
 .rename_i xs hx;split at h
  .rename_i hn;obtain⟨⟨r0,xs'⟩,h2,h⟩:=bG h;split at h
   .rename_i hp';cases h;obtain⟨a,vs0,hσ,e0,rr0,hp0,rp0,_⟩:=aAu E ho hx;refine⟨_,hσ,ρ,rest,E,h1,λvs H1 s1 rs=>?_⟩;have hOa:Own own σ a:=⟨i,ho,hσ⟩
    have hl:rest.length+1=n:=c9 hn;dsimp only;rw[dg];refine⟨.cel a xs::rest,_,[.cel a xs'],by simp;lia,by simp[rs.length];lia,aPh (s1 _ _ e0) (rr0.same s1) hp0 (rs.mono λb hb z=>by subst z;exact hb hOa),λj hj=>?_,aLx h2 a,λv H' k1 own1 rn=>?_⟩
    .have:j=0:=by lia
     subst this;exact⟨a,xs,xs',rfl,rfl⟩
    .obtain⟨r1,hin⟩:=own1 0 _ 0x1 rfl;have r1:Rep All H' (.ref a) (.cel a xs'):=r1;obtain⟨vs1,e1,r2⟩:=aM6 (rp0.same s1) hx r1;have hk1:∀b ob,H1 b=ae ob->b≠a->H' b=ae ob:=λb ob e n=>k1 b ob e λz0=>by
      obtain⟨j,hj,ej⟩:=z0;have:j=0:=by simp[y_] at hj;lia
      subst this;simp at ej;exact n ej.symm
     obtain⟨E2,k2⟩:=(E.same s1).aQk ho hσ hk1 e1 rfl r2 (by rw[aAs hx];exact hp');exact q v H' ((KU.same s1).trans k2) E2 (.set ho) (rn.mono λb hb=>s1.free hb)
   .exact bx h
  .exact bx h
 .exact bx h
end
section
variable {own:af->aq} {X:Cx} {a b c e:Expr} {pos pos':b6} {fa:FE}
theorem aAv(ho:own i=ag)(hN:X.N[i]?=ae x)(hvi:Vis X.env.scope x)(hk:PE X k (gE fk rk))(hv:PE X value (gE fv rv))(hs:dy value (ae (.Subscript (.Name x p1) k pos')) pos.line X.env=pure ah:=by rfl)(hd:nDb x:=by decide)(hcd:nCd x:=by decide) :
  PS X (.Assign [.Subscript (.Name x p1) k pos'] value pos) (tS own (XH i fk fv)):=by
 rintro Ψ s σ H D' I ⟨ρ,fl,E,h,q⟩;obtain⟨d,h0,h⟩:=bG h;obtain⟨kd,h1,h2⟩:=bG h;split at h2
 .rename_i xs kk hx;split at h2
  .rename_i hp;split at h2
   .rename_i j hj;cases h2;obtain⟨a,vs,hσ,e0,rr,hin,rp,_⟩:=aAu E ho hx;have pn:θ (xs.set j d)=ag:=iW.mpr λy hy=>by
     rcases List.mem_or_eq_of_mem_set hy with hy|hy
     .exact iW.mp hin y hy
     .subst hy;exact hp
    have go:∀{v:V}{H2:Hp},dH H H2->Rep All H2 v d->D'.nx σ (upd H2 a (.lst (vs.set j v))):=λ{v H2} sm rv=>by
     have rn:cN All (upd H2 a (.lst (vs.set j v))) (vs.set j v) (xs.set j d):=((rr.same sm).set rv j).upd pn (sm _ _ e0) rfl;obtain⟨E2,k2⟩:=(E.same sm).aQk ho hσ (λb ob e n=>by rw[bY n];exact e) aO rfl (aG4 (rp.same sm) hx aO trivial rn) (by rw[aAs hx];exact pn);exact q _ _ ((KU.same sm).trans k2) E2
    refine vS (thn (hv Ψ s σ H (λv H1=>dH H H1/\Rep All H1 v d) I ⟨ρ,d,E.er,h0,λv H1 s1 r1 _=>⟨s1,r1⟩⟩) λu1 t1 ⟨v,H1,I1,rv1,sm1,rp1⟩=>
     thn (cZ hN hvi hd hcd Ψ t1 σ H1 (λw H2=>w=.ref a/\H2=H1) I1 ⟨_,hσ,rfl,rfl⟩) λu2 t2 ⟨xx,H2,I2,rx,ex,eH⟩=>?_) hs
    subst ex;rw[eH] at I2;refine thn (hk Ψ t2 σ _ (λw H3=>dH H1 H3/\w=.int kk) I2 ⟨ρ,_,E.er.same sm1,h1,λw H3 s3 r3 _=>⟨s3,by cases r3.inv;rfl⟩⟩) λu3 t3 ⟨y,H3,I3,ry,sm3,ey⟩=>?_
    subst ey;exact thn (set_list Ψ t3 σ H3 (.ref a) (.int kk) v u2 u3 u1 (λH4=>D'.nx σ H4) I3 rx ry rv1 ⟨a,vs,kk,j,rfl,rfl,(sm1.trans sm3) _ _ e0,by rw[rr.length];exact hj,go (sm1.trans sm3) (rp1.same sm3)⟩) λ_ t4 ⟨H4,I4,q4⟩=>⟨σ,H4,I4,q4⟩
   .exact bx h2
  .exact bx h2
 .exact bx h2
theorem XJ{a:ak}{vs:aa V}(I:Inv X Ψ σ H s)(e:H a=ae (.lst vs)):∃o,Inv X Ψ σ (upd H a (.frz o (.lst vs))) s:=by
 obtain⟨its,n,r,ho,hz⟩:=I.lst e;refine⟨_,I.write (by rw[e];trivial) (.inl rfl) (λ_ _ _ q=>q) ⟨_,ho⟩ ⟨ho,hz,its,n,r,ho⟩⟩
theorem aAw(h:ys.all isI=ag):θ ys=ag:=iW.mpr λy hy=>by
 have:=fT.mp h y hy;cases y<;>first|rfl|cases this
theorem aG6:∀{xs r:aa D}{vs:aa V},aI7 xs=.ok r->cN (New H) H' vs xs->∃b ws,H b=aj/\H' b=ae (.lst ws)/\θ r=ag/\(∃(k:af)(ys:aa D),vs[k]?=ae (V.ref b)/\cN (New H) H' ws ys/\ys.all isI=ag)/\∀o,cN (λc=>H c=aj) (upd H' b (.frz o (.lst ws))) vs r
 |[],r,vs,h,_=>by exact bx h
 |x::xs,r,_,h,.cons rx t=>by
  by_cases hl:∃ys,x=.lst ys
  .obtain⟨ys,rfl⟩:=hl;simp only[aI7] at h;split at h
   .rename_i hp;rw[bf] at hp;cases h;have hpi:=aAw hp.1;obtain⟨b,ws,rfl,e,p,rr⟩:=rx.inv;have hne:∀ob,H' b=ae ob->aFr ob=ag:=λob z=>by rw[e] at z;cases z;rfl
    refine⟨b,ws,p,e,by rw[θ,bf];exact⟨hpi,hp.2⟩,⟨0,ys,rfl,rr,hp.1⟩,λo=>.cons (.frz (.inl ⟨o,aO⟩) ((NZ hne rr hpi).cJ hpi)) ((NZ hne t hp.2).cJ hp.2)⟩
   .exact bx h
  .have h':(if x.pure then (do let r <- aI7 xs;.ok (x::r)) else .bad)=δ r:=by
    cases x<;>first|exact h|exact aT ⟨_,rfl⟩ hl
   split at h'
   .rename_i hp;obtain⟨r',h1,h2⟩:=bG h';cases h2;obtain⟨b,ws,g1,g2,g3,⟨k,ys,g5,g6,g7⟩,g4⟩:=aG6 h1 t;have hne:∀ob,H' b=ae ob->aFr ob=ag:=λob z=>by rw[g2] at z;cases z;rfl
    exact⟨b,ws,g1,g2,by rw[θ,bf];exact⟨hp,g3⟩,⟨k+1,ys,by simpa using g5,g6,g7⟩,λo=>.cons ((aDq hne rx hp).cJ hp) (g4 o)⟩
   .exact bx h'
theorem aM7(ha:PE X a (gE fa ag)):PE X a (gE (aPg fa) ag):=by
 rintro Ψ s σ H Q I ⟨ρ,d,E,h,q⟩;obtain⟨x,h1,h⟩:=bG h;split at h
 .rename_i xs;obtain⟨r,h2,h⟩:=bG h;cases h;refine thn (ha Ψ s σ H (λv H'=>dH H H'/\Rep (New H) H' v (.lst xs)) I ⟨ρ,_,E,h1,λv H' sm rr n=>⟨sm,n rfl⟩⟩) λu s' ⟨v,H',I',rv,sm,rn⟩=>?_
  obtain⟨a,vs,rfl,e,p,rr⟩:=rn.inv;obtain⟨b,ws,g1,g2,g3,⟨k,ys,g5,g6,g7⟩,g4⟩:=aG6 h2 rr;have hab:a≠b:=λz=>by
   subst z;rw[e] at g2;cases g2;obtain⟨d,hd,rd⟩:=g6.at g5;have:=fT.mp g7 d (ef hd);cases d<;>first|(cases this;done)|(cases rd;done)
  obtain⟨o,I2⟩:=XJ I' g2;have s2:dH H (upd H' b (.frz o (.lst ws))):=λc oc hc=>by
   rw[bY (λz=>by subst z;rw[g1] at hc;cases hc)];exact sm c oc hc
  have e2:upd H' b (.frz o (.lst ws)) a=ae (.lst vs):=by rw[bY hab];exact e
  exact⟨.ref a,_,I2,rv,q _ _ s2 (.lst e2 trivial (g4 o).all) λ_=>.lst e2 p (g4 o)⟩
 .exact bx h
end
section
theorem aPi(ha:PE X a (gE fa ra)):PE X a (gE (bPu fa) ag):=PE.imp ha λσ H Q z0=>by
 obtain⟨ρ,d,E,h,q⟩:=z0;obtain⟨x,h1,h⟩:=bG h;split at h
 .rename_i hp;cases h;exact⟨ρ,_,E,h1,λv H' s r _=>q v H' s r λ_=>r.cJ hp⟩
 .exact bx h
end
end
noncomputable def HW(i:af):FX:=λρ=>match ρ.getD i .uD with
 |.lst xs=>(match xs[xs.length-1]? with|some x=>.ok (x,ρ.set i (.lst xs.dropLast))|none=>.bad)
 |_=>.bad
def aOf(f:FX):aa D->Res (aa D×aa D):=λρ=>do
 let p <- f ρ
 let r <- mX [p.1]
 .ok (r.1,p.2)
def aDy(it:aa D->Res (aa D×aa D))(t:D->aa D->Res (aa D))(body:FS):FS:=λρ=>do
 let p <- it ρ
 o_ t body p.1 p.2
section
variable [KFrag]
section
variable {own:af->aq} {a:Expr}
theorem aAx(ho:own i=ag)(hN:X.N[i]?=ae x)(hv:Vis X.env.scope x)(hd:nDb x:=by decide)(hcd:nCd x:=by decide)
 (hbase:hG (.Name x p1) "pop" X.env (eval (.Name x p1) X.env)=eval (.Name x p1) X.env:=by rfl)
 (hline:(apos.endLine==cpos.line)=ag:=by rfl) :
  PE X (.Call (.Attribute (.Name x p1) "pop" apos) [] [] cpos) (gX own (HW i)):=
 PE.imp (aFm mq vn AG aFn (cZ hN hv hd hcd) hbase hline) λσ H Q z0=>by
 obtain⟨ρ,d,ρ',E,h,q⟩:=z0;unfold HW at h;split at h
 .rename_i xs hx;split at h
  .rename_i dx hdx;cases h;obtain⟨a,o,hσ,r,hin,ha,hm⟩:=E.ownAt ho (by rw[hx];intro z;cases z);rw[hx] at r hin;obtain⟨vs,hl,rr⟩:=FZ r;obtain⟨v,hvx,rv⟩:=rr.get hdx;have hlen:=rr.length;refine⟨_,hσ,.inl ⟨rfl,vs,.of hl⟩,a,vs,v,rfl,rfl,hl,by rw[hlen];exact hvx,?_⟩;have hin':θ xs=ag:=hin;have pall:∀y∈xs,y.pure=ag:=λy hy=>iW.mp hin' y hy
   have pdx:d.pure=ag:=pall d (ef hdx);have pe:θ xs.dropLast=ag:=iW.mpr λy hy=>pall y (AH _ hy)
   have er:cN All H vs.dropLast xs.dropLast:=by
    rw[kU,kU,hlen];exact rr.take _
   obtain⟨E2,k2⟩:=E.mut ho hσ rfl (.lst aO trivial (er.upd pe hl rfl)) pe;have r1:=(cN.cons rv .nil).upd (o:=.lst vs.dropLast) (by rw[θ,pdx];rfl) hl rfl;cases r1 with
   |cons r1 _=>exact q _ _ k2 E2 (.set ho) (r1.cJ pdx)
  .exact bx h
 .exact bx h
noncomputable def gIX(K:bn)(own:af->aq)(f:aa D->Res (aa D×aa D)):TI:=λσ H R=>∃ρ items ρ',ES own H σ ρ/\f ρ=.ok (items,ρ')/\∀J H1,KU own σ H σ H1->ES own H1 σ ρ'->ItQ K (λa=>¬Own own σ a) J H1 items->R J H1
theorem aM8(hg:Gl X "range")(hm:X.mg "range"=aj)(ha:PE X a (gX own xa))(hs:bP [a] X.env=[(ah,eval a X.env)]:=by rfl):PI X tg (.Call (.Name "range" p) [a] [] pos) (gIX X.K own (aOf xa)):=
 PI.imp (K1 hg hm (bV ha jH hs) hs) λσ H R z0=>by
 obtain⟨ρ,items,ρ',E,h,q⟩:=z0;obtain⟨p,h1,h⟩:=bG h;obtain⟨r,h2,h⟩:=bG h;cases h;refine⟨ρ,p.1,p.2,E,h1,λv H1 k1 E1 n1 r1=>?_⟩;unfold mX at h2;split at h2
 .rename_i n he;split at h2
  .rename_i hb;cases h2;obtain⟨b1,b2⟩:=FW hb;injection he with he _
   rw[he] at r1;cases r1.inv;exact⟨_,rfl,b1,b2,q _ H1 k1 E1 (.rng 0 _ rfl rfl)⟩
  .exact bx h2
 .exact bx h2
theorem aM9(hp:jI (ax X.prog X.w) X.A X.env X.xe)(hc:X.calm=ag)(hi:PI X tg iter (gIX X.K own it))(ht:TgS own g t)(hg:PG X tg g)(hb:PSs X body (tS own fb))
 (hs:∀x,em iter X.env x=pure x:=by intro _;rfl):PS X (.For tg iter body [] pos) (tS own (aDy it t fb)):=PS.imp (K3 hp hc hi hg hb hs) λD' σ H z0=>by
 obtain⟨ρ,fl,E,h,q⟩:=z0;obtain⟨⟨items,ρ1⟩,h1,h2⟩:=bG h;exact⟨ρ,items,ρ1,E,h1,λJ H1 k1 E1 hJ=>HF ht E1 hJ h2 (q.step k1)⟩
end
end
def bOw(i:af):FE:=λρ=>do
 let d <- cV i ρ
 if d.T9 then .ok d else .bad
def VG(f:FA):FS:=λρ=>do
 let ds <- f ρ
 if ϒ (ds.length<=lim) then .ok (.rt (.tup (.lst ds::ρ))) else .bad
section
variable [KFrag]
section
variable {prog:bp} {w:bj} {A:cj} {E:am->au->Prop} {s:au}
theorem N8(hne:t≠it):∀(n i:af)(s:au)(Q:aa am->au->Prop),s.heap.IsListIter it t i->s.heap.IsList t items->i+n<=items.size->
  (∀h',h'.IsListIter it t (i+n)->fj it s.heap h'->Q ((items.toList.drop i).take n) {s with heap:=h'})->ϑ (ax prog w) A (draw (.ref it) n) Q E s
 |0,i,s,Q,hit,_,_,hQ=>by
  show ϑ _ _ (pure []) Q E s;exact aS (by simpa using hQ s.heap hit (Ar ..))
 |n+1,i,s,Q,hit,ht,hle,hQ=>by
  have hlt:i<items.size:=by lia
  have keep:∀{h h':az},h.IsList t items->fj it h h'->h'.IsList t items:=λ{h h'} ⟨o,e,r⟩ sb=>⟨o,(sb.2 t hne).trans e,r⟩
  show ϑ _ _ (gi (.ref it) >>= _) Q E s;refine ao (yi hit ht (x:=items[i]) (by simp[hlt]) λh₁ hit₁ hs₁=>?_);refine ao (eM (N8 hne n (i+1) _ _ hit₁ (keep ht hs₁) 0x1 λh₂ hit₂ hs₂=>aS ?_));have hd:items.toList.drop i=items[i]::items.toList.drop (i+1):=by simp[jb,hlt]
  have:=hQ h₂ (by rw[show i+(n+1)=i+1+n by lia];exact hit₂) (hs₁.trans hs₂);rw[hd,AI] at this;exact this
theorem RZ(hh:A.handled=aj)(ht:s.heap.IsList t items)
 (hn:targets.length=items.size)(hstar:targets.findIdx? (·.1)=aj)
 (h:∀h',sr s.heap.objs.size s.heap h'->ϑ (ax prog w) A (yg (targets.map (·.2)) items.toList) Q E {s with heap:=h'}) :
  ϑ (ax prog w) A (unpack (.ref t) targets) Q E s:=by
 have hlt:t≠s.heap.objs.size:=by obtain⟨o,ho,_⟩:=ht;exact c_ (bX ho)
 have push:∀o,(s.heap.push o).IsList t items:=λo=>let ⟨o',e,r⟩:=ht;⟨o',cu _ e,r⟩
 unfold unpack;rw[hn,hstar];refine ao (eM ?_);unfold unpackItems;refine ao ?_;unfold notIterableAtAll;refine ao (ju ht.typeIs PySem.F.slot_list_iter.lookup ?_);refine aS ?_;simp only[i8,gs];refine ao (eM (zz ht ?_));refine ao (eM (N8 hlt items.size 0 _ _ ⟨_,dq _ rfl,rfl,rfl⟩ (push _) 0x1 λh₁ hit₁ hs₁=>?_));have hall:List.take items.size (List.drop 0 items.toList)=items.toList:=by
  rw[wo];exact mT 0x2
 rw[hall];rw[aw 0x2];have ht₁:h₁.IsList t items:=let ⟨o,e,r⟩:=push {cls:=.type "list_iterator",data:=.fields #[.ref t,.int 0 0]};⟨o,(hs₁.2 t hlt).trans e,r⟩
 refine ao (eM (yj hh hit₁ ht₁ 0x2 λh₂ he₂=>?_));simp only[Option.isSome_none,i8,gs];exact aS (h h₂ λb o hb e=>he₂ b o hb (hs₁.extBut b o hb (cu _ e)))
end
section
variable {X:Cx} {own:af->aq} {e:Expr} {pos pos':b6} {fe:FE}
noncomputable def aIa(K:bn)(n:af)(t:TGs):TG:=λv σ H Q=>∃a xs,v=.ref a/\SqL K H a xs/\xs.length=n/\t xs σ H Q
theorem nP(hc:X.calm=ag)(h:PGs X es t)
 (hn:(gp es X.env).length=n:=by rfl)(hst:(gp es X.env).findIdx? (·.1)=aj:=by rfl):PG X (.Tuple es k pos) (aIa X.K n t):=by
 intro Ψ s σ H v u Q I r hw;obtain⟨a,xs,e1,hq,hl,hw⟩:=hw;subst e1;cases r;obtain⟨its,rv,ht,hz⟩:=I.list hq;rw[assign_Tuple];refine ao (r_ (RZ (I.ok.hd hc) ht.isList (by simp[hn,<-hl,rv.length]) hst λh' hx=>?_));have I1:Inv X Ψ σ H {s with heap:=h'}:=I.kept λb o e=>hx b o (c_ (bX e)) e
 exact h Ψ _ σ H xs _ Q I1 (by simpa using rv) hw
def RP(own:af->aq)(σ:L2.St)(H:Hp)(ρ:aa D)(a:ak):Prop:=(Own own σ a\/H a=aj)/\∀i b xs,ρ.getD i .uD=.cel b xs->a≠b
theorem RP.same(s:dH H H')(h:RP own σ H' ρ a):RP own σ H ρ a:=⟨h.1.imp id s.free,h.2⟩
theorem aG7(E:ES own H σ ρ)(h:H a=aj):RP own σ H ρ a:=⟨.inr h,λi b xs hb z=>by
 obtain⟨vs,_,e⟩:=m8 E hb;subst z;rw[h] at e;cases e⟩
noncomputable def gAR(own:af->aq)(f:FA):TA:=λσ H Q=>∃ρ ds,ES own H σ ρ/\f ρ=.ok ds/\∀vs H',dH H H'->cN (RP own σ H ρ) H' vs ds->Q vs H'
theorem aMa:PA X [] (gAR own aR):=PA.imp jH λσ H Q z0=>by obtain⟨ρ,ds,E,h,q⟩:=z0;cases h;exact q [] H (dH.refl H) .nil
theorem aG8(ho:own i=ag)(hN:X.N[i]?=ae x)(hv:Vis X.env.scope x)(hes:PA X es (gAR own f))(hd:nDb x:=by decide)(hcd:nCd x:=by decide)(hs:bP (.Name x pos::es) X.env=(ah,eval (.Name x pos) X.env)::bP es X.env:=by rfl):PA X (.Name x pos::es) (gAR own (aC (bOw i) f)):=PA.imp (bV (cZ hN hv hd hcd) hes hs) λσ H Q z0=>by
 obtain⟨ρ,ds,E,h,q⟩:=z0;obtain⟨y,h1,h⟩:=bG h;obtain⟨xs,h2,h⟩:=bG h;cases h;obtain⟨d,h3,h1⟩:=bG h1;split at h1
 .rename_i hc;cases h1;obtain⟨v,hv,r,e⟩:=E.er.var h3;obtain⟨a,o,rfl,r2,hin,_,_,huq⟩:=E.own i v ho hv;rw[e] at hin;have hp:RP own σ H ρ a:=⟨.inl ⟨i,ho,hv⟩,λj b xs hb z=>by
   obtain⟨vs,hj,eb⟩:=m8 E hb;subst z;cases hoj:own j with
   |true=>
    have:=huq j hoj hj;subst this;rw[hb] at e;subst e;cases hc
   |false=>
    obtain⟨w,hw,hr⟩:=E.at_ j (by rw[hb];intro z;cases z);have r3:=hr hoj;rw[hb] at r3;obtain⟨_,rfl,e,p,r⟩:=r3.inv;exact p ⟨i,ho,hv⟩⟩
  exact⟨_,hv,ρ,xs,E,h2,λvs H2 s2 r2=>q _ _ s2 (.cons ((r.y_ hin hp).same s2) r2)⟩
 .exact bx h1
theorem aMb(he:PE X e (gE fe ag))(hes:PA X es (gAR own f))(hs:zSE X e es:=by rfl):PA X (e::es) (gAR own (aC fe f)):=PA.imp (bV he hes hs) λσ H Q z0=>by
 obtain⟨ρ,ds,E,h,q⟩:=z0;obtain⟨y,h1,h⟩:=bG h;obtain⟨xs,h2,h⟩:=bG h;cases h;exact⟨ρ,_,E.er,h1,λv H1 s1 r1 n1=>⟨ρ,xs,E.same s1,h2,λvs H2 s2 r2=>q _ _ (s1.trans s2) (.cons (((n1 rfl).mono λa ha=>aG7 E ha).same s2) (r2.mono λa ha=>ha.same s1))⟩⟩
theorem aDz(h:PA X es (gAR own f))(hx:own rtX=ag:=by rfl):PS X (.Return (ae (.List es pos')) pos) (tS own (VG f)):=PS.imp (DY (TX h)) λD σ H z0=>by
 obtain⟨ρ,fl,E,h,q⟩:=z0;obtain⟨ds,h1,h2⟩:=bG h;split at h2
 .rename_i hl;cases h2;refine⟨ρ,ds,E,h1,λvs H1 s1 r1=>⟨by rw[r1.length];exact nO hl,λp hp=>?_⟩⟩;have s2:dH H1 (upd H1 p (.lst vs)):=dH.upd hp;have hpH:H p=aj:=s1.free hp;exact kRt.new q hx _ σ _ (.same (s1.trans s2)) (E.same (s1.trans s2)) (.lst aO (aG7 E hpH) (r1.same s2))
 .exact bx h2
end
end
noncomputable def v9(f:FA):FS:=λρ=>do
 let ds <- f ρ
 if ϒ (ds.length<=100) then .ok (.rt (.lst ds)) else .bad
section
variable [KFrag]
def kA(own:af->aq)(D:Ends)(σ:L2.St)(H:Hp):Fl->Prop
 |.rt d=>∀v H',(∀a o,H a=ae o->¬Own own σ a->H' a=ae o)->Rep All H' v d->D.rt v H'
 |fl=>kS own D σ H fl
noncomputable def tA(own:af->aq)(f:FS):TS:=λD σ H=>∃ρ fl,ES own H σ ρ/\f ρ=.ok fl/\kA own D σ H fl
noncomputable def spA(f:aa D->Res D)(n:af):Sp:=λvs H Q _=>∃ds d,ds.length=n/\cN All H vs ds/\f ds=.ok d/\∀v H',dH H H'->Rep All H' v d->Q v H'
def YT(P:bp)(w:bj)(K:bn)(mg:Str->av am)(base:az)(k:af)(x:Str)(n:af)(f:aa D->Res D):Prop:=
 ∃(fad:ak)(fd:c6)(ps:aa Str),uO P w K mg base CX0 k fad fd ps (spA f n)/\mg x=ae (.ref fad)/\iq K (.ref fad)=ag/\Binds K fd ps []
section
theorem kA.step(k:KU own σ H σ' H')(h:kA own D' σ H fl):kA own D' σ' H' fl:=by
 cases fl with
 |nx ρ=>exact kS.step (fl:=.nx ρ) k h
 |bk ρ=>exact kS.step (fl:=.bk ρ) k h
 |ct ρ=>exact kS.step (fl:=.ct ρ) k h
 |rt d=>exact λv H2 hk r=>h v H2 (λa o e n=>let ⟨e1,n1⟩:=k a o e n;hk a o e1 n1) r
theorem kA.s(hx:own rtX=ah){fl:Fl}(h:kA own D' σ H fl):kS own D' σ H fl:=by
 cases fl with
 |nx ρ=>exact h
 |bk ρ=>exact h
 |ct ρ=>exact h
 |rt d=>exact kRt.mk hx λv H2 hk r=>h v H2 hk r.all
end
section
variable {own:af->aq} {X:Cx} {st:bi} {rest s1 s2:aa bi} {f g:FS} {c e:Expr} {gc:FT} {pos pos':b6}
theorem bU(h:PS X st (tS own f))(hx:own rtX=ah:=by rfl):PS X st (tA own f):=PS.imp h λD σ H ⟨ρ,fl,es,h,q⟩=>⟨ρ,fl,es,h,q.s hx⟩
theorem CG(h:PS X st (tA own f)):PSs X [st] (tA own f):=mH h
theorem aAy:PSs X [] (tA own kO):=PSs.imp dC λD σ H ⟨ρ,fl,es,h,q⟩=>by cases h;exact⟨ρ,_,es,rfl,q⟩
theorem bR(h1:PS X st (tA own f))(h2:PSs X rest (tA own g)):PSs X (st::rest) (tA own (a_ f g)):=PSs.imp (kJ h1 h2) λD σ H ⟨ρ,fl,es,h,q⟩=>by
 obtain⟨r,h1,h2⟩:=bG h;refine⟨ρ,r,es,h1,?_⟩;cases r with
 |nx ρ'=>exact λσ' H' k E'=>⟨ρ',fl,E',h2,q.step k⟩
 |bk ρ'=>cases h2;exact q
 |ct ρ'=>cases h2;exact q
 |rt d=>cases h2;exact q
theorem aMc(hc:PT X c (gT gc))(ha:PSs X s1 (tA own f))(hb:PSs X s2 (tA own g)):PS X (.If c s1 s2 pos) (tA own (sIf gc f g)):=PS.imp (Y6 hc ha hb) λD σ H ⟨ρ,fl,es,h,q⟩=>by
 obtain⟨k,h1,h2⟩:=bG h;refine⟨ρ,k,es.er,h1,λH' s=>?_⟩;cases k with
 |true=>rw[ar rfl];rw[ar rfl] at h2;exact⟨ρ,fl,es.same s,h2,q.step (.same s)⟩
 |false=>rw[aw 0x2];rw[aw 0x2] at h2;exact⟨ρ,fl,es.same s,h2,q.step (.same s)⟩
theorem CJ(h:PA X es (gA fa r)):PS X (.Return (ae (.List es pos')) pos) (tA own (v9 fa)):=PS.imp (DY (TX h)) λD σ H ⟨ρ,fl,E,h,q⟩=>by
 obtain⟨ds,h1,h2⟩:=bG h;split at h2
 .rename_i hl;cases h2;refine⟨ρ,ds,E.er,h1,λvs H1 s1 r1 _=>⟨by rw[r1.length];exact dh (c9 hl) 0x4,λp hp=>?_⟩⟩;have s2:dH H1 (upd H1 p (.lst vs)):=dH.upd hp;exact q _ _ (λa o e _=>(s1.trans s2) a o e) (.lst aO trivial (r1.same s2))
 .exact bx h2
end
theorem zK{K:bn}{mg:Str->av am}{base:az}{x:Str}{st:bi}{fad:ak}{fd:c6}{N ps:aa Str}{k:af}{f:FS}(F:Fun K x x st fad fd)(hm:mg x=ae (.ref fad))(hb:Binds K fd ps [])(S:cA N ps (aL st))(own:af->aq)(hown:∀i,i<ps.length->own i=ah)(hNl:ps.length<=N.length)
 (hbody:∀(cdv:am) (A:cj) (outer:aa cx) (s:au) (H:Hp) (E:XK),lR k (A.deeper (bS x (aL st) s.heap.objs.size fad cdv))->PSs (nA CX0 P w K mg base N x (aL st) fad cdv A outer s H E).nox (fW st) (tA own f)):YT P w K mg base (k+1) x ps.length (fnS ps.length N.length f):=by
 refine⟨fad,fd,ps,F.ok S (λvs H Q E ⟨ds,d,h1,r,_⟩=>by rw[r.length,h1]) λcdv A outer s H vs Q E hr ⟨ds,d,hl,r,h,q⟩=>⟨_,hbody cdv A outer s H E hr,?_⟩,hm,F.kp,hb⟩;have hst:start N vs=vs.map ae++ck (N.length-ps.length) aj:=by
  show vs.map ae++ck (N.length-vs.length) aj=_;rw[r.length,hl]
 have noown:∀a,¬Own own (start N vs) a:=λa ⟨i,hi,e⟩=>by
  rw[hst] at e;by_cases h:i<ps.length
  .rw[hown i h] at hi;cases hi
  .rw[eJ (by simp[r.length,hl];lia)] at e;rw[hZ] at e;split at e<;>cases e
 obtain⟨fl,h1,h2⟩:=bG h;refine⟨_,fl,HH hst hl r hown noown,h1,?_⟩;have sm:∀{σ':L2.St}{H':Hp},KU own (start N vs) H σ' H'->dH H H':=λk a o e=>(k a o e (noown a)).1
 cases fl with
 |nx ρ'=>cases h2;exact λσ' H' k E'=>q .non H' (sm k) .non
 |rt d'=>cases h2;exact λv H' hk rp=>q v H' (λa o e=>hk a o e (noown a)) rp
 |bk ρ'=>exact bx h2
 |ct ρ'=>exact bx h2
end
noncomputable def aMd:D->aq
 |.str _=>ag
 |.tup _=>ag
 |_=>ah
def nr1(ws:aa D):aq:=θ ws&&(ϒ (ws.length≠2)||aMd (ws.getD 1 .non))
def nrI:D->aq
 |.lst ws=>nr1 ws
 |d=>d.pure
def nrD:D->aq
 |.lst xs=>nr1 xs||(ϒ (xs.length≠2)&&xs.all nrI)
 |_=>ah
noncomputable def aOg(ds:aa D):aq:=ϒ (ds.length=2)&&(match ds.getD 1 .non with|.int _=>ag|_=>ah)
def aMe:D->aq
 |.uD=>ag
 |.dct _=>ag
 |.cel _ ds=>aOg ds
 |.lst ds=>aOg ds
 |_=>ah
def XM(os:aa af)(ρ:aa D)(d:D):aq:=d.pure||(os.isEmpty||(nrD d&&os.all λi=>aMe (ρ.getD i .uD)))
def XN(i:af)(f:FE)(os:aa af):FS:=λρ=>do
 let d <- f ρ
 if XM os ρ d then .ok (.nx (ρ.set i d)) else .bad
def N_(f:FE)(is os:aa af):FS:=λρ=>do
 let d <- f ρ
 match d with
 |.lst xs=>if ϒ (xs.length=is.length)&&XM os ρ (.lst xs) then .ok (.nx (MN is xs ρ)) else .bad
 |_=>.bad
def R0(v:aa D->Res D)(n:af)(fa:FA)(is os:aa af):FS:=N_ (λρ=>do let ds <- fa ρ;mW n v ds) is os
def bNr(f:FE)(os:aa af):FE:=λρ=>do
 let d <- f ρ
 if XM os ρ d then .ok d else .bad
variable [KFrag]
theorem aE0(h:aMd d=ag)(r:Rep All H (.int n) d):cK:=by
 cases d with
 |str t=>cases r.inv
 |tup t=>obtain⟨l,xs,e,_⟩:=r.inv;cases e
 |_=>cases h
theorem VH:∀{vs:aa V}{ds:aa D},cN P H vs ds->ds.length=2->∃x y,vs=[x,y]/\Rep P H y (ds.getD 1 .non)
 |_,_,.cons _ (.cons r2 .nil),_=>⟨_,_,rfl,r2⟩
 |_,_,.nil,h=>by cases h
 |_,_,.cons _ .nil,h=>by cases h
 |_,_,.cons _ (.cons _ (.cons _ _)),h=>by simp at h
section
variable {own:af->aq}
theorem VJ(E:ES own H σ ρ){os:aa af}(ho:∀i,own i=ag->i∈os\/σ.length<=i)(hf:(os.all λi=>aMe (ρ.getD i .uD))=ag)(e:H a=ae (.lst vs))(rv:cN All H vs ws)(hv:ws.length≠2\/aMd (ws.getD 1 .non)=ag):¬Own own σ a:=by
 rintro⟨i,hi,hs⟩;have him:i∈os:=(ho i hi).resolve_right (AJ.mpr (dQ.mp hs).1);have hfi:=fT.mp hf i him;obtain⟨b,o,eb,r,hin,_⟩:=E.own i _ hi hs;cases eb;generalize ρ.getD i .uD=d at hfi r hin;have go:∀{ds:aa D},aOg ds=ag->cN All H vs ds->cK:=λh1 rs=>by
  unfold aOg at h1;rw[bf] at h1;have h2:=c9 h1.1;rcases hv with hv|hv
  .exact hv (by rw[<-rv.length,rs.length,h2])
  .obtain⟨x,y,rfl,r1⟩:=VH rs h2;obtain⟨x',y',e5,r3⟩:=VH rv (by rw[<-rv.length];rfl);cases e5;have h3:=h1.2;split at h3
   .rename_i z;rw[z] at r1;cases r1.inv;exact aE0 hv r3
   .cases h3
 cases d with
 |uD=>exact r.inv
 |dct kvs=>
  cases r with
  |dK e2 _ _ _=>rw[e] at e2;cases e2
  |dT e2 _ _ _=>rw[e] at e2;cases e2
 |cel b ds=>
  obtain⟨xs,e1,e2,_,rs⟩:=r.inv;cases e1;rw[e] at e2;cases e2;exact go hfi rs
 |lst ds=>
  obtain⟨b,xs,e1,e2,_,rs⟩:=r.inv;cases e1;rw[e] at e2;cases e2;exact go hfi rs
 |_=>cases hfi
theorem aAz(E:ES own H σ ρ){os:aa af}(ho:∀i,own i=ag->i∈os\/σ.length<=i)(hf:(os.all λi=>aMe (ρ.getD i .uD))=ag)(h:nr1 ws=ag)(r:Rep All H v (.lst ws)):Rep (λa=>¬Own own σ a) H v (.lst ws):=by
 unfold nr1 at h;rw[bf,dm] at h;obtain⟨a,xs,rfl,e,_,rr⟩:=r.inv;exact .lst e (VJ E ho hf e rr (h.2.imp c9 id)) (cN.cJ rr h.1)
theorem VL(E:ES own H σ ρ){os:aa af}(ho:∀i,own i=ag->i∈os\/σ.length<=i)(hf:(os.all λi=>aMe (ρ.getD i .uD))=ag):∀{vs:aa V}{ds:aa D},ds.all nrI=ag->cN All H vs ds->cN (λa=>¬Own own σ a) H vs ds
 |_,[],_,.nil=>.nil
 |_,d::ds,h,.cons r t=>by
  rw[gj,bf] at h;refine .cons ?_ (VL E ho hf h.2 t);have h1:=h.1;unfold nrI at h1;split at h1
  .exact aAz E ho hf h1 r
  .exact r.cJ h1
theorem u_(E:ES own H σ ρ){os:aa af}(ho:∀i,own i=ag->i∈os\/σ.length<=i){v:V}{d:D}(hn:XM os ρ d=ag)(r:Rep All H v d):Rep (λa=>¬Own own σ a) H v d:=by
 unfold XM at hn;rw[dm,dm,bf] at hn;rcases hn with hn|hn|⟨hn,hf⟩
 .exact r.cJ hn
 .refine r.mono λa _=>?_
  rintro⟨i,hi,hs⟩;rcases ho i hi with h|h
  .cases os with
   |nil=>cases h
   |cons _ _=>cases hn
  .exact AJ.mpr (dQ.mp hs).1 h
 .unfold nrD at hn;split at hn
  .rw[dm,bf] at hn;rcases hn with hn|⟨h2,hn⟩
   .exact aAz E ho hf hn r
   .obtain⟨a,xs,rfl,e,_,rr⟩:=r.inv;exact .lst e (VJ E ho hf e rr (.inl (c9 h2))) (VL E ho hf hn rr)
  .cases hn
end
section
variable {own:af->aq} {X:Cx} {k k' n i:af} {x:Str} {e:Expr} {es fs:aa Expr} {fe:FE} {fa:FA} {r re:aq} {v:aa D->Res D} {p cpos pos pos' pt:b6} {kk:af} {is os:aa af}
theorem HX(ho:own i=ah)(hos:∀i,own i=ag->i∈os\/X.N.length<=i)(hN:X.N.Nodup)(hi:X.N[i]?=ae x)(hx:Loc X.env.scope x)(he:PE X e (gE fe re))(hs:zSw X e x pos' pos:=by rfl)(hf:zFn X x:=by first|exact .inl rfl|exact .inr rfl|assumption) :
  PS X (.Assign [.Name x pos'] e pos) (tS own (XN i fe os)):=λΨ s σ H D I ht=>yK hN hi hx he hs hf Ψ s σ H D I (by
 obtain⟨ρ,fl,E,h,q⟩:=ht;obtain⟨d,h1,h⟩:=bG h;split at h
 .rename_i hc;cases h;refine⟨ρ,d,E.er,h1,λv H1 s1 r1 _=>?_⟩;have r2:=u_ (E.same s1) (λi hi=>(hos i hi).imp id λz=>by rw[I.len];exact z) hc r1;exact q _ H1 (KU.trans (KU.same s1) λa o e n=>⟨e,by rw[lD ho];exact n⟩) ((E.same s1).set ho r2)
 .exact bx h)
theorem HY(ho:∀i∈is,own i=ah)(hos:∀i,own i=ag->i∈os\/X.N.length<=i)(he:PE X e (gE fe re))(hg:PG X (.Tuple fs kk pt) (aIa X.K is.length (gIx is)))
 (hs:nK [.Tuple fs kk pt] e pos.line X.env=pure ah:=by rfl)(hw:nN [.Tuple fs kk pt] e X.env=pure aj:=by rfl)(h1:(gp [.Tuple fs kk pt] X.env).map (·.2)=[ip (.Tuple fs kk pt) X.env]:=by rfl) :
  PS X (.Assign [.Tuple fs kk pt] e pos) (tS own (N_ fe is os)):=λΨ s σ H D I ht=>Y7 he hg hs hw h1 Ψ s σ H D I (by
 obtain⟨ρ,fl,E,h,q⟩:=ht;obtain⟨d,h1,h⟩:=bG h;split at h
 .rename_i xs;split at h
  .rename_i hc;rw[bf] at hc;cases h;have hl':=c9 hc.1;refine⟨ρ,_,E.er,h1,λv H1 s1 r1 _=>?_⟩;have E2:=E.same s1;have r2:=u_ E2 (λi hi=>(hos i hi).imp id λz=>by rw[I.len];exact z) hc.2 r1;obtain⟨a,vs',rfl,sq,rr⟩:=r2.mY;refine⟨a,vs',rfl,sq,by rw[rr.length];exact hl',yX _ _ _ (by rw[rr.length];exact hl') ?_⟩;obtain⟨E3,hO⟩:=ES.sets ho E2 rr;exact q _ H1 (KU.trans (KU.same s1) λa o e n=>⟨e,by rw[hO];exact n⟩) E3
  .exact bx h
 .exact bx h)
theorem zL(R:YT X.prog X.w X.K X.mg X.base k x n v)(hr:lR k' X.A)(hkk:k<=k')(hg0:Gl X x)(ha:PA X (e::es) (gA fa r))(ho:∀i∈is,own i=ah)(hos:∀i,own i=ag->i∈os\/X.N.length<=i)(hg:PG X (.Tuple fs kk pt) (aIa X.K is.length (gIx is)))
 (hdb:nDb x:=by decide)(he:zSE X e es:=by rfl)(hpl:zSP X cpos es:=by rfl)
 (hs:nK [.Tuple fs kk pt] (.Call (.Name x p) (e::es) [] cpos) pos.line X.env=pure ah:=by rfl)(hw:nN [.Tuple fs kk pt] (.Call (.Name x p) (e::es) [] cpos) X.env=pure aj:=by rfl)(h1:(gp [.Tuple fs kk pt] X.env).map (·.2)=[ip (.Tuple fs kk pt) X.env]:=by rfl) :
  PS X (.Assign [.Tuple fs kk pt] (.Call (.Name x p) (e::es) [] cpos) pos) (tS own (R0 v n fa is os)):=by
 obtain⟨fm,fdm,ps,F,hm,hk,hb⟩:=R;intro Ψ s σ H D I ht;refine Y7 (vR F (hr.mono hkk) hg0 hm hk hb .nil aHg ha hdb he hpl) hg hs hw h1 Ψ s σ H D I ?_;obtain⟨ρ,fl,E,h,q⟩:=ht;obtain⟨d,h1,h⟩:=bG h;obtain⟨ds,h1,h2⟩:=bG h1;unfold mW at h2;split at h2
 .rename_i hl;refine⟨ρ,ds,E.er,h1,λvs H1 s1 r1 _=>⟨ds,d,c9 hl,by rw[dg];exact r1,h2,λu H2 s2 ru=>?_⟩⟩;split at h
  .rename_i xs;split at h
   .rename_i hc;rw[bf] at hc;cases h;have hl':=c9 hc.1;have sm:=s1.trans s2;have E2:=E.same sm;have r2:=u_ E2 (λi hi=>(hos i hi).imp id λz=>by rw[I.len];exact z) hc.2 ru;obtain⟨a,vs',rfl,sq,rr⟩:=r2.mY;refine⟨a,vs',rfl,sq,by rw[rr.length];exact hl',yX _ _ _ (by rw[rr.length];exact hl') ?_⟩;obtain⟨E3,hO⟩:=ES.sets ho E2 rr;exact q _ H2 (KU.trans (KU.same sm) λa o e n=>⟨e,by rw[hO];exact n⟩) E3
   .exact bx h
  .exact bx h
 .exact bx h2
theorem aMf{f:FA}(hos:∀i,own i=ag->i∈os\/X.N.length<=i)(he:PE X e (gE fe re))(hes:PA X es (gAO own f))(hs:zSE X e es:=by rfl):PA X (e::es) (gAO own (aC (bNr fe os) f)):=λpos Ψ s σ H Q I z0=>bV he hes hs pos Ψ s σ H Q I (by
 obtain⟨ρ,ds,E,h,q⟩:=z0;obtain⟨x,h1,h⟩:=bG h;obtain⟨xs,h2,h⟩:=bG h;cases h;obtain⟨y,h3,h1⟩:=bG h1;split at h1
 .rename_i hc;cases h1;refine⟨ρ,_,E.er,h3,λv H1 s1 r1 _=>⟨ρ,xs,E.same s1,h2,λvs H2 s2 r2=>q _ _ (s1.trans s2) (.cons ?_ r2)⟩⟩;exact(u_ (E.same s1) (λi hi=>(hos i hi).imp id λz=>by rw[I.len];exact z) hc r1).same s2
 .exact bx h1)
end
end Mi
namespace Mi
open PySem
theorem aB0(o:bd)(f:bw am->bw am):(o.mapFields f).dict=o.dict:=by
 obtain⟨c,d,dt,sl⟩:=o;cases dt<;>rfl
theorem VM(T:ak):(c5 T !=gl)=ag:=by simp
theorem aE1(L:ak):¬((gl==di L)=ag):=by simp[di]
def TrD(h B:az)(e:ak)(c:am)(dd:av ak)(fl:am):Prop:=
 ∃o vs T oT ts,(h.get? e=ae o/\o.cls=c/\o.dict=dd/\o.data=.fields vs)/\(vs[1]?=ae (.ref T)/\B.get? T=aj/\T≠e)/\h.get? T=ae oT/\oT.data=.fields ts/\ts[3]?=ae fl/\(dd≠aj->vs[2]?=ae .none)
def FD(B:az)(l:aa cx)(e:ak)(c:am)(dd:av ak)(fl:am)(h:az):Prop:=B.StaysIn h/\B.get? e=aj/\h.FunFrames B l/\TrD h B e c dd fl
theorem FD.there(x:FD B l e c dd fl h):∃o,h.get? e=ae o/\o.cls=c/\o.dict=dd/\∃vs,o.data=.fields vs:=by
 obtain⟨_,_,_,o,vs,_,_,_,⟨a,b,d,f⟩,_⟩:=x;exact⟨o,a,b,d,vs,f⟩
section
variable {M:Model} {A:cj} {E:am->au->Prop} {s:au} {B:az} {env:cx} {outer l:aa cx} {L e:ak} {oe:bd} {vs:bw am} {head c:am} {dd:av ak} {Q:iw->au->Prop}
theorem H_{h:az}(i:af)(v:am)(ho:h.get? a=ae o)(hd:o.data=.fields ws) :
  ∃h2:az,h2=h.update a (kL (·.setIfInBounds i v))/\(∀b,b≠a->h2.get? b=h.get? b)/\∃o2,h2.get? a=ae o2/\o2.cls=o.cls/\o2.dict=o.dict/\o2.data=.fields (ws.setIfInBounds i v):=
 ⟨_,rfl,λb hb=>km _ _ (Ne.symm hb),_,ia _ ho (wq (k6 hd _)),AK _ _,aB0 _ _,k6 hd _⟩
theorem VN(hfr:A.frames=ae (env::outer))(hl:s.heap.FunFrames B (env::outer))(hf:env.frame=ae L)(he:s.heap.get? e=ae oe)(hB:B.StaysIn s.heap)(hn:B.get? e=aj)(hd:oe.data=.fields vs)(hz:1<vs.size)(h2:oe.dict≠aj->vs[2]?=ae .none)
 (q:∀h',FD B (env::outer) e oe.cls oe.dict (di L) h'->s.heap.UpToSlots h'->Q () {s with heap:=h'}) :
  ϑ M A (do let a <- frameOf env;let pl <- entryPlaceOf L had;let b <- AL head a .none (di L) .none pl;setField (.ref e) 1 b) Q E s:=by
 have nf:e∉(env::outer).filterMap (·.frame):=λz=>by
  obtain⟨_,o,ho,k⟩:=hl.mem z;cases he.symm.trans ho;exact k _ hd
 refine ao (wpAny_frameOf_fun hfr hl hf λh1 so=>ao (wpAny_entryPlaceOf λpl hp=>?_));unfold AL;unfold newFields;refine ao (iu ?_ (hp.sizeOk5 _ _ _ _ _));generalize hon:({cls:=.type "traceback",dict:=aj,data:=.fields ([head,.ref L,.none,di L,.none]++(if pl.isEmpty then ck 6 gl else pl)).toArray}:bd)=on;have e1:h1.get? e=ae oe:=(so.2.1 e nf).trans he;have B1:B.StaysIn h1:=λb o k=>(so.2.1 b λz=>by rw[(hl.mem z).1] at k;cases k).trans (hB b o k)
 have e2:=cu on e1;obtain⟨h3,r3,k3,o3,g3,c3,d3,f3⟩:=H_ 1 (.ref h1.objs.size) e2 hd;have ne:h1.objs.size≠e:=iO (bX e1);have t3:h3.get? h1.objs.size=ae on:=(k3 _ ne).trans (dq h1 (by rw[<-hon];rfl));have keep:∀b o,b≠e->h1.get? b=ae o->h3.get? b=ae o:=λb o hb k=>(k3 b hb).trans (cu _ k)
 have nr:∀b o,s.heap.get? b=ae o->(∀vs,o.data≠.fields vs)->b≠e:=λb o k z w=>by
  rw[w] at k;cases he.symm.trans k;exact z _ hd
 have up:s.heap.UpToSlots h3:=λb o k z=>by
  obtain⟨sl,w⟩:=so.2.2 b o k;exact⟨sl,keep b _ (nr b o k z) w⟩
 refine k9 e2 hd hz ?_;rw[<-r3];refine q h3 ⟨λb o k=>keep b o (λz=>by rw[z,hn] at k;cases k) (B1 b o k),hn,hl.of_keeps λb o k z=>let ⟨sl,w⟩:=up b o k z;⟨_,w,rfl⟩,?_⟩ up;have don:on.data=.fields ([head,.ref L,.none,di L,.none]++(if pl.isEmpty then ck 6 gl else pl)).toArray:=by rw[<-hon]
 exact⟨o3,_,h1.objs.size,on,_,⟨g3,c3,d3,f3⟩,⟨by simp[hz],B1.fresh,ne⟩,t3,don,by simp,λz=>by rw[Array.getElem?_setIfInBounds,aw 0x4];exact h2 z⟩
theorem vA(x:FD B l e c dd fl s.heap)(q:∀h',FD B l e c dd .none h'->s.heap.UpToSlots h'->Q () {s with heap:=h'}):ϑ M A (setFlight (.ref e) aj) Q E s:=by
 obtain⟨k1,k2,k3,o,vs,T,oT,ts,⟨g1,g2,g3,g4⟩,⟨t1,t2,t3⟩,u1,u2,u3,u4⟩:=x;obtain⟨h2,r2,j2,o2,p1,p2,p3,p4⟩:=H_ 3 gl u1 u2;have hz:3<ts.size:=(nh.mp u3).1;have up:∀b o,s.heap.get? b=ae o->(∀vs,o.data≠.fields vs)->h2.get? b=ae o:=λb o k z=>(j2 b λw=>by
  rw[w] at k;cases u1.symm.trans k;exact z _ u2).trans k
 unfold setFlight;refine ao (dj g1 g4 t1 ?_);rw[ar (VM T)];refine k9 u1 u2 hz ?_;show Q () {s with heap:=s.heap.update T (kL (·.setIfInBounds 3 gl))};rw[<-r2];exact q h2 ⟨λb o k=>(j2 b λw=>by rw[w,t2] at k;cases k).trans (k1 b o k),k2,k3.of_keeps λb o k z=>⟨o,up b o k z,rfl⟩,o,vs,T,o2,_,⟨(j2 e (Ne.symm t3)).trans g1,g2,g3,g4⟩,⟨t1,t2,t3⟩,p1,p4,by simp[hz],u4⟩ λb o k z=>⟨o.slots,up b o k z⟩
theorem aB1(hfr:A.frames=ae (env::outer))(hf:env.frame=ae L)(x:FD B (env::outer) e c dd .none s.heap)(q:∀h',FD B (env::outer) e c dd (di L) h'->s.heap.UpToSlots h'->Q () {s with heap:=h'}):ϑ M A (wr (.ref e) env) Q E s:=by
 obtain⟨k1,k2,k3,o,vs,T,oT,ts,⟨g1,g2,g3,g4⟩,⟨t1,t2,t3⟩,u1,u2,u3,u4⟩:=x;obtain⟨h2,r2,j2,o2,p1,p2,p3,p4⟩:=H_ 3 gl u1 u2;have up:∀b o,s.heap.get? b=ae o->(∀vs,o.data≠.fields vs)->h2.get? b=ae o:=λb o k z=>(j2 b λw=>by
  rw[w] at k;cases u1.symm.trans k;exact z _ u2).trans k
 unfold wr;simp only[hf];refine ao (dj g1 g4 t1 ?_);rw[ar (VM T)];refine ao (dj u1 u2 u3 ?_);rw[aw (aE1 L)];refine ao (k9 u1 u2 (nh.mp u3).1 ?_);rw[<-r2];have g1':h2.get? e=ae o:=(j2 e (Ne.symm t3)).trans g1;subst g2 g3;refine VN hfr (k3.of_keeps λb o k z=>⟨o,up b o k z,rfl⟩) hf g1' (λb o k=>(j2 b λw=>by rw[w,t2] at k;cases k).trans (k1 b o k)) k2 g4 (nh.mp t1).1 u4 λh' y z=>q h' y λb o k w=>z b o (up b o k w) w
theorem aE2(hfr:A.frames=ae (env::outer))(hf:env.frame=ae L)(x:FD B (env::outer) e c dd .none s.heap)(q:∀h',FD B outer e c dd .none h'->s.heap.UpToSlots h'->Q () {s with heap:=h'}):ϑ M A (leaving env (.ref e)) Q E s:=by
 unfold leaving;refine ao (aB1 hfr hf x λh1 x1 u1=>vA x1 λh2 x2 u2=>q h2 ⟨x2.1,x2.2.1,x2.2.2.1.2.2,x2.2.2.2⟩ (u1.trans u2))
theorem aE3(hfr:A.frames=ae (env::outer))(hf:env.frame=ae L)(hl:s.heap.FunFrames B (env::outer))(he:s.heap.get? e=ae oe)(hB:B.StaysIn s.heap)(hn:B.get? e=aj)(hd:oe.data=.fields vs)(hv:vs[1]?=ae .none)(h2:oe.dict≠aj->vs[2]?=ae .none)
 (q:∀h',FD B outer e oe.cls oe.dict .none h'->s.heap.UpToSlots h'->Q () {s with heap:=h'}):ϑ M A (leaving env (.ref e)) Q E s:=by
 unfold leaving wr;simp only[hf];refine ao (ao (dj he hd hv ?_));rw[aw 0x4];exact VN hfr hl hf he hB hn hd (nh.mp hv).1 h2 λh1 x1 u1=>vA x1 λh2 x2 u2=>q h2 ⟨x2.1,x2.2.1,x2.2.2.1.2.2,x2.2.2.2⟩ (u1.trans u2)
end
open PySem.W Builtin Builtin.ObjectAttr
noncomputable abbrev vMr:aa am:=[.type "ValueError",.type "Exception",.type "BaseException",.type "object"]
def exC(K:Frag)(C:ak):aq:=match K.lookup C with
 |some o=>(match o.cls,o.data,o.slots.toList with
  |.type "type",.cls k,[_,_,_,_,ae (.builtin n),_]=>(match k.mro with
   |.ref C'::r=>C'==C&&n=="ValueError.__new__"&&!k.hasDel&&k.hasDict&&tailIn K vMr r&&nsOkIn K k.ns
   |_=>ah)
  |_,_,_=>ah)
 |none=>ah
structure ExO(h:az)(C:ak) where
 bm:aa am
 N:ak
 nm:Str
 qn:Str
 bs:aa am
 sn:aa Str
 sub:aa am
 ab:aq
 col:av aq
 dd:av ak
 k0:av am
 k1:av am
 k2:av am
 k3:av am
 k5:av am
 mN:Str->av am
 ob:h.get? C=ae (excClassObj nm qn C N bs bm ag sn sub ab col dd k0 k1 k2 k3 k5 "ValueError.__new__")
 ns:h.Ns N mN
 tl:OwnTail h vMr bm
theorem OD{K:Frag}{h:az}{C:ak}(X:K.In h)(q:exC K C=ag):Nonempty (ExO h C):=by
 unfold exC at q;split at q
 .rename_i o ho;split at q
  .rename_i k k0 k1 k2 k3 n k5 e1 e2 e3;split at q
   .rename_i C' r e4;rw[bf,bf,bf,bf,bf] at q;obtain⟨⟨⟨⟨⟨q1,q2⟩,q3⟩,q4⟩,q5⟩,q6⟩:=q;have q1:=eR.mp q1;have q2:=eR.mp q2;rw[oP] at q3;subst q1 q2;obtain⟨oc,od,dt,⟨sl⟩⟩:=o;dsimp only at e1 e2 e3;subst e1 e2 e3;obtain⟨nm,bs,mro,ns,qn,hd,sn,sub,ab,col,del⟩:=k;dsimp only at e4 q3 q4 q6;subst e4 q3 q4;exact⟨⟨r,ns,nm,qn,bs,sn,sub,ab,col,od,k0,k1,k2,k3,k5,_,X _ _ ho,.of_isNs (isNs_of_in X q6),tail_of_in X q5⟩⟩
   .cases q
  .cases q
 .cases q
section
variable {prog:bp} {w:bj} {A:cj} {E:am->au->Prop} {K:Frag} {C:ak}
theorem call_exc{h:az}{g:bw kP}{d:kQ}{t:af}{os:kT}{f:ak}{us:aa am}{Q:am->au->Prop}(X:K.In h)(q:exC K C=ag)(hi:dn K (.ref C) "__init__"=ae (ae (.ref f)))(hf:typeIn K (.ref f)=ae (.type "function"))(hz:us.length<=aI)
 (hq:ϑ (ax prog w) (A.under (.builtin "type.__call__" ⟨.ref C::us,[]⟩)) (call (.ref f) (.ref (h.objs.size+1)::us)) (λr s'=>r=.none/\Q (.ref (h.objs.size+1)) s') E
   ⟨(h.push {cls:=.type "tuple",data:=.seq us.toArray}).push {cls:=.ref C,data:=.fields #[.ref h.objs.size,.none,.none,.none,.bool ah,.none]},g,d,t,os⟩) :
  ϑ (ax prog w) A (call (.ref C) us) Q E ⟨h,g,d,t,os⟩:=by
 obtain⟨⟨bm,N,nm,qn,bs,sn,sub,ab,col,dd,k0,k1,k2,k3,k5,mN,hC,hN,T⟩⟩:=OD X q;have F:=wt;have f1:=tc_lookup;have f2:=tc_bind (.ref C);have ty:(⟨h,g,d,t,os⟩:au).TypeIs (.ref C) "type":=⟨_,hC,rfl⟩
 have kk:∀b o,h.get? b=ae o->((h.push {cls:=.type "tuple",data:=.seq us.toArray}).push {cls:=.ref C,data:=.fields #[.ref h.objs.size,.none,.none,.none,.bool ah,.none]}).get? b=ae o:=λb o e=>cu _ (cu _ e)
 have X1:=X.keeps kk;have c1:=kk _ _ hC;have hg:((h.push {cls:=.type "tuple",data:=.seq us.toArray}).push {cls:=.ref C,data:=.fields #[.ref h.objs.size,.none,.none,.none,.bool ah,.none]}).get? (h.objs.size+1)=ae {cls:=.ref C,data:=.fields #[.ref h.objs.size,.none,.none,.none,.bool ah,.none]}:=by heap_get
 have own:(c5 C::bm).contains (.ref C)=ag:=by simp
 refine iP (codeAny_of_tree (show ϑ _ _ (callAny (.ref C) _) _ _ _ from ?_))
 repeat (any_goals (first|with_reducible refine jy hC ?_|assumption|wp_step))
 refine⟨rfl,?_⟩;refine codeAny_call_builtin_at (mz _ 0x6) entry_typeCall (wpAny_check_type_call_sub hC ?_)
 repeat (first|with_reducible refine wpAny_madeBy_exc hC ?_|with_reducible refine jy hC ?_|wp_step)
 refine codeAny_call_builtin_code (mz _ F.quiet) (wpAny_check_new_subU F F.hasB T hC ?_);refine codeAny_exc_new_subU F F.hasB F T hC ?_ hz;show ϑ _ _ _ _ _ (⟨(h.push {cls:=.type "tuple",data:=.seq us.toArray}).push {cls:=.ref C,data:=.fields #[.ref h.objs.size,.none,.none,.none,.bool ah,.none]},g,d,t,os⟩:au);unfold kK
 repeat (first|with_reducible refine jy hg ?_|(with_reducible refine AM c1 ?_;rw[own])|wp_step)
 refine(jd X1 hi).at (M:=ax prog w) ?_;refine eM (ao ((bind_fn X1 _ hf).at (ao (fR hq (λr s' hr=>?_) λ_ _ x=>x))));obtain⟨rfl,hQ⟩:=hr
 wp_walk
 exact hQ
theorem aB2{h:az}{g:bw kP}{d:kQ}{t:af}{os:kT}{e:ak}{us:aa am}{oe:bd}{a0:ak}{r1 r2 r3 r4 r5:am}{Q:am->au->Prop}(X:K.In h)(q:exC K C=ag)(he:h.get? e=ae oe)(hc:oe.cls=.ref C)(hd:oe.data=.fields #[.ref a0,r1,r2,r3,r4,r5])
 (hq:Q .none ⟨(h.push {cls:=.type "tuple",data:=.seq us.toArray}).update e (kL (·.setIfInBounds 0 (.ref h.objs.size))),g,d,t,os⟩)(hz:us.length<=aI) :
  ϑ (ax prog w) A (call (.builtin "ValueError.__init__") (.ref e::us)) Q E ⟨h,g,d,t,os⟩:=by
 obtain⟨⟨bm,N,nm,qn,bs,sn,sub,ab,col,dd,k0,k1,k2,k3,k5,mN,hC,hN,T⟩⟩:=OD X q;have F:=wt;obtain⟨oc,od,dt,sl⟩:=oe;dsimp only at hc hd;subst hc hd;refine iP (kH F.init.plain F.initEntry (wpAny_check_init_subU F T hC he rfl ?_));have he1:=cu (h:=h) {cls:=.type "tuple",data:=.seq us.toArray} he
 wp_walk
 exact hq
theorem zM{h:az}{l:aa am}(T:OwnTail h vMr l)(self:am):refuseLoop self "__setattr__" l=pure ():=by
 induction T with
 |base=>exact wu.passes self
 |own _ _ _ _ ih=>rw[wv];exact ih
theorem aIb{h:az}{g:bw kP}{d:kQ}{t:af}{os:kT}{x:ak}{o:bd}{ws:bw am}{name:Str}{v:am}{Q:iw->au->Prop}(X:K.In h)(q:exC K C=ag)(hs:dn K (.ref C) "__setattr__"=ae (ae (.builtin "object.__setattr__")))(hn:dn K (.ref C) name=ae aj)
 (ho:jv K C (.type "object")=ae ag)(hx:h.get? x=ae o)(hc:o.cls=.ref C)(hd:o.dict=aj)(hw:o.data=.fields ws)
 (hq:∀h' tk,h'.Ns1 h.objs.size (λy=>if y=name then ae v else aj)->h'.get? x=ae {o with dict:=ae h.objs.size}->(∀b u,b≠x->h.get? b=ae u->h'.get? b=ae u)->Q () ⟨h',g,d,tk,os⟩) :
  ϑ (ax prog w) A (setAttr (c5 x) name v) Q E (⟨h,g,d,t,os⟩:au):=by
 obtain⟨⟨bm,N,nm,qn,bs,sn,sub,ab,col,dd,k0,k1,k2,k3,k5,mN,hC,hN,T⟩⟩:=OD X q;have SF:=wu;have hpass:=zM T (.ref x);have I:InstAt h x o C aj:=⟨hx,hc,by unfold notCls;rw[hw],by rw[hd];trivial⟩
 refine set_plain X I hs ?_;have sub:ii (ax prog w) h (kK (.ref x) (.type "object")) ag:=I.type.andThen (sj X ho);refine kH SF.slot.plain SF.entry (@check_slot (ax prog w) _ _ ⟨h,g,d,t+1,os⟩ "object.__setattr__" "object" "__setattr__" (.ref x) [.str name t,v] [] _ SF.kind SF.split sub (SF.args (.ref x) (.str name t) v) ?_);have hm:ii (ax prog w) h (mroOf (.ref C)) (.ref C::bm):=((si (part:=aj) hC).andThen .now).andThen .now;show ϑ _ _ (dz.«object.__setattr__» ⟨[.ref x,.str name t,v],[]⟩) _ _ _;rw[osa_eq,refuse_eq];refine ao (ao (I.type.here (s:=⟨h,g,d,t+1,os⟩) (ao (hm.here ?_))));rw[wv,hpass];refine aS (ao (I.type.here (ao ((jd X hn).here (ao (aS ?_))))));show ϑ _ _ (storeInOwnDict (.ref x) (.ref C) (.str name t) name v ah) _ _ (⟨h,g,d,t+1,os⟩:au)
 repeat (first|(with_reducible refine jy hx ?_;rw[hc])|wp_step)
 rw[hd,aw (by simp[typeHasDict])];split
 .rename_i z;cases z
 split
 .rename_i z;rw[hw] at z;cases z
 have hx1:=cu (h:=h) {cls:=.type "dict",data:=.dict #[]} hx;have ne:x≠h.objs.size:=c_ (bX hx);refine ao (wpAny_alloc' (ao (wpAny_update' hx1 (aS ?_))));generalize hh2:((h.push {cls:=.type "dict",data:=.dict #[]}).update x λo=>{cls:=o.cls,dict:=ae h.objs.size,data:=o.data,slots:=o.slots})=h2;have g1:h2.get? h.objs.size=ae {cls:=.type "dict",data:=.dict #[]}:=by
  rw[<-hh2];exact(AN _ _ _ _ ne.symm).trans (AO rfl rfl)
 have g2:h2.get? x=ae {o with dict:=ae h.objs.size}:=by
  rw[<-hh2];refine ia _ hx1 ?_;obtain⟨oc,od,dt,sl⟩:=o;dsimp only at hw;subst hw;rfl
 have g3:∀b u,b≠x->h.get? b=ae u->h2.get? b=ae u:=λb u hb k=>by
  rw[<-hh2];exact(AN _ _ _ _ hb).trans (cu _ k)
 have n1:h2.Ns h.objs.size (λ_=>aj):=⟨_,#[],_,g1,rfl,λe he=>aT he 0x2,λ_=>rfl⟩
 show ϑ _ _ (storeInDict h.objs.size (.str name _) name v) _ _ _;unfold storeInDict;unfold newKeyGuard;refine ao (aS (ao (AQ (B0 n1) λh' hn' hs'=>?_)));obtain⟨od,_,_,g4,g5,g6⟩:=hn'.count (AR name v Within.nil);refine ao (AS g4 (by rw[g5];exact AT (dh g6 (by rw[cz,jr,d4];lia))) ?_)
 wp_walk
 exact hq h' _ hn' ((hs'.2 x ne).trans g2) λb u hb k=>(hs'.2 b (c_ (bX k))).trans (g3 b u hb k)
end
open L2 PySem.SeqAt PySem.Spec PyProof.Rows
def XO0(a C:ak)(h:az):Prop:=∃t,h.get? a=ae {cls:=.ref C,data:=.fields #[.ref t,.none,.none,.none,.bool ah,.none]}
def XO1(a C dx:ak)(h:az):Prop:=∃t,h.get? a=ae {cls:=.ref C,dict:=ae dx,data:=.fields #[.ref t,.none,.none,.none,.bool ah,.none]}
theorem XO0.stay(x:XO0 a C h1)(k:∀o,h1.get? a=ae o->h2.get? a=ae o):XO0 a C h2:=let ⟨t,e⟩:=x;⟨t,k _ e⟩
theorem XO1.stay(x:XO1 a C dx h1)(k:∀o,h1.get? a=ae o->h2.get? a=ae o):XO1 a C dx h2:=let ⟨t,e⟩:=x;⟨t,k _ e⟩
theorem XO.stay(x:XO a C dx h1)(k:∀o,h1.get? a=ae o->h2.get? a=ae o):XO a C dx h2:=let ⟨o,e,r⟩:=x;⟨o,k _ e,r⟩
theorem XD.stay(x:XD dx fs h1)(k:∀o,h1.get? dx=ae o->h2.get? dx=ae o):XD dx fs h2:=let ⟨m,n,r⟩:=x;⟨m,n.at k,r⟩
theorem XO1.xo(x:XO1 a C dx h):XO a C (ae dx) h:=let ⟨t,e⟩:=x;⟨_,e,rfl,rfl,_,rfl⟩
section
theorem aG9(x:XO0 a C h):jN P w H h a (.ext (XO0 a C)):=⟨x,let ⟨_,e⟩:=x;⟨_,e⟩,λ_ _ y k=>y.stay k⟩
theorem aMg(x:XO1 a C dx h):jN P w H h a (.ext (XO1 a C dx)):=⟨x,let ⟨_,e⟩:=x;⟨_,e⟩,λ_ _ y k=>y.stay k⟩
theorem aMh(x:XO a C dx h):jN P w H h a (.ext (XO a C dx)):=⟨x,let ⟨o,e,_⟩:=x;⟨o,e⟩,λ_ _ y k=>y.stay k⟩
theorem aMi(x:XD dx fs h):jN P w H h dx (.ext (XD dx fs)):=⟨x,let ⟨_,⟨o,_,_,e,_⟩,_⟩:=x;⟨o,e⟩,λ_ _ y k=>y.stay k⟩
end
def CX2(P:bp)(w:bj):CXT:=λouter H s E e s'=>∃(a C:ak)(dd:av ak)(H1:Hp)(B:az),e=.ref a/\s'.os=s.os/\gV s'.gens/\FD B outer a (.ref C) dd .none s'.heap/\
 (∀h6:az,B.StaysIn h6->s'.heap.UpToSlots h6->Un (L2.frs outer) [] H H1 s.heap h6/\HOk P w H1 h6)/\H1 a=aj/\s.heap.get? a=aj/\E (.ref C) dd H1
noncomputable def hid(H:Hp)(a:ak):Hp:=λb=>if b=a then aj else H b
theorem zN(h:b≠a):hid H a b=H b:=aw h
theorem VP:hid H a a=aj:=ar rfl
section
variable {P:bp} {w:bj} {K:bn} {mg:Str->av am} {base:az} {N:aa Str} {qual:Str} {scope:el} {f C:ak} {cd:am} {A:cj} {outer:aa cx} {s:au} {H:Hp} {E:XK}
theorem aB3(I:Inv (nA (CX2 P w) P w K mg base N qual scope f cd A outer s H E) Ψ σ H1 s1)(ea:H1 a=ae (.ext (XO1 a C dx)))(hg:s.heap.get? a=aj)(hE:E (.ref C) (ae dx) (hid H1 a)) :
  (nA (CX2 P w) P w K mg base N qual scope f cd A outer s H E).xe (.ref a) s1:=by
 let env:=bS qual scope s.heap.objs.size f cd
 have hfr:L2.frs (env::outer)=s.heap.objs.size::L2.frs outer:=by
  unfold L2.frs;rw[lr];rfl
 have hin:∀v∈(env::outer),∀b,v.frame=ae b->b∈a::L2.frs (env::outer):=λv hv b hb=>cr _ (uk.mpr ⟨v,hv,hb⟩)
 have stk:s1.heap.FunFrames base (env::outer):=I.stack;have sfree:∀b∈L2.frs (env::outer),H1 b=aj:=I.Q6;have u0:Un (L2.frs outer) [] H H1 s.heap s1.heap:=I.base;obtain⟨⟨t,ht⟩,_⟩:=I.hok a _ ea;show ϑ (ax P w) (A.deeper env) (leaving env (.ref a)) (λ_ s''=>CX2 P w outer H s E (.ref a) s'') (λe' s''=>CX2 P w outer H s E e' s'') s1;refine aE3 I.ok.frames rfl (PySem.W.funFrames_hide stk hin) ht (λb o q=>xI _ q) (xL _ 0x2) rfl rfl (λ_=>rfl) λh' x1 x4=>?_
 refine⟨a,C,ae dx,hid H1 a,_,rfl,I.os,I.bare,x1,λh6 st up=>?_,VP,hg,hE⟩;have na:∀b o,s.heap.get? b=ae o->b≠a:=λb o e z=>by rw[z,hg] at e;cases e
 have k:∀b o,s1.heap.get? b=ae o->b≠a->b∉L2.frs (env::outer)->h6.get? b=ae o:=λb o eb h1 hb=>st b o (xE _ eb (by simp only[bt,ja];exact⟨h1,hb⟩))
 have up6:s1.heap.UpToSlots h6:=x4.trans up;have nL:∀b o,s.heap.get? b=ae o->b∉L2.frs outer->b∉L2.frs (env::outer):=λb o eb hb z=>by
  rw[hfr] at z;rcases bt.mp z with z|z
  .exact aT (bX eb) (by rw[z];exact gS _)
  .exact hb z
 have slot:∀b o,s1.heap.get? b=ae o->b∈L2.frs outer->∃sl,h6.get? b=ae {o with slots:=sl}:=λb o eb hb=>by
  obtain⟨_,o',ho',hd⟩:=stk.mem (show b∈L2.frs (env::outer) by rw[hfr];exact cr _ hb);rw[eb] at ho';cases ho';exact up6 b o eb hd
 have nt:∀b u,H1 b=ae u->(∀φ,u≠.ext φ)->b≠a:=λb u e1 e2 z=>by rw[z,ea] at e1;cases e1;exact e2 _ rfl
 refine⟨⟨λb o eb hn hb hx'=>k b o (u0.keep b o eb hn hb hx') (na b o eb) (nL b o eb hb),λb o eb hn hb hx'=>?_,λb o eb hn hx'=>?_,λb o eb hx'=>?_,λb xs q=>?_,λb o u q=>?_,λb ps q=>?_⟩,λb u eb=>?_⟩
 .obtain⟨sl,e1⟩:=u0.slot b o eb hn hb hx';obtain⟨sl',e2⟩:=slot b _ e1 hb;exact⟨sl',e2⟩
 .rw[zN (na b o eb)];exact u0.free b o eb hn hx'
 .obtain⟨o',e1⟩:=u0.there b o eb hx';by_cases hb:b∈L2.frs outer
  .obtain⟨sl,e2⟩:=slot b o' e1 hb;exact⟨_,e2⟩
  .exact⟨o',k b o' e1 (na b o eb) (nL b o eb hb)⟩
 .have e1:=u0.tups b xs q;rw[zN (nt b _ e1 λφ z=>by cases z)];exact e1
 .have e1:=u0.frzs b o u q;rw[zN (nt b _ e1 λφ z=>by cases z)];exact e1
 .obtain⟨m1,e1⟩:=u0.tbls b ps q;exact⟨m1,by rw[zN (nt b _ e1 λφ z=>by cases z)];exact e1⟩
 .have hb:b≠a:=λz=>by rw[z,VP] at eb;cases eb
  rw[zN hb] at eb;refine(I.hok b u eb).stay (λc v hc q=>k c v q (λz=>?_) λz=>?_) (λc q=>?_) λc xs q=>?_
  .rcases hc with hc|hc
   .exact hb (hc▸z)
   .rw[z,ea] at hc;cases hc
  .have:=sfree c z;rcases hc with hc|hc
   .rw[hc,eb] at this;cases this
   .rw[hc] at this;cases this
  .rw[zN (nt c _ q λφ z=>by cases z)];exact q
  .rw[zN (nt c _ q λφ z=>by cases z)];exact q
theorem v_:TY (CX2 P w) (nA (CX2 P w) P w K mg base N qual scope f cd A outer s H E) E:=by
 intro Ψ σ Hm sm e s' I hx;obtain⟨a,C,dd,H1,B,rfl,os',bare',fly,clo,hn,hgone,hE⟩:=hx
 let env:=bS qual scope s.heap.objs.size f cd
 have hfr:L2.frs (env::outer)=s.heap.objs.size::L2.frs outer:=by
  unfold L2.frs;rw[lr];rfl
 have u0:Un (L2.frs outer) [] H Hm s.heap sm.heap:=I.base;show ϑ (ax P w) (A.deeper env) (leaving env (.ref a)) (λ_ s''=>CX2 P w outer H s E (.ref a) s'') (λe' s''=>CX2 P w outer H s E e' s'') s';refine aE2 I.ok.frames rfl fly λh' x1 x4=>?_
 have hgone0:s.heap.get? a=aj:=by
  cases q:s.heap.get? a with
  |none=>rfl
  |some o=>
   obtain⟨o',e1⟩:=u0.there a o q 0x2;rw[hgone] at e1;cases e1
 refine⟨a,C,dd,H1,B,rfl,os'.trans I.os,bare',x1,λh6 st up=>?_,hn,hgone0,hE⟩;obtain⟨u2,hok⟩:=clo h6 st (x4.trans up);have nL:∀b o,s.heap.get? b=ae o->b∉L2.frs outer->b∉L2.frs (env::outer):=λb o eb hb z=>by
  rw[hfr] at z;rcases bt.mp z with z|z
  .exact aT (bX eb) (by rw[z];exact gS _)
  .exact hb z
 refine⟨⟨λb o eb hn hb hx'=>u2.keep b o (u0.keep b o eb hn hb hx') (u0.free b o eb hn hx') (nL b o eb hb) 0x2,λb o eb hn hb hx'=>?_,λb o eb hn hx'=>?_,λb o eb hx'=>?_,λb xs q=>u2.tups b xs (u0.tups b xs q),λb o u q=>u2.frzs b o u (u0.frzs b o u q),λb ps q=>?_⟩,hok⟩
 .obtain⟨sl,e1⟩:=u0.slot b o eb hn hb hx';obtain⟨sl',e2⟩:=u2.slot b _ e1 (u0.free b o eb hn hx') (show b∈L2.frs (env::outer) by rw[hfr];exact cr _ hb) 0x2;exact⟨sl',e2⟩
 .obtain⟨o',e1⟩:=u0.there b o eb hx';exact u2.free b o' e1 (u0.free b o eb hn hx') 0x2
 .obtain⟨o',e1⟩:=u0.there b o eb hx';exact u2.there b o' e1 0x2
 .obtain⟨m1,q1⟩:=u0.tbls b ps q;obtain⟨m2,q2⟩:=u2.tbls b _ q1;exact⟨m1++m2,by rw[<-yb];exact q2⟩
end
structure XI(K:Frag)(C f:ak):Prop where
 cl:exC K C=ag
 init:dn K (.ref C) "__init__"=ae (ae (.ref f))
 fn:isFn K (.ref f)=ag
 kp:keepIn K (.ref C)=ag
 sa:dn K (.ref C) "__setattr__"=ae (ae (.builtin "object.__setattr__"))
 ob:jv K C (.type "object")=ae ag
def n_(C:ak)(fl:aa Str):Sp:=λvs H Q _=>∃(e:ak)(ts:aa Str),vs=.ref e::ts.map V.str/\ts.length=fl.length/\H e=ae (.ext (XO0 e C))/\∀dx,H dx=aj->Q .non (upd (upd H dx (.ext (XD dx (fl.zip ts)))) e (.ext (XO1 e C dx)))
theorem aMj(e:H a=ae o):upd H a o=H:=by
 funext b
 unfold upd;split
 .rename_i z;rw[z,e]
 .rfl
theorem aMk:upd (upd H a o) a o'=upd H a o':=by
 funext b
 unfold upd;split<;>rfl
section
theorem aIc(M:XI X.K C f)(F:uO X.prog X.w X.K X.mg X.base CX0 k f fd ps (n_ C fl))(hr:lR (k+1) X.A)(hb:Binds X.K fd ps [])(I:Inv X Ψ σ H s)(r:Vals (ts.map V.str) us)(hl:ts.length=fl.length)(hz:us.length<=aI)(hex:X.ex=[])
 (h:∀a dx s2,X.s₀.heap.get? a=aj->H a=aj->H dx=aj->dx≠a->Inv X Ψ σ (upd (upd H dx (.ext (XD dx (fl.zip ts)))) a (.ext (XO1 a C dx))) s2->Q (.ref a) s2) :
  ϑ (ax X.prog X.w) X.A (call (.ref C) us) Q X.xe s:=by
 obtain⟨hh,g,d,t,os⟩:=s;have I:Inv X Ψ σ H ⟨hh,g,d,t,os⟩:=I;generalize hot:({cls:=.type "tuple",data:=.seq us.toArray}:bd)=ot;generalize hoe:({cls:=.ref C,data:=.fields #[.ref hh.objs.size,.none,.none,.none,.bool ah,.none]}:bd)=oe;have fa:H (hh.objs.size+1)=aj:=I.hok.fresh (mf _);have I1:Inv X Ψ σ H ⟨hh.push ot,g,d,t,os⟩:=I.kept λb u q=>cu _ q
 have ge:((hh.push ot).push oe).get? (hh.objs.size+1)=ae oe:=AO (by rw[eB]) (by rw[<-hoe];rfl);have I2:Inv X Ψ σ (upd H (hh.objs.size+1) (.ext (XO0 (hh.objs.size+1) C))) ⟨(hh.push ot).push oe,g,d,t,os⟩:=
  I1.laid (λb u q=>cu _ q) (zj (eB _ _)) (aG9 ⟨hh.objs.size,by rw[ge,hoe]⟩)
 have ng:X.s₀.heap.get? (hh.objs.size+1)=aj:=by
  cases z:X.s₀.heap.get? (hh.objs.size+1) with
  |none=>rfl
  |some o=>
   obtain⟨o',e1⟩:=I.base.there _ o z (by rw[hex];simp);exact aT (bX e1) (by show ¬hh.objs.size+1<hh.objs.size;lia)
 have r2:Vals (V.ref (hh.objs.size+1)::ts.map V.str) (c5 (hh.objs.size+1)::us):=.cons rfl r;have sp:n_ C fl (V.ref (hh.objs.size+1)::ts.map V.str) (upd H (hh.objs.size+1) (.ext (XO0 (hh.objs.size+1) C))) (λv H'=>v=.non/\∃dx,H dx=aj/\dx≠hh.objs.size+1/\H'=upd (upd H dx (.ext (XD dx (fl.zip ts)))) (hh.objs.size+1) (.ext (XO1 (hh.objs.size+1) C dx))) (λ_ _ _=>cK):=
  ⟨_,ts,rfl,hl,aO,λdx hd=>⟨rfl,dx,by
   have ne:dx≠hh.objs.size+1:=λz=>by rw[z,aO] at hd;cases hd
   rw[bY ne] at hd;refine⟨hd,ne,?_⟩
   funext b
   unfold upd;split
   .rfl
   .rfl⟩⟩
 have hln:(c5 (hh.objs.size+1)::us++[]).length=ps.length:=by
  rw[dg];have e:=r2.length;rw[F.len _ _ _ _ sp] at e;exact e.symm
 have hb':=hb ⟨(hh.push ot).push oe,g,d,t,os⟩ (c5 (hh.objs.size+1)::us) I2.kIn hln;rw[dg] at hb';refine call_exc I.kIn M.cl M.init (eR.mp M.fn) hz ?_;rw[hot,hoe];refine iP (kf (F.run _ X.stack _ _ ⟨c5 (hh.objs.size+1)::us,[]⟩ (c5 (hh.objs.size+1)::us) _ _ _ (hr.make C us []) (I2.env0.make C us []) hb' r2 sp) λr s' hq=>?_);cases r with
 |error e=>exact hq.elim
 |ok fl=>
  cases fl with
  |ret u=>
   obtain⟨v,H',I3,rv,ev,dx,e1,e2,e3⟩:=I2.after hq;subst ev e3;exact⟨rv,h _ dx s' ng fa e1 e2 I3⟩
  |next=>exact dE hq
  |brk=>exact dE hq
  |cont=>exact dE hq
end
noncomputable def tBase(C:ak)(t:TA):TE:=λσ H Q=>t σ H λvs H1=>∃a vs',vs=.ref a::vs'/\vs'.length<=aI/\H1 a=ae (.ext (XO0 a C))/\Q .non H1
theorem IK(q:exC X.K C=ag)(hg:Gl X x)(hm:X.mg x=ae (.ref M))(hga:jc X.K (.ref M) "__getattribute__"=ae (ae (.builtin "type.__getattribute__")))(hr:la X.K M (.type "type")=ag)
 (hf:lc X.K (.ref M) (.type "type") "__init__"=ae (.val (.builtin "ValueError.__init__")))(ha:PA X (e::es) t)(hdb:nDb x:=by decide)(he:zSE X e es:=by rfl)(hpl:(fg cp (bP es X.env)).any (·.1)=ah:=by rfl)
 (ht:eval (.Call (.Attribute (.Name x np) "__init__" ap) (e::es) [] cp) X.env=(do
   let ov <- eval (.Name x np) X.env
   um ap.atName
   let (f,first) <- lw [ov] (getMethod ov "__init__" pl)
   callWith cp f first (fg cp (bP (e::es) X.env)) (backToKw cp (xS [] X.env))):=by rfl):PE X (.Call (.Attribute (.Name x np) "__init__" ap) (e::es) [] cp) (tBase C t):=by
 intro Ψ s σ H Q I h;refine methodCall_KW (vQ I hg hm ?_ hdb) ht;refine method_cls I.kIn hga (cls_value I.kIn hr hf rfl ?_);refine yy (thn (ha cp Ψ _ σ H _ (I.tok _) h) λus s1 ⟨vs,H1,I1,r1,a,vs',ev,hz,ea,q1⟩=>?_) he hpl;subst ev;obtain⟨us,rfl,r5⟩:∃us2,us=c5 a::us2/\Vals vs' us2:=by
  cases r1 with
  |cons r0 r1=>cases r0;exact⟨_,rfl,r1⟩
 obtain⟨⟨t0,ht0⟩,_⟩:=I1.hok a _ ea;obtain⟨hh,g,d,t,os⟩:=s1;refine aB2 I1.kIn q ht0 rfl rfl ?_ (by rw[<-r5.length];exact hz);generalize hot:({cls:=.type "tuple",data:=.seq us.toArray}:bd)=ot;have I2:Inv X Ψ σ H1 ⟨hh.push ot,g,d,t,os⟩:=I1.kept λb u q=>cu _ q
 have e2:(hh.push ot).get? a=ae _:=cu _ ht0;obtain⟨h3,r3,k3,o3,g3,c3,d3,f3⟩:=H_ 0 (.ref hh.objs.size) e2 rfl;rw[<-r3];have g4:h3.get? a=ae {cls:=.ref C,data:=.fields #[.ref hh.objs.size,.none,.none,.none,.bool ah,.none]}:=by
  rw[r3];exact ia _ e2 rfl
 have I3:Inv X Ψ σ (upd H1 a (.ext (XO0 a C))) ⟨h3,g,d,t,os⟩:=I2.write (by rw[ea];exact True.intro) (.inl rfl) (λb u hb z=>(k3 b hb).trans z) ⟨_,g4⟩ (aG9 ⟨_,g4⟩);rw[aMj ea] at I3;exact⟨.non,H1,I3,rfl,q1⟩
def aIe(C:ak)(f:Str)(ta tv:TE):TS:=λD σ H=>tv σ H λy H1=>ta σ H1 λx H2=>∃(a:ak)(t:Str),x=.ref a/\y=.str t/\H2 a=ae (.ext (XO0 a C))/\∀dx,H2 dx=aj->D.nx σ (upd (upd H2 dx (.ext (XD dx [(f,t)]))) a (.ext (XO1 a C dx)))
theorem IV{ta tv:TE}(M:XI X.K C fi)(hn:dn X.K (.ref C) f=ae aj)(ha:PE X o ta)(hv:PE X value tv)(hs:dy value (ae (.Attribute o f pos')) pos.line X.env=pure ah:=by rfl):PS X (.Assign [.Attribute o f pos'] value pos) (aIe C f ta tv):=by
 intro Ψ s σ H D I h;refine AU (thn (hv Ψ s σ H _ I h) λu s1 ⟨y,H1,I1,ry,q⟩=>thn (ha Ψ s1 σ H1 _ I1 q) λov s2 ⟨x,H2,I2,rx,a,t,ex,ey,ea,q2⟩=>?_) hs;subst ex ey;obtain rfl:ov=c5 a:=rx;obtain⟨tk,rfl⟩:∃tk,u=jz t tk:=ry;obtain⟨⟨t0,ht0⟩,_⟩:=I2.hok a _ ea;obtain⟨hh,g,d,tt,os⟩:=s2;refine aIb I2.kIn M.cl M.sa hn M.ob ht0 rfl rfl rfl λh' tk' n1 g1 k1=>?_
 have ne:hh.objs.size≠a:=iO (bX ht0);have fr:H2 hh.objs.size=aj:=I2.hok.fresh (br _);have hn1:upd H2 a (.ext (XO1 a C hh.objs.size)) hh.objs.size=aj:=by rw[bY ne];exact fr
 have hg1:hh.get? hh.objs.size=aj:=ya (br _);have mu:L2.Mut (H2 a):=by rw[ea];exact True.intro
 have xd:XD hh.objs.size [(f,t)] h':=by
  refine⟨_,n1,λg hg=>?_,λg=>?_⟩
  .by_cases z:g=f
   .simp[z]
   .simp[z] at hg
  .by_cases z:g=f
   .subst z;rw[AV];exact⟨tk,ar rfl⟩
   .rw[fS,df.mpr z];exact aw z
 have I3:Inv X Ψ σ (upd (upd H2 a (.ext (XO1 a C hh.objs.size))) hh.objs.size (.ext (XD hh.objs.size [(f,t)]))) ⟨h',g,d,tk',os⟩:=
  I2.un (aFz (Un.write mu (.inl rfl) (λb u hb z=>k1 b u hb z) ⟨_,g1⟩) hg1 hn1) (aAj (I2.hok.write mu (.inl rfl) (λb u hb z=>k1 b u hb z) ⟨_,g1⟩ (aMg ⟨t0,g1⟩)) hn1 (aMi xd))
 have e:upd (upd H2 a (.ext (XO1 a C hh.objs.size))) hh.objs.size (.ext (XD hh.objs.size [(f,t)]))=upd (upd H2 hh.objs.size (.ext (XD hh.objs.size [(f,t)]))) a (.ext (XO1 a C hh.objs.size)):=by
  funext b
  unfold upd;by_cases h1:b=a
  .have h2:b≠hh.objs.size:=λz=>ne (z.symm.trans h1)
   rw[aw h2,ar h1,ar h1]
  .rw[aw h1,aw h1]
 rw[e] at I3;exact⟨σ,_,I3,q2 hh.objs.size fr⟩
end Mi
namespace Mi
open PySem PySem.Spec
namespace Rv
theorem XQ:l8 (.type "tuple") "__reversed__"=pure aj:=by rw[je,jf];kernel_rfl
theorem XR:l8 (.type "reversed") "__len__"=pure aj:=by rw[je,jf];kernel_rfl
theorem slot_next:jq "reversed" "__next__" "reversed.__next__":=
 .of (owner:= "reversed") (n:= "__next__") (by rw[je,jf];kernel_rfl) 0x6 0x6 0x6
  (by first|exact .inl 0x6|exact .inr 0x6) (by rw[lf];kernel_rfl)
theorem zO:jq "reversed" "__length_hint__" "reversed.__length_hint__":=
 .of (owner:= "reversed") (n:= "__length_hint__") (by rw[je,jf];kernel_rfl) 0x6 0x6 0x6
  (by first|exact .inl 0x6|exact .inr 0x6) (by rw[lf];kernel_rfl)
theorem OJ:jq "reversed" "__iter__" "reversed.__iter__":=
 .of (owner:= "reversed") (n:= "__iter__") (by rw[je,jf];kernel_rfl) 0x6 0x6 0x6
  (by first|exact .inl 0x6|exact .inr 0x6) (by rw[lf];kernel_rfl)
theorem entry_next:mP mS "reversed.__next__"=ae dz.«reversed.__next__»:=wn 0x8
theorem XS:mP mS "reversed.__length_hint__"=ae dz.«reversed.__length_hint__»:=wn 0x8
theorem XX:mP mS "reversed.__iter__"=ae dz.«dict_keyiterator.__iter__»:=
 Ax (id':= "dict_keyiterator.__iter__") 0x8 (by first|rfl|decide +kernel|(unfold String.splitOn;simp +decide [String.splitOnAux])) 0x6 0x8
theorem owner:B2.lookup (String.ofList ['d','e','s','r','e','v','e','r'].reverse)=ae B3:=by kernel_rfl
theorem args_next(a:am):lg "reversed.__next__" ⟨[a],[]⟩:=by
 unfold lg;rw[ww (n:=['_','_','t','x','e','n','_','_']) 0x8 owner];kernel_rfl
theorem aB4(a:am):lg "reversed.__iter__" ⟨[a],[]⟩:=by
 unfold lg;rw[ww (n:=['_','_','r','e','t','i','_','_']) 0x8 owner];kernel_rfl
theorem aB5(a:am):lg "reversed.__length_hint__" ⟨[a],[]⟩:=by
 unfold lg;rw[ww (n:=['_','_','t','n','i','h','_','h','t','g','n','e','l','_','_']) 0x8 owner];kernel_rfl
theorem aB6:jq "reversed" "__init__" "object.__init__":=
 .of (owner:= "object") (n:= "__init__") (by rw[je,jf];kernel_rfl) 0x6 0x6 0x6
  (by first|exact .inl 0x6|exact .inr 0x6) (by rw[lf];kernel_rfl)
theorem called:TypeCalled "reversed" "reversed.__new__" "object.__init__":=
 ⟨by decide +kernel,by decide +kernel,⟨_,_,PySem.F.mro_reversed⟩,PySem.F.made_reversed,by decide +kernel,by rw[lf];kernel_rfl,aB6⟩
noncomputable def obj(t:ak)(i:ai):bd:={cls:=.type "reversed",data:=.fields #[.ref t,di i]}
theorem aB7(t:ak)(items:bw am)(n:af)(dct:av ak)(sl:bw (av am))(hz:(items.size:ai)<2 ^ 62) :
  mI (dz.«reversed.__new__» ⟨[.type "reversed",.ref t],[]⟩) (λ_ R s=>s.heap.get? t=ae {cls:=.type "tuple",dict:=dct,data:=.seq items n,slots:=sl}/\
   ∀tk,R (.ok (.ret (.ref s.heap.objs.size))) {s with heap:=s.heap.push (obj t ((items.size:ai)-1)),toks:=tk}):=
 .of_wp λprog w A R s h=>by
  obtain⟨hp,g,d,tk,os⟩:=s;obtain⟨hl,h⟩:=h;have hT:(Shared.mk hp g d tk os).TypeIs (.ref t) "tuple":=⟨_,hl,rfl⟩
  unfold dz.«reversed.__new__»;refine ao (f_ (newClass_reversed _) ?_)
  try dsimp only
  refine ao (f_ (by first|rfl|kernel_rfl) ?_);refine ao (f_ (by first|rfl|kernel_rfl) ?_)
  try dsimp only
  refine ao (ju hT XQ ?_)
  try dsimp only
  refine ao ?_;refine ao (sA (b:=ah) hT (by rw[lf];kernel_rfl) ?_);refine ni (λhab=>aT hab 0x4) (λ_=>?_);refine ao (ju hT l7.lookup ?_);dsimp only;rw[ar 0x6];refine aS ?_;rw[aw 0x4];refine ao (AW ⟨_,hl,rfl,n,rfl⟩ 0x1 ?_);refine ao (f_ rfl ?_);dsimp only;refine ao ?_;unfold B4;exact iu (aS ⟨_,rfl,h _⟩)
theorem aE4{E:am->au->Prop}{s:au}{t:ak}{items:bw am}{Q:am->au->Prop}(hL:s.heap.IsTuple t items)(hz:(items.size:ai)<2 ^ 62)
 (h:∀tk,Q (.ref s.heap.objs.size) {s with heap:=s.heap.push (obj t ((items.size:ai)-1)),toks:=tk}):ϑ (ax prog w) A (call (.type "reversed") [.ref t]) Q E s:=by
 obtain⟨⟨c,dct,dt,sl⟩,hl,hc,n,hd⟩:=hL;replace hc:c=.type "tuple":=hc;replace hd:dt=.seq items n:=hd;subst hc hd;refine Aw called 0x4 (PySem.F.typeCall_reversed_1 _) (PySem.F.newCall_reversed_1 _) (λobj=>PySem.F.args_object_init_2 obj _) PySem.F.entry_reversed_new (aB7 t items n dct sl hz) ⟨hl,λtk=>⟨⟨_,dq _ rfl,rfl⟩,h tk⟩⟩
def Is(h:az)(a t:ak)(i:ai):Prop:=∃o,h.get? a=ae o/\o.cls=.type "reversed"/\o.data=.fields #[.ref t,di i]
theorem Is.ty{s:au}(x:Is s.heap a t i):s.TypeIs (.ref a) "reversed":=let ⟨o,ho,hc,_⟩:=x;⟨o,ho,hc⟩
theorem Is.at(x:Is h a t i)(e:∀o,h.get? a=ae o->h'.get? a=ae o):Is h' a t i:=let ⟨o,ho,r⟩:=x;⟨o,e o ho,r⟩
section
variable {prog:bp} {w:bj} {A:cj} {E:am->au->Prop} {s:au}
theorem next_item{i:af}{items:bw am}{x:am}{Q:av am->au->Prop}(hit:Is s.heap it t (i:ai))(hl:s.heap.IsTuple t items)(hx:items[i]?=ae x)(hz:(items.size:ai)<2 ^ 62)
 (hQ:∀h' tk,Is h' it t ((i:ai)-1)->fj it s.heap h'->Q (ae x) {s with heap:=h',toks:=tk}):ϑ (ax prog w) A (gi (.ref it)) Q E s:=by
 obtain⟨o,ho,hc,hd⟩:=id hit;have hi:i<items.size:=(nh.mp hx).1;unfold gi;refine ao (iE (jn hit.ty slot_next
  (jo slot_next hit.ty entry_next ?_ (args_next _))))
 unfold dz.«reversed.__next__»;refine ao (f_ rfl ?_)
 try dsimp only
 refine ao (dj ho hd rfl ?_);refine ao (dj ho hd rfl ?_);show ϑ _ _ (if (i:ai)<0 then _ else _) _ _ s;rw[aw 0x1];refine ao (ju hl.typeIs l7.lookup ?_);rw[aw 0x2];refine ao (AX ?_);refine ao (iE (B5 hl 0x1 0x1 (by unfold vc;simp;lia) hx ?_));dsimp only;refine ao (dj ho hd rfl ?_);show ϑ _ _ (setField (.ref it) 1 (di ((i:ai)-1)) >>= _) _ _ _;refine ao (k9 ho hd 0x2 ?_);refine aS ⟨x,rfl,aS (hQ _ _ ?_ (mM ..))⟩;exact⟨_,ia _ ho (wq (k6 hd _)),(AK ..).trans hc,by
  rw[k6 hd];simp⟩
theorem next_end(hh:A.handled=aj)(hit:Is s.heap it t (-1))
 (hQ:∀h',sr it s.heap h'->Q aj {s with heap:=h'}):ϑ (ax prog w) A (gi (.ref it)) Q E s:=by
 obtain⟨o,ho,hc,hd⟩:=id hit;unfold gi;refine ao (iE (jn hit.ty slot_next
  (jo slot_next hit.ty entry_next ?_ (args_next _))))
 unfold dz.«reversed.__next__»;refine ao (f_ rfl ?_)
 try dsimp only
 refine ao (dj ho hd rfl ?_);refine ao (dj ho hd rfl ?_);show ϑ _ _ (if (-1:ai)<0 then _ else _) _ _ s;rw[ar 0x4];refine ao (kM ?_);refine ao ?_;refine ao (k9 ho hd 0x2 ?_);have h1:=ia (kL (·.set! 1 (di (-1)))) ho (wq (k6 hd _));have hd1:(kL (·.set! 1 (di (-1))) o).data=.fields #[.ref t,di (-1)]:=by rw[k6 hd];simp
 refine k9 h1 hd1 0x2 ?_;refine ao ?_;unfold B6;simp only[newExc,newTuple];refine ao ?_;refine ao (iu ?_ (by size_fits));refine ao (f_ (by first|rfl|(simp only[firstArgMember];rfl)) ?_);refine iu ?_ (by size_fits);simp only[raiseNew];refine ao (wpAny_handled ?_)
 first|rw[show A.in1.handled=aj from hh]|rw[hh]
 refine ao (aS (wpAny_throw ?_));refine ao (sA ⟨_,dq _ rfl,rfl⟩ AA ?_);exact aS (hQ _ ((((mM ..).trans (mM ..)).extBut.push _).push _))
theorem O3(hit:Is s.heap it t i)(h:Q (.ref it) s):ϑ (ax prog w) A (ka (.ref it)) Q E s:=by
 refine wpAny_pyIter_slot hit.ty OJ (jo OJ hit.ty XX ?_ (aB4 _));show ϑ _ _ (ret (.ref it)) _ _ s;exact aS ⟨_,rfl,"reversed",_,hit.ty,slot_next.lookup,h⟩
end
theorem walks{prog:bp}(hh:A.handled=aj)(I l:ak)(hne:l≠I)(items:bw am)(hz:(items.size:ai)<2 ^ 62) :
  Walks prog w A I [I,l] [I] items.size (λi v=>items[items.size-1-i]?=ae v) (λi h=>i<=items.size/\Is h I l ((items.size:ai)-1-(i:ai))/\h.IsTuple l items) where
 sub:=λb hb=>by simp at hb;simp[hb]
 frame:=λ_ _ _ x hk=>⟨x.1,x.2.1.at λo e=>hk I 0x2 o e,let ⟨o,e,r⟩:=x.2.2;⟨o,hk l 0x2 o e,r⟩⟩
 item:=λi s Q E hi x hQ=>by
  have e:(items.size:ai)-1-(i:ai)=((items.size-1-i:af):ai):=by lia
  have hit:=x.2.1;rw[e] at hit;have hx:items[items.size-1-i]?=ae (items[items.size-1-i]' 0x1):=sh 0x1;refine next_item hit x.2.2 hx hz λh' tk hit' hs'=>?_
  have e2:((items.size-1-i:af):ai)-1=(items.size:ai)-1-((i+1:af):ai):=by lia
  rw[e2] at hit';exact hQ _ h' tk hx ⟨hi,hit',let ⟨o,eo,r⟩:=x.2.2;⟨o,(hs'.2 l hne).trans eo,r⟩⟩ λb o hb eo=>hs'.extBut b o (λh=>hb (by simp[h])) eo
 done:=λs Q E x hQ=>by
  have e:(items.size:ai)-1-(items.size:ai)=-1:=by lia
  have hit:=x.2.1;rw[e] at hit;exact next_end hh hit λh' he'=>hQ h' s.toks λb o hb eo=>he' b o (λh=>hb (by simp[h])) eo
 self:=λ_ _ _ _ x hQ=>O3 x.2.1 hQ
section
variable {prog:bp} {w:bj} {A:cj} {E:am->au->Prop} {s:au}
theorem hint(hit:Is s.heap I l ((items.size:ai)-1))(hl:s.heap.IsTuple l items)(hz:items.size<=aI)(h:∀b tk,Q b {s with toks:=tk}):ϑ (ax prog w) A (AY (.ref I)) Q E s:=by
 unfold AY;refine ao (ju hit.ty XR ?_);dsimp only;refine ni (λhab=>aT hab 0x6) (λ_=>?_);rw[aw 0x2];refine ao (ju hit.ty zO.lookup ?_);generalize hid:("reversed.__length_hint__" : fF)=id0
 wp_delta
 rw[show splitId id0=ae ("reversed","__length_hint__") from by subst hid;decide +kernel];subst hid;refine ao (sA (T:= "reversed") (b:=ag) hit.ty PySem.F.sub_reversed_self ?_);refine ni (λhab=>aT hab 0x4) (λ_=>?_);refine ni (λhab=>aT hab 0x6) (λ_=>?_);refine ao (kM ?_);refine ao (f_ (zO.bind _) ?_);refine ao (iE (jo zO hit.ty XS ?_ (aB5 _)));obtain⟨o,ho,hc,hd⟩:=id hit;unfold dz.«reversed.__length_hint__»;refine ao (f_ (a:=c5 I) rfl ?_);refine ao (dj ho hd (x:=.ref l) rfl ?_);rw[aw (show ¬((c5 l==gl)=ag) from jS)];rw[d4] at hz;refine ao (AW (items:=items) hl 0x1 ?_);refine ao (f_ (a:=ae (items.size:ai)) rfl ?_);dsimp only;refine ao (dj ho hd (x:=di ((items.size:ai)-1)) rfl ?_);show ϑ _ _ (if (items.size:ai)<(items.size:ai)-1+1 then _ else _) _ _ _;rw[aw 0x1];refine ao (AX (aS ⟨_,rfl,?_⟩));dsimp only;refine ao (f_ (a:=ae ((items.size:ai)-1+1)) rfl ?_);dsimp only;rw[aw (by simp only[B7,oP,Bool.not_eq_false,bf,eD];lia),aw 0x1,aw (by simp only[om,eD,d4];lia)];exact aS (h _ _)
theorem extend(hh:A.handled=aj)(hit:Is s.heap I l ((items.size:ai)-1))(hl:s.heap.IsTuple l items)(hIl:l≠I)(S:ak)(hSr:S≠I)(hSd:S≠l)(res:am)(c₀:af)(hS:s.heap.get? S=ae {cls:=.type "list",data:=.seq #[] c₀})
 (hR:∀h' tk acc' c',(∀b o,b≠S->b≠I->s.heap.get? b=ae o->h'.get? b=ae o)->h'.get? S=ae {cls:=.type "list",dict:=aj,data:=.seq acc' c',slots:=#[]}->oQ (λi v=>items[items.size-1-i]?=ae v) acc' items.size->R (.ok (.ret res)) {s with heap:=h',toks:=tk})(hn:items.size<=aI) :
  ϑ (ax prog w) A.in1 (sC (.ref S) (.ref I) res)
   (λfin s'=>match fin with|.done f=>R (.ok f) s'|.again c'=>c'.quiet=ag/\codeAny (ax prog w) A c' R s') (λe s'=>R (.error e) s') s:=by
 have hz:(items.size:ai)<2 ^ 62:=by rw[d4] at hn;lia
 have W:=walks (prog:=prog) (w:=w) (A:=A.in1) hh I l hIl items hz;have hSf:S∉[I,l]:=by simp only[bt,nj,or_false,ja];exact⟨hSr,hSd⟩
 have st0:∀{h:az},Is h I l ((items.size:ai)-1)->h.IsTuple l items->0<=items.size/\Is h I l ((items.size:ai)-1-((0:af):ai))/\h.IsTuple l items:=λ{h} a b=>⟨gw _,by simpa using a,b⟩
 have key:∀(h:az)(c₁ tk:af),Is h I l ((items.size:ai)-1)->h.IsTuple l items->(∀b o,b≠S->s.heap.get? b=ae o->h.get? b=ae o)->
   h.get? S=ae {cls:=.type "list",data:=.seq #[] c₁}->codeAny (ax prog w) A (.builtin "list.extend.loop" ⟨[.ref S,.ref I,res],[]⟩) R {s with heap:=h,toks:=tk}:=by
  intro h c₁ tk h1 h2 hk hS₁;refine codeAny_extend_loopS W.toS hn S hSf res items.size 0 _ #[] c₁ rfl (gw _) (st0 h1 h2) hS₁ (ItemsOf.nil _) λs' acc' c' hm hS' hacc=>?_
  rw[Moved.eq_with hm];refine hR s'.heap s'.toks acc' c' (λb o hb hbI e=>hm.heap b o (λhmem=>?_) (hk b o hb e)) hS' hacc;rcases bt.mp hmem with e'|hmem
  .exact hb e'
  .exact hbI (fw.mp hmem)
 unfold sC;refine ao (og (T:= "reversed") hit.ty ?_);have h1:AZ (.ref S) (.ref I)=ah:=by simp[AZ,hSr]
 have n1:(io "reversed"==io "list")=ah:=by decide
 have n2:(io "reversed"==io "tuple")=ah:=by decide
 simp only[h1,n1,n2,vh,i8,gs];refine ao (O3 hit ?_);refine ao (eM (hint hit hl hn λb tk=>?_));refine ni (λ_=>?_) (λ_=>aS ⟨A0 A1 _,key _ c₀ _ hit hl (λb o _ e=>e) hS⟩);refine ao (kM ?_);refine ao ?_;show ϑ _ _ (sv S (·.push .none) >>= λ_=>sv S (·.pop)) _ _ _;refine ao (wx hS rfl ?_);have hS₂:=ia (gu (·.push gl)) hS rfl;refine wx (hz:=by seq_fits) hS₂ rfl ?_;have hS₃:=ia (gu (·.pop)) hS₂ rfl;have oth:∀b o,b≠S->s.heap.get? b=ae o->((s.heap.update S (gu (·.push gl))).update S (gu (·.pop))).get? b=ae o:=λb o hb e=>(km _ _ (Ne.symm hb)).trans ((km _ _ (Ne.symm hb)).trans e)
 refine aS ⟨A0 A1 _,key _ _ _ (hit.at λo e=>oth I o (Ne.symm hSr) e) (let ⟨o,e,r⟩:=hl;⟨o,oth l o (Ne.symm hSd) e,r⟩) (λb o hb e=>oth b o hb e) hS₃⟩
theorem init(hh:A.handled=aj)(hit:Is s.heap I l ((items.size:ai)-1))(hl:s.heap.IsTuple l items)(hIl:l≠I)(S:ak)(hSr:S≠I)(hSd:S≠l)(hS:s.heap.get? S=ae {cls:=.type "list",data:=.seq #[]})
 (hR:∀h' tk acc' c',(∀b o,b≠S->b≠I->s.heap.get? b=ae o->h'.get? b=ae o)->h'.get? S=ae {cls:=.type "list",dict:=aj,data:=.seq acc' c',slots:=#[]}->oQ (λi v=>items[items.size-1-i]?=ae v) acc' items.size->R (.ok (.ret .none)) {s with heap:=h',toks:=tk})(hn:items.size<=aI) :
  ϑ (ax prog w) A.in1 (dz.«list.__init__» ⟨[.ref S,.ref I],[]⟩)
   (λfin s'=>match fin with|.done f=>R (.ok f) s'|.again c'=>c'.quiet=ag/\codeAny (ax prog w) A c' R s') (λe s'=>R (.error e) s') s:=by
 show ϑ _ _ (do let old <- A2 (.ref S);B8 (.ref S) (λ_=>#[]);letGo old.toList.reverse;sC (.ref S) (.ref I) .none) _ _ s;refine ao ?_;unfold A2;refine ao (iF hS rfl (aS ?_));show ϑ _ _ (sv S (λ_=>#[]) >>= λ_=>letGo (#[]:bw am).toList.reverse >>= λ_=>sC (.ref S) (.ref I) .none) _ _ s;refine ao (wx hS rfl ?_);have hS₂:=ia (gu (λ_=>(#[]:bw am))) hS rfl;have oth:∀b o,b≠S->s.heap.get? b=ae o->(s.heap.update S (gu (λ_=>(#[]:bw am)))).get? b=ae o:=
  λb o hb e=>(km _ _ (Ne.symm hb)).trans e
 refine ao (wj ?_);refine extend hh (hit.at λo e=>oth I o (Ne.symm hSr) e) (let ⟨o,e,r⟩:=hl;⟨o,oth l o (Ne.symm hSd) e,r⟩) hIl S hSr hSd .none _ hS₂ (λh' tk acc' c' hk hS' hacc=>?_) hn;exact hR h' tk acc' c' (λb o hb hbI e=>hk b o hb hbI (oth b o hb e)) hS' hacc
theorem aB8(hh:A.handled=aj)(hit:Is s.heap I l ((items.size:ai)-1))(hl:s.heap.IsTuple l items)(hIl:l≠I)(hn:items.size<=aI)
 (hQ:∀h' tk acc' c',(∀b o,b≠I->s.heap.get? b=ae o->h'.get? b=ae o)->h'.get? s.heap.objs.size=ae {cls:=.type "list",dict:=aj,data:=.seq acc' c',slots:=#[]}->oQ (λi v=>items[items.size-1-i]?=ae v) acc' items.size->Q (.ref s.heap.objs.size) {s with heap:=h',toks:=tk}) :
  ϑ (ax prog w) A (call (.type "list") [.ref I]) Q E s:=by
 refine AE (Q₁:=λobj s₁=>obj=.ref s.heap.objs.size/\s₁={s with heap:=s.heap.push {cls:=.type "list",data:=.seq #[]}}) PySem.F.called_list (PySem.F.typeCall_list_1 _) PySem.F.entry_list_init
  (code_list_new _ ⟨rfl,rfl⟩) λobj s₁ h₁=>?_
 obtain⟨rfl,rfl⟩:=h₁;have hS:(s.heap.push {cls:=.type "list",data:=.seq #[]}).get? s.heap.objs.size=ae {cls:=.type "list",data:=.seq #[]}:=dq _ rfl;have lt:∀{b:ak}{o:bd},s.heap.get? b=ae o->s.heap.objs.size≠b:=λe=>iO (bX e)
 have l1:s.heap.objs.size≠I:=let ⟨o,e,_⟩:=hit;lt e
 have l2:s.heap.objs.size≠l:=let ⟨o,e,_⟩:=hl;lt e
 refine⟨⟨_,hS,rfl⟩,PySem.F.args_list_init_2 _ _,init (A:=A.in1) hh (hit.at λo e=>cu _ e) (let ⟨o,e,r⟩:=hl;⟨o,cu _ e,r⟩) hIl _ l1 l2 hS (λh' tk acc' c' hk hS' hacc=>?_) hn⟩;exact⟨rfl,hQ h' tk acc' c' (λb o hb e=>hk b o (Ne.symm (lt e)) hb (cu _ e)) hS' hacc⟩
end
end Rv
open L2 PySem.SeqAt PyProof.Rows
def aGa:D->Res D
 |.tup xs=>if θ xs&&ϒ (xs.length<=lim) then .ok (.lst xs.reverse) else .bad
 |_=>.bad
theorem R4:ei "reversed"=ae (.type "reversed"):=0x6
section
variable [KFrag]
theorem cN.rev:∀{vs:aa V}{ds:aa D},cN P H vs ds->cN P H vs.reverse ds.reverse
 |_,_,.nil=>.nil
 |_,_,.cons r t=>by rw[ik,ik];exact t.rev.snoc r
theorem aB9(h:θ ds=ag):θ ds.reverse=ag:=iW.mpr λy hy=>iW.mp h y (List.mem_reverse.mp hy)
theorem aE5(r:Vals xs its)(hl:acc.length=its.length)(h:∀j v,acc[j]?=ae v->its[its.length-1-j]?=ae v):Vals xs.reverse acc:=by
 have e:acc=its.reverse:=by
  refine List.ext_getElem? λj=>?_
  by_cases hj:j<its.length
  .have h1:acc[j]?=ae (acc[j]' 0x1):=cq 0x1;have h2:=h j _ h1;rw[h1,List.getElem?_reverse hj,h2]
  .rw[A3 0x1,A3 (by rw[iL];lia)]
 rw[e];clear e h hl;induction r with
 |nil=>exact .nil
 |cons h t ih=>
  rw[ik,ik];exact ih.append (.cons h .nil)
section
theorem R5(hc:X.calm=ag)(hg:Gl X "list")(hm:X.mg "list"=aj)(hg2:Gl X "reversed")(hm2:X.mg "reversed"=aj)(he:PE X e (gE fe re))(hs:bP [e] X.env=[(ah,eval e X.env)]:=by rfl)
 (hs2:bP [.Call (.Name "reversed" p2) [e] [] pos2] X.env=[(ah,eval (.Call (.Name "reversed" p2) [e] [] pos2) X.env)]:=by rfl) :
  PE X (.Call (.Name "list" p) [.Call (.Name "reversed" p2) [e] [] pos2] [] pos) (gE (b1 aGa fe) ag):=by
 rintro Ψ s σ H Q I ⟨ρ,d,E,h,q⟩;obtain⟨d0,h1,h2⟩:=bG h;unfold aGa at h2;split at h2
 rotate_left
 .exact bx h2
 rename_i ds;split at h2
 rotate_left
 .exact bx h2
 rename_i hb;cases h2;rw[bf] at hb;refine hI (uM I hg hm zE ?_);refine ji ?_ hs2 rfl;rw[hs2];show ϑ _ _ (lu [(ah,eval (.Call (.Name "reversed" p2) [e] [] pos2) X.env)]) _ _ s;refine nX ?_;refine hI (uM I hg2 hm2 R4 ?_);refine ji ?_ hs rfl;rw[hs];show ϑ _ _ (lu [(ah,eval e X.env)]) _ _ s;refine nX (thn (he Ψ s σ H (λv H1=>dH H H1/\Rep All H1 v (.tup ds)) I ⟨ρ,_,E,h1,λv H1 s1 r1 _=>⟨s1,r1⟩⟩) λu s1 ⟨x,H1,I1,ru,sm,rx⟩=>?_);obtain⟨t,xs,rfl,ex,rr⟩:=rx.lC;cases ru;obtain⟨its,rv,ht,hz⟩:=I1.tuple (.of ex);have htt:s1.heap.IsTuple t its.toArray:=ht;refine nV ?_;have hz':its.toArray.size<=aI:=by rw[cy,<-rv.length];exact hz
 refine Rv.aE4 htt (by rw[d4] at hz';lia) λtk=>?_
 refine nV ?_;have hne:t≠s1.heap.objs.size:=let ⟨o,e,_⟩:=htt;c_ (bX e)
 refine Rv.aB8 (I1.ok.hd hc) ⟨_,dq _ rfl,rfl,rfl⟩ (let ⟨o,e,r⟩:=htt;⟨o,cu _ e,r⟩) hne hz' λh' tk' acc c hk hS hacc=>?_
 have hsz:((s1.heap.push (Rv.obj t ((its.toArray.size:ai)-1))).objs.size)=s1.heap.objs.size+1:=eB ..;have hfr:H1 (s1.heap.push (Rv.obj t ((its.toArray.size:ai)-1))).objs.size=aj:=I1.hok.fresh (by rw[hsz];lia);have hlen:acc.toList.length=its.length:=by have:=hacc.1;simpa using this
 have hv:Vals xs.reverse acc.toList:=aE5 rv hlen λj v hj=>by
  have:=hacc.2 j v (by simpa using hj);simpa using this
 have sm2:dH H1 (upd H1 (s1.heap.push (Rv.obj t ((its.toArray.size:ai)-1))).objs.size (.lst xs.reverse)):=dH.upd hfr;refine⟨.ref (s1.heap.push (Rv.obj t ((its.toArray.size:ai)-1))).objs.size,_,I1.laid (a:=(s1.heap.push (Rv.obj t ((its.toArray.size:ai)-1))).objs.size) (o:=.lst xs.reverse) (h':=h') (t':=tk') (λb o e=>hk b o (c_ (bX e)) (cu _ e)) (by rw[hsz];lia) ⟨by rw[iL];exact hz,acc.toList,c,hv,by simpa using hS⟩,rfl,?_⟩;exact q _ _ (sm.trans sm2) (.lst aO trivial (rr.rev.same sm2)) λ_=>.lst aO (sm.free hfr) ((rr.rev.cJ (aB9 hb.1)).same sm2)
end
section
variable {X:Cx} {own:af->aq} {a b:Expr} {pos pos':b6} {fa:FE} {xb:FX}
theorem aIf{o:oI}{f:D->D->Res D}{fr:aq}(ho:OpR X (eu o) (r2 f fr))(ha:PE X a (gE fa ag))(hb:PE X b (gX own xb))(hm:jj o b=ah):PT X (.Compare a [o] [b] pos) (gXT own (xTB (x2R f fa xb))):=
 PT.imp (ZD ho ha hb hm) λσ H Q z0=>by
  obtain⟨ρ,k,ρ',E,h,q⟩:=z0;obtain⟨⟨d,ρ1⟩,h1,h2⟩:=bG h;obtain⟨b,h3,h4⟩:=bG h2;cases h4;refine aQl ⟨ρ,d,_,E,h1,λv H' k1 E1 ns r=>?_⟩;cases aFu h3;cases r.inv;exact⟨_,rfl,q H' k1 E1 ns⟩
def aMl(i:af)(fk fv:FE):TS:=λD' σ H=>∃ρ kd d kvs a,ER H σ ρ/\fv ρ=.ok d/\fk ρ=.ok kd/\σ[i]?=ae (ae (.ref a))/\Rep All H (.ref a) (.dct kvs)/\θ (kvs.map (·.2))=ag/\kvs.length<aI/\wU kvs kd=ag/\d.pure=ag/\
 ∀H1 o,dH H H1->T_ o=ag->Rep All (upd H1 a o) (.ref a) (.dct (putD kvs kd d))->D'.nx σ (upd H1 a o)
theorem aIg{i:af}{x:Str}{p1:b6}{value k:Expr}{fv fk:FE}{rv rk:aq}(hu:X.A.units+20<dL)(hN:X.N[i]?=ae x)(hvi:Vis X.env.scope x)(hk:PE X k (gE fk rk))(hv:PE X value (gE fv rv))
 (hs:dy value (ae (.Subscript (.Name x p1) k pos')) pos.line X.env=pure ah)(hd:nDb x)(hcd:nCd x) :
  PS X (.Assign [.Subscript (.Name x p1) k pos'] value pos) (aMl i fk fv):=by
 rintro Ψ s σ H D' I ⟨ρ,kd,d,kvs,a,E,h0,h1,hσ,r,hin,hg1,hg2,hg3,q⟩;refine vS (thn (hv Ψ s σ H (λv H1=>dH H H1/\Rep All H1 v d) I ⟨ρ,d,E,h0,λv H1 s1 r1 _=>⟨s1,r1⟩⟩) λrr s1 ⟨v,H1,I1,rv1,sm1,rp1⟩=>
  thn (cZ hN hvi hd hcd Ψ s1 σ H1 (λw H2=>w=.ref a/\H2=H1) I1 ⟨_,hσ,rfl,rfl⟩) λu s2 ⟨xx,H2,I2,rx,ex,eH⟩=>
  thn (hk Ψ s2 σ H2 (λw H3=>dH H2 H3/\Rep All H3 w kd) I2 ⟨ρ,kd,by rw[eH];exact E.same sm1,h1,λv H1 s1 r1 _=>⟨s1,r1⟩⟩) λiv s3 ⟨y,H3,I3,ry,sm3,rp3⟩=>?_) hs
 subst ex eH;obtain rfl:u=c5 a:=rx;have sm:=sm1.trans sm3;obtain⟨H4,o4,I4,g,hmo,rp⟩:=aLi I3 (r.same sm) hin rp3 hg2 hg1 (rp1.same sm3) hg3;exact L_ 0x1 I4 g ry rv1 λs4 I5=>⟨σ,_,I5,q _ _ sm hmo rp⟩
theorem aIh{k:D}{kvs:aa (D×D)}(h:wU kvs k=ag)(x:D):cV 1 [x,k]=.ok k:=by
 unfold wU at h;rw[bf] at h;have h:=h.1;cases k<;>first|rfl|cases h
end
end
open PySem.W
noncomputable def noE{α:Type}(f:aa D->Res α):aa D->Res α:=λρ=>match f ρ with|.ok a=>.ok a|_=>.bad
theorem cW(h:f ρ=.ok a):noE f ρ=.ok a:=by unfold noE;rw[h]
theorem uE{f:aa D->Res α}:(∃a,f ρ=.ok a/\noE f ρ=.ok a)\/noE f ρ=.bad:=by
 unfold noE;cases f ρ with
 |ok a=>exact .inl ⟨a,rfl,rfl⟩
 |err c as=>exact .inr rfl
 |bad=>exact .inr rfl
def noT(t:D->aa D->Res (aa D)):D->aa D->Res (aa D):=λx=>noE (t x)
noncomputable def X3:aa D->av (aa Str)
 |[]=>ae []
 |.str t::r=>(X3 r).map (t::·)
 |_=>aj
def iC(c:Str)(fl:aa Str)(fa:FA):FS:=λρ=>do
 let ds <- fa ρ
 match X3 ds with
 |some ts=>if ts.length=fl.length then .err c [.exc c (fl.zip ts)] else .bad
 |none=>.bad
section
variable [KFrag]
theorem IW:∀{ds:aa D}{ts:aa Str}{vs:aa V},X3 ds=ae ts->cN P H vs ds->vs=ts.map V.str
 |[],_,_,h,.nil=>by cases h;rfl
 |d::r,ts,_,h,.cons r1 t=>by
  cases d with
  |str x=>
   unfold X3 at h;obtain⟨ts',h1,rfl⟩:=l9.mp h;cases r1.inv;rw[IW h1 t];rfl
  |_=>cases h
def aCu(own:af->aq)(E:XK)(σ:L2.St)(H:Hp)(c:Str)(as:aa D):Prop:=∃fs C,as=[.exc c fs]/\nsIn KFrag.K bu c=ae (ae (.ref C))/\∀σ' H' dx,KU own σ H σ' H'->XDs H' fs dx->E (.ref C) dx H'
def kZ(own:af->aq)(E:XK)(D:Ends)(σ:L2.St)(H:Hp):Res Fl->Prop
 |.ok fl=>kS own D σ H fl
 |.err c as=>aCu own E σ H c as
 |.bad=>cK
noncomputable def tZ(own:af->aq)(E:XK)(f:FS):TS:=λD σ H=>∃ρ,ES own H σ ρ/\kZ own E D σ H (f ρ)
def I_(E:XK)(H:Hp)(c:Str)(as:aa D):Prop:=∃fs C,as=[.exc c fs]/\nsIn KFrag.K bu c=ae (ae (.ref C))/\∀H' dx,dH H H'->XDs H' fs dx->E (.ref C) dx H'
def kZE(E:XK)(H:Hp)(Q:VK):Res D->Prop
 |.ok d=>kR H d ag Q
 |.err c as=>I_ E H c as
 |.bad=>cK
noncomputable def gZ(E:XK)(f:FE):TE:=λσ H Q=>∃ρ,ER H σ ρ/\kZE E H Q (f ρ)
noncomputable def spZ(f:aa D->Res D)(n:af):Sp:=λvs H Q E=>∃ds,ds.length=n/\cN All H vs ds/\kZE E H Q (f ds)
def m9(P:bp)(w:bj)(K:bn)(mg:Str->av am)(base:az)(k:af)(x:Str)(n:af)(f:aa D->Res D):Prop:=
 ∃(fad:ak)(fd:c6)(ps:aa Str),uO P w K mg base (CX2 P w) k fad fd ps (spZ f n)/\mg x=ae (.ref fad)/\iq K (.ref fad)=ag/\Binds K fd ps []
theorem m9.cal{K:bn}{base:az}{k:af}{x:Str}{n:af}{f:aa D->Res D}(Z:m9 P w K mg base k x n f):vY P w K mg base k x n f:=by
 obtain⟨fad,fd,ps,F,hm,hk,hb⟩:=Z;have go:∀{vs H Q E},spD f n vs H Q E->spZ f n vs H Q (λ_ _ _=>cK):=λ⟨ds,d,h1,r,h,q⟩=>⟨ds,h1,r,by rw[h];exact q⟩
 refine⟨fad,fd,ps,⟨λvs H Q E h=>F.len vs H Q _ (go h),λA outer s H args us vs Q E hr he hb hv h=>kf (F.run A outer s H args us vs Q _ hr he hb hv (go h)) λr s' hq=>?_⟩,hm,hk,hb⟩;cases r with
 |ok fl=>cases fl<;>exact hq
 |error e=>
  obtain⟨_,_,_,_,_,_,_,_,_,_,_,_,z⟩:=hq;exact z.elim
section
variable {own:af->aq} {E:XK} {D':Ends} {σ σ':L2.St} {H H':Hp}
theorem aCu.step(k:KU own σ H σ' H')(h:aCu own E σ H c as):aCu own E σ' H' c as:=let ⟨fs,C,h1,h2,h3⟩:=h;⟨fs,C,h1,h2,λσ2 H2 dx k2 x=>h3 σ2 H2 dx (k.trans k2) x⟩
theorem kZ.step(k:KU own σ H σ' H')(h:kZ own E D' σ H r):kZ own E D' σ' H' r:=by
 cases r with
 |ok fl=>exact kS.step k h
 |err c as=>exact aCu.step k h
 |bad=>exact h
theorem aCu.expr(h:aCu own E σ H c as):I_ E H c as:=let ⟨fs,C,h1,h2,h3⟩:=h;⟨fs,C,h1,h2,λH' dx sm x=>h3 σ H' dx (.same sm) x⟩
end
section
variable {own:af->aq} {E:XK} {X:Cx} {st:bi} {rest s1 s2:aa bi} {f g:FS} {c e:Expr} {gc:FT} {pos pos':b6} {fe:FE}
theorem lK(h:PS X.nox st (tS own f)):PS X st (tZ own E (noE f)):=PS.imp (PS.nox h) λD σ H ⟨ρ,es,k⟩=>by
 rcases uE with ⟨fl,h1,h2⟩|h2
 .rw[h2] at k;exact⟨ρ,fl,es,h1,k⟩
 .rw[h2] at k;exact k.elim
theorem CK:PSs X [] (tZ own E kO):=PSs.imp dC λD σ H ⟨ρ,es,k⟩=>⟨ρ,_,es,rfl,k⟩
theorem jP(h:PS X st (tZ own E f)):PSs X [st] (tZ own E f):=mH h
theorem eY(h1:PS X st (tZ own E f))(h2:PSs X rest (tZ own E g)):PSs X (st::rest) (tZ own E (a_ f g)):=PSs.imp (kJ h1 h2) λD σ H ⟨ρ,es,k⟩=>by
 refine⟨ρ,es,?_⟩;cases hf:f ρ with
 |ok r=>
  cases r with
  |nx ρ'=>
   have e:a_ f g ρ=g ρ':=by unfold a_;rw[hf];rfl
   rw[e] at k;exact λσ' H' ku E'=>⟨ρ',E',k.step ku⟩
  |bk ρ'=>
   have e:a_ f g ρ=.ok (.bk ρ'):=by unfold a_;rw[hf];rfl
   rw[e] at k;exact k
  |ct ρ'=>
   have e:a_ f g ρ=.ok (.ct ρ'):=by unfold a_;rw[hf];rfl
   rw[e] at k;exact k
  |rt d=>
   have e:a_ f g ρ=.ok (.rt d):=by unfold a_;rw[hf];rfl
   rw[e] at k;exact k
 |err c as=>
  have e:a_ f g ρ=.err c as:=by unfold a_;rw[hf];rfl
  rw[e] at k;exact k
 |bad=>
  have e:a_ f g ρ=.bad:=by unfold a_;rw[hf];rfl
  rw[e] at k;exact k
theorem aE6(hc:PT X c (gT gc))(ha:PSs X s1 (tZ own E f))(hb:PSs X s2 (tZ own E g)):PS X (.If c s1 s2 pos) (tZ own E (sIf (noE gc) f g)):=PS.imp (Y6 hc ha hb) λD σ H ⟨ρ,es,k⟩=>by
 rcases uE (f:=gc) with ⟨b,h1,h2⟩|h2
 .have e:sIf (noE gc) f g ρ=if b then f ρ else g ρ:=by unfold sIf;rw[h2];rfl
  rw[e] at k;refine⟨ρ,b,es.er,h1,λH' sm=>?_⟩;cases b with
  |true=>rw[ar rfl];rw[ar rfl] at k;exact⟨ρ,es.same sm,k.step (.same sm)⟩
  |false=>rw[aw 0x2];rw[aw 0x2] at k;exact⟨ρ,es.same sm,k.step (.same sm)⟩
 .have e:sIf (noE gc) f g ρ=.bad:=by unfold sIf;rw[h2];rfl
  rw[e] at k;exact k.elim
theorem aPj(hc:PT X c (gXT own xc))(ha:PSs X s1 (tZ own E f))(hb:PSs X s2 (tZ own E g)):PS X (.If c s1 s2 pos) (tZ own E (aG2 (noE xc) f g)):=PS.imp (Y6 hc ha hb) λD σ H ⟨ρ,es,k⟩=>by
 rcases uE (f:=xc) with ⟨⟨b,ρ1⟩,h1,h2⟩|h2
 .have e:aG2 (noE xc) f g ρ=if b then f ρ1 else g ρ1:=by unfold aG2;rw[h2];rfl
  rw[e] at k;refine⟨ρ,b,ρ1,es,h1,λH' ku E1 ns=>?_⟩;cases b with
  |true=>rw[ar rfl];rw[ar rfl] at k;exact⟨ρ1,E1,k.step ku⟩
  |false=>rw[aw 0x2];rw[aw 0x2] at k;exact⟨ρ1,E1,k.step ku⟩
 .have e:aG2 (noE xc) f g ρ=.bad:=by unfold aG2;rw[h2];rfl
  rw[e] at k;exact k.elim
theorem aPk(ho:own i=o)(hN:X.N.Nodup)(hi:X.N[i]?=ae x)(hx:Loc X.env.scope x)(he:PE X e (gZ E fe))(hs:zSw X e x pos' pos:=by rfl)(hf:zFn X x:=by first|exact .inl rfl|exact .inr rfl|assumption) :
  PS X (.Assign [.Name x pos'] e pos) (tZ own E (b7 o i fe ag)):=PS.imp (yK hN hi hx he hs hf) λD σ H ⟨ρ,es,k⟩=>by
 refine⟨ρ,es.er,?_⟩;cases hfe:fe ρ with
 |ok d=>
  have e:b7 o i fe ag ρ=b7 o i (λ_=>.ok d) ag ρ:=by unfold b7;rw[hfe]
  rw[e] at k;cases hs2:b7 o i (λ_=>.ok d) ag ρ with
  |ok fl=>
   rw[hs2] at k;obtain⟨ρ',d',_,h1,q⟩:=G8 ho ⟨ρ,fl,es,hs2,k⟩;cases h1;exact q
  |err c as=>
   exfalso;unfold b7 at hs2;rw[ε] at hs2;generalize (if o=ag then ag&&inner d else ag||d.pure)=b at hs2;cases b<;>cases hs2
  |bad=>rw[hs2] at k;exact k.elim
 |err c as=>
  have e:b7 o i fe ag ρ=.err c as:=by unfold b7;rw[hfe];rfl
  rw[e] at k;exact aCu.expr k
 |bad=>
  have e:b7 o i fe ag ρ=.bad:=by unfold b7;rw[hfe];rfl
  rw[e] at k;exact k.elim
theorem O4(he:PE X e (gZ E fe))(hs:dy e aj pos.line X.env=pure ah:=by rfl):PS X (.Expr e pos) (tZ own E (oG fe)):=PS.imp (nF he hs) λD σ H ⟨ρ,es,k⟩=>by
 refine⟨ρ,es.er,?_⟩;cases hfe:fe ρ with
 |ok d=>
  have e:oG fe ρ=.ok (.nx ρ):=by unfold oG;rw[hfe];rfl
  rw[e] at k;exact λv H' s r n=>k σ H' (.same s) (es.same s)
 |err c as=>
  have e:oG fe ρ=.err c as:=by unfold oG;rw[hfe];rfl
  rw[e] at k;exact aCu.expr k
 |bad=>
  have e:oG fe ρ=.bad:=by unfold oG;rw[hfe];rfl
  rw[e] at k;exact k.elim
end
section
variable {own:af->aq} {E:XK}
theorem O5{K:bn}{g:TG}{t:D->aa D->Res (aa D)}{body:FS}{D':Ends}{J:It}{items:aa D}{σ:L2.St}{H1:Hp}{ρ:aa D}{rr:Res Fl}(tg:TgS own g t)(es:ES own H1 σ ρ)(hJ:ItQ K (λa=>¬Own own σ a) J H1 items)(hf:o_ (noT t) body items ρ=rr)(q:kZ own E D' σ H1 rr) :
  ∃W:af->af->L2.St->Hp->Prop,(∃m,W 0 m σ H1)/\∀i m σ H,W i m σ H->
   (J.stop i H/\D'.nx σ H)\/(J.go i H/\∃N:L2.St->Hp->Prop,(∀σ' H',N σ' H'->∃m',m'<m/\W (i+1) m' σ' H')/\∀x H',J.yld i H x H'->g x σ H' λσ2 H2=>tZ own E body {D' with nx:=N,ct:=N,bk:=D'.nx} σ2 H2):=by
 refine⟨λi m σ' H'=>m=items.length-i/\i<=items.length/\ItQ K (λa=>¬Own own σ' a) J H' items/\∃ρ',ES own H' σ' ρ'/\o_ (noT t) body (items.drop i) ρ'=rr/\kZ own E D' σ' H' rr,⟨items.length,rfl,gw _,hJ,ρ,es,hf,q⟩,?_⟩;rintro i m σ' H' ⟨rfl,hi,hJ',ρ',E',hf',q'⟩;rcases oy i items.length with hlt|hge
 .refine .inr ?_;have e:items[i]?=ae items[i]:=cq hlt;obtain⟨g1,g2⟩:=hJ'.go e;rw[jb hlt] at hf';rcases uE with ⟨ρ1,h1,h2⟩|h2
  .have hf2:(do let r <- body ρ1;match r with|.nx ρ'=>o_ (noT t) body (items.drop (i+1)) ρ'|.ct ρ'=>o_ (noT t) body (items.drop (i+1)) ρ'|.bk ρ'=>.ok (.nx ρ')|.rt d=>.ok (.rt d):Res Fl)=rr:=by
    rw[<-hf'];show _=(noE (t items[i]) ρ' >>= _);rw[h2];rfl
   refine⟨g1,λσ2 H2=>ItQ K (λa=>¬Own own σ2 a) J H2 items/\∃ρ',ES own H2 σ2 ρ'/\o_ (noT t) body (items.drop (i+1)) ρ'=rr/\kZ own E D' σ2 H2 rr,λσ2 H2 ⟨n1,n2⟩=>⟨items.length-(i+1),by lia,rfl,hlt,n1,n2⟩,λx H2 hy=>?_⟩;obtain⟨sH,rx⟩:=g2 x H2 hy;have ks:KU own σ' H' σ' H2:=λa o e n=>⟨sH a o e,n⟩
   have hJ':=hJ'.ku ks E';have q':=q'.step ks;have E':=E'.same sH;refine tg x items[i] ρ' ρ1 σ' H2 _ E' rx h1 λσ2 E2 hO=>?_
   have k0:KU own σ' H2 σ2 H2:=λa o e n=>⟨e,by rw[hO];exact n⟩
   have hJ2:=hJ'.ku k0 E';have q2:=q'.step k0;refine⟨ρ1,E2,?_⟩;cases hb:body ρ1 with
   |ok r=>
    rw[hb] at hf2;cases r with
    |nx ρ2=>exact λσ3 H3 k3 E3=>⟨hJ2.ku k3 E2,ρ2,E3,hf2,q2.step k3⟩
    |ct ρ2=>exact λσ3 H3 k3 E3=>⟨hJ2.ku k3 E2,ρ2,E3,hf2,q2.step k3⟩
    |bk ρ2=>
     have hf2:δ (Fl.nx ρ2)=rr:=hf2;subst hf2;exact λσ3 H3 k3 E3=>q2 σ3 H3 k3 E3
    |rt d=>
     have hf2:δ (Fl.rt d)=rr:=hf2;subst hf2;exact q2
   |err c as=>
    rw[hb] at hf2;have hf2:Res.err c as=rr:=hf2;subst hf2;exact q2
   |bad=>
    rw[hb] at hf2;have hf2:ψ=rr:=hf2;subst hf2;exact q2
  .have hf2:ψ=rr:=by
    rw[<-hf'];show _=(noE (t items[i]) ρ' >>= _);rw[h2];rfl
   subst hf2;exact q'.elim
 .refine .inl ⟨hJ'.stop hge,?_⟩;rw[kC hge] at hf';have hf':δ (Fl.nx ρ')=rr:=hf';subst hf';exact q' σ' H' (λa o e n=>⟨e,n⟩) E'
end
section
variable {P:bp} {w:bj} {K:bn} {mg:Str->av am} {base:az} {N:aa Str} {qual:Str} {scope:el} {fad C:ak} {cd:am} {A:cj} {outer:aa cx} {s:au} {H:Hp} {E:XK} {own:af->aq} {pos:b6}
theorem X4(hi:PI (nA (CX2 P w) P w K mg base N qual scope fad cd A outer s H E) tg iter (gI K it))(ht:TgS own g t)(hg:PG (nA (CX2 P w) P w K mg base N qual scope fad cd A outer s H E) tg g)(hb:PSs (nA (CX2 P w) P w K mg base N qual scope fad cd A outer s H E) body (tZ own E fb))
 (hs:∀x,em iter (bS qual scope s.heap.objs.size fad cd) x=pure x:=by intro _;rfl):PS (nA (CX2 P w) P w K mg base N qual scope fad cd A outer s H E) (.For tg iter body [] pos) (tZ own E (FP (noE it) (noT t) fb)):=by
 refine PS.imp (K3 A4 rfl hi hg hb hs) λD' σ H1 ⟨ρ,es,k⟩=>?_
 rcases uE (f:=it) with ⟨⟨items,b⟩,h1,h2⟩|h2
 .have e:FP (noE it) (noT t) fb ρ=if b then o_ (noT t) fb items ρ else .bad:=by unfold FP;rw[h2];rfl
  rw[e] at k;cases b with
  |true=>
   rw[ar rfl] at k;refine⟨ρ,items,ag,es.er,h1,λJ H2 s1 _ hJ=>O5 ht (es.same s1) ((hJ rfl).keep (λ_ _ e _=>e) λa ha ho=>?_) rfl (k.step (.same s1))⟩;obtain⟨o,e1,_⟩:=es.live ho;rw[show H1 a=aj from ha] at e1;cases e1
  |false=>rw[aw 0x2] at k;exact k.elim
 .have e:FP (noE it) (noT t) fb ρ=.bad:=by unfold FP;rw[h2];rfl
  rw[e] at k;exact k.elim
theorem aBa(ho:own i=ah)(hN:N[i]?=ae x)(hv:Vis scope x)(ht:TgS own g t)(hg:PG (nA (CX2 P w) P w K mg base N qual scope fad cd A outer s H E) tg g)(hb:PSs (nA (CX2 P w) P w K mg base N qual scope fad cd A outer s H E) body (tZ own E fb))
 (hs:∀z,em (.Name x px) (bS qual scope s.heap.objs.size fad cd) z=pure z:=by intro _;rfl)(hd:nDb x:=by decide)(hcd:nCd x:=by decide):PS (nA (CX2 P w) P w K mg base N qual scope fad cd A outer s H E) (.For tg (.Name x px) body [] pos) (tZ own E (nJ i (noT t) fb)):=by
 refine PS.imp (K3 A4 rfl (aFx hN hv hd hcd) hg hb hs) λD' σ H1 ⟨ρ,es,k⟩=>?_
 cases h1:cV i ρ with
 |ok d=>
  cases h2:sZ d with
  |ok items=>
   have e:nJ i (noT t) fb ρ=o_ (noT t) fb items ρ:=by unfold nJ;rw[h1];show(sZ d >>= _)=_;rw[h2];rfl
   rw[e] at k;obtain⟨v,hv,rv,e⟩:=es.er.var h1;have hne:ρ.getD i .uD≠.uD:=λz=>by
    rw[z] at e;subst e;exact Rep.uD rv
   obtain⟨w',hw,hr⟩:=es.at_ i hne;rw[hv] at hw;cases hw;have r2:=hr ho;rw[e] at r2;exact⟨v,d,items,hv,rv,h2,λJ hJ=>O5 ht es (hJ _ r2) rfl k⟩
  |err c as=>cases d<;>cases h2
  |bad=>
   have e:nJ i (noT t) fb ρ=.bad:=by unfold nJ;rw[h1];show(sZ d >>= _)=_;rw[h2];rfl
   rw[e] at k;exact k.elim
 |err c as=>
  unfold cV at h1;split at h1<;>cases h1
 |bad=>
  have e:nJ i (noT t) fb ρ=.bad:=by unfold nJ;rw[h1];rfl
  rw[e] at k;exact k.elim
theorem wA(R:m9 P w K mg base k x n v)(hr:lR k' (A.deeper (bS qual scope s.heap.objs.size fad cd)))(hkk:k<=k')(hg:Gl (nA (CX2 P w) P w K mg base N qual scope fad cd A outer s H E) x)(ha:PA (nA (CX2 P w) P w K mg base N qual scope fad cd A outer s H E) (e::es) (gA fa r))
 (hdb:nDb x:=by decide)(he:bP (e::es) (bS qual scope s.heap.objs.size fad cd)=(ah,eval e (bS qual scope s.heap.objs.size fad cd))::bP es (bS qual scope s.heap.objs.size fad cd):=by rfl)(hpl:(fg cpos (bP es (bS qual scope s.heap.objs.size fad cd))).any (·.1)=ah:=by rfl) :
  PE (nA (CX2 P w) P w K mg base N qual scope fad cd A outer s H E) (.Call (.Name x p) (e::es) [] cpos) (gZ E (aX (mW n v) (noE fa))):=by
 obtain⟨fm,fdm,ps,F,hm,hk,hb⟩:=R;refine PE.imp (vR F (hr.mono hkk) hg hm hk hb .nil v_ ha hdb he hpl) λσ H1 Q ⟨ρ,er,k⟩=>?_
 rcases uE with ⟨ds,h1,h2⟩|h2
 .have e:aX (mW n v) (noE fa) ρ=mW n v ds:=by unfold aX;rw[h2];rfl
  rw[e] at k;unfold mW at k;split at k
  .rename_i hl;refine⟨ρ,ds,er,h1,λvs H' sm rs _=>⟨ds,c9 hl,by rw[dg];exact rs,?_⟩⟩;cases hv:v ds with
   |ok d=>rw[hv] at k;exact kR.imp k sm id
   |err c as=>
    rw[hv] at k;obtain⟨fs,C,e1,e2,e3⟩:=k;exact⟨fs,C,e1,e2,λH2 dx s2 x=>e3 H2 dx (sm.trans s2) x⟩
   |bad=>rw[hv] at k;exact k
  .exact k.elim
 .have e:aX (mW n v) (noE fa) ρ=.bad:=by unfold aX;rw[h2];rfl
  rw[e] at k;exact k.elim
end
theorem zP{K:bn}{mg:Str->av am}{base:az}{x:Str}{st:bi}{fad:ak}{fd:c6}{N ps:aa Str}{k:af}{f:FS}(F:Fun K x x st fad fd)(hm:mg x=ae (.ref fad))(hb:Binds K fd ps [])(S:cA N ps (aL st))(own:af->aq)(hown:∀i,i<ps.length->own i=ah)(hNl:ps.length<=N.length)
 (hbody:∀(cdv:am) (A:cj) (outer:aa cx) (s:au) (H:Hp) (E:XK),lR k (A.deeper (bS x (aL st) s.heap.objs.size fad cdv))->PSs (nA (CX2 P w) P w K mg base N x (aL st) fad cdv A outer s H E) (fW st) (tZ own E f))(hx:own rtX=ah:=by rfl):m9 P w K mg base (k+1) x ps.length (fnS ps.length N.length f):=by
 refine⟨fad,fd,ps,?_,hm,F.kp,hb⟩;obtain⟨oc,od,kV,doc,pm,an,cdv,ct,osl,rfl,lk,hcd⟩:=F.ex;refine aH3 lk hcd S (λvs H Q E ⟨ds,h1,r,_⟩=>by rw[r.length,h1]) λA outer s H vs Q E hr ⟨ds,hl,r,h⟩=>?_
 refine⟨_,hbody cdv A outer s H E hr,?_⟩;have hst:start N vs=vs.map ae++ck (N.length-ps.length) aj:=by
  show vs.map ae++ck (N.length-vs.length) aj=_;rw[r.length,hl]
 have noown:∀a,¬Own own (start N vs) a:=λa ⟨i,hi,e⟩=>by
  rw[hst] at e;by_cases h:i<ps.length
  .rw[hown i h] at hi;cases hi
  .rw[eJ (by simp[r.length,hl];lia)] at e;rw[hZ] at e;split at e<;>cases e
 cases hv:fnS ps.length N.length f ds with
 |ok d=>
  rw[hv] at h;obtain⟨ρ,fl,es,h1,q⟩:=aA8 (E:=E) hx hown ⟨ds,d,hl,r,hv,h⟩;exact⟨ρ,es,by rw[h1];exact q⟩
 |err c as=>
  rw[hv] at h;refine⟨_,HH hst hl r hown noown,?_⟩;cases hf:f (ds++ck (N.length-ps.length) .uD) with
  |ok fl=>
   exfalso;unfold fnS at hv;rw[hf] at hv;cases fl<;>cases hv
  |err c' as'=>
   unfold fnS at hv;rw[hf] at hv;cases hv;obtain⟨fs,C,e1,e2,e3⟩:=h;exact⟨fs,C,e1,e2,λσ' H' dx kk x=>e3 H' dx (λa o e=>(kk a o e (noown a)).1) x⟩
  |bad=>
   exfalso;unfold fnS at hv;rw[hf] at hv;cases hv
 |bad=>rw[hv] at h;exact h.elim
end
open Builtin Builtin.ObjectAttr
def aOh(c:Str)(fl:aa Str)(fa:FA):FE:=λρ=>do
 let ds <- fa ρ
 match X3 ds with
 |some ts=>if ts.length=fl.length then .ok (.exc c (fl.zip ts)) else .bad
 |none=>.bad
noncomputable def aCv(tbl:aa (Str×aq))(i:af):FE:=λρ=>match ρ.getD i .uD with
 |.exc c _=>(match tbl.lookup c with|some b=>.ok (.bl b)|none=>.bad)
 |_=>.bad
noncomputable def R6(cs:aa Str)(f:Str)(i:af):FE:=λρ=>match ρ.getD i .uD with
 |.exc c fs=>if cs.contains c then (match fs.lookup f with|some t=>.ok (.str t)|none=>.bad) else .bad
 |_=>.bad
def aOi(v:aa D->Res D)(n:af)(fa:FA)(cs:aa Str)(ic ie:af):FS:=λρ=>do
 let ds <- fa ρ
 match mW n v ds with
 |.err c [.exc c' fs]=>if c'==c&&cs.contains c&&ϒ (ie<ρ.length) then .ok (.nx (((ρ.set ie (.exc c fs)).set ic (.exc c fs)).set ie .uD)) else .bad
 |_=>.bad
def aSa(X:Cx)(C:ak)(fl:aa Str)(t:TA):TE:=λσ H Q=>t σ H λvs H1=>∃ts:aa Str,vs=ts.map V.str/\ts.length=fl.length/\∀a dx,X.s₀.heap.get? a=aj->H1 a=aj->H1 dx=aj->dx≠a->Q (.ref a) (upd (upd H1 dx (.ext (XD dx (fl.zip ts)))) a (.ext (XO1 a C dx)))
section
variable {X:Cx} {C f:ak}
theorem aGb(M:XI X.K C f)(F:uO X.prog X.w X.K X.mg X.base CX0 k f fd ps (n_ C fl))(hr:lR (k+1) X.A)(hb:Binds X.K fd ps [])(hz:fl.length<=aI)(hex:X.ex=[])(hg:Gl X x)(hm:X.mg x=ae (.ref C))(ha:PA X (e::es) t)
 (hdb:nDb x:=by decide)(he:zSE X e es:=by rfl)(hpl:zSP X pos es:=by rfl):PE X (.Call (.Name x p) (e::es) [] pos) (aSa X C fl t):=by
 intro Ψ s σ H Q I h;refine hI (vQ I hg hm ?_ hdb);refine yu I.ok.mod.kin M.kp (thn (ha pos Ψ s σ H _ I h) λus s1 ⟨vs,H1,I1,r,ts,ev,hl,q⟩=>⟨I1.kIn,?_⟩) he hpl;subst ev;exact aIc M F hr hb I1 r hl (show us.length<=aI from by rw[<-r.length,aE,hl];exact hz) hex λa dx s2 g1 g2 g3 g4 I2=>⟨.ref a,_,I2,rfl,q a dx g1 g2 g3 g4⟩
def aIi(X:Cx)(te:TE):TS:=λ_ σ H=>te σ H λv H1=>∃a C dx,v=.ref a/\H1 a=ae (.ext (XO1 a C dx))/\exC X.K C=ag/\∀Ψ s,Inv X Ψ σ H1 s->X.xe (.ref a) s
theorem aBb(hc:X.calm=ag)(he:PE X e te):PS X (.Raise (ae e) aj pos) (aIi X te):=by
 intro Ψ s σ H D I h;have hh:=I.ok.hd hc;show ϑ _ _ (exec (.Raise (ae e) aj pos) X.env) _ _ _;rw[arm_exec_Raise];refine ao (r_ (show _ from ?_));simp only[evalOpt,Option.map];unfold raiseStmt;refine ao (ao (fR (he Ψ s σ H _ I h) (λu s1 ⟨v,H1,I1,rv,a,C,dx,ev,ea,qC,q⟩=>ao (r_ (aS ?_))) λ_ _ x=>x));subst ev;obtain rfl:u=c5 a:=rv;obtain⟨⟨t0,ht⟩,_⟩:=I1.hok a _ ea;have out:=q _ _ I1;obtain⟨hp,g,d,tk,os⟩:=s1;obtain⟨⟨bm,N,nm,qn,bs,sn,sub,ab,col,dd,k0,k1,k2,k3,k5,mN,hC,hN,T⟩⟩:=OD I1.kIn qC;have hcB:(c5 C::bm).contains (.type "BaseException")=ag:=by rw[A5,T.hasType wt.hasBase,wa]
 repeat (first|with_reducible refine jy ht ?_|with_reducible refine jy hC ?_|(with_reducible refine AM hC ?_;rw[hcB])|wp_step)
 exact wpAny_raiseNew_none hh out
end
variable [KFrag]
section
variable {P:bp} {w:bj} {K:bn} {mg:Str->av am} {base:az} {N:aa Str} {qual:Str} {scope:el} {fad C fi:ak} {cd:am} {A:cj} {outer:aa cx} {s:au} {H:Hp} {E:XK} {own:af->aq} {pos p cpos:b6} {x:Str} {e:Expr} {es:aa Expr} {fa:FA} {r:aq} {fl:aa Str} {k k':af} {fd:c6} {ps:aa Str}
theorem aIj(hK:KFrag.K=K)(hn:nsIn K bu x=ae (ae (.ref C)))(M:XI K C fi)(F:uO P w K mg base CX0 k fi fd ps (n_ C fl))(hr:lR k' (A.deeper (bS qual scope s.heap.objs.size fad cd)))(hkk:k+1<=k')(hb:Binds K fd ps [])(hz:fl.length<=aI)(hg:Gl (nA (CX2 P w) P w K mg base N qual scope fad cd A outer s H E) x)(hm:mg x=ae (.ref C))(ha:PA (nA (CX2 P w) P w K mg base N qual scope fad cd A outer s H E) (e::es) (gA fa r))
 (hdb:nDb x:=by decide)(he:bP (e::es) (bS qual scope s.heap.objs.size fad cd)=(ah,eval e (bS qual scope s.heap.objs.size fad cd))::bP es (bS qual scope s.heap.objs.size fad cd):=by rfl)(hpl:(fg cpos (bP es (bS qual scope s.heap.objs.size fad cd))).any (·.1)=ah:=by rfl) :
  PS (nA (CX2 P w) P w K mg base N qual scope fad cd A outer s H E) (.Raise (ae (.Call (.Name x p) (e::es) [] cpos)) aj pos) (tZ own E (iC x fl (noE fa))):=by
 subst hK;refine PS.imp (aBb rfl (aGb M F (hr.mono hkk) hb hz rfl hg hm ha hdb he hpl)) λD σ H1 ⟨ρ,er,q⟩=>?_
 rcases uE with ⟨ds,h1,h2⟩|h2
 .have e0:iC x fl (noE fa) ρ=(match X3 ds with|some ts=>if ts.length=fl.length then .err x [.exc x (fl.zip ts)] else .bad|none=>.bad):=by unfold iC;rw[h2];rfl
  rw[e0] at q;split at q
  .rename_i ts hts;split at q
   .rename_i hl;obtain⟨fs,C',e1,e2,e3⟩:=q;cases e1;rw[hn] at e2;cases e2;refine⟨ρ,ds,er.er,h1,λvs H2 sm rs _=>⟨ts,IW hts rs,hl,λa dx g1 g2 g3 g4=>⟨a,C,dx,rfl,aO,M.cl,λΨ s2 I2=>aB3 I2 aO g1 ?_⟩⟩⟩;have eh:hid (upd (upd H2 dx (.ext (XD dx (fl.zip ts)))) a (.ext (XO1 a C dx))) a=upd H2 dx (.ext (XD dx (fl.zip ts))):=by
     funext b
     unfold hid;by_cases hb:b=a
     .rw[ar hb,hb,bY (Ne.symm g4)];exact g2.symm
     .rw[aw hb,bY hb]
    rw[eh];exact e3 σ _ (ae dx) (.same (sm.trans (uZ g3))) aO
   .exact q.elim
  .exact q.elim
 .have e0:iC x fl (noE fa) ρ=.bad:=by unfold iC;rw[h2];rfl
  rw[e0] at q;exact q.elim
end
section
theorem R7(I:Inv X Ψ σ (upd H a (.ext (XO1 a C dx))) s):Inv X Ψ σ (upd H a (.ext (XO a C (ae dx)))) s:=by
 obtain⟨h1,_⟩:=I.hok a _ aO;have hx:=h1.xo;have I2:=I.write (t':=s.toks) (o:=.ext (XO a C (ae dx))) (by rw[aO];exact True.intro) (.inl rfl) (λb u _ z=>z) (let ⟨o,e,_⟩:=hx;⟨o,e⟩) (aMh hx);rw[aMk] at I2;exact I2
theorem aMm(hK:KFrag.K=X.K)(hn:nsIn X.K bu x=ae (ae (.ref C)))(M:XI X.K C fi)(F:uO X.prog X.w X.K X.mg X.base CX0 k fi fd ps (n_ C fl))(hr:lR k' X.A)(hkk:k+1<=k')(hb:Binds X.K fd ps [])(hz:fl.length<=aI)(hex:X.ex=[])(hg:Gl X x)(hm:X.mg x=ae (.ref C))(ha:PA X (e::es) (gA fa r))
 (hdb:nDb x:=by decide)(he:zSE X e es:=by rfl)(hpl:zSP X pos es:=by rfl):PE X (.Call (.Name x p) (e::es) [] pos) (gE (aOh x fl fa) ag):=by
 intro Ψ s σ H Q I ⟨ρ,d,er,h,q⟩;obtain⟨ds,h1,h⟩:=bG h;split at h
 .rename_i ts hts;split at h
  .rename_i hl;cases h;refine thn (aGb M F (hr.mono hkk) hb hz hex hg hm ha hdb he hpl Ψ s σ H (λv H3=>∃a dx H2,v=.ref a/\dH H H2/\H2 a=aj/\H2 dx=aj/\dx≠a/\H3=upd (upd H2 dx (.ext (XD dx (fl.zip ts)))) a (.ext (XO1 a C dx))) I ⟨ρ,ds,er,h1,λvs H2 sm rs _=>⟨ts,IW hts rs,hl,λa dx g1 g2 g3 g4=>⟨a,dx,H2,rfl,sm,g2,g3,g4,rfl⟩⟩⟩) λu s2 ⟨v,H3,I3,rv,a,dx,H2,e1,sm,g2,g3,g4,e3⟩=>?_
   subst e1 e3;have sm3:dH H (upd (upd H2 dx (.ext (XD dx (fl.zip ts)))) a (.ext (XO a C (ae dx)))):=sm.trans ((uZ g3).trans (uZ (by rw[bY (Ne.symm g4)];exact g2)));have rp:∀P,Rep P (upd (upd H2 dx (.ext (XD dx (fl.zip ts)))) a (.ext (XO a C (ae dx)))) (.ref a) (.exc x (fl.zip ts)):=λP=>.exc (by rw[hK];exact hn) aO (by show upd _ _ _ dx=_;rw[bY g4];exact aO)
   exact⟨.ref a,_,R7 I3,rv,q _ _ sm3 (rp _) λ_=>rp _⟩
  .exact bx h
 .exact bx h
end
structure XA(K:Frag)(C:ak)(f:Str):Prop where
 xc:XC K C
 hd:wy K C=ag
 no:dn K (.ref C) f=ae aj
theorem XO.exc(x:XO a C dx h):ExcAt a C h:=let ⟨o,e,c,_⟩:=x;⟨o,e,c⟩
section
variable {prog:bp} {w:bj} {A:cj} {E:am->au->Prop} {s:au} {K:Frag} {x C dx:ak} {f t:Str} {fs:aa (Str×Str)}
theorem aE7(X:K.In s.heap)(c:XA K C f)(xo:XO x C (ae dx) s.heap)(xd:XD dx fs s.heap)(l:fs.lookup f=ae t)(h:∀tk,Q (.str t tk) {s with toks:=s.toks+1}):ϑ (ax prog w) A (uo (.ref x) f b) Q E s:=by
 obtain⟨hh,g,dr,tt,os⟩:=s;obtain⟨mA,n,_,hm⟩:=xd;have hf:=hm f;rw[l] at hf;obtain⟨tk,hf⟩:=hf;obtain⟨od,ho,hl⟩:=K4 n;have p:=xo.exc;obtain⟨o,e1,e2,e3,vs,e4⟩:=xo;have J:InstAt hh x o C (ae od):=⟨e1,e2,by unfold notCls;rw[e4],by rw[e3];exact ho⟩
 have L0:=F_ (M:=ax prog w) p;have L1:=jd (M:=ax prog w) X c.xc.ga;have L2:=jd (M:=ax prog w) X c.xc.gh;have L3:ii (ax prog w) hh (find (.ref x) (.ref C) f) (.value (.str t tk)):=looks_find X J (findObj_own c.hd c.no rfl (by rw[hl,hf]));have z2:(iA "BaseException.__getattribute__"==iA "object.__getattribute__")=ah:=by decide +kernel
 have z1:(mE (c5 C)&&iA "BaseException.__getattribute__"==iA "object.__getattribute__")=ah:=by rw[z2];rfl
 unfold uo getAttrBy;refine ao (Af (eM ?_));refine ao (L0.at (ao (L1.at (show _ from ?_))));dsimp only;rw[z1,aw 0x4];unfold Ag Ah hookBefore Ai;rw[ar (show mE (c5 C)=ag from rfl)];refine ao (L2.at (ao (iE (eM ?_))));rw[show(b&&mE (iA "BaseException.__getattribute__"))=ah from vk _,aw 0x4];refine ao (f_ (sk.ga.bind (.ref x)) ?_);refine iP (kH sk.ga.plain Aj (NP (K:=K) (C:=C) X p c.xc ?_));show ϑ _ _ (dz.«object.__getattribute__» ⟨[.ref x,.str f tt],[]⟩) _ _ _
 delta dz.«object.__getattribute__»
 refine ao (aS (ao (aS (ao (L0.at (ao (L3.at ?_)))))));refine aS ?_;show ϑ _ _ (handedOut (.str t tk)) _ _ _;exact aS (h tk)
end
section
variable {X:Cx} {y f:Str} {i:af} {np pos:b6} {cs:aa Str}
theorem R8(hK:KFrag.K=X.K)(hc:∀c,cs.contains c=ag->∃C,nsIn X.K bu c=ae (ae (.ref C))/\XA X.K C f)(hN:X.N[i]?=ae y)(hv:Vis X.env.scope y)(hb:hG (.Name y np) f X.env (eval (.Name y np) X.env)=eval (.Name y np) X.env:=by rfl)
 (hd:(y==("__debug__" : Str))=ah:=by decide)(hcd:(y==("__classdict__" : Str))=ah:=by decide):PE X (.Attribute (.Name y np) f pos) (gE (R6 cs f i) ag):=by
 intro Ψ s σ H Q I ⟨ρ,d,er,h,q⟩;unfold R6 at h;split at h
 .rename_i c fs hρ;split at h
  .rename_i hcc;split at h
   .rename_i t hl;cases h;obtain⟨v,h1,r1⟩:=er i (by rw[hρ];intro z;cases z);rw[hρ] at r1;obtain⟨a,C,dx,rfl,n,e,qd⟩:=r1.inv;obtain⟨C',n',xa⟩:=hc c hcc;rw[hK,n'] at n;cases n;refine aH1 hb (thn (cZ hN hv hd hcd Ψ s σ H (λv H1=>v=.ref a/\H1=H) I ⟨_,h1,rfl,rfl⟩) λu s1 ⟨v,H1,I1,rv,e1,e2⟩=>?_);subst e1 e2;obtain rfl:u=c5 a:=rv;cases dx with
    |none=>cases qd;cases hl
    |some dx=>
     obtain⟨xo,_⟩:=I1.hok a _ e;obtain⟨xd,_⟩:=I1.hok dx _ qd;exact aE7 I1.kIn xa xo xd hl λtk=>⟨.str t,_,I1.tok _,⟨tk,rfl⟩,q _ _ (λ_ _ z=>z) (.str t) λ_=>.str t⟩
   .exact bx h
  .exact bx h
 .exact bx h
end
end Mi
namespace Mi
open PySem L2 PySem.W PySem.SeqAt PySem.Spec PyProof.Rows
def aPl(K:Frag)(cM:am)(t:TA)(sp:Sp)(ie:af)(ts:TS):TS:=λD σ H=>t σ H λvs H1=>sp vs H1 (λ_ _=>cK) λCv dd H2=>∃C,Cv=.ref C/\nk K (.ref C) cM=ae ag/\∀a,H2 a=aj->ts {nx:=λσ' H'=>D.nx (σ'.set ie aj) H',rt:=λ_ _=>cK} (σ.set ie (ae (.ref a))) (upd H2 a (.ext (XO a C dd)))
theorem aIk
  (hst:X.stack=X.env::X.outer) (hfr:X.env.frame=ae X.env.locals) (F:uO X.prog X.w X.K X.mg X.base (CX2 X.prog X.w) k fad fd ps sp) (hr:lR k X.A) (hg:Gl X f) (hm:X.mg f=ae (.ref fad)) (hk:keepIn X.K (.ref fad)=ag) (hb:Binds X.K fd ps [])
  (ha:PA X.nox (e::es) t) (hgM:Gl X mx) (hmM:X.mg mx=ae cM) (hN:X.N.Nodup) (hin:X.N[ie]?=ae n) (hln:X.env.scope.names.lookup n=ae .local)
  (hs:∀v,PSs (mrk X v).nox (b0::suite) ts)
  (hdb:(f==("__debug__" : Str))=ah:=by decide) (hdM:(mx==("__debug__" : Str))=ah:=by decide) (he:zSE X e es:=by rfl) (hpl:zSP X cpos es:=by rfl)
  (hsw:dy (.Call (.Name f p) (e::es) [] cpos) aj xpos.line X.env=pure ah:=by rfl) :
  PS X (.Try [.Expr (.Call (.Name f p) (e::es) [] cpos) xpos] [.ExceptHandler (ae (.Name mx mp)) (ae n) (b0::suite) hpos] [] [] pos) (aPl X.K cM t sp ie ts):=by
 intro Ψ s σ H D I h;refine wpAny_Try_except (uj (yf ?_ I.quiet hsw));refine hI (vQ I hg hm ?_ hdb);refine callWith_K I.ok.mod.kin hk (fR (ha cpos Ψ s σ H _ (I.wish _) h) (λus s1 ⟨vs,H1,I1,r,q⟩=>⟨I1.kIn,?_⟩) λ_ _ z=>dE z) he hpl;have I1:Inv X Ψ σ H1 s1:=I1.oH;have hl:(us++[]).length=ps.length:=by rw[dg,<-r.length];exact F.len _ _ _ _ q
 have hb':=hb s1 us I1.kIn hl;rw[dg] at hb';refine iP (kf (F.run X.A X.stack s1 H1 ⟨us,[]⟩ us vs _ _ hr I1.env0 hb' r q) λr s' hq=>?_);cases r with
 |ok fl=>
  cases fl with
  |ret u=>obtain⟨_,_,_,_,_,_,_,z⟩:=hq;exact z.elim
  |next=>exact dE hq
  |brk=>exact dE hq
  |cont=>exact dE hq
 |error e=>
  obtain⟨a,C',dd,H2,B,rfl,os',bare',fly,clo,hn,hgone,C,eC,hx,hE⟩:=hq;cases eC;rw[hst] at fly;refine aB1 (by rw[I.ok.frames,hst]) hfr fly λh4 held4 sm4=>?_
  refine vA held4 λh5 fly5 sm5=>?_
  have up5:s'.heap.UpToSlots h5:=A6 sm4 sm5;have I5:Inv X Ψ σ H2 {s' with heap:=h5}:=by
   obtain⟨un,hok⟩:=clo h5 fly5.1 up5;exact I1.call' os' un hok bare' (λb z=>aT z 0x2)
  refine wpAny_handleBy_cons (codeAny_handlers_test ?_) (by intro q;cases q);refine vQ (aAh I5 _) hgM hmM ?_ hdM;have LT:ii (ax X.prog X.w) h5 (ko (.ref a)) (.ref C'):=by
   obtain⟨ob,hob,hc,_⟩:=fly5.there;rw[<-hc];exact(si hob).andThen .now
  refine(exm_one I5.kIn LT hx).here ?_;refine codeAny_handlers_suite_as ?_;refine vA fly5 λh6 fly6 sm6=>?_
  obtain⟨un6,hok6⟩:=clo h6 fly6.1 (A6 up5 sm6);have I6:Inv X Ψ σ (upd H2 a (.ext (XO a C' dd))) {s' with heap:=h6}:=
   I1.call' os' (aFz un6 hgone hn) (aAj hok6 hn (aMh fly6.there)) bare' (λb z=>aT z 0x2)
  refine KZ (v:=.ref a) I6 hN hin (.inl hln) rfl (λs7 I7 _=>?_) (.inr hln);refine fR (hs (.ref a) Ψ s7 _ _ _ ((aAh I7 _).wish _) (hE a hn)) (λfl s8 q8=>?_) λ_ _ z=>dE z
  cases fl with
  |ret u=>obtain⟨_,_,_,_,_,z⟩:=q8;exact z.elim
  |brk=>obtain⟨_,_,_,z⟩:=q8;exact z.elim
  |cont=>obtain⟨_,_,_,z⟩:=q8;exact z.elim
  |next=>
   obtain⟨σ8,H8,I8,q⟩:=q8;have I8:Inv X Ψ σ8 H8 s8:=aAi I.ok I8.oH;obtain⟨m,hm8,hl8⟩:=id I8.loc;refine wpAny_nameGoes_keeps hln hm8 (by rw[I.ok.kind];rfl) λh9 v hn9 sb9=>?_
   exact⟨_,H8,aDn I8 hN hin hm8 hl8 hn9 sb9,q⟩
section
variable [KFrag]
theorem VR(ho:own i=ah)(a:ak):Own own (σ.set i aj) a↔Own own σ a:=by
 constructor
 .rintro⟨j,hj,e⟩;have:i≠j:=λz=>by subst z;rw[ho] at hj;cases hj
  rw[du this] at e;exact⟨j,hj,e⟩
 .rintro⟨j,hj,e⟩;have:i≠j:=λz=>by subst z;rw[ho] at hj;cases hj
  exact⟨j,hj,by rw[du this];exact e⟩
theorem ES.drop{own:af->aq}(ho:own i=ah)(es:ES own H σ ρ):ES own H (σ.set i aj) (ρ.set i .uD):=by
 refine⟨by simp[es.len],λj hj=>?_,λj v hj hv=>?_⟩
 .rw[eX] at hj ⊢;by_cases h:i=j/\i<ρ.length
  .rw[ar h] at hj;exact aT rfl hj
  .rw[aw h] at hj ⊢;obtain⟨v,h1,h2⟩:=es.at_ j hj;have ne:i≠j:=λz=>by
    subst z;have:i<σ.length:=(dQ.mp h1).1;exact h ⟨rfl,by rw[<-es.len];exact this⟩
   exact⟨v,by rw[du ne];exact h1,λo=>(h2 o).mono λa n z=>n ((VR ho a).mp z)⟩
 .have ne:i≠j:=λz=>by subst z;rw[ho] at hj;cases hj
  rw[du ne] at hv;obtain⟨a,o,h1,h2,h3,h4,h5,h6⟩:=es.own j v hj hv;have e:(ρ.set i .uD).getD j .uD=ρ.getD j .uD:=by rw[eX,aw (λz=>ne z.1)]
  refine⟨a,o,h1,by rw[e];exact h2,by rw[e];exact h3,h4,h5,λl hl hs=>h6 l hl ?_⟩;have:i≠l:=λz=>by subst z;rw[ho] at hl;cases hl
  rwa [du this] at hs
section
theorem aMn(hK:KFrag.K=X.K)(hst:X.stack=X.env::X.outer)(hfr:X.env.frame=ae X.env.locals)(R:m9 X.prog X.w X.K X.mg X.base k f n v)(hr:lR k' X.A)(hkk:k<=k')(hg:Gl X f)(ha:PA X.nox (e::es) (gA fa ra))(hgM:Gl X mx)(hmM:X.mg mx=ae cM)
 (hcs:∀c,cs.contains c=ag->∃C,nsIn X.K bu c=ae (ae (.ref C))/\nk X.K (.ref C) cM=ae ag)
 (hN:X.N.Nodup)(hin:X.N[ie]?=ae nm)(hln:X.env.scope.names.lookup nm=ae .local)(hic:X.N[ic]?=ae cn)(hlc:Loc X.env.scope cn)(hfc:X.fn cn=ag\/X.env.scope.names.lookup cn=ae .local)(oc:own ic=ah)(oe:own ie=ah)(hne:ie≠ic)
 (hdb:(f==("__debug__" : Str))=ah:=by decide)(hdM:(mx==("__debug__" : Str))=ah:=by decide)(he:zSE X e es:=by rfl)(hpl:zSP X cpos es:=by rfl)
 (hsw:dy (.Call (.Name f p) (e::es) [] cpos) aj xpos.line X.env=pure ah:=by rfl)(hs2:dy (.Name nm ep) (ae (.Name cn tp)) ap.line X.env=pure ah:=by rfl)(hd1:(nm==("__debug__" : Str))=ah:=by decide)(hd2:(nm==("__classdict__" : Str))=ah:=by decide) :
  PS X (.Try [.Expr (.Call (.Name f p) (e::es) [] cpos) xpos] [.ExceptHandler (ae (.Name mx mp)) (ae nm) [.Assign [.Name cn tp] (.Name nm ep) ap] hpos] [] [] pos) (tS own (aOi v n fa cs ic ie)):=by
 obtain⟨fm,fdm,ps,F,hm,hk,hb⟩:=R;refine PS.imp (aIk hst hfr F (hr.mono hkk) hg hm hk hb ha hgM hmM hN hin hln (λv=>mH (yK hN hic hlc (cZ hin (.inl hln) hd1 hd2) hs2 hfc)) hdb hdM he hpl hsw) λD σ H ⟨ρ,fl,es,h,q⟩=>?_
 obtain⟨ds,h1,h⟩:=bG h;refine⟨ρ,ds,es.er,h1,λvs H1 sm rs _=>?_⟩;split at h
 .rename_i c c' fs hv;split at h
  .rename_i hc;rw[bf,bf] at hc;have ec:=eR.mp hc.1.1;subst ec;cases h;unfold mW at hv;split at hv
   .rename_i hl;obtain⟨C,hn,hx⟩:=hcs _ hc.1.2;refine⟨ds,c9 hl,rs,?_⟩;rw[hv];refine⟨fs,C,rfl,by rw[hK];exact hn,λH2 dd s2 xd=>⟨C,rfl,hx,λa ha=>?_⟩⟩;have hl2:ie<σ.length:=by
     rw[es.len];exact c9 hc.2
    have rp:∀P,Rep P (upd H2 a (.ext (XO a C dd))) (.ref a) (.exc c' fs):=λP=>.exc (by rw[hK];exact hn) aO (by
     cases dd with
     |none=>exact xd
     |some d=>
      have xd:H2 d=ae (.ext (XD d fs)):=xd;show upd _ _ _ d=_;rw[bY (λz=>by rw[z,ha] at xd;cases xd)];exact xd)
    have sm3:dH H (upd H2 a (.ext (XO a C dd))):=sm.trans (s2.trans (uZ ha));have es3:=(((es.same sm3).set oe (rp _)).set oc (rp _)).drop oe;refine⟨.ref a,by rw[fq hl2],?_⟩;exact q _ _ (λb o eb nb=>⟨sm3 b o eb,λz=>nb ((lD oe b).mp ((lD oc b).mp ((VR oe b).mp z)))⟩) es3
   .cases hv
  .exact bx h
 .exact bx h
end
section
theorem aBc(er:ER H σ ρ)(h:ρ.getD i .uD=.exc c fs):∃a C dx,σ[i]?=ae (ae (.ref a))/\nsIn KFrag.K bu c=ae (ae (.ref C))/\H a=ae (.ext (XO a C dx)):=by
 obtain⟨v,h1,r1⟩:=er i (by rw[h];intro z;cases z);rw[h] at r1;obtain⟨a,C,dx,rfl,n,e,q⟩:=r1.inv;exact⟨a,C,dx,h1,n,e⟩
theorem aBd{X:Cx}{i:af}{y:Str}{p np tpos pos:b6}{es:aa Expr}{kk:af}{cs:aa ak}{tbl:aa (Str×aq)}(hK:KFrag.K=X.K)(ht:∀c b,tbl.lookup c=ae b->∃C,nsIn X.K bu c=ae (ae (.ref C))/\XC X.K C/\gk X.K (.ref C) (cs.map c5)=ae b)(hz:cs.length<=aI)(hg:Gl X "isinstance")(hm:X.mg "isinstance"=aj)(hN:X.N[i]?=ae y)(hv:Vis X.env.scope y)(ha:PA X es λ_ H Q=>Q (cs.map V.ref) H)
 (hd:(y==("__debug__" : Str))=ah:=by decide)(hcd:(y==("__classdict__" : Str))=ah:=by decide) :
  PE X (.Call (.Name "isinstance" p) [.Name y np,.Tuple es kk tpos] [] pos) (gE (aCv tbl i) ag):=by
 have hc:sV X (.builtin "isinstance") (λvs H Q=>∃a tp C dx b,vs=[.ref a,.ref tp]/\H a=ae (.ext (XO a C dx))/\H tp=ae (.tup (cs.map V.ref))/\XC X.K C/\gk X.K (.ref C) (cs.map c5)=ae b/\Q (.bl b) H):=by
  intro Ψ s σ H vs us Q I r ⟨a,tp,C,dx,b,e,ea,et,c,hk,q⟩;subst e;cases r with
  |cons r1 r=>
   cases r with
   |cons r2 r=>
    cases r;cases r1;cases r2;obtain⟨_,its,ri,o,ho,hoc,n,hod⟩:=I.hok tp _ et;have e2:=NQ ri;subst e2;obtain⟨c1,d1,dt,sl⟩:=o;replace hod:=dw A7 hod;dsimp only at hoc hod;subst hoc hod;obtain⟨px,_⟩:=I.hok a _ ea;exact kia_tup (U8 c) I.kIn px.exc ho hk 0x7 λtk=>⟨.bl b,H,I.tok tk,rfl,q⟩
 refine PE.imp (yC hc hg hm 0x6 (bV (cZ hN hv hd hcd) (bV (aFk ha) jH))) λσ H Q ⟨ρ,d,er,h,q⟩=>?_
 unfold aCv at h;split at h
 .rename_i c fs hρ;split at h
  .rename_i b hb;cases h;obtain⟨a,C,dx,h1,n,e⟩:=aBc er hρ;obtain⟨C',n',xc,hk⟩:=ht c b hb;rw[hK,n'] at n;cases n;refine⟨.ref a,h1,⟨by simpa using hz,λtp htp=>⟨a,tp,C,dx,b,rfl,?_,aO,xc,hk,q _ _ (uZ htp) (.bl b) λ_=>.bl b⟩⟩⟩;rw[bY (dG e htp)];exact e
  .exact bx h
 .exact bx h
theorem JB(hK:KFrag.K=X.K)(ht:∀c b,tbl.lookup c=ae b->∃C,nsIn X.K bu c=ae (ae (.ref C))/\XC X.K C/\d5 X.K (.ref C) u=ae b)(hu:∀u',RelV v u'->u'=u)(hg:Gl X "isinstance")(hm:X.mg "isinstance"=aj)(hN:X.N[i]?=ae y)(hv:Vis X.env.scope y)(ha:PE X ce (tC v))
 (hst:bP [ce] X.env=(ah,eval ce X.env)::bP [] X.env)(hpl:(fg pos (bP [ce] X.env)).any (·.1)=ah)
 (hd:(y==("__debug__" : Str))=ah:=by decide)(hcd:(y==("__classdict__" : Str))=ah:=by decide) :
  PE X (.Call (.Name "isinstance" p) [.Name y np,ce] [] pos) (gE (aCv tbl i) ag):=by
 have hc:sV X (.builtin "isinstance") (λvs H Q=>∃a C dx b,vs=[.ref a,v]/\H a=ae (.ext (XO a C dx))/\XC X.K C/\d5 X.K (.ref C) u=ae b/\Q (.bl b) H):=by
  intro Ψ s σ H vs us Q I r ⟨a,C,dx,b,e,ea,c,hk,q⟩;subst e;cases r with
  |cons r1 r=>
   cases r with
   |cons r2 r=>
    cases r;cases r1;have e2:=hu _ r2;subst e2;obtain⟨px,_⟩:=I.hok a _ ea;exact kia_one (U8 c) I.kIn px.exc hk 0x7 λtk=>⟨.bl b,H,I.tok tk,rfl,q⟩
 refine PE.imp (yC hc hg hm 0x6 (bV (cZ hN hv hd hcd) (bV ha jH hst)) (hpl:=hpl)) λσ H Q ⟨ρ,d,er,h,q⟩=>?_
 unfold aCv at h;split at h
 .rename_i c fs hρ;split at h
  .rename_i b hb;cases h;obtain⟨a,C,dx,h1,n,e⟩:=aBc er hρ;obtain⟨C',n',xc,hk⟩:=ht c b hb;rw[hK,n'] at n;cases n;exact⟨.ref a,h1,a,C,dx,b,rfl,e,xc,hk,q _ _ (λ_ _ z=>z) (.bl b) λ_=>.bl b⟩
  .exact bx h
 .exact bx h
end
end
noncomputable def aE8(s:bi)(j:af):bi:=match s with
 |.ClassDef _ _ _ b _ _ _ _ _ _ _=>b.getD j (.Pass ⟨0,0,0,0⟩)
 |_=>.Pass ⟨0,0,0,0⟩
def Q0(P:bp)(w:bj)(K:Frag)(mg:Str->av am)(base:az)(k:af)(c:Str)(fl:aa Str):Prop:=
 ∃(C fi:ak)(fd:c6)(ps:aa Str),nsIn K bu c=ae (ae (.ref C))/\mg c=ae (.ref C)/\XI K C fi/\uO P w K mg base CX0 k fi fd ps (n_ C fl)/\Binds K fd ps []/\fl.length<=aI
def aGc(p:Str->aq->Prop):aa (Str×aq)->Prop
 |[]=>gm
 | (c,b)::r=>p c b/\aGc p r
theorem uJ:∀{t:aa (Str×aq)},aGc p t->∀c b,t.lookup c=ae b->p c b
 |[],_,_,_,h=>by cases h
 | (d,e)::r,⟨h1,h2⟩,c,b,h=>by
  rw[fS] at h;split at h
  .rename_i z;rw[eR.mp z];cases h;exact h1
  .exact uJ h2 c b h
def aK0(p:Str->Prop):aa Str->Prop
 |[]=>gm
 |c::r=>p c/\aK0 p r
theorem zQ:∀{t:aa Str},aK0 p t->∀c,t.contains c=ag->p c
 |[],_,_,h=>by cases h
 |d::r,⟨h1,h2⟩,c,h=>by
  rw[A5] at h;rcases(dm _ _).mp h with z|z
  .rw[eR.mp z];exact h1
  .exact zQ h2 c z
theorem JC{K:Frag}{x qual:Str}{st:bi}{fad C M:ak}{fd:c6}{N ps:aa Str}{f:Str}{k:af}(F:Fun K x qual st fad fd)(S:cA N ps (aL st))(hN:N.length=2)(hp:ps.length=2)
 (hbody:∀(cdv:am) (A:cj) (outer:aa cx) (s:au) (H:Hp) (E:XK),lR k (A.deeper (bS qual (aL st) s.heap.objs.size fad cdv))->
   PSs (nA CX0 P w K mg base N qual (aL st) fad cdv A outer s H E).nox (fW st) (aFj (aGw (tBase C (WX (WM 0) (WX (WM 1) aOz)))) (aIe C f (WM 0) (WM 1)))):uO P w K mg base CX0 (k+1) fad fd ps (n_ C [f]):=by
 refine F.ok S (λvs H Q E ⟨e,ts,h1,h2,_⟩=>by rw[h1,hp];simp at h2;simp[h2]) λcdv A outer s H vs Q E hr ⟨e,ts,h1,h2,h3,h4⟩=>⟨_,hbody cdv A outer s H E hr,?_⟩
 obtain⟨t,rfl⟩:∃t,ts=[t]:=by
  match ts,h2 with
  |[t],_=>exact⟨t,rfl⟩
 subst h1;have e0:L2.start N [V.ref e,V.str t]=[ae (V.ref e),ae (V.str t)]:=by
  unfold L2.start;rw[hN];rfl
 show aFj _ _ _ (L2.start N [V.ref e,V.str t]) H;rw[e0];refine⟨.ref e,rfl,.str t,rfl,e,[.str t],rfl,show 1<=aI from by decide,h3,?_⟩;exact⟨.str t,rfl,.ref e,rfl,e,t,rfl,rfl,h3,λdx hd=>h4 dx hd⟩
section
variable [KFrag]
section
variable {P:bp} {w:bj} {K:bn} {mg:Str->av am} {base:az} {N:aa Str} {qual:Str} {scope:el} {fad:ak} {cd:am} {A:cj} {outer:aa cx} {s:au} {H:Hp} {E:XK} {own:af->aq} {pos p cpos:b6} {x:Str} {e:Expr} {es:aa Expr} {fa:FA} {r:aq} {fl:aa Str} {k k':af}
theorem iI(R:Q0 P w K mg base k x fl)(hK:KFrag.K=K)(hr:lR k' (A.deeper (bS qual scope s.heap.objs.size fad cd)))(hkk:k+1<=k')(hg:Gl (nA (CX2 P w) P w K mg base N qual scope fad cd A outer s H E) x)(ha:PA (nA (CX2 P w) P w K mg base N qual scope fad cd A outer s H E) (e::es) (gA fa r))
 (hdb:nDb x:=by decide)(he:bP (e::es) (bS qual scope s.heap.objs.size fad cd)=(ah,eval e (bS qual scope s.heap.objs.size fad cd))::bP es (bS qual scope s.heap.objs.size fad cd):=by rfl)(hpl:(fg cpos (bP es (bS qual scope s.heap.objs.size fad cd))).any (·.1)=ah:=by rfl) :
  PS (nA (CX2 P w) P w K mg base N qual scope fad cd A outer s H E) (.Raise (ae (.Call (.Name x p) (e::es) [] cpos)) aj pos) (tZ own E (iC x fl (noE fa))):=by
 obtain⟨C,fi,fd,ps,hn,hm,M,F,hb,hz⟩:=R;exact aIj hK hn M F hr hkk hb hz hg hm ha hdb he hpl
end
theorem aIl(R:Q0 X.prog X.w X.K X.mg X.base k x fl)(hK:KFrag.K=X.K)(hr:lR k' X.A)(hkk:k+1<=k')(hex:X.ex=[])(hg:Gl X x)(ha:PA X (e::es) (gA fa r))
 (hdb:nDb x:=by decide)(he:zSE X e es:=by rfl)(hpl:zSP X pos es:=by rfl):PE X (.Call (.Name x p) (e::es) [] pos) (gE (aOh x fl fa) ag):=by
 obtain⟨C,fi,fd,ps,hn,hm,M,F,hb,hz⟩:=R;exact aMm hK hn M F hr hkk hb hz hex hg hm ha hdb he hpl
end
open Builtin Builtin.ObjectAttr
theorem aE9{prog:bp}{w:bj}{A:cj}{E:am->au->Prop}{K:Frag}{C:ak}{h:az}{g:bw kP}{d:kQ}{t:af}{os:kT}{x dx:ak}{o:bd}{ws:bw am}{name:Str}{v:am}{mA:Str->av am}{nl:aa Str}{Q:iw->au->Prop}(X:K.In h)(q:exC K C=ag)(hs:dn K (.ref C) "__setattr__"=ae (ae (.builtin "object.__setattr__")))(hn:dn K (.ref C) name=ae aj)
 (ho:jv K C (.type "object")=ae ag)(hx:h.get? x=ae o)(hc:o.cls=.ref C)(hd:o.dict=ae dx)(hw:o.data=.fields ws)(n:h.Ns1 dx mA)(hwi:Within mA nl)(hz:nl.length<=1000)
 (hq:∀h' tk,h'.Ns1 dx (λy=>if y=name then ae v else mA y)->fj dx h h'->Q () ⟨h',g,d,tk,os⟩):ϑ (ax prog w) A (setAttr (c5 x) name v) Q E (⟨h,g,d,t,os⟩:au):=by
 obtain⟨⟨bm,N,nm,qn,bs,sn,sub,ab,col,dd,k0,k1,k2,k3,k5,mN,hC,hN,T⟩⟩:=OD X q;have SF:=wu;have hpass:=zM T (.ref x);obtain⟨od,hod,_⟩:=K4 n;have I:InstAt h x o C (ae od):=⟨hx,hc,by unfold notCls;rw[hw],by rw[hd];exact hod⟩
 refine set_plain X I hs ?_;have up:ii (ax prog w) h (kK (.ref x) (.type "object")) ag:=I.type.andThen (sj X ho);refine kH SF.slot.plain SF.entry (@check_slot (ax prog w) _ _ ⟨h,g,d,t+1,os⟩ "object.__setattr__" "object" "__setattr__" (.ref x) [.str name t,v] [] _ SF.kind SF.split up (SF.args (.ref x) (.str name t) v) ?_);have hm:ii (ax prog w) h (mroOf (.ref C)) (.ref C::bm):=((si (part:=aj) hC).andThen .now).andThen .now;show ϑ _ _ (dz.«object.__setattr__» ⟨[.ref x,.str name t,v],[]⟩) _ _ _;rw[osa_eq,refuse_eq];refine ao (ao (I.type.here (s:=⟨h,g,d,t+1,os⟩) (ao (hm.here ?_))));rw[wv,hpass];refine aS (ao (I.type.here (ao ((jd X hn).here (ao (aS ?_))))));show ϑ _ _ (storeInOwnDict (.ref x) (.ref C) (.str name t) name v ah) _ _ (⟨h,g,d,t+1,os⟩:au)
 repeat (first|(with_reducible refine jy hx ?_;rw[hc])|wp_step)
 rw[hd];refine aS ?_;show ϑ _ _ (storeInDict dx (.str name _) name v) _ _ _;unfold storeInDict;unfold newKeyGuard;refine ao (aS (ao (AQ n λh' hn' hs'=>?_)));obtain⟨oD,_,_,g4,g5,g6⟩:=hn'.count (AR name v hwi);refine ao (AS g4 (by rw[g5];exact AT (dh g6 (by rw[cz,d4];lia))) ?_)
 wp_walk
 exact hq h' _ hn' hs'
def aMo(C:ak)(f:Str)(ta tv:TE):TS:=λD σ H=>tv σ H λy H1=>ta σ H1 λx H2=>∃(a dx:ak)(t:Str)(fs:aa (Str×Str)),x=.ref a/\y=.str t/\H2 a=ae (.ext (XO1 a C dx))/\H2 dx=ae (.ext (XD dx fs))/\fs.length<=10/\fs.lookup f=aj/\D.nx σ (upd H2 dx (.ext (XD dx (fs++[(f,t)]))))
theorem aIm{X:Cx}{C fi:ak}{f:Str}{o value:Expr}{pos' pos:b6}{ta tv:TE}(M:XI X.K C fi)(hn:dn X.K (.ref C) f=ae aj)(ha:PE X o ta)(hv:PE X value tv)(hs:dy value (ae (.Attribute o f pos')) pos.line X.env=pure ah:=by rfl):PS X (.Assign [.Attribute o f pos'] value pos) (aMo C f ta tv):=by
 intro Ψ s σ H D I h;refine AU (thn (hv Ψ s σ H _ I h) λu s1 ⟨y,H1,I1,ry,q⟩=>thn (ha Ψ s1 σ H1 _ I1 q) λov s2 ⟨x,H2,I2,rx,a,dx,t,fs,ex,ey,ea,ed,hl,hf,q2⟩=>?_) hs;subst ex ey;obtain rfl:ov=c5 a:=rx;obtain⟨tk,rfl⟩:∃tk,u=jz t tk:=ry;obtain⟨⟨t0,ht0⟩,_⟩:=I2.hok a _ ea;obtain⟨⟨mA,n,wi,hm⟩,_⟩:=I2.hok dx _ ed;obtain⟨hh,g,d,tt,os⟩:=s2;refine aE9 I2.kIn M.cl M.sa hn M.ob ht0 rfl rfl rfl n wi (by rw[aE];lia) λh' tk' n1 sb=>?_
 have xd:XD dx (fs++[(f,t)]) h':=by
  refine⟨_,n1,λg hg=>?_,λg=>?_⟩
  .rw[bE];by_cases z:g=f
   .simp[z]
   .exact fN _ (wi g (by simpa[z] using hg))
  .rw[List.lookup_append];by_cases z:g=f
   .subst z;rw[hf];show match (aj.or ([(g,t)].lookup g)) with|some t=>_|none=>_
    rw[AV];exact⟨tk,ar rfl⟩
   .have e1:[(f,t)].lookup g=aj:=by rw[fS,df.mpr z];rfl
    have:=hm g;rw[e1,Option.or_none];rw[aw z];exact this
 have mu:L2.Mut (H2 dx):=by rw[ed];exact True.intro
 obtain⟨oo,eo⟩:∃oo,h'.get? dx=ae oo:=let ⟨o,_,_,e,_⟩:=n1;⟨o,e⟩
 exact⟨σ,_,I2.write (x:=dx) (e:=dx) (t':=tk') mu (.inl rfl) (λb u hb z=>(sb.2 b hb).trans z) ⟨oo,eo⟩ (aMi xd),q2⟩
theorem aEa{P:bp}{w:bj}{K:Frag}{mg:Str->av am}{base:az}{x qual:Str}{st:bi}{fad C M:ak}{fd:c6}{N ps:aa Str}{f1 f2:Str}{k:af}(F:Fun K x qual st fad fd)(S:cA N ps (aL st))(hN:N.length=3)(hp:ps.length=3)(hne:f2≠f1)
 (hbody:∀(cdv:am) (A:cj) (outer:aa cx) (s:au) (H:Hp) (E:XK),lR k (A.deeper (bS qual (aL st) s.heap.objs.size fad cdv))->
   PSs (nA CX0 P w K mg base N qual (aL st) fad cdv A outer s H E).nox (fW st) (aFj (aGw (tBase C (WX (WM 0) (WX (WM 1) (WX (WM 2) aOz))))) (aFj (aIe C f1 (WM 0) (WM 1)) (aMo C f2 (WM 0) (WM 2))))):uO P w K mg base CX0 (k+1) fad fd ps (n_ C [f1,f2]):=by
 refine F.ok S (λvs H Q E ⟨e,ts,h1,h2,_⟩=>by rw[h1,hp];simp at h2;simp[h2]) λcdv A outer s H vs Q E hr ⟨e,ts,h1,h2,h3,h4⟩=>⟨_,hbody cdv A outer s H E hr,?_⟩
 obtain⟨t,u,rfl⟩:∃t u,ts=[t,u]:=by
  match ts,h2 with
  |[t,u],_=>exact⟨t,u,rfl⟩
 subst h1;have e0:L2.start N [V.ref e,V.str t,V.str u]=[ae (V.ref e),ae (V.str t),ae (V.str u)]:=by
  unfold L2.start;rw[hN];rfl
 show aFj _ _ _ (L2.start N [V.ref e,V.str t,V.str u]) H;rw[e0];refine⟨.ref e,rfl,.str t,rfl,.str u,rfl,e,[.str t,.str u],rfl,show 2<=aI from by decide,h3,?_⟩;refine⟨.str t,rfl,.ref e,rfl,e,t,rfl,rfl,h3,λdx hd=>?_⟩;have ne:dx≠e:=λz=>by rw[z,h3] at hd;cases hd
 refine⟨.str u,rfl,.ref e,rfl,e,dx,u,[(f1,t)],rfl,rfl,aO,by rw[bY ne];exact aO,by simp,by rw[fS,df.mpr hne];rfl,?_⟩;have eq:upd (upd (upd H dx (.ext (XD dx [(f1,t)]))) e (.ext (XO1 e C dx))) dx (.ext (XD dx ([(f1,t)]++[(f2,u)])))=upd (upd H dx (.ext (XD dx ([f1,f2].zip [t,u])))) e (.ext (XO1 e C dx)):=by
  funext b
  unfold upd;by_cases hb:b=dx
  .have hb2:b≠e:=λz=>ne (hb.symm.trans z)
   rw[ar hb,aw hb2,ar hb];rfl
  .rw[aw hb];by_cases hb2:b=e
   .rw[ar hb2,ar hb2]
   .rw[aw hb2,aw hb2,aw hb,aw hb]
 show Q .non _;rw[eq];exact h4 dx hd
end Mi
namespace Mi
open PySem L2 PySem.SeqAt PySem.Spec PyProof.Rows
def aQm:D->D->D->D->Res D
 |.str a,.bl i,.str b,.bl j=>.ok (.dct (putD [(.str a,.bl i)] (.str b) (.bl j)))
 |_,_,_,_=>.bad
def aBe(k v l w:FE):FE:=λρ=>do
 let k <- k ρ
 let v <- v ρ
 let l <- l ρ
 let w <- w ρ
 aQm k v l w
section
variable [KFrag]
section
variable {X:Cx} {pos:b6}
theorem aIn{k1 k2 v1 v2:Expr}{g1 g2 h1 h2:FE}{r1 r2 r3 r4:aq}(hk1:PE X k1 (gE g1 r1))(hv1:PE X v1 (gE h1 r2))(hk2:PE X k2 (gE g2 r3))(hv2:PE X v2 (gE h2 r4)):PE X (.Dict [ae k1,ae k2] [v1,v2] pos) (gE (aBe g1 h1 g2 h2) ag):=
 PE.imp (aHe (T6 hk1 hv1 (T6 hk2 hv2 aHd)) rfl rfl 0x2 (A8 rfl)) λσ H Q ⟨ρ,d,E,h,q⟩=>by
 obtain⟨a1,e1,hA⟩:=bG h;obtain⟨a2,e2,hB⟩:=bG hA;obtain⟨a3,e3,hC⟩:=bG hB;obtain⟨a4,e4,hD⟩:=bG hC;clear h hA hB hC;unfold aQm at hD;split at hD
 .rename_i x i y j;cases hD;intro p hp;have s0:dH H (upd H p (.dK [])):=dH.upd hp;refine⟨ρ,_,E.same s0,e1,λw1 H1 s1 q1 _=>?_⟩;cases q1.inv;refine⟨ρ,_,(E.same s0).same s1,e2,λw2 H2 s2 q2 _=>?_⟩;cases q2.inv;refine⟨ρ,_,((E.same s0).same s1).same s2,e3,λw3 H3 s3 q3 _=>?_⟩;cases q3.inv;refine⟨ρ,_,(((E.same s0).same s1).same s2).same s3,e4,λw4 H4 s4 q4 _=>?_⟩;cases q4.inv;have sm:dH (upd H p (.dK [])) H4:=((s1.trans s2).trans s3).trans s4;refine⟨sm _ _ aO,[(.inr x,.bl i),(.inr y,.bl j)],rfl,A8 rfl,?_⟩;have sf:dH H (upd H4 p (.dK (lA [] [(d6 x,V.bl i),(d6 y,V.bl j)]))):=λb o e=>by
   rw[bY (dG e hp)];exact sm b o (s0 b o e)
  have rk:∀P:ak->Prop,n6 P (upd H4 p (.dK (lA [] [(d6 x,V.bl i),(d6 y,V.bl j)]))) (putK [(d6 x,V.bl i)] (d6 y) (V.bl j)) (putD [(.str x,.bl i)] (.str y) (.bl j)):=λP=>yE (k:=.inr y) (.bl j) (.cons (k:=.inr x) (.bl i) .nil) 0x2
  have nd:((putK [(d6 x,V.bl i)] (d6 y:Key) (V.bl j)).map (·.1)).Nodup:=m5 0x2;exact q _ _ sf (.dK aO trivial (rk All) nd) λ_=>.dK aO hp (rk _) nd
 .exact bx hD
end
end
open PySem.W
def aK1(c f:Str)(i:af)(ρ:aa D)(d:D):Res Fl:=
 match ρ.getD i .uD with
 |.dct kvs=>if ϒ (kvs.length<lim)&&wU kvs d then (match dB kvs d with
  |none=>.ok (.nx (ρ.set i (.dct (putD kvs d (.bl ag)))))
  |some _=>(match d with
   |.str t=>.err c [.exc c [(f,t)]]
   |_=>.bad)) else .bad
 |_=>.bad
def sY(c f:Str)(i:af)(fe:FE):FS:=λρ=>do
 let d <- fe ρ
 aK1 c f i ρ d
section
variable [KFrag]
def aMp(c f:Str):Sp:=λvs H Q E=>∃(a:ak)(v:V)(kvs:aa (D×D))(k:D),vs=[.ref a,v]/\Rep All H (.ref a) (.dct kvs)/\Rep All H v k/\θ (kvs.map (·.2))=ag/\kvs.length<aI/\wU kvs k=ag/\
 ((dB kvs k=aj/\∀H1 o,dH H H1->T_ o=ag->Rep All (upd H1 a o) (.ref a) (.dct (putD kvs k (.bl ag)))->Q .non (upd H1 a o))\/((dB kvs k).isSome=ag/\∃t,k=.str t/\I_ E H c [.exc c [(f,t)]]))
def aBf(P:bp)(w:bj)(K:bn)(mg:Str->av am)(base:az)(k:af)(x c f:Str):Prop:=
 ∃(fad:ak)(fd:c6)(ps:aa Str),uO P w K mg base (CX2 P w) k fad fd ps (aMp c f)/\mg x=ae (.ref fad)/\iq K (.ref fad)=ag/\Binds K fd ps []
def aPm(c f:Str)(E:XK):TS:=aFj (aQd (gT (bTB (b2 (cX .isin) gC fX))) (tZ (λ_=>ah) E (iC c [f] (noE (aC gC aR)))) aKe) (aMl 0 gC (bC (.bl ag)))
theorem aMq{P:bp}{w:bj}{K:bn}{mg:Str->av am}{base:az}{x c f:Str}{k:af}{st:bi}{fad:ak}{fd:c6}{N ps:aa Str}(F:Fun K x x st fad fd)(hm:mg x=ae (.ref fad))(hb:Binds K fd ps [])(S:cA N ps (aL st))(hp:ps.length=2)(hN:N.length=2)
 (hbody:∀(cdv:am) (A:cj) (outer:aa cx) (s:au) (H:Hp) (E:XK),lR k (A.deeper (bS x (aL st) s.heap.objs.size fad cdv))->PSs (nA (CX2 P w) P w K mg base N x (aL st) fad cdv A outer s H E) (fW st) (aPm c f E)):aBf P w K mg base (k+1) x c f:=by
 refine⟨fad,fd,ps,?_,hm,F.kp,hb⟩;obtain⟨oc,od,kV,doc,pm,an,cdv,ct,osl,rfl,lk,hcd⟩:=F.ex;refine aH3 lk hcd S (λvs H Q E ⟨a,v,_,_,e,_⟩=>by rw[e,hp];rfl) λA outer s H vs Q E hr ⟨a,v,kvs,kd,e,r,rk,hin,hl,hf,hn⟩=>⟨_,hbody cdv A outer s H E hr,?_⟩
 subst e;have hst:L2.start N [V.ref a,v]=[ae (.ref a),ae v]:=by
  unfold L2.start;rw[hN];rfl
 have hv:=aIh hf (.dct kvs);have E0:ER H (L2.start N [V.ref a,v]) [.dct kvs,kd]:=λi hi=>by
  rw[hst]
  match i,hi with
  |0,_=>exact⟨_,rfl,r⟩
  |1,_=>exact⟨_,rfl,rk⟩
  |n+2,hi=>exact aT rfl hi
 rcases hn with ⟨hn,q⟩|⟨hn,t,rfl,q⟩
 .refine⟨[.dct kvs,kd],ah,E0,?_,λH1 s1=>?_⟩
  .have hc:cX .isin kd (.dct kvs)=.ok (.bl ah):=by
    show(if wU kvs kd then δ (υ (dB kvs kd).isSome) else .bad)=_;rw[ar hf,hn];rfl
   exact dO (aJ hv rfl hc)
  .dsimp only;rw[aw 0x2];exact⟨_,kd,.bl ag,kvs,a,E0.same s1,rfl,hv,by rw[hst];rfl,r.same s1,hin,hl,hf,rfl,λH2 o s2 hmo rp=>q H2 o (s1.trans s2) hmo rp⟩
 .refine⟨[.dct kvs,.str t],ag,E0,?_,λH1 s1=>?_⟩
  .have hc:cX .isin (.str t) (.dct kvs)=.ok (.bl ag):=by
    show(if wU kvs (.str t) then δ (υ (dB kvs (.str t)).isSome) else .bad)=_;rw[ar hf,hn]
   exact dO (aJ hv rfl hc)
  .dsimp only;rw[ar rfl];have no:∀a',¬Own (λ_=>ah) (L2.start N [V.ref a,v]) a':=λa' ⟨i,hi,_⟩=>by cases hi
   refine⟨[.dct kvs,.str t],⟨by rw[hst];rfl,λi hi=>?_,λi v hi _=>by cases hi⟩,?_⟩
   .obtain⟨v,h1,h2⟩:=E0 i hi;exact⟨v,h1,λ_=>(h2.same s1).mono λa' _=>no a'⟩
   .obtain⟨fs,C,e1,e2,e3⟩:=q;exact⟨fs,C,e1,e2,λσ' H' dx ku xd=>e3 H' dx (s1.trans λb ob e=>(ku b ob e (no b)).1) xd⟩
section
variable {P:bp} {w:bj} {K:bn} {mg:Str->av am} {base:az} {N:aa Str} {qual:Str} {scope:el} {fad:ak} {cd:am} {A:cj} {outer:aa cx} {s:au} {H:Hp} {E:XK} {own:af->aq} {pos posE:b6} {e:Expr} {fe:FE} {re:aq}
theorem aEb{x y c f:Str}{p py:b6}{k k' i:af}(C:aBf P w K mg base k x c f)(hr:lR k' (A.deeper (bS qual scope s.heap.objs.size fad cd)))(hkk:k<=k')(hg:Gl (nA (CX2 P w) P w K mg base N qual scope fad cd A outer s H E) x)(ho:own i=ag)(hN:N[i]?=ae y)(hv:Vis scope y)(he1:PE (nA (CX2 P w) P w K mg base N qual scope fad cd A outer s H E) e (gE fe re))(hdb:nDb x:=by decide)(hd:(y==("__debug__" : Str))=ah:=by decide)(hcd:(y==("__classdict__" : Str))=ah:=by decide)
 (he:bP [.Name y py,e] (bS qual scope s.heap.objs.size fad cd)=(ah,eval (.Name y py) (bS qual scope s.heap.objs.size fad cd))::bP [e] (bS qual scope s.heap.objs.size fad cd):=by rfl)(he2:bP [e] (bS qual scope s.heap.objs.size fad cd)=(ah,eval e (bS qual scope s.heap.objs.size fad cd))::bP [] (bS qual scope s.heap.objs.size fad cd):=by rfl)(hpl:(fg pos (bP [e] (bS qual scope s.heap.objs.size fad cd))).any (·.1)=ah:=by rfl)
 (hs:dy (.Call (.Name x p) [.Name y py,e] [] pos) aj posE.line (bS qual scope s.heap.objs.size fad cd)=pure ah:=by rfl) :
  PS (nA (CX2 P w) P w K mg base N qual scope fad cd A outer s H E) (.Expr (.Call (.Name x p) [.Name y py,e] [] pos) posE) (tZ own E (sY c f i (noE fe))):=by
 obtain⟨fm,fdm,ps,F,hm,hk,hb⟩:=C;refine PS.imp (nF (vR F (hr.mono hkk) hg hm hk hb .nil v_ (bV (cZ hN hv hd hcd) (bV he1 jH he2) he) hdb he hpl) hs) λD' σ H1 ⟨ρ,es,k⟩=>?_
 rcases uE (f:=fe) (ρ:=ρ) with ⟨d,h1,h2⟩|h2
 .have e:sY c f i (noE fe) ρ=aK1 c f i ρ d:=by unfold sY;rw[h2];rfl
  rw[e] at k;unfold aK1 at k;split at k
  .rename_i kvs hx;split at k
   .rename_i hg;rw[bf] at hg;obtain⟨a,o,hσ,r,hin,ha,hm'⟩:=es.ownAt ho (by rw[hx];intro z;cases z);rw[hx] at r hin;refine⟨_,hσ,ρ,d,es.er,h1,λv H2 s1 r1 _=>⟨a,v,kvs,d,rfl,r.same s1,r1,hin,UT hg.1,hg.2,?_⟩⟩;split at k
    .rename_i hnone;refine .inl ⟨hnone,λH3 o2 s2 hmo rp=>?_⟩;have sm:=s1.trans s2;obtain⟨E2,k2⟩:=(es.same sm).mut ho hσ hmo rp (sG rfl hin);exact k _ _ ((KU.same sm).trans k2) E2
    .rename_i hsome;split at k
     .obtain⟨fs,C,e1,e2,e3⟩:=aCu.expr k;exact .inr ⟨by rw[hsome];rfl,_,rfl,fs,C,e1,e2,λH3 dx s2 x=>e3 H3 dx (s1.trans s2) x⟩
     .exact k.elim
   .exact k.elim
  .exact k.elim
 .have e:sY c f i (noE fe) ρ=.bad:=by unfold sY;rw[h2];rfl
  rw[e] at k;exact k.elim
end
end
variable [KFrag]
def kZA(E:XK)(H:Hp)(Q:aa V->Hp->Prop):Res (aa D)->Prop
 |.ok ds=>∀vs H',dH H H'->cN All H' vs ds->Q vs H'
 |.err c as=>I_ E H c as
 |.bad=>cK
noncomputable def gZA(E:XK)(f:FA):TA:=λσ H Q=>∃ρ,ER H σ ρ/\kZA E H Q (f ρ)
section
variable {X:Cx} {E:XK} {e:Expr} {es:aa Expr} {fe:FE} {f:FA} {r re:aq}
theorem I_.same(h:I_ E H c as)(s:dH H H'):I_ E H' c as:=let ⟨fs,C,h1,h2,h3⟩:=h;⟨fs,C,h1,h2,λH2 dx s2 x=>h3 H2 dx (s.trans s2) x⟩
theorem JD(he:PE X e (gE fe re))(hes:PA X es (gZA E f))(hs:zSE X e es:=by rfl):PA X (e::es) (gZA E (aC (noE fe) f)):=PA.imp (bV he hes hs) λσ H Q ⟨ρ,er,k⟩=>by
 rcases uE with ⟨x,h1,h2⟩|h2
 .refine⟨ρ,x,er,h1,λv H1 s1 r1 n1=>⟨ρ,er.same s1,?_⟩⟩;cases hf:f ρ with
  |ok xs=>
   have e0:aC (noE fe) f ρ=.ok (x::xs):=by unfold aC;rw[h2];show(f ρ >>= _)=_;rw[hf];rfl
   rw[e0] at k;exact λvs H2 s2 r2=>k _ _ (s1.trans s2) (.cons (r1.same s2) r2)
  |err c as=>
   have e0:aC (noE fe) f ρ=.err c as:=by unfold aC;rw[h2];show(f ρ >>= _)=_;rw[hf];rfl
   rw[e0] at k;exact I_.same k s1
  |bad=>
   have e0:aC (noE fe) f ρ=.bad:=by unfold aC;rw[h2];show(f ρ >>= _)=_;rw[hf];rfl
   rw[e0] at k;exact k
 .have e0:aC (noE fe) f ρ=.bad:=by unfold aC;rw[h2];rfl
  rw[e0] at k;exact k.elim
theorem aIo(he:PE X e (gZ E fe))(hes:PA X es (gA f r))(hs:zSE X e es:=by rfl):PA X (e::es) (gZA E (aC fe (noE f))):=PA.imp (bV he hes hs) λσ H Q ⟨ρ,er,k⟩=>by
 refine⟨ρ,er,?_⟩;cases hx:fe ρ with
 |ok x=>
  intro v H1 s1 r1 n1;rcases uE with ⟨xs,h1,h2⟩|h2
  .have e0:aC fe (noE f) ρ=.ok (x::xs):=by unfold aC;rw[hx];show(noE f ρ >>= _)=_;rw[h2];rfl
   rw[e0] at k;exact⟨ρ,xs,er.same s1,h1,λvs H2 s2 r2 _=>k _ _ (s1.trans s2) (.cons (r1.same s2) r2)⟩
  .have e0:aC fe (noE f) ρ=.bad:=by unfold aC;rw[hx];show(noE f ρ >>= _)=_;rw[h2];rfl
   rw[e0] at k;exact k.elim
 |err c as=>
  have e0:aC fe (noE f) ρ=.err c as:=by unfold aC;rw[hx];rfl
  rw[e0] at k;exact k
 |bad=>
  have e0:aC fe (noE f) ρ=.bad:=by unfold aC;rw[hx];rfl
  rw[e0] at k;exact k
end
section
theorem aEc{P:bp}{w:bj}{K:bn}{mg:Str->av am}{base:az}{N:aa Str}{qual:Str}{scope:el}{fad C:ak}{cd:am}{A:cj}{outer:aa cx}{s:au}{H:Hp}{E:XK}(R:m9 P w K mg base k x n v)(hr:lR k' (A.deeper (bS qual scope s.heap.objs.size fad cd)))(hkk:k<=k')(hg:Gl (nA (CX2 P w) P w K mg base N qual scope fad cd A outer s H E) x)(ha:PA (nA (CX2 P w) P w K mg base N qual scope fad cd A outer s H E) (e::es) (gZA E fa))
 (hdb:nDb x:=by decide)(he:bP (e::es) (bS qual scope s.heap.objs.size fad cd)=(ah,eval e (bS qual scope s.heap.objs.size fad cd))::bP es (bS qual scope s.heap.objs.size fad cd):=by rfl)(hpl:(fg cpos (bP es (bS qual scope s.heap.objs.size fad cd))).any (·.1)=ah:=by rfl) :
  PE (nA (CX2 P w) P w K mg base N qual scope fad cd A outer s H E) (.Call (.Name x p) (e::es) [] cpos) (gZ E (aX (mW n v) fa)):=by
 obtain⟨fm,fdm,ps,F,hm,hk,hb⟩:=R;refine PE.imp (vR F (hr.mono hkk) hg hm hk hb .nil v_ ha hdb he hpl) λσ H1 Q ⟨ρ,er,k⟩=>?_
 refine⟨ρ,er,?_⟩;cases hf:fa ρ with
 |ok ds=>
  have e:aX (mW n v) fa ρ=mW n v ds:=by unfold aX;rw[hf];rfl
  rw[e] at k;unfold mW at k;split at k
  .rename_i hl;refine λvs H' sm rs=>⟨ds,c9 hl,by rw[dg];exact rs,?_⟩
   cases hv:v ds with
   |ok d=>rw[hv] at k;exact kR.imp k sm id
   |err c as=>rw[hv] at k;exact I_.same k sm
   |bad=>rw[hv] at k;exact k
  .exact k.elim
 |err c as=>
  have e:aX (mW n v) fa ρ=.err c as:=by unfold aX;rw[hf];rfl
  rw[e] at k;exact k
 |bad=>
  have e:aX (mW n v) fa ρ=.bad:=by unfold aX;rw[hf];rfl
  rw[e] at k;exact k.elim
end
end Mi
namespace Mi
open PySem L2 PySem.SeqAt PySem.Spec PyProof.Rows
def aEd(i:af)(f:FX):FS:=λρ=>do
 let p <- f ρ
 match ρ.getD i .uD,p.2.getD i .uD with
 |.lst _,.lst xs=>if ϒ (xs.length<lim)&&p.1.pure then .ok (.nx (p.2.set i (.lst (xs++[p.1])))) else .bad
 |_,_=>.bad
section
variable [KFrag]
section
variable {X:Cx} {own:af->aq} {e:Expr} {pos:b6} {xe:FX}
theorem aIp(ho:own i=ag)(hN:X.N[i]?=ae x)(hv:Vis X.env.scope x)(he:PE X e (gX own xe))(hd:nDb x:=by decide)(hcd:nCd x:=by decide)
 (hbase:hG (.Name x p1) "append" X.env (eval (.Name x p1) X.env)=eval (.Name x p1) X.env:=by rfl)
 (hs1:zSE X e []:=by rfl)
 (hfew:zFw X cpos [e]:=by rfl)
 (hline:(apos.endLine==cpos.line)=ag:=by rfl)
 (hs:dy (.Call (.Attribute (.Name x p1) "append" apos) [e] [] cpos) aj pos.line X.env=pure ah:=by rfl) :
  PS X (.Expr (.Call (.Attribute (.Name x p1) "append" apos) [e] [] cpos) pos) (tS own (aEd i xe)):=
 PS.imp (nF (aD7 mq vj zI yP (cZ hN hv hd hcd) (bV he jH hs1) hbase hfew hline hs1 rfl) hs) λD' σ H z0=>by
 obtain⟨ρ,fl,E,h,q⟩:=z0;obtain⟨⟨d,ρ'⟩,h1,h2⟩:=bG h;dsimp only at h2;split at h2
 .rename_i xs0 xs hx0 hx;split at h2
  .rename_i hk;cases h2;rw[bf] at hk;obtain⟨a,o,hσ,r,hin,ha,hm⟩:=E.ownAt ho (by rw[hx0];intro z;cases z);rw[hx0] at r;obtain⟨vs,hl,rr⟩:=FZ r;refine⟨_,hσ,.inl ⟨rfl,vs,.of hl⟩,ρ,_,ρ',E,h1,λv H' k E' ns rv=>?_⟩;obtain⟨a2,o2,hσ2,r2,hin2,ha2,hm2⟩:=E'.ownAt ho (by rw[hx];intro z;cases z);rw[hσ] at hσ2;cases hσ2;rw[hx] at r2 hin2;obtain⟨vs2,hl2,rr2⟩:=FZ r2;refine⟨a,vs2,v,rfl,rfl,hl2,by rw[rr2.length];exact UT hk.1,?_⟩;have hp:θ (xs++[d])=ag:=by
    rw[uX];simp only[bf];exact⟨hin2,by simp[θ,hk.2]⟩
   obtain⟨E2,k2⟩:=E'.mut ho hσ rfl (.lst aO trivial ((rr2.snoc rv.all).upd hp hl2 rfl)) hp;exact q _ _ (k.trans k2) E2
  .exact bx h2
 .exact bx h2
end
end
noncomputable def zR(o:Z1):D->D->Res D
 |.int a,.int b=>.ok (.bl (o.int a b))
 |.str a,.str b=>.ok (.bl (o.str a b))
 |_,_=>.bad
section
variable [KFrag]
theorem aIq{X:Cx}{op:oI}{o:Z1}(hi:∀(prog:bp) (w:bj) (A:cj) (E:am->au->Prop) (Q:am->au->Prop) (s:au) (i j:ai) (t t':ff),Q (.bool (o.int i j)) s->ϑ (ax prog w) A (eu op (.int i t) (.int j t')) Q E s)
 (hs:∀(prog:bp) (w:bj) (A:cj) (E:am->au->Prop) (Q:am->au->Prop) (s:au) (i j:Str) (t t':ff),Q (.bool (o.str i j)) s->ϑ (ax prog w) A (eu op (.str i t) (.str j t')) Q E s):OpR X (eu op) (r2 (zR o) ag):=by
 intro Ψ s σ H x y v u Q I rx ry ⟨a,b,d,p,q,e,k⟩;unfold zR at e;split at e
 .cases e;cases p.inv;cases q.inv;obtain⟨t,rfl⟩:=rx;obtain⟨t',rfl⟩:=ry;exact hi _ _ _ _ _ _ _ _ _ _ ⟨.bl _,H,I,rfl,k.bl⟩
 .cases e;cases p.inv;cases q.inv;obtain⟨t,rfl⟩:=rx;obtain⟨t',rfl⟩:=ry;exact hs _ _ _ _ _ _ _ _ _ _ ⟨.bl _,H,I,rfl,k.bl⟩
 .exact bx e
theorem O6{X:Cx}:OpR X (eu .Lt) (r2 (zR .lt) ag):=aIq (λ_ _ _ _ _ _ _ _ _ _ h=>lt_int h) λ_ _ _ _ _ _ _ _ _ _ h=>lt_str h
theorem aPn{X:Cx}:OpR X (eu .LtE) (r2 (zR .le) ag):=aIq (λ_ _ _ _ _ _ _ _ _ _ h=>le_int h) λ_ _ _ _ _ _ _ _ _ _ h=>PySem.P.le_str h
theorem aPo{X:Cx}:OpR X (eu .Gt) (r2 (zR .gt) ag):=aIq (λ_ _ _ _ _ _ _ _ _ _ h=>gt_int h) λ_ _ _ _ _ _ _ _ _ _ h=>PySem.P.gt_str h
end
def aEe:aa D->Res D
 |[.dct kvs]=>if kvs.all (λp=>!isTup p.1)&&θ (kvs.map (·.2)) then .ok (.dct kvs) else .bad
 |_=>.bad
variable [KFrag]
section
variable {X:Cx} {Ψ:aa (ak×bd)} {σ:L2.St} {H:Hp} {s:au}
theorem aMr(I:Inv X Ψ σ H s){x:V}{ds:aa (D×D)}(r:Rep All H x (.dct ds))(ht:∀p∈ds,isTup p.1=ah):∃(a:ak)(kvs:aa (Key×V))(vs:aa (Key×am)),x=.ref a/\(a==gf)=ah/\n6 All H kvs ds/\KV kvs vs/\s.heap.DictOf (fK X.prog X.w) a vs/\kvs.length<=aI/\(kvs.map (·.1)).Nodup:=by
 cases r with
 |@dK a k _ e _ r n=>
  obtain⟨z,sm,v,rel,dd⟩:=W4 I.hok e;exact⟨a,k,v,rfl,sm,r,rel,dd,z,n⟩
 |@dT a k _ e _ r n=>
  cases r with
  |cons r t=>exact aT (ht _ (bq ..)) (by simp[isTup])
  |nil=>
   obtain⟨_,sm,xs,pr,o,es,ep,ho,hx,hd,he,_⟩:=I.hok a _ e;cases pr;obtain rfl:es=#[]:=by simpa using he
   exact⟨a,[],[],rfl,sm,.nil,.nil,⟨o,#[],ep,ho,hx,hd,λe he=>aT he 0x2,by constructor,by simp⟩,by simp,by simp⟩
theorem aEf:sV X (.type "dict") (rs aEe ag):=by
 intro Ψ s σ H xs us Q I vr ⟨ds,d,r,e,k⟩;unfold aEe at e;split at e
 .rename_i kvs;split at e
  .rename_i hl;rw[bf] at hl;cases e;obtain⟨vv,uu,rfl,rfl,r,v⟩:=n8 r vr;have ht:∀p∈kvs,isTup p.1=ah:=λp hp=>by simpa using fT.mp hl.1 p hp
   obtain⟨a,kv,vs,rfl,sm,rk,rel,dd,z,n⟩:=aMr I r ht;cases v;refine kt_call_dict sm dd (by rw[<-rel.length];exact z) λh' dd' hs=>?_
   have hp:H s.heap.objs.size=aj:=I.hok.fresh (br _);have I':=I.laid (a:=s.heap.objs.size) (o:=.dK kv) (h':=h') (t':=s.toks) (λb q hq=>(hs.2 b (c_ (bX hq))).trans (cu _ hq)) (br _) (T4 z (df.mpr (Ne.symm (c_ I.big))) rel dd');have sp:dH H (upd H s.heap.objs.size (.dK kv)):=dH.upd hp;have ku:∀{P:ak->Prop},n6 P (upd H s.heap.objs.size (.dK kv)) kv _:=λ{P}=>(n6.cJ rk hl.2).keep (.same sp) λ_ h=>h
   exact⟨.ref _,_,I',rfl,k _ _ sp (.dK aO trivial ku n) λ_=>.dK aO hp ku n⟩
  .exact bx e
 .exact bx e
end
end Mi
section
local macro_rules | `(tactic| trivial) => `(tactic| first | exact Or.inl rfl | exact Or.inr rfl | exact Or.inr (Or.inl rfl) | exact Or.inr (Or.inr rfl))
namespace Lk48
open PySem L2 Mi PySem.W
local macro_rules|`(0xb)=>`(eE (["row"]:List Str))|`(0xc)=>`((["row"]:List Str))|`(0xd)=>`(aB aA (aB aA aH))|`(0xe)=>`(aU aA aF)|`(0xf)=>`(aB aA aH)|`(0x10)=>`(aW .add)
noncomputable def top(i:af):bi:=PySem.Challenge.pw_hookmill_k48_not_sound.main.body.getD i (.Pass ⟨0,0,0,0⟩)
abbrev uK:bi:=top 29
noncomputable def R9:af->aq:=λi=>i==0||i==1000000
def zT:FS:=a_ (b7 ah 1 (b2 getD fX eU) ah) (a_ (b7 ah 2 (b2 getD fX cO) ah) (a_ (XH 0 cO (b2 0x10 dW cO)) (a_ (sIf (bTB (b2 (zR .lt) dW (aX h_ (aC gC aR)))) (MK (b2 getD gC dW) ah) kO) (a_ (sIf (bTB (b2 (cX .eq) (aX h_ (aC gC aR)) eU)) (MK (b2 0x10 (b2 QW (b2 QW dW dW) nC) dW) ag) kO) (MK (b2 0x10 (b2 (aW .fdiv) (b2 getD gC (b2 (aW .mod) dW (aX h_ (aC gC aR)))) fQ) (b2 QW dW dW)) ag)))))
def bK:aa D->Res D:=fnX 1 1 3 zT
abbrev jQ:bi:=top 30
noncomputable def O7:af->aq:=λi=>i==0||i==9||i==1000000
def nb:FS:=a_ (b7 ah 11 (b2 (aW .mod) (b2 0x10 (b2 QW dJ fY) g_) xO) ag) (sIf (bTB (b2 (cX .eq) (b2 (aW .mod) dW nC) cO)) (aCs 9 (b2 QW (b2 getD gC (b2 (aW .mod) (b2 0x10 g_ (b2 (aW .mod) iK RD)) xO)) (b2 0x10 cO (b2 (aW .fdiv) iK RD)))) (sIf (bTB (b2 (cX .eq) (b2 (aW .mod) dW nC) fQ)) (a_ (b7 ah 12 (b2 getD gC (b2 (aW .mod) (b2 0x10 g_ (b2 (aW .mod) iK aCr)) xO)) ah) (a_ (b7 ah 13 (b2 getD gC (b2 (aW .mod) (b2 0x10 g_ (b2 (aW .fdiv) iK aCr)) xO)) ah) (aCs 9 (b2 0x10 (b2 0x10 (b2 0x10 (eG fG cF (bW jO)) mJ) oF) (eG fG (bW jO) cF))))) (aCs 9 (b2 0x10 (b2 0x10 (eG fG cF (bW jO)) (b2 getD gC iK)) (eG fG (bW jO) cF)))))
def sg0:FS:=lU ah 2 (gG bK 1 0 aR)
def O8:FS:=a_ (b7 ah 1 (bC (.str "abcdefghijklmnopqrstuvwxyz")) ag) (a_ sg0 (a_ (b7 ah 3 (b2 getD (sW (aC cO (aC nC (aC T7 (aC (bC (.int 7)) (aC aFp (aC (bC (.int 25)) aR))))))) (b2 (aW .mod) (b2 (aW .fdiv) dW nC) aCr)) ah) (a_ (b7 ah 4 (b2 (aW .mod) (b2 (aW .fdiv) dW Z2) xO) ag) (a_ (lU ah 5 (gG bK 1 0 aR)) (a_ (b7 ah 6 (b2 (aW .mod) fP aHj) ag) (a_ (b7 ah 7 (bM joinM (bC (.str "")) (aC (dM 14 (sX (aC eF aR) mX) mK iU (b2 getD gC (b2 (aW .mod) (b2 0x10 (b2 (aW .fdiv) fP aHj) (b2 QW jG (b2 0x10 g_ (b2 (aW .mod) (b2 (aW .fdiv) fP aHk) T7)))) xO)) ah) aR)) ag) (a_ (lU ah 8 (x2L (aW .mod) (gG bK 1 0 aR) (b2 0x10 eF cO))) (a_ (sIf (bTB (b2 (cX .eq) (b2 (aW .mod) dW nC) fQ)) (b7 ah 7 (eG fG cF (bW aCr)) ag) kO) (a_ (b7 ag 9 (sW aR) ag) (a_ (FP (sX (aC xO aR) mX) (tg1 10) nb) (a_ (sIf (bOr (bTB (b2 inX (bC (.str "copy")) gD)) (bTB (b2 inX (bC (.str "drop")) gD))) (b7 ag 9 (dM 14 (bT gD ah) mK iU (b2 0x10 jG (bC (.str "e"))) ag) ag) kO) (FN 9))))))))))))
def jR:aa D->Res D:=fnX 1 1 14 O8
abbrev k_:bi:=top 31
noncomputable def X5:af->aq:=λi=>i==0||i==4||i==5||i==10||i==1000000
def tkb:FS:=a_ (lU ah 7 (gG bK 1 0 aR)) (a_ (b7 ah 11 (dM 12 (sX (aC (b2 (aW .mod) (b2 (aW .fdiv) fG aFp) nC) aR) mX) mK iU (b2 getD g_ (b2 (aW .mod) (b2 (aW .fdiv) fG (b2 getD (sW (aC (bC (.int 27)) (aC (bC (.int 81)) aR))) mJ)) fY)) ah) ag) (aCs 10 (fM (aC (b2 getD gC (b2 0x10 (bC (.int 10)) eF)) (aC (b2 getD g_ (b2 (aW .mod) fG fY)) (aC (b2 getD g_ (b2 (aW .mod) (b2 (aW .fdiv) fG nC) fY)) (aC (aX gU (aC iK aR)) aR)))))))
def sg7:FS:=aDy (aOf (x2R 0x10 cO (x2L (aW .mod) (gG bK 1 0 aR) nC))) (tg1 6) tkb
def mkb:FS:=a_ (lU ah 7 (gG bK 1 0 aR)) (a_ (b7 ah 8 (dM 12 (sX (aC (b2 (aW .mod) (b2 (aW .fdiv) fG nC) RD) aR) mX) mK iU (b2 getD g_ (b2 (aW .mod) (b2 (aW .fdiv) fG (b2 getD (sW (aC (bC (.int 12)) (aC (bC (.int 36)) (aC (bC (.int 108)) aR)))) mJ)) fY)) ah) ag) (aCs 5 (fM (aC (b2 getD gC (b2 0x10 (b2 0x10 nC fY) eF)) (aC (b2 getD g_ (b2 (aW .mod) fG fY)) (aC (aX gU (aC jO aR)) aR))))))
def sg4:FS:=FP (sX (aC (b2 (aW .mod) (b2 (aW .fdiv) dW nC) RD) aR) mX) (tg1 6) mkb
def sg3:FS:=b7 ag 5 (dM 12 (sX (aC fY aR) mX) mK iU (fM (aC (b2 getD gC (b2 0x10 nC mJ)) (aC (b2 getD g_ mJ) (aC (fM aR) aR)))) ah) ag
def sg8:FS:=VG (aC (bOw 4) (aC (b2 0x10 (eG fP (bW gD) cF) (eG fP cF (bW gD))) (aC (bOw 10) aR)))
def sg5:FS:=b7 ah 9 (b2 (aW .mod) (b2 (aW .fdiv) dW (bC (.int 12))) (aX h_ (aC fP aR))) ag
def sg1:FS:=b7 ah 3 (b2 0x10 cO (b2 (aW .mod) dW nC)) ag
def sg2:FS:=b7 ag 4 (eG gC cF (bW fY)) ag
def sg6:FS:=b7 ag 10 (sW aR) ag
def wB:FS:=a_ sg0 (a_ sg1 (a_ sg2 (a_ sg3 (a_ sg4 (a_ sg5 (a_ sg6 (a_ sg7 sg8)))))))
def m_:aa D->Res D:=fnX 1 2 12 wB
abbrev lX:bi:=top 32
noncomputable def O9:af->aq:=λi=>i==0||i==4||i==5||i==1000000
def wb2:FS:=b7 ah 8 (dM 10 (bT gC ah) mK (KY (bTB (b2 (cX .eq) (b2 getD dJ cO) eF)) (bTB (b2 (zR .le) (aX h_ (aC (b2 getD dJ fQ) aR)) fG))) dJ ah) ag
def wb1:FS:=b7 ah 7 (b2 (aW .sub) (b2 (aW .sub) (b2 (aW .sub) fY (aX h_ (aC g_ aR))) (aX h_ (aC fP aR))) cO) ag
def wb3:FS:=lU ah 9 (x2R getD jO (x2L (aW .mod) (gG bK 1 0 aR) (aX h_ (aC jO aR))))
def wb5:FS:=aJz 5 (b1 aGa (b2 getD gD fQ))
def wb4:FS:=aCs 4 (b2 getD gD eU)
def wb0:FS:=aAp 5 6
def wb:FS:=a_ wb0 (a_ wb1 (a_ wb2 (a_ wb3 (a_ wb4 wb5))))
def wc:FT:=bTB (b2 (cX .ne) fP (sW aR))
def O_:FS:=a_ (b7 ag 4 (sW aR) ag) (a_ (b7 ag 5 (j6 (aC dW aR)) ag) (a_ (aQj wc wb) (FN 4)))
def lY:aa D->Res D:=fnX 1 4 10 O_
abbrev iT:bi:=top 33
noncomputable def PB:af->aq:=λi=>i==0||i==5||i==1000000
def rb2:FS:=b7 ah 10 (dM 14 (sX (aC (aX h_ (aC jO aR)) aR) mX) mK iU (b2 getD fY (b2 0x10 (bC (.int 13)) (b2 (aW .mod) (b2 0x10 (aX h_ (aC fP aR)) (b2 QW jG gD)) T7))) ah) ag
def rb3:FS:=b7 ah 11 (dM 14 (sX (aC (aX h_ (aC jO aR)) aR) mX) mK iU (fM (aC (b2 getD dJ jG) (aC (b2 getD jO jG) (aC (fM aR) aR)))) ah) ag
def rb5:FS:=aCs 5 (fM (aC (b2 getD eF eU) (aC (b2 getD fG eU) (aC (aX gU (aC dJ aR)) (aC (aX gU (aC mJ aR)) aR)))))
def rb4:FS:=lU ah 12 (gG lY 4 0 (aC (b2 0x10 iK g_) (aC (bPu (b2 getD eF cO)) (aC (bPu aCr) aR))))
def rb1:FS:=b7 ah 9 (b2 0x10 cO (b2 (aW .mod) (aX h_ (aC fP aR)) RD)) ag
def rb0:FS:=b7 ah 8 (b2 nD (b2 getD fG fQ) (b2 getD eF nC)) ah
def rc:FT:=bTB (b2 (cX .eq) (b2 getD fG cO) (b2 getD eF fQ))
def ri:FS:=sIf rc (a_ rb0 (a_ rb1 (a_ rb2 (a_ rb3 (a_ rb4 rb5))))) kO
def wX:FS:=a_ (b7 ah 4 (b2 0x10 gC (dM 14 (bT dW ah) mK iU (fM (aC (b2 getD jG eU) (aC (b2 getD jG cO) (aC (b2 nD (fM (aC (b2 getD jG fQ) aR)) (b2 getD jG nC)) aR)))) ah)) ag) (a_ (b7 ag 5 (sW aR) ag) (a_ (nJ 2 (tg1 6) (nJ 1 (tg1 7) ri)) (a_ (lU ah 13 (x2L (aW .mod) (gG bK 1 0 aR) (aX h_ (aC fP aR)))) (MK (b2 0x10 (eG fP (bW oF) cF) (eG fP cF (bW oF))) ag))))
def lZ:aa D->Res D:=fnX 1 4 14 wX
abbrev jT:bi:=top 34
noncomputable def PJ:af->aq:=λi=>ah
def ta3:FS:=v9 (aC (b2 0x10 (b2 0x10 (eG fY cF (bW fG)) (j6 (aC jO aR))) (eG fY (bW (b2 0x10 fG cO)) cF)) (aC g_ (aC fP (aC jO aR))))
def ta2:FS:=b7 ah 8 (b2 getD eF (b2 (aW .mod) (b2 (aW .fdiv) gC nC) (aX h_ (aC eF aR)))) ah
def ta1:FS:=b7 ah 6 (b2 0x10 eF (eG fY cF (bW fG))) ag
def ta0:FS:=b7 ah 7 (b2 (aW .mod) gC (aX h_ (aC fY aR))) ag
def aPp:FT:=bTB (b2 (cX .eq) fX eU)
def tw2:FS:=sIf aPp (a_ ta0 (a_ ta1 (a_ ta2 ta3))) kO
def tw6:FS:=sIf (bTB (b2 (cX .eq) fX fQ)) (b7 ah 6 (b2 0x10 (b2 0x10 (sW (aC (bC (.str "copy")) (aC (bC (.str "drop")) aR))) fY) (dM 11 (bT (b2 0x10 g_ (eG fP cF (bW fG))) ag) mK iU (b2 getD iK eU) ah)) ag) kO
def tw9:FS:=sIf (bTB (b2 (cX .eq) (b2 (aW .mod) (b2 (aW .fdiv) gC Z3) fQ) cO)) (b7 ah 10 (b2 nD (fM (aC jO (aC (bC (.str "copy")) aR))) (eG (b2 getD gD fG) (bW fQ) cF)) ah) kO
def aPq:FS:=b7 ah 9 (b2 0x10 (b2 0x10 (eG gD cF (bW fG)) (j6 (aC dJ aR))) (eG gD (bW (b2 0x10 fG cO)) cF)) ag
def tw5:FS:=b7 ah 6 (b2 0x10 (b2 0x10 eF fY) (dM 11 (bT (eG g_ cF (bW fG)) ag) mK iU (b2 getD iK eU) ah)) ag
def aQn:FS:=sIf (bTB (b2 (cX .eq) fX cO)) (v9 (aC fY (aC gD (aC fP (aC jO aR))))) kO
def tw7:FS:=b7 ah 8 (b2 getD eF (b2 (aW .mod) (b2 (aW .fdiv) gC aFp) (aX h_ (aC eF aR)))) ah
def tw8:FS:=b7 ah 10 (b2 nD (fM (aC jO aR)) (eG (b2 getD gD fG) (bW cO) cF)) ah
def tw3:FS:=XN 9 (b2 getD (sW (aC g_ (aC fP aR))) (b2 (aW .sub) fX cO)) []
def tw1:FS:=b7 ah 6 (sW (aC (bC (.str "copy")) (aC (bC (.str "drop")) aR))) ag
def tw4:FS:=b7 ah 7 (b2 (aW .mod) gC (aX h_ (aC gD aR))) ag
def aQo:FS:=v9 (aC fY (aC g_ (aC gD (aC jO aR))))
def tw0:FS:=N_ dW [3,4,5] []
def l_:FS:=a_ tw0 (a_ tw1 (a_ tw2 (a_ tw3 (a_ tw4 (a_ tw5 (a_ tw6 (a_ tw7 (a_ tw8 (a_ tw9 (a_ aPq (a_ aQn aQo)))))))))))
def gH:aa D->Res D:=fnS 3 11 l_
abbrev wC:bi:=top 19
noncomputable def X6:af->aq:=λi=>i==1
def X7:FS:=a_ (b7 ag 1 (bC (.dct [])) ag) (a_ (FP (bT (b2 getD fX cO) ah) (tgN [2,3,4]) (aFq 1 dW (fM (aC fY (aC g_ aR))))) (a_ (FP (bT (b2 getD fX fQ) ah) (tgN [2,3,5,6]) (aFq 1 dW (fM (aC fY (aC (b2 nD (fM (aC fP aR)) eF) aR))))) (aHm 1)))
def sJ:aa D->Res D:=fnS 1 7 X7
abbrev zU:bi:=top 21
noncomputable def aBg:af->aq:=λi=>ah
def aBh:FS:=a_ (noE (sIf (bTB (b2 inX gC fX)) (RJ (b2 getD fX gC) ah) kO)) (a_ (noE (sIf (bTB (b2 inX gC dW)) (RJ (fM (aC (b2 getD dW gC) (aC (fM aR) aR))) ah) kO)) (iC "NoName" ["word"] (noE (aC gC aR))))
def oX:aa D->Res D:=fnS 3 3 aBh
abbrev oY:bi:=top 20
noncomputable def PK:af->aq:=λi=>i==4
def zb2:FS:=aG2 (noE (xTB (x2R (cX .ne) (bPu (b2 getD eF eU)) (HW 4)))) (iC "BadKind" ["word"] (noE (aC fP aR))) kO
def zb1:FS:=b7 ah 6 (aX (mW 3 oX) (noE (aC fX (aC fP (aC fY aR))))) ag
def zb0:FS:=sIf (noE (aL3 (bTr g_))) (iC "BadKind" ["word"] (noE (aC fP aR))) kO
def zb3:FS:=noE (aJz 4 (b1 aGa (b2 getD eF cO)))
def zb:FS:=a_ zb0 (a_ zb1 (a_ zb2 zb3))
def mC:FS:=a_ (noE (b7 ag 4 (j6 (aC dW aR)) ag)) (a_ (nJ 1 (noT (tg1 5)) zb) (sIf (noE (bTr g_)) (iC "BadKind" ["word"] (noE (aC (bC (.str "")) aR))) kO))
def jU:aa D->Res D:=fnS 4 7 mC
abbrev aIr:bi:=top 23
abbrev nQ:bi:=top 26
noncomputable def JF:af->aq:=λi=>i==6
def JG:FS:=a_ (noE (b7 ah 5 (b2 nD (b2 getD (b2 getD fX dW) cO) (eG (b2 getD (b2 getD fX gC) cO) (bW cO) cF)) ah)) (a_ (sIf (noE (bTB (b2 (cX .ne) (aX h_ (aC fY aR)) (aX h_ (aC fP aR))))) (iC "BadKind" ["word"] (noE (aC gC aR))) kO) (a_ (noE (b7 ag 6 (aX aEe (aC g_ aR)) ag)) (a_ (nJ 3 (noT (tg1 7)) (sY "Twice" "word" 6 (noE fG))) (noE (RJ (aX aAl (aC fY (aC fP aR))) ag)))))
def eZ:aa D->Res D:=fnS 5 8 JG
abbrev jB:bi:=top 25
noncomputable def JH:af->aq:=λi=>i==5
def cb5:FS:=oG (aX (mW 4 jU) (aC (noE dW) (aC (noE gD) (aC (noE (b2 getD (b2 getD dW eF) eU)) (aC (aX (mW 5 eZ) (noE (aC dW (aC eF (aC fG (aC jO (aC gC aR))))))) (noE aR))))))
def cb2:FS:=sIf (noE (bTB (b2 (cX .ne) (b2 getD (b2 getD dW fG) eU) (b2 getD (b2 getD (b2 getD dW eF) cO) eU)))) (iC "BadKind" ["word"] (noE (aC fG aR))) kO
def cb3:FS:=sIf (noE (bTB (b2 inX (fM (aC eF (aC fG aR))) fP))) (iC "Twice" ["word"] (noE (aC eF aR))) kO
def cb0:FS:=sIf (noE (bTB (b2 (cX .notin) eF g_))) (iC "NoName" ["word"] (noE (aC eF aR))) kO
def cb1:FS:=sIf (noE (bTB (b2 (cX .notin) fG fY))) (iC "NoName" ["word"] (noE (aC fG aR))) kO
def cb4:FS:=noE (aFq 5 (fM (aC eF (aC fG aR))) (bC (.bl ag)))
def cb:FS:=a_ cb0 (a_ cb1 (a_ cb2 (a_ cb3 (a_ cb4 cb5))))
def cr1:FS:=noE (b7 ah 3 (dM 10 (bT (b2 getD fX cO) ah) mK iU (b2 getD dJ eU) ah) ag)
def cr2:FS:=noE (b7 ah 4 (dM 10 (bT (b2 getD fX fQ) ah) mK iU (b2 getD dJ eU) ah) ag)
def cr0:FS:=noE (b7 ah 2 (aX (mW 1 sJ) (aC fX aR)) ag)
def cr3:FS:=noE (b7 ag 5 (bC (.dct [])) ag)
def vB:FS:=a_ cr0 (a_ cr1 (a_ cr2 (a_ cr3 (FP (noE (bT (b2 getD fX nC) ah)) (noT (tgN [6,7,8,9])) cb))))
def jC:aa D->Res D:=fnS 2 10 vB
abbrev gJ:bi:=top 27
noncomputable def zV:af->aq:=λi=>ah
def zW:FS:=a_ (noE (b7 ah 1 (dM 7 (bT (b2 getD fX nC) ah) mK iU (fM (aC (b2 getD fG eU) (aC (b2 getD fG cO) aR))) ah) ag)) (FP (noE (bT (b2 getD fX fQ) ah)) (noT (tgN [2,3,4,5])) (FP (noE (bT (dM 7 (bT (b2 getD fX cO) ah) (aP8 3) (bTB (b2 (cX .eq) jO g_)) fG ah) ag)) (noT (tg1 6)) (sIf (noE (bTB (b2 (cX .notin) (fM (aC dW (aC eF aR))) gC))) (iC "Lacking" ["taker","maker"] (noE (aC dW (aC eF aR)))) kO)))
def lL:aa D->Res D:=fnS 1 7 zW
abbrev nR:bi:=top 24
noncomputable def JK:af->aq:=λi=>ah
def nU:FS:=nJ 1 (noT (tg1 2)) (sIf (noE (bTB (b2 (cX .notin) dW (b2 getD fX eU)))) (iC "NoName" ["word"] (noE (aC dW aR))) kO)
def e_:aa D->Res D:=fnS 2 3 nU
abbrev R_:bi:=top 22
noncomputable def aIs:af->aq:=λi=>i==1
def sb4:FS:=a_ (oG (aX (mW 2 jC) (noE (aC fX (aC gC aR))))) (a_ (oG (aX (mW 1 lL) (noE (aC fX aR)))) (noE (RJ fX ah)))
def sb1:FS:=sY "Twice" "word" 1 (noE dW)
def sb3:FS:=a_ sb1 (oG (aX (mW 2 e_) (noE (aC fX (aC (b2 nD (fM (aC fY (aC fP aR))) eF) aR)))))
def sb2:FS:=a_ sb1 (oG (aX (mW 2 e_) (noE (aC fX (aC (b2 nD (fM (aC fY aR)) g_) aR)))))
def zX:FS:=a_ (noE (b7 ag 1 (aBe (bC (.str "copy")) (bC (.bl ag)) (bC (.str "drop")) (bC (.bl ag))) ag)) (a_ (FP (noE (bT (b2 getD fX eU) ah)) (noT (tg1 2)) sb1) (a_ (FP (noE (bT (b2 getD fX cO) ah)) (noT (tgN [2,3,4])) sb2) (a_ (FP (noE (bT (b2 getD fX fQ) ah)) (noT (tgN [2,3,5,6])) sb3) sb4)))
def gK:aa D->Res D:=fnS 1 7 zX
abbrev mO:bi:=top 42
noncomputable def CN:af->aq:=λi=>ah
def CP:FS:=a_ (b7 ah 3 (bC .non) ag) (a_ (aOi gK 1 (aC fX aR) ["BadKind","Lacking","NoName","Twice"] 3 4) (a_ (sIf (bTr (aCv [("BadKind",ah),("Lacking",ag),("NoName",ah),("Twice",ah)] 3)) (RJ (bC (.bl ah)) ag) kO) (a_ (sIf (bOr (bTr (aCv [("BadKind",ah),("Lacking",ah),("NoName",ah),("Twice",ah)] 3)) (aL3 (bTr (aCv [("BadKind",ag),("Lacking",ag),("NoName",ag),("Twice",ag)] 3)))) (RJ (bC (.bl ah)) ag) kO) (a_ (sIf (bOr (bTB (b2 (cX .ne) (aCv [("BadKind",ah),("Lacking",ah),("NoName",ag),("Twice",ah)] 3) (b2 (cX .eq) gC cO))) (bTB (b2 (cX .ne) (aCv [("BadKind",ag),("Lacking",ah),("NoName",ah),("Twice",ah)] 3) (b2 (cX .eq) gC fQ)))) (RJ (bC (.bl ah)) ag) kO) (RJ (W7 (b2 (cX .eq) (aCv [("BadKind",ah),("Lacking",ah),("NoName",ah),("Twice",ag)] 3) (b2 (cX .eq) gC nC)) (W7 (b1 (aL5 .str) (R6 ["BadKind","Lacking","NoName","Twice"] "word" 3)) (b2 (cX .eq) (R6 ["BadKind","Lacking","NoName","Twice"] "word" 3) dW))) ag)))))
def jL:aa D->Res D:=fnS 3 5 CP
abbrev iD:bi:=top 35
noncomputable def mQ:af->aq:=λi=>i==11
def aOj:FS:=sIf (KY (bTB (b2 (cX .eq) (b2 (aW .mod) (b2 (aW .fdiv) dW fQ) fQ) cO)) (bTB (b2 (zR .lt) (b2 0x10 gD cO) (aX h_ (aC jO aR))))) (b7 ah 8 (b2 0x10 (eG jO cF (bW (b1 B_ cO))) (j6 (aC (b2 nD (fM (aC (b2 getD (b2 getD jO eU) eU) aR)) (eG (b2 getD jO (b1 B_ cO)) (bW cO) cF)) aR))) ag) kO
def aPr:FS:=b7 ah 8 (b2 0x10 (b2 0x10 (eG jO cF (bW gD)) (j6 (aC (b2 nD (b2 nD (fM (aC (b2 getD dJ eU) aR)) (aX gU (aC (eG iK cF (bW xN)) aR))) (fM (aC (aX gU (aC (eG iK (bW xN) cF) aR)) aR))) aR))) (eG jO (bW (b2 0x10 gD cO)) cF)) ag
def aQp:FS:=sIf (bTB (b2 (cX .eq) (b2 (aW .mod) (b2 (aW .fdiv) dW RD) fQ) cO)) (b7 ah 7 (b2 0x10 (eG fG cF (bW (b1 B_ cO))) (j6 (aC (b2 nD (fM (aC (b2 getD fP eU) aR)) (eG (b2 getD fG (b1 B_ cO)) (bW cO) cF)) aR))) ag) kO
def aOk:FT:=bTB (b2 (cX .eq) (b2 (aW .mod) dW fQ) cO)
def nk9:FS:=sIf aOk (b7 ag 11 (b2 0x10 (eG iK cF (bW (b2 0x10 mJ cO))) (dM 16 (bT (eG iK (bW (b2 0x10 mJ cO)) cF) ag) mK iU (bC (.str "drop")) ag)) ag) kO
def nk4:FS:=b7 ag 11 (b2 0x10 (aX yR (aC (eG dJ (bW cO) (bW (b1 B_ cO))) aR)) (aX yR (aC (b2 getD dJ (b1 B_ cO)) aR))) ag
def nk6:FS:=b7 ah 13 (b2 0x10 g_ (dM 16 (bT (b2 0x10 eF fG) ag) mK iU (b2 getD MJ eU) ah)) ag
def aSb:FS:=sIf (bTB (b2 (cX .eq) fX cO)) (v9 (aC fP (aC eF (aC jO (aC jG aR))))) kO
def nk7:FS:=b7 ah 14 (b2 getD oF (b2 (aW .mod) (b2 (aW .fdiv) gC (bC (.int 45))) (aX h_ (aC oF aR)))) ah
def nk5:FS:=b7 ah 12 (b2 (aW .mod) (b2 (aW .fdiv) gC aFp) (aX h_ (aC iK aR))) ag
def aPs:FS:=b7 ah 15 (b2 (aW .sub) (aX h_ (aC dJ aR)) fQ) ag
def aSc:FS:=v9 (aC fP (aC jO (aC fG (aC jG aR))))
def nk2:FS:=b7 ah 9 (b2 (aW .mod) gC (aX h_ (aC jO aR))) ag
def nk1:FS:=XN 8 (b2 getD (sW (aC eF (aC fG aR))) fX) [11]
def nk3:FS:=b7 ah 10 (b2 getD jO gD) ah
def nk0:FS:=N_ fY [5,6,7] [11]
def nk8:FS:=XH 11 mJ jG
def mR:FS:=a_ nk0 (a_ nk1 (a_ nk2 (a_ nk3 (a_ nk4 (a_ nk5 (a_ nk6 (a_ nk7 (a_ nk8 (a_ nk9 (a_ aPs (a_ aPr (a_ aOj (a_ aSb (a_ aQp aSc))))))))))))))
def fU:aa D->Res D:=fnS 5 16 mR
abbrev d7:bi:=top 36
noncomputable def zY:af->aq:=λi=>ah
def aMs:FS:=v9 (aC (b2 0x10 (b2 0x10 (eG fY cF (bW gD)) (j6 (aC (fM (aC MJ (aC iK (aC mJ (aC oF aR))))) aR))) (eG fY (bW (b2 0x10 gD cO)) cF)) (aC cO (aC MJ (aC gD aR))))
def aMt:FS:=b7 ah 15 (b2 0x10 xN (dM 20 (bT fG ah) mK iU (b2 getD W5 eU) ah)) ag
def aMu:FS:=sIf (bTB (b2 (cX .eq) (b2 (aW .mod) (b2 (aW .fdiv) dW fQ) fQ) cO)) (sAl 11 10) kO
def aEg:FS:=b7 ah 16 (b2 getD xN (b2 (aW .mod) gC (aX h_ (aC xN aR)))) ah
def op7:FS:=sIf aPp (a_ aMt (a_ aEg (a_ aMu aMs))) kO
def aPt:FS:=v9 (aC (b2 0x10 (b2 0x10 (eG fY cF (bW jG)) (j6 (aC (fM (aC dJ (aC iK (aC mJ (aC oF aR))))) aR))) (eG fY (bW jG) cF)) (aC nC (aC dJ (aC jG aR))))
def aPu:FS:=b7 ah 14 (b2 0x10 (b2 0x10 gD cO) (b2 (aW .mod) gC (b2 (aW .sub) (aX h_ (aC fY aR)) gD))) ag
def aQq:FT:=bTB (b2 (cX .eq) fX nC)
def op5:FS:=sIf aQq (a_ aPu aPt) kO
def aQr:FS:=v9 (aC (b2 0x10 (b2 0x10 (eG fY cF (bW gD)) (j6 (aC (fM (aC dJ (aC MJ (aC mJ (aC oF aR))))) aR))) (eG fY (bW (b2 0x10 gD cO)) cF)) (aC (cV 19) (aC MJ (aC gD aR))))
def aMv:FS:=b7 ah 16 (b2 getD (cV 18) (b2 (aW .mod) gC (aX h_ (aC (cV 18) aR)))) ah
def aPv:FT:=KY (bTB (b2 (cX .eq) fX fQ)) (bTB (b2 (cX .ne) (cV 18) (sW aR)))
def aMw:FS:=b7 ah 19 fQ ag
def aQs:FS:=sIf aPv (a_ aMv aMw) kO
def aPw:FS:=b7 ah 13 (fM (aC (b2 getD fP eU) aR)) ah
def aPx:FS:=b7 ah 12 (fM aR) ag
def op4:FS:=sIf aOk (a_ aPx aPw) kO
def op8:FS:=b7 ah 17 (b2 getD (dM 20 (bT jO ah) mK (bTB (b2 (cX .eq) (b2 getD W5 eU) dJ)) (b2 getD W5 fQ) ah) eU) ah
def op9:FS:=b7 ah 18 (dM 20 (bT fG ah) mK (bTB (b2 (cX .ne) (b2 getD W5 cO) W6)) (b2 getD W5 eU) ah) ag
def aQt:FS:=b7 ah 15 (b2 0x10 xN (dM 20 (bT jO ah) mK iU (b2 getD W5 eU) ah)) ag
def op3:FS:=b7 ah 1 (b2 (aW .fdiv) gC (aX h_ (aC fY aR))) ag
def op1:FS:=b7 ah 9 (b2 (aW .mod) gC (aX h_ (aC fY aR))) ag
def op2:FS:=aG0 (b2 getD fY gD) (tgN [10,11,12,13])
def op6:FS:=b7 ah 15 (b2 0x10 fP eF) ag
def aQu:FS:=b7 ah 19 cO ag
def op0:FS:=N_ g_ [6,7,8] []
def jD:FS:=a_ op0 (a_ op1 (a_ op2 (a_ op3 (a_ op4 (a_ op5 (a_ op6 (a_ op7 (a_ op8 (a_ op9 (a_ aQt (a_ aEg (a_ aQu (a_ aQs aQr)))))))))))))
def d8:aa D->Res D:=fnS 6 20 jD
abbrev mD:bi:=top 41
noncomputable def PL:af->aq:=λi=>ah
def la5:FS:=sIf (bTB (b2 (cX .eq) fX T7)) (a_ (b7 ah 9 (dM 10 (bT (b2 getD dW cO) ah) mK (bTB (b2 (cX .ne) (j6 (aC (b2 getD dJ cO) aR)) (dM 11 (bT (b2 getD dW fQ) ah) mK (bTB (b2 (cX .eq) (b2 getD iK eU) g_)) (b2 getD iK fQ) ah))) (b2 getD dJ eU) ah) ag) (b7 ah 8 (fM (aC g_ (aC (b2 getD (b2 0x10 gD (j6 (aC fY aR))) eU) (aC eF (aC fG aR))))) ah)) kO
def la4:FS:=sIf (KY aQq (bTB (b2 (cX .ne) eF (fM aR)))) (b7 ah 8 (fM (aC g_ (aC fP (aC (eG eF cF (bW (b1 B_ cO))) (aC fG aR))))) ah) kO
def la2:FS:=sIf (bTB (b2 (cX .eq) fX cO)) (b7 ah 8 (fM (aC fY (aC fP (aC eF (aC fG aR))))) ah) kO
def la3:FS:=sIf (bTB (b2 (cX .eq) fX fQ)) (b7 ah 8 (fM (aC g_ (aC fY (aC eF (aC fG aR))))) ah) kO
def la1:FS:=b7 ah 8 (fM (aC g_ (aC fP (aC eF (aC (b2 nD fG (fM (aC fY aR))) aR))))) ah
def la6:FS:=RJ (b2 0x10 (eG gC cF (bW (b1 B_ cO))) (j6 (aC jO aR))) ag
def la0:FS:=aG0 (b2 getD gC (b1 B_ cO)) (tgN [4,5,6,7])
def wY:FS:=a_ la0 (a_ la1 (a_ la2 (a_ la3 (a_ la4 (a_ la5 la6)))))
def jV:aa D->Res D:=fnS 4 10 wY
abbrev eN:bi:=top 37
noncomputable def xR:af->aq:=λi=>ah
def aQv:FS:=sIf (KY (bTB (b2 (cX .ne) dJ (fM aR))) (bOr (bTB (b2 (cX .eq) (b2 (aW .mod) gC fQ) cO)) (bTB (b2 (cX .eq) (aX h_ (aC dJ aR)) T7)))) (b7 ah 10 (eG dJ cF (bW (b1 B_ cO))) ag) (b7 ah 10 (b2 nD dJ (fM (aC (b2 getD (sW (aC (bC (.str "copy")) (aC (b2 getD fP eU) aR))) (b2 (aW .mod) (b2 (aW .fdiv) dW fQ) fQ)) aR))) ah)
def aMx:FS:=b7 ah 15 (b2 0x10 (b2 0x10 (b2 0x10 (aX yR (aC (eG dJ cF (bW jG)) aR)) (sW (aC (bC (.str "copy")) (aC (bC (.str "drop")) aR)))) (b2 getD g_ eU)) (dM 17 (bT (b2 0x10 (b2 getD g_ cO) (b2 getD g_ fQ)) ag) mK iU (b2 getD W6 eU) ah)) ag
def aMy:FS:=sIf (bTB (b2 (cX .eq) (b2 (aW .mod) (b2 (aW .fdiv) dW fQ) fQ) cO)) (b7 ah 16 (aX gU (aC (dM 17 (bT MJ ah) mK iU (b2 getD fP cO) ah) aR)) ah) kO
def aMz:FS:=b7 ah 13 (b2 getD xN (b2 (aW .mod) (b2 (aW .fdiv) gC T7) (aX h_ (aC xN aR)))) ah
def aN0:FS:=b7 ah 10 (b2 nD (b2 nD (eG dJ cF (bW jG)) (fM (aC oF aR))) MJ) ah
def aQw:FT:=KY (bTB (b2 (cX .eq) fX cO)) (bTB (b2 (cX .ne) dJ (fM aR)))
def aN1:FS:=b7 ah 16 (eG dJ (bW (b2 0x10 jG cO)) cF) ag
def aN2:FS:=b7 ah 14 (b2 (aW .mod) gC (aX h_ (aC dJ aR))) ag
def aN3:FS:=b7 ah 12 nC ag
def on8:FS:=sIf aQw (a_ aN2 (a_ aMx (a_ aMz (a_ aN1 (a_ aMy (a_ aN0 aN3)))))) aQv
def on9:FS:=v9 (aC (b2 0x10 (b2 0x10 (eG fY cF (bW fG)) (j6 (aC (fM (aC jO (aC gD (aC dJ (aC iK aR))))) aR))) (eG fY (bW (b2 0x10 fG cO)) cF)) (aC mJ (aC oF (aC fG aR))))
def on0:FS:=b7 ah 6 (dM 17 (sX (aC (aX h_ (aC fY aR)) aR) mX) mK (bTB (b2 (cX .ne) (b2 getD (b2 getD fY W6) fQ) (fM aR))) W6 ah) ag
def on1:FS:=sIf (bOr aPp (bTB (b2 (cX .eq) eF (sW aR)))) (b7 ah 6 (aX aAk (aC (aX h_ (aC fY aR)) aR)) ag) kO
def on5:FS:=sIf aOk (b7 ah 11 (fM (aC (b2 getD fP eU) aR)) ah) kO
def on2:FS:=b7 ah 7 (b2 getD eF (b2 (aW .mod) gC (aX h_ (aC eF aR)))) ah
def on4:FS:=b7 ah 1 (b2 (aW .fdiv) gC (aX h_ (aC eF aR))) ag
def on3:FS:=aG0 (b2 getD fY fG) (tgN [8,9,10,11])
def on6:FS:=b7 ah 12 fQ ag
def on7:FS:=sAl 13 8
def oA:FS:=a_ on0 (a_ on1 (a_ on2 (a_ on3 (a_ on4 (a_ on5 (a_ on6 (a_ on7 (a_ on8 on9))))))))
def eO:aa D->Res D:=fnS 6 17 oA
abbrev gP:bi:=top 38
noncomputable def PN:af->aq:=λi=>ah
def hh5:FS:=RJ (b2 0x10 (b2 0x10 jO fY) (dM 9 (bT g_ ah) mK iU (fM (aC (b2 getD gD eU) (aC (b2 getD gD cO) (aC (b2 nD (fM (aC (b2 getD gD fQ) aR)) (b2 getD gD nC)) aR)))) ah)) ag
def hh4:FS:=b7 ah 8 (dM 9 (sX (aC (aX h_ (aC fG aR)) aR) mX) mK iU (fM (aC (b2 getD (b2 getD fX fQ) gD) (aC (b2 getD fG gD) (aC (fM aR) aR)))) ah) ag
def hh1:FS:=b7 ah 5 (b2 getD (dM 9 (bT fY ah) mK (bTB (b2 (cX .eq) (b2 getD gD eU) (b2 getD fX cO))) gD ah) eU) ah
def hh2:FS:=b7 ah 6 (b2 getD (dM 9 (bT g_ ah) mK (bTB (b2 (cX .eq) (b2 getD gD eU) (b2 getD fX eU))) gD ah) eU) ah
def hh3:FS:=b7 ah 7 (b2 nD (b2 getD fP fQ) (b2 getD eF nC)) ah
def hh0:FS:=N_ gC [2,3,4] []
def wZ:FS:=a_ hh0 (a_ hh1 (a_ hh2 (a_ hh3 (a_ hh4 hh5))))
def mF:aa D->Res D:=fnS 2 9 wZ
abbrev jW:bi:=top 39
noncomputable def PP:af->aq:=λi=>i==2||i==3
def wl1:FS:=b7 ah 5 (b2 getD (dM 6 (bT fX ah) mK (bTB (b2 (cX .eq) (b2 getD eF eU) g_)) (b2 getD eF fQ) ah) eU) ah
def wl2:FS:=aJz 2 (b1 aGa fP)
def wl0:FS:=aEd 3 (HW 2)
def wl:FS:=a_ wl0 (a_ wl1 wl2)
def wa2:FS:=FP (bT (b2 getD gC nC) ah) (tg1 4) wl
def wa0:FS:=b7 ag 2 (j6 (aC (b2 getD (dM 6 (bT fX ah) mK (bTB (b2 (cX .eq) (b2 getD eF eU) (b2 getD gC eU))) (b2 getD eF cO) ah) eU) aR)) ag
def wa1:FS:=b7 ag 3 (sW aR) ag
def wa3:FS:=aHm 3
def xF:FS:=a_ wa0 (a_ wa1 (a_ wa2 wa3))
def jX:aa D->Res D:=fnS 2 6 xF
abbrev iJ:bi:=top 40
noncomputable def xT:af->aq:=λi=>ah
def ow8:FS:=sIf (KY (bTB (b2 (cX .eq) (b2 (aW .mod) fX RD) eU)) (bTB (b2 (zR .gt) dJ eU))) (a_ (b7 ah 9 (eG gD cF (bW dJ)) ag) (b7 ah 11 (bC (.str "")) ag)) (sIf (KY (bTB (b2 (cX .eq) (b2 (aW .mod) fX RD) nC)) (bTB (b2 (cX .ne) oF (sW aR)))) (a_ (b7 ah 11 (b2 getD oF (b2 (aW .mod) gC (aX h_ (aC oF aR)))) ah) (b7 ah 9 (b2 nD (b2 nD (eG gD cF (bW dJ)) (fM (aC iK aR))) (eG gD (bW (b2 0x10 dJ cO)) cF)) ah)) (sIf (bTB (b2 (cX .eq) (b2 (aW .mod) fX RD) fQ)) (b7 ah 9 (b2 nD gD (fM (aC iK aR))) ah) (a_ (b7 ah 9 (b2 nD (b2 nD (eG gD cF (bW dJ)) (fM (aC iK aR))) (eG gD (bW (b2 0x10 dJ cO)) cF)) ah) (b7 ah 14 cO ag))))
def ow9:FS:=v9 (aC (b2 0x10 (b2 0x10 (eG dW cF (bW fP)) (j6 (aC (fM (aC eF (aC fG (aC jO (aC gD aR))))) aR))) (eG dW (bW (b2 0x10 fP cO)) cF)) (aC jG (aC iK (aC fP aR))))
def ow6:FS:=b7 ah 13 (dM 15 (bT mJ ah) mK (bTB (b2 (cX .ne) (b2 getD xN cO) (b2 getD (aX (mW 2 jX) (aC mJ (aC (b2 getD dW fP) aR))) dJ))) (b2 getD xN eU) ah) ag
def ow4:FS:=b7 ah 11 (b2 getD g_ (b2 (aW .mod) (b2 (aW .fdiv) fX (bC (.int 24))) (aX h_ (aC g_ aR)))) ah
def ow3:FS:=b7 ah 10 (b2 (aW .mod) (b2 (aW .fdiv) fX RD) (aX h_ (aC gD aR))) ag
def ow5:FS:=b7 ah 12 (aX (mW 2 mF) (aC (b2 getD dW fP) (aC fY aR))) ag
def ow2:FS:=b7 ah 0 (b2 (aW .fdiv) fX (aX h_ (aC dW aR))) ag
def ow0:FS:=b7 ah 5 (b2 (aW .mod) fX (aX h_ (aC dW aR))) ag
def ow1:FS:=aG0 (b2 getD dW fP) (tgN [6,7,8,9])
def ow7:FS:=b7 ah 14 fQ ag
def oE:FS:=a_ ow0 (a_ ow1 (a_ ow2 (a_ ow3 (a_ ow4 (a_ ow5 (a_ ow6 (a_ ow7 (a_ ow8 ow9))))))))
def eQ:aa D->Res D:=fnS 5 15 oE
abbrev CQ:bi:=top 43
noncomputable def o_law:af->aq:=λi=>i==1
def aQx:FS:=b7 ah 8 (b2 0x10 jO (dM 19 (bT (eG fP (bW (bC (.int 13))) (bW Z2)) ag) mK (bTB (b2 (cX .notin) (cV 19) MJ)) (cV 19) ah)) ag
def aQy:FS:=R0 eO 6 (aC (b2 (aW .sub) gD aFp) (aC fY (aC g_ (aC fG (aC eF (aC jO aR)))))) [7,10,15,11] [1]
def aQz:FS:=R0 d8 6 (aC (b2 (aW .sub) gD T7) (aC fY (aC g_ (aC fG (aC eF (aC jO aR)))))) [7,10,15,11] [1]
def aR0:FS:=R0 fU 5 (aC (b2 (aW .sub) gD nC) (aC fY (aC g_ (aC eF (aC jO aR))))) [12,13,14,15] [1]
def aR1:FS:=R0 eQ 5 (aC fY (aC g_ (aC fG (aC eF (aC jO aR))))) [7,10,15,11] [1]
def aR2:FS:=b7 ah 16 (b2 getD (b2 getD fG (b2 (aW .mod) fY (aX h_ (aC fG aR)))) fQ) ah
def aR3:FS:=R0 gH 3 (aC gD (aC fY (aC eF aR))) [12,13,14,15] [1]
def aOl:FS:=XN 6 (sW (aC mJ (aC oF (aC jG aR)))) [1]
def lhc:FT:=bTB (b2 (zR .lt) gD (bC (.int 11)))
def l0c:FT:=bTB (b2 (zR .lt) gD nC)
def l1c:FT:=bTB (b2 (zR .lt) gD T7)
def l2c:FT:=bTB (b2 (zR .lt) gD aFp)
def aR4:FS:=b7 ah 10 nC ag
def aR5:FS:=sIf l0c (a_ aR3 (a_ aOl aR4)) (sIf l1c (a_ aR0 aOl) (sIf l2c aQz (sIf lhc aQy (a_ aR2 (a_ aQx aR1)))))
def lgt:FS:=b7 ah 7 (aX (mW 4 jV) (aC (b2 (aW .mod) (b2 (aW .fdiv) g_ aHj) aCr) (aC fG (aC eF (aC (b2 getD fP aHl) aR))))) ag
def lht:FS:=b7 ah 7 (aX (mW 4 jV) (aC eU (aC fG (aC eF (aC (b2 getD fP aHl) aR))))) ag
def lec:FT:=bTB (b2 (cX .eq) (b2 (aW .mod) (b2 (aW .fdiv) dW (bC (.int 14))) fQ) cO)
def lfc:FT:=bTB (b2 (cX .eq) (b2 (aW .mod) (b2 (aW .fdiv) g_ aHj) aCr) RD)
def lft:FS:=b7 ah 7 (b2 0x10 fG (j6 (aC (b2 getD fG eU) aR))) ag
def lgc:FT:=bTB (b2 (zR .lt) iK (b2 (aW .sub) (aX h_ (aC fG aR)) cO))
def aR6:FS:=sIf lec (sIf lfc lft (sIf lgc lgt (sIf lhc lht kO))) kO
def aR7:FS:=b7 ah 17 (fM (aC (aX gU (aC (b2 getD eF eU) aR)) (aC (aX gU (aC (b2 getD eF cO) aR)) (aC (aX gU (aC (b2 getD eF fQ) aR)) (aC (aX gU (aC fG aR)) aR))))) ah
def aR8:FS:=RJ (W7 (aX (mW 3 jL) (aC W6 (aC dJ (aC xN aR)))) (b2 (cX .eq) (R6 ["Twice"] "word" 18) (b2 getD fP eU))) ag
def lw7:FS:=b7 ah 8 (j6 (aC (b2 getD fP Z2) (aC (bC (.str "copy")) (aC (bC (.str "drop")) (aC (b2 getD fP (bC (.int 19))) aR))))) ag
def lw6:FS:=lU ah 7 (gG lZ 4 1 (aC (bNr (b2 getD eF cO) [1]) (aC (bNr (b2 getD eF fQ) [1]) (aC fP aR))))
def lw0:FS:=b7 ag 1 (aPg (sW (aC (eG fX cF (bW Z4)) (aC eU aR)))) ag
def aR9:FS:=b7 ah 18 (aOh "Twice" ["word"] (aC (b2 getD fP eU) aR)) ag
def lw9:FS:=aG0 (fM (aC cO (aC (b1 B_ cO) aR))) (tgN [10,11])
def lw5:FS:=lU ah 6 (gG m_ 2 1 (aC fP aR))
def lw8:FS:=b7 ah 9 (b2 (aW .mod) dW (bC (.int 14))) ag
def lw4:FS:=lU ah 5 (gG jR 1 1 aR)
def lw1:FS:=lU ah 2 (gG bK 1 1 aR)
def lw2:FS:=lU ah 3 (gG bK 1 1 aR)
def lw3:FS:=lU ah 4 (gG bK 1 1 aR)
def aN4:FS:=a_ lw0 (a_ lw1 (a_ lw2 (a_ lw3 (a_ lw4 (a_ lw5 (a_ lw6 (a_ lw7 (a_ lw8 (a_ lw9 (a_ aR5 (a_ aR6 (a_ aR7 (a_ aR9 aR8)))))))))))))
def X8:aa D->Res D:=fnS 1 19 aN4
abbrev JL:bi:=aE8 (top 14) 0
abbrev zZ:bi:=aE8 (top 16) 0
abbrev SJ:bi:=aE8 (top 15) 0
abbrev z6:bi:=aE8 (top 17) 0
noncomputable abbrev SM:aa Str:=["deck","cells","at"]
noncomputable abbrev jY:aa Str:=["deck","letters","choice","turn","shift","cell","size","base","at","names","k","spot","ahead","behind"]
noncomputable abbrev jJ:aa Str:=["deck","names","cell","many","kinds","makers","k","one","behind","at","takers","more"]
noncomputable abbrev oZ:aa Str:=["deck","heads","wanted","most","words","due","kind","room","some","pick"]
noncomputable abbrev gQ:aa Str:=["deck","makers","takers","names","heads","rules","taker","maker","behind","step","own","known","words","at"]
noncomputable abbrev jZ:aa Str:=["choice","more","sig","kinds","makers","takers","ahead","at","odd","rows","old"]
noncomputable abbrev X_:aa Str:=["program","heads","name","kind","parts","taken","more"]
noncomputable abbrev aBi:aa Str:=["heads","word","known"]
noncomputable abbrev PQ:aa Str:=["heads","words","wanted","known","waiting","word","head"]
noncomputable abbrev aPy:aa Str:=["seen","name"]
noncomputable abbrev JM:aa Str:=["heads","taker","maker","names","seen","kinds","taken","name"]
noncomputable abbrev jE:aa Str:=["program","seen","heads","makers","takers","ahead","taker","maker","names","words"]
noncomputable abbrev d9:aa Str:=["program","ruled","taker","kind","taken","more","maker"]
noncomputable abbrev JN:aa Str:=["program","kinds","kind"]
noncomputable abbrev aIt:aa Str:=["program","seen","name","kind","parts","taken","more"]
noncomputable abbrev CT:aa Str:=["program","tag","word","caught","e"]
noncomputable abbrev iG:aa Str:=["choice","more","extra","sig","strange","kinds","makers","takers","rows","at","old","flat","place","every","odd","cut"]
noncomputable abbrev dF:aa Str:=["choice","more","extra","rules","sig","strange","kinds","makers","takers","at","taker","maker","own","words","spot","every","odd","taken","others","tag"]
noncomputable abbrev j0:aa Str:=["choice","rules","sig","odd","taker","maker","own","words","last","others"]
noncomputable abbrev dN:aa Str:=["choice","more","extra","rules","sig","strange","some","at","taker","maker","own","words","tag","word","place","every","behind"]
noncomputable abbrev fB:aa Str:=["rule","sig","kinds","makers","takers","maker","taker","behind","heads"]
noncomputable abbrev j4:aa Str:=["heads","rule","due","wants","word","behind"]
noncomputable abbrev j7:aa Str:=["more","extra","rules","sig","strange","at","taker","maker","own","words","place","odd","heads","others","tag"]
noncomputable abbrev aIu:aa Str:=["script","deck","cell","more","extra","names","sig","rules","strange","choice","tag","at","kinds","makers","takers","word","own","program","caught"]
theorem PX:cA SM ["deck"] (aL uK):=0xa
theorem JP:cA jY ["deck"] (aL jQ):=0xa
theorem SN:cA jJ ["deck","names"] (aL k_):=0xa
theorem JQ:cA oZ ["deck","heads","wanted","most"] (aL lX):=0xa
theorem JR:cA gQ ["deck","makers","takers","names"] (aL iT):=0xa
theorem JS:cA jZ ["choice","more","sig"] (aL jT):=0xa
theorem SQ:cA X_ ["program"] (aL wC):=0xa
theorem YB:cA aBi ["heads","word","known"] (aL zU):=0xa
theorem JT:cA PQ ["heads","words","wanted","known"] (aL oY):=0xa
theorem aN5:cA aPy ["seen","name"] (aL aIr):=0xa
theorem CV:cA JM ["heads","taker","maker","names","seen"] (aL nQ):=0xa
theorem CW:cA jE ["program","seen"] (aL jB):=0xa
theorem xU:cA d9 ["program"] (aL gJ):=0xa
theorem CZ:cA JN ["program","kinds"] (aL nR):=0xa
theorem aEh:cA aIt ["program"] (aL R_):=0xa
theorem z7:cA CT ["program","tag","word"] (aL mO):=0xa
theorem z8:cA iG ["choice","more","extra","sig","strange"] (aL iD):=0xa
theorem xV:cA dF ["choice","more","extra","rules","sig","strange"] (aL d7):=0xa
theorem JV:cA j0 ["choice","rules","sig","odd"] (aL mD):=0xa
theorem wD:cA dN ["choice","more","extra","rules","sig","strange"] (aL eN):=0xa
theorem JW:cA fB ["rule","sig"] (aL gP):=0xa
theorem JX:cA j4 ["heads","rule"] (aL jW):=0xa
theorem wF:cA j7 ["more","extra","rules","sig","strange"] (aL iJ):=0xa
theorem aN6:cA aIu ["script"] (aL CQ):=0xa
section
variable [KFrag] {P:bp} {w:bj} {K:Frag} {mg:Str->av am} {base:az} {fad:ak} {fd:c6} (hK:KFrag.K=K) (B:Bt mg)
include hK B
theorem JZ(F:Fun K "_law_next" "_law_next" uK fad fd)(hm:mg "_law_next"=ae (.ref fad)):QZ P w K mg base 1 "_law_next" 1 1 bK:=by
 have sc:=PX;have nd:=sc.nd;refine zJ 1 F hm (F.binds λ_ _ _ _ _ _ us hl=>by obtain⟨_,rfl⟩:=Mi.l1 hl;rfl) sc R9 0x4 0x4 λcdv A outer s H E hr=>?_
 have hu:=yF hr;exact aK (bD 0xe) (aK (bD 0xe) (aK (aAv rfl rfl 0x0 aF (aN aZ aA aF)) (aK (fO (bF O6 aA (bH (cP hK) 0x3 B.len cQ 0xf) (bL _)) (aV (HS (aU aA aA))) dC) (aK (fO (bF (dU hu) (bH (cP hK) 0x3 B.len cQ 0xf) aF (bL _)) (aV (HS (aN aZ (aN uI (aN uI aA aA) aF) aA))) dC) (aV (HS (aN aZ (aN cR (aU aA (aN bQ aA (bH (cP hK) 0x3 B.len cQ 0xf))) aF) (aN uI aA aA))))))))
theorem C_(p7:QZ P w K mg base 1 "_law_next" 1 1 bK)(F:Fun K "_law_names" "_law_names" jQ fad fd)(hm:mg "_law_names"=ae (.ref fad)):QZ P w K mg base 2 "_law_names" 1 1 jR:=by
 have sc:=JP;have nd:=sc.nd;refine zJ 1 F hm (F.binds λ_ _ _ _ _ _ us hl=>by obtain⟨_,rfl⟩:=Mi.l1 hl;rfl) sc O7 0x4 0x4 λcdv A outer s H E hr=>?_
 have hu:=yF hr;exact aK (bD iQ) (aK (lJ rfl sc.nd rfl 0x0 (fJ p7 hr 0x4 0x3 rfl rfl 0x0 (kI))) (aK (bD (aU (iB (aB aF (aB aF (aB aF (aB aF (aB aF (aB aF aH))))))) (aN bQ (aN cR aA aF) aF))) (aK (bD (aN bQ (aN cR aA aF) aF)) (aK (lJ rfl sc.nd rfl 0x0 (fJ p7 hr 0x4 0x3 rfl rfl 0x0 (kI))) (aK (bD (aN bQ aA aF)) (aK (bD (aPc PySem.F.plainAttrs_str PySem.F.slot_str_join PySem.F.type_str_join aHz iQ (aB (iH (show cH jY (aL jQ) _ (["k"]:aa Str) from 0x9) rfl rfl rfl (mL 0x3 B.range 0xf) (cT 14) (λ_=>aM (show((cw (eE (["k"]:aa Str)) jY++(["k"]:aa Str)):aa Str).Nodup from 0x6) rfl 0x0) (λ_=>aU aA (aN bQ (aN aZ (aN cR aA aF) (aN uI aA (aN aZ aA (aN bQ (aN cR aA aF) aF)))) aF)) (λ_=>rfl)) aH) (λ_ _ _ _ _ h r=>aDk h r))) (aK (lJ rfl sc.nd rfl 0x0 (VD bQ (fJ p7 hr 0x4 0x3 rfl rfl 0x0 (kI)) (aN aZ aA aF))) (aK (fO (bF (dU hu) (aN bQ aA aF) aF (bL _)) (aV (bD (b_ hK aA (bO) (bJ aF)))) dC) (aK (bD (iB aH)) (aK (M7 iN rfl (mL 0x3 B.range (aB aF aH)) (lF rfl) (aM sc.nd rfl 0x0) (aK (bD (aN bQ (aN aZ (aN uI aA aA) aA) aF)) (aV (fO (bF (dU hu) (aN bQ aA aF) aF (bL _)) (aV (zA rfl rfl 0x0 (aN uI (aU aA (aN bQ (aN aZ aA (aN bQ aA aF)) aF)) (aN aZ aF (aN cR aA aF))))) (aV (fO (bF (dU hu) (aN bQ aA aF) aF (bL _)) (aK (bD (aU aA (aN bQ (aN aZ aA (aN bQ aA aF)) aF))) (aK (bD (aU aA (aN bQ (aN aZ aA (aN cR aA aF)) aF))) (aV (zA rfl rfl 0x0 (aN aZ (aN aZ (aN aZ (b_ hK aA (bO) (bJ aA)) aA) aA) (b_ hK aA (bJ aA) (bO))))))) (aV (zA rfl rfl 0x0 (aN aZ (aN aZ (b_ hK aA (bO) (bJ aA)) (aU aA aA)) (b_ hK aA (bJ aA) (bO))))))))))) (aK (fO (PW.pt (Z_ (bF (M_ hu) iQ aA 0x5) (MT (bF (M_ hu) iQ aA 0x5)))) (aV (kW (show cH jY (aL jQ) _ (["name"]:aa Str) from 0x9) rfl rfl rfl (cL aA) (cT 14) (λ_=>aM (show((cw (eE (["name"]:aa Str)) jY++(["name"]:aa Str)):aa Str).Nodup from 0x6) rfl 0x0) (λ_=>aN aZ aA iQ) (λ_=>rfl) rfl sc.nd rfl 0x0 (fu rfl) 0x5)) dC) (aV (VF rfl rfl 0x0)))))))))))))
theorem P_(p7:QZ P w K mg base 1 "_law_next" 1 1 bK)(F:Fun K "_law_sig" "_law_sig" k_ fad fd)(hm:mg "_law_sig"=ae (.ref fad)):QZ P w K mg base 2 "_law_sig" 2 1 m_:=by
 have sc:=SN;have nd:=sc.nd;refine zJ 1 F hm (F.binds λ_ _ _ _ _ _ us hl=>by obtain⟨_,_,rfl⟩:=Mi.l2 hl;rfl) sc X5 0x4 0x4 λcdv A outer s H E hr=>?_
 have hu:=yF hr
 exact aK (lJ rfl sc.nd rfl 0x0 (fJ p7 hr 0x4 0x3 rfl rfl 0x0 (kI))) (aK (bD (aN aZ aF (aN bQ aA aF))) (aK (bD (b_ hK aA (bO) (bJ aA))) (aK (kW (show cH jJ (aL k_) _ (["k"]:aa Str) from 0x9) rfl rfl rfl (mL 0x3 B.range 0xf) (cT 12) (λ_=>aM (show((cw (eE (["k"]:aa Str)) jJ++(["k"]:aa Str)):aa Str).Nodup from 0x6) rfl 0x0) (λ_=>b8 (aB (aU aA (aN aZ aF aA)) (aB (aU aA aA) (aB (b8 aH) aH)))) (λ_=>rfl) rfl sc.nd rfl 0x0 (fu rfl) 0x5) (aK (M7 iN rfl (mL 0x3 B.range (aB (aN bQ (aN cR aA aF) aF) aH)) (lF rfl) (aM sc.nd rfl 0x0) (aK (lJ rfl sc.nd rfl 0x0 (fJ p7 hr 0x4 0x3 rfl rfl 0x0 (kI))) (aK (kW (show cH jJ (aL k_) _ (["j"]:aa Str) from 0x9) rfl rfl rfl (mL 0x3 B.range (aB (aN bQ (aN cR aA aF) aF) aH)) (cT 12) (λ_=>aM (show((cw (eE (["j"]:aa Str)) jJ++(["j"]:aa Str)):aa Str).Nodup from 0x6) rfl 0x0) (λ_=>aU aA (aN bQ (aN cR aA (aU (iB (aB aF (aB aF (aB aF aH)))) aA)) aA)) (λ_=>rfl) rfl sc.nd rfl 0x0 (fu rfl) 0x5) (aV (zA rfl rfl 0x0 (b8 (aB (aU aA (aN aZ (aN aZ aF aA) aA)) (aB (aU aA (aN bQ aA aA)) (aB (dX iY 0x3 B.tuple iZ 0xf) aH))))))))) (aK (bD (aN bQ (aN cR aA aF) (bH (cP hK) 0x3 B.len cQ 0xf))) (aK (bD (iB aH)) (aK (aM9 iN rfl (aM8 0x3 B.range (aM0 aZ aF (VD bQ (fJ p7 hr 0x4 0x3 rfl rfl 0x0 (kI)) aF))) (lF rfl) (aM sc.nd rfl 0x0) (aK (lJ rfl sc.nd rfl 0x0 (fJ p7 hr 0x4 0x3 rfl rfl 0x0 (kI))) (aK (kW (show cH jJ (aL k_) _ (["j"]:aa Str) from 0x9) rfl rfl rfl (mL 0x3 B.range (aB (aN bQ (aN cR aA aF) aF) aH)) (cT 12) (λ_=>aM (show((cw (eE (["j"]:aa Str)) jJ++(["j"]:aa Str)):aa Str).Nodup from 0x6) rfl 0x0) (λ_=>aU aA (aN bQ (aN cR aA (aU (iB (aB aF (aB aF aH))) aA)) aA)) (λ_=>rfl) rfl sc.nd rfl 0x0 (fu rfl) 0x5) (aV (zA rfl rfl 0x0 (b8 (aB (aU aA (aN aZ aF aA)) (aB (aU aA (aN bQ aA aA)) (aB (aU aA (aN bQ (aN cR aA aF) aA)) (aB (dX iY 0x3 B.tuple iZ 0xf) aH)))))))))) (aV (aDz (aG8 rfl rfl 0x0 (aMb (aN aZ (b_ hK aA (bJ aA) (bO)) (b_ hK aA (bO) (bJ aA))) (aG8 rfl rfl 0x0 (aMa)))))))))))))
theorem DG(p7:QZ P w K mg base 1 "_law_next" 1 1 bK)(F:Fun K "_law_words" "_law_words" lX fad fd)(hm:mg "_law_words"=ae (.ref fad)):QZ P w K mg base 2 "_law_words" 4 1 lY:=by
 have sc:=JQ;have nd:=sc.nd;refine zJ 1 F hm (F.binds λ_ _ _ _ _ _ us hl=>by obtain⟨_,_,_,_,rfl⟩:=Mi.l4 hl;rfl) sc O9 0x4 0x4 λcdv A outer s H E hr=>?_
 have hu:=yF hr;exact aK (bD (iB aH)) (aK (bD (gB 0xf)) (aK (aLr iN (bF (uH hu) aA (iB aH) (bL _)) (aK (aI6 (j:=6) rfl rfl 0x0 sc.nd rfl 0x0 rfl) (aK (bD (aN uA (aN uA (aN uA aA (bH (cP hK) 0x3 B.len cQ 0xf)) (bH (cP hK) 0x3 B.len cQ 0xf)) aF)) (aK (m7 (show cH oZ (aL lX) _ 0xc from 0x9) rfl rfl rfl (cL aA) (cT 10) (λ_=>aM (show((cw 0xb oZ++0xc):aa Str).Nodup from 0x6) rfl 0x0) (λ_=>PW.pt (wW (bF (dU hu) 0xe aA (bL _)) (oO (bF aPn (bH (cP hK) 0x3 B.len cQ (aB 0xe aH)) aA (bL _))))) (λ_=>aA) (λ_=>rfl) rfl sc.nd rfl 0x0 (fu rfl) 0x5) (aK (lJ rfl sc.nd rfl 0x0 (aM2 (aLc hK hu) rfl rfl 0x0 (VD bQ (fJ p7 hr 0x4 0x3 rfl rfl 0x0 (kI)) (bH (cP hK) 0x3 B.len cQ 0xf)) (λ_ _=>rfl))) (aK (zA rfl rfl 0x0 0xe) (aV (aAq rfl rfl 0x0 (R5 0x3 0x3 B.list 0x3 B.reversed 0xe))))))))) (aV (VF rfl rfl 0x0))))
theorem DK(rA:QZ P w K mg base 2 "_law_words" 4 1 lY)(p7:QZ P w K mg base 1 "_law_next" 1 1 bK)(F:Fun K "_law_rules" "_law_rules" iT fad fd)(hm:mg "_law_rules"=ae (.ref fad)):QZ P w K mg base 3 "_law_rules" 4 1 lZ:=by
 have sc:=JR;have nd:=sc.nd;refine zJ 1 F hm (F.binds λ_ _ _ _ _ _ us hl=>by obtain⟨_,_,_,_,rfl⟩:=Mi.l4 hl;rfl) sc PB 0x4 0x4 λcdv A outer s H E hr=>?_
 have hu:=yF hr;exact aK (bD (aN aZ aA (iH (show cH gQ (aL iT) _ 0xc from 0x9) rfl rfl rfl (cL aA) (cT 14) (λ_=>aM (show((cw 0xb gQ++0xc):aa Str).Nodup from 0x6) rfl 0x0) (λ_=>b8 (aB 0xe (aB 0xe (aB (aN dZ (b8 (aB 0xe aH)) 0xe) aH)))) (λ_=>rfl)))) (aK (bD (iB aH)) (aK (aA7 rfl iN rfl rfl 0x0 (lF rfl) (aM sc.nd rfl 0x0) (aV (aA7 rfl iN rfl rfl 0x0 (lF rfl) (aM sc.nd rfl 0x0) (aV (fO (bF (dU hu) 0xe 0xe (bL _)) (aK (bD (aN dZ 0xe 0xe)) (aK (bD (aN aZ aF (aN bQ (bH (cP hK) 0x3 B.len cQ 0xf) aF))) (aK (bD (iH (show cH gQ (aL iT) _ (["j"]:aa Str) from 0x9) rfl rfl rfl (mL 0x3 B.range (aB (bH (cP hK) 0x3 B.len cQ 0xf) aH)) (cT 14) (λ_=>aM (show((cw (eE (["j"]:aa Str)) gQ++(["j"]:aa Str)):aa Str).Nodup from 0x6) rfl 0x0) (λ_=>aU aA (aN aZ aF (aN bQ (aN aZ (bH (cP hK) 0x3 B.len cQ 0xf) (aN uI aA aA)) aF))) (λ_=>rfl))) (aK (kW (show cH gQ (aL iT) _ (["j"]:aa Str) from 0x9) rfl rfl rfl (mL 0x3 B.range (aB (bH (cP hK) 0x3 B.len cQ 0xf) aH)) (cT 14) (λ_=>aM (show((cw (eE (["j"]:aa Str)) gQ++(["j"]:aa Str)):aa Str).Nodup from 0x6) rfl 0x0) (λ_=>b8 (aB (aU aA aA) (aB (aU aA aA) (aB (b8 aH) aH)))) (λ_=>rfl) rfl sc.nd rfl 0x0 (fu rfl) 0x5) (aK (lJ rfl sc.nd rfl 0x0 (fJ rA hr 0x4 0x3 rfl rfl 0x0 (aM5 (aN aZ aA aA) (aM4 0xe (aM4 aF (kI)))))) (aV (zA rfl rfl 0x0 (b8 (aB 0xe (aB 0xe (aB (dX iY 0x3 B.tuple iZ 0xf) (aB (dX iY 0x3 B.tuple iZ 0xf) aH)))))))))))) dC))))) (aK (lJ rfl sc.nd rfl 0x0 (VD bQ (fJ p7 hr 0x4 0x3 rfl rfl 0x0 (kI)) (bH (cP hK) 0x3 B.len cQ 0xf))) (aV (HS (aN aZ (b_ hK aA (bJ aA) (bO)) (b_ hK aA (bO) (bJ aA))))))))
theorem DN(F:Fun K "_law_twice" "_law_twice" jT fad fd)(hm:mg "_law_twice"=ae (.ref fad)):YT P w K mg base 1 "_law_twice" 3 gH:=by
 have sc:=JS;have nd:=sc.nd;refine zK F hm (F.binds λ_ _ _ _ _ _ us hl=>by obtain⟨_,_,_,rfl⟩:=Mi.l3 hl;rfl) sc PJ 0x4 0x4 λcdv A outer s H E hr=>?_
 have hu:=yF hr;exact bR (bU (HY (os:=[]) 0x4 (by intro i h;cases h) aA (nP rfl (aP (aM sc.nd rfl 0x0) (aP (aM sc.nd rfl 0x0) (aP (aM sc.nd rfl 0x0) (fD))))))) (bR (bU (bD (iB (aB iQ (aB iQ aH))))) (bR (aMc (bF (dU hu) aA aF (bL _)) (bR (bU (bD (aN bQ aA (bH (cP hK) 0x3 B.len cQ 0xf)))) (bR (bU (bD (aN aZ aA (b_ hK aA (bO) (bJ aA))))) (bR (bU (bD (aU aA (aN bQ (aN cR aA aF) (bH (cP hK) 0x3 B.len cQ 0xf))))) (CG (CJ (aB (aN aZ (aN aZ (b_ hK aA (bO) (bJ aA)) (gB 0xf)) (b_ hK aA (bJ (aN aZ aA aF)) (bO))) (aB aA 0xd))))))) (aAy)) (bR (bU (HX (os:=[]) rfl (by intro i h;cases h) sc.nd rfl 0x0 (aU (iB 0xd) (aN uA aA aF)))) (bR (bU (bD (aN bQ aA (bH (cP hK) 0x3 B.len cQ 0xf)))) (bR (bU (bD (aN aZ (aN aZ aA aA) (iH (show cH jZ (aL jT) _ 0xc from 0x9) rfl rfl rfl (cL (b_ hK aA (bO) (bJ aA))) (cT 11) (λ_=>aM (show((cw 0xb jZ++0xc):aa Str).Nodup from 0x6) rfl 0x0) (λ_=>aU aA aF) (λ_=>rfl))))) (bR (bU (fO (bF (dU hu) aA aF (bL _)) (aV (bD (aN aZ (aN aZ (iB (aB iQ (aB iQ aH))) aA) (iH (show cH jZ (aL jT) _ 0xc from 0x9) rfl rfl rfl (cL (aN aZ aA (b_ hK aA (bO) (bJ aA)))) (cT 11) (λ_=>aM (show((cw 0xb jZ++0xc):aa Str).Nodup from 0x6) rfl 0x0) (λ_=>aU aA aF) (λ_=>rfl))))) dC)) (bR (bU (bD (aU aA (aN bQ (aN cR aA aF) (bH (cP hK) 0x3 B.len cQ 0xf))))) (bR (bU (bD (aN dZ (b8 0xf) (b_ hK (aU aA aA) (bJ aF) (bO))))) (bR (bU (fO (bF (dU hu) (aN bQ (aN cR aA aF) aF) aF (bL _)) (aV (bD (aN dZ (b8 (aB aA (aB iQ aH))) (b_ hK (aU aA aA) (bJ aF) (bO))))) dC)) (bR (bU (bD (aN aZ (aN aZ (b_ hK aA (bO) (bJ aA)) (gB 0xf)) (b_ hK aA (bJ (aN aZ aA aF)) (bO))))) (bR (aMc (bF (dU hu) aA aF (bL _)) (CG (CJ (aB aA (aB aA 0xd)))) (aAy)) (CG (CJ (aB aA (aB aA 0xd)))))))))))))))
theorem QB(F:Fun K "heads_of" "heads_of" wC fad fd)(hm:mg "heads_of"=ae (.ref fad)):vY P w K mg base 1 "heads_of" 1 sJ:=by
 have sc:=SQ;have nd:=sc.nd;refine M8 F hm (F.binds λ_ _ _ _ _ _ us hl=>by obtain⟨_,rfl⟩:=Mi.l1 hl;rfl) sc X6 0x4 0x4 λcdv A outer s H E hr=>?_
 have hu:=yF hr;exact aK (bD (UL)) (aK (M7 iN rfl (cL 0xe) (lG _ 0x4) (nZ rfl (aP (aM sc.nd rfl 0x0) (aP (aM sc.nd rfl 0x0) (aP (aM sc.nd rfl 0x0) (fD))))) (aV (aA6 hu rfl rfl 0x0 aA (b8 0xd)))) (aK (M7 iN rfl (cL 0xe) (lG _ 0x4) (nZ rfl (aP (aM sc.nd rfl 0x0) (aP (aM sc.nd rfl 0x0) (aP (aM sc.nd rfl 0x0) (aP (aM sc.nd rfl 0x0) (fD)))))) (aV (aA6 hu rfl rfl 0x0 aA (b8 (aB aA (aB (aN dZ (b8 0xf) aA) aH)))))) (aV (aA3 rfl rfl 0x0))))
theorem SX(pz:Q0 P w K mg base 1 "NoName" ["word"])(F:Fun K "head_of" "head_of" zU fad fd)(hm:mg "head_of"=ae (.ref fad)):m9 P w K mg base 3 "head_of" 3 oX:=by
 have sc:=YB;have nd:=sc.nd;refine zP F hm (F.binds λ_ _ _ _ _ _ us hl=>by obtain⟨_,_,_,rfl⟩:=Mi.l3 hl;rfl) sc aBg 0x4 0x4 λcdv A outer s H E hr=>?_
 have hu:=yF hr;exact eY (lK (fO (bF (M_ hu) aA aA 0x5) (aV (oV (aU aA aA))) dC)) (eY (lK (fO (bF (M_ hu) aA aA 0x5) (aV (oV (b8 (aB (aU aA aA) (aB (b8 aH) aH))))) dC)) (jP (iI pz hK hr 0x4 0x3 0xf)))
theorem DP(pT:m9 P w K mg base 3 "head_of" 3 oX)(pw:Q0 P w K mg base 1 "BadKind" ["word"])(F:Fun K "walk_words" "walk_words" oY fad fd)(hm:mg "walk_words"=ae (.ref fad)):m9 P w K mg base 4 "walk_words" 4 jU:=by
 have sc:=JT;have nd:=sc.nd;refine zP F hm (F.binds λ_ _ _ _ _ _ us hl=>by obtain⟨_,_,_,_,rfl⟩:=Mi.l4 hl;rfl) sc PK 0x4 0x4 λcdv A outer s H E hr=>?_
 have hu:=yF hr;exact eY (lK (bD (gB 0xf))) (eY (aBa rfl rfl 0x0 (lF rfl) (aM sc.nd rfl 0x0) (eY (aE6 (aFs (MP aA)) (jP (iI pw hK hr 0x4 0x3 0xf)) CK) (eY (aPk rfl sc.nd rfl 0x0 (wA pT hr 0x4 0x3 (aB aA 0xd))) (eY (aPj (aIf (uH hu) (aPi 0xe) (aAx rfl rfl 0x0) (bL _)) (jP (iI pw hK hr 0x4 0x3 0xf)) CK) (jP (lK (aAq rfl rfl 0x0 (R5 0x3 0x3 B.list 0x3 B.reversed 0xe)))))))) (jP (aE6 (MP aA) (jP (iI pw hK hr 0x4 0x3 (aB iQ aH))) CK)))
theorem aIv(pA:Q0 P w K mg base 1 "Twice" ["word"])(F:Fun K "see" "see" aIr fad fd)(hm:mg "see"=ae (.ref fad)):aBf P w K mg base 3 "see" "Twice" "word":=by
 have sc:=aN5;have nd:=sc.nd;refine aMq F hm (F.binds λ_ _ _ _ _ _ us hl=>by obtain⟨_,_,rfl⟩:=Mi.l2 hl;rfl) sc rfl rfl λcdv A outer s H E hr=>?_
 have hu:=yF hr;exact kJ (Y6 (bF (aLa hu) aA aA 0x5) (mH (iI pA hK hr 0x4 0x3 0xf)) Y5) (mH (aIg hu rfl 0x0 aA RQ rfl rfl rfl))
theorem z9(pE:aBf P w K mg base 3 "see" "Twice" "word")(pw:Q0 P w K mg base 1 "BadKind" ["word"])(F:Fun K "known_names" "known_names" nQ fad fd)(hm:mg "known_names"=ae (.ref fad)):m9 P w K mg base 4 "known_names" 5 eZ:=by
 have sc:=CV;have nd:=sc.nd;refine zP F hm (F.binds λ_ _ _ _ _ _ us hl=>by obtain⟨_,_,_,_,_,rfl⟩:=Mi.l5 hl;rfl) sc JF 0x4 0x4 λcdv A outer s H E hr=>?_
 have hu:=yF hr;exact eY (lK (bD (aN dZ (aU (aU aA aA) aF) (b_ hK (aU (aU aA aA) aF) (bJ aF) (bO))))) (eY (aE6 (bF (uH hu) (bH (cP hK) 0x3 B.len cQ 0xf) (bH (cP hK) 0x3 B.len cQ 0xf) (bL _)) (jP (iI pw hK hr 0x4 0x3 0xf)) CK) (eY (lK (bD (dX aEf 0x3 B.dict aHy 0xf))) (eY (aBa rfl rfl 0x0 (lF rfl) (aM sc.nd rfl 0x0) (jP (aEb pE hr 0x4 0x3 rfl rfl 0x0 aA))) (jP (lK (oV (aI5 0x3 B.dict 0x3 B.zip 0xd)))))))
theorem A_(rB:vY P w K mg base 1 "heads_of" 1 sJ)(pU:m9 P w K mg base 4 "walk_words" 4 jU)(pV:m9 P w K mg base 4 "known_names" 5 eZ)(pz:Q0 P w K mg base 1 "NoName" ["word"])(pw:Q0 P w K mg base 1 "BadKind" ["word"])(pA:Q0 P w K mg base 1 "Twice" ["word"])(F:Fun K "check_rules" "check_rules" jB fad fd)(hm:mg "check_rules"=ae (.ref fad)):m9 P w K mg base 5 "check_rules" 2 jC:=by
 have sc:=CW;have nd:=sc.nd;refine zP F hm (F.binds λ_ _ _ _ _ _ us hl=>by obtain⟨_,_,rfl⟩:=Mi.l2 hl;rfl) sc JH 0x4 0x4 λcdv A outer s H E hr=>?_
 have hu:=yF hr;exact eY (lK (bD (sI rB hr 0x4 0x3 0xf))) (eY (lK (kW (show cH jE (aL jB) _ (["maker"]:aa Str) from 0x9) rfl rfl rfl (cL 0xe) (cT 10) (λ_=>aM (show((cw (eE (["maker"]:aa Str)) jE++(["maker"]:aa Str)):aa Str).Nodup from 0x6) rfl 0x0) (λ_=>aU aA aF) (λ_=>rfl) rfl sc.nd rfl 0x0 (fu rfl) 0x5)) (eY (lK (kW (show cH jE (aL jB) _ (["taker"]:aa Str) from 0x9) rfl rfl rfl (cL 0xe) (cT 10) (λ_=>aM (show((cw (eE (["taker"]:aa Str)) jE++(["taker"]:aa Str)):aa Str).Nodup from 0x6) rfl 0x0) (λ_=>aU aA aF) (λ_=>rfl) rfl sc.nd rfl 0x0 (fu rfl) 0x5)) (eY (lK (bD (UL))) (jP (X4 (cL 0xe) (lG _ 0x4) (nZ rfl (aP (aM sc.nd rfl 0x0) (aP (aM sc.nd rfl 0x0) (aP (aM sc.nd rfl 0x0) (aP (aM sc.nd rfl 0x0) (fD)))))) (eY (aE6 (bF (uV hu) aA aA 0x5) (jP (iI pz hK hr 0x4 0x3 0xf)) CK) (eY (aE6 (bF (uV hu) aA aA 0x5) (jP (iI pz hK hr 0x4 0x3 0xf)) CK) (eY (aE6 (bF (uH hu) (aU (aU aA aA) aF) (aU (aU (aU aA aA) aF) aF) (bL _)) (jP (iI pw hK hr 0x4 0x3 0xf)) CK) (eY (aE6 (bF (M_ hu) (b8 0xd) aA 0x5) (jP (iI pA hK hr 0x4 0x3 0xf)) CK) (eY (lK (aA6 hu rfl rfl 0x0 (b8 0xd) RQ)) (jP (O4 (aEc (C:=fad) pU hr 0x4 0x3 (JD aA (JD aA (JD (aU (aU aA aA) aF) (aIo (wA pV hr 0x4 0x3 (aB aA (aB aA (aB aA 0xd)))) aH)))))))))))))))))
theorem wG(qr:Q0 P w K mg base 1 "Lacking" ["taker","maker"])(F:Fun K "check_lacking" "check_lacking" gJ fad fd)(hm:mg "check_lacking"=ae (.ref fad)):m9 P w K mg base 3 "check_lacking" 1 lL:=by
 have sc:=xU;have nd:=sc.nd;refine zP F hm (F.binds λ_ _ _ _ _ _ us hl=>by obtain⟨_,rfl⟩:=Mi.l1 hl;rfl) sc zV 0x4 0x4 λcdv A outer s H E hr=>?_
 have hu:=yF hr;exact eY (lK (kW (show cH d9 (aL gJ) _ (["rule"]:aa Str) from 0x9) rfl rfl rfl (cL 0xe) (cT 7) (λ_=>aM (show((cw (eE (["rule"]:aa Str)) d9++(["rule"]:aa Str)):aa Str).Nodup from 0x6) rfl 0x0) (λ_=>b8 (aB 0xe (aB 0xe aH))) (λ_=>rfl) rfl sc.nd rfl 0x0 (fu rfl) 0x5)) (jP (X4 (cL 0xe) (lG _ 0x4) (nZ rfl (aP (aM sc.nd rfl 0x0) (aP (aM sc.nd rfl 0x0) (aP (aM sc.nd rfl 0x0) (aP (aM sc.nd rfl 0x0) (fD)))))) (jP (X4 (cL (iR (show cH d9 (aL gJ) _ (["name","given","parts"]:aa Str) from 0x9) rfl rfl rfl (cL 0xe) (aHu _ 7 3) (λ_=>nZ rfl (aP (aM (show((cw (eE (["name","given","parts"]:aa Str)) d9++(["name","given","parts"]:aa Str)):aa Str).Nodup from 0x6) rfl 0x0) (aP (aM (show((cw (eE (["name","given","parts"]:aa Str)) d9++(["name","given","parts"]:aa Str)):aa Str).Nodup from 0x6) rfl 0x0) (aP (aM (show((cw (eE (["name","given","parts"]:aa Str)) d9++(["name","given","parts"]:aa Str)):aa Str).Nodup from 0x6) rfl 0x0) (fD))))) (λ_=>bF (dU hu) aA aA (bL _)) (λ_=>aA) (λ_=>rfl))) (lF rfl) (aM sc.nd rfl 0x0) (jP (aE6 (bF (uV hu) (b8 0xd) aA 0x5) (jP (iI qr hK hr 0x4 0x3 0xd)) CK))))))
theorem BJ(pz:Q0 P w K mg base 1 "NoName" ["word"])(F:Fun K "check_kinds" "check_kinds" nR fad fd)(hm:mg "check_kinds"=ae (.ref fad)):m9 P w K mg base 3 "check_kinds" 2 e_:=by
 have sc:=CZ;have nd:=sc.nd;refine zP F hm (F.binds λ_ _ _ _ _ _ us hl=>by obtain⟨_,_,rfl⟩:=Mi.l2 hl;rfl) sc JK 0x4 0x4 λcdv A outer s H E hr=>?_
 have hu:=yF hr;exact jP (aBa rfl rfl 0x0 (lF rfl) (aM sc.nd rfl 0x0) (jP (aE6 (bF (uV hu) aA 0xe 0x5) (jP (iI pz hK hr 0x4 0x3 0xf)) CK)))
theorem aBj(pE:aBf P w K mg base 3 "see" "Twice" "word")(pF:m9 P w K mg base 3 "check_kinds" 2 e_)(pW:m9 P w K mg base 5 "check_rules" 2 jC)(pX:m9 P w K mg base 3 "check_lacking" 1 lL)(F:Fun K "sound" "sound" R_ fad fd)(hm:mg "sound"=ae (.ref fad)):m9 P w K mg base 6 "sound" 1 gK:=by
 have sc:=aEh;have nd:=sc.nd;refine zP F hm (F.binds λ_ _ _ _ _ _ us hl=>by obtain⟨_,rfl⟩:=Mi.l1 hl;rfl) sc aIs 0x4 0x4 λcdv A outer s H E hr=>?_
 have hu:=yF hr;exact eY (lK (bD (aIn iQ RQ iQ RQ))) (eY (X4 (cL 0xe) (lF rfl) (aM sc.nd rfl 0x0) (jP (aEb pE hr 0x4 0x3 rfl rfl 0x0 aA))) (eY (X4 (cL 0xe) (lG _ 0x4) (nZ rfl (aP (aM sc.nd rfl 0x0) (aP (aM sc.nd rfl 0x0) (aP (aM sc.nd rfl 0x0) (fD))))) (eY (aEb pE hr 0x4 0x3 rfl rfl 0x0 aA) (jP (O4 (wA pF hr 0x4 0x3 (aB aA (aB (aN dZ (b8 0xf) aA) aH))))))) (eY (X4 (cL 0xe) (lG _ 0x4) (nZ rfl (aP (aM sc.nd rfl 0x0) (aP (aM sc.nd rfl 0x0) (aP (aM sc.nd rfl 0x0) (aP (aM sc.nd rfl 0x0) (fD)))))) (eY (aEb pE hr 0x4 0x3 rfl rfl 0x0 aA) (jP (O4 (wA pF hr 0x4 0x3 (aB aA (aB (aN dZ (b8 0xd) aA) aH))))))) (eY (O4 (wA pW hr 0x4 0x3 0xd)) (eY (O4 (wA pX hr 0x4 0x3 0xf)) (jP (lK (oV aA))))))))
theorem xW(pY:m9 P w K mg base 6 "sound" 1 gK){rh:ak}(rC:mg "MillError"=ae (.ref rh)){pZ:ak}(rD:mg "NoValue"=ae (.ref pZ)){qa:ak}(rE:mg "NoTerm"=ae (.ref qa)){qb:ak}(rF:mg "NoRule"=ae (.ref qb)){qc:ak}(rG:mg "NoPair"=ae (.ref qc)){qe:ak}(rH:mg "NoNet"=ae (.ref qe)){qf:ak}(rJ:mg "NoEnd"=ae (.ref qf)){p8:ak}(rK:mg "Lacking"=ae (.ref p8)){qg:ak}(rL:mg "BadRow"=ae (.ref qg)){qh:ak}(rM:mg "Unfit"=ae (.ref qh)){qi:ak}(rN:mg "Uneven"=ae (.ref qi)){qj:ak}(rO:mg "TwoRules"=ae (.ref qj)){qk:ak}(rP:mg "Stuck"=ae (.ref qk)){ql:ak}(rQ:mg "Spent"=ae (.ref ql))(rR:mg "ValueError"=aj){pc:ak}(rS:mg "NoName"=ae (.ref pc)){pd:ak}(rT:mg "BadKind"=ae (.ref pd)){p9:ak}(rV:mg "Twice"=ae (.ref p9))(y1:aK0 (λc=>∃C,nsIn K bu c=ae (ae (.ref C))/\nk K (.ref C) (.ref rh)=ae ag) ["BadKind","Lacking","NoName","Twice"])(y2:aGc (λc b=>∃C,nsIn K bu c=ae (ae (.ref C))/\XC K C/\gk K (.ref C) [.ref qg,.ref p8,.ref qf,.ref qe,.ref qc,.ref qb,.ref qa,.ref pZ]=ae b) [("BadKind",ah),("Lacking",ag),("NoName",ah),("Twice",ah)])(y3:aGc (λc b=>∃C,nsIn K bu c=ae (ae (.ref C))/\XC K C/\gk K (.ref C) [.ref ql,.ref qk,.ref qj,.ref qi,.ref qh]=ae b) [("BadKind",ah),("Lacking",ah),("NoName",ah),("Twice",ah)])(y4:aGc (λc b=>∃C,nsIn K bu c=ae (ae (.ref C))/\XC K C/\d5 K (.ref C) (.type "ValueError")=ae b) [("BadKind",ag),("Lacking",ag),("NoName",ag),("Twice",ag)])(y5:aGc (λc b=>∃C,nsIn K bu c=ae (ae (.ref C))/\XC K C/\d5 K (.ref C) (.ref pc)=ae b) [("BadKind",ah),("Lacking",ah),("NoName",ag),("Twice",ah)])(y6:aGc (λc b=>∃C,nsIn K bu c=ae (ae (.ref C))/\XC K C/\d5 K (.ref C) (.ref pd)=ae b) [("BadKind",ag),("Lacking",ah),("NoName",ah),("Twice",ah)])(y7:aGc (λc b=>∃C,nsIn K bu c=ae (ae (.ref C))/\XC K C/\d5 K (.ref C) (.ref p9)=ae b) [("BadKind",ah),("Lacking",ah),("NoName",ah),("Twice",ag)])(y8:aK0 (λc=>∃C,nsIn K bu c=ae (ae (.ref C))/\XA K C "word") ["BadKind","Lacking","NoName","Twice"])(y9:aK0 (λc=>∃C,nsIn K bu c=ae (ae (.ref C))/\XA K C "word") ["BadKind","Lacking","NoName","Twice"])(F:Fun K "_law_refused" "_law_refused" mO fad fd)(hm:mg "_law_refused"=ae (.ref fad)):vY P w K mg base 7 "_law_refused" 3 jL:=by
 have sc:=z7;have nd:=sc.nd;refine M8 F hm (F.binds λ_ _ _ _ _ _ us hl=>by obtain⟨_,_,_,rfl⟩:=Mi.l3 hl;rfl) sc CN 0x4 0x4 λcdv A outer s H E hr=>?_
 have hu:=yF hr;exact aK (bD aL6) (aK (aMn (ic:=3) (ie:=4) hK rfl rfl pY hr 0x4 0x3 0xf 0x3 rC (zQ y1) sc.nd rfl rfl rfl 0x0 (.inl rfl) rfl rfl 0x4) (aK (fO (MP (aBd (cs:=[qg,p8,qf,qe,qc,qb,qa,pZ]) hK (uJ y2) (show 8<=aI from by decide) 0x3 B.isi rfl 0x0 (PA.imp (bV (gY (v:=.ref qg) 0x3 rL rfl) (bV (gY (v:=.ref p8) 0x3 rK rfl) (bV (gY (v:=.ref qf) 0x3 rJ rfl) (bV (gY (v:=.ref qe) 0x3 rH rfl) (bV (gY (v:=.ref qc) 0x3 rG rfl) (bV (gY (v:=.ref qb) 0x3 rF rfl) (bV (gY (v:=.ref qa) 0x3 rE rfl) (bV (gY (v:=.ref pZ) 0x3 rD rfl) (jH))))))))) λ_ _ _ h=>h))) (aV (oV RQ)) dC) (aK (fO (PW.pt (Z_ (MP (aBd (cs:=[ql,qk,qj,qi,qh]) hK (uJ y3) (show 5<=aI from by decide) 0x3 B.isi rfl 0x0 (PA.imp (bV (gY (v:=.ref ql) 0x3 rQ rfl) (bV (gY (v:=.ref qk) 0x3 rP rfl) (bV (gY (v:=.ref qj) 0x3 rO rfl) (bV (gY (v:=.ref qi) 0x3 rN rfl) (bV (gY (v:=.ref qh) 0x3 rM rfl) (jH)))))) λ_ _ _ h=>h))) (MT (aFs (MP (JB (v:=.ty "ValueError") hK (uJ y4) (λu r=>r) 0x3 B.isi rfl 0x0 (Y0 0x3 rR HR rfl) rfl rfl)))))) (aV (oV RQ)) dC) (aK (fO (PW.pt (Z_ (bF (uH hu) (JB (v:=.ref pc) hK (uJ y5) (λu r=>r) 0x3 B.isi rfl 0x0 (gY 0x3 rS rfl) rfl rfl) (FQ (dU hu) aA aF (bL _)) (bL _)) (MT (bF (uH hu) (JB (v:=.ref pd) hK (uJ y6) (λu r=>r) 0x3 B.isi rfl 0x0 (gY 0x3 rT rfl) rfl rfl) (FQ (dU hu) aA aF (bL _)) (bL _))))) (aV (oV RQ)) dC) (aV (oV (Z9 (FQ (dU hu) (JB (v:=.ref p9) hK (uJ y7) (λu r=>r) 0x3 B.isi rfl 0x0 (gY 0x3 rV rfl) rfl rfl) (FQ (dU hu) aA aF (bL _)) (bL _)) (Z9 (aLe .str (R8 hK (zQ y8) rfl 0x0) 0x3 B.isi HJ 0x3 B.str aLk) (aFt (FQ (dU hu) (R8 hK (zQ y9) rfl 0x0) aA (bL _)))))))))))
theorem xX(F:Fun K "_law_no_kind" "_law_no_kind" iD fad fd)(hm:mg "_law_no_kind"=ae (.ref fad)):YT P w K mg base 1 "_law_no_kind" 5 fU:=by
 have sc:=z8;have nd:=sc.nd;refine zK F hm (F.binds λ_ _ _ _ _ _ us hl=>by obtain⟨_,_,_,_,_,rfl⟩:=Mi.l5 hl;rfl) sc mQ 0x4 0x4 λcdv A outer s H E hr=>?_
 have hu:=yF hr
 exact bR (bU (HY (os:=[11]) 0x4 (by intro i h;simp only[mQ,dm,eR] at h;simp;lia) aA (nP rfl (aP (aM sc.nd rfl 0x0) (aP (aM sc.nd rfl 0x0) (aP (aM sc.nd rfl 0x0) (fD))))))) (bR (bU (HX (os:=[11]) rfl (by intro i h;simp only[mQ,dm,eR] at h;simp;lia) sc.nd rfl 0x0 (aU (iB 0xd) aA))) (bR (bU (bD (aN bQ aA (bH (cP hK) 0x3 B.len cQ 0xf)))) (bR (bU (bD (aU aA aA))) (bR (bU (bD (aN aZ (dX (RV 0x3) 0x3 B.list zE (aB (b_ hK aA (bJ aF) (bJ (yV oR aF))) aH)) (dX (RV 0x3) 0x3 B.list zE (aB (aU aA (yV oR aF)) aH))))) (bR (bU (bD (aN bQ (aN cR aA aF) (bH (cP hK) 0x3 B.len cQ 0xf)))) (bR (bU (bD (aN aZ aA (iH (show cH iG (aL iD) _ 0xc from 0x9) rfl rfl rfl (cL (aN aZ aA aA)) (cT 16) (λ_=>aM (show((cw 0xb iG++0xc):aa Str).Nodup from 0x6) rfl 0x0) (λ_=>aU aA aF) (λ_=>rfl))))) (bR (bU (bD (aU aA (aN bQ (aN cR aA aF) (bH (cP hK) 0x3 B.len cQ 0xf))))) (bR (bU (aAv rfl rfl 0x0 aA aA)) (bR (bU (fO (bF (dU hu) (aN bQ aA aF) aF (bL _)) (aV (bD (aN aZ (b_ hK aA (bO) (bJ (aN aZ aA aF))) (iH (show cH iG (aL iD) _ (["name"]:aa Str) from 0x9) rfl rfl rfl (cL (b_ hK aA (bJ (aN aZ aA aF)) (bO))) (cT 16) (λ_=>aM (show((cw (eE (["name"]:aa Str)) iG++(["name"]:aa Str)):aa Str).Nodup from 0x6) rfl 0x0) (λ_=>iQ) (λ_=>rfl))))) dC)) (bR (bU (bD (aN uA (bH (cP hK) 0x3 B.len cQ 0xf) aF))) (bR (bU (bD (aN aZ (aN aZ (b_ hK aA (bO) (bJ aA)) (gB (aB (aN dZ (aN dZ (b8 (aB 0xe aH)) (dX iY 0x3 B.tuple iZ (aB (b_ hK aA (bO) (bJ aA)) aH))) (b8 (aB (dX iY 0x3 B.tuple iZ (aB (b_ hK aA (bJ aA) (bO)) aH)) aH))) aH))) (b_ hK aA (bJ (aN aZ aA aF)) (bO))))) (bR (bU (fO (PW.pt (wW (bF (dU hu) (aN bQ (aN cR aA aF) aF) aF (bL _)) (oO (bF O6 (aN aZ aA aF) (bH (cP hK) 0x3 B.len cQ 0xf) (bL _))))) (aV (bD (aN aZ (b_ hK aA (bO) (bJ (yV oR aF))) (gB (aB (aN dZ (b8 (aB (aU 0xe aF) aH)) (b_ hK (aU aA (yV oR aF)) (bJ aF) (bO))) aH))))) dC)) (bR (aMc (bF (dU hu) aA aF (bL _)) (CG (CJ (aB aA (aB aA 0xd)))) (aAy)) (bR (bU (fO (bF (dU hu) (aN bQ (aN cR aA aF) aF) aF (bL _)) (aV (bD (aN aZ (b_ hK aA (bO) (bJ (yV oR aF))) (gB (aB (aN dZ (b8 (aB 0xe aH)) (b_ hK (aU aA (yV oR aF)) (bJ aF) (bO))) aH))))) dC)) (CG (CJ (aB aA (aB aA 0xd))))))))))))))))))
theorem wH(F:Fun K "_law_odd_pair" "_law_odd_pair" d7 fad fd)(hm:mg "_law_odd_pair"=ae (.ref fad)):YT P w K mg base 1 "_law_odd_pair" 6 d8:=by
 have sc:=xV;have nd:=sc.nd;refine zK F hm (F.binds λ_ _ _ _ _ _ us hl=>by obtain⟨_,_,_,_,_,_,rfl⟩:=Mi.l6 hl;rfl) sc zY 0x4 0x4 λcdv A outer s H E hr=>?_
 have hu:=yF hr
 exact bR (bU (HY (os:=[]) 0x4 (by intro i h;cases h) aA (nP rfl (aP (aM sc.nd rfl 0x0) (aP (aM sc.nd rfl 0x0) (aP (aM sc.nd rfl 0x0) (fD))))))) (bR (bU (bD (aN bQ aA (bH (cP hK) 0x3 B.len cQ 0xf)))) (bR (bU (NT (aU aA aA) (lG _ 0x4) (nZ rfl (aP (aM sc.nd rfl 0x0) (aP (aM sc.nd rfl 0x0) (aP (aM sc.nd rfl 0x0) (aP (aM sc.nd rfl 0x0) (fD)))))))) (bR (bU (bD (aN cR aA (bH (cP hK) 0x3 B.len cQ 0xf)))) (bR (bU (fO (bF (dU hu) (aN bQ aA aF) aF (bL _)) (aK (bD (b8 aH)) (aV (bD (b8 (aB 0xe aH))))) dC)) (bR (aMc (bF (dU hu) aA aF (bL _)) (bR (bU (bD (aN aZ (aN aZ aA aF) (aN bQ aA (aN uA (bH (cP hK) 0x3 B.len cQ 0xf) aA))))) (CG (CJ (aB (aN aZ (aN aZ (b_ hK aA (bO) (bJ aA)) (gB (aB (b8 (aB aA (aB aA 0xd))) aH))) (b_ hK aA (bJ aA) (bO))) (aB aF 0xd))))) (aAy)) (bR (bU (bD (aN aZ aA aA))) (bR (aMc (bF (dU hu) aA aF (bL _)) (bR (bU (bD (aN aZ aA (iH (show cH dF (aL d7) _ 0xc from 0x9) rfl rfl rfl (cL aA) (cT 20) (λ_=>aM (show((cw 0xb dF++0xc):aa Str).Nodup from 0x6) rfl 0x0) (λ_=>aU aA aF) (λ_=>rfl))))) (bR (bU (bD (aU aA (aN bQ aA (bH (cP hK) 0x3 B.len cQ 0xf))))) (bR (bU (fO (bF (dU hu) (aN bQ (aN cR aA aF) aF) aF (bL _)) (aV (aLg (j:=10) rfl rfl sc.nd rfl 0x0 rfl 0x0)) dC)) (CG (CJ (aB (aN aZ (aN aZ (b_ hK aA (bO) (bJ aA)) (gB (aB (b8 (aB aA (aB aA 0xd))) aH))) (b_ hK aA (bJ (aN aZ aA aF)) (bO))) (aB aF 0xd))))))) (aAy)) (bR (bU (bD (aU (iR (show cH dF (aL d7) _ 0xc from 0x9) rfl rfl rfl (cL aA) (cT 20) (λ_=>aM (show((cw 0xb dF++0xc):aa Str).Nodup from 0x6) rfl 0x0) (λ_=>bF (dU hu) 0xe aA (bL _)) (λ_=>aU aA aF) (λ_=>rfl)) aF))) (bR (bU (m7 (show cH dF (aL d7) _ 0xc from 0x9) rfl rfl rfl (cL aA) (cT 20) (λ_=>aM (show((cw 0xb dF++0xc):aa Str).Nodup from 0x6) rfl 0x0) (λ_=>bF (uH hu) 0xe aA (bL _)) (λ_=>aU aA aF) (λ_=>rfl) rfl sc.nd rfl 0x0 (fu rfl) 0x5)) (bR (bU (bD (aN aZ aA (iH (show cH dF (aL d7) _ 0xc from 0x9) rfl rfl rfl (cL aA) (cT 20) (λ_=>aM (show((cw 0xb dF++0xc):aa Str).Nodup from 0x6) rfl 0x0) (λ_=>aU aA aF) (λ_=>rfl))))) (bR (bU (bD (aU aA (aN bQ aA (bH (cP hK) 0x3 B.len cQ 0xf))))) (bR (bU (bD aF)) (bR (bU (fO (PW.pt (wW (bF (dU hu) aA aF (bL _)) (oO (bF (uH hu) aA (iB aH) (bL _))))) (aK (bD (aU aA (aN bQ aA (bH (cP hK) 0x3 B.len cQ 0xf)))) (aV (bD aF))) dC)) (CG (CJ (aB (aN aZ (aN aZ (b_ hK aA (bO) (bJ aA)) (gB (aB (b8 (aB aA (aB aA 0xd))) aH))) (b_ hK aA (bJ (aN aZ aA aF)) (bO))) (aB aA 0xd)))))))))))))))))
theorem DQ(F:Fun K "_law_later" "_law_later" mD fad fd)(hm:mg "_law_later"=ae (.ref fad)):vY P w K mg base 1 "_law_later" 4 jV:=by
 have sc:=JV;have nd:=sc.nd;refine M8 F hm (F.binds λ_ _ _ _ _ _ us hl=>by obtain⟨_,_,_,_,rfl⟩:=Mi.l4 hl;rfl) sc PL 0x4 0x4 λcdv A outer s H E hr=>?_
 have hu:=yF hr;exact aK (NT (aU aA (yV oR aF)) (lG _ 0x4) (nZ rfl (aP (aM sc.nd rfl 0x0) (aP (aM sc.nd rfl 0x0) (aP (aM sc.nd rfl 0x0) (aP (aM sc.nd rfl 0x0) (fD))))))) (aK (bD (b8 (aB aA (aB aA (aB aA (aB (aN dZ aA (b8 0xf)) aH)))))) (aK (fO (bF (dU hu) aA aF (bL _)) (aV (bD (b8 (aB aA (aB aA 0xd))))) dC) (aK (fO (bF (dU hu) aA aF (bL _)) (aV (bD (b8 (aB aA (aB aA 0xd))))) dC) (aK (fO (PW.pt (wW (bF (dU hu) aA aF (bL _)) (oO (bF (uH hu) aA (b8 aH) (bL _))))) (aV (bD (b8 (aB aA (aB aA (aB (b_ hK aA (bO) (bJ (yV oR aF))) 0xf)))))) dC) (aK (fO (bF (dU hu) aA aF (bL _)) (aK (m7 (show cH j0 (aL mD) _ 0xc from 0x9) rfl rfl rfl (cL 0xe) (cT 10) (λ_=>aM (show((cw 0xb j0++0xc):aa Str).Nodup from 0x6) rfl 0x0) (λ_=>bF (uH hu) (gB (aB 0xe aH)) (iR (show cH (cw 0xb j0++0xc) _ _ (["old"]:aa Str) from ⟨rfl,by decide +kernel,by decide +kernel,c9 0x3,by decide +kernel,by decide +kernel,by decide +kernel⟩) rfl rfl rfl (cL 0xe) (cT 11) (λ_=>aM (show((cw (eE (["old"]:aa Str)) (cw 0xb j0++0xc)++(["old"]:aa Str)):aa Str).Nodup from 0x6) rfl 0x0) (λ_=>bF (dU hu) 0xe aA (bL _)) (λ_=>aU aA aF) (λ_=>rfl)) (bL _)) (λ_=>aU aA aF) (λ_=>rfl) rfl sc.nd rfl 0x0 (fu rfl) 0x5) (aV (bD (b8 (aB aA (aB (aU (aN aZ aA (gB 0xf)) aF) 0xd)))))) dC) (aV (oV (aN aZ (b_ hK aA (bO) (bJ (yV oR aF))) (gB 0xf)))))))))
theorem vC(F:Fun K "_law_odd_names" "_law_odd_names" eN fad fd)(hm:mg "_law_odd_names"=ae (.ref fad)):YT P w K mg base 1 "_law_odd_names" 6 eO:=by
 have sc:=wD;have nd:=sc.nd;refine zK F hm (F.binds λ_ _ _ _ _ _ us hl=>by obtain⟨_,_,_,_,_,_,rfl⟩:=Mi.l6 hl;rfl) sc xR 0x4 0x4 λcdv A outer s H E hr=>?_
 have hu:=yF hr
 exact bR (bU (m7 (show cH dN (aL eN) _ (["k"]:aa Str) from 0x9) rfl rfl rfl (mL 0x3 B.range (aB (bH (cP hK) 0x3 B.len cQ 0xf) aH)) (cT 17) (λ_=>aM (show((cw (eE (["k"]:aa Str)) dN++(["k"]:aa Str)):aa Str).Nodup from 0x6) rfl 0x0) (λ_=>bF (uH hu) (aU (aU aA aA) aF) (b8 aH) (bL _)) (λ_=>aA) (λ_=>rfl) rfl sc.nd rfl 0x0 (fu rfl) 0x5)) (bR (bU (fO (PW.pt (Z_ (bF (dU hu) aA aF (bL _)) (MT (bF (dU hu) aA (iB aH) (bL _))))) (aV (bD (aDp 0x3 0x3 B.list 0x3 B.range (aB (bH (cP hK) 0x3 B.len cQ 0xf) aH)))) dC)) (bR (bU (bD (aU aA (aN bQ aA (bH (cP hK) 0x3 B.len cQ 0xf))))) (bR (bU (NT (aU aA aA) (lG _ 0x4) (nZ rfl (aP (aM sc.nd rfl 0x0) (aP (aM sc.nd rfl 0x0) (aP (aM sc.nd rfl 0x0) (aP (aM sc.nd rfl 0x0) (fD)))))))) (bR (bU (bD (aN cR aA (bH (cP hK) 0x3 B.len cQ 0xf)))) (bR (bU (fO (bF (dU hu) (aN bQ aA aF) aF (bL _)) (aV (bD (b8 (aB 0xe aH)))) dC)) (bR (bU (bD aF)) (bR (bU (aLg (j:=8) rfl rfl sc.nd rfl 0x0 rfl 0x0)) (bR (bU (fO (PW.pt (wW (bF (dU hu) aA aF (bL _)) (oO (bF (uH hu) aA (b8 aH) (bL _))))) (aK (bD (aN bQ aA (bH (cP hK) 0x3 B.len cQ 0xf))) (aK (bD (aN aZ (aN aZ (aN aZ (dX (RV 0x3) 0x3 B.list zE (aB (b_ hK aA (bO) (bJ aA)) aH)) (iB (aB iQ (aB iQ aH)))) 0xe) (iH (show cH dN (aL eN) _ 0xc from 0x9) rfl rfl rfl (cL (aN aZ 0xe 0xe)) (cT 17) (λ_=>aM (show((cw 0xb dN++0xc):aa Str).Nodup from 0x6) rfl 0x0) (λ_=>aU aA aF) (λ_=>rfl)))) (aK (bD (aU aA (aN bQ (aN cR aA aF) (bH (cP hK) 0x3 B.len cQ 0xf)))) (aK (bD (b_ hK aA (bJ (aN aZ aA aF)) (bO))) (aK (fO (bF (dU hu) (aN bQ (aN cR aA aF) aF) aF (bL _)) (aV (bD (dX iY 0x3 B.tuple iZ (aB (iH (show cH dN (aL eN) _ (["name"]:aa Str) from 0x9) rfl rfl rfl (cL aA) (cT 17) (λ_=>aM (show((cw (eE (["name"]:aa Str)) dN++(["name"]:aa Str)):aa Str).Nodup from 0x6) rfl 0x0) (λ_=>aU aA aF) (λ_=>rfl)) aH)))) dC) (aK (bD (aN dZ (aN dZ (b_ hK aA (bO) (bJ aA)) (b8 0xf)) aA)) (aV (bD aF)))))))) (aV (fO (PW.pt (wW (bF (uH hu) aA (b8 aH) (bL _)) (oO (PW.pt (Z_ (bF (dU hu) (aN bQ aA aF) aF (bL _)) (MT (bF (dU hu) (bH (cP hK) 0x3 B.len cQ 0xf) aF (bL _)))))))) (aV (bD (b_ hK aA (bO) (bJ (yV oR aF))))) (aV (bD (aN dZ aA (b8 (aB (aU (iB (aB iQ (aB 0xe aH))) (aN bQ (aN cR aA aF) aF)) aH))))))))) (CG (CJ (aB (aN aZ (aN aZ (b_ hK aA (bO) (bJ aA)) (gB (aB (b8 (aB aA (aB aA 0xd))) aH))) (b_ hK aA (bJ (aN aZ aA aF)) (bO))) (aB aA 0xd))))))))))))
theorem DR(F:Fun K "_law_heads" "_law_heads" gP fad fd)(hm:mg "_law_heads"=ae (.ref fad)):vY P w K mg base 1 "_law_heads" 2 mF:=by
 have sc:=JW;have nd:=sc.nd;refine M8 F hm (F.binds λ_ _ _ _ _ _ us hl=>by obtain⟨_,_,rfl⟩:=Mi.l2 hl;rfl) sc PN 0x4 0x4 λcdv A outer s H E hr=>?_
 have hu:=yF hr;exact aK (HY (os:=[]) 0x4 (by intro i h;cases h) aA (nP rfl (aP (aM sc.nd rfl 0x0) (aP (aM sc.nd rfl 0x0) (aP (aM sc.nd rfl 0x0) (fD)))))) (aK (bD (aU (iR (show cH fB (aL gP) _ 0xc from 0x9) rfl rfl rfl (cL aA) (cT 9) (λ_=>aM (show((cw 0xb fB++0xc):aa Str).Nodup from 0x6) rfl 0x0) (λ_=>bF (dU hu) 0xe 0xe (bL _)) (λ_=>aA) (λ_=>rfl)) aF)) (aK (bD (aU (iR (show cH fB (aL gP) _ 0xc from 0x9) rfl rfl rfl (cL aA) (cT 9) (λ_=>aM (show((cw 0xb fB++0xc):aa Str).Nodup from 0x6) rfl 0x0) (λ_=>bF (dU hu) 0xe 0xe (bL _)) (λ_=>aA) (λ_=>rfl)) aF)) (aK (bD (aN dZ 0xe 0xe)) (aK (kW (show cH fB (aL gP) _ (["j"]:aa Str) from 0x9) rfl rfl rfl (mL 0x3 B.range (aB (bH (cP hK) 0x3 B.len cQ 0xf) aH)) (cT 9) (λ_=>aM (show((cw (eE (["j"]:aa Str)) fB++(["j"]:aa Str)):aa Str).Nodup from 0x6) rfl 0x0) (λ_=>b8 (aB (aU 0xe aA) (aB (aU aA aA) (aB (b8 aH) aH)))) (λ_=>rfl) rfl sc.nd rfl 0x0 (fu rfl) 0x5) (aV (oV (aN aZ (aN aZ aA aA) (iH (show cH fB (aL gP) _ 0xc from 0x9) rfl rfl rfl (cL aA) (cT 9) (λ_=>aM (show((cw 0xb fB++0xc):aa Str).Nodup from 0x6) rfl 0x0) (λ_=>b8 (aB 0xe (aB 0xe (aB (aN dZ (b8 (aB 0xe aH)) 0xe) aH)))) (λ_=>rfl)))))))))
theorem DW(F:Fun K "_law_wants" "_law_wants" jW fad fd)(hm:mg "_law_wants"=ae (.ref fad)):vY P w K mg base 1 "_law_wants" 2 jX:=by
 have sc:=JX;have nd:=sc.nd;refine M8 F hm (F.binds λ_ _ _ _ _ _ us hl=>by obtain⟨_,_,rfl⟩:=Mi.l2 hl;rfl) sc PP 0x4 0x4 λcdv A outer s H E hr=>?_
 have hu:=yF hr;exact aK (bD (gB (aB (aU (iR (show cH j4 (aL jW) _ 0xc from 0x9) rfl rfl rfl (cL aA) (cT 6) (λ_=>aM (show((cw 0xb j4++0xc):aa Str).Nodup from 0x6) rfl 0x0) (λ_=>bF (dU hu) 0xe 0xe (bL _)) (λ_=>aU aA aF) (λ_=>rfl)) aF) aH))) (aK (bD (iB aH)) (aK (M7 iN rfl (cL 0xe) (lF rfl) (aM sc.nd rfl 0x0) (aK (aIp rfl rfl 0x0 (aAx rfl rfl 0x0)) (aK (bD (aU (iR (show cH j4 (aL jW) _ 0xc from 0x9) rfl rfl rfl (cL aA) (cT 6) (λ_=>aM (show((cw 0xb j4++0xc):aa Str).Nodup from 0x6) rfl 0x0) (λ_=>bF (dU hu) 0xe aA (bL _)) (λ_=>aU aA aF) (λ_=>rfl)) aF)) (aV (aAq rfl rfl 0x0 (R5 0x3 0x3 B.list 0x3 B.reversed aA)))))) (aV (aA3 rfl rfl 0x0))))
theorem vD(rW:vY P w K mg base 1 "_law_heads" 2 mF)(rX:vY P w K mg base 1 "_law_wants" 2 jX)(F:Fun K "_law_odd_words" "_law_odd_words" iJ fad fd)(hm:mg "_law_odd_words"=ae (.ref fad)):YT P w K mg base 2 "_law_odd_words" 5 eQ:=by
 have sc:=wF;have nd:=sc.nd;refine zK F hm (F.binds λ_ _ _ _ _ _ us hl=>by obtain⟨_,_,_,_,_,rfl⟩:=Mi.l5 hl;rfl) sc xT 0x4 0x4 λcdv A outer s H E hr=>?_
 have hu:=yF hr;exact bR (bU (bD (aN bQ aA (bH (cP hK) 0x3 B.len cQ 0xf)))) (bR (bU (NT (aU aA aA) (lG _ 0x4) (nZ rfl (aP (aM sc.nd rfl 0x0) (aP (aM sc.nd rfl 0x0) (aP (aM sc.nd rfl 0x0) (aP (aM sc.nd rfl 0x0) (fD)))))))) (bR (bU (bD (aN cR aA (bH (cP hK) 0x3 B.len cQ 0xf)))) (bR (bU (bD (aN bQ (aN cR aA aF) (bH (cP hK) 0x3 B.len cQ 0xf)))) (bR (bU (bD (aU aA (aN bQ (aN cR aA aF) (bH (cP hK) 0x3 B.len cQ 0xf))))) (bR (bU (bD (sI rW hr 0x4 0x3 (aB (aU aA aA) 0xf)))) (bR (bU (m7 (show cH j7 (aL iJ) _ 0xc from 0x9) rfl rfl rfl (cL aA) (cT 15) (λ_=>aM (show((cw 0xb j7++0xc):aa Str).Nodup from 0x6) rfl 0x0) (λ_=>bF (uH hu) 0xe (aU (sI rX hr 0x4 0x3 (aB aA (aB (aU aA aA) aH))) aA) (bL _)) (λ_=>aU aA aF) (λ_=>rfl) rfl sc.nd rfl 0x0 (fu rfl) 0x5)) (bR (bU (bD aF)) (bR (bU (fO (PW.pt (wW (bF (dU hu) (aN bQ aA aF) aF (bL _)) (oO (bF aPo aA aF (bL _))))) (aK (bD (b_ hK aA (bO) (bJ aA))) (aV (bD iQ))) (aV (fO (PW.pt (wW (bF (dU hu) (aN bQ aA aF) aF (bL _)) (oO (bF (uH hu) aA (iB aH) (bL _))))) (aK (bD (aU aA (aN bQ aA (bH (cP hK) 0x3 B.len cQ 0xf)))) (aV (bD (aN dZ (aN dZ (b_ hK aA (bO) (bJ aA)) (b8 0xf)) (b_ hK aA (bJ (aN aZ aA aF)) (bO)))))) (aV (fO (bF (dU hu) (aN bQ aA aF) aF (bL _)) (aV (bD (aN dZ aA (b8 0xf)))) (aK (bD (aN dZ (aN dZ (b_ hK aA (bO) (bJ aA)) (b8 0xf)) (b_ hK aA (bJ (aN aZ aA aF)) (bO)))) (aV (bD aF))))))))) (CG (CJ (aB (aN aZ (aN aZ (b_ hK aA (bO) (bJ aA)) (gB (aB (b8 (aB aA (aB aA 0xd))) aH))) (b_ hK aA (bJ (aN aZ aA aF)) (bO))) (aB aA 0xd))))))))))))
theorem aN7(p7:QZ P w K mg base 1 "_law_next" 1 1 bK)(rY:QZ P w K mg base 2 "_law_names" 1 1 jR)(rZ:QZ P w K mg base 2 "_law_sig" 2 1 m_)(t6:QZ P w K mg base 3 "_law_rules" 4 1 lZ)(t7:YT P w K mg base 1 "_law_twice" 3 gH)(t8:YT P w K mg base 1 "_law_no_kind" 5 fU)(t9:YT P w K mg base 1 "_law_odd_pair" 6 d8)(tf:YT P w K mg base 1 "_law_odd_names" 6 eO)(tj:YT P w K mg base 2 "_law_odd_words" 5 eQ)(rj:vY P w K mg base 1 "_law_later" 4 jV)(tm:vY P w K mg base 7 "_law_refused" 3 jL)(pA:Q0 P w K mg base 1 "Twice" ["word"])(y1:aK0 (λc=>∃C,nsIn K bu c=ae (ae (.ref C))/\XA K C "word") ["Twice"])(F:Fun K "law" "law" CQ fad fd):uO P w K mg base CX0 8 fad fd ["script"] (spD X8 1):=by
 have sc:=aN6;have nd:=sc.nd;refine aLj F sc o_law 0x4 0x4 λcdv A outer s H E hr=>?_
 have hu:=yF hr
 exact aK (bD (aM7 (iB (aB (b_ hK aA (bO) (bJ aF)) (aB aF aH))))) (aK (lJ rfl sc.nd rfl 0x0 (fJ p7 hr 0x4 0x3 rfl rfl 0x0 (kI))) (aK (lJ rfl sc.nd rfl 0x0 (fJ p7 hr 0x4 0x3 rfl rfl 0x0 (kI))) (aK (lJ rfl sc.nd rfl 0x0 (fJ p7 hr 0x4 0x3 rfl rfl 0x0 (kI))) (aK (lJ rfl sc.nd rfl 0x0 (fJ rY hr 0x4 0x3 rfl rfl 0x0 (kI))) (aK (lJ rfl sc.nd rfl 0x0 (fJ rZ hr 0x4 0x3 rfl rfl 0x0 (aG5 rfl rfl 0x0 (kI)))) (aK (lJ rfl sc.nd rfl 0x0 (fJ t6 hr 0x4 0x3 rfl rfl 0x0 (aMf (os:=[1]) (by intro i h;simp only[o_law,dm,eR] at h;simp;lia) 0xe (aMf (os:=[1]) (by intro i h;simp only[o_law,dm,eR] at h;simp;lia) 0xe (aG5 rfl rfl 0x0 (kI)))))) (aK (bD (gB (aB 0xe (aB iQ (aB iQ (aB 0xe aH)))))) (aK (bD (aN bQ aA aF)) (aK (NT (b8 (aB aF (aB (yV oR aF) aH))) (lG _ 0x4) (nZ rfl (aP (aM sc.nd rfl 0x0) (aP (aM sc.nd rfl 0x0) (fD))))) (aK (fO (bF O6 aA aF (bL _)) (aK (zL (os:=[1]) t7 hr 0x4 0x3 (aB aA 0xd) 0x4 (by intro i h;simp only[o_law,dm,eR] at h;simp;lia) (nP rfl (aP (aM sc.nd rfl 0x0) (aP (aM sc.nd rfl 0x0) (aP (aM sc.nd rfl 0x0) (aP (aM sc.nd rfl 0x0) (fD))))))) (aK (HX (os:=[1]) rfl (by intro i h;simp only[o_law,dm,eR] at h;simp;lia) sc.nd rfl 0x0 (iB (aB aA 0xd))) (aV (bD aF)))) (aV (fO (bF O6 aA aF (bL _)) (aK (zL (os:=[1]) t8 hr 0x4 0x3 (aB (aN uA aA aF) (aB aA (aB aA 0xd))) 0x4 (by intro i h;simp only[o_law,dm,eR] at h;simp;lia) (nP rfl (aP (aM sc.nd rfl 0x0) (aP (aM sc.nd rfl 0x0) (aP (aM sc.nd rfl 0x0) (aP (aM sc.nd rfl 0x0) (fD))))))) (aV (HX (os:=[1]) rfl (by intro i h;simp only[o_law,dm,eR] at h;simp;lia) sc.nd rfl 0x0 (iB (aB aA 0xd))))) (aV (fO (bF O6 aA aF (bL _)) (aV (zL (os:=[1]) t9 hr 0x4 0x3 (aB (aN uA aA aF) (aB aA (aB aA (aB aA 0xd)))) 0x4 (by intro i h;simp only[o_law,dm,eR] at h;simp;lia) (nP rfl (aP (aM sc.nd rfl 0x0) (aP (aM sc.nd rfl 0x0) (aP (aM sc.nd rfl 0x0) (aP (aM sc.nd rfl 0x0) (fD)))))))) (aV (fO (bF O6 aA aF (bL _)) (aV (zL (os:=[1]) tf hr 0x4 0x3 (aB (aN uA aA aF) (aB aA (aB aA (aB aA 0xd)))) 0x4 (by intro i h;simp only[o_law,dm,eR] at h;simp;lia) (nP rfl (aP (aM sc.nd rfl 0x0) (aP (aM sc.nd rfl 0x0) (aP (aM sc.nd rfl 0x0) (aP (aM sc.nd rfl 0x0) (fD)))))))) (aK (bD (aU (aU aA (aN bQ aA (bH (cP hK) 0x3 B.len cQ 0xf))) aF)) (aK (bD (aN aZ aA (iR (show cH aIu (aL CQ) _ (["name"]:aa Str) from 0x9) rfl rfl rfl (cL (b_ hK aA (bJ aF) (bJ aF))) (cT 19) (λ_=>aM (show((cw (eE (["name"]:aa Str)) aIu++(["name"]:aa Str)):aa Str).Nodup from 0x6) rfl 0x0) (λ_=>bF (uV hu) aA aA 0x5) (λ_=>aA) (λ_=>rfl)))) (aV (zL (os:=[1]) tj hr 0x4 0x3 (aB aA (aB aA (aB aA 0xd))) 0x4 (by intro i h;simp only[o_law,dm,eR] at h;simp;lia) (nP rfl (aP (aM sc.nd rfl 0x0) (aP (aM sc.nd rfl 0x0) (aP (aM sc.nd rfl 0x0) (aP (aM sc.nd rfl 0x0) (fD))))))))))))))))) (aK (fO (bF (dU hu) (aN bQ (aN cR aA aF) aF) aF (bL _)) (aV (fO (bF (dU hu) (aN bQ (aN cR aA aF) aF) aF (bL _)) (aV (bD (aN aZ aA (gB (aB 0xe aH))))) (aV (fO (bF O6 aA (aN uA (bH (cP hK) 0x3 B.len cQ 0xf) aF) (bL _)) (aV (bD (sI rj hr 0x4 0x3 (aB (aN bQ (aN cR aA aF) aF) (aB aA (aB aA (aB 0xe aH))))))) (aV (fO (bF O6 aA aF (bL _)) (aV (bD (sI rj hr 0x4 0x3 (aB aF (aB aA (aB aA (aB 0xe aH))))))) dC)))))) dC) (aK (bD (b8 (aB (dX iY 0x3 B.tuple iZ (aB 0xe aH)) (aB (dX iY 0x3 B.tuple iZ (aB 0xe aH)) (aB (dX iY 0x3 B.tuple iZ (aB 0xe aH)) (aB (dX iY 0x3 B.tuple iZ 0xf) aH)))))) (aK (bD (aIl pA hK hr 0x4 rfl 0x3 (aB 0xe aH))) (aV (oV (Z9 (sI tm hr 0x4 0x3 (aB aA 0xd)) (aFt (FQ (dU hu) (R8 hK (zQ y1) rfl 0x0) 0xe (bL _)))))))))))))))))))
end
theorem aBk:cA (["self","word"]:aa Str) ["self","word"] (aL JL):=0xa
theorem YC[KFrag]{P:bp}{w:bj}{K:Frag}{mg:Str->av am}{base:az}{fad C M:ak}{fd:c6}(F:Fun K "__init__" "NoName.__init__" JL fad fd)(x:XI K C fad)(m:mg "MillError"=ae (.ref M))(b1:jc K (.ref M) "__getattribute__"=ae (ae (.builtin "type.__getattribute__")))(b2:la K M (.type "type")=ag)(b3:lc K (.ref M) (.type "type") "__init__"=ae (.val (.builtin "ValueError.__init__")))(no:dn K (.ref C) "word"=ae aj):uO P w K mg base CX0 1 fad fd ["self","word"] (n_ C ["word"]):=
 have sc:=aBk
 JC (M:=M) F sc rfl rfl λcdv A outer s H E hr=>kJ (nF (IK x.cl 0x3 m b1 b2 b3 (bV (cZ rfl 0x0) (bV (cZ rfl 0x0) jH)))) (mH (IV x no (cZ rfl 0x0) (cZ rfl 0x0)))
theorem YD:cA (["self","word"]:aa Str) ["self","word"] (aL zZ):=0xa
theorem S5[KFrag]{P:bp}{w:bj}{K:Frag}{mg:Str->av am}{base:az}{fad C M:ak}{fd:c6}(F:Fun K "__init__" "BadKind.__init__" zZ fad fd)(x:XI K C fad)(m:mg "MillError"=ae (.ref M))(b1:jc K (.ref M) "__getattribute__"=ae (ae (.builtin "type.__getattribute__")))(b2:la K M (.type "type")=ag)(b3:lc K (.ref M) (.type "type") "__init__"=ae (.val (.builtin "ValueError.__init__")))(no:dn K (.ref C) "word"=ae aj):uO P w K mg base CX0 1 fad fd ["self","word"] (n_ C ["word"]):=
 have sc:=YD
 JC (M:=M) F sc rfl rfl λcdv A outer s H E hr=>kJ (nF (IK x.cl 0x3 m b1 b2 b3 (bV (cZ rfl 0x0) (bV (cZ rfl 0x0) jH)))) (mH (IV x no (cZ rfl 0x0) (cZ rfl 0x0)))
theorem aEi:cA (["self","word"]:aa Str) ["self","word"] (aL SJ):=0xa
theorem aBl[KFrag]{P:bp}{w:bj}{K:Frag}{mg:Str->av am}{base:az}{fad C M:ak}{fd:c6}(F:Fun K "__init__" "Twice.__init__" SJ fad fd)(x:XI K C fad)(m:mg "MillError"=ae (.ref M))(b1:jc K (.ref M) "__getattribute__"=ae (ae (.builtin "type.__getattribute__")))(b2:la K M (.type "type")=ag)(b3:lc K (.ref M) (.type "type") "__init__"=ae (.val (.builtin "ValueError.__init__")))(no:dn K (.ref C) "word"=ae aj):uO P w K mg base CX0 1 fad fd ["self","word"] (n_ C ["word"]):=
 have sc:=aEi
 JC (M:=M) F sc rfl rfl λcdv A outer s H E hr=>kJ (nF (IK x.cl 0x3 m b1 b2 b3 (bV (cZ rfl 0x0) (bV (cZ rfl 0x0) jH)))) (mH (IV x no (cZ rfl 0x0) (cZ rfl 0x0)))
theorem YF:cA (["self","taker","maker"]:aa Str) ["self","taker","maker"] (aL z6):=0xa
theorem S6[KFrag]{P:bp}{w:bj}{K:Frag}{mg:Str->av am}{base:az}{fad C M:ak}{fd:c6}(F:Fun K "__init__" "Lacking.__init__" z6 fad fd)(x:XI K C fad)(m:mg "MillError"=ae (.ref M))(b1:jc K (.ref M) "__getattribute__"=ae (ae (.builtin "type.__getattribute__")))(b2:la K M (.type "type")=ag)(b3:lc K (.ref M) (.type "type") "__init__"=ae (.val (.builtin "ValueError.__init__")))(no:dn K (.ref C) "taker"=ae aj)(no2:dn K (.ref C) "maker"=ae aj):uO P w K mg base CX0 1 fad fd ["self","taker","maker"] (n_ C ["taker","maker"]):=
 have sc:=YF
 aEa (M:=M) F sc rfl rfl 0x4 λcdv A outer s H E hr=>kJ (nF (IK x.cl 0x3 m b1 b2 b3 (bV (cZ rfl 0x0) (bV (cZ rfl 0x0) (bV (cZ rfl 0x0) jH))))) (kJ (IV x no (cZ rfl 0x0) (cZ rfl 0x0)) (mH (aIm x no2 (cZ rfl 0x0) (cZ rfl 0x0))))
def AtN(K:Frag)(n:Str)(st:bi):Prop:=∃(f:ak)(fd:c6),nsIn K bu n=ae (ae (.ref f))/\Fun K n n st f fd
theorem aPz{K:Frag}{n:Str}{st:bi}{f:ak}{oc kV dc pm cd ct:am}{od an:av ak}{sl:bw (av am)}(a:nsIn K bu n=ae (ae (.ref f)))(l:K.lookup f=ae ⟨oc,od,.func (fnOf n n (oK st) (fW st) (aL st) .none kV dc pm an cd ct),sl⟩)(c:codeIn K cd n=ag)(k:keepIn K (.ref f)=ag):AtN K n st:=⟨f,_,a,ZZ (st:=st) l c k⟩
noncomputable def noI(K:Frag)(v:av (av am)):aq:=match v with|some aj=>ag|_=>ah
theorem aGd{K:Frag}{v:av (av am)}(h:noI K v=ag):v=ae aj:=by
 unfold noI at h;split at h
 .rfl
 .cases h
noncomputable def btN:aa Str:=["len","min","max","list","tuple","sorted","range","isinstance","int","bool","str","dict","all","enumerate","sum","zip","abs","reversed","ValueError"]
structure ExF(K:Frag)(c q:Str)(fs:aa Str)(st:bi)(M D:ak):Prop where
 g:nsIn K bu c=ae (ae (.ref D))
 xi:∃(i:ak)(fd:c6),XI K D i/\Fun K "__init__" q st i fd
 xc:XC K D
 hd:wy K D=ag
 no:fs.all (λf=>noI K (dn K (.ref D) f))=ag
 xm:nk K (.ref D) (.ref M)=ae ag
theorem ExF.nf{K:Frag}{c q f:Str}{fs:aa Str}{st:bi}{M D:ak}(x:ExF K c q fs st M D)(h:f∈fs):dn K (.ref D) f=ae aj:=aGd (fT.mp x.no f h)
theorem aQ0{K:Frag}{c q:Str}{fs:aa Str}{st:bi}{M D i:ak}{oc kV dc pm cd ct:am}{od an:av ak}{sl:bw (av am)}(g:nsIn K bu c=ae (ae (.ref D)))(xe:exC K D=ag)(n:dn K (.ref D) "__init__"=ae (ae (.ref i)))(f:isFn K (.ref i)=ag)(kp:keepIn K (.ref D)=ag)(sa:dn K (.ref D) "__setattr__"=ae (ae (.builtin "object.__setattr__")))(w1:isClsIn K D=ag)(w2:dn K (.ref D) "__getattribute__"=ae (ae (.builtin "BaseException.__getattribute__")))(w3:dn K (.ref D) "__getattr__"=ae aj)(w4:dn K (.ref D) "__class__"=ae (ae (.builtin "object.__class__")))(w5:jc K (.builtin "object.__class__") "__get__"=ae (ae (.builtin "getset_descriptor.__get__")))(w6:takesIn K (.builtin "object.__class__")=ae ag)(w7:jv K D (.type "object")=ae ag)(w8:jv K D (.type "BaseException")=ae ag)(l:K.lookup i=ae ⟨oc,od,.func (fnOf "__init__" q (oK st) (fW st) (aL st) .none kV dc pm an cd ct),sl⟩)(ci:codeIn K cd q=ag)(ki:keepIn K (.ref i)=ag)(hd:wy K D=ag)(no:fs.all (λf=>noI K (dn K (.ref D) f))=ag)(xm:nk K (.ref D) (.ref M)=ae ag):ExF K c q fs st M D:=⟨g,⟨i,_,⟨xe,n,f,kp,sa,w7⟩,ZZ (st:=st) l ci ki⟩,⟨w1,w2,w3,w4,w5,w6,w7,w8⟩,hd,no,xm⟩
theorem aN8{l:OpenLaw}{w:bj}{K:Frag}{h:az}{mg:Str->av am}{fa:ak}(X:K.In h)(G:h.Ns bu mg)(hfa:mg "law"=ae (.ref fa))(a0:AtN K "_law_next" uK)(a1:AtN K "_law_names" jQ)(a2:AtN K "_law_sig" k_)(a3:AtN K "_law_words" lX)(a4:AtN K "_law_rules" iT)(a5:AtN K "_law_twice" jT)(a6:AtN K "heads_of" wC)(a7:AtN K "head_of" zU)(a8:AtN K "walk_words" oY)(a9:AtN K "see" aIr)(a10:AtN K "known_names" nQ)(a11:AtN K "check_rules" jB)(a12:AtN K "check_lacking" gJ)(a13:AtN K "check_kinds" nR)(a14:AtN K "sound" R_)(a15:AtN K "_law_refused" mO)(a16:AtN K "_law_no_kind" iD)(a17:AtN K "_law_odd_pair" d7)(a18:AtN K "_law_later" mD)(a19:AtN K "_law_odd_names" eN)(a20:AtN K "_law_heads" gP)(a21:AtN K "_law_wants" jW)(a22:AtN K "_law_odd_words" iJ)
 {f23:ak}{oc23 kV23 dc23 pm23 cd23 ct23:am}{od23 an23:av ak}{sl23:bw (av am)}(a23:nsIn K bu "law"=ae (ae (.ref f23)))(l23:K.lookup f23=ae ⟨oc23,od23,.func (fnOf "law" "law" (oK CQ) (fW CQ) (aL CQ) .none kV23 dc23 pm23 an23 cd23 ct23),sl23⟩)(c23:codeIn K cd23 "law"=ag)(k23:keepIn K (.ref f23)=ag)(zB:btN.all (λn=>noI K (nsIn K bu n))=ag){pB:ak}(pC:nsIn K bu "MillError"=ae (ae (.ref pB))){pG:ak}(qt:nsIn K bu "NoValue"=ae (ae (.ref pG))){pH:ak}(qu:nsIn K bu "NoTerm"=ae (ae (.ref pH))){pI:ak}(qw:nsIn K bu "NoRule"=ae (ae (.ref pI))){pJ:ak}(qx:nsIn K bu "NoPair"=ae (ae (.ref pJ))){pK:ak}(qy:nsIn K bu "NoNet"=ae (ae (.ref pK))){pL:ak}(qz:nsIn K bu "NoEnd"=ae (ae (.ref pL))){pM:ak}(qA:nsIn K bu "BadRow"=ae (ae (.ref pM))){pN:ak}(qB:nsIn K bu "Unfit"=ae (ae (.ref pN))){pO:ak}(qD:nsIn K bu "Uneven"=ae (ae (.ref pO))){pP:ak}(qE:nsIn K bu "TwoRules"=ae (ae (.ref pP))){pQ:ak}(qF:nsIn K bu "Stuck"=ae (ae (.ref pQ))){pR:ak}(qG:nsIn K bu "Spent"=ae (ae (.ref pR))){pf pg ph pi:ak}(x_BadKind:ExF K "BadKind" "BadKind.__init__" ["word"] zZ pB pf)(x_Lacking:ExF K "Lacking" "Lacking.__init__" ["word","taker","maker"] z6 pB pg)(x_NoName:ExF K "NoName" "NoName.__init__" ["word"] JL pB ph)(x_Twice:ExF K "Twice" "Twice.__init__" ["word"] SJ pB pi)(qm:jc K (.ref pB) "__getattribute__"=ae (ae (.builtin "type.__getattribute__")))(qo:la K pB (.type "type")=ag)(qp:lc K (.ref pB) (.type "type") "__init__"=ae (.val (.builtin "ValueError.__init__")))(qH:gk K (.ref pf) [.ref pM,.ref pg,.ref pL,.ref pK,.ref pJ,.ref pI,.ref pH,.ref pG]=ae ah)(qI:gk K (.ref pg) [.ref pM,.ref pg,.ref pL,.ref pK,.ref pJ,.ref pI,.ref pH,.ref pG]=ae ag)(qJ:gk K (.ref ph) [.ref pM,.ref pg,.ref pL,.ref pK,.ref pJ,.ref pI,.ref pH,.ref pG]=ae ah)(qK:gk K (.ref pi) [.ref pM,.ref pg,.ref pL,.ref pK,.ref pJ,.ref pI,.ref pH,.ref pG]=ae ah)(qL:gk K (.ref pf) [.ref pR,.ref pQ,.ref pP,.ref pO,.ref pN]=ae ah)(qM:gk K (.ref pg) [.ref pR,.ref pQ,.ref pP,.ref pO,.ref pN]=ae ah)(qN:gk K (.ref ph) [.ref pR,.ref pQ,.ref pP,.ref pO,.ref pN]=ae ah)(qO:gk K (.ref pi) [.ref pR,.ref pQ,.ref pP,.ref pO,.ref pN]=ae ah)(qP:d5 K (.ref pf) (.type "ValueError")=ae ag)(qQ:d5 K (.ref pg) (.type "ValueError")=ae ag)(qR:d5 K (.ref ph) (.type "ValueError")=ae ag)(qS:d5 K (.ref pi) (.type "ValueError")=ae ag)(qT:d5 K (.ref pf) (.ref ph)=ae ah)(qU:d5 K (.ref pg) (.ref ph)=ae ah)(qV:d5 K (.ref ph) (.ref ph)=ae ag)(qW:d5 K (.ref pi) (.ref ph)=ae ah)(qX:d5 K (.ref pf) (.ref pf)=ae ag)(qY:d5 K (.ref pg) (.ref pf)=ae ah)(qZ:d5 K (.ref ph) (.ref pf)=ae ah)(r6:d5 K (.ref pi) (.ref pf)=ae ah)(r8:d5 K (.ref pf) (.ref pi)=ae ah)(r9:d5 K (.ref pg) (.ref pi)=ae ah)(rf:d5 K (.ref ph) (.ref pi)=ae ah)(rg:d5 K (.ref pi) (.ref pi)=ae ag) :
  ∃fd:c6,(∀(s:au)(v:am),ke s fd ⟨[v],[]⟩ [("script",v)])/\∀base:az,K.In base->base.Ns bu mg->uO l.prog w K mg base CX0 8 fa fd ["script"] (@spD ⟨K⟩ X8 1):=by
 have e:=hfa.symm.trans (mg_of X G a23);cases e
 letI:KFrag:=⟨K⟩
 have Y:=λ{n:Str}{v:am}=>mg_of (n:=n) (v:=v) X G
 have Z:=λ{n:Str}=>mg_none_of (n:=n) X G
 obtain⟨f0,_,a0,F0⟩:=a0;obtain⟨f1,_,a1,F1⟩:=a1;obtain⟨f2,_,a2,F2⟩:=a2;obtain⟨f3,_,a3,F3⟩:=a3;obtain⟨f4,_,a4,F4⟩:=a4;obtain⟨f5,_,a5,F5⟩:=a5;obtain⟨f6,_,a6,F6⟩:=a6;obtain⟨f7,_,a7,F7⟩:=a7;obtain⟨f8,_,a8,F8⟩:=a8;obtain⟨f9,_,a9,F9⟩:=a9;obtain⟨f10,_,a10,F10⟩:=a10;obtain⟨f11,_,a11,F11⟩:=a11;obtain⟨f12,_,a12,F12⟩:=a12;obtain⟨f13,_,a13,F13⟩:=a13;obtain⟨f14,_,a14,F14⟩:=a14;obtain⟨f15,_,a15,F15⟩:=a15;obtain⟨f16,_,a16,F16⟩:=a16;obtain⟨f17,_,a17,F17⟩:=a17;obtain⟨f18,_,a18,F18⟩:=a18;obtain⟨f19,_,a19,F19⟩:=a19;obtain⟨f20,_,a20,F20⟩:=a20;obtain⟨f21,_,a21,F21⟩:=a21;obtain⟨f22,_,a22,F22⟩:=a22;have U:=λn h=>Z (aGd (fT.mp zB n h))
 have B:Bt mg:=⟨U _ 0x4,U _ 0x4,U _ 0x4,U _ 0x4,U _ 0x4,U _ 0x4,U _ 0x4,U _ 0x4,U _ 0x4,U _ 0x4,U _ 0x4,U _ 0x4,U _ 0x4,U _ 0x4,U _ 0x4,U _ 0x4,U _ 0x4,U _ 0x4⟩
 obtain⟨tq,_,X_BadKind,F_BadKind⟩:=x_BadKind.xi;obtain⟨tu,_,X_Lacking,F_Lacking⟩:=x_Lacking.xi;obtain⟨tB,_,X_NoName,F_NoName⟩:=x_NoName.xi;obtain⟨tD,_,X_Twice,F_Twice⟩:=x_Twice.xi;have pd:=x_BadKind.xc;have pj:=x_BadKind.g;have p8:=x_Lacking.xc;have pk:=x_Lacking.g;have pc:=x_NoName.xc;have po:=x_NoName.g;have p9:=x_Twice.xc;have pb:=x_Twice.g;refine⟨fnOf "law" "law" (oK CQ) (fW CQ) (aL CQ) .none kV23 dc23 pm23 an23 cd23 ct23,λs v=>.of_eq rfl,λbase _ _=>?_⟩;have pS:=JZ (P:=l.prog) (w:=w) (base:=base) rfl B  F0 (Y a0);have tE:=C_ (P:=l.prog) (w:=w) (base:=base) rfl B pS F1 (Y a1);have tF:=P_ (P:=l.prog) (w:=w) (base:=base) rfl B pS F2 (Y a2);have tG:=DG (P:=l.prog) (w:=w) (base:=base) rfl B pS F3 (Y a3);have tH:=DK (P:=l.prog) (w:=w) (base:=base) rfl B tG pS F4 (Y a4);have tI:=DN (P:=l.prog) (w:=w) (base:=base) rfl B  F5 (Y a5);have tJ:=QB (P:=l.prog) (w:=w) (base:=base) rfl B  F6 (Y a6);have pz:Q0 l.prog w K mg base 1 "NoName" ["word"]:=⟨ph,tB,_,_,po,Y po,X_NoName,YC F_NoName X_NoName (Y pC) qm qo qp (x_NoName.nf 0x4),F_NoName.binds λ_ _ _ _ _ _ us hl=>by obtain⟨_,_,rfl⟩:=Mi.l2 hl;rfl,by decide⟩
 have pT:=SX (P:=l.prog) (w:=w) (base:=base) rfl B  pz F7 (Y a7);have tT:=pT.cal;have pw:Q0 l.prog w K mg base 1 "BadKind" ["word"]:=⟨pf,tq,_,_,pj,Y pj,X_BadKind,S5 F_BadKind X_BadKind (Y pC) qm qo qp (x_BadKind.nf 0x4),F_BadKind.binds λ_ _ _ _ _ _ us hl=>by obtain⟨_,_,rfl⟩:=Mi.l2 hl;rfl,by decide⟩
 have pU:=DP (P:=l.prog) (w:=w) (base:=base) rfl B  pT pw F8 (Y a8);have tU:=pU.cal;have pA:Q0 l.prog w K mg base 1 "Twice" ["word"]:=⟨pi,tD,_,_,pb,Y pb,X_Twice,aBl F_Twice X_Twice (Y pC) qm qo qp (x_Twice.nf 0x4),F_Twice.binds λ_ _ _ _ _ _ us hl=>by obtain⟨_,_,rfl⟩:=Mi.l2 hl;rfl,by decide⟩
 have rq:=aIv (P:=l.prog) (w:=w) (base:=base) rfl B  pA F9 (Y a9);have pV:=z9 (P:=l.prog) (w:=w) (base:=base) rfl B rq pw F10 (Y a10);have tV:=pV.cal;have pW:=A_ (P:=l.prog) (w:=w) (base:=base) rfl B tJ pU pV pz pw pA F11 (Y a11);have tW:=pW.cal;have qr:Q0 l.prog w K mg base 1 "Lacking" ["taker","maker"]:=⟨pg,tu,_,_,pk,Y pk,X_Lacking,S6 F_Lacking X_Lacking (Y pC) qm qo qp (x_Lacking.nf 0x4) (x_Lacking.nf 0x4),F_Lacking.binds λ_ _ _ _ _ _ us hl=>by obtain⟨_,_,_,rfl⟩:=Mi.l3 hl;rfl,by decide⟩
 have pX:=wG (P:=l.prog) (w:=w) (base:=base) rfl B  qr F12 (Y a12);have tX:=pX.cal;have pF:=BJ (P:=l.prog) (w:=w) (base:=base) rfl B  pz F13 (Y a13);have tY:=pF.cal;have pY:=aBj (P:=l.prog) (w:=w) (base:=base) rfl B rq pF pW pX F14 (Y a14);have u5:=pY.cal;have tK:=xW (P:=l.prog) (w:=w) (base:=base) rfl B  pY (Y pC) (Y qt) (Y qu) (Y qw) (Y qx) (Y qy) (Y qz) (Y pk) (Y qA) (Y qB) (Y qD) (Y qE) (Y qF) (Y qG) (U _ 0x4) (Y po) (Y pj) (Y pb) ⟨⟨_,pj,x_BadKind.xm⟩,⟨_,pk,x_Lacking.xm⟩,⟨_,po,x_NoName.xm⟩,⟨_,pb,x_Twice.xm⟩,trivial⟩ ⟨⟨_,pj,pd,qH⟩,⟨_,pk,p8,qI⟩,⟨_,po,pc,qJ⟩,⟨_,pb,p9,qK⟩,trivial⟩ ⟨⟨_,pj,pd,qL⟩,⟨_,pk,p8,qM⟩,⟨_,po,pc,qN⟩,⟨_,pb,p9,qO⟩,trivial⟩ ⟨⟨_,pj,pd,qP⟩,⟨_,pk,p8,qQ⟩,⟨_,po,pc,qR⟩,⟨_,pb,p9,qS⟩,trivial⟩ ⟨⟨_,pj,pd,qT⟩,⟨_,pk,p8,qU⟩,⟨_,po,pc,qV⟩,⟨_,pb,p9,qW⟩,trivial⟩ ⟨⟨_,pj,pd,qX⟩,⟨_,pk,p8,qY⟩,⟨_,po,pc,qZ⟩,⟨_,pb,p9,r6⟩,trivial⟩ ⟨⟨_,pj,pd,r8⟩,⟨_,pk,p8,r9⟩,⟨_,po,pc,rf⟩,⟨_,pb,p9,rg⟩,trivial⟩ ⟨⟨_,pj,pd,x_BadKind.hd,(x_BadKind.nf 0x4)⟩,⟨_,pk,p8,x_Lacking.hd,(x_Lacking.nf 0x4)⟩,⟨_,po,pc,x_NoName.hd,(x_NoName.nf 0x4)⟩,⟨_,pb,p9,x_Twice.hd,(x_Twice.nf 0x4)⟩,trivial⟩ ⟨⟨_,pj,pd,x_BadKind.hd,(x_BadKind.nf 0x4)⟩,⟨_,pk,p8,x_Lacking.hd,(x_Lacking.nf 0x4)⟩,⟨_,po,pc,x_NoName.hd,(x_NoName.nf 0x4)⟩,⟨_,pb,p9,x_Twice.hd,(x_Twice.nf 0x4)⟩,trivial⟩ F15 (Y a15);have tL:=xX (P:=l.prog) (w:=w) (base:=base) rfl B  F16 (Y a16);have tM:=wH (P:=l.prog) (w:=w) (base:=base) rfl B  F17 (Y a17);have tN:=DQ (P:=l.prog) (w:=w) (base:=base) rfl B  F18 (Y a18);have tO:=vC (P:=l.prog) (w:=w) (base:=base) rfl B  F19 (Y a19);have tP:=DR (P:=l.prog) (w:=w) (base:=base) rfl B  F20 (Y a20);have tQ:=DW (P:=l.prog) (w:=w) (base:=base) rfl B  F21 (Y a21);have tR:=vD (P:=l.prog) (w:=w) (base:=base) rfl B tP tQ F22 (Y a22);exact aN7 rfl B pS tE tF tH tI tL tM tO tR tN tK pA ⟨⟨_,pb,p9,x_Twice.hd,(x_Twice.nf 0x4)⟩,trivial⟩ (ZZ (st:=CQ) l23 c23 k23)
theorem walk{l:OpenLaw}{q:bp}{loose:aa Str}{XP:(Str->av am)->az->Prop}{YP:bj->az->Prop}{d:DefRec}{K:Params->Frag}(main:∀ns:aa ai,ns.length<=63->X8 [.scr (ns.map τ)]=.ok (.bl ag))(hn:l.most=ae 63)(hdf:d.params.defaults=[])
 (hY:∀(w:bj) (h:az),YP w h->(K w.params).In h)
 (F:∀(w:bj) (mg:Str->av am) (fa:ak) (h:az),(K w.params).In h->h.Ns bu mg->mg d.name=ae (.ref fa)->
   ∃fd:c6,(∀(s:au) (u:am),ke s fd ⟨[u],[]⟩ [("script",u)])/\∀base:az,(K w.params).In base->base.Ns bu mg->uO l.prog w (K w.params) mg base CX0 8 fa fd ["script"] (@spD ⟨K w.params⟩ X8 1)) :
  WalkO q loose XP YP l.row.toRowW d [] (λf vs=>vq f vs):=
 L2.aHf (n:=63) (k:=8) (x:= "script") (CX:=λ_=>CX0) (sp:=λw=>@spD ⟨K w.params⟩ X8 1) hn 0x4 hdf ⟨rfl,by decide,by decide⟩ hY F (λw H a ns hl hO hS=>aA9 main hl hO hS) λ_ _ _ _ _ z=>z
end Lk48
end
namespace Lk48
open PySem L2 Mi
local macro_rules|`(0x11)=>`(aD rfl (aD rfl rfl))|`(0x12)=>`(aJ rfl rfl rfl)
theorem o5{f:aa D->Res D}{n i:af}{fs:FA}{ρ rest h h':aa D}{r:D}(h1:fs ρ=.ok rest)(h2:QX (ρ.getD i .uD)=ae h)(h3:rest.length+1=n)(h4:ch1 f h rest=.ok (r,h'))(h5:θ h'=ag){ρ':aa D}(he:ρ.set i (aG1 (ρ.getD i .uD) h')=ρ'):gG f n i fs ρ=.ok (r,ρ'):=by
 subst he;unfold gG;rw[h1,ε,h2];dsimp only;rw[ar (bg h3),h4,ε];dsimp only;rw[ar h5]
theorem iM{i:af}{f:FX}{ρ ρ':aa D}{d:D}(h:f ρ=.ok (d,ρ')){ρ2:aa D}(he:ρ'.set i d=ρ2):lU ah i f ρ=.ok (.nx ρ2):=by
 subst he;unfold lU;rw[h];rfl
theorem vG{f g:FS}{ρ:aa D}{d:D}(h:f ρ=.ok (.rt d)):a_ f g ρ=.ok (.rt d):=by
 unfold a_;rw[h];rfl
theorem aBm{i:af}{fk fv:FE}{ρ xs:aa D}{d:D}{k:ai}{j:af}(h1:fv ρ=.ok d)(h2:fk ρ=.ok (.int k))(h3:QX (ρ.getD i .uD)=ae xs)(hp:d.pure=ag)(hj:ixD xs.length k=ae j){ρ':aa D}(he:ρ.set i (aG1 (ρ.getD i .uD) (xs.set j d))=ρ'):XH i fk fv ρ=.ok (.nx ρ'):=by
 subst he;unfold XH;rw[h1,ε,h2,ε,h3];dsimp only;rw[ar hp,hj]
theorem J0{f:FE}{ρ:aa D}{d:D}{k:aq}(h:f ρ=.ok d)(hp:(k||d.pure)=ag):MK f k ρ=.ok (.rt (.tup (d::ρ))):=by
 unfold MK;rw[h,ε,ar hp]
theorem V0{i:af}{ρ:aa D}{d:D}(h:cV i ρ=.ok d)(hp:d.T9=ag):FN i ρ=.ok (.rt (.tup (d::ρ))):=by
 unfold FN;rw[h,ε,ar hp]
theorem aIw{f:FE}{ρ:aa D}{d:D}(h:f ρ=.ok d)(hp:d.pure=ag):bPu f ρ=.ok d:=by
 unfold bPu;rw[h,ε,ar hp]
theorem V1{f:D->D->Res D}{fa:FX}{fb:FE}{ρ ρ1:aa D}{x y d:D}(h1:fa ρ=.ok (x,ρ1))(hp:x.pure=ag)(h2:fb ρ1=.ok y)(h3:f x y=.ok d)(hd:d.pure=ag):x2L f fa fb ρ=.ok (d,ρ1):=by
 unfold x2L;rw[h1,ε];dsimp only;rw[ar hp,h2,ε,h3,ε,ar hd]
theorem aBn{f:D->D->Res D}{fa:FE}{fb:FX}{ρ ρ1:aa D}{x y d:D}(h1:fa ρ=.ok x)(h2:fb ρ=.ok (y,ρ1))(h3:f x y=.ok d)(hd:d.pure=ag):x2R f fa fb ρ=.ok (d,ρ1):=by
 unfold x2R;rw[h1,ε,h2,ε];dsimp only;rw[h3,ε,ar hd]
theorem aN9{f:FX}{ρ ρ1:aa D}{b:aq}(h:f ρ=.ok (.bl b,ρ1)):xTB f ρ=.ok (b,ρ1):=by
 unfold xTB;rw[h];rfl
theorem aGe{c:FXT}{f g:FS}{ρ ρ1:aa D}{k:aq}{r:Res Fl}(h1:c ρ=.ok (k,ρ1))(h2:(if k then f ρ1 else g ρ1)=r):aG2 c f g ρ=r:=by
 unfold aG2;rw[h1];exact h2
theorem GC{k n m:af}{f:FS}{ds:aa D}{d:D}{ρ:aa D}(h:f (ds++ck (m-n) .uD)=.ok (.rt (.tup (d::ρ)))):fnX k n m f ds=.ok (.tup (d::ρ.take k)):=by
 unfold fnX;rw[h];rfl
theorem wI(a b:ai)(h:kE b=ag):QW (.int a) (.int b)=.ok (.int (a*b)):=by
 show aW .mul (.int a) (.int b)=_;exact aLq a b h
theorem aBo(a:ai)(h1:-10000000000<=a)(h2:a<=10000000000):kE a=ag:=by
 unfold kE;rw[bf,eD,eD];lia
theorem aNa(a b:ai):zR .le (.int a) (.int b)=.ok (.bl (ϒ (a<=b))):=rfl
theorem GD(a b:ai):zR .lt (.int a) (.int b)=.ok (.bl (ϒ (a<b))):=rfl
theorem cmp_gt(a b:ai):zR .gt (.int a) (.int b)=.ok (.bl (ϒ (b<a))):=rfl
theorem wJ(a b:ai):cX .eq (.int a) (.int b)=.ok (.bl (a==b)):=rfl
theorem aIx(a b:ai):cX .ne (.int a) (.int b)=.ok (.bl (!(a==b))):=rfl
theorem aBp(ns:aa ai)(i:ai)(h0:0<=i)(h1:i<ns.length):∃n,getD (.scr (ns.map τ)) (.int i)=.ok (.int n):=by
 have hl:i.toNat<ns.length:=by lia
 refine⟨ns[i.toNat],?_⟩;show π ((ixD (ns.map τ).length i).bind λj=>(ns.map τ)[j]?)=_;unfold ixD;rw[ar h0,aE,ar h1];simp[hl]
noncomputable def tx(cs:aa af):Str:=⟨cs.toArray⟩
theorem xG(cs:aa af):(tx cs).length=cs.length:=by
 show cs.toArray.size=_;simp
theorem V2(a b:aa af):tx a++tx b=tx (a++b):=by
 show(⟨a.toArray++b.toArray⟩:Str)=⟨(a++b).toArray⟩
 congr 1
 simp
theorem GF{a b:aa af}(h:tx a=tx b):a=b:=by
 unfold tx at h;injection h with h
 have:=dw ui h;simpa using this
noncomputable def abc:Str:= "abcdefghijklmnopqrstuvwxyz"
theorem aNb:∀i,i<26->abc.cps.toList[i]?=ae (97+i):=0x6
theorem letter(i:ai)(h0:0<=i)(h1:i<26):getD (.str abc) (.int i)=.ok (.str (tx [97+i.toNat])):=by
 have hl:ϒ (abc.length<=lim)=ag:=by decide +kernel
 have h26:abc.cps.toList.length=26:=by decide +kernel
 have hix:ixD abc.cps.toList.length i=ae i.toNat:=by
  unfold ixD;rw[ar h0,h26,ar 0x1]
 show(if ϒ (abc.length<=lim) then π (((ixD abc.cps.toList.length i).bind λj=>abc.cps.toList[j]?).map λc=>ι ⟨#[c]⟩) else .bad)=_;rw[hl,ar rfl,hix];simp only[wz];rw[aNb _ 0x1];rfl
noncomputable def dk(cs:aa ai)(n:af):aa D:=[.scr (cs.map τ),.int n]
theorem sO(cs:aa ai)(n:af):θ (dk cs n)=ag:=by
 show((D.scr (cs.map τ)).pure&&_)=ag;rw[χ,vZ];rfl
theorem aIy(cs:aa ai)(n:af)(hn:n<=100000):∃r:ai,∀b,bK [.cel b (dk cs n)]=.ok (.tup [.int r,.cel b (dk cs (n+1))]):=by
 have hl:h_ [.scr (cs.map τ)]=.ok (.int cs.length):=by
  show δ (τ ((cs.map τ).length:ai))=_;rw[aE]
 have pre:∀(b:af)(R:Res Fl)(g:FS),g [.cel b (dk cs (n+1)),.scr (cs.map τ),.int n]=R->(a_ (b7 ah 1 (b2 getD fX eU) ah) (a_ (b7 ah 2 (b2 getD fX cO) ah) (a_ (XH 0 cO (b2 (aW .add) dW cO)) g))) [.cel b (dk cs n),.uD,.uD]=R:=λb R g hg=>by
  refine aG (ρ':=[.cel b (dk cs n),.scr (cs.map τ),.uD]) (bZ (i:=1) (aJ (x:=.cel b (dk cs n)) (y:=.int 0) rfl rfl rfl) (vZ cs)) ?_;refine aG (ρ':=[.cel b (dk cs n),.scr (cs.map τ),.int n]) (bZ (i:=2) (aJ (x:=.cel b (dk cs n)) (y:=.int 1) rfl rfl rfl) rfl) ?_;exact aG (aBm (i:=0) (xs:=dk cs n) (k:=1) (j:=1) (d:=.int ((n+1:af):ai)) (aJ (x:=.int n) (y:=.int 1) rfl rfl rfl) rfl rfl rfl rfl rfl) hg
 have h0:∀(b:af)(d:D)(ρ:aa D),zT [.cel b (dk cs n),.uD,.uD]=.ok (.rt (.tup (d::.cel b (dk cs (n+1))::ρ)))->bK [.cel b (dk cs n)]=.ok (.tup [d,.cel b (dk cs (n+1))]):=λb d ρ h=>GC (k:=1) (ρ:=.cel b (dk cs (n+1))::ρ) h
 by_cases h1:n<cs.length
 .obtain⟨r,hr⟩:=aBp cs n 0x1 0x1;refine⟨r,λb=>h0 b _ _ (pre b _ _ (vG (lO (dO (aJ rfl (cU (aD rfl rfl) hl) ((GD _ _).trans (by rw[bg 0x1])))) (J0 (aJ rfl rfl hr) rfl))))⟩
 .have c1:∀b:af,(sIf (bTB (b2 (zR .lt) dW (aX h_ (aC gC aR)))) (MK (b2 getD gC dW) ah) kO) [.cel b (dk cs (n+1)),.scr (cs.map τ),.int n]=.ok (.nx [.cel b (dk cs (n+1)),.scr (cs.map τ),.int n]):=λb=>gW (dO (aJ rfl (cU (aD rfl rfl) hl) ((GD _ _).trans (by rw[cg 0x1])))) rfl
  have hs:kE (n:ai)=ag:=aBo _ 0x1 0x1;by_cases h2:cs.length=0
  .refine⟨(n:ai)*n*3+n,λb=>h0 b _ _ (pre b _ _ (aG (c1 b) (vG (lO (dO (aJ (cU (aD rfl rfl) hl) rfl ((wJ _ _).trans (by rw[h2];rfl)))) (J0 (aJ (aJ (aJ rfl rfl (wI _ _ hs)) rfl (wI _ _ rfl)) rfl (i_ _ _)) rfl)))))⟩
  .have hp:(0:ai)<cs.length:=by lia
   obtain⟨r,hr⟩:=aBp cs ((n:ai) % cs.length) (lh _ 0x1) (nn _ hp);refine⟨r / 2+n*n,λb=>h0 b _ _ (pre b _ _ (aG (c1 b) (aG (ρ':=[.cel b (dk cs (n+1)),.scr (cs.map τ),.int n]) (gW (dO (aJ (cU (aD rfl rfl) hl) rfl ((wJ _ _).trans ?_))) rfl) (J0 (aJ (aJ (aJ rfl (aJ rfl (cU (aD rfl rfl) hl) (dY _ _ hp)) hr) rfl (jA _ _ 0x4 0x4)) (aJ rfl rfl (wI _ _ hs)) (i_ _ _)) rfl))))⟩;have:((cs.length:ai)==0)=ah:=by simpa using h2
   rw[this]
theorem j8(cs:aa ai)(n:af)(hn:n<=100000):∃r:ai,ch1 bK (dk cs n) []=.ok (.int r,dk cs (n+1)):=by
 obtain⟨r,h⟩:=aIy cs n hn;exact⟨r,N6 h⟩
theorem xY{cs:aa ai}{n:af}{i:af}{ρ:aa D}{r:ai}(e:ch1 bK (dk cs n) []=.ok (.int r,dk cs (n+1)))(h2:QX (ρ.getD i .uD)=ae (dk cs n)){ρ':aa D}(he:ρ.set i (aG1 (ρ.getD i .uD) (dk cs (n+1)))=ρ'):gG bK 1 i aR ρ=.ok (.int r,ρ'):=
 o5 (fs:=aR) (rest:=[]) (h:=dk cs n) (h':=dk cs (n+1)) rfl h2 rfl e (sO cs (n+1)) he
noncomputable def one(c:af):Str:=⟨#[c]⟩
theorem QC:∀(cs:aa af)(a:bw af),((cs.map one).foldl (λacc p=>acc++("" : Str).cps++p.cps) a)=a++cs.toArray
 |[],a=>by simp
 |c::cs,a=>by
  rw[bc,A9,QC cs];apply w_;simp[one,show(("" : Str).cps)=#[] from rfl]
theorem join_one(cs:aa af):mw ("" : Str) (cs.map one)=tx cs:=by
 unfold mw B9 tx;cases cs with
 |nil=>rfl
 |cons c cs=>
  rw[bc,List.drop_succ_cons,wo,List.headD_cons,QC]
  congr 1
  apply w_;simp[one]
theorem QD:∀cs:aa af,zF (cs.map λc=>ι (one c))=ae (cs.map one)
 |[]=>rfl
 |c::cs=>by
  show(zF (cs.map λc=>ι (one c))).map (one c::·)=_;rw[QD cs];rfl
theorem aIz(cs:aa af)(h:cs.length<=100):joinM (.str "") [.lst (cs.map λc=>ι (one c))]=.ok (.str (tx cs)):=by
 show(match zF (cs.map λc=>ι (one c)) with|some ts=>if mv "" ts then δ (ι (mw "" ts)) else .bad|none=>.bad)=_;rw[QD];show(if mv "" (cs.map one) then δ (ι (mw "" (cs.map one))) else .bad)=_;have hok:mv "" (cs.map one)=ag:=by
  unfold mv;rw[StrLaws.joinFits (B:=1) (λy hy=>by obtain⟨c,_,rfl⟩:=b9.mp hy;exact br _) (by rw[aE,show(("" : Str).length)=0 from rfl];lia)];rfl
 rw[ar hok,join_one]
theorem aSd(h1:a ρ=.ok ag):bOr a b ρ=.ok ag:=by
 unfold bOr;rw[h1];rfl
theorem aSe(h1:a ρ=.ok ah)(h2:b ρ=r):bOr a b ρ=r:=by
 unfold bOr;rw[h1];exact h2
theorem aEj(h1:a ρ=.ok x)(h2:b ρ=.ok y):bOr a b ρ=.ok (x||y):=by
 cases x with
 |true=>exact aSd h1
 |false=>exact aSe h1 h2
theorem fL(h:a ρ=.ok (.int i)):bW a ρ=.ok (ae i):=by
 unfold bW;rw[h];rfl
theorem S7(h1:a ρ=.ok (.str x))(h2:lo ρ=.ok l)(h3:hi ρ=.ok h)(hx:x.length<=1000):eG a lo hi ρ=.ok (.str (gL x l h)):=by
 unfold eG;rw[h1,ε,h2,ε,h3,ε];show(if ϒ (x.length<=lim) then δ (ι (gL x l h)) else .bad)=_;rw[ar (by rw[bA];exact bg 0x1)]
theorem aBq(x:Str):tx x.cps.toList=x:=rfl
theorem aJ0(c:af)(n:af)(h:1<=n):se (tx [c]) (n:ai)=tx (ck n c):=by
 unfold se;rw[aw 0x1];split
 .rename_i h1;have:n=1:=by
   simp[xG] at h1;lia
  subst this;rfl
 .have:∀(m:af)(a:aa af),(ck m (tx [c]).cps).foldl (·++·) a.toArray=(a++ck m c).toArray:=by
   intro m;induction m with
   |zero=>intro a;simp
   |succ m ih=>
    intro a;rw[sF,A9];have:a.toArray++(tx [c]).cps=(a++[c]).toArray:=by
     apply w_;simp[tx]
    rw[this,ih,sF];simp
  have e:=this n [];rw[jw];show(⟨_⟩:Str)=⟨_⟩
  congr 1
theorem aEk(c:af)(n:af)(h:1<=n)(h2:n<=100):QW (.str (tx [c])) (.int n)=.ok (.str (tx (ck n c))):=by
 show(if ϒ (0<=(n:ai))&&ϒ ((n:ai)<=100000)&&ϒ ((tx [c]).length*(n:ai).toNat<=lim) then δ (ι (se (tx [c]) n)) else .bad)=_;have e3:ϒ ((tx [c]).length*(n:ai).toNat<=lim)=ag:=by
  rw[xG,bA];simp;lia
 rw[e3,bg 0x1,bg 0x1,aJ0 c n h];rfl
abbrev ns(hD:D)(b5 turn shift cell size:ai)(base:Str)(at_:ai)(NM:aa D)(a b c d:D):aa D:=[hD,.str abc,.int b5,.int turn,.int shift,.int cell,.int size,.str base,.int at_,.lst NM,a,b,c,d]
structure Nmf(nm:af->aa af):Prop where
 inj:∀s t,s<26->t<26->nm s=nm t->s=t
 len:∀s,s<26->(nm s).length<=100
 pos:∀s,nm s≠[]
theorem aBr(x:ai):∃s:af,s<26/\x % 26=s:=⟨(x % 26).toNat,by lia,by lia⟩
theorem aBs{P Q A B:aa af}(h:P++A++Q=P++B++Q):A=B:=by
 rw[cf,cf] at h;exact Ba (List.append_cancel_left h)
theorem aEm(hb:base.length<=10)(ht:kE turn=ag)(hs0:0<=shift)(hs1:shift<26) :
  ∃nm:af->aa af,Nmf nm/\∀(k:ai)(s:af),s<26->(k*turn+shift) % 26=s->∀(NM:aa D)(b c d:D),NM.length<100->∃b' c' d',∀hD,nb (ns hD b5 turn shift cell size base at_ NM (.int k) b c d)=.ok (.nx (ns hD b5 turn shift cell size base at_ (NM++[.str (tx (nm s))]) (.int k) b' c' d')):=by
 have sp:∀(k:ai)(s:af)(hD:D)(NM:aa D)(b c d:D),(k*turn+shift) % 26=s->b7 ah 11 (b2 (aW .mod) (b2 (aW .add) (b2 QW dJ fY) g_) xO) ag (ns hD b5 turn shift cell size base at_ NM (.int k) b c d)=.ok (.nx (ns hD b5 turn shift cell size base at_ NM (.int k) (.int s) c d)):=λk s hD NM b c d e=>by
  rw[<-e];exact bB (aJ (aJ (aJ rfl rfl (wI _ _ ht)) rfl (i_ _ _)) rfl (dY _ _ 0x4))
 have cm:∀(ρ:aa D)(j:ai),cV 2 ρ=.ok (.int b5)->bTB (b2 (cX .eq) (b2 (aW .mod) dW nC) (bC (.int j))) ρ=.ok (b5 % 3==j):=λρ j h=>dO (aJ (aJ h rfl (dY _ _ 0x4)) rfl (wJ _ _))
 have lt:∀(ρ:aa D)(f:FE)(i:ai) ,cV 1 ρ=.ok (.str abc)->f ρ=.ok (.int i)->0<=i->i<26->b2 getD gC f ρ=.ok (.str (tx [97+i.toNat])):=λρ f i h1 h2 h3 h4=>aJ h1 h2 (letter i h3 h4)
 obtain⟨P,hP,lP⟩:∃P,gL base aj (ae at_)=tx P/\P.length<=10:=⟨_,(aBq _).symm,dh (sg ..) hb⟩
 obtain⟨Q,hQ,lQ⟩:∃P,gL base (ae at_) aj=tx P/\P.length<=10:=⟨_,(aBq _).symm,dh (sg ..) hb⟩
 have ap:∀(a b:aa af),a.length<=100->b.length<=100->aW .add (.str (tx a)) (.str (tx b))=.ok (.str (tx (a++b))):=λa b h1 h2=>by
  rw[aAf _ _ (by rw[xG,xG,bA];lia),V2]
 have slP:∀ρ:aa D,cV 7 ρ=.ok (.str base)->cV 8 ρ=.ok (.int at_)->eG fG cF (bW jO) ρ=.ok (.str (tx P)):=λρ g1 g2=>by
  rw[<-hP];exact S7 g1 rfl (fL g2) 0x1
 have slQ:∀ρ:aa D,cV 7 ρ=.ok (.str base)->cV 8 ρ=.ok (.int at_)->eG fG (bW jO) cF ρ=.ok (.str (tx Q)):=λρ g1 g2=>by
  rw[<-hQ];exact S7 g1 (fL g2) rfl 0x1
 by_cases h1:b5 % 3=1
 .refine⟨λs=>ck (1+s / 4) (97+((shift+((s:ai) % 4)) % 26).toNat),⟨λs t hs ht e=>?_,λs hs=>by rw[lI];lia,λs=>by simp[Bb 1,sF]⟩,λk s hs hk NM b c d hN=>⟨.int s,c,d,λhD=>?_⟩⟩
  .have e1:=dw lx e;rw[lI,lI] at e1;have e2:=dw (λl=>l.head?) e;simp only[Bb 1,sF,List.head?_cons,Ca] at e2;lia
  .refine aG (sp k s hD NM b c d hk) (lO ((cm _ _ rfl).trans (by rw[h1];rfl)) ?_);refine zG (aJ (lt _ _ _ rfl (aJ (aJ rfl (aJ rfl rfl (dY _ _ 0x4)) (i_ _ _)) rfl (dY _ _ 0x4)) 0x1 0x1) (aJ rfl (aJ rfl rfl (jA _ _ 0x4 0x4)) ?_) (aEk _ _ 0x1 0x1)) rfl (by rw[bA];lia) rfl;rw[i_]
   congr 2
 .by_cases h2:b5 % 3=2
  .refine⟨λs=>P++[97+((shift+((s:ai) % 6)) % 26).toNat,97+((shift+((s:ai) / 6)) % 26).toNat]++Q,⟨λs t hs ht e=>?_,λs hs=>by simp only[bz,cz,jr];lia,λs=>by simp⟩,λk s hs hk NM b c d hN=>⟨.int s,.str (tx [97+((shift+((s:ai) % 6)) % 26).toNat]),.str (tx [97+((shift+((s:ai) / 6)) % 26).toNat]),λhD=>?_⟩⟩
   .have e1:=aBs e;simp only[Bc,and_true] at e1;lia
   .refine aG (sp k s hD NM b c d hk) (gW ((cm _ _ rfl).trans (by rw[h2];rfl)) (lO ((cm _ _ rfl).trans (by rw[h2];rfl)) ?_));refine aG (bZ (lt _ _ _ rfl (aJ (aJ rfl (aJ rfl rfl (dY _ _ 0x4)) (i_ _ _)) rfl (dY _ _ 0x4)) 0x1 0x1) rfl) ?_;refine aG (bZ (lt _ _ _ rfl (aJ (aJ rfl (aJ rfl rfl (jA _ _ 0x4 0x4)) (i_ _ _)) rfl (dY _ _ 0x4)) 0x1 0x1) rfl) ?_;refine(zG (aJ (aJ (aJ (slP _ rfl rfl) rfl (ap _ _ 0x1 0x2)) rfl (ap _ _ (by simp only[bz,eP];lia) 0x2)) (slQ _ rfl rfl) (ap _ _ (by simp only[bz,eP];lia) 0x1)) rfl (by rw[bA];lia) rfl).trans ?_;simp only[cf,gz,gN];rfl
  .refine⟨λs=>P++[97+s]++Q,⟨λs t hs ht e=>?_,λs hs=>by simp only[bz,cz,jr];lia,λs=>by simp⟩,λk s hs hk NM b c d hN=>⟨.int s,c,d,λhD=>?_⟩⟩
   .have e1:=aBs e;simp only[Bc,and_true] at e1;lia
   .refine aG (sp k s hD NM b c d hk) (gW ((cm _ _ rfl).trans (by rw[df.mpr h1])) (gW ((cm _ _ rfl).trans (by rw[df.mpr h2])) ?_));refine(zG (aJ (aJ (slP _ rfl rfl) (lt _ _ s rfl rfl 0x1 0x1) (ap _ _ 0x1 0x2)) (slQ _ rfl rfl) (ap _ _ (by simp only[bz,eP];lia) 0x1)) rfl (by rw[bA];lia) rfl).trans ?_;rw[jw];rfl
theorem GJ{nm:af->aa af}(G:∀(k:ai) (s:af),s<26->(k*turn+shift) % 26=s->∀(NM:aa D) (b c d:D),NM.length<100->∃b' c' d',∀hD,nb (ns hD b5 turn shift cell size base at_ NM (.int k) b c d)=.ok (.nx (ns hD b5 turn shift cell size base at_ (NM++[.str (tx (nm s))]) (.int k) b' c' d'))):∀(m j:af)(NM:aa D)(a b c d:D),NM.length+m<100->∃a' b' c' d',∀hD,o_ (tg1 10) nb ((gx j m).map λ(k:af)=>τ (0+(k:ai))) (ns hD b5 turn shift cell size base at_ NM a b c d)=.ok (.nx (ns hD b5 turn shift cell size base at_ (NM++(gx j m).map λ(k:af)=>ι (tx (nm (((k:ai)*turn+shift) % 26).toNat))) a' b' c' d'))
 |0,j,NM,a,b,c,d,_=>⟨a,b,c,d,λhD=>by
  rw[List.range'_zero,gv,gv,dg];rfl⟩
 |m+1,j,NM,a,b,c,d,h=>by
  obtain⟨s,hs,es⟩:=aBr ((j:ai)*turn+shift);obtain⟨b1,c1,d1,e1⟩:=G (0+(j:ai)) s hs (by rw[Be];exact es) NM b c d 0x1;obtain⟨a2,b2,c2,d2,e2⟩:=GJ G m (j+1) (NM++[.str (tx (nm s))]) (.int (0+(j:ai))) b1 c1 d1 (by rw[bz,eP];lia);refine⟨a2,b2,c2,d2,λhD=>?_⟩;rw[nq,bc,bc,es,jw];refine gF rfl (e1 hD) ?_;rw[e2 hD,cf];rfl
theorem aJ1(i:ai)(h0:0<=i)(h1:i<6):∃t:ai,getD (.lst [.int 1,.int 3,.int 5,.int 7,.int 9,.int 25]) (.int i)=.ok (.int t)/\(t=1\/t=3\/t=5\/t=7\/t=9\/t=25):=by
 have:i=0\/i=1\/i=2\/i=3\/i=4\/i=5:=by lia
 rcases this with h|h|h|h|h|h<;>subst h
 .exact⟨1,rfl,by decide⟩
 .exact⟨3,rfl,by decide⟩
 .exact⟨5,rfl,by decide⟩
 .exact⟨7,rfl,by decide⟩
 .exact⟨9,rfl,by decide⟩
 .exact⟨25,rfl,by decide⟩
theorem aEn(ht:t=1\/t=3\/t=5\/t=7\/t=9\/t=25){j k:af}(hj:j<26)(hk:k<26)(h:((j:ai)*t+s) % 26=((k:ai)*t+s) % 26):j=k:=by
 rcases ht with e|e|e|e|e|e<;>subst e<;>lia
theorem QF(n:af):∀N:aa Str,ο n (N.map ι)=ag
 |[]=>by rw[gv,ο]
 |x::N=>by
  rw[bc,ο,QF n N];rw[D.jF]<;>simp
theorem yG(x:Str):(ι x).jF bI=ag:=by
 unfold bI;rw[D.jF]<;>simp
theorem QG:∀N:aa Str,θ (N.map ι)=ag
 |[]=>rfl
 |x::N=>by
  rw[bc,θ,QG N];rfl
theorem aBt(x:Str):∀N:aa Str,(N.map ι).any (λy=>eqD y (.str x))=ϒ (x∈N)
 |[]=>rfl
 |y::N=>by
  rw[bc,i6,aBt x N];show((y==x)||_)=_;by_cases h:y=x
  .simp[h]
  .have h2:¬x=y:=λe=>h e.symm
   simp[h,h2]
theorem in_str(x:Str)(N:aa Str):cX .isin (.str x) (.lst (N.map ι))=.ok (.bl (ϒ (x∈N))):=by
 show(if (ι x).jF bI&&ο bI (N.map ι) then δ (υ ((N.map ι).any λy=>eqD y (.str x))) else .bad)=_;rw[yG,QF,aBt];rfl
theorem cC{fr:aq}(h:a ρ=.ok (.lst xs)):bT a fr ρ=.ok (xs,fr):=by
 unfold bT;rw[h,ε];show δ (xs,fr||false)=_;rw[vh]
theorem fV{fr:aq}(h:a ρ=.ok (.tup xs)):bT a fr ρ=.ok (xs,fr||θ xs):=by
 unfold bT;rw[h,ε];show δ (xs,fr||(ν xs).pure)=_;rw[χ]
theorem dI(d y:α->D)(xs:aa α)(hρ:ρ.length=n)(h1:it ρ=.ok (xs.map d,kk))(h2:xs.length<=100000)(h3:∀a∈xs,f (ρ++[d a])=.ok (y a)/\(k||(y a).pure)=ag):dM n it mK iU f k ρ=.ok (.lst (xs.map y)):=by
 refine aAd h1 (by rw[aE,bA];lia) ?_;have:∀(xs:aa α)(acc:aa D),(∀a∈xs,f (ρ++[d a])=.ok (y a)/\(k||(y a).pure)=ag)->xP (RG n mK iU f k ρ) acc (xs.map d)=.ok (acc++xs.map y):=by
  intro xs;induction xs with
  |nil=>intro acc _;simp[xP]
  |cons x xs ih=>
   intro acc h;rw[bc,xP,NK hρ rfl λ_=>h x (bq ..)];show xP _ (acc++[y x]) _=_;rw[ih _ λa ha=>h a (cr _ ha),cf];rfl
 exact(this xs [] h3).trans (by rw[gN])
theorem j9(d y:α->D)(p:α->aq)(xs:aa α)(hρ:ρ.length=n)(h1:it ρ=.ok (xs.map d,kk))(h2:xs.length<=100000)(hc:∀a∈xs,c (ρ++[d a])=.ok (p a))(h3:∀a∈xs,p a=ag->f (ρ++[d a])=.ok (y a)/\(k||(y a).pure)=ag):dM n it mK c f k ρ=.ok (.lst ((xs.filter p).map y)):=by
 refine aAd h1 (by rw[aE,bA];lia) ?_;have:∀(xs:aa α)(acc:aa D),(∀a∈xs,c (ρ++[d a])=.ok (p a))->(∀a∈xs,p a=ag->f (ρ++[d a])=.ok (y a)/\(k||(y a).pure)=ag)->xP (RG n mK c f k ρ) acc (xs.map d)=.ok (acc++(xs.filter p).map y):=by
  intro xs;induction xs with
  |nil=>intro acc _ _;simp[xP]
  |cons x xs ih=>
   intro acc hc h;rw[bc,xP,NK hρ (hc x (bq ..)) λe=>h x (bq ..) e];show xP _ _ _=_;rw[ih _ (λa ha=>hc a (cr _ ha)) λa ha=>h a (cr _ ha)];by_cases hp:p x
   .simp[hp]
   .simp[hp]
 exact(this xs [] hc h3).trans (by rw[gN])
theorem aQ1(h1:o ρ=.ok x)(h2:a ρ=.ok xs)(h3:f x xs=r):bM f o a ρ=r:=by
 unfold bM;rw[h1,ε,h2,ε,h3]
theorem aQ2(a b:aa af)(h:tx a++("e" : Str)=tx b++("e" : Str)):a=b:=by
 have e:("e" : Str)=tx [101]:=rfl;rw[e,V2,V2] at h;exact Ba (GF h)
theorem aJ2(x:Str):¬x++("e" : Str)="copy"/\¬x++("e" : Str)="drop"/\¬x++("e" : Str)="":=by
 have e:("e" : Str)=tx [101]:=rfl;have c:("copy" : Str)=tx ([99,111,112]++[121]):=rfl;have d:("drop" : Str)=tx ([100,114,111]++[112]):=rfl;have z:("" : Str)=tx []:=rfl;rw[<-aBq x,e,V2,c,d,z];refine⟨λh=>?_,λh=>?_,λh=>?_⟩
 .have:=(Bf (GF h) rfl)
  cases this
 .have:=(Bf (GF h) rfl)
  cases this
 .have:=GF h;simp at this
theorem aEo(cs:aa ai)(n:af)(hn:n+3<=100000):∃N:aa Str,N.length=26/\N.Nodup/\(¬("copy" : Str)∈N/\¬("drop" : Str)∈N/\¬("" : Str)∈N)/\∀b,jR [.cel b (dk cs n)]=.ok (.tup [.lst (N.map ι),.cel b (dk cs (n+3))]):=by
 obtain⟨b5,q1⟩:=j8 cs n 0x1;obtain⟨cell,q2⟩:=j8 cs (n+1) 0x1;obtain⟨raw,q3⟩:=j8 cs (n+2) 0x1;obtain⟨turn,t1,t2⟩:=aJ1 (b5 / 3 % 6) 0x1 0x1
 let shift:=b5 / 18 % 26
 have hs0:0<=shift:=by show 0<=b5 / 18 % 26;lia
 have hs1:shift<26:=by show b5 / 18 % 26<26;lia
 let size:=cell % 8
 have hz0:0<=size:=by show 0<=cell % 8;lia
 have hz1:size<8:=by show cell % 8<8;lia
 let bcs:aa af:=(ay size.toNat).map λ(k:af)=>97+((cell / 8+(0+(k:ai))*(shift+cell / 40 % 5)) % 26).toNat
 have hbl:bcs.length<=10:=by show(cw _ _).length<=10;rw[aE,dv];lia
 let at_:=raw % (size+1)
 let base:Str:=if b5 % 3=2 then gL (tx bcs) aj (ae 6) else tx bcs
 have hbase:base.length<=10:=by
  show(if b5 % 3=2 then gL (tx bcs) aj (ae 6) else tx bcs).length<=10;split
  .exact dh (sg ..) (by rw[xG];exact hbl)
  .rw[xG];exact hbl
 have hts:kE turn=ag:=HN _ 0x1 0x1;obtain⟨nm,M,G⟩:=aEm hbase hts hs0 hs1;obtain⟨a',b',c',d',L⟩:=GJ G 26 0 [] .uD .uD .uD .uD 0x4
 let sp:af->af:=λk=>(((k:ai)*turn+shift) % 26).toNat
 have spl:∀k,sp k<26:=λk=>by show(((k:ai)*turn+shift) % 26).toNat<26;lia
 have spi:∀j k,j<26->k<26->sp j=sp k->j=k:=λj k hj hk e=>aEn (s:=shift) t2 hj hk (by
  have e':(((j:ai)*turn+shift) % 26).toNat=(((k:ai)*turn+shift) % 26).toNat:=e;lia)
 have nod:∀g:aa af->Str,(∀a b,g a=g b->a=b)->((gx 0 26).map λk=>g (nm (sp k))).Nodup:=λg hg=>by
  rw[li,sL];refine Bg ?_ (li.mp (oS (s:=0) (n:=26) (step:=1) 0x4));intro j k hj hk hne e;rw[mh] at hj hk;exact hne (spi j k 0x1 0x1 (M.inj _ _ (spl j) (spl k) (hg _ _ e)))
 have pre:∀(b:af)(R:Res Fl)(g:FS),g (ns (.cel b (dk cs (n+3))) b5 turn shift cell size base at_ (((gx 0 26).map λk=>tx (nm (sp k))).map ι) a' b' c' d')=R->(a_ (b7 ah 1 (bC (.str "abcdefghijklmnopqrstuvwxyz")) ag) (a_ (lU ah 2 (gG bK 1 0 aR)) (a_ (b7 ah 3 (b2 getD (sW (aC cO (aC nC (aC T7 (aC (bC (.int 7)) (aC aFp (aC (bC (.int 25)) aR))))))) (b2 (aW .mod) (b2 (aW .fdiv) dW nC) aCr)) ah) (a_ (b7 ah 4 (b2 (aW .mod) (b2 (aW .fdiv) dW Z2) xO) ag) (a_ (lU ah 5 (gG bK 1 0 aR)) (a_ (b7 ah 6 (b2 (aW .mod) fP aHj) ag) (a_ (b7 ah 7 (bM joinM (bC (.str "")) (aC (dM 14 (sX (aC eF aR) mX) mK iU (b2 getD gC (b2 (aW .mod) (b2 (aW .add) (b2 (aW .fdiv) fP aHj) (b2 QW jG (b2 (aW .add) g_ (b2 (aW .mod) (b2 (aW .fdiv) fP aHk) T7)))) xO)) ah) aR)) ag) (a_ (lU ah 8 (x2L (aW .mod) (gG bK 1 0 aR) (b2 (aW .add) eF cO))) (a_ (sIf (bTB (b2 (cX .eq) (b2 (aW .mod) dW nC) fQ)) (b7 ah 7 (eG fG cF (bW aCr)) ag) kO) (a_ (b7 ag 9 (sW aR) ag) (a_ (FP (sX (aC xO aR) mX) (tg1 10) nb) g))))))))))) [.cel b (dk cs n),.uD,.uD,.uD,.uD,.uD,.uD,.uD,.uD,.uD,.uD,.uD,.uD,.uD]=R:=λb R g hg=>by
  refine aG (ρ':=[.cel b (dk cs n),.str abc,.uD,.uD,.uD,.uD,.uD,.uD,.uD,.uD,.uD,.uD,.uD,.uD]) (bB (i:=1) rfl) ?_;refine aG (ρ':=[.cel b (dk cs (n+1)),.str abc,.int b5,.uD,.uD,.uD,.uD,.uD,.uD,.uD,.uD,.uD,.uD,.uD]) (iM (i:=2) (xY q1 rfl rfl) rfl) ?_;refine aG (ρ':=[.cel b (dk cs (n+1)),.str abc,.int b5,.int turn,.uD,.uD,.uD,.uD,.uD,.uD,.uD,.uD,.uD,.uD]) (bZ (i:=3) (aJ rfl (aJ (aJ rfl rfl (jA _ _ 0x4 0x4)) rfl (dY _ _ 0x4)) t1) rfl) ?_;refine aG (ρ':=[.cel b (dk cs (n+1)),.str abc,.int b5,.int turn,.int shift,.uD,.uD,.uD,.uD,.uD,.uD,.uD,.uD,.uD]) (bB (i:=4) (aJ (aJ rfl rfl (jA _ _ 0x4 0x4)) rfl (dY _ _ 0x4))) ?_;refine aG (ρ':=[.cel b (dk cs (n+2)),.str abc,.int b5,.int turn,.int shift,.int cell,.uD,.uD,.uD,.uD,.uD,.uD,.uD,.uD]) (iM (i:=5) (xY q2 rfl rfl) rfl) ?_;refine aG (ρ':=[.cel b (dk cs (n+2)),.str abc,.int b5,.int turn,.int shift,.int cell,.int size,.uD,.uD,.uD,.uD,.uD,.uD,.uD]) (bB (i:=6) (aJ rfl rfl (dY _ _ 0x4))) ?_;refine aG (ρ':=[.cel b (dk cs (n+2)),.str abc,.int b5,.int turn,.int shift,.int cell,.int size,.str (tx bcs),.uD,.uD,.uD,.uD,.uD,.uD]) (bB (i:=7) ?_) ?_
  .have hc:=dI (n:=14) (it:=sX (aC eF aR) mX) (f:=b2 getD gC (b2 (aW .mod) (b2 (aW .add) (b2 (aW .fdiv) fP aHj) (b2 QW jG (b2 (aW .add) g_ (b2 (aW .mod) (b2 (aW .fdiv) fP aHk) T7)))) xO)) (k:=ah) (ρ:=[.cel b (dk cs (n+2)),.str abc,.int b5,.int turn,.int shift,.int cell,.int size,.uD,.uD,.uD,.uD,.uD,.uD,.uD]) (λk:af=>τ (0+(k:ai))) (λk:af=>.str (one (97+((cell / 8+(0+(k:ai))*(shift+cell / 40 % 5)) % 26).toNat))) (ay size.toNat) rfl (uC (n:=size) (aD rfl rfl) 0x1 0x1) (by rw[dv];lia) (λk _=>⟨aJ (x:=.str abc) rfl (aJ (aJ (aJ (x:=.int cell) rfl rfl (jA _ _ 0x4 0x4)) (aJ (x:=.int (0+(k:ai))) rfl (aJ (x:=.int shift) rfl (aJ (aJ (x:=.int cell) rfl rfl (jA _ _ 0x4 0x4)) rfl (dY _ _ 0x4)) (i_ _ _)) (wI _ _ (HN _ 0x1 0x1))) (i_ _ _)) rfl (dY _ _ 0x4)) (letter _ 0x1 0x1),rfl⟩);have hj:=aIz bcs 0x1;rw[cv] at hj;exact aQ1 rfl (aD hc rfl) hj
  refine aG (ρ':=[.cel b (dk cs (n+3)),.str abc,.int b5,.int turn,.int shift,.int cell,.int size,.str (tx bcs),.int at_,.uD,.uD,.uD,.uD,.uD]) (iM (i:=8) (V1 (xY q3 rfl rfl) rfl (aJ (x:=.int size) rfl rfl (i_ _ _)) (dY _ _ 0x1) rfl) rfl) ?_;refine aG (ρ':=[.cel b (dk cs (n+3)),.str abc,.int b5,.int turn,.int shift,.int cell,.int size,.str base,.int at_,.uD,.uD,.uD,.uD,.uD]) ?_ ?_
  .by_cases h2:b5 % 3=2
   .have eb:base=gL (tx bcs) aj (ae 6):=ar h2;rw[eb];exact lO (dO (aJ (aJ rfl rfl (dY _ _ 0x4)) rfl ((wJ _ _).trans (by rw[h2];rfl)))) (bB (i:=7) (S7 (x:=tx bcs) rfl rfl (fL rfl) (by rw[xG];lia)))
   .have eb:base=tx bcs:=aw h2;rw[eb];exact gW (dO (aJ (aJ rfl rfl (dY _ _ 0x4)) rfl ((wJ _ _).trans (by rw[df.mpr h2])))) rfl
  refine aG (ρ':=ns (.cel b (dk cs (n+3))) b5 turn shift cell size base at_ [] .uD .uD .uD .uD) (fZ (i:=9) rfl rfl) ?_;refine aG (lH (uC (n:=26) (aD rfl rfl) 0x4 0x4) ?_) hg;have e:=L (.cel b (dk cs (n+3)));rw[gN] at e;rw[cv];exact e
 generalize hN0:((gx 0 26).map λk=>tx (nm (sp k)))=N0 at pre;have l0:N0.length=26:=by rw[<-hN0,aE];rfl
 have n0:N0.Nodup:=hN0▸nod tx λ_ _ e=>GF e
 have z0:¬("" : Str)∈N0:=λhx=>by
  rw[<-hN0,b9] at hx;obtain⟨k,_,e⟩:=hx;exact M.pos _ (GF (e.trans (show("" : Str)=tx [] from rfl)))
 have tl:∀x∈N0,x.length<=100:=λx hx=>by
  rw[<-hN0,b9] at hx;obtain⟨k,_,rfl⟩:=hx;rw[xG];exact M.len _ (spl k)
 have cond:∀(hD:D),(bOr (bTB (b2 inX (bC (.str "copy")) gD)) (bTB (b2 inX (bC (.str "drop")) gD))) (ns hD b5 turn shift cell size base at_ (N0.map ι) a' b' c' d')=.ok (ϒ (("copy" : Str)∈N0)||ϒ (("drop" : Str)∈N0)):=λhD=>aEj (dO (aJ rfl rfl (in_str _ _))) (dO (aJ rfl rfl (in_str _ _)))
 have fin:∀(b:af)(N:aa Str),(FN 9) (ns (.cel b (dk cs (n+3))) b5 turn shift cell size base at_ (N.map ι) a' b' c' d')=.ok (.rt (.tup (.lst (N.map ι)::ns (.cel b (dk cs (n+3))) b5 turn shift cell size base at_ (N.map ι) a' b' c' d'))):=λb N=>V0 rfl rfl
 by_cases hc:(ϒ (("copy" : Str)∈N0)||ϒ (("drop" : Str)∈N0))=ag
 .refine⟨N0.map λx=>x++("e" : Str),by rw[aE,l0],?_,⟨λh=>?_,λh=>?_,λh=>?_⟩,λb=>?_⟩
  .rw[<-hN0,cv];exact nod (λa=>tx a++("e" : Str)) aQ2
  .obtain⟨x,_,e⟩:=b9.mp h;exact(aJ2 x).1 e
  .obtain⟨x,_,e⟩:=b9.mp h;exact(aJ2 x).2.1 e
  .obtain⟨x,_,e⟩:=b9.mp h;exact(aJ2 x).2.2 e
  .refine GC (k:=1) (ρ:=ns (.cel b (dk cs (n+3))) b5 turn shift cell size base at_ ((N0.map λx=>x++("e" : Str)).map ι) a' b' c' d') (pre b _ _ (aG (lO ((cond _).trans (by rw[hc])) (fZ (i:=9) (d:=.lst ((N0.map λx=>x++("e" : Str)).map ι)) ?_ (QG _))) (fin b _)));rw[cv];exact dI (n:=14) ι (λx=>ι (x++("e" : Str))) N0 rfl (cC rfl) 0x1 (λx hx=>⟨aJ rfl rfl (aAf _ _ (by have:=tl x hx;rw[bA];show x.length+1<=_;lia)),rfl⟩)
 .refine⟨N0,l0,n0,⟨λh=>hc (by rw[bg h];rfl),λh=>hc (by rw[bg h,wa]),z0⟩,λb=>?_⟩;exact GC (k:=1) (ρ:=ns (.cel b (dk cs (n+3))) b5 turn shift cell size base at_ (N0.map ι) a' b' c' d') (pre b _ _ (aG (gW ((cond _).trans (by rw[Ak.mpr hc])) rfl) (fin b _)))
theorem aEp(cs:aa ai)(n:af)(hn:n+3<=100000):∃N:aa Str,N.length=26/\N.Nodup/\(¬("copy" : Str)∈N/\¬("drop" : Str)∈N/\¬("" : Str)∈N)/\ch1 jR (dk cs n) []=.ok (.lst (N.map ι),dk cs (n+3)):=by
 obtain⟨N,h1,h2,h4,h3⟩:=aEo cs n hn;exact⟨N,h1,h2,h4,N6 h3⟩
theorem wK(n d a:af):vN n d (ae (a:ai))=min a n:=by
 show(if (a:ai)<0 then (max ((a:ai)+(n:ai)) 0).toNat else (min (a:ai) (n:ai)).toNat)=_;rw[aw 0x1];lia
theorem yH(n d:af):vN n d aj=d:=rfl
theorem QH{α:Type}(xs:aa α)(a:af):cutD xs aj (ae (a:ai))=xs.take a:=by
 unfold cutD;rw[wK,yH,wo,Nat.sub_zero];by_cases h:a<=xs.length
 .rw[xg h]
 .rw[Bh 0x1,mT (br _),mT 0x1]
theorem sU{α:Type}(xs:aa α)(a:af):cutD xs (ae (a:ai)) aj=xs.drop a:=by
 unfold cutD;rw[wK,yH];by_cases h:a<=xs.length
 .rw[xg h,mT (by rw[i4];exact br _)]
 .rw[Bh 0x1,kC (br _),kC 0x1,List.take_nil]
noncomputable def sy(N:aa Str)(i:af):D:=.str (N.getD i "")
noncomputable def xs3:aa Str:=["copy","drop",""]
theorem aNc(N:aa Str)(h:N.length=26):N.map ι=(ay 26).map (sy (N++xs3)):=by
 apply vT
 .simp[h]
 .intro i h1 h2;rw[Bi,Bi,List.getElem_range];have hi:i<N.length:=by simpa using h1
  show ι N[i]=ι ((N++xs3).getD i "");rw[de,gq hi,cq hi];rfl
theorem J1{N:aa Str}(h:N.length=29)(hN:N.Nodup){i j:af}(hi:i<29)(hj:j<29):eqD (sy N i) (sy N j)=ϒ (i=j):=by
 show((N.getD i "")==(N.getD j ""))=_;have hi':i<N.length:=by lia
 have hj':j<N.length:=by lia
 rw[de,de,cq hi',cq hj'];show(N[i]==N[j])=_;by_cases e:i=j
 .subst e;simp
 .have:¬N[i]=N[j]:=λg=>e ((yc hN).mp g)
  simp[e,this]
theorem cD(N:aa Str):∀l:aa af,θ (l.map (sy N))=ag
 |[]=>rfl
 |i::l=>by
  rw[bc,θ,cD N l];rfl
theorem nW(N:aa Str)(n:af):∀l:aa af,ο n (l.map (sy N))=ag
 |[]=>by rw[gv,ο]
 |x::l=>by
  rw[bc,ο,nW N n l];unfold sy;rw[D.jF]<;>simp
theorem wL(N:aa Str)(i:af):(sy N i).jF bI=ag:=yG _
theorem aBu{N:aa Str}(h:N.length=29)(hN:N.Nodup){i:af}(hi:i<29):∀l:aa af,(∀j∈l,j<29)->(l.map (sy N)).any (λy=>eqD y (sy N i))=ϒ (i∈l)
 |[],_=>rfl
 |j::l,hl=>by
  rw[bc,i6,aBu h hN hi l λk hk=>hl k (cr _ hk),J1 h hN (hl j (bq ..)) hi];by_cases e:j=i
  .simp[e]
  .have e2:¬i=j:=λg=>e g.symm
   simp[e,e2]
theorem wM{α:Type}{f:α->D}{l:aa α}{i:af}{a:α}{x:ai}(hx:x=i)(h:l[i]?=ae a):getD (.lst (l.map f)) (.int x)=.ok (f a):=by
 subst hx;obtain⟨hi,e⟩:=dQ.mp h;show π ((ixD (l.map f).length (i:ai)).bind λj=>(l.map f)[j]?)=_;unfold ixD;rw[ar 0x1,aE,ar 0x1];simp[h]
theorem vH{α:Type}{f:α->D}{l:aa α}{i:af}{a:α}{x:ai}(hx:x=i)(h:l[i]?=ae a):getD (.tup (l.map f)) (.int x)=.ok (f a):=wM hx h
theorem j_{f:af->D}{n i:af}{x:ai}(hx:x=i)(hi:i<n):getD (.lst ((ay n).map f)) (.int x)=.ok (f i):=wM hx (by rw[List.getElem?_range hi])
noncomputable abbrev Rw:=af×af×aa af
noncomputable abbrev Tk:=af×af×af×aa af
def rwD(N:aa Str)(r:Rw):D:=.tup [sy N r.1,sy N r.2.1,.tup (r.2.2.map (sy N))]
def tkD(N:aa Str)(r:Tk):D:=.tup [sy N r.1,sy N r.2.1,sy N r.2.2.1,.tup (r.2.2.2.map (sy N))]
theorem cG(N:aa Str)(r:Rw):(rwD N r).pure=ag:=by
 show((sy N r.1).pure&&((sy N r.2.1).pure&&((ν (r.2.2.map (sy N))).pure&&ag)))=ag;rw[χ,cD];rfl
theorem d_(N:aa Str)(r:Tk):(tkD N r).pure=ag:=by
 show((sy N r.1).pure&&((sy N r.2.1).pure&&((sy N r.2.2.1).pure&&((ν (r.2.2.2.map (sy N))).pure&&ag))))=ag;rw[χ,cD];rfl
theorem bN{α:Type}{f:α->D}(h:∀a,(f a).pure=ag):∀l:aa α,θ (l.map f)=ag
 |[]=>rfl
 |x::l=>by
  rw[bc,θ,h,bN h l];rfl
theorem nY{a:FE}{lo hi:aa D->Res (av ai)}{ρ xs:aa D}{l h:av ai}(h1:a ρ=.ok (.lst xs))(h2:lo ρ=.ok l)(h3:hi ρ=.ok h)(hx:θ xs=ag):eG a lo hi ρ=.ok (.lst (cutD xs l h)):=by
 unfold eG;rw[h1,ε,h2,ε,h3,ε];show(if θ xs then δ (ξ (cutD xs l h)) else .bad)=_;rw[ar hx]
theorem aJ3{g:D->Res D}{f:FE}{ρ:aa D}{x y:D}(h:f ρ=.ok x)(h2:g x=.ok y):b1 g f ρ=.ok y:=by
 unfold b1;rw[h];exact h2
structure Nms(N:aa Str):Prop where
 len:N.length=29
 nd:N.Nodup
 nc:¬("copy" : Str)∈N
 nr:¬("drop" : Str)∈N
 ne:¬("" : Str)∈N
abbrev ss(hD:D)(N:aa Str)(cell:ai)(m:af)(M:aa Rw)(a b c d e f:D):aa D:=[hD,.lst ((ay 26).map (sy N)),.int cell,.int m,.lst ((ay m).map (sy N)),.lst (M.map (rwD N)),a,b,c,d,e,f]
noncomputable def mk0(m:af):aa Rw:=(ay m).map λk=>(3+k,k,[])
section
variable {N:aa Str}
theorem aJ4(f:af->D)(n a:af)(h:a<=n):cutD ((ay n).map f) aj (ae (a:ai))=(ay a).map f:=by
 rw[QH,<-iz,List.take_range,xg h]
theorem aNd{hD:D}{cell:ai}{m:af}(hm:m<=26)(a b c d e f g h:D):sg2 [hD,.lst ((ay 26).map (sy N)),.int cell,.int m,a,b,c,d,e,f,g,h]=.ok (.nx [hD,.lst ((ay 26).map (sy N)),.int cell,.int m,.lst ((ay m).map (sy N)),b,c,d,e,f,g,h]):=
 fZ (i:=4) (d:=.lst ((ay m).map (sy N))) (by rw[<-aJ4 (sy N) 26 m hm];exact nY rfl rfl (fL rfl) (cD ..)) (cD ..)
theorem aNe{hD:D}{cell:ai}{m:af}(hm:m<=3)(b c d e f g h:D):sg3 [hD,.lst ((ay 26).map (sy N)),.int cell,.int m,.lst ((ay m).map (sy N)),b,c,d,e,f,g,h]=.ok (.nx [hD,.lst ((ay 26).map (sy N)),.int cell,.int m,.lst ((ay m).map (sy N)),.lst ((mk0 m).map (rwD N)),c,d,e,f,g,h]):=by
 refine fZ (i:=5) (d:=.lst ((mk0 m).map (rwD N))) ?_ (bN (cG N) _);unfold mk0;rw[cv];refine dI (n:=12) (λk:af=>τ (0+(k:ai))) _ (ay m) rfl (uC (n:=(m:ai)) (aD rfl rfl) 0x1 0x1) (by rw[dv];lia) λk hk=>?_
 rw[cS] at hk;exact⟨dD (aD (aJ rfl (aJ rfl rfl (i_ _ _)) (j_ (i:=3+k) 0x1 0x1)) (aD (aJ rfl rfl (j_ (i:=k) 0x1 hk)) (aD (dD (xs:=[]) rfl (by rw[bA];simp)) rfl))) (by rw[bA];simp),rfl⟩
end
def Gr(m:af)(r:Rw):Prop:=r.2.1<m/\(∀i∈r.2.2,i<m)/\r.2.2.length<=3
def Gt(m:af)(t:Tk):Prop:=t.2.1<m/\t.2.2.1<m/\(∀i∈t.2.2.2,i<m)/\t.2.2.2.length<=2
noncomputable def w3:af->ai
 |0=>12
 |1=>36
 |_=>108
noncomputable def w2:af->ai
 |0=>27
 |_=>81
theorem aNf{j:af}(h:j<3):getD (.lst [.int 12,.int 36,.int 108]) (.int (0+(j:ai)))=.ok (.int (w3 j)):=by
 have:j=0\/j=1\/j=2:=by lia
 rcases this with e|e|e<;>subst e<;>rfl
theorem aGf(j:af):0<w3 j/\w3 j<1073741824:=by
 unfold w3;split<;>decide
theorem aNg{j:af}(h:j<2):getD (.lst [.int 27,.int 81]) (.int (0+(j:ai)))=.ok (.int (w2 j)):=by
 have:j=0\/j=1:=by lia
 rcases this with e|e<;>subst e<;>rfl
theorem aGg(j:af):0<w2 j/\w2 j<1073741824:=by
 unfold w2;split<;>decide
section
variable {cs:aa ai} {N:aa Str}
theorem kix{m:af}(h1:1<=m)(v:ai):∃i:af,i<m/\v % (m:ai)=i:=by
 have a:0<=v % (m:ai):=lh _ 0x1;have b:v % (m:ai)<m:=nn _ 0x1;exact⟨(v % (m:ai)).toNat,by lia,by lia⟩
theorem aNh{cell:ai}{m n j:af}{M:aa Rw}(hn:n<=1000)(h1:1<=m)(hm:m<=3)(hj:j<3)(hM:M.length<100)(x o d e f:D) :
  ∃(r:Rw)(x' o':D),Gr m r/\r.1=3+m+j/\∀b,mkb (ss (.cel b (dk cs n)) N cell m M (.int (0+(j:ai))) o x d e f)=.ok (.nx (ss (.cel b (dk cs (n+1))) N cell m (M++[r]) (.int (0+(j:ai))) o' x' d e f)):=by
 obtain⟨v,qv⟩:=j8 cs n 0x1;obtain⟨k,k1,k2⟩:=kix h1 v
 let ix:af->af:=λj=>((v / w3 j) % (m:ai)).toNat
 have ixm:∀j,ix j<m/\(v / w3 j) % (m:ai)=ix j:=λj=>by
  obtain⟨i,i1,i2⟩:=kix h1 (v / w3 j);have:ix j=i:=by show((v / w3 j) % (m:ai)).toNat=i;lia
  exact⟨by lia,by lia⟩
 let c:af:=(v / 3 % 4).toNat
 have hc:(c:ai)=v / 3 % 4:=by show(((v / 3 % 4).toNat:af):ai)=_;lia
 have c4:c<=3:=by lia
 let B:aa af:=(ay c).map ix
 have lB:B.length<=3:=by show((ay c).map ix).length<=3;rw[aE,dv];exact c4
 have mB:∀i∈B,i<m:=λi hi=>by obtain⟨a,_,rfl⟩:=b9.mp hi;exact(ixm a).1
 refine⟨(3+m+j,k,B),.lst (B.map (sy N)),.int v,⟨k1,mB,lB⟩,rfl,λb=>?_⟩;refine aG (ρ':=ss (.cel b (dk cs (n+1))) N cell m M (.int (0+(j:ai))) (.int v) x d e f) (iM (i:=7) (xY qv rfl rfl) rfl) ?_;refine aG (ρ':=ss (.cel b (dk cs (n+1))) N cell m M (.int (0+(j:ai))) (.int v) (.lst (B.map (sy N))) d e f) (bB (i:=8) ?_) ?_
 .show _=δ (ξ (((ay c).map ix).map (sy N)));rw[cv];refine dI (n:=12) (λk:af=>τ (0+(k:ai))) (λj=>sy N (ix j)) (ay c) rfl (uC (n:=(c:ai)) (aD (aJ (aJ (x:=.int v) rfl rfl (jA _ _ 0x4 0x4)) rfl ((dY _ _ 0x4).trans (by rw[hc]))) rfl) 0x1 0x1) (by rw[dv];lia) λa ha=>?_
  rw[cS] at ha;exact⟨aJ (x:=.lst ((ay m).map (sy N))) rfl (aJ (aJ (x:=.int v) rfl (aJ rfl rfl (aNf 0x1)) (jA _ _ (aGf a).1 (aGf a).2)) (y:=.int m) rfl (dY _ _ 0x1)) (j_ (ixm a).2 (ixm a).1),rfl⟩
 have hrow:∀ρ:aa D,cV 1 ρ=.ok (.lst ((ay 26).map (sy N)))->cV 3 ρ=.ok (.int m)->cV 4 ρ=.ok (.lst ((ay m).map (sy N)))->cV 8 ρ=.ok (.lst (B.map (sy N)))->cV 6 ρ=.ok (.int (0+(j:ai)))->cV 7 ρ=.ok (.int v)->fM (aC (b2 getD gC (b2 (aW .add) (b2 (aW .add) nC fY) eF)) (aC (b2 getD g_ (b2 (aW .mod) fG fY)) (aC (aX gU (aC jO aR)) aR))) ρ=.ok (rwD N (3+m+j,k,B)):=λρ g1 g3 g4 g7 g8 g9=>dD (aD (aJ g1 (aJ (aJ rfl g3 (i_ _ _)) g8 (i_ _ _)) (j_ (i:=3+m+j) 0x1 0x1)) (aD (aJ g4 (aJ g9 g3 (dY _ _ 0x1)) (j_ k2 k1)) (aD (cU (aD g7 rfl) rfl) rfl))) (by rw[bA];simp)
 have ha:=zG (i:=5) (ρ:=ss (.cel b (dk cs (n+1))) N cell m M (.int (0+(j:ai))) (.int v) (.lst (B.map (sy N))) d e f) (xs:=M.map (rwD N)) (hrow _ rfl rfl rfl rfl rfl rfl) rfl (by rw[aE,bA];lia) (cG ..);refine ha.trans ?_;unfold ss;rw[bE];rfl
theorem aBv{cell:ai}{m:af}(h1:1<=m)(hm:m<=3):∀(c j n:af)(M:aa Rw)(x k o d e f:D),n+c<=1000->j+c<=3->M.length+c<100->
  ∃(E:aa Rw)(x' k' o':D),(∀r∈E,Gr m r)/\E.map (·.1)=(gx (3+m+j) c)/\∀b,o_ (tg1 6) mkb ((gx j c).map λ(k:af)=>τ (0+(k:ai))) (ss (.cel b (dk cs n)) N cell m M k o x d e f)=.ok (.nx (ss (.cel b (dk cs (n+c))) N cell m (M++E) k' o' x' d e f))
 |0,j,n,M,x,k,o,d,e,f,_,_,_=>⟨[],x,k,o,λ_ h=>by simp at h,rfl,λb=>by rw[dg];rfl⟩
 |c+1,j,n,M,x,k,o,d,e,f,g1,g2,g3=>by
  obtain⟨r,x1,o1,r1,r2,r3⟩:=aNh (cs:=cs) (N:=N) (cell:=cell) (m:=m) (n:=n) (j:=j) (M:=M) 0x1 h1 hm 0x1 0x1 x o d e f;obtain⟨E,x2,k2,o2,e1,e2,e3⟩:=aBv h1 hm c (j+1) (n+1) (M++[r]) x1 (.int (0+(j:ai))) o1 d e f 0x1 0x1 (by rw[bz,eP];lia);refine⟨r::E,x2,k2,o2,λy hy=>?_,?_,λb=>?_⟩
  .rcases bt.mp hy with h|h
   .exact h▸r1
   .exact e1 y h
  .rw[bc,nq,r2,e2];rfl
  .rw[nq,bc];refine gF (ρ1:=ss (.cel b (dk cs n)) N cell m M (.int (0+(j:ai))) o x d e f) rfl (r3 b) ?_;rw[e3 b,cf,show n+1+c=n+(c+1) from by lia];rfl
theorem aNi{cell:ai}{m n j:af}{M:aa Rw}{T:aa Tk}(hn:n<=1000)(h1:1<=m)(hm:m<=3)(hj:j<3)(hT:T.length<100)(x o d f:D) :
  ∃(r:Tk)(o' f':D),Gt m r/\r.1=10+j/\∀b,tkb (ss (.cel b (dk cs n)) N cell m M (.int (0+(j:ai))) o x d (.lst (T.map (tkD N))) f)=.ok (.nx (ss (.cel b (dk cs (n+1))) N cell m M (.int (0+(j:ai))) o' x d (.lst ((T++[r]).map (tkD N))) f')):=by
 obtain⟨v,qv⟩:=j8 cs n 0x1;obtain⟨k,k1,k2⟩:=kix h1 v;obtain⟨p,p1,p2⟩:=kix h1 (v / 3)
 let ix:af->af:=λj=>((v / w2 j) % (m:ai)).toNat
 have ixm:∀j,ix j<m/\(v / w2 j) % (m:ai)=ix j:=λj=>by
  obtain⟨i,i1,i2⟩:=kix h1 (v / w2 j);have:ix j=i:=by show((v / w2 j) % (m:ai)).toNat=i;lia
  exact⟨by lia,by lia⟩
 let c:af:=(v / 9 % 3).toNat
 have hc:(c:ai)=v / 9 % 3:=by show(((v / 9 % 3).toNat:af):ai)=_;lia
 have c4:c<=2:=by lia
 let B:aa af:=(ay c).map ix
 have lB:B.length<=2:=by show((ay c).map ix).length<=2;rw[aE,dv];exact c4
 have mB:∀i∈B,i<m:=λi hi=>by obtain⟨a,_,rfl⟩:=b9.mp hi;exact(ixm a).1
 refine⟨(10+j,k,p,B),.int v,.lst (B.map (sy N)),⟨k1,p1,mB,lB⟩,rfl,λb=>?_⟩;refine aG (ρ':=ss (.cel b (dk cs (n+1))) N cell m M (.int (0+(j:ai))) (.int v) x d (.lst (T.map (tkD N))) f) (iM (i:=7) (xY qv rfl rfl) rfl) ?_;refine aG (ρ':=ss (.cel b (dk cs (n+1))) N cell m M (.int (0+(j:ai))) (.int v) x d (.lst (T.map (tkD N))) (.lst (B.map (sy N)))) (bB (i:=11) ?_) ?_
 .show _=δ (ξ (((ay c).map ix).map (sy N)));rw[cv];refine dI (n:=12) (λk:af=>τ (0+(k:ai))) (λj=>sy N (ix j)) (ay c) rfl (uC (n:=(c:ai)) (aD (aJ (aJ (x:=.int v) rfl rfl (jA _ _ 0x4 0x4)) rfl ((dY _ _ 0x4).trans (by rw[hc]))) rfl) 0x1 0x1) (by rw[dv];lia) λa ha=>?_
  rw[cS] at ha;exact⟨aJ (x:=.lst ((ay m).map (sy N))) rfl (aJ (aJ (x:=.int v) rfl (aJ rfl rfl (aNg 0x1)) (jA _ _ (aGg a).1 (aGg a).2)) (y:=.int m) rfl (dY _ _ 0x1)) (j_ (ixm a).2 (ixm a).1),rfl⟩
 have hrow:∀ρ:aa D,cV 1 ρ=.ok (.lst ((ay 26).map (sy N)))->cV 3 ρ=.ok (.int m)->cV 4 ρ=.ok (.lst ((ay m).map (sy N)))->cV 11 ρ=.ok (.lst (B.map (sy N)))->cV 6 ρ=.ok (.int (0+(j:ai)))->cV 7 ρ=.ok (.int v)->fM (aC (b2 getD gC (b2 (aW .add) (bC (.int 10)) eF)) (aC (b2 getD g_ (b2 (aW .mod) fG fY)) (aC (b2 getD g_ (b2 (aW .mod) (b2 (aW .fdiv) fG nC) fY)) (aC (aX gU (aC iK aR)) aR)))) ρ=.ok (tkD N (10+j,k,p,B)):=λρ g1 g3 g4 g7 g8 g9=>dD (aD (aJ g1 (aJ rfl g8 (i_ _ _)) (j_ (i:=10+j) 0x1 0x1)) (aD (aJ g4 (aJ g9 g3 (dY _ _ 0x1)) (j_ k2 k1)) (aD (aJ g4 (aJ (aJ g9 rfl (jA _ _ 0x4 0x4)) g3 (dY _ _ 0x1)) (j_ p2 p1)) (aD (cU (aD g7 rfl) rfl) rfl)))) (by rw[bA];simp)
 have ha:=zG (i:=10) (ρ:=ss (.cel b (dk cs (n+1))) N cell m M (.int (0+(j:ai))) (.int v) x d (.lst (T.map (tkD N))) (.lst (B.map (sy N)))) (xs:=T.map (tkD N)) (hrow _ rfl rfl rfl rfl rfl rfl) rfl (by rw[aE,bA];lia) (d_ ..);refine ha.trans ?_;unfold ss;rw[bE];rfl
theorem aBw{cell:ai}{m:af}{M:aa Rw}(h1:1<=m)(hm:m<=3):∀(c j n:af)(T:aa Tk)(x k o d f:D),n+c<=1000->j+c<=3->T.length+c<100->
  ∃(E:aa Tk)(k' o' f':D),(∀r∈E,Gt m r)/\E.map (·.1)=(gx (10+j) c)/\∀b,o_ (tg1 6) tkb ((gx j c).map λ(k:af)=>τ (0+(k:ai))) (ss (.cel b (dk cs n)) N cell m M k o x d (.lst (T.map (tkD N))) f)=.ok (.nx (ss (.cel b (dk cs (n+c))) N cell m M k' o' x d (.lst ((T++E).map (tkD N))) f'))
 |0,j,n,T,x,k,o,d,f,_,_,_=>⟨[],k,o,f,λ_ h=>by simp at h,rfl,λb=>by rw[dg];rfl⟩
 |c+1,j,n,T,x,k,o,d,f,g1,g2,g3=>by
  obtain⟨r,o1,f1,r1,r2,r3⟩:=aNi (cs:=cs) (N:=N) (cell:=cell) (m:=m) (n:=n) (j:=j) (M:=M) (T:=T) 0x1 h1 hm 0x1 0x1 x o d f;obtain⟨E,k2,o2,f2,e1,e2,e3⟩:=aBw (M:=M) h1 hm c (j+1) (n+1) (T++[r]) x (.int (0+(j:ai))) o1 d f1 0x1 0x1 (by rw[bz,eP];lia);refine⟨r::E,k2,o2,f2,λy hy=>?_,?_,λb=>?_⟩
  .rcases bt.mp hy with h|h
   .exact h▸r1
   .exact e1 y h
  .rw[bc,nq,r2,e2];rfl
  .rw[nq,bc];refine gF (ρ1:=ss (.cel b (dk cs n)) N cell m M (.int (0+(j:ai))) o x d (.lst (T.map (tkD N))) f) rfl (r3 b) ?_;rw[e3 b,cf,show n+1+c=n+(c+1) from by lia];rfl
end
structure Sig(m:af)(M:aa Rw)(T:aa Tk):Prop where
 m1:1<=m
 m3:m<=3
 mg:∀r∈M,Gr m r
 tg:∀t∈T,Gt m t
 mn:(M.map (·.1)).Nodup
 mi:∀r∈M,3<=r.1/\r.1<9
 tn:(T.map (·.1)).Nodup
 ti:∀t∈T,10<=t.1/\t.1<13
 tl:T.length<=3
 t1:1<=T.length
 ml:M.length<=6
 ba:∀k,k<m->∃r∈M,r.2.1=k/\r.2.2=[]
theorem aJ5{f:FX}{ρ ρ':aa D}{n:ai}(h:f ρ=.ok (.int n,ρ'))(h1:0<=n)(h2:n<=1000000):aOf f ρ=.ok ((ay n.toNat).map λ(k:af)=>τ (0+(k:ai)),ρ'):=by
 unfold aOf;rw[h,ε];have:uG n=ag:=by
  simp only[uG,bf,eD];lia
 simp only[mX,this,eL];rfl
theorem aJ6{it:aa D->Res (aa D×aa D)}{t:D->aa D->Res (aa D)}{body:FS}{ρ ρ' xs:aa D}{r:Res Fl}(h1:it ρ=.ok (xs,ρ'))(h2:o_ t body xs ρ'=r):aDy it t body ρ=r:=by
 unfold aDy;rw[h1,ε];exact h2
theorem aNj{i:af}{ρ:aa D}{d:D}(h:cV i ρ=.ok d)(h2:d.T9=ag):bOw i ρ=.ok d:=by
 unfold bOw;rw[h,ε,ar h2]
theorem aEq{f:FA}{ρ ds:aa D}(h:f ρ=.ok ds)(hl:ds.length<=100):VG f ρ=.ok (.rt (.tup (.lst ds::ρ))):=by
 unfold VG;rw[h,ε,ar (by rw[bA];exact bg 0x1)]
section
variable {N:aa Str}
theorem aNk(cs:aa ai)(n:af)(hn:n<=900):∃(m:af)(M:aa Rw)(T:aa Tk)(n':af),Sig m M T/\n'<=n+8/\∀b,m_ [.cel b (dk cs n),.lst ((ay 26).map (sy N))]=.ok (.tup [.lst [.lst ((ay m).map (sy N)),.lst (M.map (rwD N)),.lst (T.map (tkD N))],.cel b (dk cs n')]):=by
 obtain⟨cell,q1⟩:=j8 cs n 0x1
 let m:af:=(1+cell % 3).toNat
 have hm:(m:ai)=1+cell % 3:=by show(((1+cell % 3).toNat:af):ai)=_;lia
 have m1:1<=m:=by lia
 have m3:m<=3:=by lia
 let c:af:=(cell / 3 % 4).toNat
 have hc:(c:ai)=cell / 3 % 4:=by show(((cell / 3 % 4).toNat:af):ai)=_;lia
 have lm:(mk0 m).length=m:=by unfold mk0;rw[aE,dv]
 obtain⟨E,x2,k2,o2,E1,E2,s6⟩:=aBv (cs:=cs) (N:=N) (cell:=cell) (m:=m) m1 m3 c 0 (n+1) (mk0 m) .uD .uD .uD .uD .uD .uD 0x1 0x1 0x1;have lE:E.length=c:=by
  have:=dw lx E2;rw[aE,Bj] at this;exact this
 generalize hM0:mk0 m++E=M0 at s6;have lM:M0.length=m+c:=by rw[<-hM0,bz,lm,lE]
 obtain⟨a,a1,a2⟩:=kix (m:=M0.length) 0x1 (cell / 12);obtain⟨v,qv⟩:=j8 cs ((n+1)+c) 0x1
 let t:af:=(1+v % 3).toNat
 have ht:(t:ai)=1+v % 3:=by show(((1+v % 3).toNat:af):ai)=_;lia
 have t13:1<=t/\t<=3:=by lia
 obtain⟨T,k3,o3,f3,T1,T2,s9⟩:=aBw (cs:=cs) (N:=N) (cell:=cell) (m:=m) (M:=M0) m1 m3 t 0 ((n+1)+c+1) [] x2 k2 o2 (.int a) .uD 0x1 0x1 (by simp;lia);rw[gN] at s9;have lT:T.length=t:=by
  have:=dw lx T2;rw[aE,Bj] at this;exact this
 have pm:(M0.drop a++M0.take a).Perm M0:=by
  have:=Bk (l₁:=M0.drop a) (l₂:=M0.take a);rwa [nu] at this
 have mem0:∀r,r∈M0->(∃k,k<m/\r=(3+k,k,[]))\/r∈E:=λr hr=>by
  rw[<-hM0,bo] at hr;rcases hr with h|h
  .unfold mk0 at h;obtain⟨k,hk,rfl⟩:=b9.mp h;exact .inl ⟨k,cS.mp hk,rfl⟩
  .exact .inr h
 have hE:∀r∈E,3+m<=r.1/\r.1<3+m+c:=λr hr=>by
  have:=eg (f:=(·.1)) hr;rw[E2,mh] at this;exact this
 have nm:M0.map (·.1)=gx 3 (m+c):=by
  rw[<-hM0,bE,E2];unfold mk0;rw[cv,zD,List.range'_append_1.symm]
  congr 1
  rw[List.range'_eq_map_range];rfl
 refine⟨m,M0.drop a++M0.take a,T,(n+1)+c+1+t,⟨m1,m3,λr hr=>?_,T1,?_,λr hr=>?_,?_,λr hr=>?_,by lia,by lia,?_,λk hk=>?_⟩,by lia,λb=>?_⟩
 .rcases mem0 r (pm.mem_iff.mp hr) with ⟨k,hk,rfl⟩|h
  .exact⟨hk,λi hi=>by simp at hi,by simp⟩
  .exact E1 r h
 .rw[(pm.map _).nodup_iff,nm];exact oS
 .rcases mem0 r (pm.mem_iff.mp hr) with ⟨k,hk,rfl⟩|h
  .exact⟨by show 3<=3+k;lia,by show 3+k<9;lia⟩
  .have:=hE r h;lia
 .rw[T2];exact oS
 .have:=eg (f:=(·.1)) hr;rw[T2,mh] at this;lia
 .rw[pm.length_eq];lia
 .refine⟨(3+k,k,[]),pm.mem_iff.mpr ?_,rfl,rfl⟩;rw[<-hM0,bo]
  left
  unfold mk0;exact b9.mpr ⟨k,cS.mpr hk,rfl⟩
 .refine GC (k:=1) (ρ:=ss (.cel b (dk cs ((n+1)+c+1+t))) N cell m M0 k3 o3 x2 (.int a) (.lst (T.map (tkD N))) f3) ?_;show wB [.cel b (dk cs n),.lst ((ay 26).map (sy N)),.uD,.uD,.uD,.uD,.uD,.uD,.uD,.uD,.uD,.uD]=_;unfold wB;refine aG (ρ':=[.cel b (dk cs (n+1)),.lst ((ay 26).map (sy N)),.int cell,.uD,.uD,.uD,.uD,.uD,.uD,.uD,.uD,.uD]) (iM (i:=2) (xY q1 rfl rfl) rfl) ?_;refine aG (ρ':=[.cel b (dk cs (n+1)),.lst ((ay 26).map (sy N)),.int cell,.int m,.uD,.uD,.uD,.uD,.uD,.uD,.uD,.uD]) (bB (i:=3) (aJ (x:=.int 1) rfl (aJ (x:=.int cell) rfl rfl (dY _ _ 0x4)) (by rw[i_,hm]))) ?_;refine aG (aNd 0x1 ..) (aG (aNe m3 ..) ?_);refine aG (lH (uC (n:=(c:ai)) (aD (aJ (aJ (x:=.int cell) rfl rfl (jA _ _ 0x4 0x4)) rfl ((dY _ _ 0x4).trans (by rw[hc]))) rfl) 0x1 0x1) (by rw[jw,Bl];exact s6 b)) ?_;refine aG (ρ':=ss (.cel b (dk cs ((n+1)+c))) N cell m M0 k2 o2 x2 (.int a) .uD .uD) (bB (i:=9) (aJ (aJ (x:=.int cell) rfl rfl (jA _ _ 0x4 0x4)) (y:=.int M0.length) (cU (aD rfl rfl) ?_) ((dY _ _ 0x1).trans (by rw[a2])))) ?_
  .show δ (τ ((M0.map (rwD N)).length:ai))=_;rw[aE]
  refine aG (ρ':=ss (.cel b (dk cs ((n+1)+c))) N cell m M0 k2 o2 x2 (.int a) (.lst []) .uD) (fZ (i:=10) rfl rfl) ?_;refine aG (aJ6 (aJ5 (n:=(t:ai)) (ρ':=ss (.cel b (dk cs ((n+1)+c+1))) N cell m M0 k2 o2 x2 (.int a) (.lst []) .uD) (aBn (x:=.int 1) rfl (V1 (xY qv rfl rfl) rfl rfl (dY _ _ 0x4) rfl) (by rw[i_,ht]) rfl) 0x1 0x1) (by rw[jw,Bl];exact s9 b)) ?_;refine aEq (aD (aNj rfl rfl) (aD ?_ (aD (aNj rfl rfl) rfl))) 0x2;rw[bE];refine aJ (x:=.lst ((M0.drop a).map (rwD N))) (y:=.lst ((M0.take a).map (rwD N))) ?_ ?_ (HQ _ _ ?_ (bN (cG N) _) (bN (cG N) _))
  .rw[kG,<-sU];exact nY rfl (fL rfl) rfl (bN (cG N) _)
  .rw[iz,<-QH];exact nY rfl rfl (fL rfl) (bN (cG N) _)
  .rw[aE,aE,i4,eW,bA];lia
theorem aNl(cs:aa ai)(n:af)(hn:n<=900):∃(m:af)(M:aa Rw)(T:aa Tk)(n':af),Sig m M T/\n'<=n+8/\ch1 m_ (dk cs n) [.lst ((ay 26).map (sy N))]=.ok (.lst [.lst ((ay m).map (sy N)),.lst (M.map (rwD N)),.lst (T.map (tkD N))],dk cs n'):=by
 obtain⟨m,M,T,n',h1,h2,h3⟩:=aNk cs n hn;exact⟨m,M,T,n',h1,h2,N6 h3⟩
end
theorem aEr{c:FT}{body:FS}{n:af}{ρ ρ':aa D}{r:Res Fl}(h1:c ρ=.ok ag)(h2:body ρ=.ok (.nx ρ'))(h3:YS c body n ρ'=r):YS c body (n+1) ρ=r:=by
 rw[YS,h1,ε,ar rfl,h2];exact h3
theorem aJ7{c:FT}{body:FS}{n:af}{ρ:aa D}(h1:c ρ=.ok ah):YS c body (n+1) ρ=.ok (.nx ρ):=by
 rw[YS,h1];rfl
inductive Run(H:aa Rw):aa af->aa af->Prop
 |nil:Run H [] []
 |step {r:Rw} {rest W:aa af}:r∈H->Run H (r.2.2++rest) W->Run H (r.2.1::rest) (r.1::W)
theorem aJ8{i j:af}{ρ xs:aa D}{x:D}(h:ρ.getD i .uD=.lst (xs++[x])){ρ':aa D}(he:(ρ.set i (.lst xs)).set j x=ρ'):aAp i j ρ=.ok (.nx ρ'):=by
 subst he;unfold aAp;rw[h];dsimp only;rw[bz,eP,xh,eJ (br _),sM,xj];rfl
theorem aBx{i:af}{ρ:aa D}{f:FE}{xs ys:aa D}(h1:f ρ=.ok (.lst ys))(h2:ρ.getD i .uD=.lst xs)(hl:xs.length+ys.length<=10000)(hp:θ ys=ag):aJz i f ρ=.ok (.nx (ρ.set i (.lst (xs++ys)))):=by
 unfold aJz;rw[h1,ε,h2];dsimp only;rw[ar (by rw[hp,bA,bg 0x1];rfl)]
theorem J2{α:Type}{N:aa Str}(hN:N.length=29)(hd:N.Nodup)(nm:α->af)(g:α->D):∀(L:aa α),(L.map nm).Nodup->(∀a∈L,nm a<29)->∀a∈L,dB (L.map λa=>(sy N (nm a),g a)) (sy N (nm a))=ae (g a)
 |[],_,_,a,ha=>by simp at ha
 |b::L,h1,h2,a,ha=>by
  rw[bc,dB,J1 hN hd (h2 b (bq ..)) (h2 a ha)];rw[bc,eT] at h1;rcases bt.mp ha with e|e
  .subst e;rw[bg rfl,ar rfl]
  .have:¬nm b=nm a:=λg=>h1.1 (g▸eg (f:=nm) e)
   rw[cg this,aw 0x2];exact J2 hN hd nm g L h1.2 (λc hc=>h2 c (cr _ hc)) a e
section
variable {N:aa Str} (hN:N.length=29) (hd:N.Nodup)
include hN hd
omit hN hd in
theorem o6{ρ:aa D}{i:af}{r:Rw}(h:cV i ρ=.ok (rwD N r)):b2 getD (cV i) eU ρ=.ok (sy N r.1)/\b2 getD (cV i) cO ρ=.ok (sy N r.2.1)/\b2 getD (cV i) fQ ρ=.ok (.tup (r.2.2.map (sy N))):=⟨aJ h rfl rfl,aJ h rfl rfl,aJ h rfl rfl⟩
theorem vI{i j:af}(hi:i<29)(hj:j<29):cX .eq (sy N i) (sy N j)=.ok (.bl (ϒ (i=j))):=by
 show(if (sy N i).jF bI&&(sy N j).jF bI then δ (υ (eqD (sy N i) (sy N j))) else .bad)=_;rw[wL,wL,J1 hN hd hi hj];rfl
theorem J3{i j:af}(hi:i<29)(hj:j<29):cX .ne (sy N i) (sy N j)=.ok (.bl (!ϒ (i=j))):=by
 show(if (sy N i).jF bI&&(sy N j).jF bI then δ (υ (!eqD (sy N i) (sy N j))) else .bad)=_;rw[wL,wL,J1 hN hd hi hj];rfl
theorem V3{i:af}{l:aa af}(hi:i<29)(hl:∀j∈l,j<29):cX .notin (sy N i) (.tup (l.map (sy N)))=.ok (.bl (!ϒ (i∈l))):=by
 show(if (sy N i).jF bI&&ο bI (l.map (sy N)) then δ (υ (!(l.map (sy N)).any λy=>eqD y (sy N i))) else .bad)=_;rw[wL,nW,aBu hN hd hi l hl];rfl
omit hN hd in
omit hN hd in
theorem aEs(l:aa af):cX .ne (.lst (l.map (sy N))) (.lst [])=.ok (.bl (!l.isEmpty)):=by
 show(if ο 11 (l.map (sy N))&&ο 11 [] then δ (υ (!xM (l.map (sy N)) [])) else .bad)=_;rw[nW,ο];cases l<;>rfl
omit hN hd in
end
structure aOm(m:af)(H:aa Rw):Prop where
 m3:m<=3
 hl:H.length<=100
 hg:∀r∈H,r.1<29/\r.2.1<29/\(∀i∈r.2.2,i<m)/\r.2.2.length<=3
 ba:∀k,k<m->∃r∈H,r.2.1=k/\r.2.2=[]
abbrev wst(hD:D)(N:aa Str)(H:aa Rw)(w:D)(most:af)(W st:aa af)(a b c d:D):aa D:=[hD,.lst (H.map (rwD N)),w,.int most,.lst (W.map (sy N)),.lst (st.reverse.map (sy N)),a,b,c,d]
theorem aJ9{N:aa Str}{cs:aa ai}{n:af}{H:aa Rw}{w:D}{most:af}{W rest:aa af}{a b d:D}{S:aa Rw}{v:ai}{i:af}{r:Rw}{z:af}(qv:ch1 bK (dk cs n) []=.ok (.int v,dk cs (n+1)))(lS:0<S.length)(i2:v % (S.length:ai)=i)(hi:S[i]?=ae r):wb3 (wst (.cel z (dk cs n)) N H w most W rest a b (.lst (S.map (rwD N))) d)=.ok (.nx (wst (.cel z (dk cs (n+1))) N H w most W rest a b (.lst (S.map (rwD N))) (rwD N r))):=by
 have hl:∀ρ:aa D,cV 8 ρ=.ok (.lst (S.map (rwD N)))->(aX h_ (aC jO aR)) ρ=.ok (.int S.length):=λρ h=>cU (aD h rfl) (by
  show δ (τ ((S.map (rwD N)).length:ai))=_;rw[aE])
 exact iM (i:=9) (aBn (x:=.lst (S.map (rwD N))) rfl (V1 (xY qv rfl rfl) rfl (hl _ rfl) (dY _ _ 0x1) rfl) (wM i2 hi) (cG ..)) rfl
section
variable {N:aa Str} (hN:N.length=29) (hd:N.Nodup)
include hN hd
theorem turn{cs:aa ai}{n:af}{H:aa Rw}{w:D}{most:af}{m:af}(P:aOm m H){W rest:aa af}{k:af}(hk:k<m)(hn:n<=10000)(hw:W.length+rest.length+1<=most)(hm:most<=100)(a b c d:D) :
  ∃r∈H,r.2.1=k/\W.length+1+(r.2.2.length+rest.length)<=most/\∃a' b' c' d':D,∀z,wb (wst (.cel z (dk cs n)) N H w most W (k::rest) a b c d)=.ok (.nx (wst (.cel z (dk cs (n+1))) N H w most (W++[r.1]) (r.2.2++rest) a' b' c' d')):=by
 have m3:=P.m3;obtain⟨v,qv⟩:=j8 cs n 0x1
 let room:af:=most-W.length-rest.length-1
 have hroom:(most:ai)-W.length-rest.length-1=(room:ai):=by show _=((most-W.length-rest.length-1:af):ai);lia
 obtain⟨S,hS,neS⟩:∃S:aa Rw,S=H.filter (λr=>ϒ (r.2.1=k)&&ϒ ((r.2.2.length:ai)<=(room:ai)))/\S≠[]:=⟨_,rfl,by
  obtain⟨r,hr,e1,e2⟩:=P.ba k hk;refine List.ne_nil_of_mem (gn.mpr ⟨hr,?_⟩);rw[bf,eD,eD,e2];exact⟨e1,by simp⟩⟩
 have sub1:∀r∈S,r∈H/\r.2.1=k/\r.2.2.length<=room:=λr hr=>by
  rw[hS] at hr;have:=gn.mp hr;have h2:=this.2;rw[bf,eD,eD] at h2;exact⟨this.1,h2.1,by lia⟩
 have lS:0<S.length:=Bm.mpr neS;obtain⟨i,i1,i2⟩:=kix (m:=S.length) 0x1 v;have hi:S[i]?=ae S[i]:=cq i1;obtain⟨g1,g2,g3⟩:=sub1 _ (dA i1);generalize S[i]=r at g1 g2 g3 hi;obtain⟨u0,u1,u2,u3⟩:=P.hg r g1;refine⟨r,g1,g2,by show _<=_;have:r.2.2.length<=most-W.length-rest.length-1:=g3;lia,sy N k,.int room,.lst (S.map (rwD N)),rwD N r,λz=>?_⟩;have t0:wb0 (wst (.cel z (dk cs n)) N H w most W (k::rest) a b c d)=.ok (.nx (wst (.cel z (dk cs n)) N H w most W rest (sy N k) b c d)):=aJ8 (i:=5) (j:=6) (xs:=rest.reverse.map (sy N)) (x:=sy N k) (by
  show ξ ((k::rest).reverse.map (sy N))=_;rw[ik,bE];rfl) rfl
 have t1:wb1 (wst (.cel z (dk cs n)) N H w most W rest (sy N k) b c d)=.ok (.nx (wst (.cel z (dk cs n)) N H w most W rest (sy N k) (.int room) c d)):=by
  rw[<-hroom];refine bB (i:=7) (aJ (aJ (aJ (x:=.int most) rfl (y:=.int W.length) (cU (aD rfl rfl) ?_) (aAe _ _)) (y:=.int rest.length) (cU (aD rfl rfl) ?_) (aAe _ _)) rfl (aAe _ _))
  .show δ (τ ((W.map (sy N)).length:ai))=_;rw[aE]
  .show δ (τ ((rest.reverse.map (sy N)).length:ai))=_;rw[aE,iL]
 have t2:wb2 (wst (.cel z (dk cs n)) N H w most W rest (sy N k) (.int room) c d)=.ok (.nx (wst (.cel z (dk cs n)) N H w most W rest (sy N k) (.int room) (.lst (S.map (rwD N))) d)):=by
  rw[hS];refine bB (i:=8) (j9 (n:=10) (rwD N) (rwD N) _ H rfl (cC rfl) (by have:=P.hl;lia) (λr hr=>?_) λr hr _=>⟨rfl,cG ..⟩);obtain⟨v0,v1,v2,v3⟩:=P.hg r hr;have c1:∀ρ:aa D,cV 10 ρ=.ok (rwD N r)->cV 6 ρ=.ok (sy N k)->(bTB (b2 (cX .eq) (b2 getD dJ cO) eF)) ρ=.ok (ϒ (r.2.1=k)):=λρ e1 e2=>dO (aJ (o6 e1).2.1 e2 (vI hN hd 0x1 0x1))
  have c2:∀ρ:aa D,cV 10 ρ=.ok (rwD N r)->cV 7 ρ=.ok (.int room)->(bTB (b2 (zR .le) (aX h_ (aC (b2 getD dJ fQ) aR)) fG)) ρ=.ok (ϒ ((r.2.2.length:ai)<=(room:ai))):=λρ e1 e2=>dO (aJ (cU (aD (o6 e1).2.2 rfl) (by
   show δ (τ ((r.2.2.map (sy N)).length:ai))=_;rw[aE])) e2 (aNa _ _))
  by_cases hrk:r.2.1=k
  .refine(xQ ((c1 _ rfl rfl).trans (by rw[bg hrk])) (c2 _ rfl rfl)).trans ?_;rw[bg hrk,jt]
  .refine(NB ((c1 _ rfl rfl).trans (by rw[cg hrk]))).trans ?_;rw[cg hrk,yh]
 have t3:wb3 (wst (.cel z (dk cs n)) N H w most W rest (sy N k) (.int room) (.lst (S.map (rwD N))) d)=.ok (.nx (wst (.cel z (dk cs (n+1))) N H w most W rest (sy N k) (.int room) (.lst (S.map (rwD N))) (rwD N r))):=aJ9 qv lS i2 hi;have t4:wb4 (wst (.cel z (dk cs (n+1))) N H w most W rest (sy N k) (.int room) (.lst (S.map (rwD N))) (rwD N r))=.ok (.nx (wst (.cel z (dk cs (n+1))) N H w most (W++[r.1]) rest (sy N k) (.int room) (.lst (S.map (rwD N))) (rwD N r))):=by
  have ha:=zG (i:=4) (ρ:=wst (.cel z (dk cs (n+1))) N H w most W rest (sy N k) (.int room) (.lst (S.map (rwD N))) (rwD N r)) (xs:=W.map (sy N)) (o6 (i:=9) (r:=r) rfl).1 rfl (by rw[aE,bA];lia) rfl;refine ha.trans ?_;unfold wst;rw[bE];rfl
 have t5:wb5 (wst (.cel z (dk cs (n+1))) N H w most (W++[r.1]) rest (sy N k) (.int room) (.lst (S.map (rwD N))) (rwD N r))=.ok (.nx (wst (.cel z (dk cs (n+1))) N H w most (W++[r.1]) (r.2.2++rest) (sy N k) (.int room) (.lst (S.map (rwD N))) (rwD N r))):=by
  have hx:=aBx (i:=5) (ρ:=wst (.cel z (dk cs (n+1))) N H w most (W++[r.1]) rest (sy N k) (.int room) (.lst (S.map (rwD N))) (rwD N r)) (f:=b1 aGa (b2 getD gD fQ)) (xs:=rest.reverse.map (sy N)) (ys:=r.2.2.reverse.map (sy N)) (aJ3 (o6 (i:=9) (r:=r) rfl).2.2 (by
   show(if θ (r.2.2.map (sy N))&&ϒ ((r.2.2.map (sy N)).length<=lim) then δ (ξ (r.2.2.map (sy N)).reverse) else .bad)=_;rw[cD,aE,bA,bg 0x1,<-xk];rfl)) rfl (by rw[aE,iL,aE,iL];lia) (cD ..)
  refine hx.trans ?_;have e7:((r.2.2++rest).reverse.map (sy N))=rest.reverse.map (sy N)++r.2.2.reverse.map (sy N):=by rw[xl,bE]
  unfold wst;rw[e7];rfl
 exact aG t0 (aG t1 (aG t2 (aG t3 (aG t4 t5))))
theorem aNm{cs:aa ai}{H:aa Rw}{w:D}{most:af}{m:af}(P:aOm m H)(hm:most<=100):∀(μ n fuel:af)(W st:aa af)(a b c d:D),most-W.length=μ->μ<fuel->n+μ<=5000->W.length+st.length<=most->(∀k∈st,k<m)->
  ∃(V:aa af)(n':af)(a' b' c' d':D),Run H st V/\V.length<=μ/\n'<=n+μ/\∀z,YS wc wb fuel (wst (.cel z (dk cs n)) N H w most W st a b c d)=.ok (.nx (wst (.cel z (dk cs n')) N H w most (W++V) [] a' b' c' d'))
 |μ,n,0,W,st,a,b,c,d,h1,h2,_,_,_=>aT h2 (Nat.not_lt_zero _)
 |μ,n,fuel+1,W,[],a,b,c,d,h1,h2,_,_,_=>⟨[],n,a,b,c,d,.nil,gw _,by lia,λz=>by
   rw[dg];exact aJ7 (dO (aJ rfl rfl (aEs (N:=N) [])))⟩
 |0,n,fuel+1,W,k::rest,a,b,c,d,h1,h2,_,h4,h5=>by
   rw[cz] at h4;lia
 |μ+1,n,fuel+1,W,k::rest,a,b,c,d,h1,h2,h3,h4,h5=>by
   have hk:=h5 k (bq ..);have hrest:∀k∈rest,k<m:=λj hj=>h5 j (cr _ hj)
   rw[cz] at h4;obtain⟨r,r1,r2,r3,a',b',c',d',r4⟩:=turn hN hd (cs:=cs) (n:=n) (w:=w) (most:=most) P (W:=W) (rest:=rest) (k:=k) hk 0x1 0x1 hm a b c d;have hp:=(P.hg r r1).2.2.1;obtain⟨V,n',a2,b2,c2,d2,q1,q2,q3,q4⟩:=aNm P hm μ (n+1) fuel (W++[r.1]) (r.2.2++rest) a' b' c' d' (by rw[bz,eP];lia) 0x1 0x1 (by rw[bz,bz,eP];lia) (λj hj=>by
    rcases bo.mp hj with h|h
    .exact hp j h
    .exact hrest j h)
   refine⟨r.1::V,n',a2,b2,c2,d2,r2▸.step r1 q1,by rw[cz];lia,by lia,λz=>?_⟩;refine aEr (dO (aJ rfl rfl ((aEs (N:=N) (k::rest).reverse).trans ?_))) (r4 z) ?_
   .rw[ik];cases rest.reverse<;>rfl
   .rw[q4 z,cf];rfl
theorem aEt(cs:aa ai){n:af}{H:aa Rw}{m:af}(P:aOm m H){k most:af}(hk:k<m)(h1:1<=most)(hm:most<=100)(hn:n<=4000) :
  ∃(V:aa af)(n':af),Run H [k] V/\V.length<=100/\n'<=n+100/\ch1 lY (dk cs n) [.lst (H.map (rwD N)),sy N k,.int most]=.ok (.lst (V.map (sy N)),dk cs n'):=by
 obtain⟨V,n',a',b',c',d',g1,g2,g3,g4⟩:=aNm hN hd (cs:=cs) (w:=sy N k) (most:=most) P hm most n 1000 [] [k] .uD .uD .uD .uD 0x2 0x1 0x1 (by simpa using h1) (λj hj=>by rw[fw] at hj;lia);refine⟨V,n',g1,by lia,by lia,N6 λz=>GC (k:=1) (ρ:=wst (.cel z (dk cs n')) N H (sy N k) most V [] a' b' c' d') ?_⟩;refine aG (ρ':=[.cel z (dk cs n),.lst (H.map (rwD N)),sy N k,.int most,.lst [],.uD,.uD,.uD,.uD,.uD]) (fZ (i:=4) rfl rfl) ?_;refine aG (ρ':=wst (.cel z (dk cs n)) N H (sy N k) most [] [k] .uD .uD .uD .uD) (fZ (i:=5) rfl rfl) ?_;refine aG (g4 z) ?_;exact V0 rfl rfl
end
def tw(N:aa Str)(w:aa af):D:=.tup (w.map (sy N))
theorem jK(N:aa Str)(w:aa af):(tw N w).pure=ag:=by
 show(ν (w.map (sy N))).pure=ag;rw[χ,cD]
noncomputable abbrev Ru:=af×af×aa af×aa af
def ruD(N:aa Str)(u:Ru):D:=.tup [sy N u.1,sy N u.2.1,tw N u.2.2.1,tw N u.2.2.2]
theorem cY(N:aa Str)(u:Ru):(ruD N u).pure=ag:=by
 show((sy N u.1).pure&&((sy N u.2.1).pure&&((tw N u.2.2.1).pure&&((tw N u.2.2.2).pure&&ag))))=ag;rw[jK,jK];rfl
theorem aJa(N:aa Str)(w:aa af)(n:af):(tw N w).jF (n+1)=ag:=by
 unfold tw;rw[D.jF,nW]
theorem vJ{N:aa Str}{ρ:aa D}{i:af}{t:Tk}(h:cV i ρ=.ok (tkD N t)):b2 getD (cV i) eU ρ=.ok (sy N t.1)/\b2 getD (cV i) cO ρ=.ok (sy N t.2.1)/\b2 getD (cV i) fQ ρ=.ok (sy N t.2.2.1)/\b2 getD (cV i) nC ρ=.ok (.tup (t.2.2.2.map (sy N))):=⟨aJ h rfl rfl,aJ h rfl rfl,aJ h rfl rfl,aJ h rfl rfl⟩
structure Mat(m:af)(M:aa Rw)(T:aa Tk)(Hd:aa Rw):Prop where
 m3:m<=3
 ml:M.length<=10
 tl:T.length<=10
 hl:Hd.length<=50
 mg:∀r∈M,r.1<29/\r.2.1<29/\(∀i∈r.2.2,i<29)/\r.2.2.length<=3
 tg:∀t∈T,t.1<29/\t.2.1<m/\t.2.2.1<29/\(∀i∈t.2.2.2,i<29)/\t.2.2.2.length<=2
 hg:∀r∈Hd,r.1<29/\r.2.1<29/\(∀i∈r.2.2,i<m)/\r.2.2.length<=3
 ba:∀k,k<m->∃r∈Hd,r.2.1=k/\r.2.2=[]
noncomputable def kn(ow be:aa af):aa Rw:=(ay be.length).map λj=>(ow.getD j 0,be.getD j 0,[])
structure aRa(M:aa Rw)(T:aa Tk)(Hd:aa Rw)(t:Tk)(r:Rw)(u:Ru):Prop where
 n1:u.1=t.1
 n2:u.2.1=r.1
 ol:u.2.2.1.length=(r.2.2++t.2.2.2).length
 on:u.2.2.1.Nodup
 oi:∀i∈u.2.2.1,13<=i/\i<18
 rn:Run (kn u.2.2.1 (r.2.2++t.2.2.2)++Hd) [t.2.1] u.2.2.2
 wl:u.2.2.2.length<=100
noncomputable def oi(e:ai)(s j:af):af:=13+((e+(0+(j:ai))*s) % 5).toNat
theorem aNn{e:ai}{s j k:af}(hs:1<=s/\s<=4)(hj:j<5)(hk:k<5)(h:oi e s j=oi e s k):j=k:=by
 unfold oi at h;have:s=1\/s=2\/s=3\/s=4:=by lia
 rcases this with g|g|g|g<;>subst g<;>try omega
theorem aNo(e:ai)(s j:af):13<=oi e s j/\oi e s j<18:=by
 unfold oi;lia
abbrev rst(hD:D)(N:aa Str)(M:aa Rw)(T:aa Tk)(Hd:aa Rw)(R:aa Ru)(t r a b c d e i:D):aa D:=[hD,.lst (M.map (rwD N)),.lst (T.map (tkD N)),.lst ((ay 26).map (sy N)),.lst (Hd.map (rwD N)),.lst (R.map (ruD N)),t,r,a,b,c,d,e,i]
section
variable {N:aa Str} (hN:N.length=29) (hd:N.Nodup)
include hN hd
theorem aEu{cs:aa ai}{n:af}{m:af}{M:aa Rw}{T:aa Tk}{Hd:aa Rw}(G:Mat m M T Hd){R:aa Ru}{t:Tk}(ht:t∈T){r:Rw}(hr:r∈M)(hk:r.2.1=t.2.2.1)(hn:n<=4000)(hR:R.length<=1000)(a b c d e i:D) :
  ∃(u:Ru)(n':af)(a' b' c' d' e':D),aRa M T Hd t r u/\n'<=n+100/\∀z,ri (rst (.cel z (dk cs n)) N M T Hd R (tkD N t) (rwD N r) a b c d e i)=.ok (.nx (rst (.cel z (dk cs n')) N M T Hd (R++[u]) (tkD N t) (rwD N r) a' b' c' d' e' i)):=by
 obtain⟨u1,u2,u3,u4⟩:=G.mg r hr;obtain⟨v1,v2,v3,v4,v5⟩:=G.tg t ht;have m3:=G.m3;generalize hbe:r.2.2++t.2.2.2=be;have lbe:be.length<=5:=by rw[<-hbe,bz];lia
 have mbe:∀x∈be,x<29:=λx hx=>by
  rw[<-hbe,bo] at hx;rcases hx with h|h
  .exact u3 x h
  .exact v4 x h
 let s:af:=1+R.length % 4
 have hs:1<=s/\s<=4:=by show 1<=1+R.length % 4/\1+R.length % 4<=4;lia
 generalize hOw:(ay be.length).map (oi (R.length:ai) s)=Ow;have lOw:Ow.length=be.length:=by rw[<-hOw,aE,dv]
 have mOw:∀x∈Ow,13<=x/\x<18:=λx hx=>by
  rw[<-hOw] at hx;obtain⟨j,_,rfl⟩:=b9.mp hx;exact aNo ..
 have nOw:Ow.Nodup:=by
  rw[<-hOw,li,sL];refine Bg ?_ (li.mp (Bn (n:=be.length)));intro j k hj hk hne e;rw[cS] at hj hk;exact hne (aNn hs 0x1 0x1 e)
 have P:aOm m (kn Ow be++Hd):=by
  refine⟨m3,?_,λx hx=>?_,λk hk=>?_⟩
  .unfold kn;have:=G.hl;rw[bz,aE,dv];lia
  .rcases bo.mp hx with h|h
   .unfold kn at h;obtain⟨j,hj,rfl⟩:=b9.mp h;have hj:=cS.mp hj;refine⟨?_,?_,λi hi=>by simp at hi,by simp⟩
    .show Ow.getD j 0<29;rw[de,cq 0x1];have:=mOw _ (dA (l:=Ow) (n:=j) 0x1);show Ow[j]<29;lia
    .show be.getD j 0<29;rw[de,cq 0x1];exact mbe _ (dA (l:=be) (n:=j) 0x1)
   .exact G.hg x h
  .obtain⟨r,hr,e⟩:=G.ba k hk;exact⟨r,dS _ hr,e⟩
 obtain⟨V,n',w1,w2,w3,w4⟩:=aEt hN hd cs (n:=n) P v2 (show 1<=6 by decide) 0x4 hn;refine⟨(t.1,r.1,Ow,V),n',tw N be,.int s,.lst (Ow.map (sy N)),.lst ((kn Ow be).map (rwD N)),.lst (V.map (sy N)),⟨rfl,rfl,by rw[hbe];exact lOw,nOw,mOw,by rw[hbe];exact w1,w2⟩,w3,λz=>?_⟩;have lnb:∀ρ:aa D,cV 8 ρ=.ok (tw N be)->(aX h_ (aC jO aR)) ρ=.ok (.int be.length):=λρ g=>cU (aD g rfl) (by
  show δ (τ ((be.map (sy N)).length:ai))=_;rw[aE])
 have lnr:∀ρ:aa D,cV 5 ρ=.ok (.lst (R.map (ruD N)))->(aX h_ (aC fP aR)) ρ=.ok (.int R.length):=λρ g=>cU (aD g rfl) (by
  show δ (τ ((R.map (ruD N)).length:ai))=_;rw[aE])
 have hcnd:rc (rst (.cel z (dk cs n)) N M T Hd R (tkD N t) (rwD N r) a b c d e i)=.ok ag:=(dO (aJ (o6 (i:=7) (r:=r) rfl).2.1 (vJ (i:=6) (t:=t) rfl).2.2.1 (vI hN hd u2 v3))).trans (by rw[bg hk]);have s0:rb0 (rst (.cel z (dk cs n)) N M T Hd R (tkD N t) (rwD N r) a b c d e i)=.ok (.nx (rst (.cel z (dk cs n)) N M T Hd R (tkD N t) (rwD N r) (tw N be) b c d e i)):=by
  refine bZ (i:=8) (d:=tw N be) (aJ (o6 (i:=7) (r:=r) rfl).2.2 (vJ (i:=6) (t:=t) rfl).2.2.2 ?_) (jK ..);show(if ϒ ((r.2.2.map (sy N)).length+(t.2.2.2.map (sy N)).length<=lim) then δ (ν (r.2.2.map (sy N)++t.2.2.2.map (sy N))) else .bad)=_;rw[aE,aE,bA,bg 0x1,<-bE,hbe];rfl
 have s1:rb1 (rst (.cel z (dk cs n)) N M T Hd R (tkD N t) (rwD N r) (tw N be) b c d e i)=.ok (.nx (rst (.cel z (dk cs n)) N M T Hd R (tkD N t) (rwD N r) (tw N be) (.int s) c d e i)):=by
  have es:((s:af):ai)=1+(R.length:ai) % 4:=by show((1+R.length % 4:af):ai)=_;lia
  unfold rst;rw[es];exact bB (i:=9) (aJ (x:=.int 1) rfl (aJ (x:=.int R.length) (lnr _ rfl) rfl (dY _ _ 0x4)) (i_ _ _))
 have s2:rb2 (rst (.cel z (dk cs n)) N M T Hd R (tkD N t) (rwD N r) (tw N be) (.int s) c d e i)=.ok (.nx (rst (.cel z (dk cs n)) N M T Hd R (tkD N t) (rwD N r) (tw N be) (.int s) (.lst (Ow.map (sy N))) d e i)):=by
  refine bB (i:=10) ?_;rw[<-hOw,cv];refine dI (n:=14) (λk:af=>τ (0+(k:ai))) _ (ay be.length) rfl (uC (n:=(be.length:ai)) (aD (lnb _ rfl) rfl) 0x1 0x1) (by rw[dv];lia) λj hj=>?_
  have hj:=cS.mp hj;have ho:=aNo (R.length:ai) s j;exact⟨aJ rfl (aJ rfl (aJ (aJ (lnr _ rfl) (aJ (x:=.int (0+(j:ai))) (y:=.int s) rfl rfl (wI _ _ (HN _ 0x1 0x1))) (i_ _ _)) rfl (dY _ _ 0x4)) (i_ _ _)) (j_ (i:=oi (R.length:ai) s j) (by unfold oi;lia) 0x1),rfl⟩
 have s3:rb3 (rst (.cel z (dk cs n)) N M T Hd R (tkD N t) (rwD N r) (tw N be) (.int s) (.lst (Ow.map (sy N))) d e i)=.ok (.nx (rst (.cel z (dk cs n)) N M T Hd R (tkD N t) (rwD N r) (tw N be) (.int s) (.lst (Ow.map (sy N))) (.lst ((kn Ow be).map (rwD N))) e i)):=by
  refine bB (i:=11) ?_;unfold kn;rw[cv];refine dI (n:=14) (λk:af=>τ (0+(k:ai))) _ (ay be.length) rfl (uC (n:=(be.length:ai)) (aD (lnb _ rfl) rfl) 0x1 0x1) (by rw[dv];lia) λj hj=>?_
  have hj:=cS.mp hj;have e1:Ow[j]?=ae (Ow.getD j 0):=by rw[de,cq 0x1];rfl
  have e2:be[j]?=ae (be.getD j 0):=by rw[de,cq hj];rfl
  exact⟨dD (aD (aJ rfl rfl (wM 0x1 e1)) (aD (aJ (x:=tw N be) rfl rfl (vH 0x1 e2)) (aD (dD (xs:=[]) rfl (by rw[bA];simp)) rfl))) (by rw[bA];simp),rfl⟩
 have hargs:(aC (b2 (aW .add) iK g_) (aC (bPu (b2 getD eF cO)) (aC (bPu aCr) aR))) (rst (.cel z (dk cs n)) N M T Hd R (tkD N t) (rwD N r) (tw N be) (.int s) (.lst (Ow.map (sy N))) (.lst ((kn Ow be).map (rwD N))) e i)=.ok [.lst ((kn Ow be++Hd).map (rwD N)),sy N t.2.1,.int ((6:af):ai)]:=by
  rw[bE];refine aD (aJ (x:=.lst ((kn Ow be).map (rwD N))) (y:=.lst (Hd.map (rwD N))) rfl rfl (HQ _ _ ?_ (bN (cG N) _) (bN (cG N) _))) (aD (aIw (vJ (i:=6) (t:=t) rfl).2.1 rfl) (aD (aIw rfl rfl) rfl));unfold kn;have:=G.hl;rw[aE,aE,aE,dv,bA];lia
 have s4:rb4 (rst (.cel z (dk cs n)) N M T Hd R (tkD N t) (rwD N r) (tw N be) (.int s) (.lst (Ow.map (sy N))) (.lst ((kn Ow be).map (rwD N))) e i)=.ok (.nx (rst (.cel z (dk cs n')) N M T Hd R (tkD N t) (rwD N r) (tw N be) (.int s) (.lst (Ow.map (sy N))) (.lst ((kn Ow be).map (rwD N))) (.lst (V.map (sy N))) i)):=iM (i:=12) (o5 (i:=0) hargs rfl rfl w4 (sO ..) rfl) rfl;have s5:=zG (i:=5) (f:=fM (aC (b2 getD eF eU) (aC (b2 getD fG eU) (aC (aX gU (aC dJ aR)) (aC (aX gU (aC mJ aR)) aR))))) (ρ:=(rst (.cel z (dk cs n')) N M T Hd R (tkD N t) (rwD N r) (tw N be) (.int s) (.lst (Ow.map (sy N))) (.lst ((kn Ow be).map (rwD N))) (.lst (V.map (sy N))) i)) (xs:=R.map (ruD N)) (d:=ruD N (t.1,r.1,Ow,V)) (dD (aD (vJ (i:=6) (t:=t) rfl).1 (aD (o6 (i:=7) (r:=r) rfl).1 (aD (cU (aD rfl rfl) rfl) (aD (cU (aD rfl rfl) rfl) rfl)))) (by rw[bA];simp)) rfl (by rw[aE,bA];lia) (cY ..);refine lO hcnd (aG s0 (aG s1 (aG s2 (aG s3 (aG s4 (s5.trans ?_))))));unfold rst;rw[bE];rfl
end
noncomputable def prs(t:Tk)(L:aa Rw):aa (af×af):=(L.filter λr=>ϒ (r.2.1=t.2.2.1)).map λr=>(t.1,r.1)
def prT(T:aa Tk)(M:aa Rw):aa (af×af):=T.flatMap λt=>prs t M
noncomputable def pq(u:Ru):af×af:=(u.1,u.2.1)
def Good(M:aa Rw)(T:aa Tk)(Hd:aa Rw)(u:Ru):Prop:=∃t∈T,∃r∈M,r.2.1=t.2.2.1/\aRa M T Hd t r u
noncomputable def tr(t:Tk):Rw:=(t.1,t.2.1,t.2.2.1::t.2.2.2)
section
variable {N:aa Str} (hN:N.length=29) (hd:N.Nodup)
include hN hd
theorem S8{cs:aa ai}{m:af}{M:aa Rw}{T:aa Tk}{Hd:aa Rw}(G:Mat m M T Hd){t:Tk}(ht:t∈T){i:D}:∀(L:aa Rw),(∀r∈L,r∈M)->∀(n:af)(R:aa Ru)(x a b c d e:D),n+100*L.length<=4000->R.length+L.length<=1000->
  ∃(E:aa Ru)(n':af)(x' a' b' c' d' e':D),E.map pq=prs t L/\(∀u∈E,Good M T Hd u)/\E.length<=L.length/\n'<=n+100*L.length/\∀z,o_ (tg1 7) ri (L.map (rwD N)) (rst (.cel z (dk cs n)) N M T Hd R (tkD N t) x a b c d e i)=.ok (.nx (rst (.cel z (dk cs n')) N M T Hd (R++E) (tkD N t) x' a' b' c' d' e' i))
 |[],_,n,R,x,a,b,c,d,e,_,_=>⟨[],n,x,a,b,c,d,e,rfl,λ_ h=>by simp at h,by simp,by lia,λz=>by rw[dg];rfl⟩
 |r::L,hL,n,R,x,a,b,c,d,e,h1,h2=>by
  rw[cz] at h1 h2;have hr:=hL r (bq ..);by_cases hk:r.2.1=t.2.2.1
  .obtain⟨u,n1,a1,b1,c1,d1,e1,q1,q2,q3⟩:=aEu hN hd (cs:=cs) (n:=n) G (R:=R) ht hr hk 0x1 0x1 a b c d e i;obtain⟨E,n',x',a',b',c',d',e',p1,p2,p3,p4,p5⟩:=S8 G ht L (λy hy=>hL y (cr _ hy)) n1 (R++[u]) (rwD N r) a1 b1 c1 d1 e1 0x1 (by rw[bz,eP];lia);refine⟨u::E,n',x',a',b',c',d',e',?_,λy hy=>?_,by rw[cz,cz];lia,by rw[cz];lia,λz=>?_⟩
   .unfold prs at p1 ⊢;rw[List.filter_cons_of_pos (by simpa using hk),bc,bc,p1];unfold pq;rw[q1.n1,q1.n2]
   .rcases bt.mp hy with h|h
    .exact h▸⟨t,ht,r,hr,hk,q1⟩
    .exact p2 y h
   .rw[bc];refine gF (ρ1:=rst (.cel z (dk cs n)) N M T Hd R (tkD N t) (rwD N r) a b c d e i) rfl (q3 z) ?_;rw[p5 z,cf];rfl
  .obtain⟨E,n',x',a',b',c',d',e',p1,p2,p3,p4,p5⟩:=S8 G ht L (λy hy=>hL y (cr _ hy)) n R (rwD N r) a b c d e 0x1 0x1;refine⟨E,n',x',a',b',c',d',e',?_,p2,by rw[cz];lia,by rw[cz];lia,λz=>?_⟩
   .unfold prs at p1 ⊢;rw[List.filter_cons_of_neg (by simpa using hk),p1]
   .rw[bc];obtain⟨u1,u2,_,_⟩:=G.mg r hr;obtain⟨v1,v2,v3,_,_⟩:=G.tg t ht;refine gF (ρ1:=rst (.cel z (dk cs n)) N M T Hd R (tkD N t) (rwD N r) a b c d e i) rfl (gW ((dO (aJ (o6 (i:=7) (r:=r) rfl).2.1 (vJ (i:=6) (t:=t) rfl).2.2.1 (vI hN hd u2 v3))).trans (by rw[cg hk])) rfl) (p5 z)
theorem aBy{cs:aa ai}{m:af}{M:aa Rw}{T:aa Tk}{Hd:aa Rw}(G:Mat m M T Hd){i:D}:∀(L:aa Tk),(∀r∈L,r∈T)->∀(n:af)(R:aa Ru)(y x a b c d e:D),n+100*(M.length*L.length)<=4000->R.length+10*L.length<=900->
  ∃(E:aa Ru)(n':af)(y' x' a' b' c' d' e':D),E.map pq=prT L M/\(∀u∈E,Good M T Hd u)/\E.length<=10*L.length/\n'<=n+100*(M.length*L.length)/\∀z,o_ (tg1 6) (nJ 1 (tg1 7) ri) (L.map (tkD N)) (rst (.cel z (dk cs n)) N M T Hd R y x a b c d e i)=.ok (.nx (rst (.cel z (dk cs n')) N M T Hd (R++E) y' x' a' b' c' d' e' i))
 |[],_,n,R,y,x,a,b,c,d,e,_,_=>⟨[],n,y,x,a,b,c,d,e,rfl,λ_ h=>by simp at h,by simp,by simp,λz=>by rw[dg];rfl⟩
 |t::L,hL,n,R,y,x,a,b,c,d,e,h1,h2=>by
  rw[cz] at h1 h2;have ml:=G.ml;rw[Bo,Bp] at h1;obtain⟨E1,n1,x1,a1,b1,c1,d1,e1,q1,q2,q3,q4,q5⟩:=S8 hN hd (cs:=cs) G (hL t (bq ..)) (i:=i) M (λ_ h=>h) n R x a b c d e 0x1 0x1;obtain⟨E,n',y',x',a',b',c',d',e',p1,p2,p3,p6,p5⟩:=aBy G L (λy hy=>hL y (cr _ hy)) n1 (R++E1) (tkD N t) x1 a1 b1 c1 d1 e1 0x1 (by rw[bz];lia);refine⟨E1++E,n',y',x',a',b',c',d',e',?_,λy hy=>?_,by rw[bz,cz];lia,by rw[cz,Bo,Bp];lia,λz=>?_⟩
  .unfold prT at p1 ⊢;rw[bE,q1,p1,Bq]
  .rcases bo.mp hy with h|h
   .exact q2 y h
   .exact p2 y h
  .rw[bc];refine gF (ρ1:=rst (.cel z (dk cs n)) N M T Hd R (tkD N t) x a b c d e i) rfl (oW rfl rfl (q5 z)) ?_;rw[p5 z,cf]
theorem aEv{M:aa Rw}{T:aa Tk}(hM:M.length<=100)(hT:T.length<=100)(hm:∀t∈T,t.2.2.2.length<=10)(hD nm x5 x6 x7 x8 x9 xa xb xc xd:D):b7 ah 4 (b2 (aW .add) gC (dM 14 (bT dW ah) mK iU (fM (aC (b2 getD jG eU) (aC (b2 getD jG cO) (aC (b2 nD (fM (aC (b2 getD jG fQ) aR)) (b2 getD jG nC)) aR)))) ah)) ag [hD,.lst (M.map (rwD N)),.lst (T.map (tkD N)),nm,.uD,x5,x6,x7,x8,x9,xa,xb,xc,xd]=.ok (.nx [hD,.lst (M.map (rwD N)),.lst (T.map (tkD N)),nm,.lst ((M++T.map tr).map (rwD N)),x5,x6,x7,x8,x9,xa,xb,xc,xd]):=by
 refine bB (i:=4) ?_;rw[bE,cv];refine aJ (x:=.lst (M.map (rwD N))) rfl (dI (n:=14) (tkD N) (λt=>rwD N (tr t)) T rfl (cC rfl) 0x1 λt ht=>?_) (HQ _ _ (by rw[aE,aE,bA];lia) (bN (cG N) _) ?_)
 .refine⟨dD (aD (vJ (i:=14) (t:=t) rfl).1 (aD (vJ (i:=14) (t:=t) rfl).2.1 (aD (aJ (dD (aD (vJ (i:=14) (t:=t) rfl).2.2.1 rfl) (by rw[bA];simp)) (vJ (i:=14) (t:=t) rfl).2.2.2 (z:=.tup ((tr t).2.2.map (sy N))) ?_) rfl))) (by rw[bA];simp),cG ..⟩;show(if ϒ ([sy N t.2.2.1].length+(t.2.2.2.map (sy N)).length<=lim) then δ (ν ([sy N t.2.2.1]++t.2.2.2.map (sy N))) else .bad)=_;have:=hm t ht;rw[aE,bA,bg (by simp;lia)];rfl
 .exact bN (λt=>cG N (tr t)) T
theorem aEw(cs:aa ai){n m:af}{M:aa Rw}{T:aa Tk}(G:Mat m M T (M++T.map tr))(hne:prT T M≠[])(hn:n+100*(M.length*T.length)<=3900):∃(R:aa Ru)(n':af),(R.map pq).Perm (prT T M)/\(∀u∈R,Good M T (M++T.map tr) u)/\R.length<=100/\n'<=n+100*(M.length*T.length)+1/\ch1 lZ (dk cs n) [.lst (M.map (rwD N)),.lst (T.map (tkD N)),.lst ((ay 26).map (sy N))]=.ok (.lst (R.map (ruD N)),dk cs n'):=by
 have tl:=G.tl;have ml:=G.ml;obtain⟨R,n',y,x,a,b,c,d,e,p1,p2,p3,p6,p4⟩:=aBy hN hd (cs:=cs) G (i:=.uD) T (λ_ h=>h) n [] .uD .uD .uD .uD .uD .uD .uD 0x1 (by simp;lia);rw[gN] at p4;have rl:0<R.length:=by
  cases R with
  |nil=>exact aT p1.symm hne
  |cons _ _=>simp
 obtain⟨cell,q1⟩:=j8 cs n' 0x1;obtain⟨at_,a1,a2⟩:∃k:af,cell % (R.length:ai)=k/\(k:ai)<R.length:=by
  have h1:0<=cell % (R.length:ai):=lh _ 0x1;have h2:cell % (R.length:ai)<R.length:=nn _ 0x1;exact⟨(cell % (R.length:ai)).toNat,by lia,by lia⟩
 have pm:(R.drop at_++R.take at_).Perm R:=by
  have:=Bk (l₁:=R.drop at_) (l₂:=R.take at_);rwa [nu] at this
 refine⟨R.drop at_++R.take at_,n'+1,?_,λu hu=>p2 u (pm.mem_iff.mp hu),by rw[pm.length_eq];lia,by lia,N6 λz=>GC (k:=1) (ρ:=rst (.cel z (dk cs (n'+1))) N M T (M++T.map tr) R y x a b c d e (.int at_)) ?_⟩
 .rw[<-p1];exact pm.map _
 have s1:nJ 2 (tg1 6) (nJ 1 (tg1 7) ri) (rst (.cel z (dk cs n)) N M T (M++T.map tr) [] .uD .uD .uD .uD .uD .uD .uD .uD)=.ok (.nx (rst (.cel z (dk cs n')) N M T (M++T.map tr) R y x a b c d e .uD)):=oW rfl rfl (p4 z);show wX [.cel z (dk cs n),.lst (M.map (rwD N)),.lst (T.map (tkD N)),.lst ((ay 26).map (sy N)),.uD,.uD,.uD,.uD,.uD,.uD,.uD,.uD,.uD,.uD]=_;have hh:=aEv hN hd (M:=M) (T:=T) 0x1 0x1 (λt ht=>by have:=(G.tg t ht).2.2.2.2;lia) (.cel z (dk cs n)) (.lst ((ay 26).map (sy N))) .uD .uD .uD .uD .uD .uD .uD .uD .uD;generalize hD4:(ξ ((M++T.map tr).map (rwD N)))=D4 at hh;refine aG hh ?_;subst hD4;refine aG (ρ':=rst (.cel z (dk cs n)) N M T (M++T.map tr) [] .uD .uD .uD .uD .uD .uD .uD .uD) (fZ (i:=5) rfl rfl) ?_;refine aG s1 ?_;have hlen:(aX h_ (aC fP aR)) (rst (.cel z (dk cs (n'+1))) N M T (M++T.map tr) R y x a b c d e .uD)=.ok (.int R.length):=cU (aD rfl rfl) (by
  show δ (τ ((R.map (ruD N)).length:ai))=_;rw[aE])
 have s2:lU ah 13 (x2L (aW .mod) (gG bK 1 0 aR) (aX h_ (aC fP aR))) (rst (.cel z (dk cs n')) N M T (M++T.map tr) R y x a b c d e .uD)=.ok (.nx (rst (.cel z (dk cs (n'+1))) N M T (M++T.map tr) R y x a b c d e (.int at_))):=iM (i:=13) (V1 (xY q1 rfl rfl) rfl hlen ((dY _ _ 0x1).trans (by rw[a1])) rfl) rfl;refine aG s2 ?_;refine J0 (aJ (x:=.lst ((R.drop at_).map (ruD N))) (y:=.lst ((R.take at_).map (ruD N))) ?_ ?_ ((HQ _ _ ?_ (bN (cY N) _) (bN (cY N) _)).trans (by rw[bE]))) rfl
 .rw[kG,<-sU];exact nY rfl (fL rfl) rfl (bN (cY N) _)
 .rw[iz,<-QH];exact nY rfl rfl (fL rfl) (bN (cY N) _)
 .rw[aE,aE,i4,eW,bA];lia
end
theorem call_v{n m:af}{f:FS}{ds:aa D}{d:D}(h:f (ds++ck (m-n) D.uD)=.ok (.rt d)):fnS n m f ds=.ok d:=by
 unfold fnS;rw[h];rfl
theorem aGh{a:FT}{ρ:aa D}{b:aq}(h:a ρ=.ok b):aL3 a ρ=.ok (!b):=by
 unfold aL3;rw[h,ε];rfl
def hdV(N:aa Str)(r:Rw):D:=.tup [sy N r.2.1,.tup (r.2.2.map (sy N))]
def hdD(N:aa Str)(F:aa Rw):aa (D×D):=F.map λr=>(sy N r.1,hdV N r)
theorem J4(N:aa Str)(r:Rw):(hdV N r).pure=ag:=by
 show((sy N r.2.1).pure&&((ν (r.2.2.map (sy N))).pure&&ag))=ag;rw[χ,cD];rfl
theorem aJb{H:aa Rw}{st w:aa af}(h:Run H st w):st.length<=w.length:=by
 induction h with
 |nil=>exact br _
 |step hr _ ih=>
  rw[bz] at ih;rw[cz,cz];lia
section
variable {N:aa Str} (hN:N.length=29) (hd:N.Nodup)
include hN hd
theorem BK{α:Type}(nm:α->af)(g:α->D){i:af}(hi:i<29)(v:D):∀(L:aa α),(∀a∈L,nm a<29)->i∉L.map nm->putD (L.map λa=>(sy N (nm a),g a)) (sy N i) v=(L.map λa=>(sy N (nm a),g a))++[(sy N i,v)]
 |[],_,_=>rfl
 |a::L,h1,h2=>by
  rw[bc,bt,ja] at h2;rw[bc,putD,J1 hN hd (h1 a (bq ..)) hi,cg (λg=>h2.1 g.symm),aw 0x2,BK nm g hi v L (λb hb=>h1 b (cr _ hb)) h2.2];rfl
omit hN hd in
theorem aBz{α:Type}(nm:α->af)(g:α->D)(L:aa α)(i:af):wU (L.map λa=>(sy N (nm a),g a)) (sy N i)=ag:=by
 show(ag&&(L.map λa=>(sy N (nm a),g a)).all λp=>isTup p.1==ah)=ag;rw[jt,fT];intro y hy;obtain⟨k,_,rfl⟩:=b9.mp hy;rfl
theorem V4{pr e f g h:D}(e5:D):∀(M L:aa Rw),((L++M).map (·.1)).Nodup->(∀r∈L++M,r.1<29)->L.length+M.length<=1000->∀(a b c:D),∃a' b' c',o_ (tgN [2,3,4]) (aFq 1 dW (fM (aC fY (aC g_ aR)))) (M.map (rwD N)) [pr,.dct (hdD N L),a,b,c,e5,f]=.ok (.nx [pr,.dct (hdD N (L++M)),a',b',c',e5,f])
 |[],L,_,_,_,a,b,c=>⟨a,b,c,by rw[dg];rfl⟩
 |r::M,L,h1,h2,h3,a,b,c=>by
  have hr:r.1<29:=h2 r 0x2;have hn:r.1∉L.map (·.1):=λhm=>by
   rw[bE,bc,eS] at h1;exact h1.2.2 _ hm _ (bq ..) rfl
  have e1:hdD N (L++[r])=putD (hdD N L) (sy N r.1) (hdV N r):=by
   unfold hdD;rw[BK hN hd (λr:Rw=>r.1) (hdV N) hr _ L (λx hx=>h2 x (by simp[hx])) hn,bE];rfl
  rw[cz] at h3;obtain⟨a',b',c',q⟩:=V4 (pr:=pr) (e:=e) (f:=f) (g:=g) (h:=h) e5 M (L++[r]) (by rw[cf];exact h1) (by rw[cf];exact h2) (by rw[bz,eP];lia) (sy N r.1) (sy N r.2.1) (.tup (r.2.2.map (sy N)));refine⟨a',b',c',?_⟩;rw[bc];rw[cf] at q;refine gF (ρ1:=[pr,.dct (hdD N L),sy N r.1,sy N r.2.1,.tup (r.2.2.map (sy N)),e5,f]) rfl (aAc (i:=1) (kvs:=hdD N L) (k:=sy N r.1) (d:=hdV N r) (dD 0x11 (by rw[bA];simp)) rfl rfl (by unfold hdD;rw[aE,bA];lia) (aBz ..) (J4 ..)) ?_;rw[<-e1];exact q
theorem V5{pr:D}:∀(T:aa Tk)(L:aa Rw),((L++T.map tr).map (·.1)).Nodup->(∀r∈L++T.map tr,r.1<29)->L.length+T.length<=1000->(∀t∈T,t.2.2.2.length<=10)->∀(a b c d e:D),∃a' b' c' d' e',o_ (tgN [2,3,5,6]) (aFq 1 dW (fM (aC fY (aC (b2 nD (fM (aC fP aR)) eF) aR)))) (T.map (tkD N)) [pr,.dct (hdD N L),a,b,c,d,e]=.ok (.nx [pr,.dct (hdD N (L++T.map tr)),a',b',c',d',e'])
 |[],L,_,_,_,_,a,b,c,d,e=>⟨a,b,c,d,e,by rw[show L++cw tr []=L from dg L];rfl⟩
 |t::T,L,h1,h2,h3,h4,a,b,c,d,e=>by
  have hr:(tr t).1<29:=h2 (tr t) 0x2;have hn:(tr t).1∉L.map (·.1):=λhm=>by
   rw[bc,bE,bc,eS] at h1;exact h1.2.2 _ hm _ (bq ..) rfl
  have e1:hdD N (L++[tr t])=putD (hdD N L) (sy N (tr t).1) (hdV N (tr t)):=by
   unfold hdD;rw[BK hN hd (λr:Rw=>r.1) (hdV N) hr _ L (λx hx=>h2 x (fN _ hx)) hn,bE];rfl
  rw[cz] at h3;obtain⟨a',b',c',d',e',q⟩:=V5 (pr:=pr) T (L++[tr t]) (by rw[cf];exact h1) (by rw[cf];exact h2) (by rw[bz,eP];lia) (λx hx=>h4 x (cr _ hx)) (sy N t.1) (sy N t.2.1) c (sy N t.2.2.1) (.tup (t.2.2.2.map (sy N)));refine⟨a',b',c',d',e',?_⟩;rw[bc];rw[cf] at q;have hl:=h4 t (bq ..);have had:nD (.tup [sy N t.2.2.1]) (.tup (t.2.2.2.map (sy N)))=.ok (.tup ((tr t).2.2.map (sy N))):=by
   show(if ϒ ([sy N t.2.2.1].length+(t.2.2.2.map (sy N)).length<=lim) then δ (ν ([sy N t.2.2.1]++t.2.2.2.map (sy N))) else .bad)=_;rw[aE,bA,bg (by simp;lia)];rfl
  refine gF (ρ1:=[pr,.dct (hdD N L),sy N t.1,sy N t.2.1,c,sy N t.2.2.1,.tup (t.2.2.2.map (sy N))]) rfl (aAc (i:=1) (kvs:=hdD N L) (k:=sy N (tr t).1) (d:=hdV N (tr t)) (dD (aD rfl (aD (aJ (dD (aD rfl rfl) (by rw[bA];simp)) rfl had) rfl)) (by rw[bA];simp)) rfl rfl (by unfold hdD;rw[aE,bA];lia) (aBz ..) (J4 ..)) ?_;rw[<-e1];exact q
structure Hds(F:aa Rw):Prop where
 nd:(F.map (·.1)).Nodup
 lt:∀r∈F,r.1<29/\r.2.1<29/\(∀i∈r.2.2,i<29)/\r.2.2.length<=10
 ln:F.length<=100
theorem aEx{M:aa Rw}{T:aa Tk}(F:Hds (M++T.map tr)){P0 P3:D}:sJ [.tup [P0,.tup (M.map (rwD N)),.tup (T.map (tkD N)),P3]]=.ok (.dct (hdD N (M++T.map tr))):=by
 have hl:=F.ln;rw[bz,aE] at hl;obtain⟨a,b,c,q1⟩:=V4 hN hd (pr:=.tup [P0,.tup (M.map (rwD N)),.tup (T.map (tkD N)),P3]) (e:=.uD) (f:=.uD) (g:=.uD) (h:=.uD) .uD M [] (by have:=F.nd;rw[bE,eS] at this;exact this.1) (λr hr=>(F.lt r (fN _ hr)).1) (by simp;lia) .uD .uD .uD;obtain⟨a2,b2',c2,d2,e2,q2⟩:=V5 hN hd (pr:=.tup [P0,.tup (M.map (rwD N)),.tup (T.map (tkD N)),P3]) T M F.nd (λr hr=>(F.lt r hr).1) 0x1 (λt ht=>by have:=(F.lt (tr t) (dS _ (eg ht))).2.2.2;have e:(tr t).2.2.length=t.2.2.2.length+1:=rfl;lia) a b c .uD .uD;refine call_v ?_;refine aG (ρ':=[.tup [P0,.tup (M.map (rwD N)),.tup (T.map (tkD N)),P3],.dct [],.uD,.uD,.uD,.uD,.uD]) (fZ (i:=1) rfl rfl) ?_;refine aG (lH ((fV 0x12).trans (by rw[bN (cG N)];rfl)) q1) ?_;exact aG (lH ((fV 0x12).trans (by rw[bN (d_ N)];rfl)) q2) rfl
theorem QJ{F:aa Rw}(hF:Hds F){r:Rw}(hr:r∈F):getD (.dct (hdD N F)) (sy N r.1)=.ok (hdV N r):=by
 show(if ag then π (dB (hdD N F) (sy N r.1)) else .bad)=_;unfold hdD;rw[ar rfl,J2 hN hd (λr:Rw=>r.1) (hdV N) F hF.nd (λa ha=>(hF.lt a ha).1) r hr];rfl
end
noncomputable abbrev Er:=af×af
noncomputable def cls:af->Str
 |1=>"NoName"
 |2=>"BadKind"
 |_=>"Twice"
def erX{α:Type}(N:aa Str)(e:Er):Res α:=.err (cls e.1) [.exc (cls e.1) [("word",N.getD e.2 "")]]
structure Nm(N:aa Str):Prop where
 len:N.length=29
 nd:N.Nodup
 e26:N.getD 26 ""="copy"
 e27:N.getD 27 ""="drop"
 e28:N.getD 28 ""=""
theorem aC0{f g:FS}{ρ:aa D}{c:Str}{as:aa D}(h:f ρ=.err c as):a_ f g ρ=.err c as:=by
 unfold a_;rw[h];rfl
theorem mG{f g:FS}{ρ:aa D}{N:aa Str}{e:Er}(h:f ρ=erX N e):a_ f g ρ=erX N e:=aC0 h
theorem aGi{n m:af}{f:FS}{ds ρ':aa D}(h:f (ds++ck (m-n) D.uD)=.ok (.nx ρ')):fnS n m f ds=.ok .non:=by
 unfold fnS;rw[h];rfl
theorem aNp{n m:af}{f:FS}{ds:aa D}{c:Str}{as:aa D}(h:f (ds++ck (m-n) D.uD)=.err c as):fnS n m f ds=.err c as:=by
 unfold fnS;rw[h];rfl
theorem lN{n m:af}{f:FS}{ds:aa D}{N:aa Str}{e:Er}(h:f (ds++ck (m-n) D.uD)=erX N e):fnS n m f ds=erX N e:=aNp h
theorem aEy{t:D->aa D->Res (aa D)}{body:FS}{x:D}{xs ρ ρ1:aa D}{c:Str}{as:aa D}(h1:t x ρ=.ok ρ1)(h2:body ρ1=.err c as):o_ t body (x::xs) ρ=.err c as:=by
 rw[o_,h1,ε,h2];rfl
theorem aC1{f:FE}{ρ:aa D}{d:D}(h:f ρ=.ok d):oG f ρ=.ok (.nx ρ):=by
 unfold oG;rw[h];rfl
theorem J5{f:FE}{ρ:aa D}{N:aa Str}{e:Er}(h:f ρ=erX N e):oG f ρ=erX N e:=by
 unfold oG;rw[h];rfl
theorem vK{f:aa D->Res D}{a:FA}{ρ ds:aa D}{r:Res D}(h:a ρ=.ok ds)(h2:f ds=r):aX f a ρ=r:=by
 unfold aX;rw[h];exact h2
theorem jM{c f w:Str}{fe:FE}{ρ:aa D}(h:fe ρ=.ok (.str w)):iC c [f] (noE (aC fe aR)) ρ=.err c [.exc c [(f,w)]]:=by
 unfold iC;have e:aC fe aR ρ=.ok [.str w]:=aD h rfl;rw[cW e,ε];rfl
theorem QK{c:FT}{f g:FS}{ρ:aa D}{r:Res Fl}(h:c ρ=.ok ag)(h2:f ρ=r):sIf (noE c) f g ρ=r:=by
 unfold sIf;rw[cW h];exact h2
theorem J6{c:FT}{f g:FS}{ρ:aa D}{r:Res Fl}(h:c ρ=.ok ah)(h2:g ρ=r):sIf (noE c) f g ρ=r:=by
 unfold sIf;rw[cW h];exact h2
noncomputable def c7{α σ:Type}(f:σ->α->fy Er σ):σ->aa α->fy Er σ
 |s,[]=>.ok s
 |s,a::l=>match f s a with
  |.ok s'=>c7 f s' l
  |.error e=>.error e
theorem xH{α σ J:Type}{N:aa Str}{t:D->aa D->Res (aa D)}{body:FS}(d:α->D)(st:σ->J->aa D)(f:σ->α->fy Er σ)(P:σ->aa α->Prop)(hP:∀s a l s',P s (a::l)->f s a=.ok s'->P s' l)
 (h:∀s a l j,P s (a::l)->∃ρ1,t (d a) (st s j)=.ok ρ1/\∀r,f s a=r->match r with
   |.ok s'=>∃j',body ρ1=.ok (.nx (st s' j'))
   |.error e=>body ρ1=erX N e)(X:aa D) :
  ∀(l:aa α)(s:σ)(j:J),P s l->match c7 f s l with
   |.ok s'=>∃j',o_ t body (l.map d++X) (st s j)=o_ t body X (st s' j')
   |.error e=>o_ t body (l.map d++X) (st s j)=erX N e
 |[],s,j,_=>⟨j,rfl⟩
 |a::l,s,j,hp=>by
  obtain⟨ρ1,h1,h2⟩:=h s a l j hp;rw[c7,bc,gz];cases hf:f s a with
  |error e=>exact aEy h1 (h2 _ hf)
  |ok s'=>
   obtain⟨j',h3⟩:=h2 _ hf;have ih:=xH d st f P hP h X l s' j' (hP _ _ _ _ hp hf);dsimp only;cases hq:c7 f s' l with
   |error e=>rw[hq] at ih;exact gF h1 h3 ih
   |ok s2=>
    rw[hq] at ih;obtain⟨j2,e⟩:=ih;exact⟨j2,gF h1 h3 e⟩
def sn(N:aa Str)(S:aa af):aa (D×D):=S.map λi=>(sy N i,.bl ag)
theorem aNq(N:aa Str)(S:aa af):inner (.dct (sn N S))=ag:=by
 show θ ((sn N S).map (·.2))=ag;unfold sn;rw[cv,bN (λ_=>rfl)]
noncomputable def xZ(S:aa af)(x:af):fy Er (aa af):=if x∈S then .error (3,x) else .ok (S++[x])
noncomputable def aC2(K:aa af)(_:iw)(x:af):fy Er iw:=if x∈K then .ok () else .error (1,x)
def mkE(K S:aa af)(r:Rw):fy Er (aa af):=match xZ S r.1 with
 |.error e=>.error e
 |.ok S'=>(match c7 (aC2 K) () (r.2.1::r.2.2) with
  |.error e=>.error e
  |.ok _=>.ok S')
def tkE(K S:aa af)(t:Tk):fy Er (aa af):=mkE K S (t.1,t.2.1,t.2.2.1::t.2.2.2)
section
variable {N:aa Str} (H:Nm N)
include H
theorem aC3{α:Type}(nm:α->af)(g:α->D){i:af}(hi:i<29):∀(L:aa α),(∀a∈L,nm a<29)->(dB (L.map λa=>(sy N (nm a),g a)) (sy N i)).isSome=ϒ (i∈L.map nm)
 |[],_=>rfl
 |a::L,h1=>by
  rw[bc,dB,J1 H.len H.nd (h1 a (bq ..)) hi,bc];by_cases e:nm a=i
  .subst e;rw[bg rfl,ar rfl,bg (bq ..)];rfl
  .rw[cg e,aw 0x2,aC3 nm g hi L (λb hb=>h1 b (cr _ hb))]
   congr 1
   rw[bt,eq_iff_iff];exact⟨.inr,λz=>z.resolve_left λy=>e y.symm⟩
theorem J7{S:aa af}(hS:∀i∈S,i<29)(hl:S.length<=1000){x:af}(hx:x<29){j:af}{f:FE}{ρ:aa D}(hf:f ρ=.ok (sy N x))(hρ:ρ.getD j .uD=.dct (sn N S)) :
  ∀r,xZ S x=r->match r with
   |.ok S'=>sY "Twice" "word" j (noE f) ρ=.ok (.nx (ρ.set j (.dct (sn N S'))))
   |.error e=>sY "Twice" "word" j (noE f) ρ=erX N e:=by
 have hk:=aC3 H (λi=>i) (λ_=>υ ag) hx S hS;rw[Br] at hk;have e0:sY "Twice" "word" j (noE f) ρ=aK1 "Twice" "word" j ρ (sy N x):=by unfold sY;rw[cW hf];rfl
 have hc:(ϒ ((sn N S).length<lim)&&wU (sn N S) (sy N x))=ag:=by
  rw[show wU (sn N S) (sy N x)=ag from aBz ..,bg (by unfold sn;rw[aE,bA];lia)];rfl
 intro r hr;subst hr;unfold xZ;by_cases hm:x∈S
 .rw[ar hm];rw[bg hm,n4] at hk;obtain⟨v,hv⟩:=hk;show sY _ _ _ _ _=erX N (3,x);rw[e0];unfold aK1;rw[hρ];dsimp only;rw[ar hc,show dB (sn N S) (sy N x)=ae v from hv];rfl
 .rw[aw hm];rw[cg hm] at hk;show sY _ _ _ _ _=_;rw[e0];unfold aK1;rw[hρ];dsimp only;rw[ar hc,show dB (sn N S) (sy N x)=aj from by
   unfold sn;cases hq:dB (S.map λi=>(sy N i,υ ag)) (sy N x) with
   |none=>rfl
   |some v=>rw[hq] at hk;cases hk]
  dsimp only;have e:putD (sn N S) (sy N x) (.bl ag)=sn N (S++[x]):=by
   unfold sn;rw[BK H.len H.nd (λi:af=>i) (λ_=>.bl ag) hx (.bl ag) S hS (by rw[Br];exact hm),bE];rfl
  rw[e]
theorem aEz{K l:aa af}(hK:∀i∈K,i<29)(hl:∀i∈l,i<29){P1 P2 P3:D}:match c7 (aC2 K) () l with
  |.ok _=>e_ [.tup [tw N K,P1,P2,P3],tw N l]=.ok .non
  |.error e=>e_ [.tup [tw N K,P1,P2,P3],tw N l]=erX N e:=by
 have q:=xH (N:=N) (t:=noT (tg1 2)) (body:=sIf (noE (bTB (b2 (cX .notin) dW (b2 getD fX eU)))) (iC "NoName" ["word"] (noE (aC dW aR))) kO) (sy N) (λ(_:iw)(x:D)=>[.tup [tw N K,P1,P2,P3],tw N l,x]) (aC2 K) (λ_ l=>∀i∈l,i<29) (λs a l s' h _ i hi=>h i (cr _ hi))
  (λs a l2 j hp=>⟨[.tup [tw N K,P1,P2,P3],tw N l,sy N a],rfl,λr hr=>by
   have hc:(bTB (b2 (cX .notin) dW (b2 getD fX eU))) [.tup [tw N K,P1,P2,P3],tw N l,sy N a]=.ok (!ϒ (a∈K)):=dO (aJ rfl (aJ rfl rfl (z:=tw N K) rfl) (V3 H.len H.nd (hp a (bq ..)) hK));subst hr;unfold aC2;by_cases hm:a∈K
   .rw[ar hm];exact⟨sy N a,J6 (hc.trans (by rw[bg hm];rfl)) rfl⟩
   .rw[aw hm];exact QK (hc.trans (by rw[cg hm];rfl)) (jM rfl)⟩) [] l () .uD hl
 rw[dg] at q;cases hf:c7 (aC2 K) () l with
 |ok u=>
  rw[hf] at q;obtain⟨x',q⟩:=q;exact aGi (f:=nU) (ρ':=[.tup [tw N K,P1,P2,P3],tw N l,x']) (oW (xs:=l.map (sy N)) rfl rfl q)
 |error e=>
  rw[hf] at q;exact lN (f:=nU) (oW (xs:=l.map (sy N)) rfl rfl q)
end
def stage1(K:aa af)(M:aa Rw)(T:aa Tk):fy Er (aa af):=match c7 xZ [26,27] K with
 |.error e=>.error e
 |.ok S1=>(match c7 (mkE K) S1 M with
  |.error e=>.error e
  |.ok S2=>c7 (tkE K) S2 T)
def prD(N:aa Str)(K:aa af)(M:aa Rw)(T:aa Tk)(R:aa Ru):D:=.tup [tw N K,.tup (M.map (rwD N)),.tup (T.map (tkD N)),.tup (R.map (ruD N))]
theorem x_(h:a.length+b.length<=1000):nD (.tup a) (.tup b)=.ok (.tup (a++b)):=by
 show(if ϒ (a.length+b.length<=lim) then δ (ν (a++b)) else .bad)=_;rw[bA,bg 0x1];rfl
structure Sm(K:aa af)(M:aa Rw)(T:aa Tk):Prop where
 k:∀i∈K,i<29
 m:∀r∈M,r.1<29/\r.2.1<29/\(∀i∈r.2.2,i<29)/\r.2.2.length<=10
 t:∀t∈T,t.1<29/\t.2.1<29/\t.2.2.1<29/\(∀i∈t.2.2.2,i<29)/\t.2.2.2.length<=10
 kl:K.length<=100
 ml:M.length<=100
 tl:T.length<=100
theorem wN{S:aa af}(h:xZ S x=.ok S'):x∉S/\S'=S++[x]:=by
 unfold xZ at h;split at h
 .cases h
 .rename_i g;cases h;exact⟨g,rfl⟩
theorem aC4{K S:aa af}(h:mkE K S r=.ok S'):r.1∉S/\S'=S++[r.1]:=by
 unfold mkE at h;split at h
 .cases h
 .rename_i g;split at h
  .cases h
  .cases h;exact wN g
section
variable {N:aa Str} (H:Nm N) {K:aa af} {M:aa Rw} {T:aa Tk} (G:Sm K M T)
include H G
theorem V6{S:aa af}(hS:∀i∈S,i<29)(hl:S.length<=1000)(hx:x<29)(hy:∀i∈y::ys,i<29){R:aa Ru}{ρ ρ':aa D}{f:FE}(h0:cV 0 ρ'=.ok (prD N K M T R))(h2:cV 2 ρ=.ok (sy N x))(h1:ρ.getD 1 .uD=.dct (sn N S))(hρ:ρ'=ρ.set 1 (.dct (sn N (S++[x]))))(hf:f ρ'=.ok (tw N (y::ys))) :
  ∀r,mkE K S (x,y,ys)=r->match r with
   |.ok S'=>a_ (sY "Twice" "word" 1 (noE dW)) (oG (aX (mW 2 e_) (noE (aC fX (aC f aR))))) ρ=.ok (.nx (ρ.set 1 (.dct (sn N S'))))
   |.error e=>a_ (sY "Twice" "word" 1 (noE dW)) (oG (aX (mW 2 e_) (noE (aC fX (aC f aR))))) ρ=erX N e:=by
 intro r hr;have q:=J7 H hS hl hx h2 h1 _ rfl;subst hr;unfold mkE;dsimp only;cases hs:xZ S x with
 |error e=>
  rw[hs] at q;exact mG q
 |ok S'=>
  rw[hs] at q;dsimp only at q ⊢;obtain⟨_,e1⟩:=wN hs;subst e1;rw[<-hρ] at q;have k:=aEz H G.k hy (P1:=.tup (M.map (rwD N))) (P2:=.tup (T.map (tkD N))) (P3:=.tup (R.map (ruD N)));have ha:noE (aC fX (aC f aR)) ρ'=.ok [prD N K M T R,tw N (y::ys)]:=cW (aD h0 (aD hf rfl));cases hk:c7 (aC2 K) () (y::ys) with
  |ok u=>
   rw[hk] at k;show a_ _ _ ρ=.ok (.nx (ρ.set 1 (.dct (sn N (S++[x])))));rw[<-hρ];exact aG q (aC1 (vK ha ((fH rfl).trans k)))
  |error e=>
   rw[hk] at k;exact(aG q (J5 (vK ha ((fH rfl).trans k))))
abbrev sst(N:aa Str)(P:D)(S:aa af)(j:D×D×D×D×D):aa D:=[P,.dct (sn N S),j.1,j.2.1,j.2.2.1,j.2.2.2.1,j.2.2.2.2]
theorem QL{R:aa Ru}:match stage1 K M T with
  |.error e=>gK [prD N K M T R]=erX N e
  |.ok S=>∀e,jC [prD N K M T R,.dct (sn N S)]=erX N e->gK [prD N K M T R]=erX N e:=by
 have q0:∀j,sst N (prD N K M T R) [26,27] j=sst N (prD N K M T R) [26,27] j:=λ_=>rfl
 have hlen:∀{S:aa af}{x:af},(∀i∈S,i<29)->x<29->∀i∈S++[x],i<29:=λh hx i hi=>by
  rcases bo.mp hi with g|g
  .exact h i g
  .rw[fw] at g;lia
 have l1:=xH (N:=N) (t:=noT (tg1 2)) (body:=sb1) (sy N) (sst N (prD N K M T R)) xZ (λS l=>(∀i∈S,i<29)/\S.length+l.length<=500/\∀i∈l,i<29)
  (λs a l s' h hf=>by
   obtain⟨_,e⟩:=wN hf;subst e;have ha:=h.2.2 a (bq ..);have:=h.2.1;exact⟨hlen h.1 ha,by simp at this ⊢;lia,λi hi=>h.2.2 i (cr _ hi)⟩)
  (λS a l j h=>⟨sst N (prD N K M T R) S (sy N a,j.2),cW rfl,λr hr=>by
   have q:=J7 H h.1 (by have:=h.2.1;lia) (h.2.2 a (bq ..)) (j:=1) (f:=cV 2) (ρ:=sst N (prD N K M T R) S (sy N a,j.2)) rfl rfl r hr;cases r with
   |ok S'=>exact⟨(sy N a,j.2),q⟩
   |error e=>exact q⟩) [] K [26,27] (.uD,.uD,.uD,.uD,.uD) ⟨by decide,by have:=G.kl;simp;lia,G.k⟩
 have l2:=λS1 (j:D×D×D×D×D) h=>xH (N:=N) (t:=noT (tgN [2,3,4])) (body:=sb2) (rwD N) (sst N (prD N K M T R)) (mkE K) (λS l=>(∀i∈S,i<29)/\S.length+l.length<=500/\∀r∈l,r.1<29/\r.2.1<29/\(∀i∈r.2.2,i<29)/\r.2.2.length<=10)
  (λs a l s' h hf=>by
   obtain⟨_,e⟩:=aC4 hf;subst e;have ha:=(h.2.2 a (bq ..)).1;have:=h.2.1;exact⟨hlen h.1 ha,by simp at this ⊢;lia,λi hi=>h.2.2 i (cr _ hi)⟩)
  (λS a l j h=>⟨sst N (prD N K M T R) S (sy N a.1,sy N a.2.1,.tup (a.2.2.map (sy N)),j.2.2.2),cW rfl,λr hr=>by
   obtain⟨a1,a2,a3,a4⟩:=h.2.2 a (bq ..);have q:=V6 H G h.1 (by have:=h.2.1;lia) a1 (y:=a.2.1) (ys:=a.2.2) (λi hi=>by rcases bt.mp hi with g|g;(· subst g;exact a2);exact a3 i g) (R:=R) (ρ:=sst N (prD N K M T R) S (sy N a.1,sy N a.2.1,.tup (a.2.2.map (sy N)),j.2.2.2)) (f:=(b2 nD (fM (aC fY aR)) g_)) (ρ':=sst N (prD N K M T R) (S++[a.1]) (sy N a.1,sy N a.2.1,.tup (a.2.2.map (sy N)),j.2.2.2)) rfl rfl rfl rfl (aJ (dD (aD rfl rfl) (by rw[bA];simp)) rfl (x_ (by simp;lia))) r hr;cases r with
   |ok S'=>exact⟨_,q⟩
   |error e=>exact q⟩) [] M S1 j h
 have l3:=λS2 (j:D×D×D×D×D) h=>xH (N:=N) (t:=noT (tgN [2,3,5,6])) (body:=sb3) (tkD N) (sst N (prD N K M T R)) (tkE K) (λS l=>(∀i∈S,i<29)/\S.length+l.length<=500/\∀t∈l,t.1<29/\t.2.1<29/\t.2.2.1<29/\(∀i∈t.2.2.2,i<29)/\t.2.2.2.length<=10)
  (λs a l s' h hf=>by
   obtain⟨_,e⟩:=aC4 hf;subst e;have ha:=(h.2.2 a (bq ..)).1;have:=h.2.1;exact⟨hlen h.1 ha,by simp at this ⊢;lia,λi hi=>h.2.2 i (cr _ hi)⟩)
  (λS a l j h=>⟨sst N (prD N K M T R) S (sy N a.1,sy N a.2.1,j.2.2.1,sy N a.2.2.1,.tup (a.2.2.2.map (sy N))),cW rfl,λr hr=>by
   obtain⟨a1,a2,a3,a4,a5⟩:=h.2.2 a (bq ..);have q:=V6 H G h.1 (by have:=h.2.1;lia) a1 (y:=a.2.1) (ys:=a.2.2.1::a.2.2.2) (λi hi=>by
    rcases bt.mp hi with g|g
    .subst g;exact a2
    .rcases bt.mp g with g|g
     .subst g;exact a3
     .exact a4 i g) (R:=R) (ρ:=sst N (prD N K M T R) S (sy N a.1,sy N a.2.1,j.2.2.1,sy N a.2.2.1,.tup (a.2.2.2.map (sy N)))) (f:=(b2 nD (fM (aC fY (aC fP aR))) eF)) (ρ':=sst N (prD N K M T R) (S++[a.1]) (sy N a.1,sy N a.2.1,j.2.2.1,sy N a.2.2.1,.tup (a.2.2.2.map (sy N)))) rfl rfl rfl rfl (aJ (dD 0x11 (by rw[bA];simp)) rfl (x_ (by simp;lia))) r hr
   cases r with
   |ok S'=>exact⟨_,q⟩
   |error e=>exact q⟩) [] T S2 j h
 have inv:∀{α:Type}(f:aa af->α->fy Er (aa af))(nm:α->af),(∀S a S',f S a=.ok S'->S'=S++[nm a])->∀(l:aa α)(S S':aa af),c7 f S l=.ok S'->S'=S++l.map nm:=by
  intro α f nm hf l;induction l with
  |nil=>intro S S' h;rw[c7] at h;cases h;simp
  |cons a l ih=>
   intro S S' h;rw[c7] at h;split at h
   .rename_i s' g;rw[hf _ _ _ g] at h;rw[ih _ _ h,cf];rfl
   .cases h
 have i0:(noE (b7 ag 1 (aBe (bC (.str "copy")) (bC (.bl ag)) (bC (.str "drop")) (bC (.bl ag))) ag)) [prD N K M T R,.uD,.uD,.uD,.uD,.uD,.uD]=.ok (.nx (sst N (prD N K M T R) [26,27] (.uD,.uD,.uD,.uD,.uD))):=by
  have e:sn N [26,27]=[(.str "copy",.bl ag),(.str "drop",.bl ag)]:=by
   unfold sn;show[(ι (N.getD 26 ""),υ ag),(ι (N.getD 27 ""),υ ag)]=_;rw[H.e26,H.e27]
  unfold sst;rw[e];exact cW (fZ (i:=1) rfl rfl)
 have f1:∀S j,(noE (bT (b2 getD fX eU) ah)) (sst N (prD N K M T R) S j)=.ok (K.map (sy N),ag):=λS j=>cW ((fV (aJ rfl rfl (z:=.tup (K.map (sy N))) rfl)).trans (by rw[cD];rfl))
 have f2:∀S j,(noE (bT (b2 getD fX cO) ah)) (sst N (prD N K M T R) S j)=.ok (M.map (rwD N),ag):=λS j=>cW ((fV 0x12).trans (by rw[bN (cG N)];rfl))
 have f3:∀S j,(noE (bT (b2 getD fX fQ) ah)) (sst N (prD N K M T R) S j)=.ok (T.map (tkD N),ag):=λS j=>cW ((fV 0x12).trans (by rw[bN (d_ N)];rfl))
 simp only[dg] at l1 l2 l3;unfold stage1;cases h1:c7 xZ [26,27] K with
 |error e=>
  rw[h1] at l1;refine lN ?_;unfold zX;exact aG i0 (mG (lH (f1 _ _) l1))
 |ok S1=>
  rw[h1] at l1;obtain⟨j1,l1⟩:=l1;have e1:=inv xZ id (λS a S' h=>(wN h).2) K _ _ h1;have p1:∀i∈S1,i<29:=λi hi=>by
   rw[e1,Aa] at hi;rcases bo.mp hi with g|g
   .simp at g;lia
   .exact G.k i g
  have n1:S1.length<=102:=by rw[e1];have:=G.kl;simp;lia
  have l2:=l2 S1 j1 ⟨p1,by have:=G.ml;lia,G.m⟩;dsimp only;cases h2:c7 (mkE K) S1 M with
  |error e=>
   rw[h2] at l2;refine lN ?_;unfold zX;exact aG i0 (aG (lH (f1 _ _) l1) (mG (lH (f2 _ _) l2)))
  |ok S2=>
   rw[h2] at l2;obtain⟨j2,l2⟩:=l2;have e2:=inv (mkE K) (·.1) (λS a S' h=>(aC4 h).2) M _ _ h2;have p2:∀i∈S2,i<29:=λi hi=>by
    rw[e2] at hi;rcases bo.mp hi with g|g
    .exact p1 i g
    .obtain⟨r,hr,rfl⟩:=b9.mp g;exact(G.m r hr).1
   have n2:S2.length<=202:=by rw[e2];have:=G.ml;simp;lia
   have l3:=l3 S2 j2 ⟨p2,by have:=G.tl;lia,G.t⟩;dsimp only;cases h3:c7 (tkE K) S2 T with
   |error e=>
    rw[h3] at l3;refine lN ?_;unfold zX;exact aG i0 (aG (lH (f1 _ _) l1) (aG (lH (f2 _ _) l2) (mG (lH (f3 _ _) l3))))
   |ok S3=>
    rw[h3] at l3;obtain⟨j3,l3⟩:=l3;intro e he;refine lN ?_;unfold zX;refine aG i0 (aG (lH (f1 _ _) l1) (aG (lH (f2 _ _) l2) (aG (lH (f3 _ _) l3) (mG (J5 (vK (cW 0x11) ((fH rfl).trans he)))))))
end
noncomputable def uL(H:aa Rw)(st:aa af)(w:af):fy Er (aa af):=match st with
 |[]=>.error (2,w)
 |k::rest=>(match H.find? λr=>ϒ (r.1=w) with
  |none=>.error (1,w)
  |some r=>if r.2.1=k then .ok (r.2.2++rest) else .error (2,w))
def vL(H:aa Rw)(k:af)(W:aa af):fy Er iw:=match c7 (uL H) [k] W with
 |.error e=>.error e
 |.ok []=>.ok ()
 |.ok (_::_)=>.error (2,28)
theorem S9{H:aa Rw}(hn:(H.map (·.1)).Nodup)(hr:r∈H):(H.find? λx=>ϒ (x.1=r.1))=ae r:=by
 induction H with
 |nil=>cases hr
 |cons a H ih=>
  rw[bc,eT] at hn;rw[i5];rcases bt.mp hr with g|g
  .subst g;rw[bg rfl]
  .have:¬a.1=r.1:=λz=>hn.1 (z▸eg g)
   rw[cg this];exact ih hn.2 g
theorem J8(hn:(H.map (·.1)).Nodup):∀(A:aa af){B st:aa af},Run H st (A++B)->∃st',c7 (uL H) st A=.ok st'/\Run H st' B
 |[],B,st,h=>⟨st,rfl,h⟩
 |w::A,B,st,h=>by
  rw[gz] at h;generalize hq:w::(A++B)=L at h;cases h with
  |nil=>cases hq
  |@step r rest W hr h2=>
   cases hq;obtain⟨st',h3,h4⟩:=J8 hn A h2;refine⟨st',?_,h4⟩;rw[c7];have e:uL H (r.2.1::rest) r.1=.ok (r.2.2++rest):=by
    show(match H.find? λx=>ϒ (x.1=r.1) with|none=>lj (1,r.1)|some x=>if x.2.1=r.2.1 then .ok (x.2.2++rest) else .error (2,r.1))=_;rw[S9 hn hr];dsimp only;rw[ar rfl]
   rw[e];exact h3
def kdD(N:aa Str)(K:aa Rw):aa (D×D):=K.map λr=>(sy N r.1,sy N r.2.1)
structure Kns(F K:aa Rw):Prop where
 hF:Hds F
 nd:(K.map (·.1)).Nodup
 lt:∀r∈K,r.1<29/\r.2.1<29/\r.2.2=[]/\r.1∉F.map (·.1)
 ln:K.length<=10
theorem aJc(nm:α->af)(g:α->D)(L:aa α)(w:Str):wU (L.map λa=>(sy N (nm a),g a)) (.str w)=ag:=by
 show(ag&&(L.map λa=>(sy N (nm a),g a)).all λp=>isTup p.1==ah)=ag;rw[jt,fT];intro y hy;obtain⟨k,_,rfl⟩:=b9.mp hy;rfl
theorem BL(L:aa Rw)(g:Rw->D)(w:Str):inX (.str w) (.dct (L.map λr=>(sy N r.1,g r)))=.ok (.bl (dB (L.map λr=>(sy N r.1,g r)) (.str w)).isSome):=by
 show(if wU (L.map λr=>(sy N r.1,g r)) (.str w) then δ (υ (dB (L.map λr=>(sy N r.1,g r)) (.str w)).isSome) else .bad)=_;rw[aJc];rfl
section
variable {N:aa Str} (hN:N.length=29) (hd:N.Nodup)
include hN hd
theorem J9(nm:α->af)(g:α->D)(hi:i<29):∀(L:aa α),(∀a∈L,nm a<29)->i∉L.map nm->dB (L.map λa=>(sy N (nm a),g a)) (sy N i)=aj
 |[],_,_=>rfl
 |a::L,h1,h2=>by
  rw[bc,bt,ja] at h2;rw[bc,dB,J1 hN hd (h1 a (bq ..)) hi,cg (λg=>h2.1 g.symm),aw 0x2];exact J9 nm g hi L (λb hb=>h1 b (cr _ hb)) h2.2
theorem aF0(W:Kns F K)(hr:r∈K++F):oX [.dct (hdD N F),sy N r.1,.dct (kdD N K)]=.ok (hdV N r):=by
 have hF:=W.hF;refine call_v ?_;rcases bo.mp hr with hk|hrF
 .obtain⟨o1,o3,hp,o2⟩:=W.lt r hk;have hno:dB (hdD N F) (sy N r.1)=aj:=by
   unfold hdD;exact J9 hN hd (λr:Rw=>r.1) (hdV N) o1 F (λa ha=>(hF.lt a ha).1) o2
  have hyes:dB (kdD N K) (sy N r.1)=ae (sy N r.2.1):=by
   unfold kdD;exact J2 hN hd (λr:Rw=>r.1) (λr=>sy N r.2.1) K W.nd (λa ha=>(W.lt a ha).1) r hk
  have hv:hdV N r=.tup [sy N r.2.1,.tup []]:=by
   unfold hdV;rw[hp];rfl
  rw[hv];refine aG (cW (gW (dO (aJ rfl rfl ((BL F (hdV N) _).trans ?_))) rfl)) (vG (cW (lO (dO (aJ rfl rfl ((BL K (λr=>sy N r.2.1) _).trans ?_))) (uY (dD (aD (aJ rfl rfl ?_) (aD (dD rfl (by rw[bA];simp)) rfl)) (by rw[bA];simp)) rfl))))
  .unfold hdD at hno;show δ (υ (dB _ (sy N r.1)).isSome)=_;rw[hno];rfl
  .unfold kdD at hyes;show δ (υ (dB _ (sy N r.1)).isSome)=_;rw[hyes];rfl
  .show(if ag then π (dB (kdD N K) (sy N r.1)) else .bad)=_;rw[ar rfl,hyes];rfl
 .have hlk:dB (hdD N F) (sy N r.1)=ae (hdV N r):=by
   unfold hdD;exact J2 hN hd (λr:Rw=>r.1) (hdV N) F hF.nd (λa ha=>(hF.lt a ha).1) r hrF
  refine vG (cW (lO (dO (aJ rfl rfl ((BL F (hdV N) _).trans ?_))) (uY (aJ rfl rfl (QJ hN hd hF hrF)) (J4 ..))));unfold hdD at hlk;show δ (υ (dB _ (sy N r.1)).isSome)=_;rw[hlk];rfl
abbrev zs(N:aa Str)(F K:aa Rw)(pa wd:D)(st:aa af)(x y:D):aa D:=[.dct (hdD N F),pa,wd,.dct (kdD N K),.lst (st.reverse.map (sy N)),x,y]
omit hN hd in
theorem aNr:zb (zs N F K pa wd [] (.str w) y)=.err "BadKind" [.exc "BadKind" [("word",w)]]:=
 aC0 (QK (aGh (b:=ah) rfl) (jM rfl))
omit hN hd in
theorem z0{rest:aa af}:zb0 (zs N F K pa wd (k::rest) x y)=.ok (.nx (zs N F K pa wd (k::rest) x y)):=by
 have ht:bTr g_ (zs N F K pa wd (k::rest) x y)=.ok ag:=by
  show aP7 (.lst ((k::rest).reverse.map (sy N)))=_;rw[ik,bE];cases rest.reverse.map (sy N)<;>rfl
 exact J6 (aGh ht) rfl
omit hN hd in
theorem aSf{rest:aa af}:HW 4 (zs N F K pa wd (k::rest) x y)=.ok (sy N k,zs N F K pa wd rest x y):=by
 unfold HW;rw[show(zs N F K pa wd (k::rest) x y).getD 4 .uD=.lst (rest.reverse.map (sy N)++[sy N k]) from by
  show ξ ((k::rest).reverse.map (sy N))=_;rw[ik,bE];rfl]
 dsimp only;rw[bz,eP,xh,eJ (br _),sM,xj];rfl
theorem aC5(W:Kns F K)(hr:r∈K++F):r.1<29/\r.2.1<29/\(∀i∈r.2.2,i<29)/\r.2.2.length<=10:=by
 rcases bo.mp hr with g|g
 .obtain⟨h1,h2,h3,_⟩:=W.lt r g;rw[h3];exact⟨h1,h2,λi hi=>by simp at hi,by simp⟩
 .exact W.hF.lt r g
theorem z1(W:Kns F K)(hr:r∈K++F):zb1 (zs N F K pa wd st (sy N r.1) y)=.ok (.nx (zs N F K pa wd st (sy N r.1) (hdV N r))):=
 bB (cU (cW (aD rfl 0x11)) ((fH rfl).trans (aF0 hN hd W hr)))
theorem z2(W:Kns F K)(hk:k<29){rest:aa af}{r:Rw}(hr:r∈K++F):(noE (xTB (x2R (cX .ne) (bPu (b2 getD eF eU)) (HW 4)))) (zs N F K pa wd (k::rest) (sy N r.1) (hdV N r))=.ok (!ϒ (r.2.1=k),zs N F K pa wd rest (sy N r.1) (hdV N r)):=
 cW (aN9 (aBn (aIw 0x12 rfl) aSf (J3 hN hd (aC5 hN hd W hr).2.1 hk) rfl))
theorem aQ3{F K:aa Rw}(W:Kns F K){pa wd y:D}{rest:aa af}(hl:rest.length<=5000){r:Rw}(hr:r∈K++F):zb (zs N F K pa wd (r.2.1::rest) (sy N r.1) y)=.ok (.nx (zs N F K pa wd (r.2.2++rest) (sy N r.1) (hdV N r))):=by
 obtain⟨l0,l1,l2,l3⟩:=aC5 hN hd W hr;refine aG z0 (aG (z1 hN hd W hr) (aG (ρ':=zs N F K pa wd rest (sy N r.1) (hdV N r)) ?_ (cW ?_)))
 .refine aGe (z2 hN hd W l1 hr) ?_;rw[bg rfl];rfl
 .have hx:=aBx (i:=4) (ρ:=zs N F K pa wd rest (sy N r.1) (hdV N r)) (f:=b1 aGa (b2 getD eF cO)) (xs:=rest.reverse.map (sy N)) (ys:=r.2.2.reverse.map (sy N)) (aJ3 (aJ rfl rfl (z:=.tup (r.2.2.map (sy N))) rfl) (by
   show(if θ (r.2.2.map (sy N))&&ϒ ((r.2.2.map (sy N)).length<=lim) then δ (ξ (r.2.2.map (sy N)).reverse) else .bad)=_;rw[cD,aE,bA,bg 0x1,<-xk];rfl)) rfl (by rw[aE,iL,aE,iL];lia) (cD ..)
  refine hx.trans ?_;have e7:((r.2.2++rest).reverse.map (sy N))=rest.reverse.map (sy N)++r.2.2.reverse.map (sy N):=by rw[xl,bE]
  unfold zs;rw[e7];rfl
theorem aJd(W:Kns F K)(hw:w<29)(h:∀r∈K++F,r.1≠w):oX [.dct (hdD N F),sy N w,.dct (kdD N K)]=erX N (1,w):=by
 have hF:=W.hF;have n1:dB (hdD N F) (sy N w)=aj:=by
  unfold hdD;exact J9 hN hd (λr:Rw=>r.1) (hdV N) hw F (λa ha=>(hF.lt a ha).1) (λhm=>by obtain⟨r,hr,e⟩:=b9.mp hm;exact h r (dS _ hr) e)
 have n2:dB (kdD N K) (sy N w)=aj:=by
  unfold kdD;exact J9 hN hd (λr:Rw=>r.1) (λr=>sy N r.2.1) hw K (λa ha=>(W.lt a ha).1) (λhm=>by obtain⟨r,hr,e⟩:=b9.mp hm;exact h r (fN _ hr) e)
 unfold hdD at n1;unfold kdD at n2;refine lN (aG (cW (gW (dO (aJ rfl rfl ((BL F (hdV N) _).trans ?_))) rfl)) (aG (cW (gW (dO (aJ rfl rfl ((BL K (λr=>sy N r.2.1) _).trans ?_))) rfl)) (jM rfl)))
 .show δ (υ (dB _ (sy N w)).isSome)=_;rw[n1];rfl
 .show δ (υ (dB _ (sy N w)).isSome)=_;rw[n2];rfl
omit hN hd in
theorem aNs(h:f ρ=erX N e):b7 o i f k ρ=erX N e:=by
 unfold b7;rw[h];rfl
theorem aJe(W:Kns F K){pa wd y:D}(hst:∀k∈st,k<29)(hl:st.length<=5000)(hw:w<29):∀r,uL (K++F) st w=r->match r with
  |.ok st'=>∃y',zb (zs N F K pa wd st (sy N w) y)=.ok (.nx (zs N F K pa wd st' (sy N w) y'))
  |.error e=>zb (zs N F K pa wd st (sy N w) y)=erX N e:=by
 intro r hr;subst hr;cases st with
 |nil=>exact aNr
 |cons k rest=>
  show match (match (K++F).find? λx=>ϒ (x.1=w) with|none=>lj (1,w)|some x=>if x.2.1=k then Bs (x.2.2++rest) else .error (2,w)) with
   |.ok st'=>∃y',zb (zs N F K pa wd (k::rest) (sy N w) y)=.ok (.nx (zs N F K pa wd st' (sy N w) y'))
   |.error e=>zb (zs N F K pa wd (k::rest) (sy N w) y)=erX N e
  cases hf:(K++F).find? λx=>ϒ (x.1=w) with
  |none=>
   have h:∀r∈K++F,r.1≠w:=λr hr e=>by
    have:=nw.mp hf r hr;exact this (bg e)
   dsimp only;exact aG z0 (mG (aNs (vK (cW (aD rfl 0x11)) ((fH rfl).trans (aJd hN hd W hw h)))))
  |some x=>
   have hx:x∈K++F:=sP hf;have e:x.1=w:=by
    have h3:=xn hf;exact c9 h3
   subst e;dsimp only;by_cases g:x.2.1=k
   .subst g;rw[ar rfl];exact⟨_,aQ3 hN hd W (by simp at hl;lia) hx⟩
   .rw[aw g];refine aG z0 (aG (z1 hN hd W hx) (mG ?_));refine aGe (z2 hN hd W (hst k (bq ..)) hx) ?_;rw[cg g];exact jM rfl
theorem aJf(Q:Kns F K)(hn:N.getD 28 ""="")(hk:k<29)(hW:∀w∈W,w<29)(hl:W.length<=400):match vL (K++F) k W with
  |.ok _=>jU [.dct (hdD N F),tw N W,sy N k,.dct (kdD N K)]=.ok .non
  |.error e=>jU [.dct (hdD N F),tw N W,sy N k,.dct (kdD N K)]=erX N e:=by
 have q:=xH (t:=noT (tg1 5)) (body:=zb) (sy N) (λ(st:aa af)(j:D×D)=>zs N F K (tw N W) (sy N k) st j.1 j.2) (uL (K++F)) (λst l=>(∀k∈st,k<29)/\st.length+10*l.length<=4500/\∀w∈l,w<29)
  (λst a l st' h hf=>by
   have h2:=h.2.1;rw[cz] at h2;refine⟨?_,?_,λw hw=>h.2.2 w (cr _ hw)⟩
   all_goals
    cases st with
    |nil=>cases hf
    |cons k0 rest=>
     revert hf
     show(match (K++F).find? λx=>ϒ (x.1=a) with|none=>lj (1,a)|some x=>if x.2.1=k0 then Bs (x.2.2++rest) else .error (2,a))=_->_;split
     .intro hf;cases hf
     .rename_i x hx;have hm:=aC5 hN hd Q (sP hx);split
      .intro hf;cases hf
       first
       |exact λi hi=>by
         rcases bo.mp hi with g|g
         .exact hm.2.2.1 i g
         .exact h.1 i (cr _ g)
       | (rw[cz] at h2;rw[bz];have:=hm.2.2.2;lia)
      .intro hf;cases hf)
  (λst a l j h=>⟨zs N F K (tw N W) (sy N k) st (sy N a) j.2,cW rfl,λr hr=>by
   have q:=aJe hN hd Q (pa:=tw N W) (wd:=sy N k) (y:=j.2) h.1 (by have:=h.2.1;lia) (h.2.2 a (bq ..)) r hr;cases r with
   |ok st'=>obtain⟨y',q⟩:=q;exact⟨(sy N a,y'),q⟩
   |error e=>exact q⟩) [] W [k] (.uD,.uD) ⟨λi hi=>by rw[fw] at hi;lia,by simp;lia,hW⟩
 rw[dg] at q;have i0:(noE (b7 ag 4 (j6 (aC dW aR)) ag)) (zs N F K (tw N W) (sy N k) [k] .uD .uD |>.set 4 .uD)=.ok (.nx (zs N F K (tw N W) (sy N k) [k] .uD .uD)):=cW (fZ (i:=4) rfl rfl);unfold vL;cases hf:c7 (uL (K++F)) [k] W with
 |error e=>
  rw[hf] at q;refine lN ?_;unfold mC;exact aG i0 (mG (oW (xs:=W.map (sy N)) rfl rfl q))
 |ok st=>
  rw[hf] at q;obtain⟨j,q⟩:=q;have fr:nJ 1 (noT (tg1 5)) zb (zs N F K (tw N W) (sy N k) [k] .uD .uD)=.ok (.nx (zs N F K (tw N W) (sy N k) st j.1 j.2)):=oW (xs:=W.map (sy N)) rfl rfl q;cases st with
  |nil=>
   refine aGi (ρ':=zs N F K (tw N W) (sy N k) [] j.1 j.2) ?_;unfold mC;exact aG i0 (aG fr (J6 rfl rfl))
  |cons k1 rest=>
   refine lN ?_;unfold mC;refine aG i0 (aG fr (QK ?_ ?_))
   .show aP7 (.lst ((k1::rest).reverse.map (sy N)))=_;rw[ik,bE];cases rest.reverse.map (sy N)<;>rfl
   .refine(jM (w:= "") rfl).trans ?_;unfold erX;rw[hn];rfl
end
def pD(N:aa Str)(p:af×af):D:=.tup [sy N p.1,sy N p.2]
theorem aF1(h1:a ρ=.ok (.tup xs))(hx:θ xs=ag)(hl:1<=xs.length):eG a (bW cO) cF ρ=.ok (.tup (xs.drop 1)):=by
 unfold eG;rw[h1,ε,fL rfl,ε];have e0:∀d:af,vN xs.length d (ae (1:ai))=1:=λd=>by
  unfold vN;dsimp only;rw[aw 0x1];lia
 show(if !θ xs||ϒ (vN xs.length 0 (ae (1:ai))=0/\vN xs.length xs.length aj=xs.length) then ψ else δ (ν (cutD xs (ae (1:ai)) aj)))=_;rw[hx,e0,cg 0x1,aw 0x2];rw[show((1:ai))=((1:af):ai) from rfl,sU]
theorem aJg(o b:af)(ow be:aa af):kn (o::ow) (b::be)=(o,b,[])::kn ow be:=by
 unfold kn;rw[cz,vz,bc,cv];rfl
theorem V7(N:aa Str):∀l:aa af,(l.map (sy N)).all oM=ag
 |[]=>rfl
 |i::l=>by
  rw[bc,gj,V7 N l];rfl
def ad(N:aa Str)(L:aa (af×af)):aa (D×D):=L.map λp=>(pD N p,.bl ag)
theorem yI(h:ow.length=be.length):(kn ow be).map (·.1)=ow:=by
 unfold kn;rw[cv];apply vT
 .simp[h]
 .intro i h1 h2;simp[de,h2]
section
variable {N:aa Str} (hN:N.length=29) (hd:N.Nodup)
include hN hd
theorem aNt(hp:p.1<29/\p.2<29)(hq:q.1<29/\q.2<29):eqD (pD N p) (pD N q)=ϒ (p=q):=by
 show(eqD (sy N p.1) (sy N q.1)&&(eqD (sy N p.2) (sy N q.2)&&ag))=_;rw[J1 hN hd hp.1 hq.1,J1 hN hd hp.2 hq.2];obtain⟨a,b⟩:=p;obtain⟨c,d⟩:=q;simp[Prod.mk.injEq]
end
theorem aGj(hF:Hds F)(hl:ow.length=be.length)(hn:ow.Nodup)(ho:∀i∈ow,i<29/\i∉F.map (·.1))(hb:∀i∈be,i<29)(hl2:be.length<=10):Kns F (kn ow be):=by
 refine⟨hF,by rw[yI hl];exact hn,λr hr=>?_,by unfold kn;rw[aE,dv];lia⟩;have hro:r.1∈ow:=by rw[<-yI hl];exact eg hr
 obtain⟨o1,o2⟩:=ho _ hro;unfold kn at hr;obtain⟨j,hj,rfl⟩:=b9.mp hr;have hj:=cS.mp hj;refine⟨o1,?_,rfl,o2⟩;show be.getD j 0<29;rw[de,cq hj];exact hb _ (dA hj)
section
variable {N:aa Str} (H:Nm N)
include H
theorem aGk{l:aa af}(hi:i<29)(hl:∀j∈l,j<29):cX .notin (sy N i) (.lst (l.map (sy N)))=.ok (.bl (!ϒ (i∈l))):=by
 show(if (sy N i).jF bI&&ο bI (l.map (sy N)) then δ (υ (!(l.map (sy N)).any λy=>eqD y (sy N i))) else .bad)=_;rw[wL,nW,aBu H.len H.nd hi l hl];rfl
theorem aGl:∀(ow be:aa af)(acc:aa Rw),ow.length=be.length->(acc.map (·.1)++ow).Nodup->(∀i∈acc.map (·.1)++ow,i<29)->u9 (ow.map (sy N)) (be.map (sy N)) (acc.map λr=>(sy N r.1,sy N r.2.1))=(acc++kn ow be).map λr=>(sy N r.1,sy N r.2.1)
 |[],[],acc,_,_,_=>by
  show acc.map _=(acc++kn [] []).map _;rw[show kn [] []=[] from rfl,dg]
 |[],b::be,acc,h,_,_=>by simp at h
 |o::ow,[],acc,h,_,_=>by simp at h
 |o::ow,b::be,acc,h,h2,h3=>by
  rw[bc,bc,u9,aJg];have hno:o∉acc.map (·.1):=λhm=>by
   rw[eS] at h2;exact h2.2.2 _ hm _ (bq ..) rfl
  rw[BK H.len H.nd (λr:Rw=>r.1) (λr=>sy N r.2.1) (h3 o 0x2) _ acc (λa ha=>h3 _ (fN _ (eg ha))) hno];have e:(acc.map λr:Rw=>(sy N r.1,sy N r.2.1))++[(sy N o,sy N b)]=(acc++[((o,b,[]):Rw)]).map λr=>(sy N r.1,sy N r.2.1):=by rw[bE];rfl
  rw[e,aGl ow be (acc++[(o,b,[])]) (by simpa using h) (by rw[bE,cf];exact h2) (by rw[bE,cf];exact h3),cf];rfl
theorem aGm(hq:q.1<29/\q.2<29):∀(L:aa (af×af)),(∀p∈L,p.1<29/\p.2<29)->q∉L->dB (ad N L) (pD N q)=aj/\putD (ad N L) (pD N q) (.bl ag)=ad N (L++[q])
 |[],_,_=>⟨rfl,rfl⟩
 |p::L,h1,h2=>by
  rw[bt,ja] at h2;obtain⟨i1,i2⟩:=aGm hq L (λx hx=>h1 x (cr _ hx)) h2.2;unfold ad at i1 i2 ⊢;rw[gz,bc,bc,dB,putD,aNt H.len H.nd (h1 p (bq ..)) hq,cg (λg=>h2.1 g.symm),aw 0x2,aw 0x2,i2];exact⟨i1,rfl⟩
omit H in
theorem aGn(L:aa (af×af))(q:af×af):wU (ad N L) (pD N q)=ag:=by
 show(ag&&(ad N L).all λp=>isTup p.1==ag)=ag;rw[jt,fT];intro y hy;unfold ad at hy;obtain⟨k,_,rfl⟩:=b9.mp hy;rfl
def knE(S ow be:aa af)(tk:af):fy Er iw:=if ow.length=be.length then (match c7 xZ S ow with
 |.error e=>.error e
 |.ok _=>.ok ()) else .error (2,tk)
omit H in
theorem wO:∀(l S S':aa af),c7 xZ S l=.ok S'->l.Nodup/\(∀i∈l,i∉S)/\S'=S++l
 |[],S,S',h=>by
  rw[c7] at h;cases h;exact⟨.nil,(λi hi=>by cases hi),by simp⟩
 |x::l,S,S',h=>by
  rw[c7] at h;split at h
  .rename_i s g;obtain⟨g1,g2⟩:=wN g;subst g2;obtain⟨i1,i2,i3⟩:=wO l _ _ h;refine⟨eT.mpr ⟨λhm=>i2 x hm 0x2,i1⟩,λi hi=>?_,by rw[i3,cf];rfl⟩;rcases bt.mp hi with z|z
   .subst z;exact g1
   .exact λhs=>i2 i z (fN _ hs)
  .cases h
theorem aF2(hF:Hds F)(ht:tr t∈F)(hr:r∈F){ow S:aa af}(ho:∀i∈ow,i<29)(hol:ow.length<=100)(hS:∀i∈S,i<29)(hSl:S.length<=500) :
  match knE S ow (r.2.2++t.2.2.2) t.1 with
  |.ok _=>eZ [.dct (hdD N F),sy N t.1,sy N r.1,tw N ow,.dct (sn N S)]=.ok (.dct (kdD N (kn ow (r.2.2++t.2.2.2))))
  |.error e=>eZ [.dct (hdD N F),sy N t.1,sy N r.1,tw N ow,.dct (sn N S)]=erX N e:=by
 obtain⟨a1,a2,a3,a4⟩:=hF.lt _ ht;obtain⟨b1',b2',b3,b4⟩:=hF.lt _ hr;have a5:t.2.2.2.length+1<=10:=a4;have sees:=xH (t:=noT (tg1 7)) (body:=sY "Twice" "word" 6 (noE fG)) (sy N) (λ(S':aa af)(x:D)=>[.dct (hdD N F),sy N t.1,sy N r.1,tw N ow,.dct (sn N S),tw N (r.2.2++t.2.2.2),.dct (sn N S'),x]) xZ (λS l=>(∀i∈S,i<29)/\S.length+l.length<=900/\∀i∈l,i<29)
  (λs a l s' h hf=>by
   obtain⟨_,e⟩:=wN hf;subst e;have ha:=h.2.2 a (bq ..);have:=h.2.1;exact⟨λi hi=>by
    rcases bo.mp hi with g|g
    .exact h.1 i g
    .rw[fw] at g;lia,by simp at this ⊢;lia,λi hi=>h.2.2 i (cr _ hi)⟩)
  (λS2 a l j h=>⟨_,cW rfl,λq hq=>by
   have q2:=J7 H h.1 (by have:=h.2.1;lia) (h.2.2 a (bq ..)) (j:=6) (f:=cV 7) (ρ:=[.dct (hdD N F),sy N t.1,sy N r.1,tw N ow,.dct (sn N S),tw N (r.2.2++t.2.2.2),.dct (sn N S2),sy N a]) rfl rfl q hq;cases q with
   |ok S'=>exact⟨sy N a,q2⟩
   |error e=>exact q2⟩) [] ow S .uD ⟨hS,by lia,ho⟩
 rw[dg] at sees;have i0:∀x y:D,(noE (b7 ah 5 (b2 nD (b2 getD (b2 getD fX dW) cO) (eG (b2 getD (b2 getD fX gC) cO) (bW cO) cF)) ah)) [.dct (hdD N F),sy N t.1,sy N r.1,tw N ow,.dct (sn N S),.uD,x,y]=.ok (.nx [.dct (hdD N F),sy N t.1,sy N r.1,tw N ow,.dct (sn N S),tw N (r.2.2++t.2.2.2),x,y]):=λx y=>by
  refine cW (bZ (i:=5) (d:=tw N (r.2.2++t.2.2.2)) (aJ (aJ (aJ rfl rfl (QJ H.len H.nd hF hr)) rfl (z:=.tup (r.2.2.map (sy N))) rfl) (aF1 (xs:=(tr t).2.2.map (sy N)) (aJ (aJ (x:=.dct (hdD N F)) (y:=sy N (tr t).1) rfl rfl (QJ H.len H.nd hF ht)) rfl rfl) (cD ..) (by rw[aE];show 1<=(t.2.2.1::t.2.2.2).length;rw[cz];lia)) ?_) (jK ..));show(if ϒ ((r.2.2.map (sy N)).length+(t.2.2.2.map (sy N)).length<=lim) then δ (ν (r.2.2.map (sy N)++t.2.2.2.map (sy N))) else .bad)=_;rw[aE,aE,bA,bg 0x1,<-bE];rfl
 have i1:∀ρ,cV 3 ρ=.ok (tw N ow)->cV 5 ρ=.ok (tw N (r.2.2++t.2.2.2))->(bTB (b2 (cX .ne) (aX h_ (aC fY aR)) (aX h_ (aC fP aR)))) ρ=.ok (!ϒ (ow.length=(r.2.2++t.2.2.2).length)):=λρ h3 h5=>by
  refine dO (aJ (x:=.int ow.length) (y:=.int (r.2.2++t.2.2.2).length) (cU (aD h3 rfl) ?_) (cU (aD h5 rfl) ?_) ((aIx _ _).trans ?_))
  .show δ (τ ((ow.map (sy N)).length:ai))=_;rw[aE]
  .show δ (τ (((r.2.2++t.2.2.2).map (sy N)).length:ai))=_;rw[aE]
  .congr 3
   by_cases e:ow.length=(r.2.2++t.2.2.2).length
   .rw[e,bg rfl];simp
   .rw[cg e,df];lia
 unfold knE;by_cases hl:ow.length=(r.2.2++t.2.2.2).length
 .rw[ar hl];have i2:∀y:D,(noE (b7 ag 6 (aX aEe (aC g_ aR)) ag)) [.dct (hdD N F),sy N t.1,sy N r.1,tw N ow,.dct (sn N S),tw N (r.2.2++t.2.2.2),.uD,y]=.ok (.nx [.dct (hdD N F),sy N t.1,sy N r.1,tw N ow,.dct (sn N S),tw N (r.2.2++t.2.2.2),.dct (sn N S),y]):=λy=>by
   refine cW (fZ (i:=6) (cU (aD rfl rfl) ?_) (aNq N S));show(if (sn N S).all (λp=>!isTup p.1)&&θ ((sn N S).map (·.2)) then δ (D.dct (sn N S)) else .bad)=_;have hp:θ ((sn N S).map (·.2))=ag:=aNq N S;have ha:(sn N S).all (λp=>!isTup p.1)=ag:=by
    unfold sn;rw[fT];intro y hy;obtain⟨i,_,rfl⟩:=b9.mp hy;rfl
   rw[hp,ha];rfl
  have i3:=i1 [.dct (hdD N F),sy N t.1,sy N r.1,tw N ow,.dct (sn N S),tw N (r.2.2++t.2.2.2),.uD,.uD] rfl rfl;rw[bg hl] at i3;cases hs:c7 xZ S ow with
  |error e=>
   rw[hs] at sees;exact lN (aG (i0 _ _) (aG (J6 i3 rfl) (aG (i2 _) (mG (oW (xs:=ow.map (sy N)) rfl rfl sees)))))
  |ok S'=>
   rw[hs] at sees;obtain⟨x',q⟩:=sees;obtain⟨h1,_,_⟩:=wO ow S S' hs;refine call_v (aG (i0 _ _) (aG (J6 i3 rfl) (aG (i2 _) (aG (oW (xs:=ow.map (sy N)) rfl rfl q) (cW (uY (cU 0x11 ?_) rfl))))));show(if ϒ ((ow.map (sy N)).length<=1000)&&ϒ (((r.2.2++t.2.2.2).map (sy N)).length=(ow.map (sy N)).length)&&(ow.map (sy N)).all oM&&θ ((r.2.2++t.2.2.2).map (sy N)) then δ (D.dct (u9 (ow.map (sy N)) ((r.2.2++t.2.2.2).map (sy N)) [])) else .bad)=_;have hz:=aGl H ow (r.2.2++t.2.2.2) [] hl (by simpa using h1) (λi hi=>ho i (by simpa using hi));rw[gv,gN] at hz;rw[hz,V7,cD,aE,aE,bg 0x1,bg hl.symm];rfl
 .rw[aw hl];have i3:=i1 [.dct (hdD N F),sy N t.1,sy N r.1,tw N ow,.dct (sn N S),tw N (r.2.2++t.2.2.2),.uD,.uD] rfl rfl;rw[cg hl] at i3;exact lN (aG (i0 _ _) (mG (QK i3 (jM rfl))))
end
abbrev cst(N:aa Str)(S:aa af)(M:aa Rw)(T:aa Tk)(P:D)(L0:aa (af×af))(j:D×D×D×D):aa D:=[P,.dct (sn N S),.dct (hdD N (M++T.map tr)),.lst ((M.map (·.1)).map (sy N)),.lst ((T.map (·.1)).map (sy N)),.dct (ad N L0),j.1,j.2.1,j.2.2.1,j.2.2.2]
structure Chk(S:aa af)(M:aa Rw)(T:aa Tk):Prop where
 hF:Hds (M++T.map tr)
 hS:∀i∈S,i<29
 sl:S.length<=400
 fs:∀r∈M++T.map tr,r.1∈S
 l3:∀r∈M,r.2.2.length<=3
 l2:∀t∈T,t.2.2.2.length<=2
structure UsN(q:af)(u:Ru):Prop where
 a:u.1<29
 b:u.2.1<29
 c:∀i∈u.2.2.1,i<29
 d:∀i∈u.2.2.2,i<29
 cl:u.2.2.1.length<=100
 dl:u.2.2.2.length<=q
abbrev Us(u:Ru):Prop:=UsN 400 u
def lV(S:aa af)(M:aa Rw)(T:aa Tk)(L:aa (af×af))(u:Ru):fy Er (aa (af×af)):=
 match T.find? λt=>ϒ (t.1=u.1) with
 |none=>.error (1,u.1)
 |some t=>(match M.find? λr=>ϒ (r.1=u.2.1) with
  |none=>.error (1,u.2.1)
  |some r=>if r.2.1=t.2.2.1 then (if pq u∈L then .error (3,u.1) else (match knE S u.2.2.1 (r.2.2++t.2.2.2) u.1 with
   |.error e=>.error e
   |.ok _=>(match vL (kn u.2.2.1 (r.2.2++t.2.2.2)++(M++T.map tr)) t.2.1 u.2.2.2 with
    |.error e=>.error e
    |.ok _=>.ok (L++[pq u])))) else .error (2,u.2.1))
theorem aJh(h:a ρ=erX N e):aX f a ρ=erX N e:=by
 unfold aX;rw[h];rfl
section
variable {N:aa Str} (H:Nm N)
include H
theorem aNu(hq:q.1<29/\q.2<29):∀(L:aa (af×af)),(∀p∈L,p.1<29/\p.2<29)->(dB (ad N L) (pD N q)).isSome=ϒ (q∈L)
 |[],_=>rfl
 |p::L,h1=>by
  have ih:=aNu hq L (λx hx=>h1 x (cr _ hx));unfold ad at ih ⊢;rw[bc,dB,aNt H.len H.nd (h1 p (bq ..)) hq];by_cases e:p=q
  .subst e;rw[bg rfl,ar rfl,bg (bq ..)];rfl
  .rw[cg e,aw 0x2,ih]
   congr 1
   rw[bt,eq_iff_iff];exact⟨.inr,λz=>z.resolve_left λy=>e y.symm⟩
theorem cb_eq{S:aa af}(C:Chk S M T){P:D}(h2:∀p∈L0,p.1<29/\p.2<29)(h3:L0.length<=500)(U:Us u):∀r,lV S M T L0 u=r->match r with
  |.ok L1=>cb (cst N S M T P L0 (sy N u.1,sy N u.2.1,tw N u.2.2.1,tw N u.2.2.2))=.ok (.nx (cst N S M T P L1 (sy N u.1,sy N u.2.1,tw N u.2.2.1,tw N u.2.2.2)))
  |.error e=>cb (cst N S M T P L0 (sy N u.1,sy N u.2.1,tw N u.2.2.1,tw N u.2.2.2))=erX N e:=by
 have hF:=C.hF;have hM:∀i∈M.map (·.1),i<29:=λi hi=>by obtain⟨r,hr,rfl⟩:=b9.mp hi;exact(hF.lt r (fN _ hr)).1
 have hT:∀i∈T.map (·.1),i<29:=λi hi=>by obtain⟨t,ht,rfl⟩:=b9.mp hi;exact(hF.lt (tr t) (dS _ (eg ht))).1
 obtain⟨u1,u2,ow,ws⟩:=u;obtain⟨ua,ub,uc,ud,ucl,udl⟩:=U;dsimp only at ua ub uc ud ucl udl ⊢;generalize hρ:cst N S M T P L0 (sy N u1,sy N u2,tw N ow,tw N ws)=ρ;have c0:(bTB (b2 (cX .notin) eF g_)) ρ=.ok (!ϒ (u1∈T.map (·.1))):=by
  subst hρ;exact dO (aJ rfl rfl (aGk H ua hT))
 have c1:(bTB (b2 (cX .notin) fG fY)) ρ=.ok (!ϒ (u2∈M.map (·.1))):=by
  subst hρ;exact dO (aJ rfl rfl (aGk H ub hM))
 have v6:cV 6 ρ=.ok (sy N u1):=by subst hρ;rfl
 have v7:cV 7 ρ=.ok (sy N u2):=by subst hρ;rfl
 have v2:cV 2 ρ=.ok (.dct (hdD N (M++T.map tr))):=by subst hρ;rfl
 intro r hr;subst hr;unfold lV;dsimp only;cases hft:T.find? λt=>ϒ (t.1=u1) with
 |none=>
  have hn:u1∉T.map (·.1):=λhm=>by
   obtain⟨t,ht,e⟩:=b9.mp hm;have:=nw.mp hft t ht;exact this (bg e)
  rw[cg hn] at c0;exact mG (QK c0 (jM v6))
 |some t=>
  have ht:t∈T:=sP hft;have e:t.1=u1:=by have h4:=xn hft;exact c9 h4
  subst e;rw[bg (eg ht)] at c0;have s0:cb0 ρ=.ok (.nx ρ):=J6 c0 rfl;dsimp only;cases hfr:M.find? λr=>ϒ (r.1=u2) with
  |none=>
   have hn:u2∉M.map (·.1):=λhm=>by
    obtain⟨r,hr,e⟩:=b9.mp hm;have:=nw.mp hfr r hr;exact this (bg e)
   rw[cg hn] at c1;exact aG s0 (mG (QK c1 (jM v7)))
  |some r=>
   have hr:r∈M:=sP hfr;have e:r.1=u2:=by have h4:=xn hfr;exact c9 h4
   subst e;rw[bg (eg hr)] at c1;have s1:cb1 ρ=.ok (.nx ρ):=J6 c1 rfl;have hrF:r∈M++T.map tr:=fN _ hr;have htF:tr t∈M++T.map tr:=dS _ (eg ht);obtain⟨f1,f2,f3,f4⟩:=hF.lt r hrF;obtain⟨g1,g2,g3,g4⟩:=hF.lt _ htF;have gT:getD (.dct (hdD N (M++T.map tr))) (sy N t.1)=.ok (hdV N (tr t)):=QJ H.len H.nd hF htF;have gM:getD (.dct (hdD N (M++T.map tr))) (sy N r.1)=.ok (hdV N r):=QJ H.len H.nd hF hrF;have c2:(bTB (b2 (cX .ne) (b2 getD (b2 getD dW fG) eU) (b2 getD (b2 getD (b2 getD dW eF) cO) eU))) ρ=.ok (!ϒ (r.2.1=t.2.2.1)):=
    dO (aJ (aJ (aJ v2 v7 gM) rfl rfl) (aJ (aJ (aJ v2 v6 gT) rfl rfl) rfl (vH (l:=(tr t).2.2) rfl rfl)) (J3 H.len H.nd f2 (g3 _ (bq ..))))
   dsimp only;by_cases hk:r.2.1=t.2.2.1
   .rw[bg hk] at c2;have s2:cb2 ρ=.ok (.nx ρ):=J6 c2 rfl;have hin:=aNu H (q:=(t.1,r.1)) ⟨ua,ub⟩ L0 h2;have c3:(bTB (b2 inX (fM (aC eF (aC fG aR))) fP)) ρ=.ok (ϒ ((t.1,r.1)∈L0)):=by
     refine dO (aJ (x:=pD N (t.1,r.1)) (y:=.dct (ad N L0)) (dD (aD v6 (aD v7 rfl)) (by rw[bA];simp)) (by subst hρ;rfl) ?_);show(if wU (ad N L0) (pD N (t.1,r.1)) then δ (υ (dB (ad N L0) (pD N (t.1,r.1))).isSome) else .bad)=_;rw[aGn,hin];rfl
    rw[ar hk,show pq (t.1,r.1,ow,ws)=(t.1,r.1) from rfl];by_cases hq:(t.1,r.1)∈L0
    .rw[bg hq] at c3;rw[ar hq];exact aG s0 (aG s1 (aG s2 (mG (QK c3 (jM v6)))))
    .rw[cg hq] at c3;rw[aw hq];have s3:cb3 ρ=.ok (.nx ρ):=J6 c3 rfl;obtain⟨k1,k2⟩:=aGm H (q:=(t.1,r.1)) ⟨ua,ub⟩ L0 h2 hq;have s4:cb4 ρ=.ok (.nx (cst N S M T P (L0++[(t.1,r.1)]) (sy N t.1,sy N r.1,tw N ow,tw N ws))):=by
      subst hρ;unfold cst;rw[<-k2];exact cW (aAc (i:=5) (kvs:=ad N L0) (k:=pD N (t.1,r.1)) (d:=.bl ag) rfl (dD 0x11 (by rw[bA];simp)) rfl (by unfold ad;rw[aE,bA];lia) (aGn ..) rfl)
     have kne:=aF2 H hF htF hrF (ow:=ow) (S:=S) uc ucl C.hS (by have:=C.sl;lia);have pre:∀{x:Res Fl},cb5 (cst N S M T P (L0++[(t.1,r.1)]) (sy N t.1,sy N r.1,tw N ow,tw N ws))=x->cb ρ=x:=λh=>aG s0 (aG s1 (aG s2 (aG s3 (aG s4 h))))
     have ha:noE (aC dW (aC eF (aC fG (aC jO (aC gC aR))))) (cst N S M T P (L0++[(t.1,r.1)]) (sy N t.1,sy N r.1,tw N ow,tw N ws))=.ok [.dct (hdD N (M++T.map tr)),sy N t.1,sy N r.1,tw N ow,.dct (sn N S)]:=cW (aD rfl (aD rfl (aD rfl 0x11)));have hw:noE (b2 getD (b2 getD dW eF) eU) (cst N S M T P (L0++[(t.1,r.1)]) (sy N t.1,sy N r.1,tw N ow,tw N ws))=.ok (sy N t.2.1):=cW (aJ (aJ rfl rfl gT) rfl (z:=sy N t.2.1) rfl);cases hkn:knE S ow (r.2.2++t.2.2.2) t.1 with
     |error e=>
      rw[hkn] at kne;refine pre (J5 ?_);have e1:aX (mW 5 eZ) (noE (aC dW (aC eF (aC fG (aC jO (aC gC aR)))))) (cst N S M T P (L0++[(t.1,r.1)]) (sy N t.1,sy N r.1,tw N ow,tw N ws))=erX N e:=vK ha ((fH rfl).trans kne);have e2:∀(f g:FE)(fs:FA)(ρ:aa D)(x:D),f ρ=.ok x->fs ρ=erX N e->aC f fs ρ=erX N e:=λf g fs ρ x h1 h2=>by unfold aC;rw[h1,ε,h2];rfl
      have e3:∀(f:FE)(fs:FA)(ρ:aa D),f ρ=erX N e->aC f fs ρ=erX N e:=λf fs ρ h1=>by unfold aC;rw[h1];rfl
      exact aJh (e2 _ dW _ _ _ (cW rfl) (e2 _ dW _ _ _ (cW rfl) (e2 _ dW _ _ _ hw (e3 _ _ _ e1))))
     |ok z=>
      rw[hkn] at kne;dsimp only at kne ⊢;have hl:ow.length=(r.2.2++t.2.2.2).length:=by
       unfold knE at hkn;split at hkn
       .assumption
       .cases hkn
      have hs:∃S',c7 xZ S ow=.ok S':=by
       unfold knE at hkn;rw[ar hl] at hkn;split at hkn
       .cases hkn
       .rename_i S' g;exact⟨S',g⟩
      obtain⟨S',hs⟩:=hs;obtain⟨n1,n2,_⟩:=wO ow S S' hs;have hbl:(r.2.2++t.2.2.2).length<=10:=by
       have h5:=C.l2 t ht;have h6:=C.l3 r hr;rw[bz];lia
      have Kn:Kns (M++T.map tr) (kn ow (r.2.2++t.2.2.2)):=aGj hF hl n1 (λi hi=>⟨uc i hi,λhm=>by
       obtain⟨x,hx,e⟩:=b9.mp hm;exact n2 i hi (e▸C.fs x hx)⟩) (λi hi=>by
       rcases bo.mp hi with g|g
       .exact f3 i g
       .exact g3 i (cr _ g)) 0x1
      have wke:=aJf H.len H.nd Kn H.e28 (k:=t.2.1) (W:=ws) g2 ud udl;have e1:aX (mW 5 eZ) (noE (aC dW (aC eF (aC fG (aC jO (aC gC aR)))))) (cst N S M T P (L0++[(t.1,r.1)]) (sy N t.1,sy N r.1,tw N ow,tw N ws))=.ok (.dct (kdD N (kn ow (r.2.2++t.2.2.2)))):=vK ha ((fH rfl).trans kne);have e4:aC (noE dW) (aC (noE gD) (aC (noE (b2 getD (b2 getD dW eF) eU)) (aC (aX (mW 5 eZ) (noE (aC dW (aC eF (aC fG (aC jO (aC gC aR))))))) (noE aR)))) (cst N S M T P (L0++[(t.1,r.1)]) (sy N t.1,sy N r.1,tw N ow,tw N ws))=.ok [.dct (hdD N (M++T.map tr)),tw N ws,sy N t.2.1,.dct (kdD N (kn ow (r.2.2++t.2.2.2)))]:=aD (cW rfl) (aD (cW rfl) (aD hw (aD (b:=noE aR) (xs:=[]) e1 (cW rfl))));cases hwk:vL (kn ow (r.2.2++t.2.2.2)++(M++T.map tr)) t.2.1 ws with
      |error e=>
       rw[hwk] at wke;exact pre (J5 (vK e4 ((fH rfl).trans wke)))
      |ok z=>
       rw[hwk] at wke;exact pre (aC1 (vK e4 ((fH rfl).trans wke)))
   .rw[cg hk] at c2;rw[aw hk];exact aG s0 (aG s1 (mG (QK c2 (jM v7))))
theorem aF3{S:aa af}(h:lV S M T L u=.ok L'):L'=L++[pq u]:=by
 unfold lV at h;split at h
 .cases h
 .split at h
  .cases h
  .split at h
   .split at h
    .cases h
    .split at h
     .cases h
     .split at h
      .cases h
      .cases h;rfl
   .cases h
theorem aC6{K S:aa af}{M:aa Rw}{T:aa Tk}(C:Chk S M T)(ml:M.length<=100)(tl:T.length<=100)(t10:∀t∈T,t.2.2.2.length<=9){R1 R2:aa Ru}(hl:R1.length<=400)(hU:∀u∈R1,Us u){e:Er}(he:c7 (lV S M T) [] R1=.error e):jC [prD N K M T (R1++R2),.dct (sn N S)]=erX N e:=by
 have hF:=C.hF;have q:=xH (N:=N) (t:=noT (tgN [6,7,8,9])) (body:=cb) (ruD N) (cst N S M T (prD N K M T (R1++R2))) (lV S M T) (λL l=>(∀p∈L,p.1<29/\p.2<29)/\L.length+l.length<=400/\∀u∈l,Us u)
  (λs a l s' h hf=>by
   have e:=aF3 H hf;subst e;have ha:=h.2.2 a (bq ..);have:=h.2.1;refine⟨λp hp=>?_,by simp at this ⊢;lia,λi hi=>h.2.2 i (cr _ hi)⟩;rcases bo.mp hp with g|g
   .exact h.1 p g
   .rw[fw] at g;subst g;exact⟨ha.a,ha.b⟩)
  (λL a l j h=>⟨cst N S M T (prD N K M T (R1++R2)) L (sy N a.1,sy N a.2.1,tw N a.2.2.1,tw N a.2.2.2),cW rfl,λr hr=>by
   have q:=cb_eq H C (P:=prD N K M T (R1++R2)) h.1 (by have:=h.2.1;lia) (h.2.2 a (bq ..)) r hr;cases r with
   |ok S'=>exact⟨_,q⟩
   |error e=>exact q⟩) (R2.map (ruD N)) R1 [] (.uD,.uD,.uD,.uD) ⟨(λp hp=>by cases hp),by simpa using hl,hU⟩
 rw[he] at q;have s0:cr0 [prD N K M T (R1++R2),.dct (sn N S),.uD,.uD,.uD,.uD,.uD,.uD,.uD,.uD]=.ok (.nx [prD N K M T (R1++R2),.dct (sn N S),.dct (hdD N (M++T.map tr)),.uD,.uD,.uD,.uD,.uD,.uD,.uD]):=cW (bB (i:=2) (cU (aD rfl rfl) ((fH rfl).trans (aEx H.len H.nd hF))));have s1:cr1 [prD N K M T (R1++R2),.dct (sn N S),.dct (hdD N (M++T.map tr)),.uD,.uD,.uD,.uD,.uD,.uD,.uD]=.ok (.nx [prD N K M T (R1++R2),.dct (sn N S),.dct (hdD N (M++T.map tr)),.lst ((M.map (·.1)).map (sy N)),.uD,.uD,.uD,.uD,.uD,.uD]):=by
  rw[cv];exact cW (bB (i:=3) (dI (rwD N) (λr:Rw=>sy N r.1) M rfl (fV 0x12) 0x1 λr hr=>⟨aJ rfl rfl rfl,rfl⟩))
 have s2:cr2 [prD N K M T (R1++R2),.dct (sn N S),.dct (hdD N (M++T.map tr)),.lst ((M.map (·.1)).map (sy N)),.uD,.uD,.uD,.uD,.uD,.uD]=.ok (.nx [prD N K M T (R1++R2),.dct (sn N S),.dct (hdD N (M++T.map tr)),.lst ((M.map (·.1)).map (sy N)),.lst ((T.map (·.1)).map (sy N)),.uD,.uD,.uD,.uD,.uD]):=by
  rw[cv (l:=T)];exact cW (bB (i:=4) (dI (tkD N) (λr:Tk=>sy N r.1) T rfl (fV 0x12) 0x1 λr hr=>⟨aJ rfl rfl rfl,rfl⟩))
 have s3:cr3 [prD N K M T (R1++R2),.dct (sn N S),.dct (hdD N (M++T.map tr)),.lst ((M.map (·.1)).map (sy N)),.lst ((T.map (·.1)).map (sy N)),.uD,.uD,.uD,.uD,.uD]=.ok (.nx (cst N S M T (prD N K M T (R1++R2)) [] (.uD,.uD,.uD,.uD))):=cW (fZ (i:=5) rfl rfl);refine lN ?_;unfold vB;refine aG s0 (aG s1 (aG s2 (aG s3 (lH (cW ((fV (aJ rfl rfl (z:=.tup ((R1++R2).map (ruD N))) rfl)).trans (by rw[bN (cY N)];rfl))) ?_))));rw[bE];exact q
end
theorem V8(x:Str):(x==x)=ag:=oz x
theorem BP{a b:FE}{ρ:aa D}{r:Res D}(h:a ρ=.ok (.bl ag))(h2:b ρ=r):W7 a b ρ=r:=by
 unfold W7;rw[h,ε,aLn,ε,ar rfl];exact h2
theorem YG{N:aa Str}{P:D}{tag w:af}(ht:tag=1\/tag=2\/tag=3)(hP:∀r,cV 0 (P::r)=.ok P)(hv:gK [P]=erX N (tag,w)):jL [P,.int tag,sy N w]=.ok (.bl ag):=by
 refine call_v ?_;have key:∀(c:Str),(cls tag=c)->aOi gK 1 (aC fX aR) ["BadKind","Lacking","NoName","Twice"] 3 4 [P,.int tag,sy N w,.non,.uD]=.ok (.nx [P,.int tag,sy N w,.exc c [("word",N.getD w "")],.uD]):=λc hc=>by
  unfold aOi;rw[show aC fX aR [P,.int tag,sy N w,.non,.uD]=.ok [P] from aD (hP _) rfl,ε,show mW 1 gK [P]=erX N (tag,w) from (fH rfl).trans hv];unfold erX;dsimp only;rw[hc];rcases ht with rfl|rfl|rfl<;>subst hc<;>rfl
 refine aG (ρ':=[P,.int tag,sy N w,.non,.uD]) (bB (i:=3) rfl) (aG (key _ rfl) ?_);have ee:∀c:Str,(["BadKind","Lacking","NoName","Twice"]:aa Str).contains c=ag->b2 (cX .eq) (R6 ["BadKind","Lacking","NoName","Twice"] "word" 3) dW [P,.int tag,sy N w,.exc c [("word",N.getD w "")],.uD]=.ok (.bl ag):=λc h=>by
  refine aJ (x:=.str (N.getD w "")) (y:=.str (N.getD w "")) ?_ rfl ?_
  .unfold R6;rw[show List.getD [P,τ tag,sy N w,D.exc c [("word",N.getD w "")],D.uD] 3 D.uD=D.exc c [("word",N.getD w "")] from rfl];dsimp only;rw[ar h];rfl
  .show(if (ι (N.getD w "")).jF bI&&(ι (N.getD w "")).jF bI then δ (υ (N.getD w ""==N.getD w "")) else .bad)=_;rw[yG,V8];rfl
 rcases ht with rfl|rfl|rfl
 .exact aG (gW rfl rfl) (aG (gW rfl rfl) (aG (gW rfl rfl) (uY (BP rfl (BP rfl (ee "NoName" rfl))) rfl)))
 .exact aG (gW rfl rfl) (aG (gW rfl rfl) (aG (gW rfl rfl) (uY (BP rfl (BP rfl (ee "BadKind" rfl))) rfl)))
 .exact aG (gW rfl rfl) (aG (gW rfl rfl) (aG (gW rfl rfl) (uY (BP rfl (BP rfl (ee "Twice" rfl))) rfl)))
theorem kY{α σ:Type}(f:σ->α->fy Er σ):∀(A B:aa α)(s:σ),c7 f s (A++B)=(match c7 f s A with|.error e=>.error e|.ok s'=>c7 f s' B)
 |[],B,s=>rfl
 |a::A,B,s=>by
  rw[gz,c7,c7];cases f s a with
  |error e=>rfl
  |ok s'=>exact kY f A B s'
theorem vM:∀(l S:aa af),(S++l).Nodup->c7 xZ S l=.ok (S++l)
 |[],S,_=>by rw[dg];rfl
 |x::l,S,h=>by
  have hx:x∉S:=λhm=>by
   rw[eS] at h;exact h.2.2 x hm x (bq ..) rfl
  have e:xZ S x=.ok (S++[x]):=by unfold xZ;rw[aw hx]
  rw[c7,e];dsimp only;rw[vM l (S++[x]) (by rw[cf];exact h),cf];rfl
theorem J_{K:aa af}:∀(l:aa af),(∀i∈l,i∈K)->c7 (aC2 K) () l=.ok ()
 |[],_=>rfl
 |x::l,h=>by
  have e:aC2 K () x=.ok ():=by unfold aC2;rw[ar (h x (bq ..))]
  rw[c7,e];exact J_ l λi hi=>h i (cr _ hi)
def OkR(K:aa af)(r:Rw):Prop:=r.2.1∈K/\∀i∈r.2.2,i∈K
theorem aJi{K S:aa af}{r:Rw}(hs:r.1∉S)(hk:OkR K r):mkE K S r=.ok (S++[r.1]):=by
 unfold mkE xZ;rw[aw hs];dsimp only;rw[J_ (r.2.1::r.2.2) λi hi=>by
  rcases bt.mp hi with g|g
  .subst g;exact hk.1
  .exact hk.2 i g]
theorem KC{K:aa af}:∀(l:aa Rw)(S:aa af),(S++l.map (·.1)).Nodup->(∀r∈l,OkR K r)->c7 (mkE K) S l=.ok (S++l.map (·.1))
 |[],S,_,_=>by rw[gv,dg];rfl
 |r::l,S,h,hk=>by
  have hx:r.1∉S:=λhm=>by
   rw[eS] at h;exact h.2.2 r.1 hm r.1 (bq ..) rfl
  rw[c7,aJi hx (hk r (bq ..))];dsimp only;rw[KC l (S++[r.1]) (by rw[cf];exact h) (λx hx=>hk x (cr _ hx)),cf];rfl
theorem aNv{K S:aa af}{A B:aa Rw}{b:Rw}(h:(S++A.map (·.1)).Nodup)(hk:∀r∈A,OkR K r)(hb:b.1∈S++A.map (·.1)):c7 (mkE K) S (A++b::B)=.error (3,b.1):=by
 rw[kY,KC A S h hk];dsimp only;rw[c7];unfold mkE xZ;rw[ar hb]
theorem aNw{K S:aa af}{A B:aa Rw}{b:Rw}(h:(S++A.map (·.1)).Nodup)(hk:∀r∈A,OkR K r)(hb:b.1∉S++A.map (·.1)){g s:aa af}{o:af}(e:b.2.1::b.2.2=g++o::s)(hg:∀i∈g,i∈K)(ho:o∉K):c7 (mkE K) S (A++b::B)=.error (1,o):=by
 rw[kY,KC A S h hk];dsimp only;rw[c7];unfold mkE xZ;rw[aw hb];dsimp only;rw[e,kY,J_ g hg];dsimp only;rw[c7];have e2:aC2 K () o=.error (1,o):=by unfold aC2;rw[aw ho]
 rw[e2]
theorem o7{K:aa af}{M:aa Rw}{T:aa Tk}(h:([26,27]++K).Nodup):stage1 K M T=c7 (mkE K) ([26,27]++K) (M++T.map tr):=by
 unfold stage1;rw[vM K _ h];dsimp only;rw[kY];cases c7 (mkE K) ([26,27]++K) M with
 |error e=>rfl
 |ok S=>
  dsimp only;have:∀(T:aa Tk)(S:aa af),c7 (tkE K) S T=c7 (mkE K) S (T.map tr):=λT=>by
   induction T with
   |nil=>intro S;rfl
   |cons t T ih=>
    intro S;rw[bc,c7,c7];rw[show tkE K S t=mkE K S (tr t) from rfl];cases mkE K S (tr t) with
    |error e=>rfl
    |ok s=>exact ih s
  exact this T S
theorem YH{K:aa af}{M:aa Rw}{T:aa Tk}{A B:aa af}{o:af}(e:K=A++o::B)(h:([26,27]++A).Nodup)(ho:o∈[26,27]++A):stage1 K M T=.error (3,o):=by
 unfold stage1;rw[e,kY,vM A _ h];dsimp only;rw[c7];have e2:xZ ([26,27]++A) o=.error (3,o):=by unfold xZ;rw[ar ho]
 rw[e2]
noncomputable def ixm(v:ai)(n:af):af:=(v % (n:ai)).toNat
theorem gR(v:ai){n:af}(h:0<n):ixm v n<n:=by
 unfold ixm;have h1:=nn v (show(0:ai)<n by lia);have h0:=lh v (show(n:ai)≠0 by lia);lia
theorem V9(v:ai){n:af}(h:0<n):v % (n:ai)=(ixm v n:af):=by
 unfold ixm;have h0:=lh v (show(n:ai)≠0 by lia);lia
section
variable {ρ:aa D} {f g e:FE} {α:Type} {d:α->D}
theorem eqI{a b:ai}(h1:f ρ=.ok (.int a))(h2:g ρ=.ok (.int b)):bTB (b2 (cX .eq) f g) ρ=.ok (a==b):=dO (aJ h1 h2 (wJ a b))
theorem aOn{a b:ai}(h1:f ρ=.ok (.int a))(h2:g ρ=.ok (.int b)):b2 (aW .add) f g ρ=.ok (.int (a+b)):=aJ h1 h2 rfl
theorem aJj{a b:ai}(h1:f ρ=.ok (.int a))(h2:g ρ=.ok (.int b)):b2 (aW .sub) f g ρ=.ok (.int (a-b)):=aJ h1 h2 rfl
theorem DX{a b:ai}(h1:f ρ=.ok (.int a))(h2:g ρ=.ok (.int b))(hb:0<b/\b<1073741824):b2 (aW .fdiv) f g ρ=.ok (.int (a / b)):=aJ h1 h2 (by
 show(if ϒ (0<b)&&ϒ (b<1073741824) then δ (τ (a / b)) else .bad)=_;rw[bg hb.1,bg hb.2];rfl)
theorem KD{a b:ai}(h1:f ρ=.ok (.int a))(h2:g ρ=.ok (.int b))(hb:0<b):b2 (aW .mod) f g ρ=.ok (.int (a % b)):=aJ h1 h2 (by
 show(if ϒ (0<b) then δ (τ (a % b)) else .bad)=_;rw[bg hb];rfl)
theorem aSg{xs:aa D}(h:f ρ=.ok (.lst xs)):aX h_ (aC f aR) ρ=.ok (.int xs.length):=cU (aD h rfl) rfl
theorem aQ4{xs:aa D}(h:f ρ=.ok (.tup xs)):aX h_ (aC f aR) ρ=.ok (.int xs.length):=cU (aD h rfl) rfl
theorem aF4{l:aa α}(h:f ρ=.ok (.lst (l.map d))):aX h_ (aC f aR) ρ=.ok (.int l.length):=(aSg h).trans (by rw[aE])
theorem aQ5{l:aa α}(h:f ρ=.ok (.tup (l.map d))):aX h_ (aC f aR) ρ=.ok (.int l.length):=(aQ4 h).trans (by rw[aE])
theorem KH{l:aa α}{v:ai}(h1:e ρ=.ok (.int v))(h:f ρ=.ok (.lst (l.map d)))(h0:0<l.length):b2 (aW .mod) e (aX h_ (aC f aR)) ρ=.ok (.int (ixm v l.length:af)):=(KD h1 (aF4 h) 0x1).trans (by rw[V9 v h0])
theorem aRb{l:aa α}{v:ai}(h1:e ρ=.ok (.int v))(h:f ρ=.ok (.tup (l.map d)))(h0:0<l.length):b2 (aW .mod) e (aX h_ (aC f aR)) ρ=.ok (.int (ixm v l.length:af)):=(KD h1 (aQ5 h) 0x1).trans (by rw[V9 v h0])
theorem ixM{l:aa α}{i:af}{a:α}(h:f ρ=.ok (.lst (l.map d)))(h1:e ρ=.ok (.int (i:af)))(hi:l[i]?=ae a):b2 getD f e ρ=.ok (d a):=aJ h h1 (wM rfl hi)
theorem ixN{l:aa α}{i:af}{a:α}(h:f ρ=.ok (.tup (l.map d)))(h1:e ρ=.ok (.int (i:af)))(hi:l[i]?=ae a):b2 getD f e ρ=.ok (d a):=aJ h h1 (vH rfl hi)
theorem toM(hd:∀a,(d a).pure=ag){l:aa α}{n:af}(h:f ρ=.ok (.lst (l.map d)))(h1:e ρ=.ok (.int (n:af))):eG f cF (bW e) ρ=.ok (.lst ((l.take n).map d)):=(nY h rfl (fL h1) (bN hd l)).trans (by rw[QH,iz])
theorem frM(hd:∀a,(d a).pure=ag){l:aa α}{n:af}(h:f ρ=.ok (.lst (l.map d)))(h1:e ρ=.ok (.int (n:af))):eG f (bW e) cF ρ=.ok (.lst ((l.drop n).map d)):=(nY h (fL h1) rfl (bN hd l)).trans (by rw[sU,kG])
theorem aNx{a b:aa D}(h1:f ρ=.ok (.lst a))(h2:g ρ=.ok (.lst b))(ha:θ a=ag)(hb:θ b=ag)(hl:a.length+b.length<=100000):b2 (aW .add) f g ρ=.ok (.lst (a++b)):=aJ h1 h2 (by
 show(if ϒ (a.length+b.length<=lim)&&θ a&&θ b then δ (ξ (a++b)) else .bad)=_;rw[bA,bg 0x1,ha,hb];rfl)
theorem vO(hd:∀a,(d a).pure=ag){a b:aa α}(h1:f ρ=.ok (.lst (a.map d)))(h2:g ρ=.ok (.lst (b.map d)))(hl:a.length+b.length<=100000):b2 (aW .add) f g ρ=.ok (.lst ((a++b).map d)):=(aNx h1 h2 (bN hd a) (bN hd b) (by rw[aE,aE];exact hl)).trans (by rw[bE])
theorem aF5(hd:∀a,(d a).pure=ag){a:α}(h:f ρ=.ok (d a)):j6 (aC f aR) ρ=.ok (.lst ([a].map d)):=by
 unfold j6;rw[show aC f aR ρ=.ok [d a] from aD h rfl,ε];have:(ϒ ([d a].length<=lim)&&θ [d a])=ag:=by
  rw[θ,hd a,bA];rfl
 rw[ar this];rfl
theorem vP(N:aa Str)(i:af):(sy N i).pure=ag:=rfl
theorem aGo(hd:∀a,(d a).pure=ag){l:aa α}{n:af}{x:α}(h:f ρ=.ok (.lst (l.map d)))(h1:e ρ=.ok (.int (n:af)))(hx:g ρ=.ok (d x))(hl:l.length<=1000) :
  b2 (aW .add) (b2 (aW .add) (eG f cF (bW e)) (j6 (aC g aR))) (eG f (bW (b2 (aW .add) e cO)) cF) ρ=.ok (.lst ((l.take n++x::l.drop (n+1)).map d)):=by
 have q:=vO hd (vO hd (toM hd h h1) (aF5 hd hx) (by rw[eW];simp;lia)) (frM hd h (n:=n+1) ((aOn h1 (g:=bC (.int 1)) rfl).trans rfl)) (by rw[bz,eW,i4];simp;lia);rw[q,cf];rfl
end
abbrev kd(N:aa Str)(K:aa af):D:=.lst (K.map (sy N))
abbrev md(N:aa Str)(M:aa Rw):D:=.lst (M.map (rwD N))
abbrev td(N:aa Str)(T:aa Tk):D:=.lst (T.map (tkD N))
abbrev rd(N:aa Str)(R:aa Ru):D:=.lst (R.map (ruD N))
abbrev sgD(N:aa Str)(K:aa af)(M:aa Rw)(T:aa Tk):D:=.lst [kd N K,md N M,td N T]
theorem o8{f:FE}{is os:aa af}{ρ xs:aa D}(h:f ρ=.ok (.lst xs))(h1:xs.length=is.length)(h2:XM os ρ (.lst xs)=ag){ρ':aa D}(he:MN is xs ρ=ρ'):N_ f is os ρ=.ok (.nx ρ'):=by
 unfold N_;rw[h,ε];dsimp only;rw[ar (by rw[bg h1,h2];rfl),he]
theorem wQ{i:af}{f:FE}{os:aa af}{ρ:aa D}{x:D}(h:f ρ=.ok x)(h2:XM os ρ x=ag){ρ':aa D}(he:ρ.set i x=ρ'):XN i f os ρ=.ok (.nx ρ'):=by
 unfold XN;rw[h,ε,ar h2,he]
theorem mU{f:FA}{ρ ds:aa D}(h:f ρ=.ok ds)(hl:ds.length<=100):v9 f ρ=.ok (.rt (.lst ds)):=by
 unfold v9;rw[h,ε,ar (bg hl)]
theorem aC7{ρ xs:aa D}:XM [] ρ (.lst xs)=ag:=rfl
theorem YJ(h:f ρ=.ok (.tup xs))(hp:θ xs=ag)(hn:0<n)(hl:n<=xs.length):eG f (bW (bC (.int n))) cF ρ=.ok (.tup (xs.drop n)):=by
 unfold eG;rw[h,ε,fL rfl,ε];have e0:∀d:af,vN xs.length d (ae (n:ai))=n:=λd=>by rw[wK];lia
 show(if !θ xs||ϒ (vN xs.length 0 (ae (n:ai))=0/\vN xs.length xs.length aj=xs.length) then ψ else δ (ν (cutD xs (ae (n:ai)) aj)))=_;rw[hp,e0,cg 0x1,aw 0x2,sU]
def sD(N:aa Str):Rw ⊕ Tk->D
 |.inl r=>rwD N r
 |.inr t=>tkD N t
noncomputable def sN:Rw ⊕ Tk->af
 |.inl r=>r.1
 |.inr t=>t.1
section
variable {N:aa Str} (H:Nm N) {K:aa af} {M:aa Rw} {T:aa Tk} {more:ai}
include H
theorem aC8:(sW (aC (bC (.str "copy")) (aC (bC (.str "drop")) aR))) ρ=.ok (.lst ([26,27].map (sy N))):=by
 show(if ϒ ([ι "copy",ι "drop"].length<=lim) then δ (ξ [.str "copy",.str "drop"]) else .bad)=δ (ξ [.str (N.getD 26 ""),.str (N.getD 27 "")]);rw[H.e26,H.e27,bA];rfl
theorem aNy(h0:0<K.length)(hl:K.length<=100):∃i o,i<K.length/\o∈[26,27]++K.take i/\gH [.int 0,.int more,sgD N K M T]=.ok (.lst [kd N (K.take i++o::K.drop (i+1)),md N M,td N T,sy N o]):=by
 have hi:=gR more h0;generalize hiq:ixm more K.length=i at hi;have ha:0<([26,27]++K.take i).length:=by simp
 have hj:=gR (more / 3) ha;generalize hjq:ixm (more / 3) ([26,27]++K.take i).length=j at hj;obtain⟨o,ho⟩:∃o,([26,27]++K.take i)[j]?=ae o:=⟨_,cq hj⟩
 refine⟨i,o,hi,ef ho,call_v ?_⟩;unfold l_;have al:([26,27]++K.take i).length<=1000:=by simp;lia
 have s0:tw0 [.int 0,.int more,sgD N K M T,.uD,.uD,.uD,.uD,.uD,.uD,.uD,.uD]=.ok (.nx [.int 0,.int more,sgD N K M T,kd N K,md N M,td N T,.uD,.uD,.uD,.uD,.uD]):=o8 rfl rfl rfl rfl;have s1:tw1 [.int 0,.int more,sgD N K M T,kd N K,md N M,td N T,.uD,.uD,.uD,.uD,.uD]=.ok (.nx [.int 0,.int more,sgD N K M T,kd N K,md N M,td N T,kd N [26,27],.uD,.uD,.uD,.uD]):=bB (aC8 H);have a0:ta0 [.int 0,.int more,sgD N K M T,kd N K,md N M,td N T,kd N [26,27],.uD,.uD,.uD,.uD]=.ok (.nx [.int 0,.int more,sgD N K M T,kd N K,md N M,td N T,kd N [26,27],.int i,.uD,.uD,.uD]):=bB ((KH rfl rfl h0).trans (by rw[hiq]));have a1:ta1 [.int 0,.int more,sgD N K M T,kd N K,md N M,td N T,kd N [26,27],.int i,.uD,.uD,.uD]=.ok (.nx [.int 0,.int more,sgD N K M T,kd N K,md N M,td N T,kd N ([26,27]++K.take i),.int i,.uD,.uD,.uD]):=bB (vO (vP N) rfl (toM (vP N) rfl rfl) (by rw[eW];simp;lia));have a2:ta2 [.int 0,.int more,sgD N K M T,kd N K,md N M,td N T,kd N ([26,27]++K.take i),.int i,.uD,.uD,.uD]=.ok (.nx [.int 0,.int more,sgD N K M T,kd N K,md N M,td N T,kd N ([26,27]++K.take i),.int i,sy N o,.uD,.uD]):=bZ (ixM rfl ((KH (DX rfl rfl 0x4) rfl ha).trans (by rw[hjq])) ho) rfl;have a3:ta3 [.int 0,.int more,sgD N K M T,kd N K,md N M,td N T,kd N ([26,27]++K.take i),.int i,sy N o,.uD,.uD]=.ok (.rt (.lst [kd N (K.take i++o::K.drop (i+1)),md N M,td N T,sy N o])):=mU (aD (aGo (vP N) rfl rfl rfl 0x1) (aD rfl 0x11)) 0x2;exact aG s0 (aG s1 (vG (lO rfl (aG a0 (aG a1 (aG a2 a3))))))
theorem aNz(h0:0<M.length)(hl:M.length<=100)(kl:K.length<=100)(m3:∀r∈M,r.2.2.length<=10):∃i o b,∃(hi:i<M.length),b.1=o/\(b.2.1=26\/b.2.1=M[i].2.1)/\b.2.2=M[i].2.2/\o∈[26,27]++K++(M.take i).map (λr:Rw=>r.1)/\gH [.int 1,.int more,sgD N K M T]=.ok (.lst [kd N K,md N (M.take i++b::M.drop (i+1)),td N T,sy N o]):=by
 have hi:=gR more h0;generalize hiq:ixm more M.length=i at hi;have ha:0<([26,27]++K++(M.take i).map (λr:Rw=>r.1)).length:=by simp
 have hj:=gR (more / 9) ha;generalize hjq:ixm (more / 9) ([26,27]++K++(M.take i).map (λr:Rw=>r.1)).length=j at hj;obtain⟨o,ho⟩:∃o,([26,27]++K++(M.take i).map (λr:Rw=>r.1))[j]?=ae o:=⟨_,cq hj⟩
 have hM:M[i]?=ae M[i]:=cq hi;generalize hr:M[i]=r at hM;obtain⟨b,hb1,hb2,hb3,hb⟩:∃b:Rw,b.1=o/\(b.2.1=26\/b.2.1=r.2.1)/\b.2.2=r.2.2/\b=(if more / 300 % 2=1 then (o,26,r.2.2) else (o,r.2.1,r.2.2)):=by
  split
  .exact⟨(o,26,r.2.2),rfl,.inl rfl,rfl,rfl⟩
  .exact⟨(o,r.2.1,r.2.2),rfl,.inr rfl,rfl,rfl⟩
 refine⟨i,o,b,hi,hb1,hr▸hb2,hr▸hb3,ef ho,call_v ?_⟩;unfold l_;have al:([26,27]++K++(M.take i).map (λr:Rw=>r.1)).length<=1000:=by simp;lia
 generalize hA:[26,27]++K++(M.take i).map (λr:Rw=>r.1)=A at ha hj ho al hjq;have s0:tw0 [.int 1,.int more,sgD N K M T,.uD,.uD,.uD,.uD,.uD,.uD,.uD,.uD]=.ok (.nx [.int 1,.int more,sgD N K M T,kd N K,md N M,td N T,.uD,.uD,.uD,.uD,.uD]):=o8 rfl rfl rfl rfl;have s1:tw1 [.int 1,.int more,sgD N K M T,kd N K,md N M,td N T,.uD,.uD,.uD,.uD,.uD]=.ok (.nx [.int 1,.int more,sgD N K M T,kd N K,md N M,td N T,kd N [26,27],.uD,.uD,.uD,.uD]):=bB (aC8 H);have s3:tw3 [.int 1,.int more,sgD N K M T,kd N K,md N M,td N T,kd N [26,27],.uD,.uD,.uD,.uD]=.ok (.nx [.int 1,.int more,sgD N K M T,kd N K,md N M,td N T,kd N [26,27],.uD,.uD,md N M,.uD]):=wQ rfl rfl rfl;have s4:tw4 [.int 1,.int more,sgD N K M T,kd N K,md N M,td N T,kd N [26,27],.uD,.uD,md N M,.uD]=.ok (.nx [.int 1,.int more,sgD N K M T,kd N K,md N M,td N T,kd N [26,27],.int i,.uD,md N M,.uD]):=bB ((KH rfl rfl h0).trans (by rw[hiq]));have s5:tw5 [.int 1,.int more,sgD N K M T,kd N K,md N M,td N T,kd N [26,27],.int i,.uD,md N M,.uD]=.ok (.nx [.int 1,.int more,sgD N K M T,kd N K,md N M,td N T,kd N A,.int i,.uD,md N M,.uD]):=by
  refine bB ?_;rw[<-hA];refine vO (vP N) (vO (vP N) rfl rfl (by simp;lia)) ?_ (by simp;lia);rw[cv];exact dI (rwD N) (λr:Rw=>sy N r.1) (M.take i) rfl ((cC (toM (cG N) rfl rfl)).trans rfl) (by rw[eW];lia) λr hr=>⟨aJ rfl rfl rfl,rfl⟩
 have s7:tw7 [.int 1,.int more,sgD N K M T,kd N K,md N M,td N T,kd N A,.int i,.uD,md N M,.uD]=.ok (.nx [.int 1,.int more,sgD N K M T,kd N K,md N M,td N T,kd N A,.int i,sy N o,md N M,.uD]):=bZ (ixM rfl ((KH (DX rfl rfl 0x4) rfl ha).trans (by rw[hjq])) ho) rfl;have hx:∀z,b2 getD gD fG [.int 1,.int more,sgD N K M T,kd N K,md N M,td N T,kd N A,.int i,sy N o,md N M,z]=.ok (rwD N r):=λz=>ixM rfl rfl hM
 have s8:tw8 [.int 1,.int more,sgD N K M T,kd N K,md N M,td N T,kd N A,.int i,sy N o,md N M,.uD]=.ok (.nx [.int 1,.int more,sgD N K M T,kd N K,md N M,td N T,kd N A,.int i,sy N o,md N M,rwD N (o,r.2.1,r.2.2)]):=bZ (i:=10) (aJ (dD (aD rfl rfl) (by rw[bA];simp)) (YJ (n:=1) (hx _) (cG N r) 0x1 0x2) (x_ (a:=[sy N o]) (b:=[sy N r.2.1,.tup (r.2.2.map (sy N))]) 0x2)) (cG ..);have s9:tw9 [.int 1,.int more,sgD N K M T,kd N K,md N M,td N T,kd N A,.int i,sy N o,md N M,rwD N (o,r.2.1,r.2.2)]=.ok (.nx [.int 1,.int more,sgD N K M T,kd N K,md N M,td N T,kd N A,.int i,sy N o,md N M,rwD N b]):=by
  have c:bTB (b2 (cX .eq) (b2 (aW .mod) (b2 (aW .fdiv) gC Z3) fQ) cO) [.int 1,.int more,sgD N K M T,kd N K,md N M,td N T,kd N A,.int i,sy N o,md N M,rwD N (o,r.2.1,r.2.2)]=.ok (more / 300 % 2==1):=eqI (KD (DX rfl rfl 0x4) rfl 0x4) rfl;rw[hb];by_cases g:more / 300 % 2=1
  .rw[ar g];refine lO (c.trans (by rw[g];rfl)) (bZ (i:=10) (aJ (x:=.tup [sy N o,sy N 26]) (dD (aD rfl (aD (x:=sy N 26) ?_ rfl)) (by rw[bA];simp)) (YJ (n:=2) (hx _) (cG N r) 0x1 0x2) (x_ (a:=[sy N o,sy N 26]) (b:=[.tup (r.2.2.map (sy N))]) 0x2)) (cG N (o,26,r.2.2)));show δ (ι "copy")=δ (ι (N.getD 26 ""));rw[H.e26]
  .rw[aw g];exact gW (c.trans (by rw[df.mpr g])) rfl
 have s10:aPq [.int 1,.int more,sgD N K M T,kd N K,md N M,td N T,kd N A,.int i,sy N o,md N M,rwD N b]=.ok (.nx [.int 1,.int more,sgD N K M T,kd N K,md N M,td N T,kd N A,.int i,sy N o,md N (M.take i++b::M.drop (i+1)),rwD N b]):=bB (i:=9) (aGo (d:=rwD N) (l:=M) (n:=i) (x:=b) (cG N) rfl rfl rfl 0x1);have s11:aQn [.int 1,.int more,sgD N K M T,kd N K,md N M,td N T,kd N A,.int i,sy N o,md N (M.take i++b::M.drop (i+1)),rwD N b]=.ok (.rt (.lst [kd N K,md N (M.take i++b::M.drop (i+1)),td N T,sy N o])):=lO rfl (mU (aD rfl (aD rfl 0x11)) 0x2);exact aG s0 (aG s1 (aG (gW rfl rfl) (aG s3 (aG s4 (aG s5 (aG (gW rfl rfl) (aG s7 (aG s8 (aG s9 (aG s10 (vG s11)))))))))))
theorem aO0(h0:0<T.length)(hl:T.length<=100)(ml:M.length<=100)(kl:K.length<=100):∃i o b,∃(hi:i<T.length),b.1=o/\(b.2.1=26\/b.2.1=T[i].2.1)/\b.2.2=T[i].2.2/\o∈[26,27]++K++(M.map (λr:Rw=>r.1)++(T.take i).map (λt:Tk=>t.1))/\gH [.int 2,.int more,sgD N K M T]=.ok (.lst [kd N K,md N M,td N (T.take i++b::T.drop (i+1)),sy N o]):=by
 have hi:=gR more h0;generalize hiq:ixm more T.length=i at hi;have ha:0<([26,27]++K++(M.map (λr:Rw=>r.1)++(T.take i).map (λt:Tk=>t.1))).length:=by simp
 have hj:=gR (more / 9) ha;generalize hjq:ixm (more / 9) ([26,27]++K++(M.map (λr:Rw=>r.1)++(T.take i).map (λt:Tk=>t.1))).length=j at hj;obtain⟨o,ho⟩:∃o,([26,27]++K++(M.map (λr:Rw=>r.1)++(T.take i).map (λt:Tk=>t.1)))[j]?=ae o:=⟨_,cq hj⟩
 have hM:T[i]?=ae T[i]:=cq hi;generalize hr:T[i]=r at hM;obtain⟨b,hb1,hb2,hb3,hb⟩:∃b:Tk,b.1=o/\(b.2.1=26\/b.2.1=r.2.1)/\b.2.2=r.2.2/\b=(if more / 300 % 2=1 then (o,26,r.2.2) else (o,r.2.1,r.2.2)):=by
  split
  .exact⟨(o,26,r.2.2),rfl,.inl rfl,rfl,rfl⟩
  .exact⟨(o,r.2.1,r.2.2),rfl,.inr rfl,rfl,rfl⟩
 refine⟨i,o,b,hi,hb1,hr▸hb2,hr▸hb3,ef ho,call_v ?_⟩;unfold l_;have al:([26,27]++K++(M.map (λr:Rw=>r.1)++(T.take i).map (λt:Tk=>t.1))).length<=1000:=by simp;lia
 generalize hA:[26,27]++K++(M.map (λr:Rw=>r.1)++(T.take i).map (λt:Tk=>t.1))=A at ha hj ho al hjq;have s0:tw0 [.int 2,.int more,sgD N K M T,.uD,.uD,.uD,.uD,.uD,.uD,.uD,.uD]=.ok (.nx [.int 2,.int more,sgD N K M T,kd N K,md N M,td N T,.uD,.uD,.uD,.uD,.uD]):=o8 rfl rfl rfl rfl;have s1:tw1 [.int 2,.int more,sgD N K M T,kd N K,md N M,td N T,.uD,.uD,.uD,.uD,.uD]=.ok (.nx [.int 2,.int more,sgD N K M T,kd N K,md N M,td N T,kd N [26,27],.uD,.uD,.uD,.uD]):=bB (aC8 H);have s3:tw3 [.int 2,.int more,sgD N K M T,kd N K,md N M,td N T,kd N [26,27],.uD,.uD,.uD,.uD]=.ok (.nx [.int 2,.int more,sgD N K M T,kd N K,md N M,td N T,kd N [26,27],.uD,.uD,td N T,.uD]):=wQ rfl rfl rfl;have s4:tw4 [.int 2,.int more,sgD N K M T,kd N K,md N M,td N T,kd N [26,27],.uD,.uD,td N T,.uD]=.ok (.nx [.int 2,.int more,sgD N K M T,kd N K,md N M,td N T,kd N [26,27],.int i,.uD,td N T,.uD]):=bB ((KH rfl rfl h0).trans (by rw[hiq]));obtain⟨z,s5⟩:∃z,tw5 [.int 2,.int more,sgD N K M T,kd N K,md N M,td N T,kd N [26,27],.int i,.uD,td N T,.uD]=.ok (.nx [.int 2,.int more,sgD N K M T,kd N K,md N M,td N T,z,.int i,.uD,td N T,.uD]):=by
  refine⟨_,bB (vO (b:=(M.take i).map (λr:Rw=>r.1)) (vP N) (vO (d:=sy N) (a:=[26,27]) (b:=K) (vP N) rfl rfl (by simp;lia)) ?_ (by simp;lia))⟩;rw[cv];exact dI (rwD N) (λr:Rw=>sy N r.1) (M.take i) rfl ((cC (toM (l:=M) (n:=i) (cG N) rfl rfl)).trans rfl) (by rw[eW];lia) λr hr=>⟨aJ rfl rfl rfl,rfl⟩
 have s6:tw6 [.int 2,.int more,sgD N K M T,kd N K,md N M,td N T,z,.int i,.uD,td N T,.uD]=.ok (.nx [.int 2,.int more,sgD N K M T,kd N K,md N M,td N T,kd N A,.int i,.uD,td N T,.uD]):=by
  refine lO rfl (bB (i:=6) ?_);rw[<-hA];refine vO (d:=sy N) (vP N) (vO (d:=sy N) (a:=[26,27]) (b:=K) (vP N) (aC8 H) rfl (by simp;lia)) ?_ (by simp;lia);have e:(M.map (λr:Rw=>r.1)++(T.take i).map (λt:Tk=>t.1)).map (sy N)=(M.map fE++(T.take i).map d6).map (λx=>sy N (sN x)):=by simp[bE,cv,oB,sN]
  rw[e];refine dI (kk:=ag) (sD N) (λx=>sy N (sN x)) (M.map fE++(T.take i).map d6) rfl ((cC (aNx (a:=M.map (rwD N)) (b:=(T.take i).map (tkD N)) rfl (toM (l:=T) (n:=i) (d_ N) rfl rfl) (bN (cG N) _) (bN (d_ N) _) (by simp;lia))).trans ?_) (by simp;lia) λx hx=>⟨by cases x<;>exact aJ rfl rfl rfl,rfl⟩
  rw[bE,cv,cv];rfl
 have s7:tw7 [.int 2,.int more,sgD N K M T,kd N K,md N M,td N T,kd N A,.int i,.uD,td N T,.uD]=.ok (.nx [.int 2,.int more,sgD N K M T,kd N K,md N M,td N T,kd N A,.int i,sy N o,td N T,.uD]):=bZ (i:=8) (ixM (d:=sy N) (l:=A) (i:=j) rfl ((KH (l:=A) (d:=sy N) (v:=more / 9) (DX rfl rfl 0x4) rfl ha).trans (by rw[hjq])) ho) rfl;have hx:∀z,b2 getD gD fG [.int 2,.int more,sgD N K M T,kd N K,md N M,td N T,kd N A,.int i,sy N o,td N T,z]=.ok (tkD N r):=λz=>ixM (d:=tkD N) (l:=T) (i:=i) rfl rfl hM
 have s8:tw8 [.int 2,.int more,sgD N K M T,kd N K,md N M,td N T,kd N A,.int i,sy N o,td N T,.uD]=.ok (.nx [.int 2,.int more,sgD N K M T,kd N K,md N M,td N T,kd N A,.int i,sy N o,td N T,tkD N (o,r.2.1,r.2.2)]):=bZ (i:=10) (aJ (dD (aD rfl rfl) (by rw[bA];simp)) (YJ (n:=1) (hx _) (d_ N r) 0x1 0x2) (x_ (a:=[sy N o]) (b:=[sy N r.2.1,sy N r.2.2.1,.tup (r.2.2.2.map (sy N))]) 0x2)) (d_ ..);have s9:tw9 [.int 2,.int more,sgD N K M T,kd N K,md N M,td N T,kd N A,.int i,sy N o,td N T,tkD N (o,r.2.1,r.2.2)]=.ok (.nx [.int 2,.int more,sgD N K M T,kd N K,md N M,td N T,kd N A,.int i,sy N o,td N T,tkD N b]):=by
  have c:bTB (b2 (cX .eq) (b2 (aW .mod) (b2 (aW .fdiv) gC Z3) fQ) cO) [.int 2,.int more,sgD N K M T,kd N K,md N M,td N T,kd N A,.int i,sy N o,td N T,tkD N (o,r.2.1,r.2.2)]=.ok (more / 300 % 2==1):=eqI (KD (DX rfl rfl 0x4) rfl 0x4) rfl;rw[hb];by_cases g:more / 300 % 2=1
  .rw[ar g];refine lO (c.trans (by rw[g];rfl)) (bZ (i:=10) (aJ (x:=.tup [sy N o,sy N 26]) (dD (aD rfl (aD (x:=sy N 26) ?_ rfl)) (by rw[bA];simp)) (YJ (n:=2) (hx _) (d_ N r) 0x1 0x2) (x_ (a:=[sy N o,sy N 26]) (b:=[sy N r.2.2.1,.tup (r.2.2.2.map (sy N))]) 0x2)) (d_ N (o,26,r.2.2)));show δ (ι "copy")=δ (ι (N.getD 26 ""));rw[H.e26]
  .rw[aw g];exact gW (c.trans (by rw[df.mpr g])) rfl
 have s10:aPq [.int 2,.int more,sgD N K M T,kd N K,md N M,td N T,kd N A,.int i,sy N o,td N T,tkD N b]=.ok (.nx [.int 2,.int more,sgD N K M T,kd N K,md N M,td N T,kd N A,.int i,sy N o,td N (T.take i++b::T.drop (i+1)),tkD N b]):=bB (i:=9) (aGo (d:=tkD N) (l:=T) (n:=i) (x:=b) (d_ N) rfl rfl rfl 0x1);have s12:aQo [.int 2,.int more,sgD N K M T,kd N K,md N M,td N T,kd N A,.int i,sy N o,td N (T.take i++b::T.drop (i+1)),tkD N b]=.ok (.rt (.lst [kd N K,md N M,td N (T.take i++b::T.drop (i+1)),sy N o])):=mU (aD rfl (aD rfl 0x11)) 0x2;exact aG s0 (aG s1 (aG (gW rfl rfl) (aG s3 (aG s4 (aG s5 (aG s6 (aG s7 (aG s8 (aG s9 (aG s10 (aG (gW rfl rfl) s12)))))))))))
end
theorem S_{l:aa α}{a:α}{f:FE}{ρ:aa D}(h:f ρ=.ok (.lst (l.map d)))(hl:l.getLast?=ae a):b2 getD f (b1 B_ cO) ρ=.ok (d a):=by
 refine aJ h rfl ?_;have hp:0<l.length:=by cases l with
  |nil=>cases hl
  |cons _ _=>simp
 show π ((ixD (l.map d).length (-1)).bind λj=>(l.map d)[j]?)=_;unfold ixD;rw[aw 0x1,ar (by rw[aE];lia),aE,wz,show((-1:ai)+l.length).toNat=l.length-1 by lia,ly,<-Bu,hl];rfl
theorem aC9{α:Type}{d:α->D}(hd:∀a,(d a).pure=ag){l:aa α}{f:FE}{ρ:aa D}(h:f ρ=.ok (.lst (l.map d)))(hl:0<l.length):eG f cF (bW (b1 B_ cO)) ρ=.ok (.lst (l.dropLast.map d)):=by
 refine(nY h rfl (fL rfl) (bN hd l)).trans ?_;have e0:∀x,vN (l.map d).length x (ae (-1))=l.length-1:=λx=>by
  unfold vN;dsimp only;rw[aE];split<;>lia
 have:cutD (l.map d) aj (ae (-1))=(l.map d).take (l.length-1):=by
  unfold cutD;rw[e0,yH];rfl
 rw[this,<-iz,kU]
structure RwI(N:aa Str){α:Type}(d:α->D)(nm:α->af)(fl:α->aa af)(mk:af->aa af->α)(c:af):Prop where
 p:∀a,(d a).pure=ag
 f1:∀(f:FE)(ρ:aa D)(a:α),f ρ=.ok (d a)->(fl a).length<=100->b2 (aW .add) (aX yR (aC (eG f (bW cO) (bW (b1 B_ cO))) aR)) (aX yR (aC (b2 getD f (b1 B_ cO)) aR)) ρ=.ok (.lst ((fl a).map (sy N)))
 f2:∀(f:FE)(ρ:aa D)(a:α),f ρ=.ok (d a)->b2 (aW .sub) (aX h_ (aC f aR)) fQ ρ=.ok (.int (c:af))
 f3:∀(f g h:FE)(ρ:aa D)(a:α)(F:aa af),f ρ=.ok (d a)->g ρ=.ok (.lst (F.map (sy N)))->h ρ=.ok (.int (c:af))->F.length=(fl a).length->F.length<=100->b2 nD (b2 nD (fM (aC (b2 getD f eU) aR)) (aX gU (aC (eG g cF (bW h)) aR))) (fM (aC (aX gU (aC (eG g (bW h) cF) aR)) aR)) ρ=.ok (d (mk (nm a) F))
 f4:∀(f g:FE)(ρ:aa D)(a:α)(x:af),f ρ=.ok (sy N x)->g ρ=.ok (d a)->b2 nD (fM (aC f aR)) (eG g (bW cO) cF) ρ=.ok (d (mk x (fl a)))
 f5:∀(f:FE)(ρ:aa D)(a:α),f ρ=.ok (d a)->b2 getD f eU ρ=.ok (sy N (nm a))
 f6:∀a,0<(fl a).length
 f7:∀x F,nm (mk x F)=x
noncomputable def flR(r:Rw):aa af:=r.2.1::r.2.2
noncomputable def flT(t:Tk):aa af:=t.2.1::t.2.2.1::t.2.2.2
noncomputable def ofR(n:af)(F:aa af):Rw:=(n,F.headD 0,F.tail)
noncomputable def ofT(n:af)(F:aa af):Tk:=(n,F.headD 0,F.tail.headD 0,F.tail.tail)
theorem aJk(h:f ρ=.ok (.lst xs)):aX gU (aC f aR) ρ=.ok (.tup xs):=cU (aD h rfl) rfl
theorem aQ6(h:f ρ=.ok (.tup xs))(hp:θ xs=ag):aX yR (aC f aR) ρ=.ok (.lst xs):=cU (aD h rfl) (by
 show(if θ xs then δ (ξ xs) else .bad)=_;rw[hp];rfl)
theorem aJl(h:f ρ=.ok (.tup xs))(hp:θ xs=ag)(hl:2<=xs.length):eG f (bW cO) (bW (b1 B_ cO)) ρ=.ok (.tup ((xs.drop 1).take (xs.length-2))):=by
 unfold eG;rw[h,ε,fL rfl,ε,fL rfl,ε];have e1:∀d,vN xs.length d (ae (1:ai))=1:=λd=>(wK xs.length d 1).trans 0x1
 have e2:∀d,vN xs.length d (ae (-1:ai))=xs.length-1:=λd=>by
  unfold vN;dsimp only;split<;>lia
 show(if !θ xs||ϒ (vN xs.length 0 (ae (1:ai))=0/\vN xs.length xs.length (ae (-1:ai))=xs.length) then ψ else δ (ν (cutD xs (ae (1:ai)) (ae (-1:ai)))))=_;rw[hp,e1,cg 0x1,aw 0x2];unfold cutD;rw[e1,e2];rfl
theorem aRc{F:aa af}(hf:b2 getD f eU ρ=.ok (sy N n))(hg:g ρ=.ok (.lst (F.map (sy N))))(hh:h ρ=.ok (.int (c:af)))(h100:F.length<=100):b2 nD (b2 nD (fM (aC (b2 getD f eU) aR)) (aX gU (aC (eG g cF (bW h)) aR))) (fM (aC (aX gU (aC (eG g (bW h) cF) aR)) aR)) ρ=.ok (.tup (sy N n::(F.take c).map (sy N)++[.tup ((F.drop c).map (sy N))])):=by
 have p1:=aJk (toM (vP N) hg hh);have p2:=aJk (frM (vP N) hg hh);exact aJ (aJ (dD (aD hf rfl) (by rw[bA];simp)) p1 (x_ (by simp;lia))) (dD (aD p2 rfl) (by rw[bA];simp)) (x_ (by simp;lia))
theorem aCa{l:aa af}{x y:D}(h:f ρ=.ok (.tup (x::a++[.tup (l.map (sy N))])))(ha:θ a=ag)(hx:x.pure=ag)(hl:a.length+l.length<=1000):b2 (aW .add) (aX yR (aC (eG f (bW cO) (bW (b1 B_ cO))) aR)) (aX yR (aC (b2 getD f (b1 B_ cO)) aR)) ρ=.ok (.lst (a++l.map (sy N))):=by
 have hp:θ (x::a++[.tup (l.map (sy N))])=ag:=by
  have e:∀b:aa D,θ b=ag->θ (b++[.tup (l.map (sy N))])=ag:=λb=>by
   induction b with
   |nil=>intro _;rw[gN,θ,χ,cD];rfl
   |cons z b ih=>intro hb;rw[θ,bf] at hb;rw[gz,θ,hb.1,ih hb.2];rfl
  rw[gz,θ,hx,e a ha];rfl
 have h1:=aQ6 (aJl h hp 0x2) (by rw[show((x::a++[ν (l.map (sy N))]).drop 1).take ((x::a++[ν (l.map (sy N))]).length-2)=a by simp];exact ha);rw[show((x::a++[ν (l.map (sy N))]).drop 1).take ((x::a++[ν (l.map (sy N))]).length-2)=a by simp] at h1;have h2:b2 getD f (b1 B_ cO) ρ=.ok (.tup (l.map (sy N))):=by
  refine aJ h rfl ?_;show π ((ixD (x::a++[ν (l.map (sy N))]).length (-1)).bind λj=>(x::a++[ν (l.map (sy N))])[j]?)=_;unfold ixD;rw[aw 0x1,ar (by simp;lia),wz,show((-1:ai)+(x::a++[ν (l.map (sy N))]).length).toNat=(x::a).length by simp;lia,eJ (br _),sM];rfl
 exact aNx h1 (aQ6 h2 (cD ..)) ha (cD ..) (by rw[aE];lia)
theorem rwI(N:aa Str):RwI N (rwD N) (·.1) flR ofR 1 where
 p:=cG N
 f1 f ρ r h hl:=aCa (y:=.non) (a:=[sy N r.2.1]) (l:=r.2.2) h rfl rfl (by unfold flR at hl;simp at hl ⊢;lia)
 f2 f ρ r h:=(aJj (b:=2) (aQ4 (xs:=[sy N r.1,sy N r.2.1,.tup (r.2.2.map (sy N))]) h) rfl).trans rfl
 f3 f g h ρ r F hf hg hh hl h100:=by
  obtain⟨x,F,rfl⟩:∃x G,F=x::G:=by cases F with
   |nil=>unfold flR at hl;simp at hl
   |cons x G=>exact⟨x,G,rfl⟩
  exact aRc (n:=r.1) (c:=1) (F:=x::F) (aJ hf rfl rfl) hg hh h100
 f4 f g ρ r x hf hg:=aJ (dD (aD hf rfl) (by rw[bA];simp)) (YJ (n:=1) hg (cG N r) 0x1 0x2) (x_ (a:=[sy N x]) (b:=[sy N r.2.1,.tup (r.2.2.map (sy N))]) 0x2)
 f5 f ρ r h:=aJ h rfl rfl
 f6 r:=by unfold flR;simp
 f7 _ _:=rfl
theorem tkI(N:aa Str):RwI N (tkD N) (·.1) flT ofT 2 where
 p:=d_ N
 f1 f ρ r h hl:=aCa (y:=.non) (a:=[sy N r.2.1,sy N r.2.2.1]) (l:=r.2.2.2) h rfl rfl (by unfold flT at hl;simp at hl ⊢;lia)
 f2 f ρ r h:=(aJj (b:=2) (aQ4 (xs:=[sy N r.1,sy N r.2.1,sy N r.2.2.1,.tup (r.2.2.2.map (sy N))]) h) rfl).trans rfl
 f3 f g h ρ r F hf hg hh hl h100:=by
  obtain⟨x,y,F,rfl⟩:∃x y G,F=x::y::G:=by cases F with
   |nil=>unfold flT at hl;simp at hl
   |cons x G=>cases G with
    |nil=>unfold flT at hl;simp at hl
    |cons y G=>exact⟨x,y,G,rfl⟩
  exact aRc (n:=r.1) (c:=2) (F:=x::y::F) (aJ hf rfl rfl) hg hh h100
 f4 f g ρ r x hf hg:=aJ (dD (aD hf rfl) (by rw[bA];simp)) (YJ (n:=1) hg (d_ N r) 0x1 0x2) (x_ (a:=[sy N x]) (b:=[sy N r.2.1,sy N r.2.2.1,.tup (r.2.2.2.map (sy N))]) 0x2)
 f5 f ρ r h:=aJ h rfl rfl
 f6 r:=by unfold flT;simp
 f7 _ _:=rfl
theorem aQ7(h:i<n):ixD n (i:ai)=ae i:=by
 unfold ixD;rw[ar 0x1,ar 0x1];simp
section
variable {N:aa Str} (H:Nm N) {K St:aa af} {M:aa Rw} {T:aa Tk} {chc more extra:ai}
include H
abbrev nst(N:aa Str)(K St:aa af)(M:aa Rw)(T:aa Tk)(chc more extra:ai)(x8 x9 x10 x11 x12 x13 x14 x15:D):aa D:=[.int chc,.int more,.int extra,sgD N K M T,kd N St,kd N K,md N M,td N T,x8,x9,x10,x11,x12,x13,x14,x15]
theorem aCb{mk:af->aa af->α}{c:af}(I:RwI N d nm fl mk c){L:aa α}(h0:0<L.length)(hl:L.length<=100)(hf:∀a∈L,(fl a).length<=50)(ml:M.length<=100)(tl:T.length<=100)(sl:St.length<=100)(s0:0<St.length) :
  ∃i o p s L2,∃hi:i<L.length,p<(fl L[i]).length/\p+1+s.length=(fl L[i]).length/\(∀x∈s,x∈fl L[i]\/x=27)/\o∈St++(M.map (λr:Rw=>r.1)++T.map (λt:Tk=>t.1))/\(∀a∈L2,a∈L\/∃b∈L,∃x∈L.map nm,a=mk x (fl b))/\L2.length<=L.length/\
   ∃x9 x10 x11 x12 x13 x15,∀k:FS,(a_ nk2 (a_ nk3 (a_ nk4 (a_ nk5 (a_ nk6 (a_ nk7 (a_ nk8 (a_ nk9 (a_ aPs (a_ aPr (a_ aOj k))))))))))) (nst N K St M T chc more extra (.lst (L.map d)) .uD .uD .uD .uD .uD .uD .uD)=k (nst N K St M T chc more extra (.lst ((L.take i++mk (nm L[i]) ((fl L[i]).take p++o::s)::L2).map d)) x9 x10 x11 x12 x13 (sy N o) x15):=by
 have hi:=gR more h0;generalize hiq:ixm more L.length=i at hi;have hL:L[i]?=ae L[i]:=cq hi;have hLm:L[i]∈L:=dA hi;generalize hr:L[i]=r at hL hLm;have hF0:=I.f6 r;have hF1:=hf r hLm;have hp:=gR (more / 9) hF0;generalize hpq:ixm (more / 9) (fl r).length=p at hp;generalize hE:St++(M.map (λr:Rw=>r.1)++T.map (λt:Tk=>t.1))=E;have hE0:0<E.length:=by rw[<-hE];simp;lia
 have hE1:E.length<=1000:=by rw[<-hE];simp;lia
 have hj:=gR (more / 45) hE0;generalize hjq:ixm (more / 45) E.length=j at hj;obtain⟨o,ho⟩:∃o,E[j]?=ae o:=⟨_,cq hj⟩
 have hset:((fl r).map (sy N)).set p (sy N o)=((fl r).take p++o::(fl r).drop (p+1)).map (sy N):=by
  rw[List.set_eq_take_append_cons_drop,ar (by rw[aE];exact hp),bE,bc,iz,kG]
 generalize hs:(if extra % 2=1 then ((fl r).drop (p+1)).map (λ_=>27) else (fl r).drop (p+1))=s;have hsl:p+1+s.length=(fl r).length:=by rw[<-hs];split<;>simp<;>lia
 have hsm:∀x∈s,x∈fl r\/x=27:=λx hx=>by
  rw[<-hs] at hx;split at hx
  .obtain⟨_,_,rfl⟩:=b9.mp hx;exact .inr rfl
  .exact .inl (fA hx)
 have hbl:((fl r).take p++o::s).length=(fl r).length:=by simp;lia
 generalize hb:mk (nm r) ((fl r).take p++o::s)=b;have hnb:nm b=nm r:=by rw[<-hb,I.f7]
 have e2:nk2 (nst N K St M T chc more extra (.lst (L.map d)) .uD .uD .uD .uD .uD .uD .uD)=.ok (.nx (nst N K St M T chc more extra (.lst (L.map d)) (.int i) .uD .uD .uD .uD .uD .uD)):=bB ((KH rfl rfl h0).trans (by rw[hiq]));have e3:nk3 (nst N K St M T chc more extra (.lst (L.map d)) (.int i) .uD .uD .uD .uD .uD .uD)=.ok (.nx (nst N K St M T chc more extra (.lst (L.map d)) (.int i) (d r) .uD .uD .uD .uD .uD)):=bZ (ixM rfl rfl hL) (I.p r);have v10:∀x11 x12 x13 x14 x15,cV 10 (nst N K St M T chc more extra (.lst (L.map d)) (.int i) (d r) x11 x12 x13 x14 x15)=.ok (d r):=λ_ _ _ _ _=>by
  have:=I.p r;show(match d r with|.uD=>ψ|d=>.ok d)=_;cases hd:d r<;>first|rfl|(rw[hd] at this;cases this)
 have e4:nk4 (nst N K St M T chc more extra (.lst (L.map d)) (.int i) (d r) .uD .uD .uD .uD .uD)=.ok (.nx (nst N K St M T chc more extra (.lst (L.map d)) (.int i) (d r) (.lst ((fl r).map (sy N))) .uD .uD .uD .uD)):=fZ (I.f1 _ _ r (v10 ..) 0x1) (cD ..);have e5:nk5 (nst N K St M T chc more extra (.lst (L.map d)) (.int i) (d r) (.lst ((fl r).map (sy N))) .uD .uD .uD .uD)=.ok (.nx (nst N K St M T chc more extra (.lst (L.map d)) (.int i) (d r) (.lst ((fl r).map (sy N))) (.int p) .uD .uD .uD)):=bB ((KH (DX rfl rfl 0x4) rfl hF0).trans (by rw[hpq]));have e6:nk6 (nst N K St M T chc more extra (.lst (L.map d)) (.int i) (d r) (.lst ((fl r).map (sy N))) (.int p) .uD .uD .uD)=.ok (.nx (nst N K St M T chc more extra (.lst (L.map d)) (.int i) (d r) (.lst ((fl r).map (sy N))) (.int p) (kd N E) .uD .uD)):=by
  refine bB (i:=13) ?_;rw[<-hE];refine vO (d:=sy N) (a:=St) (vP N) rfl ?_ (by simp;lia);have e:(M.map (λr:Rw=>r.1)++T.map (λt:Tk=>t.1)).map (sy N)=(M.map fE++T.map d6).map (λx=>sy N (sN x)):=by simp[bE,cv,oB,sN]
  rw[e];refine dI (kk:=ag) (sD N) (λx=>sy N (sN x)) (M.map fE++T.map d6) rfl ((cC (aNx (a:=M.map (rwD N)) (b:=T.map (tkD N)) rfl rfl (bN (cG N) _) (bN (d_ N) _) (by simp;lia))).trans ?_) (by simp;lia) λx hx=>⟨by cases x<;>exact aJ rfl rfl rfl,rfl⟩
  rw[bE,cv,cv];rfl
 have e7:nk7 (nst N K St M T chc more extra (.lst (L.map d)) (.int i) (d r) (.lst ((fl r).map (sy N))) (.int p) (kd N E) .uD .uD)=.ok (.nx (nst N K St M T chc more extra (.lst (L.map d)) (.int i) (d r) (.lst ((fl r).map (sy N))) (.int p) (kd N E) (sy N o) .uD)):=bZ (i:=14) (ixM (d:=sy N) (l:=E) (i:=j) rfl ((KH (l:=E) (d:=sy N) (v:=more / 45) (DX rfl rfl 0x4) rfl hE0).trans (by rw[hjq])) ho) rfl;have e8:nk8 (nst N K St M T chc more extra (.lst (L.map d)) (.int i) (d r) (.lst ((fl r).map (sy N))) (.int p) (kd N E) (sy N o) .uD)=.ok (.nx (nst N K St M T chc more extra (.lst (L.map d)) (.int i) (d r) (kd N ((fl r).take p++o::(fl r).drop (p+1))) (.int p) (kd N E) (sy N o) .uD)):=aBm (i:=11) (xs:=(fl r).map (sy N)) (d:=sy N o) (k:=(p:af)) (j:=p) rfl rfl rfl rfl (aQ7 (by rw[aE];exact hp)) (by rw[hset];rfl);have e9:nk9 (nst N K St M T chc more extra (.lst (L.map d)) (.int i) (d r) (kd N ((fl r).take p++o::(fl r).drop (p+1))) (.int p) (kd N E) (sy N o) .uD)=.ok (.nx (nst N K St M T chc more extra (.lst (L.map d)) (.int i) (d r) (kd N ((fl r).take p++o::s)) (.int p) (kd N E) (sy N o) .uD)):=by
  have cc:bTB (b2 (cX .eq) (b2 (aW .mod) dW fQ) cO) (nst N K St M T chc more extra (.lst (L.map d)) (.int i) (d r) (kd N ((fl r).take p++o::(fl r).drop (p+1))) (.int p) (kd N E) (sy N o) .uD)=.ok (extra % 2==1):=eqI (KD rfl rfl 0x4) rfl;by_cases g:extra % 2=1
  .rw[ar g] at hs;rw[<-hs];refine lO (cc.trans (by rw[g];rfl)) (fZ (i:=11) ?_ (cD ..));have ht:((fl r).take p++o::(fl r).drop (p+1)).take (p+1)=(fl r).take p++[o]:=by
    rw[List.take_append,mT (by simp;lia),eW,show p+1-min p (fl r).length=1 by lia];rfl
   have hd':((fl r).take p++o::(fl r).drop (p+1)).drop (p+1)=(fl r).drop (p+1):=by
    rw[List.drop_append,List.drop_of_length_le (by simp;lia),eW,show p+1-min p (fl r).length=1 by lia];rfl
   have q1:=toM (d:=sy N) (l:=(fl r).take p++o::(fl r).drop (p+1)) (n:=p+1) (vP N) (f:=cV 11) (e:=b2 (aW .add) mJ cO) (ρ:=nst N K St M T chc more extra (.lst (L.map d)) (.int i) (d r) (kd N ((fl r).take p++o::(fl r).drop (p+1))) (.int p) (kd N E) (sy N o) .uD) rfl rfl;have q2:=frM (d:=sy N) (l:=(fl r).take p++o::(fl r).drop (p+1)) (n:=p+1) (vP N) (f:=cV 11) (e:=b2 (aW .add) mJ cO) (ρ:=nst N K St M T chc more extra (.lst (L.map d)) (.int i) (d r) (kd N ((fl r).take p++o::(fl r).drop (p+1))) (.int p) (kd N E) (sy N o) .uD) rfl rfl;rw[ht] at q1;rw[hd'] at q2;have q3:=dI (n:=16) (f:=bC (.str "drop")) (k:=ag) (sy N) (λ_:af=>ι "drop") ((fl r).drop (p+1)) rfl ((cC (fr:=ag) q2).trans rfl) (by rw[i4];lia) λ_ _=>⟨rfl,rfl⟩
   have e27:((fl r).drop (p+1)).map (λ_:af=>ι "drop")=(((fl r).drop (p+1)).map (λ_=>27)).map (sy N):=by
    rw[cv];refine zS λx _=>?_
    show ι "drop"=ι (N.getD 27 "");rw[H.e27]
   rw[e27] at q3;have q4:=vO (d:=sy N) (vP N) q1 q3 (by simp;lia);rw[cf] at q4;exact q4
  .rw[aw g] at hs;rw[<-hs];exact gW (cc.trans (by rw[df.mpr g])) rfl
 have e10:aPs (nst N K St M T chc more extra (.lst (L.map d)) (.int i) (d r) (kd N ((fl r).take p++o::s)) (.int p) (kd N E) (sy N o) .uD)=.ok (.nx (nst N K St M T chc more extra (.lst (L.map d)) (.int i) (d r) (kd N ((fl r).take p++o::s)) (.int p) (kd N E) (sy N o) (.int (c:af)))):=bB (i:=15) (I.f2 _ _ r (v10 ..));have e11:aPr (nst N K St M T chc more extra (.lst (L.map d)) (.int i) (d r) (kd N ((fl r).take p++o::s)) (.int p) (kd N E) (sy N o) (.int (c:af)))=.ok (.nx (nst N K St M T chc more extra (.lst ((L.take i++b::L.drop (i+1)).map d)) (.int i) (d r) (kd N ((fl r).take p++o::s)) (.int p) (kd N E) (sy N o) (.int (c:af)))):=bB (i:=8) (aGo (d:=d) (l:=L) (n:=i) (x:=b) I.p rfl rfl (by rw[<-hb];exact I.f3 _ _ _ _ r _ (v10 ..) rfl rfl hbl 0x1) 0x1);have hlen:(L.take i++b::L.drop (i+1)).length=L.length:=by simp;lia
 have v8:∀(X:aa α) ρ,cV 8 (nst N K St M T chc more extra (.lst (X.map d)) (.int i) (d r) (kd N ((fl r).take p++o::s)) (.int p) (kd N E) (sy N o) (.int (c:af))++ρ)=.ok (.lst (X.map d)):=λ_ _=>rfl
 have cc:(KY (bTB (b2 (cX .eq) (b2 (aW .mod) (b2 (aW .fdiv) dW fQ) fQ) cO)) (bTB (b2 (zR .lt) (b2 (aW .add) gD cO) (aX h_ (aC jO aR))))) (nst N K St M T chc more extra (.lst ((L.take i++b::L.drop (i+1)).map d)) (.int i) (d r) (kd N ((fl r).take p++o::s)) (.int p) (kd N E) (sy N o) (.int (c:af)))=.ok ((extra / 2 % 2==1)&&ϒ (i+1<L.length)):=by
  have c1:(bTB (b2 (cX .eq) (b2 (aW .mod) (b2 (aW .fdiv) dW fQ) fQ) cO)) (nst N K St M T chc more extra (.lst ((L.take i++b::L.drop (i+1)).map d)) (.int i) (d r) (kd N ((fl r).take p++o::s)) (.int p) (kd N E) (sy N o) (.int (c:af)))=.ok (extra / 2 % 2==1):=eqI (KD (DX rfl rfl 0x4) rfl 0x4) rfl;by_cases g:(extra / 2 % 2==1)=ag
  .rw[g] at c1 ⊢;refine xQ c1 (dO (aJ (aOn rfl rfl) (aF4 (l:=L.take i++b::L.drop (i+1)) (d:=d) rfl) ((GD _ _).trans ?_)));rw[hlen,jt]
   congr 2
   rw[decide_eq_decide];lia
  .rw[xp] at g;rw[g] at c1 ⊢;exact NB c1
 by_cases hc:((extra / 2 % 2==1)&&ϒ (i+1<L.length))=ag
 .rw[bf] at hc;have hi1:=c9 hc.2;have hdl:(L.drop (i+1))≠[]:=λz=>by have:=dw lx z;simp at this;lia
  obtain⟨y,hy⟩:∃y,(L.take i++b::L.drop (i+1)).getLast?=ae y:=by
   cases hq:(L.take i++b::L.drop (i+1)).getLast? with
   |none=>rw[xq] at hq;simp at hq
   |some y=>exact⟨y,rfl⟩
  have hyL:y∈L:=by
   rw[Bu,hlen,eJ (by simp;lia),eW,show L.length-1-min i L.length=(L.length-2-i)+1 by lia,List.getElem?_cons_succ] at hy;exact fA (ef hy)
  obtain⟨x,hx,hxm⟩:∃x:α,(L.take i++b::L.drop (i+1))[0]?=ae x/\nm x∈L.map nm:=by
   by_cases z:i=0
   .subst z;refine⟨b,by simp,?_⟩;rw[hnb];exact eg hLm
   .have:0<(L.take i).length:=by simp;lia
    refine⟨L[0],?_,eg (dA h0)⟩;rw[gq this,yx 0x1,cq h0]
  refine⟨i,o,p,s,(L.drop (i+1)).dropLast++[mk (nm x) (fl y)],hi,by rw[hr];exact hp,by rw[hr];exact hsl,by rw[hr];exact hsm,ef ho,λa ha=>?_,by simp;lia,.int i,d r,kd N ((fl r).take p++o::s),.int p,kd N E,.int (c:af),λk=>?_⟩
  .rcases bo.mp ha with g|g
   .exact .inl (fA ((xr _).subset g))
   .rw[fw] at g;exact .inr ⟨y,hyL,nm x,hxm,g⟩
  .rw[hr,hb];have e12:aOj (nst N K St M T chc more extra (.lst ((L.take i++b::L.drop (i+1)).map d)) (.int i) (d r) (kd N ((fl r).take p++o::s)) (.int p) (kd N E) (sy N o) (.int (c:af)))=.ok (.nx (nst N K St M T chc more extra (.lst ((L.take i++b::((L.drop (i+1)).dropLast++[mk (nm x) (fl y)])).map d)) (.int i) (d r) (kd N ((fl r).take p++o::s)) (.int p) (kd N E) (sy N o) (.int (c:af)))):=by
    refine lO (cc.trans (by rw[hc.1,hc.2];rfl)) (bB (i:=8) ?_);have q:=vO (d:=d) I.p (aC9 I.p (f:=cV 8) (l:=L.take i++b::L.drop (i+1)) (ρ:=nst N K St M T chc more extra (.lst ((L.take i++b::L.drop (i+1)).map d)) (.int i) (d r) (kd N ((fl r).take p++o::s)) (.int p) (kd N E) (sy N o) (.int (c:af))) rfl 0x1) (aF5 (d:=d) I.p (I.f4 _ _ _ y (nm x) (I.f5 _ _ x (ixM (f:=cV 8) (e:=bC (.int 0)) (l:=L.take i++b::L.drop (i+1)) (i:=0) rfl rfl hx)) (S_ (f:=cV 8) (l:=L.take i++b::L.drop (i+1)) rfl hy))) (by simp;lia);rw[sQ 0x2,xt hdl,cf,gz] at q;exact q
   exact aG e2 (aG e3 (aG e4 (aG e5 (aG e6 (aG e7 (aG e8 (aG e9 (aG e10 (aG e11 (aG e12 rfl))))))))))
 .rw[xp] at hc;refine⟨i,o,p,s,L.drop (i+1),hi,by rw[hr];exact hp,by rw[hr];exact hsl,by rw[hr];exact hsm,ef ho,λa ha=>.inl (fA ha),by simp,.int i,d r,kd N ((fl r).take p++o::s),.int p,kd N E,.int (c:af),λk=>?_⟩;rw[hr,hb];have e12:aOj (nst N K St M T chc more extra (.lst ((L.take i++b::L.drop (i+1)).map d)) (.int i) (d r) (kd N ((fl r).take p++o::s)) (.int p) (kd N E) (sy N o) (.int (c:af)))=.ok (.nx (nst N K St M T chc more extra (.lst ((L.take i++b::L.drop (i+1)).map d)) (.int i) (d r) (kd N ((fl r).take p++o::s)) (.int p) (kd N E) (sy N o) (.int (c:af)))):=gW (cc.trans (by rw[hc])) rfl;exact aG e2 (aG e3 (aG e4 (aG e5 (aG e6 (aG e7 (aG e8 (aG e9 (aG e10 (aG e11 (aG e12 rfl))))))))))
end
theorem aCc{α:Type}{d:α->D}(hd:∀a,(d a).pure=ag)(hs:∀a,aMd (d a)=ag)(l:aa α):nr1 (l.map d)=ag:=by
 unfold nr1;rw[bN hd,jt]
 match l with
 |[]=>rfl
 |[_]=>rfl
 |[a,b]=>exact(dm ..).mpr (.inr (hs b))
 |_::_::_::_=>rw[bg 0x2];rfl
theorem aF6{α:Type}{d:α->D}(hd:∀a,(d a).pure=ag)(hs:∀a,aMd (d a)=ag)(l:aa α):nrD (.lst (l.map d))=ag:=by
 show(nr1 (l.map d)||_)=ag;rw[aCc hd hs];rfl
theorem GK(N:aa Str)(K:aa af)(M:aa Rw)(T:aa Tk)(e:aa D)(he:e.all nrI=ag):nrD (.lst (kd N K::md N M::td N T::e))=ag:=by
 generalize hX:kd N K::md N M::td N T::e=X;show(nr1 X||(ϒ (X.length≠2)&&X.all nrI))=ag;rw[<-hX,dm,bf];refine .inr ⟨bg 0x2,?_⟩;rw[gj,gj,gj,he];rw[show nrI (kd N K)=ag from aCc (vP N) (λ_=>rfl) K,show nrI (md N M)=ag from aCc (cG N) (λ_=>rfl) M,show nrI (td N T)=ag from aCc (d_ N) (λ_=>rfl) T];rfl
theorem YK{os:aa af}{ρ:aa D}{x:D}(h:nrD x=ag)(hf:(os.all λi=>aMe (ρ.getD i .uD))=ag):XM os ρ x=ag:=by
 unfold XM;rw[h,hf];simp
section
variable {N:aa Str} (H:Nm N) {K St:aa af} {M:aa Rw} {T:aa Tk} {more extra:ai}
include H
theorem aJm(h0:0<M.length)(t0:0<T.length)(k0:0<K.length)(hf:∀a∈M,(flR a).length<=50)(ml:M.length<=100)(tl:T.length<=100)(sl:St.length<=100)(s0:0<St.length) :
  ∃i o p s M2 T2,∃hi:i<M.length,p<(flR M[i]).length/\p+1+s.length=(flR M[i]).length/\(∀x∈s,x∈flR M[i]\/x=27)/\o∈St++(M.map (λr:Rw=>r.1)++T.map (λt:Tk=>t.1))/\(∀a∈M2,a∈M\/∃b∈M,∃x∈M.map (λr:Rw=>r.1),a=ofR x (flR b))/\M2.length<=M.length/\(∀a∈T2,a∈T\/∃b∈T,∃x∈K,a=ofT x (flT b))/\T2.length<=T.length/\
   fU [.int 0,.int more,.int extra,sgD N K M T,kd N St]=.ok (.lst [kd N K,md N (M.take i++ofR M[i].1 ((flR M[i]).take p++o::s)::M2),td N T2,sy N o]):=by
 obtain⟨i,o,p,s,L2,hi,q1,q2,q3,q4,q5,q6,x9,x10,x11,x12,x13,x15,q⟩:=aCb H (K:=K) (St:=St) (M:=M) (T:=T) (chc:=0) (more:=more) (extra:=extra) (rwI N) h0 ml hf ml tl sl s0;obtain⟨t,ht⟩:∃t,T.getLast?=ae t:=by
  cases hq:T.getLast? with
  |none=>rw[xq] at hq;subst hq;simp at t0
  |some y=>exact⟨y,rfl⟩
 obtain⟨y,hy⟩:∃y,K[0]?=ae y:=⟨_,cq k0⟩
 generalize hT2:(if extra / 4 % 2=1 then T.dropLast++[ofT y (flT t)] else T)=T2;refine⟨i,o,p,s,L2,T2,hi,q1,q2,q3,q4,q5,q6,λa ha=>?_,?_,call_v ?_⟩
 .rw[<-hT2] at ha;split at ha
  .rcases bo.mp ha with g|g
   .exact .inl ((xr _).subset g)
   .rw[fw] at g;exact .inr ⟨t,Bv ht,y,ef hy,g⟩
  .exact .inl ha
 .rw[<-hT2];split
  .simp;lia
  .exact br _
 unfold mR;have e0:nk0 ([.int 0,.int more,.int extra,sgD N K M T,kd N St]++ck (16-5) .uD)=.ok (.nx (nst N K St M T 0 more extra .uD .uD .uD .uD .uD .uD .uD .uD)):=o8 rfl rfl (YK (GK N K M T [] rfl) rfl) rfl;have e1:nk1 (nst N K St M T 0 more extra .uD .uD .uD .uD .uD .uD .uD .uD)=.ok (.nx (nst N K St M T 0 more extra (md N M) .uD .uD .uD .uD .uD .uD .uD)):=wQ (x:=md N M) rfl (YK (aF6 (cG N) (λ_=>rfl) M) rfl) rfl;refine aG e0 (aG e1 ((q _).trans (aG (gW rfl rfl) ?_)));generalize hL:cw (rwD N) (M.take i++ofR M[i].1 ((flR M[i]).take p++o::s)::L2)=LD;have cc:bTB (b2 (cX .eq) (b2 (aW .mod) (b2 (aW .fdiv) dW RD) fQ) cO) (nst N K St M T 0 more extra (.lst LD) x9 x10 x11 x12 x13 (sy N o) x15)=.ok (extra / 4 % 2==1):=eqI (KD (DX rfl rfl 0x4) rfl 0x4) rfl;have e14:aQp (nst N K St M T 0 more extra (.lst LD) x9 x10 x11 x12 x13 (sy N o) x15)=.ok (.nx [.int 0,.int more,.int extra,sgD N K M T,kd N St,kd N K,md N M,td N T2,.lst LD,x9,x10,x11,x12,x13,sy N o,x15]):=by
  by_cases g:extra / 4 % 2=1
  .rw[ar g] at hT2;rw[<-hT2];refine lO (cc.trans (by rw[g];rfl)) (bB (i:=7) ?_);exact vO (d:=tkD N) (d_ N) (aC9 (d_ N) (f:=cV 7) (l:=T) rfl t0) (aF5 (d:=tkD N) (d_ N) ((tkI N).f4 _ _ _ t y (ixM (d:=sy N) (f:=cV 5) (e:=bC (.int 0)) (l:=K) (i:=0) rfl rfl hy) (S_ (f:=cV 7) (l:=T) rfl ht))) (by simp;lia)
  .rw[aw g] at hT2;rw[<-hT2];exact gW (cc.trans (by rw[df.mpr g])) rfl
 subst hL;refine aG e14 (mU (aD rfl (aD rfl 0x11)) 0x2)
theorem aJn(h0:0<T.length)(hf:∀a∈T,(flT a).length<=50)(ml:M.length<=100)(tl:T.length<=100)(sl:St.length<=100)(s0:0<St.length) :
  ∃i o p s T2,∃hi:i<T.length,p<(flT T[i]).length/\p+1+s.length=(flT T[i]).length/\(∀x∈s,x∈flT T[i]\/x=27)/\o∈St++(M.map (λr:Rw=>r.1)++T.map (λt:Tk=>t.1))/\(∀a∈T2,a∈T\/∃b∈T,∃x∈T.map (λt:Tk=>t.1),a=ofT x (flT b))/\T2.length<=T.length/\
   fU [.int 1,.int more,.int extra,sgD N K M T,kd N St]=.ok (.lst [kd N K,md N M,td N (T.take i++ofT T[i].1 ((flT T[i]).take p++o::s)::T2),sy N o]):=by
 obtain⟨i,o,p,s,L2,hi,q1,q2,q3,q4,q5,q6,x9,x10,x11,x12,x13,x15,q⟩:=aCb H (K:=K) (St:=St) (M:=M) (T:=T) (chc:=1) (more:=more) (extra:=extra) (tkI N) h0 tl hf ml tl sl s0;refine⟨i,o,p,s,L2,hi,q1,q2,q3,q4,q5,q6,call_v ?_⟩;unfold mR;have e0:nk0 ([.int 1,.int more,.int extra,sgD N K M T,kd N St]++ck (16-5) .uD)=.ok (.nx (nst N K St M T 1 more extra .uD .uD .uD .uD .uD .uD .uD .uD)):=o8 rfl rfl (YK (GK N K M T [] rfl) rfl) rfl;have e1:nk1 (nst N K St M T 1 more extra .uD .uD .uD .uD .uD .uD .uD .uD)=.ok (.nx (nst N K St M T 1 more extra (td N T) .uD .uD .uD .uD .uD .uD .uD)):=wQ (x:=td N T) rfl (YK (aF6 (d_ N) (λ_=>rfl) T) rfl) rfl;exact aG e0 (aG e1 ((q _).trans (vG (lO rfl (mU (aD rfl (aD rfl 0x11)) 0x2)))))
end
theorem QM(h:f ρ=.ok d)(hp:d.pure=ag)(h2:t d ρ=.ok ρ'):aG0 f t ρ=.ok (.nx ρ'):=by
 unfold aG0;rw[h,ε,ar hp,h2];rfl
section
variable {N:aa Str} (H:Nm N) {K St:aa af} {M:aa Rw} {T:aa Tk} {R:aa Ru} {extra:ai}
include H
abbrev ost(N:aa Str)(K St:aa af)(M:aa Rw)(T:aa Tk)(R:aa Ru)(chc more extra:ai)(x9 x10 x11 x12 x13 x14 x15 x16 x17 x18 x19:D):aa D:=[.int chc,.int more,.int extra,rd N R,sgD N K M T,kd N St,kd N K,md N M,td N T,x9,x10,x11,x12,x13,x14,x15,x16,x17,x18,x19]
theorem KJ(h0:0<R.length)(hl:R.length<=1000)(hR:∀u∈R,UsN 390 u)(hx:St[0]?=ae x)(hx2:x<29):∃i ow ws,∃hi:i<R.length,UsN 390 (R[i].1,R[i].2.1,ow,ws)/\∀k:FS,
  (a_ op0 (a_ op1 (a_ op2 (a_ op3 (a_ op4 k))))) [.int chc,.int more,.int extra,rd N R,sgD N K M T,kd N St,.uD,.uD,.uD,.uD,.uD,.uD,.uD,.uD,.uD,.uD,.uD,.uD,.uD,.uD]=k (ost N K St M T R chc (more / (R.length:ai)) extra (.int i) (sy N R[i].1) (sy N R[i].2.1) (tw N ow) (tw N ws) .uD .uD .uD .uD .uD .uD):=by
 have hi:=gR more h0;generalize hiq:ixm more R.length=i at hi;have hL:R[i]?=ae R[i]:=cq hi;have hu:=hR _ (dA hi);generalize hr:R[i]=u at hL hu;obtain⟨t,m,ow,ws⟩:=u;generalize hws:(if extra % 2=1 then (([]:aa af),[x]) else (ow,ws))=q;have e0:op0 [.int chc,.int more,.int extra,rd N R,sgD N K M T,kd N St,.uD,.uD,.uD,.uD,.uD,.uD,.uD,.uD,.uD,.uD,.uD,.uD,.uD,.uD]=.ok (.nx (ost N K St M T R chc more extra .uD .uD .uD .uD .uD .uD .uD .uD .uD .uD .uD)):=o8 rfl rfl aC7 rfl;have e1:op1 (ost N K St M T R chc more extra .uD .uD .uD .uD .uD .uD .uD .uD .uD .uD .uD)=.ok (.nx (ost N K St M T R chc more extra (.int i) .uD .uD .uD .uD .uD .uD .uD .uD .uD .uD)):=bB ((KH rfl rfl h0).trans (by rw[hiq]));have e2:op2 (ost N K St M T R chc more extra (.int i) .uD .uD .uD .uD .uD .uD .uD .uD .uD .uD)=.ok (.nx (ost N K St M T R chc more extra (.int i) (sy N t) (sy N m) (tw N ow) (tw N ws) .uD .uD .uD .uD .uD .uD)):=QM (ixM rfl rfl hL) (cY N _) rfl;have e3:op3 (ost N K St M T R chc more extra (.int i) (sy N t) (sy N m) (tw N ow) (tw N ws) .uD .uD .uD .uD .uD .uD)=.ok (.nx (ost N K St M T R chc (more / (R.length:ai)) extra (.int i) (sy N t) (sy N m) (tw N ow) (tw N ws) .uD .uD .uD .uD .uD .uD)):=bB (DX rfl (aF4 rfl) 0x1);have cc:aOk (ost N K St M T R chc (more / (R.length:ai)) extra (.int i) (sy N t) (sy N m) (tw N ow) (tw N ws) .uD .uD .uD .uD .uD .uD)=.ok (extra % 2==1):=eqI (KD rfl rfl 0x4) rfl;have e4:op4 (ost N K St M T R chc (more / (R.length:ai)) extra (.int i) (sy N t) (sy N m) (tw N ow) (tw N ws) .uD .uD .uD .uD .uD .uD)=.ok (.nx (ost N K St M T R chc (more / (R.length:ai)) extra (.int i) (sy N t) (sy N m) (tw N q.1) (tw N q.2) .uD .uD .uD .uD .uD .uD)):=by
  by_cases g:extra % 2=1
  .rw[ar g] at hws;rw[<-hws];exact lO (cc.trans (by rw[g];rfl)) (aG (bB (dD rfl (by rw[bA];simp))) (bZ (dD (aD (ixM rfl rfl hx) rfl) (by rw[bA];simp)) rfl))
  .rw[aw g] at hws;rw[<-hws];exact gW (cc.trans (by rw[df.mpr g])) rfl
 refine⟨i,q.1,q.2,hi,?_,λk=>?_⟩
 .rw[hr,<-hws];split
  .exact⟨hu.a,hu.b,(λi hi=>by cases hi),(λi hi=>by rw[fw] at hi;lia),by simp,by simp⟩
  .exact hu
 .rw[hr];exact aG e0 (aG e1 (aG e2 (aG e3 (aG e4 rfl))))
theorem aCw(h1:f1 ρ=.ok (sy N a))(h2:f2 ρ=.ok (sy N b))(h3:f3 ρ=.ok (tw N ow))(h4:f4 ρ=.ok (tw N ws)):fM (aC f1 (aC f2 (aC f3 (aC f4 aR)))) ρ=.ok (ruD N (a,b,ow,ws)):=dD (aD h1 (aD h2 (aD h3 (aD h4 rfl)))) (by rw[bA];simp)
theorem aQ8(h0:0<R.length)(hl:R.length<=1000)(hR:∀u∈R,UsN 390 u)(hx:St[0]?=ae x)(hx2:x<29):∃i sp b,∃hi:i<R.length,i<sp/\sp<=R.length/\pq b=pq R[i]/\UsN 390 b/\d8 [.int 3,.int more,.int extra,rd N R,sgD N K M T,kd N St]=.ok (.lst [rd N (R.take sp++b::R.drop sp),.int 3,sy N b.1,.int (sp:af)]):=by
 obtain⟨i,ow,ws,hi,U,q⟩:=KJ H (more:=more) h0 hl hR hx hx2;have hs:=gR (more / (R.length:ai)) (show 0<R.length-i by lia);generalize hsq:ixm (more / (R.length:ai)) (R.length-i)=j at hs;refine⟨i,i+1+j,(R[i].1,R[i].2.1,ow,ws),hi,by lia,by lia,rfl,U,call_v ?_⟩;unfold jD;refine(q _).trans (vG (lO rfl ?_));refine aG (ρ':=ost N K St M T R 3 (more / (R.length:ai)) extra (.int i) (sy N R[i].1) (sy N R[i].2.1) (tw N ow) (tw N ws) (.int ((i+1+j:af):ai)) .uD .uD .uD .uD .uD) (bB (i:=14) ?_) ?_
 .have e:=KD (f:=cV 1) (g:=b2 (aW .sub) (aX h_ (aC fY aR)) gD) (ρ:=ost N K St M T R 3 (more / (R.length:ai)) extra (.int i) (sy N R[i].1) (sy N R[i].2.1) (tw N ow) (tw N ws) .uD .uD .uD .uD .uD .uD) rfl (aJj (aF4 (l:=R) (d:=ruD N) rfl) rfl) 0x1;refine(aOn (aOn rfl rfl) e).trans ?_;have e2:((R.length:ai)-(i:ai))=((R.length-i:af):ai):=by lia
  rw[e2,V9 _ (show 0<R.length-i by lia),hsq]
  congr 2
 .refine mU (aD ?_ (aD rfl 0x11)) 0x2;have w:=vO (d:=ruD N) (cY N) (vO (d:=ruD N) (cY N) (toM (d:=ruD N) (cY N) (f:=cV 3) (e:=cV 14) (l:=R) (n:=i+1+j) (ρ:=ost N K St M T R 3 (more / (R.length:ai)) extra (.int i) (sy N R[i].1) (sy N R[i].2.1) (tw N ow) (tw N ws) (.int ((i+1+j:af):ai)) .uD .uD .uD .uD .uD) rfl rfl) (aF5 (d:=ruD N) (cY N) (aCw H (a:=R[i].1) (b:=R[i].2.1) (ow:=ow) (ws:=ws) (f1:=cV 10) (f2:=cV 11) (f3:=cV 12) (f4:=cV 13) rfl rfl rfl rfl)) (by simp;lia)) (frM (d:=ruD N) (cY N) (f:=cV 3) (e:=cV 14) (l:=R) (n:=i+1+j) rfl rfl) (by simp;lia);rw[cf] at w;exact w
theorem aQ9(h0:0<R.length)(hl:R.length<=1000)(ml:M.length<=100)(kl:K.length<=100)(sl:St.length<=100)(hR:∀u∈R,UsN 390 u)(hx:St[0]?=ae x)(hx2:x<29)(hE:∀y∈St++K++M.map (λr:Rw=>r.1),y<29):∃i b,i<R.length/\b.1∈St++K++M.map (λr:Rw=>r.1)/\UsN 390 b/\d8 [.int 0,.int more,.int extra,rd N R,sgD N K M T,kd N St]=.ok (.lst [rd N (R.take i++b::R.drop (i+1)),.int 1,sy N b.1,.int (i:af)]):=by
 obtain⟨i,ow,ws,hi,U,q⟩:=KJ H h0 hl hR hx hx2;generalize hq:more / (R.length:ai)=mo at q;generalize hA:St++K++M.map (λr:Rw=>r.1)=E;have hE0:0<E.length:=by rw[<-hA];have:=(dQ.mp hx).1;simp;lia
 have hE1:E.length<=1000:=by rw[<-hA];simp;lia
 have hj:=gR mo hE0;generalize hjq:ixm mo E.length=j at hj;obtain⟨o,ho⟩:∃o,E[j]?=ae o:=⟨_,cq hj⟩
 have hom:=ef ho;generalize hm:(if extra / 2 % 2=1 then R[i].1 else R[i].2.1)=m;refine⟨i,(o,m,ow,ws),hi,hom,⟨hE o (hA▸hom),?_,U.c,U.d,U.cl,U.dl⟩,call_v ?_⟩
 .rw[<-hm];split
  .exact U.a
  .exact U.b
 unfold jD;have e6:op6 (ost N K St M T R 0 mo extra (.int i) (sy N R[i].1) (sy N R[i].2.1) (tw N ow) (tw N ws) .uD .uD .uD .uD .uD .uD)=.ok (.nx (ost N K St M T R 0 mo extra (.int i) (sy N R[i].1) (sy N R[i].2.1) (tw N ow) (tw N ws) .uD (kd N (St++K)) .uD .uD .uD .uD)):=bB (vO (vP N) rfl rfl 0x1);have e70:aMt (ost N K St M T R 0 mo extra (.int i) (sy N R[i].1) (sy N R[i].2.1) (tw N ow) (tw N ws) .uD (kd N (St++K)) .uD .uD .uD .uD)=.ok (.nx (ost N K St M T R 0 mo extra (.int i) (sy N R[i].1) (sy N R[i].2.1) (tw N ow) (tw N ws) .uD (kd N E) .uD .uD .uD .uD)):=by
  refine bB ?_;rw[<-hA];refine vO (vP N) rfl ?_ (by simp;lia);rw[cv];exact dI (rwD N) (λr:Rw=>sy N r.1) M rfl (cC rfl) 0x1 λr hr=>⟨aJ rfl rfl rfl,rfl⟩
 have e71:aEg (ost N K St M T R 0 mo extra (.int i) (sy N R[i].1) (sy N R[i].2.1) (tw N ow) (tw N ws) .uD (kd N E) .uD .uD .uD .uD)=.ok (.nx (ost N K St M T R 0 mo extra (.int i) (sy N R[i].1) (sy N R[i].2.1) (tw N ow) (tw N ws) .uD (kd N E) (sy N o) .uD .uD .uD)):=bZ (ixM rfl ((KH rfl rfl hE0).trans (by rw[hjq])) ho) rfl;have e72:aMu (ost N K St M T R 0 mo extra (.int i) (sy N R[i].1) (sy N R[i].2.1) (tw N ow) (tw N ws) .uD (kd N E) (sy N o) .uD .uD .uD)=.ok (.nx (ost N K St M T R 0 mo extra (.int i) (sy N R[i].1) (sy N m) (tw N ow) (tw N ws) .uD (kd N E) (sy N o) .uD .uD .uD)):=by
  have cc:bTB (b2 (cX .eq) (b2 (aW .mod) (b2 (aW .fdiv) dW fQ) fQ) cO) (ost N K St M T R 0 mo extra (.int i) (sy N R[i].1) (sy N R[i].2.1) (tw N ow) (tw N ws) .uD (kd N E) (sy N o) .uD .uD .uD)=.ok (extra / 2 % 2==1):=eqI (KD (DX rfl rfl 0x4) rfl 0x4) rfl;by_cases g:extra / 2 % 2=1
  .rw[ar g] at hm;rw[<-hm];exact lO (cc.trans (by rw[g];rfl)) (aLo rfl)
  .rw[aw g] at hm;rw[<-hm];exact gW (cc.trans (by rw[df.mpr g])) rfl
 have e73:aMs (ost N K St M T R 0 mo extra (.int i) (sy N R[i].1) (sy N m) (tw N ow) (tw N ws) .uD (kd N E) (sy N o) .uD .uD .uD)=.ok (.rt (.lst [rd N (R.take i++(o,m,ow,ws)::R.drop (i+1)),.int 1,sy N o,.int (i:af)])):=mU (aD (aGo (cY N) rfl rfl (aCw H rfl rfl rfl rfl) hl) (aD rfl 0x11)) 0x2;exact(q _).trans (aG (gW rfl rfl) (aG e6 (vG (lO rfl (aG e70 (aG e71 (aG e72 e73)))))))
end
section
variable {N:aa Str} (H:Nm N) {K St:aa af} {M:aa Rw} {T:aa Tk} {R:aa Ru} {extra:ai}
include H
theorem aO1(hc:c=1\/c=2)(h0:0<R.length)(hl:R.length<=1000)(ml:M.length<=100)(tl:T.length<=100)(kl:K.length<=100)(sl:St.length<=100)(hR:∀u∈R,UsN 390 u)(hRT:∀u∈R,∃t∈T,t.1=u.1)(hT:∀t∈T,t.1<29/\t.2.2.1<29)(hM:∀r∈M,r.1<29/\r.2.1<29)(hx:St[0]?=ae x)(hx2:x<29)(hE:∀y∈St++K++T.map (λt:Tk=>t.1),y<29) :
  ∃i tag b,∃hi:i<R.length,b.1=R[i].1/\UsN 390 b/\((tag=1/\b.2.1∈St++K++T.map (λt:Tk=>t.1))\/(tag=2/\∃r∈M,r.1=b.2.1/\∃t∈T,t.1=b.1/\r.2.1≠t.2.2.1))/\d8 [.int c,.int more,.int extra,rd N R,sgD N K M T,kd N St]=.ok (.lst [rd N (R.take i++b::R.drop (i+1)),.int (tag:af),sy N b.2.1,.int (i:af)]):=by
 obtain⟨i,ow,ws,hi,U,q⟩:=KJ H (K:=K) (St:=St) (M:=M) (T:=T) (extra:=extra) (chc:=c) (more:=more) h0 hl hR hx hx2;generalize hq:more / (R.length:ai)=mo at q;obtain⟨t0,ht0,et0⟩:=hRT _ (dA hi);have ua:=U.a;dsimp only at ua;generalize hu1:R[i].1=u1 at q et0 U ua;generalize hu2:R[i].2.1=u2 at q U;obtain⟨t,ht⟩:∃t,(T.filter λt=>ϒ (t.1=u1))[0]?=ae t:=by
  have:t0∈T.filter λt=>ϒ (t.1=u1):=gn.mpr ⟨ht0,bg et0⟩
  exact⟨_,cq (xu this)⟩
 have htm:=gn.mp (ef ht);have htu:t.1=u1:=c9 htm.2;generalize hO:(M.filter λr=>!ϒ (r.2.1=t.2.2.1)).map (λr:Rw=>r.1)=O;have hOm:∀y∈O,∃r∈M,r.1=y/\r.2.1≠t.2.2.1:=λy hy=>by
  rw[<-hO] at hy;obtain⟨r,hr,e⟩:=b9.mp hy;obtain⟨h1,h2⟩:=gn.mp hr;exact⟨r,h1,e,by simpa using h2⟩
 have hO1:O.length<=100:=by rw[<-hO,aE];exact dh (sR ..) ml
 generalize hA:St++K++T.map (λt:Tk=>t.1)=E;have hE0:0<E.length:=by rw[<-hA];have:=(dQ.mp hx).1;simp;lia
 have hE1:E.length<=1000:=by rw[<-hA];simp;lia
 have hj:=gR mo hE0;generalize hjq:ixm mo E.length=j at hj;obtain⟨o,ho⟩:∃o,E[j]?=ae o:=⟨_,cq hj⟩
 have hom:=ef ho;have e6:op6 (ost N K St M T R c mo extra (.int i) (sy N u1) (sy N u2) (tw N ow) (tw N ws) .uD .uD .uD .uD .uD .uD)=.ok (.nx (ost N K St M T R c mo extra (.int i) (sy N u1) (sy N u2) (tw N ow) (tw N ws) .uD (kd N (St++K)) .uD .uD .uD .uD)):=bB (i:=15) (vO (d:=sy N) (a:=St) (b:=K) (vP N) rfl rfl 0x1);have e7:op7 (ost N K St M T R c mo extra (.int i) (sy N u1) (sy N u2) (tw N ow) (tw N ws) .uD (kd N (St++K)) .uD .uD .uD .uD)=.ok (.nx (ost N K St M T R c mo extra (.int i) (sy N u1) (sy N u2) (tw N ow) (tw N ws) .uD (kd N (St++K)) .uD .uD .uD .uD)):=gW (eqI (a:=c) (b:=0) rfl rfl |>.trans (by rcases hc with rfl|rfl<;>rfl)) rfl;have e5:op5 (ost N K St M T R c mo extra (.int i) (sy N u1) (sy N u2) (tw N ow) (tw N ws) .uD .uD .uD .uD .uD .uD)=.ok (.nx (ost N K St M T R c mo extra (.int i) (sy N u1) (sy N u2) (tw N ow) (tw N ws) .uD .uD .uD .uD .uD .uD)):=gW (eqI (a:=c) (b:=3) rfl rfl |>.trans (by rcases hc with rfl|rfl<;>rfl)) rfl;have e8:op8 (ost N K St M T R c mo extra (.int i) (sy N u1) (sy N u2) (tw N ow) (tw N ws) .uD (kd N (St++K)) .uD .uD .uD .uD)=.ok (.nx (ost N K St M T R c mo extra (.int i) (sy N u1) (sy N u2) (tw N ow) (tw N ws) .uD (kd N (St++K)) .uD (sy N t.2.2.1) .uD .uD)):=by
  refine bZ (i:=17) (ixM (d:=λt:Tk=>sy N t.2.2.1) (l:=T.filter λt=>ϒ (t.1=u1)) (i:=0) ?_ rfl ht) rfl;exact j9 (tkD N) (λt:Tk=>sy N t.2.2.1) (λt=>ϒ (t.1=u1)) T rfl (cC rfl) 0x1 (λa ha=>dO (aJ 0x12 rfl (vI H.len H.nd (hT a ha).1 ua))) λa ha _=>⟨aJ rfl rfl rfl,rfl⟩
 have e9:op9 (ost N K St M T R c mo extra (.int i) (sy N u1) (sy N u2) (tw N ow) (tw N ws) .uD (kd N (St++K)) .uD (sy N t.2.2.1) .uD .uD)=.ok (.nx (ost N K St M T R c mo extra (.int i) (sy N u1) (sy N u2) (tw N ow) (tw N ws) .uD (kd N (St++K)) .uD (sy N t.2.2.1) (kd N O) .uD)):=by
  refine bB (i:=18) ?_;rw[<-hO];show _=δ (ξ _);rw[cv];exact j9 (rwD N) (λr:Rw=>sy N r.1) (λr=>!ϒ (r.2.1=t.2.2.1)) M rfl (cC rfl) 0x1 (λa ha=>dO (aJ 0x12 rfl (J3 H.len H.nd (hM a ha).2 (hT t htm.1).2))) λa ha _=>⟨aJ rfl rfl rfl,rfl⟩
 have e10:aQt (ost N K St M T R c mo extra (.int i) (sy N u1) (sy N u2) (tw N ow) (tw N ws) .uD (kd N (St++K)) .uD (sy N t.2.2.1) (kd N O) .uD)=.ok (.nx (ost N K St M T R c mo extra (.int i) (sy N u1) (sy N u2) (tw N ow) (tw N ws) .uD (kd N E) .uD (sy N t.2.2.1) (kd N O) .uD)):=by
  refine bB (i:=15) ?_;rw[<-hA];refine vO (d:=sy N) (a:=St++K) (vP N) rfl ?_ (by simp;lia);rw[cv];exact dI (tkD N) (λt:Tk=>sy N t.1) T rfl (cC rfl) 0x1 λr hr=>⟨aJ rfl rfl rfl,rfl⟩
 have e11:aEg (ost N K St M T R c mo extra (.int i) (sy N u1) (sy N u2) (tw N ow) (tw N ws) .uD (kd N E) .uD (sy N t.2.2.1) (kd N O) .uD)=.ok (.nx (ost N K St M T R c mo extra (.int i) (sy N u1) (sy N u2) (tw N ow) (tw N ws) .uD (kd N E) (sy N o) (sy N t.2.2.1) (kd N O) .uD)):=bZ (i:=16) (ixM (d:=sy N) (l:=E) (i:=j) rfl ((KH (l:=E) (d:=sy N) (v:=mo) rfl rfl hE0).trans (by rw[hjq])) ho) rfl;have e12:aQu (ost N K St M T R c mo extra (.int i) (sy N u1) (sy N u2) (tw N ow) (tw N ws) .uD (kd N E) (sy N o) (sy N t.2.2.1) (kd N O) .uD)=.ok (.nx (ost N K St M T R c mo extra (.int i) (sy N u1) (sy N u2) (tw N ow) (tw N ws) .uD (kd N E) (sy N o) (sy N t.2.2.1) (kd N O) (.int 1))):=bB (i:=19) rfl;obtain⟨o',tag,hot,e13⟩:∃(o' tag:af),((tag=1/\o'∈E)\/(tag=2/\o'∈O))/\aQs (ost N K St M T R c mo extra (.int i) (sy N u1) (sy N u2) (tw N ow) (tw N ws) .uD (kd N E) (sy N o) (sy N t.2.2.1) (kd N O) (.int 1))=.ok (.nx (ost N K St M T R c mo extra (.int i) (sy N u1) (sy N u2) (tw N ow) (tw N ws) .uD (kd N E) (sy N o') (sy N t.2.2.1) (kd N O) (.int (tag:af)))):=by
  have c1:bTB (b2 (cX .eq) fX fQ) (ost N K St M T R c mo extra (.int i) (sy N u1) (sy N u2) (tw N ow) (tw N ws) .uD (kd N E) (sy N o) (sy N t.2.2.1) (kd N O) (.int 1))=.ok (c==2):=eqI rfl rfl;have c2:bTB (b2 (cX .ne) (cV 18) (sW aR)) (ost N K St M T R c mo extra (.int i) (sy N u1) (sy N u2) (tw N ow) (tw N ws) .uD (kd N E) (sy N o) (sy N t.2.2.1) (kd N O) (.int 1))=.ok (!O.isEmpty):=dO (aJ rfl rfl (aEs O));by_cases g:c=2/\O≠[]
  .have hO0:0<O.length:=by cases O with
    |nil=>exact aT rfl g.2
    |cons _ _=>simp
   have hk:=gR mo hO0;generalize hkq:ixm mo O.length=k at hk;obtain⟨z,hz⟩:∃z,O[k]?=ae z:=⟨_,cq hk⟩
   refine⟨z,2,.inr ⟨rfl,ef hz⟩,lO (xQ (c1.trans (by rw[g.1];rfl)) (c2.trans (by cases O with
    |nil=>exact aT rfl g.2
    |cons _ _=>rfl))) (aG (bZ (i:=16) (ixM (d:=sy N) (l:=O) (i:=k) rfl ((KH (l:=O) (d:=sy N) (v:=mo) rfl rfl hO0).trans (by rw[hkq])) hz) rfl) (bB (i:=19) rfl))⟩
  .refine⟨o,1,.inl ⟨rfl,hom⟩,gW ?_ rfl⟩;rcases hc with rfl|rfl
   .exact NB c1
   .refine xQ c1 (c2.trans ?_);cases O with
    |nil=>rfl
    |cons a b=>exact aT ⟨rfl,by simp⟩ g
 have ho29:o'<29:=by
  rcases hot with ⟨_,h⟩|⟨_,h⟩
  .exact hE o' (hA▸h)
  .obtain⟨r,hr,e,_⟩:=hOm o' h;rw[<-e];exact(hM r hr).1
 refine⟨i,tag,(u1,o',ow,ws),hi,hu1.symm,⟨ua,ho29,U.c,U.d,U.cl,U.dl⟩,hot.imp id λh=>⟨h.1,?_⟩,call_v ?_⟩
 .obtain⟨r,hr,e,g⟩:=hOm o' h.2;exact⟨r,hr,e,t,htm.1,htu,g⟩
 unfold jD;have e14:aQr (ost N K St M T R c mo extra (.int i) (sy N u1) (sy N u2) (tw N ow) (tw N ws) .uD (kd N E) (sy N o') (sy N t.2.2.1) (kd N O) (.int (tag:af)))=.ok (.rt (.lst [rd N (R.take i++(u1,o',ow,ws)::R.drop (i+1)),.int (tag:af),sy N o',.int (i:af)])):=mU (aD (aGo (d:=ruD N) (cY N) (l:=R) (n:=i) rfl rfl (aCw H rfl rfl rfl rfl) hl) (aD rfl 0x11)) 0x2;exact(q _).trans (aG e5 (aG e6 (aG e7 (aG e8 (aG e9 (aG e10 (aG e11 (aG e12 (aG e13 e14)))))))))
end
theorem slT(h1:f ρ=.ok (.tup xs))(h2:lo ρ=.ok l)(h3:hi ρ=.ok h)(hp:θ xs=ag)(hn:¬(vN xs.length 0 l=0/\vN xs.length xs.length h=xs.length)):eG f lo hi ρ=.ok (.tup (cutD xs l h)):=by
 unfold eG;rw[h1,ε,h2,ε,h3,ε];show(if !θ xs||ϒ (vN xs.length 0 l=0/\vN xs.length xs.length h=xs.length) then ψ else δ (ν (cutD xs l h)))=_;rw[hp,cg hn,aw 0x2]
theorem toW(h:f ρ=.ok (tw N l))(h1:e ρ=.ok (.int (n:af)))(hn:n<l.length):eG f cF (bW e) ρ=.ok (tw N (l.take n)):=(slT h rfl (fL h1) (cD N l) (by rw[wK,aE];lia)).trans (by unfold tw;rw[QH,iz])
theorem frW(h:f ρ=.ok (tw N l))(h1:e ρ=.ok (.int (n:af)))(h0:0<n)(hn:n<=l.length):eG f (bW e) cF ρ=.ok (tw N (l.drop n)):=(slT h (fL h1) rfl (cD N l) (by rw[wK,aE];lia)).trans (by unfold tw;rw[sU,kG])
theorem ngW(h:f ρ=.ok (tw N l))(h0:0<l.length):eG f cF (bW (b1 B_ cO)) ρ=.ok (tw N l.dropLast):=by
 have e0:∀x,vN (l.map (sy N)).length x (ae (-1))=l.length-1:=λx=>by
  unfold vN;dsimp only;rw[aE];split<;>lia
 refine(slT h rfl (fL rfl) (cD N l) (by rw[e0,aE];lia)).trans ?_;have:cutD (l.map (sy N)) aj (ae (-1))=(l.map (sy N)).take (l.length-1):=by
  unfold cutD;rw[e0,yH];rfl
 unfold tw;rw[this,<-iz,kU]
theorem adW(h1:f ρ=.ok (tw N a))(h2:g ρ=.ok (tw N b))(hl:a.length+b.length<=1000):b2 nD f g ρ=.ok (tw N (a++b)):=aJ h1 h2 ((x_ (by rw[aE,aE];exact hl)).trans (by unfold tw;rw[bE]))
theorem onW(h:f ρ=.ok (sy N a)):fM (aC f aR) ρ=.ok (tw N [a]):=dD (aD h rfl) (by rw[bA];simp)
theorem lsW(h:f ρ=.ok (tw N l)):aX yR (aC f aR) ρ=.ok (kd N l):=aQ6 h (cD N l)
theorem aJo(l:aa af):cX .ne (tw N l) (.tup [])=.ok (.bl (!l.isEmpty)):=by
 show(if (tw N l).jF 12&&(ν []).jF 12 then δ (υ (!xM (l.map (sy N)) [])) else .bad)=_;rw[aJa,show(ν []).jF 12=ag by rw[D.jF,ο]];cases l<;>rfl
theorem aJp(S:aa af):cX .eq (.lst (S.map λk:af=>τ k)) (.lst [])=.ok (.bl S.isEmpty):=by
 have:∀(n:af)(S:aa af),ο (n+1) (S.map λk:af=>τ k)=ag:=λn S=>by
  induction S with
  |nil=>rw[gv,ο]
  |cons a S ih=>
   rw[bc,ο,ih,D.jF]
   .rfl
   all_goals simp
 show(if ο 11 (S.map λk:af=>τ k)&&ο 11 [] then δ (υ (xM (S.map λk:af=>τ k) [])) else .bad)=_;rw[this,ο];cases S<;>rfl
section
variable {N:aa Str} (H:Nm N) {K St:aa af} {M:aa Rw} {T:aa Tk} {R:aa Ru} {extra:ai}
include H
abbrev ont(N:aa Str)(K St:aa af)(M:aa Rw)(T:aa Tk)(R:aa Ru)(chc more extra:ai)(x6 x7 x8 x9 x10 x11 x12 x13 x14 x15 x16:D):aa D:=[.int chc,.int more,.int extra,rd N R,sgD N K M T,kd N St,x6,x7,x8,x9,x10,x11,x12,x13,x14,x15,x16]
theorem aF7(h0:0<R.length)(hl:R.length<=1000):∃S:aa af,0<S.length/\S.length<=1000/\(∀i∈S,i<R.length)/\∀k:FS,(a_ on0 (a_ on1 k)) (ont N K St M T R chc more extra .uD .uD .uD .uD .uD .uD .uD .uD .uD .uD .uD)=k (ont N K St M T R chc more extra (.lst (S.map λk:af=>τ k)) .uD .uD .uD .uD .uD .uD .uD .uD .uD .uD):=by
 generalize hρ:ont N K St M T R chc more extra .uD .uD .uD .uD .uD .uD .uD .uD .uD .uD .uD=ρ;have e0:on0 ρ=.ok (.nx (ont N K St M T R chc more extra (.lst (((ay R.length).filter λk=>!(R.getD k (0,0,[],[])).2.2.1.isEmpty).map λk:af=>τ k)) .uD .uD .uD .uD .uD .uD .uD .uD .uD .uD)):=by
  subst hρ;refine bB (j9 (λk:af=>τ (0+(k:ai))) (λk:af=>τ k) (λk=>!(R.getD k (0,0,[],[])).2.2.1.isEmpty) (ay R.length) rfl (uC (n:=(R.length:ai)) (aD (aF4 (l:=R) (d:=ruD N) rfl) rfl) 0x1 0x1) (by rw[dv];lia) (λa ha=>?_) λa ha _=>⟨?_,rfl⟩)
  .have ha:=cS.mp ha;refine dO (aJ (x:=tw N (R.getD a (0,0,[],[])).2.2.1) (y:=.tup []) (aJ (x:=ruD N (R.getD a (0,0,[],[]))) (aJ rfl rfl (wM (i:=a) 0x1 ?_)) rfl rfl) (dD rfl (by rw[bA];simp)) (aJo _));rw[cq ha,de,cq ha];rfl
  .show δ (τ (0+(a:ai)))=_;rw[Be]
 generalize hS:(ay R.length).filter (λk=>!(R.getD k (0,0,[],[])).2.2.1.isEmpty)=S at e0;have hSl:∀i∈S,i<R.length:=λi hi=>by rw[<-hS] at hi;exact cS.mp (gn.mp hi).1
 have hSn:S.length<=1000:=by rw[<-hS];exact dh (sR ..) (by rw[dv];exact hl)
 have c1:bTB (b2 (cX .eq) fX eU) (ont N K St M T R chc more extra (.lst (S.map λk:af=>τ k)) .uD .uD .uD .uD .uD .uD .uD .uD .uD .uD)=.ok (chc==0):=eqI rfl rfl;have c2:bTB (b2 (cX .eq) eF (sW aR)) (ont N K St M T R chc more extra (.lst (S.map λk:af=>τ k)) .uD .uD .uD .uD .uD .uD .uD .uD .uD .uD)=.ok S.isEmpty:=dO (aJ rfl rfl (aJp S));by_cases g:(chc==0||S.isEmpty)=ag
 .refine⟨ay R.length,by simpa using h0,by simpa using hl,λi hi=>cS.mp hi,λk=>aG e0 (aG (lO ((aEj c1 c2).trans (by rw[g])) (bB (i:=6) (cU (aD (aF4 (l:=R) (d:=ruD N) rfl) rfl) ?_))) rfl)⟩;show(if ϒ (-1000000<=(R.length:ai))&&ϒ ((R.length:ai)<=1000000) then δ (ξ ((ay (R.length:ai).toNat).map λ(k:af)=>τ k)) else .bad)=_;rw[bg 0x1,bg 0x1];rfl
 .rw[xp] at g;refine⟨S,?_,hSn,hSl,λk=>aG e0 (aG (gW ((aEj c1 c2).trans (by rw[g])) rfl) rfl)⟩;cases S with
  |nil=>simp at g
  |cons _ _=>simp
theorem aCd(h0:0<R.length)(hl:R.length<=1000)(ml:M.length<=100)(tl:T.length<=100)(kl:K.length<=100)(hR:∀u∈R,UsN 390 u)(hx:St[0]?=ae x)(hx2:x<29)(hx1:St[1]?=ae 26)(hE:∀y∈[26,27]++K++(M.map (λr:Rw=>r.1)++T.map (λt:Tk=>t.1)),y<29)(ho5:∀u∈R,u.2.2.1.length<=50) :
  ∃i tag w b,∃hi:i<R.length,b.1=R[i].1/\b.2.1=R[i].2.1/\UsN 390 b/\((tag=2/\w=b.1/\b.2.2.1.length≠R[i].2.2.1.length)\/(tag=3/\∃p bh,p<R[i].2.2.1.length/\b.2.2.1=R[i].2.2.1.take p++w::bh/\b.2.2.1.length=R[i].2.2.1.length/\w∈R[i].2.2.1.take p++([26,27]++K++(M.map (λr:Rw=>r.1)++T.map (λt:Tk=>t.1)))))/\eO [.int chc,.int more,.int extra,rd N R,sgD N K M T,kd N St]=.ok (.lst [rd N (R.take i++b::R.drop (i+1)),.int (tag:af),sy N w,.int (i:af)]):=by
 obtain⟨S,hS0,hS1,hSm,qq⟩:=aF7 H (K:=K) (St:=St) (M:=M) (T:=T) (extra:=extra) (chc:=chc) (more:=more) h0 hl;have hj:=gR more hS0;generalize hjq:ixm more S.length=j at hj;obtain⟨i,hij⟩:∃i,S[j]?=ae i:=⟨_,cq hj⟩
 have hi:=hSm i (ef hij);have hL:R[i]?=ae R[i]:=cq hi;have hu:=hR _ (dA hi);have hu5:=ho5 _ (dA hi);generalize hr:R[i]=u at hL hu hu5;obtain⟨t,m,ow,ws0⟩:=u;obtain⟨ua,ub,uc,ud,ucl,udl⟩:=hu;dsimp only at ua ub uc ud ucl udl hu5;have e2:on2 (ont N K St M T R chc more extra (.lst (S.map λk:af=>τ k)) .uD .uD .uD .uD .uD .uD .uD .uD .uD .uD)=.ok (.nx (ont N K St M T R chc more extra (.lst (S.map λk:af=>τ k)) (.int i) .uD .uD .uD .uD .uD .uD .uD .uD .uD)):=bZ (i:=7) (ixM (d:=λk:af=>τ k) (l:=S) (i:=j) rfl ((KH (l:=S) (d:=λk:af=>τ k) (v:=more) rfl rfl hS0).trans (by rw[hjq])) hij) rfl;generalize hSD:ξ (S.map λk:af=>τ k)=SD at e2 qq;have e3:on3 (ont N K St M T R chc more extra SD (.int i) .uD .uD .uD .uD .uD .uD .uD .uD .uD)=.ok (.nx (ont N K St M T R chc more extra SD (.int i) (sy N t) (sy N m) (tw N ow) (tw N ws0) .uD .uD .uD .uD .uD)):=QM (ixM (d:=ruD N) (f:=cV 3) (e:=cV 7) (l:=R) (i:=i) rfl rfl hL) (cY N _) rfl;have e4:on4 (ont N K St M T R chc more extra SD (.int i) (sy N t) (sy N m) (tw N ow) (tw N ws0) .uD .uD .uD .uD .uD)=.ok (.nx (ont N K St M T R chc (more / (S.length:ai)) extra SD (.int i) (sy N t) (sy N m) (tw N ow) (tw N ws0) .uD .uD .uD .uD .uD)):=bB (i:=1) (DX rfl (aF4 (l:=S) (d:=λk:af=>τ k) (by rw[hSD];subst hSD;rfl)) 0x1);generalize hmo:more / (S.length:ai)=mo at e4;generalize hws:(if extra % 2=1 then [x] else ws0)=ws;have hws2:(∀i∈ws,i<29)/\ws.length<=390:=by
  rw[<-hws];split
  .exact⟨λi hi=>by rw[fw] at hi;lia,by simp⟩
  .exact⟨ud,udl⟩
 have e5:on5 (ont N K St M T R chc mo extra SD (.int i) (sy N t) (sy N m) (tw N ow) (tw N ws0) .uD .uD .uD .uD .uD)=.ok (.nx (ont N K St M T R chc mo extra SD (.int i) (sy N t) (sy N m) (tw N ow) (tw N ws) .uD .uD .uD .uD .uD)):=by
  have cc:bTB (b2 (cX .eq) (b2 (aW .mod) dW fQ) cO) (ont N K St M T R chc mo extra SD (.int i) (sy N t) (sy N m) (tw N ow) (tw N ws0) .uD .uD .uD .uD .uD)=.ok (extra % 2==1):=eqI (KD rfl rfl 0x4) rfl;by_cases g:extra % 2=1
  .rw[ar g] at hws;rw[<-hws];exact lO (cc.trans (by rw[g];rfl)) (bZ (i:=11) (onW (ixM (d:=sy N) (f:=cV 5) (e:=bC (.int 0)) (l:=St) (i:=0) rfl rfl hx)) rfl)
  .rw[aw g] at hws;rw[<-hws];exact gW (cc.trans (by rw[df.mpr g])) rfl
 have e6:on6 (ont N K St M T R chc mo extra SD (.int i) (sy N t) (sy N m) (tw N ow) (tw N ws) .uD .uD .uD .uD .uD)=.ok (.nx (ont N K St M T R chc mo extra SD (.int i) (sy N t) (sy N m) (tw N ow) (tw N ws) (.int 2) .uD .uD .uD .uD)):=bB (i:=12) rfl;have e7:on7 (ont N K St M T R chc mo extra SD (.int i) (sy N t) (sy N m) (tw N ow) (tw N ws) (.int 2) .uD .uD .uD .uD)=.ok (.nx (ont N K St M T R chc mo extra SD (.int i) (sy N t) (sy N m) (tw N ow) (tw N ws) (.int 2) (sy N t) .uD .uD .uD)):=aLo (i:=13) (j:=8) rfl;have e9:∀(ow2:aa af)(tag:ai)(w:af)(a b c:D),on9 (ont N K St M T R chc mo extra SD (.int i) (sy N t) (sy N m) (tw N ow2) (tw N ws) (.int tag) (sy N w) a b c)=.ok (.rt (.lst [rd N (R.take i++(t,m,ow2,ws)::R.drop (i+1)),.int tag,sy N w,.int (i:af)])):=λow2 tag w a b c=>mU (aD (aGo (d:=ruD N) (cY N) (l:=R) (n:=i) rfl rfl (aCw H rfl rfl rfl rfl) hl) (aD rfl 0x11)) 0x2
 have fin:∀{r:Res D}{ow2:aa af}{tag:ai}{w:af}{a b c:D},on8 (ont N K St M T R chc mo extra SD (.int i) (sy N t) (sy N m) (tw N ow) (tw N ws) (.int 2) (sy N t) .uD .uD .uD)=.ok (.nx (ont N K St M T R chc mo extra SD (.int i) (sy N t) (sy N m) (tw N ow2) (tw N ws) (.int tag) (sy N w) a b c))->eO [.int chc,.int more,.int extra,rd N R,sgD N K M T,kd N St]=.ok (.lst [rd N (R.take i++(t,m,ow2,ws)::R.drop (i+1)),.int tag,sy N w,.int (i:af)]):=λh8=>by
  refine call_v ?_;unfold oA;exact(qq _).trans (aG e2 (aG e3 (aG e4 (aG e5 (aG e6 (aG e7 (aG h8 (e9 ..))))))))
 have vne:bTB (b2 (cX .ne) dJ (fM aR)) (ont N K St M T R chc mo extra SD (.int i) (sy N t) (sy N m) (tw N ow) (tw N ws) (.int 2) (sy N t) .uD .uD .uD)=.ok (!ow.isEmpty):=dO (aJ rfl (dD rfl (by rw[bA];simp)) (aJo ow));have c8:aQw (ont N K St M T R chc mo extra SD (.int i) (sy N t) (sy N m) (tw N ow) (tw N ws) (.int 2) (sy N t) .uD .uD .uD)=.ok ((chc==1)&&!ow.isEmpty):=by
  have c1:bTB (b2 (cX .eq) fX cO) (ont N K St M T R chc mo extra SD (.int i) (sy N t) (sy N m) (tw N ow) (tw N ws) (.int 2) (sy N t) .uD .uD .uD)=.ok (chc==1):=eqI rfl rfl;cases hcc:chc==1
  .rw[hcc] at c1;exact NB c1
  .rw[hcc] at c1;exact xQ c1 vne
 cases hc8:((chc==1)&&!ow.isEmpty)
 .rw[hc8] at c8;obtain⟨ow2,h1,h2,h3,h8⟩:∃ow2:aa af,ow2.length≠ow.length/\ow2.length<=100/\(∀i∈ow2,i<29)/\aQv (ont N K St M T R chc mo extra SD (.int i) (sy N t) (sy N m) (tw N ow) (tw N ws) (.int 2) (sy N t) .uD .uD .uD)=.ok (.nx (ont N K St M T R chc mo extra SD (.int i) (sy N t) (sy N m) (tw N ow2) (tw N ws) (.int 2) (sy N t) .uD .uD .uD)):=by
   have cor:(bOr (bTB (b2 (cX .eq) (b2 (aW .mod) gC fQ) cO)) (bTB (b2 (cX .eq) (aX h_ (aC dJ aR)) T7))) (ont N K St M T R chc mo extra SD (.int i) (sy N t) (sy N m) (tw N ow) (tw N ws) (.int 2) (sy N t) .uD .uD .uD)=.ok (mo % 2==1||(ow.length:ai)==5):=aEj (eqI (KD rfl rfl 0x4) rfl) (eqI (aQ5 (l:=ow) (d:=sy N) rfl) rfl);have ce:∃b:aq,(KY (bTB (b2 (cX .ne) dJ (fM aR))) (bOr (bTB (b2 (cX .eq) (b2 (aW .mod) gC fQ) cO)) (bTB (b2 (cX .eq) (aX h_ (aC dJ aR)) T7)))) (ont N K St M T R chc mo extra SD (.int i) (sy N t) (sy N m) (tw N ow) (tw N ws) (.int 2) (sy N t) .uD .uD .uD)=.ok b/\(b=ag->0<ow.length):=by
    cases ow with
    |nil=>exact⟨ah,NB vne,λz=>by cases z⟩
    |cons a l=>exact⟨_,xQ vne cor,λ_=>by simp⟩
   obtain⟨b,ce,hb⟩:=ce;cases b with
   |true=>
    have:=hb rfl;exact⟨ow.dropLast,by simp;lia,by simp;lia,λi hi=>uc i ((xr _).subset hi),lO ce (bB (i:=10) (ngW rfl this))⟩
   |false=>
    have hz:=gR (extra / 2) (show 0<2 by decide);obtain⟨z,hzz,hz29⟩:∃z,[26,x][ixm (extra / 2) 2]?=ae z/\z<29:=by
     refine⟨_,cq hz,?_⟩;have hm:=dA (l:=[26,x]) hz;simp only[bt,nj,or_false] at hm;lia
    refine⟨ow++[z],by simp,by simp;lia,λi hi=>by
     rcases bo.mp hi with g|g
     .exact uc i g
     .rw[fw] at g;lia,gW ce (bZ (i:=10) (adW rfl (onW (ixM (d:=sy N) (l:=[26,x]) (i:=ixm (extra / 2) 2) ?_ ((KD (DX rfl rfl 0x4) rfl 0x4).trans (by rw[show((2:ai))=((2:af):ai) from rfl,V9 _ 0x4])) hzz)) (by simp;lia)) (jK ..))⟩
    have hxx:=ixM (d:=sy N) (f:=cV 5) (e:=bC (.int 0)) (l:=St) (i:=0) (ρ:=ont N K St M T R chc mo extra SD (.int i) (sy N t) (sy N m) (tw N ow) (tw N ws) (.int 2) (sy N t) .uD .uD .uD) rfl rfl hx;unfold sW;rw[show(aC (bC (.str "copy")) (aC (b2 getD fP eU) aR)) (ont N K St M T R chc mo extra SD (.int i) (sy N t) (sy N m) (tw N ow) (tw N ws) (.int 2) (sy N t) .uD .uD .uD)=.ok [.str "copy",sy N x] from aD rfl (aD hxx rfl),ε];show(if ϒ ([ι "copy",sy N x].length<=lim) then δ (ξ [ι "copy",sy N x]) else .bad)=δ (ξ [ι (N.getD 26 ""),sy N x]);rw[H.e26,bA];rfl
  refine⟨i,2,t,(t,m,ow2,ws),hi,by rw[hr],by rw[hr],⟨ua,ub,h3,hws2.1,h2,hws2.2⟩,.inl ⟨rfl,rfl,by rw[hr];exact h1⟩,fin (r:=.bad) (gW c8 h8)⟩
 .rw[hc8] at c8;rw[bf] at hc8;have ho0:0<ow.length:=by cases ow with
   |nil=>simp at hc8
   |cons _ _=>simp
  have hp:=gR mo ho0;generalize hpq:ixm mo ow.length=p at hp;generalize hA:ow.take p++([26,27]++K++(M.map (λr:Rw=>r.1)++T.map (λt:Tk=>t.1)))=E;have hE0:0<E.length:=by rw[<-hA,bz,bz,bz];simp;lia
  have hE1:E.length<=1000:=by rw[<-hA];simp;lia
  have hk:=gR (mo / 5) hE0;generalize hkq:ixm (mo / 5) E.length=k at hk;obtain⟨w,hw⟩:∃w,E[k]?=ae w:=⟨_,cq hk⟩
  have hwm:=ef hw;generalize hbh:(if extra / 2 % 2=1 then (ow.drop (p+1)).map (λ_=>26) else ow.drop (p+1))=bh;have hbl:bh.length=ow.length-(p+1):=by rw[<-hbh];split<;>simp
  have hbm:∀i∈bh,i<29:=λi hi=>by
   rw[<-hbh] at hi;split at hi
   .obtain⟨_,_,rfl⟩:=b9.mp hi;decide
   .exact uc i (fA hi)
  have hw29:w<29:=by
   rw[<-hA] at hwm;rcases bo.mp hwm with g|g
   .exact uc w (eI g)
   .exact hE w g
  have f0:aN2 (ont N K St M T R chc mo extra SD (.int i) (sy N t) (sy N m) (tw N ow) (tw N ws) (.int 2) (sy N t) .uD .uD .uD)=.ok (.nx (ont N K St M T R chc mo extra SD (.int i) (sy N t) (sy N m) (tw N ow) (tw N ws) (.int 2) (sy N t) (.int p) .uD .uD)):=bB (i:=14) ((aRb (l:=ow) (d:=sy N) (v:=mo) rfl rfl ho0).trans (by rw[hpq]));have f1:aMx (ont N K St M T R chc mo extra SD (.int i) (sy N t) (sy N m) (tw N ow) (tw N ws) (.int 2) (sy N t) (.int p) .uD .uD)=.ok (.nx (ont N K St M T R chc mo extra SD (.int i) (sy N t) (sy N m) (tw N ow) (tw N ws) (.int 2) (sy N t) (.int p) (kd N E) .uD)):=by
   refine bB (i:=15) ?_;rw[<-hA,show ow.take p++([26,27]++K++(M.map (λr:Rw=>r.1)++T.map (λt:Tk=>t.1)))=ow.take p++[26,27]++K++(M.map (λr:Rw=>r.1)++T.map (λt:Tk=>t.1)) by simp only[cf]];refine vO (d:=sy N) (vP N) (vO (d:=sy N) (b:=K) (vP N) (vO (d:=sy N) (b:=[26,27]) (vP N) (lsW (toW rfl rfl hp)) (aC8 H) (by simp;lia)) rfl (by simp;lia)) ?_ (by simp;lia);have e:(M.map (λr:Rw=>r.1)++T.map (λt:Tk=>t.1)).map (sy N)=(M.map fE++T.map d6).map (λx=>sy N (sN x)):=by simp[bE,cv,oB,sN]
   rw[e];refine dI (kk:=ag) (sD N) (λx=>sy N (sN x)) (M.map fE++T.map d6) rfl ((cC (aNx (a:=M.map (rwD N)) (b:=T.map (tkD N)) 0x12 0x12 (bN (cG N) _) (bN (d_ N) _) (by simp;lia))).trans ?_) (by simp;lia) λx hx=>⟨by cases x<;>exact aJ rfl rfl rfl,rfl⟩
   rw[bE,cv,cv];rfl
  have f2:aMz (ont N K St M T R chc mo extra SD (.int i) (sy N t) (sy N m) (tw N ow) (tw N ws) (.int 2) (sy N t) (.int p) (kd N E) .uD)=.ok (.nx (ont N K St M T R chc mo extra SD (.int i) (sy N t) (sy N m) (tw N ow) (tw N ws) (.int 2) (sy N w) (.int p) (kd N E) .uD)):=bZ (i:=13) (ixM (d:=sy N) (l:=E) (i:=k) rfl ((KH (l:=E) (d:=sy N) (v:=mo / 5) (DX rfl rfl 0x4) rfl hE0).trans (by rw[hkq])) hw) rfl;have f3:aN1 (ont N K St M T R chc mo extra SD (.int i) (sy N t) (sy N m) (tw N ow) (tw N ws) (.int 2) (sy N w) (.int p) (kd N E) .uD)=.ok (.nx (ont N K St M T R chc mo extra SD (.int i) (sy N t) (sy N m) (tw N ow) (tw N ws) (.int 2) (sy N w) (.int p) (kd N E) (tw N (ow.drop (p+1))))):=bB (i:=16) (frW (n:=p+1) rfl rfl 0x1 0x1);have f4:aMy (ont N K St M T R chc mo extra SD (.int i) (sy N t) (sy N m) (tw N ow) (tw N ws) (.int 2) (sy N w) (.int p) (kd N E) (tw N (ow.drop (p+1))))=.ok (.nx (ont N K St M T R chc mo extra SD (.int i) (sy N t) (sy N m) (tw N ow) (tw N ws) (.int 2) (sy N w) (.int p) (kd N E) (tw N bh))):=by
   have cc:bTB (b2 (cX .eq) (b2 (aW .mod) (b2 (aW .fdiv) dW fQ) fQ) cO) (ont N K St M T R chc mo extra SD (.int i) (sy N t) (sy N m) (tw N ow) (tw N ws) (.int 2) (sy N w) (.int p) (kd N E) (tw N (ow.drop (p+1))))=.ok (extra / 2 % 2==1):=eqI (KD (DX rfl rfl 0x4) rfl 0x4) rfl;by_cases g:extra / 2 % 2=1
   .rw[ar g] at hbh;rw[<-hbh];refine lO (cc.trans (by rw[g];rfl)) (bZ (i:=16) (d:=tw N ((ow.drop (p+1)).map λ_=>26)) (aJk (xs:=((ow.drop (p+1)).map λ_=>26).map (sy N)) ?_) (jK ..));rw[cv];exact dI (n:=17) (k:=ah) (sy N) (λ_:af=>sy N 26) (ow.drop (p+1)) rfl (fV rfl) (by rw[i4];lia) λ_ _=>⟨ixM (d:=sy N) (f:=cV 5) (e:=bC (.int 1)) (l:=St) (i:=1) rfl rfl hx1,rfl⟩
   .rw[aw g] at hbh;rw[<-hbh];exact gW (cc.trans (by rw[df.mpr g])) rfl
  have f5:aN0 (ont N K St M T R chc mo extra SD (.int i) (sy N t) (sy N m) (tw N ow) (tw N ws) (.int 2) (sy N w) (.int p) (kd N E) (tw N bh))=.ok (.nx (ont N K St M T R chc mo extra SD (.int i) (sy N t) (sy N m) (tw N (ow.take p++w::bh)) (tw N ws) (.int 2) (sy N w) (.int p) (kd N E) (tw N bh))):=by
   refine bZ (i:=10) ?_ (jK ..);have q:=adW (a:=ow.take p++[w]) (b:=bh) (adW (a:=ow.take p) (b:=[w]) (toW (f:=cV 10) (e:=cV 14) (ρ:=ont N K St M T R chc mo extra SD (.int i) (sy N t) (sy N m) (tw N ow) (tw N ws) (.int 2) (sy N w) (.int p) (kd N E) (tw N bh)) rfl rfl hp) (onW (f:=cV 13) rfl) (by simp;lia)) (g:=cV 16) rfl (by simp;lia);rw[cf] at q;exact q
  have f6:aN3 (ont N K St M T R chc mo extra SD (.int i) (sy N t) (sy N m) (tw N (ow.take p++w::bh)) (tw N ws) (.int 2) (sy N w) (.int p) (kd N E) (tw N bh))=.ok (.nx (ont N K St M T R chc mo extra SD (.int i) (sy N t) (sy N m) (tw N (ow.take p++w::bh)) (tw N ws) (.int 3) (sy N w) (.int p) (kd N E) (tw N bh))):=bB (i:=12) rfl;have hlen:(ow.take p++w::bh).length=ow.length:=by simp;lia
  refine⟨i,3,w,(t,m,ow.take p++w::bh,ws),hi,by rw[hr],by rw[hr],⟨ua,ub,λi hi=>?_,hws2.1,by rw[hlen];exact ucl,hws2.2⟩,.inr ⟨rfl,p,bh,by rw[hr];exact hp,by rw[hr],by rw[hr];exact hlen,by rw[hr];exact hA▸hwm⟩,fin (r:=.bad) (lO c8 (aG f0 (aG f1 (aG f2 (aG f3 (aG f4 (aG f5 f6)))))))⟩;rcases bo.mp hi with g|g
  .exact uc i (eI g)
  .rcases bt.mp g with g|g
   .lia
   .exact hbm i g
end
theorem j5(nm:α->af):∀(L:aa α),(L.map nm).Nodup->∀a∈L,(L.filter λb=>ϒ (nm b=nm a))[0]?=ae a
 |[],_,_,h=>by cases h
 |b::L,hn,a,h=>by
  rw[bc,eT] at hn;rw[List.filter_cons];rcases bt.mp h with g|g
  .subst g;rw[bg rfl,ar rfl];rfl
  .have:¬nm b=nm a:=λz=>hn.1 (z▸eg g)
   rw[cg this,aw 0x2];exact j5 nm L hn.2 a g
theorem aJq(h0:ρ.getD i .uD=.lst ys)(h:f ρ=.ok (d,ρ'))(hx:ρ'.getD i .uD=.lst xs)(hp:d.pure=ag)(hl:xs.length<=10000)(he:ρ'.set i (.lst (xs++[d]))=ρ2):aEd i f ρ=.ok (.nx ρ2):=by
 unfold aEd;rw[h,ε,h0];dsimp only;rw[hx];dsimp only;rw[ar (by rw[hp,bA,bg 0x1];rfl),he]
def hdl(M:aa Rw)(T:aa Tk)(ow be:aa af):aa Rw:=kn ow be++(M++T.map tr)
section
variable {N:aa Str} (H:Nm N) {K:aa af} {M:aa Rw} {T:aa Tk}
include H
theorem aJr(hM:(M.map (·.1)).Nodup)(hT:(T.map (·.1)).Nodup)(gM:∀r∈M,r.1<29/\r.2.1<29/\(∀i∈r.2.2,i<29)/\r.2.2.length<=3)(gT:∀t∈T,t.1<29/\t.2.1<29/\t.2.2.1<29/\(∀i∈t.2.2.2,i<29)/\t.2.2.2.length<=2)(ml:M.length<=100)(tl:T.length<=100)(hr:r∈M)(ht:t∈T)(hl:ow.length=(r.2.2++t.2.2.2).length):mF [ruD N (t.1,r.1,ow,ws),sgD N K M T]=.ok (md N (hdl M T ow (r.2.2++t.2.2.2))):=by
 have fr:=j5 (λr:Rw=>r.1) M hM r hr;have ft:=j5 (λt:Tk=>t.1) T hT t ht;have gr:=gM r hr;have gt:=gT t ht;generalize hu:ruD N (t.1,r.1,ow,ws)=U;have u0:∀f:FE,∀ρ,f ρ=.ok U->b2 getD f eU ρ=.ok (sy N t.1):=λf ρ h=>by subst hu;exact aJ h rfl rfl
 have u1:∀f:FE,∀ρ,f ρ=.ok U->b2 getD f cO ρ=.ok (sy N r.1):=λf ρ h=>by subst hu;exact aJ h rfl rfl
 have u2:∀f:FE,∀ρ,f ρ=.ok U->b2 getD f fQ ρ=.ok (tw N ow):=λf ρ h=>by subst hu;exact aJ h rfl rfl
 have vU:∀ρ,cV 0 (U::ρ)=.ok U:=λρ=>by subst hu;rfl
 have lb:(r.2.2++t.2.2.2).length<=5:=by rw[bz];lia
 have s0:hh0 [U,sgD N K M T,.uD,.uD,.uD,.uD,.uD,.uD,.uD]=.ok (.nx [U,sgD N K M T,kd N K,md N M,td N T,.uD,.uD,.uD,.uD]):=o8 rfl rfl aC7 rfl;have s1:hh1 [U,sgD N K M T,kd N K,md N M,td N T,.uD,.uD,.uD,.uD]=.ok (.nx [U,sgD N K M T,kd N K,md N M,td N T,rwD N r,.uD,.uD,.uD]):=bZ (ixM (j9 (rwD N) (rwD N) (λb=>ϒ (b.1=r.1)) M rfl (cC rfl) 0x1 (λa ha=>dO (aJ 0x12 (u1 _ _ (vU _)) (vI H.len H.nd (gM a ha).1 gr.1))) λa ha _=>⟨rfl,by rw[cG];rfl⟩) rfl fr) (cG N r);have s2:hh2 [U,sgD N K M T,kd N K,md N M,td N T,rwD N r,.uD,.uD,.uD]=.ok (.nx [U,sgD N K M T,kd N K,md N M,td N T,rwD N r,tkD N t,.uD,.uD]):=bZ (i:=6) (ixM (d:=tkD N) (l:=T.filter λb=>ϒ (b.1=t.1)) (i:=0) (j9 (tkD N) (tkD N) (λb=>ϒ (b.1=t.1)) T rfl (cC rfl) 0x1 (λa ha=>dO (aJ 0x12 (u0 _ _ (vU _)) (vI H.len H.nd (gT a ha).1 gt.1))) λa ha _=>⟨rfl,by rw[d_];rfl⟩) rfl ft) (d_ N t);have s3:hh3 [U,sgD N K M T,kd N K,md N M,td N T,rwD N r,tkD N t,.uD,.uD]=.ok (.nx [U,sgD N K M T,kd N K,md N M,td N T,rwD N r,tkD N t,tw N (r.2.2++t.2.2.2),.uD]):=bZ (i:=7) (adW 0x12 0x12 0x1) (jK ..);generalize hbe:r.2.2++t.2.2.2=be at hl lb s3;have s4:hh4 [U,sgD N K M T,kd N K,md N M,td N T,rwD N r,tkD N t,tw N be,.uD]=.ok (.nx [U,sgD N K M T,kd N K,md N M,td N T,rwD N r,tkD N t,tw N be,md N (kn ow be)]):=by
  refine bB (i:=8) ?_;unfold kn;show _=δ (ξ _);rw[cv];refine dI (n:=9) (λk:af=>τ (0+(k:ai))) _ (ay be.length) rfl (uC (n:=(be.length:ai)) (aD (aQ5 (l:=be) (d:=sy N) rfl) rfl) 0x1 0x1) (by rw[dv];lia) λk hk=>?_
  have hk:=cS.mp hk;have g1:ow[k]?=ae (ow.getD k 0):=by rw[de,cq 0x1];rfl
  have g2:be[k]?=ae (be.getD k 0):=by rw[de,cq hk];rfl
  exact⟨dD (aD (aJ (u2 _ _ (vU _)) rfl (vH (i:=k) 0x1 g1)) (aD (aJ (x:=tw N be) rfl rfl (vH (i:=k) 0x1 g2)) (aD (dD (xs:=[]) rfl (by rw[bA];simp)) rfl))) (by rw[bA];simp),cG N _⟩
 refine call_v ?_;unfold wZ;refine aG s0 (aG s1 (aG s2 (aG s3 (aG s4 (uY ?_ rfl)))));unfold hdl;rw[<-cf];have kl:(kn ow be).length=be.length:=by unfold kn;simp
 refine vO (d:=rwD N) (cG N) (vO (d:=rwD N) (a:=kn ow be) (b:=M) (cG N) rfl rfl 0x1) ?_ (by rw[bz,aE];lia);rw[cv];refine dI (tkD N) _ T rfl (cC rfl) 0x1 λa ha=>⟨dD (aD 0x12 (aD 0x12 (aD (x:=.tup ((tr a).2.2.map (sy N))) (aJ (x:=.tup [sy N a.2.2.1]) (dD (aD 0x12 rfl) (by rw[bA];simp)) 0x12 (x_ (a:=[sy N a.2.2.1]) (b:=a.2.2.2.map (sy N)) (by have:=(gT a ha).2.2.2.2;simp;lia))) rfl))) (by rw[bA];simp),cG N (tr a)⟩
abbrev wls(Hd:aa Rw)(N:aa Str)(u:D)(st acc:aa af)(x y:D):aa D:=[md N Hd,u,.lst (st.reverse.map (sy N)),kd N acc,x,y]
theorem YL(hn:(Hd.map (·.1)).Nodup)(hg:∀r∈Hd,r.1<29/\r.2.1<29/\(∀i∈r.2.2,i<29)/\r.2.2.length<=10)(hl:Hd.length<=1000)(R:Run Hd st ws):∃W:aa af,W.length=ws.length/\(∀p,p<ws.length->∃rest,c7 (uL Hd) st (ws.take p)=.ok (W.getD p 0::rest))/\(∀i∈W,i<29)/\∀(acc:aa af)(x y:D),st.length+10*ws.length<=5000->acc.length+ws.length<=5000->∃x' y',o_ (tg1 4) wl (ws.map (sy N)) (wls Hd N u st acc x y)=.ok (.nx (wls Hd N u [] (acc++W) x' y')):=by
 induction R with
 |nil=>exact⟨[],rfl,(λp hp=>by simp at hp),(λi hi=>by cases hi),λacc x y _ _=>⟨x,y,by rw[dg];rfl⟩⟩
 |@step r rest V hr R ih=>
  obtain⟨W,w1,w2,w3,w4⟩:=ih;obtain⟨g1,g2,g3,g4⟩:=hg r hr;refine⟨r.2.1::W,by simp[w1],λp hp=>?_,λi hi=>?_,λacc x y h1 h2=>?_⟩
  .cases p with
   |zero=>exact⟨rest,rfl⟩
   |succ p=>
    rw[cz] at hp;obtain⟨q,hq⟩:=w2 p 0x1;refine⟨q,?_⟩;rw[AI,c7];have e:uL Hd (r.2.1::rest) r.1=.ok (r.2.2++rest):=by
     show(match Hd.find? λx=>ϒ (x.1=r.1) with|none=>lj (1,r.1)|some x=>if x.2.1=r.2.1 then .ok (x.2.2++rest) else .error (2,r.1))=_;rw[S9 hn hr];dsimp only;rw[ar rfl]
    rw[e];exact hq
  .rcases bt.mp hi with g|g
   .subst g;exact g2
   .exact w3 i g
  .rw[cz] at h1 h2;have h1':rest.length+1+10*(V.length+1)<=5000:=by rw[cz] at h1;lia
   obtain⟨x',y',q⟩:=w4 (acc++[r.2.1]) (sy N r.1) (.tup (r.2.2.map (sy N))) (by rw[bz];lia) (by rw[bz,eP];lia);refine⟨x',y',?_⟩;rw[bc];refine gF (ρ2:=wls Hd N u (r.2.2++rest) (acc++[r.2.1]) (sy N r.1) (.tup (r.2.2.map (sy N)))) rfl ?_ ?_
   .have p0:HW 2 (wls Hd N u (r.2.1::rest) acc (sy N r.1) y)=.ok (sy N r.2.1,wls Hd N u rest acc (sy N r.1) y):=by
     unfold HW;rw[show(wls Hd N u (r.2.1::rest) acc (sy N r.1) y).getD 2 .uD=.lst (rest.reverse.map (sy N)++[sy N r.2.1]) from by
      show ξ ((r.2.1::rest).reverse.map (sy N))=_;rw[ik,bE];rfl]
     dsimp only;rw[bz,eP,xh,eJ (br _),sM,xj];rfl
    have a0:wl0 (wls Hd N u (r.2.1::rest) acc (sy N r.1) y)=.ok (.nx (wls Hd N u rest (acc++[r.2.1]) (sy N r.1) y)):=aJq (i:=3) (xs:=acc.map (sy N)) rfl p0 rfl rfl (by rw[aE];lia) (by unfold wls kd;rw[bE];rfl);have a1:wl1 (wls Hd N u rest (acc++[r.2.1]) (sy N r.1) y)=.ok (.nx (wls Hd N u rest (acc++[r.2.1]) (sy N r.1) (.tup (r.2.2.map (sy N))))):=bZ (i:=5) (ixM (d:=λr:Rw=>ν (r.2.2.map (sy N))) (l:=Hd.filter λb=>ϒ (b.1=r.1)) (i:=0) (j9 (rwD N) (λr:Rw=>ν (r.2.2.map (sy N))) (λb=>ϒ (b.1=r.1)) Hd rfl (cC rfl) 0x1 (λa ha=>dO (aJ 0x12 rfl (vI H.len H.nd (hg a ha).1 g1))) λa ha _=>⟨aJ rfl rfl rfl,by rw[χ,cD];rfl⟩) rfl (j5 (λr:Rw=>r.1) Hd hn r hr)) (cD ..);have a2:wl2 (wls Hd N u rest (acc++[r.2.1]) (sy N r.1) (.tup (r.2.2.map (sy N))))=.ok (.nx (wls Hd N u (r.2.2++rest) (acc++[r.2.1]) (sy N r.1) (.tup (r.2.2.map (sy N))))):=by
     have hx:=aBx (i:=2) (ρ:=wls Hd N u rest (acc++[r.2.1]) (sy N r.1) (.tup (r.2.2.map (sy N)))) (f:=b1 aGa fP) (xs:=rest.reverse.map (sy N)) (ys:=r.2.2.reverse.map (sy N)) (aJ3 (x:=.tup (r.2.2.map (sy N))) rfl (by
      show(if θ (r.2.2.map (sy N))&&ϒ ((r.2.2.map (sy N)).length<=lim) then δ (ξ (r.2.2.map (sy N)).reverse) else .bad)=_;rw[cD,aE,bA,bg 0x1,<-xk];rfl)) rfl (by rw[aE,iL,aE,iL];lia) (cD ..)
     refine hx.trans ?_;have e7:((r.2.2++rest).reverse.map (sy N))=rest.reverse.map (sy N)++r.2.2.reverse.map (sy N):=by rw[xl,bE]
     unfold wls;rw[e7];rfl
    exact aG a0 (aG a1 a2)
   .rw[q,cf];rfl
theorem aF8(hn:(Hd.map (·.1)).Nodup)(hg:∀r∈Hd,r.1<29/\r.2.1<29/\(∀i∈r.2.2,i<29)/\r.2.2.length<=10)(hl:Hd.length<=1000)(ht:t∈Hd)(R:Run Hd [t.2.1] ws)(hw:ws.length<=400):∃W:aa af,W.length=ws.length/\(∀p,p<ws.length->∃rest,c7 (uL Hd) [t.2.1] (ws.take p)=.ok (W.getD p 0::rest))/\(∀i∈W,i<29)/\jX [md N Hd,ruD N (t.1,m,ow,ws)]=.ok (kd N W):=by
 obtain⟨W,w1,w2,w3,w4⟩:=YL H hn hg hl (u:=ruD N (t.1,m,ow,ws)) R;obtain⟨x,y,q⟩:=w4 [] .uD .uD (by simp;lia) (by simp;lia);refine⟨W,w1,w2,w3,call_v ?_⟩;unfold xF;have s0:wa0 [md N Hd,ruD N (t.1,m,ow,ws),.uD,.uD,.uD,.uD]=.ok (.nx [md N Hd,ruD N (t.1,m,ow,ws),kd N [t.2.1],.uD,.uD,.uD]):=fZ (i:=2) (aF5 (d:=sy N) (vP N) (ixM (d:=λr:Rw=>sy N r.2.1) (l:=Hd.filter λb=>ϒ (b.1=t.1)) (i:=0) (j9 (rwD N) (λr:Rw=>sy N r.2.1) (λb=>ϒ (b.1=t.1)) Hd rfl (cC rfl) 0x1 (λa ha=>dO (aJ 0x12 0x12 (vI H.len H.nd (hg a ha).1 (hg t ht).1))) λa ha _=>⟨aJ rfl rfl rfl,rfl⟩) rfl (j5 (λr:Rw=>r.1) Hd hn t ht))) (cD ..);have s1:wa1 [md N Hd,ruD N (t.1,m,ow,ws),kd N [t.2.1],.uD,.uD,.uD]=.ok (.nx (wls Hd N (ruD N (t.1,m,ow,ws)) [t.2.1] [] .uD .uD)):=fZ (i:=3) rfl rfl;refine aG s0 (aG s1 (aG (lH ((fV (aJ rfl rfl (z:=tw N ws) rfl)).trans (by rw[cD];rfl)) q) ?_));rw[gN];rfl
end
theorem aF9{A rest:aa af}(h:c7 (uL H) [k] A=.ok (x::rest)):vL H k A=.error (2,28):=by
 unfold vL;rw[h]
theorem walk_at(h:c7 (uL H) [k] A=.ok st)(h2:uL H st w=.error e):vL H k (A++w::B)=.error e:=by
 unfold vL;rw[kY,h];dsimp only;rw[c7,h2]
theorem aFa{rest:aa af}(h:w∉H.map (·.1)):uL H (x::rest) w=.error (1,w):=by
 show(match H.find? λr=>ϒ (r.1=w) with|none=>lj (1,w)|some r=>if r.2.1=x then .ok (r.2.2++rest) else .error (2,w))=_;rw[nw.mpr λr hr e=>h (by have:=c9 e;exact this▸eg hr)]
theorem aCe(hn:(H.map (·.1)).Nodup){rest:aa af}(hr:r∈H)(h:r.2.1≠x):uL H (x::rest) r.1=.error (2,r.1):=by
 show(match H.find? λy=>ϒ (y.1=r.1) with|none=>lj (1,r.1)|some y=>if y.2.1=x then .ok (y.2.2++rest) else .error (2,r.1))=_;rw[S9 hn hr];dsimp only;rw[aw h]
section
variable {N:aa Str} (H:Nm N) {K St:aa af} {M:aa Rw} {T:aa Tk} {R:aa Ru}
include H
abbrev owt(N:aa Str)(K St:aa af)(M:aa Rw)(T:aa Tk)(R:aa Ru)(more extra:ai)(x5 x6 x7 x8 x9 x10 x11 x12 x13 x14:D):aa D:=[.int more,.int extra,rd N R,sgD N K M T,kd N St,x5,x6,x7,x8,x9,x10,x11,x12,x13,x14]
theorem aCf(h0:0<R.length)(hl:R.length<=1000)(hM:(M.map (·.1)).Nodup)(hT:(T.map (·.1)).Nodup)(gM:∀r∈M,r.1<29/\r.2.1<29/\(∀i∈r.2.2,i<29)/\r.2.2.length<=3)(gT:∀t∈T,t.1<29/\t.2.1<29/\t.2.2.1<29/\(∀i∈t.2.2.2,i<29)/\t.2.2.2.length<=2)(ml:M.length<=100)(tl:T.length<=100)(hr:r∈M)(ht:t∈T)(hol:ow.length=(r.2.2++t.2.2.2).length)(hi:i=ixm more R.length)(hL:R[i]?=ae (t.1,r.1,ow,ws))(U:Us (t.1,r.1,ow,ws))
 (hn:((hdl M T ow (r.2.2++t.2.2.2)).map (·.1)).Nodup)(hg:∀x∈hdl M T ow (r.2.2++t.2.2.2),x.1<29/\x.2.1<29/\(∀i∈x.2.2,i<29)/\x.2.2.length<=10)(hR:Run (hdl M T ow (r.2.2++t.2.2.2)) [t.2.1] ws)(hw:ws.length<=300)(s0:0<St.length)(sl:St.length<=100)(hS:∀s∈St,s<29/\s∉(hdl M T ow (r.2.2++t.2.2.2)).map (·.1)) :
  ∃tag w ws2,Us (t.1,r.1,ow,ws2)/\(tag=1\/tag=2)/\vL (hdl M T ow (r.2.2++t.2.2.2)) t.2.1 ws2=.error (tag,w)/\eQ [.int more,.int extra,rd N R,sgD N K M T,kd N St]=.ok (.lst [rd N (R.take i++(t.1,r.1,ow,ws2)::R.drop (i+1)),.int (tag:af),sy N w,.int (i:af)]):=by
 obtain⟨ua,ub,uc,ud,ucl,udl⟩:=U;dsimp only at ua ub uc ud ucl udl;have hw0:0<ws.length:=by have:=aJb hR;simp at this;lia
 have gt:=gT t ht;have gr:=gM r hr;have lb:(r.2.2++t.2.2.2).length<=5:=by rw[bz];lia
 have hh:=aJr H (K:=K) hM hT gM gT ml tl hr ht (ow:=ow) (ws:=ws) hol;have hdl1:(hdl M T ow (r.2.2++t.2.2.2)).length<=500:=by
  unfold hdl kn;simp only[bz,aE,dv] at lb ⊢;lia
 have htd:tr t∈hdl M T ow (r.2.2++t.2.2.2):=dS _ (dS _ (eg ht));generalize hdl M T ow (r.2.2++t.2.2.2)=Hd at *;obtain⟨W,w1,w2,w3,w4⟩:=aF8 H hn hg 0x1 htd (m:=r.1) (ow:=ow) (ws:=ws) hR 0x1;replace w2:∀p,p<ws.length->∃rest,c7 (uL Hd) [t.2.1] (ws.take p)=.ok (W.getD p 0::rest):=w2;replace w4:jX [md N Hd,ruD N (t.1,r.1,ow,ws)]=.ok (kd N W):=w4;generalize hu:ruD N (t.1,r.1,ow,ws)=UD at w4 hh;have rowx:∀ρ,cV 2 ρ=.ok (rd N R)->cV 5 ρ=.ok (.int (i:af))->b2 getD dW fP ρ=.ok UD:=λρ h1 h2=>hu▸ixM (d:=ruD N) (l:=R) (i:=i) h1 h2 hL
 generalize hmo:more / (R.length:ai)=mo;have hp:=gR (mo / 4) hw0;generalize hpq:ixm (mo / 4) ws.length=p at hp;have hk:=gR (mo / 24) s0;generalize hkq:ixm (mo / 24) St.length=k at hk;obtain⟨o,ho⟩:∃o,St[k]?=ae o:=⟨_,cq hk⟩
 obtain⟨ho29,hon⟩:=hS o (ef ho);obtain⟨rest,hfold⟩:=w2 p hp;have hWp:W[p]?=ae (W.getD p 0):=by rw[de,cq 0x1];rfl
 have hW29:W.getD p 0<29:=w3 _ (ef hWp);generalize W.getD p 0=kp at hfold hWp hW29;generalize hO:(Hd.filter λx=>!ϒ (x.2.1=kp)).map (λx:Rw=>x.1)=O;have hOm:∀y∈O,∃x∈Hd,x.1=y/\x.2.1≠kp:=λy hy=>by
  rw[<-hO] at hy;obtain⟨x,hx,e⟩:=b9.mp hy;obtain⟨h1,h2⟩:=gn.mp hx;exact⟨x,h1,e,by simpa using h2⟩
 have e0:ow0 (owt N K St M T R more extra .uD .uD .uD .uD .uD .uD .uD .uD .uD .uD)=.ok (.nx (owt N K St M T R more extra (.int (i:af)) .uD .uD .uD .uD .uD .uD .uD .uD .uD)):=bB (i:=5) ((KH (l:=R) (d:=ruD N) (v:=more) rfl rfl h0).trans (by rw[hi]));have e1:ow1 (owt N K St M T R more extra (.int (i:af)) .uD .uD .uD .uD .uD .uD .uD .uD .uD)=.ok (.nx (owt N K St M T R more extra (.int (i:af)) (sy N t.1) (sy N r.1) (tw N ow) (tw N ws) .uD .uD .uD .uD .uD)):=QM (ixM (d:=ruD N) (f:=cV 2) (e:=cV 5) (l:=R) (i:=i) rfl rfl hL) (cY N _) rfl;have e2:ow2 (owt N K St M T R more extra (.int (i:af)) (sy N t.1) (sy N r.1) (tw N ow) (tw N ws) .uD .uD .uD .uD .uD)=.ok (.nx (owt N K St M T R mo extra (.int (i:af)) (sy N t.1) (sy N r.1) (tw N ow) (tw N ws) .uD .uD .uD .uD .uD)):=by
  rw[<-hmo];exact bB (i:=0) (DX rfl (aF4 (l:=R) (d:=ruD N) rfl) 0x1)
 have e3:ow3 (owt N K St M T R mo extra (.int (i:af)) (sy N t.1) (sy N r.1) (tw N ow) (tw N ws) .uD .uD .uD .uD .uD)=.ok (.nx (owt N K St M T R mo extra (.int (i:af)) (sy N t.1) (sy N r.1) (tw N ow) (tw N ws) (.int (p:af)) .uD .uD .uD .uD)):=bB (i:=10) ((aRb (l:=ws) (d:=sy N) (v:=mo / 4) (DX rfl rfl 0x4) rfl hw0).trans (by rw[hpq]));have e4:ow4 (owt N K St M T R mo extra (.int (i:af)) (sy N t.1) (sy N r.1) (tw N ow) (tw N ws) (.int (p:af)) .uD .uD .uD .uD)=.ok (.nx (owt N K St M T R mo extra (.int (i:af)) (sy N t.1) (sy N r.1) (tw N ow) (tw N ws) (.int (p:af)) (sy N o) .uD .uD .uD)):=bZ (i:=11) (ixM (d:=sy N) (l:=St) (i:=k) rfl ((KH (l:=St) (d:=sy N) (v:=mo / 24) (DX rfl rfl 0x4) rfl s0).trans (by rw[hkq])) ho) rfl;have e5:ow5 (owt N K St M T R mo extra (.int (i:af)) (sy N t.1) (sy N r.1) (tw N ow) (tw N ws) (.int (p:af)) (sy N o) .uD .uD .uD)=.ok (.nx (owt N K St M T R mo extra (.int (i:af)) (sy N t.1) (sy N r.1) (tw N ow) (tw N ws) (.int (p:af)) (sy N o) (md N Hd) .uD .uD)):=bB (i:=12) (cU (aD (rowx _ rfl rfl) (aD rfl rfl)) ((fH rfl).trans hh));have e6:ow6 (owt N K St M T R mo extra (.int (i:af)) (sy N t.1) (sy N r.1) (tw N ow) (tw N ws) (.int (p:af)) (sy N o) (md N Hd) .uD .uD)=.ok (.nx (owt N K St M T R mo extra (.int (i:af)) (sy N t.1) (sy N r.1) (tw N ow) (tw N ws) (.int (p:af)) (sy N o) (md N Hd) (kd N O) .uD)):=by
  refine bB (i:=13) ?_;rw[<-hO];show _=δ (ξ _);rw[cv];exact j9 (rwD N) (λr:Rw=>sy N r.1) (λx=>!ϒ (x.2.1=kp)) Hd rfl (cC rfl) 0x1 (λa ha=>dO (aJ 0x12 (ixM (d:=sy N) (l:=W) (i:=p) (cU (aD rfl (aD (rowx _ rfl rfl) rfl)) ((fH rfl).trans w4)) rfl hWp) (J3 H.len H.nd (hg a ha).2.1 hW29))) λa ha _=>⟨aJ rfl rfl rfl,rfl⟩
 have e7:ow7 (owt N K St M T R mo extra (.int (i:af)) (sy N t.1) (sy N r.1) (tw N ow) (tw N ws) (.int (p:af)) (sy N o) (md N Hd) (kd N O) .uD)=.ok (.nx (owt N K St M T R mo extra (.int (i:af)) (sy N t.1) (sy N r.1) (tw N ow) (tw N ws) (.int (p:af)) (sy N o) (md N Hd) (kd N O) (.int 2))):=bB (i:=14) rfl;have fin:∀{tag w:af}{ws2:aa af},Us (t.1,r.1,ow,ws2)->(tag=1\/tag=2)->vL Hd t.2.1 ws2=.error (tag,w)->ow8 (owt N K St M T R mo extra (.int (i:af)) (sy N t.1) (sy N r.1) (tw N ow) (tw N ws) (.int (p:af)) (sy N o) (md N Hd) (kd N O) (.int 2))=.ok (.nx (owt N K St M T R mo extra (.int (i:af)) (sy N t.1) (sy N r.1) (tw N ow) (tw N ws2) (.int (p:af)) (sy N w) (md N Hd) (kd N O) (.int (tag:af))))->∃tag w ws2,Us (t.1,r.1,ow,ws2)/\(tag=1\/tag=2)/\vL Hd t.2.1 ws2=.error (tag,w)/\eQ [.int more,.int extra,rd N R,sgD N K M T,kd N St]=.ok (.lst [rd N (R.take i++(t.1,r.1,ow,ws2)::R.drop (i+1)),.int (tag:af),sy N w,.int (i:af)]):=λ{tag w ws2} h1 h2 h3 h8=>⟨tag,w,ws2,h1,h2,h3,by
  refine call_v ?_;unfold oE;exact aG e0 (aG e1 (aG e2 (aG e3 (aG e4 (aG e5 (aG e6 (aG e7 (aG h8 (mU (aD (aGo (d:=ruD N) (cY N) (l:=R) (n:=i) rfl rfl (aCw H rfl rfl rfl rfl) hl) (aD rfl 0x11)) 0x2)))))))))⟩
 generalize hρ:owt N K St M T R mo extra (.int (i:af)) (sy N t.1) (sy N r.1) (tw N ow) (tw N ws) (.int (p:af)) (sy N o) (md N Hd) (kd N O) (.int 2)=ρ at fin;have cm:∀n:ai,bTB (b2 (cX .eq) (b2 (aW .mod) fX RD) (bC (.int n))) ρ=.ok (mo % 4==n):=λn=>by subst hρ;exact eqI (KD rfl rfl 0x4) rfl
 have cp:bTB (b2 (zR .gt) dJ eU) ρ=.ok (ϒ ((0:ai)<(p:af))):=by subst hρ;exact dO (aJ rfl rfl (cmp_gt _ _))
 have co:bTB (b2 (cX .ne) oF (sW aR)) ρ=.ok (!O.isEmpty):=by subst hρ;exact dO (aJ rfl rfl (aEs O))
 have repl:∀(z:af)(x11 x14:D),b2 nD (b2 nD (eG gD cF (bW dJ)) (fM (aC iK aR))) (eG gD (bW (b2 (aW .add) dJ cO)) cF) (owt N K St M T R mo extra (.int (i:af)) (sy N t.1) (sy N r.1) (tw N ow) (tw N ws) (.int (p:af)) (sy N z) (md N Hd) (kd N O) x14)=.ok (tw N (ws.take p++z::ws.drop (p+1))):=λz x11 x14=>by
  have q:=adW (a:=ws.take p++[z]) (b:=ws.drop (p+1)) (adW (a:=ws.take p) (b:=[z]) (toW (f:=cV 9) (e:=cV 10) (ρ:=owt N K St M T R mo extra (.int (i:af)) (sy N t.1) (sy N r.1) (tw N ow) (tw N ws) (.int (p:af)) (sy N z) (md N Hd) (kd N O) x14) rfl rfl hp) (onW (f:=cV 11) rfl) (by simp;lia)) (frW (f:=cV 9) (e:=b2 (aW .add) dJ cO) (n:=p+1) rfl rfl 0x1 0x1) (by simp;lia);rw[cf] at q;exact q
 have usr:∀z,z<29->Us (t.1,r.1,ow,ws.take p++z::ws.drop (p+1)):=λz hz=>⟨ua,ub,uc,λi hi=>by
  rcases bo.mp hi with g|g
  .exact ud i (eI g)
  .rcases bt.mp g with g|g
   .lia
   .exact ud i (fA g),ucl,by simp;lia⟩
 by_cases g1:mo % 4=0/\0<p
 .refine fin (tag:=2) (w:=28) (ws2:=ws.take p) ⟨ua,ub,uc,λi hi=>ud i (eI hi),ucl,by simp;lia⟩ (.inr rfl) (aF9 hfold) ?_;refine lO (xQ ((cm 0).trans (by rw[g1.1];rfl)) (cp.trans (by rw[bg 0x1]))) ?_;subst hρ;refine aG (bB (i:=9) (toW rfl rfl hp)) ((bB (i:=11) (d:=sy N 28) ?_).trans rfl);show δ (ι "")=δ (ι (N.getD 28 ""));rw[H.e28]
 .have c1:KY (bTB (b2 (cX .eq) (b2 (aW .mod) fX RD) eU)) (bTB (b2 (zR .gt) dJ eU)) ρ=.ok ah:=by
   by_cases z:mo % 4=0
   .exact xQ ((cm 0).trans (by rw[z];rfl)) (cp.trans (by rw[cg 0x1]))
   .exact NB ((cm 0).trans (by rw[df.mpr z]))
  by_cases g2:mo % 4=3/\O≠[]
  .have hO0:0<O.length:=by cases O with
    |nil=>exact aT rfl g2.2
    |cons _ _=>simp
   have hj:=gR extra hO0;generalize hjq:ixm extra O.length=j at hj;obtain⟨z,hz⟩:∃z,O[j]?=ae z:=⟨_,cq hj⟩
   obtain⟨x,hx,hxz,hxk⟩:=hOm z (ef hz);refine fin (tag:=2) (w:=z) (usr z (hxz▸(hg x hx).1)) (.inr rfl) (hxz▸walk_at hfold (aCe hn hx hxk)) ?_;refine gW c1 (lO (xQ ((cm 3).trans (by rw[g2.1];rfl)) (co.trans (by cases O with
    |nil=>exact aT rfl g2.2
    |cons _ _=>rfl))) ?_)
   subst hρ;exact aG (bZ (i:=11) (ixM (d:=sy N) (l:=O) (i:=j) rfl ((KH (l:=O) (d:=sy N) (v:=extra) rfl rfl hO0).trans (by rw[hjq])) hz) rfl) ((bZ (i:=9) (repl z .uD (.int 2)) (jK ..)).trans rfl)
  .have c2:KY (bTB (b2 (cX .eq) (b2 (aW .mod) fX RD) nC)) (bTB (b2 (cX .ne) oF (sW aR))) ρ=.ok ah:=by
    by_cases z:mo % 4=3
    .refine xQ ((cm 3).trans (by rw[z];rfl)) (co.trans ?_);cases O with
     |nil=>rfl
     |cons a b=>exact aT ⟨z,by simp⟩ g2
    .exact NB ((cm 3).trans (by rw[df.mpr z]))
   by_cases g3:mo % 4=2
   .obtain⟨st',f1,f2⟩:=J8 hn ws (B:=[]) (by rw[dg];exact hR);have f3:st'=[]:=by cases f2;rfl
    subst f3;refine fin (tag:=2) (w:=o) (ws2:=ws++[o]) ⟨ua,ub,uc,λi hi=>by
     rcases bo.mp hi with g|g
     .exact ud i g
     .rw[fw] at g;lia,ucl,by simp;lia⟩ (.inr rfl) (walk_at f1 rfl) ?_
    refine gW c1 (gW c2 (lO ((cm 2).trans (by rw[g3];rfl)) ?_));subst hρ;exact(bZ (i:=9) (adW rfl (onW rfl) (by simp;lia)) (jK ..)).trans rfl
   .refine fin (tag:=1) (w:=o) (usr o ho29) (.inl rfl) (walk_at hfold (aFa hon)) ?_;refine gW c1 (gW c2 (gW ((cm 2).trans (by rw[df.mpr g3])) ?_));subst hρ;exact aG (bZ (i:=9) (repl o .uD (.int 2)) (jK ..)) ((bB (i:=14) rfl).trans rfl)
end
section
variable {N:aa Str} (H:Nm N) {K:aa af} {M:aa Rw} {T:aa Tk} {R:aa Ru}
include H
abbrev lat(N:aa Str)(K:aa af)(M:aa Rw)(T:aa Tk)(R:aa Ru)(c:ai)(z:af)(u:Ru)(x8 x9:D):aa D:=[.int c,rd N R,sgD N K M T,sy N z,sy N u.1,sy N u.2.1,tw N u.2.2.1,tw N u.2.2.2,x8,x9]
theorem V_{c:ai}{z:af}{u:Ru}(hu:R.getLast?=ae u)(hl:R.length<=1000)(ua:u.1<29)(ul:u.2.2.2.length<=500)(ml:M.length<=100)(tl:T.length<=100)(hT:∀t∈T,t.1<29):∃u':Ru,(c=0->u'=(u.1,u.2.1,u.2.2.1,u.2.2.2++[z]))/\jV [.int c,rd N R,sgD N K M T,sy N z]=.ok (rd N (R.dropLast++[u'])):=by
 have h0:0<R.length:=by cases R with
  |nil=>cases hu
  |cons _ _=>simp
 have e0:la0 [.int c,rd N R,sgD N K M T,sy N z,.uD,.uD,.uD,.uD,.uD,.uD]=.ok (.nx (lat N K M T R c z u .uD .uD)):=QM (S_ (f:=cV 1) (l:=R) (d:=ruD N) rfl hu) (cY N u) rfl;have e1:la1 (lat N K M T R c z u .uD .uD)=.ok (.nx (lat N K M T R c z u (ruD N (u.1,u.2.1,u.2.2.1,u.2.2.2++[z])) .uD)):=bZ (i:=8) (aCw H rfl rfl rfl (adW rfl (onW rfl) (by simp;lia))) (cY ..);have st:∀(n:ai)(x8 x9:D),bTB (b2 (cX .eq) fX (bC (.int n))) (lat N K M T R c z u x8 x9)=.ok (c==n):=λn x8 x9=>eqI rfl rfl
 have fin:∀{u':Ru}{x9:D},la6 (lat N K M T R c z u (ruD N u') x9)=.ok (.rt (rd N (R.dropLast++[u']))):=λ{u' x9}=>uY (vO (d:=ruD N) (cY N) (aC9 (cY N) (f:=cV 1) (l:=R) rfl h0) (aF5 (d:=ruD N) (cY N) rfl) (by simp;lia)) rfl
 have s2:∃v:Ru,(c=0->v=(u.1,u.2.1,u.2.2.1,u.2.2.2++[z]))/\la2 (lat N K M T R c z u (ruD N (u.1,u.2.1,u.2.2.1,u.2.2.2++[z])) .uD)=.ok (.nx (lat N K M T R c z u (ruD N v) .uD)):=by
  by_cases g:c=1
  .exact⟨(z,u.2.1,u.2.2.1,u.2.2.2),λh=>by lia,lO ((st 1 _ _).trans (by rw[g];rfl)) (bZ (i:=8) (aCw H rfl rfl rfl rfl) (cY ..))⟩
  .exact⟨_,λ_=>rfl,gW ((st 1 _ _).trans (by rw[df.mpr g])) rfl⟩
 obtain⟨v2,hv2,s2⟩:=s2;have s3:∃v:Ru,(c=0->v=(u.1,u.2.1,u.2.2.1,u.2.2.2++[z]))/\la3 (lat N K M T R c z u (ruD N v2) .uD)=.ok (.nx (lat N K M T R c z u (ruD N v) .uD)):=by
  by_cases g:c=2
  .exact⟨(u.1,z,u.2.2.1,u.2.2.2),λh=>by lia,lO ((st 2 _ _).trans (by rw[g];rfl)) (bZ (i:=8) (aCw H rfl rfl rfl rfl) (cY ..))⟩
  .exact⟨v2,hv2,gW ((st 2 _ _).trans (by rw[df.mpr g])) rfl⟩
 obtain⟨v3,hv3,s3⟩:=s3;have s4:∃v:Ru,(c=0->v=(u.1,u.2.1,u.2.2.1,u.2.2.2++[z]))/\la4 (lat N K M T R c z u (ruD N v3) .uD)=.ok (.nx (lat N K M T R c z u (ruD N v) .uD)):=by
  have cn:bTB (b2 (cX .ne) eF (fM aR)) (lat N K M T R c z u (ruD N v3) .uD)=.ok (!u.2.2.1.isEmpty):=dO (aJ rfl (dD rfl (by rw[bA];simp)) (aJo _));by_cases g:c=3/\u.2.2.1≠[]
  .have hp:0<u.2.2.1.length:=by cases h:u.2.2.1 with
    |nil=>exact aT h g.2
    |cons _ _=>simp
   refine⟨(u.1,u.2.1,u.2.2.1.dropLast,u.2.2.2),λh=>by lia,lO (xQ ((st 3 _ _).trans (by rw[g.1];rfl)) (cn.trans ?_)) (bZ (i:=8) (aCw H rfl rfl (ngW rfl hp) rfl) (cY ..))⟩;cases h:u.2.2.1 with
   |nil=>exact aT h g.2
   |cons _ _=>rfl
  .refine⟨v3,hv3,gW ?_ rfl⟩;by_cases g3:c=3
   .refine xQ ((st 3 _ _).trans (by rw[g3];rfl)) (cn.trans ?_);cases h:u.2.2.1 with
    |nil=>rfl
    |cons _ _=>exact aT ⟨g3,by rw[h];simp⟩ g
   .exact NB ((st 3 _ _).trans (by rw[df.mpr g3]))
 obtain⟨v4,hv4,s4⟩:=s4;have s5:∃(v:Ru)(x9:D),(c=0->v=(u.1,u.2.1,u.2.2.1,u.2.2.2++[z]))/\la5 (lat N K M T R c z u (ruD N v4) .uD)=.ok (.nx (lat N K M T R c z u (ruD N v) x9)):=by
  by_cases g:c=5
  .generalize hS:(T.filter λt=>ϒ (t.1=u.1)).map (λt:Tk=>t.2.2.1)=S;have hin:∀(ρ:aa D)(a:Rw),ρ=lat N K M T R c z u (ruD N v4) .uD++[rwD N a]->dM 11 (bT (b2 getD dW fQ) ah) mK (bTB (b2 (cX .eq) (b2 getD iK eU) g_)) (b2 getD iK fQ) ah ρ=.ok (kd N S):=λρ a hρ=>by
    subst hρ;rw[<-hS];show _=δ (ξ _);rw[cv];exact j9 (tkD N) (λt:Tk=>sy N t.2.2.1) (λt=>ϒ (t.1=u.1)) T rfl (cC 0x12) 0x1 (λb hb=>dO (aJ 0x12 rfl (vI H.len H.nd (hT b hb) ua))) λb hb _=>⟨aJ rfl rfl rfl,rfl⟩
   have hcmp:∀i:af,cX .ne (.lst ([i].map (sy N))) (.lst (S.map (sy N)))=.ok (.bl (!xM ([i].map (sy N)) (S.map (sy N)))):=λi=>by
    show(if ο 11 ([i].map (sy N))&&ο 11 (S.map (sy N)) then δ (υ (!xM ([i].map (sy N)) (S.map (sy N)))) else .bad)=_;rw[nW,nW];rfl
   have hc:=j9 (n:=10) (k:=ah) (it:=bT (b2 getD dW cO) ah) (c:=bTB (b2 (cX .ne) (j6 (aC (b2 getD dJ cO) aR)) (dM 11 (bT (b2 getD dW fQ) ah) mK (bTB (b2 (cX .eq) (b2 getD iK eU) g_)) (b2 getD iK fQ) ah))) (f:=b2 getD dJ eU) (ρ:=lat N K M T R c z u (ruD N v4) .uD) (rwD N) (λr:Rw=>sy N r.1) (λa=>!xM ([a.2.1].map (sy N)) (S.map (sy N))) M rfl (cC 0x12) 0x1 (λa ha=>dO (aJ (aF5 (d:=sy N) (a:=a.2.1) (vP N) 0x12) (hin _ a rfl) (hcmp _))) λa ha _=>⟨aJ rfl rfl rfl,rfl⟩
   generalize hO:M.filter (λa=>!xM ([a.2.1].map (sy N)) (S.map (sy N)))=O at hc;have hOl:O.length<=100:=by rw[<-hO];exact dh (sR ..) ml
   have hc2:∀x,x=O.map (λr:Rw=>sy N r.1)->x=(O.map (λr:Rw=>r.1)).map (sy N):=λx hx=>by rw[hx,cv];rfl
   rw[hc2 _ rfl] at hc;generalize hQ:O.map (λr:Rw=>r.1)=Q at hc;have hQl:Q.length<=100:=by rw[<-hQ,aE];exact hOl
   obtain⟨y,hy⟩:∃y,(Q++[z])[0]?=ae y:=⟨_,cq 0x2⟩
   refine⟨(u.1,y,u.2.2.1,u.2.2.2),kd N Q,λh=>by lia,lO ((st 5 _ _).trans (by rw[g];rfl)) (aG (bB (i:=9) hc) (bZ (i:=8) (aCw H rfl (ixM (d:=sy N) (l:=Q++[z]) (i:=0) (vO (d:=sy N) (a:=Q) (b:=[z]) (vP N) rfl (aF5 (d:=sy N) (a:=z) (vP N) rfl) (by simp;lia)) rfl hy) rfl rfl) (cY ..)))⟩
  .exact⟨v4,.uD,hv4,gW ((st 5 _ _).trans (by rw[df.mpr g])) rfl⟩
 obtain⟨v5,x9,hv5,s5⟩:=s5;refine⟨v5,hv5,call_v ?_⟩;unfold wY;exact aG e0 (aG e1 (aG s2 (aG s3 (aG s4 (aG s5 fin)))))
end
theorem aCg(h:p∈prs t L):p.1=t.1:=by
 unfold prs at h;obtain⟨r,_,rfl⟩:=b9.mp h;rfl
theorem aCh(t:Tk)(h:(M.map (·.1)).Nodup):(prs t M).Nodup:=by
 unfold prs;rw[li,sL];rw[li,sL] at h;refine Cb ?_ (h.sublist List.filter_sublist);intro a b hne e;exact hne (dw Bw e)
theorem QR(h:(M.map (·.1)).Nodup):∀(T:aa Tk),(T.map (·.1)).Nodup->(prT T M).Nodup
 |[],_=>ig
 |t::T,hT=>by
  rw[bc,eT] at hT;unfold prT;rw[Bq,eS];refine⟨aCh t h,QR h T hT.2,λa ha b hb e=>?_⟩;subst e;obtain⟨t',ht',hp⟩:=Bx.mp hb;have:=(aCg ha).symm.trans (aCg hp);exact hT.1 (this▸eg ht')
theorem KN(nm:α->af):∀(L:aa α),(L.map nm).Nodup->∀a∈L,(L.find? λx=>ϒ (nm x=nm a))=ae a
 |[],_,_,h=>by cases h
 |b::L,hn,a,h=>by
  rw[bc,eT] at hn;rw[i5];rcases bt.mp h with g|g
  .subst g;rw[bg rfl]
  .have:¬nm b=nm a:=λz=>hn.1 (z▸eg g)
   rw[cg this];exact KN nm L hn.2 a g
theorem aCi(nm:α->af)(L:aa α)(h:x∉L.map nm):(L.find? λa=>ϒ (nm a=x))=aj:=
 nw.mpr λa ha e=>h (by have:=c9 e;exact this▸eg ha)
theorem aJs(hg:∀r∈H,r.1<29)(R:Run H st ws):∀w∈ws,w<29:=by
 induction R with
 |nil=>intro w hw;cases hw
 |step hr _ ih=>
  intro w hw;rcases bt.mp hw with g|g
  .exact g▸hg _ hr
  .exact ih w g
def sS(m:af)(M:aa Rw)(T:aa Tk):aa af:=[26,27]++ay m++(M++T.map tr).map (·.1)
section
variable {m:af} {M:aa Rw} {T:aa Tk} (S:Sig m M T)
include S
theorem BR:Mat m M T (M++T.map tr):=by
 have m3:=S.m3;have ml:=S.ml;have tl:=S.tl;refine⟨m3,by lia,by lia,by rw[bz,aE];lia,λr hr=>?_,λt ht=>?_,λr hr=>?_,λk hk=>?_⟩
 .obtain⟨g1,g2,g3⟩:=S.mg r hr;have:=S.mi r hr;exact⟨by lia,by lia,λi hi=>by have:=g2 i hi;lia,g3⟩
 .obtain⟨g1,g2,g3,g4⟩:=S.tg t ht;have:=S.ti t ht;exact⟨by lia,g1,by lia,λi hi=>by have:=g3 i hi;lia,g4⟩
 .rcases bo.mp hr with g|g
  .obtain⟨g1,g2,g3⟩:=S.mg r g;have:=S.mi r g;exact⟨by lia,by lia,g2,g3⟩
  .obtain⟨t,ht,rfl⟩:=b9.mp g;obtain⟨g1,g2,g3,g4⟩:=S.tg t ht;have:=S.ti t ht;refine⟨by show t.1<29;lia,by show t.2.1<29;lia,λi hi=>?_,by show(t.2.2.1::t.2.2.2).length<=3;rw[cz];lia⟩;rcases bt.mp hi with e|e
   .exact e▸g2
   .exact g3 i e
 .obtain⟨r,hr,h⟩:=S.ba k hk;exact⟨r,fN _ hr,h⟩
theorem aGp:prT T M≠[]:=by
 have t1:=S.t1;obtain⟨t,ht⟩:∃t,t∈T:=⟨T[0]' 0x1,dA _⟩
 obtain⟨r,hr,h,_⟩:=S.ba _ (S.tg t ht).2.1;intro e;have:(t.1,r.1)∈prT T M:=Bx.mpr ⟨t,ht,b9.mpr ⟨r,gn.mpr ⟨hr,by simpa using h⟩,rfl⟩⟩;rw[e] at this;cases this
theorem aCj:(M++T.map tr).map (·.1)=M.map (·.1)++T.map (·.1):=by
 rw[bE,cv];rfl
theorem aCk:((M++T.map tr).map (·.1)).Nodup:=by
 rw[aCj S,eS];refine⟨S.mn,S.tn,λa ha b hb e=>?_⟩;obtain⟨r,hr,rfl⟩:=b9.mp ha;obtain⟨t,ht,rfl⟩:=b9.mp hb;have h1:=S.mi r hr;have h2:=S.ti t ht;have e:r.1=t.1:=e;lia
theorem BV(h:i∈(M++T.map tr).map (·.1)):3<=i/\i<13:=by
 rw[aCj S] at h;rcases bo.mp h with g|g
 .obtain⟨r,hr,rfl⟩:=b9.mp g;have h1:=S.mi r hr;show 3<=r.1/\r.1<13;lia
 .obtain⟨t,ht,rfl⟩:=b9.mp g;have h2:=S.ti t ht;show 3<=t.1/\t.1<13;lia
theorem BW:([26,27]++ay m).Nodup:=by
 have:=S.m3;rw[eS];refine⟨by decide,Bn,λa ha b hb e=>?_⟩;have:=cS.mp hb;simp at ha;lia
theorem aCl:(sS m M T).Nodup:=by
 have:=S.m3;unfold sS;rw[eS];refine⟨BW S,aCk S,λa ha b hb e=>?_⟩;have h1:=BV S hb;rcases bo.mp ha with g|g
 .simp at g;lia
 .have:=cS.mp g;lia
theorem aJt(h:i∈sS m M T):i=26\/i=27\/i<13:=by
 have:=S.m3;unfold sS at h;rcases bo.mp h with g|g
 .rcases bo.mp g with g|g
  .simp at g;lia
  .have:=cS.mp g;lia
 .have:=BV S g;lia
theorem aGq(h:r∈M++T.map tr):OkR (ay m) r:=by
 rcases bo.mp h with g|g
 .obtain⟨g1,g2,g3⟩:=S.mg r g;exact⟨cS.mpr g1,λi hi=>cS.mpr (g2 i hi)⟩
 .obtain⟨t,ht,rfl⟩:=b9.mp g;obtain⟨g1,g2,g3,g4⟩:=S.tg t ht;refine⟨cS.mpr g1,λi hi=>?_⟩;rcases bt.mp hi with e|e
  .exact e▸cS.mpr g2
  .exact cS.mpr (g3 i e)
theorem aFb:stage1 (ay m) M T=.ok (sS m M T):=by
 rw[o7 (BW S),KC _ _ (aCl S) λr hr=>aGq S hr];rfl
theorem TF:Sm (ay m) M T:=by
 have m3:=S.m3;have ml:=S.ml;have tl:=S.tl;refine⟨λi hi=>by have:=cS.mp hi;lia,λr hr=>?_,λt ht=>?_,by rw[dv];lia,by lia,by lia⟩
 .have:=(BR S).mg r hr;exact⟨this.1,this.2.1,this.2.2.1,by have:=this.2.2.2;lia⟩
 .have:=(BR S).tg t ht;exact⟨this.1,by have:=this.2.1;lia,this.2.2.1,this.2.2.2.1,by have:=this.2.2.2.2;lia⟩
theorem aCm:Hds (M++T.map tr):=by
 have m3:=S.m3;have ml:=S.ml;have tl:=S.tl;refine⟨aCk S,λr hr=>?_,by rw[bz,aE];lia⟩;have:=(BR S).hg r hr;exact⟨this.1,this.2.1,λi hi=>by have:=this.2.2.1 i hi;lia,by lia⟩
theorem aO2:Chk (sS m M T) M T:=by
 have m3:=S.m3;have ml:=S.ml;have tl:=S.tl;refine⟨aCm S,λi hi=>by have:=aJt S hi;lia,by unfold sS;simp;lia,λr hr=>dS _ (eg hr),λr hr=>(S.mg r hr).2.2,λt ht=>(S.tg t ht).2.2.2⟩
theorem aCn(hr:r∈M)(ht:t∈T)(hl:ow.length=(r.2.2++t.2.2.2).length)(hn:ow.Nodup)(ho:∀i∈ow,13<=i/\i<18):((hdl M T ow (r.2.2++t.2.2.2)).map (·.1)).Nodup/\∀x∈hdl M T ow (r.2.2++t.2.2.2),x.1<29/\x.2.1<29/\(∀i∈x.2.2,i<29)/\x.2.2.length<=10:=by
 have m3:=S.m3;have K:=aGj (aCm S) hl hn (λi hi=>⟨by have:=ho i hi;lia,λhm=>by have:=BV S hm;have:=ho i hi;lia⟩) (λi hi=>by
  rcases bo.mp hi with g|g
  .have:=(S.mg r hr).2.1 i g;lia
  .have:=(S.tg t ht).2.2.1 i g;lia) (by have:=(S.mg r hr).2.2;have:=(S.tg t ht).2.2.2;rw[bz];lia)
 unfold hdl;refine⟨?_,λx hx=>?_⟩
 .rw[bE,eS];refine⟨K.nd,aCk S,λa ha b hb e=>?_⟩;obtain⟨x,hx,rfl⟩:=b9.mp ha;exact(K.lt x hx).2.2.2 (e▸hb)
 .rcases bo.mp hx with g|g
  .obtain⟨k1,k2,k3,_⟩:=K.lt x g;rw[k3];exact⟨k1,k2,(λi hi=>by cases hi),by simp⟩
  .exact(aCm S).lt x g
theorem TJ(h:Good M T (M++T.map tr) u):Us u:=by
 obtain⟨t,ht,r,hr,hk,Q⟩:=h;have h1:=S.ti t ht;have h2:=S.mi r hr;obtain⟨q1,q2⟩:=aCn S hr ht Q.ol Q.on Q.oi;refine⟨by rw[Q.n1];lia,by rw[Q.n2];lia,λi hi=>by have:=Q.oi i hi;lia,aJs (λx hx=>(q2 x hx).1) Q.rn,?_,by have:=Q.wl;lia⟩;have h3:=Q.ol;have h4:=(S.mg r hr).2.2;have h5:=(S.tg t ht).2.2.2;rw[bz] at h3;lia
theorem BX(hr:r∈M)(ht:t∈T):lV (sS m M T) M T L (t.1,r.1,ow,ws)=if r.2.1=t.2.2.1 then (if (t.1,r.1)∈L then .error (3,t.1) else (match knE (sS m M T) ow (r.2.2++t.2.2.2) t.1 with
   |.error e=>.error e
   |.ok _=>(match vL (hdl M T ow (r.2.2++t.2.2.2)) t.2.1 ws with
    |.error e=>.error e
    |.ok _=>.ok (L++[(t.1,r.1)])))) else .error (2,r.1):=by
 unfold lV;dsimp only;rw[KN (λt:Tk=>t.1) T S.tn t ht];dsimp only;rw[KN (λr:Rw=>r.1) M S.mn r hr];rfl
theorem WD(hl:ow.length=be.length)(hn:ow.Nodup)(ho:∀i∈ow,13<=i/\i<18):knE (sS m M T) ow be tk=.ok ():=by
 unfold knE;rw[ar hl,vM ow (sS m M T) (by
  rw[eS];refine⟨aCl S,hn,λa ha b hb e=>?_⟩;have h1:=aJt S ha;have h2:=ho b hb;lia)]
theorem aJu(h:Good M T (M++T.map tr) u)(hq:pq u∉L):lV (sS m M T) M T L u=.ok (L++[pq u]):=by
 obtain⟨t,ht,r,hr,hk,Q⟩:=h;obtain⟨q1,q2⟩:=aCn S hr ht Q.ol Q.on Q.oi;obtain⟨u1,u2,ow,ws⟩:=u;obtain⟨n1,n2,ol,on,oi,rn,wl⟩:=Q;dsimp only at n1 n2 ol on oi rn wl q1;subst n1 n2;obtain⟨st',f1,f2⟩:=J8 q1 ws (by rw[dg];exact rn);have f3:st'=[]:=by cases f2;rfl
 subst f3;have e:vL (hdl M T ow (r.2.2++t.2.2.2)) t.2.1 ws=.ok ():=by
  unfold vL;rw[f1]
 have hq:(t.1,r.1)∉L:=hq;rw[BX S hr ht,ar hk,aw hq,WD S ol on oi];dsimp only;rw[e];rfl
theorem aGr:∀(A:aa Ru)(L:aa (af×af)),(∀u∈A,Good M T (M++T.map tr) u)->(L++A.map pq).Nodup->c7 (lV (sS m M T) M T) L A=.ok (L++A.map pq)
 |[],L,_,_=>by rw[gv,dg];rfl
 |u::A,L,h,hn=>by
  have hq:pq u∉L:=λhm=>by
   rw[eS] at hn;exact hn.2.2 _ hm _ (bq ..) rfl
  rw[c7,aJu S (h u (bq ..)) hq];dsimp only;rw[aGr A (L++[pq u]) (λx hx=>h x (cr _ hx)) (by rw[cf];exact hn),cf];rfl
end
theorem KQ(H:Nm N)(S:Sig m M T)(hA:∀u∈A,Good M T (M++T.map tr) u)(hn:(A.map pq).Nodup)(al:A.length<=200)(U:Us b)(he:lV (sS m M T) M T (A.map pq) b=.error e):gK [prD N (ay m) M T (A++b::B)]=erX N e:=by
 have q:=QL H (TF S) (R:=A++b::B);rw[aFb S] at q;have ml:=S.ml;have tl:=S.tl;have c:=aC6 H (K:=ay m) (aO2 S) 0x1 0x1 (λt ht=>by have:=(S.tg t ht).2.2.2;lia) (R1:=A++[b]) (R2:=B) (by rw[bz,eP];lia) (λu hu=>by
  rcases bo.mp hu with g|g
  .exact TJ S (hA u g)
  .rw[fw] at g;exact g▸U) (e:=e) (by
  rw[kY,aGr S A [] hA (by rw[gN];exact hn)];dsimp only;rw[c7,gN,he])
 rw[cf] at c;exact q e c
section
variable {m:af} {M:aa Rw} {T:aa Tk} (S:Sig m M T)
include S
theorem fa1{L:aa (af×af)}{u:Ru}(h:u.1∉T.map (·.1)):lV (sS m M T) M T L u=.error (1,u.1):=by
 unfold lV;rw[aCi (λt:Tk=>t.1) T h]
theorem fa2{L:aa (af×af)}{u:Ru}{t:Tk}(ht:t∈T)(e:u.1=t.1)(h:u.2.1∉M.map (·.1)):lV (sS m M T) M T L u=.error (1,u.2.1):=by
 unfold lV;rw[e,KN (λt:Tk=>t.1) T S.tn t ht];dsimp only;rw[aCi (λr:Rw=>r.1) M h]
theorem fa5{L:aa (af×af)}{r:Rw}(hr:r∈M){t:Tk}(ht:t∈T)(hk:r.2.1=t.2.2.1)(hq:(t.1,r.1)∉L){ow ws:aa af}{e:Er}(h:knE (sS m M T) ow (r.2.2++t.2.2.2) t.1=.error e):lV (sS m M T) M T L (t.1,r.1,ow,ws)=.error e:=by
 rw[BX S hr ht,ar hk,aw hq,h]
theorem aO3{ow be:aa af}{tk:af}(h:ow.length≠be.length):knE (sS m M T) ow be tk=.error (2,tk):=by
 unfold knE;rw[aw h]
theorem aFc{g be s:aa af}{w tk:af}(hl:(g++w::s).length=be.length)(hn:g.Nodup)(ho:∀i∈g,13<=i/\i<18)(hw:w∈sS m M T++g):knE (sS m M T) (g++w::s) be tk=.error (3,w):=by
 unfold knE;rw[ar hl,kY,vM g (sS m M T) (by
  rw[eS];refine⟨aCl S,hn,λa ha b hb e=>?_⟩;have h1:=aJt S ha;have h2:=ho b hb;lia)]
 dsimp only;rw[c7];have e2:xZ (sS m M T++g) w=.error (3,w):=by unfold xZ;rw[ar hw]
 rw[e2]
end
theorem UsN.wide{u:Ru}(h:UsN 390 u):Us u:=⟨h.a,h.b,h.c,h.d,h.cl,by have:=h.dl;lia⟩
structure Bd(N:aa Str)(m:af)(M:aa Rw)(T:aa Tk)(any:aq)(R':aa Ru)(tag w k:af):Prop where
 ex:∃A b B,R'=A++b::B/\k=A.length/\(∀B',gK [prD N (ay m) M T (A++b::B')]=erX N (tag,w))/\(any=ag->∀z,z<29->gK [prD N (ay m) M T (A++[(b.1,b.2.1,b.2.2.1,b.2.2.2++[z])])]=erX N (tag,w))
 us:∀u∈R',Us u
 tg:tag=1\/tag=2\/tag=3
 ln:R'.length<=300
section
variable {N:aa Str} (H:Nm N) {m:af} {M:aa Rw} {T:aa Tk} (S:Sig m M T) {R:aa Ru}
include H S
theorem aO4(gd:∀u∈R,Good M T (M++T.map tr) u):∀u∈R,Us u:=λu hu=>TJ S (gd u hu)
theorem aFd(gd:∀u∈R,Good M T (M++T.map tr) u)(nd:(R.map pq).Nodup)(rl:R.length<=100){k:af}{b:Ru}{B:aa Ru}{tag w:af}{any:aq}(hk:k<=R.length)(U:UsN 390 b)(hB:∀u∈B,u∈R)(bl:B.length<=R.length)(ht:tag=1\/tag=2\/tag=3)(he:lV (sS m M T) M T ((R.take k).map pq) b=.error (tag,w))(ha:any=ag->∀ws,lV (sS m M T) M T ((R.take k).map pq) (b.1,b.2.1,b.2.2.1,ws)=.error (tag,w)):Bd N m M T any (R.take k++b::B) tag w k:=by
 have hA:∀u∈R.take k,Good M T (M++T.map tr) u:=λu hu=>gd u (eI hu)
 have hn:((R.take k).map pq).Nodup:=nd.sublist ((lz k R).map pq);have al:(R.take k).length<=200:=by rw[eW];lia
 refine⟨⟨R.take k,b,B,rfl,by rw[eW];lia,λB'=>KQ H S hA hn al U.wide he,λz x hx=>KQ H S hA hn al ⟨U.a,U.b,U.c,λi hi=>?_,U.cl,by have:=U.dl;simp;lia⟩ (ha z _)⟩,λu hu=>?_,ht,by simp;lia⟩
 .rcases bo.mp hi with g|g
  .exact U.d i g
  .rw[fw] at g;lia
 .rcases bo.mp hu with g|g
  .exact TJ S (hA u g)
  .rcases bt.mp g with g|g
   .exact g▸U.wide
   .exact TJ S (gd u (hB u g))
theorem GP(nd:(R.map pq).Nodup){i:af}(hi:i<R.length):pq R[i]∉(R.take i).map pq:=λhm=>by
 have e:R=R.take i++R[i]::R.drop (i+1):=by rw[<-jb hi,nu]
 rw[e,bE,eS] at nd;exact nd.2.2 _ (by simpa using hm) _ (by rw[bc];exact bq ..) rfl
end
noncomputable abbrev St0:aa af:=[18,26,27,19]
section
variable {N:aa Str} (H:Nm N) {m:af} {M:aa Rw} {T:aa Tk} (S:Sig m M T) {R:aa Ru} (gd:∀u∈R,Good M T (M++T.map tr) u) (nd:(R.map pq).Nodup) (rl:R.length<=100) (r0:0<R.length) {more extra:ai}
include H S gd nd rl r0
theorem aQa:∀u∈R,UsN 390 u:=λu hu=>by
 have U:=TJ S (gd u hu);obtain⟨t,ht,r,hr,hk,Q⟩:=gd u hu;exact⟨U.a,U.b,U.c,U.d,U.cl,by have:=Q.wl;lia⟩
theorem aJv{c:ai}(hc:c=0\/c=1\/c=2\/c=3):∃R' tag w k,Bd N m M T ag R' tag w k/\d8 [.int c,.int more,.int extra,rd N R,sgD N (ay m) M T,kd N St0]=.ok (.lst [rd N R',.int (tag:af),sy N w,.int (k:af)]):=by
 have m3:=S.m3;have ml:=S.ml;have tl:=S.tl;have hR:=aQa H S gd nd rl r0;have G:=BR S;have hM:∀r∈M,r.1<29/\r.2.1<29:=λr hr=>⟨(G.mg r hr).1,(G.mg r hr).2.1⟩
 have hT:∀t∈T,t.1<29/\t.2.2.1<29:=λt ht=>⟨(G.tg t ht).1,(G.tg t ht).2.2.1⟩
 have nM:∀i∈M.map (λr:Rw=>r.1),3<=i/\i<9:=λi hi=>by obtain⟨r,hr,rfl⟩:=b9.mp hi;exact S.mi r hr
 have nT:∀i∈T.map (λt:Tk=>t.1),10<=i/\i<13:=λi hi=>by obtain⟨r,hr,rfl⟩:=b9.mp hi;exact S.ti r hr
 have sK:∀i∈St0++ay m,i<3\/18<=i/\i<28:=λi hi=>by
  rcases bo.mp hi with g|g
  .simp at g;lia
  .have:=cS.mp g;lia
 rcases hc with rfl|hc2
 .obtain⟨i,b,hi,hb,U,q⟩:=aQ9 H (K:=ay m) (St:=St0) (M:=M) (T:=T) (R:=R) (extra:=extra) (more:=more) r0 0x1 0x1 (by rw[dv];lia) 0x4 hR (x:=18) rfl 0x4 (λy hy=>by
   rcases bo.mp hy with g|g
   .have:=sK y g;lia
   .have:=nM y g;lia)
  have hn:b.1∉T.map (λt:Tk=>t.1):=λhm=>by
   have h1:=nT _ hm;rcases bo.mp hb with g|g
   .have:=sK _ g;lia
   .have:=nM _ g;lia
  exact⟨_,1,b.1,i,aFd H S gd nd rl 0x1 U (λu hu=>fA hu) 0x2 (.inl rfl) (fa1 S hn) (λ_ ws=>fa1 S hn),q⟩
 .by_cases h3:c=3
  .subst h3;obtain⟨i,sp,b,hi,h1,h2,hpq,U,q⟩:=aQ8 H (K:=ay m) (St:=St0) (M:=M) (T:=T) (R:=R) (extra:=extra) (more:=more) r0 0x1 hR (x:=18) rfl 0x4;obtain⟨t,ht,r,hr,hk,Q⟩:=gd _ (dA hi);have hL:pq b∈(R.take sp).map pq:=by
    rw[hpq];exact eg (List.mem_take_iff_getElem.mpr ⟨i,by lia,rfl⟩)
   have e1:b.1=t.1:=(dw A7 hpq).trans Q.n1;have e2:b.2.1=r.1:=(dw Bw hpq).trans Q.n2;have fa:∀ws,lV (sS m M T) M T ((R.take sp).map pq) (b.1,b.2.1,b.2.2.1,ws)=.error (3,b.1):=λws=>by
    rw[e1,e2,BX S hr ht,ar hk,ar (by have e:pq b=(t.1,r.1):=Prod.ext e1 e2;exact e▸hL)]
   exact⟨_,3,b.1,sp,aFd H S gd nd rl h2 U (λu hu=>fA hu) 0x2 (.inr (.inr rfl)) (fa b.2.2.2) (λ_ ws=>fa ws),q⟩
  .obtain⟨i,tag,b,hi,hb,U,hf,q⟩:=aO1 H (K:=ay m) (St:=St0) (M:=M) (T:=T) (R:=R) (extra:=extra) (c:=c) (more:=more) 0x1 r0 0x1 0x1 0x1 (by rw[dv];lia) 0x4 hR (λu hu=>by
    obtain⟨t,ht,r,hr,hk,Q⟩:=gd u hu;exact⟨t,ht,Q.n1.symm⟩) hT hM (x:=18) rfl 0x4 (λy hy=>by
    rcases bo.mp hy with g|g
    .have:=sK y g;lia
    .have:=nT y g;lia)
   obtain⟨t,ht,r,hr,hk,Q⟩:=gd _ (dA hi);have fa:∀ws,lV (sS m M T) M T ((R.take i).map pq) (b.1,b.2.1,b.2.2.1,ws)=.error (tag,b.2.1):=λws=>by
    rcases hf with ⟨rfl,hm⟩|⟨rfl,r',hr',e,t',ht',e',hne⟩
    .refine fa2 S ht (hb.trans Q.n1) λhm2=>?_
     have h1:=nM _ hm2;rcases bo.mp hm with g|g
     .have:=sK _ g;have h1:3<=b.2.1/\b.2.1<9:=h1;lia
     .have:=nT _ g;have h1:3<=b.2.1/\b.2.1<9:=h1;lia
    .rw[<-e,<-e',BX S hr' ht',aw hne]
   exact⟨_,tag,b.2.1,i,aFd H S gd nd rl 0x1 U (λu hu=>fA hu) 0x2 (by rcases hf with ⟨h,_⟩|⟨h,_⟩<;>lia) (fa b.2.2.2) (λ_ ws=>fa ws),q⟩
end
section
variable {N:aa Str} (H:Nm N) {m:af} {M:aa Rw} {T:aa Tk} (S:Sig m M T) {R:aa Ru} (gd:∀u∈R,Good M T (M++T.map tr) u) (nd:(R.map pq).Nodup) (rl:R.length<=100) (r0:0<R.length) {more extra:ai}
include H S gd nd rl r0
theorem aFe{c:ai}:∃R' tag w k,Bd N m M T ag R' tag w k/\eO [.int c,.int more,.int extra,rd N R,sgD N (ay m) M T,kd N St0]=.ok (.lst [rd N R',.int (tag:af),sy N w,.int (k:af)]):=by
 have m3:=S.m3;have ml:=S.ml;have tl:=S.tl;obtain⟨i,tag,w,b,hi,e1,e2,U,hf,q⟩:=aCd H (K:=ay m) (St:=St0) (M:=M) (T:=T) (R:=R) (extra:=extra) (chc:=c) (more:=more) r0 0x1 0x1 0x1 (by rw[dv];lia) (aQa H S gd nd rl r0) (x:=18) rfl 0x4 rfl (λy hy=>by
  rcases bo.mp hy with g|g
  .rcases bo.mp g with g|g
   .simp at g;lia
   .have:=cS.mp g;lia
  .have:=BV S (by rw[aCj S];exact g);lia) (λu hu=>by
  obtain⟨t,ht,r,hr,hk,Q⟩:=gd u hu;have h1:=Q.ol;have h2:=(S.mg r hr).2.2;have h3:=(S.tg t ht).2.2.2;rw[bz] at h1;lia)
 obtain⟨t,ht,r,hr,hk,Q⟩:=gd _ (dA hi);have b1:b.1=t.1:=e1.trans Q.n1;have b2:b.2.1=r.1:=e2.trans Q.n2;have hq:(t.1,r.1)∉(R.take i).map pq:=by
  have:=GP H S nd hi;rwa [show pq R[i]=(t.1,r.1) from Prod.ext Q.n1 Q.n2] at this
 have fa:∀ws,lV (sS m M T) M T ((R.take i).map pq) (b.1,b.2.1,b.2.2.1,ws)=.error (tag,w):=λws=>by
  rw[b1,b2];refine fa5 S hr ht hk hq ?_;rcases hf with ⟨rfl,rfl,hl⟩|⟨rfl,p,bh,hp,ho,hl,hw⟩
  .rw[b1];exact aO3 S (by rw[<-Q.ol];exact hl)
  .rw[ho];refine aFc S (by rw[<-ho,hl];exact Q.ol) (Q.on.sublist (lz ..)) (λj hj=>Q.oi j (eI hj)) ?_;rcases bo.mp hw with g|g
   .exact dS _ g
   .refine fN _ ?_;unfold sS;rw[aCj S];exact g
 exact⟨_,tag,w,i,aFd H S gd nd rl 0x1 U (λu hu=>fA hu) 0x2 (by rcases hf with ⟨h,_⟩|⟨h,_⟩<;>lia) (fa b.2.2.2) (λ_ ws=>fa ws),q⟩
theorem aFf{St:aa af}(s0:0<St.length)(sl:St.length<=100)(hS:∀s∈St,s∈St0\/13<=s/\s<18/\∀u,R[ixm more R.length]?=ae u->s∉u.2.2.1):∃R' tag w k,Bd N m M T ah R' tag w k/\eQ [.int more,.int extra,rd N R,sgD N (ay m) M T,kd N St]=.ok (.lst [rd N R',.int (tag:af),sy N w,.int (k:af)]):=by
 have m3:=S.m3;have ml:=S.ml;have tl:=S.tl;have hi:=gR more r0;generalize hiq:ixm more R.length=i at hi hS;obtain⟨t,ht,r,hr,hk,Q⟩:=gd _ (dA hi);have hL:R[i]?=ae R[i]:=cq hi;have U:=aQa H S gd nd rl r0 _ (dA hi);have hq0:=GP H S nd hi;generalize R[i]=u at Q hL U hq0;obtain⟨u1,u2,ow,ws⟩:=u;obtain⟨n1,n2,ol,on,oi,rn,wl⟩:=Q;dsimp only at n1 n2 ol on oi rn wl;subst n1 n2;obtain⟨q1,q2⟩:=aCn S hr ht ol on oi;have gM:=(BR S).mg;have gT:∀t∈T,t.1<29/\t.2.1<29/\t.2.2.1<29/\(∀i∈t.2.2.2,i<29)/\t.2.2.2.length<=2:=λt ht=>by
  have:=(BR S).tg t ht;exact⟨this.1,by lia,this.2.2.1,this.2.2.2.1,this.2.2.2.2⟩
 obtain⟨tag,w,ws2,U2,htg,he,q⟩:=aCf H (K:=ay m) (St:=St) (M:=M) (T:=T) (R:=R) (more:=more) (extra:=extra) r0 0x1 S.mn S.tn gM gT 0x1 0x1 hr ht ol hiq.symm hL ⟨U.a,U.b,U.c,U.d,U.cl,by have:=U.dl;lia⟩ q1 q2 rn 0x1 s0 sl (λs hs=>by
  rcases hS s hs with g|⟨g1,g2,g3⟩
  .refine⟨by simp at g;lia,λhm=>?_⟩;unfold hdl at hm;rw[bE,yI ol] at hm;rcases bo.mp hm with z|z
   .have:=oi s z;simp at g;lia
   .have:=BV S z;simp at g;lia
  .refine⟨by lia,λhm=>?_⟩;unfold hdl at hm;rw[bE,yI ol] at hm;rcases bo.mp hm with z|z
   .exact g3 _ hL z
   .have:=BV S z;lia)
 have hA:∀u∈R.take i,Good M T (M++T.map tr) u:=λu hu=>gd u (eI hu)
 have hn:((R.take i).map pq).Nodup:=nd.sublist ((lz i R).map pq);have fa:lV (sS m M T) M T ((R.take i).map pq) (t.1,r.1,ow,ws2)=.error (tag,w):=by
  have hq0:(t.1,r.1)∉(R.take i).map pq:=hq0;rw[BX S hr ht,ar hk,aw hq0,WD S ol on oi];dsimp only;rw[he]
 refine⟨_,tag,w,i,⟨⟨R.take i,(t.1,r.1,ow,ws2),R.drop (i+1),rfl,by rw[eW];lia,λB'=>KQ H S hA hn (by rw[eW];lia) U2 fa,λz=>by cases z⟩,λu hu=>?_,by lia,by simp;lia⟩,q⟩;rcases bo.mp hu with g|g
 .exact TJ S (hA u g)
 .rcases bt.mp g with g|g
  .exact g▸U2
  .exact TJ S (gd u (fA g))
end
def Wr(r:Rw):Prop:=r.1<29/\r.2.1<29/\(∀i∈r.2.2,i<29)/\r.2.2.length<=10
def Wt(t:Tk):Prop:=t.1<29/\t.2.1<29/\t.2.2.1<29/\(∀i∈t.2.2.2,i<29)/\t.2.2.2.length<=10
theorem aO5(h:0<F.length):(ofR n F).2.1::(ofR n F).2.2=F:=by
 cases F with
 |nil=>simp at h
 |cons a F=>rfl
theorem aO6(h:1<F.length):(tr (ofT n F)).2.1::(tr (ofT n F)).2.2=F:=by
 cases F with
 |nil=>simp at h
 |cons a F=>cases F with
  |nil=>simp at h
  |cons b F=>rfl
theorem aO7(hn:n<29)(h:0<F.length)(hF:∀i∈F,i<29)(hl:F.length<=11):Wr (ofR n F):=by
 cases F with
 |nil=>simp at h
 |cons a F=>exact⟨hn,hF a (bq ..),λi hi=>hF i (cr _ hi),by simpa[ofR] using hl⟩
theorem aJw(hn:n<29)(h:1<F.length)(hF:∀i∈F,i<29)(hl:F.length<=12):Wt (ofT n F):=by
 cases F with
 |nil=>simp at h
 |cons a F=>cases F with
  |nil=>simp at h
  |cons b F=>exact⟨hn,hF a (bq ..),hF b 0x2,λi hi=>hF i (by simp[show i∈F from hi]),by simpa[ofT] using hl⟩
section
variable {N:aa Str} (H:Nm N) {m:af} {M:aa Rw} {T:aa Tk} (S:Sig m M T) {more extra:ai}
include S
theorem YM:∀r∈M,Wr r:=(TF S).m
theorem aFg:∀t∈T,Wt t:=(TF S).t
theorem xJ:∀i∈ay m,i<29:=(TF S).k
theorem aFh(hr:r∈M):(∀i∈flR r,i∈ay m)/\(flR r).length<=4:=by
 obtain⟨g1,g2,g3⟩:=S.mg r hr;exact⟨λi hi=>by
  rcases bt.mp hi with g|g
  .exact g▸cS.mpr g1
  .exact cS.mpr (g2 i g),by unfold flR;simp;lia⟩
theorem QS(ht:t∈T):(∀i∈flT t,i∈ay m)/\(flT t).length<=4/\2<=(flT t).length:=by
 obtain⟨g1,g2,g3,g4⟩:=S.tg t ht;exact⟨λi hi=>by
  rcases bt.mp hi with g|g
  .exact g▸cS.mpr g1
  .rcases bt.mp g with g|g
   .exact g▸cS.mpr g2
   .exact cS.mpr (g3 i g),by unfold flT;simp;lia,by unfold flT;simp⟩
theorem aGs(h:o∈St0++(M.map (λr:Rw=>r.1)++T.map (λt:Tk=>t.1))):o∉ay m/\o<29:=by
 have m3:=S.m3;rcases bo.mp h with g|g
 .exact⟨λhm=>by have:=cS.mp hm;simp at g;lia,by simp at g;lia⟩
 .have h1:=BV S (by rw[aCj S];exact g);exact⟨λhm=>by have:=cS.mp hm;lia,by lia⟩
theorem WF(e:M++T.map tr=A++B):([26,27]++ay m++A.map (λr:Rw=>r.1)).Nodup:=by
 have h:=aCl S;unfold sS at h;rw[e,bE,<-cf] at h;exact(eS.mp h).1
theorem KR(e:M++T.map tr=A++B):∀r∈A,OkR (ay m) r:=λr hr=>aGq S (by rw[e];exact fN _ hr)
theorem QT(e:M++T.map tr=A++b::B):b.1∉[26,27]++ay m++A.map (λr:Rw=>r.1):=λhm=>by
 have h:=aCl S;unfold sS at h;rw[e,bE,bc,<-cf] at h;exact(eS.mp h).2.2 _ hm _ (bq ..) rfl
theorem aRd(hi:i<M.length):M++T.map tr=M.take i++(M.drop i++T.map tr):=by rw[<-cf,nu]
theorem aRe(hi:i<T.length):M++T.map tr=(M++(T.take i).map tr)++(T.drop i).map tr:=by rw[cf,<-bE,nu]
include H
theorem aFi(hc:c=0\/c=1\/c=2):∃K' M' T' w,Sm K' M' T'/\stage1 K' M' T'=.error (3,w)/\gH [.int c,.int more,sgD N (ay m) M T]=.ok (.lst [kd N K',md N M',td N T',sy N w]):=by
 have m1:=S.m1;have m3:=S.m3;have ml:=S.ml;have tl:=S.tl;have t1:=S.t1;have sm:=TF S;have m0:0<M.length:=by obtain⟨r,hr,_⟩:=S.ba 0 0x1;exact xu hr
 have k0:(ay m).length=m:=dv;rcases hc with rfl|rfl|rfl
 .obtain⟨i,o,hi,ho,q⟩:=aNy H (K:=ay m) (more:=more) 0x1 0x1;refine⟨_,_,_,o,⟨λx hx=>?_,sm.m,sm.t,by simp;lia,sm.ml,sm.tl⟩,YH rfl ?_ ho,q⟩
  .rcases bo.mp hx with g|g
   .exact sm.k x (eI g)
   .rcases bt.mp g with g|g
    .subst g;rcases bo.mp ho with g|g
     .simp at g;lia
     .exact sm.k x (eI g)
    .exact sm.k x (fA g)
  .exact(BW S).sublist ((lz ..).append_left _)
 .obtain⟨i,o,b,hi,b1,b2,b3,ho,q⟩:=aNz H (K:=ay m) (M:=M) (T:=T) (more:=more) m0 0x1 0x1 (λr hr=>(YM S r hr).2.2.2);have e:=aRd S hi;have ho29:o<29:=by
   rcases bo.mp ho with g|g
   .rcases bo.mp g with g|g
    .simp at g;lia
    .exact sm.k o g
   .obtain⟨r,hr,rfl⟩:=b9.mp g;exact(YM S r (eI hr)).1
  have wi:=YM S _ (dA hi);refine⟨_,_,_,o,⟨sm.k,λx hx=>?_,sm.t,sm.kl,by simp;lia,sm.tl⟩,?_,q⟩
  .rcases bo.mp hx with g|g
   .exact sm.m x (eI g)
   .rcases bt.mp g with g|g
    .subst g;exact⟨by lia,b2.elim (λh=>by lia) (λh=>by rw[h];exact wi.2.1),by rw[b3];exact wi.2.2⟩
    .exact sm.m x (fA g)
  .rw[o7 (BW S),cf,gz,<-b1];exact aNv (WF S e) (KR S e) (by rw[b1];exact ho)
 .obtain⟨i,o,b,hi,b1,b2,b3,ho,q⟩:=aO0 H (K:=ay m) (M:=M) (T:=T) (more:=more) t1 0x1 0x1 0x1;have e:=aRe S hi;have ho':o∈[26,27]++ay m++(M++(T.take i).map tr).map (λr:Rw=>r.1):=by
   rw[bE,cv];exact ho
  have ho29:o<29:=by
   rcases bo.mp ho with g|g
   .rcases bo.mp g with g|g
    .simp at g;lia
    .exact sm.k o g
   .rcases bo.mp g with g|g
    .obtain⟨r,hr,rfl⟩:=b9.mp g;exact(YM S r hr).1
    .obtain⟨r,hr,rfl⟩:=b9.mp g;exact(aFg S r (eI hr)).1
  have wi:=aFg S _ (dA hi);refine⟨_,_,_,o,⟨sm.k,sm.m,λx hx=>?_,sm.kl,sm.ml,by simp;lia⟩,?_,q⟩
  .rcases bo.mp hx with g|g
   .exact sm.t x (eI g)
   .rcases bt.mp g with g|g
    .subst g;exact⟨by lia,b2.elim (λh=>by lia) (λh=>by rw[h];exact wi.2.1),by rw[b3];exact wi.2.2⟩
    .exact sm.t x (fA g)
  .rw[o7 (BW S),bE,bc,<-cf,<-b1];exact aNv (b:=tr b) (WF S e) (KR S e) (by show b.1∈_;rw[b1];exact ho')
theorem aJx(hc:c=0\/c=1):∃K' M' T' w,Sm K' M' T'/\stage1 K' M' T'=.error (1,w)/\fU [.int c,.int more,.int extra,sgD N (ay m) M T,kd N St0]=.ok (.lst [kd N K',md N M',td N T',sy N w]):=by
 have m1:=S.m1;have m3:=S.m3;have ml:=S.ml;have tl:=S.tl;have t1:=S.t1;have sm:=TF S;have m0:0<M.length:=by obtain⟨r,hr,_⟩:=S.ba 0 0x1;exact xu hr
 have k0:(ay m).length=m:=dv;rcases hc with rfl|rfl
 .obtain⟨i,o,p,s,M2,T2,hi,h1,h2,h3,h4,h5,h6,h7,h8,q⟩:=aJm H (K:=ay m) (St:=St0) (M:=M) (T:=T) (more:=more) (extra:=extra) m0 t1 0x1 (λa ha=>by have:=(aFh S ha).2;lia) 0x1 0x1 0x4 0x4;obtain⟨o1,o2⟩:=aGs S h4;have e:=aRd S hi;obtain⟨f1,f2⟩:=aFh S (dA hi);have wi:=YM S _ (dA hi);have fr:((flR M[i]).take p++o::s).length=(flR M[i]).length:=by simp;lia
  have fs:∀x∈(flR M[i]).take p++o::s,x<29:=λx hx=>by
   rcases bo.mp hx with g|g
   .exact xJ S x (f1 x (eI g))
   .rcases bt.mp g with g|g
    .lia
    .rcases h3 x g with g|g
     .exact xJ S x (f1 x g)
     .lia
  have nf:M[i].1∉[26,27]++ay m++(M.take i).map (λr:Rw=>r.1):=QT S (B:=M.drop (i+1)++T.map tr) (by rw[e,jb hi];rfl);refine⟨_,_,_,o,⟨sm.k,λx hx=>?_,λx hx=>?_,sm.kl,by simp;lia,by lia⟩,?_,q⟩
  .rcases bo.mp hx with g|g
   .exact sm.m x (eI g)
   .rcases bt.mp g with g|g
    .exact g▸aO7 wi.1 0x1 fs 0x1
    .rcases h5 x g with g|⟨y,hy,z,hz,rfl⟩
     .exact sm.m x g
     .obtain⟨r,hr,rfl⟩:=b9.mp hz;exact aO7 (YM S r hr).1 (by unfold flR;simp) (λj hj=>xJ S j ((aFh S hy).1 j hj)) (by have:=(aFh S hy).2;lia)
  .rcases h7 x hx with g|⟨y,hy,z,hz,rfl⟩
   .exact sm.t x g
   .exact aJw (xJ S z hz) (by have:=(QS S hy).2.2;lia) (λj hj=>xJ S j ((QS S hy).1 j hj)) (by have:=(QS S hy).2.1;lia)
  .rw[o7 (BW S),cf,gz];exact aNw (b:=ofR M[i].1 ((flR M[i]).take p++o::s)) (WF S e) (KR S e) nf (aO5 0x1) (λx hx=>f1 x (eI hx)) o1
 .obtain⟨i,o,p,s,T2,hi,h1,h2,h3,h4,h5,h6,q⟩:=aJn H (K:=ay m) (St:=St0) (M:=M) (T:=T) (more:=more) (extra:=extra) t1 (λa ha=>by have:=(QS S ha).2.1;lia) 0x1 0x1 0x4 0x4;obtain⟨o1,o2⟩:=aGs S h4;have e:=aRe S hi;obtain⟨f1,f2,f3⟩:=QS S (dA hi);have wi:=aFg S _ (dA hi);have fr:((flT T[i]).take p++o::s).length=(flT T[i]).length:=by simp;lia
  have fs:∀x∈(flT T[i]).take p++o::s,x<29:=λx hx=>by
   rcases bo.mp hx with g|g
   .exact xJ S x (f1 x (eI g))
   .rcases bt.mp g with g|g
    .lia
    .rcases h3 x g with g|g
     .exact xJ S x (f1 x g)
     .lia
  have nf:(tr T[i]).1∉[26,27]++ay m++(M++(T.take i).map tr).map (λr:Rw=>r.1):=QT S (B:=(T.drop (i+1)).map tr) (by rw[e,jb hi];rfl);refine⟨_,_,_,o,⟨sm.k,sm.m,λx hx=>?_,sm.kl,sm.ml,by simp;lia⟩,?_,q⟩
  .rcases bo.mp hx with g|g
   .exact sm.t x (eI g)
   .rcases bt.mp g with g|g
    .exact g▸aJw wi.1 0x1 fs 0x1
    .rcases h5 x g with g|⟨y,hy,z,hz,rfl⟩
     .exact sm.t x g
     .obtain⟨r,hr,rfl⟩:=b9.mp hz;exact aJw (aFg S r hr).1 (by have:=(QS S hy).2.2;lia) (λj hj=>xJ S j ((QS S hy).1 j hj)) (by have:=(QS S hy).2.1;lia)
  .rw[o7 (BW S),bE,bc,<-cf];exact aNw (b:=tr (ofT T[i].1 ((flT T[i]).take p++o::s))) (WF S e) (KR S e) nf (aO6 0x1) (λx hx=>f1 x (eI hx)) o1
end
structure Ou(N:aa Str)(b5:ai)(K:aa af)(M:aa Rw)(T:aa Tk)(R:aa Ru)(tag w:af)(at_:ai):Prop where
 ml:M.length<=100
 tl:T.length<=100
 tn:∀t∈T,t.1<29
 us:∀u∈R,Us u
 rl:R.length<=300
 r0:0<R.length
 tg:tag=1\/tag=2\/tag=3
 f0:gK [prD N K M T R]=erX N (tag,w)
 f1:∀u,gK [prD N K M T (R++[u])]=erX N (tag,w)
 f2:at_<(R.length:ai)-1->∀u,gK [prD N K M T (R.dropLast++[u])]=erX N (tag,w)
 f3:b5<11->∀u z,R.getLast?=ae u->z<29->gK [prD N K M T (R.dropLast++[(u.1,u.2.1,u.2.2.1,u.2.2.2++[z])])]=erX N (tag,w)
section
variable {N:aa Str} (H:Nm N) {b5:ai} {K:aa af} {M:aa Rw} {T:aa Tk} {R:aa Ru} {tag w:af}
theorem aRf(H:Nm N)(sm:Sm K M T)(h:stage1 K M T=.error (tag,w))(us:∀u∈R,Us u)(rl:R.length<=300)(r0:0<R.length)(tg:tag=1\/tag=2\/tag=3)(a:ai):Ou N b5 K M T R tag w a:=by
 have q:∀R:aa Ru,gK [prD N K M T R]=erX N (tag,w):=λR=>by
  have:=QL H sm (R:=R);rw[h] at this;exact this
 exact⟨sm.ml,sm.tl,λt ht=>(sm.t t ht).1,us,rl,r0,tg,q _,λ_=>q _,λ_ _=>q _,λ_ _ _ _ _=>q _⟩
theorem aQb(S:Sig m M T)(b:Bd N m M T any R tag w k)(hc:b5<11->any=ag):Ou N b5 (ay m) M T R tag w k:=by
 obtain⟨A,b0,B,e,hk,h1,h2⟩:=b.ex;have sm:=TF S;refine⟨sm.ml,sm.tl,λt ht=>(sm.t t ht).1,b.us,b.ln,by rw[e];simp;lia,b.tg,by rw[e];exact h1 B,λu=>?_,λhlt u=>?_,λhc1 u z hu hz=>?_⟩
 .rw[e,cf];exact h1 (B++[u])
 .have hB:B≠[]:=λz=>by
   subst z;rw[e] at hlt;simp at hlt;lia
  rw[e,sQ 0x2,xt hB,cf];exact h1 (B.dropLast++[u])
 .by_cases hB:B=[]
  .subst hB;rw[e] at hu ⊢;have e2:b0=u:=by simpa using hu
   subst e2;rw[sQ 0x2];have:=h2 (hc hc1) z hz;simpa using this
  .rw[e,sQ 0x2,xt hB,cf];exact h1 (B.dropLast++[_])
include H
abbrev lst(N:aa Str)(K:aa af)(M:aa Rw)(T:aa Tk)(R:aa Ru)(sc dk x2 x3 x4 x5 x8 x9 x10 x11 x12 x13 x14 x15 x16 x17 x18:D):aa D:=[sc,dk,x2,x3,x4,x5,sgD N K M T,rd N R,x8,x9,x10,x11,x12,x13,x14,x15,x16,x17,x18]
abbrev NMD(N:aa Str):D:=.lst ((ay 26).map (sy N))
theorem YQ(O:Ou N b5 K M T R tag w a){sc dk x3 x8 x10 x12 x13 x14 x15 x16 x17 x18:D}:∃R2,gK [prD N K M T R2]=erX N (tag,w)/\R2.length<=400/\aR6 (lst N K M T R sc dk (.int cell) x3 (.int extra) (NMD N) x8 (.int b5) x10 (.int a) x12 x13 x14 x15 x16 x17 x18)=.ok (.nx (lst N K M T R2 sc dk (.int cell) x3 (.int extra) (NMD N) x8 (.int b5) x10 (.int a) x12 x13 x14 x15 x16 x17 x18)):=by
 generalize hρ:lst N K M T R sc dk (.int cell) x3 (.int extra) (NMD N) x8 (.int b5) x10 (.int a) x12 x13 x14 x15 x16 x17 x18=ρ;have rl:=O.rl;have c1:lec ρ=.ok (cell / 14 % 2==1):=by subst hρ;exact eqI (KD (DX rfl rfl 0x4) rfl 0x4) rfl
 have c2:lfc ρ=.ok (extra / 8 % 6==4):=by subst hρ;exact eqI (KD (DX rfl rfl 0x4) rfl 0x4) rfl
 have c3:lgc ρ=.ok (ϒ (a<(R.length:ai)-1)):=by subst hρ;exact dO (aJ rfl (aJj (aF4 rfl) rfl) (GD _ _))
 have c4:lhc ρ=.ok (ϒ (b5<11)):=by subst hρ;exact dO (aJ rfl rfl (GD _ _))
 obtain⟨u,hu⟩:∃u,R.getLast?=ae u:=by
  cases hq:R.getLast? with
  |none=>rw[xq] at hq;have:=O.r0;subst hq;simp at this
  |some y=>exact⟨y,rfl⟩
 have U:=O.us u (Bv hu);have n20:∀ρ,cV 5 ρ=.ok (NMD N)->b2 getD fP aHl ρ=.ok (sy N 20):=λρ h=>aJ h rfl (j_ rfl 0x4)
 by_cases g1:cell / 14 % 2=1
 .by_cases g2:extra / 8 % 6=4
  .obtain⟨u0,hu0⟩:∃u,R[0]?=ae u:=⟨_,cq O.r0⟩
   refine⟨R++[u0],O.f1 u0,by simp;lia,lO (c1.trans (by rw[g1];rfl)) (lO (c2.trans (by rw[g2];rfl)) ?_)⟩;subst hρ;exact bB (vO (cY N) rfl (aF5 (cY N) (ixM rfl rfl hu0)) (by simp;lia))
  .by_cases g3:a<(R.length:ai)-1
   .obtain⟨u',_,q⟩:=V_ H hu 0x1 U.a (by have:=U.dl;lia) O.ml O.tl O.tn;refine⟨R.dropLast++[u'],O.f2 g3 u',by simp;lia,lO (c1.trans (by rw[g1];rfl)) (gW (c2.trans (by rw[df.mpr g2])) (lO (c3.trans (by rw[bg g3])) ?_))⟩;subst hρ;exact bB (cU (aD (KD (DX rfl rfl 0x4) rfl 0x4) (aD rfl (aD rfl (aD (n20 _ rfl) rfl)))) ((fH rfl).trans q))
   .by_cases g4:b5<11
    .obtain⟨u',hu',q⟩:=V_ H hu 0x1 U.a (by have:=U.dl;lia) O.ml O.tl O.tn;rw[hu' rfl] at q;refine⟨_,O.f3 g4 u 20 hu 0x4,by simp;lia,lO (c1.trans (by rw[g1];rfl)) (gW (c2.trans (by rw[df.mpr g2])) (gW (c3.trans (by rw[cg g3])) (lO (c4.trans (by rw[bg g4])) ?_)))⟩;subst hρ;exact bB (cU (aD rfl (aD rfl (aD rfl (aD (n20 _ rfl) rfl)))) ((fH rfl).trans q))
    .refine⟨R,O.f0,by lia,lO (c1.trans (by rw[g1];rfl)) (gW (c2.trans (by rw[df.mpr g2])) (gW (c3.trans (by rw[cg g3])) (gW (c4.trans (by rw[cg g4])) ?_)))⟩;subst hρ;rfl
 .refine⟨R,O.f0,by lia,gW (c1.trans (by rw[df.mpr g1])) ?_⟩;subst hρ;rfl
end
theorem aCo(h:a ρ=.ok xs)(hl:xs.length<=lim):sW a ρ=.ok (.lst xs):=by
 unfold sW;rw[h,ε,ar (bg hl)];rfl
def fb:FS:=(sIf (KY (bTB (b2 (cX .eq) (b2 getD fP cO) (b2 getD g_ fQ))) (bTB (b2 (cX .notin) (fM (aC (b2 getD g_ eU) (aC (b2 getD fP eU) aR))) fY))) (RJ (sW (aC (bPu (b2 getD g_ eU)) (aC (bPu (b2 getD fP eU)) aR))) ag) kO)
abbrev fs(N:aa Str)(M:aa Rw)(T:aa Tk)(r:D)(Q:aa (af×af))(a b:D):aa D:=[.lst (M.map (rwD N)),.lst (T.map (tkD N)),r,.lst (Q.map (pD N)),a,b]
theorem aSh(ns:aa ai):(ns.map τ).all isI=ag:=by
 rw[fT];intro x hx;obtain⟨i,_,rfl⟩:=b9.mp hx;rfl
theorem aO8(ns:aa ai)(r:aa D):∃cs:aa ai,lw0 (.scr (ns.map τ)::.uD::r)=.ok (.nx (.scr (ns.map τ)::.lst (dk cs 0)::r)):=by
 refine⟨cutD ns aj (ae 120),fZ ?_ (sO _ _)⟩;have h1:eG fX cF (bW Z4) (.scr (ns.map τ)::.uD::r)=.ok (.lst ((cutD ns aj (ae 120)).map τ)):=by
  rw[<-aI0];show(if θ (ns.map τ) then δ (ξ (cutD (ns.map τ) aj (ae 120))) else .bad)=_;rw[vZ];rfl
 have h2:sW (aC (eG fX cF (bW Z4)) (aC eU aR)) (.scr (ns.map τ)::.uD::r)=.ok (.lst [.lst ((cutD ns aj (ae 120)).map τ),.int 0]):=aCo (aD h1 rfl) (by rw[bA];simp);unfold aPg;rw[h2,ε];show(do let r <- aI7 [.lst ((cutD ns aj (ae 120)).map τ),.int 0];δ (ξ r))=_;have h3:aI7 [.lst ((cutD ns aj (ae 120)).map τ),.int 0]=.ok (dk (cutD ns aj (ae 120)) 0):=by
  show(if ((cutD ns aj (ae 120)).map τ).all isI&&θ [.int 0] then δ (D.scr ((cutD ns aj (ae 120)).map τ)::[.int 0]) else .bad)=_;rw[aSh];rfl
 rw[h3];rfl
theorem BZ{is os:aa af}(ha:fa ρ=.ok ds)(hv:mW n v ds=.ok (.lst xs))(h1:xs.length=is.length)(h2:XM os ρ (.lst xs)=ag)(he:MN is xs ρ=ρ'):R0 v n fa is os ρ=.ok (.nx ρ'):=by
 refine o8 ?_ h1 h2 he;show(do let ds <- fa ρ;mW n v ds)=_;rw[ha,ε];exact hv
theorem aCp(N:aa Str)(R:aa Ru)(a b:ai)(w:af):nrD (.lst [rd N R,.int a,sy N w,.int b])=ag:=by
 show(nr1 [rd N R,.int a,sy N w,.int b]||(ϒ (4≠2)&&(nrI (rd N R)&&ag)))=ag;rw[show nrI (rd N R)=ag from aCc (cY N) (λ_=>rfl) R];simp
theorem aSi(N:aa Str):cutD ((ay 26).map (sy N)) (ae 13) (ae 18)=[13,14,15,16,17].map (sy N):=rfl
section
variable {N:aa Str} (H:Nm N) {m:af} {M:aa Rw} {T:aa Tk} (S:Sig m M T) {R:aa Ru} (gd:∀u∈R,Good M T (M++T.map tr) u) (nd:(R.map pq).Nodup) (rl:R.length<=100) (r0:0<R.length) {more extra:ai}
include H S gd nd rl r0
abbrev st0(N:aa Str)(m:af)(M:aa Rw)(T:aa Tk)(R:aa Ru)(sc x2:D)(cs:aa ai)(n:af)(more extra c:ai):aa D:=lst N (ay m) M T R sc (.lst (dk cs n)) x2 (.int more) (.int extra) (NMD N) (kd N St0) (.int c) (.int 1) (.int (-1)) .uD .uD .uD .uD .uD .uD .uD
theorem aO9(h0:0<=c)(h14:c<14):∃K2 M2 T2 R2 tag w a x8 x12 x13 x14 x16,Ou N c K2 M2 T2 R2 tag w a/\aR5 (st0 N m M T R sc x2 cs n more extra c)=.ok (.nx (lst N K2 M2 T2 R2 sc (.lst (dk cs n)) x2 (.int more) (.int extra) (NMD N) x8 (.int c) (.int (tag:af)) (.int a) x12 x13 x14 (sy N w) x16 .uD .uD)):=by
 have us:=aO4 H S gd;have cl:∀k:ai,bTB (b2 (zR .lt) gD (bC (.int k))) (st0 N m M T R sc x2 cs n more extra c)=.ok (ϒ (c<k)):=λk=>dO (aJ rfl rfl (GD _ _))
 have fr:∀(x6 x7 x8 x9 x10 x11 x12 x13 x14 x15 x16 x17 x18 x:D),nrD x=ag->XM [1] [sc,.lst (dk cs n),x2,.int more,.int extra,NMD N,x6,x7,x8,x9,x10,x11,x12,x13,x14,x15,x16,x17,x18] x=ag:=λ_ _ _ _ _ _ _ _ _ _ _ _ _ _ h=>YK h rfl
 by_cases g0:c<3
 .obtain⟨K2,M2,T2,w,sm,h,q⟩:=aFi H S (c:=c) 0x1;have ha:(aC gD (aC fY (aC eF aR))) (st0 N m M T R sc x2 cs n more extra c)=.ok [.int c,.int more,sgD N (ay m) M T]:=aD rfl 0x11;have a0:aR3 (st0 N m M T R sc x2 cs n more extra c)=.ok (.nx (lst N (ay m) M T R sc (.lst (dk cs n)) x2 (.int more) (.int extra) (NMD N) (kd N St0) (.int c) (.int 1) (.int (-1)) (kd N K2) (md N M2) (td N T2) (sy N w) .uD .uD .uD)):=BZ ha ((fH rfl).trans q) rfl (fr _ _ _ _ _ _ _ _ _ _ _ _ _ _ (GK N K2 M2 T2 [sy N w] rfl)) rfl;have hb:(aC mJ (aC oF (aC jG aR))) (lst N (ay m) M T R sc (.lst (dk cs n)) x2 (.int more) (.int extra) (NMD N) (kd N St0) (.int c) (.int 1) (.int (-1)) (kd N K2) (md N M2) (td N T2) (sy N w) .uD .uD .uD)=.ok [kd N K2,md N M2,td N T2]:=aD rfl 0x11;have a1:aOl (lst N (ay m) M T R sc (.lst (dk cs n)) x2 (.int more) (.int extra) (NMD N) (kd N St0) (.int c) (.int 1) (.int (-1)) (kd N K2) (md N M2) (td N T2) (sy N w) .uD .uD .uD)=.ok (.nx (lst N K2 M2 T2 R sc (.lst (dk cs n)) x2 (.int more) (.int extra) (NMD N) (kd N St0) (.int c) (.int 1) (.int (-1)) (kd N K2) (md N M2) (td N T2) (sy N w) .uD .uD .uD)):=wQ (x:=sgD N K2 M2 T2) (aCo hb (by rw[bA];simp)) (fr _ _ _ _ _ _ _ _ _ _ _ _ _ _ (GK N K2 M2 T2 [] rfl)) rfl;have a2:aR4 (lst N K2 M2 T2 R sc (.lst (dk cs n)) x2 (.int more) (.int extra) (NMD N) (kd N St0) (.int c) (.int 1) (.int (-1)) (kd N K2) (md N M2) (td N T2) (sy N w) .uD .uD .uD)=.ok (.nx (lst N K2 M2 T2 R sc (.lst (dk cs n)) x2 (.int more) (.int extra) (NMD N) (kd N St0) (.int c) (.int ((3:af):ai)) (.int (-1)) (kd N K2) (md N M2) (td N T2) (sy N w) .uD .uD .uD)):=bB (i:=10) rfl;exact⟨K2,M2,T2,R,3,w,-1,_,_,_,_,_,aRf H sm h us 0x1 r0 (.inr (.inr rfl)) (-1),lO ((cl 3).trans (by rw[bg g0])) (aG a0 (aG a1 a2))⟩
 .have f0:=(cl 3).trans (by rw[cg g0]);by_cases g1:c<5
  .obtain⟨K2,M2,T2,w,sm,h,q⟩:=aJx H S (more:=more) (extra:=extra) (c:=c-3) 0x1;have ha:(aC (b2 (aW .sub) gD nC) (aC fY (aC g_ (aC eF (aC jO aR))))) (st0 N m M T R sc x2 cs n more extra c)=.ok [.int (c-3),.int more,.int extra,sgD N (ay m) M T,kd N St0]:=aD (aJj rfl rfl) (aD rfl (aD rfl 0x11));have a0:aR0 (st0 N m M T R sc x2 cs n more extra c)=.ok (.nx (lst N (ay m) M T R sc (.lst (dk cs n)) x2 (.int more) (.int extra) (NMD N) (kd N St0) (.int c) (.int 1) (.int (-1)) (kd N K2) (md N M2) (td N T2) (sy N w) .uD .uD .uD)):=BZ ha ((fH rfl).trans q) rfl (fr _ _ _ _ _ _ _ _ _ _ _ _ _ _ (GK N K2 M2 T2 [sy N w] rfl)) rfl;have hb:(aC mJ (aC oF (aC jG aR))) (lst N (ay m) M T R sc (.lst (dk cs n)) x2 (.int more) (.int extra) (NMD N) (kd N St0) (.int c) (.int 1) (.int (-1)) (kd N K2) (md N M2) (td N T2) (sy N w) .uD .uD .uD)=.ok [kd N K2,md N M2,td N T2]:=aD rfl 0x11;have a1:aOl (lst N (ay m) M T R sc (.lst (dk cs n)) x2 (.int more) (.int extra) (NMD N) (kd N St0) (.int c) (.int 1) (.int (-1)) (kd N K2) (md N M2) (td N T2) (sy N w) .uD .uD .uD)=.ok (.nx (lst N K2 M2 T2 R sc (.lst (dk cs n)) x2 (.int more) (.int extra) (NMD N) (kd N St0) (.int c) (.int 1) (.int (-1)) (kd N K2) (md N M2) (td N T2) (sy N w) .uD .uD .uD)):=wQ (x:=sgD N K2 M2 T2) (aCo hb (by rw[bA];simp)) (fr _ _ _ _ _ _ _ _ _ _ _ _ _ _ (GK N K2 M2 T2 [] rfl)) rfl;exact⟨K2,M2,T2,R,1,w,-1,_,_,_,_,_,aRf H sm h us 0x1 r0 (.inl rfl) (-1),gW f0 (lO ((cl 5).trans (by rw[bg g1])) (aG a0 a1))⟩
  .have f1:=(cl 5).trans (by rw[cg g1]);by_cases g2:c<9
   .obtain⟨R2,tag,w,k,b,q⟩:=aJv H S gd nd rl r0 (more:=more) (extra:=extra) (c:=c-5) 0x1;have ha:(aC (b2 (aW .sub) gD T7) (aC fY (aC g_ (aC fG (aC eF (aC jO aR)))))) (st0 N m M T R sc x2 cs n more extra c)=.ok [.int (c-5),.int more,.int extra,rd N R,sgD N (ay m) M T,kd N St0]:=aD (aJj rfl rfl) (aD rfl (aD rfl (aD rfl 0x11)));have a0:aQz (st0 N m M T R sc x2 cs n more extra c)=.ok (.nx (lst N (ay m) M T R2 sc (.lst (dk cs n)) x2 (.int more) (.int extra) (NMD N) (kd N St0) (.int c) (.int (tag:af)) (.int (k:af)) .uD .uD .uD (sy N w) .uD .uD .uD)):=BZ ha ((fH rfl).trans q) rfl (fr _ _ _ _ _ _ _ _ _ _ _ _ _ _ (aCp ..)) rfl;exact⟨_,M,T,R2,tag,w,k,_,_,_,_,_,aQb S b (λ_=>rfl),gW f0 (gW f1 (lO ((cl 9).trans (by rw[bg g2])) a0))⟩
   .have f2:=(cl 9).trans (by rw[cg g2]);by_cases g3:c<11
    .obtain⟨R2,tag,w,k,b,q⟩:=aFe H S gd nd rl r0 (more:=more) (extra:=extra) (c:=c-9);have ha:(aC (b2 (aW .sub) gD aFp) (aC fY (aC g_ (aC fG (aC eF (aC jO aR)))))) (st0 N m M T R sc x2 cs n more extra c)=.ok [.int (c-9),.int more,.int extra,rd N R,sgD N (ay m) M T,kd N St0]:=aD (aJj rfl rfl) (aD rfl (aD rfl (aD rfl 0x11)));have a0:aQy (st0 N m M T R sc x2 cs n more extra c)=.ok (.nx (lst N (ay m) M T R2 sc (.lst (dk cs n)) x2 (.int more) (.int extra) (NMD N) (kd N St0) (.int c) (.int (tag:af)) (.int (k:af)) .uD .uD .uD (sy N w) .uD .uD .uD)):=BZ ha ((fH rfl).trans q) rfl (fr _ _ _ _ _ _ _ _ _ _ _ _ _ _ (aCp ..)) rfl;exact⟨_,M,T,R2,tag,w,k,_,_,_,_,_,aQb S b (λ_=>rfl),gW f0 (gW f1 (gW f2 (lO ((cl 11).trans (by rw[bg g3])) a0)))⟩
    .have f3:=(cl 11).trans (by rw[cg g3]);have hi:=gR more r0;have hL:R[ixm more R.length]?=ae R[ixm more R.length]:=cq hi;have U:=us _ (dA hi);generalize R[ixm more R.length]=u at hL U;generalize hF:[13,14,15,16,17].filter (λi=>!ϒ (i∈u.2.2.1))=F;have hFm:∀s∈F,13<=s/\s<18/\s∉u.2.2.1:=λs hs=>by
      rw[<-hF] at hs;obtain⟨h1,h2⟩:=gn.mp hs;simp only[bt,nj,or_false] at h1;exact⟨by lia,by lia,by simpa using h2⟩
     have hFl:F.length<=5:=by rw[<-hF];exact sR ..
     obtain⟨R2,tag,w,k,b,q⟩:=aFf H S gd nd rl r0 (more:=more) (extra:=extra) (St:=St0++F) 0x2 (by simp;lia) (λs hs=>by
      rcases bo.mp hs with g|g
      .exact .inl g
      .obtain⟨a1,a2,a3⟩:=hFm s g;exact .inr ⟨a1,a2,λv hv=>by rw[hL] at hv;cases hv;exact a3⟩)
     have e0:aR2 (st0 N m M T R sc x2 cs n more extra c)=.ok (.nx (lst N (ay m) M T R sc (.lst (dk cs n)) x2 (.int more) (.int extra) (NMD N) (kd N St0) (.int c) (.int 1) (.int (-1)) .uD .uD .uD .uD (tw N u.2.2.1) .uD .uD)):=bZ (i:=16) (aJ (x:=ruD N u) (ixM (d:=ruD N) (l:=R) (i:=ixm more R.length) rfl (KH (l:=R) (d:=ruD N) (v:=more) rfl rfl r0) hL) rfl rfl) (jK ..);have e1:aQx (lst N (ay m) M T R sc (.lst (dk cs n)) x2 (.int more) (.int extra) (NMD N) (kd N St0) (.int c) (.int 1) (.int (-1)) .uD .uD .uD .uD (tw N u.2.2.1) .uD .uD)=.ok (.nx (lst N (ay m) M T R sc (.lst (dk cs n)) x2 (.int more) (.int extra) (NMD N) (kd N (St0++F)) (.int c) (.int 1) (.int (-1)) .uD .uD .uD .uD (tw N u.2.2.1) .uD .uD)):=by
      refine bB (i:=8) (vO (d:=sy N) (a:=St0) (b:=F) (vP N) rfl ?_ (by simp;lia));rw[<-hF];refine j9 (kk:=ag) (sy N) (sy N) (λi=>!ϒ (i∈u.2.2.1)) [13,14,15,16,17] rfl ((cC (fr:=ag) ((nY rfl (fL (i:=13) rfl) (fL (i:=18) rfl) (cD N (ay 26))).trans (by rw[aSi]))).trans rfl) 0x2 (λa ha=>dO (aJ rfl rfl (V3 H.len H.nd ?_ U.c))) λa ha _=>⟨rfl,rfl⟩
      simp only[bt,nj,or_false] at ha;lia
     have ha:(aC fY (aC g_ (aC fG (aC eF (aC jO aR))))) (lst N (ay m) M T R sc (.lst (dk cs n)) x2 (.int more) (.int extra) (NMD N) (kd N (St0++F)) (.int c) (.int 1) (.int (-1)) .uD .uD .uD .uD (tw N u.2.2.1) .uD .uD)=.ok [.int more,.int extra,rd N R,sgD N (ay m) M T,kd N (St0++F)]:=aD rfl (aD rfl (aD rfl 0x11));have a0:aR1 (lst N (ay m) M T R sc (.lst (dk cs n)) x2 (.int more) (.int extra) (NMD N) (kd N (St0++F)) (.int c) (.int 1) (.int (-1)) .uD .uD .uD .uD (tw N u.2.2.1) .uD .uD)=.ok (.nx (lst N (ay m) M T R2 sc (.lst (dk cs n)) x2 (.int more) (.int extra) (NMD N) (kd N (St0++F)) (.int c) (.int (tag:af)) (.int (k:af)) .uD .uD .uD (sy N w) (tw N u.2.2.1) .uD .uD)):=BZ ha ((fH rfl).trans q) rfl (fr _ _ _ _ _ _ _ _ _ _ _ _ _ _ (aCp ..)) rfl;exact⟨_,M,T,R2,tag,w,k,_,_,_,_,_,aQb S b (λz=>aT z g3),gW f0 (gW f1 (gW f2 (gW f3 (aG e0 (aG e1 a0)))))⟩
end
abbrev lx0(sc:D)(cs:aa ai)(n:af)(a b c d e f g h:D):aa D:=[sc,.lst (dk cs n),a,b,c,d,e,f,g,h,.uD,.uD,.uD,.uD,.uD,.uD,.uD,.uD,.uD]
theorem main:∀ns:aa ai,ns.length<=63->X8 [.scr (ns.map τ)]=.ok (.bl ag):=λns _=>by
 obtain⟨cs,e0⟩:=aO8 ns [.uD,.uD,.uD,.uD,.uD,.uD,.uD,.uD,.uD,.uD,.uD,.uD,.uD,.uD,.uD,.uD,.uD];obtain⟨cell,q1⟩:=j8 cs 0 0x1;obtain⟨more,q2⟩:=j8 cs 1 0x1;obtain⟨extra,q3⟩:=j8 cs 2 0x1;obtain⟨N0,a1,a2,a3,q4⟩:=aEp cs 3 0x1;rw[aNc N0 a1] at q4;have H:Nm (N0++xs3):=by
  refine⟨by rw[bz,a1];rfl,?_,?_,?_,?_⟩
  .rw[eS];refine⟨a2,by decide,λa ha b hb e=>?_⟩;subst e;unfold xs3 at hb;simp only[bt,nj,or_false] at hb;rcases hb with rfl|rfl|rfl
   .exact a3.1 ha
   .exact a3.2.1 ha
   .exact a3.2.2 ha
  all_goals
   rw[de,eJ 0x1,a1];rfl
 generalize N0++xs3=N at H q4;obtain⟨m,M,T,n1,S,hn1,q5⟩:=aNl cs 6 0x1;have m3:=S.m3;have ml:=S.ml;have tl:=S.tl;have hmul:M.length*T.length<=18:=Nat.mul_le_mul ml tl;obtain⟨R,n2,r1,gd,rl,hn2,q6⟩:=aEw H.len H.nd cs (n:=n1) (BR S) (aGp S) 0x1;have nd:(R.map pq).Nodup:=r1.nodup_iff.mpr (QR S.mn T S.tn);have r0:0<R.length:=by
  have h1:=r1.length_eq;rw[aE] at h1;rw[h1];exact Bm.mpr (aGp S)
 obtain⟨sc,hsc⟩:∃sc:D,.scr (ns.map τ)=sc:=⟨_,rfl⟩
 rw[hsc] at e0 ⊢;have s1:lw1 (lx0 sc cs 0 .uD .uD .uD .uD .uD .uD .uD .uD)=.ok (.nx (lx0 sc cs 1 (.int cell) .uD .uD .uD .uD .uD .uD .uD)):=iM (i:=2) (xY q1 rfl rfl) rfl;have s2:lw2 (lx0 sc cs 1 (.int cell) .uD .uD .uD .uD .uD .uD .uD)=.ok (.nx (lx0 sc cs 2 (.int cell) (.int more) .uD .uD .uD .uD .uD .uD)):=iM (i:=3) (xY q2 rfl rfl) rfl;have s3:lw3 (lx0 sc cs 2 (.int cell) (.int more) .uD .uD .uD .uD .uD .uD)=.ok (.nx (lx0 sc cs 3 (.int cell) (.int more) (.int extra) .uD .uD .uD .uD .uD)):=iM (i:=4) (xY q3 rfl rfl) rfl;have s4:lw4 (lx0 sc cs 3 (.int cell) (.int more) (.int extra) .uD .uD .uD .uD .uD)=.ok (.nx (lx0 sc cs 6 (.int cell) (.int more) (.int extra) (NMD N) .uD .uD .uD .uD)):=iM (i:=5) (o5 (fs:=aR) (i:=1) (rest:=[]) rfl rfl rfl q4 (sO ..) rfl) rfl;have s5:lw5 (lx0 sc cs 6 (.int cell) (.int more) (.int extra) (NMD N) .uD .uD .uD .uD)=.ok (.nx (lx0 sc cs n1 (.int cell) (.int more) (.int extra) (NMD N) (sgD N (ay m) M T) .uD .uD .uD)):=iM (i:=6) (o5 (i:=1) (fs:=aC fP aR) (rest:=[NMD N]) (aD rfl rfl) rfl rfl q5 (sO ..) rfl) rfl;have nr:∀x:D,nrD x=ag->XM [1] (lx0 sc cs n1 (.int cell) (.int more) (.int extra) (NMD N) (sgD N (ay m) M T) .uD .uD .uD) x=ag:=λx h=>YK h rfl
 have nrok:∀(f:FE)(x:D),f (lx0 sc cs n1 (.int cell) (.int more) (.int extra) (NMD N) (sgD N (ay m) M T) .uD .uD .uD)=.ok x->nrD x=ag->bNr f [1] (lx0 sc cs n1 (.int cell) (.int more) (.int extra) (NMD N) (sgD N (ay m) M T) .uD .uD .uD)=.ok x:=λf x h1 h2=>by
  unfold bNr;rw[h1,ε,ar (nr x h2)]
 have ha:(aC (bNr (b2 getD eF cO) [1]) (aC (bNr (b2 getD eF fQ) [1]) (aC fP aR))) (lx0 sc cs n1 (.int cell) (.int more) (.int extra) (NMD N) (sgD N (ay m) M T) .uD .uD .uD)=.ok [md N M,td N T,NMD N]:=aD (nrok _ _ 0x12 (aF6 (cG N) (λ_=>rfl) M)) (aD (nrok _ _ 0x12 (aF6 (d_ N) (λ_=>rfl) T)) (aD rfl rfl));have s6:lw6 (lx0 sc cs n1 (.int cell) (.int more) (.int extra) (NMD N) (sgD N (ay m) M T) .uD .uD .uD)=.ok (.nx (lx0 sc cs n2 (.int cell) (.int more) (.int extra) (NMD N) (sgD N (ay m) M T) (rd N R) .uD .uD)):=iM (i:=7) (o5 (i:=1) ha rfl rfl q6 (sO ..) rfl) rfl;have nmx:∀(k:af)(hk:k<26)(ρ:aa D),cV 5 ρ=.ok (NMD N)->b2 getD fP (bC (.int (k:af))) ρ=.ok (sy N k):=λk hk ρ g=>aJ g rfl (j_ (i:=k) rfl hk)
 have s7:lw7 (lx0 sc cs n2 (.int cell) (.int more) (.int extra) (NMD N) (sgD N (ay m) M T) (rd N R) .uD .uD)=.ok (.nx (lx0 sc cs n2 (.int cell) (.int more) (.int extra) (NMD N) (sgD N (ay m) M T) (rd N R) (kd N St0) .uD)):=by
  refine bB (i:=8) ?_;have hb:(aC (b2 getD fP Z2) (aC (bC (.str "copy")) (aC (bC (.str "drop")) (aC (b2 getD fP (bC (.int 19))) aR)))) (lx0 sc cs n2 (.int cell) (.int more) (.int extra) (NMD N) (sgD N (ay m) M T) (rd N R) .uD .uD)=.ok [sy N 18,.str "copy",.str "drop",sy N 19]:=aD (nmx 18 0x4 _ rfl) (aD rfl (aD rfl (aD (nmx 19 0x4 _ rfl) rfl)));unfold j6;rw[hb,ε];show(if ϒ (4<=lim)&&θ [sy N 18,.str "copy",.str "drop",sy N 19] then δ (ξ [sy N 18,.str "copy",.str "drop",sy N 19]) else .bad)=δ (ξ [sy N 18,.str (N.getD 26 ""),.str (N.getD 27 ""),sy N 19]);rw[H.e26,H.e27,bA];rfl
 have s8:lw8 (lx0 sc cs n2 (.int cell) (.int more) (.int extra) (NMD N) (sgD N (ay m) M T) (rd N R) (kd N St0) .uD)=.ok (.nx (lx0 sc cs n2 (.int cell) (.int more) (.int extra) (NMD N) (sgD N (ay m) M T) (rd N R) (kd N St0) (.int (cell % 14)))):=bB (i:=9) (KD rfl rfl 0x4);have s9:lw9 (lx0 sc cs n2 (.int cell) (.int more) (.int extra) (NMD N) (sgD N (ay m) M T) (rd N R) (kd N St0) (.int (cell % 14)))=.ok (.nx (st0 N m M T R sc (.int cell) cs n2 more extra (cell % 14))):=QM (d:=.tup [.int 1,.int (-1)]) (dD 0x11 (by rw[bA];simp)) rfl rfl;obtain⟨K2,M2,T2,R2,tag,w,a,x8,x12,x13,x14,x16,O,s10⟩:=aO9 H S gd nd rl r0 (more:=more) (extra:=extra) (c:=cell % 14) (sc:=sc) (x2:=.int cell) (cs:=cs) (n:=n2) (lh _ 0x4) (nn _ 0x4);obtain⟨R3,hs,hR3,s11⟩:=YQ H O (cell:=cell) (extra:=extra) (sc:=sc) (dk:=.lst (dk cs n2)) (x3:=.int more) (x8:=x8) (x10:=.int (tag:af)) (x12:=x12) (x13:=x13) (x14:=x14) (x15:=sy N w) (x16:=x16) (x17:=.uD) (x18:=.uD);have s12:aR7 (lst N K2 M2 T2 R3 sc (.lst (dk cs n2)) (.int cell) (.int more) (.int extra) (NMD N) x8 (.int (cell % 14)) (.int (tag:af)) (.int a) x12 x13 x14 (sy N w) x16 .uD .uD)=.ok (.nx (lst N K2 M2 T2 R3 sc (.lst (dk cs n2)) (.int cell) (.int more) (.int extra) (NMD N) x8 (.int (cell % 14)) (.int (tag:af)) (.int a) x12 x13 x14 (sy N w) x16 (prD N K2 M2 T2 R3) .uD)):=bZ (i:=17) (dD (aD (aJk 0x12) (aD (aJk 0x12) (aD (aJk 0x12) (aD (aJk rfl) rfl)))) (by rw[bA];simp)) (by
  show((tw N K2).pure&&((ν (M2.map (rwD N))).pure&&((ν (T2.map (tkD N))).pure&&((ν (R3.map (ruD N))).pure&&ag))))=ag;rw[jK,χ,χ,χ,bN (cG N),bN (d_ N),bN (cY N)];rfl)
 obtain⟨xe,hxe⟩:∃xe:D,.exc "Twice" [("word",N.getD 0 "")]=xe:=⟨_,rfl⟩
 have s13:aR9 (lst N K2 M2 T2 R3 sc (.lst (dk cs n2)) (.int cell) (.int more) (.int extra) (NMD N) x8 (.int (cell % 14)) (.int (tag:af)) (.int a) x12 x13 x14 (sy N w) x16 (prD N K2 M2 T2 R3) .uD)=.ok (.nx (lst N K2 M2 T2 R3 sc (.lst (dk cs n2)) (.int cell) (.int more) (.int extra) (NMD N) x8 (.int (cell % 14)) (.int (tag:af)) (.int a) x12 x13 x14 (sy N w) x16 (prD N K2 M2 T2 R3) xe)):=by
  refine bB (i:=18) ?_;have hb:(aC (b2 getD fP eU) aR) (lst N K2 M2 T2 R3 sc (.lst (dk cs n2)) (.int cell) (.int more) (.int extra) (NMD N) x8 (.int (cell % 14)) (.int (tag:af)) (.int a) x12 x13 x14 (sy N w) x16 (prD N K2 M2 T2 R3) .uD)=.ok [sy N 0]:=aD (nmx 0 0x4 _ rfl) rfl;unfold aOh;rw[hb,<-hxe];rfl
 have s14:aR8 (lst N K2 M2 T2 R3 sc (.lst (dk cs n2)) (.int cell) (.int more) (.int extra) (NMD N) x8 (.int (cell % 14)) (.int (tag:af)) (.int a) x12 x13 x14 (sy N w) x16 (prD N K2 M2 T2 R3) xe)=.ok (.rt (.bl ag)):=by
  have hb:(aC W6 (aC dJ (aC xN aR))) (lst N K2 M2 T2 R3 sc (.lst (dk cs n2)) (.int cell) (.int more) (.int extra) (NMD N) x8 (.int (cell % 14)) (.int (tag:af)) (.int a) x12 x13 x14 (sy N w) x16 (prD N K2 M2 T2 R3) xe)=.ok [prD N K2 M2 T2 R3,.int (tag:af),sy N w]:=aD rfl 0x11;refine uY (BP (vK hb ((fH rfl).trans (YG O.tg (λ_=>rfl) hs))) (aJ (x:=sy N 0) (y:=sy N 0) (by rw[<-hxe];rfl) (nmx 0 0x4 _ rfl) ?_)) rfl;show(if (ι (N.getD 0 "")).jF bI&&(ι (N.getD 0 "")).jF bI then δ (υ (N.getD 0 ""==N.getD 0 "")) else .bad)=_;rw[yG,V8];rfl
 refine call_v ?_;unfold aN4;exact aG e0 (aG s1 (aG s2 (aG s3 (aG s4 (aG s5 (aG s6 (aG s7 (aG s8 (aG s9 (aG s10 (aG s11 (aG s12 (aG s13 s14)))))))))))))
end Lk48
section
open PySem PySem.W PyProof.Rows
structure PySem.W.Fast:Prop where(tw2255001530651782787 tw2231646633810005756 tw16379025635043256615 tw8469891450012001127 tw13832808885555102863 tw4392087435119791600 tw18348858479699033730 tw10869744704123128515 tw15994831593266234328 tw3070908475567701781 tw12524036507808237523 tw429125161659556100 tw6988798922969741973 tw1836121855482817186 tw2885217585137467831 tw6047963462343049805 tw18377757306285052724 tw13378408649377931901 tw5261307880718028721 tw5953383068619047710 tw10459435106009484810 tw5139236492788758017 tw15371625886694062795 tw12986371036887566947 tw6107994968960986386 tw10683686849876051620 tw2856409916444457795 tw16832021943842469291 tw2318481678398096162 tw15862147271649856977 tw4852474409113905689 tw15953905613701357232 tw6747466921297257519 tw12001388034177029330 tw6779522243473656018 tw15341020593265737106 tw4768945715532357081 tw14271764067006164501 tw10466637499610238242 tw13983257465906644303 tw13791457849448065475 tw8757661910224485666 tw14824487801893891898 tw2472746955443657231 tw5618123112468802688 tw14614483740636840435 tw4715208930309208423 tw16141703451124561682 tw4067308781706013102 tw6163539685427429762 tw17365444063480705068 tw12517085254965255848 tw12524139518139174217 tw2447312750102774453 tw2031790672093097704 tw11398338445519296877 tw15619996101825471923 tw1310326354838480418 tw15923793554343964739 tw15572329434958111543 tw16060851921147182507 tw2929064586924332732 tw12409642036211206089 tw7734297758270262812 tw5667565061150678284 tw3876616108077518279 tw3950803474516925535 tw10689037560694975563 tw4276439311048869087 tw14660596271615185499 tw7340014029869520550 tw9002155843815628134 tw10749460398524467038 tw7660069025691569296 tw13911261146467960597 tw14074598624149821109 tw12087750081814239046 tw6510875790424914282 tw16189578963859994426 tw7031812101266402320 tw10837788549071921619 tw1499343829319669964 tw3656886139832309601 tw5771176131376359756 tw8316437437731239755 tw15312116702734220456 tw6894340394791260602 tw18172960618950092123 tw6987079384140959268 tw1790910851687715513 tw9614811830846319890 tw6103125749396325286 tw9650511918263169100 tw6454811689509142163 tw6747315431335483399 tw6474117960527121891 tw8694561009702676080 tw1015931700254935928 tw9311261135898020287 tw7104531506024185736 tw692785929585913774 tw15275032152102976348 tw6692425986523208525 tw5445105180345715264 tw9719852068461884346 tw4188252272657959226 tw4227846387038611266 tw7549349590188167826 tw10738834414011051750 tw11742211325617036077 tw3192177059463647562 tw14007203553450955714 tw8759886283458991340 tw14200982834043482121 tw16408757024542073283 tw11634718844969758408 tw9305274708051355046 tw5539372510931495116 tw15086359206799197648 tw14136724187159196196:True)
set_option maxRecDepth 100000 in
set_option maxHeartbeats 0 in
theorem PySem.Challenge.cw_hookmill_k48_not_sound_holds : PySem.Challenge.rw_hookmill_k48_not_sound.Holds := by
 w_on;o_law;k_head;(case hw=>w_witness2)
 k_fill
 refine Lk48.walk (l:=PySem.Challenge.rw_hookmill_k48_not_sound) Lk48.main rfl rfl (fun w h Y=>PySem.W.kIn_of Y) ?F
 case F=>
  intro w mg fa h KX G hmg
  refine' Lk48.aN8 KX G hmg ?a0 ?a1 ?a2 ?a3 ?a4 ?a5 ?a6 ?a7 ?a8 ?a9 ?a10 ?a11 ?a12 ?a13 ?a14 ?a15 ?a16 ?a17 ?a18 ?a19 ?a20 ?a21 ?a22 ?a23 ?l23 ?c23 ?k23 ?zB ?pC ?qt ?qu ?qw ?qx ?qy ?qz ?qA ?qB ?qD ?qE ?qF ?qG ?x_BadKind ?x_Lacking ?x_NoName ?x_Twice ?b1 ?b2 ?b3 ?qH ?qI ?qJ ?qK ?qL ?qM ?qN ?qO ?qP ?qQ ?qR ?qS ?qT ?qU ?qV ?qW ?qX ?qY ?qZ ?r6 ?r8 ?r9 ?rf ?rg
  (case a0|a1|a2|a3|a4|a5|a6|a7|a8|a9|a10|a11|a12|a13|a14|a15|a16|a17|a18|a19|a20|a21|a22=>refine' Lk48.aPz ?a ?b ?c ?d;(case a=>k_is);(case b=>k_is);(case c=>k_is);case d=>k_is)
  (case a23|l23|c23|k23|pC|qt|qu|qw|qx|qy|qz|qA|qB|qD|qE|qF|qG|b1|b2|b3=>k_is)
  (case zB=>kernel_rfl)
  (case x_BadKind|x_Lacking|x_NoName|x_Twice=>refine' Lk48.aQ0 ?g ?xe ?n ?f ?kp ?sa ?w1 ?w2 ?w3 ?w4 ?w5 ?w6 ?w7 ?w8 ?l ?ci ?ki ?hd ?no ?xm;(case g|n|f|kp|sa|w1|w2|w3|w4|w5|w6|w7|w8|l|ci|ki|hd=>k_is);(case xe|no=>kernel_rfl);case xm=>kts_exm)
  (case qH|qI|qJ|qK|qL|qM|qN|qO|qP|qQ|qR|qS|qT|qU|qV|qW|qX|qY|qZ|r6|r8|r9|rf|rg=>kit_is)
end
