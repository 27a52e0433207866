import PyProof.Rows.All
import Wide.All
import OpenK.AllK
import Wide.FinOn
import PySem.Challenge.RW_hookmill_k87_four_hundred
open Array renaming length_toList->ly,getElem?_eq_getElem->mi,getElem?_eq_none->oy,getElem?_eq_some_iff->sr,getElem?_toList->vc,forIn_toList->wa,append_assoc->Av,toList->AD
open Bool renaming true->ag,false->aj,and_eq_true->ba,false_ne_true->fz,false_eq_true->fT,or_eq_true->f_,true_and->ix,not_eq_true'->lf,and_false->l8,and_self->ml,false_and->nw,and_true->om,or_false->vb,false_or->ve,beq_eq_decide_eq->AB,true_or->Bc,and_assoc->Bm,or_true->Cd,not_eq_true->C7
open Classical renaming byContradiction->B7,choose->DI,choose_spec->DJ
open False renaming elim->dz
open ForInStep renaming yield->Bh
open Function renaming comp_def->DH,comp->DL
open Int renaming emod_nonneg->fN,emod_lt_of_pos->gs,le_refl->kj,toNat_natCast->mr,mul_one->AM,zero_add->Dl
open List renaming map_cons->bh,replicate->bi,mem_cons->bq,length_map->br,length_cons->bz,mem_cons_self->bE,mem_cons_of_mem->bX,size_toArray->b5,length_append->b6,append_assoc->cr,getD_eq_getElem?_getD->cx,mem_map->cS,getElem?_eq_some_iff->dq,mem_append_right->dA,map_append->dL,append_nil->dQ,getElem?_append_right->dS,getElem?_append_left->d4,map->d5,mem_append->d6,nodup_cons->eg,getElem?_eq_getElem->eh,getElem?_set_ne->eB,map_map->eI,length_singleton->eR,nodup_append->eS,range->e9,mem_append_left->fy,nil_append->fS,all_eq_true->gf,mem_map_of_mem->gh,forIn_nil->gp,nodup_nil->gq,getElem?_set_self->gx,lookup_cons->gN,getElem?_replicate->hI,all_cons->hU,drop_eq_nil_of_le->hV,replicate_succ->ip,length_nil->iq,drop_eq_getElem_cons->iz,getElem?_eq_none->iE,not_mem_nil->iF,forall_mem_cons->iL,getElem?_map->iX,map_nil->i9,mem_singleton->ja,forIn_cons->jb,reverse_cons->jf,length_reverse->jg,any_cons->js,lookup->kz,mem_of_getElem?->l6,find?_cons->ma,cons_append->mh,zipIdx_cons->mw,dropLast_eq_take->mB,filterMap_cons->nj,length_take->nB,length_replicate->nE,flatten_cons->nS,length_zip->se,take_of_length_le->sh,mem_filter->sB,length_drop->s_,all_map->vh,getElem_mem->vS,zipIdx_nil->v8,dropLast_concat->xi,map_replicate->xl,mem_range->xq,mem_filterMap->xC,of_mem_zip->yk,length->yn,foldl->yT,getElem?_set->y8,ext_getElem->zb,map_take->zc,map_drop->zd,sum_cons->zf,mem_of_mem_take->zg,dropLast_subset->zx,drop_zero->zC,reverse_append->Af,mem_replicate->Aj,getElem_inj->Aw,any_eq_false->AO,foldl_cons->A7,any_eq_true->Bg,range_succ_eq_map->Bl,getElem?_zipIdx->B3,range'->B5,mem_range'_1->B6,getElem?_zip_eq_some->Cs,zip_nil_right->Cu,range'_succ->Cw,getElem_cons_zero->Cz,getElem_cons_succ->CA,countP_cons->CD,getElem?_dropLast->CM,take_succ_cons->CO,drop_succ_cons->C6,getElem?_cons_succ->Da,pairwise_map->Dc,forall_mem_nil->Di,map_id'->Dm,take_left->Dq,drop_left->Dr
open List.Pairwise renaming nil->DF
open Nat renaming le_refl->bo,ne_of_lt->cg,lt_of_lt_of_le->de,le_trans->dg,zero_le->eP,lt_irrefl->eW,ne_of_gt->fA,le_succ->iS,le_add_right->kf,lt_or_ge->lb,lt_succ_of_lt->me,lt_succ_self->ny,lt_of_le_of_lt->ot,lt_of_not_le->ox,sub_self->ss,min_eq_left->sv,le_of_lt->xu,le_of_eq->yf,zero_add->y6,add_sub_cancel->Ad,add_right_comm->Ae,succ_mul->A9,add_comm->Ba,add_zero->B4,succ_ne_self->Cc,not_lt_zero->Cy,lt_of_succ_lt_succ->CB,le_of_ble_eq_true->C9,add_sub_cancel_left->Df,min_eq_right->Dk,add_assoc->Do
open Nat.succ renaming inj->vz
open Option renaming some->aa,none->ai,map_eq_some_iff->gn,bind_some->xk,isSome_map->yY,getD_none->A3,getD_some->Bi,map->Dp
open Option.some renaming inj->gi,injEq->mT
open Or renaming inl->oh
open Prod.mk renaming injEq->lq
open PyProof.Rows renaming envOfC->du,callWith_type1->hG,AllBare->ib,IsTup->ko,slot_tuple_getitem->nI,IntsAre->og,subscriptTail->uS,tupleItemsOf_->yx,slicePart_none->AW,subscriptTail_builtinR->A1,boot_enumerate->Cb,len_tuple->CU,callWith_builtin1->Dx,getItem_tuple->D4
open PySem renaming Value->al,Addr->am,wpAny_bind->ao,Shared->ar,model->ay,wpAny_pure->az,Heap->aE,Obj->bc,sizeLine->bd,World->bn,Stmt->bp,mainGlobals->bt,Program->bu,Around->bP,rawInt->b9,wpAny_field->ck,Pos->cm,Env->cv,starEach->cw,sizeLine_eq->cy,Tok->cz,compareOp->c6,cLine->c8,Builtin->dh,FuncData->dm,wpAny_holding->dE,binaryOp->ef,swapsWith->en,wpAny_seqItems->eu,bootBuiltins->eJ,Scope->eL,wpAny_mono->eM,pyNext->ff,foldedSetIterable->fg,JoinOk->fj,strIterType->fF,wpAny_Call_Name_kw->fR,sysModules->gj,tupleKind->gk,attributeBase->gl,call_meets->gm,backTo->gw,Sem->gy,stored->gL,wpAny_setField_rec->gS,typeLookup_type->gV,builtinLookup_eq_fast->g6,wpAny_of_eq->g9,Meets->hX,wpAny_rule->hZ,behindInMarks->ie,NameKind->ii,wpAny_callSpecial?_slot->ik,wpAny_typeOf->io,merged->ir,relabel->iu,assignEach->iN,IsPart->i5,wpAny_call_entry->i6,wpAny_newObj_type->i7,typeLookup->i8,wpAny_pyIter_list->jc,codeAny_builtin->jd,spliced->jj,wpAny_truthy_bool->jn,codeAny_mono->jo,bindL->jp,bindC->jq,atKey->ju,field->jx,GenState->jz,Drawn->jI,OsState->jS,wpAny_attempt->j3,plainId->ke,Paired->km,assign->kq,wpAny_passesOwn->kr,pyIter->kx,holding->ky,BindsTo->kH,getItem->kL,sliceBounds->kP,Slot->kQ,storedH->kT,callerA->k9,wpAny_specialOf->lc,entryFor->lh,table->li,argsOk->lj,wpAny_execs_nil->lz,PassesOwn->lI,wpAny_call->lS,mem_of_lookup->lT,valueAt->md,compPost->mf,IsEnum->mj,numAt->mn,wpAny_onRaise->my,isSubtype_type->mI,wpAny_setField->mM,CmpOp->nt,letOwnedTupleGo->nu,typeIs_str->nK,typeOf->nN,tupleKind_room_in1->n9,wpAny_pyIter_tuple->oq,Fin->oB,updateSeq->oI,wpAny_letGo->oP,wpAny_isInstance->oS,callType_codes->sg,wpAny_ite_split->sk,Str->sx,Within->sA,isTrue->sC,wpAny_BinOp->sD,wpAny_pyNext_list_item->sF,wpAny_pyNext_list_end->sK,lastMarks->sL,concat_meets->sQ,subscripted->va,ItemsOf->vy,wpAny_pyIter_enum->vF,wpAny_newTuple->v9,entryFor_alias->wb,getAttr?->wc,wpAny_tryCatch->wj,dictSet->wm,kt_code_dict_new->wt,wpAny_notOrdered_dict->wv,retInt->wz,wpAny_mkInt->w_,codeAny_call_builtin->xf,IsTupleKey->xh,builtinsNs->xr,wpAny_Name->xv,intBits_le_64->xw,wpAny_execs_cons->xy,standAt->xD,getAttr->xI,getMethod->yc,callWith->yj,cellsFrom->ym,noFill_tuple_add->yo,seq_tuple_add->yp,seqIndex?->yy,operate->yz,typeIs_int->yA,PlainAttrs->yB,call->y2,wpAny_standAt->y9,strValues->za,callType_new->zj,raisesAttr->zk,wpAny_raiseAttrError->zn,attrMsg_fits->zo,sub_AttributeError->zr,getattributeRaised->zt,isSubtype_stop->zu,entryFor_of_tree->zv,wpAny_dictSet_pairs->zw,signature?_of->zD,wpAny_updateSeq->zS,noteFrame->Ac,keywordEach->Au,wpAny_Constant_int->Ax,wpAny_isTrue_Compare1->AC,interactive->AE,assignInOrder->AF,swapsWithSole->AG,swappedStores->AH,wpAny_Assign_Name->AI,wpAny_pyNext_tuple_item->AJ,wpAny_pyNext_tuple_end->AK,IsRangeIter->AL,recursionLimit->AT,evalPart_none->AY,seqIndex_of->AZ,seqIndex_neg->A0,slot_list_getitem->A2,call_list_seq->A4,comprehension->Bj,eval_ListComp->Bk,wpAny_Assign_Subscript->B8,wpAny_letOwnedTupleGo_enum->Ca,wpAny_updateSeq_pair->Cj,wpAny_pyIter_zip->Ct,slot_listiter_next->CI,plainId_quiet->C2,wpAny->ϑ
open Decidable renaming decide->ϒ
open PySem.Around renaming under_plainId->kb,under->yg
open PySem.AutoListH renaming list___mul___list_int_3->DE
open PySem.AutoSeq1 renaming wpAny_loadPart'->Ag,list_extend_list_list_0->DC
open PySem.BindsTo renaming of_defaults->lu
open PySem.Builtin.Dict renaming addKeywords->r_,selfAndRest->DS
open PySem.Builtin.List renaming listTooLong->nX,listExtendWith->xg,listLengthHint->C0,listSameRef->C1,listItems->C4,listFitsIndex->D6,listUpdate->D7
open PySem.Builtin.Range renaming rangeSize->Ds
open PySem.Builtin.Slice renaming slicePlaces->sR,sliceAdjust->yu,sliceApplied->AX,slicePartIndex->Dy,sliceFields->Dz
open PySem.Builtin.SmallTypes renaming nextOf->gr,ownedTupleIsFree->mz,ownedTupleHandOut->Ck,newRecord->D3,stopIteration->D5
open PySem.Builtin.Str renaming occurrences->AN,strSliceIndices->B9,tooLong->DM
open PySem.Builtin.Tuple renaming tupleItemsOf->yw
open PySem.Calls renaming spliced_nil->kA,spliced_cons->kG,Name_function_global->Ay,callWith_builtin->A5,evalArgs_plain->A6
open PySem.CmpOp renaming In->Az,NotIn->AA
open PySem.Code renaming quiet_builtin->je,isFrame->yh,frames->AU,call->Dd
open PySem.Data renaming fields->xA,cell->xB,seq->Ar
open PySem.DictEntry renaming refKey->Dt
open PySem.EntryCells renaming newEntry->C5
open PySem.F renaming plainAttrs_list->iA,slot_zip_next->ka,plainAttrs_str->kg,slot_list_append->l7,slot_str_join->mE,slot_list_pop->n4,type_list_append->ou,type_str_join->su,slot_tuple_iterator_next->vT,entry_zip_next->we,args_zip_next_1->wf,kt_called_dict->wn,kt_typeCall_dict_1->wo,entry_dict_init->wq,args_dict_init_2->wu,type_list_pop->wx,slot_str_split->wy,slot_tuple_add->yq,entry_tuple_add->yr,args_tuple_add_2->yt,slot_zip_getattribute->zq,slot_tuple_index->zy,slot_tuple_count->zz,slot_list_getattribute->Aa,slot_tuple_getattribute->Ab,called_enumerate->Ah,type_str_split->Ai,slot_list_extend->A8,slot_int_rmul->Bb,excBase_ValueError->Cf,entry_tuple_iterator_next->Cg,args_tuple_iterator_next_1->Ci,called_zip->Cm,typeCall_zip_2->Co,newCall_zip_2->Cp,args_object_init_3->Cq,entry_zip_new->Cr,slot_dict_items->CH,plain_extend_loop->C3,plainAttrs_tuple->Dh
open PySem.Heap renaming lt_size->bw,get?_push_of_some->bS,get?_push_size->cu,size_push->cK,SameBut->di,get?_update_self->jw,get?_update_other->nV,ExtBut->oz,IsTuple->zi,NewAttrErr->zp,MadeExcOf->Ce,IsList->CL
open PySem.Heap.DictOf renaming new->vg
open PySem.Heap.DictOfH renaming new->D8
open PySem.Heap.IsList renaming push->DZ
open PySem.Heap.IsSliceOf renaming new->DA
open PySem.Heap.IsTuple renaming push->DO
open PySem.Heap.Ns1 renaming of_empty->Dw
open PySem.Heap.SameBut renaming update->mv,refl->zh
open PySem.Heap.UpToSlots renaming trans->C8,of_keeps->D9
open PySem.IsL renaming update->DB
open PySem.Manifest renaming owners->D1,sig_reversed->D2
open PySem.MeetsSeq renaming EqGives->CC,list_pop_last->DD
open PySem.NameKind renaming free->jv,cell->y4
open PySem.Obj renaming mapSeq->jr,mapFields->mq,data_mapFields->mP,isFreed_of_fields->zI,cls_mapFields->CY
open PySem.Paired renaming length->jh,snoc->Bd
open PySem.PassesOwn renaming never->fI,leaving->Dg
open PySem.SeqAt renaming RcAt->iv,RcNeAt->iw
open PySem.SeqAt.EqAt renaming of_refs->oj,same->vj,int_str->An,str_int->Ao,none_list->Bp,bool_list->Bs,int_list->Bw,str_list->Bz,tuple_list->BC,list_none->BF,list_bool->BI,list_int->BO,list_str->BU,list_tuple->B2
open PySem.SeqAt.RcAt renaming lists->vn,lists_lengths->vq,none_list->Bn,bool_list->Bq,int_list->Bu,str_list->Bx,tuple_list->BA,list_none->BD,list_bool->BG,list_int->BM,list_str->BQ,list_tuple->BY
open PySem.SeqAt.RcNeAt renaming lists->vo,lists_lengths->vx,none_list->Bo,bool_list->Br,int_list->Bv,str_list->By,tuple_list->BB,list_none->BE,list_bool->BH,list_int->BN,list_str->BS,list_tuple->B0
open PySem.Shared renaming heap->oQ
open PySem.Str renaming join->kh,ofString->lr,empty->ye
open PySem.StrLaws renaming glued_eq_join->Ak,join_split->Dj
open PySem.Txt renaming join->cj,mul->lg,slice->vE
open PySem.Value renaming ref->dv,type->eT,none->gu,bool->lx,int->ng,str->nh,isInt->Al,isStrOf->Am,bytes->Ap,float->Aq
open PySem.W renaming Frag->aT,keepIn->gz,findIn->iO,emptyDict->iP,instObj->ji,fnOf->kK,nsIn->la,lookIn->sM,plainGet->sN,codeIn->sP,exmOne->xj,methodObj->xm,hideAll->xn,of_hideAll->xo,hasDictIn->xE,plainGet_of->ya,isFn->yb,takerIn->yd,callWith_K->yi,excIn->ze,hideAll_get->As,handedIn->AQ,plainOver->AR,makesIn->AS,cellsFrom_some->AV
open PySem.W.Looks renaming here->Du
open PySem.W.WData renaming int->Be
open PySem.W.WShape renaming has->Bf
open PySem.Within renaming cons->Dv
open Std.Legacy.Range renaming forIn_eq_forIn_range'->DT,size->DU
open Sum renaming inr->dP,inl->kl
open _root_ renaming List->ae,Nat->ah,Int->ak,if_pos->aq,Option->au,Bool->aw,if_neg->ax,Array->aI,absurd->aS,decide_eq_true->bj,False->cf,decide_eq_false->cq,congrArg->c5,if_true->c9,decide_eq_true_eq->c_,DecidableEq->dn,if_false->dw,of_decide_eq_true->dy,beq_self_eq_true->eD,beq_eq_false_iff_ne->fq,String->fx,not_or->fE,True->gv,beq_iff_eq->ig,Except->wg
set_option Elab.async false
set_option maxRecDepth 100000
set_option maxHeartbeats 4000000
noncomputable section
local macro_rules|`(0x0)=>`(by trivial)|`(0x1)=>`(by lia)|`(0x2)=>`(by simp)|`(0x3)=>`(by rfl)|`(0x4)=>`(by decide)|`(0x5)=>`(by with_unfolding_all rfl)|`(0x6)=>`(by decide +kernel)|`(0x7)=>`(by intro z;cases z)|`(0x8)=>`(by kernel_rfl)|`(0x9)=>`(by refine⟨rfl,?_,?_,?_,?_,?_,?_⟩<;>decide +kernel)|`(0xa)=>`(by refine⟨rfl,rfl,rfl,?_,rfl,?_,?_⟩<;>decide +kernel)
set_option linter.all false
set_option autoImplicit true
set_option genSizeOfSpec false
set_option genInjectivity true
abbrev nDb(x:sx):Prop:= (x==("__debug__" : sx))=aj
abbrev nCd(x:sx):Prop:= (x==("__classdict__" : sx))=aj
namespace L2
open PySem PySem.Spec PyProof.Rows
noncomputable abbrev Key:=Sum ak Str
noncomputable def O6:Key->al->aw
 |.inl k,v=>Al k v
 |.inr x,v=>Am x v
noncomputable def aU5(w:bn):Key->ak
 |.inl k=>hashInt k
 |.inr x=>hashStr w x
def cW:∀{k:Key}{v:al},O6 k v=ag->(∃i t,k=kl i/\v=ng i t)\/(∃x t,k=dP x/\v=nh x t)
 |.inl i,v,h=>by
  obtain⟨t,e⟩:=Value.isInt_shape h;exact .inl ⟨i,t,rfl,e⟩
 |.inr x,v,h=>by
  obtain⟨t,e⟩:=Value.isStrOf_shape h;exact .inr ⟨x,t,rfl,e⟩
def Z1(i:ak)(t:cz):O6 (.inl i) (.int i t)=ag:=by simp[O6,Al]
def Z2(x:Str)(t:cz):O6 (.inr x) (.str x t)=ag:=by simp[O6,Am]
def aMp(a b:ak):ϒ ((kl a:Key)=kl b)=(a==b):=by
 by_cases e:a=b
 .subst e;simp
 .have h:¬(kl a:Key)=kl b:=λq=>e (Sum.inl.inj q)
  rw[cq h];exact(fq.mpr e).symm
def aMq(a b:Str):ϒ ((dP a:Key)=dP b)=ϒ (a=b):=by
 by_cases e:a=b
 .subst e;simp
 .have h:¬(dP a:Key)=dP b:=λq=>e (Sum.inr.inj q)
  rw[cq h,cq e]
def aMr(a:ak)(b:Str):ϒ ((kl a:Key)=dP b)=aj:=cq (λq=>nomatch q)
def aMs(a:Str)(b:ak):ϒ ((dP a:Key)=kl b)=aj:=cq (λq=>nomatch q)
def b7(prog:bu)(w:bn):PySem.KeyKind prog w Key where
 is:=O6
 hash:=aU5 w
 inj:=λv a b ha hb=>by
  rcases cW ha with ⟨i,t,rfl,rfl⟩|⟨x,t,rfl,rfl⟩
  .rcases cW hb with ⟨j,u,rfl,e⟩|⟨y,u,rfl,e⟩
   .injection e with e1 _;rw[e1]
   .exact nomatch e
  .rcases cW hb with ⟨j,u,rfl,e⟩|⟨y,u,rfl,e⟩
   .exact nomatch e
   .injection e with e1 _;rw[e1]
 byValue:=λk v h=>by
  rcases cW h with ⟨i,t,rfl,rfl⟩|⟨x,t,rfl,rfl⟩<;>rfl
 pyHash:=λhv h=>by
  rcases cW hv with ⟨i,t,rfl,rfl⟩|⟨x,t,rfl,rfl⟩
  .exact wpAny_pyHash_int h
  .exact wpAny_pyHash_str h
 eqBool:=λhu hv h=>by
  rcases cW hu with ⟨i,t,rfl,rfl⟩|⟨x,t,rfl,rfl⟩
  .rcases cW hv with ⟨j,u,rfl,rfl⟩|⟨y,u,rfl,rfl⟩
   .rw[aMp] at h;exact wpAny_eqBool_int h
   .rw[aMr] at h;exact An i t y u _ _ _ _ h
  .rcases cW hv with ⟨j,u,rfl,rfl⟩|⟨y,u,rfl,rfl⟩
   .rw[aMs] at h;exact Ao x t j u _ _ _ _ h
   .rw[aMq] at h;exact wpAny_eqBool_str h
 «strs»:=λk x t v h=>by
  rcases cW h with ⟨i,u,rfl,e⟩|⟨y,u,rfl,e⟩
  .exact nomatch e
  .injection e with e1 _
   subst e1;cases v<;>rfl
def O7(prog:bu)(w:bn)(i:ak)(t:cz):(b7 prog w).is (.inl i) (.int i t)=ag:=Z1 i t
def O8(prog:bu)(w:bn)(x:Str)(t:cz):(b7 prog w).is (.inr x) (.str x t)=ag:=Z2 x t
inductive V where
 |non|bl (b:aw)|int (i:ak)|str (x:Str)|byt (b:aI UInt8)|flt (b:UInt64)|ref (a:am)|ty (n:fx)
 deriving dn
def RelV:V->al->Prop
 |.non,u=>u=gu
 |.bl b,u=>u=lx b
 |.int i,u=>∃t,u=ng i t
 |.str x,u=>∃t,u=nh x t
 |.byt b,u=>∃t,u=Ap b t
 |.flt b,u=>∃t,u=Aq b t
 |.ref a,u=>u=dv a
 |.ty n,u=>u=eT n
abbrev Vals:ae V->ae al->Prop:=km RelV
def Vals.length(r:Vals xs us):xs.length=us.length:=jh r
def Vals.get:∀{xs:ae V}{us:ae al}{i:ah}{x:V},Vals xs us->xs[i]?=aa x->∃u,us[i]?=aa u/\RelV x u
 |_,_,_,_,.nil,e=>by simp at e
 |_,_,0,_,.cons r _,e=>by simp at e;subst e;exact⟨_,rfl,r⟩
 |_,_,i+1,x,.cons _ t,e=>by
  obtain⟨u,h1,h2⟩:=Vals.get t (by simpa using e);exact⟨u,by simpa using h1,h2⟩
def Vals.append:∀{xs ys:ae V}{us ws:ae al},Vals xs us->Vals ys ws->Vals (xs++ys) (us++ws)
 |_,_,_,_,.nil,s=>s
 |_,_,_,_,.cons r t,s=>.cons r (Vals.append t s)
def Vals.take:∀{xs:ae V}{us:ae al}(n:ah),Vals xs us->Vals (xs.take n) (us.take n)
 |_,_,0,_=>.nil
 |_,_,_+1,.nil=>.nil
 |_,_,n+1,.cons r t=>.cons r (Vals.take n t)
def Vals.drop:∀{xs:ae V}{us:ae al}(n:ah),Vals xs us->Vals (xs.drop n) (us.drop n)
 |_,_,0,r=>r
 |_,_,_+1,.nil=>.nil
 |_,_,n+1,.cons _ t=>Vals.drop n t
def OD:au V->au al->Prop
 |some v,aa u=>RelV v u
 |none,ai=>gv
 |_,_=>cf
def KV{κ:Type}:ae (κ×V)->ae (κ×al)->Prop:=km λ(p:κ×V)(q:κ×al)=>p.1=q.1/\RelV p.2 q.2
noncomputable def kV:Key->V
 |.inl i=>.int i
 |.inr x=>.str x
inductive HO where
 |lst (xs:ae V)
 |tup (xs:ae V)
 |dK (kvs:ae (Key×V))|dT (kvs:ae (ae Key×V))
 |set (S:ak->aw) (n:ah)
 |ins (C dx:am) (fs:ae (Str×V))
 |own (x:am)
 |xd (fs:ae (Str×V))
 |met (f x:am)
 |rng (lo hi:ak)
 |frz (o:bc) (u:HO)
 |tbl (ps:aI al)
 |ext (φ:aE->Prop)
noncomputable abbrev Hp:=am->au HO
noncomputable def upd(H:Hp)(a:am)(o:HO):Hp:=λb=>if b=a then aa o else H b
def aF:upd H a o a=aa o:=by unfold upd;rw[aq rfl]
def aM(h:b≠a):upd H a o b=H b:=by unfold upd;rw[ax h]
def O9:upd (upd H a o) a u=upd H a u:=by
 funext b;unfold upd;split<;>rfl
def mZ{H:Hp}(h:H a=aa o)(h':H b=aa u)(d:o≠u):a≠b:=by
 intro e;subst e;rw[h] at h';exact d (gi h')
def bF{H:Hp}(h:H a=aa o)(h':H b=ai):a≠b:=by
 intro e;subst e;rw[h] at h';cases h'
def jF(h:aE)(a:am)(its:aI al):Prop:=∃o,h.get? a=aa o/\o.cls=.type "tuple"/\∃n,(o.data,o.dict)=(Ar its n,ai)
def jF.tup{h:aE}{a:am}{its:aI al}(t:jF h a its):ko h a its:=let ⟨o,e,c,n,d⟩:=t;⟨o,e,c,n,c5 (·.1) d⟩
def jF.bare(t:jF h a its):∃o,h.get? a=aa o/\o.dict=ai:=let ⟨o,e,_,_,d⟩:=t;⟨o,e,c5 (·.2) d⟩
def jF.new(h:aE)(items:aI al):jF (h.push {cls:=.type "tuple",data:=.seq items}) h.objs.size items:=⟨_,cu _ rfl,rfl,_,rfl⟩
section
variable (P:bu) (w:bn)
def gP(H:Hp)(h:aE)(a:am):HO->Prop
 |.lst xs=>xs.length<=bd/\∃(its:ae al)(n:ah),Vals xs its/\h.get? a=aa {cls:=.type "list",data:=.seq its.toArray n}
 |.tup xs=>xs.length<=bd/\∃its:ae al,Vals xs its/\jF h a its.toArray
 |.dK kvs=>kvs.length<=bd/\(a==gj)=aj/\∃vs,KV kvs vs/\h.DictOf (b7 P w) a vs
 |.dT kvs=>kvs.length<=bd/\(a==gj)=aj/\∃xs:ae (ae Key×am×al),
   km (λ(p:ae Key×V)(q:ae Key×am×al)=>p.1=q.1/\H q.2.1=aa (.tup (p.1.map kV))/\RelV p.2 q.2.2) kvs xs/\
   ∃o es ep,h.get? a=aa o/\o.ExactDict/\o.data=.dict es ep/\es.toList=xs.map (entryOfKey (gk (b7 P w)))/\(xs.map (·.1)).Nodup
 |.set S n=>h.SetOf (intKind P w) a S n
 |.ins C dx fs=>H dx=aa (.own a)/\fs.length<=1000/\dx≠a/\h.get? a=aa (ji C dx)/\
   ∃mA,h.Ns1 dx mA/\(∀f,OD (fs.lookup f) (mA f))/\sA mA (fs.map (·.1))
 |.own _=>∃o,h.get? a=aa o
 |.xd fs=>∃mA,h.Ns1 a mA/\∀f,OD (fs.lookup f) (mA f)
 |.rng lo hi=>∃t u v,h.get? a=aa {cls:=.type "range",data:=.fields #[.int lo t,.int hi u,.int 1 v]}
 |.frz o u=>h.get? a=aa o/\gP H h a u
 |.tbl ps=>h.get? a=aa {cls:=.none,data:=.fields ps}
 |.met f x=>h.get? a=aa (xm (.ref f) (.ref x))
 |.ext φ=>φ h/\(∃o,h.get? a=aa o)/\∀h1 h2:aE,φ h1->(∀o,h1.get? a=aa o->h2.get? a=aa o)->φ h2
def HOk(H:Hp)(h:aE):Prop:=∀a o,H a=aa o->gP P w H h a o
end
section
variable {P:bu} {w:bn} {H H':Hp} {h h':aE} {a:am} {o:HO}
def gP.lt(x:gP P w H h a o):a<h.objs.size:=by
 cases o with
 |lst xs=>obtain⟨_,_,_,_,e⟩:=x;exact bw e
 |tup xs=>obtain⟨_,_,_,p⟩:=x;exact p.tup.lt
 |dK kvs=>obtain⟨_,_,_,_,o,_,_,e,_⟩:=x;exact bw e
 |dT kvs=>obtain⟨_,_,_,_,o,_,_,e,_⟩:=x;exact bw e
 |set S n=>obtain⟨o,_,_,_,e,_⟩:=x;exact bw e
 |ins C dx fs=>obtain⟨_,_,_,e,_⟩:=x;exact bw e
 |own y=>obtain⟨_,e⟩:=x;exact bw e
 |xd fs=>obtain⟨_,⟨_,_,_,e,_⟩,_⟩:=x;exact bw e
 |rng lo hi=>obtain⟨_,_,_,e⟩:=x;exact bw e
 |frz ob u=>obtain⟨e,_⟩:=x;exact bw e
 |tbl ps=>exact bw (show h.get? a=aa _ from x)
 |met f y=>exact bw (show h.get? a=aa _ from x)
 |ext φ=>obtain⟨_,⟨_,e⟩,_⟩:=x;exact bw e
def Paired.aRc:∀{l₁:ae α}{l₂:ae β},km F l₁ l₂->(∀a b,F a b->G a b)->km G l₁ l₂
 |_,_,.nil,_=>.nil
 |_,_,.cons r t,f=>.cons (f _ _ r) (Paired.aRc t f)
def gP.stay(x:gP P w H h a o)(k:∀b u,(b=a\/H b=aa (.own a))->h.get? b=aa u->h'.get? b=aa u)
 (ho:∀b,H b=aa (.own a)->H' b=aa (.own a))(ht:∀b xs,H b=aa (.tup xs)->H' b=aa (.tup xs)):gP P w H' h' a o:=by
 induction o with
 |lst xs=>obtain⟨z,its,n,r,e⟩:=x;exact⟨z,its,n,r,k _ _ (.inl rfl) e⟩
 |tup xs=>obtain⟨z,its,r,ob,e,c⟩:=x;exact⟨z,its,r,ob,k _ _ (.inl rfl) e,c⟩
 |dK kvs=>obtain⟨z,y,vs,r,ob,es,ep,e,c⟩:=x;exact⟨z,y,vs,r,ob,es,ep,k _ _ (.inl rfl) e,c⟩
 |dT kvs=>
  obtain⟨z,y,xs,r,ob,es,ep,e,c⟩:=x;exact⟨z,y,xs,Paired.aRc r λp q z=>⟨z.1,ht _ _ z.2.1,z.2.2⟩,ob,es,ep,k _ _ (.inl rfl) e,c⟩
 |set S n=>obtain⟨ob,es,ep,t,e,c⟩:=x;exact⟨ob,es,ep,t,k _ _ (.inl rfl) e,c⟩
 |ins C dx fs=>
  obtain⟨d,z,ne,e,mA,⟨od,es,ep,e2,c⟩,r⟩:=x;exact⟨ho _ d,z,ne,k _ _ (.inl rfl) e,mA,⟨od,es,ep,k _ _ (.inr d) e2,c⟩,r⟩
 |own y=>obtain⟨ob,e⟩:=x;exact⟨ob,k _ _ (.inl rfl) e⟩
 |xd fs=>obtain⟨mA,⟨od,es,ep,e,c⟩,r⟩:=x;exact⟨mA,⟨od,es,ep,k _ _ (.inl rfl) e,c⟩,r⟩
 |rng lo hi=>obtain⟨t,u,v,e⟩:=x;exact⟨t,u,v,k _ _ (.inl rfl) e⟩
 |frz ob u ih=>obtain⟨e,q⟩:=x;exact⟨k _ _ (.inl rfl) e,ih q⟩
 |tbl ps=>
  have e:h.get? a=aa {cls:=.none,data:=.fields ps}:=x;show h'.get? a=aa {cls:=.none,data:=.fields ps};exact k a _ (.inl rfl) e
 |met f y=>
  have e:h.get? a=aa (xm (.ref f) (.ref y)):=x;show h'.get? a=aa (xm (.ref f) (.ref y));exact k a _ (.inl rfl) e
 |ext φ=>obtain⟨p,⟨o,e⟩,st⟩:=x;exact⟨st _ _ p λo q=>k _ _ (.inl rfl) q,⟨o,k _ _ (.inl rfl) e⟩,st⟩
def HOk.lt(x:HOk P w H h)(e:H a=aa o):a<h.objs.size:=(x a o e).lt
def HOk.fresh(x:HOk P w H h)(e:h.objs.size<=a):H a=ai:=by
 cases q:H a with
 |none=>rfl
 |some u=>exact aS (de (x.lt q) e) (eW _)
def HOk.kept(x:HOk P w H h)(k:∀b u,h.get? b=aa u->h'.get? b=aa u):HOk P w H h':=λa o e=>
 (x a o e).stay (λb u _ q=>k b u q) (λ_ q=>q) λ_ _ q=>q
def HOk.laid(x:HOk P w H h)(k:∀b u,h.get? b=aa u->h'.get? b=aa u)(hp:h.objs.size<=a)(new:gP P w (upd H a o) h' a o):HOk P w (upd H a o) h':=λb u e=>by
 have hn:=x.fresh hp;by_cases hb:b=a
 .subst hb;rw[aF] at e;cases e;exact new
 .rw[aM hb] at e;exact(x b u e).stay (λc v _ q=>k c v q) (λc q=>by rw[aM (bF q hn)];exact q) λc xs q=>by rw[aM (bF q hn)];exact q
end
def Rd(H:Hp)(a:am)(u:HO):Prop:=H a=aa u\/∃o,H a=aa (.frz o u)
def Rd.of(h:H a=aa u):Rd H a u:=.inl h
def Rd.ok(r:Rd H a u)(x:HOk P w H h):gP P w H h a u:=by
 rcases r with r|⟨o,r⟩
 .exact x a u r
 .obtain⟨_,q⟩:=x a _ r;exact q
def Mut:au HO->Prop
 |some (.lst _)=>gv
 |some (.dK _)=>gv
 |some (.dT _)=>gv
 |some (.set _ _)=>gv
 |some (.ins _ _ _)=>gv
 |some (.ext _)=>gv
 |_=>cf
section
variable {P:bu} {w:bn} {H:Hp} {h h':aE} {x e:am} {o':HO}
def HOk.write(ok:HOk P w H h)(mu:Mut (H x))(he:e=x\/H e=aa (.own x))(k:∀b u,b≠e->h.get? b=aa u->h'.get? b=aa u)(heo:∃u,h'.get? e=aa u)
 (new:gP P w (upd H x o') h' x o'):HOk P w (upd H x o') h':=λb u q=>by
 have nown:∀c y,H c=aa (.own y)->c≠x:=λc y r z=>by subst z;rw[r] at mu;exact mu
 have ntup:∀c xs,H c=aa (.tup xs)->c≠x:=λc xs r z=>by subst z;rw[r] at mu;exact mu
 by_cases hb:b=x
 .subst hb;rw[aF] at q;cases q;exact new
 .rw[aM hb] at q;by_cases hbe:b=e
  .have q':H b=aa (.own x):=by
    rcases he with z|z
    .exact aS (hbe.trans z) hb
    .rw[hbe];exact z
   rw[q] at q';cases q';obtain⟨v,hv⟩:=heo;exact⟨v,by rw[hbe];exact hv⟩
  .refine(ok b u q).stay (λc v hc r=>k c v ?_ r) (λc r=>by rw[aM (nown c b r)];exact r) λc xs r=>by rw[aM (ntup c xs r)];exact r
   rcases hc with rfl|hc
   .exact hbe
   .rintro rfl;rcases he with z|z
    .exact nown c b hc z
    .rw[hc] at z;cases z;exact hb rfl
end
structure Un(fs ex:ae am)(H H':Hp)(h h':aE):Prop where
 keep:∀b o,h.get? b=aa o->H b=ai->b∉fs->b∉ex->h'.get? b=aa o
 slot:∀b o,h.get? b=aa o->H b=ai->b∈fs->b∉ex->∃sl,h'.get? b=aa {o with slots:=sl}
 free:∀b o,h.get? b=aa o->H b=ai->b∉ex->H' b=ai
 there:∀b o,h.get? b=aa o->b∉ex->∃o',h'.get? b=aa o'
 tups:∀b xs,H b=aa (.tup xs)->H' b=aa (.tup xs)
 frzs:∀b o u,H b=aa (.frz o u)->H' b=aa (.frz o u)
 tbls:∀b ps,H b=aa (.tbl ps)->∃more,H' b=aa (.tbl (ps++more))
section
variable {fs ex:ae am} {H H1:Hp} {h h1 h':aE} {a x e:am} {o:HO}
def Un.any(u:Un fs ex H H1 h h1)(q:h.get? b=aa ob)(n:H b=ai)(hx:b∉ex):∃sl,h1.get? b=aa {ob with slots:=sl}:=by
 by_cases hb:b∈fs
 .exact u.slot b ob q n hb hx
 .exact⟨ob.slots,u.keep b ob q n hb hx⟩
def Un.kept(k:∀b u,h.get? b=aa u->h'.get? b=aa u):Un fs ex H H h h':=
 ⟨λb ob q _ _ _=>k b ob q,λb ob q _ _ _=>⟨ob.slots,k b ob q⟩,λ_ _ _ n _=>n,λb ob q _=>⟨ob,k b ob q⟩,λ_ _ q=>q,λ_ _ _ q=>q,λ_ ps q=>⟨#[],by rw[q];simp⟩⟩
def Un.refl:Un fs ex H H h h:=Un.kept λ_ _ q=>q
def Un.laid(k:∀b u,h.get? b=aa u->h'.get? b=aa u)(hp:h.objs.size<=a)(hn:H a=ai):Un fs ex H (upd H a o) h h' where
 keep:=λb u q _ _ _=>k b u q
 slot:=λb u q _ _ _=>⟨u.slots,k b u q⟩
 free:=λb u q n _=>by rw[aM (cg (de (bw q) hp))];exact n
 there:=λb u q _=>⟨u,k b u q⟩
 tups:=λb xs q=>by rw[aM (bF q hn)];exact q
 frzs:=λb u xs q=>by rw[aM (bF q hn)];exact q
 tbls:=λb ps q=>⟨#[],by rw[aM (bF q hn),q];simp⟩
def Un.write(mu:Mut (H x))(he:e=x\/H e=aa (.own x))(k:∀b u,b≠e->h.get? b=aa u->h'.get? b=aa u)(heo:∃u,h'.get? e=aa u):Un fs ex H (upd H x o) h h':=by
 have hx:∀b,H b=ai->b≠x:=λb n z=>by subst z;rw[n] at mu;exact mu
 have hb:∀b,H b=ai->b≠e:=λb n z=>by
  subst z;rcases he with r|r
  .exact hx b n r
  .rw[n] at r;cases r
 have hm:∀b u,H b=aa u->¬Mut (aa u)->b≠x:=λb u q nm z=>by subst z;rw[q] at mu;exact nm mu
 refine⟨λb u q n _ _=>k b u (hb b n) q,λb u q n _ _=>⟨u.slots,k b u (hb b n) q⟩,λb u q n _=>by rw[aM (hx b n)];exact n,λb u q _=>?_,
  λb xs q=>by rw[aM (hm b _ q λz=>z)];exact q,λb u xs q=>by rw[aM (hm b _ q λz=>z)];exact q,λb ps q=>⟨#[],by rw[aM (hm b _ q λz=>z),q];simp⟩⟩
 by_cases hbe:b=e
 .subst hbe;exact heo
 .exact⟨u,k b u hbe q⟩
end
noncomputable def trk(h:aE)(H:Hp):ae am:=(e9 h.objs.size).filter λa=>(H a).isSome
def aDz(h:aE)(H:Hp):aE:=xn h (trk h H)
def Z3(h:aE)(H:Hp):(aDz h H).objs.size=h.objs.size:=PySem.W.hideAll_size _ _
def aE0(e:h.get? b=aa o)(n:H b=ai):(aDz h H).get? b=aa o:=
 As _ e λhm=>by
  have q:(H b).isSome=ag:=(sB.mp hm).2;rw[n] at q;simp at q
def aIq(e:(aDz h H).get? b=aa o):h.get? b=aa o/\H b=ai:=by
 have e':h.get? b=aa o:=xo (trk h H) e;refine⟨e',?_⟩;cases q:H b with
 |none=>rfl
 |some x=>
  have hm:b∈trk h H:=sB.mpr ⟨xq.mpr (bw e'),by simp[q]⟩;have z:(aDz h H).get? b=ai:=PySem.W.hideAll_none (trk h H) hm;rw[z] at e;cases e
structure Mod(K:aT)(mg:Str->au al)(base:aE):Prop where
 kin:K.In base
 glob:base.Ns bt mg
 blt:∃mb,base.Ns xr mb/\∀x:Str,x ≠ "__name__"->mb x=eJ x
 nolimit:base.NoLimit
/-- the context: a def's body (or a comprehension's block) running. base: fixed through the whole law;s₀,H₀: the entry;outer: the frames whose slots others may change (a def's callers);stack: all frames that run;
   ex: iterators that were made ahead of the entry and are walked here (a comprehension's);fn: the names whose cells were made at the entry (a def: all;a comprehension's block: its own);calm: not within an except suite;pn: Ψ that every state bears;xe: what is wanted of an exception that leaves the code -/
structure Cx where
 prog:bu
 w:bn
 K:aT
 mg:Str->au al
 base:aE
 A:bP
 N:ae Str
 s₀:ar
 H₀:Hp
 env:cv
 outer:ae cv
 stack:ae cv
 ex:ae am
 fn:Str->aw
 calm:aw
 pn:ae (am×bc)
 xe:al->ar->Prop
noncomputable def frs(l:ae cv):ae am:=l.filterMap (·.frame)
abbrev Cx.fs(X:Cx):ae am:=frs X.outer
def Vis(sc:eL)(x:Str):Prop:=sc.names.lookup x=aa .local\/sc.names.lookup x=aa .cell\/sc.names.lookup x=aa .free
def Loc(sc:eL)(x:Str):Prop:=sc.names.lookup x=aa .local\/sc.names.lookup x=aa .cell
def Look(env:cv)(h:aE)(m:Str->au al)(x:Str)(u:al):Prop:=
 (env.kindOf x=aa .local/\m x=aa u)\/((env.kindOf x=aa .cell\/env.kindOf x=aa .free)/\∃c,env.cells.lookup x=aa c/\h.IsCell c (aa u))
abbrev zSE(X:Cx)(e:Expr)(es:ae Expr):Prop:=cw (e::es) X.env=(aj,eval e X.env)::cw es X.env
abbrev zSP(X:Cx)(pos:cm)(es:ae Expr):Prop:=(gw pos (cw es X.env)).any (·.1)=aj
abbrev zFw(X:Cx)(cpos:cm)(es:ae Expr):Prop:=((gw cpos (cw es X.env)).all (λx=>!x.1)&&(backToKw cpos (Au [] X.env)).all (λx=>x.1.isSome)
  &&ϒ (es.length+([]:ae Keyword).length+(if ([]:ae Keyword).isEmpty then 0 else 1)<30))=ag
abbrev zSw(X:Cx)(e:Expr)(x:Str)(pos' pos:cm):Prop:=en e (aa (.Name x pos')) pos.line X.env=pure aj
abbrev zFn(X:Cx)(x:Str):Prop:=X.fn x=ag\/X.env.scope.names.lookup x=aa .local
structure Cx.Ok(X:Cx):Prop where
 mod:Mod X.K X.mg X.base
 kind:X.env.scope.kind=.function
 glob:X.env.globals=bt
 blt:X.env.builtins=xr
 above:X.s₀.heap.objs.size<=X.env.locals
 inj:∀x y c,X.env.cells.lookup x=aa c->X.env.cells.lookup y=aa c->x=y
 has:∀x,(X.env.kindOf x=aa .cell\/X.env.kindOf x=aa .free)->∃c,X.env.cells.lookup x=aa c
 cab:∀x c,X.fn x=ag->X.env.cells.lookup x=aa c->X.s₀.heap.objs.size<=c
 hd:X.calm=ag->X.A.handled=ai
 frames:X.A.frames=aa X.stack
 stk:X.stack=X.outer\/(X.stack=X.env::X.outer/\X.env.frame=aa X.env.locals)
 exf:∀b∈X.ex,b≠X.env.locals/\∀x c,X.env.cells.lookup x=aa c->c≠b
 bs:∀b o,X.base.get? b=aa o->X.s₀.heap.get? b=aa o/\X.H₀ b=ai
 bsz:X.base.objs.size<=X.s₀.heap.objs.size
 noex:∀b o,X.base.get? b=aa o->b∉X.ex
 exfs:∀b∈X.ex,b∉X.fs
 W4:X.s₀.heap.FunFrames X.base X.outer
 frf:∀b∈X.fs,X.H₀ b=ai
structure Inv(X:Cx)(Ψ:ae (am×bc))(σ:ae (au V))(H:Hp)(s:ar):Prop where
 ok:X.Ok
 os:s.os=X.s₀.os
 bare:ib s.gens
 base:Un X.fs X.ex X.H₀ H X.s₀.heap s.heap
 loc:∃m,s.heap.Ns X.env.locals m/\∀(i:ah)(x:Str)(v:V),X.N[i]?=aa x->σ[i]?=aa (aa v)->Vis X.env.scope x->∃u,RelV v u/\Look X.env s.heap m x u
 cell:∀x c,X.env.cells.lookup x=aa c->∃v,s.heap.IsCell c v
 free:H X.env.locals=ai
 freeC:∀x c,X.env.cells.lookup x=aa c->H c=ai
 pin:∀p∈X.pn++Ψ,s.heap.get? p.1=aa p.2/\H p.1=ai/\p.1≠X.env.locals/\p.1∉X.fs/\∀v,p.2.data≠.cell v
 hok:HOk X.prog X.w H s.heap
 len:σ.length=X.N.length
section
variable {X:Cx} {Ψ:ae (am×bc)} {σ:ae (au V)} {H H':Hp} {s:ar} {h':aE}
def Cx.Ok.aU6(ok:X.Ok)(e:X.base.get? b=aa o):b∉X.fs:=λhb=>by
 have:=(ok.W4.mem hb).1;rw[e] at this;cases this
def Inv.bs(I:Inv X Ψ σ H s):∀b o,X.base.get? b=aa o->s.heap.get? b=aa o/\H b=ai:=λb o e=>
 ⟨I.base.keep b o (I.ok.bs b o e).1 (I.ok.bs b o e).2 (I.ok.aU6 e) (I.ok.noex b o e),I.base.free b o (I.ok.bs b o e).1 (I.ok.bs b o e).2 (I.ok.noex b o e)⟩
def Inv.bk(I:Inv X Ψ σ H s):∀b o,X.base.get? b=aa o->s.heap.get? b=aa o:=λb o e=>(I.bs b o e).1
def Inv.mod(I:Inv X Ψ σ H s):Mod X.K X.mg X.base:=I.ok.mod
def Inv.kIn(I:Inv X Ψ σ H s):X.K.In s.heap:=I.ok.mod.kin.keeps I.bk
def Inv.lt(I:Inv X Ψ σ H s):X.env.locals<s.heap.objs.size:=let ⟨_,hn,_⟩:=I.loc;hn.lt
def Inv.sz(I:Inv X Ψ σ H s):X.s₀.heap.objs.size<=s.heap.objs.size:=dg I.ok.above (xu I.lt)
def Inv.aT6(I:Inv X Ψ σ H s)(h:s.heap.objs.size<=a):a∉X.fs:=λhb=>by
 obtain⟨_,o,ho,_⟩:=I.ok.W4.mem hb;exact aS (de (bw ho) (dg I.sz h)) (eW _)
def Inv.cne(I:Inv X Ψ σ H s):∀x c,X.env.cells.lookup x=aa c->c≠X.env.locals:=λx c e z=>by
 obtain⟨v,o,ho,hd⟩:=I.cell x c e;obtain⟨m,⟨o',es,ep,ho',hd',_⟩,_⟩:=I.loc;rw[z,ho'] at ho;cases ho;rw[hd'] at hd;cases hd
def Inv.W4(I:Inv X Ψ σ H s):s.heap.FunFrames X.base X.outer:=by
 have all:∀(l:ae cv),(∀b∈frs l,b∈X.fs)->X.s₀.heap.FunFrames X.base l->s.heap.FunFrames X.base l:=by
  intro l;induction l with
  |nil=>intro _ _;trivial
  |cons env r ih=>
   intro hs hl;obtain⟨hk,⟨L,o,hf,hn,ho,hd⟩,hr⟩:=hl;have hL:L∈X.fs:=hs L (by unfold frs;rw[nj,hf];exact bE);obtain⟨sl,e⟩:=I.base.slot L o ho (I.ok.frf L hL) hL λz=>I.ok.exfs L z hL
   exact⟨hk,⟨L,_,hf,hn,e,hd⟩,ih (λb hb=>hs b (by unfold frs;rw[nj,hf];exact bX _ hb)) hr⟩
 exact all X.outer (λ_ hb=>hb) I.ok.W4
def Inv.stack(I:Inv X Ψ σ H s):s.heap.FunFrames X.base X.stack:=by
 rcases I.ok.stk with e|⟨e,hf⟩
 .rw[e];exact I.W4
 .rw[e];obtain⟨m,hn,_⟩:=I.loc;refine .cons (by rw[I.ok.kind];decide) hf hn ?_ I.W4;exact Heap.get?_none_of_le (dg I.ok.bsz I.ok.above)
def Inv.S6(I:Inv X Ψ σ H s):∀b∈frs X.stack,b∈X.env.locals::X.fs:=λb hb=>by
 rcases I.ok.stk with e|⟨e,hf⟩
 .rw[e] at hb;exact bX _ hb
 .rw[e] at hb;unfold frs at hb;rw[nj,hf] at hb;exact hb
def Inv.O_(I:Inv X Ψ σ H s):∀b∈frs X.stack,H b=ai:=λb hb=>by
 rcases bq.mp (I.S6 b hb) with e|hb
 .rw[e];exact I.free
 .obtain⟨_,o,ho,_⟩:=I.ok.W4.mem hb;exact I.base.free b o ho (I.ok.frf b hb) λz=>I.ok.exfs b z hb
def Inv.step{ch:ae am}(I:Inv X Ψ σ H s)
 (hch:∀b∈ch,(b∈X.ex\/X.s₀.heap.objs.size<=b)/\b≠X.env.locals/\(∀x c,X.env.cells.lookup x=aa c->c≠b)/\∀p∈X.pn++Ψ,p.1≠b)
 (keep:∀b o,b≠X.env.locals->b∉X.fs->b∉ch->s.heap.get? b=aa o->H b=ai->h'.get? b=aa o)
 (slot:∀b o,b≠X.env.locals->b∈X.fs->b∉ch->s.heap.get? b=aa o->H b=ai->∃sl,h'.get? b=aa {o with slots:=sl})(free:∀b o,b∉ch->s.heap.get? b=aa o->H b=ai->H' b=ai)
 (there:∀b o,b∉ch->s.heap.get? b=aa o->∃o',h'.get? b=aa o')
 (tups:∀b xs,H b=aa (.tup xs)->H' b=aa (.tup xs))(frzs:∀b o u,H b=aa (.frz o u)->H' b=aa (.frz o u))(tbls:∀b ps,H b=aa (.tbl ps)->∃more,H' b=aa (.tbl (ps++more)))
 (ns:∀m,s.heap.Ns X.env.locals m->h'.Ns X.env.locals m)(hok:HOk X.prog X.w H' h')(hg:ib g') :
  Inv X Ψ σ H' {s with heap:=h',gens:=g',drawn:=d',toks:=t'}:=by
 have neL:∀b o,X.s₀.heap.get? b=aa o->b≠X.env.locals:=λb o e=>cg (de (bw e) I.ok.above)
 have neC:∀b o,X.s₀.heap.get? b=aa o->b∉X.ex->b∉ch:=λb o e hx hb=>by
  rcases(hch b hb).1 with z|z
  .exact hx z
  .exact aS (de (bw e) z) (eW _)
 have cellK:∀x c,X.env.cells.lookup x=aa c->∀v,s.heap.IsCell c v->h'.IsCell c v:=λx c e v ⟨o,ho,hd⟩=>by
  have nch:c∉ch:=λz=>(hch c z).2.2.1 x c e rfl
  by_cases hc:c∈X.fs
  .obtain⟨sl,q⟩:=slot c o (I.cne x c e) hc nch ho (I.freeC x c e);exact⟨_,q,hd⟩
  .exact⟨o,keep c o (I.cne x c e) hc nch ho (I.freeC x c e),hd⟩
 refine⟨I.ok,I.os,hg,⟨λb o e n hb hx=>?_,λb o e n hb hx=>?_,λb o e n hx=>?_,λb o e hx=>?_,λb xs e=>tups b xs (I.base.tups b xs e),λb o xs e=>frzs b o xs (I.base.frzs b o xs e),λb ps e=>?_⟩,?_,λx c e=>?_,?_,λx c e=>?_,λp hp=>?_,hok,I.len⟩
 .exact keep b o (neL b o e) hb (neC b o e hx) (I.base.keep b o e n hb hx) (I.base.free b o e n hx)
 .obtain⟨sl,e1⟩:=I.base.slot b o e n hb hx;obtain⟨sl',e2⟩:=slot b _ (neL b o e) hb (neC b o e hx) e1 (I.base.free b o e n hx);exact⟨sl',e2⟩
 .obtain⟨o',e1⟩:=I.base.there b o e hx;exact free b o' (neC b o e hx) e1 (I.base.free b o e n hx)
 .obtain⟨o',e1⟩:=I.base.there b o e hx;exact there b o' (neC b o e hx) e1
 .obtain⟨m1,e1⟩:=I.base.tbls b ps e;obtain⟨m2,e2⟩:=tbls b _ e1;exact⟨m1++m2,by rw[e2,Av]⟩
 .obtain⟨m,hn,hl⟩:=I.loc;refine⟨m,ns m hn,λi x v e1 e2 e3=>?_⟩;obtain⟨u,r,l⟩:=hl i x v e1 e2 e3;refine⟨u,r,?_⟩;rcases l with l|⟨k,c,e,z⟩
  .exact .inl l
  .exact .inr ⟨k,c,e,cellK x c e _ z⟩
 .obtain⟨v,z⟩:=I.cell x c e;exact⟨v,cellK x c e v z⟩
 .obtain⟨m,⟨o,_,_,ho,_⟩,_⟩:=I.loc;exact free _ o (λz=>(hch _ z).2.1 rfl) ho I.free
 .obtain⟨v,o,ho,hd⟩:=I.cell x c e;exact free c o (λz=>(hch c z).2.2.1 x c e rfl) ho (I.freeC x c e)
 .obtain⟨e,n,ne,nf,d⟩:=I.pin p hp;have nch:p.1∉ch:=λz=>(hch p.1 z).2.2.2 p hp rfl
  exact⟨keep p.1 p.2 ne nf nch e n,free p.1 p.2 nch e n,ne,nf,d⟩
theorem Inv.un(I:Inv X Ψ σ H s)(u:Un X.fs [] H H' s.heap h')(hok:HOk X.prog X.w H' h'):Inv X Ψ σ H' {s with heap:=h',toks:=t'}:=by
 obtain⟨m,⟨o,es,ep,ho,r⟩,_⟩:=id I.loc;obtain⟨sl,hL⟩:=u.any ho I.free 0x2;exact I.step (ch:=[]) (λ_ z=>nomatch z) (λb o _ hb _ e n=>u.keep b o e n hb 0x2) (λb o _ hb _ e n=>u.slot b o e n hb 0x2) (λb o _ e n=>u.free b o e n 0x2) (λb o _ e=>u.there b o e 0x2) u.tups u.frzs u.tbls (λm' hm=>by
  obtain⟨o',es',ep',ho',r'⟩:=hm;rw[ho] at ho';cases ho';exact⟨_,es',ep',hL,r'⟩) hok I.bare
theorem Inv.call(I:Inv X Ψ σ H s)(u:Un (frs X.stack) ch H H' s.heap h')(hok:HOk X.prog X.w H' h')(hg:ib g')
 (hch:∀b∈ch,(b∈X.ex\/X.s₀.heap.objs.size<=b)/\b≠X.env.locals/\(∀x c,X.env.cells.lookup x=aa c->c≠b)/\∀p∈X.pn++Ψ,p.1≠b) :
  Inv X Ψ σ H' {s with heap:=h',gens:=g',drawn:=d',toks:=t'}:=by
 obtain⟨m,⟨o,es,ep,ho,r⟩,_⟩:=id I.loc;obtain⟨sl,hL⟩:=u.any ho I.free λz=>(hch _ z).2.1 rfl
 exact I.step hch (λb o hL hb hc e n=>u.keep b o e n (λz=>(bq.mp (I.S6 b z)).elim hL hb) hc) (λb o _ _ hc e n=>u.any e n hc) (λb o hc e n=>u.free b o e n hc) (λb o hc e=>u.there b o e hc) u.tups u.frzs u.tbls (λm' hm=>by
  obtain⟨o',es',ep',ho',r'⟩:=hm;rw[ho] at ho';cases ho';exact⟨_,es',ep',hL,r'⟩) hok hg
def Inv.turned(I:Inv X Ψ σ H s)(k:∀b o,b≠it->s.heap.get? b=aa o->h'.get? b=aa o)(hn:H it=ai)(hL:it≠X.env.locals)
 (h1:it∈X.ex\/X.s₀.heap.objs.size<=it)(h2:∀x c,X.env.cells.lookup x=aa c->c≠it)(h3:∀p∈X.pn++Ψ,p.1≠it):Inv X Ψ σ H {s with heap:=h',toks:=t'}:=by
 have nit:∀b u,H b=aa u->b≠it:=λb u e z=>by rw[z,hn] at e;cases e
 refine I.step (ch:=[it]) (λb hb=>?_) (λb o _ _ hc e _=>k b o (λz=>hc (by simp[z])) e) (λb o _ _ hc e _=>⟨o.slots,k b o (λz=>hc (by simp[z])) e⟩) (λ_ _ _ _ n=>n)
  (λb o hc e=>⟨o,k b o (λz=>hc (by simp[z])) e⟩) (λ_ _ e=>e) (λ_ _ _ e=>e) (λb ps e=>⟨#[],by rw[e];simp⟩) (λm hm=>?_) (λb u e=>?_) I.bare
 .have e:b=it:=by simpa using hb
  subst e;exact⟨h1,hL,h2,h3⟩
 .obtain⟨o,es,ep,ho,r⟩:=hm;exact⟨o,es,ep,k _ o (Ne.symm hL) ho,r⟩
 .refine(I.hok b u e).stay (λc v hc q=>k c v ?_ q) (λ_ q=>q) λ_ _ q=>q
  rcases hc with z|z
  .rw[z];exact nit b u e
  .exact nit c _ z
def Inv.tok(I:Inv X Ψ σ H s)(t:ah):Inv X Ψ σ H {s with toks:=t}:=I.un Un.refl I.hok
def Inv.kept(I:Inv X Ψ σ H s)(k:∀b u,s.heap.get? b=aa u->h'.get? b=aa u):Inv X Ψ σ H {s with heap:=h',toks:=t'}:=I.un (Un.kept k) (I.hok.kept k)
def Inv.laid(I:Inv X Ψ σ H s)(k:∀b u,s.heap.get? b=aa u->h'.get? b=aa u)(hp:s.heap.objs.size<=a)(new:gP X.prog X.w (upd H a o) h' a o) :
  Inv X Ψ σ (upd H a o) {s with heap:=h',toks:=t'}:=I.un (Un.laid k hp (I.hok.fresh hp)) (I.hok.laid k hp new)
def Inv.write(I:Inv X Ψ σ H s)(mu:Mut (H x))(he:e=x\/H e=aa (.own x))(k:∀b u,b≠e->s.heap.get? b=aa u->h'.get? b=aa u)(heo:∃u,h'.get? e=aa u)
 (new:gP X.prog X.w (upd H x o) h' x o):Inv X Ψ σ (upd H x o) {s with heap:=h',toks:=t'}:=I.un (Un.write mu he k heo) (I.hok.write mu he k heo new)
def Inv.weak(I:Inv X Ψ σ H s)(hl:σ'.length=σ.length)(w:∀(i:ah) v,σ'[i]?=aa (aa v)->σ[i]?=aa (aa v)):Inv X Ψ σ' H s:=
 ⟨I.ok,I.os,I.bare,I.base,let ⟨m,hn,hl'⟩:=I.loc;⟨m,hn,λi x v e1 e2 e3=>hl' i x v e1 (w i v e2) e3⟩,I.cell,I.free,I.freeC,I.pin,I.hok,hl.trans I.len⟩
def Inv.PJ(I:Inv X Ψ σ H s)(h:∀p∈pins',s.heap.get? p.1=aa p.2/\H p.1=ai/\p.1≠X.env.locals/\p.1∉X.fs/\∀v,p.2.data≠.cell v):Inv X pins' σ H s:=
 ⟨I.ok,I.os,I.bare,I.base,I.loc,I.cell,I.free,I.freeC,λp hp=>(d6.mp hp).elim (λz=>I.pin p (fy _ z)) (h p),I.hok,I.len⟩
def S7{N:ae Str}(hN:N.Nodup){i j:ah}(a:N[i]?=aa x)(b:N[j]?=aa x):i=j:=by
 obtain⟨h1,e1⟩:=dq.mp a;obtain⟨h2,e2⟩:=dq.mp b;exact(Aw hN).mp (e1.trans e2.symm)
theorem Z4(I:Inv X Ψ σ H s)(hN:X.N.Nodup)(hi:X.N[i]?=aa x)(hx:Loc X.env.scope x)(r:RelV v u)
 (h:∀s',Inv X Ψ (σ.set i (aa v)) H s'->(∃a,di a s.heap s'.heap/\(a=X.env.locals\/X.env.cells.lookup x=aa a))->Q () s')(hf:zFn X x:=by first|exact .inl rfl|exact .inr rfl|assumption):ϑ M A (storeName X.env x u) Q E s:=by
 obtain⟨m,hn,hl⟩:=id I.loc;have hcls:(X.env.scope.kind==.class||(X.env.scope.kind==.module&&X.env.locals !=X.env.globals))=aj:=by rw[I.ok.kind];rfl
 have hiσ:i<σ.length:=by rw[I.len];exact(dq.mp hi).1
 have cne:=I.cne;have tracked:∀{a:am}{h':aE},(∃o,s.heap.get? a=aa o/\H a=ai)->di a s.heap h'->HOk X.prog X.w H h':=λ{a h'} ha hs b ob e=>by
  obtain⟨_,_,hfree⟩:=ha;refine(I.hok b ob e).stay (λc w' hc q=>(hs.2 c ?_).trans q) (λ_ q=>q) λ_ _ q=>q
  rintro rfl;rcases hc with rfl|hc
  .rw[hfree] at e;cases e
  .rw[hfree] at hc;cases hc
 rcases hx with hk|hk
 .refine wpAny_storeName_local hk hn (λh' hn' hs=>?_) hcls;obtain⟨oL,_,_,hoL,_⟩:=id hn;refine h _ ⟨I.ok,I.os,I.bare,⟨λb o e n hb hx=>?_,λb o e n hb hx=>?_,I.base.free,λb o e hx=>?_,I.base.tups,I.base.frzs,I.base.tbls⟩,⟨_,hn',λj y v' e1 e2 e3=>?_⟩,λy c e=>?_,I.free,I.freeC,λp hp=>?_,tracked ⟨oL,hoL,I.free⟩ hs,by simpa using I.len⟩ ⟨_,hs,.inl rfl⟩
  .exact(hs.2 b (cg (de (bw e) I.ok.above))).trans (I.base.keep b o e n hb hx)
  .obtain⟨sl,e1⟩:=I.base.slot b o e n hb hx;exact⟨sl,(hs.2 b (cg (de (bw e) I.ok.above))).trans e1⟩
  .obtain⟨o',e1⟩:=I.base.there b o e hx;exact⟨o',(hs.2 b (cg (de (bw e) I.ok.above))).trans e1⟩
  .by_cases hj:j=i
   .subst hj;rw[hi] at e1;cases e1;rw[gx hiσ] at e2;cases e2;exact⟨u,r,.inl ⟨hk,by simp⟩⟩
   .rw[eB (Ne.symm hj)] at e2;obtain⟨u',r',q⟩:=hl j y v' e1 e2 e3;refine⟨u',r',?_⟩;rcases q with ⟨k,e⟩|⟨k,c,e,z⟩
    .refine .inl ⟨k,?_⟩;have:y≠x:=λe=>hj (S7 hN e1 (e▸hi))
     simp[this,e]
    .exact .inr ⟨k,c,e,z.sameBut hs (cne y c e)⟩
  .obtain⟨w',z⟩:=I.cell y c e;exact⟨w',z.sameBut hs (cne y c e)⟩
  .obtain⟨e,n,ne,nf,d⟩:=I.pin p hp;exact⟨(hs.2 p.1 ne).trans e,n,ne,nf,d⟩
 .have hfn:X.fn x=ag:=by
   rcases hf with z|z
   .exact z
   .rw[z] at hk;cases hk
  obtain⟨c,hc⟩:=I.ok.has x (.inl hk);obtain⟨w',z⟩:=I.cell x c hc;refine wpAny_storeName_cell I.ok.kind hk hc z (λh' hc' hs=>?_);obtain⟨oc,hoc,hocd⟩:=id z;refine h {s with heap:=h'} ⟨I.ok,I.os,I.bare,⟨λb o e n hb hx=>?_,λb o e n hb hx=>?_,I.base.free,λb o e hx=>?_,I.base.tups,I.base.frzs,I.base.tbls⟩,⟨m,hn.sameBut hs (Ne.symm (cne x c hc)),λj y v' e1 e2 e3=>?_⟩,λy c' e=>?_,I.free,I.freeC,λp hp=>?_,tracked ⟨oc,hoc,I.freeC x c hc⟩ hs,by simpa using I.len⟩ ⟨c,hs,.inr hc⟩
  .exact(hs.2 b (cg (de (bw e) (I.ok.cab x c hfn hc)))).trans (I.base.keep b o e n hb hx)
  .obtain⟨sl,e1⟩:=I.base.slot b o e n hb hx;exact⟨sl,(hs.2 b (cg (de (bw e) (I.ok.cab x c hfn hc)))).trans e1⟩
  .obtain⟨o',e1⟩:=I.base.there b o e hx;exact⟨o',(hs.2 b (cg (de (bw e) (I.ok.cab x c hfn hc)))).trans e1⟩
  .by_cases hj:j=i
   .subst hj;rw[hi] at e1;cases e1;rw[gx hiσ] at e2;cases e2;exact⟨u,r,.inr ⟨.inl hk,c,hc,hc'⟩⟩
   .rw[eB (Ne.symm hj)] at e2;obtain⟨u',r',q⟩:=hl j y v' e1 e2 e3;refine⟨u',r',?_⟩;rcases q with q|⟨k,c',e,z'⟩
    .exact .inl q
    .refine .inr ⟨k,c',e,z'.sameBut hs ?_⟩;rintro rfl;exact hj (S7 hN e1 (I.ok.inj _ _ _ e hc▸hi))
  .by_cases hcc:c'=c
   .subst hcc;exact⟨_,hc'⟩
   .obtain⟨w2,z2⟩:=I.cell y c' e;exact⟨w2,z2.sameBut hs hcc⟩
  .obtain⟨e,n,ne,nf,d⟩:=I.pin p hp;refine⟨(hs.2 p.1 ?_).trans e,n,ne,nf,d⟩;intro q;rw[q,hoc] at e;have q':oc=p.2:=gi e;exact d w' (by rw[<-q'];exact hocd)
def DQ(I:Inv X Ψ σ H s)(hN:X.N.Nodup)(hi:X.N[i]?=aa x)(hx:Loc X.env.scope x)(r:RelV v u)
 (h:∀s',Inv X Ψ (σ.set i (aa v)) H s'->Q () s')(hf:zFn X x:=by first|exact .inl rfl|exact .inr rfl|assumption):ϑ M A (storeName X.env x u) Q E s:=
 Z4 I hN hi hx r (λs' I' _=>h s' I') hf
def Inv.call'(I:Inv X Ψ σ H s)(ho:s'.os=s.os)(u:Un (frs X.stack) ch H H' s.heap s'.heap)(hok:HOk X.prog X.w H' s'.heap)(hg:ib s'.gens)
 (hch:∀b∈ch,(b∈X.ex\/X.s₀.heap.objs.size<=b)/\b≠X.env.locals/\(∀x c,X.env.cells.lookup x=aa c->c≠b)/\∀p∈X.pn++Ψ,p.1≠b):Inv X Ψ σ H' s':=by
 obtain⟨h',g',d',t',o'⟩:=s';have e:o'=s.os:=ho;subst e;exact I.call u hok hg hch
end
abbrev XK:=al->au am->Hp->Prop
noncomputable abbrev St:=ae (au V)
abbrev VK:=V->Hp->Prop
abbrev TE:=St->Hp->VK->Prop
abbrev TT:=St->Hp->(aw->Hp->Prop)->Prop
abbrev TA:=St->Hp->(ae V->Hp->Prop)->Prop
structure Ends where
 nx:St->Hp->Prop
 rt:VK
 bk:St->Hp->Prop:=λ_ _=>cf
 ct:St->Hp->Prop:=λ_ _=>cf
abbrev TS:=Ends->St->Hp->Prop
def EP(X:Cx)(Ψ:ae (am×bc))(σ:St)(Q:VK)(u:al)(s':ar):Prop:=∃v H',Inv X Ψ σ H' s'/\RelV v u/\Q v H'
def TP(X:Cx)(Ψ:ae (am×bc))(σ:St)(Q:aw->Hp->Prop)(b:aw)(s':ar):Prop:=∃H',Inv X Ψ σ H' s'/\Q b H'
def AP(X:Cx)(Ψ:ae (am×bc))(σ:St)(Q:ae V->Hp->Prop)(us:ae al)(s':ar):Prop:=∃vs H',Inv X Ψ σ H' s'/\Vals vs us/\Q vs H'
def SP(X:Cx)(Ψ:ae (am×bc))(D:Ends)(f:Flow)(s':ar):Prop:=
 match f with
 |.next=>∃σ' H',Inv X Ψ σ' H' s'/\D.nx σ' H'
 |.brk=>∃σ' H',Inv X Ψ σ' H' s'/\D.bk σ' H'
 |.cont=>∃σ' H',Inv X Ψ σ' H' s'/\D.ct σ' H'
 |.ret u=>∃v σ' H',Inv X Ψ σ' H' s'/\RelV v u/\D.rt v H'
def PE(X:Cx)(e:Expr)(t:TE):Prop:=
 ∀(Ψ:ae (am×bc))(s:ar)(σ:St)(H:Hp)(Q:VK),Inv X Ψ σ H s->t σ H Q->ϑ (ay X.prog X.w) X.A (eval e X.env) (EP X Ψ σ Q) X.xe s
def PT(X:Cx)(e:Expr)(t:TT):Prop:=
 ∀(Ψ:ae (am×bc))(s:ar)(σ:St)(H:Hp)(Q:aw->Hp->Prop),Inv X Ψ σ H s->t σ H Q->ϑ (ay X.prog X.w) X.A (sC e X.env (eval e X.env)) (TP X Ψ σ Q) X.xe s
def PW(X:Cx)(e:Expr)(t:TT):Prop:=
 ∀(whole:gy al)(Ψ:ae (am×bc))(s:ar)(σ:St)(H:Hp)(Q:aw->Hp->Prop),Inv X Ψ σ H s->t σ H Q->ϑ (ay X.prog X.w) X.A (sC e X.env whole) (TP X Ψ σ Q) X.xe s
def PW.pt(h:PW X e t):PT X e t:=h _
def PA(X:Cx)(es:ae Expr)(t:TA):Prop:=
 ∀(pos:cm)(Ψ:ae (am×bc))(s:ar)(σ:St)(H:Hp)(Q:ae V->Hp->Prop),Inv X Ψ σ H s->t σ H Q->ϑ (ay X.prog X.w) X.A (jj (gw pos (cw es X.env))) (AP X Ψ σ Q) X.xe s
def PS(X:Cx)(st:bp)(t:TS):Prop:=
 ∀(Ψ:ae (am×bc))(s:ar)(σ:St)(H:Hp)(D:Ends),Inv X Ψ σ H s->t D σ H->ϑ (ay X.prog X.w) X.A (exec st X.env) (SP X Ψ D) X.xe s
def PSs(X:Cx)(st:ae bp)(t:TS):Prop:=
 ∀(Ψ:ae (am×bc))(s:ar)(σ:St)(H:Hp)(D:Ends),Inv X Ψ σ H s->t D σ H->ϑ (ay X.prog X.w) X.A (execs st X.env) (SP X Ψ D) X.xe s
def thn(h:ϑ M A t Q E s)(hQ:∀a s,Q a s->Q' a s):ϑ M A t Q' E s:=eM h hQ λ_ _ x=>x
section
variable {X:Cx}
def bin(ha:PE X a ta)(hb:PE X b tb){R:V->V->Hp->Prop}(I:Inv X Ψ σ H s)(h:ta σ H λx H1=>tb σ H1 λy H2=>R x y H2)
 {α:Type}{Q:α->ar->Prop}{f:al->al->gy α}
 (hf:∀v u s2 x y H2,Inv X Ψ σ H2 s2->RelV x v->RelV y u->R x y H2->ϑ (ay X.prog X.w) X.A (f v u) Q X.xe s2) :
  ϑ (ay X.prog X.w) X.A (eval a X.env) (λv s₁=>ϑ (ay X.prog X.w) X.A (eval b X.env) (λu s₂=>ϑ (ay X.prog X.w) X.A (f v u) Q X.xe s₂) X.xe s₁) X.xe s:=by
 refine thn (ha Ψ s σ H _ I h) λv s1 ⟨x,H1,I1,r1,q1⟩=>?_
 refine thn (hb Ψ s1 σ H1 _ I1 q1) λu s2 ⟨y,H2,I2,r2,q2⟩=>?_
 exact hf v u s2 x y H2 I2 r1 r2 q2
noncomputable def gQ(i:ah):TE:=λσ H Q=>∃v,σ[i]?=aa (aa v)/\Q v H
noncomputable def tC(v:V):TE:=λ_ H Q=>Q v H
def a_(hN:X.N[i]?=aa x)(hv:Vis X.env.scope x)(hd:nDb x:=by decide)(hcd:nCd x:=by decide):PE X (.Name x pos) (gQ i):=by
 intro Ψ s σ H Q I h;obtain⟨v,e,h⟩:=h;obtain⟨m,hn,hl⟩:=I.loc;obtain⟨u,r,l⟩:=hl i x v hN e hv;have fin:EP X Ψ σ Q u s:=⟨v,H,I,r,h⟩
 rcases l with ⟨hk,hm⟩|⟨hk,c,hc,hcell⟩
 .exact xv (wpAny_loadName_local I.ok.kind hk hn hm fin) hd
 .rcases hk with hk|hk
  .exact xv (wpAny_loadName_cell I.ok.kind hk hc hcell fin) hd
  .exact xv (wpAny_loadName_free I.ok.kind hk hc hcell fin hcd) hd
def oA{i j pos}:PE X (.Constant (.int i) j pos) (tC (.int i)):=λ_ _ _ H _ I h=>Ax ⟨.int i,H,I.tok _,⟨_,rfl⟩,h⟩
def aRd{b j pos}:PE X (.Constant (.bool b) j pos) (tC (.bl b)):=λ_ _ _ H _ I h=>Constant_bool ⟨.bl b,H,I,rfl,h⟩
def aH1{j pos}:PE X (.Constant .none j pos) (tC .non):=λ_ _ _ H _ I h=>Constant_none ⟨.non,H,I,rfl,h⟩
def BP{x j pos}:PE X (.Constant (.str x) j pos) (tC (.str x)):=λ_ _ _ H _ I h=>Calls.Constant_str ⟨.str x,H,I.tok _,⟨_,rfl⟩,h⟩
def Gl(X:Cx)(x:Str):Prop:=X.env.kindOf x=aa .globalImplicit
def wU(I:Inv X Ψ σ H s)(hg:Gl X x)(hm:X.mg x=aa u)(h:Q u s)
 (hd:nDb x:=by decide):ϑ (ay X.prog X.w) X.A (eval (.Name x pos) X.env) Q E s:=
 Ay I.ok.kind hg (Calls.loadGlobal_global (by rw[I.ok.glob];exact I.mod.glob.keeps I.bk) hm h) hd
def jP(I:Inv X Ψ σ H s)(hg:Gl X x)(hm:X.mg x=ai)(hv:eJ x=aa u)(h:Q u s)
 (hn:x ≠ "__name__":=by decide)(hd:nDb x:=by decide):ϑ (ay X.prog X.w) X.A (eval (.Name x pos) X.env) Q E s:=by
 obtain⟨mb,h1,h2⟩:=I.mod.blt;exact Ay I.ok.kind hg (Calls.loadGlobal_builtin (by rw[I.ok.glob];exact I.mod.glob.keeps I.bk) hm (by rw[I.ok.blt];exact h1.keeps I.bk) ((h2 x hn).trans hv) h) hd
def t2I(ta tb:TE)(k:ak->ak->Hp->Prop):St->Hp->Prop:=λσ H=>ta σ H λx H1=>tb σ H1 λy H2=>∃i j,x=.int i/\y=.int j/\k i j H2
noncomputable def aMd(ta tb:TE):TE:=λσ H Q=>t2I ta tb (λi j H2=>Q (.int (i+j)) H2) σ H
noncomputable def aRe(ta tb:TE):TE:=λσ H Q=>t2I ta tb (λi j H2=>Q (.int (i-j)) H2) σ H
noncomputable def aT7(ta tb:TE):TE:=λσ H Q=>t2I ta tb (λi j H2=>(-(2 ^ 64)<i/\i<2 ^ 64)/\Q (.int (i*j)) H2) σ H
variable {a b:Expr} {ta tb:TE} {pos:cm}
def JT(ha:PE X a ta)(hb:PE X b tb):PE X (.BinOp a .Add b pos) (aMd ta tb):=by
 intro Ψ s σ H Q I h;refine sD (bin ha hb I h λv u s2 x y H2 I2 rx ry q=>?_);obtain⟨i,j,rfl,rfl,q⟩:=q;obtain⟨t,rfl⟩:=rx;obtain⟨t',rfl⟩:=ry;exact add_int ⟨.int _,H2,I2.tok _,⟨_,rfl⟩,q⟩
def aH2(ha:PE X a ta)(hb:PE X b tb):PE X (.BinOp a .Sub b pos) (aRe ta tb):=by
 intro Ψ s σ H Q I h;refine sD (bin ha hb I h λv u s2 x y H2 I2 rx ry q=>?_);obtain⟨i,j,rfl,rfl,q⟩:=q;obtain⟨t,rfl⟩:=rx;obtain⟨t',rfl⟩:=ry;exact sub_int ⟨.int _,H2,I2.tok _,⟨_,rfl⟩,q⟩
def aMt(ha:PE X a ta)(hb:PE X b tb):PE X (.BinOp a .Mult b pos) (aT7 ta tb):=by
 intro Ψ s σ H Q I h;refine sD (bin ha hb I h λv u s2 x y H2 I2 rx ry q=>?_);obtain⟨i,j,rfl,rfl,⟨q1,q2⟩,q⟩:=q;obtain⟨t,rfl⟩:=rx;obtain⟨t',rfl⟩:=ry;exact mul_int ⟨.int _,H2,I2.tok _,⟨_,rfl⟩,q⟩ (.of_left (xw q1 q2))
def PC(X:Cx)(op:nt)(a b:Expr)(t:TE):Prop:=
 ∀(Ψ:ae (am×bc))(s:ar)(σ:St)(H:Hp)(Q:VK),Inv X Ψ σ H s->t σ H Q->
  ϑ (ay X.prog X.w) X.A (eval a X.env) (λv s₁=>ϑ (ay X.prog X.w) X.A (eval b X.env) (λu s₂=>ϑ (ay X.prog X.w) X.A (c6 op v u) (EP X Ψ σ Q) X.xe s₂) X.xe s₁) X.xe s
def aE1(b:Expr)(h:op≠.In)(h2:op≠.NotIn):ie op b=aj:=by
 have e1:(op==Az)=aj:=by cases op<;>first|rfl|exact aS rfl h
 have e2:(op==AA)=aj:=by cases op<;>first|rfl|exact aS rfl h2
 cases b<;>simp[ie,e1,e2]
noncomputable def aRf(p:ak->ak->aw)(ta tb:TE):TE:=λσ H Q=>t2I ta tb (λi j H2=>Q (.bl (p i j)) H2) σ H
abbrev tGt:TE->TE->TE:=aRf λi j=>ϒ (j<i)
abbrev aRg:TE->TE->TE:=aRf λi j=>ϒ (i=j)
def aH3(ha:PE X a ta)(hb:PE X b tb)
 (rule:∀(i j:ak) (t u:cz) (Q:al->ar->Prop) (s:ar),Q (.bool (p i j)) s->ϑ (ay X.prog X.w) X.A (c6 op (.int i t) (.int j u)) Q X.xe s):PC X op a b (aRf p ta tb):=by
 intro Ψ s σ H Q I h;refine bin ha hb I h λv u s2 x y H2 I2 rx ry q=>?_
 obtain⟨i,j,rfl,rfl,q⟩:=q;obtain⟨t,rfl⟩:=rx;obtain⟨t',rfl⟩:=ry;exact rule i j t t' _ s2 ⟨.bl _,H2,I2,rfl,q⟩
def aRh(ha:PE X a ta)(hb:PE X b tb):PC X .Gt a b (tGt ta tb):=aH3 ha hb λ_ _ _ _ _ _ h=>gt_int h
def aH4(ha:PE X a ta)(hb:PE X b tb):PC X .Eq a b (aRg ta tb):=aH3 ha hb λ_ _ _ _ _ _ h=>eq_int (by rw[AB];exact h)
noncomputable def tB(t:TE):TT:=λσ H Q=>t σ H λx H1=>∃c,x=.bl c/\Q c H1
def Z5(h:PC X op a b t)(h1:ie op b=aj:=by first|exact aE1 _ 0x4 0x4|rfl):PT X (.Compare a [op] [b] pos) (tB t):=by
 intro Ψ s σ H Q I hw;refine AC (thn (h Ψ s σ H _ I hw) λv s1 h1=>thn h1 λu s2 h2=>thn h2 λc s3 ⟨x,H1,I1,r1,q1⟩=>?_) h1;obtain⟨d,rfl,q⟩:=q1;cases r1;exact jn ⟨H1,I1,q⟩
variable {tA tB':TT} {rest:ae Expr}
noncomputable def aU7(t u:TT):TT:=λσ H Q=>t σ H λc H1=>if c=ag then u σ H1 Q else Q aj H1
noncomputable def tOr(t u:TT):TT:=λσ H Q=>t σ H λc H1=>if c=ag then Q ag H1 else u σ H1 Q
noncomputable def aU8(t:TT):TT:=λσ H Q=>t σ H λc H1=>Q (!c) H1
def aIr(ha:PT X a tA):PW X (.BoolOp .And [a] pos) tA:=by
 intro wh Ψ s σ H Q I h;refine isTrue_and (thn (ha Ψ s σ H Q I h) λc s1 e=>?_);cases c with
 |true=>exact isTrue_and_nil e
 |false=>exact e
def aMu(ha:PT X a tA):PW X (.BoolOp .Or [a] pos) tA:=by
 intro wh Ψ s σ H Q I h;refine isTrue_or (thn (ha Ψ s σ H Q I h) λc s1 e=>?_);cases c with
 |false=>exact isTrue_or_nil e
 |true=>exact e
def aMv(ha:PT X a tA)(hb:PW X (.BoolOp .And (b::rest) pos) tB'):PW X (.BoolOp .And (a::b::rest) pos) (aU7 tA tB'):=by
 intro wh Ψ s σ H Q I h;refine isTrue_and (thn (ha Ψ s σ H _ I h) λc s1 ⟨H1,I1,q1⟩=>?_);cases c with
 |true=>exact hb wh Ψ s1 σ H1 Q I1 q1
 |false=>exact⟨H1,I1,q1⟩
def aRi(ha:PT X a tA)(hb:PW X (.BoolOp .Or (b::rest) pos) tB'):PW X (.BoolOp .Or (a::b::rest) pos) (tOr tA tB'):=by
 intro wh Ψ s σ H Q I h;refine isTrue_or (thn (ha Ψ s σ H _ I h) λc s1 ⟨H1,I1,q1⟩=>?_);cases c with
 |true=>exact⟨H1,I1,q1⟩
 |false=>exact hb wh Ψ s1 σ H1 Q I1 q1
def aMw(ha:PT X a tA):PT X (.UnaryOp .Not a pos) (aU8 tA):=by
 intro Ψ s σ H Q I h;exact isTrue_not (ha Ψ s σ H (λc H1=>Q (!c) H1) I h)
noncomputable def aRj(ta tb:TE):TE:=λσ H Q=>ta σ H λx H1=>∃c,x=.bl c/\if c=ag then tb σ H1 Q else Q (.bl aj) H1
def aMx{op}(h:PE X a t):PE X (.BoolOp op [a] pos) t:=λΨ s σ H Q I hw=>BoolOp_one (h Ψ s σ H Q I hw)
def aMy(ha:PE X a ta)(hb:PE X (.BoolOp .And (b::rest) pos) tb):PE X (.BoolOp .And (a::b::rest) pos) (aRj ta tb):=by
 intro Ψ s σ H Q I h;refine BoolOp_and (thn (ha Ψ s σ H _ I h) λv s1 ⟨x,H1,I1,r1,q1⟩=>?_);obtain⟨c,rfl,q1⟩:=q1;cases r1;refine jn ?_;cases c with
 |true=>exact hb Ψ s1 σ H1 Q I1 q1
 |false=>exact⟨.bl aj,H1,I1,rfl,q1⟩
end
def SqL(K:aT)(H:Hp)(a:am)(xs:ae V):Prop:=
 Rd H a (.lst xs)\/
  ∃(o:bc)(its:aI al)(n:ah),K.lookup a=aa o/\o.cls=.type "list"/\o.dict=ai/\o.data=.seq its n/\its.size<=bd/\Vals xs its.toList
def SqT(K:aT)(H:Hp)(a:am)(xs:ae V):Prop:=
 Rd H a (.tup xs)\/
  ∃(o:bc)(its:aI al)(n:ah),K.lookup a=aa o/\o.cls=.type "tuple"/\o.data=.seq its n/\its.size<=bd/\Vals xs its.toList
noncomputable def aU9:al->au V
 |.none=>aa .non
 |.bool b=>aa (.bl b)
 |.int i _=>aa (.int i)
 |.str x _=>aa (.str x)
 |.bytes b _=>aa (.byt b)
 |.float b _=>aa (.flt b)
 |.ref a=>aa (.ref a)
 |.type n=>aa (.ty n)
 |_=>ai
def RelV.abs(r:RelV x u):aU9 u=aa x:=by
 cases x with
 |non=>cases r;rfl
 |bl _=>cases r;rfl
 |int _=>obtain⟨t,rfl⟩:=r;rfl
 |str _=>obtain⟨t,rfl⟩:=r;rfl
 |byt _=>obtain⟨t,rfl⟩:=r;rfl
 |flt _=>obtain⟨t,rfl⟩:=r;rfl
 |ref _=>cases r;rfl
 |ty _=>cases r;rfl
def RelV.inj(r:RelV x u)(q:RelV y u):x=y:=gi (r.abs.symm.trans q.abs)
def Vals.inj:∀{xs ys:ae V}{us:ae al},Vals xs us->Vals ys us->xs=ys
 |_,_,_,.nil,.nil=>rfl
 |_,_,_,.cons r t,.cons r' t'=>by rw[r.inj r',Vals.inj t t']
section
variable {X:Cx} {Ψ:ae (am×bc)} {σ:St} {H:Hp} {s:ar} {a:am} {xs ys:ae V}
def SqL.of{K:aT}(h:H a=aa (.lst xs)):SqL K H a xs:=.inl (.inl h)
def SqT.of{K:aT}(h:H a=aa (.tup xs)):SqT K H a xs:=.inl (.inl h)
def Inv.list(I:Inv X Ψ σ H s)(h:SqL X.K H a xs):∃its:ae al,Vals xs its/\PlainL s.heap a its.toArray/\xs.length<=bd:=by
 rcases h with h|⟨o,its,n,hk,hc,hd,hs,hz,r⟩
 .obtain⟨z,its,n,r,e⟩:=h.ok I.hok;exact⟨its,r,⟨_,n,e,rfl,rfl,rfl⟩,z⟩
 .refine⟨its.toList,r,⟨o,n,I.kIn a o hk,hc,hd,by simpa using hs⟩,?_⟩;have e:=r.length;simp only[ly] at e;lia
def Inv.tuple(I:Inv X Ψ σ H s)(h:SqT X.K H a xs):∃its:ae al,Vals xs its/\ko s.heap a its.toArray/\xs.length<=bd:=by
 rcases h with h|⟨o,its,n,hk,hc,hs,hz,r⟩
 .obtain⟨z,its,r,p⟩:=h.ok I.hok;exact⟨its,r,p.tup,z⟩
 .refine⟨its.toList,r,⟨o,I.kIn a o hk,hc,n,by simpa using hs⟩,?_⟩;have e:=r.length;simp only[ly] at e;lia
def Inv.oE(I:Inv X Ψ σ H s)(h:SqL X.K H a xs)(h':SqL X.K H a ys):xs=ys:=by
 obtain⟨its,r,⟨o,n,e,_,_,d⟩,_⟩:=I.list h;obtain⟨its',r',⟨o',n',e',_,_,d'⟩,_⟩:=I.list h';rw[e] at e';cases e';rw[d] at d';injection d' with d1 _
 have:its=its':=by simpa using c5 AD d1
 subst this;exact r.inj r'
def Inv.Z6(I:Inv X Ψ σ H s)(h:SqT X.K H a xs)(h':SqT X.K H a ys):xs=ys:=by
 obtain⟨its,r,⟨o,e,_,n,d⟩,_⟩:=I.tuple h;obtain⟨its',r',⟨o',e',_,n',d'⟩,_⟩:=I.tuple h';rw[e] at e';cases e';rw[d] at d';injection d' with d1 _
 have:its=its':=by simpa using c5 AD d1
 subst this;exact r.inj r'
end
noncomputable abbrev Cx.wish(X:Cx)(E:al->ar->Prop):Cx:={X with xe:=E}
noncomputable abbrev Cx.nox(X:Cx):Cx:=X.wish λ_ _=>cf
def Cx.Ok.wish{X:Cx}(ok:X.Ok)(E:al->ar->Prop):(X.wish E).Ok:=
 ⟨ok.mod,ok.kind,ok.glob,ok.blt,ok.above,ok.inj,ok.has,ok.cab,ok.hd,ok.frames,ok.stk,ok.exf,ok.bs,ok.bsz,ok.noex,ok.exfs,ok.W4,ok.frf⟩
def Cx.Ok.lU{X:Cx}(ok:(X.wish E).Ok):X.Ok:=
 ⟨ok.mod,ok.kind,ok.glob,ok.blt,ok.above,ok.inj,ok.has,ok.cab,ok.hd,ok.frames,ok.stk,ok.exf,ok.bs,ok.bsz,ok.noex,ok.exfs,ok.W4,ok.frf⟩
section
variable {X:Cx} {Ψ:ae (am×bc)} {σ:St} {H:Hp} {s:ar} {E:al->ar->Prop}
def Inv.wish(I:Inv X Ψ σ H s)(E:al->ar->Prop):Inv (X.wish E) Ψ σ H s:=⟨I.ok.wish E,I.os,I.bare,I.base,I.loc,I.cell,I.free,I.freeC,I.pin,I.hok,I.len⟩
def Inv.lU(I:Inv (X.wish E) Ψ σ H s):Inv X Ψ σ H s:=⟨I.ok.lU,I.os,I.bare,I.base,I.loc,I.cell,I.free,I.freeC,I.pin,I.hok,I.len⟩
def SP.lU(h:SP (X.wish E) Ψ D f s'):SP X Ψ D f s':=by
 cases f with
 |next=>obtain⟨σ',H',I,q⟩:=h;exact⟨σ',H',I.lU,q⟩
 |brk=>obtain⟨σ',H',I,q⟩:=h;exact⟨σ',H',I.lU,q⟩
 |cont=>obtain⟨σ',H',I,q⟩:=h;exact⟨σ',H',I.lU,q⟩
 |ret u=>obtain⟨v,σ',H',I,r,q⟩:=h;exact⟨v,σ',H',I.lU,r,q⟩
def PSs.nox{st:ae bp}(h:PSs X.nox st t):PSs X st t:=λΨ s σ H D I hw=>
 eM (h Ψ s σ H D (I.wish _) hw) (λ_ _ q=>q.lU) λ_ _ z=>dz z
end
section
variable {X:Cx} {st:bp} {rest:ae bp} {t u:TS} {e:Expr} {te:TE} {pos:cm}
noncomputable def aE2:TS:=λD σ H=>D.nx σ H
noncomputable def wV(t u:TS):TS:=λD σ H=>t {D with nx:=u D} σ H
def uH:PSs X [] aE2:=λ_ _ σ H _ I h=>lz ⟨σ,H,I,h⟩
def bO(h1:PS X st t)(h2:PSs X rest u):PSs X (st::rest) (wV t u):=by
 intro Ψ s σ H D I h;refine xy (thn (h1 Ψ s σ H {D with nx:=u D} I h) λf s1 q=>?_);cases f with
 |next=>
  obtain⟨σ',H',I',q⟩:=q;exact h2 Ψ s1 σ' H' D I' q
 |ret v=>exact q
 |brk=>exact q
 |cont=>exact q
def dD(h1:PS X st t):PSs X [st] t:=by
 intro Ψ s σ H D I h;refine xy (thn (h1 Ψ s σ H D I h) λf s1 q=>?_);cases f with
 |next=>exact lz q
 |ret v=>exact q
 |brk=>exact q
 |cont=>exact q
def Inv.quiet(I:Inv X Ψ σ H s):AE X.env=aj:=by simp[AE,I.ok.kind]
noncomputable def DR(te:TE):TS:=λD σ H=>te σ H λ_ H1=>D.nx σ H1
def iZ(he:PE X e te)(hs:en e ai pos.line X.env=pure aj:=by rfl):PS X (.Expr e pos) (DR te):=by
 intro Ψ s σ H D I h;exact wpAny_Expr_any (thn (he Ψ s σ H _ I h) λv s1 ⟨x,H1,I1,r1,q1⟩=>⟨σ,H1,I1,q1⟩) I.quiet hs
noncomputable def aMz(te:TE):TS:=λD σ H=>te σ H D.rt
def BR(he:PE X e te):PS X (.Return (aa e) pos) (aMz te):=by
 intro Ψ s σ H D I h;exact wpAny_Return_some (thn (he Ψ s σ H _ I h) λv s1 ⟨x,H1,I1,r1,q1⟩=>⟨x,σ,H1,I1,r1,q1⟩)
noncomputable def aIs(c:TT)(t u:TS):TS:=λD σ H=>c σ H λb H1=>if b=ag then t D σ H1 else u D σ H1
def DW(hc:PT X c tc)(ha:PSs X a t)(hb:PSs X b u):PS X (.If c a b pos) (aIs tc t u):=by
 intro Ψ s σ H D I h;refine wpAny_If (thn (hc Ψ s σ H _ I h) λd s1 ⟨H1,I1,q1⟩=>?_);cases d with
 |true=>exact ha Ψ s1 σ H1 D I1 q1
 |false=>exact hb Ψ s1 σ H1 D I1 q1
end
abbrev TG:=V->St->Hp->(St->Hp->Prop)->Prop
abbrev TGs:=ae V->St->Hp->(St->Hp->Prop)->Prop
def PG(X:Cx)(target:Expr)(t:TG):Prop:=
 ∀(Ψ:ae (am×bc))(s:ar)(σ:St)(H:Hp)(v:V)(u:al)(Q:St->Hp->Prop),Inv X Ψ σ H s->RelV v u->t v σ H Q->
  ϑ (ay X.prog X.w) X.A (kq target X.env u) (λ_ s'=>∃σ' H',Inv X Ψ σ' H' s'/\Q σ' H') X.xe s
def PGs(X:Cx)(ts:ae Expr)(t:TGs):Prop:=
 ∀(Ψ:ae (am×bc))(s:ar)(σ:St)(H:Hp)(vs:ae V)(us:ae al)(Q:St->Hp->Prop),Inv X Ψ σ H s->Vals vs us->t vs σ H Q->
  ϑ (ay X.prog X.w) X.A (AF ((iN ts X.env).map (·.2)) us) (λ_ s'=>∃σ' H',Inv X Ψ σ' H' s'/\Q σ' H') X.xe s
section
variable {X:Cx} {pos:cm}
noncomputable def gR(i:ah):TG:=λv σ H Q=>Q (σ.set i (aa v)) H
def aR(hN:X.N.Nodup)(hi:X.N[i]?=aa x)(hx:Loc X.env.scope x)(hf:zFn X x:=by first|exact .inl rfl|exact .inr rfl|assumption):PG X (.Name x pos) (gR i):=by
 intro Ψ s σ H v u Q I r h;exact wpAny_assign_Name (DQ I hN hi hx r (λs' I'=>⟨_,H,I',h⟩) hf)
noncomputable def aQz:TGs:=λvs σ H Q=>vs=[]/\Q σ H
noncomputable def W5(t:TG)(u:TGs):TGs:=λvs σ H Q=>∃v r,vs=v::r/\t v σ H λσ' H'=>u r σ' H' Q
def gU:PGs X [] aQz:=by
 intro Ψ s σ H vs us Q I r h;obtain⟨e,h⟩:=h;subst e;cases r;exact assignInOrder_nil ⟨σ,H,I,h⟩
def aZ(h1:PG X e t)(h2:PGs X es u)
 (hs:(iN (e::es) X.env).map (·.2)=kq e X.env::(iN es X.env).map (·.2):=by rfl):PGs X (e::es) (W5 t u):=by
 intro Ψ s σ H vs us Q I r h;obtain⟨v,vr,e1,h⟩:=h;subst e1;cases r with
 |cons r rr=>
  rw[hs];refine assignInOrder_cons (thn (h1 Ψ s σ H _ _ _ I r h) λ_ s1 ⟨σ1,H1,I1,q1⟩=>?_);exact h2 Ψ s1 σ1 H1 _ _ Q I1 rr q1
noncomputable def aMe(K:aT)(n:ah)(t:TGs):TG:=λv σ H Q=>∃a xs,v=.ref a/\SqT K H a xs/\xs.length=n/\t xs σ H Q
def m8(hc:X.calm=ag)(h:PGs X es t)
 (hn:(iN es X.env).length=n:=by rfl)(hst:(iN es X.env).findIdx? (·.1)=ai:=by rfl):PG X (.Tuple es k pos) (aMe X.K n t):=by
 intro Ψ s σ H v u Q I r hw;obtain⟨a,xs,e1,hq,hl,hw⟩:=hw;subst e1;cases r;obtain⟨its,rv,ht,hz⟩:=I.tuple hq;refine assign_Tuple_tuple (I.ok.hd hc) ht (by simp[hn,<-hl,rv.length]) hst λh' hx=>?_
 have I1:Inv X Ψ σ H {s with heap:=h'}:=I.kept λb o e=>hx b o (cg (bw e)) e
 exact h Ψ _ σ H xs _ Q I1 (by simpa using rv) hw
noncomputable def JV(te:TE)(g:TG):TS:=λD σ H=>te σ H λx H1=>g x σ H1 D.nx
def m9(he:PE X e te)(hg:PG X tg g)(hs:AG [tg] e pos.line X.env=pure aj:=by rfl)(hw:AH [tg] e X.env=pure ai:=by rfl)
 (h1:(iN [tg] X.env).map (·.2)=[kq tg X.env]:=by rfl):PS X (.Assign [tg] e pos) (JV te g):=by
 intro Ψ s σ H D I h;refine wpAny_Assign_stores (thn (he Ψ s σ H _ I h) λv s1 ⟨x,H1,I1,r1,q1⟩=>?_) hs hw;rw[h1];exact thn (hg Ψ s1 σ H1 x v _ I1 r1 q1) λ_ s2 q=>q
def BV(hN:X.N.Nodup)(hi:X.N[i]?=aa x)(hx:Loc X.env.scope x)(he:PE X e te)(hs:zSw X e x pos' pos:=by rfl)(hf:zFn X x:=by first|exact .inl rfl|exact .inr rfl|assumption) :
  PS X (.Assign [.Name x pos'] e pos) (JV te (gR i)):=by
 intro Ψ s σ H D I h;refine AI (thn (he Ψ s σ H _ I h) λv s1 ⟨y,H1,I1,r1,q1⟩=>?_) hs;exact DQ I1 hN hi hx r1 (λs2 I2=>⟨_,H1,I2,q1⟩) hf
def Z7(c:TT)(tb:TS):TS:=λD σ H=>∃W:ah->St->Hp->Prop,(∃m,W m σ H)/\∀m σ H,W m σ H->
 c σ H λb H1=>if b=ag then ∃N:St->Hp->Prop,(∀σ' H',N σ' H'->∃m',m'<m/\W m' σ' H')/\tb {D with nx:=N,ct:=N,bk:=D.nx} σ H1 else D.nx σ H1
def S8(hp:lI (ay X.prog X.w) X.A X.env X.xe)(hc:PT X c tc)(hb:PSs X body tb):PS X (.While c body [] pos) (Z7 tc tb):=by
 intro Ψ s σ H D I h;obtain⟨W,⟨m0,w0⟩,turn⟩:=h;refine wpAny_While (codeAny_whileLoop (λn s'=>∃σ' H',Inv X Ψ σ' H' s'/\W n σ' H') ?_ m0 ⟨σ,H,I,w0⟩);rintro n s1 ⟨σ1,H1,I1,w1⟩;refine kr hp (thn (hc Ψ s1 σ1 H1 _ I1 (turn n σ1 H1 w1)) λb s2 ⟨H2,I2,q2⟩=>?_);cases b with
 |true=>
  obtain⟨N,hN,q2⟩:=q2;rw[aq rfl];refine kr hp (thn (hb Ψ s2 σ1 H2 _ I2 q2) λf s3 q3=>?_);cases f with
  |next=>
   obtain⟨σ3,H3,I3,n3⟩:=q3;obtain⟨m',hm,w3⟩:=hN σ3 H3 n3;exact⟨m',hm,σ3,H3,I3,w3⟩
  |cont=>
   obtain⟨σ3,H3,I3,n3⟩:=q3;obtain⟨m',hm,w3⟩:=hN σ3 H3 n3;exact⟨m',hm,σ3,H3,I3,w3⟩
  |brk=>exact q3
  |ret v=>exact q3
 |false=>
  rw[ax fz];exact lz ⟨σ1,H2,I2,q2⟩
end
structure It where
 go:ah->Hp->Prop
 yld:ah->Hp->V->Hp->Prop
 stop:ah->Hp->Prop
def ZQ(X:Cx)(Ψ:ae (am×bc))(H:Hp)(b:am):Prop:=
 H b=ai/\b≠X.env.locals/\b∉X.fs/\(b∈X.ex\/X.s₀.heap.objs.size<=b)/\(∀x c,X.env.cells.lookup x=aa c->c≠b)/\∀p∈X.pn++Ψ,p.1≠b
def Inv.aDu(I:Inv X Ψ σ H s)(hb:s.heap.objs.size<=b)(hn:H' b=ai):ZQ X Ψ H' b:=by
 refine⟨hn,fA (de I.lt hb),I.aT6 hb,.inr (dg I.sz hb),λx c e z=>?_,λp hp z=>?_⟩
 .obtain⟨v,q⟩:=I.cell x c e;exact aS (de q.lt (by rw[z];exact hb)) (eW _)
 .exact aS (de (bw (I.pin p hp).1) (by rw[z];exact hb)) (eW _)
structure Turn(P:bu)(w:bn)(K:aT)(tg:Expr)(J:It)(fp:ae am)(it:am)(tn:ah->aE->Prop):Prop where
 mem:it∈fp
 obj:∀i h,tn i h->∀b∈fp,∃o,h.get? b=aa o/\∀v,o.data≠.cell v
 keep:∀i h h',tn i h->(∀b∈fp,∀o,h.get? b=aa o->h'.get? b=aa o)->tn i h'
 item:∀(X:Cx),X.prog=P->X.w=w->X.K=K->X.calm=ag->∀(i:ah)(Ψ:ae (am×bc))(s:ar)(σ:St)(H:Hp)(E:al->ar->Prop),Inv X Ψ σ H s->(∀b∈fp,ZQ X Ψ H b)->tn i s.heap->J.go i H->
  ϑ (ay P w) X.A (ff (.ref it)) (λr s1=>∃u,r=aa u/\
   ϑ (ay P w) X.A (nu tg (.ref it) u) (λ_ s2=>∃x H',Inv X Ψ σ H' s2/\RelV x u/\J.yld i H x H'/\tn (i+1) s2.heap/\∀b∈fp,H' b=ai) E s1) E s
 done:∀(X:Cx),X.prog=P->X.w=w->X.K=K->X.calm=ag->∀(i:ah)(Ψ:ae (am×bc))(s:ar)(σ:St)(H:Hp)(E:al->ar->Prop),Inv X Ψ σ H s->(∀b∈fp,ZQ X Ψ H b)->tn i s.heap->J.stop i H->
  ϑ (ay P w) X.A (ff (.ref it)) (λr s1=>r=ai/\Inv X Ψ σ H s1) E s
 self:∀(A:bP)(i:ah)(s:ar)(Q:al->ar->Prop)(E:al->ar->Prop),tn i s.heap->Q (.ref it) s->ϑ (ay P w) A (kx (.ref it)) Q E s
abbrev TI:=St->Hp->(It->Hp->Prop)->Prop
def PIE(X:Cx)(Ψ:ae (am×bc))(σ:St)(tg:Expr)(R:It->Hp->Prop)(itv:al)(s2:ar):Prop:=
 ∃(it:am)(fp:ae am)(tn:ah->aE->Prop)(J:It)(H':Hp),itv=.ref it/\Inv X Ψ σ H' s2/\Turn X.prog X.w X.K tg J fp it tn/\tn 0 s2.heap/\(∀b∈fp,ZQ X Ψ H' b)/\R J H'
def PI(X:Cx)(tg iter:Expr)(wi:TI):Prop:=
 ∀(Ψ:ae (am×bc))(s:ar)(σ:St)(H:Hp)(R:It->Hp->Prop),Inv X Ψ σ H s->wi σ H R->
  ϑ (ay X.prog X.w) X.A (eval iter X.env) (λv s1=>ϑ (ay X.prog X.w) X.A (kx v) (PIE X Ψ σ tg R) X.xe s1) X.xe s
def aE3(ho:s.heap.get? it=aa o)(hc:o.cls=.type n)(hd:o.data=.fields vs)
 (hn:["enumerate","zip","dict_itemiterator","dict_reverseitemiterator","odict_iterator","itertools.zip_longest","itertools.pairwise"].contains n=aj)(hQ:Q () s):ϑ M A (nu tg (.ref it) u) Q E s:= by
  unfold nu;cases tg<;>first
    |exact az hQ
    | (cases u<;>first
        |exact az hQ
        | (refine ao (wpAny_load ho ?_)
           rw[hc,hd];show ϑ M A (if (["enumerate","zip","dict_itemiterator","dict_reverseitemiterator","odict_iterator","itertools.zip_longest","itertools.pairwise"].contains n&&vs[0]?==aa (b9 _))=ag then _ else _) Q E s;rw[ax (by intro h;rw[hn,nw] at h;cases h)];exact az hQ))
noncomputable def Itl(K:aT)(a:am):It:=
 ⟨λi H=>∃xs x,SqL K H a xs/\xs[i]?=aa x,λi H x H'=>H'=H/\∀xs,SqL K H a xs->xs[i]?=aa x,λi H=>∃xs,SqL K H a xs/\xs.length<=i⟩
noncomputable def Itt(K:aT)(a:am):It:=
 ⟨λi H=>∃xs x,SqT K H a xs/\xs[i]?=aa x,λi H x H'=>H'=H/\∀xs,SqT K H a xs->xs[i]?=aa x,λi H=>∃xs,SqT K H a xs/\xs.length<=i⟩
noncomputable def Itr(lo:ak)(n:ah):It:=⟨λi _=>i<n,λi H x H'=>H'=H/\x=.int (lo+i),λi _=>n<=i⟩
theorem JW{K:aT}(a it:am):Turn P w K tg (Itl K a) [it] it (λi h=>h.IsListIter it a i) where
 mem:=by simp
 obj:=λi h st b hb=>by
  have e:b=it:=by simpa using hb
  subst e;obtain⟨o,e,c,d⟩:=st;exact⟨o,e,λv z=>by rw[d] at z;cases z⟩
 keep:=λi h h' st k=>st.at λo e=>k it 0x2 o e
 item:=by
  intro X hP hw hK hc i Ψ s σ H E I hf st hg;subst hP hw hK;obtain⟨xs,x,hq,hx⟩:=hg;obtain⟨its,rv,p,hz⟩:=I.list hq;obtain⟨u,hu,ru⟩:=rv.get hx;obtain⟨f0,f1,f2,f3,f4,f5⟩:=hf it 0x2;refine sF st p.isList (by simpa using hu) λh' st' sb=>?_
  have I1:Inv X Ψ σ H {s with heap:=h'}:=I.turned (λb o hb e=>(sb.2 b hb).trans e) f0 f1 f3 f4 f5;obtain⟨o,e,c,d⟩:=id st';exact⟨u,rfl,aE3 e c d 0x4 ⟨x,H,I1,ru,⟨rfl,λys hy=>by rw[I.oE hy hq];exact hx⟩,st',λb hb=>(hf b hb).1⟩⟩
 done:=by
  intro X hP hw hK hc i Ψ s σ H E I hf st hg;subst hP hw hK;obtain⟨xs,hq,hx⟩:=hg;obtain⟨its,rv,p,hz⟩:=I.list hq;obtain⟨f0,f1,f2,f3,f4,f5⟩:=hf it 0x2;have hl:=rv.length;exact sK (I.ok.hd hc) st p.isList (by simp;lia) λh' eb=>⟨rfl,I.turned (λb o hb e=>eb b o hb e) f0 f1 f3 f4 f5⟩
 self:=λ_ _ _ _ _ st h=>wpAny_pyIter_listiter st h
theorem W6{K:aT}(a it:am):Turn P w K tg (Itt K a) [it] it (λi h=>h.IsTupleIter it a i) where
 mem:=by simp
 obj:=λi h st b hb=>by
  have e:b=it:=by simpa using hb
  subst e;obtain⟨o,e,c,d⟩:=st;exact⟨o,e,λv z=>by rw[d] at z;cases z⟩
 keep:=λi h h' st k=>st.at λo e=>k it 0x2 o e
 item:=by
  intro X hP hw hK hc i Ψ s σ H E I hf st hg;subst hP hw hK;obtain⟨xs,x,hq,hx⟩:=hg;obtain⟨its,rv,p,hz⟩:=I.tuple hq;obtain⟨u,hu,ru⟩:=rv.get hx;obtain⟨f0,f1,f2,f3,f4,f5⟩:=hf it 0x2;refine AJ st (show s.heap.IsTuple a its.toArray from p) (by simpa using hu) λh' st' sb=>?_
  have I1:Inv X Ψ σ H {s with heap:=h'}:=I.turned (λb o hb e=>(sb.2 b hb).trans e) f0 f1 f3 f4 f5;obtain⟨o,e,c,d⟩:=id st';exact⟨u,rfl,aE3 e c d 0x4 ⟨x,H,I1,ru,⟨rfl,λys hy=>by rw[I.Z6 hy hq];exact hx⟩,st',λb hb=>(hf b hb).1⟩⟩
 done:=by
  intro X hP hw hK hc i Ψ s σ H E I hf st hg;subst hP hw hK;obtain⟨xs,hq,hx⟩:=hg;obtain⟨its,rv,p,hz⟩:=I.tuple hq;obtain⟨f0,f1,f2,f3,f4,f5⟩:=hf it 0x2;have hl:=rv.length;exact AK (I.ok.hd hc) st (show s.heap.IsTuple a its.toArray from p) (by simp;lia) λh' eb=>⟨rfl,I.turned (λb o hb e=>eb b o hb e) f0 f1 f3 f4 f5⟩
 self:=λ_ _ _ _ _ st h=>wpAny_pyIter_tupleiter st h
def W7{K:aT}(it:am)(lo:ak)(n:ah):Turn P w K tg (Itr lo n) [it] it (λi h=>AL h it (lo+(i:ah)*1) ((n:ak)-(i:ah)) 1) where
 mem:=by simp
 obj:=λi h st b hb=>by
  have e:b=it:=by simpa using hb
  subst e;exact⟨_,st,λv z=>by
   have z':xA _=xB v:=z;cases z'⟩
 keep:=λi h h' st k=>k it 0x2 _ st
 item:=by
  intro X hP hw hK hc i Ψ s σ H E I hf st hg;subst hP hw hK;obtain⟨f0,f1,f2,f3,f4,f5⟩:=hf it 0x2;have W:=Walks.range (prog:=X.prog) (w:=X.w) (I.ok.hd hc) it lo 1 n;refine W.item i s _ _ hg st λv h' tk hv st' kk=>?_
  obtain⟨t,rfl⟩:=hv;have I1:Inv X Ψ σ H {s with heap:=h',toks:=tk}:=I.turned (λb o hb e=>kk b o (by simpa using hb) e) f0 f1 f3 f4 f5;refine⟨_,rfl,aE3 st' rfl rfl 0x4 ⟨.int (lo+i),H,I1,⟨t,?_⟩,⟨rfl,rfl⟩,st',λb hb=>(hf b hb).1⟩⟩;rw[AM]
 done:=by
  intro X hP hw hK hc i Ψ s σ H E I hf st hg;subst hP hw hK;obtain⟨f0,f1,f2,f3,f4,f5⟩:=hf it 0x2;exact wpAny_pyNext_range_end (I.ok.hd hc) st (by have:n<=i:=hg;lia) λh' eb=>⟨rfl,I.turned (λb o hb e=>eb b o hb e) f0 f1 f3 f4 f5⟩
 self:=λ_ _ _ _ _ st h=>wpAny_pyIter_rangeiter st h
section
variable {X:Cx} {tg:Expr}
def aE4{lo hi:ak}{t u v:cz}{tk:ah}(I:Inv X Ψ σ H s)(h1:-(2 ^ 62)<=lo)(h2:lo<2 ^ 62)(h3:-(2 ^ 62)<=hi)(h4:hi<2 ^ 62)
 (q:R (Itr lo (hi-lo).toNat) H):ϑ (ay X.prog X.w) X.A (kx (.ref s.heap.objs.size)) (PIE X Ψ σ tg R) E {s with heap:=s.heap.push {cls:=.type "range",data:=.fields #[.int lo t,.int hi u,.int 1 v]},toks:=tk}:=by
 refine wpAny_pyIter_range (IsRange.new ..) (small_one h1 h2 h3 h4) ?_;have I1:Inv X Ψ σ H {s with heap:=s.heap.push {cls:=.type "range",data:=.fields #[.int lo t,.int hi u,.int 1 v]},toks:=tk}:=I.kept λb o e=>bS _ e
 refine⟨(s.heap.push {cls:=.type "range",data:=.fields #[.int lo t,.int hi u,.int 1 v]}).objs.size,[(s.heap.push {cls:=.type "range",data:=.fields #[.int lo t,.int hi u,.int 1 v]}).objs.size],_,_,H,rfl,
  I1.kept λb o e=>bS _ e,W7 _ lo (hi-lo).toNat,?_,λb hb=>?_,q⟩
 .have e1:lo+((0:ah):ak)*1=lo:=by simp
  have e2:(((hi-lo).toNat:ah):ak)-((0:ah):ak)=Ds lo hi 1:=by rw[rangeSize_one];split<;>lia
  show AL _ _ (lo+((0:ah):ak)*1) ((((hi-lo).toNat:ah):ak)-((0:ah):ak)) 1;rw[e1,e2];exact cu _ rfl
 .have e:b=(s.heap.push {cls:=.type "range",data:=.fields #[.int lo t,.int hi u,.int 1 v]}).objs.size:=by simpa using hb
  subst e;exact I1.aDu (bo _) (I1.hok.fresh (bo _))
def aRk(ta:TA):TI:=λσ H R=>ta σ H λvs H1=>∃j:ak,vs=[.int j]/\-(2 ^ 62)<=j/\j<2 ^ 62/\R (Itr 0 j.toNat) H1
def Z8{p pos:cm}(hg:Gl X "range")(hm:X.mg "range"=ai)(ha:PA X [a] ta)(hs:cw [a] X.env=[(aj,eval a X.env)]:=by rfl):PI X tg (.Call (.Name "range" p) [a] [] pos) (aRk ta):=by
 intro Ψ s σ H R I h;refine Call_ (jP I hg hm boot_range (hG (thn (ha pos Ψ s σ H _ I h) λus s1 ⟨vs,H1,I1,r1,q1⟩=>?_) hs rfl));obtain⟨j,e,q1,q2,q⟩:=q1;subst e;cases r1 with
 |cons r rr=>
  cases rr;obtain⟨t,rfl⟩:=r;exact call_range_1 (aE4 I1 0x1 0x1 q1 q2 (by simpa using q))
def aT8(wi:TI)(g:TG)(tb:TS):TS:=λD σ H=>wi σ H λJ H1=>∃W:ah->ah->St->Hp->Prop,(∃m,W 0 m σ H1)/\∀i m σ H,W i m σ H->
 (J.stop i H/\D.nx σ H)\/(J.go i H/\∃N:St->Hp->Prop,(∀σ' H',N σ' H'->∃m',m'<m/\W (i+1) m' σ' H')/\∀x H',J.yld i H x H'->g x σ H' λσ2 H2=>tb {D with nx:=N,ct:=N,bk:=D.nx} σ2 H2)
noncomputable def wW(fp:ae am)(h:aE):ae (am×bc):=fp.filterMap λb=>(h.get? b).map λo=>(b,o)
def mL(hb:b∈fp)(e:h.get? b=aa o):(b,o)∈wW fp h:=xC.mpr ⟨b,hb,by rw[e];rfl⟩
def Z9(hp:p∈wW fp h):p.1∈fp/\h.get? p.1=aa p.2:=by
 obtain⟨b,hb,e⟩:=xC.mp hp;cases q:h.get? b with
 |none=>rw[q] at e;cases e
 |some o=>
  rw[q] at e;have e':(b,o)=p:=gi e;subst e';exact⟨hb,q⟩
def Inv.pinned(I:Inv X Ψ σ H s)(hf:∀b∈fp,ZQ X Ψ H b)(ho:∀b∈fp,∃o,s.heap.get? b=aa o/\∀v,o.data≠.cell v):Inv X (Ψ++wW fp s.heap) σ H s:=
 I.PJ λp hp=>(d6.mp hp).elim (λz=>I.pin p (dA _ z)) λz=>by
  obtain⟨hb,e⟩:=Z9 z;obtain⟨f0,f1,f2,_⟩:=hf p.1 hb;obtain⟨o,e',d⟩:=ho p.1 hb;rw[e] at e';cases e';exact⟨e,f0,f1,f2,d⟩
def Inv.oF(I:Inv X (Ψ++pl) σ H s):Inv X Ψ σ H s:=I.PJ λp hp=>I.pin p (dA _ (fy _ hp))
def S9(hp:lI (ay X.prog X.w) X.A X.env X.xe)(hc:X.calm=ag)(hi:PI X tg iter wi)(hg:PG X tg g)(hb:PSs X body tb)
 (hs:∀x,fg iter X.env x=pure x:=by intro _;rfl):PS X (.For tg iter body [] pos) (aT8 wi g tb):=by
 intro Ψ s σ H D I h;refine wpAny_For (thn (hi Ψ s σ H _ I h) λv s1 h1=>thn h1 λitv s2 h2=>?_) hs;obtain⟨it,fp,tn,J,H2,e,I2,T,st2,f2,W,⟨m0,w0⟩,turn⟩:=h2;subst e
 -- what stays ag of the iterator's objects through the loop
 have stat:∀{H':Hp},(∀b∈fp,H' b=ai)->∀b∈fp,ZQ X Ψ H' b:=λhn b hb=>⟨hn b hb,(f2 b hb).2⟩
 refine codeAny_forLoop_any (λn s'=>∃i σ' H',Inv X Ψ σ' H' s'/\tn i s'.heap/\(∀b∈fp,H' b=ai)/\W i n σ' H') ?_ m0 ⟨0,σ,H2,I2,st2,λb hb=>(f2 b hb).1,w0⟩;rintro n s3 ⟨i,σ3,H3,I3,st3,fr3,w3⟩;rcases turn i n σ3 H3 w3 with ⟨stop,qn⟩|⟨go,N,hN,step⟩
 .refine kr hp (thn (T.done X rfl rfl rfl hc i Ψ s3 σ3 H3 X.xe I3 (stat fr3) st3 stop) λr s4 ⟨hr,I4⟩=>?_);subst hr;exact lz ⟨σ3,H3,I4,qn⟩
 .refine kr hp (thn (T.item X rfl rfl rfl hc i Ψ s3 σ3 H3 X.xe I3 (stat fr3) st3 go) λr s4 ⟨u,hr,h4⟩=>?_);subst hr;refine kr hp (thn h4 λ_ s5 ⟨x,H5,I5,r5,y5,st5,fr5⟩=>?_);have I5':=I5.pinned (stat fr5) (T.obj _ _ st5);refine kr hp (thn (hg _ s5 σ3 H5 x u _ I5' r5 (step x H5 y5)) λ_ s6 ⟨σ6,H6,I6,q6⟩=>?_);refine kr hp (thn (hb _ s6 σ6 H6 _ I6 q6) λf s7 q7=>?_);have again:∀{σ7:St}{H7:Hp},Inv X (Ψ++wW fp s5.heap) σ7 H7 s7->N σ7 H7->∃m,m<n/\∃i σ' H',Inv X Ψ σ' H' s7/\tn i s7.heap/\(∀b∈fp,H' b=ai)/\W i m σ' H':=λ{σ7 H7} I7 n7=>by
   obtain⟨m',hm,w7⟩:=hN σ7 H7 n7;refine⟨m',hm,i+1,σ7,H7,I7.oF,T.keep _ _ _ st5 λb hb o e=>(I7.pin (b,o) (dA _ (dA _ (mL hb e)))).1,λb hb=>?_,w7⟩;obtain⟨o,e,d⟩:=T.obj _ _ st5 b hb;exact(I7.pin (b,o) (dA _ (dA _ (mL hb e)))).2.1
  cases f with
  |next=>obtain⟨σ7,H7,I7,n7⟩:=q7;exact again I7 n7
  |cont=>obtain⟨σ7,H7,I7,n7⟩:=q7;exact again I7 n7
  |brk=>obtain⟨σ7,H7,I7,q7⟩:=q7;exact⟨σ7,H7,I7.oF,q7⟩
  |ret v=>obtain⟨x7,σ7,H7,I7,r7,q7⟩:=q7;exact⟨x7,σ7,H7,I7.oF,r7,q7⟩
end
abbrev R2:=V->V->Hp->VK->Prop
def OpR(X:Cx)(f:al->al->gy al)(r:R2):Prop:=
 ∀(Ψ:ae (am×bc))(s:ar)(σ:St)(H:Hp)(x y:V)(v u:al)(Q:VK),Inv X Ψ σ H s->RelV x v->RelV y u->r x y H Q->
  ϑ (ay X.prog X.w) X.A (f v u) (EP X Ψ σ Q) X.xe s
def UnR(X:Cx)(f:al->gy al)(r:V->Hp->VK->Prop):Prop:=
 ∀(Ψ:ae (am×bc))(s:ar)(σ:St)(H:Hp)(x:V)(v:al)(Q:VK),Inv X Ψ σ H s->RelV x v->r x H Q->
  ϑ (ay X.prog X.w) X.A (f v) (EP X Ψ σ Q) X.xe s
def nC(X:Cx)(f:al)(r:ae V->Hp->VK->Prop):Prop:=
 ∀(Ψ:ae (am×bc))(s:ar)(σ:St)(H:Hp)(xs:ae V)(us:ae al)(Q:VK),Inv X Ψ σ H s->Vals xs us->r xs H Q->
  ϑ (ay X.prog X.w) X.A (call f us) (EP X Ψ σ Q) X.xe s
def aUa(X:Cx)(r:V->Hp->(aw->Hp->Prop)->Prop):Prop:=
 ∀(Ψ:ae (am×bc))(s:ar)(σ:St)(H:Hp)(x:V)(v:al)(Q:aw->Hp->Prop),Inv X Ψ σ H s->RelV x v->r x H Q->
  ϑ (ay X.prog X.w) X.A (truthy v) (TP X Ψ σ Q) X.xe s
noncomputable def tOp(r:R2)(ta tb:TE):TE:=λσ H Q=>ta σ H λx H1=>tb σ H1 λy H2=>r x y H2 Q
noncomputable def tUn(r:V->Hp->VK->Prop)(ta:TE):TE:=λσ H Q=>ta σ H λx H1=>r x H1 Q
noncomputable def rI(C:ak->ak->Prop)(g:ak->ak->V):R2:=λx y H Q=>∃i j,x=.int i/\y=.int j/\C i j/\Q (g i j) H
noncomputable def rI0(g:ak->ak->V):R2:=λx y H Q=>∃i j,x=.int i/\y=.int j/\Q (g i j) H
def rU(g:ak->V):V->Hp->VK->Prop:=λx H Q=>∃i,x=.int i/\Q (g i) H
section
variable {X:Cx} {a b:Expr} {ta tb:TE} {pos:cm}
def aRl(ha:PE X a ta)(hb:PE X b tb){R:V->V->Hp->Prop}(I:Inv X Ψ σ H s)
 (h:ta σ H λx H1=>tb σ H1 λy H2=>R x y H2){Q:al->ar->Prop}{f:al->al->gy al}
 (hf:∀v u s2 x y H2,Inv X Ψ σ H2 s2->RelV x v->RelV y u->R x y H2->ϑ (ay X.prog X.w) X.A (f v u) Q X.xe s2) :
  ϑ (ay X.prog X.w) X.A (eval a X.env) (λv s₁=>ϑ (ay X.prog X.w) X.A (eval b X.env) (λu s₂=>ϑ (ay X.prog X.w) X.A (f v u) Q X.xe s₂) X.xe s₁) X.xe s:=by
 refine thn (ha Ψ s σ H _ I h) λv s1 ⟨x,H1,I1,r1,q1⟩=>?_
 refine thn (hb Ψ s1 σ H1 _ I1 q1) λu s2 ⟨y,H2,I2,r2,q2⟩=>?_
 exact hf v u s2 x y H2 I2 r1 r2 q2
def aRm(ho:OpR X (ef op) r)(ha:PE X a ta)(hb:PE X b tb):PE X (.BinOp a op b pos) (tOp r ta tb):=by
 intro Ψ s σ H Q I h;exact sD (aRl ha hb I h λv u s2 x y H2 I2 rx ry q=>ho Ψ s2 σ H2 x y v u Q I2 rx ry q)
def aN0(ho:UnR X (unaryOp op) r)(ha:PE X a ta):PE X (.UnaryOp op a pos) (tUn r ta):=by
 intro Ψ s σ H Q I h;exact UnaryOp_ (thn (ha Ψ s σ H _ I h) λv s1 ⟨x,H1,I1,r1,q1⟩=>ho Ψ s1 σ H1 x v Q I1 r1 q1)
def opI{g:ak->ak->ak}
 (rule:∀(i j:ak) (t u:cz) (s:ar) (Q:al->ar->Prop) (E:al->ar->Prop),C i j->Q (.int (g i j) s.toks) {s with toks:=s.toks+1}->ϑ (ay X.prog X.w) X.A (f (.int i t) (.int j u)) Q E s) :
  OpR X f (rI C λi j=>.int (g i j)):=by
 intro Ψ s σ H x y v u Q I rx ry h;obtain⟨i,j,rfl,rfl,hc,q⟩:=h;obtain⟨t,rfl⟩:=rx;obtain⟨t',rfl⟩:=ry;exact rule i j t t' s _ _ hc ⟨.int (g i j),H,I.tok _,⟨_,rfl⟩,q⟩
def aT9{g:ak->ak->ak}
 (rule:∀(i j:ak) (t u:cz) (s:ar) (Q:al->ar->Prop) (E:al->ar->Prop),Q (.int (g i j) s.toks) {s with toks:=s.toks+1}->ϑ (ay X.prog X.w) X.A (f (.int i t) (.int j u)) Q E s) :
  OpR X f (rI0 λi j=>.int (g i j)):=by
 intro Ψ s σ H x y v u Q I rx ry h;obtain⟨i,j,rfl,rfl,q⟩:=h;obtain⟨t,rfl⟩:=rx;obtain⟨t',rfl⟩:=ry;exact rule i j t t' s _ _ ⟨.int (g i j),H,I.tok _,⟨_,rfl⟩,q⟩
def aUb(i j:ak):Prop:=0<j/\j<1073741824
def aRn(i j:ak):Prop:=(-(2 ^ 64)<i/\i<2 ^ 64)\/(-(2 ^ 64)<j/\j<2 ^ 64)
def aRn.ok(h:aRn i j):IntMulOk i j:=by
 rcases h with ⟨h1,h2⟩|⟨h1,h2⟩
 .exact .of_left (xw h1 h2)
 .exact .of_right (xw h1 h2)
def aN1:OpR X (ef .Add) (rI0 λi j=>.int (i+j)):=aT9 λ_ _ _ _ _ _ _ q=>add_int q
def aN2:OpR X (ef .Sub) (rI0 λi j=>.int (i-j)):=aT9 λ_ _ _ _ _ _ _ q=>sub_int q
def aN3:OpR X (ef .Mult) (rI aRn λi j=>.int (i*j)):=opI λ_ _ _ _ _ _ _ hc q=>mul_int q hc.ok
def aIt:OpR X (ef .FloorDiv) (rI aUb λi j=>.int (i / j)):=opI λi j _ _ _ _ _ hc q=>by
 have h1:(0:ak)<j:=hc.1;have h2:j<1073741824:=hc.2;exact floordiv_int 0x1 (by rw[Int.fdiv_eq_ediv_of_nonneg i 0x1];exact q) (.inl (PyProof.noPylong_small 0x1))
def aN4:OpR X (ef .Mod) (rI (λ_ j=>0<j) λi j=>.int (i % j)):=opI λi j _ _ _ _ _ hc q=>by
 have h1:(0:ak)<j:=hc;exact mod_int' 0x1 (by rw[Int.fmod_eq_emod_of_nonneg i 0x1];exact q)
def unI{g:ak->ak}
 (rule:∀(i:ak) (t:cz) (s:ar) (Q:al->ar->Prop) (E:al->ar->Prop),Q (.int (g i) s.toks) {s with toks:=s.toks+1}->ϑ (ay X.prog X.w) X.A (f (.int i t)) Q E s) :
  UnR X f (rU λi=>.int (g i)):=by
 intro Ψ s σ H x v Q I rx h;obtain⟨i,rfl,q⟩:=h;obtain⟨t,rfl⟩:=rx;exact rule i t s _ _ ⟨.int (g i),H,I.tok _,⟨_,rfl⟩,q⟩
def aH5:UnR X (unaryOp .USub) (rU λi=>.int (-i)):=unI λ_ _ _ _ _ q=>neg_int q
end
section
variable {X:Cx} {a b c:Expr} {ta tb tc:TE} {pos:cm}
def aH6(I:Inv X Ψ σ H s)(q:Q (.bl k) H)(e:k=k'):EP X Ψ σ Q (.bool k') s:=by
 subst e;exact⟨.bl k,H,I,rfl,q⟩
def Z_:OpR X (c6 .In) (λx y H Q=>∃i j,x=.str i/\y=.str j/\Q (.bl (!(AN j i 0 j.length 1).isEmpty)) H):=by
 intro Ψ s σ H x y v u Q I rx ry h;obtain⟨i,j,rfl,rfl,q⟩:=h;obtain⟨t,rfl⟩:=rx;obtain⟨t',rfl⟩:=ry;exact in_str (aH6 I q rfl)
def aN5:OpR X (c6 .Is) (λx y H Q=>y=.non/\Q (.bl (ϒ (x=.non))) H):=by
 intro Ψ s σ H x y v u Q I rx ry h;obtain⟨rfl,q⟩:=h;cases ry;refine is_none_gen (aH6 I q ?_);cases x<;>first
  | (cases rx;rfl)
  | (obtain⟨t,rfl⟩:=rx;rfl)
def g8(b:Expr)(h:op≠.In:=by decide)(h2:op≠.NotIn:=by decide):ie op b=aj:=by
 have e1:(op==Az)=aj:=by cases op<;>first|rfl|exact aS rfl h
 have e2:(op==AA)=aj:=by cases op<;>first|rfl|exact aS rfl h2
 cases b<;>simp[ie,e1,e2]
def aIu(ho:OpR X (c6 op) r)(ha:PE X a ta)(hb:PE X b tb)(hm:ie op b=aj):PE X (.Compare a [op] [b] pos) (tOp r ta tb):=by
 intro Ψ s σ H Q I h;exact wpAny_Compare1 (aRl ha hb I h λv u s2 x y H2 I2 rx ry q=>ho Ψ s2 σ H2 x y v u Q I2 rx ry q) hm
noncomputable def aN6(t:TE):TT:=λσ H Q=>t σ H λx H'=>∃k,x=.bl k/\Q k H'
def aA0(ho:OpR X (c6 op) r)(ha:PE X a ta)(hb:PE X b tb)(hm:ie op b=aj):PT X (.Compare a [op] [b] pos) (aN6 (tOp r ta tb)):=by
 intro Ψ s σ H Q I h;refine AC (thn (ha Ψ s σ H _ I h) λv s1 ⟨x,H1,I1,r1,q1⟩=>thn (hb Ψ s1 σ H1 _ I1 q1) λu s2 ⟨y,H2,I2,r2,q2⟩=>
  thn (ho Ψ s2 σ H2 x y v u _ I2 r1 r2 q2) λc s3 ⟨z,H3,I3,r3,k,e,q3⟩=>?_) hm
 subst e;cases r3;exact jn ⟨H3,I3,q3⟩
noncomputable def aA1(r r':R2)(ta tb tc:TE):TE:=λσ H Q=>ta σ H λx H1=>tb σ H1 λy H2=>r x y H2 λz H3=>∃k,z=.bl k/\
 (if k=ag then tc σ H3 λw' H4=>r' y w' H4 Q else Q (.bl aj) H3)
def aE5(ho:OpR X (c6 op) r)(ho':OpR X (c6 op') r')(ha:PE X a ta)(hb:PE X b tb)(hc:PE X c tc)
 (hm:sL [op,op'] [b,c]=aj:=by with_unfolding_all rfl):PE X (.Compare a [op,op'] [b,c] pos) (aA1 r r' ta tb tc):=by
 intro Ψ s σ H Q I h;refine Compare_chain (thn (ha Ψ s σ H _ I h) λv s1 ⟨x,H1,I1,r1,q1⟩=>chain_link (thn (hb Ψ s1 σ H1 _ I1 q1) λu s2 ⟨y,H2,I2,r2,q2⟩=>
  thn (ho Ψ s2 σ H2 x y v u _ I2 r1 r2 q2) λd s3 ⟨z,H3,I3,r3,k,e,q3⟩=>?_)) hm
 subst e;cases r3;refine jn ?_;cases k with
 |false=>exact ite_ff ⟨.bl aj,H3,I3,rfl,q3⟩
 |true=>exact ite_tt (chain_last (thn (hc Ψ s3 σ H3 _ I3 q3) λw' s4 ⟨z',H4,I4,r4,q4⟩=>ho' Ψ s4 σ H4 y z' u w' Q I4 r2 r4 q4))
def aE6(ho:OpR X (c6 op) r)(ho':OpR X (c6 op') r')(ha:PE X a ta)(hb:PE X b tb)(hc:PE X c tc)
 (hm:sL [op,op'] [b,c]=aj:=by with_unfolding_all rfl):PT X (.Compare a [op,op'] [b,c] pos) (aN6 (aA1 r r' ta tb tc)):=by
 intro Ψ s σ H Q I h;refine isTrue_chain (thn (ha Ψ s σ H _ I h) λv s1 ⟨x,H1,I1,r1,q1⟩=>test_link (thn (hb Ψ s1 σ H1 _ I1 q1) λu s2 ⟨y,H2,I2,r2,q2⟩=>
  thn (ho Ψ s2 σ H2 x y v u _ I2 r1 r2 q2) λd s3 ⟨z,H3,I3,r3,k,e,q3⟩=>?_)) hm
 subst e;cases r3;refine jn ?_;cases k with
 |false=>
  obtain⟨k',e',q'⟩:=q3;cases e';exact ite_ff ⟨H3,I3,q'⟩
 |true=>
  refine ite_tt (test_last (thn (hc Ψ s3 σ H3 _ I3 q3) λw' s4 ⟨z',H4,I4,r4,q4⟩=>thn (ho' Ψ s4 σ H4 y z' u w' _ I4 r2 r4 q4) λd' s5 ⟨z2,H5,I5,r5,k2,e2,q5⟩=>?_));subst e2;cases r5;exact jn ⟨H5,I5,q5⟩
def aR0(K:aT)(x:V)(H:Hp)(k:aw):Prop:=
 match x with
 |.non=>k=aj
 |.bl b=>k=b
 |.int i=>k=(i !=0)
 |.str y=>y.length<=bd/\k=((y.length:ak)!=0)
 |.byt y=>y.size<=bd/\k=((y.size:ak)!=0)
 |.ref p=>(∃xs,SqL K H p xs/\k=!xs.isEmpty)\/(∃xs,SqT K H p xs/\k=!xs.isEmpty)\/∃kvs,H p=aa (.dK kvs)/\k=!kvs.isEmpty
 |_=>cf
def W8(r:KV kvs vs):(!vs.isEmpty)=!kvs.isEmpty:=by
 cases r<;>rfl
def BW(r:Vals xs its):(!its.toArray.isEmpty)=!xs.isEmpty:=by
 cases r<;>simp
def BX:(bd:ah)<2 ^ 63:=by rw[cy];decide
def aN7:aUa X (λx H Q=>∃k,aR0 X.K x H k/\Q k H):=by
 intro Ψ s σ H x v Q I rx h;obtain⟨k,e,q⟩:=h;have hl:=BX;have hs:bd=16777216:=cy;cases x with
 |non=>
  cases rx;have e':k=aj:=e;subst e';exact truthy_none ⟨H,I,q⟩
 |bl b=>
  cases rx;have e':k=b:=e;subst e';exact jn ⟨H,I,q⟩
 |int i=>
  obtain⟨t,rfl⟩:=rx;have e':k=(i !=0):=e;subst e';exact PySem.P.truthy_int ⟨H,I,q⟩
 |str y=>
  obtain⟨t,rfl⟩:=rx;obtain⟨hy,e'⟩:y.length<=bd/\k=((y.length:ak)!=0):=e;subst e';exact PySem.P.truthy_str 0x1 ⟨H,I.tok _,q⟩
 |byt y=>
  obtain⟨t,rfl⟩:=rx;obtain⟨hy,e'⟩:y.size<=bd/\k=((y.size:ak)!=0):=e;subst e';exact PySem.W.truthy_bytes 0x1 ⟨H,I.tok _,q⟩
 |ref p=>
  cases rx;have e':(∃xs,SqL X.K H p xs/\k=!xs.isEmpty)\/(∃xs,SqT X.K H p xs/\k=!xs.isEmpty)\/∃kvs,H p=aa (.dK kvs)/\k=!kvs.isEmpty:=e;rcases e' with ⟨xs,hx,e'⟩|⟨xs,hx,e'⟩|⟨kvs,hx,e'⟩
  .subst e';obtain⟨its,r,pl,hz⟩:=I.list hx;have hlen:=r.length;exact wpAny_truthy_list pl.isList (by simp only[b5];lia) ⟨H,I.tok _,by rw[BW r];exact q⟩
  .subst e';obtain⟨its,r,pl,hz⟩:=I.tuple hx;have hlen:=r.length;exact truthy_tuple pl (by simp only[b5];lia) ⟨H,I.tok _,by rw[BW r];exact q⟩
  .subst e';obtain⟨hz,hS,vs,r,m⟩:kvs.length<=bd/\(p==gj)=aj/\∃vs,KV kvs vs/\s.heap.DictOf (b7 X.prog X.w) p vs:=I.hok p _ hx;have hlen:kvs.length=vs.length:=jh r;exact wpAny_truthy_dict hS m 0x1 ⟨H,I.tok _,by rw[W8 r];exact q⟩
 |_=>exact(show cf from e).elim
def S_(ha:PE X a ta)(he:∀whole,sC a X.env whole=(do let v <- whole;xD a.pos;ky [v] (truthy v))) :
  PT X a (λσ H Q=>ta σ H λx H'=>∃k,aR0 X.K x H' k/\Q k H'):=by
 intro Ψ s σ H Q I h;exact isTrue_plain (thn (ha Ψ s σ H _ I h) λv s1 ⟨x,H1,I1,r1,q1⟩=>aN7 Ψ s1 σ H1 x v Q I1 r1 q1) (he _)
def W9:OpR X (ef .Add) (λx y H Q=>∃i j,x=.str i/\y=.str j/\i.length+j.length<=bd/\Q (.str (i++j)) H):=by
 intro Ψ s σ H x y v u Q I rx ry h;obtain⟨i,j,rfl,rfl,hz,q⟩:=h;obtain⟨t,rfl⟩:=rx;obtain⟨t',rfl⟩:=ry;exact add_str (λt' tk=>⟨.str (i++j),H,I.tok _,⟨_,rfl⟩,q⟩) hz
def vals1(r:Vals [x] us):∃u,us=[u]/\RelV x u:=by
 cases r with
 |cons r1 r2=>cases r2;exact⟨_,rfl,r1⟩
end
structure aIv(h:aE)(x dx C:am)(mA:Str->au al):Prop where
 obj:h.get? x=aa (ji C dx)
 ns:h.Ns1 dx mA
 ne:dx≠x
def aA2{h:aE}(n:h.Ns1 dx mA):∃od,h.get? dx=aa od/\∀name,sM name od=aa (mA name):=by
 obtain⟨o,es,ep,ho,hd,hk,_,hm⟩:=n;refine⟨o,ho,λname=>?_⟩;have e:=hm name;unfold nsFind findBy at e;rw[<-Array.find?_toList] at e;unfold sM;rw[hd];dsimp only;split
 .rename_i y q;rw[q] at e;exact c5 aa e
 .rename_i q;rw[q] at e;have a:es.toList.any (·.refKey)=aj:=by
   rw[AO];intro y hy;obtain⟨z,t,hkey⟩:=hk y (Array.mem_toList_iff.mp hy);simp[Dt,hkey]
  have a':¬es.toList.any (·.refKey)=ag:=by rw[a];exact fz
  rw[ax a'];exact c5 aa e
def aIv.look(I:aIv h x dx C mA):∃od,PySem.W.InstAt h x (ji C dx) C (aa od)/\∀name,sM name od=aa (mA name):=
 let ⟨od,ho,hl⟩:=aA2 I.ns
 ⟨od,⟨I.obj,rfl,rfl,ho⟩,hl⟩
section
variable {prog:bu} {w:bn} {A:bP} {E:al->ar->Prop} {s:ar} {K:aT} {x dx C f:am} {mA:Str->au al} {name:Str} {v:al}
def PK(X:K.In s.heap)(I:aIv s.heap x dx C mA)(hg:sN K C name=ag)(hh:xE K C=ag)
 (ha:iO K (.ref C) name=aa ai)(hv:mA name=aa v)(hv':AQ v=ag)(h:Q v {s with toks:=s.toks+1}) :
  ϑ (ay prog w) A (xI (.ref x) name expr) Q E s:=by
 obtain⟨od,J,hl⟩:=I.look;exact PySem.W.get_value X J (ya hg).1 (PySem.W.findObj_own hh ha rfl (by rw[hl,hv])) hv' h
def aE7(X:K.In s.heap)(I:aIv s.heap x dx C mA)(hg:sN K C name=ag)
 (hf:iO K (.ref C) name=aa (aa (.ref f)))(ht:yb K (.ref f)=ag)(hv:mA name=ai)(h:Q (.ref f,[.ref x]) s) :
  ϑ (ay prog w) A (yc (.ref x) name pl) Q E s:=by
 obtain⟨od,J,hl⟩:=I.look;exact PySem.W.method_fn X J (ya hg).1 (ya hg).2 hf (ig.mp ht) (by show(sM name od).map (·.isSome)=aa aj;rw[hl,hv];rfl) h
def aIw(X:K.In s.heap)(I:aIv s.heap x dx C mA)
 (hs:iO K (.ref C) "__setattr__"=aa (aa (.builtin "object.__setattr__")))(hp:AR K C=ag)(ht:yd K C name=aa ai)(hh:xE K C=ag)
 (hw:sA mA ns)(hsz:ns.length<=bd)
 (h:∀h',aIv h' x dx C (λy=>if y=name then aa v else mA y)->di dx s.heap h'->Q () {s with heap:=h',toks:=s.toks+2}) :
  ϑ (ay prog w) A (setAttr (.ref x) name v) Q E s:=by
 obtain⟨od,J,hl⟩:=I.look;refine PySem.W.set_plain X J hs (PySem.W.osa_open X J hp ht λb=>?_);obtain⟨cd,hc,hd'⟩:=PySem.W.any_some hh;have hx:s.heap.get? x=aa ⟨.ref C,aa dx,.plain,#[]⟩:=I.obj;refine ao (az (ao (ao (wpAny_loadPart hx (ao (Du (PySem.W.looks_clsIn X hc) ?_))))));rw[hd'];refine az (ao (az (ao ?_)));refine wpAny_nsSet1 I.ns λh' hn2 hs2=>?_
 obtain⟨oD,esD,epD,hoD,hdD,hcD⟩:=hn2.count (Dv name v hw);refine ao (wpAny_lookBehind hoD (by rw[hdD];exact pastItsLine_dict (dg hcD (by rw[bz];lia))) ?_);exact az (h _ ⟨(hs2.2 _ (Ne.symm I.ne)).trans I.obj,hn2,I.ne⟩ hs2)
def aE8(X:K.In s.heap)(hm:AS K C=ag)
 (hi:iO K (.ref C) "__init__"=aa (aa (.ref f)))(hf:PySem.W.typeIn K (.ref f)=aa (.type "function"))
 (h:codeAny (ay prog w) (A.under (.builtin "type.__call__" ⟨.ref C::vs,kw⟩)) (.call (.ref f) ⟨.ref (s.heap.objs.size+1)::vs,kw⟩) (PySem.W.InitBack (s.heap.objs.size+1) R)
   {s with heap:=(s.heap.push iP).push (ji C s.heap.objs.size)}) :
  codeAny (ay prog w) A (.call (.ref C) ⟨vs,kw⟩) R s:=by
 obtain⟨hh,g,d,t,os⟩:=s;exact PySem.W.make_core (PySem.W.makes_of X hm) (PySem.W.looks_findIn X hi) (λself=>PySem.W.bind_fn X self hf) (.inl rfl) h
end
noncomputable def vJ(f:Str)(v:V):ae (Str×V)->ae (Str×V)
 |[]=>[(f,v)]
 | (g,x)::r=>if g=f then (g,v)::r else (g,x)::vJ f v r
def wX(f g:Str)(v:V):∀fs:ae (Str×V),(vJ f v fs).lookup g=if g=f then aa v else fs.lookup g
 |[]=>by
  show kz g [(f,v)]=_;by_cases h:g=f
  .have hb:(g==f)=ag:=ig.mpr h;simp only[kz,hb,aq h]
  .have hb:(g==f)=aj:=fq.mpr h;simp only[kz,hb,ax h]
 | (k,x)::r=>by
  have ih:=wX f g v r;rw[show vJ f v ((k,x)::r)=(if k=f then (k,v)::r else (k,x)::vJ f v r) from rfl];by_cases hk:k=f
  .rw[aq hk];by_cases h:g=k
   .have hb:(g==k)=ag:=ig.mpr h;simp only[kz,hb,aq (h.trans hk)]
   .have hb:(g==k)=aj:=fq.mpr h;simp only[kz,hb,ax (λe:g=f=>h (e.trans hk.symm))]
  .rw[ax hk];by_cases h:g=k
   .have hb:(g==k)=ag:=ig.mpr h;simp only[kz,hb,ax (λe:g=f=>hk (h.symm.trans e))]
   .have hb:(g==k)=aj:=fq.mpr h;simp only[kz,hb];exact ih
def wY(f:Str)(v:V):∀fs:ae (Str×V),f∈(vJ f v fs).map (·.1)/\∀g,g∈fs.map (·.1)->g∈(vJ f v fs).map (·.1)
 |[]=>⟨by simp[vJ],λg h=>by simp at h⟩
 | (k,x)::r=>by
  obtain⟨i1,i2⟩:=wY f v r;rw[show vJ f v ((k,x)::r)=(if k=f then (k,v)::r else (k,x)::vJ f v r) from rfl];by_cases hk:k=f
  .rw[aq hk];subst hk;exact⟨by simp,λg h=>by simpa using h⟩
  .rw[ax hk];refine⟨?_,λg h=>?_⟩
   .rw[bh];exact bX _ i1
   .rw[bh] at h ⊢;rcases bq.mp h with e|e
    .exact bq.mpr (.inl e)
    .exact bX _ (i2 g e)
def wZ(f:Str)(v:V):∀fs:ae (Str×V),(vJ f v fs).length<=fs.length+1
 |[]=>by simp[vJ]
 | (k,x)::r=>by
  have ih:=wZ f v r;rw[show vJ f v ((k,x)::r)=(if k=f then (k,v)::r else (k,x)::vJ f v r) from rfl];by_cases hk:k=f
  .rw[aq hk,bz,bz];lia
  .rw[ax hk,bz,bz];lia
def OD.some_of(r:OD (aa v) o):∃u,o=aa u/\RelV v u:=by
 cases o with
 |none=>exact(show cf from r).elim
 |some u=>exact⟨u,rfl,r⟩
def OD.none_of(r:OD ai o):o=ai:=by
 cases o with
 |none=>rfl
 |some u=>exact(show cf from r).elim
def aA3(r:RelV v u):AQ u=ag:=by
 cases v with
 |non=>cases (show u=gu from r);rfl
 |bl b=>cases (show u=lx b from r);rfl
 |int i=>obtain⟨t,e⟩:=(show ∃t,u=ng i t from r);cases e;rfl
 |str x=>obtain⟨t,e⟩:=(show ∃t,u=nh x t from r);cases e;rfl
 |byt b=>obtain⟨t,e⟩:=(show ∃t,u=Ap b t from r);cases e;rfl
 |flt b=>obtain⟨t,e⟩:=(show ∃t,u=Aq b t from r);cases e;rfl
 |ref a=>cases (show u=dv a from r);rfl
 |ty n=>cases (show u=eT n from r);rfl
section
variable {P:bu} {w:bn} {H:Hp} {h:aE} {a C dx:am} {fs:ae (Str×V)}
def PL(hok:HOk P w H h)(e:H a=aa (.ins C dx fs)):∃mA,aIv h a dx C mA/\(∀f,OD (fs.lookup f) (mA f))/\sA mA (fs.map (·.1))/\fs.length<=1000/\H dx=aa (.own a):=by
 obtain⟨d,z,ne,ob,mA,n,r,q⟩:=(show gP P w H h a (.ins C dx fs) from hok a _ e)
 exact⟨mA,⟨ob,n,ne⟩,r,q,z,d⟩
end
structure Cls(K:aT)(C:am):Prop where
 pg:sN K C ye=ag
 hd:xE K C=ag
 po:AR K C=ag
 sa:iO K (.ref C) "__setattr__"=aa (aa (.builtin "object.__setattr__"))
def Cls.get{K:aT}(c:Cls K C)(f:Str):sN K C f=ag:=c.pg
def cG(K:aT)(C:am)(f:Str):Prop:=iO K (.ref C) f=aa ai
def cG.taker{K:aT}(n:cG K C f):yd K C f=aa ai:=by
 unfold yd;rw[show iO K (.ref C) f=aa ai from n];rfl
structure Meth(K:aT)(C:am)(m:Str)(f:am):Prop where
 at_:iO K (.ref C) m=aa (aa (.ref f))
 fn:yb K (.ref f)=ag
 kp:gz K (.ref f)=ag
section
variable {X:Cx} {Ψ:ae (am×bc)} {σ:St} {H:Hp} {s:ar} {a C dx:am} {fs:ae (Str×V)} {f:Str} {v:V} {A:bP} {E:al->ar->Prop}
def W_(I:Inv X Ψ σ H s)(e:H a=aa (.ins C dx fs))(c:Cls X.K C)(n:cG X.K C f)(l:fs.lookup f=aa v)
 (h:∀u s',Inv X Ψ σ H s'->RelV v u->Q u s'):ϑ (ay X.prog X.w) A (xI (.ref a) f b) Q E s:=by
 obtain⟨mA,O,r,_,_,_⟩:=PL I.hok e;obtain⟨u,hu,ru⟩:=OD.some_of (by rw[<-l];exact r f);exact PK I.kIn O (c.get f) c.hd n hu (aA3 ru) (h u _ (I.tok _) ru)
def XC(I:Inv X Ψ σ H s)(e:H a=aa (.ins C dx fs))(c:Cls X.K C)(k:Meth X.K C m g)(l:fs.lookup m=ai)
 (h:Q (.ref g,[.ref a]) s):ϑ (ay X.prog X.w) A (yc (.ref a) m pl) Q E s:=by
 obtain⟨mA,O,r,_,_,_⟩:=PL I.hok e;have hn:mA m=ai:=OD.none_of (by rw[<-l];exact r m);exact aE7 I.kIn O (c.get m) k.at_ k.fn hn h
def XF(I:Inv X Ψ σ H s)(e:H a=aa (.ins C dx fs))(c:Cls X.K C)(n:cG X.K C f)(hl:fs.length<1000)(ry:RelV y u)
 (h:∀s',Inv X Ψ σ (upd H a (.ins C dx (vJ f y fs))) s'->Q () s'):ϑ (ay X.prog X.w) A (setAttr (.ref a) f u) Q E s:=by
 obtain⟨mA,O,r,wi,_,ho⟩:=PL I.hok e;have hz:(fs.map (·.1)).length<=bd:=by rw[br,cy];lia
 refine aIw I.kIn O c.sa c.po n.taker c.hd wi hz λh' O' sb=>h _ ?_
 have hd:∃o,h'.get? dx=aa o:=let ⟨o,_,_,e',_⟩:=O'.ns;⟨o,e'⟩
 refine I.write (by rw[e];exact True.intro) (.inr ho) (λb q hb z=>(sb.2 b hb).trans z) hd ?_;refine⟨by rw[aM O.ne];exact ho,?_,O.ne,O'.obj,_,O'.ns,λg=>?_,λg hg=>?_⟩
 .have:=wZ f y fs;lia
 .show OD ((vJ f y fs).lookup g) (if g=f then aa u else mA g);rw[wX];by_cases q:g=f
  .rw[aq q,aq q];exact ry
  .rw[ax q,ax q];exact r g
 .by_cases q:g=f
  .rw[q];exact(wY f y fs).1
  .refine(wY f y fs).2 g (wi g λz=>hg ?_);show(if g=f then aa u else mA g)=ai;rw[ax q];exact z
def Inv.made(I:Inv X Ψ σ H s):Inv X Ψ σ (upd (upd H s.heap.objs.size (.own (s.heap.objs.size+1))) (s.heap.objs.size+1) (.ins C s.heap.objs.size []))
  {s with heap:=(s.heap.push iP).push (ji C s.heap.objs.size)}:=by
 have e1:(s.heap.push iP).get? s.heap.objs.size=aa iP:=cu s.heap rfl;have e2:((s.heap.push iP).push (ji C s.heap.objs.size)).get? (s.heap.objs.size+1)=aa (ji C s.heap.objs.size):=by
  have:=cu (s.heap.push iP) (o:=ji C s.heap.objs.size) rfl;rwa [cK] at this
 have e3:(s.heap.push iP).Ns s.heap.objs.size (λ_=>ai):=⟨iP,#[],_,e1,rfl,(λe he=>aS he 0x2),λ_=>rfl⟩
 have I1:=I.laid (o:=.own (s.heap.objs.size+1)) (h':=s.heap.push iP) (t':=s.toks) (λb u q=>bS _ q) (bo _) ⟨_,e1⟩;refine I1.laid (a:=s.heap.objs.size+1) (o:=.ins C s.heap.objs.size []) (t':=s.toks) (λb u q=>bS _ q) (yf (cK _ _)) ?_;have ne:s.heap.objs.size≠s.heap.objs.size+1:=cg (ny _);refine⟨by rw[aM ne,aF],eP _,ne,e2,λ_=>ai,(Dw e3).at λo q=>bS _ q,λ_=>True.intro,λy hy=>aS rfl hy⟩
def aIx(hb:gl e f env (eval e env)=eval e env)
 (h:ϑ (ay prog w) A (eval e env) (λo s₁=>ϑ (ay prog w) A (xI o f ag) Q E s₁) E s):ϑ (ay prog w) A (eval (.Attribute e f pos) env) Q E s:=
 Attribute_any_ h (by rw[arm_eval_Attribute,hb])
end
noncomputable def TF(K:aT)(ta:TE)(f:Str):TE:=λσ H Q=>ta σ H λx H1=>∃a C dx fs v,x=.ref a/\H1 a=aa (.ins C dx fs)/\Cls K C/\cG K C f/\fs.lookup f=aa v/\Q v H1
def aMf(K:aT)(ta tv:TE)(f:Str):TS:=λD σ H=>tv σ H λy H1=>ta σ H1 λx H2=>∃a C dx fs,x=.ref a/\H2 a=aa (.ins C dx fs)/\Cls K C/\cG K C f/\fs.length<1000/\
 D.nx σ (upd H2 a (.ins C dx (vJ f y fs)))
section
variable {X:Cx} {o e value:Expr} {f:Str} {pos pos':cm} {ta tv:TE}
def jG(he:PE X e ta)(hb:gl e f X.env (eval e X.env)=eval e X.env):PE X (.Attribute e f pos) (TF X.K ta f):=by
 intro Ψ s σ H Q I h;refine aIx hb (thn (he Ψ s σ H _ I h) λu s1 ⟨x,H1,I1,rx,a,C,dx,fs,v,ex,ea,c,n,l,q⟩=>?_);subst ex;obtain rfl:u=dv a:=rx;exact W_ I1 ea c n l λu' s2 I2 ru=>⟨v,H1,I2,ru,q⟩
def jH(ha:PE X o ta)(hv:PE X value tv)(hs:en value (aa (.Attribute o f pos')) pos.line X.env=pure aj):PS X (.Assign [.Attribute o f pos'] value pos) (aMf X.K ta tv f):=by
 intro Ψ s σ H D I h;refine plainObj_wpAny_Assign_Attribute (thn (hv Ψ s σ H _ I h) λu s1 ⟨y,H1,I1,ry,q⟩=>thn (ha Ψ s1 σ H1 _ I1 q) λov s2 ⟨x,H2,I2,rx,a,C,dx,fs,ex,ea,c,n,l,q2⟩=>?_) hs;subst ex;obtain rfl:ov=dv a:=rx;exact XF I2 ea c n l ry λs3 I3=>⟨σ,_,I3,q2⟩
end
structure j0(k:ah)(A:bP):Prop where
 hd:A.handled=ai
 dp:A.depth+3*k+5<AT
 un:A.units+16*k+200<c8
def j0.mono(r:j0 k A)(h:j<=k):j0 j A:=⟨r.hd,by have:=r.dp;lia,by have:=r.un;lia⟩
def j0.deeper(r:j0 (k+1) A)(env:cv):j0 k (A.deeper env):=
 ⟨r.hd,by have:=r.dp;show A.depth+1+3*k+5<_;lia,by have:=r.un;show A.units+3+16*k+200<_;lia⟩
def XH{A:bP}:(A.under (.builtin "type.__call__" ⟨.ref C::us,kw⟩)).depth=A.depth+1:=by
 first|rfl|simp[yg,Code.weight,Code.isCreation,Code.isGuard,Code.isCaller,AU,yh,guardIds]
def XJ{A:bP}:(A.under (.builtin "type.__call__" ⟨.ref C::us,kw⟩)).units=A.units+1:=by
 first|rfl|simp[yg,Code.cUnits,AU,yh]
def j0.make(r:j0 (k+1) A)(C:am)(us:ae al)(kw:ae (Str×al)):j0 k (A.under (.builtin "type.__call__" ⟨.ref C::us,kw⟩)):=
 ⟨r.hd,by have:=r.dp;rw[XH];lia,by have:=r.un;rw[XJ];lia⟩
def j0.depth(r:j0 k A):A.depth<AT:=by have:=r.dp;lia
def j0.units(r:j0 k A):A.units+64<c8:=by have:=r.un;lia
noncomputable def xF:TA:=λ_ H Q=>Q [] H
noncomputable def dM(ta:TE)(tr:TA):TA:=λσ H Q=>ta σ H λx H1=>tr σ H1 λxs H2=>Q (x::xs) H2
section
variable {X:Cx} {e:Expr} {es:ae Expr} {te:TE} {t:TA} {pos:cm}
def dY:PA X [] xF:=λ_ _ _ _ H Q I h=>kA ⟨[],H,I,.nil,h⟩
def b8(ha:PE X e te)(hr:PA X es t)(hs:zSE X e es:=by rfl):PA X (e::es) (dM te t):=by
 intro pos Ψ s σ H Q I h;rw[hs];show ϑ _ _ (jj ((aj,eval e X.env)::gw pos (cw es X.env))) _ _ s;refine kG (thn (ha Ψ s σ H _ I h) λu s1 ⟨x,H1,I1,r1,q1⟩=>?_);exact thn (hr pos Ψ s1 σ H1 _ I1 q1) λus s2 ⟨xs,H2,I2,r2,q2⟩=>⟨x::xs,H2,I2,.cons r1 r2,q2⟩
def aTa(t:TA):TE:=λσ H Q=>t σ H λxs H1=>xs.length<=bd/\∀p,H1 p=ai->Q (.ref p) (upd H1 p (.tup xs))
def aN8(t:TA):TE:=λσ H Q=>t σ H λxs H1=>xs.length<=bd/\∀p,H1 p=ai->Q (.ref p) (upd H1 p (.lst xs))
def aH7{x1}(h:PA X es t):PE X (.Tuple es x1 pos) (aTa t):=by
 intro Ψ s σ H Q I hq;refine wpAny_Tuple_spliced (thn (h pos Ψ s σ H _ I hq) λus s1 ⟨xs,H1,I1,r,z,q⟩=>⟨by rw[<-r.length];exact z,?_⟩);have hf:H1 s1.heap.objs.size=ai:=I1.hok.fresh (bo _);refine⟨.ref s1.heap.objs.size,upd H1 s1.heap.objs.size (.tup xs),I1.laid (λb u e=>bS _ e) (bo _) ?_,rfl,q _ hf⟩;exact⟨z,us,r,⟨_,cu _ rfl,rfl,_,rfl⟩⟩
def xG(h:PA X es t):PE X (.List es pos) (aN8 t):=by
 intro Ψ s σ H Q I hq;refine wpAny_List_spliced (thn (h pos Ψ s σ H _ I hq) λus s1 ⟨xs,H1,I1,r,z,q⟩=>⟨by rw[<-r.length];exact z,?_⟩);have hf:H1 s1.heap.objs.size=ai:=I1.hok.fresh (bo _);refine⟨.ref s1.heap.objs.size,upd H1 s1.heap.objs.size (.lst xs),I1.laid (λb u e=>bS _ e) (bo _) ?_,rfl,q _ hf⟩;exact⟨z,us,0,r,cu _ rfl⟩
end
abbrev Sp:=ae V->Hp->VK->XK->Prop
abbrev CXT:=ae cv->Hp->ar->XK->al->ar->Prop
structure aIy(P:bu)(w:bn)(K:aT)(mg:Str->au al)(base:aE)(A:bP)(outer:ae cv)(s:ar)(H:Hp):Prop where
 frames:A.frames=aa outer
 mod:Mod K mg base
 bs:∀b o,base.get? b=aa o->s.heap.get? b=aa o/\H b=ai
 bsz:base.objs.size<=s.heap.objs.size
 W4:s.heap.FunFrames base outer
 frf:∀b∈frs outer,H b=ai
 hok:HOk P w H s.heap
 bare:ib s.gens
def CE(outer:ae cv)(P:bu)(w:bn)(H:Hp)(s:ar)(Q:VK)(u:al)(s':ar):Prop:=
 ∃v H',s'.os=s.os/\ib s'.gens/\Un (frs outer) [] H H' s.heap s'.heap/\HOk P w H' s'.heap/\RelV v u/\Q v H'
def CR(CX:CXT)(outer:ae cv)(P:bu)(w:bn)(H:Hp)(s:ar)(Q:VK)(E:XK)(r:Result)(s':ar):Prop:=
 match r with
 |.ok (.ret u)=>CE outer P w H s Q u s'
 |.ok _=>cf
 |.error e=>CX outer H s E e s'
structure j4(P:bu)(w:bn)(K:aT)(mg:Str->au al)(base:aE)(CX:CXT)(k:ah)(f:am)(fd:dm)(ps:ae Str)(sp:Sp):Prop where
 len:∀vs H Q E,sp vs H Q E->vs.length=ps.length
 run:∀(A:bP)(outer:ae cv)(s:ar)(H:Hp)(args:Args)(us:ae al)(vs:ae V)(Q:VK)(E:XK),j0 k A->aIy P w K mg base A outer s H->kH s fd args (ps.zip us)->Vals vs us->sp vs H Q E->
  codeAny (ay P w) A (.call (.ref f) args) (CR CX outer P w H s Q E) s
def aIy.make{K:aT}{base:aE}{A:bP}{outer:ae cv}{s:ar}{H:Hp}(e:aIy P w K mg base A outer s H)(C:am)(us:ae al)(kw:ae (Str×al)) :
  aIy P w K mg base (A.under (.builtin "type.__call__" ⟨.ref C::us,kw⟩)) outer s H:=⟨by first|exact e.frames|(simpa[yg,Code.envs,yh,pushEnvs] using e.frames),e.mod,e.bs,e.bsz,e.W4,e.frf,e.hok,e.bare⟩
section
variable {X:Cx} {Ψ:ae (am×bc)} {σ:St} {H:Hp} {s s':ar}
def Inv.env0(I:Inv X Ψ σ H s):aIy X.prog X.w X.K X.mg X.base X.A X.stack s H:=
 ⟨I.ok.frames,I.ok.mod,I.bs,dg I.ok.bsz I.sz,I.stack,I.O_,I.hok,I.bare⟩
def Inv.after(I:Inv X Ψ σ H s)(h:CE X.stack X.prog X.w H s Q u s'):EP X Ψ σ Q u s':=by
 obtain⟨v,H',os,bare,un,hok,r,q⟩:=h;obtain⟨hh,g,d,t,os'⟩:=s';obtain rfl:os'=s.os:=os;exact⟨v,H',I.call un hok bare (λb z=>aS z 0x2),r,q⟩
end
noncomputable def aRo(sp:Sp)(dvs:ae V)(E:XK)(t:TA):TE:=λσ H Q=>t σ H λvs H1=>sp (vs++dvs) H1 Q E
noncomputable def XM(C:am)(m:Str)(sp:Sp)(dvs:ae V)(E:XK)(ta:TE)(t:TA):TE:=λσ H Q=>ta σ H λx H1=>∃a dx fs,x=.ref a/\H1 a=aa (.ins C dx fs)/\fs.lookup m=ai/\
 t σ H1 λvs H2=>sp (x::(vs++dvs)) H2 Q E
def aRp(C:am)(sp:Sp)(dvs:ae V)(E:XK)(t:TA):TE:=λσ H Q=>t σ H λvs H1=>∀x dx,H1 x=ai->H1 dx=ai->dx≠x->
 sp (.ref x::(vs++dvs)) (upd (upd H1 dx (.own x)) x (.ins C dx [])) (λv H2=>v=.non/\Q (.ref x) H2) E
def Binds(K:aT)(fd:dm)(ps:ae Str)(ds:ae al):Prop:=
 ∀(s:ar)(us:ae al),K.In s.heap->(us++ds).length=ps.length->kH s fd ⟨us,[]⟩ (ps.zip (us++ds))
def Binds.all{K:aT}(h:∀us:ae al,us.length=ps.length->bindArgs fd ⟨us,[]⟩=pure (ps.zip us)):Binds K fd ps []:=λs us _ hl=>by
 rw[dQ] at hl ⊢;exact .of_eq (h us hl)
def xH(CX:CXT)(X:Cx)(E:XK):Prop:=∀(Ψ:ae (am×bc))(σ:St)(H:Hp)(s:ar)(e:al)(s':ar),Inv X Ψ σ H s->CX X.stack H s E e s'->X.xe e s'
section
variable {X:Cx} {CX:CXT} {k:ah} {f C:am} {fd:dm} {ps:ae Str} {sp:Sp} {dvs:ae V} {ds:ae al} {E:XK} {x m:Str} {p pos apos:cm} {e o:Expr} {es:ae Expr} {ta:TE} {t:TA}
def aH8(F:j4 X.prog X.w X.K X.mg X.base CX k f fd ps sp)(hr:j0 k X.A)(hb:Binds X.K fd ps ds)(hd:Vals dvs ds)(hx:xH CX X E)
 (I:Inv X Ψ σ H s)(r:Vals vs us)(h:sp (vs++dvs) H Q E):ϑ (ay X.prog X.w) X.A (call (.ref f) us) (EP X Ψ σ Q) X.xe s:=by
 have r2:Vals (vs++dvs) (us++ds):=r.append hd;have hl:(us++ds).length=ps.length:=by rw[<-r2.length];exact F.len _ _ _ _ h
 refine lS (jo (F.run X.A X.stack s H ⟨us,[]⟩ (us++ds) (vs++dvs) Q E hr I.env0 (hb s us I.kIn hl) r2 h) λr s' hq=>?_);cases r with
 |error e=>exact hx Ψ σ H s e s' I hq
 |ok fl=>
  cases fl with
  |ret u=>exact I.after hq
  |next=>exact dz hq
  |brk=>exact dz hq
  |cont=>exact dz hq
def PN(F:j4 X.prog X.w X.K X.mg X.base CX k f fd ps sp)(hr:j0 k X.A)(hg:Gl X x)(hm:X.mg x=aa (.ref f))(hk:gz X.K (.ref f)=ag)(hb:Binds X.K fd ps ds)(hd:Vals dvs ds)(hx:xH CX X E)
 (ha:PA X (e::es) t)(hdb:nDb x:=by decide)(he:zSE X e es:=by rfl)(hpl:zSP X pos es:=by rfl) :
  PE X (.Call (.Name x p) (e::es) [] pos) (aRo sp dvs E t):=by
 intro Ψ s σ H Q I h;refine fR (wU I hg hm ?_ hdb);refine yi I.ok.mod.kin hk (thn (ha pos Ψ s σ H _ I h) λus s1 ⟨vs,H1,I1,r,q⟩=>⟨I1.kIn,?_⟩) he hpl;exact aH8 F hr hb hd hx I1 r q
def DX(he:PE X o ta)(c:Cls X.K C)(hm:Meth X.K C m f)(F:j4 X.prog X.w X.K X.mg X.base CX k f fd ps sp)(hr:j0 k X.A)(hb:Binds X.K fd ps ds)(hd:Vals dvs ds)(hx:xH CX X E)(ha:PA X (e::es) t)
 (hst:zSE X e es:=by rfl)(hpl:zSP X pos es:=by rfl)
 (ht:eval (.Call (.Attribute o m apos) (e::es) [] pos) X.env=(do
   let ov <- eval o X.env
   xD apos.atName
   let (f,first) <- ky [ov] (yc ov m pl)
   yj pos f first (gw pos (cw (e::es) X.env)) (backToKw pos (Au [] X.env))):=by rfl) :
  PE X (.Call (.Attribute o m apos) (e::es) [] pos) (XM C m sp dvs E ta t):=by
 intro Ψ s σ H Q I h;refine PySem.W.methodCall_KW (thn (he Ψ s σ H _ I h) λu s1 ⟨x,H1,I1,rx,a,dx,fs,ex,ea,l,q⟩=>?_) ht;subst ex;obtain rfl:u=dv a:=rx;refine XC I1 ea c hm l ?_;refine yi I.ok.mod.kin hm.kp (thn (ha pos Ψ s1 σ H1 _ I1 q) λus s2 ⟨vs,H2,I2,r,q2⟩=>⟨I2.kIn,?_⟩) hst hpl;exact aH8 (vs:=.ref a::vs) F hr hb hd hx I2 (.cons rfl r) q2
structure Mk(K:aT)(C f:am):Prop where
 makes:AS K C=ag
 init:iO K (.ref C) "__init__"=aa (aa (.ref f))
 fn:yb K (.ref f)=ag
 kp:gz K (.ref C)=ag
def aE9(M:Mk X.K C f)(F:j4 X.prog X.w X.K X.mg X.base CX k f fd ps sp)(hr:j0 (k+1) X.A)(hb:Binds X.K fd ps ds)(hd:Vals dvs ds)
 (hx:xH CX X E)(I:Inv X Ψ σ H s)(r:Vals vs us)
 (h:∀x dx,H x=ai->H dx=ai->dx≠x->sp (.ref x::(vs++dvs)) (upd (upd H dx (.own x)) x (.ins C dx [])) (λv H2=>v=.non/\Q (.ref x) H2) E) :
  ϑ (ay X.prog X.w) X.A (call (.ref C) us) (EP X Ψ σ Q) X.xe s:=by
 have hq:=h (s.heap.objs.size+1) s.heap.objs.size (I.hok.fresh (iS _)) (I.hok.fresh (bo _)) (cg (ny _));have I2:=Inv.made (C:=C) I;have r2:Vals (V.ref (s.heap.objs.size+1)::(vs++dvs)) (dv (s.heap.objs.size+1)::(us++ds)):=.cons rfl (r.append hd);have hl:(dv (s.heap.objs.size+1)::us++ds).length=ps.length:=by
  have e:=r2.length;rw[F.len _ _ _ _ hq] at e;exact e.symm
 refine lS (aE8 I.kIn M.makes M.init (ig.mp M.fn) (jo (F.run _ X.stack _ _ ⟨dv (s.heap.objs.size+1)::us,[]⟩ (dv (s.heap.objs.size+1)::(us++ds)) _ _ E (hr.make C us [])
  (I2.env0.make C us []) (hb _ (dv (s.heap.objs.size+1)::us) I2.kIn hl) r2 hq) λr s' hq'=>?_))
 cases r with
 |error e=>exact hx Ψ σ _ _ e s' I2 hq'
 |ok fl=>
  cases fl with
  |ret u=>
   obtain⟨v,H',I3,rv,ev,q3⟩:=I2.after hq';subst ev;exact⟨rv,⟨V.ref (s.heap.objs.size+1),H',I3,rfl,q3⟩⟩
  |next=>exact dz hq'
  |brk=>exact dz hq'
  |cont=>exact dz hq'
def aIz(M:Mk X.K C f)(F:j4 X.prog X.w X.K X.mg X.base CX k f fd ps sp)(hr:j0 (k+1) X.A)(hg:Gl X x)(hm:X.mg x=aa (.ref C))(hb:Binds X.K fd ps ds)(hd:Vals dvs ds)(hx:xH CX X E)
 (ha:PA X (e::es) t)(hdb:nDb x:=by decide)(he:zSE X e es:=by rfl)(hpl:zSP X pos es:=by rfl) :
  PE X (.Call (.Name x p) (e::es) [] pos) (aRp C sp dvs E t):=by
 intro Ψ s σ H Q I h;refine fR (wU I hg hm ?_ hdb);refine yi I.ok.mod.kin M.kp (thn (ha pos Ψ s σ H _ I h) λus s1 ⟨vs,H1,I1,r,q⟩=>⟨I1.kIn,?_⟩) he hpl;exact aE9 M F hr hb hd hx I1 r q
end
structure bG(N P:ae Str)(sc:eL):Prop where
 kind:sc.kind=.function
 co:sc.isCoroutine=aj
 gen:sc.isGenerator=aj
 nd:N.Nodup
 pre:N.take P.length=P
 par:∀x∈P,sc.names.lookup x=aa .local\/sc.names.lookup x=aa .cell
 nofree:∀y∈sc.names,y.2≠.free
def JX{kindOf:Str->au ii}:∀{binds:ae (Str×al)}{m:Str->au al},(∀v,(x,v)∉binds)->jp kindOf binds m x=m x
 |[],_,_=>rfl
 | (n,v)::r,m,h=>by
  unfold jp;rw[JX λw hw=>h w (bX _ hw)];split
  .have:x≠n:=by rintro rfl;exact h v bE
   simp[this]
  .rfl
def JZ{kindOf:Str->au ii}:∀{binds:ae (Str×al)}{m:Str->au al},(∀v,(x,v)∉binds)->jq kindOf binds m x=m x
 |[],_,_=>rfl
 | (n,v)::r,m,h=>by
  unfold jq;rw[JZ λw hw=>h w (bX _ hw)];split
  .rfl
  .have:x≠n:=by rintro rfl;exact h v bE
   simp[this]
def J0{kindOf:Str->au ii}:∀{P:ae Str}{vs:ae al}{i:ah}{m:Str->au al},P.Nodup->P[i]?=aa x->vs[i]?=aa v->kindOf x=aa .local->
  jp kindOf (P.zip vs) m x=aa v
 |[],_,_,_,_,h,_,_=>by simp at h
 |_::_,[],_,_,_,_,h,_=>by simp at h
 |p::P,w::vs,0,m,nd,h1,h2,hk=>by
  simp at h1 h2;subst h1;subst h2;show jp kindOf ((p,w)::P.zip vs) m p=_;unfold jp;rw[JX λv hv=>(eg.mp nd).1 (yk hv).1,aq hk];simp
 |p::P,w::vs,i+1,m,nd,h1,h2,hk=>by
  show jp kindOf ((p,w)::P.zip vs) m x=_;unfold jp;exact J0 (eg.mp nd).2 (by simpa using h1) (by simpa using h2) hk
def J1{kindOf:Str->au ii}:∀{P:ae Str}{vs:ae al}{i:ah}{m:Str->au al},P.Nodup->P[i]?=aa x->vs[i]?=aa v->kindOf x≠aa .local->
  jq kindOf (P.zip vs) m x=aa v
 |[],_,_,_,_,h,_,_=>by simp at h
 |_::_,[],_,_,_,_,h,_=>by simp at h
 |p::P,w::vs,0,m,nd,h1,h2,hk=>by
  simp at h1 h2;subst h1;subst h2;show jq kindOf ((p,w)::P.zip vs) m p=_;unfold jq;rw[JZ λv hv=>(eg.mp nd).1 (yk hv).1,ax hk];simp
 |p::P,w::vs,i+1,m,nd,h1,h2,hk=>by
  show jq kindOf ((p,w)::P.zip vs) m x=_;unfold jq;exact J1 (eg.mp nd).2 (by simpa using h1) (by simpa using h2) hk
noncomputable def start(N:ae Str)(vs:ae V):St:=vs.map aa++bi (N.length-vs.length) ai
noncomputable def xJ(CX:CXT)(P:bu)(w:bn)(K:aT)(mg:Str->au al)(base:aE)(N:ae Str)(qual:Str)(scope:eL)(f:am)(cd:al)(A:bP)(outer:ae cv)(s:ar)(H:Hp)(E:XK):Cx where
 prog:=P
 w:=w
 K:=K
 mg:=mg
 base:=base
 A:=A.deeper (du qual scope s.heap.objs.size f cd)
 N:=N
 s₀:=s
 H₀:=H
 env:=du qual scope s.heap.objs.size f cd
 outer:=outer
 stack:=du qual scope s.heap.objs.size f cd::outer
 ex:=[]
 calm:=ag
 fn:=λ_=>ag
 pn:=[]
 xe:=λe s'=>ϑ (ay P w) (A.deeper (du qual scope s.heap.objs.size f cd)) (leaving (du qual scope s.heap.objs.size f cd) e) (λ_ s''=>CX outer H s E e s'') (λe' s''=>CX outer H s E e' s'') s'
def TJ{sc:eL}(h:sc.names.lookup x=aa .cell):∃c,(ym n sc.names []).lookup x=aa c:=by
 have q:=AV sc.names n [] (.inl h);exact Option.isSome_iff_exists.mp q
def aA4{CX:CXT}{P:bu}{w:bn}{K:aT}{mg:Str->au al}{base:aE}{N ps:ae Str}{qual:Str}{scope:eL}{f:am}{cd:al}{A:bP}{outer:ae cv}{s s1:ar}{H:Hp}{E:XK}{us:ae al}{vs:ae V}
 (S:bG N ps scope)(hd:A.handled=ai)(e0:aIy P w K mg base A outer s H)(hl:vs.length=ps.length)(r:Vals vs us)
 (x:InCallC s s.heap.objs.size (jp (du qual scope s.heap.objs.size f cd).kindOf (ps.zip us) λ_=>ai) (ym (s.heap.objs.size+1) scope.names []) (jq (du qual scope s.heap.objs.size f cd).kindOf (ps.zip us) λ_=>ai) s1) :
  Inv (xJ CX P w K mg base N qual scope f cd A outer s H E) [] (start N vs) H s1:=by
 have hpl:ps.length<=N.length:=by have:=c5 yn S.pre;rw[nB] at this;lia
 obtain⟨h1,tk,rfl,hk⟩:=x.done;have noA:∀b:am,b∉(xJ CX P w K mg base N qual scope f cd A outer s H E).ex:=λb z=>aS (show b∈([]:ae am) from z) 0x2
 refine⟨⟨e0.mod,S.kind,rfl,rfl,bo _,λy z c h1 h2=>?_,λy hy=>?_,λy c _ h=>?_,λ_=>hd,Around.frames_deeper e0.frames,.inr ⟨rfl,rfl⟩,λb z=>aS z (noA b),e0.bs,e0.bsz,λb _ _=>noA b,λb z=>aS z (noA b),e0.W4,e0.frf⟩,
  rfl,e0.bare,Un.kept hk,⟨_,x.toInCall.ns,λi y v h1 h2 h3=>?_⟩,λy c h=>⟨_,x.cell y c h⟩,e0.hok.fresh (bo _),λy c h=>?_,λp hp=>aS (show p∈([]:ae (am×bc)) from hp) 0x2,e0.hok.kept hk,?_⟩
 .exact name_of_addr x.apart (lT h1) (lT h2)
 .have hy:scope.names.lookup y=aa .cell\/scope.names.lookup y=aa .free:=hy;rcases hy with hy|hy
  .exact TJ hy
  .exact aS rfl (S.nofree _ (lT hy))
 .exact xu (x.above y c (lT h))
 .have hi:i<vs.length:=by
   unfold start at h2;by_cases hi:i<vs.length
   .exact hi
   .rw[dS (by simpa using hi)] at h2;rw[hI] at h2;split at h2<;>cases h2
  have ha:vs[i]?=aa v:=by
   unfold start at h2;rw[d4 (by simpa using hi),iX] at h2;cases e:vs[i]? with
   |none=>rw[e] at h2;cases h2
   |some a=>rw[e] at h2;cases h2;rfl
  obtain⟨u,hu,rv⟩:=r.get ha;have hp:ps[i]?=aa y:=by
   rw[<-S.pre,List.getElem?_take_of_lt 0x1];exact h1
  have ndP:ps.Nodup:=by rw[<-S.pre];exact S.nd.sublist (List.take_sublist _ _)
  refine⟨u,rv,?_⟩;rcases S.par y (l6 hp) with k|k
  .exact .inl ⟨k,J0 ndP hp hu k⟩
  .obtain⟨c,e⟩:=TJ k;refine .inr ⟨.inl k,c,e,?_⟩;have q:=x.cell y c e;rw[J1 ndP hp hu (by show scope.names.lookup y≠_;rw[k];decide)] at q;exact q
 .exact e0.hok.fresh (xu (x.above y c (lT h)))
 .unfold start;show _=N.length;rw[b6,br,nE];lia
def aEa{w:bn}{K:aT}{mg:Str->au al}{base:aE}{k:ah}{f:am}{name qual:Str}{params:Arguments}{body:ae bp}{scope:eL}{dV kV doc pm cdv ct oc:al}{an od:au am}
 {osl:aI (au al)}{N ps:ae Str}{sp:Sp}(lk:K.lookup f=aa ⟨oc,od,.func (kK name qual params body scope dV kV doc pm an cdv ct),osl⟩)(hcd:sP K cdv qual=ag)(S:bG N ps scope)
 (len:∀vs H Q E,sp vs H Q E->vs.length=ps.length)
 (hbody:∀(A:bP) (outer:ae cv) (s:ar) (H:Hp) (vs:ae V) (Q:VK) (E:XK),j0 k (A.deeper (du qual scope s.heap.objs.size f cdv))->sp vs H Q E->
   ∃t,PSs (xJ CX P w K mg base N qual scope f cdv A outer s H E) body t/\t {nx:=λ_ H'=>Q .non H',rt:=Q} (start N vs) H) :
  j4 P w K mg base CX (k+1) f (kK name qual params body scope dV kV doc pm an cdv ct) ps sp:=by
 refine⟨len,λA outer s H args us vs Q E hr e0 hb r hsp=>?_⟩;have hl:=len _ _ _ _ hsp;have KX:K.In s.heap:=e0.mod.kin.keeps λb o e=>(e0.bs b o e).1
 have lim:s.heap.NoLimit:=e0.mod.nolimit.keeps λb o e=>(e0.bs b o e).1
 have hkind:∀y∈ps.zip us,scope.names.lookup y.1=aa .local\/(scope.names.lookup y.1=aa .cell/\((ym (s.heap.objs.size+1) scope.names []).lookup y.1).isSome=ag):=λ⟨n,v⟩ hy=>by
  rcases S.par n (yk hy).1 with q|q
  .exact .inl q
  .exact .inr ⟨q,AV _ _ _ (.inl q)⟩
 refine codeAny_call_function hr.depth (KX _ _ lk) rfl S.co S.gen rfl (PySem.W.codeRec_of KX hcd) (hb _ _ _ _ ?_);refine wpAny_newFunctionEnv_cells S.kind hkind λenv he s1 x=>?_
 subst he;refine⟨lim.keeps x.toInCall.keep,codeAny_func ?_⟩;obtain⟨t,ht,hq⟩:=hbody A outer s H vs Q E (hr.deeper _) hsp;have I:Inv (xJ CX P w K mg base N qual scope f cdv A outer s H E) [] (start N vs) H s1:=aA4 S hr.hd e0 hl r x;refine eM (ht [] s1 (start N vs) H _ I hq) (λfl s' hs=>?_) λe s' hs=>hs
 have fin:∀{σ':St}{H':Hp}{v:V}{u:al},Inv (xJ CX P w K mg base N qual scope f cdv A outer s H E) [] σ' H' s'->RelV v u->Q v H'->CE outer P w H s Q u s':=
  λ{σ' H' v u} J rv q=>⟨v,H',J.os,J.bare,J.base,J.hok,rv,q⟩
 cases fl with
 |ret u=>
  obtain⟨v,σ',H',J,rv,q⟩:=hs;exact fin J rv q
 |next=>
  obtain⟨σ',H',J,q⟩:=hs;exact fin (v:=V.non) J rfl q
 |brk=>
  obtain⟨_,_,_,q⟩:=hs;exact dz q
 |cont=>
  obtain⟨_,_,_,q⟩:=hs;exact dz q
section
variable {X:Cx} {x:Str} {p pos:cm} {e:Expr} {es:ae Expr} {t:TA} {id T:fx} {r:ae V->Hp->VK->Prop}
noncomputable def tCB(r:ae V->Hp->VK->Prop)(t:TA):TE:=λσ H Q=>t σ H λvs H1=>r vs H1 Q
theorem aEb(hc:nC X (.builtin id) r)(hg:Gl X x)(hm:X.mg x=ai)(hv:eJ x=aa (.builtin id))(ha:PA X (e::es) t)(hn:x ≠ "__name__":=by decide)(hdb:nDb x:=by decide)
 (he:zSE X e es:=by rfl)(hpl:zSP X pos es:=by rfl):PE X (.Call (.Name x p) (e::es) [] pos) (tCB r t):=by
 intro Ψ s σ H Q I h;refine fR (jP I hg hm hv ?_ hn hdb);exact Dx (thn (ha pos Ψ s σ H _ I h) λus s1 ⟨vs,H1,I1,r1,q1⟩=>hc Ψ s1 σ H1 vs us Q I1 r1 q1) he hpl
def aA5(hc:nC X (.type T) r)(hg:Gl X x)(hm:X.mg x=ai)(hv:eJ x=aa (.type T))(ha:PA X (e::es) t)(hn:x ≠ "__name__":=by decide)(hdb:nDb x:=by decide)
 (he:zSE X e es:=by rfl)(hpl:zSP X pos es:=by rfl):PE X (.Call (.Name x p) (e::es) [] pos) (tCB r t):=by
 intro Ψ s σ H Q I h;refine fR (jP I hg hm hv ?_ hn hdb);exact hG (thn (ha pos Ψ s σ H _ I h) λus s1 ⟨vs,H1,I1,r1,q1⟩=>hc Ψ s1 σ H1 vs us Q I1 r1 q1) he hpl
end
end L2
namespace HT
open PySem PyProof.Rows
section
variable {prog:bu} {w:bn} {A:bP} {E:al->ar->Prop} {s:ar}
theorem aJ0(ht:ko s.heap t vs.toArray)(hb:ko s.heap b ws.toArray)(hv:vs≠[])
 (h1:ws=[]->Q (.ref t) s)(h2:ws≠[]->Q (.ref s.heap.objs.size) {s with heap:=s.heap.push {cls:=.type "tuple",data:=.seq (vs++ws).toArray}})
 (hsz:vs.length+ws.length<=bd):ϑ (ay prog w) A (ef .Add (.ref t) (.ref b)) Q E s:=by
 obtain⟨⟨cls,dd,data,sl⟩,ho,hc,n,hd⟩:=id ht;obtain⟨⟨cls2,dd2,data2,sl2⟩,ho2,hc2,n2,hd2⟩:=id hb;simp only at hc hd hc2 hd2;subst hc hd hc2 hd2;have e:vs.toArray++ws.toArray=(vs++ws).toArray:=by simp
 by_cases hw:ws=[]
 .exact sQ ⟨_,ho,rfl⟩ ⟨_,ho2,rfl⟩ yo yp yq yr (yt _ _)
   (tuple_addW1 t b vs.toArray ws.toArray n n2 dd dd2 sl sl2 (by simpa using hv) (by simp[hw])) ⟨ho,ho2,h1 hw⟩
 .refine sQ ⟨_,ho,rfl⟩ ⟨_,ho2,rfl⟩ yo yp yq yr (yt _ _)
   (tuple_addW2 t b vs.toArray ws.toArray n n2 dd dd2 sl sl2 (by simpa using hv) (by simpa using hw) (by rw[b5,b5];exact hsz)) ⟨ho,ho2,?_⟩
  rw[e];exact h2 hw
noncomputable def sIx(n d:ah):au ak->ah
 |none=>d
 |some v=>if v<0 then (v+(n:ak)).toNat else min v.toNat n
def aN9(n d:ah)(hd:d<=n)(o:au ak):sIx n d o<=n:=by
 cases o with
 |none=>exact hd
 |some v=>
  show(if v<0 then (v+(n:ak)).toNat else min v.toNat n)<=n;by_cases hv:v<0
  .rw[aq hv];lia
  .rw[ax hv];exact Nat.min_le_right _ _
def aA6(v:ak)(n d:ah):(if v<0 then max (v+(n:ak)) 0 else min v (n:ak))=((sIx n d (aa v):ah):ak):=by
 show(if v<0 then max (v+(n:ak)) 0 else min v (n:ak))=(((if v<0 then (v+(n:ak)).toNat else min v.toNat n):ah):ak);by_cases hv:v<0
 .simp only[aq hv];lia
 .simp only[ax hv];lia
def XN(lo hi:au ak)(n:ah):yu lo hi 1 (n:ak)=(((sIx n 0 lo:ah):ak),((sIx n n hi:ah):ak)):=by
 have h1:¬((1:ak)<0):=by lia
 unfold yu;simp only[h1,dw];refine Prod.ext ?_ ?_
 .cases lo with
  |none=>rfl
  |some v=>exact aA6 v n 0
 .cases hi with
  |none=>rfl
  |some v=>exact aA6 v n n
def XQ(i j:ah):sR (i:ak) (j:ak) 1=j-i:=by
 unfold sR;have h1:(1:ak) > 0:=by lia
 simp only[h1,c9,Int.ediv_one];split<;>lia
def BZ(p:i5 v o)(h:Q o s):ϑ (ay prog w) A (Dy v) Q E s:=by
 cases p with
 |none=>exact AW h
 |int i t=>exact slicePart_int h
theorem vO{lo hi:au ak}{Q:ak×ak×ah->ar->Prop}(hs:s.heap.IsSliceOf sl vl vu .none)(pl:i5 vl lo)(pu:i5 vu hi)
 (h:Q (((sIx n 0 lo:ah):ak),1,sIx n n hi-sIx n 0 lo) s):ϑ (ay prog w) A (AX (.ref sl) (pure (n:ak))) Q E s:=by
 obtain⟨os,hos,hcs,hds⟩:=id hs;unfold AX Dz;refine ao (ao (ck hos hds rfl (ao (ck hos hds rfl (ao (ck hos hds rfl (az ?_)))))));refine ao (AW ?_);show ϑ _ _ (if ((1:ak)==0)=ag then _ else _) _ _ s;rw[ax 0x4];refine ao (BZ pl (ao (BZ pu (ao (az ?_)))));show ϑ _ _ (match yu lo hi 1 (n:ak) with|(lo,hi)=>pure (lo,(1:ak),sR lo hi 1)) _ _ s;rw[XN lo hi n];show ϑ _ _ (pure (((sIx n 0 lo:ah):ak),(1:ak),sR ((sIx n 0 lo:ah):ak) ((sIx n n hi:ah):ak) 1)) _ _ s;rw[XQ];exact az h
def aEc(xs:aI al)(i k:ah):((e9 k).filterMap λ(m:ah)=>xs[((i:ak)+(m:ak)*1).toNat]?).toArray=((xs.toList.drop i).take k).toArray:=by
 have e:(λ(m:ah)=>xs[((i:ak)+(m:ak)*1).toNat]?)=λm=>xs[i+m]?:=by
  funext m
  have:((i:ak)+(m:ak)*1).toNat=i+m:=by lia
  rw[this]
 rw[e];have:=pick_run xs i k;rw[List.filterMap_map] at this;have e2:((λx=>xs[x]?) ∘ λx=>i+x)=λm=>xs[i+m]?:=rfl
 rw[e2] at this;rw[this]
theorem uI{lo hi:au ak}{Q:al->ar->Prop}(ht:ko s.heap t items)(hs:s.heap.IsSliceOf sl vl vu .none)(pl:i5 vl lo)(pu:i5 vu hi)
 (hw:¬(sIx items.size 0 lo=0/\sIx items.size items.size hi=items.size))
 (h:Q (.ref s.heap.objs.size) {s with heap:=s.heap.push {cls:=.type "tuple",data:=.seq ((items.toList.drop (sIx items.size 0 lo)).take (sIx items.size items.size hi-sIx items.size 0 lo)).toArray}})
 (hsz:items.size<=bd):ϑ (ay prog w) A (kL (.ref t) (.ref sl)) Q E s:=by
 have htake:sizeOk (.seq ((items.toList.drop (sIx items.size 0 lo)).take (sIx items.size items.size hi-sIx items.size 0 lo)).toArray):=by
  show((items.toList.drop (sIx items.size 0 lo)).take (sIx items.size items.size hi-sIx items.size 0 lo)).toArray.size<=bd;rw[b5,nB,s_,ly];lia
 have hj:sIx items.size items.size hi<=items.size:=aN9 _ _ (bo _) hi;obtain⟨os,hos,hcs,hds⟩:=id hs;have hTs:s.TypeIs (.ref sl) "slice":=⟨os,hos,hcs⟩
 unfold kL
 try with_reducible refine dE ?_
 first|refine ao (az ?_)|skip
 refine ao (wpAny_sequenceKey ht.typeIs 0x4 ?_);refine ao (ik ht.typeIs nI
  (i6 nI ht.typeIs entry_tuple_getitem ?_ (args_tuple_getitem _ _)))
 show ϑ _ _ (yw (.ref t) >>= _) _ _ s;refine ao (yx ht ?_);refine ao (io hTs ?_);rw[aq 0x4];refine ao (vO hs pl pu ?_);have hno:¬((((sIx items.size 0 lo:ah):ak)==0&&(1:ak)==1&&(sIx items.size items.size hi-sIx items.size 0 lo)==items.size)=ag):=by
  intro q;rw[ba,ba] at q;have q1:((sIx items.size 0 lo:ah):ak)=0:=eq_of_beq q.1.1;have q2:sIx items.size items.size hi-sIx items.size 0 lo=items.size:=eq_of_beq q.2;exact hw ⟨by lia,by lia⟩
 show ϑ _ _ (if (((sIx items.size 0 lo:ah):ak)==0&&(1:ak)==1&&(sIx items.size items.size hi-sIx items.size 0 lo)==items.size)=ag then _ else _) _ _ s;rw[ax hno,aEc]
 first
  |exact ao (i7 (az ⟨_,rfl,az h⟩) htake)
  |exact ao (i7 (ao (az (az ⟨_,rfl,az h⟩))) htake)
  |exact ao (ao (i7 (az (az ⟨_,rfl,az h⟩)) htake))
  |exact ao (ao (i7 (az ⟨_,rfl,az h⟩) htake))
end
end HT
namespace L2
open PySem PySem.Spec PyProof.Rows
abbrev TO:=St->Hp->(au ak->Hp->Prop)->Prop
def PO(X:Cx)(e:au Expr)(t:TO):Prop:=
 ∀(Ψ:ae (am×bc))(s:ar)(σ:St)(H:Hp)(Q:au ak->Hp->Prop),Inv X Ψ σ H s->t σ H Q->
  ϑ (ay X.prog X.w) X.A (evalPart e X.env) (λu s'=>∃o H',Inv X Ψ σ H' s'/\i5 u o/\Q o H') X.xe s
noncomputable def aJ1:TO:=λ_ H Q=>Q ai H
noncomputable def aRq(t:TE):TO:=λσ H Q=>t σ H λx H1=>∃i,x=.int i/\Q (aa i) H1
section
variable {X:Cx} {e:Expr} {te:TE} {lo hi:au Expr} {tl th:TO} {pos p2:cm}
def aJ2:PO X ai aJ1:=by
 intro Ψ s σ H Q I h;rw[AY];exact az ⟨ai,H,I,.none,h⟩
def aJ3(h:PE X e te):PO X (aa e) (aRq te):=by
 intro Ψ s σ H Q I hw;rw[evalPart_some];refine thn (h Ψ s σ H _ I hw) λu s1 ⟨x,H1,I1,r1,q1⟩=>?_
 obtain⟨i,rfl,q⟩:=q1;obtain⟨t,rfl⟩:=r1;exact⟨aa i,H1,I1,.int i t,q⟩
def SlR(X:Cx)(r:V->au ak->au ak->Hp->VK->Prop):Prop:=
 ∀(Ψ:ae (am×bc))(s:ar)(σ:St)(H:Hp)(x:V)(v vl vu:al)(lo hi:au ak)(sl:am)(Q:VK),Inv X Ψ σ H s->RelV x v->s.heap.IsSliceOf sl vl vu .none->i5 vl lo->i5 vu hi->r x lo hi H Q->
  ∃T id,i8 (.type T) "__getitem__"=pure (aa (.builtin id))/\s.TypeIs v T/\ϑ (ay X.prog X.w) X.A (kL v (.ref sl)) (EP X Ψ σ Q) X.xe s
noncomputable def tSl(r:V->au ak->au ak->Hp->VK->Prop)(te:TE)(tl th:TO):TE:=λσ H Q=>te σ H λx H1=>tl σ H1 λl H2=>th σ H2 λu H3=>r x l u H3 Q
theorem aEd(hr:SlR X r)(he:PE X e te)(hl:PO X lo tl)(hu:PO X hi th):PE X (.Subscript e (.Slice lo hi ai p2) pos) (tSl r te tl th):=by
 intro Ψ s σ H Q I h;refine Subscript_ (thn (he Ψ s σ H _ I h) λv s1 ⟨x,H1,I1,r1,q1⟩=>?_);refine wpAny_Slice (thn (hl Ψ s1 σ H1 _ I1 q1) λvl s2 ⟨l,H2,I2,pl,q2⟩=>thn (hu Ψ s2 σ H2 _ I2 q2) λvu s3 ⟨u,H3,I3,pu,q3⟩=>?_);rw[AY];refine az ?_;have I4:Inv X Ψ σ H3 {s3 with heap:=s3.heap.push {cls:=.type "slice",data:=.fields #[vl,vu,.none]}}:=I3.kept λb ob q=>bS _ q
 obtain⟨T,id,hT,ht,hg⟩:=hr Ψ {s3 with heap:=s3.heap.push {cls:=.type "slice",data:=.fields #[vl,vu,.none]}} σ H3 x v vl vu l u s3.heap.objs.size Q I4 r1 (DA ..) pl pu q3;show ϑ (ay X.prog X.w) X.A (uS e (.Slice lo hi ai p2) v (.ref s3.heap.objs.size)) (EP X Ψ σ Q) X.xe {s3 with heap:=s3.heap.push {cls:=.type "slice",data:=.fields #[vl,vu,.none]}};exact tail_any ht hT hg 0x5
noncomputable def aEe(xs:ae V)(lo hi:au ak):ae V:=(xs.drop (HT.sIx xs.length 0 lo)).take (HT.sIx xs.length xs.length hi-HT.sIx xs.length 0 lo)
def xK(xs:ae V)(lo hi:au ak):(aEe xs lo hi).length<=xs.length:=by
 unfold aEe;rw[nB,s_];lia
def aUc(K:aT):V->au ak->au ak->Hp->VK->Prop:=λx lo hi H Q=>∃a xs,x=.ref a/\SqT K H a xs/\
 ¬(HT.sIx xs.length 0 lo=0/\HT.sIx xs.length xs.length hi=xs.length)/\∀p,H p=ai->Q (.ref p) (upd H p (.tup (aEe xs lo hi)))
def aNa:SlR X (aUc X.K):=by
 intro Ψ s σ H x v vl vu lo hi sl Q I rx hs pl pu h;obtain⟨a,xs,rfl,hx,hw,q⟩:=h;cases rx;obtain⟨its,r,ht,hz⟩:=I.tuple hx;have hlen:its.toArray.size=xs.length:=by rw[b5];exact r.length.symm
 refine⟨"tuple",_,nI.lookup,ht.typeIs,?_⟩;refine HT.uI ht hs pl pu (by rw[hlen];exact hw) ?_ (by rw[hlen];exact hz);rw[hlen];refine⟨.ref s.heap.objs.size,_,I.laid (λb ob q=>bS _ q) (bo _) ?_,rfl,q _ (I.hok.fresh (bo _))⟩;exact⟨dg (xK xs lo hi) hz,_,(r.drop (HT.sIx xs.length 0 lo)).take (HT.sIx xs.length xs.length hi-HT.sIx xs.length 0 lo),jF.new _ _⟩
def aRr(K:aT):R2:=λx y H Q=>∃a b xs ys,x=.ref a/\y=.ref b/\SqT K H a xs/\SqT K H b ys/\xs≠[]/\xs.length+ys.length<=bd/\
 (ys=[]->Q (.ref a) H)/\(ys≠[]->∀p,H p=ai->Q (.ref p) (upd H p (.tup (xs++ys))))
def Vals.xM(r:Vals xs us):us=[]↔xs=[]:=by
 cases r with
 |nil=>simp
 |cons _ _=>simp
def aJ4:OpR X (ef .Add) (aRr X.K):=by
 intro Ψ s σ H x y v u Q I rx ry h;obtain⟨a,b,xs,ys,rfl,rfl,ha,hb,hx,hz,q1,q2⟩:=h;cases rx;cases ry;obtain⟨its,r1,p1,_⟩:=I.tuple ha;obtain⟨its2,r2,p2,_⟩:=I.tuple hb;refine HT.aJ0 p1 p2 (λz=>hx (r1.xM.mp z)) (λz=>⟨.ref a,H,I,rfl,q1 (r2.xM.mp z)⟩) (λz=>?_) (by rw[<-r1.length,<-r2.length];exact hz);refine⟨.ref s.heap.objs.size,_,I.laid (λb ob q=>bS _ q) (bo _) ?_,rfl,q2 (λw=>z (r2.xM.mpr w)) _ (I.hok.fresh (bo _))⟩;exact⟨by rw[b6];exact hz,_,r1.append r2,jF.new _ _⟩
end
noncomputable def ixN(n:ah)(i:ak):au ah:=if 0<=i then (if i<n then aa i.toNat else ai) else if -(n:ak)<=i then aa (i+n).toNat else ai
def atI{α:Type}(xs:ae α)(i:ak):au α:=(ixN xs.length i).bind λj=>xs[j]?
def aJ5(h:ixN n i=aa j):yy i n=aa j/\j<n/\-(n:ak)<=i/\i<n:=by
 unfold ixN at h;by_cases h0:0<=i
 .rw[aq h0] at h;by_cases h1:i<n
  .rw[aq h1] at h;have e:i.toNat=j:=gi h;exact⟨by rw[AZ h0 h1,e],by lia,by lia,h1⟩
  .rw[ax h1] at h;cases h
 .rw[ax h0] at h;by_cases h1:-(n:ak)<=i
  .rw[aq h1] at h;have e:(i+n).toNat=j:=gi h;exact⟨by rw[A0 0x1 h1,e],by lia,h1,by lia⟩
  .rw[ax h1] at h;cases h
def PP(h:atI xs i=aa v):∃j,yy i xs.length=aa j/\xs[j]?=aa v/\j<xs.length/\-(xs.length:ak)<=i/\i<xs.length:=by
 unfold atI at h;cases e:ixN xs.length i with
 |none=>rw[e] at h;cases h
 |some j=>
  rw[e] at h;obtain⟨h1,h2,h3,h4⟩:=aJ5 e;exact⟨j,h1,h,h2,h3,h4⟩
def aJ6{j:ah}(h:xs[j]?=aa v):atI xs (j:ak)=aa v:=by
 have hj:j<xs.length:=(dq.mp h).1;have e:ixN xs.length (j:ak)=aa j:=by
  unfold ixN;rw[aq 0x1,aq 0x1];simp
 unfold atI;rw[e];exact h
def TQ(xs:ae α)(v:α):atI (xs++[v]) (-1)=aa v:=by
 have hl:(xs++[v]).length=xs.length+1:=by simp
 have e:ixN (xs++[v]).length (-1)=aa xs.length:=by
  unfold ixN;rw[hl,ax 0x4,aq 0x1]
  congr 1
  lia
 unfold atI;rw[e];show(xs++[v])[xs.length]?=aa v;simp
def DY(b:Expr):Prop:=∀o i,va b aj o i=yz [o,i] (kL o i)
def IxR(X:Cx)(r:R2):Prop:=
 ∀(value slice:Expr)(Ψ:ae (am×bc))(s:ar)(σ:St)(H:Hp)(x y:V)(v u:al)(Q:VK),Inv X Ψ σ H s->RelV x v->RelV y u->r x y H Q->
  va slice aj v u=yz [v,u] (kL v u)->ϑ (ay X.prog X.w) X.A (uS value slice v u) (EP X Ψ σ Q) X.xe s
def MtR(X:Cx)(id:fx)(r:V->ae V->Hp->VK->Prop):Prop:=
 ∀(Ψ:ae (am×bc))(s:ar)(σ:St)(H:Hp)(x:V)(xs:ae V)(v:al)(us:ae al)(Q:VK),Inv X Ψ σ H s->RelV x v->Vals xs us->r x xs H Q->
  ϑ (ay X.prog X.w) X.A (call (.builtin id) (v::us)) (EP X Ψ σ Q) X.xe s
section
variable {X:Cx} {a b:Expr} {ta tb:TE} {pos:cm}
def IxR.or(h:IxR X r)(h':IxR X r'):IxR X (λx y H Q=>r x y H Q\/r' x y H Q):=by
 intro value slice Ψ s σ H x y v u Q I rx ry q hs;rcases q with q|q
 .exact h value slice Ψ s σ H x y v u Q I rx ry q hs
 .exact h' value slice Ψ s σ H x y v u Q I rx ry q hs
def aA7(hr:IxR X r)(ha:PE X a ta)(hb:PE X b tb)(hs:DY b):PE X (.Subscript a b pos) (tOp r ta tb):=by
 intro Ψ s σ H Q I h;exact Subscript_ (aRl ha hb I h λv u s2 x y H2 I2 rx ry q=>hr a b Ψ s2 σ H2 x y v u Q I2 rx ry q (hs _ _))
def aNb(K:aT):R2:=λx y H Q=>∃p xs i v,x=.ref p/\y=.int i/\SqL K H p xs/\atI xs i=aa v/\Q v H
def aUd(K:aT):R2:=λx y H Q=>∃p xs i v,x=.ref p/\y=.int i/\SqT K H p xs/\atI xs i=aa v/\Q v H
def aUe:R2:=λx y H Q=>∃z i c,x=.str z/\y=.int i/\z.length<=bd/\atI z.cps.toList i=aa c/\Q (.str ⟨#[c]⟩) H
def nD:IxR X (aNb X.K):=by
 intro value slice Ψ s σ H x y v u Q I rx ry h hs;obtain⟨p,xs,i,z,rfl,rfl,hq,he,q⟩:=h;cases rx;obtain⟨t,rfl⟩:=ry;obtain⟨its,r,pl,hz⟩:=I.list hq;obtain⟨j,h1,h2,h3,h4,h5⟩:=PP he;obtain⟨w,ew,rw'⟩:=r.get h2;have hl:=r.length;have hn:=BX;have fin:EP X Ψ σ Q w s:=⟨z,H,I,rw',q⟩
 by_cases h0:0<=i
 .have hj:i.toNat=j:=by
   rw[AZ h0 h5] at h1;exact gi h1
  exact item_listR pl.isList h0 0x1 (by rw[hj];simpa using ew) fin hs
 .have hj:(i+(its.toArray.size:ak)).toNat=j:=by
   rw[A0 0x1 h4] at h1;rw[b5,<-hl];exact gi h1
  exact A1 pl.isList.typeIs A2.lookup
   (wpAny_getItem_list_neg pl.isList 0x1 (by rw[b5]<;>lia) 0x1 (by rw[hj];simpa using ew) ⟨rfl,fin⟩) hs
def aNc:IxR X (aUd X.K):=by
 intro value slice Ψ s σ H x y v u Q I rx ry h hs;obtain⟨p,xs,i,z,rfl,rfl,hq,he,q⟩:=h;cases rx;obtain⟨t,rfl⟩:=ry;obtain⟨its,r,pl,hz⟩:=I.tuple hq;obtain⟨j,h1,h2,h3,h4,h5⟩:=PP he;obtain⟨w,ew,rw'⟩:=r.get h2;have hl:=r.length;have hn:=BX;have fin:EP X Ψ σ Q w s:=⟨z,H,I,rw',q⟩
 exact A1 pl.typeIs slot_tuple_getitem.lookup
  (getItem_tuple pl 0x1 0x1 (by rw[b5,<-hl];exact h1) (by simpa using ew) ⟨rfl,fin⟩) hs
def aNd:IxR X aUe:=by
 intro value slice Ψ s σ H x y v u Q I rx ry h hs;obtain⟨z,i,c,rfl,rfl,hz,he,q⟩:=h;obtain⟨t,rfl⟩:=rx;obtain⟨t',rfl⟩:=ry;obtain⟨j,h1,h2,h3,h4,h5⟩:=PP he;have hl:z.cps.toList.length=z.length:=by simp[Str.length]
 rw[hl] at h1 h4 h5;have hn:=BX;exact tail_any (nK s z t) slot_str_getitem.lookup (getItem_str (by
  have e1:ϒ (i < -(2 ^ 63:ak))=aj:=cq 0x1;have e2:ϒ (i >= 2 ^ 63)=aj:=cq 0x1;rw[e1,e2,vb]) (by rw[h1];simpa using h2) ⟨.str ⟨#[c]⟩,H,I.tok _,⟨_,rfl⟩,q⟩) hs
def Inv.lst{Ψ:ae (am×bc)}{σ:St}{H:Hp}{s:ar}{p:am}{xs:ae V}(I:Inv X Ψ σ H s)(h:H p=aa (.lst xs)) :
  ∃(its:ae al)(n:ah),Vals xs its/\s.heap.get? p=aa {cls:=.type "list",data:=.seq its.toArray n}/\xs.length<=bd:=by
 obtain⟨z,its,n,r,e⟩:=I.hok p _ h;exact⟨its,n,r,e,z⟩
def J2(lo hi:au ak)(n:ah):(kP lo hi ai n).1=((HT.sIx n 0 lo:ah):ak)/\(kP lo hi ai n).2.1=((HT.sIx n n hi:ah):ak)/\(kP lo hi ai n).2.2=1:=by
 refine⟨?_,?_,rfl⟩
 .cases lo with
  |none=>simp[kP,HT.sIx]
  |some i=>
   simp only[kP,HT.sIx,A3,show(1:ak) > 0 by decide,c9];by_cases h:i<0
   .simp only[h,c9]<;>lia
   .simp only[h,dw]<;>lia
 .cases hi with
  |none=>simp[kP,HT.sIx]
  |some i=>
   simp only[kP,HT.sIx,A3,show(1:ak) > 0 by decide,c9];by_cases h:i<0
   .simp only[h,c9]<;>lia
   .simp only[h,dw]<;>lia
def D_(its:ae al)(lo hi:au ak):slicePick its.toArray lo hi ai=((its.drop (HT.sIx its.length 0 lo)).take (HT.sIx its.length its.length hi-HT.sIx its.length 0 lo)).toArray:=by
 obtain⟨h1,h2,h3⟩:=J2 lo hi its.toArray.size;unfold slicePick;rw[h1,h2,h3];simp only[sliceRange_one,pick_run,b5]<;>rfl
def aUf(K:aT):V->au ak->au ak->Hp->VK->Prop:=λx lo hi H Q=>∃a xs,x=.ref a/\SqL K H a xs/\∀p,H p=ai->Q (.ref p) (upd H p (.lst (aEe xs lo hi)))
def aA8:SlR X (aUf X.K):=by
 intro Ψ s σ H x v vl vu lo hi sl Q I rx hs pl pu h;obtain⟨a,xs,rfl,hx,q⟩:=h;cases rx;obtain⟨its,r,ht,hz⟩:=I.list hx;have hlen:=r.length;refine⟨"list",_,A2.lookup,ht.isList.typeIs,?_⟩;refine wpAny_getItem_list_slice ht.isList hs pl pu .none 0x2 ?_ (by rw[b5]<;>lia);rw[D_,<-hlen];refine⟨.ref s.heap.objs.size,_,I.laid (λb ob q=>bS _ q) (bo _) ?_,rfl,q _ (I.hok.fresh (bo _))⟩;exact⟨dg (xK xs lo hi) hz,_,0,(r.drop (HT.sIx xs.length 0 lo)).take (HT.sIx xs.length xs.length hi-HT.sIx xs.length 0 lo),cu _ rfl⟩
def jJ:nC X (.builtin "len") (λxs H Q=>∃p ys,xs=[.ref p]/\(SqL X.K H p ys\/SqT X.K H p ys)/\Q (.int ys.length) H):=by
 intro Ψ s σ H xs us Q I r h;obtain⟨p,ys,rfl,hq,q⟩:=h;obtain⟨u,rfl,rx⟩:=vals1 r;cases rx;have hn:=BX;rcases hq with hq|hq
 .obtain⟨its,r',pl,hz⟩:=I.list hq;have hlen:=r'.length;exact Calls.call_len_list pl.isList (by simp only[b5]<;>lia) ⟨.int ys.length,H,I.tok _,⟨s.toks+1,by rw[b5,hlen]⟩,q⟩
 .obtain⟨its,r',pl,hz⟩:=I.tuple hq;have hlen:=r'.length;exact len_tuple pl (by simp only[b5]<;>lia) ⟨.int ys.length,H,I.tok _,⟨s.toks+1,by rw[b5,hlen]⟩,q⟩
def J3:nC X (.builtin "len") (λxs H Q=>∃z,xs=[.str z]/\z.length<=bd/\Q (.int z.length) H):=by
 intro Ψ s σ H xs us Q I r h;obtain⟨z,rfl,hz,q⟩:=h;obtain⟨u,rfl,t,rfl⟩:=vals1 r;have hn:=BX;exact len_str 0x1 ⟨.int z.length,H,I.tok _,⟨_,rfl⟩,q⟩
def vK:nC X (.type "list") (λxs H Q=>∃p ys,xs=[.ref p]/\(SqL X.K H p ys\/SqT X.K H p ys)/\∀l,H l=ai->Q (.ref l) (upd H l (.lst ys))):=by
 intro Ψ s σ H xs us Q I r h;obtain⟨p,ys,rfl,hq,q⟩:=h;obtain⟨u,rfl,rx⟩:=vals1 r;cases rx;have fin:∀(its:ae al),Vals ys its->ys.length<=bd->∀(h':aE)(c':ah),(∀b o',s.heap.get? b=aa o'->h'.get? b=aa o')->
   h'.get? s.heap.objs.size=aa {cls:=.type "list",dict:=ai,data:=.seq its.toArray c',slots:=#[]}->EP X Ψ σ Q (.ref s.heap.objs.size) {s with heap:=h'}:=λits r' hz h' c' kp e=>
  ⟨.ref s.heap.objs.size,_,I.laid kp (bo _) (show gP X.prog X.w _ h' _ (.lst ys) from ⟨hz,its,c',r',e⟩),rfl,q _ (I.hok.fresh (bo _))⟩
 rcases hq with hq|hq
 .obtain⟨its,r',pl,hz⟩:=I.list hq;have hlen:=r'.length;obtain⟨o,ho,hc,n,hd⟩:=pl.isList;exact A4 p (.inl rfl) ho hc hd (λh' c' kp e=>fin its r' hz h' c' kp e) (by simp only[b5]<;>lia)
 .obtain⟨its,r',pl,hz⟩:=I.tuple hq;have hlen:=r'.length;obtain⟨o,ho,hc,n,hd⟩:=pl;exact A4 p (.inr rfl) ho hc hd (λh' c' kp e=>fin its r' hz h' c' kp e) (by simp only[b5]<;>lia)
def oG:nC X (.type "tuple") (λxs H Q=>∃p ys,xs=[.ref p]/\((SqL X.K H p ys/\∀l,H l=ai->Q (.ref l) (upd H l (.tup ys)))\/(SqT X.K H p ys/\Q (.ref p) H))):=by
 intro Ψ s σ H xs us Q I r h;obtain⟨p,ys,rfl,h⟩:=h;obtain⟨u,rfl,rx⟩:=vals1 r;cases rx;rcases h with ⟨hq,q⟩|⟨hq,q⟩
 .obtain⟨its,r',pl,hz⟩:=I.list hq;have hlen:=r'.length;refine call_tuple_list pl.isList (λh' kp=>?_) (by simp only[b5]<;>lia);have I1:Inv X Ψ σ H {s with heap:=h'}:=I.kept kp;have I2:Inv X Ψ σ (upd H h'.objs.size (.tup ys)) {s with heap:=h'.push {cls:=.type "tuple",data:=.seq its.toArray}}:=
   I1.laid (λb o e=>bS _ e) (bo _) (show gP X.prog X.w _ _ _ (.tup ys) from ⟨hz,its,r',jF.new _ _⟩)
  exact⟨.ref h'.objs.size,_,I2,rfl,q _ (I1.hok.fresh (bo _))⟩
 .obtain⟨its,r',pl,hz⟩:=I.tuple hq;exact call_tuple_same pl ⟨.ref p,H,I,rfl,q⟩
def tyV(K:aT)(T:fx)(x:V)(H:Hp):Prop:=match x with
 |.str _=>T="str"
 |.int _=>T="int"
 |.ref p=>(T="list"/\∃xs,SqL K H p xs)\/(T="tuple"/\((∃o,K.lookup p=aa o/\o.cls=.type "tuple"/\o.dict=ai)\/∃xs,H p=aa (.tup xs)))\/
   (T="dict"/\((∃kvs,H p=aa (.dK kvs))\/∃kvs,H p=aa (.dT kvs)))\/(T="set"/\∃S n,H p=aa (.set S n))
 |_=>cf
def aH9(I:Inv X Ψ σ H s)(r:RelV x v)(ty:tyV X.K T x H) :
  s.TypeIs v T/\∀a,v=.ref a->∃ob,s.heap.get? a=aa ob/\ob.dict=ai:=by
 cases x with
 |str z=>
  obtain⟨t,rfl⟩:=r;cases (show T="str" from ty);exact⟨nK s z t,λ_ e=>nomatch e⟩
 |int i=>
  obtain⟨t,rfl⟩:=r;cases (show T="int" from ty);exact⟨yA s i t,λ_ e=>nomatch e⟩
 |ref p=>
  cases r;rcases ty with ⟨rfl,xs,hq⟩|⟨rfl,⟨o,hk,hc,hd⟩|⟨xs,hk⟩⟩|⟨rfl,hk⟩|⟨rfl,S,n,hk⟩
  .obtain⟨its,_,pl,_⟩:=I.list hq;refine⟨pl.isList.typeIs,λa e=>?_⟩;cases e;obtain⟨o,n,e,c,hd,_⟩:=pl;exact⟨o,e,hd⟩
  .refine⟨⟨o,I.kIn p o hk,hc⟩,λa e=>?_⟩;cases e;exact⟨o,I.kIn _ o hk,hd⟩
  .obtain⟨_,its,_,pl⟩:=I.hok p _ hk;refine⟨(jF.tup pl).typeIs,λa e=>?_⟩;cases e;exact jF.bare pl
  .have z:∃o,s.heap.get? p=aa o/\o.ExactDict:=by
    rcases hk with ⟨kvs,hk⟩|⟨kvs,hk⟩
    .obtain⟨_,_,_,_,o,_,_,e,ex,_⟩:=I.hok p _ hk;exact⟨o,e,ex⟩
    .obtain⟨_,_,_,_,o,_,_,e,ex,_⟩:=I.hok p _ hk;exact⟨o,e,ex⟩
   obtain⟨o,e,ex⟩:=z;refine⟨⟨o,e,ex.1⟩,λa e2=>?_⟩;cases e2;exact⟨o,e,ex.2.1⟩
  .obtain⟨o,_,_,_,e,ex,_⟩:=I.hok p _ hk;refine⟨⟨o,e,ex.1⟩,λa e2=>?_⟩;cases e2;exact⟨o,e,ex.2.1⟩
 |_=>exact dz ty
noncomputable def aTb(K:aT)(T:fx)(r:V->ae V->Hp->VK->Prop)(to:TE):TE:=λσ H Q=>to σ H λx H1=>tyV K T x H1/\r x [] H1 Q
noncomputable def tBM(K:aT)(T:fx)(r:V->ae V->Hp->VK->Prop)(to:TE)(t:TA):TE:=λσ H Q=>to σ H λx H1=>tyV K T x H1/\t σ H1 λxs H2=>r x xs H2 Q
variable {o e:Expr} {es:ae Expr} {to:TE} {t:TA} {name:Str} {apos cpos:cm} {T id:fx} {r:V->ae V->Hp->VK->Prop}
theorem J4(pa:yB T)(slot:kQ T name id)(hty:nN (.builtin id)=pure (.type "method_descriptor"))(hm:MtR X id r)(ho:PE X o to)
 (hbase:gl o name X.env (eval o X.env)=eval o X.env:=by rfl)(hline:(apos.endLine==cpos.line)=ag:=by rfl):PE X (.Call (.Attribute o name apos) [] [] cpos) (aTb X.K T r to):=by
 intro Ψ s σ H Q I h;refine wpAny_Call_method0_late hbase hline (thn (ho Ψ s σ H _ I h) λv s1 ⟨x,H1,I1,r1,ty,q1⟩=>?_);obtain⟨h1,h2⟩:=aH9 I1 r1 ty;exact⟨T,id,pa,slot,hty,h1,h2,A5 rfl (PySem.evalArgs_none (hm Ψ s1 σ H1 x [] v [] Q I1 r1 .nil q1))⟩
theorem PQ(pa:yB T)(slot:kQ T name id)(hty:nN (.builtin id)=pure (.type "method_descriptor"))(hm:MtR X id r)(ho:PE X o to)(ha:PA X (e::es) t)
 (hbase:gl o name X.env (eval o X.env)=eval o X.env:=by rfl)
 (hfew:zFw X cpos (e::es):=by rfl)
 (hline:(apos.endLine==cpos.line)=ag:=by rfl)(hs:zSE X e es:=by rfl)(hplain:zSP X cpos es:=by rfl) :
  PE X (.Call (.Attribute o name apos) (e::es) [] cpos) (tBM X.K T r to t):=by
 intro Ψ s σ H Q I h;refine wpAny_Call_method_late hbase hfew hline rfl (thn (ho Ψ s σ H _ I h) λv s1 ⟨x,H1,I1,r1,ty,q1⟩=>?_);obtain⟨h1,h2⟩:=aH9 I1 r1 ty;refine⟨T,id,pa,slot,hty,h1,h2,?_⟩;have hA:=ha cpos Ψ s1 σ H1 _ I1 q1;rw[hs] at hA ⊢;refine A5 (by show(aj||(gw cpos (cw es X.env)).any (·.1))=aj;rw[hplain]<;>rfl) (A6 ?_);exact thn hA λus s2 ⟨vs,H2,I2,r2,q2⟩=>hm Ψ s2 σ H2 x vs v us Q I2 r1 r2 q2
end
def MtM(X:Cx)(id:fx)(r:V->ae V->Hp->VK->Prop):Prop:=
 ∀(Ψ:ae (am×bc))(s:ar)(σ:St)(H:Hp)(x:V)(xs:ae V)(v:al)(us:ae al)(Q:VK),Inv X Ψ σ H s->RelV x v->Vals xs us->r x xs H Q->
  ϑ (ay X.prog X.w) X.A (call (.builtin id) (v::us)) (EP X Ψ σ Q) X.xe s
def Vals.one:∀{x:V}{us:ae al},Vals [x] us->∃u,us=[u]/\RelV x u
 |_,_,.cons r .nil=>⟨_,rfl,r⟩
def Vals.zero:∀{us:ae al},Vals [] us->us=[]
 |_,.nil=>rfl
def Vals.dropLast(h:Vals xs us):Vals xs.dropLast us.dropLast:=by
 induction h with
 |nil=>exact .nil
 |cons r t ih=>
  cases t with
  |nil=>exact .nil
  |cons q t'=>exact .cons r ih
def Vals.rep(h:Vals xs us):∀k:ah,Vals (bi k xs).flatten (bi k us).flatten
 |0=>.nil
 |k+1=>by
  rw[ip,ip,nS,nS];exact Vals.append h (Vals.rep h k)
def XR(l:ae α):l.eraseIdx (l.length-1)=l.dropLast:=by
 induction l with
 |nil=>rfl
 |cons a r ih=>
  cases r with
  |nil=>rfl
  |cons b r=>
   have e:(a::b::r).length-1=((b::r).length-1)+1:=by
    have h1:(a::b::r).length=r.length+2:=rfl;have h2:(b::r).length=r.length+1:=rfl;lia
   rw[e,List.eraseIdx_cons_succ,ih]
   all_goals rfl
def foldl_rep(its:ae al):∀(k:ah)(acc:ae al),
  yT (λx1 x2=>x1++x2) acc.toArray (bi k its.toArray)=(acc++(bi k its).flatten).toArray
 |0,acc=>by simp
 |k+1,acc=>by
  have e:acc.toArray++its.toArray=(acc++its).toArray:=by simp
  have e2:(acc++its)++(bi k its).flatten=acc++(bi (k+1) its).flatten:=by
   rw[ip,nS,cr]
  rw[<-e2,<-foldl_rep its k (acc++its),<-e,ip,A7]
section
variable {X:Cx} {Ψ:ae (am×bc)} {σ:St} {H:Hp} {s:ar} {l:am} {xs ys:ae V}
def Inv.aRs{its its':ae al}(I:Inv X Ψ σ H s)(hH:H l=aa (.lst xs))
 (e:s.heap.get? l=aa {cls:=.type "list",data:=.seq its.toArray n})(hf:f its.toArray=its'.toArray)(hv:Vals ys its')(hz:ys.length<=bd) :
  Inv X Ψ σ (upd H l (.lst ys)) {s with heap:=s.heap.update l (jr f),toks:=t'}:=by
 have q:=DB e f;rw[hf] at q;refine I.write (by rw[hH];exact trivial) (.inl rfl) (λb' u hb hu=>(nV s.heap (jr f) (Ne.symm hb)).trans hu) ⟨_,q⟩ ?_;exact⟨hz,its',_,hv,q⟩
def Inv.aR1(I:Inv X Ψ σ H s)(hv:Vals ys its)(hz:ys.length<=bd) :
  Inv X Ψ σ (upd H s.heap.objs.size (.lst ys)) {s with heap:=s.heap.push {cls:=.type "list",data:=.seq its.toArray},toks:=t'}:=
 I.laid (λ_ _ q=>bS _ q) (bo _) ⟨hz,its,0,hv,cu _ rfl⟩
def Inv.fresh(I:Inv X Ψ σ H s):H s.heap.objs.size=ai:=I.hok.fresh (bo _)
def Inv.aNe(I:Inv X Ψ σ H s)(hH:H l=aa (.lst xs)):xs.length<=bd/\∃(its:ae al)(n:ah),Vals xs its/\xs.length=its.length/\s.heap.get? l=aa {cls:=.type "list",data:=.seq its.toArray n}:=by
 obtain⟨z,its,n,r,e⟩:=I.hok l _ hH;exact⟨z,its,n,r,r.length,e⟩
def TV(h:n<=bd):nX n=aj:=by
 unfold nX;exact cq 0x1
end
section
variable {X:Cx}
def EY:V->ae V->Hp->VK->Prop:=λx vs H Q=>∃l xs y,x=.ref l/\vs=[y]/\H l=aa (.lst xs)/\xs.length<bd/\Q .non (upd H l (.lst (xs++[y])))
def jQ:MtM X "list.append" EY:=by
 intro Ψ s σ H x vs v us Q I rx rv h;obtain⟨l,xs,y,rfl,rfl,hH,hz,q⟩:=h;cases rx;obtain⟨u,rfl,ru⟩:=rv.one;obtain⟨z,its,n,r,hl,e⟩:=I.aNe hH;refine gm l7 ⟨_,e,rfl⟩ F.entry_list_append (F.args_list_append_2 _ _) (PySem.list_append l its.toArray n u (by rw[b5];lia)) ⟨e,?_⟩;refine⟨.non,_,I.aRs hH e 0x2 (r.append (.cons ru .nil)) ?_,rfl,q⟩;rw[b6,eR];lia
def aJ7:V->ae V->Hp->VK->Prop:=λx vs H Q=>∃l b xs zs,x=.ref l/\vs=[.ref b]/\H l=aa (.lst xs)/\H b=aa (.lst zs)/\xs.length+zs.length<=bd/\Q .non (upd H l (.lst (xs++zs)))
def aA9:MtM X "list.extend" aJ7:=by
 intro Ψ s σ H x vs v us Q I rx rv h;obtain⟨l,b,xs,zs,rfl,rfl,hH,hB,hz,q⟩:=h;cases rx;obtain⟨u,rfl,ru⟩:=rv.one;cases ru;obtain⟨z,its,n,r,hl,e⟩:=I.aNe hH;obtain⟨z2,its2,n2,r2,hl2,e2⟩:=I.aNe hB;have hsz:its.toArray.size+its2.toArray.size<=bd:=by rw[b5,b5];lia
 have hlong:¬(!its.toArray.isEmpty&&nX (its.toArray.size+its2.toArray.size))=ag:=by
  rw[TV hsz,l8];exact fz
 refine gm A8 ⟨_,e,rfl⟩ F.entry_list_extend (F.args_list_extend_2 _ _)
  (DC l its.toArray n b its2.toArray n2 hlong (by rw[b5];lia) 0x1) ⟨e,e2,?_⟩
 refine⟨.non,_,I.aRs hH e 0x2 (r.append r2) ?_,rfl,q⟩;rw[b6];lia
def aTc:V->ae V->Hp->VK->Prop:=λx vs H Q=>∃l xs y,x=.ref l/\vs=[]/\H l=aa (.lst xs)/\xs[xs.length-1]?=aa y/\Q y (upd H l (.lst xs.dropLast))
def TX:MtM X "list.pop" aTc:=by
 intro Ψ s σ H x vs v us Q I rx rv h;obtain⟨l,xs,y,rfl,rfl,hH,hy,q⟩:=h;cases rx;have hus:=rv.zero;subst hus;obtain⟨z,its,n,r,hl,e⟩:=I.aNe hH;obtain⟨u,hu,ru⟩:=r.get hy;have hy':its.toArray[its.toArray.size-1]?=aa u:=by
  show its.toArray[its.length-1]?=aa u;rw[<-vc,<-hl];exact hu
 refine gm n4 ⟨_,e,rfl⟩ F.entry_list_pop (F.args_list_pop_1 _) (DD l its.toArray n u hy' (by rw[b5];lia)) ⟨e,?_⟩;refine⟨y,_,I.aRs hH e ?_ r.dropLast ?_,ru,q⟩
 .show its.toArray.eraseIdxIfInBounds (its.toArray.size-1)=its.dropLast.toArray;rw[b5,List.eraseIdxIfInBounds_toArray,XR]
 .rw[List.length_dropLast];lia
def aUg:R2:=λx y H Q=>∃l k xs,x=.ref l/\y=.int k/\H l=aa (.lst xs)/\-(2 ^ 63)<=k/\k<2 ^ 63/\xs.length*k.toNat<=bd/\
 ∀p,H p=ai->Q (.ref p) (upd H p (.lst (bi k.toNat xs).flatten))
def len_rep(xs:ae α)(k:ah):(bi k xs).flatten.length=k*xs.length:=by
 induction k with
 |zero=>simp
 |succ k ih=>rw[ip,nS,b6,ih,A9,Ba]
def aNf:OpR X (ef .Mult) aUg:=by
 intro Ψ s σ H x y v u Q I rx ry h;obtain⟨l,k,xs,rfl,rfl,hH,h1,h2,hz,q⟩:=h;cases rx;obtain⟨t,rfl⟩:=ry;obtain⟨z,its,n,r,hl,e⟩:=I.aNe hH;have hlen:its.toArray.size*k.toNat<=bd:=by rw[b5,<-hl];exact hz
 have hcap:¬its.toArray.size*k.toNat > (2 ^ 63-1) / 8:=by
  have:(bd:ah)<=(2 ^ 63-1) / 8:=by decide
  lia
 have hfit:¬(!Builtin.List.listFitsIndex k)=ag:=by
  rw[fitsIndex_both h1 h2];exact fz
 have hlong:¬nX (its.toArray.size*k.toNat)=ag:=by
  rw[TV hlen];exact fz
 have hnew:yT (λx1 x2=>x1++x2) #[] (bi (if its.toArray.isEmpty=ag then 0 else k.toNat) its.toArray)=(bi k.toNat its).flatten.toArray:=by
  have f0:∀m:ah,yT (λx1 x2=>x1++x2) #[] (bi m its.toArray)=(bi m its).flatten.toArray:=λm=>by
   have:=foldl_rep its m [];rw[fS] at this;exact this
  rw[f0];cases its with
  |nil=>simp
  |cons a r'=>rw[ax 0x2]
 refine wpAny_binaryOp_repeat_ref 0x4 ⟨_,e,rfl⟩ (λs'=>yA s' k t) noFill_list_mul F.fills_int_mul Bb repeat_list F.slot_int_index.lookup
  (gm Bb (yA s k t) F.entry_int_rmul (F.args_int_rmul_2 _ _) (int___rmul___int_list k t l its.toArray n)
   ⟨e,rfl,⟨_,e,rfl⟩,gm F.slot_list_mul ⟨_,e,rfl⟩ F.entry_list_mul (F.args_list_mul_2 _ _) (DE l its.toArray n k t hfit hcap hlong) ⟨e,?_⟩⟩)
 rw[hnew];exact⟨.ref _,_,I.aR1 (r.rep k.toNat) (by rw[len_rep,Nat.mul_comm];exact hz),rfl,q _ I.fresh⟩
end
section
variable {κ:Type} [dn κ]
noncomputable def vP(kvs:ae (κ×V))(k:κ):au V:=(kvs.find? λkv=>ϒ (kv.1=k)).map (·.2)
noncomputable def putK(kvs:ae (κ×V))(k:κ)(v:V):ae (κ×V):=
 if (kvs.any λkv=>ϒ (kv.1=k))=ag then kvs.map (λkv=>if kv.1=k then (kv.1,v) else kv) else kvs++[(k,v)]
def oH{k:κ}(e:p.1=k):vP (p::r) k=aa p.2:=by simp[vP,ma,e]
def oJ{k:κ}(e:¬p.1=k):vP (p::r) k=vP r k:=by simp[vP,ma,e]
def oK(k:κ):∀kvs:ae (κ×V),(kvs.any λkv=>ϒ (kv.1=k))=(vP kvs k).isSome
 |[]=>rfl
 |p::r=>by
  rw[js];by_cases e:p.1=k
  .simp only[oH e,bj e,Bc,Option.isSome_some]
  .rw[oJ e,cq e,ve];exact oK k r
def j5(kvs:ae (κ×V))(k:κ)(v:V):(putK kvs k v).length<=kvs.length+1:=by
 unfold putK;split
 .rw[br];lia
 .rw[b6,bz,iq];lia
def aEf{k:κ}(v:V)(h:vP kvs k=ai):putK kvs k v=kvs++[(k,v)]:=by
 unfold putK;rw[oK,h];exact ax 0x4
def OD.lV(r:OD o u):o.isSome=u.isSome:=by
 cases o with
 |none=>cases u with
  |none=>rfl
  |some _=>exact(show cf from r).elim
 |some _=>cases u with
  |none=>exact(show cf from r).elim
  |some _=>rfl
def KV.val(r:KV kvs vs)(k:κ):OD (vP kvs k) (md vs k):=by
 unfold KV at r;induction r with
 |nil=>exact True.intro
 |@cons p q ps qs h t ih=>
  obtain⟨h1,h2⟩:=h;by_cases e:p.1=k
  .have e':q.1=k:=h1.symm.trans e;have b:md (q::qs) k=aa q.2:=by simp[md,ma,e']
   rw[oH e,b];exact h2
  .have e':¬q.1=k:=λz=>e (h1.trans z)
   have b:md (q::qs) k=md qs k:=by simp[md,ma,e']
   rw[oJ e,b];exact ih
def KV.any(r:KV kvs vs)(k:κ):(kvs.any λkv=>ϒ (kv.1=k))=vs.any λkv=>ϒ (kv.1=k):=by
 unfold KV at r;induction r with
 |nil=>rfl
 |cons h t ih=>rw[js,js,ih,h.1]
def KV.repl(r:KV kvs vs)(k:κ)(ry:RelV y u) :
  KV (kvs.map λkv=>if kv.1=k then (kv.1,y) else kv) (vs.map λkv=>if kv.1=k then (kv.1,u) else kv):=by
 unfold KV at r ⊢;induction r with
 |nil=>exact .nil
 |@cons p q ps qs h t ih=>
  rw[bh,bh];refine .cons ?_ ih;obtain⟨h1,h2⟩:=h;by_cases e:p.1=k
  .rw[aq e,aq (h1.symm.trans e)];exact⟨h1,ry⟩
  .rw[ax e,ax (λz=>e (h1.trans z))];exact⟨h1,h2⟩
def KV.put(r:KV kvs vs)(k:κ)(ry:RelV y u):KV (putK kvs k y) (gL vs k u):=by
 unfold putK gL;rw[r.any k];by_cases e:(vs.any λkv=>ϒ (kv.1=k))=ag
 .rw[aq e,aq e];exact r.repl k ry
 .rw[ax e,ax e];exact Bd r ⟨rfl,ry⟩
def KV.length(r:KV kvs vs):kvs.length=vs.length:=jh r
end
def z7(r:RelV (kV k) u):(b7 P w).is k u=ag:=by
 cases k with
 |inl i=>obtain⟨t,e⟩:=(show ∃t,u=ng i t from r);subst e;exact O7 P w i t
 |inr x=>obtain⟨t,e⟩:=(show ∃t,u=nh x t from r);subst e;exact O8 P w x t
def J5:∀{ks:ae Key}{us:ae al},Vals (ks.map kV) us->ItemsAre (b7 P w) ks us
 |[],_,r=>by rw[i9] at r;cases r;exact .nil
 |k::ks,_,r=>by
  rw[bh] at r;cases r with
  |cons h t=>exact .cons (z7 h) (J5 t)
abbrev KT(H:Hp):ae (ae Key×V)->ae (ae Key×am×al)->Prop:=km λp q=>p.1=q.1/\H q.2.1=aa (.tup (p.1.map kV))/\RelV p.2 q.2.2
def KT.val(r:KT H kvs xs)(k:ae Key):OD (vP kvs k) ((ju xs k).map (·.2)):=by
 induction r with
 |nil=>exact True.intro
 |@cons p q ps qs h t ih=>
  obtain⟨h1,_,h2⟩:=h;by_cases e:p.1=k
  .have e':q.1=k:=h1.symm.trans e;have b:ju (q::qs) k=aa q.2:=by simp[ju,ma,e']
   rw[oH e,b];exact h2
  .have e':¬q.1=k:=λz=>e (h1.trans z)
   have b:ju (q::qs) k=ju qs k:=by simp[ju,ma,e']
   rw[oJ e,b];exact ih
def KT.repl(r:KT H kvs xs)(k:ae Key)(ry:RelV y u) :
  KT H (kvs.map λkv=>if kv.1=k then (kv.1,y) else kv) (xs.map (putAt k u)):=by
 induction r with
 |nil=>exact .nil
 |@cons p q ps qs h t ih=>
  rw[bh,bh];refine .cons ?_ ih;obtain⟨h1,h2,h3⟩:=h;unfold putAt;by_cases e:p.1=k
  .rw[aq e,aq (h1.symm.trans e)];exact⟨h1,h2,ry⟩
  .rw[ax e,ax (λz=>e (h1.trans z))];exact⟨h1,h2,h3⟩
def KT.put(r:KT H kvs xs)(k:ae Key)(hb:H b=aa (.tup (k.map kV)))(ry:RelV y u) :
  KT H (putK kvs k y) (kT xs k b u):=by
 have e:(kvs.any λkv=>ϒ (kv.1=k))=(ju xs k).isSome:=by
  rw[oK,(r.val k).lV,yY]
 unfold putK kT;rw[e];by_cases q:(ju xs k).isSome=ag
 .rw[aq q,aq q];exact r.repl k ry
 .rw[ax q,ax q];exact Bd r ⟨rfl,hb,ry⟩
def KT.keeps(r:KT H kvs xs)(ht:∀b ys,H b=aa (.tup ys)->H' b=aa (.tup ys)):KT H' kvs xs:=
 Paired.aRc r λ_ _ z=>⟨z.1,ht _ _ z.2.1,z.2.2⟩
section
variable {P:bu} {w:bn} {H:Hp} {h:aE} {a:am}
def aNg(ok:HOk P w H h)(e:Rd H a u):gP P w H h a u:=e.ok ok
def aAa(ok:HOk P w H h)(e:Rd H a (.dK kvs)):kvs.length<=bd/\(a==gj)=aj/\∃vs,KV kvs vs/\h.DictOf (b7 P w) a vs:=
 show gP P w H h a (.dK kvs) from aNg ok e
def PX(ok:HOk P w H h)(e:H a=aa (.dK kvs)):kvs.length<=bd/\(a==gj)=aj/\∃vs,KV kvs vs/\h.DictOf (b7 P w) a vs:=aAa ok (.inl e)
def B_(ok:HOk P w H h)(e:H a=aa (.tup (ks.map kV))):(gk (b7 P w)).is h ks a:=by
 obtain⟨_,its,r,o,h1,h2,n,h3⟩:=(show gP P w H h a (.tup (ks.map kV)) from ok a _ e)
 exact⟨o,its.toArray,n,h1,h2,c5 (·.1) h3,by simpa using J5 r⟩
def aAb(ok:HOk P w H h)(e:Rd H a (.dT kvs)):kvs.length<=bd/\(a==gj)=aj/\
  ∃xs,KT H kvs xs/\h.DictOfH (gk (b7 P w)) a xs:=by
 obtain⟨z,y,xs,r,o,es,ep,h1,h2,h3,h4,h5⟩:=(show gP P w H h a (.dT kvs) from aNg ok e)
 refine⟨z,y,xs,r,o,es,ep,h1,h2,h3,h4,λx hx=>?_,h5⟩;have all:∀{l:ae (ae Key×V)}{m:ae (ae Key×am×al)},KT H l m->∀x∈m,(gk (b7 P w)).is h x.1 x.2.1:=by
  intro l m q;induction q with
  |nil=>intro x hx;exact nomatch hx
  |@cons p q ps qs hq t ih=>
   intro x hx;rcases bq.mp hx with e|hx
   .subst e;exact B_ ok (by rw[<-hq.1];exact hq.2.1)
   .exact ih x hx
 exact all r x hx
def aNh(ok:HOk P w H h)(e:H a=aa (.dT kvs)):kvs.length<=bd/\(a==gj)=aj/\
  ∃xs,KT H kvs xs/\h.DictOfH (gk (b7 P w)) a xs:=aAb ok (.inl e)
end
def ZR(H:Hp)(a:am)(y:V)(r:au V):Prop:=
 (∃kvs k,Rd H a (.dK kvs)/\y=kV k/\r=vP kvs k)\/∃kvs k b,Rd H a (.dT kvs)/\y=.ref b/\H b=aa (.tup (k.map kV))/\r=vP kvs k
def aHa(H:Hp)(a:am)(y v:V)(H':Hp):Prop:=
 (∃kvs k,H a=aa (.dK kvs)/\y=kV k/\kvs.length<bd/\H'=upd H a (.dK (putK kvs k v)))\/
 ∃kvs k b,H a=aa (.dT kvs)/\y=.ref b/\H b=aa (.tup (k.map kV))/\kvs.length<bd/\H'=upd H a (.dT (putK kvs k v))
def ZR.k{k:Key}(e:H a=aa (.dK kvs)):ZR H a (kV k) (vP kvs k):=.inl ⟨kvs,k,.inl e,rfl,rfl⟩
def ZR.t{k:ae Key}(e:H a=aa (.dT kvs))(eb:H b=aa (.tup (k.map kV))):ZR H a (.ref b) (vP kvs k):=.inr ⟨kvs,k,b,.inl e,rfl,eb,rfl⟩
def aHa.k{k:Key}{v:V}(e:H a=aa (.dK kvs))(hl:kvs.length<bd):aHa H a (kV k) v (upd H a (.dK (putK kvs k v))):=.inl ⟨kvs,k,e,rfl,hl,rfl⟩
def aHa.t{H:Hp}{a b:am}{kvs:ae (ae Key×V)}{k:ae Key}{v:V}(e:H a=aa (.dT kvs))(eb:H b=aa (.tup (k.map kV)))(hl:kvs.length<bd) :
  aHa H a (.ref b) v (upd H a (.dT (putK kvs k v))):=.inr ⟨kvs,k,b,e,rfl,eb,hl,rfl⟩
section
variable {X:Cx} {Ψ:ae (am×bc)} {σ:St} {H:Hp} {s:ar} {a:am} {y v:V} {u r:al} {o:au V} {A:bP} {E:al->ar->Prop}
def Inv.big(I:Inv X Ψ σ H s):gj<s.heap.objs.size:=by
 have h:bt<s.heap.objs.size:=(I.mod.glob.keeps I.bk).lt;exact Nat.lt_trans 0x4 h
def aAc(hu:A.units+1<c8)(I:Inv X Ψ σ H s)(g:ZR H a y (aa v))(ry:RelV y u)(h:∀w' s',Inv X Ψ σ H s'->RelV v w'->Q w' s') :
  ϑ (ay X.prog X.w) A (kL (.ref a) u) Q E s:=by
 rcases g with ⟨kvs,k,e,ey,l⟩|⟨kvs,k,b,e,ey,eb,l⟩
 .subst ey;obtain⟨z,hd,vs,rel,dd⟩:=aAa I.hok e;obtain⟨w',hw,rw'⟩:=OD.some_of (by rw[l];exact rel.val k);exact wpAny_getItem_of (z7 ry) dd.mapOf hw (h w' _ (I.tok _) rw')
 .subst ey;cases (show u=dv b from ry);obtain⟨z,hd,xs,rel,dd⟩:=aAb I.hok e;obtain⟨w',hw,rw'⟩:=OD.some_of (by rw[l];exact rel.val k);obtain⟨p,hp,hp2⟩:=gn.mp hw;refine wpAny_getItem_heap (n9 hu) (B_ I.hok eb) dd hp ?_;rw[hp2];exact h w' _ (I.tok _) rw'
def aUh(hu:A.units+1<c8)(I:Inv X Ψ σ H s)(g:ZR H a y o)(ry:RelV y u)(h:∀s',Inv X Ψ σ H s'->Q (.bool o.isSome) s') :
  ϑ (ay X.prog X.w) A (c6 .In u (.ref a)) Q E s:=by
 rcases g with ⟨kvs,k,e,ey,l⟩|⟨kvs,k,b,e,ey,eb,l⟩
 .subst ey;obtain⟨z,hd,vs,rel,dd⟩:=aAa I.hok e;refine wpAny_in_of (z7 ry) hd dd.mapOf ?_;rw[<-(rel.val k).lV,<-l];exact h _ (I.tok _)
 .subst ey;cases (show u=dv b from ry);obtain⟨z,hd,xs,rel,dd⟩:=aAb I.hok e;refine wpAny_in_heap (n9 hu) (B_ I.hok eb) hd dd ?_;have q:=(rel.val k).lV;rw[yY] at q;rw[<-q,<-l];exact h _ (I.tok _)
def aJ8(hu:A.units+1<c8)(I:Inv X Ψ σ H s)(g:ZR H a y o)(ry:RelV y u)(h:∀s',Inv X Ψ σ H s'->Q (.bool (!o.isSome)) s') :
  ϑ (ay X.prog X.w) A (c6 .NotIn u (.ref a)) Q E s:=by
 rcases g with ⟨kvs,k,e,ey,l⟩|⟨kvs,k,b,e,ey,eb,l⟩
 .subst ey;obtain⟨z,hd,vs,rel,dd⟩:=aAa I.hok e;refine wpAny_notIn_of (z7 ry) hd dd.mapOf ?_;rw[<-(rel.val k).lV,<-l];exact h _ (I.tok _)
 .subst ey;cases (show u=dv b from ry);obtain⟨z,hd,xs,rel,dd⟩:=aAb I.hok e;refine wpAny_notIn_heap (n9 hu) (B_ I.hok eb) hd dd ?_;have q:=(rel.val k).lV;rw[yY] at q;rw[<-q,<-l];exact h _ (I.tok _)
def P_(I:Inv X Ψ σ H s)(mu:Mut (H a))(hs:di a s.heap h')(he:∃q,h'.get? a=aa q)(new:gP X.prog X.w (upd H a ob) h' a ob) :
  Inv X Ψ σ (upd H a ob) {s with heap:=h',toks:=t'}:=
 I.write mu (.inl rfl) (λb q hb z=>(hs.2 b hb).trans z) he new
def CG(z:kvs.length<=bd)(hd:(a==gj)=aj)(rel:KV kvs vs)(dd:h'.DictOf (b7 P w) a vs) :
  gP P w H' h' a (.dK kvs):=⟨z,hd,vs,rel,dd⟩
def J6(hu:A.units+1<c8)(I:Inv X Ψ σ H s)(g:aHa H a y v H')(ry:RelV y u)(rv:RelV v r)(h:∀s',Inv X Ψ σ H' s'->Q () s') :
  ϑ (ay X.prog X.w) A (setItem (.ref a) u r) Q E s:=by
 rcases g with ⟨kvs,k,e,ey,l,eH⟩|⟨kvs,k,b,e,ey,eb,l,eH⟩
 .subst ey eH;obtain⟨z,hd,vs,rel,dd⟩:=PX I.hok e;have hz:vs.length<=bd:=by rw[<-rel.length];exact z
  have hl:(putK kvs k v).length<=bd:=by have:=j5 kvs k v;lia
  refine wpAny_setItem_pairs (z7 ry) dd λh' dd' hs=>h _ ?_
  have he:∃q,h'.get? a=aa q:=let ⟨q,_,_,hq,_⟩:=dd';⟨q,hq⟩
  exact P_ I (by rw[e];exact True.intro) hs he (CG hl hd (rel.put k rv) dd')
 .subst ey eH;cases (show u=dv b from ry);obtain⟨z,hd,xs,rel,dd⟩:=aNh I.hok e;have hz:xs.length<=bd:=by rw[<-jh rel];exact z
  have hl:(putK kvs k v).length<=bd:=by have:=j5 kvs k v;lia
  refine wpAny_setItem_heap (n9 hu) (B_ I.hok eb) dd λh' dd' hs=>h _ ?_
  obtain⟨q,es,ep,hq,h2,h3,h4,_,h5⟩:=dd';refine P_ I (by rw[e];exact True.intro) hs ⟨q,hq⟩ ⟨hl,hd,_,(rel.put k eb rv).keeps λc ys ec=>?_,q,es,ep,hq,h2,h3,h4,h5⟩;rw[aM (mZ ec e (λz=>nomatch z))];exact ec
end
def QB(I:Inv X Ψ σ H s)(g:ZR H a y o):s.TypeIs (.ref a) "dict":=by
 rcases g with ⟨kvs,k,e,_,_⟩|⟨kvs,k,b,e,_,_,_⟩
 .obtain⟨_,_,vs,_,dd⟩:=aAa I.hok e;exact dd.typeIs
 .obtain⟨_,_,xs,_,dd⟩:=aAb I.hok e;exact dd.typeIs
def TY(h:aE)(hb:gj<h.objs.size):gP P w H (h.push {cls:=.type "dict",data:=.dict #[]}) h.objs.size (.dK []):=
 ⟨eP _,fq.mpr (Ne.symm (cg hb)),[],.nil,vg h⟩
def T3:TE:=λ_ H Q=>∀p,H p=ai->Q (.ref p) (upd H p (.dK []))
section
variable {X:Cx} {pos:cm}
def T4:PE X (.Dict [] [] pos) T3:=λΨ s σ H Q I h=>
 wpAny_Dict_empty ⟨.ref s.heap.objs.size,_,I.laid (λ_ _ q=>bS _ q) (bo _) (TY s.heap I.big),rfl,h _ (I.hok.fresh (bo _))⟩
end
def T5:ae (TE×TE)->St->Hp->(ae (V×V)->Hp->Prop)->Prop
 |[],_,H,Q=>Q [] H
 | (tk,tv)::r,σ,H,Q=>tk σ H λx H1=>tv σ H1 λy H2=>T5 r σ H2 λps H3=>Q ((x,y)::ps) H3
abbrev VV:ae (V×V)->ae (al×al)->Prop:=km λp q=>RelV p.1 q.1/\RelV p.2 q.2
def PPs(X:Cx)(pos:cm)(keys:ae (au Expr))(values:ae Expr)(trs:ae (TE×TE)):Prop:=
 ∀(Ψ:ae (am×bc))(s:ar)(σ:St)(H:Hp)(Q:ae (V×V)->Hp->Prop),Inv X Ψ σ H s->T5 trs σ H Q->
  ϑ (ay X.prog X.w) X.A (evalPairs (pairTrees keys values X.env pos)) (λvs s'=>∃ps H',Inv X Ψ σ H' s'/\VV ps vs/\Q ps H') X.xe s
def aAd:PPs X pos [] [] []:=λΨ s σ H Q I h=>pairTrees_nil_walk ⟨[],H,I,.nil,h⟩
def mO(hk:PE X k tk)(hv:PE X v tv)(hr:PPs X pos ks vs trs) :
  PPs X pos (aa k::ks) (v::vs) ((tk,tv)::trs):=λΨ s σ H Q I h=>
 pairTrees_cons_walk (thn (hk Ψ s σ H _ I h) λu s1 ⟨x,H1,I1,rx,q1⟩=>thn (hv Ψ s1 σ H1 _ I1 q1) λw2 s2 ⟨y,H2,I2,ry,q2⟩=>
  thn (hr Ψ s2 σ H2 _ I2 q2) λws s3 ⟨ps,H3,I3,rel,q3⟩=>⟨(x,y)::ps,H3,I3,.cons ⟨rx,ry⟩ rel,q3⟩)
def cX(kvs more:ae (Key×V)):ae (Key×V):=more.foldl (λacc kv=>putK acc kv.1 kv.2) kvs
def KV.merge:∀{more:ae (Key×V)}{rs:ae (Key×al)}{kvs:ae (Key×V)}{vs:ae (Key×al)},KV more rs->KV kvs vs->KV (cX kvs more) (ir vs rs):=by
 intro more rs kvs vs r;unfold KV at r;induction r generalizing kvs vs with
 |nil=>intro q;exact q
 |@cons p q ps qs h t ih=>
  intro r0;have e:KV (putK kvs p.1 p.2) (gL vs q.1 q.2):=by
   have:=r0.put p.1 h.2;rw[<-h.1];exact this
  exact ih e
def fU:∀(more kvs:ae (Key×V)),(cX kvs more).length<=kvs.length+more.length
 |[],kvs=>by show kvs.length<=kvs.length+0;lia
 |p::r,kvs=>by
  have h1:=fU r (putK kvs p.1 p.2);have h2:=j5 kvs p.1 p.2;show(cX (putK kvs p.1 p.2) r).length<=_;rw[bz];lia
def CJ:∀{kvs:ae (Key×V)}{ws:ae (al×al)},VV (kvs.map λkv=>(kV kv.1,kv.2)) ws->∃rs,Carries (b7 P w) ws rs/\KV kvs rs
 |[],_,r=>by rw[i9] at r;cases r;exact⟨[],True.intro,.nil⟩
 |p::kvs,_,r=>by
  rw[bh] at r;cases r with
  |@cons a b as bs h t=>
   obtain⟨rs,c,q⟩:=CJ t;obtain⟨b1,b2⟩:=b;exact⟨(p.1,b2)::rs,⟨z7 h.1,rfl,c⟩,.cons ⟨rfl,h.2⟩ q⟩
def aRt(trs:ae (TE×TE)):TE:=λσ H Q=>∀p,H p=ai->T5 trs σ (upd H p (.dK [])) λps H2=>H2 p=aa (.dK [])/\∃kvs:ae (Key×V),ps=kvs.map (λkv=>(kV kv.1,kv.2))/\kvs.length<=15/\Q (.ref p) (upd H2 p (.dK (cX [] kvs)))
def aAe(h:PPs X pos keys values trs)(hall:keys.all (·.isSome)=ag)(hl:keys.length=values.length)(h0:keys≠[])
 (h15:keys.length<=15):PE X (.Dict keys values pos) (aRt trs):=by
 intro Ψ s σ H Q I q;have hn:=I.hok.fresh (bo s.heap.objs.size);have I1:=I.laid (t':=s.toks) (λ_ _ q=>bS _ q) (bo _) (TY s.heap I.big);refine wpAny_Dict_walk (knd:=b7 X.prog X.w) hall hl h0 h15 (thn (h Ψ _ σ _ _ I1 (q _ hn)) λws s2 ⟨ps,H2,I2,rel,e,kvs,ep,lk,q2⟩=>?_);subst ep;obtain⟨rs,c,rk⟩:=CJ (P:=X.prog) (w:=X.w) rel;obtain⟨z,hd,vs0,r0,dd⟩:=PX I2.hok e;cases r0;refine⟨rs,c,dd,λh' dd' hs=>⟨.ref s.heap.objs.size,_,?_,rfl,q2⟩⟩;have hz:(cX [] kvs).length<=bd:=by
  have h1:=fU kvs [];rw[iq] at h1;rw[cy];lia
 have he:∃q,h'.get? s.heap.objs.size=aa q:=let ⟨q,_,_,hq,_⟩:=dd';⟨q,hq⟩
 exact P_ I2 (by rw[e];exact True.intro) hs he (CG hz hd (rk.merge .nil) dd')
end L2
namespace Att
open PySem PySem.W PySem.Calls PyProof.Rows
def xN:∀(ns:ae ak)(vs:ae al),WellAll P h vs (ns.map Be)->og vs ns:=by
 intro ns;induction ns with
 |nil=>
  intro vs w;rw[i9] at w;cases w;exact .nil
 |cons n ns ih=>
  intro vs w;rw[bh] at w;cases w with
  |cons a b=>
   cases a;exact .cons _ _ (ih _ b)
def aAf{l:OpenLaw}(hn:l.most=aa n)
 (hpre:l.row.toRowW.claim.pre args=ag)(hwl:WellAll P h vals args) :
  ∃a vs ns,vals=[dv a]/\args=[WData.list (ns.map Be)]/\h.get? a=aa {cls:=.type "list",data:=.seq vs.toArray}/\og vs ns/\ns.length<=n:=by
 have hsh:WShape.hasAll [] args [.list .int]=ag:=(pre_splitW hpre).1;have hc:l.pre.holds [] {args:=args}=ag:=(pre_splitW hpre).2;obtain⟨d,r,rfl,h1,h2⟩:=hasAllW_cons hsh;obtain rfl:=hasAllW_nil h2;obtain⟨xs,rfl,h3⟩:=hasW_list h1;obtain⟨ns,rfl⟩:=items_int h3;have hlen:ns.length<=n:=by
  unfold OpenLaw.pre at hc;have h4:(WTm.not (.lt (.lit (.int (n:ak))) (.len (.arg 0)))).holds [] {args:=[.list (ns.map .int)]}=ag:=by
   have h4:=(holds_andW hc).1;rw[hn] at h4;exact h4
  have h5:=condW_of h4 (w_not (w_lt w_lit (w_len_list (w_arg rfl))));rw[br] at h5;refine Nat.le_of_not_lt λq=>?_
  have q':(n:ak)<((ns.length:ah):ak):=by lia
  first
   | (rw[bj q'] at h5;exact aS h5 0x4)
   | (simp at h5;lia)
 cases hwl with
 |cons w1 w2=>
  cases w2;cases w1 with
  |list ho hall=>exact⟨_,_,ns,rfl,rfl,ho,xN ns _ hall,hlen⟩
def aAg(l:OpenLaw)(args:ae WData):l.row.toRowW.claim.post args (.bool ag) args=ag:=
 postW_of
  (show Bf [] (.bool ag) .bool=ag by first|rfl|decide|simp[Bf,WShape.arms,WShape.armsAll])
  (show(WTm.eq .res (.lit (.bool ag))).value [] {args:=args,res:=aa (.bool ag),after:=args}=aa (.bool (ag==ag)) from w_eq_bool (w_res rfl) w_lit) rfl
def QC{l:OpenLaw}
 (hn:l.most=aa n)(hdf:d.params.defaults=[])
 (call:∀(w:bn) (s₀ s₁:ar) (mg mb:Str->au al) (fa:am) (o:bc) (pm cd doc:al) (a:am) (vs:ae al) (ns:ae ak),
   Ground q loose [] XP w s₀ mg mb s₁.heap->YP w s₁.heap->
   s₁.heap.get? fa=aa o->o.data=.func (docDef d.name d.params d.body d.scope pm cd doc)->s₁.heap.CodeRec cd d.name->mg d.name=aa (.ref fa)->
   s₁.heap.get? a=aa {cls:=.type "list",data:=.seq vs.toArray}->og vs ns->ns.length<=n->s₁.gens=#[]->
   codeAny (ay l.prog w) k9 (.call (.ref fa) ⟨[.ref a],[]⟩) (λr s'=>r=.ok (.ret (.bool ag))/\OldK s₁.heap s'.heap/\s'.os=s₁.os/\ib s'.gens) s₁) :
  WalkO q loose XP YP l.row.toRowW d [] (λf vs=>y2 f vs):=by
 intro w s₀ s₁ mg mb G Y fa o pm cd doc dV kV ho hd hcd hD hmg hg args vals as hpre hlay hrd hwl hlo;obtain rfl:dV=.none:=Dflts.none hD hdf;obtain rfl:kV=.none:=Dflts.noKw hD;obtain⟨a,vs,ns,rfl,rfl,hobj,hints,hlen⟩:=aAf hn hpre hwl;refine enter_call (jo (call w s₀ s₁ mg mb fa o pm cd doc a vs ns G Y ho (fd_plain hd) hcd hmg hobj hints hlen hg) λr s' hq=>?_);obtain⟨rfl,h2,h3,h4⟩:=hq;exact⟨.inl ⟨.bool ag,.bool ag,[],rfl,λ_=>rfl,.bool ag,aAg l _,λ_=>⟨DF,λ_ hm=>(nomatch hm)⟩⟩,h2,h3,h4⟩
end Att
namespace L2
open PySem PySem.Spec PyProof.Rows
def lW:∀{vs:ae al}{ns:ae ak},og vs ns->Vals (ns.map V.int) vs
 |_,_,.nil=>.nil
 |_,_,.cons n t h=>.cons ⟨t,rfl⟩ (lW h)
def Only(H:Hp):Prop:=∀b,H b=ai\/∃o xs,H b=aa (.frz o (.lst xs))
def aEg{K:aT}{mg mb:Str->au al}{CX:CXT}{k:ah}{fa a:am}{fd:dm}{x:Str}{sp:Sp}{s₁:ar}{vs:ae al}{ns:ae ak}
 (KX:K.In s₁.heap)(hns:s₁.heap.Ns bt mg)(hb:s₁.heap.Ns xr mb)(hbb:∀x:Str,x ≠ "__name__"->mb x=eJ x)(hlim:s₁.heap.NoLimit)(hg:s₁.gens=#[])
 (ha:s₁.heap.get? a=aa {cls:=.type "list",data:=.seq vs.toArray})(hi:og vs ns)(hl:ns.length<=bd)(hr:j0 k k9)
 (F:∀base:aE,K.In base->base.Ns bt mg->j4 P w K mg base CX k fa fd [x] sp)(hbind:∀(s:ar) (u:al),kH s fd ⟨[u],[]⟩ [(x,u)])
 (hsp:∀H:Hp,Only H->SqL K H a (ns.map V.int)->sp [.ref a] H (λv _=>v=.bl ag) λ_ _ _=>cf)
 (hCX:∀H e s',CX [] H s₁ (λ_ _ _=>cf) e s'->cf) :
  codeAny (ay P w) k9 (.call (.ref fa) ⟨[.ref a],[]⟩) (λr s'=>r=.ok (.ret (.bool ag))/\OldK s₁.heap s'.heap/\s'.os=s₁.os/\ib s'.gens) s₁:=by
 have rv:=lW hi;have lenV:=hi.length
 -- from an abstract heap in which nothing but the script may be tracked
 have core:∀H:Hp,Only H->SqL K H a (ns.map V.int)->HOk P w H s₁.heap->(∀b,H b≠ai->b=a)->(H a≠ai->K.lookup a=ai)->
   codeAny (ay P w) k9 (.call (.ref fa) ⟨[.ref a],[]⟩) (λr s'=>r=.ok (.ret (.bool ag))/\OldK s₁.heap s'.heap/\s'.os=s₁.os/\ib s'.gens) s₁:=by
  intro H hO hS hok hA hK;have base_of:∀{b:am}{o:bc},s₁.heap.get? b=aa o->H b=ai->(aDz s₁.heap H).get? b=aa o:=λe n=>aE0 e n
  have noA:∀{b:am}{o:bc}{es:aI DictEntry}{ep:ah},s₁.heap.get? b=aa o->o.data=.dict es ep->H b=ai:=λ{b o es ep} e d=>by
   cases q:H b with
   |none=>rfl
   |some u=>
    have e':b=a:=hA b (by rw[q];simp);subst e';rw[ha] at e;cases e;have d':Ar vs.toArray _=Data.dict es ep:=d;cases d'
  have nsK:∀{b:am}{m:Str->au al},s₁.heap.Ns b m->(aDz s₁.heap H).Ns b m:=λ{b m} ⟨o,es,ep,e,d,r⟩=>⟨o,es,ep,base_of e (noA e d),d,r⟩
  have hKb:K.In (aDz s₁.heap H):=λb o e=>base_of (KX b o e) (by
   cases q:H b with
   |none=>rfl
   |some u=>
    have e':b=a:=hA b (by rw[q];simp);subst e';rw[hK (by rw[q];simp)] at e;cases e)
  have hM:Mod K mg (aDz s₁.heap H):=⟨hKb,nsK hns,⟨mb,nsK hb,hbb⟩,let ⟨mc,h1,h2⟩:=hlim;⟨mc,nsK h1,h2⟩⟩
  have e0:aIy P w K mg (aDz s₁.heap H) k9 [] s₁ H:=⟨rfl,hM,λb o e=>aIq e,yf (Z3 _ _),trivial,λb hb=>aS (show b∈([]:ae am) from hb) 0x2,hok,.of_eq hg⟩
  refine jo ((F _ hKb (nsK hns)).run k9 [] s₁ H ⟨[.ref a],[]⟩ [.ref a] [.ref a] _ _ hr e0 (hbind s₁ (.ref a)) (.cons rfl .nil) (hsp H hO hS)) λr s' h=>?_
  cases r with
  |error e=>exact(hCX H e s' h).elim
  |ok fl=>
   cases fl with
   |next=>exact dz h
   |brk=>exact dz h
   |cont=>exact dz h
   |ret u=>
    obtain⟨v,H',os,bare,un,hok',r',q⟩:=h;have q':v=.bl ag:=q;subst q';obtain rfl:u=lx ag:=r';refine⟨rfl,OldK.of_keep λb o e=>?_,os,bare⟩;cases q:H b with
    |none=>exact un.keep b o e q (by intro z;exact aS (show b∈([]:ae am) from z) 0x2) 0x2
    |some u=>
     rcases hO b with z|⟨ob,xs,z⟩
     .rw[q] at z;cases z
     .have z2:=un.frzs b ob _ z;obtain⟨e1,_⟩:=hok b _ z;obtain⟨e2,_⟩:=hok' b _ z2;rw[e] at e1;cases e1;exact e2
 cases hk:K.lookup a with
 |some o=>
  -- the script is one of the module's own objects
  have e:=KX a o hk;rw[ha] at e;cases e;refine core (λ_=>ai) (λ_=>.inl rfl) (.inr ⟨_,vs.toArray,_,hk,rfl,rfl,rfl,by rw[b5,lenV];exact hl,by simpa using rv⟩) (λb u z=>by have z':(ai:au HO)=aa u:=z;cases z') (λb z=>aS rfl z) λz=>aS rfl z
 |none=>
  refine core (λb=>if b=a then aa (.frz {cls:=.type "list",data:=.seq vs.toArray} (.lst (ns.map V.int))) else ai) (λb=>?_) (.inl (.inr ⟨{cls:=.type "list",data:=.seq vs.toArray},aq rfl⟩)) (λb u z=>?_) (λb z=>?_) λ_=>hk
  .by_cases hb:b=a
   .exact .inr ⟨_,_,aq hb⟩
   .exact .inl (ax hb)
  .by_cases hb:b=a
   .have z':=(aq hb).symm.trans z;cases z';subst hb;exact⟨ha,by rw[br];exact hl,vs,_,rv,ha⟩
   .have z':=(ax hb).symm.trans z;cases z'
  .by_cases hb:b=a
   .exact hb
   .exact aS (ax hb) z
def aJ9{l:PySem.W.OpenLaw}{YP:bn->aE->Prop}{d:DefRec}{K:Params->aT}{CX:bn->CXT}{sp:bn->Sp}{x:Str}
 (hn:l.most=aa n)(hn2:n<=bd)(hdf:d.params.defaults=[])(hr:j0 k k9)
 (hY:∀(w:bn) (h:aE),YP w h->(K w.params).In h)
 (F:∀(w:bn) (mg:Str->au al) (fa:am) (h:aE),(K w.params).In h->h.Ns bt mg->mg d.name=aa (.ref fa)->
   ∃fd:dm,(∀(s:ar) (u:al),kH s fd ⟨[u],[]⟩ [(x,u)])/\
    ∀base:aE,(K w.params).In base->base.Ns bt mg->j4 l.prog w (K w.params) mg base (CX w) k fa fd [x] (sp w))
 (hsp:∀(w:bn) (H:Hp) (a:am) (ns:ae ak),ns.length<=n->Only H->SqL (K w.params) H a (ns.map V.int)->sp w [.ref a] H (λv _=>v=.bl ag) λ_ _ _=>cf)
 (hCX:∀(w:bn) (H:Hp) (s:ar) (e:al) (s':ar),CX w [] H s (λ_ _ _=>cf) e s'->cf) :
  PySem.W.WalkO q loose XP YP l.row.toRowW d [] (λf vs=>y2 f vs):=by
 refine Att.QC hn hdf λw s₀ s₁ mg mb fa o pm cd doc a vs ns G Y ho hd hcd hmg hobj hints hlen hg=>?_
 have KX:=hY w _ Y;obtain⟨fd,hb,hF⟩:=F w mg fa _ KX G.T.g hmg;exact aEg KX G.T.g G.T.b G.T.builtins G.T.nolimit hg hobj hints (dg hlen hn2) hr hF hb (λH hO hS=>hsp w H a ns hlen hO hS) λH e s'=>hCX w H s₁ e s'
noncomputable def eY(s:bp):Arguments:=match s with
 |.FunctionDef _ a _ _ _ _ _ _ _ _=>a
 |_=>{posonlyargs:=[],args:=[],vararg:=ai,kwonlyargs:=[],kw_defaults:=[],kwarg:=ai,defaults:=[]}
noncomputable def cH(s:bp):ae bp:=match s with
 |.FunctionDef _ _ b _ _ _ _ _ _ _=>b
 |_=>[]
noncomputable def aH(s:bp):eL:=match s with
 |.FunctionDef _ _ _ _ _ _ sc _ _ _=>sc
 |_=>{kind:=.function,names:=[],isGenerator:=aj,isCoroutine:=aj}
noncomputable abbrev CX0:CXT:=λ_ _ _ _ _ _=>cf
noncomputable abbrev E0:XK:=λ_ _ _=>cf
def aEh:xH CX0 X E0:=λ_ _ _ _ _ _ _ h=>h.elim
structure Fun(K:aT)(x qual:Str)(st:bp)(f:am)(fd:dm):Prop where
 ex:∃(oc:al)(od:au am)(kV doc pm:al)(an:au am)(cdv ct:al)(osl:aI (au al)),
  fd=kK x qual (eY st) (cH st) (aH st) .none kV doc pm an cdv ct/\K.lookup f=aa ⟨oc,od,.func fd,osl⟩/\sP K cdv qual=ag
 kp:gz K (.ref f)=ag
section
variable {P:bu} {w:bn} {K:aT} {mg:Str->au al} {base:aE}
def Fun.ok{st:bp}{fd:dm}{N ps:ae Str}{k:ah}{sp:Sp}(F:Fun K x qual st f fd)(S:bG N ps (aH st))(len:∀vs H Q E,sp vs H Q E->vs.length=ps.length)
 (hbody:∀(cdv:al) (A:bP) (outer:ae cv) (s:ar) (H:Hp) (vs:ae V) (Q:VK) (E:XK),j0 k (A.deeper (du qual (aH st) s.heap.objs.size f cdv))->sp vs H Q E->
   ∃t,PSs (xJ CX0 P w K mg base N qual (aH st) f cdv A outer s H E).nox (cH st) t/\t {nx:=λ_ H'=>Q .non H',rt:=Q} (start N vs) H):j4 P w K mg base CX0 (k+1) f fd ps sp:=by
 obtain⟨oc,od,kV,doc,pm,an,cdv,ct,osl,rfl,lk,hcd⟩:=F.ex;refine aEa lk hcd S len λA outer s H vs Q E hr hsp=>?_
 obtain⟨t,h,q⟩:=hbody cdv A outer s H vs Q E hr hsp;exact⟨t,h.nox,q⟩
def Fun.binds{st:bp}(F:Fun K x qual st f fd)
 (h:∀(kV doc pm:al) (an:au am) (cdv ct:al) (us:ae al),us.length=ps.length->bindArgs (kK x qual (eY st) (cH st) (aH st) .none kV doc pm an cdv ct) ⟨us,[]⟩=pure (ps.zip us)):Binds K fd ps []:=by
 obtain⟨oc,od,kV,doc,pm,an,cdv,ct,osl,rfl,lk,hcd⟩:=F.ex;exact .all (h kV doc pm an cdv ct)
def iI{st:bp}{oc:al}{od an:au am}{osl:aI (au al)}{kV doc pm cdv ct:al}(l:K.lookup f=aa ⟨oc,od,.func (kK x qual (eY st) (cH st) (aH st) .none kV doc pm an cdv ct),osl⟩)
 (c:sP K cdv qual=ag)(k:gz K (.ref f)=ag):Fun K x qual st f (kK x qual (eY st) (cH st) (aH st) .none kV doc pm an cdv ct):=⟨⟨oc,od,kV,doc,pm,an,cdv,ct,osl,rfl,l,c⟩,k⟩
end
def bK(H H':Hp):Prop:=∀b o,H b=aa o->H' b=aa o
def bK.refl(H:Hp):bK H H:=λ_ _ h=>h
def bK.trans(a:bK H H1)(b:bK H1 H2):bK H H2:=λc o h=>b c o (a c o h)
def bK.free(e:bK H H')(h:H' l=ai):H l=ai:=by
 cases q:H l with
 |none=>rfl
 |some o=>
  rw[e l o q] at h;cases h
section
variable {κ:Type} [dn κ]
def aEi{kvs:ae (κ×V)}{k:κ}(h:vP kvs k=ai):¬k∈kvs.map (·.1):=by
 intro m;obtain⟨p,hp,e⟩:=cS.mp m;have q:(kvs.any λkv=>ϒ (kv.1=k))=ag:=Bg.mpr ⟨p,hp,bj e⟩;rw[oK,h] at q;exact aS q 0x2
def aAh:∀{l:ae κ}{k:κ},l.Nodup->¬k∈l->(l++[k]).Nodup
 |[],k,_,_=>by simp
 |a::r,k,h,hk=>by
  obtain⟨h1,h2⟩:=eg.mp h;show(a::(r++[k])).Nodup;refine eg.mpr ⟨λm=>?_,aAh h2 λm=>hk (bq.mpr (Or.inr m))⟩;rcases d6.mp m with q|q
  .exact h1 q
  .exact hk (bq.mpr (oh (ja.mp q).symm))
def aJa{kvs:ae (κ×V)}{k:κ}(v:V)(hn:(kvs.map (·.1)).Nodup)(h:vP kvs k=ai):((putK kvs k v).map (·.1)).Nodup:=by
 rw[aEf v h,dL];exact aAh hn (aEi h)
end
end L2
namespace Mi
open PySem
inductive D where
 |uD|non|bl (b:aw)|int (i:ak)|str (x:Str)
 |tup (xs:ae D)|lst (xs:ae D)|dct (kvs:ae (D×D))|scr (xs:ae D)|cel (a:ah) (xs:ae D)|exc (c:Str) (fs:ae (Str×Str))|ins (c:Str) (fs:ae (Str×D))
 deriving Inhabited
mutual
noncomputable def D.pure:D->aw
 |.tup xs=>D.aG xs
 |.lst _=>aj
 |.dct _=>aj
 |.uD=>aj
 |.scr xs=>D.aG xs
 |.cel _ _=>aj
 |.exc _ _=>aj
 |.ins _ _=>aj
 |_=>ag
noncomputable def D.aG:ae D->aw
 |[]=>ag
 |x::xs=>x.pure&&D.aG xs
end
mutual
noncomputable def eqD:D->D->aw
 |.non,.non=>ag
 |.bl a,.bl b=>a==b
 |.int a,.int b=>a==b
 |.bl a,.int b=>(if a then (1:ak) else 0)==b
 |.int a,.bl b=>a==(if b then (1:ak) else 0)
 |.str a,.str b=>a==b
 |.tup xs,.tup ys=>sZ xs ys
 |.lst xs,.lst ys=>sZ xs ys
 |.scr xs,.scr ys=>sZ xs ys
 |.scr xs,.lst ys=>sZ xs ys
 |.lst xs,.scr ys=>sZ xs ys
 |_,_=>aj
noncomputable def sZ:ae D->ae D->aw
 |[],[]=>ag
 |x::xs,y::ys=>eqD x y&&sZ xs ys
 |_,_=>aj
end
theorem aNi(a b:ak):eqD (.int a) (.int b)=(a==b):=id rfl
theorem oM(a b:Str):eqD (.str a) (.str b)=(a==b):=id rfl
theorem aNj(a:ak)(b:Str):eqD (.int a) (.str b)=aj:=id rfl
theorem aNk(a:Str)(b:ak):eqD (.str a) (.int b)=aj:=id rfl
theorem aNl(a b:ae D):eqD (.tup a) (.tup b)=sZ a b:=id rfl
mutual
noncomputable def D.iG:ah->D->aw
 |n+1,.tup xs=>D.cJ n xs
 |n+1,.lst xs=>D.cJ n xs
 |n+1,.scr xs=>D.cJ n xs
 |0,.tup _=>aj
 |0,.lst _=>aj
 |0,.scr _=>aj
 |_,.dct _=>aj
 |_,.uD=>aj
 |_,.cel _ _=>aj
 |_,.exc _ _=>aj
 |_,.ins _ _=>aj
 |_,_=>ag
noncomputable def D.cJ:ah->ae D->aw
 |_,[]=>ag
 |n,x::xs=>D.iG n x&&D.cJ n xs
end
inductive zZ where|lt|le|gt|ge
 deriving dn
noncomputable def zZ.int:zZ->ak->ak->aw
 |.lt,a,b=>ϒ (a<b)|.le,a,b=>ϒ (a<=b)|.gt,a,b=>ϒ (b<a)|.ge,a,b=>ϒ (b<=a)
noncomputable def zZ.nat:zZ->ah->ah->aw
 |.lt,a,b=>ϒ (a<b)|.le,a,b=>ϒ (a<=b)|.gt,a,b=>ϒ (b<a)|.ge,a,b=>ϒ (b<=a)
noncomputable def aEj(a b:Str):aw:=ϒ (a.cps.toList<b.cps.toList)
def zZ.str:zZ->Str->Str->aw
 |.lt,a,b=>aEj a b|.le,a,b=>!aEj b a|.gt,a,b=>aEj b a|.ge,a,b=>!aEj a b
mutual
noncomputable def aTd(o:zZ):D->D->au aw
 |.int a,.int b=>aa (o.int a b)
 |.str a,.str b=>aa (o.str a b)
 |.tup xs,.tup ys=>aEk o xs ys
 |.scr xs,.scr ys=>aEk o xs ys
 |.lst xs,.scr ys=>aEk o xs ys
 |_,_=>ai
noncomputable def aEk(o:zZ):ae D->ae D->au aw
 |[],ys=>aa (o.nat 0 ys.length)
 |x::xs,[]=>aa (o.nat (x::xs).length 0)
 |x::xs,y::ys=>if eqD x y then aEk o xs ys else aTd o x y
end
inductive Res(α:Type) where
 |ok (a:α)|err (c:Str) (as:ae D)|bad
noncomputable def Res.bind{α β:Type}:Res α->(α->Res β)->Res β
 |.ok a,f=>f a
 |.err c as,_=>.err c as
 |.bad,_=>.bad
noncomputable instance:Monad Res where
 pure:=.ok
 bind:=Res.bind
@[simp] theorem Res.aP(a:α)(f:α->Res β):((Res.ok a) >>= f)=f a:=rfl
@[simp] theorem Res.aR2(c:Str)(as:ae D)(f:α->Res β):((Res.err c as:Res α) >>= f)=.err c as:=rfl
@[simp] theorem Res.aR3(f:α->Res β):((Res.bad:Res α) >>= f)=.bad:=rfl
@[simp] theorem Res.pure_eq(a:α):(pure a:Res α)=.ok a:=rfl
def Res.aJb{f:α->Res β}(h:(m >>= f)=.ok b):∃a,m=.ok a/\f a=.ok b:=by
 cases m with
 |ok a=>exact⟨a,rfl,h⟩
 |err c as=>cases h
 |bad=>cases h
def bx{P:Prop}(h:(Res.bad:Res α)=.ok d):P:=by cases h
def fx0{P:Prop}(h:aj=ag):P:=by cases h
noncomputable def Res.ofOpt{α:Type}:au α->Res α
 |some a=>.ok a
 |none=>.bad
@[simp] theorem Res.aMg(a:α):Res.ofOpt (aa a)=.ok a:=rfl
def Res.j6(h:Res.ofOpt o=.ok a):o=aa a:=by
 cases o with
 |none=>cases h
 |some b=>cases h;rfl
noncomputable def lim:ah:=1000000
inductive Bop where|add|sub|mul|fdiv|mod|pow
 deriving dn
inductive Cop where|eq|ne|ord (o:zZ)|isin|notin|isN|notN
 deriving dn
noncomputable def i_(i:ak):aw:=ϒ (-(2 ^ 64)<i)&&ϒ (i<2 ^ 64)
def cO:Bop->D->D->Res D
 |.add,.int a,.int b=>.ok (.int (a+b))
 |.sub,.int a,.int b=>.ok (.int (a-b))
 |.mul,.int a,.int b=>if i_ a||i_ b then .ok (.int (a*b)) else .bad
 |.fdiv,.int a,.int b=>if ϒ (0<b)&&ϒ (b<1073741824) then .ok (.int (a / b)) else .bad
 |.mod,.int a,.int b=>if ϒ (0<b) then .ok (.int (a % b)) else .bad
 |.pow,.int a,.int b=>if ϒ (0<=b)&&ϒ (b<=1000000)&&ϒ (a.natAbs<2 ^ 64) then .ok (.int (a ^ b.toNat)) else .bad
 |.add,.str a,.str b=>if ϒ (a.length+b.length<=lim) then .ok (.str (a++b)) else .bad
 |.add,.lst a,.lst b=>if ϒ (a.length+b.length<=lim)&&D.aG a&&D.aG b then .ok (.lst (a++b)) else .bad
 |_,_,_=>.bad
def aTe:D->Res aw
 |.non=>.ok aj
 |.bl b=>.ok b
 |.int i=>.ok (i !=0)
 |.str x=>if ϒ (x.length<=lim) then .ok ((x.length:ak)!=0) else .bad
 |.tup xs=>.ok (!xs.isEmpty)
 |.lst xs=>.ok (!xs.isEmpty)
 |.dct kvs=>.ok (!kvs.isEmpty)
 |.uD=>.bad
 |.cel _ _=>.bad
 |.exc _ _=>.bad
 |.ins _ _=>.bad
 |.scr xs=>.ok (!xs.isEmpty)
noncomputable def dZ:D->aw
 |.int _=>ag
 |.str _=>ag
 |_=>aj
def keyOk:D->aw
 |.int _=>ag
 |.str _=>ag
 |.tup xs=>xs.all dZ
 |_=>aj
noncomputable def isTup:D->aw
 |.tup _=>ag
 |_=>aj
def bH:ae (D×D)->D->au D
 |[],_=>ai
 | (k,v)::r,q=>if eqD k q then aa v else bH r q
def putD:ae (D×D)->D->D->ae (D×D)
 |[],q,w=>[(q,w)]
 | (k,v)::r,q,w=>if eqD k q then (k,w)::r else (k,v)::putD r q w
def lQ(kvs:ae (D×D))(k:D):aw:=keyOk k&&kvs.all (λp=>isTup p.1==isTup k)
noncomputable def aU:ah:=12
def gG:Cop->D->D->Res D
 |.eq,a,b=>if a.iG aU&&b.iG aU then .ok (.bl (eqD a b)) else .bad
 |.ne,a,b=>if a.iG aU&&b.iG aU then .ok (.bl (!eqD a b)) else .bad
 |.ord o,a,b=>if a.iG aU&&b.iG aU then (match aTd o a b with|some k=>.ok (.bl k)|none=>.bad) else .bad
 |.isin,a,.tup ys=>if a.iG aU&&D.cJ aU ys then .ok (.bl (ys.any λy=>eqD y a)) else .bad
 |.isin,a,.lst ys=>if a.iG aU&&D.cJ aU ys then .ok (.bl (ys.any λy=>eqD y a)) else .bad
 |.isin,a,.dct kvs=>if lQ kvs a then .ok (.bl (bH kvs a).isSome) else .bad
 |.notin,a,.tup ys=>if a.iG aU&&D.cJ aU ys then .ok (.bl (!(ys.any λy=>eqD y a))) else .bad
 |.notin,a,.lst ys=>if a.iG aU&&D.cJ aU ys then .ok (.bl (!(ys.any λy=>eqD y a))) else .bad
 |.notin,a,.dct kvs=>if lQ kvs a then .ok (.bl (!(bH kvs a).isSome)) else .bad
 |.isN,.scr _,.non=>.bad
 |.notN,.scr _,.non=>.bad
 |.isN,.cel _ _,.non=>.bad
 |.notN,.cel _ _,.non=>.bad
 |.isN,.non,.non=>.ok (.bl ag)
 |.isN,a,.non=>.ok (.bl aj)
 |.notN,.non,.non=>.ok (.bl aj)
 |.notN,a,.non=>.ok (.bl ag)
 |_,_,_=>.bad
noncomputable def ixD(n:ah)(i:ak):au ah:=if 0<=i then (if i<n then aa i.toNat else ai) else if -(n:ak)<=i then aa (i+n).toNat else ai
def getD(d i:D):Res D:=
 match d,i with
 |.tup xs,.int i=>Res.ofOpt ((ixD xs.length i).bind λj=>xs[j]?)
 |.lst xs,.int i=>Res.ofOpt ((ixD xs.length i).bind λj=>xs[j]?)
 |.scr xs,.int i=>Res.ofOpt ((ixD xs.length i).bind λj=>xs[j]?)
 |.cel _ xs,.int i=>Res.ofOpt ((ixD xs.length i).bind λj=>xs[j]?)
 |.str x,.int i=>if ϒ (x.length<=lim) then Res.ofOpt (((ixD x.cps.toList.length i).bind λj=>x.cps.toList[j]?).map λc=>D.str ⟨#[c]⟩) else .bad
 |.dct kvs,k=>if keyOk k then Res.ofOpt (bH kvs k) else .bad
 |_,_=>.bad
noncomputable def OJ(n d:ah):au ak->ah
 |none=>d
 |some v=>if v<0 then (max (v+(n:ak)) 0).toNat else (min v (n:ak)).toNat
def cutD{α:Type}(xs:ae α)(lo hi:au ak):ae α:=(xs.drop (OJ xs.length 0 lo)).take (OJ xs.length xs.length hi-OJ xs.length 0 lo)
noncomputable def xO(i:ak):aw:=ϒ (-(2 ^ 62)<=i)&&ϒ (i<2 ^ 62)
noncomputable def asB:D->Res aw
 |.bl b=>.ok b
 |_=>.bad
noncomputable def asI:D->Res ak
 |.int i=>.ok i
 |_=>.bad
inductive Fl where
 |nx (ρ:ae D)|rt (d:D)|bk (ρ:ae D)|ct (ρ:ae D)
noncomputable def aTf:Fl->Res D
 |.rt d=>.ok d
 |.nx _=>.ok .non
 |_=>.bad
noncomputable abbrev FE:=ae D->Res D
noncomputable abbrev FT:=ae D->Res aw
noncomputable abbrev FA:=ae D->Res (ae D)
noncomputable def eZ(i:ah):FE:=λρ=>match ρ.getD i .uD with|.uD=>.bad|d=>.ok d
noncomputable def bC(d:D):FE:=λ_=>.ok d
abbrev c7:FE:= eZ 1
abbrev cT:FE:= eZ 0
abbrev fL:FE:= eZ 2
abbrev fB:FE:= eZ 3
abbrev lF:FE:= eZ 4
abbrev lM:FE:= eZ 6
abbrev n6:FE:= eZ 7
abbrev nF:FE:= eZ 5
abbrev E_:FE:= eZ 10
abbrev aDv:FE:= eZ 9
abbrev aJc:FE:= eZ 8
abbrev QD:FE:= eZ 11
abbrev g_:FE:= bC (.int 0)
abbrev uJ:FE:= bC (.int 2)
abbrev fM:FE:= bC (.int 1)
abbrev J7:FE:= bC (.int 3)
abbrev iM:FE:= bC (.int 2147483647)
abbrev xP:FE:= bC (.int 104729)
abbrev FJ:FE:= bC (.int 48271)
abbrev j7:FE:= bC (.int 2147483629)
abbrev FN:FE:= bC (.int 8)
abbrev aMh:FE:= bC (.int 5)
abbrev aJd:FE:= bC (.int 37)
abbrev QF:FE:= bC (.int 26)
abbrev aR4:FE:= bC (.int 4)
abbrev aRu:FE:= bC (.int 7)
noncomputable def b2(f:D->D->Res D)(a b:FE):FE:=λρ=>do let x <- a ρ;let y <- b ρ;f x y
noncomputable def b1(f:D->Res D)(a:FE):FE:=λρ=>do let x <- a ρ;f x
def bTB(a:FE):FT:=λρ=>do let x <- a ρ;asB x
noncomputable def aEm(a:FT):FT:=λρ=>do let x <- a ρ;pure (!x)
noncomputable def XS(a b:FT):FT:=λρ=>do let x <- a ρ;if x then b ρ else pure aj
noncomputable def bOr(a b:FT):FT:=λρ=>do let x <- a ρ;if x then pure ag else b ρ
def XX(a b:FE):FE:=λρ=>do let x <- a ρ;let k <- asB x;if k then b ρ else pure (.bl aj)
def bCh(f g:D->D->Res D)(a b c:FE):FE:=λρ=>do let x <- a ρ;let y <- b ρ;let z <- f x y;let k <- asB z;if k then (do let u <- c ρ;g y u) else pure (.bl aj)
noncomputable def aW:FA:=λ_=>.ok []
noncomputable def aC(a:FE)(b:FA):FA:=λρ=>do let x <- a ρ;let xs <- b ρ;pure (x::xs)
def jR(a:FA):FE:=λρ=>do let xs <- a ρ;if ϒ (xs.length<=lim) then pure (.tup xs) else .bad
def lG(a:FA):FE:=λρ=>do let xs <- a ρ;if ϒ (xs.length<=lim) then pure (.lst xs) else .bad
noncomputable def aQ(f:ae D->Res D)(a:FA):FE:=λρ=>do let xs <- a ρ;f xs
noncomputable def bM(f:D->ae D->Res D)(o:FE)(a:FA):FE:=λρ=>do let x <- o ρ;let xs <- a ρ;f x xs
def j8(a:FE):ae D->Res (au ak):=λρ=>do let x <- a ρ;let i <- asI x;pure (aa i)
noncomputable def lX:ae D->Res (au ak):=λ_=>.ok ai
def aTg:D->Res aw
 |.dct _=>.bad
 |.scr _=>.bad
 |d=>aTe d
def bTr(a:FE):FT:=λρ=>do let x <- a ρ;aTg x
def aR5:D->au ak->au ak->Res D
 |.lst xs,lo,hi=>if D.aG xs then .ok (.lst (cutD xs lo hi)) else .bad
 |.scr xs,lo,hi=>if D.aG xs then .ok (.lst (cutD xs lo hi)) else .bad
 |.tup xs,lo,hi=>if !D.aG xs||ϒ (OJ xs.length 0 lo=0/\OJ xs.length xs.length hi=xs.length) then .bad else .ok (.tup (cutD xs lo hi))
 |_,_,_=>.bad
def vQ:ae D->Res D
 |[.tup xs]=>.ok (.int xs.length)
 |[.lst xs]=>.ok (.int xs.length)
 |[.scr xs]=>.ok (.int xs.length)
 |[.cel _ xs]=>.ok (.int xs.length)
 |[.str x]=>if ϒ (x.length<=lim) then .ok (.int x.length) else .bad
 |_=>.bad
noncomputable def aNm(kvs:ae (D×D)):ae D:=kvs.map (·.1)
def aEn:ae D->Res D
 |[.tup xs]=>if D.aG xs then .ok (.lst xs) else .bad
 |[.lst xs]=>if D.aG xs then .ok (.lst xs) else .bad
 |[.dct kvs]=>if kvs.all (λp=>!isTup p.1) then .ok (.lst (aNm kvs)) else .bad
 |_=>.bad
noncomputable def fV:ae D->Res D
 |[.tup xs]=>.ok (.tup xs)
 |[.lst xs]=>.ok (.tup xs)
 |_=>.bad
noncomputable def cU(n:ah)(f:ae D->Res D):ae D->Res D:=λds=>if ϒ (ds.length=n) then f ds else .bad
noncomputable abbrev FI:=ae D->Res (ae D×aw)
noncomputable def xQ:D->Res (ae D)
 |.lst xs=>.ok xs
 |.tup xs=>.ok xs
 |_=>.bad
def FP:ae D->Res (ae D×aw)
 |[.int n]=>if xO n then .ok ((e9 n.toNat).map λ(k:ah)=>D.int (0+(k:ak)),ag) else .bad
 |_=>.bad
noncomputable def J8(f:FA)(g:ae D->Res (ae D×aw)):FI:=λρ=>do let xs <- f ρ;g xs
noncomputable def QG(n:ah)(ρ:ae D):ae D:=(e9 n).map λi=>ρ.getD i .uD
noncomputable def v6:D->Res (ae D):=λd=>.ok [d]
noncomputable def aJe(m:ah):D->Res (ae D)
 |.tup ds=>if ϒ (ds.length=m) then .ok ds else .bad
 |_=>.bad
def oN(n:ah)(t:D->Res (ae D))(c:FT)(f:FE)(k:aw)(ρ:ae D)(acc:ae D)(x:D):Res (ae D):=do
 let bs <- t x
 let ok <- c (QG n ρ++bs)
 if ok then (do
  let y <- f (QG n ρ++bs)
  if k||y.pure then pure (acc++[y]) else .bad)
 else pure acc
noncomputable def h_(g:ae D->D->Res (ae D)):ae D->ae D->Res (ae D)
 |acc,[]=>.ok acc
 |acc,x::xs=>do let a <- g acc x;h_ g a xs
def fO(n:ah)(it:FI)(t:D->Res (ae D))(c:FT)(f:FE)(k:aw):FE:=λρ=>do
 let xs <- it ρ
 if ϒ (xs.1.length<=lim) then (do
  let ys <- h_ (oN n t c f k ρ) [] xs.1
  pure (.lst ys)) else .bad
noncomputable def gD:FT:=λ_=>.ok ag
noncomputable abbrev FS:=ae D->Res Fl
def inner:D->aw
 |.lst xs=>D.aG xs
 |.dct kvs=>D.aG (kvs.map (·.2))
 |.cel _ xs=>D.aG xs
 |_=>aj
noncomputable def jT:FS:=λρ=>.ok (.nx ρ)
noncomputable def bU(f g:FS):FS:=λρ=>do
 let r <- f ρ
 match r with
 |.nx ρ'=>g ρ'
 |r=>.ok r
def cZ(o:aw)(i:ah)(f:FE)(k:aw):FS:=λρ=>do
 let d <- f ρ
 if (if o then k&&inner d else k||d.pure) then .ok (.nx (ρ.set i d)) else .bad
noncomputable def sIf(c:FT)(f g:FS):FS:=λρ=>do
 let k <- c ρ
 if k then f ρ else g ρ
noncomputable def lY(f:FE)(k:aw):FS:=λρ=>do
 let d <- f ρ
 if k||d.pure then .ok (.rt d) else .bad
def aNn(i:ah):FS:=λρ=>do
 let d <- eZ i ρ
 .ok (.rt d)
noncomputable def rtX:ah:=1000000
noncomputable def vR(f:FE):FS:=λρ=>do
 let _ <- f ρ
 .ok (.nx ρ)
def aNo(i:ah)(f:FE):FS:=λρ=>do
 let d <- f ρ
 match ρ.getD i .uD with
 |.lst xs=>if ϒ (xs.length<lim)&&d.pure then .ok (.nx (ρ.set i (.lst (xs++[d])))) else .bad
 |_=>.bad
def aEo(i:ah)(f:FE)(g:FE):FS:=λρ=>do
 let d <- g ρ
 let k <- f ρ
 match ρ.getD i .uD with
 |.dct kvs=>if ϒ (kvs.length<lim)&&lQ kvs k&&d.pure then .ok (.nx (ρ.set i (.dct (putD kvs k d)))) else .bad
 |_=>.bad
noncomputable def tg1(i:ah):D->ae D->Res (ae D):=λd ρ=>.ok (ρ.set i d)
noncomputable def xR:ae ah->ae D->ae D->ae D
 |i::is,d::ds,ρ=>xR is ds (ρ.set i d)
 |_,_,ρ=>ρ
def tgN(is:ae ah):D->ae D->Res (ae D)
 |.tup ds,ρ=>if ϒ (ds.length=is.length) then .ok (xR is ds ρ) else .bad
 |_,_=>.bad
noncomputable def nG(t:D->ae D->Res (ae D))(body:FS):ae D->ae D->Res Fl
 |[],ρ=>.ok (.nx ρ)
 |x::xs,ρ=>do
  let ρ1 <- t x ρ
  let r <- body ρ1
  match r with
  |.nx ρ'=>nG t body xs ρ'
  |.ct ρ'=>nG t body xs ρ'
  |.bk ρ'=>.ok (.nx ρ')
  |.rt d=>.ok (.rt d)
def O3(it:FI)(t:D->ae D->Res (ae D))(body:FS):FS:=λρ=>do
 let xs <- it ρ
 if xs.2 then nG t body xs.1 ρ else .bad
def X3(i:ah)(t:D->ae D->Res (ae D))(body:FS):FS:=λρ=>do
 let d <- eZ i ρ
 let xs <- xQ d
 nG t body xs ρ
def fnS(n m:ah)(f:FS):ae D->Res D:=λds=>do
 let r <- f (ds++bi (m-n) .uD)
 aTf r
open L2
class KFrag where
 K:aT
variable [KFrag]
def aAi(H:Hp)(a:am)(xs:ae V):Prop:=(∃o,H a=aa (.frz o (.lst xs)))\/
 ∃(o:bc)(its:aI al)(n:ah),KFrag.K.lookup a=aa o/\o.cls=.type "list"/\o.dict=ai/\o.data=.seq its n/\its.size<=bd/\Vals xs its.toList
def aAi.sq(h:aAi H a xs)(hK:KFrag.K=K):SqL K H a xs:=by
 subst hK;rcases h with ⟨o,h⟩|h
 .exact .inl (.inr ⟨o,h⟩)
 .exact .inr h
noncomputable def kD:Key->D
 |.inl i=>.int i
 |.inr x=>.str x
noncomputable def xT:HO->aw
 |.lst _=>ag
 |.dK _=>ag
 |.dT _=>ag
 |_=>aj
def XO(a C:am)(dx:au am)(h:aE):Prop:=∃o,h.get? a=aa o/\o.cls=.ref C/\o.dict=dx/\∃vs,o.data=.fields vs
def XD(dx:am)(fs:ae (Str×Str))(h:aE):Prop:=∃mA,h.Ns1 dx mA/\sA mA (fs.map (·.1))/\∀f,match fs.lookup f with
 |some t=>∃tk,mA f=aa (.str t tk)
 |none=>mA f=ai
def XDs(H:Hp)(fs:ae (Str×Str)):au am->Prop
 |none=>fs=[]
 |some d=>H d=aa (.ext (XD d fs))
mutual
inductive Rep(P:am->Prop)(H:Hp):V->D->Prop
 |non:Rep P H .non .non
 |bl (b:aw):Rep P H (.bl b) (.bl b)
 |int (i:ak):Rep P H (.int i) (.int i)
 |str (x:Str):Rep P H (.str x) (.str x)
 |tup {a:am} {xs:ae V} {ds:ae D}:H a=aa (.tup xs)->bJ P H xs ds->Rep P H (.ref a) (.tup ds)
 |lst {a:am} {xs:ae V} {ds:ae D}:H a=aa (.lst xs)->P a->bJ P H xs ds->Rep P H (.ref a) (.lst ds)
 |cel {a:am} {xs:ae V} {ds:ae D}:H a=aa (.lst xs)->P a->bJ P H xs ds->Rep P H (.ref a) (.cel a ds)
 |frz {a:am} {xs:ae V} {ds:ae D}:aAi H a xs->bJ P H xs ds->Rep P H (.ref a) (.scr ds)
 |dK {a:am} {kvs:ae (Key×V)} {ds:ae (D×D)}:H a=aa (.dK kvs)->P a->e_ P H kvs ds->(kvs.map (·.1)).Nodup->Rep P H (.ref a) (.dct ds)
 |dT {a:am} {kvs:ae (ae Key×V)} {ds:ae (D×D)}:H a=aa (.dT kvs)->P a->lR P H kvs ds->(kvs.map (·.1)).Nodup->Rep P H (.ref a) (.dct ds)
 |exc {a C:am} {dx:au am} {c:Str} {fs:ae (Str×Str)}:la KFrag.K bt c=aa (aa (.ref C))->H a=aa (.ext (XO a C dx))->XDs H fs dx->Rep P H (.ref a) (.exc c fs)
 |ins {a C dx:am} {c:Str} {vs:ae (Str×V)} {fs:ae (Str×D)}:la KFrag.K bt c=aa (aa (.ref C))->H a=aa (.ins C dx vs)->n8 P H vs fs->Rep P H (.ref a) (.ins c fs)
inductive n8(P:am->Prop)(H:Hp):ae (Str×V)->ae (Str×D)->Prop
 |nil:n8 P H [] []
 |cons {f:Str} {v:V} {d:D} {r:ae (Str×V)} {ds:ae (Str×D)}:Rep P H v d->n8 P H r ds->n8 P H ((f,v)::r) ((f,d)::ds)
inductive bJ(P:am->Prop)(H:Hp):ae V->ae D->Prop
 |nil:bJ P H [] []
 |cons {v:V} {d:D} {vs:ae V} {ds:ae D}:Rep P H v d->bJ P H vs ds->bJ P H (v::vs) (d::ds)
inductive e_(P:am->Prop)(H:Hp):ae (Key×V)->ae (D×D)->Prop
 |nil:e_ P H [] []
 |cons {k:Key} {v:V} {d:D} {r:ae (Key×V)} {ds:ae (D×D)}:Rep P H v d->e_ P H r ds->e_ P H ((k,v)::r) ((kD k,d)::ds)
inductive lR(P:am->Prop)(H:Hp):ae (ae Key×V)->ae (D×D)->Prop
 |nil:lR P H [] []
 |cons {k:ae Key} {v:V} {d:D} {r:ae (ae Key×V)} {ds:ae (D×D)}:Rep P H v d->lR P H r ds->lR P H ((k,v)::r) ((.tup (k.map kD),d)::ds)
end
def z6(P:am->Prop)(H H':Hp):Prop:=∀a o,H a=aa o->(P a\/xT o=aj)->H' a=aa o
def z6.same(h:bK H H'):z6 P H H':=λa o e _=>h a o e
def XDs.keep{P:am->Prop}{H H':Hp}(k:z6 P H H')(q:XDs H fs dx):XDs H' fs dx:=by
 cases dx with
 |none=>exact q
 |some _=>exact k _ _ q (.inr rfl)
mutual
def Rep.fP{P P':am->Prop}{H H':Hp}(k:z6 P H H')(m:∀a o,H a=aa o->P a->P' a){v:V}{d:D}(q:Rep P H v d):Rep P' H' v d:=by
 cases q with
 |non=>exact .non
 |bl b=>exact .bl b
 |int i=>exact .int i
 |str x=>exact .str x
 |tup e r=>exact .tup (k _ _ e (.inr rfl)) (bJ.fP k m r)
 |lst e p r=>exact .lst (k _ _ e (.inl p)) (m _ _ e p) (bJ.fP k m r)
 |cel e p r=>exact .cel (k _ _ e (.inl p)) (m _ _ e p) (bJ.fP k m r)
 |frz e r=>exact .frz (e.imp (λz=>z.imp λo e=>k _ _ e (.inr rfl)) id) (bJ.fP k m r)
 |dK e p r n=>exact .dK (k _ _ e (.inl p)) (m _ _ e p) (e_.fP k m r) n
 |dT e p r n=>exact .dT (k _ _ e (.inl p)) (m _ _ e p) (lR.fP k m r) n
 |exc n e q=>exact .exc n (k _ _ e (.inr rfl)) (XDs.keep k q)
 |ins n e r=>exact .ins n (k _ _ e (.inr rfl)) (n8.fP k m r)
def bJ.fP{P P':am->Prop}{H H':Hp}(k:z6 P H H')(m:∀a o,H a=aa o->P a->P' a){v:ae V}{d:ae D}(q:bJ P H v d):bJ P' H' v d:=by
 cases q with
 |nil=>exact .nil
 |cons r t=>exact .cons (Rep.fP k m r) (bJ.fP k m t)
def n8.fP{P P':am->Prop}{H H':Hp}(k:z6 P H H')(m:∀a o,H a=aa o->P a->P' a){v:ae (Str×V)}{d:ae (Str×D)}(q:n8 P H v d):n8 P' H' v d:=by
 cases q with
 |nil=>exact .nil
 |cons r t=>exact .cons (Rep.fP k m r) (n8.fP k m t)
def e_.fP{P P':am->Prop}{H H':Hp}(k:z6 P H H')(m:∀a o,H a=aa o->P a->P' a){v:ae (Key×V)}{d:ae (D×D)}(q:e_ P H v d):e_ P' H' v d:=by
 cases q with
 |nil=>exact .nil
 |cons r t=>exact .cons (Rep.fP k m r) (e_.fP k m t)
def lR.fP{P P':am->Prop}{H H':Hp}(k:z6 P H H')(m:∀a o,H a=aa o->P a->P' a){v:ae (ae Key×V)}{d:ae (D×D)}(q:lR P H v d):lR P' H' v d:=by
 cases q with
 |nil=>exact .nil
 |cons r t=>exact .cons (Rep.fP k m r) (lR.fP k m t)
end
def Rep.keep(k:z6 P H H')(m:∀a,P a->P' a)(q:Rep P H v d):Rep P' H' v d:=q.fP k λa _ _=>m a
def bJ.keep(k:z6 P H H')(m:∀a,P a->P' a)(q:bJ P H v d):bJ P' H' v d:=q.fP k λa _ _=>m a
def n8.keep(k:z6 P H H')(m:∀a,P a->P' a)(q:n8 P H v d):n8 P' H' v d:=q.fP k λa _ _=>m a
def e_.keep(k:z6 P H H')(m:∀a,P a->P' a)(q:e_ P H v d):e_ P' H' v d:=q.fP k λa _ _=>m a
def lR.keep(k:z6 P H H')(m:∀a,P a->P' a)(q:lR P H v d):lR P' H' v d:=q.fP k λa _ _=>m a
def Rep.mono(r:Rep P H v d)(m:∀a,P a->P' a):Rep P' H v d:=r.keep (λ_ _ e _=>e) m
def bJ.mono(r:bJ P H v d)(m:∀a,P a->P' a):bJ P' H v d:=r.keep (λ_ _ e _=>e) m
def Rep.same(r:Rep P H v d)(s:bK H H'):Rep P H' v d:=r.keep (.same s) λ_ h=>h
def bJ.same(r:bJ P H v d)(s:bK H H'):bJ P H' v d:=r.keep (.same s) λ_ h=>h
noncomputable def ZV:HO->aw
 |.tup _=>aj
 |.frz _ (.lst _)=>aj
 |_=>ag
mutual
def Rep.xU{P P':am->Prop}{H H':Hp}(k:∀a o,H a=aa o->ZV o=aj->H' a=aa o){v:V}{d:D}(q:Rep P H v d)(h:d.pure=ag):Rep P' H' v d:=by
 cases q with
 |non=>exact .non
 |bl b=>exact .bl b
 |int i=>exact .int i
 |str x=>exact .str x
 |tup e r=>exact .tup (k _ _ e rfl) (bJ.xU k r h)
 |frz e r=>exact .frz (e.imp (λz=>z.imp λo e=>k _ _ e rfl) id) (bJ.xU k r h)
 |_=>exact fx0 h
def bJ.xU{P P':am->Prop}{H H':Hp}(k:∀a o,H a=aa o->ZV o=aj->H' a=aa o){v:ae V}{d:ae D}(q:bJ P H v d)(h:D.aG d=ag):bJ P' H' v d:=by
 cases q with
 |nil=>exact .nil
 |cons r t=>
  rw[D.aG,ba] at h;exact .cons (Rep.xU k r h.1) (bJ.xU k t h.2)
end
def Rep.bQ(r:Rep P H v d)(h:d.pure=ag):Rep P' H v d:=r.xU (λ_ _ e _=>e) h
def bJ.bQ(r:bJ P H v d)(h:D.aG d=ag):bJ P' H v d:=r.xU (λ_ _ e _=>e) h
def bJ.length:∀{v:ae V}{d:ae D},bJ P H v d->v.length=d.length
 |_,_,.nil=>rfl
 |_,_,.cons _ t=>by rw[bz,bz,bJ.length t]
def bJ.get:∀{vs:ae V}{ds:ae D}{i:ah}{d:D},bJ P H vs ds->ds[i]?=aa d->∃v,vs[i]?=aa v/\Rep P H v d
 |_,_,_,_,.nil,e=>by simp at e
 |_,_,0,_,.cons r _,e=>by simp at e;subst e;exact⟨_,rfl,r⟩
 |_,_,i+1,d,.cons _ t,e=>by
  obtain⟨v,h1,h2⟩:=bJ.get t (by simpa using e);exact⟨v,by simpa using h1,h2⟩
def bJ.append:∀{vs ws:ae V}{ds es:ae D},bJ P H vs ds->bJ P H ws es->bJ P H (vs++ws) (ds++es)
 |_,_,_,_,.nil,s=>s
 |_,_,_,_,.cons r t,s=>.cons r (bJ.append t s)
def bJ.take:∀{vs:ae V}{ds:ae D}(n:ah),bJ P H vs ds->bJ P H (vs.take n) (ds.take n)
 |_,_,0,_=>.nil
 |_,_,_+1,.nil=>.nil
 |_,_,n+1,.cons r t=>.cons r (bJ.take n t)
def bJ.drop:∀{vs:ae V}{ds:ae D}(n:ah),bJ P H vs ds->bJ P H (vs.drop n) (ds.drop n)
 |_,_,0,r=>r
 |_,_,_+1,.nil=>.nil
 |_,_,n+1,.cons _ t=>bJ.drop n t
def bJ.snoc(t:bJ P H vs ds)(r:Rep P H v d):bJ P H (vs++[v]) (ds++[d]):=t.append (.cons r .nil)
def Rep.uD:¬Rep P H v .uD:=λh=>by cases h
abbrev All:am->Prop:=λ_=>gv
abbrev New(H:Hp):am->Prop:=λa=>H a=ai
def Rep.all(r:Rep P H v d):Rep All H v d:=r.mono λ_ _=>trivial
def bJ.all(r:bJ P H v d):bJ All H v d:=r.mono λ_ _=>trivial
def bK.new(s:bK H H'):∀a,New H' a->New H a:=λa h=>s.free h
def bK.upd(h:H a=ai):bK H (upd H a o):=λb u e=>by rw[aM (bF e h)];exact e
def ER(H:Hp)(σ:St)(ρ:ae D):Prop:=∀i,ρ.getD i .uD≠.uD->∃v,σ[i]?=aa (aa v)/\Rep All H v (ρ.getD i .uD)
def ER.same(e:ER H σ ρ)(s:bK H H'):ER H' σ ρ:=λi h=>by
 obtain⟨v,h1,h2⟩:=e i h;exact⟨v,h1,h2.same s⟩
def PE.imp(h:PE X e t)(i:∀σ H Q,t' σ H Q->t σ H Q):PE X e t':=λΨ s σ H Q I q=>h Ψ s σ H Q I (i σ H Q q)
def PT.imp(h:PT X e t)(i:∀σ H Q,t' σ H Q->t σ H Q):PT X e t':=λΨ s σ H Q I q=>h Ψ s σ H Q I (i σ H Q q)
def PA.imp(h:PA X e t)(i:∀σ H Q,t' σ H Q->t σ H Q):PA X e t':=λpos Ψ s σ H Q I q=>h pos Ψ s σ H Q I (i σ H Q q)
def Rep.dom(r:Rep P H v d):Rep (λa=>P a/\H a≠ai) H v d:=r.fP (λ_ _ e _=>e) λa o e p=>⟨p,by rw[e];simp⟩
def Rep.QH(r:Rep P H v d)(k:z6 P H H')(m:∀a o,H a=aa o->P a->P' a):Rep P' H' v d:=r.fP k m
def aUi(P:am->Prop)(H:Hp)(v:V):D->Prop
 |.non=>v=.non
 |.bl b=>v=.bl b
 |.int i=>v=.int i
 |.str x=>v=.str x
 |.tup ds=>∃a xs,v=.ref a/\H a=aa (.tup xs)/\bJ P H xs ds
 |.lst ds=>∃a xs,v=.ref a/\H a=aa (.lst xs)/\P a/\bJ P H xs ds
 |.cel b ds=>∃xs,v=.ref b/\H b=aa (.lst xs)/\P b/\bJ P H xs ds
 |.scr ds=>∃a xs,v=.ref a/\aAi H a xs/\bJ P H xs ds
 |.ins c fs=>∃a C dx vs,v=.ref a/\la KFrag.K bt c=aa (aa (.ref C))/\H a=aa (.ins C dx vs)/\n8 P H vs fs
 |.exc c fs=>∃a C dx,v=.ref a/\la KFrag.K bt c=aa (aa (.ref C))/\H a=aa (.ext (XO a C dx))/\XDs H fs dx
 |.uD=>cf
 |_=>gv
def Rep.inv(r:Rep P H v d):aUi P H v d:=by
 cases r with
 |non=>rfl
 |bl=>rfl
 |int=>rfl
 |str=>rfl
 |tup e r=>exact⟨_,_,rfl,e,r⟩
 |lst e p r=>exact⟨_,_,rfl,e,p,r⟩
 |cel e p r=>exact⟨_,rfl,e,p,r⟩
 |frz e r=>exact⟨_,_,rfl,e,r⟩
 |ins n e r=>exact⟨_,_,_,_,rfl,n,e,r⟩
 |exc n e r=>exact⟨_,_,_,rfl,n,e,r⟩
 |_=>trivial
end Mi
open Mi.D renaming aG->δ,str->ε,int->ι,tup->μ,pure->ξ,bl->ο,cJ->π,lst->υ,dct->χ
open Mi.Res renaming ok->τ,aP->θ,ofOpt->ν
namespace L2
open PySem PySem.Spec PyProof.Rows
noncomputable def iQ(own:ae Str)(x:Str):Str:=if own.contains x then x++(" " : Str) else x
def clF(env:cv):ae (Str×ii)->ae (Str×am)->ae (Str×am)
 |[],acc=>acc
 | (n,k)::r,acc=>clF env r (if k==.free then (n,(env.cells.lookup n).getD 0)::acc else acc)
def uK:∀(names:ae (Str×ii))(acc:ae (Str×am)),(∀y∈names,y.2=.free->∃c,env.cells.lookup y.1=aa c)->
  (forIn names acc λx cs=>(match x with
   | (name,kind)=>if (kind==.free)=ag then cellOf env name >>= λc=>pure (Bh ((name,c)::cs)) else pure (Bh cs):gy (ForInStep (ae (Str×am)))))=(pure (clF env names acc):gy _)
 |[],acc,_=>by rw[gp];rfl
 | (n,k)::r,acc,h=>by
  rw[jb];by_cases hk:(k==.free)=ag
  .have hk':k=.free:=by simpa using hk
   obtain⟨c,e⟩:=h (n,k) (bE ..) hk';have e':cellOf env n=pure c:=by
    unfold cellOf;have e2:env.cells.lookup n=aa c:=e;rw[e2]
   dsimp only;rw[aq hk,e',pure_bind,pure_bind];dsimp only;rw[uK r _ λy hy=>h y (bX _ hy)];have e2:env.cells.lookup n=aa c:=e;simp only[clF,hk,c9,e2,Bi]
  .dsimp only;rw[ax hk,pure_bind];dsimp only;rw[uK r _ λy hy=>h y (bX _ hy)];simp only[clF,hk,fT,dw]
def X4(h:∀y∈scope.names,y.2=.free->∃c,env.cells.lookup y.1=aa c):closureFor scope env=pure (clF env scope.names []):=by
 unfold closureFor;have:=uK scope.names [] h;simp only[bind_pure] at *;exact this
def QJ:∀{names:ae (Str×ii)}{acc:ae (Str×am)}{x:Str}{c:am},(∀y∈names,y.2=.free->∃c,env.cells.lookup y.1=aa c)->(∀x c,acc.lookup x=aa c->env.cells.lookup x=aa c)->
  (clF env names acc).lookup x=aa c->env.cells.lookup x=aa c
 |[],acc,x,c,_,h,e=>h x c e
 | (n,k)::r,acc,x,c,q,h,e=>by
  unfold clF at e;refine QJ (λy hy=>q y (bX _ hy)) (λy d hy=>?_) e;by_cases hk:(k==.free)=ag
  .rw[aq hk,gN] at hy;obtain⟨c',e'⟩:=q (n,k) (bE ..) (by simpa using hk);have e2:env.cells.lookup n=aa c':=e';cases hyn:y==n with
   |true=>
    rw[hyn] at hy;have:y=n:=by simpa using hyn
    subst this;rw[e2] at hy;simp only[Bi] at hy;rw[e2];exact hy
   |false=>rw[hyn] at hy;exact h y d hy
  .rw[ax hk] at hy;exact h y d hy
def aAj:∀{names:ae (Str×ii)}{acc:ae (Str×am)}{x:Str},(∃c,acc.lookup x=aa c)->∃c,(clF env names acc).lookup x=aa c
 |[],_,_,h=>h
 | (n,k)::r,acc,x,⟨c,h⟩=>by
  unfold clF;refine aAj ?_;by_cases hk:(k==.free)=ag
  .rw[aq hk,gN];cases x==n with
   |true=>exact⟨_,rfl⟩
   |false=>exact⟨c,h⟩
  .rw[ax hk];exact⟨c,h⟩
def QK:∀{names:ae (Str×ii)}{acc:ae (Str×am)}{x:Str},(x,jv)∈names->∃c,(clF env names acc).lookup x=aa c
 | (n,k)::r,acc,x,h=>by
  unfold clF;rcases bq.mp h with e|h
  .cases e;refine aAj ?_;rw[aq 0x4,gN];simp
  .exact QK h
structure dH(N:ae Str)(sc scope:eL)(own:ae Str):Prop where
 kind:scope.kind=.function
 nocell:∀y∈scope.names,y.2≠.cell
 names:∀y∈scope.names,y.2=.local->scope.names.lookup y.1=aa .local
 free:∀y∈scope.names,y.2=.free->sc.names.lookup y.1=aa .cell\/sc.names.lookup y.1=aa .free
 ownl:∀x∈own,scope.names.lookup x=aa .local
 hid:∀x∈own,scope.names.lookup (x++(" " : Str))=ai
 loc:∀y∈scope.names,y.2=.local->y.1∈own\/y.1∉N
structure d7(X X':Cx)(scope:eL)(own:ae Str):Prop where
 prog:X'.prog=X.prog
 w:X'.w=X.w
 K:X'.K=X.K
 mg:X'.mg=X.mg
 base:X'.base=X.base
 A:X'.A=X.A
 N:X'.N=X.N.map (iQ own)++own
 scope:X'.env.scope=iu scope X.env
 calm:X'.calm=X.calm
 xe:X'.xe=λ_ _=>cf
def T6(X:Cx)(scope:eL)(cl:ae (Str×am))(C:am)(own:ae Str)(s₂:ar)(H₂:Hp)(fp:ae am):Cx:=
 {X with N:=X.N.map (iQ own)++own,s₀:=s₂,H₀:=H₂,env:=compEnvC scope cl C X.env,outer:=X.stack,stack:=X.stack,ex:=fp,fn:=λ_=>aj,pn:=[],xe:=λ_ _=>cf}
def aAk:d7 X (T6 X scope cl C own s₂ H₂ fp) scope own:=
 ⟨rfl,rfl,rfl,rfl,rfl,rfl,rfl,rfl,rfl,rfl⟩
def Ext(σ σ2:St):Prop:=σ2.length=σ.length/\∀(i:ah) v,σ[i]?=aa (aa v)->σ2[i]?=aa (aa v)
def QL(wi:TI)(g:TG)(tc:TT)(te:TE)(m:ah):TE:=λσ H Q=>wi σ H λJ H1=>∀p,H1 p=ai->
 ∃W:ah->ah->ae V->Hp->Prop,(∃n,W 0 n [] (upd H1 p (.lst [])))/\∀i n ys H,W i n ys H->H p=aa (.lst ys)/\((J.stop i H/\Q (.ref p) H)\/(J.go i H/\ys.length<bd/\
  ∀x H2,J.yld i H x H2->g x (σ++bi m ai) H2 λσ2 H3=>Ext (σ++bi m ai) σ2/\tc σ2 H3 λb H4=>if b=ag then te σ2 H4 λy H5=>H5 p=aa (.lst ys)/\∃n',n'<n/\W (i+1) n' (ys++[y]) (upd H5 p (.lst (ys++[y])))
   else ∃n',n'<n/\W (i+1) n' ys H4))
section
def Inv.comp(I:Inv X Ψ σ H2 s2)(S:dH X.N X.env.scope scope own)(hf:∀b∈fp,ZQ X Ψ H2 b)
 (hfx:∀b∈fp,b<s2.heap.objs.size)(hns:h1.Ns (s2.heap.objs.size+1) (λ_=>ai))
 (hk:∀b o,s2.heap.get? b=aa o->h1.get? b=aa o)(hacc:h1.get? s2.heap.objs.size=aa {cls:=.type "list",data:=.seq #[]}) :
  Inv (T6 X scope (clF X.env scope.names []) (s2.heap.objs.size+1) own s2 H2 fp) [] (σ++bi own.length ai) (upd H2 s2.heap.objs.size (.lst [])) {s2 with heap:=h1,toks:=t1}:=by
 have hD:H2 s2.heap.objs.size=ai:=I.hok.fresh (bo _);have hC:H2 (s2.heap.objs.size+1)=ai:=I.hok.fresh (iS _);have cells:∀y∈scope.names,y.2=.free->∃c,X.env.cells.lookup y.1=aa c:=λy hy hk=>I.ok.has y.1 (S.free y hy hk)
 have sub:∀x c,(clF X.env scope.names []).lookup x=aa c->X.env.cells.lookup x=aa c:=λx c e=>QJ cells (λ_ _ h=>by simp at h) e
 have relk:∀x,(iu scope X.env).names.lookup x=aa .cell\/(iu scope X.env).names.lookup x=aa .free->(x,jv)∈scope.names:=by
  intro x hx;have go:∀(l:ae (Str×ii)),(∀y∈l,y.2≠.cell)->((l.map λ(n,k)=>if (k==jv&&X.env.scope.kind==.function&&X.env.kindOf n==aa .cell) then (n,y4) else (n,k)).lookup x=aa .cell\/(l.map λ(n,k)=>if (k==jv&&X.env.scope.kind==.function&&X.env.kindOf n==aa .cell) then (n,y4) else (n,k)).lookup x=aa .free)->(x,jv)∈l:=by
   intro l;induction l with
   |nil=>intro _ h;rcases h with h|h<;>simp at h
   |cons p l ih=>
    obtain⟨n,k⟩:=p;intro nc h;rw[bh] at h;dsimp only at h;by_cases hc:(k==jv&&X.env.scope.kind==.function&&X.env.kindOf n==aa .cell)=ag
    .rw[aq hc] at h;rw[gN] at h;cases e:x==n with
     |true=>
      have:x=n:=by simpa using e
      subst this;simp only[ba] at hc;have:k=.free:=by simpa using hc.1.1
      subst this;exact bE ..
     |false=>
      rw[e] at h;exact bX _ (ih (λy hy=>nc y (bX _ hy)) h)
    .rw[ax hc] at h;rw[gN] at h;cases e:x==n with
     |true=>
      have:x=n:=by simpa using e
      subst this;rw[e] at h;dsimp only at h;rcases h with h|h
      .exact aS (gi h) (nc (x,k) (bE ..))
      .have:=gi h;subst this;exact bE ..
     |false=>
      rw[e] at h;exact bX _ (ih (λy hy=>nc y (bX _ hy)) h)
  exact go scope.names S.nocell hx
 have hne:s2.heap.objs.size≠s2.heap.objs.size+1:=cg (ny _);have hlt:∀b o,s2.heap.get? b=aa o->b<s2.heap.objs.size:=λb o e=>bw e
 have hstk:∀b∈frs X.stack,b<s2.heap.objs.size:=λb hb=>by
  obtain⟨_,o,ho,_⟩:=I.stack.mem hb;exact hlt b o ho
 refine⟨⟨I.mod,?_,I.ok.glob,I.ok.blt,iS _,λx y c e1 e2=>I.ok.inj x y c (sub x c e1) (sub y c e2),λx hx=>?_,λ_ _ h=>(by cases h),I.ok.hd,I.ok.frames,.inl rfl,λb hb=>?_,λb o e=>I.bs b o e,?_,λb o e hb=>?_,λb hb hz=>?_,I.stack,I.O_⟩,
  rfl,I.bare,Un.laid hk (bo _) hD,?_,λx c e=>?_,?_,λx c e=>?_,λp hp=>(by simp[T6] at hp),?_,?_⟩
 .exact S.kind
 .have hx':(iu scope X.env).names.lookup x=aa .cell\/(iu scope X.env).names.lookup x=aa .free:=hx;exact QK (relk x hx')
 .refine⟨cg (me (hfx b hb)),λx c e z=>?_⟩;exact(hf b hb).2.2.2.2.1 x c (sub x c e) z
 .exact dg I.ok.bsz I.sz
 .rcases(hf b hb).2.2.2.1 with z|z
  .exact I.ok.noex b o e z
  .exact aS (de (bw e) (dg I.ok.bsz z)) (eW _)
 .rcases bq.mp (I.S6 b hz) with z'|z'
  .exact(hf b hb).2.1 z'
  .exact(hf b hb).2.2.1 z'
 .refine⟨_,hns,λi x v e1 e2 e3=>?_⟩;have hi:i<σ.length:=by
   rcases lb i σ.length with h|h
   .exact h
   .rw[dS h,hI] at e2;split at e2<;>cases e2
  rw[d4 hi] at e2;have hiN:i<X.N.length:=by rw[<-I.len];exact hi
  have e1':(X.N.map (iQ own))[i]?=aa x:=by
   have:(X.N.map (iQ own)++own)[i]?=aa x:=e1;rwa [d4 (by rw[br];exact hiN)] at this
  rw[iX] at e1';obtain⟨y,hy,ey⟩:=gn.mp e1';have hyN:y∈X.N:=l6 hy;have e3':(iu scope X.env).names.lookup x=aa .local\/(iu scope X.env).names.lookup x=aa .cell\/(iu scope X.env).names.lookup x=aa .free:=e3;have keys:∀z k,(iu scope X.env).names.lookup z=aa k->∃k',scope.names.lookup z=aa k'/\(k=.local->k'=.local):=by
   intro z k;show(scope.names.map λ(n,k)=>if (k==jv&&X.env.scope.kind==.function&&X.env.kindOf n==aa .cell) then (n,y4) else (n,k)).lookup z=aa k->_;generalize scope.names=l;induction l with
   |nil=>intro h;simp at h
   |cons p l ih=>
    obtain⟨n,k0⟩:=p;intro h;rw[bh] at h;dsimp only at h;by_cases hc:(k0==jv&&X.env.scope.kind==.function&&X.env.kindOf n==aa .cell)=ag
    .rw[aq hc,gN] at h;rw[gN];cases e:z==n with
     |true=>
      rw[e] at h;dsimp only at h;cases h;exact⟨k0,rfl,λq=>by cases q⟩
     |false=>rw[e] at h;exact ih h
    .rw[ax hc,gN] at h;rw[gN];cases e:z==n with
     |true=>
      rw[e] at h;dsimp only at h;cases h;exact⟨_,rfl,λq=>q⟩
     |false=>rw[e] at h;exact ih h
  by_cases hown:own.contains y=ag
  .exfalso;have ex:x=y++(" " : Str):=by rw[<-ey];unfold iQ;rw[aq hown]
   have hn:=S.hid y (by simpa using hown);rw[<-ex] at hn;rcases e3' with q|q|q
   all_goals
    obtain⟨k',hk',_⟩:=keys _ _ q;rw[hn] at hk';cases hk'
  .have ex:x=y:=by rw[<-ey];unfold iQ;rw[ax hown]
   subst ex;rcases e3' with q|q
   .exfalso;obtain⟨k',hk',hl⟩:=keys _ _ q;have:=hl rfl;subst this;rcases S.loc _ (lT hk') rfl with z|z
    .exact hown (by simpa using z)
    .exact z hyN
   .have hfr:=relk x q;have hv:=S.free _ hfr rfl;obtain⟨m,_,hl⟩:=I.loc;obtain⟨u,ru,lk⟩:=hl i x v hy e2 (.inr hv);refine⟨u,ru,.inr ⟨q,?_⟩⟩;rcases lk with ⟨z,_⟩|⟨_,c,hc,o,ho,hd⟩
    .have z':X.env.scope.names.lookup x=aa .local:=z;rcases hv with hv|hv<;>(rw[z'] at hv;cases hv)
    .obtain⟨c',hc'⟩:=QK hfr;have:=sub x c' hc';rw[hc] at this;cases this;exact⟨c,hc',o,hk c o ho,hd⟩
 .obtain⟨v,z⟩:=I.cell x c (sub x c e);obtain⟨o,ho,hd⟩:=z;exact⟨v,o,hk c o ho,hd⟩
 .show upd H2 _ _ (s2.heap.objs.size+1)=ai;rw[aM (Ne.symm hne)];exact hC
 .obtain⟨v,o,ho,_⟩:=I.cell x c (sub x c e);show upd H2 _ _ c=ai;rw[aM (cg (hlt c o ho))];exact I.freeC x c (sub x c e)
 .exact I.hok.laid hk (bo _) ⟨eP _,[],0,.nil,hacc⟩
 .show(σ++bi own.length ai).length=(X.N.map (iQ own)++own).length;rw[b6,b6,nE,br,I.len]
end
section
variable {X:Cx} {scope:eL} {own:ae Str}
def cI(X':Cx)(σ:St)(fp:ae am)(tn:ah->aE->Prop)(W:ah->ah->ae V->Hp->Prop)(n:ah)(s:ar):Prop:=∃i ys H',Inv X' [] σ H' s/\tn i s.heap/\(∀b∈fp,H' b=ai)/\W i n ys H'
abbrev cE(X X':Cx)(use:au (al->gy Unit))(QQ:al->ar->Prop)(p:am):al->ar->Prop:=notedBy (ay X.prog X.w) X.A X'.env λe s'=>mf (ay X.prog X.w) X.A X.xe use QQ (.ref p) (p+1) (.error e) s'
def cB(X':Cx)(σ:St)(fp:ae am)(tn:ah->aE->Prop)(W:ah->ah->ae V->Hp->Prop)(n i:ah)(h:aE):Prop:=∀{ys':ae V}{H9:Hp}{s9:ar}{σ9:St},Ext σ σ9->Inv X' ([]++wW fp h) σ9 H9 s9->(∃n',n'<n/\W (i+1) n' ys' H9)->∃m,m<n/\cI X' σ fp tn W m s9
theorem QM(S:dH X.N X.env.scope scope own)(hcalm:X.calm=ag)(hi:PI X tg iter wi)
 (hg:∀X',d7 X X' scope own->PG X' tg g)(hc:(ifs=[]/\tc=λ_ H Q=>Q ag H)\/∃c,ifs=[c]/\∀X',d7 X X' scope own->PT X' c tc)(he:∀X',d7 X X' scope own->PE X' elt te)
 (hs:∀x,fg iter X.env x=pure x)(I:Inv X Ψ σ H s)(h:QL wi g tc te own.length σ H R)
 (last:∀{p C:am} {H5:Hp} {s6:ar} {m6:Str->au al},Inv X Ψ σ H5 s6->ZQ X Ψ H5 C->s6.heap.Ns C m6->R (.ref p) H5->mf (ay X.prog X.w) X.A X.xe use QQ (.ref p) C (.ok .next) s6) :
  ϑ (ay X.prog X.w) X.A (Bj (.ListComp elt [⟨tg,iter,ifs,0⟩] scope pos) scope X.env ps (newList []) aj (eval iter X.env) use) QQ X.xe s:=by
 have cells:∀y∈scope.names,y.2=.free->∃c,X.env.cells.lookup y.1=aa c:=λy hy hk=>I.ok.has y.1 (S.free y hy hk)
 refine wpAny_comprehension_free rfl hs (X4 cells) S.kind S.names (thn (hi Ψ s σ H _ I h) λxv s1 h1=>thn h1 λitv s2 h2=>?_);obtain⟨it,fp,tn,J,H2,e,I2,T,st2,f2,hW⟩:=h2;subst e;have hD:H2 s2.heap.objs.size=ai:=I2.hok.fresh (bo _);obtain⟨W,⟨n0,w0⟩,turn⟩:=hW _ hD;have hfx:∀b∈fp,b<s2.heap.objs.size:=λb hb=>by
  obtain⟨o,ho,_⟩:=T.obj 0 _ st2 b hb;exact bw ho
 refine i7 (wpAny_newFunctionEnv S.nocell (by intro y hy;simp at hy) (λh₁ hns₁ hsb₁=>?_) S.kind);dsimp only at hns₁ hsb₁ ⊢;have hC:(s2.heap.push {cls:=.type "list",dict:=ai,data:=.seq ([]:ae al).toArray}).objs.size=s2.heap.objs.size+1:=cK ..;have hne:s2.heap.objs.size≠s2.heap.objs.size+1:=cg (ny _);rw[hC] at hns₁ hsb₁ ⊢;have old:∀b o,s2.heap.get? b=aa o->h₁.get? b=aa o:=λb o e=>hsb₁.extBut b o (cg (me (bw e))) (bS _ (bS _ e))
 have hacc:h₁.get? s2.heap.objs.size=aa {cls:=.type "list",data:=.seq #[]}:=hsb₁.extBut _ _ hne (bS _ (cu _ rfl));have I4:=Inv.comp (t1:=s2.toks+([]:ae (Str×al)).length) I2 S f2 hfx hns₁ old hacc;generalize hX':T6 X scope (clF X.env scope.names []) (s2.heap.objs.size+1) own s2 H2 fp=X' at I4;have cc:d7 X X' scope own:=by rw[<-hX'];exact aAk
 have eenv:X'.env=compEnvC scope (clF X.env scope.names []) (s2.heap.objs.size+1) X.env:=by rw[<-hX'];rfl
 have eA:X'.A=X.A:=cc.A;have ep:X'.prog=X.prog:=cc.prog;have ew:X'.w=X.w:=cc.w;have efs:X'.fs=frs X.stack:=by rw[<-hX'];rfl
 have eex:X'.ex=fp:=by rw[<-hX'];rfl
 have es0:X'.s₀=s2:=by rw[<-hX'];rfl
 have eH0:X'.H₀=H2:=by rw[<-hX'];rfl
 have epn:X'.pn=[]:=by rw[<-hX'];rfl
 have eK:X'.K=X.K:=cc.K;have exe:=cc.xe;have ecalm:X'.calm=ag:=cc.calm.trans hcalm
 -- the iterator's records within the block
 have fpok:∀{H':Hp},(∀b∈fp,H' b=ai)->∀b∈fp,ZQ X' [] H' b:=λ{H'} hn b hb=>by
  obtain⟨_,f1,f3,_,f5,_⟩:=f2 b hb;refine⟨hn b hb,?_,?_,.inl (by rw[eex];exact hb),λx c e=>?_,λp hp=>by rw[epn] at hp;simp at hp⟩
  .rw[eenv];exact cg (me (hfx b hb))
  .rw[efs];intro z;rcases bq.mp (I2.S6 b z) with z|z
   .exact f1 z
   .exact f3 z
  .rw[eenv] at e;exact f5 x c (QJ cells (λ_ _ h=>by simp at h) e)
 have st4:tn 0 h₁:=T.keep _ _ _ st2 λb _ o e=>old b o e
 have fr4:∀b∈fp,(upd H2 s2.heap.objs.size (.lst [])) b=ai:=λb hb=>by rw[aM (cg (hfx b hb))];exact(f2 b hb).1
 have loop:∀s4:ar,s4={s2 with heap:=h₁,toks:=s2.toks+([]:ae (Str×al)).length}->
   codeAny (ay X.prog X.w) X.A (.compLoop (.ListComp elt [⟨tg,iter,ifs,0⟩] scope pos) 0 (.ref it) (.ref s2.heap.objs.size) X'.env)
    (mf (ay X.prog X.w) X.A X.xe use QQ (.ref s2.heap.objs.size) (s2.heap.objs.size+1)) s4:=by
  rintro s4 rfl;have put:∀(n i:ah)(ys:ae V)(s7:ar)(σ8:St)(H8:Hp)(s8:ar),cB X' (σ++bi own.length ai) fp tn W n i s7.heap->Inv X' ([]++wW fp s7.heap) σ8 H8 s8->Ext (σ++bi own.length ai) σ8->ys.length<bd->(te σ8 H8 λy H5=>H5 s2.heap.objs.size=aa (.lst ys)/\∃n',n'<n/\W (i+1) n' (ys++[y]) (upd H5 s2.heap.objs.size (.lst (ys++[y]))))->
    ϑ (ay X.prog X.w) X.A (eval elt X'.env) (λx s₄=>ϑ (ay X.prog X.w) X.A (call (.builtin "list.append") [.ref s2.heap.objs.size,x]) (λ_ s₅=>∃m,m<n/\cI X' (σ++bi own.length ai) fp tn W m s₅) (cE X X' use QQ s2.heap.objs.size) s₄) (cE X X' use QQ s2.heap.objs.size) s8:=by
   intro n i ys s7 σ8 H8 s8 back I8 ext8 hlen q8;have he':=he X' cc _ s8 _ H8 _ I8 q8;rw[ep,ew,eA,exe] at he';refine eM he' (λyv s10 ⟨y,H10,I10,r10,p10,q10⟩=>?_) λ_ _ z=>dz z
   have hm:=jQ _ s10 σ8 H10 (.ref s2.heap.objs.size) [y] (.ref s2.heap.objs.size) [yv] (λ_ H11=>∃n',n'<n/\W (i+1) n' (ys++[y]) H11) I10 rfl (.cons r10 .nil) ⟨s2.heap.objs.size,ys,y,rfl,rfl,p10,hlen,q10⟩;rw[ep,ew,eA,exe] at hm;exact eM hm (λ_ s11 ⟨_,H11,I11,_,q11⟩=>back ext8 I11 q11) λ_ _ z=>dz z
  have key:∀(PO:ah->ar->Prop),(∀(n i:ah)(ys:ae V)(s7:ar)(σ8:St)(H8:Hp)(s8:ar),cB X' (σ++bi own.length ai) fp tn W n i s7.heap->Inv X' ([]++wW fp s7.heap) σ8 H8 s8->Ext (σ++bi own.length ai) σ8->ys.length<bd->(tc σ8 H8 λb H4=>if b=ag then te σ8 H4 λy H5=>H5 s2.heap.objs.size=aa (.lst ys)/\∃n',n'<n/\W (i+1) n' (ys++[y]) (upd H5 s2.heap.objs.size (.lst (ys++[y]))) else ∃n',n'<n/\W (i+1) n' ys H4)->PO n s8)->
    ∀n s5,(cI X' (σ++bi own.length ai) fp tn W n s5)->ϑ (ay X.prog X.w) X.A (ff (.ref it)) (λr s₁=>match r with
     |none=>mf (ay X.prog X.w) X.A X.xe use QQ (.ref s2.heap.objs.size) (s2.heap.objs.size+1) (.ok .next) s₁
     |some v=>ϑ (ay X.prog X.w) X.A (nu tg (.ref it) v) (λ_ s₀=>ϑ (ay X.prog X.w) X.A (kq tg X'.env v) (λ_ s₂=>PO n s₂) (cE X X' use QQ s2.heap.objs.size) s₀) (cE X X' use QQ s2.heap.objs.size) s₁) (cE X X' use QQ s2.heap.objs.size) s5:=by
   intro PO hPO;rintro n s5 ⟨i,ys,H5,I5,st5,fr5,w5⟩;obtain⟨hacc5,tr⟩:=turn i n ys H5 w5;rcases tr with ⟨stop,q⟩|⟨go,hlen,step⟩
   .have done:=T.done X' ep ew eK ecalm i [] s5 _ H5 (cE X X' use QQ s2.heap.objs.size) I5 (fpok fr5) st5 stop;rw[eA] at done;refine thn done λr s6 ⟨hr,I6⟩=>?_
    subst hr;obtain⟨m6,hn6,_⟩:=id I6.loc;rw[eenv] at hn6;have u6:Un (frs X.stack) fp H2 H5 s2.heap s6.heap:=by
     have:=I6.base;rw[efs,eex,eH0,es0] at this;exact this
    have hCn:H5 (s2.heap.objs.size+1)=ai:=by
     have:=I6.free;rw[eenv] at this;exact this
    have hok6:HOk X.prog X.w H5 s6.heap:=by
     have:=I6.hok;rw[ep,ew] at this;exact this
    have hos:s6.os=s2.os:=by have:=I6.os;rw[es0] at this;exact this
    obtain⟨hh,gg,dd,tt,oo⟩:=s6;obtain rfl:oo=s2.os:=hos;have fin:=Inv.call (d':=dd) (t':=tt) (ch:=fp) I2 u6 hok6 I6.bare λb hb=>⟨(f2 b hb).2.2.2.1,(f2 b hb).2.1,(f2 b hb).2.2.2.2.1,(f2 b hb).2.2.2.2.2⟩
    refine last fin ⟨hCn,fA (me I2.lt),I2.aT6 (iS _),.inr (dg I2.sz (iS _)),λx c e z=>?_,λp hp z=>?_⟩ hn6 q
    .obtain⟨v,qq⟩:=I2.cell x c e;exact aS (me qq.lt) (by rw[z];exact eW _)
    .exact aS (me (bw (I2.pin p hp).1)) (by rw[z];exact eW _)
   .have item:=T.item X' ep ew eK ecalm i [] s5 _ H5 (cE X X' use QQ s2.heap.objs.size) I5 (fpok fr5) st5 go;rw[eA] at item;refine thn item λr s6 ⟨u,hr,h6⟩=>?_
    subst hr;refine thn h6 λ_ s7 ⟨x,H7,I7,r7,y7,st7,fr7⟩=>?_
    have I7':=I7.pinned (fpok fr7) (T.obj _ _ st7);have hg':=hg X' cc _ s7 _ H7 x u _ I7' r7 (step x H7 y7);rw[ep,ew,eA,exe] at hg';refine eM hg' (λ_ s8 ⟨σ8,H8,I8,ext8,q8⟩=>?_) λ_ _ z=>dz z
    have back:cB X' (σ++bi own.length ai) fp tn W n i s7.heap:=by
     rintro ys' H9 s9 σ9 ex9 I9 ⟨n',hn',w9⟩;refine⟨n',hn',i+1,ys',H9,(I9.weak ex9.1.symm ex9.2).oF,T.keep _ _ _ st7 λb hb o e=>(I9.pin (b,o) (dA _ (dA _ (mL hb e)))).1,λb hb=>?_,w9⟩;obtain⟨o,e,d⟩:=T.obj _ _ st7 b hb;exact(I9.pin (b,o) (dA _ (dA _ (mL hb e)))).2.1
    exact hPO n i ys s7 σ8 H8 s8 back I8 ext8 hlen q8
  rcases hc with ⟨rfl,rfl⟩|⟨c,rfl,hc⟩
  .refine PySem.W.kcp_loop _ (key _ λn i ys s7 σ8 H8 s8 back I8 ext8 hlen q8=>?_) n0 ⟨0,[],_,I4,st4,fr4,w0⟩;simp only[c9] at q8;exact put n i ys s7 σ8 H8 s8 back I8 ext8 hlen q8
  .refine PySem.W.kct_loop _ (key _ λn i ys s7 σ8 H8 s8 back I8 ext8 hlen q8=>?_) n0 ⟨0,[],_,I4,st4,fr4,w0⟩;have hc':=hc X' cc _ s8 _ H8 _ I8 q8;rw[ep,ew,eA,exe] at hc';refine eM hc' (λb s9 ⟨H9,I9,q9⟩=>?_) λ_ _ z=>dz z
   cases b with
   |false=>
    simp only[fT,dw] at q9 ⊢;exact back ext8 I9 q9
   |true=>
    simp only[c9] at q9 ⊢;exact put n i ys s7 σ8 H9 s9 back I9 ext8 hlen q9
 have l4:=loop _ rfl;rw[eenv] at l4;exact codeAny_compStart_list l4 (T.self X.A 0 _ _ _ st4 l4)
def T7(f:Inv X Ψ σ H5 s6)(k:ZQ X Ψ H5 C)(n:s6.heap.Ns C m6)(q:Q (.ref p) H5):mf (ay X.prog X.w) X.A X.xe ai (EP X Ψ σ Q) (.ref p) C (.ok .next) s6:=
 ⟨m6,n,λh' sb=>⟨.ref p,H5,Inv.turned f (λb o hb e=>sb.extBut b o hb e) k.1 k.2.1 k.2.2.2.1 k.2.2.2.2.1 k.2.2.2.2.2,rfl,q⟩⟩
def aAl(S:dH X.N X.env.scope scope own)(hcalm:X.calm=ag)(hi:PI X tg iter wi)
 (hg:∀X',d7 X X' scope own->PG X' tg g)(hc:∀X',d7 X X' scope own->PT X' c tc)(he:∀X',d7 X X' scope own->PE X' elt te)
 (hs:∀x,fg iter X.env x=pure x):PE X (.ListComp elt [⟨tg,iter,[c],0⟩] scope pos) (QL wi g tc te own.length):=by
 intro Ψ s σ H Q I h;rw[Bk];exact QM S hcalm hi hg (.inr ⟨c,rfl,hc⟩) he hs I h T7
def aEp(S:dH X.N X.env.scope scope own)(hcalm:X.calm=ag)(hi:PI X tg iter wi)
 (hg:∀X',d7 X X' scope own->PG X' tg g)(he:∀X',d7 X X' scope own->PE X' elt te)
 (hs:∀x,fg iter X.env x=pure x):PE X (.ListComp elt [⟨tg,iter,[],0⟩] scope pos) (QL wi g (λ_ H Q=>Q ag H) te own.length):=by
 intro Ψ s σ H Q I h;rw[Bk];exact QM S hcalm hi hg (.inl ⟨rfl,rfl⟩) he hs I h T7
end
end L2
namespace Mi
open PySem L2 PySem.SeqAt
section
variable [KFrag]
def jA(I:Inv X Ψ σ H s)(e:H a=aa (.tup xs)):∃its:ae al,Vals xs its/\s.heap.IsTuple a its.toArray:=by
 obtain⟨_,its,r,p⟩:xs.length<=bd/\∃its:ae al,Vals xs its/\jF s.heap a its.toArray:=I.hok a _ e;exact⟨its,r,p.tup⟩
def d8(I:Inv X Ψ σ H s)(e:SqL X.K H a xs):∃its:ae al,Vals xs its/\s.heap.IsList a its.toArray:=by
 obtain⟨its,r,p,_⟩:=I.list e;exact⟨its,r,p.isList⟩
def Rep.gF(r:Rep P H v (.lst ds)):∃a xs,v=.ref a/\SqL K H a xs/\bJ P H xs ds:=by
 obtain⟨_,_,rfl,e,p,r⟩:=r.inv;exact⟨_,_,rfl,.inl (.inl e),r⟩
def Rep.eO(r:Rep P H v (.tup ds)):∃a xs,v=.ref a/\H a=aa (.tup xs)/\bJ P H xs ds:=by
 obtain⟨_,_,rfl,e,r⟩:=r.inv;exact⟨_,_,rfl,e,r⟩
mutual
def v7:∀(n:ah)(d:D),d.iG n=ag->eqD d d=ag
 |_,.non,_=>rfl
 |_,.bl b,_=>by exact eD b
 |_,.int i,_=>by exact eD i
 |_,.str x,_=>by exact eD x
 |n+1,.tup xs,h=>by exact oO n xs h
 |n+1,.lst xs,h=>by exact oO n xs h
 |n+1,.scr xs,h=>by exact oO n xs h
 |0,.scr xs,h=>by exact fx0 h
 |0,.tup xs,h=>by exact fx0 h
 |0,.lst xs,h=>by exact fx0 h
 |n,.dct _,h=>by cases n<;>exact fx0 h
 |n,.uD,h=>by cases n<;>exact fx0 h
 |n,.exc _ _,h=>by cases n<;>exact fx0 h
 |n,.ins _ _,h=>by cases n<;>exact fx0 h
 |n,.cel _ _,h=>by cases n<;>exact fx0 h
def oO:∀(n:ah)(ds:ae D),π n ds=ag->sZ ds ds=ag
 |_,[],_=>rfl
 |n,d::ds,h=>by
  rw[π,ba] at h;rw[sZ,v7 n d h.1,oO n ds h.2];rfl
end
def oR{X:Cx}(hK:KFrag.K=X.K)(r:Rep P H v (.scr ds)):∃a xs,v=.ref a/\SqL X.K H a xs/\bJ P H xs ds:=by
 obtain⟨a,xs,rfl,e,rr⟩:=r.inv;exact⟨a,xs,rfl,e.sq hK,rr⟩
def T8:∀{xs ys:ae V}{us:ae al},Vals xs us->Vals ys us->xs=ys
 |_,_,_,.nil,h=>by cases h;rfl
 |_,_,_,.cons a t,h=>by
  cases h with
  |cons b t'=>rw[RelV.inj a b,T8 t t']
def oE(I:Inv X Ψ σ H s)(e1:SqL X.K H a xs)(e2:SqL X.K H a ys):xs=ys:=by
 obtain⟨i1,r1,o,ho,hc,n,hd⟩:=d8 I e1;obtain⟨i2,r2,o',ho',hc',n',hd'⟩:=d8 I e2;rw[ho] at ho';cases ho';rw[hd] at hd';have:i1=i2:=by
  injection hd' with e
  simpa using e
 subst this;exact T8 r1 r2
def aEq(I:Inv X Ψ σ H s)(hK:KFrag.K=X.K)(e:aAi H a xs)(h:H a=aa ob):∃p,ob=.frz p (.lst xs):=by
 rcases e with ⟨o,e⟩|⟨o,its,n,e,_⟩
 .rw[e] at h;cases h;exact⟨o,rfl⟩
 .rw[hK] at e;have:=(I.bs a o (I.mod.kin a o e)).2;rw[h] at this;cases this
def bJ.aRv(ih:∀{v:V} {d e:D},d.iG n=ag->e.iG n=ag->Rep P H v d->Rep P' H v e->d=e):∀{ds es:ae D},π n ds=ag->π n es=ag->bJ P H vs ds->bJ P' H vs es->ds=es:=by
 induction vs with
 |nil=>intro ds es h h' r q;cases r;cases q;rfl
 |cons v vs ih2=>
  intro ds es h h' r q;cases r with
  |cons r t=>
   cases q with
   |cons r' t'=>
    rw[π,ba] at h h';rw[ih h.1 h'.1 r r',ih2 h.2 h'.2 t t']
def Rep.inj(I:Inv X Ψ σ H s)(hK:KFrag.K=X.K)(n:ah):∀{v:V}{d e:D},d.iG n=ag->e.iG n=ag->Rep P H v d->Rep P' H v e->d=e:=by
 induction n with
 |zero=>
  intro v d e h h' r q;cases d with
  |non=>obtain rfl:=r.inv;cases q;rfl
  |bl b=>obtain rfl:=r.inv;cases q;rfl
  |int i=>obtain rfl:=r.inv;cases q;rfl
  |str x=>obtain rfl:=r.inv;cases q;rfl
  |_=>exact fx0 h
 |succ n ih=>
  intro v d e h h' r q;cases d with
  |non=>obtain rfl:=r.inv;cases q;rfl
  |bl b=>obtain rfl:=r.inv;cases q;rfl
  |int i=>obtain rfl:=r.inv;cases q;rfl
  |str x=>obtain rfl:=r.inv;cases q;rfl
  |tup ds=>
   obtain⟨a,xs,rfl,e1,r1⟩:=r.inv;cases q with
   |tup e2 r2=>
    rw[e1] at e2;cases e2;rw[bJ.aRv ih h h' r1 r2]
   |lst e2 _ _=>rw[e1] at e2;cases e2
   |frz e2 _=>obtain⟨_,z⟩:=aEq I hK e2 e1;cases z
   |dK e2 _ _ _=>rw[e1] at e2;cases e2
   |dT e2 _ _ _=>rw[e1] at e2;cases e2
   |_=>exact fx0 h'
  |lst ds=>
   obtain⟨a,xs,rfl,e1,_,r1⟩:=r.inv;cases q with
   |tup e2 r2=>rw[e1] at e2;cases e2
   |lst e2 _ r2=>
    rw[e1] at e2;cases e2;rw[bJ.aRv ih h h' r1 r2]
   |dK e2 _ _ _=>rw[e1] at e2;cases e2
   |dT e2 _ _ _=>rw[e1] at e2;cases e2
   |frz e2 _=>obtain⟨_,z⟩:=aEq I hK e2 e1;cases z
   |_=>exact fx0 h'
  |scr ds=>
   obtain⟨a,xs,rfl,e1,r1⟩:=r.inv;cases q with
   |tup e2 r2=>obtain⟨_,z⟩:=aEq I hK e1 e2;cases z
   |lst e2 _ r2=>obtain⟨_,z⟩:=aEq I hK e1 e2;cases z
   |frz e2 r2=>
    cases oE I (e1.sq hK) (e2.sq hK);rw[bJ.aRv ih h h' r1 r2]
   |_=>exact fx0 h'
  |_=>exact fx0 h
def iU:∀(xs ys:ae D),sZ xs ys=((e9 (min xs.length ys.length)).all (λj=>eqD (xs.getD j .non) (ys.getD j .non))&&xs.length==ys.length)
 |[],[]=>by simp[sZ]
 |[],y::ys=>by simp[sZ]
 |x::xs,[]=>by simp[sZ]
 |x::xs,y::ys=>by
  have e:min (x::xs).length (y::ys).length=min xs.length ys.length+1:=by simp only[bz];lia
  rw[sZ,iU xs ys,e,Bl,hU,vh,Bm]
  congr 1
  simp[DH]
def oU:∀{ds:ae D}{j:ah},π n ds=ag->j<ds.length->(ds.getD j .non).iG n=ag
 |[],j,_,h=>by simp at h
 |d::ds,0,h,_=>by rw[π,ba] at h;exact h.1
 |d::ds,j+1,h,hj=>by
  rw[π,ba] at h;simpa using oU h.2 (by simpa using hj)
def bJ.getD(r:bJ P H vs ds)(hj:j<ds.length):∃v,vs[j]?=aa v/\Rep P H v (ds.getD j .non):=by
 obtain⟨v,h1,h2⟩:=r.get (i:=j) (d:=ds.getD j .non) (by simp[hj]);exact⟨v,h1,h2⟩
section
def xV(ha:a.iG 0=ag)(hb:b.iG 0=ag)(rx:Rep All H x a)(ry:Rep All H y b)(ru:RelV x u)(rv:RelV y v):iv A s u v (eqD a b)/\iw A s u v (!eqD a b)/\EqAt A s u v (eqD a b):=by
 cases rx with
 |non=>
  cases ru;cases ry with
  |non=>cases rv;exact⟨RcAt.none_none,RcNeAt.none_none,vj _⟩
  |bl _=>cases rv;exact⟨RcAt.none_bool _,RcNeAt.none_bool _,EqAt.none_bool _⟩
  |int _=>obtain⟨t,rfl⟩:=rv;exact⟨RcAt.none_int _ _,RcNeAt.none_int _ _,EqAt.none_int _ _⟩
  |str _=>obtain⟨t,rfl⟩:=rv;exact⟨RcAt.none_str _ _,RcNeAt.none_str _ _,EqAt.none_str _ _⟩
  |_=>exact fx0 hb
 |bl _=>
  cases ru;cases ry with
  |non=>cases rv;exact⟨RcAt.bool_none _,RcNeAt.bool_none _,EqAt.bool_none _⟩
  |bl _=>cases rv;exact⟨RcAt.bool_bool _ _,RcNeAt.bool_bool _ _,EqAt.bool_bool _ _⟩
  |int _=>obtain⟨t,rfl⟩:=rv;exact⟨RcAt.bool_int _ _ _,RcNeAt.bool_int _ _ _,EqAt.bool_int _ _ _⟩
  |str _=>obtain⟨t,rfl⟩:=rv;exact⟨RcAt.bool_str _ _ _,RcNeAt.bool_str _ _ _,EqAt.bool_str _ _ _⟩
  |_=>exact fx0 hb
 |int _=>
  obtain⟨t,rfl⟩:=ru;cases ry with
  |non=>cases rv;exact⟨RcAt.int_none _ _,RcNeAt.int_none _ _,EqAt.int_none _ _⟩
  |bl _=>cases rv;exact⟨RcAt.int_bool _ _ _,RcNeAt.int_bool _ _ _,EqAt.int_bool _ _ _⟩
  |int _=>obtain⟨t',rfl⟩:=rv;exact⟨RcAt.int_int _ _ _ _,RcNeAt.int_int _ _ _ _,EqAt.int_int _ _ _ _⟩
  |str _=>obtain⟨t',rfl⟩:=rv;exact⟨RcAt.int_str _ _ _ _,RcNeAt.int_str _ _ _ _,An _ _ _ _⟩
  |_=>exact fx0 hb
 |str _=>
  obtain⟨t,rfl⟩:=ru;cases ry with
  |non=>cases rv;exact⟨RcAt.str_none _ _,RcNeAt.str_none _ _,EqAt.str_none _ _⟩
  |bl _=>cases rv;exact⟨RcAt.str_bool _ _ _,RcNeAt.str_bool _ _ _,EqAt.str_bool _ _ _⟩
  |int _=>obtain⟨t',rfl⟩:=rv;exact⟨RcAt.str_int _ _ _ _,RcNeAt.str_int _ _ _ _,Ao _ _ _ _⟩
  |str _=>obtain⟨t',rfl⟩:=rv;exact⟨RcAt.str_str _ _ _ _,RcNeAt.str_str _ _ _ _,EqAt.str_str _ _ _ _⟩
  |_=>exact fx0 hb
 |_=>exact fx0 ha
def aAm(hK:KFrag.K=X.K)(I:Inv X Ψ σ H s):∀(n:ah)(A:bP){x y:V}{a b:D}{u v:al},A.units+n<c8->a.iG n=ag->b.iG n=ag->Rep All H x a->Rep All H y b->RelV x u->RelV y v->
  iv A s u v (eqD a b)/\iw A s u v (!eqD a b)/\EqAt A s u v (eqD a b):=by
 intro n;induction n with
 |zero=>exact λA=>λ_ ha hb rx ry ru rv=>xV ha hb rx ry ru rv
 |succ n ih=>
  intro A x y a b u v hu ha hb rx ry ru rv;have hu0:A.units<c8:=by lia
  have hu1:A.in1.units+n<c8:=by show A.units+1+n<c8;lia
  have itm:∀{xs ys:ae V}{ds es:ae D}{i1 i2:ae al},π n ds=ag->π n es=ag->bJ All H xs ds->bJ All H ys es->Vals xs i1->Vals ys i2->∀j (g1:j<i1.toArray.size) (g2:j<i2.toArray.size),EqAt A.in1 s i1.toArray[j] i2.toArray[j] (eqD (ds.getD j .non) (es.getD j .non)):=by
   intro xs ys ds es i1 i2 ha hb r1 r2 vr1 vr2 j g1 g2;have z1:i1.toArray.size=ds.length:=by rw[b5,<-vr1.length,r1.length]
   have z2:i2.toArray.size=es.length:=by rw[b5,<-vr2.length,r2.length]
   obtain⟨v1,w1,rr1⟩:=r1.getD (j:=j) 0x1;obtain⟨v2,w2,rr2⟩:=r2.getD (j:=j) 0x1;obtain⟨u1,k1,l1⟩:=vr1.get w1;obtain⟨u2,k2,l2⟩:=vr2.get w2;have m1:i1.toArray[j]=u1:=by
    rw[eh (by simpa using g1)] at k1;simpa using gi k1
   have m2:i2.toArray[j]=u2:=by
    rw[eh (by simpa using g2)] at k2;simpa using gi k2
   rw[m1,m2];exact(ih A.in1 hu1 (oU ha 0x1) (oU hb 0x1) rr1 rr2 l1 l2).2.2
  cases a with
  |non=>
   cases b with
   |tup es=>
    cases rx.inv;cases ru;obtain⟨q,ys,rfl,e2,r2⟩:=ry.eO;cases rv;obtain⟨its2,vr2,h2⟩:=jA I e2;exact⟨RcAt.none_tuple h2 hu0,RcNeAt.none_tuple h2 hu0,EqAt.none_tuple h2 hu0⟩
   |lst es=>
    cases rx.inv;cases ru;obtain⟨q,ys,rfl,e2,r2⟩:=ry.gF (K:=X.K);cases rv;obtain⟨its2,vr2,h2⟩:=d8 I e2;exact⟨Bn h2 hu0,Bo h2 hu0,Bp h2 hu0⟩
   |scr es=>
    cases rx.inv;cases ru;obtain⟨q,ys,rfl,e2,r2⟩:=oR hK ry;cases rv;obtain⟨its2,vr2,h2⟩:=d8 I e2;exact⟨Bn h2 hu0,Bo h2 hu0,Bp h2 hu0⟩
   |_=>first|exact xV rfl rfl rx ry ru rv|exact aS ry Rep.uD|exact fx0 hb
  |bl _=>
   cases b with
   |tup es=>
    cases rx.inv;cases ru;obtain⟨q,ys,rfl,e2,r2⟩:=ry.eO;cases rv;obtain⟨its2,vr2,h2⟩:=jA I e2;exact⟨RcAt.bool_tuple _ h2 hu0,RcNeAt.bool_tuple _ h2 hu0,EqAt.bool_tuple _ h2 hu0⟩
   |lst es=>
    cases rx.inv;cases ru;obtain⟨q,ys,rfl,e2,r2⟩:=ry.gF (K:=X.K);cases rv;obtain⟨its2,vr2,h2⟩:=d8 I e2;exact⟨Bq _ h2 hu0,Br _ h2 hu0,Bs _ h2 hu0⟩
   |scr es=>
    cases rx.inv;cases ru;obtain⟨q,ys,rfl,e2,r2⟩:=oR hK ry;cases rv;obtain⟨its2,vr2,h2⟩:=d8 I e2;exact⟨Bq _ h2 hu0,Br _ h2 hu0,Bs _ h2 hu0⟩
   |_=>first|exact xV rfl rfl rx ry ru rv|exact aS ry Rep.uD|exact fx0 hb
  |int _=>
   cases b with
   |tup es=>
    cases rx.inv;obtain⟨t1,rfl⟩:=ru;obtain⟨q,ys,rfl,e2,r2⟩:=ry.eO;cases rv;obtain⟨its2,vr2,h2⟩:=jA I e2;exact⟨RcAt.int_tuple _ _ h2 hu0,RcNeAt.int_tuple _ _ h2 hu0,EqAt.int_tuple _ _ h2 hu0⟩
   |lst es=>
    cases rx.inv;obtain⟨t1,rfl⟩:=ru;obtain⟨q,ys,rfl,e2,r2⟩:=ry.gF (K:=X.K);cases rv;obtain⟨its2,vr2,h2⟩:=d8 I e2;exact⟨Bu _ _ h2 hu0,Bv _ _ h2 hu0,Bw _ _ h2 hu0⟩
   |scr es=>
    cases rx.inv;obtain⟨t1,rfl⟩:=ru;obtain⟨q,ys,rfl,e2,r2⟩:=oR hK ry;cases rv;obtain⟨its2,vr2,h2⟩:=d8 I e2;exact⟨Bu _ _ h2 hu0,Bv _ _ h2 hu0,Bw _ _ h2 hu0⟩
   |_=>first|exact xV rfl rfl rx ry ru rv|exact aS ry Rep.uD|exact fx0 hb
  |str _=>
   cases b with
   |tup es=>
    cases rx.inv;obtain⟨t1,rfl⟩:=ru;obtain⟨q,ys,rfl,e2,r2⟩:=ry.eO;cases rv;obtain⟨its2,vr2,h2⟩:=jA I e2;exact⟨RcAt.str_tuple _ _ h2 hu0,RcNeAt.str_tuple _ _ h2 hu0,EqAt.str_tuple _ _ h2 hu0⟩
   |lst es=>
    cases rx.inv;obtain⟨t1,rfl⟩:=ru;obtain⟨q,ys,rfl,e2,r2⟩:=ry.gF (K:=X.K);cases rv;obtain⟨its2,vr2,h2⟩:=d8 I e2;exact⟨Bx _ _ h2 hu0,By _ _ h2 hu0,Bz _ _ h2 hu0⟩
   |scr es=>
    cases rx.inv;obtain⟨t1,rfl⟩:=ru;obtain⟨q,ys,rfl,e2,r2⟩:=oR hK ry;cases rv;obtain⟨its2,vr2,h2⟩:=d8 I e2;exact⟨Bx _ _ h2 hu0,By _ _ h2 hu0,Bz _ _ h2 hu0⟩
   |_=>first|exact xV rfl rfl rx ry ru rv|exact aS ry Rep.uD|exact fx0 hb
  |tup ds=>
   obtain⟨p,xs,rfl,e1,r1⟩:=rx.eO;cases ru;obtain⟨its1,vr1,h1⟩:=jA I e1;replace ha:π _ _=ag:=ha;cases b with
   |non=>cases ry.inv;cases rv;exact⟨RcAt.tuple_none h1 hu0,RcNeAt.tuple_none h1 hu0,EqAt.tuple_none h1 hu0⟩
   |bl _=>cases ry.inv;cases rv;exact⟨RcAt.tuple_bool _ h1 hu0,RcNeAt.tuple_bool _ h1 hu0,EqAt.tuple_bool _ h1 hu0⟩
   |int _=>cases ry.inv;obtain⟨t2,rfl⟩:=rv;exact⟨RcAt.tuple_int _ _ h1 hu0,RcNeAt.tuple_int _ _ h1 hu0,EqAt.tuple_int _ _ h1 hu0⟩
   |str _=>cases ry.inv;obtain⟨t2,rfl⟩:=rv;exact⟨RcAt.tuple_str _ _ h1 hu0,RcNeAt.tuple_str _ _ h1 hu0,EqAt.tuple_str _ _ h1 hu0⟩
   |tup es=>
    obtain⟨q,ys,rfl,e2,r2⟩:=ry.eO;cases rv;obtain⟨its2,vr2,h2⟩:=jA I e2;replace hb:π _ _=ag:=hb;have z1:its1.toArray.size=ds.length:=by rw[b5,<-vr1.length,r1.length]
    have z2:its2.toArray.size=es.length:=by rw[b5,<-vr2.length,r2.length]
    have he:=itm ha hb r1 r2 vr1 vr2;have ee:eqD (.tup ds) (.tup es)=((e9 (min its1.toArray.size its2.toArray.size)).all (λj=>eqD (ds.getD j .non) (es.getD j .non))&&its1.toArray.size==its2.toArray.size):=by
     rw[show eqD (.tup _) (.tup _)=sZ _ _ from rfl,iU,z1,z2]
    have r0:=RcAt.tuples h1 h2 hu0 he;have r0':=RcNeAt.tuples h1 h2 hu0 he;rw[<-ee] at r0 r0';refine⟨r0,r0',?_⟩;by_cases hpq:p=q
    .subst hpq;have hab:(μ ds)=(.tup es):=Rep.inj I hK (n+1) ha hb rx ry;rw[<-hab,v7 (n+1) (.tup ds) ha];exact vj _
    .exact oj hpq r0
   |lst es=>
    obtain⟨q,ys,rfl,e2,r2⟩:=ry.gF (K:=X.K);cases rv;obtain⟨its2,vr2,h2⟩:=d8 I e2;exact⟨BA h1 h2 hu0,BB h1 h2 hu0,BC h1 h2 hu0⟩
   |scr es=>
    obtain⟨q,ys,rfl,e2,r2⟩:=oR hK ry;cases rv;obtain⟨its2,vr2,h2⟩:=d8 I e2;exact⟨BA h1 h2 hu0,BB h1 h2 hu0,BC h1 h2 hu0⟩
   |_=>first|exact aS ry Rep.uD|exact fx0 hb
  |lst ds=>
   obtain⟨p,xs,rfl,e1,r1⟩:=rx.gF (K:=X.K);cases ru;obtain⟨its1,vr1,h1⟩:=d8 I e1;replace ha:π _ _=ag:=ha;cases b with
   |non=>cases ry.inv;cases rv;exact⟨BD h1 hu0,BE h1 hu0,BF h1 hu0⟩
   |bl _=>cases ry.inv;cases rv;exact⟨BG _ h1 hu0,BH _ h1 hu0,BI _ h1 hu0⟩
   |int _=>cases ry.inv;obtain⟨t2,rfl⟩:=rv;exact⟨BM _ _ h1 hu0,BN _ _ h1 hu0,BO _ _ h1 hu0⟩
   |str _=>cases ry.inv;obtain⟨t2,rfl⟩:=rv;exact⟨BQ _ _ h1 hu0,BS _ _ h1 hu0,BU _ _ h1 hu0⟩
   |tup es=>
    obtain⟨q,ys,rfl,e2,r2⟩:=ry.eO;cases rv;obtain⟨its2,vr2,h2⟩:=jA I e2;exact⟨BY h1 h2 hu0,B0 h1 h2 hu0,B2 h1 h2 hu0⟩
   |lst es=>
    obtain⟨q,ys,rfl,e2,r2⟩:=ry.gF (K:=X.K);cases rv;obtain⟨its2,vr2,h2⟩:=d8 I e2;replace hb:π _ _=ag:=hb;have z1:its1.toArray.size=ds.length:=by rw[b5,<-vr1.length,r1.length]
    have z2:its2.toArray.size=es.length:=by rw[b5,<-vr2.length,r2.length]
    have he:=itm ha hb r1 r2 vr1 vr2;have r00:iv A s (.ref p) (.ref q) (eqD (.lst ds) (.lst es))/\iw A s (.ref p) (.ref q) (!eqD (.lst ds) (.lst es)):=by
     show iv A s (.ref p) (.ref q) (sZ ds es)/\iw A s (.ref p) (.ref q) (!sZ ds es);rw[iU];by_cases hz:ds.length=es.length
     .have r0:=vn h1 h2 0x1 hu0 he;have r0':=vo h1 h2 0x1 hu0 he;rw[z1] at r0 r0';rw[show min ds.length es.length=ds.length by lia,show(ds.length==es.length)=ag by simpa using hz,om];exact⟨r0,r0'⟩
     .have hz':(its1.toArray.size !=its2.toArray.size)=ag:=by rw[z1,z2];simpa using hz
      rw[show(ds.length==es.length)=aj by simpa using hz,l8];exact⟨vq h1 h2 hz' hu0,vx h1 h2 hz' hu0⟩
    obtain⟨r0,r0'⟩:=r00;refine⟨r0,r0',?_⟩;by_cases hpq:p=q
    .subst hpq;have hab:(υ ds)=(.lst es):=Rep.inj I hK (n+1) ha hb rx ry;rw[<-hab,v7 (n+1) (.lst ds) ha];exact vj _
    .exact oj hpq r0
   |scr es=>
    obtain⟨q,ys,rfl,e2,r2⟩:=oR hK ry;cases rv;obtain⟨its2,vr2,h2⟩:=d8 I e2;replace hb:π _ _=ag:=hb;have z1:its1.toArray.size=ds.length:=by rw[b5,<-vr1.length,r1.length]
    have z2:its2.toArray.size=es.length:=by rw[b5,<-vr2.length,r2.length]
    have he:=itm ha hb r1 r2 vr1 vr2;have r00:iv A s (.ref p) (.ref q) (eqD (.lst ds) (.scr es))/\iw A s (.ref p) (.ref q) (!eqD (.lst ds) (.scr es)):=by
     show iv A s (.ref p) (.ref q) (sZ ds es)/\iw A s (.ref p) (.ref q) (!sZ ds es);rw[iU];by_cases hz:ds.length=es.length
     .have r0:=vn h1 h2 0x1 hu0 he;have r0':=vo h1 h2 0x1 hu0 he;rw[z1] at r0 r0';rw[show min ds.length es.length=ds.length by lia,show(ds.length==es.length)=ag by simpa using hz,om];exact⟨r0,r0'⟩
     .have hz':(its1.toArray.size !=its2.toArray.size)=ag:=by rw[z1,z2];simpa using hz
      rw[show(ds.length==es.length)=aj by simpa using hz,l8];exact⟨vq h1 h2 hz' hu0,vx h1 h2 hz' hu0⟩
    obtain⟨r0,r0'⟩:=r00;refine⟨r0,r0',?_⟩;by_cases hpq:p=q
    .subst hpq;have hab:(υ ds)=(.scr es):=Rep.inj I hK (n+1) ha hb rx ry;cases hab
    .exact oj hpq r0
   |_=>first|exact aS ry Rep.uD|exact fx0 hb
  |scr ds=>
   obtain⟨p,xs,rfl,e1,r1⟩:=oR hK rx;cases ru;obtain⟨its1,vr1,h1⟩:=d8 I e1;replace ha:π _ _=ag:=ha;cases b with
   |non=>cases ry.inv;cases rv;exact⟨BD h1 hu0,BE h1 hu0,BF h1 hu0⟩
   |bl _=>cases ry.inv;cases rv;exact⟨BG _ h1 hu0,BH _ h1 hu0,BI _ h1 hu0⟩
   |int _=>cases ry.inv;obtain⟨t2,rfl⟩:=rv;exact⟨BM _ _ h1 hu0,BN _ _ h1 hu0,BO _ _ h1 hu0⟩
   |str _=>cases ry.inv;obtain⟨t2,rfl⟩:=rv;exact⟨BQ _ _ h1 hu0,BS _ _ h1 hu0,BU _ _ h1 hu0⟩
   |tup es=>
    obtain⟨q,ys,rfl,e2,r2⟩:=ry.eO;cases rv;obtain⟨its2,vr2,h2⟩:=jA I e2;exact⟨BY h1 h2 hu0,B0 h1 h2 hu0,B2 h1 h2 hu0⟩
   |lst es=>
    obtain⟨q,ys,rfl,e2,r2⟩:=ry.gF (K:=X.K);cases rv;obtain⟨its2,vr2,h2⟩:=d8 I e2;replace hb:π _ _=ag:=hb;have z1:its1.toArray.size=ds.length:=by rw[b5,<-vr1.length,r1.length]
    have z2:its2.toArray.size=es.length:=by rw[b5,<-vr2.length,r2.length]
    have he:=itm ha hb r1 r2 vr1 vr2;have r00:iv A s (.ref p) (.ref q) (eqD (.scr ds) (.lst es))/\iw A s (.ref p) (.ref q) (!eqD (.scr ds) (.lst es)):=by
     show iv A s (.ref p) (.ref q) (sZ ds es)/\iw A s (.ref p) (.ref q) (!sZ ds es);rw[iU];by_cases hz:ds.length=es.length
     .have r0:=vn h1 h2 0x1 hu0 he;have r0':=vo h1 h2 0x1 hu0 he;rw[z1] at r0 r0';rw[show min ds.length es.length=ds.length by lia,show(ds.length==es.length)=ag by simpa using hz,om];exact⟨r0,r0'⟩
     .have hz':(its1.toArray.size !=its2.toArray.size)=ag:=by rw[z1,z2];simpa using hz
      rw[show(ds.length==es.length)=aj by simpa using hz,l8];exact⟨vq h1 h2 hz' hu0,vx h1 h2 hz' hu0⟩
    obtain⟨r0,r0'⟩:=r00;refine⟨r0,r0',?_⟩;by_cases hpq:p=q
    .subst hpq;have hab:(D.scr ds)=(.lst es):=Rep.inj I hK (n+1) ha hb rx ry;cases hab
    .exact oj hpq r0
   |scr es=>
    obtain⟨q,ys,rfl,e2,r2⟩:=oR hK ry;cases rv;obtain⟨its2,vr2,h2⟩:=d8 I e2;replace hb:π _ _=ag:=hb;have z1:its1.toArray.size=ds.length:=by rw[b5,<-vr1.length,r1.length]
    have z2:its2.toArray.size=es.length:=by rw[b5,<-vr2.length,r2.length]
    have he:=itm ha hb r1 r2 vr1 vr2;have r00:iv A s (.ref p) (.ref q) (eqD (.scr ds) (.scr es))/\iw A s (.ref p) (.ref q) (!eqD (.scr ds) (.scr es)):=by
     show iv A s (.ref p) (.ref q) (sZ ds es)/\iw A s (.ref p) (.ref q) (!sZ ds es);rw[iU];by_cases hz:ds.length=es.length
     .have r0:=vn h1 h2 0x1 hu0 he;have r0':=vo h1 h2 0x1 hu0 he;rw[z1] at r0 r0';rw[show min ds.length es.length=ds.length by lia,show(ds.length==es.length)=ag by simpa using hz,om];exact⟨r0,r0'⟩
     .have hz':(its1.toArray.size !=its2.toArray.size)=ag:=by rw[z1,z2];simpa using hz
      rw[show(ds.length==es.length)=aj by simpa using hz,l8];exact⟨vq h1 h2 hz' hu0,vx h1 h2 hz' hu0⟩
    obtain⟨r0,r0'⟩:=r00;refine⟨r0,r0',?_⟩;by_cases hpq:p=q
    .subst hpq;have hab:(D.scr ds)=(.scr es):=Rep.inj I hK (n+1) ha hb rx ry;rw[<-hab,v7 (n+1) (.scr ds) ha];exact vj _
    .exact oj hpq r0
   |_=>first|exact aS ry Rep.uD|exact fx0 hb
  |_=>first|exact aS rx Rep.uD|exact fx0 ha
end
end
open PySem.Spec PyProof.Rows
section
variable [KFrag]
def kR(H:Hp)(d:D)(fr:aw)(Q:VK):Prop:=∀v H',bK H H'->Rep All H' v d->(fr=ag->Rep (New H) H' v d)->Q v H'
noncomputable def gE(f:FE)(fr:aw):TE:=λσ H Q=>∃ρ d,ER H σ ρ/\f ρ=.ok d/\kR H d fr Q
noncomputable def gT(f:FT):TT:=λσ H Q=>∃ρ b,ER H σ ρ/\f ρ=.ok b/\∀H',bK H H'->Q b H'
noncomputable def gA(f:FA)(fr:aw):TA:=λσ H Q=>∃ρ ds,ER H σ ρ/\f ρ=.ok ds/\∀vs H',bK H H'->bJ All H' vs ds->(fr=ag->bJ (New H) H' vs ds)->Q vs H'
def kR.self{fr:aw}(q:kR H d fr Q)(r:Rep All H v d)(r2:fr=ag->Rep (New H) H v d):Q v H:=q v H (bK.refl H) r r2
def kR.imp{fr fr':aw}(q:kR H d fr Q)(s:bK H H')(h:fr=ag->fr'=ag):kR H' d fr' Q:=λv H2 s2 r n=>q v H2 (s.trans s2) r λhf=>(n (h hf)).mono (bK.new s)
def kR.int{fr:aw}{Q:VK}(q:kR H (.int i) fr Q):Q (.int i) H:=q.self (.int i) λ_=>.int i
def kR.bl{fr:aw}{Q:VK}(q:kR H (.bl i) fr Q):Q (.bl i) H:=q.self (.bl i) λ_=>.bl i
def kR.str{fr:aw}{Q:VK}(q:kR H (.str i) fr Q):Q (.str i) H:=q.self (.str i) λ_=>.str i
def kR.non{fr:aw}{Q:VK}(q:kR H .non fr Q):Q .non H:=q.self .non λ_=>.non
noncomputable def r2(f:D->D->Res D)(fr:aw):R2:=λx y H Q=>∃a b d,Rep All H x a/\Rep All H y b/\f a b=.ok d/\kR H d fr Q
def rs(f:ae D->Res D)(fr:aw):ae V->Hp->VK->Prop:=λxs H Q=>∃ds d,bJ All H xs ds/\f ds=.ok d/\kR H d fr Q
def rm(f:D->ae D->Res D)(fr:aw):V->ae V->Hp->VK->Prop:=λx xs H Q=>∃a ds d,Rep All H x a/\bJ All H xs ds/\f a ds=.ok d/\kR H d fr Q
def bA{f:α->Res β}(h:(do let x <- m;f x)=.ok b):∃a,m=.ok a/\f a=.ok b:=Res.aJb h
section
variable {X:Cx} {a b e:Expr} {pos:cm} {fa fb fe:FE} {ra rb re:aw} {ga:FT}
def ER.var(E:ER H σ ρ)(h:eZ i ρ=.ok d):∃v,σ[i]?=aa (aa v)/\Rep All H v d/\ρ.getD i .uD=d:=by
 have:ρ.getD i .uD=d/\d≠.uD:=by
  unfold eZ at h;split at h
  .exact bx h
  .cases h;refine⟨rfl,λz=>?_⟩;rename_i q;exact q z
 obtain⟨e1,e2⟩:=this;obtain⟨v,h1,h2⟩:=E i (by rw[e1];exact e2);exact⟨v,h1,by rw[e1] at h2;exact h2,e1⟩
def aB(hN:X.N[i]?=aa x:=by exact rfl)(hv:Vis X.env.scope x:=by trivial)(hd:nDb x:=by decide)(hcd:nCd x:=by decide):PE X (.Name x pos) (gE (eZ i) aj):=
 PE.imp (a_ hN hv hd hcd) λσ H Q z0=>by
  obtain⟨ρ,d,E,h,q⟩:=z0;obtain⟨v,h1,h2,_⟩:=E.var h;exact⟨v,h1,q.self h2 (λz=>by cases z)⟩
def aL{i j}:PE X (.Constant (.int i) j pos) (gE (bC (.int i)) ag):=PE.imp oA λσ H Q z0=>by obtain⟨ρ,d,E,h,q⟩:=z0;cases h;exact q.int
def aAn{i j}:PE X (.Constant (.bool i) j pos) (gE (bC (.bl i)) ag):=PE.imp aRd λσ H Q z0=>by obtain⟨ρ,d,E,h,q⟩:=z0;cases h;exact q.bl
def bR{i j}:PE X (.Constant (.str i) j pos) (gE (bC (.str i)) ag):=PE.imp BP λσ H Q z0=>by obtain⟨ρ,d,E,h,q⟩:=z0;cases h;exact q.str
def xW{j}:PE X (.Constant .none j pos) (gE (bC .non) ag):=PE.imp aH1 λσ H Q z0=>by obtain⟨ρ,d,E,h,q⟩:=z0;cases h;exact q.non
theorem two{fr:aw}{σ:L2.St}{H:Hp}{Q:VK}(h:gE (b2 f fa fb) fr σ H Q):tOp (r2 f fr) (gE fa ra) (gE fb rb) σ H Q:=by
 obtain⟨ρ,d,E,h,q⟩:=h;obtain⟨x,h1,h⟩:=bA h;obtain⟨y,h2,h⟩:=bA h;refine⟨ρ,x,E,h1,λv H1 s1 rp1 _=>⟨ρ,y,E.same s1,h2,λu H2 s2 rp2 _=>⟨x,y,d,rp1.same s2,rp2,h,q.imp (s1.trans s2) id⟩⟩⟩
def bY{o:Operator}{f:D->D->Res D}{fr:aw}(ho:OpR X (ef o) (r2 f fr))(ha:PE X a (gE fa ra))(hb:PE X b (gE fb rb)):PE X (.BinOp a o b pos) (gE (b2 f fa fb) fr):=PE.imp (aRm ho ha hb) λ_ _ _=>two
def aNp{o:nt}{f:D->D->Res D}{fr:aw}(ho:OpR X (c6 o) (r2 f fr))(ha:PE X a (gE fa ra))(hb:PE X b (gE fb rb))(hm:ie o b=aj):PE X (.Compare a [o] [b] pos) (gE (b2 f fa fb) fr):=PE.imp (aIu ho ha hb hm) λ_ _ _=>two
def dI{o:nt}{f:D->D->Res D}{fr:aw}(ho:OpR X (c6 o) (r2 f fr))(ha:PE X a (gE fa ra))(hb:PE X b (gE fb rb))(hm:ie o b=aj):PT X (.Compare a [o] [b] pos) (gT (bTB (b2 f fa fb))):=
 PT.imp (aA0 ho ha hb hm) λσ H Q z0=>by
  obtain⟨ρ,k,E,h,q⟩:=z0;obtain⟨d,h1,h2⟩:=bA h;refine two ⟨ρ,d,E,h1,λv H' s r _=>?_⟩;cases d<;>simp only[asB] at h2<;>cases h2
  cases r.inv;exact⟨_,rfl,q H' s⟩
def aRw{f:D->D->Res D}{fr:aw}(ho:IxR X (r2 f fr))(ha:PE X a (gE fa ra))(hb:PE X b (gE fb rb))(hs:DY b):PE X (.Subscript a b pos) (gE (b2 f fa fb) fr):=PE.imp (aA7 ho ha hb hs) λ_ _ _=>two
def aUj(r:Rep All H v d)(h:aTe d=.ok k)(hd:∀kvs,d≠.dct kvs)(hs:∀xs,d≠.scr xs):aR0 X.K v H k:=by
 cases r with
 |non=>cases h;rfl
 |bl b=>cases h;rfl
 |int i=>cases h;rfl
 |str x=>
  replace h:(if ϒ (x.length<=lim) then τ ((x.length:ak)!=0) else .bad)=.ok k:=h;split at h
  .rename_i hl;cases h;exact⟨dg (dy hl) (by rw[cy];decide),rfl⟩
  .exact bx h
 |tup e rr=>cases h;exact .inr (.inl ⟨_,.of e,by cases rr<;>rfl⟩)
 |lst e p rr=>cases h;exact .inl ⟨_,.of e,by cases rr<;>rfl⟩
 |frz e rr=>exact aS rfl (hs _)
 |dK e p rr n=>exact aS rfl (hd _)
 |dT e p rr n=>exact aS rfl (hd _)
 |exc n e q=>exact bx h
 |ins n e q=>exact bx h
 |cel e p rr=>exact bx h
def xX(ha:PE X a (gE fa ra))(he:∀whole,sC a X.env whole=(do let v <- whole;xD a.pos;ky [v] (truthy v)):=by intro _;rfl):PT X a (gT (bTr fa)):=
 PT.imp (S_ ha he) λσ H Q z0=>by
  obtain⟨ρ,k,E,h,q⟩:=z0;obtain⟨d,h1,h2⟩:=bA h;refine⟨ρ,d,E,h1,λv H' s r _=>⟨k,aUj r ?_ ?_ ?_,q H' s⟩⟩
  .cases d<;>first|exact h2|exact bx h2
  .rintro kvs rfl;exact bx h2
  .rintro kvs rfl;exact bx h2
def T9(ha:PT X a (gT ga)):PT X (.UnaryOp .Not a pos) (gT (aEm ga)):=PT.imp (aMw ha) λσ H Q z0=>by
  obtain⟨ρ,k,E,h,q⟩:=z0;obtain⟨d,h1,h2⟩:=bA h;cases h2;exact⟨ρ,d,E,h1,λH' s=>q H' s⟩
def aNq{op}(ha:PE X a (gE fa ra)):PE X (.BoolOp op [a] pos) (gE fa ra):=aMx ha
def T_(h:asB d=.ok k):d=.bl k:=by cases d<;>simp only[asB] at h<;>cases h;rfl
def aNr(h:asI d=.ok k):d=.int k:=by cases d<;>simp only[asI] at h<;>cases h;rfl
theorem aNs{rest:ae Expr}(ha:PE X a (gE fa ra))(hb:PE X (.BoolOp .And (b::rest) pos) (gE fb rb)):PE X (.BoolOp .And (a::b::rest) pos) (gE (XX fa fb) rb):=PE.imp (aMy ha hb) λσ H Q z0=>by
  obtain⟨ρ,k,E,h,q⟩:=z0;obtain⟨d,h1,h⟩:=bA h;obtain⟨z,h2,h3⟩:=bA h;cases T_ h2;refine⟨ρ,_,E,h1,λv H' s r _=>?_⟩;cases r.inv;refine⟨_,rfl,?_⟩;cases z with
  |true=>rw[aq rfl];rw[aq rfl] at h3;exact⟨ρ,k,E.same s,h3,q.imp s id⟩
  |false=>rw[ax 0x2];rw[ax 0x2] at h3;cases h3;exact(q.imp s id).bl
def aJ:PA X [] (gA aW ag):=PA.imp dY λσ H Q z0=>by obtain⟨ρ,ds,E,h,q⟩:=z0;cases h;exact q [] H (bK.refl H) .nil λ_=>.nil
def aA(he:PE X e (gE fe re))(hes:PA X es (gA f r))(hs:zSE X e es:=by rfl):PA X (e::es) (gA (aC fe f) (re&&r)):=PA.imp (b8 he hes hs) λσ H Q z0=>by
  obtain⟨ρ,ds,E,h,q⟩:=z0;obtain⟨x,h1,h⟩:=bA h;obtain⟨xs,h2,h⟩:=bA h;cases h;refine⟨ρ,x,E,h1,λv H1 s1 r1 n1=>⟨ρ,xs,E.same s1,h2,λvs H2 s2 r2 n2=>q _ _ (s1.trans s2) (.cons (r1.same s2) r2) λhf=>?_⟩⟩;obtain⟨f1,f2⟩:=(ba _ _▸hf:re=ag/\r=ag)
  exact .cons ((n1 f1).same s2) ((n2 f2).mono (bK.new s1))
def d9{x1}(h:PA X es (gA f r)):PE X (.Tuple es x1 pos) (gE (jR f) r):=PE.imp (aH7 h) λσ H Q z0=>by
  obtain⟨ρ,d,E,h,q⟩:=z0;obtain⟨xs,h1,h⟩:=bA h;split at h
  .rename_i hl;cases h;refine⟨ρ,xs,E,h1,λvs H1 s1 r1 n1=>⟨?_,λp hp=>?_⟩⟩
   .rw[r1.length];exact dg (dy hl) (by rw[cy];decide)
   .have sp:bK H1 (upd H1 p (.tup vs)):=bK.upd hp;exact q _ _ (s1.trans sp) (.tup aF (r1.same sp)) λhf=>.tup aF ((n1 hf).same sp)
  .exact bx h
def cY(h:PA X es (gA f r)):PE X (.List es pos) (gE (lG f) r):=PE.imp (xG h) λσ H Q z0=>by
  obtain⟨ρ,d,E,h,q⟩:=z0;obtain⟨xs,h1,h⟩:=bA h;split at h
  .rename_i hl;cases h;refine⟨ρ,xs,E,h1,λvs H1 s1 r1 n1=>⟨?_,λp hp=>?_⟩⟩
   .rw[r1.length];exact dg (dy hl) (by rw[cy];decide)
   .have sp:bK H1 (upd H1 p (.lst vs)):=bK.upd hp;exact q _ _ (s1.trans sp) (.lst aF trivial (r1.same sp)) λhf=>.lst aF (s1.free hp) ((n1 hf).same sp)
  .exact bx h
def v_:PE X (.Dict [] [] pos) (gE (bC (.dct [])) ag):=PE.imp T4 λσ H Q z0=>by
  obtain⟨ρ,d,E,h,q⟩:=z0;cases h;exact λp hp=>q _ _ (bK.upd hp) (.dK aF trivial .nil gq) λ_=>.dK aF hp .nil gq
end
section
variable {a b c e:Expr}
def j9(h:ϒ (n<=lim)=ag):n<=bd:=dg (dy h) (by rw[cy];decide)
def J9(h:ϒ (n<lim)=ag):n<bd:=de (dy h) (by rw[cy];decide)
def Rep.aNt(r:Rep P H v (.lst ds)):∃a xs,v=.ref a/\Rd H a (.lst xs)/\bJ P H xs ds:=by
 cases r with
 |lst e p rr=>exact⟨_,_,rfl,.inl e,rr⟩
def PW.imp(h:PW X e t)(i:∀σ H Q,t' σ H Q->t σ H Q):PW X e t':=λwh Ψ s σ H Q I q=>h wh Ψ s σ H Q I (i σ H Q q)
def xY(ha:PT X a (gT ga)):PW X (.BoolOp .And [a] pos) (gT ga):=aIr ha
def aNu(ha:PT X a (gT ga)):PW X (.BoolOp .Or [a] pos) (gT ga):=aMu ha
def xZ{rest:ae Expr}(ha:PT X a (gT ga))(hb:PW X (.BoolOp .And (b::rest) pos) (gT gb)):PW X (.BoolOp .And (a::b::rest) pos) (gT (XS ga gb)):=PW.imp (aMv ha hb) λσ H Q z0=>by
 obtain⟨ρ,k,E,h,q⟩:=z0;obtain⟨z,h1,h3⟩:=bA h;refine⟨ρ,z,E,h1,λH' s=>?_⟩;cases z with
 |true=>rw[aq rfl];rw[aq rfl] at h3;exact⟨ρ,k,E.same s,h3,λH2 s2=>q H2 (s.trans s2)⟩
 |false=>rw[ax 0x2];rw[ax 0x2] at h3;cases h3;exact q H' s
def aRx{rest:ae Expr}(ha:PT X a (gT ga))(hb:PW X (.BoolOp .Or (b::rest) pos) (gT gb)):PW X (.BoolOp .Or (a::b::rest) pos) (gT (bOr ga gb)):=PW.imp (aRi ha hb) λσ H Q z0=>by
 obtain⟨ρ,k,E,h,q⟩:=z0;obtain⟨z,h1,h3⟩:=bA h;refine⟨ρ,z,E,h1,λH' s=>?_⟩;cases z with
 |true=>rw[aq rfl];rw[aq rfl] at h3;cases h3;exact q H' s
 |false=>rw[ax 0x2];rw[ax 0x2] at h3;exact⟨ρ,k,E.same s,h3,λH2 s2=>q H2 (s.trans s2)⟩
theorem aHb(h:gE (bCh f g fa fb fc) r' σ H Q):aA1 (r2 f r) (r2 g r') (gE fa ra) (gE fb rb) (gE fc rc) σ H Q:=by
 obtain⟨ρ,d,E,h,q⟩:=h;obtain⟨x,h1,h⟩:=bA h;obtain⟨y,h2,h⟩:=bA h;obtain⟨z,h3,h⟩:=bA h;obtain⟨k,h4,h7⟩:=bA h;refine⟨ρ,x,E,h1,λv H1 s1 rp1 _=>⟨ρ,y,E.same s1,h2,λu H2 s2 rp2 _=>⟨x,y,z,rp1.same s2,rp2,h3,λt H3 s3 rp3 _=>?_⟩⟩⟩;have e:=T_ h4;subst e;cases rp3.inv;refine⟨k,rfl,?_⟩;have s13:=(s1.trans s2).trans s3;cases k with
 |true=>
  rw[aq rfl];rw[aq rfl] at h7;obtain⟨w,h5,h6⟩:=bA h7;exact⟨ρ,w,E.same s13,h5,λt H4 s4 rp4 _=>⟨y,w,d,(rp2.same s3).same s4,rp4,h6,q.imp (s13.trans s4) id⟩⟩
 |false=>
  rw[ax 0x2];rw[ax 0x2] at h7;cases h7;exact(q.imp s13 id).bl
def UG(ho:OpR X (c6 o) (r2 f r))(ho':OpR X (c6 o') (r2 g r'))(ha:PE X a (gE fa ra))(hb:PE X b (gE fb rb))(hc:PE X c (gE fc rc))
 (hm:sL [o,o'] [b,c]=aj:=by with_unfolding_all rfl):PE X (.Compare a [o,o'] [b,c] pos) (gE (bCh f g fa fb fc) r'):=PE.imp (aE5 ho ho' ha hb hc hm) λ_ _ _=>aHb
def wA(ho:OpR X (c6 o) (r2 f r))(ho':OpR X (c6 o') (r2 g r'))(ha:PE X a (gE fa ra))(hb:PE X b (gE fb rb))(hc:PE X c (gE fc rc))
 (hm:sL [o,o'] [b,c]=aj:=by with_unfolding_all rfl):PT X (.Compare a [o,o'] [b,c] pos) (gT (bTB (bCh f g fa fb fc))):=PT.imp (aE6 ho ho' ha hb hc hm) λσ H Q z0=>by
  obtain⟨ρ,k,E,h,q⟩:=z0;obtain⟨d,h1,h2⟩:=bA h;refine aHb ⟨ρ,d,E,h1,λv H' s r _=>?_⟩;have e:=T_ h2;subst e;cases r.inv;exact⟨_,rfl,q H' s⟩
def d_:OpR X (ef .Add) (r2 (cO .add) ag):=by
 intro Ψ s σ H x y v u Q I rx ry h;obtain⟨a,b,d,p,q,e,k⟩:=h;cases p with
 |int i=>
  cases q with
  |int j=>cases e;exact aN1 Ψ s σ H _ _ v u Q I rx ry ⟨i,j,rfl,rfl,k.int⟩
  |_=>exact bx e
 |str i=>
  cases q with
  |str j=>
   replace e:(if ϒ (i.length+j.length<=lim) then τ (ε (i++j)) else .bad)=.ok d:=e;split at e
   .rename_i hl;cases e;exact W9 Ψ s σ H _ _ v u Q I rx ry ⟨i,j,rfl,rfl,j9 hl,k.str⟩
   .exact bx e
  |_=>exact bx e
 |non=>exact bx e
 |bl _=>exact bx e
 |tup _ _=>exact bx e
 |dK _ _ _ _=>exact bx e
 |dT _ _ _ _=>exact bx e
 |exc _ _ _=>exact bx e
 |ins _ _ _=>exact bx e
 |cel _ _ _=>exact bx e
 |@lst a1 xs ds e1 p1 r1=>
  have hR:Rep All H (.ref a1) (.lst ds):=.lst e1 p1 r1;cases b with
  |lst es=>
   replace e:(if ϒ (ds.length+es.length<=lim)&&δ ds&&δ es then τ (υ (ds++es)) else .bad)=.ok d:=e;split at e
   .rename_i hl;cases e;rw[ba,ba] at hl;obtain⟨⟨hl,hp1⟩,hp2⟩:=hl;obtain⟨l1,xs1,e1',rd1,rr1⟩:=hR.aNt;obtain⟨l2,xs2,rfl,rd2,rr2⟩:=q.aNt;cases e1';cases rx;cases ry;obtain⟨z,its,n,vr1,ee1⟩:=rd1.ok I.hok;obtain⟨z2,its2,n2,vr2,ee2⟩:=rd2.ok I.hok;have hz:xs1.length+xs2.length<=bd:=by rw[rr1.length,rr2.length];exact j9 hl
    have t1:=vr1.length;have t2:=vr2.length;refine PySem.P.add_list ee1 ee2 ?_ (by rw[b5,b5];lia);have ea:its.toArray++its2.toArray=(its++its2).toArray:=by simp
    rw[ea];refine⟨.ref _,_,I.aR1 (vr1.append vr2) (by rw[b6];lia),rfl,?_⟩;have sp:bK H (upd H s.heap.objs.size (.lst (xs1++xs2))):=bK.upd I.fresh;exact k _ _ sp (.lst aF trivial ((rr1.append rr2).same sp)) λ_=>.lst aF I.fresh (((rr1.bQ hp1).append (rr2.bQ hp2)).same sp)
   .exact bx e
  |_=>exact bx e
 |frz _ _=>exact bx e
def QR(h:OpR X f (rI C g))
 (hi:∀i j d,op (.int i) (.int j)=.ok d->C i j/\∃k,d=.int k/\g i j=.int k)(hn:∀a b d,op a b=.ok d->(∃i,a=.int i)/\∃j,b=.int j):OpR X f (r2 op ag):=by
 rintro Ψ s σ H x y v u Q I rx ry ⟨a,b,d,p,q,e,k⟩;obtain⟨⟨i,rfl⟩,⟨j,rfl⟩⟩:=hn a b d e;cases p.inv;cases q.inv;obtain⟨hc,m,rfl,hm⟩:=hi i j d e;exact h Ψ s σ H _ _ v u Q I rx ry ⟨i,j,rfl,rfl,hc,by rw[hm];exact k.int⟩
def wB(ho:o≠.add){a b d:D}(e:cO o a b=.ok d):(∃i,a=.int i)/\∃j,b=.int j:=by
 cases a with
 |int i=>
  cases b with
  |int j=>exact⟨⟨i,rfl⟩,j,rfl⟩
  |_=>cases o<;>first|exact bx e|exact aS rfl ho
 |_=>cases o<;>first|exact bx e|exact aS rfl ho
def aHc:OpR X (ef .Sub) (r2 (cO .sub) ag):=by
 rintro Ψ s σ H x y v u Q I rx ry ⟨a,b,d,p,q,e,k⟩;obtain⟨⟨i,rfl⟩,j,rfl⟩:=wB 0x4 e;cases p.inv;cases q.inv;cases e;exact aN2 Ψ s σ H _ _ v u Q I rx ry ⟨_,_,rfl,rfl,k.int⟩
def aNv:OpR X (ef .Mult) (r2 (cO .mul) ag):=by
 refine QR aN3 (λi j d e=>?_) λa b d e=>wB 0x4 e
 .replace e:(if i_ i||i_ j then τ (ι (i*j)) else .bad)=.ok d:=e;split at e
  .rename_i hl;cases e;refine⟨?_,_,rfl,rfl⟩;simp only[i_,f_,ba,c_] at hl;exact hl
  .exact bx e
def x_:OpR X (ef .FloorDiv) (r2 (cO .fdiv) ag):=by
 refine QR aIt (λi j d e=>?_) λa b d e=>wB 0x4 e
 .replace e:(if ϒ (0<j)&&ϒ (j<1073741824) then τ (ι (i / j)) else .bad)=.ok d:=e;split at e
  .rename_i hl;cases e;refine⟨?_,_,rfl,rfl⟩;simp only[ba,c_] at hl;exact hl
  .exact bx e
def iJ:OpR X (ef .Mod) (r2 (cO .mod) ag):=by
 refine QR aN4 (λi j d e=>?_) λa b d e=>wB 0x4 e
 .replace e:(if ϒ (0<j) then τ (ι (i % j)) else .bad)=.ok d:=e;split at e
  .rename_i hl;cases e;refine⟨?_,_,rfl,rfl⟩;simp only[ba,c_] at hl;exact hl
  .exact bx e
def FQ(hK:KFrag.K=X.K)(hu:X.A.units+20<c8):OpR X (c6 .Eq) (r2 (gG .eq) ag):=by
 rintro Ψ s σ H x y v u Q I rx ry ⟨a,b,d,p,q,e,k⟩;replace e:(if a.iG aU&&b.iG aU then τ (ο (eqD a b)) else .bad)=.ok d:=e;split at e
 .rename_i hl;cases e;rw[ba] at hl;exact(aAm hK I aU X.A (by have:aU=12:=rfl;lia) hl.1 hl.2 p q rx ry).1 X.prog X.w X.xe _ ⟨.bl _,H,I,rfl,k.bl⟩
 .exact bx e
def aEr(hK:KFrag.K=X.K)(hu:X.A.units+20<c8):OpR X (c6 .NotEq) (r2 (gG .ne) ag):=by
 rintro Ψ s σ H x y v u Q I rx ry ⟨a,b,d,p,q,e,k⟩;replace e:(if a.iG aU&&b.iG aU then τ (ο (!eqD a b)) else .bad)=.ok d:=e;split at e
 .rename_i hl;cases e;rw[ba] at hl;exact(aAm hK I aU X.A (by have:aU=12:=rfl;lia) hl.1 hl.2 p q rx ry).2.1 X.prog X.w X.xe _ ⟨.bl _,H,I,rfl,k.bl⟩
 .exact bx e
def aNw:OpR X (c6 .Is) (r2 (gG .isN) ag):=by
 rintro Ψ s σ H x y v u Q I rx ry ⟨a,b,d,p,q,e,k⟩;have hb:b=.non:=by
  cases b with
  |non=>rfl
  |_=>cases a<;>exact bx e
 subst hb;cases q.inv;refine aN5 Ψ s σ H x .non v u Q I rx ry ⟨rfl,?_⟩;cases p<;>cases e<;>exact k.bl
end
end
variable [KFrag]
def J_(k q:Key):eqD (kD k) (kD q)=ϒ (k=q):=by
 cases k<;>cases q<;>simp[kD,aNi,oM,aNj,aNk,AB]
def aHd:∀(k q:ae Key),sZ (k.map kD) (q.map kD)=ϒ (k=q)
 |[],[]=>by simp[sZ]
 |[],_::_=>by simp[sZ]
 |_::_,[]=>by simp[sZ]
 |a::k,b::q=>by
  rw[bh,bh,sZ,J_,aHd k q];by_cases h:a=b<;>by_cases h':k=q<;>simp[h,h']
def aJf(k q:ae Key):eqD (.tup (k.map kD)) (.tup (q.map kD))=ϒ (k=q):=by rw[aNl,aHd]
def aJg:∀{kvs:ae (Key×V)}{ds:ae (D×D)},e_ P H kvs ds->(∃v d,vP kvs k=aa v/\bH ds (kD k)=aa d/\Rep P H v d)\/(vP kvs k=ai/\bH ds (kD k)=ai)
 |_,_,.nil=>.inr ⟨rfl,rfl⟩
 |_,_,.cons (k:=k') r t=>by
  by_cases h:k'=k
  .subst h;exact .inl ⟨_,_,oH rfl,by rw[bH,J_,aq 0x2],r⟩
  .rw[bH,J_,ax (by simpa using h),oJ h];exact aJg t
def aJh:∀{kvs:ae (ae Key×V)}{ds:ae (D×D)},lR P H kvs ds->(∃v d,vP kvs k=aa v/\bH ds (.tup (k.map kD))=aa d/\Rep P H v d)\/(vP kvs k=ai/\bH ds (.tup (k.map kD))=ai)
 |_,_,.nil=>.inr ⟨rfl,rfl⟩
 |_,_,.cons (k:=k') r t=>by
  by_cases h:k'=k
  .subst h;exact .inl ⟨_,_,oH rfl,by rw[bH,aJf,aq 0x2],r⟩
  .rw[bH,aJf,ax (by simpa using h),oJ h];exact aJh t
def FW(h:dZ d=ag)(r:Rep All H v d):∃k,v=kV k/\d=kD k:=by
 cases r<;>simp[dZ] at h
 .exact⟨.inl _,rfl,rfl⟩
 .exact⟨.inr _,rfl,rfl⟩
def flat_keys:∀{vs:ae V}{ds:ae D},ds.all dZ=ag->bJ All H vs ds->∃ks:ae Key,vs=ks.map kV/\ds=ks.map kD
 |_,_,_,.nil=>⟨[],rfl,rfl⟩
 |_,_,h,.cons r t=>by
  rw[hU,ba] at h;obtain⟨k,rfl,rfl⟩:=FW h.1 r;obtain⟨ks,rfl,rfl⟩:=flat_keys h.2 t;exact⟨k::ks,rfl,rfl⟩
def jB(h:keyOk k=ag)(r:Rep All H y k):(∃q,y=kV q/\k=kD q)\/∃(b:am)(ks:ae Key),y=.ref b/\H b=aa (.tup (ks.map kV))/\k=.tup (ks.map kD):=by
 cases k<;>simp[keyOk] at h
 .exact .inl (FW rfl r)
 .exact .inl (FW rfl r)
 .obtain⟨a,xs,rfl,e,rr⟩:=r.eO;obtain⟨ks,rfl,rfl⟩:=flat_keys (gf.mpr h) rr;exact .inr ⟨a,ks,rfl,e,rfl⟩
def mQ(k:Key):isTup (kD k)=aj:=by cases k<;>rfl
section
variable {a:am}
def FZ(e:H a=aa o):upd (upd H a o') a o=H:=by
 rw[O9]
 funext b
 by_cases h:b=a
 .subst h;rw[aF,e]
 .rw[aM h]
def mR(I:Inv X Ψ σ H s)(e:H a=aa (.dK [])):Inv X Ψ σ (upd H a (.dT [])) s:=by
 obtain⟨z,hd,vs,rel,o,es,ep,h1,h2,h3,h4,h5,h6⟩:=PX I.hok e;cases rel;refine I.write (by rw[e];trivial) (.inl rfl) (λ_ _ _ q=>q) ⟨o,h1⟩ ?_;refine⟨eP _,hd,[],.nil,o,es,ep,h1,h2,h3,?_,gq⟩;cases h5':es.toList with
 |nil=>rfl
 |cons _ _=>rw[h5'] at h5;cases h5
def jU(I:Inv X Ψ σ H s)(e:H a=aa (.dT [])):Inv X Ψ σ (upd H a (.dK [])) s:=by
 obtain⟨z,hd,vs,rel,o,es,ep,h1,h2,h3,h4,h5,h6⟩:=aNh I.hok e;cases rel;refine I.write (by rw[e];trivial) (.inl rfl) (λ_ _ _ q=>q) ⟨o,h1⟩ ?_;have h0:es.toList=[]:=h4;refine⟨eP _,hd,[],.nil,o,es,ep,h1,h2,h3,?_,?_,gq⟩
 .intro x hx;have:x∈es.toList:=by simpa using hx
  rw[h0] at this;cases this
 .rw[h0];exact .nil
def UJ:∀{kvs:ae (Key×V)}{ds:ae (D×D)},e_ P H kvs ds->∀p∈ds,isTup p.1=aj
 |_,_,.nil,_,h=>by cases h
 |_,_,.cons r t,p,h=>by
  rcases bq.mp h with rfl|h
  .exact mQ _
  .exact UJ t p h
def UL:∀{kvs:ae (ae Key×V)}{ds:ae (D×D)},lR P H kvs ds->∀p∈ds,isTup p.1=ag
 |_,_,.nil,_,h=>by cases h
 |_,_,.cons r t,p,h=>by
  rcases bq.mp h with rfl|h
  .rfl
  .exact UL t p h
def aJi(I:Inv X Ψ σ H s)(rd:Rep All H x (.dct ds))(rk:Rep All H y k)(hk:lQ ds k=ag) :
  ∃H1 a o,x=.ref a/\Inv X Ψ σ H1 s/\(∀s',Inv X Ψ σ H1 s'->Inv X Ψ σ H s')/\ZR H1 a y o/\((o=ai/\bH ds k=ai)\/∃v d,o=aa v/\bH ds k=aa d/\Rep All H v d):=by
 unfold lQ at hk;rw[ba] at hk;obtain⟨h1,h2⟩:=hk;cases rd with
 |@dK a kvs ds e _ r n=>
  rcases jB h1 rk with ⟨q,rfl,rfl⟩|⟨b,ks,rfl,eb,rfl⟩
  .refine⟨H,a,_,rfl,I,λ_ h=>h,.k e,?_⟩;rcases aJg r with ⟨v,d,g1,g2,g3⟩|⟨g1,g2⟩
   .exact .inr ⟨v,d,g1,g2,g3⟩
   .exact .inl ⟨g1,g2⟩
  .cases r with
   |nil=>
    have e2:=FZ (o':=.dT []) e;refine⟨upd H a (.dT []),a,ai,rfl,mR I e,λs' I'=>?_,.t aF (by rw[aM (mZ eb e 0x7)];exact eb),.inl ⟨rfl,rfl⟩⟩;have:=jU I' aF;rwa [e2] at this
   |cons r t=>
    rw[hU,mQ] at h2;simp[isTup] at h2
 |@dT a kvs ds e _ r n=>
  rcases jB h1 rk with ⟨q,rfl,rfl⟩|⟨b,ks,rfl,eb,rfl⟩
  .cases r with
   |nil=>
    have e2:=FZ (o':=.dK []) e;refine⟨upd H a (.dK []),a,ai,rfl,jU I e,λs' I'=>?_,.k (k:=q) aF,.inl ⟨rfl,rfl⟩⟩;have:=mR I' aF;rwa [e2] at this
   |cons r t=>
    rw[hU,mQ] at h2;simp[isTup] at h2
  .refine⟨H,a,_,rfl,I,λ_ h=>h,.t e eb,?_⟩;rcases aJh (k:=ks) r with ⟨v,d,g1,g2,g3⟩|⟨g1,g2⟩
   .exact .inr ⟨v,d,g1,g2,g3⟩
   .exact .inl ⟨g1,g2⟩
def aEs(rd:Rep All H x (.dct ds))(hk:keyOk k=ag)(h:bH ds k=aa d):lQ ds k=ag:=by
 have one:∀{ds:ae (D×D)},bH ds k=aa d->∃p∈ds,eqD p.1 k=ag:=by
  intro ds;induction ds with
  |nil=>intro h;cases h
  |cons p ds ih=>
   intro h;obtain⟨p1,p2⟩:=p;rw[bH] at h;by_cases hq:eqD p1 k=ag
   .exact⟨_,bE ..,hq⟩
   .rw[ax hq] at h;obtain⟨p,hp,e⟩:=ih h;exact⟨p,bX _ hp,e⟩
 obtain⟨p,hp,he⟩:=one h;unfold lQ;rw[hk,ix,gf];intro q hq;have same:isTup p.1=isTup k:=by
  obtain⟨p1,p2⟩:=p;cases k with
  |int _=>cases p1<;>first|rfl|exact fx0 he
  |str _=>cases p1<;>first|rfl|exact fx0 he
  |tup _=>cases p1<;>first|rfl|exact fx0 he
  |_=>exact fx0 hk
 cases rd with
 |dK e _ r n=>rw[UJ r q hq,<-same,UJ r p hp];rfl
 |dT e _ r n=>rw[UL r q hq,<-same,UL r p hp];rfl
end
section
variable {X:Cx} {a b c e:Expr} {pos:cm} {fa fb:FE} {ra rb:aw}
def F_(H:Hp)(u:al):D:=by
 classical
 exact if h:∃d,d.iG aU=ag/\∃v,RelV v u/\Rep All H v d then DI h else .non
def GC(hK:KFrag.K=X.K)(I:Inv X Ψ σ H s)(hq:d.iG aU=ag)(rv:RelV v u)(r:Rep All H v d):F_ H u=d:=by
 unfold F_;have h:∃d,d.iG aU=ag/\∃v,RelV v u/\Rep All H v d:=⟨d,hq,v,rv,r⟩
 rw[dif_pos h];obtain⟨h2,v',rv',r'⟩:=DJ h;have:=rv'.inj rv;subst this;exact Rep.inj I hK aU h2 hq r' r
def yC(hK:KFrag.K=X.K)(I:Inv X Ψ σ H s){a:D}:∀{xs:ae V}{ds:ae D}{its:ae al},π aU ds=ag->bJ All H xs ds->Vals xs its->(its.any λu=>eqD (F_ H u) a)=ds.any λy=>eqD y a
 |_,_,_,_,.nil,.nil=>rfl
 |_,_,_,h,.cons r t,.cons v vt=>by
  rw[π,ba] at h;rw[js,js,GC hK I h.1 v r,yC hK I h.2 t vt]
def yD(hK:KFrag.K=X.K)(I:Inv X Ψ σ H s)(hu:X.A.units+20<c8){a:D}{v:al}(ha:a.iG aU=ag)(rx:Rep All H x a)(rv:RelV x v)
 {xs:ae V}{ds:ae D}{its:ae al}(h:π aU ds=ag)(r:bJ All H xs ds)(vr:Vals xs its)(u:al)(hm:u∈its):EqAt X.A.in1 s u v (eqD (F_ H u) a):=by
 obtain⟨j,hj,e⟩:=List.getElem_of_mem hm;have hj':j<ds.length:=by rw[<-r.length,vr.length];exact hj
 obtain⟨w,h1,h2⟩:=r.get (i:=j) (d:=ds[j]) (by simp[hj']);obtain⟨u',h3,h4⟩:=vr.get h1;rw[eh hj,e] at h3;cases h3;have hd:ds[j].iG aU=ag:=by
  have:=oU h hj';rwa [cx,eh hj'] at this
 rw[GC hK I hd h4 h2];exact(aAm hK I aU X.A.in1 (by show X.A.units+1+12<c8;lia) hd ha h2 rx h4 rv).2.2
def aNx(hK:KFrag.K=X.K)(hu:X.A.units+20<c8):OpR X (c6 .In) (r2 (gG .isin) ag):=by
 rintro Ψ s σ H x y v u Q I rx ry ⟨a,b,d,p,q,e,k⟩;cases b with
 |tup ys=>
  replace e:(if a.iG aU&&π aU ys then τ (ο (ys.any λy=>eqD y a)) else .bad)=.ok d:=e;split at e
  .rename_i hl;cases e;rw[ba] at hl;obtain⟨l,xs,rfl,ee,rr⟩:=q.eO;cases ry;obtain⟨its,vr,pl⟩:=jA I ee;refine in_tupleAt (λu=>eqD (F_ H u) a) pl (λw hw=>yD hK I hu hl.1 p rx hl.2 rr vr w (by simpa using hw)) ⟨.bl _,H,I,rfl,?_⟩;rw[show its.toArray.any (λu=>eqD (F_ H u) a)=its.any (λu=>eqD (F_ H u) a) by simp,yC hK I hl.2 rr vr];exact k.bl
  .cases e
 |lst ys=>
  replace e:(if a.iG aU&&π aU ys then τ (ο (ys.any λy=>eqD y a)) else .bad)=.ok d:=e;split at e
  .rename_i hl;cases e;rw[ba] at hl;obtain⟨l,xs,rfl,ee,rr⟩:=q.gF;cases ry;obtain⟨its,vr,pl⟩:=d8 I ee;refine in_listAt (λu=>eqD (F_ H u) a) pl (λw hw=>yD hK I hu hl.1 p rx hl.2 rr vr w (by simpa using hw)) ⟨.bl _,H,I,rfl,?_⟩;rw[show its.toArray.any (λu=>eqD (F_ H u) a)=its.any (λu=>eqD (F_ H u) a) by simp,yC hK I hl.2 rr vr];exact k.bl
  .cases e
 |dct kvs=>
  replace e:(if lQ kvs a then τ (ο ((bH kvs a).isSome)) else .bad)=.ok d:=e;split at e
  .rename_i hl;cases e;obtain⟨H1,a1,o,rfl,I1,bk,g,hc⟩:=aJi I q p hl;cases ry;refine aUh 0x1 I1 g rx λs' I'=>⟨.bl _,H,bk s' I',rfl,?_⟩
   rcases hc with ⟨rfl,h2⟩|⟨w,dd,rfl,h2,_⟩
   .rw[h2] at k;exact k.bl
   .rw[h2] at k;exact k.bl
  .cases e
 |_=>exact bx e
def oX(hK:KFrag.K=X.K)(hu:X.A.units+20<c8):OpR X (c6 .NotIn) (r2 (gG .notin) ag):=by
 rintro Ψ s σ H x y v u Q I rx ry ⟨a,b,d,p,q,e,k⟩;cases b with
 |tup ys=>
  replace e:(if a.iG aU&&π aU ys then τ (ο (!(ys.any λy=>eqD y a))) else .bad)=.ok d:=e;split at e
  .rename_i hl;cases e;rw[ba] at hl;obtain⟨l,xs,rfl,ee,rr⟩:=q.eO;cases ry;obtain⟨its,vr,pl⟩:=jA I ee;refine notIn_tupleAt (λu=>eqD (F_ H u) a) pl (λw hw=>yD hK I hu hl.1 p rx hl.2 rr vr w (by simpa using hw)) ⟨.bl _,H,I,rfl,?_⟩;rw[show its.toArray.any (λu=>eqD (F_ H u) a)=its.any (λu=>eqD (F_ H u) a) by simp,yC hK I hl.2 rr vr];exact k.bl
  .cases e
 |lst ys=>
  replace e:(if a.iG aU&&π aU ys then τ (ο (!(ys.any λy=>eqD y a))) else .bad)=.ok d:=e;split at e
  .rename_i hl;cases e;rw[ba] at hl;obtain⟨l,xs,rfl,ee,rr⟩:=q.gF;cases ry;obtain⟨its,vr,pl⟩:=d8 I ee;refine notIn_listAt (λu=>eqD (F_ H u) a) pl (λw hw=>yD hK I hu hl.1 p rx hl.2 rr vr w (by simpa using hw)) ⟨.bl _,H,I,rfl,?_⟩;rw[show its.toArray.any (λu=>eqD (F_ H u) a)=its.any (λu=>eqD (F_ H u) a) by simp,yC hK I hl.2 rr vr];exact k.bl
  .cases e
 |dct kvs=>
  replace e:(if lQ kvs a then τ (ο (!((bH kvs a).isSome))) else .bad)=.ok d:=e;split at e
  .rename_i hl;cases e;obtain⟨H1,a1,o,rfl,I1,bk,g,hc⟩:=aJi I q p hl;cases ry;refine aJ8 0x1 I1 g rx λs' I'=>⟨.bl _,H,bk s' I',rfl,?_⟩
   rcases hc with ⟨rfl,h2⟩|⟨w,dd,rfl,h2,_⟩
   .rw[h2] at k;exact k.bl
   .rw[h2] at k;exact k.bl
  .cases e
 |_=>exact bx e
def aHe(xs:ae α)(i:ak):L2.atI xs i=(ixD xs.length i).bind λj=>xs[j]?:=rfl
def bJ.atI(r:bJ P H xs ds)(h:((ixD ds.length i).bind λj=>ds[j]?)=aa d):∃v,L2.atI xs i=aa v/\Rep P H v d:=by
 rw[aHe,r.length];cases hi:ixD ds.length i with
 |none=>rw[hi] at h;cases h
 |some j=>
  rw[hi] at h;obtain⟨v,h1,h2⟩:=r.get h;exact⟨v,h1,h2⟩
def yE{a:am}(hu:X.A.units+20<c8)(I:Inv X Ψ σ H s)(g:ZR H a y (aa v'))(ry:RelV y u)
 (hs:va slice aj (.ref a) u=yz [.ref a,u] (kL (.ref a) u))(bk:∀s',Inv X Ψ σ H s'->Inv X Ψ σ H' s')(q:Q v' H') :
  ϑ (ay X.prog X.w) X.A (uS value slice (.ref a) u) (EP X Ψ σ Q) X.xe s:=by
 have hT:=QB I g;unfold uS;refine ao ?_;rw[getitemInPython_of_ne hT.not_modules];refine ao (lc hT PySem.F.slot_dict_getitem.lookup ?_);have fin:ϑ (ay X.prog X.w) X.A (va slice aj (.ref a) u) (λr s₃=>ϑ (ay X.prog X.w) X.A (letTemporaryGo value (.ref a) r >>= λ_=>pure r) (EP X Ψ σ Q) X.xe s₃) X.xe s:=by
  rw[hs];exact wpAny_operating (aAc 0x1 I g ry λw' s3 I3 rw'=>ao (wpAny_letTemporaryGo (az ⟨v',H',bk s3 I3,rw',q⟩)))
 first
  |exact az (ao fin)
  |exact ao (az (ao fin))
  |exact ao fin
def UT:∀{ds:ae (D×D)},keyOk k=ag->bH ds k=aa d->∃p∈ds,isTup p.1=isTup k
 |[],_,h=>by cases h
 | (p1,p2)::ds,hk,h=>by
  rw[bH] at h;by_cases hq:eqD p1 k=ag
  .refine⟨_,bE ..,?_⟩;cases k with
   |int _=>cases p1<;>first|rfl|exact fx0 hq
   |str _=>cases p1<;>first|rfl|exact fx0 hq
   |tup _=>cases p1<;>first|rfl|exact fx0 hq
   |_=>exact fx0 hk
  .rw[ax hq] at h;obtain⟨p,hp,e⟩:=UT hk h;exact⟨p,bX _ hp,e⟩
def aRz(hK:KFrag.K=X.K)(hu:X.A.units+20<c8):IxR X (r2 getD aj):=by
 rintro value slice Ψ s σ H x y v u Q I rx ry ⟨a,b,d,p,q,e,k⟩ hs;cases a with
 |tup ys=>
  cases b<;>try exact bx e
  have e':=Res.j6 e;obtain⟨l,xs,rfl,ee,rr⟩:=p.eO;cases q;obtain⟨w,h1,h2⟩:=rr.atI e';exact aNc value slice Ψ s σ H _ _ v u Q I rx ry ⟨l,xs,_,w,rfl,rfl,.of ee,h1,k.self h2 λz=>by cases z⟩ hs
 |lst ys=>
  cases b<;>try exact bx e
  have e':=Res.j6 e;obtain⟨l,xs,rfl,ee,rr⟩:=p.gF;cases q;obtain⟨w,h1,h2⟩:=rr.atI e';exact nD value slice Ψ s σ H _ _ v u Q I rx ry ⟨l,xs,_,w,rfl,rfl,ee,h1,k.self h2 λz=>by cases z⟩ hs
 |cel ca ys=>
  cases b<;>try exact bx e
  have e':=Res.j6 e;obtain⟨_,rfl,ee,pp,rr⟩:=p.inv;cases q;obtain⟨w,h1,h2⟩:=rr.atI e';exact nD value slice Ψ s σ H _ _ v u Q I rx ry ⟨_,_,_,w,rfl,rfl,.inl (.inl ee),h1,k.self h2 λz=>by cases z⟩ hs
 |scr ys=>
  cases b<;>try exact bx e
  have e':=Res.j6 e;obtain⟨_,_,rfl,ee,rr⟩:=p.inv;cases q;obtain⟨w,h1,h2⟩:=rr.atI e';exact nD value slice Ψ s σ H _ _ v u Q I rx ry ⟨_,_,_,w,rfl,rfl,ee.sq hK,h1,k.self h2 λz=>by cases z⟩ hs
 |str z=>
  cases b<;>try exact bx e
  rename_i i;replace e:(if ϒ (z.length<=lim) then ν (((ixD z.cps.toList.length i).bind λj=>z.cps.toList[j]?).map λc=>ε ⟨#[c]⟩) else .bad)=.ok d:=e;split at e
  .rename_i hl;have e':=Res.j6 e;obtain⟨cc,h1,h2⟩:=gn.mp e';subst h2;cases p;cases q;exact aNd value slice Ψ s σ H _ _ v u Q I rx ry ⟨z,_,cc,rfl,rfl,j9 hl,h1,k.str⟩ hs
  .cases e
 |dct kvs=>
  have e':keyOk b=ag/\bH kvs b=aa d:=by
   replace e:(if keyOk b then ν (bH kvs b) else .bad)=.ok d:=by cases b<;>exact e
   split at e
   .rename_i hl;exact⟨hl,Res.j6 e⟩
   .exact bx e
  obtain⟨H1,a1,o,rfl,I1,bk,g,hc⟩:=aJi I p q (aEs p e'.1 e'.2);cases rx;rcases hc with ⟨rfl,h2⟩|⟨w,dd,rfl,h2,h3⟩
  .rw[h2] at e';cases e'.2
  .rw[h2] at e';cases e'.2;exact yE hu I1 g ry hs bk (k.self h3 λz=>by cases z)
 |_=>cases b<;>exact bx e
def bI{X:Cx}{a b:Expr}{pos:cm}{fa fb:FE}{ra rb:aw}(ha:PE X a (gE fa ra))(hb:PE X b (gE fb rb))(hK:KFrag.K=X.K:=by assumption)(hu:X.A.units+20<c8:=by assumption)(hs:DY b:=by exact λ_ _=>rfl):PE X (.Subscript a b pos) (gE (b2 getD fa fb) aj):=aRw (aRz hK hu) ha hb hs
noncomputable def gO(f:ae D->Res (au ak)):TO:=λσ H Q=>∃ρ i,ER H σ ρ/\f ρ=.ok i/\∀H',bK H H'->Q i H'
def PO.imp{X:Cx}{e:au PySem.Expr}{t t':TO}(h:PO X e t)(i:∀σ H Q,t' σ H Q->t σ H Q):PO X e t':=λΨ s σ H Q I q=>h Ψ s σ H Q I (i σ H Q q)
def j_:PO X ai (gO lX):=PO.imp aJ2 λσ H Q z0=>by obtain⟨ρ,i,E,h,q⟩:=z0;cases h;exact q H (bK.refl H)
def kE(ha:PE X a (gE fa ra)):PO X (aa a) (gO (j8 fa)):=PO.imp (aJ3 ha) λσ H Q z0=>by
 obtain⟨ρ,i,E,h,q⟩:=z0;obtain⟨x,h1,h⟩:=bA h;obtain⟨j,h2,h⟩:=bA h;cases h;have e:=aNr h2;subst e;exact⟨ρ,_,E,h1,λv H' s r _=>by cases r;exact⟨j,rfl,q H' s⟩⟩
def aHf(n d:ah)(o:au ak):HT.sIx n d o=OJ n d o:=by
 cases o with
 |none=>rfl
 |some v=>
  show(if v<0 then (v+(n:ak)).toNat else min v.toNat n)=(if v<0 then (max (v+(n:ak)) 0).toNat else (min v (n:ak)).toNat);split<;>lia
def bJ.cut(r:bJ P H xs ds)(lo hi:au ak):bJ P H (aEe xs lo hi) (cutD ds lo hi):=by
 unfold aEe cutD;rw[r.length];simp only[aHf];exact(r.drop _).take _
def cP:δ ds=ag↔∀d∈ds,d.pure=ag:=by
 induction ds with
 |nil=>simp[δ]
 |cons d ds ih=>rw[δ,ba,ih];simp
def rSl:V->au ak->au ak->Hp->VK->Prop:=λx lo hi H Q=>∃a d,Rep All H x a/\aR5 a lo hi=.ok d/\kR H d ag Q
def aS0(hK:KFrag.K=X.K):SlR X rSl:=by
 rintro Ψ s σ H x v vl vu lo hi sl Q I rx hs pl pu ⟨a,d,p,e,k⟩;cases a<;>simp only[aR5] at e<;>(try (cases e;done))
 .split at e
  .cases e
  .rename_i hw;cases e;obtain⟨l,xs,rfl,ee,rr⟩:=p.eO;refine aNa Ψ s σ H _ v vl vu lo hi sl Q I rx hs pl pu ⟨l,xs,rfl,.of ee,?_,λp hp=>?_⟩
   .simp only[aHf,rr.length];simp only[lf,f_,fE,Bool.not_eq_false',c_] at hw;exact hw.2
   .have sp:bK H (upd H p (.tup (aEe xs lo hi))):=bK.upd hp;have hp2:δ ‹ae D›=ag:=by
     simp only[f_,fE,lf] at hw;simpa using hw.1
    exact k _ _ sp (.tup aF ((rr.cut lo hi).same sp)) λz=>.tup aF (((rr.bQ hp2).cut lo hi).same sp)
 .split at e
  .rename_i hl;cases e;obtain⟨l,xs,rfl,ee,rr⟩:=p.gF;refine aA8 Ψ s σ H _ v vl vu lo hi sl Q I rx hs pl pu ⟨l,xs,rfl,ee,λp hp=>?_⟩;have sp:bK H (upd H p (.lst (aEe xs lo hi))):=bK.upd hp;exact k _ _ sp (.lst aF trivial ((rr.cut lo hi).same sp)) λz=>.lst aF hp (((rr.bQ hl).cut lo hi).same sp)
  .cases e
 .split at e
  .rename_i hl;cases e;cases p with
   |@frz l xs ds ee rr=>
    refine aA8 Ψ s σ H _ v vl vu lo hi sl Q I rx hs pl pu ⟨l,xs,rfl,ee.sq hK,λp hp=>?_⟩;have sp:bK H (upd H p (.lst (aEe xs lo hi))):=bK.upd hp;exact k _ _ sp (.lst aF trivial ((rr.cut lo hi).same sp)) λz=>.lst aF hp (((rr.bQ hl).cut lo hi).same sp)
  .cases e
end
end Mi
namespace PySem.Mm
open PySem PyProof.Rows PySem.W
def KD{K:Type}[dn K]{knd:KeyKind prog w K}{d:am}{kvs:ae (K×al)}{ep n:ah}(hh:A.handled=ai)(lo:(d==gj)=aj)
 (hm:s.heap.DictAt knd d kvs ep)(hn:kvs.length=n)(hl:n<=2 ^ 24)
 (q:∀h' tk acc c,(∀b o,s.heap.get? b=aa o->h'.get? b=aa o)->h'.get? s.heap.objs.size=aa {cls:=.type "list",dict:=ai,data:=.seq acc c,slots:=#[]}->
   vy (λi v=>∃k x,kvs[i]?=aa (k,x)/\knd.is k v=ag) acc n->Q (.ref s.heap.objs.size) {s with heap:=h',toks:=tk}):ϑ (ay prog w) A (call (.type "list") [.ref d]) Q E s:=by
 subst hn;exact kdl_call (kdl_dict lo) hh hm (kdl_size hl) q
end PySem.Mm
namespace Mi
open PySem L2 PySem.SeqAt PySem.Spec PyProof.Rows
section
variable [KFrag]
section
variable {b e:Expr} {x:Str} {id T:fx}
def fW(r:bJ P H xs [d])(vr:Vals xs us):∃v u,xs=[v]/\us=[u]/\Rep P H v d/\RelV v u:=by
 cases r with
 |cons r t=>
  cases t;cases vr with
  |cons v vt=>
   cases vt;exact⟨_,_,rfl,rfl,r,v⟩
theorem UV{fr:aw}(h:gE (aQ f fs) fr σ H Q):tCB (rs f fr) (gA fs rr) σ H Q:=by
 obtain⟨ρ,d,E,h,q⟩:=h;obtain⟨ds,h1,h2⟩:=bA h;exact⟨ρ,ds,E,h1,λvs H1 s1 r1 _=>⟨ds,d,r1,h2,q.imp s1 id⟩⟩
theorem dC{fr:aw}(hc:nC X (.builtin id) (rs f fr))(hg:Gl X x)(hm:X.mg x=ai)(hv:eJ x=aa (.builtin id))(ha:PA X (e::es) (gA fs rr))(hn:x ≠ "__name__":=by decide)(hdb:nDb x:=by decide)
 (he:zSE X e es:=by rfl)(hpl:zSP X pos es:=by rfl):PE X (.Call (.Name x p) (e::es) [] pos) (gE (aQ f fs) fr):=
 PE.imp (aEb hc hg hm hv ha hn hdb he hpl) λ_ _ _=>UV
def fC{fr:aw}(hc:nC X (.type T) (rs f fr))(hg:Gl X x)(hm:X.mg x=ai)(hv:eJ x=aa (.type T))(ha:PA X (e::es) (gA fs rr))(hn:x ≠ "__name__":=by decide)(hdb:nDb x:=by decide)
 (he:zSE X e es:=by rfl)(hpl:zSP X pos es:=by rfl):PE X (.Call (.Name x p) (e::es) [] pos) (gE (aQ f fs) fr):=
 PE.imp (aA5 hc hg hm hv ha hn hdb he hpl) λ_ _ _=>UV
def jV(hK:KFrag.K=X.K):nC X (.builtin "len") (rs vQ ag):=by
 rintro Ψ s σ H xs us Q I vr ⟨ds,d,r,e,k⟩;unfold vQ at e;split at e
 .cases e;obtain⟨vv,uu,rfl,rfl,r,v⟩:=fW r vr;obtain⟨l,ys,rfl,hl,rr⟩:=r.eO;cases v;exact jJ Ψ s σ H [.ref l] [.ref l] Q I (.cons rfl .nil) ⟨l,ys,rfl,.inr (.of hl),by rw[rr.length];exact k.int⟩
 .cases e;obtain⟨vv,uu,rfl,rfl,r,v⟩:=fW r vr;obtain⟨l,ys,rfl,hl,rr⟩:=r.gF;cases v;exact jJ Ψ s σ H [.ref l] [.ref l] Q I (.cons rfl .nil) ⟨l,ys,rfl,.inl hl,by rw[rr.length];exact k.int⟩
 .cases e;obtain⟨vv,uu,rfl,rfl,r,v⟩:=fW r vr;cases r with
  |@frz l xs ds ee rr=>
   cases v;exact jJ Ψ s σ H [.ref l] [.ref l] Q I (.cons rfl .nil) ⟨l,xs,rfl,.inl (ee.sq hK),by rw[rr.length];exact k.int⟩
 .cases e;obtain⟨vv,uu,rfl,rfl,r,v⟩:=fW r vr;obtain⟨_,rfl,ee,pp,rr⟩:=r.inv;cases v;exact jJ Ψ s σ H [.ref _] [.ref _] Q I (.cons rfl .nil) ⟨_,_,rfl,.inl (.inl (.inl ee)),by rw[rr.length];exact k.int⟩
 .split at e
  .rename_i hl;cases e;obtain⟨vv,uu,rfl,rfl,r,v⟩:=fW r vr;cases r.inv;exact J3 Ψ s σ H _ _ Q I (.cons v .nil) ⟨_,rfl,j9 hl,k.int⟩
  .exact bx e
 .exact bx e
def e_.keys:∀{kvs:ae (Key×V)}{ds:ae (D×D)},e_ P H kvs ds->bJ P' H (kvs.map λp=>kV p.1) (aNm ds)
 |_,_,.nil=>.nil
 |_,_,.cons (k:=k) _ t=>.cons (by cases k<;>first|exact .int _|exact .str _) t.keys
def list_dict(hc:X.calm=ag)(I:Inv X Ψ σ H s)(e:H l=aa (.dK kvs))
 (q:∀p s',H p=ai->Inv X Ψ σ (upd H p (.lst (kvs.map λp=>kV p.1))) s'->(∀l0 o0,H l0=aa o0->l0≠p)->Q (.ref p) s'):ϑ (ay X.prog X.w) X.A (call (.type "list") [.ref l]) Q X.xe s:=by
 obtain⟨z,hd,vs,rel,dd⟩:=PX I.hok e;obtain⟨ep,da⟩:=dd.dictAt;have hlen:kvs.length=vs.length:=jh rel;refine Mm.KD (I.ok.hd hc) hd da rfl (by rw[<-hlen];rw[cy] at z;lia) λh' tk acc' c' kp e1 it=>?_
 obtain⟨i1,i2⟩:=it;have hfr:H s.heap.objs.size=ai:=I.hok.fresh (bo _);refine q _ _ hfr (I.laid kp (bo _) ?_) λl0 o0 h0=>bF h0 hfr
 refine⟨by rw[br];exact z,acc'.toList,c',?_,by simpa using e1⟩;have gen:∀(kvs:ae (Key×V))(vs:ae (Key×al))(xs:ae al),KV kvs vs->xs.length=vs.length->(∀(j:ah)(v:al),xs[j]?=aa v->∃k x,vs[j]?=aa (k,x)/\(b7 X.prog X.w).is k v=ag)->Vals (kvs.map λp=>kV p.1) xs:=by
  intro kvs vs xs rel;induction rel generalizing xs with
  |nil=>intro hl _;cases xs with|nil=>exact .nil|cons _ _=>simp at hl
  |@cons p q ps qs hpq t ih=>
   intro hl g;cases xs with
   |nil=>simp at hl
   |cons x xs=>
    refine .cons ?_ (ih xs (by simpa using hl) λj v hv=>g (j+1) v (by simpa using hv));obtain⟨k,x',h1,h2⟩:=g 0 x rfl;have h1':q=(k,x'):=by simpa using h1
    show RelV (kV p.1) x;rw[hpq.1,h1'];rcases cW h2 with ⟨i,t,rfl,rfl⟩|⟨i,t,rfl,rfl⟩
    .exact⟨t,rfl⟩
    .exact⟨t,rfl⟩
 exact gen kvs vs acc'.toList rel (by simpa using i1) λj v hv=>i2 j v (by simpa using hv)
def aJj(hc:X.calm=ag):nC X (.type "list") (rs aEn ag):=by
 rintro Ψ s σ H xs us Q I vr ⟨ds,d,r,e,k⟩;unfold aEn at e;split at e
 .split at e
  .rename_i hl;cases e;obtain⟨vv,uu,rfl,rfl,r,v⟩:=fW r vr;obtain⟨l,ys,rfl,hl',rr⟩:=r.eO;cases v;refine vK Ψ s σ H [.ref l] [.ref l] Q I (.cons rfl .nil) ⟨l,ys,rfl,.inr (.of hl'),λp hp=>?_⟩;have sp:bK H (upd H p (.lst ys)):=bK.upd hp;exact k _ _ sp (.lst aF trivial (rr.same sp)) λ_=>.lst aF hp ((rr.bQ hl).same sp)
  .exact bx e
 .split at e
  .rename_i hl;cases e;obtain⟨vv,uu,rfl,rfl,r,v⟩:=fW r vr;obtain⟨l,ys,rfl,hl',rr⟩:=r.gF;cases v;refine vK Ψ s σ H [.ref l] [.ref l] Q I (.cons rfl .nil) ⟨l,ys,rfl,.inl hl',λp hp=>?_⟩;have sp:bK H (upd H p (.lst ys)):=bK.upd hp;exact k _ _ sp (.lst aF trivial (rr.same sp)) λ_=>.lst aF hp ((rr.bQ hl).same sp)
  .exact bx e
 .split at e
  .rename_i hl;cases e;obtain⟨vv,uu,rfl,rfl,r,v⟩:=fW r vr;cases r with
   |@dK l kvs ds e _ r n=>
    cases v;refine list_dict hc I e λp s' hp I' _=>⟨.ref p,_,I',rfl,?_⟩
    have sp:bK H (upd H p (.lst (kvs.map λp=>kV p.1))):=bK.upd hp;exact k _ _ sp (.lst aF trivial (r.keys.same sp)) λ_=>.lst aF hp (r.keys.same sp)
   |@dT l kvs ds e _ r n=>
    cases v;cases r with
    |cons r t=>simp[isTup] at hl
    |nil=>
     have e2:=FZ (o':=.dK []) e;refine list_dict hc (jU I e) aF λp s' hp I' hne=>?_
     have hp':p≠l:=λz=>by subst z;rw[aF] at hp;cases hp
     have hpn:H p=ai:=by rw[aM hp'] at hp;exact hp
     have hcm:upd (upd (upd H l (.dK [])) p (.lst [])) l (.dT [])=upd H p (.lst []):=by
      funext b
      by_cases hb:b=l
      .subst hb;rw[aF,aM (Ne.symm hp'),e]
      .rw[aM hb];by_cases hb2:b=p
       .subst hb2;rw[aF,aF]
       .rw[aM hb2,aM hb2,aM hb]
     have I2:=mR I' (by rw[aM (Ne.symm hp'),aF]);have I3:Inv X Ψ σ (upd H p (.lst [])) s':=by
      have:Inv X Ψ σ (upd (upd (upd H l (.dK [])) p (.lst [])) l (.dT [])) s':=I2;rwa [hcm] at this
     have sp:bK H (upd H p (.lst [])):=bK.upd hpn;exact⟨.ref p,_,I3,rfl,k _ _ sp (.lst aF trivial .nil) λ_=>.lst aF hpn .nil⟩
  .exact bx e
 .exact bx e
def jK:nC X (.type "tuple") (rs fV aj):=by
 rintro Ψ s σ H xs us Q I vr ⟨ds,d,r,e,k⟩;unfold fV at e;split at e
 .cases e;obtain⟨vv,uu,rfl,rfl,r,v⟩:=fW r vr;obtain⟨l,ys,rfl,hl',rr⟩:=r.eO;cases v;exact oG Ψ s σ H [.ref l] [.ref l] Q I (.cons rfl .nil) ⟨l,ys,rfl,.inr ⟨.of hl',k.self (.tup hl' rr) λz=>by cases z⟩⟩
 .cases e;obtain⟨vv,uu,rfl,rfl,r,v⟩:=fW r vr;obtain⟨l,ys,rfl,hl',rr⟩:=r.gF;cases v;refine oG Ψ s σ H [.ref l] [.ref l] Q I (.cons rfl .nil) ⟨l,ys,rfl,.inl ⟨hl',λp hp=>?_⟩⟩;have sp:bK H (upd H p (.tup ys)):=bK.upd hp;exact k _ _ sp (.tup aF (rr.same sp)) λz=>by cases z
 .exact bx e
theorem z8{ro fr:aw}(pa:yB T)(slot:kQ T name id)(hty:nN (.builtin id)=pure (.type "method_descriptor"))(hm:MtR X id (rm f fr))(ho:PE X o (gE fo ro))(ha:PA X (e::es) (gA fs rr))
 (hT:∀(d:D) (ds:ae D) (r:D) (v:V) (H:Hp),f d ds=.ok r->Rep All H v d->tyV X.K T v H)
 (hbase:gl o name X.env (eval o X.env)=eval o X.env:=by rfl)
 (hfew:zFw X cpos (e::es):=by rfl)
 (hline:(apos.endLine==cpos.line)=ag:=by rfl)(hs:zSE X e es:=by rfl)(hplain:zSP X cpos es:=by rfl) :
  PE X (.Call (.Attribute o name apos) (e::es) [] cpos) (gE (bM f fo fs) fr):=
 PE.imp (PQ pa slot hty hm ho ha hbase hfew hline hs hplain) λσ H Q z0=>by
  obtain⟨ρ,d,E,h,q⟩:=z0;obtain⟨x,h1,h⟩:=bA h;obtain⟨ds,h2,h⟩:=bA h;exact⟨ρ,x,E,h1,λv H1 s1 r1 _=>⟨hT x ds d v H1 h r1,ρ,ds,E.same s1,h2,λvs H2 s2 r2 _=>⟨x,ds,d,r1.same s2,r2,h,q.imp (s1.trans s2) λz=>z⟩⟩⟩
noncomputable def spD(f:ae D->Res D)(n:ah):Sp:=λvs H Q _=>∃ds d,ds.length=n/\bJ All H vs ds/\f ds=.ok d/\kR H d ag Q
def aAo{E:XK}(h:spD f n vs H Q E):vs.length=n:=by
 obtain⟨ds,d,h1,r,_⟩:=h;rw[r.length,h1]
theorem aJk(F:j4 X.prog X.w X.K X.mg X.base CX0 k fad fd ps (spD f n))(hr:j0 k X.A)(hg:Gl X x)(hm:X.mg x=aa (.ref fad))(hk:gz X.K (.ref fad)=ag)(hb:Binds X.K fd ps [])
 (ha:PA X (e::es) (gA fs rr))(hdb:nDb x:=by decide)(he:zSE X e es:=by rfl)(hpl:zSP X pos es:=by rfl) :
  PE X (.Call (.Name x p) (e::es) [] pos) (gE (aQ (cU n f) fs) ag):=
 PE.imp (PN F hr hg hm hk hb .nil aEh ha hdb he hpl) λσ H Q z0=>by
  obtain⟨ρ,d,E,h,q⟩:=z0;obtain⟨ds,h1,h⟩:=bA h;unfold cU at h;split at h
  .rename_i hl;exact⟨ρ,ds,E,h1,λvs H1 s1 r1 _=>⟨ds,d,dy hl,by rw[dQ];exact r1,h,q.imp s1 id⟩⟩
  .exact bx h
end
end
noncomputable def m_(x:Str):ae D:=x.cps.toList.map λc=>ε ⟨#[c]⟩
noncomputable def QT(xs:ae D):ae D:=xs.zipIdx.map λp=>.tup [.int p.2,p.1]
noncomputable def X5(m:ah)(xs:ae D):ae D:=xs.zipIdx.map λp=>.tup [.int ((m+p.2:ah):ak),p.1]
section
variable [KFrag]
noncomputable def aS1(x:Str):It:=⟨λi _=>i<x.cps.size,λi H v H'=>H'=H/\∃c,x.cps[i]?=aa c/\v=.str ⟨#[c]⟩,λi _=>x.cps.size<=i⟩
def Ite(K:aT)(a:am):It:=
 ⟨λi H=>∃xs x,SqL K H a xs/\xs[i]?=aa x,λi H v H'=>∃t x,(∀xs,SqL K H a xs->xs[i]?=aa x)/\v=.ref t/\H t=ai/\H'=upd H t (.tup [.int i,x]),λi H=>∃xs,SqL K H a xs/\xs.length<=i⟩
def aTh(K:aT)(m:ah)(a:am):It:=
 ⟨λi H=>∃xs x,SqL K H a xs/\xs[i]?=aa x,λi H v H'=>∃t x,(∀xs,SqL K H a xs->xs[i]?=aa x)/\v=.ref t/\H t=ai/\H'=upd H t (.tup [.int ((m+i:ah):ak),x]),λi H=>∃xs,SqL K H a xs/\xs.length<=i⟩
def aEt{i:ah}:(X5 m xs)[i]?=(xs[i]?).map λd=>.tup [.int ((m+i:ah):ak),d]:=by
 unfold X5;rw[iX,B3,y6];cases xs[i]?<;>rfl
def aEu{i:ah}:(QT xs)[i]?=(xs[i]?).map λd=>.tup [.int i,d]:=by
 unfold QT;rw[iX,B3,y6];cases xs[i]?<;>rfl
def aAp(xs:ae D):(QT xs).length=xs.length:=by simp[QT]
structure ItQ(K:aT)(P:am->Prop)(J:It)(H:Hp)(items:ae D):Prop where
 it:∀(P':am->Prop)(H':Hp),z6 P H H'->(∀a o,H a=aa o->P a->P' a)->(∀i,items.length<=i->J.stop i H')/\∀i d,items[i]?=aa d->J.go i H'/\∀x H'',J.yld i H' x H''->bK H' H''/\Rep P' H'' x d
section
variable {K:aT} {P P':am->Prop} {J:It} {H H':Hp} {items:ae D}
theorem ItQ.keep'(h:ItQ K P J H items)(k:z6 P H H')(m:∀a o,H a=aa o->P a->P' a):ItQ K P' J H' items:=
 ⟨λP2 H2 k2 m2=>h.it P2 H2 (λa o e hp=>k2 a o (k a o e hp) (hp.imp (m a o e) id)) λa o e hp=>m2 a o (k a o e (.inl hp)) (m a o e hp)⟩
def ItQ.keep(h:ItQ K P J H items)(k:z6 P H H')(m:∀a,P a->P' a):ItQ K P' J H' items:=h.keep' k λa _ _=>m a
def ItQ.stop(h:ItQ K P J H items)(hi:items.length<=i):J.stop i H:=(h.it P H (λ_ _ e _=>e) λ_ _ _ hp=>hp).1 i hi
def ItQ.go(h:ItQ K P J H items)(hi:items[i]?=aa d):J.go i H/\∀x H',J.yld i H x H'->bK H H'/\Rep P H' x d:=(h.it P H (λ_ _ e _=>e) λ_ _ _ hp=>hp).2 i d hi
def ItQ.lst(a:am)(e:J=Itl K a)(r:Rep P H (.ref a) (.lst items)):ItQ K P J H items:=by
 refine⟨λP H kk mm=>?_⟩;have r:=r.QH kk mm;refine⟨λi hi=>?_,λi d hi=>?_⟩
 .subst e;obtain⟨a',xs,e,hq,rr⟩:=r.gF;cases e;exact⟨xs,hq,by rw[rr.length];exact hi⟩
 .subst e;obtain⟨a',xs,e,hq,rr⟩:=r.gF;cases e;obtain⟨v,h1,h2⟩:=rr.get hi;refine⟨⟨xs,v,hq,h1⟩,λx H' ⟨e,hy⟩=>?_⟩;subst e;refine⟨bK.refl _,?_⟩;have:=hy xs hq;rw[h1] at this;cases this;exact h2
def ItQ.tup(a:am)(e:J=Itt K a)(r:Rep P H (.ref a) (.tup items)):ItQ K P J H items:=by
 refine⟨λP H kk mm=>?_⟩;have r:=r.QH kk mm;refine⟨λi hi=>?_,λi d hi=>?_⟩
 .subst e;obtain⟨a',xs,e,hq,rr⟩:=r.eO;cases e;exact⟨xs,.of hq,by rw[rr.length];exact hi⟩
 .subst e;obtain⟨a',xs,e,hq,rr⟩:=r.eO;cases e;obtain⟨v,h1,h2⟩:=rr.get hi;refine⟨⟨xs,v,.of hq,h1⟩,λx H' ⟨e,hy⟩=>?_⟩;subst e;refine⟨bK.refl _,?_⟩;have:=hy xs (.of hq);rw[h1] at this;cases this;exact h2
def ItQ.rng(lo:ak)(n:ah)(e:J=Itr lo n)(r:items=(e9 n).map λ(k:ah)=>ι (lo+k)):ItQ K P J H items:=by
 refine⟨λP H k m=>?_⟩;refine⟨λi hi=>?_,λi d hi=>?_⟩
 .subst e r;show n<=i;simpa using hi
 .subst e r;have hlt:i<n:=by
   have:=(dq.mp hi).1;simpa using this
  refine⟨hlt,λx H' ⟨e,hy⟩=>?_⟩;subst e;have e2:ι (lo+(i:ak))=d:=by simpa[hlt] using hi
  rw[hy,<-e2];exact⟨bK.refl _,.int _⟩
def ItQ.chs(z:Str)(e:J=aS1 z)(r:items=m_ z):ItQ K P J H items:=by
 refine⟨λP H k m=>?_⟩;refine⟨λi hi=>?_,λi d hi=>?_⟩
 .subst e r;show z.cps.size<=i;simpa[m_] using hi
 .subst e r;have hlt:i<z.cps.size:=by
   have:=(dq.mp hi).1;simpa[m_] using this
  refine⟨hlt,λx H' ⟨e,c,hc,hv⟩=>?_⟩;subst e hv;refine⟨bK.refl _,?_⟩;have e2:ε ⟨#[c]⟩=d:=by
   unfold m_ at hi;rw[iX,vc,hc] at hi;simpa using hi
  rw[<-e2];exact .str _
def ItQ.enm(a:am)(ds:ae D)(e:J=Ite K a)(r:Rep P H (.ref a) (.lst ds))(h:items=QT ds):ItQ K P J H items:=by
 refine⟨λP H kk mm=>?_⟩;have r:=r.QH kk mm;refine⟨λi hi=>?_,λi d hi=>?_⟩
 .subst e h;obtain⟨a',xs,e,hq,rr⟩:=r.gF;cases e;exact⟨xs,hq,by rw[rr.length,<-aAp];exact hi⟩
 .subst e h;obtain⟨a',xs,e,hq,rr⟩:=r.gF;cases e;rw[aEu] at hi;cases hd:ds[i]? with
  |none=>rw[hd] at hi;cases hi
  |some y=>
   rw[hd] at hi;cases hi;obtain⟨v,h1,h2⟩:=rr.get hd;refine⟨⟨xs,v,hq,h1⟩,λx H' ⟨t,u,hy,e1,e2,e3⟩=>?_⟩;subst e1 e3;have:=hy xs hq;rw[h1] at this;cases this;have sp:bK H (upd H t (.tup [.int i,v])):=bK.upd e2;exact⟨sp,.tup aF (.cons (.int _) (.cons (h2.same sp) .nil))⟩
def ItQ.enf(m:ah)(a:am)(ds:ae D)(e:J=aTh K m a)(r:Rep P H (.ref a) (.lst ds))(h:items=X5 m ds):ItQ K P J H items:=by
 refine⟨λP H kk mm=>?_⟩;have r:=r.QH kk mm;refine⟨λi hi=>?_,λi d hi=>?_⟩
 .subst e h;obtain⟨a',xs,e,hq,rr⟩:=r.gF;cases e;exact⟨xs,hq,by rw[rr.length];simpa[X5] using hi⟩
 .subst e h;obtain⟨a',xs,e,hq,rr⟩:=r.gF;cases e;rw[aEt] at hi;obtain⟨y,hd,rfl⟩:=gn.mp hi;obtain⟨v,h1,h2⟩:=rr.get hd;refine⟨⟨xs,v,hq,h1⟩,λx H' ⟨t,u,hy,e1,e2,e3⟩=>?_⟩;subst e1 e3;have:=hy xs hq;rw[h1] at this;cases this;have sp:bK H (upd H t (.tup [.int ((m+i:ah):ak),v])):=bK.upd e2;exact⟨sp,.tup aF (.cons (.int _) (.cons (h2.same sp) .nil))⟩
def ItQ.scr(a:am)(hK:KFrag.K=K)(e:J=Itl K a)(r:Rep P H (.ref a) (.scr items)):ItQ K P J H items:=by
 refine⟨λP H kk mm=>?_⟩;have r:=r.QH kk mm;refine⟨λi hi=>?_,λi d hi=>?_⟩
 .subst e;cases r with
  |frz ee rr=>exact⟨_,ee.sq hK,by rw[rr.length];exact hi⟩
 .subst e;cases r with
  |@frz _ xs _ ee rr=>
   obtain⟨v,h1,h2⟩:=rr.get hi;refine⟨⟨xs,v,ee.sq hK,h1⟩,λx H' ⟨e,hy⟩=>?_⟩;subst e;refine⟨bK.refl _,?_⟩;have:=hy xs (ee.sq hK);rw[h1] at this;cases this;exact h2
end
noncomputable def gI(K:aT)(f:FI):TI:=λσ H R=>∃ρ items k,ER H σ ρ/\f ρ=.ok (items,k)/\∀J H1,bK H H1->ItQ K All J H1 items->(k=ag->ItQ K (New H) J H1 items)->R J H1
def gIV(K:aT)(i:ah):TI:=λσ H R=>∃v d items,σ[i]?=aa (aa v)/\Rep All H v d/\xQ d=.ok items/\∀J,(∀P:am->Prop,Rep P H v d->ItQ K P J H items)->R J H
section
variable {X:Cx} {tg l a b:Expr} {rr:aw} {fs:FA} {p pos:cm}
def UW(I1:Inv X Ψ σ H1 s1)(r:Rep All H1 v d)(ru:RelV v u)(hi:xQ d=.ok items)
 (q:∀J,(∀P:am->Prop,Rep P H1 v d->ItQ X.K P J H1 items)->R J H1):ϑ (ay X.prog X.w) X.A (kx u) (PIE X Ψ σ tg R) X.xe s1:=by
 cases d<;>simp only[xQ] at hi<;>cases hi
 .obtain⟨a,xs,rfl,e,rr⟩:=r.eO;cases ru;obtain⟨its,rv,p,hz⟩:=I1.tuple (.of e);refine oq (show s1.heap.IsTuple a its.toArray from p) ?_;refine⟨s1.heap.objs.size,[s1.heap.objs.size],_,_,H1,rfl,I1.kept λb o e=>bS _ e,W6 a _,⟨_,cu _ rfl,rfl,rfl⟩,λb hb=>?_,q _ λP r=>.tup a rfl r⟩;have e:b=s1.heap.objs.size:=by simpa using hb
  subst e;exact I1.aDu (bo _) (I1.hok.fresh (bo _))
 .obtain⟨a,xs,rfl,e,rr⟩:=r.gF;cases ru;obtain⟨its,rv,p,hz⟩:=I1.list e;refine jc p.isList ?_;refine⟨s1.heap.objs.size,[s1.heap.objs.size],_,_,H1,rfl,I1.kept λb o e=>bS _ e,JW a _,⟨_,cu _ rfl,rfl,rfl⟩,λb hb=>?_,q _ λP r=>.lst a rfl r⟩;have e:b=s1.heap.objs.size:=by simpa using hb
  subst e;exact I1.aDu (bo _) (I1.hok.fresh (bo _))
def aNy(hN:X.N[i]?=aa x)(hv:Vis X.env.scope x)(hd:nDb x:=by decide)(hcd:nCd x:=by decide):PI X tg (.Name x pos) (gIV X.K i):=by
 rintro Ψ s σ H R I ⟨v,d,items,hσ,r,hi,q⟩;exact thn (a_ hN hv hd hcd Ψ s σ H (λw H1=>w=v/\H1=H) I ⟨v,hσ,rfl,rfl⟩) λu s1 z0=>by
  obtain⟨w,H1,I1,ru,e1,e2⟩:=z0;subst e1 e2;exact UW I1 r ru hi q
def X6(h:xO i=ag):-(2 ^ 62)<=i/\i<2 ^ 62:=by
 simp only[xO,ba,c_] at h;exact h
def PI.imp(h:PI X tg l w)(i:∀σ H R,w' σ H R->w σ H R):PI X tg l w':=λΨ s σ H R I q=>h Ψ s σ H R I (i σ H R q)
def GD(hg:Gl X "range")(hm:X.mg "range"=ai)(ha:PA X [a] (gA fs rr))(hs:cw [a] X.env=[(aj,eval a X.env)]:=by rfl):PI X tg (.Call (.Name "range" p) [a] [] pos) (gI X.K (J8 fs FP)):=
 PI.imp (Z8 hg hm ha hs) λσ H R z0=>by
  obtain⟨ρ,items,k,E,h,q⟩:=z0;obtain⟨xs,h1,h⟩:=bA h;unfold FP at h;split at h
  .split at h
   .rename_i hb;cases h;obtain⟨b1,b2⟩:=X6 hb;refine⟨ρ,_,E,h1,λvs H1 s1 r1 _=>?_⟩;cases r1 with
    |cons r t=>
     cases t;cases r.inv;exact⟨_,rfl,b1,b2,q _ H1 s1 (.rng 0 _ rfl rfl) λ_=>.rng 0 _ rfl rfl⟩
   .exact bx h
  .exact bx h
end
def aEv(n:ah)(ρ bs:ae D)(i:ah)(h:i<n):(QG n ρ++bs).getD i .uD=ρ.getD i .uD:=by
 rw[cx,d4 (by simp[QG];exact h)];simp[QG,h]
def U0(n:ah)(ρ:ae D):(QG n ρ).length=n:=by simp[QG]
def TgC(g:TG)(t:D->Res (ae D))(n m:ah):Prop:=∀(v:V)(d:D)(bs:ae D)(σ:L2.St)(H:Hp)(Q:L2.St->Hp->Prop),σ.length=n->Rep All H v d->t d=.ok bs->
 (∀σ2,Ext (σ++bi m ai) σ2->(∀j b,bs[j]?=aa b->∃w,σ2[n+j]?=aa (aa w)/\Rep All H w b)->Q σ2 H)->g v (σ++bi m ai) H Q
def ER.ext(E:ER H σ ρ)(hn:σ.length=n)(x:Ext (σ++bi m ai) σ2)(hb:∀j b,bs[j]?=aa b->∃w,σ2[n+j]?=aa (aa w)/\Rep All H w b):ER H σ2 (QG n ρ++bs):=by
 intro i hi;by_cases h:i<n
 .rw[aEv n ρ bs i h] at hi ⊢;obtain⟨v,h1,h2⟩:=E i hi;exact⟨v,x.2 i v (by rw[d4 (by rw[hn];exact h)];exact h1),h2⟩
 .have e:(QG n ρ++bs).getD i .uD=bs.getD (i-n) .uD:=by
   rw[cx,dS (by rw[U0];lia),U0,<-cx]
  rw[e] at hi ⊢;cases hq:bs[i-n]? with
  |none=>rw[cx,hq] at hi;exact aS rfl hi
  |some b=>
   obtain⟨w,h1,h2⟩:=hb (i-n) b hq;rw[cx,hq];exact⟨w,by rw[<-h1];congr 1;lia,h2⟩
def yF{K:aT}(tg:TgC g t n m)(hc:∀σ H Q,gT c σ H Q->tc σ H Q)(hn:σ.length=n)(h:gE (fO n it t c f k) ag σ H Q) :
  QL (gI K it) g tc (gE f k) m σ H Q:=by
 obtain⟨ρ,d,E,h,q⟩:=h;obtain⟨⟨items,kk⟩,h1,h⟩:=bA h;split at h
 .rename_i hlim;obtain⟨ys,h2,h⟩:=bA h;cases h;refine⟨ρ,items,kk,E,h1,λJ H1 s1 hJ _ p hp=>?_⟩;have hp0:H p=ai:=s1.free hp;refine⟨λi n' vs H'=>n'=items.length-i/\i<=items.length/\H' p=aa (.lst vs)/\bK H1 H'/\∃acc,acc.length<=i/\bJ (λa=>H a=ai/\a≠p) H' vs acc/\h_ (oN n t c f k ρ) acc (items.drop i)=.ok ys,⟨items.length,?_⟩,?_⟩
  .exact⟨rfl,eP _,aF,bK.upd hp,[],eP _,.nil,h2⟩
  .rintro i n' vs H' ⟨rfl,hi,hH,sm,acc,hal,racc,hf⟩;refine⟨hH,?_⟩;have hJ':ItQ K All J H' items:=hJ.keep (.same sm) λ_ z=>z
   rcases lb i items.length with hlt|hge
   .refine .inr ?_;have e:items[i]?=aa items[i]:=eh hlt;obtain⟨g1,g2⟩:=hJ'.go e;have hl1:items.length<=lim:=dy hlim;refine⟨g1,?_,λx H2 hy=>?_⟩
    .rw[racc.length];exact ot hal (de hlt (dg hl1 (by rw[cy];decide)))
    .obtain⟨sH,rx⟩:=g2 x H2 hy;have hH:=sH p _ hH;have sm:=sm.trans sH;have racc:=racc.same sH;rw[iz hlt] at hf;obtain⟨acc2,hs,hf⟩:=bA hf;obtain⟨bs,hb,hs⟩:=bA hs;obtain⟨ok,hok,hs⟩:=bA hs;refine tg x items[i] bs σ H2 _ hn rx hb λσ2 hx hbs=>⟨hx,hc _ _ _ ?_⟩
     have E2:ER H2 σ2 (QG n ρ++bs):=(E.same (s1.trans sm)).ext hn hx hbs;refine⟨_,ok,E2,hok,λH4 s4=>?_⟩;cases ok with
     |true=>
      rw[aq rfl];rw[aq rfl] at hs;obtain⟨y,hy2,hs⟩:=bA hs;split at hs
      .rename_i hk;cases hs;refine⟨_,y,E2.same s4,hy2,λw H5 s5 r5 n5=>⟨s5 p _ (s4 p _ hH),items.length-(i+1),by lia,rfl,hlt,aF,?_,acc++[y],?_,?_,hf⟩⟩
       .exact λb o e=>by
         rw[aM (bF e hp)];exact s5 b o (s4 b o (sm b o e))
       .rw[b6,eR];lia
       .have hp5:H5 p=aa (.lst vs):=s5 p _ (s4 p _ hH);have ry:Rep (λa=>H a=ai/\a≠p) H5 w y:=by
         rw[f_] at hk;rcases hk with hk|hk
         .exact(n5 hk).mono λa ha=>⟨((s1.trans sm).trans s4).free ha,λz=>by subst z;have h0:=s4 _ _ hH;rw[show H4 _=ai from ha] at h0;cases h0⟩
         .exact r5.bQ hk
        have all:bJ (λa=>H a=ai/\a≠p) H5 (vs++[w]) (acc++[y]):=(racc.same (s4.trans s5)).snoc ry;refine all.keep (λb o e hb=>?_) λ_ z=>z
        rw[aM]
        .exact e
        .rcases hb with hb|hb
         .exact hb.2
         .intro z;subst z;rw[hp5] at e;cases e;cases hb
      .exact bx hs
     |false=>
      rw[ax 0x2];rw[ax 0x2] at hs;cases hs;exact⟨items.length-(i+1),by lia,rfl,hlt,s4 p _ hH,sm.trans s4,acc,by lia,racc.same s4,hf⟩
   .refine .inl ⟨hJ'.stop hge,?_⟩;rw[hV hge] at hf;cases hf;exact q _ _ (s1.trans sm) (.lst hH trivial racc.all) λ_=>.lst hH hp0 (racc.mono λa z=>z.1)
 .exact bx h
def gIx:ae ah->TGs
 |[]=>aQz
 |i::is=>W5 (gR i) (gIx is)
noncomputable def jW:ae ah->ae V->L2.St->L2.St
 |i::is,v::vs,σ=>jW is vs (σ.set i (aa v))
 |_,_,σ=>σ
def yG:∀(is:ae ah)(vs:ae V)(σ:L2.St),vs.length=is.length->Q (jW is vs σ) H->gIx is vs σ H Q
 |[],[],σ,_,q=>⟨rfl,q⟩
 |i::is,v::vs,σ,h,q=>⟨v,vs,rfl,yG is vs (σ.set i (aa v)) (by simpa using h) q⟩
 |[],_::_,_,h,_=>by simp at h
 |_::_,[],_,h,_=>by simp at h
def KH:∀(is:ae ah)(vs:ae V)(σ:L2.St),(jW is vs σ).length=σ.length
 |[],_,_=>by simp[jW]
 |_::_,[],_=>by simp[jW]
 |i::is,v::vs,σ=>by rw[jW,KH is vs];simp
def yH:∀(is:ae ah)(vs:ae V)(σ:L2.St)(k:ah),k∉is->(jW is vs σ)[k]?=σ[k]?
 |[],_,_,_,_=>by simp[jW]
 |_::_,[],_,_,_=>by simp[jW]
 |i::is,v::vs,σ,k,h=>by
  rw[bq,fE] at h;rw[jW,yH is vs _ k h.2,eB (Ne.symm h.1)]
def U3:∀(is:ae ah)(vs:ae V)(σ:L2.St)(j i:ah)(v:V),is.Nodup->(∀i∈is,i<σ.length)->is[j]?=aa i->vs[j]?=aa v->(jW is vs σ)[i]?=aa (aa v)
 |[],_,_,_,_,_,_,_,h,_=>by simp at h
 |_::_,[],_,_,_,_,_,_,_,h=>by simp at h
 |a::is,w::vs,σ,0,i,v,hn,hl,h1,h2=>by
  have e1:a=i:=by simpa using h1
  have e2:w=v:=by simpa using h2
  subst e1 e2;rw[jW,yH is vs _ a (eg.mp hn).1,gx (hl a (bE ..))]
 |a::is,w::vs,σ,j+1,i,v,hn,hl,h1,h2=>by
  rw[jW];exact U3 is vs _ j i v (eg.mp hn).2 (λi hi=>by rw[List.length_set];exact hl i (bX _ hi)) (by simpa using h1) (by simpa using h2)
def iH(n:ah):TgC (gR n) v6 n 1:=by
 intro v d bs σ H Q hn r h q;cases h;have hl:(σ++bi 1 (ai:au V)).length=n+1:=by simp[hn]
 refine q _ ⟨by simp,λi w hi=>?_⟩ λj b hj=>?_
 .have:i≠n:=λz=>by
   subst z;rw[dS 0x1] at hi;simp[hn] at hi
  rw[eB (Ne.symm this)];exact hi
 .have e:j=0:=by
   have:=(dq.mp hj).1;simp at this;exact this
  subst e;have e:d=b:=by simpa using hj
  subst e;exact⟨v,by rw[B4,gx 0x1],r⟩
def aJl(K:aT)(n m:ah):TgC (aMe K m (gIx (B5 n m))) (aJe m) n m:=by
 intro v d bs σ H Q hn r h q;cases d<;>simp only[aJe] at h<;>(try (exact bx h;done))
 split at h
 .rename_i hm;cases h;have hm':=dy hm;obtain⟨a,xs,rfl,e,rr⟩:=r.eO;refine⟨a,xs,rfl,.of e,by rw[rr.length];exact hm',yG _ _ _ (by rw[rr.length,hm'];simp) ?_⟩;refine q _ ⟨by rw[KH],λi w hi=>?_⟩ λj b hj=>?_
  .rw[yH]
   .exact hi
   .intro hmem;have:=B6.mp hmem;rw[dS 0x1] at hi;rw[hI] at hi;split at hi<;>cases hi
  .obtain⟨w,h1,h2⟩:=rr.get hj;have hjm:j<m:=by rw[<-hm'];exact(dq.mp hj).1
   refine⟨w,U3 _ _ _ j (n+j) w (List.nodup_range' ..) (λi hi=>?_) ?_ h1,h2⟩
   .have:=B6.mp hi;simp[hn];lia
   .rw[List.getElem?_range' hjm];simp
 .exact bx h
section
def aJm(S:dH X.N X.env.scope scope ownN)(hn:X.N.length=n)(hm:ownN.length=m)(hcalm:X.calm=ag)(hi:PI X tg iter (gI X.K it))(ht:TgC g t n m)(hg:∀X',d7 X X' scope ownN->PG X' tg g)(he:∀X',d7 X X' scope ownN->PE X' elt (gE fe re))
 (hs:∀x,fg iter X.env x=pure x):PE X (.ListComp elt [⟨tg,iter,[],0⟩] scope pos) (gE (fO n it t gD fe re) ag):=by
 intro Ψ s σ H Q I h;subst hm;exact aEp S hcalm hi hg he hs Ψ s σ H Q I (yF ht (λσ H Q h=>by obtain⟨ρ,b,E,h,q⟩:=h;cases h;exact q H (bK.refl H)) (I.len.trans hn) h)
def aAq(S:dH X.N X.env.scope scope ownN)(hn:X.N.length=n)(hm:ownN.length=m)(hcalm:X.calm=ag)(hi:PI X tg iter (gI X.K it))(ht:TgC g t n m)(hg:∀X',d7 X X' scope ownN->PG X' tg g)(hc:∀X',d7 X X' scope ownN->PT X' c (gT gc))(he:∀X',d7 X X' scope ownN->PE X' elt (gE fe re))
 (hs:∀x,fg iter X.env x=pure x):PE X (.ListComp elt [⟨tg,iter,[c],0⟩] scope pos) (gE (fO n it t gc fe re) ag):=by
 intro Ψ s σ H Q I h;subst hm;exact aAl S hcalm hi hg hc he hs Ψ s σ H Q I (yF ht (λσ H Q h=>h) (I.len.trans hn) h)
end
end
variable [KFrag]
def e_.bQ:∀{v:ae (Key×V)}{d:ae (D×D)},e_ P H v d->δ (d.map (·.2))=ag->e_ P' H v d
 |_,_,.nil,_=>.nil
 |_,_,.cons r t,h=>by
  rw[bh,δ,ba] at h;exact .cons (r.bQ h.1) (t.bQ h.2)
def lR.bQ:∀{v:ae (ae Key×V)}{d:ae (D×D)},lR P H v d->δ (d.map (·.2))=ag->lR P' H v d
 |_,_,.nil,_=>.nil
 |_,_,.cons r t,h=>by
  rw[bh,δ,ba] at h;exact .cons (r.bQ h.1) (t.bQ h.2)
def Rep.aR6(r:Rep P H (.ref a) d)(h:inner d=ag)(hp:P' a):Rep P' H (.ref a) d:=by
 cases r with
 |tup e r=>cases h
 |lst e p r=>exact .lst e hp (r.bQ h)
 |cel e p r=>exact .cel e hp (r.bQ h)
 |frz e r=>cases h
 |dK e p r n=>exact .dK e hp (r.bQ h) n
 |dT e p r n=>exact .dT e hp (r.bQ h) n
 |exc n e q=>cases h
 |ins n e q=>cases h
def Own(own:ah->aw)(σ:L2.St)(a:am):Prop:=∃i,own i=ag/\σ[i]?=aa (aa (.ref a))
structure ES(own:ah->aw)(H:Hp)(σ:L2.St)(ρ:ae D):Prop where
 len:σ.length=ρ.length
 at_:∀i,ρ.getD i .uD≠.uD->∃v,σ[i]?=aa (aa v)/\(own i=aj->Rep (λa=>¬Own own σ a) H v (ρ.getD i .uD))
 own:∀i v,own i=ag->σ[i]?=aa (aa v)->∃a o,v=.ref a/\Rep All H v (ρ.getD i .uD)/\inner (ρ.getD i .uD)=ag/\H a=aa o/\xT o=ag/\∀j,own j=ag->σ[j]?=aa (aa (.ref a))->j=i
variable {own:ah->aw}
def ES.er(e:ES own H σ ρ):ER H σ ρ:=λi hi=>by
 obtain⟨v,h1,h2⟩:=e.at_ i hi;cases ho:own i with
 |false=>exact⟨v,h1,(h2 ho).all⟩
 |true=>
  obtain⟨a,o,_,h3,_⟩:=e.own i v ho h1;exact⟨v,h1,h3⟩
def ES.live(e:ES own H σ ρ)(h:Own own σ a):∃o,H a=aa o/\xT o=ag:=by
 obtain⟨i,hi,hs⟩:=h;obtain⟨b,o,eb,_,_,h3,h4,_⟩:=e.own i _ hi hs;cases eb;exact⟨o,h3,h4⟩
def ES.same(e:ES own H σ ρ)(s:bK H H'):ES own H' σ ρ:=by
 refine⟨e.len,λi hi=>?_,λi v hi hv=>?_⟩
 .obtain⟨v,h1,h2⟩:=e.at_ i hi;exact⟨v,h1,λho=>(h2 ho).same s⟩
 .obtain⟨a,o,h1,h2,h3,h4,h5,h6⟩:=e.own i v hi hv;exact⟨a,o,h1,h2.same s,h3,s _ _ h4,h5,h6⟩
def KU(own:ah->aw)(σ:L2.St)(H:Hp)(σ':L2.St)(H':Hp):Prop:=∀a o,H a=aa o->¬Own own σ a->H' a=aa o/\¬Own own σ' a
def KU.trans(a:KU own σ H σ1 H1)(b:KU own σ1 H1 σ2 H2):KU own σ H σ2 H2:=λc o e n=>let ⟨e1,n1⟩:=a c o e n;b c o e1 n1
def KU.same(s:bK H H'):KU own σ H σ H':=λa o e n=>⟨s a o e,n⟩
def KU.keep(k:KU own σ H σ' H')(e:ES own H σ ρ):z6 (λa=>¬Own own σ a) H H':=λa o h hp=>by
 by_cases ho:Own own σ a
 .obtain⟨o',h1,h2⟩:=e.live ho;rw[h] at h1;cases h1;rcases hp with hp|hp
  .exact aS ho hp
  .rw[h2] at hp;cases hp
 .exact(k a o h ho).1
def KU.rep(k:KU own σ H σ' H')(e:ES own H σ ρ)(r:Rep (λa=>¬Own own σ a) H v d):Rep (λa=>¬Own own σ' a) H' v d:=r.QH (k.keep e) λa o h n=>(k a o h n).2
def kRt(own:ah->aw)(D:Ends)(σ:L2.St)(H:Hp)(d:Mi.D):Prop:=if own rtX=ag then ∃d0 ρ',d=.tup (d0::ρ')/\∀v σ' H',KU own σ H σ' H'->ES own H' σ' ρ'->Rep (λa=>(Own own σ a\/H a=ai)/\∀i b xs,ρ'.getD i .uD=.cel b xs->a≠b) H' v d0->D.rt v H'
  else ∀v H',(∀a o,H a=aa o->¬Own own σ a->H' a=aa o)->Rep (λa=>Own own σ a\/H a=ai) H' v d->D.rt v H'
def kRt.old{D:Ends}(h:kRt own D σ H d)(hx:own rtX=aj):∀v H',(∀a o,H a=aa o->¬Own own σ a->H' a=aa o)->Rep (λa=>Own own σ a\/H a=ai) H' v d->D.rt v H':=by
 unfold kRt at h;rw[ax (by rw[hx];simp)] at h;exact h
def kRt.mk{D:Ends}(hx:own rtX=aj)(h:∀v H',(∀a o,H a=aa o->¬Own own σ a->H' a=aa o)->Rep (λa=>Own own σ a\/H a=ai) H' v d->D.rt v H'):kRt own D σ H d:=by
 unfold kRt;rw[ax (by rw[hx];simp)];exact h
def kS(own:ah->aw)(D:Ends)(σ:L2.St)(H:Hp):Fl->Prop
 |.nx ρ=>∀σ' H',KU own σ H σ' H'->ES own H' σ' ρ->D.nx σ' H'
 |.bk ρ=>∀σ' H',KU own σ H σ' H'->ES own H' σ' ρ->D.bk σ' H'
 |.ct ρ=>∀σ' H',KU own σ H σ' H'->ES own H' σ' ρ->D.ct σ' H'
 |.rt d=>kRt own D σ H d
def kS.step{D:Ends}{σ σ':L2.St}{H H':Hp}{fl:Fl}(k:KU own σ H σ' H')(h:kS own D σ H fl):kS own D σ' H' fl:=by
 cases fl with
 |nx ρ=>exact λσ2 H2 k2 e=>h σ2 H2 (k.trans k2) e
 |bk ρ=>exact λσ2 H2 k2 e=>h σ2 H2 (k.trans k2) e
 |ct ρ=>exact λσ2 H2 k2 e=>h σ2 H2 (k.trans k2) e
 |rt d=>
  have old:∀a,(Own own σ' a\/H' a=ai)->Own own σ a\/H a=ai:=λa ha=>by
   cases q:H a with
   |none=>exact .inr rfl
   |some o=>
    refine .inl (B7 λn=>?_);obtain⟨e1,n1⟩:=k a o q n;rcases ha with ha|ha
    .exact n1 ha
    .rw[e1] at ha;cases ha
  have h:kRt own D σ H d:=h;show kRt own D σ' H' d;unfold kRt at h ⊢;by_cases hx:own rtX=ag
  .rw[aq hx] at h ⊢;obtain⟨d0,ρ',e,g⟩:=h;exact⟨d0,ρ',e,λv σ2 H2 k2 E2 r=>g v σ2 H2 (k.trans k2) E2 (r.mono λa ha=>⟨old a ha.1,ha.2⟩)⟩
  .rw[ax hx] at h ⊢;exact λv H2 hk r=>h v H2 (λa o e n=>let ⟨e1,n1⟩:=k a o e n;hk a o e1 n1) (r.mono λa ha=>old a ha)
noncomputable def tS(own:ah->aw)(f:FS):TS:=λD σ H=>∃ρ fl,ES own H σ ρ/\f ρ=.ok fl/\kS own D σ H fl
def PS.imp{st:bp}(h:PS X st t)(i:∀D σ H,t' D σ H->t D σ H):PS X st t':=λΨ s σ H D I q=>h Ψ s σ H D I (i D σ H q)
def PSs.imp{st:ae bp}{t t':TS}(h:PSs X st t)(i:∀D σ H,t' D σ H->t D σ H):PSs X st t':=λΨ s σ H D I q=>h Ψ s σ H D I (i D σ H q)
section
variable {X:Cx} {a b c e:Expr} {pos pos':cm} {fe:FE} {re:aw} {gc:FT} {f g:FS} {st:bp} {rest s1 s2:ae bp}
def cQ:PSs X [] (tS own jT):=PSs.imp uH λD σ H z0=>by
 obtain⟨ρ,fl,E,h,q⟩:=z0;cases h;exact q σ H (λa o e n=>⟨e,n⟩) E
def aJn{D:Ends}(h:tS own (bU f g) D σ H):wV (tS own f) (tS own g) D σ H:=by
 obtain⟨ρ,fl,E,h,q⟩:=h;obtain⟨r,h1,h2⟩:=bA h;refine⟨ρ,r,E,h1,?_⟩;cases r with
 |nx ρ'=>exact λσ' H' k E'=>⟨ρ',fl,E',h2,q.step k⟩
 |bk ρ'=>cases h2;exact q
 |ct ρ'=>cases h2;exact q
 |rt d=>cases h2;exact q
def aK(h1:PS X st (tS own f))(h2:PSs X rest (tS own g)):PSs X (st::rest) (tS own (bU f g)):=PSs.imp (bO h1 h2) λ_ _ _=>aJn
def aV(h1:PS X st (tS own f)):PSs X [st] (tS own f):=dD h1
def jC(hc:PT X c (gT gc))(ha:PSs X s1 (tS own f))(hb:PSs X s2 (tS own g)):PS X (.If c s1 s2 pos) (tS own (sIf gc f g)):=PS.imp (DW hc ha hb) λD σ H z0=>by
 obtain⟨ρ,fl,E,h,q⟩:=z0;obtain⟨k,h1,h2⟩:=bA h;refine⟨ρ,k,E.er,h1,λH' s=>?_⟩;cases k with
 |true=>rw[aq rfl];rw[aq rfl] at h2;exact⟨ρ,fl,E.same s,h2,q.step (.same s)⟩
 |false=>rw[ax 0x2];rw[ax 0x2] at h2;exact⟨ρ,fl,E.same s,h2,q.step (.same s)⟩
def dX(he:PE X e (gE fe re))(hx:own rtX=aj:=by rfl):PS X (.Return (aa e) pos) (tS own (lY fe re)):=PS.imp (BR he) λD σ H z0=>by
 obtain⟨ρ,fl,E,h,q⟩:=z0;obtain⟨d,h1,h2⟩:=bA h;split at h2
 .rename_i hk;cases h2;refine⟨ρ,d,E.er,h1,λv H' s r n=>q.old hx v H' (λa o e _=>s a o e) ?_⟩;rw[f_] at hk;rcases hk with hk|hk
  .exact(n hk).mono λa ha=>.inr ha
  .exact r.bQ hk
 .exact bx h2
def aJo(ho:own i=ag)(hN:X.N[i]?=aa x)(hv:Vis X.env.scope x)(hd:nDb x:=by decide)(hcd:nCd x:=by decide)(hx:own rtX=aj:=by rfl):PS X (.Return (aa (.Name x pos')) pos) (tS own (aNn i)):=
 PS.imp (BR (a_ hN hv hd hcd)) λD σ H z0=>by
 obtain⟨ρ,fl,E,h,q⟩:=z0;obtain⟨d,h1,h2⟩:=bA h;cases h2;obtain⟨v,hv,r,e⟩:=E.er.var h1;obtain⟨a,o,rfl,r2,hin,_⟩:=E.own i v ho hv;rw[e] at hin;exact⟨_,hv,q.old hx _ H (λa o e _=>e) (r.aR6 hin (.inl ⟨i,ho,hv⟩))⟩
def uL(he:PE X e (gE fe re))(hs:en e ai pos.line X.env=pure aj:=by rfl):PS X (.Expr e pos) (tS own (vR fe)):=PS.imp (iZ he hs) λD σ H z0=>by
 obtain⟨ρ,fl,E,h,q⟩:=z0;obtain⟨d,h1,h2⟩:=bA h;cases h2;exact⟨ρ,d,E.er,h1,λv H' s r n=>q σ H' (.same s) (E.same s)⟩
def lZ(ho:own i=aj)(a:am):Own own (σ.set i (aa v)) a↔Own own σ a:=by
 constructor
 .rintro⟨j,hj,e⟩;have:i≠j:=λz=>by subst z;rw[ho] at hj;cases hj
  rw[eB this] at e;exact⟨j,hj,e⟩
 .rintro⟨j,hj,e⟩;have:i≠j:=λz=>by subst z;rw[ho] at hj;cases hj
  exact⟨j,hj,by rw[eB this];exact e⟩
def cN{ρ:ae D}:(ρ.set i d).getD j .uD=if i=j/\i<ρ.length then d else ρ.getD j .uD:=by
 rw[cx,cx,y8];by_cases h:i=j
 .subst h;by_cases h2:i<ρ.length
  .simp[h2]
  .simp[h2]
 .simp[h]
def ES.set(E:ES own H σ ρ)(ho:own i=aj)(r:Rep (λa=>¬Own own σ a) H v d):ES own H (σ.set i (aa v)) (ρ.set i d):=by
 have hO:(λa=>¬Own own (σ.set i (aa v)) a)=λa=>¬Own own σ a:=funext λa=>by rw[lZ ho]
 refine⟨by simp[E.len],λj hj=>?_,λj w hj hw=>?_⟩
 .rw[cN] at hj ⊢;rw[hO];by_cases h:i=j/\i<ρ.length
  .rw[aq h];obtain⟨rfl,hl⟩:=h;exact⟨v,by rw[gx (by rw[E.len];exact hl)],λ_=>r⟩
  .rw[ax h] at hj ⊢;obtain⟨w,h1,h2⟩:=E.at_ j hj;by_cases hij:i=j
   .subst hij;have:i<σ.length:=(dq.mp h1).1;rw[E.len] at this;exact aS ⟨rfl,this⟩ h
   .exact⟨w,by rw[eB hij];exact h1,h2⟩
 .have hij:i≠j:=λz=>by subst z;rw[ho] at hj;cases hj
  rw[eB hij] at hw;rw[cN,ax λz=>hij z.1];obtain⟨a,o,h1,h2,h3,h4,h5,h6⟩:=E.own j w hj hw;refine⟨a,o,h1,h2,h3,h4,h5,λk hk hs=>h6 k hk ?_⟩;have hik:i≠k:=λz=>by subst z;rw[ho] at hk;cases hk
  rwa [eB hik] at hs
def ES.aUk{i:ah}{a:am}{o:HO}{d:D}(E:ES own H σ ρ)(s:bK H H')(ho:own i=ag)(hn:H a=ai)(r:Rep All H' (.ref a) d)(hin:inner d=ag)(ha:H' a=aa o)(hm:xT o=ag) :
  ES own H' (σ.set i (aa (.ref a))) (ρ.set i d)/\KU own σ H (σ.set i (aa (.ref a))) H':=by
 have hO:∀b,H b≠ai->¬Own own σ b->¬Own own (σ.set i (aa (.ref a))) b:=λb hb n z0=>by
  obtain⟨j,hj,e⟩:=z0;by_cases hij:i=j
  .subst hij;by_cases hl:i<σ.length
   .rw[gx hl] at e;cases e;exact hb hn
   .rw[y8,aq rfl,ax hl] at e;cases e
  .rw[eB hij] at e;exact n ⟨j,hj,e⟩
 refine⟨⟨by simp[E.len],λj hj=>?_,λj w hj hw=>?_⟩,λb ob e n=>⟨s b ob e,hO b (by rw[e];simp) n⟩⟩
 .rw[cN] at hj ⊢;by_cases h:i=j/\i<ρ.length
  .rw[aq h];obtain⟨rfl,hl⟩:=h;exact⟨.ref a,by rw[gx (by rw[E.len];exact hl)],λz=>by rw[ho] at z;cases z⟩
  .rw[ax h] at hj ⊢;obtain⟨w,h1,h2⟩:=E.at_ j hj;by_cases hij:i=j
   .subst hij;have:i<σ.length:=(dq.mp h1).1;rw[E.len] at this;exact aS ⟨rfl,this⟩ h
   .exact⟨w,by rw[eB hij];exact h1,λhj=>((h2 hj).dom.same s).mono λb ⟨n,hb⟩=>hO b hb n⟩
 .by_cases hij:i=j
  .subst hij;have hl:i<σ.length:=by
    have:=(dq.mp hw).1;simpa using this
   rw[gx hl] at hw;cases hw;rw[cN,aq ⟨rfl,by rw[<-E.len];exact hl⟩];refine⟨a,o,rfl,r,hin,ha,hm,λk hk hs=>?_⟩;by_cases hik:i=k
   .exact hik.symm
   .rw[eB hik] at hs;obtain⟨o',h1,_⟩:=E.live ⟨k,hk,hs⟩;rw[hn] at h1;cases h1
  .rw[eB hij] at hw;rw[cN,ax λz=>hij z.1];obtain⟨b,ob,h1,h2,h3,h4,h5,h6⟩:=E.own j w hj hw;refine⟨b,ob,h1,h2.same s,h3,s _ _ h4,h5,λk hk hs=>?_⟩;by_cases hik:i=k
   .subst hik;by_cases hl:i<σ.length
    .rw[gx hl] at hs;cases hs;rw[hn] at h4;cases h4
    .rw[y8,aq rfl,ax hl] at hs;cases hs
   .rw[eB hik] at hs;exact h6 k hk hs
def aNz(r:Rep P H v d)(hin:inner d=ag):∃a o,v=.ref a/\P a/\H a=aa o/\xT o=ag:=by
 cases r with
 |lst e p r=>exact⟨_,_,rfl,p,e,rfl⟩
 |cel e p r=>exact⟨_,_,rfl,p,e,rfl⟩
 |dK e p r n=>exact⟨_,_,rfl,p,e,rfl⟩
 |dT e p r n=>exact⟨_,_,rfl,p,e,rfl⟩
 |_=>cases hin
def aJp(E:ES own H σ ρ)(r:Rep (New H) H' v d):Rep (λa=>¬Own own σ a) H' v d:=r.mono λa ha ho=>by
 obtain⟨o,h1,_⟩:=E.live ho;rw[show H a=ai from ha] at h1;cases h1
def QV(ho:own i=o)(h:tS own (cZ o i fe re) D' σ H):JV (gE fe re) (gR i) D' σ H:=by
 obtain⟨ρ,fl,E,h,q⟩:=h;obtain⟨d,h1,h2⟩:=bA h;cases o with
 |true=>
  simp only[c9] at h2;split at h2
  .rename_i hk;cases h2;refine⟨ρ,d,E.er,h1,λv H' s r n=>?_⟩;rw[ba] at hk;obtain⟨a,ob,rfl,hn,ha,hm⟩:=aNz (n hk.1) hk.2;obtain⟨E2,k⟩:=E.aUk s ho hn r hk.2 ha hm;exact q _ H' k E2
  .exact bx h2
 |false=>
  simp only[fT,dw] at h2;split at h2
  .rename_i hk;cases h2;refine⟨ρ,d,E.er,h1,λv H' s r n=>?_⟩;rw[f_] at hk;have r2:Rep (λa=>¬Own own σ a) H' v d:=by
    rcases hk with hk|hk
    .exact aJp E (n hk)
    .exact r.bQ hk
   exact q _ H' (λa ob e hn=>⟨s a ob e,by rw[lZ ho];exact hn⟩) ((E.same s).set ho r2)
  .exact bx h2
def bT(ho:own i=o)(hN:X.N.Nodup)(hi:X.N[i]?=aa x)(hx:Loc X.env.scope x)(he:PE X e (gE fe re))(hs:zSw X e x pos' pos:=by rfl)(hf:zFn X x:=by first|exact .inl rfl|exact .inr rfl|assumption) :
  PS X (.Assign [.Name x pos'] e pos) (tS own (cZ o i fe re)):=PS.imp (BV hN hi hx he hs hf) λ_ _ _=>QV ho
def aUl{i:ah}{x:Str}{o:aw}(he:PE X e (gE fe re))(ho:own i=o:=by rfl)(hN:X.N.Nodup:=by assumption)(hi:X.N[i]?=aa x:=by exact rfl)(hx:Loc X.env.scope x:=by trivial)(hs:zSw X e x pos' pos:=by rfl)(hf:zFn X x:=by first|exact .inl rfl|exact .inr rfl|assumption):PS X (.Assign [.Name x pos'] e pos) (tS own (cZ o i fe re)):=bT ho hN hi hx he hs hf
def ES.mut{i:ah}{a:am}{o:HO}{d:D}(E:ES own H σ ρ)(ho:own i=ag)(hi:σ[i]?=aa (aa (.ref a)))(hm:xT o=ag)(r:Rep All (upd H a o) (.ref a) d)(hin:inner d=ag) :
  ES own (upd H a o) σ (ρ.set i d)/\KU own σ H σ (upd H a o):=by
 have hOa:Own own σ a:=⟨i,ho,hi⟩
 obtain⟨a',oa,ea,_,_,hHa,hma,huq⟩:=E.own i _ ho hi;cases ea;have k:KU own σ H σ (upd H a o):=λb ob e n=>⟨by rw[aM (λz=>by subst z;exact n hOa)];exact e,n⟩
 have hl:i<ρ.length:=by rw[<-E.len];exact(dq.mp hi).1
 refine⟨⟨by simp[E.len],λj hj=>?_,λj w hj hw=>?_⟩,k⟩
 .rw[cN] at hj ⊢;by_cases h:i=j/\i<ρ.length
  .obtain⟨rfl,_⟩:=h;exact⟨_,hi,λz=>by rw[ho] at z;cases z⟩
  .rw[ax h] at hj ⊢;obtain⟨w,h1,h2⟩:=E.at_ j hj;exact⟨w,h1,λhj=>k.rep E (h2 hj)⟩
 .by_cases hij:i=j
  .subst hij;rw[hi] at hw;cases hw;rw[cN,aq ⟨rfl,hl⟩];exact⟨a,o,rfl,r,hin,aF,hm,huq⟩
  .rw[cN,ax λz=>hij z.1];obtain⟨b,ob,h1,h2,h3,h4,h5,h6⟩:=E.own j w hj hw;subst h1;have hba:b≠a:=λz=>by subst z;exact hij (h6 i ho hi)
   refine⟨b,ob,rfl,?_,h3,by rw[aM hba];exact h4,h5,h6⟩;refine(h2.aR6 (P':=λc=>c=b) h3 rfl).keep (λc oc hc hp=>?_) λ_ _=>trivial
   rw[aM]
   .exact hc
   .intro z;subst z;rcases hp with hp|hp
    .exact hba hp.symm
    .rw[hHa] at hc;cases hc;rw[hma] at hp;cases hp
def ES.ownAt(E:ES own H σ ρ)(ho:own i=ag)(hd:ρ.getD i .uD≠.uD):∃a o,σ[i]?=aa (aa (.ref a))/\Rep All H (.ref a) (ρ.getD i .uD)/\inner (ρ.getD i .uD)=ag/\H a=aa o/\xT o=ag:=by
 obtain⟨v,h1,_⟩:=E.at_ i hd;obtain⟨a,o,rfl,h2,h3,h4,h5,_⟩:=E.own i v ho h1;exact⟨a,o,h1,h2,h3,h4,h5⟩
def U4{a:am}(r:Rep All H (.ref a) (.lst xs)):∃vs,H a=aa (.lst vs)/\bJ All H vs xs:=by
 cases r with
 |lst e _ r=>exact⟨_,e,r⟩
def bJ.upd{a:am}{xs:ae D}{o:HO}{ob:HO}(r:bJ All H vs xs)(hp:δ xs=ag)(ha:H a=aa ob)(hm:xT ob=ag):bJ All (upd H a o) vs xs:=by
 refine(r.bQ (P':=λ_=>cf) hp).keep (λc oc hc h=>?_) λ_ h=>h.elim
 rw[aM]
 .exact hc
 .intro z;subst z;rcases h with h|h
  .exact h
  .rw[ha] at hc;cases hc;rw[hm] at h;cases h
def fX:δ (xs++ys)=(δ xs&&δ ys):=by
 induction xs with
 |nil=>simp[δ]
 |cons x xs ih=>rw[mh,δ,δ,ih,Bm]
def aO0(ho:own i=ag)(hN:X.N[i]?=aa x)(hv:Vis X.env.scope x)(he:PE X e (gE fe re))(hd:nDb x:=by decide)(hcd:nCd x:=by decide)
 (hbase:gl (.Name x p1) "append" X.env (eval (.Name x p1) X.env)=eval (.Name x p1) X.env:=by rfl)
 (hs1:zSE X e []:=by rfl)
 (hfew:zFw X cpos [e]:=by rfl)
 (hline:(apos.endLine==cpos.line)=ag:=by rfl)
 (hs:en (.Call (.Attribute (.Name x p1) "append" apos) [e] [] cpos) ai pos.line X.env=pure aj:=by rfl) :
  PS X (.Expr (.Call (.Attribute (.Name x p1) "append" apos) [e] [] cpos) pos) (tS own (aNo i fe)):=
 PS.imp (iZ (PQ iA l7 ou jQ (a_ hN hv hd hcd) (b8 he dY hs1) hbase hfew hline hs1 rfl) hs) λD' σ H z0=>by
 obtain⟨ρ,fl,E,h,q⟩:=z0;obtain⟨d,h1,h2⟩:=bA h;split at h2
 .rename_i xs hx;split at h2
  .rename_i hk;cases h2;rw[ba] at hk;obtain⟨a,o,hσ,r,hin,ha,hm⟩:=E.ownAt ho (by rw[hx];intro z;cases z);rw[hx] at r hin;obtain⟨vs,hl,rr⟩:=U4 r;refine⟨_,hσ,.inl ⟨rfl,vs,.of hl⟩,ρ,d,E.er,h1,λv H' s rv _=>⟨a,vs,v,rfl,rfl,s _ _ hl,by rw[rr.length];exact J9 hk.1,?_⟩⟩;have E':=E.same s;have hl':=s _ _ hl;obtain⟨E2,k2⟩:=E'.mut ho hσ rfl (.lst aF trivial (((rr.same s).snoc rv).upd (by rw[fX];simp only[ba];exact⟨hin,by simp[δ,hk.2]⟩) hl' rfl)) (by show δ (xs++[d])=ag;rw[fX];simp only[ba];exact⟨hin,by simp[δ,hk.2]⟩);exact q _ _ ((KU.same s).trans k2) E2
  .exact bx h2
 .exact bx h2
end
end Mi
namespace L2
open PySem PySem.Spec PyProof.Rows
section
theorem aEw(hNn:X.N.Nodup)(hiy:X.N[iy]?=aa y)(hxy:Loc X.env.scope y)(hfy:zFn X y)(f:Inv X Ψ σ H5 s6)(k:ZQ X Ψ H5 C)(n:s6.heap.Ns C m6)(q:gR iy (.ref p) σ H5 D.nx):mf (ay X.prog X.w) X.A X.xe (aa (kq (.Name y py) X.env)) (λ_ s'=>SP X Ψ D .next s') (.ref p) C (.ok .next) s6:=by
 obtain⟨oC,esC,epC,hoC,hdC,_⟩:=id n;have finP:=f.PJ (pins':=Ψ++[(C,oC)]) λp hp=>(d6.mp hp).elim (λz=>f.pin p (dA _ z)) λz=>by
  have z':p=(C,oC):=by simpa using z
  subst z';exact⟨hoC,k.1,k.2.1,k.2.2.1,λv z=>by rw[hdC] at z;cases z⟩
 refine thn (aR hNn hiy hxy hfy _ _ σ H5 (.ref p) (.ref p) D.nx finP rfl q) λ_ s7 ⟨σ7,H7,I7,q7⟩=>?_
 obtain⟨g7,hC7,_⟩:=I7.pin (C,oC) (dA _ (dA _ 0x2));refine⟨m6,n.at' λo e=>?_,λh' sb=>⟨σ7,H7,Inv.turned I7.oF (λb o hb e=>sb.extBut b o hb e) hC7 k.2.1 k.2.2.2.1 k.2.2.2.2.1 k.2.2.2.2.2,q7⟩⟩;rw[hoC] at e;cases e;exact g7
def aS2(S:dH X.N X.env.scope scope own)(hcalm:X.calm=ag)(hi:PI X tg iter wi)
 (hg:∀X',d7 X X' scope own->PG X' tg g)(hc:(ifs=[]/\tc=λ_ H Q=>Q ag H)\/∃c,ifs=[c]/\∀X',d7 X X' scope own->PT X' c tc)(he:∀X',d7 X X' scope own->PE X' elt te)
 (hs:∀x,fg iter X.env x=pure x)(hNn:X.N.Nodup)(hiy:X.N[iy]?=aa y)(hxy:Loc X.env.scope y)(hfy:zFn X y)(hsw:en (.ListComp elt [⟨tg,iter,ifs,0⟩] scope pos) (aa (.Name y py)) pos2.line X.env=pure ag):PS X (.Assign [.Name y py] (.ListComp elt [⟨tg,iter,ifs,0⟩] scope pos) pos2) (JV (QL wi g tc te own.length) (gR iy)):=by
 intro Ψ s σ H D I h;rw[exec_Assign_Name_used _ _ _ _ hsw];refine ao (y9 (ao ?_));show ϑ _ X.A (do let _ <- Bj (.ListComp elt [⟨tg,iter,ifs,0⟩] scope pos) scope X.env _ (newList []) aj (eval iter X.env) (aa (kq (.Name y py) X.env))) _ _ s;exact ao (eM (QM S hcalm hi hg hc he hs I h (aEw hNn hiy hxy hfy)) (λ_ s' hq=>az (az hq)) λ_ _ e=>e)
def U5(S:dH X.N X.env.scope scope own)(hcalm:X.calm=ag)(hi:PI X tg iter wi)
 (hg:∀X',d7 X X' scope own->PG X' tg g)(he:∀X',d7 X X' scope own->PE X' elt te)
 (hs:∀x,fg iter X.env x=pure x)(hNn:X.N.Nodup)(hiy:X.N[iy]?=aa y)(hxy:Loc X.env.scope y)(hfy:zFn X y)(hsw:en (.ListComp elt [⟨tg,iter,[],0⟩] scope pos) (aa (.Name y py)) pos2.line X.env=pure ag):PS X (.Assign [.Name y py] (.ListComp elt [⟨tg,iter,[],0⟩] scope pos) pos2) (JV (QL wi g (λ_ H Q=>Q ag H) te own.length) (gR iy)):=
 aS2 S hcalm hi hg (.inl ⟨rfl,rfl⟩) he hs hNn hiy hxy hfy hsw
end
end L2
namespace Mi
open PySem L2 PySem.SeqAt PySem.Spec PyProof.Rows
section
variable [KFrag]
variable {own:ah->aw}
section
variable {X:Cx} {a b c e:Expr} {pos pos':cm} {fb fe:FE} {re:aw} {f g:FS} {st:bp} {s1 s2:ae bp}
variable {scope:eL} {ownN:ae Str} {elt iter tg:Expr} {it:FI} {t:D->Res (ae D)} {gt:TG}
def aJq(S:dH X.N X.env.scope scope ownN)(hn:X.N.length=n)(hm:ownN.length=m)(hcalm:X.calm=ag)(hi:PI X tg iter (gI X.K it))(ht:TgC gt t n m)(hg:∀X',d7 X X' scope ownN->PG X' tg gt)(he:∀X',d7 X X' scope ownN->PE X' elt (gE fe re))
 (hs:∀x,fg iter X.env x=pure x)(ho:own iy=o)(hNn:X.N.Nodup)(hiy:X.N[iy]?=aa y)(hxy:Loc X.env.scope y)(hfy:zFn X y)(hsw:en (.ListComp elt [⟨tg,iter,[],0⟩] scope pos) (aa (.Name y py)) pos2.line X.env=pure ag) :
  PS X (.Assign [.Name y py] (.ListComp elt [⟨tg,iter,[],0⟩] scope pos) pos2) (tS own (cZ o iy (fO n it t gD fe re) ag)):=by
 intro Ψ s σ H D I h;subst hm;refine U5 S hcalm hi hg he hs hNn hiy hxy hfy hsw Ψ s σ H D I ?_;exact yF ht (λσ H Q h=>by obtain⟨ρ,b,E,h,q⟩:=h;cases h;exact q H (bK.refl H)) (I.len.trans hn) (QV ho h)
theorem GF[dn κ]{k:κ}(e:p.1=k)(h:k∉r.map (·.1)):putK (p::r) k v=(k,v)::r:=by
 unfold putK;rw[aq (by simp[e]),bh,aq e,e]
 congr 1
 have:∀q∈r,(λkv:κ×V=>if kv.1=k then (kv.1,v) else kv) q=id q:=λq hq=>by
  have:q.1≠k:=λz=>h (cS.mpr ⟨q,hq,z⟩)
  simp[this]
 rw[List.map_congr_left this,List.map_id]
def GJ[dn κ]{k:κ}(e:¬p.1=k):putK (p::r) k v=p::putK r k v:=by
 unfold putK;rw[js,cq e,ve];split
 .rw[bh,ax e]
 .rfl
def iB[dn κ]:∀{kvs:ae (κ×V)},(kvs.map (·.1)).Nodup->((putK kvs k v).map (·.1)).Nodup:=λ{kvs} h=>by
 by_cases hk:vP kvs k=ai
 .exact aJa v h hk
 .unfold putK;rw[aq (by rw[oK];exact Option.isSome_iff_ne_none.mpr hk),eI];have:(λx:κ×V=>x.1) ∘ (λkv:κ×V=>if kv.1=k then (kv.1,v) else kv)=λx=>x.1:=by
   funext q
   simp only[DL];split<;>rfl
  rw[this];exact h
def wC(rv:Rep P H v d):∀{kvs:ae (Key×V)}{ds:ae (D×D)},e_ P H kvs ds->(kvs.map (·.1)).Nodup->e_ P H (putK kvs k v) (putD ds (kD k) d)
 |_,_,.nil,_=>.cons rv .nil
 |_,_,.cons (k:=k') r t,hn=>by
  rw[bh] at hn;obtain⟨h1,h2⟩:=eg.mp hn;rw[putD,J_];by_cases h:k'=k
  .subst h;rw[aq 0x2,GF rfl h1];exact .cons rv t
  .rw[ax (by simpa using h),GJ h];exact .cons r (wC rv t h2)
def wF(rv:Rep P H v d):∀{kvs:ae (ae Key×V)}{ds:ae (D×D)},lR P H kvs ds->(kvs.map (·.1)).Nodup->lR P H (putK kvs k v) (putD ds (.tup (k.map kD)) d)
 |_,_,.nil,_=>.cons rv .nil
 |_,_,.cons (k:=k') r t,hn=>by
  rw[bh] at hn;obtain⟨h1,h2⟩:=eg.mp hn;rw[putD,aJf];by_cases h:k'=k
  .subst h;rw[aq 0x2,GF rfl h1];exact .cons rv t
  .rw[ax (by simpa using h),GJ h];exact .cons r (wF rv t h2)
def e_.length:∀{kvs:ae (Key×V)}{ds:ae (D×D)},e_ P H kvs ds->kvs.length=ds.length
 |_,_,.nil=>rfl
 |_,_,.cons _ t=>by rw[bz,bz,e_.length t]
def lR.length:∀{kvs:ae (ae Key×V)}{ds:ae (D×D)},lR P H kvs ds->kvs.length=ds.length
 |_,_,.nil=>rfl
 |_,_,.cons _ t=>by rw[bz,bz,lR.length t]
def yI{a:am}(ha:H a=aa ob)(hm:xT ob=ag):z6 (λ_=>cf) H (L2.upd H a o):=λc oc hc h=>by
 rw[aM]
 .exact hc
 .intro z;subst z;rcases h with h|h
  .exact h.elim
  .rw[ha] at hc;cases hc;rw[hm] at h;cases h
def gW(hd:d.pure=ag):∀{ds:ae (D×D)},δ (ds.map (·.2))=ag->δ ((putD ds k d).map (·.2))=ag
 |[],_=>by simp[putD,δ,hd]
 | (q,w)::r,h=>by
  rw[bh,δ,ba] at h;rw[putD];split
  .rw[bh,δ,ba];exact⟨hd,h.2⟩
  .rw[bh,δ,ba];exact⟨h.1,gW hd h.2⟩
def aO1{ad:am}(I:Inv X Ψ σ H s)(rd:Rep All H (.ref ad) (.dct ds))(hin:δ (ds.map (·.2))=ag)(rk:Rep All H y k)(hk:lQ ds k=ag)(hl:ds.length<bd)(rv:Rep All H v d)(hd:d.pure=ag) :
  ∃H1 o,Inv X Ψ σ H1 s/\aHa H1 ad y v (L2.upd H ad o)/\xT o=ag/\Rep All (L2.upd H ad o) (.ref ad) (.dct (putD ds k d)):=by
 unfold lQ at hk;rw[ba] at hk;obtain⟨h1,h2⟩:=hk;have rv':Rep (λ_=>cf) H v d:=rv.bQ hd;cases rd with
 |@dK _ kvs ds e _ r n=>
  have hlen:=r.length;rcases jB h1 rk with ⟨q,rfl,rfl⟩|⟨b,ks,rfl,eb,rfl⟩
  .refine⟨H,.dK (putK kvs q v),I,.k e 0x1,rfl,.dK aF trivial ?_ (iB n)⟩;exact(wC rv' (r.bQ hin) n).keep (yI e rfl) λ_ z=>z.elim
  .cases r with
   |nil=>
    refine⟨L2.upd H ad (.dT []),.dT (putK [] ks v),mR I e,?_,rfl,.dT aF trivial ?_ (iB gq)⟩
    .have:=aHa.t (H:=L2.upd H ad (.dT [])) (a:=ad) (b:=b) (kvs:=[]) (k:=ks) (v:=v) aF (by rw[aM (mZ eb e 0x7)];exact eb) hl;rwa [O9] at this
    .exact(wF (k:=ks) rv' .nil gq).keep (yI e rfl) λ_ z=>z.elim
   |cons r t=>
    rw[hU,mQ] at h2;simp[isTup] at h2
 |@dT _ kvs ds e _ r n=>
  have hlen:=r.length;rcases jB h1 rk with ⟨q,rfl,rfl⟩|⟨b,ks,rfl,eb,rfl⟩
  .cases r with
   |nil=>
    refine⟨L2.upd H ad (.dK []),.dK (putK [] q v),jU I e,?_,rfl,.dK aF trivial ?_ (iB gq)⟩
    .have:=aHa.k (H:=L2.upd H ad (.dK [])) (a:=ad) (kvs:=[]) (k:=q) (v:=v) aF hl;rwa [O9] at this
    .exact(wC (k:=q) rv' .nil gq).keep (yI e rfl) λ_ z=>z.elim
   |cons r t=>
    rw[hU,mQ] at h2;simp[isTup] at h2
  .refine⟨H,.dT (putK kvs ks v),I,.t e eb 0x1,rfl,.dT aF trivial ?_ (iB n)⟩;exact(wF rv' (r.bQ hin) n).keep (yI e rfl) λ_ z=>z.elim
def aAr(hu:X.A.units+20<c8)(ho:own i=ag)(hN:X.N[i]?=aa x)(hvi:Vis X.env.scope x)(hk:PE X k (gE fk rk))(hv:PE X value (gE fv rv))
 (hs:en value (aa (.Subscript (.Name x p1) k pos')) pos.line X.env=pure aj:=by rfl)(hd:nDb x:=by decide)(hcd:nCd x:=by decide) :
  PS X (.Assign [.Subscript (.Name x p1) k pos'] value pos) (tS own (aEo i fk fv)):=by
 rintro Ψ s σ H D' I ⟨ρ,fl,E,h,q⟩;obtain⟨d,h0,h⟩:=bA h;obtain⟨kd,h1,h2⟩:=bA h;split at h2
 .rename_i kvs hx;split at h2
  .rename_i hg;cases h2;simp only[ba] at hg;obtain⟨⟨hg1,hg2⟩,hg3⟩:=hg;obtain⟨a,o,hσ,r,hin,ha,hm⟩:=E.ownAt ho (by rw[hx];intro z;cases z);rw[hx] at r hin;refine B8 (thn (hv Ψ s σ H (λv H1=>bK H H1/\Rep All H1 v d) I ⟨ρ,d,E.er,h0,λv H1 s1 r1 _=>⟨s1,r1⟩⟩) λrr s1 ⟨v,H1,I1,rv1,sm1,rp1⟩=>
    thn (a_ hN hvi hd hcd Ψ s1 σ H1 (λw H2=>w=.ref a/\H2=H1) I1 ⟨_,hσ,rfl,rfl⟩) λu s2 ⟨xx,H2,I2,rx,ex,eH⟩=>
    thn (hk Ψ s2 σ H2 (λw H3=>bK H2 H3/\Rep All H3 w kd) I2 ⟨ρ,kd,by rw[eH];exact E.er.same sm1,h1,λv H1 s1 r1 _=>⟨s1,r1⟩⟩) λiv s3 ⟨y,H3,I3,ry,sm3,rp3⟩=>?_) hs
   subst ex eH;obtain rfl:u=dv a:=rx;have sm:=sm1.trans sm3;obtain⟨H4,o4,I4,g,hmo,rp⟩:=aO1 I3 (r.same sm) hin rp3 hg2 (J9 hg1) (rp1.same sm3) hg3;obtain⟨E2,k2⟩:=(E.same sm).mut ho hσ hmo rp (gW hg3 hin);exact J6 0x1 I4 g ry rv1 λs4 I5=>⟨σ,_,I5,q _ _ ((KU.same sm).trans k2) E2⟩
  .exact bx h2
 .exact bx h2
def TgS(own:ah->aw)(g:TG)(t:D->ae D->Res (ae D)):Prop:=∀(v:V)(d:D)(ρ ρ':ae D)(σ:L2.St)(H:Hp)(Q:L2.St->Hp->Prop),ES own H σ ρ->Rep (λa=>¬Own own σ a) H v d->t d ρ=.ok ρ'->
 (∀σ',ES own H σ' ρ'->(∀a,Own own σ' a↔Own own σ a)->Q σ' H)->g v σ H Q
def uM(ho:own i=aj):TgS own (gR i) (tg1 i):=λv d ρ ρ' σ H Q E r h q=>by
 cases h;exact q _ (E.set ho r) λa=>lZ ho a
def ES.sets:∀{is:ae ah}{vs:ae V}{ds:ae D}{σ:L2.St}{ρ:ae D},(∀i∈is,own i=aj)->ES own H σ ρ->bJ (λa=>¬Own own σ a) H vs ds->ES own H (jW is vs σ) (xR is ds ρ)/\∀a,Own own (jW is vs σ) a↔Own own σ a
 |[],_,_,_,_,_,E,_=>by simp only[jW,xR];exact⟨E,λ_=>trivial⟩
 |i::is,_,_,σ,ρ,h,E,.nil=>by simp only[jW,xR];exact⟨E,λ_=>trivial⟩
 |i::is,_,_,σ,ρ,h,E,.cons (v:=v) r t=>by
  have ho:=h i (bE ..);have hO:(λa=>¬Own own (σ.set i (aa v)) a)=λa=>¬Own own σ a:=funext λa=>by rw[lZ ho]
  obtain⟨h1,h2⟩:=ES.sets (λj hj=>h j (bX _ hj)) (E.set ho r) (by rw[hO];exact t);exact⟨h1,λa=>(h2 a).trans (lZ ho a)⟩
def nH(K:aT)(ho:∀i∈is,own i=aj):TgS own (aMe K is.length (gIx is)) (tgN is):=λv d ρ ρ' σ H Q E r h q=>by
 cases d<;>simp only[tgN] at h<;>(try (exact bx h;done))
 split at h
 .rename_i hl;cases h;have hl':=dy hl;obtain⟨a,xs,rfl,e,rr⟩:=r.eO;obtain⟨h1,h2⟩:=E.sets ho rr;exact⟨a,xs,rfl,.of e,by rw[rr.length];exact hl',yG _ _ _ (by rw[rr.length];exact hl') (q _ h1 h2)⟩
 .exact bx h
def ItQ.ku{K:aT}(h:ItQ K (λa=>¬Own own σ a) J H items)(k:KU own σ H σ' H')(E:ES own H σ ρ):ItQ K (λa=>¬Own own σ' a) J H' items:=h.keep' (k.keep E) λa o e n=>(k a o e n).2
def U6{K:aT}{g:TG}{t:D->ae D->Res (ae D)}{body:FS}{D':Ends}{J:It}{items:ae D}{σ:L2.St}{H1:Hp}{ρ:ae D}{fl:Fl}(tg:TgS own g t)(E:ES own H1 σ ρ)(hJ:ItQ K (λa=>¬Own own σ a) J H1 items)(hf:nG t body items ρ=.ok fl)(q:kS own D' σ H1 fl) :
  ∃W:ah->ah->L2.St->Hp->Prop,(∃m,W 0 m σ H1)/\∀i m σ H,W i m σ H->
   (J.stop i H/\D'.nx σ H)\/(J.go i H/\∃N:L2.St->Hp->Prop,(∀σ' H',N σ' H'->∃m',m'<m/\W (i+1) m' σ' H')/\∀x H',J.yld i H x H'->g x σ H' λσ2 H2=>tS own body {D' with nx:=N,ct:=N,bk:=D'.nx} σ2 H2):=by
 refine⟨λi m σ' H'=>m=items.length-i/\i<=items.length/\ItQ K (λa=>¬Own own σ' a) J H' items/\∃ρ',ES own H' σ' ρ'/\nG t body (items.drop i) ρ'=.ok fl/\kS own D' σ' H' fl,⟨items.length,rfl,eP _,hJ,ρ,E,hf,q⟩,?_⟩;rintro i m σ' H' ⟨rfl,hi,hJ',ρ',E',hf',q'⟩;rcases lb i items.length with hlt|hge
 .refine .inr ?_;have e:items[i]?=aa items[i]:=eh hlt;obtain⟨g1,g2⟩:=hJ'.go e;rw[iz hlt] at hf';obtain⟨ρ1,h1,hf2⟩:=bA hf';obtain⟨r,h2,hf3⟩:=bA hf2;refine⟨g1,λσ2 H2=>ItQ K (λa=>¬Own own σ2 a) J H2 items/\∃ρ',ES own H2 σ2 ρ'/\nG t body (items.drop (i+1)) ρ'=.ok fl/\kS own D' σ2 H2 fl,λσ2 H2 ⟨n1,n2⟩=>⟨items.length-(i+1),by lia,rfl,hlt,n1,n2⟩,λx H2 hy=>?_⟩;obtain⟨sH,rx⟩:=g2 x H2 hy;have ks:KU own σ' H' σ' H2:=λa o e n=>⟨sH a o e,n⟩
  have hJ':=hJ'.ku ks E';have q':=q'.step ks;have E':=E'.same sH;refine tg x items[i] ρ' ρ1 σ' H2 _ E' rx h1 λσ2 E2 hO=>?_
  have k0:KU own σ' H2 σ2 H2:=λa o e n=>⟨e,by rw[hO];exact n⟩
  have hJ2:=hJ'.ku k0 E';have q2:=q'.step k0;refine⟨ρ1,r,E2,h2,?_⟩;cases r with
  |nx ρ2=>exact λσ3 H3 k3 E3=>⟨hJ2.ku k3 E2,ρ2,E3,hf3,q2.step k3⟩
  |ct ρ2=>exact λσ3 H3 k3 E3=>⟨hJ2.ku k3 E2,ρ2,E3,hf3,q2.step k3⟩
  |bk ρ2=>cases hf3;exact λσ3 H3 k3 E3=>q2 σ3 H3 k3 E3
  |rt d=>cases hf3;exact q2
 .refine .inl ⟨hJ'.stop hge,?_⟩;rw[hV hge] at hf';cases hf';exact q' σ' H' (λa o e n=>⟨e,n⟩) E'
def nA{tg iter:Expr}{body:ae bp}{g:TG}{t:D->ae D->Res (ae D)}{it:FI}{fb:FS}(hp:lI (ay X.prog X.w) X.A X.env X.xe)(hc:X.calm=ag)(hi:PI X tg iter (gI X.K it))(ht:TgS own g t)(hg:PG X tg g)(hb:PSs X body (tS own fb))
 (hs:∀x,fg iter X.env x=pure x:=by intro _;rfl):PS X (.For tg iter body [] pos) (tS own (O3 it t fb)):=PS.imp (S9 hp hc hi hg hb hs) λD' σ H z0=>by
 obtain⟨ρ,fl,E,h,q⟩:=z0;obtain⟨⟨items,k⟩,h1,h2⟩:=bA h;split at h2
 .rename_i hk;exact⟨ρ,items,k,E.er,h1,λJ H1 s1 _ hJ=>U6 ht (E.same s1) ((hJ hk).keep (λ_ _ e _=>e) λa ha ho=>by
   obtain⟨o,e1,_⟩:=E.live ho;rw[show H a=ai from ha] at e1;cases e1) h2 (q.step (.same s1))⟩
 .exact bx h2
def QW{g:TG}{t:D->ae D->Res (ae D)}{i:ah}{x:Str}{px:cm}{fb:FS}(ho:own i=aj)(hp:lI (ay X.prog X.w) X.A X.env X.xe)(hc:X.calm=ag)(hN:X.N[i]?=aa x)(hv:Vis X.env.scope x)(ht:TgS own g t)(hg:PG X tg g)(hb:PSs X body (tS own fb))
 (hs:∀z,fg (.Name x px) X.env z=pure z:=by intro _;rfl)(hd:nDb x:=by decide)(hcd:nCd x:=by decide):PS X (.For tg (.Name x px) body [] pos) (tS own (X3 i t fb)):=PS.imp (S9 hp hc (aNy hN hv hd hcd) hg hb hs) λD' σ H z0=>by
 obtain⟨ρ,fl,E,h,q⟩:=z0;obtain⟨d,h1,h⟩:=bA h;obtain⟨items,h2,h3⟩:=bA h;obtain⟨v,hv,r,e⟩:=E.er.var h1;have hne:ρ.getD i .uD≠.uD:=λz=>by
  rw[z] at e;subst e;exact Rep.uD r
 obtain⟨w,hw,hr⟩:=E.at_ i hne;rw[hv] at hw;cases hw;have r2:=hr ho;rw[e] at r2;exact⟨v,d,items,hv,r,h2,λJ hJ=>U6 ht E (hJ _ r2) h3 q⟩
def GK{N ps:ae Str}(hst:start N vs=vs.map aa++bi (N.length-ps.length) ai)(hl:ds.length=ps.length)(r:bJ All H vs ds)(hown:∀i,i<ps.length->own i=aj)(noown:∀a,¬Own own (start N vs) a):ES own H (start N vs) (ds++bi (N.length-ps.length) .uD):=by
 refine⟨by rw[hst];simp[r.length],λi hi=>?_,λi v hi hv=>?_⟩
 .have hlt:i<ds.length:=ox λhge=>hi (by
   rw[cx,dS hge,hI];split<;>rfl)
  have e:(ds++bi (N.length-ps.length) D.uD).getD i .uD=ds[i]:=by
   rw[cx,d4 hlt,eh hlt];rfl
  obtain⟨v,g1,g2⟩:=r.get (i:=i) (d:=ds[i]) (by simp[hlt]);refine⟨v,by rw[hst,d4 (by simp[r.length,hlt])];simp[g1],λ_=>?_⟩;rw[e];exact g2.mono λa _=>noown a
 .exfalso;rw[hst] at hv;by_cases h:i<ps.length
  .rw[hown i h] at hi;cases hi
  .rw[dS (by simp[r.length,hl];lia)] at hv;rw[hI] at hv;split at hv<;>cases hv
def aAs{N ps:ae Str}{Q:VK}{E:XK}(hx:own rtX=aj)(hown:∀i,i<ps.length->own i=aj)(h0:spD (fnS ps.length N.length f) ps.length vs H Q E):tS own f {nx:=λ_ H'=>Q .non H',rt:=Q} (start N vs) H:=by
 obtain⟨ds,d,hl,r,h,q⟩:=h0
 .obtain⟨fl,h1,h2⟩:=bA h;have hst:start N vs=vs.map aa++bi (N.length-ps.length) ai:=by
   show vs.map aa++bi (N.length-vs.length) ai=_;rw[r.length,hl]
  have noown:∀a,¬Own own (start N vs) a:=λa z0=>by
   obtain⟨i,hi,e⟩:=z0;rw[hst] at e;by_cases h:i<ps.length
   .rw[hown i h] at hi;cases hi
   .rw[dS (by simp[r.length,hl];lia)] at e;rw[hI] at e;split at e<;>cases e
  have E0:ES own H (start N vs) (ds++bi (N.length-ps.length) .uD):=GK hst hl r hown noown;refine⟨_,fl,E0,h1,?_⟩;have sm:∀{σ':L2.St}{H':Hp},KU own (start N vs) H σ' H'->bK H H':=λk a o e=>(k a o e (noown a)).1
  cases fl with
  |nx ρ'=>cases h2;exact λσ' H' k E'=>q .non H' (sm k) .non λ_=>.non
  |rt d'=>
   cases h2;refine kRt.mk hx λv H' hk rp=>q v H' (λa o e=>hk a o e (noown a)) rp.all λ_=>rp.mono λa ha=>?_
   rcases ha with ha|ha
   .exact aS ha (noown a)
   .exact ha
  |bk ρ'=>exact bx h2
  |ct ρ'=>exact bx h2
def aO2{w:bn}{K:aT}{mg:Str->au al}{base:aE}{x qual:Str}{st:bp}{fad:am}{fd:dm}{N ps:ae Str}{k:ah}{f:FS}(F:Fun K x qual st fad fd)(S:bG N ps (aH st))(own:ah->aw)(hown:∀i,i<ps.length->own i=aj)(hNl:ps.length<=N.length)
 (hbody:∀(cdv:al) (A:bP) (outer:ae cv) (s:ar) (H:Hp) (E:XK),j0 k (A.deeper (du qual (aH st) s.heap.objs.size fad cdv))->PSs (xJ CX0 P w K mg base N qual (aH st) fad cdv A outer s H E).nox (cH st) (tS own f))(hx:own rtX=aj:=by rfl):j4 P w K mg base CX0 (k+1) fad fd ps (spD (fnS ps.length N.length f) ps.length):=
 F.ok S (λvs H Q E h=>aAo h) λcdv A outer s H vs Q E hr h=>⟨_,hbody cdv A outer s H E hr,aAs hx hown h⟩
end
end
variable [KFrag]
structure aS3 where
 s₀:ar
 H₀:Hp
 env:cv
 outer:ae cv
 stack:ae cv
 ex:ae am
 fn:Str->aw
 pn:ae (am×bc)
abbrev mkC(X:Cx)(scope:eL)(ownN:ae Str)(y:aS3):Cx:=
 {X with N:=X.N.map (iQ ownN)++ownN,s₀:=y.s₀,H₀:=y.H₀,env:={y.env with scope:=iu scope X.env},outer:=y.outer,stack:=y.stack,ex:=y.ex,fn:=y.fn,pn:=y.pn,xe:=λ_ _=>cf}
def oY(cc:d7 X X' scope ownN):∃y,X'=mkC X scope ownN y:=by
 refine⟨⟨X'.s₀,X'.H₀,X'.env,X'.outer,X'.stack,X'.ex,X'.fn,X'.pn⟩,?_⟩;obtain⟨h1,h2,h3,h4,h5,h6,h7,h8,h9,h10⟩:=cc;cases X' with
 |mk a b c d e f g h i j k l m n o p q=>
  cases j;dsimp only at *;subst h1 h2 h3 h4 h5 h6 h7 h8 h9 h10;rfl
section
def iR(S:dH X.N X.env.scope scope ownN)(hn:X.N.length=n)(hm:ownN.length=m)(hcalm:X.calm=ag)(hi:PI X tg iter (gI X.K it))(ht:TgC g t n m)(hg:∀y,PG (mkC X scope ownN y) tg g)(he:∀y,PE (mkC X scope ownN y) elt (gE fe re))
 (hs:∀x,fg iter X.env x=pure x):PE X (.ListComp elt [⟨tg,iter,[],0⟩] scope pos) (gE (fO n it t gD fe re) ag):=
 aJm S hn hm hcalm hi ht (λX' cc=>by obtain⟨y,rfl⟩:=oY cc;exact hg y) (λX' cc=>by obtain⟨y,rfl⟩:=oY cc;exact he y) hs
def X7(S:dH X.N X.env.scope scope ownN)(hn:X.N.length=n)(hm:ownN.length=m)(hcalm:X.calm=ag)(hi:PI X tg iter (gI X.K it))(ht:TgC g t n m)(hg:∀y,PG (mkC X scope ownN y) tg g)(hc:∀y,PT (mkC X scope ownN y) c (gT gc))(he:∀y,PE (mkC X scope ownN y) elt (gE fe re))
 (hs:∀x,fg iter X.env x=pure x):PE X (.ListComp elt [⟨tg,iter,[c],0⟩] scope pos) (gE (fO n it t gc fe re) ag):=
 aAq S hn hm hcalm hi ht (λX' cc=>by obtain⟨y,rfl⟩:=oY cc;exact hg y) (λX' cc=>by obtain⟨y,rfl⟩:=oY cc;exact hc y) (λX' cc=>by obtain⟨y,rfl⟩:=oY cc;exact he y) hs
def GP(S:dH X.N X.env.scope scope ownN)(hn:X.N.length=n)(hm:ownN.length=m)(hcalm:X.calm=ag)(hi:PI X tg iter (gI X.K it))(ht:TgC g t n m)(hg:∀y,PG (mkC X scope ownN y) tg g)(he:∀y,PE (mkC X scope ownN y) elt (gE fe re))
 (hs:∀x,fg iter X.env x=pure x)(ho:own iy=o)(hNn:X.N.Nodup)(hiy:X.N[iy]?=aa y)(hxy:Loc X.env.scope y)(hfy:zFn X y)(hsw:en (.ListComp elt [⟨tg,iter,[],0⟩] scope pos) (aa (.Name y py)) pos2.line X.env=pure ag) :
  PS X (.Assign [.Name y py] (.ListComp elt [⟨tg,iter,[],0⟩] scope pos) pos2) (tS own (cZ o iy (fO n it t gD fe re) ag)):=
 aJq S hn hm hcalm hi ht (λX' cc=>by obtain⟨y,rfl⟩:=oY cc;exact hg y) (λX' cc=>by obtain⟨y,rfl⟩:=oY cc;exact he y) hs ho hNn hiy hxy hfy hsw
end
noncomputable def vU:FS:=λ_=>.bad
def lH{st:bp}:PS X st (tS own vU):=λΨ s σ H D I h=>by
 obtain⟨_,_,_,h,_⟩:=h;exact bx h
def cV(P:bu)(w:bn)(K:aT)(mg:Str->au al)(base:aE)(k:ah)(x:Str)(n:ah)(f:ae D->Res D):Prop:=
 ∃(fad:am)(fd:dm)(ps:ae Str),j4 P w K mg base CX0 k fad fd ps (spD f n)/\mg x=aa (.ref fad)/\gz K (.ref fad)=ag/\Binds K fd ps []
section
def aY(C:cV X.prog X.w X.K X.mg X.base k x n f)(hr:j0 k' X.A)(hkk:k<=k')(hg:Gl X x)(ha:PA X (e::es) (gA fs rr))(hdb:nDb x:=by decide)(he:zSE X e es:=by rfl)(hpl:zSP X pos es:=by rfl) :
  PE X (.Call (.Name x p) (e::es) [] pos) (gE (aQ (cU n f) fs) ag):=by
 obtain⟨fad,fd,ps,F,hm,hk,hb⟩:=C;exact aJk F (hr.mono hkk) hg hm hk hb ha hdb he hpl
def gH{K:aT}{st:bp}{fad:am}{fd:dm}{N ps:ae Str}{fs:FS}(F:Fun K x x st fad fd)(hm:mg x=aa (.ref fad))(hb:Binds K fd ps [])(S:bG N ps (aH st))(own:ah->aw)(hown:∀i,i<ps.length->own i=aj)(hNl:ps.length<=N.length)
 (hbody:∀(cdv:al) (A:bP) (outer:ae cv) (s:ar) (H:Hp) (E:XK),j0 k (A.deeper (du x (aH st) s.heap.objs.size fad cdv))->PSs (xJ CX0 P w K mg base N x (aH st) fad cdv A outer s H E).nox (cH st) (tS own fs))(hx:own rtX=aj:=by rfl):cV P w K mg base (k+1) x ps.length (fnS ps.length N.length fs):=
 ⟨fad,fd,ps,aO2 F S own hown hNl hbody hx,hm,F.kp,hb⟩
end
def t_(hr:j0 k A):A.units+20<c8:=ot (Nat.add_le_add_left (by decide:20<=64) _) hr.units
structure Bt(mg:Str->au al):Prop where
 len:mg "len"=ai
 min:mg "min"=ai
 max:mg "max"=ai
 list:mg "list"=ai
 tuple:mg "tuple"=ai
 sorted:mg "sorted"=ai
 range:mg "range"=ai
 isi:mg "isinstance"=ai
 int:mg "int"=ai
 bool:mg "bool"=ai
 str:mg "str"=ai
 dict:mg "dict"=ai
 all:mg "all"=ai
 enum:mg "enumerate"=ai
 sum:mg "sum"=ai
 zip:mg "zip"=ai
 abs:mg "abs"=ai
 reversed:mg "reversed"=ai
def jX:eJ "len"=aa (.builtin "len"):=0x6
def aO3:eJ "max"=aa (.builtin "max"):=0x6
def aAt:eJ "list"=aa (.type "list"):=0x6
def jL:eJ "tuple"=aa (.type "tuple"):=0x6
def aJr:eJ "dict"=aa (.type "dict"):=0x6
def ints_rep:∀ns:ae ak,bJ P H (ns.map V.int) (ns.map ι)
 |[]=>.nil
 |n::ns=>.cons (.int n) (ints_rep ns)
end Mi
namespace Mi
open PySem L2
def aAu{ns:ae ak}{E:XK}(main:∀ns:ae ak,ns.length<=63->f [.scr (ns.map ι)]=.ok (.bl ag))(hl:ns.length<=63)(hO:Only H)(hS:SqL K H a (ns.map V.int)):@spD ⟨K⟩ f 1 [.ref a] H (λv _=>v=.bl ag) E:=by
 letI:KFrag:=⟨K⟩
 refine⟨[.scr (ns.map ι)],.bl ag,rfl,.cons (.frz ?_ (ints_rep ns)) .nil,main ns hl,λv H' s r n=>by cases r.inv;rfl⟩;rcases hS with (h|⟨o,h⟩)|h
 .rcases hO a with z|⟨o,xs,z⟩
  .rw[h] at z;cases z
  .rw[h] at z;cases z
 .exact .inl ⟨o,h⟩
 .exact .inr h
end Mi
namespace Mi
universe u
section
variable {α:Type u} {us:ae α}
def l1(h:us.length=1):∃a,us=[a]:=List.length_eq_one_iff.mp h
def l2(h:us.length=2):∃a b,us=[a,b]:=by
 cases us with
 |nil=>cases h
 |cons a t=>obtain⟨b,rfl⟩:=l1 (vz h);exact⟨a,b,rfl⟩
def l3(h:us.length=3):∃a b c,us=[a,b,c]:=by
 cases us with
 |nil=>cases h
 |cons a t=>obtain⟨b,c,rfl⟩:=l2 (vz h);exact⟨a,b,c,rfl⟩
def l4(h:us.length=4):∃a b c d,us=[a,b,c,d]:=by
 cases us with
 |nil=>cases h
 |cons a t=>obtain⟨b,c,d,rfl⟩:=l3 (vz h);exact⟨a,b,c,d,rfl⟩
def l5(h:us.length=5):∃a b c d e,us=[a,b,c,d,e]:=by
 cases us with
 |nil=>cases h
 |cons a t=>obtain⟨b,c,d,e,rfl⟩:=l4 (vz h);exact⟨a,b,c,d,e,rfl⟩
end
open PySem L2 PySem.SeqAt PySem.Spec PyProof.Rows
def GQ:D->D->Res D
 |.str x,.int n=>if ϒ (0<=n)&&ϒ (n<=100000)&&ϒ (x.length*n.toNat<=lim) then .ok (.str (lg x n)) else .bad
 |a,b=>cO .mul a b
def inX:D->D->Res D
 |.str c,.str x=>.ok (.bl (!(AN x c 0 x.length 1).isEmpty))
 |a,b=>gG .isin a b
def aEx:D->au ak->au ak->Res D
 |.str x,lo,hi=>if ϒ (x.length<=lim) then .ok (.str (vE x lo hi)) else .bad
 |d,lo,hi=>aR5 d lo hi
def CK(a:FE)(lo hi:ae D->Res (au ak)):FE:=λρ=>do let x <- a ρ;let l <- lo ρ;let h <- hi ρ;aEx x l h
def CN:D->Res (ae D)
 |.str x=>if ϒ (x.length<=lim) then .ok (m_ x) else .bad
 |d=>xQ d
def bW(a:FE)(fr:aw):FI:=λρ=>do let x <- a ρ;let xs <- CN x;pure (xs,fr||x.pure)
noncomputable def aEy:D->Res (ae D)
 |.lst xs=>.ok xs
 |_=>.bad
def aEz(a:FE)(fr:aw):FI:=λρ=>do let x <- a ρ;let xs <- aEy x;pure (QT xs,fr||x.pure)
noncomputable def l_:ae D->au (ae Str)
 |[]=>aa []
 |.str x::r=>(l_ r).map (x::·)
 |_::_=>ai
def joinM:D->ae D->Res D
 |.str sep,[.lst ds]=>match l_ ds with
  |some ts=>if fj sep ts then .ok (.str (cj sep ts)) else .bad
  |none=>.bad
 |_,_=>.bad
noncomputable def vL:ae D->au (ae aw)
 |[]=>aa []
 |.bl x::r=>(vL r).map (x::·)
 |_::_=>ai
def aR7:ae D->Res D
 |[.lst ds]=>match vL ds with
  |some bs=>.ok (.bl (bs.all id))
  |none=>.bad
 |_=>.bad
variable [KFrag]
section
variable {X:Cx}
def uN:OpR X (ef .Mult) (r2 GQ ag):=by
 rintro Ψ s σ H x y v u Q I rx ry ⟨a,b,d,p,q,e,k⟩;by_cases hs:∃z n,a=.str z/\b=.int n
 .obtain⟨z,n,rfl,rfl⟩:=hs;simp only[GQ] at e;split at e
  .rename_i hl;cases e;simp only[ba,c_] at hl;obtain⟨⟨h0,h1⟩,h2⟩:=hl;cases p.inv;cases q.inv;obtain⟨t,rfl⟩:=rx;obtain⟨t',rfl⟩:=ry;have hz:z.length*n.toNat<=bd:=dg h2 (by rw[cy];decide);refine SB.mul ⟨?_,λh3 _=>?_,λ_ _=>?_⟩ λt2 k2=>⟨.str _,H,I.tok k2,⟨t2,rfl⟩,k.str⟩
   .rw[cq 0x1,cq 0x1];rfl
   .have hn:0<n:=by lia
    have h4:(z.length:ak)*n<=2 ^ 63-1:=by
     have h5:((z.length*n.toNat:ah):ak)<=1000000:=by
      have:lim=1000000:=by unfold lim;exact Eq.refl _
      lia
     rw[Int.natCast_mul,Int.toNat_of_nonneg h0] at h5;lia
    have h6:=(Int.le_ediv_iff_mul_le hn).mpr h4;lia
   .unfold DM;exact cq 0x1
  .exact bx e
 .have he:GQ a b=cO .mul a b:=by
   unfold GQ;split
   .exact aS ⟨_,_,rfl,rfl⟩ hs
   .rfl
  rw[he] at e;exact aNv Ψ s σ H x y v u Q I rx ry ⟨a,b,d,p,q,e,k⟩
def CP(hK:KFrag.K=X.K)(hu:X.A.units+20<c8):OpR X (c6 .In) (r2 inX ag):=by
 rintro Ψ s σ H x y v u Q I rx ry ⟨a,b,d,p,q,e,k⟩;by_cases hs:∃z n,a=.str z/\b=.str n
 .obtain⟨z,n,rfl,rfl⟩:=hs;cases e;cases p.inv;cases q.inv;exact Z_ Ψ s σ H _ _ v u Q I rx ry ⟨_,_,rfl,rfl,k.bl⟩
 .have he:inX a b=gG .isin a b:=by
   unfold inX;split
   .exact aS ⟨_,_,rfl,rfl⟩ hs
   .rfl
  rw[he] at e;exact aNx hK hu Ψ s σ H x y v u Q I rx ry ⟨a,b,d,p,q,e,k⟩
def part_of(h:i5 v o):∃l:au (ak×cz),partValue l=v/\l.map (·.1)=o:=by
 cases h with
 |none=>exact⟨ai,rfl,rfl⟩
 |int i t=>exact⟨aa (i,t),rfl,rfl⟩
def aO4(hK:KFrag.K=X.K):SlR X (λx lo hi H Q=>∃a d,Rep All H x a/\aEx a lo hi=.ok d/\kR H d ag Q):=by
 rintro Ψ s σ H x v vl vu lo hi sl Q I rx hs pl pu ⟨a,d,p,e,k⟩;by_cases hz:∃z,a=.str z
 .obtain⟨z,rfl⟩:=hz;simp only[aEx] at e;split at e
  .rename_i hl;cases e;cases p.inv;obtain⟨t,rfl⟩:=rx;obtain⟨l,e1,e2⟩:=part_of pl;obtain⟨m,e3,e4⟩:=part_of pu;subst e1 e2 e3 e4;refine⟨"str",_,F.slot_str_getitem.lookup,nK _ _ _,?_⟩;obtain⟨o,ho,hc,hd⟩:=hs;refine wpAny_getItem_str_slice (st:=ai) ⟨o,ho,hc,hd⟩ rfl ?_;have hle:(vE z (l.map (·.1)) (m.map (·.1))).length<=bd:=dg (Txt.slice_le ..) (j9 hl);have q:∀(t':cz)(k2:ah),EP X Ψ σ Q (.str (vE z (l.map (·.1)) (m.map (·.1))) t') {s with toks:=k2}:=λt' k2=>⟨.str _,H,I.tok k2,⟨t',rfl⟩,k.str⟩
   show Made.post (if ((1:ak)==1&&(B9 (l.map (·.1)) (m.map (·.1)) 1 z.length).length==z.length)=ag then .val (.str z t) else .str ⟨((B9 (l.map (·.1)) (m.map (·.1)) 1 z.length).filterMap (z.cps[·]?)).toArray⟩) _ s;unfold vE at hle q;split
   .rename_i hh;have:=q t s.toks;rw[aq hh] at this;exact this
   .rename_i hh;rw[ax hh] at hle;have:=q s.toks (s.toks+1);rw[ax hh] at this;exact⟨hle,this⟩
  .exact bx e
 .have he:aEx a lo hi=aR5 a lo hi:=by
   unfold aEx;split
   .exact aS ⟨_,rfl⟩ hz
   .rfl
  rw[he] at e;exact aS0 hK Ψ s σ H x v vl vu lo hi sl Q I rx hs pl pu ⟨a,d,p,e,k⟩
theorem oZ{lo hi:au Expr}{p2:cm}{fl fh:ae D->Res (au ak)}(hK:KFrag.K=X.K)(he:PE X e (gE fe re))(hl:PO X lo (gO fl))(hh:PO X hi (gO fh)):PE X (.Subscript e (.Slice lo hi ai p2) pos) (gE (CK fe fl fh) ag):=
 PE.imp (aEd (aO4 hK) he hl hh) λσ H Q z0=>by
  obtain⟨ρ,d,E,h,q⟩:=z0;obtain⟨x,h1,h⟩:=bA h;obtain⟨l,h2,h⟩:=bA h;obtain⟨u,h3,h⟩:=bA h;exact⟨ρ,x,E,h1,λv H1 s1 r1 _=>⟨ρ,l,E.same s1,h2,λH2 s2=>⟨ρ,u,E.same (s1.trans s2),h3,λH3 s3=>⟨x,d,r1.same (s2.trans s3),h,q.imp ((s1.trans s2).trans s3) id⟩⟩⟩⟩
def wG:∀{xs:ae V}{ds:ae D}{its:ae al}{ts:ae Str},bJ P H xs ds->Vals xs its->l_ ds=aa ts->∃l:ae (Str×cz),its=za l/\l.map (·.1)=ts
 |[],[],[],_,_,_,h=>by cases h;exact⟨[],rfl,rfl⟩
 |_,_,_,_,.cons (d:=d) r t,.cons rv tv,h=>by
  cases d with
  |str z=>
   obtain⟨ts,h1,h2⟩:=gn.mp h;cases r.inv;obtain⟨tk,rfl⟩:=rv;obtain⟨l,e1,e2⟩:=wG t tv h1;refine⟨(z,tk)::l,?_,?_⟩
   .rw[e1];rfl
   .rw[<-h2,<-e2];rfl
  |_=>simp only[l_] at h;cases h
def QX:MtR X "str.join" (rm joinM ag):=by
 rintro Ψ s σ H x xs v us Q I rv vr ⟨a,ds,d,ra,rs,h,k⟩;unfold joinM at h;split at h
 .split at h
  .rename_i ts hts;split at h
   .rename_i hok;cases h;obtain⟨vv,uu,rfl,rfl,r,rk⟩:=fW rs vr;obtain⟨l,ys,rfl,hl,rr⟩:=r.gF;cases rk;cases ra.inv;obtain⟨t,rfl⟩:=rv;obtain⟨its,vr',pl⟩:=d8 I hl;obtain⟨l2,e1,e2⟩:=wG rr vr' hts;subst e1;exact SC.join pl e2 hok λt' k2=>⟨.str _,H,I.tok k2,⟨t',rfl⟩,k.str⟩
   .exact bx h
  .exact bx h
 .exact bx h
def GR(h:joinM d ds=.ok r)(rp:Rep All H v d):tyV X.K "str" v H:=by
 have:∃z,d=.str z:=by
  unfold joinM at h;split at h
  .exact⟨_,rfl⟩
  .exact bx h
 obtain⟨z,rfl⟩:=this;cases rp.inv;rfl
def U7:∀{xs:ae V}{ds:ae D}{its:ae al}{bs:ae aw},bJ P H xs ds->Vals xs its->vL ds=aa bs->its=bs.map lx
 |[],[],[],_,_,_,h=>by cases h;rfl
 |_,_,_,_,.cons (d:=d) r t,.cons rv tv,h=>by
  cases d<;>simp only[vL] at h<;>(try (cases h;done))
  obtain⟨ts,h1,h2⟩:=gn.mp h;cases r.inv;cases rv;rw[U7 t tv h1,<-h2];rfl
theorem aHg(hc:X.calm=ag):nC X (.builtin "all") (rs aR7 ag):=by
 rintro Ψ s σ H xs us Q I vr ⟨ds,d,r,e,k⟩;unfold aR7 at e;split at e
 .split at e
  .rename_i bs hbs;cases e;obtain⟨vv,uu,rfl,rfl,r,v⟩:=fW r vr;obtain⟨l,ys,rfl,hl,rr⟩:=r.gF;cases v;obtain⟨its,vr',pl⟩:=d8 I hl;have hb:=U7 rr vr' hbs;subst hb;have hlt:l<s.heap.objs.size:=by obtain⟨_,e,_⟩:=pl;exact bw e
   refine call_all_walk (jc pl ?_);refine⟨_,_,_,_,_,_,λi=>bs.getD i ag,rfl,Walks.list (A:=X.A.in1) (I.ok.hd hc) _ l (cg hlt) _,⟨⟨_,cu _ rfl,rfl,rfl⟩,pl.push _⟩,λi v s' Q' E' hP hQ=>?_,λh' tk hk=>?_⟩
   .have hv:(bs.map lx)[i]?=aa v:=by simpa using hP
    rw[iX] at hv;cases hb:bs[i]? with
    |none=>rw[hb] at hv;cases hv
    |some b=>
     rw[hb] at hv;cases hv;have hQ:Q' (bs.getD i ag) s':=hQ;rw[cx,hb] at hQ;exact jn hQ
   .have e:(e9 (bs.map lx).toArray.size).all (λi=>bs.getD i ag)=bs.all id:=by
     rw[b5,br];have:bs=(e9 bs.length).map λi=>bs.getD i ag:=by
      apply zb
      .simp
      .intro i h1 h2;simp[h1]
     conv=>rhs;rw[this]
     rw[vh];rfl
    rw[e];refine⟨.bl _,H,I.kept λb o e=>hk b o (λhb=>?_) (bS _ e),rfl,k.bl⟩;rcases bq.mp hb with rfl|hb
    .exact aS (bw e) (eW _)
    .cases hb
  .exact bx e
 .exact bx e
theorem aF0{K:aT}(x:Str)(t:cz)(it:am):Turn P w K tg (aS1 x) [it] it (λi h=>h.IsStrIter it (fF x) x t i) where
 mem:=by simp
 obj:=λi h st b hb=>by
  have e:b=it:=by simpa using hb
  subst e;obtain⟨o,e,c,d⟩:=st;exact⟨o,e,λv z=>by rw[d] at z;cases z⟩
 keep:=λi h h' st k=>by
  obtain⟨o,e,r⟩:=st;exact⟨o,k it 0x2 o e,r⟩
 item:=by
  intro Y hP hw hK hc i Ψ s σ H E I hf st hg;subst hP hw hK;obtain⟨f0,f1,f2,f3,f4,f5⟩:=hf it 0x2;have hx:x.cps[i]?=aa x.cps[i]:=mi hg;have fin:∀(h':aE)(ty:fx),(["enumerate","zip","dict_itemiterator","dict_reverseitemiterator","odict_iterator","itertools.zip_longest","itertools.pairwise"].contains ty=aj)->fF x=ty->h'.IsStrIter it ty x t (i+1)->di it s.heap h'->
    ∃u,aa (nh ⟨#[x.cps[i]]⟩ s.toks)=aa u/\ϑ (ay Y.prog Y.w) Y.A (nu tg (.ref it) u) (λ_ s2=>∃v H',Inv Y Ψ σ H' s2/\RelV v u/\(aS1 x).yld i H v H'/\s2.heap.IsStrIter it (fF x) x t (i+1)/\∀b∈[it],H' b=ai) E {s with heap:=h',toks:=s.toks+1}:=by
   intro h' ty hn hty st' sb;have I1:Inv Y Ψ σ H {s with heap:=h',toks:=s.toks+1}:=I.turned (λb o hb e=>(sb.2 b hb).trans e) f0 f1 f3 f4 f5;obtain⟨o,e,c,d⟩:=id st';exact⟨_,rfl,aE3 e c d hn ⟨.str ⟨#[x.cps[i]]⟩,H,I1,⟨_,rfl⟩,⟨rfl,_,hx,rfl⟩,by rw[hty];exact st',λb hb=>(hf b hb).1⟩⟩
  cases ha:x.cps.all (·<128)
  .have hty:fF x="str_iterator":=by simp[fF,ha]
   rw[hty] at st;exact wpAny_pyNext_wide_item st hx λh' st' sb=>fin h' _ 0x4 hty st' sb
  .have hty:fF x="str_ascii_iterator":=by simp[fF,ha]
   rw[hty] at st;exact wpAny_pyNext_ascii_item st hx λh' st' sb=>fin h' _ 0x4 hty st' sb
 done:=by
  intro Y hP hw hK hc i Ψ s σ H E I hf st hg;subst hP hw hK;obtain⟨f0,f1,f2,f3,f4,f5⟩:=hf it 0x2;have hx:x.cps[i]?=ai:=oy hg;cases ha:x.cps.all (·<128)
  .have hty:fF x="str_iterator":=by simp[fF,ha]
   rw[hty] at st;exact wpAny_pyNext_wide_end (I.ok.hd hc) st hx λh' eb=>⟨rfl,I.turned (λb o hb e=>eb b o hb e) f0 f1 f3 f4 f5⟩
  .have hty:fF x="str_ascii_iterator":=by simp[fF,ha]
   rw[hty] at st;exact wpAny_pyNext_ascii_end (I.ok.hd hc) st hx λh' eb=>⟨rfl,I.turned (λb o hb e=>eb b o hb e) f0 f1 f3 f4 f5⟩
 self:=λ_ _ _ _ _ st h=>by
  cases ha:x.cps.all (·<128)
  .have hty:fF x="str_iterator":=by simp[fF,ha]
   rw[hty] at st;exact wpAny_pyIter_striter_wide st h
  .have hty:fF x="str_ascii_iterator":=by simp[fF,ha]
   rw[hty] at st;exact wpAny_pyIter_striter_ascii st h
section
variable {tg l a:Expr}
def aAv(I1:Inv X Ψ σ H1 s1)(r:Rep All H1 v d)(ru:RelV v u)(hi:CN d=.ok items)
 (q:∀J,(∀P:am->Prop,Rep P H1 v d->ItQ X.K P J H1 items)->R J H1):ϑ (ay X.prog X.w) X.A (kx u) (PIE X Ψ σ tg R) X.xe s1:=by
 by_cases hz:∃z,d=.str z
 .obtain⟨z,rfl⟩:=hz;simp only[CN] at hi;split at hi
  .cases hi;cases r.inv;obtain⟨t,rfl⟩:=ru;refine wpAny_pyIter_strU ?_;refine⟨s1.heap.objs.size,[s1.heap.objs.size],_,_,H1,rfl,I1.kept λb o e=>bS _ e,aF0 z t _,⟨_,cu _ rfl,rfl,rfl⟩,λb hb=>?_,q _ λP r=>.chs z rfl rfl⟩;have e:b=s1.heap.objs.size:=by simpa using hb
   subst e;exact I1.aDu (bo _) (I1.hok.fresh (bo _))
  .exact bx hi
 .have he:CN d=xQ d:=by
   unfold CN;split
   .exact aS ⟨_,rfl⟩ hz
   .rfl
  rw[he] at hi;exact UW I1 r ru hi q
def dW(hl:PE X l (gE fl rl)):PI X tg l (gI X.K (bW fl rl)):=by
 rintro Ψ s σ H R I ⟨ρ,items,k,E,h,q⟩;obtain⟨d,h1,h⟩:=bA h;obtain⟨its,h2,h⟩:=bA h;cases h;refine thn (hl Ψ s σ H _ I ⟨ρ,d,E,h1,λv H1 s1 r1 n1=>(show(∃d',Rep All H1 v d/\d'=d/\∀J,(∀P:am->Prop,Rep P H1 v d->ItQ X.K P J H1 items)->R J H1) from ⟨d,r1,rfl,λJ hJ=>q J H1 s1 (hJ _ r1) λhk=>hJ _ ?_⟩)⟩) λu s1 ⟨v,H1,I1,ru,d',r1,e,q1⟩=>aAv I1 r1 ru h2 q1
 rw[f_] at hk;rcases hk with hk|hk
 .exact n1 hk
 .exact r1.bQ hk
def nJ{ch:ae am}{a:am}{o:HO}(I:Inv X Ψ σ H s)(k:∀b u,b∉ch->s.heap.get? b=aa u->h'.get? b=aa u)(hf:∀b∈ch,ZQ X Ψ H b)(hp:s.heap.objs.size<=a)
 (new:gP X.prog X.w (upd H a o) h' a o):Inv X Ψ σ (upd H a o) {s with heap:=h',toks:=t'}:=by
 have hn:H a=ai:=I.hok.fresh hp;have nch:∀b u,H b=aa u->b∉ch:=λb u e z=>by rw[(hf b z).1] at e;cases e
 have kU:∀b u,H b=aa u->upd H a o b=aa u:=λb u e=>by rw[aM (bF e hn)];exact e
 refine I.step (λb hb=>?_) (λb u _ _ hc e _=>k b u hc e) (λb u _ _ hc e _=>⟨u.slots,k b u hc e⟩) (λb u _ e n=>?_)
  (λb u hc e=>⟨u,k b u hc e⟩) (λb xs e=>kU b _ e) (λb u v e=>kU b _ e) (λb ps e=>⟨#[],by rw[kU b _ e];simp⟩) (λm hm=>?_) (λb u e=>?_) I.bare
 .obtain⟨_,f1,_,f3,f4,f5⟩:=hf b hb;exact⟨f3,f1,f4,f5⟩
 .rw[aM (λz=>aS (de (bw e) hp) (by rw[z];exact eW _))];exact n
 .obtain⟨u,es,ep,hu,r⟩:=hm;exact⟨u,es,ep,k _ u (λz=>(hf _ z).2.1 rfl) hu,r⟩
 .by_cases hb:b=a
  .subst hb;rw[aF] at e;cases e;exact new
  .rw[aM hb] at e;refine(I.hok b u e).stay (λc v hc q=>k c v ?_ q) (λc q=>kU c _ q) λc xs q=>kU c _ q
   rcases hc with z|z
   .rw[z];exact nch b u e
   .exact nch c _ z
def aAw{K:aT}{elts:ae Expr}{x1}{tp:cm}(a e it:am)(hne:e≠it):Turn P w K (.Tuple elts x1 tp) (Ite K a) [e,it] e (λi h=>(∃old,mj h e it i old)/\h.IsListIter it a i) where
 mem:=by simp
 obj:=λi h st b hb=>by
  obtain⟨⟨old,h1⟩,h2⟩:=st;rcases bq.mp hb with rfl|hb
  .exact⟨_,h1,λv z=>by
    have z':xA _=xB v:=z;cases z'⟩
  .have e:b=it:=by simpa using hb
   subst e;obtain⟨o,e,c,d⟩:=h2;exact⟨o,e,λv z=>by rw[d] at z;cases z⟩
 keep:=λi h h' st k=>by
  obtain⟨⟨old,h1⟩,h2⟩:=st;exact⟨⟨old,k e 0x2 _ h1⟩,h2.at λo e=>k it 0x2 o e⟩
 item:=by
  intro Y hP hw hK hc i Ψ s σ H E I hf st hg;subst hP hw hK;obtain⟨⟨old,h1⟩,h2⟩:=st;obtain⟨xs,x,hq,hx⟩:=hg;obtain⟨its,rv,p,hz⟩:=I.list hq;obtain⟨u,hu,ru⟩:=rv.get hx;have hlt:e<s.heap.objs.size:=bw h1;refine wpAny_pyNext_enum_item h1 h2 p.isList (by simpa using hu) hne λh' o1 o2 o3 o4 o5=>?_
  refine⟨_,rfl,Ca o1 λh'' g1 g2=>?_⟩;have g2':di e h' h'':=g2;have kk:∀b o,b∉[e,it]->s.heap.get? b=aa o->h''.get? b=aa o:=λb o hb eb=>by
   rw[bq,ja,fE] at hb;exact(g2'.2 b hb.1).trans (o5 b o hb.1 hb.2 eb)
  have o3':h''.get? s.heap.objs.size=aa {cls:=.type "tuple",data:=.seq #[.int i s.toks,u]}:=(g2'.2 _ (fA hlt)).trans o3;refine⟨.ref s.heap.objs.size,upd H s.heap.objs.size (.tup [.int i,x]),nJ (s:=s) (t':=s.toks+1) (ch:=[e,it]) I kk (λb hb=>hf b hb) (bo _) ?_,rfl,⟨_,x,λys hy=>by rw[I.oE hy hq];exact hx,rfl,I.hok.fresh (bo _),rfl⟩,⟨⟨_,g1⟩,?_⟩,λb hb=>?_⟩
  .exact⟨by show 2<=bd;rw[cy];decide,[.int i s.toks,u],.cons ⟨_,rfl⟩ (.cons ru .nil),⟨_,o3',rfl,0,rfl⟩⟩
  .obtain⟨o,ho,r⟩:=o2;exact⟨o,(g2'.2 it (Ne.symm hne)).trans ho,r⟩
  .have hb':=(hf b hb).1;rw[aM]
   .exact hb'
   .intro z;subst z;rcases bq.mp hb with h|h
    .rw[<-h] at hlt;exact eW _ hlt
    .have h':s.heap.objs.size=it:=by simpa using h
     obtain⟨o,ho,_⟩:=h2;have:=bw ho;rw[<-h'] at this;exact eW _ this
 done:=by
  intro Y hP hw hK hc i Ψ s σ H E I hf st hg;subst hP hw hK;obtain⟨⟨old,h1⟩,h2⟩:=st;obtain⟨xs,hq,hx⟩:=hg;obtain⟨its,rv,p,hz⟩:=I.list hq;obtain⟨f0,f1,f2,f3,f4,f5⟩:=hf it 0x2;have hl:=rv.length;exact wpAny_pyNext_enum_end (I.ok.hd hc) h1 h2 p.isList (by simp;lia) λh' eb=>⟨rfl,I.turned (t':=s.toks) (λb o hb e=>eb b o hb e) f0 f1 f3 f4 f5⟩
 self:=λ_ _ _ _ _ st h=>by
  obtain⟨⟨old,h1⟩,h2⟩:=st;exact vF h1 h
def aJs{x1}(hg:Gl X "enumerate")(hm:X.mg "enumerate"=ai)(ha:PA X [a] (gA (aC fa aW) ra))(hs:cw [a] X.env=[(aj,eval a X.env)]:=by rfl) :
  PI X (.Tuple elts x1 tp) (.Call (.Name "enumerate" p) [a] [] pos) (gI X.K (aEz fa ra)):=by
 rintro Ψ s σ H R I ⟨ρ,items,k,E,h,q⟩;obtain⟨d,h1,h⟩:=bA h;obtain⟨its,h2,h⟩:=bA h;cases h;have hd:d=.lst its:=by
  unfold aEy at h2;split at h2
  .cases h2;rfl
  .exact bx h2
 subst hd;have hb:aC fa aW ρ=.ok [υ its]:=by
  unfold aC;rw[h1];rfl
 refine Call_ (jP I hg hm Cb (hG (thn (ha pos Ψ s σ H (λvs H1=>∃v,vs=[v]/\bK H H1/\Rep All H1 v (.lst its)/\(ra=ag->Rep (New H) H1 v (.lst its))) I ⟨ρ,_,E,hb,λvs H1 s1 r1 n1=>?_⟩) λus s1 ⟨vs,H1,I1,r1,q1⟩=>?_) hs rfl))
 .cases r1 with
  |cons r t=>
   cases t;refine⟨_,rfl,s1,r,λz=>?_⟩;cases n1 z with
   |cons r' _=>exact r'
 .obtain⟨v,rfl,s1',r,n⟩:=q1;cases r1 with
  |cons rv rr=>
   cases rr;obtain⟨l,ys,rfl,hl,rr⟩:=r.gF;cases rv;obtain⟨vs,rvs,pl,hz⟩:=I1.list hl;refine call_enumerate_list pl.isList λh' e1 e2 e3 e4=>?_
   refine vF e1 ?_;refine⟨s1.heap.objs.size+1,[s1.heap.objs.size+1,s1.heap.objs.size],_,_,H1,rfl,I1.kept λb o e=>e4 b o e,aAw l (s1.heap.objs.size+1) s1.heap.objs.size (Cc _),⟨⟨_,e1⟩,e2⟩,λb hb=>?_,q _ H1 s1' (.enm l its rfl r rfl) λhk=>.enm l its rfl ?_ rfl⟩
   .rcases bq.mp hb with rfl|hb
    .exact I1.aDu (iS _) (I1.hok.fresh (iS _))
    .have e:b=s1.heap.objs.size:=by simpa using hb
     subst e;exact I1.aDu (bo _) (I1.hok.fresh (bo _))
   .rw[f_] at hk;rcases hk with hk|hk
    .exact n hk
    .cases hk
end
end
def aHh:eJ "all"=aa (.builtin "all"):=0x6
end Mi
namespace Mi
open PySem L2
def aHi(b:aw):asB (.bl b)=.ok b:=rfl
def bN:lim=1000000:=by unfold lim;exact Eq.refl _
def yJ(h:ρ.length=n):QG n ρ=ρ:=by
 subst h;apply zb
 .simp[QG]
 .intro i h1 h2;simp[QG,h2]
def cF(h:ds.length=n):cU n f ds=f ds:=by
 unfold cU;rw[aq (by simp[h])]
def aO(h1:a ρ=.ok x)(h2:b ρ=.ok y)(h3:f x y=.ok z):b2 f a b ρ=.ok z:=by
 unfold b2;rw[h1,θ,h2,θ,h3]
def cC(h:f ρ=.ok d):cZ aj i f ag ρ=.ok (.nx (ρ.set i d)):=by
 unfold cZ;rw[h,θ];rfl
def GX(h:f ρ=.ok d)(hp:d.pure=ag):cZ aj i f aj ρ=.ok (.nx (ρ.set i d)):=by
 unfold cZ;rw[h,θ];simp only[hp,ve,fT,dw,c9]
def uO(h:f ρ=.ok d)(hp:inner d=ag):cZ ag i f ag ρ=.ok (.nx (ρ.set i d)):=by
 unfold cZ;rw[h,θ];simp only[hp,ml,c9]
def aN(h1:f ρ=.ok (.nx ρ'))(h2:g ρ'=r):bU f g ρ=r:=by
 unfold bU;rw[h1,θ];exact h2
def aO5(h1:c ρ=.ok k)(h2:(if k then f ρ else g ρ)=r):sIf c f g ρ=r:=by
 unfold sIf;rw[h1,θ];exact h2
def aAx(h1:c ρ=.ok ag)(h2:f ρ=r):sIf c f g ρ=r:=aO5 h1 (by rw[aq rfl];exact h2)
def o8(h1:c ρ=.ok aj)(h2:g ρ=r):sIf c f g ρ=r:=aO5 h1 (by rw[ax 0x2];exact h2)
def fQ(h1:f ρ=.ok (.bl k)):bTB f ρ=.ok k:=by
 unfold bTB;rw[h1,θ];rfl
def KJ(h1:a ρ=.ok ag)(h2:b ρ=r):XS a b ρ=r:=by
 unfold XS;rw[h1,θ,aq rfl,h2]
def aF1(h1:a ρ=.ok aj):XS a b ρ=.ok aj:=by
 unfold XS;rw[h1,θ,ax 0x2];rfl
def aR8(h1:a ρ=.ok x)(h2:b ρ=.ok y)(h3:f x y=.ok (.bl ag))(h4:c ρ=.ok z)(h5:g y z=r):bCh f g a b c ρ=r:=by
 unfold bCh;rw[h1,θ,h2,θ,h3,θ,aHi,θ,aq rfl,h4,θ,h5]
def aTi(h1:a ρ=.ok x)(h2:b ρ=.ok y)(h3:f x y=.ok (.bl aj)):bCh f g a b c ρ=.ok (.bl aj):=by
 unfold bCh;rw[h1,θ,h2,θ,h3,θ,aHi,θ,ax 0x2];rfl
def aD(h1:a ρ=.ok x)(h2:b ρ=.ok xs):aC a b ρ=.ok (x::xs):=by
 unfold aC;rw[h1,θ,h2,θ];rfl
def aX(h1:a ρ=.ok xs)(h2:f xs=.ok d):aQ f a ρ=.ok d:=by
 unfold aQ;rw[h1,θ,h2]
def eE(h:a ρ=.ok xs)(hl:xs.length<=lim):jR a ρ=.ok (.tup xs):=by
 unfold jR;rw[h,θ,aq (bj hl)];rfl
def gJ(h:f ρ=.ok d)(hp:(k||d.pure)=ag):lY f k ρ=.ok (.rt d):=by
 unfold lY;rw[h,θ,aq hp]
def lJ(h1:it ρ=.ok (xs,ag))(h2:nG t body xs ρ=r):O3 it t body ρ=r:=by
 unfold O3;rw[h1,θ];exact h2
def QZ(h1:eZ i ρ=.ok d)(h2:xQ d=.ok xs)(h3:nG t body xs ρ=r):X3 i t body ρ=r:=by
 unfold X3;rw[h1,θ,h2,θ];exact h3
def aO6(h:f ρ=.ok [.int n])(h1:0<=n)(h2:n<=1000000):J8 f FP ρ=.ok ((e9 n.toNat).map λ(k:ah)=>ι (0+(k:ak)),ag):=by
 unfold J8;rw[h,θ];have:xO n=ag:=by
  simp only[xO,ba,c_];lia
 simp only[FP,this,c9]
def aAy(h1:g ρ=.ok d)(h2:f ρ=.ok k)(h3:ρ.getD i .uD=.dct kvs)(h4:kvs.length<lim)(h5:lQ kvs k=ag)(h6:d.pure=ag):aEo i f g ρ=.ok (.nx (ρ.set i (.dct (putD kvs k d)))):=by
 unfold aEo;rw[h1,θ,h2,θ,h3];simp only[bj h4,h5,h6,ml,c9]
def aO7(h1:f ρ=.ok d)(h3:ρ.getD i .uD=.lst xs)(h4:xs.length<lim)(h5:d.pure=ag):aNo i f ρ=.ok (.nx (ρ.set i (.lst (xs++[d])))):=by
 unfold aNo;rw[h1,θ,h3];simp only[bj h4,h5,ml,c9]
def b_(h1:t x ρ=.ok ρ1)(h2:body ρ1=.ok (.nx ρ2))(h3:nG t body xs ρ2=r):nG t body (x::xs) ρ=r:=by
 rw[nG,h1,θ,h2,θ];exact h3
def nM(h1:it ρ=.ok (xs,kk))(h2:xs.length<=lim)(h3:h_ (oN n t c f k ρ) [] xs=.ok ys):fO n it t c f k ρ=.ok (.lst ys):=by
 unfold fO;rw[h1,θ];simp only[bj h2,c9];rw[h3];rfl
def yK(hρ:ρ.length=n)(h1:c (ρ++[x])=.ok b)(h2:b=ag->f (ρ++[x])=.ok y/\(k||y.pure)=ag):oN n v6 c f k ρ acc x=.ok (if b then acc++[y] else acc):=by
 unfold oN;show(do let ok <- c (QG n ρ++[x]);_)=_;rw[yJ hρ,h1,θ];cases b with
 |true=>
  obtain⟨e1,e2⟩:=h2 rfl;rw[aq rfl,e1,θ,aq e2,aq rfl];rfl
 |false=>
  rw[ax 0x2,ax 0x2];rfl
def KN(g:ae D->D->Res (ae D))(d:α->D)(p:α->aw)(y:α->D)(h:∀acc a,g acc (d a)=.ok (if p a then acc++[y a] else acc)):∀(xs:ae α)(acc:ae D),h_ g acc (xs.map d)=.ok (acc++(xs.filter p).map y)
 |[],acc=>by simp[h_]
 |x::xs,acc=>by
  rw[bh,h_,h];show h_ g _ _=_;rw[KN g d p y h xs];by_cases hp:p x
  .simp[hp]
  .simp[hp]
def o9(a b:ak):cO .add (.int a) (.int b)=.ok (.int (a+b)):=rfl
def aO8(a b:ak):cO .sub (.int a) (.int b)=.ok (.int (a-b)):=rfl
def aHj(a b:ak)(h:i_ b=ag):cO .mul (.int a) (.int b)=.ok (.int (a*b)):=by
 show(if i_ a||i_ b then τ (ι (a*b)) else .bad)=_;rw[h,Cd,aq rfl]
def aAz(a b:ak)(h:i_ a=ag):cO .mul (.int a) (.int b)=.ok (.int (a*b)):=by
 show(if i_ a||i_ b then τ (ι (a*b)) else .bad)=_;rw[h,Bc,aq rfl]
def yL(a b:ak)(h1:0<b)(h2:b<1073741824):cO .fdiv (.int a) (.int b)=.ok (.int (a / b)):=by
 show(if ϒ (0<b)&&ϒ (b<1073741824) then τ (ι (a / b)) else .bad)=_;rw[bj h1,bj h2,ml,aq rfl]
def iK(a b:ak)(h1:0<b):cO .mod (.int a) (.int b)=.ok (.int (a % b)):=by
 show(if ϒ (0<b) then τ (ι (a % b)) else .bad)=_;rw[bj h1,aq rfl]
def Q0(a b:Str)(h:a.length+b.length<=lim):cO .add (.str a) (.str b)=.ok (.str (a++b)):=by
 show(if ϒ (a.length+b.length<=lim) then τ (ε (a++b)) else .bad)=_;rw[bj h,aq rfl]
def str_len(a b:Str):(a++b).length=a.length+b.length:=by
 show(a.cps++b.cps).size=_;rw[Array.size_append];rfl
def aJt(a b:ae D)(h:a.length+b.length<=lim)(ha:δ a=ag)(hb:δ b=ag):cO .add (.lst a) (.lst b)=.ok (.lst (a++b)):=by
 show(if ϒ (a.length+b.length<=lim)&&δ a&&δ b then τ (υ (a++b)) else .bad)=_;rw[bj h,ha,hb,ml,ml,aq rfl]
def X8(S:ae ak):δ (S.map ι)=ag:=by
 induction S with
 |nil=>rfl
 |cons q Q ih=>rw[bh,δ,ih];rfl
def aJu(ns:ae ak)(lo hi:au ak):cutD (ns.map ι) lo hi=(cutD ns lo hi).map ι:=by
 unfold cutD;rw[br,zc,zd]
open PySem.SeqAt PySem.Spec PyProof.Rows
def Q3(x:gP P w H h a o):∃ob,h.get? a=aa ob:=by
 cases o with
 |lst xs=>obtain⟨_,_,_,_,e⟩:=x;exact⟨_,e⟩
 |tup xs=>obtain⟨_,_,_,_,e,_⟩:=x;exact⟨_,e⟩
 |dK kvs=>obtain⟨_,_,_,_,o,_,_,e,_⟩:=x;exact⟨_,e⟩
 |dT kvs=>obtain⟨_,_,_,_,o,_,_,e,_⟩:=x;exact⟨_,e⟩
 |set S n=>obtain⟨o,_,_,_,e,_⟩:=x;exact⟨_,e⟩
 |ins C dx fs=>obtain⟨_,_,_,e,_⟩:=x;exact⟨_,e⟩
 |own y=>exact x
 |xd fs=>obtain⟨_,⟨_,_,_,e,_⟩,_⟩:=x;exact⟨_,e⟩
 |rng lo hi=>obtain⟨_,_,_,e⟩:=x;exact⟨_,e⟩
 |frz ob u=>obtain⟨e,_⟩:=x;exact⟨_,e⟩
 |tbl ps=>exact⟨_,show h.get? a=aa _ from x⟩
 |met f y=>exact⟨_,show h.get? a=aa _ from x⟩
 |ext φ=>obtain⟨_,e,_⟩:=x;exact e
def aJv{K:aT}(X:K.In h)(q:ze K C bmB newId=ag) :
  ∃bm N nm qn bs hdct sn sub ab col dd k0 k1 k2 k3 k5 mN,h.get? C=aa (excClassObj nm qn C N bs bm hdct sn sub ab col dd k0 k1 k2 k3 k5 newId)/\h.Ns N mN/\mN "__init__"=ai/\OwnTail h bmB bm:=by
 unfold ze at q;split at q
 .rename_i dd cd sl ho;split at q
  .rename_i C' bm k0 k1 k2 k3 n k5 hm hs;rw[ba,ba,ba,ba,ba] at q;obtain⟨⟨⟨⟨⟨q1,q2⟩,q3⟩,q4⟩,q5⟩,q6⟩:=q;have q1:=ig.mp q1;have q2:=ig.mp q2;rw[lf] at q3;subst q1 q2;obtain⟨nm,bs,mro,ns,qn,hd,sn,sub,ab,col,del⟩:=cd;obtain⟨l⟩:=sl;dsimp only at hm q3 q5 q6 hs;subst hm q3 hs;exact⟨bm,ns,nm,qn,bs,hd,sn,sub,ab,col,dd,k0,k1,k2,k3,k5,_,X _ _ ho,.of_isNs (PySem.W.isNs_of_in X q5),PySem.W.nsMap_none_of_in X q5 (ig.mp q6),PySem.W.tail_of_in X q4⟩
  .cases q
 .cases q
abbrev aS4:ae al:=[.type "ValueError",.type "Exception",.type "BaseException",.type "object"]
def aF2(hc:X.calm=ag)(hg:Gl X x)(hm:X.mg x=aa (.ref C))(hq:ze X.K C aS4 "ValueError.__new__"=ag)(ha:PA X [e] ta)
 (he:cw [e] X.env=[(aj,eval e X.env)]:=by rfl)(hd:nDb x:=by decide) :
  PS X (.Raise (aa (.Call (.Name x np) [e] [] cpos)) ai pos) (λD σ H=>ta σ H λvs H1=>vs.length<=bd/\∀(Ψ:ae (am×bc))(s:ar)(h2:aE)(a:am)(us:ae al),Inv X Ψ σ H1 s->Ce s.heap h2 a (.ref C) us->X.xe (.ref a) {s with heap:=h2}):=by
 intro Ψ s σ H D I h;obtain⟨bm,N,nm,qn,bs,hdct,sn,sub,ab,col,dd,k0,k1,k2,k3,k5,mN,hC,hN,hni,T⟩:=aJv I.mod.kin hq;refine wpAny_Raise_call_subT (nm:=nm) (q:=qn) (N:=N) (bs:=bs) (bm:=bm) (hdct:=hdct) (sn:=sn) (sub:=sub) (ab:=ab) (col:=col) (dd:=dd) (k0:=k0) (k1:=k1) (k2:=k2) (k3:=k3) (k5:=k5)
  Cf (mN:=mN) (T.hasType Cf.hasBase) (I.ok.hd hc) (by rw[he];rfl) hni (wU I hg hm ⟨rfl,?_⟩ hd)
 rw[he];have h':=ha cpos Ψ s σ H _ I h;rw[he] at h';refine A6 (eM h' (λus s2 ⟨vs,H1,I1,r,hl,hx⟩=>⟨rfl,by rw[<-r.length];exact hl,I1.bk _ _ hC,hN.keeps I1.bk,T.keeps I1.bk,λh2 a hm=>hx Ψ s2 h2 a us I1 hm⟩) λ_ _ y=>y)
section
variable [KFrag]
def PS.nox{st:bp}(h:PS X.nox st t):PS X st t:=λΨ s σ H D I hw=>
 eM (h Ψ s σ H D (I.wish _) hw) (λ_ _ q=>SP.lU q) λ_ _ z=>dz z
end
open PySem.W
noncomputable abbrev mrk(X:Cx)(v:al):Cx:={X with A:=X.A.mark (aa v),calm:=aj}
section
variable {a:am}
def aB0(I:Inv X Ψ σ H s)(v:al):Inv (mrk X v) Ψ σ H s:=
 ⟨⟨I.ok.mod,I.ok.kind,I.ok.glob,I.ok.blt,I.ok.above,I.ok.inj,I.ok.has,I.ok.cab,(λz=>nomatch z),I.ok.frames,I.ok.stk,I.ok.exf,I.ok.bs,I.ok.bsz,I.ok.noex,I.ok.exfs,I.ok.W4,I.ok.frf⟩,I.os,I.bare,I.base,I.loc,I.cell,I.free,I.freeC,I.pin,I.hok,I.len⟩
def aB1(ok:X.Ok)(I:Inv (mrk X v) Ψ σ H s):Inv X Ψ σ H s:=
 ⟨ok,I.os,I.bare,I.base,I.loc,I.cell,I.free,I.freeC,I.pin,I.hok,I.len⟩
def aO9(u:Un fs [] H H2 h h6)(hg:h.get? a=ai)(hn:H2 a=ai):Un fs [] H (upd H2 a o) h h6:=by
 have ne:∀b ob,h.get? b=aa ob->b≠a:=λb ob q z=>by rw[z,hg] at q;cases q
 refine⟨u.keep,u.slot,λb ob q n hx=>by rw[aM (ne b ob q)];exact u.free b ob q n hx,u.there,λb xs q=>?_,λb ob xs q=>?_,λb ps q=>?_⟩
 .have z:=u.tups b xs q;rw[aM (bF z hn)];exact z
 .have z:=u.frzs b ob xs q;rw[aM (bF z hn)];exact z
 .obtain⟨m,z⟩:=u.tbls b ps q;exact⟨m,by rw[aM (bF z hn)];exact z⟩
def aJw(x:HOk P w H2 h6)(hn:H2 a=ai)(new:gP P w (upd H2 a o) h6 a o):HOk P w (upd H2 a o) h6:=λb u e=>by
 by_cases hb:b=a
 .subst hb;rw[aF] at e;cases e;exact new
 .rw[aM hb] at e;exact(x b u e).stay (λc v _ q=>q) (λc q=>by rw[aM (bF q hn)];exact q) λc xs q=>by rw[aM (bF q hn)];exact q
end
variable [KFrag]
def aF3{H:Hp}{a:am}{o:HO}(h:H a=ai):bK H (upd H a o):=λb u e=>by rw[aM (bF e h)];exact e
end Mi
namespace Mi
open PySem L2 PySem.SeqAt PySem.Spec PyProof.Rows
noncomputable def intsOf:ae D->au (ae ak)
 |[]=>aa []
 |.int i::r=>(intsOf r).map (i::·)
 |_::_=>ai
def aF4:ae D->Res D
 |[.lst ds]=>match intsOf ds with
  |some ns=>if ns.all (λi=>ϒ (-1000<=i)&&ϒ (i<=1000))&&ϒ (ns.length<=100000) then .ok (.int ns.sum) else .bad
  |none=>.bad
 |_=>.bad
def KQ:∀{ds:ae D}{ns:ae ak},intsOf ds=aa ns->ds=ns.map ι
 |[],ns,h=>by cases h;rfl
 |d::ds,ns,h=>by
  unfold intsOf at h;split at h
  .rename_i e;cases e
  .rename_i i r e;cases e;obtain⟨ms,h1,h2⟩:=gn.mp h;subst h2;rw[bh,<-KQ h1]
  .cases h
def aB2(ps:ae (ak×cz)):∀j,j<=ps.length->preSum (mn ps.toArray) j=((ps.map (·.1)).take j).sum:=by
 intro j;induction j with
 |zero=>intro _;simp[preSum]
 |succ j ih=>
  intro hj;have hlt:j<ps.length:=by lia
  have e:mn ps.toArray j=(ps.map (·.1))[j]'(by simpa using hlt):=by simp[mn,hlt]
  rw[preSum,ih 0x1,e,<-List.take_append_getElem (by simpa using hlt),List.sum_append];simp
def KR(c:ak)(hc:0<=c):∀(l:ae ak),(∀i∈l,-c<=i/\i<=c)->-(c*l.length)<=l.sum/\l.sum<=c*l.length
 |[],_=>by simp
 |x::l,h=>by
  have h1:=h x (bE ..);have h2:=KR c hc l λi hi=>h i (bX _ hi)
  simp only[zf,bz,Int.natCast_add,Int.mul_add];simp only[Int.natCast_one,AM];lia
section
variable [KFrag]
section
variable {e:Expr}
def lW:∀{ns:ae ak}{ys:ae V}{its:ae al},bJ P H ys (ns.map ι)->Vals ys its->∃ps:ae (ak×cz),its=ps.map (λp=>ng p.1 p.2)/\ps.map (·.1)=ns
 |[],_,_,.nil,.nil=>⟨[],rfl,rfl⟩
 |n::ns,_,_,.cons r t,.cons v vs=>by
  obtain⟨ps,h1,h2⟩:=lW t vs;cases r.inv;obtain⟨tk,rfl⟩:=v;exact⟨(n,tk)::ps,by rw[h1];rfl,by rw[bh,h2]⟩
def aOa(hc:X.calm=ag):nC X (.builtin "sum") (rs aF4 ag):=by
 rintro Ψ s σ H xs us Q I vr ⟨ds,d,r,e,k⟩;unfold aF4 at e;split at e
 .split at e
  .rename_i ns hns;split at e
   .rename_i hb;rw[ba] at hb;cases e;obtain⟨vv,uu,rfl,rfl,r,v⟩:=fW r vr;obtain⟨l,ys,rfl,hl',rr⟩:=r.gF;cases v;rw[KQ hns] at rr;obtain⟨its,vi,il,_⟩:=I.list hl';obtain⟨ps,h1,h2⟩:=lW rr vi;subst h1;have hlen:ps.length=ns.length:=by rw[<-h2,br]
    have hn:ns.length<=100000:=dy hb.2;have hall:∀i∈ns,-1000<=i/\i<=1000:=λi hi=>by
     have:=gf.mp hb.1 i hi;rw[ba,c_,c_] at this;exact this
    have ia:s.heap.IsList l (intItems ps.toArray):=by
     obtain⟨o,n,e1,e2,e3,e4⟩:=il;exact⟨o,e1,e2,n,by simpa[intItems] using e4⟩
    refine sum_intList (I.ok.hd hc) ia (λj hj=>?_) λh' tk t' kp=>⟨.int ns.sum,H,I.kept kp,⟨t',?_⟩,k _ _ (bK.refl H) (.int _) λ_=>.int _⟩
    .have hj':j<ps.length:=by simpa using hj
     refine⟨?_,?_⟩
     .have hm:mn ps.toArray j∈ns:=by
       have e:mn ps.toArray j=(ps.map (·.1))[j]'(by simpa using hj'):=by simp[mn,hj']
       rw[e,<-h2];exact vS _
      have:=hall _ hm;unfold InLong;lia
     .rw[aB2 ps (j+1) 0x1,h2];have:=KR 1000 0x4 (ns.take (j+1)) λi hi=>hall i (zg hi)
      have hl:(ns.take (j+1)).length<=100000:=dg (List.length_take_le' ..) hn;unfold InLong;lia
    .have:=aB2 ps ps.length (bo _);rw[h2,hlen,List.take_length] at this;rw[b5,hlen,this]
   .exact bx e
  .exact bx e
 .exact bx e
def aOb:eJ "sum"=aa (.builtin "sum"):=0x6
end
def DV(H:Hp)(a:am)(kvs:ae (Key×V)):Prop:=H a=aa (.dK kvs)\/(kvs=[]/\H a=aa (.dT []))
def aHk:∀{kvs:ae (κ×V)}{vs:ae (κ×al)}{i:ah}{p:κ×V},KV kvs vs->kvs[i]?=aa p->∃u,vs[i]?=aa (p.1,u)/\RelV p.2 u
 |_,_,_,_,.nil,h=>by simp at h
 |_,_,0,_,.cons r _,h=>by
  simp at h;subst h;exact⟨_,by simp[r.1],r.2⟩
 |_,_,i+1,_,.cons _ t,h=>by
  obtain⟨u,h1,h2⟩:=aHk t (by simpa using h);exact⟨u,by simpa using h1,h2⟩
section
variable {a:am}
def aOc(hu:DV H a kvs):L2.Mut (H a):=by
 rcases hu with h|⟨_,h⟩<;>rw[h]<;>trivial
def aB3(I:Inv X Ψ σ H s)(hu:DV H a kvs):kvs.length<=bd/\(a==gj)=aj/\∃vs,KV kvs vs/\s.heap.DictOf (b7 X.prog X.w) a vs:=by
 rcases hu with h|⟨rfl,h⟩
 .exact PX I.hok h
 .exact PX (jU I h).hok aF
def aOd(I:Inv X Ψ σ H s)(hu:DV H a kvs)(ho:s.heap.get? a=aa o):∃u,H a=aa u/\∀(H':Hp)(h:aE),h.get? a=aa o->gP X.prog X.w H' h a u:=by
 rcases hu with h|⟨_,h⟩
 .obtain⟨z,hs,vs,rel,o',es,ep,ho',c⟩:=I.hok a _ h;rw[ho] at ho';cases ho';exact⟨_,h,λH' h' e=>⟨z,hs,vs,rel,o,es,ep,e,c⟩⟩
 .obtain⟨z,hs,xs,rel,o',es,ep,ho',c⟩:=I.hok a _ h;rw[ho] at ho';cases ho';cases rel;exact⟨_,h,λH' h' e=>⟨z,hs,[],.nil,o,es,ep,e,c⟩⟩
end
def U8(ea:∀ob,H a=aa ob->ZV ob=ag)(b:am)(o:HO)(e:H b=aa o)(h:ZV o=aj):upd H a u b=aa o:=by
 rw[aM λz=>by rw[z] at e;rw[ea _ e] at h;cases h];exact e
def U9{P:am->Prop}(ea:∀ob,H a=aa ob->ZV ob=ag)(q:Rep P H v d)(h:d.pure=ag):Rep P (upd H a u) v d:=q.xU (U8 ea) h
def aB4{P:am->Prop}(ea:∀ob,H a=aa ob->ZV ob=ag)(q:bJ P H v d)(h:δ d=ag):bJ P (upd H a u) v d:=q.xU (U8 ea) h
structure aMi(K:aT)(x qual:Str)(st:bp)(f:am)(fd:dm)(T:am)(its:aI al):Prop where
 ex:∃(oc:al)(od:au am)(kV doc pm:al)(an:au am)(cdv ct:al)(osl:aI (au al)),
  fd=kK x qual (eY st) (cH st) (aH st) (.ref T) kV doc pm an cdv ct/\K.lookup f=aa ⟨oc,od,.func fd,osl⟩/\sP K cdv qual=ag
 kp:gz K (.ref f)=ag
 df:∃(tc:al)(td:au am)(tn:ah)(tl:aI (au al)),K.lookup T=aa ⟨tc,td,.seq its tn,tl⟩
structure aUm(P:bu)(w:bn)(K:aT)(mg:Str->au al)(base:aE)(k:ah)(x kw:Str)(n:ah)(df:D)(f:ae D->Res D):Prop where
 ex:∃(fad:am)(fd:dm)(ps:ae Str)(u:al)(v:V),j4 P w K mg base CX0 k fad fd ps (spD f (n+1))/\mg x=aa (.ref fad)/\gz K (.ref fad)=ag/\Binds K fd ps []/\Binds K fd ps [u]/\RelV v u/\(∀H:Hp,Rep All H v df)/\
  ∀(s:ar)(us:ae al)(y:al),K.In s.heap->us.length=n->kH s fd ⟨us,[(kw,y)]⟩ (ps.zip (us++[y]))
end
def aB5:D->D->Res D
 |.tup a,.tup b=>if ϒ (a.length+b.length<=lim) then .ok (.tup (a++b)) else .bad
 |_,_=>.bad
def gK:ae D->ae D->ae (D×D)->ae (D×D)
 |k::ks,v::vs,m=>gK ks vs (putD m k v)
 |_,_,m=>m
def aB6:ae D->Res D
 |[.tup xs,.tup ys]=>if ϒ (xs.length<=1000)&&ϒ (ys.length=xs.length)&&xs.all dZ&&δ ys then .ok (.dct (gK xs ys [])) else .bad
 |_=>.bad
noncomputable def ZW(c:FT)(body:FS):ah->ae D->Res Fl
 |0,_=>.bad
 |n+1,ρ=>do
  let k <- c ρ
  if k then (do
   let r <- body ρ
   match r with
   |.nx ρ'=>ZW c body n ρ'
   |.ct ρ'=>ZW c body n ρ'
   |.bk ρ'=>.ok (.nx ρ')
   |.rt d=>.ok (.rt d))
  else .ok (.nx ρ)
def aTj(c:FT)(body:FS):FS:=λρ=>ZW c body 1000 ρ
section
variable [KFrag]
section
theorem GZ:OpR X (ef .Add) (r2 aB5 aj):=by
 intro Ψ s σ H x y v u Q I rx ry h;obtain⟨a,b,d,p,q,e,k⟩:=h;unfold aB5 at e;split at e
 .rename_i da db;split at e
  .rename_i hl;cases e;obtain⟨l1,xs1,rfl,e1,r1⟩:=p.inv;obtain⟨l2,xs2,rfl,e2,r2⟩:=q.inv;cases rx;cases ry;have hz:xs1.length+xs2.length<=bd:=by rw[r1.length,r2.length];exact j9 hl
   obtain⟨its,w1,p1,_⟩:=I.tuple (.of e1);obtain⟨its2,w2,p2,_⟩:=I.tuple (.of e2);obtain⟨⟨cls,dd,data,sl⟩,ho,hc,n,hd⟩:=id p1;obtain⟨⟨cls2,dd2,data2,sl2⟩,ho2,hc2,n2,hd2⟩:=id p2;simp only at hc hd hc2 hd2;by_cases hv:its=[]
   .have:xs1=[]:=w1.xM.mp hv;subst this;cases r1;refine sQ ⟨_,ho,hc⟩ ⟨_,ho2,hc2⟩ yo yp yq yr (yt _ _)
     (tuple_addW0 l1 l2 its.toArray its2.toArray n n2 dd dd2 sl sl2 (by simp[hv])) ⟨by subst hc hd;exact ho,by subst hc2 hd2;exact ho2,.ref l2,H,I,rfl,?_⟩
    exact k.self (.tup e2 r2) (λz=>by cases z)
   .refine aJ4 Ψ s σ H (.ref l1) (.ref l2) _ _ Q I rfl rfl ⟨l1,l2,xs1,xs2,rfl,rfl,.of e1,.of e2,λz=>hv (w1.xM.mpr z),hz,λz=>?_,λz p hp=>?_⟩
    .subst z;cases r2;rw[dQ] at k;exact k.self (.tup e1 r1) (λz=>by cases z)
    .have sp:bK H (upd H p (.tup (xs1++xs2))):=bK.upd hp;exact k _ _ sp (.tup aF ((r1.append r2).same sp)) λz=>by cases z
  .exact bx e
 .exact bx e
def aOe(hp:lI (ay X.prog X.w) X.A X.env X.xe)(hc:PT X c (gT gc))(hb:PSs X body (tS own fb)):PS X (.While c body [] pos) (tS own (aTj gc fb)):=
 PS.imp (S8 hp hc hb) λD σ H z0=>by
 obtain⟨ρ,fl,E,h,q⟩:=z0;refine⟨λm σ' H'=>∃ρ' ,ES own H' σ' ρ'/\ZW gc fb m ρ'=.ok fl/\kS own D σ' H' fl,⟨1000,ρ,E,h,q⟩,?_⟩;rintro m σ H ⟨ρ,E,h,q⟩;cases m with
 |zero=>exact bx h
 |succ m=>
  rw[ZW] at h;obtain⟨k,h1,h2⟩:=bA h;refine⟨ρ,k,E.er,h1,λH1 s=>?_⟩;cases k with
  |true=>
   rw[aq rfl];rw[aq rfl] at h2;obtain⟨r,h3,h4⟩:=bA h2;refine⟨λσ' H'=>∃ρ',ES own H' σ' ρ'/\ZW gc fb m ρ'=.ok fl/\kS own D σ' H' fl,λσ' H' w=>⟨m,ny m,w⟩,ρ,r,E.same s,h3,?_⟩;have q1:=q.step (.same s);cases r with
   |nx ρ'=>exact λσ' H' ku E'=>⟨ρ',E',h4,q1.step ku⟩
   |ct ρ'=>exact λσ' H' ku E'=>⟨ρ',E',h4,q1.step ku⟩
   |bk ρ'=>cases h4;exact λσ' H' ku E'=>q1 σ' H' ku E'
   |rt d=>cases h4;exact q1
  |false=>
   rw[ax 0x2];rw[ax 0x2] at h2;cases h2;exact(q.step (.same s)) σ H1 (λa o e n=>⟨e,n⟩) (E.same s)
end
end
variable [KFrag]
def aOf(h:(b7 P w).is k v=ag):RelV (kV k) v:=by
 have h:O6 k v=ag:=h;rcases cW h with ⟨i,t,rfl,rfl⟩|⟨x,t,rfl,rfl⟩
 .exact⟨t,rfl⟩
 .exact⟨t,rfl⟩
section
variable {a:am}
def aF5(I:Inv X Ψ σ H s)(e:H a=aa (.frz o u))(hn:∀o u,X.H₀ a≠aa (.frz o u)):Inv X Ψ σ (upd H a u) s:=by
 have ne:∀b,H b=ai->b≠a:=λb h z=>by subst z;rw[e] at h;cases h
 have keepT:∀b xs,H b=aa (.tup xs)->upd H a u b=aa (.tup xs):=λb xs h=>by
  rw[aM (λz=>by subst z;rw[e] at h;cases h)];exact h
 have keepO:∀b x,H b=aa (.own x)->upd H a u b=aa (.own x):=λb x h=>by
  rw[aM (λz=>by subst z;rw[e] at h;cases h)];exact h
 refine⟨I.ok,I.os,I.bare,⟨I.base.keep,I.base.slot,λb o h1 h2 h3=>?_,I.base.there,λb xs h=>?_,λb o' u' h=>?_,λb ps h=>?_⟩,I.loc,I.cell,?_,λx c h=>?_,λp hp=>?_,λb ob h=>?_,I.len⟩
 .have:=I.base.free b o h1 h2 h3;rw[aM (ne b this)];exact this
 .exact keepT b xs (I.base.tups b xs h)
 .have:=I.base.frzs b o' u' h;rw[aM (λz=>by subst z;exact hn _ _ h)];exact this
 .obtain⟨more,h1⟩:=I.base.tbls b ps h;refine⟨more,?_⟩;rw[aM (λz=>by subst z;rw[e] at h1;cases h1)];exact h1
 .rw[aM (ne _ I.free)];exact I.free
 .have:=I.freeC x c h;rw[aM (ne _ this)];exact this
 .obtain⟨h1,h2,h3⟩:=I.pin p hp;exact⟨h1,by rw[aM (ne _ h2)];exact h2,h3⟩
 .by_cases hb:b=a
  .subst hb;rw[aF] at h;cases h;obtain⟨_,h2⟩:=I.hok b _ e;exact h2.stay (λ_ _ _ q=>q) (λc hc=>keepO c b hc) keepT
  .rw[aM hb] at h;exact(I.hok b _ h).stay (λ_ _ _ q=>q) (λc hc=>keepO c b hc) keepT
end
end Mi
namespace Wz
open PySem PySem.Spec
noncomputable abbrev itO(t:am)(i:ah):bc:={cls:=.type "tuple_iterator",data:=.fields #[.ref t,.int i 0]}
noncomputable abbrev tuO(xs:aI al)(n:ah)(dd:au am)(sl:aI (au al)):bc:={cls:=.type "tuple",dict:=dd,data:=.seq xs n,slots:=sl}
abbrev zpO(f0 f1:al)(TI TO:am):bc:={cls:=.type "zip",data:=.fields #[f0,f1,.bool aj,.ref TI,.ref TO]}
noncomputable abbrev prO(a b:al):bc:={cls:=.type "tuple",data:=.seq #[a,b]}
def X_(it t:am)(i:ah)(xs:aI al)(n:ah)(dd:au am)(sl:aI (au al))(x:al)(hx:xs[i]?=aa x) :
  hX (dh.«tuple_iterator.__next__» ⟨[.ref it],[]⟩) (λ_ R s=>s.heap.get? it=aa (itO t i)/\s.heap.get? t=aa (tuO xs n dd sl)/\R (.ok (.ret x)) {s with heap:=s.heap.update it (mq (·.setIfInBounds 1 (b9 (i+1))))}):=.of_wp λprog w A R s hs=>by
 obtain⟨hp,g,d,tk,os⟩:=s;obtain⟨e1,e2,hq⟩:=hs
 wp_walk
 rw[mr,hx]
 wp_walk
 exact⟨_,rfl,hq⟩
def YB(it t:am)(i:ah)(xs:aI al)(n:ah)(dd:au am)(sl:aI (au al))(hx:xs[i]?=ai) :
  hX (dh.«tuple_iterator.__next__» ⟨[.ref it],[]⟩) (λA R s=>A.handled=ai/\s.heap.get? it=aa (itO t i)/\s.heap.get? t=aa (tuO xs n dd sl)/\∀h' e,oz it s.heap h'->(∃o,h'.get? e=aa o/\o.cls=.type "StopIteration")->R (.error (.ref e)) {s with heap:=h'}):=.of_wp λprog w A R s hs=>by
 obtain⟨hp,g,d,tk,os⟩:=s;obtain⟨hh,e1,e2,hq⟩:=hs
 wp_walk
 rw[mr,hx]
 wp_walk
 have hh1:A.in1.handled=ai:=hh;unfold raiseNew
 wp_walk
 exact hq _ _ (((mv ..).extBut.push _).push _) ⟨_,cu _ rfl,rfl⟩
section
variable {prog:bu} {w:bn} {A:bP} {E:al->ar->Prop} {s:ar} {it t:am} {i:ah} {xs:aI al} {x:al} {n:ah} {dd:au am} {sl:aI (au al)}
def drawn{Q:al->ar->Prop}(e1:s.heap.get? it=aa (itO t i))(e2:s.heap.get? t=aa (tuO xs n dd sl))(hx:xs[i]?=aa x)
 (q:∀h',h'.get? it=aa (itO t (i+1))->di it s.heap h'->Q x {s with heap:=h'}):ϑ (ay prog w) A (gr (.ref it)) Q E s:=by
 have ty:s.TypeIs (.ref it) "tuple_iterator":=⟨_,e1,rfl⟩
 refine ao (ik ty vT ?_);refine gm vT ty Cg (Ci _) (X_ it t i xs n dd sl x hx) ⟨e1,e2,az (q _ ?_ (mv ..))⟩;exact jw _ e1 rfl
def over{Q:al->ar->Prop}(hh:A.handled=ai)(e1:s.heap.get? it=aa (itO t i))(e2:s.heap.get? t=aa (tuO xs n dd sl))(hx:xs[i]?=ai)
 (q:∀h' e,oz it s.heap h'->(∃o,h'.get? e=aa o/\o.cls=.type "StopIteration")->E (.ref e) {s with heap:=h'}):ϑ (ay prog w) A (gr (.ref it)) Q E s:=by
 have ty:s.TypeIs (.ref it) "tuple_iterator":=⟨_,e1,rfl⟩
 refine ao (ik ty vT ?_);exact gm vT ty Cg (Ci _) (YB it t i xs n dd sl hx) ⟨hh,e1,e2,λh' e k o=>q h' e k o⟩
end
structure Apart(z TI TO i1 i2 l1 l2:am):Prop where
 zTI:z≠TI
 zTO:z≠TO
 z1:z≠i1
 z2:z≠i2
 zl:z≠l1
 zm:z≠l2
 TT:TI≠TO
 T1:TI≠i1
 T2:TI≠i2
 O1:TO≠i1
 O2:TO≠i2
 Ol:TO≠l1
 Om:TO≠l2
 ij:i1≠i2
 il:i1≠l1
 im:i1≠l2
 jl:i2≠l1
 jm:i2≠l2
structure W(z TI TO i1 i2 l1 l2:am)(o1 o2:bc)(f0 f1 a b:al)(k1 k2:ah)(h:aE):Prop where
 z_:h.get? z=aa (zpO f0 f1 TI TO)
 ti:h.get? TI=aa (prO (.ref i1) (.ref i2))
 to:h.get? TO=aa (prO a b)
 j1:h.get? i1=aa (itO l1 k1)
 j2:h.get? i2=aa (itO l2 k2)
 t1:h.get? l1=aa o1
 t2:h.get? l2=aa o2
section
variable {z TI TO i1 i2 l1 l2:am} {o1 o2:bc} {f0 f1 g0 g1 a b c d:al} {k1 k2:ah} {h h':aE}
def W.onZ(x:W z TI TO i1 i2 l1 l2 o1 o2 f0 f1 a b k1 k2 h)(ap:Apart z TI TO i1 i2 l1 l2)(e:h'.get? z=aa (zpO g0 g1 TI TO))(k:di z h h'):W z TI TO i1 i2 l1 l2 o1 o2 g0 g1 a b k1 k2 h':=
 ⟨e,(k.2 _ ap.zTI.symm).trans x.ti,(k.2 _ ap.zTO.symm).trans x.to,(k.2 _ ap.z1.symm).trans x.j1,(k.2 _ ap.z2.symm).trans x.j2,(k.2 _ ap.zl.symm).trans x.t1,(k.2 _ ap.zm.symm).trans x.t2⟩
def W.onT(x:W z TI TO i1 i2 l1 l2 o1 o2 f0 f1 a b k1 k2 h)(ap:Apart z TI TO i1 i2 l1 l2)(e:h'.get? TO=aa (prO c d))(k:di TO h h'):W z TI TO i1 i2 l1 l2 o1 o2 f0 f1 c d k1 k2 h':=
 ⟨(k.2 _ ap.zTO).trans x.z_,(k.2 _ ap.TT).trans x.ti,e,(k.2 _ ap.O1.symm).trans x.j1,(k.2 _ ap.O2.symm).trans x.j2,(k.2 _ ap.Ol.symm).trans x.t1,(k.2 _ ap.Om.symm).trans x.t2⟩
def W.on1{k:ah}(x:W z TI TO i1 i2 l1 l2 o1 o2 f0 f1 a b k1 k2 h)(ap:Apart z TI TO i1 i2 l1 l2)(e:h'.get? i1=aa (itO l1 k))(s:di i1 h h'):W z TI TO i1 i2 l1 l2 o1 o2 f0 f1 a b k k2 h':=
 ⟨(s.2 _ ap.z1).trans x.z_,(s.2 _ ap.T1).trans x.ti,(s.2 _ ap.O1).trans x.to,e,(s.2 _ ap.ij.symm).trans x.j2,(s.2 _ ap.il.symm).trans x.t1,(s.2 _ ap.im.symm).trans x.t2⟩
def W.on2{k:ah}(x:W z TI TO i1 i2 l1 l2 o1 o2 f0 f1 a b k1 k2 h)(ap:Apart z TI TO i1 i2 l1 l2)(e:h'.get? i2=aa (itO l2 k))(s:di i2 h h'):W z TI TO i1 i2 l1 l2 o1 o2 f0 f1 a b k1 k h':=
 ⟨(s.2 _ ap.z2).trans x.z_,(s.2 _ ap.T2).trans x.ti,(s.2 _ ap.O2).trans x.to,(s.2 _ ap.ij).trans x.j1,e,(s.2 _ ap.jl.symm).trans x.t1,(s.2 _ ap.jm.symm).trans x.t2⟩
def W.up(x:W z TI TO i1 i2 l1 l2 o1 o2 f0 f1 a b k1 k2 h)(k:∀c o,c=z\/c=TI\/c=TO\/c=i1\/c=i2\/c=l1\/c=l2->h.get? c=aa o->h'.get? c=aa o):W z TI TO i1 i2 l1 l2 o1 o2 f0 f1 a b k1 k2 h':=
 ⟨k _ _ 0x2 x.z_,k _ _ 0x2 x.ti,k _ _ 0x2 x.to,k _ _ 0x2 x.j1,k _ _ 0x2 x.j2,k _ _ 0x2 x.t1,k _ _ 0x2 x.t2⟩
end
def JR(z TO i1 i2:am)(h h':aE):Prop:=∀c o,c≠z->c≠TO->c≠i1->c≠i2->h.get? c=aa o->h'.get? c=aa o
section
variable {s:ar} {z TI TO i1 i2 l1 l2:am} {f0 f1 a b:al}
def W.ty{o1 o2:bc}{k1 k2:ah}(hw:W z TI TO i1 i2 l1 l2 o1 o2 f0 f1 a b k1 k2 s.heap):s.TypeIs (.ref z) "zip":=⟨_,hw.z_,rfl⟩
end
noncomputable abbrev nxt(z:am):gy oB:=dh.«zip.__next__» ⟨[.ref z],[]⟩
abbrev Got(Q:al->ar->Prop):oB->ar->Prop:=λr t=>∃v,r=.done (.ret v)/\Q v t
section
def there(e:s.heap.get? c=aa o)(q:Q (aa o) s):ϑ (ay prog w) A (loadIfAlive c) Q E s:=λΓ p _=>by
 show Sem.wp _ Γ (.loadIfAlive c pure) _ _ p s;rw[Sem.wp_loadIfAlive,e];exact q
def keptAt(j:ah)(v c d:al)(hw:W z TI TO i1 i2 l1 l2 o1 o2 f0 f1 a b k1 k2 s.heap)(ap:Apart z TI TO i1 i2 l1 l2)(hj:(#[a,b]:aI al).setIfInBounds j v=#[c,d])
 (q:∀h',W z TI TO i1 i2 l1 l2 o1 o2 f0 f1 c d k1 k2 h'->di TO s.heap h'->Q () {s with heap:=h'}):ϑ (ay prog w) A (oI TO (·.setIfInBounds j v)) Q E s:=
 Cj hw.to λh' e sb=>q h' (hw.onT ap (by rw[e,hj]) sb) sb
def first(ap:Apart z TI TO i1 i2 l1 l2)(hw:W z TI TO i1 i2 l1 l2 (tuO xs n1 d1 s1) (tuO ys n2 d2 s2) .none (.bool aj) a b k k s.heap)(hx:xs[k]?=aa x)(hy:ys[k]?=aa y)
 (q:∀(h':aE) (p:am),W z TI TO i1 i2 l1 l2 (tuO xs n1 d1 s1) (tuO ys n2 d2 s2) (b9 p) (.bool aj) x y (k+1) (k+1) h'->h'.get? p=aa (prO x y)->p=s.heap.objs.size->JR z TO i1 i2 s.heap h'->Q (.ref p) {s with heap:=h'}) :
  ϑ (ay prog w) A (nxt z) (Got Q) E s:=by
 refine ao (m:=jx (.ref z) 2) (ck hw.z_ rfl rfl (ao (ck hw.z_ rfl rfl (ao (eu hw.ti rfl ?_)))));refine ao (ao (ck hw.z_ rfl (x:=.none) rfl (az ?_)));rw[aq rfl];refine ao (hZ (ao (ck hw.z_ rfl (x:=.ref TO) rfl (ao (gS hw.z_ 0x2 λh1 e1 k1=>?_)))));have w1:W z TI TO i1 i2 l1 l2 (tuO xs n1 d1 s1) (tuO ys n2 d2 s2) .ellipsis (.bool aj) a b k k h1:=hw.onZ ap e1 k1;simp only[mw,v8,jb,gp];refine ao (ao (ao (my (ao (m:=gr (.ref i1)) (drawn w1.j1 w1.t1 hx λh2 e2 k2=>az ?_)))));have w2:=w1.on1 ap e2 k2;refine ao (eu w2.to rfl (ao (keptAt 0 x x b w2 ap rfl λh3 w3 k3=>ao (oP (az ?_)))));refine ao (ao (my (ao (m:=gr (.ref i2)) (drawn w3.j2 w3.t2 hy λh4 e4 k4=>az ?_))));have w4:=w3.on2 ap e4 k4;refine ao (eu w4.to rfl (ao (keptAt 1 y x y w4 ap rfl λh5 w5 k5=>ao (oP (az (az ?_))))));have sd:JR z TO i1 i2 s.heap h5:=λc o c1 c2 c3 c4 e=>(k5.2 c c2).trans ((k4.2 c c4).trans ((k3.2 c c2).trans ((k2.2 c c3).trans ((k1.2 c c1).trans e))))
 have sz:h5.objs.size=s.heap.objs.size:=by rw[k5.1,k4.1,k3.1,k2.1,k1.1]
 refine ao (eu w5.to rfl (ao (v9 ?_)));have w6:W z TI TO i1 i2 l1 l2 (tuO xs n1 d1 s1) (tuO ys n2 d2 s2) .ellipsis (.bool aj) x y (k+1) (k+1) (h5.push (prO x y)):=w5.up λc o _ e=>bS _ e
 refine ao (m:=Ck (.ref z) (.ref h5.objs.size)) (ao (gS w6.z_ 0x2 λh7 e7 k7=>?_));have w7:W z TI TO i1 i2 l1 l2 (tuO xs n1 d1 s1) (tuO ys n2 d2 s2) (b9 h5.objs.size) (.bool aj) x y (k+1) (k+1) h7:=w6.onZ ap e7 k7;refine gS w7.z_ 0x2 λh8 e8 k8=>az ⟨_,rfl,?_⟩
 have w8:W z TI TO i1 i2 l1 l2 (tuO xs n1 d1 s1) (tuO ys n2 d2 s2) (b9 h5.objs.size) (.bool aj) x y (k+1) (k+1) h8:=w7.onZ ap e8 k8;have nz:h5.objs.size≠z:=fA (bw w5.z_);exact q h8 _ w8 ((k8.2 _ nz).trans ((k7.2 _ nz).trans (cu _ rfl))) sz λc o c1 c2 c3 c4 e=>(k8.2 c c1).trans ((k7.2 c c1).trans (bS _ (sd c o c1 c2 c3 c4 e)))
def G3(hh:A.handled=ai)(ap:Apart z TI TO i1 i2 l1 l2)(hw:W z TI TO i1 i2 l1 l2 (tuO xs n1 d1 s1) (tuO ys n2 d2 s2) .none (.bool aj) a b k k s.heap)(hx:xs[k]?=ai)
 (q:∀h' e,JR z TO i1 i2 s.heap h'->(∃o,h'.get? e=aa o/\o.cls=.type "StopIteration")->E (.ref e) {s with heap:=h'}) :
  ϑ (ay prog w) A (nxt z) Q E s:=by
 refine ao (m:=jx (.ref z) 2) (ck hw.z_ rfl rfl (ao (ck hw.z_ rfl rfl (ao (eu hw.ti rfl ?_)))));refine ao (m:=mz (.ref z)) (ao (ck hw.z_ rfl (x:=.none) rfl (az ?_)));rw[aq rfl];refine ao (hZ (ao (ck hw.z_ rfl (x:=.ref TO) rfl (ao (gS hw.z_ 0x2 λh1 e1 k1=>?_)))));have w1:W z TI TO i1 i2 l1 l2 (tuO xs n1 d1 s1) (tuO ys n2 d2 s2) .ellipsis (.bool aj) a b k k h1:=hw.onZ ap e1 k1;simp only[mw,v8,jb,gp];refine ao (ao (ao (my (ao (m:=gr (.ref i1)) (over hh w1.j1 w1.t1 hx λh2 e k2 he=>?_)))));obtain⟨oe,he,hc⟩:=he;have ez:h2.get? z=aa (zpO .ellipsis (.bool aj) TI TO):=k2 _ _ ap.z1 w1.z_;have hez:e≠z:=λv=>by
  rw[v,ez] at he;cases he;exact aS (show eT "zip"=eT "StopIteration" from hc) 0x4
 exact gS ez 0x2 λh3 _ k3=>q h3 e (λc o c1 _ c3 _ v=>(k3.2 c c1).trans (k2 c o c3 ((k1.2 c c1).trans v))) ⟨oe,(k3.2 e hez).trans he,hc⟩
def taken{T:am}(ap:Apart z TI TO i1 i2 l1 l2)(hw:W z TI TO i1 i2 l1 l2 o1 o2 (b9 T) (.bool bb) a b k1 k2 s.heap)(hT:s.heap.get? T=aa oT)
 (q:∀h',W z TI TO i1 i2 l1 l2 o1 o2 (b9 T) (.bool ag) a b k1 k2 h'->di z s.heap h'->Q aj {s with heap:=h'}):ϑ (ay prog w) A (mz (.ref z)) Q E s:=by
 refine ao (ck hw.z_ rfl rfl (ao (there hT ?_)));refine ao (ck hw.z_ rfl rfl ?_);cases bb
 .exact ao (gS hw.z_ 0x2 λh1 e1 k1=>az (q h1 (hw.onZ ap e1 k1) k1))
 .exact az (q _ hw (zh _ _))
def more{T:am}{bb:aw}{oT:bc}{Q:al->ar->Prop}(ap:Apart z TI TO i1 i2 l1 l2)(hw:W z TI TO i1 i2 l1 l2 (tuO xs n1 d1 s1) (tuO ys n2 d2 s2) (b9 T) (.bool bb) a b k k s.heap)(hT:s.heap.get? T=aa oT)(hx:xs[k]?=aa x)(hy:ys[k]?=aa y)
 (q:∀h' p,W z TI TO i1 i2 l1 l2 (tuO xs n1 d1 s1) (tuO ys n2 d2 s2) (b9 T) (.bool ag) a b (k+1) (k+1) h'->h'.get? p=aa (prO x y)->JR z TO i1 i2 s.heap h'->Q (.ref p) {s with heap:=h'}) :
  ϑ (ay prog w) A (nxt z) (Got Q) E s:=by
 refine ao (m:=jx (.ref z) 2) (ck hw.z_ rfl rfl (ao (ck hw.z_ rfl rfl (ao (eu hw.ti rfl ?_)))));refine ao (m:=mz (.ref z)) (taken ap hw hT λh1 w1 k1=>?_);rw[ax fz];dsimp only;rw[<-wa];simp only[jb,gp];refine ao (ao (ao (dE (ao (m:=gr (.ref i1)) (drawn w1.j1 w1.t1 hx λh2 e2 k2=>az (az ?_))))));have w2:=w1.on1 ap e2 k2;refine ao (ao (dE (ao (m:=gr (.ref i2)) (drawn w2.j2 w2.t2 hy λh3 e3 k3=>az (az (az ?_))))));have w3:=w2.on2 ap e3 k3;refine ao (v9 (az ⟨_,rfl,?_⟩) (hsz:=by show(2:ah)<=bd;decide));exact q _ _ (w3.up λc o _ e=>bS _ e) (cu _ rfl) λc o c1 c2 c3 c4 e=>bS _ ((k3.2 c c4).trans ((k2.2 c c3).trans ((k1.2 c c1).trans e)))
def Q4{T:am}{bb:aw}{oT:bc}{Q:Fin->ar->Prop}(hh:A.handled=ai)(ap:Apart z TI TO i1 i2 l1 l2)(hw:W z TI TO i1 i2 l1 l2 (tuO xs n1 d1 s1) (tuO ys n2 d2 s2) (b9 T) (.bool bb) a b k k s.heap)(hT:s.heap.get? T=aa oT)(hx:xs[k]?=ai)
 (q:∀h' e,JR z TO i1 i2 s.heap h'->(∃o,h'.get? e=aa o/\o.cls=.type "StopIteration")->E (.ref e) {s with heap:=h'}) :
  ϑ (ay prog w) A (nxt z) Q E s:=by
 refine ao (m:=jx (.ref z) 2) (ck hw.z_ rfl rfl (ao (ck hw.z_ rfl rfl (ao (eu hw.ti rfl ?_)))));refine ao (taken ap hw hT λh1 w1 k1=>?_);rw[ax fz];dsimp only;rw[<-wa];simp only[jb,gp];exact ao (ao (ao (dE (ao (over hh w1.j1 w1.t1 hx λh2 e k2 he=>q h2 e (λc o c1 _ c3 _ v=>k2 c o c3 ((k1.2 c c1).trans v)) he)))))
end
def five(h:aE)(a b c d e:bc)(fa:a.isFreed=aj)(fb:b.isFreed=aj)(fc:c.isFreed=aj)(fd:d.isFreed=aj)(fe:e.isFreed=aj) :
  (((((h.push a).push b).push c).push d).push e).get? h.objs.size=aa a/\(((((h.push a).push b).push c).push d).push e).get? (h.objs.size+1)=aa b/\(((((h.push a).push b).push c).push d).push e).get? (h.objs.size+2)=aa c/\(((((h.push a).push b).push c).push d).push e).get? (h.objs.size+3)=aa d/\(((((h.push a).push b).push c).push d).push e).get? (h.objs.size+4)=aa e/\
  (∀x o,h.get? x=aa o->(((((h.push a).push b).push c).push d).push e).get? x=aa o)/\(((((h.push a).push b).push c).push d).push e).objs.size=h.objs.size+5:=by
 have z1:(h.push a).objs.size=h.objs.size+1:=cK ..;have z2:((h.push a).push b).objs.size=h.objs.size+2:=(cK ..).trans (by rw[z1]);have z3:(((h.push a).push b).push c).objs.size=h.objs.size+3:=(cK ..).trans (by rw[z2]);have z4:((((h.push a).push b).push c).push d).objs.size=h.objs.size+4:=(cK ..).trans (by rw[z3]);have up:∀{h:aE}{x:am}{o q:bc},h.get? x=aa o->(h.push q).get? x=aa o:=λe=>bS _ e
 have g2:=cu (h.push a) (o:=b) fb;have g3:=cu ((h.push a).push b) (o:=c) fc;have g4:=cu (((h.push a).push b).push c) (o:=d) fd;have g5:=cu ((((h.push a).push b).push c).push d) (o:=e) fe;rw[z1] at g2;rw[z2] at g3;rw[z3] at g4;rw[z4] at g5;exact⟨up (up (up (up (cu h fa)))),up (up (up g2)),up (up g3),up g4,g5,λx o q=>up (up (up (up (up q)))),(cK ..).trans (by rw[z4])⟩
def yM(t u:am)(xs ys:aI al) :
  hX (dh.«zip.__new__» ⟨[.type "zip",.ref t,.ref u],[]⟩) (λ_ R s=>s.heap.IsTuple t xs/\s.heap.IsTuple u ys/\∀h' n,n=s.heap.objs.size->h'.get? n=aa (itO t 0)->h'.get? (n+1)=aa (itO u 0)->h'.get? (n+2)=aa (prO (.ref n) (.ref (n+1)))->h'.get? (n+3)=aa (prO .none .none)->h'.get? (n+4)=aa (zpO .none (.bool aj) (n+2) (n+3))->
   (∀x o,s.heap.get? x=aa o->h'.get? x=aa o)->h'.objs.size=n+5->R (.ok (.ret (.ref (n+4)))) {s with heap:=h'}):=
 .of_wp λprog w A R s hs=>by
  obtain⟨hp,g,d,tk,os⟩:=s;obtain⟨ht,hu,q⟩:=hs;have sub:=sub_zip;have p1:zi (oQ ⟨hp,g,d,tk,os⟩) t xs:=ht;have p2:zi (oQ ⟨hp.push {cls:=.type "tuple_iterator",data:=.fields #[.ref t,.int 0 0]},g,d,tk,os⟩) u ys:=DO hu _;have f:=five hp (itO t 0) (itO u 0) (prO (.ref hp.objs.size) (.ref (hp.objs.size+1))) (prO .none .none) (zpO .none (.bool aj) (hp.objs.size+2) (hp.objs.size+3)) rfl rfl rfl rfl rfl
  wp_walk using oq p1,oq p2
  refine⟨_,rfl,?_⟩;have fin:=q _ hp.objs.size rfl f.1 f.2.1 f.2.2.1 f.2.2.2.1 f.2.2.2.2.1 f.2.2.2.2.2.1 f.2.2.2.2.2.2;have gen:∀m1 m2 m3 m4:ah,m1=hp.objs.size+1->m2=hp.objs.size+2->m3=hp.objs.size+3->m4=hp.objs.size+4->R (.ok (.ret (.ref m4))) ⟨((((hp.push (itO t 0)).push (itO u 0)).push (prO (.ref hp.objs.size) (.ref m1))).push (prO .none .none)).push (zpO .none (.bool aj) m2 m3),g,d,tk,os⟩:=by
   intro m1 m2 m3 m4 q1 q2 q3 q4;subst q1 q2 q3 q4;exact fin
  exact gen _ _ _ _ (cK ..) ((cK ..).trans (c5 (·+1) (cK ..))) ((cK ..).trans (c5 (·+1) ((cK ..).trans (c5 (·+1) (cK ..))))) ((cK ..).trans (c5 (·+1) ((cK ..).trans (c5 (·+1) ((cK ..).trans (c5 (·+1) (cK ..)))))))
section
variable {prog:bu} {w:bn} {A:bP} {E:al->ar->Prop} {s:ar}
def aB7{t u:am}{xs ys:aI al}{Q:al->ar->Prop}(ht:s.heap.IsTuple t xs)(hu:s.heap.IsTuple u ys)
 (q:∀h' n,n=s.heap.objs.size->h'.get? n=aa (itO t 0)->h'.get? (n+1)=aa (itO u 0)->h'.get? (n+2)=aa (prO (.ref n) (.ref (n+1)))->h'.get? (n+3)=aa (prO .none .none)->h'.get? (n+4)=aa (zpO .none (.bool aj) (n+2) (n+3))->
   (∀x o,s.heap.get? x=aa o->h'.get? x=aa o)->h'.objs.size=n+5->Q (.ref (n+4)) {s with heap:=h'}) :
  ϑ (ay prog w) A (call (.type "zip") [.ref t,.ref u]) Q E s:=
 zj Cm 0x4 (Co _ _) (Cp _ _) (λobj=>Cq obj _ _) Cr (yM t u xs ys)
  ⟨ht,hu,λh' n e a1 a2 a3 a4 a5 k z=>⟨⟨_,a5,rfl⟩,q h' n e a1 a2 a3 a4 a5 k z⟩⟩
end
def KY:i8 (.type "zip") "keys"=pure ai:=by rw[gV,g6];kernel_rfl
def noGet:i8 (.type "zip") "__getattr__"=pure ai:=by rw[gV,g6];kernel_rfl
def KZ:lh li "zip.__getattribute__"=aa dh.«object.__getattribute__»:=wb (id':= "object.__getattribute__") 0x8 0x6 0x6 0x8
def jD(a:am)(f0 f1:al)(TI TO:am)(u:cz):hX (dh.«object.__getattribute__» ⟨[.ref a,.str "keys" u],[]⟩) (λA R s=>s.heap.get? a=aa (zpO f0 f1 TI TO)/\zk (.ref a) "keys" A R s):=.of_wp λprog w A R s hs=>by
 obtain⟨hp,g,d,tk,os⟩:=s;obtain⟨e,hh,q⟩:=hs;have ty:(⟨hp,g,d,tk,os⟩:ar).TypeIs (.ref a) "zip":=⟨_,e,rfl⟩
 have no:=KY
 wp_walk
 exact zn hh q (zo 0x6 (by size_fits))
section
variable {prog:bu} {w:bn} {A:bP} {E:al->ar->Prop} {hp:aE} {g:aI jz} {d:jI} {tk:ah} {os:jS} {a TI TO:am} {f0 f1:al}
def gone{u:cz}{kw:ae (Str×al)}{Q:al->ar->Prop}(e:hp.get? a=aa (zpO f0 f1 TI TO))(hh:A.handled=ai)(hk:kw=[])(q:∀h' tk' x,zp hp h' x (.ref a) "keys"->E (.ref x) ⟨h',g,d,tk',os⟩) :
  ϑ (ay prog w) A (call (.builtin "zip.__getattribute__") ([.ref a]++[.str "keys" u]) kw) Q E ⟨hp,g,d,tk,os⟩:=by
 subst hk;exact gm zq ⟨_,e,rfl⟩ KZ (F.args_zip_getattribute_2 _ _) (jD a f0 f1 TI TO u) ⟨e,hh,λh' tk' x hx=>q h' tk' x hx⟩
def lacks{Q:au al->ar->Prop}(e:hp.get? a=aa (zpO f0 f1 TI TO))(hh:A.handled=ai)(q:∀h' tk',(∀b o,hp.get? b=aa o->h'.get? b=aa o)->Q ai ⟨h',g,d,tk',os⟩):ϑ (ay prog w) A (wc (.ref a) "keys") Q E ⟨hp,g,d,tk,os⟩:=by
 have ty:∀tk',(⟨hp,g,d,tk',os⟩:ar).TypeIs (.ref a) "zip":=λ_=>⟨_,e,rfl⟩
 have f3:=zq.lookup;have f4:=zq.bind (.ref a);have f5:=noGet;have sub:=zr
 wp_walk using gone e hh
 case hk=>rfl
 intro h' tk' x hx;obtain⟨t,u,ex⟩:=hx.there;show ϑ _ _ (zt _ _ _ _ _ _ _) _ _ _
 wp_walk
 exact q _ _ hx.keeps
end
def ZS(z TI TO i1 i2 l1 l2:am)(o1 o2:bc)(k:ah)(h:aE):Prop:=∃f0 f1 a b,W z TI TO i1 i2 l1 l2 o1 o2 f0 f1 a b k k h/\
 ((f0=.none/\f1=.bool aj)\/∃(T:am)(bb:aw)(u v:al),f0=b9 T/\f1=.bool bb/\h.get? T=aa (prO u v)/\T≠z/\T≠TO/\T≠i1/\T≠i2)
section
variable {prog:bu} {w:bn} {A:bP} {E:al->ar->Prop} {s:ar} {z TI TO i1 i2 l1 l2 d:am} {n1 n2:ah} {d1 d2:au am} {s1 s2:aI (au al)} {x y:al} {k:ah} {xs ys:aI al}
def apart{h:aE}{c d:am}{o od:bc}{T:fx}(e:h.get? c=aa o)(hc:o.cls=.type T)(ed:h.get? d=aa od)(hd:od.cls=.type "dict")(ne:(eT T==eT "dict")=aj):c≠d:=λq=>by
 subst q;rw[e] at ed;cases ed;rw[hc] at hd;rw[hd] at ne;simp at ne
def ZS.keep{h h':aE}{od:bc}(Z:ZS z TI TO i1 i2 l1 l2 (tuO xs n1 d1 s1) (tuO ys n2 d2 s2) k h)(ed:h.get? d=aa od)(hd:od.cls=.type "dict")(e:∀c o,c≠d->h.get? c=aa o->h'.get? c=aa o):ZS z TI TO i1 i2 l1 l2 (tuO xs n1 d1 s1) (tuO ys n2 d2 s2) k h':=by
 obtain⟨f0,f1,a,b,hw,hf⟩:=Z;refine⟨f0,f1,a,b,⟨e _ _ (apart hw.z_ rfl ed hd 0x4) hw.z_,e _ _ (apart hw.ti rfl ed hd 0x4) hw.ti,e _ _ (apart hw.to rfl ed hd 0x4) hw.to,e _ _ (apart hw.j1 rfl ed hd 0x4) hw.j1,e _ _ (apart hw.j2 rfl ed hd 0x4) hw.j2,e _ _ (apart hw.t1 rfl ed hd 0x4) hw.t1,e _ _ (apart hw.t2 rfl ed hd 0x4) hw.t2⟩,?_⟩;rcases hf with hf|⟨T,bb,u,v,h1,h2,h3,h4⟩
 .exact .inl hf
 .exact .inr ⟨T,bb,u,v,h1,h2,e _ _ (apart h3 rfl ed hd 0x4) h3,h4⟩
def Q5{Q:au al->ar->Prop}(ap:Apart z TI TO i1 i2 l1 l2)(Z:ZS z TI TO i1 i2 l1 l2 (tuO xs n1 d1 s1) (tuO ys n2 d2 s2) k s.heap)(hx:xs[k]?=aa x)(hy:ys[k]?=aa y)
 (q:∀h' p,ZS z TI TO i1 i2 l1 l2 (tuO xs n1 d1 s1) (tuO ys n2 d2 s2) (k+1) h'->h'.get? p=aa (prO x y)->JR z TO i1 i2 s.heap h'->Q (aa (.ref p)) {s with heap:=h'}):ϑ (ay prog w) A (ff (.ref z)) Q E s:=by
 obtain⟨f0,f1,a,b,hw,hf⟩:=Z;refine ao (j3 (ik hw.ty ka (i6 ka hw.ty we ?_ (wf _))));rcases hf with ⟨rfl,rfl⟩|⟨T,bb,u,v,rfl,rfl,hT,t1,t2,t3,t4⟩
 .refine first ap hw hx hy λh' p w' ep pp sd=>az (q h' p ⟨_,_,_,_,w',.inr ⟨p,aj,x,y,rfl,rfl,ep,?_⟩⟩ ep sd)
  subst pp;have lt:∀{c o},s.heap.get? c=aa o->s.heap.objs.size≠c:=λe=>fA (bw e)
  exact⟨lt hw.z_,lt hw.to,lt hw.j1,lt hw.j2⟩
 .exact more ap hw hT hx hy λh' p w' ep sd=>az (q h' p ⟨_,_,_,_,w',.inr ⟨T,ag,u,v,rfl,rfl,sd _ _ t1 t2 t3 t4 hT,t1,t2,t3,t4⟩⟩ ep sd)
def aB8{Q:au al->ar->Prop}(hh:A.handled=ai)(ap:Apart z TI TO i1 i2 l1 l2)(Z:ZS z TI TO i1 i2 l1 l2 (tuO xs n1 d1 s1) (tuO ys n2 d2 s2) k s.heap)(hx:xs[k]?=ai)
 (q:∀h',JR z TO i1 i2 s.heap h'->Q ai {s with heap:=h'}):ϑ (ay prog w) A (ff (.ref z)) Q E s:=by
 obtain⟨f0,f1,a,b,hw,hf⟩:=Z;refine ao (j3 (ik hw.ty ka (i6 ka hw.ty we ?_ (wf _))));have stop:∀h' e,JR z TO i1 i2 s.heap h'->(∃o,h'.get? e=aa o/\o.cls=.type "StopIteration")->ϑ (ay prog w) A (do if <- isInstance (.ref e) (.type "StopIteration") then pure ai else throw (.ref e)) Q E {s with heap:=h'}:=λh' e sd he=>ao (oS (T:= "StopIteration") (b:=ag) he zu (az (q h' sd)))
 rcases hf with ⟨rfl,rfl⟩|⟨T,bb,u,v,rfl,rfl,hT,_⟩
 .exact G3 hh ap hw hx λh' e sd he=>stop h' e sd he
 .exact Q4 hh ap hw hT hx λh' e sd he=>stop h' e sd he
end
def iC:lh li "dict.update.loop"=aa dh.«dict.update.loop»:=zv 0x8
section
variable {prog:bu} {w:bn} {K:Type} [dn K] {knd:KeyKind prog w K} {A:bP} {R:wg al Flow->ar->Prop} {z TI TO i1 i2 l1 l2 d:am} {n1 n2:ah} {d1 d2:au am} {s1 s2:aI (au al)} {xs ys:aI al} {ks:ae K}
theorem o_(hh:A.handled=ai)(ap:Apart z TI TO i1 i2 l1 l2)(hdz:d≠z)(hdT:d≠TO)(hd1:d≠i1)(hd2:d≠i2)(hsz:ys.size=xs.size)(hk:∀(i:ah) (x:al),xs[i]?=aa x->∃k,ks[i]?=aa k/\knd.is k x=ag) :
  ∀(m k:ah)(s:ar)(kvs:ae (K×al)),k+m=xs.size->kvs.length+m<=bd->ZS z TI TO i1 i2 l1 l2 (tuO xs n1 d1 s1) (tuO ys n2 d2 s2) k s.heap->s.heap.DictOf knd d kvs->
  (∀h' tk,h'.DictOf knd d (ir kvs ((ks.zip ys.toList).drop k))->(∀c o,c≠d->c≠z->c≠TO->c≠i1->c≠i2->s.heap.get? c=aa o->h'.get? c=aa o)->R (.ok (.ret .none)) {s with heap:=h',toks:=tk})->
  codeAny (ay prog w) A (.builtin "dict.update.loop" ⟨[.ref d,.ref z,b9 k,.none],[]⟩) R s:=by
 intro m;induction m with
 |zero=>
  intro k s kvs hkm hl Z hd q;refine jd iC ?_;rw[kb (show ke "dict.update.loop"=ag by decide +kernel) _];refine ao (m:=ff (.ref z)) (aB8 hh ap Z (oy 0x1) λh' kp=>?_);refine ao (m:=r_ d []) ?_;unfold r_;rw[gp];refine ao (az (az (az ?_)));have e:(ks.zip ys.toList).drop k=[]:=hV (by rw[se];have:ys.toList.length=ys.size:=ly;lia);rw[e] at q;obtain⟨o,es,ep,ho,r⟩:=hd;exact q _ s.toks ⟨o,es,ep,kp d o hdz hdT hd1 hd2 ho,r⟩ λc o _ c1 c2 c3 c4 e=>kp c o c1 c2 c3 c4 e
 |succ m ih=>
  intro k s kvs hkm hl Z hd q;have hlt:k<xs.size:=by lia
  have hlt2:k<ys.size:=by lia
  have hx:xs[k]?=aa xs[k]:=mi hlt;have hy:ys[k]?=aa ys[k]:=mi hlt2;obtain⟨key,hkey,his⟩:=hk k _ hx;refine jd iC ?_;rw[kb (show ke "dict.update.loop"=ag by decide +kernel) _];refine ao (m:=ff (.ref z)) (Q5 ap Z hx hy λh' p Z' hp kp=>?_);refine ao (dE (ao (wj ?_)));refine ao (io (T:= "tuple") ⟨_,hp,rfl⟩ ?_);rw[aq 0x4];refine ao (eu hp rfl (az ?_));show ϑ _ _ (ky [xs[k],ys[k]] (wm d xs[k] ys[k])) _ _ _;have hd':h'.DictOf knd d kvs:=let ⟨o,es,ep,ho,r⟩:=hd;⟨o,es,ep,kp d o hdz hdT hd1 hd2 ho,r⟩
  obtain⟨od,es,ep,ho,hc,_⟩:=id hd';refine dE (zw his hd' (λh2 hd2' sb=>?_) 0x1);refine az ⟨je _ 0x6,?_⟩;have ek:(b9 (k+1):al)=b9 ((k+1:ah):ak):=rfl;rw[ek];have hzip:(ks.zip ys.toList).drop k=(key,ys[k])::(ks.zip ys.toList).drop (k+1):=by
   have hlz:(ks.zip ys.toList)[k]?=aa (key,ys[k]):=by
    rw[Cs];exact⟨hkey,by rw[vc];exact hy⟩
   obtain⟨h1,h2⟩:=dq.mp hlz;rw[iz h1,h2]
  have ls:(gL kvs key ys[k]).length<=kvs.length+1:=by
   unfold gL;split
   .rw[br];lia
   .rw[b6];exact bo _
  refine ih (k+1) _ (gL kvs key ys[k]) 0x1 0x1 (Z'.keep ho hc.1 λc o hcd e=>(sb.2 c hcd).trans e) hd2' λh3 tk hd3 kp3=>?_
  refine q h3 tk (by rw[hzip];exact hd3) λc o c0 c1 c2 c3 c4 e=>kp3 c o c0 c1 c2 c3 c4 ((sb.2 c c0).trans (kp c o c1 c2 c3 c4 e))
end
section
variable {prog:bu} {w:bn} {K:Type} [dn K] {knd:KeyKind prog w K} {A:bP} {E:al->ar->Prop} {hp:aE} {g:aI jz} {dr:jI} {tk:ah} {os:jS} {z TI TO i1 i2 l1 l2:am} {n1 n2:ah} {d1 d2:au am} {s1 s2:aI (au al)} {xs ys:aI al} {ks:ae K}
def G4{Q:al->ar->Prop}(hh:A.handled=ai)(ap:Apart z TI TO i1 i2 l1 l2){a b:al}(hw:W z TI TO i1 i2 l1 l2 (tuO xs n1 d1 s1) (tuO ys n2 d2 s2) .none (.bool aj) a b 0 0 hp)(hsz:ys.size=xs.size)(hxs:xs.size<=1000)(hk:∀(i:ah) (x:al),xs[i]?=aa x->∃k,ks[i]?=aa k/\knd.is k x=ag)
 (q:∀h' tk',h'.DictOf knd hp.objs.size (ir [] (ks.zip ys.toList))->JR z TO i1 i2 hp h'->Q (.ref hp.objs.size) ⟨h',g,dr,tk',os⟩) :
  ϑ (ay prog w) A (call (.type "dict") [.ref z]) Q E ⟨hp,g,dr,tk,os⟩:=by
 have hnew:(hp.push {cls:=.type "dict",data:=.dict #[]}).DictOf knd hp.objs.size []:=vg hp;have up:∀c o,hp.get? c=aa o->(hp.push {cls:=.type "dict",data:=.dict #[]}).get? c=aa o:=λc o e=>bS _ e
 have lt:∀{c o},hp.get? c=aa o->hp.objs.size≠c:=λe=>fA (bw e)
 refine sg (Q₁:=λv s₁=>v=.ref hp.objs.size/\s₁=⟨hp.push {cls:=.type "dict",data:=.dict #[]},g,dr,tk,os⟩) wn (wo _) wq (wt _ ⟨rfl,rfl⟩) λv s₁ hv=>?_
 obtain⟨rfl,rfl⟩:=hv;have ty:(⟨hp.push {cls:=.type "dict",data:=.dict #[]},g,dr,tk,os⟩:ar).TypeIs (.ref hp.objs.size) "dict":=hnew.typeIs;have ez:=up _ _ hw.z_;have tz:(⟨hp.push {cls:=.type "dict",data:=.dict #[]},g,dr,tk,os⟩:ar).TypeIs (.ref z) "zip":=⟨_,ez,rfl⟩
 refine⟨ty,wu _ _,ao (m:=DS "__init__" _) (ao (wv ty (az ?_)))⟩;refine ao (m:=nN (.ref z)) (io tz ?_);rw[aq 0x4];refine ao (lacks ez hh λh' tk' kp=>?_);rw[aq (show(ai:au al).isNone=ag from rfl)];refine ao (hZ (ao (Ct (TI:=TI) (TO:=TO) (f0:=.none) (kp _ _ ez) (az ⟨je _ 0x6,?_⟩))));have hd':h'.DictOf knd hp.objs.size []:=let ⟨o,es,ep,ho,r⟩:=hnew;⟨o,es,ep,kp _ _ ho,r⟩
 refine o_ (A:=A.in1) (ks:=ks) (show A.in1.handled=ai from hh) ap (lt hw.z_) (lt hw.to) (lt hw.j1) (lt hw.j2) hsz hk xs.size 0 ⟨h',g,dr,tk',os⟩ [] 0x1 (by rw[iq,cy];lia) ⟨_,_,_,_,hw.up λc o _ e=>kp c o (up c o e),.inl ⟨rfl,rfl⟩⟩ hd' λh2 tk2 hd2 kp2=>?_
 exact⟨rfl,q h2 tk2 hd2 λc o c1 c2 c3 c4 e=>kp2 c o (λx=>lt e x.symm) c1 c2 c3 c4 (kp c o (up c o e))⟩
end
end Wz
namespace Mi
open PySem L2 PySem.SeqAt PySem.Spec PyProof.Rows
section
variable [KFrag]
def boot_zip:eJ "zip"=aa (.type "zip"):=0x6
def wH:eJ "dict"=aa (.type "dict"):=0x6
def Q6{pr:bu}:∀{vs:ae V}{us:ae al}{ds:ae D},bJ P H vs ds->Vals vs us->ds.all dZ=ag->∃ks:ae Key,ks.map kD=ds/\ks.length=us.length/\∀(i:ah)(u:al),us[i]?=aa u->∃k,ks[i]?=aa k/\(b7 pr w).is k u=ag
 |_,_,_,.nil,.nil,_=>⟨[],rfl,rfl,λi u h=>by simp at h⟩
 |v::vs,u::us,d::ds,.cons r t,.cons rv tv,h=>by
  rw[hU,ba] at h;obtain⟨ks,h1,h2,h3⟩:=Q6 t tv h.2;obtain⟨k,hk1,hk2⟩:∃k:Key,kD k=d/\(b7 pr w).is k u=ag:=by
   cases r with
   |int i=>exact⟨.inl i,rfl,z7 rv⟩
   |str x=>exact⟨.inr x,rfl,z7 rv⟩
   |_=>cases h.1
  refine⟨k::ks,by rw[bh,hk1,h1],by rw[bz,bz,h2],λi u' hu=>?_⟩;cases i with
  |zero=>simp at hu;subst hu;exact⟨k,rfl,hk2⟩
  |succ i=>exact h3 i u' (by simpa using hu)
def G5(r:Rep P H v d):∀{kvs:ae (Key×V)}{ds:ae (D×D)},e_ P H kvs ds->(kvs.map (·.1)).Nodup->e_ P H (putK kvs k v) (putD ds (kD k) d)
 |_,_,.nil,_=>.cons r .nil
 |_,_,.cons (k:=k') r' t,hn=>by
  rw[bh,eg] at hn;rw[putD,J_];by_cases h:k'=k
  .rw[GF h (by rw[<-h];exact hn.1),aq (bj h),h];exact .cons r t
  .rw[GJ h,ax (by simpa using h)];exact .cons r' (G5 r t hn.2)
def G6:∀{ks:ae Key}{vs:ae V}{ds:ae D}{kvs:ae (Key×V)}{es:ae (D×D)},bJ P H vs ds->e_ P H kvs es->(kvs.map (·.1)).Nodup->e_ P H (cX kvs (ks.zip vs)) (gK (ks.map kD) ds es)/\((cX kvs (ks.zip vs)).map (·.1)).Nodup
 |[],_,_,_,_,_,r,n=>by
  rw[List.zip_nil_left];exact⟨by cases ‹ae D›<;>exact r,n⟩
 |k::ks,_,_,kvs,es,.nil,r,n=>⟨r,n⟩
 |k::ks,_,_,kvs,es,.cons rv tv,r,n=>G6 (ks:=ks) tv (G5 rv r n) (iB n)
def aHl(r:Vals vs us):∀ks:ae Key,KV (ks.zip vs) (ks.zip us):=by
 induction r with
 |nil=>intro ks;rw[Cu,Cu];exact .nil
 |cons h t ih=>
  intro ks;cases ks with
  |nil=>exact .nil
  |cons k ks=>exact .cons ⟨rfl,h⟩ (ih ks)
def K1{n l m:ah}(hl:l<n)(hm:m<n):Wz.Apart (n+4) (n+2) (n+3) n (n+1) l m:=by
 constructor<;>(intro h;replace h:@Eq ah _ _:=h;lia)
section
theorem aJx(hg:Gl X "dict")(hm:X.mg "dict"=ai)(hg2:Gl X "zip")(hm2:X.mg "zip"=ai)(ha:PA X [a,b] (gA fs rr))(hc:X.calm=ag:=by rfl)(hs2:cw [a,b] X.env=(aj,eval a X.env)::cw [b] X.env:=by rfl)(hpl2:(gw pos2 (cw [b] X.env)).any (·.1)=aj:=by rfl)
 (hs:cw [.Call (.Name "zip" p2) [a,b] [] pos2] X.env=(aj,eval (.Call (.Name "zip" p2) [a,b] [] pos2) X.env)::cw [] X.env:=by rfl) :
  PE X (.Call (.Name "dict" p) [.Call (.Name "zip" p2) [a,b] [] pos2] [] pos) (gE (aQ aB6 fs) ag):=by
 rintro Ψ s σ H Q I ⟨ρ,d,E,h,q⟩;obtain⟨xs,h1,h2⟩:=bA h;unfold aB6 at h2;split at h2
 .rename_i xs ys;split at h2
  .rename_i hb;cases h2;simp only[ba,c_] at hb;obtain⟨⟨⟨hb1,hb2⟩,hb3⟩,hb4⟩:=hb;refine fR (jP I hg hm wH ?_);refine hG ?_ hs rfl;rw[hs];show ϑ _ _ (jj ((aj,eval (.Call (.Name "zip" p2) [a,b] [] pos2) X.env)::gw pos (cw [] X.env))) _ _ s;refine kG ?_;refine fR (jP I hg2 hm2 boot_zip ?_);refine hG (thn (ha pos2 Ψ s σ H (λvs H1=>bK H H1/\bJ All H1 vs [.tup xs,.tup ys]) I ⟨ρ,_,E,h1,λvs H1 s1 r1 _=>⟨s1,r1⟩⟩) λus s1 ⟨vs,H1,I1,r1,sm,rp⟩=>?_) hs2 hpl2;cases rp with
   |cons rp1 rp=>
    cases rp with
    |cons rp2 rp=>
     cases rp;obtain⟨l1,vs1,rfl,e1,rr1⟩:=rp1.eO;obtain⟨l2,vs2,rfl,e2,rr2⟩:=rp2.eO;cases r1 with
     |cons q1 r1=>
      cases r1 with
      |cons q2 r1=>
       cases r1;cases q1;cases q2;obtain⟨its1,w1,p1,_⟩:=I1.tuple (.of e1);obtain⟨its2,w2,p2,_⟩:=I1.tuple (.of e2);have t1:s1.heap.IsTuple l1 its1.toArray:=p1;have t2:s1.heap.IsTuple l2 its2.toArray:=p2;obtain⟨⟨c1,dd1,da1,sl1⟩,g1,hc1,m1,hd1⟩:=id p1;obtain⟨⟨c2,dd2,da2,sl2⟩,g2,hc2,m2,hd2⟩:=id p2;simp only at hc1 hd1 hc2 hd2;subst hc1 hd1 hc2 hd2;have hl1:=bw g1;have hl2:=bw g2;refine Wz.aB7 t1 t2 λh' n hn z1 z2 z3 z4 z5 kp zsz=>?_
       subst hn;refine kA ?_;have n1:=w1.length;have n2:=w2.length;have m1:=rr1.length;have m2:=rr2.length;obtain⟨ks,k1,k2,k3⟩:=Q6 rr1 w1 hb3;refine Wz.G4 (I1.ok.hd hc) (K1 hl1 hl2) ⟨z5,z3,z4,z1,z2,kp _ _ g1,kp _ _ g2⟩ (by simp only[b5];lia) (by simp only[b5];lia) (λi u hu=>k3 i u (by simpa using hu)) λh2 tk dd kp2=>?_
       have hfr:H1 h'.objs.size=ai:=I1.hok.fresh (by rw[zsz];lia);have kall:∀c o,s1.heap.get? c=aa o->h2.get? c=aa o:=λc o e=>by
        have:=bw e;exact kp2 c o (cg (de this (kf _ 4))) (cg (de this (kf _ 3))) (cg this) (cg (de this (kf _ 1))) (kp c o e)
       have rel:KV (cX [] (ks.zip vs2)) (ir [] (ks.zip its2)):=(aHl w2 ks).merge .nil;have hz:(cX [] (ks.zip vs2)).length<=bd:=by
        have:=fU (ks.zip vs2) [];rw[iq,se] at this;rw[cy];lia
       obtain⟨rk,nd⟩:=G6 (rr2) e_.nil gq;rw[k1] at rk;have sp:bK H1 (upd H1 h'.objs.size (.dK (cX [] (ks.zip vs2)))):=bK.upd hfr;have pv:δ ((gK xs ys []).map (·.2))=ag:=by
        have go:∀(a b:ae D)(m:ae (D×D)),δ b=ag->δ (m.map (·.2))=ag->δ ((gK a b m).map (·.2))=ag:=by
         intro a;induction a with
         |nil=>intro b m _ hm;cases b<;>exact hm
         |cons x a ih=>
          intro b m hb hm;cases b with
          |nil=>exact hm
          |cons y b=>
           rw[δ,ba] at hb;refine ih b _ hb.2 ?_;have hp:=gW (ds:=m) (k:=x) hb.1 hm;exact hp
        exact go xs ys [] hb4 rfl
       have rk2:∀{P:am->Prop},e_ P (upd H1 h'.objs.size (.dK (cX [] (ks.zip vs2)))) (cX [] (ks.zip vs2)) (gK xs ys []):=λ{P}=>(rk.keep (.same sp) λ_ h=>h).bQ pv
       refine⟨.ref h'.objs.size,_,I1.laid (a:=h'.objs.size) (t':=tk) (o:=.dK (cX [] (ks.zip vs2))) kall (by rw[zsz];lia) (CG hz (fq.mpr ?_) rel (by simpa using dd)),rfl,?_⟩
       .exact Ne.symm (cg (de I1.big (by rw[zsz];exact kf _ 5)))
       .exact q _ _ (sm.trans sp) (.dK aF trivial rk2 nd) λ_=>.dK aF (sm.free hfr) rk2 nd
  .exact bx h2
 .exact bx h2
end
end
noncomputable def YC(i j:ah):FS:=λρ=>match ρ.getD i .uD with
 |.lst xs=>(match xs[xs.length-1]? with|some x=>.ok (.nx ((ρ.set i (.lst xs.dropLast)).set j x))|none=>.bad)
 |_=>.bad
def aJy(i:ah)(f:FE):FS:=λρ=>do
 let d <- f ρ
 match ρ.getD i .uD,d with
 |.lst xs,.lst ys=>if ϒ (xs.length+ys.length<=lim)&&δ ys then .ok (.nx (ρ.set i (.lst (xs++ys)))) else .bad
 |_,_=>.bad
variable [KFrag]
section
def aJz(ho:own i=ag)(hN:X.N[i]?=aa x)(hv:Vis X.env.scope x)(hnd:X.N.Nodup)(hj:X.N[j]?=aa y)(hy:Loc X.env.scope y)(hoj:own j=aj)(hd:nDb x:=by decide)(hcd:nCd x:=by decide)
 (hbase:gl (.Name x p1) "pop" X.env (eval (.Name x p1) X.env)=eval (.Name x p1) X.env:=by rfl)
 (hline:(apos.endLine==cpos.line)=ag:=by rfl)
 (hs:en (.Call (.Attribute (.Name x p1) "pop" apos) [] [] cpos) (aa (.Name y py)) pos.line X.env=pure aj:=by rfl)(hf:zFn X y:=by first|exact .inl rfl|exact .inr rfl|assumption) :
  PS X (.Assign [.Name y py] (.Call (.Attribute (.Name x p1) "pop" apos) [] [] cpos) pos) (tS own (YC i j)):=
 PS.imp (BV hnd hj hy (J4 iA n4 wx TX (a_ hN hv hd hcd) hbase hline) hs hf) λD' σ H z0=>by
 obtain⟨ρ,fl,E,h,q⟩:=z0;unfold YC at h;split at h
 .rename_i xs hx;split at h
  .rename_i dx hdx;cases h;obtain⟨a,o,hσ,r,hin,ha,hm⟩:=E.ownAt ho (by rw[hx];intro z;cases z);rw[hx] at r hin;obtain⟨vs,hl,rr⟩:=U4 r;obtain⟨v,hvx,rv⟩:=rr.get hdx;have hlen:=rr.length;refine⟨_,hσ,.inl ⟨rfl,vs,.of hl⟩,a,vs,v,rfl,rfl,hl,by rw[hlen];exact hvx,?_⟩;have hin':δ xs=ag:=hin;have pall:∀y∈xs,y.pure=ag:=λy hy=>cP.mp hin' y hy
   have pdx:dx.pure=ag:=pall dx (l6 hdx);have pe:δ xs.dropLast=ag:=cP.mpr λy hy=>pall y (zx _ hy)
   have er:bJ All H vs.dropLast xs.dropLast:=by
    rw[mB,mB,hlen];exact rr.take _
   obtain⟨E2,k2⟩:=E.mut ho hσ rfl (.lst aF trivial (er.upd pe hl rfl)) pe;have r1:=(bJ.cons rv .nil).upd (o:=.lst vs.dropLast) (by rw[δ,pdx];rfl) hl rfl;cases r1 with
   |cons r1 _=>
    have E3:=E2.set hoj (r1.bQ pdx);exact q _ _ (k2.trans λb ob eb nb=>⟨eb,by rw[lZ hoj];exact nb⟩) E3
  .exact bx h
 .exact bx h
def aHm(ho:own i=ag)(hN:X.N[i]?=aa x)(hv:Vis X.env.scope x)(he:PE X e (gE fe re))(hd:nDb x:=by decide)(hcd:nCd x:=by decide)
 (hbase:gl (.Name x p1) "extend" X.env (eval (.Name x p1) X.env)=eval (.Name x p1) X.env:=by rfl)
 (hs1:zSE X e []:=by rfl)
 (hfew:zFw X cpos [e]:=by rfl)
 (hline:(apos.endLine==cpos.line)=ag:=by rfl)
 (hs:en (.Call (.Attribute (.Name x p1) "extend" apos) [e] [] cpos) ai pos.line X.env=pure aj:=by rfl) :
  PS X (.Expr (.Call (.Attribute (.Name x p1) "extend" apos) [e] [] cpos) pos) (tS own (aJy i fe)):=
 PS.imp (iZ (PQ iA A8 PySem.F.type_list_extend aA9 (a_ hN hv hd hcd) (b8 he dY hs1) hbase hfew hline hs1 rfl) hs) λD' σ H z0=>by
 obtain⟨ρ,fl,E,h,q⟩:=z0;obtain⟨d,h1,h2⟩:=bA h;split at h2
 .rename_i xs ys hx;split at h2
  .rename_i hk;cases h2;rw[ba,c_] at hk;obtain⟨a,o,hσ,r,hin,ha,hm⟩:=E.ownAt ho (by rw[hx];intro z;cases z);rw[hx] at r hin;obtain⟨vs,hl,rr⟩:=U4 r;refine⟨_,hσ,.inl ⟨rfl,vs,.of hl⟩,ρ,_,E.er,h1,λv H' s rv _=>?_⟩;obtain⟨b,zs,rfl,hb,_,rz⟩:=rv.inv;have E':=E.same s;have hl':=s _ _ hl;refine⟨a,b,vs,zs,rfl,rfl,hl',hb,by rw[rr.length,rz.length];exact dg hk.1 (by rw[cy];decide),?_⟩;have hp:δ (xs++ys)=ag:=by rw[fX,ba];exact⟨hin,hk.2⟩
   obtain⟨E2,k2⟩:=E'.mut ho hσ rfl (.lst aF trivial (((rr.same s).append rz).upd hp hl' rfl)) hp;exact q _ _ ((KU.same s).trans k2) E2
  .exact bx h2
 .exact bx h2
end
end Mi
namespace Ws
open PySem PySem.Spec PySem.Builtin PySem.Builtin.Str
def YD(x y:Str)(t u:cz)(hy:(y.length==0)=aj)(hx:x.length<=bd)(hl:(Txt.split x y).length<=bd) :
  hX (dh.«str.split» ⟨[.str x t,.str y u],[]⟩) (λ_ R s=>∀l tk,l.map (·.1)=Txt.split x y->R (.ok (.ret (.ref s.heap.objs.size))) {s with heap:=s.heap.push {cls:=.type "list",data:=.seq (za l).toArray},toks:=tk}):=.of_wp λprog w A R s q=>by
 obtain⟨raising,e⟩:=split_sep_tree x y t u;rw[e];obtain⟨hp,g,d,tk,os⟩:=s;unfold Txt.split at q hl;by_cases h1:(ϒ (x.length<y.length)||ϒ (strKind x<strKind y))=ag
 .rw[aq h1] at q ⊢
  wp_walk
  exact⟨_,rfl,q [(x,t)] tk rfl⟩
 .rw[ax h1] at q hl ⊢;rw[ax (by rw[hy];exact fz)];by_cases h2:(occurrences x y 0 x.length (x.length+1)).isEmpty=ag
  .rw[aq h2] at q;rw[aq (by rw[h2];rfl)]
   wp_walk
   exact⟨_,rfl,q [(x,t)] tk rfl⟩
  .rw[ax h2] at q hl;rw[ax (by rw[ix];exact h2)];refine ao (wpAny_mapM_mkStr _ _ _ (λp hp=>?_) (ao (wpAny_newList (az ⟨_,rfl,?_⟩) ?_)))
   .obtain⟨r,_,rfl⟩:=cS.mp hp;exact fits_strSub _ _ hx
   .rw[strsFrom_eq];exact q (numbered tk _) _ (numbered_texts ..)
   .rw[strsFrom_length];exact hl
end Ws
namespace Mi
open PySem L2 PySem.SeqAt PySem.Spec PyProof.Rows
def splitM:D->ae D->Res D
 |.str x,[.str y]=>if ϒ (x.length<=lim)&&ϒ ((Txt.split x y).length<=lim)&&!(y.length==0) then .ok (.lst ((Txt.split x y).map ε)) else .bad
 |_,_=>.bad
variable [KFrag]
def p_:∀{l:ae (Str×cz)}{ts:ae Str},l.map (·.1)=ts->Vals (ts.map V.str) (za l)/\bJ P H (ts.map V.str) (ts.map ε)
 |[],_,h=>by cases h;exact⟨.nil,.nil⟩
 |p::l,_,h=>by
  cases h;obtain⟨h1,h2⟩:=p_ rfl;exact⟨.cons ⟨p.2,rfl⟩ h1,.cons (.str _) h2⟩
def G7:MtR X "str.split" (rm splitM ag):=by
 rintro Ψ s σ H x xs v us Q I rv vr ⟨a,ds,d,ra,rs,h,k⟩;unfold splitM at h;split at h
 .rename_i x y;split at h
  .rename_i hok;rw[ba,ba,lf,c_,c_] at hok;cases h;obtain⟨vv,uu,rfl,rfl,r,rk⟩:=fW rs vr;cases r.inv;obtain⟨u,rfl⟩:=rk;cases ra.inv;obtain⟨t,rfl⟩:=rv;have hls:∀{n:ah},n<=lim->n<=bd:=λh=>dg h (by rw[cy];decide)
   refine gm wy (nK _ _ _) F.entry_str_split (F.args_str_split_2 _ _) (Ws.YD x y t u hok.2 (hls hok.1.1) (hls hok.1.2)) λl tk hl2=>?_
   obtain⟨v1,r1⟩:=p_ (P:=All) (H:=H) hl2;have hz:((Txt.split x y).map V.str).length<=bd:=by rw[br];exact hls hok.1.2
   have sp:=bK.upd (o:=.lst ((Txt.split x y).map V.str)) I.fresh;refine⟨.ref s.heap.objs.size,_,I.aR1 (t':=tk) v1 hz,rfl,?_⟩;exact k _ _ sp (.lst aF trivial (p_ (P:=All) hl2).2) λ_=>.lst aF I.fresh (p_ hl2).2
  .exact bx h
 .exact bx h
def yN{X:Cx}(h:splitM d ds=.ok r)(rp:Rep All H v d):tyV X.K "str" v H:=by
 have:∃z,d=.str z:=by
  unfold splitM at h;split at h
  .exact⟨_,rfl⟩
  .exact bx h
 obtain⟨z,rfl⟩:=this;cases rp.inv;rfl
end Mi
namespace Ws
open PySem PySem.Spec PySem.Builtin PySem.SeqAt PyProof.Rows
section
variable {prog:bu} {w:bn} {A:bP} {E:al->ar->Prop} {s:ar}
def aB9{l:am}{items:aI al}{x:al}(e:al->aw){j:ah}{R:oB->ar->Prop}(hj:j<items.size)
 (hit:e items[j]=ag)(hno:∀m (hm:m<items.size),m<j->e items[m]=aj)(ht:ko s.heap l items)(he:∀y,y∈items->EqAt A s y x (e y))(h:R (.done (.ret (.int j s.toks))) {s with toks:=s.toks+1}) :
  ϑ (ay prog w) A (dh.«tuple.index» ⟨[.ref l,x],[]⟩) R E s:=by
 show ϑ _ _ (yw (.ref l) >>= _) _ _ s;refine ao (yx ht ?_);show ϑ _ _ (bind (forIn [0:Min.min items.size items.size] _ _) _) _ _ s;rw[DT];refine ao (wpAny_forIn_list _ (λrest b s'=>b.1=ai/\s'=s/\∃k,rest=B5 k (items.size-k)/\k<=j) _ ?_ ?_ _ _ ⟨rfl,rfl,0,by simp[DU],eP _⟩)
 .rintro y rest b s' ⟨hb,rfl,k,hk,hkj⟩;have hlt:k<items.size:=ot hkj hj;rw[show items.size-k=(items.size-(k+1))+1 by lia,Cw] at hk;injection hk with h1 h2
  subst h1;have hi:items[y]?=aa items[y]:=by simp[hlt]
  show ϑ _ _ (match items[y]? with|some z=>_|x=>_) _ _ s';rw[hi];refine ao (he _ (Array.getElem_mem hlt) prog w _ _ ?_);by_cases hyj:y=j
  .subst hyj;rw[hit];show ϑ _ _ (wz y >>= _) _ _ s';unfold wz;exact ao (ao (w_ (az (az (az h)))))
  .rw[hno y hlt 0x1];exact az ⟨rfl,rfl,y+1,h2,by lia⟩
 .rintro⟨b1,b2⟩ s' ⟨hb,rfl,k,hk,hkj⟩;rw[show items.size-k=(items.size-(k+1))+1 by lia,Cw] at hk;cases hk
end
end Ws
namespace Mi
open PySem L2 PySem.SeqAt PySem.Spec PyProof.Rows
def aK0(y:D):ae D->au ah
 |[]=>ai
 |z::r=>if eqD z y then aa 0 else (aK0 y r).map (·+1)
def CQ:D->ae D->Res D
 |.tup xs,[y]=>if y.iG aU&&π aU xs then (match aK0 y xs with|some j=>.ok (.int j)|none=>.bad) else .bad
 |_,_=>.bad
def YF:D->ae D->Res D
 |.str sep,[.tup ds]=>match l_ ds with
  |some ts=>if fj sep ts then .ok (.str (cj sep ts)) else .bad
  |none=>.bad
 |_,_=>.bad
section
variable [KFrag]
def aBa{X:Cx}{Ψ:ae (am×bc)}{σ:L2.St}{s:ar}{H:Hp}{a:D}(hK:KFrag.K=X.K)(I:Inv X Ψ σ H s):∀{xs:ae V}{ds:ae D}{its:ae al}{j:ah},π aU ds=ag->bJ All H xs ds->Vals xs its->aK0 a ds=aa j->∃hj:j<its.length,eqD (F_ H its[j]) a=ag/\∀m (hm:m<its.length),m<j->eqD (F_ H its[m]) a=aj
 |_,_,_,_,_,.nil,.nil,h=>by cases h
 |_,_,_,j,hq,.cons r t,.cons v vt,h=>by
  rw[π,ba] at hq;rw[aK0] at h;split at h
  .rename_i he;cases h;refine⟨Nat.zero_lt_succ _,?_,λm hm z=>aS z (Cy _)⟩;rw[Cz,GC hK I hq.1 v r];exact he
  .rename_i he;obtain⟨k,h1,rfl⟩:=gn.mp h;obtain⟨hj,h2,h3⟩:=aBa hK I hq.2 t vt h1;refine⟨Nat.succ_lt_succ hj,by rw[CA];exact h2,λm hm z=>?_⟩;cases m with
   |zero=>rw[Cz,GC hK I hq.1 v r];exact Bool.eq_false_iff.mpr he
   |succ m=>rw[CA];exact h3 m (CB hm) (CB z)
section
variable {X:Cx}
theorem aBb(hK:KFrag.K=X.K)(hu:X.A.units+20<c8):MtR X "tuple.index" (rm CQ ag):=by
 rintro Ψ s σ H x xs v us Q I rv vr ⟨a,ds,d,ra,rs,h,k⟩;unfold CQ at h;split at h
 .rename_i ys y;split at h
  .rename_i hl;rw[ba] at hl;split at h
   .rename_i j hj;cases h;obtain⟨vv,uu,rfl,rfl,r,rk⟩:=fW rs vr;obtain⟨l,zs,rfl,ee,rr⟩:=ra.eO;cases rv;obtain⟨its,vr',pl⟩:=jA I ee;obtain⟨h1,h2,h3⟩:=aBa hK I hl.2 rr vr' hj;have mm:=λw hw=>yD hK I hu hl.1 r rk hl.2 rr vr' w hw
    obtain⟨⟨cls,dd,data,sl⟩,ho,hc,n,hd⟩:=id pl;have hfin:EP X Ψ σ Q (.int j s.toks) {s with toks:=s.toks+1}:=⟨.int j,H,I.tok _,⟨_,rfl⟩,k.int⟩
    refine lS (xf zy.plain F.entry_tuple_index (zy.check _ _ _ _ _ _ _ _ ⟨_,ho,hc⟩ (F.args_tuple_index_2 _ _) ?_));exact Ws.aB9 (A:=X.A.in1) (λu=>eqD (F_ H u) y) (by simpa using h1) (by simpa using h2) (λm hm hmj=>by simpa using h3 m (by simpa using hm) hmj) pl (λw hw=>mm w (by simpa using hw)) hfin
   .exact bx h
  .exact bx h
 .exact bx h
def aBc{d:D}{ds:ae D}{r:D}{v:V}{H:Hp}(h:CQ d ds=.ok r)(rp:Rep All H v d):tyV X.K "tuple" v H:=by
 unfold CQ at h;split at h
 .obtain⟨a,xs,rfl,e,_⟩:=rp.eO;exact .inr (.inl ⟨rfl,.inr ⟨_,e⟩⟩)
 .exact bx h
def aF6:MtR X "str.join" (rm YF ag):=by
 rintro Ψ s σ H x xs v us Q I rv vr ⟨a,ds,d,ra,rs,h,k⟩;unfold YF at h;split at h
 .split at h
  .rename_i ts hts;split at h
   .rename_i hok;cases h;obtain⟨vv,uu,rfl,rfl,r,rk⟩:=fW rs vr;obtain⟨l,ys,rfl,hl,rr⟩:=r.eO;cases rk;cases ra.inv;obtain⟨t,rfl⟩:=rv;obtain⟨its,vr',pl⟩:=jA I hl;obtain⟨l2,e1,e2⟩:=wG rr vr' hts;subst e1 e2;unfold fj at hok;rw[lf] at hok;obtain⟨o,ho,hc,n,hd⟩:=pl;exact gm mE (nK _ _ _) F.entry_str_join (F.args_str_join_2 _ _) (meets_str_join_tuple _ t l l2 hok) ⟨⟨o,n,ho,hc,hd⟩,post_join l2 ⟨joinFit_length hok,λt' k2=>⟨.str _,H,I.tok k2,⟨t',rfl⟩,k.str⟩⟩⟩
   .exact bx h
  .exact bx h
 .exact bx h
def aF7{d:D}{ds:ae D}{r:D}{v:V}{H:Hp}(h:YF d ds=.ok r)(rp:Rep All H v d):tyV X.K "str" v H:=by
 have:∃z,d=.str z:=by
  unfold YF at h;split at h
  .exact⟨_,rfl⟩
  .exact bx h
 obtain⟨z,rfl⟩:=this;cases rp.inv;rfl
end
end
noncomputable def aBd(x:Str):ae D->au ah
 |[]=>aa 0
 |.str y::r=>(aBd x r).map λn=>(if y==x then n+1 else n)
 |_::_=>ai
def K3:D->ae D->Res D
 |.tup xs,[.str y]=>match aBd y xs with|some n=>.ok (.int n)|none=>.bad
 |_,_=>.bad
noncomputable def aF8(x:Str):al->aw
 |.str y _=>y==x
 |_=>aj
variable [KFrag]
def aHn:∀{zs:ae V}{ds:ae D}{its:ae al}{n:ah},aBd x ds=aa n->bJ P H zs ds->Vals zs its->its.countP (aF8 x)=n/\∀u∈its,CC u (.str x t) (aF8 x u)
 |_,_,_,_,h,.nil,.nil=>by cases h;exact⟨rfl,λu hu=>by cases hu⟩
 |_,d::ds,_,n,h,.cons r rt,.cons v vt=>by
  cases d with
  |str y=>
   obtain⟨m,h1,rfl⟩:=gn.mp h;obtain⟨i1,i2⟩:=aHn h1 rt vt;cases r.inv;obtain⟨tk,rfl⟩:=v;refine⟨?_,λu hu=>?_⟩
   .rw[CD,i1];show m+(if (y==x)=ag then 1 else 0)=if (y==x)=ag then m+1 else m
    split<;>rfl
   .rcases bq.mp hu with e|e
    .subst e;exact eqGives_str y x tk t
    .exact i2 u e
  |_=>cases h
def aBe{E:al->ar->Prop}{s:ar}{l:am}{items:aI al}{x:al}(e:al->aw){R:oB->ar->Prop}(ht:ko s.heap l items)(he:∀y,y∈items->CC y x (e y))(h:R (.done (.ret (.int (items.toList.countP e:ah) s.toks))) {s with toks:=s.toks+1}) :
  ϑ (ay prog w) A (dh.«tuple.count» ⟨[.ref l,x],[]⟩) R E s:=by
 show ϑ _ _ (yw (.ref l) >>= _) _ _ s;refine ao (yx ht ?_);refine ao (wpAny_forIn_array' _ (λrest (b:ah) s'=>s'=s/\(∀y,y∈rest->y∈items)/\b+rest.countP e=items.toList.countP e) _ ?_ ?_ _ _ ⟨rfl,λy hy=>by simpa using hy,by simp⟩)
 .rintro y rest b s' ⟨rfl,hm,hb⟩;refine ao (he y (hm y 0x2) prog w _ _ _ _ ?_);rw[CD] at hb;cases hy:e y with
  |true=>
   rw[hy] at hb;exact az ⟨rfl,λz hz=>hm z (by simp[hz]),by rw[aq rfl] at hb;lia⟩
  |false=>
   rw[hy] at hb;exact az ⟨rfl,λz hz=>hm z (by simp[hz]),by rw[ax fz] at hb;lia⟩
 .rintro b s' ⟨rfl,_,hb⟩;rw[List.countP_nil,B4] at hb;subst hb;show ϑ _ _ (wz _) _ _ s';unfold wz;exact ao (w_ (az h))
section
variable {X:Cx}
theorem aBf:MtR X "tuple.count" (rm K3 ag):=by
 intro Ψ s σ H x xs v us Q I rv vr ⟨a,ds,d,ra,rs,h,k⟩;unfold K3 at h;split at h
 .rename_i ys y;split at h
  .rename_i n hn;cases h;obtain⟨vv,uu,rfl,rfl,r,rk⟩:=fW rs vr;obtain⟨l,zs,rfl,ee,rr⟩:=ra.eO;cases rv;cases r.inv;obtain⟨tk,rfl⟩:=rk;obtain⟨its,vr',pl⟩:=jA I ee;obtain⟨c1,c2⟩:=aHn hn rr vr';obtain⟨⟨cls,dd,data,sl⟩,ho,hc,n',hd⟩:=id pl;refine lS (xf zz.plain F.entry_tuple_count (zz.check _ _ _ _ _ _ _ _ ⟨_,ho,hc⟩ (F.args_tuple_count_2 _ _) ?_));refine aBe (aF8 y) pl (λw hw=>c2 w (by simpa using hw)) ?_;rw[show(its.toArray.toList.countP (aF8 y))=n from by simpa using c1];exact⟨.int n,H,I.tok _,⟨_,rfl⟩,k.int⟩
  .exact bx h
 .exact bx h
def aBg(h:K3 d ds=.ok r)(rp:Rep All H v d):tyV X.K "tuple" v H:=by
 unfold K3 at h;split at h
 .obtain⟨a,xs,rfl,e,_⟩:=rp.eO;exact .inr (.inl ⟨rfl,.inr ⟨_,e⟩⟩)
 .exact bx h
def Iti(a:am)(o:bc)(u:HO)(kvs:ae (Key×V)):It where
 go:=λi H=>H a=aa (.frz o u)/\∃p,kvs[i]?=aa p
 yld:=λi H x H'=>∃b p,kvs[i]?=aa p/\x=.ref b/\H b=ai/\H'=upd H b (.tup [kV p.1,p.2])
 stop:=λi H=>H a=aa (.frz o u)/\kvs.length<=i
def YG{K:aT}{x1}{a it:am}{o:bc}{u:HO}{kvs:ae (Key×V)}{vs:ae (Key×al)}{ep:ah}(hne:a≠it)(hd:∀h:aE,h.get? a=aa o->h.DictAt (b7 P w) a vs ep)(rel:KV kvs vs) :
  Turn P w K (.Tuple elts x1 tp) (Iti a o u kvs) [it] it (λi h=>∃ok ov,IsItemIter h it a i vs.length ep ok ov) where
 mem:=by simp
 obj:=λi h ⟨ok,ov,e⟩ b hb=>by
  have eb:b=it:=by simpa using hb
  subst eb;exact⟨_,e,λv z=>by cases z⟩
 keep:=λi h h' ⟨ok,ov,e⟩ k=>⟨ok,ov,k it 0x2 _ e⟩
 item:=by
  intro X hP hw hK hc i Ψ s σ H E I hf ⟨ok,ov,st⟩ hg;subst hP hw hK;obtain⟨ea,⟨k,x⟩,hx⟩:=hg;obtain⟨px,_⟩:=I.hok a _ ea;obtain⟨v,hv,rv⟩:=aHk rel hx;refine wpAny_pyNext_items_item st (hd _ px) hv λkey h' hk st' ht hsz kp=>?_
  refine⟨_,rfl,wpAny_letOwnedTupleGo_items st' λh'' st'' sb=>?_⟩;have sb':di it h' h'':=sb;have lt:s.heap.objs.size≠it:=fA (bw st);have kk:∀c o,c∉[it]->s.heap.get? c=aa o->h''.get? c=aa o:=λc o hc e=>by
   have hc':c≠it:=by simpa using hc
   exact(sb'.2 c hc').trans (kp c o hc' e)
  refine⟨.ref s.heap.objs.size,upd H s.heap.objs.size (.tup [kV k,x]),nJ (s:=s) I kk hf (bo _) ?_,rfl,⟨_,_,hx,rfl,I.hok.fresh (bo _),rfl⟩,⟨_,_,st''⟩,λc hc=>?_⟩
  .exact⟨by show 2<=bd;rw[cy];decide,[key,v],.cons (aOf hk) (.cons rv .nil),⟨_,(sb'.2 _ lt).trans ht,rfl,0,rfl⟩⟩
  .have hn:=(hf c hc).1;have hc':c=it:=by simpa using hc
   subst hc';rw[aM (Ne.symm lt)];exact hn
 done:=by
  intro X hP hw hK hc i Ψ s σ H E I hf ⟨ok,ov,st⟩ hg;subst hP hw hK;obtain⟨ea,hx⟩:=hg;obtain⟨px,_⟩:=I.hok a _ ea;obtain⟨f0,f1,f2,f3,f4,f5⟩:=hf it 0x2;have hl:kvs.length=vs.length:=jh rel;exact wpAny_pyNext_items_end (I.ok.hd hc) st (hd _ px) (List.getElem?_eq_none_iff.mpr 0x1) λh' eb=>⟨rfl,I.turned (λb o hb e=>eb b o hb e) f0 f1 f3 f4 f5⟩
 self:=λ_ _ _ _ _ ⟨ok,ov,st⟩ h=>PySem.W.kcp_self st h
def aF9:MtR X "dict.items" (λx xs H Q=>∃a kvs,x=.ref a/\xs=[]/\DV H a kvs/\∀vw,H vw=ai->Q (.ref vw) (upd H vw (.ext λh=>h.IsItemsView vw a))):=by
 intro Ψ s σ H x xs v us Q I rx rxs ⟨a,kvs,e1,e2,hu,q⟩;subst e1 e2;cases rx;cases rxs;obtain⟨z,hs,vs,rel,dd⟩:=aB3 I hu;have hfr:H s.heap.objs.size=ai:=I.hok.fresh (bo _);refine call_meetsIn CH dd.typeIs PySem.F.entry_dict_items (PySem.F.args_dict_items_1 _) (meets_dict_items (b7 X.prog X.w) a hs) ⟨⟨vs,dd⟩,?_⟩;refine⟨.ref s.heap.objs.size,_,I.laid (λb o e=>bS _ e) (bo _) ?_,rfl,q _ hfr⟩;have hg:=cu s.heap (o:={cls:=.type "dict_items",data:=.fields #[.ref a]}) rfl;exact⟨⟨_,hg,rfl,rfl⟩,⟨_,hg⟩,λh1 h2 ⟨o,e,r⟩ k=>⟨o,k o e,r⟩⟩
theorem aFa{x1}{x:Str}{i:ah}{np ap cp:cm}(hN:X.N[i]?=aa x)(hv:Vis X.env.scope x)(hd:nDb x:=by decide)(hcd:nCd x:=by decide)(hbase:gl (.Name x np) "items" X.env (eval (.Name x np) X.env)=eval (.Name x np) X.env:=by rfl)(hline:(ap.endLine==cp.line)=ag:=by rfl) :
  PI X (.Tuple elts x1 tp) (.Call (.Attribute (.Name x np) "items" ap) [] [] cp) (λσ H R=>∃a kvs u,σ[i]?=aa (aa (.ref a))/\DV H a kvs/\H a=aa u/\∀o H1,bK H H1->R (Iti a o u kvs) (upd H1 a (.frz o u))):=by
 intro Ψ s σ H R I ⟨a,kvs,u,hσ,hu,hua,q⟩;have ty:tyV X.K "dict" (.ref a) H:=by
  rcases hu with h|⟨_,h⟩
  .exact .inr (.inr (.inl ⟨rfl,.inl ⟨_,h⟩⟩))
  .exact .inr (.inr (.inl ⟨rfl,.inr ⟨_,h⟩⟩))
 have hp:=J4 PySem.F.plainAttrs_dict CH PySem.F.type_dict_items aF9 (a_ hN hv hd hcd) hbase hline;refine thn (hp Ψ s σ H (λv H1=>∃vw,v=.ref vw/\H1 vw=aa (.ext λh=>h.IsItemsView vw a)/\bK H H1) I ⟨.ref a,hσ,ty,a,kvs,rfl,rfl,hu,λvw hvw=>⟨vw,rfl,aF,bK.upd hvw⟩⟩) λy s1 ⟨v,H1,I1,r1,vw,e,evw,sm⟩=>?_
 subst e;cases r1;have hu1:DV H1 a kvs:=by
  rcases hu with h|⟨h0,h⟩
  .exact .inl (sm _ _ h)
  .exact .inr ⟨h0,sm _ _ h⟩
 obtain⟨z,hs,vs,rel,dd⟩:=aB3 I1 hu1;obtain⟨ep,da⟩:=dd.dictAt;obtain⟨o,es,ho,r⟩:=id da;have hda:∀h:aE,h.get? a=aa o->h.DictAt (b7 X.prog X.w) a vs ep:=λh e=>⟨o,es,e,r⟩
 obtain⟨pv,_⟩:=I1.hok vw _ evw;obtain⟨u',hu2,fu⟩:=aOd I1 hu1 ho;rw[sm _ _ hua] at hu2;cases hu2;have If:Inv X Ψ σ (upd H1 a (.frz o u)) s1:=I1.write (aOc hu1) (.inl rfl) (λ_ _ _ q=>q) ⟨o,ho⟩ ⟨ho,fu _ _ ho⟩;refine wpAny_pyIter_items pv da ?_;have I2:Inv X Ψ σ (upd H1 a (.frz o u)) {s1 with heap:=s1.heap.push {cls:=.type "dict_itemiterator",data:=.fields #[.none,.bool aj,.ref a,.int 0 0,.int vs.length 0,.int ep 0,.none,.none]}}:=If.kept λb o e=>bS _ e
 refine⟨s1.heap.objs.size,[s1.heap.objs.size],λi h=>∃ok ov,IsItemIter h s1.heap.objs.size a i vs.length ep ok ov,Iti a o u kvs,_,rfl,I2,YG (cg (bw ho)) hda rel,⟨_,_,cu _ rfl⟩,λb hb=>?_,q o H1 sm⟩;have e:b=s1.heap.objs.size:=by simpa using hb
 subst e;exact If.aDu (bo _) (If.hok.fresh (bo _))
end
end Mi
namespace Wy
open PySem PySem.Spec
open Wz
noncomputable abbrev liO(t:am)(i:ah):bc:={cls:=.type "list_iterator",data:=.fields #[.ref t,.int i 0]}
noncomputable abbrev lsO(xs:aI al)(n:ah)(dd:au am)(sl:aI (au al)):bc:={cls:=.type "list",dict:=dd,data:=.seq xs n,slots:=sl}
def Q7(it t:am)(i:ah)(xs:aI al)(n:ah)(dd:au am)(sl:aI (au al))(x:al)(hx:xs[i]?=aa x) :
  hX (dh.«list_iterator.__next__» ⟨[.ref it],[]⟩) (λ_ R s=>s.heap.get? it=aa (liO t i)/\s.heap.get? t=aa (lsO xs n dd sl)/\R (.ok (.ret x)) {s with heap:=s.heap.update it (mq (·.setIfInBounds 1 (b9 (i+1))))}):=.of_wp λprog w A R s hs=>by
 obtain⟨hp,g,d,tk,os⟩:=s;obtain⟨e1,e2,hq⟩:=hs
 wp_walk
 rw[mr,hx]
 wp_walk
 exact⟨_,rfl,hq⟩
section
variable {prog:bu} {w:bn} {A:bP} {E:al->ar->Prop} {s:ar} {it t:am} {i:ah} {xs:aI al} {x:al} {n:ah} {dd:au am} {sl:aI (au al)}
def aHo(e1:s.heap.get? it=aa (liO t i))(e2:s.heap.get? t=aa (lsO xs n dd sl))(hx:xs[i]?=aa x)
 (q:∀h',h'.get? it=aa (liO t (i+1))->di it s.heap h'->Q x {s with heap:=h'}):ϑ (ay prog w) A (gr (.ref it)) Q E s:=by
 have ty:s.TypeIs (.ref it) "list_iterator":=⟨_,e1,rfl⟩
 refine ao (ik ty CI ?_);refine gm CI ty entry_listiter_next (args_listiter_next _) (Q7 it t i xs n dd sl x hx) ⟨e1,e2,az (q _ ?_ (mv ..))⟩;exact jw _ e1 rfl
end
structure W(z TI TO i1 i2 l1 l2:am)(o1 o2:bc)(f0 f1 a b:al)(k1 k2:ah)(h:aE):Prop where
 z_:h.get? z=aa (zpO f0 f1 TI TO)
 ti:h.get? TI=aa (prO (.ref i1) (.ref i2))
 to:h.get? TO=aa (prO a b)
 j1:h.get? i1=aa (itO l1 k1)
 j2:h.get? i2=aa (liO l2 k2)
 t1:h.get? l1=aa o1
 t2:h.get? l2=aa o2
section
variable {z TI TO i1 i2 l1 l2:am} {o1 o2:bc} {f0 f1 g0 g1 a b c d:al} {k1 k2:ah} {h h':aE}
def W.onZ(x:W z TI TO i1 i2 l1 l2 o1 o2 f0 f1 a b k1 k2 h)(ap:Apart z TI TO i1 i2 l1 l2)(e:h'.get? z=aa (zpO g0 g1 TI TO))(k:di z h h'):W z TI TO i1 i2 l1 l2 o1 o2 g0 g1 a b k1 k2 h':=
 ⟨e,(k.2 _ ap.zTI.symm).trans x.ti,(k.2 _ ap.zTO.symm).trans x.to,(k.2 _ ap.z1.symm).trans x.j1,(k.2 _ ap.z2.symm).trans x.j2,(k.2 _ ap.zl.symm).trans x.t1,(k.2 _ ap.zm.symm).trans x.t2⟩
def W.onT(x:W z TI TO i1 i2 l1 l2 o1 o2 f0 f1 a b k1 k2 h)(ap:Apart z TI TO i1 i2 l1 l2)(e:h'.get? TO=aa (prO c d))(k:di TO h h'):W z TI TO i1 i2 l1 l2 o1 o2 f0 f1 c d k1 k2 h':=
 ⟨(k.2 _ ap.zTO).trans x.z_,(k.2 _ ap.TT).trans x.ti,e,(k.2 _ ap.O1.symm).trans x.j1,(k.2 _ ap.O2.symm).trans x.j2,(k.2 _ ap.Ol.symm).trans x.t1,(k.2 _ ap.Om.symm).trans x.t2⟩
def W.on1(x:W z TI TO i1 i2 l1 l2 o1 o2 f0 f1 a b k1 k2 h)(ap:Apart z TI TO i1 i2 l1 l2)(e:h'.get? i1=aa (itO l1 k))(s:di i1 h h'):W z TI TO i1 i2 l1 l2 o1 o2 f0 f1 a b k k2 h':=
 ⟨(s.2 _ ap.z1).trans x.z_,(s.2 _ ap.T1).trans x.ti,(s.2 _ ap.O1).trans x.to,e,(s.2 _ ap.ij.symm).trans x.j2,(s.2 _ ap.il.symm).trans x.t1,(s.2 _ ap.im.symm).trans x.t2⟩
def W.on2(x:W z TI TO i1 i2 l1 l2 o1 o2 f0 f1 a b k1 k2 h)(ap:Apart z TI TO i1 i2 l1 l2)(e:h'.get? i2=aa (liO l2 k))(s:di i2 h h'):W z TI TO i1 i2 l1 l2 o1 o2 f0 f1 a b k1 k h':=
 ⟨(s.2 _ ap.z2).trans x.z_,(s.2 _ ap.T2).trans x.ti,(s.2 _ ap.O2).trans x.to,(s.2 _ ap.ij).trans x.j1,e,(s.2 _ ap.jl.symm).trans x.t1,(s.2 _ ap.jm.symm).trans x.t2⟩
def W.up(x:W z TI TO i1 i2 l1 l2 o1 o2 f0 f1 a b k1 k2 h)(k:∀c o,c=z\/c=TI\/c=TO\/c=i1\/c=i2\/c=l1\/c=l2->h.get? c=aa o->h'.get? c=aa o):W z TI TO i1 i2 l1 l2 o1 o2 f0 f1 a b k1 k2 h':=
 ⟨k _ _ 0x2 x.z_,k _ _ 0x2 x.ti,k _ _ 0x2 x.to,k _ _ 0x2 x.j1,k _ _ 0x2 x.j2,k _ _ 0x2 x.t1,k _ _ 0x2 x.t2⟩
end
section
variable {s:ar} {z TI TO i1 i2 l1 l2:am} {f0 f1 a b:al}
def W.ty(hw:W z TI TO i1 i2 l1 l2 o1 o2 f0 f1 a b k1 k2 s.heap):s.TypeIs (.ref z) "zip":=⟨_,hw.z_,rfl⟩
end
section
variable {prog:bu} {w:bn} {A:bP} {E:al->ar->Prop} {s:ar} {z TI TO i1 i2 l1 l2:am} {n1 n2:ah} {d1 d2:au am} {s1 s2:aI (au al)} {f0 f1 a b x y:al} {k:ah} {xs ys:aI al}
def keptAt(j:ah)(v c d:al)(hw:W z TI TO i1 i2 l1 l2 o1 o2 f0 f1 a b k1 k2 s.heap)(ap:Apart z TI TO i1 i2 l1 l2)(hj:(#[a,b]:aI al).setIfInBounds j v=#[c,d])
 (q:∀h',W z TI TO i1 i2 l1 l2 o1 o2 f0 f1 c d k1 k2 h'->di TO s.heap h'->Q () {s with heap:=h'}):ϑ (ay prog w) A (oI TO (·.setIfInBounds j v)) Q E s:=
 Cj hw.to λh' e sb=>q h' (hw.onT ap (by rw[e,hj]) sb) sb
def first(ap:Apart z TI TO i1 i2 l1 l2)(hw:W z TI TO i1 i2 l1 l2 (tuO xs n1 d1 s1) (lsO ys n2 d2 s2) .none (.bool aj) a b k k s.heap)(hx:xs[k]?=aa x)(hy:ys[k]?=aa y)
 (q:∀(h':aE) (p:am),W z TI TO i1 i2 l1 l2 (tuO xs n1 d1 s1) (lsO ys n2 d2 s2) (b9 p) (.bool aj) x y (k+1) (k+1) h'->h'.get? p=aa (prO x y)->p=s.heap.objs.size->JR z TO i1 i2 s.heap h'->Q (.ref p) {s with heap:=h'}) :
  ϑ (ay prog w) A (nxt z) (Got Q) E s:=by
 refine ao (m:=jx (.ref z) 2) (ck hw.z_ rfl rfl (ao (ck hw.z_ rfl rfl (ao (eu hw.ti rfl ?_)))));refine ao (ao (ck hw.z_ rfl (x:=.none) rfl (az ?_)));rw[aq rfl];refine ao (hZ (ao (ck hw.z_ rfl (x:=.ref TO) rfl (ao (gS hw.z_ 0x2 λh1 e1 k1=>?_)))));have w1:W z TI TO i1 i2 l1 l2 (tuO xs n1 d1 s1) (lsO ys n2 d2 s2) .ellipsis (.bool aj) a b k k h1:=hw.onZ ap e1 k1;simp only[mw,v8,jb,gp];refine ao (ao (ao (my (ao (m:=gr (.ref i1)) (drawn w1.j1 w1.t1 hx λh2 e2 k2=>az ?_)))));have w2:=w1.on1 ap e2 k2;refine ao (eu w2.to rfl (ao (keptAt 0 x x b w2 ap rfl λh3 w3 k3=>ao (oP (az ?_)))));refine ao (ao (my (ao (m:=gr (.ref i2)) (aHo w3.j2 w3.t2 hy λh4 e4 k4=>az ?_))));have w4:=w3.on2 ap e4 k4;refine ao (eu w4.to rfl (ao (keptAt 1 y x y w4 ap rfl λh5 w5 k5=>ao (oP (az (az ?_))))));have sd:JR z TO i1 i2 s.heap h5:=λc o c1 c2 c3 c4 e=>(k5.2 c c2).trans ((k4.2 c c4).trans ((k3.2 c c2).trans ((k2.2 c c3).trans ((k1.2 c c1).trans e))))
 have sz:h5.objs.size=s.heap.objs.size:=by rw[k5.1,k4.1,k3.1,k2.1,k1.1]
 refine ao (eu w5.to rfl (ao (v9 ?_)));have w6:W z TI TO i1 i2 l1 l2 (tuO xs n1 d1 s1) (lsO ys n2 d2 s2) .ellipsis (.bool aj) x y (k+1) (k+1) (h5.push (prO x y)):=w5.up λc o _ e=>bS _ e
 refine ao (m:=Ck (.ref z) (.ref h5.objs.size)) (ao (gS w6.z_ 0x2 λh7 e7 k7=>?_));have w7:W z TI TO i1 i2 l1 l2 (tuO xs n1 d1 s1) (lsO ys n2 d2 s2) (b9 h5.objs.size) (.bool aj) x y (k+1) (k+1) h7:=w6.onZ ap e7 k7;refine gS w7.z_ 0x2 λh8 e8 k8=>az ⟨_,rfl,?_⟩
 have w8:W z TI TO i1 i2 l1 l2 (tuO xs n1 d1 s1) (lsO ys n2 d2 s2) (b9 h5.objs.size) (.bool aj) x y (k+1) (k+1) h8:=w7.onZ ap e8 k8;have nz:h5.objs.size≠z:=fA (bw w5.z_);exact q h8 _ w8 ((k8.2 _ nz).trans ((k7.2 _ nz).trans (cu _ rfl))) sz λc o c1 c2 c3 c4 e=>(k8.2 c c1).trans ((k7.2 c c1).trans (bS _ (sd c o c1 c2 c3 c4 e)))
def G3(hh:A.handled=ai)(ap:Apart z TI TO i1 i2 l1 l2)(hw:W z TI TO i1 i2 l1 l2 (tuO xs n1 d1 s1) (lsO ys n2 d2 s2) .none (.bool aj) a b k k s.heap)(hx:xs[k]?=ai)
 (q:∀h' e,JR z TO i1 i2 s.heap h'->(∃o,h'.get? e=aa o/\o.cls=.type "StopIteration")->E (.ref e) {s with heap:=h'}) :
  ϑ (ay prog w) A (nxt z) Q E s:=by
 refine ao (m:=jx (.ref z) 2) (ck hw.z_ rfl rfl (ao (ck hw.z_ rfl rfl (ao (eu hw.ti rfl ?_)))));refine ao (m:=mz (.ref z)) (ao (ck hw.z_ rfl (x:=.none) rfl (az ?_)));rw[aq rfl];refine ao (hZ (ao (ck hw.z_ rfl (x:=.ref TO) rfl (ao (gS hw.z_ 0x2 λh1 e1 k1=>?_)))));have w1:W z TI TO i1 i2 l1 l2 (tuO xs n1 d1 s1) (lsO ys n2 d2 s2) .ellipsis (.bool aj) a b k k h1:=hw.onZ ap e1 k1;simp only[mw,v8,jb,gp];refine ao (ao (ao (my (ao (m:=gr (.ref i1)) (over hh w1.j1 w1.t1 hx λh2 e k2 he=>?_)))));obtain⟨oe,he,hc⟩:=he;have ez:h2.get? z=aa (zpO .ellipsis (.bool aj) TI TO):=k2 _ _ ap.z1 w1.z_;have hez:e≠z:=λv=>by
  rw[v,ez] at he;cases he;exact aS (show eT "zip"=eT "StopIteration" from hc) 0x4
 exact gS ez 0x2 λh3 _ k3=>q h3 e (λc o c1 _ c3 _ v=>(k3.2 c c1).trans (k2 c o c3 ((k1.2 c c1).trans v))) ⟨oe,(k3.2 e hez).trans he,hc⟩
def taken{T:am}(ap:Apart z TI TO i1 i2 l1 l2)(hw:W z TI TO i1 i2 l1 l2 o1 o2 (b9 T) (.bool bb) a b k1 k2 s.heap)(hT:s.heap.get? T=aa oT)
 (q:∀h',W z TI TO i1 i2 l1 l2 o1 o2 (b9 T) (.bool ag) a b k1 k2 h'->di z s.heap h'->Q aj {s with heap:=h'}):ϑ (ay prog w) A (mz (.ref z)) Q E s:=by
 refine ao (ck hw.z_ rfl rfl (ao (there hT ?_)));refine ao (ck hw.z_ rfl rfl ?_);cases bb
 .exact ao (gS hw.z_ 0x2 λh1 e1 k1=>az (q h1 (hw.onZ ap e1 k1) k1))
 .exact az (q _ hw (zh _ _))
def more{T:am}{bb:aw}{oT:bc}{Q:al->ar->Prop}(ap:Apart z TI TO i1 i2 l1 l2)(hw:W z TI TO i1 i2 l1 l2 (tuO xs n1 d1 s1) (lsO ys n2 d2 s2) (b9 T) (.bool bb) a b k k s.heap)(hT:s.heap.get? T=aa oT)(hx:xs[k]?=aa x)(hy:ys[k]?=aa y)
 (q:∀h' p,W z TI TO i1 i2 l1 l2 (tuO xs n1 d1 s1) (lsO ys n2 d2 s2) (b9 T) (.bool ag) a b (k+1) (k+1) h'->h'.get? p=aa (prO x y)->JR z TO i1 i2 s.heap h'->Q (.ref p) {s with heap:=h'}) :
  ϑ (ay prog w) A (nxt z) (Got Q) E s:=by
 refine ao (m:=jx (.ref z) 2) (ck hw.z_ rfl rfl (ao (ck hw.z_ rfl rfl (ao (eu hw.ti rfl ?_)))));refine ao (m:=mz (.ref z)) (taken ap hw hT λh1 w1 k1=>?_);rw[ax fz];dsimp only;rw[<-wa];simp only[jb,gp];refine ao (ao (ao (dE (ao (m:=gr (.ref i1)) (drawn w1.j1 w1.t1 hx λh2 e2 k2=>az (az ?_))))));have w2:=w1.on1 ap e2 k2;refine ao (ao (dE (ao (m:=gr (.ref i2)) (aHo w2.j2 w2.t2 hy λh3 e3 k3=>az (az (az ?_))))));have w3:=w2.on2 ap e3 k3;refine ao (v9 (az ⟨_,rfl,?_⟩) (hsz:=by show(2:ah)<=bd;decide));exact q _ _ (w3.up λc o _ e=>bS _ e) (cu _ rfl) λc o c1 c2 c3 c4 e=>bS _ ((k3.2 c c4).trans ((k2.2 c c3).trans ((k1.2 c c1).trans e)))
def Q4{T:am}{bb:aw}{oT:bc}{Q:Fin->ar->Prop}(hh:A.handled=ai)(ap:Apart z TI TO i1 i2 l1 l2)(hw:W z TI TO i1 i2 l1 l2 (tuO xs n1 d1 s1) (lsO ys n2 d2 s2) (b9 T) (.bool bb) a b k k s.heap)(hT:s.heap.get? T=aa oT)(hx:xs[k]?=ai)
 (q:∀h' e,JR z TO i1 i2 s.heap h'->(∃o,h'.get? e=aa o/\o.cls=.type "StopIteration")->E (.ref e) {s with heap:=h'}) :
  ϑ (ay prog w) A (nxt z) Q E s:=by
 refine ao (m:=jx (.ref z) 2) (ck hw.z_ rfl rfl (ao (ck hw.z_ rfl rfl (ao (eu hw.ti rfl ?_)))));refine ao (taken ap hw hT λh1 w1 k1=>?_);rw[ax fz];dsimp only;rw[<-wa];simp only[jb,gp];exact ao (ao (ao (dE (ao (over hh w1.j1 w1.t1 hx λh2 e k2 he=>q h2 e (λc o c1 _ c3 _ v=>k2 c o c3 ((k1.2 c c1).trans v)) he)))))
end
def yM(t u:am)(xs ys:aI al) :
  hX (dh.«zip.__new__» ⟨[.type "zip",.ref t,.ref u],[]⟩) (λ_ R s=>s.heap.IsTuple t xs/\s.heap.IsList u ys/\∀h' n,n=s.heap.objs.size->h'.get? n=aa (itO t 0)->h'.get? (n+1)=aa (liO u 0)->h'.get? (n+2)=aa (prO (.ref n) (.ref (n+1)))->h'.get? (n+3)=aa (prO .none .none)->h'.get? (n+4)=aa (zpO .none (.bool aj) (n+2) (n+3))->
   (∀x o,s.heap.get? x=aa o->h'.get? x=aa o)->h'.objs.size=n+5->R (.ok (.ret (.ref (n+4)))) {s with heap:=h'}):=
 .of_wp λprog w A R s hs=>by
  obtain⟨hp,g,d,tk,os⟩:=s;obtain⟨ht,hu,q⟩:=hs;have sub:=sub_zip;have p1:zi (oQ ⟨hp,g,d,tk,os⟩) t xs:=ht;have p2:CL (oQ ⟨hp.push {cls:=.type "tuple_iterator",data:=.fields #[.ref t,.int 0 0]},g,d,tk,os⟩) u ys:=DZ hu _;have f:=five hp (itO t 0) (liO u 0) (prO (.ref hp.objs.size) (.ref (hp.objs.size+1))) (prO .none .none) (zpO .none (.bool aj) (hp.objs.size+2) (hp.objs.size+3)) rfl rfl rfl rfl rfl
  wp_walk using oq p1,jc p2
  refine⟨_,rfl,?_⟩;have fin:=q _ hp.objs.size rfl f.1 f.2.1 f.2.2.1 f.2.2.2.1 f.2.2.2.2.1 f.2.2.2.2.2.1 f.2.2.2.2.2.2;have gen:∀m1 m2 m3 m4:ah,m1=hp.objs.size+1->m2=hp.objs.size+2->m3=hp.objs.size+3->m4=hp.objs.size+4->R (.ok (.ret (.ref m4))) ⟨((((hp.push (itO t 0)).push (liO u 0)).push (prO (.ref hp.objs.size) (.ref m1))).push (prO .none .none)).push (zpO .none (.bool aj) m2 m3),g,d,tk,os⟩:=by
   intro m1 m2 m3 m4 q1 q2 q3 q4;subst q1 q2 q3 q4;exact fin
  exact gen _ _ _ _ (cK ..) ((cK ..).trans (c5 (·+1) (cK ..))) ((cK ..).trans (c5 (·+1) ((cK ..).trans (c5 (·+1) (cK ..))))) ((cK ..).trans (c5 (·+1) ((cK ..).trans (c5 (·+1) ((cK ..).trans (c5 (·+1) (cK ..)))))))
section
variable {prog:bu} {w:bn} {A:bP} {E:al->ar->Prop} {s:ar}
def aB7(ht:s.heap.IsTuple t xs)(hu:s.heap.IsList u ys)
 (q:∀h' n,n=s.heap.objs.size->h'.get? n=aa (itO t 0)->h'.get? (n+1)=aa (liO u 0)->h'.get? (n+2)=aa (prO (.ref n) (.ref (n+1)))->h'.get? (n+3)=aa (prO .none .none)->h'.get? (n+4)=aa (zpO .none (.bool aj) (n+2) (n+3))->
   (∀x o,s.heap.get? x=aa o->h'.get? x=aa o)->h'.objs.size=n+5->Q (.ref (n+4)) {s with heap:=h'}) :
  ϑ (ay prog w) A (call (.type "zip") [.ref t,.ref u]) Q E s:=
 zj Cm 0x4 (Co _ _) (Cp _ _) (λobj=>Cq obj _ _) Cr (yM t u xs ys)
  ⟨ht,hu,λh' n e a1 a2 a3 a4 a5 k z=>⟨⟨_,a5,rfl⟩,q h' n e a1 a2 a3 a4 a5 k z⟩⟩
end
def ZS(z TI TO i1 i2 l1 l2:am)(o1 o2:bc)(k:ah)(h:aE):Prop:=∃f0 f1 a b,W z TI TO i1 i2 l1 l2 o1 o2 f0 f1 a b k k h/\
 ((f0=.none/\f1=.bool aj)\/∃(T:am)(bb:aw)(u v:al),f0=b9 T/\f1=.bool bb/\h.get? T=aa (prO u v)/\T≠z/\T≠TO/\T≠i1/\T≠i2)
section
variable {prog:bu} {w:bn} {A:bP} {E:al->ar->Prop} {s:ar} {z TI TO i1 i2 l1 l2 d:am} {n1 n2:ah} {d1 d2:au am} {s1 s2:aI (au al)} {x y:al} {k:ah} {xs ys:aI al}
def ZS.keep(Z:ZS z TI TO i1 i2 l1 l2 (tuO xs n1 d1 s1) (lsO ys n2 d2 s2) k h)(ed:h.get? d=aa od)(hd:od.cls=.type "dict")(e:∀c o,c≠d->h.get? c=aa o->h'.get? c=aa o):ZS z TI TO i1 i2 l1 l2 (tuO xs n1 d1 s1) (lsO ys n2 d2 s2) k h':=by
 obtain⟨f0,f1,a,b,hw,hf⟩:=Z;refine⟨f0,f1,a,b,⟨e _ _ (Wz.apart hw.z_ rfl ed hd 0x4) hw.z_,e _ _ (Wz.apart hw.ti rfl ed hd 0x4) hw.ti,e _ _ (Wz.apart hw.to rfl ed hd 0x4) hw.to,e _ _ (Wz.apart hw.j1 rfl ed hd 0x4) hw.j1,e _ _ (Wz.apart hw.j2 rfl ed hd 0x4) hw.j2,e _ _ (Wz.apart hw.t1 rfl ed hd 0x4) hw.t1,e _ _ (Wz.apart hw.t2 rfl ed hd 0x4) hw.t2⟩,?_⟩;rcases hf with hf|⟨T,bb,u,v,h1,h2,h3,h4⟩
 .exact .inl hf
 .exact .inr ⟨T,bb,u,v,h1,h2,e _ _ (Wz.apart h3 rfl ed hd 0x4) h3,h4⟩
def Q5(ap:Apart z TI TO i1 i2 l1 l2)(Z:ZS z TI TO i1 i2 l1 l2 (tuO xs n1 d1 s1) (lsO ys n2 d2 s2) k s.heap)(hx:xs[k]?=aa x)(hy:ys[k]?=aa y)
 (q:∀h' p,ZS z TI TO i1 i2 l1 l2 (tuO xs n1 d1 s1) (lsO ys n2 d2 s2) (k+1) h'->h'.get? p=aa (prO x y)->JR z TO i1 i2 s.heap h'->Q (aa (.ref p)) {s with heap:=h'}):ϑ (ay prog w) A (ff (.ref z)) Q E s:=by
 obtain⟨f0,f1,a,b,hw,hf⟩:=Z;refine ao (j3 (ik hw.ty ka (i6 ka hw.ty we ?_ (wf _))));rcases hf with ⟨rfl,rfl⟩|⟨T,bb,u,v,rfl,rfl,hT,t1,t2,t3,t4⟩
 .refine first ap hw hx hy λh' p w' ep pp sd=>az (q h' p ⟨_,_,_,_,w',.inr ⟨p,aj,x,y,rfl,rfl,ep,?_⟩⟩ ep sd)
  subst pp;have lt:∀{c o},s.heap.get? c=aa o->s.heap.objs.size≠c:=λe=>fA (bw e)
  exact⟨lt hw.z_,lt hw.to,lt hw.j1,lt hw.j2⟩
 .exact more ap hw hT hx hy λh' p w' ep sd=>az (q h' p ⟨_,_,_,_,w',.inr ⟨T,ag,u,v,rfl,rfl,sd _ _ t1 t2 t3 t4 hT,t1,t2,t3,t4⟩⟩ ep sd)
def aB8(hh:A.handled=ai)(ap:Apart z TI TO i1 i2 l1 l2)(Z:ZS z TI TO i1 i2 l1 l2 (tuO xs n1 d1 s1) (lsO ys n2 d2 s2) k s.heap)(hx:xs[k]?=ai)
 (q:∀h',JR z TO i1 i2 s.heap h'->Q ai {s with heap:=h'}):ϑ (ay prog w) A (ff (.ref z)) Q E s:=by
 obtain⟨f0,f1,a,b,hw,hf⟩:=Z;refine ao (j3 (ik hw.ty ka (i6 ka hw.ty we ?_ (wf _))));have stop:∀h' e,JR z TO i1 i2 s.heap h'->(∃o,h'.get? e=aa o/\o.cls=.type "StopIteration")->ϑ (ay prog w) A (do if <- isInstance (.ref e) (.type "StopIteration") then pure ai else throw (.ref e)) Q E {s with heap:=h'}:=λh' e sd he=>ao (oS he zu (az (q h' sd)))
 rcases hf with ⟨rfl,rfl⟩|⟨T,bb,u,v,rfl,rfl,hT,_⟩
 .exact G3 hh ap hw hx λh' e sd he=>stop h' e sd he
 .exact Q4 hh ap hw hT hx λh' e sd he=>stop h' e sd he
end
section
variable {prog:bu} {w:bn} {K:Type} [dn K] {knd:KeyKind prog w K} {A:bP} {R:wg al Flow->ar->Prop} {z TI TO i1 i2 l1 l2 d:am} {n1 n2:ah} {d1 d2:au am} {s1 s2:aI (au al)} {xs ys:aI al} {ks:ae K}
theorem o_(hh:A.handled=ai)(ap:Apart z TI TO i1 i2 l1 l2)(hdz:d≠z)(hdT:d≠TO)(hd1:d≠i1)(hd2:d≠i2)(hsz:ys.size=xs.size)(hk:∀(i:ah) (x:al),xs[i]?=aa x->∃k,ks[i]?=aa k/\knd.is k x=ag) :
  ∀(m k:ah)(s:ar)(kvs:ae (K×al)),k+m=xs.size->kvs.length+m<=bd->ZS z TI TO i1 i2 l1 l2 (tuO xs n1 d1 s1) (lsO ys n2 d2 s2) k s.heap->s.heap.DictOf knd d kvs->
  (∀h' tk,h'.DictOf knd d (ir kvs ((ks.zip ys.toList).drop k))->(∀c o,c≠d->c≠z->c≠TO->c≠i1->c≠i2->s.heap.get? c=aa o->h'.get? c=aa o)->R (.ok (.ret .none)) {s with heap:=h',toks:=tk})->
  codeAny (ay prog w) A (.builtin "dict.update.loop" ⟨[.ref d,.ref z,b9 k,.none],[]⟩) R s:=by
 intro m;induction m with
 |zero=>
  intro k s kvs hkm hl Z hd q;refine jd iC ?_;rw[kb (show ke "dict.update.loop"=ag by decide +kernel) _];refine ao (aB8 hh ap Z (oy 0x1) λh' kp=>?_);refine ao ?_;unfold r_;rw[gp];refine ao (az (az (az ?_)));have e:(ks.zip ys.toList).drop k=[]:=hV (by rw[se];have:ys.toList.length=ys.size:=ly;lia);rw[e] at q;obtain⟨o,es,ep,ho,r⟩:=hd;exact q _ s.toks ⟨o,es,ep,kp d o hdz hdT hd1 hd2 ho,r⟩ λc o _ c1 c2 c3 c4 e=>kp c o c1 c2 c3 c4 e
 |succ m ih=>
  intro k s kvs hkm hl Z hd q;have hlt:k<xs.size:=by lia
  have hlt2:k<ys.size:=by lia
  have hx:xs[k]?=aa xs[k]:=mi hlt;have hy:ys[k]?=aa ys[k]:=mi hlt2;obtain⟨key,hkey,his⟩:=hk k _ hx;refine jd iC ?_;rw[kb (show ke "dict.update.loop"=ag by decide +kernel) _];refine ao (Q5 ap Z hx hy λh' p Z' hp kp=>?_);refine ao (dE (ao (wj ?_)));refine ao (io ⟨_,hp,rfl⟩ ?_);rw[aq 0x4];refine ao (eu hp rfl (az ?_));show ϑ _ _ (ky [xs[k],ys[k]] (wm d xs[k] ys[k])) _ _ _;have hd':h'.DictOf knd d kvs:=let ⟨o,es,ep,ho,r⟩:=hd;⟨o,es,ep,kp d o hdz hdT hd1 hd2 ho,r⟩
  obtain⟨od,es,ep,ho,hc,_⟩:=id hd';refine dE (zw his hd' (λh2 hd2' sb=>?_) 0x1);refine az ⟨je _ 0x6,?_⟩;have ek:(b9 (k+1):al)=b9 ((k+1:ah):ak):=rfl;rw[ek];have hzip:(ks.zip ys.toList).drop k=(key,ys[k])::(ks.zip ys.toList).drop (k+1):=by
   have hlz:(ks.zip ys.toList)[k]?=aa (key,ys[k]):=by
    rw[Cs];exact⟨hkey,by rw[vc];exact hy⟩
   obtain⟨h1,h2⟩:=dq.mp hlz;rw[iz h1,h2]
  have ls:(gL kvs key ys[k]).length<=kvs.length+1:=by
   unfold gL;split
   .rw[br];lia
   .rw[b6];exact bo _
  refine ih (k+1) _ (gL kvs key ys[k]) 0x1 0x1 (Z'.keep ho hc.1 λc o hcd e=>(sb.2 c hcd).trans e) hd2' λh3 tk hd3 kp3=>?_
  refine q h3 tk (by rw[hzip];exact hd3) λc o c0 c1 c2 c3 c4 e=>kp3 c o c0 c1 c2 c3 c4 ((sb.2 c c0).trans (kp c o c1 c2 c3 c4 e))
end
section
variable {prog:bu} {w:bn} {K:Type} [dn K] {knd:KeyKind prog w K} {A:bP} {E:al->ar->Prop} {hp:aE} {g:aI jz} {dr:jI} {tk:ah} {os:jS} {z TI TO i1 i2 l1 l2:am} {n1 n2:ah} {d1 d2:au am} {s1 s2:aI (au al)} {xs ys:aI al} {ks:ae K}
def G4(hh:A.handled=ai)(ap:Apart z TI TO i1 i2 l1 l2)(hw:W z TI TO i1 i2 l1 l2 (tuO xs n1 d1 s1) (lsO ys n2 d2 s2) .none (.bool aj) a b 0 0 hp)(hsz:ys.size=xs.size)(hxs:xs.size<=1000)(hk:∀(i:ah) (x:al),xs[i]?=aa x->∃k,ks[i]?=aa k/\knd.is k x=ag)
 (q:∀h' tk',h'.DictOf knd hp.objs.size (ir [] (ks.zip ys.toList))->JR z TO i1 i2 hp h'->Q (.ref hp.objs.size) ⟨h',g,dr,tk',os⟩) :
  ϑ (ay prog w) A (call (.type "dict") [.ref z]) Q E ⟨hp,g,dr,tk,os⟩:=by
 have hnew:(hp.push {cls:=.type "dict",data:=.dict #[]}).DictOf knd hp.objs.size []:=vg hp;have up:∀c o,hp.get? c=aa o->(hp.push {cls:=.type "dict",data:=.dict #[]}).get? c=aa o:=λc o e=>bS _ e
 have lt:∀{c o},hp.get? c=aa o->hp.objs.size≠c:=λe=>fA (bw e)
 refine sg (Q₁:=λv s₁=>v=.ref hp.objs.size/\s₁=⟨hp.push {cls:=.type "dict",data:=.dict #[]},g,dr,tk,os⟩) wn (wo _) wq (wt _ ⟨rfl,rfl⟩) λv s₁ hv=>?_
 obtain⟨rfl,rfl⟩:=hv;have ty:(⟨hp.push {cls:=.type "dict",data:=.dict #[]},g,dr,tk,os⟩:ar).TypeIs (.ref hp.objs.size) "dict":=hnew.typeIs;have ez:=up _ _ hw.z_;have tz:(⟨hp.push {cls:=.type "dict",data:=.dict #[]},g,dr,tk,os⟩:ar).TypeIs (.ref z) "zip":=⟨_,ez,rfl⟩
 refine⟨ty,wu _ _,ao (ao (wv ty (az ?_)))⟩;refine ao (io tz ?_);rw[aq 0x4];refine ao (lacks ez hh λh' tk' kp=>?_);rw[aq (show(ai:au al).isNone=ag from rfl)];refine ao (hZ (ao (Ct (TO:=TO) (f0:=.none) (kp _ _ ez) (az ⟨je _ 0x6,?_⟩))));have hd':h'.DictOf knd hp.objs.size []:=let ⟨o,es,ep,ho,r⟩:=hnew;⟨o,es,ep,kp _ _ ho,r⟩
 refine o_ (A:=A.in1) (ks:=ks) (show A.in1.handled=ai from hh) ap (lt hw.z_) (lt hw.to) (lt hw.j1) (lt hw.j2) hsz hk xs.size 0 ⟨h',g,dr,tk',os⟩ [] 0x1 (by rw[iq,cy];lia) ⟨_,_,_,_,hw.up λc o _ e=>kp c o (up c o e),.inl ⟨rfl,rfl⟩⟩ hd' λh2 tk2 hd2 kp2=>?_
 exact⟨rfl,q h2 tk2 hd2 λc o c1 c2 c3 c4 e=>kp2 c o (λx=>lt e x.symm) c1 c2 c3 c4 (kp c o (up c o e))⟩
end
end Wy
namespace Mi
open PySem L2 PySem.SeqAt PySem.Spec PyProof.Rows
def kI:ae D->Res D
 |[.tup xs,.lst ys]=>if ϒ (xs.length<=1000)&&ϒ (ys.length=xs.length)&&xs.all dZ&&δ ys then .ok (.dct (gK xs ys [])) else .bad
 |_=>.bad
section
variable [KFrag]
def Rep.aS5(r:Rep P H v (.lst ds)):∃a vs,v=.ref a/\H a=aa (.lst vs)/\bJ P H vs ds:=by
 obtain⟨_,_,rfl,e,_,r⟩:=r.inv;exact⟨_,_,rfl,e,r⟩
section
theorem aFb(hg:Gl X "dict")(hm:X.mg "dict"=ai)(hg2:Gl X "zip")(hm2:X.mg "zip"=ai)(ha:PA X [a,b] (gA fs rr))(hc:X.calm=ag:=by rfl)(hs2:cw [a,b] X.env=(aj,eval a X.env)::cw [b] X.env:=by rfl)(hpl2:(gw pos2 (cw [b] X.env)).any (·.1)=aj:=by rfl)
 (hs:cw [.Call (.Name "zip" p2) [a,b] [] pos2] X.env=(aj,eval (.Call (.Name "zip" p2) [a,b] [] pos2) X.env)::cw [] X.env:=by rfl) :
  PE X (.Call (.Name "dict" p) [.Call (.Name "zip" p2) [a,b] [] pos2] [] pos) (gE (aQ kI fs) ag):=by
 intro Ψ s σ H Q I ⟨ρ,d,E,h,q⟩;obtain⟨xs,h1,h2⟩:=bA h;unfold kI at h2;split at h2
 .rename_i xs ys;split at h2
  .rename_i hb;cases h2;simp only[ba,c_] at hb;obtain⟨⟨⟨hb1,hb2⟩,hb3⟩,hb4⟩:=hb;refine fR (jP I hg hm wH ?_);refine hG ?_ hs rfl;rw[hs];show ϑ _ _ (jj ((aj,eval (.Call (.Name "zip" p2) [a,b] [] pos2) X.env)::gw pos (cw [] X.env))) _ _ s;refine kG ?_;refine fR (jP I hg2 hm2 boot_zip ?_);refine hG (thn (ha pos2 Ψ s σ H (λvs H1=>bK H H1/\bJ All H1 vs [.tup xs,.lst ys]) I ⟨ρ,_,E,h1,λvs H1 s1 r1 _=>⟨s1,r1⟩⟩) λus s1 ⟨vs,H1,I1,r1,sm,rp⟩=>?_) hs2 hpl2;cases rp with
   |cons rp1 rp=>
    cases rp with
    |cons rp2 rp=>
     cases rp;obtain⟨l1,vs1,rfl,e1,rr1⟩:=rp1.eO;obtain⟨l2,vs2,rfl,e2,rr2⟩:=rp2.aS5;cases r1 with
     |cons q1 r1=>
      cases r1 with
      |cons q2 r1=>
       cases r1;cases q1;cases q2;obtain⟨its1,w1,p1,_⟩:=I1.tuple (.of e1);obtain⟨_,its2,m2,w2,g2⟩:=I1.hok _ _ e2;have t1:s1.heap.IsTuple l1 its1.toArray:=p1;have t2:s1.heap.IsList l2 its2.toArray:=⟨_,g2,rfl,_,rfl⟩
       obtain⟨⟨c1,dd1,da1,sl1⟩,g1,hc1,m1,hd1⟩:=id p1;simp only at hc1 hd1;subst hc1 hd1;have hl1:=bw g1;have hl2:=bw g2;refine Wy.aB7 t1 t2 λh' n hn z1 z2 z3 z4 z5 kp zsz=>?_
       subst hn;refine kA ?_;have n1:=w1.length;have n2:=w2.length;have m1:=rr1.length;have m2:=rr2.length;obtain⟨ks,k1,k2,k3⟩:=Q6 rr1 w1 hb3;refine Wy.G4 (I1.ok.hd hc) (K1 hl1 hl2) ⟨z5,z3,z4,z1,z2,kp _ _ g1,kp _ _ g2⟩ (by simp only[b5];lia) (by simp only[b5];lia) (λi u hu=>k3 i u (by simpa using hu)) λh2 tk dd kp2=>?_
       have hfr:H1 h'.objs.size=ai:=I1.hok.fresh (by rw[zsz];lia);have kall:∀c o,s1.heap.get? c=aa o->h2.get? c=aa o:=λc o e=>by
        have:=bw e;exact kp2 c o (cg (de this (kf _ 4))) (cg (de this (kf _ 3))) (cg this) (cg (de this (kf _ 1))) (kp c o e)
       have rel:KV (cX [] (ks.zip vs2)) (ir [] (ks.zip its2)):=(aHl w2 ks).merge .nil;have hz:(cX [] (ks.zip vs2)).length<=bd:=by
        have:=fU (ks.zip vs2) [];rw[iq,se] at this;rw[cy];lia
       obtain⟨rk,nd⟩:=G6 (rr2) e_.nil gq;rw[k1] at rk;have sp:bK H1 (upd H1 h'.objs.size (.dK (cX [] (ks.zip vs2)))):=bK.upd hfr;have pv:δ ((gK xs ys []).map (·.2))=ag:=by
        have go:∀(a b:ae D)(m:ae (D×D)),δ b=ag->δ (m.map (·.2))=ag->δ ((gK a b m).map (·.2))=ag:=by
         intro a;induction a with
         |nil=>intro b m _ hm;cases b<;>exact hm
         |cons x a ih=>
          intro b m hb hm;cases b with
          |nil=>exact hm
          |cons y b=>
           rw[δ,ba] at hb;refine ih b _ hb.2 ?_;have hp:=gW (ds:=m) (k:=x) hb.1 hm;exact hp
        exact go xs ys [] hb4 rfl
       have rk2:∀{P:am->Prop},e_ P (upd H1 h'.objs.size (.dK (cX [] (ks.zip vs2)))) (cX [] (ks.zip vs2)) (gK xs ys []):=λ{P}=>(rk.keep (.same sp) λ_ h=>h).bQ pv
       refine⟨.ref h'.objs.size,_,I1.laid (a:=h'.objs.size) (t':=tk) (o:=.dK (cX [] (ks.zip vs2))) kall (by rw[zsz];lia) (CG hz (fq.mpr ?_) rel (by simpa using dd)),rfl,?_⟩
       .exact Ne.symm (cg (de I1.big (by rw[zsz];exact kf _ 5)))
       .exact q _ _ (sm.trans sp) (.dK aF trivial rk2 nd) λ_=>.dK aF (sm.free hfr) rk2 nd
  .exact bx h2
 .exact bx h2
end
end
noncomputable abbrev FX:=ae D->Res (D×ae D)
noncomputable abbrev FXT:=ae D->Res (aw×ae D)
noncomputable def aBh:D->au (ae D)
 |.lst xs=>aa xs
 |.cel _ xs=>aa xs
 |_=>ai
noncomputable def aS6:D->ae D->D
 |.cel a _,xs=>.cel a xs
 |_,xs=>.lst xs
noncomputable def x2R(f:D->D->Res D)(fa:FE)(fb:FX):FX:=λρ=>do
 let x <- fa ρ
 let p <- fb ρ
 let d <- f x p.1
 if d.pure then .ok (d,p.2) else .bad
def xTB(f:FX):FXT:=λρ=>do
 let p <- f ρ
 let b <- asB p.1
 .ok (b,p.2)
noncomputable def aOg(c:FXT)(f g:FS):FS:=λρ=>do
 let p <- c ρ
 if p.1 then f p.2 else g p.2
noncomputable def bPu(f:FE):FE:=λρ=>do
 let d <- f ρ
 if d.pure then .ok d else .bad
section
variable [KFrag]
section
variable {own:ah->aw}
def aOh(r:Rep P H (.ref a) d)(h:aBh d=aa xs):∃vs,H a=aa (.lst vs)/\P a/\bJ P H vs xs:=by
 cases d<;>simp only[aBh] at h<;>cases h<;>cases r
 .exact⟨_,by assumption,by assumption,by assumption⟩
 .exact⟨_,by assumption,by assumption,by assumption⟩
def aK1(r:Rep P H v (.cel b xs)):v=.ref b:=by cases r;rfl
def aOi(r:Rep P H (.ref a) d)(h:aBh d=aa xs)(e:H' a=aa (.lst vs'))(p:P' a)(r':bJ P' H' vs' xs'):Rep P' H' (.ref a) (aS6 d xs'):=by
 cases d<;>simp only[aBh] at h<;>cases h<;>cases r
 .exact .lst e p r'
 .exact .cel e p r'
def aOj(h:aBh d=aa xs):inner d=δ xs:=by
 cases d<;>simp only[aBh] at h<;>cases h<;>rfl
def aK2(h:aBh d=aa xs):inner (aS6 d xs')=δ xs':=by
 cases d<;>simp only[aBh] at h<;>cases h<;>rfl
def aOk(h:aBh d=aa xs):d≠.uD:=λz=>by subst z;cases h
def NS(own:ah->aw)(ρ ρ':ae D):Prop:=∀i,own i=aj->ρ'.getD i .uD=ρ.getD i .uD
def NS.refl:NS own ρ ρ:=λ_ _=>rfl
def NS.set(ho:own i=ag):NS own ρ (ρ.set i d):=λj hj=>by
 rw[cN,ax];rintro⟨rfl,_⟩;rw[ho] at hj;cases hj
def kX(own:ah->aw)(σ:L2.St)(H:Hp)(ρ:ae D)(d:D)(ρ':ae D)(Q:VK):Prop:=∀v H',KU own σ H σ H'->ES own H' σ ρ'->NS own ρ ρ'->Rep (New H) H' v d->Q v H'
noncomputable def gX(own:ah->aw)(f:FX):TE:=λσ H Q=>∃ρ d ρ',ES own H σ ρ/\f ρ=.ok (d,ρ')/\kX own σ H ρ d ρ' Q
noncomputable def gXT(own:ah->aw)(f:FXT):TT:=λσ H Q=>∃ρ d ρ',ES own H σ ρ/\f ρ=.ok (d,ρ')/\∀H',KU own σ H σ H'->ES own H' σ ρ'->NS own ρ ρ'->Q d H'
def G8(E:ES own H σ ρ)(h:H a=ai):¬Own own σ a:=λn=>by
 obtain⟨o',e,_⟩:=E.live n;rw[h] at e;cases e
def aK3(E:ES own H σ ρ)(E1:ES own H1 σ ρ1)(k:KU own σ H1 σ H2):z6 (New H) H1 H2:=λa o e hp=>by
 refine(k a o e ?_).1;rcases hp with hp|hp
 .exact G8 E hp
 .intro n;obtain⟨o',e',hm⟩:=E1.live n;rw[e] at e';cases e';rw[hp] at hm;cases hm
def Rep.ku(r:Rep (New H) H1 v d)(E:ES own H σ ρ)(E1:ES own H1 σ ρ1)(k:KU own σ H1 σ H2):Rep (New H) H2 v d:=r.keep (aK3 E E1 k) λ_ h=>h
end
section
variable {own:ah->aw} {X:Cx} {c:Expr} {pos:cm} {fa:FE} {xb:FX}
def aUn{fr:aw}(h:gX own (x2R f fa xb) σ H Q):tOp (r2 f fr) (gE fa ag) (gX own xb) σ H Q:=by
 obtain⟨ρ,d,ρ',E,h,q⟩:=h;obtain⟨x,h1,h⟩:=bA h;obtain⟨⟨y,ρ1⟩,h2,h⟩:=bA h;obtain⟨z,h3,h⟩:=bA h;split at h
 .rename_i hz;cases h;refine⟨ρ,x,E.er,h1,λv H1 s1 r1 n1=>⟨ρ,y,ρ1,E.same s1,h2,λw H2 k2 E2 ns r2=>⟨x,y,_,((n1 rfl).ku E (E.same s1) k2).all,r2.all,h3,λu H3 s3 r3 _=>?_⟩⟩⟩;exact q u H3 ((KU.same s1).trans (k2.trans (.same s3))) (E2.same s3) ns (r3.bQ hz)
 .exact bx h
def aS7(hc:PT X c (gXT own xc))(ha:PSs X s1 (tS own f))(hb:PSs X s2 (tS own g)):PS X (.If c s1 s2 pos) (tS own (aOg xc f g)):=PS.imp (DW hc ha hb) λD σ H z0=>by
 obtain⟨ρ,fl,E,h,q⟩:=z0;obtain⟨⟨k,ρ1⟩,h1,h2⟩:=bA h;refine⟨ρ,k,ρ1,E,h1,λH' ku E1 ns=>?_⟩;cases k with
 |true=>rw[aq rfl];rw[aq rfl] at h2;exact⟨ρ1,fl,E1,h2,q.step ku⟩
 |false=>rw[ax 0x2];rw[ax 0x2] at h2;exact⟨ρ1,fl,E1,h2,q.step ku⟩
end
section
variable {own:ah->aw} {a b e:Expr}
def aK4(E:ES own H σ ρ)(ho:own i=ag)(h:aBh (ρ.getD i .uD)=aa xs):∃a vs,σ[i]?=aa (aa (.ref a))/\H a=aa (.lst vs)/\bJ All H vs xs/\δ xs=ag/\Rep All H (.ref a) (ρ.getD i .uD)/\∀b,ρ.getD i .uD=.cel b xs->b=a:=by
 obtain⟨a,o,hσ,r,hin,ha,hm⟩:=E.ownAt ho (aOk h);obtain⟨vs,e,_,rr⟩:=aOh r h;exact⟨a,vs,hσ,e,rr,by rw[aOj h] at hin;exact hin,r,λb hb=>by rw[hb] at r;have:=aK1 r;cases this;rfl⟩
end
end
noncomputable def xcf(f:FX):ae D->ae D->ae D->Res (ae D×ae D)
 |acc,[],ρ=>.ok (acc,ρ)
 |acc,x::xs,ρ=>do
  let p <- f (ρ++[x])
  if p.1.pure then xcf f (acc++[p.1]) xs p.2.dropLast else .bad
def aBi(it:FI)(f:FX):FX:=λρ=>do
 let xs <- it ρ
 if xs.2&&ϒ (xs.1.length<=lim) then (do
  let p <- xcf f [] xs.1 ρ
  .ok (.lst p.1,p.2)) else .bad
section
variable [KFrag]
section
variable {own:ah->aw} {X:Cx} {a b c e:Expr}
def YH{a:am}{vs:ae V}(I:Inv X Ψ σ H s)(e:H a=aa (.lst vs)):∃o,Inv X Ψ σ (upd H a (.frz o (.lst vs))) s:=by
 obtain⟨its,n,r,ho,hz⟩:=I.lst e;refine⟨_,I.write (by rw[e];trivial) (.inl rfl) (λ_ _ _ q=>q) ⟨_,ho⟩ ⟨ho,hz,its,n,r,ho⟩⟩
def ES.aUo(E:ES own H σ ρ)(k:KU own σ H σ H5)(E5:ES own H5 σ ρ5)(ns:NS own ρ ρ5)(hp:H p=ai)(e5:H5 p=aa (.lst vs)):ES own (upd H5 p o) σ ρ5/\KU own σ H σ (upd H5 p o):=by
 have k':KU own σ H σ (upd H5 p o):=λb ob e n=>⟨by rw[aM (bF e hp)];exact(k b ob e n).1,n⟩
 refine⟨⟨E5.len,λj hj=>?_,λj w hj hw=>?_⟩,k'⟩
 .obtain⟨w,h1,h2⟩:=E5.at_ j hj;refine⟨w,h1,λhoj=>?_⟩;rw[ns j hoj] at hj ⊢;obtain⟨w',h1',h2'⟩:=E.at_ j hj;rw[h1] at h1';cases h1';exact k'.rep E (h2' hoj)
 .obtain⟨b,ob,h1,h2,h3,h4,h5,h6⟩:=E5.own j w hj hw;subst h1;have hbp:b≠p:=λz=>by subst z;exact G8 E hp ⟨j,hj,hw⟩
  refine⟨b,ob,rfl,?_,h3,by rw[aM hbp];exact h4,h5,h6⟩;refine(h2.aR6 (P':=λc=>c=b) h3 rfl).keep (λc oc hc hq=>?_) λ_ _=>trivial
  rw[aM]
  .exact hc
  .intro z;subst z;rcases hq with hq|hq
   .exact hbp hq.symm
   .rw[e5] at hc;cases hc;cases hq
def ES.snoc(E:ES own H σ ρ)(ho:own σ.length=aj)(r:Rep (λa=>¬Own own σ a) H x d):ES own H (σ++[aa x]) (ρ++[d])/\∀a,Own own (σ++[aa x]) a↔Own own σ a:=by
 have hO:∀a,Own own (σ++[aa x]) a↔Own own σ a:=λa=>by
  constructor
  .rintro⟨i,hi,e⟩;by_cases hl:i<σ.length
   .exact⟨i,hi,by rw[d4 hl] at e;exact e⟩
   .by_cases hq:i=σ.length
    .subst hq;rw[ho] at hi;cases hi
    .rw[dS 0x1] at e;rw[iE (by simp;lia)] at e;cases e
  .rintro⟨i,hi,e⟩;exact⟨i,hi,by rw[d4 (dq.mp e).1];exact e⟩
 have hOf:(λa=>¬Own own (σ++[aa x]) a)=λa=>¬Own own σ a:=funext λa=>by rw[hO]
 refine⟨⟨by simp[E.len],λi hi=>?_,λi v hi hv=>?_⟩,hO⟩
 .rw[hOf];by_cases hl:i<σ.length
  .have e:(ρ++[d]).getD i .uD=ρ.getD i .uD:=by rw[cx,d4 (by rw[<-E.len];exact hl),cx]
   rw[e] at hi ⊢;obtain⟨v,h1,h2⟩:=E.at_ i hi;exact⟨v,by rw[d4 hl];exact h1,h2⟩
  .by_cases hq:i=σ.length
   .subst hq;have e:(ρ++[d]).getD σ.length .uD=d:=by rw[E.len];simp
    rw[e];exact⟨x,by simp,λ_=>r⟩
   .exfalso;apply hi;rw[cx,iE (by simp;rw[<-E.len];lia)];rfl
 .have hl:i<σ.length:=ox λhge=>by
   by_cases hq:i=σ.length
   .subst hq;rw[ho] at hi;cases hi
   .rw[iE (by simp;lia)] at hv;cases hv
  rw[d4 hl] at hv;have e:(ρ++[d]).getD i .uD=ρ.getD i .uD:=by rw[cx,d4 (by rw[<-E.len];exact hl),cx]
  rw[e];obtain⟨b,ob,h1,h2,h3,h4,h5,h6⟩:=E.own i v hi hv;refine⟨b,ob,h1,h2,h3,h4,h5,λj hj hs=>?_⟩;have hjl:j<σ.length:=ox λhge=>by
   by_cases hq:j=σ.length
   .subst hq;rw[ho] at hj;cases hj
   .rw[iE (by simp;lia)] at hs;cases hs
  exact h6 j hj (by rw[d4 hjl] at hs;exact hs)
def ES.aOl(E:ES own H (σ++[x]) ρ)(hO:∀a,Own own (σ++[x]) a↔Own own σ a):ES own H σ ρ.dropLast:=by
 have hl:ρ.length=σ.length+1:=by rw[<-E.len];simp
 have gd:∀i,i<σ.length->ρ.dropLast.getD i .uD=ρ.getD i .uD:=λi hi=>by
  rw[cx,cx,CM,aq 0x1]
 have hOf:(λa=>¬Own own (σ++[x]) a)=λa=>¬Own own σ a:=funext λa=>by rw[hO]
 refine⟨by simp[hl],λi hi=>?_,λi v hi hv=>?_⟩
 .have hlt:i<σ.length:=ox λhge=>hi (by rw[cx,iE (by simp;lia)];rfl)
  rw[gd i hlt] at hi ⊢;obtain⟨v,h1,h2⟩:=E.at_ i hi;rw[hOf] at h2;exact⟨v,by rw[d4 hlt] at h1;exact h1,h2⟩
 .have hlt:i<σ.length:=(dq.mp hv).1;rw[gd i hlt];obtain⟨b,ob,h1,h2,h3,h4,h5,h6⟩:=E.own i v hi (by rw[d4 hlt];exact hv);exact⟨b,ob,h1,h2,h3,h4,h5,λj hj hs=>h6 j hj (by rw[d4 (dq.mp hs).1];exact hs)⟩
def YJ{K:aT}(ho:own n=aj)(hn:σ.length=n)(h:gX own (aBi it f) σ H Q) :
  QL (gI K it) (gR n) (λ_ H Q=>Q ag H) (gX own f) 1 σ H Q:=by
 obtain⟨ρ,d,ρ',E,h,q⟩:=h;obtain⟨⟨items,kk⟩,h1,h⟩:=bA h;split at h
 .rename_i hk;rw[ba] at hk;obtain⟨⟨ys,ρf⟩,h2,h⟩:=bA h;cases h;refine⟨ρ,items,kk,E.er,h1,λJ H1 s1 _ hJ p hp=>?_⟩;have hp0:H p=ai:=s1.free hp;have hJ1:ItQ K (λa=>¬Own own σ a) J H1 items:=(hJ hk.1).keep (λ_ _ e _=>e) λa ha=>G8 E ha
  have E1:ES own H1 σ ρ:=E.same s1;refine⟨λi n' vs H'=>n'=items.length-i/\i<=items.length/\H' p=aa (.lst vs)/\KU own σ H1 σ H'/\∃acc ρc,acc.length<=i/\δ acc=ag/\bJ (λ_=>cf) H' vs acc/\ES own H' σ ρc/\NS own ρ ρc/\xcf f acc (items.drop i) ρc=.ok (ys,ρf),⟨items.length,?_⟩,?_⟩
  .exact⟨rfl,eP _,aF,.same (bK.upd hp),[],ρ,eP _,rfl,.nil,E1.same (bK.upd hp),.refl,h2⟩
  .rintro i n' vs H' ⟨rfl,hi,hH,ku,acc,ρc,hal,hpa,racc,Ec,ns,hf⟩;refine⟨hH,?_⟩;have hJ':ItQ K (λa=>¬Own own σ a) J H' items:=hJ1.ku ku E1;rcases lb i items.length with hlt|hge
   .refine .inr ?_;have e:items[i]?=aa items[i]:=eh hlt;obtain⟨g1,g2⟩:=hJ'.go e;have hl1:items.length<=lim:=dy hk.2;refine⟨g1,?_,λx H2 hy=>?_⟩
    .rw[racc.length];exact ot hal (de hlt (dg hl1 (by rw[cy];decide)))
    .obtain⟨sH,rx⟩:=g2 x H2 hy;have es:(σ++bi 1 ai).set n (aa x)=σ++[aa x]:=by
      subst hn;simp
     show Ext _ ((σ++bi 1 ai).set n (aa x))/\_;rw[es];rw[iz hlt] at hf;obtain⟨⟨y,ρ2⟩,hfy,hf⟩:=bA hf;split at hf
     .rename_i hpy;have Ec2:=Ec.same sH;obtain⟨E2,hO⟩:=Ec2.snoc (by rw[hn];exact ho) rx;refine⟨⟨by simp,λj v hv=>?_⟩,?_⟩
      .by_cases hj:j<σ.length
       .rw[d4 hj] at hv ⊢;exact hv
       .rw[dS 0x1,hI] at hv;split at hv<;>cases hv
      .dsimp only;rw[aq rfl];refine⟨_,y,ρ2,E2,hfy,λw H5 k5 E5 ns5 r5=>?_⟩;have k5':KU own σ H2 σ H5:=λb ob eb nb=>⟨(k5 b ob eb (by rw[hO];exact nb)).1,nb⟩
       have hpn:¬Own own σ p:=G8 E hp0;have hp5:H5 p=aa (.lst vs):=(k5' p _ (sH p _ hH) hpn).1;have E5':ES own H5 σ ρ2.dropLast:=E5.aOl hO;have hlc:ρc.length=σ.length:=Ec.len.symm;have nsc:NS own ρ ρ2.dropLast:=λj hj=>by
        by_cases hjl:j<σ.length
        .have hl2:ρ2.length=σ.length+1:=by rw[<-E5.len];simp
         rw[<-ns j hj,cx,CM,aq 0x1,<-cx,ns5 j hj,cx,d4 0x1,<-cx]
        .rw[cx,iE (by rw[<-E5'.len];lia),cx,iE (by rw[<-E.len];lia)]
       have ku5:KU own σ H1 σ H5:=ku.trans ((KU.same sH).trans k5');obtain⟨E6,k6⟩:=E1.aUo ku5 E5' nsc hp hp5;refine⟨hp5,items.length-(i+1),by lia,rfl,hlt,aF,k6,acc++[y],ρ2.dropLast,?_,?_,?_,E6,nsc,hf⟩
       .rw[b6,eR];lia
       .rw[fX,hpa];simp[δ,hpy]
       .have hpk:z6 (λ_=>cf) H2 H5:=λc oc hc hq=>by
         refine(k5' c oc hc λnn=>?_).1;obtain⟨o',e',hm⟩:=Ec2.live nn;rw[hc] at e';cases e';rcases hq with hq|hq
         .exact hq
         .rw[hm] at hq;cases hq
        have r1:bJ (λ_=>cf) H5 vs acc:=(racc.same sH).keep hpk λ_ z=>z
        have r2:bJ (λ_=>cf) H5 (vs++[w]) (acc++[y]):=r1.snoc (r5.bQ hpy);exact r2.keep (yI hp5 rfl) λ_ z=>z
     .exact bx hf
   .refine .inl ⟨hJ'.stop hge,?_⟩;rw[hV hge] at hf;cases hf;exact q _ _ ((KU.same s1).trans ku) Ec ns (.lst hH hp0 (racc.mono λ_ z=>z.elim))
 .exact bx h
end
section
def cA(ha:PE X a (gE fa ra)):PE X a (gE (bPu fa) ag):=PE.imp ha λσ H Q z0=>by
 obtain⟨ρ,d,E,h,q⟩:=z0;obtain⟨x,h1,h⟩:=bA h;split at h
 .rename_i hp;cases h;exact⟨ρ,_,E,h1,λv H' s r _=>q v H' s r λ_=>r.bQ hp⟩
 .exact bx h
end
end
noncomputable def YK(i:ah):FX:=λρ=>match ρ.getD i .uD with
 |.lst xs=>(match xs[xs.length-1]? with|some x=>.ok (x,ρ.set i (.lst xs.dropLast))|none=>.bad)
 |_=>.bad
section
variable [KFrag]
section
variable {own:ah->aw} {a:Expr}
def aK5(ho:own i=ag)(hN:X.N[i]?=aa x)(hv:Vis X.env.scope x)(hd:nDb x:=by decide)(hcd:nCd x:=by decide)
 (hbase:gl (.Name x p1) "pop" X.env (eval (.Name x p1) X.env)=eval (.Name x p1) X.env:=by rfl)
 (hline:(apos.endLine==cpos.line)=ag:=by rfl) :
  PE X (.Call (.Attribute (.Name x p1) "pop" apos) [] [] cpos) (gX own (YK i)):=
 PE.imp (J4 iA n4 wx TX (a_ hN hv hd hcd) hbase hline) λσ H Q z0=>by
 obtain⟨ρ,d,ρ',E,h,q⟩:=z0;unfold YK at h;split at h
 .rename_i xs hx;split at h
  .rename_i dx hdx;cases h;obtain⟨a,o,hσ,r,hin,ha,hm⟩:=E.ownAt ho (by rw[hx];intro z;cases z);rw[hx] at r hin;obtain⟨vs,hl,rr⟩:=U4 r;obtain⟨v,hvx,rv⟩:=rr.get hdx;have hlen:=rr.length;refine⟨_,hσ,.inl ⟨rfl,vs,.of hl⟩,a,vs,v,rfl,rfl,hl,by rw[hlen];exact hvx,?_⟩;have hin':δ xs=ag:=hin;have pall:∀y∈xs,y.pure=ag:=λy hy=>cP.mp hin' y hy
   have pdx:d.pure=ag:=pall d (l6 hdx);have pe:δ xs.dropLast=ag:=cP.mpr λy hy=>pall y (zx _ hy)
   have er:bJ All H vs.dropLast xs.dropLast:=by
    rw[mB,mB,hlen];exact rr.take _
   obtain⟨E2,k2⟩:=E.mut ho hσ rfl (.lst aF trivial (er.upd pe hl rfl)) pe;have r1:=(bJ.cons rv .nil).upd (o:=.lst vs.dropLast) (by rw[δ,pdx];rfl) hl rfl;cases r1 with
   |cons r1 _=>exact q _ _ k2 E2 (.set ho) (r1.bQ pdx)
  .exact bx h
 .exact bx h
end
end
variable [KFrag]
section
variable {prog:bu} {w:bn} {A:bP} {E:al->ar->Prop} {s:ar}
def K4(hne:t≠it):∀(n i:ah)(s:ar)(Q:ae al->ar->Prop),s.heap.IsListIter it t i->s.heap.IsList t items->i+n<=items.size->
  (∀h',h'.IsListIter it t (i+n)->di it s.heap h'->Q ((items.toList.drop i).take n) {s with heap:=h'})->ϑ (ay prog w) A (draw (.ref it) n) Q E s
 |0,i,s,Q,hit,_,_,hQ=>by
  show ϑ _ _ (pure []) Q E s;exact az (by simpa using hQ s.heap hit (zh ..))
 |n+1,i,s,Q,hit,ht,hle,hQ=>by
  have hlt:i<items.size:=by lia
  have keep:∀{h h':aE},h.IsList t items->di it h h'->h'.IsList t items:=λ{h h'} ⟨o,e,r⟩ sb=>⟨o,(sb.2 t hne).trans e,r⟩
  show ϑ _ _ (ff (.ref it) >>= _) Q E s;refine ao (sF hit ht (x:=items[i]) (by simp[hlt]) λh₁ hit₁ hs₁=>?_);refine ao (dE (K4 hne n (i+1) _ _ hit₁ (keep ht hs₁) 0x1 λh₂ hit₂ hs₂=>az ?_));have hd:items.toList.drop i=items[i]::items.toList.drop (i+1):=by simp[iz,hlt]
  have:=hQ h₂ (by rw[show i+(n+1)=i+1+n by lia];exact hit₂) (hs₁.trans hs₂);rw[hd,CO] at this;exact this
def Q8(hh:A.handled=ai)(ht:s.heap.IsList t items)
 (hn:targets.length=items.size)(hstar:targets.findIdx? (·.1)=ai)
 (h:∀h',oz s.heap.objs.size s.heap h'->ϑ (ay prog w) A (AF (targets.map (·.2)) items.toList) Q E {s with heap:=h'}) :
  ϑ (ay prog w) A (unpack (.ref t) targets) Q E s:=by
 have hlt:t≠s.heap.objs.size:=by obtain⟨o,ho,_⟩:=ht;exact cg (bw ho)
 have push:∀o,(s.heap.push o).IsList t items:=λo=>let ⟨o',e,r⟩:=ht;⟨o',bS _ e,r⟩
 unfold unpack;rw[hn,hstar];refine ao (dE ?_);unfold unpackItems;refine ao ?_;unfold notIterableAtAll;refine ao (lc ht.typeIs PySem.F.slot_list_iter.lookup ?_);refine az ?_;simp only[fT,dw];refine ao (dE (jc ht ?_));refine ao (dE (K4 hlt items.size 0 _ _ ⟨_,cu _ rfl,rfl,rfl⟩ (push _) 0x1 λh₁ hit₁ hs₁=>?_));have hall:List.take items.size (List.drop 0 items.toList)=items.toList:=by
  rw[zC];exact sh 0x2
 rw[hall];rw[ax 0x2];have ht₁:h₁.IsList t items:=let ⟨o,e,r⟩:=push {cls:=.type "list_iterator",data:=.fields #[.ref t,.int 0 0]};⟨o,(hs₁.2 t hlt).trans e,r⟩
 refine ao (dE (sK hh hit₁ ht₁ 0x2 λh₂ he₂=>?_));simp only[Option.isSome_none,fT,dw];exact az (h h₂ λb o hb e=>he₂ b o hb (hs₁.extBut b o hb (bS _ e)))
end
section
variable {X:Cx} {e:Expr} {pos:cm}
noncomputable def aOm(K:aT)(n:ah)(t:TGs):TG:=λv σ H Q=>∃a xs,v=.ref a/\SqL K H a xs/\xs.length=n/\t xs σ H Q
def Q9(hc:X.calm=ag)(h:PGs X es t)
 (hn:(iN es X.env).length=n:=by rfl)(hst:(iN es X.env).findIdx? (·.1)=ai:=by rfl):PG X (.Tuple es k pos) (aOm X.K n t):=by
 intro Ψ s σ H v u Q I r hw;obtain⟨a,xs,e1,hq,hl,hw⟩:=hw;subst e1;cases r;obtain⟨its,rv,ht,hz⟩:=I.list hq;rw[assign_Tuple];refine ao (y9 (Q8 (I.ok.hd hc) ht.isList (by simp[hn,<-hl,rv.length]) hst λh' hx=>?_));have I1:Inv X Ψ σ H {s with heap:=h'}:=I.kept λb o e=>hx b o (cg (bw e)) e
 exact h Ψ _ σ H xs _ Q I1 (by simpa using rv) hw
end
end Mi
namespace Mi
open PySem PySem.Spec
namespace Rv
def YL:i8 (.type "tuple") "__reversed__"=pure ai:=by rw[gV,g6];kernel_rfl
def YM:i8 (.type "reversed") "__len__"=pure ai:=by rw[gV,g6];kernel_rfl
def slot_next:kQ "reversed" "__next__" "reversed.__next__":=
 .of (owner:= "reversed") (n:= "__next__") (by rw[gV,g6];kernel_rfl) 0x6 0x6 0x6
  (by first|exact .inl 0x6|exact .inr 0x6) (by rw[mI];kernel_rfl)
def yO:kQ "reversed" "__length_hint__" "reversed.__length_hint__":=
 .of (owner:= "reversed") (n:= "__length_hint__") (by rw[gV,g6];kernel_rfl) 0x6 0x6 0x6
  (by first|exact .inl 0x6|exact .inr 0x6) (by rw[mI];kernel_rfl)
def K5:kQ "reversed" "__iter__" "reversed.__iter__":=
 .of (owner:= "reversed") (n:= "__iter__") (by rw[gV,g6];kernel_rfl) 0x6 0x6 0x6
  (by first|exact .inl 0x6|exact .inr 0x6) (by rw[mI];kernel_rfl)
def entry_next:lh li "reversed.__next__"=aa dh.«reversed.__next__»:=zv 0x8
def YQ:lh li "reversed.__length_hint__"=aa dh.«reversed.__length_hint__»:=zv 0x8
def YS:lh li "reversed.__iter__"=aa dh.«dict_keyiterator.__iter__»:=
 wb (id':= "dict_keyiterator.__iter__") 0x8 (by first|rfl|decide +kernel|(unfold String.splitOn;simp +decide [String.splitOnAux])) 0x6 0x8
def owner:D1.lookup (String.ofList ['d','e','s','r','e','v','e','r'].reverse)=aa D2:=by kernel_rfl
def args_next(a:al):lj "reversed.__next__" ⟨[a],[]⟩:=by
 unfold lj;rw[zD (n:=['_','_','t','x','e','n','_','_']) 0x8 owner];kernel_rfl
def aBj(a:al):lj "reversed.__iter__" ⟨[a],[]⟩:=by
 unfold lj;rw[zD (n:=['_','_','r','e','t','i','_','_']) 0x8 owner];kernel_rfl
def aBk(a:al):lj "reversed.__length_hint__" ⟨[a],[]⟩:=by
 unfold lj;rw[zD (n:=['_','_','t','n','i','h','_','h','t','g','n','e','l','_','_']) 0x8 owner];kernel_rfl
def aBl:kQ "reversed" "__init__" "object.__init__":=
 .of (owner:= "object") (n:= "__init__") (by rw[gV,g6];kernel_rfl) 0x6 0x6 0x6
  (by first|exact .inl 0x6|exact .inr 0x6) (by rw[mI];kernel_rfl)
def called:TypeCalled "reversed" "reversed.__new__" "object.__init__":=
 ⟨by decide +kernel,by decide +kernel,⟨_,_,PySem.F.mro_reversed⟩,PySem.F.made_reversed,by decide +kernel,by rw[mI];kernel_rfl,aBl⟩
noncomputable def obj(t:am)(i:ak):bc:={cls:=.type "reversed",data:=.fields #[.ref t,b9 i]}
def aBm(t:am)(items:aI al)(n:ah)(dct:au am)(sl:aI (au al))(hz:(items.size:ak)<2 ^ 62) :
  hX (dh.«reversed.__new__» ⟨[.type "reversed",.ref t],[]⟩) (λ_ R s=>s.heap.get? t=aa {cls:=.type "tuple",dict:=dct,data:=.seq items n,slots:=sl}/\
   ∀tk,R (.ok (.ret (.ref s.heap.objs.size))) {s with heap:=s.heap.push (obj t ((items.size:ak)-1)),toks:=tk}):=
 .of_wp λprog w A R s h=>by
  obtain⟨hp,g,d,tk,os⟩:=s;obtain⟨hl,h⟩:=h;have hT:(Shared.mk hp g d tk os).TypeIs (.ref t) "tuple":=⟨_,hl,rfl⟩
  unfold dh.«reversed.__new__»;refine ao (g9 (newClass_reversed _) ?_)
  try dsimp only
  refine ao (g9 (by first|rfl|kernel_rfl) ?_);refine ao (g9 (by first|rfl|kernel_rfl) ?_)
  try dsimp only
  refine ao (lc hT YL ?_)
  try dsimp only
  refine ao ?_;refine ao (oS (b:=aj) hT (by rw[mI];kernel_rfl) ?_);refine sk (λhab=>aS hab 0x4) (λ_=>?_);refine ao (lc hT nI.lookup ?_);dsimp only;rw[aq 0x6];refine az ?_;rw[ax 0x4];refine ao (CU ⟨_,hl,rfl,n,rfl⟩ 0x1 ?_);refine ao (g9 rfl ?_);dsimp only;refine ao ?_;unfold D3;exact i7 (az ⟨_,rfl,h _⟩)
def aFc{E:al->ar->Prop}{s:ar}{t:am}{items:aI al}{Q:al->ar->Prop}(hL:s.heap.IsTuple t items)(hz:(items.size:ak)<2 ^ 62)
 (h:∀tk,Q (.ref s.heap.objs.size) {s with heap:=s.heap.push (obj t ((items.size:ak)-1)),toks:=tk}):ϑ (ay prog w) A (call (.type "reversed") [.ref t]) Q E s:=by
 obtain⟨⟨c,dct,dt,sl⟩,hl,hc,n,hd⟩:=hL;replace hc:c=.type "tuple":=hc;replace hd:dt=.seq items n:=hd;subst hc hd;refine zj called 0x4 (PySem.F.typeCall_reversed_1 _) (PySem.F.newCall_reversed_1 _) (λobj=>PySem.F.args_object_init_2 obj _) PySem.F.entry_reversed_new (aBm t items n dct sl hz) ⟨hl,λtk=>⟨⟨_,cu _ rfl,rfl⟩,h tk⟩⟩
def Is(h:aE)(a t:am)(i:ak):Prop:=∃o,h.get? a=aa o/\o.cls=.type "reversed"/\o.data=.fields #[.ref t,b9 i]
def Is.ty{s:ar}(x:Is s.heap a t i):s.TypeIs (.ref a) "reversed":=let ⟨o,ho,hc,_⟩:=x;⟨o,ho,hc⟩
def Is.at(x:Is h a t i)(e:∀o,h.get? a=aa o->h'.get? a=aa o):Is h' a t i:=let ⟨o,ho,r⟩:=x;⟨o,e o ho,r⟩
section
variable {prog:bu} {w:bn} {A:bP} {E:al->ar->Prop} {s:ar}
theorem next_item{i:ah}{items:aI al}{x:al}{Q:au al->ar->Prop}(hit:Is s.heap it t (i:ak))(hl:s.heap.IsTuple t items)(hx:items[i]?=aa x)(hz:(items.size:ak)<2 ^ 62)
 (hQ:∀h' tk,Is h' it t ((i:ak)-1)->di it s.heap h'->Q (aa x) {s with heap:=h',toks:=tk}):ϑ (ay prog w) A (ff (.ref it)) Q E s:=by
 obtain⟨o,ho,hc,hd⟩:=id hit;have hi:i<items.size:=(sr.mp hx).1;unfold ff;refine ao (j3 (ik hit.ty slot_next
  (i6 slot_next hit.ty entry_next ?_ (args_next _))))
 unfold dh.«reversed.__next__»;refine ao (g9 rfl ?_)
 try dsimp only
 refine ao (ck ho hd rfl ?_);refine ao (ck ho hd rfl ?_);show ϑ _ _ (if (i:ak)<0 then _ else _) _ _ s;rw[ax 0x1];refine ao (lc hl.typeIs nI.lookup ?_);rw[ax 0x2];refine ao (w_ ?_);refine ao (j3 (D4 hl 0x1 0x1 (by unfold yy;simp;lia) hx ?_));dsimp only;refine ao (ck ho hd rfl ?_);show ϑ _ _ (setField (.ref it) 1 (b9 ((i:ak)-1)) >>= _) _ _ _;refine ao (mM ho hd 0x2 ?_);refine az ⟨x,rfl,az (hQ _ _ ?_ (mv ..))⟩;exact⟨_,jw _ ho (zI (mP hd _)),(CY ..).trans hc,by
  rw[mP hd];simp⟩
theorem next_end(hh:A.handled=ai)(hit:Is s.heap it t (-1))
 (hQ:∀h',oz it s.heap h'->Q ai {s with heap:=h'}):ϑ (ay prog w) A (ff (.ref it)) Q E s:=by
 obtain⟨o,ho,hc,hd⟩:=id hit;unfold ff;refine ao (j3 (ik hit.ty slot_next
  (i6 slot_next hit.ty entry_next ?_ (args_next _))))
 unfold dh.«reversed.__next__»;refine ao (g9 rfl ?_)
 try dsimp only
 refine ao (ck ho hd rfl ?_);refine ao (ck ho hd rfl ?_);show ϑ _ _ (if (-1:ak)<0 then _ else _) _ _ s;rw[aq 0x4];refine ao (hZ ?_);refine ao ?_;refine ao (mM ho hd 0x2 ?_);have h1:=jw (mq (·.set! 1 (b9 (-1)))) ho (zI (mP hd _));have hd1:(mq (·.set! 1 (b9 (-1))) o).data=.fields #[.ref t,b9 (-1)]:=by rw[mP hd];simp
 refine mM h1 hd1 0x2 ?_;refine ao ?_;unfold D5;simp only[newExc,newTuple];refine ao ?_;refine ao (i7 ?_ (by size_fits));refine ao (g9 (by first|rfl|(simp only[firstArgMember];rfl)) ?_);refine i7 ?_ (by size_fits);simp only[raiseNew];refine ao (wpAny_handled ?_)
 first|rw[show A.in1.handled=ai from hh]|rw[hh]
 refine ao (az (wpAny_throw ?_));refine ao (oS ⟨_,cu _ rfl,rfl⟩ zu ?_);exact az (hQ _ ((((mv ..).trans (mv ..)).extBut.push _).push _))
def K6(hit:Is s.heap it t i)(h:Q (.ref it) s):ϑ (ay prog w) A (kx (.ref it)) Q E s:=by
 refine wpAny_pyIter_slot hit.ty K5 (i6 K5 hit.ty YS ?_ (aBj _));show ϑ _ _ (ret (.ref it)) _ _ s;exact az ⟨_,rfl,"reversed",_,hit.ty,slot_next.lookup,h⟩
end
def walks{prog:bu}(hh:A.handled=ai)(I l:am)(hne:l≠I)(items:aI al)(hz:(items.size:ak)<2 ^ 62) :
  Walks prog w A I [I,l] [I] items.size (λi v=>items[items.size-1-i]?=aa v) (λi h=>i<=items.size/\Is h I l ((items.size:ak)-1-(i:ak))/\h.IsTuple l items) where
 sub:=λb hb=>by simp at hb;simp[hb]
 frame:=λ_ _ _ x hk=>⟨x.1,x.2.1.at λo e=>hk I 0x2 o e,let ⟨o,e,r⟩:=x.2.2;⟨o,hk l 0x2 o e,r⟩⟩
 item:=λi s Q E hi x hQ=>by
  have e:(items.size:ak)-1-(i:ak)=((items.size-1-i:ah):ak):=by lia
  have hit:=x.2.1;rw[e] at hit;have hx:items[items.size-1-i]?=aa (items[items.size-1-i]' 0x1):=mi 0x1;refine next_item hit x.2.2 hx hz λh' tk hit' hs'=>?_
  have e2:((items.size-1-i:ah):ak)-1=(items.size:ak)-1-((i+1:ah):ak):=by lia
  rw[e2] at hit';exact hQ _ h' tk hx ⟨hi,hit',let ⟨o,eo,r⟩:=x.2.2;⟨o,(hs'.2 l hne).trans eo,r⟩⟩ λb o hb eo=>hs'.extBut b o (λh=>hb (by simp[h])) eo
 done:=λs Q E x hQ=>by
  have e:(items.size:ak)-1-(items.size:ak)=-1:=by lia
  have hit:=x.2.1;rw[e] at hit;exact next_end hh hit λh' he'=>hQ h' s.toks λb o hb eo=>he' b o (λh=>hb (by simp[h])) eo
 self:=λ_ _ _ _ x hQ=>K6 x.2.1 hQ
section
variable {prog:bu} {w:bn} {A:bP} {E:al->ar->Prop} {s:ar}
theorem hint(hit:Is s.heap I l ((items.size:ak)-1))(hl:s.heap.IsTuple l items)(hz:items.size<=bd)(h:∀b tk,Q b {s with toks:=tk}):ϑ (ay prog w) A (C0 (.ref I)) Q E s:=by
 unfold C0;refine ao (lc hit.ty YM ?_);dsimp only;refine sk (λhab=>aS hab 0x6) (λ_=>?_);rw[ax 0x2];refine ao (lc hit.ty yO.lookup ?_);generalize hid:("reversed.__length_hint__" : fx)=id0
 wp_delta
 rw[show splitId id0=aa ("reversed","__length_hint__") from by subst hid;decide +kernel];subst hid;refine ao (oS (T:= "reversed") (b:=ag) hit.ty PySem.F.sub_reversed_self ?_);refine sk (λhab=>aS hab 0x4) (λ_=>?_);refine sk (λhab=>aS hab 0x6) (λ_=>?_);refine ao (hZ ?_);refine ao (g9 (yO.bind _) ?_);refine ao (j3 (i6 yO hit.ty YQ ?_ (aBk _)));obtain⟨o,ho,hc,hd⟩:=id hit;unfold dh.«reversed.__length_hint__»;refine ao (g9 (a:=dv I) rfl ?_);refine ao (ck ho hd (x:=.ref l) rfl ?_);rw[ax (show ¬((dv l==gu)=ag) from fz)];rw[cy] at hz;refine ao (CU (items:=items) hl 0x1 ?_);refine ao (g9 (a:=aa (items.size:ak)) rfl ?_);dsimp only;refine ao (ck ho hd (x:=b9 ((items.size:ak)-1)) rfl ?_);show ϑ _ _ (if (items.size:ak)<(items.size:ak)-1+1 then _ else _) _ _ _;rw[ax 0x1];refine ao (w_ (az ⟨_,rfl,?_⟩));dsimp only;refine ao (g9 (a:=aa ((items.size:ak)-1+1)) rfl ?_);dsimp only;rw[ax (by simp only[D6,lf,Bool.not_eq_false,ba,c_];lia),ax 0x1,ax (by simp only[nX,c_,cy];lia)];exact az (h _ _)
def extend(hh:A.handled=ai)(hit:Is s.heap I l ((items.size:ak)-1))(hl:s.heap.IsTuple l items)(hIl:l≠I)(S:am)(hSr:S≠I)(hSd:S≠l)(res:al)(c₀:ah)(hS:s.heap.get? S=aa {cls:=.type "list",data:=.seq #[] c₀})
 (hR:∀h' tk acc' c',(∀b o,b≠S->b≠I->s.heap.get? b=aa o->h'.get? b=aa o)->h'.get? S=aa {cls:=.type "list",dict:=ai,data:=.seq acc' c',slots:=#[]}->vy (λi v=>items[items.size-1-i]?=aa v) acc' items.size->R (.ok (.ret res)) {s with heap:=h',toks:=tk})(hn:items.size<=bd) :
  ϑ (ay prog w) A.in1 (xg (.ref S) (.ref I) res)
   (λfin s'=>match fin with|.done f=>R (.ok f) s'|.again c'=>c'.quiet=ag/\codeAny (ay prog w) A c' R s') (λe s'=>R (.error e) s') s:=by
 have hz:(items.size:ak)<2 ^ 62:=by rw[cy] at hn;lia
 have W:=walks (prog:=prog) (w:=w) (A:=A.in1) hh I l hIl items hz;have hSf:S∉[I,l]:=by simp only[bq,iF,or_false,fE];exact⟨hSr,hSd⟩
 have st0:∀{h:aE},Is h I l ((items.size:ak)-1)->h.IsTuple l items->0<=items.size/\Is h I l ((items.size:ak)-1-((0:ah):ak))/\h.IsTuple l items:=λ{h} a b=>⟨eP _,by simpa using a,b⟩
 have key:∀(h:aE)(c₁ tk:ah),Is h I l ((items.size:ak)-1)->h.IsTuple l items->(∀b o,b≠S->s.heap.get? b=aa o->h.get? b=aa o)->
   h.get? S=aa {cls:=.type "list",data:=.seq #[] c₁}->codeAny (ay prog w) A (.builtin "list.extend.loop" ⟨[.ref S,.ref I,res],[]⟩) R {s with heap:=h,toks:=tk}:=by
  intro h c₁ tk h1 h2 hk hS₁;refine codeAny_extend_loopS W.toS hn S hSf res items.size 0 _ #[] c₁ rfl (eP _) (st0 h1 h2) hS₁ (ItemsOf.nil _) λs' acc' c' hm hS' hacc=>?_
  rw[Moved.eq_with hm];refine hR s'.heap s'.toks acc' c' (λb o hb hbI e=>hm.heap b o (λhmem=>?_) (hk b o hb e)) hS' hacc;rcases bq.mp hmem with e'|hmem
  .exact hb e'
  .exact hbI (ja.mp hmem)
 unfold xg;refine ao (io (T:= "reversed") hit.ty ?_);have h1:C1 (.ref S) (.ref I)=aj:=by simp[C1,hSr]
 have n1:(eT "reversed"==eT "list")=aj:=by decide
 have n2:(eT "reversed"==eT "tuple")=aj:=by decide
 simp only[h1,n1,n2,vb,fT,dw];refine ao (K6 hit ?_);refine ao (dE (hint hit hl hn λb tk=>?_));refine sk (λ_=>?_) (λ_=>az ⟨C2 C3 _,key _ c₀ _ hit hl (λb o _ e=>e) hS⟩);refine ao (hZ ?_);refine ao ?_;show ϑ _ _ (oI S (·.push .none) >>= λ_=>oI S (·.pop)) _ _ _;refine ao (zS hS rfl ?_);have hS₂:=jw (jr (·.push gu)) hS rfl;refine zS (hz:=by seq_fits) hS₂ rfl ?_;have hS₃:=jw (jr (·.pop)) hS₂ rfl;have oth:∀b o,b≠S->s.heap.get? b=aa o->((s.heap.update S (jr (·.push gu))).update S (jr (·.pop))).get? b=aa o:=λb o hb e=>(nV _ _ (Ne.symm hb)).trans ((nV _ _ (Ne.symm hb)).trans e)
 refine az ⟨C2 C3 _,key _ _ _ (hit.at λo e=>oth I o (Ne.symm hSr) e) (let ⟨o,e,r⟩:=hl;⟨o,oth l o (Ne.symm hSd) e,r⟩) (λb o hb e=>oth b o hb e) hS₃⟩
def init(hh:A.handled=ai)(hit:Is s.heap I l ((items.size:ak)-1))(hl:s.heap.IsTuple l items)(hIl:l≠I)(S:am)(hSr:S≠I)(hSd:S≠l)(hS:s.heap.get? S=aa {cls:=.type "list",data:=.seq #[]})
 (hR:∀h' tk acc' c',(∀b o,b≠S->b≠I->s.heap.get? b=aa o->h'.get? b=aa o)->h'.get? S=aa {cls:=.type "list",dict:=ai,data:=.seq acc' c',slots:=#[]}->vy (λi v=>items[items.size-1-i]?=aa v) acc' items.size->R (.ok (.ret .none)) {s with heap:=h',toks:=tk})(hn:items.size<=bd) :
  ϑ (ay prog w) A.in1 (dh.«list.__init__» ⟨[.ref S,.ref I],[]⟩)
   (λfin s'=>match fin with|.done f=>R (.ok f) s'|.again c'=>c'.quiet=ag/\codeAny (ay prog w) A c' R s') (λe s'=>R (.error e) s') s:=by
 show ϑ _ _ (do let old <- C4 (.ref S);D7 (.ref S) (λ_=>#[]);letGo old.toList.reverse;xg (.ref S) (.ref I) .none) _ _ s;refine ao ?_;unfold C4;refine ao (eu hS rfl (az ?_));show ϑ _ _ (oI S (λ_=>#[]) >>= λ_=>letGo (#[]:aI al).toList.reverse >>= λ_=>xg (.ref S) (.ref I) .none) _ _ s;refine ao (zS hS rfl ?_);have hS₂:=jw (jr (λ_=>(#[]:aI al))) hS rfl;have oth:∀b o,b≠S->s.heap.get? b=aa o->(s.heap.update S (jr (λ_=>(#[]:aI al)))).get? b=aa o:=
  λb o hb e=>(nV _ _ (Ne.symm hb)).trans e
 refine ao (oP ?_);refine extend hh (hit.at λo e=>oth I o (Ne.symm hSr) e) (let ⟨o,e,r⟩:=hl;⟨o,oth l o (Ne.symm hSd) e,r⟩) hIl S hSr hSd .none _ hS₂ (λh' tk acc' c' hk hS' hacc=>?_) hn;exact hR h' tk acc' c' (λb o hb hbI e=>hk b o hb hbI (oth b o hb e)) hS' hacc
def aBn(hh:A.handled=ai)(hit:Is s.heap I l ((items.size:ak)-1))(hl:s.heap.IsTuple l items)(hIl:l≠I)(hn:items.size<=bd)
 (hQ:∀h' tk acc' c',(∀b o,b≠I->s.heap.get? b=aa o->h'.get? b=aa o)->h'.get? s.heap.objs.size=aa {cls:=.type "list",dict:=ai,data:=.seq acc' c',slots:=#[]}->vy (λi v=>items[items.size-1-i]?=aa v) acc' items.size->Q (.ref s.heap.objs.size) {s with heap:=h',toks:=tk}) :
  ϑ (ay prog w) A (call (.type "list") [.ref I]) Q E s:=by
 refine sg (Q₁:=λobj s₁=>obj=.ref s.heap.objs.size/\s₁={s with heap:=s.heap.push {cls:=.type "list",data:=.seq #[]}}) PySem.F.called_list (PySem.F.typeCall_list_1 _) PySem.F.entry_list_init
  (code_list_new _ ⟨rfl,rfl⟩) λobj s₁ h₁=>?_
 obtain⟨rfl,rfl⟩:=h₁;have hS:(s.heap.push {cls:=.type "list",data:=.seq #[]}).get? s.heap.objs.size=aa {cls:=.type "list",data:=.seq #[]}:=cu _ rfl;have lt:∀{b:am}{o:bc},s.heap.get? b=aa o->s.heap.objs.size≠b:=λe=>fA (bw e)
 have l1:s.heap.objs.size≠I:=let ⟨o,e,_⟩:=hit;lt e
 have l2:s.heap.objs.size≠l:=let ⟨o,e,_⟩:=hl;lt e
 refine⟨⟨_,hS,rfl⟩,PySem.F.args_list_init_2 _ _,init (A:=A.in1) hh (hit.at λo e=>bS _ e) (let ⟨o,e,r⟩:=hl;⟨o,bS _ e,r⟩) hIl _ l1 l2 hS (λh' tk acc' c' hk hS' hacc=>?_) hn⟩;exact⟨rfl,hQ h' tk acc' c' (λb o hb e=>hk b o (Ne.symm (lt e)) hb (bS _ e)) hS' hacc⟩
end
end Rv
open L2 PySem.SeqAt PyProof.Rows
def aK6:D->Res D
 |.tup xs=>if δ xs&&ϒ (xs.length<=lim) then .ok (.lst xs.reverse) else .bad
 |_=>.bad
def Q_:eJ "reversed"=aa (.type "reversed"):=0x6
variable [KFrag]
def bJ.rev:∀{vs:ae V}{ds:ae D},bJ P H vs ds->bJ P H vs.reverse ds.reverse
 |_,_,.nil=>.nil
 |_,_,.cons r t=>by rw[jf,jf];exact t.rev.snoc r
def fD(h:δ ds=ag):δ ds.reverse=ag:=cP.mpr λy hy=>cP.mp h y (List.mem_reverse.mp hy)
def aFd(r:Vals xs its)(hl:acc.length=its.length)(h:∀j v,acc[j]?=aa v->its[its.length-1-j]?=aa v):Vals xs.reverse acc:=by
 have e:acc=its.reverse:=by
  refine List.ext_getElem? λj=>?_
  by_cases hj:j<its.length
  .have h1:acc[j]?=aa (acc[j]' 0x1):=eh 0x1;have h2:=h j _ h1;rw[h1,List.getElem?_reverse hj,h2]
  .rw[iE 0x1,iE (by rw[jg];lia)]
 rw[e];clear e h hl;induction r with
 |nil=>exact .nil
 |cons h t ih=>
  rw[jf,jf];exact ih.append (.cons h .nil)
section
def aBo(hc:X.calm=ag)(hg:Gl X "list")(hm:X.mg "list"=ai)(hg2:Gl X "reversed")(hm2:X.mg "reversed"=ai)(he:PE X e (gE fe re))(hs:cw [e] X.env=[(aj,eval e X.env)]:=by rfl)
 (hs2:cw [.Call (.Name "reversed" p2) [e] [] pos2] X.env=[(aj,eval (.Call (.Name "reversed" p2) [e] [] pos2) X.env)]:=by rfl) :
  PE X (.Call (.Name "list" p) [.Call (.Name "reversed" p2) [e] [] pos2] [] pos) (gE (b1 aK6 fe) ag):=by
 rintro Ψ s σ H Q I ⟨ρ,d,E,h,q⟩;obtain⟨d0,h1,h2⟩:=bA h;unfold aK6 at h2;split at h2
 rotate_left
 .exact bx h2
 rename_i ds;split at h2
 rotate_left
 .exact bx h2
 rename_i hb;cases h2;rw[ba] at hb;refine fR (jP I hg hm aAt ?_);refine hG ?_ hs2 rfl;rw[hs2];show ϑ _ _ (jj [(aj,eval (.Call (.Name "reversed" p2) [e] [] pos2) X.env)]) _ _ s;refine kG ?_;refine fR (jP I hg2 hm2 Q_ ?_);refine hG ?_ hs rfl;rw[hs];show ϑ _ _ (jj [(aj,eval e X.env)]) _ _ s;refine kG (thn (he Ψ s σ H (λv H1=>bK H H1/\Rep All H1 v (.tup ds)) I ⟨ρ,_,E,h1,λv H1 s1 r1 _=>⟨s1,r1⟩⟩) λu s1 ⟨x,H1,I1,ru,sm,rx⟩=>?_);obtain⟨t,xs,rfl,ex,rr⟩:=rx.eO;cases ru;obtain⟨its,rv,ht,hz⟩:=I1.tuple (.of ex);have htt:s1.heap.IsTuple t its.toArray:=ht;refine kA ?_;have hz':its.toArray.size<=bd:=by rw[b5,<-rv.length];exact hz
 refine Rv.aFc htt (by rw[cy] at hz';lia) λtk=>?_
 refine kA ?_;have hne:t≠s1.heap.objs.size:=let ⟨o,e,_⟩:=htt;cg (bw e)
 refine Rv.aBn (I1.ok.hd hc) ⟨_,cu _ rfl,rfl,rfl⟩ (let ⟨o,e,r⟩:=htt;⟨o,bS _ e,r⟩) hne hz' λh' tk' acc c hk hS hacc=>?_
 have hsz:((s1.heap.push (Rv.obj t ((its.toArray.size:ak)-1))).objs.size)=s1.heap.objs.size+1:=cK ..;have hfr:H1 (s1.heap.push (Rv.obj t ((its.toArray.size:ak)-1))).objs.size=ai:=I1.hok.fresh (by rw[hsz];lia);have hlen:acc.toList.length=its.length:=by have:=hacc.1;simpa using this
 have hv:Vals xs.reverse acc.toList:=aFd rv hlen λj v hj=>by
  have:=hacc.2 j v (by simpa using hj);simpa using this
 have sm2:bK H1 (upd H1 (s1.heap.push (Rv.obj t ((its.toArray.size:ak)-1))).objs.size (.lst xs.reverse)):=bK.upd hfr;refine⟨.ref (s1.heap.push (Rv.obj t ((its.toArray.size:ak)-1))).objs.size,_,I1.laid (a:=(s1.heap.push (Rv.obj t ((its.toArray.size:ak)-1))).objs.size) (o:=.lst xs.reverse) (h':=h') (t':=tk') (λb o e=>hk b o (cg (bw e)) (bS _ e)) (by rw[hsz];lia) ⟨by rw[jg];exact hz,acc.toList,c,hv,by simpa using hS⟩,rfl,?_⟩;exact q _ _ (sm.trans sm2) (.lst aF trivial (rr.rev.same sm2)) λ_=>.lst aF (sm.free hfr) ((rr.rev.bQ (fD hb.1)).same sm2)
end
end Mi
namespace Wl
open PySem PySem.Spec
noncomputable abbrev liO(xs:aI al)(n:ah)(sl:aI (au al):=#[]):bc:={cls:=.type "list",data:=.seq xs n,slots:=sl}
def KY:i8 (.type "list") "keys"=pure ai:=by rw[gV,g6];kernel_rfl
def noGet:i8 (.type "list") "__getattr__"=pure ai:=by rw[gV,g6];kernel_rfl
def KZ:lh li "list.__getattribute__"=aa dh.«object.__getattribute__»:=wb (id':= "object.__getattribute__") 0x8 0x6 0x6 0x8
def jD(a:am)(xs:aI al)(n:ah)(sl:aI (au al))(u:cz):hX (dh.«object.__getattribute__» ⟨[.ref a,.str "keys" u],[]⟩) (λA R s=>s.heap.get? a=aa (liO xs n sl)/\zk (.ref a) "keys" A R s):=.of_wp λprog w A R s hs=>by
 obtain⟨hp,g,d,tk,os⟩:=s;obtain⟨e,hh,q⟩:=hs;have ty:(⟨hp,g,d,tk,os⟩:ar).TypeIs (.ref a) "list":=⟨_,e,rfl⟩
 have no:=KY
 wp_walk
 exact zn hh q (zo 0x6 (by size_fits))
section
variable {prog:bu} {w:bn} {A:bP} {E:al->ar->Prop} {hp:aE} {g:aI jz} {d:jI} {tk:ah} {os:jS} {a:am} {xs:aI al} {n:ah} {sl:aI (au al)}
def gone(e:hp.get? a=aa (liO xs n sl))(hh:A.handled=ai)(hk:kw=[])(q:∀h' tk' x,zp hp h' x (.ref a) "keys"->E (.ref x) ⟨h',g,d,tk',os⟩) :
  ϑ (ay prog w) A (call (.builtin "list.__getattribute__") ([.ref a]++[.str "keys" u]) kw) Q E ⟨hp,g,d,tk,os⟩:=by
 subst hk;exact gm Aa ⟨_,e,rfl⟩ KZ (F.args_list_getattribute_2 _ _) (jD a xs n sl u) ⟨e,hh,λh' tk' x hx=>q h' tk' x hx⟩
def lacks(e:hp.get? a=aa (liO xs n sl))(hh:A.handled=ai)(q:∀h' tk',(∀b o,hp.get? b=aa o->h'.get? b=aa o)->Q ai ⟨h',g,d,tk',os⟩):ϑ (ay prog w) A (wc (.ref a) "keys") Q E ⟨hp,g,d,tk,os⟩:=by
 have ty:∀tk',(⟨hp,g,d,tk',os⟩:ar).TypeIs (.ref a) "list":=λ_=>⟨_,e,rfl⟩
 have f3:=Aa.lookup;have f4:=Aa.bind (.ref a);have f5:=noGet;have sub:=zr
 wp_walk using gone e hh
 case hk=>rfl
 intro h' tk' x hx;obtain⟨t,u,ex⟩:=hx.there;show ϑ _ _ (zt _ _ _ _ _ _ _) _ _ _
 wp_walk
 exact q _ _ hx.keeps
end
def K7{h:aE}(e:h.get? c=aa o)(hc:o.cls=.type T)(ed:h.get? d=aa od)(hd:od.cls=.type U)(ne:(eT T==eT U)=aj):c≠d:=λq=>by
 subst q;rw[e] at ed;cases ed;rw[hc] at hd;rw[hd] at ne;simp at ne
def Prs{prog:bu}{w:bn}{K:Type}[dn K](knd:KeyKind prog w K)(items:aI al)(ps:ae (K×al))(h:aE):Prop:=items.size=ps.length/\∀(i:ah)(kv:K×al),ps[i]?=aa kv->∃(p:am)(x:al)(o:bc)(n:ah),items[i]?=aa (dv p)/\h.get? p=aa o/\o.cls=.type "tuple"/\o.data=.seq #[x,kv.2] n/\knd.is kv.1 x=ag
def Prs.keep[dn K]{knd:KeyKind prog w K}{ps:ae (K×al)}{h h':aE}(x:Prs knd items ps h)(k:∀c o,o.cls=.type "tuple"->h.get? c=aa o->h'.get? c=aa o):Prs knd items ps h':=
 ⟨x.1,λi kv e=>let ⟨p,v,o,n,h1,h2,h3,h4,h5⟩:=x.2 i kv e;⟨p,v,o,n,h1,k p o h3 h2,h3,h4,h5⟩⟩
end Wl
namespace Wt
open PySem PySem.Spec Wl
noncomputable abbrev tpO(xs:aI al)(n:ah)(sl:aI (au al)):bc:={cls:=.type "tuple",data:=.seq xs n,slots:=sl}
def KY:i8 (.type "tuple") "keys"=pure ai:=by rw[gV,g6];kernel_rfl
def noGet:i8 (.type "tuple") "__getattr__"=pure ai:=by rw[gV,g6];kernel_rfl
def KZ:lh li "tuple.__getattribute__"=aa dh.«object.__getattribute__»:=wb (id':= "object.__getattribute__") 0x8 0x6 0x6 0x8
def jD(a:am)(xs:aI al)(n:ah)(sl:aI (au al))(u:cz):hX (dh.«object.__getattribute__» ⟨[.ref a,.str "keys" u],[]⟩) (λA R s=>s.heap.get? a=aa (tpO xs n sl)/\zk (.ref a) "keys" A R s):=.of_wp λprog w A R s hs=>by
 obtain⟨hp,g,d,tk,os⟩:=s;obtain⟨e,hh,q⟩:=hs;have ty:(⟨hp,g,d,tk,os⟩:ar).TypeIs (.ref a) "tuple":=⟨_,e,rfl⟩
 have no:=KY
 wp_walk
 exact zn hh q (zo 0x6 (by size_fits))
section
variable {prog:bu} {w:bn} {A:bP} {E:al->ar->Prop} {hp:aE} {g:aI jz} {d:jI} {tk:ah} {os:jS} {a:am} {xs:aI al} {n:ah} {sl:aI (au al)}
def gone(e:hp.get? a=aa (tpO xs n sl))(hh:A.handled=ai)(hk:kw=[])(q:∀h' tk' x,zp hp h' x (.ref a) "keys"->E (.ref x) ⟨h',g,d,tk',os⟩) :
  ϑ (ay prog w) A (call (.builtin "tuple.__getattribute__") ([.ref a]++[.str "keys" u]) kw) Q E ⟨hp,g,d,tk,os⟩:=by
 subst hk;exact gm Ab ⟨_,e,rfl⟩ KZ (F.args_tuple_getattribute_2 _ _) (jD a xs n sl u) ⟨e,hh,λh' tk' x hx=>q h' tk' x hx⟩
def lacks(e:hp.get? a=aa (tpO xs n sl))(hh:A.handled=ai)(q:∀h' tk',(∀b o,hp.get? b=aa o->h'.get? b=aa o)->Q ai ⟨h',g,d,tk',os⟩):ϑ (ay prog w) A (wc (.ref a) "keys") Q E ⟨hp,g,d,tk,os⟩:=by
 have ty:∀tk',(⟨hp,g,d,tk',os⟩:ar).TypeIs (.ref a) "tuple":=λ_=>⟨_,e,rfl⟩
 have f3:=Ab.lookup;have f4:=Ab.bind (.ref a);have f5:=noGet;have sub:=zr
 wp_walk using gone e hh
 case hk=>rfl
 intro h' tk' x hx;obtain⟨t,u,ex⟩:=hx.there;show ϑ _ _ (zt _ _ _ _ _ _ _) _ _ _
 wp_walk
 exact q _ _ hx.keeps
end
end Wt
namespace Wl
open PySem PySem.Spec
section
variable {prog:bu} {w:bn} {A:bP} {E:al->ar->Prop} {hp:aE} {g:aI jz} {d:jI} {tk:ah} {os:jS} {a:am} {xs:aI al} {n:ah} {sl:aI (au al)}
noncomputable def tyN:aw->fx
 |true=>"list"
 |false=>"tuple"
abbrev sqO(b:aw)(xs:aI al)(n:ah)(sl:aI (au al)):bc:={cls:=.type (tyN b),data:=.seq xs n,slots:=sl}
def aHp:aw->aE->am->am->ah->Prop
 |true,h,it,l,k=>h.IsListIter it l k
 |false,h,it,l,k=>h.IsTupleIter it l k
def aOn(z:aHp b h it l k)(e:h.get? c=aa o)(hc:o.cls=.type "tuple"):c≠it:=by
 cases b<;>exact let ⟨oi,ei,ci,_⟩:=z;K7 e hc ei ci 0x4
def aK7(z:aHp b h it l k)(e:h'.get? it=h.get? it):aHp b h' it l k:=by
 cases b<;>exact let ⟨oi,ei,r⟩:=z;⟨oi,e.trans ei,r⟩
def aOo(e:hp.get? a=aa (sqO b xs n sl))(hh:A.handled=ai)(q:∀h' tk',(∀b o,hp.get? b=aa o->h'.get? b=aa o)->Q ai ⟨h',g,d,tk',os⟩):ϑ (ay prog w) A (wc (.ref a) "keys") Q E ⟨hp,g,d,tk,os⟩:=by
 cases b
 .exact Wt.lacks e hh q
 .exact lacks e hh q
end
section
variable {prog:bu} {w:bn} {A:bP} {E:al->ar->Prop} {s:ar} {it l:am} {items:aI al} {nl k:ah} {sl:aI (au al)}
def aK8{Q:au al->ar->Prop}(z:aHp b s.heap it l k)(el:s.heap.get? l=aa (sqO b items nl sl))(hx:items[k]?=aa x)(hQ:∀h',aHp b h' it l (k+1)->di it s.heap h'->Q (aa x) {s with heap:=h'}):ϑ (ay prog w) A (ff (.ref it)) Q E s:=by
 cases b
 .exact AJ z ⟨_,el,rfl,_,rfl⟩ hx hQ
 .exact sF z ⟨_,el,rfl,_,rfl⟩ hx hQ
def aOp{Q:au al->ar->Prop}(hh:A.handled=ai)(z:aHp b s.heap it l k)(el:s.heap.get? l=aa (sqO b items nl sl))(hx:items[k]?=ai)(hQ:∀h',oz it s.heap h'->Q ai {s with heap:=h'}):ϑ (ay prog w) A (ff (.ref it)) Q E s:=by
 cases b
 .exact AK hh z ⟨_,el,rfl,_,rfl⟩ hx hQ
 .exact sK hh z ⟨_,el,rfl,_,rfl⟩ hx hQ
def aS8{Q:al->ar->Prop}(el:s.heap.get? l=aa (sqO b items nl sl))(hQ:∀oi,aHp b (s.heap.push oi) s.heap.objs.size l 0->Q (.ref s.heap.objs.size) {s with heap:=s.heap.push oi}):ϑ (ay prog w) A (kx (.ref l)) Q E s:=by
 cases b
 .exact oq ⟨_,el,rfl,_,rfl⟩ (hQ _ ⟨_,cu _ rfl,rfl,rfl⟩)
 .exact jc ⟨_,el,rfl,_,rfl⟩ (hQ _ ⟨_,cu _ rfl,rfl,rfl⟩)
end
section
variable {prog:bu} {w:bn} {K:Type} [dn K] {knd:KeyKind prog w K} {A:bP} {R:wg al Flow->ar->Prop} {it l d:am} {items:aI al} {ps:ae (K×al)} {nl:ah} {sl:aI (au al)}
theorem o_(hh:A.handled=ai)(hdi:d≠it)(hdl:d≠l)(hil:l≠it) :
  ∀(m k:ah)(s:ar)(kvs:ae (K×al)),k+m=items.size->kvs.length+m<=bd->aHp b s.heap it l k->s.heap.get? l=aa (sqO b items nl sl)->Prs knd items ps s.heap->s.heap.DictOf knd d kvs->
  (∀h' tk,h'.DictOf knd d (ir kvs (ps.drop k))->(∀c o,c≠d->c≠it->s.heap.get? c=aa o->h'.get? c=aa o)->R (.ok (.ret .none)) {s with heap:=h',toks:=tk})->
  codeAny (ay prog w) A (.builtin "dict.update.loop" ⟨[.ref d,.ref it,b9 k,.none],[]⟩) R s:=by
 intro m;induction m with
 |zero=>
  intro k s kvs hkm hl Z el Pp hd q;refine jd Wz.iC ?_;rw[kb (show ke "dict.update.loop"=ag by decide +kernel) _];refine ao (aOp hh Z el (oy 0x1) λh' kp=>?_);refine ao ?_;unfold r_;rw[gp];refine ao (az (az (az ?_)));have e:ps.drop k=[]:=hV (by have:=Pp.1;lia);rw[e] at q;obtain⟨o,es,ep,ho,r⟩:=hd;exact q _ s.toks ⟨o,es,ep,kp d o hdi ho,r⟩ λc o _ c1 e=>kp c o c1 e
 |succ m ih=>
  intro k s kvs hkm hl Z el Pp hd q;have hlp:k<ps.length:=by have:=Pp.1;lia
  obtain⟨p,x,o,n,hi,hp,hpc,hpd,his⟩:=Pp.2 k ps[k] (eh hlp);have hpi:p≠it:=aOn Z hp hpc;refine jd Wz.iC ?_;rw[kb (show ke "dict.update.loop"=ag by decide +kernel) _];refine ao (aK8 Z el hi λh' Z' kp=>?_);have hp':h'.get? p=aa o:=(kp.2 p hpi).trans hp;refine ao (dE (ao (wj ?_)));refine ao (io ⟨_,hp',hpc⟩ ?_);rw[aq 0x4];refine ao (eu hp' hpd (az ?_));show ϑ _ _ (ky [x,ps[k].2] (wm d x ps[k].2)) _ _ _;have hd':h'.DictOf knd d kvs:=let ⟨o,es,ep,ho,r⟩:=hd;⟨o,es,ep,(kp.2 d hdi).trans ho,r⟩
  obtain⟨od,es,ep,ho,hc,_⟩:=id hd';refine dE (zw his hd' (λh2 hd2' sb=>?_) 0x1);refine az ⟨je _ 0x6,?_⟩;have ek:(b9 (k+1):al)=b9 ((k+1:ah):ak):=rfl;rw[ek];have hdrop:ps.drop k=ps[k]::ps.drop (k+1):=iz hlp;have ls:(gL kvs ps[k].1 ps[k].2).length<=kvs.length+1:=by
   unfold gL;split
   .rw[br];lia
   .rw[b6];exact bo _
  have keep:∀c o,c≠d->c≠it->s.heap.get? c=aa o->h2.get? c=aa o:=λc o c0 c1 e=>(sb.2 c c0).trans ((kp.2 c c1).trans e)
  have hdc:∀c (oc:bc),oc.cls=.type "tuple"->s.heap.get? c=aa oc->c≠d/\c≠it:=λc oc hoc e=>⟨let ⟨o1,_,_,e1,c1,_⟩:=hd;K7 e hoc e1 c1.1 0x4,aOn Z e hoc⟩
  refine ih (k+1) _ (gL kvs ps[k].1 ps[k].2) 0x1 0x1 (aK7 Z' (sb.2 it (Ne.symm hdi))) (keep l _ (Ne.symm hdl) hil el) (Pp.keep λc oc hoc e=>keep c oc (hdc c oc hoc e).1 (hdc c oc hoc e).2 e) hd2' λh3 tk hd3 kp3=>?_
  exact q h3 tk (by rw[hdrop];exact hd3) λc o c0 c1 e=>kp3 c o c0 c1 (keep c o c0 c1 e)
end
section
variable {prog:bu} {w:bn} {K:Type} [dn K] {knd:KeyKind prog w K} {A:bP} {E:al->ar->Prop} {hp:aE} {g:aI jz} {dr:jI} {tk:ah} {os:jS} {l:am} {items:aI al} {ps:ae (K×al)} {nl:ah} {sl:aI (au al)}
def aFe(hh:A.handled=ai)(el:hp.get? l=aa (sqO b items nl sl))(Pp:Prs knd items ps hp)(hz:items.size<=1000000)
 (q:∀h' tk',h'.DictOf knd hp.objs.size (ir [] ps)->(∀c o,hp.get? c=aa o->h'.get? c=aa o)->Q (.ref hp.objs.size) ⟨h',g,dr,tk',os⟩) :
  ϑ (ay prog w) A (call (.type "dict") [.ref l]) Q E ⟨hp,g,dr,tk,os⟩:=by
 have hnew:(hp.push {cls:=.type "dict",data:=.dict #[]}).DictOf knd hp.objs.size []:=vg hp;have up:∀c o,hp.get? c=aa o->(hp.push {cls:=.type "dict",data:=.dict #[]}).get? c=aa o:=λc o e=>bS _ e
 have lt:∀{c o},hp.get? c=aa o->hp.objs.size≠c:=λe=>fA (bw e)
 refine sg (Q₁:=λv s₁=>v=.ref hp.objs.size/\s₁=⟨hp.push {cls:=.type "dict",data:=.dict #[]},g,dr,tk,os⟩) wn (wo _) wq (wt _ ⟨rfl,rfl⟩) λv s₁ hv=>?_
 obtain⟨rfl,rfl⟩:=hv;have ty:(⟨hp.push {cls:=.type "dict",data:=.dict #[]},g,dr,tk,os⟩:ar).TypeIs (.ref hp.objs.size) "dict":=hnew.typeIs;have ez:=up _ _ el;have tz:(⟨hp.push {cls:=.type "dict",data:=.dict #[]},g,dr,tk,os⟩:ar).TypeIs (.ref l) (tyN b):=⟨_,ez,rfl⟩
 refine⟨ty,wu _ _,ao (ao (wv ty (az ?_)))⟩;refine ao (io tz ?_);rw[aq (by cases b<;>decide)];refine ao (aOo ez hh λh' tk' kp=>?_);rw[aq (show(ai:au al).isNone=ag from rfl)];refine ao (hZ (ao (aS8 (kp _ _ ez) λoi z0=>az ⟨je _ 0x6,?_⟩)));have hd':h'.DictOf knd hp.objs.size []:=let ⟨o,es,ep,ho,r⟩:=hnew;⟨o,es,ep,kp _ _ ho,r⟩
 have ltd:hp.objs.size<h'.objs.size:=let ⟨o,es,ep,ho,r⟩:=hd';bw ho
 have ltl:l<h'.objs.size:=bw (kp _ _ ez);refine o_ (ps:=ps) (it:=h'.objs.size) (l:=l) (items:=items) (nl:=nl) (sl:=sl) (show A.in1.handled=ai from hh) (cg ltd) (lt el) (cg ltl) items.size 0 _ [] 0x1 (by rw[iq,cy];lia) z0 (bS _ (kp _ _ ez)) (Pp.keep λc o _ e=>bS _ (kp c o (up c o e))) (let ⟨o,es,ep,ho,r⟩:=hd';⟨o,es,ep,bS _ ho,r⟩) λh2 tk2 hd2 kp2=>?_
 exact⟨rfl,q h2 tk2 hd2 λc o e=>kp2 c o (λx=>lt e x.symm) (cg (bw (kp c o (up c o e)))) (bS _ (kp c o (up c o e)))⟩
end
end Wl
namespace Mi
open PySem L2 PySem.SeqAt PySem.Spec PyProof.Rows
def vM:ae D->au (ae (D×D))
 |[]=>aa []
 |.tup [k,v]::r=>if dZ k&&v.pure then (vM r).map ((k,v)::·) else ai
 |_::_=>ai
def jM(kvs:ae (D×D))(more:ae (D×D)):ae (D×D):=more.foldl (λacc p=>putD acc p.1 p.2) kvs
def U_:D->Res D
 |.lst xs=>match vM xs with
  |some ps=>if ϒ (xs.length<=1000) then .ok (.dct (jM [] ps)) else .bad
  |none=>.bad
 |_=>.bad
section
variable [KFrag]
def VB(I:Inv X Ψ σ H s):∀{xs:ae D}{vs:ae V}{us:ae al}{ps:ae (D×D)},bJ All H vs xs->Vals vs us->vM xs=aa ps->
  ∃(kvs:ae (Key×V))(prs:ae (Key×al)),KV kvs prs/\e_ All H kvs ps/\δ (ps.map (·.2))=ag/\us.length=prs.length/\∀(i:ah)(kv:Key×al),prs[i]?=aa kv->∃(p:am)(x:al)(o:bc)(n:ah),us[i]?=aa (dv p)/\s.heap.get? p=aa o/\o.cls=.type "tuple"/\o.data=.seq #[x,kv.2] n/\(b7 X.prog X.w).is kv.1 x=ag
 |[],_,_,_,.nil,.nil,h=>by
  cases h;exact⟨[],[],.nil,.nil,rfl,rfl,λi kv h=>by simp at h⟩
 |d::xs,_,_,ps,.cons r t,.cons rv tv,h=>by
  unfold vM at h;split at h
  .rename_i h0;cases h0
  .rename_i k v r' h0;injection h0 with h0 h1
   subst h0 h1;split at h
   .rename_i hf;rw[ba] at hf;obtain⟨ps',hp,rfl⟩:=gn.mp h;obtain⟨kvs,prs,g1,g2,g3,g4,g5⟩:=VB I t tv hp;obtain⟨a,ws,rfl,ea,rr⟩:=r.eO;cases rv;obtain⟨its,rvs,o,ho,hc,n,hd⟩:=jA I ea;cases rr with
    |cons rk rr=>
     cases rr with
     |cons rw_ rr=>
      cases rr;cases rvs with
      |cons q1 rvs=>
       cases rvs with
       |cons q2 rvs=>
        cases rvs;rename_i wk ww uk uw;obtain⟨key,hk1,hk2⟩:∃key:Key,kD key=k/\(b7 X.prog X.w).is key uk=ag:=by
         cases rk with
         |int i=>exact⟨.inl i,rfl,z7 q1⟩
         |str x=>exact⟨.inr x,rfl,z7 q1⟩
         |_=>cases hf.1
        subst hk1;refine⟨(key,ww)::kvs,(key,uw)::prs,.cons ⟨rfl,q2⟩ g1,.cons rw_ g2,by rw[bh,δ,hf.2,g3];rfl,by rw[bz,bz,g4],λi kv hi=>?_⟩;cases i with
        |zero=>
         simp at hi;subst hi;exact⟨a,uk,o,n,rfl,ho,hc,hd,hk2⟩
        |succ i=>
         obtain⟨p,x,o',n',z1,z2⟩:=g5 i kv (by simpa using hi);exact⟨p,x,o',n',by simpa using z1,z2⟩
   .cases h
  .cases h
def CT:∀{more:ae (Key×V)}{ds:ae (D×D)}{kvs:ae (Key×V)}{es:ae (D×D)},e_ P H more ds->e_ P H kvs es->(kvs.map (·.1)).Nodup->e_ P H (cX kvs more) (jM es ds)/\((cX kvs more).map (·.1)).Nodup
 |_,_,_,_,.nil,r,n=>⟨r,n⟩
 |_,_,_,_,.cons (k:=k) rv t,r,n=>by have:=CT t (G5 (k:=k) rv r n) (iB n);exact this
def mC:∀{ds es:ae (D×D)},δ (ds.map (·.2))=ag->δ (es.map (·.2))=ag->δ ((jM es ds).map (·.2))=ag
 |[],_,_,h=>h
 | (k,v)::ds,es,h,h2=>by
  rw[bh,δ,ba] at h;exact mC (ds:=ds) h.2 (gW h.1 h2)
section
def aOq(hf:∀d0 d,f d0=.ok d->∃xs ps,(d0=.lst xs\/d0=.tup xs)/\vM xs=aa ps/\xs.length<=1000/\d=.dct (jM [] ps))(hc:X.calm=ag)(hg:Gl X "dict")(hm:X.mg "dict"=ai)(he:PE X e (gE fe re))(hs:cw [e] X.env=[(aj,eval e X.env)]:=by rfl) :
  PE X (.Call (.Name "dict" p) [e] [] pos) (gE (b1 f fe) ag):=by
 rintro Ψ s σ H Q I ⟨ρ,d,E,h,q⟩;obtain⟨d0,h1,h2⟩:=bA h;obtain⟨xs,ps,h0,hps,hb,rfl⟩:=hf _ _ h2;refine fR (jP I hg hm wH ?_);refine hG ?_ hs rfl;rw[hs];show ϑ _ _ (jj [(aj,eval e X.env)]) _ _ s;refine kG (thn (he Ψ s σ H (λv H1=>bK H H1/\Rep All H1 v d0) I ⟨ρ,_,E,h1,λv H1 s1 r1 _=>⟨s1,r1⟩⟩) λu s1 ⟨x,H1,I1,ru,sm,rx⟩=>?_);obtain⟨a,vs,its,b,nl,sl,rfl,rr,rv,hl⟩:∃a vs its b nl sl,x=.ref a/\bJ All H1 vs xs/\Vals vs its/\s1.heap.get? a=aa (Wl.sqO b its.toArray nl sl):=by
  rcases h0 with rfl|rfl
  .obtain⟨_,_,rfl,e,p,r⟩:=rx.inv;obtain⟨hz,its,nl,rv,hl⟩:_/\∃(its:ae al)(n:ah),Vals _ its/\s1.heap.get? _=aa {cls:=.type "list",data:=.seq its.toArray n}:=I1.hok _ _ e;exact⟨_,_,its,ag,nl,_,rfl,r,rv,hl⟩
  .obtain⟨a,vs,rfl,ea,rr⟩:=rx.eO;obtain⟨hz,its,rv,⟨cl,dd,da,sl⟩,hl,e1,nl,e2⟩:vs.length<=bd/\∃its:ae al,Vals vs its/\jF s1.heap a its.toArray:=I1.hok a _ ea;simp only[lq] at e1 e2;obtain⟨e2,e3⟩:=e2;subst e1 e2 e3;exact⟨_,_,its,aj,nl,sl,rfl,rr,rv,hl⟩
 cases ru;refine kA ?_;obtain⟨kvs,prs,g1,g2,g3,g4,g5⟩:=VB I1 rr rv hps;have hlen:its.length<=1000:=by rw[<-rv.length,rr.length];exact hb
 obtain⟨hp,g,dr,tk,os⟩:=s1;refine Wl.aFe (knd:=b7 X.prog X.w) (ps:=prs) (items:=its.toArray) (I1.ok.hd hc) hl ⟨by rw[b5];exact g4,λi kv hi=>?_⟩ (by rw[b5];lia) λh' tk' hd kp=>?_
 .obtain⟨p,x,o,n,z1,z2⟩:=g5 i kv hi;exact⟨p,x,o,n,by simpa using z1,z2⟩
 .have hfr:H1 hp.objs.size=ai:=I1.hok.fresh (bo _);have rel:KV (cX [] kvs) (ir [] prs):=g1.merge .nil;have hz2:(cX [] kvs).length<=bd:=by
   have:=fU kvs [];have l1:kvs.length=prs.length:=jh g1;rw[iq] at this;rw[cy];lia
  obtain⟨rk,nd⟩:=CT (kvs:=[]) g2 e_.nil gq;have sp:bK H1 (upd H1 hp.objs.size (.dK (cX [] kvs))):=bK.upd hfr;have rk2:∀{P:am->Prop},e_ P (upd H1 hp.objs.size (.dK (cX [] kvs))) (cX [] kvs) (jM [] ps):=λ{P}=>(rk.keep (.same sp) λ_ h=>h).bQ (mC g3 rfl)
  refine⟨.ref hp.objs.size,_,I1.laid (a:=hp.objs.size) (t':=tk') (o:=.dK (cX [] kvs)) kp (bo _) (CG hz2 (fq.mpr ?_) rel hd),rfl,?_⟩
  .exact Ne.symm (cg I1.big)
  .exact q _ _ (sm.trans sp) (.dK aF trivial rk2 nd) λ_=>.dK aF (sm.free hfr) rk2 nd
def aBp(hc:X.calm=ag)(hg:Gl X "dict")(hm:X.mg "dict"=ai)(he:PE X e (gE fe re))(hs:cw [e] X.env=[(aj,eval e X.env)]:=by rfl) :
  PE X (.Call (.Name "dict" p) [e] [] pos) (gE (b1 U_ fe) ag):=aOq (λd0 d h=>by
 unfold U_ at h
 repeat' split at h
 .rename_i h1 h2;exact⟨_,_,.inl rfl,h1,dy h2,(Res.ok.inj h).symm⟩
 all_goals exact bx h) hc hg hm he hs
end
end
def aBq(i:ah)(f:FE):FS:=λρ=>do
 let d <- f ρ
 match ρ.getD i .uD with
 |.dct kvs=>if ϒ (kvs.length<lim)&&(lQ kvs d&&(bH kvs d).isNone) then .ok (.nx (ρ.set i (.dct (putD kvs d (.bl ag))))) else .bad
 |_=>.bad
section
variable [KFrag]
section
variable {X:Cx} {own:ah->aw} {a b e:Expr} {pos pos' posE:cm} {fa fe:FE} {re:aw} {xb:FX}
def aK9{o:nt}{f:D->D->Res D}{fr:aw}(ho:OpR X (c6 o) (r2 f fr))(ha:PE X a (gE fa ag))(hb:PE X b (gX own xb))(hm:ie o b=aj):PT X (.Compare a [o] [b] pos) (gXT own (xTB (x2R f fa xb))):=
 PT.imp (aA0 ho ha hb hm) λσ H Q z0=>by
  obtain⟨ρ,k,ρ',E,h,q⟩:=z0;obtain⟨⟨d,ρ1⟩,h1,h2⟩:=bA h;obtain⟨b,h3,h4⟩:=bA h2;cases h4;refine aUn ⟨ρ,d,_,E,h1,λv H' k1 E1 ns r=>?_⟩;cases T_ h3;cases r.inv;exact⟨_,rfl,q H' k1 E1 ns⟩
def aOr(i:ah)(fk fv:FE):TS:=λD' σ H=>∃ρ kd d kvs a,ER H σ ρ/\fv ρ=.ok d/\fk ρ=.ok kd/\σ[i]?=aa (aa (.ref a))/\Rep All H (.ref a) (.dct kvs)/\δ (kvs.map (·.2))=ag/\kvs.length<bd/\lQ kvs kd=ag/\d.pure=ag/\
 ∀H1 o,bK H H1->xT o=ag->Rep All (upd H1 a o) (.ref a) (.dct (putD kvs kd d))->D'.nx σ (upd H1 a o)
def aKa{i:ah}{x:Str}{p1:cm}{value k:Expr}{fv fk:FE}{rv rk:aw}(hu:X.A.units+20<c8)(hN:X.N[i]?=aa x)(hvi:Vis X.env.scope x)(hk:PE X k (gE fk rk))(hv:PE X value (gE fv rv))
 (hs:en value (aa (.Subscript (.Name x p1) k pos')) pos.line X.env=pure aj)(hd:nDb x)(hcd:nCd x) :
  PS X (.Assign [.Subscript (.Name x p1) k pos'] value pos) (aOr i fk fv):=by
 rintro Ψ s σ H D' I ⟨ρ,kd,d,kvs,a,E,h0,h1,hσ,r,hin,hg1,hg2,hg3,q⟩;refine B8 (thn (hv Ψ s σ H (λv H1=>bK H H1/\Rep All H1 v d) I ⟨ρ,d,E,h0,λv H1 s1 r1 _=>⟨s1,r1⟩⟩) λrr s1 ⟨v,H1,I1,rv1,sm1,rp1⟩=>
  thn (a_ hN hvi hd hcd Ψ s1 σ H1 (λw H2=>w=.ref a/\H2=H1) I1 ⟨_,hσ,rfl,rfl⟩) λu s2 ⟨xx,H2,I2,rx,ex,eH⟩=>
  thn (hk Ψ s2 σ H2 (λw H3=>bK H2 H3/\Rep All H3 w kd) I2 ⟨ρ,kd,by rw[eH];exact E.same sm1,h1,λv H1 s1 r1 _=>⟨s1,r1⟩⟩) λiv s3 ⟨y,H3,I3,ry,sm3,rp3⟩=>?_) hs
 subst ex eH;obtain rfl:u=dv a:=rx;have sm:=sm1.trans sm3;obtain⟨H4,o4,I4,g,hmo,rp⟩:=aO1 I3 (r.same sm) hin rp3 hg2 hg1 (rp1.same sm3) hg3;exact J6 0x1 I4 g ry rv1 λs4 I5=>⟨σ,_,I5,q _ _ sm hmo rp⟩
def aS9:Sp:=λvs H Q _=>∃(a:am)(v:V)(kvs:ae (D×D))(k:D),vs=[.ref a,v]/\Rep All H (.ref a) (.dct kvs)/\Rep All H v k/\δ (kvs.map (·.2))=ag/\kvs.length<bd/\lQ kvs k=ag/\bH kvs k=ai/\
 ∀H1 o,bK H H1->xT o=ag->Rep All (upd H1 a o) (.ref a) (.dct (putD kvs k (.bl ag)))->Q .non (upd H1 a o)
def aBr(P:bu)(w:bn)(K:aT)(mg:Str->au al)(base:aE)(k:ah)(x:Str):Prop:=
 ∃(fad:am)(fd:dm)(ps:ae Str),j4 P w K mg base CX0 k fad fd ps aS9/\mg x=aa (.ref fad)/\gz K (.ref fad)=ag/\Binds K fd ps []
def aUp:TS:=wV (aIs (gT (bTB (b2 (gG .isin) c7 cT))) (λ_ _ _=>cf) aE2) (aOr 0 c7 (bC (.bl ag)))
def aKb{k:D}{kvs:ae (D×D)}(h:lQ kvs k=ag)(x:D):eZ 1 [x,k]=.ok k:=by
 unfold lQ at h;rw[ba] at h;have h:=h.1;cases k<;>first|rfl|cases h
def aOs{P:bu}{w:bn}{K:aT}{mg:Str->au al}{base:aE}{x:Str}{k:ah}{st:bp}{fad:am}{fd:dm}{N ps:ae Str}(F:Fun K x x st fad fd)(hm:mg x=aa (.ref fad))(hb:Binds K fd ps [])(S:bG N ps (aH st))(hp:ps.length=2)(hN:N.length=2)
 (hbody:∀(cdv:al) (A:bP) (outer:ae cv) (s:ar) (H:Hp) (E:XK),j0 k (A.deeper (du x (aH st) s.heap.objs.size fad cdv))->PSs (xJ CX0 P w K mg base N x (aH st) fad cdv A outer s H E).nox (cH st) aUp):aBr P w K mg base (k+1) x:=by
 refine⟨fad,fd,ps,F.ok S (λvs H Q E z0=>by obtain⟨a,v,_,_,e,_⟩:=z0;rw[e,hp];rfl) λcdv A outer s H vs Q E hr ⟨a,v,kvs,kd,e,r,rk,hin,hl,hf,hn,q⟩=>⟨_,hbody cdv A outer s H E hr,?_⟩,hm,F.kp,hb⟩;subst e;have hst:L2.start N [V.ref a,v]=[aa (.ref a),aa v]:=by
  unfold L2.start;rw[hN];rfl
 have hv:=aKb hf (.dct kvs);have E0:ER H (L2.start N [V.ref a,v]) [.dct kvs,kd]:=λi hi=>by
  rw[hst]
  match i,hi with
  |0,_=>exact⟨_,rfl,r⟩
  |1,_=>exact⟨_,rfl,rk⟩
  |n+2,hi=>exact aS rfl hi
 refine⟨[.dct kvs,kd],aj,E0,?_,λH1 s1=>?_⟩
 .have hc:gG .isin kd (.dct kvs)=.ok (.bl aj):=by
   show(if lQ kvs kd then τ (ο (bH kvs kd).isSome) else .bad)=_;rw[aq hf,hn];rfl
  exact fQ (aO hv rfl hc)
 .dsimp only;rw[ax 0x2];exact⟨_,kd,.bl ag,kvs,a,E0.same s1,rfl,hv,by rw[hst];rfl,r.same s1,hin,hl,hf,rfl,λH2 o s2 hmo rp=>q H2 o (s1.trans s2) hmo rp⟩
def VD{x y:Str}{p py:cm}{k k' i:ah}(C:aBr X.prog X.w X.K X.mg X.base k x)(hr:j0 k' X.A)(hkk:k<=k')(hg:Gl X x)(ho:own i=ag)(hN:X.N[i]?=aa y)(hv:Vis X.env.scope y)(he1:PE X e (gE fe re))(hdb:nDb x:=by decide)(hd:(y==("__debug__" : Str))=aj:=by decide)(hcd:(y==("__classdict__" : Str))=aj:=by decide)
 (he:cw [.Name y py,e] X.env=(aj,eval (.Name y py) X.env)::cw [e] X.env:=by rfl)(he2:zSE X e []:=by rfl)(hpl:(gw pos (cw [e] X.env)).any (·.1)=aj:=by rfl)
 (hs:en (.Call (.Name x p) [.Name y py,e] [] pos) ai posE.line X.env=pure aj:=by rfl) :
  PS X (.Expr (.Call (.Name x p) [.Name y py,e] [] pos) posE) (tS own (aBq i fe)):=by
 obtain⟨fad,fd,ps,F,hm,hk,hb⟩:=C;refine PS.imp (iZ (PN F (hr.mono hkk) hg hm hk hb .nil aEh (b8 (a_ hN hv hd hcd) (b8 he1 dY he2) he) hdb he hpl) hs) λD' σ H ⟨ρ,fl,E,h,q⟩=>?_
 obtain⟨d,h1,h⟩:=bA h;split at h
 .rename_i kvs hx;split at h
  .rename_i hg;cases h;rw[ba,ba,Option.isNone_iff_eq_none] at hg;obtain⟨hg1,hg2,hg3⟩:=hg;obtain⟨a,o,hσ,r,hin,ha,hm'⟩:=E.ownAt ho (by rw[hx];intro z;cases z);rw[hx] at r hin;refine⟨_,hσ,ρ,d,E.er,h1,λv H1 s1 r1 _=>?_⟩;refine⟨a,v,kvs,d,rfl,r.same s1,r1,hin,J9 hg1,hg2,hg3,λH2 o2 s2 hmo rp=>?_⟩;have sm:=s1.trans s2;obtain⟨E2,k2⟩:=(E.same sm).mut ho hσ hmo rp (gW rfl hin);exact q _ _ ((KU.same sm).trans k2) E2
  .exact bx h
 .exact bx h
end
end
inductive Srx where
 |par (i:ah)
 |exp (f:FE)
def Srx.ev(ρ:ae D):Srx->Res D
 |.par i=>eZ i ρ
 |.exp f=>f ρ
def okF(d:D):aw:=d.pure||inner d
def evS(ρ:ae D):ae (Str×Srx)->Res (ae (Str×D))
 |[]=>.ok []
 | (f,s)::r=>do
  let d <- s.ev ρ
  let ds <- evS ρ r
  if okF d then .ok ((f,d)::ds) else .bad
def aFf(c f:Str)(fa:FE):FE:=λρ=>do
 let d <- fa ρ
 match d with
 |.ins c' fs=>if ϒ (c'=c) then ν (fs.lookup f) else .bad
 |_=>.bad
noncomputable def aUq:HO->aw
 |.tup _=>ag
 |.frz _ _=>ag
 |.ext _=>ag
 |_=>aj
section
variable [KFrag]
def vV(H H':Hp):Prop:=∀a o,H a=aa o->aUq o=ag->H' a=aa o
def vV.tl(k:vV H H')(a:am)(o:HO)(e:H a=aa o)(h:ZV o=aj):H' a=aa o:=k a o e (by
 cases o with
 |tup _=>rfl
 |frz _ u=>cases u<;>first|rfl|exact fx0 h.symm
 |_=>exact fx0 h.symm)
def Rep.fY{P P':am->Prop}(k:vV H H')(q:Rep P H v d)(h:d.pure=ag):Rep P' H' v d:=q.xU k.tl h
def bJ.fY{P P':am->Prop}(k:vV H H')(q:bJ P H v d)(h:δ d=ag):bJ P' H' v d:=q.xU k.tl h
def e_.fY(k:vV H H'):∀{v:ae (Key×V)}{d:ae (D×D)},e_ P H v d->δ (d.map (·.2))=ag->e_ P' H' v d
 |_,_,.nil,_=>.nil
 |_,_,.cons r t,h=>by
  rw[bh,δ,ba] at h;exact .cons (r.fY k h.1) (e_.fY k t h.2)
def lR.fY(k:vV H H'):∀{v:ae (ae Key×V)}{d:ae (D×D)},lR P H v d->δ (d.map (·.2))=ag->lR P' H' v d
 |_,_,.nil,_=>.nil
 |_,_,.cons r t,h=>by
  rw[bh,δ,ba] at h;exact .cons (r.fY k h.1) (lR.fY k t h.2)
def lN(x:am)(H H':Hp):Prop:=∀a o,H a=aa o->a≠x->H' a=aa o
def lN.upd:lN x H (upd H x o):=λa o' e n=>by rw[aM n];exact e
def lN.same(s:bK H H'):lN x H H':=λa o e _=>s a o e
def lN.use(b:lN x H H')(hx:H x=aa (.ins C dx fs)):vV H H':=λa o e u=>b a o e λz=>by
 subst z;rw[hx] at e;cases e;cases u
def Rep.okK(b:lN x H H')(hx:H x=aa (.ins C dx fs))(m:∀a,P a->P' a)(r:Rep P H v d)(h:okF d=ag):Rep P' H' v d:=by
 have k:=b.use hx;rcases(f_ _ _).mp h with h|h
 .exact r.fY k h
 .cases r with
  |lst e p r=>exact .lst (b _ _ e (mZ e hx 0x7)) (m _ p) (r.fY k h)
  |cel e p r=>exact .cel (b _ _ e (mZ e hx 0x7)) (m _ p) (r.fY k h)
  |dK e p r n=>exact .dK (b _ _ e (mZ e hx 0x7)) (m _ p) (r.fY k h) n
  |dT e p r n=>exact .dT (b _ _ e (mZ e hx 0x7)) (m _ p) (r.fY k h) n
  |_=>cases h
def n8.okK(b:lN x H H')(hx:H x=aa (.ins C dx fs))(m:∀a,P a->P' a):∀{v:ae (Str×V)}{d:ae (Str×D)},n8 P H v d->(d.all λp=>okF p.2)=ag->n8 P' H' v d
 |_,_,.nil,_=>.nil
 |_,_,.cons r t,h=>by
  rw[hU,ba] at h;exact .cons (r.okK b hx m h.1) (n8.okK b hx m t h.2)
def n8.snoc(r1:Rep P H w e):∀{v:ae (Str×V)}{d:ae (Str×D)},n8 P H v d->n8 P H (v++[(f,w)]) (d++[(f,e)])
 |_,_,.nil=>.cons r1 .nil
 |_,_,.cons r t=>.cons r (n8.snoc r1 t)
def n8.look:∀{v:ae (Str×V)}{d:ae (Str×D)},n8 P H v d->d.lookup f=aa e->∃w,v.lookup f=aa w/\Rep P H w e
 |_,_,.nil,h=>by cases h
 |_,_,.cons r t,h=>by
  rw[gN] at h ⊢;split at h
  .cases h;exact⟨_,rfl,r⟩
  .exact n8.look t h
def VF:∀{vf:ae (Str×V)},f∉vf.map (·.1)->vJ f y vf=vf++[(f,y)]
 |[],_=>rfl
 | (g,x)::r,h=>by
  rw[bh,bq,fE] at h;show(if g=f then (g,y)::r else (g,x)::vJ f y r)=_;rw[ax (λz=>h.1 z.symm),VF h.2];rfl
def aHq:∀{l:ae (Str×Srx)}{fs:ae (Str×D)},evS ρ l=.ok fs->(fs.all λp=>okF p.2)=ag/\fs.map (·.1)=l.map (·.1)
 |[],_,h=>by cases h;exact⟨rfl,rfl⟩
 | (f,s)::r,fs,h=>by
  obtain⟨d,h1,h⟩:=bA h;obtain⟨ds,h2,h⟩:=bA h;split at h
  .rename_i hk;cases h;obtain⟨i1,i2⟩:=aHq h2;exact⟨by rw[hU,i1,hk];rfl,by rw[bh,bh,i2]⟩
  .exact bx h
def sT:Srx->TE
 |.par i=>gQ i
 |.exp f=>gE f ag
def aR9(K:aT):ae (Str×Srx)->TS
 |[]=>aE2
 | (f,s)::r=>wV (aMf K (gQ 0) (sT s) f) (aR9 K r)
def RFx(H1:Hp)(us:ae V)(ds:ae D)(H:Hp)(vf:ae (Str×V))(fs:ae (Str×D)):Prop:=∀P:am->Prop,(∀a,H1 a=ai->P a)->bJ P H1 us ds->n8 P H vf fs
def aHr{K:aT}(cls:Cls K C)(hx0:σ[0]?=aa (aa (.ref x)))(hn:H1 x=ai)(hr:bJ All H1 us ds)(hρ:∀i d,eZ i ρ=.ok d->∃v,σ[i]?=aa (aa v)/\∀P,bJ P H1 us ds->Rep P H1 v d):∀(l:ae (Str×Srx))(H:Hp)(vf:ae (Str×V))(fs0 fs:ae (Str×D)),H x=aa (.ins C dx vf)->bK H1 H->RFx H1 us ds H vf fs0->(fs0.all λp=>okF p.2)=ag->evS ρ l=.ok fs->(vf.map (·.1)++l.map (·.1)).Nodup->(∀f∈l.map (·.1),cG K C f)->vf.length+l.length<1000->
  (∀H' vf',bK H1 H'->H' x=aa (.ins C dx vf')->RFx H1 us ds H' vf' (fs0++fs)->D'.nx σ H')->aR9 K l D' σ H
 |[],H,vf,fs0,fs,hx,sm,rf,ok0,he,nd,na,hl,q=>by
  cases he;exact q H vf sm hx (by rw[dQ];exact rf)
 | (f,s)::r,H,vf,fs0,fs,hx,sm,rf,ok0,he,nd,na,hl,q=>by
  obtain⟨d,h1,he⟩:=bA he;obtain⟨ds',h2,he⟩:=bA he;split at he
  .rename_i hk;cases he;have hlf:f∉vf.map (·.1):=λz=>(eS.mp nd).2.2 f z f 0x2 rfl
   have key:∀y H2,bK H H2->(∀P,(∀a,H1 a=ai->P a)->bJ P H1 us ds->Rep P H2 y d)->∃a C' dx' fs',gQ 0 σ H2 λx' H3=>x'=.ref a/\H3 a=aa (.ins C' dx' fs')/\Cls K C'/\cG K C' f/\fs'.length<1000/\aR9 K r D' σ (upd H3 a (.ins C' dx' (vJ f y fs'))):=by
    intro y H2 s2 ry;have hx2:=s2 _ _ hx;refine⟨x,C,dx,vf,_,hx0,rfl,hx2,cls,na f 0x2,by lia,?_⟩;have sm':bK H1 (upd H2 x (.ins C dx (vJ f y vf))):=λa o e=>by
     rw[aM (λz=>by subst z;rw[hn] at e;cases e)];exact s2 _ _ (sm _ _ e)
    rw[VF hlf] at sm' ⊢;refine aHr cls hx0 hn hr hρ r _ (vf++[(f,y)]) (fs0++[(f,d)]) ds' aF sm' (λP hP hR=>?_) (by rw[List.all_append,ok0];simp[hk]) h2 ?_ (λg hg=>na g (by simp at hg ⊢;exact .inr hg)) (by simp at hl ⊢;lia) (λH' vf' a b c=>q H' vf' a b (by simpa using c))
    .have z1:=(rf P hP hR)
     have z2:n8 P H2 vf fs0:=z1.keep (λa o e _=>s2 _ _ e) λ_ h=>h
     exact n8.snoc ((ry P hP hR).okK lN.upd hx2 (λ_ h=>h) hk) (z2.okK lN.upd hx2 (λ_ h=>h) ok0)
    .simpa[cr] using nd
   cases s with
   |par i=>
    obtain⟨v,e1,e2⟩:=hρ i d h1;obtain⟨a,C',dx',fs',z⟩:=key v H (bK.refl H) λP hP hR=>(e2 P hR).same sm
    obtain⟨v0,w1,w2⟩:=z;exact⟨v,e1,v0,w1,a,C',dx',fs',w2⟩
   |exp g=>
    refine⟨ρ,d,λi hi=>?_,h1,λy H2 s2 r2 n2=>?_⟩
    .obtain⟨v,e1,e2⟩:=hρ i (ρ.getD i .uD) (by
      unfold eZ;split
      .rename_i q;exact aS q hi
      .rfl)
     exact⟨v,e1,(e2 All hr).same sm⟩
    .obtain⟨a,C',dx',fs',z⟩:=key y H2 s2 λP hP hR=>(n2 rfl).mono λa ha=>hP a (by
      cases hq:H1 a with
      |none=>rfl
      |some o=>have:=sm a o hq;rw[show H a=ai from ha] at this;cases this)
     obtain⟨v0,w1,w2⟩:=z;exact⟨v0,w1,a,C',dx',fs',w2⟩
  .exact bx he
def aFg(C:am)(l:ae (Str×Srx))(n:ah):Sp:=λvs H Q _=>∃x dx H1 us ds fs,vs=.ref x::us/\us.length=n/\H x=aa (.ins C dx [])/\H1 x=ai/\bK H1 H/\bJ All H1 us ds/\evS (.uD::ds) l=.ok fs/\∀H' vf,bK H1 H'->H' x=aa (.ins C dx vf)->RFx H1 us ds H' vf fs->Q .non H'
def VG:∀{us:ae V}{ds:ae D}{i:ah}{d:D},us.length=ds.length->ds[i]?=aa d->∃v,us[i]?=aa v/\∀P,bJ P H us ds->Rep P H v d
 |[],[],_,_,_,h=>by simp at h
 |u::us,e::ds,0,d,_,h=>by
  simp at h;subst h;exact⟨u,rfl,λP r=>by cases r;assumption⟩
 |u::us,e::ds,i+1,d,hl,h=>by
  obtain⟨v,h1,h2⟩:=VG (by simpa using hl) (by simpa using h);exact⟨v,by simpa using h1,λP r=>by cases r with|cons _ t=>exact h2 P t⟩
def aHs{P:bu}{w:bn}{K:aT}{mg:Str->au al}{base:aE}{x qual:Str}{st:bp}{fad C:am}{fd:dm}{N ps:ae Str}{k:ah}{l:ae (Str×Srx)}(F:Fun K x qual st fad fd)(S:bG N ps (aH st))(hN:N.length=ps.length){n:ah}(hp:ps.length=n+1)(cls:Cls K C)(nd:(l.map (·.1)).Nodup)(na:∀f∈l.map (·.1),cG K C f)(hl:l.length<1000)
 (hbody:∀(cdv:al) (A:bP) (outer:ae cv) (s:ar) (H:Hp) (E:XK),j0 k (A.deeper (du qual (aH st) s.heap.objs.size fad cdv))->PSs (xJ CX0 P w K mg base N qual (aH st) fad cdv A outer s H E).nox (cH st) (aR9 K l)):j4 P w K mg base CX0 (k+1) fad fd ps (aFg C l n):=by
 refine F.ok S (λvs H Q E z0=>by obtain⟨_,_,_,us,_,_,e,h,_⟩:=z0;rw[e,hp,bz,h]) λcdv A outer s H vs Q E hr ⟨x,dx,H1,us,ds,fs,e,hu,hx,hn,sm,r,he,q⟩=>⟨_,hbody cdv A outer s H E hr,?_⟩
 subst e;have hst:L2.start N (V.ref x::us)=aa (.ref x)::us.map aa:=by
  unfold L2.start;rw[hN,hp,bz,hu,ss];simp
 rw[hst];refine aHr cls rfl hn r (λi d hd=>?_) l H [] [] fs hx sm (λ_ _ _=>.nil) rfl he (by simpa using nd) na (by simpa using hl) λH' vf s' hx' rf=>q H' vf s' hx' (by simpa using rf)
 match i,hd with
 |0,hd=>exact bx hd
 |i+1,hd=>
  have hd':eZ i ds=.ok d:=hd;have hg:ds[i]?=aa d:=by
   unfold eZ at hd';rw[cx] at hd';cases hq:ds[i]? with
   |none=>rw[hq] at hd';exact bx hd'
   |some e=>
    rw[hq] at hd';have:e=d:=by
     revert hd'
     cases e<;>intro z<;>first|(exact bx z;done)|(cases z;rfl)
    rw[this]
  obtain⟨v,h1,h2⟩:=VG r.length hg;exact⟨v,by simpa using h1,h2⟩
def aMj(P:bu)(w:bn)(K:aT)(mg:Str->au al)(base:aE)(k:ah)(c:Str)(l:ae (Str×Srx))(n:ah):Prop:=
 ∃(C fi:am)(fd:dm)(ps:ae Str),la K bt c=aa (aa (.ref C))/\mg c=aa (.ref C)/\Mk K C fi/\j4 P w K mg base CX0 k fi fd ps (aFg C l n)/\Binds K fd ps []
def tMk(K:aT)(c:Str)(l:ae (Str×Srx))(n:ah)(t:TA):TE:=λσ H Q=>t σ H λus H1=>∃ds fs,us.length=n/\bJ All H1 us ds/\evS (.uD::ds) l=.ok fs/\∀C x dx H' vf,la K bt c=aa (aa (.ref C))->H1 x=ai->bK H1 H'->H' x=aa (.ins C dx vf)->RFx H1 us ds H' vf fs->Q (.ref x) H'
section
variable {x c:Str}
def aKc(R:aMj X.prog X.w X.K X.mg X.base k x l n)(hr:j0 k' X.A)(hkk:k+1<=k')(hg:Gl X x)(ha:PA X (e::es) t)(hdb:nDb x:=by decide)(he:zSE X e es:=by rfl)(hpl:zSP X pos es:=by rfl)(hmono:∀(σ:L2.St) (H:Hp) (Q Q':ae V->Hp->Prop),(∀vs H',Q vs H'->Q' vs H')->t σ H Q->t σ H Q') :
  PE X (.Call (.Name x p) (e::es) [] pos) (tMk X.K x l n t):=by
 obtain⟨C,fi,fd,ps,hn,hm,M,F,hb⟩:=R;refine PE.imp (aIz M F (hr.mono hkk) hg hm hb .nil aEh ha hdb he hpl) λσ H Q h=>hmono σ H _ _ ?_ h
 rintro us H1 ⟨ds,fs,hl,r,he,q⟩ y dx hy hdx hne;refine⟨y,dx,H1,us,ds,fs,by rw[dQ],hl,aF,hy,λa o e=>?_,r,he,λH' vf s' hx' rf=>⟨rfl,q C y dx H' vf hn hy s' hx' rf⟩⟩;rw[aM (bF e hy),aM (bF e hdx)];exact e
def O4(K:aT)(c f:Str):Prop:=∀C,la K bt c=aa (aa (.ref C))->Cls K C/\cG K C f
def K8(hK:KFrag.K=X.K)(R:O4 X.K c f)(he:PE X e (gE fe re))(hb:gl e f X.env (eval e X.env)=eval e X.env:=by rfl):PE X (.Attribute e f pos) (gE (aFf c f fe) aj):=PE.imp (jG he hb) λσ H Q z0=>by
 obtain⟨ρ,d,E,h,q⟩:=z0;obtain⟨d0,h1,h2⟩:=bA h;split at h2
 .rename_i c' fs;split at h2
  .rename_i hc;have hc:=dy hc;subst hc;refine⟨ρ,_,E,h1,λv H1 s1 r1 _=>?_⟩;obtain⟨_,_,_,_,rfl,hn,hx,rf⟩:=r1.inv;rw[hK] at hn;obtain⟨k1,k2⟩:=R _ hn;cases hl:fs.lookup f with
   |none=>rw[hl] at h2;exact bx h2
   |some d1=>
    rw[hl] at h2;cases h2;obtain⟨w,g1,g2⟩:=rf.look hl;exact⟨_,_,_,_,w,rfl,hx,k1,k2,g1,q w H1 s1 g2 (λz=>by cases z)⟩
  .exact bx h2
 .exact bx h2
end
end
noncomputable def rowOf(s:bp)(j:ah):bp:=match s with
 |.ClassDef _ _ _ b _ _ _ _ _ _ _=>b.getD j (.Pass ⟨0,0,0,0⟩)
 |_=>.Pass ⟨0,0,0,0⟩
def K9(i:ah):FX:=λρ=>match aBh (ρ.getD i .uD) with
 |some xs=>(match xs[xs.length-1]? with|some x=>.ok (x,ρ.set i (aS6 (ρ.getD i .uD) xs.dropLast))|none=>.bad)
 |none=>.bad
section
variable [KFrag]
def n8.jY:∀{v:ae (Str×V)}{d:ae (Str×D)},n8 P H v d->d.lookup f=ai->v.lookup f=ai
 |_,_,.nil,_=>rfl
 |_,_,.cons r t,h=>by
  rw[gN] at h ⊢;split at h
  .cases h
  .exact n8.jY t h
section
def aKd(ho:own i=ag)(hN:X.N[i]?=aa x)(hv:Vis X.env.scope x)(hd:nDb x:=by decide)(hcd:nCd x:=by decide)
 (hbase:gl (.Name x p1) "pop" X.env (eval (.Name x p1) X.env)=eval (.Name x p1) X.env:=by rfl)
 (hline:(apos.endLine==cpos.line)=ag:=by rfl) :
  PE X (.Call (.Attribute (.Name x p1) "pop" apos) [] [] cpos) (gX own (K9 i)):=
 PE.imp (J4 iA n4 wx TX (a_ hN hv hd hcd) hbase hline) λσ H Q z0=>by
 obtain⟨ρ,d,ρ',E,h,q⟩:=z0;unfold K9 at h;split at h
 .rename_i xs hx;split at h
  .rename_i dx hdx;cases h;obtain⟨a,vs,hσ,hl,rr,hin,r,_⟩:=aK4 E ho hx;obtain⟨v,hvx,rv⟩:=rr.get hdx;have hlen:=rr.length;refine⟨_,hσ,.inl ⟨rfl,vs,.of hl⟩,a,vs,v,rfl,rfl,hl,by rw[hlen];exact hvx,?_⟩;have pall:∀y∈xs,y.pure=ag:=λy hy=>cP.mp hin y hy
   have pdx:d.pure=ag:=pall d (l6 hdx);have pe:δ xs.dropLast=ag:=cP.mpr λy hy=>pall y (zx _ hy)
   have er:bJ All H vs.dropLast xs.dropLast:=by
    rw[mB,mB,hlen];exact rr.take _
   obtain⟨E2,k2⟩:=E.mut ho hσ rfl (aOi r hx aF trivial (er.upd pe hl rfl)) (by rw[aK2 hx];exact pe);have r1:=(bJ.cons rv .nil).upd (o:=.lst vs.dropLast) (by rw[δ,pdx];rfl) hl rfl;cases r1 with
   |cons r1 _=>exact q _ _ k2 E2 (.set ho) (r1.bQ pdx)
  .exact bx h
 .exact bx h
end
noncomputable def own1(j:ah):ah->aw:=λi=>i==j
end
variable [KFrag]
def aSa(K:aT)(i:ah):TE:=aTb K "list" aTc (gQ i)
def tm1:TE:=tUn (rU λi=>.int (-i)) (tC (.int 1))
def aTk(K:aT)(i:ah):TT:=λσ H Q=>gQ i σ H λx H'=>∃k,aR0 K x H' k/\Q k H'
section
def aFh:vJ "left" (.int (((j+1:ah):ak)-1)) [("words",w1),("left",.int ((j+1:ah):ak)),("known",w3)]=([("words",w1),("left",.int j),("known",w3)]:ae (Str×V)):=by
 have:((j+1:ah):ak)-1=j:=by lia
 rw[this];unfold vJ;rw[ax 0x4];unfold vJ;rw[aq rfl]
end
end Mi
namespace Wl
open PySem PySem.Spec
noncomputable abbrev aDw(K:Type):=ae K×am×al
noncomputable def yP{K:Type}[dn K](xs:ae (aDw K))(ps:ae (aDw K)):ae (aDw K):=ps.foldl (λacc p=>kT acc p.1 p.2.1 p.2.2) xs
def PrH{prog:bu}{w:bn}{K:Type}[dn K](knd:KeyKind prog w K)(items:aI al)(ps:ae (aDw K))(h:aE):Prop:=items.size=ps.length/\∀(i:ah)(kv:aDw K),ps[i]?=aa kv->xh knd h kv.1 kv.2.1/\∃(p:am)(o:bc)(n:ah),items[i]?=aa (dv p)/\h.get? p=aa o/\o.cls=.type "tuple"/\o.data=.seq #[.ref kv.2.1,kv.2.2] n
def G9[dn K]{knd:KeyKind prog w K}{a:am}{h h':aE}(x:xh knd h ks a)(k:∀c o,o.cls=.type "tuple"->h.get? c=aa o->h'.get? c=aa o):xh knd h' ks a:=
 let ⟨o,its,n,h1,h2,h3⟩:=x;⟨o,its,n,k a o h2 h1,h2,h3⟩
def PrH.keep[dn K]{knd:KeyKind prog w K}{items:aI al}{ps:ae (aDw K)}{h h':aE}(x:PrH knd items ps h)(k:∀c o,o.cls=.type "tuple"->h.get? c=aa o->h'.get? c=aa o):PrH knd items ps h':=
 ⟨x.1,λi kv e=>let ⟨z,p,o,n,h1,h2,h3,h4⟩:=x.2 i kv e;⟨G9 z k,p,o,n,h1,k p o h3 h2,h3,h4⟩⟩
def wI[dn K]{knd:KeyKind prog w K}{d:am}{xs:ae (aDw K)}{h h':aE}(x:h.DictOfH (gk knd) d xs)(hd:∀o,h.get? d=aa o->h'.get? d=aa o)(k:∀c o,o.cls=.type "tuple"->h.get? c=aa o->h'.get? c=aa o):h'.DictOfH (gk knd) d xs:=
 let ⟨o,es,ep,h1,h2,h3,h4,h5,h6⟩:=x;⟨o,es,ep,hd o h1,h2,h3,h4,λy hy=>G9 (h5 y hy) k,h6⟩
section
variable {prog:bu} {w:bn} {K:Type} [dn K] {knd:KeyKind prog w K} {A:bP} {R:wg al Flow->ar->Prop} {it l d:am} {items:aI al} {ps:ae (aDw K)} {nl:ah}
def aSb(hh:A.handled=ai)(hu:A.units+1<c8)(hdi:d≠it)(hdl:d≠l)(hil:l≠it) :
  ∀(m k:ah)(s:ar)(kvs:ae (aDw K)),k+m=items.size->kvs.length+m<=bd->s.heap.IsListIter it l k->s.heap.get? l=aa (liO items nl)->PrH knd items ps s.heap->s.heap.DictOfH (gk knd) d kvs->
  (∀h' tk,h'.DictOfH (gk knd) d (yP kvs (ps.drop k))->(∀c o,c≠d->c≠it->s.heap.get? c=aa o->h'.get? c=aa o)->R (.ok (.ret .none)) {s with heap:=h',toks:=tk})->
  codeAny (ay prog w) A (.builtin "dict.update.loop" ⟨[.ref d,.ref it,b9 k,.none],[]⟩) R s:=by
 intro m;induction m with
 |zero=>
  intro k s kvs hkm hl Z el Pp hd q;refine jd Wz.iC ?_;rw[kb (show ke "dict.update.loop"=ag by decide +kernel) _];refine ao (sK hh Z ⟨_,el,rfl,_,rfl⟩ (oy 0x1) λh' kp=>?_);refine ao ?_;unfold r_;rw[gp];refine ao (az (az (az ?_)));have e:ps.drop k=[]:=hV (by have:=Pp.1;lia);rw[e] at q;have ni:∀c (oc:bc),oc.cls=.type "tuple"->s.heap.get? c=aa oc->c≠it:=λc oc hoc e=>let ⟨oi,ei,ci,_⟩:=Z;K7 e hoc ei ci 0x4
  exact q _ s.toks (wI hd (λo ho=>kp d o hdi ho) λc o hc e=>kp c o (ni c o hc e) e) λc o _ c1 e=>kp c o c1 e
 |succ m ih=>
  intro k s kvs hkm hl Z el Pp hd q;have hlp:k<ps.length:=by have:=Pp.1;lia
  obtain⟨hik,p,o,n,hi,hp,hpc,hpd⟩:=Pp.2 k ps[k] (eh hlp);have ni:∀c (oc:bc),oc.cls=.type "tuple"->s.heap.get? c=aa oc->c≠it:=λc oc hoc e=>let ⟨oi,ei,ci,_⟩:=Z;K7 e hoc ei ci 0x4
  have hpi:p≠it:=ni p o hpc hp;refine jd Wz.iC ?_;rw[kb (show ke "dict.update.loop"=ag by decide +kernel) _];refine ao (sF Z ⟨_,el,rfl,_,rfl⟩ hi λh' Z' kp=>?_);have hp':h'.get? p=aa o:=(kp.2 p hpi).trans hp;refine ao (dE (ao (wj ?_)));refine ao (io ⟨_,hp',hpc⟩ ?_);rw[aq 0x4];refine ao (eu hp' hpd (az ?_));show ϑ _ _ (ky [.ref ps[k].2.1,ps[k].2.2] (wm d (.ref ps[k].2.1) ps[k].2.2)) _ _ _;have kt:∀c (oc:bc),oc.cls=.type "tuple"->s.heap.get? c=aa oc->h'.get? c=aa oc:=λc oc hoc e=>(kp.2 c (ni c oc hoc e)).trans e
  have hd':h'.DictOfH (gk knd) d kvs:=wI hd (λo ho=>(kp.2 d hdi).trans ho) kt;refine dE (wpAny_dictSet_heap (n9 hu) (G9 hik kt) hd' λh2 hd2' sb=>?_);refine az ⟨je _ 0x6,?_⟩;have ek:(b9 (k+1):al)=b9 ((k+1:ah):ak):=rfl;rw[ek];have hdrop:ps.drop k=ps[k]::ps.drop (k+1):=iz hlp;have ls:(kT kvs ps[k].1 ps[k].2.1 ps[k].2.2).length<=kvs.length+1:=by
   unfold kT;split
   .rw[br];lia
   .rw[b6];exact bo _
  have keep:∀c o,c≠d->c≠it->s.heap.get? c=aa o->h2.get? c=aa o:=λc o c0 c1 e=>(sb.2 c c0).trans ((kp.2 c c1).trans e)
  have hdc:∀c (oc:bc),oc.cls=.type "tuple"->s.heap.get? c=aa oc->c≠d/\c≠it:=λc oc hoc e=>⟨let ⟨o1,_,_,e1,c1,_⟩:=hd;K7 e hoc e1 c1.1 0x4,ni c oc hoc e⟩
  refine ih (k+1) _ (kT kvs ps[k].1 ps[k].2.1 ps[k].2.2) 0x1 0x1 (let ⟨oi,ei,r⟩:=Z';⟨oi,(sb.2 it (Ne.symm hdi)).trans ei,r⟩) (keep l _ (Ne.symm hdl) hil el) (Pp.keep λc oc hoc e=>keep c oc (hdc c oc hoc e).1 (hdc c oc hoc e).2 e) hd2' λh3 tk hd3 kp3=>?_
  exact q h3 tk (by rw[hdrop];exact hd3) λc o c0 c1 e=>kp3 c o c0 c1 (keep c o c0 c1 e)
end
section
variable {prog:bu} {w:bn} {K:Type} [dn K] {knd:KeyKind prog w K} {A:bP} {E:al->ar->Prop} {hp:aE} {g:aI jz} {dr:jI} {tk:ah} {os:jS} {l:am} {items:aI al} {ps:ae (aDw K)} {nl:ah}
def YT{Q:al->ar->Prop}(hh:A.handled=ai)(hu:A.units+2<c8)(el:hp.get? l=aa (liO items nl))(Pp:PrH knd items ps hp)(hz:items.size<=1000000)
 (q:∀h' tk',h'.DictOfH (gk knd) hp.objs.size (yP [] ps)->(∀c o,hp.get? c=aa o->h'.get? c=aa o)->Q (.ref hp.objs.size) ⟨h',g,dr,tk',os⟩) :
  ϑ (ay prog w) A (call (.type "dict") [.ref l]) Q E ⟨hp,g,dr,tk,os⟩:=by
 have hnew:(hp.push {cls:=.type "dict",data:=.dict #[]}).DictOfH (gk knd) hp.objs.size []:=D8 hp;have up:∀c o,hp.get? c=aa o->(hp.push {cls:=.type "dict",data:=.dict #[]}).get? c=aa o:=λc o e=>bS _ e
 have lt:∀{c o},hp.get? c=aa o->hp.objs.size≠c:=λe=>fA (bw e)
 refine sg (Q₁:=λv s₁=>v=.ref hp.objs.size/\s₁=⟨hp.push {cls:=.type "dict",data:=.dict #[]},g,dr,tk,os⟩) wn (wo _) wq (wt _ ⟨rfl,rfl⟩) λv s₁ hv=>?_
 obtain⟨rfl,rfl⟩:=hv;have ty:(⟨hp.push {cls:=.type "dict",data:=.dict #[]},g,dr,tk,os⟩:ar).TypeIs (.ref hp.objs.size) "dict":=hnew.typeIs;have ez:=up _ _ el;have tz:(⟨hp.push {cls:=.type "dict",data:=.dict #[]},g,dr,tk,os⟩:ar).TypeIs (.ref l) "list":=⟨_,ez,rfl⟩
 refine⟨ty,wu _ _,ao (ao (wv ty (az ?_)))⟩;refine ao (io tz ?_);rw[aq 0x4];refine ao (lacks ez hh λh' tk' kp=>?_);rw[aq (show(ai:au al).isNone=ag from rfl)];refine ao (hZ (ao (jc ⟨_,kp _ _ ez,rfl,_,rfl⟩ (az ⟨je _ 0x6,?_⟩))));have hd':h'.DictOfH (gk knd) hp.objs.size []:=wI hnew (λo ho=>kp _ _ ho) λc o _ e=>kp c o e
 have ltd:hp.objs.size<h'.objs.size:=let ⟨o,es,ep,ho,r⟩:=hd';bw ho
 have ltl:l<h'.objs.size:=bw (kp _ _ ez);refine aSb (ps:=ps) (it:=h'.objs.size) (l:=l) (items:=items) (nl:=nl) (show A.in1.handled=ai from hh) (show A.units+1+1<c8 from hu) (cg ltd) (lt el) (cg ltl) items.size 0 _ [] 0x1 (by rw[iq,cy];lia) ⟨_,cu _ rfl,rfl,rfl⟩ (bS _ (kp _ _ ez)) (Pp.keep λc o _ e=>bS _ (kp c o (up c o e))) (wI hd' (λo ho=>bS _ ho) λc o _ e=>bS _ e) λh2 tk2 hd2 kp2=>?_
 exact⟨rfl,q h2 tk2 hd2 λc o e=>kp2 c o (λx=>lt e x.symm) (cg (bw (kp c o (up c o e)))) (bS _ (kp c o (up c o e)))⟩
end
end Wl
namespace Mi
open PySem L2 PySem.SeqAt PySem.Spec PyProof.Rows
def yQ:ae D->au (ae (D×D))
 |[]=>aa []
 |.tup [.tup ks,v]::r=>if ks.all dZ&&v.pure then (yQ r).map ((.tup ks,v)::·) else ai
 |_::_=>ai
def G_:D->Res D
 |.lst xs=>match yQ xs with
  |some ps=>if ϒ (xs.length<=1000) then .ok (.dct (jM [] ps)) else .bad
  |none=>.bad
 |_=>.bad
variable [KFrag]
def K_(I:Inv X Ψ σ H s):∀{xs:ae D}{vs:ae V}{us:ae al}{ps:ae (D×D)},bJ All H vs xs->Vals vs us->yQ xs=aa ps->
  ∃(kvs:ae (ae Key×V))(prs:ae (ae Key×am×al)),KT H kvs prs/\lR All H kvs ps/\δ (ps.map (·.2))=ag/\us.length=prs.length/\∀(i:ah)(kv:ae Key×am×al),prs[i]?=aa kv->xh (b7 X.prog X.w) s.heap kv.1 kv.2.1/\∃(p:am)(o:bc)(n:ah),us[i]?=aa (dv p)/\s.heap.get? p=aa o/\o.cls=.type "tuple"/\o.data=.seq #[.ref kv.2.1,kv.2.2] n
 |[],_,_,_,.nil,.nil,h=>by
  cases h;exact⟨[],[],.nil,.nil,rfl,rfl,λi kv h=>by simp at h⟩
 |d::xs,_,_,ps,.cons r t,.cons rv tv,h=>by
  unfold yQ at h;split at h
  .rename_i h0;cases h0
  .rename_i k v r' h0;injection h0 with h0 h1
   subst h0 h1;split at h
   .rename_i hf;rw[ba] at hf;obtain⟨ps',hp,rfl⟩:=gn.mp h;obtain⟨kvs,prs,g1,g2,g3,g4,g5⟩:=K_ I t tv hp;obtain⟨a,ws,rfl,ea,rr⟩:=r.eO;cases rv;obtain⟨its,rvs,o,ho,hc,n,hd⟩:=jA I ea;cases rr with
    |cons rk rr=>
     cases rr with
     |cons rw_ rr=>
      cases rr;cases rvs with
      |cons q1 rvs=>
       cases rvs with
       |cons q2 rvs=>
        cases rvs;rename_i wk ww uk uw;rcases jB (k:=.tup k) hf.1 rk with ⟨q,_,e⟩|⟨b,ks,rfl,eb,e⟩
        .cases q<;>cases e
        .injection e with e
         subst e;cases q1;refine⟨(ks,ww)::kvs,(ks,b,uw)::prs,.cons ⟨rfl,eb,q2⟩ g1,.cons rw_ g2,by rw[bh,δ,hf.2,g3];rfl,by rw[bz,bz,g4],λi kv hi=>?_⟩;cases i with
         |zero=>
          simp at hi;subst hi;exact⟨B_ I.hok eb,a,o,n,rfl,ho,hc,hd⟩
         |succ i=>
          obtain⟨z0,p,o',n',z1,z2⟩:=g5 i kv (by simpa using hi);exact⟨z0,p,o',n',by simpa using z1,z2⟩
   .cases h
  .cases h
def lK(kvs more:ae (ae Key×V)):ae (ae Key×V):=more.foldl (λacc p=>putK acc p.1 p.2) kvs
def CV:∀{more:ae (ae Key×V)}{ds:ae (D×D)}{kvs:ae (ae Key×V)}{es:ae (D×D)},lR P H more ds->lR P H kvs es->(kvs.map (·.1)).Nodup->lR P H (lK kvs more) (jM es ds)/\((lK kvs more).map (·.1)).Nodup
 |_,_,_,_,.nil,r,n=>⟨r,n⟩
 |_,_,_,_,.cons (k:=k) rv t,r,n=>by have:=CV t (wF (k:=k) rv r n) (iB n);exact this
def VH:∀{more:ae (ae Key×V)}{ms:ae (ae Key×am×al)}{kvs:ae (ae Key×V)}{xs:ae (ae Key×am×al)},KT H more ms->KT H kvs xs->KT H (lK kvs more) (Wl.yP xs ms)
 |_,_,_,_,.nil,r=>r
 |_,_,_,_,.cons (a:=p) (b:=q) h t,r=>by
  have h1:=h.1;have:=VH t (r.put p.1 h.2.1 h.2.2);show KT H (lK (putK _ p.1 p.2) _) (Wl.yP (kT _ q.1 q.2.1 q.2.2) _);rw[<-h1];exact this
def CW:∀(more kvs:ae (ae Key×V)),(lK kvs more).length<=kvs.length+more.length
 |[],kvs=>bo _
 |p::r,kvs=>by
  have h1:=CW r (putK kvs p.1 p.2);have h2:=j5 kvs p.1 p.2;rw[bz];show(lK (putK kvs p.1 p.2) r).length<=_;lia
section
def YW(hc:X.calm=ag)(hu:X.A.units+20<c8)(hg:Gl X "dict")(hm:X.mg "dict"=ai)(he:PE X e (gE fe re))(hs:cw [e] X.env=[(aj,eval e X.env)]:=by rfl) :
  PE X (.Call (.Name "dict" p) [e] [] pos) (gE (b1 G_ fe) ag):=by
 intro Ψ s σ H Q I ⟨ρ,d,E,h,q⟩;obtain⟨d0,h1,h2⟩:=bA h;unfold G_ at h2;split at h2
 rotate_left
 .exact bx h2
 rename_i xs;split at h2
 rotate_left
 .exact bx h2
 rename_i ps hps;split at h2
 rotate_left
 .exact bx h2
 rename_i hb;cases h2;have hb:=dy hb;refine fR (jP I hg hm wH ?_);refine hG ?_ hs rfl;rw[hs];show ϑ _ _ (jj [(aj,eval e X.env)]) _ _ s;refine kG (thn (he Ψ s σ H (λv H1=>bK H H1/\Rep All H1 v (.lst xs)) I ⟨ρ,_,E,h1,λv H1 s1 r1 _=>⟨s1,r1⟩⟩) λu s1 ⟨x,H1,I1,ru,sm,rx⟩=>?_);obtain⟨a,vs,rfl,ea,rr⟩:∃a vs,x=.ref a/\H1 a=aa (.lst vs)/\bJ All H1 vs xs:=by
  obtain⟨_,_,rfl,e,p,r⟩:=rx.inv;exact⟨_,_,rfl,e,r⟩
 cases ru;refine kA ?_;obtain⟨hz,its,nl,rv,hl⟩:vs.length<=bd/\∃(its:ae al)(n:ah),Vals vs its/\s1.heap.get? a=aa {cls:=.type "list",data:=.seq its.toArray n}:=I1.hok a _ ea;obtain⟨kvs,prs,g1,g2,g3,g4,g5⟩:=K_ I1 rr rv hps;have hlen:its.length<=1000:=by rw[<-rv.length,rr.length];exact hb
 obtain⟨hp,g,dr,tk,os⟩:=s1;refine Wl.YT (knd:=b7 X.prog X.w) (ps:=prs) (items:=its.toArray) (I1.ok.hd hc) 0x1 hl ⟨by rw[b5];exact g4,λi kv hi=>?_⟩ (by rw[b5];lia) λh' tk' hd kp=>?_
 .obtain⟨z0,p,o,n,z1,z2⟩:=g5 i kv hi;exact⟨z0,p,o,n,by simpa using z1,z2⟩
 .have hfr:H1 hp.objs.size=ai:=I1.hok.fresh (bo _);have rel:KT H1 (lK [] kvs) (Wl.yP [] prs):=VH g1 .nil;have hz2:(lK [] kvs).length<=bd:=by
   have:=CW kvs [];have l1:kvs.length=prs.length:=jh g1;rw[iq] at this;rw[cy];lia
  obtain⟨rk,nd⟩:=CV (kvs:=[]) g2 lR.nil gq;have sp:bK H1 (upd H1 hp.objs.size (.dT (lK [] kvs))):=bK.upd hfr;have rk2:∀{P:am->Prop},lR P (upd H1 hp.objs.size (.dT (lK [] kvs))) (lK [] kvs) (jM [] ps):=λ{P}=>(rk.keep (.same sp) λ_ h=>h).bQ (mC g3 rfl)
  obtain⟨o,es,ep,k1,k2,k3,k4,_,k6⟩:=hd;refine⟨.ref hp.objs.size,_,I1.laid (a:=hp.objs.size) (t':=tk') (o:=.dT (lK [] kvs)) kp (bo _) ⟨hz2,fq.mpr ?_,_,rel.keeps λb ys e=>sp _ _ e,o,es,ep,k1,k2,k3,k4,k6⟩,rfl,?_⟩
  .exact Ne.symm (cg I1.big)
  .exact q _ _ (sm.trans sp) (.dT aF trivial rk2 nd) λ_=>.dT aF (sm.free hfr) rk2 nd
end
end Mi
namespace Mi
open PySem
def aBs(o:bc)(f:aI al->aI al):(o.mapFields f).dict=o.dict:=by
 obtain⟨c,d,dt,sl⟩:=o;cases dt<;>rfl
def VJ(T:am):(dv T !=gu)=ag:=by simp
def aFi(L:am):¬((gu==b9 L)=ag):=by simp[b9]
def TrD(h B:aE)(e:am)(c:al)(dd:au am)(fl:al):Prop:=
 ∃o vs T oT ts,(h.get? e=aa o/\o.cls=c/\o.dict=dd/\o.data=.fields vs)/\(vs[1]?=aa (.ref T)/\B.get? T=ai/\T≠e)/\h.get? T=aa oT/\oT.data=.fields ts/\ts[3]?=aa fl/\(dd≠ai->vs[2]?=aa .none)
def FD(B:aE)(l:ae cv)(e:am)(c:al)(dd:au am)(fl:al)(h:aE):Prop:=B.StaysIn h/\B.get? e=ai/\h.FunFrames B l/\TrD h B e c dd fl
def FD.there(x:FD B l e c dd fl h):∃o,h.get? e=aa o/\o.cls=c/\o.dict=dd/\∃vs,o.data=.fields vs:=by
 obtain⟨_,_,_,o,vs,_,_,_,⟨a,b,d,f⟩,_⟩:=x;exact⟨o,a,b,d,vs,f⟩
section
variable {M:Model} {A:bP} {E:al->ar->Prop} {s:ar} {B:aE} {env:cv} {outer l:ae cv} {L e:am} {oe:bc} {vs:aI al} {head c:al} {dd:au am} {Q:Unit->ar->Prop}
def RB{h:aE}(i:ah)(v:al)(ho:h.get? a=aa o)(hd:o.data=.fields ws) :
  ∃h2:aE,h2=h.update a (mq (·.setIfInBounds i v))/\(∀b,b≠a->h2.get? b=h.get? b)/\∃o2,h2.get? a=aa o2/\o2.cls=o.cls/\o2.dict=o.dict/\o2.data=.fields (ws.setIfInBounds i v):=
 ⟨_,rfl,λb hb=>nV _ _ (Ne.symm hb),_,jw _ ho (zI (mP hd _)),CY _ _,aBs _ _,mP hd _⟩
def VL(hfr:A.frames=aa (env::outer))(hl:s.heap.FunFrames B (env::outer))(hf:env.frame=aa L)(he:s.heap.get? e=aa oe)(hB:B.StaysIn s.heap)(hn:B.get? e=ai)(hd:oe.data=.fields vs)(hz:1<vs.size)(h2:oe.dict≠ai->vs[2]?=aa .none)
 (q:∀h',FD B (env::outer) e oe.cls oe.dict (b9 L) h'->s.heap.UpToSlots h'->Q () {s with heap:=h'}) :
  ϑ M A (do let a <- frameOf env;let pl <- entryPlaceOf L had;let b <- C5 head a .none (b9 L) .none pl;setField (.ref e) 1 b) Q E s:=by
 have nf:e∉(env::outer).filterMap (·.frame):=λz=>by
  obtain⟨_,o,ho,k⟩:=hl.mem z;cases he.symm.trans ho;exact k _ hd
 refine ao (wpAny_frameOf_fun hfr hl hf λh1 so=>ao (wpAny_entryPlaceOf λpl hp=>?_));unfold C5;unfold newFields;refine ao (i7 ?_ (hp.sizeOk5 _ _ _ _ _));generalize hon:({cls:=.type "traceback",dict:=ai,data:=.fields ([head,.ref L,.none,b9 L,.none]++(if pl.isEmpty then bi 6 gu else pl)).toArray}:bc)=on;have e1:h1.get? e=aa oe:=(so.2.1 e nf).trans he;have B1:B.StaysIn h1:=λb o k=>(so.2.1 b λz=>by rw[(hl.mem z).1] at k;cases k).trans (hB b o k)
 have e2:=bS on e1;obtain⟨h3,r3,k3,o3,g3,c3,d3,f3⟩:=RB 1 (.ref h1.objs.size) e2 hd;have ne:h1.objs.size≠e:=fA (bw e1);have t3:h3.get? h1.objs.size=aa on:=(k3 _ ne).trans (cu h1 (by rw[<-hon];rfl));have keep:∀b o,b≠e->h1.get? b=aa o->h3.get? b=aa o:=λb o hb k=>(k3 b hb).trans (bS _ k)
 have nr:∀b o,s.heap.get? b=aa o->(∀vs,o.data≠.fields vs)->b≠e:=λb o k z w=>by
  rw[w] at k;cases he.symm.trans k;exact z _ hd
 have up:s.heap.UpToSlots h3:=λb o k z=>by
  obtain⟨sl,w⟩:=so.2.2 b o k;exact⟨sl,keep b _ (nr b o k z) w⟩
 refine mM e2 hd hz ?_;rw[<-r3];refine q h3 ⟨λb o k=>keep b o (λz=>by rw[z,hn] at k;cases k) (B1 b o k),hn,hl.of_keeps λb o k z=>let ⟨sl,w⟩:=up b o k z;⟨_,w,rfl⟩,?_⟩ up;have don:on.data=.fields ([head,.ref L,.none,b9 L,.none]++(if pl.isEmpty then bi 6 gu else pl)).toArray:=by rw[<-hon]
 exact⟨o3,_,h1.objs.size,on,_,⟨g3,c3,d3,f3⟩,⟨by simp[hz],B1.fresh,ne⟩,t3,don,by simp,λz=>by rw[Array.getElem?_setIfInBounds,ax 0x4];exact h2 z⟩
def q_(x:FD B l e c dd fl s.heap)(q:∀h',FD B l e c dd .none h'->s.heap.UpToSlots h'->Q () {s with heap:=h'}):ϑ M A (setFlight (.ref e) ai) Q E s:=by
 obtain⟨k1,k2,k3,o,vs,T,oT,ts,⟨g1,g2,g3,g4⟩,⟨t1,t2,t3⟩,u1,u2,u3,u4⟩:=x;obtain⟨h2,r2,j2,o2,p1,p2,p3,p4⟩:=RB 3 gu u1 u2;have hz:3<ts.size:=(sr.mp u3).1;have up:∀b o,s.heap.get? b=aa o->(∀vs,o.data≠.fields vs)->h2.get? b=aa o:=λb o k z=>(j2 b λw=>by
  rw[w] at k;cases u1.symm.trans k;exact z _ u2).trans k
 unfold setFlight;refine ao (ck g1 g4 t1 ?_);rw[aq (VJ T)];refine mM u1 u2 hz ?_;show Q () {s with heap:=s.heap.update T (mq (·.setIfInBounds 3 gu))};rw[<-r2];exact q h2 ⟨λb o k=>(j2 b λw=>by rw[w,t2] at k;cases k).trans (k1 b o k),k2,k3.of_keeps λb o k z=>⟨o,up b o k z,rfl⟩,o,vs,T,o2,_,⟨(j2 e (Ne.symm t3)).trans g1,g2,g3,g4⟩,⟨t1,t2,t3⟩,p1,p4,by simp[hz],u4⟩ λb o k z=>⟨o.slots,up b o k z⟩
def aBt(hfr:A.frames=aa (env::outer))(hf:env.frame=aa L)(x:FD B (env::outer) e c dd .none s.heap)(q:∀h',FD B (env::outer) e c dd (b9 L) h'->s.heap.UpToSlots h'->Q () {s with heap:=h'}):ϑ M A (Ac (.ref e) env) Q E s:=by
 obtain⟨k1,k2,k3,o,vs,T,oT,ts,⟨g1,g2,g3,g4⟩,⟨t1,t2,t3⟩,u1,u2,u3,u4⟩:=x;obtain⟨h2,r2,j2,o2,p1,p2,p3,p4⟩:=RB 3 gu u1 u2;have up:∀b o,s.heap.get? b=aa o->(∀vs,o.data≠.fields vs)->h2.get? b=aa o:=λb o k z=>(j2 b λw=>by
  rw[w] at k;cases u1.symm.trans k;exact z _ u2).trans k
 unfold Ac;simp only[hf];refine ao (ck g1 g4 t1 ?_);rw[aq (VJ T)];refine ao (ck u1 u2 u3 ?_);rw[ax (aFi L)];refine ao (mM u1 u2 (sr.mp u3).1 ?_);rw[<-r2];have g1':h2.get? e=aa o:=(j2 e (Ne.symm t3)).trans g1;subst g2 g3;refine VL hfr (k3.of_keeps λb o k z=>⟨o,up b o k z,rfl⟩) hf g1' (λb o k=>(j2 b λw=>by rw[w,t2] at k;cases k).trans (k1 b o k)) k2 g4 (sr.mp t1).1 u4 λh' y z=>q h' y λb o k w=>z b o (up b o k w) w
def aFj(hfr:A.frames=aa (env::outer))(hf:env.frame=aa L)(x:FD B (env::outer) e c dd .none s.heap)(q:∀h',FD B outer e c dd .none h'->s.heap.UpToSlots h'->Q () {s with heap:=h'}):ϑ M A (leaving env (.ref e)) Q E s:=by
 unfold leaving;refine ao (aBt hfr hf x λh1 x1 u1=>q_ x1 λh2 x2 u2=>q h2 ⟨x2.1,x2.2.1,x2.2.2.1.2.2,x2.2.2.2⟩ (u1.trans u2))
def aFk(hfr:A.frames=aa (env::outer))(hf:env.frame=aa L)(hl:s.heap.FunFrames B (env::outer))(he:s.heap.get? e=aa oe)(hB:B.StaysIn s.heap)(hn:B.get? e=ai)(hd:oe.data=.fields vs)(hv:vs[1]?=aa .none)(h2:oe.dict≠ai->vs[2]?=aa .none)
 (q:∀h',FD B outer e oe.cls oe.dict .none h'->s.heap.UpToSlots h'->Q () {s with heap:=h'}):ϑ M A (leaving env (.ref e)) Q E s:=by
 unfold leaving Ac;simp only[hf];refine ao (ao (ck he hd hv ?_));rw[ax 0x4];exact VL hfr hl hf he hB hn hd (sr.mp hv).1 h2 λh1 x1 u1=>q_ x1 λh2 x2 u2=>q h2 ⟨x2.1,x2.2.1,x2.2.2.1.2.2,x2.2.2.2⟩ (u1.trans u2)
end
open L2 PySem.W PySem.SeqAt PySem.Spec PyProof.Rows Builtin Builtin.ObjectAttr
def XO.stay(x:XO a C dx h1)(k:∀o,h1.get? a=aa o->h2.get? a=aa o):XO a C dx h2:=let ⟨o,e,r⟩:=x;⟨o,k _ e,r⟩
section
def aSc(x:XO a C dx h):gP P w H h a (.ext (XO a C dx)):=⟨x,let ⟨o,e,_⟩:=x;⟨o,e⟩,λ_ _ y k=>y.stay k⟩
end
def CX2(P:bu)(w:bn):CXT:=λouter H s E e s'=>∃(a C:am)(dd:au am)(H1:Hp)(B:aE),e=.ref a/\s'.os=s.os/\ib s'.gens/\FD B outer a (.ref C) dd .none s'.heap/\
 (∀h6:aE,B.StaysIn h6->s'.heap.UpToSlots h6->Un (L2.frs outer) [] H H1 s.heap h6/\HOk P w H1 h6)/\H1 a=ai/\s.heap.get? a=ai/\E (.ref C) dd H1
section
variable {P:bu} {w:bn} {K:aT} {mg:Str->au al} {base:aE} {N:ae Str} {qual:Str} {scope:eL} {f C:am} {cd:al} {A:bP} {outer:ae cv} {s:ar} {H:Hp} {E:XK}
def mU:xH (CX2 P w) (xJ (CX2 P w) P w K mg base N qual scope f cd A outer s H E) E:=by
 intro Ψ σ Hm sm e s' I hx;obtain⟨a,C,dd,H1,B,rfl,os',bare',fly,clo,hn,hgone,hE⟩:=hx
 let env:=du qual scope s.heap.objs.size f cd
 have hfr:L2.frs (env::outer)=s.heap.objs.size::L2.frs outer:=by
  unfold L2.frs;rw[nj];rfl
 have u0:Un (L2.frs outer) [] H Hm s.heap sm.heap:=I.base;show ϑ (ay P w) (A.deeper env) (leaving env (.ref a)) (λ_ s''=>CX2 P w outer H s E (.ref a) s'') (λe' s''=>CX2 P w outer H s E e' s'') s';refine aFj I.ok.frames rfl fly λh' x1 x4=>?_
 have hgone0:s.heap.get? a=ai:=by
  cases q:s.heap.get? a with
  |none=>rfl
  |some o=>
   obtain⟨o',e1⟩:=u0.there a o q 0x2;rw[hgone] at e1;cases e1
 refine⟨a,C,dd,H1,B,rfl,os'.trans I.os,bare',x1,λh6 st up=>?_,hn,hgone0,hE⟩;obtain⟨u2,hok⟩:=clo h6 st (x4.trans up);have nL:∀b o,s.heap.get? b=aa o->b∉L2.frs outer->b∉L2.frs (env::outer):=λb o eb hb z=>by
  rw[hfr] at z;rcases bq.mp z with z|z
  .exact aS (bw eb) (by rw[z];exact eW _)
  .exact hb z
 refine⟨⟨λb o eb hn hb hx'=>u2.keep b o (u0.keep b o eb hn hb hx') (u0.free b o eb hn hx') (nL b o eb hb) 0x2,λb o eb hn hb hx'=>?_,λb o eb hn hx'=>?_,λb o eb hx'=>?_,λb xs q=>u2.tups b xs (u0.tups b xs q),λb o u q=>u2.frzs b o u (u0.frzs b o u q),λb ps q=>?_⟩,hok⟩
 .obtain⟨sl,e1⟩:=u0.slot b o eb hn hb hx';obtain⟨sl',e2⟩:=u2.slot b _ e1 (u0.free b o eb hn hx') (show b∈L2.frs (env::outer) by rw[hfr];exact bX _ hb) 0x2;exact⟨sl',e2⟩
 .obtain⟨o',e1⟩:=u0.there b o eb hx';exact u2.free b o' e1 (u0.free b o eb hn hx') 0x2
 .obtain⟨o',e1⟩:=u0.there b o eb hx';exact u2.there b o' e1 0x2
 .obtain⟨m1,q1⟩:=u0.tbls b ps q;obtain⟨m2,q2⟩:=u2.tbls b _ q1;exact⟨m1++m2,by rw[<-Av];exact q2⟩
end
end Mi
namespace Mi
open PySem L2 PySem.W PySem.SeqAt PySem.Spec PyProof.Rows
noncomputable def noE{α:Type}(f:ae D->Res α):ae D->Res α:=λρ=>match f ρ with|.ok a=>.ok a|_=>.bad
def LC(h:f ρ=.ok a):noE f ρ=.ok a:=by unfold noE;rw[h]
def aBu{f:ae D->Res α}:(∃a,f ρ=.ok a/\noE f ρ=.ok a)\/noE f ρ=.bad:=by
 unfold noE;cases f ρ with
 |ok a=>exact .inl ⟨a,rfl,rfl⟩
 |err c as=>exact .inr rfl
 |bad=>exact .inr rfl
section
variable [KFrag]
def aHt(own:ah->aw)(E:XK)(σ:L2.St)(H:Hp)(c:Str)(as:ae D):Prop:=∃fs C,as=[.exc c fs]/\nsIn KFrag.K bt c=aa (aa (.ref C))/\∀σ' H' dx,KU own σ H σ' H'->XDs H' fs dx->E (.ref C) dx H'
def kZ(own:ah->aw)(E:XK)(D:Ends)(σ:L2.St)(H:Hp):Res Fl->Prop
 |.ok fl=>kS own D σ H fl
 |.err c as=>aHt own E σ H c as
 |.bad=>cf
noncomputable def tZ(own:ah->aw)(E:XK)(f:FS):TS:=λD σ H=>∃ρ,ES own H σ ρ/\kZ own E D σ H (f ρ)
def aOt(E:XK)(H:Hp)(c:Str)(as:ae D):Prop:=∃fs C,as=[.exc c fs]/\nsIn KFrag.K bt c=aa (aa (.ref C))/\∀H' dx,bK H H'->XDs H' fs dx->E (.ref C) dx H'
def kZE(E:XK)(H:Hp)(Q:VK):Res D->Prop
 |.ok d=>kR H d ag Q
 |.err c as=>aOt E H c as
 |.bad=>cf
noncomputable def gZ(E:XK)(f:FE):TE:=λσ H Q=>∃ρ,ER H σ ρ/\kZE E H Q (f ρ)
noncomputable def spZ(f:ae D->Res D)(n:ah):Sp:=λvs H Q E=>∃ds,ds.length=n/\bJ All H vs ds/\kZE E H Q (f ds)
def aKe(P:bu)(w:bn)(K:aT)(mg:Str->au al)(base:aE)(k:ah)(x:Str)(n:ah)(f:ae D->Res D):Prop:=
 ∃(fad:am)(fd:dm)(ps:ae Str),j4 P w K mg base (CX2 P w) k fad fd ps (spZ f n)/\mg x=aa (.ref fad)/\gz K (.ref fad)=ag/\Binds K fd ps []
section
variable {own:ah->aw} {E:XK} {D':Ends} {σ σ':L2.St} {H H':Hp}
def aHt.step(k:KU own σ H σ' H')(h:aHt own E σ H c as):aHt own E σ' H' c as:=let ⟨fs,C,h1,h2,h3⟩:=h;⟨fs,C,h1,h2,λσ2 H2 dx k2 x=>h3 σ2 H2 dx (k.trans k2) x⟩
def kZ.step(k:KU own σ H σ' H')(h:kZ own E D' σ H r):kZ own E D' σ' H' r:=by
 cases r with
 |ok fl=>exact kS.step k h
 |err c as=>exact aHt.step k h
 |bad=>exact h
def aHt.expr(h:aHt own E σ H c as):aOt E H c as:=let ⟨fs,C,h1,h2,h3⟩:=h;⟨fs,C,h1,h2,λH' dx sm x=>h3 σ H' dx (.same sm) x⟩
end
section
variable {own:ah->aw} {E:XK} {X:Cx} {st:bp} {rest:ae bp} {f g:FS} {c e:Expr} {pos pos':cm} {fe:FE}
def aHu(h:PS X.nox st (tS own f)):PS X st (tZ own E (noE f)):=PS.imp (PS.nox h) λD σ H ⟨ρ,es,k⟩=>by
 rcases aBu with ⟨fl,h1,h2⟩|h2
 .rw[h2] at k;exact⟨ρ,fl,es,h1,k⟩
 .rw[h2] at k;exact k.elim
def aSd(h:PS X st (tZ own E f)):PSs X [st] (tZ own E f):=dD h
def aHv(h1:PS X st (tZ own E f))(h2:PSs X rest (tZ own E g)):PSs X (st::rest) (tZ own E (bU f g)):=PSs.imp (bO h1 h2) λD σ H ⟨ρ,es,k⟩=>by
 refine⟨ρ,es,?_⟩;cases hf:f ρ with
 |ok r=>
  cases r with
  |nx ρ'=>
   have e:bU f g ρ=g ρ':=by unfold bU;rw[hf];rfl
   rw[e] at k;exact λσ' H' ku E'=>⟨ρ',E',k.step ku⟩
  |bk ρ'=>
   have e:bU f g ρ=.ok (.bk ρ'):=by unfold bU;rw[hf];rfl
   rw[e] at k;exact k
  |ct ρ'=>
   have e:bU f g ρ=.ok (.ct ρ'):=by unfold bU;rw[hf];rfl
   rw[e] at k;exact k
  |rt d=>
   have e:bU f g ρ=.ok (.rt d):=by unfold bU;rw[hf];rfl
   rw[e] at k;exact k
 |err c as=>
  have e:bU f g ρ=.err c as:=by unfold bU;rw[hf];rfl
  rw[e] at k;exact k
 |bad=>
  have e:bU f g ρ=.bad:=by unfold bU;rw[hf];rfl
  rw[e] at k;exact k
def aSe(ho:own i=o)(hN:X.N.Nodup)(hi:X.N[i]?=aa x)(hx:Loc X.env.scope x)(he:PE X e (gZ E fe))(hs:zSw X e x pos' pos:=by rfl)(hf:zFn X x:=by first|exact .inl rfl|exact .inr rfl|assumption) :
  PS X (.Assign [.Name x pos'] e pos) (tZ own E (cZ o i fe ag)):=PS.imp (BV hN hi hx he hs hf) λD σ H ⟨ρ,es,k⟩=>by
 refine⟨ρ,es.er,?_⟩;cases hfe:fe ρ with
 |ok d=>
  have e:cZ o i fe ag ρ=cZ o i (λ_=>.ok d) ag ρ:=by unfold cZ;rw[hfe]
  rw[e] at k;cases hs2:cZ o i (λ_=>.ok d) ag ρ with
  |ok fl=>
   rw[hs2] at k;obtain⟨ρ',d',_,h1,q⟩:=QV ho ⟨ρ,fl,es,hs2,k⟩;cases h1;exact q
  |err c as=>
   exfalso;unfold cZ at hs2;rw[θ] at hs2;generalize (if o=ag then ag&&inner d else ag||d.pure)=b at hs2;cases b<;>cases hs2
  |bad=>rw[hs2] at k;exact k.elim
 |err c as=>
  have e:cZ o i fe ag ρ=.err c as:=by unfold cZ;rw[hfe];rfl
  rw[e] at k;exact aHt.expr k
 |bad=>
  have e:cZ o i fe ag ρ=.bad:=by unfold cZ;rw[hfe];rfl
  rw[e] at k;exact k.elim
end
section
variable {P:bu} {w:bn} {K:aT} {mg:Str->au al} {base:aE} {N:ae Str} {qual:Str} {scope:eL} {fad C:am} {cd:al} {A:bP} {outer:ae cv} {s:ar} {H:Hp} {E:XK}
theorem aKf(R:aKe P w K mg base k x n v)(hr:j0 k' (A.deeper (du qual scope s.heap.objs.size fad cd)))(hkk:k<=k')(hg:Gl (xJ (CX2 P w) P w K mg base N qual scope fad cd A outer s H E) x)(ha:PA (xJ (CX2 P w) P w K mg base N qual scope fad cd A outer s H E) (e::es) (gA fa r))
 (hdb:nDb x:=by decide)(he:cw (e::es) (du qual scope s.heap.objs.size fad cd)=(aj,eval e (du qual scope s.heap.objs.size fad cd))::cw es (du qual scope s.heap.objs.size fad cd):=by rfl)(hpl:(gw cpos (cw es (du qual scope s.heap.objs.size fad cd))).any (·.1)=aj:=by rfl) :
  PE (xJ (CX2 P w) P w K mg base N qual scope fad cd A outer s H E) (.Call (.Name x p) (e::es) [] cpos) (gZ E (aQ (cU n v) (noE fa))):=by
 obtain⟨fm,fdm,ps,F,hm,hk,hb⟩:=R;refine PE.imp (PN F (hr.mono hkk) hg hm hk hb .nil mU ha hdb he hpl) λσ H1 Q ⟨ρ,er,k⟩=>?_
 rcases aBu with ⟨ds,h1,h2⟩|h2
 .have e:aQ (cU n v) (noE fa) ρ=cU n v ds:=by unfold aQ;rw[h2];rfl
  rw[e] at k;unfold cU at k;split at k
  .rename_i hl;refine⟨ρ,ds,er,h1,λvs H' sm rs _=>⟨ds,dy hl,by rw[dQ];exact rs,?_⟩⟩;cases hv:v ds with
   |ok d=>rw[hv] at k;exact kR.imp k sm id
   |err c as=>
    rw[hv] at k;obtain⟨fs,C,e1,e2,e3⟩:=k;exact⟨fs,C,e1,e2,λH2 dx s2 x=>e3 H2 dx (sm.trans s2) x⟩
   |bad=>rw[hv] at k;exact k
  .exact k.elim
 .have e:aQ (cU n v) (noE fa) ρ=.bad:=by unfold aQ;rw[h2];rfl
  rw[e] at k;exact k.elim
end
end
def aSf(p:Str->Prop):ae Str->Prop
 |[]=>gv
 |c::r=>p c/\aSf p r
def aBv:∀{t:ae Str},aSf p t->∀c,t.contains c=ag->p c
 |[],_,_,h=>by cases h
 |d::r,⟨h1,h2⟩,c,h=>by
  rw[List.contains_cons] at h;rcases(f_ _ _).mp h with z|z
  .rw[ig.mp z];exact h1
  .exact aBv h2 c z
section
variable [KFrag]
end
section
variable {P:bu} {w:bn} {K:aT} {mg:Str->au al} {base:aE} {N:ae Str} {qual:Str} {scope:eL} {f C:am} {cd:al} {A:bP} {outer:ae cv} {s:ar} {H:Hp} {E:XK}
def aBw(I:Inv (xJ (CX2 P w) P w K mg base N qual scope f cd A outer s H E) Ψ σ H1 s1)(keeps:∀b o,s1.heap.get? b=aa o->h2.get? b=aa o)(new:s1.heap.get? e=ai)(ht:h2.get? e=aa {cls:=.ref C,data:=.fields vs})(hv:vs[1]?=aa .none)(hE:E (.ref C) ai H1) :
  (xJ (CX2 P w) P w K mg base N qual scope f cd A outer s H E).xe (.ref e) {s1 with heap:=h2}:=by
 let env:=du qual scope s.heap.objs.size f cd
 have hfr:L2.frs (env::outer)=s.heap.objs.size::L2.frs outer:=by
  unfold L2.frs;rw[nj];rfl
 have hin:∀v∈(env::outer),∀b,v.frame=aa b->b∈L2.frs (env::outer):=λv hv b hb=>xC.mpr ⟨v,hv,hb⟩
 have stk:s1.heap.FunFrames base (env::outer):=I.stack;have sfree:∀b∈L2.frs (env::outer),H1 b=ai:=I.O_;have u0:Un (L2.frs outer) [] H H1 s.heap s1.heap:=I.base;have hn0:(xn s1.heap (L2.frs (env::outer))).get? e=ai:=by
  cases q:(xn s1.heap (L2.frs (env::outer))).get? e with
  |none=>rfl
  |some o=>
   have e1:=xo _ q;rw[new] at e1;cases e1
 show ϑ (ay P w) (A.deeper env) (leaving env (.ref e)) (λ_ s''=>CX2 P w outer H s E (.ref e) s'') (λe' s''=>CX2 P w outer H s E e' s'') {s1 with heap:=h2};refine aFk I.ok.frames rfl ((PySem.W.funFrames_hide stk hin).of_keeps λb o k _=>⟨o,keeps b o k,rfl⟩) ht (λb o q=>keeps b o (xo _ q)) hn0 rfl hv (λz=>aS rfl z) λh' x1 x4=>?_
 have hgone:s.heap.get? e=ai:=by
  cases q:s.heap.get? e with
  |none=>rfl
  |some o=>
   obtain⟨o',e1⟩:=u0.there e o q 0x2;rw[new] at e1;cases e1
 have huntr:H1 e=ai:=by
  cases q:H1 e with
  |none=>rfl
  |some u=>
   obtain⟨o,e1⟩:=Q3 (I.hok e u q);rw[new] at e1;cases e1
 refine⟨e,C,ai,H1,_,rfl,I.os,I.bare,x1,λh6 st up=>?_,huntr,hgone,hE⟩;have k:∀b o,s1.heap.get? b=aa o->b∉L2.frs (env::outer)->h6.get? b=aa o:=λb o eb hb=>st b o (As _ eb hb)
 have up6:s1.heap.UpToSlots h6:=((D9 keeps).trans x4).trans up;have nL:∀b o,s.heap.get? b=aa o->b∉L2.frs outer->b∉L2.frs (env::outer):=λb o eb hb z=>by
  rw[hfr] at z;rcases bq.mp z with z|z
  .exact aS (bw eb) (by rw[z];exact eW _)
  .exact hb z
 have slot:∀b o,s1.heap.get? b=aa o->b∈L2.frs outer->∃sl,h6.get? b=aa {o with slots:=sl}:=λb o eb hb=>by
  obtain⟨_,o',ho',hd⟩:=stk.mem (show b∈L2.frs (env::outer) by rw[hfr];exact bX _ hb);rw[eb] at ho';cases ho';exact up6 b o eb hd
 refine⟨⟨λb o eb hn hb hx'=>k b o (u0.keep b o eb hn hb hx') (nL b o eb hb),λb o eb hn hb hx'=>?_,λb o eb hn hx'=>u0.free b o eb hn hx',λb o eb hx'=>?_,u0.tups,u0.frzs,u0.tbls⟩,λb u eb=>?_⟩
 .obtain⟨sl,e1⟩:=u0.slot b o eb hn hb hx';obtain⟨sl',e2⟩:=slot b _ e1 hb;exact⟨sl',e2⟩
 .obtain⟨o',e1⟩:=u0.there b o eb hx';by_cases hb:b∈L2.frs outer
  .obtain⟨sl,e2⟩:=slot b o' e1 hb;exact⟨_,e2⟩
  .exact⟨o',k b o' e1 (nL b o eb hb)⟩
 .refine(I.hok b u eb).stay (λc v hc q=>k c v q λz=>?_) (λ_ q=>q) λ_ _ q=>q
  have:=sfree c z;rcases hc with hc|hc
  .rw[hc,eb] at this;cases this
  .rw[hc] at this;cases this
def aBx(I:Inv (xJ (CX2 P w) P w K mg base N qual scope f cd A outer s H E) Ψ σ H1 s1)(hx:Ce s1.heap h2 e (.ref C) args)(hE:E (.ref C) ai H1) :
  (xJ (CX2 P w) P w K mg base N qual scope f cd A outer s H E).xe (.ref e) {s1 with heap:=h2}:=
 let ⟨_,ht,_,_⟩:=hx.there
 aBw I hx.keeps hx.new ht rfl hE
end
section
variable [KFrag]
end
structure Cn where
 c:ak
 p:ak
 d:ak
noncomputable def Cn.use(k:Cn)(u z:ak):Cn:=if u=0 then {k with d:=k.d+z} else {k with p:=k.p+(u-1)*z}
noncomputable def Cn.call(k:Cn):Cn:={k with c:=k.c+1}
noncomputable def prF(hd mk rl:ae (D×D))(m:ak)(k:Cn):ae (Str×D):=[("heads",.dct hd),("makers",.dct mk),("rules",.dct rl),("most",.int m),("calls",.int k.c),("copies",.int k.p),("drops",.int k.d)]
noncomputable def prV(h1 h2 h3:V)(m:ak)(k:Cn):ae (Str×V):=[("heads",h1),("makers",h2),("rules",h3),("most",.int m),("calls",.int k.c),("copies",.int k.p),("drops",.int k.d)]
def nO(ws:ae D):ae (D×D)->Cn->au Cn
 |[],k=>aa k
 | (.str x,.tup [_,_,.int z])::r,k=>match aBd x ws with
  |some n=>if ϒ (n<1000000) then nO ws r (k.use n z) else ai
  |none=>ai
 |_::_,_=>ai
noncomputable def aBy:Res (ae D×ae (D×D)×Cn):=.err "Spent" [.exc "Spent" []]
def aDx(rl:ae (D×D))(m:ak)(k:Cn)(tk:D):ae D->Res (ae D×ae (D×D)×Cn)
 |.tup [w0,.tup xs,z0]::more=>match getD (.dct rl) (.tup [tk,w0]) with
  |.ok (.tup [r0,r1,.tup own,.tup ws])=>if ϒ (xs.length+more.length<=1000)&&(δ xs&&(δ more&&δ ws)) then (match kI [.tup own,.lst (xs++more)] with
   |.ok (.dct kn)=>(match nO ws kn k.call with
    |some k'=>if k'.c+k'.p+k'.d > m then aBy else .ok (ws,kn,k')
    |none=>.bad)
   |_=>.bad) else .bad
  |_=>.bad
 |_=>.bad
section
variable [KFrag]
def aRa(S:am->Prop)(H H':Hp):Prop:=∀b o,H b=aa o->¬S b->H' b=aa o
inductive EL(H:Hp):ae (au V)->ae D->Prop
 |nil {σ:ae (au V)}:EL H σ []
 |skip {o:au V} {σ:ae (au V)} {ρ:ae D}:EL H σ ρ->EL H (o::σ) (.uD::ρ)
 |cons {v:V} {d:D} {σ:ae (au V)} {ρ:ae D}:Rep All H v d->EL H σ ρ->EL H (aa v::σ) (d::ρ)
def EL.er:∀{σ:ae (au V)}{ρ:ae D},EL H σ ρ->ER H σ ρ
 |_,_,.nil=>λi hi=>aS 0x2 hi
 |_,_,.skip t=>λi hi=>match i,hi with
  |0,hi=>aS rfl hi
  |i+1,hi=>EL.er t i hi
 |_,_,.cons r t=>λi hi=>match i,hi with
  |0,_=>⟨_,rfl,r⟩
  |i+1,hi=>EL.er t i hi
def aSg{K:aT}{mg:Str->au al}{base:aE}{x qual:Str}{st:bp}{f:am}{fd:dm}{N ps:ae Str}{k:ah}{sp:Sp}(F:Fun K x qual st f fd)(S:bG N ps (aH st))(len:∀vs H Q E,sp vs H Q E->vs.length=ps.length)
 (hbody:∀(cdv:al) (A:bP) (outer:ae cv) (s:ar) (H:Hp) (vs:ae V) (Q:VK) (E:XK),j0 k (A.deeper (du qual (aH st) s.heap.objs.size f cdv))->sp vs H Q E->
   ∃t,PSs (xJ (CX2 P w) P w K mg base N qual (aH st) f cdv A outer s H E) (cH st) t/\t {nx:=λ_ H'=>Q .non H',rt:=Q} (start N vs) H):j4 P w K mg base (CX2 P w) (k+1) f fd ps sp:=by
 obtain⟨oc,od,kV,doc,pm,an,cdv,ct,osl,rfl,lk,hcd⟩:=F.ex;exact aEa lk hcd S len λA outer s H vs Q E hr hsp=>hbody cdv A outer s H vs Q E hr hsp
def aTl(t:TS):TS:=λD σ H=>∃ad u0,H ad=aa u0/\xT u0=ag/\t {D with nx:=λσ' H'=>∃o u,H' ad=aa (.frz o u)/\D.nx σ' (upd H' ad u)} σ H
def aOu{st:bp}(h:PS X st t):PS X st (aTl t):=by
 intro Ψ s σ H D I ⟨ad,u0,h1,h2,h3⟩;have hn:∀o u,X.H₀ ad≠aa (.frz o u):=λo u z=>by
  have:=I.base.frzs ad o u z;rw[h1] at this;cases this;cases h2
 refine eM (h Ψ s σ H _ I h3) (λf s' q=>?_) λ_ _ z=>z
 cases f with
 |next=>
  obtain⟨σ',H',I',o,u,e,q⟩:=q;exact⟨σ',_,aF5 I' e hn,q⟩
 |brk=>exact q
 |cont=>exact q
 |ret v=>exact q
section
variable {K:aT} {C CF CS:am} {l:ae (Str×Srx)}
def tCU(K:aT):TS:=aIs (tB (aRg (gQ 1) (tC (.int 0))))
 (aMf K (gQ 0) (aMd (TF K (gQ 0) "drops") (gQ 2)) "drops")
 (aMf K (gQ 0) (aMd (TF K (gQ 0) "copies") (aT7 (aRe (gQ 1) (tC (.int 1))) (gQ 2))) "copies")
def aMk(C:am):Sp:=λvs H Q _=>∃(a dx:am)(h1 h2 h3:V)(m:ak)(k:Cn)(u z:ak),vs=[.ref a,.int u,.int z]/\H a=aa (.ins C dx (prV h1 h2 h3 m k))/\(-(2 ^ 64)<u-1/\u-1<2 ^ 64)/\Q .non (upd H a (.ins C dx (prV h1 h2 h3 m (k.use u z))))
def aBz:vJ "drops" (.int y) (prV h1 h2 h3 m k)=prV h1 h2 h3 m {k with d:=y}:=rfl
def YX:vJ "copies" (.int y) (prV h1 h2 h3 m k)=prV h1 h2 h3 m {k with p:=y}:=rfl
def aC0:vJ "calls" (.int y) (prV h1 h2 h3 m k)=prV h1 h2 h3 m {k with c:=y}:=rfl
def aKg(hN:N.length=3)(cl:Cls K C)(n1:cG K C "drops")(n2:cG K C "copies"){E:XK}(h:aMk C vs H Q E):tCU K {nx:=λ_ H'=>Q .non H',rt:=Q} (L2.start N vs) H:=by
 obtain⟨a,dx,h1,h2,h3,m,k,u,z,rfl,ha,hu,q⟩:=h;have hst:L2.start N [V.ref a,.int u,.int z]=[aa (.ref a),aa (.int u),aa (.int z)]:=by
  unfold L2.start;rw[hN];rfl
 rw[hst];refine⟨.int u,rfl,u,0,rfl,rfl,_,rfl,?_⟩;dsimp only;by_cases hz:u=0
 .rw[aq (bj hz)];unfold Cn.use at q;rw[aq hz] at q;refine⟨.ref a,rfl,a,C,dx,_,.int k.d,rfl,ha,cl,n1,rfl,.int z,rfl,k.d,z,rfl,rfl,.ref a,rfl,a,C,dx,_,rfl,ha,cl,n1,by show 7<1000;decide,?_⟩;rw[aBz];exact q
 .rw[ax (by simp[hz])];unfold Cn.use at q;rw[ax hz] at q;refine⟨.ref a,rfl,a,C,dx,_,.int k.p,rfl,ha,cl,n2,rfl,.int u,rfl,u,1,rfl,rfl,.int z,rfl,u-1,z,rfl,rfl,hu,k.p,(u-1)*z,rfl,rfl,.ref a,rfl,a,C,dx,_,rfl,ha,cl,n2,by show 7<1000;decide,?_⟩;rw[YX];exact q
def FrA(CF:am)(H:Hp)(fr:am)(ws:ae D)(i:ah)(kn:ae (D×D)):Prop:=∃dx w1 w3,H fr=aa (.ins CF dx [("words",w1),("left",.int i),("known",w3)])/\Rep All H w1 (.tup ws)/\Rep All H w3 (.dct kn)
def aUr(CF CS:am)(a:am)(hd mk rl:ae (D×D))(m:ak)(H:Hp)(Q:VK)(E:XK):Res (ae D×ae (D×D)×Cn)->Prop
 |.ok (ws,kn,k')=>∀H' x,H x=ai->lN a H H'->Rep All H' (.ref a) (.ins "PlainRun" (prF hd mk rl m k'))->FrA CF H' x ws ws.length kn->Q (.ref x) H'
 |.err _ _=>∀H',lN a H H'->E (.ref CS) ai H'
 |.bad=>cf
def okR(hd mk rl:ae (D×D)):Prop:=δ (hd.map (·.2))=ag/\δ (mk.map (·.2))=ag/\δ (rl.map (·.2))=ag
def aC1(CF CS:am):Sp:=λvs H Q E=>∃a vt vp hd mk rl m k tk ps,vs=[.ref a,vt,vp]/\okR hd mk rl/\tk.pure=ag/\δ ps=ag/\Rep All H (.ref a) (.ins "PlainRun" (prF hd mk rl m k))/\Rep All H vt tk/\Rep All H vp (.lst ps)/\aUr CF CS a hd mk rl m H Q E (aDx rl m k tk ps)
def cf1:FE:=b2 getD fL g_
def cf2:FE:=b2 getD (aFf "PlainRun" "rules" cT) (jR (aC c7 (aC (b2 getD fB g_) aW)))
def cf3:FE:=aQ kI (aC (b2 getD lF uJ) (aC (b2 (cO .add) (aQ aEn (aC (b2 getD fB fM) aW)) (CK fL (j8 fM) lX)) aW))
def aSh:FE:=bM K3 (b2 getD lF J7) (aC lM aW)
def aSi:FE:=b2 getD n6 uJ
def cf7:FE:=b2 getD lF J7
def aUs(i:ah):TI:=λσ H R=>∃a kvs u,σ[i]?=aa (aa (.ref a))/\DV H a kvs/\H a=aa u/\∀o H1,bK H H1->R (Iti a o u kvs) (upd H1 a (.frz o u))
def aTm(K:aT)(C CS:am)(l:ae (Str×Srx))(E:XK):TS:=
 wV (JV (gE cf1 aj) (gR 3)) (wV (JV (gE cf2 aj) (gR 4)) (wV (JV (gE cf3 ag) (gR 5))
  (wV (aMf K (gQ 0) (aMd (TF K (gQ 0) "calls") (tC (.int 1))) "calls")
   (wV (aTl (aT8 (aUs 5) (aMe K 2 (W5 (gR 6) (W5 (gR 7) aQz))) (DR (XM C "count_uses" (aMk C) [] E0 (gQ 0) (dM (gE aSh ag) (dM (gE aSi aj) xF))))))
    (wV (aIs (tB (tGt (aMd (aMd (TF K (gQ 0) "calls") (TF K (gQ 0) "copies")) (TF K (gQ 0) "drops")) (TF K (gQ 0) "most"))) (λ_ _ H=>E (.ref CS) ai H) aE2)
     (aMz (tMk K "Frame" l 2 (dM (gE cf7 aj) (dM (gQ 5) xF)))))))))
def aOv:cf1 [.uD,.uD,.lst (d::ps)]=.ok d:=by
 show ν ((ixD (ps.length+1) 0).bind λj=>(d::ps)[j]?)=_;unfold ixD;rw[aq 0x1,aq 0x1];rfl
def aUt:getD (.tup (a::r)) (.int 0)=.ok a:=by
 show ν ((ixD (r.length+1) 0).bind λj=>(a::r)[j]?)=_;unfold ixD;rw[aq 0x1,aq 0x1];rfl
def aC2{d:D}(h:d.pure=ag):d≠.uD:=λz=>by subst z;cases h
def bV(h:ρ.getD i .uD=d)(hn:d≠.uD):eZ i ρ=.ok d:=by
 unfold eZ;rw[h];cases d<;>first|rfl|exact aS rfl hn
def aOw(ht:tk.pure=ag)(h:getD (.dct rl) (.tup [tk,w0])=.ok d):cf2 [.ins "PlainRun" (prF hd mk rl m k),tk,u,.tup (w0::r)]=.ok d:=by
 have e1:aFf "PlainRun" "rules" cT [.ins "PlainRun" (prF hd mk rl m k),tk,u,.tup (w0::r)]=.ok (.dct rl):=rfl;have e2:b2 getD fB g_ [.ins "PlainRun" (prF hd mk rl m k),tk,u,.tup (w0::r)]=.ok w0:=aUt;have e3:eZ 1 [.ins "PlainRun" (prF hd mk rl m k),tk,u,.tup (w0::r)]=.ok tk:=bV rfl (aC2 ht);exact aO e1 (eE (aD e3 (aD e2 rfl)) (by show 2<=lim;rw[bN];lia)) h
def aOx{w0 z0 r0 r1 d:D}(hl:xs.length+more.length<=1000)(hx:δ xs=ag)(hm:δ more=ag)(hp0:(μ [w0,.tup xs,z0]).pure=ag)(h:kI [.tup own,.lst (xs++more)]=.ok d):cf3 [a,b,.lst (.tup [w0,.tup xs,z0]::more),.tup [w0,.tup xs,z0],.tup (r0::r1::.tup own::r)]=.ok d:=by
 generalize hρ:[a,b,.lst (.tup [w0,.tup xs,z0]::more),.tup [w0,.tup xs,z0],.tup (r0::r1::.tup own::r)]=ρ;have e1:b2 getD lF uJ ρ=.ok (.tup own):=by
  subst hρ;show ν ((ixD (r.length+1+1+1) 2).bind λj=>(r0::r1::.tup own::r)[j]?)=_;unfold ixD;rw[aq 0x1,aq 0x1];rfl
 have e2:b2 getD fB fM ρ=.ok (.tup xs):=by subst hρ;rfl
 have e3:aQ aEn (aC (b2 getD fB fM) aW) ρ=.ok (.lst xs):=aX (aD e2 rfl) (by
  show(if δ xs=ag then τ (υ xs) else .bad)=_;rw[aq hx])
 have e4:CK fL (j8 fM) lX ρ=.ok (.lst more):=by
  subst hρ;show(if δ (.tup [w0,.tup xs,z0]::more)=ag then τ (υ (cutD (.tup [w0,.tup xs,z0]::more) (aa 1) ai)) else .bad)=_;rw[aq (by rw[δ,hp0,hm];rfl)];have:cutD (μ [w0,.tup xs,z0]::more) (aa 1) ai=more:=by
   show((μ [w0,.tup xs,z0]::more).drop ((min (1:ak) ((more.length+1:ah):ak)).toNat)).take ((more.length+1)-(min (1:ak) ((more.length+1:ah):ak)).toNat)=more;have:(min (1:ak) ((more.length+1:ah):ak)).toNat=1:=by lia
   rw[this,C6,zC,sh 0x1]
  rw[this]
 exact aX (aD e1 (aD (aO e3 e4 (by
  show(if (ϒ (xs.length+more.length<=lim)&&δ xs&&δ more)=ag then τ (υ (xs++more)) else .bad)=_;rw[aq (by rw[hx,hm,bj (by rw[bN];lia)];rfl)])) rfl)) h
def aKh{r0 r1 r2:D}(h:aBd x ws=aa n):aSh [a,b,c,d,.tup [r0,r1,r2,.tup ws],e,.str x,g]=.ok (.int n):=by
 show(match aBd x ws with|some n=>τ (ι n)|none=>.bad)=_;rw[h]
def aKi{r0 r1:D}:aSi [a,b,c,d,e,f,g,.tup [r0,r1,.int z]]=.ok (.int z):=rfl
def aOy{r0 r1 r2:D}:cf7 [a,b,c,d,.tup [r0,r1,r2,.tup ws]]=.ok (.tup ws):=rfl
def HB(h:aDx rl m k tk ps=res)(hne:res≠.bad):∃w0 xs z0 more r0 r1 own ws kn k',ps=.tup [w0,.tup xs,z0]::more/\getD (.dct rl) (.tup [tk,w0])=.ok (.tup [r0,r1,.tup own,.tup ws])/\xs.length+more.length<=1000/\δ xs=ag/\δ more=ag/\δ ws=ag/\kI [.tup own,.lst (xs++more)]=.ok (.dct kn)/\nO ws kn k.call=aa k'/\res=if k'.c+k'.p+k'.d > m then aBy else .ok (ws,kn,k'):=by
 unfold aDx at h;split at h
 .rename_i w0 xs z0 more;split at h
  .rename_i r0 r1 own ws hg;split at h
   .rename_i hb;simp only[ba,c_] at hb;split at h
    .rename_i kn hz;split at h
     .rename_i k' hu;exact⟨w0,xs,z0,more,r0,r1,own,ws,kn,k',rfl,hg,hb.1,hb.2.1,hb.2.2.1,hb.2.2.2,hz,hu,h.symm⟩
     .exact aS h.symm hne
    .exact aS h.symm hne
   .exact aS h.symm hne
  .exact aS h.symm hne
 .exact aS h.symm hne
def LK(h:nO ws (p::r) k=aa k'):∃x w y z n,p=(.str x,.tup [w,y,.int z])/\aBd x ws=aa n/\n<1000000/\nO ws r (k.use n z)=aa k':=by
 obtain⟨a,b⟩:=p;have key:∀a b,nO ws ((a,b)::r) k=aa k'->∃x w y z,a=.str x/\b=.tup [w,y,.int z]:=by
  intro a b h;cases a with
  |str x=>
   cases b with
   |tup l=>
    rcases l with _|⟨w,_|⟨y,_|⟨q,_|_⟩⟩⟩
    .cases h
    .cases h
    .cases h
    .cases q with
     |int z=>exact⟨x,w,y,z,rfl,rfl⟩
     |_=>cases h
    .cases q<;>cases h
   |_=>cases h
  |_=>cases h
 obtain⟨x,w,y,z,rfl,rfl⟩:=key a b h;have h:(match aBd x ws with|some n=>if ϒ (n<1000000) then nO ws r (k.use n z) else ai|none=>ai)=aa k':=h;split at h
 .rename_i n hn;split at h
  .rename_i hb;exact⟨x,w,y,z,n,rfl,hn,dy hb,h⟩
  .cases h
 .cases h
def VM:∀{kn:ae (D×D)}{k k':Cn},nO ws kn k=aa k'->kn.all (λp=>!isTup p.1)=ag
 |[],_,_,_=>rfl
 |p::r,_,_,h=>by
  obtain⟨x,w,y,z,n,rfl,_,_,h⟩:=LK h;rw[hU,VM h];rfl
def e_.at_:∀{kvs:ae (Key×V)}{ds:ae (D×D)}{i:ah}{p:Key×V},e_ P H kvs ds->kvs[i]?=aa p->∃d,ds[i]?=aa (kD p.1,d)/\Rep P H p.2 d
 |_,_,_,_,.nil,h=>by simp at h
 |_,_,0,_,.cons r t,h=>by simp at h;subst h;exact⟨_,rfl,r⟩
 |_,_,i+1,p,.cons r t,h=>by
  obtain⟨d,h1,h2⟩:=e_.at_ t (by simpa using h);exact⟨d,by simpa using h1,h2⟩
def e_.len:∀{kvs:ae (Key×V)}{ds:ae (D×D)},e_ P H kvs ds->kvs.length=ds.length
 |_,_,.nil=>rfl
 |_,_,.cons r t=>by rw[bz,bz,e_.len t]
def aOz(r:Rep P H v (.dct kn))(hb:kn.all (λp=>!isTup p.1)=ag):∃kd kvs u,v=.ref kd/\P kd/\DV H kd kvs/\H kd=aa u/\xT u=ag/\e_ P H kvs kn/\(kvs.map (·.1)).Nodup:=by
 cases r with
 |dK e p rk n=>exact⟨_,_,_,rfl,p,.inl e,e,rfl,rk,n⟩
 |dT e p rt n=>
  cases rt with
  |nil=>exact⟨_,[],_,rfl,p,.inr ⟨rfl,e⟩,e,rfl,.nil,by simp⟩
  |cons r t=>simp[isTup] at hb
def DV.rep(h:DV H kd kvs)(p:P kd)(r:e_ P H kvs kn)(n:(kvs.map (·.1)).Nodup):Rep P H (.ref kd) (.dct kn):=by
 rcases h with h|⟨rfl,h⟩
 .exact .dK h p r n
 .cases r;exact .dT h p .nil 0x2
def VN(h:kI [.tup own,.lst ys]=.ok (.dct kn)):δ (kn.map (·.2))=ag:=by
 have h:(if ϒ (own.length<=1000)&&ϒ (ys.length=own.length)&&own.all dZ&&δ ys then τ (χ (gK own ys [])) else .bad)=.ok (.dct kn):=h;split at h
 .rename_i hb;cases h;simp only[ba,c_] at hb;have go:∀(a b:ae D)(m:ae (D×D)),δ b=ag->δ (m.map (·.2))=ag->δ ((gK a b m).map (·.2))=ag:=by
   intro a;induction a with
   |nil=>intro b m _ hm;cases b<;>exact hm
   |cons x a ih=>
    intro b m hb hm;cases b with
    |nil=>exact hm
    |cons y b=>
     rw[δ,ba] at hb;exact ih b _ hb.2 (gW hb.1 hm)
  exact go _ _ [] hb.2 rfl
 .exact bx h
def HD(h:δ (kn.map (·.2))=ag):okF (.dct kn)=ag:=by
 unfold okF;rw[show inner (.dct kn)=δ (kn.map (·.2)) from rfl,h];simp
def HF:∀{rl:ae (D×D)},δ (rl.map (·.2))=ag->bH rl q=aa d->d.pure=ag
 |[],_,z=>by cases z
 | (p1,p2)::r,hp,z=>by
  rw[bh,δ,ba] at hp;rw[bH] at z;split at z
  .cases z;exact hp.1
  .exact HF hp.2 z
def aC3(h:δ (rl.map (·.2))=ag)(hg:getD (.dct rl) q=.ok d):d.pure=ag:=by
 have e:getD (.dct rl) q=if keyOk q then ν (bH rl q) else .bad:=by cases q<;>rfl
 rw[e] at hg;split at hg
 .cases hl:bH rl q with
  |none=>rw[hl] at hg;exact bx hg
  |some y=>
   rw[hl] at hg;cases hg;exact HF h hl
 .exact bx hg
def kJ(hK:KFrag.K=K)(hC:nsIn K bt "PlainRun"=aa (aa (.ref C)))(r:Rep All H (.ref a) (.ins "PlainRun" (prF hd mk rl m k))):∃dx h1 h2 h3,H a=aa (.ins C dx (prV h1 h2 h3 m k))/\Rep All H h1 (.dct hd)/\Rep All H h2 (.dct mk)/\Rep All H h3 (.dct rl):=by
 cases r with
 |ins hn hx rf=>
 rw[hK,hC] at hn;cases hn;cases rf with
 |cons r1 rf=>
 cases rf with
 |cons r2 rf=>
 cases rf with
 |cons r3 rf=>
 cases rf with
 |cons r4 rf=>
 cases rf with
 |cons r5 rf=>
 cases rf with
 |cons r6 rf=>
 cases rf with
 |cons r7 rf=>
 cases rf;cases r4.inv;cases r5.inv;cases r6.inv;cases r7.inv;exact⟨_,_,_,_,hx,r1,r2,r3⟩
def yR(hK:KFrag.K=K)(hC:nsIn K bt "PlainRun"=aa (aa (.ref C)))(hx:H a=aa (.ins C dx (prV h1 h2 h3 m k)))(r1:Rep P H h1 (.dct hd))(r2:Rep P H h2 (.dct mk))(r3:Rep P H h3 (.dct rl)):Rep P H (.ref a) (.ins "PlainRun" (prF hd mk rl m k)):=
 .ins (by rw[hK];exact hC) hx (.cons r1 (.cons r2 (.cons r3 (.cons (.int _) (.cons (.int _) (.cons (.int _) (.cons (.int _) .nil)))))))
def aFl{ws:ae D}{r0 r1 r2:D}{kn:ae (D×D)}{kvs:ae (Key×V)}{o:bc}{u:HO}{Hf:Hp}{D':Ends}{o6 o7:au V}(cl:Cls K C)
 (ha:Hf a=aa (.ins C dx (prV h1 h2 h3 m k)))(hkd:Hf kd=aa (.frz o u))(hr:Rep All Hf v4 (.tup [r0,r1,r2,.tup ws]))(pr:(μ [r0,r1,r2,.tup ws]).pure=ag)(rk:e_ All Hf kvs kn)(pk:δ (kn.map (·.2))=ag)(hu:nO ws kn k=aa k')
 (q:∀o6 o7 H',lN a Hf H'->H' a=aa (.ins C dx (prV h1 h2 h3 m k'))->D'.nx [aa (.ref a),aa vt,aa vp,aa v3,aa v4,aa (.ref kd),o6,o7] H') :
  ∃W:ah->ah->L2.St->Hp->Prop,(∃n,W 0 n [aa (.ref a),aa vt,aa vp,aa v3,aa v4,aa (.ref kd),o6,o7] Hf)/\∀i n σ H,W i n σ H->
   ((Iti kd o u kvs).stop i H/\D'.nx σ H)\/((Iti kd o u kvs).go i H/\∃N:L2.St->Hp->Prop,(∀σ' H',N σ' H'->∃n',n'<n/\W (i+1) n' σ' H')/\∀x H',(Iti kd o u kvs).yld i H x H'->aMe K 2 (W5 (gR 6) (W5 (gR 7) aQz)) x σ H' λσ2 H2=>DR (XM C "count_uses" (aMk C) [] E0 (gQ 0) (dM (gE aSh ag) (dM (gE aSi aj) xF))) {D' with nx:=N,ct:=N,bk:=D'.nx} σ2 H2):=by
 have nka:kd≠a:=mZ hkd ha 0x7;refine⟨λi n σ H=>n=kvs.length-i/\i<=kvs.length/\(∃o6 o7,σ=[aa (.ref a),aa vt,aa vp,aa v3,aa v4,aa (.ref kd),o6,o7])/\lN a Hf H/\∃ki,H a=aa (.ins C dx (prV h1 h2 h3 m ki))/\nO ws (kn.drop i) ki=aa k',⟨kvs.length,rfl,eP _,⟨_,_,rfl⟩,λ_ _ e _=>e,k,ha,hu⟩,?_⟩;rintro i n σ H ⟨rfl,hi,⟨o6,o7,rfl⟩,b,ki,hai,hui⟩;have lk:=rk.len;rcases lb i kvs.length with hlt|hge
 .refine .inr ?_;have e:kvs[i]?=aa kvs[i]:=eh hlt;obtain⟨d,e2,rd⟩:=rk.at_ e;obtain⟨hlt2,e3⟩:=dq.mp e2;rw[iz hlt2,e3] at hui;obtain⟨x,w,y,z,c,ep,hc,hc2,hui2⟩:=LK hui;have ek:kD kvs[i].1=.str x:=c5 (·.1) ep;have ed:d=.tup [w,y,.int z]:=c5 (·.2) ep;subst ed;have pd:(μ [w,y,.int z]).pure=ag:=cP.mp pk _ (cS.mpr ⟨_,l6 e2,rfl⟩);have ekV:kV kvs[i].1=.str x:=by
   generalize kvs[i].1=key at ek;cases key with
   |inl j=>cases ek
   |inr t=>cases ek;rfl
  refine⟨⟨b _ _ hkd nka,_,e⟩,λσ' H'=>(∃o6 o7,σ'=[aa (.ref a),aa vt,aa vp,aa v3,aa v4,aa (.ref kd),o6,o7])/\lN a Hf H'/\∃ki,H' a=aa (.ins C dx (prV h1 h2 h3 m ki))/\nO ws (kn.drop (i+1)) ki=aa k',λσ' H' ⟨n1,n2⟩=>⟨kvs.length-(i+1),by lia,rfl,hlt,n1,n2⟩,λx' H2 hy=>?_⟩;obtain⟨bb,p,hp,rfl,hb,rfl⟩:=hy;rw[e] at hp;cases hp;have sm:bK H (upd H bb (.tup [kV kvs[i].1,kvs[i].2])):=bK.upd hb;have us:vV Hf (upd H bb (.tup [kV kvs[i].1,kvs[i].2])):=λc oc ec uc=>sm _ _ (b c oc ec λz=>by
   subst z;rw[ha] at ec;cases ec;cases uc)
  refine⟨bb,[kV kvs[i].1,kvs[i].2],rfl,.inl (.of aF),rfl,_,_,rfl,_,_,rfl,rfl,?_⟩;show DR _ _ [aa (.ref a),aa vt,aa vp,aa v3,aa v4,aa (.ref kd),aa (kV kvs[i].1),aa kvs[i].2] _;rw[ekV];have hr2:=hr.fY (P':=All) us pr;have rd2:=rd.fY (P':=All) us pd;rw[ekV] at sm hr2 rd2;refine⟨.ref a,rfl,a,dx,_,rfl,sm _ _ hai,rfl,[.uD,.uD,.uD,.uD,.tup [r0,r1,r2,.tup ws],.uD,.str x,.uD],.int c,(EL.skip (.skip (.skip (.skip (.cons hr2 (.skip (.cons (.str x) (.skip .nil)))))))).er,aKh hc,λv8 H3 s3 r8 _=>?_⟩;refine⟨[.uD,.uD,.uD,.uD,.uD,.uD,.uD,.tup [w,y,.int z]],.int z,(EL.skip (.skip (.skip (.skip (.skip (.skip (.skip (.cons (rd2.same s3) .nil)))))))).er,aKi,λv9 H4 s4 r9 _=>?_⟩;cases r8.inv;cases r9.inv;have ha4:=s4 _ _ (s3 _ _ (sm _ _ hai));refine⟨a,dx,h1,h2,h3,m,ki,c,z,rfl,ha4,⟨by lia,by lia⟩,⟨_,_,rfl⟩,λc' oc ec nc=>?_,_,aF,hui2⟩;rw[aM nc];exact s4 _ _ (s3 _ _ (sm _ _ (b c' oc ec nc)))
 .refine .inl ⟨⟨b _ _ hkd nka,hge⟩,?_⟩;rw[hV 0x1] at hui;cases hui;exact q _ _ _ b hai
def aFm(hN:N.length=8)(hK:KFrag.K=K)(hC:nsIn K bt "PlainRun"=aa (aa (.ref C)))(hCF:nsIn K bt "Frame"=aa (aa (.ref CF)))(cl:Cls K C)(nc:cG K C "calls")(np:cG K C "copies")(nd:cG K C "drops")(nm:cG K C "most")
 (hl:∀ws kn,δ ws=ag->δ (kn.map (·.2))=ag->evS [.uD,.tup ws,.dct kn] l=.ok [("words",.tup ws),("left",.int ws.length),("known",.dct kn)]){Q:VK}{E:XK}(h:aC1 CF CS vs H Q E):aTm K C CS l E {nx:=λ_ H'=>Q .non H',rt:=Q} (L2.start N vs) H:=by
 obtain⟨a,vt,vp,hd,mk,rl,m,k,tk,ps,rfl,⟨o1,o2,o3⟩,ptk,pps,ra,rt,rp,hc⟩:=h;have hst:L2.start N [V.ref a,vt,vp]=[aa (.ref a),aa vt,aa vp,ai,ai,ai,ai,ai]:=by
  unfold L2.start;rw[hN];rfl
 rw[hst];generalize hres:aDx rl m k tk ps=res at hc;have hne:res≠.bad:=λz=>by subst z;exact hc
 obtain⟨w0,xs,z0,more,r0,r1,own,ws,kn,k',rfl,hg,hlen,px,pm,pw,hz,hu,rfl⟩:=HB hres hne;clear hres hne;rw[δ,ba] at pps;obtain⟨dx,h1,h2,h3,hsa,e1,e2,e3⟩:=kJ hK hC ra;have prl:(μ [r0,r1,.tup own,.tup ws]).pure=ag:=by
  refine aC3 o3 hg
 -- rows 1 to 3
 refine⟨[.uD,.uD,.lst (.tup [w0,.tup xs,z0]::more)],_,(EL.skip (.skip (.cons rp .nil))).er,aOv,λv3 Ha s1 rv3 _=>?_⟩;refine⟨[.ins "PlainRun" (prF hd mk rl m k),tk,.uD,.tup [w0,.tup xs,z0]],_,(EL.cons (ra.same s1) (.cons (rt.same s1) (.skip (.cons rv3 .nil)))).er,aOw ptk hg,λv4 Hb s2 rv4 _=>?_⟩;refine⟨[.uD,.uD,.lst (.tup [w0,.tup xs,z0]::more),.tup [w0,.tup xs,z0],.tup [r0,r1,.tup own,.tup ws]],_,(EL.skip (.skip (.cons (rp.same (s1.trans s2)) (.cons (rv3.same s2) (.cons rv4 .nil))))).er,aOx hlen px pm pps.1 hz,λv5 Hc s3 rv5 n5=>?_⟩;obtain⟨kd,kvs,u,rfl,fkd,hDV,hkd,hmu,rk,ndk⟩:=aOz (n5 rfl) (VM hu);have pkn:=VN hz;have huk:∀o:bc,ZV (.frz o u)=ag/\ZV u=ag:=λo=>by
  rcases hDV with z|⟨_,z⟩<;>(rw[z] at hkd;cases hkd;exact⟨rfl,rfl⟩)
 have s13:=(s1.trans s2).trans s3;have hac:=s13 _ _ hsa
 -- row 4
 show wV _ _ _ [aa (.ref a),aa vt,aa vp,aa v3,aa v4,aa (.ref kd),ai,ai] Hc;refine⟨.ref a,rfl,a,C,dx,_,.int k.c,rfl,hac,cl,nc,rfl,k.c,1,rfl,rfl,.ref a,rfl,a,C,dx,_,rfl,hac,cl,nc,by show 7<1000;decide,?_⟩;rw[aC0];have nka:kd≠a:=λz=>by
  subst z;rw[hac] at hkd;cases hkd;cases hmu
 have b4:lN a Hc (upd Hc a (.ins C dx (prV h1 h2 h3 m k.call))):=lN.upd;have had:upd Hc a (.ins C dx (prV h1 h2 h3 m k.call)) a=aa (.ins C dx (prV h1 h2 h3 m k.call)):=aF;show wV _ _ _ [aa (.ref a),aa vt,aa vp,aa v3,aa v4,aa (.ref kd),ai,ai] (upd Hc a (.ins C dx (prV h1 h2 h3 m k.call)));generalize upd Hc a (.ins C dx (prV h1 h2 h3 m k.call))=Hd at b4 had;have hkd4:=b4 _ _ hkd nka;have hDV4:DV Hd kd kvs:=by
  rcases hDV with z|⟨z0,z⟩
  .exact .inl (b4 _ _ z nka)
  .exact .inr ⟨z0,b4 _ _ z nka⟩
 -- row 5
 refine⟨kd,u,hkd4,hmu,kd,kvs,u,rfl,hDV4,hkd4,λo He s5=>?_⟩;have hke:=s5 _ _ hkd4;have hae:=s5 _ _ had;have noT:∀ob,He kd=aa ob->ZV ob=ag:=λob z=>by
  rw[hke] at z;cases z;exact(huk o).2
 have toF:∀{v:V}{d:D},Rep All Hc v d->d.pure=ag->Rep All (upd He kd (.frz o u)) v d:=λr p=>U9 noT ((r.fY (b4.use hac) p).same s5) p
 have rkF:e_ All (upd He kd (.frz o u)) kvs kn:=by
  have go:∀{kvs:ae (Key×V)}{ds:ae (D×D)},e_ (New Hb) Hc kvs ds->δ (ds.map (·.2))=ag->e_ All (upd He kd (.frz o u)) kvs ds:=by
   intro kvs ds r;induction kvs generalizing ds with
   |nil=>cases r;intro _;exact .nil
   |cons p kvs ih=>cases r with
    |cons r t=>
     intro h;rw[bh,δ,ba] at h;exact .cons (toF r.all h.1) (ih t h.2)
  exact go rk pkn
 refine aFl cl (by rw[aM (Ne.symm nka)];exact hae) aF (toF (rv4.same s3) prl) prl rkF pkn hu λo6 o7 Hg bg hag=>⟨o,u,bg _ _ aF nka,?_⟩
 have hag2:upd Hg kd u a=aa (.ins C dx (prV h1 h2 h3 m k')):=by rw[aM (Ne.symm nka)];exact hag
 -- from the beginning on
 have ball:lN a H (upd Hg kd u):=λc oc ec nca=>by
  have c3:=s13 _ _ ec;have nck:c≠kd:=λz=>by
   subst z;have:=(s1.trans s2) _ _ ec;rw[show Hb c=ai from fkd] at this;cases this
  rw[aM nck];refine bg _ _ ?_ nca;rw[aM nck];exact s5 _ _ (b4 _ _ c3 nca)
 have noT2:∀ob,Hg kd=aa ob->ZV ob=ag:=λob z=>by
  rw[bg _ _ aF nka] at z;cases z;exact(huk o).1
 have useG:vV (upd He kd (.frz o u)) Hg:=λc oc ec uc=>bg c oc ec λz=>by
  subst z;rw[aM (Ne.symm nka),hae] at ec;cases ec;cases uc
 have toG:∀{v:V}{d:D},Rep All Hc v d->d.pure=ag->Rep All (upd Hg kd u) v d:=λr p=>U9 noT2 ((toF r p).fY useG p) p
 have hkg:upd Hg kd u kd=aa u:=aF;have hDVg:DV (upd Hg kd u) kd kvs:=by
  rcases hDV with z|⟨z0,z⟩
  .rw[z] at hkd;cases hkd;exact .inl hkg
  .rw[z] at hkd;cases hkd;exact .inr ⟨z0,hkg⟩
 have rkG:e_ All (upd Hg kd u) kvs kn:=by
  have go:∀{kvs:ae (Key×V)}{ds:ae (D×D)},e_ (New Hb) Hc kvs ds->δ (ds.map (·.2))=ag->e_ All (upd Hg kd u) kvs ds:=by
   intro kvs ds r;induction kvs generalizing ds with
   |nil=>cases r;intro _;exact .nil
   |cons p kvs ih=>cases r with
    |cons r t=>
     intro h;rw[bh,δ,ba] at h;exact .cons (toG r.all h.1) (ih t h.2)
  exact go rk pkn
 have rv4g:=toG (rv4.same s3) prl;have self4:∀H2,bK (upd Hg kd u) H2->Rep All H2 (.ref a) (.ins "PlainRun" (prF hd mk rl m k')):=λH2 sm=>by
  have t1:lN a H H2:=λc oc ec nca=>sm _ _ (ball c oc ec nca)
  exact yR hK hC (sm _ _ hag2) (e1.okK t1 hsa (λ_ h=>h) (HD o1)) (e2.okK t1 hsa (λ_ h=>h) (HD o2)) (e3.okK t1 hsa (λ_ h=>h) (HD o3))
 generalize upd Hg kd u=Hh at hag2 ball hDVg rkG rv4g self4 hkg
 -- row 6
 show wV _ _ _ [aa (.ref a),aa vt,aa vp,aa v3,aa v4,aa (.ref kd),o6,o7] Hh;refine⟨.ref a,rfl,a,C,dx,_,.int k'.c,rfl,hag2,cl,nc,rfl,.ref a,rfl,a,C,dx,_,.int k'.p,rfl,hag2,cl,np,rfl,k'.c,k'.p,rfl,rfl,.ref a,rfl,a,C,dx,_,.int k'.d,rfl,hag2,cl,nd,rfl,k'.c+k'.p,k'.d,rfl,rfl,.ref a,rfl,a,C,dx,_,.int m,rfl,hag2,cl,nm,rfl,k'.c+k'.p+k'.d,m,rfl,rfl,_,rfl,?_⟩;dsimp only;by_cases hgt:k'.c+k'.p+k'.d > m
 .rw[aq (by simpa using hgt)];rw[aq hgt] at hc;exact hc _ ball
 .rw[ax (by simpa using hgt)];rw[ax hgt] at hc
  -- row 7
  show aMz (tMk K "Frame" l 2 (dM (gE cf7 aj) (dM (gQ 5) xF))) {nx:=λ_ H'=>Q .non H',rt:=Q} [aa (.ref a),aa vt,aa vp,aa v3,aa v4,aa (.ref kd),o6,o7] Hh;refine⟨[.uD,.uD,.uD,.uD,.tup [r0,r1,.tup own,.tup ws]],.tup ws,(EL.skip (.skip (.skip (.skip (.cons rv4g .nil))))).er,aOy,λv10 Hi s10 r10 _=>⟨.ref kd,rfl,?_⟩⟩;have rkd:Rep All Hi (.ref kd) (.dct kn):=(hDVg.rep trivial rkG ndk).same s10;refine⟨[.tup ws,.dct kn],_,rfl,.cons r10 (.cons rkd .nil),hl ws kn pw pkn,λCF' x dxx Hj vf hn hx sj hxj rf=>?_⟩;rw[hCF] at hn;cases hn;have rfa:=rf All (λ_ _=>trivial) (.cons r10 (.cons rkd .nil));cases rfa with
  |cons q1 rfa=>
  cases rfa with
  |cons q2 rfa=>
  cases rfa with
  |cons q3 rfa=>
  cases rfa;cases q2.inv;refine hc Hj x ?_ (λc oc ec nca=>sj _ _ (s10 _ _ (ball c oc ec nca))) (self4 Hj (s10.trans sj)) ⟨_,_,_,hxj,q1,q3⟩;cases hq:H x with
  |none=>rfl
  |some oo=>
   by_cases hxa:x=a
   .subst hxa;rw[s10 _ _ hag2] at hx;cases hx
   .rw[s10 _ _ (ball _ _ hq hxa)] at hx;cases hx
end
end
noncomputable abbrev aDy:ak:=1000
noncomputable def aSj:D->aw
 |.str _=>ag
 |_=>aj
def tkN(hd:ae (D×D))(w:D):au ah:=match getD (.dct hd) w with
 |.ok (.tup [_,.tup ks])=>if δ ks&&ϒ (ks.length<=1000) then aa ks.length else ai
 |_=>ai
def aFn:ae D->au ak
 |[]=>aa 0
 |.tup [_,_,.int z]::r=>if ϒ (-aDy<=z)&&ϒ (z<=aDy) then (aFn r).map (z+·) else ai
 |_::_=>ai
def VP(hd mk rl:ae (D×D))(m:ak)(k:Cn)(kn:ae (D×D))(st:ae D)(w:D):Res (ae D×au (ae D×ae (D×D))×Cn):=
  if aSj w&&lQ kn w&&lQ mk w&&ϒ (st.length <= 100000) then (match bH kn w with
    |some v=>.ok (v::st,ai,k)
    |none=>match tkN hd w with
      |some n=>if n <= st.length then
          (if (bH mk w).isSome then (match aFn (st.take n) with|some z=>.ok (.tup [w,.tup (st.take n),.int (1+z)]::st.drop n,ai,k)|none=>.bad)
           else (match aDx rl m k w (st.take n) with|.ok (ws,kn',k')=>.ok (st.drop n,aa (ws,kn'),k')|.err c as=>.err c as|.bad=>.bad))
        else .bad
      |none=>.bad)
  else .bad
def aTn:FT:=bTB (b2 inX fB lF)
def tkg:FE:=b2 getD lF fB
def tki:FI:=bW (b2 getD (b2 getD (aFf "PlainRun" "heads" cT) fB) fM) aj
def aTo:FT:=bTB (b2 inX fB (aFf "PlainRun" "makers" cT))
def tkv:FE:=jR (aC fB (aC (aQ fV (aC nF aW)) (aC (b2 (cO .add) fM (aQ aF4 (aC (fO 6 (bW nF aj) v6 gD (b2 getD lM uJ) aj) aW))) aW)))
section
variable [KFrag]
def aKj(h:lQ kn (.str x)=ag):aTn [a,b,c,.str x,.dct kn]=.ok (bH kn (.str x)).isSome:=by
 show(do let y <- (if lQ kn (.str x) then τ (ο (bH kn (.str x)).isSome) else .bad);asB y)=_;rw[aq h];rfl
def aKk(h:lQ mk (.str x)=ag):aTo [.ins "PlainRun" (prF hd mk rl m k),b,c,.str x]=.ok (bH mk (.str x)).isSome:=by
 show(do let y <- (if lQ mk (.str x) then τ (ο (bH mk (.str x)).isSome) else .bad);asB y)=_;rw[aq h];rfl
def aP0(h:bH kn (.str x)=aa v):tkg [a,b,c,.str x,.dct kn]=.ok v:=by
 show(if keyOk (.str x)=ag then ν (bH kn (.str x)) else .bad)=_;rw[h];rfl
def aHw(h:tkN hd (.str x)=aa n):∃ks,ks.length=n/\n<=1000/\tki [.ins "PlainRun" (prF hd mk rl m k),b,c,.str x,e,f]=.ok (ks,ag):=by
 unfold tkN at h;split at h
 .rename_i u ks hg;split at h
  .rename_i hb;rw[ba,c_] at hb;cases h;refine⟨ks,rfl,hb.2,?_⟩;have e1:b2 getD (b2 getD (aFf "PlainRun" "heads" cT) fB) fM [.ins "PlainRun" (prF hd mk rl m k),b,c,.str x,e,f]=.ok (.tup ks):=by
    have e0:b2 getD (aFf "PlainRun" "heads" cT) fB [.ins "PlainRun" (prF hd mk rl m k),b,c,.str x,e,f]=.ok (.tup [u,.tup ks]):=hg;exact aO e0 rfl rfl
   unfold tki bW;rw[e1];show τ (ks,aj||(μ ks).pure)=_;rw[ξ,hb.1];rfl
  .cases h
 .cases h
def aP1:∀(its ps acc:ae D),its.length=ps.length->δ ps=ag->xcf (K9 2) acc its [s,f,.cel b ((ps++vs).reverse),w,k,u]=.ok (acc++ps,[s,f,.cel b vs.reverse,w,k,u])
 |[],[],acc,_,_=>by
  show τ (acc,_)=_;rw[dQ];rfl
 |i::its,p::ps,acc,hl,hp=>by
  rw[δ,ba] at hp;have e:((p::ps)++vs).reverse=(ps++vs).reverse++[p]:=by simp
  rw[e];have h1:K9 2 ([s,f,.cel b ((ps++vs).reverse++[p]),w,k,u]++[i])=.ok (p,[s,f,.cel b ((ps++vs).reverse),w,k,u,i]):=by
   show(match ((ps++vs).reverse++[p])[((ps++vs).reverse++[p]).length-1]? with|some x=>τ (x,[s,f,D.cel b ((ps++vs).reverse++[p]).dropLast,w,k,u,i])|none=>.bad)=_;rw[b6,eR,Ad,dS (bo _),ss,xi];rfl
  show(do let q <- K9 2 ([s,f,.cel b ((ps++vs).reverse++[p]),w,k,u]++[i]);if q.1.pure then xcf (K9 2) (acc++[q.1]) its q.2.dropLast else .bad)=_;rw[h1,θ];rw[aq hp.1];have ih:=aP1 (s:=s) (f:=f) (w:=w) (k:=k) (u:=u) (b:=b) (vs:=vs) its ps (acc++[p]) (by simpa using hl) hp.2;rw[cr] at ih;exact ih
def aP2{st:ae D}(h:tkN hd (.str x)=aa n)(hn:n<=st.length)(hp:δ st=ag):aBi tki (K9 2) [.ins "PlainRun" (prF hd mk rl m k),f,.cel b st.reverse,.str x,e,u]=.ok (.lst (st.take n),[.ins "PlainRun" (prF hd mk rl m k),f,.cel b (st.drop n).reverse,.str x,e,u]):=by
 obtain⟨ks,hk,hb,he⟩:=aHw (hd:=hd) (mk:=mk) (rl:=rl) (m:=m) (k:=k) (b:=f) (c:=.cel b st.reverse) (e:=e) (f:=u) h;unfold aBi;rw[he,θ];rw[aq (by rw[ix];exact bj (dg (yf hk) (dg hb 0x4)))];have hs:st=st.take n++st.drop n:=(List.take_append_drop n st).symm;have pt:δ (st.take n)=ag:=cP.mpr λy hy=>cP.mp hp y (zg hy)
 have:=aP1 (s:=.ins "PlainRun" (prF hd mk rl m k)) (f:=f) (w:=.str x) (k:=e) (u:=u) (b:=b) (vs:=st.drop n) ks (st.take n) [] (by rw[hk,nB];lia) pt;rw[<-hs] at this;rw[this];rfl
def VR(hρ:ρ.length=6):∀{ps:ae D}{z:ak},aFn ps=aa z->∃ns:ae ak,ns.length=ps.length/\ns.sum=z/\(∀i∈ns,-aDy<=i/\i<=aDy)/\∀acc:ae D,h_ (oN 6 v6 gD (b2 getD lM uJ) aj ρ) acc ps=.ok (acc++ns.map ι)
 |[],z,h=>by cases h;exact⟨[],rfl,rfl,(λi hi=>by cases hi),λacc=>by rw[i9,dQ];rfl⟩
 |p::r,z,h=>by
  unfold aFn at h;split at h
  .cases ‹_::_=[]›
  .rename_i a b y r' e;cases e;split at h
   .rename_i hb;rw[ba,c_,c_] at hb;obtain⟨z',h1,rfl⟩:=gn.mp h;obtain⟨ns,i1,i2,i3,i4⟩:=VR hρ h1;refine⟨y::ns,by rw[bz,bz,i1],by rw[zf,i2],λi hi=>?_,λacc=>?_⟩
    .rcases bq.mp hi with rfl|hi
     .exact hb
     .exact i3 i hi
    .have e6:eZ 6 (ρ++[μ [a,b,.int y]])=.ok (.tup [a,b,.int y]):=bV (by rw[cx,dS 0x1,hρ];rfl) 0x7;rw[h_,yK hρ rfl λ_=>⟨aO e6 rfl rfl,rfl⟩];show h_ _ (acc++[ι y]) _=_;rw[i4,cr];rfl
   .cases h
  .cases h
def V0:∀ns:ae ak,intsOf (ns.map ι)=aa ns
 |[]=>rfl
 |n::ns=>by
  show(intsOf (ns.map ι)).map (n::·)=_;rw[V0 ns];rfl
def aP3(h:aFn ps=aa z)(hl:ps.length<=1000):tkv [a,b,c,.str x,e,.lst ps]=.ok (.tup [.str x,.tup ps,.int (1+z)]):=by
 obtain⟨ns,i1,i2,i3,i4⟩:=VR (ρ:=[a,b,c,.str x,e,.lst ps]) rfl h;have e1:fO 6 (bW nF aj) v6 gD (b2 getD lM uJ) aj [a,b,c,.str x,e,.lst ps]=.ok (.lst (ns.map ι)):=nM rfl (by rw[bN];lia) (i4 []);have e2:aF4 [.lst (ns.map ι)]=.ok (.int z):=by
  show(match intsOf (ns.map ι) with|some ns=>if ns.all (λi=>ϒ (-aDy<=i)&&ϒ (i<=aDy))&&ϒ (ns.length<=100000) then τ (ι ns.sum) else .bad|none=>.bad)=_;rw[V0];dsimp only;rw[aq,i2];rw[ba,gf,c_];refine⟨λi hi=>?_,by lia⟩;rw[ba,c_,c_];exact i3 i hi
 exact eE (aD rfl (aD (aX (aD rfl rfl) (show fV [.lst ps]=.ok (.tup ps) from rfl)) (aD (aO rfl (aX (aD e1 rfl) e2) rfl) rfl))) (by show 3<=lim;decide)
def kTk(CF CS:am)(a af av:am)(fl:ae V)(hd mk rl:ae (D×D))(m:ak)(H:Hp)(Q:VK)(E:XK):Res (ae D×au (ae D×ae (D×D))×Cn)->Prop
 |.ok (st',ai,_)=>∀H' vs',lN av H H'->H' av=aa (.lst vs')->bJ All H' vs' st'.reverse->Q .non H'
 |.ok (st',aa (ws',kn'),k')=>∀H' vs' x,H x=ai->aRa (λb=>b=a\/b=af\/b=av) H H'->Rep All H' (.ref a) (.ins "PlainRun" (prF hd mk rl m k'))->H' af=aa (.lst (fl++[.ref x]))->FrA CF H' x ws' ws'.length kn'->H' av=aa (.lst vs')->bJ All H' vs' st'.reverse->Q .non H'
 |.err _ _=>∀H',aRa (λb=>b=a\/b=af\/b=av) H H'->E (.ref CS) ai H'
 |.bad=>cf
def aP4(CF CS:am):Sp:=λvs H Q E=>∃a af av vw hd mk rl m k kn st w fl fr ws i vs0,vs=[.ref a,.ref af,.ref av,vw]/\okR hd mk rl/\δ (kn.map (·.2))=ag/\δ st=ag/\Rep All H (.ref a) (.ins "PlainRun" (prF hd mk rl m k))/\H af=aa (.lst fl)/\fl.length<1000000/\atI fl (-1)=aa (.ref fr)/\FrA CF H fr ws i kn/\H av=aa (.lst vs0)/\bJ All H vs0 st.reverse/\af≠av/\Rep All H vw w/\kTk CF CS a af av fl hd mk rl m H Q E (VP hd mk rl m k kn st w)
def aTp(K:aT)(C CF CS:am)(E:XK):TS:=aIs (gT aTo) (DR (tBM K "list" EY (gQ 2) (dM (gE tkv aj) xF)))
 (DR (tBM K "list" EY (gQ 1) (dM (XM C "called" (aC1 CF CS) [] E (gQ 0) (dM (gQ 3) (dM (gQ 5) xF))) xF)))
def aTq(K:aT)(C CF CS:am)(E:XK):TS:=aIs (gT aTn) (DR (tBM K "list" EY (gQ 2) (dM (gE tkg aj) xF)))
 (wV (JV (gX (own1 2) (aBi tki (K9 2))) (gR 5)) (aTp K C CF CS E))
def tTk(K:aT)(C CF CS:am)(E:XK):TS:=wV (JV (TF K (tOp (aNb K) (gQ 1) tm1) "known") (gR 4)) (aTq K C CF CS E)
def aFo(S:dH X.N X.env.scope scope [cn])(hn:X.N.length=n)(hcalm:X.calm=ag)(hon:own n=aj)(hi:PI X tg iter (gI X.K it))(hg:∀y,PG (mkC X scope [cn] y) tg (gR n))(he:∀y,PE (mkC X scope [cn] y) elt (gX own f))
 (hs:∀x,fg iter X.env x=pure x)(hNn:X.N.Nodup)(hiy:X.N[iy]?=aa y)(hxy:Loc X.env.scope y)(hfy:zFn X y)(hsw:en (.ListComp elt [⟨tg,iter,[],0⟩] scope pos) (aa (.Name y py)) pos2.line X.env=pure ag) :
  PS X (.Assign [.Name y py] (.ListComp elt [⟨tg,iter,[],0⟩] scope pos) pos2) (JV (gX own (aBi it f)) (gR iy)):=by
 intro Ψ s σ H D I h;refine U5 S hcalm hi (λX' cc=>by obtain⟨y,rfl⟩:=oY cc;exact hg y) (λX' cc=>by obtain⟨y,rfl⟩:=oY cc;exact he y) hs hNn hiy hxy hfy hsw Ψ s σ H D I ?_;exact YJ hon (I.len.trans hn) h
def kO(b:lN x H H')(hx:H x=aa (.lst xs))(r:Rep All H v (.dct kn))(p:δ (kn.map (·.2))=ag):Rep (λc=>c≠x) H' v (.dct kn):=by
 have k:vV H H':=λa o e u=>b a o e λz=>by
  subst z;rw[hx] at e;cases e;cases u
 cases r with
 |dK e _ r n=>
  have ne:=mZ e hx 0x7;exact .dK (b _ _ e ne) ne (r.fY k p) n
 |dT e _ r n=>
  have ne:=mZ e hx 0x7;exact .dT (b _ _ e ne) ne (r.fY k p) n
def uP{st:ae D}(h:δ st=ag):δ (st.drop n)=ag:=cP.mpr λy hy=>cP.mp h y (List.mem_of_mem_drop hy)
def CZ{st:ae D}(h:δ st=ag):δ (st.take n)=ag:=cP.mpr λy hy=>cP.mp h y (zg hy)
def aP5(h:aDx rl m k tk ps=.ok (ws,kn,k')):δ ws=ag:=by
 obtain⟨w0,xs,z0,more,r0,r1,own,ws',kn',k'',_,_,_,_,_,pw,hz,_,e⟩:=HB h 0x7;split at e
 .cases e
 .cases e;exact pw
def aTr(h:aDx rl m k tk ps=.ok (ws,kn,k')):δ (kn.map (·.2))=ag:=by
 obtain⟨w0,xs,z0,more,r0,r1,own,ws',kn',k'',_,_,_,_,_,pw,hz,_,e⟩:=HB h 0x7;split at e
 .cases e
 .cases e;exact VN hz
section
def aKl{K:aT}{C CF CS:am}(hN:N.length=6)(hK:KFrag.K=K)(hC:nsIn K bt "PlainRun"=aa (aa (.ref C)))(clF:Cls K CF)(nk:cG K CF "known"){H:Hp}{Q:VK}{E:XK}(h:aP4 CF CS vs H Q E):tTk K C CF CS E {nx:=λ_ H'=>Q .non H',rt:=Q} (L2.start N vs) H:=by
 obtain⟨a,af,av,vw,hd,mk,rl,m,k,kn,st,w,fl,fr,ws,i,vs0,rfl,⟨o1,o2,o3⟩,pkn,pst,ra,hf,hfl,hlast,⟨dxf,w1,w3,hfr,rw1,rw3⟩,hv,rv,hne,rw,hc⟩:=h;have hst:L2.start N [V.ref a,.ref af,.ref av,vw]=[aa (.ref a),aa (.ref af),aa (.ref av),aa vw,ai,ai]:=by
  unfold L2.start;rw[hN];rfl
 rw[hst];unfold VP at hc;split at hc
 .rename_i hb;simp only[ba,c_] at hb;obtain⟨⟨⟨hb1,hb2⟩,hb3⟩,hb4⟩:=hb;obtain⟨x,rfl⟩:∃x,w=.str x:=by
   cases w with
   |str x=>exact⟨x,rfl⟩
   |_=>cases hb1
  have lv:vs0.length<=100000:=by rw[rv.length,jg];exact hb4
  obtain⟨dx,h1,h2,h3,hsa,e1,e2,e3⟩:=kJ hK hC ra;have nva:a≠av:=mZ hsa hv 0x7;have nfa:a≠af:=mZ hsa hf 0x7
  -- known
  refine⟨.ref af,rfl,1,rfl,af,fl,-1,.ref fr,rfl,rfl,.of hf,hlast,fr,CF,dxf,_,w3,rfl,hfr,clF,nk,rfl,?_⟩;show aTq K C CF CS E {nx:=λ_ H'=>Q .non H',rt:=Q} [aa (.ref a),aa (.ref af),aa (.ref av),aa vw,aa w3,ai] H;refine⟨[.uD,.uD,.uD,.str x,.dct kn],_,(EL.skip (.skip (.skip (.cons rw (.cons rw3 .nil))))).er,aKj hb2,λH1 s1=>?_⟩;split at hc
  .rename_i v hlk;rw[hlk];show(if ag=ag then _ else _);rw[aq rfl];refine⟨.ref av,rfl,.inl ⟨rfl,_,.of (s1 _ _ hv)⟩,[.uD,.uD,.uD,.str x,.dct kn],v,(EL.skip (.skip (.skip (.cons (rw.same s1) (.cons (rw3.same s1) .nil))))).er,aP0 hlk,λvv H2 s2 rvv _=>⟨av,vs0,vv,rfl,rfl,s2 _ _ (s1 _ _ hv),ot lv (by rw[cy];decide),?_⟩⟩;have hv2:=s2 _ _ (s1 _ _ hv);have pv:v.pure=ag:=HF pkn hlk;refine hc _ (vs0++[vv]) (λb o e nb=>?_) aF ?_
   .rw[aM nb];exact s2 _ _ (s1 _ _ e)
   .rw[jf];exact(((rv.same s1).same s2).snoc rvv).upd (by rw[fX,fD pst];simp[δ,pv]) hv2 rfl
  .rename_i hlk;rw[hlk];show(if aj=ag then _ else _);rw[ax fz];split at hc
   .rename_i n hn;split at hc
    .rename_i hle;have b1:lN av H H1:=lN.same s1;have d1:=kO b1 hv e1 o1;have d2:=kO b1 hv e2 o2;have d3:=kO b1 hv e3 o3;have hv1:=s1 _ _ hv;have hO:∀b,Own (own1 2) [aa (.ref a),aa (.ref af),aa (.ref av),aa vw,aa w3,ai] b↔b=av:=λb=>by
      constructor
      .rintro⟨j,hj,e⟩;have:j=2:=by simpa[own1] using hj
       subst this;cases e;rfl
      .rintro rfl;exact⟨2,rfl,rfl⟩
     have hOf:(λb=>¬Own (own1 2) [aa (.ref a),aa (.ref af),aa (.ref av),aa vw,aa w3,ai] b)=λb=>b≠av:=funext λb=>by rw[hO]
     refine⟨[.ins "PlainRun" (prF hd mk rl m k),.uD,.cel av st.reverse,.str x,.uD,.uD],_,_,⟨rfl,λj hj=>?_,λj u hj hu=>?_⟩,aP2 hn hle pst,λv5 H2 ku E2 _ r5=>?_⟩
     .rw[hOf]
      match j,hj with
      |0,_=>exact⟨_,rfl,λ_=>yR hK hC (s1 _ _ hsa) d1 d2 d3⟩
      |1,hj=>exact aS rfl hj
      |2,_=>exact⟨_,rfl,λh=>by cases h⟩
      |3,_=>exact⟨_,rfl,λ_=>(rw.same s1).bQ rfl⟩
      |4,hj=>exact aS rfl hj
      |5,hj=>exact aS rfl hj
      |j+6,hj=>exact aS rfl hj
     .have:j=2:=by simpa[own1] using hj
      subst this;cases hu;exact⟨av,_,rfl,.cel hv1 trivial (rv.same s1),fD pst,hv1,rfl,λq hq _=>by simpa[own1] using hq⟩
     .have b2:lN av H1 H2:=λb o e nb=>(ku b o e λz=>nb ((hO b).mp z)).1
      obtain⟨vs1,hv2,rv2⟩:∃vs1,H2 av=aa (.lst vs1)/\bJ All H2 vs1 (st.drop n).reverse:=by
       obtain⟨ad,o,ea,r,_⟩:=E2.own 2 (.ref av) rfl rfl;cases r with
       |cel e _ r=>exact⟨_,e,r⟩
      have hsa2:=b2 _ _ (s1 _ _ hsa) nva;have b12:lN av H H2:=λb o e nb=>b2 _ _ (s1 _ _ e) nb
      have ra2:Rep All H2 (.ref a) (.ins "PlainRun" (prF hd mk rl m k)):=yR hK hC hsa2 (kO b12 hv e1 o1).all (kO b12 hv e2 o2).all (kO b12 hv e3 o3).all;have rw2:Rep All H2 vw (.str x):=by cases rw.inv;exact .str x
      show aTp K C CF CS E {nx:=λ_ H'=>Q .non H',rt:=Q} [aa (.ref a),aa (.ref af),aa (.ref av),aa vw,aa w3,aa v5] H2;refine⟨[.ins "PlainRun" (prF hd mk rl m k),.uD,.uD,.str x],_,(EL.cons ra2 (.skip (.skip (.cons rw2 .nil)))).er,aKk hb3,λH3 s3=>?_⟩;split at hc
      .rename_i hm;rw[hm];rw[aq rfl];split at hc
       .rename_i z hz;refine⟨.ref av,rfl,.inl ⟨rfl,_,.of (s3 _ _ hv2)⟩,[.uD,.uD,.uD,.str x,.uD,.lst (st.take n)],_,(EL.skip (.skip (.skip (.cons (rw2.same s3) (.skip (.cons (r5.all.same s3) .nil)))))).er,aP3 hz (by rw[nB];have:=aHw (mk:=mk) (rl:=rl) (m:=m) (k:=k) (b:=.uD) (c:=.uD) (e:=.uD) (f:=.uD) hn;obtain⟨_,_,q,_⟩:=this;lia),λvv H4 s4 rvv _=>⟨av,vs1,vv,rfl,rfl,s4 _ _ (s3 _ _ hv2),?_,?_⟩⟩
        .have:=rv2.length;rw[jg,s_] at this;rw[cy];lia
        .have hv4:=s4 _ _ (s3 _ _ hv2);refine hc _ (vs1++[vv]) (λb o e nb=>?_) aF ?_
         .rw[aM nb];exact s4 _ _ (s3 _ _ (b12 _ _ e nb))
         .rw[jf];refine(((rv2.same s3).same s4).snoc rvv).upd ?_ hv4 rfl;rw[fX,fD (uP pst)];simp[δ,ξ,CZ pst]
       .exact hc.elim
      .rename_i hm;rw[C7] at hm;rw[hm];rw[ax fz];have hf3:=s3 _ _ (b2 _ _ (s1 _ _ hf) hne);have hv3:=s3 _ _ hv2;have bs:∀H4,lN a H3 H4->aRa (λb=>b=a\/b=af\/b=av) H H4:=λH4 b4 b o e nb=>b4 _ _ (s3 _ _ (b12 _ _ e λz=>nb (.inr (.inr z)))) λz=>nb (.inl z)
       refine⟨.ref af,rfl,.inl ⟨rfl,_,.of hf3⟩,.ref a,rfl,a,dx,_,rfl,s3 _ _ hsa2,rfl,vw,rfl,v5,rfl,a,vw,v5,hd,mk,rl,m,k,.str x,st.take n,rfl,⟨o1,o2,o3⟩,rfl,CZ pst,ra2.same s3,rw2.same s3,r5.all.same s3,?_⟩;cases hq:aDx rl m k (.str x) (st.take n) with
       |ok r=>
        obtain⟨ws',kn',k'⟩:=r;rw[hq] at hc;intro H4 xx hxx b4 rs fa;have hf4:=b4 _ _ hf3 (Ne.symm nfa);have hv4:=b4 _ _ hv3 (Ne.symm nva);refine⟨af,fl,.ref xx,rfl,rfl,hf4,by rw[cy];lia,?_⟩;have nxf:xx≠af:=λz=>by rw[z,hf3] at hxx;cases hxx
        have us:vV H4 (upd H4 af (.lst (fl++[.ref xx]))):=λb o e u=>by
         rw[aM (λz=>by subst z;rw[hf4] at e;cases e;cases u)];exact e
        have bf:lN af H4 (upd H4 af (.lst (fl++[.ref xx]))):=lN.upd;have dk:∀{v:V}{kk:ae (D×D)},Rep All H4 v (.dct kk)->δ (kk.map (·.2))=ag->Rep All (upd H4 af (.lst (fl++[.ref xx]))) v (.dct kk):=λr p=>(kO bf hf4 r p).all
        obtain⟨dx4,g1,g2,g3,hs4,q1,q2,q3⟩:=kJ hK hC rs;obtain⟨dxx,y1,y3,hx4,ry1,ry3⟩:=fa;refine hc _ vs1 xx ?_ (λb o e nb=>?_) (yR hK hC (by rw[aM nfa];exact hs4) (dk q1 o1) (dk q2 o2) (dk q3 o3)) aF ⟨dxx,y1,y3,by rw[aM nxf];exact hx4,?_,?_⟩ (by rw[aM (Ne.symm hne)];exact hv4) ?_
        .cases hh:H xx with
         |none=>rfl
         |some oo=>
          exfalso;by_cases hxv:xx=av
          .rw[hxv,hv3] at hxx;cases hxx
          .rw[s3 _ _ (b12 _ _ hh hxv)] at hxx;cases hxx
        .rw[aM λz=>nb (.inr (.inl z))];exact bs H4 b4 b o e nb
        .exact ry1.fY us (by rw[ξ];exact aP5 hq)
        .exact dk ry3 (aTr hq)
        .have r4:bJ All H4 vs1 (st.drop n).reverse:=(rv2.same s3).fY (b4.use (s3 _ _ hsa2)) (fD (uP pst));exact r4.fY us (fD (uP pst))
       |err c as=>
        rw[hq] at hc;exact λH4 b4=>hc H4 (bs H4 b4)
       |bad=>
        rw[hq] at hc;exact hc.elim
    .exact hc.elim
   .exact hc.elim
 .exact hc.elim
end
def aFp{st st' ws':ae D}{w:D}(h:VP hd mk rl m k kn st w=.ok (st',aa (ws',kn'),k')):δ ws'=ag/\δ (kn'.map (·.2))=ag:=by
 unfold VP at h;split at h
 .split at h
  .cases h
  .split at h
   .split at h
    .split at h
     .split at h<;>cases h
     .split at h
      .rename_i hq;cases h;exact⟨aP5 hq,aTr hq⟩
      .cases h
      .exact bx h
    .exact bx h
   .exact bx h
 .exact bx h
end
structure Fr where
 ws:ae D
 i:ah
 kn:ae (D×D)
def runN(hd mk rl:ae (D×D))(m:ak):ah->ae Fr->ae D->Cn->Res (ae D×Cn)
 |0,_,_,_=>.bad
 |_+1,[],st,k=>.ok (st,k)
 |n+1,⟨_,0,_⟩::r,st,k=>runN hd mk rl m n r st k
 |n+1,⟨ws,i+1,kn⟩::r,st,k=>match ws[i]? with
  |none=>.bad
  |some w=>if ϒ (r.length<900000) then (match VP hd mk rl m k kn st w with
   |.ok (st',ai,_)=>if δ st' then runN hd mk rl m n (⟨ws,i,kn⟩::r) st' k else .bad
   |.ok (st',aa (ws',kn'),k')=>if δ st' then runN hd mk rl m n (⟨ws',ws'.length,kn'⟩::⟨ws,i,kn⟩::r) st' k' else .bad
   |.err c as=>.err c as
   |.bad=>.bad) else .bad
def sE:∀{n:ah}{fs:ae Fr}{st:ae D}{k:Cn}{r:Res (ae D×Cn)},runN hd mk rl m n fs st k=r->r≠.bad->∀j,runN hd mk rl m (n+j) fs st k=r
 |0,_,_,_,_,h,hr,_=>aS h.symm hr
 |n+1,[],st,k,r,h,hr,j=>by
  rw[Ae];exact h
 |n+1,⟨ws,0,kn⟩::fs,st,k,r,h,hr,j=>by
  rw[Ae];exact sE (fs:=fs) h hr j
 |n+1,⟨ws,i+1,kn⟩::fs,st,k,r,h,hr,j=>by
  rw[Ae];unfold runN at h ⊢;split at h
  .exact aS h.symm hr
  .split at h
   .rename_i hb;rw[aq hb];split at h
    .split at h
     .rename_i hp;rw[aq hp];exact sE h hr j
     .exact aS h.symm hr
    .split at h
     .rename_i hp;rw[aq hp];exact sE h hr j
     .exact aS h.symm hr
    .exact h
    .exact aS h.symm hr
   .exact aS h.symm hr
def aKm{st:ae D}{k:Cn}{r r':Res (ae D×Cn)}(h:runN hd mk rl m n fs st k=r)(hr:r≠.bad)(h':runN hd mk rl m n' fs st k=r')(hr':r'≠.bad):r=r':=by
 have e1:=sE h hr n';have e2:=sE h' hr' n;rw[Ba] at e2;exact e1.symm.trans e2
noncomputable def aP6:Res (ae D×Cn)->Res (D×Cn)
 |.ok (st,k)=>match st.getLast? with
  |some y=>.ok (y,k)
  |none=>.bad
 |.err c as=>.err c as
 |.bad=>.bad
open Classical in
def ZX(hd mk rl:ae (D×D))(m:ak)(ws:ae D):Res (D×Cn):=
 if h:∃r,r≠.bad/\∃n,runN hd mk rl m n [⟨ws,ws.length,[]⟩] [] ⟨0,0,0⟩=r then aP6 h.choose else .bad
def aC4(h:runN hd mk rl m n [⟨ws,ws.length,[]⟩] [] ⟨0,0,0⟩=r)(hr:r≠.bad):ZX hd mk rl m ws=aP6 r:=by
 have e:∃r,r≠.bad/\∃n,runN hd mk rl m n [⟨ws,ws.length,[]⟩] [] ⟨0,0,0⟩=r:=⟨r,hr,n,h⟩
 obtain⟨h1,n',h2⟩:=e.choose_spec;unfold ZX;rw[dif_pos e,aKm h2 h1 h hr]
def aC5(h:ZX hd mk rl m ws=q)(hq:q≠.bad):∃r n,r≠.bad/\runN hd mk rl m n [⟨ws,ws.length,[]⟩] [] ⟨0,0,0⟩=r/\aP6 r=q:=by
 unfold ZX at h;split at h
 .rename_i e;obtain⟨h1,n',h2⟩:=e.choose_spec;exact⟨_,n',h1,h2,h⟩
 .exact aS h.symm hq
section
variable [KFrag]
noncomputable def loud:HO->aw
 |.lst _=>ag
 |.ins _ _ _=>ag
 |_=>aj
structure Lb(S:am->Prop)(H H':Hp):Prop where
 bs:aRa S H H'
 ld:∀b,S b->∃o,H b=aa o/\loud o=ag
def Lb.use{S:am->Prop}(x:Lb S H H'):vV H H':=λb o e u=>x.bs b o e λz=>by
 obtain⟨o',e',hl⟩:=x.ld b z;rw[e] at e';cases e';cases o<;>first|(cases hl;done)|(cases u;done)
def Lb.same(s:bK H H'):Lb (λ_=>cf) H H':=⟨λb o e _=>s b o e,λ_ z=>z.elim⟩
def Lb.but(b:lN x H H')(hx:H x=aa o)(hl:loud o=ag):Lb (λc=>c=x) H H':=⟨λc oc e n=>b c oc e n,λc z=>by subst z;exact⟨o,hx,hl⟩⟩
def Lb.dct{S:am->Prop}(x:Lb S H H'){v:V}{kn:ae (D×D)}(r:Rep All H v (.dct kn))(p:δ (kn.map (·.2))=ag):Rep All H' v (.dct kn):=by
 cases r with
 |dK e _ r n=>exact .dK (x.bs _ _ e λz=>by obtain⟨o,e',hl⟩:=x.ld _ z;rw[e] at e';cases e';cases hl) trivial (r.fY x.use p) n
 |dT e _ r n=>exact .dT (x.bs _ _ e λz=>by obtain⟨o,e',hl⟩:=x.ld _ z;rw[e] at e';cases e';cases hl) trivial (r.fY x.use p) n
def Lb.fra{S:am->Prop}{H H':Hp}{CF fr:am}{ws:ae D}{i:ah}{kn:ae (D×D)}(x:Lb S H H')(h:FrA CF H fr ws i kn)(p:δ ws=ag)(pk:δ (kn.map (·.2))=ag)(n:¬S fr):FrA CF H' fr ws i kn:=by
 obtain⟨dx,w1,w3,e,r1,r3⟩:=h;exact⟨dx,w1,w3,x.bs _ _ e n,r1.fY x.use (by rw[ξ];exact p),x.dct r3 pk⟩
def ZZ(CF:am)(H0 H:Hp):ae am->ae Fr->Prop
 |[],[]=>gv
 |x::as,f::fs=>FrA CF H x f.ws f.i f.kn/\δ f.ws=ag/\δ (f.kn.map (·.2))=ag/\H0 x=ai/\x∉as/\ZZ CF H0 H as fs
 |_,_=>cf
def Lb.frs{S:am->Prop}(x:Lb S H H'):∀{as:ae am}{fs:ae Fr},ZZ CF H0 H as fs->(∀b∈as,¬S b)->ZZ CF H0 H' as fs
 |[],[],_,_=>trivial
 |a::as,f::fs,⟨h1,h2,h3,h4,h5,h6⟩,n=>⟨x.fra h1 h2 h3 (n a 0x2),h2,h3,h4,h5,Lb.frs x h6 λb hb=>n b (by simp[hb])⟩
 |[],_::_,h,_=>h.elim
 |_::_,[],h,_=>h.elim
def ZZ.ins:∀{as:ae am}{fs:ae Fr},ZZ CF H0 H as fs->∀b∈as,H0 b=ai/\∃C dx fs,H b=aa (.ins C dx fs)
 |[],[],_,b,hb=>by cases hb
 |a::as,f::fs,⟨⟨dx,w1,w3,e,_⟩,h2,h3,h4,h5,h6⟩,b,hb=>by
  rcases bq.mp hb with rfl|hb
  .exact⟨h4,_,_,_,e⟩
  .exact ZZ.ins h6 b hb
 |[],_::_,h,_,_=>h.elim
 |_::_,[],h,_,_=>h.elim
def ZZ.len:∀{as:ae am}{fs:ae Fr},ZZ CF H0 H as fs->as.length=fs.length
 |[],[],_=>rfl
 |a::as,f::fs,⟨_,_,_,_,_,h6⟩=>by rw[bz,bz,ZZ.len h6]
 |[],_::_,h=>h.elim
 |_::_,[],h=>h.elim
structure VI(CF:am)(hd mk rl:ae (D×D))(m:ak)(H0:Hp)(a af av:am)(fs:ae Fr)(st:ae D)(k:Cn)(H:Hp):Prop where
 sm:lN a H0 H
 self:Rep All H (.ref a) (.ins "PlainRun" (prF hd mk rl m k))
 frs:∃as,H af=aa (.lst (as.map V.ref).reverse)/\ZZ CF H0 H as fs
 val:∃vs,H av=aa (.lst vs)/\bJ All H vs st.reverse
 pv:δ st=ag
def aTs:FE:=b2 getD (aFf "Frame" "words" lF) (aFf "Frame" "left" lF)
noncomputable def frK(ws:ae D)(i:ah)(kn:ae (D×D)):D:=.ins "Frame" [("words",.tup ws),("left",.int i),("known",.dct kn)]
def aKn(h:ws[j]?=aa w):aTs [.uD,.uD,.uD,.uD,frK ws j kn]=.ok w:=by
 have hj:j<ws.length:=by
  rcases lb j ws.length with z|z
  .exact z
  .rw[iE z] at h;cases h
 show(ν ((ixD ws.length (j:ak)).bind λi=>ws[i]?))=.ok w;unfold ixD;rw[aq 0x1,aq 0x1];show ν (ws[(j:ak).toNat]?)=.ok w;rw[mr,h];rfl
def aTt(C CF CS:am)(E:XK):TS:=DR (XM C "take_word" (aP4 CF CS) [] E (gQ 0) (dM (gQ 2) (dM (gQ 3) (dM (gE aTs aj) xF))))
def aTu(K:aT)(C CF CS:am)(E:XK):TS:=aIs (tB (aRg (TF K (gQ 4) "left") (tC (.int 0)))) (DR (aSa K 2))
  (wV (aMf K (gQ 4) (aRe (TF K (gQ 4) "left") (tC (.int 1))) "left") (aTt C CF CS E))
def tWB(K:aT)(C CF CS:am)(E:XK):TS:=wV (JV (tOp (aNb K) (gQ 2) tm1) (gR 4)) (aTu K C CF CS E)
def aTv(K:aT)(C CF CS:am)(l:ae (Str×Srx))(E:XK):TS:=
 wV (JV (aN8 (dM (tMk K "Frame" l 2 (dM (gQ 1) (dM T3 xF))) xF)) (gR 2))
  (wV (JV (aN8 xF) (gR 3))
   (wV (Z7 (aTk K 2) (tWB K C CF CS E))
    (aMz (tOp (aNb K) (gQ 3) (tC (.int 0))))))
def aUu(CS a:am)(hd mk rl:ae (D×D))(m:ak)(H:Hp)(Q:VK)(E:XK):Res (D×Cn)->Prop
 |.ok (y,k)=>∀v H',lN a H H'->Rep All H' (.ref a) (.ins "PlainRun" (prF hd mk rl m k))->Rep All H' v y->y.pure=ag->Q v H'
 |.err _ _=>∀H',lN a H H'->E (.ref CS) ai H'
 |.bad=>cf
def aC6(CS:am):Sp:=λvs H Q E=>∃a vw hd mk rl m ws,vs=[.ref a,vw]/\okR hd mk rl/\δ ws=ag/\Rep All H (.ref a) (.ins "PlainRun" (prF hd mk rl m ⟨0,0,0⟩))/\Rep All H vw (.tup ws)/\aUu CS a hd mk rl m H Q E (ZX hd mk rl m ws)
section
variable {K:aT} {C CF CS:am}
def RC{S:am->Prop}{H H':Hp}{a:am}{hd mk rl:ae (D×D)}{m:ak}{k:Cn}(hK:KFrag.K=K)(hC:nsIn K bt "PlainRun"=aa (aa (.ref C)))(x:Lb S H H')(o:okR hd mk rl)(n:¬S a)(r:Rep All H (.ref a) (.ins "PlainRun" (prF hd mk rl m k))):Rep All H' (.ref a) (.ins "PlainRun" (prF hd mk rl m k)):=by
 obtain⟨dx,h1,h2,h3,e,r1,r2,r3⟩:=kJ hK hC r;exact yR hK hC (x.bs _ _ e n) (x.dct r1 o.1) (x.dct r2 o.2.1) (x.dct r3 o.2.2)
def aFq{hd mk rl:ae (D×D)}{m:ak}{H0:Hp}{vw:V}{a af av:am}{D':Ends}{E:XK}{res:Res (ae D×Cn)}(hK:KFrag.K=K)(hC:nsIn K bt "PlainRun"=aa (aa (.ref C)))(hCF:nsIn K bt "Frame"=aa (aa (.ref CF)))(clF:Cls K CF)(nl:cG K CF "left")(ok:okR hd mk rl)
 (hna:∃o,H0 a=aa o)(nf:H0 af=ai)(nv:H0 av=ai)(ne:af≠av){o4:au V}{H:Hp}{f:Fr}{fs:ae Fr}{st:ae D}{k:Cn}{n:ah}(I:VI CF hd mk rl m H0 a af av (f::fs) st k H)(hr:runN hd mk rl m (n+1) (f::fs) st k=res)(hne:res≠.bad)
 (hE:∀c as,res=.err c as->∀H',lN a H0 H'->E (.ref CS) ai H')
 (hN:∀o4 H fs st k,VI CF hd mk rl m H0 a af av fs st k H->runN hd mk rl m n fs st k=res->D'.nx [aa (.ref a),aa vw,aa (.ref af),aa (.ref av),o4] H) :
  tWB K C CF CS E D' [aa (.ref a),aa vw,aa (.ref af),aa (.ref av),o4] H:=by
 obtain⟨sm,self,⟨as,hf,fr⟩,⟨vs,hv,rv⟩,pv⟩:=I;obtain⟨x,as,rfl⟩:∃x as',as=x::as':=by
  cases as with
  |nil=>exact fr.elim
  |cons x as=>exact⟨x,as,rfl⟩
 obtain⟨⟨dx,w1,w3,hx,r1,r3⟩,pw,pk,nx0,nxa,frr⟩:=fr;obtain⟨dxp,h1,h2,h3,hsa,e1,e2,e3⟩:=kJ hK hC self;obtain⟨o0,hna⟩:=hna;have a0:∀{b:am},H0 b=ai->b≠a:=λh z=>by rw[z,hna] at h;cases h
 have ex:(d5 V.ref (x::as)).reverse=(d5 V.ref as).reverse++[.ref x]:=by simp
 rw[ex] at hf;have nxf:x≠af:=mZ hx hf 0x7;have nxv:x≠av:=mZ hx hv 0x7;refine⟨.ref af,rfl,1,rfl,af,_,-1,.ref x,rfl,rfl,.of hf,TQ _ _,?_⟩;show aTu K C CF CS E D' [aa (.ref a),aa vw,aa (.ref af),aa (.ref av),aa (.ref x)] H;obtain⟨ws,i,kn⟩:=f;refine⟨.ref x,rfl,x,CF,dx,_,.int i,rfl,hx,clF,nl,rfl,i,0,rfl,rfl,_,rfl,?_⟩;have asi:=ZZ.ins frr;dsimp only;cases i with
 |zero=>
  rw[aq 0x3];have bf:Lb (λc=>c=af) H (upd H af (.lst (as.map V.ref).reverse)):=Lb.but lN.upd hf rfl;refine⟨.ref af,rfl,.inl ⟨rfl,_,.of hf⟩,af,_,.ref x,rfl,rfl,hf,by simp,?_⟩;rw[xi];refine hN _ _ fs st k ⟨λb o e nb=>?_,RC hK hC bf ok (Ne.symm (a0 nf)) self,⟨as,aF,bf.frs frr λb hb z=>?_⟩,⟨vs,by rw[aM (Ne.symm ne)];exact hv,rv.fY bf.use (fD pv)⟩,pv⟩ hr
  .rw[aM (bF e nf)];exact sm b o e nb
  .obtain⟨_,C',dx',fs',e⟩:=asi b hb;rw[z,hf] at e;cases e
 |succ j=>
  rw[ax (λz=>by have:=dy z;lia)];refine⟨.ref x,rfl,x,CF,dx,_,.int ((j+1:ah):ak),rfl,hx,clF,nl,rfl,_,1,rfl,rfl,.ref x,rfl,x,CF,dx,_,rfl,hx,clF,nl,(by show 3<1000;decide),?_⟩;rw[aFh];have bx:Lb (λc=>c=x) H (upd H x (.ins CF dx [("words",w1),("left",.int j),("known",w3)])):=Lb.but lN.upd hx rfl;have hx2:upd H x (.ins CF dx [("words",w1),("left",.int j),("known",w3)]) x=aa (.ins CF dx [("words",w1),("left",.int j),("known",w3)]):=aF;have hf2:=bx.bs _ _ hf (Ne.symm nxf);have hv2:=bx.bs _ _ hv (Ne.symm nxv);have self2:=RC hK hC bx ok (Ne.symm (a0 nx0)) self;have rv2:bJ All (upd H x (.ins CF dx [("words",w1),("left",.int j),("known",w3)])) vs st.reverse:=rv.fY bx.use (fD pv);have r12:Rep All (upd H x (.ins CF dx [("words",w1),("left",.int j),("known",w3)])) w1 (.tup ws):=r1.fY bx.use (by rw[ξ];exact pw);have r32:=bx.dct r3 pk;have sm2:lN a H0 (upd H x (.ins CF dx [("words",w1),("left",.int j),("known",w3)])):=λb o e nb=>bx.bs _ _ (sm b o e nb) (bF e nx0)
  have frr2:=bx.frs frr λb hb z=>by rw[z] at hb;exact nxa hb
  show aTt C CF CS E D' [aa (.ref a),aa vw,aa (.ref af),aa (.ref av),aa (.ref x)] (upd H x (.ins CF dx [("words",w1),("left",.int j),("known",w3)]));generalize upd H x (.ins CF dx [("words",w1),("left",.int j),("known",w3)])=H2 at hx2 hf2 hv2 self2 rv2 r12 r32 sm2 frr2;obtain⟨dxp2,g1,g2,g3,hsa2,_⟩:=kJ hK hC self2;unfold runN at hr;split at hr
  .exact aS hr.symm hne
  .rename_i w hw;split at hr
   .rename_i hlen;have hlen:=dy hlen;refine⟨.ref a,rfl,a,dxp2,_,rfl,hsa2,rfl,.ref af,rfl,.ref av,rfl,[.uD,.uD,.uD,.uD,frK ws j kn],w,(EL.skip (.skip (.skip (.skip (.cons (.ins (by rw[hK];exact hCF) hx2 (.cons r12 (.cons (.int _) (.cons r32 .nil)))) .nil))))).er,aKn hw,λvw3 H3 s3 rw3 _=>?_⟩;have hf3:=s3 _ _ hf2;have hv3:=s3 _ _ hv2;have hx3:=s3 _ _ hx2;have l3:=Lb.same s3;have frr3:=l3.frs frr2 λ_ _ z=>z
    have sm3:lN a H0 H3:=λb o e nb=>s3 _ _ (sm2 b o e nb)
    have asi3:=ZZ.ins frr3;have hal:=frr.len;refine⟨a,af,av,vw3,hd,mk,rl,m,k,kn,st,w,_,x,ws,j,vs,rfl,ok,pk,pv,self2.same s3,hf3,by rw[b6,jg,br,hal];simp;lia,TQ _ _,⟨dx,w1,w3,hx3,r12.same s3,r32.same s3⟩,hv3,rv2.same s3,ne,rw3,?_⟩;split at hr
    .rename_i st' k' ht;rw[ht];split at hr
     .rename_i hps;intro H4 vs' b4 hv4 rv4;have l4:Lb (λc=>c=av) H3 H4:=Lb.but b4 hv3 rfl;refine hN _ _ (⟨ws,j,kn⟩::fs) st' k ⟨λb o e nb=>b4 _ _ (sm3 b o e nb) (bF e nv),RC hK hC l4 ok (Ne.symm (a0 nv)) (self2.same s3),⟨x::as,by rw[ex];exact b4 _ _ hf3 ne,l4.fra ⟨dx,w1,w3,hx3,r12.same s3,r32.same s3⟩ pw pk nxv,pw,pk,nx0,nxa,l4.frs frr3 λb hb z=>?_⟩,⟨vs',hv4,rv4⟩,hps⟩ hr;obtain⟨_,C',dx',fs',e⟩:=asi3 b hb;rw[z,hv3] at e;cases e
     .exact aS hr.symm hne
    .rename_i st' ws' kn' k' ht;rw[ht];split at hr
     .rename_i hps;intro H4 vs' y hy bs self4 hf4 fa hv4 rv4;obtain⟨dxp3,q1,q2,q3,hsa3,_⟩:=kJ hK hC (self2.same s3);have l4:Lb (λb=>b=a\/b=af\/b=av) H3 H4:=⟨bs,λb hb=>by
       rcases hb with rfl|rfl|rfl
       .exact⟨_,hsa3,rfl⟩
       .exact⟨_,hf3,rfl⟩
       .exact⟨_,hv3,rfl⟩⟩
      have old:∀b,(H0 b=ai/\∃C dx fs,H3 b=aa (.ins C dx fs))->¬(b=a\/b=af\/b=av):=λb ⟨z0,C',dx',fs',e⟩ z=>by
       rcases z with rfl|rfl|rfl
       .exact a0 z0 rfl
       .rw[hf3] at e;cases e
       .rw[hv3] at e;cases e
      have nyx:y∉x::as:=λhb=>by
       rcases bq.mp hb with z|z
       .rw[z,hx3] at hy;cases hy
       .obtain⟨_,C',dx',fs',e⟩:=asi3 y z;rw[hy] at e;cases e
      have y0:H0 y=ai:=by
       cases hq:H0 y with
       |none=>rfl
       |some oo=>
        exfalso;by_cases hya:y=a
        .rw[hya,hsa3] at hy;cases hy
        .rw[sm3 _ _ hq hya] at hy;cases hy
      have pk':δ ws'=ag/\δ (kn'.map (·.2))=ag:=aFp ht;refine hN _ _ (⟨ws',ws'.length,kn'⟩::⟨ws,j,kn⟩::fs) st' k' ⟨λb o e nb=>?_,self4,⟨y::x::as,?_,fa,pk'.1,pk'.2,y0,nyx,l4.fra ⟨dx,w1,w3,hx3,r12.same s3,r32.same s3⟩ pw pk (old x ⟨nx0,_,_,_,hx3⟩),pw,pk,nx0,nxa,l4.frs frr3 λb hb=>old b (asi3 b hb)⟩,⟨vs',hv4,rv4⟩,hps⟩ hr
      .refine bs _ _ (sm3 b o e nb) λz=>?_
       rcases z with z|z|z
       .exact nb z
       .rw[z,nf] at e;cases e
       .rw[z,nv] at e;cases e
      .rw[hf4];simp
     .exact aS hr.symm hne
    .rename_i c as' ht;rw[ht];intro H4 bs;refine hE c as' hr.symm H4 λb o e nb=>bs _ _ (sm3 b o e nb) λz=>?_
     rcases z with z|z|z
     .exact nb z
     .rw[z,nf] at e;cases e
     .rw[z,nv] at e;cases e
    .exact aS hr.symm hne
   .exact aS hr.symm hne
end
end
def aMl(lP:ae (Str×Srx))(vW:ae D->Res D):ae D->Res D
 |[pr,.tup ws,.int m]=>if δ ws&&pr.pure then (match evS [.uD,pr,.int m] lP with
  |.ok fs=>(match (fs.map (λp=>p.2):ae D) with
   |[.dct hd,.dct mk,.dct rl,.int m',.int 0,.int 0,.int 0]=>if δ (hd.map (·.2))&&(δ (mk.map (·.2))&&δ (rl.map (·.2))) then (match ZX hd mk rl m' ws with
    |.ok (y,k)=>(match vW [y] with
     |.ok d=>if d.pure then .ok (.tup [d,.int k.c,.int k.p,.int k.d]) else .bad
     |_=>.bad)
    |.err c as=>.err c as
    |.bad=>.bad) else .bad
   |_=>.bad)
  |_=>.bad) else .bad
 |_=>.bad
section
variable [KFrag]
def aFr(h:aDx rl m k tk ps=.err c as):c="Spent"/\as=[.exc "Spent" []]:=by
 obtain⟨w0,xs,z0,more,r0,r1,own,ws',kn',k'',_,_,_,_,_,pw,hz,_,e⟩:=HB h 0x7;split at e
 .cases e;exact⟨rfl,rfl⟩
 .cases e
def aFs{st:ae D}{c:Str}{as:ae D}(h:VP hd mk rl m k kn st w=.err c as):c="Spent"/\as=[.exc "Spent" []]:=by
 unfold VP at h;split at h
 .split at h
  .cases h
  .split at h
   .split at h
    .split at h
     .split at h<;>cases h
     .split at h
      .cases h
      .rename_i hq;cases h;exact aFr hq
      .cases h
    .cases h
   .cases h
 .cases h
def wJ:∀{n:ah}{fs:ae Fr}{st:ae D}{k:Cn},runN hd mk rl m n fs st k=.err c as->c="Spent"/\as=[.exc "Spent" []]
 |0,_,_,_,h=>by cases h
 |n+1,[],st,k,h=>by cases h
 |n+1,⟨ws,0,kn⟩::fs,st,k,h=>wJ (fs:=fs) h
 |n+1,⟨ws,i+1,kn⟩::fs,st,k,h=>by
  unfold runN at h;split at h
  .cases h
  .split at h
   .split at h
    .split at h
     .exact wJ h
     .cases h
    .split at h
     .exact wJ h
     .cases h
    .rename_i hq;cases h;exact aFs hq
    .cases h
   .cases h
def aFt(h:ZX hd mk rl m ws=.err c as):c="Spent"/\as=[.exc "Spent" []]:=by
 obtain⟨r,n,_,h1,h2⟩:=aC5 h 0x7;unfold aP6 at h2;split at h2
 .split at h2<;>cases h2
 .cases h2;exact wJ h1
 .cases h2
section
variable {K:aT} {C CF CS:am} {l lP:ae (Str×Srx)} {vW:ae D->Res D}
def aFu(hN:N.length=5)(hK:KFrag.K=K)(hC:nsIn K bt "PlainRun"=aa (aa (.ref C)))(hCF:nsIn K bt "Frame"=aa (aa (.ref CF)))(clF:Cls K CF)(nl:cG K CF "left")
 (hl:∀ws kn,δ ws=ag->δ (kn.map (·.2))=ag->evS [.uD,.tup ws,.dct kn] l=.ok [("words",.tup ws),("left",.int ws.length),("known",.dct kn)]){E:XK}(h:aC6 CS vs H Q E):aTv K C CF CS l E {nx:=λ_ H'=>Q .non H',rt:=Q} (L2.start N vs) H:=by
 obtain⟨a,vw,hd,mk,rl,m,ws,rfl,ok,pw,self,rw,hc⟩:=h;have hst:L2.start N [V.ref a,vw]=[aa (.ref a),aa vw,ai,ai,ai]:=by
  unfold L2.start;rw[hN];rfl
 rw[hst];generalize hres:ZX hd mk rl m ws=q at hc;have hq:q≠.bad:=λz=>by subst z;exact hc
 obtain⟨res,n0,hne,hr0,he⟩:=aC5 hres hq;obtain⟨dxp,g1,g2,g3,hsa,_⟩:=kJ hK hC self;refine⟨vw,rfl,λp hp=>?_⟩;have s1:bK H (upd H p (.dK [])):=bK.upd hp;refine⟨[.tup ws,.dct []],_,rfl,.cons (rw.same s1) (.cons (.dK aF trivial .nil 0x2) .nil),hl ws [] pw rfl,λCF' x dx H2 vf hn2 hx s2 hx2 rf2=>?_⟩;rw[hCF] at hn2;cases hn2;have rfa:=rf2 All (λ_ _=>trivial) (.cons (rw.same s1) (.cons (.dK aF trivial .nil 0x2) .nil));cases rfa with
 |cons q1 rfa=>
 cases rfa with
 |cons q2 rfa=>
 cases rfa with
 |cons q3 rfa=>
 cases rfa;cases q2.inv;refine⟨by show 1<=bd;decide,λpf hpf=>?_⟩;show JV (aN8 xF) (gR 3) _ [aa (.ref a),aa vw,aa (.ref pf),ai,ai] (upd H2 pf (.lst [.ref x]));refine⟨eP _,λpv hpv=>?_⟩;have hnf:pf≠pv:=λz=>by
  subst z;rw[aF] at hpv;cases hpv
 have hpv2:H2 pv=ai:=by rw[aM (Ne.symm hnf)] at hpv;exact hpv
 have s3:bK H2 (upd (upd H2 pf (.lst [.ref x])) pv (.lst [])):=(bK.upd hpf).trans (bK.upd hpv);have s03:bK H (upd (upd H2 pf (.lst [.ref x])) pv (.lst [])):=(s1.trans s2).trans s3;have none0:∀b,H2 b=ai->H b=ai:=λb hb=>(s1.trans s2).free hb
 have hx0:H x=ai:=s1.free hx;have I0:VI CF hd mk rl m H a pf pv [⟨ws,ws.length,[]⟩] [] ⟨0,0,0⟩ (upd (upd H2 pf (.lst [.ref x])) pv (.lst [])):=
  ⟨λb o e _=>s03 b o e,self.same s03,⟨[x],by rw[aM hnf];exact aF,⟨dx,_,_,s3 _ _ hx2,q1.same s3,q3.same s3⟩,pw,rfl,hx0,by simp,trivial⟩,⟨[],aF,.nil⟩,rfl⟩
 show Z7 (aTk K 2) (tWB K C CF CS E) _ [aa (.ref a),aa vw,aa (.ref pf),aa (.ref pv),ai] (upd (upd H2 pf (.lst [.ref x])) pv (.lst []));refine⟨λn σ H'=>∃o4 fs st k,σ=[aa (.ref a),aa vw,aa (.ref pf),aa (.ref pv),o4]/\VI CF hd mk rl m H a pf pv fs st k H'/\runN hd mk rl m n fs st k=res,⟨n0,_,_,_,_,rfl,I0,hr0⟩,?_⟩;rintro n σ H' ⟨o4,fs,st,k,rfl,I,hr⟩;cases n with
 |zero=>exact aS hr.symm hne
 |succ n=>
 obtain⟨as,hf,fr⟩:=I.frs;refine⟨.ref pf,rfl,!((as.map V.ref).reverse).isEmpty,.inl ⟨_,.of hf,rfl⟩,?_⟩;cases fs with
 |nil=>
  cases as with
  |cons x as=>exact fr.elim
  |nil=>
  show(if aj=ag then _ else _);rw[ax fz];have hr:τ (st,k)=res:=hr;subst hr;unfold aP6 at he;dsimp only at he;split at he
  .rename_i y hy;subst he;obtain⟨vs,hv,rv⟩:=I.val;obtain⟨st',rfl⟩:∃st',st=st'++[y]:=by
    have hn:st≠[]:=λz=>by rw[z] at hy;cases hy
    refine⟨st.dropLast,?_⟩;rw[List.getLast?_eq_some_getLast hn] at hy;cases hy;exact(List.dropLast_concat_getLast hn).symm
   rw[Af,List.reverse_singleton] at rv;cases rv with
   |cons ry rr=>
   have py:y.pure=ag:=cP.mp I.pv y 0x2;exact⟨.ref pv,rfl,pv,_,0,_,rfl,rfl,.of hv,aJ6 rfl,hc _ _ I.sm I.self ry py⟩
  .exact aS he.symm hq
 |cons f fs=>
  cases as with
  |nil=>exact fr.elim
  |cons x as=>
  rw[aq 0x2];refine⟨λσ' H''=>∃n',n'<n+1/\∃o4 fs st k,σ'=[aa (.ref a),aa vw,aa (.ref pf),aa (.ref pv),o4]/\VI CF hd mk rl m H a pf pv fs st k H''/\runN hd mk rl m n' fs st k=res,λ_ _ z=>z,?_⟩;refine aFq hK hC hCF clF nl ok ⟨_,hsa⟩ (none0 _ hpf) (none0 _ hpv2) hnf I hr hne (λc as e H' b=>?_) λo4 H fs st k I hr=>⟨n,by lia,o4,fs,st,k,rfl,I,hr⟩
  subst e;subst he;exact hc H' b
def aP7(K:aT)(vW:ae D->Res D):TS:=aMz (aTa (dM (gE (aQ (cU 1 vW) (aC lF aW)) ag) (dM (TF K (gQ 3) "calls") (dM (TF K (gQ 3) "copies") (dM (TF K (gQ 3) "drops") xF)))))
def aTw(K:aT)(C CS:am)(lP:ae (Str×Srx))(vW:ae D->Res D)(E:XK):TS:=
 wV (JV (tMk K "PlainRun" lP 2 (dM (gQ 0) (dM (gQ 2) xF))) (gR 3))
  (wV (JV (XM C "value_of" (aC6 CS) [] E (gQ 3) (dM (gQ 1) xF)) (gR 4)) (aP7 K vW))
def aFv(hN:N.length=5)(hK:KFrag.K=K)(hC:nsIn K bt "PlainRun"=aa (aa (.ref C)))(hS:nsIn K bt "Spent"=aa (aa (.ref CS)))(cl:Cls K C)(nc:cG K C "calls")(np:cG K C "copies")(nd:cG K C "drops")
 (hnm:lP.map (·.1)=([lr "heads",lr "makers",lr "rules",lr "most",lr "calls",lr "copies",lr "drops"]:ae Str)){E:XK}(h:spZ (aMl lP vW) 3 vs H Q E):aTw K C CS lP vW E {nx:=λ_ H'=>Q .non H',rt:=Q} (L2.start N vs) H:=by
 obtain⟨ds,hd3,r,h⟩:=h;generalize hw:aMl lP vW ds=w at h;unfold aMl at hw;split at hw
 .rename_i pr ws m;split at hw
  .rename_i hb;rw[ba] at hb;split at hw
   .rename_i fs hev;split at hw
    .rename_i hd mk rl m' hfs;split at hw
     .rename_i hpu;simp only[ba] at hpu;have hf:fs=prF hd mk rl m' ⟨0,0,0⟩:=by
       have h1:=(aHq hev).2;rw[hnm] at h1;have:fs=(fs.map (·.1)).zip (fs.map (·.2)):=by
        clear hev hfs h1;induction fs with
        |nil=>rfl
        |cons p fs ih=>rw[bh,bh,List.zip_cons_cons,<-ih]
       rw[this,h1,hfs];rfl
      subst hf;cases r with
      |cons rp r=>
      cases r with
      |cons rws r=>
      cases r with
      |cons rm r=>
      cases r;rename_i vp vws vm;have hst:L2.start N [vp,vws,vm]=[aa vp,aa vws,aa vm,ai,ai]:=by
       unfold L2.start;rw[hN];rfl
      rw[hst];refine⟨vp,rfl,vm,rfl,[pr,.int m],_,rfl,.cons rp (.cons rm .nil),hev,λC' x dx H1 vf hn hx s1 hx1 rf=>?_⟩;rw[hC] at hn;cases hn;have rfa:=rf All (λ_ _=>trivial) (.cons rp (.cons rm .nil));have self1:Rep All H1 (.ref x) (.ins "PlainRun" (prF hd mk rl m' ⟨0,0,0⟩)):=.ins (by rw[hK];exact hC) hx1 rfa;have nx:∀{b:am}{o:HO},H b=aa o->b≠x:=λe=>bF e hx
      show wV _ _ _ [aa vp,aa vws,aa vm,aa (.ref x),ai] H1;refine⟨.ref x,rfl,x,dx,_,rfl,hx1,rfa.jY rfl,vws,rfl,x,vws,hd,mk,rl,m',ws,rfl,⟨hpu.1,hpu.2.1,hpu.2.2⟩,hb.1,self1,rws.same s1,?_⟩;cases hv:ZX hd mk rl m' ws with
      |ok q=>
       obtain⟨y,k⟩:=q;rw[hv] at hw;dsimp only at hw;split at hw
       .rename_i d hd';split at hw
        .rename_i pd;subst hw;intro v H2 b2 self2 ry py;show aP7 K vW {nx:=λ_ H'=>Q .non H',rt:=Q} [aa vp,aa vws,aa vm,aa (.ref x),aa v] H2;refine⟨[.uD,.uD,.uD,.uD,y],d,(EL.skip (.skip (.skip (.skip (.cons ry .nil))))).er,?_,λvd H3 s3 rd _=>?_⟩
         .have e4:eZ 4 [.uD,.uD,.uD,.uD,y]=.ok y:=bV rfl (aC2 py);exact aX (aD e4 rfl) ((cF rfl).trans hd')
         .obtain⟨dx2,g1,g2,g3,hx2,_⟩:=kJ hK hC self2;have hx3:=s3 _ _ hx2;refine⟨.ref x,rfl,x,C,dx2,_,.int k.c,rfl,hx3,cl,nc,rfl,.ref x,rfl,x,C,dx2,_,.int k.p,rfl,hx3,cl,np,rfl,.ref x,rfl,x,C,dx2,_,.int k.d,rfl,hx3,cl,nd,rfl,by show 4<=bd;decide,λp hp=>?_⟩;have rt:Rep All (upd H3 p (.tup [vd,.int k.c,.int k.p,.int k.d])) (.ref p) (.tup [d,.int k.c,.int k.p,.int k.d]):=.tup aF (.cons (rd.same (bK.upd hp)) (.cons (.int _) (.cons (.int _) (.cons (.int _) .nil))));refine h _ _ (λb o e=>bK.upd hp b o (s3 _ _ (b2 _ _ (s1 _ _ e) (nx e)))) rt λ_=>rt.bQ ?_
          rw[ξ];simp[δ,ξ,pd]
        .subst hw;exact h.elim
       .subst hw;exact h.elim
      |err c as=>
       rw[hv] at hw;subst hw;obtain⟨rfl,rfl⟩:=aFt hv;obtain⟨fs',C',e1,e2,e3⟩:=h;cases e1;rw[hK,hS] at e2;cases e2;exact λH2 b2=>e3 H2 ai (λb o e=>b2 _ _ (s1 _ _ e) (nx e)) rfl
      |bad=>
       rw[hv] at hw;subst hw;exact h.elim
     .subst hw;exact h.elim
    .subst hw;exact h.elim
   .subst hw;exact h.elim
  .subst hw;exact h.elim
 .subst hw;exact h.elim
end
def aP8{E:XK}(h:aMk C vs H Q E):vs.length=3:=by
 obtain⟨_,_,_,_,_,_,_,_,_,e,_⟩:=h;rw[e];rfl
def aKo{E:XK}(h:aC1 CF CS vs H Q E):vs.length=3:=by
 obtain⟨_,_,_,_,_,_,_,_,_,_,e,_⟩:=h;rw[e];rfl
def aP9{E:XK}(h:aP4 CF CS vs H Q E):vs.length=4:=by
 obtain⟨_,_,_,_,_,_,_,_,_,_,_,_,_,_,_,_,_,e,_⟩:=h;rw[e];rfl
def aKp{E:XK}(h:aC6 CS vs H Q E):vs.length=2:=by
 obtain⟨_,_,_,_,_,_,_,e,_⟩:=h;rw[e];rfl
def aKq{E:XK}(h:spZ f n vs H Q E):vs.length=n:=by
 obtain⟨_,e,r,_⟩:=h;rw[r.length,e]
section
variable {P:bu} {w:bn} {K:aT} {mg:Str->au al} {base:aE} {x qual:Str} {st:bp} {f T:am} {its:aI al} {fd:dm} {N ps:ae Str} {k:ah}
def aSk(F:aMi K x qual st f fd T its)(S:bG N ps (aH st))(len:∀vs H Q E,sp vs H Q E->vs.length=ps.length)
 (hbody:∀(cdv:al) (A:bP) (outer:ae cv) (s:ar) (H:Hp) (vs:ae V) (Q:VK) (E:XK),j0 k (A.deeper (du qual (aH st) s.heap.objs.size f cdv))->sp vs H Q E->
   ∃t,PSs (xJ (CX2 P w) P w K mg base N qual (aH st) f cdv A outer s H E) (cH st) t/\t {nx:=λ_ H'=>Q .non H',rt:=Q} (start N vs) H):j4 P w K mg base (CX2 P w) (k+1) f fd ps sp:=by
 obtain⟨oc,od,kV,doc,pm,an,cdv,ct,osl,rfl,lk,hcd⟩:=F.ex;exact aEa lk hcd S len λA outer s H vs Q E hr hsp=>hbody cdv A outer s H vs Q E hr hsp
def _root_.L2.j4.aUv(F:j4 P w K mg base (CX2 P w) k f fd ps (spZ v n)):j4 P w K mg base CX0 k f fd ps (spD v n):=by
 have go:∀{vs H Q E},spD v n vs H Q E->spZ v n vs H Q (λ_ _ _=>cf):=λ⟨ds,d,h1,r,h,q⟩=>⟨ds,h1,r,by rw[h];exact q⟩
 refine⟨λvs H Q E h=>F.len vs H Q _ (go h),λA outer s H args us vs Q E hr he hb hv h=>jo (F.run A outer s H args us vs Q _ hr he hb hv (go h)) λr s' hq=>?_⟩;cases r with
 |ok fl=>cases fl<;>exact hq
 |error e=>
  obtain⟨_,_,_,_,_,_,_,_,_,_,_,_,z⟩:=hq;exact z.elim
end
end
def Z0(n:ah)(v:ae D->Res D)(dd:ae D):ae D->Res D:=λds=>cU n v (ds++dd)
section
variable [KFrag]
def PB(X:Cx)(body:ae bp)(t:L2.St->Hp->(L2.St->Hp->Prop)->XK->Prop):Prop:=
 ∀(Ψ:ae (am×bc))(s:ar)(σ:L2.St)(H:Hp)(Dn:L2.St->Hp->Prop)(De:XK),Inv X Ψ σ H s->t σ H Dn De->
  ϑ (ay X.prog X.w) X.A (execs body X.env) (λf s'=>f=.next/\∃σ' H',Inv X Ψ σ' H' s'/\Dn σ' H') (λe s'=>∃H1 s1,Inv X Ψ σ H1 s1/\CX2 X.prog X.w X.stack H1 s1 De e s') s
def kB(own:ah->aw)(σ:L2.St)(H:Hp)(Dn:L2.St->Hp->Prop)(De:XK):Res Fl->Prop
 |.ok (.nx ρ')=>∀σ' H',KU own σ H σ' H'->ES own H' σ' ρ'->Dn σ' H'
 |.err c as=>∃fs C,as=[.exc c fs]/\nsIn KFrag.K bt c=aa (aa (.ref C))/\∀H' dx,bK H H'->XDs H' fs dx->De (.ref C) dx H'
 |_=>cf
def tB3(own:ah->aw)(f:FS):L2.St->Hp->(L2.St->Hp->Prop)->XK->Prop:=λσ H Dn De=>∃ρ,ES own H σ ρ/\kB own σ H Dn De (f ρ)
def aPa(P:bu)(w:bn)(K:aT)(mg:Str->au al)(base:aE)(k:ah)(x:Str)(n:ah)(v:ae D->Res D)(dd:ae D):Prop:=
 ∃(fad:am)(fd:dm)(ps:ae Str)(ds:ae al)(dvs:ae V),j4 P w K mg base (CX2 P w) k fad fd ps (spZ v n)/\mg x=aa (.ref fad)/\gz K (.ref fad)=ag/\Binds K fd ps ds/\Vals dvs ds/\∀H,bJ All H dvs dd
section
variable {X:Cx} {e c:Expr}
def kCl(X:Cx)(Ψ:ae (am×bc))(σ:L2.St)(H:Hp)(De:XK)(Q:al->ar->Prop):Res D->Prop
 |.ok d=>∀y u H' s',Inv X Ψ σ H' s'->RelV y u->bK H H'->Rep All H' y d->Rep (New H) H' y d->Q u s'
 |.err c as=>∃fs C,as=[.exc c fs]/\nsIn KFrag.K bt c=aa (aa (.ref C))/\∀H' dx,bK H H'->XDs H' fs dx->De (.ref C) dx H'
 |.bad=>cf
def aPb(R:aPa X.prog X.w X.K X.mg X.base k f n v dd)(hr:j0 k' X.A)(hkk:k<=k')(hg:Gl X f)(ha:PA X.nox (e::es) (gA fa ra))(hdb:(f==("__debug__" : Str))=aj)(he:zSE X e es)(hpl:zSP X cpos es)
 (I:Inv X Ψ σ H s)(E:ER H σ ρ)
 (q:kCl X Ψ σ H De Q (aQ (Z0 n v dd) (noE fa) ρ)) :
  ϑ (ay X.prog X.w) X.A (eval (.Call (.Name f p) (e::es) [] cpos) X.env) Q (λe s'=>∃H1 s1,Inv X Ψ σ H1 s1/\CX2 X.prog X.w X.stack H1 s1 De e s') s:=by
 obtain⟨fm,fd,ps,ds,dvs,F,hm,hk,hb,hv,hdd⟩:=R;rcases aBu with ⟨as,h1,h2⟩|h2
 .have e1:aQ (Z0 n v dd) (noE fa) ρ=cU n v (as++dd):=by unfold aQ;rw[h2];rfl
  rw[e1] at q;by_cases hl:(as++dd).length=n
  .have e2:cU n v (as++dd)=v (as++dd):=by unfold cU;rw[aq (bj hl)]
   rw[e2] at q;refine fR (wU I hg hm ?_ hdb);refine callWith_K I.ok.mod.kin hk (eM (ha cpos Ψ s σ H (λvs H1=>bK H H1/\bJ All H1 vs as) (I.wish _) ⟨ρ,as,E,h1,λvs H' sm rs _=>⟨sm,rs⟩⟩) (λus s1 ⟨vs,H1,I1,r,sm,rs⟩=>⟨I1.kIn,?_⟩) λ_ _ z=>dz z) he hpl;have I1:Inv X Ψ σ H1 s1:=I1.lU;have hsp:spZ v n (vs++dvs) H1 (λy H2=>bK H H2/\match v (as++dd) with|.ok d=>Rep All H2 y d/\Rep (New H) H2 y d|_=>cf) De:=by
    refine⟨as++dd,hl,rs.append (hdd H1),?_⟩;cases hv2:v (as++dd) with
    |ok d=>exact λy H2 s2 r2 n2=>⟨sm.trans s2,r2,(n2 rfl).mono λa ha=>sm.free ha⟩
    |err c as'=>
     rw[hv2] at q;obtain⟨fs,C,g1,g2,g3⟩:=q;exact⟨fs,C,g1,g2,λH2 dx s2 xd=>g3 H2 dx (sm.trans s2) xd⟩
    |bad=>rw[hv2] at q;exact q
   have r2:Vals (vs++dvs) (us++ds):=r.append hv;have hlen:(us++ds).length=ps.length:=by rw[<-r2.length];exact F.len _ _ _ _ hsp
   refine lS (jo (F.run X.A X.stack s1 H1 ⟨us,[]⟩ (us++ds) (vs++dvs) _ De (hr.mono hkk) I1.env0 (hb s1 us I1.kIn hlen) r2 hsp) λr s' hq=>?_);cases r with
   |error e=>exact⟨H1,s1,I1,hq⟩
   |ok fl=>
    cases fl with
    |ret u=>
     obtain⟨y,H2,I2,ry,sm2,z⟩:=I1.after hq;cases hv2:v (as++dd) with
     |ok d=>
      rw[hv2] at q z;exact q y u H2 s' I2 ry sm2 z.1 z.2
     |err c as'=>rw[hv2] at z;exact z.elim
     |bad=>rw[hv2] at z;exact z.elim
    |next=>exact dz hq
    |brk=>exact dz hq
    |cont=>exact dz hq
  .have e2:cU n v (as++dd)=.bad:=by unfold cU;rw[ax (by simpa using hl)]
   rw[e2] at q;exact q.elim
 .have e1:aQ (Z0 n v dd) (noE fa) ρ=.bad:=by unfold aQ;rw[h2];rfl
  rw[e1] at q;exact q.elim
def aPc{o:aw}(R:aPa X.prog X.w X.K X.mg X.base k f n v dd)(hr:j0 k' X.A)(hkk:k<=k')(hg:Gl X f)(ha:PA X.nox (e::es) (gA fa ra))(ho:own i=aj)(hN:X.N.Nodup)(hi:X.N[i]?=aa x)(hx:Loc X.env.scope x)(hf:zFn X x:=by first|exact .inl rfl|exact .inr rfl|assumption)
 (hdb:(f==("__debug__" : Str))=aj:=by decide)(he:zSE X e es:=by rfl)(hpl:zSP X cpos es:=by rfl)(hs:en (.Call (.Name f p) (e::es) [] cpos) (aa (.Name x px)) xpos.line X.env=pure aj:=by rfl) :
  PB X [.Assign [.Name x px] (.Call (.Name f p) (e::es) [] cpos) xpos] (tB3 own (cZ aj i (aQ (Z0 n v dd) (noE fa)) ag)):=by
 intro Ψ s σ H Dn De I ⟨ρ,es',q⟩;refine xy (AI (aPb R hr hkk hg ha hdb he hpl I es'.er ?_) hs);cases hq:aQ (Z0 n v dd) (noE fa) ρ with
 |ok d=>
  have e1:cZ aj i (aQ (Z0 n v dd) (noE fa)) ag ρ=.ok (.nx (ρ.set i d)):=by unfold cZ;rw[hq];rfl
  rw[e1] at q;intro y u H' s' I' ry sm r1 r2;refine DQ I' hN hi hx ry (λs2 I2=>lz ⟨rfl,_,H',I2,q _ H' (λb ob eb nb=>⟨sm b ob eb,λz=>nb ((lZ ho b).mp z)⟩) ?_⟩) hf;refine(es'.same sm).set ho (r2.mono λb hb z=>?_);obtain⟨o',e',_⟩:=es'.live z;rw[show H b=ai from hb] at e';cases e'
 |err c as=>
  have e1:cZ aj i (aQ (Z0 n v dd) (noE fa)) ag ρ=.err c as:=by unfold cZ;rw[hq];rfl
  rw[e1] at q;exact q
 |bad=>
  have e1:cZ aj i (aQ (Z0 n v dd) (noE fa)) ag ρ=.bad:=by unfold cZ;rw[hq];rfl
  rw[e1] at q;exact q.elim
end
def YZ(f:FE)(is:ae ah):FS:=λρ=>do
 let d <- f ρ
 match d with
 |.lst xs=>if ϒ (xs.length=is.length) then .ok (.nx (xR is xs ρ)) else .bad
 |_=>.bad
def RD(ho:∀i∈is,own i=aj)(he:PE X e (gE fe ag))(hg:PG X (.Tuple es k pt) (aOm X.K is.length (gIx is)))(hs:AG [.Tuple es k pt] e pos.line X.env=pure aj:=by rfl)(hw:AH [.Tuple es k pt] e X.env=pure ai:=by rfl)
 (h1:(iN [.Tuple es k pt] X.env).map (·.2)=[kq (.Tuple es k pt) X.env]:=by rfl):PS X (.Assign [.Tuple es k pt] e pos) (tS own (YZ fe is)):=PS.imp (m9 he hg hs hw h1) λD' σ H ⟨ρ,fl,E,h,q⟩=>by
 obtain⟨d,h1,h2⟩:=bA h;refine⟨ρ,d,E.er,h1,λv H1 s1 r0 n=>?_⟩;split at h2
 .rename_i xs;split at h2
  .rename_i hl;cases h2;have hl':=dy hl;have r2:Rep (λa=>¬Own own σ a) H1 v (.lst xs):=(n rfl).mono λb hb z=>by
    obtain⟨o',e',_⟩:=E.live z;rw[show H b=ai from hb] at e';cases e'
   obtain⟨a,vs,rfl,sq,rr⟩:=r2.gF;refine⟨a,vs,rfl,sq,by rw[rr.length];exact hl',yG _ _ _ (by rw[rr.length];exact hl') ?_⟩;obtain⟨E2,hO⟩:=ES.sets ho (E.same s1) rr;exact q _ H1 ((KU.same s1).trans λa o e n=>⟨e,by rw[hO];exact n⟩) E2
  .exact bx h2
 .exact bx h2
noncomputable def aKr:D->D->Res D
 |.lst [x],.int n=>if ϒ (0<=n)&&ϒ (n<=10000)&&x.pure then .ok (.lst (bi n.toNat x)) else .bad
 |_,_=>.bad
def HH(r:Rep P H v d):∀n:ah,bJ P H (bi n [v]).flatten (bi n d)
 |0=>.nil
 |n+1=>by
  rw[ip,ip,nS];exact .cons r (HH r n)
def RG:OpR X (ef .Mult) (r2 aKr ag):=by
 intro Ψ s σ H x y v u Q I rx ry ⟨a,b,d,p,q,e,k⟩;unfold aKr at e;split at e
 .rename_i x1 n;split at e
  .rename_i hl;rw[ba,ba] at hl;obtain⟨⟨h0,h1⟩,hp⟩:=hl;have h0:=dy h0;have h1:=dy h1;cases e;cases q.inv;obtain⟨a1,xs,rfl,e1,_,r1⟩:=p.inv;cases r1 with
   |@cons v1 _ _ _ r2 r3=>
    cases r3;refine aNf Ψ s σ H _ _ v u Q I rx ry ⟨a1,n,[v1],rfl,rfl,e1,by lia,by lia,?_,λp hpn=>?_⟩
    .rw[eR,cy];lia
    .have sp:bK H (upd H p (.lst (bi n.toNat [v1]).flatten)):=bK.upd hpn;exact k _ _ sp (.lst aF trivial ((HH r2 _).same sp)) λ_=>.lst aF hpn ((HH (r2.bQ hp) _).same sp)
  .exact bx e
 .exact bx e
end
noncomputable def RJ(f:FS)(cs:ae Str)(ic:ah):FS:=λρ=>match f ρ with
 |.ok (.nx ρ')=>.ok (.nx ρ')
 |.err c [.exc c' fs]=>if c'==c&&cs.contains c then .ok (.nx (ρ.set ic .non)) else .bad
 |_=>.bad
variable [KFrag]
def aSl(K:Frag)(cM:al)(tb:L2.St->Hp->(L2.St->Hp->Prop)->XK->Prop)(ts:TS):TS:=λD σ H=>tb σ H (λσ' H'=>D.nx σ' H') λCv dd H2=>∃C,Cv=.ref C/\xj K (.ref C) cM=aa ag/\∀a,H2 a=ai->ts {nx:=λσ' H'=>D.nx σ' H',rt:=λ_ _=>cf} σ (upd H2 a (.ext (XO a C dd)))
def aKs
  (hst:X.stack=X.env::X.outer) (hfr:X.env.frame=aa X.env.locals) (hb:PB X body tb) (hgM:Gl X mx) (hmM:X.mg mx=aa cM)
  (hs:∀v,PSs (mrk X v).nox (b0::suite) ts) (hdM:(mx==("__debug__" : Str))=aj:=by decide) :
  PS X (.Try body [.ExceptHandler (aa (.Name mx mp)) ai (b0::suite) hpos] [] [] pos) (aSl X.K cM tb ts):=by
 intro Ψ s σ H D I h;refine wpAny_Try_except (eM (hb Ψ s σ H _ _ I h) (λf s' ⟨e,σ',H',I',q⟩=>?_) λe s' ⟨H1,s1,I1,hq⟩=>?_)
 .subst e;exact lz ⟨σ',H',I',q⟩
 .obtain⟨a,C',dd,H2,B,rfl,os',bare',fly,clo,hn,hgone,C,eC,hx,hE⟩:=hq;cases eC;rw[hst] at fly;refine aBt (by rw[I.ok.frames,hst]) hfr fly λh4 held4 sm4=>?_
  refine q_ held4 λh5 fly5 sm5=>?_
  have up5:s'.heap.UpToSlots h5:=C8 sm4 sm5;have I5:Inv X Ψ σ H2 {s' with heap:=h5}:=by
   obtain⟨un,hok⟩:=clo h5 fly5.1 up5;exact I1.call' os' un hok bare' (λb z=>aS z 0x2)
  refine wpAny_handleBy_cons (codeAny_handlers_test ?_) (by intro q;cases q);refine wU (aB0 I5 _) hgM hmM ?_ hdM;have LT:Looks (ay X.prog X.w) h5 (nN (.ref a)) (.ref C'):=by
   obtain⟨ob,hob,hc,_⟩:=fly5.there;rw[<-hc];exact(Looks.ld hob).andThen .now
  refine(exm_one I5.kIn LT hx).here ?_;refine codeAny_handlers_suite ?_;refine q_ fly5 λh6 fly6 sm6=>?_
  obtain⟨un6,hok6⟩:=clo h6 fly6.1 (C8 up5 sm6);have I6:Inv X Ψ σ (upd H2 a (.ext (XO a C' dd))) {s' with heap:=h6}:=
   I1.call' os' (aO9 un6 hgone hn) (aJw hok6 hn (aSc fly6.there)) bare' (λb z=>aS z 0x2)
  refine eM (hs (.ref a) Ψ _ _ _ _ ((aB0 I6 _).wish _) (hE a hn)) (λfl s8 q8=>?_) λ_ _ z=>dz z
  cases fl with
  |ret u=>obtain⟨_,_,_,_,_,z⟩:=q8;exact z.elim
  |brk=>obtain⟨_,_,_,z⟩:=q8;exact z.elim
  |cont=>obtain⟨_,_,_,z⟩:=q8;exact z.elim
  |next=>
   obtain⟨σ8,H8,I8,q⟩:=q8;exact⟨_,H8,aB1 I.ok I8.lU,q⟩
def aKt
  (hK:KFrag.K=X.K) (hst:X.stack=X.env::X.outer) (hfr:X.env.frame=aa X.env.locals) (hb:PB X body (tB3 own f)) (hgM:Gl X mx) (hmM:X.mg mx=aa cM)
  (hcs:∀c,cs.contains c=ag->∃C,nsIn X.K bt c=aa (aa (.ref C))/\xj X.K (.ref C) cM=aa ag)
  (hN:X.N.Nodup) (hic:X.N[ic]?=aa cn) (hlc:Loc X.env.scope cn) (hfc:X.fn cn=ag\/X.env.scope.names.lookup cn=aa .local) (oc:own ic=aj)
  (hdM:(mx==("__debug__" : Str))=aj:=by decide) (hs2:en (.Constant .none kk ep) (aa (.Name cn tp)) ap.line X.env=pure aj:=by rfl) :
  PS X (.Try body [.ExceptHandler (aa (.Name mx mp)) ai [.Assign [.Name cn tp] (.Constant .none kk ep) ap] hpos] [] [] pos) (tS own (RJ f cs ic)):=by
 refine PS.imp (aKs hst hfr hb hgM hmM (λv=>dD (BV hN hic hlc aH1 hs2 hfc)) hdM) λD σ H ⟨ρ,fl,es,h,q⟩=>?_
 refine⟨ρ,es,?_⟩;unfold RJ at h;split at h
 .rename_i ρ' hf;cases h;rw[hf];exact λσ' H' ku E'=>q σ' H' ku E'
 .rename_i c c' fs hf;split at h
  .rename_i hc;rw[ba] at hc;have ec:=ig.mp hc.1;subst ec;cases h;rw[hf];obtain⟨C,hn,hx⟩:=hcs _ hc.2;refine⟨fs,C,rfl,by rw[hK];exact hn,λH2 dd s2 xd=>⟨C,rfl,hx,λa ha=>?_⟩⟩;have sm3:bK H (upd H2 a (.ext (XO a C dd))):=s2.trans (aF3 ha);have es3:=(es.same sm3).set oc (v:=.non) .non;exact q _ _ (λb o eb nb=>⟨sm3 b o eb,λz=>nb ((lZ oc b).mp z)⟩) es3
  .exact bx h
 .exact bx h
def aKu{P:bu}{w:bn}{T:am}{its:aI al}{K:aT}{mg:Str->au al}{base:aE}{x:Str}{st:bp}{fad:am}{fd:dm}{N ps:ae Str}{k:ah}{f:FS}(F:aMi K x x st fad fd T its)(S:bG N ps (aH st))(own:ah->aw)(hown:∀i,i<ps.length->own i=aj)(hNl:ps.length<=N.length)
 (hbody:∀(cdv:al) (A:bP) (outer:ae cv) (s:ar) (H:Hp) (E:XK),j0 k (A.deeper (du x (aH st) s.heap.objs.size fad cdv))->PSs (xJ (CX2 P w) P w K mg base N x (aH st) fad cdv A outer s H E) (cH st) (tZ own E f))(hx:own rtX=aj:=by rfl):j4 P w K mg base (CX2 P w) (k+1) fad fd ps (spZ (fnS ps.length N.length f) ps.length):=by
 obtain⟨oc,od,kV,doc,pm,an,cdv,ct,osl,rfl,lk,hcd⟩:=F.ex;refine aEa lk hcd S (λvs H Q E ⟨ds,h1,r,_⟩=>by rw[r.length,h1]) λA outer s H vs Q E hr ⟨ds,hl,r,h⟩=>?_
 refine⟨_,hbody cdv A outer s H E hr,?_⟩;have hst:start N vs=vs.map aa++bi (N.length-ps.length) ai:=by
  show vs.map aa++bi (N.length-vs.length) ai=_;rw[r.length,hl]
 have noown:∀a,¬Own own (start N vs) a:=λa ⟨i,hi,e⟩=>by
  rw[hst] at e;by_cases h:i<ps.length
  .rw[hown i h] at hi;cases hi
  .rw[dS (by simp[r.length,hl];lia)] at e;rw[hI] at e;split at e<;>cases e
 cases hv:fnS ps.length N.length f ds with
 |ok d=>
  rw[hv] at h;obtain⟨ρ,fl,es,h1,q⟩:=aAs (E:=E) hx hown ⟨ds,d,hl,r,hv,h⟩;exact⟨ρ,es,by rw[h1];exact q⟩
 |err c as=>
  rw[hv] at h;refine⟨_,GK hst hl r hown noown,?_⟩;cases hf:f (ds++bi (N.length-ps.length) .uD) with
  |ok fl=>
   exfalso;unfold fnS at hv;rw[hf] at hv;cases fl<;>cases hv
  |err c' as'=>
   unfold fnS at hv;rw[hf] at hv;cases hv;obtain⟨fs,C,e1,e2,e3⟩:=h;exact⟨fs,C,e1,e2,λσ' H' dx kk x=>e3 H' dx (λa o e=>(kk a o e (noown a)).1) x⟩
  |bad=>
   exfalso;unfold fnS at hv;rw[hf] at hv;cases hv
 |bad=>rw[hv] at h;exact h.elim
end Mi
namespace Mi
open PySem L2 PySem.SeqAt PySem.Spec PyProof.Rows
def bFz(f:FE):FE:=λρ=>do
 let d <- f ρ
 match d with
 |.lst xs=>if δ xs then .ok (.scr xs) else .bad
 |_=>.bad
noncomputable def aSm:D->au (ae D)
 |.lst a=>aa a
 |.scr a=>aa a
 |_=>ai
def aKv(x y:D):Res D:=match aSm x,aSm y with
 |some a,aa b=>if ϒ (a.length+b.length<=lim)&&δ a&&δ b then .ok (.lst (a++b)) else .bad
 |_,_=>.bad
section
variable [KFrag]
section
variable {X:Cx} {e:Expr} {f:FE}
def tFz(t:TE):TE:=λσ H Q=>t σ H λv H1=>∃a vs,v=.ref a/\H1 a=aa (.lst vs)/\∀o,Q v (upd H1 a (.frz o (.lst vs)))
def aSn(h:PE X e t):PE X e (tFz t):=by
 intro Ψ s σ H Q I q;refine eM (h Ψ s σ H _ (I.wish _) q) (λu s1 ⟨v,H1,I1,r,a,vs,ev,ea,k⟩=>?_) λ_ _ z=>z
 obtain⟨o,I2⟩:=YH I1 ea;exact⟨v,_,I2,r,k o⟩
def lO(h:PE X e (gE f ag)):PE X e (gE (bFz f) ag):=PE.imp (aSn h) λσ H Q ⟨ρ,d,E,h,q⟩=>by
 obtain⟨d0,h1,h2⟩:=bA h;split at h2
 .rename_i xs;split at h2
  .rename_i hp;cases h2;refine⟨ρ,_,E,h1,λv H1 s1 r n=>?_⟩;cases n rfl with
   |@lst a vs _ ea pa ra=>
    refine⟨a,vs,rfl,ea,λo=>?_⟩;have noT:∀ob,H1 a=aa ob->ZV ob=ag:=λob z=>by rw[ea] at z;cases z;rfl
    have s2:bK H (upd H1 a (.frz o (.lst vs))):=λb ob eb=>by
     rw[aM (λz=>by rw[z,show H a=ai from pa] at eb;cases eb)];exact s1 b ob eb
    have rp:∀P:am->Prop,Rep P (upd H1 a (.frz o (.lst vs))) (.ref a) (.scr xs):=λP=>.frz (.inl ⟨o,aF⟩) ((aB4 noT ra hp).bQ hp)
    exact q _ _ s2 (rp _) λ_=>rp _
  .exact bx h2
 .exact bx h2
def aC7(hK:KFrag.K=X.K)(h:aSm d=aa ds)(r:Rep P H v d):∃a xs,v=.ref a/\SqL X.K H a xs/\bJ P H xs ds:=by
 cases d with
 |lst a=>
  cases h;obtain⟨_,_,rfl,e,p,rr⟩:=r.inv;exact⟨_,_,rfl,.inl (.inl e),rr⟩
 |scr a=>
  cases h;obtain⟨_,_,rfl,e,rr⟩:=r.inv;exact⟨_,_,rfl,e.sq hK,rr⟩
 |_=>cases h
def yU(hK:KFrag.K=X.K):OpR X (ef .Add) (r2 aKv ag):=by
 intro Ψ s σ H x y v u Q I rx ry ⟨a,b,d,p,q,e,k⟩;unfold aKv at e;split at e
 .rename_i xa xb ha hb;split at e
  .rename_i hl;cases e;rw[ba,ba] at hl;obtain⟨⟨hl,hp1⟩,hp2⟩:=hl;obtain⟨l1,xs1,rfl,sq1,rr1⟩:=aC7 hK ha p;obtain⟨l2,xs2,rfl,sq2,rr2⟩:=aC7 hK hb q;cases rx;cases ry;obtain⟨its,vr1,⟨o1,n1,e1,c1,d1,t1⟩,_⟩:=I.list sq1;obtain⟨its2,vr2,⟨o2,n2,e2,c2,d2,t2⟩,_⟩:=I.list sq2;obtain⟨oc1,od1,ot1,os1⟩:=o1;obtain⟨oc2,od2,ot2,os2⟩:=o2;dsimp only at c1 d1 t1 c2 d2 t2;subst c1 d1 t1 c2 d2 t2;have hz:xs1.length+xs2.length<=bd:=by rw[rr1.length,rr2.length];exact j9 hl
   have z1:=vr1.length;have z2:=vr2.length;have ea:its.toArray++its2.toArray=(its++its2).toArray:=by simp
   refine sQ ⟨_,e1,rfl⟩ ⟨_,e2,rfl⟩ noFill_list_add seq_list_add PySem.F.slot_list_add PySem.F.entry_list_add (PySem.F.args_list_add_2 _ _) (list_addW l1 l2 its.toArray its2.toArray n1 n2 ai ai os1 os2 (by rw[b5,b5];lia)) ⟨e1,e2,?_⟩;rw[ea];refine⟨.ref _,_,I.aR1 (vr1.append vr2) (by rw[b6];lia),rfl,?_⟩;have sp:bK H (upd H s.heap.objs.size (.lst (xs1++xs2))):=bK.upd I.fresh;exact k _ _ sp (.lst aF trivial ((rr1.append rr2).same sp)) λ_=>.lst aF I.fresh (((rr1.bQ hp1).append (rr2.bQ hp2)).same sp)
  .exact bx e
 .exact bx e
end
end
def aPd(f:FE):FI:=λρ=>do
 let d <- f ρ
 match d with
 |.scr xs=>if δ xs then .ok (xs,ag) else .bad
 |_=>.bad
section
variable [KFrag]
section
variable {X:Cx} {e:Expr} {f:FE}
def aPe(hK:KFrag.K=X.K)(hl:PE X l (gE f rl)):PI X tg l (gI X.K (aPd f)):=by
 intro Ψ s σ H R I ⟨ρ,items,k,E,h,q⟩;obtain⟨d,h1,h⟩:=bA h;split at h
 .rename_i its;split at h
  .rename_i hpu;cases h;refine thn (hl Ψ s σ H (λv H1=>bK H H1/\Rep All H1 v (.scr items)) I ⟨ρ,_,E,h1,λv H1 s1 r1 _=>⟨s1,r1⟩⟩) λu s1 ⟨v,H1,I1,ru,sm,r1⟩=>?_
   obtain⟨a,xs,rfl,ee,rr⟩:=r1.inv;cases ru;obtain⟨its,rv,p,hz⟩:=I1.list (ee.sq hK);refine jc p.isList ?_;refine⟨s1.heap.objs.size,[s1.heap.objs.size],_,_,H1,rfl,I1.kept λb o e=>bS _ e,JW a _,⟨_,cu _ rfl,rfl,rfl⟩,λb hb=>?_,q _ H1 sm (.scr a hK rfl r1) λ_=>.scr a hK rfl (r1.bQ ?_)⟩
   .have e:b=s1.heap.objs.size:=by simpa using hb
    subst e;exact I1.aDu (bo _) (I1.hok.fresh (bo _))
   .exact hpu
  .exact bx h
 .exact bx h
end
end
open PySem.W
def RK:D->ae D->Res D
 |.str sep,[.scr ds]=>match l_ ds with
  |some ts=>if fj sep ts then .ok (.str (cj sep ts)) else .bad
  |none=>.bad
 |_,_=>.bad
variable [KFrag]
def aFw(hK:KFrag.K=X.K):MtR X "str.join" (rm RK ag):=by
 rintro Ψ s σ H x xs v us Q I rv vr ⟨a,ds,d,ra,rs,h,k⟩;unfold RK at h;split at h
 .split at h
  .rename_i ts hts;split at h
   .rename_i hok;cases h;obtain⟨vv,uu,rfl,rfl,r,rk⟩:=fW rs vr;obtain⟨l,ys,rfl,hl,rr⟩:=oR hK r;cases rk;cases ra.inv;obtain⟨t,rfl⟩:=rv;obtain⟨its,vr',pl⟩:=d8 I hl;obtain⟨l2,e1,e2⟩:=wG rr vr' hts;subst e1;exact SC.join pl e2 hok λt' k2=>⟨.str _,H,I.tok k2,⟨t',rfl⟩,k.str⟩
   .exact bx h
  .exact bx h
 .exact bx h
def aFx{X:Cx}(h:RK d ds=.ok r)(rp:Rep All H v d):tyV X.K "str" v H:=by
 have:∃z,d=.str z:=by
  unfold RK at h;split at h
  .exact⟨_,rfl⟩
  .exact bx h
 obtain⟨z,rfl⟩:=this;cases rp.inv;rfl
end Mi
namespace Mi
open PySem L2 PySem.SeqAt PySem.Spec PyProof.Rows
def aKw:ae D->Res D
 |[.dct kvs]=>if kvs.all (λp=>!isTup p.1)&&δ (kvs.map (·.2)) then .ok (.dct kvs) else .bad
 |_=>.bad
section
variable [KFrag]
section
variable {X:Cx} {Ψ:ae (am×bc)} {σ:L2.St} {H:Hp} {s:ar}
def aPf(I:Inv X Ψ σ H s){x:V}{ds:ae (D×D)}(r:Rep All H x (.dct ds))(ht:∀p∈ds,isTup p.1=aj):∃(a:am)(kvs:ae (Key×V))(vs:ae (Key×al)),x=.ref a/\(a==gj)=aj/\e_ All H kvs ds/\KV kvs vs/\s.heap.DictOf (b7 X.prog X.w) a vs/\kvs.length<=bd/\(kvs.map (·.1)).Nodup:=by
 cases r with
 |@dK a k _ e _ r n=>
  obtain⟨z,sm,v,rel,dd⟩:=PX I.hok e;exact⟨a,k,v,rfl,sm,r,rel,dd,z,n⟩
 |@dT a k _ e _ r n=>
  cases r with
  |cons r t=>exact aS (ht _ (bE ..)) (by simp[isTup])
  |nil=>
   obtain⟨_,sm,xs,pr,o,es,ep,ho,hx,hd,he,_⟩:=I.hok a _ e;cases pr;obtain rfl:es=#[]:=by simpa using he
   exact⟨a,[],[],rfl,sm,.nil,.nil,⟨o,#[],ep,ho,hx,hd,λe he=>aS he 0x2,by constructor,by simp⟩,by simp,by simp⟩
def aFy:nC X (.type "dict") (rs aKw ag):=by
 intro Ψ s σ H xs us Q I vr ⟨ds,d,r,e,k⟩;unfold aKw at e;split at e
 .rename_i kvs;split at e
  .rename_i hl;rw[ba] at hl;cases e;obtain⟨vv,uu,rfl,rfl,r,v⟩:=fW r vr;have ht:∀p∈kvs,isTup p.1=aj:=λp hp=>by simpa using gf.mp hl.1 p hp
   obtain⟨a,kv,vs,rfl,sm,rk,rel,dd,z,n⟩:=aPf I r ht;cases v;refine kt_call_dict sm dd (by rw[<-rel.length];exact z) λh' dd' hs=>?_
   have hp:H s.heap.objs.size=ai:=I.hok.fresh (bo _);have I':=I.laid (a:=s.heap.objs.size) (o:=.dK kv) (h':=h') (t':=s.toks) (λb q hq=>(hs.2 b (cg (bw hq))).trans (bS _ hq)) (bo _) (CG z (fq.mpr (Ne.symm (cg I.big))) rel dd');have sp:bK H (upd H s.heap.objs.size (.dK kv)):=bK.upd hp;have ku:∀{P:am->Prop},e_ P (upd H s.heap.objs.size (.dK kv)) kv _:=λ{P}=>(e_.bQ rk hl.2).keep (.same sp) λ_ h=>h
   exact⟨.ref _,_,I',rfl,k _ _ sp (.dK aF trivial ku n) λ_=>.dK aF hp ku n⟩
  .exact bx e
 .exact bx e
end
end
noncomputable def n_(o:zZ):D->D->Res D
 |.int a,.int b=>.ok (.bl (o.int a b))
 |.str a,.str b=>.ok (.bl (o.str a b))
 |_,_=>.bad
section
variable [KFrag]
def aPg{X:Cx}{op:nt}{o:zZ}(hi:∀(prog:bu) (w:bn) (A:bP) (E:al->ar->Prop) (Q:al->ar->Prop) (s:ar) (i j:ak) (t t':cz),Q (.bool (o.int i j)) s->ϑ (ay prog w) A (c6 op (.int i t) (.int j t')) Q E s)
 (hs:∀(prog:bu) (w:bn) (A:bP) (E:al->ar->Prop) (Q:al->ar->Prop) (s:ar) (i j:Str) (t t':cz),Q (.bool (o.str i j)) s->ϑ (ay prog w) A (c6 op (.str i t) (.str j t')) Q E s):OpR X (c6 op) (r2 (n_ o) ag):=by
 intro Ψ s σ H x y v u Q I rx ry ⟨a,b,d,p,q,e,k⟩;unfold n_ at e;split at e
 .cases e;cases p.inv;cases q.inv;obtain⟨t,rfl⟩:=rx;obtain⟨t',rfl⟩:=ry;exact hi _ _ _ _ _ _ _ _ _ _ ⟨.bl _,H,I,rfl,k.bl⟩
 .cases e;cases p.inv;cases q.inv;obtain⟨t,rfl⟩:=rx;obtain⟨t',rfl⟩:=ry;exact hs _ _ _ _ _ _ _ _ _ _ ⟨.bl _,H,I,rfl,k.bl⟩
 .exact bx e
def vX{X:Cx}:OpR X (c6 .LtE) (r2 (n_ .le) ag):=aPg (λ_ _ _ _ _ _ _ _ _ _ h=>le_int h) λ_ _ _ _ _ _ _ _ _ _ h=>PySem.P.le_str h
def aKx{X:Cx}:OpR X (c6 .Gt) (r2 (n_ .gt) ag):=aPg (λ_ _ _ _ _ _ _ _ _ _ h=>gt_int h) λ_ _ _ _ _ _ _ _ _ _ h=>PySem.P.gt_str h
end
noncomputable def max2:ae D->Res D
 |[.int a,.int b]=>.ok (.int (if b > a then b else a))
 |_=>.bad
section
variable [KFrag]
def aKy{X:Cx}(hc:X.calm=ag):nC X (.builtin "max") (rs max2 aj):=by
 rintro Ψ s σ H xs us Q I vr ⟨ds,d,r,e,k⟩;unfold max2 at e;split at e
 .cases e;cases r with
  |cons r t=>
   cases r.inv;cases t with
   |cons r t=>
    cases r.inv;cases t;cases vr with
    |cons v vt=>
     obtain⟨t1,rfl⟩:=v;cases vt with
     |cons v vt=>
      obtain⟨t2,rfl⟩:=v;cases vt;refine max_two_ints (I.ok.hd hc) λh' tk hk=>⟨_,H,I.kept hk,?_,k.int⟩
      split
      .exact⟨_,rfl⟩
      .exact⟨_,rfl⟩
 .exact bx e
end
def aTx:D->D->D->D->Res D
 |.str a,.bl i,.str b,.bl j=>.ok (.dct (putD [(.str a,.bl i)] (.str b) (.bl j)))
 |_,_,_,_=>.bad
def aHx(k v l w:FE):FE:=λρ=>do
 let k <- k ρ
 let v <- v ρ
 let l <- l ρ
 let w <- w ρ
 aTx k v l w
section
variable [KFrag]
section
variable {X:Cx} {pos:cm}
def aKz{k1 k2 v1 v2:Expr}{g1 g2 h1 h2:FE}{r1 r2 r3 r4:aw}(hk1:PE X k1 (gE g1 r1))(hv1:PE X v1 (gE h1 r2))(hk2:PE X k2 (gE g2 r3))(hv2:PE X v2 (gE h2 r4)):PE X (.Dict [aa k1,aa k2] [v1,v2] pos) (gE (aHx g1 h1 g2 h2) ag):=
 PE.imp (aAe (mO hk1 hv1 (mO hk2 hv2 aAd)) rfl rfl 0x2 (C9 rfl)) λσ H Q ⟨ρ,d,E,h,q⟩=>by
 obtain⟨a1,e1,hA⟩:=bA h;obtain⟨a2,e2,hB⟩:=bA hA;obtain⟨a3,e3,hC⟩:=bA hB;obtain⟨a4,e4,hD⟩:=bA hC;clear h hA hB hC;unfold aTx at hD;split at hD
 .rename_i x i y j;cases hD;intro p hp;have s0:bK H (upd H p (.dK [])):=bK.upd hp;refine⟨ρ,_,E.same s0,e1,λw1 H1 s1 q1 _=>?_⟩;cases q1.inv;refine⟨ρ,_,(E.same s0).same s1,e2,λw2 H2 s2 q2 _=>?_⟩;cases q2.inv;refine⟨ρ,_,((E.same s0).same s1).same s2,e3,λw3 H3 s3 q3 _=>?_⟩;cases q3.inv;refine⟨ρ,_,(((E.same s0).same s1).same s2).same s3,e4,λw4 H4 s4 q4 _=>?_⟩;cases q4.inv;have sm:bK (upd H p (.dK [])) H4:=((s1.trans s2).trans s3).trans s4;refine⟨sm _ _ aF,[(.inr x,.bl i),(.inr y,.bl j)],rfl,C9 rfl,?_⟩;have sf:bK H (upd H4 p (.dK (cX [] [(dP x,V.bl i),(dP y,V.bl j)]))):=λb o e=>by
   rw[aM (bF e hp)];exact sm b o (s0 b o e)
  have rk:∀P:am->Prop,e_ P (upd H4 p (.dK (cX [] [(dP x,V.bl i),(dP y,V.bl j)]))) (putK [(dP x,V.bl i)] (dP y) (V.bl j)) (putD [(.str x,.bl i)] (.str y) (.bl j)):=λP=>wC (k:=.inr y) (.bl j) (.cons (k:=.inr x) (.bl i) .nil) 0x2
  have nd:((putK [(dP x,V.bl i)] (dP y:Key) (V.bl j)).map (·.1)).Nodup:=iB 0x2;exact q _ _ sf (.dK aF trivial (rk All) nd) λ_=>.dK aF hp (rk _) nd
 .exact bx hD
end
end
def aFz(d k e:D):Res D:=
 match d,k with
 |.lst xs,.int j=>match (ixD xs.length j).bind λn=>(xs[n]?).map λy=>(n,y) with
  |some (n,.lst ys)=>if ϒ (ys.length<lim)&&e.pure then .ok (.lst (xs.set n (.lst (ys++[e])))) else .bad
  |_=>.bad
 |.dct kvs,k=>if dZ k then (match bH kvs k with
  |some (.lst ys)=>if ϒ (ys.length<lim)&&e.pure then .ok (.dct (putD kvs k (.lst (ys++[e])))) else .bad
  |_=>.bad) else .bad
 |_,_=>.bad
def aC8(i:ah)(fk fe:FE):FS:=λρ=>do
 let d <- eZ i ρ
 let k <- fk ρ
 let e <- fe ρ
 let r <- aFz d k e
 .ok (.nx (ρ.set i r))
noncomputable def aTy(i:ah)(d:D):FS:=λρ=>.ok (.nx (ρ.set i d))
noncomputable def aTz(ks:ae Str):D:=.dct (ks.map λk=>(.str k,.lst []))
section
variable [KFrag]
noncomputable abbrev Cel:=ah->au (am×ae am)
def wK(c:Cel)(a:am):Prop:=∃i b as,c i=aa (b,as)/\a∈b::as
inductive InL(H:Hp):ae V->ae D->ae am->Prop
 |nil:InL H [] [] []
 |cons {a:am} {vs:ae V} {ds:ae D} {r:ae V} {es:ae D} {as:ae am}:H a=aa (.lst vs)->bJ All H vs ds->δ ds=ag->InL H r es as->InL H (.ref a::r) (.lst ds::es) (a::as)
inductive InK(H:Hp):ae (Key×V)->ae (D×D)->ae am->Prop
 |nil:InK H [] [] []
 |cons {k:Key} {a:am} {vs:ae V} {ds:ae D} {r:ae (Key×V)} {es:ae (D×D)} {as:ae am}:H a=aa (.lst vs)->bJ All H vs ds->δ ds=ag->InK H r es as->InK H ((k,.ref a)::r) ((kD k,.lst ds)::es) (a::as)
inductive InA(H:Hp)(as:ae am):ae V->ae D->Prop
 |nil:InA H as [] []
 |cons {a:am} {vs:ae V} {ds:ae D} {r:ae V} {es:ae D}:a∈as->H a=aa (.lst vs)->bJ All H vs ds->δ ds=ag->InA H as r es->InA H as (.ref a::r) (.lst ds::es)
noncomputable def aPh:HO->aw
 |.lst _=>ag
 |.dK _=>ag
 |_=>aj
def aC9(h:aPh o=ag):xT o=ag:=by cases o<;>first|rfl|cases h
inductive LQ(q:aw)(H:Hp)(b:am)(as:ae am):D->Prop
 |lst {vs:ae V} {ds:ae D}:H b=aa (.lst vs)->InL H vs ds as->LQ q H b as (.lst ds)
 |dct {kvs:ae (Key×V)} {ds:ae (D×D)}:H b=aa (.dK kvs)->InK H kvs ds as->(kvs.map (·.1)).Nodup->LQ q H b as (.dct ds)
 |pln {d:D} {o:HO}:as=[]->H b=aa o->aPh o=ag->Rep All H (.ref b) d->inner d=ag->LQ q H b as d
 |any {vs:ae V} {ds:ae D}:q=ag->H b=aa (.lst vs)->InA H as vs ds->(∀a∈as,∃ws,H a=aa (.lst ws))->LQ q H b as (.lst ds)
section
def InL.reps(h:InL H vs ds as):bJ All H vs ds:=by
 induction h with
 |nil=>exact .nil
 |cons e r p t ih=>exact .cons (.lst e trivial r) ih
def InK.reps(h:InK H kvs es as):e_ All H kvs es:=by
 induction h with
 |nil=>exact .nil
 |cons e r p t ih=>exact .cons (.lst e trivial r) ih
def InL.same(h:InL H vs ds as)(s:bK H H'):InL H' vs ds as:=by
 induction h with
 |nil=>exact .nil
 |cons e r p t ih=>exact .cons (s _ _ e) (r.same s) p ih
def InK.same(h:InK H kvs es as)(s:bK H H'):InK H' kvs es as:=by
 induction h with
 |nil=>exact .nil
 |cons e r p t ih=>exact .cons (s _ _ e) (r.same s) p ih
def InL.live(h:InL H vs ds as):∀a∈as,∃ws,H a=aa (.lst ws):=by
 induction h with
 |nil=>intro a ha;cases ha
 |cons e r p t ih=>
  intro a ha;rcases bq.mp ha with rfl|ha
  .exact⟨_,e⟩
  .exact ih a ha
def InK.live(h:InK H kvs es as):∀a∈as,∃ws,H a=aa (.lst ws):=by
 induction h with
 |nil=>intro a ha;cases ha
 |cons e r p t ih=>
  intro a ha;rcases bq.mp ha with rfl|ha
  .exact⟨_,e⟩
  .exact ih a ha
def InL.upd(h:InL H vs ds as)(hx:x∉as)(hu:H x=aa u)(hm:xT u=ag):InL (upd H x o) vs ds as:=by
 induction h with
 |nil=>exact .nil
 |cons e r p t ih=>
  rw[bq,fE] at hx;exact .cons (by rw[aM (Ne.symm hx.1)];exact e) (r.upd p hu hm) p (ih hx.2)
def InK.upd(h:InK H kvs es as)(hx:x∉as)(hu:H x=aa u)(hm:xT u=ag):InK (upd H x o) kvs es as:=by
 induction h with
 |nil=>exact .nil
 |cons e r p t ih=>
  rw[bq,fE] at hx;exact .cons (by rw[aM (Ne.symm hx.1)];exact e) (r.upd p hu hm) p (ih hx.2)
def aG0{n:ah}(h:δ ds=ag)(hn:ds[n]?=aa y):y.pure=ag:=by
 induction ds generalizing n with
 |nil=>simp at hn
 |cons d ds ih=>
  rw[δ,ba] at h;cases n with
  |zero=>simp at hn;subst hn;exact h.1
  |succ n=>exact ih h.2 (by simpa using hn)
def kY(h:δ ds=ag)(hd:d.pure=ag):δ (ds++[d])=ag:=by
 rw[fX];simp only[ba];exact⟨h,by simp[δ,hd]⟩
def aCa{kvs:ae (D×D)}(h:δ (kvs.map (·.2))=ag)(hl:bH kvs k=aa y):y.pure=ag:=by
 induction kvs with
 |nil=>cases hl
 |cons p r ih=>
  rw[bh,δ,ba] at h;rw[bH] at hl;split at hl
  .cases hl;exact h.1
  .exact ih h.2 hl
def InL.at_(h:InL H vs ds as)(hn:ds[n]?=aa y)(nd:as.Nodup):∃a ws ys,y=.lst ys/\vs[n]?=aa (.ref a)/\a∈as/\H a=aa (.lst ws)/\bJ All H ws ys/\
  ∀(H':Hp)(v:V)(e:D),bK H H'->Rep All H' v e->e.pure=ag->InL (L2.upd H' a (.lst (ws++[v]))) vs (ds.set n (.lst (ys++[e]))) as:=by
 induction h generalizing n with
 |nil=>simp at hn
 |@cons a ws ys r es as e rr p t ih=>
  rw[eg] at nd;cases n with
  |zero=>
   simp only[List.getElem?_cons_zero,mT] at hn;subst hn;refine⟨a,ws,ys,rfl,rfl,bE ..,e,rr,λH' v d sm rv hd=>?_⟩;exact .cons aF (((rr.same sm).snoc rv).upd (kY p hd) (sm _ _ e) rfl) (kY p hd) ((t.same sm).upd nd.1 (sm _ _ e) rfl)
  |succ n=>
   rw[Da] at hn;obtain⟨a',ws',ys',h1,h2,h3,h4,h5,h6⟩:=ih hn nd.2;refine⟨a',ws',ys',h1,by rw[Da];exact h2,bX _ h3,h4,h5,λH' v d sm rv hd=>?_⟩;have hne:a≠a':=λz=>by subst z;exact nd.1 h3
   exact .cons (by rw[aM hne];exact sm _ _ e) ((rr.same sm).upd p (sm _ _ h4) rfl) p (h6 H' v d sm rv hd)
def InK.at_(h:InK H kvs es as)(hn:bH es (kD k)=aa y)(nd:as.Nodup):∃a ws ys,y=.lst ys/\vP kvs k=aa (.ref a)/\a∈as/\H a=aa (.lst ws)/\bJ All H ws ys/\
  ∀(H':Hp)(v:V)(e:D),bK H H'->Rep All H' v e->e.pure=ag->InK (L2.upd H' a (.lst (ws++[v]))) kvs (putD es (kD k) (.lst (ys++[e]))) as:=by
 induction h with
 |nil=>cases hn
 |@cons q a ws ys r es as e rr p t ih=>
  rw[eg] at nd;rw[bH,J_] at hn;by_cases hq:q=k
  .subst hq;rw[bj rfl,aq rfl] at hn;cases hn;refine⟨a,ws,ys,rfl,?_,bE ..,e,rr,λH' v d sm rv hd=>?_⟩
   .simp[vP]
   .rw[putD,J_,bj rfl,aq rfl];exact .cons aF (((rr.same sm).snoc rv).upd (kY p hd) (sm _ _ e) rfl) (kY p hd) ((t.same sm).upd nd.1 (sm _ _ e) rfl)
  .rw[cq hq,ax 0x2] at hn;obtain⟨a',ws',ys',h1,h2,h3,h4,h5,h6⟩:=ih hn nd.2;have hne:a≠a':=λz=>by subst z;exact nd.1 h3
   refine⟨a',ws',ys',h1,?_,bX _ h3,h4,h5,λH' v d sm rv hd=>?_⟩
   .rw[<-h2];simp[vP,hq]
   .rw[putD,J_,cq hq,ax 0x2];exact .cons (by rw[aM hne];exact sm _ _ e) ((rr.same sm).upd p (sm _ _ h4) rfl) p (h6 H' v d sm rv hd)
def InA.reps(h:InA H as vs ds):bJ All H vs ds:=by
 induction h with
 |nil=>exact .nil
 |cons m e r p t ih=>exact .cons (.lst e trivial r) ih
def InA.same(h:InA H as vs ds)(s:bK H H'):InA H' as vs ds:=by
 induction h with
 |nil=>exact .nil
 |cons m e r p t ih=>exact .cons m (s _ _ e) (r.same s) p ih
def InA.upd(h:InA H as vs ds)(hx:x∉as)(hu:H x=aa u)(hm:xT u=ag):InA (upd H x o) as vs ds:=by
 induction h with
 |nil=>exact .nil
 |cons m e r p t ih=>exact .cons m (by rw[aM (λz=>hx (by rw[<-z];exact m))];exact e) (r.upd p hu hm) p ih
def Rep.aUw(r:Rep All H (.ref b) d)(hi:inner d=ag)(hx:x≠b)(hu:H x=aa u)(hm:xT u=ag):Rep All (L2.upd H x o) (.ref b) d:=by
 refine(r.aR6 (P':=λc=>c=b) hi rfl).keep (λc oc hc hp=>?_) λ_ _=>trivial
 rw[aM]
 .exact hc
 .intro z;subst z;rcases hp with hp|hp
  .exact hx hp
  .rw[hu] at hc;cases hc;rw[hm] at hp;cases hp
def LQ.rep(h:LQ qb H b as d):Rep All H (.ref b) d:=by
 cases h with
 |lst e i=>exact .lst e trivial i.reps
 |dct e i n=>exact .dK e trivial i.reps n
 |pln z e m r p=>exact r
 |any z e i l=>exact .lst e trivial i.reps
def LQ.same(h:LQ qb H b as d)(s:bK H H'):LQ qb H' b as d:=by
 cases h with
 |lst e i=>exact .lst (s _ _ e) (i.same s)
 |dct e i n=>exact .dct (s _ _ e) (i.same s) n
 |pln z e m r p=>exact .pln z (s _ _ e) m (r.same s) p
 |any z e i l=>exact .any z (s _ _ e) (i.same s) λa ha=>let ⟨ws,h⟩:=l a ha;⟨ws,s _ _ h⟩
def LQ.live(h:LQ qb H b as d):∀a∈b::as,∃o,H a=aa o/\xT o=ag:=by
 intro a ha;cases h with
 |lst e i=>
  rcases bq.mp ha with rfl|ha
  .exact⟨_,e,rfl⟩
  .obtain⟨ws,h⟩:=i.live a ha;exact⟨_,h,rfl⟩
 |dct e i n=>
  rcases bq.mp ha with rfl|ha
  .exact⟨_,e,rfl⟩
  .obtain⟨ws,h⟩:=i.live a ha;exact⟨_,h,rfl⟩
 |pln z e m r p=>
  subst z;rw[ja.mp ha];exact⟨_,e,aC9 m⟩
 |any z e i l=>
  rcases bq.mp ha with rfl|ha
  .exact⟨_,e,rfl⟩
  .obtain⟨ws,h⟩:=l a ha;exact⟨_,h,rfl⟩
def LQ.upd(h:LQ qb H b as d)(hx:x∉b::as)(hu:H x=aa u)(hm:xT u=ag):LQ qb (L2.upd H x o) b as d:=by
 rw[bq,fE] at hx;cases h with
 |lst e i=>exact .lst (by rw[aM (Ne.symm hx.1)];exact e) (i.upd hx.2 hu hm)
 |dct e i n=>exact .dct (by rw[aM (Ne.symm hx.1)];exact e) (i.upd hx.2 hu hm) n
 |pln z e m r p=>exact .pln z (by rw[aM (Ne.symm hx.1)];exact e) m (r.aUw p hx.1 hu hm) p
 |any z e i l=>exact .any z (by rw[aM (Ne.symm hx.1)];exact e) (i.upd hx.2 hu hm) λa ha=>let ⟨ws,h⟩:=l a ha;⟨ws,by rw[aM (λz=>hx.2 (by rw[<-z];exact ha))];exact h⟩
end
structure NQ(S:ah->aw)(c:Cel)(H:Hp)(σ:L2.St)(ρ:ae D):Prop where
 len:σ.length=ρ.length
 dom:∀i p,c i=aa p->S i=ag
 nd:∀i b as,c i=aa (b,as)->(b::as).Nodup
 dj:∀i j b as b' as',i≠j->c i=aa (b,as)->c j=aa (b',as')->∀a∈b::as,a∉b'::as'
 at_:∀i,ρ.getD i .uD≠.uD->∃v,σ[i]?=aa (aa v)/\(S i=aj->Rep (λa=>¬wK c a) H v (ρ.getD i .uD))
 nst:∀i b as,c i=aa (b,as)->σ[i]?=aa (aa (.ref b))/\LQ (S (i+1000)) H b as (ρ.getD i .uD)
 all:∀i,S i=ag->ρ.getD i .uD≠.uD->∃p,c i=aa p
variable {S:ah->aw}
def NQ.er(E:NQ S c H σ ρ):ER H σ ρ:=λi hi=>by
 obtain⟨v,h1,h2⟩:=E.at_ i hi;cases ho:S i with
 |false=>exact⟨v,h1,(h2 ho).all⟩
 |true=>
  obtain⟨⟨b,as⟩,hp⟩:=E.all i ho hi;obtain⟨h3,h4⟩:=E.nst i b as hp;exact⟨_,h3,h4.rep⟩
def NQ.live(E:NQ S c H σ ρ)(h:wK c a):∃o,H a=aa o/\xT o=ag:=by
 obtain⟨i,b,as,hc,ha⟩:=h;exact(E.nst i b as hc).2.live a ha
def NQ.same(E:NQ S c H σ ρ)(s:bK H H'):NQ S c H' σ ρ:=
 ⟨E.len,E.dom,E.nd,E.dj,λi hi=>let ⟨v,h1,h2⟩:=E.at_ i hi;⟨v,h1,λho=>(h2 ho).same s⟩,λi b as hc=>let ⟨h1,h2⟩:=E.nst i b as hc;⟨h1,h2.same s⟩,E.all⟩
def KC(c:Cel)(H:Hp)(c':Cel)(H':Hp):Prop:=∀a o,H a=aa o->¬wK c a->H' a=aa o/\¬wK c' a
def KC.trans(a:KC c H c1 H1)(b:KC c1 H1 c2 H2):KC c H c2 H2:=λx o e n=>let ⟨e1,n1⟩:=a x o e n;b x o e1 n1
def KC.same(s:bK H H'):KC c H c H':=λa o e n=>⟨s a o e,n⟩
def KC.keep(k:KC c H c' H')(E:NQ S c H σ ρ):z6 (λa=>¬wK c a) H H':=λa o h hp=>by
 by_cases ho:wK c a
 .obtain⟨o',g1,g2⟩:=E.live ho;rw[h] at g1;cases g1;rcases hp with hp|hp
  .exact aS ho hp
  .rw[g2] at hp;cases hp
 .exact(k a o h ho).1
def KC.rep(k:KC c H c' H')(E:NQ S c H σ ρ)(r:Rep (λa=>¬wK c a) H v d):Rep (λa=>¬wK c' a) H' v d:=r.QH (k.keep E) λa o e n=>(k a o e n).2
def kN(S:ah->aw)(D:Ends)(c:Cel)(H:Hp):Fl->Prop
 |.nx ρ=>∀c' σ' H',KC c H c' H'->NQ S c' H' σ' ρ->D.nx σ' H'
 |.bk ρ=>∀c' σ' H',KC c H c' H'->NQ S c' H' σ' ρ->D.bk σ' H'
 |.ct ρ=>∀c' σ' H',KC c H c' H'->NQ S c' H' σ' ρ->D.ct σ' H'
 |.rt d=>∀v H',(∀a o,H a=aa o->¬wK c a->H' a=aa o)->Rep (λa=>wK c a\/H a=ai) H' v d->D.rt v H'
def kN.step{D:Ends}(k:KC c H c' H')(h:kN S D c H fl):kN S D c' H' fl:=by
 cases fl with
 |nx ρ=>exact λc2 σ2 H2 k2 e=>h c2 σ2 H2 (k.trans k2) e
 |bk ρ=>exact λc2 σ2 H2 k2 e=>h c2 σ2 H2 (k.trans k2) e
 |ct ρ=>exact λc2 σ2 H2 k2 e=>h c2 σ2 H2 (k.trans k2) e
 |rt d=>
  refine λv H2 hk r=>h v H2 (λa o e n=>let ⟨e1,n1⟩:=k a o e n;hk a o e1 n1) (r.mono λa ha=>?_)
  cases q:H a with
  |none=>exact .inr rfl
  |some o=>
   refine .inl (B7 λn=>?_);obtain⟨e1,n1⟩:=k a o q n;rcases ha with ha|ha
   .exact n1 ha
   .rw[e1] at ha;cases ha
noncomputable def tN(S:ah->aw)(f:FS):TS:=λD σ H=>∃c ρ fl,NQ S c H σ ρ/\f ρ=.ok fl/\kN S D c H fl
structure QS(X:Cx)(st:bp)(t:TS):Prop where
 out:PS X st t
structure QSs(X:Cx)(st:ae bp)(t:TS):Prop where
 out:PSs X st t
section
variable {X:Cx} {a b c e:Expr} {pos pos':cm} {fe:FE} {re:aw} {gc:FT} {f g:FS} {st:bp} {rest s1 s2:ae bp}
def aCb:QSs X [] (tN S jT):=QSs.mk <| PSs.imp uH λD σ H ⟨c,ρ,fl,E,h,q⟩=>by
 cases h;exact q c σ H (λa o e n=>⟨e,n⟩) E
def sG(h1:QS X st (tN S f))(h2:QSs X rest (tN S g)):QSs X (st::rest) (tN S (bU f g)):=QSs.mk <| PSs.imp (bO h1.out h2.out) λD σ H ⟨c,ρ,fl,E,h,q⟩=>by
 obtain⟨r,h1,h2⟩:=bA h;refine⟨c,ρ,r,E,h1,?_⟩;cases r with
 |nx ρ'=>exact λc' σ' H' k E'=>⟨c',ρ',fl,E',h2,q.step k⟩
 |bk ρ'=>cases h2;exact q
 |ct ρ'=>cases h2;exact q
 |rt d=>cases h2;exact q
def HJ(h1:QS X st (tN S f)):QSs X [st] (tN S f):=⟨dD h1.out⟩
def aPi:QS X st (tN S vU):=QS.mk λΨ s σ H D I h=>by
 obtain⟨_,_,_,_,h,_⟩:=h;cases h
def aPj(hc:PT X c (gT gc))(ha:QSs X s1 (tN S f))(hb:QSs X s2 (tN S g)):QS X (.If c s1 s2 pos) (tN S (sIf gc f g)):=QS.mk <| PS.imp (DW hc ha.out hb.out) λD σ H ⟨c',ρ,fl,E,h,q⟩=>by
 obtain⟨k,h1,h2⟩:=bA h;refine⟨ρ,k,E.er,h1,λH' s=>?_⟩;cases k with
 |true=>rw[aq rfl];rw[aq rfl] at h2;exact⟨c',ρ,fl,E.same s,h2,q.step (.same s)⟩
 |false=>rw[ax 0x2];rw[ax 0x2] at h2;exact⟨c',ρ,fl,E.same s,h2,q.step (.same s)⟩
def aPk(he:PE X e (gE fe re)):QS X (.Return (aa e) pos) (tN S (lY fe re)):=QS.mk <| PS.imp (BR he) λD σ H ⟨c,ρ,fl,E,h,q⟩=>by
 obtain⟨d,h1,h2⟩:=bA h;split at h2
 .rename_i hk;cases h2;refine⟨ρ,d,E.er,h1,λv H' s r n=>q v H' (λa o e _=>s a o e) ?_⟩;rw[f_] at hk;rcases hk with hk|hk
  .exact(n hk).mono λa ha=>.inr ha
  .exact r.bQ hk
 .cases h2
def NQ.set{c:Cel}(E:NQ S c H σ ρ)(ho:S i=aj)(r:Rep (λa=>¬wK c a) H v d):NQ S c H (σ.set i (aa v)) (ρ.set i d):=by
 have hne:∀j,S j=ag->i≠j:=λj hj z=>by subst z;rw[ho] at hj;cases hj
 refine⟨by simp[E.len],E.dom,E.nd,E.dj,λj hj=>?_,λj b as hc=>?_,λj hj hd=>?_⟩
 .rw[cN] at hj ⊢;by_cases h:i=j/\i<ρ.length
  .rw[aq h];obtain⟨rfl,hl⟩:=h;exact⟨v,by rw[gx (by rw[E.len];exact hl)],λ_=>r⟩
  .rw[ax h] at hj ⊢;obtain⟨w,h1,h2⟩:=E.at_ j hj;by_cases hij:i=j
   .subst hij;have:i<σ.length:=(dq.mp h1).1;rw[E.len] at this;exact aS ⟨rfl,this⟩ h
   .exact⟨w,by rw[eB hij];exact h1,h2⟩
 .have hij:=hne j (E.dom j _ hc);rw[cN,ax λz=>hij z.1,eB hij];exact E.nst j b as hc
 .have hij:=hne j hj;rw[cN,ax λz=>hij z.1] at hd;exact E.all j hj hd
def aHy(ho:S i=aj)(hN:X.N.Nodup)(hi:X.N[i]?=aa x)(hx:Loc X.env.scope x)(he:PE X e (gE fe re))(hs:zSw X e x pos' pos:=by rfl)(hf:zFn X x:=by first|exact .inl rfl|exact .inr rfl|assumption) :
  QS X (.Assign [.Name x pos'] e pos) (tN S (cZ aj i fe re)):=QS.mk <| PS.imp (BV hN hi hx he hs hf) λD σ H ⟨c,ρ,fl,E,h,q⟩=>by
 obtain⟨d,h1,h2⟩:=bA h;simp only[fT,dw] at h2;split at h2
 .rename_i hk;cases h2;refine⟨ρ,d,E.er,h1,λv H' s r n=>?_⟩;rw[f_] at hk;have r2:Rep (λa=>¬wK c a) H' v d:=by
   rcases hk with hk|hk
   .refine(n hk).mono λa ha ho=>?_
    obtain⟨o,h1,_⟩:=E.live ho;rw[show H a=ai from ha] at h1;cases h1
   .exact r.bQ hk
  exact q c _ H' (.same s) ((E.same s).set ho r2)
 .cases h2
def NQ.app{c:Cel}{H:Hp}{σ:L2.St}{ρ:ae D}{i:ah}{b x:am}{as:ae am}{d:D}{o u:HO}(E:NQ S c H σ ρ)(hc:c i=aa (b,as))(hx:x∈b::as)(hu:H x=aa u)(hm:xT u=ag)(hn:LQ (S (i+1000)) (upd H x o) b as d):NQ S c (upd H x o) σ (ρ.set i d)/\KC c H c (upd H x o):=by
 have hO:wK c x:=⟨i,b,as,hc,hx⟩
 have k:KC c H c (upd H x o):=λa oa e n=>⟨by rw[aM (λz=>by subst z;exact n hO)];exact e,n⟩
 obtain⟨hσ,_⟩:=E.nst i b as hc;have hl:i<ρ.length:=by rw[<-E.len];exact(dq.mp hσ).1
 have hS:=E.dom i _ hc;refine⟨⟨by simp[E.len],E.dom,E.nd,E.dj,λj hj=>?_,λj b' as' hc'=>?_,λj hj hd=>?_⟩,k⟩
 .rw[cN] at hj ⊢;by_cases h:i=j/\i<ρ.length
  .obtain⟨rfl,_⟩:=h;exact⟨_,hσ,λz=>by rw[hS] at z;cases z⟩
  .rw[ax h] at hj ⊢;obtain⟨w,h1,h2⟩:=E.at_ j hj;exact⟨w,h1,λhj=>k.rep E (h2 hj)⟩
 .by_cases hij:i=j
  .subst hij;rw[hc] at hc';cases hc';rw[cN,aq ⟨rfl,hl⟩];exact⟨hσ,hn⟩
  .rw[cN,ax λz=>hij z.1];obtain⟨h1,h2⟩:=E.nst j b' as' hc';exact⟨h1,h2.upd (E.dj i j b as b' as' hij hc hc' x hx) hu hm⟩
 .by_cases hij:i=j
  .subst hij;exact⟨_,hc⟩
  .rw[cN,ax λz=>hij z.1] at hd;exact E.all j hj hd
def aUx(K:aT):R2:=λx y H Q=>aNb K x y H Q\/∃a kvs k v,x=.ref a/\y=kV k/\H a=aa (.dK kvs)/\vP kvs k=aa v/\Q v H
def aUy(hu:X.A.units+20<c8):IxR X (aUx X.K):=IxR.or nD λvalue slice Ψ s σ H x y v u Q I rx ry h hs=>by
 obtain⟨a,kvs,k,w,rfl,rfl,e,hv,q⟩:=h;cases rx;have g:ZR H a (kV k) (vP kvs k):=.k e;rw[hv] at g;exact yE hu I g ry hs (λ_ h=>h) q
def aL0(hu:X.A.units+20<c8)(ho:S i=ag)(hN:X.N[i]?=aa x)(hv:Vis X.env.scope x)(hk:PE X k (gE fk rk))(he:PE X e (gE fe re))(hp:DY k:=by exact λ_ _=>rfl)(hd:nDb x:=by decide)(hcd:nCd x:=by decide)
 (hbase:gl (.Subscript (.Name x p1) k p2) "append" X.env (eval (.Subscript (.Name x p1) k p2) X.env)=eval (.Subscript (.Name x p1) k p2) X.env:=by rfl)
 (hs1:zSE X e []:=by rfl)
 (hfew:zFw X cpos [e]:=by rfl)
 (hline:(apos.endLine==cpos.line)=ag:=by rfl)
 (hs:en (.Call (.Attribute (.Subscript (.Name x p1) k p2) "append" apos) [e] [] cpos) ai pos.line X.env=pure aj:=by rfl)
 (hq:S (i+1000)=aj:=by rfl):QS X (.Expr (.Call (.Attribute (.Subscript (.Name x p1) k p2) "append" apos) [e] [] cpos) pos) (tN S (aC8 i fk fe)):=QS.mk <|
 PS.imp (iZ (PQ iA l7 ou jQ (aA7 (aUy hu) (a_ hN hv hd hcd) hk hp) (b8 he dY hs1) hbase hfew hline hs1 rfl) hs) λD' σ H ⟨c,ρ,fl,E,h,q⟩=>by
 obtain⟨d,h1,hA⟩:=bA h;obtain⟨kd,h2,hB⟩:=bA hA;obtain⟨ed,h3,hC⟩:=bA hB;obtain⟨r,h4,hD⟩:=bA hC;cases hD;obtain⟨v0,hv0,r0,e0⟩:=E.er.var h1;have hne:ρ.getD i .uD≠.uD:=λz=>by rw[z] at e0;subst e0;exact Rep.uD r0
 obtain⟨⟨b,as⟩,hc⟩:=E.all i ho hne;obtain⟨hσ,hN0⟩:=E.nst i b as hc;have hnd:=E.nd i b as hc;rw[eg] at hnd;rw[e0,hq] at hN0;unfold aFz at h4;split at h4
 .rename_i xs j;split at h4
  .rename_i n ys hix;split at h4
   .rename_i hg;cases h4;rw[ba] at hg;obtain⟨n',hx1,hx2⟩:=Option.bind_eq_some_iff.mp hix;obtain⟨y',hx3,hx4⟩:=gn.mp hx2;cases hx4;refine⟨.ref b,hσ,ρ,_,E.er,h2,λkv H1 sm1 rk1 _=>?_⟩;cases rk1;have N1:=hN0.same sm1;cases N1 with
    |lst eb il=>
     obtain⟨a,ws,zs,q1,q2,q3,q4,q5,q6⟩:=il.at_ hx3 hnd.2;cases q1;refine .inl ⟨b,_,j,.ref a,rfl,rfl,.of eb,by rw[aHe,il.reps.length,hx1];exact q2,?_⟩;refine⟨.inl ⟨rfl,_,.of q4⟩,ρ,_,E.er.same sm1,h3,λev H2 sm2 re2 _=>⟨a,ws,ev,rfl,rfl,sm2 _ _ q4,by rw[q5.length];exact J9 hg.1,?_⟩⟩;obtain⟨E2,k2⟩:=(E.same (sm1.trans sm2)).app hc (bX _ q3) (sm2 _ _ q4) rfl (.lst (by rw[aM (λz=>hnd.1 (by rw[z];exact q3))];exact sm2 _ _ eb) (q6 H2 ev ed sm2 re2 hg.2));exact q c σ _ ((KC.same (sm1.trans sm2)).trans k2) E2
    |pln _ _ _ _ pp=>
     have:=aG0 pp hx3;cases this
    |any z=>cases z
   .cases h4
  .cases h4
 .rename_i kvs;split at h4
  rotate_left
  .cases h4
  rename_i hfk;obtain⟨z,rfl⟩:∃z:Key,kd=kD z:=by
   cases kd<;>first|exact⟨.inl _,rfl⟩|exact⟨.inr _,rfl⟩|cases hfk
  split at h4
  .rename_i ys hlk;split at h4
   .rename_i hg;cases h4;rw[ba] at hg;refine⟨.ref b,hσ,ρ,_,E.er,h2,λkv H1 sm1 rk1 _=>?_⟩;obtain rfl:kv=kV z:=by
     cases z with
     |inl i=>cases rk1;rfl
     |inr x=>cases rk1;rfl
    have N1:=hN0.same sm1;cases N1 with
    |pln _ _ _ _ pp=>
     have:=aCa pp hlk;cases this
    |dct eb il nk=>
     obtain⟨a,ws,zs,q1,q2,q3,q4,q5,q6⟩:=il.at_ hlk hnd.2;cases q1;refine .inr ⟨b,_,z,.ref a,rfl,rfl,eb,q2,?_⟩;refine⟨.inl ⟨rfl,_,.of q4⟩,ρ,_,E.er.same sm1,h3,λev H2 sm2 re2 _=>⟨a,ws,ev,rfl,rfl,sm2 _ _ q4,by rw[q5.length];exact J9 hg.1,?_⟩⟩;obtain⟨E2,k2⟩:=(E.same (sm1.trans sm2)).app hc (bX _ q3) (sm2 _ _ q4) rfl (.dct (by rw[aM (λz=>hnd.1 (by rw[z];exact q3))];exact sm2 _ _ eb) (q6 H2 ev ed sm2 re2 hg.2) nk);exact q c σ _ ((KC.same (sm1.trans sm2)).trans k2) E2
   .cases h4
  .cases h4
 .cases h4
end
end
variable [KFrag]
def aMm(H:Hp):ae am->Hp
 |[]=>H
 |a::as=>aMm (upd H a (.lst [])) as
def yX:∀(as:ae am){H:Hp},as.Nodup->(∀a∈as,H a=ai)->bK H (aMm H as)
 |[],H,_,_=>bK.refl _
 |a::as,H,nd,h=>by
  rw[eg] at nd;refine(bK.upd (h a (bE ..))).trans (yX as nd.2 λx hx=>?_);rw[aM (λz=>nd.1 (by rw[<-z];exact hx))];exact h x (bX _ hx)
def aCc:∀(as:ae am){H:Hp}{x:am},as.Nodup->(∀a∈as,H a=ai)->x∈as->aMm H as x=aa (.lst [])
 |[],H,x,_,_,hx=>by cases hx
 |a::as,H,x,nd,h,hx=>by
  rw[eg] at nd;have h':∀y∈as,upd H a (.lst []) y=ai:=λy hy=>by
   rw[aM (λz=>nd.1 (by rw[<-z];exact hy))];exact h y (bX _ hy)
  rcases bq.mp hx with rfl|hx
  .exact yX as nd.2 h' _ _ aF
  .exact aCc as nd.2 h' hx
def aCd:ae Str->L2.St->Hp->(ae (V×V)->Hp->Prop)->Prop
 |[],_,H,Q=>Q [] H
 |k::ks,σ,H,Q=>∀p,H p=ai->aCd ks σ (upd H p (.lst [])) λps H1=>Q ((.str k,.ref p)::ps) H1
def LR:∀(ks:ae Str){σ:L2.St}{H:Hp}{Q:ae (V×V)->Hp->Prop},(∀as:ae am,as.length=ks.length->as.Nodup->(∀a∈as,H a=ai)->Q ((ks.zip as).map λp=>(V.str p.1,V.ref p.2)) (aMm H as))->aCd ks σ H Q
 |[],σ,H,Q,h=>h [] rfl gq λ_ z=>by cases z
 |k::ks,σ,H,Q,h=>λp hp=>LR ks λas hl nd hf=>by
  refine h (p::as) (by simp[hl]) (eg.mpr ⟨λz=>?_,nd⟩) λa ha=>?_
  .have:=hf p z;rw[aF] at this;cases this
  .rcases bq.mp ha with rfl|ha
   .exact hp
   .have:=hf a ha;by_cases hap:a=p
    .subst hap;exact hp
    .rwa [aM hap] at this
def aCe:∀(ks:ae Str)(as:ae am){H:Hp},as.length=ks.length->(∀a∈as,H a=aa (.lst []))->InK H ((ks.zip as).map λp=>(.inr p.1,V.ref p.2)) (ks.map λk=>(.str k,.lst [])) as
 |[],[],H,_,_=>.nil
 |k::ks,a::as,H,hl,h=>.cons (h a (bE ..)) .nil rfl (aCe ks as (by simpa using hl) λx hx=>h x (bX _ hx))
 |[],_::_,H,hl,_=>by cases hl
 |_::_,[],H,hl,_=>by cases hl
variable {S:ah->aw}
def NQ.new(E:NQ S c H σ ρ)(ho:S i=ag)(hl:i<σ.length)(sm:bK H H')(nd:(b::as).Nodup)(hf:∀a∈b::as,H a=ai)(hn:LQ (S (i+1000)) H' b as d):∃c',NQ S c' H' (σ.set i (aa (.ref b))) (ρ.set i d)/\KC c H c' H':=by
 have hlv:∀a,wK c a->a∉b::as:=λa ha z=>by
  obtain⟨o,h1,_⟩:=E.live ha;rw[hf a z] at h1;cases h1
 have own:∀a,wK (λj=>if j=i then aa (b,as) else c j) a->wK c a\/a∈b::as:=λa ⟨j,b',as',hc,ha⟩=>by
  by_cases hj:j=i
  .simp only[hj,c9,mT,lq] at hc;obtain⟨rfl,rfl⟩:=hc;exact .inr ha
  .simp only[hj,dw] at hc;exact .inl ⟨j,b',as',hc,ha⟩
 have k:KC c H (λj=>if j=i then aa (b,as) else c j) H':=λa o e n=>⟨sm a o e,λz=>by
  rcases own a z with z|z
  .exact n z
  .rw[hf a z] at e;cases e⟩
 have hlr:i<ρ.length:=by rw[<-E.len];exact hl
 refine⟨λj=>if j=i then aa (b,as) else c j,⟨by simp[E.len],λj p hc=>?_,λj b' as' hc=>?_,λj1 j2 b1 as1 b2 as2 hne h1 h2 a ha=>?_,λj hj=>?_,λj b' as' hc=>?_,λj hj hd=>?_⟩,k⟩
 .by_cases hj:j=i
  .rw[hj];exact ho
  .simp only[hj,dw] at hc;exact E.dom j p hc
 .by_cases hj:j=i
  .simp only[hj,c9,mT,lq] at hc;obtain⟨rfl,rfl⟩:=hc;exact nd
  .simp only[hj,dw] at hc;exact E.nd j b' as' hc
 .by_cases e1:j1=i
  .by_cases e2:j2=i
   .exact aS (e1.trans e2.symm) hne
   .simp only[e1,c9,mT,lq] at h1;simp only[e2,dw] at h2;obtain⟨rfl,rfl⟩:=h1;exact λz=>hlv a ⟨j2,b2,as2,h2,z⟩ ha
  .simp only[e1,dw] at h1;by_cases e2:j2=i
   .simp only[e2,c9,mT,lq] at h2;obtain⟨rfl,rfl⟩:=h2;exact hlv a ⟨j1,b1,as1,h1,ha⟩
   .simp only[e2,dw] at h2;exact E.dj j1 j2 b1 as1 b2 as2 hne h1 h2 a ha
 .rw[cN] at hj ⊢;by_cases h:i=j/\i<ρ.length
  .obtain⟨rfl,_⟩:=h;exact⟨.ref b,by rw[gx hl],λz=>by rw[ho] at z;cases z⟩
  .rw[ax h] at hj ⊢;have hij:i≠j:=λz=>h ⟨z,hlr⟩
   obtain⟨w,h1,h2⟩:=E.at_ j hj;exact⟨w,by rw[eB hij];exact h1,λhs=>k.rep E (h2 hs)⟩
 .by_cases hj:j=i
  .subst hj;simp only[c9,mT,lq] at hc;obtain⟨rfl,rfl⟩:=hc;rw[cN,aq ⟨rfl,hlr⟩,gx hl];exact⟨rfl,hn⟩
  .simp only[hj,dw] at hc;rw[cN,ax λz=>hj z.1.symm,eB (Ne.symm hj)];obtain⟨h1,h2⟩:=E.nst j b' as' hc;exact⟨h1,h2.same sm⟩
 .by_cases hji:j=i
  .exact⟨(b,as),by simp[hji]⟩
  .rw[cN,ax λz=>hji z.1.symm] at hd;obtain⟨p,hp⟩:=E.all j hj hd;exact⟨p,by simp[hji,hp]⟩
section
variable {a b c e:Expr} {g:FS}
def trE(ks:ae Str):ae (TE×TE):=ks.map λk=>(tC (.str k),aN8 λ_ H Q=>Q [] H)
def aCf:∀(ks:ae Str){σ:L2.St}{H:Hp}{Q:ae (V×V)->Hp->Prop},aCd ks σ H Q->T5 (trE ks) σ H Q
 |[],_,_,_,h=>h
 |k::ks,_,_,_,h=>⟨eP _,λp hp=>aCf ks (h p hp)⟩
def L_:∀(more kvs:ae (Key×V)),((kvs++more).map (·.1)).Nodup->cX kvs more=kvs++more
 |[],kvs,_=>(dQ _).symm
 |p::r,kvs,h=>by
  have hp:putK kvs p.1 p.2=kvs++[p]:=by
   unfold putK;rw[ax];rw[C7,AO];intro q hq hd;rw[dL,eS] at h;exact h.2.2 q.1 (cS.mpr ⟨q,hq,rfl⟩) p.1 0x2 (dy hd)
  show cX (putK kvs p.1 p.2) r=kvs++p::r;rw[hp,L_ r (kvs++[p]) (by simpa using h),cr];rfl
def aL1(ho:S i=ag)(hN:X.N.Nodup)(hi:X.N[i]?=aa x)(hx:Loc X.env.scope x)(hp:PPs X p2 keys values (trE ks))(hall:keys.all (·.isSome)=ag)(hkl:keys.length=values.length)(h0:keys≠[])(h15:keys.length<=15)(hk15:ks.length<=15)(hks:ks.Nodup)(hs:en (.Dict keys values p2) (aa (.Name x pos')) pos.line X.env=pure aj:=by rfl)(hf:zFn X x:=by first|exact .inl rfl|exact .inr rfl|assumption) :
  QS X (.Assign [.Name x pos'] (.Dict keys values p2) pos) (tN S (aTy i (aTz ks))):=QS.mk λΨ s σ H D I ⟨c,ρ,fl,E,h,q⟩=>by
 cases h;have hl:i<σ.length:=by
  rw[I.len];exact(dq.mp hi).1
 refine BV hN hi hx (aAe hp hall hkl h0 h15) hs hf Ψ s σ H D I λb hb=>aCf ks (LR ks λas hln nd hfr=>?_)
 have sm0:bK H (upd H b (.dK [])):=bK.upd hb;have sm1:=yX as nd hfr;have hbn:b∉as:=λz=>by have:=hfr b z;rw[aF] at this;cases this
 have hfr':∀a∈as,H a=ai:=λa ha=>sm0.free (hfr a ha)
 have keys:((ks.zip as).map λp=>(dP p.1,V.ref p.2)).map (·.1)=ks.map (dP:Str->Key):=by
  rw[eI,show((λx:Key×V=>x.1) ∘ λp:Str×am=>((dP p.1:Key),V.ref p.2))=(dP:Str->Key) ∘ Prod.fst from rfl,<-eI,List.map_fst_zip 0x1]
 have hnk:(((ks.zip as).map λp=>((dP p.1:Key),V.ref p.2)).map (·.1)).Nodup:=by
  rw[keys];exact Dc.mpr (hks.imp λh z=>h (by cases z;rfl))
 refine⟨sm1 _ _ aF,(ks.zip as).map λp=>(.inr p.1,V.ref p.2),by rw[eI];rfl,by rw[br,se];lia,?_⟩;rw[L_ _ [] (by rw[fS];exact hnk),fS];have e2:∀a∈as,upd (aMm (upd H b (.dK [])) as) b (.dK ((ks.zip as).map λp=>(dP p.1,V.ref p.2))) a=aa (.lst []):=λa ha=>by
  rw[aM (λz=>hbn (by rw[<-z];exact ha))];exact aCc as nd hfr ha
 have sm:bK H (upd (aMm (upd H b (.dK [])) as) b (.dK ((ks.zip as).map λp=>(dP p.1,V.ref p.2)))):=λa o e=>by
  rw[aM (bF e hb)];exact sm1 _ _ (sm0 _ _ e)
 obtain⟨c',E',k⟩:=E.new ho hl sm (eg.mpr ⟨hbn,nd⟩) (λa ha=>by
  rcases bq.mp ha with rfl|ha
  .exact hb
  .exact hfr' a ha) (.dct aF (aCe ks as hln e2) hnk)
 exact q c' _ _ k E'
def TgN(S:ah->aw)(g:TG)(t:D->ae D->Res (ae D)):Prop:=∀(v:V)(d:D)(ρ ρ':ae D)(σ:L2.St)(H:Hp)(c:Cel)(Q:L2.St->Hp->Prop),NQ S c H σ ρ->Rep (λa=>¬wK c a) H v d->t d ρ=.ok ρ'->(∀σ',NQ S c H σ' ρ'->Q σ' H)->g v σ H Q
def NQ.sets{c:Cel}:∀{is:ae ah}{vs:ae V}{ds:ae D}{σ:L2.St}{ρ:ae D},(∀i∈is,S i=aj)->NQ S c H σ ρ->bJ (λa=>¬wK c a) H vs ds->NQ S c H (jW is vs σ) (xR is ds ρ)
 |[],_,_,_,_,_,E,_=>by simp only[jW,xR];exact E
 |i::is,_,_,σ,ρ,h,E,.nil=>by simp only[jW,xR];exact E
 |i::is,_,_,σ,ρ,h,E,.cons r t=>NQ.sets (is:=is) (λj hj=>h j (bX _ hj)) (E.set (h i (bE ..)) r) t
def aL2(K:aT)(ho:∀i∈is,S i=aj):TgN S (aMe K is.length (gIx is)) (tgN is):=λv d ρ ρ' σ H c Q E r h q=>by
 cases d<;>simp only[tgN] at h<;>(try (cases h;done))
 split at h
 .rename_i hl;cases h;have hl':=dy hl;obtain⟨a,xs,rfl,e,rr⟩:=r.eO;exact⟨a,xs,rfl,.of e,by rw[rr.length];exact hl',yG _ _ _ (by rw[rr.length];exact hl') (q _ (E.sets ho rr))⟩
 .cases h
def ItQ.kc{K:aT}{c c':Cel}{σ:L2.St}{H H':Hp}{ρ:ae D}(h:ItQ K (λa=>¬wK c a) J H items)(k:KC c H c' H')(E:NQ S c H σ ρ):ItQ K (λa=>¬wK c' a) J H' items:=h.keep' (k.keep E) λa o e n=>(k a o e n).2
def aCg{K:aT}{g:TG}{t:D->ae D->Res (ae D)}{fb:FS}{D':Ends}{J:It}{items:ae D}{c:Cel}{σ:L2.St}{H1:Hp}{ρ:ae D}{fl:Fl}(ht:TgN S g t)(E:NQ S c H1 σ ρ)(hJ:ItQ K (λa=>¬wK c a) J H1 items)(hf:nG t fb items ρ=.ok fl)(q:kN S D' c H1 fl) :
  ∃W:ah->ah->L2.St->Hp->Prop,(∃m,W 0 m σ H1)/\∀i m σ H,W i m σ H->
   (J.stop i H/\D'.nx σ H)\/(J.go i H/\∃N:L2.St->Hp->Prop,(∀σ' H',N σ' H'->∃m',m'<m/\W (i+1) m' σ' H')/\∀x H',J.yld i H x H'->g x σ H' λσ2 H2=>tN S fb {D' with nx:=N,ct:=N,bk:=D'.nx} σ2 H2):=by
  refine⟨λi m σ' H'=>m=items.length-i/\i<=items.length/\∃c' ρ',ItQ K (λa=>¬wK c' a) J H' items/\NQ S c' H' σ' ρ'/\nG t fb (items.drop i) ρ'=.ok fl/\kN S D' c' H' fl,⟨items.length,rfl,eP _,c,ρ,hJ,E,hf,q⟩,?_⟩;rintro i m σ' H' ⟨rfl,hi,c',ρ',hJ',E',hf',q'⟩;rcases lb i items.length with hlt|hge
  .refine .inr ?_;have e:items[i]?=aa items[i]:=eh hlt;obtain⟨g1,g2⟩:=hJ'.go e;rw[iz hlt] at hf';obtain⟨ρ1,h1,hf2⟩:=bA hf';obtain⟨r,h2,hf3⟩:=bA hf2;refine⟨g1,λσ2 H2=>∃c' ρ',ItQ K (λa=>¬wK c' a) J H2 items/\NQ S c' H2 σ2 ρ'/\nG t fb (items.drop (i+1)) ρ'=.ok fl/\kN S D' c' H2 fl,λσ2 H2 n2=>⟨items.length-(i+1),by lia,rfl,hlt,n2⟩,λx H2 hy=>?_⟩;obtain⟨sH,rx⟩:=g2 x H2 hy;have hJ2:=hJ'.kc (.same sH) E';have q2:=q'.step (.same sH);refine ht x items[i] ρ' ρ1 σ' H2 c' _ (E'.same sH) rx h1 λσ2 E2=>⟨c',ρ1,r,E2,h2,?_⟩
   cases r with
   |nx ρ2=>exact λc3 σ3 H3 k3 E3=>⟨c3,ρ2,hJ2.kc k3 E2,E3,hf3,q2.step k3⟩
   |ct ρ2=>exact λc3 σ3 H3 k3 E3=>⟨c3,ρ2,hJ2.kc k3 E2,E3,hf3,q2.step k3⟩
   |bk ρ2=>cases hf3;exact λc3 σ3 H3 k3 E3=>q2 c3 σ3 H3 k3 E3
   |rt d=>cases hf3;exact q2
  .refine .inl ⟨hJ'.stop hge,?_⟩;rw[hV hge] at hf';cases hf';exact q' c' σ' H' (λa o e n=>⟨e,n⟩) E'
def aPl{g:TG}{t:D->ae D->Res (ae D)}{it:FI}{fb:FS}(hp:lI (ay X.prog X.w) X.A X.env X.xe)(hc:X.calm=ag)(hi:PI X tg iter (gI X.K it))(ht:TgN S g t)(hg:PG X tg g)(hb:QSs X body (tN S fb))
 (hs:∀x,fg iter X.env x=pure x:=by intro _;rfl):QS X (.For tg iter body [] pos) (tN S (O3 it t fb)):=QS.mk <| PS.imp (S9 hp hc hi hg hb.out hs) λD' σ H ⟨c,ρ,fl,E,h,q⟩=>by
 obtain⟨⟨items,k⟩,h1,h2⟩:=bA h;split at h2
 .rename_i hk;refine⟨ρ,items,k,E.er,h1,λJ H1 s1 _ hJ=>aCg ht (E.same s1) ((hJ hk).keep (λ_ _ e _=>e) λa ha ho=>?_) h2 (q.step (.same s1))⟩;obtain⟨o,e1,_⟩:=E.live ho;rw[show H a=ai from ha] at e1;cases e1
 .cases h2
end
def aG1{N ps:ae Str}{Q:VK}{E:XK}(hown:∀i,i<ps.length->S i=aj)(h0:spD (fnS ps.length N.length f) ps.length vs H Q E):tN S f {nx:=λ_ H'=>Q .non H',rt:=Q} (start N vs) H:=by
 obtain⟨ds,d,hl,r,h,q⟩:=h0;obtain⟨fl,h1,h2⟩:=bA h;have hst:start N vs=vs.map aa++bi (N.length-ps.length) ai:=by
  show vs.map aa++bi (N.length-vs.length) ai=_;rw[r.length,hl]
 have no:∀a,¬wK (λ_=>ai) a:=λa ⟨i,b,as,hc,_⟩=>by cases hc
 have old:=GK hst hl r (λ_ _=>rfl) λa ⟨i,hi,_⟩=>by cases hi
 have hlt:∀i,(ds++bi (N.length-ps.length) D.uD).getD i .uD≠.uD->i<ps.length:=λi hi=>ox λhge=>hi (by
  rw[cx,dS 0x1,hI];split<;>rfl)
 have E0:NQ S (λ_=>ai) H (start N vs) (ds++bi (N.length-ps.length) .uD):=by
  refine⟨old.len,λi p hc=>(by cases hc),λi b as hc=>(by cases hc),λi j b as b' as' _ hc=>(by cases hc),λi hi=>?_,λi b as hc=>(by cases hc),λi hi hd=>?_⟩
  .obtain⟨v,g1,g2⟩:=old.at_ i hi;exact⟨v,g1,λ_=>(g2 rfl).mono λa _=>no a⟩
  .rw[hown i (hlt i hd)] at hi;cases hi
 refine⟨_,_,fl,E0,h1,?_⟩;have sm:∀{c':Cel}{H':Hp},KC (λ_=>ai) H c' H'->bK H H':=λk a o e=>(k a o e (no a)).1
 cases fl with
 |nx ρ'=>cases h2;exact λc' σ' H' k E'=>q .non H' (sm k) .non λ_=>.non
 |rt d'=>
  cases h2;refine λv H' hk rp=>q v H' (λa o e=>hk a o e (no a)) rp.all λ_=>rp.mono λa ha=>?_
  rcases ha with ha|ha
  .exact aS ha (no a)
  .exact ha
 |bk ρ'=>cases h2
 |ct ρ'=>cases h2
def aPm{P:bu}{w:bn}{K:aT}{mg:Str->au al}{base:aE}{x qual:Str}{st:bp}{fad:am}{fd:dm}{N ps:ae Str}{k:ah}{f:FS}(F:Fun K x qual st fad fd)(sc:bG N ps (aH st))(S:ah->aw)(hown:∀i,i<ps.length->S i=aj)(hNl:ps.length<=N.length)
 (hbody:∀(cdv:al) (A:bP) (outer:ae cv) (s:ar) (H:Hp) (E:XK),j0 k (A.deeper (du qual (aH st) s.heap.objs.size fad cdv))->QSs (xJ CX0 P w K mg base N qual (aH st) fad cdv A outer s H E).nox (cH st) (tN S f)):j4 P w K mg base CX0 (k+1) fad fd ps (spD (fnS ps.length N.length f) ps.length):=
 F.ok sc (λvs H Q E h=>aAo h) λcdv A outer s H vs Q E hr h=>⟨_,(hbody cdv A outer s H E hr).out,aG1 hown h⟩
def aL3{K:aT}{mg:Str->au al}{base:aE}{x:Str}{k:ah}{st:bp}{fad:am}{fd:dm}{N ps:ae Str}{fs:FS}(F:Fun K x x st fad fd)(hm:mg x=aa (.ref fad))(hb:Binds K fd ps [])(sc:bG N ps (aH st))(S:ah->aw)(hown:∀i,i<ps.length->S i=aj)(hNl:ps.length<=N.length)
 (hbody:∀(cdv:al) (A:bP) (outer:ae cv) (s:ar) (H:Hp) (E:XK),j0 k (A.deeper (du x (aH st) s.heap.objs.size fad cdv))->QSs (xJ CX0 P w K mg base N x (aH st) fad cdv A outer s H E).nox (cH st) (tN S fs)):cV P w K mg base (k+1) x ps.length (fnS ps.length N.length fs):=
 ⟨fad,fd,ps,aPm F sc S hown hNl hbody,hm,F.kp,hb⟩
end Mi
namespace Wn
open PySem PySem.Spec
section
variable {prog:bu} {w:bn} {A:bP} {E:al->ar->Prop} {s:ar}
def both{α:Type}{M:Model}{c:Prop}[Decidable c]{a b:gy α}{Q:α->ar->Prop}(h1:ϑ M A a Q E s)(h2:ϑ M A b Q E s):ϑ M A (if c then a else b) Q E s:=by
 by_cases h:c
 .rw[aq h];exact h1
 .rw[ax h];exact h2
def aPn(l:am)(items:aI al)(n:ah)(dd:au am)(sl:aI (au al))(t:cz) :
  hX (dh.«enumerate.__new__» ⟨[.type "enumerate",.ref l],[("start",.int 1 t)]⟩) (λ_ R s=>s.heap.get? l=aa {cls:=.type "list",dict:=dd,data:=.seq items n,slots:=sl}/\
   ∀h' e it tk,it=s.heap.objs.size->e=it+1->mj h' e it 1 .none->h'.IsListIter it l 0->h'.objs.size=it+2->(∀b o,s.heap.get? b=aa o->h'.get? b=aa o)->R (.ok (.ret (.ref e))) {s with heap:=h',toks:=tk}):=.of_wp λprog w A R s hs=>by
 obtain⟨hp,g,d,tk,os⟩:=s;obtain⟨hl,q⟩:=hs;have sub:=sub_enumerate;have p:CL (oQ ⟨hp,g,d,tk,os⟩) l items:=⟨_,hl,rfl,n,rfl⟩
 have hz:(hp.push {cls:=.type "list_iterator",data:=.fields #[.ref l,.int 0 0]}).objs.size=hp.objs.size+1:=cK ..;have fin:∀(tk':ah),R (.ok (.ret (.ref (hp.push {cls:=.type "list_iterator",data:=.fields #[.ref l,.int 0 0]}).objs.size))) ⟨(hp.push {cls:=.type "list_iterator",data:=.fields #[.ref l,.int 0 0]}).push {cls:=.type "enumerate",data:=.fields #[.none,.bool aj,.ref hp.objs.size,b9 1,.none,.none]},g,d,tk',os⟩:=λtk'=>by
  refine q _ _ _ tk' rfl hz (cu _ rfl) ⟨_,bS _ (cu _ rfl),rfl,rfl⟩ ?_ λb o e=>bS _ (bS _ e)
  rw[cK,hz]
 wp_walk using Ag hl
 refine wpAny_stack_any λst=>az ?_
 refine both ?_ ?_
 .wp_walk using Ag hl,jc p
  exact⟨_,rfl,fin tk⟩
 .wp_walk using Ag hl,jc p
  exact⟨_,rfl,fin tk⟩
def aSo(a:al)(t:cz):checkTypeCall "enumerate" ⟨[a],[("start",.int 1 t)]⟩=pure ():=by kernel_rfl
def aSp(a:al)(t:cz):checkBuiltinCall "enumerate.__new__" ⟨[.type "enumerate",a],[("start",.int 1 t)]⟩=pure ():=by kernel_rfl
def aSq(a b:al)(t:cz):lj "object.__init__" ⟨[a,b],[("start",.int 1 t)]⟩:=by kernel_rfl
def aL4{self b:al}{t:cz}{R:oB->ar->Prop}(hT:s.TypeIs self "enumerate")(q:R (.done (.ret .none)) s):ϑ (ay prog w) A (dh.«object.__init__» ⟨[self,b],[("start",.int 1 t)]⟩) R E s:=by
 have hl:=Ah.init.lookup;have hm:=Ah.made
 repeat (any_goals (first|assumption|wp_step))
def aL5{l:am}{items:aI al}{t:cz}{Q:al->ar->Prop}(hL:s.heap.IsList l items)
 (q:∀h' e it tk,it=s.heap.objs.size->e=it+1->mj h' e it 1 .none->h'.IsListIter it l 0->h'.objs.size=it+2->(∀b o,s.heap.get? b=aa o->h'.get? b=aa o)->Q (.ref e) {s with heap:=h',toks:=tk}) :
  ϑ (ay prog w) A (call (.type "enumerate") [.ref l] [("start",.int 1 t)]) Q E s:=by
 have ft:=Ah;obtain⟨c,tl,m0⟩:=ft.mro;have m1:=ft.made;have m2:=ft.sub;have m3:=ft.notType;have m4:=ft.canCreate;have k1:=aSo (.ref l) t;obtain⟨⟨cl,dd,da,sl⟩,e,hc,n,hd⟩:=hL;simp only at hc hd;subst hc hd;refine lS (codeAny_of_tree (show ϑ _ _ (callAny (.type "enumerate") _) _ _ _ from az ⟨je _ 0x6,jd F.entry_type_call ?_⟩));rw[Around.under_plain (weight_type_call_type "enumerate" _ _) (units_type_call_type "enumerate" _ _)]
 repeat (any_goals (first|assumption|wp_step))
 have step:∀c (R:Result->ar->Prop),c=(Dd (.builtin "enumerate.__new__") ⟨[.type "enumerate",.ref l],[("start",.int 1 t)]⟩)->(∀h' e it tk,it=s.heap.objs.size->e=it+1->mj h' e it 1 .none->h'.IsListIter it l 0->h'.objs.size=it+2->(∀b o,s.heap.get? b=aa o->h'.get? b=aa o)->R (.ok (.ret (.ref e))) {s with heap:=h',toks:=tk})->codeAny (ay prog w) A.in1 c R s:=λc R hc hq=>by
  subst hc;exact xf ft.plain F.entry_enumerate_new (g9 (aSp (.ref l) t) (aPn l items n dd sl t prog w A.in1 R s ⟨e,hq⟩))
 refine jo (step _ (λr s1=>∃h' a it tk,r=.ok (.ret (.ref a))/\s1={s with heap:=h',toks:=tk}/\mj h' a it 1 .none/\Q (.ref a) s1) rfl λh' a it tk x1 x2 x3 x4 x5 x6=>⟨h',a,it,tk,rfl,rfl,x3,q h' a it tk x1 x2 x3 x4 x5 x6⟩) λr s1 hr=>?_
 obtain⟨h',a,it,tk,rfl,rfl,x3,hq⟩:=hr;have hT:({s with heap:=h',toks:=tk}:ar).TypeIs (.ref a) "enumerate":=⟨_,x3,rfl⟩
 have hli:=ft.init.lookup;have hbi:=ft.init.bind (.ref a)
 repeat (any_goals (first|assumption|wp_step))
 have step2:∀c (R:Result->ar->Prop),c=(Dd (.builtin "object.__init__") ⟨[.ref a,.ref l],[("start",.int 1 t)]⟩)->R (.ok (.ret .none)) {s with heap:=h',toks:=tk}->codeAny (ay prog w) A.in1 c R {s with heap:=h',toks:=tk}:=λc R hc hq=>by
  subst hc;exact xf ft.init.plain F.entry_object_init (ft.init.check _ _ _ _ _ _ _ _ hT (aSq _ _ _) (aL4 hT hq))
 refine jo (step2 _ (λr s2=>r=.ok (.ret .none)/\s2={s with heap:=h',toks:=tk}) rfl ⟨rfl,rfl⟩) λr s2 hr=>?_
 obtain⟨rfl,rfl⟩:=hr
 repeat (any_goals (first|assumption|wp_step))
end
def shift{prog:bu}{w:bn}{A:bP}{it:am}{fp:ae am}{n:ah}{P:ah->al->Prop}{St:ah->aE->Prop}(D:Draws prog w A it fp n P St)(m:ah):Draws prog w A it fp (m+n) (λj v=>P (j-m) v) (λj h=>∃i,j=m+i/\St i h) where
 live:=λj h ⟨i,_,st⟩=>D.live i h st
 frame:=λj h h' ⟨i,e,st⟩ k=>⟨i,e,D.frame i h h' st k⟩
 item:=λj s Q E hj ⟨i,e,st⟩ hQ=>D.item i s Q E 0x1 st λx h' tk px st' sb=>hQ x h' tk (by rw[e,Df];exact px) ⟨i+1,by lia,st'⟩ sb
 done:=λs Q E ⟨i,e,st⟩ hE=>by
  obtain rfl:n=i:=by lia
  exact D.done s Q E st hE
def over{prog:bu}{w:bn}{A:bP}(hh:A.handled=ai)(it l:am)(items:aI al)(i:ah)(hi:items[i]?=ai):Draws prog w A it [it,l] 0 (λ_ _=>gv) (λ_ h=>h.IsListIter it l i/\h.IsList l items) where
 live:=λ_ _ st=>let ⟨o,ho,_⟩:=st.1;⟨o,ho⟩
 frame:=λ_ _ _ st k=>⟨st.1.at λo e=>k it (bE ..) o e,st.2.at λo e=>k l 0x2 o e⟩
 item:=λj s Q E hj=>aS hj (Cy _)
 done:=λs Q E st hE=>wpAny_nextOf_list_end hh st.1 st.2 hi hE
end Wn
namespace Mi
open PySem L2 PySem.SeqAt PySem.Spec PyProof.Rows
def V1(m:ah)(a:FE)(fr:aw):FI:=λρ=>do let x <- a ρ;let xs <- aEy x;pure (X5 m xs,fr||x.pure)
variable [KFrag]
def aHz{h:aE}{a b:am}{o u:bc}{T U:fx}(e:h.get? a=aa o)(hc:o.cls=.type T)(e':h.get? b=aa u)(hc':u.cls=.type U)(ne:(eT T==eT U)=aj):a≠b:=λq=>by
 subst q;rw[e] at e';cases e';rw[hc] at hc';rw[hc'] at ne;simp at ne
theorem Y0{P:bu}{w:bn}{K:aT}{elts:ae Expr}{x1}{tp:cm}(m:ah)(a e it:am)(hne:e≠it):Turn P w K (.Tuple elts x1 tp) (aTh K m a) [e,it] e (λi h=>(∃old,mj h e it ((m+i:ah):ak) old)/\h.IsListIter it a i) where
 mem:=bE ..
 obj:=λi h ⟨⟨old,h1⟩,o,h2,_,h3⟩ b hb=>by
  simp only[bq,iF,or_false] at hb;rcases hb with rfl|rfl
  .exact⟨_,h1,λv z=>nomatch(show xA _=xB v from z)⟩
  .exact⟨o,h2,λv z=>by rw[h3] at z;cases z⟩
 keep:=λi h h' ⟨⟨old,h1⟩,h2⟩ k=>⟨⟨old,k e (bE ..) _ h1⟩,h2.at λo q=>k it 0x2 o q⟩
 item:=by
  intro Y hP hw hK hc i Ψ s σ H E I hf ⟨⟨old,h1⟩,h2⟩ ⟨xs,x,hq,hx⟩;subst hP hw hK;obtain⟨its,rv,p,hz⟩:=I.list hq;obtain⟨u,hu,ru⟩:=rv.get hx;have hlt:e<s.heap.objs.size:=bw h1;obtain⟨oi,e2,c2,d2⟩:=id h2;obtain⟨ol,e3,c3,_⟩:=id p.isList;have nai:a≠it:=aHz e3 c3 e2 c2 0x4;have nea:e≠a:=aHz h1 rfl e3 c3 0x4;have D:=Wn.shift (Draws.list (prog:=Y.prog) (w:=Y.w) (A:=Y.A.in1) (show Y.A.in1.handled=ai from I.ok.hd hc) it a nai its.toArray) m;have hil:i<its.toArray.size:=by
   have:=(dq.mp hu).1;simpa using this
  refine wpAny_pyNext_enum_itemD D h1 ⟨i,rfl,h2,p.isList⟩ 0x1 hne (by simp[hne,nea]) λv h' tk o0 o1 o2 o3 o4 o5=>?_
  rw[Df] at o0;obtain rfl:u=v:=by
   have:its[i]?=aa v:=by simpa using o0
   rw[hu] at this;exact gi this
  obtain⟨i',ei,st1,st2⟩:=o2;obtain rfl:i'=i+1:=by lia
  refine⟨_,rfl,Ca o1 λh'' g1 g2=>?_⟩;have sb:di e h' h'':=g2;have kk:∀b o,b∉[e,it]->s.heap.get? b=aa o->h''.get? b=aa o:=λb o hb eb=>by
   simp only[bq,iF,or_false,fE] at hb;exact(sb.2 b hb.1).trans (o5 b o hb.1 hb.2 eb)
  have t3:h''.get? s.heap.objs.size=aa {cls:=.type "tuple",data:=.seq #[.int ((m+i:ah):ak) tk,u]}:=(sb.2 _ (fA hlt)).trans o3;refine⟨.ref s.heap.objs.size,upd H s.heap.objs.size (.tup [.int ((m+i:ah):ak),x]),nJ (s:=s) (h':=h'') (t':=tk+1) (ch:=[e,it]) I kk (λb hb=>hf b hb) (bo _) ?_,rfl,⟨_,x,λys hy=>by rw[I.oE hy hq];exact hx,rfl,I.hok.fresh (bo _),rfl⟩,⟨⟨u,?_⟩,?_⟩,λb hb=>?_⟩
  .exact⟨by show 2<=bd;rw[cy];decide,[.int ((m+i:ah):ak) tk,u],.cons ⟨_,rfl⟩ (.cons ru .nil),⟨_,t3,rfl,0,rfl⟩⟩
  .have:((m+(i+1):ah):ak)=((m+i:ah):ak)+1:=by lia
   rw[this];exact g1
  .obtain⟨o,ho,r⟩:=st1;exact⟨o,(sb.2 it (Ne.symm hne)).trans ho,r⟩
  .rw[aM]
   .exact(hf b hb).1
   .intro z;simp only[bq,iF,or_false] at hb;rcases hb with h|h
    .rw[<-h,z] at hlt;exact eW _ hlt
    .have:=bw e2;rw[<-h,z] at this;exact eW _ this
 done:=by
  intro Y hP hw hK hc i Ψ s σ H E I hf ⟨⟨old,h1⟩,h2⟩ ⟨xs,hq,hx⟩;subst hP hw hK;obtain⟨its,rv,p,hz⟩:=I.list hq;obtain⟨f0,f1,f2,f3,f4,f5⟩:=hf it 0x2;have hl:=rv.length;exact wpAny_pyNext_enum_endD (Wn.over (show Y.A.in1.handled=ai from I.ok.hd hc) it a its.toArray i (by simp;lia)) h1 ⟨h2,p.isList⟩ λh' eb=>⟨rfl,I.turned (t':=s.toks) (λb o hb e=>eb b o hb e) f0 f1 f3 f4 f5⟩
 self:=λ_ _ _ _ _ ⟨⟨old,h1⟩,_⟩ h=>vF h1 h
section
variable {X:Cx} {a:Expr} {fa:FE} {ra:aw} {p pos:cm}
def aL6{M:Model}{A:bP}{E:al->ar->Prop}{s:ar}{T:fx}{args:ae (aw×gy al)}{kws:ae (au Str×gy al)}{Q:al->ar->Prop}(hp:args.any (·.1)=aj)(hk:kws.any (·.1.isNone)=aj)
 (h:ϑ M A (evalArgs (.type T) ag args kws) (λa s₁=>ϑ M A (call (.type T) a.pos a.kw) Q E s₁) E s):ϑ M A (yj pos (.type T) [] args kws) Q E s:=by
 unfold yj;refine ao (dE (eM h (λa s1 h1=>ao (y9 ?_)) λ_ _ x=>x));rw[hp,hk];exact ao (az (ao (eM h1 (λr s2 hr=>ao (dE (wpAny_point (az hr)))) λ_ _ x=>x)))
def aG2{elts:ae Expr}{x1}{tp kp cp:cm}{j:ah}(hg:Gl X "enumerate")(hm:X.mg "enumerate"=ai)(ha:PA X [a] (gA (aC fa aW) ra))(hs:cw [a] X.env=[(aj,eval a X.env)]:=by rfl) :
  PI X (.Tuple elts x1 tp) (.Call (.Name "enumerate" p) [a] [⟨aa "start",.Constant (.int 1) j cp,kp⟩] pos) (gI X.K (V1 1 fa ra)):=by
 intro Ψ s σ H R I ⟨ρ,items,k,E,h,q⟩;obtain⟨d,h1,h⟩:=bA h;obtain⟨its,h2,h⟩:=bA h;cases h;have hd:d=.lst its:=by
  unfold aEy at h2;split at h2
  .cases h2;rfl
  .cases h2
 subst hd;have hb:aC fa aW ρ=.ok [υ its]:=by
  unfold aC;rw[h1];rfl
 refine fR (jP I hg hm Cb (aL6 (by rw[hs];rfl) rfl ?_));have hA:=ha pos Ψ s σ H (λvs H1=>∃v,vs=[v]/\bK H H1/\Rep All H1 v (.lst its)/\(ra=ag->Rep (New H) H1 v (.lst its))) I ⟨ρ,_,E,hb,λvs H1 s1 r1 n1=>by
  cases r1 with
  |cons r t=>
   cases t;refine⟨_,rfl,s1,r,λz=>?_⟩;cases n1 z with
   |cons r' _=>exact r'⟩
 rw[hs] at hA ⊢;refine evalArgs_kwB rfl (thn hA λus s1 ⟨vs,H1,I1,r1,q1⟩=>kws_cons (Ax (kws_nil ?_)));obtain⟨v,rfl,s1',r,n⟩:=q1;cases r1 with
 |cons rv rr=>
  cases rr;obtain⟨l,ys,rfl,hl,rr⟩:=r.gF (K:=X.K);cases rv;obtain⟨vs,rvs,pl,hz⟩:=I1.list hl;refine Wn.aL5 (s:={s1 with toks:=s1.toks+1}) pl.isList λh' e it tk e1 e2 e3 e4 e5 e6=>vF e3 ?_
  subst e2 e1;have hp1:∀b o,s1.heap.get? b=aa o->h'.get? b=aa o:=e6;refine⟨s1.heap.objs.size+1,[s1.heap.objs.size+1,s1.heap.objs.size],_,_,H1,rfl,I1.kept (t':=tk) λb o e=>hp1 b o e,Y0 1 l (s1.heap.objs.size+1) s1.heap.objs.size (Cc _),⟨⟨_,e3⟩,e4⟩,λb hb=>?_,q _ H1 s1' (.enf 1 l its rfl r rfl) λhk=>.enf 1 l its rfl ?_ rfl⟩
  .simp only[bq,iF,or_false] at hb;rcases hb with rfl|rfl
   .exact I1.aDu (iS _) (I1.hok.fresh (iS _))
   .exact I1.aDu (bo _) (I1.hok.fresh (bo _))
  .rw[f_] at hk;rcases hk with hk|hk
   .exact n hk
   .cases hk
end
end Mi
section
local macro_rules | `(tactic| trivial) => `(tactic| first | exact Or.inl rfl | exact Or.inr rfl | exact Or.inr (Or.inl rfl) | exact Or.inr (Or.inr rfl))
namespace Lk87
open PySem L2 Mi PySem.W
noncomputable def top(i:ah):bp:=PySem.Challenge.pw_hookmill_k87_four_hundred.main.body.getD i (.Pass ⟨0,0,0,0⟩)
abbrev uQ:bp:=top 17
noncomputable def Y4:ah->aw:=λi=>i==1
def Y5:FS:=bU (cZ ag 1 (bC (.dct [])) ag) (bU (O3 (bW (b2 getD cT fM) aj) (tgN [2,3,4]) (aEo 1 fL (jR (aC fB (aC lF aW))))) (bU (O3 (bW (b2 getD cT uJ) aj) (tgN [2,3,5,6]) (aEo 1 fL (jR (aC fB (aC (b2 aB5 (jR (aC nF aW)) lM) aW))))) (aNn 1)))
def dJ:ae D->Res D:=fnS 1 7 Y5
abbrev uR:bp:=top 29
noncomputable def Y6:ah->aw:=λi=>i==1||i==2
def Y7:FS:=bU (cZ ag 1 (lG aW) ag) (bU (cZ ag 2 (lG (aC (bPu cT) aW)) ag) (bU (aTj (bTr fL) (bU (YC 2 3) (bU (aNo 1 (b2 getD fB g_)) (aJy 2 (b1 aK6 (b2 getD fB fM)))))) (lY (aQ fV (aC c7 aW)) aj)))
def iV:ae D->Res D:=fnS 1 4 Y7
abbrev nP:bp:=rowOf (top 30) 0
def mD:ae (Str×Srx):=[("words",.par 1),("left",.exp (aQ vQ (aC c7 aW))),("known",.par 2)]
abbrev eQ:bp:=rowOf (top 31) 0
def fJ:ae (Str×Srx):=[("heads",.exp (aQ (cU 1 dJ) (aC c7 aW))),("makers",.exp (b1 U_ (fO 3 (bW (b2 getD c7 fM) aj) v6 gD (jR (aC (b2 getD fB g_) (aC (bC (.bl ag)) aW))) aj))),("rules",.exp (b1 G_ (fO 3 (bW (b2 getD c7 J7) aj) v6 gD (jR (aC (jR (aC (b2 getD fB g_) (aC (b2 getD fB fM) aW))) (aC fB aW))) aj))),("most",.par 2),("calls",.exp g_),("copies",.exp g_),("drops",.exp g_)]
abbrev eU:bp:=rowOf (top 31) 1
abbrev dN:bp:=rowOf (top 31) 2
abbrev k_:bp:=rowOf (top 31) 3
abbrev eF:bp:=rowOf (top 31) 4
abbrev uT:bp:=top 28
def jO:ae D->Res D:=aMl fJ iV
abbrev nQ:bp:=top 35
noncomputable def RL:ah->aw:=λi=>aj
def yZ:FS:=bU (cZ aj 2 g_ ag) (bU (sIf (bTB (b2 (n_ .gt) (aQ vQ (aC cT aW)) g_)) (cZ aj 2 (b2 (cO .mod) (b2 getD cT (b2 (cO .mod) c7 (aQ vQ (aC cT aW)))) iM) ag) jT) (bU (cZ aj 3 (b2 (cO .mod) (b2 GQ (b2 (cO .add) (b2 (cO .add) fL fM) (b2 GQ xP (b2 (cO .fdiv) c7 (aQ max2 (aC fM (aC (aQ vQ (aC cT aW)) aW)))))) FJ) iM) ag) (lY (b2 (cO .mod) (b2 GQ fB fB) j7) ag)))
def bB:ae D->Res D:=fnS 2 4 yZ
abbrev nR:bp:=top 36
noncomputable def RM:ah->aw:=λi=>aj
def RN:FS:=bU (cZ aj 2 (bC (.str "abcdefghijklmnopqrstuvwxyz")) ag) (bU (sIf (XS (bTB (b2 inX c7 (jR (aC J7 (aC FN aW))))) (bTB (b2 (gG .eq) (b2 (cO .mod) (aQ (cU 2 bB) (aC cT (aC (bC (.int 36)) aW))) aMh) fM))) (lY (b2 (cO .add) (b2 getD (lG (aC (bC (.str "drop")) (aC (bC (.str "copy")) aW))) (b2 (cO .fdiv) c7 FN)) (b2 getD fL (b2 (cO .mod) (aQ (cU 2 bB) (aC cT (aC aJd aW))) QF))) ag) jT) (bU (cZ aj 3 (aQ (cU 2 bB) (aC cT (aC g_ aW))) ag) (bU (cZ aj 4 (b2 getD (lG (aC (bPu (b2 getD fL (b2 (cO .mod) fB QF))) (aC (bPu (b2 getD (bC (.str "abdz")) (b2 (cO .mod) (b2 (cO .fdiv) fB QF) aR4))) aW))) (b2 (cO .mod) (b2 (cO .fdiv) fB (bC (.int 104))) uJ)) aj) (bU (cZ aj 5 (b2 (cO .mod) (aQ (cU 2 bB) (aC cT (aC fM aW))) FN) ag) (bU (cZ aj 6 (b2 (cO .mod) (aQ (cU 2 bB) (aC cT (aC uJ aW))) (b2 (cO .sub) FN nF)) ag) (bU (sIf (bTB (b2 (gG .eq) (b2 (cO .mod) (b2 (cO .fdiv) (aQ (cU 2 bB) (aC cT (aC fM aW))) FN) uJ) fM)) (cZ aj 6 (b2 (cO .mod) (aQ (cU 2 bB) (aC cT (aC (b2 (cO .add) aR4 c7) aW))) (b2 (cO .sub) FN nF)) ag) jT) (lY (b2 (cO .add) (b2 (cO .add) (b2 GQ lF nF) (b2 getD fL (b2 (cO .mod) (b2 (cO .add) c7 (aQ (cU 2 bB) (aC cT (aC J7 aW)))) QF))) (b2 GQ lF lM)) ag)))))))
def bL:ae D->Res D:=fnS 2 7 RN
abbrev y_:bp:=top 19
noncomputable def aCh:ah->aw:=λi=>aj
def aCi:FS:=bU (sIf (bTB (b2 inX c7 cT)) (lY (b2 getD cT c7) aj) jT) (bU (sIf (bTB (b2 inX c7 fL)) (lY (jR (aC (b2 getD fL c7) (aC (jR aW) aW))) aj) jT) vU)
def jE:ae D->Res D:=fnS 3 3 aCi
abbrev mF:bp:=top 18
noncomputable def MF:ah->aw:=λi=>i==4
def MJ:FS:=bU (cZ ag 4 (lG (aC (bPu fL) aW)) ag) (bU (X3 1 (tg1 5) (bU (sIf (aEm (bTr lF)) vU jT) (bU (cZ aj 6 (aQ (cU 3 jE) (aC cT (aC nF (aC fB aW)))) ag) (bU (aOg (xTB (x2R (gG .ne) (bPu (b2 getD lM g_)) (YK 4))) vU jT) (aJy 4 (b1 aK6 (b2 getD lM fM))))))) (sIf (bTr lF) vU jT))
def eG:ae D->Res D:=fnS 4 7 MJ
abbrev aL7:bp:=top 21
abbrev lA:bp:=top 24
noncomputable def HN:ah->aw:=λi=>i==6
def HQ:FS:=bU (cZ aj 5 (b2 aB5 (b2 getD (b2 getD cT fL) fM) (CK (b2 getD (b2 getD cT c7) fM) (j8 fM) lX)) aj) (bU (sIf (bTB (b2 (gG .ne) (aQ vQ (aC fB aW)) (aQ vQ (aC nF aW)))) vU jT) (bU (cZ ag 6 (aQ aKw (aC lF aW)) ag) (bU (X3 3 (tg1 7) (aBq 6 n6)) (lY (aQ aB6 (aC fB (aC nF aW))) ag))))
def eV:ae D->Res D:=fnS 5 8 HQ
abbrev fZ:bp:=top 23
noncomputable def HR:ah->aw:=λi=>i==5
def HS:FS:=bU (cZ aj 2 (aQ (cU 1 dJ) (aC cT aW)) ag) (bU (cZ aj 3 (fO 10 (bW (b2 getD cT fM) aj) v6 gD (b2 getD E_ g_) aj) ag) (bU (cZ aj 4 (fO 10 (bW (b2 getD cT uJ) aj) v6 gD (b2 getD E_ g_) aj) ag) (bU (cZ ag 5 (bC (.dct [])) ag) (O3 (bW (b2 getD cT J7) aj) (tgN [6,7,8,9]) (bU (sIf (bTB (b2 (gG .notin) lM lF)) vU jT) (bU (sIf (bTB (b2 (gG .notin) n6 fB)) vU jT) (bU (sIf (bTB (b2 (gG .ne) (b2 getD (b2 getD fL n6) g_) (b2 getD (b2 getD (b2 getD fL lM) fM) g_))) vU jT) (bU (sIf (bTB (b2 inX (jR (aC lM (aC n6 aW))) nF)) vU jT) (bU (aEo 5 (jR (aC lM (aC n6 aW))) (bC (.bl ag))) (vR (aQ (cU 4 eG) (aC fL (aC aDv (aC (b2 getD (b2 getD fL lM) g_) (aC (aQ (cU 5 eV) (aC fL (aC lM (aC n6 (aC aJc (aC c7 aW)))))) aW)))))))))))))))
def iT:ae D->Res D:=fnS 2 10 HS
abbrev eN:bp:=top 25
noncomputable def zA:ah->aw:=λi=>aj
def zB:FS:=bU (cZ aj 1 (fO 7 (bW (b2 getD cT J7) aj) v6 gD (jR (aC (b2 getD n6 g_) (aC (b2 getD n6 fM) aW))) aj) ag) (O3 (bW (b2 getD cT uJ) aj) (tgN [2,3,4,5]) (O3 (bW (fO 7 (bW (b2 getD cT fM) aj) (aJe 3) (bTB (b2 (gG .eq) aJc lF)) n6 aj) ag) (tg1 6) (sIf (bTB (b2 (gG .notin) (jR (aC fL (aC lM aW))) c7)) vU jT)))
def gB:ae D->Res D:=fnS 1 7 zB
abbrev lB:bp:=top 22
noncomputable def HW:ah->aw:=λi=>aj
def lC:FS:=X3 1 (tg1 2) (sIf (bTB (b2 (gG .notin) fL (b2 getD cT g_))) vU jT)
def dO:ae D->Res D:=fnS 2 3 lC
abbrev RP:bp:=top 20
noncomputable def aL8:ah->aw:=λi=>i==1
def aL9:FS:=bU (cZ ag 1 (aHx (bC (.str "copy")) (bC (.bl ag)) (bC (.str "drop")) (bC (.bl ag))) ag) (bU (O3 (bW (b2 getD cT g_) aj) (tg1 2) (aBq 1 fL)) (bU (O3 (bW (b2 getD cT fM) aj) (tgN [2,3,4]) (bU (aBq 1 fL) (vR (aQ (cU 2 dO) (aC cT (aC (b2 aB5 (jR (aC fB aW)) lF) aW)))))) (bU (O3 (bW (b2 getD cT uJ) aj) (tgN [2,3,5,6]) (bU (aBq 1 fL) (vR (aQ (cU 2 dO) (aC cT (aC (b2 aB5 (jR (aC fB (aC nF aW))) lM) aW)))))) (bU (vR (aQ (cU 2 iT) (aC cT (aC c7 aW)))) (bU (vR (aQ (cU 1 gB) (aC cT aW))) (lY cT aj))))))
def uU:ae D->Res D:=fnS 1 7 aL9
abbrev dR:bp:=top 11
noncomputable def nT:ah->aw:=λi=>aj
def nU:FS:=lY (aQ aR7 (aC (fO 1 (bW cT aj) v6 gD (bCh (n_ .le) (n_ .le) (bC (.str "a")) c7 (bC (.str "z"))) ag) aW)) ag
def dU:ae D->Res D:=fnS 1 1 nU
abbrev zE:bp:=top 10
noncomputable def aCj:ah->aw:=λi=>aj
def aCk:FS:=lY (XX (bCh (n_ .le) (n_ .le) fM (aQ vQ (aC cT aW)) FN) (aQ (cU 1 dU) (aC cT aW))) ag
def mG:ae D->Res D:=fnS 1 1 aCk
abbrev lD:bp:=top 12
noncomputable def RQ:ah->aw:=λi=>aj
def RT:FS:=lY (aQ aR7 (aC (fO 1 (bW cT aj) v6 gD (aQ (cU 1 mG) (aC c7 aW)) ag) aW)) ag
def dF:ae D->Res D:=fnS 1 1 RT
abbrev uV:bp:=top 15
noncomputable def Y8:ah->aw:=λi=>aj
def Y9:FS:=bU (sIf (bTB (b2 (gG .notin) (bC (.str "=")) cT)) (lY (bC .non) ag) jT) (bU (cZ aj 1 (bM CQ cT (aC (bC (.str "=")) aW)) ag) (bU (cZ aj 2 (CK cT lX (j8 c7)) ag) (bU (cZ aj 3 (CK cT (j8 (b2 (cO .add) c7 fM)) lX) ag) (bU (sIf (aEm (XS (bTB (bCh (n_ .le) (n_ .le) uJ (aQ vQ (aC fL aW)) aRu)) (XS (bTB (bCh (n_ .le) (n_ .le) fM (aQ vQ (aC fB aW)) (bC (.int 40)))) (XS (bTr (aQ (cU 1 dF) (aC fL aW))) (bTr (aQ (cU 1 dF) (aC fB aW))))))) (lY (bC .non) ag) jT) (lY (jR (aC (b2 getD fL g_) (aC (b2 getD fL fM) (aC (CK fL (j8 uJ) lX) (aC fB aW))))) aj)))))
def mV:ae D->Res D:=fnS 1 4 Y9
abbrev HX:bp:=top 14
noncomputable def aG3:ah->aw:=λi=>aj
def aG4:FS:=bU (cZ aj 1 (aQ fV (aC (CK cT (j8 fM) lX) aW)) aj) (bU (sIf (bTB (b2 (gG .eq) (b2 getD cT g_) (bC (.str "rule")))) (lY (aQ (cU 1 mV) (aC c7 aW)) ag) jT) (bU (sIf (aEm (bTr (aQ (cU 1 dF) (aC c7 aW)))) (lY (bC .non) ag) jT) (bU (sIf (XS (bTB (b2 (gG .eq) (b2 getD cT g_) (bC (.str "kind")))) (bTB (b2 (gG .eq) (aQ vQ (aC c7 aW)) fM))) (lY (b2 getD c7 g_) aj) jT) (bU (sIf (XS (bTB (b2 (gG .eq) (b2 getD cT g_) (bC (.str "maker")))) (bTB (bCh (n_ .le) (n_ .le) uJ (aQ vQ (aC c7 aW)) aMh))) (lY (jR (aC (b2 getD c7 g_) (aC (b2 getD c7 fM) (aC (CK c7 (j8 uJ) lX) aW)))) aj) jT) (bU (sIf (XS (bTB (b2 (gG .eq) (b2 getD cT g_) (bC (.str "taker")))) (bTB (bCh (n_ .le) (n_ .le) J7 (aQ vQ (aC c7 aW)) aMh))) (lY (jR (aC (b2 getD c7 g_) (aC (b2 getD c7 fM) (aC (b2 getD c7 uJ) (aC (CK c7 (j8 J7) lX) aW))))) aj) jT) (lY (bC .non) ag))))))
def sI:ae D->Res D:=fnS 1 2 aG4
abbrev aCl:bp:=top 13
noncomputable def aPo:ah->aw:=λi=>i==1
def aPp:FS:=bU (aTy 1 (aTz ["kind","maker","taker","rule"])) (bU (O3 (V1 1 (bM splitM cT (aC (bC (.str "\n")) aW)) ag) (tgN [2,3]) (sIf (bTB (b2 (gG .ne) fB (bC (.str "")))) (bU (cZ aj 4 (bM splitM fB (aC (bC (.str " ")) aW)) ag) (bU (cZ aj 5 (aQ (cU 1 sI) (aC lF aW)) ag) (bU (sIf (bTB (b2 (gG .isN) nF (bC .non))) vU jT) (aC8 1 (b2 getD lF g_) nF)))) jT)) (lY (jR (aC (aQ fV (aC (b2 getD c7 (bC (.str "kind"))) aW)) (aC (aQ fV (aC (b2 getD c7 (bC (.str "maker"))) aW)) (aC (aQ fV (aC (b2 getD c7 (bC (.str "taker"))) aW)) (aC (aQ fV (aC (b2 getD c7 (bC (.str "rule"))) aW)) aW))))) aj))
def MK:ae D->Res D:=fnS 1 6 aPp
abbrev aCm:bp:=top 26
noncomputable def aPq:ah->aw:=λi=>aj
def aPr:FS:=bU (cZ aj 2 (aQ fV (aC (bM splitM c7 (aC (bC (.str " ")) aW)) aW)) aj) (bU (sIf (bOr (bTB (b2 (n_ .gt) (aQ vQ (aC fL aW)) (bC (.int 60)))) (aEm (bTr (aQ (cU 1 dF) (aC fL aW))))) vU jT) (bU (cZ aj 3 (aQ (cU 1 dJ) (aC cT aW)) ag) (bU (vR (aQ (cU 4 eG) (aC fB (aC fL (aC (b2 getD (aQ (cU 3 jE) (aC fB (aC (b2 getD fL g_) (aC (bC (.dct [])) aW)))) g_) (aC (bC (.dct [])) aW)))))) (lY fL aj))))
def MN:ae D->Res D:=fnS 2 4 aPr
abbrev iW:bp:=top 33
noncomputable def Y_:ah->aw:=λi=>aj
def ZC:FS:=bU (noE (cZ aj 3 (aQ (cU 1 uU) (aC (aQ (cU 1 MK) (aC cT aW)) aW)) ag)) (bU (cZ aj 4 (aQ (cU 3 jO) (noE (aC fB (aC (aQ (cU 2 MN) (aC fB (aC c7 aW))) (aC fL aW))))) ag) (noE (lY (jR (aC (bM YF (bC (.str " ")) (aC (b2 getD lF g_) aW)) (aC (b2 getD lF fM) (aC (b2 getD lF uJ) (aC (b2 getD lF J7) aW))))) aj)))
def fK:ae D->Res D:=fnS 3 5 ZC
abbrev fG:bp:=top 37
noncomputable def RV:ah->aw:=λi=>aj
def RW:FS:=bU (YZ (fO 11 (J8 (aC aR4 aW) FP) v6 gD (aQ (cU 2 bL) (aC cT (aC QD aW))) ag) [1,2,3,4]) (bU (YZ (fO 11 (J8 (aC uJ aW) FP) v6 gD (aQ (cU 2 bL) (aC cT (aC (b2 (cO .add) FN QD) aW))) ag) [5,6]) (bU (YZ (fO 11 (J8 (aC J7 aW) FP) v6 gD (aQ (cU 2 bL) (aC cT (aC (b2 (cO .add) (bC (.int 12)) QD) aW))) ag) [7,8,9]) (bU (cZ aj 10 (bFz (lG (aC (bFz (lG (aC (bC (.str "kind")) (aC (bPu c7) aW)))) (aC (bFz (lG (aC (bC (.str "maker")) (aC (bPu fL) (aC (bPu c7) aW))))) (aC (bFz (lG (aC (bC (.str "maker")) (aC (bPu fB) (aC (bPu c7) (aC (bPu c7) aW)))))) (aC (bFz (lG (aC (bC (.str "maker")) (aC (bPu lF) (aC (bPu c7) (aC (bPu c7) (aC (bPu c7) aW))))))) aW)))))) ag) (bU (cZ aj 10 (bFz (b2 aKv E_ (lG (aC (bFz (lG (aC (bC (.str "taker")) (aC (bPu nF) (aC (bPu c7) (aC (bPu c7) aW)))))) (aC (bFz (lG (aC (bC (.str "taker")) (aC (bPu lM) (aC (bPu c7) (aC (bPu c7) (aC (bPu c7) aW))))))) aW))))) ag) (bU (cZ aj 10 (bFz (b2 aKv E_ (lG (aC (bFz (lG (aC (bC (.str "rule")) (aC (bPu nF) (aC (bPu fL) (aC (bC (.str "=")) (aC (bPu fL) aW))))))) (aC (bFz (lG (aC (bC (.str "rule")) (aC (bPu nF) (aC (bPu fB) (aC (bPu n6) (aC (bC (.str "=")) (aC (bPu nF) (aC (bPu n6) aW))))))))) aW))))) ag) (bU (cZ aj 10 (bFz (b2 aKv E_ (lG (aC (bFz (lG (aC (bC (.str "rule")) (aC (bPu nF) (aC (bPu lF) (aC (bPu n6) (aC (bPu aJc) (aC (bC (.str "=")) (aC (bPu fL) aW))))))))) (aC (bFz (lG (aC (bC (.str "rule")) (aC (bPu lM) (aC (bPu fL) (aC (bPu aDv) (aC (bC (.str "=")) (aC (bPu aDv) aW)))))))) aW))))) ag) (bU (cZ aj 10 (bFz (b2 aKv E_ (lG (aC (bFz (lG (aC (bC (.str "rule")) (aC (bPu lM) (aC (bPu fB) (aC (bPu n6) (aC (bPu aDv) (aC (bC (.str "=")) (aC (bPu lM) (aC (bPu n6) (aC (bPu lF) (aC (bPu aDv) (aC (bPu aDv) aW))))))))))))) aW)))) ag) (bU (cZ aj 10 (bFz (b2 aKv E_ (lG (aC (bFz (lG (aC (bC (.str "rule")) (aC (bPu lM) (aC (bPu lF) (aC (bPu n6) (aC (bPu aJc) (aC (bPu aDv) (aC (bC (.str "=")) (aC (bPu aDv) aW)))))))))) aW)))) ag) (lY (bM joinM (bC (.str "\n")) (aC (fO 11 (aPd E_) v6 gD (bM RK (bC (.str " ")) (aC QD aW)) ag) aW)) ag)))))))))
def gY:ae D->Res D:=fnS 1 11 RW
abbrev HY:bp:=top 38
noncomputable def o_law:ah->aw:=λi=>aj
def aSr:FS:=bU (cZ aj 1 g_ ag) (bU (O3 (aEz (CK cT lX (j8 (bC (.int 400)))) ag) (tgN [2,3]) (cZ aj 1 (b2 (cO .add) c7 (b2 GQ (b2 (cO .mod) fB (bC (.int 1000003))) (b2 (cO .add) fL fM))) ag)) (bU (cZ aj 1 (b2 (cO .mod) c7 (bC (.int 40))) ag) (bU (cZ aj 4 (aQ (cU 2 bL) (aC cT (aC fM aW))) ag) (bU (cZ aj 5 (aQ (cU 2 bL) (aC cT (aC uJ aW))) ag) (bU (cZ aj 6 (b2 (cO .add) (b2 (cO .add) (b2 (cO .add) (b2 (cO .add) (lG (aC (aQ (cU 2 bL) (aC cT (aC (bC (.int 9)) aW))) aW)) (b2 aKr (lG (aC (bPu nF) aW)) aMh)) (lG (aC (aQ (cU 2 bL) (aC cT (aC FN aW))) aW))) (b2 aKr (lG (aC (bPu nF) aW)) c7)) (lG (aC (bPu lF) aW))) ag) (bU (cZ aj 7 (b2 (cO .add) (b2 aKr (lG (aC (bPu nF) aW)) (bC (.int 10))) (lG (aC (bPu lF) aW))) ag) (bU (cZ aj 6 (b2 (cO .add) lM n6) ag) (bU (O3 (J8 (aC aMh aW) FP) (tg1 2) (cZ aj 7 (b2 (cO .add) (b2 (cO .add) (lG (aC (aQ (cU 2 bL) (aC cT (aC J7 aW))) aW)) n6) n6) ag)) (bU (cZ aj 8 (jR (aC (bM joinM (bC (.str " ")) (aC n6 aW)) (aC (b2 (cO .add) aRu c7) (aC (bC (.int 367)) (aC g_ aW))))) ag) (bU (sIf (bTB (b2 (n_ .gt) c7 QF)) (cZ aj 8 (bC .non) ag) jT) (bU (cZ aj 9 (bC .non) ag) (bU (RJ (cZ aj 9 (aQ (Z0 3 fK [.int 400]) (noE (aC (aQ (cU 1 gY) (aC cT aW)) (aC (bM joinM (bC (.str " ")) (aC lM aW)) aW)))) ag) ["Spent"] 9) (lY (b2 (gG .eq) aDv aJc) ag)))))))))))))
def ZD:ae D->Res D:=fnS 1 10 aSr
noncomputable abbrev C_:ae Str:=["program","heads","name","kind","parts","taken","more"]
noncomputable abbrev DG:ae Str:=["value","found","waiting","node"]
noncomputable abbrev aCn:ae Str:=["program","words","most","plain","value"]
noncomputable abbrev zF:ae Str:=["script","k","cell","mixed"]
noncomputable abbrev zG:ae Str:=["script","i","letters","draw","pad","place","tail"]
noncomputable abbrev MP:ae Str:=["heads","word","known"]
noncomputable abbrev vN:ae Str:=["heads","words","wanted","known","waiting","word","head"]
noncomputable abbrev aPs:ae Str:=["seen","name"]
noncomputable abbrev sJ:ae Str:=["heads","taker","maker","names","seen","kinds","taken","name"]
noncomputable abbrev eX:ae Str:=["program","seen","heads","makers","takers","ahead","taker","maker","names","words"]
noncomputable abbrev cL:ae Str:=["program","ruled","taker","kind","taken","more","maker"]
noncomputable abbrev sO:ae Str:=["program","kinds","kind"]
noncomputable abbrev aCo:ae Str:=["program","seen","name","kind","parts","taken","more"]
noncomputable abbrev bD:ae Str:=["word"]
noncomputable abbrev lE:ae Str:=["words"]
noncomputable abbrev DK:ae Str:=["rest","place","heads","words"]
noncomputable abbrev V2:ae Str:=["words","rest"]
noncomputable abbrev aI0:ae Str:=["text","rows","count","line","words","row"]
noncomputable abbrev aI1:ae Str:=["program","text","words","heads"]
noncomputable abbrev DN:ae Str:=["text","term_text","most","program","found"]
noncomputable abbrev dG:ae Str:=["script","kind","leaf","one","two","pass_on","twofold","x","w","y","rows"]
noncomputable abbrev aPt:ae Str:=["script","many","k","cell","leaf","one","words","thing","due","found"]
def RX:bG C_ ["program"] (aH uQ):=0xa
def MT[KFrag](hK:KFrag.K=K)(B:Bt mg)(F:Fun K "heads_of" "heads_of" uQ fad fd)(hm:mg "heads_of"=aa (.ref fad)):cV P w K mg base 1 "heads_of" 1 dJ:=by
 have sc:=RX;have nd:=sc.nd;refine gH (ps:=["program"]) (N:=C_) (k:=0) F hm (F.binds λ_ _ _ _ _ _ us hl=>by obtain⟨_,rfl⟩:=Mi.l1 hl;rfl) sc Y4 0x4 0x4 λcdv A outer s H E hr=>?_
 have hu:=t_ hr;exact aK (bT (i:=1) (o:=ag) rfl sc.nd rfl 0x0 (v_)) (aK (nA fI rfl (dW (bI (aB (i:=0)) aL)) (nH _ (is:=[2,3,4]) 0x4) (m8 rfl (aZ (aR (i:=2) sc.nd rfl 0x0) (aZ (aR (i:=3) sc.nd rfl 0x0) (aZ (aR (i:=4) sc.nd rfl 0x0) (gU))))) (aV (aAr (i:=1) hu rfl rfl 0x0 (aB (i:=2)) (d9 (aA (aB (i:=3)) (aA (aB (i:=4)) aJ)))))) (aK (nA fI rfl (dW (bI (aB (i:=0)) aL)) (nH _ (is:=[2,3,5,6]) 0x4) (m8 rfl (aZ (aR (i:=2) sc.nd rfl 0x0) (aZ (aR (i:=3) sc.nd rfl 0x0) (aZ (aR (i:=5) sc.nd rfl 0x0) (aZ (aR (i:=6) sc.nd rfl 0x0) (gU)))))) (aV (aAr (i:=1) hu rfl rfl 0x0 (aB (i:=2)) (d9 (aA (aB (i:=3)) (aA (bY GZ (d9 (aA (aB (i:=5)) aJ)) (aB (i:=6))) aJ)))))) (aV (aJo (i:=1) rfl rfl 0x0))))
def RZ:bG DG ["value"] (aH uR):=0xa
def M3[KFrag](hK:KFrag.K=K)(B:Bt mg)(F:Fun K "words_of" "words_of" uR fad fd)(hm:mg "words_of"=aa (.ref fad)):cV P w K mg base 1 "words_of" 1 iV:=by
 have sc:=RZ;have nd:=sc.nd;refine gH (ps:=["value"]) (N:=DG) (k:=0) F hm (F.binds λ_ _ _ _ _ _ us hl=>by obtain⟨_,rfl⟩:=Mi.l1 hl;rfl) sc Y6 0x4 0x4 λcdv A outer s H E hr=>?_
 have hu:=t_ hr;exact aK (bT (i:=1) (o:=ag) rfl sc.nd rfl 0x0 (cY aJ)) (aK (bT (i:=2) (o:=ag) rfl sc.nd rfl 0x0 (cY (aA (cA (aB (i:=0))) aJ))) (aK (aOe fI (xX (aB (i:=2))) (aK (aJz (i:=2) (j:=3) rfl rfl 0x0 sc.nd rfl 0x0 rfl) (aK (aO0 (i:=1) rfl rfl 0x0 (bI (aB (i:=3)) aL)) (aV (aHm (i:=2) rfl rfl 0x0 (aBo 0x3 0x3 B.list 0x3 B.reversed (bI (aB (i:=3)) aL))))))) (aV (dX (fC jK 0x3 B.tuple jL (aA (aB (i:=1)) aJ))))))
def aG5:bG (["self","words","known"]:ae Str) ["self","words","known"] (aH nP):=0xa
def aCp[KFrag](hK:KFrag.K=K)(B:Bt mg)(cls:Cls K C)(na:∀f∈mD.map (·.1),cG K C f)(F:Fun K "__init__" "Frame.__init__" nP fad fd):j4 P w K mg base CX0 1 fad fd ["self","words","known"] (aFg C mD 2):=by
 have sc:=aG5;have nd:=sc.nd;refine aHs (N:=(["self","words","known"]:ae Str)) (ps:=["self","words","known"]) (k:=0) F sc rfl rfl cls 0x6 na 0x4 λcdv A outer s H E hr=>?_
 have hu:=t_ hr;exact bO (jH (a_ (i:=0) rfl 0x0) (a_ (i:=1) rfl 0x0) rfl) (bO (jH (a_ (i:=0) rfl 0x0) (dC (jV hK) 0x3 B.len jX (aA (aB (i:=1)) aJ)) rfl) (bO (jH (a_ (i:=0) rfl 0x0) (a_ (i:=2) rfl 0x0) rfl) (uH)))
def R3:bG (["self","program","most"]:ae Str) ["self","program","most"] (aH eQ):=0xa
def M4[KFrag](hK:KFrag.K=K)(B:Bt mg)(pE:cV P w K mg base 1 "heads_of" 1 dJ)(cls:Cls K C)(na:∀f∈fJ.map (·.1),cG K C f)(F:Fun K "__init__" "PlainRun.__init__" eQ fad fd):j4 P w K mg base CX0 2 fad fd ["self","program","most"] (aFg C fJ 2):=by
 have sc:=R3;have nd:=sc.nd;refine aHs (N:=(["self","program","most"]:ae Str)) (ps:=["self","program","most"]) (k:=1) F sc rfl rfl cls 0x6 na 0x4 λcdv A outer s H E hr=>?_
 have hu:=t_ hr;exact bO (jH (a_ (i:=0) rfl 0x0) (aY pE hr 0x4 0x3 (aA (aB (i:=1)) aJ)) rfl) (bO (jH (a_ (i:=0) rfl 0x0) (aBp 0x3 0x3 B.dict (iR (ownN:=(["maker"]:ae Str)) (show dH (["self","program","most"]:ae Str) (aH eQ) _ (["maker"]:ae Str) from 0x9) (n:=3) (m:=1) rfl rfl rfl (dW (bI (aB (i:=1)) aL)) (iH 3) (λ_=>aR (i:=3) (show((d5 (iQ (["maker"]:ae Str)) (["self","program","most"]:ae Str)++(["maker"]:ae Str)):ae Str).Nodup from 0x6) rfl 0x0) (λ_=>d9 (aA (bI (aB (i:=3)) aL) (aA aAn aJ))) (λ_=>rfl))) rfl) (bO (jH (a_ (i:=0) rfl 0x0) (YW 0x3 hu 0x3 B.dict (iR (ownN:=(["rule"]:ae Str)) (show dH (["self","program","most"]:ae Str) (aH eQ) _ (["rule"]:ae Str) from 0x9) (n:=3) (m:=1) rfl rfl rfl (dW (bI (aB (i:=1)) aL)) (iH 3) (λ_=>aR (i:=3) (show((d5 (iQ (["rule"]:ae Str)) (["self","program","most"]:ae Str)++(["rule"]:ae Str)):ae Str).Nodup from 0x6) rfl 0x0) (λ_=>d9 (aA (d9 (aA (bI (aB (i:=3)) aL) (aA (bI (aB (i:=3)) aL) aJ))) (aA (aB (i:=3)) aJ))) (λ_=>rfl))) rfl) (bO (jH (a_ (i:=0) rfl 0x0) (a_ (i:=2) rfl 0x0) rfl) (bO (jH (a_ (i:=0) rfl 0x0) aL rfl) (bO (jH (a_ (i:=0) rfl 0x0) aL rfl) (bO (jH (a_ (i:=0) rfl 0x0) aL rfl) (uH)))))))
def R4:bG (["self","words","frames","values","frame"]:ae Str) ["self","words"] (aH eU):=0xa
def M5:bG (["self","frames","values","word","known","parts"]:ae Str) ["self","frames","values","word"] (aH dN):=0xa
def aCq:bG (["self","taker","parts","taken","rule","known","name","value"]:ae Str) ["self","taker","parts"] (aH k_):=0xa
def H_:bG (["self","uses","size"]:ae Str) ["self","uses","size"] (aH eF):=0xa
def aSs(σ:L2.St)(H:Hp)(Q Q':ae V->Hp->Prop)(h:∀vs H',Q vs H'->Q' vs H')(x:(dM (gQ 1) (dM T3 xF)) σ H Q):(dM (gQ 1) (dM T3 xF)) σ H Q':=by
 obtain⟨v,e,q⟩:=x;exact⟨v,e,λp hp=>h _ _ (q p hp)⟩
def aSt[KFrag](σ:L2.St)(H:Hp)(Q Q':ae V->Hp->Prop)(h:∀vs H',Q vs H'->Q' vs H')(x:(dM (gE cf7 aj) (dM (gQ 5) xF)) σ H Q):(dM (gE cf7 aj) (dM (gQ 5) xF)) σ H Q':=by
 obtain⟨ρ,d,e,e2,q⟩:=x;exact⟨ρ,d,e,e2,λv H' s r n=>let ⟨u,z,q⟩:=q v H' s r n;⟨u,z,h _ _ q⟩⟩
def aSu(σ:L2.St)(H:Hp)(Q Q':ae V->Hp->Prop)(h:∀vs H',Q vs H'->Q' vs H')(x:(dM (gQ 0) (dM (gQ 2) xF)) σ H Q):(dM (gQ 0) (dM (gQ 2) xF)) σ H Q':=by
 obtain⟨v,e,u,z,q⟩:=x;exact⟨v,e,u,z,h _ _ q⟩
def aPu[KFrag](ws:ae D)(kn:ae (D×D))(h:δ ws=ag)(hk:δ (kn.map (·.2))=ag):evS [.uD,.tup ws,.dct kn] mD=.ok [("words",.tup ws),("left",.int ws.length),("known",.dct kn)]:=by
 have h1:okF (.tup ws)=ag:=by unfold okF;rw[ξ,h];rfl
 have e3:evS [.uD,.tup ws,.dct kn] [("known",.par 2)]=.ok [("known",.dct kn)]:=by
  show(if okF (.dct kn)=ag then τ [(("known" : Str),χ kn)] else .bad)=_;rw[aq (HD hk)]
 have e2:evS [.uD,.tup ws,.dct kn] [("left",.exp (aQ vQ (aC c7 aW))),("known",.par 2)]=.ok [("left",.int ws.length),("known",.dct kn)]:=by
  show(do let ds <- evS [.uD,.tup ws,.dct kn] [("known",.par 2)];if okF (.int ws.length)=ag then τ ((("left" : Str),ι ws.length)::ds) else .bad)=_;rw[e3];rfl
 show(do let ds <- evS [.uD,.tup ws,.dct kn] [("left",.exp (aQ vQ (aC c7 aW))),("known",.par 2)];if okF (.tup ws)=ag then τ ((("words" : Str),μ ws)::ds) else .bad)=_;rw[e2,θ,aq h1]
def gC[KFrag](hK:KFrag.K=K)(B:Bt mg)(cl:Cls K C)(nq:cG K C "drops")(np:cG K C "copies")(F:Fun K "count_uses" "PlainRun.count_uses" eF fad fd):j4 P w K mg base CX0 1 fad fd ["self","uses","size"] (aMk C):=by
 have sc:=H_;have nd:=sc.nd;refine F.ok (N:=(["self","uses","size"]:ae Str)) (k:=0) sc (λvs H Q E h=>aP8 h) λcdv A outer s H vs Q E hr h=>⟨tCU K,?_,aKg rfl cl nq np h⟩
 exact(dD (DW (Z5 (aH4 (a_ (i:=1) rfl 0x0) oA)) (dD (jH (a_ (i:=0) rfl 0x0) (JT (jG (a_ (i:=0) rfl 0x0) rfl) (a_ (i:=2) rfl 0x0)) rfl)) (dD (jH (a_ (i:=0) rfl 0x0) (JT (jG (a_ (i:=0) rfl 0x0) rfl) (aMt (aH2 (a_ (i:=1) rfl 0x0) oA) (a_ (i:=2) rfl 0x0))) rfl))))
def mH[KFrag](hK:KFrag.K=K)(B:Bt mg)(q_Frame:aMj P w K mg base 1 "Frame" mD 2)(hC:nsIn K bt "PlainRun"=aa (aa (.ref C)))(hCF:nsIn K bt "Frame"=aa (aa (.ref CF)))(cl:Cls K C)(nc:cG K C "calls")(np:cG K C "copies")(nq:cG K C "drops")(nm:cG K C "most")(fr:O4 K "PlainRun" "rules")(mS:mg "Spent"=aa (.ref CS))(xS:excIn K CS aS4 "ValueError.__new__"=ag)(M:Meth K C "count_uses" fm)(T:j4 P w K mg base CX0 1 fm fdm psm (aMk C))(hb:Binds K fdm psm [])(F:Fun K "called" "PlainRun.called" k_ fad fd):j4 P w K mg base (CX2 P w) 3 fad fd ["self","taker","parts"] (aC1 CF CS):=by
 have sc:=aCq;have nd:=sc.nd;refine aSg (N:=(["self","taker","parts","taken","rule","known","name","value"]:ae Str)) (k:=2) F sc (λvs H Q E h=>aKo h) λcdv A outer s H vs Q E hr h=>⟨aTm K C CS mD E,?_,aFm rfl hK hC hCF cl nc np nq nm aPu h⟩
 have hu:=t_ hr;exact(bO (m9 (bI (aB (i:=2)) aL) (aR (i:=3) sc.nd rfl 0x0)) (bO (m9 (bI (K8 hK fr (aB (i:=0))) (d9 (aA (aB (i:=1)) (aA (bI (aB (i:=3)) aL) aJ)))) (aR (i:=4) sc.nd rfl 0x0)) (bO (m9 (aFb 0x3 B.dict 0x3 B.zip (aA (bI (aB (i:=4)) aL) (aA (bY d_ (fC (aJj 0x3) 0x3 B.list aAt (aA (bI (aB (i:=3)) aL) aJ)) (oZ hK (aB (i:=2)) (kE aL) j_)) aJ))) (aR (i:=5) sc.nd rfl 0x0)) (bO (jH (a_ (i:=0) rfl 0x0) (JT (jG (a_ (i:=0) rfl 0x0) rfl) oA) rfl) (bO (aOu (S9 Dg rfl (aFa (i:=5) rfl 0x0) (m8 rfl (aZ (aR (i:=6) sc.nd rfl 0x0) (aZ (aR (i:=7) sc.nd rfl 0x0) gU))) (dD (iZ (DX (a_ (i:=0) rfl 0x0) cl M T (hr.mono 0x4) hb .nil aEh (b8 (z8 Dh zz PySem.F.type_tuple_count aBf (bI (aB (i:=4)) aL) (aA (aB (i:=6)) aJ) (λ_ _ _ _ _ h r=>aBg h r)) (b8 (bI (aB (i:=7)) aL) dY))))))) (bO (DW (Z5 (aRh (JT (JT (jG (a_ (i:=0) rfl 0x0) rfl) (jG (a_ (i:=0) rfl 0x0) rfl)) (jG (a_ (i:=0) rfl 0x0) rfl)) (jG (a_ (i:=0) rfl 0x0) rfl))) (dD (PS.imp (aF2 rfl 0x3 mS xS (b8 BP dY)) λD σ H hE=>⟨by decide,λΨ s h2 a us I hx=>aBx I hx hE⟩)) uH) (dD (BR (aKc q_Frame hr 0x4 0x3 (b8 (bI (aB (i:=4)) aL) (b8 (a_ (i:=5) rfl 0x0) dY)) (hmono:=aSt))))))))))
def iD[KFrag](hK:KFrag.K=K)(B:Bt mg)(hC:nsIn K bt "PlainRun"=aa (aa (.ref C)))(clF:Cls K CF)(nk:cG K CF "known")(cl:Cls K C)(fh:O4 K "PlainRun" "heads")(fm_:O4 K "PlainRun" "makers")(M:Meth K C "called" fm)(T:j4 P w K mg base (CX2 P w) 3 fm fdm psm (aC1 CF CS))(hb:Binds K fdm psm [])(F:Fun K "take_word" "PlainRun.take_word" dN fad fd):j4 P w K mg base (CX2 P w) 4 fad fd ["self","frames","values","word"] (aP4 CF CS):=by
 have sc:=M5;have nd:=sc.nd;refine aSg (N:=(["self","frames","values","word","known","parts"]:ae Str)) (k:=3) F sc (λvs H Q E h=>aP9 h) λcdv A outer s H vs Q E hr h=>⟨tTk K C CF CS E,?_,aKl rfl hK hC clF nk h⟩
 have hu:=t_ hr;exact(bO (m9 (jG (aA7 nD (a_ (i:=1) rfl 0x0) (aN0 aH5 oA) (λ_ _=>rfl)) rfl) (aR (i:=4) sc.nd rfl 0x0)) (dD (DW (dI (CP hK hu) (aB (i:=3)) (aB (i:=4)) 0x5) (dD (iZ (PQ iA l7 ou jQ (a_ (i:=2) rfl 0x0) (by exact(b8 (bI (aB (i:=4)) (aB (i:=3))) dY))))) (bO (aFo (own:=own1 2) (cn:= "kind") (show dH (["self","frames","values","word","known","parts"]:ae Str) (aH dN) _ (["kind"]:ae Str) from 0x9) (n:=6) rfl rfl rfl (dW (bI (bI (K8 hK fh (aB (i:=0))) (aB (i:=3))) aL)) (λ_=>aR (i:=6) (show((d5 (iQ (["kind"]:ae Str)) (["self","frames","values","word","known","parts"]:ae Str)++(["kind"]:ae Str)):ae Str).Nodup from 0x6) rfl 0x0) (λ_=>aKd (i:=2) rfl rfl 0x0) (λ_=>rfl) (iy:=5) sc.nd rfl 0x0 (oh rfl) 0x5) (dD (DW (dI (CP hK hu) (aB (i:=3)) (K8 hK fm_ (aB (i:=0))) 0x5) (dD (iZ (PQ iA l7 ou jQ (a_ (i:=2) rfl 0x0) (by exact(b8 (d9 (aA (aB (i:=3)) (aA (fC jK 0x3 B.tuple jL (aA (aB (i:=5)) aJ)) (aA (bY d_ aL (dC (aOa 0x3) 0x3 B.sum aOb (aA (iR (ownN:=(["part"]:ae Str)) (show dH (["self","frames","values","word","known","parts"]:ae Str) (aH dN) _ (["part"]:ae Str) from 0x9) (n:=6) (m:=1) rfl rfl rfl (dW (aB (i:=5))) (iH 6) (λ_=>aR (i:=6) (show((d5 (iQ (["part"]:ae Str)) (["self","frames","values","word","known","parts"]:ae Str)++(["part"]:ae Str)):ae Str).Nodup from 0x6) rfl 0x0) (λ_=>(bI (aB (i:=6)) aL)) (λ_=>rfl)) aJ))) aJ)))) dY))))) (dD (iZ (PQ iA l7 ou jQ (a_ (i:=1) rfl 0x0) (by exact(b8 (DX (a_ (i:=0) rfl 0x0) cl M T (hr.mono 0x4) hb .nil mU (b8 (a_ (i:=3) rfl 0x0) (b8 (a_ (i:=5) rfl 0x0) dY))) dY)))))))))))
def fH[KFrag](hK:KFrag.K=K)(B:Bt mg)(q_Frame:aMj P w K mg base 1 "Frame" mD 2)(hC:nsIn K bt "PlainRun"=aa (aa (.ref C)))(hCF:nsIn K bt "Frame"=aa (aa (.ref CF)))(clF:Cls K CF)(nl:cG K CF "left")(cl:Cls K C)(M:Meth K C "take_word" fm)(T:j4 P w K mg base (CX2 P w) 4 fm fdm psm (aP4 CF CS))(hb:Binds K fdm psm [])(fw:O4 K "Frame" "words")(fl:O4 K "Frame" "left")(F:Fun K "value_of" "PlainRun.value_of" eU fad fd):j4 P w K mg base (CX2 P w) 5 fad fd ["self","words"] (aC6 CS):=by
 have sc:=R4;have nd:=sc.nd;refine aSg (N:=(["self","words","frames","values","frame"]:ae Str)) (k:=4) F sc (λvs H Q E h=>aKp h) λcdv A outer s H vs Q E hr h=>⟨aTv K C CF CS mD E,?_,aFu rfl hK hC hCF clF nl aPu h⟩
 have hu:=t_ hr;exact(bO (m9 (xG (b8 (aKc q_Frame hr 0x4 0x3 (b8 (a_ (i:=1) rfl 0x0) (b8 T4 dY)) (hmono:=aSs)) dY)) (aR (i:=2) sc.nd rfl 0x0)) (bO (m9 (xG dY) (aR (i:=3) sc.nd rfl 0x0)) (bO (S8 Dg (S_ (a_ (i:=2) rfl 0x0) (λ_=>rfl)) (bO (m9 (aA7 nD (a_ (i:=2) rfl 0x0) (aN0 aH5 oA) (λ_ _=>rfl)) (aR (i:=4) sc.nd rfl 0x0)) (dD (DW (Z5 (aH4 (jG (a_ (i:=4) rfl 0x0) rfl) oA)) (dD (iZ (J4 iA n4 wx TX (a_ (i:=2) rfl 0x0)))) (bO (jH (a_ (i:=4) rfl 0x0) (aH2 (jG (a_ (i:=4) rfl 0x0) rfl) oA) rfl) (dD (iZ (DX (a_ (i:=0) rfl 0x0) cl M T (hr.mono 0x4) hb .nil mU (b8 (a_ (i:=2) rfl 0x0) (b8 (a_ (i:=3) rfl 0x0) (b8 (bI (K8 hK fw (aB (i:=4))) (K8 hK fl (aB (i:=4)))) dY))))))))))) (dD (BR (aA7 nD (a_ (i:=3) rfl 0x0) oA (λ_ _=>rfl)))))))
def aG6:bG aCn ["program","words","most"] (aH uT):=0xa
def IK[KFrag](hK:KFrag.K=K)(B:Bt mg)(rH:cV P w K mg base 1 "words_of" 1 iV)(q_PlainRun:aMj P w K mg base 2 "PlainRun" fJ 2)(hC:nsIn K bt "PlainRun"=aa (aa (.ref C)))(hS:nsIn K bt "Spent"=aa (aa (.ref CS)))(cl:Cls K C)(nc:cG K C "calls")(np:cG K C "copies")(nq:cG K C "drops")(M:Meth K C "value_of" fm)(T:j4 P w K mg base (CX2 P w) 5 fm fdm psm (aC6 CS))(hb:Binds K fdm psm [])(F:aMi K "worth" "worth" uT fad fd T' its):j4 P w K mg base (CX2 P w) 6 fad fd ["program","words","most"] (spZ jO 3):=by
 have sc:=aG6;have nd:=sc.nd;refine aSk (N:=aCn) (k:=5) F sc (λvs H Q E h=>aKq h) λcdv A outer s H vs Q E hr h=>⟨aTw K C CS fJ iV E,?_,aFv rfl hK hC hS cl nc np nq rfl h⟩
 have hu:=t_ hr;exact(bO (m9 (aKc q_PlainRun hr 0x4 0x3 (b8 (a_ (i:=0) rfl 0x0) (b8 (a_ (i:=2) rfl 0x0) dY)) (hmono:=aSu)) (aR (i:=3) sc.nd rfl 0x0)) (bO (m9 (DX (a_ (i:=3) rfl 0x0) cl M T (hr.mono 0x4) hb .nil mU (b8 (a_ (i:=1) rfl 0x0) dY)) (aR (i:=4) sc.nd rfl 0x0)) (dD (BR (aH7 (b8 (aY rH hr 0x4 0x3 (aA (aB (i:=4)) aJ)) (b8 (jG (a_ (i:=3) rfl 0x0) rfl) (b8 (jG (a_ (i:=3) rfl 0x0) rfl) (b8 (jG (a_ (i:=3) rfl 0x0) rfl) dY)))))))))
def M6:bG zF ["script","k"] (aH nQ):=0xa
def IV[KFrag](hK:KFrag.K=K)(B:Bt mg)(F:Fun K "_law_draw" "_law_draw" nQ fad fd)(hm:mg "_law_draw"=aa (.ref fad)):cV P w K mg base 1 "_law_draw" 2 bB:=by
 have sc:=M6;have nd:=sc.nd;refine gH (ps:=["script","k"]) (N:=zF) (k:=0) F hm (F.binds λ_ _ _ _ _ _ us hl=>by obtain⟨_,_,rfl⟩:=Mi.l2 hl;rfl) sc RL 0x4 0x4 λcdv A outer s H E hr=>?_
 have hu:=t_ hr;exact aK (bT (i:=2) (o:=aj) rfl sc.nd rfl 0x0 aL) (aK (jC (dI aKx (dC (jV hK) 0x3 B.len jX (aA (aB (i:=0)) aJ)) aL (g8 _)) (aV (bT (i:=2) (o:=aj) rfl sc.nd rfl 0x0 (bY iJ (bI (aB (i:=0)) (bY iJ (aB (i:=1)) (dC (jV hK) 0x3 B.len jX (aA (aB (i:=0)) aJ)))) aL))) cQ) (aK (bT (i:=3) (o:=aj) rfl sc.nd rfl 0x0 (bY iJ (bY uN (bY d_ (bY d_ (aB (i:=2)) aL) (bY uN aL (bY x_ (aB (i:=1)) (dC (aKy 0x3) 0x3 B.max aO3 (aA aL (aA (dC (jV hK) 0x3 B.len jX (aA (aB (i:=0)) aJ)) aJ)))))) aL) aL)) (aV (dX (bY iJ (bY uN (aB (i:=3)) (aB (i:=3))) aL)))))
def M7:bG zG ["script","i"] (aH nR):=0xa
def IW[KFrag](hK:KFrag.K=K)(B:Bt mg)(pi:cV P w K mg base 1 "_law_draw" 2 bB)(F:Fun K "_law_word" "_law_word" nR fad fd)(hm:mg "_law_word"=aa (.ref fad)):cV P w K mg base 2 "_law_word" 2 bL:=by
 have sc:=M7;have nd:=sc.nd;refine gH (ps:=["script","i"]) (N:=zG) (k:=1) F hm (F.binds λ_ _ _ _ _ _ us hl=>by obtain⟨_,_,rfl⟩:=Mi.l2 hl;rfl) sc RM 0x4 0x4 λcdv A outer s H E hr=>?_
 have hu:=t_ hr;exact aK (bT (i:=2) (o:=aj) rfl sc.nd rfl 0x0 bR) (aK (jC (PW.pt (xZ (dI (CP hK hu) (aB (i:=1)) (d9 (aA aL (aA aL aJ))) 0x5) (xY (dI (FQ hK hu) (bY iJ (aY pi hr 0x4 0x3 (aA (aB (i:=0)) (aA aL aJ))) aL) aL (g8 _))))) (aV (dX (bY d_ (bI (cY (aA bR (aA bR aJ))) (bY x_ (aB (i:=1)) aL)) (bI (aB (i:=2)) (bY iJ (aY pi hr 0x4 0x3 (aA (aB (i:=0)) (aA aL aJ))) aL))))) cQ) (aK (bT (i:=3) (o:=aj) rfl sc.nd rfl 0x0 (aY pi hr 0x4 0x3 (aA (aB (i:=0)) (aA aL aJ)))) (aK (bT (i:=4) (o:=aj) rfl sc.nd rfl 0x0 (bI (cY (aA (cA (bI (aB (i:=2)) (bY iJ (aB (i:=3)) aL))) (aA (cA (bI bR (bY iJ (bY x_ (aB (i:=3)) aL) aL))) aJ))) (bY iJ (bY x_ (aB (i:=3)) aL) aL))) (aK (bT (i:=5) (o:=aj) rfl sc.nd rfl 0x0 (bY iJ (aY pi hr 0x4 0x3 (aA (aB (i:=0)) (aA aL aJ))) aL)) (aK (bT (i:=6) (o:=aj) rfl sc.nd rfl 0x0 (bY iJ (aY pi hr 0x4 0x3 (aA (aB (i:=0)) (aA aL aJ))) (bY aHc aL (aB (i:=5))))) (aK (jC (dI (FQ hK hu) (bY iJ (bY x_ (aY pi hr 0x4 0x3 (aA (aB (i:=0)) (aA aL aJ))) aL) aL) aL (g8 _)) (aV (bT (i:=6) (o:=aj) rfl sc.nd rfl 0x0 (bY iJ (aY pi hr 0x4 0x3 (aA (aB (i:=0)) (aA (bY d_ aL (aB (i:=1))) aJ))) (bY aHc aL (aB (i:=5)))))) cQ) (aV (dX (bY d_ (bY d_ (bY uN (aB (i:=4)) (aB (i:=5))) (bI (aB (i:=2)) (bY iJ (bY d_ (aB (i:=1)) (aY pi hr 0x4 0x3 (aA (aB (i:=0)) (aA aL aJ)))) aL))) (bY uN (aB (i:=4)) (aB (i:=6))))))))))))
def ZF:bG MP ["heads","word","known"] (aH y_):=0xa
def R5[KFrag](hK:KFrag.K=K)(B:Bt mg)(F:Fun K "head_of" "head_of" y_ fad fd)(hm:mg "head_of"=aa (.ref fad)):cV P w K mg base 3 "head_of" 3 jE:=by
 have sc:=ZF;have nd:=sc.nd;refine gH (ps:=["heads","word","known"]) (N:=MP) (k:=2) F hm (F.binds λ_ _ _ _ _ _ us hl=>by obtain⟨_,_,_,rfl⟩:=Mi.l3 hl;rfl) sc aCh 0x4 0x4 λcdv A outer s H E hr=>?_
 have hu:=t_ hr;exact aK (jC (dI (CP hK hu) (aB (i:=1)) (aB (i:=0)) 0x5) (aV (dX (bI (aB (i:=0)) (aB (i:=1))))) cQ) (aK (jC (dI (CP hK hu) (aB (i:=1)) (aB (i:=2)) 0x5) (aV (dX (d9 (aA (bI (aB (i:=2)) (aB (i:=1))) (aA (d9 aJ) aJ))))) cQ) (aV (lH)))
def I_:bG vN ["heads","words","wanted","known"] (aH mF):=0xa
def z9[KFrag](hK:KFrag.K=K)(B:Bt mg)(ql:cV P w K mg base 3 "head_of" 3 jE)(F:Fun K "walk_words" "walk_words" mF fad fd)(hm:mg "walk_words"=aa (.ref fad)):cV P w K mg base 4 "walk_words" 4 eG:=by
 have sc:=I_;have nd:=sc.nd;refine gH (ps:=["heads","words","wanted","known"]) (N:=vN) (k:=3) F hm (F.binds λ_ _ _ _ _ _ us hl=>by obtain⟨_,_,_,_,rfl⟩:=Mi.l4 hl;rfl) sc MF 0x4 0x4 λcdv A outer s H E hr=>?_
 have hu:=t_ hr;exact aK (bT (i:=4) (o:=ag) rfl sc.nd rfl 0x0 (cY (aA (cA (aB (i:=2))) aJ))) (aK (QW (i:=1) rfl fI rfl rfl 0x0 (uM (i:=5) rfl) (aR (i:=5) sc.nd rfl 0x0) (aK (jC (T9 (xX (aB (i:=4)))) (aV (lH)) cQ) (aK (bT (i:=6) (o:=aj) rfl sc.nd rfl 0x0 (aY ql hr 0x4 0x3 (aA (aB (i:=0)) (aA (aB (i:=5)) (aA (aB (i:=3)) aJ))))) (aK (aS7 (aK9 (aEr hK hu) (cA (bI (aB (i:=6)) aL)) (aK5 (i:=4) rfl rfl 0x0) (g8 _)) (aV (lH)) cQ) (aV (aHm (i:=4) rfl rfl 0x0 (aBo 0x3 0x3 B.list 0x3 B.reversed (bI (aB (i:=6)) aL)))))))) (aV (jC (xX (aB (i:=4))) (aV (lH)) cQ)))
def aPv:bG aPs ["seen","name"] (aH aL7):=0xa
def aLa[KFrag](hK:KFrag.K=K)(B:Bt mg)(F:Fun K "see" "see" aL7 fad fd)(hm:mg "see"=aa (.ref fad)):aBr P w K mg base 3 "see":=by
 have sc:=aPv;have nd:=sc.nd;refine aOs (ps:=["seen","name"]) (N:=aPs) (k:=2) F hm (F.binds λ_ _ _ _ _ _ us hl=>by obtain⟨_,_,rfl⟩:=Mi.l2 hl;rfl) sc rfl rfl λcdv A outer s H E hr=>?_
 have hu:=t_ hr;exact bO (DW (dI (aNx hK hu) (aB (i:=1)) (aB (i:=0)) 0x5) (λ_ _ _ _ _ _ h=>h.elim) uH) (dD (aKa (i:=0) hu rfl 0x0 (aB (i:=1)) aAn rfl rfl rfl))
def A_:bG sJ ["heads","taker","maker","names","seen"] (aH lA):=0xa
def zH[KFrag](hK:KFrag.K=K)(B:Bt mg)(pF:aBr P w K mg base 3 "see")(F:Fun K "known_names" "known_names" lA fad fd)(hm:mg "known_names"=aa (.ref fad)):cV P w K mg base 4 "known_names" 5 eV:=by
 have sc:=A_;have nd:=sc.nd;refine gH (ps:=["heads","taker","maker","names","seen"]) (N:=sJ) (k:=3) F hm (F.binds λ_ _ _ _ _ _ us hl=>by obtain⟨_,_,_,_,_,rfl⟩:=Mi.l5 hl;rfl) sc HN 0x4 0x4 λcdv A outer s H E hr=>?_
 have hu:=t_ hr;exact aK (bT (i:=5) (o:=aj) rfl sc.nd rfl 0x0 (bY GZ (bI (bI (aB (i:=0)) (aB (i:=2))) aL) (oZ hK (bI (bI (aB (i:=0)) (aB (i:=1))) aL) (kE aL) (j_)))) (aK (jC (dI (aEr hK hu) (dC (jV hK) 0x3 B.len jX (aA (aB (i:=3)) aJ)) (dC (jV hK) 0x3 B.len jX (aA (aB (i:=5)) aJ)) (g8 _)) (aV (lH)) cQ) (aK (bT (i:=6) (o:=ag) rfl sc.nd rfl 0x0 (fC aFy 0x3 B.dict aJr (aA (aB (i:=4)) aJ))) (aK (QW (i:=3) rfl fI rfl rfl 0x0 (uM (i:=7) rfl) (aR (i:=7) sc.nd rfl 0x0) (aV (VD (i:=6) pF hr 0x4 0x3 rfl rfl 0x0 (aB (i:=7))))) (aV (dX (aJx 0x3 B.dict 0x3 B.zip (aA (aB (i:=3)) (aA (aB (i:=5)) aJ))))))))
def BJ:bG eX ["program","seen"] (aH fZ):=0xa
def zJ[KFrag](hK:KFrag.K=K)(B:Bt mg)(pE:cV P w K mg base 1 "heads_of" 1 dJ)(rJ:cV P w K mg base 4 "known_names" 5 eV)(qm:cV P w K mg base 4 "walk_words" 4 eG)(F:Fun K "check_rules" "check_rules" fZ fad fd)(hm:mg "check_rules"=aa (.ref fad)):cV P w K mg base 5 "check_rules" 2 iT:=by
 have sc:=BJ;have nd:=sc.nd;refine gH (ps:=["program","seen"]) (N:=eX) (k:=4) F hm (F.binds λ_ _ _ _ _ _ us hl=>by obtain⟨_,_,rfl⟩:=Mi.l2 hl;rfl) sc HR 0x4 0x4 λcdv A outer s H E hr=>?_
 have hu:=t_ hr;exact aK (bT (i:=2) (o:=aj) rfl sc.nd rfl 0x0 (aY pE hr 0x4 0x3 (aA (aB (i:=0)) aJ))) (aK (GP (ownN:=(["maker"]:ae Str)) (show dH eX (aH fZ) _ (["maker"]:ae Str) from 0x9) (n:=10) (m:=1) rfl rfl rfl (dW (bI (aB (i:=0)) aL)) (iH 10) (λ_=>aR (i:=10) (show((d5 (iQ (["maker"]:ae Str)) eX++(["maker"]:ae Str)):ae Str).Nodup from 0x6) rfl 0x0) (λ_=>bI (aB (i:=10)) aL) (λ_=>rfl) (iy:=3) (o:=aj) rfl sc.nd rfl 0x0 (oh rfl) 0x5) (aK (GP (ownN:=(["taker"]:ae Str)) (show dH eX (aH fZ) _ (["taker"]:ae Str) from 0x9) (n:=10) (m:=1) rfl rfl rfl (dW (bI (aB (i:=0)) aL)) (iH 10) (λ_=>aR (i:=10) (show((d5 (iQ (["taker"]:ae Str)) eX++(["taker"]:ae Str)):ae Str).Nodup from 0x6) rfl 0x0) (λ_=>bI (aB (i:=10)) aL) (λ_=>rfl) (iy:=4) (o:=aj) rfl sc.nd rfl 0x0 (oh rfl) 0x5) (aK (bT (i:=5) (o:=ag) rfl sc.nd rfl 0x0 (v_)) (aV (nA fI rfl (dW (bI (aB (i:=0)) aL)) (nH _ (is:=[6,7,8,9]) 0x4) (m8 rfl (aZ (aR (i:=6) sc.nd rfl 0x0) (aZ (aR (i:=7) sc.nd rfl 0x0) (aZ (aR (i:=8) sc.nd rfl 0x0) (aZ (aR (i:=9) sc.nd rfl 0x0) (gU)))))) (aK (jC (dI (oX hK hu) (aB (i:=6)) (aB (i:=4)) 0x5) (aV (lH)) cQ) (aK (jC (dI (oX hK hu) (aB (i:=7)) (aB (i:=3)) 0x5) (aV (lH)) cQ) (aK (jC (dI (aEr hK hu) (bI (bI (aB (i:=2)) (aB (i:=7))) aL) (bI (bI (bI (aB (i:=2)) (aB (i:=6))) aL) aL) (g8 _)) (aV (lH)) cQ) (aK (jC (dI (CP hK hu) (d9 (aA (aB (i:=6)) (aA (aB (i:=7)) aJ))) (aB (i:=5)) 0x5) (aV (lH)) cQ) (aK (aAr (i:=5) hu rfl rfl 0x0 (d9 (aA (aB (i:=6)) (aA (aB (i:=7)) aJ))) aAn) (aV (uL (aY qm hr 0x4 0x3 (aA (aB (i:=2)) (aA (aB (i:=9)) (aA (bI (bI (aB (i:=2)) (aB (i:=6))) aL) (aA (aY rJ hr 0x4 0x3 (aA (aB (i:=2)) (aA (aB (i:=6)) (aA (aB (i:=7)) (aA (aB (i:=8)) (aA (aB (i:=1)) aJ)))))) aJ)))))))))))))))))
def vY:bG cL ["program"] (aH eN):=0xa
def uW[KFrag](hK:KFrag.K=K)(B:Bt mg)(F:Fun K "check_lacking" "check_lacking" eN fad fd)(hm:mg "check_lacking"=aa (.ref fad)):cV P w K mg base 3 "check_lacking" 1 gB:=by
 have sc:=vY;have nd:=sc.nd;refine gH (ps:=["program"]) (N:=cL) (k:=2) F hm (F.binds λ_ _ _ _ _ _ us hl=>by obtain⟨_,rfl⟩:=Mi.l1 hl;rfl) sc zA 0x4 0x4 λcdv A outer s H E hr=>?_
 have hu:=t_ hr;exact aK (GP (ownN:=(["rule"]:ae Str)) (show dH cL (aH eN) _ (["rule"]:ae Str) from 0x9) (n:=7) (m:=1) rfl rfl rfl (dW (bI (aB (i:=0)) aL)) (iH 7) (λ_=>aR (i:=7) (show((d5 (iQ (["rule"]:ae Str)) cL++(["rule"]:ae Str)):ae Str).Nodup from 0x6) rfl 0x0) (λ_=>d9 (aA (bI (aB (i:=7)) aL) (aA (bI (aB (i:=7)) aL) aJ))) (λ_=>rfl) (iy:=1) (o:=aj) rfl sc.nd rfl 0x0 (oh rfl) 0x5) (aV (nA fI rfl (dW (bI (aB (i:=0)) aL)) (nH _ (is:=[2,3,4,5]) 0x4) (m8 rfl (aZ (aR (i:=2) sc.nd rfl 0x0) (aZ (aR (i:=3) sc.nd rfl 0x0) (aZ (aR (i:=4) sc.nd rfl 0x0) (aZ (aR (i:=5) sc.nd rfl 0x0) (gU)))))) (aV (nA fI rfl (dW (X7 (ownN:=(["name","given","parts"]:ae Str)) (show dH cL (aH eN) _ (["name","given","parts"]:ae Str) from 0x9) (n:=7) (m:=3) rfl rfl rfl (dW (bI (aB (i:=0)) aL)) (aJl _ 7 3) (λ_=>m8 rfl (aZ (aR (i:=7) (show((d5 (iQ (["name","given","parts"]:ae Str)) cL++(["name","given","parts"]:ae Str)):ae Str).Nodup from 0x6) rfl 0x0) (aZ (aR (i:=8) (show((d5 (iQ (["name","given","parts"]:ae Str)) cL++(["name","given","parts"]:ae Str)):ae Str).Nodup from 0x6) rfl 0x0) (aZ (aR (i:=9) (show((d5 (iQ (["name","given","parts"]:ae Str)) cL++(["name","given","parts"]:ae Str)):ae Str).Nodup from 0x6) rfl 0x0) (gU))))) (λ_=>dI (FQ hK hu) (aB (i:=8)) (aB (i:=4)) (g8 _)) (λ_=>aB (i:=7)) (λ_=>rfl))) (uM (i:=6) rfl) (aR (i:=6) sc.nd rfl 0x0) (aV (jC (dI (oX hK hu) (d9 (aA (aB (i:=2)) (aA (aB (i:=6)) aJ))) (aB (i:=1)) 0x5) (aV (lH)) cQ))))))
def BK:bG sO ["program","kinds"] (aH lB):=0xa
def zK[KFrag](hK:KFrag.K=K)(B:Bt mg)(F:Fun K "check_kinds" "check_kinds" lB fad fd)(hm:mg "check_kinds"=aa (.ref fad)):cV P w K mg base 3 "check_kinds" 2 dO:=by
 have sc:=BK;have nd:=sc.nd;refine gH (ps:=["program","kinds"]) (N:=sO) (k:=2) F hm (F.binds λ_ _ _ _ _ _ us hl=>by obtain⟨_,_,rfl⟩:=Mi.l2 hl;rfl) sc HW 0x4 0x4 λcdv A outer s H E hr=>?_
 have hu:=t_ hr;exact aV (QW (i:=1) rfl fI rfl rfl 0x0 (uM (i:=2) rfl) (aR (i:=2) sc.nd rfl 0x0) (aV (jC (dI (oX hK hu) (aB (i:=2)) (bI (aB (i:=0)) aL) 0x5) (aV (lH)) cQ)))
def aG7:bG aCo ["program"] (aH RP):=0xa
def aCr[KFrag](hK:KFrag.K=K)(B:Bt mg)(pF:aBr P w K mg base 3 "see")(rh:cV P w K mg base 3 "check_kinds" 2 dO)(rK:cV P w K mg base 5 "check_rules" 2 iT)(rL:cV P w K mg base 3 "check_lacking" 1 gB)(F:Fun K "sound" "sound" RP fad fd)(hm:mg "sound"=aa (.ref fad)):cV P w K mg base 6 "sound" 1 uU:=by
 have sc:=aG7;have nd:=sc.nd;refine gH (ps:=["program"]) (N:=aCo) (k:=5) F hm (F.binds λ_ _ _ _ _ _ us hl=>by obtain⟨_,rfl⟩:=Mi.l1 hl;rfl) sc aL8 0x4 0x4 λcdv A outer s H E hr=>?_
 have hu:=t_ hr;exact aK (bT (i:=1) (o:=ag) rfl sc.nd rfl 0x0 (aKz bR aAn bR aAn)) (aK (nA fI rfl (dW (bI (aB (i:=0)) aL)) (uM (i:=2) rfl) (aR (i:=2) sc.nd rfl 0x0) (aV (VD (i:=1) pF hr 0x4 0x3 rfl rfl 0x0 (aB (i:=2))))) (aK (nA fI rfl (dW (bI (aB (i:=0)) aL)) (nH _ (is:=[2,3,4]) 0x4) (m8 rfl (aZ (aR (i:=2) sc.nd rfl 0x0) (aZ (aR (i:=3) sc.nd rfl 0x0) (aZ (aR (i:=4) sc.nd rfl 0x0) (gU))))) (aK (VD (i:=1) pF hr 0x4 0x3 rfl rfl 0x0 (aB (i:=2))) (aV (uL (aY rh hr 0x4 0x3 (aA (aB (i:=0)) (aA (bY GZ (d9 (aA (aB (i:=3)) aJ)) (aB (i:=4))) aJ))))))) (aK (nA fI rfl (dW (bI (aB (i:=0)) aL)) (nH _ (is:=[2,3,5,6]) 0x4) (m8 rfl (aZ (aR (i:=2) sc.nd rfl 0x0) (aZ (aR (i:=3) sc.nd rfl 0x0) (aZ (aR (i:=5) sc.nd rfl 0x0) (aZ (aR (i:=6) sc.nd rfl 0x0) (gU)))))) (aK (VD (i:=1) pF hr 0x4 0x3 rfl rfl 0x0 (aB (i:=2))) (aV (uL (aY rh hr 0x4 0x3 (aA (aB (i:=0)) (aA (bY GZ (d9 (aA (aB (i:=3)) (aA (aB (i:=5)) aJ))) (aB (i:=6))) aJ))))))) (aK (uL (aY rK hr 0x4 0x3 (aA (aB (i:=0)) (aA (aB (i:=1)) aJ)))) (aK (uL (aY rL hr 0x4 0x3 (aA (aB (i:=0)) aJ))) (aV (dX (aB (i:=0)))))))))
def m7:bG bD ["word"] (aH dR):=0xa
def mJ[KFrag](hK:KFrag.K=K)(B:Bt mg)(F:Fun K "are_small_letters" "are_small_letters" dR fad fd)(hm:mg "are_small_letters"=aa (.ref fad)):cV P w K mg base 1 "are_small_letters" 1 dU:=by
 have sc:=m7;have nd:=sc.nd;refine gH (ps:=["word"]) (N:=bD) (k:=0) F hm (F.binds λ_ _ _ _ _ _ us hl=>by obtain⟨_,rfl⟩:=Mi.l1 hl;rfl) sc nT 0x4 0x4 λcdv A outer s H E hr=>?_
 have hu:=t_ hr;exact aV (dX (dC (aHg 0x3) 0x3 B.all aHh (aA (iR (ownN:=(["sign"]:ae Str)) (show dH bD (aH dR) _ (["sign"]:ae Str) from 0x9) (n:=1) (m:=1) rfl rfl rfl (dW (aB (i:=0))) (iH 1) (λ_=>aR (i:=1) (show((d5 (iQ (["sign"]:ae Str)) bD++(["sign"]:ae Str)):ae Str).Nodup from 0x6) rfl 0x0) (λ_=>UG vX vX bR (aB (i:=1)) bR) (λ_=>rfl)) aJ)))
def ZG:bG bD ["word"] (aH zE):=0xa
def R6[KFrag](hK:KFrag.K=K)(B:Bt mg)(rM:cV P w K mg base 1 "are_small_letters" 1 dU)(F:Fun K "is_name" "is_name" zE fad fd)(hm:mg "is_name"=aa (.ref fad)):cV P w K mg base 2 "is_name" 1 mG:=by
 have sc:=ZG;have nd:=sc.nd;refine gH (ps:=["word"]) (N:=bD) (k:=1) F hm (F.binds λ_ _ _ _ _ _ us hl=>by obtain⟨_,rfl⟩:=Mi.l1 hl;rfl) sc aCj 0x4 0x4 λcdv A outer s H E hr=>?_
 have hu:=t_ hr;exact aV (dX (aNs (UG vX vX aL (dC (jV hK) 0x3 B.len jX (aA (aB (i:=0)) aJ)) aL) (aNq (aY rM hr 0x4 0x3 (aA (aB (i:=0)) aJ)))))
def M8:bG lE ["words"] (aH lD):=0xa
def JB[KFrag](hK:KFrag.K=K)(B:Bt mg)(rN:cV P w K mg base 2 "is_name" 1 mG)(F:Fun K "are_names" "are_names" lD fad fd)(hm:mg "are_names"=aa (.ref fad)):cV P w K mg base 3 "are_names" 1 dF:=by
 have sc:=M8;have nd:=sc.nd;refine gH (ps:=["words"]) (N:=lE) (k:=2) F hm (F.binds λ_ _ _ _ _ _ us hl=>by obtain⟨_,rfl⟩:=Mi.l1 hl;rfl) sc RQ 0x4 0x4 λcdv A outer s H E hr=>?_
 have hu:=t_ hr;exact aV (dX (dC (aHg 0x3) 0x3 B.all aHh (aA (iR (ownN:=bD) (show dH lE (aH lD) _ bD from 0x9) (n:=1) (m:=1) rfl rfl rfl (dW (aB (i:=0))) (iH 1) (λ_=>aR (i:=1) (show((d5 (iQ bD) lE++bD):ae Str).Nodup from 0x6) rfl 0x0) (λ_=>aY rN hr 0x4 0x3 (aA (aB (i:=1)) aJ)) (λ_=>rfl)) aJ)))
def R7:bG DK ["rest"] (aH uV):=0xa
def M9[KFrag](hK:KFrag.K=K)(B:Bt mg)(pA:cV P w K mg base 3 "are_names" 1 dF)(F:Fun K "rule_row" "rule_row" uV fad fd)(hm:mg "rule_row"=aa (.ref fad)):cV P w K mg base 4 "rule_row" 1 mV:=by
 have sc:=R7;have nd:=sc.nd;refine gH (ps:=["rest"]) (N:=DK) (k:=3) F hm (F.binds λ_ _ _ _ _ _ us hl=>by obtain⟨_,rfl⟩:=Mi.l1 hl;rfl) sc Y8 0x4 0x4 λcdv A outer s H E hr=>?_
 have hu:=t_ hr;exact aK (jC (dI (oX hK hu) bR (aB (i:=0)) 0x5) (aV (dX xW)) cQ) (aK (bT (i:=1) (o:=aj) rfl sc.nd rfl 0x0 (z8 Dh zy PySem.F.type_tuple_index (aBb hK hu) (aB (i:=0)) (aA bR aJ) (λ_ _ _ _ _ h r=>aBc h r))) (aK (bT (i:=2) (o:=aj) rfl sc.nd rfl 0x0 (oZ hK (aB (i:=0)) (j_) (kE (aB (i:=1))))) (aK (bT (i:=3) (o:=aj) rfl sc.nd rfl 0x0 (oZ hK (aB (i:=0)) (kE (bY d_ (aB (i:=1)) aL)) (j_))) (aK (jC (T9 (PW.pt (xZ (wA vX vX aL (dC (jV hK) 0x3 B.len jX (aA (aB (i:=2)) aJ)) aL) (xZ (wA vX vX aL (dC (jV hK) 0x3 B.len jX (aA (aB (i:=3)) aJ)) aL) (xZ (xX (aY pA hr 0x4 0x3 (aA (aB (i:=2)) aJ))) (xY (xX (aY pA hr 0x4 0x3 (aA (aB (i:=3)) aJ))))))))) (aV (dX xW)) cQ) (aV (dX (d9 (aA (bI (aB (i:=2)) aL) (aA (bI (aB (i:=2)) aL) (aA (oZ hK (aB (i:=2)) (kE aL) (j_)) (aA (aB (i:=3)) aJ)))))))))))
def aCs:bG V2 ["words"] (aH HX):=0xa
def ZJ[KFrag](hK:KFrag.K=K)(B:Bt mg)(rO:cV P w K mg base 4 "rule_row" 1 mV)(pA:cV P w K mg base 3 "are_names" 1 dF)(F:Fun K "row_of" "row_of" HX fad fd)(hm:mg "row_of"=aa (.ref fad)):cV P w K mg base 5 "row_of" 1 sI:=by
 have sc:=aCs;have nd:=sc.nd;refine gH (ps:=["words"]) (N:=V2) (k:=4) F hm (F.binds λ_ _ _ _ _ _ us hl=>by obtain⟨_,rfl⟩:=Mi.l1 hl;rfl) sc aG3 0x4 0x4 λcdv A outer s H E hr=>?_
 have hu:=t_ hr;exact aK (bT (i:=1) (o:=aj) rfl sc.nd rfl 0x0 (fC jK 0x3 B.tuple jL (aA (oZ hK (aB (i:=0)) (kE aL) (j_)) aJ))) (aK (jC (dI (FQ hK hu) (bI (aB (i:=0)) aL) bR (g8 _)) (aV (dX (aY rO hr 0x4 0x3 (aA (aB (i:=1)) aJ)))) cQ) (aK (jC (T9 (xX (aY pA hr 0x4 0x3 (aA (aB (i:=1)) aJ)))) (aV (dX xW)) cQ) (aK (jC (PW.pt (xZ (dI (FQ hK hu) (bI (aB (i:=0)) aL) bR (g8 _)) (xY (dI (FQ hK hu) (dC (jV hK) 0x3 B.len jX (aA (aB (i:=1)) aJ)) aL (g8 _))))) (aV (dX (bI (aB (i:=1)) aL))) cQ) (aK (jC (PW.pt (xZ (dI (FQ hK hu) (bI (aB (i:=0)) aL) bR (g8 _)) (xY (wA vX vX aL (dC (jV hK) 0x3 B.len jX (aA (aB (i:=1)) aJ)) aL)))) (aV (dX (d9 (aA (bI (aB (i:=1)) aL) (aA (bI (aB (i:=1)) aL) (aA (oZ hK (aB (i:=1)) (kE aL) (j_)) aJ)))))) cQ) (aK (jC (PW.pt (xZ (dI (FQ hK hu) (bI (aB (i:=0)) aL) bR (g8 _)) (xY (wA vX vX aL (dC (jV hK) 0x3 B.len jX (aA (aB (i:=1)) aJ)) aL)))) (aV (dX (d9 (aA (bI (aB (i:=1)) aL) (aA (bI (aB (i:=1)) aL) (aA (bI (aB (i:=1)) aL) (aA (oZ hK (aB (i:=1)) (kE aL) (j_)) aJ))))))) cQ) (aV (dX xW)))))))
def aLb:bG aI0 ["text"] (aH aCl):=0xa
def aG8[KFrag](hK:KFrag.K=K)(B:Bt mg)(rP:cV P w K mg base 5 "row_of" 1 sI)(F:Fun K "read" "read" aCl fad fd)(hm:mg "read"=aa (.ref fad)):cV P w K mg base 6 "read" 1 MK:=by
 have sc:=aLb;have nd:=sc.nd;refine aL3 (ps:=["text"]) (N:=aI0) (k:=5) F hm (F.binds λ_ _ _ _ _ _ us hl=>by obtain⟨_,rfl⟩:=Mi.l1 hl;rfl) sc aPo 0x4 0x4 λcdv A outer s H E hr=>?_
 have hu:=t_ hr;exact sG (aL1 (i:=1) (ks:=["kind","maker","taker","rule"]) rfl sc.nd rfl 0x0 (mO BP (xG dY) (mO BP (xG dY) (mO BP (xG dY) (mO BP (xG dY) (aAd))))) rfl rfl 0x2 0x4 0x4 0x6) (sG (aPl fI rfl (aG2 0x3 B.enum (aA (z8 kg wy Ai G7 (aB (i:=0)) (aA bR aJ) (λ_ _ _ _ _ h r=>yN h r)) aJ)) (aL2 _ (is:=[2,3]) 0x4) (m8 rfl (aZ (aR (i:=2) sc.nd rfl 0x0) (aZ (aR (i:=3) sc.nd rfl 0x0) (gU)))) (HJ (aPj (dI (aEr hK hu) (aB (i:=3)) bR (g8 _)) (sG (aHy (i:=4) rfl sc.nd rfl 0x0 (z8 kg wy Ai G7 (aB (i:=3)) (aA bR aJ) (λ_ _ _ _ _ h r=>yN h r))) (sG (aHy (i:=5) rfl sc.nd rfl 0x0 (aY rP hr 0x4 0x3 (aA (aB (i:=4)) aJ))) (sG (aPj (dI aNw (aB (i:=5)) xW (g8 _)) (HJ (aPi)) (aCb)) (HJ (aL0 (i:=1) hu rfl rfl 0x0 (bI (aB (i:=4)) aL) (aB (i:=5))))))) (aCb)))) (HJ (aPk (d9 (aA (fC jK 0x3 B.tuple jL (aA (bI (aB (i:=1)) bR) aJ)) (aA (fC jK 0x3 B.tuple jL (aA (bI (aB (i:=1)) bR) aJ)) (aA (fC jK 0x3 B.tuple jL (aA (bI (aB (i:=1)) bR) aJ)) (aA (fC jK 0x3 B.tuple jL (aA (bI (aB (i:=1)) bR) aJ)) aJ))))))))
def aLc:bG aI1 ["program","text"] (aH aCm):=0xa
def aG9[KFrag](hK:KFrag.K=K)(B:Bt mg)(pA:cV P w K mg base 3 "are_names" 1 dF)(pE:cV P w K mg base 1 "heads_of" 1 dJ)(ql:cV P w K mg base 3 "head_of" 3 jE)(qm:cV P w K mg base 4 "walk_words" 4 eG)(F:Fun K "term" "term" aCm fad fd)(hm:mg "term"=aa (.ref fad)):cV P w K mg base 5 "term" 2 MN:=by
 have sc:=aLc;have nd:=sc.nd;refine gH (ps:=["program","text"]) (N:=aI1) (k:=4) F hm (F.binds λ_ _ _ _ _ _ us hl=>by obtain⟨_,_,rfl⟩:=Mi.l2 hl;rfl) sc aPq 0x4 0x4 λcdv A outer s H E hr=>?_
 have hu:=t_ hr;exact aK (bT (i:=2) (o:=aj) rfl sc.nd rfl 0x0 (fC jK 0x3 B.tuple jL (aA (z8 kg wy Ai G7 (aB (i:=1)) (aA bR aJ) (λ_ _ _ _ _ h r=>yN h r)) aJ))) (aK (jC (PW.pt (aRx (dI aKx (dC (jV hK) 0x3 B.len jX (aA (aB (i:=2)) aJ)) aL (g8 _)) (aNu (T9 (xX (aY pA hr 0x4 0x3 (aA (aB (i:=2)) aJ))))))) (aV (lH)) cQ) (aK (bT (i:=3) (o:=aj) rfl sc.nd rfl 0x0 (aY pE hr 0x4 0x3 (aA (aB (i:=0)) aJ))) (aK (uL (aY qm hr 0x4 0x3 (aA (aB (i:=3)) (aA (aB (i:=2)) (aA (bI (aY ql hr 0x4 0x3 (aA (aB (i:=3)) (aA (bI (aB (i:=2)) aL) (aA (v_) aJ)))) aL) (aA (v_) aJ)))))) (aV (dX (aB (i:=2)))))))
def R8:bG DN ["text","term_text","most"] (aH iW):=0xa
def R9[KFrag](hK:KFrag.K=K)(B:Bt mg)(rQ:cV P w K mg base 6 "read" 1 MK)(rR:cV P w K mg base 6 "sound" 1 uU)(rS:cV P w K mg base 5 "term" 2 MN)(qo:aKe P w K mg base 6 "worth" 3 jO)(F:aMi K "reckoned" "reckoned" iW fad fd T its):j4 P w K mg base (CX2 P w) 7 fad fd ["text","term_text","most"] (spZ fK 3):=by
 have sc:=R8;have nd:=sc.nd;refine aKu (ps:=["text","term_text","most"]) (N:=DN) (k:=6) F sc Y_ 0x4 0x4 λcdv A outer s H E hr=>?_
 have hu:=t_ hr;exact aHv (aHu (bT (i:=3) (o:=aj) rfl sc.nd rfl 0x0 (aY rR hr 0x4 0x3 (aA (aY rQ hr 0x4 0x3 (aA (aB (i:=0)) aJ)) aJ)))) (aHv (aSe (i:=4) (o:=aj) rfl sc.nd rfl 0x0 (aKf qo hr 0x4 0x3 (aA (aB (i:=3)) (aA (aY rS hr 0x4 0x3 (aA (aB (i:=3)) (aA (aB (i:=1)) aJ))) (aA (aB (i:=2)) aJ))))) (aSd (aHu (dX (d9 (aA (z8 kg mE su aF6 bR (aA (bI (aB (i:=4)) aL) aJ) (λ_ _ _ _ _ h r=>aF7 h r)) (aA (bI (aB (i:=4)) aL) (aA (bI (aB (i:=4)) aL) (aA (bI (aB (i:=4)) aL) aJ)))))))))
def M_:bG dG ["script"] (aH fG):=0xa
def JC[KFrag](hK:KFrag.K=K)(B:Bt mg)(p8:cV P w K mg base 2 "_law_word" 2 bL)(F:Fun K "_law_rows" "_law_rows" fG fad fd)(hm:mg "_law_rows"=aa (.ref fad)):cV P w K mg base 3 "_law_rows" 1 gY:=by
 have sc:=M_;have nd:=sc.nd;refine gH (ps:=["script"]) (N:=dG) (k:=2) F hm (F.binds λ_ _ _ _ _ _ us hl=>by obtain⟨_,rfl⟩:=Mi.l1 hl;rfl) sc RV 0x4 0x4 λcdv A outer s H E hr=>?_
 have hu:=t_ hr
 exact aK (RD (is:=[1,2,3,4]) 0x4 (iR (ownN:=(["k"]:ae Str)) (show dH dG (aH fG) _ (["k"]:ae Str) from 0x9) (n:=11) (m:=1) rfl rfl rfl (GD 0x3 B.range (aA aL aJ)) (iH 11) (λ_=>aR (i:=11) (show((d5 (iQ (["k"]:ae Str)) dG++(["k"]:ae Str)):ae Str).Nodup from 0x6) rfl 0x0) (λ_=>aY p8 hr 0x4 0x3 (aA (aB (i:=0)) (aA (aB (i:=11)) aJ))) (λ_=>rfl)) (Q9 rfl (aZ (aR (i:=1) sc.nd rfl 0x0) (aZ (aR (i:=2) sc.nd rfl 0x0) (aZ (aR (i:=3) sc.nd rfl 0x0) (aZ (aR (i:=4) sc.nd rfl 0x0) (gU))))))) (aK (RD (is:=[5,6]) 0x4 (iR (ownN:=(["k"]:ae Str)) (show dH dG (aH fG) _ (["k"]:ae Str) from 0x9) (n:=11) (m:=1) rfl rfl rfl (GD 0x3 B.range (aA aL aJ)) (iH 11) (λ_=>aR (i:=11) (show((d5 (iQ (["k"]:ae Str)) dG++(["k"]:ae Str)):ae Str).Nodup from 0x6) rfl 0x0) (λ_=>aY p8 hr 0x4 0x3 (aA (aB (i:=0)) (aA (bY d_ aL (aB (i:=11))) aJ))) (λ_=>rfl)) (Q9 rfl (aZ (aR (i:=5) sc.nd rfl 0x0) (aZ (aR (i:=6) sc.nd rfl 0x0) (gU))))) (aK (RD (is:=[7,8,9]) 0x4 (iR (ownN:=(["k"]:ae Str)) (show dH dG (aH fG) _ (["k"]:ae Str) from 0x9) (n:=11) (m:=1) rfl rfl rfl (GD 0x3 B.range (aA aL aJ)) (iH 11) (λ_=>aR (i:=11) (show((d5 (iQ (["k"]:ae Str)) dG++(["k"]:ae Str)):ae Str).Nodup from 0x6) rfl 0x0) (λ_=>aY p8 hr 0x4 0x3 (aA (aB (i:=0)) (aA (bY d_ aL (aB (i:=11))) aJ))) (λ_=>rfl)) (Q9 rfl (aZ (aR (i:=7) sc.nd rfl 0x0) (aZ (aR (i:=8) sc.nd rfl 0x0) (aZ (aR (i:=9) sc.nd rfl 0x0) (gU)))))) (aK (bT (i:=10) (o:=aj) rfl sc.nd rfl 0x0 (lO (cY (aA (lO (cY (aA bR (aA (cA (aB (i:=1))) aJ)))) (aA (lO (cY (aA bR (aA (cA (aB (i:=2))) (aA (cA (aB (i:=1))) aJ))))) (aA (lO (cY (aA bR (aA (cA (aB (i:=3))) (aA (cA (aB (i:=1))) (aA (cA (aB (i:=1))) aJ)))))) (aA (lO (cY (aA bR (aA (cA (aB (i:=4))) (aA (cA (aB (i:=1))) (aA (cA (aB (i:=1))) (aA (cA (aB (i:=1))) aJ))))))) aJ))))))) (aK (bT (i:=10) (o:=aj) rfl sc.nd rfl 0x0 (lO (bY (yU hK) (aB (i:=10)) (cY (aA (lO (cY (aA bR (aA (cA (aB (i:=5))) (aA (cA (aB (i:=1))) (aA (cA (aB (i:=1))) aJ)))))) (aA (lO (cY (aA bR (aA (cA (aB (i:=6))) (aA (cA (aB (i:=1))) (aA (cA (aB (i:=1))) (aA (cA (aB (i:=1))) aJ))))))) aJ)))))) (aK (bT (i:=10) (o:=aj) rfl sc.nd rfl 0x0 (lO (bY (yU hK) (aB (i:=10)) (cY (aA (lO (cY (aA bR (aA (cA (aB (i:=5))) (aA (cA (aB (i:=2))) (aA bR (aA (cA (aB (i:=2))) aJ))))))) (aA (lO (cY (aA bR (aA (cA (aB (i:=5))) (aA (cA (aB (i:=3))) (aA (cA (aB (i:=7))) (aA bR (aA (cA (aB (i:=5))) (aA (cA (aB (i:=7))) aJ))))))))) aJ)))))) (aK (bT (i:=10) (o:=aj) rfl sc.nd rfl 0x0 (lO (bY (yU hK) (aB (i:=10)) (cY (aA (lO (cY (aA bR (aA (cA (aB (i:=5))) (aA (cA (aB (i:=4))) (aA (cA (aB (i:=7))) (aA (cA (aB (i:=8))) (aA bR (aA (cA (aB (i:=2))) aJ))))))))) (aA (lO (cY (aA bR (aA (cA (aB (i:=6))) (aA (cA (aB (i:=2))) (aA (cA (aB (i:=9))) (aA bR (aA (cA (aB (i:=9))) aJ)))))))) aJ)))))) (aK (bT (i:=10) (o:=aj) rfl sc.nd rfl 0x0 (lO (bY (yU hK) (aB (i:=10)) (cY (aA (lO (cY (aA bR (aA (cA (aB (i:=6))) (aA (cA (aB (i:=3))) (aA (cA (aB (i:=7))) (aA (cA (aB (i:=9))) (aA bR (aA (cA (aB (i:=6))) (aA (cA (aB (i:=7))) (aA (cA (aB (i:=4))) (aA (cA (aB (i:=9))) (aA (cA (aB (i:=9))) aJ))))))))))))) aJ))))) (aK (bT (i:=10) (o:=aj) rfl sc.nd rfl 0x0 (lO (bY (yU hK) (aB (i:=10)) (cY (aA (lO (cY (aA bR (aA (cA (aB (i:=6))) (aA (cA (aB (i:=4))) (aA (cA (aB (i:=7))) (aA (cA (aB (i:=8))) (aA (cA (aB (i:=9))) (aA bR (aA (cA (aB (i:=9))) aJ)))))))))) aJ))))) (aV (dX (z8 kg mE su QX bR (aA (iR (ownN:=(["row"]:ae Str)) (show dH dG (aH fG) _ (["row"]:ae Str) from 0x9) (n:=11) (m:=1) rfl rfl rfl (aPe hK (aB (i:=10))) (iH 11) (λ_=>aR (i:=11) (show((d5 (iQ (["row"]:ae Str)) dG++(["row"]:ae Str)):ae Str).Nodup from 0x6) rfl 0x0) (λ_=>z8 kg mE su (aFw hK) bR (aA (aB (i:=11)) aJ) (λ_ _ _ _ _ h r=>aFx h r)) (λ_=>rfl)) aJ) (λ_ _ _ _ _ h r=>GR h r))))))))))))
def aPw:bG aPt ["script"] (aH HY):=0xa
def aPx[KFrag](hK:KFrag.K=K)(B:Bt mg)(p8:cV P w K mg base 2 "_law_word" 2 bL)(rT:cV P w K mg base 3 "_law_rows" 1 gY)(zd_reckoned:aPa P w K mg base 7 "reckoned" 3 fK [.int 400])(rV:mg "Spent"=aa (.ref rW))(y1:aSf (λc=>∃C,nsIn K bt c=aa (aa (.ref C))/\xj K (.ref C) (.ref rW)=aa ag) ["Spent"])(F:Fun K "law" "law" HY fad fd):j4 P w K mg base CX0 8 fad fd ["script"] (spD ZD 1):=by
 have sc:=aPw;have nd:=sc.nd;refine aO2 (ps:=["script"]) (N:=aPt) (k:=7) F sc o_law 0x4 0x4 λcdv A outer s H E hr=>?_
 have hu:=t_ hr;exact aK (bT (i:=1) (o:=aj) rfl sc.nd rfl 0x0 aL) (aK (nA fI rfl (aJs 0x3 B.enum (aA (oZ hK (aB (i:=0)) (j_) (kE aL)) aJ)) (nH _ (is:=[2,3]) 0x4) (m8 rfl (aZ (aR (i:=2) sc.nd rfl 0x0) (aZ (aR (i:=3) sc.nd rfl 0x0) (gU)))) (aV (bT (i:=1) (o:=aj) rfl sc.nd rfl 0x0 (bY d_ (aB (i:=1)) (bY uN (bY iJ (aB (i:=3)) aL) (bY d_ (aB (i:=2)) aL)))))) (aK (bT (i:=1) (o:=aj) rfl sc.nd rfl 0x0 (bY iJ (aB (i:=1)) aL)) (aK (bT (i:=4) (o:=aj) rfl sc.nd rfl 0x0 (aY p8 hr 0x4 0x3 (aA (aB (i:=0)) (aA aL aJ)))) (aK (bT (i:=5) (o:=aj) rfl sc.nd rfl 0x0 (aY p8 hr 0x4 0x3 (aA (aB (i:=0)) (aA aL aJ)))) (aK (bT (i:=6) (o:=aj) rfl sc.nd rfl 0x0 (bY d_ (bY d_ (bY d_ (bY d_ (cY (aA (aY p8 hr 0x4 0x3 (aA (aB (i:=0)) (aA aL aJ))) aJ)) (bY RG (cY (aA (cA (aB (i:=5))) aJ)) aL)) (cY (aA (aY p8 hr 0x4 0x3 (aA (aB (i:=0)) (aA aL aJ))) aJ))) (bY RG (cY (aA (cA (aB (i:=5))) aJ)) (aB (i:=1)))) (cY (aA (cA (aB (i:=4))) aJ)))) (aK (bT (i:=7) (o:=aj) rfl sc.nd rfl 0x0 (bY d_ (bY RG (cY (aA (cA (aB (i:=5))) aJ)) aL) (cY (aA (cA (aB (i:=4))) aJ)))) (aK (bT (i:=6) (o:=aj) rfl sc.nd rfl 0x0 (bY d_ (aB (i:=6)) (aB (i:=7)))) (aK (nA fI rfl (GD 0x3 B.range (aA aL aJ)) (uM (i:=2) rfl) (aR (i:=2) sc.nd rfl 0x0) (aV (bT (i:=7) (o:=aj) rfl sc.nd rfl 0x0 (bY d_ (bY d_ (cY (aA (aY p8 hr 0x4 0x3 (aA (aB (i:=0)) (aA aL aJ))) aJ)) (aB (i:=7))) (aB (i:=7)))))) (aK (bT (i:=8) (o:=aj) rfl sc.nd rfl 0x0 (d9 (aA (z8 kg mE su QX bR (aA (aB (i:=7)) aJ) (λ_ _ _ _ _ h r=>GR h r)) (aA (bY d_ aL (aB (i:=1))) (aA aL (aA aL aJ)))))) (aK (jC (dI aKx (aB (i:=1)) aL (g8 _)) (aV (bT (i:=8) (o:=aj) rfl sc.nd rfl 0x0 xW)) cQ) (aK (bT (i:=9) (o:=aj) rfl sc.nd rfl 0x0 xW) (aK (aKt (ic:=9) hK rfl rfl (aPc (o:=ag) (i:=9) zd_reckoned hr 0x4 0x3 (aA (aY rT hr 0x4 0x3 (aA (aB (i:=0)) aJ)) (aA (z8 kg mE su QX bR (aA (aB (i:=6)) aJ) (λ_ _ _ _ _ h r=>GR h r)) aJ)) rfl sc.nd rfl 0x0 (.inl rfl)) 0x3 rV (aBv y1) sc.nd rfl 0x0 (.inl rfl) rfl) (aV (dX (aNp (FQ hK hu) (aB (i:=9)) (aB (i:=8)) (g8 _))))))))))))))))
def AtN(K:Frag)(n:Str)(st:bp):Prop:=∃(f:am)(fd:dm),nsIn K bt n=aa (aa (.ref f))/\Fun K n n st f fd
def aSv{oc kV dc pm cd ct:al}{od an:au am}{sl:aI (au al)}(a:nsIn K bt n=aa (aa (.ref f)))(l:K.lookup f=aa ⟨oc,od,.func (fnOf n n (eY st) (cH st) (aH st) .none kV dc pm an cd ct),sl⟩)(c:codeIn K cd n=ag)(k:keepIn K (.ref f)=ag):AtN K n st:=⟨f,_,a,iI (st:=st) l c k⟩
def aPy{l:OpenLaw}{w:bn}{K:Frag}{h:aE}{mg:Str->au al}{fa:am}(X:K.In h)(G:h.Ns bt mg)(hfa:mg "law"=aa (.ref fa))(a0:AtN K "heads_of" uQ)(a1:AtN K "words_of" uR)
 {f2 T2:am}{oc2 kV2 dc2 pm2 cd2 ct2 tc2:al}{od2 an2 td2:au am}{sl2 tl2:aI (au al)}{tk2:cz}{tn2:ah}(a2:nsIn K bt "worth"=aa (aa (.ref f2)))(l2:K.lookup f2=aa ⟨oc2,od2,.func (fnOf "worth" "worth" (eY uT) (cH uT) (aH uT) (.ref T2) kV2 dc2 pm2 an2 cd2 ct2),sl2⟩)(c2:codeIn K cd2 "worth"=ag)(k2:keepIn K (.ref f2)=ag)(t2:K.lookup T2=aa ⟨tc2,td2,.seq #[.int 400 tk2] tn2,tl2⟩)(a3:AtN K "_law_draw" nQ)(a4:AtN K "_law_word" nR)(a5:AtN K "head_of" y_)(a6:AtN K "walk_words" mF)(a7:AtN K "see" aL7)(a8:AtN K "known_names" lA)(a9:AtN K "check_rules" fZ)(a10:AtN K "check_lacking" eN)(a11:AtN K "check_kinds" lB)(a12:AtN K "sound" RP)(a13:AtN K "are_small_letters" dR)(a14:AtN K "is_name" zE)(a15:AtN K "are_names" lD)(a16:AtN K "rule_row" uV)(a17:AtN K "row_of" HX)(a18:AtN K "read" aCl)(a19:AtN K "term" aCm)
 {f20 T20:am}{oc20 kV20 dc20 pm20 cd20 ct20 tc20:al}{od20 an20 td20:au am}{sl20 tl20:aI (au al)}{tk20:cz}{tn20:ah}(a20:nsIn K bt "reckoned"=aa (aa (.ref f20)))(l20:K.lookup f20=aa ⟨oc20,od20,.func (fnOf "reckoned" "reckoned" (eY iW) (cH iW) (aH iW) (.ref T20) kV20 dc20 pm20 an20 cd20 ct20),sl20⟩)(c20:codeIn K cd20 "reckoned"=ag)(k20:keepIn K (.ref f20)=ag)(t20:K.lookup T20=aa ⟨tc20,td20,.seq #[.int 400 tk20] tn20,tl20⟩)(a21:AtN K "_law_rows" fG)
 {f22:am}{oc22 kV22 dc22 pm22 cd22 ct22:al}{od22 an22:au am}{sl22:aI (au al)}(a22:nsIn K bt "law"=aa (aa (.ref f22)))(l22:K.lookup f22=aa ⟨oc22,od22,.func (fnOf "law" "law" (eY HY) (cH HY) (aH HY) .none kV22 dc22 pm22 an22 cd22 ct22),sl22⟩)(c22:codeIn K cd22 "law"=ag)(k22:keepIn K (.ref f22)=ag)(qp:nsIn K bt "len"=aa ai)(qr:nsIn K bt "min"=aa ai)(qt:nsIn K bt "max"=aa ai)(qu:nsIn K bt "list"=aa ai)(qv:nsIn K bt "tuple"=aa ai)(qw:nsIn K bt "sorted"=aa ai)(qx:nsIn K bt "range"=aa ai)(qy:nsIn K bt "isinstance"=aa ai)(qz:nsIn K bt "int"=aa ai)(qA:nsIn K bt "bool"=aa ai)(qB:nsIn K bt "str"=aa ai)(qC:nsIn K bt "dict"=aa ai)(qD:nsIn K bt "all"=aa ai)(qE:nsIn K bt "enumerate"=aa ai)(qF:nsIn K bt "sum"=aa ai)(qG:nsIn K bt "zip"=aa ai)(qH:nsIn K bt "abs"=aa ai)(qI:nsIn K bt "reversed"=aa ai){pP:am}(pj:nsIn K bt "Spent"=aa (aa (.ref pP)))(qJ:xj K (.ref pP) (.ref pP)=aa ag){p7:am}(p9:nsIn K bt "Frame"=aa (aa (.ref p7))){pG:am}{rX rY rZ t5 ri t6:al}{t7 t8:au am}{t9:aI (au al)}{p5:am}(p6:nsIn K bt "PlainRun"=aa (aa (.ref p5))){pH:am}{tf tj tq tu rj tD:al}{tE tF:au am}{tG:aI (au al)}{pQ:am}{tH tI tJ tK rq tL:al}{tM tO:au am}{tP:aI (au al)}{pR:am}{tQ tR tT tU rA tV:al}{tW tX:au am}{tY:aI (au al)}{pS:am}{u5 u7 u8 u9 rB ua:al}{ub ud:au am}{ue:aI (au al)}{pT:am}{uf ug uh ui rC uj:al}{ul um:au am}{uo:aI (au al)}(pg_Frame:plainGet K p7 ye=ag)(qK:hasDictIn K p7=ag)(po_Frame:plainOver K p7=ag)(qL:findIn K (.ref p7) "__setattr__"=aa (aa (.builtin "object.__setattr__")))(mk_Frame:makesIn K p7=ag)(qM:keepIn K (.ref p7)=ag)(qN:findIn K (.ref p7) "__init__"=aa (aa (.ref pG)))(pU:K.lookup pG=aa ⟨rX,t7,.func (fnOf "__init__" "Frame.__init__" (eY nP) (cH nP) (aH nP) .none rY rZ t5 t8 ri t6),t9⟩)(pV:codeIn K ri "Frame.__init__"=ag)(pW:keepIn K (.ref pG)=ag)(qO:isFn K (.ref pG)=ag)(pX:findIn K (.ref p7) "words"=aa ai)(pI:findIn K (.ref p7) "left"=aa ai)(pJ:findIn K (.ref p7) "known"=aa ai)(pg_PlainRun:plainGet K p5 ye=ag)(qP:hasDictIn K p5=ag)(po_PlainRun:plainOver K p5=ag)(qQ:findIn K (.ref p5) "__setattr__"=aa (aa (.builtin "object.__setattr__")))(mk_PlainRun:makesIn K p5=ag)(qR:keepIn K (.ref p5)=ag)(qS:findIn K (.ref p5) "__init__"=aa (aa (.ref pH)))(pY:K.lookup pH=aa ⟨tf,tE,.func (fnOf "__init__" "PlainRun.__init__" (eY eQ) (cH eQ) (aH eQ) .none tj tq tu tF rj tD),tG⟩)(pZ:codeIn K rj "PlainRun.__init__"=ag)(qa:keepIn K (.ref pH)=ag)(qT:isFn K (.ref pH)=ag)(qc:findIn K (.ref p5) "heads"=aa ai)(qd:findIn K (.ref p5) "makers"=aa ai)(qe:findIn K (.ref p5) "rules"=aa ai)(pK:findIn K (.ref p5) "most"=aa ai)(pz:findIn K (.ref p5) "calls"=aa ai)(pb:findIn K (.ref p5) "copies"=aa ai)(pc:findIn K (.ref p5) "drops"=aa ai)(qU:findIn K (.ref p5) "take_word"=aa (aa (.ref pQ)))(qf:K.lookup pQ=aa ⟨tH,tM,.func (fnOf "take_word" "PlainRun.take_word" (eY dN) (cH dN) (aH dN) .none tI tJ tK tO rq tL),tP⟩)(qg:codeIn K rq "PlainRun.take_word"=ag)(pL:keepIn K (.ref pQ)=ag)(iD:isFn K (.ref pQ)=ag)(pM:findIn K (.ref p5) "value_of"=aa (aa (.ref pR)))(pB:K.lookup pR=aa ⟨tQ,tW,.func (fnOf "value_of" "PlainRun.value_of" (eY eU) (cH eU) (aH eU) .none tR tT tU tX rA tV),tY⟩)(pC:codeIn K rA "PlainRun.value_of"=ag)(ph:keepIn K (.ref pR)=ag)(fH:isFn K (.ref pR)=ag)(qV:findIn K (.ref p5) "called"=aa (aa (.ref pS)))(qh:K.lookup pS=aa ⟨u5,ub,.func (fnOf "called" "PlainRun.called" (eY k_) (cH k_) (aH k_) .none u7 u8 u9 ud rB ua),ue⟩)(qi:codeIn K rB "PlainRun.called"=ag)(pN:keepIn K (.ref pS)=ag)(mH:isFn K (.ref pS)=ag)(qW:findIn K (.ref p5) "count_uses"=aa (aa (.ref pT)))(qj:K.lookup pT=aa ⟨uf,ul,.func (fnOf "count_uses" "PlainRun.count_uses" (eY eF) (cH eF) (aH eF) .none ug uh ui um rC uj),uo⟩)(qk:codeIn K rC "PlainRun.count_uses"=ag)(pO:keepIn K (.ref pT)=ag)(gC:isFn K (.ref pT)=ag)(qX:excIn K pP aS4 "ValueError.__new__"=ag) :
  ∃fd:dm,(∀(s:ar)(v:al),kH s fd ⟨[v],[]⟩ [("script",v)])/\∀base:aE,K.In base->base.Ns bt mg->j4 l.prog w K mg base CX0 8 fa fd ["script"] (@spD ⟨K⟩ ZD 1):=by
 have e:=hfa.symm.trans (mg_of X G a22);cases e
 letI:KFrag:=⟨K⟩
 have Y:=λ{n:Str}{v:al}=>mg_of (n:=n) (v:=v) X G
 have Z:=λ{n:Str}=>mg_none_of (n:=n) X G
 obtain⟨f0,_,a0,F0⟩:=a0;obtain⟨f1,_,a1,F1⟩:=a1;obtain⟨f3,_,a3,F3⟩:=a3;obtain⟨f4,_,a4,F4⟩:=a4;obtain⟨f5,_,a5,F5⟩:=a5;obtain⟨f6,_,a6,F6⟩:=a6;obtain⟨f7,_,a7,F7⟩:=a7;obtain⟨f8,_,a8,F8⟩:=a8;obtain⟨f9,_,a9,F9⟩:=a9;obtain⟨f10,_,a10,F10⟩:=a10;obtain⟨f11,_,a11,F11⟩:=a11;obtain⟨f12,_,a12,F12⟩:=a12;obtain⟨f13,_,a13,F13⟩:=a13;obtain⟨f14,_,a14,F14⟩:=a14;obtain⟨f15,_,a15,F15⟩:=a15;obtain⟨f16,_,a16,F16⟩:=a16;obtain⟨f17,_,a17,F17⟩:=a17;obtain⟨f18,_,a18,F18⟩:=a18;obtain⟨f19,_,a19,F19⟩:=a19;obtain⟨f21,_,a21,F21⟩:=a21;have B:Bt mg:=⟨Z qp,Z qr,Z qt,Z qu,Z qv,Z qw,Z qx,Z qy,Z qz,Z qA,Z qB,Z qC,Z qD,Z qE,Z qF,Z qG,Z qH,Z qI⟩
 refine⟨fnOf "law" "law" (eY HY) (cH HY) (aH HY) .none kV22 dc22 pm22 an22 cd22 ct22,λs v=>.of_eq rfl,λbase _ _=>?_⟩;have qY:=MT (P:=l.prog) (w:=w) (base:=base) rfl B  F0 (Y a0);have qZ:=M3 (P:=l.prog) (w:=w) (base:=base) rfl B  F1 (Y a1);have cl_Frame:Cls K p7:=⟨pg_Frame,qK,po_Frame,qL⟩
 have q_Frame:aMj l.prog w K mg base 1 "Frame" mD 2:=⟨p7,pG,_,_,p9,Y p9,⟨mk_Frame,qN,qO,qM⟩,aCp rfl B  cl_Frame (iL.2 ⟨pX,(iL.2 ⟨pI,(iL.2 ⟨pJ,(Di _)⟩)⟩)⟩) (iI (st:=nP) pU pV pW),((iI (st:=nP) pU pV pW).binds λ_ _ _ _ _ _ us hl=>by obtain⟨_,_,_,rfl⟩:=Mi.l3 hl;rfl)⟩
 have fl_Frame_words:O4 K "Frame" "words":=λC h=>by cases (p9.symm.trans h);exact⟨cl_Frame,pX⟩
 have fl_Frame_left:O4 K "Frame" "left":=λC h=>by cases (p9.symm.trans h);exact⟨cl_Frame,pI⟩
 have fl_Frame_known:O4 K "Frame" "known":=λC h=>by cases (p9.symm.trans h);exact⟨cl_Frame,pJ⟩
 have cl_PlainRun:Cls K p5:=⟨pg_PlainRun,qP,po_PlainRun,qQ⟩
 have q_PlainRun:aMj l.prog w K mg base 2 "PlainRun" fJ 2:=⟨p5,pH,_,_,p6,Y p6,⟨mk_PlainRun,qS,qT,qR⟩,M4 rfl B qY cl_PlainRun (iL.2 ⟨qc,(iL.2 ⟨qd,(iL.2 ⟨qe,(iL.2 ⟨pK,(iL.2 ⟨pz,(iL.2 ⟨pb,(iL.2 ⟨pc,(Di _)⟩)⟩)⟩)⟩)⟩)⟩)⟩) (iI (st:=eQ) pY pZ qa),((iI (st:=eQ) pY pZ qa).binds λ_ _ _ _ _ _ us hl=>by obtain⟨_,_,_,rfl⟩:=Mi.l3 hl;rfl)⟩
 have fl_PlainRun_heads:O4 K "PlainRun" "heads":=λC h=>by cases (p6.symm.trans h);exact⟨cl_PlainRun,qc⟩
 have fl_PlainRun_makers:O4 K "PlainRun" "makers":=λC h=>by cases (p6.symm.trans h);exact⟨cl_PlainRun,qd⟩
 have fl_PlainRun_rules:O4 K "PlainRun" "rules":=λC h=>by cases (p6.symm.trans h);exact⟨cl_PlainRun,qe⟩
 have fl_PlainRun_most:O4 K "PlainRun" "most":=λC h=>by cases (p6.symm.trans h);exact⟨cl_PlainRun,pK⟩
 have fl_PlainRun_calls:O4 K "PlainRun" "calls":=λC h=>by cases (p6.symm.trans h);exact⟨cl_PlainRun,pz⟩
 have fl_PlainRun_copies:O4 K "PlainRun" "copies":=λC h=>by cases (p6.symm.trans h);exact⟨cl_PlainRun,pb⟩
 have fl_PlainRun_drops:O4 K "PlainRun" "drops":=λC h=>by cases (p6.symm.trans h);exact⟨cl_PlainRun,pc⟩
 have y_1:=Lk87.gC (P:=l.prog) (w:=w) (mg:=mg) (base:=base) rfl B cl_PlainRun pc pb (iI (st:=eF) qj qk pO);have y_2:=Lk87.mH (P:=l.prog) (w:=w) (base:=base) rfl B q_Frame p6 p9 cl_PlainRun pz pb pc pK fl_PlainRun_rules (Y pj) qX ⟨qW,gC,pO⟩ y_1 ((iI (st:=eF) qj qk pO).binds λ_ _ _ _ _ _ us hl=>by obtain⟨_,_,_,rfl⟩:=Mi.l3 hl;rfl) (iI (st:=k_) qh qi pN);have y_3:=Lk87.iD (P:=l.prog) (w:=w) (base:=base) rfl B p6 cl_Frame pJ cl_PlainRun fl_PlainRun_heads fl_PlainRun_makers ⟨qV,mH,pN⟩ y_2 ((iI (st:=k_) qh qi pN).binds λ_ _ _ _ _ _ us hl=>by obtain⟨_,_,_,rfl⟩:=Mi.l3 hl;rfl) (iI (st:=dN) qf qg pL);have y_4:=Lk87.fH (P:=l.prog) (w:=w) (base:=base) rfl B q_Frame p6 p9 cl_Frame pI cl_PlainRun ⟨qU,iD,pL⟩ y_3 ((iI (st:=dN) qf qg pL).binds λ_ _ _ _ _ _ us hl=>by obtain⟨_,_,_,_,rfl⟩:=Mi.l4 hl;rfl) fl_Frame_words fl_Frame_left (iI (st:=eU) pB pC ph);have F2:aMi K "worth" "worth" uT f2 _ T2 #[.int 400 tk2]:=⟨⟨_,_,_,_,_,_,_,_,_,rfl,l2,c2⟩,k2,⟨_,_,_,_,t2⟩⟩
 have uG:aUm l.prog w K mg base 6 "worth" "most" 2 (.int 400) jO:=⟨⟨f2,_,["program","words","most"],.int 400 tk2,.int 400,(IK rfl B qZ q_PlainRun p6 pj cl_PlainRun pz pb pc ⟨pM,fH,ph⟩ y_4 ((iI (st:=eU) pB pC ph).binds λ_ _ _ _ _ _ us hl=>by obtain⟨_,_,rfl⟩:=Mi.l2 hl;rfl) F2).aUv,Y a2,k2,(λs us X' hl=>by obtain⟨_,_,_,rfl⟩:=Mi.l3 (by simpa using hl);exact lu rfl (X' _ _ t2) rfl rfl rfl),(λs us X' hl=>by obtain⟨_,_,rfl⟩:=Mi.l2 (by simpa using hl);exact lu rfl (X' _ _ t2) rfl rfl rfl),⟨_,rfl⟩,λ_=>.int 400,λs us y X' hl=>by obtain⟨_,_,rfl⟩:=Mi.l2 hl;first|exact .of_eq rfl|exact .of_eq 0x5|exact lu rfl (X' _ _ t2) rfl rfl rfl|exact lu rfl (X' _ _ t2) rfl 0x5 0x5⟩⟩
 have qo:aKe l.prog w K mg base 6 "worth" 3 jO:=⟨f2,_,["program","words","most"],IK rfl B qZ q_PlainRun p6 pj cl_PlainRun pz pb pc ⟨pM,fH,ph⟩ y_4 ((iI (st:=eU) pB pC ph).binds λ_ _ _ _ _ _ us hl=>by obtain⟨_,_,rfl⟩:=Mi.l2 hl;rfl) F2,Y a2,k2,λs us X' hl=>by obtain⟨_,_,_,rfl⟩:=Mi.l3 (by simpa using hl);exact lu rfl (X' _ _ t2) rfl rfl rfl⟩
 have zd_worth:aPa l.prog w K mg base 6 "worth" 3 jO [.int 400]:=⟨f2,_,["program","words","most"],[.int 400 tk2],[.int 400],IK rfl B qZ q_PlainRun p6 pj cl_PlainRun pz pb pc ⟨pM,fH,ph⟩ y_4 ((iI (st:=eU) pB pC ph).binds λ_ _ _ _ _ _ us hl=>by obtain⟨_,_,rfl⟩:=Mi.l2 hl;rfl) F2,Y a2,k2,(λs us X' hl=>by obtain⟨_,_,rfl⟩:=Mi.l2 (by simpa using hl);exact lu rfl (X' _ _ t2) rfl rfl rfl),.cons ⟨_,rfl⟩ .nil,λ_=>.cons (.int 400) .nil⟩
 have uq:=IV (P:=l.prog) (w:=w) (base:=base) rfl B  F3 (Y a3);have rD:=IW (P:=l.prog) (w:=w) (base:=base) rfl B uq F4 (Y a4);have rE:=R5 (P:=l.prog) (w:=w) (base:=base) rfl B  F5 (Y a5);have rF:=z9 (P:=l.prog) (w:=w) (base:=base) rfl B rE F6 (Y a6);have rG:=aLa (P:=l.prog) (w:=w) (base:=base) rfl B  F7 (Y a7);have ur:=zH (P:=l.prog) (w:=w) (base:=base) rfl B rG F8 (Y a8);have ut:=zJ (P:=l.prog) (w:=w) (base:=base) rfl B qY ur rF F9 (Y a9);have uv:=uW (P:=l.prog) (w:=w) (base:=base) rfl B  F10 (Y a10);have ux:=zK (P:=l.prog) (w:=w) (base:=base) rfl B  F11 (Y a11);have uy:=aCr (P:=l.prog) (w:=w) (base:=base) rfl B rG ux ut uv F12 (Y a12);have uz:=mJ (P:=l.prog) (w:=w) (base:=base) rfl B  F13 (Y a13);have uA:=R6 (P:=l.prog) (w:=w) (base:=base) rfl B uz F14 (Y a14);have rg:=JB (P:=l.prog) (w:=w) (base:=base) rfl B uA F15 (Y a15);have uB:=M9 (P:=l.prog) (w:=w) (base:=base) rfl B rg F16 (Y a16);have uC:=ZJ (P:=l.prog) (w:=w) (base:=base) rfl B uB rg F17 (Y a17);have uD:=aG8 (P:=l.prog) (w:=w) (base:=base) rfl B uC F18 (Y a18);have uE:=aG9 (P:=l.prog) (w:=w) (base:=base) rfl B rg qY rE rF F19 (Y a19);have F20:aMi K "reckoned" "reckoned" iW f20 _ T20 #[.int 400 tk20]:=⟨⟨_,_,_,_,_,_,_,_,_,rfl,l20,c20⟩,k20,⟨_,_,_,_,t20⟩⟩
 have zd_reckoned:aPa l.prog w K mg base 7 "reckoned" 3 fK [.int 400]:=⟨f20,_,["text","term_text","most"],[.int 400 tk20],[.int 400],R9 rfl B uD uy uE qo F20,Y a20,k20,(λs us X' hl=>by obtain⟨_,_,rfl⟩:=Mi.l2 (by simpa using hl);exact lu rfl (X' _ _ t20) rfl rfl rfl),.cons ⟨_,rfl⟩ .nil,λ_=>.cons (.int 400) .nil⟩
 have uF:=JC (P:=l.prog) (w:=w) (base:=base) rfl B rD F21 (Y a21);exact aPx rfl B rD uF zd_reckoned (Y pj) ⟨⟨_,pj,qJ⟩,trivial⟩ (iI (st:=HY) l22 c22 k22)
def walk{l:OpenLaw}{d:DefRec}{K:Params->Frag}(main:∀ns:ae ak,ns.length<=63->ZD [.scr (ns.map ι)]=.ok (.bl ag))(hn:l.most=aa 63)(hdf:d.params.defaults=[])
 (hY:∀(w:bn) (h:aE),YP w h->(K w.params).In h)
 (F:∀(w:bn) (mg:Str->au al) (fa:am) (h:aE),(K w.params).In h->h.Ns bt mg->mg d.name=aa (.ref fa)->
   ∃fd:dm,(∀(s:ar) (u:al),kH s fd ⟨[u],[]⟩ [("script",u)])/\∀base:aE,(K w.params).In base->base.Ns bt mg->j4 l.prog w (K w.params) mg base CX0 8 fa fd ["script"] (@spD ⟨K w.params⟩ ZD 1)) :
  WalkO q loose XP YP l.row.toRowW d [] (λf vs=>y2 f vs):=
 L2.aJ9 (n:=63) (k:=8) (x:= "script") (CX:=λ_=>CX0) (sp:=λw=>@spD ⟨K w.params⟩ ZD 1) hn 0x4 hdf ⟨rfl,by decide,by decide⟩ hY F (λw H a ns hl hO hS=>aAu main hl hO hS) λ_ _ _ _ _ z=>z
end Lk87
end
namespace Lk87
open PySem L2 Mi
local macro_rules|`(0xb)=>`(aD rfl rfl)
def call_v(h:f (ds++bi (m-n) D.uD)=.ok (.rt d)):fnS n m f ds=.ok d:=by
 unfold fnS;rw[h];rfl
def zL(h:f ρ=.ok (.rt d)):bU f g ρ=.ok (.rt d):=by
 unfold bU;rw[h];rfl
def aCt(a:ak)(h1:0<=a)(h2:a<4294967296):i_ a=ag:=by
 simp only[i_,ba,c_];lia
def aUz(n:ah):max2 [.int 1,.int n]=.ok (.int (if (1:ak)<n then n else 1)):=by
 rfl
def drw(ns:ae ak)(k:ak):ak:=match bB [.scr (ns.map ι),.int k] with
 |.ok (.int r)=>r
 |_=>0
def aLd(ns:ae ak)(hn:ns.length<=63)(k:ak):∃r:ak,bB [.scr (ns.map ι),.int k]=.ok (.int r)/\0<=r/\r<2147483629:=by
 have hl:vQ [.scr (ns.map ι)]=.ok (.int ns.length):=by
  show τ (ι ((ns.map ι).length:ak))=_;rw[br]
 have rest:∀cell:ak,∃r:ak,(bU (cZ aj 3 (b2 (cO .mod) (b2 GQ (b2 (cO .add) (b2 (cO .add) fL fM) (b2 GQ xP (b2 (cO .fdiv) c7 (aQ max2 (aC fM (aC (aQ vQ (aC cT aW)) aW)))))) FJ) iM) ag) (lY (b2 (cO .mod) (b2 GQ fB fB) j7) ag)) [.scr (ns.map ι),.int k,.int cell,.uD]=.ok (.rt (.int r))/\0<=r/\r<2147483629:=by
  intro cell;have hmx:=aUz ns.length;have hm:(0:ak)<(if (1:ak)<ns.length then (ns.length:ak) else 1)/\(if (1:ak)<ns.length then (ns.length:ak) else 1)<1073741824:=by split<;>lia
  generalize (if (1:ak)<ns.length then (ns.length:ak) else 1)=m at hmx hm;have f1:=yL k m hm.1 hm.2;have f2:=aAz 104729 (k / m) 0x4;have f3:=o9 cell 1;have f4:=o9 (cell+1) (104729*(k / m));have f5:=aHj (cell+1+104729*(k / m)) 48271 0x4;have f6:=iK ((cell+1+104729*(k / m))*48271) 2147483647 0x4;have x0:0<=(cell+1+104729*(k / m))*48271 % 2147483647:=fN _ 0x4;have x1:(cell+1+104729*(k / m))*48271 % 2147483647<2147483647:=gs _ 0x4;generalize (cell+1+104729*(k / m))*48271 % 2147483647=x at f6 x0 x1;have f7:=aHj x x (aCt x x0 0x1);have f8:=iK (x*x) 2147483629 0x4;refine⟨x*x % 2147483629,?_,fN _ 0x4,gs _ 0x4⟩;refine aN (cC (aO (aO (aO (aO rfl rfl f3) (aO rfl (aO rfl (aX (aD rfl (aD (aX 0xb hl) rfl)) hmx) f1) f2) f4) rfl f5) rfl f6)) ?_;exact gJ (aO (aO rfl rfl f7) rfl f8) rfl
 have fin:∀cell:ak,yZ [.scr (ns.map ι),.int k,.uD,.uD]=(bU (cZ aj 3 (b2 (cO .mod) (b2 GQ (b2 (cO .add) (b2 (cO .add) fL fM) (b2 GQ xP (b2 (cO .fdiv) c7 (aQ max2 (aC fM (aC (aQ vQ (aC cT aW)) aW)))))) FJ) iM) ag) (lY (b2 (cO .mod) (b2 GQ fB fB) j7) ag)) [.scr (ns.map ι),.int k,.int cell,.uD]->∃r:ak,bB [.scr (ns.map ι),.int k]=.ok (.int r)/\0<=r/\r<2147483629:=λcell e=>by
  obtain⟨r,h1,h2⟩:=rest cell;exact⟨r,call_v (e.trans h1),h2⟩
 by_cases h0:(ns.length:ak) > 0
 .have hc:gG (.ord .gt) (.int ns.length) (.int 0)=.ok (.bl ag):=by
   show τ (ο (ϒ (0<(ns.length:ak))))=_;rw[bj h0]
  have m1:=iK k ns.length h0;have i0:0<=k % (ns.length:ak):=fN _ 0x1;have i1:k % (ns.length:ak)<ns.length:=gs _ h0;generalize k % (ns.length:ak)=i at m1 i0 i1;have hlt:i.toNat<(ns.map ι).length:=by rw[br];lia
  have hg:getD (.scr (ns.map ι)) (.int i)=.ok (.int (ns[i.toNat]' 0x1)):=by
   show ν ((ixD (ns.map ι).length i).bind λj=>(ns.map ι)[j]?)=_;unfold ixD;rw[aq i0,aq (by rw[br];exact i1)];simp only[xk];rw[eh hlt,List.getElem_map];rfl
  have m2:=iK (ns[i.toNat]' 0x1) 2147483647 0x4;refine fin _ (aN (cC rfl) (aN (aAx (fQ (aO (aX 0xb hl) rfl hc)) (cC (aO (aO rfl (aO rfl (aX 0xb hl) m1) hg) rfl m2))) rfl))
 .have hc:gG (.ord .gt) (.int ns.length) (.int 0)=.ok (.bl aj):=by
   show τ (ο (ϒ (0<(ns.length:ak))))=_;rw[cq h0]
  exact fin 0 (aN (cC rfl) (aN (o8 (fQ (aO (aX 0xb hl) rfl hc)) rfl) rfl))
def R_(hn:ns.length<=63)(k:ak):cU 2 bB [.scr (ns.map ι),.int k]=.ok (.int (drw ns k))/\0<=drw ns k/\drw ns k<2147483629:=by
 obtain⟨r,h1,h2⟩:=aLd ns hn k;have e:drw ns k=r:=by
  unfold drw;rw[h1]
 rw[e];exact⟨(cF rfl).trans h1,h2⟩
noncomputable def abc:Str:= "abcdefghijklmnopqrstuvwxyz"
def aCu(x:Str)(n:ah)(hx:x.cps.toList.length=n)(hl:x.length<=lim)(i:ak)(h0:0<=i)(h1:i<n):getD (.str x) (.int i)=.ok (.str ⟨#[x.cps.toList.getD i.toNat 0]⟩):=by
 have hix:ixD x.cps.toList.length i=aa i.toNat:=by
  unfold ixD;rw[aq h0,hx,aq 0x1]
 have hlt:i.toNat<x.cps.toList.length:=by rw[hx];lia
 show(if ϒ (x.length<=lim) then ν (((ixD x.cps.toList.length i).bind λj=>x.cps.toList[j]?).map λc=>ε ⟨#[c]⟩) else .bad)=_;rw[bj hl,aq rfl,hix];simp only[xk];rw[cx,eh hlt];rfl
def aCv(i:ak)(h0:0<=i)(h1:i<26):getD (.str abc) (.int i)=.ok (.str ⟨#[abc.cps.toList.getD i.toNat 0]⟩):=aCu abc 26 0x6 0x6 i h0 h1
def aLe(i:ak)(h0:0<=i)(h1:i<4):getD (.str "abdz") (.int i)=.ok (.str ⟨#[("abdz" : Str).cps.toList.getD i.toNat 0]⟩):=aCu "abdz" 4 0x6 0x6 i h0 h1
noncomputable def one(c:ah):Str:=⟨#[c]⟩
def NB(c:ah)(n:ah):(lg (one c) (n:ak)).cps.toList=bi n c:=by
 unfold lg;by_cases h:(n:ak)<1
 .have:n=0:=by lia
  subst this;rw[aq h];rfl
 .rw[ax h];by_cases h1:n=1
  .subst h1;rfl
  .rw[ax]
   .have:∀(m:ah)(acc:aI ah),((bi m (one c).cps).foldl (·++·) acc).toList=acc.toList++bi m c:=by
     intro m;induction m with
     |zero=>intro acc;simp
     |succ m ih=>
      intro acc;rw[ip,A7,ih,ip];simp[one]
    have:=this n #[];simpa using this
   .have:(one c).length=1:=rfl;rw[this];simp;lia
def V3{p q r t:ah}(h1:p≠q)(h2:p≠r)(h3:p≠t)(h4:q≠r)(h5:q≠t)(h6:r≠t):bi a c++d::bi b c≠[p,q,r,t]:=by
 intro h;have hl:=c5 yn h;simp at hl;have:(a=0/\b=3)\/(a=1/\b=2)\/(a=2/\b=1)\/(a=3/\b=0):=by lia
 rcases this with ⟨rfl,rfl⟩|⟨rfl,rfl⟩|⟨rfl,rfl⟩|⟨rfl,rfl⟩<;>(simp[bi] at h;lia)
def V4{p q r t u:ah}(h1:p≠q)(h2:p≠r)(h4:q≠r):bi a c++d::bi b c≠[p,q,r,t,u]\/(p=t\/q=t\/r=t):=by
 by_cases z:p=t\/q=t\/r=t
 .exact .inr z
 refine .inl λh=>?_
 have hl:=c5 yn h;simp at hl;have:(a=0/\b=4)\/(a=1/\b=3)\/(a=2/\b=2)\/(a=3/\b=1)\/(a=4/\b=0):=by lia
 rcases this with ⟨rfl,rfl⟩|⟨rfl,rfl⟩|⟨rfl,rfl⟩|⟨rfl,rfl⟩|⟨rfl,rfl⟩<;>(simp[bi] at h;lia)
def JD:∀k,k<26->abc.cps.toList.getD k 0=97+k:=0x6
def aSw:(2:ah)<=lim:=by rw[bN];lia
def V5(h:a ρ=.ok xs)(hl:xs.length<=lim):lG a ρ=.ok (.lst xs):=by
 unfold lG;rw[h,θ,aq (bj hl)];rfl
def JF(h:f ρ=.ok d)(hp:d.pure=ag):bPu f ρ=.ok d:=by
 unfold bPu;rw[h,θ,aq hp]
def aCw(a b:D)(i:ak)(h0:0<=i)(h1:i<2):getD (.lst [a,b]) (.int i)=.ok (if i=0 then a else b):=by
 have:i=0\/i=1:=by lia
 rcases this with rfl|rfl
 .rfl
 .rfl
def aU0(c:ah)(n:ak)(h0:0<=n)(h1:n<=100):GQ (.str (one c)) (.int n)=.ok (.str (lg (one c) n)):=by
 show(if ϒ (0<=n)&&ϒ (n<=100000)&&ϒ ((one c).length*n.toNat<=lim) then τ (ε (lg (one c) n)) else .bad)=_;rw[aq];have:(one c).length=1:=rfl;rw[this,bj h0,bj 0x1,bj (by rw[bN];lia)];rfl
def uX(a b:Str):(a++b).cps.toList=a.cps.toList++b.cps.toList:=by
 show(a.cps++b.cps).toList=_;exact Array.toList_append
def zM(a:Str):a.length=a.cps.toList.length:=by
 show a.cps.size=_;rw[ly]
def wrd(ns:ae ak)(i:ak):Str:=match bL [.scr (ns.map ι),.int i] with
 |.ok (.str x)=>x
 |_=>""
def Good(x:Str):Prop:=x ≠ "copy"/\x ≠ "drop"/\(1<=x.cps.toList.length/\x.cps.toList.length<=8)/\∀c∈x.cps.toList,97<=c/\c<=122
def mW:("copy" : Str).cps.toList=[99,111,112,121]:=0x6
def mX:("drop" : Str).cps.toList=[100,114,111,112]:=0x6
def five(x:Str)(h:x.cps.toList.length=5)(hc:∀c∈x.cps.toList,97<=c/\c<=122):Good x:=by
 refine⟨λz=>?_,λz=>?_,⟨by lia,by lia⟩,hc⟩
 .rw[z,mW] at h;cases h
 .rw[z,mX] at h;cases h
def SJ(ns:ae ak):ah:=if drw ns 0 / 104 % 2=0 then abc.cps.toList.getD (drw ns 0 % 26).toNat 0 else ("abdz" : Str).cps.toList.getD (drw ns 0 / 26 % 4).toNat 0
def Sh(ns:ae ak)(i:ak)(x:Str):Prop:=(i=3/\∃c,x.cps.toList=[100,114,111,112,c])\/(i=8/\∃c,x.cps.toList=[99,111,112,121,c])\/∃t,x.cps.toList=bi (drw ns 1 % 8).toNat (SJ ns)++(97+((i+drw ns 3) % 26).toNat)::bi t (SJ ns)
def aGa(ns:ae ak):97<=SJ ns/\SJ ns<=122:=by
 unfold SJ;split
 .rw[JD _ 0x1];lia
 .have:∀k<4,97<=("abdz" : Str).cps.toList.getD k 0/\("abdz" : Str).cps.toList.getD k 0<=122:=by decide +kernel
  exact this _ 0x1
def aLf(hn:ns.length<=63)(i:ak)(hi0:0<=i)(hi1:i<=33):∃x:Str,bL [.scr (ns.map ι),.int i]=.ok (.str x)/\Good x/\Sh ns i x:=by
 -- a draw,put down as an argument
 have dr:∀{ρ:ae D}{f:FE}{k:ak},eZ 0 ρ=.ok (.scr (ns.map ι))->f ρ=.ok (.int k)->aQ (cU 2 bB) (aC cT (aC f aW)) ρ=.ok (.int (drw ns k)):=λh1 h2=>aX (aD h1 (aD h2 rfl)) (R_ hn _).1
 have d0:=λk=>(R_ hn k).2.1
 have d1:=λk=>(R_ hn k).2.2
 have hin:inX (.int i) (.tup [.int 3,.int 8])=.ok (.bl ((3==i)||((8==i)||false))):=rfl;have ht:jR (aC J7 (aC FN aW)) [.scr (ns.map ι),.int i,.str abc,.uD,.uD,.uD,.uD]=.ok (.tup [.int 3,.int 8]):=eE (aD rfl 0xb) aSw;have m5:=iK (drw ns 36) 5 0x4;have ce:gG .eq (.int (drw ns 36 % 5)) (.int 1)=.ok (.bl (drw ns 36 % 5==1)):=rfl;by_cases hs:(i=3\/i=8)/\drw ns 36 % 5=1
 ·-- drop or copy and a letter
  have b1:((3==i)||((8==i)||false))=ag:=by
   rcases hs.1 with h|h<;>simp[h]
  rw[b1] at hin;rw[show(drw ns 36 % 5==1)=ag by simpa using hs.2] at ce;have f17:=yL i 8 0x4 0x4;have q0:0<=i / 8/\i / 8<2:=by rcases hs.1 with h|h<;>(rw[h];decide)
  have g1:=aCw (.str "drop") (.str "copy") (i / 8) q0.1 q0.2;have m26:=iK (drw ns 37) 26 0x4;have g2:=aCv (drw ns 37 % 26) (fN _ 0x4) (gs _ 0x4);have hcc:=JD (drw ns 37 % 26).toNat 0x1;have hc26:97<=abc.cps.toList.getD (drw ns 37 % 26).toNat 0/\abc.cps.toList.getD (drw ns 37 % 26).toNat 0<=122:=by rw[hcc];lia
  generalize abc.cps.toList.getD (drw ns 37 % 26).toNat 0=c at g2 hc26;obtain⟨w,hw,sw,g1'⟩:∃w:Str,w.cps.toList.length=4/\((i=3/\w.cps.toList=[100,114,111,112])\/(i=8/\w.cps.toList=[99,111,112,121]))/\getD (.lst [.str "drop",.str "copy"]) (.int (i / 8))=.ok (.str w):=by
   rcases hs.1 with z|z
   .rw[aq (by rw[z];rfl)] at g1;exact⟨"drop",by rw[mX];rfl,.inl ⟨z,mX⟩,g1⟩
   .rw[ax (by rw[z];decide)] at g1;exact⟨"copy",by rw[mW];rfl,.inr ⟨z,mW⟩,g1⟩
  have g2:getD (.str abc) (.int (drw ns 37 % 26))=.ok (.str (one c)):=g2;have g3:=Q0 w (one c) (by rw[zM,hw,bN];show 4+1<=1000000;lia);refine⟨w++(one c),call_v ?_,five _ (by rw[uX,b6,hw];rfl) ?_,?_⟩
  rotate_left
  .intro u hu;rw[uX] at hu;rcases d6.mp hu with hu|hu
   .rcases sw with ⟨_,e⟩|⟨_,e⟩<;>(rw[e] at hu;simp only[bq,iF,or_false] at hu;lia)
   .have:u=c:=ja.mp hu;rw[this];exact hc26
  .rcases sw with ⟨z,e⟩|⟨z,e⟩
   .exact .inl ⟨z,c,by rw[uX,e];rfl⟩
   .exact .inr (.inl ⟨z,c,by rw[uX,e];rfl⟩)
  refine aN (cC rfl) ?_;refine zL (aAx (KJ (fQ (aO rfl ht hin)) (fQ (aO (aO (dr rfl rfl) rfl m5) rfl ce))) ?_);show lY (b2 (cO .add) (b2 getD (lG (aC (bC (.str "drop")) (aC (bC (.str "copy")) aW))) (b2 (cO .fdiv) c7 FN)) (b2 getD fL (b2 (cO .mod) (aQ (cU 2 bB) (aC cT (aC aJd aW))) QF))) ag [.scr (ns.map ι),.int i,.str abc,.uD,.uD,.uD,.uD]=.ok (.rt (.str (w++(one c))));exact gJ (aO (aO (V5 (aD rfl 0xb) aSw) (aO rfl rfl f17) g1') (aO rfl (aO (dr rfl rfl) rfl m26) g2) g3) rfl
 ·-- a word of one sign but one
  have hif:(sIf (XS (bTB (b2 inX c7 (jR (aC J7 (aC FN aW))))) (bTB (b2 (gG .eq) (b2 (cO .mod) (aQ (cU 2 bB) (aC cT (aC (bC (.int 36)) aW))) aMh) fM))) (lY (b2 (cO .add) (b2 getD (lG (aC (bC (.str "drop")) (aC (bC (.str "copy")) aW))) (b2 (cO .fdiv) c7 FN)) (b2 getD fL (b2 (cO .mod) (aQ (cU 2 bB) (aC cT (aC aJd aW))) QF))) ag) jT) [.scr (ns.map ι),.int i,.str abc,.uD,.uD,.uD,.uD]=.ok (.nx [.scr (ns.map ι),.int i,.str abc,.uD,.uD,.uD,.uD]):=by
   by_cases h1:i=3\/i=8
   .have b1:((3==i)||((8==i)||false))=ag:=by rcases h1 with h|h<;>simp[h]
    have h2:¬drw ns 36 % 5=1:=λz=>hs ⟨h1,z⟩
    rw[b1] at hin;rw[show(drw ns 36 % 5==1)=aj by simpa using h2] at ce;exact o8 (KJ (fQ (aO rfl ht hin)) (fQ (aO (aO (dr rfl rfl) rfl m5) rfl ce))) rfl
   .have b1:((3==i)||((8==i)||false))=aj:=by
     rw[fE] at h1;simp only[vb,Bool.or_eq_false_iff,fq,ne_eq];lia
    rw[b1] at hin;exact o8 (aF1 (fQ (aO rfl ht hin))) rfl
  have a26:=iK (drw ns 0) 26 0x4;have b26:=yL (drw ns 0) 26 0x4 0x4;have b4:=iK (drw ns 0 / 26) 4 0x4;have c104:=yL (drw ns 0) 104 0x4 0x4;have c2:=iK (drw ns 0 / 104) 2 0x4;have g1:=aCv (drw ns 0 % 26) (fN _ 0x4) (gs _ 0x4);have g2:=aLe (drw ns 0 / 26 % 4) (fN _ 0x4) (gs _ 0x4);have hpd:SJ ns=if drw ns 0 / 104 % 2=0 then abc.cps.toList.getD (drw ns 0 % 26).toNat 0 else ("abdz" : Str).cps.toList.getD (drw ns 0 / 26 % 4).toNat 0:=rfl
  generalize abc.cps.toList.getD (drw ns 0 % 26).toNat 0=p1 at g1 hpd;generalize ("abdz" : Str).cps.toList.getD (drw ns 0 / 26 % 4).toNat 0=p2 at g2 hpd;have g3:getD (.lst [.str ⟨#[p1]⟩,.str ⟨#[p2]⟩]) (.int (drw ns 0 / 104 % 2))=.ok (.str (one (SJ ns))):=by
   have:=aCw (.str ⟨#[p1]⟩) (.str ⟨#[p2]⟩) (drw ns 0 / 104 % 2) (fN _ 0x4) (gs _ 0x4);rw[this,hpd];by_cases z:drw ns 0 / 104 % 2=0
   .rw[aq z,aq z];rfl
   .rw[ax z,ax z];rfl
  have hsh:∀(x:Str)(t:ah),x.cps.toList=bi (drw ns 1 % 8).toNat (SJ ns)++(97+((i+drw ns 3) % 26).toNat)::bi t (SJ ns)->Sh ns i x:=λx t e=>.inr (.inr ⟨t,e⟩)
  have hpc:=aGa ns;generalize SJ ns=pd at g3 hsh hpc;have e8:=iK (drw ns 1) 8 0x4;have pl0:0<=drw ns 1 % 8:=fN _ 0x4;have pl1:drw ns 1 % 8<8:=gs _ 0x4;generalize hpl:drw ns 1 % 8=pl at e8 pl0 pl1 hsh;have s8:=aO8 8 pl;have t1:=iK (drw ns 2) (8-pl) 0x1;have t2:=iK (drw ns (4+i)) (8-pl) 0x1;have f8:=yL (drw ns 1) 8 0x4 0x4;have f2:=iK (drw ns 1 / 8) 2 0x4;have ce2:gG .eq (.int (drw ns 1 / 8 % 2)) (.int 1)=.ok (.bl (drw ns 1 / 8 % 2==1)):=rfl;have l1:=o9 i (drw ns 3);have l2:=iK (i+drw ns 3) 26 0x4;have k0:0<=(i+drw ns 3) % 26:=fN _ 0x4;have k1:(i+drw ns 3) % 26<26:=gs _ 0x4;have g4:=aCv ((i+drw ns 3) % 26) k0 k1;rw[JD _ 0x1] at g4;have hcc:97<=97+((i+drw ns 3) % 26).toNat/\97+((i+drw ns 3) % 26).toNat<=122:=by lia
  generalize 97+((i+drw ns 3) % 26).toNat=c at g4 hsh hcc
  -- the tail
  obtain⟨tl,tl0,tl1,htl⟩:∃tl:ak,0<=tl/\tl<8-pl/\(bU (cZ aj 6 (b2 (cO .mod) (aQ (cU 2 bB) (aC cT (aC uJ aW))) (b2 (cO .sub) FN nF)) ag) (sIf (bTB (b2 (gG .eq) (b2 (cO .mod) (b2 (cO .fdiv) (aQ (cU 2 bB) (aC cT (aC fM aW))) FN) uJ) fM)) (cZ aj 6 (b2 (cO .mod) (aQ (cU 2 bB) (aC cT (aC (b2 (cO .add) aR4 c7) aW))) (b2 (cO .sub) FN nF)) ag) jT)) [.scr (ns.map ι),.int i,.str abc,.int (drw ns 0),.str (one pd),.int pl,.uD]=.ok (.nx [.scr (ns.map ι),.int i,.str abc,.int (drw ns 0),.str (one pd),.int pl,.int tl]):=by
   have first:(cZ aj 6 (b2 (cO .mod) (aQ (cU 2 bB) (aC cT (aC uJ aW))) (b2 (cO .sub) FN nF)) ag) [.scr (ns.map ι),.int i,.str abc,.int (drw ns 0),.str (one pd),.int pl,.uD]=.ok (.nx [.scr (ns.map ι),.int i,.str abc,.int (drw ns 0),.str (one pd),.int pl,.int (drw ns 2 % (8-pl))]):=cC (aO (dr rfl rfl) (aO rfl rfl s8) t1)
   have tst:bTB (b2 (gG .eq) (b2 (cO .mod) (b2 (cO .fdiv) (aQ (cU 2 bB) (aC cT (aC fM aW))) FN) uJ) fM) [.scr (ns.map ι),.int i,.str abc,.int (drw ns 0),.str (one pd),.int pl,.int (drw ns 2 % (8-pl))]=.ok (drw ns 1 / 8 % 2==1):=fQ (aO (aO (aO (dr rfl rfl) rfl f8) rfl f2) rfl ce2);have u0:0<=drw ns 2 % (8-pl):=fN _ 0x1;have u1:drw ns 2 % (8-pl)<8-pl:=gs _ 0x1;have v0:0<=drw ns (4+i) % (8-pl):=fN _ 0x1;have v1:drw ns (4+i) % (8-pl)<8-pl:=gs _ 0x1;cases hb:(drw ns 1 / 8 % 2==1) with
   |true=>
    rw[hb] at tst;exact⟨_,v0,v1,aN first (aAx tst (cC (aO (dr rfl (aO rfl rfl (o9 4 i))) (aO rfl rfl s8) t2)))⟩
   |false=>
    rw[hb] at tst;exact⟨_,u0,u1,aN first (o8 tst rfl)⟩
  have mp:=aU0 pd pl pl0 0x1;have mt:=aU0 pd tl tl0 0x1;have cp:=NB pd pl.toNat;have ct:=NB pd tl.toNat;rw[show((pl.toNat:ah):ak)=pl by lia] at cp;rw[show((tl.toNat:ah):ak)=tl by lia] at ct;generalize lg (one pd) pl=xp at mp cp;generalize lg (one pd) tl=xt at mt ct;have lp:xp.length<=8:=by rw[zM,cp,nE];lia
  have lt:xt.length<=8:=by rw[zM,ct,nE];lia
  have a1:=Q0 xp ⟨#[c]⟩ (by rw[bN];show xp.length+1<=1000000;lia);have l9:(xp++⟨#[c]⟩:Str).length=xp.length+1:=str_len xp ⟨#[c]⟩;have a2:=Q0 (xp++⟨#[c]⟩) xt (by rw[l9,bN];lia);have codes:(xp++⟨#[c]⟩++xt:Str).cps.toList=bi pl.toNat pd++c::bi tl.toNat pd:=by
   rw[uX,uX,cp,ct,cr];rfl
  refine⟨xp++⟨#[c]⟩++xt,call_v ?_,⟨λz=>?_,λz=>?_,⟨by rw[codes];simp;lia,by rw[codes];simp;lia⟩,λu hu=>?_⟩,hsh _ _ codes⟩
  .refine aN (cC rfl) ?_;refine aN hif ?_;refine aN (cC (dr rfl rfl)) ?_;refine aN (GX (aO (V5 (aD (JF (aO rfl (aO rfl rfl a26) g1) rfl) (aD (JF (aO rfl (aO (aO rfl rfl b26) rfl b4) g2) rfl) rfl)) aSw) (aO (aO rfl rfl c104) rfl c2) g3) rfl) ?_;refine aN (cC (aO (dr rfl rfl) rfl e8)) ?_;have split:∀{f g h:FS}{ρ ρ':ae D}{r:Res Fl},bU f g ρ=.ok (.nx ρ')->h ρ'=r->bU f (bU g h) ρ=r:=by
    intro f g h ρ ρ' r e1 e2;unfold bU at e1 ⊢;cases hf:f ρ with
    |bad=>rw[hf] at e1;cases e1
    |err c as=>rw[hf] at e1;cases e1
    |ok fl=>
     rw[hf] at e1;cases fl with
     |nx ρ1=>
      simp only[θ] at e1 ⊢;rw[e1];exact e2
     |rt d=>cases e1
     |bk d=>cases e1
     |ct d=>cases e1
   refine split htl ?_;exact gJ (aO (aO (aO rfl rfl mp) (aO rfl (aO (aO rfl (dr rfl rfl) l1) rfl l2) g4) a1) (aO rfl rfl mt) a2) rfl
  .have:(xp++⟨#[c]⟩++xt:Str).cps.toList=_:=c5 (λx:Str=>x.cps.toList) z;rw[codes,mW] at this;exact V3 0x4 0x4 0x4 0x4 0x4 0x4 this
  .have:(xp++⟨#[c]⟩++xt:Str).cps.toList=_:=c5 (λx:Str=>x.cps.toList) z;rw[codes,mX] at this;exact V3 0x4 0x4 0x4 0x4 0x4 0x4 this
  .rw[codes] at hu;rcases d6.mp hu with hu|hu
   .rw[(Aj.mp hu).2];exact hpc
   .rcases bq.mp hu with rfl|hu
    .exact hcc
    .rw[(Aj.mp hu).2];exact hpc
def jN(hn:ns.length<=63)(hi0:0<=i)(hi1:i<=33):cU 2 bL [.scr (ns.map ι),.int i]=.ok (.str (wrd ns i))/\Good (wrd ns i)/\Sh ns i (wrd ns i):=by
 obtain⟨x,h1,h2⟩:=aLf hn i hi0 hi1;have e:wrd ns i=x:=by
  unfold wrd;rw[h1]
 rw[e];exact⟨(cF rfl).trans h1,h2⟩
def aLg(hn:ns.length<=63)(hi0:0<=i)(hi1:i<=25)(hj0:0<=j)(hj1:j<=25)(h:wrd ns i=wrd ns j):i=j:=by
 have si:=(jN hn hi0 0x1).2.2;have sj:=(jN hn hj0 0x1).2.2;rw[h] at si;have bad:∀{a b:ah}{e u:ah},(bi a (SJ ns)++e::bi b (SJ ns)=[100,114,111,112,u]->cf)/\(bi a (SJ ns)++e::bi b (SJ ns)=[99,111,112,121,u]->cf):=by
  intro a b e u;refine⟨λz=>?_,λz=>?_⟩
  .rcases V4 (p:=100) (q:=114) (r:=111) (t:=112) (u:=u) 0x4 0x4 0x4 with q|q
   .exact q z
   .lia
  .rcases V4 (c:=SJ ns) (d:=e) (a:=a) (b:=b) (p:=99) (q:=111) (r:=112) (t:=121) (u:=u) 0x4 0x4 0x4 with q|q
   .exact q z
   .lia
 rcases si with ⟨a1,c1,e1⟩|⟨a1,c1,e1⟩|⟨t1,e1⟩<;>rcases sj with ⟨a2,c2,e2⟩|⟨a2,c2,e2⟩|⟨t2,e2⟩<;>rw[e1] at e2
 .lia
 .cases e2
 .exact(bad.1 e2.symm).elim
 .cases e2
 .lia
 .exact(bad.2 e2.symm).elim
 .exact(bad.1 e2).elim
 .exact(bad.2 e2).elim
 .have:=List.append_cancel_left e2;injection this with q _
  have m1:=fN (i+drw ns 3) (show(26:ak)≠0 by decide);have m2:=fN (j+drw ns 3) (show(26:ak)≠0 by decide);lia
def V6:∀{a b r s:ae ah},c∉a->c∉b->a++c::r=b++c::s->a=b/\r=s
 |[],[],r,s,_,_,h=>by simpa using h
 |[],y::b,r,s,_,hb,h=>by
  injection h with h1 h2
  exact aS (by rw[h1];exact bE ..) hb
 |x::a,[],r,s,ha,_,h=>by
  injection h with h1 h2
  exact aS (by rw[<-h1];exact bE ..) ha
 |x::a,y::b,r,s,ha,hb,h=>by
  injection h with h1 h2
  obtain⟨h3,h4⟩:=V6 (λz=>ha (bX _ z)) (λz=>hb (bX _ z)) h2;exact⟨by rw[h1,h3],h4⟩
def jZ(c:ah)(x y:Str)(r:ae Str):(kh ⟨#[c]⟩ (x::y::r)).cps.toList=x.cps.toList++c::(kh ⟨#[c]⟩ (y::r)).cps.toList:=by
 show((x.cps++#[c])++(kh ⟨#[c]⟩ (y::r)).cps).toList=_;simp
def aCx{x y:Str}(h:x.cps.toList=y.cps.toList):x=y:=Str.ext' (Array.toList_inj.mp h)
def V7:∀{ps qs:ae Str},(∀p∈ps,c∉p.cps.toList)->(∀q∈qs,c∉q.cps.toList)->ps≠[]->qs≠[]->(kh ⟨#[c]⟩ ps).cps.toList=(kh ⟨#[c]⟩ qs).cps.toList->ps=qs
 |[],_,_,_,h,_,_=>aS rfl h
 |_,[],_,_,_,h,_=>aS rfl h
 |[p],[q],_,_,_,_,h=>by rw[aCx (x:=p) (y:=q) h]
 |[p],q::q2::qs,hp,_,_,_,h=>by
  rw[jZ] at h;have:c∈p.cps.toList:=by
   rw[show p.cps.toList=_ from h];exact dA _ (bE ..)
  exact aS this (hp p (bE ..))
 |p::p2::ps,[q],_,hq,_,_,h=>by
  rw[jZ] at h;have:c∈q.cps.toList:=by
   rw[show q.cps.toList=_ from h.symm];exact dA _ (bE ..)
  exact aS this (hq q (bE ..))
 |p::p2::ps,q::q2::qs,hp,hq,_,_,h=>by
  rw[jZ,jZ] at h;obtain⟨h1,h2⟩:=V6 (hp p (bE ..)) (hq q (bE ..)) h;have:=V7 (λz hz=>hp z (bX _ hz)) (λz hz=>hq z (bX _ hz)) 0x2 0x2 h2;rw[aCx h1,this]
def aGb(x:Str)(c:ah):Txt.split x ⟨#[c]⟩≠[]:=λh=>by
 have h1:=Dj x ⟨#[c]⟩;rw[h] at h1;have hx:x.length=0:=by rw[<-h1];rfl
 unfold Txt.split at h;rw[aq (by rw[f_,c_];left;rw[hx];exact Nat.zero_lt_one)] at h;cases h
def uY(hn:ts≠[])(hf:∀t∈ts,c∉t.cps.toList):Txt.split (cj ⟨#[c]⟩ ts) ⟨#[c]⟩=ts:=by
 have e:cj ⟨#[c]⟩ ts=kh ⟨#[c]⟩ ts:=Ak _ _;rw[e];exact V7 (StrLaws.split_free _ c) hf (aGb _ c) hn (by rw[Dj])
def wL(c:ah)(B:ah):∀ts:ae Str,(∀t∈ts,t.length<=B)->(cj ⟨#[c]⟩ ts).length<=ts.length*(B+1):=by
 intro ts h;have e:cj ⟨#[c]⟩ ts=kh ⟨#[c]⟩ ts:=Ak _ _;rw[e];have h1:=StrLaws.join_length_le ⟨#[c]⟩ ts;have h2:(ts.map (·.length)).sum<=ts.length*B:=by
  clear h1 e;induction ts with
  |nil=>simp
  |cons t ts ih=>
   have a:=h t (bE ..);have b:=ih λx hx=>h x (bX _ hx)
   simp only[bh,zf,bz,A9];lia
 have h3:(⟨#[c]⟩:Str).length=1:=rfl;rw[h3] at h1;have:ts.length*(B+1)=ts.length*B+ts.length*1:=by rw[Nat.mul_add]
 lia
def aGc:∀{ts:ae Str},d∈(cj ⟨#[c]⟩ ts).cps.toList->d=c\/∃t∈ts,d∈t.cps.toList:=by
 intro ts;have e:cj ⟨#[c]⟩ ts=kh ⟨#[c]⟩ ts:=Ak _ _;rw[e];clear e;induction ts with
 |nil=>intro h;cases h
 |cons t ts ih=>
  intro h;cases ts with
  |nil=>exact .inr ⟨t,bE ..,h⟩
  |cons u ts=>
   rw[jZ] at h;rcases d6.mp h with h|h
   .exact .inr ⟨t,bE ..,h⟩
   .rcases bq.mp h with h|h
    .exact .inl h
    .rcases ih h with h|⟨v,hv,h⟩
     .exact .inl h
     .exact .inr ⟨v,bX _ hv,h⟩
def sS(h:∀t∈ts,t.length<=B)(hb:ts.length*B+ts.length<=1000000):fj ⟨#[c]⟩ ts=ag:=by
 unfold fj;rw[lf];exact StrLaws.joinFits h (by rw[show(⟨#[c]⟩:Str).length=1 from rfl,Nat.mul_one];lia)
def sU:∀ts:ae Str,l_ (ts.map ε)=aa ts
 |[]=>rfl
 |t::ts=>by
  show(l_ (ts.map ε)).map (t::·)=_;rw[sU ts];rfl
noncomputable def codeOk(c:ah):aw:=ϒ (97<=c)&&ϒ (c<=122)
def V8(x:Str):aw:=ϒ (1<=x.length)&&ϒ (x.length<=8)&&x.cps.toList.all codeOk
def V9(a b:ah):([a]<[b])↔a<b:=by
 rw[List.cons_lt_cons_iff];simp
def aU1(c:ah):n_ .le (.str "a") (.str (one c))=.ok (.bl (ϒ (97<=c))):=by
 show τ (ο (!ϒ ((one c).cps.toList<("a" : Str).cps.toList)))=_;rw[show("a" : Str).cps.toList=[97] from rfl,show(one c).cps.toList=[c] from rfl]
 congr 2
 by_cases h:c<97
 .rw[bj ((V9 c 97).mpr h),cq 0x1];rfl
 .rw[cq (λz=>h ((V9 c 97).mp z)),bj 0x1];rfl
def aV0(c:ah):n_ .le (.str (one c)) (.str "z")=.ok (.bl (ϒ (c<=122))):=by
 show τ (ο (!ϒ (("z" : Str).cps.toList<(one c).cps.toList)))=_;rw[show("z" : Str).cps.toList=[122] from rfl,show(one c).cps.toList=[c] from rfl]
 congr 2
 by_cases h:122<c
 .rw[bj ((V9 122 c).mpr h),cq 0x1];rfl
 .rw[cq (λz=>h ((V9 122 c).mp z)),bj 0x1];rfl
def zN(f:α->aw):∀xs:ae α,vL (xs.map λx=>ο (f x))=aa (xs.map f)
 |[]=>rfl
 |x::xs=>by
  show(vL (xs.map λx=>ο (f x))).map (f x::·)=_;rw[zN f xs];rfl
theorem aGd(x:Str)(hx:x.length<=lim):cU 1 dU [.str x]=.ok (.bl (x.cps.toList.all codeOk)):=by
 refine(cF rfl).trans (call_v ?_);have hi:bW cT aj [ε x]=.ok (m_ x,ag):=by
  show(do let d <- eZ 0 [ε x];let xs <- CN d;pure (xs,aj||d.pure))=_;show(do let xs <- (if ϒ (x.length<=lim) then τ (m_ x) else .bad);(pure (xs,ag):Res (ae D×aw)))=_;rw[aq (bj hx)];rfl
 have hl:(m_ x).length<=lim:=by
  unfold m_;rw[br];exact hx
 have hf:h_ (oN 1 v6 gD (bCh (n_ .le) (n_ .le) (bC (.str "a")) c7 (bC (.str "z"))) ag [ε x]) [] (m_ x)=.ok (x.cps.toList.map λc=>ο (codeOk c)):=by
  show h_ _ [] (x.cps.toList.map λc=>ε (one c))=_;rw[KN _ (λc=>ε (one c)) (λ_=>ag) (λc=>ο (codeOk c))]
  .rw[List.filter_eq_self.mpr (λ_ _=>rfl)];rfl
  .intro acc c;refine(yK rfl rfl λ_=>⟨?_,rfl⟩);show bCh (n_ .le) (n_ .le) (bC (.str "a")) c7 (bC (.str "z")) [ε x,.str (one c)]=_;by_cases h:97<=c
   .refine aR8 rfl rfl ((aU1 c).trans (by rw[bj h])) rfl ((aV0 c).trans ?_);unfold codeOk;rw[bj h,ix]
   .refine(aTi rfl rfl ((aU1 c).trans (by rw[cq h]))).trans ?_;unfold codeOk;rw[cq h,nw]
 refine gJ (aX (aD (nM hi hl hf) rfl) ?_) rfl;show(match vL (x.cps.toList.map λc=>ο (codeOk c)) with|some bs=>τ (ο (bs.all id))|none=>.bad)=_;rw[zN];show τ (ο ((x.cps.toList.map codeOk).all id))=_;rw[vh];rfl
def aPz(h1:a ρ=.ok (.bl ag))(h2:b ρ=r):XX a b ρ=r:=by
 unfold XX;rw[h1];exact h2
def aI2(h1:a ρ=.ok (.bl aj)):XX a b ρ=.ok (.bl aj):=by
 unfold XX;rw[h1];rfl
def len_str(x:Str)(hx:x.length<=lim):vQ [.str x]=.ok (.int x.length):=by
 show(if ϒ (x.length<=lim) then τ (ι x.length) else .bad)=_;rw[aq (bj hx)]
def nW(o:zZ)(a b:ak):n_ o (.int a) (.int b)=.ok (.bl (o.int a b)):=rfl
def aLh(x:Str)(hx:x.length<=lim):cU 1 mG [.str x]=.ok (.bl (V8 x)):=by
 refine(cF rfl).trans (call_v ?_);have hlen:aQ vQ (aC cT aW) [ε x]=.ok (.int x.length):=aX 0xb (len_str x hx);refine gJ ?_ rfl;unfold V8;by_cases h1:1<=x.length
 .by_cases h2:x.length<=8
  .refine aPz (aR8 rfl hlen ((nW .le 1 x.length).trans ?_) rfl ((nW .le x.length 8).trans ?_)) (aX 0xb ((aGd x hx).trans ?_))
   .rw[show zZ.le.int 1 x.length=ag from bj 0x1]
   .rw[show zZ.le.int x.length 8=ag from bj 0x1]
   .rw[bj h1,bj h2];rfl
  .refine(aI2 (aR8 rfl hlen ((nW .le 1 x.length).trans ?_) rfl ((nW .le x.length 8).trans ?_))).trans ?_
   .rw[show zZ.le.int 1 x.length=ag from bj 0x1]
   .rw[show zZ.le.int x.length 8=aj from cq 0x1]
   .rw[cq h2,l8,nw]
 .refine(aI2 (aTi rfl hlen ((nW .le 1 x.length).trans ?_))).trans ?_
  .rw[show zZ.le.int 1 x.length=aj from cq 0x1]
  .rw[cq h1,nw,nw]
def Nm(w:Str):Prop:=1<=w.length/\w.length<=8/\∀c∈w.cps.toList,97<=c/\c<=122
def aSx(h:Nm w):V8 w=ag:=by
 obtain⟨h1,h2,h3⟩:=h;unfold V8;rw[bj h1,bj h2,ix,ix,gf];intro c hc;obtain⟨a,b⟩:=h3 c hc;unfold codeOk;rw[bj a,bj b];rfl
def aQ0(h:Nm w):w.length<=lim:=by
 rw[bN];have:=h.2.1;lia
def dB(h1:a ρ=.ok (.tup xs)):bW a aj ρ=.ok (xs,δ xs):=by
 unfold bW;rw[h1];show τ (xs,aj||(μ xs).pure)=_;rw[ξ,ve]
def wM(g:ae D->D->Res (ae D))(d y:α->D):∀(xs:ae α)(acc:ae D),(∀a∈xs,∀acc,g acc (d a)=.ok (acc++[y a]))->h_ g acc (xs.map d)=.ok (acc++xs.map y)
 |[],acc,_=>by simp[h_]
 |x::xs,acc,h=>by
  rw[bh,h_,h x (bE ..)];show h_ g _ _=_;rw[wM g d y xs _ λa ha=>h a (bX _ ha)];simp
def SM(hρ:ρ.length=n)(ht:t x=.ok bs)(h2:f (ρ++bs)=.ok y)(h3:(k||y.pure)=ag):oN n t gD f k ρ acc x=.ok (acc++[y]):=by
 unfold oN;rw[ht,θ,yJ hρ,show gD (ρ++bs)=.ok ag from rfl,θ,aq rfl,h2,θ,aq h3];rfl
theorem sV{ws:ae Str}(h:∀w∈ws,Nm w)(hl:ws.length<=100):cU 1 dF [.tup (ws.map ε)]=.ok (.bl ag):=by
 refine(cF rfl).trans (call_v ?_);have hf:h_ (oN 1 v6 gD (aQ (cU 1 mG) (aC c7 aW)) ag [μ (ws.map ε)]) [] (ws.map ε)=.ok (ws.map λ_=>ο ag):=
  wM _ ε (λ_=>ο ag) ws [] λw hw acc=>SM rfl rfl (aX 0xb ((aLh w (aQ0 (h w hw))).trans (by rw[aSx (h w hw)]))) rfl
 refine gJ (aX (aD (nM (dB rfl) (by rw[br,bN];lia) hf) rfl) ?_) rfl;show(match vL (ws.map λ_=>ο ag) with|some bs=>τ (ο (bs.all id))|none=>.bad)=_;rw[zN (λ_=>ag)];show τ (ο ((ws.map λ_=>ag).all id))=_;rw[vh]
 congr 2
 rw[gf];intro x _;rfl
def iY:∀L:ae Str,δ (L.map ε)=ag
 |[]=>rfl
 |x::L=>by
  show((ε x).pure&&δ (L.map ε))=ag;rw[iY L];rfl
def BL(h1:o ρ=.ok x)(h2:a ρ=.ok xs)(h3:f x xs=.ok d):bM f o a ρ=.ok d:=by
 unfold bM;rw[h1,θ,h2,θ,h3]
def V_(h:fj sep ts=ag):joinM (.str sep) [.lst (ts.map ε)]=.ok (.str (cj sep ts)):=by
 show(match l_ (ts.map ε) with|some ts=>if fj sep ts then τ (ε (cj sep ts)) else .bad|none=>.bad)=_;rw[sU];show(if fj sep ts=ag then _ else _)=_;rw[aq h]
def aGe(h:fj sep ts=ag):YF (.str sep) [.tup (ts.map ε)]=.ok (.str (cj sep ts)):=by
 show(match l_ (ts.map ε) with|some ts=>if fj sep ts then τ (ε (cj sep ts)) else .bad|none=>.bad)=_;rw[sU];show(if fj sep ts=ag then _ else _)=_;rw[aq h]
inductive Row where
 |kind (w:Str)|maker (a b:Str) (r:ae Str)|taker (a b c:Str) (r:ae Str)|rule (a b:Str) (r ws:ae Str)
noncomputable def Row.words:Row->ae Str
 |.kind w=>["kind",w]
 |.maker a b r=>"maker" :: a::b::r
 |.taker a b c r=>"taker" :: a::b::c::r
 |.rule a b r ws=>"rule" :: a::b::(r++("=" : Str)::ws)
noncomputable def Row.told:Row->D
 |.kind w=>.str w
 |.maker a b r=>.tup [.str a,.str b,.tup (r.map ε)]
 |.taker a b c r=>.tup [.str a,.str b,.str c,.tup (r.map ε)]
 |.rule a b r ws=>.tup [.str a,.str b,.tup (r.map ε),.tup (ws.map ε)]
noncomputable def Row.idx:Row->ah
 |.kind _=>0
 |.maker _ _ _=>1
 |.taker _ _ _ _=>2
 |.rule _ _ _ _=>3
def Row.ok:Row->Prop
 |.kind w=>Nm w
 |.maker a b r=>Nm a/\Nm b/\(∀w∈r,Nm w)/\r.length<=3
 |.taker a b c r=>Nm a/\Nm b/\Nm c/\(∀w∈r,Nm w)/\r.length<=2
 |.rule a b r ws=>Nm a/\Nm b/\(∀w∈r,Nm w)/\r.length<=5/\(∀w∈ws,Nm w)/\1<=ws.length/\ws.length<=40
def zO(n d a:ah):OJ n d (aa (a:ak))=min a n:=by
 show(if (a:ak)<0 then (max ((a:ak)+(n:ak)) 0).toNat else (min (a:ak) (n:ak)).toNat)=_;rw[ax 0x1];lia
def WD(n d:ah):OJ n d ai=d:=rfl
def aI3(xs:ae α)(a:ah):cutD xs ai (aa (a:ak))=xs.take a:=by
 unfold cutD;rw[zO,WD,zC,Nat.sub_zero];by_cases h:a<=xs.length
 .rw[sv h]
 .rw[Dk 0x1,sh (bo _),sh 0x1]
def wN(xs:ae α)(a:ah):cutD xs (aa (a:ak)) ai=xs.drop a:=by
 unfold cutD;rw[zO,WD];by_cases h:a<=xs.length
 .rw[sv h,sh (by rw[s_];exact bo _)]
 .rw[Dk 0x1,hV (bo _),hV 0x1,List.take_nil]
def NK(h1:a ρ=.ok x)(h2:lo ρ=.ok l)(h3:hi ρ=.ok h)(h4:aEx x l h=.ok d):CK a lo hi ρ=.ok d:=by
 unfold CK;rw[h1,θ,h2,θ,h3,θ,h4]
def aLi(ws:ae Str)(lo hi:au ak):aEx (.lst (ws.map ε)) lo hi=.ok (.lst ((cutD ws lo hi).map ε)):=by
 show(if δ (ws.map ε)=ag then τ (υ (cutD (ws.map ε) lo hi)) else .bad)=_;rw[aq (iY ws)];unfold cutD;rw[br,zc,zd]
def SN(ws:ae Str)(lo hi:au ak)(h:¬(OJ ws.length 0 lo=0/\OJ ws.length ws.length hi=ws.length)):aEx (.tup (ws.map ε)) lo hi=.ok (.tup ((cutD ws lo hi).map ε)):=by
 show(if !δ (ws.map ε)||ϒ (OJ (ws.map ε).length 0 lo=0/\OJ (ws.map ε).length (ws.map ε).length hi=(ws.map ε).length) then Res.bad else τ (μ (cutD (ws.map ε) lo hi)))=_;rw[iY,br,cq h];unfold cutD;rw[br,zc,zd];rfl
def uZ(h:a ρ=.ok (.int i)):j8 a ρ=.ok (aa i):=by
 unfold j8;rw[h];rfl
def aGf(a b:ae Str)(h:a.length+b.length<=1000):cO .add (.lst (a.map ε)) (.lst (b.map ε))=.ok (.lst ((a++b).map ε)):=by
 rw[dL];exact aJt _ _ (by rw[br,br,bN];lia) (iY a) (iY b)
def aI4(h:n<m):ixD m (n:ak)=aa n:=by
 unfold ixD;rw[aq 0x1,aq 0x1];simp
def aQ1{ws:ae Str}{n:ah}(h:ws[n]?=aa w):getD (.lst (ws.map ε)) (.int (n:ak))=.ok (.str w):=by
 have hl:n<ws.length:=(dq.mp h).1;show ν ((ixD (ws.map ε).length n).bind λj=>(ws.map ε)[j]?)=_;rw[aI4 (by rw[br];exact hl),xk,iX,h];rfl
def aCy{ws:ae Str}{n:ah}(h:ws[n]?=aa w):getD (.tup (ws.map ε)) (.int (n:ak))=.ok (.str w):=by
 have hl:n<ws.length:=(dq.mp h).1;show ν ((ixD (ws.map ε).length n).bind λj=>(ws.map ε)[j]?)=_;rw[aI4 (by rw[br];exact hl),xk,iX,h];rfl
def eq_str(a b:Str):gG .eq (.str a) (.str b)=.ok (.bl (a==b)):=rfl
def aLj(h:Nm w):(w==("=" : Str))=aj:=by
 rw[fq];intro e;subst e;have:=h.2.2 61 0x4;lia
def u_(n:ah):∀ws:ae Str,π n (ws.map ε)=ag
 |[]=>by rw[i9,π]
 |w::ws=>by
  rw[bh,π,u_ n ws];cases n<;>rfl
def aI5:∀{ps qs:ae Str},(∀p∈ps,(p==e)=aj)->aK0 (.str e) ((ps++e::qs).map ε)=aa ps.length
 |[],qs,_=>by
  show(if eqD (.str e) (.str e)=ag then aa 0 else _)=_;rw[show eqD (.str e) (.str e)=(e==e) from rfl,eD,aq rfl];rfl
 |p::ps,qs,h=>by
  show(if eqD (.str p) (.str e)=ag then aa 0 else (aK0 (.str e) ((ps++e::qs).map ε)).map (·+1))=_;rw[ax (by rw[show eqD (.str p) (.str e)=(p==e) from rfl,h p (bE ..)];simp),aI5 λq hq=>h q (bX _ hq)];rfl
def aCz(h:∀p∈ps,(p==e)=aj):CQ (.tup ((ps++e::qs).map ε)) [.str e]=.ok (.int ps.length):=by
 show(if (ε e).iG aU&&π aU ((ps++e::qs).map ε) then (match aK0 (.str e) ((ps++e::qs).map ε) with|some j=>τ (ι j)|none=>.bad) else .bad)=_;rw[u_,aI5 h];rfl
def sW(ws:ae Str):(μ (ws.map ε)).pure=ag:=by rw[ξ,iY]
def zP(R:Row):R.told.pure=ag:=by
 cases R with
 |kind w=>rfl
 |maker a b r=>
  show(ag&&(ag&&((μ (r.map ε)).pure&&ag)))=ag;rw[sW];rfl
 |taker a b c r=>
  show(ag&&(ag&&(ag&&((μ (r.map ε)).pure&&ag))))=ag;rw[sW];rfl
 |rule a b r ws=>
  show(ag&&(ag&&((μ (r.map ε)).pure&&((μ (ws.map ε)).pure&&ag))))=ag;rw[sW,sW];rfl
def aRb{R:Row}(h:f ρ=.ok R.told):lY f aj ρ=.ok (.rt R.told):=gJ h (zP R)
def at_{ws:ae Str}(n:ah){w:Str}(h1:eZ i ρ=.ok (.lst (ws.map ε)))(h2:ws[n]?=aa w):b2 getD (eZ i) (bC (.int (n:ak))) ρ=.ok (.str w):=aO h1 rfl (aQ1 h2)
def aI6{ws:ae Str}(n:ah){w:Str}(h1:eZ i ρ=.ok (.tup (ws.map ε)))(h2:ws[n]?=aa w):b2 getD (eZ i) (bC (.int (n:ak))) ρ=.ok (.str w):=aO h1 rfl (aCy h2)
def is_{ρ:ae D}{ws:ae Str}(k:Str)(h1:eZ 0 ρ=.ok (.lst ((w::ws).map ε)))(h2:(w==k)=b):bTB (b2 (gG .eq) (b2 getD cT g_) (bC (.str k))) ρ=.ok b:=fQ (aO (at_ 0 h1 rfl) rfl ((eq_str w k).trans (by rw[h2])))
def from_{ws:ae Str}(n:ah)(h1:eZ i ρ=.ok (.lst (ws.map ε))):aQ fV (aC (CK (eZ i) (j8 (bC (.int (n:ak)))) lX) aW) ρ=.ok (.tup ((ws.drop n).map ε)):=
 aX (aD (NK h1 (uZ rfl) rfl ((aLi _ _ _).trans (by rw[wN]))) rfl) rfl
def NP(e:α)(qs:ae α):∀ps:ae α,(ps++e::qs).drop (ps.length+1)=qs
 |[]=>rfl
 |p::ps=>NP e qs ps
def aD0(e:α)(qs:ae α):∀ps:ae α,(ps++e::qs).take ps.length=ps
 |[]=>rfl
 |p::ps=>by
  show p::(ps++e::qs).take ps.length=_;rw[aD0 e qs ps]
def aD1{ws:ae Str}(n:ah)(h0:0<n)(h:n<=ws.length)(h1:eZ i ρ=.ok (.tup (ws.map ε))):CK (eZ i) (j8 (bC (.int (n:ak)))) lX ρ=.ok (.tup ((ws.drop n).map ε)):=
 NK h1 (uZ rfl) rfl ((SN _ _ _ (by rw[zO,sv h];lia)).trans (by rw[wN]))
def aD2{ws:ae Str}(h:eZ i ρ=.ok (.tup (ws.map ε))):aQ vQ (aC (eZ i) aW) ρ=.ok (.int ws.length):=aX (aD h rfl) (by show τ (ι ((ws.map ε).length:ak))=_;rw[br])
def between{ws:ae Str}(lo hi:ah)(h:eZ i ρ=.ok (.tup (ws.map ε)))(h1:lo<=ws.length)(h2:ws.length<=hi):bTB (bCh (n_ .le) (n_ .le) (bC (.int (lo:ak))) (aQ vQ (aC (eZ i) aW)) (bC (.int (hi:ak)))) ρ=.ok ag:=
 fQ (aR8 rfl (aD2 h) ((nW .le lo ws.length).trans (by rw[show zZ.le.int (lo:ak) (ws.length:ak)=ag from bj 0x1])) rfl ((nW .le ws.length hi).trans (by rw[show zZ.le.int (ws.length:ak) (hi:ak)=ag from bj 0x1])))
def aGg(h:f ρ=.ok (.bl b)):bTr f ρ=.ok b:=by
 unfold bTr;rw[h];rfl
def WF(h:f ρ=.ok b):aEm f ρ=.ok (!b):=by
 unfold aEm;rw[h];rfl
def aLk{a b:Str}{r ws:ae Str}(h:(Row.rule a b r ws).ok):cU 1 mV [.tup ((a::b::(r++("=" : Str)::ws)).map ε)]=.ok (Row.rule a b r ws).told:=by
 obtain⟨ha,hb,hr,hrl,hw,hw1,hw2⟩:=h;refine(cF rfl).trans (call_v ?_);have hne:∀p∈a::b::r,(p==("=" : Str))=aj:=λp hp=>by
  rcases bq.mp hp with rfl|hp
  .exact aLj ha
  .rcases bq.mp hp with rfl|hp
   .exact aLj hb
   .exact aLj (hr p hp)
 have hnm:∀p∈a::b::r,Nm p:=λp hp=>by
  rcases bq.mp hp with rfl|hp
  .exact ha
  .rcases bq.mp hp with rfl|hp
   .exact hb
   .exact hr p hp
 have hi:=aCz (qs:=ws) hne;have hany:((((a::b::r)++("=" : Str)::ws).map ε).any λy=>eqD y (.str "="))=ag:=by
  rw[Bg];exact⟨.str "=",cS.mpr ⟨"=",by simp,rfl⟩,eD _⟩
 generalize hW:a::b::r=hs at hi hne hnm hany;have W:a::b::(r++("=" : Str)::ws)=hs++("=" : Str)::ws:=by rw[<-hW];rfl
 rw[W];have hl:hs.length=r.length+2:=by rw[<-hW];rfl
 have tl:(hs++("=" : Str)::ws).length=hs.length+ws.length+1:=by simp;lia
 generalize hT:(hs++("=" : Str)::ws)=tt at hi hany tl;have v0:∀x y z,eZ 0 [μ (tt.map ε),x,y,z]=.ok (.tup (tt.map ε)):=λ_ _ _=>rfl
 have hin:gG .notin (.str "=") (.tup (tt.map ε))=.ok (.bl aj):=by
  show(if (ε ("=" : Str)).iG aU&&π aU (tt.map ε) then τ (ο (!((tt.map ε).any λy=>eqD y (.str "=")))) else .bad)=_;rw[u_,hany];rfl
 refine aN (ρ':=[.tup (tt.map ε),.uD,.uD,.uD]) (o8 (fQ (aO rfl (v0 _ _ _) hin)) rfl) ?_;refine aN (ρ':=[.tup (tt.map ε),.int (hs.length:ak),.uD,.uD]) (cC (i:=1) (BL (v0 _ _ _) 0xb hi)) ?_;have c1:CK cT lX (j8 c7) [μ (tt.map ε),.int (hs.length:ak),.uD,.uD]=.ok (.tup (hs.map ε)):=
  NK (v0 _ _ _) rfl (uZ rfl) ((SN _ _ _ (by rw[zO,sv 0x1];lia)).trans (by rw[aI3,<-hT,aD0]))
 refine aN (ρ':=[.tup (tt.map ε),.int (hs.length:ak),.tup (hs.map ε),.uD]) (cC (i:=2) c1) ?_;have c2:CK cT (j8 (b2 (cO .add) c7 fM)) lX [μ (tt.map ε),.int (hs.length:ak),.tup (hs.map ε),.uD]=.ok (.tup (ws.map ε)):=
  NK (v0 _ _ _) (uZ (i:=((hs.length+1:ah):ak)) (aO (x:=.int (hs.length:ak)) rfl rfl rfl)) rfl ((SN _ _ _ (by rw[zO,sv 0x1];lia)).trans (by rw[wN,<-hT,NP]))
 refine aN (ρ':=[.tup (tt.map ε),.int (hs.length:ak),.tup (hs.map ε),.tup (ws.map ε)]) (cC (i:=3) c2) ?_;refine aN (ρ':=[.tup (tt.map ε),.int (hs.length:ak),.tup (hs.map ε),.tup (ws.map ε)]) (o8 (WF (b:=ag) (KJ (between 2 7 (ws:=hs) rfl 0x1 0x1) (KJ (between 1 40 (ws:=ws) rfl hw1 hw2) (KJ (aGg (aX 0xb (sV hnm 0x1))) (aGg (aX 0xb (sV hw 0x1))))))) rfl) ?_;refine aRb (R:=.rule a b r ws) (eE (aD (aI6 0 (ws:=hs) rfl (by rw[<-hW];rfl)) (aD (aI6 1 (ws:=hs) rfl (by rw[<-hW];rfl)) (aD ((aD1 2 (ws:=hs) 0x4 0x1 rfl).trans (by rw[<-hW];rfl)) 0xb))) (by rw[bN];show 4<=1000000;decide))
def aGh{R:Row}(h:R.ok):cU 1 sI [.lst (R.words.map ε)]=.ok R.told:=by
 refine(cF rfl).trans (call_v ?_);have lm:∀n:ah,n<=10->n<=lim:=λn h=>by rw[bN];lia
 have st:∀(k:Str)(ws:ae Str),cZ aj 1 (aQ fV (aC (CK cT (j8 fM) lX) aW)) aj [.lst ((k::ws).map ε),.uD]=.ok (.nx [.lst ((k::ws).map ε),.tup (ws.map ε)]):=λk ws=>GX (i:=1) (from_ 1 (ws:=k::ws) rfl) (sW _)
 have nm:∀(k:Str)(ws:ae Str),(∀w∈ws,Nm w)->ws.length<=100->aEm (bTr (aQ (cU 1 dF) (aC c7 aW))) [.lst ((k::ws).map ε),.tup (ws.map ε)]=.ok aj:=λk ws h1 h2=>WF (b:=ag) (aGg (aX 0xb (sV h1 h2)))
 cases R with
 |kind w=>
  have hall:∀x∈[w],Nm x:=λx hx=>by rw[ja.mp hx];exact h
  refine aN (st "kind" [w]) (aN (o8 (is_ (w:= "kind") (ws:=[w]) "rule" rfl 0x6) rfl) (aN (o8 (nm "kind" [w] hall (by show 1<=100;decide)) rfl) (zL (aAx (KJ (is_ (w:= "kind") (ws:=[w]) "kind" rfl 0x6) (fQ (aO (aD2 (ws:=[w]) rfl) rfl rfl))) (aRb (R:=.kind w) (aI6 0 (ws:=[w]) rfl rfl))))))
 |maker a b r=>
  obtain⟨ha,hb,hr,hl⟩:=h;have hall:∀x∈a::b::r,Nm x:=λx hx=>by
   rcases bq.mp hx with rfl|hx
   .exact ha
   .rcases bq.mp hx with rfl|hx
    .exact hb
    .exact hr x hx
  have ll:(a::b::r).length=r.length+2:=rfl;refine aN (st "maker" (a::b::r)) (aN (o8 (is_ (w:= "maker") (ws:=a::b::r) "rule" rfl 0x6) rfl) (aN (o8 (nm "maker" (a::b::r) hall 0x1) rfl) (aN (o8 (aF1 (is_ (w:= "maker") (ws:=a::b::r) "kind" rfl 0x6)) rfl) (zL (aAx (KJ (is_ (w:= "maker") (ws:=a::b::r) "maker" rfl 0x6) (between 2 5 (ws:=a::b::r) rfl 0x1 0x1)) (aRb (R:=.maker a b r) ?_))))));exact eE (aD (aI6 0 (ws:=a::b::r) rfl rfl) (aD (aI6 1 (ws:=a::b::r) rfl rfl) (aD (aD1 2 (ws:=a::b::r) 0x4 0x1 rfl) rfl))) (lm 3 0x4)
 |taker a b c r=>
  obtain⟨ha,hb,hc,hr,hl⟩:=h;have hall:∀x∈a::b::c::r,Nm x:=λx hx=>by
   rcases bq.mp hx with rfl|hx
   .exact ha
   .rcases bq.mp hx with rfl|hx
    .exact hb
    .rcases bq.mp hx with rfl|hx
     .exact hc
     .exact hr x hx
  have ll:(a::b::c::r).length=r.length+3:=rfl;refine aN (st "taker" (a::b::c::r)) (aN (o8 (is_ (w:= "taker") (ws:=a::b::c::r) "rule" rfl 0x6) rfl) (aN (o8 (nm "taker" (a::b::c::r) hall 0x1) rfl) (aN (o8 (aF1 (is_ (w:= "taker") (ws:=a::b::c::r) "kind" rfl 0x6)) rfl) (aN (o8 (aF1 (is_ (w:= "taker") (ws:=a::b::c::r) "maker" rfl 0x6)) rfl) (zL (aAx (KJ (is_ (w:= "taker") (ws:=a::b::c::r) "taker" rfl 0x6) (between 3 5 (ws:=a::b::c::r) rfl 0x1 0x1)) (aRb (R:=.taker a b c r) ?_)))))));exact eE (aD (aI6 0 (ws:=a::b::c::r) rfl rfl) (aD (aI6 1 (ws:=a::b::c::r) rfl rfl) (aD (aI6 2 (ws:=a::b::c::r) rfl rfl) (aD (aD1 3 (ws:=a::b::c::r) 0x4 0x1 rfl) rfl)))) (lm 4 0x4)
 |rule a b r ws=>exact aN (st "rule" (a::b::(r++("=" : Str)::ws))) (zL (aAx (is_ (w:= "rule") (ws:=a::b::(r++("=" : Str)::ws)) "rule" rfl 0x6) (gJ (aX 0xb (aLk h)) rfl)))
def aLl:(" " : Str)=⟨#[32]⟩:=rfl
def aQ2:("\n" : Str)=⟨#[10]⟩:=rfl
noncomputable def Row.text(R:Row):Str:=cj " " R.words
def Wd(w:Str):Prop:=1<=w.length/\w.length<=8/\∀c∈w.cps.toList,61<=c
def vZ(h:Nm w):Wd w:=⟨h.1,h.2.1,λc hc=>by have:=h.2.2 c hc;lia⟩
def aQ3(h:(ϒ (1<=w.length)&&ϒ (w.length<=8)&&w.cps.toList.all λc=>ϒ (61<=c))=ag):Wd w:=by
 simp only[ba,c_,gf] at h;exact⟨h.1.1,h.1.2,h.2⟩
def mK{R:Row}(h:R.ok):(∀w∈R.words,Wd w)/\R.words≠[]/\R.words.length<=60:=by
 have k1:Wd "kind":=aQ3 0x6;have k2:Wd "maker":=aQ3 0x6;have k3:Wd "taker":=aQ3 0x6;have k4:Wd "rule":=aQ3 0x6;have k5:Wd "=":=aQ3 0x6;cases R with
 |kind w=>
  refine⟨λx hx=>?_,by simp[Row.words],by simp[Row.words]⟩;simp only[Row.words,bq,iF,or_false] at hx;rcases hx with rfl|rfl
  .exact k1
  .exact vZ h
 |maker a b r=>
  obtain⟨ha,hb,hr,hl⟩:=h;refine⟨λx hx=>?_,by simp[Row.words],by simp[Row.words];lia⟩;simp only[Row.words,bq] at hx;rcases hx with rfl|rfl|rfl|hx
  .exact k2
  .exact vZ ha
  .exact vZ hb
  .exact vZ (hr x hx)
 |taker a b c r=>
  obtain⟨ha,hb,hc,hr,hl⟩:=h;refine⟨λx hx=>?_,by simp[Row.words],by simp[Row.words];lia⟩;simp only[Row.words,bq] at hx;rcases hx with rfl|rfl|rfl|rfl|hx
  .exact k3
  .exact vZ ha
  .exact vZ hb
  .exact vZ hc
  .exact vZ (hr x hx)
 |rule a b r ws=>
  obtain⟨ha,hb,hr,hl,hw,hw1,hw2⟩:=h;refine⟨λx hx=>?_,by simp[Row.words],by simp[Row.words];lia⟩;simp only[Row.words,bq,d6] at hx;rcases hx with rfl|rfl|rfl|hx|rfl|hx
  .exact k4
  .exact vZ ha
  .exact vZ hb
  .exact vZ (hr x hx)
  .exact k5
  .exact vZ (hw x hx)
def aD3{R:Row}(h:R.ok):R.text.length<=600:=by
 obtain⟨h1,h2,h3⟩:=mK h;have:=wL 32 8 R.words λt ht=>(h1 t ht).2.1
 unfold Row.text;rw[aLl];lia
def NT{R:Row}(h:R.ok):Txt.split R.text " "=R.words:=by
 obtain⟨h1,h2,h3⟩:=mK h;unfold Row.text;rw[aLl];exact uY h2 λt ht z=>by have:=(h1 t ht).2.2 32 z;lia
def aQ4{R:Row}(h:R.ok):10∉R.text.cps.toList:=λz=>by
 obtain⟨h1,h2,h3⟩:=mK h;unfold Row.text at z;rw[aLl] at z;rcases aGc z with e|⟨t,ht,e⟩
 .cases e
 .have:=(h1 t ht).2.2 10 e;lia
def aQ5{R:Row}(h:R.ok):(R.text==("" : Str))=aj:=by
 rw[fq];intro e;have hs:=NT h;rw[e] at hs;obtain⟨h1,h2,h3⟩:=mK h;have:Txt.split ("" : Str) (" " : Str)=[("" : Str)]:=by decide +kernel
 rw[this] at hs;have:=(h1 "" (by rw[<-hs];simp)).1;exact aS this 0x4
noncomputable def JS:ah->Str
 |0=>"kind"
 |1=>"maker"
 |2=>"taker"
 |_=>"rule"
def aLm(R:Row):∃ws,R.words=JS R.idx::ws:=by
 cases R with
 |kind w=>exact⟨_,rfl⟩
 |maker a b r=>exact⟨_,rfl⟩
 |taker a b c r=>exact⟨_,rfl⟩
 |rule a b r ws=>exact⟨_,rfl⟩
def aLn(R:Row):R.idx<4:=by cases R<;>simp[Row.idx]
noncomputable def O5(A:ah->ae D):D:=.dct [(.str "kind",.lst (A 0)),(.str "maker",.lst (A 1)),(.str "taker",.lst (A 2)),(.str "rule",.lst (A 3))]
noncomputable def aMn(A:ah->ae D)(i:ah)(d:D):ah->ae D:=λj=>if j=i then A j++[d] else A j
def k01:(("kind" : Str)=="maker")=aj:=0x6
def k02:(("kind" : Str)=="taker")=aj:=0x6
def k03:(("kind" : Str)=="rule")=aj:=0x6
def k12:(("maker" : Str)=="taker")=aj:=0x6
def k13:(("maker" : Str)=="rule")=aj:=0x6
def k23:(("taker" : Str)=="rule")=aj:=0x6
def aD4(A:ah->ae D)(i:ah)(h:i<4):∃kvs,O5 A=.dct kvs/\bH kvs (.str (JS i))=aa (.lst (A i))/\∀d,χ (putD kvs (.str (JS i)) (.lst (A i++[d])))=O5 (aMn A i d):=by
 refine⟨_,rfl,?_,λd=>?_⟩
 .have:i=0\/i=1\/i=2\/i=3:=by lia
  rcases this with rfl|rfl|rfl|rfl
  .simp only[bH,JS,oM,eD,c9]
  .simp only[bH,JS,oM,eD,k01,fT,c9,dw]
  .simp only[bH,JS,oM,eD,k02,k12,fT,c9,dw]
  .simp only[bH,JS,oM,eD,k03,k13,k23,fT,c9,dw]
 .have:i=0\/i=1\/i=2\/i=3:=by lia
  rcases this with rfl|rfl|rfl|rfl
  .simp only[putD,JS,oM,eD,c9];rfl
  .simp only[putD,JS,oM,eD,k01,fT,c9,dw];rfl
  .simp only[putD,JS,oM,eD,k02,k12,fT,c9,dw];rfl
  .simp only[putD,JS,oM,eD,k03,k13,k23,fT,c9,dw];rfl
def aLo(A:ah->ae D)(R:Row)(h:(A R.idx).length<1000):aFz (O5 A) (.str (JS R.idx)) R.told=.ok (O5 (aMn A R.idx R.told)):=by
 obtain⟨kvs,e,h1,h2⟩:=aD4 A R.idx (aLn R);rw[e];show(match bH kvs (.str (JS R.idx)) with|some (.lst ys)=>if ϒ (ys.length<lim)&&R.told.pure then τ (χ (putD kvs (.str (JS R.idx)) (.lst (ys++[R.told])))) else .bad|_=>.bad)=_;rw[h1];show(if (ϒ ((A R.idx).length<lim)&&R.told.pure)=ag then _ else _)=_;rw[aq (by rw[zP,bj (by rw[bN];lia)];rfl),h2]
def aLp(h1:eZ i ρ=.ok d)(h2:fk ρ=.ok k)(h3:fe ρ=.ok e)(h4:aFz d k e=.ok r):aC8 i fk fe ρ=.ok (.nx (ρ.set i r)):=by
 unfold aC8;rw[h1,θ,h2,θ,h3,θ,h4,θ]
def wO(hx:x.length<=100000)(hs:Txt.split x y=ts)(ht:ts.length<=1000)(hy:(y.length==0)=aj):splitM (.str x) [.str y]=.ok (.lst (ts.map ε)):=by
 show(if ϒ (x.length<=lim)&&ϒ ((Txt.split x y).length<=lim)&&!(y.length==0) then τ (υ ((Txt.split x y).map ε)) else .bad)=_;rw[hs,hy,bj (by rw[bN];lia),bj (by rw[bN];lia)];rfl
def aGi(R:Row):gG .isN R.told .non=.ok (.bl aj):=by cases R<;>rfl
def aQ6:FS:=sIf (bTB (b2 (gG .ne) fB (bC (.str "")))) (bU (cZ aj 4 (bM splitM fB (aC (bC (.str " ")) aW)) ag) (bU (cZ aj 5 (aQ (cU 1 sI) (aC lF aW)) ag) (bU (sIf (bTB (b2 (gG .isN) nF (bC .non))) vU jT) (aC8 1 (b2 getD lF g_) nF)))) jT
def aGj{A:ah->ae D}{R:Row}(hR:R.ok)(hA:∀i,(A i).length<1000):aQ6 [t,O5 A,cnt,.str R.text,w,r]=.ok (.nx [t,O5 (aMn A R.idx R.told),cnt,.str R.text,.lst (R.words.map ε),R.told]):=by
 obtain⟨ws,hk⟩:=aLm R;refine aAx (fQ (aO rfl rfl (show τ (ο (!(R.text==("" : Str))))=_ from by rw[aQ5 hR];rfl))) ?_;refine aN (cC (BL rfl 0xb (wO (dg (aD3 hR) 0x4) (NT hR) (dg (mK hR).2.2 0x4) rfl))) ?_;refine aN (cC (aX 0xb (aGh hR))) ?_;have v5:eZ 5 [t,O5 A,cnt,.str R.text,.lst (R.words.map ε),R.told]=.ok R.told:=by cases R<;>rfl
 refine aN (o8 (fQ (aO v5 rfl (aGi R))) rfl) ?_;exact aLp rfl (at_ 0 rfl (by rw[hk];rfl)) v5 (aLo A R (hA _))
def NZ:∀(Rs:ae Row)(k:ah)(A:ah->ae D)(cnt l w r:D),(∀R∈Rs,R.ok)->(∀i,(A i).length+Rs.length<1000)->∃cnt' l' w' r',nG (tgN [2,3]) aQ6 ((Rs.map λR=>ε R.text).zipIdx k |>.map λp=>.tup [.int ((1+p.2:ah):ak),p.1]) [t,O5 A,cnt,l,w,r]=.ok (.nx [t,O5 (λi=>A i++(Rs.filter (·.idx==i)).map Row.told),cnt',l',w',r'])
 |[],k,A,cnt,l,w,r,_,_=>⟨cnt,l,w,r,by simp[nG]⟩
 |R::Rs,k,A,cnt,l,w,r,h,hl=>by
  have hR:=h R (bE ..);have hA:∀i,(A i).length<1000:=λi=>by have:=hl i;lia
  obtain⟨c',l',w',r',e⟩:=NZ Rs (k+1) (aMn A R.idx R.told) (.int ((1+k:ah):ak)) (.str R.text) (.lst (R.words.map ε)) R.told (λx hx=>h x (bX _ hx)) (λi=>by
   have:=hl i;rw[bz] at this;unfold aMn;split
   .rw[b6,eR];lia
   .lia)
  refine⟨c',l',w',r',?_⟩;rw[bh,mw,bh];refine b_ rfl (aGj hR hA) (e.trans ?_)
  congr 4
  refine c5 O5 (funext λi=>?_);unfold aMn;by_cases hi:i=R.idx
  .subst hi;rw[aq rfl,List.filter_cons_of_pos 0x2,bh,cr];rfl
  .rw[ax hi,List.filter_cons_of_neg (by simp[Ne.symm hi])]
noncomputable def sel(i:ah)(Rs:ae Row):ae Row:=Rs.filter (·.idx==i)
def zQ(Rs:ae Row):D:=.tup (Rs.map Row.told)
def aD5(Rs:ae Row):D:=.tup [zQ (sel 0 Rs),zQ (sel 1 Rs),zQ (sel 2 Rs),zQ (sel 3 Rs)]
def DP:∀Rs:ae Row,δ (Rs.map Row.told)=ag
 |[]=>rfl
 |R::Rs=>by
  show(R.told.pure&&δ (Rs.map Row.told))=ag;rw[zP,DP Rs];rfl
def mY(Rs:ae Row):(zQ Rs).pure=ag:=by
 unfold zQ;rw[ξ,DP]
def aD6(Rs:ae Row):(aD5 Rs).pure=ag:=by
 show((zQ (sel 0 Rs)).pure&&((zQ (sel 1 Rs)).pure&&((zQ (sel 2 Rs)).pure&&((zQ (sel 3 Rs)).pure&&ag))))=ag;rw[mY,mY,mY,mY];rfl
def aLq(i:ah)(hi:i<4)(h:eZ 1 ρ=.ok (O5 A)):aQ fV (aC (b2 getD c7 (bC (.str (JS i)))) aW) ρ=.ok (.tup (A i)):=by
 obtain⟨kvs,e,h1,_⟩:=aD4 A i hi;refine aX (aD (aO (z:=.lst (A i)) h rfl ?_) rfl) rfl;rw[e];show(if keyOk (.str (JS i))=ag then ν (bH kvs (.str (JS i))) else .bad)=_;rw[h1];rfl
def WK(Rs:ae Row):lY (jR (aC (aQ fV (aC (b2 getD c7 (bC (.str "kind"))) aW)) (aC (aQ fV (aC (b2 getD c7 (bC (.str "maker"))) aW)) (aC (aQ fV (aC (b2 getD c7 (bC (.str "taker"))) aW)) (aC (aQ fV (aC (b2 getD c7 (bC (.str "rule"))) aW)) aW))))) aj [t,O5 (λi=>[]++(Rs.filter (·.idx==i)).map Row.told),c,l,w,r]=.ok (.rt (aD5 Rs)):=by
 have g:∀i,i<4->aQ fV (aC (b2 getD c7 (bC (.str (JS i)))) aW) [t,O5 (λi=>[]++(Rs.filter (·.idx==i)).map Row.told),c,l,w,r]=.ok (zQ (sel i Rs)):=λi hi=>aLq (A:=λi=>[]++(Rs.filter (·.idx==i)).map Row.told) i hi rfl
 refine gJ (eE (aD (g 0 0x4) (aD (g 1 0x4) (aD (g 2 0x4) (aD (g 3 0x4) rfl)))) ?_) (aD6 Rs);rw[bN];show 4<=1000000;decide
def WL(h:a ρ=.ok (.lst xs)):V1 m a ag ρ=.ok (X5 m xs,ag):=by
 unfold V1;rw[h];rfl
def aLr(h:∀R∈Rs,R.ok)(hl:Rs.length<=100):cU 1 MK [.str (cj "\n" (Rs.map Row.text))]=.ok (aD5 Rs):=by
 refine(cF rfl).trans (call_v ?_);refine aN rfl ?_;have tl:(cj "\n" (Rs.map Row.text)).length<=100000:=by
  have:=wL 10 600 (Rs.map Row.text) λt ht=>by
   obtain⟨R,hR,rfl⟩:=cS.mp ht;exact aD3 (h R hR)
  rw[br] at this;rw[aQ2];lia
 cases hR:Rs with
 |nil=>
  subst hR;have hs:Txt.split (cj "\n" (([]:ae Row).map Row.text)) "\n" = [("" : Str)]:=by decide +kernel
  refine aN (ρ':=[.str (cj "\n" (([]:ae Row).map Row.text)),O5 (λ_=>[]),.int ((1+0:ah):ak),.str "",.uD,.uD]) (lJ (WL (BL rfl 0xb (wO tl hs 0x4 rfl))) ?_) (WK []);exact b_ (ρ1:=[.str (cj "\n" (([]:ae Row).map Row.text)),O5 (λ_=>[]),.int ((1+0:ah):ak),.str "",.uD,.uD]) rfl (o8 (fQ (aO (x:=.str "") (y:=.str "") rfl rfl rfl)) rfl) rfl
 |cons R0 R1=>
  rw[<-hR];have hs:Txt.split (cj "\n" (Rs.map Row.text)) "\n"=Rs.map Row.text:=by
   rw[aQ2];refine uY (by rw[hR];simp) λt ht=>?_
   obtain⟨R,hR,rfl⟩:=cS.mp ht;exact aQ4 (h R hR)
  obtain⟨c',l',w',r',e⟩:=NZ (t:=.str (cj "\n" (Rs.map Row.text))) Rs 0 (λ_=>[]) .uD .uD .uD .uD h (λi=>by simp;lia);refine aN (ρ':=[.str (cj "\n" (Rs.map Row.text)),O5 (λi=>[]++(Rs.filter (·.idx==i)).map Row.told),c',l',w',r']) (lJ (WL (BL rfl 0xb (wO tl hs (by rw[br];lia) rfl))) ?_) (WK Rs);rw[eI];exact e
noncomputable def rws(k l o t p f x w y:Str):ae Row:=[.kind k,.maker l k [],.maker o k [k],.maker t k [k,k],.taker p k k [],.taker f k k [k],.rule p l [] [l],.rule p o [x] [p,x],.rule p t [x,w] [l],.rule f l [y] [y],.rule f o [x,y] [f,x,t,y,y],.rule f t [x,w,y] [y]]
def aQ7(h:f ρ=.ok (.scr xs))(hp:δ xs=ag):aPd f ρ=.ok (xs,ag):=by
 unfold aPd;rw[h,θ];show(if δ xs then _ else _)=_;rw[hp,aq rfl]
def aGk(h:fj sep ts=ag):RK (.str sep) [.scr (ts.map ε)]=.ok (.str (cj sep ts)):=by
 show(match l_ (ts.map ε) with|some ts=>if fj sep ts then τ (ε (cj sep ts)) else .bad|none=>.bad)=_;rw[sU];show(if fj sep ts then τ (ε (cj sep ts)) else .bad)=_;rw[h,aq rfl]
def SQ(h:Good x):Nm x:=⟨by rw[zM];exact h.2.2.1.1,by rw[zM];exact h.2.2.1.2,h.2.2.2⟩
section
def aLs{b:ak}(hn:ns.length<=63)(m:ah)(hρ:ρ.length=11)(h0:eZ 0 ρ=.ok (.scr (ns.map ι)))(hm:m<=10)(hb:0<=b)(hb2:b+m<=30)(hv:∀k:ah,f (ρ++[.int (0+(k:ak))])=.ok (.int (b+k)))(h0':∀x,eZ 0 (ρ++[x])=.ok (.scr (ns.map ι))) :
  (fO 11 (J8 (aC (bC (.int m)) aW) FP) v6 gD (aQ (cU 2 bL) (aC cT (aC f aW))) ag) ρ=.ok (.lst ((e9 m).map λ(k:ah)=>ε (wrd ns (b+k)))):=by
 refine nM (aO6 0xb 0x1 0x1) (by rw[br,List.length_range,bN];lia) ?_;rw[mr,wM _ (λ(k:ah)=>ι (0+(k:ak))) (λ(k:ah)=>ε (wrd ns (b+k))) (e9 m) [] λk hk acc=>?_,fS];have hk:=xq.mp hk;exact SM hρ rfl (aX (aD (h0' _) (aD (hv k) rfl)) (jN hn 0x1 0x1).1) rfl
end
noncomputable def wD(R:Row):D:=.scr (R.words.map ε)
def SX(h:f ρ=.ok (.lst xs))(hl:xs.length=is.length)(hs:xR is xs ρ=ρ'):YZ f is ρ=.ok (.nx ρ'):=by
 unfold YZ;rw[h,θ];show(if ϒ (xs.length=is.length) then τ (Fl.nx (xR is xs ρ)) else .bad)=_;rw[bj hl,aq rfl,hs]
def aI7(hk:Nm k)(hl:Nm l)(ho:Nm o)(ht:Nm t)(hp:Nm p)(hf:Nm f)(hx:Nm x)(hw:Nm w)(hy:Nm y):∀R∈rws k l o t p f x w y,R.ok:=by
 intro R hR;simp only[rws,bq,iF,or_false] at hR;have m0:∀w∈([]:ae Str),Nm w:=λ_ h=>by cases h
 have m1:∀{a:Str},Nm a->∀w∈[a],Nm w:=λh w hw=>by rw[ja.mp hw];exact h
 have mc:∀{a:Str}{r:ae Str},Nm a->(∀w∈r,Nm w)->∀w∈a::r,Nm w:=λh hr w hw=>by
  rcases bq.mp hw with rfl|hw
  .exact h
  .exact hr w hw
 rcases hR with rfl|rfl|rfl|rfl|rfl|rfl|rfl|rfl|rfl|rfl|rfl|rfl
 .exact hk
 .exact⟨hl,hk,m0,by simp⟩
 .exact⟨ho,hk,m1 hk,by simp⟩
 .exact⟨ht,hk,mc hk (m1 hk),by simp⟩
 .exact⟨hp,hk,hk,m0,by simp⟩
 .exact⟨hf,hk,hk,m1 hk,by simp⟩
 .exact⟨hp,hl,m0,by simp,m1 hl,by simp,by simp⟩
 .exact⟨hp,ho,m1 hx,by simp,mc hp (m1 hx),by simp,by simp⟩
 .exact⟨hp,ht,mc hx (m1 hw),by simp,m1 hl,by simp,by simp⟩
 .exact⟨hf,hl,m1 hy,by simp,m1 hy,by simp,by simp⟩
 .exact⟨hf,ho,mc hx (m1 hy),by simp,mc hf (mc hx (mc ht (mc hy (m1 hy)))),by simp,by simp⟩
 .exact⟨hf,ht,mc hx (mc hw (m1 hy)),by simp,m1 hy,by simp,by simp⟩
def aI8{R:Row}(h:R.ok):R.words.length<=60/\∀w∈R.words,w.length<=8:=by
 have h8:∀{w:Str},Nm w->w.length<=8:=λh=>h.2.1
 have l1:("kind" : Str).length<=8:=by decide
 have l2:("maker" : Str).length<=8:=by decide
 have l3:("taker" : Str).length<=8:=by decide
 have l4:("rule" : Str).length<=8:=by decide
 have l5:("=" : Str).length<=8:=by decide
 have mc:∀{a:Str}{r:ae Str},a.length<=8->(∀w∈r,w.length<=8)->∀w∈a::r,w.length<=8:=λh hr w hw=>by
  rcases bq.mp hw with rfl|hw
  .exact h
  .exact hr w hw
 cases R with
 |kind w=>exact⟨by simp[Row.words],mc l1 (mc (h8 h) λ_ z=>by cases z)⟩
 |maker a b r=>
  obtain⟨h1,h2,h3,h4⟩:=h;exact⟨by simp only[Row.words,bz];lia,mc l2 (mc (h8 h1) (mc (h8 h2) λw hw=>h8 (h3 w hw)))⟩
 |taker a b c r=>
  obtain⟨h1,h2,h3,h4,h5⟩:=h;exact⟨by simp only[Row.words,bz];lia,mc l3 (mc (h8 h1) (mc (h8 h2) (mc (h8 h3) λw hw=>h8 (h4 w hw))))⟩
 |rule a b r ws=>
  obtain⟨h1,h2,h3,h4,h5,h6,h7⟩:=h;refine⟨by simp only[Row.words,bz,b6];lia,mc l4 (mc (h8 h1) (mc (h8 h2) λw hw=>?_))⟩;rcases d6.mp hw with hw|hw
  .exact h8 (h3 w hw)
  .exact mc l5 (λw hw=>h8 (h5 w hw)) w hw
def text_len{R:Row}(h:R.ok):R.text.length<=1000:=by
 obtain⟨h1,h2⟩:=aI8 h;have:=wL 32 8 R.words h2;show(cj ⟨#[32]⟩ R.words).length<=1000;lia
def aLt(hn:ns.length<=63):cU 1 gY [.scr (ns.map ι)]=.ok (.str (cj "\n" ((rws (wrd ns 0) (wrd ns 1) (wrd ns 2) (wrd ns 3) (wrd ns 8) (wrd ns 9) (wrd ns 12) (wrd ns 13) (wrd ns 14)).map Row.text))):=by
 have nmk:∀i:ak,0<=i->i<=33->Nm (wrd ns i):=λi h0 h1=>SQ (jN hn h0 h1).2.1
 have hok:=aI7 (nmk 0 0x4 0x4) (nmk 1 0x4 0x4) (nmk 2 0x4 0x4) (nmk 3 0x4 0x4) (nmk 8 0x4 0x4) (nmk 9 0x4 0x4) (nmk 12 0x4 0x4) (nmk 13 0x4 0x4) (nmk 14 0x4 0x4);have c1:=aLs hn (ρ:=[.scr (ns.map ι),.uD,.uD,.uD,.uD,.uD,.uD,.uD,.uD,.uD,.uD]) (f:=eZ 11) (b:=0) 4 rfl rfl 0x4 0x4 0x4 (λk=>rfl) (λ_=>rfl);have c2:=λa b c d=>aLs hn (ρ:=[.scr (ns.map ι),a,b,c,d,.uD,.uD,.uD,.uD,.uD,.uD]) (f:=b2 (cO .add) FN QD) (b:=8) 2 rfl rfl 0x4 0x4 0x4 (λk=>(aO rfl rfl (o9 8 (0+(k:ak)))).trans (by rw[Dl])) (λ_=>rfl)
 have c3:=λa b c d e g=>aLs hn (ρ:=[.scr (ns.map ι),a,b,c,d,e,g,.uD,.uD,.uD,.uD]) (f:=b2 (cO .add) (bC (.int 12)) QD) (b:=12) 3 rfl rfl 0x4 0x4 0x4 (λk=>(aO rfl rfl (o9 12 (0+(k:ak)))).trans (by rw[Dl])) (λ_=>rfl)
 have e1:((e9 4).map λ(k:ah)=>ε (wrd ns (0+k)))=[.str (wrd ns 0),.str (wrd ns 1),.str (wrd ns 2),.str (wrd ns 3)]:=rfl;have e2:((e9 2).map λ(k:ah)=>ε (wrd ns (8+k)))=[.str (wrd ns 8),.str (wrd ns 9)]:=rfl;have e3:((e9 3).map λ(k:ah)=>ε (wrd ns (12+k)))=[.str (wrd ns 12),.str (wrd ns 13),.str (wrd ns 14)]:=rfl;rw[e1] at c1;simp only[e2] at c2;simp only[e3] at c3;clear e1 e2 e3 nmk;generalize wrd ns 0=k at *;generalize wrd ns 1=l at *;generalize wrd ns 2=o at *;generalize wrd ns 3=t at *;generalize wrd ns 8=p at *;generalize wrd ns 9=f at *;generalize wrd ns 12=x at *;generalize wrd ns 13=w at *;generalize wrd ns 14=y at *;refine(cF rfl).trans (call_v ?_);refine aN (ρ':=[.scr (ns.map ι),.str k,.str l,.str o,.str t,.uD,.uD,.uD,.uD,.uD,.uD]) (SX c1 rfl rfl) ?_;refine aN (ρ':=[.scr (ns.map ι),.str k,.str l,.str o,.str t,.str p,.str f,.uD,.uD,.uD,.uD]) (SX (c2 _ _ _ _) rfl rfl) ?_;refine aN (ρ':=[.scr (ns.map ι),.str k,.str l,.str o,.str t,.str p,.str f,.str x,.str w,.str y,.uD]) (SX (c3 _ _ _ _ _ _) rfl rfl) ?_;generalize D.scr (ns.map ι)=sc;refine aN (ρ':=[sc,.str k,.str l,.str o,.str t,.str p,.str f,.str x,.str w,.str y,.scr ([Row.kind k,.maker l k [],.maker o k [k],.maker t k [k,k]].map wD)]) rfl ?_;refine aN (ρ':=[sc,.str k,.str l,.str o,.str t,.str p,.str f,.str x,.str w,.str y,.scr ([Row.kind k,.maker l k [],.maker o k [k],.maker t k [k,k],.taker p k k [],.taker f k k [k]].map wD)]) rfl ?_;refine aN (ρ':=[sc,.str k,.str l,.str o,.str t,.str p,.str f,.str x,.str w,.str y,.scr ([Row.kind k,.maker l k [],.maker o k [k],.maker t k [k,k],.taker p k k [],.taker f k k [k],.rule p l [] [l],.rule p o [x] [p,x]].map wD)]) rfl ?_;refine aN (ρ':=[sc,.str k,.str l,.str o,.str t,.str p,.str f,.str x,.str w,.str y,.scr ([Row.kind k,.maker l k [],.maker o k [k],.maker t k [k,k],.taker p k k [],.taker f k k [k],.rule p l [] [l],.rule p o [x] [p,x],.rule p t [x,w] [l],.rule f l [y] [y]].map wD)]) rfl ?_;refine aN (ρ':=[sc,.str k,.str l,.str o,.str t,.str p,.str f,.str x,.str w,.str y,.scr ([Row.kind k,.maker l k [],.maker o k [k],.maker t k [k,k],.taker p k k [],.taker f k k [k],.rule p l [] [l],.rule p o [x] [p,x],.rule p t [x,w] [l],.rule f l [y] [y],.rule f o [x,y] [f,x,t,y,y]].map wD)]) rfl ?_;refine aN (ρ':=[sc,.str k,.str l,.str o,.str t,.str p,.str f,.str x,.str w,.str y,.scr ((rws k l o t p f x w y).map wD)]) rfl ?_;have hl:(rws k l o t p f x w y).length=12:=rfl
 have hp:δ ((rws k l o t p f x w y).map wD)=ag:=rfl;generalize rws k l o t p f x w y=RS at *;have hc:(fO 11 (aPd E_) v6 gD (bM RK (bC (.str " ")) (aC QD aW)) ag) [sc,.str k,.str l,.str o,.str t,.str p,.str f,.str x,.str w,.str y,.scr (RS.map wD)]=.ok (.lst ((RS.map Row.text).map ε)):=by
  refine nM (aQ7 rfl hp) (by rw[br,hl,bN];decide) ?_;rw[wM _ wD (λR=>ε R.text) RS [] λR hR acc=>?_,fS,eI]
  .rfl
  .obtain⟨q1,q2⟩:=aI8 (hok R hR);exact SM rfl rfl (BL (x:=.str " ") (xs:=[wD R]) rfl 0xb (aGk (sS (B:=8) q2 0x1))) rfl
 refine gJ (BL (x:=.str "\n") (xs:=[.lst ((RS.map Row.text).map ε)]) rfl (aD hc rfl) (V_ (sS (B:=1000) (λt ht=>?_) ?_))) rfl
 .obtain⟨R,hR,rfl⟩:=cS.mp ht;exact text_len (hok R hR)
 .rw[br,hl];decide
def aQ8(h1:fa ρ=.ok x)(h2:fb ρ=.ok (y,ρ1))(h3:f x y=.ok d)(hd:d.pure=ag):x2R f fa fb ρ=.ok (d,ρ1):=by
 unfold x2R;rw[h1,θ,h2,θ];dsimp only;rw[h3,θ,aq hd]
def aQ9(h:f ρ=.ok (.bl b,ρ1)):xTB f ρ=.ok (b,ρ1):=by
 unfold xTB;rw[h];rfl
def aQa(h1:c ρ=.ok (k,ρ1))(h2:(if k then f ρ1 else g ρ1)=r):aOg c f g ρ=r:=by
 unfold aOg;rw[h1];exact h2
def aGl(a b:ak)(h:i_ a=ag):GQ (.int a) (.int b)=.ok (.int (a*b)):=by
 show cO .mul (.int a) (.int b)=_;exact aAz a b h
def aLu(a b:ak):gG .ne (.int a) (.int b)=.ok (.bl (!(a==b))):=rfl
def aGm(x:Str):(ε x).iG aU=ag:=by
 unfold aU;rw[D.iG]<;>simp
def zR(d y:α->D)(xs:ae α)(hρ:ρ.length=n)(h1:it ρ=.ok (xs.map d,kk))(h2:xs.length<=100000)(h3:∀a∈xs,f (ρ++[d a])=.ok (y a)/\(k||(y a).pure)=ag):fO n it v6 gD f k ρ=.ok (.lst (xs.map y)):=by
 refine nM h1 (by rw[br,bN];lia) ?_;have:∀(xs:ae α)(acc:ae D),(∀a∈xs,f (ρ++[d a])=.ok (y a)/\(k||(y a).pure)=ag)->h_ (oN n v6 gD f k ρ) acc (xs.map d)=.ok (acc++xs.map y):=by
  intro xs;induction xs with
  |nil=>intro acc _;simp[h_]
  |cons x xs ih=>
   intro acc h;rw[bh,h_,yK hρ rfl λ_=>h x (bE ..)];show h_ _ (acc++[y x]) _=_;rw[ih _ λa ha=>h a (bX _ ha),cr];rfl
 exact(this xs [] h3).trans (by rw[fS])
noncomputable def sy(N:ae Str)(i:ah):D:=.str (N.getD i "")
def vA(h:N.length=26)(hN:N.Nodup)(hi:i<26)(hj:j<26):eqD (sy N i) (sy N j)=ϒ (i=j):=by
 show((N.getD i "")==(N.getD j ""))=_;have hi':i<N.length:=by lia
 have hj':j<N.length:=by lia
 rw[cx,cx,eh hi',eh hj'];show(N[i]==N[j])=_;by_cases e:i=j
 .subst e;simp
 .have:¬N[i]=N[j]:=λg=>e ((Aw hN).mp g)
  simp[e,this]
def cR(N:ae Str):∀l:ae ah,δ (l.map (sy N))=ag
 |[]=>rfl
 |i::l=>by
  rw[bh,δ,cR N l];rfl
def JG(N:ae Str)(n:ah):∀l:ae ah,π n (l.map (sy N))=ag
 |[]=>by rw[i9,π]
 |x::l=>by
  rw[bh,π,JG N n l];unfold sy;rw[D.iG]<;>simp
def vB(N:ae Str)(i:ah):(sy N i).iG aU=ag:=aGm _
def aD7(h:N.length=26)(hN:N.Nodup)(hi:i<26):∀l:ae ah,(∀j∈l,j<26)->(l.map (sy N)).any (λy=>eqD y (sy N i))=ϒ (i∈l)
 |[],_=>rfl
 |j::l,hl=>by
  rw[bh,js,aD7 h hN hi l λk hk=>hl k (bX _ hk),vA h hN (hl j (bE ..)) hi];by_cases e:j=i
  .simp[e]
  .have e2:¬i=j:=λg=>e g.symm
   simp[e,e2]
def PK{l:ae α}{i:ah}{a:α}{x:ak}(hx:x=i)(h:l[i]?=aa a):getD (.lst (l.map f)) (.int x)=.ok (f a):=by
 subst hx;obtain⟨hi,e⟩:=dq.mp h;show ν ((ixD (l.map f).length (i:ak)).bind λj=>(l.map f)[j]?)=_;unfold ixD;rw[aq 0x1,br,aq 0x1];simp[h]
def aGn{α:Type}{f:α->D}{l:ae α}{i:ah}{a:α}{x:ak}(hx:x=i)(h:l[i]?=aa a):getD (.tup (l.map f)) (.int x)=.ok (f a):=PK hx h
noncomputable abbrev Rw:=ah×ah×ae ah
noncomputable abbrev Tk:=ah×ah×ah×ae ah
def rwD(N:ae Str)(r:Rw):D:=.tup [sy N r.1,sy N r.2.1,.tup (r.2.2.map (sy N))]
def tkD(N:ae Str)(r:Tk):D:=.tup [sy N r.1,sy N r.2.1,sy N r.2.2.1,.tup (r.2.2.2.map (sy N))]
def zT(N:ae Str)(r:Rw):(rwD N r).pure=ag:=by
 show((sy N r.1).pure&&((sy N r.2.1).pure&&((μ (r.2.2.map (sy N))).pure&&ag)))=ag;rw[ξ,cR];rfl
def vC(N:ae Str)(r:Tk):(tkD N r).pure=ag:=by
 show((sy N r.1).pure&&((sy N r.2.1).pure&&((sy N r.2.2.1).pure&&((μ (r.2.2.2.map (sy N))).pure&&ag))))=ag;rw[ξ,cR];rfl
def cD{f:α->D}(h:∀a,(f a).pure=ag):∀l:ae α,δ (l.map f)=ag
 |[]=>rfl
 |x::l=>by
  rw[bh,δ,h,cD h l];rfl
def aGo(h:f ρ=.ok x)(h2:g x=.ok y):b1 g f ρ=.ok y:=by
 unfold b1;rw[h];exact h2
structure Nms(N:ae Str):Prop where
 len:N.length=26
 nd:N.Nodup
 nc:¬("copy" : Str)∈N
 nr:¬("drop" : Str)∈N
def aGp(h1:c ρ=.ok ag)(h2:body ρ=.ok (.nx ρ'))(h3:ZW c body n ρ'=r):ZW c body (n+1) ρ=r:=by
 rw[ZW,h1,θ,aq rfl,h2];exact h3
def aLv(h1:c ρ=.ok aj):ZW c body (n+1) ρ=.ok (.nx ρ):=by
 rw[ZW,h1];rfl
inductive Run(H:ae Rw):ae ah->ae ah->Prop
 |nil:Run H [] []
 |step {r:Rw} {rest W:ae ah}:r∈H->Run H (r.2.2++rest) W->Run H (r.2.1::rest) (r.1::W)
def aLw(h:ρ.getD i .uD=.lst (xs++[x]))(he:(ρ.set i (.lst xs)).set j x=ρ'):YC i j ρ=.ok (.nx ρ'):=by
 subst he;unfold YC;rw[h];dsimp only;rw[b6,eR,Ad,dS (bo _),ss,xi];rfl
def aI9(h1:f ρ=.ok (.lst ys))(h2:ρ.getD i .uD=.lst xs)(hl:xs.length+ys.length<=10000)(hp:δ ys=ag):aJy i f ρ=.ok (.nx (ρ.set i (.lst (xs++ys)))):=by
 unfold aJy;rw[h1,θ,h2];dsimp only;rw[aq (by rw[hp,bN,bj 0x1];rfl)]
def zU(hN:N.length=26)(hd:N.Nodup)(nm:α->ah)(g:α->D):∀(L:ae α),(L.map nm).Nodup->(∀a∈L,nm a<26)->∀a∈L,bH (L.map λa=>(sy N (nm a),g a)) (sy N (nm a))=aa (g a)
 |[],_,_,a,ha=>by simp at ha
 |b::L,h1,h2,a,ha=>by
  rw[bh,bH,vA hN hd (h2 b (bE ..)) (h2 a ha)];rw[bh,eg] at h1;rcases bq.mp ha with e|e
  .subst e;rw[bj rfl,aq rfl]
  .have:¬nm b=nm a:=λg=>h1.1 (g▸gh e)
   rw[cq this,ax 0x2];exact zU hN hd nm g L h1.2 (λc hc=>h2 c (bX _ hc)) a e
section
variable {N:ae Str} (hN:N.length=26) (hd:N.Nodup)
include hN hd
omit hN hd in
theorem aD8(h:eZ i ρ=.ok (rwD N r)):b2 getD (eZ i) g_ ρ=.ok (sy N r.1)/\b2 getD (eZ i) fM ρ=.ok (sy N r.2.1)/\b2 getD (eZ i) uJ ρ=.ok (.tup (r.2.2.map (sy N))):=⟨aO h rfl rfl,aO h rfl rfl,aO h rfl rfl⟩
theorem aQb(hi:i<26)(hj:j<26):gG .eq (sy N i) (sy N j)=.ok (.bl (ϒ (i=j))):=by
 show(if (sy N i).iG aU&&(sy N j).iG aU then τ (ο (eqD (sy N i) (sy N j))) else .bad)=_;rw[vB,vB,vA hN hd hi hj];rfl
theorem aD9(hi:i<26)(hj:j<26):gG .ne (sy N i) (sy N j)=.ok (.bl (!ϒ (i=j))):=by
 show(if (sy N i).iG aU&&(sy N j).iG aU then τ (ο (!eqD (sy N i) (sy N j))) else .bad)=_;rw[vB,vB,vA hN hd hi hj];rfl
theorem aGq{l:ae ah}(hi:i<26)(hl:∀j∈l,j<26):gG .notin (sy N i) (.tup (l.map (sy N)))=.ok (.bl (!ϒ (i∈l))):=by
 show(if (sy N i).iG aU&&π aU (l.map (sy N)) then τ (ο (!(l.map (sy N)).any λy=>eqD y (sy N i))) else .bad)=_;rw[vB,JG,aD7 hN hd hi l hl];rfl
omit hN hd in
omit hN hd in
omit hN hd in
end
section
variable {N:ae Str} (hN:N.length=26) (hd:N.Nodup)
include hN hd
end
def tw(N:ae Str)(w:ae ah):D:=.tup (w.map (sy N))
def zV(N:ae Str)(w:ae ah):(tw N w).pure=ag:=by
 show(μ (w.map (sy N))).pure=ag;rw[ξ,cR]
noncomputable abbrev Ru:=ah×ah×ae ah×ae ah
def ruD(N:ae Str)(u:Ru):D:=.tup [sy N u.1,sy N u.2.1,tw N u.2.2.1,tw N u.2.2.2]
def nY(N:ae Str)(u:Ru):(ruD N u).pure=ag:=by
 show((sy N u.1).pure&&((sy N u.2.1).pure&&((tw N u.2.2.1).pure&&((tw N u.2.2.2).pure&&ag))))=ag;rw[zV,zV];rfl
def aQc(h:eZ i ρ=.ok (tkD N t)):b2 getD (eZ i) g_ ρ=.ok (sy N t.1)/\b2 getD (eZ i) fM ρ=.ok (sy N t.2.1)/\b2 getD (eZ i) uJ ρ=.ok (sy N t.2.2.1)/\b2 getD (eZ i) J7 ρ=.ok (.tup (t.2.2.2.map (sy N))):=⟨aO h rfl rfl,aO h rfl rfl,aO h rfl rfl,aO h rfl rfl⟩
noncomputable def kn(ow be:ae ah):ae Rw:=(e9 be.length).map λj=>(ow.getD j 0,be.getD j 0,[])
structure aV1(M:ae Rw)(T:ae Tk)(Hd:ae Rw)(t:Tk)(r:Rw)(u:Ru):Prop where
 n1:u.1=t.1
 n2:u.2.1=r.1
 ol:u.2.2.1.length=(r.2.2++t.2.2.2).length
 on:u.2.2.1.Nodup
 oi:∀i∈u.2.2.1,13<=i/\i<18
 rn:Run (kn u.2.2.1 (r.2.2++t.2.2.2)++Hd) [t.2.1] u.2.2.2
 wl:u.2.2.2.length<=100
section
variable {N:ae Str} (hN:N.length=26) (hd:N.Nodup)
include hN hd
end
noncomputable def prs(t:Tk)(L:ae Rw):ae (ah×ah):=(L.filter λr=>ϒ (r.2.1=t.2.2.1)).map λr=>(t.1,r.1)
def prT(T:ae Tk)(M:ae Rw):ae (ah×ah):=T.flatMap λt=>prs t M
noncomputable def pq(u:Ru):ah×ah:=(u.1,u.2.1)
def GdR(M:ae Rw)(T:ae Tk)(Hd:ae Rw)(u:Ru):Prop:=∃t∈T,∃r∈M,r.2.1=t.2.2.1/\aV1 M T Hd t r u
section
variable {N:ae Str} (hN:N.length=26) (hd:N.Nodup)
include hN hd
end
def hdV(N:ae Str)(r:Rw):D:=.tup [sy N r.2.1,.tup (r.2.2.map (sy N))]
def hdD(N:ae Str)(F:ae Rw):ae (D×D):=F.map λr=>(sy N r.1,hdV N r)
noncomputable def tr(t:Tk):Rw:=(t.1,t.2.1,t.2.2.1::t.2.2.2)
def wQ(N:ae Str)(r:Rw):(hdV N r).pure=ag:=by
 show((sy N r.2.1).pure&&((μ (r.2.2.map (sy N))).pure&&ag))=ag;rw[ξ,cR];rfl
def aLx(h:Run H st w):st.length<=w.length:=by
 induction h with
 |nil=>exact bo _
 |step hr _ ih=>
  rw[b6] at ih;rw[bz,bz];lia
section
variable {N:ae Str} (hN:N.length=26) (hd:N.Nodup)
include hN hd
theorem nZ(nm:α->ah)(g:α->D)(hi:i<26)(v:D):∀(L:ae α),(∀a∈L,nm a<26)->i∉L.map nm->putD (L.map λa=>(sy N (nm a),g a)) (sy N i) v=(L.map λa=>(sy N (nm a),g a))++[(sy N i,v)]
 |[],_,_=>rfl
 |a::L,h1,h2=>by
  rw[bh,bq,fE] at h2;rw[bh,putD,vA hN hd (h1 a (bE ..)) hi,cq (λg=>h2.1 g.symm),ax 0x2,nZ nm g hi v L (λb hb=>h1 b (bX _ hb)) h2.2];rfl
omit hN hd in
theorem sX(nm:α->ah)(g:α->D)(L:ae α)(i:ah):lQ (L.map λa=>(sy N (nm a),g a)) (sy N i)=ag:=by
 show(ag&&(L.map λa=>(sy N (nm a),g a)).all λp=>isTup p.1==aj)=ag;rw[ix,gf];intro y hy;obtain⟨k,_,rfl⟩:=cS.mp hy;rfl
theorem WM{pr e f g h:D}(e5:D):∀(M L:ae Rw),((L++M).map (·.1)).Nodup->(∀r∈L++M,r.1<26)->L.length+M.length<=1000->∀(a b c:D),∃a' b' c',nG (tgN [2,3,4]) (aEo 1 fL (jR (aC fB (aC lF aW)))) (M.map (rwD N)) [pr,.dct (hdD N L),a,b,c,e5,f]=.ok (.nx [pr,.dct (hdD N (L++M)),a',b',c',e5,f])
 |[],L,_,_,_,a,b,c=>⟨a,b,c,by rw[dQ];rfl⟩
 |r::M,L,h1,h2,h3,a,b,c=>by
  have hr:r.1<26:=h2 r 0x2;have hn:r.1∉L.map (·.1):=λhm=>by
   rw[dL,bh,eS] at h1;exact h1.2.2 _ hm _ (bE ..) rfl
  have e1:hdD N (L++[r])=putD (hdD N L) (sy N r.1) (hdV N r):=by
   unfold hdD;rw[nZ hN hd (λr:Rw=>r.1) (hdV N) hr _ L (λx hx=>h2 x (by simp[hx])) hn,dL];rfl
  rw[bz] at h3;obtain⟨a',b',c',q⟩:=WM (e:=e) (f:=f) (g:=g) (h:=h) e5 M (L++[r]) (by rw[cr];exact h1) (by rw[cr];exact h2) (by rw[b6,eR];lia) (sy N r.1) (sy N r.2.1) (.tup (r.2.2.map (sy N)));refine⟨a',b',c',?_⟩;rw[bh];rw[cr] at q;refine b_ (ρ1:=[pr,.dct (hdD N L),sy N r.1,sy N r.2.1,.tup (r.2.2.map (sy N)),e5,f]) rfl (aAy (i:=1) (kvs:=hdD N L) (k:=sy N r.1) (d:=hdV N r) (eE (aD rfl 0xb) (by rw[bN];simp)) rfl rfl (by unfold hdD;rw[br,bN];lia) (sX ..) (wQ ..)) ?_;rw[<-e1];exact q
theorem WN{pr:D}:∀(T:ae Tk)(L:ae Rw),((L++T.map tr).map (·.1)).Nodup->(∀r∈L++T.map tr,r.1<26)->L.length+T.length<=1000->(∀t∈T,t.2.2.2.length<=10)->∀(a b c d e:D),∃a' b' c' d' e',nG (tgN [2,3,5,6]) (aEo 1 fL (jR (aC fB (aC (b2 aB5 (jR (aC nF aW)) lM) aW)))) (T.map (tkD N)) [pr,.dct (hdD N L),a,b,c,d,e]=.ok (.nx [pr,.dct (hdD N (L++T.map tr)),a',b',c',d',e'])
 |[],L,_,_,_,_,a,b,c,d,e=>⟨a,b,c,d,e,by rw[show L++d5 tr []=L from dQ L];rfl⟩
 |t::T,L,h1,h2,h3,h4,a,b,c,d,e=>by
  have hr:(tr t).1<26:=h2 (tr t) 0x2;have hn:(tr t).1∉L.map (·.1):=λhm=>by
   rw[bh,dL,bh,eS] at h1;exact h1.2.2 _ hm _ (bE ..) rfl
  have e1:hdD N (L++[tr t])=putD (hdD N L) (sy N (tr t).1) (hdV N (tr t)):=by
   unfold hdD;rw[nZ hN hd (λr:Rw=>r.1) (hdV N) hr _ L (λx hx=>h2 x (fy _ hx)) hn,dL];rfl
  rw[bz] at h3;obtain⟨a',b',c',d',e',q⟩:=WN T (L++[tr t]) (by rw[cr];exact h1) (by rw[cr];exact h2) (by rw[b6,eR];lia) (λx hx=>h4 x (bX _ hx)) (sy N t.1) (sy N t.2.1) c (sy N t.2.2.1) (.tup (t.2.2.2.map (sy N)));refine⟨a',b',c',d',e',?_⟩;rw[bh];rw[cr] at q;have hl:=h4 t (bE ..);have had:aB5 (.tup [sy N t.2.2.1]) (.tup (t.2.2.2.map (sy N)))=.ok (.tup ((tr t).2.2.map (sy N))):=by
   show(if ϒ ([sy N t.2.2.1].length+(t.2.2.2.map (sy N)).length<=lim) then τ (μ ([sy N t.2.2.1]++t.2.2.2.map (sy N))) else .bad)=_;rw[br,bN,bj (by simp;lia)];rfl
  refine b_ rfl (aAy (k:=sy N (tr t).1) (d:=hdV N (tr t)) (eE (aD rfl (aD (aO (eE 0xb (by rw[bN];simp)) rfl had) rfl)) (by rw[bN];simp)) rfl rfl (by unfold hdD;rw[br,bN];lia) (sX ..) (wQ ..)) ?_;rw[<-e1];exact q
structure Hds(F:ae Rw):Prop where
 nd:(F.map (·.1)).Nodup
 lt:∀r∈F,r.1<26/\r.2.1<26/\(∀i∈r.2.2,i<26)/\r.2.2.length<=10
 ln:F.length<=100
theorem JH{T:ae Tk}(F:Hds (M++T.map tr)):dJ [.tup [P0,.tup (M.map (rwD N)),.tup (T.map (tkD N)),P3]]=.ok (.dct (hdD N (M++T.map tr))):=by
 have hl:=F.ln;rw[b6,br] at hl;obtain⟨a,b,c,q1⟩:=WM hN hd (pr:=.tup [P0,.tup (M.map (rwD N)),.tup (T.map (tkD N)),P3]) (e:=.uD) (f:=.uD) (g:=.uD) (h:=.uD) .uD M [] (by have:=F.nd;rw[dL,eS] at this;exact this.1) (λr hr=>(F.lt r (fy _ hr)).1) (by simp;lia) .uD .uD .uD;obtain⟨a2,b2',c2,d2,e2,q2⟩:=WN hN hd (pr:=.tup [P0,.tup (M.map (rwD N)),.tup (T.map (tkD N)),P3]) T M F.nd (λr hr=>(F.lt r hr).1) 0x1 (λt ht=>by have:=(F.lt (tr t) (dA _ (gh ht))).2.2.2;have e:(tr t).2.2.length=t.2.2.2.length+1:=rfl;lia) a b c .uD .uD;refine call_v ?_;refine aN (ρ':=[.tup [P0,.tup (M.map (rwD N)),.tup (T.map (tkD N)),P3],.dct [],.uD,.uD,.uD,.uD,.uD]) (uO (i:=1) rfl rfl) ?_;refine aN (lJ ((dB (aO rfl rfl rfl)).trans (by rw[cD (zT N)])) q1) ?_;exact aN (lJ ((dB (aO rfl rfl rfl)).trans (by rw[cD (vC N)])) q2) rfl
theorem zW(hF:Hds F)(hr:r∈F):getD (.dct (hdD N F)) (sy N r.1)=.ok (hdV N r):=by
 show(if ag then ν (bH (hdD N F) (sy N r.1)) else .bad)=_;unfold hdD;rw[aq rfl,zU hN hd (λr:Rw=>r.1) (hdV N) F hF.nd (λa ha=>(hF.lt a ha).1) r hr];rfl
end
def hb0:FS:=(sIf (aEm (bTr lF)) vU jT)
def hb1:FS:=(cZ aj 6 (aQ (cU 3 jE) (aC cT (aC nF (aC fB aW)))) ag)
def hb2:FS:=(aOg (xTB (x2R (gG .ne) (bPu (b2 getD lM g_)) (YK 4))) vU jT)
def hb3:FS:=(aJy 4 (b1 aK6 (b2 getD lM fM)))
def hb:FS:=(bU hb0 (bU hb1 (bU hb2 hb3)))
def aGr(h1:a ρ=.ok (.tup xs))(hx:δ xs=ag)(hl:1<=xs.length):CK a (j8 fM) lX ρ=.ok (.tup (xs.drop 1)):=by
 unfold CK;rw[h1,θ,uZ rfl,θ];have e0:∀d:ah,OJ xs.length d (aa (1:ak))=1:=λd=>by
  unfold OJ;dsimp only;rw[ax 0x1];lia
 show(if !δ xs||ϒ (OJ xs.length 0 (aa (1:ak))=0/\OJ xs.length xs.length ai=xs.length) then Res.bad else τ (μ (cutD xs (aa (1:ak)) ai)))=_;rw[hx,e0,cq 0x1,ax 0x2];rw[show((1:ak))=((1:ah):ak) from rfl,wN]
def sn(N:ae Str)(S:ae ah):ae (D×D):=(.str "copy",.bl ag)::(.str "drop",.bl ag)::S.map λi=>(sy N i,.bl ag)
def aIa(N:ae Str)(S:ae ah)(i:ah):lQ (sn N S) (sy N i)=ag:=by
 show(ag&&((ε "copy",ο ag)::(ε "drop",ο ag)::S.map λi=>(sy N i,ο ag)).all λp=>isTup p.1==aj)=ag;rw[ix,gf];intro y hy;rcases bq.mp hy with h|h
 .subst h;rfl
 .rcases bq.mp h with h|h
  .subst h;rfl
  .obtain⟨k,_,rfl⟩:=cS.mp h;rfl
def aQd(N:ae Str)(S:ae ah):(sn N S).length=S.length+2:=by
 unfold sn;simp
def aLy(N:ae Str)(S:ae ah):inner (.dct (sn N S))=ag:=by
 show δ ((sn N S).map (·.2))=ag;unfold sn;rw[bh,bh,eI,δ,δ,cD (λ_=>rfl)];rfl
section
variable {N:ae Str} (H:Nms N)
include H
theorem aSy(hi:i<26):eqD (.str "copy") (sy N i)=aj/\eqD (.str "drop") (sy N i)=aj:=by
 have hl:i<N.length:=by have:=H.len;lia
 have e:N.getD i ""=N[i]:=by rw[cx,eh hl];rfl
 have hm:N[i]∈N:=vS hl;refine⟨?_,?_⟩
 .show(("copy" : Str)==N.getD i "")=aj;rw[e];exact fq.mpr λz=>H.nc (z▸hm)
 .show(("drop" : Str)==N.getD i "")=aj;rw[e];exact fq.mpr λz=>H.nr (z▸hm)
theorem jY(nm:α->ah)(g:α->D)(hi:i<26):∀(L:ae α),(∀a∈L,nm a<26)->i∉L.map nm->bH (L.map λa=>(sy N (nm a),g a)) (sy N i)=ai
 |[],_,_=>rfl
 |a::L,h1,h2=>by
  rw[bh,bq,fE] at h2;rw[bh,bH,vA H.len H.nd (h1 a (bE ..)) hi,cq (λg=>h2.1 g.symm),ax 0x2];exact jY nm g hi L (λb hb=>h1 b (bX _ hb)) h2.2
theorem aQe{S:ae ah}(hS:∀i∈S,i<26)(hi:i<26)(hn:i∉S):bH (sn N S) (sy N i)=ai/\putD (sn N S) (sy N i) (.bl ag)=sn N (S++[i]):=by
 obtain⟨h1,h2⟩:=aSy H hi;unfold sn;refine⟨?_,?_⟩
 .rw[bH,h1,ax 0x2,bH,h2,ax 0x2];exact jY H (λi=>i) (λ_=>.bl ag) hi S hS (by rw[Dm];exact hn)
 .rw[putD,h1,ax 0x2,putD,h2,ax 0x2];rw[nZ H.len H.nd (λi:ah=>i) (λ_=>.bl ag) hi (.bl ag) S hS (by rw[Dm];exact hn),dL];rfl
theorem WP{S:ae ah}(hS:∀i∈S,i<26)(hl:S.length<=1000)(hi:i<26)(hn:i∉S){j:ah}{f:FE}{ρ:ae D}(hf:f ρ=.ok (sy N i))(hρ:ρ.getD j .uD=.dct (sn N S)):aBq j f ρ=.ok (.nx (ρ.set j (.dct (sn N (S++[i]))))):=by
 obtain⟨h1,h2⟩:=aQe H hS hi hn;unfold aBq;rw[hf,θ,hρ];dsimp only;rw[aq,h2];rw[aIa,h1,aQd,bN,bj 0x1];rfl
theorem WQ(hK:∀i∈K,i<26)(hl:∀i∈l,i∈K):dO [.tup [tw N K,P1,P2,P3],tw N l]=.ok .non:=by
 have loop:∀(l:ae ah)(x:D),(∀i∈l,i∈K)->∃x',nG (tg1 2) (sIf (bTB (b2 (gG .notin) fL (b2 getD cT g_))) vU jT) (l.map (sy N)) [.tup [tw N K,P1,P2,P3],tw N l,x]=.ok (.nx [.tup [tw N K,P1,P2,P3],tw N l,x']):=by
  intro l0
  suffices h:∀(y:D)(l:ae ah)(x:D),(∀i∈l,i∈K)->∃x',nG (tg1 2) (sIf (bTB (b2 (gG .notin) fL (b2 getD cT g_))) vU jT) (l.map (sy N)) [.tup [tw N K,P1,P2,P3],y,x]=.ok (.nx [.tup [tw N K,P1,P2,P3],y,x']) from h (tw N l0) l0
  intro y l;induction l with
  |nil=>exact λx _=>⟨x,rfl⟩
  |cons i l ih=>
   intro x hl;have hi:=hl i (bE ..);obtain⟨x',q⟩:=ih (sy N i) λk hk=>hl k (bX _ hk)
   refine⟨x',?_⟩;rw[bh];exact b_ rfl (o8 (fQ (aO rfl (aO rfl rfl rfl) ((aGq H.len H.nd (hK i hi) hK).trans (by rw[bj hi];rfl)))) rfl) q
 obtain⟨x',q⟩:=loop l .uD hl;have:lC [.tup [tw N K,P1,P2,P3],tw N l,.uD]=.ok (.nx [.tup [tw N K,P1,P2,P3],tw N l,x']):=QZ rfl rfl q;show(do let r <- lC [.tup [tw N K,P1,P2,P3],tw N l,.uD];aTf r)=_;rw[this];rfl
def kd(N:ae Str)(ow be:ae ah):ae (D×D):=(kn ow be).map λr=>(sy N r.1,sy N r.2.1)
omit H in
theorem JK(h:ow.length=be.length):(kn ow be).map (·.1)=ow:=by
 unfold kn;rw[eI];apply zb
 .simp[h]
 .intro i h1 h2;simp[cx,h2]
theorem aDa(hF:Hds F)(hs:∀r∈Hd,r∈F)(hl:ow.length=be.length)(hn:ow.Nodup)(ho:∀i∈ow,i<26/\i∉F.map (·.1))(hr:r∈kn ow be++Hd):jE [.dct (hdD N F),sy N r.1,.dct (kd N ow be)]=.ok (hdV N r):=by
 have inD:∀(L:ae Rw)(g:Rw->D)(i:ah),gG .isin (sy N i) (.dct (L.map λr=>(sy N r.1,g r)))=.ok (.bl (bH (L.map λr=>(sy N r.1,g r)) (sy N i)).isSome):=λL g i=>by
  show(if lQ (L.map λr=>(sy N r.1,g r)) (sy N i) then τ (ο (bH (L.map λr=>(sy N r.1,g r)) (sy N i)).isSome) else .bad)=_;rw[sX];rfl
 refine call_v ?_;by_cases hm:r∈Hd
 .have hrF:=hs r hm;have hlk:bH (hdD N F) (sy N r.1)=aa (hdV N r):=by
   unfold hdD;exact zU H.len H.nd (λr:Rw=>r.1) (hdV N) F hF.nd (λa ha=>(hF.lt a ha).1) r hrF
  refine zL (aAx (fQ (aO rfl rfl ((inD F (hdV N) r.1).trans ?_))) (gJ (aO rfl rfl (zW H.len H.nd hF hrF)) (wQ ..)));unfold hdD at hlk;rw[hlk];rfl
 .have hk:r∈kn ow be:=(d6.mp hr).resolve_right hm;have hro:r.1∈ow:=by rw[<-JK hl];exact gh hk
  obtain⟨o1,o2⟩:=ho _ hro;have hp:r.2.2=[]:=by
   unfold kn at hk;obtain⟨j,_,rfl⟩:=cS.mp hk;rfl
  have hno:bH (hdD N F) (sy N r.1)=ai:=by
   unfold hdD;exact jY H (λr:Rw=>r.1) (hdV N) o1 F (λa ha=>(hF.lt a ha).1) o2
  have hyes:bH (kd N ow be) (sy N r.1)=aa (sy N r.2.1):=by
   unfold kd;exact zU H.len H.nd (λr:Rw=>r.1) (λr=>sy N r.2.1) (kn ow be) (by rw[JK hl];exact hn) (λa ha=>(ho _ (by rw[<-JK hl];exact gh ha)).1) r hk
  have hv:hdV N r=.tup [sy N r.2.1,.tup []]:=by
   unfold hdV;rw[hp];rfl
  rw[hv];refine aN (o8 (fQ (aO rfl rfl ((inD F (hdV N) r.1).trans ?_))) rfl) (zL (aAx (fQ (aO rfl rfl ((inD (kn ow be) (λr=>sy N r.2.1) r.1).trans ?_))) (gJ (eE (aD (aO rfl rfl ?_) (aD (eE rfl (by rw[bN];simp)) rfl)) (by rw[bN];simp)) rfl)))
  .unfold hdD at hno;rw[hno];rfl
  .unfold kd at hyes;rw[hyes];rfl
  .show(if ag then ν (bH (kd N ow be) (sy N r.1)) else .bad)=_;rw[aq rfl,hyes];rfl
theorem aQf(hF:Hds F)(hs:∀r∈Hd,r∈F)(hl:ow.length=be.length)(hn:ow.Nodup)(ho:∀i∈ow,i<26/\i∉F.map (·.1))(hbe:∀i∈be,i<26)(R:Run (kn ow be++Hd) st w):w.length<=500->∀x y:D,∃x' y',nG (tg1 5) hb (w.map (sy N)) [.dct (hdD N F),pa,wd,.dct (kd N ow be),.lst (st.reverse.map (sy N)),x,y]=.ok (.nx [.dct (hdD N F),pa,wd,.dct (kd N ow be),.lst [],x',y']):=by
 induction R with
 |nil=>exact λ_ x y=>⟨x,y,rfl⟩
 |@step r rest W hr R ih=>
  intro hwl x y;rw[bz] at hwl;obtain⟨x',y',q⟩:=ih 0x1 (sy N r.1) (hdV N r);have hrl:=aLx R;rw[b6] at hrl;have l2:r.2.1<26/\r.2.2.length<=10:=by
   rcases d6.mp hr with g|g
   .unfold kn at g;obtain⟨j,hj,rfl⟩:=cS.mp g;have hj:=xq.mp hj;refine⟨?_,by simp⟩;show be.getD j 0<26;rw[cx,eh hj];exact hbe _ (vS hj)
   .exact⟨(hF.lt r (hs r g)).2.1,(hF.lt r (hs r g)).2.2.2⟩
  refine⟨x',y',?_⟩;rw[bh];refine b_ rfl ?_ q;have e:(r.2.1::rest).reverse.map (sy N)=rest.reverse.map (sy N)++[sy N r.2.1]:=by
   rw[jf,dL];rfl
  rw[e];have s0:hb0 [.dct (hdD N F),pa,wd,.dct (kd N ow be),.lst (rest.reverse.map (sy N)++[sy N r.2.1]),sy N r.1,y]=.ok (.nx [.dct (hdD N F),pa,wd,.dct (kd N ow be),.lst (rest.reverse.map (sy N)++[sy N r.2.1]),sy N r.1,y]):=by
   have ht:bTr lF [.dct (hdD N F),pa,wd,.dct (kd N ow be),.lst (rest.reverse.map (sy N)++[sy N r.2.1]),sy N r.1,y]=.ok ag:=by
    show aTg (.lst (rest.reverse.map (sy N)++[sy N r.2.1]))=_;cases rest.reverse.map (sy N)<;>rfl
   exact o8 (WF ht) rfl
  have s1:hb1 [.dct (hdD N F),pa,wd,.dct (kd N ow be),.lst (rest.reverse.map (sy N)++[sy N r.2.1]),sy N r.1,y]=.ok (.nx [.dct (hdD N F),pa,wd,.dct (kd N ow be),.lst (rest.reverse.map (sy N)++[sy N r.2.1]),sy N r.1,hdV N r]):=cC (aX (aD rfl (aD rfl 0xb)) ((cF rfl).trans (aDa H hF hs hl hn ho hr)));have s2:hb2 [.dct (hdD N F),pa,wd,.dct (kd N ow be),.lst (rest.reverse.map (sy N)++[sy N r.2.1]),sy N r.1,hdV N r]=.ok (.nx [.dct (hdD N F),pa,wd,.dct (kd N ow be),.lst (rest.reverse.map (sy N)),sy N r.1,hdV N r]):=by
   have hpop:YK 4 [.dct (hdD N F),pa,wd,.dct (kd N ow be),.lst (rest.reverse.map (sy N)++[sy N r.2.1]),sy N r.1,hdV N r]=.ok (sy N r.2.1,[.dct (hdD N F),pa,wd,.dct (kd N ow be),.lst (rest.reverse.map (sy N)),sy N r.1,hdV N r]):=by
    unfold YK;rw[show[χ (hdD N F),pa,wd,.dct (kd N ow be),.lst (rest.reverse.map (sy N)++[sy N r.2.1]),sy N r.1,hdV N r].getD 4 .uD=.lst (rest.reverse.map (sy N)++[sy N r.2.1]) from rfl];dsimp only;rw[b6,eR,Ad,dS (bo _),ss,xi];rfl
   refine aQa (k:=aj) (aQ9 (aQ8 (x:=sy N r.2.1) (JF (aO rfl rfl rfl) rfl) hpop ((aD9 H.len H.nd l2.1 l2.1).trans (by rw[bj rfl];rfl)) rfl)) ?_;rw[ax 0x2];rfl
  have s3:hb3 [.dct (hdD N F),pa,wd,.dct (kd N ow be),.lst (rest.reverse.map (sy N)),sy N r.1,hdV N r]=.ok (.nx [.dct (hdD N F),pa,wd,.dct (kd N ow be),.lst ((r.2.2++rest).reverse.map (sy N)),sy N r.1,hdV N r]):=by
   have hx:=aI9 (i:=4) (ρ:=[.dct (hdD N F),pa,wd,.dct (kd N ow be),.lst (rest.reverse.map (sy N)),sy N r.1,hdV N r]) (f:=b1 aK6 (b2 getD lM fM)) (xs:=rest.reverse.map (sy N)) (ys:=r.2.2.reverse.map (sy N)) (aGo (aO rfl rfl (z:=.tup (r.2.2.map (sy N))) rfl) (by
    show(if δ (r.2.2.map (sy N))&&ϒ ((r.2.2.map (sy N)).length<=lim) then τ (υ (r.2.2.map (sy N)).reverse) else .bad)=_;rw[cR,br,bN,bj 0x1,<-List.map_reverse];rfl)) rfl (by rw[br,jg,br,jg];lia) (cR ..)
   refine hx.trans ?_;have e7:((r.2.2++rest).reverse.map (sy N))=rest.reverse.map (sy N)++r.2.2.reverse.map (sy N):=by rw[Af,dL]
   rw[e7];rfl
  exact aN s0 (aN s1 (aN s2 s3))
end
def cb0:FS:=(sIf (bTB (b2 (gG .notin) lM lF)) vU jT)
def cb1:FS:=(sIf (bTB (b2 (gG .notin) n6 fB)) vU jT)
def cb2:FS:=(sIf (bTB (b2 (gG .ne) (b2 getD (b2 getD fL n6) g_) (b2 getD (b2 getD (b2 getD fL lM) fM) g_))) vU jT)
def cb3:FS:=(sIf (bTB (b2 inX (jR (aC lM (aC n6 aW))) nF)) vU jT)
def cb4:FS:=(aEo 5 (jR (aC lM (aC n6 aW))) (bC (.bl ag)))
def cb5:FS:=(vR (aQ (cU 4 eG) (aC fL (aC aDv (aC (b2 getD (b2 getD fL lM) g_) (aC (aQ (cU 5 eV) (aC fL (aC lM (aC n6 (aC aJc (aC c7 aW)))))) aW))))))
def cb:FS:=(bU cb0 (bU cb1 (bU cb2 (bU cb3 (bU cb4 cb5)))))
def aDb(h:f (ds++bi (m-n) D.uD)=.ok (.nx ρ')):fnS n m f ds=.ok .non:=by
 unfold fnS;rw[h];rfl
def aLz(o b:ah)(ow be:ae ah):kn (o::ow) (b::be)=(o,b,[])::kn ow be:=by
 unfold kn;rw[bz,Bl,bh,eI];rfl
def WR(N:ae Str):∀l:ae ah,(l.map (sy N)).all dZ=ag
 |[]=>rfl
 |i::l=>by
  rw[bh,hU,WR N l];rfl
def vG(h:f ρ=.ok d):vR f ρ=.ok (.nx ρ):=by
 unfold vR;rw[h];rfl
def pD(N:ae Str)(p:ah×ah):D:=.tup [sy N p.1,sy N p.2]
def ad(N:ae Str)(L:ae (ah×ah)):ae (D×D):=L.map λp=>(pD N p,.bl ag)
def aDc(N:ae Str)(p:ah×ah)(n:ah):(pD N p).iG (n+1)=ag:=by
 unfold pD;rw[D.iG,π,π,π];unfold sy;rw[D.iG,D.iG]<;>simp
def WT(N:ae Str)(n:ah):∀L:ae (ah×ah),π (n+1) (L.map (pD N))=ag
 |[]=>by rw[i9,π]
 |p::L=>by rw[bh,π,aDc,WT N n L];rfl
section
variable (H:Nms N)
include H
theorem aIb{l:ae ah}(hi:i<26)(hl:∀j∈l,j<26):gG .notin (sy N i) (.lst (l.map (sy N)))=.ok (.bl (!ϒ (i∈l))):=by
 show(if (sy N i).iG aU&&π aU (l.map (sy N)) then τ (ο (!(l.map (sy N)).any λy=>eqD y (sy N i))) else .bad)=_;rw[vB,JG,aD7 H.len H.nd hi l hl];rfl
theorem aDd(hF:Hds F)(hs:∀r∈Hd,r∈F)(hl:ow.length=be.length)(hn:ow.Nodup)(ho:∀i∈ow,i<26/\i∉F.map (·.1))(hbe:∀i∈be,i<26)(R:Run (kn ow be++Hd) [k] W)(hW:W.length<=500):eG [.dct (hdD N F),tw N W,sy N k,.dct (kd N ow be)]=.ok .non:=by
 obtain⟨x,y,q⟩:=aQf H hF hs hl hn ho hbe R hW .uD .uD;refine aDb (ρ':=[.dct (hdD N F),tw N W,sy N k,.dct (kd N ow be),.lst [],x,y]) ?_;refine aN (ρ':=[.dct (hdD N F),tw N W,sy N k,.dct (kd N ow be),.lst [sy N k],.uD,.uD]) (uO (i:=4) rfl rfl) ?_;exact aN (QZ (xs:=W.map (sy N)) rfl rfl q) (o8 rfl rfl)
theorem aIc:∀(ow be:ae ah)(acc:ae Rw),ow.length=be.length->(acc.map (·.1)++ow).Nodup->(∀i∈acc.map (·.1)++ow,i<26)->gK (ow.map (sy N)) (be.map (sy N)) (acc.map λr=>(sy N r.1,sy N r.2.1))=(acc++kn ow be).map λr=>(sy N r.1,sy N r.2.1)
 |[],[],acc,_,_,_=>by
  show acc.map _=(acc++kn [] []).map _;rw[show kn [] []=[] from rfl,dQ]
 |[],b::be,acc,h,_,_=>by simp at h
 |o::ow,[],acc,h,_,_=>by simp at h
 |o::ow,b::be,acc,h,h2,h3=>by
  rw[bh,bh,gK,aLz];have hno:o∉acc.map (·.1):=λhm=>by
   rw[eS] at h2;exact h2.2.2 _ hm _ (bE ..) rfl
  rw[nZ H.len H.nd (λr:Rw=>r.1) (λr=>sy N r.2.1) (h3 o 0x2) _ acc (λa ha=>h3 _ (fy _ (gh ha))) hno];have e:(acc.map λr:Rw=>(sy N r.1,sy N r.2.1))++[(sy N o,sy N b)]=(acc++[((o,b,[]):Rw)]).map λr=>(sy N r.1,sy N r.2.1):=by rw[dL];rfl
  rw[e,aIc ow be (acc++[(o,b,[])]) (by simpa using h) (by rw[dL,cr];exact h2) (by rw[dL,cr];exact h3),cr];rfl
theorem aGs(hF:Hds F)(ht:tr t∈F)(hr:r∈F){ow S:ae ah}(hl:ow.length=(r.2.2++t.2.2.2).length)(hn:ow.Nodup)(ho:∀i∈ow,i<26/\i∉S)(hS:∀i∈S,i<26)(hSl:S.length<=500) :
  eV [.dct (hdD N F),sy N t.1,sy N r.1,tw N ow,.dct (sn N S)]=.ok (.dct (kd N ow (r.2.2++t.2.2.2))):=by
 obtain⟨a1,a2,a3,a4⟩:=hF.lt _ ht;obtain⟨b1',b2',b3,b4⟩:=hF.lt _ hr;have a5:t.2.2.2.length+1<=10:=a4;have hol:ow.length<=20:=by rw[hl,b6];lia
 have sees:∀(L D0:ae ah)(x:D),(D0++L).Nodup->(∀i∈D0++L,i<26/\i∉S)->D0.length+L.length<=100->∃x',nG (tg1 7) (aBq 6 n6) (L.map (sy N)) [.dct (hdD N F),sy N t.1,sy N r.1,tw N ow,.dct (sn N S),tw N (r.2.2++t.2.2.2),.dct (sn N (S++D0)),x]=.ok (.nx [.dct (hdD N F),sy N t.1,sy N r.1,tw N ow,.dct (sn N S),tw N (r.2.2++t.2.2.2),.dct (sn N (S++(D0++L))),x']):=by
  intro L;induction L with
  |nil=>exact λD0 x _ _ _=>⟨x,by rw[dQ];rfl⟩
  |cons i L ih=>
   intro D0 x h1 h2 h3;rw[bz] at h3;obtain⟨x',q⟩:=ih (D0++[i]) (sy N i) (by rw[cr];exact h1) (by rw[cr];exact h2) (by rw[b6,eR];lia);refine⟨x',?_⟩;rw[cr,<-cr S] at q;have hi:=h2 i 0x2;have hiD:i∉D0:=λhm=>by
    rw[eS] at h1;exact h1.2.2 _ hm _ (bE ..) rfl
   rw[bh];refine b_ rfl (WP H (λk hk=>?_) (by rw[b6];lia) hi.1 (λhm=>?_) rfl rfl) q
   .rcases d6.mp hk with g|g
    .exact hS k g
    .exact(h2 k (fy _ g)).1
   .rcases d6.mp hm with g|g
    .exact hi.2 g
    .exact hiD g
 obtain⟨x',q⟩:=sees ow [] .uD (by simpa using hn) (by simpa using ho) (by simp;lia);rw[dQ,fS] at q;refine call_v ?_;refine aN (GX (d:=tw N (r.2.2++t.2.2.2)) (aO (aO (aO rfl rfl (zW H.len H.nd hF hr)) rfl (z:=.tup (r.2.2.map (sy N))) rfl) (aGr (xs:=(tr t).2.2.map (sy N)) (aO (aO (x:=.dct (hdD N F)) (y:=sy N (tr t).1) rfl rfl (zW H.len H.nd hF ht)) rfl rfl) (cR ..) (by rw[br];show 1<=(t.2.2.1::t.2.2.2).length;rw[bz];lia)) ?_) (zV ..)) ?_
 .show(if ϒ ((r.2.2.map (sy N)).length+(t.2.2.2.map (sy N)).length<=lim) then τ (μ (r.2.2.map (sy N)++t.2.2.2.map (sy N))) else .bad)=_;rw[br,br,bN,bj 0x1,<-dL];rfl
 refine aN (o8 (fQ (aO (x:=.int ow.length) (y:=.int (r.2.2++t.2.2.2).length) (aX 0xb ?_) (aX 0xb ?_) ((aLu _ _).trans (by rw[hl];simp)))) rfl) ?_
 .show τ (ι ((ow.map (sy N)).length:ak))=_;rw[br]
 .show τ (ι (((r.2.2++t.2.2.2).map (sy N)).length:ak))=_;rw[br]
 refine aN (ρ':=[.dct (hdD N F),sy N t.1,sy N r.1,tw N ow,.dct (sn N S),tw N (r.2.2++t.2.2.2),.dct (sn N S),.uD]) (uO (i:=6) (aX 0xb ?_) (aLy N S)) ?_
 .show(if !(sn N S).isEmpty&&((sn N S).all (λp=>!isTup p.1)&&δ ((sn N S).map (·.2))) then τ (χ (sn N S)) else .bad)=_;have hp:δ ((sn N S).map (·.2))=ag:=aLy N S;have ha:(sn N S).all (λp=>!isTup p.1)=ag:=by
   have:=aIa N S 0;unfold lQ at this;rw[ba,gf] at this;rw[gf];intro y hy;have:=this.2 y hy;have e:(isTup y.1==aj)=ag:=this;cases hy2:isTup y.1
   .rfl
   .rw[hy2] at e;cases e
  rw[hp,ha];rfl
 refine aN (QZ (xs:=ow.map (sy N)) rfl rfl q) ?_;refine gJ (aX (aD rfl 0xb) ?_) rfl;show(if ϒ ((ow.map (sy N)).length<=1000)&&ϒ (((r.2.2++t.2.2.2).map (sy N)).length=(ow.map (sy N)).length)&&(ow.map (sy N)).all dZ&&δ ((r.2.2++t.2.2.2).map (sy N)) then τ (χ (gK (ow.map (sy N)) ((r.2.2++t.2.2.2).map (sy N)) [])) else .bad)=_;have hz:=aIc H ow (r.2.2++t.2.2.2) [] hl (by simpa using hn) (λi hi=>(ho i (by simpa using hi)).1);rw[i9,fS] at hz;rw[hz,WR,cR,br,br,bj 0x1,bj hl.symm];rfl
theorem aQg(hp:p.1<26/\p.2<26)(hq:q.1<26/\q.2<26):eqD (pD N p) (pD N q)=ϒ (p=q):=by
 show(eqD (sy N p.1) (sy N q.1)&&(eqD (sy N p.2) (sy N q.2)&&ag))=_;rw[vA H.len H.nd hp.1 hq.1,vA H.len H.nd hp.2 hq.2];obtain⟨a,b⟩:=p;obtain⟨c,d⟩:=q;simp[lq]
theorem aIe(hq:q.1<26/\q.2<26):∀(L:ae (ah×ah)),(∀p∈L,p.1<26/\p.2<26)->q∉L->bH (ad N L) (pD N q)=ai/\putD (ad N L) (pD N q) (.bl ag)=ad N (L++[q])
 |[],_,_=>⟨rfl,rfl⟩
 |p::L,h1,h2=>by
  rw[bq,fE] at h2;obtain⟨i1,i2⟩:=aIe hq L (λx hx=>h1 x (bX _ hx)) h2.2;unfold ad at i1 i2 ⊢;rw[mh,bh,bh,bH,putD,aQg H (h1 p (bE ..)) hq,cq (λg=>h2.1 g.symm),ax 0x2,ax 0x2,i2];exact⟨i1,rfl⟩
omit H in
theorem aIf(L:ae (ah×ah))(q:ah×ah):lQ (ad N L) (pD N q)=ag:=by
 show(ag&&(ad N L).all λp=>isTup p.1==ag)=ag;rw[ix,gf];intro y hy;unfold ad at hy;obtain⟨k,_,rfl⟩:=cS.mp hy;rfl
end
def aGt(y:Rw->D)(p:Rw->aw)(xs:ae Rw)(hρ:ρ.length=n)(h1:it ρ=.ok (xs.map (rwD N),kk))(h2:xs.length<=100000)(hc:∀a∈xs,c (ρ++[sy N a.1,sy N a.2.1,.tup (a.2.2.map (sy N))])=.ok (p a))(h3:∀a∈xs,p a=ag->f (ρ++[sy N a.1,sy N a.2.1,.tup (a.2.2.map (sy N))])=.ok (y a)/\(y a).pure=ag):fO n it (aJe 3) c f aj ρ=.ok (.lst ((xs.filter p).map y)):=by
 refine nM h1 (by rw[br,bN];lia) ?_;have:∀(xs:ae Rw)(acc:ae D),(∀a∈xs,c (ρ++[sy N a.1,sy N a.2.1,.tup (a.2.2.map (sy N))])=.ok (p a))->(∀a∈xs,p a=ag->f (ρ++[sy N a.1,sy N a.2.1,.tup (a.2.2.map (sy N))])=.ok (y a)/\(y a).pure=ag)->h_ (oN n (aJe 3) c f aj ρ) acc (xs.map (rwD N))=.ok (acc++(xs.filter p).map y):=by
  intro xs;induction xs with
  |nil=>intro acc _ _;simp[h_]
  |cons x xs ih=>
   intro acc hc h;have e:oN n (aJe 3) c f aj ρ acc (rwD N x)=.ok (if p x then acc++[y x] else acc):=by
    unfold oN;show(do let ok <- c (QG n ρ++[sy N x.1,sy N x.2.1,.tup (x.2.2.map (sy N))]);_)=_;rw[yJ hρ,hc x (bE ..),θ];cases hp:p x with
    |true=>
     obtain⟨e1,e2⟩:=h x (bE ..) hp;rw[aq rfl,e1,θ,aq (by rw[e2];rfl),aq rfl];rfl
    |false=>
     rw[ax 0x2,ax 0x2];rfl
   rw[bh,h_,e];show h_ _ _ _=_;rw[ih _ (λa ha=>hc a (bX _ ha)) λa ha=>h a (bX _ ha)];by_cases hp:p x
   .simp[hp]
   .simp[hp]
 exact(this xs [] hc h3).trans (by rw[fS])
def prD(N:ae Str)(K:ae ah)(M:ae Rw)(T:ae Tk)(R:ae Ru):D:=.tup [tw N K,.tup (M.map (rwD N)),.tup (T.map (tkD N)),.tup (R.map (ruD N))]
def aIg(h:eZ i ρ=.ok (ruD N u)):b2 getD (eZ i) g_ ρ=.ok (sy N u.1)/\b2 getD (eZ i) fM ρ=.ok (sy N u.2.1):=⟨aO h rfl rfl,aO h rfl rfl⟩
section
variable (H:Nms N)
include H
theorem aGu(hF:Hds (M++T.map tr))(hs:∀r∈Hd,r∈M++T.map tr)(hR:∀u∈R,GdR M T Hd u)(hn:(R.map pq).Nodup)(hRl:R.length<=100){S:ae ah}(hS:∀i∈S,i<26/\¬(13<=i/\i<18))(hSl:S.length<=500)(hfn:∀r∈M++T.map tr,¬(13<=r.1/\r.1<18)) :
  iT [prD N K M T R,.dct (sn N S)]=.ok .non:=by
 have hM:∀i∈M.map (·.1),i<26:=λi hi=>by obtain⟨r,hr,rfl⟩:=cS.mp hi;exact(hF.lt r (fy _ hr)).1
 have hT:∀i∈T.map (·.1),i<26:=λi hi=>by obtain⟨t,ht,rfl⟩:=cS.mp hi;exact(hF.lt (tr t) (dA _ (gh ht))).1
 have hln:=hF.ln;rw[b6,br] at hln;have loop:∀(L:ae Ru)(L0:ae (ah×ah)),(∀u∈L,u∈R)->(L0++L.map pq).Nodup->(∀p∈L0,p.1<26/\p.2<26)->L0.length+L.length<=500->∀(a b c d:D),∃(a' b' c' d':D)(L1:ae (ah×ah)),nG (tgN [6,7,8,9]) cb (L.map (ruD N)) [prD N K M T R,.dct (sn N S),.dct (hdD N (M++T.map tr)),.lst ((M.map (·.1)).map (sy N)),.lst ((T.map (·.1)).map (sy N)),.dct (ad N L0),a,b,c,d]=.ok (.nx [prD N K M T R,.dct (sn N S),.dct (hdD N (M++T.map tr)),.lst ((M.map (·.1)).map (sy N)),.lst ((T.map (·.1)).map (sy N)),.dct (ad N L1),a',b',c',d']):=by
  intro L;induction L with
  |nil=>exact λL0 _ _ _ _ a b c d=>⟨a,b,c,d,L0,rfl⟩
  |cons u L ih=>
   intro L0 hL h1 h2 h3 a b c d;rw[bz] at h3;obtain⟨t,ht,r,hr,hk,Q⟩:=hR u (hL u (bE ..));have hrF:r∈M++T.map tr:=fy _ hr;have htF:tr t∈M++T.map tr:=dA _ (gh ht);obtain⟨f1,f2,f3,f4⟩:=hF.lt r hrF;obtain⟨g1,g2,g3,g4⟩:=hF.lt _ htF;have hu1:u.1<26:=by rw[Q.n1];exact g1
   have hu2:u.2.1<26:=by rw[Q.n2];exact f1
   have hnew:pq u∉L0:=λhm=>by
    rw[bh,eS] at h1;exact h1.2.2 _ hm _ (bE ..) rfl
   obtain⟨k1,k2⟩:=aIe H ⟨hu1,hu2⟩ L0 h2 hnew;obtain⟨a',b',c',d',L1,q⟩:=ih (L0++[pq u]) (λx hx=>hL x (bX _ hx)) (by rw[cr];exact h1) (λp hp=>by
    rcases d6.mp hp with g|g
    .exact h2 p g
    .rw[ja] at g;subst g;exact⟨hu1,hu2⟩) (by rw[b6,eR];lia) (sy N u.1) (sy N u.2.1) (tw N u.2.2.1) (tw N u.2.2.2)
   refine⟨a',b',c',d',L1,?_⟩;rw[bh];have ht1:u.1∈T.map (·.1):=by rw[Q.n1];exact gh ht
   have hr1:u.2.1∈M.map (·.1):=by rw[Q.n2];exact gh hr
   have gT:getD (.dct (hdD N (M++T.map tr))) (sy N u.1)=.ok (hdV N (tr t)):=by rw[Q.n1];exact zW H.len H.nd hF htF
   have gM:getD (.dct (hdD N (M++T.map tr))) (sy N u.2.1)=.ok (hdV N r):=by rw[Q.n2];exact zW H.len H.nd hF hrF
   have hown:∀i∈u.2.2.1,i<26/\i∉S:=λi hi=>⟨by have:=Q.oi i hi;lia,λhm=>(hS i hm).2 (Q.oi i hi)⟩
   have hownF:∀i∈u.2.2.1,i<26/\i∉(M++T.map tr).map (·.1):=λi hi=>⟨by have:=Q.oi i hi;lia,λhm=>by
    obtain⟨x,hx,e⟩:=cS.mp hm;exact hfn x hx (e▸Q.oi i hi)⟩
   have hbe:∀i∈r.2.2++t.2.2.2,i<26:=λi hi=>by
    rcases d6.mp hi with g|g
    .exact f3 i g
    .exact g3 i (bX _ g)
   have kne:eV [.dct (hdD N (M++T.map tr)),sy N u.1,sy N u.2.1,tw N u.2.2.1,.dct (sn N S)]=.ok (.dct (kd N u.2.2.1 (r.2.2++t.2.2.2))):=by
    rw[Q.n1,Q.n2];exact aGs H hF htF hrF Q.ol Q.on hown (λi hi=>(hS i hi).1) hSl
   have wke:=aDd H hF hs Q.ol Q.on hownF hbe Q.rn (by have:=Q.wl;lia);have s0:cb0 [prD N K M T R,.dct (sn N S),.dct (hdD N (M++T.map tr)),.lst ((M.map (·.1)).map (sy N)),.lst ((T.map (·.1)).map (sy N)),.dct (ad N L0),sy N u.1,sy N u.2.1,tw N u.2.2.1,tw N u.2.2.2]=.ok (.nx [prD N K M T R,.dct (sn N S),.dct (hdD N (M++T.map tr)),.lst ((M.map (·.1)).map (sy N)),.lst ((T.map (·.1)).map (sy N)),.dct (ad N L0),sy N u.1,sy N u.2.1,tw N u.2.2.1,tw N u.2.2.2]):=o8 (fQ (aO rfl rfl ((aIb H hu1 hT).trans (by rw[bj ht1];rfl)))) rfl;have s1:cb1 [prD N K M T R,.dct (sn N S),.dct (hdD N (M++T.map tr)),.lst ((M.map (·.1)).map (sy N)),.lst ((T.map (·.1)).map (sy N)),.dct (ad N L0),sy N u.1,sy N u.2.1,tw N u.2.2.1,tw N u.2.2.2]=.ok (.nx [prD N K M T R,.dct (sn N S),.dct (hdD N (M++T.map tr)),.lst ((M.map (·.1)).map (sy N)),.lst ((T.map (·.1)).map (sy N)),.dct (ad N L0),sy N u.1,sy N u.2.1,tw N u.2.2.1,tw N u.2.2.2]):=o8 (fQ (aO rfl rfl ((aIb H hu2 hM).trans (by rw[bj hr1];rfl)))) rfl;have s2:cb2 [prD N K M T R,.dct (sn N S),.dct (hdD N (M++T.map tr)),.lst ((M.map (·.1)).map (sy N)),.lst ((T.map (·.1)).map (sy N)),.dct (ad N L0),sy N u.1,sy N u.2.1,tw N u.2.2.1,tw N u.2.2.2]=.ok (.nx [prD N K M T R,.dct (sn N S),.dct (hdD N (M++T.map tr)),.lst ((M.map (·.1)).map (sy N)),.lst ((T.map (·.1)).map (sy N)),.dct (ad N L0),sy N u.1,sy N u.2.1,tw N u.2.2.1,tw N u.2.2.2]):=o8 (fQ (aO (aO (aO rfl rfl gM) rfl rfl) (aO (aO (aO rfl rfl gT) rfl rfl) rfl (aGn rfl rfl)) ((aD9 H.len H.nd f2 (hk▸f2)).trans (by rw[bj hk];rfl)))) rfl;have s3:cb3 [prD N K M T R,.dct (sn N S),.dct (hdD N (M++T.map tr)),.lst ((M.map (·.1)).map (sy N)),.lst ((T.map (·.1)).map (sy N)),.dct (ad N L0),sy N u.1,sy N u.2.1,tw N u.2.2.1,tw N u.2.2.2]=.ok (.nx [prD N K M T R,.dct (sn N S),.dct (hdD N (M++T.map tr)),.lst ((M.map (·.1)).map (sy N)),.lst ((T.map (·.1)).map (sy N)),.dct (ad N L0),sy N u.1,sy N u.2.1,tw N u.2.2.1,tw N u.2.2.2]):=by
    refine o8 (fQ (aO (eE (aD rfl 0xb) (by rw[bN];simp)) rfl ?_)) rfl;show(if lQ (ad N L0) (pD N (pq u)) then τ (ο (bH (ad N L0) (pD N (pq u))).isSome) else .bad)=_;rw[aIf,k1];rfl
   have s4:cb4 [prD N K M T R,.dct (sn N S),.dct (hdD N (M++T.map tr)),.lst ((M.map (·.1)).map (sy N)),.lst ((T.map (·.1)).map (sy N)),.dct (ad N L0),sy N u.1,sy N u.2.1,tw N u.2.2.1,tw N u.2.2.2]=.ok (.nx [prD N K M T R,.dct (sn N S),.dct (hdD N (M++T.map tr)),.lst ((M.map (·.1)).map (sy N)),.lst ((T.map (·.1)).map (sy N)),.dct (ad N (L0++[pq u])),sy N u.1,sy N u.2.1,tw N u.2.2.1,tw N u.2.2.2]):=by
    rw[<-k2];exact aAy rfl (eE (aD rfl 0xb) (by rw[bN];simp)) rfl (by unfold ad;rw[br,bN];lia) (aIf ..) rfl
   have s5:cb5 [prD N K M T R,.dct (sn N S),.dct (hdD N (M++T.map tr)),.lst ((M.map (·.1)).map (sy N)),.lst ((T.map (·.1)).map (sy N)),.dct (ad N (L0++[pq u])),sy N u.1,sy N u.2.1,tw N u.2.2.1,tw N u.2.2.2]=.ok (.nx [prD N K M T R,.dct (sn N S),.dct (hdD N (M++T.map tr)),.lst ((M.map (·.1)).map (sy N)),.lst ((T.map (·.1)).map (sy N)),.dct (ad N (L0++[pq u])),sy N u.1,sy N u.2.1,tw N u.2.2.1,tw N u.2.2.2]):=vG (aX (aD rfl (aD rfl (aD (aO (aO rfl rfl gT) rfl rfl) (aD (aX (aD rfl (aD rfl (aD rfl (aD rfl 0xb)))) ((cF rfl).trans kne)) rfl)))) ((cF rfl).trans wke));exact b_ rfl (aN s0 (aN s1 (aN s2 (aN s3 (aN s4 s5))))) q
 obtain⟨a,b,c,d,L1,q⟩:=loop R [] (λ_ h=>h) (by simpa using hn) (λp hp=>by simp at hp) (by simp;lia) .uD .uD .uD .uD;refine aDb (ρ':=[prD N K M T R,.dct (sn N S),.dct (hdD N (M++T.map tr)),.lst ((M.map (·.1)).map (sy N)),.lst ((T.map (·.1)).map (sy N)),.dct (ad N L1),a,b,c,d]) ?_;refine aN (ρ':=[prD N K M T R,.dct (sn N S),.dct (hdD N (M++T.map tr)),.uD,.uD,.uD,.uD,.uD,.uD,.uD]) (cC (i:=2) (aX 0xb ((cF rfl).trans (JH H.len H.nd hF)))) ?_;refine aN (ρ':=[prD N K M T R,.dct (sn N S),.dct (hdD N (M++T.map tr)),.lst ((M.map (·.1)).map (sy N)),.uD,.uD,.uD,.uD,.uD,.uD]) (cC (i:=3) ?_) ?_
 .rw[eI];exact zR (n:=10) (k:=aj) (rwD N) (λr=>sy N r.1) M rfl (dB (aO rfl rfl rfl)) 0x1 λr hr=>⟨(aD8 (i:=10) (r:=r) rfl).1,rfl⟩
 refine aN (ρ':=[prD N K M T R,.dct (sn N S),.dct (hdD N (M++T.map tr)),.lst ((M.map (·.1)).map (sy N)),.lst ((T.map (·.1)).map (sy N)),.uD,.uD,.uD,.uD,.uD]) (cC (i:=4) ?_) ?_
 .have e:(T.map (·.1)).map (sy N)=T.map (λr=>sy N r.1):=by rw[eI];rfl
  rw[e];exact zR (n:=10) (k:=aj) (tkD N) (λr=>sy N r.1) T rfl (dB (aO rfl rfl rfl)) 0x1 λr hr=>⟨(aQc (i:=10) (t:=r) rfl).1,rfl⟩
 refine aN (ρ':=[prD N K M T R,.dct (sn N S),.dct (hdD N (M++T.map tr)),.lst ((M.map (·.1)).map (sy N)),.lst ((T.map (·.1)).map (sy N)),.dct [],.uD,.uD,.uD,.uD]) (uO (i:=5) rfl rfl) ?_;exact lJ ((dB (aO rfl rfl rfl)).trans (by rw[cD (nY N)])) q
end
def ZK{fr:aw}(h:a ρ=.ok (.lst xs)):bW a fr ρ=.ok (xs,fr):=by
 unfold bW;rw[h,θ];show τ (xs,fr||false)=_;rw[vb]
section
variable (H:Nms N)
include H
theorem aIh(hp:p.1<26/\p.2<26):∀L:ae (ah×ah),(∀q∈L,q.1<26/\q.2<26)->p∈L->(L.map (pD N)).any (λy=>eqD y (pD N p))=ag
 |[],_,h=>by simp at h
 |q::L,h1,h=>by
  rw[bh,js,aQg H (h1 q (bE ..)) hp];rcases bq.mp h with e|e
  .rw[bj e.symm];rfl
  .rw[aIh hp L (λx hx=>h1 x (bX _ hx)) e,Cd]
theorem ZL(hM:∀r∈M,r.1<26/\r.2.1<26)(hT:∀t∈T,t.1<26/\t.2.2.1<26)(hR:∀u∈R,u.1<26/\u.2.1<26)(hp:∀p∈prT T M,p∈R.map pq)(hMl:M.length<=100)(hRl:R.length<=100):gB [prD N K M T R]=.ok .non:=by
 let inb:FS:=sIf (bTB (b2 (gG .notin) (jR (aC fL (aC lM aW))) c7)) vU jT
 have hRq:∀q∈R.map pq,q.1<26/\q.2<26:=λq hq=>by obtain⟨u,hu,rfl⟩:=cS.mp hq;exact hR u hu
 have inner:∀(t:Tk),t∈T->∀(L:ae Rw),(∀r∈L,r∈M/\r.2.1=t.2.2.1)->∀x:D,∃x',nG (tg1 6) inb (L.map λr=>sy N r.1) [prD N K M T R,.lst ((R.map pq).map (pD N)),sy N t.1,sy N t.2.1,sy N t.2.2.1,.tup (t.2.2.2.map (sy N)),x]=.ok (.nx [prD N K M T R,.lst ((R.map pq).map (pD N)),sy N t.1,sy N t.2.1,sy N t.2.2.1,.tup (t.2.2.2.map (sy N)),x']):=by
  intro t ht L;induction L with
  |nil=>exact λ_ x=>⟨x,rfl⟩
  |cons r L ih=>
   intro hL x;obtain⟨hr,hk⟩:=hL r (bE ..);obtain⟨x',q⟩:=ih (λy hy=>hL y (bX _ hy)) (sy N r.1);refine⟨x',?_⟩;rw[bh];have hin:((t.1,r.1):ah×ah)∈R.map pq:=hp _ (by
    unfold prT prs;rw[List.mem_flatMap];exact⟨t,ht,cS.mpr ⟨r,sB.mpr ⟨hr,bj hk⟩,rfl⟩⟩)
   refine b_ rfl (o8 (fQ (aO (eE (aD rfl 0xb) (by rw[bN];simp)) rfl ?_)) rfl) q;show(if (pD N (t.1,r.1)).iG 12&&π 12 ((R.map pq).map (pD N)) then τ (ο (!((R.map pq).map (pD N)).any λy=>eqD y (pD N (t.1,r.1)))) else .bad)=_;rw[aDc,WT,aIh H ⟨(hT t ht).1,(hM r hr).1⟩ _ hRq hin];rfl
 have outer:∀(L:ae Tk),(∀t∈L,t∈T)->∀a b c d x:D,∃a' b' c' d' x',nG (tgN [2,3,4,5]) (O3 (bW (fO 7 (bW (b2 getD cT fM) aj) (aJe 3) (bTB (b2 (gG .eq) aJc lF)) n6 aj) ag) (tg1 6) inb) (L.map (tkD N)) [prD N K M T R,.lst ((R.map pq).map (pD N)),a,b,c,d,x]=.ok (.nx [prD N K M T R,.lst ((R.map pq).map (pD N)),a',b',c',d',x']):=by
  intro L;induction L with
  |nil=>exact λ_ a b c d x=>⟨a,b,c,d,x,rfl⟩
  |cons t L ih=>
   intro hL a b c d x;have ht:=hL t (bE ..);obtain⟨x1,q1⟩:=inner t ht (M.filter λr=>ϒ (r.2.1=t.2.2.1)) (λr hr=>by
    have:=sB.mp hr;exact⟨this.1,dy this.2⟩) x
   obtain⟨a',b',c',d',x',q⟩:=ih (λy hy=>hL y (bX _ hy)) (sy N t.1) (sy N t.2.1) (sy N t.2.2.1) (.tup (t.2.2.2.map (sy N))) x1;refine⟨a',b',c',d',x',?_⟩;rw[bh];refine b_ rfl (lJ (ZK (aGt (λr=>sy N r.1) (λr=>ϒ (r.2.1=t.2.2.1)) M rfl (dB (aO rfl rfl rfl)) 0x1 (λr hr=>fQ (aO rfl rfl (aQb H.len H.nd (hM r hr).2 (hT t ht).2))) (λr hr _=>⟨rfl,rfl⟩))) q1) q
 obtain⟨a,b,c,d,x,q⟩:=outer T (λ_ h=>h) .uD .uD .uD .uD .uD;refine aDb (ρ':=[prD N K M T R,.lst ((R.map pq).map (pD N)),a,b,c,d,x]) ?_;refine aN (ρ':=[prD N K M T R,.lst ((R.map pq).map (pD N)),.uD,.uD,.uD,.uD,.uD]) (cC (i:=1) ?_) ?_
 .rw[eI];exact zR (n:=7) (k:=aj) (ruD N) (λu=>pD N (pq u)) R rfl (dB (aO rfl rfl rfl)) 0x1 λu hu=>⟨eE (aD (aIg (i:=7) (u:=u) rfl).1 (aD (aIg (i:=7) (u:=u) rfl).2 rfl)) (by rw[bN];simp),rfl⟩
 exact lJ ((dB (aO rfl rfl rfl)).trans (by rw[cD (vC N)])) q
end
structure Snd(K:ae ah)(M:ae Rw)(T:ae Tk):Prop where
 nd:(K++M.map (·.1)++T.map (·.1)).Nodup
 lt:∀i∈K++M.map (·.1)++T.map (·.1),i<26/\¬(13<=i/\i<18)
 ln:K.length<=50/\M.length<=50/\T.length<=50
 hm:∀r∈M,r.2.1∈K/\(∀i∈r.2.2,i∈K)/\r.2.2.length<=9
 ht:∀t∈T,t.2.1∈K/\t.2.2.1∈K/\(∀i∈t.2.2.2,i∈K)/\t.2.2.2.length<=8
section
variable (H:Nms N)
include H
theorem aDe(a b:ae ah)(h:a.length+b.length<=1000):aB5 (tw N a) (tw N b)=.ok (tw N (a++b)):=by
 show(if ϒ ((a.map (sy N)).length+(b.map (sy N)).length<=lim) then τ (μ (a.map (sy N)++b.map (sy N))) else .bad)=_;rw[br,br,bN,bj 0x1,<-dL];rfl
theorem aU2:∀(L S:ae ah),(S++L).Nodup->(∀i∈S++L,i<26)->S.length+L.length<=500->∀a:D,∃a',nG (tg1 2) (aBq 1 fL) (L.map (sy N)) [P,.dct (sn N S),a,b,c,d,e]=.ok (.nx [P,.dct (sn N (S++L)),a',b,c,d,e])
 |[],S,_,_,_,a=>⟨a,by rw[dQ];rfl⟩
 |i::L,S,h1,h2,h3,a=>by
  rw[bz] at h3;obtain⟨a',q⟩:=aU2 (P:=P) (b:=b) (c:=c) (d:=d) (e:=e) L (S++[i]) (by rw[cr];exact h1) (by rw[cr];exact h2) (by rw[b6,eR];lia) (sy N i);rw[cr] at q;have hn:i∉S:=λhm=>by
   rw[eS] at h1;exact h1.2.2 _ hm _ (bE ..) rfl
  refine⟨a',?_⟩;rw[bh];exact b_ (ρ1:=[P,.dct (sn N S),sy N i,b,c,d,e]) rfl (WP H (λk hk=>h2 k (fy _ hk)) 0x1 (h2 i 0x2) hn (j:=1) rfl rfl) q
theorem aU3(hK:∀i∈K,i<26):∀(L:ae Rw)(S:ae ah),(S++L.map (·.1)).Nodup->(∀i∈S++L.map (·.1),i<26)->S.length+L.length<=500->(∀r∈L,r.2.1∈K/\(∀i∈r.2.2,i∈K)/\r.2.2.length<=9)->∀a b c:D,∃a' b' c',nG (tgN [2,3,4]) (bU (aBq 1 fL) (vR (aQ (cU 2 dO) (aC cT (aC (b2 aB5 (jR (aC fB aW)) lF) aW))))) (L.map (rwD N)) [.tup [tw N K,P1,P2,P3],.dct (sn N S),a,b,c,d,e]=.ok (.nx [.tup [tw N K,P1,P2,P3],.dct (sn N (S++L.map (·.1))),a',b',c',d,e])
 |[],S,_,_,_,_,a,b,c=>⟨a,b,c,by rw[show S++d5 (λx:Rw=>x.1) []=S from dQ S];rfl⟩
 |r::L,S,h1,h2,h3,h4,a,b,c=>by
  rw[bz] at h3;rw[bh] at h1 h2;obtain⟨k1,k2,k3⟩:=h4 r (bE ..);obtain⟨a',b',c',q⟩:=aU3 (P1:=P1) (P2:=P2) (P3:=P3) hK (d:=d) (e:=e) L (S++[r.1]) (by rw[cr];exact h1) (by rw[cr];exact h2) (by rw[b6,eR];lia) (λx hx=>h4 x (bX _ hx)) (sy N r.1) (sy N r.2.1) (tw N r.2.2);rw[cr] at q;have hn:r.1∉S:=λhm=>by
   rw[eS] at h1;exact h1.2.2 _ hm _ (bE ..) rfl
  refine⟨a',b',c',?_⟩;rw[bh,bh];refine b_ (ρ1:=[.tup [tw N K,P1,P2,P3],.dct (sn N S),sy N r.1,sy N r.2.1,tw N r.2.2,d,e]) rfl (aN (WP H (λk hk=>h2 k (fy _ hk)) 0x1 (h2 r.1 0x2) hn (j:=1) rfl rfl) (vG (aX (aD rfl (aD (aO (x:=tw N [r.2.1]) (y:=tw N r.2.2) (eE 0xb (by rw[bN];simp)) rfl (aDe H _ _ (by simp;lia))) rfl)) ((cF rfl).trans (WQ H hK λi hi=>?_))))) q;rcases d6.mp hi with g|g
  .rw[ja] at g;subst g;exact k1
  .exact k2 i g
theorem aU4(hK:∀i∈K,i<26):∀(L:ae Tk)(S:ae ah),(S++L.map (·.1)).Nodup->(∀i∈S++L.map (·.1),i<26)->S.length+L.length<=500->(∀t∈L,t.2.1∈K/\t.2.2.1∈K/\(∀i∈t.2.2.2,i∈K)/\t.2.2.2.length<=8)->∀a b c d e:D,∃a' b' c' d' e',nG (tgN [2,3,5,6]) (bU (aBq 1 fL) (vR (aQ (cU 2 dO) (aC cT (aC (b2 aB5 (jR (aC fB (aC nF aW))) lM) aW))))) (L.map (tkD N)) [.tup [tw N K,P1,P2,P3],.dct (sn N S),a,b,c,d,e]=.ok (.nx [.tup [tw N K,P1,P2,P3],.dct (sn N (S++L.map (·.1))),a',b',c',d',e'])
 |[],S,_,_,_,_,a,b,c,d,e=>⟨a,b,c,d,e,by rw[show S++d5 (λx:Tk=>x.1) []=S from dQ S];rfl⟩
 |t::L,S,h1,h2,h3,h4,a,b,c,d,e=>by
  rw[bz] at h3;rw[bh] at h1 h2;obtain⟨k1,k2,k3,k4⟩:=h4 t (bE ..);obtain⟨a',b',c',d',e',q⟩:=aU4 (P1:=P1) (P2:=P2) (P3:=P3) hK L (S++[t.1]) (by rw[cr];exact h1) (by rw[cr];exact h2) (by rw[b6,eR];lia) (λx hx=>h4 x (bX _ hx)) (sy N t.1) (sy N t.2.1) c (sy N t.2.2.1) (tw N t.2.2.2);rw[cr] at q;have hn:t.1∉S:=λhm=>by
   rw[eS] at h1;exact h1.2.2 _ hm _ (bE ..) rfl
  refine⟨a',b',c',d',e',?_⟩;rw[bh,bh];refine b_ (ρ1:=[.tup [tw N K,P1,P2,P3],.dct (sn N S),sy N t.1,sy N t.2.1,c,sy N t.2.2.1,tw N t.2.2.2]) rfl (aN (WP H (λk hk=>h2 k (fy _ hk)) 0x1 (h2 t.1 0x2) hn (j:=1) rfl rfl) (vG (aX (aD rfl (aD (aO (x:=tw N [t.2.1,t.2.2.1]) (y:=tw N t.2.2.2) (eE (aD rfl 0xb) (by rw[bN];simp)) rfl (aDe H _ _ (by simp;lia))) rfl)) ((cF rfl).trans (WQ H hK λi hi=>?_))))) q;rcases d6.mp hi with g|g
  .simp at g;rcases g with g|g<;>subst g
   .exact k1
   .exact k2
  .exact k3 i g
theorem aGv(K:ae ah)(M:ae Rw)(T:ae Tk)(R:ae Ru):(prD N K M T R).pure=ag:=by
 show((tw N K).pure&&((μ (M.map (rwD N))).pure&&((μ (T.map (tkD N))).pure&&((μ (R.map (ruD N))).pure&&ag))))=ag;rw[zV,ξ,ξ,ξ,cD (zT N),cD (vC N),cD (nY N)];rfl
theorem aGw(W:Snd K M T)(hs:∀r∈Hd,r∈M++T.map tr)(hR:∀u∈R,GdR M T Hd u)(hn:(R.map pq).Perm (prT T M))(hpn:(prT T M).Nodup)(hRl:R.length<=100):uU [prD N K M T R]=.ok (prD N K M T R):=by
 obtain⟨l1,l2,l3⟩:=W.ln;have lt26:∀i∈K++M.map (·.1)++T.map (·.1),i<26:=λi hi=>(W.lt i hi).1
 have hK:∀i∈K,i<26:=λi hi=>lt26 i (by simp[hi])
 have hM1:∀r∈M,r.1<26:=λr hr=>lt26 _ (fy _ (dA _ (gh (f:=(·.1)) hr)))
 have hT1:∀t∈T,t.1<26:=λt ht=>lt26 _ (dA _ (gh (f:=(·.1)) ht))
 have nd:=W.nd;have ndF:((M++T.map tr).map (·.1)).Nodup:=by
  have e:(M++T.map tr).map (·.1)=M.map (·.1)++T.map (·.1):=by rw[dL,eI];rfl
  rw[e];rw[cr,eS] at nd;exact nd.2.1
 have hF:Hds (M++T.map tr):=by
  refine⟨ndF,λr hr=>?_,by rw[b6,br];lia⟩;rcases d6.mp hr with g|g
  .obtain⟨a,b,c⟩:=W.hm r g;exact⟨hM1 r g,hK _ a,λi hi=>hK _ (b i hi),by lia⟩
  .obtain⟨t,ht,rfl⟩:=cS.mp g;obtain⟨a,b,c,d⟩:=W.ht t ht;refine⟨hT1 t ht,hK _ a,λi hi=>?_,by show(t.2.2.1::t.2.2.2).length<=10;rw[bz];lia⟩;rcases bq.mp hi with q|q
   .exact q▸hK _ b
   .exact hK _ (c i q)
 have hRn:(R.map pq).Nodup:=hn.nodup_iff.mpr hpn;have rok:=aGu H (K:=K) hF hs hR hRn hRl (S:=K++M.map (·.1)++T.map (·.1)) W.lt (by simp;lia) (λr hr=>by
  rcases d6.mp hr with g|g
  .exact(W.lt _ (fy _ (dA _ (gh (f:=(·.1)) g)))).2
  .obtain⟨t,ht,rfl⟩:=cS.mp g;exact(W.lt _ (dA _ (gh (f:=(·.1)) ht))).2)
 have lok:=ZL H (K:=K) (M:=M) (T:=T) (R:=R) (λr hr=>⟨hM1 r hr,hK _ (W.hm r hr).1⟩) (λt ht=>⟨hT1 t ht,hK _ (W.ht t ht).2.1⟩) (λu hu=>by
  obtain⟨t,ht,r,hr,_,Q⟩:=hR u hu;rw[Q.n1,Q.n2];exact⟨hT1 t ht,hM1 r hr⟩) (λp hp=>hn.mem_iff.mpr hp) 0x1 hRl
 obtain⟨a1,q1⟩:=aU2 H (P:=prD N K M T R) (b:=.uD) (c:=.uD) (d:=.uD) (e:=.uD) K [] (by rw[cr,eS] at nd;simpa using nd.1) (by simpa using hK) (by simp;lia) .uD;obtain⟨a2,b2,c2,q2⟩:=aU3 H (K:=K) (P1:=.tup (M.map (rwD N))) (P2:=.tup (T.map (tkD N))) (P3:=.tup (R.map (ruD N))) hK (d:=.uD) (e:=.uD) M K (by rw[eS] at nd;exact nd.1) (λi hi=>lt26 i (fy _ hi)) 0x1 W.hm a1 .uD .uD;obtain⟨a3,b3,c3,d3,e3,q3⟩:=aU4 H (K:=K) (P1:=.tup (M.map (rwD N))) (P2:=.tup (T.map (tkD N))) (P3:=.tup (R.map (ruD N))) hK T (K++M.map (·.1)) nd lt26 (by simp;lia) W.ht a2 b2 c2 .uD .uD;rw[fS] at q1;refine call_v ?_;refine aN (ρ':=[prD N K M T R,.dct (sn N []),.uD,.uD,.uD,.uD,.uD]) (uO (i:=1) (d:=.dct (sn N [])) rfl (aLy N [])) ?_;refine aN (lJ ((dB (aO rfl rfl rfl)).trans (by rw[cR])) q1) ?_;refine aN (lJ ((dB (aO rfl rfl rfl)).trans (by rw[cD (zT N)])) q2) ?_;refine aN (lJ ((dB (aO rfl rfl rfl)).trans (by rw[cD (vC N)])) q3) ?_;refine aN (vG (aX (aD rfl 0xb) ((cF rfl).trans rok))) ?_;refine aN (vG (aX 0xb ((cF rfl).trans lok))) ?_;exact gJ rfl (aGv H K M T R)
end
noncomputable def ixs:ae ak:=[0,1,2,3,4,5,6,7,8,9,10,11,15,12,13,14,16,17,18,19,20,21,22,23,24,25]
def nmN(ns:ae ak):ae Str:=ixs.map λi=>wrd ns i
noncomputable def kM:ae Rw:=[(1,0,[]),(2,0,[0]),(3,0,[0,0])]
noncomputable def kT':ae Tk:=[(8,0,0,[]),(9,0,0,[0])]
noncomputable def kR:ae Ru:=[(8,1,[],[1]),(8,2,[13],[8,13]),(8,3,[13,14],[1]),(9,1,[15],[15]),(9,2,[13,15],[9,13,3,15,15]),(9,3,[13,14,15],[15])]
def sY(hn:ns.length<=63):Nms (nmN ns):=by
 have hb:∀i∈ixs,0<=i/\i<=25:=by decide
 have mem:∀{s:Str},s∈nmN ns->∃i∈ixs,s=wrd ns i:=λh=>by
  obtain⟨i,hi,e⟩:=cS.mp h;exact⟨i,hi,e.symm⟩
 have gd:∀i∈ixs,Good (wrd ns i):=λi hi=>(jN hn (hb i hi).1 (by have:=hb i hi;lia)).2.1
 refine⟨rfl,?_,λh=>?_,λh=>?_⟩
 .have hnd:ixs.Nodup:=by decide
  refine Dc.mpr (hnd.imp_of_mem λ{a b} ha hb' hab e=>hab ?_);exact aLg hn (hb a ha).1 (hb a ha).2 (hb b hb').1 (hb b hb').2 e
 .obtain⟨i,hi,e⟩:=mem h;exact(gd i hi).1 e.symm
 .obtain⟨i,hi,e⟩:=mem h;exact(gd i hi).2.1 e.symm
def aGx(a0 a1 a2 a3 a4 a5 a6 a7 a8 a9 a10 a11 a12 a13 a14 a15 a16 a17 a18 a19 a20 a21 a22 a23 a24 a25:Str):aD5 (rws a0 a1 a2 a3 a8 a9 a12 a13 a14)=prD [a0,a1,a2,a3,a4,a5,a6,a7,a8,a9,a10,a11,a15,a12,a13,a14,a16,a17,a18,a19,a20,a21,a22,a23,a24,a25] [0] kM kT' kR:=rfl
def aM0(ns:ae ak):aD5 (rws (wrd ns 0) (wrd ns 1) (wrd ns 2) (wrd ns 3) (wrd ns 8) (wrd ns 9) (wrd ns 12) (wrd ns 13) (wrd ns 14))=prD (nmN ns) [0] kM kT' kR:=by
 have e:nmN ns=[wrd ns 0,wrd ns 1,wrd ns 2,wrd ns 3,wrd ns 4,wrd ns 5,wrd ns 6,wrd ns 7,wrd ns 8,wrd ns 9,wrd ns 10,wrd ns 11,wrd ns 15,wrd ns 12,wrd ns 13,wrd ns 14,wrd ns 16,wrd ns 17,wrd ns 18,wrd ns 19,wrd ns 20,wrd ns 21,wrd ns 22,wrd ns 23,wrd ns 24,wrd ns 25]:=by unfold nmN ixs;rfl
 rw[e];exact aGx (wrd ns 0) (wrd ns 1) (wrd ns 2) (wrd ns 3) (wrd ns 4) (wrd ns 5) (wrd ns 6) (wrd ns 7) (wrd ns 8) (wrd ns 9) (wrd ns 10) (wrd ns 11) (wrd ns 12) (wrd ns 13) (wrd ns 14) (wrd ns 15) (wrd ns 16) (wrd ns 17) (wrd ns 18) (wrd ns 19) (wrd ns 20) (wrd ns 21) (wrd ns 22) (wrd ns 23) (wrd ns 24) (wrd ns 25)
def aSz:Snd [0] kM kT':=by
 refine⟨by decide,by decide,by decide,?_,?_⟩
 .unfold kM;decide
 .unfold kT';decide
def aQh:∀u∈kR,GdR kM kT' (kM++kT'.map tr) u:=by
 intro u hu;simp only[kR,bq,iF,or_false] at hu;rcases hu with rfl|rfl|rfl|rfl|rfl|rfl
 .refine⟨(8,0,0,[]),by decide,(1,0,[]),by decide,rfl,rfl,rfl,rfl,by decide,by decide,?_,by decide⟩;exact .step (r:=(1,0,[])) 0x4 .nil
 .refine⟨(8,0,0,[]),by decide,(2,0,[0]),by decide,rfl,rfl,rfl,rfl,by decide,by decide,?_,by decide⟩;exact .step (r:=(8,0,[0])) 0x4 (.step (r:=(13,0,[])) 0x4 .nil)
 .refine⟨(8,0,0,[]),by decide,(3,0,[0,0]),by decide,rfl,rfl,rfl,rfl,by decide,by decide,?_,by decide⟩;exact .step (r:=(1,0,[])) 0x4 .nil
 .refine⟨(9,0,0,[0]),by decide,(1,0,[]),by decide,rfl,rfl,rfl,rfl,by decide,by decide,?_,by decide⟩;exact .step (r:=(15,0,[])) 0x4 .nil
 .refine⟨(9,0,0,[0]),by decide,(2,0,[0]),by decide,rfl,rfl,rfl,rfl,by decide,by decide,?_,by decide⟩;exact .step (r:=(9,0,[0,0])) 0x4 (.step (r:=(13,0,[])) 0x4 (.step (r:=(3,0,[0,0])) 0x4 (.step (r:=(15,0,[])) 0x4 (.step (r:=(15,0,[])) 0x4 .nil))))
 .refine⟨(9,0,0,[0]),by decide,(3,0,[0,0]),by decide,rfl,rfl,rfl,rfl,by decide,by decide,?_,by decide⟩;exact .step (r:=(15,0,[])) 0x4 .nil
def aM1(hn:ns.length<=63):uU [prD (nmN ns) [0] kM kT' kR]=.ok (prD (nmN ns) [0] kM kT' kR):=aGw (sY hn) aSz (λ_ h=>h) aQh 0x4 0x4 0x4
def aV2(h1:x ρ=.ok aj)(h2:y ρ=r):bOr x y ρ=r:=by
 unfold bOr;rw[h1,θ];exact h2
def aM2(h:ρ.getD i .uD=d)(hd:d≠.uD):eZ i ρ=.ok d:=by
 unfold eZ;rw[h];cases d<;>first|rfl|exact aS rfl hd
def kF:ae Rw:=kM++kT'.map tr
noncomputable def kW(m:ah):ae ah:=9::(bi 5 2++8::(bi m 2++1::(bi 10 2++[1])))
def ZM:Hds kF:=⟨by decide,by unfold kF kM kT';decide,by decide⟩
def JL{rest W:ae ah}(h:Run kF (0::rest) W):∀n:ah,Run kF (0::rest) (bi n 2++W)
 |0=>h
 |n+1=>by
  rw[ip,mh];exact .step (r:=(2,0,[0])) 0x4 (JL h n)
def aQi(m:ah):Run kF [0] (kW m):=by
 refine .step (r:=(9,0,[0,0])) 0x4 ?_;refine JL ?_ 5;refine .step (r:=(8,0,[0])) 0x4 ?_;refine JL ?_ m;refine .step (r:=(1,0,[])) 0x4 ?_;refine JL ?_ 10;exact .step (r:=(1,0,[])) 0x4 .nil
def N5(m:ah):(kW m).length=19+m:=by simp[kW];lia
def aIi(h:i∈kW m):i<26:=by
 simp only[kW,bq,d6,Aj,iF,or_false] at h;lia
noncomputable def txW(N:ae Str)(W:ae ah):ae Str:=W.map λi=>N.getD i ""
def aQj(N:ae Str)(W:ae ah):tw N W=.tup ((txW N W).map ε):=by
 unfold tw txW;rw[eI];rfl
def WW(hn:ns.length<=63)(h:i<26):Nm ((nmN ns).getD i ""):=by
 have hN:=(sY hn).len;have:(nmN ns).getD i "" ∈ nmN ns:=by
  rw[cx,eh 0x1];exact vS _
 obtain⟨j,hj,e⟩:=cS.mp this;have hb:∀i∈ixs,0<=i/\i<=25:=by decide
 rw[<-e];exact SQ (jN hn (hb j hj).1 (by have:=hb j hj;lia)).2.1
def aQk(hn:ns.length<=63)(hm:m<40):cU 2 MN [prD (nmN ns) [0] kM kT' kR,.str (cj " " (txW (nmN ns) (kW m)))]=.ok (tw (nmN ns) (kW m)):=by
 have H:=sY hn;have hnm:∀w∈txW (nmN ns) (kW m),Nm w:=λw hw=>by
  obtain⟨i,hi,rfl⟩:=cS.mp hw;exact WW hn (aIi hi)
 have hl:(txW (nmN ns) (kW m)).length=19+m:=by unfold txW;rw[br,N5]
 have hne:txW (nmN ns) (kW m)≠[]:=λz=>by rw[z] at hl;simp at hl;lia
 have hfree:∀t∈txW (nmN ns) (kW m),32∉t.cps.toList:=λt ht h=>by have:=(hnm t ht).2.2 32 h;lia
 have hsp:Txt.split (cj " " (txW (nmN ns) (kW m))) " "=txW (nmN ns) (kW m):=uY hne hfree;have hjl:(cj " " (txW (nmN ns) (kW m))).length<=100000:=by
  have:=wL 32 8 (txW (nmN ns) (kW m)) λt ht=>(hnm t ht).2.1
  show(cj ⟨#[32]⟩ (txW (nmN ns) (kW m))).length<=100000;rw[hl] at this;lia
 have s1:=wO hjl hsp 0x1 rfl;have hd:=JH H.len H.nd ZM (P0:=tw (nmN ns) [0]) (P3:=.tup (kR.map (ruD (nmN ns))));have hh:=aDa H ZM (Hd:=kF) (λ_ h=>h) (ow:=[]) (be:=[]) rfl 0x2 0x2 (r:=(9,0,[0,0])) 0x4;have hw:=aDd H ZM (Hd:=kF) (λ_ h=>h) (ow:=[]) (be:=[]) rfl 0x2 0x2 0x2 (k:=0) (W:=kW m) (aQi m) (by rw[N5];lia);have na:=sV hnm 0x1;have lw:vQ [.tup ((txW (nmN ns) (kW m)).map ε)]=.ok (.int ((19+m:ah):ak)):=by
  show τ (ι (((txW (nmN ns) (kW m)).map ε).length:ak))=_;rw[br,hl]
 have c60:n_ .gt (.int ((19+m:ah):ak)) (.int 60)=.ok (.bl aj):=by
  show τ (ο (ϒ ((60:ak)<((19+m:ah):ak))))=_;rw[cq 0x1]
 have hget:getD (.tup ((txW (nmN ns) (kW m)).map ε)) (.int 0)=.ok (sy (nmN ns) 9):=aCy (n:=0) (w:=(nmN ns).getD 9 "") rfl;have hpu:(tw (nmN ns) (kW m)).pure=ag:=zV ..;rw[aQj] at hw hpu ⊢;generalize txW (nmN ns) (kW m)=ws at *;generalize cj " " ws=tx at *;refine(cF rfl).trans (call_v ?_);generalize hP:prD (nmN ns) [0] kM kT' kR=pr;have hd:dJ [pr]=.ok (.dct (hdD (nmN ns) kF)):=by rw[<-hP];exact hd
 have hpr:pr≠.uD:=λz=>by rw[<-hP] at z;cases z
 refine aN (ρ':=[pr,.str tx,.tup (ws.map ε),.uD]) (GX (i:=2) (aX (xs:=[.lst (ws.map ε)]) (aD (BL (x:=.str tx) (xs:=[.str " "]) rfl 0xb s1) rfl) rfl) hpu) ?_;refine aN (ρ':=[pr,.str tx,.tup (ws.map ε),.uD]) (o8 (aV2 (fQ (aO (aX (xs:=[.tup (ws.map ε)]) 0xb lw) rfl c60)) (WF (b:=ag) (aGg (aX (xs:=[.tup (ws.map ε)]) 0xb na)))) rfl) ?_;refine aN (ρ':=[pr,.str tx,.tup (ws.map ε),.dct (hdD (nmN ns) kF)]) (cC (i:=3) (aX (xs:=[pr]) (aD (aM2 rfl hpr) rfl) ((cF rfl).trans hd))) ?_;refine aN (ρ':=[pr,.str tx,.tup (ws.map ε),.dct (hdD (nmN ns) kF)]) (vG (d:=.non) (aX (xs:=[.dct (hdD (nmN ns) kF),.tup (ws.map ε),sy (nmN ns) 0,.dct []]) (aD rfl (aD rfl (aD (aO (x:=hdV (nmN ns) (9,0,[0,0])) (aX (xs:=[.dct (hdD (nmN ns) kF),sy (nmN ns) 9,.dct []]) (aD rfl (aD (aO rfl rfl hget) 0xb)) ((cF rfl).trans hh)) rfl rfl) 0xb))) ((cF rfl).trans hw))) ?_;exact gJ rfl hpu
def aDf{fr:aw}(h:a ρ=.ok (.tup xs)):bW a fr ρ=.ok (xs,fr||δ xs):=by
 unfold bW;rw[h,θ];show τ (xs,fr||(μ xs).pure)=_;rw[ξ]
def wR:∀{ps:ae D},(∀p∈ps,p.pure=ag)->δ ps=ag
 |[],_=>rfl
 |p::ps,h=>by rw[δ,h p 0x2,wR λq hq=>h q (by simp[hq])];rfl
def mkD(N:ae Str)(M:ae Rw):ae (D×D):=M.map λr=>(sy N r.1,.bl ag)
section
variable {N:ae Str} (hN:N.length=26) (hd:N.Nodup)
include hN hd
end
def mkE:FE:=(b1 U_ (fO 3 (bW (b2 getD c7 fM) aj) v6 gD (jR (aC (b2 getD fB g_) (aC (bC (.bl ag)) aW))) aj))
def ruE:FE:=(b1 G_ (fO 3 (bW (b2 getD c7 J7) aj) v6 gD (jR (aC (jR (aC (b2 getD fB g_) (aC (b2 getD fB fM) aW))) (aC fB aW))) aj))
def aT0:fJ=([("heads",.exp (aQ (cU 1 dJ) (aC c7 aW))),("makers",.exp mkE),("rules",.exp ruE),("most",.par 2),("calls",.exp g_),("copies",.exp g_),("drops",.exp g_)]:ae (Str×Srx)):=rfl
def WX:∀M:ae Rw,vM (M.map λr=>μ [sy N r.1,.bl ag])=aa (mkD N M)
 |[]=>rfl
 |r::M=>by
  show(if dZ (sy N r.1)&&(ο ag).pure then (vM (M.map λr=>μ [sy N r.1,.bl ag])).map ((sy N r.1,ο ag)::·) else ai)=_;rw[WX M];rfl
section
variable {N:ae Str} (hN:N.length=26) (hd:N.Nodup)
include hN hd
theorem WY:∀(M L:ae Rw),((L++M).map (·.1)).Nodup->(∀r∈L++M,r.1<26)->jM (mkD N L) (mkD N M)=mkD N (L++M)
 |[],L,_,_=>by rw[dQ];rfl
 |r::M,L,h1,h2=>by
  show jM (putD (mkD N L) (sy N r.1) (.bl ag)) (mkD N M)=_;have hnot:r.1∉L.map (·.1):=λz=>by
   rw[dL,eS] at h1;exact h1.2.2 r.1 z r.1 0x2 rfl
  have e:=nZ hN hd (λa:Rw=>a.1) (λ_=>ο ag) (h2 r 0x2) (.bl ag) L (λa ha=>h2 a (by simp[ha])) hnot;have e':putD (mkD N L) (sy N r.1) (.bl ag)=mkD N (L++[r]):=by
   show putD (L.map λa=>(sy N a.1,ο ag)) (sy N r.1) (.bl ag)=_;rw[e];unfold mkD;rw[dL];rfl
  rw[e',WY M (L++[r]) (by simpa using h1) (by simpa using h2)];simp
theorem aQl(hM:Hds M):mkE [.uD,.tup [P0,.tup (M.map (rwD N)),P2,P3],mo]=.ok (.dct (mkD N M)):=by
 have hl:=hM.ln;refine aGo (zR (rwD N) (λr:Rw=>μ [sy N r.1,.bl ag]) M rfl (aDf (aO rfl rfl rfl)) 0x1 λr hr=>⟨eE (aD (aD8 rfl).1 0xb) (by rw[bN];simp),rfl⟩) ?_;show(match vM (M.map λr:Rw=>μ [sy N r.1,.bl ag]) with|some ps=>if ϒ ((M.map λr:Rw=>μ [sy N r.1,.bl ag]).length<=1000) then τ (χ (jM [] ps)) else .bad|none=>.bad)=_;rw[WX];dsimp only;rw[aq (by rw[br];exact bj 0x1)];have:=WY hN hd M [] hM.nd λr hr=>(hM.lt r hr).1
 rw[fS] at this;exact c5 (λz=>τ (χ z)) this
end
def rlD(N:ae Str)(R:ae Ru):ae (D×D):=R.map λr=>(.tup [sy N r.1,sy N r.2.1],ruD N r)
structure Rls(R:ae Ru):Prop where
 nd:(R.map λr=>(r.1,r.2.1)).Nodup
 lt:∀r∈R,r.1<26/\r.2.1<26
 ln:R.length<=100
def W0:∀R:ae Ru,yQ (R.map λr=>μ [.tup [sy N r.1,sy N r.2.1],ruD N r])=aa (rlD N R)
 |[]=>rfl
 |r::R=>by
  show(if [sy N r.1,sy N r.2.1].all dZ&&(ruD N r).pure then (yQ (R.map λr=>μ [.tup [sy N r.1,sy N r.2.1],ruD N r])).map ((μ [sy N r.1,sy N r.2.1],ruD N r)::·) else ai)=_;rw[W0 R,nY];rfl
section
variable {N:ae Str} (hN:N.length=26) (hd:N.Nodup)
include hN hd
theorem aDg(ha:a<26)(hb:b<26)(hc:c<26)(he:d<26):eqD (.tup [sy N a,sy N b]) (.tup [sy N c,sy N d])=ϒ ((a,b)=(c,d)):=by
 show(eqD (sy N a) (sy N c)&&(eqD (sy N b) (sy N d)&&ag))=_;rw[vA hN hd ha hc,vA hN hd hb he,om];by_cases h:a=c<;>by_cases h2:b=d<;>simp[h,h2]
theorem aIj(hi:i<26)(hj:j<26)(v:D):∀(L:ae Ru),(∀r∈L,r.1<26/\r.2.1<26)->(i,j)∉(L.map λr=>(r.1,r.2.1))->putD (rlD N L) (.tup [sy N i,sy N j]) v=rlD N L++[(.tup [sy N i,sy N j],v)]
 |[],_,_=>rfl
 |a::L,h1,h2=>by
  rw[bh,bq,fE] at h2;have ha:=h1 a (bE ..);show(if eqD (.tup [sy N a.1,sy N a.2.1]) (.tup [sy N i,sy N j]) then _ else (μ [sy N a.1,sy N a.2.1],ruD N a)::putD (rlD N L) (.tup [sy N i,sy N j]) v)=_;rw[aDg hN hd ha.1 ha.2 hi hj,cq (λg=>h2.1 g.symm),ax 0x2,aIj hi hj v L (λb hb=>h1 b (bX _ hb)) h2.2];rfl
theorem W2:∀(R L:ae Ru),((L++R).map λr=>(r.1,r.2.1)).Nodup->(∀r∈L++R,r.1<26/\r.2.1<26)->jM (rlD N L) (rlD N R)=rlD N (L++R)
 |[],L,_,_=>by rw[dQ];rfl
 |r::R,L,h1,h2=>by
  show jM (putD (rlD N L) (.tup [sy N r.1,sy N r.2.1]) (ruD N r)) (rlD N R)=_;have hnot:(r.1,r.2.1)∉(L.map λr=>(r.1,r.2.1)):=λz=>by
   rw[dL,eS] at h1;exact h1.2.2 (r.1,r.2.1) z (r.1,r.2.1) 0x2 rfl
  have hr:=h2 r 0x2;have e':putD (rlD N L) (.tup [sy N r.1,sy N r.2.1]) (ruD N r)=rlD N (L++[r]):=by
   rw[aIj hN hd hr.1 hr.2 _ L (λb hb=>h2 b (by simp[hb])) hnot];unfold rlD;rw[dL];rfl
  rw[e',W2 R (L++[r]) (by simpa using h1) (by simpa using h2)];simp
theorem aDh:∀(R:ae Ru),(R.map λr=>(r.1,r.2.1)).Nodup->(∀r∈R,r.1<26/\r.2.1<26)->∀r∈R,bH (rlD N R) (.tup [sy N r.1,sy N r.2.1])=aa (ruD N r)
 |[],_,_,r,hr=>by simp at hr
 |b::L,h1,h2,a,ha=>by
  have hb:=h2 b (bE ..);have hA:=h2 a ha;show(if eqD (.tup [sy N b.1,sy N b.2.1]) (.tup [sy N a.1,sy N a.2.1]) then aa (ruD N b) else bH (rlD N L) (.tup [sy N a.1,sy N a.2.1]))=_;rw[aDg hN hd hb.1 hb.2 hA.1 hA.2];rw[bh,eg] at h1;rcases bq.mp ha with e|e
  .subst e;rw[bj rfl,aq rfl]
  .have:¬(b.1,b.2.1)=(a.1,a.2.1):=λg=>h1.1 (g▸gh e)
   rw[cq this,ax 0x2,aDh L h1.2 (λr hr=>h2 r (bX _ hr)) a e]
theorem aQm(hR:Rls R)(hr:r∈R):getD (.dct (rlD N R)) (.tup [sy N r.1,sy N r.2.1])=.ok (ruD N r):=by
 show(if keyOk (.tup [sy N r.1,sy N r.2.1])=ag then ν (bH (rlD N R) (.tup [sy N r.1,sy N r.2.1])) else .bad)=_;rw[aq 0x3,aDh hN hd R hR.nd hR.lt r hr];rfl
theorem aQn(hR:Rls R):ruE [.uD,.tup [P0,P1,P2,.tup (R.map (ruD N))],mo]=.ok (.dct (rlD N R)):=by
 have hl:=hR.ln;refine aGo (zR (ruD N) (λr:Ru=>μ [.tup [sy N r.1,sy N r.2.1],ruD N r]) R rfl (aDf (aO rfl rfl rfl)) 0x1 λr hr=>⟨eE (aD (eE (aD (aO rfl rfl rfl) (aD (aO rfl rfl rfl) rfl)) (by rw[bN];simp)) 0xb) (by rw[bN];simp),?_⟩) ?_
 .show(aj||((μ [sy N r.1,sy N r.2.1]).pure&&((ruD N r).pure&&ag)))=ag;rw[nY];rfl
 .show(match yQ (R.map λr:Ru=>μ [.tup [sy N r.1,sy N r.2.1],ruD N r]) with|some ps=>if ϒ ((R.map λr:Ru=>μ [.tup [sy N r.1,sy N r.2.1],ruD N r]).length<=1000) then τ (χ (jM [] ps)) else .bad|none=>.bad)=_;rw[W0];dsimp only;rw[aq (by rw[br];exact bj 0x1)];have:=W2 hN hd R [] hR.nd hR.lt;rw[fS] at this;exact c5 (λz=>τ (χ z)) this
theorem JM(F:ae Rw):δ ((hdD N F).map (·.2))=ag:=wR λp hp=>by
 unfold hdD at hp;rw[eI] at hp;obtain⟨r,_,rfl⟩:=cS.mp hp;exact wQ N r
theorem JN(M:ae Rw):δ ((mkD N M).map (·.2))=ag:=wR λp hp=>by
 unfold mkD at hp;rw[eI] at hp;obtain⟨r,_,rfl⟩:=cS.mp hp;rfl
theorem JP(R:ae Ru):δ ((rlD N R).map (·.2))=ag:=wR λp hp=>by
 unfold rlD at hp;rw[eI] at hp;obtain⟨r,_,rfl⟩:=cS.mp hp;exact nY N r
def aMo(N:ae Str)(ks:ae ah)(M:ae Rw)(T:ae Tk)(R:ae Ru):D:=.tup [.tup (ks.map (sy N)),.tup (M.map (rwD N)),.tup (T.map (tkD N)),.tup (R.map (ruD N))]
theorem aDi(hF:Hds (M++T.map tr))(hM:Hds M)(hR:Rls R):evS [.uD,aMo N ks M T R,.int b] fJ=.ok (prF (hdD N (M++T.map tr)) (mkD N M) (rlD N R) b ⟨0,0,0⟩):=by
 have h3:=aQn hN hd hR (P0:=.tup (ks.map (sy N))) (P1:=.tup (M.map (rwD N))) (P2:=.tup (T.map (tkD N))) (mo:=.int b);have h1:aQ (cU 1 dJ) (aC c7 aW) [.uD,aMo N ks M T R,.int b]=.ok (.dct (hdD N (M++T.map tr))):=aX 0xb ((cF rfl).trans (JH hN hd hF));have h2:=aQl hN hd hM (P0:=.tup (ks.map (sy N))) (P2:=.tup (T.map (tkD N))) (P3:=.tup (R.map (ruD N))) (mo:=.int b);have k:∀kn:ae (D×D),δ (kn.map (·.2))=ag->okF (.dct kn)=ag:=λkn h=>by
  show(aj||δ (kn.map (·.2)))=ag;rw[h];rfl
 rw[aT0];have step:∀{ρ:ae D}{f:Str}{s:Srx}{r:ae (Str×Srx)}{d:D}{ds:ae (Str×D)},s.ev ρ=.ok d->okF d=ag->evS ρ r=.ok ds->evS ρ ((f,s)::r)=.ok ((f,d)::ds):=by
  intro ρ f s r d ds g1 g2 g3;show(do let d <- s.ev ρ;let ds <- evS ρ r;if okF d then τ ((f,d)::ds) else .bad)=_;rw[g1,θ,g3,θ,aq g2]
 exact step h1 (k _ (JM hN hd _)) (step h2 (k _ (JN hN hd _)) (step h3 (k _ (JP hN hd _)) (step rfl rfl (step rfl rfl (step rfl rfl (step rfl rfl rfl))))))
theorem aGy(hF:Hds (M++T.map tr))(hM:Hds M)(hR:Rls R){W:ae ah}{y d:D}{k:Cn}(hv:ZX (hdD N (M++T.map tr)) (mkD N M) (rlD N R) b (W.map (sy N))=.ok (y,k))(hw:iV [y]=.ok d)(pd:d.pure=ag):jO [aMo N ks M T R,.tup (W.map (sy N)),.int b]=.ok (.tup [d,.int k.c,.int k.p,.int k.d]):=by
 have pp:(aMo N ks M T R).pure=ag:=by
  show((μ (ks.map (sy N))).pure&&((μ (M.map (rwD N))).pure&&((μ (T.map (tkD N))).pure&&((μ (R.map (ruD N))).pure&&ag))))=ag;rw[ξ,ξ,ξ,ξ,cR,cD (zT N),cD (vC N),cD (nY N)];rfl
 unfold jO aMl;dsimp only;rw[aq (by rw[cR,pp];rfl),aDi hN hd hF hM hR];show(if (δ ((hdD N (M++T.map tr)).map (·.2))&&(δ ((mkD N M).map (·.2))&&δ ((rlD N R).map (·.2))))=ag then _ else _)=_;rw[aq (by rw[JM hN hd,JN hN hd,JP hN hd];rfl),hv];dsimp only;rw[hw];dsimp only;rw[aq pd]
theorem aDj(hF:Hds (M++T.map tr))(hM:Hds M)(hR:Rls R){W:ae ah}{c:Str}{as:ae D}(hv:ZX (hdD N (M++T.map tr)) (mkD N M) (rlD N R) b (W.map (sy N))=.err c as):jO [aMo N ks M T R,.tup (W.map (sy N)),.int b]=.err c as:=by
 have pp:(aMo N ks M T R).pure=ag:=by
  show((μ (ks.map (sy N))).pure&&((μ (M.map (rwD N))).pure&&((μ (T.map (tkD N))).pure&&((μ (R.map (ruD N))).pure&&ag))))=ag;rw[ξ,ξ,ξ,ξ,cR,cD (zT N),cD (vC N),cD (nY N)];rfl
 unfold jO aMl;dsimp only;rw[aq (by rw[cR,pp];rfl),aDi hN hd hF hM hR];show(if (δ ((hdD N (M++T.map tr)).map (·.2))&&(δ ((mkD N M).map (·.2))&&δ ((rlD N R).map (·.2))))=ag then _ else _)=_;rw[aq (by rw[JM hN hd,JN hN hd,JP hN hd];rfl),hv]
end
noncomputable abbrev spn:Res (ae D×Cn):=.err "Spent" [.exc "Spent" []]
noncomputable abbrev tot(k:Cn):ak:=k.c+k.p+k.d
def Go(hd mk rl:ae (D×D))(m:ak)(fs:ae Fr)(st:ae D)(c:Cn)(fs':ae Fr)(st':ae D)(c':Cn):Prop:=
 tot c<=m->(tot c'<=m->∃j,∀n,Mi.runN hd mk rl m (n+j) fs st c=Mi.runN hd mk rl m n fs' st' c')/\(m<tot c'->∃j,∀n,Mi.runN hd mk rl m (n+j) fs st c=spn)
section
variable {hd mk rl:ae (D×D)} {m:ak} {c c' c'':Cn} {fs fs' fs'' r:ae Fr} {st st' st'' ws ws':ae D} {w:D} {kn kn':ae (D×D)} {i:ah}
def Go.trans(h1:Go hd mk rl m fs st c fs' st' c')(h2:Go hd mk rl m fs' st' c' fs'' st'' c'')(le:tot c'<=tot c''):Go hd mk rl m fs st c fs'' st'' c'':=λhc=>by
 refine⟨λh=>?_,λh=>?_⟩
 .obtain⟨j1,e1⟩:=(h1 hc).1 0x1;obtain⟨j2,e2⟩:=(h2 0x1).1 h;exact⟨j2+j1,λn=>by rw[<-Do,e1,e2]⟩
 .by_cases h':tot c'<=m
  .obtain⟨j1,e1⟩:=(h1 hc).1 h';obtain⟨j2,e2⟩:=(h2 h').2 h;exact⟨j2+j1,λn=>by rw[<-Do,e1,e2]⟩
  .exact(h1 hc).2 0x1
def N6:Go hd mk rl m (⟨ws,0,kn⟩::r) st c r st c:=λhc=>⟨λ_=>⟨1,λn=>rfl⟩,λh=>by lia⟩
def aGz(hw:ws[i]?=aa w)(h:VP hd mk rl m c kn st w=.ok (st',ai,c))(hs:δ st'=ag)(hr:r.length<900000):Go hd mk rl m (⟨ws,i+1,kn⟩::r) st c (⟨ws,i,kn⟩::r) st' c:=λhc=>by
 refine⟨λ_=>⟨1,λn=>?_⟩,λh=>by lia⟩;rw[Mi.runN,hw];dsimp only;rw[aq (bj hr),h];dsimp only;rw[aq hs]
def aDk(hw:ws[i]?=aa w)(h:VP hd mk rl m c kn st w=if tot c' > m then .err "Spent" [.exc "Spent" []] else .ok (st',aa (ws',kn'),c'))(hs:δ st'=ag)(hr:r.length<900000):Go hd mk rl m (⟨ws,i+1,kn⟩::r) st c (⟨ws',ws'.length,kn'⟩::⟨ws,i,kn⟩::r) st' c':=λhc=>by
 refine⟨λh'=>⟨1,λn=>?_⟩,λh'=>⟨1,λn=>?_⟩⟩
 .rw[Mi.runN,hw];dsimp only;rw[aq (bj hr),h,ax 0x1];dsimp only;rw[aq hs]
 .rw[Mi.runN,hw];dsimp only;rw[aq (bj hr),h,aq 0x1]
end
def oV(N:ae Str):ah->D
 |0=>.tup [sy N 1,.tup [],.int 1]
 |n+1=>.tup [sy N 2,.tup [oV N n],.int ((n:ak)+2)]
noncomputable def yS:ah->ah
 |0=>11
 |j+1=>2*yS j+1
def yV(N:ae Str):ah->D
 |0=>oV N 10
 |j+1=>.tup [sy N 3,.tup [yV N j,yV N j],.int ((yS (j+1):ah):ak)]
def vD(N:ae Str)(n:ah):D:=if n<100 then oV N n else yV N (n-100)
def sz(n:ah):ak:=if n<100 then (n:ak)+1 else ((yS (n-100):ah):ak)
def aQo(N:ae Str)(n:ah):∃a b,oV N n=.tup [a,b,.int ((n:ak)+1)]:=by
 cases n with
 |zero=>exact⟨_,_,rfl⟩
 |succ n=>exact⟨sy N 2,.tup [oV N n],by rw[oV,show((n+1:ah):ak)+1=(n:ak)+2 from by lia]⟩
def aQp(N:ae Str)(n:ah):∃a b,vD N n=.tup [a,b,.int (sz n)]:=by
 unfold vD sz;by_cases h:n<100
 .rw[aq h,aq h];exact aQo N n
 .rw[ax h,ax h];cases n-100 with
  |zero=>exact aQo N 10
  |succ j=>exact⟨_,_,rfl⟩
def zX(N:ae Str):∀n,(oV N n).pure=ag
 |0=>rfl
 |n+1=>by
  show((sy N 2).pure&&(((oV N n).pure&&ag)&&ag))=ag;rw[zX N n];rfl
def vH(N:ae Str):∀n,(yV N n).pure=ag
 |0=>zX N 10
 |n+1=>by
  show((sy N 3).pure&&(((yV N n).pure&&((yV N n).pure&&ag))&&ag))=ag;rw[vH N n];rfl
def zY(N:ae Str)(n:ah):(vD N n).pure=ag:=by
 unfold vD;split
 .exact zX N n
 .exact vH N _
def M0:ae Rw:=kM
def T0:ae Tk:=kT'
def R0:ae Ru:=kR
def bZ(h1:x.pure=ag)(h2:δ xs=ag):δ (x::xs)=ag:=by rw[δ,h1,h2];rfl
def fX(h1:δ xs=ag)(h2:δ ys=ag):δ (xs++ys)=ag:=by
 induction xs with
 |nil=>exact h2
 |cons x xs ih=>
  rw[δ,ba] at h1;exact bZ h1.1 (ih h1.2)
structure Tab(M:ae Rw)(T:ae Tk)(R:ae Ru):Prop where
 m:∀r,r∈M↔r∈M0
 t:∀r,r∈T↔r∈T0
 r:∀r,r∈R0->r∈R
 hM:Hds M
 hF:Hds (M++T.map tr)
 hR:Rls R
abbrev kv8(N:ae Str)(L:ae (ah×ah)):ae (D×D):=L.map λp=>(sy N p.1,vD N p.2)
def vI(ws:ae ah):ae (ah×ah)->Cn->Cn
 |[],k=>k
 | (i,n)::L,k=>vI ws L (k.use (ws.count i) (sz n))
section
variable {N:ae Str} (hN:N.length=26) (hd:N.Nodup)
include hN hd
theorem aIk(hi:i<26):∀L:ae ah,(∀j∈L,j<26)->aBd (N.getD i "") (L.map (sy N))=aa (L.count i)
 |[],_=>rfl
 |j::L,h=>by
  show(aBd (N.getD i "") (L.map (sy N))).map (λn=>if (N.getD j "")==(N.getD i "") then n+1 else n)=_;have e:((N.getD j "")==(N.getD i ""))=ϒ (j=i):=vA hN hd (h j 0x2) hi;rw[aIk hi L λk hk=>h k (by simp[hk]),e,List.count_cons];by_cases hji:j=i
  .rw[bj hji,aq (by simpa using hji)];rfl
  .rw[cq hji,ax (by simpa using hji)];rfl
theorem aDl(hws:∀j∈ws,j<26)(hl:ws.length<=1000):∀(L:ae (ah×ah)),(∀p∈L,p.1<26)->∀k:Cn,nO (ws.map (sy N)) (kv8 N L) k=aa (vI ws L k)
 |[],_,k=>rfl
 | (i,n)::L,h,k=>by
  obtain⟨a,b,e⟩:=aQp N n;have hc:=List.count_le_length (a:=i) (l:=ws);show nO (ws.map (sy N)) ((sy N i,vD N n)::kv8 N L) k=_;rw[e];show(match aBd (N.getD i "") (ws.map (sy N)) with|some n'=>if ϒ (n'<1000000) then nO (ws.map (sy N)) (kv8 N L) (Cn.use k n' (sz n)) else ai|none=>ai)=_;rw[aIk hN hd (h (i,n) 0x2) ws hws];dsimp only;rw[aq (bj 0x1),aDl hws hl L λp hp=>h p (by simp[hp])];rfl
theorem JQ(hi:i<26):∀(L:ae (ah×ah)),(∀p∈L,p.1<26)->bH (kv8 N L) (sy N i)=(L.lookup i).map (vD N)
 |[],_=>rfl
 | (j,n)::L,h=>by
  show(if eqD (sy N j) (sy N i) then aa (vD N n) else bH (kv8 N L) (sy N i))=_;rw[vA hN hd (h (j,n) 0x2) hi,JQ hi L λp hp=>h p (by simp[hp]),gN];by_cases e:j=i
  .rw[bj e,aq rfl,show(i==j)=ag from by simpa using e.symm];rfl
  .rw[cq e,ax 0x2,show(i==j)=aj from by simpa using λz=>e z.symm]
theorem aDm:∀(L A:ae (ah×ah)),((A++L).map (·.1)).Nodup->(∀p∈A++L,p.1<26)->gK (L.map λp=>sy N p.1) (L.map λp=>vD N p.2) (kv8 N A)=kv8 N (A++L)
 |[],A,_,_=>by rw[dQ];rfl
 | (i,n)::L,A,h1,h2=>by
  have hp:=nZ hN hd (λp:ah×ah=>p.1) (λp=>vD N p.2) (h2 (i,n) 0x2) (vD N n) A (λp hp=>h2 p (by simp[hp])) (by
   rw[dL,bh,eS] at h1;intro hz;exact h1.2.2 i hz i 0x2 rfl)
  show gK (L.map λp=>sy N p.1) (L.map λp=>vD N p.2) (putD (kv8 N A) (sy N i) (vD N n))=_;rw[show putD (kv8 N A) (sy N i) (vD N n)=kv8 N (A++[(i,n)]) from by rw[show kv8 N (A++[(i,n)])=kv8 N A++[(sy N i,vD N n)] from by simp[kv8]];exact hp];rw[aDm L (A++[(i,n)]) (by rw[cr];exact h1) (by rw[cr];exact h2),cr];rfl
variable {M:ae Rw} {T:ae Tk} {R:ae Ru} (B:Tab M T R) {m:ak} {st:ae D} {L:ae (ah×ah)}
include B
theorem aM3(hr:r∈M0)(hp:ps.length=r.2.2.length)(hz:aFn ps=aa z)(lL:∀p∈L,p.1<26)(lk:L.lookup r.1=ai)(hl:(ps++st).length<=1000):VP (hdD N (M++T.map tr)) (mkD N M) (rlD N R) m k (kv8 N L) (ps++st) (sy N r.1)=.ok (.tup [sy N r.1,.tup ps,.int (1+z)]::st,ai,k):=by
 have hrM:=(B.m r).mpr hr;have hlt:=B.hM.lt r hrM;have hg:=zW hN hd B.hF (fy _ hrM);have hn:tkN (hdD N (M++T.map tr)) (sy N r.1)=aa r.2.2.length:=by
  unfold tkN;rw[hg];show(if (δ (r.2.2.map (sy N))&&ϒ ((r.2.2.map (sy N)).length<=1000))=ag then aa (r.2.2.map (sy N)).length else ai)=_;have:=hlt.2.2.2;rw[cR,br,aq (by rw[bj 0x1];rfl)]
 have fm:lQ (mkD N M) (sy N r.1)=ag:=sX (λr:Rw=>r.1) (λ_=>ο ag) M r.1;have fk:lQ (kv8 N L) (sy N r.1)=ag:=sX (λp:ah×ah=>p.1) (λp=>vD N p.2) L r.1;have hk:=JQ hN hd hlt.1 L lL;rw[lk] at hk;have hm:(bH (mkD N M) (sy N r.1)).isSome=ag:=by
  have:=zU hN hd (λr:Rw=>r.1) (λ_=>ο ag) M B.hM.nd (λr hr=>(B.hM.lt r hr).1) r hrM;show(bH (M.map λr:Rw=>(sy N r.1,ο ag)) (sy N r.1)).isSome=ag;rw[this];rfl
 unfold VP;rw[aq (by rw[fk,fm,bj 0x1];rfl),hk];dsimp only[Dp];rw[hn];dsimp only;rw[aq (by rw[b6];lia),aq hm,<-hp,Dq,Dr,hz]
theorem aT1(hi:i<26)(h4:4<=i):bH (mkD N M) (sy N i)=ai:=by
 have go:∀L:ae Rw,(∀r∈L,r.1<4)->bH (mkD N L) (sy N i)=ai:=by
  intro L;induction L with
  |nil=>intro _;rfl
  |cons r L ih=>
   intro h;have hr:=h r 0x2;show(if eqD (sy N r.1) (sy N i) then _ else bH (mkD N L) (sy N i))=_;rw[vA hN hd 0x1 hi,cq 0x1,ax 0x2,ih λq hq=>h q (by simp[hq])]
 refine go _ λr hr=>?_
 have h0:∀r∈M0,r.1<4:=by decide
 exact h0 r ((B.m r).mp hr)
theorem aDn(ht:t∈T0)(hr:(t.1,mk,A.map (·.1),ws)∈R0)(hv:xs++more=A.map λp=>vD N p.2)(hml:more.length=t.2.2.2.length)(hA:(A.map (·.1)).Nodup/\(∀p∈A,p.1<26)/\A.length<=10)(hws:(∀j∈ws,j<26)/\ws.length<=1000)(lL:∀p∈L,p.1<26)(lk:L.lookup t.1=ai)(hl:st.length<=900) :
  VP (hdD N (M++T.map tr)) (mkD N M) (rlD N R) m k (kv8 N L) (.tup [sy N mk,.tup xs,z]::(more++st)) (sy N t.1)=if tot (vI ws A k.call) > m then .err "Spent" [.exc "Spent" []] else .ok (st,aa (ws.map (sy N),kv8 N A),vI ws A k.call):=by
 have hlt0:∀t∈T0,4<=t.1/\t.1<26/\t.2.2.2.length<=2:=by decide
 obtain⟨h4,h26,h2⟩:=hlt0 t ht;have hg:=zW hN hd B.hF (dA _ (cS.mpr ⟨t,(B.t t).mpr ht,rfl⟩));have hn:tkN (hdD N (M++T.map tr)) (sy N t.1)=aa (t.2.2.2.length+1):=by
  unfold tkN;rw[show getD (.dct (hdD N (M++T.map tr))) (sy N t.1)=_ from hg];show(if (δ ((t.2.2.1::t.2.2.2).map (sy N))&&ϒ (((t.2.2.1::t.2.2.2).map (sy N)).length<=1000))=ag then aa ((t.2.2.1::t.2.2.2).map (sy N)).length else ai)=_;rw[cR,br,bz,aq (by rw[bj 0x1];rfl)]
 have fm:lQ (mkD N M) (sy N t.1)=ag:=sX (λr:Rw=>r.1) (λ_=>ο ag) M t.1;have fk:lQ (kv8 N L) (sy N t.1)=ag:=sX (λp:ah×ah=>p.1) (λp=>vD N p.2) L t.1;have hk:=JQ hN hd h26 L lL;rw[lk] at hk;have hru:=aQm hN hd B.hR (B.r _ hr);have hlen:xs.length+more.length=A.length:=by rw[<-b6,hv,br]
 have pv:δ (xs++more)=ag:=by rw[hv];exact cD (f:=λp:ah×ah=>vD N p.2) (λp=>zY N p.2) _
 have px:δ xs=ag/\δ more=ag:=by
  have go:∀a:ae D,δ (a++more)=ag->δ a=ag/\δ more=ag:=by
   intro a;induction a with
   |nil=>exact λh=>⟨rfl,h⟩
   |cons x a ih=>
    intro h;rw[mh,δ,ba] at h;obtain⟨g1,g2⟩:=ih h.2;exact⟨bZ h.1 g1,g2⟩
  exact go xs pv
 have hz:kI [.tup ((A.map (·.1)).map (sy N)),.lst (xs++more)]=.ok (.dct (kv8 N A)):=by
  have fl:((A.map (·.1)).map (sy N)).all dZ=ag:=by
   rw[gf];intro d hd';obtain⟨j,_,rfl⟩:=cS.mp hd';rfl
  show(if (ϒ (((A.map (·.1)).map (sy N)).length<=1000)&&ϒ ((xs++more).length=((A.map (·.1)).map (sy N)).length)&&((A.map (·.1)).map (sy N)).all dZ&&δ (xs++more))=ag then τ (χ (gK ((A.map (·.1)).map (sy N)) (xs++more) [])) else .bad)=_;rw[pv,fl,aq (by rw[br,br,b6,hlen,bj (show A.length<=1000 by lia),bj (show A.length=A.length from rfl)];rfl),hv,eI];have:=aDm hN hd A [] hA.1 hA.2.1;exact c5 (λz=>τ (χ z)) this
 have hc:aDx (rlD N R) m k (sy N t.1) (.tup [sy N mk,.tup xs,z]::more)=if tot (vI ws A k.call) > m then .err "Spent" [.exc "Spent" []] else .ok (ws.map (sy N),kv8 N A,vI ws A k.call):=by
  show(match getD (.dct (rlD N R)) (.tup [sy N t.1,sy N mk]) with|.ok (.tup [r0,r1,.tup own,.tup ws])=>_|_=>_)=_;rw[hru];show(if (ϒ (xs.length+more.length<=1000)&&(δ xs&&(δ more&&δ (ws.map (sy N)))))=ag then (match kI [.tup ((A.map (·.1)).map (sy N)),.lst (xs++more)] with|.ok (.dct kn)=>(match nO (ws.map (sy N)) kn k.call with|some k'=>if k'.c+k'.p+k'.d > m then aBy else .ok (ws.map (sy N),kn,k')|none=>.bad)|_=>.bad) else .bad)=_;rw[px.1,px.2,cR,aq (by rw[bj 0x1];rfl),hz];dsimp only;rw[aDl hN hd hws.1 hws.2 A hA.2.1];rfl
 unfold VP;rw[aq (by rw[fk,fm,bj (by rw[bz,b6];lia)];rfl),hk];dsimp only[Dp];rw[hn];dsimp only;rw[aq (by rw[bz,b6];lia),aT1 hN hd B h26 h4,ax 0x2,CO,C6,<-hml,Dq,Dr,hc];by_cases hgt:tot (vI ws A k.call) > m
 .rw[aq hgt,aq hgt]
 .rw[ax hgt,ax hgt]
end
abbrev Gx(N:ae Str)(M:ae Rw)(T:ae Tk)(R:ae Ru)(m:ak):=Go (hdD N (M++T.map tr)) (mkD N M) (rlD N R) m
def aT2(h:n<100):sz n=(n:ak)+1:=by unfold sz;rw[aq h]
def aQq(j:ah):sz (100+j)=((yS j:ah):ak):=by unfold sz;rw[ax 0x1,show 100+j-100=j by lia]
def ZP(h:n<100):vD N n=oV N n:=by unfold vD;rw[aq h]
def aDo(N:ae Str)(j:ah):vD N (100+j)=yV N j:=by unfold vD;rw[ax 0x1,show 100+j-100=j by lia]
def aM4(h0:0<=sz n)(hn:sz n<=900)(h:aFn r=aa z):aFn (vD N n::r)=aa (sz n+z):=by
 obtain⟨a,b,e⟩:=aQp N n;rw[e];show(if (ϒ (-aDy<=sz n)&&ϒ (sz n<=aDy))=ag then (aFn r).map (sz n+·) else ai)=_;rw[aq (by rw[bj (show -aDy<=sz n by show(-1000:ak)<=_;lia),bj (show sz n<=aDy by show _<=(1000:ak);lia)];rfl),h];rfl
section
variable {N:ae Str} (hN:N.length=26) (hd:N.Nodup) {M:ae Rw} {T:ae Tk} {R:ae Ru} (B:Tab M T R) {m:ak}
include hN hd B
section
variable {c:Cn} {st ws:ae D} {L:ae (ah×ah)} {i:ah} {r:ae Fr} (lL:∀p∈L,p.1<26) (hl:st.length<=890) (hp:δ st=ag) (hr:r.length<900000)
include lL hl hp hr
theorem aDp(hw:ws[i]?=aa (sy N 1))(lk:L.lookup 1=ai):Gx N M T R m (⟨ws,i+1,kv8 N L⟩::r) st c (⟨ws,i,kv8 N L⟩::r) (vD N 0::st) c:=
 aGz hw (aM3 hN hd B (r:=(1,0,[])) (ps:=[]) 0x4 rfl rfl lL lk (by rw[fS];lia)) (bZ rfl hp) hr
theorem aT3(hn:n<99)(hw:ws[i]?=aa (sy N 2))(lk:L.lookup 2=ai):Gx N M T R m (⟨ws,i+1,kv8 N L⟩::r) (vD N n::st) c (⟨ws,i,kv8 N L⟩::r) (vD N (n+1)::st) c:=by
 have s:=aT2 (n:=n) 0x1;have e:=aM3 hN hd B (m:=m) (k:=c) (st:=st) (r:=(2,0,[0])) (ps:=[vD N n]) 0x4 rfl (aM4 0x1 0x1 rfl) lL lk (by rw[b6,eR];lia);rw[show(1+(sz n+0):ak)=(n:ak)+2 from by lia,ZP (show n<100 by lia)] at e;have e2:vD N (n+1)=.tup [sy N 2,.tup [oV N n],.int ((n:ak)+2)]:=ZP 0x1;rw[ZP (show n<100 by lia),e2];exact aGz hw e (bZ (zX N (n+1)) hp) hr
theorem aT4(hn:yS j<=400)(hw:ws[i]?=aa (sy N 3))(lk:L.lookup 3=ai):Gx N M T R m (⟨ws,i+1,kv8 N L⟩::r) (vD N (100+j)::vD N (100+j)::st) c (⟨ws,i,kv8 N L⟩::r) (vD N (100+j+1)::st) c:=by
 have s:=aQq j;have e:=aM3 hN hd B (m:=m) (k:=c) (st:=st) (r:=(3,0,[0,0])) (ps:=[vD N (100+j),vD N (100+j)]) 0x4 rfl (aM4 0x1 0x1 (aM4 0x1 0x1 rfl)) lL lk (by rw[b6];simp;lia);rw[show(1+(sz (100+j)+(sz (100+j)+0)):ak)=((yS (j+1):ah):ak) from by rw[yS];lia,aDo] at e;have e2:vD N (100+j+1)=.tup [sy N 3,.tup [yV N j,yV N j],.int ((yS (j+1):ah):ak)]:=aDo N (j+1);rw[aDo,e2];exact aGz hw e (bZ (vH N (j+1)) hp) hr
theorem N7(hj:j<26)(hw:ws[i]?=aa (sy N j))(lk:L.lookup j=aa n):Gx N M T R m (⟨ws,i+1,kv8 N L⟩::r) st c (⟨ws,i,kv8 N L⟩::r) (vD N n::st) c:=by
 refine aGz hw ?_ (bZ (zY N n) hp) hr;have fm:lQ (mkD N M) (sy N j)=ag:=sX (λr:Rw=>r.1) (λ_=>ο ag) M j;have fk:lQ (kv8 N L) (sy N j)=ag:=sX (λp:ah×ah=>p.1) (λp=>vD N p.2) L j;have hk:=JQ hN hd hj L lL;rw[lk] at hk;unfold VP;rw[aq (by rw[fk,fm,bj 0x1];rfl),hk];rfl
theorem aDq(ht:t∈T0)(hrl:(t.1,1,A.map (·.1),wr)∈R0)(hml:A.length=t.2.2.2.length)(hA:(A.map (·.1)).Nodup)(hA2:∀p∈A,p.1<26)(hA3:A.length<=10)(hwr:∀j∈wr,j<26)(hwl:wr.length<=1000)(hc:vI wr A c.call=c')(hw:ws[i]?=aa (sy N t.1))(lk:L.lookup t.1=ai):Gx N M T R m (⟨ws,i+1,kv8 N L⟩::r) (vD N 0::((A.map λp=>vD N p.2)++st)) c (⟨wr.map (sy N),(wr.map (sy N)).length,kv8 N A⟩::⟨ws,i,kv8 N L⟩::r) st c':=by
 subst hc;exact aDk hw (aDn hN hd B ht hrl rfl (by rw[br];exact hml) ⟨hA,hA2,hA3⟩ ⟨hwr,hwl⟩ lL lk 0x1) hp hr
theorem aDr(ht:t∈T0)(ha:a<99)(hrl:(t.1,2,x::A.map (·.1),wr)∈R0)(hml:A.length=t.2.2.2.length)(hA:(x::A.map (·.1)).Nodup)(hA2:∀p∈(x,a)::A,p.1<26)(hA3:A.length<=9)(hwr:∀j∈wr,j<26)(hwl:wr.length<=1000)(hc:vI wr ((x,a)::A) c.call=c')(hw:ws[i]?=aa (sy N t.1))(lk:L.lookup t.1=ai):Gx N M T R m (⟨ws,i+1,kv8 N L⟩::r) (vD N (a+1)::((A.map λp=>vD N p.2)++st)) c (⟨wr.map (sy N),(wr.map (sy N)).length,kv8 N ((x,a)::A)⟩::⟨ws,i,kv8 N L⟩::r) st c':=by
 subst hc;have e2:vD N (a+1)=.tup [sy N 2,.tup [vD N a],.int ((a:ak)+2)]:=by rw[ZP (show a<100 by lia)];exact ZP 0x1
 rw[e2];exact aDk hw (aDn hN hd B ht hrl rfl (by rw[br];exact hml) ⟨hA,hA2,by rw[bz];lia⟩ ⟨hwr,hwl⟩ lL lk 0x1) hp hr
end
theorem aIl:∀(a:ah),a<99->∀{c:Cn}{st ws:ae D}{L:ae (ah×ah)}{i:ah}{r:ae Fr},(∀p∈L,p.1<26)->st.length<=800->δ st=ag->r.length+a<700000->ws[i]?=aa (sy N 8)->L.lookup 8=ai->Gx N M T R m (⟨ws,i+1,kv8 N L⟩::r) (vD N a::st) c (⟨ws,i,kv8 N L⟩::r) (vD N 0::st) ⟨c.c+(a+1:ah),c.p,c.d⟩
 |0,ha,c,st,ws,L,i,r,lL,hl,hp,hr,hw,lk=>by
  have hr1:(⟨ws,i,kv8 N L⟩::r:ae Fr).length<900000:=by rw[bz];lia
  have e1:=aDq hN hd B (m:=m) (c:=c) (r:=r) lL 0x1 hp 0x1 (t:=(8,0,0,[])) 0x4 (wr:=[1]) (A:=[]) 0x4 rfl 0x2 0x2 0x2 0x2 0x2 (c':=⟨c.c+(0+1:ah),c.p,c.d⟩) (by simp[vI,Cn.call]) hw lk;have e2:Gx N M T R m (⟨[1].map (sy N),0+1,kv8 N []⟩::⟨ws,i,kv8 N L⟩::r) st ⟨c.c+(0+1:ah),c.p,c.d⟩ (⟨[1].map (sy N),0,kv8 N []⟩::⟨ws,i,kv8 N L⟩::r) (vD N 0::st) ⟨c.c+(0+1:ah),c.p,c.d⟩:=aDp hN hd B 0x2 0x1 hp hr1 rfl rfl;exact e1.trans (e2.trans N6 (kj _)) (kj _)
 |a+1,ha,c,st,ws,L,i,r,lL,hl,hp,hr,hw,lk=>by
  have hr1:(⟨ws,i,kv8 N L⟩::r:ae Fr).length<900000:=by rw[bz];lia
  have hA:∀p∈[((13:ah),a)],p.1<26:=by simp
  have e1:=aDr hN hd B (m:=m) (c:=c) (r:=r) lL 0x1 hp 0x1 (t:=(8,0,0,[])) 0x4 (wr:=[8,13]) (x:=13) (a:=a) 0x1 (A:=[]) 0x4 rfl 0x2 hA 0x2 0x2 0x2 (c':=⟨c.c+1,c.p,c.d⟩) (by simp[vI,Cn.use,Cn.call]) hw lk;refine e1.trans ?_ (by dsimp only[tot];lia);have e2:Gx N M T R m (⟨[8,13].map (sy N),1+1,kv8 N [(13,a)]⟩::⟨ws,i,kv8 N L⟩::r) st ⟨c.c+1,c.p,c.d⟩ (⟨[8,13].map (sy N),1,kv8 N [(13,a)]⟩::⟨ws,i,kv8 N L⟩::r) (vD N a::st) ⟨c.c+1,c.p,c.d⟩:=N7 hN hd B hA 0x1 hp hr1 0x4 rfl rfl;refine e2.trans ?_ (by dsimp only[tot];lia);have e4:Gx N M T R m (⟨[8,13].map (sy N),0+1,kv8 N [(13,a)]⟩::⟨ws,i,kv8 N L⟩::r) (vD N a::st) ⟨c.c+1,c.p,c.d⟩ (⟨[8,13].map (sy N),0,kv8 N [(13,a)]⟩::⟨ws,i,kv8 N L⟩::r) (vD N 0::st) ⟨c.c+1+(a+1:ah),c.p,c.d⟩:=aIl a 0x1 hA hl hp (by rw[bz];lia) rfl rfl;rw[show c.c+((a+1+1:ah):ak)=c.c+1+((a+1:ah):ak) from by lia];exact e4.trans N6 (kj _)
end
def cpS:ah->ah->ah
 |0,_=>0
 |a+1,j=>yS j+cpS a (j+1)
abbrev F9(N:ae Str)(a j:ah)(f:Fr)(r:ae Fr)(k:ah):ae Fr:=⟨[9,13,3,15,15].map (sy N),k,kv8 N [(13,a),(15,100+j)]⟩::f::r
section
variable {N:ae Str} (hN:N.length=26) (hd:N.Nodup) {M:ae Rw} {T:ae Tk} {R:ae Ru} (B:Tab M T R) {m:ak}
include hN hd B
theorem aIm:∀(a j:ah),a<99->(∀i,i<a->yS (j+i)<=400)->∀{c:Cn}{st ws:ae D}{L:ae (ah×ah)}{i:ah}{r:ae Fr},(∀p∈L,p.1<26)->st.length<=800->δ st=ag->r.length+a<700000->ws[i]?=aa (sy N 9)->L.lookup 9=ai->Gx N M T R m (⟨ws,i+1,kv8 N L⟩::r) (vD N a::vD N (100+j)::st) c (⟨ws,i,kv8 N L⟩::r) (vD N (100+j+a)::st) ⟨c.c+(a+1:ah),c.p+(cpS a j:ah),c.d⟩
 |0,j,ha,hy,c,st,ws,L,i,r,lL,hl,hp,hr,hw,lk=>by
  have hr1:(⟨ws,i,kv8 N L⟩::r:ae Fr).length<900000:=by rw[bz];lia
  have hA:∀p∈[((15:ah),100+j)],p.1<26:=by simp
  have e1:=aDq hN hd B (m:=m) (c:=c) (st:=st) (r:=r) lL 0x1 hp 0x1 (t:=(9,0,0,[0])) 0x4 (wr:=[15]) (A:=[(15,100+j)]) (by show(9,1,[15],[15])∈kR;decide) rfl 0x2 hA 0x2 0x2 0x2 (c':=⟨c.c+(0+1:ah),c.p+(cpS 0 j:ah),c.d⟩) (by simp[vI,Cn.use,Cn.call,cpS]) hw lk;have e2:Gx N M T R m (⟨[15].map (sy N),0+1,kv8 N [(15,100+j)]⟩::⟨ws,i,kv8 N L⟩::r) st ⟨c.c+(0+1:ah),c.p+(cpS 0 j:ah),c.d⟩ (⟨[15].map (sy N),0,kv8 N [(15,100+j)]⟩::⟨ws,i,kv8 N L⟩::r) (vD N (100+j)::st) ⟨c.c+(0+1:ah),c.p+(cpS 0 j:ah),c.d⟩:=N7 hN hd B hA 0x1 hp hr1 0x4 rfl rfl;exact e1.trans (e2.trans N6 (kj _)) (kj _)
 |a+1,j,ha,hy,c,st,ws,L,i,r,lL,hl,hp,hr,hw,lk=>by
  have hr1:(⟨ws,i,kv8 N L⟩::r:ae Fr).length<900000:=by rw[bz];lia
  have hA:∀p∈[((13:ah),a),(15,100+j)],p.1<26:=by simp
  have hsz:=aQq j;have hcp:cpS (a+1) j=yS j+cpS a (j+1):=rfl;have e1:=aDr hN hd B (m:=m) (c:=c) (st:=st) (r:=r) lL 0x1 hp 0x1 (t:=(9,0,0,[0])) 0x4 (wr:=[9,13,3,15,15]) (x:=13) (a:=a) 0x1 (A:=[(15,100+j)]) (by show(9,2,[13,15],[9,13,3,15,15])∈kR;decide) rfl 0x2 hA 0x2 0x2 0x2 (c':=⟨c.c+1,c.p+(yS j:ah),c.d⟩) (by simp[vI,Cn.use,Cn.call,hsz]) hw lk;refine e1.trans ?_ (by dsimp only[tot];lia);have py:=zY N (100+j);have e2:Gx N M T R m (F9 N a j ⟨ws,i,kv8 N L⟩ r (4+1)) st ⟨c.c+1,c.p+(yS j:ah),c.d⟩ (F9 N a j ⟨ws,i,kv8 N L⟩ r 4) (vD N (100+j)::st) ⟨c.c+1,c.p+(yS j:ah),c.d⟩:=N7 hN hd B hA 0x1 hp hr1 0x4 rfl rfl;refine e2.trans ?_ (by dsimp only[tot];lia);have e3:Gx N M T R m (F9 N a j ⟨ws,i,kv8 N L⟩ r (3+1)) (vD N (100+j)::st) ⟨c.c+1,c.p+(yS j:ah),c.d⟩ (F9 N a j ⟨ws,i,kv8 N L⟩ r 3) (vD N (100+j)::vD N (100+j)::st) ⟨c.c+1,c.p+(yS j:ah),c.d⟩:=N7 hN hd B hA (by rw[bz];lia) (bZ py hp) hr1 0x4 rfl rfl;refine e3.trans ?_ (by dsimp only[tot];lia);have e4:Gx N M T R m (F9 N a j ⟨ws,i,kv8 N L⟩ r (2+1)) (vD N (100+j)::vD N (100+j)::st) ⟨c.c+1,c.p+(yS j:ah),c.d⟩ (F9 N a j ⟨ws,i,kv8 N L⟩ r 2) (vD N (100+j+1)::st) ⟨c.c+1,c.p+(yS j:ah),c.d⟩:=aT4 hN hd B hA 0x1 hp hr1 (by have:=hy 0 0x1;simpa using this) rfl rfl;refine e4.trans ?_ (by dsimp only[tot];lia);have e5:Gx N M T R m (F9 N a j ⟨ws,i,kv8 N L⟩ r (1+1)) (vD N (100+j+1)::st) ⟨c.c+1,c.p+(yS j:ah),c.d⟩ (F9 N a j ⟨ws,i,kv8 N L⟩ r 1) (vD N a::vD N (100+j+1)::st) ⟨c.c+1,c.p+(yS j:ah),c.d⟩:=N7 hN hd B hA (by rw[bz];lia) (bZ (zY N _) hp) hr1 0x4 rfl rfl;refine e5.trans ?_ (by dsimp only[tot];lia);have e6:Gx N M T R m (F9 N a j ⟨ws,i,kv8 N L⟩ r (0+1)) (vD N a::vD N (100+(j+1))::st) ⟨c.c+1,c.p+(yS j:ah),c.d⟩ (F9 N a j ⟨ws,i,kv8 N L⟩ r 0) (vD N (100+(j+1)+a)::st) ⟨c.c+1+(a+1:ah),c.p+(yS j:ah)+(cpS a (j+1):ah),c.d⟩:=aIm a (j+1) 0x1 (λk hk=>by have:=hy (k+1) 0x1;rw[show j+1+k=j+(k+1) by lia];exact this) hA hl hp (by rw[bz];lia) rfl rfl;rw[show 100+j+1=100+(j+1) by lia,show 100+j+(a+1)=100+(j+1)+a by lia,show c.c+((a+1+1:ah):ak)=c.c+1+((a+1:ah):ak) from by lia,show c.p+((cpS (a+1) j:ah):ak)=c.p+(yS j:ah)+(cpS a (j+1):ah) by lia];exact e6.trans N6 (kj _)
theorem W3(hl:st.length<=800)(hp:δ st=ag):∀(s n:ah),n+s<99->(∀k,k<s->ws[i+k]?=aa (sy N 2))->Gx N M T R m [⟨ws,i+s,kv8 N []⟩] (vD N n::st) c [⟨ws,i,kv8 N []⟩] (vD N (n+s)::st) c
 |0,n,h,hw=>λhc=>⟨λ_=>⟨0,λ_=>rfl⟩,λh=>by lia⟩
 |s+1,n,h,hw=>by
  have e1:Gx N M T R m [⟨ws,i+s+1,kv8 N []⟩] (vD N n::st) c [⟨ws,i+s,kv8 N []⟩] (vD N (n+1)::st) c:=aT3 hN hd B 0x2 0x1 hp 0x4 0x1 (hw s 0x1) rfl;have e2:=W3 (c:=c) hl hp s (n+1) 0x1 λk hk=>hw k 0x1
  rw[show n+(s+1)=n+1+s by lia];exact e1.trans e2 (kj _)
end
def aDs:Tab kM kT' kR:=⟨λ_=>Iff.rfl,λ_=>Iff.rfl,λ_ h=>h,⟨by decide,by unfold kM;decide,by decide⟩,ZM,⟨by decide,by unfold kR;decide,by decide⟩⟩
noncomputable abbrev kC(m:ah):Cn:=⟨((7+m:ah):ak),367,0⟩
section
variable {N:ae Str} (hN:N.length=26) (hd:N.Nodup)
include hN hd
theorem aV3(m:ah){i k:ah}(h:(kW m)[i]?=aa k):((kW m).map (sy N))[i]?=aa (sy N k):=by
 rw[iX,h];rfl
theorem aT5(hm:m<40)(b:ak)(hb:0<=b):ZX (hdD N (kM++kT'.map tr)) (mkD N kM) (rlD N kR) b ((kW m).map (sy N))=if tot (kC m)<=b then .ok (yV N 5,kC m) else .err "Spent" [.exc "Spent" []]:=by
 have B:=aDs;have l1:((kW m).map (sy N)).length=18+m+1:=by rw[br,N5];lia
 have A:∀{i k:ah},(kW m)[i]?=aa k->((kW m).map (sy N))[i]?=aa (sy N k):=λh=>aV3 hN hd m h
 have w0:(kW m)[0]?=aa 9:=rfl;have w1:∀k,k<5->(kW m)[1+k]?=aa 2:=λk hk=>by
  have:k=0\/k=1\/k=2\/k=3\/k=4:=by lia
  rcases this with rfl|rfl|rfl|rfl|rfl<;>rfl
 have w6:(kW m)[6]?=aa 8:=rfl;have sp:kW m=(9::(bi 5 2++[8]))++(bi m 2++1::(bi 10 2++[1])):=by simp[kW]
 have w7:∀k,k<m->(kW m)[7+k]?=aa 2:=λk hk=>by
  rw[sp,dS 0x2,show 7+k-(9::(bi 5 2++[8])).length=k by simp,d4 (by simpa using hk),hI,aq hk]
 have w8:(kW m)[7+m]?=aa 1:=by
  rw[sp,dS 0x2,show 7+m-(9::(bi 5 2++[8])).length=m by simp,dS 0x2,nE,ss];rfl
 have sp2:kW m=((9::(bi 5 2++[8]))++(bi m 2++[1]))++(bi 10 2++[1]):=by simp[kW]
 have l2:((9::(bi 5 2++[8]))++(bi m 2++[1])).length=8+m:=by simp;lia
 have w9:∀k,k<10->(kW m)[8+m+k]?=aa 2:=λk hk=>by
  rw[sp2,dS (by rw[l2];lia),l2,show 8+m+k-(8+m)=k by lia,d4 (by simpa using hk),hI,aq hk]
 have w10:(kW m)[18+m]?=aa 1:=by
  rw[sp2,dS (by rw[l2];lia),l2,show 18+m-(8+m)=10 by lia];rfl
 have hy0:vD N 10=vD N (100+0):=by rw[aDo,ZP 0x4];rfl
 have p0:=zY N (100+0);have e1:Gx N kM kT' kR b [⟨(kW m).map (sy N),18+m+1,kv8 N []⟩] [] ⟨0,0,0⟩ [⟨(kW m).map (sy N),18+m,kv8 N []⟩] [vD N 0] ⟨0,0,0⟩:=aDp hN hd B 0x2 0x2 rfl 0x4 (A w10) rfl;have e2:=W3 hN hd B (m:=b) (c:=⟨0,0,0⟩) (st:=[]) (ws:=(kW m).map (sy N)) (i:=8+m) 0x2 rfl 10 0 0x4 λk hk=>A (w9 k hk)
 rw[show 8+m+10=18+m by lia,show 0+10=10 from rfl,hy0] at e2;have e3:Gx N kM kT' kR b [⟨(kW m).map (sy N),7+m+1,kv8 N []⟩] [vD N (100+0)] ⟨0,0,0⟩ [⟨(kW m).map (sy N),7+m,kv8 N []⟩] [vD N 0,vD N (100+0)] ⟨0,0,0⟩:=aDp hN hd B 0x2 0x2 (bZ p0 rfl) 0x4 (A w8) rfl;rw[show 7+m+1=8+m by lia] at e3;have e4:=W3 hN hd B (m:=b) (c:=⟨0,0,0⟩) (st:=[vD N (100+0)]) (ws:=(kW m).map (sy N)) (i:=7) 0x2 (bZ p0 rfl) m 0 0x1 λk hk=>A (w7 k hk)
 rw[y6] at e4;have e5:Gx N kM kT' kR b [⟨(kW m).map (sy N),6+1,kv8 N []⟩] [vD N m,vD N (100+0)] ⟨0,0,0⟩ [⟨(kW m).map (sy N),6,kv8 N []⟩] [vD N 0,vD N (100+0)] ⟨0+(m+1:ah),0,0⟩:=aIl hN hd B m 0x1 0x2 0x2 (bZ p0 rfl) (by simp;lia) (A w6) rfl;have e6:=W3 hN hd B (m:=b) (c:=⟨0+(m+1:ah),0,0⟩) (st:=[vD N (100+0)]) (ws:=(kW m).map (sy N)) (i:=1) 0x2 (bZ p0 rfl) 5 0 0x4 λk hk=>A (w1 k hk)
 have hy:∀i,i<5->yS (0+i)<=400:=by decide
 have e7:Gx N kM kT' kR b [⟨(kW m).map (sy N),0+1,kv8 N []⟩] [vD N 5,vD N (100+0)] ⟨0+(m+1:ah),0,0⟩ [⟨(kW m).map (sy N),0,kv8 N []⟩] [vD N (100+0+5)] ⟨0+(m+1:ah)+(5+1:ah),0+(cpS 5 0:ah),0⟩:=aIm hN hd B 5 0 0x4 hy 0x2 0x2 rfl 0x2 (A w0) rfl;have hc:(⟨0+(m+1:ah)+(5+1:ah),0+(cpS 5 0:ah),0⟩:Cn)=kC m:=by
  have h1:(cpS 5 0:ah)=367:=by decide
  rw[h1];show(⟨_,_,_⟩:Cn)=⟨_,_,_⟩
  congr 1
  lia
 rw[hc,show 100+0+5=100+5 from rfl,aDo] at e7;have e8:Gx N kM kT' kR b [⟨(kW m).map (sy N),0,kv8 N []⟩] [yV N 5] (kC m) [] [yV N 5] (kC m):=N6;have t0:tot (⟨0,0,0⟩:Cn)=0:=rfl;have t1:tot (⟨0+(m+1:ah),0,0⟩:Cn)=((m+1:ah):ak):=by simp[tot]
 have t2:tot (kC m)=((7+m:ah):ak)+367:=by simp[tot]
 have e:=e1.trans (e2.trans (e3.trans (e4.trans (e5.trans (e6.trans (e7.trans e8 (kj _)) (by rw[t1,t2];lia)) (by rw[t1,t2];lia)) (by rw[t0,t2];lia)) (by rw[t0,t2];lia)) (by rw[t0,t2];lia)) (by rw[t0,t2];lia);have h0:tot (⟨0,0,0⟩:Cn)<=b:=by rw[t0];exact hb
 rw[<-l1] at e;by_cases hle:tot (kC m)<=b
 .rw[aq hle];obtain⟨j,ej⟩:=(e h0).1 hle;exact aC4 (ej 1) 0x7
 .rw[ax hle];obtain⟨j,ej⟩:=(e h0).2 0x1;exact aC4 (ej 1) 0x7
end
inductive Wv(N:ae Str):ae D->ae ah->Prop
 |nil:Wv N [] []
 |step {i:ah} {s:ak} {ps vs:ae D} {W:ae ah}:δ ps=ag->ps.length<=3->Wv N (ps++vs) W->Wv N (.tup [sy N i,.tup ps,.int s]::vs) (i::W)
noncomputable def oW(n:ah):ae ah:=bi n 2++[1]
def yW:ah->ae ah
 |0=>oW 10
 |j+1=>3::(yW j++yW j)
def aQr(h:Wv N vs W):∀n,Wv N (oV N n::vs) (oW n++W)
 |0=>.step rfl 0x2 h
 |n+1=>.step (bZ (zX N n) rfl) 0x2 (aQr h n)
def aM5:∀(j:ah){vs:ae D}{W:ae ah},Wv N vs W->Wv N (yV N j::vs) (yW j++W)
 |0,_,_,h=>aQr h 10
 |j+1,vs,W,h=>by
  have e:yW (j+1)++W=3::(yW j++(yW j++W)):=by rw[yW,mh,cr]
  rw[e];exact .step (bZ (vH N j) (bZ (vH N j) rfl)) 0x2 (aM5 j (aM5 j h))
def oc:FT:=(bTr fL)
def ob:FS:=bU (YC 2 3) (bU (aNo 1 (b2 getD fB g_)) (aJy 2 (b1 aK6 (b2 getD fB fM))))
def aQs(l:ae D):oc [a,b,.lst l,x]=.ok (!l.isEmpty):=rfl
def aQt(h:Wv N vs W):vs.length<=W.length:=by
 induction h with
 |nil=>exact bo _
 |step _ _ _ ih=>
  rw[b6] at ih;rw[bz,bz];lia
def fD(h:δ xs=ag):δ xs.reverse=ag:=by
 induction xs with
 |nil=>rfl
 |cons x xs ih=>
  rw[δ,ba] at h;rw[jf];exact fX (ih h.2) (bZ h.1 rfl)
def aM6(h:Wv N vs W):∀(pre:ae D)(fuel:ah)(x:D),W.length<fuel->pre.length+W.length<=5000->∃x',ZW oc ob fuel [y,.lst pre,.lst vs.reverse,x]=.ok (.nx [y,.lst (pre++W.map (sy N)),.lst [],x']):=by
 induction h with
 |nil=>
  intro pre fuel x hf _;obtain⟨n,rfl⟩:∃n,fuel=n+1:=⟨fuel-1,by simp at hf;lia⟩
  refine⟨x,?_⟩;rw[i9,dQ];exact aLv (aQs [])
 |@step i s ps vs W hps hl h ih=>
  intro pre fuel x hf hp;rw[bz] at hf hp;obtain⟨n,rfl⟩:∃n,fuel=n+1:=⟨fuel-1,by lia⟩
  obtain⟨x',hx⟩:=ih (pre++[sy N i]) n (.tup [sy N i,.tup ps,.int s]) 0x1 (by rw[b6,eR];lia);have hlw:=aQt h;rw[b6] at hlw;refine⟨x',?_⟩;refine aGp (ρ':=[y,.lst (pre++[sy N i]),.lst (vs.reverse++ps.reverse),.tup [sy N i,.tup ps,.int s]]) ((aQs _).trans 0x2) ?_ ?_
  .refine aN (aLw (by rw[jf];rfl) rfl) ?_;refine aN (ρ':=[y,.lst (pre++[sy N i]),.lst vs.reverse,.tup [sy N i,.tup ps,.int s]]) (aO7 (d:=sy N i) (aO rfl rfl rfl) rfl (by rw[bN];lia) rfl) ?_;refine aI9 (ys:=ps.reverse) (aGo (x:=.tup ps) (aO rfl rfl rfl) ?_) rfl (by rw[jg,jg];lia) (fD hps);show(if δ ps&&ϒ (ps.length<=lim) then τ (υ ps.reverse) else .bad)=_;rw[aq (by rw[hps,ix];exact bj (by rw[bN];lia))]
  .rw[<-Af,hx,cr];rfl
def aM7:iV [yV N 5]=.ok (tw N (yW 5)):=by
 have h:=aM5 (N:=N) 5 .nil;rw[dQ] at h;have hl:(yW 5).length=383:=by decide
 have hv:=vH N 5;obtain⟨x',hx⟩:=aM6 (y:=yV N 5) h [] 1000 .uD 0x1 (by simp;lia);refine call_v ?_;refine aN (ρ':=[yV N 5,.lst [],.uD,.uD]) rfl ?_;refine aN (ρ':=[yV N 5,.lst [],.lst [yV N 5],.uD]) (uO (i:=2) (V5 (aD (JF rfl hv) rfl) (by rw[bN];simp)) (bZ hv rfl)) ?_;refine aN hx ?_;refine gJ (aX (xs:=[.lst ((yW 5).map (sy N))]) 0xb rfl) ?_;show δ ((yW 5).map (sy N))=ag;exact cR N _
def aM8(h:f ρ=.err c as):bU f g ρ=.err c as:=by
 unfold bU;rw[h];rfl
def aDt(h:f ρ=.err c as):cZ o i f k ρ=.err c as:=by
 unfold cZ;rw[h];rfl
def aH0(h1:a ρ=.ok xs)(h2:f xs=.err c as):aQ f a ρ=.err c as:=by
 unfold aQ;rw[h1,θ,h2]
def aQu(h:f (ds++bi (m-n) D.uD)=.err c as):fnS n m f ds=.err c as:=by
 unfold fnS;rw[h];rfl
def aIn:(yW 5).length=383:=by decide
def aIo:∀i∈yW 5,i<26:=by decide
def aV4(hn:ns.length<=63)(hm:m<40):Z0 3 fK [.int 400] [.str (cj "\n" ((rws (wrd ns 0) (wrd ns 1) (wrd ns 2) (wrd ns 3) (wrd ns 8) (wrd ns 9) (wrd ns 12) (wrd ns 13) (wrd ns 14)).map Row.text)),.str (cj " " (txW (nmN ns) (kW m)))]=if tot (kC m)<=400 then .ok (.tup [.str (cj " " (txW (nmN ns) (yW 5))),.int (kC m).c,.int (kC m).p,.int (kC m).d]) else .err "Spent" [.exc "Spent" []]:=by
 have nmk:∀i:ak,0<=i->i<=33->Nm (wrd ns i):=λi h0 h1=>SQ (jN hn h0 h1).2.1
 have hok:=aI7 (nmk 0 0x4 0x4) (nmk 1 0x4 0x4) (nmk 2 0x4 0x4) (nmk 3 0x4 0x4) (nmk 8 0x4 0x4) (nmk 9 0x4 0x4) (nmk 12 0x4 0x4) (nmk 13 0x4 0x4) (nmk 14 0x4 0x4);have rd:=aLr hok (by show 12<=100;decide);rw[aM0] at rd;have sd:=aM1 hn;have tm:=aQk hn hm;have vk:=aT5 (sY hn).len (sY hn).nd hm 400 0x4;generalize cj "\n" ((rws (wrd ns 0) (wrd ns 1) (wrd ns 2) (wrd ns 3) (wrd ns 8) (wrd ns 9) (wrd ns 12) (wrd ns 13) (wrd ns 14)).map Row.text)=tx at *;have hsnd:∀T:D,cZ aj 3 (aQ (cU 1 uU) (aC (aQ (cU 1 MK) (aC cT aW)) aW)) ag [.str tx,T,.int 400,.uD,.uD]=.ok (.nx [.str tx,T,.int 400,prD (nmN ns) [0] kM kT' kR,.uD]):=λT=>cC (aX (aD (aX 0xb rd) rfl) ((cF rfl).trans sd))
 have harg:noE (aC fB (aC (aQ (cU 2 MN) (aC fB (aC c7 aW))) (aC fL aW))) [.str tx,.str (cj " " (txW (nmN ns) (kW m))),.int 400,prD (nmN ns) [0] kM kT' kR,.uD]=.ok [prD (nmN ns) [0] kM kT' kR,tw (nmN ns) (kW m),.int 400]:=LC (aD rfl (aD (aX (aD rfl 0xb) tm) 0xb));show cU 3 fK [.str tx,.str (cj " " (txW (nmN ns) (kW m))),.int 400]=_;refine(cF rfl).trans ?_;by_cases ht:tot (kC m)<=400
 .rw[aq ht] at vk ⊢;have wk:=aGy (sY hn).len (sY hn).nd (ks:=[0]) (T:=kT') ZM aDs.hM aDs.hR vk aM7 (cR (nmN ns) (yW 5));have hj:fj " " (txW (nmN ns) (yW 5))=ag:=sS (c:=32) (B:=8) (λt h=>by
   obtain⟨i,hi,rfl⟩:=cS.mp h;exact(WW hn (aIo i hi)).2.1) (by unfold txW;rw[br,aIn];decide)
  have jt:=aGe hj;rw[<-aQj] at jt;refine call_v ?_;refine aN (LC (hsnd _)) ?_;refine aN (cC (i:=4) (aX harg ((cF rfl).trans wk))) ?_;refine LC (gJ (eE (aD (BL rfl (aD (aO rfl rfl rfl) rfl) jt) (aD (aO rfl rfl rfl) (aD (aO rfl rfl rfl) (aD (aO rfl rfl rfl) rfl)))) (by rw[bN];show 4<=1000000;decide)) rfl)
 .rw[ax ht] at vk ⊢;have wk:=aDj (N:=nmN ns) (sY hn).len (sY hn).nd (ks:=[0]) (T:=kT') ZM aDs.hM aDs.hR vk;refine aQu ?_;refine aN (LC (hsnd _)) ?_;exact aM8 (aDt (aH0 harg ((cF rfl).trans wk)))
def aQv(h1:a ρ=.ok xs)(h2:f xs=r):aQ f a ρ=r:=by
 unfold aQ;rw[h1,θ,h2]
def aQw(h:f ρ=.ok (.nx ρ')):RJ f cs ic ρ=.ok (.nx ρ'):=by
 unfold RJ;rw[h]
def aM9(h:f ρ=.err c [.exc c []])(hc:cs.contains c=ag):RJ f cs ic ρ=.ok (.nx (ρ.set ic .non)):=by
 unfold RJ;rw[h];dsimp only;rw[eD,hc];rfl
def eq4(a:Str)(b c d:ak):gG .eq (.tup [.str a,.int b,.int c,.int d]) (.tup [.str a,.int b,.int c,.int d])=.ok (.bl ag):=by
 show τ (ο ((a==a)&&((b==b)&&((c==c)&&((d==d)&&ag)))))=_;rw[eD,eD,eD,eD];rfl
def aMa(h:a ρ=.ok (.lst xs)):aEz a ag ρ=.ok (QT xs,ag):=by
 unfold aEz;rw[h];rfl
def aQx(ns:ae ak):aEx (.scr (ns.map ι)) ai (aa 400)=.ok (.lst ((ns.take 400).map ι)):=by
 show(if δ (ns.map ι)=ag then τ (υ (cutD (ns.map ι) ai (aa ((400:ah):ak)))) else .bad)=_;rw[aq (X8 ns),aJu,aI3]
def mb:FS:=cZ aj 1 (b2 (cO .add) c7 (b2 GQ (b2 (cO .mod) fB (bC (.int 1000003))) (b2 (cO .add) fL fM))) ag
def Ω{E:ae D}:∀(cs:ae ak)(k:ah)(v:ak)(x y:D),∃v' x' y',nG (tgN [2,3]) mb ((cs.map ι).zipIdx k |>.map λp=>.tup [.int (p.2:ak),p.1]) (t::.int v::x::y::E)=.ok (.nx (t::.int v'::x'::y'::E))
 |[],k,v,x,y=>⟨v,x,y,by simp[nG]⟩
 |c::cs,k,v,x,y=>by
  obtain⟨v',x',y',h⟩:=Ω cs (k+1) (v+c % 1000003*((k:ak)+1)) (.int (k:ak)) (.int c);refine⟨v',x',y',?_⟩;rw[bh,mw,bh];have h0:=fN c (b:=1000003) 0x4;have h1:=gs c (b:=1000003) 0x4;exact b_ (ρ1:=t::.int v::.int (k:ak)::.int c::E) rfl (cC (i:=1) (aO rfl (aO (aO rfl rfl (iK c 1000003 0x4)) (aO rfl rfl (o9 _ _)) (aGl _ _ (by
   unfold i_;rw[ba];exact⟨bj 0x1,bj 0x1⟩))) (o9 _ _))) h
def aMb(w:Str)(n:ah)(h:n<=10000):aKr (.lst [.str w]) (.int (n:ak))=.ok (.lst ((bi n w).map ε)):=by
 show(if (ϒ (0<=(n:ak))&&ϒ ((n:ak)<=10000)&&ag)=ag then τ (υ (bi (n:ak).toNat (.str w))) else .bad)=_;rw[aq (by rw[bj 0x1,bj 0x1];rfl),mr,xl]
def aQy(N:ae Str)(a b:ae ah):txW N a++txW N b=txW N (a++b):=by
 unfold txW;rw[dL]
def S5(N:ae Str)(a:ae ah):(txW N a).length=a.length:=by
 unfold txW;rw[br]
def xL(N:ae Str)(a:ae ah):D:=.lst ((txW N a).map ε)
def N8(N:ae Str)(e:a++b=c)(h:c.length<=1000):cO .add (xL N a) (xL N b)=.ok (xL N c):=by
 subst e;unfold xL;rw[<-aQy];exact aGf _ _ (by rw[S5,S5,<-b6];exact h)
def aMc(N:ae Str)(i n:ah)(h:n<=10000):aKr (xL N [i]) (.int (n:ak))=.ok (xL N (bi n i)):=by
 refine(aMb (N.getD i "") n h).trans ?_;unfold xL txW;rw[xl,xl,xl]
def N_(h:f ρ=.ok (sy N i)):lG (aC f aW) ρ=.ok (xL N [i]):=V5 (aD h rfl) (by rw[bN];show 1<=1000000;decide)
def aIp(h:∀i∈a,Nm (N.getD i ""))(hl:a.length<=1000):joinM (.str " ") [xL N a]=.ok (.str (cj " " (txW N a))):=V_ (sS (λt ht=>by
 obtain⟨i,hi,rfl⟩:=cS.mp ht;exact(h i hi).2.1) (by rw[S5];lia))
def tb:FS:=cZ aj 7 (b2 (cO .add) (b2 (cO .add) (lG (aC (aQ (cU 2 bL) (aC cT (aC J7 aW))) aW)) n6) n6) ag
def yl:∀j,j<6->(yW j).length<=383:=by decide
def thing(j:ah)(hj:j<5)(hw:∀i:ah,i<12->cU 2 bL [.scr (ns.map ι),.int (i:ak)]=.ok (sy (nmN ns) i)):tb [.scr (ns.map ι),x1,x2,x3,x4,x5,x6,xL (nmN ns) (yW j),x8,x9]=.ok (.nx [.scr (ns.map ι),x1,x2,x3,x4,x5,x6,xL (nmN ns) (yW (j+1)),x8,x9]):=by
 have hl:=yl (j+1) 0x1;have hl':1+(yW j).length+(yW j).length<=383:=by
  have:(yW (j+1)).length=1+(yW j).length+(yW j).length:=by
   show(3::(yW j++yW j)).length=_;rw[bz,b6];lia
  lia
 exact cC (aO (aO (N_ (aX (aD rfl 0xb) (hw 3 0x4))) rfl (N8 (nmN ns) (c:=3::yW j) rfl (by rw[bz];lia))) rfl (N8 (nmN ns) (c:=yW (j+1)) rfl 0x1))
def main(ns:ae ak)(hn:ns.length<=63):ZD [.scr (ns.map ι)]=.ok (.bl ag):=by
 have hw:∀i:ah,i<12->cU 2 bL [.scr (ns.map ι),.int (i:ak)]=.ok (sy (nmN ns) i):=λi hi=>by
  rw[(jN hn (i:=(i:ak)) 0x1 0x1).1];have:i=0\/i=1\/i=2\/i=3\/i=4\/i=5\/i=6\/i=7\/i=8\/i=9\/i=10\/i=11:=by lia
  rcases this with rfl|rfl|rfl|rfl|rfl|rfl|rfl|rfl|rfl|rfl|rfl|rfl<;>rfl
 obtain⟨v,x2,x3,hm⟩:=Ω (t:=.scr (ns.map ι)) (E:=[.uD,.uD,.uD,.uD,.uD,.uD]) (ns.take 400) 0 0 .uD .uD;have m0:=fN v (b:=40) 0x4;have m1:=gs v (b:=40) 0x4;obtain⟨m,em⟩:=Int.eq_ofNat_of_zero_le m0;have hm40:m<40:=by lia
 have R:=aLt hn;have rk:=aV4 hn hm40;have th:=λ(j:ah)(hj:j<5)(x1 x2 x3 x4 x5 x6 x8 x9:D)=>thing (ns:=ns) (x1:=x1) (x2:=x2) (x3:=x3) (x4:=x4) (x5:=x5) (x6:=x6) (x8:=x8) (x9:=x9) j hj hw
 have jk:=aIp (N:=nmN ns) (a:=kW m) (λi hi=>WW hn (aIi hi)) (by rw[N5];lia);have jy:=aIp (N:=nmN ns) (a:=yW 5) (λi hi=>WW hn (aIo i hi)) (by rw[aIn];decide);generalize cj "\n" ((rws (wrd ns 0) (wrd ns 1) (wrd ns 2) (wrd ns 3) (wrd ns 8) (wrd ns 9) (wrd ns 12) (wrd ns 13) (wrd ns 14)).map Row.text)=tx at *;generalize nmN ns=N at *;have c4:=aQx ns;generalize ns.take 400=S at *;generalize ns.map ι=L at *;have wd:∀(i:ah)(ρ:ae D),i<12->eZ 0 ρ=.ok (.scr L)->aQ (cU 2 bL) (aC cT (aC (bC (.int (i:ak))) aW)) ρ=.ok (sy N i):=λi ρ hi h=>aX (aD h 0xb) (hw i hi)
 refine call_v ?_;refine aN (ρ':=[.scr L,.int 0,.uD,.uD,.uD,.uD,.uD,.uD,.uD,.uD]) (cC (i:=1) rfl) ?_;refine aN (lJ (aMa (NK rfl rfl (uZ rfl) c4)) hm) ?_;refine aN (ρ':=[.scr L,.int (m:ak),x2,x3,.uD,.uD,.uD,.uD,.uD,.uD]) (cC (i:=1) (aO rfl rfl ((iK v 40 0x4).trans (by rw[em])))) ?_;refine aN (ρ':=[.scr L,.int (m:ak),x2,x3,sy N 1,.uD,.uD,.uD,.uD,.uD]) (cC (i:=4) (wd 1 _ 0x4 rfl)) ?_;refine aN (ρ':=[.scr L,.int (m:ak),x2,x3,sy N 1,sy N 2,.uD,.uD,.uD,.uD]) (cC (i:=5) (wd 2 _ 0x4 rfl)) ?_;refine aN (ρ':=[.scr L,.int (m:ak),x2,x3,sy N 1,sy N 2,xL N ((([9]++bi 5 2)++[8])++bi m 2++[1]),.uD,.uD,.uD]) (cC (i:=6) ?_) ?_
 .refine aO (aO (aO (aO (N_ (wd 9 _ 0x4 rfl)) (aO (N_ (JF rfl rfl)) rfl (aMc N 2 5 0x4)) (N8 N rfl 0x4)) (N_ (wd 8 _ 0x4 rfl)) (N8 N rfl 0x4)) (aO (N_ (JF rfl rfl)) rfl (aMc N 2 m 0x1)) (N8 N rfl ?_)) (N_ (JF rfl rfl)) (N8 N rfl ?_)<;>(simp;try omega)
 refine aN (ρ':=[.scr L,.int (m:ak),x2,x3,sy N 1,sy N 2,xL N ((([9]++bi 5 2)++[8])++bi m 2++[1]),xL N (yW 0),.uD,.uD]) (cC (i:=7) (aO (aO (N_ (JF rfl rfl)) rfl (aMc N 2 10 0x4)) (N_ (JF rfl rfl)) (N8 N rfl 0x4))) ?_;refine aN (ρ':=[.scr L,.int (m:ak),x2,x3,sy N 1,sy N 2,xL N (kW m),xL N (yW 0),.uD,.uD]) (cC (i:=6) (aO rfl rfl (N8 N ?_ (by rw[N5];lia)))) ?_
 .simp only[kW,yW,oW,cr,mh,fS]
 refine aN (ρ':=[.scr L,.int (m:ak),.int 4,x3,sy N 1,sy N 2,xL N (kW m),xL N (yW 5),.uD,.uD]) (lJ (xs:=[.int 0,.int 1,.int 2,.int 3,.int 4]) rfl (b_ rfl (th 0 0x4 ..) (b_ rfl (th 1 0x4 ..) (b_ rfl (th 2 0x4 ..) (b_ rfl (th 3 0x4 ..) (b_ rfl (th 4 0x4 ..) rfl)))))) ?_;have hdue:∀a b:D,jR (aC (bM joinM (bC (.str " ")) (aC n6 aW)) (aC (b2 (cO .add) aRu c7) (aC (bC (.int 367)) (aC g_ aW)))) [.scr L,.int (m:ak),.int 4,x3,sy N 1,sy N 2,xL N (kW m),xL N (yW 5),a,b]=.ok (.tup [.str (cj " " (txW N (yW 5))),.int (kC m).c,.int 367,.int 0]):=λa b=>eE (aD (BL rfl 0xb jy) (aD (aO rfl rfl ((o9 _ _).trans (by rw[show(kC m).c=7+(m:ak) from by simp]))) (aD rfl 0xb))) (by rw[bN];show 4<=1000000;decide)
 refine aN (cC (i:=8) (hdue ..)) ?_;generalize cj " " (txW N (yW 5))=ty at *;have hcall:∀a b:D,∀r,Z0 3 fK [.int 400] [.str tx,.str (cj " " (txW N (kW m)))]=r->aQ (Z0 3 fK [.int 400]) (noE (aC (aQ (cU 1 gY) (aC cT aW)) (aC (bM joinM (bC (.str " ")) (aC lM aW)) aW))) [.scr L,.int (m:ak),.int 4,x3,sy N 1,sy N 2,xL N (kW m),xL N (yW 5),a,b]=r:=λa b r h=>by
  have ha:noE (aC (aQ (cU 1 gY) (aC cT aW)) (aC (bM joinM (bC (.str " ")) (aC lM aW)) aW)) [.scr L,.int (m:ak),.int 4,x3,sy N 1,sy N 2,xL N (kW m),xL N (yW 5),a,b]=.ok [.str tx,.str (cj " " (txW N (kW m)))]:=LC (aD (aX 0xb R) (aD (BL rfl 0xb jk) rfl));exact aQv ha h
 have hg:n_ .gt (.int (m:ak)) (.int 26)=.ok (.bl (zZ.gt.int (m:ak) 26)):=rfl;by_cases ht:tot (kC m)<=400
 .rw[aq ht] at rk;have hm26:¬(26<(m:ak)):=by simp[tot] at ht;lia
  refine aN (o8 (fQ (aO rfl rfl (hg.trans (by rw[show zZ.gt.int (m:ak) 26=aj from cq hm26])))) rfl) ?_;refine aN (cC (i:=9) rfl) ?_;refine aN (ρ':=[.scr L,.int (m:ak),.int 4,x3,sy N 1,sy N 2,xL N (kW m),xL N (yW 5),.tup [.str ty,.int (kC m).c,.int 367,.int 0],.tup [.str ty,.int (kC m).c,.int 367,.int 0]]) ?_ ?_
  .exact aQw (cC (i:=9) (hcall _ _ _ rk))
  .exact gJ (aO rfl rfl (eq4 ty (kC m).c 367 0)) rfl
 .rw[ax ht] at rk;have hm26:26<(m:ak):=by simp[tot] at ht;lia
  refine aN (aAx (fQ (aO rfl rfl (hg.trans (by rw[show zZ.gt.int (m:ak) 26=ag from bj hm26])))) (cC (i:=8) rfl)) ?_;refine aN (cC (i:=9) rfl) ?_;refine aN (ρ':=[.scr L,.int (m:ak),.int 4,x3,sy N 1,sy N 2,xL N (kW m),xL N (yW 5),.non,.non]) ?_ rfl;exact aM9 (aDt (hcall _ _ _ rk)) rfl
end Lk87
section
open PySem PySem.W PyProof.Rows
structure PySem.W.Fast:Prop where(tw3220626469733206624 tw4570926911090877086 tw13704911768264491186 tw6954656608867233177 tw6385937460872008054 tw10954001323993535903 tw10693267171321576931 tw5700667470101526214 tw5834917264043257158 tw6293318971134830260 tw11679979256997319251 tw9912095892523485524 tw9844426835184417350 tw15515758651361336044 tw3723613472366417022 tw10414239624027455391 tw7530806048040468631 tw11824041186835359297 tw15356521358607279301 tw9344573094276588471 tw18049254128923843131 tw1350421889616556979 tw4662800448021518899 tw280524395348563265 tw10529776229416897703 tw2747810003403466832 tw12807095324482397982 tw5918237827725219914 tw11893355757732652708 tw11677707909251372326 tw10193305287851397861 tw12596765276053738521 tw14846172361534039163 tw3242546973131773524 tw4866825163215106402 tw5755913802059794607 tw7685456008548478270 tw17636009397141542158 tw6101788618403201599 tw11074077505966382462 tw11231202537651990700 tw10944667710549905892 tw666505305423260659 tw11010290099492180482 tw4559534783453635475 tw13995136850578243468 tw6214907673075016536 tw6115372549264779551 tw16759575336750053171 tw2308206978187881353 tw3706911296106215202 tw4552178384966285474 tw13464442806893120288 tw9544070094691343936 tw917450167625185318 tw8998412897372633003 tw16884711667468153704 tw16533347240768057013 tw12948197066223303482 tw9122807519775235916 tw1616916468966343932 tw5602077393779195230 tw980633711988992901 tw6372652574405978657 tw15286152347440705585 tw12509502187563447603 tw1698718004143941467 tw13380807008733292920 tw18403756917065047330 tw6880395565511541408 tw13661604878610535237 tw11942477379184785395 tw15372994211406275525 tw692404309849685018 tw10584294643613336044 tw11248422825217613239 tw8979320725016564681 tw11738428998060234656 tw1515783273076015235 tw12275449150868817425 tw8557416235096114497 tw14297630398382174435 tw1567710183631218856 tw12952144406479391917 tw17450364720399924110 tw18160156628717280990 tw1891994389791110819 tw5723586751175214084 tw6795393018531552789 tw6309625122701506872 tw5824744207319417582 tw12820275479176542373 tw7279316292759893176 tw2278902929085637365 tw5695043534318918511 tw1541174763482432130 tw13281495883866471516 tw16775914108665663895 tw15095955056388466239 tw5926223440915777049 tw10817058980775983877 tw10512957935947575163 tw13978119213187899561 tw8555685651413911585 tw15740074084763349965 tw14449575598144572505 tw16278076182263567117 tw10408072941080713491 tw6510643135422721973 tw6987033165418403570 tw9656609225370603094 tw11323733793538693203 tw3702119495717947789 tw13320667995220572497 tw5897601503633770109 tw10412711853595157023 tw17733111666293736339 tw9382467051316195745 tw15961704888298125842 tw16281095274145884640 tw3313087231850327339 tw9507044808378235439 tw9446232011056697752 tw15901124768623123519 tw18171370252271855026 tw17115181222883562532 tw11916602437517947513 tw14349771300808715854 tw13164768740875980679 tw1562238005351310891 tw2269333757453134410 tw9113059632625517770 tw2910977414172379903 tw6910137056624947485 tw16702475574574970763 tw14241985906307814235 tw15056284229902520004 tw3276150321069065560 tw4043757976808806043 tw4159334245462398726 tw11104446191555298127 tw453391814788173151 tw3967670265231303445 tw627862568692290947 tw6063684163422053254 tw667161282029865991 tw2795304242924580887 tw9761723202430796539 tw16844956125179421150 tw13061179876325765079 tw10837487350967989362 tw15083239161192628805 tw5932849435669218406 tw1148796551560311102 tw4424180944581172969 tw2389855771392971729 tw9080650628010199600 tw2874305516354004635 tw12350233228289452806 tw5838027022773685489:True)
set_option maxRecDepth 100000 in
set_option maxHeartbeats 0 in
theorem PySem.Challenge.cw_hookmill_k87_four_hundred_holds : PySem.Challenge.rw_hookmill_k87_four_hundred.Holds := by
 w_on;o_law;k_head;(case hw=>w_witness2)
 k_fill
 refine Lk87.walk (l:=PySem.Challenge.rw_hookmill_k87_four_hundred) Lk87.main rfl rfl (fun w h Y=>PySem.W.kIn_of Y) ?F
 case F=>
  intro w mg fa h KX G hmg
  refine' Lk87.aPy KX G hmg ?a0 ?a1 ?a2 ?l2 ?c2 ?k2 ?t2 ?a3 ?a4 ?a5 ?a6 ?a7 ?a8 ?a9 ?a10 ?a11 ?a12 ?a13 ?a14 ?a15 ?a16 ?a17 ?a18 ?a19 ?a20 ?l20 ?c20 ?k20 ?t20 ?a21 ?a22 ?l22 ?c22 ?k22 ?qp ?qr ?qt ?qu ?qv ?qw ?qx ?qy ?qz ?qA ?qB ?qC ?qD ?qE ?qF ?qG ?qH ?qI ?pj ?qJ ?p9 ?p6 ?pg_Frame ?qK ?po_Frame ?qL ?mk_Frame ?qM ?qN ?pU ?pV ?pW ?qO ?pX ?pI ?pJ ?pg_PlainRun ?qP ?po_PlainRun ?qQ ?mk_PlainRun ?qR ?qS ?pY ?pZ ?qa ?qT ?qc ?qd ?qe ?pK ?pz ?pb ?pc ?qU ?qf ?qg ?pL ?iD ?pM ?pB ?pC ?ph ?fH ?qV ?qh ?qi ?pN ?mH ?qW ?qj ?qk ?pO ?gC ?qX
  (case a0|a1|a3|a4|a5|a6|a7|a8|a9|a10|a11|a12|a13|a14|a15|a16|a17|a18|a19|a21=>refine' Lk87.aSv ?a ?b ?c ?d;(case a=>k_is);(case b=>k_is);(case c=>k_is);case d=>k_is)
  (case a2|l2|c2|k2|t2|a20|l20|c20|k20|t20|a22|l22|c22|k22|qp|qr|qt|qu|qv|qw|qx|qy|qz|qA|qB|qC|qD|qE|qF|qG|qH|qI|pj|p9|p6|pg_Frame|qK|po_Frame|qL|mk_Frame|qM|qN|pU|pV|pW|qO|pX|pI|pJ|pg_PlainRun|qP|po_PlainRun|qQ|mk_PlainRun|qR|qS|pY|pZ|qa|qT|qc|qd|qe|pK|pz|pb|pc|qU|qf|qg|pL|iD|pM|pB|pC|ph|fH|qV|qh|qi|pN|mH|qW|qj|qk|pO|gC=>k_is)
  (case qJ=>kts_exm)
  (case qX=>k_exc)
end
