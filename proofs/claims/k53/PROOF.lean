import PyProof.Rows.All
import Wide.All
import OpenK.AllK
import Wide.FinOn
import PySem.Challenge.RW_hookmill_k53_one_call
open Array renaming getElem?_eq_some_iff->sr,length_toList->sP,getElem?_eq_getElem->wx,getElem?_eq_none->wy,toList->yh,getElem?_toList->zi,ext'->AB,append_assoc->AY,forIn_toList->CB
open Bool renaming true->ag,false->ak,and_eq_true->aS,false_ne_true->iO,false_eq_true->i5,or_eq_true->i8,true_and->mE,and_self->mP,and_true->wn,not_eq_true'->wq,or_false->zg,false_or->zj,and_assoc->zq,eq_false_iff->zy,beq_eq_decide_eq->A5,false_and->Bc,and_false->BG
open Classical renaming choose->D0,choose_spec->D1,byContradiction->D2
open Eq renaming trans->xI
open False renaming elim->d6
open ForInStep renaming yield->BB
open Function renaming comp_def->DZ,comp->D3
open Int renaming toNat_natCast->gV,emod_nonneg->su,emod_lt_of_pos->sv,add_assoc->sx,le_refl->sA,natCast_mul->zt,zero_add->AD,add_zero->AL,mul_one->Be,zero_mul->DC
open List renaming length_map->az,range->aE,map_cons->bd,length_append->bq,length_cons->br,size_toArray->b9,mem_cons->cg,getD_eq_getElem?_getD->cj,replicate->cq,append_assoc->cu,append_nil->cv,map_append->cw,mem_map->cK,mem_cons_self->de,mem_cons_of_mem->dg,map->di,getElem?_set_ne->dm,getElem?_eq_getElem->dq,map_map->dw,getElem?_eq_some_iff->dA,getElem?_append_left->eu,length_singleton->eB,getElem?_set_self->eD,mem_append->eP,mem_append_right->eS,length_range->ff,length_nil->fj,nil_append->fq,nodup_cons->fy,getElem?_append_right->fI,reverse_cons->fN,length->f_,map_nil->gi,nodup_nil->gj,mem_map_of_mem->gl,mem_range->gq,lookup_cons->gL,range'->hI,mem_filter->hX,getElem?_map->ib,all_eq_true->ig,drop_eq_getElem_cons->ii,drop_eq_nil_of_le->ik,getElem?_eq_none->iu,nodup_append->iw,flatten_cons->iA,all_cons->i7,length_reverse->jb,forall_mem_cons->jc,length_take->jg,length_set->jk,mem_append_left->jr,getElem?_replicate->jy,any_cons->ka,forIn_nil->ke,range'_succ->ko,lookup->kL,mem_of_getElem?->kP,find?_cons->lg,mem_singleton->ll,sum_cons->lI,length_drop->mq,take_append_drop->nV,filterMap_cons->ol,of_mem_zip->oq,length_replicate->ot,forIn_cons->oB,getElem?_set->oP,drop_zero->sg,take_of_length_le->sh,length_filter_le->sw,cons_append->wt,map_take->wz,getElem_mem->xj,dropLast_eq_take->xm,length_zip->xu,mem_range'_1->xD,getElem_map->xE,mem_filterMap->yi,ext_getElem->zu,map_drop->zv,mem_of_mem_take->zz,drop_succ_cons->Ax,dropLast_concat->Ay,reverse_append->AA,replicate_succ->AC,pairwise_map->AE,nodup_range'->AF,range_eq_range'->AH,length_pos_iff->AI,take_left->AJ,drop_left->AK,filter_cons->AN,getElem_inj->AZ,map_congr_left->BY,sum_append->Ca,zip_nil_right->Cj,dropLast_subset->Ck,getElem_cons_zero->Cm,getElem_cons_succ->Co,countP_cons->Cr,getElem?_eq_none_iff->Cs,zipIdx_cons->Cw,zipIdx_nil->Cy,getElem?_dropLast->CO,set_set->CU,take_succ_cons->CY,take->C0,drop->C1,mem_reverse->C9,map_reverse->Di,forall_mem_nil->Dl,foldl_cons->Do,append_cancel_right->Dp,nodup_iff_pairwise_ne->Dr,getElem_range->Du,getElem?_range->Dv,length_range'->Dw,perm_append_comm->Dx,nodup_range->Dy,ne_nil_of_mem->Dz,count_le_length->DA
open List.Pairwise renaming imp_of_mem->Ds,nil->DU
open List.cons renaming injEq->Dq,inj->En
open Nat renaming le_refl->bt,ne_of_lt->cy,le_trans->dj,lt_of_lt_of_le->dQ,zero_le->ef,lt_irrefl->hU,ne_of_gt->iP,lt_of_not_le->kh,lt_or_ge->lq,lt_succ_self->ma,le_succ->mh,lt_succ_of_lt->mw,lt_of_le_of_lt->oI,add_assoc->sB,le_add_right->xw,le_of_lt->ye,le_of_eq->yr,add_zero->zr,not_lt_zero->Ab,sub_self->Au,add_right_comm->Az,min_eq_left->AG,zero_add->AM,succ_mul->AO,lt_of_succ_lt_succ->Cp,add_sub_cancel->Dc,add_comm->Dd,min_eq_right->Dt,min_self->DB
open Nat.succ renaming inj->oQ
open Option renaming some->aa,none->aj,map_eq_some_iff->i0,isSome_iff_exists->yy,getD_some->zo,getD_none->Bs,isSome_map->By,bind_some->Dm
open Option.some renaming inj->fE,injEq->Em
open Or renaming inl->gz
open PyProof.Rows renaming envOfC->eW,AllBare->iE,callWith_type1->jv,IsTup->kC,slot_tuple_getitem->ou,IntsAre->oz,subscriptTail->wf,tupleItemsOf_->za,slicePart_none->Bn,subscriptTail_builtinR->Bq,len_tuple->C2,callWith_builtin1->DJ,getItem_tuple->Ee
open PySem renaming Addr->al,Value->am,wpAny_bind->aq,Shared->au,model->ay,Heap->aI,wpAny_pure->bc,mainGlobals->bj,Obj->bn,sizeLine->bo,World->bu,Stmt->bz,Program->bS,starEach->b5,Around->b6,Pos->ck,rawInt->cz,Env->c_,wpAny_field->dn,sizeLine_eq->dv,swapsWith->dy,Builtin->dz,cLine->dE,bootBuiltins->dS,FuncData->d4,Tok->eg,compareOp->em,foldedSetIterable->en,binaryOp->eI,wpAny_holding->eL,wpAny_mono->fg,Scope->ft,attributeBase->fx,strIterType->fz,backTo->fF,tupleKind->fT,sysModules->gp,wpAny_of_eq->gN,wpAny_Call_Name_kw->hZ,wpAny_seqItems->ir,behindInMarks->iN,pyNext->iS,NameKind->iX,relabel->i6,typeLookup_type->i9,builtinLookup_eq_fast->ja,assignEach->jd,IsPart->jh,wpAny_newObj_type->ji,stored->jn,Keyword->jq,rule->js,wpAny_execs_nil->jt,PassesOwn->ju,bindL->jw,bindC->jx,wpAny_callSpecial?_slot->jz,wpAny_typeOf->jI,call_meets->jS,atKey->kb,wpAny_attempt->kj,Meets->kl,wpAny_rule->kq,spliced->kF,assign->kG,wpAny_passesOwn->kH,holding->kK,BindsTo->kM,wpAny_call->kN,getItem->kT,wpAny_call_entry->k9,typeLookup->la,sliceBounds->lc,Slot->lf,storedH->lh,merged->li,callerA->lj,wpAny_specialOf->lu,codeAny_builtin->lz,Paired->l8,pyIter->l9,codeAny_mono->mf,mem_of_lookup->mj,valueAt->mv,compPost->mz,wpAny_pyIter_list->mM,numAt->mT,entryFor->nj,table->nt,wpAny_setField_rec->nu,plainId->ny,isSubtype_type->nB,argsOk->nE,wpAny_setField->nI,backToKw->og,keywordEach->oj,letOwnedTupleGo->om,typeOf->ow,JoinOk->oS,GenState->r_,Drawn->se,OsState->sf,wpAny_ite_split->si,Str->sC,Within->sD,isTrue->sF,wpAny_BinOp->sK,CmpOp->sL,wpAny_truthy_bool->sM,wpAny_execs_cons->sQ,wpAny_pyNext_list_item->sR,wpAny_pyNext_list_end->s0,unaryOp->s_,subscripted->wg,tupleKind_room_in1->wl,ItemsOf->wr,codeAny_call_builtin->xg,getAttr?->xh,retInt->xn,wpAny_mkInt->xo,updateSeq->xp,field->xq,wpAny_isInstance->xt,callType_codes->xv,wpAny_updateSeq->xA,IsTupleKey->xB,builtinsNs->yd,wpAny_Name->yf,intBits_le_64->yg,standAt->yj,getAttr->yl,getMethod->yo,cellsFrom->yx,concat_meets->yz,noFill_tuple_add->yA,seq_tuple_add->yB,seqIndex?->zb,seqIndex_of->zc,seqIndex_neg->zd,operate->ze,typeIs_str->zf,PlainAttrs->zh,call->zn,isInstance->zx,Fin->zC,entryFor_alias->zD,entryFor_of_tree->zS,wpAny_onRaise->Ae,wpAny_letGo->Af,wpAny_tryCatch->Ai,dictSet->Aj,kt_code_dict_new->An,wpAny_notOrdered_dict->Ap,signature?_of->Aq,noteFrame->Av,wpAny_isTrue_Compare1->A6,interactive->A7,assignInOrder->A8,swapsWithSole->A9,swappedStores->Ba,wpAny_Assign_Name->Bb,IsRangeIter->Bd,wpAny_loadPart->Bi,recursionLimit->Bk,evalPart_none->Bp,slot_list_getitem->Br,call_list_seq->Bu,comprehension->BC,eval_ListComp->BD,wpAny_pyIter_tuple->BS,wpAny_standAt->BU,wpAny_Assign_Subscript->B0,checkBuiltinCall->B8,wpAny_raiseAttrError->Cd,attrMsg_fits->Ce,sub_AttributeError->Cg,getattributeRaised->Ci,slot_listiter_next->Cu,wpAny_newTuple->Cz,callType_new->CD,isSubtype_stop->CL,wpAny_dictSet_pairs->CM,plainId_quiet->C6,wpAny_loadPart'->Dg,wpAny->ϑ
open Decidable renaming decide->ϒ
open PySem.Around renaming under_plainId->nw,under->yt
open PySem.AutoSeq1 renaming sub_list_list->Ek
open PySem.BindsTo renaming of_defaults->nX
open PySem.Builtin.Dict renaming addKeywords->Ah
open PySem.Builtin.List renaming listTooLong->ox,listExtendWith->xy,listLengthHint->C4,listSameRef->C5,listItems->C8,listFitsIndex->Eg,listUpdate->Eh
open PySem.Builtin.Range renaming rangeSize->DD
open PySem.Builtin.Slice renaming slicePlaces->we,sliceAdjust->y8,sliceApplied->Bo,slicePartIndex->DL,sliceFields->DM
open PySem.Builtin.SmallTypes renaming nextOf->km,ownedTupleIsFree->Ag,ownedTupleHandOut->D8,newRecord->Ed,stopIteration->Ef
open PySem.Builtin.Str renaming occurrences->Bf,strSliceIndices->B2,tooLong->D4,glued->El
open PySem.Builtin.Tuple renaming tupleItemsOf->y9
open PySem.Calls renaming spliced_nil->md,spliced_cons->me,Name_function_global->A0,callWith_builtin->Bv,evalArgs_plain->Bw
open PySem.CmpOp renaming In->A3,NotIn->A4
open PySem.Code renaming quiet_builtin->ly,isFrame->yu,frames->Bl
open PySem.Data renaming seq->AW
open PySem.DictEntry renaming refKey->DE
open PySem.EntryCells renaming newEntry->Da
open PySem.F renaming plainAttrs_list->io,slot_list_append->j3,type_list_append->lx,slot_list_pop->wj,slot_tuple_iterator_next->xl,slot_zip_next->xr,slot_tuple_add->yT,entry_tuple_add->yY,args_tuple_add_2->y6,slot_zip_getattribute->zI,type_list_pop->Aa,slot_tuple_index->Ac,slot_tuple_count->Ad,kt_called_dict->Ak,kt_typeCall_dict_1->Al,entry_dict_init->Am,args_dict_init_2->Ao,slot_list_getattribute->As,excBase_ValueError->B4,excAttr_ValueError->B9,entry_tuple_iterator_next->Cb,args_tuple_iterator_next_1->Cc,slot_dict_items->Ct,entry_zip_next->CH,args_zip_next_1->CI,plain_extend_loop->C7,slot_list_extend->Dh,plainAttrs_tuple->Dk
open PySem.Heap renaming lt_size->bE,get?_push_of_some->bX,get?_push_size->dh,size_push->eJ,SameBut->eR,get?_update_self->jj,get?_update_other->mr,ExtBut->xk,MadeExcOf->B3,NewAttrErr->Cf
open PySem.Heap.DictOf renaming new->zk
open PySem.Heap.DictOfH renaming new->Ei
open PySem.Heap.IsList renaming push->D9
open PySem.Heap.IsSliceOf renaming new->DO
open PySem.Heap.Ns1 renaming of_empty->DI
open PySem.Heap.SameBut renaming update->nh,refl->CA
open PySem.Heap.UpToSlots renaming trans->Df,of_keeps->Ej
open PySem.IsL renaming update->DS
open PySem.IsiPair renaming dict_int->BH,dict_str->BI,dict_bool->BM,dict_list->BN,dict_tuple->BO,dict_dict->BQ
open PySem.Manifest renaming owners->Ea,sig_reversed->Eb
open PySem.MeetsSeq renaming EqGives->Cq,list_pop_last->DT
open PySem.NameKind renaming free->kf,cell->zp
open PySem.Obj renaming mapSeq->gx,mapFields->ng,data_mapFields->nK,isFreed_of_fields->Ar,cls_mapFields->C3
open PySem.Paired renaming length->jo,snoc->Bx
open PySem.PassesOwn renaming never->eM,leaving->Dj
open PySem.SeqAt.EqAt renaming int_str->AS,str_int->AT,same->BE,of_refs->BF
open PySem.Shared renaming heap->CC
open PySem.Str renaming ofString->l7,empty->yq
open PySem.Txt renaming slice->iq,join->rc,mul->wu,slice_le->wv
open PySem.Value renaming ref->du,none->fS,type->gm,int->n4,str->n9,builtin->xi,bool->xL,isInt->AQ,isStrOf->AR,bytes->AU,float->AV
open PySem.Value.ref renaming inj->D5
open PySem.W renaming Frag->bi,keepIn->gw,kitOne->iz,findIn->je,emptyDict->jf,instObj->jp,fnOf->kQ,nsIn->lp,kitAny->nN,lookIn->v8,plainGet->v9,codeIn->wa,mroIn->w_,exmOne->xC,methodObj->ya,hideAll->yb,of_hideAll->yc,hasDictIn->yk,plainGet_of->ym,isFn->yn,takerIn->yp,callWith_K->yw,excIn->zw,kia_one->Aw,hideAll_get->AX,handedIn->Bg,plainOver->Bh,makesIn->Bj,cellsFrom_some->Bm,looks_mroIn->B6
open PySem.W.KF renaming slot_gs->B7
open PySem.W.Looks renaming ld->B5,here->DF
open PySem.W.WData renaming int->Bz
open PySem.W.WShape renaming has->BA
open PySem.Within renaming cons->DH
open Std.Legacy.Range renaming forIn_eq_forIn_range'->D6,size->D7
open Sum renaming inl->kx,inr->kz
open _root_ renaming List->ae,Nat->ah,Int->ai,if_pos->ao,Option->ar,Bool->aw,if_neg->ax,absurd->aT,Array->bp,decide_eq_true->bw,False->cb,congrArg->cf,decide_eq_true_eq->cx,decide_eq_false->cS,DecidableEq->dP,of_decide_eq_true->d5,if_true->e9,beq_eq_false_iff_ne->fA,String->fR,if_false->gf,True->gn,beq_iff_eq->gu,not_or->mI,beq_self_eq_true->wm,dif_pos->wo
theorem zA0(h:True:=by decide):True:=h
def Λ:Lean.Syntax:=zA0._auto_1
theorem zA1(h:True:=by rfl):True:=h
def Ω:Lean.Syntax:=zA1._auto_1
theorem zA2(h:True:=by first|exact .inl rfl|exact .inr rfl|assumption):True:=h
def Ξ:Lean.Syntax:=zA2._auto_1
set_option Elab.async false
set_option maxRecDepth 100000
set_option maxHeartbeats 4000000
noncomputable section
local macro_rules|`(0x0)=>`(by trivial)|`(0x1)=>`(by lia)|`(0x2)=>`(by simp)|`(0x3)=>`(by rfl)|`(0x4)=>`(by decide)|`(0x5)=>`(by with_unfolding_all rfl)|`(0x6)=>`(by decide +kernel)|`(0x7)=>`(by intro z;cases z)|`(0x8)=>`(by kernel_rfl)|`(0x9)=>`(by refine⟨rfl,?_,?_,?_,?_,?_,?_⟩<;>decide +kernel)|`(0xa)=>`(by refine⟨rfl,rfl,rfl,?_,rfl,?_,?_⟩<;>decide +kernel)
set_option linter.all false
set_option autoImplicit true
set_option genSizeOfSpec false
set_option genInjectivity true
abbrev nDb(x:sC):Prop:= (x==("__debug__" : sC))=ak
abbrev nCd(x:sC):Prop:= (x==("__classdict__" : sC))=ak
namespace L2
open PySem PySem.Spec PyProof.Rows
noncomputable abbrev Key:=Sum ai Str
noncomputable def QM:Key->am->aw
 |.inl k,v=>AQ k v
 |.inr x,v=>AR x v
noncomputable def aTd(w:bu):Key->ai
 |.inl k=>hashInt k
 |.inr x=>hashStr w x
theorem cV:∀{k:Key}{v:am},QM k v=ag->(∃i t,k=kx i/\v=n4 i t)\/(∃x t,k=kz x/\v=n9 x t)
 |.inl i,v,h=>by
  obtain⟨t,e⟩:=Value.isInt_shape h;exact .inl ⟨i,t,rfl,e⟩
 |.inr x,v,h=>by
  obtain⟨t,e⟩:=Value.isStrOf_shape h;exact .inr ⟨x,t,rfl,e⟩
theorem ZV(i:ai)(t:eg):QM (.inl i) (.int i t)=ag:=by simp[QM,AQ]
theorem ZW(x:Str)(t:eg):QM (.inr x) (.str x t)=ag:=by simp[QM,AR]
theorem aLu(a b:ai):ϒ ((kx a:Key)=kx b)=(a==b):=by
 by_cases e:a=b
 .subst e;simp
 .have h:¬(kx a:Key)=kx b:=λq=>e (Sum.inl.inj q)
  rw[cS h];exact(fA.mpr e).symm
theorem aLv(a b:Str):ϒ ((kz a:Key)=kz b)=ϒ (a=b):=by
 by_cases e:a=b
 .subst e;simp
 .have h:¬(kz a:Key)=kz b:=λq=>e (Sum.inr.inj q)
  rw[cS h,cS e]
theorem aLw(a:ai)(b:Str):ϒ ((kx a:Key)=kz b)=ak:=cS (λq=>nomatch q)
theorem aLx(a:Str)(b:ai):ϒ ((kz a:Key)=kx b)=ak:=cS (λq=>nomatch q)
def cN(prog:bS)(w:bu):PySem.KeyKind prog w Key where
 is:=QM
 hash:=aTd w
 inj:=λv a b ha hb=>by
  rcases cV ha with ⟨i,t,rfl,rfl⟩|⟨x,t,rfl,rfl⟩
  .rcases cV hb with ⟨j,u,rfl,e⟩|⟨y,u,rfl,e⟩
   .injection e with e1 _;rw[e1]
   .exact nomatch e
  .rcases cV hb with ⟨j,u,rfl,e⟩|⟨y,u,rfl,e⟩
   .exact nomatch e
   .injection e with e1 _;rw[e1]
 byValue:=λk v h=>by
  rcases cV h with ⟨i,t,rfl,rfl⟩|⟨x,t,rfl,rfl⟩<;>rfl
 pyHash:=λhv h=>by
  rcases cV hv with ⟨i,t,rfl,rfl⟩|⟨x,t,rfl,rfl⟩
  .exact wpAny_pyHash_int h
  .exact wpAny_pyHash_str h
 eqBool:=λhu hv h=>by
  rcases cV hu with ⟨i,t,rfl,rfl⟩|⟨x,t,rfl,rfl⟩
  .rcases cV hv with ⟨j,u,rfl,rfl⟩|⟨y,u,rfl,rfl⟩
   .rw[aLu] at h;exact wpAny_eqBool_int h
   .rw[aLw] at h;exact AS i t y u _ _ _ _ h
  .rcases cV hv with ⟨j,u,rfl,rfl⟩|⟨y,u,rfl,rfl⟩
   .rw[aLx] at h;exact AT x t j u _ _ _ _ h
   .rw[aLv] at h;exact wpAny_eqBool_str h
 «strs»:=λk x t v h=>by
  rcases cV h with ⟨i,u,rfl,e⟩|⟨y,u,rfl,e⟩
  .exact nomatch e
  .injection e with e1 _
   subst e1;cases v<;>rfl
theorem QR(prog:bS)(w:bu)(i:ai)(t:eg):(cN prog w).is (.inl i) (.int i t)=ag:=ZV i t
theorem QS(prog:bS)(w:bu)(x:Str)(t:eg):(cN prog w).is (.inr x) (.str x t)=ag:=ZW x t
inductive V where
 |non|bl (b:aw)|int (i:ai)|str (x:Str)|byt (b:bp UInt8)|flt (b:UInt64)|ref (a:al)|ty (n:fR)
 deriving dP
def RelV:V->am->Prop
 |.non,u=>u=fS
 |.bl b,u=>u=xL b
 |.int i,u=>∃t,u=n4 i t
 |.str x,u=>∃t,u=n9 x t
 |.byt b,u=>∃t,u=AU b t
 |.flt b,u=>∃t,u=AV b t
 |.ref a,u=>u=du a
 |.ty n,u=>u=gm n
abbrev Vals:ae V->ae am->Prop:=l8 RelV
theorem Vals.length(r:Vals xs us):xs.length=us.length:=jo r
theorem Vals.get:∀{xs:ae V}{us:ae am}{i:ah}{x:V},Vals xs us->xs[i]?=aa x->∃u,us[i]?=aa u/\RelV x u
 |_,_,_,_,.nil,e=>by simp at e
 |_,_,0,_,.cons r _,e=>by simp at e;subst e;exact⟨_,rfl,r⟩
 |_,_,i+1,x,.cons _ t,e=>by
  obtain⟨u,h1,h2⟩:=Vals.get t (by simpa using e);exact⟨u,by simpa using h1,h2⟩
theorem Vals.set(r:RelV x u):∀{xs:ae V}{us:ae am}(i:ah),Vals xs us->Vals (xs.set i x) (us.set i u)
 |_,_,_,.nil=>.nil
 |_,_,0,.cons _ t=>.cons r t
 |_,_,i+1,.cons q t=>.cons q (Vals.set r i t)
theorem Vals.append:∀{xs ys:ae V}{us ws:ae am},Vals xs us->Vals ys ws->Vals (xs++ys) (us++ws)
 |_,_,_,_,.nil,s=>s
 |_,_,_,_,.cons r t,s=>.cons r (Vals.append t s)
theorem Vals.take:∀{xs:ae V}{us:ae am}(n:ah),Vals xs us->Vals (xs.take n) (us.take n)
 |_,_,0,_=>.nil
 |_,_,_+1,.nil=>.nil
 |_,_,n+1,.cons r t=>.cons r (Vals.take n t)
theorem Vals.drop:∀{xs:ae V}{us:ae am}(n:ah),Vals xs us->Vals (xs.drop n) (us.drop n)
 |_,_,0,r=>r
 |_,_,_+1,.nil=>.nil
 |_,_,n+1,.cons _ t=>Vals.drop n t
def QK:ar V->ar am->Prop
 |some v,aa u=>RelV v u
 |none,aj=>gn
 |_,_=>cb
def KV{κ:Type}:ae (κ×V)->ae (κ×am)->Prop:=l8 λ(p:κ×V)(q:κ×am)=>p.1=q.1/\RelV p.2 q.2
noncomputable def kV:Key->V
 |.inl i=>.int i
 |.inr x=>.str x
inductive HO where
 |lst (xs:ae V)
 |tup (xs:ae V)
 |dK (kvs:ae (Key×V))|dT (kvs:ae (ae Key×V))
 |set (S:ai->aw) (n:ah)
 |ins (C dx:al) (fs:ae (Str×V))
 |own (x:al)
 |xd (fs:ae (Str×V))
 |met (f x:al)
 |rng (lo hi:ai)
 |frz (o:bn) (u:HO)
 |tbl (ps:bp am)
 |ext (φ:aI->Prop)
noncomputable abbrev Hp:=al->ar HO
noncomputable def upd(H:Hp)(a:al)(o:HO):Hp:=λb=>if b=a then aa o else H b
theorem aJ:upd H a o a=aa o:=by unfold upd;rw[ao rfl]
theorem aO(h:b≠a):upd H a o b=H b:=by unfold upd;rw[ax h]
theorem QT:upd (upd H a o) a u=upd H a u:=by
 funext b;unfold upd;split<;>rfl
theorem n8{H:Hp}(h:H a=aa o)(h':H b=aa u)(d:o≠u):a≠b:=by
 intro e;subst e;rw[h] at h';exact d (fE h')
theorem bL{H:Hp}(h:H a=aa o)(h':H b=aj):a≠b:=by
 intro e;subst e;rw[h] at h';cases h'
def kZ(h:aI)(a:al)(its:bp am):Prop:=∃o,h.get? a=aa o/\o.cls=.type "tuple"/\∃n,(o.data,o.dict)=(AW its n,aj)
theorem kZ.tup{h:aI}{a:al}{its:bp am}(t:kZ h a its):kC h a its:=let ⟨o,e,c,n,d⟩:=t;⟨o,e,c,n,cf (·.1) d⟩
theorem kZ.bare(t:kZ h a its):∃o,h.get? a=aa o/\o.dict=aj:=let ⟨o,e,_,_,d⟩:=t;⟨o,e,cf (·.2) d⟩
theorem kZ.new(h:aI)(items:bp am):kZ (h.push {cls:=.type "tuple",data:=.seq items}) h.objs.size items:=⟨_,dh _ rfl,rfl,_,rfl⟩
section
variable (P:bS) (w:bu)
def gY(H:Hp)(h:aI)(a:al):HO->Prop
 |.lst xs=>xs.length<=bo/\∃(its:ae am)(n:ah),Vals xs its/\h.get? a=aa {cls:=.type "list",data:=.seq its.toArray n}
 |.tup xs=>xs.length<=bo/\∃its:ae am,Vals xs its/\kZ h a its.toArray
 |.dK kvs=>kvs.length<=bo/\(a==gp)=ak/\∃vs,KV kvs vs/\h.DictOf (cN P w) a vs
 |.dT kvs=>kvs.length<=bo/\(a==gp)=ak/\∃xs:ae (ae Key×al×am),
   l8 (λ(p:ae Key×V)(q:ae Key×al×am)=>p.1=q.1/\H q.2.1=aa (.tup (p.1.map kV))/\RelV p.2 q.2.2) kvs xs/\
   ∃o es ep,h.get? a=aa o/\o.ExactDict/\o.data=.dict es ep/\es.toList=xs.map (entryOfKey (fT (cN P w)))/\(xs.map (·.1)).Nodup
 |.set S n=>h.SetOf (intKind P w) a S n
 |.ins C dx fs=>H dx=aa (.own a)/\fs.length<=1000/\dx≠a/\h.get? a=aa (jp C dx)/\
   ∃mA,h.Ns1 dx mA/\(∀f,QK (fs.lookup f) (mA f))/\sD mA (fs.map (·.1))
 |.own _=>∃o,h.get? a=aa o
 |.xd fs=>∃mA,h.Ns1 a mA/\∀f,QK (fs.lookup f) (mA f)
 |.rng lo hi=>∃t u v,h.get? a=aa {cls:=.type "range",data:=.fields #[.int lo t,.int hi u,.int 1 v]}
 |.frz o u=>h.get? a=aa o/\gY H h a u
 |.tbl ps=>h.get? a=aa {cls:=.none,data:=.fields ps}
 |.met f x=>h.get? a=aa (ya (.ref f) (.ref x))
 |.ext φ=>φ h/\(∃o,h.get? a=aa o)/\∀h1 h2:aI,φ h1->(∀o,h1.get? a=aa o->h2.get? a=aa o)->φ h2
def HOk(H:Hp)(h:aI):Prop:=∀a o,H a=aa o->gY P w H h a o
end
section
variable {P:bS} {w:bu} {H H':Hp} {h h':aI} {a:al} {o:HO}
theorem gY.lt(x:gY P w H h a o):a<h.objs.size:=by
 cases o with
 |lst xs=>obtain⟨_,_,_,_,e⟩:=x;exact bE e
 |tup xs=>obtain⟨_,_,_,p⟩:=x;exact p.tup.lt
 |dK kvs=>obtain⟨_,_,_,_,o,_,_,e,_⟩:=x;exact bE e
 |dT kvs=>obtain⟨_,_,_,_,o,_,_,e,_⟩:=x;exact bE e
 |set S n=>obtain⟨o,_,_,_,e,_⟩:=x;exact bE e
 |ins C dx fs=>obtain⟨_,_,_,e,_⟩:=x;exact bE e
 |own y=>obtain⟨_,e⟩:=x;exact bE e
 |xd fs=>obtain⟨_,⟨_,_,_,e,_⟩,_⟩:=x;exact bE e
 |rng lo hi=>obtain⟨_,_,_,e⟩:=x;exact bE e
 |frz ob u=>obtain⟨e,_⟩:=x;exact bE e
 |tbl ps=>exact bE (show h.get? a=aa _ from x)
 |met f y=>exact bE (show h.get? a=aa _ from x)
 |ext φ=>obtain⟨_,⟨_,e⟩,_⟩:=x;exact bE e
theorem Paired.aQ7:∀{l₁:ae α}{l₂:ae β},l8 F l₁ l₂->(∀a b,F a b->G a b)->l8 G l₁ l₂
 |_,_,.nil,_=>.nil
 |_,_,.cons r t,f=>.cons (f _ _ r) (Paired.aQ7 t f)
theorem gY.stay(x:gY P w H h a o)(k:∀b u,(b=a\/H b=aa (.own a))->h.get? b=aa u->h'.get? b=aa u)
 (ho:∀b,H b=aa (.own a)->H' b=aa (.own a))(ht:∀b xs,H b=aa (.tup xs)->H' b=aa (.tup xs)):gY P w H' h' a o:=by
 induction o with
 |lst xs=>obtain⟨z,its,n,r,e⟩:=x;exact⟨z,its,n,r,k _ _ (.inl rfl) e⟩
 |tup xs=>obtain⟨z,its,r,ob,e,c⟩:=x;exact⟨z,its,r,ob,k _ _ (.inl rfl) e,c⟩
 |dK kvs=>obtain⟨z,y,vs,r,ob,es,ep,e,c⟩:=x;exact⟨z,y,vs,r,ob,es,ep,k _ _ (.inl rfl) e,c⟩
 |dT kvs=>
  obtain⟨z,y,xs,r,ob,es,ep,e,c⟩:=x;exact⟨z,y,xs,Paired.aQ7 r λp q z=>⟨z.1,ht _ _ z.2.1,z.2.2⟩,ob,es,ep,k _ _ (.inl rfl) e,c⟩
 |set S n=>obtain⟨ob,es,ep,t,e,c⟩:=x;exact⟨ob,es,ep,t,k _ _ (.inl rfl) e,c⟩
 |ins C dx fs=>
  obtain⟨d,z,ne,e,mA,⟨od,es,ep,e2,c⟩,r⟩:=x;exact⟨ho _ d,z,ne,k _ _ (.inl rfl) e,mA,⟨od,es,ep,k _ _ (.inr d) e2,c⟩,r⟩
 |own y=>obtain⟨ob,e⟩:=x;exact⟨ob,k _ _ (.inl rfl) e⟩
 |xd fs=>obtain⟨mA,⟨od,es,ep,e,c⟩,r⟩:=x;exact⟨mA,⟨od,es,ep,k _ _ (.inl rfl) e,c⟩,r⟩
 |rng lo hi=>obtain⟨t,u,v,e⟩:=x;exact⟨t,u,v,k _ _ (.inl rfl) e⟩
 |frz ob u ih=>obtain⟨e,q⟩:=x;exact⟨k _ _ (.inl rfl) e,ih q⟩
 |tbl ps=>
  have e:h.get? a=aa {cls:=.none,data:=.fields ps}:=x;show h'.get? a=aa {cls:=.none,data:=.fields ps};exact k a _ (.inl rfl) e
 |met f y=>
  have e:h.get? a=aa (ya (.ref f) (.ref y)):=x;show h'.get? a=aa (ya (.ref f) (.ref y));exact k a _ (.inl rfl) e
 |ext φ=>obtain⟨p,⟨o,e⟩,st⟩:=x;exact⟨st _ _ p λo q=>k _ _ (.inl rfl) q,⟨o,k _ _ (.inl rfl) e⟩,st⟩
theorem HOk.lt(x:HOk P w H h)(e:H a=aa o):a<h.objs.size:=(x a o e).lt
theorem HOk.fresh(x:HOk P w H h)(e:h.objs.size<=a):H a=aj:=by
 cases q:H a with
 |none=>rfl
 |some u=>exact aT (dQ (x.lt q) e) (hU _)
theorem HOk.kept(x:HOk P w H h)(k:∀b u,h.get? b=aa u->h'.get? b=aa u):HOk P w H h':=λa o e=>
 (x a o e).stay (λb u _ q=>k b u q) (λ_ q=>q) λ_ _ q=>q
theorem HOk.laid(x:HOk P w H h)(k:∀b u,h.get? b=aa u->h'.get? b=aa u)(hp:h.objs.size<=a)(new:gY P w (upd H a o) h' a o):HOk P w (upd H a o) h':=λb u e=>by
 have hn:=x.fresh hp;by_cases hb:b=a
 .subst hb;rw[aJ] at e;cases e;exact new
 .rw[aO hb] at e;exact(x b u e).stay (λc v _ q=>k c v q) (λc q=>by rw[aO (bL q hn)];exact q) λc xs q=>by rw[aO (bL q hn)];exact q
end
def Rd(H:Hp)(a:al)(u:HO):Prop:=H a=aa u\/∃o,H a=aa (.frz o u)
theorem Rd.of(h:H a=aa u):Rd H a u:=.inl h
theorem Rd.ok(r:Rd H a u)(x:HOk P w H h):gY P w H h a u:=by
 rcases r with r|⟨o,r⟩
 .exact x a u r
 .obtain⟨_,q⟩:=x a _ r;exact q
def Mut:ar HO->Prop
 |some (.lst _)=>gn
 |some (.dK _)=>gn
 |some (.dT _)=>gn
 |some (.set _ _)=>gn
 |some (.ins _ _ _)=>gn
 |some (.ext _)=>gn
 |_=>cb
section
variable {P:bS} {w:bu} {H:Hp} {h h':aI} {x e:al} {o':HO}
theorem HOk.write(ok:HOk P w H h)(mu:Mut (H x))(he:e=x\/H e=aa (.own x))(k:∀b u,b≠e->h.get? b=aa u->h'.get? b=aa u)(heo:∃u,h'.get? e=aa u)
 (new:gY P w (upd H x o') h' x o'):HOk P w (upd H x o') h':=λb u q=>by
 have nown:∀c y,H c=aa (.own y)->c≠x:=λc y r z=>by subst z;rw[r] at mu;exact mu
 have ntup:∀c xs,H c=aa (.tup xs)->c≠x:=λc xs r z=>by subst z;rw[r] at mu;exact mu
 by_cases hb:b=x
 .subst hb;rw[aJ] at q;cases q;exact new
 .rw[aO hb] at q;by_cases hbe:b=e
  .have q':H b=aa (.own x):=by
    rcases he with z|z
    .exact aT (hbe.trans z) hb
    .rw[hbe];exact z
   rw[q] at q';cases q';obtain⟨v,hv⟩:=heo;exact⟨v,by rw[hbe];exact hv⟩
  .refine(ok b u q).stay (λc v hc r=>k c v ?_ r) (λc r=>by rw[aO (nown c b r)];exact r) λc xs r=>by rw[aO (ntup c xs r)];exact r
   rcases hc with rfl|hc
   .exact hbe
   .rintro rfl;rcases he with z|z
    .exact nown c b hc z
    .rw[hc] at z;cases z;exact hb rfl
end
structure Un(fs ex:ae al)(H H':Hp)(h h':aI):Prop where
 keep:∀b o,h.get? b=aa o->H b=aj->b∉fs->b∉ex->h'.get? b=aa o
 slot:∀b o,h.get? b=aa o->H b=aj->b∈fs->b∉ex->∃sl,h'.get? b=aa {o with slots:=sl}
 free:∀b o,h.get? b=aa o->H b=aj->b∉ex->H' b=aj
 there:∀b o,h.get? b=aa o->b∉ex->∃o',h'.get? b=aa o'
 tups:∀b xs,H b=aa (.tup xs)->H' b=aa (.tup xs)
 frzs:∀b o u,H b=aa (.frz o u)->H' b=aa (.frz o u)
 tbls:∀b ps,H b=aa (.tbl ps)->∃more,H' b=aa (.tbl (ps++more))
section
variable {fs ex:ae al} {H H1:Hp} {h h1 h':aI} {a x e:al} {o:HO}
theorem Un.any(u:Un fs ex H H1 h h1)(q:h.get? b=aa ob)(n:H b=aj)(hx:b∉ex):∃sl,h1.get? b=aa {ob with slots:=sl}:=by
 by_cases hb:b∈fs
 .exact u.slot b ob q n hb hx
 .exact⟨ob.slots,u.keep b ob q n hb hx⟩
theorem Un.kept(k:∀b u,h.get? b=aa u->h'.get? b=aa u):Un fs ex H H h h':=
 ⟨λb ob q _ _ _=>k b ob q,λb ob q _ _ _=>⟨ob.slots,k b ob q⟩,λ_ _ _ n _=>n,λb ob q _=>⟨ob,k b ob q⟩,λ_ _ q=>q,λ_ _ _ q=>q,λ_ ps q=>⟨#[],by rw[q];simp⟩⟩
theorem Un.refl:Un fs ex H H h h:=Un.kept λ_ _ q=>q
theorem Un.laid(k:∀b u,h.get? b=aa u->h'.get? b=aa u)(hp:h.objs.size<=a)(hn:H a=aj):Un fs ex H (upd H a o) h h' where
 keep:=λb u q _ _ _=>k b u q
 slot:=λb u q _ _ _=>⟨u.slots,k b u q⟩
 free:=λb u q n _=>by rw[aO (cy (dQ (bE q) hp))];exact n
 there:=λb u q _=>⟨u,k b u q⟩
 tups:=λb xs q=>by rw[aO (bL q hn)];exact q
 frzs:=λb u xs q=>by rw[aO (bL q hn)];exact q
 tbls:=λb ps q=>⟨#[],by rw[aO (bL q hn),q];simp⟩
theorem Un.write(mu:Mut (H x))(he:e=x\/H e=aa (.own x))(k:∀b u,b≠e->h.get? b=aa u->h'.get? b=aa u)(heo:∃u,h'.get? e=aa u):Un fs ex H (upd H x o) h h':=by
 have hx:∀b,H b=aj->b≠x:=λb n z=>by subst z;rw[n] at mu;exact mu
 have hb:∀b,H b=aj->b≠e:=λb n z=>by
  subst z;rcases he with r|r
  .exact hx b n r
  .rw[n] at r;cases r
 have hm:∀b u,H b=aa u->¬Mut (aa u)->b≠x:=λb u q nm z=>by subst z;rw[q] at mu;exact nm mu
 refine⟨λb u q n _ _=>k b u (hb b n) q,λb u q n _ _=>⟨u.slots,k b u (hb b n) q⟩,λb u q n _=>by rw[aO (hx b n)];exact n,λb u q _=>?_,
  λb xs q=>by rw[aO (hm b _ q λz=>z)];exact q,λb u xs q=>by rw[aO (hm b _ q λz=>z)];exact q,λb ps q=>⟨#[],by rw[aO (hm b _ q λz=>z),q];simp⟩⟩
 by_cases hbe:b=e
 .subst hbe;exact heo
 .exact⟨u,k b u hbe q⟩
end
noncomputable def trk(h:aI)(H:Hp):ae al:=(aE h.objs.size).filter λa=>(H a).isSome
def aDr(h:aI)(H:Hp):aI:=yb h (trk h H)
theorem ZX(h:aI)(H:Hp):(aDr h H).objs.size=h.objs.size:=PySem.W.hideAll_size _ _
theorem aDs(e:h.get? b=aa o)(n:H b=aj):(aDr h H).get? b=aa o:=
 AX _ e λhm=>by
  have q:(H b).isSome=ag:=(hX.mp hm).2;rw[n] at q;simp at q
theorem aI4(e:(aDr h H).get? b=aa o):h.get? b=aa o/\H b=aj:=by
 have e':h.get? b=aa o:=yc (trk h H) e;refine⟨e',?_⟩;cases q:H b with
 |none=>rfl
 |some x=>
  have hm:b∈trk h H:=hX.mpr ⟨gq.mpr (bE e'),by simp[q]⟩;have z:(aDr h H).get? b=aj:=PySem.W.hideAll_none (trk h H) hm;rw[z] at e;cases e
structure Mod(K:bi)(mg:Str->ar am)(base:aI):Prop where
 kin:K.In base
 glob:base.Ns bj mg
 blt:∃mb,base.Ns yd mb/\∀x:Str,x ≠ "__name__"->mb x=dS x
 nolimit:base.NoLimit
/-- the context: a def's body (or a comprehension's block) running. base: fixed through the whole law;s₀,H₀: the entry;outer: the frames whose slots others may change (a def's callers);stack: all frames that run;
   ex: iterators that were made ahead of the entry and are walked here (a comprehension's);fn: the names whose cells were made at the entry (a def: all;a comprehension's block: its own);calm: not within an except suite;pn: Ψ that every state bears;xe: what is wanted of an exception that leaves the code -/
structure Cx where
 prog:bS
 w:bu
 K:bi
 mg:Str->ar am
 base:aI
 A:b6
 N:ae Str
 s₀:au
 H₀:Hp
 env:c_
 outer:ae c_
 stack:ae c_
 ex:ae al
 fn:Str->aw
 calm:aw
 pn:ae (al×bn)
 xe:am->au->Prop
noncomputable def frs(l:ae c_):ae al:=l.filterMap (·.frame)
abbrev Cx.fs(X:Cx):ae al:=frs X.outer
def Vis(sc:ft)(x:Str):Prop:=sc.names.lookup x=aa .local\/sc.names.lookup x=aa .cell\/sc.names.lookup x=aa .free
def Loc(sc:ft)(x:Str):Prop:=sc.names.lookup x=aa .local\/sc.names.lookup x=aa .cell
def Look(env:c_)(h:aI)(m:Str->ar am)(x:Str)(u:am):Prop:=
 (env.kindOf x=aa .local/\m x=aa u)\/((env.kindOf x=aa .cell\/env.kindOf x=aa .free)/\∃c,env.cells.lookup x=aa c/\h.IsCell c (aa u))
abbrev zSE(X:Cx)(e:Expr)(es:ae Expr):Prop:=b5 (e::es) X.env=(ak,eval e X.env)::b5 es X.env
abbrev zSP(X:Cx)(pos:ck)(es:ae Expr):Prop:=(fF pos (b5 es X.env)).any (·.1)=ak
abbrev zFw(X:Cx)(cpos:ck)(es:ae Expr):Prop:=((fF cpos (b5 es X.env)).all (λx=>!x.1)&&(og cpos (oj [] X.env)).all (λx=>x.1.isSome)
  &&ϒ (es.length+([]:ae jq).length+(if ([]:ae jq).isEmpty then 0 else 1)<30))=ag
abbrev zSw(X:Cx)(e:Expr)(x:Str)(pos' pos:ck):Prop:=dy e (aa (.Name x pos')) pos.line X.env=pure ak
abbrev zFn(X:Cx)(x:Str):Prop:=X.fn x=ag\/X.env.scope.names.lookup x=aa .local
structure Cx.Ok(X:Cx):Prop where
 mod:Mod X.K X.mg X.base
 kind:X.env.scope.kind=.function
 glob:X.env.globals=bj
 blt:X.env.builtins=yd
 above:X.s₀.heap.objs.size<=X.env.locals
 inj:∀x y c,X.env.cells.lookup x=aa c->X.env.cells.lookup y=aa c->x=y
 has:∀x,(X.env.kindOf x=aa .cell\/X.env.kindOf x=aa .free)->∃c,X.env.cells.lookup x=aa c
 cab:∀x c,X.fn x=ag->X.env.cells.lookup x=aa c->X.s₀.heap.objs.size<=c
 hd:X.calm=ag->X.A.handled=aj
 frames:X.A.frames=aa X.stack
 stk:X.stack=X.outer\/(X.stack=X.env::X.outer/\X.env.frame=aa X.env.locals)
 exf:∀b∈X.ex,b≠X.env.locals/\∀x c,X.env.cells.lookup x=aa c->c≠b
 bs:∀b o,X.base.get? b=aa o->X.s₀.heap.get? b=aa o/\X.H₀ b=aj
 bsz:X.base.objs.size<=X.s₀.heap.objs.size
 noex:∀b o,X.base.get? b=aa o->b∉X.ex
 exfs:∀b∈X.ex,b∉X.fs
 XJ:X.s₀.heap.FunFrames X.base X.outer
 frf:∀b∈X.fs,X.H₀ b=aj
structure Inv(X:Cx)(Ψ:ae (al×bn))(σ:ae (ar V))(H:Hp)(s:au):Prop where
 ok:X.Ok
 os:s.os=X.s₀.os
 bare:iE s.gens
 base:Un X.fs X.ex X.H₀ H X.s₀.heap s.heap
 loc:∃m,s.heap.Ns X.env.locals m/\∀(i:ah)(x:Str)(v:V),X.N[i]?=aa x->σ[i]?=aa (aa v)->Vis X.env.scope x->∃u,RelV v u/\Look X.env s.heap m x u
 cell:∀x c,X.env.cells.lookup x=aa c->∃v,s.heap.IsCell c v
 free:H X.env.locals=aj
 freeC:∀x c,X.env.cells.lookup x=aa c->H c=aj
 pin:∀p∈X.pn++Ψ,s.heap.get? p.1=aa p.2/\H p.1=aj/\p.1≠X.env.locals/\p.1∉X.fs/\∀v,p.2.data≠.cell v
 hok:HOk X.prog X.w H s.heap
 len:σ.length=X.N.length
section
variable {X:Cx} {Ψ:ae (al×bn)} {σ:ae (ar V)} {H H':Hp} {s:au} {h':aI}
theorem Cx.Ok.aTe(ok:X.Ok)(e:X.base.get? b=aa o):b∉X.fs:=λhb=>by
 have:=(ok.XJ.mem hb).1;rw[e] at this;cases this
theorem Inv.bs(I:Inv X Ψ σ H s):∀b o,X.base.get? b=aa o->s.heap.get? b=aa o/\H b=aj:=λb o e=>
 ⟨I.base.keep b o (I.ok.bs b o e).1 (I.ok.bs b o e).2 (I.ok.aTe e) (I.ok.noex b o e),I.base.free b o (I.ok.bs b o e).1 (I.ok.bs b o e).2 (I.ok.noex b o e)⟩
theorem Inv.bk(I:Inv X Ψ σ H s):∀b o,X.base.get? b=aa o->s.heap.get? b=aa o:=λb o e=>(I.bs b o e).1
theorem Inv.mod(I:Inv X Ψ σ H s):Mod X.K X.mg X.base:=I.ok.mod
theorem Inv.kIn(I:Inv X Ψ σ H s):X.K.In s.heap:=I.ok.mod.kin.keeps I.bk
theorem Inv.lt(I:Inv X Ψ σ H s):X.env.locals<s.heap.objs.size:=let ⟨_,hn,_⟩:=I.loc;hn.lt
theorem Inv.sz(I:Inv X Ψ σ H s):X.s₀.heap.objs.size<=s.heap.objs.size:=dj I.ok.above (ye I.lt)
theorem Inv.aSe(I:Inv X Ψ σ H s)(h:s.heap.objs.size<=a):a∉X.fs:=λhb=>by
 obtain⟨_,o,ho,_⟩:=I.ok.XJ.mem hb;exact aT (dQ (bE ho) (dj I.sz h)) (hU _)
theorem Inv.cne(I:Inv X Ψ σ H s):∀x c,X.env.cells.lookup x=aa c->c≠X.env.locals:=λx c e z=>by
 obtain⟨v,o,ho,hd⟩:=I.cell x c e;obtain⟨m,⟨o',es,ep,ho',hd',_⟩,_⟩:=I.loc;rw[z,ho'] at ho;cases ho;rw[hd'] at hd;cases hd
theorem Inv.XJ(I:Inv X Ψ σ H s):s.heap.FunFrames X.base X.outer:=by
 have all:∀(l:ae c_),(∀b∈frs l,b∈X.fs)->X.s₀.heap.FunFrames X.base l->s.heap.FunFrames X.base l:=by
  intro l;induction l with
  |nil=>intro _ _;trivial
  |cons env r ih=>
   intro hs hl;obtain⟨hk,⟨L,o,hf,hn,ho,hd⟩,hr⟩:=hl;have hL:L∈X.fs:=hs L (by unfold frs;rw[ol,hf];exact de);obtain⟨sl,e⟩:=I.base.slot L o ho (I.ok.frf L hL) hL λz=>I.ok.exfs L z hL
   exact⟨hk,⟨L,_,hf,hn,e,hd⟩,ih (λb hb=>hs b (by unfold frs;rw[ol,hf];exact dg _ hb)) hr⟩
 exact all X.outer (λ_ hb=>hb) I.ok.XJ
theorem Inv.stack(I:Inv X Ψ σ H s):s.heap.FunFrames X.base X.stack:=by
 rcases I.ok.stk with e|⟨e,hf⟩
 .rw[e];exact I.XJ
 .rw[e];obtain⟨m,hn,_⟩:=I.loc;refine .cons (by rw[I.ok.kind];decide) hf hn ?_ I.XJ;exact Heap.get?_none_of_le (dj I.ok.bsz I.ok.above)
theorem Inv.T7(I:Inv X Ψ σ H s):∀b∈frs X.stack,b∈X.env.locals::X.fs:=λb hb=>by
 rcases I.ok.stk with e|⟨e,hf⟩
 .rw[e] at hb;exact dg _ hb
 .rw[e] at hb;unfold frs at hb;rw[ol,hf] at hb;exact hb
theorem Inv.QV(I:Inv X Ψ σ H s):∀b∈frs X.stack,H b=aj:=λb hb=>by
 rcases cg.mp (I.T7 b hb) with e|hb
 .rw[e];exact I.free
 .obtain⟨_,o,ho,_⟩:=I.ok.XJ.mem hb;exact I.base.free b o ho (I.ok.frf b hb) λz=>I.ok.exfs b z hb
theorem Inv.step{ch:ae al}(I:Inv X Ψ σ H s)
 (hch:∀b∈ch,(b∈X.ex\/X.s₀.heap.objs.size<=b)/\b≠X.env.locals/\(∀x c,X.env.cells.lookup x=aa c->c≠b)/\∀p∈X.pn++Ψ,p.1≠b)
 (keep:∀b o,b≠X.env.locals->b∉X.fs->b∉ch->s.heap.get? b=aa o->H b=aj->h'.get? b=aa o)
 (slot:∀b o,b≠X.env.locals->b∈X.fs->b∉ch->s.heap.get? b=aa o->H b=aj->∃sl,h'.get? b=aa {o with slots:=sl})(free:∀b o,b∉ch->s.heap.get? b=aa o->H b=aj->H' b=aj)
 (there:∀b o,b∉ch->s.heap.get? b=aa o->∃o',h'.get? b=aa o')
 (tups:∀b xs,H b=aa (.tup xs)->H' b=aa (.tup xs))(frzs:∀b o u,H b=aa (.frz o u)->H' b=aa (.frz o u))(tbls:∀b ps,H b=aa (.tbl ps)->∃more,H' b=aa (.tbl (ps++more)))
 (ns:∀m,s.heap.Ns X.env.locals m->h'.Ns X.env.locals m)(hok:HOk X.prog X.w H' h')(hg:iE g') :
  Inv X Ψ σ H' {s with heap:=h',gens:=g',drawn:=d',toks:=t'}:=by
 have neL:∀b o,X.s₀.heap.get? b=aa o->b≠X.env.locals:=λb o e=>cy (dQ (bE e) I.ok.above)
 have neC:∀b o,X.s₀.heap.get? b=aa o->b∉X.ex->b∉ch:=λb o e hx hb=>by
  rcases(hch b hb).1 with z|z
  .exact hx z
  .exact aT (dQ (bE e) z) (hU _)
 have cellK:∀x c,X.env.cells.lookup x=aa c->∀v,s.heap.IsCell c v->h'.IsCell c v:=λx c e v ⟨o,ho,hd⟩=>by
  have nch:c∉ch:=λz=>(hch c z).2.2.1 x c e rfl
  by_cases hc:c∈X.fs
  .obtain⟨sl,q⟩:=slot c o (I.cne x c e) hc nch ho (I.freeC x c e);exact⟨_,q,hd⟩
  .exact⟨o,keep c o (I.cne x c e) hc nch ho (I.freeC x c e),hd⟩
 refine⟨I.ok,I.os,hg,⟨λb o e n hb hx=>?_,λb o e n hb hx=>?_,λb o e n hx=>?_,λb o e hx=>?_,λb xs e=>tups b xs (I.base.tups b xs e),λb o xs e=>frzs b o xs (I.base.frzs b o xs e),λb ps e=>?_⟩,?_,λx c e=>?_,?_,λx c e=>?_,λp hp=>?_,hok,I.len⟩
 .exact keep b o (neL b o e) hb (neC b o e hx) (I.base.keep b o e n hb hx) (I.base.free b o e n hx)
 .obtain⟨sl,e1⟩:=I.base.slot b o e n hb hx;obtain⟨sl',e2⟩:=slot b _ (neL b o e) hb (neC b o e hx) e1 (I.base.free b o e n hx);exact⟨sl',e2⟩
 .obtain⟨o',e1⟩:=I.base.there b o e hx;exact free b o' (neC b o e hx) e1 (I.base.free b o e n hx)
 .obtain⟨o',e1⟩:=I.base.there b o e hx;exact there b o' (neC b o e hx) e1
 .obtain⟨m1,e1⟩:=I.base.tbls b ps e;obtain⟨m2,e2⟩:=tbls b _ e1;exact⟨m1++m2,by rw[e2,AY]⟩
 .obtain⟨m,hn,hl⟩:=I.loc;refine⟨m,ns m hn,λi x v e1 e2 e3=>?_⟩;obtain⟨u,r,l⟩:=hl i x v e1 e2 e3;refine⟨u,r,?_⟩;rcases l with l|⟨k,c,e,z⟩
  .exact .inl l
  .exact .inr ⟨k,c,e,cellK x c e _ z⟩
 .obtain⟨v,z⟩:=I.cell x c e;exact⟨v,cellK x c e v z⟩
 .obtain⟨m,⟨o,_,_,ho,_⟩,_⟩:=I.loc;exact free _ o (λz=>(hch _ z).2.1 rfl) ho I.free
 .obtain⟨v,o,ho,hd⟩:=I.cell x c e;exact free c o (λz=>(hch c z).2.2.1 x c e rfl) ho (I.freeC x c e)
 .obtain⟨e,n,ne,nf,d⟩:=I.pin p hp;have nch:p.1∉ch:=λz=>(hch p.1 z).2.2.2 p hp rfl
  exact⟨keep p.1 p.2 ne nf nch e n,free p.1 p.2 nch e n,ne,nf,d⟩
theorem Inv.un(I:Inv X Ψ σ H s)(u:Un X.fs [] H H' s.heap h')(hok:HOk X.prog X.w H' h'):Inv X Ψ σ H' {s with heap:=h',toks:=t'}:=by
 obtain⟨m,⟨o,es,ep,ho,r⟩,_⟩:=id I.loc;obtain⟨sl,hL⟩:=u.any ho I.free 0x2;exact I.step (ch:=[]) (λ_ z=>nomatch z) (λb o _ hb _ e n=>u.keep b o e n hb 0x2) (λb o _ hb _ e n=>u.slot b o e n hb 0x2) (λb o _ e n=>u.free b o e n 0x2) (λb o _ e=>u.there b o e 0x2) u.tups u.frzs u.tbls (λm' hm=>by
  obtain⟨o',es',ep',ho',r'⟩:=hm;rw[ho] at ho';cases ho';exact⟨_,es',ep',hL,r'⟩) hok I.bare
theorem Inv.call(I:Inv X Ψ σ H s)(u:Un (frs X.stack) ch H H' s.heap h')(hok:HOk X.prog X.w H' h')(hg:iE g')
 (hch:∀b∈ch,(b∈X.ex\/X.s₀.heap.objs.size<=b)/\b≠X.env.locals/\(∀x c,X.env.cells.lookup x=aa c->c≠b)/\∀p∈X.pn++Ψ,p.1≠b) :
  Inv X Ψ σ H' {s with heap:=h',gens:=g',drawn:=d',toks:=t'}:=by
 obtain⟨m,⟨o,es,ep,ho,r⟩,_⟩:=id I.loc;obtain⟨sl,hL⟩:=u.any ho I.free λz=>(hch _ z).2.1 rfl
 exact I.step hch (λb o hL hb hc e n=>u.keep b o e n (λz=>(cg.mp (I.T7 b z)).elim hL hb) hc) (λb o _ _ hc e n=>u.any e n hc) (λb o hc e n=>u.free b o e n hc) (λb o hc e=>u.there b o e hc) u.tups u.frzs u.tbls (λm' hm=>by
  obtain⟨o',es',ep',ho',r'⟩:=hm;rw[ho] at ho';cases ho';exact⟨_,es',ep',hL,r'⟩) hok hg
theorem Inv.turned(I:Inv X Ψ σ H s)(k:∀b o,b≠it->s.heap.get? b=aa o->h'.get? b=aa o)(hn:H it=aj)(hL:it≠X.env.locals)
 (h1:it∈X.ex\/X.s₀.heap.objs.size<=it)(h2:∀x c,X.env.cells.lookup x=aa c->c≠it)(h3:∀p∈X.pn++Ψ,p.1≠it):Inv X Ψ σ H {s with heap:=h',toks:=t'}:=by
 have nit:∀b u,H b=aa u->b≠it:=λb u e z=>by rw[z,hn] at e;cases e
 refine I.step (ch:=[it]) (λb hb=>?_) (λb o _ _ hc e _=>k b o (λz=>hc (by simp[z])) e) (λb o _ _ hc e _=>⟨o.slots,k b o (λz=>hc (by simp[z])) e⟩) (λ_ _ _ _ n=>n)
  (λb o hc e=>⟨o,k b o (λz=>hc (by simp[z])) e⟩) (λ_ _ e=>e) (λ_ _ _ e=>e) (λb ps e=>⟨#[],by rw[e];simp⟩) (λm hm=>?_) (λb u e=>?_) I.bare
 .have e:b=it:=by simpa using hb
  subst e;exact⟨h1,hL,h2,h3⟩
 .obtain⟨o,es,ep,ho,r⟩:=hm;exact⟨o,es,ep,k _ o (Ne.symm hL) ho,r⟩
 .refine(I.hok b u e).stay (λc v hc q=>k c v ?_ q) (λ_ q=>q) λ_ _ q=>q
  rcases hc with z|z
  .rw[z];exact nit b u e
  .exact nit c _ z
theorem Inv.tok(I:Inv X Ψ σ H s)(t:ah):Inv X Ψ σ H {s with toks:=t}:=I.un Un.refl I.hok
theorem Inv.kept(I:Inv X Ψ σ H s)(k:∀b u,s.heap.get? b=aa u->h'.get? b=aa u):Inv X Ψ σ H {s with heap:=h',toks:=t'}:=I.un (Un.kept k) (I.hok.kept k)
theorem Inv.laid(I:Inv X Ψ σ H s)(k:∀b u,s.heap.get? b=aa u->h'.get? b=aa u)(hp:s.heap.objs.size<=a)(new:gY X.prog X.w (upd H a o) h' a o) :
  Inv X Ψ σ (upd H a o) {s with heap:=h',toks:=t'}:=I.un (Un.laid k hp (I.hok.fresh hp)) (I.hok.laid k hp new)
theorem Inv.write(I:Inv X Ψ σ H s)(mu:Mut (H x))(he:e=x\/H e=aa (.own x))(k:∀b u,b≠e->s.heap.get? b=aa u->h'.get? b=aa u)(heo:∃u,h'.get? e=aa u)
 (new:gY X.prog X.w (upd H x o) h' x o):Inv X Ψ σ (upd H x o) {s with heap:=h',toks:=t'}:=I.un (Un.write mu he k heo) (I.hok.write mu he k heo new)
theorem Inv.weak(I:Inv X Ψ σ H s)(hl:σ'.length=σ.length)(w:∀(i:ah) v,σ'[i]?=aa (aa v)->σ[i]?=aa (aa v)):Inv X Ψ σ' H s:=
 ⟨I.ok,I.os,I.bare,I.base,let ⟨m,hn,hl'⟩:=I.loc;⟨m,hn,λi x v e1 e2 e3=>hl' i x v e1 (w i v e2) e3⟩,I.cell,I.free,I.freeC,I.pin,I.hok,hl.trans I.len⟩
theorem Inv.QW(I:Inv X Ψ σ H s)(h:∀p∈pins',s.heap.get? p.1=aa p.2/\H p.1=aj/\p.1≠X.env.locals/\p.1∉X.fs/\∀v,p.2.data≠.cell v):Inv X pins' σ H s:=
 ⟨I.ok,I.os,I.bare,I.base,I.loc,I.cell,I.free,I.freeC,λp hp=>(eP.mp hp).elim (λz=>I.pin p (jr _ z)) (h p),I.hok,I.len⟩
theorem GF{N:ae Str}(hN:N.Nodup){i j:ah}(a:N[i]?=aa x)(b:N[j]?=aa x):i=j:=by
 obtain⟨h1,e1⟩:=dA.mp a;obtain⟨h2,e2⟩:=dA.mp b;exact(AZ hN).mp (e1.trans e2.symm)
theorem J5(I:Inv X Ψ σ H s)(hN:X.N.Nodup)(hi:X.N[i]?=aa x)(hx:Loc X.env.scope x)(r:RelV v u)
 (h:∀s',Inv X Ψ (σ.set i (aa v)) H s'->(∃a,eR a s.heap s'.heap/\(a=X.env.locals\/X.env.cells.lookup x=aa a))->Q () s')(hf:autoParam (zFn X x) Ξ):ϑ M A (storeName X.env x u) Q E s:=by
 obtain⟨m,hn,hl⟩:=id I.loc;have hcls:(X.env.scope.kind==.class||(X.env.scope.kind==.module&&X.env.locals !=X.env.globals))=ak:=by rw[I.ok.kind];rfl
 have hiσ:i<σ.length:=by rw[I.len];exact(dA.mp hi).1
 have cne:=I.cne;have tracked:∀{a:al}{h':aI},(∃o,s.heap.get? a=aa o/\H a=aj)->eR a s.heap h'->HOk X.prog X.w H h':=λ{a h'} ha hs b ob e=>by
  obtain⟨_,_,hfree⟩:=ha;refine(I.hok b ob e).stay (λc w' hc q=>(hs.2 c ?_).trans q) (λ_ q=>q) λ_ _ q=>q
  rintro rfl;rcases hc with rfl|hc
  .rw[hfree] at e;cases e
  .rw[hfree] at hc;cases hc
 rcases hx with hk|hk
 .refine wpAny_storeName_local hk hn (λh' hn' hs=>?_) hcls;obtain⟨oL,_,_,hoL,_⟩:=id hn;refine h _ ⟨I.ok,I.os,I.bare,⟨λb o e n hb hx=>?_,λb o e n hb hx=>?_,I.base.free,λb o e hx=>?_,I.base.tups,I.base.frzs,I.base.tbls⟩,⟨_,hn',λj y v' e1 e2 e3=>?_⟩,λy c e=>?_,I.free,I.freeC,λp hp=>?_,tracked ⟨oL,hoL,I.free⟩ hs,by simpa using I.len⟩ ⟨_,hs,.inl rfl⟩
  .exact(hs.2 b (cy (dQ (bE e) I.ok.above))).trans (I.base.keep b o e n hb hx)
  .obtain⟨sl,e1⟩:=I.base.slot b o e n hb hx;exact⟨sl,(hs.2 b (cy (dQ (bE e) I.ok.above))).trans e1⟩
  .obtain⟨o',e1⟩:=I.base.there b o e hx;exact⟨o',(hs.2 b (cy (dQ (bE e) I.ok.above))).trans e1⟩
  .by_cases hj:j=i
   .subst hj;rw[hi] at e1;cases e1;rw[eD hiσ] at e2;cases e2;exact⟨u,r,.inl ⟨hk,by simp⟩⟩
   .rw[dm (Ne.symm hj)] at e2;obtain⟨u',r',q⟩:=hl j y v' e1 e2 e3;refine⟨u',r',?_⟩;rcases q with ⟨k,e⟩|⟨k,c,e,z⟩
    .refine .inl ⟨k,?_⟩;have:y≠x:=λe=>hj (GF hN e1 (e▸hi))
     simp[this,e]
    .exact .inr ⟨k,c,e,z.sameBut hs (cne y c e)⟩
  .obtain⟨w',z⟩:=I.cell y c e;exact⟨w',z.sameBut hs (cne y c e)⟩
  .obtain⟨e,n,ne,nf,d⟩:=I.pin p hp;exact⟨(hs.2 p.1 ne).trans e,n,ne,nf,d⟩
 .have hfn:X.fn x=ag:=by
   rcases hf with z|z
   .exact z
   .rw[z] at hk;cases hk
  obtain⟨c,hc⟩:=I.ok.has x (.inl hk);obtain⟨w',z⟩:=I.cell x c hc;refine wpAny_storeName_cell I.ok.kind hk hc z (λh' hc' hs=>?_);obtain⟨oc,hoc,hocd⟩:=id z;refine h {s with heap:=h'} ⟨I.ok,I.os,I.bare,⟨λb o e n hb hx=>?_,λb o e n hb hx=>?_,I.base.free,λb o e hx=>?_,I.base.tups,I.base.frzs,I.base.tbls⟩,⟨m,hn.sameBut hs (Ne.symm (cne x c hc)),λj y v' e1 e2 e3=>?_⟩,λy c' e=>?_,I.free,I.freeC,λp hp=>?_,tracked ⟨oc,hoc,I.freeC x c hc⟩ hs,by simpa using I.len⟩ ⟨c,hs,.inr hc⟩
  .exact(hs.2 b (cy (dQ (bE e) (I.ok.cab x c hfn hc)))).trans (I.base.keep b o e n hb hx)
  .obtain⟨sl,e1⟩:=I.base.slot b o e n hb hx;exact⟨sl,(hs.2 b (cy (dQ (bE e) (I.ok.cab x c hfn hc)))).trans e1⟩
  .obtain⟨o',e1⟩:=I.base.there b o e hx;exact⟨o',(hs.2 b (cy (dQ (bE e) (I.ok.cab x c hfn hc)))).trans e1⟩
  .by_cases hj:j=i
   .subst hj;rw[hi] at e1;cases e1;rw[eD hiσ] at e2;cases e2;exact⟨u,r,.inr ⟨.inl hk,c,hc,hc'⟩⟩
   .rw[dm (Ne.symm hj)] at e2;obtain⟨u',r',q⟩:=hl j y v' e1 e2 e3;refine⟨u',r',?_⟩;rcases q with q|⟨k,c',e,z'⟩
    .exact .inl q
    .refine .inr ⟨k,c',e,z'.sameBut hs ?_⟩;rintro rfl;exact hj (GF hN e1 (I.ok.inj _ _ _ e hc▸hi))
  .by_cases hcc:c'=c
   .subst hcc;exact⟨_,hc'⟩
   .obtain⟨w2,z2⟩:=I.cell y c' e;exact⟨w2,z2.sameBut hs hcc⟩
  .obtain⟨e,n,ne,nf,d⟩:=I.pin p hp;refine⟨(hs.2 p.1 ?_).trans e,n,ne,nf,d⟩;intro q;rw[q,hoc] at e;have q':oc=p.2:=fE e;exact d w' (by rw[<-q'];exact hocd)
theorem GJ(I:Inv X Ψ σ H s)(hN:X.N.Nodup)(hi:X.N[i]?=aa x)(hx:Loc X.env.scope x)(r:RelV v u)
 (h:∀s',Inv X Ψ (σ.set i (aa v)) H s'->Q () s')(hf:autoParam (zFn X x) Ξ):ϑ M A (storeName X.env x u) Q E s:=
 J5 I hN hi hx r (λs' I' _=>h s' I') hf
theorem Inv.call'(I:Inv X Ψ σ H s)(ho:s'.os=s.os)(u:Un (frs X.stack) ch H H' s.heap s'.heap)(hok:HOk X.prog X.w H' s'.heap)(hg:iE s'.gens)
 (hch:∀b∈ch,(b∈X.ex\/X.s₀.heap.objs.size<=b)/\b≠X.env.locals/\(∀x c,X.env.cells.lookup x=aa c->c≠b)/\∀p∈X.pn++Ψ,p.1≠b):Inv X Ψ σ H' s':=by
 obtain⟨h',g',d',t',o'⟩:=s';have e:o'=s.os:=ho;subst e;exact I.call u hok hg hch
end
abbrev XK:=am->ar al->Hp->Prop
noncomputable abbrev St:=ae (ar V)
abbrev VK:=V->Hp->Prop
abbrev TE:=St->Hp->VK->Prop
abbrev TT:=St->Hp->(aw->Hp->Prop)->Prop
abbrev TA:=St->Hp->(ae V->Hp->Prop)->Prop
structure Ends where
 nx:St->Hp->Prop
 rt:VK
 bk:St->Hp->Prop:=λ_ _=>cb
 ct:St->Hp->Prop:=λ_ _=>cb
abbrev TS:=Ends->St->Hp->Prop
def EP(X:Cx)(Ψ:ae (al×bn))(σ:St)(Q:VK)(u:am)(s':au):Prop:=∃v H',Inv X Ψ σ H' s'/\RelV v u/\Q v H'
def TP(X:Cx)(Ψ:ae (al×bn))(σ:St)(Q:aw->Hp->Prop)(b:aw)(s':au):Prop:=∃H',Inv X Ψ σ H' s'/\Q b H'
def AP(X:Cx)(Ψ:ae (al×bn))(σ:St)(Q:ae V->Hp->Prop)(us:ae am)(s':au):Prop:=∃vs H',Inv X Ψ σ H' s'/\Vals vs us/\Q vs H'
def SP(X:Cx)(Ψ:ae (al×bn))(D:Ends)(f:Flow)(s':au):Prop:=
 match f with
 |.next=>∃σ' H',Inv X Ψ σ' H' s'/\D.nx σ' H'
 |.brk=>∃σ' H',Inv X Ψ σ' H' s'/\D.bk σ' H'
 |.cont=>∃σ' H',Inv X Ψ σ' H' s'/\D.ct σ' H'
 |.ret u=>∃v σ' H',Inv X Ψ σ' H' s'/\RelV v u/\D.rt v H'
def PE(X:Cx)(e:Expr)(t:TE):Prop:=
 ∀(Ψ:ae (al×bn))(s:au)(σ:St)(H:Hp)(Q:VK),Inv X Ψ σ H s->t σ H Q->ϑ (ay X.prog X.w) X.A (eval e X.env) (EP X Ψ σ Q) X.xe s
def PT(X:Cx)(e:Expr)(t:TT):Prop:=
 ∀(Ψ:ae (al×bn))(s:au)(σ:St)(H:Hp)(Q:aw->Hp->Prop),Inv X Ψ σ H s->t σ H Q->ϑ (ay X.prog X.w) X.A (sF e X.env (eval e X.env)) (TP X Ψ σ Q) X.xe s
def PW(X:Cx)(e:Expr)(t:TT):Prop:=
 ∀(whole:Sem am)(Ψ:ae (al×bn))(s:au)(σ:St)(H:Hp)(Q:aw->Hp->Prop),Inv X Ψ σ H s->t σ H Q->ϑ (ay X.prog X.w) X.A (sF e X.env whole) (TP X Ψ σ Q) X.xe s
theorem PW.pt(h:PW X e t):PT X e t:=h _
def PA(X:Cx)(es:ae Expr)(t:TA):Prop:=
 ∀(pos:ck)(Ψ:ae (al×bn))(s:au)(σ:St)(H:Hp)(Q:ae V->Hp->Prop),Inv X Ψ σ H s->t σ H Q->ϑ (ay X.prog X.w) X.A (kF (fF pos (b5 es X.env))) (AP X Ψ σ Q) X.xe s
def PS(X:Cx)(st:bz)(t:TS):Prop:=
 ∀(Ψ:ae (al×bn))(s:au)(σ:St)(H:Hp)(D:Ends),Inv X Ψ σ H s->t D σ H->ϑ (ay X.prog X.w) X.A (exec st X.env) (SP X Ψ D) X.xe s
def PSs(X:Cx)(st:ae bz)(t:TS):Prop:=
 ∀(Ψ:ae (al×bn))(s:au)(σ:St)(H:Hp)(D:Ends),Inv X Ψ σ H s->t D σ H->ϑ (ay X.prog X.w) X.A (execs st X.env) (SP X Ψ D) X.xe s
theorem thn(h:ϑ M A t Q E s)(hQ:∀a s,Q a s->Q' a s):ϑ M A t Q' E s:=fg h hQ λ_ _ x=>x
section
variable {X:Cx}
theorem bin(ha:PE X a ta)(hb:PE X b tb){R:V->V->Hp->Prop}(I:Inv X Ψ σ H s)(h:ta σ H λx H1=>tb σ H1 λy H2=>R x y H2)
 {α:Type}{Q:α->au->Prop}{f:am->am->Sem α}
 (hf:∀v u s2 x y H2,Inv X Ψ σ H2 s2->RelV x v->RelV y u->R x y H2->ϑ (ay X.prog X.w) X.A (f v u) Q X.xe s2) :
  ϑ (ay X.prog X.w) X.A (eval a X.env) (λv s₁=>ϑ (ay X.prog X.w) X.A (eval b X.env) (λu s₂=>ϑ (ay X.prog X.w) X.A (f v u) Q X.xe s₂) X.xe s₁) X.xe s:=by
 refine thn (ha Ψ s σ H _ I h) λv s1 ⟨x,H1,I1,r1,q1⟩=>?_
 refine thn (hb Ψ s1 σ H1 _ I1 q1) λu s2 ⟨y,H2,I2,r2,q2⟩=>?_
 exact hf v u s2 x y H2 I2 r1 r2 q2
noncomputable def gW(i:ah):TE:=λσ H Q=>∃v,σ[i]?=aa (aa v)/\Q v H
noncomputable def tC(v:V):TE:=λ_ H Q=>Q v H
theorem aW(hN:X.N[i]?=aa x)(hv:Vis X.env.scope x)(hd:autoParam (nDb x) Λ)(hcd:autoParam (nCd x) Λ):PE X (.Name x pos) (gW i):=by
 intro Ψ s σ H Q I h;obtain⟨v,e,h⟩:=h;obtain⟨m,hn,hl⟩:=I.loc;obtain⟨u,r,l⟩:=hl i x v hN e hv;have fin:EP X Ψ σ Q u s:=⟨v,H,I,r,h⟩
 rcases l with ⟨hk,hm⟩|⟨hk,c,hc,hcell⟩
 .exact yf (wpAny_loadName_local I.ok.kind hk hn hm fin) hd
 .rcases hk with hk|hk
  .exact yf (wpAny_loadName_cell I.ok.kind hk hc hcell fin) hd
  .exact yf (wpAny_loadName_free I.ok.kind hk hc hcell fin hcd) hd
theorem sO{i j pos}:PE X (.Constant (.int i) j pos) (tC (.int i)):=λ_ _ _ H _ I h=>wpAny_Constant_int ⟨.int i,H,I.tok _,⟨_,rfl⟩,h⟩
theorem aQ8{b j pos}:PE X (.Constant (.bool b) j pos) (tC (.bl b)):=λ_ _ _ H _ I h=>Constant_bool ⟨.bl b,H,I,rfl,h⟩
theorem aLy{j pos}:PE X (.Constant .none j pos) (tC .non):=λ_ _ _ H _ I h=>Constant_none ⟨.non,H,I,rfl,h⟩
theorem aGq{x j pos}:PE X (.Constant (.str x) j pos) (tC (.str x)):=λ_ _ _ H _ I h=>Calls.Constant_str ⟨.str x,H,I.tok _,⟨_,rfl⟩,h⟩
def Gl(X:Cx)(x:Str):Prop:=X.env.kindOf x=aa .globalImplicit
theorem wM(I:Inv X Ψ σ H s)(hg:Gl X x)(hm:X.mg x=aa u)(h:Q u s)
 (hd:autoParam (nDb x) Λ):ϑ (ay X.prog X.w) X.A (eval (.Name x pos) X.env) Q E s:=
 A0 I.ok.kind hg (Calls.loadGlobal_global (by rw[I.ok.glob];exact I.mod.glob.keeps I.bk) hm h) hd
theorem oA(I:Inv X Ψ σ H s)(hg:Gl X x)(hm:X.mg x=aj)(hv:dS x=aa u)(h:Q u s)
 (hn:autoParam (x ≠ "__name__") Λ)(hd:autoParam (nDb x) Λ):ϑ (ay X.prog X.w) X.A (eval (.Name x pos) X.env) Q E s:=by
 obtain⟨mb,h1,h2⟩:=I.mod.blt;exact A0 I.ok.kind hg (Calls.loadGlobal_builtin (by rw[I.ok.glob];exact I.mod.glob.keeps I.bk) hm (by rw[I.ok.blt];exact h1.keeps I.bk) ((h2 x hn).trans hv) h) hd
theorem fD(hg:Gl X x)(hm:X.mg x=aa u)(r:RelV v u)(hd:autoParam (nDb x) Λ):PE X (.Name x pos) (tC v):=
 λ_ _ _ H _ I h=>wM I hg hm ⟨v,H,I,r,h⟩ hd
theorem ZZ(hg:Gl X x)(hm:X.mg x=aj)(hv:dS x=aa u)(r:RelV v u)(hn:autoParam (x ≠ "__name__") Λ)(hd:autoParam (nDb x) Λ):PE X (.Name x pos) (tC v):=
 λ_ _ _ H _ I h=>oA I hg hm hv ⟨v,H,I,r,h⟩ hn hd
def t2I(ta tb:TE)(k:ai->ai->Hp->Prop):St->Hp->Prop:=λσ H=>ta σ H λx H1=>tb σ H1 λy H2=>∃i j,x=.int i/\y=.int j/\k i j H2
noncomputable def aLi(ta tb:TE):TE:=λσ H Q=>t2I ta tb (λi j H2=>Q (.int (i+j)) H2) σ H
noncomputable def aQ9(ta tb:TE):TE:=λσ H Q=>t2I ta tb (λi j H2=>Q (.int (i-j)) H2) σ H
noncomputable def aSf(ta tb:TE):TE:=λσ H Q=>t2I ta tb (λi j H2=>(-(2 ^ 64)<i/\i<2 ^ 64)/\Q (.int (i*j)) H2) σ H
variable {a b:Expr} {ta tb:TE} {pos:ck}
theorem J6(ha:PE X a ta)(hb:PE X b tb):PE X (.BinOp a .Add b pos) (aLi ta tb):=by
 intro Ψ s σ H Q I h;refine sK (bin ha hb I h λv u s2 x y H2 I2 rx ry q=>?_);obtain⟨i,j,rfl,rfl,q⟩:=q;obtain⟨t,rfl⟩:=rx;obtain⟨t',rfl⟩:=ry;exact add_int ⟨.int _,H2,I2.tok _,⟨_,rfl⟩,q⟩
theorem aGr(ha:PE X a ta)(hb:PE X b tb):PE X (.BinOp a .Sub b pos) (aQ9 ta tb):=by
 intro Ψ s σ H Q I h;refine sK (bin ha hb I h λv u s2 x y H2 I2 rx ry q=>?_);obtain⟨i,j,rfl,rfl,q⟩:=q;obtain⟨t,rfl⟩:=rx;obtain⟨t',rfl⟩:=ry;exact sub_int ⟨.int _,H2,I2.tok _,⟨_,rfl⟩,q⟩
theorem aLz(ha:PE X a ta)(hb:PE X b tb):PE X (.BinOp a .Mult b pos) (aSf ta tb):=by
 intro Ψ s σ H Q I h;refine sK (bin ha hb I h λv u s2 x y H2 I2 rx ry q=>?_);obtain⟨i,j,rfl,rfl,⟨q1,q2⟩,q⟩:=q;obtain⟨t,rfl⟩:=rx;obtain⟨t',rfl⟩:=ry;exact mul_int ⟨.int _,H2,I2.tok _,⟨_,rfl⟩,q⟩ (.of_left (yg q1 q2))
def PC(X:Cx)(op:sL)(a b:Expr)(t:TE):Prop:=
 ∀(Ψ:ae (al×bn))(s:au)(σ:St)(H:Hp)(Q:VK),Inv X Ψ σ H s->t σ H Q->
  ϑ (ay X.prog X.w) X.A (eval a X.env) (λv s₁=>ϑ (ay X.prog X.w) X.A (eval b X.env) (λu s₂=>ϑ (ay X.prog X.w) X.A (em op v u) (EP X Ψ σ Q) X.xe s₂) X.xe s₁) X.xe s
theorem aDt(b:Expr)(h:op≠.In)(h2:op≠.NotIn):iN op b=ak:=by
 have e1:(op==A3)=ak:=by cases op<;>first|rfl|exact aT rfl h
 have e2:(op==A4)=ak:=by cases op<;>first|rfl|exact aT rfl h2
 cases b<;>simp[iN,e1,e2]
noncomputable def aQa(p:ai->ai->aw)(ta tb:TE):TE:=λσ H Q=>t2I ta tb (λi j H2=>Q (.bl (p i j)) H2) σ H
abbrev tGt:TE->TE->TE:=aQa λi j=>ϒ (j<i)
abbrev aQb:TE->TE->TE:=aQa λi j=>ϒ (i=j)
theorem aGs(ha:PE X a ta)(hb:PE X b tb)
 (js:∀(i j:ai) (t u:eg) (Q:am->au->Prop) (s:au),Q (.bool (p i j)) s->ϑ (ay X.prog X.w) X.A (em op (.int i t) (.int j u)) Q X.xe s):PC X op a b (aQa p ta tb):=by
 intro Ψ s σ H Q I h;refine bin ha hb I h λv u s2 x y H2 I2 rx ry q=>?_
 obtain⟨i,j,rfl,rfl,q⟩:=q;obtain⟨t,rfl⟩:=rx;obtain⟨t',rfl⟩:=ry;exact js i j t t' _ s2 ⟨.bl _,H2,I2,rfl,q⟩
theorem aQc(ha:PE X a ta)(hb:PE X b tb):PC X .Gt a b (tGt ta tb):=aGs ha hb λ_ _ _ _ _ _ h=>gt_int h
theorem aGt(ha:PE X a ta)(hb:PE X b tb):PC X .Eq a b (aQb ta tb):=aGs ha hb λ_ _ _ _ _ _ h=>eq_int (by rw[A5];exact h)
noncomputable def tB(t:TE):TT:=λσ H Q=>t σ H λx H1=>∃c,x=.bl c/\Q c H1
theorem Z0(h:PC X op a b t)(h1:iN op b=ak:=by first|exact aDt _ 0x4 0x4|rfl):PT X (.Compare a [op] [b] pos) (tB t):=by
 intro Ψ s σ H Q I hw;refine A6 (thn (h Ψ s σ H _ I hw) λv s1 h1=>thn h1 λu s2 h2=>thn h2 λc s3 ⟨x,H1,I1,r1,q1⟩=>?_) h1;obtain⟨d,rfl,q⟩:=q1;cases r1;exact sM ⟨H1,I1,q⟩
variable {tA tB':TT} {rest:ae Expr}
noncomputable def aTf(t u:TT):TT:=λσ H Q=>t σ H λc H1=>if c=ag then u σ H1 Q else Q ak H1
noncomputable def tOr(t u:TT):TT:=λσ H Q=>t σ H λc H1=>if c=ag then Q ag H1 else u σ H1 Q
noncomputable def aTg(t:TT):TT:=λσ H Q=>t σ H λc H1=>Q (!c) H1
theorem Z1(ha:PT X a tA):PW X (.BoolOp .And [a] pos) tA:=by
 intro wh Ψ s σ H Q I h;refine isTrue_and (thn (ha Ψ s σ H Q I h) λc s1 e=>?_);cases c with
 |true=>exact isTrue_and_nil e
 |false=>exact e
theorem aM0(ha:PT X a tA):PW X (.BoolOp .Or [a] pos) tA:=by
 intro wh Ψ s σ H Q I h;refine isTrue_or (thn (ha Ψ s σ H Q I h) λc s1 e=>?_);cases c with
 |false=>exact isTrue_or_nil e
 |true=>exact e
theorem aGu(ha:PT X a tA)(hb:PW X (.BoolOp .And (b::rest) pos) tB'):PW X (.BoolOp .And (a::b::rest) pos) (aTf tA tB'):=by
 intro wh Ψ s σ H Q I h;refine isTrue_and (thn (ha Ψ s σ H _ I h) λc s1 ⟨H1,I1,q1⟩=>?_);cases c with
 |true=>exact hb wh Ψ s1 σ H1 Q I1 q1
 |false=>exact⟨H1,I1,q1⟩
theorem aQd(ha:PT X a tA)(hb:PW X (.BoolOp .Or (b::rest) pos) tB'):PW X (.BoolOp .Or (a::b::rest) pos) (tOr tA tB'):=by
 intro wh Ψ s σ H Q I h;refine isTrue_or (thn (ha Ψ s σ H _ I h) λc s1 ⟨H1,I1,q1⟩=>?_);cases c with
 |true=>exact⟨H1,I1,q1⟩
 |false=>exact hb wh Ψ s1 σ H1 Q I1 q1
theorem aM1(ha:PT X a tA):PT X (.UnaryOp .Not a pos) (aTg tA):=by
 intro Ψ s σ H Q I h;exact isTrue_not (ha Ψ s σ H (λc H1=>Q (!c) H1) I h)
noncomputable def aQe(ta tb:TE):TE:=λσ H Q=>ta σ H λx H1=>∃c,x=.bl c/\if c=ag then tb σ H1 Q else Q (.bl ak) H1
theorem aM2{op}(h:PE X a t):PE X (.BoolOp op [a] pos) t:=λΨ s σ H Q I hw=>BoolOp_one (h Ψ s σ H Q I hw)
theorem aM3(ha:PE X a ta)(hb:PE X (.BoolOp .And (b::rest) pos) tb):PE X (.BoolOp .And (a::b::rest) pos) (aQe ta tb):=by
 intro Ψ s σ H Q I h;refine BoolOp_and (thn (ha Ψ s σ H _ I h) λv s1 ⟨x,H1,I1,r1,q1⟩=>?_);obtain⟨c,rfl,q1⟩:=q1;cases r1;refine sM ?_;cases c with
 |true=>exact hb Ψ s1 σ H1 Q I1 q1
 |false=>exact⟨.bl ak,H1,I1,rfl,q1⟩
end
def SqL(K:bi)(H:Hp)(a:al)(xs:ae V):Prop:=
 Rd H a (.lst xs)\/
  ∃(o:bn)(its:bp am)(n:ah),K.lookup a=aa o/\o.cls=.type "list"/\o.dict=aj/\o.data=.seq its n/\its.size<=bo/\Vals xs its.toList
def SqT(K:bi)(H:Hp)(a:al)(xs:ae V):Prop:=
 Rd H a (.tup xs)\/
  ∃(o:bn)(its:bp am)(n:ah),K.lookup a=aa o/\o.cls=.type "tuple"/\o.data=.seq its n/\its.size<=bo/\Vals xs its.toList
noncomputable def aTh:am->ar V
 |.none=>aa .non
 |.bool b=>aa (.bl b)
 |.int i _=>aa (.int i)
 |.str x _=>aa (.str x)
 |.bytes b _=>aa (.byt b)
 |.float b _=>aa (.flt b)
 |.ref a=>aa (.ref a)
 |.type n=>aa (.ty n)
 |_=>aj
theorem RelV.abs(r:RelV x u):aTh u=aa x:=by
 cases x with
 |non=>cases r;rfl
 |bl _=>cases r;rfl
 |int _=>obtain⟨t,rfl⟩:=r;rfl
 |str _=>obtain⟨t,rfl⟩:=r;rfl
 |byt _=>obtain⟨t,rfl⟩:=r;rfl
 |flt _=>obtain⟨t,rfl⟩:=r;rfl
 |ref _=>cases r;rfl
 |ty _=>cases r;rfl
theorem RelV.inj(r:RelV x u)(q:RelV y u):x=y:=fE (r.abs.symm.trans q.abs)
theorem Vals.inj:∀{xs ys:ae V}{us:ae am},Vals xs us->Vals ys us->xs=ys
 |_,_,_,.nil,.nil=>rfl
 |_,_,_,.cons r t,.cons r' t'=>by rw[r.inj r',Vals.inj t t']
section
variable {X:Cx} {Ψ:ae (al×bn)} {σ:St} {H:Hp} {s:au} {a:al} {xs ys:ae V}
theorem SqL.of{K:bi}(h:H a=aa (.lst xs)):SqL K H a xs:=.inl (.inl h)
theorem SqT.of{K:bi}(h:H a=aa (.tup xs)):SqT K H a xs:=.inl (.inl h)
theorem Inv.list(I:Inv X Ψ σ H s)(h:SqL X.K H a xs):∃its:ae am,Vals xs its/\PlainL s.heap a its.toArray/\xs.length<=bo:=by
 rcases h with h|⟨o,its,n,hk,hc,hd,hs,hz,r⟩
 .obtain⟨z,its,n,r,e⟩:=h.ok I.hok;exact⟨its,r,⟨_,n,e,rfl,rfl,rfl⟩,z⟩
 .refine⟨its.toList,r,⟨o,n,I.kIn a o hk,hc,hd,by simpa using hs⟩,?_⟩;have e:=r.length;simp only[sP] at e;lia
theorem Inv.tuple(I:Inv X Ψ σ H s)(h:SqT X.K H a xs):∃its:ae am,Vals xs its/\kC s.heap a its.toArray/\xs.length<=bo:=by
 rcases h with h|⟨o,its,n,hk,hc,hs,hz,r⟩
 .obtain⟨z,its,r,p⟩:=h.ok I.hok;exact⟨its,r,p.tup,z⟩
 .refine⟨its.toList,r,⟨o,I.kIn a o hk,hc,n,by simpa using hs⟩,?_⟩;have e:=r.length;simp only[sP] at e;lia
theorem Inv.aDu(I:Inv X Ψ σ H s)(h:SqL X.K H a xs)(h':SqL X.K H a ys):xs=ys:=by
 obtain⟨its,r,⟨o,n,e,_,_,d⟩,_⟩:=I.list h;obtain⟨its',r',⟨o',n',e',_,_,d'⟩,_⟩:=I.list h';rw[e] at e';cases e';rw[d] at d';injection d' with d1 _
 have:its=its':=by simpa using cf yh d1
 subst this;exact r.inj r'
theorem Inv.Z2(I:Inv X Ψ σ H s)(h:SqT X.K H a xs)(h':SqT X.K H a ys):xs=ys:=by
 obtain⟨its,r,⟨o,e,_,n,d⟩,_⟩:=I.tuple h;obtain⟨its',r',⟨o',e',_,n',d'⟩,_⟩:=I.tuple h';rw[e] at e';cases e';rw[d] at d';injection d' with d1 _
 have:its=its':=by simpa using cf yh d1
 subst this;exact r.inj r'
end
noncomputable abbrev Cx.wish(X:Cx)(E:am->au->Prop):Cx:={X with xe:=E}
noncomputable abbrev Cx.nox(X:Cx):Cx:=X.wish λ_ _=>cb
theorem Cx.Ok.wish{X:Cx}(ok:X.Ok)(E:am->au->Prop):(X.wish E).Ok:=
 ⟨ok.mod,ok.kind,ok.glob,ok.blt,ok.above,ok.inj,ok.has,ok.cab,ok.hd,ok.frames,ok.stk,ok.exf,ok.bs,ok.bsz,ok.noex,ok.exfs,ok.XJ,ok.frf⟩
theorem Cx.Ok.m5{X:Cx}(ok:(X.wish E).Ok):X.Ok:=
 ⟨ok.mod,ok.kind,ok.glob,ok.blt,ok.above,ok.inj,ok.has,ok.cab,ok.hd,ok.frames,ok.stk,ok.exf,ok.bs,ok.bsz,ok.noex,ok.exfs,ok.XJ,ok.frf⟩
section
variable {X:Cx} {Ψ:ae (al×bn)} {σ:St} {H:Hp} {s:au} {E:am->au->Prop}
theorem Inv.wish(I:Inv X Ψ σ H s)(E:am->au->Prop):Inv (X.wish E) Ψ σ H s:=⟨I.ok.wish E,I.os,I.bare,I.base,I.loc,I.cell,I.free,I.freeC,I.pin,I.hok,I.len⟩
theorem Inv.m5(I:Inv (X.wish E) Ψ σ H s):Inv X Ψ σ H s:=⟨I.ok.m5,I.os,I.bare,I.base,I.loc,I.cell,I.free,I.freeC,I.pin,I.hok,I.len⟩
theorem SP.m5(h:SP (X.wish E) Ψ D f s'):SP X Ψ D f s':=by
 cases f with
 |next=>obtain⟨σ',H',I,q⟩:=h;exact⟨σ',H',I.m5,q⟩
 |brk=>obtain⟨σ',H',I,q⟩:=h;exact⟨σ',H',I.m5,q⟩
 |cont=>obtain⟨σ',H',I,q⟩:=h;exact⟨σ',H',I.m5,q⟩
 |ret u=>obtain⟨v,σ',H',I,r,q⟩:=h;exact⟨v,σ',H',I.m5,r,q⟩
theorem PSs.nox{st:ae bz}(h:PSs X.nox st t):PSs X st t:=λΨ s σ H D I hw=>
 fg (h Ψ s σ H D (I.wish _) hw) (λ_ _ q=>q.m5) λ_ _ z=>d6 z
end
section
variable {X:Cx} {st:bz} {rest:ae bz} {t u:TS} {e:Expr} {te:TE} {pos:ck}
noncomputable def Z3:TS:=λD σ H=>D.nx σ H
noncomputable def wN(t u:TS):TS:=λD σ H=>t {D with nx:=u D} σ H
theorem yU:PSs X [] Z3:=λ_ _ σ H _ I h=>jt ⟨σ,H,I,h⟩
theorem bR(h1:PS X st t)(h2:PSs X rest u):PSs X (st::rest) (wN t u):=by
 intro Ψ s σ H D I h;refine sQ (thn (h1 Ψ s σ H {D with nx:=u D} I h) λf s1 q=>?_);cases f with
 |next=>
  obtain⟨σ',H',I',q⟩:=q;exact h2 Ψ s1 σ' H' D I' q
 |ret v=>exact q
 |brk=>exact q
 |cont=>exact q
theorem dI(h1:PS X st t):PSs X [st] t:=by
 intro Ψ s σ H D I h;refine sQ (thn (h1 Ψ s σ H D I h) λf s1 q=>?_);cases f with
 |next=>exact jt q
 |ret v=>exact q
 |brk=>exact q
 |cont=>exact q
theorem Inv.quiet(I:Inv X Ψ σ H s):A7 X.env=ak:=by simp[A7,I.ok.kind]
noncomputable def GK(te:TE):TS:=λD σ H=>te σ H λ_ H1=>D.nx σ H1
theorem jK(he:PE X e te)(hs:autoParam (dy e aj pos.line X.env=pure ak) Ω):PS X (.Expr e pos) (GK te):=by
 intro Ψ s σ H D I h;exact wpAny_Expr_any (thn (he Ψ s σ H _ I h) λv s1 ⟨x,H1,I1,r1,q1⟩=>⟨σ,H1,I1,q1⟩) I.quiet hs
noncomputable def aM4(te:TE):TS:=λD σ H=>te σ H D.rt
theorem sS(he:PE X e te):PS X (.Return (aa e) pos) (aM4 te):=by
 intro Ψ s σ H D I h;exact wpAny_Return_some (thn (he Ψ s σ H _ I h) λv s1 ⟨x,H1,I1,r1,q1⟩=>⟨x,σ,H1,I1,r1,q1⟩)
noncomputable def aGv(c:TT)(t u:TS):TS:=λD σ H=>c σ H λb H1=>if b=ag then t D σ H1 else u D σ H1
theorem J7(hc:PT X c tc)(ha:PSs X a t)(hb:PSs X b u):PS X (.If c a b pos) (aGv tc t u):=by
 intro Ψ s σ H D I h;refine wpAny_If (thn (hc Ψ s σ H _ I h) λd s1 ⟨H1,I1,q1⟩=>?_);cases d with
 |true=>exact ha Ψ s1 σ H1 D I1 q1
 |false=>exact hb Ψ s1 σ H1 D I1 q1
end
abbrev TG:=V->St->Hp->(St->Hp->Prop)->Prop
abbrev TGs:=ae V->St->Hp->(St->Hp->Prop)->Prop
def PG(X:Cx)(target:Expr)(t:TG):Prop:=
 ∀(Ψ:ae (al×bn))(s:au)(σ:St)(H:Hp)(v:V)(u:am)(Q:St->Hp->Prop),Inv X Ψ σ H s->RelV v u->t v σ H Q->
  ϑ (ay X.prog X.w) X.A (kG target X.env u) (λ_ s'=>∃σ' H',Inv X Ψ σ' H' s'/\Q σ' H') X.xe s
def PGs(X:Cx)(ts:ae Expr)(t:TGs):Prop:=
 ∀(Ψ:ae (al×bn))(s:au)(σ:St)(H:Hp)(vs:ae V)(us:ae am)(Q:St->Hp->Prop),Inv X Ψ σ H s->Vals vs us->t vs σ H Q->
  ϑ (ay X.prog X.w) X.A (A8 ((jd ts X.env).map (·.2)) us) (λ_ s'=>∃σ' H',Inv X Ψ σ' H' s'/\Q σ' H') X.xe s
abbrev aTi:=V->V->V->Hp->(Hp->Prop)->Prop
def aTj(X:Cx)(t:aTi):Prop:=
 ∀(Ψ:ae (al×bn))(s:au)(σ:St)(H:Hp)(o i v:V)(ov iv u:am)(Q:Hp->Prop),Inv X Ψ σ H s->RelV o ov->RelV i iv->RelV v u->t o i v H Q->
  ϑ (ay X.prog X.w) X.A (setItem ov iv u) (λ_ s'=>∃H',Inv X Ψ σ H' s'/\Q H') X.xe s
section
variable {X:Cx} {pos:ck}
noncomputable def fG(i:ah):TG:=λv σ H Q=>Q (σ.set i (aa v)) H
theorem aV(hN:X.N.Nodup)(hi:X.N[i]?=aa x)(hx:Loc X.env.scope x)(hf:autoParam (zFn X x) Ξ):PG X (.Name x pos) (fG i):=by
 intro Ψ s σ H v u Q I r h;exact wpAny_assign_Name (GJ I hN hi hx r (λs' I'=>⟨_,H,I',h⟩) hf)
noncomputable def aPu:TGs:=λvs σ H Q=>vs=[]/\Q σ H
noncomputable def XM(t:TG)(u:TGs):TGs:=λvs σ H Q=>∃v r,vs=v::r/\t v σ H λσ' H'=>u r σ' H' Q
theorem GP:PGs X [] aPu:=by
 intro Ψ s σ H vs us Q I r h;obtain⟨e,h⟩:=h;subst e;cases r;exact assignInOrder_nil ⟨σ,H,I,h⟩
theorem eY(h1:PG X e t)(h2:PGs X es u)
 (hs:autoParam ((jd (e::es) X.env).map (·.2)=kG e X.env::(jd es X.env).map (·.2)) Ω):PGs X (e::es) (XM t u):=by
 intro Ψ s σ H vs us Q I r h;obtain⟨v,vr,e1,h⟩:=h;subst e1;cases r with
 |cons r rr=>
  rw[hs];refine assignInOrder_cons (thn (h1 Ψ s σ H _ _ _ I r h) λ_ s1 ⟨σ1,H1,I1,q1⟩=>?_);exact h2 Ψ s1 σ1 H1 _ _ Q I1 rr q1
noncomputable def aPv(K:bi)(n:ah)(t:TGs):TG:=λv σ H Q=>∃a xs,v=.ref a/\SqT K H a xs/\xs.length=n/\t xs σ H Q
theorem Z4(hc:X.calm=ag)(h:PGs X es t)
 (hn:autoParam ((jd es X.env).length=n) Ω)(hst:autoParam ((jd es X.env).findIdx? (·.1)=aj) Ω):PG X (.Tuple es k pos) (aPv X.K n t):=by
 intro Ψ s σ H v u Q I r hw;obtain⟨a,xs,e1,hq,hl,hw⟩:=hw;subst e1;cases r;obtain⟨its,rv,ht,hz⟩:=I.tuple hq;refine assign_Tuple_tuple (I.ok.hd hc) ht (by simp[hn,<-hl,rv.length]) hst λh' hx=>?_
 have I1:Inv X Ψ σ H {s with heap:=h'}:=I.kept λb o e=>hx b o (cy (bE e)) e
 exact h Ψ _ σ H xs _ Q I1 (by simpa using rv) hw
noncomputable def BX(te:TE)(g:TG):TS:=λD σ H=>te σ H λx H1=>g x σ H1 D.nx
theorem oE(he:PE X e te)(hg:PG X tg g)(hs:autoParam (A9 [tg] e pos.line X.env=pure ak) Ω)(hw:autoParam (Ba [tg] e X.env=pure aj) Ω)
 (h1:autoParam ((jd [tg] X.env).map (·.2)=[kG tg X.env]) Ω):PS X (.Assign [tg] e pos) (BX te g):=by
 intro Ψ s σ H D I h;refine wpAny_Assign_stores (thn (he Ψ s σ H _ I h) λv s1 ⟨x,H1,I1,r1,q1⟩=>?_) hs hw;rw[h1];exact thn (hg Ψ s1 σ H1 x v _ I1 r1 q1) λ_ s2 q=>q
theorem yV(hN:X.N.Nodup)(hi:X.N[i]?=aa x)(hx:Loc X.env.scope x)(he:PE X e te)(hs:autoParam (zSw X e x pos' pos) Ω)(hf:autoParam (zFn X x) Ξ) :
  PS X (.Assign [.Name x pos'] e pos) (BX te (fG i)):=by
 intro Ψ s σ H D I h;refine Bb (thn (he Ψ s σ H _ I h) λv s1 ⟨y,H1,I1,r1,q1⟩=>?_) hs;exact GJ I1 hN hi hx r1 (λs2 I2=>⟨_,H1,I2,q1⟩) hf
def Z5(c:TT)(tb:TS):TS:=λD σ H=>∃W:ah->St->Hp->Prop,(∃m,W m σ H)/\∀m σ H,W m σ H->
 c σ H λb H1=>if b=ag then ∃N:St->Hp->Prop,(∀σ' H',N σ' H'->∃m',m'<m/\W m' σ' H')/\tb {D with nx:=N,ct:=N,bk:=D.nx} σ H1 else D.nx σ H1
theorem T8(hp:ju (ay X.prog X.w) X.A X.env X.xe)(hc:PT X c tc)(hb:PSs X body tb):PS X (.While c body [] pos) (Z5 tc tb):=by
 intro Ψ s σ H D I h;obtain⟨W,⟨m0,w0⟩,turn⟩:=h;refine wpAny_While (codeAny_whileLoop (λn s'=>∃σ' H',Inv X Ψ σ' H' s'/\W n σ' H') ?_ m0 ⟨σ,H,I,w0⟩);rintro n s1 ⟨σ1,H1,I1,w1⟩;refine kH hp (thn (hc Ψ s1 σ1 H1 _ I1 (turn n σ1 H1 w1)) λb s2 ⟨H2,I2,q2⟩=>?_);cases b with
 |true=>
  obtain⟨N,hN,q2⟩:=q2;rw[ao rfl];refine kH hp (thn (hb Ψ s2 σ1 H2 _ I2 q2) λf s3 q3=>?_);cases f with
  |next=>
   obtain⟨σ3,H3,I3,n3⟩:=q3;obtain⟨m',hm,w3⟩:=hN σ3 H3 n3;exact⟨m',hm,σ3,H3,I3,w3⟩
  |cont=>
   obtain⟨σ3,H3,I3,n3⟩:=q3;obtain⟨m',hm,w3⟩:=hN σ3 H3 n3;exact⟨m',hm,σ3,H3,I3,w3⟩
  |brk=>exact q3
  |ret v=>exact q3
 |false=>
  rw[ax iO];exact jt ⟨σ1,H2,I2,q2⟩
end
structure It where
 go:ah->Hp->Prop
 yld:ah->Hp->V->Hp->Prop
 stop:ah->Hp->Prop
def ZP(X:Cx)(Ψ:ae (al×bn))(H:Hp)(b:al):Prop:=
 H b=aj/\b≠X.env.locals/\b∉X.fs/\(b∈X.ex\/X.s₀.heap.objs.size<=b)/\(∀x c,X.env.cells.lookup x=aa c->c≠b)/\∀p∈X.pn++Ψ,p.1≠b
theorem Inv.aLj(I:Inv X Ψ σ H s)(hb:s.heap.objs.size<=b)(hn:H' b=aj):ZP X Ψ H' b:=by
 refine⟨hn,iP (dQ I.lt hb),I.aSe hb,.inr (dj I.sz hb),λx c e z=>?_,λp hp z=>?_⟩
 .obtain⟨v,q⟩:=I.cell x c e;exact aT (dQ q.lt (by rw[z];exact hb)) (hU _)
 .exact aT (dQ (bE (I.pin p hp).1) (by rw[z];exact hb)) (hU _)
structure Turn(P:bS)(w:bu)(K:bi)(tg:Expr)(J:It)(fp:ae al)(it:al)(tn:ah->aI->Prop):Prop where
 mem:it∈fp
 obj:∀i h,tn i h->∀b∈fp,∃o,h.get? b=aa o/\∀v,o.data≠.cell v
 keep:∀i h h',tn i h->(∀b∈fp,∀o,h.get? b=aa o->h'.get? b=aa o)->tn i h'
 item:∀(X:Cx),X.prog=P->X.w=w->X.K=K->X.calm=ag->∀(i:ah)(Ψ:ae (al×bn))(s:au)(σ:St)(H:Hp)(E:am->au->Prop),Inv X Ψ σ H s->(∀b∈fp,ZP X Ψ H b)->tn i s.heap->J.go i H->
  ϑ (ay P w) X.A (iS (.ref it)) (λr s1=>∃u,r=aa u/\
   ϑ (ay P w) X.A (om tg (.ref it) u) (λ_ s2=>∃x H',Inv X Ψ σ H' s2/\RelV x u/\J.yld i H x H'/\tn (i+1) s2.heap/\∀b∈fp,H' b=aj) E s1) E s
 done:∀(X:Cx),X.prog=P->X.w=w->X.K=K->X.calm=ag->∀(i:ah)(Ψ:ae (al×bn))(s:au)(σ:St)(H:Hp)(E:am->au->Prop),Inv X Ψ σ H s->(∀b∈fp,ZP X Ψ H b)->tn i s.heap->J.stop i H->
  ϑ (ay P w) X.A (iS (.ref it)) (λr s1=>r=aj/\Inv X Ψ σ H s1) E s
 self:∀(A:b6)(i:ah)(s:au)(Q:am->au->Prop)(E:am->au->Prop),tn i s.heap->Q (.ref it) s->ϑ (ay P w) A (l9 (.ref it)) Q E s
abbrev TI:=St->Hp->(It->Hp->Prop)->Prop
def PIE(X:Cx)(Ψ:ae (al×bn))(σ:St)(tg:Expr)(R:It->Hp->Prop)(itv:am)(s2:au):Prop:=
 ∃(it:al)(fp:ae al)(tn:ah->aI->Prop)(J:It)(H':Hp),itv=.ref it/\Inv X Ψ σ H' s2/\Turn X.prog X.w X.K tg J fp it tn/\tn 0 s2.heap/\(∀b∈fp,ZP X Ψ H' b)/\R J H'
def PI(X:Cx)(tg iter:Expr)(wi:TI):Prop:=
 ∀(Ψ:ae (al×bn))(s:au)(σ:St)(H:Hp)(R:It->Hp->Prop),Inv X Ψ σ H s->wi σ H R->
  ϑ (ay X.prog X.w) X.A (eval iter X.env) (λv s1=>ϑ (ay X.prog X.w) X.A (l9 v) (PIE X Ψ σ tg R) X.xe s1) X.xe s
theorem aDv(ho:s.heap.get? it=aa o)(hc:o.cls=.type n)(hd:o.data=.fields vs)
 (hn:["enumerate","zip","dict_itemiterator","dict_reverseitemiterator","odict_iterator","itertools.zip_longest","itertools.pairwise"].contains n=ak)(hQ:Q () s):ϑ M A (om tg (.ref it) u) Q E s:= by
  unfold om;cases tg<;>first
    |exact bc hQ
    | (cases u<;>first
        |exact bc hQ
        | (refine aq (wpAny_load ho ?_)
           rw[hc,hd];show ϑ M A (if (["enumerate","zip","dict_itemiterator","dict_reverseitemiterator","odict_iterator","itertools.zip_longest","itertools.pairwise"].contains n&&vs[0]?==aa (cz _))=ag then _ else _) Q E s;rw[ax (by intro h;rw[hn,Bc] at h;cases h)];exact bc hQ))
noncomputable def Itl(K:bi)(a:al):It:=
 ⟨λi H=>∃xs x,SqL K H a xs/\xs[i]?=aa x,λi H x H'=>H'=H/\∀xs,SqL K H a xs->xs[i]?=aa x,λi H=>∃xs,SqL K H a xs/\xs.length<=i⟩
noncomputable def Itt(K:bi)(a:al):It:=
 ⟨λi H=>∃xs x,SqT K H a xs/\xs[i]?=aa x,λi H x H'=>H'=H/\∀xs,SqT K H a xs->xs[i]?=aa x,λi H=>∃xs,SqT K H a xs/\xs.length<=i⟩
noncomputable def Itr(lo:ai)(n:ah):It:=⟨λi _=>i<n,λi H x H'=>H'=H/\x=.int (lo+i),λi _=>n<=i⟩
theorem J8{K:bi}(a it:al):Turn P w K tg (Itl K a) [it] it (λi h=>h.IsListIter it a i) where
 mem:=by simp
 obj:=λi h st b hb=>by
  have e:b=it:=by simpa using hb
  subst e;obtain⟨o,e,c,d⟩:=st;exact⟨o,e,λv z=>by rw[d] at z;cases z⟩
 keep:=λi h h' st k=>st.at λo e=>k it 0x2 o e
 item:=by
  intro X hP hw hK hc i Ψ s σ H E I hf st hg;subst hP hw hK;obtain⟨xs,x,hq,hx⟩:=hg;obtain⟨its,rv,p,hz⟩:=I.list hq;obtain⟨u,hu,ru⟩:=rv.get hx;obtain⟨f0,f1,f2,f3,f4,f5⟩:=hf it 0x2;refine sR st p.isList (by simpa using hu) λh' st' sb=>?_
  have I1:Inv X Ψ σ H {s with heap:=h'}:=I.turned (λb o hb e=>(sb.2 b hb).trans e) f0 f1 f3 f4 f5;obtain⟨o,e,c,d⟩:=id st';exact⟨u,rfl,aDv e c d 0x4 ⟨x,H,I1,ru,⟨rfl,λys hy=>by rw[I.aDu hy hq];exact hx⟩,st',λb hb=>(hf b hb).1⟩⟩
 done:=by
  intro X hP hw hK hc i Ψ s σ H E I hf st hg;subst hP hw hK;obtain⟨xs,hq,hx⟩:=hg;obtain⟨its,rv,p,hz⟩:=I.list hq;obtain⟨f0,f1,f2,f3,f4,f5⟩:=hf it 0x2;have hl:=rv.length;exact s0 (I.ok.hd hc) st p.isList (by simp;lia) λh' eb=>⟨rfl,I.turned (λb o hb e=>eb b o hb e) f0 f1 f3 f4 f5⟩
 self:=λ_ _ _ _ _ st h=>wpAny_pyIter_listiter st h
theorem XN{K:bi}(a it:al):Turn P w K tg (Itt K a) [it] it (λi h=>h.IsTupleIter it a i) where
 mem:=by simp
 obj:=λi h st b hb=>by
  have e:b=it:=by simpa using hb
  subst e;obtain⟨o,e,c,d⟩:=st;exact⟨o,e,λv z=>by rw[d] at z;cases z⟩
 keep:=λi h h' st k=>st.at λo e=>k it 0x2 o e
 item:=by
  intro X hP hw hK hc i Ψ s σ H E I hf st hg;subst hP hw hK;obtain⟨xs,x,hq,hx⟩:=hg;obtain⟨its,rv,p,hz⟩:=I.tuple hq;obtain⟨u,hu,ru⟩:=rv.get hx;obtain⟨f0,f1,f2,f3,f4,f5⟩:=hf it 0x2;refine wpAny_pyNext_tuple_item st (show s.heap.IsTuple a its.toArray from p) (by simpa using hu) λh' st' sb=>?_
  have I1:Inv X Ψ σ H {s with heap:=h'}:=I.turned (λb o hb e=>(sb.2 b hb).trans e) f0 f1 f3 f4 f5;obtain⟨o,e,c,d⟩:=id st';exact⟨u,rfl,aDv e c d 0x4 ⟨x,H,I1,ru,⟨rfl,λys hy=>by rw[I.Z2 hy hq];exact hx⟩,st',λb hb=>(hf b hb).1⟩⟩
 done:=by
  intro X hP hw hK hc i Ψ s σ H E I hf st hg;subst hP hw hK;obtain⟨xs,hq,hx⟩:=hg;obtain⟨its,rv,p,hz⟩:=I.tuple hq;obtain⟨f0,f1,f2,f3,f4,f5⟩:=hf it 0x2;have hl:=rv.length;exact wpAny_pyNext_tuple_end (I.ok.hd hc) st (show s.heap.IsTuple a its.toArray from p) (by simp;lia) λh' eb=>⟨rfl,I.turned (λb o hb e=>eb b o hb e) f0 f1 f3 f4 f5⟩
 self:=λ_ _ _ _ _ st h=>wpAny_pyIter_tupleiter st h
theorem XQ{K:bi}(it:al)(lo:ai)(n:ah):Turn P w K tg (Itr lo n) [it] it (λi h=>Bd h it (lo+(i:ah)*1) ((n:ai)-(i:ah)) 1) where
 mem:=by simp
 obj:=λi h st b hb=>by
  have e:b=it:=by simpa using hb
  subst e;exact⟨_,st,λv z=>by
   have z':Data.fields _=Data.cell v:=z;cases z'⟩
 keep:=λi h h' st k=>k it 0x2 _ st
 item:=by
  intro X hP hw hK hc i Ψ s σ H E I hf st hg;subst hP hw hK;obtain⟨f0,f1,f2,f3,f4,f5⟩:=hf it 0x2;have W:=Walks.range (prog:=X.prog) (w:=X.w) (I.ok.hd hc) it lo 1 n;refine W.item i s _ _ hg st λv h' tk hv st' kk=>?_
  obtain⟨t,rfl⟩:=hv;have I1:Inv X Ψ σ H {s with heap:=h',toks:=tk}:=I.turned (λb o hb e=>kk b o (by simpa using hb) e) f0 f1 f3 f4 f5;refine⟨_,rfl,aDv st' rfl rfl 0x4 ⟨.int (lo+i),H,I1,⟨t,?_⟩,⟨rfl,rfl⟩,st',λb hb=>(hf b hb).1⟩⟩;rw[Be]
 done:=by
  intro X hP hw hK hc i Ψ s σ H E I hf st hg;subst hP hw hK;obtain⟨f0,f1,f2,f3,f4,f5⟩:=hf it 0x2;exact wpAny_pyNext_range_end (I.ok.hd hc) st (by have:n<=i:=hg;lia) λh' eb=>⟨rfl,I.turned (λb o hb e=>eb b o hb e) f0 f1 f3 f4 f5⟩
 self:=λ_ _ _ _ _ st h=>wpAny_pyIter_rangeiter st h
section
variable {X:Cx} {tg:Expr}
theorem aDw{lo hi:ai}{t u v:eg}{tk:ah}(I:Inv X Ψ σ H s)(h1:-(2 ^ 62)<=lo)(h2:lo<2 ^ 62)(h3:-(2 ^ 62)<=hi)(h4:hi<2 ^ 62)
 (q:R (Itr lo (hi-lo).toNat) H):ϑ (ay X.prog X.w) X.A (l9 (.ref s.heap.objs.size)) (PIE X Ψ σ tg R) E {s with heap:=s.heap.push {cls:=.type "range",data:=.fields #[.int lo t,.int hi u,.int 1 v]},toks:=tk}:=by
 refine wpAny_pyIter_range (IsRange.new ..) (small_one h1 h2 h3 h4) ?_;have I1:Inv X Ψ σ H {s with heap:=s.heap.push {cls:=.type "range",data:=.fields #[.int lo t,.int hi u,.int 1 v]},toks:=tk}:=I.kept λb o e=>bX _ e
 refine⟨(s.heap.push {cls:=.type "range",data:=.fields #[.int lo t,.int hi u,.int 1 v]}).objs.size,[(s.heap.push {cls:=.type "range",data:=.fields #[.int lo t,.int hi u,.int 1 v]}).objs.size],_,_,H,rfl,
  I1.kept λb o e=>bX _ e,XQ _ lo (hi-lo).toNat,?_,λb hb=>?_,q⟩
 .have e1:lo+((0:ah):ai)*1=lo:=by simp
  have e2:(((hi-lo).toNat:ah):ai)-((0:ah):ai)=DD lo hi 1:=by rw[rangeSize_one];split<;>lia
  show Bd _ _ (lo+((0:ah):ai)*1) ((((hi-lo).toNat:ah):ai)-((0:ah):ai)) 1;rw[e1,e2];exact dh _ rfl
 .have e:b=(s.heap.push {cls:=.type "range",data:=.fields #[.int lo t,.int hi u,.int 1 v]}).objs.size:=by simpa using hb
  subst e;exact I1.aLj (bt _) (I1.hok.fresh (bt _))
def aQf(ta:TA):TI:=λσ H R=>ta σ H λvs H1=>∃j:ai,vs=[.int j]/\-(2 ^ 62)<=j/\j<2 ^ 62/\R (Itr 0 j.toNat) H1
theorem J9{p pos:ck}(hg:Gl X "range")(hm:X.mg "range"=aj)(ha:PA X [a] ta)(hs:autoParam (b5 [a] X.env=[(ak,eval a X.env)]) Ω):PI X tg (.Call (.Name "range" p) [a] [] pos) (aQf ta):=by
 intro Ψ s σ H R I h;refine Call_ (oA I hg hm boot_range (jv (thn (ha pos Ψ s σ H _ I h) λus s1 ⟨vs,H1,I1,r1,q1⟩=>?_) hs rfl));obtain⟨j,e,q1,q2,q⟩:=q1;subst e;cases r1 with
 |cons r rr=>
  cases rr;obtain⟨t,rfl⟩:=r;exact call_range_1 (aDw I1 0x1 0x1 q1 q2 (by simpa using q))
def aQg(wi:TI)(g:TG)(tb:TS):TS:=λD σ H=>wi σ H λJ H1=>∃W:ah->ah->St->Hp->Prop,(∃m,W 0 m σ H1)/\∀i m σ H,W i m σ H->
 (J.stop i H/\D.nx σ H)\/(J.go i H/\∃N:St->Hp->Prop,(∀σ' H',N σ' H'->∃m',m'<m/\W (i+1) m' σ' H')/\∀x H',J.yld i H x H'->g x σ H' λσ2 H2=>tb {D with nx:=N,ct:=N,bk:=D.nx} σ2 H2)
noncomputable def yW(fp:ae al)(h:aI):ae (al×bn):=fp.filterMap λb=>(h.get? b).map λo=>(b,o)
theorem nU(hb:b∈fp)(e:h.get? b=aa o):(b,o)∈yW fp h:=yi.mpr ⟨b,hb,by rw[e];rfl⟩
theorem Z6(hp:p∈yW fp h):p.1∈fp/\h.get? p.1=aa p.2:=by
 obtain⟨b,hb,e⟩:=yi.mp hp;cases q:h.get? b with
 |none=>rw[q] at e;cases e
 |some o=>
  rw[q] at e;have e':(b,o)=p:=fE e;subst e';exact⟨hb,q⟩
theorem Inv.pinned(I:Inv X Ψ σ H s)(hf:∀b∈fp,ZP X Ψ H b)(ho:∀b∈fp,∃o,s.heap.get? b=aa o/\∀v,o.data≠.cell v):Inv X (Ψ++yW fp s.heap) σ H s:=
 I.QW λp hp=>(eP.mp hp).elim (λz=>I.pin p (eS _ z)) λz=>by
  obtain⟨hb,e⟩:=Z6 z;obtain⟨f0,f1,f2,_⟩:=hf p.1 hb;obtain⟨o,e',d⟩:=ho p.1 hb;rw[e] at e';cases e';exact⟨e,f0,f1,f2,d⟩
theorem Inv.sU(I:Inv X (Ψ++pl) σ H s):Inv X Ψ σ H s:=I.QW λp hp=>I.pin p (eS _ (jr _ hp))
theorem DN(hp:ju (ay X.prog X.w) X.A X.env X.xe)(hc:X.calm=ag)(hi:PI X tg iter wi)(hg:PG X tg g)(hb:PSs X body tb)
 (hs:∀x,en iter X.env x=pure x:=by intro _;rfl):PS X (.For tg iter body [] pos) (aQg wi g tb):=by
 intro Ψ s σ H D I h;refine wpAny_For (thn (hi Ψ s σ H _ I h) λv s1 h1=>thn h1 λitv s2 h2=>?_) hs;obtain⟨it,fp,tn,J,H2,e,I2,T,st2,f2,W,⟨m0,w0⟩,turn⟩:=h2;subst e
 -- what stays ag of the iterator's objects through the loop
 have stat:∀{H':Hp},(∀b∈fp,H' b=aj)->∀b∈fp,ZP X Ψ H' b:=λhn b hb=>⟨hn b hb,(f2 b hb).2⟩
 refine codeAny_forLoop_any (λn s'=>∃i σ' H',Inv X Ψ σ' H' s'/\tn i s'.heap/\(∀b∈fp,H' b=aj)/\W i n σ' H') ?_ m0 ⟨0,σ,H2,I2,st2,λb hb=>(f2 b hb).1,w0⟩;rintro n s3 ⟨i,σ3,H3,I3,st3,fr3,w3⟩;rcases turn i n σ3 H3 w3 with ⟨stop,qn⟩|⟨go,N,hN,step⟩
 .refine kH hp (thn (T.done X rfl rfl rfl hc i Ψ s3 σ3 H3 X.xe I3 (stat fr3) st3 stop) λr s4 ⟨hr,I4⟩=>?_);subst hr;exact jt ⟨σ3,H3,I4,qn⟩
 .refine kH hp (thn (T.item X rfl rfl rfl hc i Ψ s3 σ3 H3 X.xe I3 (stat fr3) st3 go) λr s4 ⟨u,hr,h4⟩=>?_);subst hr;refine kH hp (thn h4 λ_ s5 ⟨x,H5,I5,r5,y5,st5,fr5⟩=>?_);have I5':=I5.pinned (stat fr5) (T.obj _ _ st5);refine kH hp (thn (hg _ s5 σ3 H5 x u _ I5' r5 (step x H5 y5)) λ_ s6 ⟨σ6,H6,I6,q6⟩=>?_);refine kH hp (thn (hb _ s6 σ6 H6 _ I6 q6) λf s7 q7=>?_);have again:∀{σ7:St}{H7:Hp},Inv X (Ψ++yW fp s5.heap) σ7 H7 s7->N σ7 H7->∃m,m<n/\∃i σ' H',Inv X Ψ σ' H' s7/\tn i s7.heap/\(∀b∈fp,H' b=aj)/\W i m σ' H':=λ{σ7 H7} I7 n7=>by
   obtain⟨m',hm,w7⟩:=hN σ7 H7 n7;refine⟨m',hm,i+1,σ7,H7,I7.sU,T.keep _ _ _ st5 λb hb o e=>(I7.pin (b,o) (eS _ (eS _ (nU hb e)))).1,λb hb=>?_,w7⟩;obtain⟨o,e,d⟩:=T.obj _ _ st5 b hb;exact(I7.pin (b,o) (eS _ (eS _ (nU hb e)))).2.1
  cases f with
  |next=>obtain⟨σ7,H7,I7,n7⟩:=q7;exact again I7 n7
  |cont=>obtain⟨σ7,H7,I7,n7⟩:=q7;exact again I7 n7
  |brk=>obtain⟨σ7,H7,I7,q7⟩:=q7;exact⟨σ7,H7,I7.sU,q7⟩
  |ret v=>obtain⟨x7,σ7,H7,I7,r7,q7⟩:=q7;exact⟨x7,σ7,H7,I7.sU,r7,q7⟩
end
abbrev R2:=V->V->Hp->VK->Prop
def OpR(X:Cx)(f:am->am->Sem am)(r:R2):Prop:=
 ∀(Ψ:ae (al×bn))(s:au)(σ:St)(H:Hp)(x y:V)(v u:am)(Q:VK),Inv X Ψ σ H s->RelV x v->RelV y u->r x y H Q->
  ϑ (ay X.prog X.w) X.A (f v u) (EP X Ψ σ Q) X.xe s
def UnR(X:Cx)(f:am->Sem am)(r:V->Hp->VK->Prop):Prop:=
 ∀(Ψ:ae (al×bn))(s:au)(σ:St)(H:Hp)(x:V)(v:am)(Q:VK),Inv X Ψ σ H s->RelV x v->r x H Q->
  ϑ (ay X.prog X.w) X.A (f v) (EP X Ψ σ Q) X.xe s
def lR(X:Cx)(f:am)(r:ae V->Hp->VK->Prop):Prop:=
 ∀(Ψ:ae (al×bn))(s:au)(σ:St)(H:Hp)(xs:ae V)(us:ae am)(Q:VK),Inv X Ψ σ H s->Vals xs us->r xs H Q->
  ϑ (ay X.prog X.w) X.A (call f us) (EP X Ψ σ Q) X.xe s
def aTk(X:Cx)(r:V->Hp->(aw->Hp->Prop)->Prop):Prop:=
 ∀(Ψ:ae (al×bn))(s:au)(σ:St)(H:Hp)(x:V)(v:am)(Q:aw->Hp->Prop),Inv X Ψ σ H s->RelV x v->r x H Q->
  ϑ (ay X.prog X.w) X.A (truthy v) (TP X Ψ σ Q) X.xe s
noncomputable def tOp(r:R2)(ta tb:TE):TE:=λσ H Q=>ta σ H λx H1=>tb σ H1 λy H2=>r x y H2 Q
noncomputable def tUn(r:V->Hp->VK->Prop)(ta:TE):TE:=λσ H Q=>ta σ H λx H1=>r x H1 Q
noncomputable def rI(C:ai->ai->Prop)(g:ai->ai->V):R2:=λx y H Q=>∃i j,x=.int i/\y=.int j/\C i j/\Q (g i j) H
noncomputable def rI0(g:ai->ai->V):R2:=λx y H Q=>∃i j,x=.int i/\y=.int j/\Q (g i j) H
def rU(g:ai->V):V->Hp->VK->Prop:=λx H Q=>∃i,x=.int i/\Q (g i) H
section
variable {X:Cx} {a b:Expr} {ta tb:TE} {pos:ck}
theorem aQh(ha:PE X a ta)(hb:PE X b tb){R:V->V->Hp->Prop}(I:Inv X Ψ σ H s)
 (h:ta σ H λx H1=>tb σ H1 λy H2=>R x y H2){Q:am->au->Prop}{f:am->am->Sem am}
 (hf:∀v u s2 x y H2,Inv X Ψ σ H2 s2->RelV x v->RelV y u->R x y H2->ϑ (ay X.prog X.w) X.A (f v u) Q X.xe s2) :
  ϑ (ay X.prog X.w) X.A (eval a X.env) (λv s₁=>ϑ (ay X.prog X.w) X.A (eval b X.env) (λu s₂=>ϑ (ay X.prog X.w) X.A (f v u) Q X.xe s₂) X.xe s₁) X.xe s:=by
 refine thn (ha Ψ s σ H _ I h) λv s1 ⟨x,H1,I1,r1,q1⟩=>?_
 refine thn (hb Ψ s1 σ H1 _ I1 q1) λu s2 ⟨y,H2,I2,r2,q2⟩=>?_
 exact hf v u s2 x y H2 I2 r1 r2 q2
theorem aI5(ho:OpR X (eI op) r)(ha:PE X a ta)(hb:PE X b tb):PE X (.BinOp a op b pos) (tOp r ta tb):=by
 intro Ψ s σ H Q I h;exact sK (aQh ha hb I h λv u s2 x y H2 I2 rx ry q=>ho Ψ s2 σ H2 x y v u Q I2 rx ry q)
theorem aI6(ho:UnR X (s_ op) r)(ha:PE X a ta):PE X (.UnaryOp op a pos) (tUn r ta):=by
 intro Ψ s σ H Q I h;exact UnaryOp_ (thn (ha Ψ s σ H _ I h) λv s1 ⟨x,H1,I1,r1,q1⟩=>ho Ψ s1 σ H1 x v Q I1 r1 q1)
theorem opI{g:ai->ai->ai}
 (js:∀(i j:ai) (t u:eg) (s:au) (Q:am->au->Prop) (E:am->au->Prop),C i j->Q (.int (g i j) s.toks) {s with toks:=s.toks+1}->ϑ (ay X.prog X.w) X.A (f (.int i t) (.int j u)) Q E s) :
  OpR X f (rI C λi j=>.int (g i j)):=by
 intro Ψ s σ H x y v u Q I rx ry h;obtain⟨i,j,rfl,rfl,hc,q⟩:=h;obtain⟨t,rfl⟩:=rx;obtain⟨t',rfl⟩:=ry;exact js i j t t' s _ _ hc ⟨.int (g i j),H,I.tok _,⟨_,rfl⟩,q⟩
theorem aSg{g:ai->ai->ai}
 (js:∀(i j:ai) (t u:eg) (s:au) (Q:am->au->Prop) (E:am->au->Prop),Q (.int (g i j) s.toks) {s with toks:=s.toks+1}->ϑ (ay X.prog X.w) X.A (f (.int i t) (.int j u)) Q E s) :
  OpR X f (rI0 λi j=>.int (g i j)):=by
 intro Ψ s σ H x y v u Q I rx ry h;obtain⟨i,j,rfl,rfl,q⟩:=h;obtain⟨t,rfl⟩:=rx;obtain⟨t',rfl⟩:=ry;exact js i j t t' s _ _ ⟨.int (g i j),H,I.tok _,⟨_,rfl⟩,q⟩
def aTl(i j:ai):Prop:=0<j/\j<1073741824
def aQi(i j:ai):Prop:=(-(2 ^ 64)<i/\i<2 ^ 64)\/(-(2 ^ 64)<j/\j<2 ^ 64)
theorem aQi.ok(h:aQi i j):IntMulOk i j:=by
 rcases h with ⟨h1,h2⟩|⟨h1,h2⟩
 .exact .of_left (yg h1 h2)
 .exact .of_right (yg h1 h2)
theorem aM5:OpR X (eI .Add) (rI0 λi j=>.int (i+j)):=aSg λ_ _ _ _ _ _ _ q=>add_int q
theorem aM6:OpR X (eI .Sub) (rI0 λi j=>.int (i-j)):=aSg λ_ _ _ _ _ _ _ q=>sub_int q
theorem aM7:OpR X (eI .Mult) (rI aQi λi j=>.int (i*j)):=opI λ_ _ _ _ _ _ _ hc q=>mul_int q hc.ok
theorem aI7:OpR X (eI .FloorDiv) (rI aTl λi j=>.int (i / j)):=opI λi j _ _ _ _ _ hc q=>by
 have h1:(0:ai)<j:=hc.1;have h2:j<1073741824:=hc.2;exact floordiv_int 0x1 (by rw[Int.fdiv_eq_ediv_of_nonneg i 0x1];exact q) (.inl (PyProof.noPylong_small 0x1))
theorem aM8:OpR X (eI .Mod) (rI (λ_ j=>0<j) λi j=>.int (i % j)):=opI λi j _ _ _ _ _ hc q=>by
 have h1:(0:ai)<j:=hc;exact mod_int' 0x1 (by rw[Int.fmod_eq_emod_of_nonneg i 0x1];exact q)
theorem unI{g:ai->ai}
 (js:∀(i:ai) (t:eg) (s:au) (Q:am->au->Prop) (E:am->au->Prop),Q (.int (g i) s.toks) {s with toks:=s.toks+1}->ϑ (ay X.prog X.w) X.A (f (.int i t)) Q E s) :
  UnR X f (rU λi=>.int (g i)):=by
 intro Ψ s σ H x v Q I rx h;obtain⟨i,rfl,q⟩:=h;obtain⟨t,rfl⟩:=rx;exact js i t s _ _ ⟨.int (g i),H,I.tok _,⟨_,rfl⟩,q⟩
theorem Z7:UnR X (s_ .USub) (rU λi=>.int (-i)):=unI λ_ _ _ _ _ q=>neg_int q
end
section
variable {X:Cx} {a b c:Expr} {ta tb:TE} {pos:ck}
theorem aGw(I:Inv X Ψ σ H s)(q:Q (.bl k) H)(e:k=k'):EP X Ψ σ Q (.bool k') s:=by
 subst e;exact⟨.bl k,H,I,rfl,q⟩
theorem Z8:OpR X (em .In) (λx y H Q=>∃i j,x=.str i/\y=.str j/\Q (.bl (!(Bf j i 0 j.length 1).isEmpty)) H):=by
 intro Ψ s σ H x y v u Q I rx ry h;obtain⟨i,j,rfl,rfl,q⟩:=h;obtain⟨t,rfl⟩:=rx;obtain⟨t',rfl⟩:=ry;exact in_str (aGw I q rfl)
theorem aM9:OpR X (em .Is) (λx y H Q=>y=.non/\Q (.bl (ϒ (x=.non))) H):=by
 intro Ψ s σ H x y v u Q I rx ry h;obtain⟨rfl,q⟩:=h;cases ry;refine is_none_gen (aGw I q ?_);cases x<;>first
  | (cases rx;rfl)
  | (obtain⟨t,rfl⟩:=rx;rfl)
theorem cF(b:Expr)(h:autoParam (op≠.In) Λ)(h2:autoParam (op≠.NotIn) Λ):iN op b=ak:=by
 have e1:(op==A3)=ak:=by cases op<;>first|rfl|exact aT rfl h
 have e2:(op==A4)=ak:=by cases op<;>first|rfl|exact aT rfl h2
 cases b<;>simp[iN,e1,e2]
theorem aI8(ho:OpR X (em op) r)(ha:PE X a ta)(hb:PE X b tb)(hm:iN op b=ak):PE X (.Compare a [op] [b] pos) (tOp r ta tb):=by
 intro Ψ s σ H Q I h;exact wpAny_Compare1 (aQh ha hb I h λv u s2 x y H2 I2 rx ry q=>ho Ψ s2 σ H2 x y v u Q I2 rx ry q) hm
noncomputable def aQj(t:TE):TT:=λσ H Q=>t σ H λx H'=>∃k,x=.bl k/\Q k H'
theorem Z9(ho:OpR X (em op) r)(ha:PE X a ta)(hb:PE X b tb)(hm:iN op b=ak):PT X (.Compare a [op] [b] pos) (aQj (tOp r ta tb)):=by
 intro Ψ s σ H Q I h;refine A6 (thn (ha Ψ s σ H _ I h) λv s1 ⟨x,H1,I1,r1,q1⟩=>thn (hb Ψ s1 σ H1 _ I1 q1) λu s2 ⟨y,H2,I2,r2,q2⟩=>
  thn (ho Ψ s2 σ H2 x y v u _ I2 r1 r2 q2) λc s3 ⟨z,H3,I3,r3,k,e,q3⟩=>?_) hm
 subst e;cases r3;exact sM ⟨H3,I3,q3⟩
def aPw(K:bi)(x:V)(H:Hp)(k:aw):Prop:=
 match x with
 |.non=>k=ak
 |.bl b=>k=b
 |.int i=>k=(i !=0)
 |.str y=>y.length<=bo/\k=((y.length:ai)!=0)
 |.byt y=>y.size<=bo/\k=((y.size:ai)!=0)
 |.ref p=>(∃xs,SqL K H p xs/\k=!xs.isEmpty)\/(∃xs,SqT K H p xs/\k=!xs.isEmpty)\/∃kvs,H p=aa (.dK kvs)/\k=!kvs.isEmpty
 |_=>cb
theorem XR(r:KV kvs vs):(!vs.isEmpty)=!kvs.isEmpty:=by
 cases r<;>rfl
theorem DP(r:Vals xs its):(!its.toArray.isEmpty)=!xs.isEmpty:=by
 cases r<;>simp
theorem yX:(bo:ah)<2 ^ 63:=by rw[dv];decide
theorem aMa:aTk X (λx H Q=>∃k,aPw X.K x H k/\Q k H):=by
 intro Ψ s σ H x v Q I rx h;obtain⟨k,e,q⟩:=h;have hl:=yX;have hs:bo=16777216:=dv;cases x with
 |non=>
  cases rx;have e':k=ak:=e;subst e';exact truthy_none ⟨H,I,q⟩
 |bl b=>
  cases rx;have e':k=b:=e;subst e';exact sM ⟨H,I,q⟩
 |int i=>
  obtain⟨t,rfl⟩:=rx;have e':k=(i !=0):=e;subst e';exact PySem.P.truthy_int ⟨H,I,q⟩
 |str y=>
  obtain⟨t,rfl⟩:=rx;obtain⟨hy,e'⟩:y.length<=bo/\k=((y.length:ai)!=0):=e;subst e';exact PySem.P.truthy_str 0x1 ⟨H,I.tok _,q⟩
 |byt y=>
  obtain⟨t,rfl⟩:=rx;obtain⟨hy,e'⟩:y.size<=bo/\k=((y.size:ai)!=0):=e;subst e';exact PySem.W.truthy_bytes 0x1 ⟨H,I.tok _,q⟩
 |ref p=>
  cases rx;have e':(∃xs,SqL X.K H p xs/\k=!xs.isEmpty)\/(∃xs,SqT X.K H p xs/\k=!xs.isEmpty)\/∃kvs,H p=aa (.dK kvs)/\k=!kvs.isEmpty:=e;rcases e' with ⟨xs,hx,e'⟩|⟨xs,hx,e'⟩|⟨kvs,hx,e'⟩
  .subst e';obtain⟨its,r,pl,hz⟩:=I.list hx;have hlen:=r.length;exact wpAny_truthy_list pl.isList (by simp only[b9];lia) ⟨H,I.tok _,by rw[DP r];exact q⟩
  .subst e';obtain⟨its,r,pl,hz⟩:=I.tuple hx;have hlen:=r.length;exact truthy_tuple pl (by simp only[b9];lia) ⟨H,I.tok _,by rw[DP r];exact q⟩
  .subst e';obtain⟨hz,hS,vs,r,m⟩:kvs.length<=bo/\(p==gp)=ak/\∃vs,KV kvs vs/\s.heap.DictOf (cN X.prog X.w) p vs:=I.hok p _ hx;have hlen:kvs.length=vs.length:=jo r;exact wpAny_truthy_dict hS m 0x1 ⟨H,I.tok _,by rw[XR r];exact q⟩
 |_=>exact(show cb from e).elim
theorem T9(ha:PE X a ta)(he:∀whole,sF a X.env whole=(do let v <- whole;yj a.pos;kK [v] (truthy v))) :
  PT X a (λσ H Q=>ta σ H λx H'=>∃k,aPw X.K x H' k/\Q k H'):=by
 intro Ψ s σ H Q I h;exact isTrue_plain (thn (ha Ψ s σ H _ I h) λv s1 ⟨x,H1,I1,r1,q1⟩=>aMa Ψ s1 σ H1 x v Q I1 r1 q1) (he _)
theorem XS:OpR X (eI .Add) (λx y H Q=>∃i j,x=.str i/\y=.str j/\i.length+j.length<=bo/\Q (.str (i++j)) H):=by
 intro Ψ s σ H x y v u Q I rx ry h;obtain⟨i,j,rfl,rfl,hz,q⟩:=h;obtain⟨t,rfl⟩:=rx;obtain⟨t',rfl⟩:=ry;exact add_str (λt' tk=>⟨.str (i++j),H,I.tok _,⟨_,rfl⟩,q⟩) hz
theorem vals1(r:Vals [x] us):∃u,us=[u]/\RelV x u:=by
 cases r with
 |cons r1 r2=>cases r2;exact⟨_,rfl,r1⟩
end
structure aI9(h:aI)(x dx C:al)(mA:Str->ar am):Prop where
 obj:h.get? x=aa (jp C dx)
 ns:h.Ns1 dx mA
 ne:dx≠x
theorem Z_{h:aI}(n:h.Ns1 dx mA):∃od,h.get? dx=aa od/\∀name,v8 name od=aa (mA name):=by
 obtain⟨o,es,ep,ho,hd,hk,_,hm⟩:=n;refine⟨o,ho,λname=>?_⟩;have e:=hm name;unfold nsFind findBy at e;rw[<-Array.find?_toList] at e;unfold v8;rw[hd];dsimp only;split
 .rename_i y q;rw[q] at e;exact cf aa e
 .rename_i q;rw[q] at e;have a:es.toList.any (·.refKey)=ak:=by
   rw[List.any_eq_false];intro y hy;obtain⟨z,t,hkey⟩:=hk y (Array.mem_toList_iff.mp hy);simp[DE,hkey]
  have a':¬es.toList.any (·.refKey)=ag:=by rw[a];exact iO
  rw[ax a'];exact cf aa e
theorem aI9.look(I:aI9 h x dx C mA):∃od,PySem.W.InstAt h x (jp C dx) C (aa od)/\∀name,v8 name od=aa (mA name):=
 let ⟨od,ho,hl⟩:=Z_ I.ns
 ⟨od,⟨I.obj,rfl,rfl,ho⟩,hl⟩
section
variable {prog:bS} {w:bu} {A:b6} {E:am->au->Prop} {s:au} {K:bi} {x dx C f:al} {mA:Str->ar am} {name:Str} {v:am}
theorem fO(X:K.In s.heap)(I:aI9 s.heap x dx C mA)(hg:v9 K C name=ag)(hh:yk K C=ag)
 (ha:je K (.ref C) name=aa aj)(hv:mA name=aa v)(hv':Bg v=ag)(h:Q v {s with toks:=s.toks+1}) :
  ϑ (ay prog w) A (yl (.ref x) name expr) Q E s:=by
 obtain⟨od,J,hl⟩:=I.look;exact PySem.W.get_value X J (ym hg).1 (PySem.W.findObj_own hh ha rfl (by rw[hl,hv])) hv' h
theorem aDx(X:K.In s.heap)(I:aI9 s.heap x dx C mA)(hg:v9 K C name=ag)
 (hf:je K (.ref C) name=aa (aa (.ref f)))(ht:yn K (.ref f)=ag)(hv:mA name=aj)(h:Q (.ref f,[.ref x]) s) :
  ϑ (ay prog w) A (yo (.ref x) name pl) Q E s:=by
 obtain⟨od,J,hl⟩:=I.look;exact PySem.W.method_fn X J (ym hg).1 (ym hg).2 hf (gu.mp ht) (by show(v8 name od).map (·.isSome)=aa ak;rw[hl,hv];rfl) h
theorem aIa(X:K.In s.heap)(I:aI9 s.heap x dx C mA)
 (hs:je K (.ref C) "__setattr__"=aa (aa (.builtin "object.__setattr__")))(hp:Bh K C=ag)(ht:yp K C name=aa aj)(hh:yk K C=ag)
 (hw:sD mA ns)(hsz:ns.length<=bo)
 (h:∀h',aI9 h' x dx C (λy=>if y=name then aa v else mA y)->eR dx s.heap h'->Q () {s with heap:=h',toks:=s.toks+2}) :
  ϑ (ay prog w) A (setAttr (.ref x) name v) Q E s:=by
 obtain⟨od,J,hl⟩:=I.look;refine PySem.W.set_plain X J hs (PySem.W.osa_open X J hp ht λb=>?_);obtain⟨cd,hc,hd'⟩:=PySem.W.any_some hh;have hx:s.heap.get? x=aa ⟨.ref C,aa dx,.plain,#[]⟩:=I.obj;refine aq (bc (aq (aq (Bi hx (aq (DF (PySem.W.looks_clsIn X hc) ?_))))));rw[hd'];refine bc (aq (bc (aq ?_)));refine wpAny_nsSet1 I.ns λh' hn2 hs2=>?_
 obtain⟨oD,esD,epD,hoD,hdD,hcD⟩:=hn2.count (DH name v hw);refine aq (wpAny_lookBehind hoD (by rw[hdD];exact pastItsLine_dict (dj hcD (by rw[br];lia))) ?_);exact bc (h _ ⟨(hs2.2 _ (Ne.symm I.ne)).trans I.obj,hn2,I.ne⟩ hs2)
theorem aDy(X:K.In s.heap)(hm:Bj K C=ag)
 (hi:je K (.ref C) "__init__"=aa (aa (.ref f)))(hf:PySem.W.typeIn K (.ref f)=aa (.type "function"))
 (h:codeAny (ay prog w) (A.under (.builtin "type.__call__" ⟨.ref C::vs,kw⟩)) (.call (.ref f) ⟨.ref (s.heap.objs.size+1)::vs,kw⟩) (PySem.W.InitBack (s.heap.objs.size+1) R)
   {s with heap:=(s.heap.push jf).push (jp C s.heap.objs.size)}) :
  codeAny (ay prog w) A (.call (.ref C) ⟨vs,kw⟩) R s:=by
 obtain⟨hh,g,d,t,os⟩:=s;exact PySem.W.make_core (PySem.W.makes_of X hm) (PySem.W.looks_findIn X hi) (λself=>PySem.W.bind_fn X self hf) (.inl rfl) h
end
noncomputable def xT(f:Str)(v:V):ae (Str×V)->ae (Str×V)
 |[]=>[(f,v)]
 | (g,x)::r=>if g=f then (g,v)::r else (g,x)::xT f v r
theorem yZ(f g:Str)(v:V):∀fs:ae (Str×V),(xT f v fs).lookup g=if g=f then aa v else fs.lookup g
 |[]=>by
  show kL g [(f,v)]=_;by_cases h:g=f
  .have hb:(g==f)=ag:=gu.mpr h;simp only[kL,hb,ao h]
  .have hb:(g==f)=ak:=fA.mpr h;simp only[kL,hb,ax h]
 | (k,x)::r=>by
  have ih:=yZ f g v r;rw[show xT f v ((k,x)::r)=(if k=f then (k,v)::r else (k,x)::xT f v r) from rfl];by_cases hk:k=f
  .rw[ao hk];by_cases h:g=k
   .have hb:(g==k)=ag:=gu.mpr h;simp only[kL,hb,ao (h.trans hk)]
   .have hb:(g==k)=ak:=fA.mpr h;simp only[kL,hb,ax (λe:g=f=>h (e.trans hk.symm))]
  .rw[ax hk];by_cases h:g=k
   .have hb:(g==k)=ag:=gu.mpr h;simp only[kL,hb,ax (λe:g=f=>hk (h.symm.trans e))]
   .have hb:(g==k)=ak:=fA.mpr h;simp only[kL,hb];exact ih
theorem y_(f:Str)(v:V):∀fs:ae (Str×V),f∈(xT f v fs).map (·.1)/\∀g,g∈fs.map (·.1)->g∈(xT f v fs).map (·.1)
 |[]=>⟨by simp[xT],λg h=>by simp at h⟩
 | (k,x)::r=>by
  obtain⟨i1,i2⟩:=y_ f v r;rw[show xT f v ((k,x)::r)=(if k=f then (k,v)::r else (k,x)::xT f v r) from rfl];by_cases hk:k=f
  .rw[ao hk];subst hk;exact⟨by simp,λg h=>by simpa using h⟩
  .rw[ax hk];refine⟨?_,λg h=>?_⟩
   .rw[bd];exact dg _ i1
   .rw[bd] at h ⊢;rcases cg.mp h with e|e
    .exact cg.mpr (.inl e)
    .exact dg _ (i2 g e)
theorem zA(f:Str)(v:V):∀fs:ae (Str×V),(xT f v fs).length<=fs.length+1
 |[]=>by simp[xT]
 | (k,x)::r=>by
  have ih:=zA f v r;rw[show xT f v ((k,x)::r)=(if k=f then (k,v)::r else (k,x)::xT f v r) from rfl];by_cases hk:k=f
  .rw[ao hk,br,br];lia
  .rw[ax hk,br,br];lia
theorem QK.some_of(r:QK (aa v) o):∃u,o=aa u/\RelV v u:=by
 cases o with
 |none=>exact(show cb from r).elim
 |some u=>exact⟨u,rfl,r⟩
theorem QK.none_of(r:QK aj o):o=aj:=by
 cases o with
 |none=>rfl
 |some u=>exact(show cb from r).elim
theorem aA0(r:RelV v u):Bg u=ag:=by
 cases v with
 |non=>cases (show u=fS from r);rfl
 |bl b=>cases (show u=xL b from r);rfl
 |int i=>obtain⟨t,e⟩:=(show ∃t,u=n4 i t from r);cases e;rfl
 |str x=>obtain⟨t,e⟩:=(show ∃t,u=n9 x t from r);cases e;rfl
 |byt b=>obtain⟨t,e⟩:=(show ∃t,u=AU b t from r);cases e;rfl
 |flt b=>obtain⟨t,e⟩:=(show ∃t,u=AV b t from r);cases e;rfl
 |ref a=>cases (show u=du a from r);rfl
 |ty n=>cases (show u=gm n from r);rfl
section
variable {P:bS} {w:bu} {H:Hp} {h:aI} {a C dx:al} {fs:ae (Str×V)}
theorem QX(hok:HOk P w H h)(e:H a=aa (.ins C dx fs)):∃mA,aI9 h a dx C mA/\(∀f,QK (fs.lookup f) (mA f))/\sD mA (fs.map (·.1))/\fs.length<=1000/\H dx=aa (.own a):=by
 obtain⟨d,z,ne,ob,mA,n,r,q⟩:=(show gY P w H h a (.ins C dx fs) from hok a _ e)
 exact⟨mA,⟨ob,n,ne⟩,r,q,z,d⟩
end
structure Cls(K:bi)(C:al):Prop where
 pg:v9 K C yq=ag
 hd:yk K C=ag
 po:Bh K C=ag
 sa:je K (.ref C) "__setattr__"=aa (aa (.builtin "object.__setattr__"))
theorem Cls.get{K:bi}(c:Cls K C)(f:Str):v9 K C f=ag:=c.pg
def cQ(K:bi)(C:al)(f:Str):Prop:=je K (.ref C) f=aa aj
theorem cQ.taker{K:bi}(n:cQ K C f):yp K C f=aa aj:=by
 unfold yp;rw[show je K (.ref C) f=aa aj from n];rfl
structure Meth(K:bi)(C:al)(m:Str)(f:al):Prop where
 at_:je K (.ref C) m=aa (aa (.ref f))
 fn:yn K (.ref f)=ag
 kp:gw K (.ref f)=ag
section
variable {X:Cx} {Ψ:ae (al×bn)} {σ:St} {H:Hp} {s:au} {a C dx:al} {fs:ae (Str×V)} {f:Str} {v:V} {A:b6} {E:am->au->Prop}
theorem XX(I:Inv X Ψ σ H s)(e:H a=aa (.ins C dx fs))(c:Cls X.K C)(n:cQ X.K C f)(l:fs.lookup f=aa v)
 (h:∀u s',Inv X Ψ σ H s'->RelV v u->Q u s'):ϑ (ay X.prog X.w) A (yl (.ref a) f b) Q E s:=by
 obtain⟨mA,O,r,_,_,_⟩:=QX I.hok e;obtain⟨u,hu,ru⟩:=QK.some_of (by rw[<-l];exact r f);exact fO I.kIn O (c.get f) c.hd n hu (aA0 ru) (h u _ (I.tok _) ru)
theorem X3(I:Inv X Ψ σ H s)(e:H a=aa (.ins C dx fs))(c:Cls X.K C)(k:Meth X.K C m g)(l:fs.lookup m=aj)
 (h:Q (.ref g,[.ref a]) s):ϑ (ay X.prog X.w) A (yo (.ref a) m pl) Q E s:=by
 obtain⟨mA,O,r,_,_,_⟩:=QX I.hok e;have hn:mA m=aj:=QK.none_of (by rw[<-l];exact r m);exact aDx I.kIn O (c.get m) k.at_ k.fn hn h
theorem X4(I:Inv X Ψ σ H s)(e:H a=aa (.ins C dx fs))(c:Cls X.K C)(n:cQ X.K C f)(hl:fs.length<1000)(ry:RelV y u)
 (h:∀s',Inv X Ψ σ (upd H a (.ins C dx (xT f y fs))) s'->Q () s'):ϑ (ay X.prog X.w) A (setAttr (.ref a) f u) Q E s:=by
 obtain⟨mA,O,r,wi,_,ho⟩:=QX I.hok e;have hz:(fs.map (·.1)).length<=bo:=by rw[az,dv];lia
 refine aIa I.kIn O c.sa c.po n.taker c.hd wi hz λh' O' sb=>h _ ?_
 have hd:∃o,h'.get? dx=aa o:=let ⟨o,_,_,e',_⟩:=O'.ns;⟨o,e'⟩
 refine I.write (by rw[e];exact True.intro) (.inr ho) (λb q hb z=>(sb.2 b hb).trans z) hd ?_;refine⟨by rw[aO O.ne];exact ho,?_,O.ne,O'.obj,_,O'.ns,λg=>?_,λg hg=>?_⟩
 .have:=zA f y fs;lia
 .show QK ((xT f y fs).lookup g) (if g=f then aa u else mA g);rw[yZ];by_cases q:g=f
  .rw[ao q,ao q];exact ry
  .rw[ax q,ax q];exact r g
 .by_cases q:g=f
  .rw[q];exact(y_ f y fs).1
  .refine(y_ f y fs).2 g (wi g λz=>hg ?_);show(if g=f then aa u else mA g)=aj;rw[ax q];exact z
theorem Inv.made(I:Inv X Ψ σ H s):Inv X Ψ σ (upd (upd H s.heap.objs.size (.own (s.heap.objs.size+1))) (s.heap.objs.size+1) (.ins C s.heap.objs.size []))
  {s with heap:=(s.heap.push jf).push (jp C s.heap.objs.size)}:=by
 have e1:(s.heap.push jf).get? s.heap.objs.size=aa jf:=dh s.heap rfl;have e2:((s.heap.push jf).push (jp C s.heap.objs.size)).get? (s.heap.objs.size+1)=aa (jp C s.heap.objs.size):=by
  have:=dh (s.heap.push jf) (o:=jp C s.heap.objs.size) rfl;rwa [eJ] at this
 have e3:(s.heap.push jf).Ns s.heap.objs.size (λ_=>aj):=⟨jf,#[],_,e1,rfl,(λe he=>aT he 0x2),λ_=>rfl⟩
 have I1:=I.laid (o:=.own (s.heap.objs.size+1)) (h':=s.heap.push jf) (t':=s.toks) (λb u q=>bX _ q) (bt _) ⟨_,e1⟩;refine I1.laid (a:=s.heap.objs.size+1) (o:=.ins C s.heap.objs.size []) (t':=s.toks) (λb u q=>bX _ q) (yr (eJ _ _)) ?_;have ne:s.heap.objs.size≠s.heap.objs.size+1:=cy (ma _);refine⟨by rw[aO ne,aJ],ef _,ne,e2,λ_=>aj,(DI e3).at λo q=>bX _ q,λ_=>True.intro,λy hy=>aT rfl hy⟩
theorem aIb(hb:fx e f env (eval e env)=eval e env)
 (h:ϑ (ay prog w) A (eval e env) (λo s₁=>ϑ (ay prog w) A (yl o f ag) Q E s₁) E s):ϑ (ay prog w) A (eval (.Attribute e f pos) env) Q E s:=
 Attribute_any_ h (by rw[arm_eval_Attribute,hb])
end
noncomputable def T_(K:bi)(ta:TE)(f:Str):TE:=λσ H Q=>ta σ H λx H1=>∃a C dx fs v,x=.ref a/\H1 a=aa (.ins C dx fs)/\Cls K C/\cQ K C f/\fs.lookup f=aa v/\Q v H1
def aLk(K:bi)(ta tv:TE)(f:Str):TS:=λD σ H=>tv σ H λy H1=>ta σ H1 λx H2=>∃a C dx fs,x=.ref a/\H2 a=aa (.ins C dx fs)/\Cls K C/\cQ K C f/\fs.length<1000/\
 D.nx σ (upd H2 a (.ins C dx (xT f y fs)))
section
variable {X:Cx} {o e value:Expr} {f:Str} {pos pos':ck} {ta tv:TE}
theorem j0(he:PE X e ta)(hb:fx e f X.env (eval e X.env)=eval e X.env):PE X (.Attribute e f pos) (T_ X.K ta f):=by
 intro Ψ s σ H Q I h;refine aIb hb (thn (he Ψ s σ H _ I h) λu s1 ⟨x,H1,I1,rx,a,C,dx,fs,v,ex,ea,c,n,l,q⟩=>?_);subst ex;obtain rfl:u=du a:=rx;exact XX I1 ea c n l λu' s2 I2 ru=>⟨v,H1,I2,ru,q⟩
theorem j4(ha:PE X o ta)(hv:PE X value tv)(hs:dy value (aa (.Attribute o f pos')) pos.line X.env=pure ak):PS X (.Assign [.Attribute o f pos'] value pos) (aLk X.K ta tv f):=by
 intro Ψ s σ H D I h;refine plainObj_wpAny_Assign_Attribute (thn (hv Ψ s σ H _ I h) λu s1 ⟨y,H1,I1,ry,q⟩=>thn (ha Ψ s1 σ H1 _ I1 q) λov s2 ⟨x,H2,I2,rx,a,C,dx,fs,ex,ea,c,n,l,q2⟩=>?_) hs;subst ex;obtain rfl:ov=du a:=rx;exact X4 I2 ea c n l ry λs3 I3=>⟨σ,_,I3,q2⟩
end
structure mW(k:ah)(A:b6):Prop where
 hd:A.handled=aj
 dp:A.depth+3*k+5<Bk
 un:A.units+16*k+200<dE
theorem mW.mono(r:mW k A)(h:j<=k):mW j A:=⟨r.hd,by have:=r.dp;lia,by have:=r.un;lia⟩
theorem mW.deeper(r:mW (k+1) A)(env:c_):mW k (A.deeper env):=
 ⟨r.hd,by have:=r.dp;show A.depth+1+3*k+5<_;lia,by have:=r.un;show A.units+3+16*k+200<_;lia⟩
theorem X5{A:b6}:(A.under (.builtin "type.__call__" ⟨.ref C::us,kw⟩)).depth=A.depth+1:=by
 first|rfl|simp[yt,Code.weight,Code.isCreation,Code.isGuard,Code.isCaller,Bl,yu,guardIds]
theorem X6{A:b6}:(A.under (.builtin "type.__call__" ⟨.ref C::us,kw⟩)).units=A.units+1:=by
 first|rfl|simp[yt,Code.cUnits,Bl,yu]
theorem mW.make(r:mW (k+1) A)(C:al)(us:ae am)(kw:ae (Str×am)):mW k (A.under (.builtin "type.__call__" ⟨.ref C::us,kw⟩)):=
 ⟨r.hd,by have:=r.dp;rw[X5];lia,by have:=r.un;rw[X6];lia⟩
theorem mW.depth(r:mW k A):A.depth<Bk:=by have:=r.dp;lia
theorem mW.units(r:mW k A):A.units+64<dE:=by have:=r.un;lia
noncomputable def zB:TA:=λ_ H Q=>Q [] H
noncomputable def dY(ta:TE)(tr:TA):TA:=λσ H Q=>ta σ H λx H1=>tr σ H1 λxs H2=>Q (x::xs) H2
section
variable {X:Cx} {e:Expr} {es:ae Expr} {te:TE} {t:TA} {pos:ck}
theorem dC:PA X [] zB:=λ_ _ _ _ H Q I h=>md ⟨[],H,I,.nil,h⟩
theorem aY(ha:PE X e te)(hr:PA X es t)(hs:autoParam (zSE X e es) Ω):PA X (e::es) (dY te t):=by
 intro pos Ψ s σ H Q I h;rw[hs];show ϑ _ _ (kF ((ak,eval e X.env)::fF pos (b5 es X.env))) _ _ s;refine me (thn (ha Ψ s σ H _ I h) λu s1 ⟨x,H1,I1,r1,q1⟩=>?_);exact thn (hr pos Ψ s1 σ H1 _ I1 q1) λus s2 ⟨xs,H2,I2,r2,q2⟩=>⟨x::xs,H2,I2,.cons r1 r2,q2⟩
def aSh(t:TA):TE:=λσ H Q=>t σ H λxs H1=>xs.length<=bo/\∀p,H1 p=aj->Q (.ref p) (upd H1 p (.tup xs))
def aPx(t:TA):TE:=λσ H Q=>t σ H λxs H1=>xs.length<=bo/\∀p,H1 p=aj->Q (.ref p) (upd H1 p (.lst xs))
theorem aA1{x1}(h:PA X es t):PE X (.Tuple es x1 pos) (aSh t):=by
 intro Ψ s σ H Q I hq;refine wpAny_Tuple_spliced (thn (h pos Ψ s σ H _ I hq) λus s1 ⟨xs,H1,I1,r,z,q⟩=>⟨by rw[<-r.length];exact z,?_⟩);have hf:H1 s1.heap.objs.size=aj:=I1.hok.fresh (bt _);refine⟨.ref s1.heap.objs.size,upd H1 s1.heap.objs.size (.tup xs),I1.laid (λb u e=>bX _ e) (bt _) ?_,rfl,q _ hf⟩;exact⟨z,us,r,⟨_,dh _ rfl,rfl,_,rfl⟩⟩
theorem J_(h:PA X es t):PE X (.List es pos) (aPx t):=by
 intro Ψ s σ H Q I hq;refine wpAny_List_spliced (thn (h pos Ψ s σ H _ I hq) λus s1 ⟨xs,H1,I1,r,z,q⟩=>⟨by rw[<-r.length];exact z,?_⟩);have hf:H1 s1.heap.objs.size=aj:=I1.hok.fresh (bt _);refine⟨.ref s1.heap.objs.size,upd H1 s1.heap.objs.size (.lst xs),I1.laid (λb u e=>bX _ e) (bt _) ?_,rfl,q _ hf⟩;exact⟨z,us,0,r,dh _ rfl⟩
end
abbrev Sp:=ae V->Hp->VK->XK->Prop
abbrev CXT:=ae c_->Hp->au->XK->am->au->Prop
structure aIc(P:bS)(w:bu)(K:bi)(mg:Str->ar am)(base:aI)(A:b6)(outer:ae c_)(s:au)(H:Hp):Prop where
 frames:A.frames=aa outer
 mod:Mod K mg base
 bs:∀b o,base.get? b=aa o->s.heap.get? b=aa o/\H b=aj
 bsz:base.objs.size<=s.heap.objs.size
 XJ:s.heap.FunFrames base outer
 frf:∀b∈frs outer,H b=aj
 hok:HOk P w H s.heap
 bare:iE s.gens
def CE(outer:ae c_)(P:bS)(w:bu)(H:Hp)(s:au)(Q:VK)(u:am)(s':au):Prop:=
 ∃v H',s'.os=s.os/\iE s'.gens/\Un (frs outer) [] H H' s.heap s'.heap/\HOk P w H' s'.heap/\RelV v u/\Q v H'
def CR(CX:CXT)(outer:ae c_)(P:bS)(w:bu)(H:Hp)(s:au)(Q:VK)(E:XK)(r:Result)(s':au):Prop:=
 match r with
 |.ok (.ret u)=>CE outer P w H s Q u s'
 |.ok _=>cb
 |.error e=>CX outer H s E e s'
structure mO(P:bS)(w:bu)(K:bi)(mg:Str->ar am)(base:aI)(CX:CXT)(k:ah)(f:al)(fd:d4)(ps:ae Str)(sp:Sp):Prop where
 len:∀vs H Q E,sp vs H Q E->vs.length=ps.length
 run:∀(A:b6)(outer:ae c_)(s:au)(H:Hp)(args:Args)(us:ae am)(vs:ae V)(Q:VK)(E:XK),mW k A->aIc P w K mg base A outer s H->kM s fd args (ps.zip us)->Vals vs us->sp vs H Q E->
  codeAny (ay P w) A (.call (.ref f) args) (CR CX outer P w H s Q E) s
theorem aIc.make{K:bi}{base:aI}{A:b6}{outer:ae c_}{s:au}{H:Hp}(e:aIc P w K mg base A outer s H)(C:al)(us:ae am)(kw:ae (Str×am)) :
  aIc P w K mg base (A.under (.builtin "type.__call__" ⟨.ref C::us,kw⟩)) outer s H:=⟨by first|exact e.frames|(simpa[yt,Code.envs,yu,pushEnvs] using e.frames),e.mod,e.bs,e.bsz,e.XJ,e.frf,e.hok,e.bare⟩
section
variable {X:Cx} {Ψ:ae (al×bn)} {σ:St} {H:Hp} {s s':au}
theorem Inv.env0(I:Inv X Ψ σ H s):aIc X.prog X.w X.K X.mg X.base X.A X.stack s H:=
 ⟨I.ok.frames,I.ok.mod,I.bs,dj I.ok.bsz I.sz,I.stack,I.QV,I.hok,I.bare⟩
theorem Inv.after(I:Inv X Ψ σ H s)(h:CE X.stack X.prog X.w H s Q u s'):EP X Ψ σ Q u s':=by
 obtain⟨v,H',os,bare,un,hok,r,q⟩:=h;obtain⟨hh,g,d,t,os'⟩:=s';obtain rfl:os'=s.os:=os;exact⟨v,H',I.call un hok bare (λb z=>aT z 0x2),r,q⟩
end
noncomputable def aQk(sp:Sp)(dvs:ae V)(E:XK)(t:TA):TE:=λσ H Q=>t σ H λvs H1=>sp (vs++dvs) H1 Q E
noncomputable def X7(C:al)(m:Str)(sp:Sp)(dvs:ae V)(E:XK)(ta:TE)(t:TA):TE:=λσ H Q=>ta σ H λx H1=>∃a dx fs,x=.ref a/\H1 a=aa (.ins C dx fs)/\fs.lookup m=aj/\
 t σ H1 λvs H2=>sp (x::(vs++dvs)) H2 Q E
def aQl(C:al)(sp:Sp)(dvs:ae V)(E:XK)(t:TA):TE:=λσ H Q=>t σ H λvs H1=>∀x dx,H1 x=aj->H1 dx=aj->dx≠x->
 sp (.ref x::(vs++dvs)) (upd (upd H1 dx (.own x)) x (.ins C dx [])) (λv H2=>v=.non/\Q (.ref x) H2) E
def Binds(K:bi)(fd:d4)(ps:ae Str)(ds:ae am):Prop:=
 ∀(s:au)(us:ae am),K.In s.heap->(us++ds).length=ps.length->kM s fd ⟨us,[]⟩ (ps.zip (us++ds))
theorem Binds.all{K:bi}(h:∀us:ae am,us.length=ps.length->bindArgs fd ⟨us,[]⟩=pure (ps.zip us)):Binds K fd ps []:=λs us _ hl=>by
 rw[cv] at hl ⊢;exact .of_eq (h us hl)
def zE(CX:CXT)(X:Cx)(E:XK):Prop:=∀(Ψ:ae (al×bn))(σ:St)(H:Hp)(s:au)(e:am)(s':au),Inv X Ψ σ H s->CX X.stack H s E e s'->X.xe e s'
section
variable {X:Cx} {CX:CXT} {k:ah} {f C:al} {fd:d4} {ps:ae Str} {sp:Sp} {dvs:ae V} {ds:ae am} {E:XK} {x m:Str} {p pos apos:ck} {e o:Expr} {es:ae Expr} {ta:TE} {t:TA}
theorem aGx(F:mO X.prog X.w X.K X.mg X.base CX k f fd ps sp)(hr:mW k X.A)(hb:Binds X.K fd ps ds)(hd:Vals dvs ds)(hx:zE CX X E)
 (I:Inv X Ψ σ H s)(r:Vals vs us)(h:sp (vs++dvs) H Q E):ϑ (ay X.prog X.w) X.A (call (.ref f) us) (EP X Ψ σ Q) X.xe s:=by
 have r2:Vals (vs++dvs) (us++ds):=r.append hd;have hl:(us++ds).length=ps.length:=by rw[<-r2.length];exact F.len _ _ _ _ h
 refine kN (mf (F.run X.A X.stack s H ⟨us,[]⟩ (us++ds) (vs++dvs) Q E hr I.env0 (hb s us I.kIn hl) r2 h) λr s' hq=>?_);cases r with
 |error e=>exact hx Ψ σ H s e s' I hq
 |ok fl=>
  cases fl with
  |ret u=>exact I.after hq
  |next=>exact d6 hq
  |brk=>exact d6 hq
  |cont=>exact d6 hq
theorem aA2(F:mO X.prog X.w X.K X.mg X.base CX k f fd ps sp)(hr:mW k X.A)(hg:Gl X x)(hm:X.mg x=aa (.ref f))(hk:gw X.K (.ref f)=ag)(hb:Binds X.K fd ps ds)(hd:Vals dvs ds)(hx:zE CX X E)
 (ha:PA X (e::es) t)(hdb:autoParam (nDb x) Λ)(he:autoParam (zSE X e es) Ω)(hpl:autoParam (zSP X pos es) Ω) :
  PE X (.Call (.Name x p) (e::es) [] pos) (aQk sp dvs E t):=by
 intro Ψ s σ H Q I h;refine hZ (wM I hg hm ?_ hdb);refine yw I.ok.mod.kin hk (thn (ha pos Ψ s σ H _ I h) λus s1 ⟨vs,H1,I1,r,q⟩=>⟨I1.kIn,?_⟩) he hpl;exact aGx F hr hb hd hx I1 r q
theorem GQ(he:PE X o ta)(c:Cls X.K C)(hm:Meth X.K C m f)(F:mO X.prog X.w X.K X.mg X.base CX k f fd ps sp)(hr:mW k X.A)(hb:Binds X.K fd ps ds)(hd:Vals dvs ds)(hx:zE CX X E)(ha:PA X (e::es) t)
 (hst:autoParam (zSE X e es) Ω)(hpl:autoParam (zSP X pos es) Ω)
 (ht:autoParam (eval (.Call (.Attribute o m apos) (e::es) [] pos) X.env=(do
   let ov <- eval o X.env
   yj apos.atName
   let (f,first) <- kK [ov] (yo ov m pl)
   callWith pos f first (fF pos (b5 (e::es) X.env)) (og pos (oj [] X.env)))) Ω) :
  PE X (.Call (.Attribute o m apos) (e::es) [] pos) (X7 C m sp dvs E ta t):=by
 intro Ψ s σ H Q I h;refine PySem.W.methodCall_KW (thn (he Ψ s σ H _ I h) λu s1 ⟨x,H1,I1,rx,a,dx,fs,ex,ea,l,q⟩=>?_) ht;subst ex;obtain rfl:u=du a:=rx;refine X3 I1 ea c hm l ?_;refine yw I.ok.mod.kin hm.kp (thn (ha pos Ψ s1 σ H1 _ I1 q) λus s2 ⟨vs,H2,I2,r,q2⟩=>⟨I2.kIn,?_⟩) hst hpl;exact aGx (vs:=.ref a::vs) F hr hb hd hx I2 (.cons rfl r) q2
structure Mk(K:bi)(C f:al):Prop where
 makes:Bj K C=ag
 init:je K (.ref C) "__init__"=aa (aa (.ref f))
 fn:yn K (.ref f)=ag
 kp:gw K (.ref C)=ag
theorem aDz(M:Mk X.K C f)(F:mO X.prog X.w X.K X.mg X.base CX k f fd ps sp)(hr:mW (k+1) X.A)(hb:Binds X.K fd ps ds)(hd:Vals dvs ds)
 (hx:zE CX X E)(I:Inv X Ψ σ H s)(r:Vals vs us)
 (h:∀x dx,H x=aj->H dx=aj->dx≠x->sp (.ref x::(vs++dvs)) (upd (upd H dx (.own x)) x (.ins C dx [])) (λv H2=>v=.non/\Q (.ref x) H2) E) :
  ϑ (ay X.prog X.w) X.A (call (.ref C) us) (EP X Ψ σ Q) X.xe s:=by
 have hq:=h (s.heap.objs.size+1) s.heap.objs.size (I.hok.fresh (mh _)) (I.hok.fresh (bt _)) (cy (ma _));have I2:=Inv.made (C:=C) I;have r2:Vals (V.ref (s.heap.objs.size+1)::(vs++dvs)) (du (s.heap.objs.size+1)::(us++ds)):=.cons rfl (r.append hd);have hl:(du (s.heap.objs.size+1)::us++ds).length=ps.length:=by
  have e:=r2.length;rw[F.len _ _ _ _ hq] at e;exact e.symm
 refine kN (aDy I.kIn M.makes M.init (gu.mp M.fn) (mf (F.run _ X.stack _ _ ⟨du (s.heap.objs.size+1)::us,[]⟩ (du (s.heap.objs.size+1)::(us++ds)) _ _ E (hr.make C us [])
  (I2.env0.make C us []) (hb _ (du (s.heap.objs.size+1)::us) I2.kIn hl) r2 hq) λr s' hq'=>?_))
 cases r with
 |error e=>exact hx Ψ σ _ _ e s' I2 hq'
 |ok fl=>
  cases fl with
  |ret u=>
   obtain⟨v,H',I3,rv,ev,q3⟩:=I2.after hq';subst ev;exact⟨rv,⟨V.ref (s.heap.objs.size+1),H',I3,rfl,q3⟩⟩
  |next=>exact d6 hq'
  |brk=>exact d6 hq'
  |cont=>exact d6 hq'
theorem aIe(M:Mk X.K C f)(F:mO X.prog X.w X.K X.mg X.base CX k f fd ps sp)(hr:mW (k+1) X.A)(hg:Gl X x)(hm:X.mg x=aa (.ref C))(hb:Binds X.K fd ps ds)(hd:Vals dvs ds)(hx:zE CX X E)
 (ha:PA X (e::es) t)(hdb:autoParam (nDb x) Λ)(he:autoParam (zSE X e es) Ω)(hpl:autoParam (zSP X pos es) Ω) :
  PE X (.Call (.Name x p) (e::es) [] pos) (aQl C sp dvs E t):=by
 intro Ψ s σ H Q I h;refine hZ (wM I hg hm ?_ hdb);refine yw I.ok.mod.kin M.kp (thn (ha pos Ψ s σ H _ I h) λus s1 ⟨vs,H1,I1,r,q⟩=>⟨I1.kIn,?_⟩) he hpl;exact aDz M F hr hb hd hx I1 r q
end
structure cA(N P:ae Str)(sc:ft):Prop where
 kind:sc.kind=.function
 co:sc.isCoroutine=ak
 gen:sc.isGenerator=ak
 nd:N.Nodup
 pre:N.take P.length=P
 par:∀x∈P,sc.names.lookup x=aa .local\/sc.names.lookup x=aa .cell
 nofree:∀y∈sc.names,y.2≠.free
theorem KC{kindOf:Str->ar iX}:∀{binds:ae (Str×am)}{m:Str->ar am},(∀v,(x,v)∉binds)->jw kindOf binds m x=m x
 |[],_,_=>rfl
 | (n,v)::r,m,h=>by
  unfold jw;rw[KC λw hw=>h w (dg _ hw)];split
  .have:x≠n:=by rintro rfl;exact h v de
   simp[this]
  .rfl
theorem KD{kindOf:Str->ar iX}:∀{binds:ae (Str×am)}{m:Str->ar am},(∀v,(x,v)∉binds)->jx kindOf binds m x=m x
 |[],_,_=>rfl
 | (n,v)::r,m,h=>by
  unfold jx;rw[KD λw hw=>h w (dg _ hw)];split
  .rfl
  .have:x≠n:=by rintro rfl;exact h v de
   simp[this]
theorem KH{kindOf:Str->ar iX}:∀{P:ae Str}{vs:ae am}{i:ah}{m:Str->ar am},P.Nodup->P[i]?=aa x->vs[i]?=aa v->kindOf x=aa .local->
  jw kindOf (P.zip vs) m x=aa v
 |[],_,_,_,_,h,_,_=>by simp at h
 |_::_,[],_,_,_,_,h,_=>by simp at h
 |p::P,w::vs,0,m,nd,h1,h2,hk=>by
  simp at h1 h2;subst h1;subst h2;show jw kindOf ((p,w)::P.zip vs) m p=_;unfold jw;rw[KC λv hv=>(fy.mp nd).1 (oq hv).1,ao hk];simp
 |p::P,w::vs,i+1,m,nd,h1,h2,hk=>by
  show jw kindOf ((p,w)::P.zip vs) m x=_;unfold jw;exact KH (fy.mp nd).2 (by simpa using h1) (by simpa using h2) hk
theorem KJ{kindOf:Str->ar iX}:∀{P:ae Str}{vs:ae am}{i:ah}{m:Str->ar am},P.Nodup->P[i]?=aa x->vs[i]?=aa v->kindOf x≠aa .local->
  jx kindOf (P.zip vs) m x=aa v
 |[],_,_,_,_,h,_,_=>by simp at h
 |_::_,[],_,_,_,_,h,_=>by simp at h
 |p::P,w::vs,0,m,nd,h1,h2,hk=>by
  simp at h1 h2;subst h1;subst h2;show jx kindOf ((p,w)::P.zip vs) m p=_;unfold jx;rw[KD λv hv=>(fy.mp nd).1 (oq hv).1,ax hk];simp
 |p::P,w::vs,i+1,m,nd,h1,h2,hk=>by
  show jx kindOf ((p,w)::P.zip vs) m x=_;unfold jx;exact KJ (fy.mp nd).2 (by simpa using h1) (by simpa using h2) hk
noncomputable def start(N:ae Str)(vs:ae V):St:=vs.map aa++cq (N.length-vs.length) aj
noncomputable def J0(CX:CXT)(P:bS)(w:bu)(K:bi)(mg:Str->ar am)(base:aI)(N:ae Str)(qual:Str)(scope:ft)(f:al)(cd:am)(A:b6)(outer:ae c_)(s:au)(H:Hp)(E:XK):Cx where
 prog:=P
 w:=w
 K:=K
 mg:=mg
 base:=base
 A:=A.deeper (eW qual scope s.heap.objs.size f cd)
 N:=N
 s₀:=s
 H₀:=H
 env:=eW qual scope s.heap.objs.size f cd
 outer:=outer
 stack:=eW qual scope s.heap.objs.size f cd::outer
 ex:=[]
 calm:=ag
 fn:=λ_=>ag
 pn:=[]
 xe:=λe s'=>ϑ (ay P w) (A.deeper (eW qual scope s.heap.objs.size f cd)) (leaving (eW qual scope s.heap.objs.size f cd) e) (λ_ s''=>CX outer H s E e s'') (λe' s''=>CX outer H s E e' s'') s'
theorem UG{sc:ft}(h:sc.names.lookup x=aa .cell):∃c,(yx n sc.names []).lookup x=aa c:=by
 have q:=Bm sc.names n [] (.inl h);exact yy.mp q
theorem aA3{CX:CXT}{P:bS}{w:bu}{K:bi}{mg:Str->ar am}{base:aI}{N ps:ae Str}{qual:Str}{scope:ft}{f:al}{cd:am}{A:b6}{outer:ae c_}{s s1:au}{H:Hp}{E:XK}{us:ae am}{vs:ae V}
 (S:cA N ps scope)(hd:A.handled=aj)(e0:aIc P w K mg base A outer s H)(hl:vs.length=ps.length)(r:Vals vs us)
 (x:InCallC s s.heap.objs.size (jw (eW qual scope s.heap.objs.size f cd).kindOf (ps.zip us) λ_=>aj) (yx (s.heap.objs.size+1) scope.names []) (jx (eW qual scope s.heap.objs.size f cd).kindOf (ps.zip us) λ_=>aj) s1) :
  Inv (J0 CX P w K mg base N qual scope f cd A outer s H E) [] (start N vs) H s1:=by
 have hpl:ps.length<=N.length:=by have:=cf f_ S.pre;rw[jg] at this;lia
 obtain⟨h1,tk,rfl,hk⟩:=x.done;have noA:∀b:al,b∉(J0 CX P w K mg base N qual scope f cd A outer s H E).ex:=λb z=>aT (show b∈([]:ae al) from z) 0x2
 refine⟨⟨e0.mod,S.kind,rfl,rfl,bt _,λy z c h1 h2=>?_,λy hy=>?_,λy c _ h=>?_,λ_=>hd,Around.frames_deeper e0.frames,.inr ⟨rfl,rfl⟩,λb z=>aT z (noA b),e0.bs,e0.bsz,λb _ _=>noA b,λb z=>aT z (noA b),e0.XJ,e0.frf⟩,
  rfl,e0.bare,Un.kept hk,⟨_,x.toInCall.ns,λi y v h1 h2 h3=>?_⟩,λy c h=>⟨_,x.cell y c h⟩,e0.hok.fresh (bt _),λy c h=>?_,λp hp=>aT (show p∈([]:ae (al×bn)) from hp) 0x2,e0.hok.kept hk,?_⟩
 .exact name_of_addr x.apart (mj h1) (mj h2)
 .have hy:scope.names.lookup y=aa .cell\/scope.names.lookup y=aa .free:=hy;rcases hy with hy|hy
  .exact UG hy
  .exact aT rfl (S.nofree _ (mj hy))
 .exact ye (x.above y c (mj h))
 .have hi:i<vs.length:=by
   unfold start at h2;by_cases hi:i<vs.length
   .exact hi
   .rw[fI (by simpa using hi)] at h2;rw[jy] at h2;split at h2<;>cases h2
  have ha:vs[i]?=aa v:=by
   unfold start at h2;rw[eu (by simpa using hi),ib] at h2;cases e:vs[i]? with
   |none=>rw[e] at h2;cases h2
   |some a=>rw[e] at h2;cases h2;rfl
  obtain⟨u,hu,rv⟩:=r.get ha;have hp:ps[i]?=aa y:=by
   rw[<-S.pre,List.getElem?_take_of_lt 0x1];exact h1
  have ndP:ps.Nodup:=by rw[<-S.pre];exact S.nd.sublist (List.take_sublist _ _)
  refine⟨u,rv,?_⟩;rcases S.par y (kP hp) with k|k
  .exact .inl ⟨k,KH ndP hp hu k⟩
  .obtain⟨c,e⟩:=UG k;refine .inr ⟨.inl k,c,e,?_⟩;have q:=x.cell y c e;rw[KJ ndP hp hu (by show scope.names.lookup y≠_;rw[k];decide)] at q;exact q
 .exact e0.hok.fresh (ye (x.above y c (mj h)))
 .unfold start;show _=N.length;rw[bq,az,ot];lia
theorem aIf{w:bu}{K:bi}{mg:Str->ar am}{base:aI}{k:ah}{f:al}{name qual:Str}{params:Arguments}{body:ae bz}{scope:ft}{dV kV doc pm cdv ct oc:am}{an od:ar al}
 {osl:bp (ar am)}{N ps:ae Str}{sp:Sp}(lk:K.lookup f=aa ⟨oc,od,.func (kQ name qual params body scope dV kV doc pm an cdv ct),osl⟩)(hcd:wa K cdv qual=ag)(S:cA N ps scope)
 (len:∀vs H Q E,sp vs H Q E->vs.length=ps.length)
 (hbody:∀(A:b6) (outer:ae c_) (s:au) (H:Hp) (vs:ae V) (Q:VK) (E:XK),mW k (A.deeper (eW qual scope s.heap.objs.size f cdv))->sp vs H Q E->
   ∃t,PSs (J0 CX P w K mg base N qual scope f cdv A outer s H E) body t/\t {nx:=λ_ H'=>Q .non H',rt:=Q} (start N vs) H) :
  mO P w K mg base CX (k+1) f (kQ name qual params body scope dV kV doc pm an cdv ct) ps sp:=by
 refine⟨len,λA outer s H args us vs Q E hr e0 hb r hsp=>?_⟩;have hl:=len _ _ _ _ hsp;have KX:K.In s.heap:=e0.mod.kin.keeps λb o e=>(e0.bs b o e).1
 have lim:s.heap.NoLimit:=e0.mod.nolimit.keeps λb o e=>(e0.bs b o e).1
 have hkind:∀y∈ps.zip us,scope.names.lookup y.1=aa .local\/(scope.names.lookup y.1=aa .cell/\((yx (s.heap.objs.size+1) scope.names []).lookup y.1).isSome=ag):=λ⟨n,v⟩ hy=>by
  rcases S.par n (oq hy).1 with q|q
  .exact .inl q
  .exact .inr ⟨q,Bm _ _ _ (.inl q)⟩
 refine codeAny_call_function hr.depth (KX _ _ lk) rfl S.co S.gen rfl (PySem.W.codeRec_of KX hcd) (hb _ _ _ _ ?_);refine wpAny_newFunctionEnv_cells S.kind hkind λenv he s1 x=>?_
 subst he;refine⟨lim.keeps x.toInCall.keep,codeAny_func ?_⟩;obtain⟨t,ht,hq⟩:=hbody A outer s H vs Q E (hr.deeper _) hsp;have I:Inv (J0 CX P w K mg base N qual scope f cdv A outer s H E) [] (start N vs) H s1:=aA3 S hr.hd e0 hl r x;refine fg (ht [] s1 (start N vs) H _ I hq) (λfl s' hs=>?_) λe s' hs=>hs
 have fin:∀{σ':St}{H':Hp}{v:V}{u:am},Inv (J0 CX P w K mg base N qual scope f cdv A outer s H E) [] σ' H' s'->RelV v u->Q v H'->CE outer P w H s Q u s':=
  λ{σ' H' v u} J rv q=>⟨v,H',J.os,J.bare,J.base,J.hok,rv,q⟩
 cases fl with
 |ret u=>
  obtain⟨v,σ',H',J,rv,q⟩:=hs;exact fin J rv q
 |next=>
  obtain⟨σ',H',J,q⟩:=hs;exact fin (v:=V.non) J rfl q
 |brk=>
  obtain⟨_,_,_,q⟩:=hs;exact d6 q
 |cont=>
  obtain⟨_,_,_,q⟩:=hs;exact d6 q
section
variable {X:Cx} {x:Str} {p pos:ck} {e:Expr} {es:ae Expr} {t:TA} {id T:fR} {r:ae V->Hp->VK->Prop}
noncomputable def tCB(r:ae V->Hp->VK->Prop)(t:TA):TE:=λσ H Q=>t σ H λvs H1=>r vs H1 Q
theorem sV(hc:lR X (.builtin id) r)(hg:Gl X x)(hm:X.mg x=aj)(hv:dS x=aa (.builtin id))(ha:PA X (e::es) t)(hn:autoParam (x ≠ "__name__") Λ)(hdb:autoParam (nDb x) Λ)
 (he:autoParam (zSE X e es) Ω)(hpl:autoParam (zSP X pos es) Ω):PE X (.Call (.Name x p) (e::es) [] pos) (tCB r t):=by
 intro Ψ s σ H Q I h;refine hZ (oA I hg hm hv ?_ hn hdb);exact DJ (thn (ha pos Ψ s σ H _ I h) λus s1 ⟨vs,H1,I1,r1,q1⟩=>hc Ψ s1 σ H1 vs us Q I1 r1 q1) he hpl
theorem aA4(hc:lR X (.type T) r)(hg:Gl X x)(hm:X.mg x=aj)(hv:dS x=aa (.type T))(ha:PA X (e::es) t)(hn:autoParam (x ≠ "__name__") Λ)(hdb:autoParam (nDb x) Λ)
 (he:autoParam (zSE X e es) Ω)(hpl:autoParam (zSP X pos es) Ω):PE X (.Call (.Name x p) (e::es) [] pos) (tCB r t):=by
 intro Ψ s σ H Q I h;refine hZ (oA I hg hm hv ?_ hn hdb);exact jv (thn (ha pos Ψ s σ H _ I h) λus s1 ⟨vs,H1,I1,r1,q1⟩=>hc Ψ s1 σ H1 vs us Q I1 r1 q1) he hpl
end
end L2
namespace HT
open PySem PyProof.Rows
section
variable {prog:bS} {w:bu} {A:b6} {E:am->au->Prop} {s:au}
theorem aIg(ht:kC s.heap t vs.toArray)(hb:kC s.heap b ws.toArray)(hv:vs≠[])
 (h1:ws=[]->Q (.ref t) s)(h2:ws≠[]->Q (.ref s.heap.objs.size) {s with heap:=s.heap.push {cls:=.type "tuple",data:=.seq (vs++ws).toArray}})
 (hsz:vs.length+ws.length<=bo):ϑ (ay prog w) A (eI .Add (.ref t) (.ref b)) Q E s:=by
 obtain⟨⟨cls,dd,data,sl⟩,ho,hc,n,hd⟩:=id ht;obtain⟨⟨cls2,dd2,data2,sl2⟩,ho2,hc2,n2,hd2⟩:=id hb;simp only at hc hd hc2 hd2;subst hc hd hc2 hd2;have e:vs.toArray++ws.toArray=(vs++ws).toArray:=by simp
 by_cases hw:ws=[]
 .exact yz ⟨_,ho,rfl⟩ ⟨_,ho2,rfl⟩ yA yB yT yY (y6 _ _)
   (tuple_addW1 t b vs.toArray ws.toArray n n2 dd dd2 sl sl2 (by simpa using hv) (by simp[hw])) ⟨ho,ho2,h1 hw⟩
 .refine yz ⟨_,ho,rfl⟩ ⟨_,ho2,rfl⟩ yA yB yT yY (y6 _ _)
   (tuple_addW2 t b vs.toArray ws.toArray n n2 dd dd2 sl sl2 (by simpa using hv) (by simpa using hw) (by rw[b9,b9];exact hsz)) ⟨ho,ho2,?_⟩
  rw[e];exact h2 hw
noncomputable def sIx(n d:ah):ar ai->ah
 |none=>d
 |some v=>if v<0 then (v+(n:ai)).toNat else min v.toNat n
theorem aMb(n d:ah)(hd:d<=n)(o:ar ai):sIx n d o<=n:=by
 cases o with
 |none=>exact hd
 |some v=>
  show(if v<0 then (v+(n:ai)).toNat else min v.toNat n)<=n;by_cases hv:v<0
  .rw[ao hv];lia
  .rw[ax hv];exact Nat.min_le_right _ _
theorem aA5(v:ai)(n d:ah):(if v<0 then max (v+(n:ai)) 0 else min v (n:ai))=((sIx n d (aa v):ah):ai):=by
 show(if v<0 then max (v+(n:ai)) 0 else min v (n:ai))=(((if v<0 then (v+(n:ai)).toNat else min v.toNat n):ah):ai);by_cases hv:v<0
 .simp only[ao hv];lia
 .simp only[ax hv];lia
theorem X8(lo hi:ar ai)(n:ah):y8 lo hi 1 (n:ai)=(((sIx n 0 lo:ah):ai),((sIx n n hi:ah):ai)):=by
 have h1:¬((1:ai)<0):=by lia
 unfold y8;simp only[h1,gf];refine Prod.ext ?_ ?_
 .cases lo with
  |none=>rfl
  |some v=>exact aA5 v n 0
 .cases hi with
  |none=>rfl
  |some v=>exact aA5 v n n
theorem X_(i j:ah):we (i:ai) (j:ai) 1=j-i:=by
 unfold we;have h1:(1:ai) > 0:=by lia
 simp only[h1,e9,Int.ediv_one];split<;>lia
theorem DQ(p:jh v o)(h:Q o s):ϑ (ay prog w) A (DL v) Q E s:=by
 cases p with
 |none=>exact Bn h
 |int i t=>exact slicePart_int h
theorem yC{lo hi:ar ai}{Q:ai×ai×ah->au->Prop}(hs:s.heap.IsSliceOf sl vl vu .none)(pl:jh vl lo)(pu:jh vu hi)
 (h:Q (((sIx n 0 lo:ah):ai),1,sIx n n hi-sIx n 0 lo) s):ϑ (ay prog w) A (Bo (.ref sl) (pure (n:ai))) Q E s:=by
 obtain⟨os,hos,hcs,hds⟩:=id hs;unfold Bo DM;refine aq (aq (dn hos hds rfl (aq (dn hos hds rfl (aq (dn hos hds rfl (bc ?_)))))));refine aq (Bn ?_);show ϑ _ _ (if ((1:ai)==0)=ag then _ else _) _ _ s;rw[ax 0x4];refine aq (DQ pl (aq (DQ pu (aq (bc ?_)))));show ϑ _ _ (match y8 lo hi 1 (n:ai) with|(lo,hi)=>pure (lo,(1:ai),we lo hi 1)) _ _ s;rw[X8 lo hi n];show ϑ _ _ (pure (((sIx n 0 lo:ah):ai),(1:ai),we ((sIx n 0 lo:ah):ai) ((sIx n n hi:ah):ai) 1)) _ _ s;rw[X_];exact bc h
theorem aE0(xs:bp am)(i k:ah):((aE k).filterMap λ(m:ah)=>xs[((i:ai)+(m:ai)*1).toNat]?).toArray=((xs.toList.drop i).take k).toArray:=by
 have e:(λ(m:ah)=>xs[((i:ai)+(m:ai)*1).toNat]?)=λm=>xs[i+m]?:=by
  funext m
  have:((i:ai)+(m:ai)*1).toNat=i+m:=by lia
  rw[this]
 rw[e];have:=pick_run xs i k;rw[List.filterMap_map] at this;have e2:((λx=>xs[x]?) ∘ λx=>i+x)=λm=>xs[i+m]?:=rfl
 rw[e2] at this;rw[this]
theorem wO{lo hi:ar ai}{Q:am->au->Prop}(ht:kC s.heap t items)(hs:s.heap.IsSliceOf sl vl vu .none)(pl:jh vl lo)(pu:jh vu hi)
 (hw:¬(sIx items.size 0 lo=0/\sIx items.size items.size hi=items.size))
 (h:Q (.ref s.heap.objs.size) {s with heap:=s.heap.push {cls:=.type "tuple",data:=.seq ((items.toList.drop (sIx items.size 0 lo)).take (sIx items.size items.size hi-sIx items.size 0 lo)).toArray}})
 (hsz:items.size<=bo):ϑ (ay prog w) A (kT (.ref t) (.ref sl)) Q E s:=by
 have htake:sizeOk (.seq ((items.toList.drop (sIx items.size 0 lo)).take (sIx items.size items.size hi-sIx items.size 0 lo)).toArray):=by
  show((items.toList.drop (sIx items.size 0 lo)).take (sIx items.size items.size hi-sIx items.size 0 lo)).toArray.size<=bo;rw[b9,jg,mq,sP];lia
 have hj:sIx items.size items.size hi<=items.size:=aMb _ _ (bt _) hi;obtain⟨os,hos,hcs,hds⟩:=id hs;have hTs:s.TypeIs (.ref sl) "slice":=⟨os,hos,hcs⟩
 unfold kT
 try with_reducible refine eL ?_
 first|refine aq (bc ?_)|skip
 refine aq (wpAny_sequenceKey ht.typeIs 0x4 ?_);refine aq (jz ht.typeIs ou
  (k9 ou ht.typeIs entry_tuple_getitem ?_ (args_tuple_getitem _ _)))
 show ϑ _ _ (y9 (.ref t) >>= _) _ _ s;refine aq (za ht ?_);refine aq (jI hTs ?_);rw[ao 0x4];refine aq (yC hs pl pu ?_);have hno:¬((((sIx items.size 0 lo:ah):ai)==0&&(1:ai)==1&&(sIx items.size items.size hi-sIx items.size 0 lo)==items.size)=ag):=by
  intro q;rw[aS,aS] at q;have q1:((sIx items.size 0 lo:ah):ai)=0:=eq_of_beq q.1.1;have q2:sIx items.size items.size hi-sIx items.size 0 lo=items.size:=eq_of_beq q.2;exact hw ⟨by lia,by lia⟩
 show ϑ _ _ (if (((sIx items.size 0 lo:ah):ai)==0&&(1:ai)==1&&(sIx items.size items.size hi-sIx items.size 0 lo)==items.size)=ag then _ else _) _ _ s;rw[ax hno,aE0]
 first
  |exact aq (ji (bc ⟨_,rfl,bc h⟩) htake)
  |exact aq (ji (aq (bc (bc ⟨_,rfl,bc h⟩))) htake)
  |exact aq (aq (ji (bc (bc ⟨_,rfl,bc h⟩)) htake))
  |exact aq (aq (ji (bc ⟨_,rfl,bc h⟩) htake))
end
end HT
namespace L2
open PySem PySem.Spec PyProof.Rows
abbrev TO:=St->Hp->(ar ai->Hp->Prop)->Prop
def PO(X:Cx)(e:ar Expr)(t:TO):Prop:=
 ∀(Ψ:ae (al×bn))(s:au)(σ:St)(H:Hp)(Q:ar ai->Hp->Prop),Inv X Ψ σ H s->t σ H Q->
  ϑ (ay X.prog X.w) X.A (evalPart e X.env) (λu s'=>∃o H',Inv X Ψ σ H' s'/\jh u o/\Q o H') X.xe s
noncomputable def aIh:TO:=λ_ H Q=>Q aj H
noncomputable def aQm(t:TE):TO:=λσ H Q=>t σ H λx H1=>∃i,x=.int i/\Q (aa i) H1
section
variable {X:Cx} {e:Expr} {te:TE} {lo hi:ar Expr} {tl th:TO} {pos p2:ck}
theorem aIi:PO X aj aIh:=by
 intro Ψ s σ H Q I h;rw[Bp];exact bc ⟨aj,H,I,.none,h⟩
theorem aIj(h:PE X e te):PO X (aa e) (aQm te):=by
 intro Ψ s σ H Q I hw;rw[evalPart_some];refine thn (h Ψ s σ H _ I hw) λu s1 ⟨x,H1,I1,r1,q1⟩=>?_
 obtain⟨i,rfl,q⟩:=q1;obtain⟨t,rfl⟩:=r1;exact⟨aa i,H1,I1,.int i t,q⟩
def SlR(X:Cx)(r:V->ar ai->ar ai->Hp->VK->Prop):Prop:=
 ∀(Ψ:ae (al×bn))(s:au)(σ:St)(H:Hp)(x:V)(v vl vu:am)(lo hi:ar ai)(sl:al)(Q:VK),Inv X Ψ σ H s->RelV x v->s.heap.IsSliceOf sl vl vu .none->jh vl lo->jh vu hi->r x lo hi H Q->
  ∃T id,la (.type T) "__getitem__"=pure (aa (.builtin id))/\s.TypeIs v T/\ϑ (ay X.prog X.w) X.A (kT v (.ref sl)) (EP X Ψ σ Q) X.xe s
noncomputable def tSl(r:V->ar ai->ar ai->Hp->VK->Prop)(te:TE)(tl th:TO):TE:=λσ H Q=>te σ H λx H1=>tl σ H1 λl H2=>th σ H2 λu H3=>r x l u H3 Q
theorem aE1(hr:SlR X r)(he:PE X e te)(hl:PO X lo tl)(hu:PO X hi th):PE X (.Subscript e (.Slice lo hi aj p2) pos) (tSl r te tl th):=by
 intro Ψ s σ H Q I h;refine Subscript_ (thn (he Ψ s σ H _ I h) λv s1 ⟨x,H1,I1,r1,q1⟩=>?_);refine wpAny_Slice (thn (hl Ψ s1 σ H1 _ I1 q1) λvl s2 ⟨l,H2,I2,pl,q2⟩=>thn (hu Ψ s2 σ H2 _ I2 q2) λvu s3 ⟨u,H3,I3,pu,q3⟩=>?_);rw[Bp];refine bc ?_;have I4:Inv X Ψ σ H3 {s3 with heap:=s3.heap.push {cls:=.type "slice",data:=.fields #[vl,vu,.none]}}:=I3.kept λb ob q=>bX _ q
 obtain⟨T,id,hT,ht,hg⟩:=hr Ψ {s3 with heap:=s3.heap.push {cls:=.type "slice",data:=.fields #[vl,vu,.none]}} σ H3 x v vl vu l u s3.heap.objs.size Q I4 r1 (DO ..) pl pu q3;show ϑ (ay X.prog X.w) X.A (wf e (.Slice lo hi aj p2) v (.ref s3.heap.objs.size)) (EP X Ψ σ Q) X.xe {s3 with heap:=s3.heap.push {cls:=.type "slice",data:=.fields #[vl,vu,.none]}};exact tail_any ht hT hg 0x5
noncomputable def aE2(xs:ae V)(lo hi:ar ai):ae V:=(xs.drop (HT.sIx xs.length 0 lo)).take (HT.sIx xs.length xs.length hi-HT.sIx xs.length 0 lo)
theorem zF(xs:ae V)(lo hi:ar ai):(aE2 xs lo hi).length<=xs.length:=by
 unfold aE2;rw[jg,mq];lia
def aTm(K:bi):V->ar ai->ar ai->Hp->VK->Prop:=λx lo hi H Q=>∃a xs,x=.ref a/\SqT K H a xs/\
 ¬(HT.sIx xs.length 0 lo=0/\HT.sIx xs.length xs.length hi=xs.length)/\∀p,H p=aj->Q (.ref p) (upd H p (.tup (aE2 xs lo hi)))
theorem aMc:SlR X (aTm X.K):=by
 intro Ψ s σ H x v vl vu lo hi sl Q I rx hs pl pu h;obtain⟨a,xs,rfl,hx,hw,q⟩:=h;cases rx;obtain⟨its,r,ht,hz⟩:=I.tuple hx;have hlen:its.toArray.size=xs.length:=by rw[b9];exact r.length.symm
 refine⟨"tuple",_,ou.lookup,ht.typeIs,?_⟩;refine HT.wO ht hs pl pu (by rw[hlen];exact hw) ?_ (by rw[hlen];exact hz);rw[hlen];refine⟨.ref s.heap.objs.size,_,I.laid (λb ob q=>bX _ q) (bt _) ?_,rfl,q _ (I.hok.fresh (bt _))⟩;exact⟨dj (zF xs lo hi) hz,_,(r.drop (HT.sIx xs.length 0 lo)).take (HT.sIx xs.length xs.length hi-HT.sIx xs.length 0 lo),kZ.new _ _⟩
def aQn(K:bi):R2:=λx y H Q=>∃a b xs ys,x=.ref a/\y=.ref b/\SqT K H a xs/\SqT K H b ys/\xs≠[]/\xs.length+ys.length<=bo/\
 (ys=[]->Q (.ref a) H)/\(ys≠[]->∀p,H p=aj->Q (.ref p) (upd H p (.tup (xs++ys))))
theorem Vals.zG(r:Vals xs us):us=[]↔xs=[]:=by
 cases r with
 |nil=>simp
 |cons _ _=>simp
theorem aIk:OpR X (eI .Add) (aQn X.K):=by
 intro Ψ s σ H x y v u Q I rx ry h;obtain⟨a,b,xs,ys,rfl,rfl,ha,hb,hx,hz,q1,q2⟩:=h;cases rx;cases ry;obtain⟨its,r1,p1,_⟩:=I.tuple ha;obtain⟨its2,r2,p2,_⟩:=I.tuple hb;refine HT.aIg p1 p2 (λz=>hx (r1.zG.mp z)) (λz=>⟨.ref a,H,I,rfl,q1 (r2.zG.mp z)⟩) (λz=>?_) (by rw[<-r1.length,<-r2.length];exact hz);refine⟨.ref s.heap.objs.size,_,I.laid (λb ob q=>bX _ q) (bt _) ?_,rfl,q2 (λw=>z (r2.zG.mpr w)) _ (I.hok.fresh (bt _))⟩;exact⟨by rw[bq];exact hz,_,r1.append r2,kZ.new _ _⟩
end
noncomputable def ixN(n:ah)(i:ai):ar ah:=if 0<=i then (if i<n then aa i.toNat else aj) else if -(n:ai)<=i then aa (i+n).toNat else aj
def atI{α:Type}(xs:ae α)(i:ai):ar α:=(ixN xs.length i).bind λj=>xs[j]?
theorem aA6(h:ixN n i=aa j):zb i n=aa j/\j<n/\-(n:ai)<=i/\i<n:=by
 unfold ixN at h;by_cases h0:0<=i
 .rw[ao h0] at h;by_cases h1:i<n
  .rw[ao h1] at h;have e:i.toNat=j:=fE h;exact⟨by rw[zc h0 h1,e],by lia,by lia,h1⟩
  .rw[ax h1] at h;cases h
 .rw[ax h0] at h;by_cases h1:-(n:ai)<=i
  .rw[ao h1] at h;have e:(i+n).toNat=j:=fE h;exact⟨by rw[zd 0x1 h1,e],by lia,h1,by lia⟩
  .rw[ax h1] at h;cases h
theorem QZ(h:atI xs i=aa v):∃j,zb i xs.length=aa j/\xs[j]?=aa v/\j<xs.length/\-(xs.length:ai)<=i/\i<xs.length:=by
 unfold atI at h;cases e:ixN xs.length i with
 |none=>rw[e] at h;cases h
 |some j=>
  rw[e] at h;obtain⟨h1,h2,h3,h4⟩:=aA6 e;exact⟨j,h1,h,h2,h3,h4⟩
theorem aIl{j:ah}(h:xs[j]?=aa v):atI xs (j:ai)=aa v:=by
 have hj:j<xs.length:=(dA.mp h).1;have e:ixN xs.length (j:ai)=aa j:=by
  unfold ixN;rw[ao 0x1,ao 0x1];simp
 unfold atI;rw[e];exact h
theorem yI(xs:ae α)(v:α):atI (xs++[v]) (-1)=aa v:=by
 have hl:(xs++[v]).length=xs.length+1:=by simp
 have e:ixN (xs++[v]).length (-1)=aa xs.length:=by
  unfold ixN;rw[hl,ax 0x4,ao 0x1]
  congr 1
  lia
 unfold atI;rw[e];show(xs++[v])[xs.length]?=aa v;simp
def wQ(b:Expr):Prop:=∀o i,wg b ak o i=ze [o,i] (kT o i)
def IxR(X:Cx)(r:R2):Prop:=
 ∀(value slice:Expr)(Ψ:ae (al×bn))(s:au)(σ:St)(H:Hp)(x y:V)(v u:am)(Q:VK),Inv X Ψ σ H s->RelV x v->RelV y u->r x y H Q->
  wg slice ak v u=ze [v,u] (kT v u)->ϑ (ay X.prog X.w) X.A (wf value slice v u) (EP X Ψ σ Q) X.xe s
def MtR(X:Cx)(id:fR)(r:V->ae V->Hp->VK->Prop):Prop:=
 ∀(Ψ:ae (al×bn))(s:au)(σ:St)(H:Hp)(x:V)(xs:ae V)(v:am)(us:ae am)(Q:VK),Inv X Ψ σ H s->RelV x v->Vals xs us->r x xs H Q->
  ϑ (ay X.prog X.w) X.A (call (.builtin id) (v::us)) (EP X Ψ σ Q) X.xe s
section
variable {X:Cx} {a b:Expr} {ta tb:TE} {pos:ck}
theorem YB(hr:IxR X r)(ha:PE X a ta)(hb:PE X b tb)(hs:wQ b):PE X (.Subscript a b pos) (tOp r ta tb):=by
 intro Ψ s σ H Q I h;exact Subscript_ (aQh ha hb I h λv u s2 x y H2 I2 rx ry q=>hr a b Ψ s2 σ H2 x y v u Q I2 rx ry q (hs _ _))
def aPy(K:bi):R2:=λx y H Q=>∃p xs i v,x=.ref p/\y=.int i/\SqL K H p xs/\atI xs i=aa v/\Q v H
def aTn(K:bi):R2:=λx y H Q=>∃p xs i v,x=.ref p/\y=.int i/\SqT K H p xs/\atI xs i=aa v/\Q v H
def aTo:R2:=λx y H Q=>∃z i c,x=.str z/\y=.int i/\z.length<=bo/\atI z.cps.toList i=aa c/\Q (.str ⟨#[c]⟩) H
theorem oN:IxR X (aPy X.K):=by
 intro value slice Ψ s σ H x y v u Q I rx ry h hs;obtain⟨p,xs,i,z,rfl,rfl,hq,he,q⟩:=h;cases rx;obtain⟨t,rfl⟩:=ry;obtain⟨its,r,pl,hz⟩:=I.list hq;obtain⟨j,h1,h2,h3,h4,h5⟩:=QZ he;obtain⟨w,ew,rw'⟩:=r.get h2;have hl:=r.length;have hn:=yX;have fin:EP X Ψ σ Q w s:=⟨z,H,I,rw',q⟩
 by_cases h0:0<=i
 .have hj:i.toNat=j:=by
   rw[zc h0 h5] at h1;exact fE h1
  exact item_listR pl.isList h0 0x1 (by rw[hj];simpa using ew) fin hs
 .have hj:(i+(its.toArray.size:ai)).toNat=j:=by
   rw[zd 0x1 h4] at h1;rw[b9,<-hl];exact fE h1
  exact Bq pl.isList.typeIs Br.lookup
   (wpAny_getItem_list_neg pl.isList 0x1 (by rw[b9]<;>lia) 0x1 (by rw[hj];simpa using ew) ⟨rfl,fin⟩) hs
theorem aMd:IxR X (aTn X.K):=by
 intro value slice Ψ s σ H x y v u Q I rx ry h hs;obtain⟨p,xs,i,z,rfl,rfl,hq,he,q⟩:=h;cases rx;obtain⟨t,rfl⟩:=ry;obtain⟨its,r,pl,hz⟩:=I.tuple hq;obtain⟨j,h1,h2,h3,h4,h5⟩:=QZ he;obtain⟨w,ew,rw'⟩:=r.get h2;have hl:=r.length;have hn:=yX;have fin:EP X Ψ σ Q w s:=⟨z,H,I,rw',q⟩
 exact Bq pl.typeIs slot_tuple_getitem.lookup
  (getItem_tuple pl 0x1 0x1 (by rw[b9,<-hl];exact h1) (by simpa using ew) ⟨rfl,fin⟩) hs
theorem aMe:IxR X aTo:=by
 intro value slice Ψ s σ H x y v u Q I rx ry h hs;obtain⟨z,i,c,rfl,rfl,hz,he,q⟩:=h;obtain⟨t,rfl⟩:=rx;obtain⟨t',rfl⟩:=ry;obtain⟨j,h1,h2,h3,h4,h5⟩:=QZ he;have hl:z.cps.toList.length=z.length:=by simp[Str.length]
 rw[hl] at h1 h4 h5;have hn:=yX;exact tail_any (zf s z t) slot_str_getitem.lookup (getItem_str (by
  have e1:ϒ (i < -(2 ^ 63:ai))=ak:=cS 0x1;have e2:ϒ (i >= 2 ^ 63)=ak:=cS 0x1;rw[e1,e2,zg]) (by rw[h1];simpa using h2) ⟨.str ⟨#[c]⟩,H,I.tok _,⟨_,rfl⟩,q⟩) hs
theorem YC(its:ae am)(n j:ah)(u:am):gx (·.setIfInBounds j u) {cls:=.type "list",data:=.seq its.toArray n}={cls:=.type "list",data:=.seq (its.set j u).toArray n}:=by
 simp[gx]
theorem Inv.lst{Ψ:ae (al×bn)}{σ:St}{H:Hp}{s:au}{p:al}{xs:ae V}(I:Inv X Ψ σ H s)(h:H p=aa (.lst xs)) :
  ∃(its:ae am)(n:ah),Vals xs its/\s.heap.get? p=aa {cls:=.type "list",data:=.seq its.toArray n}/\xs.length<=bo:=by
 obtain⟨z,its,n,r,e⟩:=I.hok p _ h;exact⟨its,n,r,e,z⟩
theorem Inv.aMf{its its':ae am}{n n':ah}{f:bn->bn}(I:Inv X Ψ σ H s)(h:H p=aa (.lst xs))
 (ho:s.heap.get? p=aa {cls:=.type "list",data:=.seq its.toArray n})(hf:f {cls:=.type "list",data:=.seq its.toArray n}={cls:=.type "list",data:=.seq its'.toArray n'})(r:Vals ys its')(hz:ys.length<=bo)(t:ah) :
  Inv X Ψ σ (upd H p (.lst ys)) {s with heap:=s.heap.update p f,toks:=t}:=by
 have e:(s.heap.update p f).get? p=aa {cls:=.type "list",data:=.seq its'.toArray n'}:=by
  rw[jj f ho (by rw[hf]<;>rfl),hf]
 refine I.write (by rw[h];trivial) (.inl rfl) (λb u hb q=>(mr _ _ (Ne.symm hb)).trans q) ⟨_,e⟩ ?_;exact⟨hz,its',n',r,e⟩
def aQo:V->V->V->Hp->(Hp->Prop)->Prop:=λo i v H Q=>∃p xs k j,o=.ref p/\i=.int k/\H p=aa (.lst xs)/\ixN xs.length k=aa j/\Q (upd H p (.lst (xs.set j v)))
theorem set_list:aTj X aQo:=by
 intro Ψ s σ H o i v ov iv u Q I ro ri rv h;obtain⟨p,xs,k,j,rfl,rfl,hp,hj,q⟩:=h;cases ro;obtain⟨t,rfl⟩:=ri;obtain⟨its,n,r,ho,hz⟩:=I.lst hp;obtain⟨h1,h2,h3,h4⟩:=aA6 hj;have hl:=r.length;have hn:=yX;have I':Inv X Ψ σ (upd H p (.lst (xs.set j v))) {s with heap:=s.heap.update p (gx (·.setIfInBounds j u))}:=
  I.aMf hp ho (YC its n j u) (r.set rv j) (by rw[jk];exact hz) s.toks
 by_cases h0:0<=k
 .have hk:k.toNat=j:=by
   rw[zc h0 h4] at h1;exact fE h1
  exact PySem.W.ki_setAt ho h0 0x1 (by rw[b9,<-hl];exact h4) (by rw[hk];exact⟨_,I',q⟩)
 .have hk:(k+(its.toArray.size:ai)).toNat=j:=by
   rw[zd 0x1 h3] at h1;rw[b9,<-hl];exact fE h1
  exact PySem.W.ki_setBack ho 0x1 (by rw[b9,<-hl];exact h3) 0x1 (by rw[hk];exact⟨_,I',q⟩)
theorem KN(lo hi:ar ai)(n:ah):(lc lo hi aj n).1=((HT.sIx n 0 lo:ah):ai)/\(lc lo hi aj n).2.1=((HT.sIx n n hi:ah):ai)/\(lc lo hi aj n).2.2=1:=by
 refine⟨?_,?_,rfl⟩
 .cases lo with
  |none=>simp[lc,HT.sIx]
  |some i=>
   simp only[lc,HT.sIx,Bs,show(1:ai) > 0 by decide,e9];by_cases h:i<0
   .simp only[h,e9]<;>lia
   .simp only[h,gf]<;>lia
 .cases hi with
  |none=>simp[lc,HT.sIx]
  |some i=>
   simp only[lc,HT.sIx,Bs,show(1:ai) > 0 by decide,e9];by_cases h:i<0
   .simp only[h,e9]<;>lia
   .simp only[h,gf]<;>lia
theorem GR(its:ae am)(lo hi:ar ai):slicePick its.toArray lo hi aj=((its.drop (HT.sIx its.length 0 lo)).take (HT.sIx its.length its.length hi-HT.sIx its.length 0 lo)).toArray:=by
 obtain⟨h1,h2,h3⟩:=KN lo hi its.toArray.size;unfold slicePick;rw[h1,h2,h3];simp only[sliceRange_one,pick_run,b9]<;>rfl
def aTp(K:bi):V->ar ai->ar ai->Hp->VK->Prop:=λx lo hi H Q=>∃a xs,x=.ref a/\SqL K H a xs/\∀p,H p=aj->Q (.ref p) (upd H p (.lst (aE2 xs lo hi)))
theorem aA7:SlR X (aTp X.K):=by
 intro Ψ s σ H x v vl vu lo hi sl Q I rx hs pl pu h;obtain⟨a,xs,rfl,hx,q⟩:=h;cases rx;obtain⟨its,r,ht,hz⟩:=I.list hx;have hlen:=r.length;refine⟨"list",_,Br.lookup,ht.isList.typeIs,?_⟩;refine wpAny_getItem_list_slice ht.isList hs pl pu .none 0x2 ?_ (by rw[b9]<;>lia);rw[GR,<-hlen];refine⟨.ref s.heap.objs.size,_,I.laid (λb ob q=>bX _ q) (bt _) ?_,rfl,q _ (I.hok.fresh (bt _))⟩;exact⟨dj (zF xs lo hi) hz,_,0,(r.drop (HT.sIx xs.length 0 lo)).take (HT.sIx xs.length xs.length hi-HT.sIx xs.length 0 lo),dh _ rfl⟩
theorem j5:lR X (.builtin "len") (λxs H Q=>∃p ys,xs=[.ref p]/\(SqL X.K H p ys\/SqT X.K H p ys)/\Q (.int ys.length) H):=by
 intro Ψ s σ H xs us Q I r h;obtain⟨p,ys,rfl,hq,q⟩:=h;obtain⟨u,rfl,rx⟩:=vals1 r;cases rx;have hn:=yX;rcases hq with hq|hq
 .obtain⟨its,r',pl,hz⟩:=I.list hq;have hlen:=r'.length;exact Calls.call_len_list pl.isList (by simp only[b9]<;>lia) ⟨.int ys.length,H,I.tok _,⟨s.toks+1,by rw[b9,hlen]⟩,q⟩
 .obtain⟨its,r',pl,hz⟩:=I.tuple hq;have hlen:=r'.length;exact len_tuple pl (by simp only[b9]<;>lia) ⟨.int ys.length,H,I.tok _,⟨s.toks+1,by rw[b9,hlen]⟩,q⟩
theorem KQ:lR X (.builtin "len") (λxs H Q=>∃z,xs=[.str z]/\z.length<=bo/\Q (.int z.length) H):=by
 intro Ψ s σ H xs us Q I r h;obtain⟨z,rfl,hz,q⟩:=h;obtain⟨u,rfl,t,rfl⟩:=vals1 r;have hn:=yX;exact len_str 0x1 ⟨.int z.length,H,I.tok _,⟨_,rfl⟩,q⟩
theorem xU:lR X (.type "list") (λxs H Q=>∃p ys,xs=[.ref p]/\(SqL X.K H p ys\/SqT X.K H p ys)/\∀l,H l=aj->Q (.ref l) (upd H l (.lst ys))):=by
 intro Ψ s σ H xs us Q I r h;obtain⟨p,ys,rfl,hq,q⟩:=h;obtain⟨u,rfl,rx⟩:=vals1 r;cases rx;have fin:∀(its:ae am),Vals ys its->ys.length<=bo->∀(h':aI)(c':ah),(∀b o',s.heap.get? b=aa o'->h'.get? b=aa o')->
   h'.get? s.heap.objs.size=aa {cls:=.type "list",dict:=aj,data:=.seq its.toArray c',slots:=#[]}->EP X Ψ σ Q (.ref s.heap.objs.size) {s with heap:=h'}:=λits r' hz h' c' kp e=>
  ⟨.ref s.heap.objs.size,_,I.laid kp (bt _) (show gY X.prog X.w _ h' _ (.lst ys) from ⟨hz,its,c',r',e⟩),rfl,q _ (I.hok.fresh (bt _))⟩
 rcases hq with hq|hq
 .obtain⟨its,r',pl,hz⟩:=I.list hq;have hlen:=r'.length;obtain⟨o,ho,hc,n,hd⟩:=pl.isList;exact Bu p (.inl rfl) ho hc hd (λh' c' kp e=>fin its r' hz h' c' kp e) (by simp only[b9]<;>lia)
 .obtain⟨its,r',pl,hz⟩:=I.tuple hq;have hlen:=r'.length;obtain⟨o,ho,hc,n,hd⟩:=pl;exact Bu p (.inr rfl) ho hc hd (λh' c' kp e=>fin its r' hz h' c' kp e) (by simp only[b9]<;>lia)
theorem sW:lR X (.type "tuple") (λxs H Q=>∃p ys,xs=[.ref p]/\((SqL X.K H p ys/\∀l,H l=aj->Q (.ref l) (upd H l (.tup ys)))\/(SqT X.K H p ys/\Q (.ref p) H))):=by
 intro Ψ s σ H xs us Q I r h;obtain⟨p,ys,rfl,h⟩:=h;obtain⟨u,rfl,rx⟩:=vals1 r;cases rx;rcases h with ⟨hq,q⟩|⟨hq,q⟩
 .obtain⟨its,r',pl,hz⟩:=I.list hq;have hlen:=r'.length;refine call_tuple_list pl.isList (λh' kp=>?_) (by simp only[b9]<;>lia);have I1:Inv X Ψ σ H {s with heap:=h'}:=I.kept kp;have I2:Inv X Ψ σ (upd H h'.objs.size (.tup ys)) {s with heap:=h'.push {cls:=.type "tuple",data:=.seq its.toArray}}:=
   I1.laid (λb o e=>bX _ e) (bt _) (show gY X.prog X.w _ _ _ (.tup ys) from ⟨hz,its,r',kZ.new _ _⟩)
  exact⟨.ref h'.objs.size,_,I2,rfl,q _ (I1.hok.fresh (bt _))⟩
 .obtain⟨its,r',pl,hz⟩:=I.tuple hq;exact call_tuple_same pl ⟨.ref p,H,I,rfl,q⟩
def tyV(K:bi)(T:fR)(x:V)(H:Hp):Prop:=match x with
 |.str _=>T="str"
 |.int _=>T="int"
 |.ref p=>(T="list"/\∃xs,SqL K H p xs)\/(T="tuple"/\((∃o,K.lookup p=aa o/\o.cls=.type "tuple"/\o.dict=aj)\/∃xs,H p=aa (.tup xs)))\/
   (T="dict"/\((∃kvs,H p=aa (.dK kvs))\/∃kvs,H p=aa (.dT kvs)))\/(T="set"/\∃S n,H p=aa (.set S n))
 |_=>cb
theorem aGy(I:Inv X Ψ σ H s)(r:RelV x v)(ty:tyV X.K T x H) :
  s.TypeIs v T/\∀a,v=.ref a->∃ob,s.heap.get? a=aa ob/\ob.dict=aj:=by
 cases x with
 |str z=>
  obtain⟨t,rfl⟩:=r;cases (show T="str" from ty);exact⟨zf s z t,λ_ e=>nomatch e⟩
 |int i=>
  obtain⟨t,rfl⟩:=r;cases (show T="int" from ty);exact⟨typeIs_int s i t,λ_ e=>nomatch e⟩
 |ref p=>
  cases r;rcases ty with ⟨rfl,xs,hq⟩|⟨rfl,⟨o,hk,hc,hd⟩|⟨xs,hk⟩⟩|⟨rfl,hk⟩|⟨rfl,S,n,hk⟩
  .obtain⟨its,_,pl,_⟩:=I.list hq;refine⟨pl.isList.typeIs,λa e=>?_⟩;cases e;obtain⟨o,n,e,c,hd,_⟩:=pl;exact⟨o,e,hd⟩
  .refine⟨⟨o,I.kIn p o hk,hc⟩,λa e=>?_⟩;cases e;exact⟨o,I.kIn _ o hk,hd⟩
  .obtain⟨_,its,_,pl⟩:=I.hok p _ hk;refine⟨(kZ.tup pl).typeIs,λa e=>?_⟩;cases e;exact kZ.bare pl
  .have z:∃o,s.heap.get? p=aa o/\o.ExactDict:=by
    rcases hk with ⟨kvs,hk⟩|⟨kvs,hk⟩
    .obtain⟨_,_,_,_,o,_,_,e,ex,_⟩:=I.hok p _ hk;exact⟨o,e,ex⟩
    .obtain⟨_,_,_,_,o,_,_,e,ex,_⟩:=I.hok p _ hk;exact⟨o,e,ex⟩
   obtain⟨o,e,ex⟩:=z;refine⟨⟨o,e,ex.1⟩,λa e2=>?_⟩;cases e2;exact⟨o,e,ex.2.1⟩
  .obtain⟨o,_,_,_,e,ex,_⟩:=I.hok p _ hk;refine⟨⟨o,e,ex.1⟩,λa e2=>?_⟩;cases e2;exact⟨o,e,ex.2.1⟩
 |_=>exact d6 ty
noncomputable def aSi(K:bi)(T:fR)(r:V->ae V->Hp->VK->Prop)(to:TE):TE:=λσ H Q=>to σ H λx H1=>tyV K T x H1/\r x [] H1 Q
noncomputable def tBM(K:bi)(T:fR)(r:V->ae V->Hp->VK->Prop)(to:TE)(t:TA):TE:=λσ H Q=>to σ H λx H1=>tyV K T x H1/\t σ H1 λxs H2=>r x xs H2 Q
variable {o e:Expr} {es:ae Expr} {to:TE} {t:TA} {name:Str} {apos cpos:ck} {T id:fR} {r:V->ae V->Hp->VK->Prop}
theorem UJ(pa:zh T)(slot:lf T name id)(hty:ow (.builtin id)=pure (.type "method_descriptor"))(hm:MtR X id r)(ho:PE X o to)
 (hbase:autoParam (fx o name X.env (eval o X.env)=eval o X.env) Ω)(hline:autoParam ((apos.endLine==cpos.line)=ag) Ω):PE X (.Call (.Attribute o name apos) [] [] cpos) (aSi X.K T r to):=by
 intro Ψ s σ H Q I h;refine wpAny_Call_method0_late hbase hline (thn (ho Ψ s σ H _ I h) λv s1 ⟨x,H1,I1,r1,ty,q1⟩=>?_);obtain⟨h1,h2⟩:=aGy I1 r1 ty;exact⟨T,id,pa,slot,hty,h1,h2,Bv rfl (PySem.evalArgs_none (hm Ψ s1 σ H1 x [] v [] Q I1 r1 .nil q1))⟩
theorem GX(pa:zh T)(slot:lf T name id)(hty:ow (.builtin id)=pure (.type "method_descriptor"))(hm:MtR X id r)(ho:PE X o to)(ha:PA X (e::es) t)
 (hbase:autoParam (fx o name X.env (eval o X.env)=eval o X.env) Ω)
 (hfew:autoParam (zFw X cpos (e::es)) Ω)
 (hline:autoParam ((apos.endLine==cpos.line)=ag) Ω)(hs:autoParam (zSE X e es) Ω)(hplain:autoParam (zSP X cpos es) Ω) :
  PE X (.Call (.Attribute o name apos) (e::es) [] cpos) (tBM X.K T r to t):=by
 intro Ψ s σ H Q I h;refine wpAny_Call_method_late hbase hfew hline rfl (thn (ho Ψ s σ H _ I h) λv s1 ⟨x,H1,I1,r1,ty,q1⟩=>?_);obtain⟨h1,h2⟩:=aGy I1 r1 ty;refine⟨T,id,pa,slot,hty,h1,h2,?_⟩;have hA:=ha cpos Ψ s1 σ H1 _ I1 q1;rw[hs] at hA ⊢;refine Bv (by show(ak||(fF cpos (b5 es X.env)).any (·.1))=ak;rw[hplain]<;>rfl) (Bw ?_);exact thn hA λus s2 ⟨vs,H2,I2,r2,q2⟩=>hm Ψ s2 σ H2 x vs v us Q I2 r1 r2 q2
end
def MtM(X:Cx)(id:fR)(r:V->ae V->Hp->VK->Prop):Prop:=
 ∀(Ψ:ae (al×bn))(s:au)(σ:St)(H:Hp)(x:V)(xs:ae V)(v:am)(us:ae am)(Q:VK),Inv X Ψ σ H s->RelV x v->Vals xs us->r x xs H Q->
  ϑ (ay X.prog X.w) X.A (call (.builtin id) (v::us)) (EP X Ψ σ Q) X.xe s
theorem Vals.one:∀{x:V}{us:ae am},Vals [x] us->∃u,us=[u]/\RelV x u
 |_,_,.cons r .nil=>⟨_,rfl,r⟩
theorem Vals.zero:∀{us:ae am},Vals [] us->us=[]
 |_,.nil=>rfl
theorem Vals.dropLast(h:Vals xs us):Vals xs.dropLast us.dropLast:=by
 induction h with
 |nil=>exact .nil
 |cons r t ih=>
  cases t with
  |nil=>exact .nil
  |cons q t'=>exact .cons r ih
theorem YD(l:ae α):l.eraseIdx (l.length-1)=l.dropLast:=by
 induction l with
 |nil=>rfl
 |cons a r ih=>
  cases r with
  |nil=>rfl
  |cons b r=>
   have e:(a::b::r).length-1=((b::r).length-1)+1:=by
    have h1:(a::b::r).length=r.length+2:=rfl;have h2:(b::r).length=r.length+1:=rfl;lia
   rw[e,List.eraseIdx_cons_succ,ih]
   all_goals rfl
section
variable {X:Cx} {Ψ:ae (al×bn)} {σ:St} {H:Hp} {s:au} {l:al} {xs ys:ae V}
theorem Inv.aQp{its its':ae am}(I:Inv X Ψ σ H s)(hH:H l=aa (.lst xs))
 (e:s.heap.get? l=aa {cls:=.type "list",data:=.seq its.toArray n})(hf:f its.toArray=its'.toArray)(hv:Vals ys its')(hz:ys.length<=bo) :
  Inv X Ψ σ (upd H l (.lst ys)) {s with heap:=s.heap.update l (gx f),toks:=t'}:=by
 have q:=DS e f;rw[hf] at q;refine I.write (by rw[hH];exact trivial) (.inl rfl) (λb' u hb hu=>(mr s.heap (gx f) (Ne.symm hb)).trans hu) ⟨_,q⟩ ?_;exact⟨hz,its',_,hv,q⟩
theorem Inv.aTq(I:Inv X Ψ σ H s)(hv:Vals ys its)(hz:ys.length<=bo) :
  Inv X Ψ σ (upd H s.heap.objs.size (.lst ys)) {s with heap:=s.heap.push {cls:=.type "list",data:=.seq its.toArray},toks:=t'}:=
 I.laid (λ_ _ q=>bX _ q) (bt _) ⟨hz,its,0,hv,dh _ rfl⟩
theorem Inv.fresh(I:Inv X Ψ σ H s):H s.heap.objs.size=aj:=I.hok.fresh (bt _)
theorem Inv.aQq(I:Inv X Ψ σ H s)(hH:H l=aa (.lst xs)):xs.length<=bo/\∃(its:ae am)(n:ah),Vals xs its/\xs.length=its.length/\s.heap.get? l=aa {cls:=.type "list",data:=.seq its.toArray n}:=by
 obtain⟨z,its,n,r,e⟩:=I.hok l _ hH;exact⟨z,its,n,r,r.length,e⟩
theorem aE3(h:n<=bo):ox n=ak:=by
 unfold ox;exact cS 0x1
end
section
variable {X:Cx}
def GZ:V->ae V->Hp->VK->Prop:=λx vs H Q=>∃l xs y,x=.ref l/\vs=[y]/\H l=aa (.lst xs)/\xs.length<bo/\Q .non (upd H l (.lst (xs++[y])))
theorem iH:MtM X "list.append" GZ:=by
 intro Ψ s σ H x vs v us Q I rx rv h;obtain⟨l,xs,y,rfl,rfl,hH,hz,q⟩:=h;cases rx;obtain⟨u,rfl,ru⟩:=rv.one;obtain⟨z,its,n,r,hl,e⟩:=I.aQq hH;refine jS j3 ⟨_,e,rfl⟩ F.entry_list_append (F.args_list_append_2 _ _) (PySem.list_append l its.toArray n u (by rw[b9];lia)) ⟨e,?_⟩;refine⟨.non,_,I.aQp hH e 0x2 (r.append (.cons ru .nil)) ?_,rfl,q⟩;rw[bq,eB];lia
def aSj:V->ae V->Hp->VK->Prop:=λx vs H Q=>∃l xs y,x=.ref l/\vs=[]/\H l=aa (.lst xs)/\xs[xs.length-1]?=aa y/\Q y (upd H l (.lst xs.dropLast))
theorem aA8:MtM X "list.pop" aSj:=by
 intro Ψ s σ H x vs v us Q I rx rv h;obtain⟨l,xs,y,rfl,rfl,hH,hy,q⟩:=h;cases rx;have hus:=rv.zero;subst hus;obtain⟨z,its,n,r,hl,e⟩:=I.aQq hH;obtain⟨u,hu,ru⟩:=r.get hy;have hy':its.toArray[its.toArray.size-1]?=aa u:=by
  show its.toArray[its.length-1]?=aa u;rw[<-zi,<-hl];exact hu
 refine jS wj ⟨_,e,rfl⟩ F.entry_list_pop (F.args_list_pop_1 _) (DT l its.toArray n u hy' (by rw[b9];lia)) ⟨e,?_⟩;refine⟨y,_,I.aQp hH e ?_ r.dropLast ?_,ru,q⟩
 .show its.toArray.eraseIdxIfInBounds (its.toArray.size-1)=its.dropLast.toArray;rw[b9,List.eraseIdxIfInBounds_toArray,YD]
 .rw[List.length_dropLast];lia
end
section
variable {κ:Type} [dP κ]
noncomputable def DR(kvs:ae (κ×V))(k:κ):ar V:=(kvs.find? λkv=>ϒ (kv.1=k)).map (·.2)
noncomputable def putK(kvs:ae (κ×V))(k:κ)(v:V):ae (κ×V):=
 if (kvs.any λkv=>ϒ (kv.1=k))=ag then kvs.map (λkv=>if kv.1=k then (kv.1,v) else kv) else kvs++[(k,v)]
theorem sX{k:κ}(e:p.1=k):DR (p::r) k=aa p.2:=by simp[DR,lg,e]
theorem sY{k:κ}(e:¬p.1=k):DR (p::r) k=DR r k:=by simp[DR,lg,e]
theorem sZ(k:κ):∀kvs:ae (κ×V),(kvs.any λkv=>ϒ (kv.1=k))=(DR kvs k).isSome
 |[]=>rfl
 |p::r=>by
  rw[ka];by_cases e:p.1=k
  .simp only[sX e,bw e,Bool.true_or,Option.isSome_some]
  .rw[sY e,cS e,zj];exact sZ k r
theorem lU(kvs:ae (κ×V))(k:κ)(v:V):(putK kvs k v).length<=kvs.length+1:=by
 unfold putK;split
 .rw[az];lia
 .rw[bq,br,fj];lia
theorem aE4{k:κ}(v:V)(h:DR kvs k=aj):putK kvs k v=kvs++[(k,v)]:=by
 unfold putK;rw[sZ,h];exact ax 0x4
theorem QK.zH(r:QK o u):o.isSome=u.isSome:=by
 cases o with
 |none=>cases u with
  |none=>rfl
  |some _=>exact(show cb from r).elim
 |some _=>cases u with
  |none=>exact(show cb from r).elim
  |some _=>rfl
theorem KV.val(r:KV kvs vs)(k:κ):QK (DR kvs k) (mv vs k):=by
 unfold KV at r;induction r with
 |nil=>exact True.intro
 |@cons p q ps qs h t ih=>
  obtain⟨h1,h2⟩:=h;by_cases e:p.1=k
  .have e':q.1=k:=h1.symm.trans e;have b:mv (q::qs) k=aa q.2:=by simp[mv,lg,e']
   rw[sX e,b];exact h2
  .have e':¬q.1=k:=λz=>e (h1.trans z)
   have b:mv (q::qs) k=mv qs k:=by simp[mv,lg,e']
   rw[sY e,b];exact ih
theorem KV.any(r:KV kvs vs)(k:κ):(kvs.any λkv=>ϒ (kv.1=k))=vs.any λkv=>ϒ (kv.1=k):=by
 unfold KV at r;induction r with
 |nil=>rfl
 |cons h t ih=>rw[ka,ka,ih,h.1]
theorem KV.repl(r:KV kvs vs)(k:κ)(ry:RelV y u) :
  KV (kvs.map λkv=>if kv.1=k then (kv.1,y) else kv) (vs.map λkv=>if kv.1=k then (kv.1,u) else kv):=by
 unfold KV at r ⊢;induction r with
 |nil=>exact .nil
 |@cons p q ps qs h t ih=>
  rw[bd,bd];refine .cons ?_ ih;obtain⟨h1,h2⟩:=h;by_cases e:p.1=k
  .rw[ao e,ao (h1.symm.trans e)];exact⟨h1,ry⟩
  .rw[ax e,ax (λz=>e (h1.trans z))];exact⟨h1,h2⟩
theorem KV.put(r:KV kvs vs)(k:κ)(ry:RelV y u):KV (putK kvs k y) (jn vs k u):=by
 unfold putK jn;rw[r.any k];by_cases e:(vs.any λkv=>ϒ (kv.1=k))=ag
 .rw[ao e,ao e];exact r.repl k ry
 .rw[ax e,ax e];exact Bx r ⟨rfl,ry⟩
theorem KV.length(r:KV kvs vs):kvs.length=vs.length:=jo r
end
theorem KR(r:RelV (kV k) u):(cN P w).is k u=ag:=by
 cases k with
 |inl i=>obtain⟨t,e⟩:=(show ∃t,u=n4 i t from r);subst e;exact QR P w i t
 |inr x=>obtain⟨t,e⟩:=(show ∃t,u=n9 x t from r);subst e;exact QS P w x t
theorem KY:∀{ks:ae Key}{us:ae am},Vals (ks.map kV) us->ItemsAre (cN P w) ks us
 |[],_,r=>by rw[gi] at r;cases r;exact .nil
 |k::ks,_,r=>by
  rw[bd] at r;cases r with
  |cons h t=>exact .cons (KR h) (KY t)
abbrev KT(H:Hp):ae (ae Key×V)->ae (ae Key×al×am)->Prop:=l8 λp q=>p.1=q.1/\H q.2.1=aa (.tup (p.1.map kV))/\RelV p.2 q.2.2
theorem KT.val(r:KT H kvs xs)(k:ae Key):QK (DR kvs k) ((kb xs k).map (·.2)):=by
 induction r with
 |nil=>exact True.intro
 |@cons p q ps qs h t ih=>
  obtain⟨h1,_,h2⟩:=h;by_cases e:p.1=k
  .have e':q.1=k:=h1.symm.trans e;have b:kb (q::qs) k=aa q.2:=by simp[kb,lg,e']
   rw[sX e,b];exact h2
  .have e':¬q.1=k:=λz=>e (h1.trans z)
   have b:kb (q::qs) k=kb qs k:=by simp[kb,lg,e']
   rw[sY e,b];exact ih
theorem KT.repl(r:KT H kvs xs)(k:ae Key)(ry:RelV y u) :
  KT H (kvs.map λkv=>if kv.1=k then (kv.1,y) else kv) (xs.map (putAt k u)):=by
 induction r with
 |nil=>exact .nil
 |@cons p q ps qs h t ih=>
  rw[bd,bd];refine .cons ?_ ih;obtain⟨h1,h2,h3⟩:=h;unfold putAt;by_cases e:p.1=k
  .rw[ao e,ao (h1.symm.trans e)];exact⟨h1,h2,ry⟩
  .rw[ax e,ax (λz=>e (h1.trans z))];exact⟨h1,h2,h3⟩
theorem KT.put(r:KT H kvs xs)(k:ae Key)(hb:H b=aa (.tup (k.map kV)))(ry:RelV y u) :
  KT H (putK kvs k y) (lh xs k b u):=by
 have e:(kvs.any λkv=>ϒ (kv.1=k))=(kb xs k).isSome:=by
  rw[sZ,(r.val k).zH,By]
 unfold putK lh;rw[e];by_cases q:(kb xs k).isSome=ag
 .rw[ao q,ao q];exact r.repl k ry
 .rw[ax q,ax q];exact Bx r ⟨rfl,hb,ry⟩
theorem KT.keeps(r:KT H kvs xs)(ht:∀b ys,H b=aa (.tup ys)->H' b=aa (.tup ys)):KT H' kvs xs:=
 Paired.aQ7 r λ_ _ z=>⟨z.1,ht _ _ z.2.1,z.2.2⟩
section
variable {P:bS} {w:bu} {H:Hp} {h:aI} {a:al}
theorem aE5(ok:HOk P w H h)(e:Rd H a u):gY P w H h a u:=e.ok ok
theorem aE6(ok:HOk P w H h)(e:Rd H a (.dK kvs)):kvs.length<=bo/\(a==gp)=ak/\∃vs,KV kvs vs/\h.DictOf (cN P w) a vs:=
 show gY P w H h a (.dK kvs) from aE5 ok e
theorem YF(ok:HOk P w H h)(e:H a=aa (.dK kvs)):kvs.length<=bo/\(a==gp)=ak/\∃vs,KV kvs vs/\h.DictOf (cN P w) a vs:=aE6 ok (.inl e)
theorem KZ(ok:HOk P w H h)(e:H a=aa (.tup (ks.map kV))):(fT (cN P w)).is h ks a:=by
 obtain⟨_,its,r,o,h1,h2,n,h3⟩:=(show gY P w H h a (.tup (ks.map kV)) from ok a _ e)
 exact⟨o,its.toArray,n,h1,h2,cf (·.1) h3,by simpa using KY r⟩
theorem aE7(ok:HOk P w H h)(e:Rd H a (.dT kvs)):kvs.length<=bo/\(a==gp)=ak/\
  ∃xs,KT H kvs xs/\h.DictOfH (fT (cN P w)) a xs:=by
 obtain⟨z,y,xs,r,o,es,ep,h1,h2,h3,h4,h5⟩:=(show gY P w H h a (.dT kvs) from aE5 ok e)
 refine⟨z,y,xs,r,o,es,ep,h1,h2,h3,h4,λx hx=>?_,h5⟩;have all:∀{l:ae (ae Key×V)}{m:ae (ae Key×al×am)},KT H l m->∀x∈m,(fT (cN P w)).is h x.1 x.2.1:=by
  intro l m q;induction q with
  |nil=>intro x hx;exact nomatch hx
  |@cons p q ps qs hq t ih=>
   intro x hx;rcases cg.mp hx with e|hx
   .subst e;exact KZ ok (by rw[<-hq.1];exact hq.2.1)
   .exact ih x hx
 exact all r x hx
theorem aIm(ok:HOk P w H h)(e:H a=aa (.dT kvs)):kvs.length<=bo/\(a==gp)=ak/\
  ∃xs,KT H kvs xs/\h.DictOfH (fT (cN P w)) a xs:=aE7 ok (.inl e)
end
def aDn(H:Hp)(a:al)(y:V)(r:ar V):Prop:=
 (∃kvs k,Rd H a (.dK kvs)/\y=kV k/\r=DR kvs k)\/∃kvs k b,Rd H a (.dT kvs)/\y=.ref b/\H b=aa (.tup (k.map kV))/\r=DR kvs k
def aGz(H:Hp)(a:al)(y v:V)(H':Hp):Prop:=
 (∃kvs k,H a=aa (.dK kvs)/\y=kV k/\kvs.length<bo/\H'=upd H a (.dK (putK kvs k v)))\/
 ∃kvs k b,H a=aa (.dT kvs)/\y=.ref b/\H b=aa (.tup (k.map kV))/\kvs.length<bo/\H'=upd H a (.dT (putK kvs k v))
theorem aDn.k{k:Key}(e:H a=aa (.dK kvs)):aDn H a (kV k) (DR kvs k):=.inl ⟨kvs,k,.inl e,rfl,rfl⟩
theorem aDn.t{k:ae Key}(e:H a=aa (.dT kvs))(eb:H b=aa (.tup (k.map kV))):aDn H a (.ref b) (DR kvs k):=.inr ⟨kvs,k,b,.inl e,rfl,eb,rfl⟩
theorem aGz.k{k:Key}{v:V}(e:H a=aa (.dK kvs))(hl:kvs.length<bo):aGz H a (kV k) v (upd H a (.dK (putK kvs k v))):=.inl ⟨kvs,k,e,rfl,hl,rfl⟩
theorem aGz.t{H:Hp}{a b:al}{kvs:ae (ae Key×V)}{k:ae Key}{v:V}(e:H a=aa (.dT kvs))(eb:H b=aa (.tup (k.map kV)))(hl:kvs.length<bo) :
  aGz H a (.ref b) v (upd H a (.dT (putK kvs k v))):=.inr ⟨kvs,k,b,e,rfl,eb,hl,rfl⟩
section
variable {X:Cx} {Ψ:ae (al×bn)} {σ:St} {H:Hp} {s:au} {a:al} {y v:V} {u r:am} {o:ar V} {A:b6} {E:am->au->Prop}
theorem Inv.big(I:Inv X Ψ σ H s):gp<s.heap.objs.size:=by
 have h:bj<s.heap.objs.size:=(I.mod.glob.keeps I.bk).lt;exact Nat.lt_trans 0x4 h
theorem aA9(hu:A.units+1<dE)(I:Inv X Ψ σ H s)(g:aDn H a y (aa v))(ry:RelV y u)(h:∀w' s',Inv X Ψ σ H s'->RelV v w'->Q w' s') :
  ϑ (ay X.prog X.w) A (kT (.ref a) u) Q E s:=by
 rcases g with ⟨kvs,k,e,ey,l⟩|⟨kvs,k,b,e,ey,eb,l⟩
 .subst ey;obtain⟨z,hd,vs,rel,dd⟩:=aE6 I.hok e;obtain⟨w',hw,rw'⟩:=QK.some_of (by rw[l];exact rel.val k);exact wpAny_getItem_of (KR ry) dd.mapOf hw (h w' _ (I.tok _) rw')
 .subst ey;cases (show u=du b from ry);obtain⟨z,hd,xs,rel,dd⟩:=aE7 I.hok e;obtain⟨w',hw,rw'⟩:=QK.some_of (by rw[l];exact rel.val k);obtain⟨p,hp,hp2⟩:=i0.mp hw;refine wpAny_getItem_heap (wl hu) (KZ I.hok eb) dd hp ?_;rw[hp2];exact h w' _ (I.tok _) rw'
theorem aTr(hu:A.units+1<dE)(I:Inv X Ψ σ H s)(g:aDn H a y o)(ry:RelV y u)(h:∀s',Inv X Ψ σ H s'->Q (.bool o.isSome) s') :
  ϑ (ay X.prog X.w) A (em .In u (.ref a)) Q E s:=by
 rcases g with ⟨kvs,k,e,ey,l⟩|⟨kvs,k,b,e,ey,eb,l⟩
 .subst ey;obtain⟨z,hd,vs,rel,dd⟩:=aE6 I.hok e;refine wpAny_in_of (KR ry) hd dd.mapOf ?_;rw[<-(rel.val k).zH,<-l];exact h _ (I.tok _)
 .subst ey;cases (show u=du b from ry);obtain⟨z,hd,xs,rel,dd⟩:=aE7 I.hok e;refine wpAny_in_heap (wl hu) (KZ I.hok eb) hd dd ?_;have q:=(rel.val k).zH;rw[By] at q;rw[<-q,<-l];exact h _ (I.tok _)
theorem aAa(I:Inv X Ψ σ H s)(mu:Mut (H a))(hs:eR a s.heap h')(he:∃q,h'.get? a=aa q)(new:gY X.prog X.w (upd H a ob) h' a ob) :
  Inv X Ψ σ (upd H a ob) {s with heap:=h',toks:=t'}:=
 I.write mu (.inl rfl) (λb q hb z=>(hs.2 b hb).trans z) he new
theorem aAb(z:kvs.length<=bo)(hd:(a==gp)=ak)(rel:KV kvs vs)(dd:h'.DictOf (cN P w) a vs) :
  gY P w H' h' a (.dK kvs):=⟨z,hd,vs,rel,dd⟩
theorem aAc(hu:A.units+1<dE)(I:Inv X Ψ σ H s)(g:aGz H a y v H')(ry:RelV y u)(rv:RelV v r)(h:∀s',Inv X Ψ σ H' s'->Q () s') :
  ϑ (ay X.prog X.w) A (setItem (.ref a) u r) Q E s:=by
 rcases g with ⟨kvs,k,e,ey,l,eH⟩|⟨kvs,k,b,e,ey,eb,l,eH⟩
 .subst ey eH;obtain⟨z,hd,vs,rel,dd⟩:=YF I.hok e;have hz:vs.length<=bo:=by rw[<-rel.length];exact z
  have hl:(putK kvs k v).length<=bo:=by have:=lU kvs k v;lia
  refine wpAny_setItem_pairs (KR ry) dd λh' dd' hs=>h _ ?_
  have he:∃q,h'.get? a=aa q:=let ⟨q,_,_,hq,_⟩:=dd';⟨q,hq⟩
  exact aAa I (by rw[e];exact True.intro) hs he (aAb hl hd (rel.put k rv) dd')
 .subst ey eH;cases (show u=du b from ry);obtain⟨z,hd,xs,rel,dd⟩:=aIm I.hok e;have hz:xs.length<=bo:=by rw[<-jo rel];exact z
  have hl:(putK kvs k v).length<=bo:=by have:=lU kvs k v;lia
  refine wpAny_setItem_heap (wl hu) (KZ I.hok eb) dd λh' dd' hs=>h _ ?_
  obtain⟨q,es,ep,hq,h2,h3,h4,_,h5⟩:=dd';refine aAa I (by rw[e];exact True.intro) hs ⟨q,hq⟩ ⟨hl,hd,_,(rel.put k eb rv).keeps λc ys ec=>?_,q,es,ep,hq,h2,h3,h4,h5⟩;rw[aO (n8 ec e (λz=>nomatch z))];exact ec
end
theorem Q0(I:Inv X Ψ σ H s)(g:aDn H a y o):s.TypeIs (.ref a) "dict":=by
 rcases g with ⟨kvs,k,e,_,_⟩|⟨kvs,k,b,e,_,_,_⟩
 .obtain⟨_,_,vs,_,dd⟩:=aE6 I.hok e;exact dd.typeIs
 .obtain⟨_,_,xs,_,dd⟩:=aE7 I.hok e;exact dd.typeIs
theorem aE8(h:aI)(hb:gp<h.objs.size):gY P w H (h.push {cls:=.type "dict",data:=.dict #[]}) h.objs.size (.dK []):=
 ⟨ef _,fA.mpr (Ne.symm (cy hb)),[],.nil,zk h⟩
def UL:TE:=λ_ H Q=>∀p,H p=aj->Q (.ref p) (upd H p (.dK []))
section
variable {X:Cx} {pos:ck}
theorem UT:PE X (.Dict [] [] pos) UL:=λΨ s σ H Q I h=>
 wpAny_Dict_empty ⟨.ref s.heap.objs.size,_,I.laid (λ_ _ q=>bX _ q) (bt _) (aE8 s.heap I.big),rfl,h _ (I.hok.fresh (bt _))⟩
end
def gD(kvs more:ae (Key×V)):ae (Key×V):=more.foldl (λacc kv=>putK acc kv.1 kv.2) kvs
theorem KV.merge:∀{more:ae (Key×V)}{rs:ae (Key×am)}{kvs:ae (Key×V)}{vs:ae (Key×am)},KV more rs->KV kvs vs->KV (gD kvs more) (li vs rs):=by
 intro more rs kvs vs r;unfold KV at r;induction r generalizing kvs vs with
 |nil=>intro q;exact q
 |@cons p q ps qs h t ih=>
  intro r0;have e:KV (putK kvs p.1 p.2) (jn vs q.1 q.2):=by
   have:=r0.put p.1 h.2;rw[<-h.1];exact this
  exact ih e
theorem lV:∀(more kvs:ae (Key×V)),(gD kvs more).length<=kvs.length+more.length
 |[],kvs=>by show kvs.length<=kvs.length+0;lia
 |p::r,kvs=>by
  have h1:=lV r (putK kvs p.1 p.2);have h2:=lU kvs p.1 p.2;show(gD (putK kvs p.1 p.2) r).length<=_;rw[br];lia
end L2
namespace Att
open PySem PySem.W PySem.Calls PyProof.Rows
theorem zJ:∀(ns:ae ai)(vs:ae am),WellAll P h vs (ns.map Bz)->oz vs ns:=by
 intro ns;induction ns with
 |nil=>
  intro vs w;rw[gi] at w;cases w;exact .nil
 |cons n ns ih=>
  intro vs w;rw[bd] at w;cases w with
  |cons a b=>
   cases a;exact .cons _ _ (ih _ b)
theorem aAd{l:OpenLaw}(hn:l.most=aa n)
 (hpre:l.row.toRowW.claim.pre args=ag)(hwl:WellAll P h vals args) :
  ∃a vs ns,vals=[du a]/\args=[WData.list (ns.map Bz)]/\h.get? a=aa {cls:=.type "list",data:=.seq vs.toArray}/\oz vs ns/\ns.length<=n:=by
 have hsh:WShape.hasAll [] args [.list .int]=ag:=(pre_splitW hpre).1;have hc:l.pre.holds [] {args:=args}=ag:=(pre_splitW hpre).2;obtain⟨d,r,rfl,h1,h2⟩:=hasAllW_cons hsh;obtain rfl:=hasAllW_nil h2;obtain⟨xs,rfl,h3⟩:=hasW_list h1;obtain⟨ns,rfl⟩:=items_int h3;have hlen:ns.length<=n:=by
  unfold OpenLaw.pre at hc;have h4:(WTm.not (.lt (.lit (.int (n:ai))) (.len (.arg 0)))).holds [] {args:=[.list (ns.map .int)]}=ag:=by
   have h4:=(holds_andW hc).1;rw[hn] at h4;exact h4
  have h5:=condW_of h4 (w_not (w_lt w_lit (w_len_list (w_arg rfl))));rw[az] at h5;refine Nat.le_of_not_lt λq=>?_
  have q':(n:ai)<((ns.length:ah):ai):=by lia
  first
   | (rw[bw q'] at h5;exact aT h5 0x4)
   | (simp at h5;lia)
 cases hwl with
 |cons w1 w2=>
  cases w2;cases w1 with
  |list ho hall=>exact⟨_,_,ns,rfl,rfl,ho,zJ ns _ hall,hlen⟩
theorem aAe(l:OpenLaw)(args:ae WData):l.row.toRowW.claim.post args (.bool ag) args=ag:=
 postW_of
  (show BA [] (.bool ag) .bool=ag by first|rfl|decide|simp[BA,WShape.arms,WShape.armsAll])
  (show(WTm.eq .res (.lit (.bool ag))).value [] {args:=args,res:=aa (.bool ag),after:=args}=aa (.bool (ag==ag)) from w_eq_bool (w_res rfl) w_lit) rfl
theorem Q3{l:OpenLaw}
 (hn:l.most=aa n)(hdf:d.params.defaults=[])
 (call:∀(w:bu) (s₀ s₁:au) (mg mb:Str->ar am) (fa:al) (o:bn) (pm cd doc:am) (a:al) (vs:ae am) (ns:ae ai),
   Ground q loose [] XP w s₀ mg mb s₁.heap->YP w s₁.heap->
   s₁.heap.get? fa=aa o->o.data=.func (docDef d.name d.params d.body d.scope pm cd doc)->s₁.heap.CodeRec cd d.name->mg d.name=aa (.ref fa)->
   s₁.heap.get? a=aa {cls:=.type "list",data:=.seq vs.toArray}->oz vs ns->ns.length<=n->s₁.gens=#[]->
   codeAny (ay l.prog w) lj (.call (.ref fa) ⟨[.ref a],[]⟩) (λr s'=>r=.ok (.ret (.bool ag))/\OldK s₁.heap s'.heap/\s'.os=s₁.os/\iE s'.gens) s₁) :
  WalkO q loose XP YP l.row.toRowW d [] (λf vs=>zn f vs):=by
 intro w s₀ s₁ mg mb G Y fa o pm cd doc dV kV ho hd hcd hD hmg hg args vals as hpre hlay hrd hwl hlo;obtain rfl:dV=.none:=Dflts.none hD hdf;obtain rfl:kV=.none:=Dflts.noKw hD;obtain⟨a,vs,ns,rfl,rfl,hobj,hints,hlen⟩:=aAd hn hpre hwl;refine enter_call (mf (call w s₀ s₁ mg mb fa o pm cd doc a vs ns G Y ho (fd_plain hd) hcd hmg hobj hints hlen hg) λr s' hq=>?_);obtain⟨rfl,h2,h3,h4⟩:=hq;exact⟨.inl ⟨.bool ag,.bool ag,[],rfl,λ_=>rfl,.bool ag,aAe l _,λ_=>⟨DU,λ_ hm=>(nomatch hm)⟩⟩,h2,h3,h4⟩
end Att
namespace L2
open PySem PySem.Spec PyProof.Rows
theorem m7:∀{vs:ae am}{ns:ae ai},oz vs ns->Vals (ns.map V.int) vs
 |_,_,.nil=>.nil
 |_,_,.cons n t h=>.cons ⟨t,rfl⟩ (m7 h)
def Only(H:Hp):Prop:=∀b,H b=aj\/∃o xs,H b=aa (.frz o (.lst xs))
theorem aE9{K:bi}{mg mb:Str->ar am}{CX:CXT}{k:ah}{fa a:al}{fd:d4}{x:Str}{sp:Sp}{s₁:au}{vs:ae am}{ns:ae ai}
 (KX:K.In s₁.heap)(hns:s₁.heap.Ns bj mg)(hb:s₁.heap.Ns yd mb)(hbb:∀x:Str,x ≠ "__name__"->mb x=dS x)(hlim:s₁.heap.NoLimit)(hg:s₁.gens=#[])
 (ha:s₁.heap.get? a=aa {cls:=.type "list",data:=.seq vs.toArray})(hi:oz vs ns)(hl:ns.length<=bo)(hr:mW k lj)
 (F:∀base:aI,K.In base->base.Ns bj mg->mO P w K mg base CX k fa fd [x] sp)(hbind:∀(s:au) (u:am),kM s fd ⟨[u],[]⟩ [(x,u)])
 (hsp:∀H:Hp,Only H->SqL K H a (ns.map V.int)->sp [.ref a] H (λv _=>v=.bl ag) λ_ _ _=>cb)
 (hCX:∀H e s',CX [] H s₁ (λ_ _ _=>cb) e s'->cb) :
  codeAny (ay P w) lj (.call (.ref fa) ⟨[.ref a],[]⟩) (λr s'=>r=.ok (.ret (.bool ag))/\OldK s₁.heap s'.heap/\s'.os=s₁.os/\iE s'.gens) s₁:=by
 have rv:=m7 hi;have lenV:=hi.length
 -- from an abstract heap in which nothing but the script may be tracked
 have core:∀H:Hp,Only H->SqL K H a (ns.map V.int)->HOk P w H s₁.heap->(∀b,H b≠aj->b=a)->(H a≠aj->K.lookup a=aj)->
   codeAny (ay P w) lj (.call (.ref fa) ⟨[.ref a],[]⟩) (λr s'=>r=.ok (.ret (.bool ag))/\OldK s₁.heap s'.heap/\s'.os=s₁.os/\iE s'.gens) s₁:=by
  intro H hO hS hok hA hK;have base_of:∀{b:al}{o:bn},s₁.heap.get? b=aa o->H b=aj->(aDr s₁.heap H).get? b=aa o:=λe n=>aDs e n
  have noA:∀{b:al}{o:bn}{es:bp DictEntry}{ep:ah},s₁.heap.get? b=aa o->o.data=.dict es ep->H b=aj:=λ{b o es ep} e d=>by
   cases q:H b with
   |none=>rfl
   |some u=>
    have e':b=a:=hA b (by rw[q];simp);subst e';rw[ha] at e;cases e;have d':AW vs.toArray _=Data.dict es ep:=d;cases d'
  have nsK:∀{b:al}{m:Str->ar am},s₁.heap.Ns b m->(aDr s₁.heap H).Ns b m:=λ{b m} ⟨o,es,ep,e,d,r⟩=>⟨o,es,ep,base_of e (noA e d),d,r⟩
  have hKb:K.In (aDr s₁.heap H):=λb o e=>base_of (KX b o e) (by
   cases q:H b with
   |none=>rfl
   |some u=>
    have e':b=a:=hA b (by rw[q];simp);subst e';rw[hK (by rw[q];simp)] at e;cases e)
  have hM:Mod K mg (aDr s₁.heap H):=⟨hKb,nsK hns,⟨mb,nsK hb,hbb⟩,let ⟨mc,h1,h2⟩:=hlim;⟨mc,nsK h1,h2⟩⟩
  have e0:aIc P w K mg (aDr s₁.heap H) lj [] s₁ H:=⟨rfl,hM,λb o e=>aI4 e,yr (ZX _ _),trivial,λb hb=>aT (show b∈([]:ae al) from hb) 0x2,hok,.of_eq hg⟩
  refine mf ((F _ hKb (nsK hns)).run lj [] s₁ H ⟨[.ref a],[]⟩ [.ref a] [.ref a] _ _ hr e0 (hbind s₁ (.ref a)) (.cons rfl .nil) (hsp H hO hS)) λr s' h=>?_
  cases r with
  |error e=>exact(hCX H e s' h).elim
  |ok fl=>
   cases fl with
   |next=>exact d6 h
   |brk=>exact d6 h
   |cont=>exact d6 h
   |ret u=>
    obtain⟨v,H',os,bare,un,hok',r',q⟩:=h;have q':v=.bl ag:=q;subst q';obtain rfl:u=xL ag:=r';refine⟨rfl,OldK.of_keep λb o e=>?_,os,bare⟩;cases q:H b with
    |none=>exact un.keep b o e q (by intro z;exact aT (show b∈([]:ae al) from z) 0x2) 0x2
    |some u=>
     rcases hO b with z|⟨ob,xs,z⟩
     .rw[q] at z;cases z
     .have z2:=un.frzs b ob _ z;obtain⟨e1,_⟩:=hok b _ z;obtain⟨e2,_⟩:=hok' b _ z2;rw[e] at e1;cases e1;exact e2
 cases hk:K.lookup a with
 |some o=>
  -- the script is one of the module's own objects
  have e:=KX a o hk;rw[ha] at e;cases e;refine core (λ_=>aj) (λ_=>.inl rfl) (.inr ⟨_,vs.toArray,_,hk,rfl,rfl,rfl,by rw[b9,lenV];exact hl,by simpa using rv⟩) (λb u z=>by have z':(aj:ar HO)=aa u:=z;cases z') (λb z=>aT rfl z) λz=>aT rfl z
 |none=>
  refine core (λb=>if b=a then aa (.frz {cls:=.type "list",data:=.seq vs.toArray} (.lst (ns.map V.int))) else aj) (λb=>?_) (.inl (.inr ⟨{cls:=.type "list",data:=.seq vs.toArray},ao rfl⟩)) (λb u z=>?_) (λb z=>?_) λ_=>hk
  .by_cases hb:b=a
   .exact .inr ⟨_,_,ao hb⟩
   .exact .inl (ax hb)
  .by_cases hb:b=a
   .have z':=(ao hb).symm.trans z;cases z';subst hb;exact⟨ha,by rw[az];exact hl,vs,_,rv,ha⟩
   .have z':=(ax hb).symm.trans z;cases z'
  .by_cases hb:b=a
   .exact hb
   .exact aT (ax hb) z
theorem aIn{l:PySem.W.OpenLaw}{YP:bu->aI->Prop}{d:DefRec}{K:Params->bi}{CX:bu->CXT}{sp:bu->Sp}{x:Str}
 (hn:l.most=aa n)(hn2:n<=bo)(hdf:d.params.defaults=[])(hr:mW k lj)
 (hY:∀(w:bu) (h:aI),YP w h->(K w.params).In h)
 (F:∀(w:bu) (mg:Str->ar am) (fa:al) (h:aI),(K w.params).In h->h.Ns bj mg->mg d.name=aa (.ref fa)->
   ∃fd:d4,(∀(s:au) (u:am),kM s fd ⟨[u],[]⟩ [(x,u)])/\
    ∀base:aI,(K w.params).In base->base.Ns bj mg->mO l.prog w (K w.params) mg base (CX w) k fa fd [x] (sp w))
 (hsp:∀(w:bu) (H:Hp) (a:al) (ns:ae ai),ns.length<=n->Only H->SqL (K w.params) H a (ns.map V.int)->sp w [.ref a] H (λv _=>v=.bl ag) λ_ _ _=>cb)
 (hCX:∀(w:bu) (H:Hp) (s:au) (e:am) (s':au),CX w [] H s (λ_ _ _=>cb) e s'->cb) :
  PySem.W.WalkO q loose XP YP l.row.toRowW d [] (λf vs=>zn f vs):=by
 refine Att.Q3 hn hdf λw s₀ s₁ mg mb fa o pm cd doc a vs ns G Y ho hd hcd hmg hobj hints hlen hg=>?_
 have KX:=hY w _ Y;obtain⟨fd,hb,hF⟩:=F w mg fa _ KX G.T.g hmg;exact aE9 KX G.T.g G.T.b G.T.builtins G.T.nolimit hg hobj hints (dj hlen hn2) hr hF hb (λH hO hS=>hsp w H a ns hlen hO hS) λH e s'=>hCX w H s₁ e s'
noncomputable def fP(s:bz):Arguments:=match s with
 |.FunctionDef _ a _ _ _ _ _ _ _ _=>a
 |_=>{posonlyargs:=[],args:=[],vararg:=aj,kwonlyargs:=[],kw_defaults:=[],kwarg:=aj,defaults:=[]}
noncomputable def cW(s:bz):ae bz:=match s with
 |.FunctionDef _ _ b _ _ _ _ _ _ _=>b
 |_=>[]
noncomputable def aL(s:bz):ft:=match s with
 |.FunctionDef _ _ _ _ _ _ sc _ _ _=>sc
 |_=>{kind:=.function,names:=[],isGenerator:=ak,isCoroutine:=ak}
noncomputable abbrev CX0:CXT:=λ_ _ _ _ _ _=>cb
noncomputable abbrev E0:XK:=λ_ _ _=>cb
theorem aEa:zE CX0 X E0:=λ_ _ _ _ _ _ _ h=>h.elim
structure Fun(K:bi)(x qual:Str)(st:bz)(f:al)(fd:d4):Prop where
 ex:∃(oc:am)(od:ar al)(kV doc pm:am)(an:ar al)(cdv ct:am)(osl:bp (ar am)),
  fd=kQ x qual (fP st) (cW st) (aL st) .none kV doc pm an cdv ct/\K.lookup f=aa ⟨oc,od,.func fd,osl⟩/\wa K cdv qual=ag
 kp:gw K (.ref f)=ag
section
variable {P:bS} {w:bu} {K:bi} {mg:Str->ar am} {base:aI}
theorem Fun.ok{st:bz}{fd:d4}{N ps:ae Str}{k:ah}{sp:Sp}(F:Fun K x qual st f fd)(S:cA N ps (aL st))(len:∀vs H Q E,sp vs H Q E->vs.length=ps.length)
 (hbody:∀(cdv:am) (A:b6) (outer:ae c_) (s:au) (H:Hp) (vs:ae V) (Q:VK) (E:XK),mW k (A.deeper (eW qual (aL st) s.heap.objs.size f cdv))->sp vs H Q E->
   ∃t,PSs (J0 CX0 P w K mg base N qual (aL st) f cdv A outer s H E).nox (cW st) t/\t {nx:=λ_ H'=>Q .non H',rt:=Q} (start N vs) H):mO P w K mg base CX0 (k+1) f fd ps sp:=by
 obtain⟨oc,od,kV,doc,pm,an,cdv,ct,osl,rfl,lk,hcd⟩:=F.ex;refine aIf lk hcd S len λA outer s H vs Q E hr hsp=>?_
 obtain⟨t,h,q⟩:=hbody cdv A outer s H vs Q E hr hsp;exact⟨t,h.nox,q⟩
theorem Fun.binds{st:bz}(F:Fun K x qual st f fd)
 (h:∀(kV doc pm:am) (an:ar al) (cdv ct:am) (us:ae am),us.length=ps.length->bindArgs (kQ x qual (fP st) (cW st) (aL st) .none kV doc pm an cdv ct) ⟨us,[]⟩=pure (ps.zip us)):Binds K fd ps []:=by
 obtain⟨oc,od,kV,doc,pm,an,cdv,ct,osl,rfl,lk,hcd⟩:=F.ex;exact .all (h kV doc pm an cdv ct)
theorem jB{st:bz}{oc:am}{od an:ar al}{osl:bp (ar am)}{kV doc pm cdv ct:am}(l:K.lookup f=aa ⟨oc,od,.func (kQ x qual (fP st) (cW st) (aL st) .none kV doc pm an cdv ct),osl⟩)
 (c:wa K cdv qual=ag)(k:gw K (.ref f)=ag):Fun K x qual st f (kQ x qual (fP st) (cW st) (aL st) .none kV doc pm an cdv ct):=⟨⟨oc,od,kV,doc,pm,an,cdv,ct,osl,rfl,l,c⟩,k⟩
end
def bW(H H':Hp):Prop:=∀b o,H b=aa o->H' b=aa o
theorem bW.refl(H:Hp):bW H H:=λ_ _ h=>h
theorem bW.trans(a:bW H H1)(b:bW H1 H2):bW H H2:=λc o h=>b c o (a c o h)
theorem bW.free(e:bW H H')(h:H' l=aj):H l=aj:=by
 cases q:H l with
 |none=>rfl
 |some o=>
  rw[e l o q] at h;cases h
section
variable {κ:Type} [dP κ]
theorem aEb{kvs:ae (κ×V)}{k:κ}(h:DR kvs k=aj):¬k∈kvs.map (·.1):=by
 intro m;obtain⟨p,hp,e⟩:=cK.mp m;have q:(kvs.any λkv=>ϒ (kv.1=k))=ag:=List.any_eq_true.mpr ⟨p,hp,bw e⟩;rw[sZ,h] at q;exact aT q 0x2
theorem aAf:∀{l:ae κ}{k:κ},l.Nodup->¬k∈l->(l++[k]).Nodup
 |[],k,_,_=>by simp
 |a::r,k,h,hk=>by
  obtain⟨h1,h2⟩:=fy.mp h;show(a::(r++[k])).Nodup;refine fy.mpr ⟨λm=>?_,aAf h2 λm=>hk (cg.mpr (Or.inr m))⟩;rcases eP.mp m with q|q
  .exact h1 q
  .exact hk (cg.mpr (gz (ll.mp q).symm))
theorem aIo{kvs:ae (κ×V)}{k:κ}(v:V)(hn:(kvs.map (·.1)).Nodup)(h:DR kvs k=aj):((putK kvs k v).map (·.1)).Nodup:=by
 rw[aE4 v h,cw];exact aAf hn (aEb h)
end
end L2
namespace Mi
open PySem
inductive D where
 |uD|non|bl (b:aw)|int (i:ai)|str (x:Str)
 |tup (xs:ae D)|lst (xs:ae D)|dct (kvs:ae (D×D))|scr (xs:ae D)|cel (a:ah) (xs:ae D)|exc (c:Str) (fs:ae (Str×Str))|ins (c:Str) (fs:ae (Str×D))
 deriving Inhabited
mutual
noncomputable def D.pure:D->aw
 |.tup xs=>D.aK xs
 |.lst _=>ak
 |.dct _=>ak
 |.uD=>ak
 |.scr xs=>D.aK xs
 |.cel _ _=>ak
 |.exc _ _=>ak
 |.ins _ _=>ak
 |_=>ag
noncomputable def D.aK:ae D->aw
 |[]=>ag
 |x::xs=>x.pure&&D.aK xs
end
mutual
noncomputable def eqD:D->D->aw
 |.non,.non=>ag
 |.bl a,.bl b=>a==b
 |.int a,.int b=>a==b
 |.bl a,.int b=>(if a then (1:ai) else 0)==b
 |.int a,.bl b=>a==(if b then (1:ai) else 0)
 |.str a,.str b=>a==b
 |.tup xs,.tup ys=>zK xs ys
 |.lst xs,.lst ys=>zK xs ys
 |_,_=>ak
noncomputable def zK:ae D->ae D->aw
 |[],[]=>ag
 |x::xs,y::ys=>eqD x y&&zK xs ys
 |_,_=>ak
end
theorem aMg(a b:ai):eqD (.int a) (.int b)=(a==b):=id rfl
theorem aMh(a b:Str):eqD (.str a) (.str b)=(a==b):=id rfl
theorem aMi(a:ai)(b:Str):eqD (.int a) (.str b)=ak:=id rfl
theorem aMj(a:Str)(b:ai):eqD (.str a) (.int b)=ak:=id rfl
theorem aMk(a b:ae D):eqD (.tup a) (.tup b)=zK a b:=id rfl
mutual
noncomputable def D.jC:ah->D->aw
 |n+1,.tup xs=>D.cC n xs
 |n+1,.lst xs=>D.cC n xs
 |0,.tup _=>ak
 |0,.lst _=>ak
 |_,.dct _=>ak
 |_,.uD=>ak
 |_,.scr _=>ak
 |_,.cel _ _=>ak
 |_,.exc _ _=>ak
 |_,.ins _ _=>ak
 |_,.non=>ak
 |_,.bl _=>ak
 |_,_=>ag
noncomputable def D.cC:ah->ae D->aw
 |_,[]=>ag
 |n,x::xs=>D.jC n x&&D.cC n xs
end
inductive aAg where|lt|le|gt|ge
 deriving dP
noncomputable def aAg.int:aAg->ai->ai->aw
 |.lt,a,b=>ϒ (a<b)|.le,a,b=>ϒ (a<=b)|.gt,a,b=>ϒ (b<a)|.ge,a,b=>ϒ (b<=a)
noncomputable def aAg.nat:aAg->ah->ah->aw
 |.lt,a,b=>ϒ (a<b)|.le,a,b=>ϒ (a<=b)|.gt,a,b=>ϒ (b<a)|.ge,a,b=>ϒ (b<=a)
noncomputable def aEc(a b:Str):aw:=ϒ (a.cps.toList<b.cps.toList)
def aAg.str:aAg->Str->Str->aw
 |.lt,a,b=>aEc a b|.le,a,b=>!aEc b a|.gt,a,b=>aEc b a|.ge,a,b=>!aEc a b
mutual
noncomputable def aSk(o:aAg):D->D->ar aw
 |.int a,.int b=>aa (o.int a b)
 |.str a,.str b=>aa (o.str a b)
 |.tup xs,.tup ys=>aMl o xs ys
 |_,_=>aj
noncomputable def aMl(o:aAg):ae D->ae D->ar aw
 |[],ys=>aa (o.nat 0 ys.length)
 |x::xs,[]=>aa (o.nat (x::xs).length 0)
 |x::xs,y::ys=>if eqD x y then aMl o xs ys else aSk o x y
end
inductive Res(α:Type) where
 |ok (a:α)|err (c:Str) (as:ae D)|bad
noncomputable def Res.bind{α β:Type}:Res α->(α->Res β)->Res β
 |.ok a,f=>f a
 |.err c as,_=>.err c as
 |.bad,_=>.bad
noncomputable instance:Monad Res where
 pure:=.ok
 bind:=Res.bind
@[simp] theorem Res.aP(a:α)(f:α->Res β):((Res.ok a) >>= f)=f a:=rfl
@[simp] theorem Res.aPz(c:Str)(as:ae D)(f:α->Res β):((Res.err c as:Res α) >>= f)=.err c as:=rfl
@[simp] theorem Res.aQ0(f:α->Res β):((Res.bad:Res α) >>= f)=.bad:=rfl
@[simp] theorem Res.pure_eq(a:α):(pure a:Res α)=.ok a:=rfl
theorem Res.aIp{f:α->Res β}(h:(m >>= f)=.ok b):∃a,m=.ok a/\f a=.ok b:=by
 cases m with
 |ok a=>exact⟨a,rfl,h⟩
 |err c as=>cases h
 |bad=>cases h
theorem bx{P:Prop}(h:(Res.bad:Res α)=.ok d):P:=by cases h
theorem fx0{P:Prop}(h:ak=ag):P:=by cases h
noncomputable def Res.ofOpt{α:Type}:ar α->Res α
 |some a=>.ok a
 |none=>.bad
@[simp] theorem Res.aLl(a:α):Res.ofOpt (aa a)=.ok a:=rfl
theorem Res.lW(h:Res.ofOpt o=.ok a):o=aa a:=by
 cases o with
 |none=>cases h
 |some b=>cases h;rfl
noncomputable def lim:ah:=1000000
inductive Bop where|add|sub|mul|fdiv|mod|pow
 deriving dP
inductive Cop where|eq|ne|ord (o:aAg)|isin|notin|isN|notN
 deriving dP
noncomputable def iI(i:ai):aw:=ϒ (-(2 ^ 64)<i)&&ϒ (i<2 ^ 64)
def bJ:Bop->D->D->Res D
 |.add,.int a,.int b=>.ok (.int (a+b))
 |.sub,.int a,.int b=>.ok (.int (a-b))
 |.mul,.int a,.int b=>if iI a||iI b then .ok (.int (a*b)) else .bad
 |.fdiv,.int a,.int b=>if ϒ (0<b)&&ϒ (b<1073741824) then .ok (.int (a / b)) else .bad
 |.mod,.int a,.int b=>if ϒ (0<b) then .ok (.int (a % b)) else .bad
 |.pow,.int a,.int b=>if ϒ (0<=b)&&ϒ (b<=1000000)&&ϒ (a.natAbs<2 ^ 64) then .ok (.int (a ^ b.toNat)) else .bad
 |.add,.str a,.str b=>if ϒ (a.length+b.length<=lim) then .ok (.str (a++b)) else .bad
 |.add,.lst a,.lst b=>if ϒ (a.length+b.length<=lim)&&D.aK a&&D.aK b then .ok (.lst (a++b)) else .bad
 |_,_,_=>.bad
def aSl:D->Res aw
 |.non=>.ok ak
 |.bl b=>.ok b
 |.int i=>.ok (i !=0)
 |.str x=>if ϒ (x.length<=lim) then .ok ((x.length:ai)!=0) else .bad
 |.tup xs=>.ok (!xs.isEmpty)
 |.lst xs=>.ok (!xs.isEmpty)
 |.dct kvs=>.ok (!kvs.isEmpty)
 |.uD=>.bad
 |.cel _ _=>.bad
 |.exc _ _=>.bad
 |.ins _ _=>.bad
 |.scr xs=>.ok (!xs.isEmpty)
noncomputable def gZ:D->aw
 |.int _=>ag
 |.str _=>ag
 |_=>ak
def keyOk:D->aw
 |.int _=>ag
 |.str _=>ag
 |.tup xs=>xs.all gZ
 |_=>ak
noncomputable def isTup:D->aw
 |.tup _=>ag
 |_=>ak
def cO:ae (D×D)->D->ar D
 |[],_=>aj
 | (k,v)::r,q=>if eqD k q then aa v else cO r q
def putD:ae (D×D)->D->D->ae (D×D)
 |[],q,w=>[(q,w)]
 | (k,v)::r,q,w=>if eqD k q then (k,w)::r else (k,v)::putD r q w
def yJ(kvs:ae (D×D))(k:D):aw:=keyOk k&&kvs.all (λp=>isTup p.1==isTup k)
noncomputable def bB:ah:=12
def eG:Cop->D->D->Res D
 |.eq,a,b=>if a.jC bB&&b.jC bB then .ok (.bl (eqD a b)) else .bad
 |.ne,a,b=>if a.jC bB&&b.jC bB then .ok (.bl (!eqD a b)) else .bad
 |.ord o,a,b=>if a.jC bB&&b.jC bB then (match aSk o a b with|some k=>.ok (.bl k)|none=>.bad) else .bad
 |.isin,a,.tup ys=>if a.jC bB&&D.cC bB ys then .ok (.bl (ys.any λy=>eqD y a)) else .bad
 |.isin,a,.lst ys=>if a.jC bB&&D.cC bB ys then .ok (.bl (ys.any λy=>eqD y a)) else .bad
 |.isin,a,.dct kvs=>if yJ kvs a then .ok (.bl (cO kvs a).isSome) else .bad
 |.notin,a,.tup ys=>if a.jC bB&&D.cC bB ys then .ok (.bl (!(ys.any λy=>eqD y a))) else .bad
 |.notin,a,.lst ys=>if a.jC bB&&D.cC bB ys then .ok (.bl (!(ys.any λy=>eqD y a))) else .bad
 |.notin,a,.dct kvs=>if yJ kvs a then .ok (.bl (!(cO kvs a).isSome)) else .bad
 |.isN,.scr _,.non=>.bad
 |.notN,.scr _,.non=>.bad
 |.isN,.cel _ _,.non=>.bad
 |.notN,.cel _ _,.non=>.bad
 |.isN,.non,.non=>.ok (.bl ag)
 |.isN,a,.non=>.ok (.bl ak)
 |.notN,.non,.non=>.ok (.bl ak)
 |.notN,a,.non=>.ok (.bl ag)
 |_,_,_=>.bad
noncomputable def ixD(n:ah)(i:ai):ar ah:=if 0<=i then (if i<n then aa i.toNat else aj) else if -(n:ai)<=i then aa (i+n).toNat else aj
def getD(d i:D):Res D:=
 match d,i with
 |.tup xs,.int i=>Res.ofOpt ((ixD xs.length i).bind λj=>xs[j]?)
 |.lst xs,.int i=>Res.ofOpt ((ixD xs.length i).bind λj=>xs[j]?)
 |.scr xs,.int i=>Res.ofOpt ((ixD xs.length i).bind λj=>xs[j]?)
 |.cel _ xs,.int i=>Res.ofOpt ((ixD xs.length i).bind λj=>xs[j]?)
 |.str x,.int i=>if ϒ (x.length<=lim) then Res.ofOpt (((ixD x.cps.toList.length i).bind λj=>x.cps.toList[j]?).map λc=>D.str ⟨#[c]⟩) else .bad
 |.dct kvs,k=>if keyOk k then Res.ofOpt (cO kvs k) else .bad
 |_,_=>.bad
noncomputable def aH0(n d:ah):ar ai->ah
 |none=>d
 |some v=>if v<0 then (max (v+(n:ai)) 0).toNat else (min v (n:ai)).toNat
def cutD{α:Type}(xs:ae α)(lo hi:ar ai):ae α:=(xs.drop (aH0 xs.length 0 lo)).take (aH0 xs.length xs.length hi-aH0 xs.length 0 lo)
inductive Ty where|int|str|bool|list|tuple|dict
 deriving dP
noncomputable def aQr:Ty->D->Res aw
 |_,.uD=>.bad
 |_,.scr _=>.bad
 |_,.cel _ _=>.bad
 |_,.exc _ _=>.bad
 |_,.ins _ _=>.bad
 |.int,.int _=>.ok ag
 |.int,.bl _=>.ok ag
 |.bool,.bl _=>.ok ag
 |.str,.str _=>.ok ag
 |.tuple,.tup _=>.ok ag
 |.list,.lst _=>.ok ag
 |.dict,.dct _=>.ok ag
 |_,_=>.ok ak
noncomputable def oO(i:ai):aw:=ϒ (-(2 ^ 62)<=i)&&ϒ (i<2 ^ 62)
noncomputable def asB:D->Res aw
 |.bl b=>.ok b
 |_=>.bad
noncomputable def asI:D->Res ai
 |.int i=>.ok i
 |_=>.bad
inductive Fl where
 |nx (ρ:ae D)|rt (d:D)|bk (ρ:ae D)|ct (ρ:ae D)
noncomputable def aTs:Fl->Res D
 |.rt d=>.ok d
 |.nx _=>.ok .non
 |_=>.bad
noncomputable abbrev FE:=ae D->Res D
noncomputable abbrev FT:=ae D->Res aw
noncomputable abbrev FA:=ae D->Res (ae D)
noncomputable def cD(i:ah):FE:=λρ=>match ρ.getD i .uD with|.uD=>.bad|d=>.ok d
noncomputable def bC(d:D):FE:=λ_=>.ok d
abbrev fH:FE:= cD 2
abbrev iJ:FE:= cD 0
abbrev fK:FE:= cD 1
abbrev eF:FE:= cD 3
abbrev gU:FE:= cD 4
abbrev t_:FE:= cD 6
abbrev oR:FE:= cD 7
abbrev jY:FE:= cD 5
abbrev oU:FE:= cD 10
abbrev jL:FE:= cD 11
abbrev yK:FE:= cD 8
abbrev kE:FE:= cD 12
abbrev oV:FE:= cD 13
abbrev jM:FE:= cD 14
abbrev mQ:FE:= cD 9
abbrev BZ:FE:= cD 17
abbrev Q4:FE:= cD 15
abbrev K1:FE:= cD 16
abbrev zL:FE:= cD 23
abbrev cT:FE:= bC (.int 0)
abbrev jD:FE:= bC (.int 2)
abbrev dR:FE:= bC (.int 1)
abbrev kW:FE:= bC (.int 3)
abbrev yD:FE:= bC (.int 26)
abbrev Q5:FE:= bC (.int 4)
abbrev aIq:FE:= bC (.int 6)
abbrev aLm:FE:= bC (.int 5)
abbrev aMm:FE:= bC (.int 7)
abbrev aLn:FE:= bC (.int 9)
abbrev aIr:FE:= bC (.int 18)
abbrev aMn:FE:= bC (.int 8)
abbrev YG:FE:= bC (.int 40)
abbrev aIs:FE:= bC (.int 12)
abbrev K3:FE:= bC (.int 120)
noncomputable def b2(f:D->D->Res D)(a b:FE):FE:=λρ=>do let x <- a ρ;let y <- b ρ;f x y
noncomputable def b1(f:D->Res D)(a:FE):FE:=λρ=>do let x <- a ρ;f x
def bTB(a:FE):FT:=λρ=>do let x <- a ρ;asB x
noncomputable def aDo(a:FT):FT:=λρ=>do let x <- a ρ;pure (!x)
noncomputable def K4(a b:FT):FT:=λρ=>do let x <- a ρ;if x then b ρ else pure ak
noncomputable def bOr(a b:FT):FT:=λρ=>do let x <- a ρ;if x then pure ag else b ρ
def aAh(a b:FE):FE:=λρ=>do let x <- a ρ;let k <- asB x;if k then b ρ else pure (.bl ak)
noncomputable def aU:FA:=λ_=>.ok []
noncomputable def aC(a:FE)(b:FA):FA:=λρ=>do let x <- a ρ;let xs <- b ρ;pure (x::xs)
def iK(a:FA):FE:=λρ=>do let xs <- a ρ;if ϒ (xs.length<=lim) then pure (.tup xs) else .bad
def i_(a:FA):FE:=λρ=>do let xs <- a ρ;if ϒ (xs.length<=lim) then pure (.lst xs) else .bad
noncomputable def aZ(f:ae D->Res D)(a:FA):FE:=λρ=>do let xs <- a ρ;f xs
noncomputable def bM(f:D->ae D->Res D)(o:FE)(a:FA):FE:=λρ=>do let x <- o ρ;let xs <- a ρ;f x xs
def gF(a:FE):ae D->Res (ar ai):=λρ=>do let x <- a ρ;let i <- asI x;pure (aa i)
noncomputable def g_:ae D->Res (ar ai):=λ_=>.ok aj
def aTt:D->Res aw
 |.dct _=>.bad
 |.scr _=>.bad
 |d=>aSl d
def bTr(a:FE):FT:=λρ=>do let x <- a ρ;aTt x
noncomputable def aEd:D->Res D
 |.int i=>.ok (.int (-i))
 |_=>.bad
def aQ1:D->ar ai->ar ai->Res D
 |.lst xs,lo,hi=>if D.aK xs then .ok (.lst (cutD xs lo hi)) else .bad
 |.scr xs,lo,hi=>if D.aK xs then .ok (.lst (cutD xs lo hi)) else .bad
 |.tup xs,lo,hi=>if !D.aK xs||ϒ (aH0 xs.length 0 lo=0/\aH0 xs.length xs.length hi=xs.length) then .bad else .ok (.tup (cutD xs lo hi))
 |_,_,_=>.bad
def kY:ae D->Res D
 |[.tup xs]=>.ok (.int xs.length)
 |[.lst xs]=>.ok (.int xs.length)
 |[.scr xs]=>.ok (.int xs.length)
 |[.cel _ xs]=>.ok (.int xs.length)
 |[.str x]=>if ϒ (x.length<=lim) then .ok (.int x.length) else .bad
 |_=>.bad
noncomputable def aMo(kvs:ae (D×D)):ae D:=kvs.map (·.1)
def aEe:ae D->Res D
 |[.tup xs]=>if D.aK xs then .ok (.lst xs) else .bad
 |[.lst xs]=>if D.aK xs then .ok (.lst xs) else .bad
 |[.dct kvs]=>if kvs.all (λp=>!isTup p.1) then .ok (.lst (aMo kvs)) else .bad
 |_=>.bad
noncomputable def fJ:ae D->Res D
 |[.tup xs]=>.ok (.tup xs)
 |[.lst xs]=>.ok (.tup xs)
 |_=>.bad
noncomputable def Ty.nm:Ty->fR
 |.int=>"int" | .str=>"str" | .bool=>"bool" | .list=>"list" | .tuple=>"tuple" | .dict=>"dict"
def K5(t:Ty)(d:D):Res D:=do let k <- aQr t d;pure (.bl k)
noncomputable def sG(n:ah)(f:ae D->Res D):ae D->Res D:=λds=>if ϒ (ds.length=n) then f ds else .bad
noncomputable abbrev FI:=ae D->Res (ae D×aw)
noncomputable def zM:D->Res (ae D)
 |.lst xs=>.ok xs
 |.tup xs=>.ok xs
 |_=>.bad
def jN:ae D->Res (ae D×aw)
 |[.int n]=>if oO n then .ok ((aE n.toNat).map λ(k:ah)=>D.int (0+(k:ai)),ag) else .bad
 |_=>.bad
noncomputable def lX(f:FA)(g:ae D->Res (ae D×aw)):FI:=λρ=>do let xs <- f ρ;g xs
noncomputable def UV(n:ah)(ρ:ae D):ae D:=(aE n).map λi=>ρ.getD i .uD
noncomputable def lO:D->Res (ae D):=λd=>.ok [d]
def K6(n:ah)(t:D->Res (ae D))(c:FT)(f:FE)(k:aw)(ρ:ae D)(acc:ae D)(x:D):Res (ae D):=do
 let bs <- t x
 let ok <- c (UV n ρ++bs)
 if ok then (do
  let y <- f (UV n ρ++bs)
  if k||y.pure then pure (acc++[y]) else .bad)
 else pure acc
noncomputable def oW(g:ae D->D->Res (ae D)):ae D->ae D->Res (ae D)
 |acc,[]=>.ok acc
 |acc,x::xs=>do let a <- g acc x;oW g a xs
def dB(n:ah)(it:FI)(t:D->Res (ae D))(c:FT)(f:FE)(k:aw):FE:=λρ=>do
 let xs <- it ρ
 if ϒ (xs.1.length<=lim) then (do
  let ys <- oW (K6 n t c f k ρ) [] xs.1
  pure (.lst ys)) else .bad
noncomputable def gG:FT:=λ_=>.ok ag
noncomputable abbrev FS:=ae D->Res Fl
noncomputable def D.UW:D->aw
 |.cel _ _=>ak
 |_=>ag
def inner:D->aw
 |.lst xs=>D.aK xs
 |.dct kvs=>D.aK (kvs.map (·.2))
 |.cel _ xs=>D.aK xs
 |_=>ak
noncomputable def yL:FS:=λρ=>.ok (.nx ρ)
noncomputable def bA(f g:FS):FS:=λρ=>do
 let r <- f ρ
 match r with
 |.nx ρ'=>g ρ'
 |r=>.ok r
def bZ(o:aw)(i:ah)(f:FE)(k:aw):FS:=λρ=>do
 let d <- f ρ
 if (if o then k&&inner d else k||d.pure) then .ok (.nx (ρ.set i d)) else .bad
def sAl(i j:ah):FS:=λρ=>do
 let d <- cD j ρ
 .ok (.nx (ρ.set i d))
noncomputable def sIf(c:FT)(f g:FS):FS:=λρ=>do
 let k <- c ρ
 if k then f ρ else g ρ
noncomputable def zN(f:FE)(k:aw):FS:=λρ=>do
 let d <- f ρ
 if k||d.pure then .ok (.rt d) else .bad
def aMp(i:ah):FS:=λρ=>do
 let d <- cD i ρ
 .ok (.rt d)
noncomputable def rtX:ah:=1000000
noncomputable def Q6(f:FE)(k:aw):FS:=λρ=>do
 let d <- f ρ
 if k||d.pure then .ok (.rt (.tup (d::ρ))) else .bad
def m8(i:ah):FS:=λρ=>do
 let d <- cD i ρ
 if d.UW then .ok (.rt (.tup (d::ρ))) else .bad
def Q7(i:ah)(f:FE):FS:=λρ=>do
 let d <- f ρ
 match ρ.getD i .uD with
 |.lst xs=>if ϒ (xs.length<lim)&&d.pure then .ok (.nx (ρ.set i (.lst (xs++[d])))) else .bad
 |_=>.bad
def aEf(i:ah)(f:FE)(g:FE):FS:=λρ=>do
 let d <- g ρ
 let k <- f ρ
 match ρ.getD i .uD with
 |.dct kvs=>if ϒ (kvs.length<lim)&&yJ kvs k&&d.pure then .ok (.nx (ρ.set i (.dct (putD kvs k d)))) else .bad
 |_=>.bad
noncomputable def tg1(i:ah):D->ae D->Res (ae D):=λd ρ=>.ok (ρ.set i d)
noncomputable def Q8:ae ah->ae D->ae D->ae D
 |i::is,d::ds,ρ=>Q8 is ds (ρ.set i d)
 |_,_,ρ=>ρ
def tgN(is:ae ah):D->ae D->Res (ae D)
 |.tup ds,ρ=>if ϒ (ds.length=is.length) then .ok (Q8 is ds ρ) else .bad
 |_,_=>.bad
noncomputable def xV(t:D->ae D->Res (ae D))(body:FS):ae D->ae D->Res Fl
 |[],ρ=>.ok (.nx ρ)
 |x::xs,ρ=>do
  let ρ1 <- t x ρ
  let r <- body ρ1
  match r with
  |.nx ρ'=>xV t body xs ρ'
  |.ct ρ'=>xV t body xs ρ'
  |.bk ρ'=>.ok (.nx ρ')
  |.rt d=>.ok (.rt d)
def J1(it:FI)(t:D->ae D->Res (ae D))(body:FS):FS:=λρ=>do
 let xs <- it ρ
 if xs.2 then xV t body xs.1 ρ else .bad
def B_(i:ah)(t:D->ae D->Res (ae D))(body:FS):FS:=λρ=>do
 let d <- cD i ρ
 let xs <- zM d
 xV t body xs ρ
def fnS(n m:ah)(f:FS):ae D->Res D:=λds=>do
 let r <- f (ds++cq (m-n) .uD)
 aTs r
open L2
class KFrag where
 K:bi
variable [KFrag]
def aEg(H:Hp)(a:al)(xs:ae V):Prop:=(∃o,H a=aa (.frz o (.lst xs)))\/
 ∃(o:bn)(its:bp am)(n:ah),KFrag.K.lookup a=aa o/\o.cls=.type "list"/\o.dict=aj/\o.data=.seq its n/\its.size<=bo/\Vals xs its.toList
theorem aEg.sq(h:aEg H a xs)(hK:KFrag.K=K):SqL K H a xs:=by
 subst hK;rcases h with ⟨o,h⟩|h
 .exact .inl (.inr ⟨o,h⟩)
 .exact .inr h
noncomputable def kD:Key->D
 |.inl i=>.int i
 |.inr x=>.str x
noncomputable def Q9:HO->aw
 |.lst _=>ag
 |.dK _=>ag
 |.dT _=>ag
 |_=>ak
def XO(a C:al)(dx:ar al)(h:aI):Prop:=∃o,h.get? a=aa o/\o.cls=.ref C/\o.dict=dx/\∃vs,o.data=.fields vs
def XD(dx:al)(fs:ae (Str×Str))(h:aI):Prop:=∃mA,h.Ns1 dx mA/\sD mA (fs.map (·.1))/\∀f,match fs.lookup f with
 |some t=>∃tk,mA f=aa (.str t tk)
 |none=>mA f=aj
def XDs(H:Hp)(fs:ae (Str×Str)):ar al->Prop
 |none=>fs=[]
 |some d=>H d=aa (.ext (XD d fs))
mutual
inductive Rep(P:al->Prop)(H:Hp):V->D->Prop
 |non:Rep P H .non .non
 |bl (b:aw):Rep P H (.bl b) (.bl b)
 |int (i:ai):Rep P H (.int i) (.int i)
 |str (x:Str):Rep P H (.str x) (.str x)
 |tup {a:al} {xs:ae V} {ds:ae D}:H a=aa (.tup xs)->bK P H xs ds->Rep P H (.ref a) (.tup ds)
 |lst {a:al} {xs:ae V} {ds:ae D}:H a=aa (.lst xs)->P a->bK P H xs ds->Rep P H (.ref a) (.lst ds)
 |cel {a:al} {xs:ae V} {ds:ae D}:H a=aa (.lst xs)->P a->bK P H xs ds->Rep P H (.ref a) (.cel a ds)
 |frz {a:al} {xs:ae V} {ds:ae D}:aEg H a xs->bK P H xs ds->Rep P H (.ref a) (.scr ds)
 |dK {a:al} {kvs:ae (Key×V)} {ds:ae (D×D)}:H a=aa (.dK kvs)->P a->gH P H kvs ds->(kvs.map (·.1)).Nodup->Rep P H (.ref a) (.dct ds)
 |dT {a:al} {kvs:ae (ae Key×V)} {ds:ae (D×D)}:H a=aa (.dT kvs)->P a->mZ P H kvs ds->(kvs.map (·.1)).Nodup->Rep P H (.ref a) (.dct ds)
 |exc {a C:al} {dx:ar al} {c:Str} {fs:ae (Str×Str)}:lp KFrag.K bj c=aa (aa (.ref C))->H a=aa (.ext (XO a C dx))->XDs H fs dx->Rep P H (.ref a) (.exc c fs)
 |ins {a C dx:al} {c:Str} {vs:ae (Str×V)} {fs:ae (Str×D)}:lp KFrag.K bj c=aa (aa (.ref C))->H a=aa (.ins C dx vs)->sI P H vs fs->Rep P H (.ref a) (.ins c fs)
inductive sI(P:al->Prop)(H:Hp):ae (Str×V)->ae (Str×D)->Prop
 |nil:sI P H [] []
 |cons {f:Str} {v:V} {d:D} {r:ae (Str×V)} {ds:ae (Str×D)}:Rep P H v d->sI P H r ds->sI P H ((f,v)::r) ((f,d)::ds)
inductive bK(P:al->Prop)(H:Hp):ae V->ae D->Prop
 |nil:bK P H [] []
 |cons {v:V} {d:D} {vs:ae V} {ds:ae D}:Rep P H v d->bK P H vs ds->bK P H (v::vs) (d::ds)
inductive gH(P:al->Prop)(H:Hp):ae (Key×V)->ae (D×D)->Prop
 |nil:gH P H [] []
 |cons {k:Key} {v:V} {d:D} {r:ae (Key×V)} {ds:ae (D×D)}:Rep P H v d->gH P H r ds->gH P H ((k,v)::r) ((kD k,d)::ds)
inductive mZ(P:al->Prop)(H:Hp):ae (ae Key×V)->ae (D×D)->Prop
 |nil:mZ P H [] []
 |cons {k:ae Key} {v:V} {d:D} {r:ae (ae Key×V)} {ds:ae (D×D)}:Rep P H v d->mZ P H r ds->mZ P H ((k,v)::r) ((.tup (k.map kD),d)::ds)
end
def sJ(P:al->Prop)(H H':Hp):Prop:=∀a o,H a=aa o->(P a\/Q9 o=ak)->H' a=aa o
theorem sJ.same(h:bW H H'):sJ P H H':=λa o e _=>h a o e
theorem XDs.keep{P:al->Prop}{H H':Hp}(k:sJ P H H')(q:XDs H fs dx):XDs H' fs dx:=by
 cases dx with
 |none=>exact q
 |some _=>exact k _ _ q (.inr rfl)
mutual
theorem Rep.gC{P P':al->Prop}{H H':Hp}(k:sJ P H H')(m:∀a o,H a=aa o->P a->P' a){v:V}{d:D}(q:Rep P H v d):Rep P' H' v d:=by
 cases q with
 |non=>exact .non
 |bl b=>exact .bl b
 |int i=>exact .int i
 |str x=>exact .str x
 |tup e r=>exact .tup (k _ _ e (.inr rfl)) (bK.gC k m r)
 |lst e p r=>exact .lst (k _ _ e (.inl p)) (m _ _ e p) (bK.gC k m r)
 |cel e p r=>exact .cel (k _ _ e (.inl p)) (m _ _ e p) (bK.gC k m r)
 |frz e r=>exact .frz (e.imp (λz=>z.imp λo e=>k _ _ e (.inr rfl)) id) (bK.gC k m r)
 |dK e p r n=>exact .dK (k _ _ e (.inl p)) (m _ _ e p) (gH.gC k m r) n
 |dT e p r n=>exact .dT (k _ _ e (.inl p)) (m _ _ e p) (mZ.gC k m r) n
 |exc n e q=>exact .exc n (k _ _ e (.inr rfl)) (XDs.keep k q)
 |ins n e r=>exact .ins n (k _ _ e (.inr rfl)) (sI.gC k m r)
theorem bK.gC{P P':al->Prop}{H H':Hp}(k:sJ P H H')(m:∀a o,H a=aa o->P a->P' a){v:ae V}{d:ae D}(q:bK P H v d):bK P' H' v d:=by
 cases q with
 |nil=>exact .nil
 |cons r t=>exact .cons (Rep.gC k m r) (bK.gC k m t)
theorem sI.gC{P P':al->Prop}{H H':Hp}(k:sJ P H H')(m:∀a o,H a=aa o->P a->P' a){v:ae (Str×V)}{d:ae (Str×D)}(q:sI P H v d):sI P' H' v d:=by
 cases q with
 |nil=>exact .nil
 |cons r t=>exact .cons (Rep.gC k m r) (sI.gC k m t)
theorem gH.gC{P P':al->Prop}{H H':Hp}(k:sJ P H H')(m:∀a o,H a=aa o->P a->P' a){v:ae (Key×V)}{d:ae (D×D)}(q:gH P H v d):gH P' H' v d:=by
 cases q with
 |nil=>exact .nil
 |cons r t=>exact .cons (Rep.gC k m r) (gH.gC k m t)
theorem mZ.gC{P P':al->Prop}{H H':Hp}(k:sJ P H H')(m:∀a o,H a=aa o->P a->P' a){v:ae (ae Key×V)}{d:ae (D×D)}(q:mZ P H v d):mZ P' H' v d:=by
 cases q with
 |nil=>exact .nil
 |cons r t=>exact .cons (Rep.gC k m r) (mZ.gC k m t)
end
theorem Rep.keep(k:sJ P H H')(m:∀a,P a->P' a)(q:Rep P H v d):Rep P' H' v d:=q.gC k λa _ _=>m a
theorem bK.keep(k:sJ P H H')(m:∀a,P a->P' a)(q:bK P H v d):bK P' H' v d:=q.gC k λa _ _=>m a
theorem sI.keep(k:sJ P H H')(m:∀a,P a->P' a)(q:sI P H v d):sI P' H' v d:=q.gC k λa _ _=>m a
theorem gH.keep(k:sJ P H H')(m:∀a,P a->P' a)(q:gH P H v d):gH P' H' v d:=q.gC k λa _ _=>m a
theorem mZ.keep(k:sJ P H H')(m:∀a,P a->P' a)(q:mZ P H v d):mZ P' H' v d:=q.gC k λa _ _=>m a
theorem Rep.mono(r:Rep P H v d)(m:∀a,P a->P' a):Rep P' H v d:=r.keep (λ_ _ e _=>e) m
theorem bK.mono(r:bK P H v d)(m:∀a,P a->P' a):bK P' H v d:=r.keep (λ_ _ e _=>e) m
theorem Rep.same(r:Rep P H v d)(s:bW H H'):Rep P H' v d:=r.keep (.same s) λ_ h=>h
theorem bK.same(r:bK P H v d)(s:bW H H'):bK P H' v d:=r.keep (.same s) λ_ h=>h
noncomputable def Q_:HO->aw
 |.tup _=>ak
 |.frz _ (.lst _)=>ak
 |_=>ag
mutual
theorem Rep.zO{P P':al->Prop}{H H':Hp}(k:∀a o,H a=aa o->Q_ o=ak->H' a=aa o){v:V}{d:D}(q:Rep P H v d)(h:d.pure=ag):Rep P' H' v d:=by
 cases q with
 |non=>exact .non
 |bl b=>exact .bl b
 |int i=>exact .int i
 |str x=>exact .str x
 |tup e r=>exact .tup (k _ _ e rfl) (bK.zO k r h)
 |frz e r=>exact .frz (e.imp (λz=>z.imp λo e=>k _ _ e rfl) id) (bK.zO k r h)
 |_=>exact fx0 h
theorem bK.zO{P P':al->Prop}{H H':Hp}(k:∀a o,H a=aa o->Q_ o=ak->H' a=aa o){v:ae V}{d:ae D}(q:bK P H v d)(h:D.aK d=ag):bK P' H' v d:=by
 cases q with
 |nil=>exact .nil
 |cons r t=>
  rw[D.aK,aS] at h;exact .cons (Rep.zO k r h.1) (bK.zO k t h.2)
end
theorem Rep.bT(r:Rep P H v d)(h:d.pure=ag):Rep P' H v d:=r.zO (λ_ _ e _=>e) h
theorem bK.bT(r:bK P H v d)(h:D.aK d=ag):bK P' H v d:=r.zO (λ_ _ e _=>e) h
theorem bK.length:∀{v:ae V}{d:ae D},bK P H v d->v.length=d.length
 |_,_,.nil=>rfl
 |_,_,.cons _ t=>by rw[br,br,bK.length t]
theorem bK.get:∀{vs:ae V}{ds:ae D}{i:ah}{d:D},bK P H vs ds->ds[i]?=aa d->∃v,vs[i]?=aa v/\Rep P H v d
 |_,_,_,_,.nil,e=>by simp at e
 |_,_,0,_,.cons r _,e=>by simp at e;subst e;exact⟨_,rfl,r⟩
 |_,_,i+1,d,.cons _ t,e=>by
  obtain⟨v,h1,h2⟩:=bK.get t (by simpa using e);exact⟨v,by simpa using h1,h2⟩
theorem bK.at:∀{vs:ae V}{ds:ae D}{i:ah}{v:V},bK P H vs ds->vs[i]?=aa v->∃d,ds[i]?=aa d/\Rep P H v d
 |_,_,_,_,.nil,e=>by simp at e
 |_,_,0,_,.cons r _,e=>by simp at e;subst e;exact⟨_,rfl,r⟩
 |_,_,i+1,d,.cons _ t,e=>by
  obtain⟨v,h1,h2⟩:=bK.at t (by simpa using e);exact⟨v,by simpa using h1,h2⟩
theorem bK.append:∀{vs ws:ae V}{ds es:ae D},bK P H vs ds->bK P H ws es->bK P H (vs++ws) (ds++es)
 |_,_,_,_,.nil,s=>s
 |_,_,_,_,.cons r t,s=>.cons r (bK.append t s)
theorem bK.take:∀{vs:ae V}{ds:ae D}(n:ah),bK P H vs ds->bK P H (vs.take n) (ds.take n)
 |_,_,0,_=>.nil
 |_,_,_+1,.nil=>.nil
 |_,_,n+1,.cons r t=>.cons r (bK.take n t)
theorem bK.drop:∀{vs:ae V}{ds:ae D}(n:ah),bK P H vs ds->bK P H (vs.drop n) (ds.drop n)
 |_,_,0,r=>r
 |_,_,_+1,.nil=>.nil
 |_,_,n+1,.cons _ t=>bK.drop n t
theorem bK.set(r:Rep P H v d):∀{vs:ae V}{ds:ae D}(n:ah),bK P H vs ds->bK P H (vs.set n v) (ds.set n d)
 |_,_,_,.nil=>.nil
 |_,_,0,.cons _ t=>.cons r t
 |_,_,n+1,.cons q t=>.cons q (bK.set r n t)
theorem bK.snoc(t:bK P H vs ds)(r:Rep P H v d):bK P H (vs++[v]) (ds++[d]):=t.append (.cons r .nil)
theorem Rep.uD:¬Rep P H v .uD:=λh=>by cases h
abbrev All:al->Prop:=λ_=>gn
abbrev New(H:Hp):al->Prop:=λa=>H a=aj
theorem Rep.all(r:Rep P H v d):Rep All H v d:=r.mono λ_ _=>trivial
theorem bK.all(r:bK P H v d):bK All H v d:=r.mono λ_ _=>trivial
theorem bW.new(s:bW H H'):∀a,New H' a->New H a:=λa h=>s.free h
theorem bW.upd(h:H a=aj):bW H (upd H a o):=λb u e=>by rw[aO (bL e h)];exact e
def ER(H:Hp)(σ:St)(ρ:ae D):Prop:=∀i,ρ.getD i .uD≠.uD->∃v,σ[i]?=aa (aa v)/\Rep All H v (ρ.getD i .uD)
theorem ER.same(e:ER H σ ρ)(s:bW H H'):ER H' σ ρ:=λi h=>by
 obtain⟨v,h1,h2⟩:=e i h;exact⟨v,h1,h2.same s⟩
theorem PE.imp(h:PE X e t)(i:∀σ H Q,t' σ H Q->t σ H Q):PE X e t':=λΨ s σ H Q I q=>h Ψ s σ H Q I (i σ H Q q)
theorem PT.imp(h:PT X e t)(i:∀σ H Q,t' σ H Q->t σ H Q):PT X e t':=λΨ s σ H Q I q=>h Ψ s σ H Q I (i σ H Q q)
theorem PA.imp(h:PA X e t)(i:∀σ H Q,t' σ H Q->t σ H Q):PA X e t':=λpos Ψ s σ H Q I q=>h pos Ψ s σ H Q I (i σ H Q q)
theorem Rep.dom(r:Rep P H v d):Rep (λa=>P a/\H a≠aj) H v d:=r.gC (λ_ _ e _=>e) λa o e p=>⟨p,by rw[e];simp⟩
theorem Rep.aAi(r:Rep P H v d)(k:sJ P H H')(m:∀a o,H a=aa o->P a->P' a):Rep P' H' v d:=r.gC k m
def aTu(P:al->Prop)(H:Hp)(v:V):D->Prop
 |.non=>v=.non
 |.bl b=>v=.bl b
 |.int i=>v=.int i
 |.str x=>v=.str x
 |.tup ds=>∃a xs,v=.ref a/\H a=aa (.tup xs)/\bK P H xs ds
 |.lst ds=>∃a xs,v=.ref a/\H a=aa (.lst xs)/\P a/\bK P H xs ds
 |.cel b ds=>∃xs,v=.ref b/\H b=aa (.lst xs)/\P b/\bK P H xs ds
 |.scr ds=>∃a xs,v=.ref a/\aEg H a xs/\bK P H xs ds
 |.ins c fs=>∃a C dx vs,v=.ref a/\lp KFrag.K bj c=aa (aa (.ref C))/\H a=aa (.ins C dx vs)/\sI P H vs fs
 |.exc c fs=>∃a C dx,v=.ref a/\lp KFrag.K bj c=aa (aa (.ref C))/\H a=aa (.ext (XO a C dx))/\XDs H fs dx
 |.uD=>cb
 |_=>gn
theorem Rep.inv(r:Rep P H v d):aTu P H v d:=by
 cases r with
 |non=>rfl
 |bl=>rfl
 |int=>rfl
 |str=>rfl
 |tup e r=>exact⟨_,_,rfl,e,r⟩
 |lst e p r=>exact⟨_,_,rfl,e,p,r⟩
 |cel e p r=>exact⟨_,rfl,e,p,r⟩
 |frz e r=>exact⟨_,_,rfl,e,r⟩
 |ins n e r=>exact⟨_,_,_,_,rfl,n,e,r⟩
 |exc n e r=>exact⟨_,_,_,rfl,n,e,r⟩
 |_=>trivial
end Mi
open Mi.D renaming aK->ε,int->θ,tup->ν,pure->ξ,str->π,cC->υ,bl->χ,lst->ψ
open Mi.Res renaming ok->τ,aP->ι,ofOpt->ο,bind->ω
namespace L2
open PySem PySem.Spec PyProof.Rows
noncomputable def eN(own:ae Str)(x:Str):Str:=if own.contains x then x++(" " : Str) else x
def clF(env:c_):ae (Str×iX)->ae (Str×al)->ae (Str×al)
 |[],acc=>acc
 | (n,k)::r,acc=>clF env r (if k==.free then (n,(env.cells.lookup n).getD 0)::acc else acc)
theorem wR:∀(names:ae (Str×iX))(acc:ae (Str×al)),(∀y∈names,y.2=.free->∃c,env.cells.lookup y.1=aa c)->
  (forIn names acc λx cs=>(match x with
   | (name,kind)=>if (kind==.free)=ag then cellOf env name >>= λc=>pure (BB ((name,c)::cs)) else pure (BB cs):Sem (ForInStep (ae (Str×al)))))=(pure (clF env names acc):Sem _)
 |[],acc,_=>by rw[ke];rfl
 | (n,k)::r,acc,h=>by
  rw[oB];by_cases hk:(k==.free)=ag
  .have hk':k=.free:=by simpa using hk
   obtain⟨c,e⟩:=h (n,k) (de ..) hk';have e':cellOf env n=pure c:=by
    unfold cellOf;have e2:env.cells.lookup n=aa c:=e;rw[e2]
   dsimp only;rw[ao hk,e',pure_bind,pure_bind];dsimp only;rw[wR r _ λy hy=>h y (dg _ hy)];have e2:env.cells.lookup n=aa c:=e;simp only[clF,hk,e9,e2,zo]
  .dsimp only;rw[ax hk,pure_bind];dsimp only;rw[wR r _ λy hy=>h y (dg _ hy)];simp only[clF,hk,i5,gf]
theorem YH(h:∀y∈scope.names,y.2=.free->∃c,env.cells.lookup y.1=aa c):closureFor scope env=pure (clF env scope.names []):=by
 unfold closureFor;have:=wR scope.names [] h;simp only[bind_pure] at *;exact this
theorem RB:∀{names:ae (Str×iX)}{acc:ae (Str×al)}{x:Str}{c:al},(∀y∈names,y.2=.free->∃c,env.cells.lookup y.1=aa c)->(∀x c,acc.lookup x=aa c->env.cells.lookup x=aa c)->
  (clF env names acc).lookup x=aa c->env.cells.lookup x=aa c
 |[],acc,x,c,_,h,e=>h x c e
 | (n,k)::r,acc,x,c,q,h,e=>by
  unfold clF at e;refine RB (λy hy=>q y (dg _ hy)) (λy d hy=>?_) e;by_cases hk:(k==.free)=ag
  .rw[ao hk,gL] at hy;obtain⟨c',e'⟩:=q (n,k) (de ..) (by simpa using hk);have e2:env.cells.lookup n=aa c':=e';cases hyn:y==n with
   |true=>
    rw[hyn] at hy;have:y=n:=by simpa using hyn
    subst this;rw[e2] at hy;simp only[zo] at hy;rw[e2];exact hy
   |false=>rw[hyn] at hy;exact h y d hy
  .rw[ax hk] at hy;exact h y d hy
theorem aAj:∀{names:ae (Str×iX)}{acc:ae (Str×al)}{x:Str},(∃c,acc.lookup x=aa c)->∃c,(clF env names acc).lookup x=aa c
 |[],_,_,h=>h
 | (n,k)::r,acc,x,⟨c,h⟩=>by
  unfold clF;refine aAj ?_;by_cases hk:(k==.free)=ag
  .rw[ao hk,gL];cases x==n with
   |true=>exact⟨_,rfl⟩
   |false=>exact⟨c,h⟩
  .rw[ax hk];exact⟨c,h⟩
theorem RC:∀{names:ae (Str×iX)}{acc:ae (Str×al)}{x:Str},(x,kf)∈names->∃c,(clF env names acc).lookup x=aa c
 | (n,k)::r,acc,x,h=>by
  unfold clF;rcases cg.mp h with e|h
  .cases e;refine aAj ?_;rw[ao 0x4,gL];simp
  .exact RC h
structure cG(N:ae Str)(sc scope:ft)(own:ae Str):Prop where
 kind:scope.kind=.function
 nocell:∀y∈scope.names,y.2≠.cell
 names:∀y∈scope.names,y.2=.local->scope.names.lookup y.1=aa .local
 free:∀y∈scope.names,y.2=.free->sc.names.lookup y.1=aa .cell\/sc.names.lookup y.1=aa .free
 ownl:∀x∈own,scope.names.lookup x=aa .local
 hid:∀x∈own,scope.names.lookup (x++(" " : Str))=aj
 loc:∀y∈scope.names,y.2=.local->y.1∈own\/y.1∉N
structure dF(X X':Cx)(scope:ft)(own:ae Str):Prop where
 prog:X'.prog=X.prog
 w:X'.w=X.w
 K:X'.K=X.K
 mg:X'.mg=X.mg
 base:X'.base=X.base
 A:X'.A=X.A
 N:X'.N=X.N.map (eN own)++own
 scope:X'.env.scope=i6 scope X.env
 calm:X'.calm=X.calm
 xe:X'.xe=λ_ _=>cb
def U0(X:Cx)(scope:ft)(cl:ae (Str×al))(C:al)(own:ae Str)(s₂:au)(H₂:Hp)(fp:ae al):Cx:=
 {X with N:=X.N.map (eN own)++own,s₀:=s₂,H₀:=H₂,env:=compEnvC scope cl C X.env,outer:=X.stack,stack:=X.stack,ex:=fp,fn:=λ_=>ak,pn:=[],xe:=λ_ _=>cb}
theorem aAk:dF X (U0 X scope cl C own s₂ H₂ fp) scope own:=
 ⟨rfl,rfl,rfl,rfl,rfl,rfl,rfl,rfl,rfl,rfl⟩
def Ext(σ σ2:St):Prop:=σ2.length=σ.length/\∀(i:ah) v,σ[i]?=aa (aa v)->σ2[i]?=aa (aa v)
def K7(wi:TI)(g:TG)(tc:TT)(te:TE)(m:ah):TE:=λσ H Q=>wi σ H λJ H1=>∀p,H1 p=aj->
 ∃W:ah->ah->ae V->Hp->Prop,(∃n,W 0 n [] (upd H1 p (.lst [])))/\∀i n ys H,W i n ys H->H p=aa (.lst ys)/\((J.stop i H/\Q (.ref p) H)\/(J.go i H/\ys.length<bo/\
  ∀x H2,J.yld i H x H2->g x (σ++cq m aj) H2 λσ2 H3=>Ext (σ++cq m aj) σ2/\tc σ2 H3 λb H4=>if b=ag then te σ2 H4 λy H5=>H5 p=aa (.lst ys)/\∃n',n'<n/\W (i+1) n' (ys++[y]) (upd H5 p (.lst (ys++[y])))
   else ∃n',n'<n/\W (i+1) n' ys H4))
section
theorem Inv.comp(I:Inv X Ψ σ H2 s2)(S:cG X.N X.env.scope scope own)(hf:∀b∈fp,ZP X Ψ H2 b)
 (hfx:∀b∈fp,b<s2.heap.objs.size)(hns:h1.Ns (s2.heap.objs.size+1) (λ_=>aj))
 (hk:∀b o,s2.heap.get? b=aa o->h1.get? b=aa o)(hacc:h1.get? s2.heap.objs.size=aa {cls:=.type "list",data:=.seq #[]}) :
  Inv (U0 X scope (clF X.env scope.names []) (s2.heap.objs.size+1) own s2 H2 fp) [] (σ++cq own.length aj) (upd H2 s2.heap.objs.size (.lst [])) {s2 with heap:=h1,toks:=t1}:=by
 have hD:H2 s2.heap.objs.size=aj:=I.hok.fresh (bt _);have hC:H2 (s2.heap.objs.size+1)=aj:=I.hok.fresh (mh _);have cells:∀y∈scope.names,y.2=.free->∃c,X.env.cells.lookup y.1=aa c:=λy hy hk=>I.ok.has y.1 (S.free y hy hk)
 have sub:∀x c,(clF X.env scope.names []).lookup x=aa c->X.env.cells.lookup x=aa c:=λx c e=>RB cells (λ_ _ h=>by simp at h) e
 have relk:∀x,(i6 scope X.env).names.lookup x=aa .cell\/(i6 scope X.env).names.lookup x=aa .free->(x,kf)∈scope.names:=by
  intro x hx;have go:∀(l:ae (Str×iX)),(∀y∈l,y.2≠.cell)->((l.map λ(n,k)=>if (k==kf&&X.env.scope.kind==.function&&X.env.kindOf n==aa .cell) then (n,zp) else (n,k)).lookup x=aa .cell\/(l.map λ(n,k)=>if (k==kf&&X.env.scope.kind==.function&&X.env.kindOf n==aa .cell) then (n,zp) else (n,k)).lookup x=aa .free)->(x,kf)∈l:=by
   intro l;induction l with
   |nil=>intro _ h;rcases h with h|h<;>simp at h
   |cons p l ih=>
    obtain⟨n,k⟩:=p;intro nc h;rw[bd] at h;dsimp only at h;by_cases hc:(k==kf&&X.env.scope.kind==.function&&X.env.kindOf n==aa .cell)=ag
    .rw[ao hc] at h;rw[gL] at h;cases e:x==n with
     |true=>
      have:x=n:=by simpa using e
      subst this;simp only[aS] at hc;have:k=.free:=by simpa using hc.1.1
      subst this;exact de ..
     |false=>
      rw[e] at h;exact dg _ (ih (λy hy=>nc y (dg _ hy)) h)
    .rw[ax hc] at h;rw[gL] at h;cases e:x==n with
     |true=>
      have:x=n:=by simpa using e
      subst this;rw[e] at h;dsimp only at h;rcases h with h|h
      .exact aT (fE h) (nc (x,k) (de ..))
      .have:=fE h;subst this;exact de ..
     |false=>
      rw[e] at h;exact dg _ (ih (λy hy=>nc y (dg _ hy)) h)
  exact go scope.names S.nocell hx
 have hne:s2.heap.objs.size≠s2.heap.objs.size+1:=cy (ma _);have hlt:∀b o,s2.heap.get? b=aa o->b<s2.heap.objs.size:=λb o e=>bE e
 have hstk:∀b∈frs X.stack,b<s2.heap.objs.size:=λb hb=>by
  obtain⟨_,o,ho,_⟩:=I.stack.mem hb;exact hlt b o ho
 refine⟨⟨I.mod,?_,I.ok.glob,I.ok.blt,mh _,λx y c e1 e2=>I.ok.inj x y c (sub x c e1) (sub y c e2),λx hx=>?_,λ_ _ h=>(by cases h),I.ok.hd,I.ok.frames,.inl rfl,λb hb=>?_,λb o e=>I.bs b o e,?_,λb o e hb=>?_,λb hb hz=>?_,I.stack,I.QV⟩,
  rfl,I.bare,Un.laid hk (bt _) hD,?_,λx c e=>?_,?_,λx c e=>?_,λp hp=>(by simp[U0] at hp),?_,?_⟩
 .exact S.kind
 .have hx':(i6 scope X.env).names.lookup x=aa .cell\/(i6 scope X.env).names.lookup x=aa .free:=hx;exact RC (relk x hx')
 .refine⟨cy (mw (hfx b hb)),λx c e z=>?_⟩;exact(hf b hb).2.2.2.2.1 x c (sub x c e) z
 .exact dj I.ok.bsz I.sz
 .rcases(hf b hb).2.2.2.1 with z|z
  .exact I.ok.noex b o e z
  .exact aT (dQ (bE e) (dj I.ok.bsz z)) (hU _)
 .rcases cg.mp (I.T7 b hz) with z'|z'
  .exact(hf b hb).2.1 z'
  .exact(hf b hb).2.2.1 z'
 .refine⟨_,hns,λi x v e1 e2 e3=>?_⟩;have hi:i<σ.length:=by
   rcases lq i σ.length with h|h
   .exact h
   .rw[fI h,jy] at e2;split at e2<;>cases e2
  rw[eu hi] at e2;have hiN:i<X.N.length:=by rw[<-I.len];exact hi
  have e1':(X.N.map (eN own))[i]?=aa x:=by
   have:(X.N.map (eN own)++own)[i]?=aa x:=e1;rwa [eu (by rw[az];exact hiN)] at this
  rw[ib] at e1';obtain⟨y,hy,ey⟩:=i0.mp e1';have hyN:y∈X.N:=kP hy;have e3':(i6 scope X.env).names.lookup x=aa .local\/(i6 scope X.env).names.lookup x=aa .cell\/(i6 scope X.env).names.lookup x=aa .free:=e3;have keys:∀z k,(i6 scope X.env).names.lookup z=aa k->∃k',scope.names.lookup z=aa k'/\(k=.local->k'=.local):=by
   intro z k;show(scope.names.map λ(n,k)=>if (k==kf&&X.env.scope.kind==.function&&X.env.kindOf n==aa .cell) then (n,zp) else (n,k)).lookup z=aa k->_;generalize scope.names=l;induction l with
   |nil=>intro h;simp at h
   |cons p l ih=>
    obtain⟨n,k0⟩:=p;intro h;rw[bd] at h;dsimp only at h;by_cases hc:(k0==kf&&X.env.scope.kind==.function&&X.env.kindOf n==aa .cell)=ag
    .rw[ao hc,gL] at h;rw[gL];cases e:z==n with
     |true=>
      rw[e] at h;dsimp only at h;cases h;exact⟨k0,rfl,λq=>by cases q⟩
     |false=>rw[e] at h;exact ih h
    .rw[ax hc,gL] at h;rw[gL];cases e:z==n with
     |true=>
      rw[e] at h;dsimp only at h;cases h;exact⟨_,rfl,λq=>q⟩
     |false=>rw[e] at h;exact ih h
  by_cases hown:own.contains y=ag
  .exfalso;have ex:x=y++(" " : Str):=by rw[<-ey];unfold eN;rw[ao hown]
   have hn:=S.hid y (by simpa using hown);rw[<-ex] at hn;rcases e3' with q|q|q
   all_goals
    obtain⟨k',hk',_⟩:=keys _ _ q;rw[hn] at hk';cases hk'
  .have ex:x=y:=by rw[<-ey];unfold eN;rw[ax hown]
   subst ex;rcases e3' with q|q
   .exfalso;obtain⟨k',hk',hl⟩:=keys _ _ q;have:=hl rfl;subst this;rcases S.loc _ (mj hk') rfl with z|z
    .exact hown (by simpa using z)
    .exact z hyN
   .have hfr:=relk x q;have hv:=S.free _ hfr rfl;obtain⟨m,_,hl⟩:=I.loc;obtain⟨u,ru,lk⟩:=hl i x v hy e2 (.inr hv);refine⟨u,ru,.inr ⟨q,?_⟩⟩;rcases lk with ⟨z,_⟩|⟨_,c,hc,o,ho,hd⟩
    .have z':X.env.scope.names.lookup x=aa .local:=z;rcases hv with hv|hv<;>(rw[z'] at hv;cases hv)
    .obtain⟨c',hc'⟩:=RC hfr;have:=sub x c' hc';rw[hc] at this;cases this;exact⟨c,hc',o,hk c o ho,hd⟩
 .obtain⟨v,z⟩:=I.cell x c (sub x c e);obtain⟨o,ho,hd⟩:=z;exact⟨v,o,hk c o ho,hd⟩
 .show upd H2 _ _ (s2.heap.objs.size+1)=aj;rw[aO (Ne.symm hne)];exact hC
 .obtain⟨v,o,ho,_⟩:=I.cell x c (sub x c e);show upd H2 _ _ c=aj;rw[aO (cy (hlt c o ho))];exact I.freeC x c (sub x c e)
 .exact I.hok.laid hk (bt _) ⟨ef _,[],0,.nil,hacc⟩
 .show(σ++cq own.length aj).length=(X.N.map (eN own)++own).length;rw[bq,bq,ot,az,I.len]
end
section
variable {X:Cx} {scope:ft} {own:ae Str}
def cI(X':Cx)(σ:St)(fp:ae al)(tn:ah->aI->Prop)(W:ah->ah->ae V->Hp->Prop)(n:ah)(s:au):Prop:=∃i ys H',Inv X' [] σ H' s/\tn i s.heap/\(∀b∈fp,H' b=aj)/\W i n ys H'
abbrev cE(X X':Cx)(use:ar (am->Sem Unit))(QQ:am->au->Prop)(p:al):am->au->Prop:=notedBy (ay X.prog X.w) X.A X'.env λe s'=>mz (ay X.prog X.w) X.A X.xe use QQ (.ref p) (p+1) (.error e) s'
def cB(X':Cx)(σ:St)(fp:ae al)(tn:ah->aI->Prop)(W:ah->ah->ae V->Hp->Prop)(n i:ah)(h:aI):Prop:=∀{ys':ae V}{H9:Hp}{s9:au}{σ9:St},Ext σ σ9->Inv X' ([]++yW fp h) σ9 H9 s9->(∃n',n'<n/\W (i+1) n' ys' H9)->∃m,m<n/\cI X' σ fp tn W m s9
theorem RD(S:cG X.N X.env.scope scope own)(hcalm:X.calm=ag)(hi:PI X tg iter wi)
 (hg:∀X',dF X X' scope own->PG X' tg g)(hc:(ifs=[]/\tc=λ_ H Q=>Q ag H)\/∃c,ifs=[c]/\∀X',dF X X' scope own->PT X' c tc)(he:∀X',dF X X' scope own->PE X' elt te)
 (hs:∀x,en iter X.env x=pure x)(I:Inv X Ψ σ H s)(h:K7 wi g tc te own.length σ H R)
 (last:∀{p C:al} {H5:Hp} {s6:au} {m6:Str->ar am},Inv X Ψ σ H5 s6->ZP X Ψ H5 C->s6.heap.Ns C m6->R (.ref p) H5->mz (ay X.prog X.w) X.A X.xe use QQ (.ref p) C (.ok .next) s6) :
  ϑ (ay X.prog X.w) X.A (BC (.ListComp elt [⟨tg,iter,ifs,0⟩] scope pos) scope X.env ps (newList []) ak (eval iter X.env) use) QQ X.xe s:=by
 have cells:∀y∈scope.names,y.2=.free->∃c,X.env.cells.lookup y.1=aa c:=λy hy hk=>I.ok.has y.1 (S.free y hy hk)
 refine wpAny_comprehension_free rfl hs (YH cells) S.kind S.names (thn (hi Ψ s σ H _ I h) λxv s1 h1=>thn h1 λitv s2 h2=>?_);obtain⟨it,fp,tn,J,H2,e,I2,T,st2,f2,hW⟩:=h2;subst e;have hD:H2 s2.heap.objs.size=aj:=I2.hok.fresh (bt _);obtain⟨W,⟨n0,w0⟩,turn⟩:=hW _ hD;have hfx:∀b∈fp,b<s2.heap.objs.size:=λb hb=>by
  obtain⟨o,ho,_⟩:=T.obj 0 _ st2 b hb;exact bE ho
 refine ji (wpAny_newFunctionEnv S.nocell (by intro y hy;simp at hy) (λh₁ hns₁ hsb₁=>?_) S.kind);dsimp only at hns₁ hsb₁ ⊢;have hC:(s2.heap.push {cls:=.type "list",dict:=aj,data:=.seq ([]:ae am).toArray}).objs.size=s2.heap.objs.size+1:=eJ ..;have hne:s2.heap.objs.size≠s2.heap.objs.size+1:=cy (ma _);rw[hC] at hns₁ hsb₁ ⊢;have old:∀b o,s2.heap.get? b=aa o->h₁.get? b=aa o:=λb o e=>hsb₁.extBut b o (cy (mw (bE e))) (bX _ (bX _ e))
 have hacc:h₁.get? s2.heap.objs.size=aa {cls:=.type "list",data:=.seq #[]}:=hsb₁.extBut _ _ hne (bX _ (dh _ rfl));have I4:=Inv.comp (t1:=s2.toks+([]:ae (Str×am)).length) I2 S f2 hfx hns₁ old hacc;generalize hX':U0 X scope (clF X.env scope.names []) (s2.heap.objs.size+1) own s2 H2 fp=X' at I4;have cc:dF X X' scope own:=by rw[<-hX'];exact aAk
 have eenv:X'.env=compEnvC scope (clF X.env scope.names []) (s2.heap.objs.size+1) X.env:=by rw[<-hX'];rfl
 have eA:X'.A=X.A:=cc.A;have ep:X'.prog=X.prog:=cc.prog;have ew:X'.w=X.w:=cc.w;have efs:X'.fs=frs X.stack:=by rw[<-hX'];rfl
 have eex:X'.ex=fp:=by rw[<-hX'];rfl
 have es0:X'.s₀=s2:=by rw[<-hX'];rfl
 have eH0:X'.H₀=H2:=by rw[<-hX'];rfl
 have epn:X'.pn=[]:=by rw[<-hX'];rfl
 have eK:X'.K=X.K:=cc.K;have exe:=cc.xe;have ecalm:X'.calm=ag:=cc.calm.trans hcalm
 -- the iterator's records within the block
 have fpok:∀{H':Hp},(∀b∈fp,H' b=aj)->∀b∈fp,ZP X' [] H' b:=λ{H'} hn b hb=>by
  obtain⟨_,f1,f3,_,f5,_⟩:=f2 b hb;refine⟨hn b hb,?_,?_,.inl (by rw[eex];exact hb),λx c e=>?_,λp hp=>by rw[epn] at hp;simp at hp⟩
  .rw[eenv];exact cy (mw (hfx b hb))
  .rw[efs];intro z;rcases cg.mp (I2.T7 b z) with z|z
   .exact f1 z
   .exact f3 z
  .rw[eenv] at e;exact f5 x c (RB cells (λ_ _ h=>by simp at h) e)
 have st4:tn 0 h₁:=T.keep _ _ _ st2 λb _ o e=>old b o e
 have fr4:∀b∈fp,(upd H2 s2.heap.objs.size (.lst [])) b=aj:=λb hb=>by rw[aO (cy (hfx b hb))];exact(f2 b hb).1
 have loop:∀s4:au,s4={s2 with heap:=h₁,toks:=s2.toks+([]:ae (Str×am)).length}->
   codeAny (ay X.prog X.w) X.A (.compLoop (.ListComp elt [⟨tg,iter,ifs,0⟩] scope pos) 0 (.ref it) (.ref s2.heap.objs.size) X'.env)
    (mz (ay X.prog X.w) X.A X.xe use QQ (.ref s2.heap.objs.size) (s2.heap.objs.size+1)) s4:=by
  rintro s4 rfl;have put:∀(n i:ah)(ys:ae V)(s7:au)(σ8:St)(H8:Hp)(s8:au),cB X' (σ++cq own.length aj) fp tn W n i s7.heap->Inv X' ([]++yW fp s7.heap) σ8 H8 s8->Ext (σ++cq own.length aj) σ8->ys.length<bo->(te σ8 H8 λy H5=>H5 s2.heap.objs.size=aa (.lst ys)/\∃n',n'<n/\W (i+1) n' (ys++[y]) (upd H5 s2.heap.objs.size (.lst (ys++[y]))))->
    ϑ (ay X.prog X.w) X.A (eval elt X'.env) (λx s₄=>ϑ (ay X.prog X.w) X.A (call (.builtin "list.append") [.ref s2.heap.objs.size,x]) (λ_ s₅=>∃m,m<n/\cI X' (σ++cq own.length aj) fp tn W m s₅) (cE X X' use QQ s2.heap.objs.size) s₄) (cE X X' use QQ s2.heap.objs.size) s8:=by
   intro n i ys s7 σ8 H8 s8 back I8 ext8 hlen q8;have he':=he X' cc _ s8 _ H8 _ I8 q8;rw[ep,ew,eA,exe] at he';refine fg he' (λyv s10 ⟨y,H10,I10,r10,p10,q10⟩=>?_) λ_ _ z=>d6 z
   have hm:=iH _ s10 σ8 H10 (.ref s2.heap.objs.size) [y] (.ref s2.heap.objs.size) [yv] (λ_ H11=>∃n',n'<n/\W (i+1) n' (ys++[y]) H11) I10 rfl (.cons r10 .nil) ⟨s2.heap.objs.size,ys,y,rfl,rfl,p10,hlen,q10⟩;rw[ep,ew,eA,exe] at hm;exact fg hm (λ_ s11 ⟨_,H11,I11,_,q11⟩=>back ext8 I11 q11) λ_ _ z=>d6 z
  have key:∀(PO:ah->au->Prop),(∀(n i:ah)(ys:ae V)(s7:au)(σ8:St)(H8:Hp)(s8:au),cB X' (σ++cq own.length aj) fp tn W n i s7.heap->Inv X' ([]++yW fp s7.heap) σ8 H8 s8->Ext (σ++cq own.length aj) σ8->ys.length<bo->(tc σ8 H8 λb H4=>if b=ag then te σ8 H4 λy H5=>H5 s2.heap.objs.size=aa (.lst ys)/\∃n',n'<n/\W (i+1) n' (ys++[y]) (upd H5 s2.heap.objs.size (.lst (ys++[y]))) else ∃n',n'<n/\W (i+1) n' ys H4)->PO n s8)->
    ∀n s5,(cI X' (σ++cq own.length aj) fp tn W n s5)->ϑ (ay X.prog X.w) X.A (iS (.ref it)) (λr s₁=>match r with
     |none=>mz (ay X.prog X.w) X.A X.xe use QQ (.ref s2.heap.objs.size) (s2.heap.objs.size+1) (.ok .next) s₁
     |some v=>ϑ (ay X.prog X.w) X.A (om tg (.ref it) v) (λ_ s₀=>ϑ (ay X.prog X.w) X.A (kG tg X'.env v) (λ_ s₂=>PO n s₂) (cE X X' use QQ s2.heap.objs.size) s₀) (cE X X' use QQ s2.heap.objs.size) s₁) (cE X X' use QQ s2.heap.objs.size) s5:=by
   intro PO hPO;rintro n s5 ⟨i,ys,H5,I5,st5,fr5,w5⟩;obtain⟨hacc5,tr⟩:=turn i n ys H5 w5;rcases tr with ⟨stop,q⟩|⟨go,hlen,step⟩
   .have done:=T.done X' ep ew eK ecalm i [] s5 _ H5 (cE X X' use QQ s2.heap.objs.size) I5 (fpok fr5) st5 stop;rw[eA] at done;refine thn done λr s6 ⟨hr,I6⟩=>?_
    subst hr;obtain⟨m6,hn6,_⟩:=id I6.loc;rw[eenv] at hn6;have u6:Un (frs X.stack) fp H2 H5 s2.heap s6.heap:=by
     have:=I6.base;rw[efs,eex,eH0,es0] at this;exact this
    have hCn:H5 (s2.heap.objs.size+1)=aj:=by
     have:=I6.free;rw[eenv] at this;exact this
    have hok6:HOk X.prog X.w H5 s6.heap:=by
     have:=I6.hok;rw[ep,ew] at this;exact this
    have hos:s6.os=s2.os:=by have:=I6.os;rw[es0] at this;exact this
    obtain⟨hh,gg,dd,tt,oo⟩:=s6;obtain rfl:oo=s2.os:=hos;have fin:=Inv.call (g':=gg) (d':=dd) (t':=tt) (ch:=fp) I2 u6 hok6 I6.bare λb hb=>⟨(f2 b hb).2.2.2.1,(f2 b hb).2.1,(f2 b hb).2.2.2.2.1,(f2 b hb).2.2.2.2.2⟩
    refine last fin ⟨hCn,iP (mw I2.lt),I2.aSe (mh _),.inr (dj I2.sz (mh _)),λx c e z=>?_,λp hp z=>?_⟩ hn6 q
    .obtain⟨v,qq⟩:=I2.cell x c e;exact aT (mw qq.lt) (by rw[z];exact hU _)
    .exact aT (mw (bE (I2.pin p hp).1)) (by rw[z];exact hU _)
   .have item:=T.item X' ep ew eK ecalm i [] s5 _ H5 (cE X X' use QQ s2.heap.objs.size) I5 (fpok fr5) st5 go;rw[eA] at item;refine thn item λr s6 ⟨u,hr,h6⟩=>?_
    subst hr;refine thn h6 λ_ s7 ⟨x,H7,I7,r7,y7,st7,fr7⟩=>?_
    have I7':=I7.pinned (fpok fr7) (T.obj _ _ st7);have hg':=hg X' cc _ s7 _ H7 x u _ I7' r7 (step x H7 y7);rw[ep,ew,eA,exe] at hg';refine fg hg' (λ_ s8 ⟨σ8,H8,I8,ext8,q8⟩=>?_) λ_ _ z=>d6 z
    have back:cB X' (σ++cq own.length aj) fp tn W n i s7.heap:=by
     rintro ys' H9 s9 σ9 ex9 I9 ⟨n',hn',w9⟩;refine⟨n',hn',i+1,ys',H9,(I9.weak ex9.1.symm ex9.2).sU,T.keep _ _ _ st7 λb hb o e=>(I9.pin (b,o) (eS _ (eS _ (nU hb e)))).1,λb hb=>?_,w9⟩;obtain⟨o,e,d⟩:=T.obj _ _ st7 b hb;exact(I9.pin (b,o) (eS _ (eS _ (nU hb e)))).2.1
    exact hPO n i ys s7 σ8 H8 s8 back I8 ext8 hlen q8
  rcases hc with ⟨rfl,rfl⟩|⟨c,rfl,hc⟩
  .refine PySem.W.kcp_loop _ (key _ λn i ys s7 σ8 H8 s8 back I8 ext8 hlen q8=>?_) n0 ⟨0,[],_,I4,st4,fr4,w0⟩;simp only[e9] at q8;exact put n i ys s7 σ8 H8 s8 back I8 ext8 hlen q8
  .refine PySem.W.kct_loop _ (key _ λn i ys s7 σ8 H8 s8 back I8 ext8 hlen q8=>?_) n0 ⟨0,[],_,I4,st4,fr4,w0⟩;have hc':=hc X' cc _ s8 _ H8 _ I8 q8;rw[ep,ew,eA,exe] at hc';refine fg hc' (λb s9 ⟨H9,I9,q9⟩=>?_) λ_ _ z=>d6 z
   cases b with
   |false=>
    simp only[i5,gf] at q9 ⊢;exact back ext8 I9 q9
   |true=>
    simp only[e9] at q9 ⊢;exact put n i ys s7 σ8 H9 s9 back I9 ext8 hlen q9
 have l4:=loop _ rfl;rw[eenv] at l4;exact codeAny_compStart_list l4 (T.self X.A 0 _ _ _ st4 l4)
theorem U3(f:Inv X Ψ σ H5 s6)(k:ZP X Ψ H5 C)(n:s6.heap.Ns C m6)(q:Q (.ref p) H5):mz (ay X.prog X.w) X.A X.xe aj (EP X Ψ σ Q) (.ref p) C (.ok .next) s6:=
 ⟨m6,n,λh' sb=>⟨.ref p,H5,Inv.turned f (λb o hb e=>sb.extBut b o hb e) k.1 k.2.1 k.2.2.2.1 k.2.2.2.2.1 k.2.2.2.2.2,rfl,q⟩⟩
theorem aAl(S:cG X.N X.env.scope scope own)(hcalm:X.calm=ag)(hi:PI X tg iter wi)
 (hg:∀X',dF X X' scope own->PG X' tg g)(hc:∀X',dF X X' scope own->PT X' c tc)(he:∀X',dF X X' scope own->PE X' elt te)
 (hs:∀x,en iter X.env x=pure x):PE X (.ListComp elt [⟨tg,iter,[c],0⟩] scope pos) (K7 wi g tc te own.length):=by
 intro Ψ s σ H Q I h;rw[BD];exact RD S hcalm hi hg (.inr ⟨c,rfl,hc⟩) he hs I h U3
theorem aEh(S:cG X.N X.env.scope scope own)(hcalm:X.calm=ag)(hi:PI X tg iter wi)
 (hg:∀X',dF X X' scope own->PG X' tg g)(he:∀X',dF X X' scope own->PE X' elt te)
 (hs:∀x,en iter X.env x=pure x):PE X (.ListComp elt [⟨tg,iter,[],0⟩] scope pos) (K7 wi g (λ_ H Q=>Q ag H) te own.length):=by
 intro Ψ s σ H Q I h;rw[BD];exact RD S hcalm hi hg (.inl ⟨rfl,rfl⟩) he hs I h U3
end
end L2
namespace Mi
open PySem L2 PySem.SeqAt
section
variable [KFrag]
theorem m9(I:Inv X Ψ σ H s)(e:H a=aa (.tup xs)):∃its:ae am,Vals xs its/\s.heap.IsTuple a its.toArray:=by
 obtain⟨_,its,r,p⟩:xs.length<=bo/\∃its:ae am,Vals xs its/\kZ s.heap a its.toArray:=I.hok a _ e;exact⟨its,r,p.tup⟩
theorem xW(I:Inv X Ψ σ H s)(e:SqL X.K H a xs):∃its:ae am,Vals xs its/\s.heap.IsList a its.toArray:=by
 obtain⟨its,r,p,_⟩:=I.list e;exact⟨its,r,p.isList⟩
theorem Rep.m_(r:Rep P H v (.lst ds)):∃a xs,v=.ref a/\SqL K H a xs/\bK P H xs ds:=by
 obtain⟨_,_,rfl,e,p,r⟩:=r.inv;exact⟨_,_,rfl,.inl (.inl e),r⟩
theorem Rep.jG(r:Rep P H v (.tup ds)):∃a xs,v=.ref a/\H a=aa (.tup xs)/\bK P H xs ds:=by
 obtain⟨_,_,rfl,e,r⟩:=r.inv;exact⟨_,_,rfl,e,r⟩
mutual
theorem G4:∀(n:ah)(d:D),d.jC n=ag->eqD d d=ag
 |_,.int i,_=>by exact wm i
 |_,.str x,_=>by exact wm x
 |n+1,.tup xs,h=>by exact zP n xs h
 |n+1,.lst xs,h=>by exact zP n xs h
 |0,.tup xs,h=>by exact fx0 h
 |0,.lst xs,h=>by exact fx0 h
 |n,.non,h=>by cases n<;>exact fx0 h
 |n,.bl _,h=>by cases n<;>exact fx0 h
 |n,.dct _,h=>by cases n<;>exact fx0 h
 |n,.uD,h=>by cases n<;>exact fx0 h
 |n,.scr _,h=>by cases n<;>exact fx0 h
 |n,.exc _ _,h=>by cases n<;>exact fx0 h
 |n,.ins _ _,h=>by cases n<;>exact fx0 h
 |n,.cel _ _,h=>by cases n<;>exact fx0 h
theorem zP:∀(n:ah)(ds:ae D),υ n ds=ag->zK ds ds=ag
 |_,[],_=>rfl
 |n,d::ds,h=>by
  rw[υ,aS] at h;rw[zK,G4 n d h.1,zP n ds h.2];rfl
end
theorem bK.aSm{n:ah}{P P':al->Prop}{H:Hp}(ih:∀{v:V} {d e:D},d.jC n=ag->e.jC n=ag->Rep P H v d->Rep P' H v e->d=e){vs:ae V}:∀{ds es:ae D},υ n ds=ag->υ n es=ag->bK P H vs ds->bK P' H vs es->ds=es:=by
 induction vs with
 |nil=>intro ds es h h' r q;cases r;cases q;rfl
 |cons v vs ih2=>
  intro ds es h h' r q;cases r with
  |cons r t=>
   cases q with
   |cons r' t'=>
    rw[υ,aS] at h h';rw[ih h.1 h'.1 r r',ih2 h.2 h'.2 t t']
theorem Rep.inj{P P':al->Prop}{H:Hp}(n:ah):∀{v:V}{d e:D},d.jC n=ag->e.jC n=ag->Rep P H v d->Rep P' H v e->d=e:=by
 induction n with
 |zero=>
  intro v d e h h' r q;cases d with
  |int i=>obtain rfl:=r.inv;cases q;rfl
  |str x=>obtain rfl:=r.inv;cases q;rfl
  |_=>exact fx0 h
 |succ n ih=>
  intro v d e h h' r q;cases d with
  |int i=>obtain rfl:=r.inv;cases q;rfl
  |str x=>obtain rfl:=r.inv;cases q;rfl
  |tup ds=>
   obtain⟨a,xs,rfl,e1,r1⟩:=r.inv;cases q with
   |tup e2 r2=>
    rw[e1] at e2;cases e2;rw[bK.aSm ih h h' r1 r2]
   |lst e2 _ _=>rw[e1] at e2;cases e2
   |dK e2 _ _ _=>rw[e1] at e2;cases e2
   |dT e2 _ _ _=>rw[e1] at e2;cases e2
   |_=>exact fx0 h'
  |lst ds=>
   obtain⟨a,xs,rfl,e1,_,r1⟩:=r.inv;cases q with
   |tup e2 r2=>rw[e1] at e2;cases e2
   |lst e2 _ r2=>
    rw[e1] at e2;cases e2;rw[bK.aSm ih h h' r1 r2]
   |dK e2 _ _ _=>rw[e1] at e2;cases e2
   |dT e2 _ _ _=>rw[e1] at e2;cases e2
   |_=>exact fx0 h'
  |_=>exact fx0 h
theorem wU:∀(xs ys:ae D),zK xs ys=((aE (min xs.length ys.length)).all (λj=>eqD (xs.getD j .non) (ys.getD j .non))&&xs.length==ys.length)
 |[],[]=>by simp[zK]
 |[],y::ys=>by simp[zK]
 |x::xs,[]=>by simp[zK]
 |x::xs,y::ys=>by
  have e:min (x::xs).length (y::ys).length=min xs.length ys.length+1:=by simp only[br];lia
  rw[zK,wU xs ys,e,List.range_succ_eq_map,i7,List.all_map,zq]
  congr 1
  simp[DZ]
theorem u_:∀{ds:ae D}{j:ah},υ n ds=ag->j<ds.length->(ds.getD j .non).jC n=ag
 |[],j,_,h=>by simp at h
 |d::ds,0,h,_=>by rw[υ,aS] at h;exact h.1
 |d::ds,j+1,h,hj=>by
  rw[υ,aS] at h;simpa using u_ h.2 (by simpa using hj)
theorem bK.getD(r:bK P H vs ds)(hj:j<ds.length):∃v,vs[j]?=aa v/\Rep P H v (ds.getD j .non):=by
 obtain⟨v,h1,h2⟩:=r.get (i:=j) (d:=ds.getD j .non) (by simp[hj]);exact⟨v,h1,h2⟩
section
theorem RG(ha:a.jC 0=ag)(hb:b.jC 0=ag)(rx:Rep All H x a)(ry:Rep All H y b)(ru:RelV x u)(rv:RelV y v):RcAt A s u v (eqD a b)/\RcNeAt A s u v (!eqD a b)/\EqAt A s u v (eqD a b):=by
 cases rx with
 |int _=>
  obtain⟨t,rfl⟩:=ru;cases ry with
  |int _=>obtain⟨t',rfl⟩:=rv;exact⟨RcAt.int_int _ _ _ _,RcNeAt.int_int _ _ _ _,EqAt.int_int _ _ _ _⟩
  |str _=>obtain⟨t',rfl⟩:=rv;exact⟨RcAt.int_str _ _ _ _,RcNeAt.int_str _ _ _ _,AS _ _ _ _⟩
  |_=>exact fx0 hb
 |str _=>
  obtain⟨t,rfl⟩:=ru;cases ry with
  |int _=>obtain⟨t',rfl⟩:=rv;exact⟨RcAt.str_int _ _ _ _,RcNeAt.str_int _ _ _ _,AT _ _ _ _⟩
  |str _=>obtain⟨t',rfl⟩:=rv;exact⟨RcAt.str_str _ _ _ _,RcNeAt.str_str _ _ _ _,EqAt.str_str _ _ _ _⟩
  |_=>exact fx0 hb
 |_=>exact fx0 ha
theorem aAm(I:Inv X Ψ σ H s):∀(n:ah)(A:b6){x y:V}{a b:D}{u v:am},A.units+n<dE->a.jC n=ag->b.jC n=ag->Rep All H x a->Rep All H y b->RelV x u->RelV y v->
  RcAt A s u v (eqD a b)/\RcNeAt A s u v (!eqD a b)/\EqAt A s u v (eqD a b):=by
 intro n;induction n with
 |zero=>exact λA=>λ_ ha hb rx ry ru rv=>RG ha hb rx ry ru rv
 |succ n ih=>
  intro A x y a b u v hu ha hb rx ry ru rv;have hu0:A.units<dE:=by lia
  have hu1:A.in1.units+n<dE:=by show A.units+1+n<dE;lia
  have itm:∀{xs ys:ae V}{ds es:ae D}{i1 i2:ae am},υ n ds=ag->υ n es=ag->bK All H xs ds->bK All H ys es->Vals xs i1->Vals ys i2->∀j (g1:j<i1.toArray.size) (g2:j<i2.toArray.size),EqAt A.in1 s i1.toArray[j] i2.toArray[j] (eqD (ds.getD j .non) (es.getD j .non)):=by
   intro xs ys ds es i1 i2 ha hb r1 r2 vr1 vr2 j g1 g2;have z1:i1.toArray.size=ds.length:=by rw[b9,<-vr1.length,r1.length]
   have z2:i2.toArray.size=es.length:=by rw[b9,<-vr2.length,r2.length]
   obtain⟨v1,w1,rr1⟩:=r1.getD (j:=j) 0x1;obtain⟨v2,w2,rr2⟩:=r2.getD (j:=j) 0x1;obtain⟨u1,k1,l1⟩:=vr1.get w1;obtain⟨u2,k2,l2⟩:=vr2.get w2;have m1:i1.toArray[j]=u1:=by
    rw[dq (by simpa using g1)] at k1;simpa using fE k1
   have m2:i2.toArray[j]=u2:=by
    rw[dq (by simpa using g2)] at k2;simpa using fE k2
   rw[m1,m2];exact(ih A.in1 hu1 (u_ ha 0x1) (u_ hb 0x1) rr1 rr2 l1 l2).2.2
  cases a with
  |int _=>
   cases b with
   |tup es=>
    cases rx.inv;obtain⟨t1,rfl⟩:=ru;obtain⟨q,ys,rfl,e2,r2⟩:=ry.jG;cases rv;obtain⟨its2,vr2,h2⟩:=m9 I e2;exact⟨RcAt.int_tuple _ _ h2 hu0,RcNeAt.int_tuple _ _ h2 hu0,EqAt.int_tuple _ _ h2 hu0⟩
   |lst es=>
    cases rx.inv;obtain⟨t1,rfl⟩:=ru;obtain⟨q,ys,rfl,e2,r2⟩:=ry.m_ (K:=X.K);cases rv;obtain⟨its2,vr2,h2⟩:=xW I e2;exact⟨RcAt.int_list _ _ h2 hu0,RcNeAt.int_list _ _ h2 hu0,EqAt.int_list _ _ h2 hu0⟩
   |_=>first|exact RG rfl rfl rx ry ru rv|exact aT ry Rep.uD|exact fx0 hb
  |str _=>
   cases b with
   |tup es=>
    cases rx.inv;obtain⟨t1,rfl⟩:=ru;obtain⟨q,ys,rfl,e2,r2⟩:=ry.jG;cases rv;obtain⟨its2,vr2,h2⟩:=m9 I e2;exact⟨RcAt.str_tuple _ _ h2 hu0,RcNeAt.str_tuple _ _ h2 hu0,EqAt.str_tuple _ _ h2 hu0⟩
   |lst es=>
    cases rx.inv;obtain⟨t1,rfl⟩:=ru;obtain⟨q,ys,rfl,e2,r2⟩:=ry.m_ (K:=X.K);cases rv;obtain⟨its2,vr2,h2⟩:=xW I e2;exact⟨RcAt.str_list _ _ h2 hu0,RcNeAt.str_list _ _ h2 hu0,EqAt.str_list _ _ h2 hu0⟩
   |_=>first|exact RG rfl rfl rx ry ru rv|exact aT ry Rep.uD|exact fx0 hb
  |tup ds=>
   obtain⟨p,xs,rfl,e1,r1⟩:=rx.jG;cases ru;obtain⟨its1,vr1,h1⟩:=m9 I e1;replace ha:υ _ _=ag:=ha;cases b with
   |int _=>cases ry.inv;obtain⟨t2,rfl⟩:=rv;exact⟨RcAt.tuple_int _ _ h1 hu0,RcNeAt.tuple_int _ _ h1 hu0,EqAt.tuple_int _ _ h1 hu0⟩
   |str _=>cases ry.inv;obtain⟨t2,rfl⟩:=rv;exact⟨RcAt.tuple_str _ _ h1 hu0,RcNeAt.tuple_str _ _ h1 hu0,EqAt.tuple_str _ _ h1 hu0⟩
   |tup es=>
    obtain⟨q,ys,rfl,e2,r2⟩:=ry.jG;cases rv;obtain⟨its2,vr2,h2⟩:=m9 I e2;replace hb:υ _ _=ag:=hb;have z1:its1.toArray.size=ds.length:=by rw[b9,<-vr1.length,r1.length]
    have z2:its2.toArray.size=es.length:=by rw[b9,<-vr2.length,r2.length]
    have he:=itm ha hb r1 r2 vr1 vr2;have ee:eqD (.tup ds) (.tup es)=((aE (min its1.toArray.size its2.toArray.size)).all (λj=>eqD (ds.getD j .non) (es.getD j .non))&&its1.toArray.size==its2.toArray.size):=by
     rw[show eqD (.tup _) (.tup _)=zK _ _ from rfl,wU,z1,z2]
    have r0:=RcAt.tuples h1 h2 hu0 he;have r0':=RcNeAt.tuples h1 h2 hu0 he;rw[<-ee] at r0 r0';refine⟨r0,r0',?_⟩;by_cases hpq:p=q
    .subst hpq;have hab:(ν ds)=(.tup es):=Rep.inj (n+1) ha hb rx ry;rw[<-hab,G4 (n+1) (.tup ds) ha];exact BE _
    .exact BF hpq r0
   |lst es=>
    obtain⟨q,ys,rfl,e2,r2⟩:=ry.m_ (K:=X.K);cases rv;obtain⟨its2,vr2,h2⟩:=xW I e2;exact⟨RcAt.tuple_list h1 h2 hu0,RcNeAt.tuple_list h1 h2 hu0,EqAt.tuple_list h1 h2 hu0⟩
   |_=>first|exact aT ry Rep.uD|exact fx0 hb
  |lst ds=>
   obtain⟨p,xs,rfl,e1,r1⟩:=rx.m_ (K:=X.K);cases ru;obtain⟨its1,vr1,h1⟩:=xW I e1;replace ha:υ _ _=ag:=ha;cases b with
   |int _=>cases ry.inv;obtain⟨t2,rfl⟩:=rv;exact⟨RcAt.list_int _ _ h1 hu0,RcNeAt.list_int _ _ h1 hu0,EqAt.list_int _ _ h1 hu0⟩
   |str _=>cases ry.inv;obtain⟨t2,rfl⟩:=rv;exact⟨RcAt.list_str _ _ h1 hu0,RcNeAt.list_str _ _ h1 hu0,EqAt.list_str _ _ h1 hu0⟩
   |tup es=>
    obtain⟨q,ys,rfl,e2,r2⟩:=ry.jG;cases rv;obtain⟨its2,vr2,h2⟩:=m9 I e2;exact⟨RcAt.list_tuple h1 h2 hu0,RcNeAt.list_tuple h1 h2 hu0,EqAt.list_tuple h1 h2 hu0⟩
   |lst es=>
    obtain⟨q,ys,rfl,e2,r2⟩:=ry.m_ (K:=X.K);cases rv;obtain⟨its2,vr2,h2⟩:=xW I e2;replace hb:υ _ _=ag:=hb;have z1:its1.toArray.size=ds.length:=by rw[b9,<-vr1.length,r1.length]
    have z2:its2.toArray.size=es.length:=by rw[b9,<-vr2.length,r2.length]
    have he:=itm ha hb r1 r2 vr1 vr2;have r00:RcAt A s (.ref p) (.ref q) (eqD (.lst ds) (.lst es))/\RcNeAt A s (.ref p) (.ref q) (!eqD (.lst ds) (.lst es)):=by
     rw[show eqD (.lst _) (.lst _)=zK _ _ from rfl,wU];by_cases hz:ds.length=es.length
     .have r0:=RcAt.lists h1 h2 0x1 hu0 he;have r0':=RcNeAt.lists h1 h2 0x1 hu0 he;rw[z1] at r0 r0';rw[show min ds.length es.length=ds.length by lia,show(ds.length==es.length)=ag by simpa using hz,wn];exact⟨r0,r0'⟩
     .have hz':(its1.toArray.size !=its2.toArray.size)=ag:=by rw[z1,z2];simpa using hz
      rw[show(ds.length==es.length)=ak by simpa using hz,BG];exact⟨RcAt.lists_lengths h1 h2 hz' hu0,RcNeAt.lists_lengths h1 h2 hz' hu0⟩
    obtain⟨r0,r0'⟩:=r00;refine⟨r0,r0',?_⟩;by_cases hpq:p=q
    .subst hpq;have hab:(ψ ds)=(.lst es):=Rep.inj (n+1) ha hb rx ry;rw[<-hab,G4 (n+1) (.lst ds) ha];exact BE _
    .exact BF hpq r0
   |_=>first|exact aT ry Rep.uD|exact fx0 hb
  |_=>first|exact aT rx Rep.uD|exact fx0 ha
end
end
open PySem.Spec PyProof.Rows
section
variable [KFrag]
def kR(H:Hp)(d:D)(fr:aw)(Q:VK):Prop:=∀v H',bW H H'->Rep All H' v d->(fr=ag->Rep (New H) H' v d)->Q v H'
noncomputable def gE(f:FE)(fr:aw):TE:=λσ H Q=>∃ρ d,ER H σ ρ/\f ρ=.ok d/\kR H d fr Q
noncomputable def gT(f:FT):TT:=λσ H Q=>∃ρ b,ER H σ ρ/\f ρ=.ok b/\∀H',bW H H'->Q b H'
noncomputable def gA(f:FA)(fr:aw):TA:=λσ H Q=>∃ρ ds,ER H σ ρ/\f ρ=.ok ds/\∀vs H',bW H H'->bK All H' vs ds->(fr=ag->bK (New H) H' vs ds)->Q vs H'
theorem kR.self{fr:aw}(q:kR H d fr Q)(r:Rep All H v d)(r2:fr=ag->Rep (New H) H v d):Q v H:=q v H (bW.refl H) r r2
theorem kR.imp{fr fr':aw}(q:kR H d fr Q)(s:bW H H')(h:fr=ag->fr'=ag):kR H' d fr' Q:=λv H2 s2 r n=>q v H2 (s.trans s2) r λhf=>(n (h hf)).mono (bW.new s)
theorem kR.int{fr:aw}{Q:VK}(q:kR H (.int i) fr Q):Q (.int i) H:=q.self (.int i) λ_=>.int i
theorem kR.bl{fr:aw}{Q:VK}(q:kR H (.bl i) fr Q):Q (.bl i) H:=q.self (.bl i) λ_=>.bl i
theorem kR.str{fr:aw}{Q:VK}(q:kR H (.str i) fr Q):Q (.str i) H:=q.self (.str i) λ_=>.str i
theorem kR.non{fr:aw}{Q:VK}(q:kR H .non fr Q):Q .non H:=q.self .non λ_=>.non
noncomputable def r2(f:D->D->Res D)(fr:aw):R2:=λx y H Q=>∃a b d,Rep All H x a/\Rep All H y b/\f a b=.ok d/\kR H d fr Q
def r1(f:D->Res D)(fr:aw):V->Hp->VK->Prop:=λx H Q=>∃a d,Rep All H x a/\f a=.ok d/\kR H d fr Q
def rs(f:ae D->Res D)(fr:aw):ae V->Hp->VK->Prop:=λxs H Q=>∃ds d,bK All H xs ds/\f ds=.ok d/\kR H d fr Q
def rm(f:D->ae D->Res D)(fr:aw):V->ae V->Hp->VK->Prop:=λx xs H Q=>∃a ds d,Rep All H x a/\bK All H xs ds/\f a ds=.ok d/\kR H d fr Q
theorem a_{f:α->Res β}(h:(do let x <- m;f x)=.ok b):∃a,m=.ok a/\f a=.ok b:=Res.aIp h
section
variable {X:Cx} {a b e:Expr} {pos:ck} {fa fb fe:FE} {ra rb re:aw} {ga:FT}
theorem ER.var(E:ER H σ ρ)(h:cD i ρ=.ok d):∃v,σ[i]?=aa (aa v)/\Rep All H v d/\ρ.getD i .uD=d:=by
 have:ρ.getD i .uD=d/\d≠.uD:=by
  unfold cD at h;split at h
  .exact bx h
  .cases h;refine⟨rfl,λz=>?_⟩;rename_i q;exact q z
 obtain⟨e1,e2⟩:=this;obtain⟨v,h1,h2⟩:=E i (by rw[e1];exact e2);exact⟨v,h1,by rw[e1] at h2;exact h2,e1⟩
theorem aA(hN:X.N[i]?=aa x:=by exact rfl)(hv:Vis X.env.scope x:=by trivial)(hd:autoParam (nDb x) Λ)(hcd:autoParam (nCd x) Λ):PE X (.Name x pos) (gE (cD i) ak):=
 PE.imp (aW hN hv hd hcd) λσ H Q z0=>by
  obtain⟨ρ,d,E,h,q⟩:=z0;obtain⟨v,h1,h2,_⟩:=E.var h;exact⟨v,h1,q.self h2 (λz=>by cases z)⟩
theorem aF{i j}:PE X (.Constant (.int i) j pos) (gE (bC (.int i)) ag):=PE.imp sO λσ H Q z0=>by obtain⟨ρ,d,E,h,q⟩:=z0;cases h;exact q.int
theorem CG{i j}:PE X (.Constant (.bool i) j pos) (gE (bC (.bl i)) ag):=PE.imp aQ8 λσ H Q z0=>by obtain⟨ρ,d,E,h,q⟩:=z0;cases h;exact q.bl
theorem K8{i j}:PE X (.Constant (.str i) j pos) (gE (bC (.str i)) ag):=PE.imp aGq λσ H Q z0=>by obtain⟨ρ,d,E,h,q⟩:=z0;cases h;exact q.str
theorem aAn{j}:PE X (.Constant .none j pos) (gE (bC .non) ag):=PE.imp aLy λσ H Q z0=>by obtain⟨ρ,d,E,h,q⟩:=z0;cases h;exact q.non
theorem two{fr:aw}{σ:L2.St}{H:Hp}{Q:VK}(h:gE (b2 f fa fb) fr σ H Q):tOp (r2 f fr) (gE fa ra) (gE fb rb) σ H Q:=by
 obtain⟨ρ,d,E,h,q⟩:=h;obtain⟨x,h1,h⟩:=a_ h;obtain⟨y,h2,h⟩:=a_ h;refine⟨ρ,x,E,h1,λv H1 s1 rp1 _=>⟨ρ,y,E.same s1,h2,λu H2 s2 rp2 _=>⟨x,y,d,rp1.same s2,rp2,h,q.imp (s1.trans s2) id⟩⟩⟩
theorem aR{o:Operator}{f:D->D->Res D}{fr:aw}(ho:OpR X (eI o) (r2 f fr))(ha:PE X a (gE fa ra))(hb:PE X b (gE fb rb)):PE X (.BinOp a o b pos) (gE (b2 f fa fb) fr):=PE.imp (aI5 ho ha hb) λ_ _ _=>two
theorem U4{o:sL}{f:D->D->Res D}{fr:aw}(ho:OpR X (em o) (r2 f fr))(ha:PE X a (gE fa ra))(hb:PE X b (gE fb rb))(hm:iN o b=ak):PE X (.Compare a [o] [b] pos) (gE (b2 f fa fb) fr):=PE.imp (aI8 ho ha hb hm) λ_ _ _=>two
theorem b7{o:sL}{f:D->D->Res D}{fr:aw}(ho:OpR X (em o) (r2 f fr))(ha:PE X a (gE fa ra))(hb:PE X b (gE fb rb))(hm:iN o b=ak):PT X (.Compare a [o] [b] pos) (gT (bTB (b2 f fa fb))):=
 PT.imp (Z9 ho ha hb hm) λσ H Q z0=>by
  obtain⟨ρ,k,E,h,q⟩:=z0;obtain⟨d,h1,h2⟩:=a_ h;refine two ⟨ρ,d,E,h1,λv H' s r _=>?_⟩;cases d<;>simp only[asB] at h2<;>cases h2
  cases r.inv;exact⟨_,rfl,q H' s⟩
theorem aAo{f:D->Res D}{fr:aw}(ho:UnR X (s_ o) (r1 f fr))(ha:PE X a (gE fa ra)):PE X (.UnaryOp o a pos) (gE (b1 f fa) fr):=
 PE.imp (aI6 ho ha) λσ H Q z0=>by
  obtain⟨ρ,d,E,h,q⟩:=z0;obtain⟨x,h1,h⟩:=a_ h;exact⟨ρ,x,E,h1,λv H1 s1 rp1 _=>⟨x,d,rp1,h,q.imp s1 id⟩⟩
theorem aQs{f:D->D->Res D}{fr:aw}(ho:IxR X (r2 f fr))(ha:PE X a (gE fa ra))(hb:PE X b (gE fb rb))(hs:wQ b):PE X (.Subscript a b pos) (gE (b2 f fa fb) fr):=PE.imp (YB ho ha hb hs) λ_ _ _=>two
theorem aTv(r:Rep All H v d)(h:aSl d=.ok k)(hd:∀kvs,d≠.dct kvs)(hs:∀xs,d≠.scr xs):aPw X.K v H k:=by
 cases r with
 |non=>cases h;rfl
 |bl b=>cases h;rfl
 |int i=>cases h;rfl
 |str x=>
  replace h:(if ϒ (x.length<=lim) then τ ((x.length:ai)!=0) else .bad)=.ok k:=h;split at h
  .rename_i hl;cases h;exact⟨dj (d5 hl) (by rw[dv];decide),rfl⟩
  .exact bx h
 |tup e rr=>cases h;exact .inr (.inl ⟨_,.of e,by cases rr<;>rfl⟩)
 |lst e p rr=>cases h;exact .inl ⟨_,.of e,by cases rr<;>rfl⟩
 |frz e rr=>exact aT rfl (hs _)
 |dK e p rr n=>exact aT rfl (hd _)
 |dT e p rr n=>exact aT rfl (hd _)
 |exc n e q=>exact bx h
 |ins n e q=>exact bx h
 |cel e p rr=>exact bx h
theorem oF(ha:PE X a (gE fa ra))(he:∀whole,sF a X.env whole=(do let v <- whole;yj a.pos;kK [v] (truthy v)):=by intro _;rfl):PT X a (gT (bTr fa)):=
 PT.imp (T9 ha he) λσ H Q z0=>by
  obtain⟨ρ,k,E,h,q⟩:=z0;obtain⟨d,h1,h2⟩:=a_ h;refine⟨ρ,d,E,h1,λv H' s r _=>⟨k,aTv r ?_ ?_ ?_,q H' s⟩⟩
  .cases d<;>first|exact h2|exact bx h2
  .rintro kvs rfl;exact bx h2
  .rintro kvs rfl;exact bx h2
theorem K9(ha:PT X a (gT ga)):PT X (.UnaryOp .Not a pos) (gT (aDo ga)):=PT.imp (aM1 ha) λσ H Q z0=>by
  obtain⟨ρ,k,E,h,q⟩:=z0;obtain⟨d,h1,h2⟩:=a_ h;cases h2;exact⟨ρ,d,E,h1,λH' s=>q H' s⟩
theorem aH1{op}(ha:PE X a (gE fa ra)):PE X (.BoolOp op [a] pos) (gE fa ra):=aM2 ha
theorem aH2(h:asB d=.ok k):d=.bl k:=by cases d<;>simp only[asB] at h<;>cases h;rfl
theorem aMq(h:asI d=.ok k):d=.int k:=by cases d<;>simp only[asI] at h<;>cases h;rfl
theorem aH3{rest:ae Expr}(ha:PE X a (gE fa ra))(hb:PE X (.BoolOp .And (b::rest) pos) (gE fb rb)):PE X (.BoolOp .And (a::b::rest) pos) (gE (aAh fa fb) rb):=PE.imp (aM3 ha hb) λσ H Q z0=>by
  obtain⟨ρ,k,E,h,q⟩:=z0;obtain⟨d,h1,h⟩:=a_ h;obtain⟨z,h2,h3⟩:=a_ h;cases aH2 h2;refine⟨ρ,_,E,h1,λv H' s r _=>?_⟩;cases r.inv;refine⟨_,rfl,?_⟩;cases z with
  |true=>rw[ao rfl];rw[ao rfl] at h3;exact⟨ρ,k,E.same s,h3,q.imp s id⟩
  |false=>rw[ax 0x2];rw[ax 0x2] at h3;cases h3;exact(q.imp s id).bl
theorem aM:PA X [] (gA aU ag):=PA.imp dC λσ H Q z0=>by obtain⟨ρ,ds,E,h,q⟩:=z0;cases h;exact q [] H (bW.refl H) .nil λ_=>.nil
theorem aB(he:PE X e (gE fe re))(hes:PA X es (gA f r))(hs:autoParam (zSE X e es) Ω):PA X (e::es) (gA (aC fe f) (re&&r)):=PA.imp (aY he hes hs) λσ H Q z0=>by
  obtain⟨ρ,ds,E,h,q⟩:=z0;obtain⟨x,h1,h⟩:=a_ h;obtain⟨xs,h2,h⟩:=a_ h;cases h;refine⟨ρ,x,E,h1,λv H1 s1 r1 n1=>⟨ρ,xs,E.same s1,h2,λvs H2 s2 r2 n2=>q _ _ (s1.trans s2) (.cons (r1.same s2) r2) λhf=>?_⟩⟩;obtain⟨f1,f2⟩:=(aS _ _▸hf:re=ag/\r=ag)
  exact .cons ((n1 f1).same s2) ((n2 f2).mono (bW.new s1))
theorem dN{x1}(h:PA X es (gA f r)):PE X (.Tuple es x1 pos) (gE (iK f) r):=PE.imp (aA1 h) λσ H Q z0=>by
  obtain⟨ρ,d,E,h,q⟩:=z0;obtain⟨xs,h1,h⟩:=a_ h;split at h
  .rename_i hl;cases h;refine⟨ρ,xs,E,h1,λvs H1 s1 r1 n1=>⟨?_,λp hp=>?_⟩⟩
   .rw[r1.length];exact dj (d5 hl) (by rw[dv];decide)
   .have sp:bW H1 (upd H1 p (.tup vs)):=bW.upd hp;exact q _ _ (s1.trans sp) (.tup aJ (r1.same sp)) λhf=>.tup aJ ((n1 hf).same sp)
  .exact bx h
theorem dG(h:PA X es (gA f r)):PE X (.List es pos) (gE (i_ f) r):=PE.imp (J_ h) λσ H Q z0=>by
  obtain⟨ρ,d,E,h,q⟩:=z0;obtain⟨xs,h1,h⟩:=a_ h;split at h
  .rename_i hl;cases h;refine⟨ρ,xs,E,h1,λvs H1 s1 r1 n1=>⟨?_,λp hp=>?_⟩⟩
   .rw[r1.length];exact dj (d5 hl) (by rw[dv];decide)
   .have sp:bW H1 (upd H1 p (.lst vs)):=bW.upd hp;exact q _ _ (s1.trans sp) (.lst aJ trivial (r1.same sp)) λhf=>.lst aJ (s1.free hp) ((n1 hf).same sp)
  .exact bx h
theorem U5:PE X (.Dict [] [] pos) (gE (bC (.dct [])) ag):=PE.imp UT λσ H Q z0=>by
  obtain⟨ρ,d,E,h,q⟩:=z0;cases h;exact λp hp=>q _ _ (bW.upd hp) (.dK aJ trivial .nil gj) λ_=>.dK aJ hp .nil gj
end
section
variable {a b e:Expr}
theorem lY(h:ϒ (n<=lim)=ag):n<=bo:=dj (d5 h) (by rw[dv];decide)
theorem K_(h:ϒ (n<lim)=ag):n<bo:=dQ (d5 h) (by rw[dv];decide)
theorem Rep.aMr(r:Rep P H v (.lst ds)):∃a xs,v=.ref a/\Rd H a (.lst xs)/\bK P H xs ds:=by
 cases r with
 |lst e p rr=>exact⟨_,_,rfl,.inl e,rr⟩
theorem PW.imp(h:PW X e t)(i:∀σ H Q,t' σ H Q->t σ H Q):PW X e t':=λwh Ψ s σ H Q I q=>h wh Ψ s σ H Q I (i σ H Q q)
theorem oX(ha:PT X a (gT ga)):PW X (.BoolOp .And [a] pos) (gT ga):=Z1 ha
theorem DW(ha:PT X a (gT ga)):PW X (.BoolOp .Or [a] pos) (gT ga):=aM0 ha
theorem xX{rest:ae Expr}(ha:PT X a (gT ga))(hb:PW X (.BoolOp .And (b::rest) pos) (gT gb)):PW X (.BoolOp .And (a::b::rest) pos) (gT (K4 ga gb)):=PW.imp (aGu ha hb) λσ H Q z0=>by
 obtain⟨ρ,k,E,h,q⟩:=z0;obtain⟨z,h1,h3⟩:=a_ h;refine⟨ρ,z,E,h1,λH' s=>?_⟩;cases z with
 |true=>rw[ao rfl];rw[ao rfl] at h3;exact⟨ρ,k,E.same s,h3,λH2 s2=>q H2 (s.trans s2)⟩
 |false=>rw[ax 0x2];rw[ax 0x2] at h3;cases h3;exact q H' s
theorem RJ{rest:ae Expr}(ha:PT X a (gT ga))(hb:PW X (.BoolOp .Or (b::rest) pos) (gT gb)):PW X (.BoolOp .Or (a::b::rest) pos) (gT (bOr ga gb)):=PW.imp (aQd ha hb) λσ H Q z0=>by
 obtain⟨ρ,k,E,h,q⟩:=z0;obtain⟨z,h1,h3⟩:=a_ h;refine⟨ρ,z,E,h1,λH' s=>?_⟩;cases z with
 |true=>rw[ao rfl];rw[ao rfl] at h3;cases h3;exact q H' s
 |false=>rw[ax 0x2];rw[ax 0x2] at h3;exact⟨ρ,k,E.same s,h3,λH2 s2=>q H2 (s.trans s2)⟩
theorem bU:OpR X (eI .Add) (r2 (bJ .add) ag):=by
 intro Ψ s σ H x y v u Q I rx ry h;obtain⟨a,b,d,p,q,e,k⟩:=h;cases p with
 |int i=>
  cases q with
  |int j=>cases e;exact aM5 Ψ s σ H _ _ v u Q I rx ry ⟨i,j,rfl,rfl,k.int⟩
  |_=>exact bx e
 |str i=>
  cases q with
  |str j=>
   replace e:(if ϒ (i.length+j.length<=lim) then τ (π (i++j)) else .bad)=.ok d:=e;split at e
   .rename_i hl;cases e;exact XS Ψ s σ H _ _ v u Q I rx ry ⟨i,j,rfl,rfl,lY hl,k.str⟩
   .exact bx e
  |_=>exact bx e
 |non=>exact bx e
 |bl _=>exact bx e
 |tup _ _=>exact bx e
 |dK _ _ _ _=>exact bx e
 |dT _ _ _ _=>exact bx e
 |exc _ _ _=>exact bx e
 |ins _ _ _=>exact bx e
 |cel _ _ _=>exact bx e
 |@lst a1 xs ds e1 p1 r1=>
  have hR:Rep All H (.ref a1) (.lst ds):=.lst e1 p1 r1;cases b with
  |lst es=>
   replace e:(if ϒ (ds.length+es.length<=lim)&&ε ds&&ε es then τ (ψ (ds++es)) else .bad)=.ok d:=e;split at e
   .rename_i hl;cases e;rw[aS,aS] at hl;obtain⟨⟨hl,hp1⟩,hp2⟩:=hl;obtain⟨l1,xs1,e1',rd1,rr1⟩:=hR.aMr;obtain⟨l2,xs2,rfl,rd2,rr2⟩:=q.aMr;cases e1';cases rx;cases ry;obtain⟨z,its,n,vr1,ee1⟩:=rd1.ok I.hok;obtain⟨z2,its2,n2,vr2,ee2⟩:=rd2.ok I.hok;have hz:xs1.length+xs2.length<=bo:=by rw[rr1.length,rr2.length];exact lY hl
    have t1:=vr1.length;have t2:=vr2.length;refine PySem.P.add_list ee1 ee2 ?_ (by rw[b9,b9];lia);have ea:its.toArray++its2.toArray=(its++its2).toArray:=by simp
    rw[ea];refine⟨.ref _,_,I.aTq (vr1.append vr2) (by rw[bq];lia),rfl,?_⟩;have sp:bW H (upd H s.heap.objs.size (.lst (xs1++xs2))):=bW.upd I.fresh;exact k _ _ sp (.lst aJ trivial ((rr1.append rr2).same sp)) λ_=>.lst aJ I.fresh (((rr1.bT hp1).append (rr2.bT hp2)).same sp)
   .exact bx e
  |_=>exact bx e
 |frz _ _=>exact bx e
theorem RK(h:OpR X f (rI C g))
 (hi:∀i j d,op (.int i) (.int j)=.ok d->C i j/\∃k,d=.int k/\g i j=.int k)(hn:∀a b d,op a b=.ok d->(∃i,a=.int i)/\∃j,b=.int j):OpR X f (r2 op ag):=by
 rintro Ψ s σ H x y v u Q I rx ry ⟨a,b,d,p,q,e,k⟩;obtain⟨⟨i,rfl⟩,⟨j,rfl⟩⟩:=hn a b d e;cases p.inv;cases q.inv;obtain⟨hc,m,rfl,hm⟩:=hi i j d e;exact h Ψ s σ H _ _ v u Q I rx ry ⟨i,j,rfl,rfl,hc,by rw[hm];exact k.int⟩
theorem yM(ho:o≠.add){a b d:D}(e:bJ o a b=.ok d):(∃i,a=.int i)/\∃j,b=.int j:=by
 cases a with
 |int i=>
  cases b with
  |int j=>exact⟨⟨i,rfl⟩,j,rfl⟩
  |_=>cases o<;>first|exact bx e|exact aT rfl ho
 |_=>cases o<;>first|exact bx e|exact aT rfl ho
theorem oG:OpR X (eI .Sub) (r2 (bJ .sub) ag):=by
 rintro Ψ s σ H x y v u Q I rx ry ⟨a,b,d,p,q,e,k⟩;obtain⟨⟨i,rfl⟩,j,rfl⟩:=yM 0x4 e;cases p.inv;cases q.inv;cases e;exact aM6 Ψ s σ H _ _ v u Q I rx ry ⟨_,_,rfl,rfl,k.int⟩
theorem aMs:OpR X (eI .Mult) (r2 (bJ .mul) ag):=by
 refine RK aM7 (λi j d e=>?_) λa b d e=>yM 0x4 e
 .replace e:(if iI i||iI j then τ (θ (i*j)) else .bad)=.ok d:=e;split at e
  .rename_i hl;cases e;refine⟨?_,_,rfl,rfl⟩;simp only[iI,i8,aS,cx] at hl;exact hl
  .exact bx e
theorem dJ:OpR X (eI .FloorDiv) (r2 (bJ .fdiv) ag):=by
 refine RK aI7 (λi j d e=>?_) λa b d e=>yM 0x4 e
 .replace e:(if ϒ (0<j)&&ϒ (j<1073741824) then τ (θ (i / j)) else .bad)=.ok d:=e;split at e
  .rename_i hl;cases e;refine⟨?_,_,rfl,rfl⟩;simp only[aS,cx] at hl;exact hl
  .exact bx e
theorem b8:OpR X (eI .Mod) (r2 (bJ .mod) ag):=by
 refine RK aM8 (λi j d e=>?_) λa b d e=>yM 0x4 e
 .replace e:(if ϒ (0<j) then τ (θ (i % j)) else .bad)=.ok d:=e;split at e
  .rename_i hl;cases e;refine⟨?_,_,rfl,rfl⟩;simp only[aS,cx] at hl;exact hl
  .exact bx e
theorem LC:UnR X (s_ .USub) (r1 aEd ag):=by
 rintro Ψ s σ H x v Q I rx ⟨a,d,p,e,k⟩;cases a<;>try exact bx e
 cases e;cases p.inv;exact Z7 Ψ s σ H _ v Q I rx ⟨_,rfl,k.int⟩
theorem kI(hu:X.A.units+20<dE):OpR X (em .Eq) (r2 (eG .eq) ag):=by
 rintro Ψ s σ H x y v u Q I rx ry ⟨a,b,d,p,q,e,k⟩;replace e:(if a.jC bB&&b.jC bB then τ (χ (eqD a b)) else .bad)=.ok d:=e;split at e
 .rename_i hl;cases e;rw[aS] at hl;exact(aAm I bB X.A (by have:bB=12:=rfl;lia) hl.1 hl.2 p q rx ry).1 X.prog X.w X.xe _ ⟨.bl _,H,I,rfl,k.bl⟩
 .exact bx e
theorem CJ(hu:X.A.units+20<dE):OpR X (em .NotEq) (r2 (eG .ne) ag):=by
 rintro Ψ s σ H x y v u Q I rx ry ⟨a,b,d,p,q,e,k⟩;replace e:(if a.jC bB&&b.jC bB then τ (χ (!eqD a b)) else .bad)=.ok d:=e;split at e
 .rename_i hl;cases e;rw[aS] at hl;exact(aAm I bB X.A (by have:bB=12:=rfl;lia) hl.1 hl.2 p q rx ry).2.1 X.prog X.w X.xe _ ⟨.bl _,H,I,rfl,k.bl⟩
 .exact bx e
theorem aMt:OpR X (em .Is) (r2 (eG .isN) ag):=by
 rintro Ψ s σ H x y v u Q I rx ry ⟨a,b,d,p,q,e,k⟩;have hb:b=.non:=by
  cases b with
  |non=>rfl
  |_=>cases a<;>exact bx e
 subst hb;cases q.inv;refine aM9 Ψ s σ H x .non v u Q I rx ry ⟨rfl,?_⟩;cases p<;>cases e<;>exact k.bl
end
end
variable [KFrag]
theorem aAp(k q:Key):eqD (kD k) (kD q)=ϒ (k=q):=by
 cases k<;>cases q<;>simp[kD,aMg,aMh,aMi,aMj,A5]
theorem aH4:∀(k q:ae Key),zK (k.map kD) (q.map kD)=ϒ (k=q)
 |[],[]=>by simp[zK]
 |[],_::_=>by simp[zK]
 |_::_,[]=>by simp[zK]
 |a::k,b::q=>by
  rw[bd,bd,zK,aAp,aH4 k q];by_cases h:a=b<;>by_cases h':k=q<;>simp[h,h']
theorem aIt(k q:ae Key):eqD (.tup (k.map kD)) (.tup (q.map kD))=ϒ (k=q):=by rw[aMk,aH4]
theorem aIu:∀{kvs:ae (Key×V)}{ds:ae (D×D)},gH P H kvs ds->(∃v d,DR kvs k=aa v/\cO ds (kD k)=aa d/\Rep P H v d)\/(DR kvs k=aj/\cO ds (kD k)=aj)
 |_,_,.nil=>.inr ⟨rfl,rfl⟩
 |_,_,.cons (k:=k') r t=>by
  by_cases h:k'=k
  .subst h;exact .inl ⟨_,_,sX rfl,by rw[cO,aAp,ao 0x2],r⟩
  .rw[cO,aAp,ax (by simpa using h),sY h];exact aIu t
theorem aIv:∀{kvs:ae (ae Key×V)}{ds:ae (D×D)},mZ P H kvs ds->(∃v d,DR kvs k=aa v/\cO ds (.tup (k.map kD))=aa d/\Rep P H v d)\/(DR kvs k=aj/\cO ds (.tup (k.map kD))=aj)
 |_,_,.nil=>.inr ⟨rfl,rfl⟩
 |_,_,.cons (k:=k') r t=>by
  by_cases h:k'=k
  .subst h;exact .inl ⟨_,_,sX rfl,by rw[cO,aIt,ao 0x2],r⟩
  .rw[cO,aIt,ax (by simpa using h),sY h];exact aIv t
theorem G5(h:gZ d=ag)(r:Rep All H v d):∃k,v=kV k/\d=kD k:=by
 cases r<;>simp[gZ] at h
 .exact⟨.inl _,rfl,rfl⟩
 .exact⟨.inr _,rfl,rfl⟩
theorem flat_keys:∀{vs:ae V}{ds:ae D},ds.all gZ=ag->bK All H vs ds->∃ks:ae Key,vs=ks.map kV/\ds=ks.map kD
 |_,_,_,.nil=>⟨[],rfl,rfl⟩
 |_,_,h,.cons r t=>by
  rw[i7,aS] at h;obtain⟨k,rfl,rfl⟩:=G5 h.1 r;obtain⟨ks,rfl,rfl⟩:=flat_keys h.2 t;exact⟨k::ks,rfl,rfl⟩
theorem jO(h:keyOk k=ag)(r:Rep All H y k):(∃q,y=kV q/\k=kD q)\/∃(b:al)(ks:ae Key),y=.ref b/\H b=aa (.tup (ks.map kV))/\k=.tup (ks.map kD):=by
 cases k<;>simp[keyOk] at h
 .exact .inl (G5 rfl r)
 .exact .inl (G5 rfl r)
 .obtain⟨a,xs,rfl,e,rr⟩:=r.jG;obtain⟨ks,rfl,rfl⟩:=flat_keys (ig.mpr h) rr;exact .inr ⟨a,ks,rfl,e,rfl⟩
theorem nW(k:Key):isTup (kD k)=ak:=by cases k<;>rfl
section
variable {a:al}
theorem G6(e:H a=aa o):upd (upd H a o') a o=H:=by
 rw[QT]
 funext b
 by_cases h:b=a
 .subst h;rw[aJ,e]
 .rw[aO h]
theorem nY(I:Inv X Ψ σ H s)(e:H a=aa (.dK [])):Inv X Ψ σ (upd H a (.dT [])) s:=by
 obtain⟨z,hd,vs,rel,o,es,ep,h1,h2,h3,h4,h5,h6⟩:=YF I.hok e;cases rel;refine I.write (by rw[e];trivial) (.inl rfl) (λ_ _ _ q=>q) ⟨o,h1⟩ ?_;refine⟨ef _,hd,[],.nil,o,es,ep,h1,h2,h3,?_,gj⟩;cases h5':es.toList with
 |nil=>rfl
 |cons _ _=>rw[h5'] at h5;cases h5
theorem k_(I:Inv X Ψ σ H s)(e:H a=aa (.dT [])):Inv X Ψ σ (upd H a (.dK [])) s:=by
 obtain⟨z,hd,vs,rel,o,es,ep,h1,h2,h3,h4,h5,h6⟩:=aIm I.hok e;cases rel;refine I.write (by rw[e];trivial) (.inl rfl) (λ_ _ _ q=>q) ⟨o,h1⟩ ?_;have h0:es.toList=[]:=h4;refine⟨ef _,hd,[],.nil,o,es,ep,h1,h2,h3,?_,?_,gj⟩
 .intro x hx;have:x∈es.toList:=by simpa using hx
  rw[h0] at this;cases this
 .rw[h0];exact .nil
theorem U6:∀{kvs:ae (Key×V)}{ds:ae (D×D)},gH P H kvs ds->∀p∈ds,isTup p.1=ak
 |_,_,.nil,_,h=>by cases h
 |_,_,.cons r t,p,h=>by
  rcases cg.mp h with rfl|h
  .exact nW _
  .exact U6 t p h
theorem U7:∀{kvs:ae (ae Key×V)}{ds:ae (D×D)},mZ P H kvs ds->∀p∈ds,isTup p.1=ag
 |_,_,.nil,_,h=>by cases h
 |_,_,.cons r t,p,h=>by
  rcases cg.mp h with rfl|h
  .rfl
  .exact U7 t p h
theorem aMu(I:Inv X Ψ σ H s)(rd:Rep All H x (.dct ds))(rk:Rep All H y k)(hk:yJ ds k=ag) :
  ∃H1 a o,x=.ref a/\Inv X Ψ σ H1 s/\(∀s',Inv X Ψ σ H1 s'->Inv X Ψ σ H s')/\aDn H1 a y o/\((o=aj/\cO ds k=aj)\/∃v d,o=aa v/\cO ds k=aa d/\Rep All H v d):=by
 unfold yJ at hk;rw[aS] at hk;obtain⟨h1,h2⟩:=hk;cases rd with
 |@dK a kvs ds e _ r n=>
  rcases jO h1 rk with ⟨q,rfl,rfl⟩|⟨b,ks,rfl,eb,rfl⟩
  .refine⟨H,a,_,rfl,I,λ_ h=>h,.k e,?_⟩;rcases aIu r with ⟨v,d,g1,g2,g3⟩|⟨g1,g2⟩
   .exact .inr ⟨v,d,g1,g2,g3⟩
   .exact .inl ⟨g1,g2⟩
  .cases r with
   |nil=>
    have e2:=G6 (o':=.dT []) e;refine⟨upd H a (.dT []),a,aj,rfl,nY I e,λs' I'=>?_,.t (k:=ks) aJ (by rw[aO (n8 eb e 0x7)];exact eb),.inl ⟨rfl,rfl⟩⟩;have:=k_ I' aJ;rwa [e2] at this
   |cons r t=>
    rw[i7,nW] at h2;simp[isTup] at h2
 |@dT a kvs ds e _ r n=>
  rcases jO h1 rk with ⟨q,rfl,rfl⟩|⟨b,ks,rfl,eb,rfl⟩
  .cases r with
   |nil=>
    have e2:=G6 (o':=.dK []) e;refine⟨upd H a (.dK []),a,aj,rfl,k_ I e,λs' I'=>?_,.k (k:=q) aJ,.inl ⟨rfl,rfl⟩⟩;have:=nY I' aJ;rwa [e2] at this
   |cons r t=>
    rw[i7,nW] at h2;simp[isTup] at h2
  .refine⟨H,a,_,rfl,I,λ_ h=>h,.t e eb,?_⟩;rcases aIv (k:=ks) r with ⟨v,d,g1,g2,g3⟩|⟨g1,g2⟩
   .exact .inr ⟨v,d,g1,g2,g3⟩
   .exact .inl ⟨g1,g2⟩
theorem aEi(rd:Rep All H x (.dct ds))(hk:keyOk k=ag)(h:cO ds k=aa d):yJ ds k=ag:=by
 have one:∀{ds:ae (D×D)},cO ds k=aa d->∃p∈ds,eqD p.1 k=ag:=by
  intro ds;induction ds with
  |nil=>intro h;cases h
  |cons p ds ih=>
   intro h;obtain⟨p1,p2⟩:=p;rw[cO] at h;by_cases hq:eqD p1 k=ag
   .exact⟨_,de ..,hq⟩
   .rw[ax hq] at h;obtain⟨p,hp,e⟩:=ih h;exact⟨p,dg _ hp,e⟩
 obtain⟨p,hp,he⟩:=one h;unfold yJ;rw[hk,mE,ig];intro q hq;have same:isTup p.1=isTup k:=by
  obtain⟨p1,p2⟩:=p;cases k with
  |int _=>cases p1<;>first|rfl|exact fx0 he
  |str _=>cases p1<;>first|rfl|exact fx0 he
  |tup _=>cases p1<;>first|rfl|exact fx0 he
  |_=>exact fx0 hk
 cases rd with
 |dK e _ r n=>rw[U6 r q hq,<-same,U6 r p hp];rfl
 |dT e _ r n=>rw[U7 r q hq,<-same,U7 r p hp];rfl
end
section
variable {X:Cx} {a b c e:Expr} {pos:ck} {fa fb:FE} {ra rb:aw}
def YJ(H:Hp)(u:am):D:=by
 classical
 exact if h:∃d,d.jC bB=ag/\∃v,RelV v u/\Rep All H v d then D0 h else .non
theorem G7(hq:d.jC bB=ag)(rv:RelV v u)(r:Rep All H v d):YJ H u=d:=by
 unfold YJ;have h:∃d,d.jC bB=ag/\∃v,RelV v u/\Rep All H v d:=⟨d,hq,v,rv,r⟩
 rw[wo h];obtain⟨h2,v',rv',r'⟩:=D1 h;have:=rv'.inj rv;subst this;exact Rep.inj bB h2 hq r' r
theorem RL{a:D}:∀{xs:ae V}{ds:ae D}{its:ae am},υ bB ds=ag->bK All H xs ds->Vals xs its->(its.any λu=>eqD (YJ H u) a)=ds.any λy=>eqD y a
 |_,_,_,_,.nil,.nil=>rfl
 |_,_,_,h,.cons r t,.cons v vt=>by
  rw[υ,aS] at h;rw[ka,ka,G7 h.1 v r,RL h.2 t vt]
theorem RM{s:au}(I:Inv X Ψ σ H s)(hu:X.A.units+20<dE){a:D}{x:V}{v:am}(ha:a.jC bB=ag)(rx:Rep All H x a)(rv:RelV x v)
 {xs:ae V}{ds:ae D}{its:ae am}(h:υ bB ds=ag)(r:bK All H xs ds)(vr:Vals xs its)(u:am)(hm:u∈its):EqAt X.A.in1 s u v (eqD (YJ H u) a):=by
 obtain⟨j,hj,e⟩:=List.getElem_of_mem hm;have hj':j<ds.length:=by rw[<-r.length,vr.length];exact hj
 obtain⟨w,h1,h2⟩:=r.get (i:=j) (d:=ds[j]) (by simp[hj']);obtain⟨u',h3,h4⟩:=vr.get h1;rw[dq hj,e] at h3;cases h3;have hd:ds[j].jC bB=ag:=by
  have:=u_ h hj';rwa [cj,dq hj'] at this
 rw[G7 hd h4 h2];exact(aAm I bB X.A.in1 (by show X.A.units+1+12<dE;lia) hd ha h2 rx h4 rv).2.2
theorem aQt(hu:X.A.units+20<dE):OpR X (em .In) (r2 (eG .isin) ag):=by
 rintro Ψ s σ H x y v u Q I rx ry ⟨a,b,d,p,q,e,k⟩;cases b with
 |tup ys=>
  replace e:(if a.jC bB&&υ bB ys then τ (χ (ys.any λy=>eqD y a)) else .bad)=.ok d:=e;split at e
  .rename_i hl;cases e;rw[aS] at hl;obtain⟨l,xs,rfl,ee,rr⟩:=q.jG;cases ry;obtain⟨its,vr,pl⟩:=m9 I ee;refine in_tupleAt (λu=>eqD (YJ H u) a) pl (λw hw=>RM I hu hl.1 p rx hl.2 rr vr w (by simpa using hw)) ⟨.bl _,H,I,rfl,?_⟩;rw[show its.toArray.any (λu=>eqD (YJ H u) a)=its.any (λu=>eqD (YJ H u) a) by simp,RL hl.2 rr vr];exact k.bl
  .cases e
 |lst ys=>
  replace e:(if a.jC bB&&υ bB ys then τ (χ (ys.any λy=>eqD y a)) else .bad)=.ok d:=e;split at e
  .rename_i hl;cases e;rw[aS] at hl;obtain⟨l,xs,rfl,ee,rr⟩:=q.m_;cases ry;obtain⟨its,vr,pl⟩:=xW I ee;refine in_listAt (λu=>eqD (YJ H u) a) pl (λw hw=>RM I hu hl.1 p rx hl.2 rr vr w (by simpa using hw)) ⟨.bl _,H,I,rfl,?_⟩;rw[show its.toArray.any (λu=>eqD (YJ H u) a)=its.any (λu=>eqD (YJ H u) a) by simp,RL hl.2 rr vr];exact k.bl
  .cases e
 |dct kvs=>
  replace e:(if yJ kvs a then τ (χ ((cO kvs a).isSome)) else .bad)=.ok d:=e;split at e
  .rename_i hl;cases e;obtain⟨H1,a1,o,rfl,I1,bk,g,hc⟩:=aMu I q p hl;cases ry;refine aTr 0x1 I1 g rx λs' I'=>⟨.bl _,H,bk s' I',rfl,?_⟩
   rcases hc with ⟨rfl,h2⟩|⟨w,dd,rfl,h2,_⟩
   .rw[h2] at k;exact k.bl
   .rw[h2] at k;exact k.bl
  .cases e
 |_=>exact bx e
theorem aH5(xs:ae α)(i:ai):L2.atI xs i=(ixD xs.length i).bind λj=>xs[j]?:=rfl
theorem bK.atI(r:bK P H xs ds)(h:((ixD ds.length i).bind λj=>ds[j]?)=aa d):∃v,L2.atI xs i=aa v/\Rep P H v d:=by
 rw[aH5,r.length];cases hi:ixD ds.length i with
 |none=>rw[hi] at h;cases h
 |some j=>
  rw[hi] at h;obtain⟨v,h1,h2⟩:=r.get h;exact⟨v,h1,h2⟩
theorem LK{a:al}{y v':V}{u:am}{Q:VK}(hu:X.A.units+20<dE)(I:Inv X Ψ σ H s)(g:aDn H a y (aa v'))(ry:RelV y u){H':Hp}
 (hs:wg slice ak (.ref a) u=ze [.ref a,u] (kT (.ref a) u))(bk:∀s',Inv X Ψ σ H s'->Inv X Ψ σ H' s')(q:Q v' H') :
  ϑ (ay X.prog X.w) X.A (wf value slice (.ref a) u) (EP X Ψ σ Q) X.xe s:=by
 have hT:=Q0 I g;unfold wf;refine aq ?_;rw[getitemInPython_of_ne hT.not_modules];refine aq (lu hT PySem.F.slot_dict_getitem.lookup ?_);have fin:ϑ (ay X.prog X.w) X.A (wg slice ak (.ref a) u) (λr s₃=>ϑ (ay X.prog X.w) X.A (letTemporaryGo value (.ref a) r >>= λ_=>pure r) (EP X Ψ σ Q) X.xe s₃) X.xe s:=by
  rw[hs];exact wpAny_operating (aA9 0x1 I g ry λw' s3 I3 rw'=>aq (wpAny_letTemporaryGo (bc ⟨v',H',bk s3 I3,rw',q⟩)))
 first
  |exact bc (aq fin)
  |exact aq (bc (aq fin))
  |exact aq fin
theorem U8:∀{ds:ae (D×D)},keyOk k=ag->cO ds k=aa d->∃p∈ds,isTup p.1=isTup k
 |[],_,h=>by cases h
 | (p1,p2)::ds,hk,h=>by
  rw[cO] at h;by_cases hq:eqD p1 k=ag
  .refine⟨_,de ..,?_⟩;cases k with
   |int _=>cases p1<;>first|rfl|exact fx0 hq
   |str _=>cases p1<;>first|rfl|exact fx0 hq
   |tup _=>cases p1<;>first|rfl|exact fx0 hq
   |_=>exact fx0 hk
  .rw[ax hq] at h;obtain⟨p,hp,e⟩:=U8 hk h;exact⟨p,dg _ hp,e⟩
theorem aMv(hK:KFrag.K=X.K)(hu:X.A.units+20<dE):IxR X (r2 getD ak):=by
 rintro value slice Ψ s σ H x y v u Q I rx ry ⟨a,b,d,p,q,e,k⟩ hs;cases a with
 |tup ys=>
  cases b<;>try exact bx e
  have e':=Res.lW e;obtain⟨l,xs,rfl,ee,rr⟩:=p.jG;cases q;obtain⟨w,h1,h2⟩:=rr.atI e';exact aMd value slice Ψ s σ H _ _ v u Q I rx ry ⟨l,xs,_,w,rfl,rfl,.of ee,h1,k.self h2 λz=>by cases z⟩ hs
 |lst ys=>
  cases b<;>try exact bx e
  have e':=Res.lW e;obtain⟨l,xs,rfl,ee,rr⟩:=p.m_;cases q;obtain⟨w,h1,h2⟩:=rr.atI e';exact oN value slice Ψ s σ H _ _ v u Q I rx ry ⟨l,xs,_,w,rfl,rfl,ee,h1,k.self h2 λz=>by cases z⟩ hs
 |cel ca ys=>
  cases b<;>try exact bx e
  have e':=Res.lW e;obtain⟨_,rfl,ee,pp,rr⟩:=p.inv;cases q;obtain⟨w,h1,h2⟩:=rr.atI e';exact oN value slice Ψ s σ H _ _ v u Q I rx ry ⟨_,_,_,w,rfl,rfl,.inl (.inl ee),h1,k.self h2 λz=>by cases z⟩ hs
 |scr ys=>
  cases b<;>try exact bx e
  have e':=Res.lW e;obtain⟨_,_,rfl,ee,rr⟩:=p.inv;cases q;obtain⟨w,h1,h2⟩:=rr.atI e';exact oN value slice Ψ s σ H _ _ v u Q I rx ry ⟨_,_,_,w,rfl,rfl,ee.sq hK,h1,k.self h2 λz=>by cases z⟩ hs
 |str z=>
  cases b<;>try exact bx e
  rename_i i;replace e:(if ϒ (z.length<=lim) then ο (((ixD z.cps.toList.length i).bind λj=>z.cps.toList[j]?).map λc=>π ⟨#[c]⟩) else .bad)=.ok d:=e;split at e
  .rename_i hl;have e':=Res.lW e;obtain⟨cc,h1,h2⟩:=i0.mp e';subst h2;cases p;cases q;exact aMe value slice Ψ s σ H _ _ v u Q I rx ry ⟨z,_,cc,rfl,rfl,lY hl,h1,k.str⟩ hs
  .cases e
 |dct kvs=>
  have e':keyOk b=ag/\cO kvs b=aa d:=by
   replace e:(if keyOk b then ο (cO kvs b) else .bad)=.ok d:=by cases b<;>exact e
   split at e
   .rename_i hl;exact⟨hl,Res.lW e⟩
   .exact bx e
  obtain⟨H1,a1,o,rfl,I1,bk,g,hc⟩:=aMu I p q (aEi p e'.1 e'.2);cases rx;rcases hc with ⟨rfl,h2⟩|⟨w,dd,rfl,h2,h3⟩
  .rw[h2] at e';cases e'.2
  .rw[h2] at e';cases e'.2;exact LK hu I1 g ry hs bk (k.self h3 λz=>by cases z)
 |_=>cases b<;>exact bx e
theorem aQ{X:Cx}{a b:Expr}{pos:ck}{fa fb:FE}{ra rb:aw}(ha:PE X a (gE fa ra))(hb:PE X b (gE fb rb))(hK:KFrag.K=X.K:=by assumption)(hu:X.A.units+20<dE:=by assumption)(hs:wQ b:=by exact λ_ _=>rfl):PE X (.Subscript a b pos) (gE (b2 getD fa fb) ak):=aQs (aMv hK hu) ha hb hs
noncomputable def gO(f:ae D->Res (ar ai)):TO:=λσ H Q=>∃ρ i,ER H σ ρ/\f ρ=.ok i/\∀H',bW H H'->Q i H'
theorem PO.imp{X:Cx}{e:ar PySem.Expr}{t t':TO}(h:PO X e t)(i:∀σ H Q,t' σ H Q->t σ H Q):PO X e t':=λΨ s σ H Q I q=>h Ψ s σ H Q I (i σ H Q q)
theorem fQ:PO X aj (gO g_):=PO.imp aIi λσ H Q z0=>by obtain⟨ρ,i,E,h,q⟩:=z0;cases h;exact q H (bW.refl H)
theorem fU(ha:PE X a (gE fa ra)):PO X (aa a) (gO (gF fa)):=PO.imp (aIj ha) λσ H Q z0=>by
 obtain⟨ρ,i,E,h,q⟩:=z0;obtain⟨x,h1,h⟩:=a_ h;obtain⟨j,h2,h⟩:=a_ h;cases h;have e:=aMq h2;subst e;exact⟨ρ,_,E,h1,λv H' s r _=>by cases r;exact⟨j,rfl,q H' s⟩⟩
theorem aH6(n d:ah)(o:ar ai):HT.sIx n d o=aH0 n d o:=by
 cases o with
 |none=>rfl
 |some v=>
  show(if v<0 then (v+(n:ai)).toNat else min v.toNat n)=(if v<0 then (max (v+(n:ai)) 0).toNat else (min v (n:ai)).toNat);split<;>lia
theorem bK.cut(r:bK P H xs ds)(lo hi:ar ai):bK P H (aE2 xs lo hi) (cutD ds lo hi):=by
 unfold aE2 cutD;rw[r.length];simp only[aH6];exact(r.drop _).take _
theorem cL:ε ds=ag↔∀d∈ds,d.pure=ag:=by
 induction ds with
 |nil=>simp[ε]
 |cons d ds ih=>rw[ε,aS,ih];simp
def rSl:V->ar ai->ar ai->Hp->VK->Prop:=λx lo hi H Q=>∃a d,Rep All H x a/\aQ1 a lo hi=.ok d/\kR H d ag Q
theorem aQv(hK:KFrag.K=X.K):SlR X rSl:=by
 rintro Ψ s σ H x v vl vu lo hi sl Q I rx hs pl pu ⟨a,d,p,e,k⟩;cases a<;>simp only[aQ1] at e<;>(try (cases e;done))
 .split at e
  .cases e
  .rename_i hw;cases e;obtain⟨l,xs,rfl,ee,rr⟩:=p.jG;refine aMc Ψ s σ H _ v vl vu lo hi sl Q I rx hs pl pu ⟨l,xs,rfl,.of ee,?_,λp hp=>?_⟩
   .simp only[aH6,rr.length];simp only[wq,i8,mI,Bool.not_eq_false',cx] at hw;exact hw.2
   .have sp:bW H (upd H p (.tup (aE2 xs lo hi))):=bW.upd hp;have hp2:ε ‹ae D›=ag:=by
     simp only[i8,mI,wq] at hw;simpa using hw.1
    exact k _ _ sp (.tup aJ ((rr.cut lo hi).same sp)) λz=>.tup aJ (((rr.bT hp2).cut lo hi).same sp)
 .split at e
  .rename_i hl;cases e;obtain⟨l,xs,rfl,ee,rr⟩:=p.m_;refine aA7 Ψ s σ H _ v vl vu lo hi sl Q I rx hs pl pu ⟨l,xs,rfl,ee,λp hp=>?_⟩;have sp:bW H (upd H p (.lst (aE2 xs lo hi))):=bW.upd hp;exact k _ _ sp (.lst aJ trivial ((rr.cut lo hi).same sp)) λz=>.lst aJ hp (((rr.bT hl).cut lo hi).same sp)
  .cases e
 .split at e
  .rename_i hl;cases e;cases p with
   |@frz l xs ds ee rr=>
    refine aA7 Ψ s σ H _ v vl vu lo hi sl Q I rx hs pl pu ⟨l,xs,rfl,ee.sq hK,λp hp=>?_⟩;have sp:bW H (upd H p (.lst (aE2 xs lo hi))):=bW.upd hp;exact k _ _ sp (.lst aJ trivial ((rr.cut lo hi).same sp)) λz=>.lst aJ hp (((rr.bT hl).cut lo hi).same sp)
  .cases e
end
end Mi
namespace PySem.Mm
open PySem PyProof.Rows PySem.W
theorem LQ{K:Type}[dP K]{knd:KeyKind prog w K}{d:al}{kvs:ae (K×am)}{ep n:ah}(hh:A.handled=aj)(lo:(d==gp)=ak)
 (hm:s.heap.DictAt knd d kvs ep)(hn:kvs.length=n)(hl:n<=2 ^ 24)
 (q:∀h' tk acc c,(∀b o,s.heap.get? b=aa o->h'.get? b=aa o)->h'.get? s.heap.objs.size=aa {cls:=.type "list",dict:=aj,data:=.seq acc c,slots:=#[]}->
   wr (λi v=>∃k x,kvs[i]?=aa (k,x)/\knd.is k v=ag) acc n->Q (.ref s.heap.objs.size) {s with heap:=h',toks:=tk}):ϑ (ay prog w) A (call (.type "list") [.ref d]) Q E s:=by
 subst hn;exact kdl_call (kdl_dict lo) hh hm (kdl_size hl) q
end PySem.Mm
namespace Mi
open PySem L2 PySem.SeqAt PySem.Spec PyProof.Rows
section
variable [KFrag]
section
variable {a b e:Expr} {x:Str} {id T:fR}
theorem jE(r:bK P H xs [d])(vr:Vals xs us):∃v u,xs=[v]/\us=[u]/\Rep P H v d/\RelV v u:=by
 cases r with
 |cons r t=>
  cases t;cases vr with
  |cons v vt=>
   cases vt;exact⟨_,_,rfl,rfl,r,v⟩
theorem U9{fr:aw}(h:gE (aZ f fs) fr σ H Q):tCB (rs f fr) (gA fs rr) σ H Q:=by
 obtain⟨ρ,d,E,h,q⟩:=h;obtain⟨ds,h1,h2⟩:=a_ h;exact⟨ρ,ds,E,h1,λvs H1 s1 r1 _=>⟨ds,d,r1,h2,q.imp s1 id⟩⟩
theorem bN{fr:aw}(hc:lR X (.builtin id) (rs f fr))(hg:Gl X x)(hm:X.mg x=aj)(hv:dS x=aa (.builtin id))(ha:PA X (e::es) (gA fs rr))(hn:autoParam (x ≠ "__name__") Λ)(hdb:autoParam (nDb x) Λ)
 (he:autoParam (zSE X e es) Ω)(hpl:autoParam (zSP X pos es) Ω):PE X (.Call (.Name x p) (e::es) [] pos) (gE (aZ f fs) fr):=
 PE.imp (sV hc hg hm hv ha hn hdb he hpl) λ_ _ _=>U9
theorem cX{fr:aw}(hc:lR X (.type T) (rs f fr))(hg:Gl X x)(hm:X.mg x=aj)(hv:dS x=aa (.type T))(ha:PA X (e::es) (gA fs rr))(hn:autoParam (x ≠ "__name__") Λ)(hdb:autoParam (nDb x) Λ)
 (he:autoParam (zSE X e es) Ω)(hpl:autoParam (zSP X pos es) Ω):PE X (.Call (.Name x p) (e::es) [] pos) (gE (aZ f fs) fr):=
 PE.imp (aA4 hc hg hm hv ha hn hdb he hpl) λ_ _ _=>U9
theorem eQ(hK:KFrag.K=X.K):lR X (.builtin "len") (rs kY ag):=by
 rintro Ψ s σ H xs us Q I vr ⟨ds,d,r,e,k⟩;unfold kY at e;split at e
 .cases e;obtain⟨vv,uu,rfl,rfl,r,v⟩:=jE r vr;obtain⟨l,ys,rfl,hl,rr⟩:=r.jG;cases v;exact j5 Ψ s σ H [.ref l] [.ref l] Q I (.cons rfl .nil) ⟨l,ys,rfl,.inr (.of hl),by rw[rr.length];exact k.int⟩
 .cases e;obtain⟨vv,uu,rfl,rfl,r,v⟩:=jE r vr;obtain⟨l,ys,rfl,hl,rr⟩:=r.m_;cases v;exact j5 Ψ s σ H [.ref l] [.ref l] Q I (.cons rfl .nil) ⟨l,ys,rfl,.inl hl,by rw[rr.length];exact k.int⟩
 .cases e;obtain⟨vv,uu,rfl,rfl,r,v⟩:=jE r vr;cases r with
  |@frz l xs ds ee rr=>
   cases v;exact j5 Ψ s σ H [.ref l] [.ref l] Q I (.cons rfl .nil) ⟨l,xs,rfl,.inl (ee.sq hK),by rw[rr.length];exact k.int⟩
 .cases e;obtain⟨vv,uu,rfl,rfl,r,v⟩:=jE r vr;obtain⟨_,rfl,ee,pp,rr⟩:=r.inv;cases v;exact j5 Ψ s σ H [.ref _] [.ref _] Q I (.cons rfl .nil) ⟨_,_,rfl,.inl (.inl (.inl ee)),by rw[rr.length];exact k.int⟩
 .split at e
  .rename_i hl;cases e;obtain⟨vv,uu,rfl,rfl,r,v⟩:=jE r vr;cases r.inv;exact KQ Ψ s σ H _ _ Q I (.cons v .nil) ⟨_,rfl,lY hl,k.int⟩
  .exact bx e
 .exact bx e
theorem gH.keys:∀{kvs:ae (Key×V)}{ds:ae (D×D)},gH P H kvs ds->bK P' H (kvs.map λp=>kV p.1) (aMo ds)
 |_,_,.nil=>.nil
 |_,_,.cons (k:=k) _ t=>.cons (by cases k<;>first|exact .int _|exact .str _) t.keys
theorem list_dict(hc:X.calm=ag)(I:Inv X Ψ σ H s)(e:H l=aa (.dK kvs))
 (q:∀p s',H p=aj->Inv X Ψ σ (upd H p (.lst (kvs.map λp=>kV p.1))) s'->(∀l0 o0,H l0=aa o0->l0≠p)->Q (.ref p) s'):ϑ (ay X.prog X.w) X.A (call (.type "list") [.ref l]) Q X.xe s:=by
 obtain⟨z,hd,vs,rel,dd⟩:=YF I.hok e;obtain⟨ep,da⟩:=dd.dictAt;have hlen:kvs.length=vs.length:=jo rel;refine Mm.LQ (I.ok.hd hc) hd da rfl (by rw[<-hlen];rw[dv] at z;lia) λh' tk acc' c' kp e1 it=>?_
 obtain⟨i1,i2⟩:=it;have hfr:H s.heap.objs.size=aj:=I.hok.fresh (bt _);refine q _ _ hfr (I.laid kp (bt _) ?_) λl0 o0 h0=>bL h0 hfr
 refine⟨by rw[az];exact z,acc'.toList,c',?_,by simpa using e1⟩;have gen:∀(kvs:ae (Key×V))(vs:ae (Key×am))(xs:ae am),KV kvs vs->xs.length=vs.length->(∀(j:ah)(v:am),xs[j]?=aa v->∃k x,vs[j]?=aa (k,x)/\(cN X.prog X.w).is k v=ag)->Vals (kvs.map λp=>kV p.1) xs:=by
  intro kvs vs xs rel;induction rel generalizing xs with
  |nil=>intro hl _;cases xs with|nil=>exact .nil|cons _ _=>simp at hl
  |@cons p q ps qs hpq t ih=>
   intro hl g;cases xs with
   |nil=>simp at hl
   |cons x xs=>
    refine .cons ?_ (ih xs (by simpa using hl) λj v hv=>g (j+1) v (by simpa using hv));obtain⟨k,x',h1,h2⟩:=g 0 x rfl;have h1':q=(k,x'):=by simpa using h1
    show RelV (kV p.1) x;rw[hpq.1,h1'];rcases cV h2 with ⟨i,t,rfl,rfl⟩|⟨i,t,rfl,rfl⟩
    .exact⟨t,rfl⟩
    .exact⟨t,rfl⟩
 exact gen kvs vs acc'.toList rel (by simpa using i1) λj v hv=>i2 j v (by simpa using hv)
theorem aIw(hc:X.calm=ag):lR X (.type "list") (rs aEe ag):=by
 rintro Ψ s σ H xs us Q I vr ⟨ds,d,r,e,k⟩;unfold aEe at e;split at e
 .split at e
  .rename_i hl;cases e;obtain⟨vv,uu,rfl,rfl,r,v⟩:=jE r vr;obtain⟨l,ys,rfl,hl',rr⟩:=r.jG;cases v;refine xU Ψ s σ H [.ref l] [.ref l] Q I (.cons rfl .nil) ⟨l,ys,rfl,.inr (.of hl'),λp hp=>?_⟩;have sp:bW H (upd H p (.lst ys)):=bW.upd hp;exact k _ _ sp (.lst aJ trivial (rr.same sp)) λ_=>.lst aJ hp ((rr.bT hl).same sp)
  .exact bx e
 .split at e
  .rename_i hl;cases e;obtain⟨vv,uu,rfl,rfl,r,v⟩:=jE r vr;obtain⟨l,ys,rfl,hl',rr⟩:=r.m_;cases v;refine xU Ψ s σ H [.ref l] [.ref l] Q I (.cons rfl .nil) ⟨l,ys,rfl,.inl hl',λp hp=>?_⟩;have sp:bW H (upd H p (.lst ys)):=bW.upd hp;exact k _ _ sp (.lst aJ trivial (rr.same sp)) λ_=>.lst aJ hp ((rr.bT hl).same sp)
  .exact bx e
 .split at e
  .rename_i hl;cases e;obtain⟨vv,uu,rfl,rfl,r,v⟩:=jE r vr;cases r with
   |@dK l kvs ds e _ r n=>
    cases v;refine list_dict hc I e λp s' hp I' _=>⟨.ref p,_,I',rfl,?_⟩
    have sp:bW H (upd H p (.lst (kvs.map λp=>kV p.1))):=bW.upd hp;exact k _ _ sp (.lst aJ trivial (r.keys.same sp)) λ_=>.lst aJ hp (r.keys.same sp)
   |@dT l kvs ds e _ r n=>
    cases v;cases r with
    |cons r t=>simp[isTup] at hl
    |nil=>
     have e2:=G6 (o':=.dK []) e;refine list_dict hc (k_ I e) aJ λp s' hp I' hne=>?_
     have hp':p≠l:=λz=>by subst z;rw[aJ] at hp;cases hp
     have hpn:H p=aj:=by rw[aO hp'] at hp;exact hp
     have hcm:upd (upd (upd H l (.dK [])) p (.lst [])) l (.dT [])=upd H p (.lst []):=by
      funext b
      by_cases hb:b=l
      .subst hb;rw[aJ,aO (Ne.symm hp'),e]
      .rw[aO hb];by_cases hb2:b=p
       .subst hb2;rw[aJ,aJ]
       .rw[aO hb2,aO hb2,aO hb]
     have I2:=nY I' (by rw[aO (Ne.symm hp'),aJ]);have I3:Inv X Ψ σ (upd H p (.lst [])) s':=by
      have:Inv X Ψ σ (upd (upd (upd H l (.dK [])) p (.lst [])) l (.dT [])) s':=I2;rwa [hcm] at this
     have sp:bW H (upd H p (.lst [])):=bW.upd hpn;exact⟨.ref p,_,I3,rfl,k _ _ sp (.lst aJ trivial .nil) λ_=>.lst aJ hpn .nil⟩
  .exact bx e
 .exact bx e
theorem fL:lR X (.type "tuple") (rs fJ ak):=by
 rintro Ψ s σ H xs us Q I vr ⟨ds,d,r,e,k⟩;unfold fJ at e;split at e
 .cases e;obtain⟨vv,uu,rfl,rfl,r,v⟩:=jE r vr;obtain⟨l,ys,rfl,hl',rr⟩:=r.jG;cases v;exact sW Ψ s σ H [.ref l] [.ref l] Q I (.cons rfl .nil) ⟨l,ys,rfl,.inr ⟨.of hl',k.self (.tup hl' rr) λz=>by cases z⟩⟩
 .cases e;obtain⟨vv,uu,rfl,rfl,r,v⟩:=jE r vr;obtain⟨l,ys,rfl,hl',rr⟩:=r.m_;cases v;refine sW Ψ s σ H [.ref l] [.ref l] Q I (.cons rfl .nil) ⟨l,ys,rfl,.inl ⟨hl',λp hp=>?_⟩⟩;have sp:bW H (upd H p (.tup ys)):=bW.upd hp;exact k _ _ sp (.tup aJ (rr.same sp)) λz=>by cases z
 .exact bx e
theorem isi(I:Inv X Ψ σ H s)(r:Rep All H v d)(ru:RelV v u)(h:aQr t d=.ok k)
 (q:∀tk,Q (.bool k) {s with toks:=tk}):ϑ (ay X.prog X.w) X.A (call (.builtin "isinstance") [u,.type t.nm]) Q X.xe s:=by
 have q0:Q (.bool k) s:=q s.toks;cases r with
 |non=>cases ru;cases t<;>cases h<;>first|exact IsiPair.NoneType_int (q _)|exact IsiPair.NoneType_str (q _)|exact IsiPair.NoneType_bool (q _)|exact IsiPair.NoneType_list (q _)|exact IsiPair.NoneType_tuple (q _)|exact IsiPair.NoneType_dict (q _)
 |bl b=>cases ru;cases t<;>cases h<;>first|exact IsiPair.bool_int q0|exact IsiPair.bool_str (q _)|exact IsiPair.bool_bool q0|exact IsiPair.bool_list (q _)|exact IsiPair.bool_tuple (q _)|exact IsiPair.bool_dict (q _)
 |int b=>obtain⟨tt,rfl⟩:=ru;cases t<;>cases h<;>first|exact IsiPair.int_int q0|exact IsiPair.int_str (q _)|exact IsiPair.int_bool (q _)|exact IsiPair.int_list (q _)|exact IsiPair.int_tuple (q _)|exact IsiPair.int_dict (q _)
 |str b=>obtain⟨tt,rfl⟩:=ru;cases t<;>cases h<;>first|exact IsiPair.str_int (q _)|exact IsiPair.str_str q0|exact IsiPair.str_bool (q _)|exact IsiPair.str_list (q _)|exact IsiPair.str_tuple (q _)|exact IsiPair.str_dict (q _)
 |tup e rr=>
  cases ru;obtain⟨its,vr,o,ho,hc,_⟩:=m9 I e;cases t<;>cases h<;>first|exact IsiPair.tuple_int ho hc (q _)|exact IsiPair.tuple_str ho hc (q _)|exact IsiPair.tuple_bool ho hc (q _)|exact IsiPair.tuple_list ho hc (q _)|exact IsiPair.tuple_tuple ho hc q0|exact IsiPair.tuple_dict ho hc (q _)
 |lst e p rr=>
  cases ru;obtain⟨its,vr,o,ho,hc,_⟩:=xW I (.of e);cases t<;>cases h<;>first|exact IsiPair.list_int ho hc (q _)|exact IsiPair.list_str ho hc (q _)|exact IsiPair.list_bool ho hc (q _)|exact IsiPair.list_list ho hc q0|exact IsiPair.list_tuple ho hc (q _)|exact IsiPair.list_dict ho hc (q _)
 |frz e rr=>cases t<;>exact bx h
 |exc n e q=>cases t<;>exact bx h
 |ins n e q=>cases t<;>exact bx h
 |cel e p rr=>cases t<;>exact bx h
 |dK e p rr n=>
  cases ru;obtain⟨_,_,_,_,o,_,_,ho,hx,_⟩:=YF I.hok e;have hc:=hx.1;cases t<;>cases h<;>first|exact BH ho hc (q _)|exact BI ho hc (q _)|exact BM ho hc (q _)|exact BN ho hc (q _)|exact BO ho hc (q _)|exact BQ ho hc q0
 |dT e p rr n=>
  cases ru;obtain⟨_,_,_,_,o,_,_,ho,hx,_⟩:=aIm I.hok e;have hc:=hx.1;cases t<;>cases h<;>first|exact BH ho hc (q _)|exact BI ho hc (q _)|exact BM ho hc (q _)|exact BN ho hc (q _)|exact BO ho hc (q _)|exact BQ ho hc q0
def aTw(t:Ty):ae V->Hp->VK->Prop:=λxs H Q=>∃v d k,xs=[v,.ty t.nm]/\Rep All H v d/\aQr t d=.ok k/\Q (.bl k) H
theorem aMw(t:Ty):lR X (.builtin "isinstance") (aTw t):=by
 rintro Ψ s σ H xs us Q I vr ⟨v,d,k,e,r,h,q⟩;subst e;cases vr with
 |cons rv vt=>
  cases vt with
  |cons rt vt=>
   cases vt;cases rt;exact isi I r rv h λtk=>⟨.bl k,H,I.tok tk,rfl,q⟩
theorem LR(t:Ty)(ha:PE X a (gE fa ra))(hg:Gl X "isinstance")(hm:X.mg "isinstance"=aj)(hv:dS "isinstance"=aa (.builtin "isinstance"))(gy:Gl X y)(my:X.mg y=aj)(vy:dS y=aa (.type t.nm))
 (hy:autoParam (y ≠ "__name__") Λ)(hyd:autoParam ((y==("__debug__" : Str))=ak) Λ)
 (he:autoParam (b5 [a,.Name y p2] X.env=(ak,eval a X.env)::b5 [.Name y p2] X.env) Ω)(he2:autoParam (b5 [.Name y p2] X.env=(ak,eval (.Name y p2) X.env)::b5 [] X.env) Ω)
 (hpl:autoParam ((fF pos (b5 [.Name y p2] X.env)).any (·.1)=ak) Ω):PE X (.Call (.Name "isinstance" p) [a,.Name y p2] [] pos) (gE (b1 (K5 t) fa) ag):=
 PE.imp (sV (aMw t) hg hm hv (aY ha (aY (ZZ gy my vy (v:=.ty t.nm) rfl hy hyd) dC he2) he) 0x4 0x4 he hpl) λσ H Q z0=>by
  obtain⟨ρ,d,E,h,q⟩:=z0;obtain⟨x,h1,h⟩:=a_ h;obtain⟨k,h2,h⟩:=a_ h;cases h;exact⟨ρ,x,E,h1,λv H1 s1 r1 _=>⟨v,x,k,rfl,r1,h2,(q.imp s1 id).bl⟩⟩
theorem aIx{ro fr:aw}{name:Str}{apos cpos:ck}{f:D->ae D->Res D}(pa:zh T)(slot:lf T name id)(hty:ow (.builtin id)=pure (.type "method_descriptor"))(hm:MtR X id (rm f fr))(ho:PE X o (gE fo ro))(ha:PA X (e::es) (gA fs rr))
 (hT:∀(d:D) (ds:ae D) (r:D) (v:V) (H:Hp),f d ds=.ok r->Rep All H v d->tyV X.K T v H)
 (hbase:autoParam (fx o name X.env (eval o X.env)=eval o X.env) Ω)
 (hfew:autoParam (zFw X cpos (e::es)) Ω)
 (hline:autoParam ((apos.endLine==cpos.line)=ag) Ω)(hs:autoParam (zSE X e es) Ω)(hplain:autoParam (zSP X cpos es) Ω) :
  PE X (.Call (.Attribute o name apos) (e::es) [] cpos) (gE (bM f fo fs) fr):=
 PE.imp (GX pa slot hty hm ho ha hbase hfew hline hs hplain) λσ H Q z0=>by
  obtain⟨ρ,d,E,h,q⟩:=z0;obtain⟨x,h1,h⟩:=a_ h;obtain⟨ds,h2,h⟩:=a_ h;exact⟨ρ,x,E,h1,λv H1 s1 r1 _=>⟨hT x ds d v H1 h r1,ρ,ds,E.same s1,h2,λvs H2 s2 r2 _=>⟨x,ds,d,r1.same s2,r2,h,q.imp (s1.trans s2) λz=>z⟩⟩⟩
noncomputable def spD(f:ae D->Res D)(n:ah):Sp:=λvs H Q _=>∃ds d,ds.length=n/\bK All H vs ds/\f ds=.ok d/\kR H d ag Q
theorem aIy{E:XK}(h:spD f n vs H Q E):vs.length=n:=by
 obtain⟨ds,d,h1,r,_⟩:=h;rw[r.length,h1]
theorem aIz(F:mO X.prog X.w X.K X.mg X.base CX0 k fad fd ps (spD f n))(hr:mW k X.A)(hg:Gl X x)(hm:X.mg x=aa (.ref fad))(hk:gw X.K (.ref fad)=ag)(hb:Binds X.K fd ps [])
 (ha:PA X (e::es) (gA fs rr))(hdb:autoParam (nDb x) Λ)(he:autoParam (zSE X e es) Ω)(hpl:autoParam (zSP X pos es) Ω) :
  PE X (.Call (.Name x p) (e::es) [] pos) (gE (aZ (sG n f) fs) ag):=
 PE.imp (aA2 F hr hg hm hk hb .nil aEa ha hdb he hpl) λσ H Q z0=>by
  obtain⟨ρ,d,E,h,q⟩:=z0;obtain⟨ds,h1,h⟩:=a_ h;unfold sG at h;split at h
  .rename_i hl;exact⟨ρ,ds,E,h1,λvs H1 s1 r1 _=>⟨ds,d,d5 hl,by rw[cv];exact r1,h,q.imp s1 id⟩⟩
  .exact bx h
end
end
noncomputable def L_(x:Str):ae D:=x.cps.toList.map λc=>π ⟨#[c]⟩
section
variable [KFrag]
noncomputable def aQw(x:Str):It:=⟨λi _=>i<x.cps.size,λi H v H'=>H'=H/\∃c,x.cps[i]?=aa c/\v=.str ⟨#[c]⟩,λi _=>x.cps.size<=i⟩
structure ItQ(K:bi)(P:al->Prop)(J:It)(H:Hp)(items:ae D):Prop where
 it:∀(P':al->Prop)(H':Hp),sJ P H H'->(∀a o,H a=aa o->P a->P' a)->(∀i,items.length<=i->J.stop i H')/\∀i d,items[i]?=aa d->J.go i H'/\∀x H'',J.yld i H' x H''->bW H' H''/\Rep P' H'' x d
section
variable {K:bi} {P P':al->Prop} {J:It} {H H':Hp} {items:ae D}
theorem ItQ.keep'(h:ItQ K P J H items)(k:sJ P H H')(m:∀a o,H a=aa o->P a->P' a):ItQ K P' J H' items:=
 ⟨λP2 H2 k2 m2=>h.it P2 H2 (λa o e hp=>k2 a o (k a o e hp) (hp.imp (m a o e) id)) λa o e hp=>m2 a o (k a o e (.inl hp)) (m a o e hp)⟩
theorem ItQ.keep(h:ItQ K P J H items)(k:sJ P H H')(m:∀a,P a->P' a):ItQ K P' J H' items:=h.keep' k λa _ _=>m a
theorem ItQ.stop(h:ItQ K P J H items)(hi:items.length<=i):J.stop i H:=(h.it P H (λ_ _ e _=>e) λ_ _ _ hp=>hp).1 i hi
theorem ItQ.go(h:ItQ K P J H items)(hi:items[i]?=aa d):J.go i H/\∀x H',J.yld i H x H'->bW H H'/\Rep P H' x d:=(h.it P H (λ_ _ e _=>e) λ_ _ _ hp=>hp).2 i d hi
theorem ItQ.lst(a:al)(e:J=Itl K a)(r:Rep P H (.ref a) (.lst items)):ItQ K P J H items:=by
 refine⟨λP H kk mm=>?_⟩;have r:=r.aAi kk mm;refine⟨λi hi=>?_,λi d hi=>?_⟩
 .subst e;obtain⟨a',xs,e,hq,rr⟩:=r.m_;cases e;exact⟨xs,hq,by rw[rr.length];exact hi⟩
 .subst e;obtain⟨a',xs,e,hq,rr⟩:=r.m_;cases e;obtain⟨v,h1,h2⟩:=rr.get hi;refine⟨⟨xs,v,hq,h1⟩,λx H' ⟨e,hy⟩=>?_⟩;subst e;refine⟨bW.refl _,?_⟩;have:=hy xs hq;rw[h1] at this;cases this;exact h2
theorem ItQ.tup(a:al)(e:J=Itt K a)(r:Rep P H (.ref a) (.tup items)):ItQ K P J H items:=by
 refine⟨λP H kk mm=>?_⟩;have r:=r.aAi kk mm;refine⟨λi hi=>?_,λi d hi=>?_⟩
 .subst e;obtain⟨a',xs,e,hq,rr⟩:=r.jG;cases e;exact⟨xs,.of hq,by rw[rr.length];exact hi⟩
 .subst e;obtain⟨a',xs,e,hq,rr⟩:=r.jG;cases e;obtain⟨v,h1,h2⟩:=rr.get hi;refine⟨⟨xs,v,.of hq,h1⟩,λx H' ⟨e,hy⟩=>?_⟩;subst e;refine⟨bW.refl _,?_⟩;have:=hy xs (.of hq);rw[h1] at this;cases this;exact h2
theorem ItQ.rng(lo:ai)(n:ah)(e:J=Itr lo n)(r:items=(aE n).map λ(k:ah)=>θ (lo+k)):ItQ K P J H items:=by
 refine⟨λP H k m=>?_⟩;refine⟨λi hi=>?_,λi d hi=>?_⟩
 .subst e r;show n<=i;simpa using hi
 .subst e r;have hlt:i<n:=by
   have:=(dA.mp hi).1;simpa using this
  refine⟨hlt,λx H' ⟨e,hy⟩=>?_⟩;subst e;have e2:θ (lo+(i:ai))=d:=by simpa[hlt] using hi
  rw[hy,<-e2];exact⟨bW.refl _,.int _⟩
theorem ItQ.chs(z:Str)(e:J=aQw z)(r:items=L_ z):ItQ K P J H items:=by
 refine⟨λP H k m=>?_⟩;refine⟨λi hi=>?_,λi d hi=>?_⟩
 .subst e r;show z.cps.size<=i;simpa[L_] using hi
 .subst e r;have hlt:i<z.cps.size:=by
   have:=(dA.mp hi).1;simpa[L_] using this
  refine⟨hlt,λx H' ⟨e,c,hc,hv⟩=>?_⟩;subst e hv;refine⟨bW.refl _,?_⟩;have e2:π ⟨#[c]⟩=d:=by
   unfold L_ at hi;rw[ib,zi,hc] at hi;simpa using hi
  rw[<-e2];exact .str _
end
noncomputable def gI(K:bi)(f:FI):TI:=λσ H R=>∃ρ items k,ER H σ ρ/\f ρ=.ok (items,k)/\∀J H1,bW H H1->ItQ K All J H1 items->(k=ag->ItQ K (New H) J H1 items)->R J H1
def gIV(K:bi)(i:ah):TI:=λσ H R=>∃v d items,σ[i]?=aa (aa v)/\Rep All H v d/\zM d=.ok items/\∀J,(∀P:al->Prop,Rep P H v d->ItQ K P J H items)->R J H
section
variable {X:Cx} {tg l a b:Expr} {rr:aw} {fs:FA} {p pos:ck}
theorem U_(I1:Inv X Ψ σ H1 s1)(r:Rep All H1 v d)(ru:RelV v u)(hi:zM d=.ok items)
 (q:∀J,(∀P:al->Prop,Rep P H1 v d->ItQ X.K P J H1 items)->R J H1):ϑ (ay X.prog X.w) X.A (l9 u) (PIE X Ψ σ tg R) X.xe s1:=by
 cases d<;>simp only[zM] at hi<;>cases hi
 .obtain⟨a,xs,rfl,e,rr⟩:=r.jG;cases ru;obtain⟨its,rv,p,hz⟩:=I1.tuple (.of e);refine BS (show s1.heap.IsTuple a its.toArray from p) ?_;refine⟨s1.heap.objs.size,[s1.heap.objs.size],_,_,H1,rfl,I1.kept λb o e=>bX _ e,XN a _,⟨_,dh _ rfl,rfl,rfl⟩,λb hb=>?_,q _ λP r=>.tup a rfl r⟩;have e:b=s1.heap.objs.size:=by simpa using hb
  subst e;exact I1.aLj (bt _) (I1.hok.fresh (bt _))
 .obtain⟨a,xs,rfl,e,rr⟩:=r.m_;cases ru;obtain⟨its,rv,p,hz⟩:=I1.list e;refine mM p.isList ?_;refine⟨s1.heap.objs.size,[s1.heap.objs.size],_,_,H1,rfl,I1.kept λb o e=>bX _ e,J8 a _,⟨_,dh _ rfl,rfl,rfl⟩,λb hb=>?_,q _ λP r=>.lst a rfl r⟩;have e:b=s1.heap.objs.size:=by simpa using hb
  subst e;exact I1.aLj (bt _) (I1.hok.fresh (bt _))
theorem aMx(hN:X.N[i]?=aa x)(hv:Vis X.env.scope x)(hd:autoParam (nDb x) Λ)(hcd:autoParam (nCd x) Λ):PI X tg (.Name x pos) (gIV X.K i):=by
 rintro Ψ s σ H R I ⟨v,d,items,hσ,r,hi,q⟩;exact thn (aW hN hv hd hcd Ψ s σ H (λw H1=>w=v/\H1=H) I ⟨v,hσ,rfl,rfl⟩) λu s1 z0=>by
  obtain⟨w,H1,I1,ru,e1,e2⟩:=z0;subst e1 e2;exact U_ I1 r ru hi q
theorem DX(h:oO i=ag):-(2 ^ 62)<=i/\i<2 ^ 62:=by
 simp only[oO,aS,cx] at h;exact h
theorem PI.imp(h:PI X tg l w)(i:∀σ H R,w' σ H R->w σ H R):PI X tg l w':=λΨ s σ H R I q=>h Ψ s σ H R I (i σ H R q)
theorem kJ(hg:Gl X "range")(hm:X.mg "range"=aj)(ha:PA X [a] (gA fs rr))(hs:autoParam (b5 [a] X.env=[(ak,eval a X.env)]) Ω):PI X tg (.Call (.Name "range" p) [a] [] pos) (gI X.K (lX fs jN)):=
 PI.imp (J9 hg hm ha hs) λσ H R z0=>by
  obtain⟨ρ,items,k,E,h,q⟩:=z0;obtain⟨xs,h1,h⟩:=a_ h;unfold jN at h;split at h
  .split at h
   .rename_i hb;cases h;obtain⟨b1,b2⟩:=DX hb;refine⟨ρ,_,E,h1,λvs H1 s1 r1 _=>?_⟩;cases r1 with
    |cons r t=>
     cases t;cases r.inv;exact⟨_,rfl,b1,b2,q _ H1 s1 (.rng 0 _ rfl rfl) λ_=>.rng 0 _ rfl rfl⟩
   .exact bx h
  .exact bx h
end
theorem aEj(n:ah)(ρ bs:ae D)(i:ah)(h:i<n):(UV n ρ++bs).getD i .uD=ρ.getD i .uD:=by
 rw[cj,eu (by simp[UV];exact h)];simp[UV,h]
theorem VB(n:ah)(ρ:ae D):(UV n ρ).length=n:=by simp[UV]
def TgC(g:TG)(t:D->Res (ae D))(n m:ah):Prop:=∀(v:V)(d:D)(bs:ae D)(σ:L2.St)(H:Hp)(Q:L2.St->Hp->Prop),σ.length=n->Rep All H v d->t d=.ok bs->
 (∀σ2,Ext (σ++cq m aj) σ2->(∀j b,bs[j]?=aa b->∃w,σ2[n+j]?=aa (aa w)/\Rep All H w b)->Q σ2 H)->g v (σ++cq m aj) H Q
theorem ER.ext(E:ER H σ ρ)(hn:σ.length=n)(x:Ext (σ++cq m aj) σ2)(hb:∀j b,bs[j]?=aa b->∃w,σ2[n+j]?=aa (aa w)/\Rep All H w b):ER H σ2 (UV n ρ++bs):=by
 intro i hi;by_cases h:i<n
 .rw[aEj n ρ bs i h] at hi ⊢;obtain⟨v,h1,h2⟩:=E i hi;exact⟨v,x.2 i v (by rw[eu (by rw[hn];exact h)];exact h1),h2⟩
 .have e:(UV n ρ++bs).getD i .uD=bs.getD (i-n) .uD:=by
   rw[cj,fI (by rw[VB];lia),VB,<-cj]
  rw[e] at hi ⊢;cases hq:bs[i-n]? with
  |none=>rw[cj,hq] at hi;exact aT rfl hi
  |some b=>
   obtain⟨w,h1,h2⟩:=hb (i-n) b hq;rw[cj,hq];exact⟨w,by rw[<-h1];congr 1;lia,h2⟩
theorem v_{K:bi}{n m:ah}{g:TG}{tc:TT}(tg:TgC g t n m)(hc:∀σ H Q,gT c σ H Q->tc σ H Q){σ:L2.St}{H:Hp}{Q:VK}(hn:σ.length=n)(h:gE (dB n it t c f k) ag σ H Q) :
  K7 (gI K it) g tc (gE f k) m σ H Q:=by
 obtain⟨ρ,d,E,h,q⟩:=h;obtain⟨⟨items,kk⟩,h1,h⟩:=a_ h;split at h
 .rename_i hlim;obtain⟨ys,h2,h⟩:=a_ h;cases h;refine⟨ρ,items,kk,E,h1,λJ H1 s1 hJ _ p hp=>?_⟩;have hp0:H p=aj:=s1.free hp;refine⟨λi n' vs H'=>n'=items.length-i/\i<=items.length/\H' p=aa (.lst vs)/\bW H1 H'/\∃acc,acc.length<=i/\bK (λa=>H a=aj/\a≠p) H' vs acc/\oW (K6 n t c f k ρ) acc (items.drop i)=.ok ys,⟨items.length,?_⟩,?_⟩
  .exact⟨rfl,ef _,aJ,bW.upd hp,[],ef _,.nil,h2⟩
  .rintro i n' vs H' ⟨rfl,hi,hH,sm,acc,hal,racc,hf⟩;refine⟨hH,?_⟩;have hJ':ItQ K All J H' items:=hJ.keep (.same sm) λ_ z=>z
   rcases lq i items.length with hlt|hge
   .refine .inr ?_;have e:items[i]?=aa items[i]:=dq hlt;obtain⟨g1,g2⟩:=hJ'.go e;have hl1:items.length<=lim:=d5 hlim;refine⟨g1,?_,λx H2 hy=>?_⟩
    .rw[racc.length];exact oI hal (dQ hlt (dj hl1 (by rw[dv];decide)))
    .obtain⟨sH,rx⟩:=g2 x H2 hy;have hH:=sH p _ hH;have sm:=sm.trans sH;have racc:=racc.same sH;rw[ii hlt] at hf;obtain⟨acc2,hs,hf⟩:=a_ hf;obtain⟨bs,hb,hs⟩:=a_ hs;obtain⟨ok,hok,hs⟩:=a_ hs;refine tg x items[i] bs σ H2 _ hn rx hb λσ2 hx hbs=>⟨hx,hc _ _ _ ?_⟩
     have E2:ER H2 σ2 (UV n ρ++bs):=(E.same (s1.trans sm)).ext hn hx hbs;refine⟨_,ok,E2,hok,λH4 s4=>?_⟩;cases ok with
     |true=>
      rw[ao rfl];rw[ao rfl] at hs;obtain⟨y,hy2,hs⟩:=a_ hs;split at hs
      .rename_i hk;cases hs;refine⟨_,y,E2.same s4,hy2,λw H5 s5 r5 n5=>⟨s5 p _ (s4 p _ hH),items.length-(i+1),by lia,rfl,hlt,aJ,?_,acc++[y],?_,?_,hf⟩⟩
       .exact λb o e=>by
         rw[aO (bL e hp)];exact s5 b o (s4 b o (sm b o e))
       .rw[bq,eB];lia
       .have hp5:H5 p=aa (.lst vs):=s5 p _ (s4 p _ hH);have ry:Rep (λa=>H a=aj/\a≠p) H5 w y:=by
         rw[i8] at hk;rcases hk with hk|hk
         .exact(n5 hk).mono λa ha=>⟨((s1.trans sm).trans s4).free ha,λz=>by subst z;have h0:=s4 _ _ hH;rw[show H4 _=aj from ha] at h0;cases h0⟩
         .exact r5.bT hk
        have all:bK (λa=>H a=aj/\a≠p) H5 (vs++[w]) (acc++[y]):=(racc.same (s4.trans s5)).snoc ry;refine all.keep (λb o e hb=>?_) λ_ z=>z
        rw[aO]
        .exact e
        .rcases hb with hb|hb
         .exact hb.2
         .intro z;subst z;rw[hp5] at e;cases e;cases hb
      .exact bx hs
     |false=>
      rw[ax 0x2];rw[ax 0x2] at hs;cases hs;exact⟨items.length-(i+1),by lia,rfl,hlt,s4 p _ hH,sm.trans s4,acc,by lia,racc.same s4,hf⟩
   .refine .inl ⟨hJ'.stop hge,?_⟩;rw[ik hge] at hf;cases hf;exact q _ _ (s1.trans sm) (.lst hH trivial racc.all) λ_=>.lst hH hp0 (racc.mono λa z=>z.1)
 .exact bx h
def gIx:ae ah->TGs
 |[]=>aPu
 |i::is=>XM (fG i) (gIx is)
noncomputable def YK:ae ah->ae V->L2.St->L2.St
 |i::is,v::vs,σ=>YK is vs (σ.set i (aa v))
 |_,_,σ=>σ
theorem RN:∀(is:ae ah)(vs:ae V)(σ:L2.St),vs.length=is.length->Q (YK is vs σ) H->gIx is vs σ H Q
 |[],[],σ,_,q=>⟨rfl,q⟩
 |i::is,v::vs,σ,h,q=>⟨v,vs,rfl,RN is vs (σ.set i (aa v)) (by simpa using h) q⟩
 |[],_::_,_,h,_=>by simp at h
 |_::_,[],_,h,_=>by simp at h
theorem dD(n:ah):TgC (fG n) lO n 1:=by
 intro v d bs σ H Q hn r h q;cases h;have hl:(σ++cq 1 (aj:ar V)).length=n+1:=by simp[hn]
 refine q _ ⟨by simp,λi w hi=>?_⟩ λj b hj=>?_
 .have:i≠n:=λz=>by
   subst z;rw[fI 0x1] at hi;simp[hn] at hi
  rw[dm (Ne.symm this)];exact hi
 .have e:j=0:=by
   have:=(dA.mp hj).1;simp at this;exact this
  subst e;have e:d=b:=by simpa using hj
  subst e;exact⟨v,by rw[zr,eD 0x1],r⟩
section
theorem aJ0(S:cG X.N X.env.scope scope ownN)(hn:X.N.length=n)(hm:ownN.length=m)(hcalm:X.calm=ag)(hi:PI X tg iter (gI X.K it))(ht:TgC g t n m)(hg:∀X',dF X X' scope ownN->PG X' tg g)(he:∀X',dF X X' scope ownN->PE X' elt (gE fe re))
 (hs:∀x,en iter X.env x=pure x):PE X (.ListComp elt [⟨tg,iter,[],0⟩] scope pos) (gE (dB n it t gG fe re) ag):=by
 intro Ψ s σ H Q I h;subst hm;exact aEh S hcalm hi hg he hs Ψ s σ H Q I (v_ ht (λσ H Q h=>by obtain⟨ρ,b,E,h,q⟩:=h;cases h;exact q H (bW.refl H)) (I.len.trans hn) h)
theorem aAq(S:cG X.N X.env.scope scope ownN)(hn:X.N.length=n)(hm:ownN.length=m)(hcalm:X.calm=ag)(hi:PI X tg iter (gI X.K it))(ht:TgC g t n m)(hg:∀X',dF X X' scope ownN->PG X' tg g)(hc:∀X',dF X X' scope ownN->PT X' c (gT gc))(he:∀X',dF X X' scope ownN->PE X' elt (gE fe re))
 (hs:∀x,en iter X.env x=pure x):PE X (.ListComp elt [⟨tg,iter,[c],0⟩] scope pos) (gE (dB n it t gc fe re) ag):=by
 intro Ψ s σ H Q I h;subst hm;exact aAl S hcalm hi hg hc he hs Ψ s σ H Q I (v_ ht (λσ H Q h=>h) (I.len.trans hn) h)
end
end
variable [KFrag]
theorem gH.bT:∀{v:ae (Key×V)}{d:ae (D×D)},gH P H v d->ε (d.map (·.2))=ag->gH P' H v d
 |_,_,.nil,_=>.nil
 |_,_,.cons r t,h=>by
  rw[bd,ε,aS] at h;exact .cons (r.bT h.1) (t.bT h.2)
theorem mZ.bT:∀{v:ae (ae Key×V)}{d:ae (D×D)},mZ P H v d->ε (d.map (·.2))=ag->mZ P' H v d
 |_,_,.nil,_=>.nil
 |_,_,.cons r t,h=>by
  rw[bd,ε,aS] at h;exact .cons (r.bT h.1) (t.bT h.2)
theorem Rep.wV(r:Rep P H (.ref a) d)(h:inner d=ag)(hp:P' a):Rep P' H (.ref a) d:=by
 cases r with
 |tup e r=>cases h
 |lst e p r=>exact .lst e hp (r.bT h)
 |cel e p r=>exact .cel e hp (r.bT h)
 |frz e r=>cases h
 |dK e p r n=>exact .dK e hp (r.bT h) n
 |dT e p r n=>exact .dT e hp (r.bT h) n
 |exc n e q=>cases h
 |ins n e q=>cases h
def Own(own:ah->aw)(σ:L2.St)(a:al):Prop:=∃i,own i=ag/\σ[i]?=aa (aa (.ref a))
structure ES(own:ah->aw)(H:Hp)(σ:L2.St)(ρ:ae D):Prop where
 len:σ.length=ρ.length
 at_:∀i,ρ.getD i .uD≠.uD->∃v,σ[i]?=aa (aa v)/\(own i=ak->Rep (λa=>¬Own own σ a) H v (ρ.getD i .uD))
 own:∀i v,own i=ag->σ[i]?=aa (aa v)->∃a o,v=.ref a/\Rep All H v (ρ.getD i .uD)/\inner (ρ.getD i .uD)=ag/\H a=aa o/\Q9 o=ag/\∀j,own j=ag->σ[j]?=aa (aa (.ref a))->j=i
variable {own:ah->aw}
theorem ES.er(e:ES own H σ ρ):ER H σ ρ:=λi hi=>by
 obtain⟨v,h1,h2⟩:=e.at_ i hi;cases ho:own i with
 |false=>exact⟨v,h1,(h2 ho).all⟩
 |true=>
  obtain⟨a,o,_,h3,_⟩:=e.own i v ho h1;exact⟨v,h1,h3⟩
theorem ES.live(e:ES own H σ ρ)(h:Own own σ a):∃o,H a=aa o/\Q9 o=ag:=by
 obtain⟨i,hi,hs⟩:=h;obtain⟨b,o,eb,_,_,h3,h4,_⟩:=e.own i _ hi hs;cases eb;exact⟨o,h3,h4⟩
theorem ES.same(e:ES own H σ ρ)(s:bW H H'):ES own H' σ ρ:=by
 refine⟨e.len,λi hi=>?_,λi v hi hv=>?_⟩
 .obtain⟨v,h1,h2⟩:=e.at_ i hi;exact⟨v,h1,λho=>(h2 ho).same s⟩
 .obtain⟨a,o,h1,h2,h3,h4,h5,h6⟩:=e.own i v hi hv;exact⟨a,o,h1,h2.same s,h3,s _ _ h4,h5,h6⟩
def KU(own:ah->aw)(σ:L2.St)(H:Hp)(σ':L2.St)(H':Hp):Prop:=∀a o,H a=aa o->¬Own own σ a->H' a=aa o/\¬Own own σ' a
theorem KU.trans(a:KU own σ H σ1 H1)(b:KU own σ1 H1 σ2 H2):KU own σ H σ2 H2:=λc o e n=>let ⟨e1,n1⟩:=a c o e n;b c o e1 n1
theorem KU.same(s:bW H H'):KU own σ H σ H':=λa o e n=>⟨s a o e,n⟩
theorem KU.keep(k:KU own σ H σ' H')(e:ES own H σ ρ):sJ (λa=>¬Own own σ a) H H':=λa o h hp=>by
 by_cases ho:Own own σ a
 .obtain⟨o',h1,h2⟩:=e.live ho;rw[h] at h1;cases h1;rcases hp with hp|hp
  .exact aT ho hp
  .rw[h2] at hp;cases hp
 .exact(k a o h ho).1
theorem KU.rep(k:KU own σ H σ' H')(e:ES own H σ ρ)(r:Rep (λa=>¬Own own σ a) H v d):Rep (λa=>¬Own own σ' a) H' v d:=r.aAi (k.keep e) λa o h n=>(k a o h n).2
def kRt(own:ah->aw)(D:Ends)(σ:L2.St)(H:Hp)(d:Mi.D):Prop:=if own rtX=ag then ∃d0 ρ',d=.tup (d0::ρ')/\∀v σ' H',KU own σ H σ' H'->ES own H' σ' ρ'->Rep (λa=>(Own own σ a\/H a=aj)/\∀i b xs,ρ'.getD i .uD=.cel b xs->a≠b) H' v d0->D.rt v H'
  else ∀v H',(∀a o,H a=aa o->¬Own own σ a->H' a=aa o)->Rep (λa=>Own own σ a\/H a=aj) H' v d->D.rt v H'
theorem kRt.old{D:Ends}(h:kRt own D σ H d)(hx:own rtX=ak):∀v H',(∀a o,H a=aa o->¬Own own σ a->H' a=aa o)->Rep (λa=>Own own σ a\/H a=aj) H' v d->D.rt v H':=by
 unfold kRt at h;rw[ax (by rw[hx];simp)] at h;exact h
theorem kRt.mk{D:Ends}(hx:own rtX=ak)(h:∀v H',(∀a o,H a=aa o->¬Own own σ a->H' a=aa o)->Rep (λa=>Own own σ a\/H a=aj) H' v d->D.rt v H'):kRt own D σ H d:=by
 unfold kRt;rw[ax (by rw[hx];simp)];exact h
def kS(own:ah->aw)(D:Ends)(σ:L2.St)(H:Hp):Fl->Prop
 |.nx ρ=>∀σ' H',KU own σ H σ' H'->ES own H' σ' ρ->D.nx σ' H'
 |.bk ρ=>∀σ' H',KU own σ H σ' H'->ES own H' σ' ρ->D.bk σ' H'
 |.ct ρ=>∀σ' H',KU own σ H σ' H'->ES own H' σ' ρ->D.ct σ' H'
 |.rt d=>kRt own D σ H d
theorem kS.step{D:Ends}{σ σ':L2.St}{H H':Hp}{fl:Fl}(k:KU own σ H σ' H')(h:kS own D σ H fl):kS own D σ' H' fl:=by
 cases fl with
 |nx ρ=>exact λσ2 H2 k2 e=>h σ2 H2 (k.trans k2) e
 |bk ρ=>exact λσ2 H2 k2 e=>h σ2 H2 (k.trans k2) e
 |ct ρ=>exact λσ2 H2 k2 e=>h σ2 H2 (k.trans k2) e
 |rt d=>
  have old:∀a,(Own own σ' a\/H' a=aj)->Own own σ a\/H a=aj:=λa ha=>by
   cases q:H a with
   |none=>exact .inr rfl
   |some o=>
    refine .inl (D2 λn=>?_);obtain⟨e1,n1⟩:=k a o q n;rcases ha with ha|ha
    .exact n1 ha
    .rw[e1] at ha;cases ha
  have h:kRt own D σ H d:=h;show kRt own D σ' H' d;unfold kRt at h ⊢;by_cases hx:own rtX=ag
  .rw[ao hx] at h ⊢;obtain⟨d0,ρ',e,g⟩:=h;exact⟨d0,ρ',e,λv σ2 H2 k2 E2 r=>g v σ2 H2 (k.trans k2) E2 (r.mono λa ha=>⟨old a ha.1,ha.2⟩)⟩
  .rw[ax hx] at h ⊢;exact λv H2 hk r=>h v H2 (λa o e n=>let ⟨e1,n1⟩:=k a o e n;hk a o e1 n1) (r.mono λa ha=>old a ha)
noncomputable def tS(own:ah->aw)(f:FS):TS:=λD σ H=>∃ρ fl,ES own H σ ρ/\f ρ=.ok fl/\kS own D σ H fl
theorem PS.imp{st:bz}(h:PS X st t)(i:∀D σ H,t' D σ H->t D σ H):PS X st t':=λΨ s σ H D I q=>h Ψ s σ H D I (i D σ H q)
theorem PSs.imp{st:ae bz}{t t':TS}(h:PSs X st t)(i:∀D σ H,t' D σ H->t D σ H):PSs X st t':=λΨ s σ H D I q=>h Ψ s σ H D I (i D σ H q)
section
variable {X:Cx} {a b c e:Expr} {pos pos':ck} {fe:FE} {re:aw} {gc:FT} {f g:FS} {st:bz} {rest s1 s2:ae bz}
theorem d9:PSs X [] (tS own yL):=PSs.imp yU λD σ H z0=>by
 obtain⟨ρ,fl,E,h,q⟩:=z0;cases h;exact q σ H (λa o e n=>⟨e,n⟩) E
theorem aJ1{D:Ends}(h:tS own (bA f g) D σ H):wN (tS own f) (tS own g) D σ H:=by
 obtain⟨ρ,fl,E,h,q⟩:=h;obtain⟨r,h1,h2⟩:=a_ h;refine⟨ρ,r,E,h1,?_⟩;cases r with
 |nx ρ'=>exact λσ' H' k E'=>⟨ρ',fl,E',h2,q.step k⟩
 |bk ρ'=>cases h2;exact q
 |ct ρ'=>cases h2;exact q
 |rt d=>cases h2;exact q
theorem aG(h1:PS X st (tS own f))(h2:PSs X rest (tS own g)):PSs X (st::rest) (tS own (bA f g)):=PSs.imp (bR h1 h2) λ_ _ _=>aJ1
theorem aX(h1:PS X st (tS own f)):PSs X [st] (tS own f):=dI h1
theorem jZ(hc:PT X c (gT gc))(ha:PSs X s1 (tS own f))(hb:PSs X s2 (tS own g)):PS X (.If c s1 s2 pos) (tS own (sIf gc f g)):=PS.imp (J7 hc ha hb) λD σ H z0=>by
 obtain⟨ρ,fl,E,h,q⟩:=z0;obtain⟨k,h1,h2⟩:=a_ h;refine⟨ρ,k,E.er,h1,λH' s=>?_⟩;cases k with
 |true=>rw[ao rfl];rw[ao rfl] at h2;exact⟨ρ,fl,E.same s,h2,q.step (.same s)⟩
 |false=>rw[ax 0x2];rw[ax 0x2] at h2;exact⟨ρ,fl,E.same s,h2,q.step (.same s)⟩
theorem j6(he:PE X e (gE fe re))(hx:autoParam (own rtX=ak) Ω):PS X (.Return (aa e) pos) (tS own (zN fe re)):=PS.imp (sS he) λD σ H z0=>by
 obtain⟨ρ,fl,E,h,q⟩:=z0;obtain⟨d,h1,h2⟩:=a_ h;split at h2
 .rename_i hk;cases h2;refine⟨ρ,d,E.er,h1,λv H' s r n=>q.old hx v H' (λa o e _=>s a o e) ?_⟩;rw[i8] at hk;rcases hk with hk|hk
  .exact(n hk).mono λa ha=>.inr ha
  .exact r.bT hk
 .exact bx h2
theorem aJ2(ho:own i=ag)(hN:X.N[i]?=aa x)(hv:Vis X.env.scope x)(hd:autoParam (nDb x) Λ)(hcd:autoParam (nCd x) Λ)(hx:autoParam (own rtX=ak) Ω):PS X (.Return (aa (.Name x pos')) pos) (tS own (aMp i)):=
 PS.imp (sS (aW hN hv hd hcd)) λD σ H z0=>by
 obtain⟨ρ,fl,E,h,q⟩:=z0;obtain⟨d,h1,h2⟩:=a_ h;cases h2;obtain⟨v,hv,r,e⟩:=E.er.var h1;obtain⟨a,o,rfl,r2,hin,_⟩:=E.own i v ho hv;rw[e] at hin;exact⟨_,hv,q.old hx _ H (λa o e _=>e) (r.wV hin (.inl ⟨i,ho,hv⟩))⟩
theorem jP(ho:own i=ak)(a:al):Own own (σ.set i (aa v)) a↔Own own σ a:=by
 constructor
 .rintro⟨j,hj,e⟩;have:i≠j:=λz=>by subst z;rw[ho] at hj;cases hj
  rw[dm this] at e;exact⟨j,hj,e⟩
 .rintro⟨j,hj,e⟩;have:i≠j:=λz=>by subst z;rw[ho] at hj;cases hj
  exact⟨j,hj,by rw[dm this];exact e⟩
theorem cP{ρ:ae D}:(ρ.set i d).getD j .uD=if i=j/\i<ρ.length then d else ρ.getD j .uD:=by
 rw[cj,cj,oP];by_cases h:i=j
 .subst h;by_cases h2:i<ρ.length
  .simp[h2]
  .simp[h2]
 .simp[h]
theorem ES.set(E:ES own H σ ρ)(ho:own i=ak)(r:Rep (λa=>¬Own own σ a) H v d):ES own H (σ.set i (aa v)) (ρ.set i d):=by
 have hO:(λa=>¬Own own (σ.set i (aa v)) a)=λa=>¬Own own σ a:=funext λa=>by rw[jP ho]
 refine⟨by simp[E.len],λj hj=>?_,λj w hj hw=>?_⟩
 .rw[cP] at hj ⊢;rw[hO];by_cases h:i=j/\i<ρ.length
  .rw[ao h];obtain⟨rfl,hl⟩:=h;exact⟨v,by rw[eD (by rw[E.len];exact hl)],λ_=>r⟩
  .rw[ax h] at hj ⊢;obtain⟨w,h1,h2⟩:=E.at_ j hj;by_cases hij:i=j
   .subst hij;have:i<σ.length:=(dA.mp h1).1;rw[E.len] at this;exact aT ⟨rfl,this⟩ h
   .exact⟨w,by rw[dm hij];exact h1,h2⟩
 .have hij:i≠j:=λz=>by subst z;rw[ho] at hj;cases hj
  rw[dm hij] at hw;rw[cP,ax λz=>hij z.1];obtain⟨a,o,h1,h2,h3,h4,h5,h6⟩:=E.own j w hj hw;refine⟨a,o,h1,h2,h3,h4,h5,λk hk hs=>h6 k hk ?_⟩;have hik:i≠k:=λz=>by subst z;rw[ho] at hk;cases hk
  rwa [dm hik] at hs
theorem ES.aTx{i:ah}{a:al}{o:HO}{d:D}(E:ES own H σ ρ)(s:bW H H')(ho:own i=ag)(hn:H a=aj)(r:Rep All H' (.ref a) d)(hin:inner d=ag)(ha:H' a=aa o)(hm:Q9 o=ag) :
  ES own H' (σ.set i (aa (.ref a))) (ρ.set i d)/\KU own σ H (σ.set i (aa (.ref a))) H':=by
 have hO:∀b,H b≠aj->¬Own own σ b->¬Own own (σ.set i (aa (.ref a))) b:=λb hb n z0=>by
  obtain⟨j,hj,e⟩:=z0;by_cases hij:i=j
  .subst hij;by_cases hl:i<σ.length
   .rw[eD hl] at e;cases e;exact hb hn
   .rw[oP,ao rfl,ax hl] at e;cases e
  .rw[dm hij] at e;exact n ⟨j,hj,e⟩
 refine⟨⟨by simp[E.len],λj hj=>?_,λj w hj hw=>?_⟩,λb ob e n=>⟨s b ob e,hO b (by rw[e];simp) n⟩⟩
 .rw[cP] at hj ⊢;by_cases h:i=j/\i<ρ.length
  .rw[ao h];obtain⟨rfl,hl⟩:=h;exact⟨.ref a,by rw[eD (by rw[E.len];exact hl)],λz=>by rw[ho] at z;cases z⟩
  .rw[ax h] at hj ⊢;obtain⟨w,h1,h2⟩:=E.at_ j hj;by_cases hij:i=j
   .subst hij;have:i<σ.length:=(dA.mp h1).1;rw[E.len] at this;exact aT ⟨rfl,this⟩ h
   .exact⟨w,by rw[dm hij];exact h1,λhj=>((h2 hj).dom.same s).mono λb ⟨n,hb⟩=>hO b hb n⟩
 .by_cases hij:i=j
  .subst hij;have hl:i<σ.length:=by
    have:=(dA.mp hw).1;simpa using this
   rw[eD hl] at hw;cases hw;rw[cP,ao ⟨rfl,by rw[<-E.len];exact hl⟩];refine⟨a,o,rfl,r,hin,ha,hm,λk hk hs=>?_⟩;by_cases hik:i=k
   .exact hik.symm
   .rw[dm hik] at hs;obtain⟨o',h1,_⟩:=E.live ⟨k,hk,hs⟩;rw[hn] at h1;cases h1
  .rw[dm hij] at hw;rw[cP,ax λz=>hij z.1];obtain⟨b,ob,h1,h2,h3,h4,h5,h6⟩:=E.own j w hj hw;refine⟨b,ob,h1,h2.same s,h3,s _ _ h4,h5,λk hk hs=>?_⟩;by_cases hik:i=k
   .subst hik;by_cases hl:i<σ.length
    .rw[eD hl] at hs;cases hs;rw[hn] at h4;cases h4
    .rw[oP,ao rfl,ax hl] at hs;cases hs
   .rw[dm hik] at hs;exact h6 k hk hs
theorem aH7(r:Rep P H v d)(hin:inner d=ag):∃a o,v=.ref a/\P a/\H a=aa o/\Q9 o=ag:=by
 cases r with
 |lst e p r=>exact⟨_,_,rfl,p,e,rfl⟩
 |cel e p r=>exact⟨_,_,rfl,p,e,rfl⟩
 |dK e p r n=>exact⟨_,_,rfl,p,e,rfl⟩
 |dT e p r n=>exact⟨_,_,rfl,p,e,rfl⟩
 |_=>cases hin
theorem RQ(E:ES own H σ ρ)(r:Rep (New H) H' v d):Rep (λa=>¬Own own σ a) H' v d:=r.mono λa ha ho=>by
 obtain⟨o,h1,_⟩:=E.live ho;rw[show H a=aj from ha] at h1;cases h1
theorem RT(ho:own i=o)(h:tS own (bZ o i fe re) D' σ H):BX (gE fe re) (fG i) D' σ H:=by
 obtain⟨ρ,fl,E,h,q⟩:=h;obtain⟨d,h1,h2⟩:=a_ h;cases o with
 |true=>
  simp only[e9] at h2;split at h2
  .rename_i hk;cases h2;refine⟨ρ,d,E.er,h1,λv H' s r n=>?_⟩;rw[aS] at hk;obtain⟨a,ob,rfl,hn,ha,hm⟩:=aH7 (n hk.1) hk.2;obtain⟨E2,k⟩:=E.aTx s ho hn r hk.2 ha hm;exact q _ H' k E2
  .exact bx h2
 |false=>
  simp only[i5,gf] at h2;split at h2
  .rename_i hk;cases h2;refine⟨ρ,d,E.er,h1,λv H' s r n=>?_⟩;rw[i8] at hk;have r2:Rep (λa=>¬Own own σ a) H' v d:=by
    rcases hk with hk|hk
    .exact RQ E (n hk)
    .exact r.bT hk
   exact q _ H' (λa ob e hn=>⟨s a ob e,by rw[jP ho];exact hn⟩) ((E.same s).set ho r2)
  .exact bx h2
theorem aMy(ho:own i=o)(hN:X.N.Nodup)(hi:X.N[i]?=aa x)(hx:Loc X.env.scope x)(he:PE X e (gE fe re))(hs:autoParam (zSw X e x pos' pos) Ω)(hf:autoParam (zFn X x) Ξ) :
  PS X (.Assign [.Name x pos'] e pos) (tS own (bZ o i fe re)):=PS.imp (yV hN hi hx he hs hf) λ_ _ _=>RT ho
theorem bY{i:ah}{x:Str}{o:aw}(he:PE X e (gE fe re))(ho:autoParam (own i=o) Ω)(hN:X.N.Nodup:=by assumption)(hi:X.N[i]?=aa x:=by exact rfl)(hx:Loc X.env.scope x:=by trivial)(hs:autoParam (zSw X e x pos' pos) Ω)(hf:autoParam (zFn X x) Ξ):PS X (.Assign [.Name x pos'] e pos) (tS own (bZ o i fe re)):=aMy ho hN hi hx he hs hf
theorem aJ3(ho:own i=ak)(hoj:own j=ak)(hN:X.N.Nodup)(hi:X.N[i]?=aa x)(hx:Loc X.env.scope x)(hj:X.N[j]?=aa y)(hy:Vis X.env.scope y)(hs:autoParam (dy (.Name y py) (aa (.Name x pos')) pos.line X.env=pure ak) Ω)(hf:autoParam (zFn X x) Ξ)
 (hd:autoParam ((y==("__debug__" : Str))=ak) Λ)(hcd:autoParam ((y==("__classdict__" : Str))=ak) Λ):PS X (.Assign [.Name x pos'] (.Name y py) pos) (tS own (sAl i j)):=PS.imp (yV hN hi hx (aW hj hy hd hcd) hs hf) λD' σ H z0=>by
 obtain⟨ρ,fl,E,h,q⟩:=z0;obtain⟨d,h1,h2⟩:=a_ h;cases h2;obtain⟨v,hv,r,e⟩:=E.er.var h1;have hne:ρ.getD j .uD≠.uD:=λz=>by
  rw[z] at e;subst e;exact Rep.uD r
 obtain⟨w,hw,hr⟩:=E.at_ j hne;rw[hv] at hw;cases hw;have r2:=hr hoj;rw[e] at r2;exact⟨v,hv,q _ H (λa ob e hn=>⟨e,by rw[jP ho];exact hn⟩) (E.set ho r2)⟩
theorem ES.mut{i:ah}{a:al}{o:HO}{d:D}(E:ES own H σ ρ)(ho:own i=ag)(hi:σ[i]?=aa (aa (.ref a)))(hm:Q9 o=ag)(r:Rep All (upd H a o) (.ref a) d)(hin:inner d=ag) :
  ES own (upd H a o) σ (ρ.set i d)/\KU own σ H σ (upd H a o):=by
 have hOa:Own own σ a:=⟨i,ho,hi⟩
 obtain⟨a',oa,ea,_,_,hHa,hma,huq⟩:=E.own i _ ho hi;cases ea;have k:KU own σ H σ (upd H a o):=λb ob e n=>⟨by rw[aO (λz=>by subst z;exact n hOa)];exact e,n⟩
 have hl:i<ρ.length:=by rw[<-E.len];exact(dA.mp hi).1
 refine⟨⟨by simp[E.len],λj hj=>?_,λj w hj hw=>?_⟩,k⟩
 .rw[cP] at hj ⊢;by_cases h:i=j/\i<ρ.length
  .obtain⟨rfl,_⟩:=h;exact⟨_,hi,λz=>by rw[ho] at z;cases z⟩
  .rw[ax h] at hj ⊢;obtain⟨w,h1,h2⟩:=E.at_ j hj;exact⟨w,h1,λhj=>k.rep E (h2 hj)⟩
 .by_cases hij:i=j
  .subst hij;rw[hi] at hw;cases hw;rw[cP,ao ⟨rfl,hl⟩];exact⟨a,o,rfl,r,hin,aJ,hm,huq⟩
  .rw[cP,ax λz=>hij z.1];obtain⟨b,ob,h1,h2,h3,h4,h5,h6⟩:=E.own j w hj hw;subst h1;have hba:b≠a:=λz=>by subst z;exact hij (h6 i ho hi)
   refine⟨b,ob,rfl,?_,h3,by rw[aO hba];exact h4,h5,h6⟩;refine(h2.wV (P':=λc=>c=b) h3 rfl).keep (λc oc hc hp=>?_) λ_ _=>trivial
   rw[aO]
   .exact hc
   .intro z;subst z;rcases hp with hp|hp
    .exact hba hp.symm
    .rw[hHa] at hc;cases hc;rw[hma] at hp;cases hp
theorem ES.ownAt(E:ES own H σ ρ)(ho:own i=ag)(hd:ρ.getD i .uD≠.uD):∃a o,σ[i]?=aa (aa (.ref a))/\Rep All H (.ref a) (ρ.getD i .uD)/\inner (ρ.getD i .uD)=ag/\H a=aa o/\Q9 o=ag:=by
 obtain⟨v,h1,_⟩:=E.at_ i hd;obtain⟨a,o,rfl,h2,h3,h4,h5,_⟩:=E.own i v ho h1;exact⟨a,o,h1,h2,h3,h4,h5⟩
theorem zQ{a:al}(r:Rep All H (.ref a) (.lst xs)):∃vs,H a=aa (.lst vs)/\bK All H vs xs:=by
 cases r with
 |lst e _ r=>exact⟨_,e,r⟩
theorem bK.upd{a:al}{xs:ae D}{o:HO}{ob:HO}(r:bK All H vs xs)(hp:ε xs=ag)(ha:H a=aa ob)(hm:Q9 ob=ag):bK All (upd H a o) vs xs:=by
 refine(r.bT (P':=λ_=>cb) hp).keep (λc oc hc h=>?_) λ_ h=>h.elim
 rw[aO]
 .exact hc
 .intro z;subst z;rcases h with h|h
  .exact h
  .rw[ha] at hc;cases hc;rw[hm] at h;cases h
theorem jQ:ε (xs++ys)=(ε xs&&ε ys):=by
 induction xs with
 |nil=>simp[ε]
 |cons x xs ih=>rw[wt,ε,ε,ih,zq]
theorem nA(ho:own i=ag)(hN:X.N[i]?=aa x)(hv:Vis X.env.scope x)(he:PE X e (gE fe re))(hd:autoParam (nDb x) Λ)(hcd:autoParam (nCd x) Λ)
 (hbase:autoParam (fx (.Name x p1) "append" X.env (eval (.Name x p1) X.env)=eval (.Name x p1) X.env) Ω)
 (hs1:autoParam (zSE X e []) Ω)
 (hfew:autoParam (zFw X cpos [e]) Ω)
 (hline:autoParam ((apos.endLine==cpos.line)=ag) Ω)
 (hs:autoParam (dy (.Call (.Attribute (.Name x p1) "append" apos) [e] [] cpos) aj pos.line X.env=pure ak) Ω) :
  PS X (.Expr (.Call (.Attribute (.Name x p1) "append" apos) [e] [] cpos) pos) (tS own (Q7 i fe)):=
 PS.imp (jK (GX io j3 lx iH (aW hN hv hd hcd) (aY he dC hs1) hbase hfew hline hs1 rfl) hs) λD' σ H z0=>by
 obtain⟨ρ,fl,E,h,q⟩:=z0;obtain⟨d,h1,h2⟩:=a_ h;split at h2
 .rename_i xs hx;split at h2
  .rename_i hk;cases h2;rw[aS] at hk;obtain⟨a,o,hσ,r,hin,ha,hm⟩:=E.ownAt ho (by rw[hx];intro z;cases z);rw[hx] at r hin;obtain⟨vs,hl,rr⟩:=zQ r;refine⟨_,hσ,.inl ⟨rfl,vs,.of hl⟩,ρ,d,E.er,h1,λv H' s rv _=>⟨a,vs,v,rfl,rfl,s _ _ hl,by rw[rr.length];exact K_ hk.1,?_⟩⟩;have E':=E.same s;have hl':=s _ _ hl;obtain⟨E2,k2⟩:=E'.mut ho hσ rfl (.lst aJ trivial (((rr.same s).snoc rv).upd (by rw[jQ];simp only[aS];exact⟨hin,by simp[ε,hk.2]⟩) hl' rfl)) (by show ε (xs++[d])=ag;rw[jQ];simp only[aS];exact⟨hin,by simp[ε,hk.2]⟩);exact q _ _ ((KU.same s).trans k2) E2
  .exact bx h2
 .exact bx h2
end
end Mi
namespace L2
open PySem PySem.Spec PyProof.Rows
section
theorem aEk(hNn:X.N.Nodup)(hiy:X.N[iy]?=aa y)(hxy:Loc X.env.scope y)(hfy:zFn X y)(f:Inv X Ψ σ H5 s6)(k:ZP X Ψ H5 C)(n:s6.heap.Ns C m6)(q:fG iy (.ref p) σ H5 D.nx):mz (ay X.prog X.w) X.A X.xe (aa (kG (.Name y py) X.env)) (λ_ s'=>SP X Ψ D .next s') (.ref p) C (.ok .next) s6:=by
 obtain⟨oC,esC,epC,hoC,hdC,_⟩:=id n;have finP:=f.QW (pins':=Ψ++[(C,oC)]) λp hp=>(eP.mp hp).elim (λz=>f.pin p (eS _ z)) λz=>by
  have z':p=(C,oC):=by simpa using z
  subst z';exact⟨hoC,k.1,k.2.1,k.2.2.1,λv z=>by rw[hdC] at z;cases z⟩
 refine thn (aV hNn hiy hxy hfy _ _ σ H5 (.ref p) (.ref p) D.nx finP rfl q) λ_ s7 ⟨σ7,H7,I7,q7⟩=>?_
 obtain⟨g7,hC7,_⟩:=I7.pin (C,oC) (eS _ (eS _ 0x2));refine⟨m6,n.at' λo e=>?_,λh' sb=>⟨σ7,H7,Inv.turned I7.sU (λb o hb e=>sb.extBut b o hb e) hC7 k.2.1 k.2.2.2.1 k.2.2.2.2.1 k.2.2.2.2.2,q7⟩⟩;rw[hoC] at e;cases e;exact g7
theorem aMz(S:cG X.N X.env.scope scope own)(hcalm:X.calm=ag)(hi:PI X tg iter wi)
 (hg:∀X',dF X X' scope own->PG X' tg g)(hc:(ifs=[]/\tc=λ_ H Q=>Q ag H)\/∃c,ifs=[c]/\∀X',dF X X' scope own->PT X' c tc)(he:∀X',dF X X' scope own->PE X' elt te)
 (hs:∀x,en iter X.env x=pure x)(hNn:X.N.Nodup)(hiy:X.N[iy]?=aa y)(hxy:Loc X.env.scope y)(hfy:zFn X y)(hsw:dy (.ListComp elt [⟨tg,iter,ifs,0⟩] scope pos) (aa (.Name y py)) pos2.line X.env=pure ag):PS X (.Assign [.Name y py] (.ListComp elt [⟨tg,iter,ifs,0⟩] scope pos) pos2) (BX (K7 wi g tc te own.length) (fG iy)):=by
 intro Ψ s σ H D I h;rw[exec_Assign_Name_used _ _ _ _ hsw];refine aq (BU (aq ?_));show ϑ _ X.A (do let _ <- BC (.ListComp elt [⟨tg,iter,ifs,0⟩] scope pos) scope X.env _ (newList []) ak (eval iter X.env) (aa (kG (.Name y py) X.env))) _ _ s;exact aq (fg (RD S hcalm hi hg hc he hs I h (aEk hNn hiy hxy hfy)) (λ_ s' hq=>bc (bc hq)) λ_ _ e=>e)
theorem aAr(S:cG X.N X.env.scope scope own)(hcalm:X.calm=ag)(hi:PI X tg iter wi)
 (hg:∀X',dF X X' scope own->PG X' tg g)(hc:∀X',dF X X' scope own->PT X' c tc)(he:∀X',dF X X' scope own->PE X' elt te)
 (hs:∀x,en iter X.env x=pure x)(hNn:X.N.Nodup)(hiy:X.N[iy]?=aa y)(hxy:Loc X.env.scope y)(hfy:zFn X y)(hsw:dy (.ListComp elt [⟨tg,iter,[c],0⟩] scope pos) (aa (.Name y py)) pos2.line X.env=pure ag):PS X (.Assign [.Name y py] (.ListComp elt [⟨tg,iter,[c],0⟩] scope pos) pos2) (BX (K7 wi g tc te own.length) (fG iy)):=
 aMz S hcalm hi hg (.inr ⟨c,rfl,hc⟩) he hs hNn hiy hxy hfy hsw
theorem VD(S:cG X.N X.env.scope scope own)(hcalm:X.calm=ag)(hi:PI X tg iter wi)
 (hg:∀X',dF X X' scope own->PG X' tg g)(he:∀X',dF X X' scope own->PE X' elt te)
 (hs:∀x,en iter X.env x=pure x)(hNn:X.N.Nodup)(hiy:X.N[iy]?=aa y)(hxy:Loc X.env.scope y)(hfy:zFn X y)(hsw:dy (.ListComp elt [⟨tg,iter,[],0⟩] scope pos) (aa (.Name y py)) pos2.line X.env=pure ag):PS X (.Assign [.Name y py] (.ListComp elt [⟨tg,iter,[],0⟩] scope pos) pos2) (BX (K7 wi g (λ_ H Q=>Q ag H) te own.length) (fG iy)):=
 aMz S hcalm hi hg (.inl ⟨rfl,rfl⟩) he hs hNn hiy hxy hfy hsw
end
end L2
namespace Mi
open PySem L2 PySem.SeqAt PySem.Spec PyProof.Rows
section
variable [KFrag]
variable {own:ah->aw}
section
variable {X:Cx} {a b c e:Expr} {pos pos':ck} {fb fe:FE} {re:aw} {gc:FT} {f g:FS} {st:bz} {s1 s2:ae bz}
variable {scope:ft} {ownN:ae Str} {elt iter tg:Expr} {it:FI} {t:D->Res (ae D)} {gt:TG}
theorem aJ4(S:cG X.N X.env.scope scope ownN)(hn:X.N.length=n)(hm:ownN.length=m)(hcalm:X.calm=ag)(hi:PI X tg iter (gI X.K it))(ht:TgC gt t n m)(hg:∀X',dF X X' scope ownN->PG X' tg gt)(he:∀X',dF X X' scope ownN->PE X' elt (gE fe re))
 (hs:∀x,en iter X.env x=pure x)(ho:own iy=o)(hNn:X.N.Nodup)(hiy:X.N[iy]?=aa y)(hxy:Loc X.env.scope y)(hfy:zFn X y)(hsw:dy (.ListComp elt [⟨tg,iter,[],0⟩] scope pos) (aa (.Name y py)) pos2.line X.env=pure ag) :
  PS X (.Assign [.Name y py] (.ListComp elt [⟨tg,iter,[],0⟩] scope pos) pos2) (tS own (bZ o iy (dB n it t gG fe re) ag)):=by
 intro Ψ s σ H D I h;subst hm;refine VD S hcalm hi hg he hs hNn hiy hxy hfy hsw Ψ s σ H D I ?_;exact v_ ht (λσ H Q h=>by obtain⟨ρ,b,E,h,q⟩:=h;cases h;exact q H (bW.refl H)) (I.len.trans hn) (RT ho h)
theorem aAs(S:cG X.N X.env.scope scope ownN)(hn:X.N.length=n)(hm:ownN.length=m)(hcalm:X.calm=ag)(hi:PI X tg iter (gI X.K it))(ht:TgC gt t n m)(hg:∀X',dF X X' scope ownN->PG X' tg gt)(hc:∀X',dF X X' scope ownN->PT X' c (gT gc))(he:∀X',dF X X' scope ownN->PE X' elt (gE fe re))
 (hs:∀x,en iter X.env x=pure x)(ho:own iy=o)(hNn:X.N.Nodup)(hiy:X.N[iy]?=aa y)(hxy:Loc X.env.scope y)(hfy:zFn X y)(hsw:dy (.ListComp elt [⟨tg,iter,[c],0⟩] scope pos) (aa (.Name y py)) pos2.line X.env=pure ag) :
  PS X (.Assign [.Name y py] (.ListComp elt [⟨tg,iter,[c],0⟩] scope pos) pos2) (tS own (bZ o iy (dB n it t gc fe re) ag)):=by
 intro Ψ s σ H D I h;subst hm;refine aAr S hcalm hi hg hc he hs hNn hiy hxy hfy hsw Ψ s σ H D I ?_;exact v_ ht (λσ H Q h=>h) (I.len.trans hn) (RT ho h)
theorem G8[dP κ]{k:κ}{v:V}(e:p.1=k)(h:k∉r.map (·.1)):putK (p::r) k v=(k,v)::r:=by
 unfold putK;rw[ao (by simp[e]),bd,ao e,e]
 congr 1
 have:∀q∈r,(λkv:κ×V=>if kv.1=k then (kv.1,v) else kv) q=id q:=λq hq=>by
  have:q.1≠k:=λz=>h (cK.mpr ⟨q,hq,z⟩)
  simp[this]
 rw[BY this,List.map_id]
theorem G9[dP κ]{k:κ}{v:V}(e:¬p.1=k):putK (p::r) k v=p::putK r k v:=by
 unfold putK;rw[ka,cS e,zj];split
 .rw[bd,ax e]
 .rfl
theorem jR[dP κ]:∀{kvs:ae (κ×V)},(kvs.map (·.1)).Nodup->((putK kvs k v).map (·.1)).Nodup:=λ{kvs} h=>by
 by_cases hk:DR kvs k=aj
 .exact aIo v h hk
 .unfold putK;rw[ao (by rw[sZ];exact Option.isSome_iff_ne_none.mpr hk),dw];have:(λx:κ×V=>x.1) ∘ (λkv:κ×V=>if kv.1=k then (kv.1,v) else kv)=λx=>x.1:=by
   funext q
   simp only[D3];split<;>rfl
  rw[this];exact h
theorem G_(rv:Rep P H v d):∀{kvs:ae (Key×V)}{ds:ae (D×D)},gH P H kvs ds->(kvs.map (·.1)).Nodup->gH P H (putK kvs k v) (putD ds (kD k) d)
 |_,_,.nil,_=>.cons rv .nil
 |_,_,.cons (k:=k') (v:=v') r t,hn=>by
  rw[bd] at hn;obtain⟨h1,h2⟩:=fy.mp hn;rw[putD,aAp];by_cases h:k'=k
  .subst h;rw[ao 0x2,G8 rfl h1];exact .cons rv t
  .rw[ax (by simpa using h),G9 h];exact .cons r (G_ rv t h2)
theorem yN(rv:Rep P H v d):∀{kvs:ae (ae Key×V)}{ds:ae (D×D)},mZ P H kvs ds->(kvs.map (·.1)).Nodup->mZ P H (putK kvs k v) (putD ds (.tup (k.map kD)) d)
 |_,_,.nil,_=>.cons rv .nil
 |_,_,.cons (k:=k') (v:=v') r t,hn=>by
  rw[bd] at hn;obtain⟨h1,h2⟩:=fy.mp hn;rw[putD,aIt];by_cases h:k'=k
  .subst h;rw[ao 0x2,G8 rfl h1];exact .cons rv t
  .rw[ax (by simpa using h),G9 h];exact .cons r (yN rv t h2)
theorem gH.length:∀{kvs:ae (Key×V)}{ds:ae (D×D)},gH P H kvs ds->kvs.length=ds.length
 |_,_,.nil=>rfl
 |_,_,.cons _ t=>by rw[br,br,gH.length t]
theorem mZ.length:∀{kvs:ae (ae Key×V)}{ds:ae (D×D)},mZ P H kvs ds->kvs.length=ds.length
 |_,_,.nil=>rfl
 |_,_,.cons _ t=>by rw[br,br,mZ.length t]
theorem zR{a:al}(ha:H a=aa ob)(hm:Q9 ob=ag):sJ (λ_=>cb) H (L2.upd H a o):=λc oc hc h=>by
 rw[aO]
 .exact hc
 .intro z;subst z;rcases h with h|h
  .exact h.elim
  .rw[ha] at hc;cases hc;rw[hm] at h;cases h
theorem lC(hd:d.pure=ag):∀{ds:ae (D×D)},ε (ds.map (·.2))=ag->ε ((putD ds k d).map (·.2))=ag
 |[],_=>by simp[putD,ε,hd]
 | (q,w)::r,h=>by
  rw[bd,ε,aS] at h;rw[putD];split
  .rw[bd,ε,aS];exact⟨hd,h.2⟩
  .rw[bd,ε,aS];exact⟨h.1,lC hd h.2⟩
theorem aQx{ad:al}{y v:V}{ds:ae (D×D)}{k d:D}(I:Inv X Ψ σ H s)(rd:Rep All H (.ref ad) (.dct ds))(hin:ε (ds.map (·.2))=ag)(rk:Rep All H y k)(hk:yJ ds k=ag)(hl:ds.length<bo)(rv:Rep All H v d)(hd:d.pure=ag) :
  ∃H1 o,Inv X Ψ σ H1 s/\aGz H1 ad y v (L2.upd H ad o)/\Q9 o=ag/\Rep All (L2.upd H ad o) (.ref ad) (.dct (putD ds k d)):=by
 unfold yJ at hk;rw[aS] at hk;obtain⟨h1,h2⟩:=hk;have rv':Rep (λ_=>cb) H v d:=rv.bT hd;cases rd with
 |@dK _ kvs ds e _ r n=>
  have hlen:=r.length;rcases jO h1 rk with ⟨q,rfl,rfl⟩|⟨b,ks,rfl,eb,rfl⟩
  .refine⟨H,.dK (putK kvs q v),I,.k e 0x1,rfl,.dK aJ trivial ?_ (jR n)⟩;exact(G_ rv' (r.bT hin) n).keep (zR e rfl) λ_ z=>z.elim
  .cases r with
   |nil=>
    refine⟨L2.upd H ad (.dT []),.dT (putK [] ks v),nY I e,?_,rfl,.dT aJ trivial ?_ (jR gj)⟩
    .have:=aGz.t (H:=L2.upd H ad (.dT [])) (a:=ad) (b:=b) (kvs:=[]) (k:=ks) (v:=v) aJ (by rw[aO (n8 eb e 0x7)];exact eb) hl;rwa [QT] at this
    .exact(yN (k:=ks) rv' .nil gj).keep (zR e rfl) λ_ z=>z.elim
   |cons r t=>
    rw[i7,nW] at h2;simp[isTup] at h2
 |@dT _ kvs ds e _ r n=>
  have hlen:=r.length;rcases jO h1 rk with ⟨q,rfl,rfl⟩|⟨b,ks,rfl,eb,rfl⟩
  .cases r with
   |nil=>
    refine⟨L2.upd H ad (.dK []),.dK (putK [] q v),k_ I e,?_,rfl,.dK aJ trivial ?_ (jR gj)⟩
    .have:=aGz.k (H:=L2.upd H ad (.dK [])) (a:=ad) (kvs:=[]) (k:=q) (v:=v) aJ hl;rwa [QT] at this
    .exact(G_ (k:=q) rv' .nil gj).keep (zR e rfl) λ_ z=>z.elim
   |cons r t=>
    rw[i7,nW] at h2;simp[isTup] at h2
  .refine⟨H,.dT (putK kvs ks v),I,.t e eb 0x1,rfl,.dT aJ trivial ?_ (jR n)⟩;exact(yN rv' (r.bT hin) n).keep (zR e rfl) λ_ z=>z.elim
theorem VF(hu:X.A.units+20<dE)(ho:own i=ag)(hN:X.N[i]?=aa x)(hvi:Vis X.env.scope x)(hk:PE X k (gE fk rk))(hv:PE X value (gE fv rv))
 (hs:autoParam (dy value (aa (.Subscript (.Name x p1) k pos')) pos.line X.env=pure ak) Ω)(hd:autoParam (nDb x) Λ)(hcd:autoParam (nCd x) Λ) :
  PS X (.Assign [.Subscript (.Name x p1) k pos'] value pos) (tS own (aEf i fk fv)):=by
 rintro Ψ s σ H D' I ⟨ρ,fl,E,h,q⟩;obtain⟨d,h0,h⟩:=a_ h;obtain⟨kd,h1,h2⟩:=a_ h;split at h2
 .rename_i kvs hx;split at h2
  .rename_i hg;cases h2;simp only[aS] at hg;obtain⟨⟨hg1,hg2⟩,hg3⟩:=hg;obtain⟨a,o,hσ,r,hin,ha,hm⟩:=E.ownAt ho (by rw[hx];intro z;cases z);rw[hx] at r hin;refine B0 (thn (hv Ψ s σ H (λv H1=>bW H H1/\Rep All H1 v d) I ⟨ρ,d,E.er,h0,λv H1 s1 r1 _=>⟨s1,r1⟩⟩) λrr s1 ⟨v,H1,I1,rv1,sm1,rp1⟩=>
    thn (aW hN hvi hd hcd Ψ s1 σ H1 (λw H2=>w=.ref a/\H2=H1) I1 ⟨_,hσ,rfl,rfl⟩) λu s2 ⟨xx,H2,I2,rx,ex,eH⟩=>
    thn (hk Ψ s2 σ H2 (λw H3=>bW H2 H3/\Rep All H3 w kd) I2 ⟨ρ,kd,by rw[eH];exact E.er.same sm1,h1,λv H1 s1 r1 _=>⟨s1,r1⟩⟩) λiv s3 ⟨y,H3,I3,ry,sm3,rp3⟩=>?_) hs
   subst ex eH;obtain rfl:u=du a:=rx;have sm:=sm1.trans sm3;obtain⟨H4,o4,I4,g,hmo,rp⟩:=aQx I3 (r.same sm) hin rp3 hg2 (K_ hg1) (rp1.same sm3) hg3;obtain⟨E2,k2⟩:=(E.same sm).mut ho hσ hmo rp (lC hg3 hin);exact aAc 0x1 I4 g ry rv1 λs4 I5=>⟨σ,_,I5,q _ _ ((KU.same sm).trans k2) E2⟩
  .exact bx h2
 .exact bx h2
def TgS(own:ah->aw)(g:TG)(t:D->ae D->Res (ae D)):Prop:=∀(v:V)(d:D)(ρ ρ':ae D)(σ:L2.St)(H:Hp)(Q:L2.St->Hp->Prop),ES own H σ ρ->Rep (λa=>¬Own own σ a) H v d->t d ρ=.ok ρ'->
 (∀σ',ES own H σ' ρ'->(∀a,Own own σ' a↔Own own σ a)->Q σ' H)->g v σ H Q
theorem h_(ho:own i=ak):TgS own (fG i) (tg1 i):=λv d ρ ρ' σ H Q E r h q=>by
 cases h;exact q _ (E.set ho r) λa=>jP ho a
theorem ES.sets:∀{is:ae ah}{vs:ae V}{ds:ae D}{σ:L2.St}{ρ:ae D},(∀i∈is,own i=ak)->ES own H σ ρ->bK (λa=>¬Own own σ a) H vs ds->ES own H (YK is vs σ) (Q8 is ds ρ)/\∀a,Own own (YK is vs σ) a↔Own own σ a
 |[],_,_,_,_,_,E,_=>by simp only[YK,Q8];exact⟨E,λ_=>trivial⟩
 |i::is,_,_,σ,ρ,h,E,.nil=>by simp only[YK,Q8];exact⟨E,λ_=>trivial⟩
 |i::is,_,_,σ,ρ,h,E,.cons (v:=v) r t=>by
  have ho:=h i (de ..);have hO:(λa=>¬Own own (σ.set i (aa v)) a)=λa=>¬Own own σ a:=funext λa=>by rw[jP ho]
  obtain⟨h1,h2⟩:=ES.sets (λj hj=>h j (dg _ hj)) (E.set ho r) (by rw[hO];exact t);exact⟨h1,λa=>(h2 a).trans (jP ho a)⟩
theorem aAt(K:bi)(ho:∀i∈is,own i=ak):TgS own (aPv K is.length (gIx is)) (tgN is):=λv d ρ ρ' σ H Q E r h q=>by
 cases d<;>simp only[tgN] at h<;>(try (exact bx h;done))
 split at h
 .rename_i hl;cases h;have hl':=d5 hl;obtain⟨a,xs,rfl,e,rr⟩:=r.jG;obtain⟨h1,h2⟩:=E.sets ho rr;exact⟨a,xs,rfl,.of e,by rw[rr.length];exact hl',RN _ _ _ (by rw[rr.length];exact hl') (q _ h1 h2)⟩
 .exact bx h
theorem ItQ.ku{K:bi}(h:ItQ K (λa=>¬Own own σ a) J H items)(k:KU own σ H σ' H')(E:ES own H σ ρ):ItQ K (λa=>¬Own own σ' a) J H' items:=h.keep' (k.keep E) λa o e n=>(k a o e n).2
theorem HB{K:bi}{g:TG}{t:D->ae D->Res (ae D)}{body:FS}{D':Ends}{J:It}{items:ae D}{σ:L2.St}{H1:Hp}{ρ:ae D}{fl:Fl}(tg:TgS own g t)(E:ES own H1 σ ρ)(hJ:ItQ K (λa=>¬Own own σ a) J H1 items)(hf:xV t body items ρ=.ok fl)(q:kS own D' σ H1 fl) :
  ∃W:ah->ah->L2.St->Hp->Prop,(∃m,W 0 m σ H1)/\∀i m σ H,W i m σ H->
   (J.stop i H/\D'.nx σ H)\/(J.go i H/\∃N:L2.St->Hp->Prop,(∀σ' H',N σ' H'->∃m',m'<m/\W (i+1) m' σ' H')/\∀x H',J.yld i H x H'->g x σ H' λσ2 H2=>tS own body {D' with nx:=N,ct:=N,bk:=D'.nx} σ2 H2):=by
 refine⟨λi m σ' H'=>m=items.length-i/\i<=items.length/\ItQ K (λa=>¬Own own σ' a) J H' items/\∃ρ',ES own H' σ' ρ'/\xV t body (items.drop i) ρ'=.ok fl/\kS own D' σ' H' fl,⟨items.length,rfl,ef _,hJ,ρ,E,hf,q⟩,?_⟩;rintro i m σ' H' ⟨rfl,hi,hJ',ρ',E',hf',q'⟩;rcases lq i items.length with hlt|hge
 .refine .inr ?_;have e:items[i]?=aa items[i]:=dq hlt;obtain⟨g1,g2⟩:=hJ'.go e;rw[ii hlt] at hf';obtain⟨ρ1,h1,hf2⟩:=a_ hf';obtain⟨r,h2,hf3⟩:=a_ hf2;refine⟨g1,λσ2 H2=>ItQ K (λa=>¬Own own σ2 a) J H2 items/\∃ρ',ES own H2 σ2 ρ'/\xV t body (items.drop (i+1)) ρ'=.ok fl/\kS own D' σ2 H2 fl,λσ2 H2 ⟨n1,n2⟩=>⟨items.length-(i+1),by lia,rfl,hlt,n1,n2⟩,λx H2 hy=>?_⟩;obtain⟨sH,rx⟩:=g2 x H2 hy;have ks:KU own σ' H' σ' H2:=λa o e n=>⟨sH a o e,n⟩
  have hJ':=hJ'.ku ks E';have q':=q'.step ks;have E':=E'.same sH;refine tg x items[i] ρ' ρ1 σ' H2 _ E' rx h1 λσ2 E2 hO=>?_
  have k0:KU own σ' H2 σ2 H2:=λa o e n=>⟨e,by rw[hO];exact n⟩
  have hJ2:=hJ'.ku k0 E';have q2:=q'.step k0;refine⟨ρ1,r,E2,h2,?_⟩;cases r with
  |nx ρ2=>exact λσ3 H3 k3 E3=>⟨hJ2.ku k3 E2,ρ2,E3,hf3,q2.step k3⟩
  |ct ρ2=>exact λσ3 H3 k3 E3=>⟨hJ2.ku k3 E2,ρ2,E3,hf3,q2.step k3⟩
  |bk ρ2=>cases hf3;exact λσ3 H3 k3 E3=>q2 σ3 H3 k3 E3
  |rt d=>cases hf3;exact q2
 .refine .inl ⟨hJ'.stop hge,?_⟩;rw[ik hge] at hf';cases hf';exact q' σ' H' (λa o e n=>⟨e,n⟩) E'
theorem oH{tg iter:Expr}{body:ae bz}{g:TG}{t:D->ae D->Res (ae D)}{it:FI}{fb:FS}(hp:ju (ay X.prog X.w) X.A X.env X.xe)(hc:X.calm=ag)(hi:PI X tg iter (gI X.K it))(ht:TgS own g t)(hg:PG X tg g)(hb:PSs X body (tS own fb))
 (hs:∀x,en iter X.env x=pure x:=by intro _;rfl):PS X (.For tg iter body [] pos) (tS own (J1 it t fb)):=PS.imp (DN hp hc hi hg hb hs) λD' σ H z0=>by
 obtain⟨ρ,fl,E,h,q⟩:=z0;obtain⟨⟨items,k⟩,h1,h2⟩:=a_ h;split at h2
 .rename_i hk;exact⟨ρ,items,k,E.er,h1,λJ H1 s1 _ hJ=>HB ht (E.same s1) ((hJ hk).keep (λ_ _ e _=>e) λa ha ho=>by
   obtain⟨o,e1,_⟩:=E.live ho;rw[show H a=aj from ha] at e1;cases e1) h2 (q.step (.same s1))⟩
 .exact bx h2
theorem RV{g:TG}{t:D->ae D->Res (ae D)}{i:ah}{x:Str}{px:ck}{fb:FS}(ho:own i=ak)(hp:ju (ay X.prog X.w) X.A X.env X.xe)(hc:X.calm=ag)(hN:X.N[i]?=aa x)(hv:Vis X.env.scope x)(ht:TgS own g t)(hg:PG X tg g)(hb:PSs X body (tS own fb))
 (hs:∀z,en (.Name x px) X.env z=pure z:=by intro _;rfl)(hd:autoParam (nDb x) Λ)(hcd:autoParam (nCd x) Λ):PS X (.For tg (.Name x px) body [] pos) (tS own (B_ i t fb)):=PS.imp (DN hp hc (aMx hN hv hd hcd) hg hb hs) λD' σ H z0=>by
 obtain⟨ρ,fl,E,h,q⟩:=z0;obtain⟨d,h1,h⟩:=a_ h;obtain⟨items,h2,h3⟩:=a_ h;obtain⟨v,hv,r,e⟩:=E.er.var h1;have hne:ρ.getD i .uD≠.uD:=λz=>by
  rw[z] at e;subst e;exact Rep.uD r
 obtain⟨w,hw,hr⟩:=E.at_ i hne;rw[hv] at hw;cases hw;have r2:=hr ho;rw[e] at r2;exact⟨v,d,items,hv,r,h2,λJ hJ=>HB ht E (hJ _ r2) h3 q⟩
theorem aEm{N ps:ae Str}(hst:start N vs=vs.map aa++cq (N.length-ps.length) aj)(hl:ds.length=ps.length)(r:bK All H vs ds)(hown:∀i,i<ps.length->own i=ak)(noown:∀a,¬Own own (start N vs) a):ES own H (start N vs) (ds++cq (N.length-ps.length) .uD):=by
 refine⟨by rw[hst];simp[r.length],λi hi=>?_,λi v hi hv=>?_⟩
 .have hlt:i<ds.length:=kh λhge=>hi (by
   rw[cj,fI hge,jy];split<;>rfl)
  have e:(ds++cq (N.length-ps.length) D.uD).getD i .uD=ds[i]:=by
   rw[cj,eu hlt,dq hlt];rfl
  obtain⟨v,g1,g2⟩:=r.get (i:=i) (d:=ds[i]) (by simp[hlt]);refine⟨v,by rw[hst,eu (by simp[r.length,hlt])];simp[g1],λ_=>?_⟩;rw[e];exact g2.mono λa _=>noown a
 .exfalso;rw[hst] at hv;by_cases h:i<ps.length
  .rw[hown i h] at hi;cases hi
  .rw[fI (by simp[r.length,hl];lia)] at hv;rw[jy] at hv;split at hv<;>cases hv
theorem aJ5{N ps:ae Str}{f:FS}{vs:ae V}{H:Hp}{Q:VK}{E:XK}(hx:own rtX=ak)(hown:∀i,i<ps.length->own i=ak)(h0:spD (fnS ps.length N.length f) ps.length vs H Q E):tS own f {nx:=λ_ H'=>Q .non H',rt:=Q} (start N vs) H:=by
 obtain⟨ds,d,hl,r,h,q⟩:=h0
 .obtain⟨fl,h1,h2⟩:=a_ h;have hst:start N vs=vs.map aa++cq (N.length-ps.length) aj:=by
   show vs.map aa++cq (N.length-vs.length) aj=_;rw[r.length,hl]
  have noown:∀a,¬Own own (start N vs) a:=λa z0=>by
   obtain⟨i,hi,e⟩:=z0;rw[hst] at e;by_cases h:i<ps.length
   .rw[hown i h] at hi;cases hi
   .rw[fI (by simp[r.length,hl];lia)] at e;rw[jy] at e;split at e<;>cases e
  have E0:ES own H (start N vs) (ds++cq (N.length-ps.length) .uD):=aEm hst hl r hown noown;refine⟨_,fl,E0,h1,?_⟩;have sm:∀{σ':L2.St}{H':Hp},KU own (start N vs) H σ' H'->bW H H':=λk a o e=>(k a o e (noown a)).1
  cases fl with
  |nx ρ'=>cases h2;exact λσ' H' k E'=>q .non H' (sm k) .non λ_=>.non
  |rt d'=>
   cases h2;refine kRt.mk hx λv H' hk rp=>q v H' (λa o e=>hk a o e (noown a)) rp.all λ_=>rp.mono λa ha=>?_
   rcases ha with ha|ha
   .exact aT ha (noown a)
   .exact ha
  |bk ρ'=>exact bx h2
  |ct ρ'=>exact bx h2
theorem aN0{w:bu}{K:bi}{mg:Str->ar am}{base:aI}{x qual:Str}{st:bz}{fad:al}{fd:d4}{N ps:ae Str}{k:ah}{f:FS}(F:Fun K x qual st fad fd)(S:cA N ps (aL st))(own:ah->aw)(hown:∀i,i<ps.length->own i=ak)(hNl:ps.length<=N.length)
 (hbody:∀(cdv:am) (A:b6) (outer:ae c_) (s:au) (H:Hp) (E:XK),mW k (A.deeper (eW qual (aL st) s.heap.objs.size fad cdv))->PSs (J0 CX0 P w K mg base N qual (aL st) fad cdv A outer s H E).nox (cW st) (tS own f))(hx:autoParam (own rtX=ak) Ω):mO P w K mg base CX0 (k+1) fad fd ps (spD (fnS ps.length N.length f) ps.length):=
 F.ok S (λvs H Q E h=>aIy h) λcdv A outer s H vs Q E hr h=>⟨_,hbody cdv A outer s H E hr,aJ5 hx hown h⟩
end
end
variable [KFrag]
structure aQy where
 s₀:au
 H₀:Hp
 env:c_
 outer:ae c_
 stack:ae c_
 ex:ae al
 fn:Str->aw
 pn:ae (al×bn)
abbrev mkC(X:Cx)(scope:ft)(ownN:ae Str)(y:aQy):Cx:=
 {X with N:=X.N.map (eN ownN)++ownN,s₀:=y.s₀,H₀:=y.H₀,env:={y.env with scope:=i6 scope X.env},outer:=y.outer,stack:=y.stack,ex:=y.ex,fn:=y.fn,pn:=y.pn,xe:=λ_ _=>cb}
theorem mR(cc:dF X X' scope ownN):∃y,X'=mkC X scope ownN y:=by
 refine⟨⟨X'.s₀,X'.H₀,X'.env,X'.outer,X'.stack,X'.ex,X'.fn,X'.pn⟩,?_⟩;obtain⟨h1,h2,h3,h4,h5,h6,h7,h8,h9,h10⟩:=cc;cases X' with
 |mk a b c d e f g h i j k l m n o p q=>
  cases j;dsimp only at *;subst h1 h2 h3 h4 h5 h6 h7 h8 h9 h10;rfl
section
theorem iG(S:cG X.N X.env.scope scope ownN)(hn:X.N.length=n)(hm:ownN.length=m)(hcalm:X.calm=ag)(hi:PI X tg iter (gI X.K it))(ht:TgC g t n m)(hg:∀y,PG (mkC X scope ownN y) tg g)(he:∀y,PE (mkC X scope ownN y) elt (gE fe re))
 (hs:∀x,en iter X.env x=pure x):PE X (.ListComp elt [⟨tg,iter,[],0⟩] scope pos) (gE (dB n it t gG fe re) ag):=
 aJ0 S hn hm hcalm hi ht (λX' cc=>by obtain⟨y,rfl⟩:=mR cc;exact hg y) (λX' cc=>by obtain⟨y,rfl⟩:=mR cc;exact he y) hs
theorem DY(S:cG X.N X.env.scope scope ownN)(hn:X.N.length=n)(hm:ownN.length=m)(hcalm:X.calm=ag)(hi:PI X tg iter (gI X.K it))(ht:TgC g t n m)(hg:∀y,PG (mkC X scope ownN y) tg g)(hc:∀y,PT (mkC X scope ownN y) c (gT gc))(he:∀y,PE (mkC X scope ownN y) elt (gE fe re))
 (hs:∀x,en iter X.env x=pure x):PE X (.ListComp elt [⟨tg,iter,[c],0⟩] scope pos) (gE (dB n it t gc fe re) ag):=
 aAq S hn hm hcalm hi ht (λX' cc=>by obtain⟨y,rfl⟩:=mR cc;exact hg y) (λX' cc=>by obtain⟨y,rfl⟩:=mR cc;exact hc y) (λX' cc=>by obtain⟨y,rfl⟩:=mR cc;exact he y) hs
theorem wA(S:cG X.N X.env.scope scope ownN)(hn:X.N.length=n)(hm:ownN.length=m)(hcalm:X.calm=ag)(hi:PI X tg iter (gI X.K it))(ht:TgC g t n m)(hg:∀y,PG (mkC X scope ownN y) tg g)(he:∀y,PE (mkC X scope ownN y) elt (gE fe re))
 (hs:∀x,en iter X.env x=pure x)(ho:own iy=o)(hNn:X.N.Nodup)(hiy:X.N[iy]?=aa y)(hxy:Loc X.env.scope y)(hfy:zFn X y)(hsw:dy (.ListComp elt [⟨tg,iter,[],0⟩] scope pos) (aa (.Name y py)) pos2.line X.env=pure ag) :
  PS X (.Assign [.Name y py] (.ListComp elt [⟨tg,iter,[],0⟩] scope pos) pos2) (tS own (bZ o iy (dB n it t gG fe re) ag)):=
 aJ4 S hn hm hcalm hi ht (λX' cc=>by obtain⟨y,rfl⟩:=mR cc;exact hg y) (λX' cc=>by obtain⟨y,rfl⟩:=mR cc;exact he y) hs ho hNn hiy hxy hfy hsw
theorem lD(S:cG X.N X.env.scope scope ownN)(hn:X.N.length=n)(hm:ownN.length=m)(hcalm:X.calm=ag)(hi:PI X tg iter (gI X.K it))(ht:TgC g t n m)(hg:∀y,PG (mkC X scope ownN y) tg g)(hc:∀y,PT (mkC X scope ownN y) c (gT gc))(he:∀y,PE (mkC X scope ownN y) elt (gE fe re))
 (hs:∀x,en iter X.env x=pure x)(ho:own iy=o)(hNn:X.N.Nodup)(hiy:X.N[iy]?=aa y)(hxy:Loc X.env.scope y)(hfy:zFn X y)(hsw:dy (.ListComp elt [⟨tg,iter,[c],0⟩] scope pos) (aa (.Name y py)) pos2.line X.env=pure ag) :
  PS X (.Assign [.Name y py] (.ListComp elt [⟨tg,iter,[c],0⟩] scope pos) pos2) (tS own (bZ o iy (dB n it t gc fe re) ag)):=
 aAs S hn hm hcalm hi ht (λX' cc=>by obtain⟨y,rfl⟩:=mR cc;exact hg y) (λX' cc=>by obtain⟨y,rfl⟩:=mR cc;exact hc y) (λX' cc=>by obtain⟨y,rfl⟩:=mR cc;exact he y) hs ho hNn hiy hxy hfy hsw
end
def n_(P:bS)(w:bu)(K:bi)(mg:Str->ar am)(base:aI)(k:ah)(x:Str)(n:ah)(f:ae D->Res D):Prop:=
 ∃(fad:al)(fd:d4)(ps:ae Str),mO P w K mg base CX0 k fad fd ps (spD f n)/\mg x=aa (.ref fad)/\gw K (.ref fad)=ag/\Binds K fd ps []
section
theorem lZ(C:n_ X.prog X.w X.K X.mg X.base k x n f)(hr:mW k' X.A)(hkk:k<=k')(hg:Gl X x)(ha:PA X (e::es) (gA fs rr))(hdb:autoParam (nDb x) Λ)(he:autoParam (zSE X e es) Ω)(hpl:autoParam (zSP X pos es) Ω) :
  PE X (.Call (.Name x p) (e::es) [] pos) (gE (aZ (sG n f) fs) ag):=by
 obtain⟨fad,fd,ps,F,hm,hk,hb⟩:=C;exact aIz F (hr.mono hkk) hg hm hk hb ha hdb he hpl
theorem zT{K:bi}{st:bz}{fad:al}{fd:d4}{N ps:ae Str}{fs:FS}(F:Fun K x x st fad fd)(hm:mg x=aa (.ref fad))(hb:Binds K fd ps [])(S:cA N ps (aL st))(own:ah->aw)(hown:∀i,i<ps.length->own i=ak)(hNl:ps.length<=N.length)
 (hbody:∀(cdv:am) (A:b6) (outer:ae c_) (s:au) (H:Hp) (E:XK),mW k (A.deeper (eW x (aL st) s.heap.objs.size fad cdv))->PSs (J0 CX0 P w K mg base N x (aL st) fad cdv A outer s H E).nox (cW st) (tS own fs))(hx:autoParam (own rtX=ak) Ω):n_ P w K mg base (k+1) x ps.length (fnS ps.length N.length fs):=
 ⟨fad,fd,ps,aN0 F S own hown hNl hbody hx,hm,F.kp,hb⟩
end
theorem D_(hr:mW k A):A.units+20<dE:=oI (Nat.add_le_add_left (by decide:20<=64) _) hr.units
structure Bt(mg:Str->ar am):Prop where
 len:mg "len"=aj
 min:mg "min"=aj
 max:mg "max"=aj
 list:mg "list"=aj
 tuple:mg "tuple"=aj
 sorted:mg "sorted"=aj
 range:mg "range"=aj
 isi:mg "isinstance"=aj
 int:mg "int"=aj
 bool:mg "bool"=aj
 str:mg "str"=aj
 dict:mg "dict"=aj
 all:mg "all"=aj
 enum:mg "enumerate"=aj
 sum:mg "sum"=aj
 zip:mg "zip"=aj
 abs:mg "abs"=aj
 reversed:mg "reversed"=aj
theorem eU:dS "len"=aa (.builtin "len"):=0x6
theorem aN1:dS "min"=aa (.builtin "min"):=0x6
theorem aAu:dS "max"=aa (.builtin "max"):=0x6
theorem gJ:dS "isinstance"=aa (.builtin "isinstance"):=0x6
theorem aAv:dS "list"=aa (.type "list"):=0x6
theorem d_:dS "tuple"=aa (.type "tuple"):=0x6
theorem aAw:dS "int"=aa (.type "int"):=0x6
theorem aJ6:dS "bool"=aa (.type "bool"):=0x6
theorem aN2:dS "str"=aa (.type "str"):=0x6
theorem ints_rep:∀ns:ae ai,bK P H (ns.map V.int) (ns.map θ)
 |[]=>.nil
 |n::ns=>.cons (.int n) (ints_rep ns)
end Mi
namespace Mi
open PySem L2
theorem aAx{ns:ae ai}{E:XK}(main:∀ns:ae ai,ns.length<=63->f [.scr (ns.map θ)]=.ok (.bl ag))(hl:ns.length<=63)(hO:Only H)(hS:SqL K H a (ns.map V.int)):@spD ⟨K⟩ f 1 [.ref a] H (λv _=>v=.bl ag) E:=by
 letI:KFrag:=⟨K⟩
 refine⟨[.scr (ns.map θ)],.bl ag,rfl,.cons (.frz ?_ (ints_rep ns)) .nil,main ns hl,λv H' s r n=>by cases r.inv;rfl⟩;rcases hS with (h|⟨o,h⟩)|h
 .rcases hO a with z|⟨o,xs,z⟩
  .rw[h] at z;cases z
  .rw[h] at z;cases z
 .exact .inl ⟨o,h⟩
 .exact .inr h
end Mi
namespace Mi
universe u
section
variable {α:Type u} {us:ae α}
theorem l1(h:us.length=1):∃a,us=[a]:=List.length_eq_one_iff.mp h
theorem l2(h:us.length=2):∃a b,us=[a,b]:=by
 cases us with
 |nil=>cases h
 |cons a t=>obtain⟨b,rfl⟩:=l1 (oQ h);exact⟨a,b,rfl⟩
theorem l3(h:us.length=3):∃a b c,us=[a,b,c]:=by
 cases us with
 |nil=>cases h
 |cons a t=>obtain⟨b,c,rfl⟩:=l2 (oQ h);exact⟨a,b,c,rfl⟩
theorem l4(h:us.length=4):∃a b c d,us=[a,b,c,d]:=by
 cases us with
 |nil=>cases h
 |cons a t=>obtain⟨b,c,d,rfl⟩:=l3 (oQ h);exact⟨a,b,c,d,rfl⟩
theorem l5(h:us.length=5):∃a b c d e,us=[a,b,c,d,e]:=by
 cases us with
 |nil=>cases h
 |cons a t=>obtain⟨b,c,d,e,rfl⟩:=l4 (oQ h);exact⟨a,b,c,d,e,rfl⟩
theorem l6(h:us.length=6):∃a b c d e f,us=[a,b,c,d,e,f]:=by
 cases us with
 |nil=>cases h
 |cons a t=>obtain⟨b,c,d,e,f,rfl⟩:=l5 (oQ h);exact⟨a,b,c,d,e,f,rfl⟩
end
open PySem L2 PySem.SeqAt PySem.Spec PyProof.Rows
noncomputable def yE(o:aAg):D->D->Res D
 |.int a,.int b=>.ok (.bl (o.int a b))
 |.str a,.str b=>.ok (.bl (o.str a b))
 |_,_=>.bad
section
variable [KFrag]
theorem aJ7{X:Cx}{op:sL}{o:aAg}(hi:∀(prog:bS) (w:bu) (A:b6) (E:am->au->Prop) (Q:am->au->Prop) (s:au) (i j:ai) (t t':eg),Q (.bool (o.int i j)) s->ϑ (ay prog w) A (em op (.int i t) (.int j t')) Q E s)
 (hs:∀(prog:bS) (w:bu) (A:b6) (E:am->au->Prop) (Q:am->au->Prop) (s:au) (i j:Str) (t t':eg),Q (.bool (o.str i j)) s->ϑ (ay prog w) A (em op (.str i t) (.str j t')) Q E s):OpR X (em op) (r2 (yE o) ag):=by
 intro Ψ s σ H x y v u Q I rx ry ⟨a,b,d,p,q,e,k⟩;unfold yE at e;split at e
 .cases e;cases p.inv;cases q.inv;obtain⟨t,rfl⟩:=rx;obtain⟨t',rfl⟩:=ry;exact hi _ _ _ _ _ _ _ _ _ _ ⟨.bl _,H,I,rfl,k.bl⟩
 .cases e;cases p.inv;cases q.inv;obtain⟨t,rfl⟩:=rx;obtain⟨t',rfl⟩:=ry;exact hs _ _ _ _ _ _ _ _ _ _ ⟨.bl _,H,I,rfl,k.bl⟩
 .exact bx e
theorem aEn{X:Cx}:OpR X (em .Lt) (r2 (yE .lt) ag):=aJ7 (λ_ _ _ _ _ _ _ _ _ _ h=>lt_int h) λ_ _ _ _ _ _ _ _ _ _ h=>lt_str h
theorem aN3{X:Cx}:OpR X (em .LtE) (r2 (yE .le) ag):=aJ7 (λ_ _ _ _ _ _ _ _ _ _ h=>le_int h) λ_ _ _ _ _ _ _ _ _ _ h=>PySem.P.le_str h
theorem aJ8{X:Cx}:OpR X (em .Gt) (r2 (yE .gt) ag):=aJ7 (λ_ _ _ _ _ _ _ _ _ _ h=>gt_int h) λ_ _ _ _ _ _ _ _ _ _ h=>PySem.P.gt_str h
end
def J2:D->D->Res D
 |.str x,.int n=>if ϒ (0<=n)&&ϒ (n<=100000)&&ϒ (x.length*n.toNat<=lim) then .ok (.str (wu x n)) else .bad
 |a,b=>bJ .mul a b
def inX:D->D->Res D
 |.str c,.str x=>.ok (.bl (!(Bf x c 0 x.length 1).isEmpty))
 |a,b=>eG .isin a b
def aN4:D->ar ai->ar ai->Res D
 |.str x,lo,hi=>if ϒ (x.length<=lim) then .ok (.str (iq x lo hi)) else .bad
 |d,lo,hi=>aQ1 d lo hi
def oY(a:FE)(lo hi:ae D->Res (ar ai)):FE:=λρ=>do let x <- a ρ;let l <- lo ρ;let h <- hi ρ;aN4 x l h
def MF:D->Res (ae D)
 |.str x=>if ϒ (x.length<=lim) then .ok (L_ x) else .bad
 |d=>zM d
def bH(a:FE)(fr:aw):FI:=λρ=>do let x <- a ρ;let xs <- MF x;pure (xs,fr||x.pure)
noncomputable def zU:ae D->ar (ae Str)
 |[]=>aa []
 |.str x::r=>(zU r).map (x::·)
 |_::_=>aj
def joinM:D->ae D->Res D
 |.str sep,[.lst ds]=>match zU ds with
  |some ts=>if oS sep ts then .ok (.str (rc sep ts)) else .bad
  |none=>.bad
 |_,_=>.bad
variable [KFrag]
section
variable {X:Cx}
theorem l_:OpR X (eI .Mult) (r2 J2 ag):=by
 rintro Ψ s σ H x y v u Q I rx ry ⟨a,b,d,p,q,e,k⟩;by_cases hs:∃z n,a=.str z/\b=.int n
 .obtain⟨z,n,rfl,rfl⟩:=hs;simp only[J2] at e;split at e
  .rename_i hl;cases e;simp only[aS,cx] at hl;obtain⟨⟨h0,h1⟩,h2⟩:=hl;cases p.inv;cases q.inv;obtain⟨t,rfl⟩:=rx;obtain⟨t',rfl⟩:=ry;have hz:z.length*n.toNat<=bo:=dj h2 (by rw[dv];decide);refine SB.mul ⟨?_,λh3 _=>?_,λ_ _=>?_⟩ λt2 k2=>⟨.str _,H,I.tok k2,⟨t2,rfl⟩,k.str⟩
   .rw[cS 0x1,cS 0x1];rfl
   .have hn:0<n:=by lia
    have h4:(z.length:ai)*n<=2 ^ 63-1:=by
     have h5:((z.length*n.toNat:ah):ai)<=1000000:=by
      have:lim=1000000:=by unfold lim;exact Eq.refl _
      lia
     rw[zt,Int.toNat_of_nonneg h0] at h5;lia
    have h6:=(Int.le_ediv_iff_mul_le hn).mpr h4;lia
   .unfold D4;exact cS 0x1
  .exact bx e
 .have he:J2 a b=bJ .mul a b:=by
   unfold J2;split
   .exact aT ⟨_,_,rfl,rfl⟩ hs
   .rfl
  rw[he] at e;exact aMs Ψ s σ H x y v u Q I rx ry ⟨a,b,d,p,q,e,k⟩
theorem EY(hu:X.A.units+20<dE):OpR X (em .In) (r2 inX ag):=by
 rintro Ψ s σ H x y v u Q I rx ry ⟨a,b,d,p,q,e,k⟩;by_cases hs:∃z n,a=.str z/\b=.str n
 .obtain⟨z,n,rfl,rfl⟩:=hs;cases e;cases p.inv;cases q.inv;exact Z8 Ψ s σ H _ _ v u Q I rx ry ⟨_,_,rfl,rfl,k.bl⟩
 .have he:inX a b=eG .isin a b:=by
   unfold inX;split
   .exact aT ⟨_,_,rfl,rfl⟩ hs
   .rfl
  rw[he] at e;exact aQt hu Ψ s σ H x y v u Q I rx ry ⟨a,b,d,p,q,e,k⟩
theorem part_of(h:jh v o):∃l:ar (ai×eg),partValue l=v/\l.map (·.1)=o:=by
 cases h with
 |none=>exact⟨aj,rfl,rfl⟩
 |int i t=>exact⟨aa (i,t),rfl,rfl⟩
theorem aN5(hK:KFrag.K=X.K):SlR X (λx lo hi H Q=>∃a d,Rep All H x a/\aN4 a lo hi=.ok d/\kR H d ag Q):=by
 rintro Ψ s σ H x v vl vu lo hi sl Q I rx hs pl pu ⟨a,d,p,e,k⟩;by_cases hz:∃z,a=.str z
 .obtain⟨z,rfl⟩:=hz;simp only[aN4] at e;split at e
  .rename_i hl;cases e;cases p.inv;obtain⟨t,rfl⟩:=rx;obtain⟨l,e1,e2⟩:=part_of pl;obtain⟨m,e3,e4⟩:=part_of pu;subst e1 e2 e3 e4;refine⟨"str",_,F.slot_str_getitem.lookup,zf _ _ _,?_⟩;obtain⟨o,ho,hc,hd⟩:=hs;refine wpAny_getItem_str_slice (st:=aj) ⟨o,ho,hc,hd⟩ rfl ?_;have hle:(iq z (l.map (·.1)) (m.map (·.1))).length<=bo:=dj (wv ..) (lY hl);have q:∀(t':eg)(k2:ah),EP X Ψ σ Q (.str (iq z (l.map (·.1)) (m.map (·.1))) t') {s with toks:=k2}:=λt' k2=>⟨.str _,H,I.tok k2,⟨t',rfl⟩,k.str⟩
   show Made.post (if ((1:ai)==1&&(B2 (l.map (·.1)) (m.map (·.1)) 1 z.length).length==z.length)=ag then .val (.str z t) else .str ⟨((B2 (l.map (·.1)) (m.map (·.1)) 1 z.length).filterMap (z.cps[·]?)).toArray⟩) _ s;unfold iq at hle q;split
   .rename_i hh;have:=q t s.toks;rw[ao hh] at this;exact this
   .rename_i hh;rw[ax hh] at hle;have:=q s.toks (s.toks+1);rw[ax hh] at this;exact⟨hle,this⟩
  .exact bx e
 .have he:aN4 a lo hi=aQ1 a lo hi:=by
   unfold aN4;split
   .exact aT ⟨_,rfl⟩ hz
   .rfl
  rw[he] at e;exact aQv hK Ψ s σ H x v vl vu lo hi sl Q I rx hs pl pu ⟨a,d,p,e,k⟩
theorem jT{lo hi:ar Expr}{p2:ck}{fl fh:ae D->Res (ar ai)}(hK:KFrag.K=X.K)(he:PE X e (gE fe re))(hl:PO X lo (gO fl))(hh:PO X hi (gO fh)):PE X (.Subscript e (.Slice lo hi aj p2) pos) (gE (oY fe fl fh) ag):=
 PE.imp (aE1 (aN5 hK) he hl hh) λσ H Q z0=>by
  obtain⟨ρ,d,E,h,q⟩:=z0;obtain⟨x,h1,h⟩:=a_ h;obtain⟨l,h2,h⟩:=a_ h;obtain⟨u,h3,h⟩:=a_ h;exact⟨ρ,x,E,h1,λv H1 s1 r1 _=>⟨ρ,l,E.same s1,h2,λH2 s2=>⟨ρ,u,E.same (s1.trans s2),h3,λH3 s3=>⟨x,d,r1.same (s2.trans s3),h,q.imp ((s1.trans s2).trans s3) id⟩⟩⟩⟩
theorem VG:∀{xs:ae V}{ds:ae D}{its:ae am}{ts:ae Str},bK P H xs ds->Vals xs its->zU ds=aa ts->∃l:ae (Str×eg),its=strValues l/\l.map (·.1)=ts
 |[],[],[],_,_,_,h=>by cases h;exact⟨[],rfl,rfl⟩
 |_,_,_,_,.cons (d:=d) r t,.cons rv tv,h=>by
  cases d with
  |str z=>
   obtain⟨ts,h1,h2⟩:=i0.mp h;cases r.inv;obtain⟨tk,rfl⟩:=rv;obtain⟨l,e1,e2⟩:=VG t tv h1;refine⟨(z,tk)::l,?_,?_⟩
   .rw[e1];rfl
   .rw[<-h2,<-e2];rfl
  |_=>simp only[zU] at h;cases h
theorem aJ9:MtR X "str.join" (rm joinM ag):=by
 rintro Ψ s σ H x xs v us Q I rv vr ⟨a,ds,d,ra,rs,h,k⟩;unfold joinM at h;split at h
 .split at h
  .rename_i ts hts;split at h
   .rename_i hok;cases h;obtain⟨vv,uu,rfl,rfl,r,rk⟩:=jE rs vr;obtain⟨l,ys,rfl,hl,rr⟩:=r.m_;cases rk;cases ra.inv;obtain⟨t,rfl⟩:=rv;obtain⟨its,vr',pl⟩:=xW I hl;obtain⟨l2,e1,e2⟩:=VG rr vr' hts;subst e1;exact SC.join pl e2 hok λt' k2=>⟨.str _,H,I.tok k2,⟨t',rfl⟩,k.str⟩
   .exact bx h
  .exact bx h
 .exact bx h
theorem aEo(h:joinM d ds=.ok r)(rp:Rep All H v d):tyV X.K "str" v H:=by
 have:∃z,d=.str z:=by
  unfold joinM at h;split at h
  .exact⟨_,rfl⟩
  .exact bx h
 obtain⟨z,rfl⟩:=this;cases rp.inv;rfl
theorem aEp{K:bi}(x:Str)(t:eg)(it:al):Turn P w K tg (aQw x) [it] it (λi h=>h.IsStrIter it (fz x) x t i) where
 mem:=by simp
 obj:=λi h st b hb=>by
  have e:b=it:=by simpa using hb
  subst e;obtain⟨o,e,c,d⟩:=st;exact⟨o,e,λv z=>by rw[d] at z;cases z⟩
 keep:=λi h h' st k=>by
  obtain⟨o,e,r⟩:=st;exact⟨o,k it 0x2 o e,r⟩
 item:=by
  intro Y hP hw hK hc i Ψ s σ H E I hf st hg;subst hP hw hK;obtain⟨f0,f1,f2,f3,f4,f5⟩:=hf it 0x2;have hx:x.cps[i]?=aa x.cps[i]:=wx hg;have fin:∀(h':aI)(ty:fR),(["enumerate","zip","dict_itemiterator","dict_reverseitemiterator","odict_iterator","itertools.zip_longest","itertools.pairwise"].contains ty=ak)->fz x=ty->h'.IsStrIter it ty x t (i+1)->eR it s.heap h'->
    ∃u,aa (n9 ⟨#[x.cps[i]]⟩ s.toks)=aa u/\ϑ (ay Y.prog Y.w) Y.A (om tg (.ref it) u) (λ_ s2=>∃v H',Inv Y Ψ σ H' s2/\RelV v u/\(aQw x).yld i H v H'/\s2.heap.IsStrIter it (fz x) x t (i+1)/\∀b∈[it],H' b=aj) E {s with heap:=h',toks:=s.toks+1}:=by
   intro h' ty hn hty st' sb;have I1:Inv Y Ψ σ H {s with heap:=h',toks:=s.toks+1}:=I.turned (λb o hb e=>(sb.2 b hb).trans e) f0 f1 f3 f4 f5;obtain⟨o,e,c,d⟩:=id st';exact⟨_,rfl,aDv e c d hn ⟨.str ⟨#[x.cps[i]]⟩,H,I1,⟨_,rfl⟩,⟨rfl,_,hx,rfl⟩,by rw[hty];exact st',λb hb=>(hf b hb).1⟩⟩
  cases ha:x.cps.all (·<128)
  .have hty:fz x="str_iterator":=by simp[fz,ha]
   rw[hty] at st;exact wpAny_pyNext_wide_item st hx λh' st' sb=>fin h' _ 0x4 hty st' sb
  .have hty:fz x="str_ascii_iterator":=by simp[fz,ha]
   rw[hty] at st;exact wpAny_pyNext_ascii_item st hx λh' st' sb=>fin h' _ 0x4 hty st' sb
 done:=by
  intro Y hP hw hK hc i Ψ s σ H E I hf st hg;subst hP hw hK;obtain⟨f0,f1,f2,f3,f4,f5⟩:=hf it 0x2;have hx:x.cps[i]?=aj:=wy hg;cases ha:x.cps.all (·<128)
  .have hty:fz x="str_iterator":=by simp[fz,ha]
   rw[hty] at st;exact wpAny_pyNext_wide_end (I.ok.hd hc) st hx λh' eb=>⟨rfl,I.turned (λb o hb e=>eb b o hb e) f0 f1 f3 f4 f5⟩
  .have hty:fz x="str_ascii_iterator":=by simp[fz,ha]
   rw[hty] at st;exact wpAny_pyNext_ascii_end (I.ok.hd hc) st hx λh' eb=>⟨rfl,I.turned (λb o hb e=>eb b o hb e) f0 f1 f3 f4 f5⟩
 self:=λ_ _ _ _ _ st h=>by
  cases ha:x.cps.all (·<128)
  .have hty:fz x="str_iterator":=by simp[fz,ha]
   rw[hty] at st;exact wpAny_pyIter_striter_wide st h
  .have hty:fz x="str_ascii_iterator":=by simp[fz,ha]
   rw[hty] at st;exact wpAny_pyIter_striter_ascii st h
section
variable {tg l a:Expr}
theorem aAy(I1:Inv X Ψ σ H1 s1)(r:Rep All H1 v d)(ru:RelV v u)(hi:MF d=.ok items)
 (q:∀J,(∀P:al->Prop,Rep P H1 v d->ItQ X.K P J H1 items)->R J H1):ϑ (ay X.prog X.w) X.A (l9 u) (PIE X Ψ σ tg R) X.xe s1:=by
 by_cases hz:∃z,d=.str z
 .obtain⟨z,rfl⟩:=hz;simp only[MF] at hi;split at hi
  .cases hi;cases r.inv;obtain⟨t,rfl⟩:=ru;refine wpAny_pyIter_strU ?_;refine⟨s1.heap.objs.size,[s1.heap.objs.size],_,_,H1,rfl,I1.kept λb o e=>bX _ e,aEp z t _,⟨_,dh _ rfl,rfl,rfl⟩,λb hb=>?_,q _ λP r=>.chs z rfl rfl⟩;have e:b=s1.heap.objs.size:=by simpa using hb
   subst e;exact I1.aLj (bt _) (I1.hok.fresh (bt _))
  .exact bx hi
 .have he:MF d=zM d:=by
   unfold MF;split
   .exact aT ⟨_,rfl⟩ hz
   .rfl
  rw[he] at hi;exact U_ I1 r ru hi q
theorem cU(hl:PE X l (gE fl rl)):PI X tg l (gI X.K (bH fl rl)):=by
 rintro Ψ s σ H R I ⟨ρ,items,k,E,h,q⟩;obtain⟨d,h1,h⟩:=a_ h;obtain⟨its,h2,h⟩:=a_ h;cases h;refine thn (hl Ψ s σ H _ I ⟨ρ,d,E,h1,λv H1 s1 r1 n1=>(show(∃d',Rep All H1 v d/\d'=d/\∀J,(∀P:al->Prop,Rep P H1 v d->ItQ X.K P J H1 items)->R J H1) from ⟨d,r1,rfl,λJ hJ=>q J H1 s1 (hJ _ r1) λhk=>hJ _ ?_⟩)⟩) λu s1 ⟨v,H1,I1,ru,d',r1,e,q1⟩=>aAy I1 r1 ru h2 q1
 rw[i8] at hk;rcases hk with hk|hk
 .exact n1 hk
 .exact r1.bT hk
theorem RW{ch:ae al}{a:al}{o:HO}(I:Inv X Ψ σ H s)(k:∀b u,b∉ch->s.heap.get? b=aa u->h'.get? b=aa u)(hf:∀b∈ch,ZP X Ψ H b)(hp:s.heap.objs.size<=a)
 (new:gY X.prog X.w (upd H a o) h' a o):Inv X Ψ σ (upd H a o) {s with heap:=h',toks:=t'}:=by
 have hn:H a=aj:=I.hok.fresh hp;have nch:∀b u,H b=aa u->b∉ch:=λb u e z=>by rw[(hf b z).1] at e;cases e
 have kU:∀b u,H b=aa u->upd H a o b=aa u:=λb u e=>by rw[aO (bL e hn)];exact e
 refine I.step (λb hb=>?_) (λb u _ _ hc e _=>k b u hc e) (λb u _ _ hc e _=>⟨u.slots,k b u hc e⟩) (λb u _ e n=>?_)
  (λb u hc e=>⟨u,k b u hc e⟩) (λb xs e=>kU b _ e) (λb u v e=>kU b _ e) (λb ps e=>⟨#[],by rw[kU b _ e];simp⟩) (λm hm=>?_) (λb u e=>?_) I.bare
 .obtain⟨_,f1,_,f3,f4,f5⟩:=hf b hb;exact⟨f3,f1,f4,f5⟩
 .rw[aO (λz=>aT (dQ (bE e) hp) (by rw[z];exact hU _))];exact n
 .obtain⟨u,es,ep,hu,r⟩:=hm;exact⟨u,es,ep,k _ u (λz=>(hf _ z).2.1 rfl) hu,r⟩
 .by_cases hb:b=a
  .subst hb;rw[aJ] at e;cases e;exact new
  .rw[aO hb] at e;refine(I.hok b u e).stay (λc v hc q=>k c v ?_ q) (λc q=>kU c _ q) λc xs q=>kU c _ q
   rcases hc with z|z
   .rw[z];exact nch b u e
   .exact nch c _ z
end
end
end Mi
namespace Mi
open PySem L2
theorem bG:lim=1000000:=by unfold lim;exact Eq.refl _
theorem aAz(h:ρ.length=n):UV n ρ=ρ:=by
 subst h;apply zu
 .simp[UV]
 .intro i h1 h2;simp[UV,h2]
theorem oZ(h:ds.length=n):sG n f ds=f ds:=by
 unfold sG;rw[ao (by simp[h])]
theorem aH(h1:a ρ=.ok x)(h2:b ρ=.ok y)(h3:f x y=.ok z):b2 f a b ρ=.ok z:=by
 unfold b2;rw[h1,ι,h2,ι,h3]
theorem cR(h:f ρ=.ok d):bZ ak i f ag ρ=.ok (.nx (ρ.set i d)):=by
 unfold bZ;rw[h,ι];rfl
theorem dZ(h:f ρ=.ok d)(hp:d.pure=ag):bZ ak i f ak ρ=.ok (.nx (ρ.set i d)):=by
 unfold bZ;rw[h,ι];simp only[hp,zj,i5,gf,e9]
theorem d7(h:f ρ=.ok d)(hp:inner d=ag):bZ ag i f ag ρ=.ok (.nx (ρ.set i d)):=by
 unfold bZ;rw[h,ι];simp only[hp,mP,e9]
theorem aJa(h:cD j ρ=.ok d):sAl i j ρ=.ok (.nx (ρ.set i d)):=by
 unfold sAl;rw[h,ι]
theorem aN(h1:f ρ=.ok (.nx ρ'))(h2:g ρ'=r):bA f g ρ=r:=by
 unfold bA;rw[h1,ι];exact h2
theorem aN6(h1:c ρ=.ok k)(h2:(if k then f ρ else g ρ)=r):sIf c f g ρ=r:=by
 unfold sIf;rw[h1,ι];exact h2
theorem J3(h1:c ρ=.ok ag)(h2:f ρ=r):sIf c f g ρ=r:=aN6 h1 (by rw[ao rfl];exact h2)
theorem oJ(h1:c ρ=.ok ak)(h2:g ρ=r):sIf c f g ρ=r:=aN6 h1 (by rw[ax 0x2];exact h2)
theorem cJ(h1:f ρ=.ok (.bl k)):bTB f ρ=.ok k:=by
 unfold bTB;rw[h1,ι];rfl
theorem HD(h1:a ρ=.ok ag)(h2:b ρ=r):K4 a b ρ=r:=by
 unfold K4;rw[h1,ι,ao rfl,h2]
theorem YL(h1:a ρ=.ok ak):K4 a b ρ=.ok ak:=by
 unfold K4;rw[h1,ι,ax 0x2];rfl
theorem aD(h1:a ρ=.ok x)(h2:b ρ=.ok xs):aC a b ρ=.ok (x::xs):=by
 unfold aC;rw[h1,ι,h2,ι];rfl
theorem bF(h1:a ρ=.ok xs)(h2:f xs=.ok d):aZ f a ρ=.ok d:=by
 unfold aZ;rw[h1,ι,h2]
theorem eE(h:a ρ=.ok xs)(hl:xs.length<=lim):iK a ρ=.ok (.tup xs):=by
 unfold iK;rw[h,ι,ao (bw hl)];rfl
theorem zV(h:f ρ=.ok d)(hp:(k||d.pure)=ag):zN f k ρ=.ok (.rt d):=by
 unfold zN;rw[h,ι,ao hp]
theorem oK(h1:it ρ=.ok (xs,ag))(h2:xV t body xs ρ=r):J1 it t body ρ=r:=by
 unfold J1;rw[h1,ι];exact h2
theorem RX(h1:cD i ρ=.ok d)(h2:zM d=.ok xs)(h3:xV t body xs ρ=r):B_ i t body ρ=r:=by
 unfold B_;rw[h1,ι,h2,ι];exact h3
theorem wB(h:f ρ=.ok [.int n])(h1:0<=n)(h2:n<=1000000):lX f jN ρ=.ok ((aE n.toNat).map λ(k:ah)=>θ (0+(k:ai)),ag):=by
 unfold lX;rw[h,ι];have:oO n=ag:=by
  simp only[oO,aS,cx];lia
 simp only[jN,this,e9]
theorem VH(h1:g ρ=.ok d)(h2:f ρ=.ok k)(h3:ρ.getD i .uD=.dct kvs)(h4:kvs.length<lim)(h5:yJ kvs k=ag)(h6:d.pure=ag):aEf i f g ρ=.ok (.nx (ρ.set i (.dct (putD kvs k d)))):=by
 unfold aEf;rw[h1,ι,h2,ι,h3];simp only[bw h4,h5,h6,mP,e9]
theorem oM(h1:f ρ=.ok d)(h3:ρ.getD i .uD=.lst xs)(h4:xs.length<lim)(h5:d.pure=ag):Q7 i f ρ=.ok (.nx (ρ.set i (.lst (xs++[d])))):=by
 unfold Q7;rw[h1,ι,h3];simp only[bw h4,h5,mP,e9]
theorem cH(h1:t x ρ=.ok ρ1)(h2:body ρ1=.ok (.nx ρ2))(h3:xV t body xs ρ2=r):xV t body (x::xs) ρ=r:=by
 rw[xV,h1,ι,h2,ι];exact h3
theorem RZ(h1:it ρ=.ok (xs,kk))(h2:xs.length<=lim)(h3:oW (K6 n t c f k ρ) [] xs=.ok ys):dB n it t c f k ρ=.ok (.lst ys):=by
 unfold dB;rw[h1,ι];simp only[bw h2,e9];rw[h3];rfl
theorem zW(hρ:ρ.length=n)(h1:c (ρ++[x])=.ok b)(h2:b=ag->f (ρ++[x])=.ok y/\(k||y.pure)=ag):K6 n lO c f k ρ acc x=.ok (if b then acc++[y] else acc):=by
 unfold K6;show(do let ok <- c (UV n ρ++[x]);_)=_;rw[aAz hρ,h1,ι];cases b with
 |true=>
  obtain⟨e1,e2⟩:=h2 rfl;rw[ao rfl,e1,ι,ao e2,ao rfl];rfl
 |false=>
  rw[ax 0x2,ax 0x2];rfl
theorem cY(a b:ai):bJ .add (.int a) (.int b)=.ok (.int (a+b)):=rfl
theorem xY(a b:ai):bJ .sub (.int a) (.int b)=.ok (.int (a-b)):=rfl
theorem aN7(a b:ai)(h:iI b=ag):bJ .mul (.int a) (.int b)=.ok (.int (a*b)):=by
 show(if iI a||iI b then τ (θ (a*b)) else .bad)=_;rw[h,Bool.or_true,ao rfl]
theorem dM(a b:ai)(h1:0<b)(h2:b<1073741824):bJ .fdiv (.int a) (.int b)=.ok (.int (a / b)):=by
 show(if ϒ (0<b)&&ϒ (b<1073741824) then τ (θ (a / b)) else .bad)=_;rw[bw h1,bw h2,mP,ao rfl]
theorem b_(a b:ai)(h1:0<b):bJ .mod (.int a) (.int b)=.ok (.int (a % b)):=by
 show(if ϒ (0<b) then τ (θ (a % b)) else .bad)=_;rw[bw h1,ao rfl]
theorem VJ(a:ai)(h1:-1000000<=a)(h2:a<=1000000):iI a=ag:=by
 simp only[iI,aS,cx];lia
theorem aB0(a b:Str)(h:a.length+b.length<=lim):bJ .add (.str a) (.str b)=.ok (.str (a++b)):=by
 show(if ϒ (a.length+b.length<=lim) then τ (π (a++b)) else .bad)=_;rw[bw h,ao rfl]
theorem HF(a b:ae D)(h:a.length+b.length<=lim)(ha:ε a=ag)(hb:ε b=ag):bJ .add (.lst a) (.lst b)=.ok (.lst (a++b)):=by
 show(if ϒ (a.length+b.length<=lim)&&ε a&&ε b then τ (ψ (a++b)) else .bad)=_;rw[bw h,ha,hb,mP,mP,ao rfl]
theorem wW(S:ae ai):ε (S.map θ)=ag:=by
 induction S with
 |nil=>rfl
 |cons q Q ih=>rw[bd,ε,ih];rfl
theorem aJb(ns:ae ai)(lo hi:ar ai):cutD (ns.map θ) lo hi=(cutD ns lo hi).map θ:=by
 unfold cutD;rw[az,wz,zv]
open PySem.SeqAt PySem.Spec PyProof.Rows
theorem R0(x:gY P w H h a o):∃ob,h.get? a=aa ob:=by
 cases o with
 |lst xs=>obtain⟨_,_,_,_,e⟩:=x;exact⟨_,e⟩
 |tup xs=>obtain⟨_,_,_,_,e,_⟩:=x;exact⟨_,e⟩
 |dK kvs=>obtain⟨_,_,_,_,o,_,_,e,_⟩:=x;exact⟨_,e⟩
 |dT kvs=>obtain⟨_,_,_,_,o,_,_,e,_⟩:=x;exact⟨_,e⟩
 |set S n=>obtain⟨o,_,_,_,e,_⟩:=x;exact⟨_,e⟩
 |ins C dx fs=>obtain⟨_,_,_,e,_⟩:=x;exact⟨_,e⟩
 |own y=>exact x
 |xd fs=>obtain⟨_,⟨_,_,_,e,_⟩,_⟩:=x;exact⟨_,e⟩
 |rng lo hi=>obtain⟨_,_,_,e⟩:=x;exact⟨_,e⟩
 |frz ob u=>obtain⟨e,_⟩:=x;exact⟨_,e⟩
 |tbl ps=>exact⟨_,show h.get? a=aa _ from x⟩
 |met f y=>exact⟨_,show h.get? a=aa _ from x⟩
 |ext φ=>obtain⟨_,e,_⟩:=x;exact e
theorem aJc{K:bi}(X:K.In h)(q:zw K C bmB newId=ag) :
  ∃bm N nm qn bs hdct sn sub ab col dd k0 k1 k2 k3 k5 mN,h.get? C=aa (excClassObj nm qn C N bs bm hdct sn sub ab col dd k0 k1 k2 k3 k5 newId)/\h.Ns N mN/\mN "__init__"=aj/\OwnTail h bmB bm:=by
 unfold zw at q;split at q
 .rename_i dd cd sl ho;split at q
  .rename_i C' bm k0 k1 k2 k3 n k5 hm hs;rw[aS,aS,aS,aS,aS] at q;obtain⟨⟨⟨⟨⟨q1,q2⟩,q3⟩,q4⟩,q5⟩,q6⟩:=q;have q1:=gu.mp q1;have q2:=gu.mp q2;rw[wq] at q3;subst q1 q2;obtain⟨nm,bs,mro,ns,qn,hd,sn,sub,ab,col,del⟩:=cd;obtain⟨l⟩:=sl;dsimp only at hm q3 q5 q6 hs;subst hm q3 hs;exact⟨bm,ns,nm,qn,bs,hd,sn,sub,ab,col,dd,k0,k1,k2,k3,k5,_,X _ _ ho,.of_isNs (PySem.W.isNs_of_in X q5),PySem.W.nsMap_none_of_in X q5 (gu.mp q6),PySem.W.tail_of_in X q4⟩
  .cases q
 .cases q
abbrev aQz:ae am:=[.type "ValueError",.type "Exception",.type "BaseException",.type "object"]
theorem aEq(hc:X.calm=ag)(hg:Gl X x)(hm:X.mg x=aa (.ref C))(hq:zw X.K C aQz "ValueError.__new__"=ag)(ha:PA X [e] ta)
 (he:autoParam (b5 [e] X.env=[(ak,eval e X.env)]) Ω)(hd:autoParam (nDb x) Λ) :
  PS X (.Raise (aa (.Call (.Name x np) [e] [] cpos)) aj pos) (λD σ H=>ta σ H λvs H1=>vs.length<=bo/\∀(Ψ:ae (al×bn))(s:au)(h2:aI)(a:al)(us:ae am),Inv X Ψ σ H1 s->B3 s.heap h2 a (.ref C) us->X.xe (.ref a) {s with heap:=h2}):=by
 intro Ψ s σ H D I h;obtain⟨bm,N,nm,qn,bs,hdct,sn,sub,ab,col,dd,k0,k1,k2,k3,k5,mN,hC,hN,hni,T⟩:=aJc I.mod.kin hq;refine wpAny_Raise_call_subT (nm:=nm) (q:=qn) (N:=N) (bs:=bs) (bm:=bm) (hdct:=hdct) (sn:=sn) (sub:=sub) (ab:=ab) (col:=col) (dd:=dd) (k0:=k0) (k1:=k1) (k2:=k2) (k3:=k3) (k5:=k5)
  B4 (mN:=mN) (T.hasType B4.hasBase) (I.ok.hd hc) (by rw[he];rfl) hni (wM I hg hm ⟨rfl,?_⟩ hd)
 rw[he];have h':=ha cpos Ψ s σ H _ I h;rw[he] at h';refine Bw (fg h' (λus s2 ⟨vs,H1,I1,r,hl,hx⟩=>⟨rfl,by rw[<-r.length];exact hl,I1.bk _ _ hC,hN.keeps I1.bk,T.keeps I1.bk,λh2 a hm=>hx Ψ s2 h2 a us I1 hm⟩) λ_ _ y=>y)
open PySem.W PySem.Builtin PySem.Builtin.ObjectAttr PySem.Builtin.Getset_descriptor
def ExcAt(a C:al)(h:aI):Prop:=∃o,h.get? a=aa o/\o.cls=.ref C
structure XC(K:Frag)(C:al):Prop where
 cl:(clsIn K C).isSome=ag
 ga:findIn K (.ref C) "__getattribute__"=aa (aa (.builtin "BaseException.__getattribute__"))
 gh:findIn K (.ref C) "__getattr__"=aa aj
 kc:findIn K (.ref C) "__class__"=aa (aa (.builtin "object.__class__"))
 kg:specialIn K (.builtin "object.__class__") "__get__"=aa (aa (.builtin "getset_descriptor.__get__"))
 kt:takesIn K (.builtin "object.__class__")=aa ag
 ob:w_ K C (.type "object")=aa ag
 be:w_ K C (.type "BaseException")=aa ag
section
variable {prog:bS} {w:bu} {A:b6} {E:am->au->Prop} {s:au} {K:Frag} {x C:al}
theorem MJ(p:ExcAt x C h):Looks M h (ow (.ref x)) (.ref C):=by
 obtain⟨o,h1,h2⟩:=p;rw[<-h2];exact(B5 h1).andThen .now
theorem aEr(X:K.In h)(c:XC K C):Looks M h (find (.ref x) (.ref C) "__class__") (.bind (.builtin "getset_descriptor.__get__") (.builtin "object.__class__")):=by
 refine(looks_findIn X c.kc).andThen ((looks_specialIn X c.kg).andThen ?_);have L:Looks M h (dataDescriptor? (aa (.builtin "object.__class__")) (aa (.builtin "getset_descriptor.__get__"))) (aa (.builtin "getset_descriptor.__get__",.builtin "object.__class__")):=(looks_takesIn X c.kt).andThen .now;exact L.andThen (Looks.tag .now)
theorem aJd(X:K.In s.heap)(p:ExcAt x C s.heap)(c:XC K C)(h:R (.ok (.ret (.ref C))) s) :
  codeAny (ay prog w) A (.call (.builtin "getset_descriptor.__get__") ⟨[.builtin "object.__class__",.ref x,tp],[]⟩) R s:=by
 obtain⟨hh,g,d,t,os⟩:=s;have L0:=MJ (M:=ay prog w) p;have L1:=B6 (M:=ay prog w) X c.ob;refine xg B7.plain KF.entry_gs (B7.check _ _ _ _ _ _ _ _ KF.type_class (KF.args_gs _ _ _) ?_)
 (unfold dz.«getset_descriptor.__get__» descrGet;rw[dga_obj];refine aq (bc ?_);unfold descrGetter descrCheckInstance descrNameAndClass zx;simp only[KF.owner_class])
 repeat lk
 refine⟨ly _ 0x6,lz KF.entry_class ?_⟩
 (unfold dz.«object.__class__» shownTypeOf;repeat lk)
 exact h
theorem aB1(X:K.In s.heap)(p:ExcAt x C s.heap)(c:XC K C)(h:Q (.done (.ret (.ref C))) s) :
  ϑ (ay prog w) A (dz.«object.__getattribute__» ⟨[.ref x,.str "__class__" tk],[]⟩) Q E s:=by
 obtain⟨hh,g,d,t,os⟩:=s;have L0:=MJ (M:=ay prog w) p;have L1:=aEr (M:=ay prog w) (x:=x) X c;unfold dz.«object.__getattribute__»;refine aq (bc ?_);refine aq (bc ?_);refine aq (L0.at (aq (L1.at ?_)));show ϑ _ _ (kK [_] (call _ [_,.ref x,.ref C]) >>= ret) _ _ _;exact aq (eL (kN (aJd X p c (bc h))))
theorem aB2(X:K.In s.heap)(p:ExcAt x C s.heap)(c:XC K C)(h:Q () s):ϑ M A (B8 "BaseException.__getattribute__" ⟨[.ref x,nv],[]⟩) Q E s:=by
 obtain⟨hh,g,d,t,os⟩:=s;have L0:Looks M hh (zx (.ref x) (.type "BaseException")) ag:=(MJ p).andThen (B6 X c.be);have e1:builtinKind "BaseException.__getattribute__"=aa .slot:=by decide +kernel
 have e2:splitId "BaseException.__getattribute__"=aa ("BaseException","__getattribute__"):=by decide +kernel
 have ha:=F.args_bexc_ga (.ref x) nv;simp only[B8,e1,e2];refine aq (L0.at ?_)
 repeat (any_goals (first|assumption|wp_step))
theorem aJe(X:K.In s.heap)(p:ExcAt x C s.heap)(c:XC K C)(h:Q (aa (.ref C)) {s with toks:=s.toks+1}):ϑ (ay prog w) A (xh (.ref x) "__class__") Q E s:=by
 obtain⟨hh,g,d,t,os⟩:=s;have L0:=MJ (M:=ay prog w) p;have L1:=looks_findIn (M:=ay prog w) X c.ga;have L2:=looks_findIn (M:=ay prog w) X c.gh;have e2:(xi "BaseException.__getattribute__"==xi "object.__getattribute__")=ak:=by decide +kernel
 have e1:(onTheHeap (du C)&&xi "BaseException.__getattribute__"==xi "object.__getattribute__")=ak:=by rw[e2];rfl
 unfold xh getAttrBy? getAttrBy;refine aq (wpAny_mkText (aq (kj (eL (aq (L0.at (aq (L1.at ?_))))))));dsimp only;rw[e1,ax 0x4];unfold getAttrByItsOwn hookBefore callGetattribute boundAndCalled;rw[ao (show onTheHeap (du C)=ag from rfl)];refine aq (L2.at (aq (kj (eL ?_))));rw[ax 0x4];refine aq (gN (B9.ga.bind (.ref x)) ?_);refine kN (xg B9.ga.plain F.entry_bexc_ga (aB2 (K:=K) (C:=C) X p c (aB1 (K:=K) (C:=C) X p c ?_)));show ϑ _ _ (handedOut (.ref C)) _ _ _;exact bc (bc h)
theorem HH(c:XC K C):KitX K (.ref x) (.ref C) (ExcAt x C) where
 ty:=λ_ _ _ p=>MJ p
 it:=λM h X _=>by
  obtain⟨cd,hc⟩:=yy.mp c.cl;unfold clsIn at hc;split at hc
  .rename_i ho;intro A' Q' E' s' k q
   (unfold isType loadHead;exact aq (Bi (k _ _ (X _ _ ho)) (bc q)))
  .cases hc
 ne:=λh tp dd its n sl X e=>by
  obtain⟨cd,hc⟩:=yy.mp c.cl;unfold clsIn at hc;split at hc
  .rename_i ho;refine zy.mpr λq=>?_
   have z:C=tp:=D5 (gu.mp q);subst z;cases (X _ _ ho).symm.trans e
  .cases hc
 ca:=λX p h=>aJe X p c h
end
end Mi
namespace Mi
open PySem L2 PySem.W PySem.SeqAt PySem.Spec PyProof.Rows
noncomputable abbrev mrk(X:Cx)(v:am):Cx:={X with A:=X.A.mark (aa v),calm:=ak}
section
variable {a:al}
theorem aB3(I:Inv X Ψ σ H s)(v:am):Inv (mrk X v) Ψ σ H s:=
 ⟨⟨I.ok.mod,I.ok.kind,I.ok.glob,I.ok.blt,I.ok.above,I.ok.inj,I.ok.has,I.ok.cab,(λz=>nomatch z),I.ok.frames,I.ok.stk,I.ok.exf,I.ok.bs,I.ok.bsz,I.ok.noex,I.ok.exfs,I.ok.XJ,I.ok.frf⟩,I.os,I.bare,I.base,I.loc,I.cell,I.free,I.freeC,I.pin,I.hok,I.len⟩
theorem aB4(ok:X.Ok)(I:Inv (mrk X v) Ψ σ H s):Inv X Ψ σ H s:=
 ⟨ok,I.os,I.bare,I.base,I.loc,I.cell,I.free,I.freeC,I.pin,I.hok,I.len⟩
theorem aN8(u:Un fs [] H H2 h h6)(hg:h.get? a=aj)(hn:H2 a=aj):Un fs [] H (upd H2 a o) h h6:=by
 have ne:∀b ob,h.get? b=aa ob->b≠a:=λb ob q z=>by rw[z,hg] at q;cases q
 refine⟨u.keep,u.slot,λb ob q n hx=>by rw[aO (ne b ob q)];exact u.free b ob q n hx,u.there,λb xs q=>?_,λb ob xs q=>?_,λb ps q=>?_⟩
 .have z:=u.tups b xs q;rw[aO (bL z hn)];exact z
 .have z:=u.frzs b ob xs q;rw[aO (bL z hn)];exact z
 .obtain⟨m,z⟩:=u.tbls b ps q;exact⟨m,by rw[aO (bL z hn)];exact z⟩
theorem aJf(x:HOk P w H2 h6)(hn:H2 a=aj)(new:gY P w (upd H2 a o) h6 a o):HOk P w (upd H2 a o) h6:=λb u e=>by
 by_cases hb:b=a
 .subst hb;rw[aJ] at e;cases e;exact new
 .rw[aO hb] at e;exact(x b u e).stay (λc v _ q=>q) (λc q=>by rw[aO (bL q hn)];exact q) λc xs q=>by rw[aO (bL q hn)];exact q
theorem aEs(I:Inv X Ψ σ H s)(hN:X.N.Nodup)(hi:X.N[i]?=aa x)(hn:s.heap.Ns X.env.locals m)
 (hl:∀(i:ah) (x:Str) (v:V),X.N[i]?=aa x->σ[i]?=aa (aa v)->Vis X.env.scope x->∃u,RelV v u/\Look X.env s.heap m x u)
 (hn':h'.Ns X.env.locals (λy=>if y=x then v else m y))(hs:eR X.env.locals s.heap h'):Inv X Ψ (σ.set i aj) H {s with heap:=h',toks:=t'}:=by
 have hiσ:i<σ.length:=by rw[I.len];exact(dA.mp hi).1
 have cne:=I.cne;have ne:∀b o,X.s₀.heap.get? b=aa o->b≠X.env.locals:=λb o e=>cy (dQ (bE e) I.ok.above)
 refine⟨I.ok,I.os,I.bare,⟨λb o e n hb hx=>(hs.2 b (ne b o e)).trans (I.base.keep b o e n hb hx),λb o e n hb hx=>?_,I.base.free,λb o e hx=>?_,I.base.tups,I.base.frzs,I.base.tbls⟩,⟨_,hn',λj y v' e1 e2 e3=>?_⟩,λy c e=>?_,I.free,I.freeC,λp hp=>?_,λb ob e=>?_,by simpa using I.len⟩
 .obtain⟨sl,e1⟩:=I.base.slot b o e n hb hx;exact⟨sl,(hs.2 b (ne b o e)).trans e1⟩
 .obtain⟨o',e1⟩:=I.base.there b o e hx;exact⟨o',(hs.2 b (ne b o e)).trans e1⟩
 .by_cases hj:j=i
  .subst hj;rw[eD hiσ] at e2;cases e2
  .rw[dm (Ne.symm hj)] at e2;obtain⟨u',r',q⟩:=hl j y v' e1 e2 e3;refine⟨u',r',?_⟩;rcases q with ⟨k,e⟩|⟨k,c,e,z⟩
   .refine .inl ⟨k,?_⟩;have:y≠x:=λe=>hj (GF hN e1 (e▸hi))
    simp[this,e]
   .exact .inr ⟨k,c,e,z.sameBut hs (cne y c e)⟩
 .obtain⟨w',z⟩:=I.cell y c e;exact⟨w',z.sameBut hs (cne y c e)⟩
 .obtain⟨e,n,ne,nf,d⟩:=I.pin p hp;exact⟨(hs.2 p.1 ne).trans e,n,ne,nf,d⟩
 .refine(I.hok b ob e).stay (λc w' hc q=>(hs.2 c ?_).trans q) (λ_ q=>q) λ_ _ q=>q
  intro z;rcases hc with hc|hc
  .rw[<-hc,z,I.free] at e;cases e
  .rw[z,I.free] at hc;cases hc
end
variable [KFrag]
theorem MK:∀{cs:ae al}{us:ae am},Vals (cs.map V.ref) us->us=cs.map du
 |[],_,.nil=>rfl
 |c::cs,_,.cons r t=>by rw[MK t];cases r;rfl
theorem VL{H:Hp}{a:al}{o:HO}(h:H a=aj):bW H (upd H a o):=λb u e=>by rw[aO (bL e h)];exact e
theorem HJ:dS "ValueError"=aa (.type "ValueError"):=0x6
end Mi
namespace Mi
open PySem L2 PySem.SeqAt PySem.Spec PyProof.Rows
noncomputable def intsOf:ae D->ar (ae ai)
 |[]=>aa []
 |.int i::r=>(intsOf r).map (i::·)
 |_::_=>aj
def zX:ae D->Res D
 |[.lst ds]=>match intsOf ds with
  |some ns=>if ns.all (λi=>ϒ (-9000<=i)&&ϒ (i<=9000))&&ϒ (ns.length<=100000) then .ok (.int ns.sum) else .bad
  |none=>.bad
 |_=>.bad
theorem MN:∀{ds:ae D}{ns:ae ai},intsOf ds=aa ns->ds=ns.map θ
 |[],ns,h=>by cases h;rfl
 |d::ds,ns,h=>by
  unfold intsOf at h;split at h
  .rename_i e;cases e
  .rename_i i r e;cases e;obtain⟨ms,h1,h2⟩:=i0.mp h;subst h2;rw[bd,<-MN h1]
  .cases h
theorem aB5(ps:ae (ai×eg)):∀j,j<=ps.length->preSum (mT ps.toArray) j=((ps.map (·.1)).take j).sum:=by
 intro j;induction j with
 |zero=>intro _;simp[preSum]
 |succ j ih=>
  intro hj;have hlt:j<ps.length:=by lia
  have e:mT ps.toArray j=(ps.map (·.1))[j]'(by simpa using hlt):=by simp[mT,hlt]
  rw[preSum,ih 0x1,e,<-List.take_append_getElem (by simpa using hlt),Ca];simp
theorem MP(c:ai)(hc:0<=c):∀(l:ae ai),(∀i∈l,-c<=i/\i<=c)->-(c*l.length)<=l.sum/\l.sum<=c*l.length
 |[],_=>by simp
 |x::l,h=>by
  have h1:=h x (de ..);have h2:=MP c hc l λi hi=>h i (dg _ hi)
  simp only[lI,br,Int.natCast_add,Int.mul_add];simp only[Int.natCast_one,Be];lia
section
variable [KFrag]
section
variable {e:Expr}
theorem m7:∀{ns:ae ai}{ys:ae V}{its:ae am},bK P H ys (ns.map θ)->Vals ys its->∃ps:ae (ai×eg),its=ps.map (λp=>n4 p.1 p.2)/\ps.map (·.1)=ns
 |[],_,_,.nil,.nil=>⟨[],rfl,rfl⟩
 |n::ns,_,_,.cons r t,.cons v vs=>by
  obtain⟨ps,h1,h2⟩:=m7 t vs;cases r.inv;obtain⟨tk,rfl⟩:=v;exact⟨(n,tk)::ps,by rw[h1];rfl,by rw[bd,h2]⟩
theorem MT(hc:X.calm=ag):lR X (.builtin "sum") (rs zX ag):=by
 rintro Ψ s σ H xs us Q I vr ⟨ds,d,r,e,k⟩;unfold zX at e;split at e
 .split at e
  .rename_i ns hns;split at e
   .rename_i hb;rw[aS] at hb;cases e;obtain⟨vv,uu,rfl,rfl,r,v⟩:=jE r vr;obtain⟨l,ys,rfl,hl',rr⟩:=r.m_;cases v;rw[MN hns] at rr;obtain⟨its,vi,il,_⟩:=I.list hl';obtain⟨ps,h1,h2⟩:=m7 rr vi;subst h1;have hlen:ps.length=ns.length:=by rw[<-h2,az]
    have hn:ns.length<=100000:=d5 hb.2;have hall:∀i∈ns,-9000<=i/\i<=9000:=λi hi=>by
     have:=ig.mp hb.1 i hi;rw[aS,cx,cx] at this;exact this
    have ia:s.heap.IsList l (intItems ps.toArray):=by
     obtain⟨o,n,e1,e2,e3,e4⟩:=il;exact⟨o,e1,e2,n,by simpa[intItems] using e4⟩
    refine sum_intList (I.ok.hd hc) ia (λj hj=>?_) λh' tk t' kp=>⟨.int ns.sum,H,I.kept kp,⟨t',?_⟩,k _ _ (bW.refl H) (.int _) λ_=>.int _⟩
    .have hj':j<ps.length:=by simpa using hj
     refine⟨?_,?_⟩
     .have hm:mT ps.toArray j∈ns:=by
       have e:mT ps.toArray j=(ps.map (·.1))[j]'(by simpa using hj'):=by simp[mT,hj']
       rw[e,<-h2];exact xj _
      have:=hall _ hm;unfold InLong;lia
     .rw[aB5 ps (j+1) 0x1,h2];have:=MP 9000 0x4 (ns.take (j+1)) λi hi=>hall i (zz hi)
      have hl:(ns.take (j+1)).length<=100000:=dj (List.length_take_le' ..) hn;unfold InLong;lia
    .have:=aB5 ps ps.length (bt _);rw[h2,hlen,List.take_length] at this;rw[b9,hlen,this]
   .exact bx e
  .exact bx e
 .exact bx e
theorem M3:dS "sum"=aa (.builtin "sum"):=0x6
end
def DV(H:Hp)(a:al)(kvs:ae (Key×V)):Prop:=H a=aa (.dK kvs)\/(kvs=[]/\H a=aa (.dT []))
theorem aH8:∀{kvs:ae (κ×V)}{vs:ae (κ×am)}{i:ah}{p:κ×V},KV kvs vs->kvs[i]?=aa p->∃u,vs[i]?=aa (p.1,u)/\RelV p.2 u
 |_,_,_,_,.nil,h=>by simp at h
 |_,_,0,_,.cons r _,h=>by
  simp at h;subst h;exact⟨_,by simp[r.1],r.2⟩
 |_,_,i+1,_,.cons _ t,h=>by
  obtain⟨u,h1,h2⟩:=aH8 t (by simpa using h);exact⟨u,by simpa using h1,h2⟩
section
variable {a:al}
theorem aN9(hu:DV H a kvs):L2.Mut (H a):=by
 rcases hu with h|⟨_,h⟩<;>rw[h]<;>trivial
theorem aB6(I:Inv X Ψ σ H s)(hu:DV H a kvs):kvs.length<=bo/\(a==gp)=ak/\∃vs,KV kvs vs/\s.heap.DictOf (cN X.prog X.w) a vs:=by
 rcases hu with h|⟨rfl,h⟩
 .exact YF I.hok h
 .exact YF (k_ I h).hok aJ
theorem aNa(I:Inv X Ψ σ H s)(hu:DV H a kvs)(ho:s.heap.get? a=aa o):∃u,H a=aa u/\∀(H':Hp)(h:aI),h.get? a=aa o->gY X.prog X.w H' h a u:=by
 rcases hu with h|⟨_,h⟩
 .obtain⟨z,hs,vs,rel,o',es,ep,ho',c⟩:=I.hok a _ h;rw[ho] at ho';cases ho';exact⟨_,h,λH' h' e=>⟨z,hs,vs,rel,o,es,ep,e,c⟩⟩
 .obtain⟨z,hs,xs,rel,o',es,ep,ho',c⟩:=I.hok a _ h;rw[ho] at ho';cases ho';cases rel;exact⟨_,h,λH' h' e=>⟨z,hs,[],.nil,o,es,ep,e,c⟩⟩
end
theorem VM(ea:∀ob,H a=aa ob->Q_ ob=ag)(b:al)(o:HO)(e:H b=aa o)(h:Q_ o=ak):upd H a u b=aa o:=by
 rw[aO λz=>by rw[z] at e;rw[ea _ e] at h;cases h];exact e
theorem HN{P:al->Prop}(ea:∀ob,H a=aa ob->Q_ ob=ag)(q:Rep P H v d)(h:d.pure=ag):Rep P (upd H a u) v d:=q.zO (VM ea) h
theorem wC{P:al->Prop}(ea:∀ob,H a=aa ob->Q_ ob=ag)(q:bK P H v d)(h:ε d=ag):bK P (upd H a u) v d:=q.zO (VM ea) h
structure aR0(K:bi)(x qual:Str)(st:bz)(f:al)(fd:d4)(T:al)(its:bp am):Prop where
 ex:∃(oc:am)(od:ar al)(kV doc pm:am)(an:ar al)(cdv ct:am)(osl:bp (ar am)),
  fd=kQ x qual (fP st) (cW st) (aL st) (.ref T) kV doc pm an cdv ct/\K.lookup f=aa ⟨oc,od,.func fd,osl⟩/\wa K cdv qual=ag
 kp:gw K (.ref f)=ag
 df:∃(tc:am)(td:ar al)(tn:ah)(tl:bp (ar am)),K.lookup T=aa ⟨tc,td,.seq its tn,tl⟩
structure aTy(P:bS)(w:bu)(K:bi)(mg:Str->ar am)(base:aI)(k:ah)(x kw:Str)(n:ah)(df:D)(f:ae D->Res D):Prop where
 ex:∃(fad:al)(fd:d4)(ps:ae Str)(u:am)(v:V),mO P w K mg base CX0 k fad fd ps (spD f (n+1))/\mg x=aa (.ref fad)/\gw K (.ref fad)=ag/\Binds K fd ps []/\Binds K fd ps [u]/\RelV v u/\(∀H:Hp,Rep All H v df)/\
  ∀(s:au)(us:ae am)(y:am),K.In s.heap->us.length=n->kM s fd ⟨us,[(kw,y)]⟩ (ps.zip (us++[y]))
end
def aH9:D->D->Res D
 |.tup a,.tup b=>if ϒ (a.length+b.length<=lim) then .ok (.tup (a++b)) else .bad
 |_,_=>.bad
def nC:ae D->ae D->ae (D×D)->ae (D×D)
 |k::ks,v::vs,m=>nC ks vs (putD m k v)
 |_,_,m=>m
noncomputable def YM(c:FT)(body:FS):ah->ae D->Res Fl
 |0,_=>.bad
 |n+1,ρ=>do
  let k <- c ρ
  if k then (do
   let r <- body ρ
   match r with
   |.nx ρ'=>YM c body n ρ'
   |.ct ρ'=>YM c body n ρ'
   |.bk ρ'=>.ok (.nx ρ')
   |.rt d=>.ok (.rt d))
  else .ok (.nx ρ)
def aJg(c:FT)(body:FS):FS:=λρ=>YM c body 9000 ρ
section
variable [KFrag]
section
theorem R3:OpR X (eI .Add) (r2 aH9 ak):=by
 intro Ψ s σ H x y v u Q I rx ry h;obtain⟨a,b,d,p,q,e,k⟩:=h;unfold aH9 at e;split at e
 .rename_i da db;split at e
  .rename_i hl;cases e;obtain⟨l1,xs1,rfl,e1,r1⟩:=p.inv;obtain⟨l2,xs2,rfl,e2,r2⟩:=q.inv;cases rx;cases ry;have hz:xs1.length+xs2.length<=bo:=by rw[r1.length,r2.length];exact lY hl
   obtain⟨its,w1,p1,_⟩:=I.tuple (.of e1);obtain⟨its2,w2,p2,_⟩:=I.tuple (.of e2);obtain⟨⟨cls,dd,data,sl⟩,ho,hc,n,hd⟩:=id p1;obtain⟨⟨cls2,dd2,data2,sl2⟩,ho2,hc2,n2,hd2⟩:=id p2;simp only at hc hd hc2 hd2;by_cases hv:its=[]
   .have:xs1=[]:=w1.zG.mp hv;subst this;cases r1;refine yz ⟨_,ho,hc⟩ ⟨_,ho2,hc2⟩ yA yB yT yY (y6 _ _)
     (tuple_addW0 l1 l2 its.toArray its2.toArray n n2 dd dd2 sl sl2 (by simp[hv])) ⟨by subst hc hd;exact ho,by subst hc2 hd2;exact ho2,.ref l2,H,I,rfl,?_⟩
    exact k.self (.tup e2 r2) (λz=>by cases z)
   .refine aIk Ψ s σ H (.ref l1) (.ref l2) _ _ Q I rfl rfl ⟨l1,l2,xs1,xs2,rfl,rfl,.of e1,.of e2,λz=>hv (w1.zG.mpr z),hz,λz=>?_,λz p hp=>?_⟩
    .subst z;cases r2;rw[cv] at k;exact k.self (.tup e1 r1) (λz=>by cases z)
    .have sp:bW H (upd H p (.tup (xs1++xs2))):=bW.upd hp;exact k _ _ sp (.tup aJ ((r1.append r2).same sp)) λz=>by cases z
  .exact bx e
 .exact bx e
theorem aB7(hp:ju (ay X.prog X.w) X.A X.env X.xe)(hc:PT X c (gT gc))(hb:PSs X body (tS own fb)):PS X (.While c body [] pos) (tS own (aJg gc fb)):=
 PS.imp (T8 hp hc hb) λD σ H z0=>by
 obtain⟨ρ,fl,E,h,q⟩:=z0;refine⟨λm σ' H'=>∃ρ' ,ES own H' σ' ρ'/\YM gc fb m ρ'=.ok fl/\kS own D σ' H' fl,⟨9000,ρ,E,h,q⟩,?_⟩;rintro m σ H ⟨ρ,E,h,q⟩;cases m with
 |zero=>exact bx h
 |succ m=>
  rw[YM] at h;obtain⟨k,h1,h2⟩:=a_ h;refine⟨ρ,k,E.er,h1,λH1 s=>?_⟩;cases k with
  |true=>
   rw[ao rfl];rw[ao rfl] at h2;obtain⟨r,h3,h4⟩:=a_ h2;refine⟨λσ' H'=>∃ρ',ES own H' σ' ρ'/\YM gc fb m ρ'=.ok fl/\kS own D σ' H' fl,λσ' H' w=>⟨m,ma m,w⟩,ρ,r,E.same s,h3,?_⟩;have q1:=q.step (.same s);cases r with
   |nx ρ'=>exact λσ' H' ku E'=>⟨ρ',E',h4,q1.step ku⟩
   |ct ρ'=>exact λσ' H' ku E'=>⟨ρ',E',h4,q1.step ku⟩
   |bk ρ'=>cases h4;exact λσ' H' ku E'=>q1 σ' H' ku E'
   |rt d=>cases h4;exact q1
  |false=>
   rw[ax 0x2];rw[ax 0x2] at h2;cases h2;exact(q.step (.same s)) σ H1 (λa o e n=>⟨e,n⟩) (E.same s)
end
theorem aNb(h:(cN P w).is k v=ag):RelV (kV k) v:=by
 have h:QM k v=ag:=h;rcases cV h with ⟨i,t,rfl,rfl⟩|⟨x,t,rfl,rfl⟩
 .exact⟨t,rfl⟩
 .exact⟨t,rfl⟩
section
variable {a:al}
theorem aEt(I:Inv X Ψ σ H s)(e:H a=aa (.frz o u))(hn:∀o u,X.H₀ a≠aa (.frz o u)):Inv X Ψ σ (upd H a u) s:=by
 have ne:∀b,H b=aj->b≠a:=λb h z=>by subst z;rw[e] at h;cases h
 have keepT:∀b xs,H b=aa (.tup xs)->upd H a u b=aa (.tup xs):=λb xs h=>by
  rw[aO (λz=>by subst z;rw[e] at h;cases h)];exact h
 have keepO:∀b x,H b=aa (.own x)->upd H a u b=aa (.own x):=λb x h=>by
  rw[aO (λz=>by subst z;rw[e] at h;cases h)];exact h
 refine⟨I.ok,I.os,I.bare,⟨I.base.keep,I.base.slot,λb o h1 h2 h3=>?_,I.base.there,λb xs h=>?_,λb o' u' h=>?_,λb ps h=>?_⟩,I.loc,I.cell,?_,λx c h=>?_,λp hp=>?_,λb ob h=>?_,I.len⟩
 .have:=I.base.free b o h1 h2 h3;rw[aO (ne b this)];exact this
 .exact keepT b xs (I.base.tups b xs h)
 .have:=I.base.frzs b o' u' h;rw[aO (λz=>by subst z;exact hn _ _ h)];exact this
 .obtain⟨more,h1⟩:=I.base.tbls b ps h;refine⟨more,?_⟩;rw[aO (λz=>by subst z;rw[e] at h1;cases h1)];exact h1
 .rw[aO (ne _ I.free)];exact I.free
 .have:=I.freeC x c h;rw[aO (ne _ this)];exact this
 .obtain⟨h1,h2,h3⟩:=I.pin p hp;exact⟨h1,by rw[aO (ne _ h2)];exact h2,h3⟩
 .by_cases hb:b=a
  .subst hb;rw[aJ] at h;cases h;obtain⟨_,h2⟩:=I.hok b _ e;exact h2.stay (λ_ _ _ q=>q) (λc hc=>keepO c b hc) keepT
  .rw[aO hb] at h;exact(I.hok b _ h).stay (λ_ _ _ q=>q) (λc hc=>keepO c b hc) keepT
end
end
variable [KFrag]
section
variable {own:ah->aw}
noncomputable def wF(own:ah->aw)(i:ah):ah->aw:=λj=>own j&&!(j==i)
theorem lG(h:wF own i j=ag):own j=ag/\j≠i:=by
 unfold wF at h;simpa using h
theorem Own.of(h:Own (wF own i) σ b):Own own σ b:=by
 obtain⟨j,hj,e⟩:=h;exact⟨j,(lG hj).1,e⟩
end
end Mi
namespace Wz
open PySem PySem.Spec
noncomputable abbrev itO(t:al)(i:ah):bn:={cls:=.type "tuple_iterator",data:=.fields #[.ref t,.int i 0]}
noncomputable abbrev tuO(xs:bp am)(n:ah)(dd:ar al)(sl:bp (ar am)):bn:={cls:=.type "tuple",dict:=dd,data:=.seq xs n,slots:=sl}
abbrev zpO(f0 f1:am)(TI TO:al):bn:={cls:=.type "zip",data:=.fields #[f0,f1,.bool ak,.ref TI,.ref TO]}
noncomputable abbrev prO(a b:am):bn:={cls:=.type "tuple",data:=.seq #[a,b]}
theorem YQ(it t:al)(i:ah)(xs:bp am)(n:ah)(dd:ar al)(sl:bp (ar am))(x:am)(hx:xs[i]?=aa x) :
  kl (dz.«tuple_iterator.__next__» ⟨[.ref it],[]⟩) (λ_ R s=>s.heap.get? it=aa (itO t i)/\s.heap.get? t=aa (tuO xs n dd sl)/\R (.ok (.ret x)) {s with heap:=s.heap.update it (ng (·.setIfInBounds 1 (cz (i+1))))}):=.of_wp λprog w A R s hs=>by
 obtain⟨hp,g,d,tk,os⟩:=s;obtain⟨e1,e2,hq⟩:=hs
 wp_walk
 rw[gV,hx]
 wp_walk
 exact⟨_,rfl,hq⟩
theorem YS(it t:al)(i:ah)(xs:bp am)(n:ah)(dd:ar al)(sl:bp (ar am))(hx:xs[i]?=aj) :
  kl (dz.«tuple_iterator.__next__» ⟨[.ref it],[]⟩) (λA R s=>A.handled=aj/\s.heap.get? it=aa (itO t i)/\s.heap.get? t=aa (tuO xs n dd sl)/\∀h' e,xk it s.heap h'->(∃o,h'.get? e=aa o/\o.cls=.type "StopIteration")->R (.error (.ref e)) {s with heap:=h'}):=.of_wp λprog w A R s hs=>by
 obtain⟨hp,g,d,tk,os⟩:=s;obtain⟨hh,e1,e2,hq⟩:=hs
 wp_walk
 rw[gV,hx]
 wp_walk
 have hh1:A.in1.handled=aj:=hh;unfold raiseNew
 wp_walk
 exact hq _ _ (((nh ..).extBut.push _).push _) ⟨_,dh _ rfl,rfl⟩
section
variable {prog:bS} {w:bu} {A:b6} {E:am->au->Prop} {s:au} {it t:al} {i:ah} {xs:bp am} {x:am} {n:ah} {dd:ar al} {sl:bp (ar am)}
theorem drawn{Q:am->au->Prop}(e1:s.heap.get? it=aa (itO t i))(e2:s.heap.get? t=aa (tuO xs n dd sl))(hx:xs[i]?=aa x)
 (q:∀h',h'.get? it=aa (itO t (i+1))->eR it s.heap h'->Q x {s with heap:=h'}):ϑ (ay prog w) A (km (.ref it)) Q E s:=by
 have ty:s.TypeIs (.ref it) "tuple_iterator":=⟨_,e1,rfl⟩
 refine aq (jz ty xl ?_);refine jS xl ty Cb (Cc _) (YQ it t i xs n dd sl x hx) ⟨e1,e2,bc (q _ ?_ (nh ..))⟩;exact jj _ e1 rfl
theorem over{Q:am->au->Prop}(hh:A.handled=aj)(e1:s.heap.get? it=aa (itO t i))(e2:s.heap.get? t=aa (tuO xs n dd sl))(hx:xs[i]?=aj)
 (q:∀h' e,xk it s.heap h'->(∃o,h'.get? e=aa o/\o.cls=.type "StopIteration")->E (.ref e) {s with heap:=h'}):ϑ (ay prog w) A (km (.ref it)) Q E s:=by
 have ty:s.TypeIs (.ref it) "tuple_iterator":=⟨_,e1,rfl⟩
 refine aq (jz ty xl ?_);exact jS xl ty Cb (Cc _) (YS it t i xs n dd sl hx) ⟨hh,e1,e2,λh' e k o=>q h' e k o⟩
end
structure Apart(z TI TO i1 i2 l1 l2:al):Prop where
 zTI:z≠TI
 zTO:z≠TO
 z1:z≠i1
 z2:z≠i2
 zl:z≠l1
 zm:z≠l2
 TT:TI≠TO
 T1:TI≠i1
 T2:TI≠i2
 O1:TO≠i1
 O2:TO≠i2
 Ol:TO≠l1
 Om:TO≠l2
 ij:i1≠i2
 il:i1≠l1
 im:i1≠l2
 jl:i2≠l1
 jm:i2≠l2
def aEu(z TO i1 i2:al)(h h':aI):Prop:=∀c o,c≠z->c≠TO->c≠i1->c≠i2->h.get? c=aa o->h'.get? c=aa o
noncomputable abbrev nxt(z:al):Sem zC:=dz.«zip.__next__» ⟨[.ref z],[]⟩
abbrev Got(Q:am->au->Prop):zC->au->Prop:=λr t=>∃v,r=.done (.ret v)/\Q v t
section
theorem there(e:s.heap.get? c=aa o)(q:Q (aa o) s):ϑ (ay prog w) A (loadIfAlive c) Q E s:=λΓ p _=>by
 show Sem.wp _ Γ (.loadIfAlive c pure) _ _ p s;rw[Sem.wp_loadIfAlive,e];exact q
end
theorem five(h:aI)(a b c d e:bn)(fa:a.isFreed=ak)(fb:b.isFreed=ak)(fc:c.isFreed=ak)(fd:d.isFreed=ak)(fe:e.isFreed=ak) :
  (((((h.push a).push b).push c).push d).push e).get? h.objs.size=aa a/\(((((h.push a).push b).push c).push d).push e).get? (h.objs.size+1)=aa b/\(((((h.push a).push b).push c).push d).push e).get? (h.objs.size+2)=aa c/\(((((h.push a).push b).push c).push d).push e).get? (h.objs.size+3)=aa d/\(((((h.push a).push b).push c).push d).push e).get? (h.objs.size+4)=aa e/\
  (∀x o,h.get? x=aa o->(((((h.push a).push b).push c).push d).push e).get? x=aa o)/\(((((h.push a).push b).push c).push d).push e).objs.size=h.objs.size+5:=by
 have z1:(h.push a).objs.size=h.objs.size+1:=eJ ..;have z2:((h.push a).push b).objs.size=h.objs.size+2:=(eJ ..).trans (by rw[z1]);have z3:(((h.push a).push b).push c).objs.size=h.objs.size+3:=(eJ ..).trans (by rw[z2]);have z4:((((h.push a).push b).push c).push d).objs.size=h.objs.size+4:=(eJ ..).trans (by rw[z3]);have up:∀{h:aI}{x:al}{o q:bn},h.get? x=aa o->(h.push q).get? x=aa o:=λe=>bX _ e
 have g2:=dh (h.push a) (o:=b) fb;have g3:=dh ((h.push a).push b) (o:=c) fc;have g4:=dh (((h.push a).push b).push c) (o:=d) fd;have g5:=dh ((((h.push a).push b).push c).push d) (o:=e) fe;rw[z1] at g2;rw[z2] at g3;rw[z3] at g4;rw[z4] at g5;exact⟨up (up (up (up (dh h fa)))),up (up (up g2)),up (up g3),up g4,g5,λx o q=>up (up (up (up (up q)))),(eJ ..).trans (by rw[z4])⟩
theorem aB8:la (.type "zip") "keys"=pure aj:=by rw[i9,ja];kernel_rfl
theorem noGet:la (.type "zip") "__getattr__"=pure aj:=by rw[i9,ja];kernel_rfl
theorem aB9:nj nt "zip.__getattribute__"=aa dz.«object.__getattribute__»:=zD (id':= "object.__getattribute__") 0x8 0x6 0x6 0x8
theorem o8(a:al)(f0 f1:am)(TI TO:al)(u:eg):kl (dz.«object.__getattribute__» ⟨[.ref a,.str "keys" u],[]⟩) (λA R s=>s.heap.get? a=aa (zpO f0 f1 TI TO)/\raisesAttr (.ref a) "keys" A R s):=.of_wp λprog w A R s hs=>by
 obtain⟨hp,g,d,tk,os⟩:=s;obtain⟨e,hh,q⟩:=hs;have ty:(⟨hp,g,d,tk,os⟩:au).TypeIs (.ref a) "zip":=⟨_,e,rfl⟩
 have no:=aB8
 wp_walk
 exact Cd hh q (Ce 0x6 (by size_fits))
section
variable {prog:bS} {w:bu} {A:b6} {E:am->au->Prop} {hp:aI} {g:bp r_} {d:se} {tk:ah} {os:sf} {a TI TO:al} {f0 f1:am}
theorem gone{u:eg}{kw:ae (Str×am)}{Q:am->au->Prop}(e:hp.get? a=aa (zpO f0 f1 TI TO))(hh:A.handled=aj)(hk:kw=[])(q:∀h' tk' x,Cf hp h' x (.ref a) "keys"->E (.ref x) ⟨h',g,d,tk',os⟩) :
  ϑ (ay prog w) A (call (.builtin "zip.__getattribute__") ([.ref a]++[.str "keys" u]) kw) Q E ⟨hp,g,d,tk,os⟩:=by
 subst hk;exact jS zI ⟨_,e,rfl⟩ aB9 (F.args_zip_getattribute_2 _ _) (o8 a f0 f1 TI TO u) ⟨e,hh,λh' tk' x hx=>q h' tk' x hx⟩
theorem lacks{Q:ar am->au->Prop}(e:hp.get? a=aa (zpO f0 f1 TI TO))(hh:A.handled=aj)(q:∀h' tk',(∀b o,hp.get? b=aa o->h'.get? b=aa o)->Q aj ⟨h',g,d,tk',os⟩):ϑ (ay prog w) A (xh (.ref a) "keys") Q E ⟨hp,g,d,tk,os⟩:=by
 have ty:∀tk',(⟨hp,g,d,tk',os⟩:au).TypeIs (.ref a) "zip":=λ_=>⟨_,e,rfl⟩
 have f3:=zI.lookup;have f4:=zI.bind (.ref a);have f5:=noGet;have sub:=Cg
 wp_walk using gone e hh
 case hk=>rfl
 intro h' tk' x hx;obtain⟨t,u,ex⟩:=hx.there;show ϑ _ _ (Ci _ _ _ _ _ _ _) _ _ _
 wp_walk
 exact q _ _ hx.keeps
end
section
variable {d:al}
theorem apart{h:aI}{c d:al}{o od:bn}{T:fR}(e:h.get? c=aa o)(hc:o.cls=.type T)(ed:h.get? d=aa od)(hd:od.cls=.type "dict")(ne:(gm T==gm "dict")=ak):c≠d:=λq=>by
 subst q;rw[e] at ed;cases ed;rw[hc] at hd;rw[hd] at ne;simp at ne
end
theorem lH:nj nt "dict.update.loop"=aa dz.«dict.update.loop»:=zS 0x8
end Wz
namespace Mi
open PySem L2 PySem.SeqAt PySem.Spec PyProof.Rows
section
variable [KFrag]
theorem boot_zip:dS "zip"=aa (.type "zip"):=0x6
theorem HQ:dS "dict"=aa (.type "dict"):=0x6
theorem aBa{pr:bS}:∀{vs:ae V}{us:ae am}{ds:ae D},bK P H vs ds->Vals vs us->ds.all gZ=ag->∃ks:ae Key,ks.map kD=ds/\ks.length=us.length/\∀(i:ah)(u:am),us[i]?=aa u->∃k,ks[i]?=aa k/\(cN pr w).is k u=ag
 |_,_,_,.nil,.nil,_=>⟨[],rfl,rfl,λi u h=>by simp at h⟩
 |v::vs,u::us,d::ds,.cons r t,.cons rv tv,h=>by
  rw[i7,aS] at h;obtain⟨ks,h1,h2,h3⟩:=aBa t tv h.2;obtain⟨k,hk1,hk2⟩:∃k:Key,kD k=d/\(cN pr w).is k u=ag:=by
   cases r with
   |int i=>exact⟨.inl i,rfl,KR rv⟩
   |str x=>exact⟨.inr x,rfl,KR rv⟩
   |_=>cases h.1
  refine⟨k::ks,by rw[bd,hk1,h1],by rw[br,br,h2],λi u' hu=>?_⟩;cases i with
  |zero=>simp at hu;subst hu;exact⟨k,rfl,hk2⟩
  |succ i=>exact h3 i u' (by simpa using hu)
theorem HR(r:Rep P H v d):∀{kvs:ae (Key×V)}{ds:ae (D×D)},gH P H kvs ds->(kvs.map (·.1)).Nodup->gH P H (putK kvs k v) (putD ds (kD k) d)
 |_,_,.nil,_=>.cons r .nil
 |_,_,.cons (k:=k') r' t,hn=>by
  rw[bd,fy] at hn;rw[putD,aAp];by_cases h:k'=k
  .rw[G8 h (by rw[<-h];exact hn.1),ao (bw h),h];exact .cons r t
  .rw[G9 h,ax (by simpa using h)];exact .cons r' (HR r t hn.2)
theorem VN:∀{ks:ae Key}{vs:ae V}{ds:ae D}{kvs:ae (Key×V)}{es:ae (D×D)},bK P H vs ds->gH P H kvs es->(kvs.map (·.1)).Nodup->gH P H (gD kvs (ks.zip vs)) (nC (ks.map kD) ds es)/\((gD kvs (ks.zip vs)).map (·.1)).Nodup
 |[],_,_,_,_,_,r,n=>by
  rw[List.zip_nil_left];exact⟨by cases ‹ae D›<;>exact r,n⟩
 |k::ks,_,_,kvs,es,.nil,r,n=>⟨r,n⟩
 |k::ks,_,_,kvs,es,.cons rv tv,r,n=>VN (ks:=ks) tv (HR rv r n) (jR n)
theorem aNc(r:Vals vs us):∀ks:ae Key,KV (ks.zip vs) (ks.zip us):=by
 induction r with
 |nil=>intro ks;rw[Cj,Cj];exact .nil
 |cons h t ih=>
  intro ks;cases ks with
  |nil=>exact .nil
  |cons k ks=>exact .cons ⟨rfl,h⟩ (ih ks)
theorem aBb{n l m:ah}(hl:l<n)(hm:m<n):Wz.Apart (n+4) (n+2) (n+3) n (n+1) l m:=by
 constructor<;>(intro h;replace h:@Eq ah _ _:=h;lia)
end
noncomputable def CK(i j:ah):FS:=λρ=>match ρ.getD i .uD with
 |.lst xs=>(match xs[xs.length-1]? with|some x=>.ok (.nx ((ρ.set i (.lst xs.dropLast)).set j x))|none=>.bad)
 |_=>.bad
noncomputable def aNd:ae D->Res D
 |[.bl b]=>.ok (.int (if b then 1 else 0))
 |[.int i]=>.ok (.int i)
 |_=>.bad
variable [KFrag]
theorem aBc:lR X (.type "int") (rs aNd ag):=by
 rintro Ψ s σ H xs us Q I vr ⟨ds,d,r,e,k⟩;unfold aNd at e;split at e
 .cases e;obtain⟨vv,uu,rfl,rfl,r,v⟩:=jE r vr;cases r.inv;cases v;exact call_int_bool ⟨.int _,H,I.tok _,⟨_,rfl⟩,k.int⟩
 .cases e;obtain⟨vv,uu,rfl,rfl,r,v⟩:=jE r vr;cases r.inv;obtain⟨t,rfl⟩:=v;exact call_int_int ⟨.int _,H,I,⟨_,rfl⟩,k.int⟩
 .exact bx e
section
theorem R4(ho:own i=ag)(hN:X.N[i]?=aa x)(hv:Vis X.env.scope x)(hnd:X.N.Nodup)(hj:X.N[j]?=aa y)(hy:Loc X.env.scope y)(hoj:own j=ak)(hd:autoParam (nDb x) Λ)(hcd:autoParam (nCd x) Λ)
 (hbase:autoParam (fx (.Name x p1) "pop" X.env (eval (.Name x p1) X.env)=eval (.Name x p1) X.env) Ω)
 (hline:autoParam ((apos.endLine==cpos.line)=ag) Ω)
 (hs:autoParam (dy (.Call (.Attribute (.Name x p1) "pop" apos) [] [] cpos) (aa (.Name y py)) pos.line X.env=pure ak) Ω)(hf:autoParam (zFn X y) Ξ) :
  PS X (.Assign [.Name y py] (.Call (.Attribute (.Name x p1) "pop" apos) [] [] cpos) pos) (tS own (CK i j)):=
 PS.imp (yV hnd hj hy (UJ io wj Aa aA8 (aW hN hv hd hcd) hbase hline) hs hf) λD' σ H z0=>by
 obtain⟨ρ,fl,E,h,q⟩:=z0;unfold CK at h;split at h
 .rename_i xs hx;split at h
  .rename_i dx hdx;cases h;obtain⟨a,o,hσ,r,hin,ha,hm⟩:=E.ownAt ho (by rw[hx];intro z;cases z);rw[hx] at r hin;obtain⟨vs,hl,rr⟩:=zQ r;obtain⟨v,hvx,rv⟩:=rr.get hdx;have hlen:=rr.length;refine⟨_,hσ,.inl ⟨rfl,vs,.of hl⟩,a,vs,v,rfl,rfl,hl,by rw[hlen];exact hvx,?_⟩;have hin':ε xs=ag:=hin;have pall:∀y∈xs,y.pure=ag:=λy hy=>cL.mp hin' y hy
   have pdx:dx.pure=ag:=pall dx (kP hdx);have pe:ε xs.dropLast=ag:=cL.mpr λy hy=>pall y (Ck _ hy)
   have er:bK All H vs.dropLast xs.dropLast:=by
    rw[xm,xm,hlen];exact rr.take _
   obtain⟨E2,k2⟩:=E.mut ho hσ rfl (.lst aJ trivial (er.upd pe hl rfl)) pe;have r1:=(bK.cons rv .nil).upd (o:=.lst vs.dropLast) (by rw[ε,pdx];rfl) hl rfl;cases r1 with
   |cons r1 _=>
    have E3:=E2.set hoj (r1.bT pdx);exact q _ _ (k2.trans λb ob eb nb=>⟨eb,by rw[jP hoj];exact nb⟩) E3
  .exact bx h
 .exact bx h
end
end Mi
namespace Ws
open PySem PySem.Spec PySem.Builtin PySem.SeqAt PyProof.Rows
section
theorem aBd(e:am->aw)(hj:j<items.size)
 (hit:e items[j]=ag)(hno:∀m (hm:m<items.size),m<j->e items[m]=ak)(ht:kC s.heap l items)(he:∀y,y∈items->EqAt A s y x (e y))(h:R (.done (.ret (.int j s.toks))) {s with toks:=s.toks+1}) :
  ϑ (ay prog w) A (dz.«tuple.index» ⟨[.ref l,x],[]⟩) R E s:=by
 show ϑ _ _ (y9 (.ref l) >>= _) _ _ s;refine aq (za ht ?_);show ϑ _ _ (bind (forIn [0:Min.min items.size items.size] _ _) _) _ _ s;rw[D6];refine aq (wpAny_forIn_list _ (λrest b s'=>b.1=aj/\s'=s/\∃k,rest=hI k (items.size-k)/\k<=j) _ ?_ ?_ _ _ ⟨rfl,rfl,0,by simp[D7],ef _⟩)
 .rintro y rest b s' ⟨hb,rfl,k,hk,hkj⟩;have hlt:k<items.size:=oI hkj hj;rw[show items.size-k=(items.size-(k+1))+1 by lia,ko] at hk;injection hk with h1 h2
  subst h1;have hi:items[y]?=aa items[y]:=by simp[hlt]
  show ϑ _ _ (match items[y]? with|some z=>_|x=>_) _ _ s';rw[hi];refine aq (he _ (Array.getElem_mem hlt) prog w _ _ ?_);by_cases hyj:y=j
  .subst hyj;rw[hit];show ϑ _ _ (xn y >>= _) _ _ s';unfold xn;exact aq (aq (xo (bc (bc (bc h)))))
  .rw[hno y hlt 0x1];exact bc ⟨rfl,rfl,y+1,h2,by lia⟩
 .rintro⟨b1,b2⟩ s' ⟨hb,rfl,k,hk,hkj⟩;rw[show items.size-k=(items.size-(k+1))+1 by lia,ko] at hk;cases hk
end
end Ws
namespace Mi
open PySem L2 PySem.SeqAt PySem.Spec PyProof.Rows
def aEv(y:D):ae D->ar ah
 |[]=>aj
 |z::r=>if eqD z y then aa 0 else (aEv y r).map (·+1)
def zY:D->ae D->Res D
 |.tup xs,[y]=>if y.jC bB&&υ bB xs then (match aEv y xs with|some j=>.ok (.int j)|none=>.bad) else .bad
 |_,_=>.bad
section
variable [KFrag]
theorem aBe:∀{xs:ae V}{ds:ae D}{its:ae am}{j:ah},υ bB ds=ag->bK All H xs ds->Vals xs its->aEv a ds=aa j->∃hj:j<its.length,eqD (YJ H its[j]) a=ag/\∀m (hm:m<its.length),m<j->eqD (YJ H its[m]) a=ak
 |_,_,_,_,_,.nil,.nil,h=>by cases h
 |_,_,_,j,hq,.cons r t,.cons v vt,h=>by
  rw[υ,aS] at hq;rw[aEv] at h;split at h
  .rename_i he;cases h;refine⟨Nat.zero_lt_succ _,?_,λm hm z=>aT z (Ab _)⟩;rw[Cm,G7 hq.1 v r];exact he
  .rename_i he;obtain⟨k,h1,rfl⟩:=i0.mp h;obtain⟨hj,h2,h3⟩:=aBe hq.2 t vt h1;refine⟨Nat.succ_lt_succ hj,by rw[Co];exact h2,λm hm z=>?_⟩;cases m with
   |zero=>rw[Cm,G7 hq.1 v r];exact zy.mpr he
   |succ m=>rw[Co];exact h3 m (Cp hm) (Cp z)
section
variable {X:Cx}
theorem aBf(hu:X.A.units+20<dE):MtR X "tuple.index" (rm zY ag):=by
 rintro Ψ s σ H x xs v us Q I rv vr ⟨a,ds,d,ra,rs,h,k⟩;unfold zY at h;split at h
 .rename_i ys y;split at h
  .rename_i hl;rw[aS] at hl;split at h
   .rename_i j hj;cases h;obtain⟨vv,uu,rfl,rfl,r,rk⟩:=jE rs vr;obtain⟨l,zs,rfl,ee,rr⟩:=ra.jG;cases rv;obtain⟨its,vr',pl⟩:=m9 I ee;obtain⟨h1,h2,h3⟩:=aBe hl.2 rr vr' hj;have mm:=λw hw=>RM I hu hl.1 r rk hl.2 rr vr' w hw
    obtain⟨⟨cls,dd,data,sl⟩,ho,hc,n,hd⟩:=id pl;have hfin:EP X Ψ σ Q (.int j s.toks) {s with toks:=s.toks+1}:=⟨.int j,H,I.tok _,⟨_,rfl⟩,k.int⟩
    refine kN (xg Ac.plain F.entry_tuple_index (Ac.check _ _ _ _ _ _ _ _ ⟨_,ho,hc⟩ (F.args_tuple_index_2 _ _) ?_));exact Ws.aBd (λu=>eqD (YJ H u) y) (by simpa using h1) (by simpa using h2) (λm hm hmj=>by simpa using h3 m (by simpa using hm) hmj) pl (λw hw=>mm w (by simpa using hw)) hfin
   .exact bx h
  .exact bx h
 .exact bx h
theorem aBg(h:zY d ds=.ok r)(rp:Rep All H v d):tyV X.K "tuple" v H:=by
 unfold zY at h;split at h
 .obtain⟨a,xs,rfl,e,_⟩:=rp.jG;exact .inr (.inl ⟨rfl,.inr ⟨_,e⟩⟩)
 .exact bx h
end
end
noncomputable def aBh(x:Str):ae D->ar ah
 |[]=>aa 0
 |.str y::r=>(aBh x r).map λn=>(if y==x then n+1 else n)
 |_::_=>aj
def M4:D->ae D->Res D
 |.tup xs,[.str y]=>match aBh y xs with|some n=>.ok (.int n)|none=>.bad
 |_,_=>.bad
noncomputable def aEw(x:Str):am->aw
 |.str y _=>y==x
 |_=>ak
variable [KFrag]
theorem aHa:∀{zs:ae V}{ds:ae D}{its:ae am}{n:ah},aBh x ds=aa n->bK P H zs ds->Vals zs its->its.countP (aEw x)=n/\∀u∈its,Cq u (.str x t) (aEw x u)
 |_,_,_,_,h,.nil,.nil=>by cases h;exact⟨rfl,λu hu=>by cases hu⟩
 |_,d::ds,_,n,h,.cons r rt,.cons v vt=>by
  cases d with
  |str y=>
   obtain⟨m,h1,rfl⟩:=i0.mp h;obtain⟨i1,i2⟩:=aHa h1 rt vt;cases r.inv;obtain⟨tk,rfl⟩:=v;refine⟨?_,λu hu=>?_⟩
   .rw[Cr,i1];show m+(if (y==x)=ag then 1 else 0)=if (y==x)=ag then m+1 else m
    split<;>rfl
   .rcases cg.mp hu with e|e
    .subst e;exact eqGives_str y x tk t
    .exact i2 u e
  |_=>cases h
theorem aBi{E:am->au->Prop}{s:au}{l:al}{items:bp am}{x:am}(e:am->aw){R:zC->au->Prop}(ht:kC s.heap l items)(he:∀y,y∈items->Cq y x (e y))(h:R (.done (.ret (.int (items.toList.countP e:ah) s.toks))) {s with toks:=s.toks+1}) :
  ϑ (ay prog w) A (dz.«tuple.count» ⟨[.ref l,x],[]⟩) R E s:=by
 show ϑ _ _ (y9 (.ref l) >>= _) _ _ s;refine aq (za ht ?_);refine aq (wpAny_forIn_array' _ (λrest (b:ah) s'=>s'=s/\(∀y,y∈rest->y∈items)/\b+rest.countP e=items.toList.countP e) _ ?_ ?_ _ _ ⟨rfl,λy hy=>by simpa using hy,by simp⟩)
 .rintro y rest b s' ⟨rfl,hm,hb⟩;refine aq (he y (hm y 0x2) prog w _ _ _ _ ?_);rw[Cr] at hb;cases hy:e y with
  |true=>
   rw[hy] at hb;exact bc ⟨rfl,λz hz=>hm z (by simp[hz]),by rw[ao rfl] at hb;lia⟩
  |false=>
   rw[hy] at hb;exact bc ⟨rfl,λz hz=>hm z (by simp[hz]),by rw[ax iO] at hb;lia⟩
 .rintro b s' ⟨rfl,_,hb⟩;rw[List.countP_nil,zr] at hb;subst hb;show ϑ _ _ (xn _) _ _ s';unfold xn;exact aq (xo (bc h))
section
variable {X:Cx}
theorem aBj:MtR X "tuple.count" (rm M4 ag):=by
 intro Ψ s σ H x xs v us Q I rv vr ⟨a,ds,d,ra,rs,h,k⟩;unfold M4 at h;split at h
 .rename_i ys y;split at h
  .rename_i n hn;cases h;obtain⟨vv,uu,rfl,rfl,r,rk⟩:=jE rs vr;obtain⟨l,zs,rfl,ee,rr⟩:=ra.jG;cases rv;cases r.inv;obtain⟨tk,rfl⟩:=rk;obtain⟨its,vr',pl⟩:=m9 I ee;obtain⟨c1,c2⟩:=aHa hn rr vr';obtain⟨⟨cls,dd,data,sl⟩,ho,hc,n',hd⟩:=id pl;refine kN (xg Ad.plain F.entry_tuple_count (Ad.check _ _ _ _ _ _ _ _ ⟨_,ho,hc⟩ (F.args_tuple_count_2 _ _) ?_));refine aBi (aEw y) pl (λw hw=>c2 w (by simpa using hw)) ?_;rw[show(its.toArray.toList.countP (aEw y))=n from by simpa using c1];exact⟨.int n,H,I.tok _,⟨_,rfl⟩,k.int⟩
  .exact bx h
 .exact bx h
theorem aBk(h:M4 d ds=.ok r)(rp:Rep All H v d):tyV X.K "tuple" v H:=by
 unfold M4 at h;split at h
 .obtain⟨a,xs,rfl,e,_⟩:=rp.jG;exact .inr (.inl ⟨rfl,.inr ⟨_,e⟩⟩)
 .exact bx h
def Iti(a:al)(o:bn)(u:HO)(kvs:ae (Key×V)):It where
 go:=λi H=>H a=aa (.frz o u)/\∃p,kvs[i]?=aa p
 yld:=λi H x H'=>∃b p,kvs[i]?=aa p/\x=.ref b/\H b=aj/\H'=upd H b (.tup [kV p.1,p.2])
 stop:=λi H=>H a=aa (.frz o u)/\kvs.length<=i
theorem YT{K:bi}{x1}{a it:al}{o:bn}{u:HO}{kvs:ae (Key×V)}{vs:ae (Key×am)}{ep:ah}(hne:a≠it)(hd:∀h:aI,h.get? a=aa o->h.DictAt (cN P w) a vs ep)(rel:KV kvs vs) :
  Turn P w K (.Tuple elts x1 tp) (Iti a o u kvs) [it] it (λi h=>∃ok ov,IsItemIter h it a i vs.length ep ok ov) where
 mem:=by simp
 obj:=λi h ⟨ok,ov,e⟩ b hb=>by
  have eb:b=it:=by simpa using hb
  subst eb;exact⟨_,e,λv z=>by cases z⟩
 keep:=λi h h' ⟨ok,ov,e⟩ k=>⟨ok,ov,k it 0x2 _ e⟩
 item:=by
  intro X hP hw hK hc i Ψ s σ H E I hf ⟨ok,ov,st⟩ hg;subst hP hw hK;obtain⟨ea,⟨k,x⟩,hx⟩:=hg;obtain⟨px,_⟩:=I.hok a _ ea;obtain⟨v,hv,rv⟩:=aH8 rel hx;refine wpAny_pyNext_items_item st (hd _ px) hv λkey h' hk st' ht hsz kp=>?_
  refine⟨_,rfl,wpAny_letOwnedTupleGo_items st' λh'' st'' sb=>?_⟩;have sb':eR it h' h'':=sb;have lt:s.heap.objs.size≠it:=iP (bE st);have kk:∀c o,c∉[it]->s.heap.get? c=aa o->h''.get? c=aa o:=λc o hc e=>by
   have hc':c≠it:=by simpa using hc
   exact(sb'.2 c hc').trans (kp c o hc' e)
  refine⟨.ref s.heap.objs.size,upd H s.heap.objs.size (.tup [kV k,x]),RW (s:=s) I kk hf (bt _) ?_,rfl,⟨_,_,hx,rfl,I.hok.fresh (bt _),rfl⟩,⟨_,_,st''⟩,λc hc=>?_⟩
  .exact⟨by show 2<=bo;rw[dv];decide,[key,v],.cons (aNb hk) (.cons rv .nil),⟨_,(sb'.2 _ lt).trans ht,rfl,0,rfl⟩⟩
  .have hn:=(hf c hc).1;have hc':c=it:=by simpa using hc
   subst hc';rw[aO (Ne.symm lt)];exact hn
 done:=by
  intro X hP hw hK hc i Ψ s σ H E I hf ⟨ok,ov,st⟩ hg;subst hP hw hK;obtain⟨ea,hx⟩:=hg;obtain⟨px,_⟩:=I.hok a _ ea;obtain⟨f0,f1,f2,f3,f4,f5⟩:=hf it 0x2;have hl:kvs.length=vs.length:=jo rel;exact wpAny_pyNext_items_end (I.ok.hd hc) st (hd _ px) (Cs.mpr 0x1) λh' eb=>⟨rfl,I.turned (λb o hb e=>eb b o hb e) f0 f1 f3 f4 f5⟩
 self:=λ_ _ _ _ _ ⟨ok,ov,st⟩ h=>PySem.W.kcp_self st h
theorem aEx:MtR X "dict.items" (λx xs H Q=>∃a kvs,x=.ref a/\xs=[]/\DV H a kvs/\∀vw,H vw=aj->Q (.ref vw) (upd H vw (.ext λh=>h.IsItemsView vw a))):=by
 intro Ψ s σ H x xs v us Q I rx rxs ⟨a,kvs,e1,e2,hu,q⟩;subst e1 e2;cases rx;cases rxs;obtain⟨z,hs,vs,rel,dd⟩:=aB6 I hu;have hfr:H s.heap.objs.size=aj:=I.hok.fresh (bt _);refine call_meetsIn Ct dd.typeIs PySem.F.entry_dict_items (PySem.F.args_dict_items_1 _) (meets_dict_items (cN X.prog X.w) a hs) ⟨⟨vs,dd⟩,?_⟩;refine⟨.ref s.heap.objs.size,_,I.laid (λb o e=>bX _ e) (bt _) ?_,rfl,q _ hfr⟩;have hg:=dh s.heap (o:={cls:=.type "dict_items",data:=.fields #[.ref a]}) rfl;exact⟨⟨_,hg,rfl,rfl⟩,⟨_,hg⟩,λh1 h2 ⟨o,e,r⟩ k=>⟨o,k o e,r⟩⟩
theorem aEy{x1}{x:Str}{i:ah}{np ap cp:ck}(hN:X.N[i]?=aa x)(hv:Vis X.env.scope x)(hd:autoParam (nDb x) Λ)(hcd:autoParam (nCd x) Λ)(hbase:autoParam (fx (.Name x np) "items" X.env (eval (.Name x np) X.env)=eval (.Name x np) X.env) Ω)(hline:autoParam ((ap.endLine==cp.line)=ag) Ω) :
  PI X (.Tuple elts x1 tp) (.Call (.Attribute (.Name x np) "items" ap) [] [] cp) (λσ H R=>∃a kvs u,σ[i]?=aa (aa (.ref a))/\DV H a kvs/\H a=aa u/\∀o H1,bW H H1->R (Iti a o u kvs) (upd H1 a (.frz o u))):=by
 intro Ψ s σ H R I ⟨a,kvs,u,hσ,hu,hua,q⟩;have ty:tyV X.K "dict" (.ref a) H:=by
  rcases hu with h|⟨_,h⟩
  .exact .inr (.inr (.inl ⟨rfl,.inl ⟨_,h⟩⟩))
  .exact .inr (.inr (.inl ⟨rfl,.inr ⟨_,h⟩⟩))
 have hp:=UJ PySem.F.plainAttrs_dict Ct PySem.F.type_dict_items aEx (aW hN hv hd hcd) hbase hline;refine thn (hp Ψ s σ H (λv H1=>∃vw,v=.ref vw/\H1 vw=aa (.ext λh=>h.IsItemsView vw a)/\bW H H1) I ⟨.ref a,hσ,ty,a,kvs,rfl,rfl,hu,λvw hvw=>⟨vw,rfl,aJ,bW.upd hvw⟩⟩) λy s1 ⟨v,H1,I1,r1,vw,e,evw,sm⟩=>?_
 subst e;cases r1;have hu1:DV H1 a kvs:=by
  rcases hu with h|⟨h0,h⟩
  .exact .inl (sm _ _ h)
  .exact .inr ⟨h0,sm _ _ h⟩
 obtain⟨z,hs,vs,rel,dd⟩:=aB6 I1 hu1;obtain⟨ep,da⟩:=dd.dictAt;obtain⟨o,es,ho,r⟩:=id da;have hda:∀h:aI,h.get? a=aa o->h.DictAt (cN X.prog X.w) a vs ep:=λh e=>⟨o,es,e,r⟩
 obtain⟨pv,_⟩:=I1.hok vw _ evw;obtain⟨u',hu2,fu⟩:=aNa I1 hu1 ho;rw[sm _ _ hua] at hu2;cases hu2;have If:Inv X Ψ σ (upd H1 a (.frz o u)) s1:=I1.write (aN9 hu1) (.inl rfl) (λ_ _ _ q=>q) ⟨o,ho⟩ ⟨ho,fu _ _ ho⟩;refine wpAny_pyIter_items pv da ?_;have I2:Inv X Ψ σ (upd H1 a (.frz o u)) {s1 with heap:=s1.heap.push {cls:=.type "dict_itemiterator",data:=.fields #[.none,.bool ak,.ref a,.int 0 0,.int vs.length 0,.int ep 0,.none,.none]}}:=If.kept λb o e=>bX _ e
 refine⟨s1.heap.objs.size,[s1.heap.objs.size],λi h=>∃ok ov,IsItemIter h s1.heap.objs.size a i vs.length ep ok ov,Iti a o u kvs,_,rfl,I2,YT (cy (bE ho)) hda rel,⟨_,_,dh _ rfl⟩,λb hb=>?_,q o H1 sm⟩;have e:b=s1.heap.objs.size:=by simpa using hb
 subst e;exact If.aLj (bt _) (If.hok.fresh (bt _))
end
end Mi
namespace Wy
open PySem PySem.Spec
open Wz
noncomputable abbrev liO(t:al)(i:ah):bn:={cls:=.type "list_iterator",data:=.fields #[.ref t,.int i 0]}
noncomputable abbrev lsO(xs:bp am)(n:ah)(dd:ar al)(sl:bp (ar am)):bn:={cls:=.type "list",dict:=dd,data:=.seq xs n,slots:=sl}
theorem R5(it t:al)(i:ah)(xs:bp am)(n:ah)(dd:ar al)(sl:bp (ar am))(x:am)(hx:xs[i]?=aa x) :
  kl (dz.«list_iterator.__next__» ⟨[.ref it],[]⟩) (λ_ R s=>s.heap.get? it=aa (liO t i)/\s.heap.get? t=aa (lsO xs n dd sl)/\R (.ok (.ret x)) {s with heap:=s.heap.update it (ng (·.setIfInBounds 1 (cz (i+1))))}):=.of_wp λprog w A R s hs=>by
 obtain⟨hp,g,d,tk,os⟩:=s;obtain⟨e1,e2,hq⟩:=hs
 wp_walk
 rw[gV,hx]
 wp_walk
 exact⟨_,rfl,hq⟩
section
variable {prog:bS} {w:bu} {A:b6} {E:am->au->Prop} {s:au} {it t:al} {i:ah} {xs:bp am} {x:am} {n:ah} {dd:ar al} {sl:bp (ar am)}
theorem aHb(e1:s.heap.get? it=aa (liO t i))(e2:s.heap.get? t=aa (lsO xs n dd sl))(hx:xs[i]?=aa x)
 (q:∀h',h'.get? it=aa (liO t (i+1))->eR it s.heap h'->Q x {s with heap:=h'}):ϑ (ay prog w) A (km (.ref it)) Q E s:=by
 have ty:s.TypeIs (.ref it) "list_iterator":=⟨_,e1,rfl⟩
 refine aq (jz ty Cu ?_);refine jS Cu ty entry_listiter_next (args_listiter_next _) (R5 it t i xs n dd sl x hx) ⟨e1,e2,bc (q _ ?_ (nh ..))⟩;exact jj _ e1 rfl
end
structure W(z TI TO i1 i2 l1 l2:al)(o1 o2:bn)(f0 f1 a b:am)(k1 k2:ah)(h:aI):Prop where
 z_:h.get? z=aa (zpO f0 f1 TI TO)
 ti:h.get? TI=aa (prO (.ref i1) (.ref i2))
 to:h.get? TO=aa (prO a b)
 j1:h.get? i1=aa (itO l1 k1)
 j2:h.get? i2=aa (liO l2 k2)
 t1:h.get? l1=aa o1
 t2:h.get? l2=aa o2
section
variable {z TI TO i1 i2 l1 l2:al} {o1 o2:bn} {f0 f1 g0 g1 a b c d:am} {k1 k2:ah} {h h':aI}
theorem W.onZ(x:W z TI TO i1 i2 l1 l2 o1 o2 f0 f1 a b k1 k2 h)(ap:Apart z TI TO i1 i2 l1 l2)(e:h'.get? z=aa (zpO g0 g1 TI TO))(k:eR z h h'):W z TI TO i1 i2 l1 l2 o1 o2 g0 g1 a b k1 k2 h':=
 ⟨e,(k.2 _ ap.zTI.symm).trans x.ti,(k.2 _ ap.zTO.symm).trans x.to,(k.2 _ ap.z1.symm).trans x.j1,(k.2 _ ap.z2.symm).trans x.j2,(k.2 _ ap.zl.symm).trans x.t1,(k.2 _ ap.zm.symm).trans x.t2⟩
theorem W.onT(x:W z TI TO i1 i2 l1 l2 o1 o2 f0 f1 a b k1 k2 h)(ap:Apart z TI TO i1 i2 l1 l2)(e:h'.get? TO=aa (prO c d))(k:eR TO h h'):W z TI TO i1 i2 l1 l2 o1 o2 f0 f1 c d k1 k2 h':=
 ⟨(k.2 _ ap.zTO).trans x.z_,(k.2 _ ap.TT).trans x.ti,e,(k.2 _ ap.O1.symm).trans x.j1,(k.2 _ ap.O2.symm).trans x.j2,(k.2 _ ap.Ol.symm).trans x.t1,(k.2 _ ap.Om.symm).trans x.t2⟩
theorem W.on1(x:W z TI TO i1 i2 l1 l2 o1 o2 f0 f1 a b k1 k2 h)(ap:Apart z TI TO i1 i2 l1 l2)(e:h'.get? i1=aa (itO l1 k))(s:eR i1 h h'):W z TI TO i1 i2 l1 l2 o1 o2 f0 f1 a b k k2 h':=
 ⟨(s.2 _ ap.z1).trans x.z_,(s.2 _ ap.T1).trans x.ti,(s.2 _ ap.O1).trans x.to,e,(s.2 _ ap.ij.symm).trans x.j2,(s.2 _ ap.il.symm).trans x.t1,(s.2 _ ap.im.symm).trans x.t2⟩
theorem W.on2(x:W z TI TO i1 i2 l1 l2 o1 o2 f0 f1 a b k1 k2 h)(ap:Apart z TI TO i1 i2 l1 l2)(e:h'.get? i2=aa (liO l2 k))(s:eR i2 h h'):W z TI TO i1 i2 l1 l2 o1 o2 f0 f1 a b k1 k h':=
 ⟨(s.2 _ ap.z2).trans x.z_,(s.2 _ ap.T2).trans x.ti,(s.2 _ ap.O2).trans x.to,(s.2 _ ap.ij).trans x.j1,e,(s.2 _ ap.jl.symm).trans x.t1,(s.2 _ ap.jm.symm).trans x.t2⟩
theorem W.up(x:W z TI TO i1 i2 l1 l2 o1 o2 f0 f1 a b k1 k2 h)(k:∀c o,c=z\/c=TI\/c=TO\/c=i1\/c=i2\/c=l1\/c=l2->h.get? c=aa o->h'.get? c=aa o):W z TI TO i1 i2 l1 l2 o1 o2 f0 f1 a b k1 k2 h':=
 ⟨k _ _ 0x2 x.z_,k _ _ 0x2 x.ti,k _ _ 0x2 x.to,k _ _ 0x2 x.j1,k _ _ 0x2 x.j2,k _ _ 0x2 x.t1,k _ _ 0x2 x.t2⟩
end
section
variable {s:au} {z TI TO i1 i2 l1 l2:al} {f0 f1 a b:am}
theorem W.ty(hw:W z TI TO i1 i2 l1 l2 o1 o2 f0 f1 a b k1 k2 s.heap):s.TypeIs (.ref z) "zip":=⟨_,hw.z_,rfl⟩
end
section
variable {prog:bS} {w:bu} {A:b6} {E:am->au->Prop} {s:au} {z TI TO i1 i2 l1 l2:al} {n1 n2:ah} {d1 d2:ar al} {s1 s2:bp (ar am)} {f0 f1 a b x y:am} {k:ah} {xs ys:bp am}
theorem keptAt(j:ah)(v c d:am)(hw:W z TI TO i1 i2 l1 l2 o1 o2 f0 f1 a b k1 k2 s.heap)(ap:Apart z TI TO i1 i2 l1 l2)(hj:(#[a,b]:bp am).setIfInBounds j v=#[c,d])
 (q:∀h',W z TI TO i1 i2 l1 l2 o1 o2 f0 f1 c d k1 k2 h'->eR TO s.heap h'->Q () {s with heap:=h'}):ϑ (ay prog w) A (xp TO (·.setIfInBounds j v)) Q E s:=
 wpAny_updateSeq_pair hw.to λh' e sb=>q h' (hw.onT ap (by rw[e,hj]) sb) sb
theorem first(ap:Apart z TI TO i1 i2 l1 l2)(hw:W z TI TO i1 i2 l1 l2 (tuO xs n1 d1 s1) (lsO ys n2 d2 s2) .none (.bool ak) a b k k s.heap)(hx:xs[k]?=aa x)(hy:ys[k]?=aa y)
 (q:∀(h':aI) (p:al),W z TI TO i1 i2 l1 l2 (tuO xs n1 d1 s1) (lsO ys n2 d2 s2) (cz p) (.bool ak) x y (k+1) (k+1) h'->h'.get? p=aa (prO x y)->p=s.heap.objs.size->aEu z TO i1 i2 s.heap h'->Q (.ref p) {s with heap:=h'}) :
  ϑ (ay prog w) A (nxt z) (Got Q) E s:=by
 refine aq (m:=xq (.ref z) 2) (dn hw.z_ rfl rfl (aq (dn hw.z_ rfl rfl (aq (ir hw.ti rfl ?_)))));refine aq (aq (dn hw.z_ rfl (x:=.none) rfl (bc ?_)));rw[ao rfl];refine aq (kq (aq (dn hw.z_ rfl (x:=.ref TO) rfl (aq (nu hw.z_ 0x2 λh1 e1 k1=>?_)))));have w1:W z TI TO i1 i2 l1 l2 (tuO xs n1 d1 s1) (lsO ys n2 d2 s2) .ellipsis (.bool ak) a b k k h1:=hw.onZ ap e1 k1;simp only[Cw,Cy,oB,ke];refine aq (aq (aq (Ae (aq (m:=km (.ref i1)) (drawn w1.j1 w1.t1 hx λh2 e2 k2=>bc ?_)))));have w2:=w1.on1 ap e2 k2;refine aq (ir w2.to rfl (aq (keptAt 0 x x b w2 ap rfl λh3 w3 k3=>aq (Af (bc ?_)))));refine aq (aq (Ae (aq (m:=km (.ref i2)) (aHb w3.j2 w3.t2 hy λh4 e4 k4=>bc ?_))));have w4:=w3.on2 ap e4 k4;refine aq (ir w4.to rfl (aq (keptAt 1 y x y w4 ap rfl λh5 w5 k5=>aq (Af (bc (bc ?_))))));have sd:aEu z TO i1 i2 s.heap h5:=λc o c1 c2 c3 c4 e=>(k5.2 c c2).trans ((k4.2 c c4).trans ((k3.2 c c2).trans ((k2.2 c c3).trans ((k1.2 c c1).trans e))))
 have sz:h5.objs.size=s.heap.objs.size:=by rw[k5.1,k4.1,k3.1,k2.1,k1.1]
 refine aq (ir w5.to rfl (aq (Cz ?_)));have w6:W z TI TO i1 i2 l1 l2 (tuO xs n1 d1 s1) (lsO ys n2 d2 s2) .ellipsis (.bool ak) x y (k+1) (k+1) (h5.push (prO x y)):=w5.up λc o _ e=>bX _ e
 refine aq (m:=D8 (.ref z) (.ref h5.objs.size)) (aq (nu w6.z_ 0x2 λh7 e7 k7=>?_));have w7:W z TI TO i1 i2 l1 l2 (tuO xs n1 d1 s1) (lsO ys n2 d2 s2) (cz h5.objs.size) (.bool ak) x y (k+1) (k+1) h7:=w6.onZ ap e7 k7;refine nu w7.z_ 0x2 λh8 e8 k8=>bc ⟨_,rfl,?_⟩
 have w8:W z TI TO i1 i2 l1 l2 (tuO xs n1 d1 s1) (lsO ys n2 d2 s2) (cz h5.objs.size) (.bool ak) x y (k+1) (k+1) h8:=w7.onZ ap e8 k8;have nz:h5.objs.size≠z:=iP (bE w5.z_);exact q h8 _ w8 ((k8.2 _ nz).trans ((k7.2 _ nz).trans (dh _ rfl))) sz λc o c1 c2 c3 c4 e=>(k8.2 c c1).trans ((k7.2 c c1).trans (bX _ (sd c o c1 c2 c3 c4 e)))
theorem aEz(hh:A.handled=aj)(ap:Apart z TI TO i1 i2 l1 l2)(hw:W z TI TO i1 i2 l1 l2 (tuO xs n1 d1 s1) (lsO ys n2 d2 s2) .none (.bool ak) a b k k s.heap)(hx:xs[k]?=aj)
 (q:∀h' e,aEu z TO i1 i2 s.heap h'->(∃o,h'.get? e=aa o/\o.cls=.type "StopIteration")->E (.ref e) {s with heap:=h'}) :
  ϑ (ay prog w) A (nxt z) Q E s:=by
 refine aq (m:=xq (.ref z) 2) (dn hw.z_ rfl rfl (aq (dn hw.z_ rfl rfl (aq (ir hw.ti rfl ?_)))));refine aq (m:=Ag (.ref z)) (aq (dn hw.z_ rfl (x:=.none) rfl (bc ?_)));rw[ao rfl];refine aq (kq (aq (dn hw.z_ rfl (x:=.ref TO) rfl (aq (nu hw.z_ 0x2 λh1 e1 k1=>?_)))));have w1:W z TI TO i1 i2 l1 l2 (tuO xs n1 d1 s1) (lsO ys n2 d2 s2) .ellipsis (.bool ak) a b k k h1:=hw.onZ ap e1 k1;simp only[Cw,Cy,oB,ke];refine aq (aq (aq (Ae (aq (m:=km (.ref i1)) (over hh w1.j1 w1.t1 hx λh2 e k2 he=>?_)))));obtain⟨oe,he,hc⟩:=he;have ez:h2.get? z=aa (zpO .ellipsis (.bool ak) TI TO):=k2 _ _ ap.z1 w1.z_;have hez:e≠z:=λv=>by
  rw[v,ez] at he;cases he;exact aT (show gm "zip"=gm "StopIteration" from hc) 0x4
 exact nu ez 0x2 λh3 _ k3=>q h3 e (λc o c1 _ c3 _ v=>(k3.2 c c1).trans (k2 c o c3 ((k1.2 c c1).trans v))) ⟨oe,(k3.2 e hez).trans he,hc⟩
theorem taken{T:al}(ap:Apart z TI TO i1 i2 l1 l2)(hw:W z TI TO i1 i2 l1 l2 o1 o2 (cz T) (.bool bb) a b k1 k2 s.heap)(hT:s.heap.get? T=aa oT)
 (q:∀h',W z TI TO i1 i2 l1 l2 o1 o2 (cz T) (.bool ag) a b k1 k2 h'->eR z s.heap h'->Q ak {s with heap:=h'}):ϑ (ay prog w) A (Ag (.ref z)) Q E s:=by
 refine aq (dn hw.z_ rfl rfl (aq (there hT ?_)));refine aq (dn hw.z_ rfl rfl ?_);cases bb
 .exact aq (nu hw.z_ 0x2 λh1 e1 k1=>bc (q h1 (hw.onZ ap e1 k1) k1))
 .exact bc (q _ hw (CA _ _))
theorem more{T:al}{bb:aw}{oT:bn}{Q:am->au->Prop}(ap:Apart z TI TO i1 i2 l1 l2)(hw:W z TI TO i1 i2 l1 l2 (tuO xs n1 d1 s1) (lsO ys n2 d2 s2) (cz T) (.bool bb) a b k k s.heap)(hT:s.heap.get? T=aa oT)(hx:xs[k]?=aa x)(hy:ys[k]?=aa y)
 (q:∀h' p,W z TI TO i1 i2 l1 l2 (tuO xs n1 d1 s1) (lsO ys n2 d2 s2) (cz T) (.bool ag) a b (k+1) (k+1) h'->h'.get? p=aa (prO x y)->aEu z TO i1 i2 s.heap h'->Q (.ref p) {s with heap:=h'}) :
  ϑ (ay prog w) A (nxt z) (Got Q) E s:=by
 refine aq (m:=xq (.ref z) 2) (dn hw.z_ rfl rfl (aq (dn hw.z_ rfl rfl (aq (ir hw.ti rfl ?_)))));refine aq (m:=Ag (.ref z)) (taken ap hw hT λh1 w1 k1=>?_);rw[ax iO];dsimp only;rw[<-CB];simp only[oB,ke];refine aq (aq (aq (eL (aq (m:=km (.ref i1)) (drawn w1.j1 w1.t1 hx λh2 e2 k2=>bc (bc ?_))))));have w2:=w1.on1 ap e2 k2;refine aq (aq (eL (aq (m:=km (.ref i2)) (aHb w2.j2 w2.t2 hy λh3 e3 k3=>bc (bc (bc ?_))))));have w3:=w2.on2 ap e3 k3;refine aq (Cz (bc ⟨_,rfl,?_⟩) (hsz:=by show(2:ah)<=bo;decide));exact q _ _ (w3.up λc o _ e=>bX _ e) (dh _ rfl) λc o c1 c2 c3 c4 e=>bX _ ((k3.2 c c4).trans ((k2.2 c c3).trans ((k1.2 c c1).trans e)))
theorem aJh{T:al}{bb:aw}{oT:bn}{Q:Fin->au->Prop}(hh:A.handled=aj)(ap:Apart z TI TO i1 i2 l1 l2)(hw:W z TI TO i1 i2 l1 l2 (tuO xs n1 d1 s1) (lsO ys n2 d2 s2) (cz T) (.bool bb) a b k k s.heap)(hT:s.heap.get? T=aa oT)(hx:xs[k]?=aj)
 (q:∀h' e,aEu z TO i1 i2 s.heap h'->(∃o,h'.get? e=aa o/\o.cls=.type "StopIteration")->E (.ref e) {s with heap:=h'}) :
  ϑ (ay prog w) A (nxt z) Q E s:=by
 refine aq (m:=xq (.ref z) 2) (dn hw.z_ rfl rfl (aq (dn hw.z_ rfl rfl (aq (ir hw.ti rfl ?_)))));refine aq (taken ap hw hT λh1 w1 k1=>?_);rw[ax iO];dsimp only;rw[<-CB];simp only[oB,ke];exact aq (aq (aq (eL (aq (over hh w1.j1 w1.t1 hx λh2 e k2 he=>q h2 e (λc o c1 _ c3 _ v=>k2 c o c3 ((k1.2 c c1).trans v)) he)))))
end
theorem aBl(t u:al)(xs ys:bp am) :
  kl (dz.«zip.__new__» ⟨[.type "zip",.ref t,.ref u],[]⟩) (λ_ R s=>s.heap.IsTuple t xs/\s.heap.IsList u ys/\∀h' n,n=s.heap.objs.size->h'.get? n=aa (itO t 0)->h'.get? (n+1)=aa (liO u 0)->h'.get? (n+2)=aa (prO (.ref n) (.ref (n+1)))->h'.get? (n+3)=aa (prO .none .none)->h'.get? (n+4)=aa (zpO .none (.bool ak) (n+2) (n+3))->
   (∀x o,s.heap.get? x=aa o->h'.get? x=aa o)->h'.objs.size=n+5->R (.ok (.ret (.ref (n+4)))) {s with heap:=h'}):=
 .of_wp λprog w A R s hs=>by
  obtain⟨hp,g,d,tk,os⟩:=s;obtain⟨ht,hu,q⟩:=hs;have sub:=sub_zip;have p1:Heap.IsTuple (CC ⟨hp,g,d,tk,os⟩) t xs:=ht;have p2:Heap.IsList (CC ⟨hp.push {cls:=.type "tuple_iterator",data:=.fields #[.ref t,.int 0 0]},g,d,tk,os⟩) u ys:=D9 hu _;have f:=five hp (itO t 0) (liO u 0) (prO (.ref hp.objs.size) (.ref (hp.objs.size+1))) (prO .none .none) (zpO .none (.bool ak) (hp.objs.size+2) (hp.objs.size+3)) rfl rfl rfl rfl rfl
  wp_walk using BS p1,mM p2
  refine⟨_,rfl,?_⟩;have fin:=q _ hp.objs.size rfl f.1 f.2.1 f.2.2.1 f.2.2.2.1 f.2.2.2.2.1 f.2.2.2.2.2.1 f.2.2.2.2.2.2;have gen:∀m1 m2 m3 m4:ah,m1=hp.objs.size+1->m2=hp.objs.size+2->m3=hp.objs.size+3->m4=hp.objs.size+4->R (.ok (.ret (.ref m4))) ⟨((((hp.push (itO t 0)).push (liO u 0)).push (prO (.ref hp.objs.size) (.ref m1))).push (prO .none .none)).push (zpO .none (.bool ak) m2 m3),g,d,tk,os⟩:=by
   intro m1 m2 m3 m4 q1 q2 q3 q4;subst q1 q2 q3 q4;exact fin
  exact gen _ _ _ _ (eJ ..) ((eJ ..).trans (cf (·+1) (eJ ..))) ((eJ ..).trans (cf (·+1) ((eJ ..).trans (cf (·+1) (eJ ..))))) ((eJ ..).trans (cf (·+1) ((eJ ..).trans (cf (·+1) ((eJ ..).trans (cf (·+1) (eJ ..)))))))
section
variable {prog:bS} {w:bu} {A:b6} {E:am->au->Prop} {s:au}
theorem aNe(ht:s.heap.IsTuple t xs)(hu:s.heap.IsList u ys)
 (q:∀h' n,n=s.heap.objs.size->h'.get? n=aa (itO t 0)->h'.get? (n+1)=aa (liO u 0)->h'.get? (n+2)=aa (prO (.ref n) (.ref (n+1)))->h'.get? (n+3)=aa (prO .none .none)->h'.get? (n+4)=aa (zpO .none (.bool ak) (n+2) (n+3))->
   (∀x o,s.heap.get? x=aa o->h'.get? x=aa o)->h'.objs.size=n+5->Q (.ref (n+4)) {s with heap:=h'}) :
  ϑ (ay prog w) A (call (.type "zip") [.ref t,.ref u]) Q E s:=
 CD F.called_zip 0x4 (F.typeCall_zip_2 _ _) (F.newCall_zip_2 _ _) (λobj=>F.args_object_init_3 obj _ _) F.entry_zip_new (aBl t u xs ys)
  ⟨ht,hu,λh' n e a1 a2 a3 a4 a5 k z=>⟨⟨_,a5,rfl⟩,q h' n e a1 a2 a3 a4 a5 k z⟩⟩
end
def ZS(z TI TO i1 i2 l1 l2:al)(o1 o2:bn)(k:ah)(h:aI):Prop:=∃f0 f1 a b,W z TI TO i1 i2 l1 l2 o1 o2 f0 f1 a b k k h/\
 ((f0=.none/\f1=.bool ak)\/∃(T:al)(bb:aw)(u v:am),f0=cz T/\f1=.bool bb/\h.get? T=aa (prO u v)/\T≠z/\T≠TO/\T≠i1/\T≠i2)
section
variable {prog:bS} {w:bu} {A:b6} {E:am->au->Prop} {s:au} {z TI TO i1 i2 l1 l2 d:al} {n1 n2:ah} {d1 d2:ar al} {s1 s2:bp (ar am)} {x y:am} {k:ah} {xs ys:bp am}
theorem ZS.keep(Z:ZS z TI TO i1 i2 l1 l2 (tuO xs n1 d1 s1) (lsO ys n2 d2 s2) k h)(ed:h.get? d=aa od)(hd:od.cls=.type "dict")(e:∀c o,c≠d->h.get? c=aa o->h'.get? c=aa o):ZS z TI TO i1 i2 l1 l2 (tuO xs n1 d1 s1) (lsO ys n2 d2 s2) k h':=by
 obtain⟨f0,f1,a,b,hw,hf⟩:=Z;refine⟨f0,f1,a,b,⟨e _ _ (Wz.apart hw.z_ rfl ed hd 0x4) hw.z_,e _ _ (Wz.apart hw.ti rfl ed hd 0x4) hw.ti,e _ _ (Wz.apart hw.to rfl ed hd 0x4) hw.to,e _ _ (Wz.apart hw.j1 rfl ed hd 0x4) hw.j1,e _ _ (Wz.apart hw.j2 rfl ed hd 0x4) hw.j2,e _ _ (Wz.apart hw.t1 rfl ed hd 0x4) hw.t1,e _ _ (Wz.apart hw.t2 rfl ed hd 0x4) hw.t2⟩,?_⟩;rcases hf with hf|⟨T,bb,u,v,h1,h2,h3,h4⟩
 .exact .inl hf
 .exact .inr ⟨T,bb,u,v,h1,h2,e _ _ (Wz.apart h3 rfl ed hd 0x4) h3,h4⟩
theorem aJi(ap:Apart z TI TO i1 i2 l1 l2)(Z:ZS z TI TO i1 i2 l1 l2 (tuO xs n1 d1 s1) (lsO ys n2 d2 s2) k s.heap)(hx:xs[k]?=aa x)(hy:ys[k]?=aa y)
 (q:∀h' p,ZS z TI TO i1 i2 l1 l2 (tuO xs n1 d1 s1) (lsO ys n2 d2 s2) (k+1) h'->h'.get? p=aa (prO x y)->aEu z TO i1 i2 s.heap h'->Q (aa (.ref p)) {s with heap:=h'}):ϑ (ay prog w) A (iS (.ref z)) Q E s:=by
 obtain⟨f0,f1,a,b,hw,hf⟩:=Z;refine aq (kj (jz hw.ty xr (k9 xr hw.ty CH ?_ (CI _))));rcases hf with ⟨rfl,rfl⟩|⟨T,bb,u,v,rfl,rfl,hT,t1,t2,t3,t4⟩
 .refine first ap hw hx hy λh' p w' ep pp sd=>bc (q h' p ⟨_,_,_,_,w',.inr ⟨p,ak,x,y,rfl,rfl,ep,?_⟩⟩ ep sd)
  subst pp;have lt:∀{c o},s.heap.get? c=aa o->s.heap.objs.size≠c:=λe=>iP (bE e)
  exact⟨lt hw.z_,lt hw.to,lt hw.j1,lt hw.j2⟩
 .exact more ap hw hT hx hy λh' p w' ep sd=>bc (q h' p ⟨_,_,_,_,w',.inr ⟨T,ag,u,v,rfl,rfl,sd _ _ t1 t2 t3 t4 hT,t1,t2,t3,t4⟩⟩ ep sd)
theorem aNf(hh:A.handled=aj)(ap:Apart z TI TO i1 i2 l1 l2)(Z:ZS z TI TO i1 i2 l1 l2 (tuO xs n1 d1 s1) (lsO ys n2 d2 s2) k s.heap)(hx:xs[k]?=aj)
 (q:∀h',aEu z TO i1 i2 s.heap h'->Q aj {s with heap:=h'}):ϑ (ay prog w) A (iS (.ref z)) Q E s:=by
 obtain⟨f0,f1,a,b,hw,hf⟩:=Z;refine aq (kj (jz hw.ty xr (k9 xr hw.ty CH ?_ (CI _))));have stop:∀h' e,aEu z TO i1 i2 s.heap h'->(∃o,h'.get? e=aa o/\o.cls=.type "StopIteration")->ϑ (ay prog w) A (do if <- zx (.ref e) (.type "StopIteration") then pure aj else throw (.ref e)) Q E {s with heap:=h'}:=λh' e sd he=>aq (xt he CL (bc (q h' sd)))
 rcases hf with ⟨rfl,rfl⟩|⟨T,bb,u,v,rfl,rfl,hT,_⟩
 .exact aEz hh ap hw hx λh' e sd he=>stop h' e sd he
 .exact aJh hh ap hw hT hx λh' e sd he=>stop h' e sd he
end
section
variable {prog:bS} {w:bu} {K:Type} [dP K] {knd:KeyKind prog w K} {A:b6} {R:Except am Flow->au->Prop} {z TI TO i1 i2 l1 l2 d:al} {n1 n2:ah} {d1 d2:ar al} {s1 s2:bp (ar am)} {xs ys:bp am} {ks:ae K}
theorem HS(hh:A.handled=aj)(ap:Apart z TI TO i1 i2 l1 l2)(hdz:d≠z)(hdT:d≠TO)(hd1:d≠i1)(hd2:d≠i2)(hsz:ys.size=xs.size)(hk:∀(i:ah) (x:am),xs[i]?=aa x->∃k,ks[i]?=aa k/\knd.is k x=ag) :
  ∀(m k:ah)(s:au)(kvs:ae (K×am)),k+m=xs.size->kvs.length+m<=bo->ZS z TI TO i1 i2 l1 l2 (tuO xs n1 d1 s1) (lsO ys n2 d2 s2) k s.heap->s.heap.DictOf knd d kvs->
  (∀h' tk,h'.DictOf knd d (li kvs ((ks.zip ys.toList).drop k))->(∀c o,c≠d->c≠z->c≠TO->c≠i1->c≠i2->s.heap.get? c=aa o->h'.get? c=aa o)->R (.ok (.ret .none)) {s with heap:=h',toks:=tk})->
  codeAny (ay prog w) A (.builtin "dict.update.loop" ⟨[.ref d,.ref z,cz k,.none],[]⟩) R s:=by
 intro m;induction m with
 |zero=>
  intro k s kvs hkm hl Z hd q;refine lz lH ?_;rw[nw (show ny "dict.update.loop"=ag by decide +kernel) _];refine aq (aNf hh ap Z (wy 0x1) λh' kp=>?_);refine aq ?_;unfold Ah;rw[ke];refine aq (bc (bc (bc ?_)));have e:(ks.zip ys.toList).drop k=[]:=ik (by rw[xu];have:ys.toList.length=ys.size:=sP;lia);rw[e] at q;obtain⟨o,es,ep,ho,r⟩:=hd;exact q _ s.toks ⟨o,es,ep,kp d o hdz hdT hd1 hd2 ho,r⟩ λc o _ c1 c2 c3 c4 e=>kp c o c1 c2 c3 c4 e
 |succ m ih=>
  intro k s kvs hkm hl Z hd q;have hlt:k<xs.size:=by lia
  have hlt2:k<ys.size:=by lia
  have hx:xs[k]?=aa xs[k]:=wx hlt;have hy:ys[k]?=aa ys[k]:=wx hlt2;obtain⟨key,hkey,his⟩:=hk k _ hx;refine lz lH ?_;rw[nw (show ny "dict.update.loop"=ag by decide +kernel) _];refine aq (aJi ap Z hx hy λh' p Z' hp kp=>?_);refine aq (eL (aq (Ai ?_)));refine aq (jI ⟨_,hp,rfl⟩ ?_);rw[ao 0x4];refine aq (ir hp rfl (bc ?_));show ϑ _ _ (kK [xs[k],ys[k]] (Aj d xs[k] ys[k])) _ _ _;have hd':h'.DictOf knd d kvs:=let ⟨o,es,ep,ho,r⟩:=hd;⟨o,es,ep,kp d o hdz hdT hd1 hd2 ho,r⟩
  obtain⟨od,es,ep,ho,hc,_⟩:=id hd';refine eL (CM his hd' (λh2 hd2' sb=>?_) 0x1);refine bc ⟨ly _ 0x6,?_⟩;have ek:(cz (k+1):am)=cz ((k+1:ah):ai):=rfl;rw[ek];have hzip:(ks.zip ys.toList).drop k=(key,ys[k])::(ks.zip ys.toList).drop (k+1):=by
   have hlz:(ks.zip ys.toList)[k]?=aa (key,ys[k]):=by
    rw[List.getElem?_zip_eq_some];exact⟨hkey,by rw[zi];exact hy⟩
   obtain⟨h1,h2⟩:=dA.mp hlz;rw[ii h1,h2]
  have ls:(jn kvs key ys[k]).length<=kvs.length+1:=by
   unfold jn;split
   .rw[az];lia
   .rw[bq];exact bt _
  refine ih (k+1) _ (jn kvs key ys[k]) 0x1 0x1 (Z'.keep ho hc.1 λc o hcd e=>(sb.2 c hcd).trans e) hd2' λh3 tk hd3 kp3=>?_
  refine q h3 tk (by rw[hzip];exact hd3) λc o c0 c1 c2 c3 c4 e=>kp3 c o c0 c1 c2 c3 c4 ((sb.2 c c0).trans (kp c o c1 c2 c3 c4 e))
end
section
variable {prog:bS} {w:bu} {K:Type} [dP K] {knd:KeyKind prog w K} {A:b6} {E:am->au->Prop} {hp:aI} {g:bp r_} {dr:se} {tk:ah} {os:sf} {z TI TO i1 i2 l1 l2:al} {n1 n2:ah} {d1 d2:ar al} {s1 s2:bp (ar am)} {xs ys:bp am} {ks:ae K}
theorem aF0(hh:A.handled=aj)(ap:Apart z TI TO i1 i2 l1 l2)(hw:W z TI TO i1 i2 l1 l2 (tuO xs n1 d1 s1) (lsO ys n2 d2 s2) .none (.bool ak) a b 0 0 hp)(hsz:ys.size=xs.size)(hxs:xs.size<=1000)(hk:∀(i:ah) (x:am),xs[i]?=aa x->∃k,ks[i]?=aa k/\knd.is k x=ag)
 (q:∀h' tk',h'.DictOf knd hp.objs.size (li [] (ks.zip ys.toList))->aEu z TO i1 i2 hp h'->Q (.ref hp.objs.size) ⟨h',g,dr,tk',os⟩) :
  ϑ (ay prog w) A (call (.type "dict") [.ref z]) Q E ⟨hp,g,dr,tk,os⟩:=by
 have hnew:(hp.push {cls:=.type "dict",data:=.dict #[]}).DictOf knd hp.objs.size []:=zk hp;have up:∀c o,hp.get? c=aa o->(hp.push {cls:=.type "dict",data:=.dict #[]}).get? c=aa o:=λc o e=>bX _ e
 have lt:∀{c o},hp.get? c=aa o->hp.objs.size≠c:=λe=>iP (bE e)
 refine xv (Q₁:=λv s₁=>v=.ref hp.objs.size/\s₁=⟨hp.push {cls:=.type "dict",data:=.dict #[]},g,dr,tk,os⟩) Ak (Al _) Am (An _ ⟨rfl,rfl⟩) λv s₁ hv=>?_
 obtain⟨rfl,rfl⟩:=hv;have ty:(⟨hp.push {cls:=.type "dict",data:=.dict #[]},g,dr,tk,os⟩:au).TypeIs (.ref hp.objs.size) "dict":=hnew.typeIs;have ez:=up _ _ hw.z_;have tz:(⟨hp.push {cls:=.type "dict",data:=.dict #[]},g,dr,tk,os⟩:au).TypeIs (.ref z) "zip":=⟨_,ez,rfl⟩
 refine⟨ty,Ao _ _,aq (aq (Ap ty (bc ?_)))⟩;refine aq (jI tz ?_);rw[ao 0x4];refine aq (lacks ez hh λh' tk' kp=>?_);rw[ao (show(aj:ar am).isNone=ag from rfl)];refine aq (kq (aq (wpAny_pyIter_zip (TO:=TO) (f0:=.none) (kp _ _ ez) (bc ⟨ly _ 0x6,?_⟩))));have hd':h'.DictOf knd hp.objs.size []:=let ⟨o,es,ep,ho,r⟩:=hnew;⟨o,es,ep,kp _ _ ho,r⟩
 refine HS (A:=A.in1) (ks:=ks) (show A.in1.handled=aj from hh) ap (lt hw.z_) (lt hw.to) (lt hw.j1) (lt hw.j2) hsz hk xs.size 0 ⟨h',g,dr,tk',os⟩ [] 0x1 (by rw[fj,dv];lia) ⟨_,_,_,_,hw.up λc o _ e=>kp c o (up c o e),.inl ⟨rfl,rfl⟩⟩ hd' λh2 tk2 hd2 kp2=>?_
 exact⟨rfl,q h2 tk2 hd2 λc o c1 c2 c3 c4 e=>kp2 c o (λx=>lt e x.symm) c1 c2 c3 c4 (kp c o (up c o e))⟩
end
end Wy
namespace Mi
open PySem L2 PySem.SeqAt PySem.Spec PyProof.Rows
def mC:ae D->Res D
 |[.tup xs,.lst ys]=>if ϒ (xs.length<=1000)&&ϒ (ys.length=xs.length)&&xs.all gZ&&ε ys then .ok (.dct (nC xs ys [])) else .bad
 |_=>.bad
section
variable [KFrag]
theorem Rep.aR1(r:Rep P H v (.lst ds)):∃a vs,v=.ref a/\H a=aa (.lst vs)/\bK P H vs ds:=by
 obtain⟨_,_,rfl,e,_,r⟩:=r.inv;exact⟨_,_,rfl,e,r⟩
section
theorem aF1(hg:Gl X "dict")(hm:X.mg "dict"=aj)(hg2:Gl X "zip")(hm2:X.mg "zip"=aj)(ha:PA X [a,b] (gA fs rr))(hc:autoParam (X.calm=ag) Ω)(hs2:autoParam (b5 [a,b] X.env=(ak,eval a X.env)::b5 [b] X.env) Ω)(hpl2:autoParam ((fF pos2 (b5 [b] X.env)).any (·.1)=ak) Ω)
 (hs:autoParam (b5 [.Call (.Name "zip" p2) [a,b] [] pos2] X.env=(ak,eval (.Call (.Name "zip" p2) [a,b] [] pos2) X.env)::b5 [] X.env) Ω) :
  PE X (.Call (.Name "dict" p) [.Call (.Name "zip" p2) [a,b] [] pos2] [] pos) (gE (aZ mC fs) ag):=by
 intro Ψ s σ H Q I ⟨ρ,d,E,h,q⟩;obtain⟨xs,h1,h2⟩:=a_ h;unfold mC at h2;split at h2
 .rename_i xs ys;split at h2
  .rename_i hb;cases h2;simp only[aS,cx] at hb;obtain⟨⟨⟨hb1,hb2⟩,hb3⟩,hb4⟩:=hb;refine hZ (oA I hg hm HQ ?_);refine jv ?_ hs rfl;rw[hs];show ϑ _ _ (kF ((ak,eval (.Call (.Name "zip" p2) [a,b] [] pos2) X.env)::fF pos (b5 [] X.env))) _ _ s;refine me ?_;refine hZ (oA I hg2 hm2 boot_zip ?_);refine jv (thn (ha pos2 Ψ s σ H (λvs H1=>bW H H1/\bK All H1 vs [.tup xs,.lst ys]) I ⟨ρ,_,E,h1,λvs H1 s1 r1 _=>⟨s1,r1⟩⟩) λus s1 ⟨vs,H1,I1,r1,sm,rp⟩=>?_) hs2 hpl2;cases rp with
   |cons rp1 rp=>
    cases rp with
    |cons rp2 rp=>
     cases rp;obtain⟨l1,vs1,rfl,e1,rr1⟩:=rp1.jG;obtain⟨l2,vs2,rfl,e2,rr2⟩:=rp2.aR1;cases r1 with
     |cons q1 r1=>
      cases r1 with
      |cons q2 r1=>
       cases r1;cases q1;cases q2;obtain⟨its1,w1,p1,_⟩:=I1.tuple (.of e1);obtain⟨_,its2,m2,w2,g2⟩:=I1.hok _ _ e2;have t1:s1.heap.IsTuple l1 its1.toArray:=p1;have t2:s1.heap.IsList l2 its2.toArray:=⟨_,g2,rfl,_,rfl⟩
       obtain⟨⟨c1,dd1,da1,sl1⟩,g1,hc1,m1,hd1⟩:=id p1;simp only at hc1 hd1;subst hc1 hd1;have hl1:=bE g1;have hl2:=bE g2;refine Wy.aNe t1 t2 λh' n hn z1 z2 z3 z4 z5 kp zsz=>?_
       subst hn;refine md ?_;have n1:=w1.length;have n2:=w2.length;have m1:=rr1.length;have m2:=rr2.length;obtain⟨ks,k1,k2,k3⟩:=aBa rr1 w1 hb3;refine Wy.aF0 (I1.ok.hd hc) (aBb hl1 hl2) ⟨z5,z3,z4,z1,z2,kp _ _ g1,kp _ _ g2⟩ (by simp only[b9];lia) (by simp only[b9];lia) (λi u hu=>k3 i u (by simpa using hu)) λh2 tk dd kp2=>?_
       have hfr:H1 h'.objs.size=aj:=I1.hok.fresh (by rw[zsz];lia);have kall:∀c o,s1.heap.get? c=aa o->h2.get? c=aa o:=λc o e=>by
        have:=bE e;exact kp2 c o (cy (dQ this (xw _ 4))) (cy (dQ this (xw _ 3))) (cy this) (cy (dQ this (xw _ 1))) (kp c o e)
       have rel:KV (gD [] (ks.zip vs2)) (li [] (ks.zip its2)):=(aNc w2 ks).merge .nil;have hz:(gD [] (ks.zip vs2)).length<=bo:=by
        have:=lV (ks.zip vs2) [];rw[fj,xu] at this;rw[dv];lia
       obtain⟨rk,nd⟩:=VN (rr2) gH.nil gj;rw[k1] at rk;have sp:bW H1 (upd H1 h'.objs.size (.dK (gD [] (ks.zip vs2)))):=bW.upd hfr;have pv:ε ((nC xs ys []).map (·.2))=ag:=by
        have go:∀(a b:ae D)(m:ae (D×D)),ε b=ag->ε (m.map (·.2))=ag->ε ((nC a b m).map (·.2))=ag:=by
         intro a;induction a with
         |nil=>intro b m _ hm;cases b<;>exact hm
         |cons x a ih=>
          intro b m hb hm;cases b with
          |nil=>exact hm
          |cons y b=>
           rw[ε,aS] at hb;refine ih b _ hb.2 ?_;have hp:=lC (ds:=m) (k:=x) hb.1 hm;exact hp
        exact go xs ys [] hb4 rfl
       have rk2:∀{P:al->Prop},gH P (upd H1 h'.objs.size (.dK (gD [] (ks.zip vs2)))) (gD [] (ks.zip vs2)) (nC xs ys []):=λ{P}=>(rk.keep (.same sp) λ_ h=>h).bT pv
       refine⟨.ref h'.objs.size,_,I1.laid (a:=h'.objs.size) (t':=tk) (o:=.dK (gD [] (ks.zip vs2))) kall (by rw[zsz];lia) (aAb hz (fA.mpr ?_) rel (by simpa using dd)),rfl,?_⟩
       .exact Ne.symm (cy (dQ I1.big (by rw[zsz];exact xw _ 5)))
       .exact q _ _ (sm.trans sp) (.dK aJ trivial rk2 nd) λ_=>.dK aJ (sm.free hfr) rk2 nd
  .exact bx h2
 .exact bx h2
end
end
noncomputable abbrev FX:=ae D->Res (D×ae D)
noncomputable abbrev FXT:=ae D->Res (aw×ae D)
noncomputable def M5:D->ar (ae D)
 |.lst xs=>aa xs
 |.cel _ xs=>aa xs
 |_=>aj
noncomputable def aF2:D->ae D->D
 |.cel a _,xs=>.cel a xs
 |_,xs=>.lst xs
noncomputable def wV(k:ah):ah->aw:=λi=>ϒ (i<k)
open Classical in
noncomputable def ch1(f:ae D->Res D)(xs rest:ae D):Res (D×ae D):=
 if h:∃p:D×ae D,∀b,f (.cel b xs::rest)=.ok (.tup [p.1,.cel b p.2]) then .ok h.choose else .bad
theorem aNg{xs rest:ae D}(h:ch1 f xs rest=.ok p):∀b,f (.cel b xs::rest)=.ok (.tup [p.1,.cel b p.2]):=by
 unfold ch1 at h;split at h
 .rename_i e;cases h;exact e.choose_spec
 .exact bx h
theorem E_{xs rest xs':ae D}(h:∀b,f (.cel b xs::rest)=.ok (.tup [r,.cel b xs'])):ch1 f xs rest=.ok (r,xs'):=by
 have e:∃p:D×ae D,∀b,f (.cel b xs::rest)=.ok (.tup [p.1,.cel b p.2]):=⟨(r,xs'),h⟩
 have q:ch1 f xs rest=.ok e.choose:=by unfold ch1;rw[wo e]
 rw[q];have z:=e.choose_spec 0;rw[h 0] at z;injection z with z
 injection z with z
 injection z with z1 z2
 injection z2 with z2
 injection z2 with _ z2
 rw[z1,z2]
noncomputable def aR2(k:ah):Fl->Res D
 |.rt (.tup (d::ρ))=>.ok (.tup (d::ρ.take k))
 |.nx ρ=>.ok (.tup (.non::ρ.take k))
 |_=>.bad
def fnX(k n m:ah)(f:FS):ae D->Res D:=λds=>do
 let r <- f (ds++cq (m-n) .uD)
 aR2 k r
def eV(f:ae D->Res D)(n i:ah)(fs:FA):FX:=λρ=>do
 let rest <- fs ρ
 match M5 (ρ.getD i .uD) with
 |some xs=>if ϒ (rest.length+1=n) then (do
   let p <- ch1 f xs rest
   if ε p.2 then .ok (p.1,ρ.set i (aF2 (ρ.getD i .uD) p.2)) else .bad) else .bad
 |none=>.bad
noncomputable def x2L(f:D->D->Res D)(fa:FX)(fb:FE):FX:=λρ=>do
 let p <- fa ρ
 if p.1.pure then (do
  let y <- fb p.2
  let d <- f p.1 y
  if d.pure then .ok (d,p.2) else .bad) else .bad
noncomputable def x2R(f:D->D->Res D)(fa:FE)(fb:FX):FX:=λρ=>do
 let x <- fa ρ
 let p <- fb ρ
 let d <- f x p.1
 if d.pure then .ok (d,p.2) else .bad
def xTB(f:FX):FXT:=λρ=>do
 let p <- f ρ
 let b <- asB p.1
 .ok (b,p.2)
def mX(o:aw)(i:ah)(f:FX):FS:=λρ=>do
 let p <- f ρ
 if (if o then inner p.1 else ag) then .ok (.nx (p.2.set i p.1)) else .bad
noncomputable def aQ2(c:FXT)(f g:FS):FS:=λρ=>do
 let p <- c ρ
 if p.1 then f p.2 else g p.2
def YW(i:ah)(fk fv:FE):FS:=λρ=>do
 let d <- fv ρ
 let k <- fk ρ
 match M5 (ρ.getD i .uD),k with
 |some xs,.int k=>if d.pure then (match ixD xs.length k with|some j=>.ok (.nx (ρ.set i (aF2 (ρ.getD i .uD) (xs.set j d))))|none=>.bad) else .bad
 |_,_=>.bad
noncomputable def bPu(f:FE):FE:=λρ=>do
 let d <- f ρ
 if d.pure then .ok d else .bad
noncomputable def isI:D->aw
 |.int _=>ag
 |_=>ak
def aJj:ae D->Res (ae D)
 |[]=>.bad
 |.lst ys::xs=>if ys.all isI&&ε xs then .ok (.scr ys::xs) else .bad
 |x::xs=>if x.pure then (do let r <- aJj xs;.ok (x::r)) else .bad
def aR3(f:FE):FE:=λρ=>do
 let d <- f ρ
 match d with
 |.lst xs=>(do let r <- aJj xs;.ok (.lst r))
 |_=>.bad
section
variable [KFrag]
section
variable {own:ah->aw}
theorem aBm(r:Rep P H (.ref a) d)(h:M5 d=aa xs):∃vs,H a=aa (.lst vs)/\P a/\bK P H vs xs:=by
 cases d<;>simp only[M5] at h<;>cases h<;>cases r
 .exact⟨_,by assumption,by assumption,by assumption⟩
 .exact⟨_,by assumption,by assumption,by assumption⟩
theorem aBn(r:Rep P H v (.cel b xs)):v=.ref b:=by cases r;rfl
theorem aBo(r:Rep P H (.ref a) d)(h:M5 d=aa xs)(e:H' a=aa (.lst vs'))(p:P' a)(r':bK P' H' vs' xs'):Rep P' H' (.ref a) (aF2 d xs'):=by
 cases d<;>simp only[M5] at h<;>cases h<;>cases r
 .exact .lst e p r'
 .exact .cel e p r'
theorem aNh(h:M5 d=aa xs):inner d=ε xs:=by
 cases d<;>simp only[M5] at h<;>cases h<;>rfl
theorem R6(h:M5 d=aa xs):inner (aF2 d xs')=ε xs':=by
 cases d<;>simp only[M5] at h<;>cases h<;>rfl
theorem aNi(h:M5 d=aa xs):d≠.uD:=λz=>by subst z;cases h
theorem ES.aR4(E:ES own H σ ρ)(ho:own i=ag)(hi:σ[i]?=aa (aa (.ref a)))(hk:∀b ob,H b=aa ob->b≠a->H' b=aa ob)(e:H' a=aa o)(hm:Q9 o=ag)(r:Rep All H' (.ref a) d)(hin:inner d=ag) :
  ES own H' σ (ρ.set i d)/\KU own σ H σ H':=by
 have hOa:Own own σ a:=⟨i,ho,hi⟩
 obtain⟨a',oa,ea,_,_,hHa,hma,huq⟩:=E.own i _ ho hi;cases ea;have k:KU own σ H σ H':=λb ob e n=>⟨hk b ob e (λz=>by subst z;exact n hOa),n⟩
 have hl:i<ρ.length:=by rw[<-E.len];exact(dA.mp hi).1
 refine⟨⟨by simp[E.len],λj hj=>?_,λj w hj hw=>?_⟩,k⟩
 .rw[cP] at hj ⊢;by_cases h:i=j/\i<ρ.length
  .obtain⟨rfl,_⟩:=h;exact⟨_,hi,λz=>by rw[ho] at z;cases z⟩
  .rw[ax h] at hj ⊢;obtain⟨w,h1,h2⟩:=E.at_ j hj;exact⟨w,h1,λhj=>k.rep E (h2 hj)⟩
 .by_cases hij:i=j
  .subst hij;rw[hi] at hw;cases hw;rw[cP,ao ⟨rfl,hl⟩];exact⟨a,o,rfl,r,hin,e,hm,huq⟩
  .rw[cP,ax λz=>hij z.1];obtain⟨b,ob,h1,h2,h3,h4,h5,h6⟩:=E.own j w hj hw;subst h1;have hba:b≠a:=λz=>by subst z;exact hij (h6 i ho hi)
   refine⟨b,ob,rfl,?_,h3,hk _ _ h4 hba,h5,h6⟩;refine(h2.wV (P':=λc=>c=b) h3 rfl).keep (λc oc hc hp=>?_) λ_ _=>trivial
   refine hk _ _ hc λz=>?_
   subst z;rcases hp with hp|hp
   .exact hba hp.symm
   .rw[hHa] at hc;cases hc;rw[hma] at hp;cases hp
def NS(own:ah->aw)(ρ ρ':ae D):Prop:=∀i,own i=ak->ρ'.getD i .uD=ρ.getD i .uD
theorem NS.refl:NS own ρ ρ:=λ_ _=>rfl
theorem NS.set(ho:own i=ag):NS own ρ (ρ.set i d):=λj hj=>by
 rw[cP,ax];rintro⟨rfl,_⟩;rw[ho] at hj;cases hj
def kX(own:ah->aw)(σ:L2.St)(H:Hp)(ρ:ae D)(d:D)(ρ':ae D)(Q:VK):Prop:=∀v H',KU own σ H σ H'->ES own H' σ ρ'->NS own ρ ρ'->Rep (New H) H' v d->Q v H'
noncomputable def gX(own:ah->aw)(f:FX):TE:=λσ H Q=>∃ρ d ρ',ES own H σ ρ/\f ρ=.ok (d,ρ')/\kX own σ H ρ d ρ' Q
noncomputable def gXT(own:ah->aw)(f:FXT):TT:=λσ H Q=>∃ρ d ρ',ES own H σ ρ/\f ρ=.ok (d,ρ')/\∀H',KU own σ H σ H'->ES own H' σ ρ'->NS own ρ ρ'->Q d H'
noncomputable def gAO(own:ah->aw)(f:FA):TA:=λσ H Q=>∃ρ ds,ES own H σ ρ/\f ρ=.ok ds/\∀vs H',bW H H'->bK (λa=>¬Own own σ a) H' vs ds->Q vs H'
theorem zZ(E:ES own H σ ρ)(h:H a=aj):¬Own own σ a:=λn=>by
 obtain⟨o',e,_⟩:=E.live n;rw[h] at e;cases e
theorem aJk(E:ES own H σ ρ)(E1:ES own H1 σ ρ1)(k:KU own σ H1 σ H2):sJ (New H) H1 H2:=λa o e hp=>by
 refine(k a o e ?_).1;rcases hp with hp|hp
 .exact zZ E hp
 .intro n;obtain⟨o',e',hm⟩:=E1.live n;rw[e] at e';cases e';rw[hp] at hm;cases hm
theorem Rep.ku(r:Rep (New H) H1 v d)(E:ES own H σ ρ)(E1:ES own H1 σ ρ1)(k:KU own σ H1 σ H2):Rep (New H) H2 v d:=r.keep (aJk E E1 k) λ_ h=>h
theorem ES.aTz(E:ES own H σ ρ)(k:KU own σ H σ H')(E':ES own H' σ ρ')(ns:NS own ρ ρ')(ho:own i=ag)(hn:H a=aj)(r:Rep All H' (.ref a) d)(hin:inner d=ag)(ha:H' a=aa o)(hm:Q9 o=ag) :
  ES own H' (σ.set i (aa (.ref a))) (ρ'.set i d)/\KU own σ H (σ.set i (aa (.ref a))) H':=by
 have hO:∀b,H b≠aj->¬Own own σ b->¬Own own (σ.set i (aa (.ref a))) b:=λb hb n z0=>by
  obtain⟨j,hj,e⟩:=z0;by_cases hij:i=j
  .subst hij;by_cases hl:i<σ.length
   .rw[eD hl] at e;cases e;exact hb hn
   .rw[oP,ao rfl,ax hl] at e;cases e
  .rw[dm hij] at e;exact n ⟨j,hj,e⟩
 have hna:¬Own own σ a:=zZ E hn;refine⟨⟨by simp[E'.len],λj hj=>?_,λj w hj hw=>?_⟩,λb ob e n=>⟨(k b ob e n).1,hO b (by rw[e];simp) n⟩⟩
 .rw[cP] at hj ⊢;by_cases h:i=j/\i<ρ'.length
  .rw[ao h];obtain⟨rfl,hl⟩:=h;exact⟨.ref a,by rw[eD (by rw[E'.len];exact hl)],λz=>by rw[ho] at z;cases z⟩
  .rw[ax h] at hj ⊢;obtain⟨w,h1,h2⟩:=E'.at_ j hj;by_cases hij:i=j
   .subst hij;have:i<σ.length:=(dA.mp h1).1;rw[E'.len] at this;exact aT ⟨rfl,this⟩ h
   .refine⟨w,by rw[dm hij];exact h1,λhoj=>?_⟩;rw[ns j hoj] at hj ⊢;obtain⟨w',h1',h2'⟩:=E.at_ j hj;rw[h1] at h1';cases h1';exact(h2' hoj).dom.keep (λc oc hc hp=>k.keep E c oc hc (hp.imp And.left id)) λb ⟨n,hb⟩=>hO b hb n
 .by_cases hij:i=j
  .subst hij;have hl:i<σ.length:=by
    have:=(dA.mp hw).1;simpa using this
   rw[eD hl] at hw;cases hw;rw[cP,ao ⟨rfl,by rw[<-E'.len];exact hl⟩];refine⟨a,o,rfl,r,hin,ha,hm,λk hk hs=>?_⟩;by_cases hik:i=k
   .exact hik.symm
   .rw[dm hik] at hs;exact aT ⟨k,hk,hs⟩ hna
  .rw[dm hij] at hw;rw[cP,ax λz=>hij z.1];obtain⟨b,ob,h1,h2,h3,h4,h5,h6⟩:=E'.own j w hj hw;refine⟨b,ob,h1,h2,h3,h4,h5,λk hk hs=>?_⟩;by_cases hik:i=k
   .subst hik;by_cases hl:i<σ.length
    .rw[eD hl] at hs;cases hs;subst h1;exact aT ⟨j,hj,hw⟩ hna
    .rw[oP,ao rfl,ax hl] at hs;cases hs
   .rw[dm hik] at hs;exact h6 k hk hs
end
section
variable {own:ah->aw} {X:Cx} {a b c e:Expr} {pos pos':ck} {fa fb:FE} {rb:aw} {xa xb xe:FX}
theorem aSn{fr:aw}(h:gX own (x2L f xa fb) σ H Q):tOp (r2 f fr) (gX own xa) (gE fb rb) σ H Q:=by
 obtain⟨ρ,d,ρ',E,h,q⟩:=h;obtain⟨⟨x,ρ1⟩,h1,h⟩:=a_ h;split at h
 .rename_i hp;obtain⟨y,h2,h⟩:=a_ h;obtain⟨z,h3,h⟩:=a_ h;split at h
  .rename_i hz;cases h;refine⟨ρ,x,ρ1,E,h1,λv H1 k1 E1 ns r1=>⟨ρ1,y,E1.er,h2,λw H2 s2 r2 _=>⟨x,y,_,(r1.same s2).all,r2,h3,λu H3 s3 r3 _=>?_⟩⟩⟩;exact q u H3 (k1.trans (.same (s2.trans s3))) (E1.same (s2.trans s3)) ns (r3.bT hz)
  .exact bx h
 .exact bx h
theorem VP{fr:aw}(ho:OpR X (eI o) (r2 f fr))(ha:PE X a (gX own xa))(hb:PE X b (gE fb rb)):PE X (.BinOp a o b pos) (gX own (x2L f xa fb)):=PE.imp (aI5 ho ha hb) λ_ _ _=>aSn
theorem aJl{fr:aw}(ho:OpR X (em o) (r2 f fr))(ha:PE X a (gX own xa))(hb:PE X b (gE fb rb))(hm:iN o b=ak):PT X (.Compare a [o] [b] pos) (gXT own (xTB (x2L f xa fb))):=
 PT.imp (Z9 ho ha hb hm) λσ H Q z0=>by
  obtain⟨ρ,k,ρ',E,h,q⟩:=z0;obtain⟨⟨d,ρ1⟩,h1,h2⟩:=a_ h;obtain⟨b,h3,h4⟩:=a_ h2;cases h4;refine aSn ⟨ρ,d,_,E,h1,λv H' k1 E1 ns r=>?_⟩;cases aH2 h3;cases r.inv;exact⟨_,rfl,q H' k1 E1 ns⟩
theorem aU0{fr:aw}(h:gX own (x2R f fa xb) σ H Q):tOp (r2 f fr) (gE fa ag) (gX own xb) σ H Q:=by
 obtain⟨ρ,d,ρ',E,h,q⟩:=h;obtain⟨x,h1,h⟩:=a_ h;obtain⟨⟨y,ρ1⟩,h2,h⟩:=a_ h;obtain⟨z,h3,h⟩:=a_ h;split at h
 .rename_i hz;cases h;refine⟨ρ,x,E.er,h1,λv H1 s1 r1 n1=>⟨ρ,y,ρ1,E.same s1,h2,λw H2 k2 E2 ns r2=>⟨x,y,_,((n1 rfl).ku E (E.same s1) k2).all,r2.all,h3,λu H3 s3 r3 _=>?_⟩⟩⟩;exact q u H3 ((KU.same s1).trans (k2.trans (.same s3))) (E2.same s3) ns (r3.bT hz)
 .exact bx h
theorem aNj{fr:aw}(ho:OpR X (eI o) (r2 f fr))(ha:PE X a (gE fa ag))(hb:PE X b (gX own xb)):PE X (.BinOp a o b pos) (gX own (x2R f fa xb)):=PE.imp (aI5 ho ha hb) λ_ _ _=>aU0
theorem aNk(E:ES own H σ ρ)(ho:own i=ak)(h:cD i ρ=.ok d):∃v,σ[i]?=aa (aa v)/\Rep (λa=>¬Own own σ a) H v d:=by
 obtain⟨v,hv,r,e⟩:=E.er.var h;have hne:ρ.getD i .uD≠.uD:=λz=>by
  rw[z] at e;subst e;exact Rep.uD r
 obtain⟨w,hw,hr⟩:=E.at_ i hne;rw[hv] at hw;cases hw;have r2:=hr ho;rw[e] at r2;exact⟨v,hv,r2⟩
theorem aU1{fr:aw}{σ:L2.St}{H:Hp}{Q:VK}(ho:own i=ak)(h:gX own (x2R f (cD i) xb) σ H Q):tOp (r2 f fr) (gW i) (gX own xb) σ H Q:=by
 obtain⟨ρ,d,ρ',E,h,q⟩:=h;obtain⟨x,h1,h⟩:=a_ h;obtain⟨⟨y,ρ1⟩,h2,h⟩:=a_ h;obtain⟨z,h3,h⟩:=a_ h;obtain⟨v,hv,rv⟩:=aNk E ho h1;split at h
 .rename_i hz;cases h;refine⟨v,hv,ρ,y,ρ1,E,h2,λw H2 k2 E2 ns r2=>⟨x,y,_,(k2.rep E rv).all,r2.all,h3,λu H3 s3 r3 _=>?_⟩⟩;exact q u H3 (k2.trans (.same s3)) (E2.same s3) ns (r3.bT hz)
 .exact bx h
theorem aNl{pv:ck}{f:D->D->Res D}{fr:aw}(ho:IxR X (r2 f fr))(hoi:own i=ak)(hN:X.N[i]?=aa x)(hv:Vis X.env.scope x)(hb:PE X b (gX own xb))(hs:wQ b)(hd:autoParam (nDb x) Λ)(hcd:autoParam (nCd x) Λ):PE X (.Subscript (.Name x pv) b pos) (gX own (x2R f (cD i) xb)):=PE.imp (YB ho (aW hN hv hd hcd) hb hs) λ_ _ _=>aU1 hoi
theorem aF3(ho:own i=o)(h:tS own (mX o i xe) D' σ H):BX (gX own xe) (fG i) D' σ H:=by
 obtain⟨ρ,fl,E,h,q⟩:=h;obtain⟨⟨d,ρ1⟩,h1,h2⟩:=a_ h;cases o with
 |true=>
  simp only[e9] at h2;split at h2
  .rename_i hk;cases h2;refine⟨ρ,d,ρ1,E,h1,λv H' k E1 ns r=>?_⟩;obtain⟨a,ob,rfl,hn,ha,hm⟩:=aH7 r hk;obtain⟨E2,k2⟩:=E.aTz k E1 ns ho hn r.all hk ha hm;exact q _ H' k2 E2
  .exact bx h2
 |false=>
  simp only[i5,gf,e9] at h2;cases h2;refine⟨ρ,d,ρ1,E,h1,λv H' k E1 ns r=>?_⟩;exact q _ H' (λa ob e hn=>⟨(k a ob e hn).1,by rw[jP ho];exact hn⟩) (E1.set ho (RQ E r))
theorem mU(ho:own i=o)(hN:X.N.Nodup)(hi:X.N[i]?=aa x)(hx:Loc X.env.scope x)(he:PE X e (gX own xe))(hs:autoParam (zSw X e x pos' pos) Ω)(hf:autoParam (zFn X x) Ξ) :
  PS X (.Assign [.Name x pos'] e pos) (tS own (mX o i xe)):=PS.imp (yV hN hi hx he hs hf) λ_ _ _=>aF3 ho
theorem aR5(hc:PT X c (gXT own xc))(ha:PSs X s1 (tS own f))(hb:PSs X s2 (tS own g)):PS X (.If c s1 s2 pos) (tS own (aQ2 xc f g)):=PS.imp (J7 hc ha hb) λD σ H z0=>by
 obtain⟨ρ,fl,E,h,q⟩:=z0;obtain⟨⟨k,ρ1⟩,h1,h2⟩:=a_ h;refine⟨ρ,k,ρ1,E,h1,λH' ku E1 ns=>?_⟩;cases k with
 |true=>rw[ao rfl];rw[ao rfl] at h2;exact⟨ρ1,fl,E1,h2,q.step ku⟩
 |false=>rw[ax 0x2];rw[ax 0x2] at h2;exact⟨ρ1,fl,E1,h2,q.step ku⟩
end
section
variable {own:ah->aw} {X:Cx} {a b c e:Expr} {pos pos':ck} {fe:FE} {ra re:aw}
theorem kRt.new{D:Ends}(h:kRt own D σ H (.tup (d0::ρ')))(hx:own rtX=ag):∀v σ' H',KU own σ H σ' H'->ES own H' σ' ρ'->Rep (λa=>(Own own σ a\/H a=aj)/\∀i b xs,ρ'.getD i .uD=.cel b xs->a≠b) H' v d0->D.rt v H':=by
 unfold kRt at h;rw[ao hx] at h;obtain⟨d1,ρ1,e,g⟩:=h;cases e;exact g
theorem jU(E:ES own H σ ρ){i b:ah}{xs:ae D}(h:ρ.getD i .uD=.cel b xs):∃vs,σ[i]?=aa (aa (.ref b))/\H b=aa (.lst vs):=by
 obtain⟨v,h1,h2⟩:=E.er i (by rw[h];intro z;cases z);rw[h] at h2;obtain⟨_,rfl,e,_,_⟩:=h2.inv;exact⟨_,h1,e⟩
theorem R7(he:PE X e (gE fe re))(hx:autoParam (own rtX=ag) Ω):PS X (.Return (aa e) pos) (tS own (Q6 fe re)):=PS.imp (sS he) λD σ H z0=>by
 obtain⟨ρ,fl,E,h,q⟩:=z0;obtain⟨d,h1,h2⟩:=a_ h;split at h2
 .rename_i hk;cases h2;refine⟨ρ,d,E.er,h1,λv H' s r n=>kRt.new q hx v σ H' (.same s) (E.same s) ?_⟩;rw[i8] at hk;rcases hk with hk|hk
  .refine(n hk).mono λa ha=>⟨.inr ha,λi b xs hb z=>?_⟩
   obtain⟨vs,_,e⟩:=jU E hb;subst z;rw[show H a=aj from ha] at e;cases e
  .exact r.bT hk
 .exact bx h2
theorem yO(ho:own i=ag)(hN:X.N[i]?=aa x)(hv:Vis X.env.scope x)(hd:autoParam (nDb x) Λ)(hcd:autoParam (nCd x) Λ)(hx:autoParam (own rtX=ag) Ω):PS X (.Return (aa (.Name x pos')) pos) (tS own (m8 i)):=
 PS.imp (sS (aW hN hv hd hcd)) λD σ H z0=>by
 obtain⟨ρ,fl,E,h,q⟩:=z0;obtain⟨d,h1,h2⟩:=a_ h;split at h2
 .rename_i hc;cases h2;obtain⟨v,hv,r,e⟩:=E.er.var h1;obtain⟨a,o,rfl,r2,hin,_,_,huq⟩:=E.own i v ho hv;rw[e] at hin;refine⟨_,hv,kRt.new q hx _ σ H (.same (bW.refl H)) E (r.wV hin ⟨.inl ⟨i,ho,hv⟩,λj b xs hb z=>?_⟩)⟩;obtain⟨vs,hj,eb⟩:=jU E hb;subst z;cases hoj:own j with
  |true=>
   have:=huq j hoj hj;subst this;rw[hb] at e;subst e;cases hc
  |false=>
   obtain⟨w,hw,hr⟩:=E.at_ j (by rw[hb];intro z;cases z);have r3:=hr hoj;rw[hb] at r3;obtain⟨_,rfl,e,p,r⟩:=r3.inv;exact p ⟨i,ho,hv⟩
 .exact bx h2
def spV(k:ah)(f:ae D->Res D)(n:ah):Sp:=λvs H Q _=>∃ds d ds',ds.length=n/\vs.length=n/\ES (wV k) H (vs.map aa) ds/\(∀i,i<k->∃b xs xs',ds.getD i .uD=.cel b xs/\ds'.getD i .uD=.cel b xs')/\f ds=.ok (.tup (d::ds'))/\
 ∀v H',(∀a o,H a=aa o->¬Own (wV k) (vs.map aa) a->H' a=aa o)->(∀i v,i<k->vs[i]?=aa v->Rep All H' v (ds'.getD i .uD)/\inner (ds'.getD i .uD)=ag)->Rep (New H) H' v d->Q v H'
theorem aJm{E:XK}(h:spV k f n vs H Q E):vs.length=n:=by
 obtain⟨ds,d,ds',h1,h2,_⟩:=h;exact h2
theorem M6{ρ:ae D}(h:i<k):(ρ.take k).getD i .uD=ρ.getD i .uD:=by
 rw[cj,cj,List.getElem?_take,ao h]
theorem aF4{k:ah}{N ps:ae Str}{f:FS}{vs:ae V}{H:Hp}{Q:VK}{E:XK}(hx:own rtX=ag)(hown:∀i,i<ps.length->own i=wV k i)(hkn:k<=ps.length)(h0:spV k (fnX k ps.length N.length f) ps.length vs H Q E):tS own f {nx:=λ_ H'=>Q .non H',rt:=Q} (start N vs) H:=by
 obtain⟨ds,d,ds',hl,hvl,E0,hc,h,q⟩:=h0;obtain⟨fl,h1,h2⟩:=a_ h;have hst:start N vs=vs.map aa++cq (N.length-ps.length) aj:=by
  show vs.map aa++cq (N.length-vs.length) aj=_;rw[hvl]
 have low:∀i,i<ps.length->(start N vs)[i]?=(vs.map aa)[i]?:=λi hi=>by rw[hst,eu (by simp[hvl,hi])]
 have high:∀i v,ps.length<=i->(start N vs)[i]?≠aa (aa v):=λi v hi e=>by
  rw[hst,fI (by simp[hvl];lia),jy] at e;split at e<;>cases e
 have hO:∀a,Own own (start N vs) a↔Own (wV k) (vs.map aa) a:=λa=>by
  constructor
  .rintro⟨i,hi,e⟩;by_cases hlt:i<ps.length
   .exact⟨i,by rw[<-hown i hlt];exact hi,by rw[<-low i hlt];exact e⟩
   .exact aT e (high i _ 0x1)
  .rintro⟨i,hi,e⟩;have hik:i<k:=by simpa[wV] using hi
   have hlt:i<ps.length:=by lia
   exact⟨i,by rw[hown i hlt];exact hi,by rw[low i hlt];exact e⟩
 have hOf:(λa=>¬Own own (start N vs) a)=λa=>¬Own (wV k) (vs.map aa) a:=funext λa=>by rw[hO]
 have gd:∀i,i<ps.length->(ds++cq (N.length-ps.length) D.uD).getD i .uD=ds.getD i .uD:=λi hi=>by
  rw[cj,eu 0x1,cj]
 have ES0:ES own H (start N vs) (ds++cq (N.length-ps.length) .uD):=by
  refine⟨by rw[hst];simp[hvl,hl],λi hi=>?_,λi v hi hv=>?_⟩
  .have hlt:i<ps.length:=kh λhge=>hi (by
    rw[cj,fI 0x1,jy];split<;>rfl)
   rw[gd i hlt] at hi ⊢;obtain⟨v,g1,g2⟩:=E0.at_ i hi;exact⟨v,by rw[low i hlt];exact g1,λho=>by rw[hOf];exact g2 (by rw[<-hown i hlt];exact ho)⟩
  .have hlt:i<ps.length:=kh λhge=>high i v hge hv
   rw[low i hlt] at hv;rw[gd i hlt];obtain⟨a,o,g1,g2,g3,g4,g5,g6⟩:=E0.own i v (by rw[<-hown i hlt];exact hi) hv;refine⟨a,o,g1,g2,g3,g4,g5,λj hj hs=>?_⟩;have hjl:j<ps.length:=kh λhge=>high j _ hge hs
   exact g6 j (by rw[<-hown j hjl];exact hj) (by rw[<-low j hjl];exact hs)
 have fin:∀v σ' H' ρ',ds'=ρ'.take k->KU own (start N vs) H σ' H'->ES own H' σ' ρ'->Rep (New H) H' v d->Q v H':=λv σ' H' ρ' ed ku E' r=>by
  refine q v H' (λa o e n=>(ku a o e (by rw[hO];exact n)).1) (λi w hi hw=>?_) r;have hlt:i<ps.length:=by lia
  obtain⟨b,xs,xs',g1,g2⟩:=hc i hi;have hoi:own i=ag:=by rw[hown i hlt];simp[wV,hi]
  have g3:ρ'.getD i .uD=.cel b xs':=by rw[ed,M6 hi] at g2;exact g2
  obtain⟨vs0,z1,_⟩:=jU E0 g1;rw[ib,hw] at z1;cases z1;obtain⟨w',z2,_⟩:=E'.at_ i (by rw[g3];intro z;cases z);obtain⟨a,o,rfl,g4,g5,_⟩:=E'.own i w' hoi z2;rw[g3] at g4 g5;have:=aBn g4;cases this;rw[g2];exact⟨g4,g5⟩
 refine⟨_,fl,ES0,h1,?_⟩;cases fl with
 |nx ρ'=>
  simp only[aR2] at h2;injection h2 with h2
  injection h2 with h2
  injection h2 with z1 z2
  subst z1;exact λσ' H' ku E'=>fin .non σ' H' ρ' z2.symm ku E' .non
 |bk ρ'=>exact bx h2
 |ct ρ'=>exact bx h2
 |rt d'=>
  show kRt own _ _ _ d';unfold kRt;rw[ao hx];unfold aR2 at h2;split at h2
  .rename_i d1 ρ' heq;cases heq;injection h2 with h2
   injection h2 with h2
   injection h2 with z1 z2
   subst z1;refine⟨_,_,rfl,λv σ' H' ku E' r=>fin v σ' H' ρ' z2.symm ku E' (r.mono λa ha=>?_)⟩;rcases ha.1 with ⟨i,hi,e⟩|hn
   .exfalso;have hlt:i<ps.length:=kh λhge=>high i _ hge e
    have hik:i<k:=by rw[hown i hlt] at hi;simpa[wV] using hi
    obtain⟨b,xs,xs',g1,g2⟩:=hc i hik;obtain⟨vs0,q1,_⟩:=jU E0 g1;rw[low i hlt,q1] at e;cases e;rw[<-z2,M6 hik] at g2;exact ha.2 i _ xs' g2 rfl
   .exact hn
  .rename_i heq;cases heq
  .exact bx h2
theorem aNm{P:bS}{w:bu}{K:bi}{mg:Str->ar am}{base:aI}{x qual:Str}{st:bz}{fad:al}{fd:d4}{N ps:ae Str}{k c:ah}{f:FS}(F:Fun K x qual st fad fd)(S:cA N ps (aL st))(own:ah->aw)(hx:own rtX=ag)(hown:∀i,i<ps.length->own i=wV c i)(hkn:c<=ps.length)
 (hbody:∀(cdv:am) (A:b6) (outer:ae c_) (s:au) (H:Hp) (E:XK),mW k (A.deeper (eW qual (aL st) s.heap.objs.size fad cdv))->PSs (J0 CX0 P w K mg base N qual (aL st) fad cdv A outer s H E).nox (cW st) (tS own f)):mO P w K mg base CX0 (k+1) fad fd ps (spV c (fnX c ps.length N.length f) ps.length):=
 F.ok S (λvs H Q E h=>aJm h) λcdv A outer s H vs Q E hr h=>⟨_,hbody cdv A outer s H E hr,aF4 hx hown hkn h⟩
def J4(P:bS)(w:bu)(K:bi)(mg:Str->ar am)(base:aI)(k:ah)(x:Str)(n c:ah)(f:ae D->Res D):Prop:=
 ∃(fad:al)(fd:d4)(ps:ae Str),mO P w K mg base CX0 k fad fd ps (spV c f n)/\mg x=aa (.ref fad)/\gw K (.ref fad)=ag/\Binds K fd ps []
theorem wX{w:bu}{K:bi}{mg:Str->ar am}{base:aI}{x:Str}{k:ah}{st:bz}{fad:al}{fd:d4}{N ps:ae Str}{fs:FS}(c:ah)(F:Fun K x x st fad fd)(hm:mg x=aa (.ref fad))(hb:Binds K fd ps [])(S:cA N ps (aL st))(own:ah->aw)(hown:∀i,i<ps.length->own i=wV c i)(hkn:c<=ps.length)
 (hbody:∀(cdv:am) (A:b6) (outer:ae c_) (s:au) (H:Hp) (E:XK),mW k (A.deeper (eW x (aL st) s.heap.objs.size fad cdv))->PSs (J0 CX0 P w K mg base N x (aL st) fad cdv A outer s H E).nox (cW st) (tS own fs))(hx:autoParam (own rtX=ag) Ω):J4 P w K mg base (k+1) x ps.length c (fnX c ps.length N.length fs):=
 ⟨fad,fd,ps,aNm F S own hx hown hkn hbody,hm,F.kp,hb⟩
theorem jF:PA X [] (gAO own aU):=PA.imp dC λσ H Q z0=>by obtain⟨ρ,ds,E,h,q⟩:=z0;cases h;exact q [] H (bW.refl H) .nil
theorem j7(ho:own i=ak)(hN:X.N[i]?=aa x)(hv:Vis X.env.scope x)(hes:PA X es (gAO own f))(hd:autoParam (nDb x) Λ)(hcd:autoParam (nCd x) Λ)(hs:autoParam (b5 (.Name x pos::es) X.env=(ak,eval (.Name x pos) X.env)::b5 es X.env) Ω):PA X (.Name x pos::es) (gAO own (aC (cD i) f)):=PA.imp (aY (aW hN hv hd hcd) hes hs) λσ H Q z0=>by
 obtain⟨ρ,ds,E,h,q⟩:=z0;obtain⟨x,h1,h⟩:=a_ h;obtain⟨xs,h2,h⟩:=a_ h;cases h;obtain⟨v,hv,rv⟩:=aNk E ho h1;exact⟨v,hv,ρ,xs,E,h2,λvs H2 s2 r2=>q _ _ s2 (.cons (rv.same s2) r2)⟩
theorem aNn(he:PE X e (gE fe re))(hes:PA X es (gAO own f))(hs:autoParam (zSE X e es) Ω):PA X (e::es) (gAO own (aC (bPu fe) f)):=PA.imp (aY he hes hs) λσ H Q z0=>by
 obtain⟨ρ,ds,E,h,q⟩:=z0;obtain⟨x,h1,h⟩:=a_ h;obtain⟨xs,h2,h⟩:=a_ h;cases h;obtain⟨y,h3,h1⟩:=a_ h1;split at h1
 .rename_i hp;cases h1;exact⟨ρ,_,E.er,h3,λv H1 s1 r1 _=>⟨ρ,xs,E.same s1,h2,λvs H2 s2 r2=>q _ _ (s1.trans s2) (.cons ((r1.bT hp).same s2) r2)⟩⟩
 .exact bx h1
theorem aR6{a:al}{vs0:ae V}{vs:ae V}{rest:ae D}(ha:H a=aa (.lst vs0))(ra:bK All H vs0 xs)(hp:ε xs=ag)(rs:bK (λb=>b≠a) H vs rest):ES (wV 1) H ((V.ref a::vs).map aa) (.cel a xs::rest):=by
 have hO:∀b,Own (wV 1) ((V.ref a::vs).map aa) b->b=a:=λb z0=>by
  obtain⟨j,hj,e⟩:=z0;have:j=0:=by simp[wV] at hj;lia
  subst this;simp at e;exact e.symm
 refine⟨by simp[rs.length],λi hi=>?_,λi v hi hv=>?_⟩
 .cases i with
  |zero=>exact⟨.ref a,rfl,λz=>by simp[wV] at z⟩
  |succ i=>
   have e:(D.cel a xs::rest).getD (i+1) .uD=rest.getD i .uD:=rfl;rw[e] at hi ⊢;cases hq:rest[i]? with
   |none=>rw[cj,hq] at hi;exact aT rfl hi
   |some d=>
    obtain⟨v,g1,g2⟩:=rs.get hq;rw[cj,hq];exact⟨v,by simp[g1],λ_=>g2.mono λb hb ho=>hb (hO b ho)⟩
 .have:i=0:=by simp[wV] at hi;lia
  subst this;simp at hv;subst hv;exact⟨a,.lst vs0,rfl,.cel ha trivial ra,hp,ha,rfl,λj hj _=>by simp[wV] at hj;lia⟩
theorem HW(E:ES own H σ ρ)(ho:own i=ag)(h:M5 (ρ.getD i .uD)=aa xs):∃a vs,σ[i]?=aa (aa (.ref a))/\H a=aa (.lst vs)/\bK All H vs xs/\ε xs=ag/\Rep All H (.ref a) (ρ.getD i .uD)/\∀b,ρ.getD i .uD=.cel b xs->b=a:=by
 obtain⟨a,o,hσ,r,hin,ha,hm⟩:=E.ownAt ho (aNi h);obtain⟨vs,e,_,rr⟩:=aBm r h;exact⟨a,vs,hσ,e,rr,by rw[aNh h] at hin;exact hin,r,λb hb=>by rw[hb] at r;have:=aBn r;cases this;rfl⟩
theorem aNo{H H':Hp}{a:al}{d:D}{xs xs':ae D}(r:Rep All H (.ref a) d)(h:M5 d=aa xs)(r':Rep All H' (.ref a) (.cel a xs')):∃vs,H' a=aa (.lst vs)/\Rep All H' (.ref a) (aF2 d xs'):=by
 obtain⟨vs,e,_,rr⟩:=aBm r' rfl;exact⟨vs,e,aBo r h e trivial rr⟩
theorem dO(C:J4 X.prog X.w X.K X.mg X.base k x n 1 f)(hr:mW k' X.A)(hkk:k<=k')(hg:Gl X x)(ho:own i=ag)(hN:X.N[i]?=aa y)(hv:Vis X.env.scope y)(ha:PA X es (gAO own fs))(hdb:autoParam (nDb x) Λ)(hd:autoParam ((y==("__debug__" : Str))=ak) Λ)(hcd:autoParam ((y==("__classdict__" : Str))=ak) Λ)
 (he:autoParam (b5 (.Name y py::es) X.env=(ak,eval (.Name y py) X.env)::b5 es X.env) Ω)(hpl:autoParam (zSP X pos es) Ω):PE X (.Call (.Name x p) (.Name y py::es) [] pos) (gX own (eV f n i fs)):=by
 obtain⟨fad,fd,ps,F,hm,hk,hb⟩:=C;refine PE.imp (aA2 F (hr.mono hkk) hg hm hk hb .nil aEa (aY (aW hN hv hd hcd) ha he) hdb he hpl) λσ H Q ⟨ρ,d,ρ',E,h,q⟩=>?_
 obtain⟨rest,h1,h⟩:=a_ h;split at h
 .rename_i xs hx;split at h
  .rename_i hn;obtain⟨⟨r0,xs'⟩,h2,h⟩:=a_ h;split at h
   .rename_i hp';cases h;obtain⟨a,vs0,hσ,e0,rr0,hp0,rp0,_⟩:=HW E ho hx;refine⟨_,hσ,ρ,rest,E,h1,λvs H1 s1 rs=>?_⟩;have hOa:Own own σ a:=⟨i,ho,hσ⟩
    have hl:rest.length+1=n:=d5 hn;dsimp only;rw[cv];refine⟨.cel a xs::rest,_,[.cel a xs'],by simp;lia,by simp[rs.length];lia,aR6 (s1 _ _ e0) (rr0.same s1) hp0 (rs.mono λb hb z=>by subst z;exact hb hOa),λj hj=>?_,aNg h2 a,λv H' k1 own1 rn=>?_⟩
    .have:j=0:=by lia
     subst this;exact⟨a,xs,xs',rfl,rfl⟩
    .obtain⟨r1,hin⟩:=own1 0 _ 0x1 rfl;have r1:Rep All H' (.ref a) (.cel a xs'):=r1;obtain⟨vs1,e1,r2⟩:=aNo (rp0.same s1) hx r1;have hk1:∀b ob,H1 b=aa ob->b≠a->H' b=aa ob:=λb ob e n=>k1 b ob e λz0=>by
      obtain⟨j,hj,ej⟩:=z0;have:j=0:=by simp[wV] at hj;lia
      subst this;simp at ej;exact n ej.symm
     obtain⟨E2,k2⟩:=(E.same s1).aR4 ho hσ hk1 e1 rfl r2 (by rw[R6 hx];exact hp');exact q v H' ((KU.same s1).trans k2) E2 (.set ho) (rn.mono λb hb=>s1.free hb)
   .exact bx h
  .exact bx h
 .exact bx h
end
end
noncomputable def xcf(f:FX):ae D->ae D->ae D->Res (ae D×ae D)
 |acc,[],ρ=>.ok (acc,ρ)
 |acc,x::xs,ρ=>do
  let p <- f (ρ++[x])
  if p.1.pure then xcf f (acc++[p.1]) xs p.2.dropLast else .bad
def aBp(it:FI)(f:FX):FX:=λρ=>do
 let xs <- it ρ
 if xs.2&&ϒ (xs.1.length<=lim) then (do
  let p <- xcf f [] xs.1 ρ
  .ok (.lst p.1,p.2)) else .bad
section
variable [KFrag]
section
variable {own:ah->aw} {X:Cx} {a b c e:Expr} {pos pos':ck} {fa:FE}
theorem aBq(ho:own i=ag)(hN:X.N[i]?=aa x)(hvi:Vis X.env.scope x)(hk:PE X k (gE fk rk))(hv:PE X value (gE fv rv))(hs:autoParam (dy value (aa (.Subscript (.Name x p1) k pos')) pos.line X.env=pure ak) Ω)(hd:autoParam (nDb x) Λ)(hcd:autoParam (nCd x) Λ) :
  PS X (.Assign [.Subscript (.Name x p1) k pos'] value pos) (tS own (YW i fk fv)):=by
 rintro Ψ s σ H D' I ⟨ρ,fl,E,h,q⟩;obtain⟨d,h0,h⟩:=a_ h;obtain⟨kd,h1,h2⟩:=a_ h;split at h2
 .rename_i xs kk hx;split at h2
  .rename_i hp;split at h2
   .rename_i j hj;cases h2;obtain⟨a,vs,hσ,e0,rr,hin,rp,_⟩:=HW E ho hx;have pn:ε (xs.set j d)=ag:=cL.mpr λy hy=>by
     rcases List.mem_or_eq_of_mem_set hy with hy|hy
     .exact cL.mp hin y hy
     .subst hy;exact hp
    have go:∀{v:V}{H2:Hp},bW H H2->Rep All H2 v d->D'.nx σ (upd H2 a (.lst (vs.set j v))):=λ{v H2} sm rv=>by
     have rn:bK All (upd H2 a (.lst (vs.set j v))) (vs.set j v) (xs.set j d):=((rr.same sm).set rv j).upd pn (sm _ _ e0) rfl;obtain⟨E2,k2⟩:=(E.same sm).aR4 ho hσ (λb ob e n=>by rw[aO n];exact e) aJ rfl (aBo (rp.same sm) hx aJ trivial rn) (by rw[R6 hx];exact pn);exact q _ _ ((KU.same sm).trans k2) E2
    refine B0 (thn (hv Ψ s σ H (λv H1=>bW H H1/\Rep All H1 v d) I ⟨ρ,d,E.er,h0,λv H1 s1 r1 _=>⟨s1,r1⟩⟩) λu1 t1 ⟨v,H1,I1,rv1,sm1,rp1⟩=>
     thn (aW hN hvi hd hcd Ψ t1 σ H1 (λw H2=>w=.ref a/\H2=H1) I1 ⟨_,hσ,rfl,rfl⟩) λu2 t2 ⟨xx,H2,I2,rx,ex,eH⟩=>?_) hs
    subst ex;rw[eH] at I2;refine thn (hk Ψ t2 σ _ (λw H3=>bW H1 H3/\w=.int kk) I2 ⟨ρ,_,E.er.same sm1,h1,λw H3 s3 r3 _=>⟨s3,by cases r3.inv;rfl⟩⟩) λu3 t3 ⟨y,H3,I3,ry,sm3,ey⟩=>?_
    subst ey;exact thn (set_list Ψ t3 σ H3 (.ref a) (.int kk) v u2 u3 u1 (λH4=>D'.nx σ H4) I3 rx ry rv1 ⟨a,vs,kk,j,rfl,rfl,(sm1.trans sm3) _ _ e0,by rw[rr.length];exact hj,go (sm1.trans sm3) (rp1.same sm3)⟩) λ_ t4 ⟨H4,I4,q4⟩=>⟨σ,H4,I4,q4⟩
   .exact bx h2
  .exact bx h2
 .exact bx h2
theorem nZ{a:al}{vs:ae V}(I:Inv X Ψ σ H s)(e:H a=aa (.lst vs)):∃o,Inv X Ψ σ (upd H a (.frz o (.lst vs))) s:=by
 obtain⟨its,n,r,ho,hz⟩:=I.lst e;refine⟨_,I.write (by rw[e];trivial) (.inl rfl) (λ_ _ _ q=>q) ⟨_,ho⟩ ⟨ho,hz,its,n,r,ho⟩⟩
theorem aBr(h:ys.all isI=ag):ε ys=ag:=cL.mpr λy hy=>by
 have:=ig.mp h y hy;cases y<;>first|rfl|cases this
theorem aHc:∀{xs r:ae D}{vs:ae V},aJj xs=.ok r->bK (New H) H' vs xs->∃b ws,H b=aj/\H' b=aa (.lst ws)/\ε r=ag/\(∃(k:ah)(ys:ae D),vs[k]?=aa (V.ref b)/\bK (New H) H' ws ys/\ys.all isI=ag)/\∀o,bK (λc=>H c=aj) (upd H' b (.frz o (.lst ws))) vs r
 |[],r,vs,h,_=>by exact bx h
 |x::xs,r,_,h,.cons rx t=>by
  by_cases hl:∃ys,x=.lst ys
  .obtain⟨ys,rfl⟩:=hl;simp only[aJj] at h;split at h
   .rename_i hp;rw[aS] at hp;cases h;have hpi:=aBr hp.1;obtain⟨b,ws,rfl,e,p,rr⟩:=rx.inv;have hne:∀ob,H' b=aa ob->Q_ ob=ag:=λob z=>by rw[e] at z;cases z;rfl
    refine⟨b,ws,p,e,by rw[ε,aS];exact⟨hpi,hp.2⟩,⟨0,ys,rfl,rr,hp.1⟩,λo=>.cons (.frz (.inl ⟨o,aJ⟩) ((wC hne rr hpi).bT hpi)) ((wC hne t hp.2).bT hp.2)⟩
   .exact bx h
  .have h':(if x.pure then (do let r <- aJj xs;.ok (x::r)) else .bad)=τ r:=by
    cases x<;>first|exact h|exact aT ⟨_,rfl⟩ hl
   split at h'
   .rename_i hp;obtain⟨r',h1,h2⟩:=a_ h';cases h2;obtain⟨b,ws,g1,g2,g3,⟨k,ys,g5,g6,g7⟩,g4⟩:=aHc h1 t;have hne:∀ob,H' b=aa ob->Q_ ob=ag:=λob z=>by rw[g2] at z;cases z;rfl
    exact⟨b,ws,g1,g2,by rw[ε,aS];exact⟨hp,g3⟩,⟨k+1,ys,by simpa using g5,g6,g7⟩,λo=>.cons ((HN hne rx hp).bT hp) (g4 o)⟩
   .exact bx h'
theorem aNp(ha:PE X a (gE fa ag)):PE X a (gE (aR3 fa) ag):=by
 rintro Ψ s σ H Q I ⟨ρ,d,E,h,q⟩;obtain⟨x,h1,h⟩:=a_ h;split at h
 .rename_i xs;obtain⟨r,h2,h⟩:=a_ h;cases h;refine thn (ha Ψ s σ H (λv H'=>bW H H'/\Rep (New H) H' v (.lst xs)) I ⟨ρ,_,E,h1,λv H' sm rr n=>⟨sm,n rfl⟩⟩) λu s' ⟨v,H',I',rv,sm,rn⟩=>?_
  obtain⟨a,vs,rfl,e,p,rr⟩:=rn.inv;obtain⟨b,ws,g1,g2,g3,⟨k,ys,g5,g6,g7⟩,g4⟩:=aHc h2 rr;have hab:a≠b:=λz=>by
   subst z;rw[e] at g2;cases g2;obtain⟨d,hd,rd⟩:=g6.at g5;have:=ig.mp g7 d (kP hd);cases d<;>first|(cases this;done)|(cases rd;done)
  obtain⟨o,I2⟩:=nZ I' g2;have s2:bW H (upd H' b (.frz o (.lst ws))):=λc oc hc=>by
   rw[aO (λz=>by subst z;rw[g1] at hc;cases hc)];exact sm c oc hc
  have e2:upd H' b (.frz o (.lst ws)) a=aa (.lst vs):=by rw[aO hab];exact e
  exact⟨.ref a,_,I2,rv,q _ _ s2 (.lst e2 trivial (g4 o).all) λ_=>.lst e2 p (g4 o)⟩
 .exact bx h
theorem ES.aU2(E:ES own H σ ρ)(k:KU own σ H σ H5)(E5:ES own H5 σ ρ5)(ns:NS own ρ ρ5)(hp:H p=aj)(e5:H5 p=aa (.lst vs)):ES own (upd H5 p o) σ ρ5/\KU own σ H σ (upd H5 p o):=by
 have k':KU own σ H σ (upd H5 p o):=λb ob e n=>⟨by rw[aO (bL e hp)];exact(k b ob e n).1,n⟩
 refine⟨⟨E5.len,λj hj=>?_,λj w hj hw=>?_⟩,k'⟩
 .obtain⟨w,h1,h2⟩:=E5.at_ j hj;refine⟨w,h1,λhoj=>?_⟩;rw[ns j hoj] at hj ⊢;obtain⟨w',h1',h2'⟩:=E.at_ j hj;rw[h1] at h1';cases h1';exact k'.rep E (h2' hoj)
 .obtain⟨b,ob,h1,h2,h3,h4,h5,h6⟩:=E5.own j w hj hw;subst h1;have hbp:b≠p:=λz=>by subst z;exact zZ E hp ⟨j,hj,hw⟩
  refine⟨b,ob,rfl,?_,h3,by rw[aO hbp];exact h4,h5,h6⟩;refine(h2.wV (P':=λc=>c=b) h3 rfl).keep (λc oc hc hq=>?_) λ_ _=>trivial
  rw[aO]
  .exact hc
  .intro z;subst z;rcases hq with hq|hq
   .exact hbp hq.symm
   .rw[e5] at hc;cases hc;cases hq
theorem ES.snoc(E:ES own H σ ρ)(ho:own σ.length=ak)(r:Rep (λa=>¬Own own σ a) H x d):ES own H (σ++[aa x]) (ρ++[d])/\∀a,Own own (σ++[aa x]) a↔Own own σ a:=by
 have hO:∀a,Own own (σ++[aa x]) a↔Own own σ a:=λa=>by
  constructor
  .rintro⟨i,hi,e⟩;by_cases hl:i<σ.length
   .exact⟨i,hi,by rw[eu hl] at e;exact e⟩
   .by_cases hq:i=σ.length
    .subst hq;rw[ho] at hi;cases hi
    .rw[fI 0x1] at e;rw[iu (by simp;lia)] at e;cases e
  .rintro⟨i,hi,e⟩;exact⟨i,hi,by rw[eu (dA.mp e).1];exact e⟩
 have hOf:(λa=>¬Own own (σ++[aa x]) a)=λa=>¬Own own σ a:=funext λa=>by rw[hO]
 refine⟨⟨by simp[E.len],λi hi=>?_,λi v hi hv=>?_⟩,hO⟩
 .rw[hOf];by_cases hl:i<σ.length
  .have e:(ρ++[d]).getD i .uD=ρ.getD i .uD:=by rw[cj,eu (by rw[<-E.len];exact hl),cj]
   rw[e] at hi ⊢;obtain⟨v,h1,h2⟩:=E.at_ i hi;exact⟨v,by rw[eu hl];exact h1,h2⟩
  .by_cases hq:i=σ.length
   .subst hq;have e:(ρ++[d]).getD σ.length .uD=d:=by rw[E.len];simp
    rw[e];exact⟨x,by simp,λ_=>r⟩
   .exfalso;apply hi;rw[cj,iu (by simp;rw[<-E.len];lia)];rfl
 .have hl:i<σ.length:=kh λhge=>by
   by_cases hq:i=σ.length
   .subst hq;rw[ho] at hi;cases hi
   .rw[iu (by simp;lia)] at hv;cases hv
  rw[eu hl] at hv;have e:(ρ++[d]).getD i .uD=ρ.getD i .uD:=by rw[cj,eu (by rw[<-E.len];exact hl),cj]
  rw[e];obtain⟨b,ob,h1,h2,h3,h4,h5,h6⟩:=E.own i v hi hv;refine⟨b,ob,h1,h2,h3,h4,h5,λj hj hs=>?_⟩;have hjl:j<σ.length:=kh λhge=>by
   by_cases hq:j=σ.length
   .subst hq;rw[ho] at hj;cases hj
   .rw[iu (by simp;lia)] at hs;cases hs
  exact h6 j hj (by rw[eu hjl] at hs;exact hs)
theorem ES.aNq(E:ES own H (σ++[x]) ρ)(hO:∀a,Own own (σ++[x]) a↔Own own σ a):ES own H σ ρ.dropLast:=by
 have hl:ρ.length=σ.length+1:=by rw[<-E.len];simp
 have gd:∀i,i<σ.length->ρ.dropLast.getD i .uD=ρ.getD i .uD:=λi hi=>by
  rw[cj,cj,CO,ao 0x1]
 have hOf:(λa=>¬Own own (σ++[x]) a)=λa=>¬Own own σ a:=funext λa=>by rw[hO]
 refine⟨by simp[hl],λi hi=>?_,λi v hi hv=>?_⟩
 .have hlt:i<σ.length:=kh λhge=>hi (by rw[cj,iu (by simp;lia)];rfl)
  rw[gd i hlt] at hi ⊢;obtain⟨v,h1,h2⟩:=E.at_ i hi;rw[hOf] at h2;exact⟨v,by rw[eu hlt] at h1;exact h1,h2⟩
 .have hlt:i<σ.length:=(dA.mp hv).1;rw[gd i hlt];obtain⟨b,ob,h1,h2,h3,h4,h5,h6⟩:=E.own i v hi (by rw[eu hlt];exact hv);exact⟨b,ob,h1,h2,h3,h4,h5,λj hj hs=>h6 j hj (by rw[eu (dA.mp hs).1];exact hs)⟩
theorem YX{K:bi}(ho:own n=ak)(hn:σ.length=n)(h:gX own (aBp it f) σ H Q) :
  K7 (gI K it) (fG n) (λ_ H Q=>Q ag H) (gX own f) 1 σ H Q:=by
 obtain⟨ρ,d,ρ',E,h,q⟩:=h;obtain⟨⟨items,kk⟩,h1,h⟩:=a_ h;split at h
 .rename_i hk;rw[aS] at hk;obtain⟨⟨ys,ρf⟩,h2,h⟩:=a_ h;cases h;refine⟨ρ,items,kk,E.er,h1,λJ H1 s1 _ hJ p hp=>?_⟩;have hp0:H p=aj:=s1.free hp;have hJ1:ItQ K (λa=>¬Own own σ a) J H1 items:=(hJ hk.1).keep (λ_ _ e _=>e) λa ha=>zZ E ha
  have E1:ES own H1 σ ρ:=E.same s1;refine⟨λi n' vs H'=>n'=items.length-i/\i<=items.length/\H' p=aa (.lst vs)/\KU own σ H1 σ H'/\∃acc ρc,acc.length<=i/\ε acc=ag/\bK (λ_=>cb) H' vs acc/\ES own H' σ ρc/\NS own ρ ρc/\xcf f acc (items.drop i) ρc=.ok (ys,ρf),⟨items.length,?_⟩,?_⟩
  .exact⟨rfl,ef _,aJ,.same (bW.upd hp),[],ρ,ef _,rfl,.nil,E1.same (bW.upd hp),.refl,h2⟩
  .rintro i n' vs H' ⟨rfl,hi,hH,ku,acc,ρc,hal,hpa,racc,Ec,ns,hf⟩;refine⟨hH,?_⟩;have hJ':ItQ K (λa=>¬Own own σ a) J H' items:=hJ1.ku ku E1;rcases lq i items.length with hlt|hge
   .refine .inr ?_;have e:items[i]?=aa items[i]:=dq hlt;obtain⟨g1,g2⟩:=hJ'.go e;have hl1:items.length<=lim:=d5 hk.2;refine⟨g1,?_,λx H2 hy=>?_⟩
    .rw[racc.length];exact oI hal (dQ hlt (dj hl1 (by rw[dv];decide)))
    .obtain⟨sH,rx⟩:=g2 x H2 hy;have es:(σ++cq 1 aj).set n (aa x)=σ++[aa x]:=by
      subst hn;simp
     show Ext _ ((σ++cq 1 aj).set n (aa x))/\_;rw[es];rw[ii hlt] at hf;obtain⟨⟨y,ρ2⟩,hfy,hf⟩:=a_ hf;split at hf
     .rename_i hpy;have Ec2:=Ec.same sH;obtain⟨E2,hO⟩:=Ec2.snoc (by rw[hn];exact ho) rx;refine⟨⟨by simp,λj v hv=>?_⟩,?_⟩
      .by_cases hj:j<σ.length
       .rw[eu hj] at hv ⊢;exact hv
       .rw[fI 0x1,jy] at hv;split at hv<;>cases hv
      .dsimp only;rw[ao rfl];refine⟨_,y,ρ2,E2,hfy,λw H5 k5 E5 ns5 r5=>?_⟩;have k5':KU own σ H2 σ H5:=λb ob eb nb=>⟨(k5 b ob eb (by rw[hO];exact nb)).1,nb⟩
       have hpn:¬Own own σ p:=zZ E hp0;have hp5:H5 p=aa (.lst vs):=(k5' p _ (sH p _ hH) hpn).1;have E5':ES own H5 σ ρ2.dropLast:=E5.aNq hO;have hlc:ρc.length=σ.length:=Ec.len.symm;have nsc:NS own ρ ρ2.dropLast:=λj hj=>by
        by_cases hjl:j<σ.length
        .have hl2:ρ2.length=σ.length+1:=by rw[<-E5.len];simp
         rw[<-ns j hj,cj,CO,ao 0x1,<-cj,ns5 j hj,cj,eu 0x1,<-cj]
        .rw[cj,iu (by rw[<-E5'.len];lia),cj,iu (by rw[<-E.len];lia)]
       have ku5:KU own σ H1 σ H5:=ku.trans ((KU.same sH).trans k5');obtain⟨E6,k6⟩:=E1.aU2 ku5 E5' nsc hp hp5;refine⟨hp5,items.length-(i+1),by lia,rfl,hlt,aJ,k6,acc++[y],ρ2.dropLast,?_,?_,?_,E6,nsc,hf⟩
       .rw[bq,eB];lia
       .rw[jQ,hpa];simp[ε,hpy]
       .have hpk:sJ (λ_=>cb) H2 H5:=λc oc hc hq=>by
         refine(k5' c oc hc λnn=>?_).1;obtain⟨o',e',hm⟩:=Ec2.live nn;rw[hc] at e';cases e';rcases hq with hq|hq
         .exact hq
         .rw[hm] at hq;cases hq
        have r1:bK (λ_=>cb) H5 vs acc:=(racc.same sH).keep hpk λ_ z=>z
        have r2:bK (λ_=>cb) H5 (vs++[w]) (acc++[y]):=r1.snoc (r5.bT hpy);exact r2.keep (zR hp5 rfl) λ_ z=>z
     .exact bx hf
   .refine .inl ⟨hJ'.stop hge,?_⟩;rw[ik hge] at hf;cases hf;exact q _ _ ((KU.same s1).trans ku) Ec ns (.lst hH hp0 (racc.mono λ_ z=>z.elim))
 .exact bx h
end
section
theorem HX(ha:PE X a (gE fa ra)):PE X a (gE (bPu fa) ag):=PE.imp ha λσ H Q z0=>by
 obtain⟨ρ,d,E,h,q⟩:=z0;obtain⟨x,h1,h⟩:=a_ h;split at h
 .rename_i hp;cases h;exact⟨ρ,_,E,h1,λv H' s r _=>q v H' s r λ_=>r.bT hp⟩
 .exact bx h
end
end
noncomputable def forL(a i:ah)(t:D->ae D->Res (ae D))(body:FS):ah->ah->ae D->Res Fl
 |0,_,_=>.bad
 |n+1,k,ρ=>match ρ.getD i .uD with
  |.cel a' ys=>if a'=a then (match ys[k]? with
   |none=>.ok (.nx ρ)
   |some x=>do
    let ρ1 <- t x ρ
    let r <- body ρ1
    match r with
    |.nx ρ'=>forL a i t body n (k+1) ρ'
    |.ct ρ'=>forL a i t body n (k+1) ρ'
    |_=>.bad) else .bad
  |_=>.bad
open Classical in
def M7(i:ah)(t:D->ae D->Res (ae D))(body:FS):FS:=λρ=>match ρ.getD i .uD with
 |.lst xs=>if h:∃p:ae D×ae D,i<p.1.length/\∀a,forL a i t body 10000 0 (ρ.set i (.cel a xs))=.ok (.nx (p.1.set i (.cel a p.2))) then .ok (.nx (h.choose.1.set i (.lst h.choose.2))) else .bad
 |_=>.bad
theorem aJn{i:ah}{t:D->ae D->Res (ae D)}{body:FS}{ρ xs:ae D}{r:Fl}(hx:ρ.getD i .uD=.lst xs)(h:M7 i t body ρ=.ok r):∃(ρ' xs':ae D),i<ρ'.length/\r=.nx (ρ'.set i (.lst xs'))/\∀a,forL a i t body 10000 0 (ρ.set i (.cel a xs))=.ok (.nx (ρ'.set i (.cel a xs'))):=by
 unfold M7 at h;rw[hx] at h;dsimp only at h;split at h
 .rename_i e;cases h;exact⟨_,_,e.choose_spec.1,rfl,e.choose_spec.2⟩
 .exact bx h
theorem aJo{i:ah}{t:D->ae D->Res (ae D)}{body:FS}{ρ xs ρ' xs':ae D}(hx:ρ.getD i .uD=.lst xs)(hl:i<ρ'.length)(h:∀a,forL a i t body 10000 0 (ρ.set i (.cel a xs))=.ok (.nx (ρ'.set i (.cel a xs')))):M7 i t body ρ=.ok (.nx (ρ'.set i (.lst xs'))):=by
 have e:∃p:ae D×ae D,i<p.1.length/\∀a,forL a i t body 10000 0 (ρ.set i (.cel a xs))=.ok (.nx (p.1.set i (.cel a p.2))):=⟨(ρ',xs'),hl,h⟩
 have q:M7 i t body ρ=.ok (.nx (e.choose.1.set i (.lst e.choose.2))):=by
  unfold M7;rw[hx];dsimp only;rw[wo e]
 rw[q];obtain⟨z1,z2⟩:=e.choose_spec;have z:=z2 0;rw[h 0] at z;injection z with z
 injection z with z
 have g1:=cf (λl:ae D=>l.getD i .uD) z;simp only[cj,eD hl,eD z1,zo] at g1;injection g1 with _ g1
 have g2:=cf (λl:ae D=>l.set i (.lst xs')) z;simp only[CU] at g2;rw[<-g1,<-g2]
section
variable [KFrag]
section
variable {own:ah->aw} {X:Cx} {pos:ck}
theorem ES.cel{H:Hp}{σ:L2.St}{ρ:ae D}{i:ah}{a:al}{d:D}(E:ES own H σ ρ)(ho:own i=ag)(hi:σ[i]?=aa (aa (.ref a)))(r:Rep All H (.ref a) d)(hin:inner d=ag):ES own H σ (ρ.set i d):=by
 obtain⟨a',o,e,_,_,h1,h2,_⟩:=E.own i _ ho hi;cases e;exact(E.aR4 (H':=H) (o:=o) (d:=d) ho hi (λb ob e _=>e) h1 h2 r hin).1
theorem aNr{tg:Expr}{i:ah}{x:Str}(hN:X.N[i]?=aa x)(hv:Vis X.env.scope x)(hd:autoParam (nDb x) Λ)(hcd:autoParam (nCd x) Λ) :
  PI X tg (.Name x pos) (λσ H R=>∃a vs,σ[i]?=aa (aa (.ref a))/\H a=aa (.lst vs)/\R (Itl X.K a) H):=by
 rintro Ψ s σ H R I ⟨a,vs,hσ,e,q⟩;refine thn (aW (pos:=pos) hN hv hd hcd Ψ s σ H (λw H1=>w=.ref a/\H1=H) I ⟨_,hσ,rfl,rfl⟩) λu s1 ⟨w,H1,I1,ru,e1,e2⟩=>?_
 subst e1 e2;cases ru;obtain⟨its,rv,p,hz⟩:=I1.list (.inl (.inl e));refine mM p.isList ?_;refine⟨s1.heap.objs.size,[s1.heap.objs.size],_,_,H1,rfl,I1.kept (t':=s1.toks) λb o e=>bX _ e,J8 a _,⟨_,dh _ rfl,rfl,rfl⟩,λb hb=>?_,q⟩;have e:b=s1.heap.objs.size:=by simpa using hb
 subst e;exact I1.aLj (bt _) (I1.hok.fresh (bt _))
theorem aJp{tg:Expr}{body:ae bz}{g:TG}{t:D->ae D->Res (ae D)}{i:ah}{x:Str}{px:ck}{fb:FS}(ho:own i=ag)(hp:ju (ay X.prog X.w) X.A X.env X.xe)(hc:X.calm=ag)(hN:X.N[i]?=aa x)(hv:Vis X.env.scope x)(ht:TgS own g t)(hg:PG X tg g)(hb:PSs X body (tS own fb))
 (hs:∀z,en (.Name x px) X.env z=pure z:=by intro _;rfl)(hd:autoParam (nDb x) Λ)(hcd:autoParam (nCd x) Λ):PS X (.For tg (.Name x px) body [] pos) (tS own (M7 i t fb)):=PS.imp (DN hp hc (aNr hN hv hd hcd) hg hb hs) λD' σ H z0=>by
 obtain⟨ρ,fl,E,h,q⟩:=z0;have hx:∃xs,ρ.getD i .uD=.lst xs:=by
  unfold M7 at h;split at h
  .exact⟨_,by assumption⟩
  .exact bx h
 obtain⟨xs,hx⟩:=hx;obtain⟨ρp,xs',hlp,rfl,hf⟩:=aJn hx h;obtain⟨a,vs,hσ,e0,rr,hin,rp,_⟩:=HW E ho (xs:=xs) (by rw[hx];rfl);refine⟨a,vs,hσ,e0,?_⟩;have E0:ES own H σ (ρ.set i (.cel a xs)):=E.cel ho hσ (.cel e0 trivial rr) hin;refine⟨λk m σ' H'=>∃ρ',ES own H' σ' ρ'/\forL a i t fb m k ρ'=.ok (.nx (ρp.set i (.cel a xs')))/\kS own D' σ' H' (.nx (ρp.set i (.lst xs'))),⟨10000,_,E0,hf a,q⟩,?_⟩;rintro k m σ' H' ⟨ρ',E',hf',q'⟩;cases m with
 |zero=>exact bx hf'
 |succ m=>
  rw[forL] at hf';split at hf'
  .rename_i a' ys hy;split at hf'
   .rename_i ea;subst ea;obtain⟨ws,hσ',eb⟩:=jU E' hy;obtain⟨b,o,eb2,rb,hin',hb1,hb2,_⟩:=E'.own i _ ho hσ';cases eb2;rw[hy] at rb hin';obtain⟨vs',e1,_,rr'⟩:=aBm rb rfl;split at hf'
    .rename_i hk;injection hf' with hf'
     injection hf' with hf'
     subst hf';refine .inl ⟨⟨vs',.inl (.inl e1),by rw[rr'.length];exact Cs.mp hk⟩,?_⟩;have g1:(ρp.set i (D.cel a' xs')).getD i .uD=.cel a' xs':=by rw[cj,eD hlp];rfl
     rw[g1] at hy;cases hy;have E2:ES own H' σ' ((ρp.set i (D.cel a' xs')).set i (.lst xs')):=E'.cel ho hσ' (.lst e1 trivial rr') hin';rw[CU] at E2;exact q' σ' H' (λb o e n=>⟨e,n⟩) E2
    .rename_i dx hk;refine .inr ?_;obtain⟨v,h1,h2⟩:=rr'.get hk;have pdx:dx.pure=ag:=cL.mp hin' dx (kP hk);obtain⟨ρ1,g1,hf2⟩:=a_ hf';obtain⟨r,g2,hf3⟩:=a_ hf2;refine⟨⟨vs',v,.inl (.inl e1),h1⟩,λσ2 H2=>∃ρ',ES own H2 σ2 ρ'/\forL a' i t fb m (k+1) ρ'=.ok (.nx (ρp.set i (.cel a' xs')))/\kS own D' σ2 H2 (.nx (ρp.set i (.lst xs'))),λσ2 H2 w=>⟨m,ma m,w⟩,λx H2 hy2=>?_⟩;obtain⟨rfl,hyl⟩:=hy2;have hv2:=hyl vs' (.inl (.inl e1));rw[h1] at hv2;cases hv2;refine ht v dx ρ' ρ1 σ' H2 _ E' (h2.bT pdx) g1 λσ2 E2 hO=>?_
     have k0:KU own σ' H2 σ2 H2:=λa o e n=>⟨e,by rw[hO];exact n⟩
     refine⟨ρ1,r,E2,g2,?_⟩;cases r with
     |nx ρ2=>exact λσ3 H3 k3 E3=>⟨ρ2,E3,hf3,(q'.step k0).step k3⟩
     |ct ρ2=>exact λσ3 H3 k3 E3=>⟨ρ2,E3,hf3,(q'.step k0).step k3⟩
     |bk ρ2=>exact bx hf3
     |rt d=>exact bx hf3
   .exact bx hf'
  .exact bx hf'
end
end
noncomputable def aJq(a:FT)(b:FXT):FXT:=λρ=>do
 let k <- a ρ
 if k then b ρ else .ok (ak,ρ)
def aQ3(f:FX):ae D->Res (ae D×ae D):=λρ=>do
 let p <- f ρ
 let r <- jN [p.1]
 .ok (r.1,p.2)
def aF5(it:ae D->Res (ae D×ae D))(t:D->ae D->Res (ae D))(body:FS):FS:=λρ=>do
 let p <- it ρ
 xV t body p.1 p.2
section
variable [KFrag]
section
variable {own:ah->aw} {a b:Expr}
theorem aJr(ha:PT X a (gXT own xb)):PW X (.BoolOp .And [a] pos) (gXT own xb):=Z1 ha
theorem aNs{rest:ae Expr}(ha:PT X a (gT ga))(hb:PW X (.BoolOp .And (b::rest) pos) (gXT own xb)):PW X (.BoolOp .And (a::b::rest) pos) (gXT own (aJq ga xb)):=PW.imp (aGu ha hb) λσ H Q z0=>by
 obtain⟨ρ,d,ρ',E,h,q⟩:=z0;obtain⟨k,h1,h2⟩:=a_ h;refine⟨ρ,k,E.er,h1,λH' s=>?_⟩;cases k with
 |true=>
  rw[ao rfl];rw[ao rfl] at h2;exact⟨ρ,d,ρ',E.same s,h2,λH2 k2 E2 n2=>q H2 ((KU.same s).trans k2) E2 n2⟩
 |false=>
  rw[ax 0x2];rw[ax 0x2] at h2;cases h2;exact q H' (.same s) (E.same s) .refl
noncomputable def gIX(K:bi)(own:ah->aw)(f:ae D->Res (ae D×ae D)):TI:=λσ H R=>∃ρ items ρ',ES own H σ ρ/\f ρ=.ok (items,ρ')/\∀J H1,KU own σ H σ H1->ES own H1 σ ρ'->ItQ K (λa=>¬Own own σ a) J H1 items->R J H1
theorem aNt(hg:Gl X "range")(hm:X.mg "range"=aj)(ha:PE X a (gX own xa))(hs:autoParam (b5 [a] X.env=[(ak,eval a X.env)]) Ω):PI X tg (.Call (.Name "range" p) [a] [] pos) (gIX X.K own (aQ3 xa)):=
 PI.imp (J9 hg hm (aY ha dC hs) hs) λσ H R z0=>by
 obtain⟨ρ,items,ρ',E,h,q⟩:=z0;obtain⟨p,h1,h⟩:=a_ h;obtain⟨r,h2,h⟩:=a_ h;cases h;refine⟨ρ,p.1,p.2,E,h1,λv H1 k1 E1 n1 r1=>?_⟩;unfold jN at h2;split at h2
 .rename_i n he;split at h2
  .rename_i hb;cases h2;obtain⟨b1,b2⟩:=DX hb;injection he with he _
   rw[he] at r1;cases r1.inv;exact⟨_,rfl,b1,b2,q _ H1 k1 E1 (.rng 0 _ rfl rfl)⟩
  .exact bx h2
 .exact bx h2
theorem aNu(hp:ju (ay X.prog X.w) X.A X.env X.xe)(hc:X.calm=ag)(hi:PI X tg iter (gIX X.K own it))(ht:TgS own g t)(hg:PG X tg g)(hb:PSs X body (tS own fb))
 (hs:∀x,en iter X.env x=pure x:=by intro _;rfl):PS X (.For tg iter body [] pos) (tS own (aF5 it t fb)):=PS.imp (DN hp hc hi hg hb hs) λD' σ H z0=>by
 obtain⟨ρ,fl,E,h,q⟩:=z0;obtain⟨⟨items,ρ1⟩,h1,h2⟩:=a_ h;exact⟨ρ,items,ρ1,E,h1,λJ H1 k1 E1 hJ=>HB ht E1 hJ h2 (q.step k1)⟩
end
end
def bOw(i:ah):FE:=λρ=>do
 let d <- cD i ρ
 if d.UW then .ok d else .bad
def VR(f:FA):FS:=λρ=>do
 let ds <- f ρ
 if ϒ (ds.length<=lim) then .ok (.rt (.tup (.lst ds::ρ))) else .bad
def aF6(f:FX)(is:ae ah):FS:=λρ=>do
 let p <- f ρ
 match p.1 with
 |.lst xs=>if ϒ (xs.length=is.length) then .ok (.nx (Q8 is xs p.2)) else .bad
 |_=>.bad
variable [KFrag]
section
variable {prog:bS} {w:bu} {A:b6} {E:am->au->Prop} {s:au}
theorem M8(hne:t≠it):∀(n i:ah)(s:au)(Q:ae am->au->Prop),s.heap.IsListIter it t i->s.heap.IsList t items->i+n<=items.size->
  (∀h',h'.IsListIter it t (i+n)->eR it s.heap h'->Q ((items.toList.drop i).take n) {s with heap:=h'})->ϑ (ay prog w) A (draw (.ref it) n) Q E s
 |0,i,s,Q,hit,_,_,hQ=>by
  show ϑ _ _ (pure []) Q E s;exact bc (by simpa using hQ s.heap hit (CA ..))
 |n+1,i,s,Q,hit,ht,hle,hQ=>by
  have hlt:i<items.size:=by lia
  have keep:∀{h h':aI},h.IsList t items->eR it h h'->h'.IsList t items:=λ{h h'} ⟨o,e,r⟩ sb=>⟨o,(sb.2 t hne).trans e,r⟩
  show ϑ _ _ (iS (.ref it) >>= _) Q E s;refine aq (sR hit ht (x:=items[i]) (by simp[hlt]) λh₁ hit₁ hs₁=>?_);refine aq (eL (M8 hne n (i+1) _ _ hit₁ (keep ht hs₁) 0x1 λh₂ hit₂ hs₂=>bc ?_));have hd:items.toList.drop i=items[i]::items.toList.drop (i+1):=by simp[ii,hlt]
  have:=hQ h₂ (by rw[show i+(n+1)=i+1+n by lia];exact hit₂) (hs₁.trans hs₂);rw[hd,CY] at this;exact this
theorem R8(hh:A.handled=aj)(ht:s.heap.IsList t items)
 (hn:targets.length=items.size)(hstar:targets.findIdx? (·.1)=aj)
 (h:∀h',xk s.heap.objs.size s.heap h'->ϑ (ay prog w) A (A8 (targets.map (·.2)) items.toList) Q E {s with heap:=h'}) :
  ϑ (ay prog w) A (unpack (.ref t) targets) Q E s:=by
 have hlt:t≠s.heap.objs.size:=by obtain⟨o,ho,_⟩:=ht;exact cy (bE ho)
 have push:∀o,(s.heap.push o).IsList t items:=λo=>let ⟨o',e,r⟩:=ht;⟨o',bX _ e,r⟩
 unfold unpack;rw[hn,hstar];refine aq (eL ?_);unfold unpackItems;refine aq ?_;unfold notIterableAtAll;refine aq (lu ht.typeIs PySem.F.slot_list_iter.lookup ?_);refine bc ?_;simp only[i5,gf];refine aq (eL (mM ht ?_));refine aq (eL (M8 hlt items.size 0 _ _ ⟨_,dh _ rfl,rfl,rfl⟩ (push _) 0x1 λh₁ hit₁ hs₁=>?_));have hall:C0 items.size (C1 0 items.toList)=items.toList:=by
  rw[sg];exact sh 0x2
 rw[hall];rw[ax 0x2];have ht₁:h₁.IsList t items:=let ⟨o,e,r⟩:=push {cls:=.type "list_iterator",data:=.fields #[.ref t,.int 0 0]};⟨o,(hs₁.2 t hlt).trans e,r⟩
 refine aq (eL (s0 hh hit₁ ht₁ 0x2 λh₂ he₂=>?_));simp only[Option.isSome_none,i5,gf];exact bc (h h₂ λb o hb e=>he₂ b o hb (hs₁.extBut b o hb (bX _ e)))
end
section
variable {X:Cx} {own:ah->aw} {e:Expr} {pos pos':ck} {fe:FE} {xe:FX}
noncomputable def aNv(K:bi)(n:ah)(t:TGs):TG:=λv σ H Q=>∃a xs,v=.ref a/\SqL K H a xs/\xs.length=n/\t xs σ H Q
theorem aJs(hc:X.calm=ag)(h:PGs X es t)
 (hn:autoParam ((jd es X.env).length=n) Ω)(hst:autoParam ((jd es X.env).findIdx? (·.1)=aj) Ω):PG X (.Tuple es k pos) (aNv X.K n t):=by
 intro Ψ s σ H v u Q I r hw;obtain⟨a,xs,e1,hq,hl,hw⟩:=hw;subst e1;cases r;obtain⟨its,rv,ht,hz⟩:=I.list hq;rw[assign_Tuple];refine aq (BU (R8 (I.ok.hd hc) ht.isList (by simp[hn,<-hl,rv.length]) hst λh' hx=>?_));have I1:Inv X Ψ σ H {s with heap:=h'}:=I.kept λb o e=>hx b o (cy (bE e)) e
 exact h Ψ _ σ H xs _ Q I1 (by simpa using rv) hw
def RP(own:ah->aw)(σ:L2.St)(H:Hp)(ρ:ae D)(a:al):Prop:=(Own own σ a\/H a=aj)/\∀i b xs,ρ.getD i .uD=.cel b xs->a≠b
theorem RP.same(s:bW H H')(h:RP own σ H' ρ a):RP own σ H ρ a:=⟨h.1.imp id s.free,h.2⟩
theorem aHd(E:ES own H σ ρ)(h:H a=aj):RP own σ H ρ a:=⟨.inr h,λi b xs hb z=>by
 obtain⟨vs,_,e⟩:=jU E hb;subst z;rw[h] at e;cases e⟩
noncomputable def gAR(own:ah->aw)(f:FA):TA:=λσ H Q=>∃ρ ds,ES own H σ ρ/\f ρ=.ok ds/\∀vs H',bW H H'->bK (RP own σ H ρ) H' vs ds->Q vs H'
theorem aNw:PA X [] (gAR own aU):=PA.imp dC λσ H Q z0=>by obtain⟨ρ,ds,E,h,q⟩:=z0;cases h;exact q [] H (bW.refl H) .nil
theorem aBs(ho:own i=ag)(hN:X.N[i]?=aa x)(hv:Vis X.env.scope x)(hes:PA X es (gAR own f))(hd:autoParam (nDb x) Λ)(hcd:autoParam (nCd x) Λ)(hs:autoParam (b5 (.Name x pos::es) X.env=(ak,eval (.Name x pos) X.env)::b5 es X.env) Ω):PA X (.Name x pos::es) (gAR own (aC (bOw i) f)):=PA.imp (aY (aW hN hv hd hcd) hes hs) λσ H Q z0=>by
 obtain⟨ρ,ds,E,h,q⟩:=z0;obtain⟨y,h1,h⟩:=a_ h;obtain⟨xs,h2,h⟩:=a_ h;cases h;obtain⟨d,h3,h1⟩:=a_ h1;split at h1
 .rename_i hc;cases h1;obtain⟨v,hv,r,e⟩:=E.er.var h3;obtain⟨a,o,rfl,r2,hin,_,_,huq⟩:=E.own i v ho hv;rw[e] at hin;have hp:RP own σ H ρ a:=⟨.inl ⟨i,ho,hv⟩,λj b xs hb z=>by
   obtain⟨vs,hj,eb⟩:=jU E hb;subst z;cases hoj:own j with
   |true=>
    have:=huq j hoj hj;subst this;rw[hb] at e;subst e;cases hc
   |false=>
    obtain⟨w,hw,hr⟩:=E.at_ j (by rw[hb];intro z;cases z);have r3:=hr hoj;rw[hb] at r3;obtain⟨_,rfl,e,p,r⟩:=r3.inv;exact p ⟨i,ho,hv⟩⟩
  exact⟨_,hv,ρ,xs,E,h2,λvs H2 s2 r2=>q _ _ s2 (.cons ((r.wV hin hp).same s2) r2)⟩
 .exact bx h1
theorem aNx(he:PE X e (gE fe ag))(hes:PA X es (gAR own f))(hs:autoParam (zSE X e es) Ω):PA X (e::es) (gAR own (aC fe f)):=PA.imp (aY he hes hs) λσ H Q z0=>by
 obtain⟨ρ,ds,E,h,q⟩:=z0;obtain⟨y,h1,h⟩:=a_ h;obtain⟨xs,h2,h⟩:=a_ h;cases h;exact⟨ρ,_,E.er,h1,λv H1 s1 r1 n1=>⟨ρ,xs,E.same s1,h2,λvs H2 s2 r2=>q _ _ (s1.trans s2) (.cons (((n1 rfl).mono λa ha=>aHd E ha).same s2) (r2.mono λa ha=>ha.same s1))⟩⟩
theorem aF7(h:PA X es (gAR own f))(hx:autoParam (own rtX=ag) Ω):PS X (.Return (aa (.List es pos')) pos) (tS own (VR f)):=PS.imp (sS (J_ h)) λD σ H z0=>by
 obtain⟨ρ,fl,E,h,q⟩:=z0;obtain⟨ds,h1,h2⟩:=a_ h;split at h2
 .rename_i hl;cases h2;refine⟨ρ,ds,E,h1,λvs H1 s1 r1=>⟨by rw[r1.length];exact lY hl,λp hp=>?_⟩⟩;have s2:bW H1 (upd H1 p (.lst vs)):=bW.upd hp;have hpH:H p=aj:=s1.free hp;exact kRt.new q hx _ σ _ (.same (s1.trans s2)) (E.same (s1.trans s2)) (.lst aJ (aHd E hpH) (r1.same s2))
 .exact bx h2
theorem aNy(ho:∀i∈is,own i=ak)(he:PE X e (gX own xe))(hg:PG X (.Tuple es k pt) (aNv X.K is.length (gIx is)))(hs:autoParam (A9 [.Tuple es k pt] e pos.line X.env=pure ak) Ω)(hw:autoParam (Ba [.Tuple es k pt] e X.env=pure aj) Ω)
 (h1:autoParam ((jd [.Tuple es k pt] X.env).map (·.2)=[kG (.Tuple es k pt) X.env]) Ω):PS X (.Assign [.Tuple es k pt] e pos) (tS own (aF6 xe is)):=PS.imp (oE he hg hs hw h1) λD' σ H z0=>by
 obtain⟨ρ,fl,E,h,q⟩:=z0;obtain⟨p,h1,h2⟩:=a_ h;refine⟨ρ,p.1,p.2,E,h1,λv H1 k1 E1 n1 r=>?_⟩;split at h2
 .rename_i xs hxs;split at h2
  .rename_i hl;cases h2;have hl':=d5 hl;rw[hxs] at r;have r2:=RQ E r;obtain⟨a,vs,rfl,sq,rr⟩:=r2.m_;refine⟨a,vs,rfl,sq,by rw[rr.length];exact hl',RN _ _ _ (by rw[rr.length];exact hl') ?_⟩;obtain⟨E2,hO⟩:=ES.sets ho E1 rr;exact q _ H1 (k1.trans λa o e n=>⟨e,by rw[hO];exact n⟩) E2
  .exact bx h2
 .exact bx h2
end
end Mi
namespace Mi
open PySem PySem.Spec
namespace Rv
theorem YZ:la (.type "tuple") "__reversed__"=pure aj:=by rw[i9,ja];kernel_rfl
theorem Y0:la (.type "reversed") "__len__"=pure aj:=by rw[i9,ja];kernel_rfl
theorem slot_next:lf "reversed" "__next__" "reversed.__next__":=
 .of (owner:= "reversed") (n:= "__next__") (by rw[i9,ja];kernel_rfl) 0x6 0x6 0x6
  (by first|exact .inl 0x6|exact .inr 0x6) (by rw[nB];kernel_rfl)
theorem z6:lf "reversed" "__length_hint__" "reversed.__length_hint__":=
 .of (owner:= "reversed") (n:= "__length_hint__") (by rw[i9,ja];kernel_rfl) 0x6 0x6 0x6
  (by first|exact .inl 0x6|exact .inr 0x6) (by rw[nB];kernel_rfl)
theorem M9:lf "reversed" "__iter__" "reversed.__iter__":=
 .of (owner:= "reversed") (n:= "__iter__") (by rw[i9,ja];kernel_rfl) 0x6 0x6 0x6
  (by first|exact .inl 0x6|exact .inr 0x6) (by rw[nB];kernel_rfl)
theorem entry_next:nj nt "reversed.__next__"=aa dz.«reversed.__next__»:=zS 0x8
theorem Y4:nj nt "reversed.__length_hint__"=aa dz.«reversed.__length_hint__»:=zS 0x8
theorem Y5:nj nt "reversed.__iter__"=aa dz.«dict_keyiterator.__iter__»:=
 zD (id':= "dict_keyiterator.__iter__") 0x8 (by first|rfl|decide +kernel|(unfold String.splitOn;simp +decide [String.splitOnAux])) 0x6 0x8
theorem owner:Ea.lookup (String.ofList ['d','e','s','r','e','v','e','r'].reverse)=aa Eb:=by kernel_rfl
theorem args_next(a:am):nE "reversed.__next__" ⟨[a],[]⟩:=by
 unfold nE;rw[Aq (n:=['_','_','t','x','e','n','_','_']) 0x8 owner];kernel_rfl
theorem aBt(a:am):nE "reversed.__iter__" ⟨[a],[]⟩:=by
 unfold nE;rw[Aq (n:=['_','_','r','e','t','i','_','_']) 0x8 owner];kernel_rfl
theorem aBu(a:am):nE "reversed.__length_hint__" ⟨[a],[]⟩:=by
 unfold nE;rw[Aq (n:=['_','_','t','n','i','h','_','h','t','g','n','e','l','_','_']) 0x8 owner];kernel_rfl
theorem aBv:lf "reversed" "__init__" "object.__init__":=
 .of (owner:= "object") (n:= "__init__") (by rw[i9,ja];kernel_rfl) 0x6 0x6 0x6
  (by first|exact .inl 0x6|exact .inr 0x6) (by rw[nB];kernel_rfl)
theorem called:TypeCalled "reversed" "reversed.__new__" "object.__init__":=
 ⟨by decide +kernel,by decide +kernel,⟨_,_,PySem.F.mro_reversed⟩,PySem.F.made_reversed,by decide +kernel,by rw[nB];kernel_rfl,aBv⟩
noncomputable def obj(t:al)(i:ai):bn:={cls:=.type "reversed",data:=.fields #[.ref t,cz i]}
theorem aBw(t:al)(items:bp am)(n:ah)(dct:ar al)(sl:bp (ar am))(hz:(items.size:ai)<2 ^ 62) :
  kl (dz.«reversed.__new__» ⟨[.type "reversed",.ref t],[]⟩) (λ_ R s=>s.heap.get? t=aa {cls:=.type "tuple",dict:=dct,data:=.seq items n,slots:=sl}/\
   ∀tk,R (.ok (.ret (.ref s.heap.objs.size))) {s with heap:=s.heap.push (obj t ((items.size:ai)-1)),toks:=tk}):=
 .of_wp λprog w A R s h=>by
  obtain⟨hp,g,d,tk,os⟩:=s;obtain⟨hl,h⟩:=h;have hT:(Shared.mk hp g d tk os).TypeIs (.ref t) "tuple":=⟨_,hl,rfl⟩
  unfold dz.«reversed.__new__»;refine aq (gN (newClass_reversed _) ?_)
  try dsimp only
  refine aq (gN (by first|rfl|kernel_rfl) ?_);refine aq (gN (by first|rfl|kernel_rfl) ?_)
  try dsimp only
  refine aq (lu hT YZ ?_)
  try dsimp only
  refine aq ?_;refine aq (xt (b:=ak) hT (by rw[nB];kernel_rfl) ?_);refine si (λhab=>aT hab 0x4) (λ_=>?_);refine aq (lu hT ou.lookup ?_);dsimp only;rw[ao 0x6];refine bc ?_;rw[ax 0x4];refine aq (C2 ⟨_,hl,rfl,n,rfl⟩ 0x1 ?_);refine aq (gN rfl ?_);dsimp only;refine aq ?_;unfold Ed;exact ji (bc ⟨_,rfl,h _⟩)
theorem aF8{E:am->au->Prop}{s:au}{t:al}{items:bp am}{Q:am->au->Prop}(hL:s.heap.IsTuple t items)(hz:(items.size:ai)<2 ^ 62)
 (h:∀tk,Q (.ref s.heap.objs.size) {s with heap:=s.heap.push (obj t ((items.size:ai)-1)),toks:=tk}):ϑ (ay prog w) A (call (.type "reversed") [.ref t]) Q E s:=by
 obtain⟨⟨c,dct,dt,sl⟩,hl,hc,n,hd⟩:=hL;replace hc:c=.type "tuple":=hc;replace hd:dt=.seq items n:=hd;subst hc hd;refine CD called 0x4 (PySem.F.typeCall_reversed_1 _) (PySem.F.newCall_reversed_1 _) (λobj=>PySem.F.args_object_init_2 obj _) PySem.F.entry_reversed_new (aBw t items n dct sl hz) ⟨hl,λtk=>⟨⟨_,dh _ rfl,rfl⟩,h tk⟩⟩
def Is(h:aI)(a t:al)(i:ai):Prop:=∃o,h.get? a=aa o/\o.cls=.type "reversed"/\o.data=.fields #[.ref t,cz i]
theorem Is.ty{s:au}(x:Is s.heap a t i):s.TypeIs (.ref a) "reversed":=let ⟨o,ho,hc,_⟩:=x;⟨o,ho,hc⟩
theorem Is.at(x:Is h a t i)(e:∀o,h.get? a=aa o->h'.get? a=aa o):Is h' a t i:=let ⟨o,ho,r⟩:=x;⟨o,e o ho,r⟩
section
variable {prog:bS} {w:bu} {A:b6} {E:am->au->Prop} {s:au}
theorem next_item{i:ah}{items:bp am}{x:am}{Q:ar am->au->Prop}(hit:Is s.heap it t (i:ai))(hl:s.heap.IsTuple t items)(hx:items[i]?=aa x)(hz:(items.size:ai)<2 ^ 62)
 (hQ:∀h' tk,Is h' it t ((i:ai)-1)->eR it s.heap h'->Q (aa x) {s with heap:=h',toks:=tk}):ϑ (ay prog w) A (iS (.ref it)) Q E s:=by
 obtain⟨o,ho,hc,hd⟩:=id hit;have hi:i<items.size:=(sr.mp hx).1;unfold iS;refine aq (kj (jz hit.ty slot_next
  (k9 slot_next hit.ty entry_next ?_ (args_next _))))
 unfold dz.«reversed.__next__»;refine aq (gN rfl ?_)
 try dsimp only
 refine aq (dn ho hd rfl ?_);refine aq (dn ho hd rfl ?_);show ϑ _ _ (if (i:ai)<0 then _ else _) _ _ s;rw[ax 0x1];refine aq (lu hl.typeIs ou.lookup ?_);rw[ax 0x2];refine aq (xo ?_);refine aq (kj (Ee hl 0x1 0x1 (by unfold zb;simp;lia) hx ?_));dsimp only;refine aq (dn ho hd rfl ?_);show ϑ _ _ (setField (.ref it) 1 (cz ((i:ai)-1)) >>= _) _ _ _;refine aq (nI ho hd 0x2 ?_);refine bc ⟨x,rfl,bc (hQ _ _ ?_ (nh ..))⟩;exact⟨_,jj _ ho (Ar (nK hd _)),(C3 ..).trans hc,by
  rw[nK hd];simp⟩
theorem next_end(hh:A.handled=aj)(hit:Is s.heap it t (-1))
 (hQ:∀h',xk it s.heap h'->Q aj {s with heap:=h'}):ϑ (ay prog w) A (iS (.ref it)) Q E s:=by
 obtain⟨o,ho,hc,hd⟩:=id hit;unfold iS;refine aq (kj (jz hit.ty slot_next
  (k9 slot_next hit.ty entry_next ?_ (args_next _))))
 unfold dz.«reversed.__next__»;refine aq (gN rfl ?_)
 try dsimp only
 refine aq (dn ho hd rfl ?_);refine aq (dn ho hd rfl ?_);show ϑ _ _ (if (-1:ai)<0 then _ else _) _ _ s;rw[ao 0x4];refine aq (kq ?_);refine aq ?_;refine aq (nI ho hd 0x2 ?_);have h1:=jj (ng (·.set! 1 (cz (-1)))) ho (Ar (nK hd _));have hd1:(ng (·.set! 1 (cz (-1))) o).data=.fields #[.ref t,cz (-1)]:=by rw[nK hd];simp
 refine nI h1 hd1 0x2 ?_;refine aq ?_;unfold Ef;simp only[newExc,newTuple];refine aq ?_;refine aq (ji ?_ (by size_fits));refine aq (gN (by first|rfl|(simp only[firstArgMember];rfl)) ?_);refine ji ?_ (by size_fits);simp only[raiseNew];refine aq (wpAny_handled ?_)
 first|rw[show A.in1.handled=aj from hh]|rw[hh]
 refine aq (bc (wpAny_throw ?_));refine aq (xt ⟨_,dh _ rfl,rfl⟩ CL ?_);exact bc (hQ _ ((((nh ..).trans (nh ..)).extBut.push _).push _))
theorem M_(hit:Is s.heap it t i)(h:Q (.ref it) s):ϑ (ay prog w) A (l9 (.ref it)) Q E s:=by
 refine wpAny_pyIter_slot hit.ty M9 (k9 M9 hit.ty Y5 ?_ (aBt _));show ϑ _ _ (ret (.ref it)) _ _ s;exact bc ⟨_,rfl,"reversed",_,hit.ty,slot_next.lookup,h⟩
end
theorem walks{prog:bS}(hh:A.handled=aj)(I l:al)(hne:l≠I)(items:bp am)(hz:(items.size:ai)<2 ^ 62) :
  Walks prog w A I [I,l] [I] items.size (λi v=>items[items.size-1-i]?=aa v) (λi h=>i<=items.size/\Is h I l ((items.size:ai)-1-(i:ai))/\h.IsTuple l items) where
 sub:=λb hb=>by simp at hb;simp[hb]
 frame:=λ_ _ _ x hk=>⟨x.1,x.2.1.at λo e=>hk I 0x2 o e,let ⟨o,e,r⟩:=x.2.2;⟨o,hk l 0x2 o e,r⟩⟩
 item:=λi s Q E hi x hQ=>by
  have e:(items.size:ai)-1-(i:ai)=((items.size-1-i:ah):ai):=by lia
  have hit:=x.2.1;rw[e] at hit;have hx:items[items.size-1-i]?=aa (items[items.size-1-i]' 0x1):=wx 0x1;refine next_item hit x.2.2 hx hz λh' tk hit' hs'=>?_
  have e2:((items.size-1-i:ah):ai)-1=(items.size:ai)-1-((i+1:ah):ai):=by lia
  rw[e2] at hit';exact hQ _ h' tk hx ⟨hi,hit',let ⟨o,eo,r⟩:=x.2.2;⟨o,(hs'.2 l hne).trans eo,r⟩⟩ λb o hb eo=>hs'.extBut b o (λh=>hb (by simp[h])) eo
 done:=λs Q E x hQ=>by
  have e:(items.size:ai)-1-(items.size:ai)=-1:=by lia
  have hit:=x.2.1;rw[e] at hit;exact next_end hh hit λh' he'=>hQ h' s.toks λb o hb eo=>he' b o (λh=>hb (by simp[h])) eo
 self:=λ_ _ _ _ x hQ=>M_ x.2.1 hQ
section
variable {prog:bS} {w:bu} {A:b6} {E:am->au->Prop} {s:au}
theorem hint(hit:Is s.heap I l ((items.size:ai)-1))(hl:s.heap.IsTuple l items)(hz:items.size<=bo)(h:∀b tk,Q b {s with toks:=tk}):ϑ (ay prog w) A (C4 (.ref I)) Q E s:=by
 unfold C4;refine aq (lu hit.ty Y0 ?_);dsimp only;refine si (λhab=>aT hab 0x6) (λ_=>?_);rw[ax 0x2];refine aq (lu hit.ty z6.lookup ?_);generalize hid:("reversed.__length_hint__" : fR)=id0
 wp_delta
 rw[show splitId id0=aa ("reversed","__length_hint__") from by subst hid;decide +kernel];subst hid;refine aq (xt (T:= "reversed") (b:=ag) hit.ty PySem.F.sub_reversed_self ?_);refine si (λhab=>aT hab 0x4) (λ_=>?_);refine si (λhab=>aT hab 0x6) (λ_=>?_);refine aq (kq ?_);refine aq (gN (z6.bind _) ?_);refine aq (kj (k9 z6 hit.ty Y4 ?_ (aBu _)));obtain⟨o,ho,hc,hd⟩:=id hit;unfold dz.«reversed.__length_hint__»;refine aq (gN (a:=du I) rfl ?_);refine aq (dn ho hd (x:=.ref l) rfl ?_);rw[ax (show ¬((du l==fS)=ag) from iO)];rw[dv] at hz;refine aq (C2 (items:=items) hl 0x1 ?_);refine aq (gN (a:=aa (items.size:ai)) rfl ?_);dsimp only;refine aq (dn ho hd (x:=cz ((items.size:ai)-1)) rfl ?_);show ϑ _ _ (if (items.size:ai)<(items.size:ai)-1+1 then _ else _) _ _ _;rw[ax 0x1];refine aq (xo (bc ⟨_,rfl,?_⟩));dsimp only;refine aq (gN (a:=aa ((items.size:ai)-1+1)) rfl ?_);dsimp only;rw[ax (by simp only[Eg,wq,Bool.not_eq_false,aS,cx];lia),ax 0x1,ax (by simp only[ox,cx,dv];lia)];exact bc (h _ _)
theorem extend(hh:A.handled=aj)(hit:Is s.heap I l ((items.size:ai)-1))(hl:s.heap.IsTuple l items)(hIl:l≠I)(S:al)(hSr:S≠I)(hSd:S≠l)(res:am)(c₀:ah)(hS:s.heap.get? S=aa {cls:=.type "list",data:=.seq #[] c₀})
 (hR:∀h' tk acc' c',(∀b o,b≠S->b≠I->s.heap.get? b=aa o->h'.get? b=aa o)->h'.get? S=aa {cls:=.type "list",dict:=aj,data:=.seq acc' c',slots:=#[]}->wr (λi v=>items[items.size-1-i]?=aa v) acc' items.size->R (.ok (.ret res)) {s with heap:=h',toks:=tk})(hn:items.size<=bo) :
  ϑ (ay prog w) A.in1 (xy (.ref S) (.ref I) res)
   (λfin s'=>match fin with|.done f=>R (.ok f) s'|.again c'=>c'.quiet=ag/\codeAny (ay prog w) A c' R s') (λe s'=>R (.error e) s') s:=by
 have hz:(items.size:ai)<2 ^ 62:=by rw[dv] at hn;lia
 have W:=walks (prog:=prog) (w:=w) (A:=A.in1) hh I l hIl items hz;have hSf:S∉[I,l]:=by simp only[cg,List.not_mem_nil,or_false,mI];exact⟨hSr,hSd⟩
 have st0:∀{h:aI},Is h I l ((items.size:ai)-1)->h.IsTuple l items->0<=items.size/\Is h I l ((items.size:ai)-1-((0:ah):ai))/\h.IsTuple l items:=λ{h} a b=>⟨ef _,by simpa using a,b⟩
 have key:∀(h:aI)(c₁ tk:ah),Is h I l ((items.size:ai)-1)->h.IsTuple l items->(∀b o,b≠S->s.heap.get? b=aa o->h.get? b=aa o)->
   h.get? S=aa {cls:=.type "list",data:=.seq #[] c₁}->codeAny (ay prog w) A (.builtin "list.extend.loop" ⟨[.ref S,.ref I,res],[]⟩) R {s with heap:=h,toks:=tk}:=by
  intro h c₁ tk h1 h2 hk hS₁;refine codeAny_extend_loopS W.toS hn S hSf res items.size 0 _ #[] c₁ rfl (ef _) (st0 h1 h2) hS₁ (ItemsOf.nil _) λs' acc' c' hm hS' hacc=>?_
  rw[Moved.eq_with hm];refine hR s'.heap s'.toks acc' c' (λb o hb hbI e=>hm.heap b o (λhmem=>?_) (hk b o hb e)) hS' hacc;rcases cg.mp hmem with e'|hmem
  .exact hb e'
  .exact hbI (ll.mp hmem)
 unfold xy;refine aq (jI (T:= "reversed") hit.ty ?_);have h1:C5 (.ref S) (.ref I)=ak:=by simp[C5,hSr]
 have n1:(gm "reversed"==gm "list")=ak:=by decide
 have n2:(gm "reversed"==gm "tuple")=ak:=by decide
 simp only[h1,n1,n2,zg,i5,gf];refine aq (M_ hit ?_);refine aq (eL (hint hit hl hn λb tk=>?_));refine si (λ_=>?_) (λ_=>bc ⟨C6 C7 _,key _ c₀ _ hit hl (λb o _ e=>e) hS⟩);refine aq (kq ?_);refine aq ?_;show ϑ _ _ (xp S (·.push .none) >>= λ_=>xp S (·.pop)) _ _ _;refine aq (xA hS rfl ?_);have hS₂:=jj (gx (·.push fS)) hS rfl;refine xA (hz:=by seq_fits) hS₂ rfl ?_;have hS₃:=jj (gx (·.pop)) hS₂ rfl;have oth:∀b o,b≠S->s.heap.get? b=aa o->((s.heap.update S (gx (·.push fS))).update S (gx (·.pop))).get? b=aa o:=λb o hb e=>(mr _ _ (Ne.symm hb)).trans ((mr _ _ (Ne.symm hb)).trans e)
 refine bc ⟨C6 C7 _,key _ _ _ (hit.at λo e=>oth I o (Ne.symm hSr) e) (let ⟨o,e,r⟩:=hl;⟨o,oth l o (Ne.symm hSd) e,r⟩) (λb o hb e=>oth b o hb e) hS₃⟩
theorem init(hh:A.handled=aj)(hit:Is s.heap I l ((items.size:ai)-1))(hl:s.heap.IsTuple l items)(hIl:l≠I)(S:al)(hSr:S≠I)(hSd:S≠l)(hS:s.heap.get? S=aa {cls:=.type "list",data:=.seq #[]})
 (hR:∀h' tk acc' c',(∀b o,b≠S->b≠I->s.heap.get? b=aa o->h'.get? b=aa o)->h'.get? S=aa {cls:=.type "list",dict:=aj,data:=.seq acc' c',slots:=#[]}->wr (λi v=>items[items.size-1-i]?=aa v) acc' items.size->R (.ok (.ret .none)) {s with heap:=h',toks:=tk})(hn:items.size<=bo) :
  ϑ (ay prog w) A.in1 (dz.«list.__init__» ⟨[.ref S,.ref I],[]⟩)
   (λfin s'=>match fin with|.done f=>R (.ok f) s'|.again c'=>c'.quiet=ag/\codeAny (ay prog w) A c' R s') (λe s'=>R (.error e) s') s:=by
 show ϑ _ _ (do let old <- C8 (.ref S);Eh (.ref S) (λ_=>#[]);letGo old.toList.reverse;xy (.ref S) (.ref I) .none) _ _ s;refine aq ?_;unfold C8;refine aq (ir hS rfl (bc ?_));show ϑ _ _ (xp S (λ_=>#[]) >>= λ_=>letGo (#[]:bp am).toList.reverse >>= λ_=>xy (.ref S) (.ref I) .none) _ _ s;refine aq (xA hS rfl ?_);have hS₂:=jj (gx (λ_=>(#[]:bp am))) hS rfl;have oth:∀b o,b≠S->s.heap.get? b=aa o->(s.heap.update S (gx (λ_=>(#[]:bp am)))).get? b=aa o:=
  λb o hb e=>(mr _ _ (Ne.symm hb)).trans e
 refine aq (Af ?_);refine extend hh (hit.at λo e=>oth I o (Ne.symm hSr) e) (let ⟨o,e,r⟩:=hl;⟨o,oth l o (Ne.symm hSd) e,r⟩) hIl S hSr hSd .none _ hS₂ (λh' tk acc' c' hk hS' hacc=>?_) hn;exact hR h' tk acc' c' (λb o hb hbI e=>hk b o hb hbI (oth b o hb e)) hS' hacc
theorem aBx(hh:A.handled=aj)(hit:Is s.heap I l ((items.size:ai)-1))(hl:s.heap.IsTuple l items)(hIl:l≠I)(hn:items.size<=bo)
 (hQ:∀h' tk acc' c',(∀b o,b≠I->s.heap.get? b=aa o->h'.get? b=aa o)->h'.get? s.heap.objs.size=aa {cls:=.type "list",dict:=aj,data:=.seq acc' c',slots:=#[]}->wr (λi v=>items[items.size-1-i]?=aa v) acc' items.size->Q (.ref s.heap.objs.size) {s with heap:=h',toks:=tk}) :
  ϑ (ay prog w) A (call (.type "list") [.ref I]) Q E s:=by
 refine xv (Q₁:=λobj s₁=>obj=.ref s.heap.objs.size/\s₁={s with heap:=s.heap.push {cls:=.type "list",data:=.seq #[]}}) PySem.F.called_list (PySem.F.typeCall_list_1 _) PySem.F.entry_list_init
  (code_list_new _ ⟨rfl,rfl⟩) λobj s₁ h₁=>?_
 obtain⟨rfl,rfl⟩:=h₁;have hS:(s.heap.push {cls:=.type "list",data:=.seq #[]}).get? s.heap.objs.size=aa {cls:=.type "list",data:=.seq #[]}:=dh _ rfl;have lt:∀{b:al}{o:bn},s.heap.get? b=aa o->s.heap.objs.size≠b:=λe=>iP (bE e)
 have l1:s.heap.objs.size≠I:=let ⟨o,e,_⟩:=hit;lt e
 have l2:s.heap.objs.size≠l:=let ⟨o,e,_⟩:=hl;lt e
 refine⟨⟨_,hS,rfl⟩,PySem.F.args_list_init_2 _ _,init (A:=A.in1) hh (hit.at λo e=>bX _ e) (let ⟨o,e,r⟩:=hl;⟨o,bX _ e,r⟩) hIl _ l1 l2 hS (λh' tk acc' c' hk hS' hacc=>?_) hn⟩;exact⟨rfl,hQ h' tk acc' c' (λb o hb e=>hk b o (Ne.symm (lt e)) hb (bX _ e)) hS' hacc⟩
end
end Rv
open L2 PySem.SeqAt PyProof.Rows
def aLo:D->Res D
 |.tup xs=>if ε xs&&ϒ (xs.length<=lim) then .ok (.lst xs.reverse) else .bad
 |_=>.bad
theorem R9:dS "reversed"=aa (.type "reversed"):=0x6
variable [KFrag]
theorem bK.rev:∀{vs:ae V}{ds:ae D},bK P H vs ds->bK P H vs.reverse ds.reverse
 |_,_,.nil=>.nil
 |_,_,.cons r t=>by rw[fN,fN];exact t.rev.snoc r
theorem iM(h:ε ds=ag):ε ds.reverse=ag:=cL.mpr λy hy=>cL.mp h y (C9.mp hy)
theorem aF9(r:Vals xs its)(hl:acc.length=its.length)(h:∀j v,acc[j]?=aa v->its[its.length-1-j]?=aa v):Vals xs.reverse acc:=by
 have e:acc=its.reverse:=by
  refine List.ext_getElem? λj=>?_
  by_cases hj:j<its.length
  .have h1:acc[j]?=aa (acc[j]' 0x1):=dq 0x1;have h2:=h j _ h1;rw[h1,List.getElem?_reverse hj,h2]
  .rw[iu 0x1,iu (by rw[jb];lia)]
 rw[e];clear e h hl;induction r with
 |nil=>exact .nil
 |cons h t ih=>
  rw[fN,fN];exact ih.append (.cons h .nil)
section
theorem R_(hc:X.calm=ag)(hg:Gl X "list")(hm:X.mg "list"=aj)(hg2:Gl X "reversed")(hm2:X.mg "reversed"=aj)(he:PE X e (gE fe re))(hs:autoParam (b5 [e] X.env=[(ak,eval e X.env)]) Ω)
 (hs2:autoParam (b5 [.Call (.Name "reversed" p2) [e] [] pos2] X.env=[(ak,eval (.Call (.Name "reversed" p2) [e] [] pos2) X.env)]) Ω) :
  PE X (.Call (.Name "list" p) [.Call (.Name "reversed" p2) [e] [] pos2] [] pos) (gE (b1 aLo fe) ag):=by
 rintro Ψ s σ H Q I ⟨ρ,d,E,h,q⟩;obtain⟨d0,h1,h2⟩:=a_ h;unfold aLo at h2;split at h2
 rotate_left
 .exact bx h2
 rename_i ds;split at h2
 rotate_left
 .exact bx h2
 rename_i hb;cases h2;rw[aS] at hb;refine hZ (oA I hg hm aAv ?_);refine jv ?_ hs2 rfl;rw[hs2];show ϑ _ _ (kF [(ak,eval (.Call (.Name "reversed" p2) [e] [] pos2) X.env)]) _ _ s;refine me ?_;refine hZ (oA I hg2 hm2 R9 ?_);refine jv ?_ hs rfl;rw[hs];show ϑ _ _ (kF [(ak,eval e X.env)]) _ _ s;refine me (thn (he Ψ s σ H (λv H1=>bW H H1/\Rep All H1 v (.tup ds)) I ⟨ρ,_,E,h1,λv H1 s1 r1 _=>⟨s1,r1⟩⟩) λu s1 ⟨x,H1,I1,ru,sm,rx⟩=>?_);obtain⟨t,xs,rfl,ex,rr⟩:=rx.jG;cases ru;obtain⟨its,rv,ht,hz⟩:=I1.tuple (.of ex);have htt:s1.heap.IsTuple t its.toArray:=ht;refine md ?_;have hz':its.toArray.size<=bo:=by rw[b9,<-rv.length];exact hz
 refine Rv.aF8 htt (by rw[dv] at hz';lia) λtk=>?_
 refine md ?_;have hne:t≠s1.heap.objs.size:=let ⟨o,e,_⟩:=htt;cy (bE e)
 refine Rv.aBx (I1.ok.hd hc) ⟨_,dh _ rfl,rfl,rfl⟩ (let ⟨o,e,r⟩:=htt;⟨o,bX _ e,r⟩) hne hz' λh' tk' acc c hk hS hacc=>?_
 have hsz:((s1.heap.push (Rv.obj t ((its.toArray.size:ai)-1))).objs.size)=s1.heap.objs.size+1:=eJ ..;have hfr:H1 (s1.heap.push (Rv.obj t ((its.toArray.size:ai)-1))).objs.size=aj:=I1.hok.fresh (by rw[hsz];lia);have hlen:acc.toList.length=its.length:=by have:=hacc.1;simpa using this
 have hv:Vals xs.reverse acc.toList:=aF9 rv hlen λj v hj=>by
  have:=hacc.2 j v (by simpa using hj);simpa using this
 have sm2:bW H1 (upd H1 (s1.heap.push (Rv.obj t ((its.toArray.size:ai)-1))).objs.size (.lst xs.reverse)):=bW.upd hfr;refine⟨.ref (s1.heap.push (Rv.obj t ((its.toArray.size:ai)-1))).objs.size,_,I1.laid (a:=(s1.heap.push (Rv.obj t ((its.toArray.size:ai)-1))).objs.size) (o:=.lst xs.reverse) (h':=h') (t':=tk') (λb o e=>hk b o (cy (bE e)) (bX _ e)) (by rw[hsz];lia) ⟨by rw[jb];exact hz,acc.toList,c,hv,by simpa using hS⟩,rfl,?_⟩;exact q _ _ (sm.trans sm2) (.lst aJ trivial (rr.rev.same sm2)) λ_=>.lst aJ (sm.free hfr) ((rr.rev.bT (iM hb.1)).same sm2)
end
end Mi
namespace Wl
open PySem PySem.Spec
noncomputable abbrev liO(xs:bp am)(n:ah):bn:={cls:=.type "list",data:=.seq xs n}
theorem aB8:la (.type "list") "keys"=pure aj:=by rw[i9,ja];kernel_rfl
theorem noGet:la (.type "list") "__getattr__"=pure aj:=by rw[i9,ja];kernel_rfl
theorem aB9:nj nt "list.__getattribute__"=aa dz.«object.__getattribute__»:=zD (id':= "object.__getattribute__") 0x8 0x6 0x6 0x8
theorem o8(a:al)(xs:bp am)(n:ah)(u:eg):kl (dz.«object.__getattribute__» ⟨[.ref a,.str "keys" u],[]⟩) (λA R s=>s.heap.get? a=aa (liO xs n)/\raisesAttr (.ref a) "keys" A R s):=.of_wp λprog w A R s hs=>by
 obtain⟨hp,g,d,tk,os⟩:=s;obtain⟨e,hh,q⟩:=hs;have ty:(⟨hp,g,d,tk,os⟩:au).TypeIs (.ref a) "list":=⟨_,e,rfl⟩
 have no:=aB8
 wp_walk
 exact Cd hh q (Ce 0x6 (by size_fits))
section
variable {prog:bS} {w:bu} {A:b6} {E:am->au->Prop} {hp:aI} {g:bp r_} {d:se} {tk:ah} {os:sf} {a:al} {xs:bp am} {n:ah}
theorem gone(e:hp.get? a=aa (liO xs n))(hh:A.handled=aj)(hk:kw=[])(q:∀h' tk' x,Cf hp h' x (.ref a) "keys"->E (.ref x) ⟨h',g,d,tk',os⟩) :
  ϑ (ay prog w) A (call (.builtin "list.__getattribute__") ([.ref a]++[.str "keys" u]) kw) Q E ⟨hp,g,d,tk,os⟩:=by
 subst hk;exact jS As ⟨_,e,rfl⟩ aB9 (F.args_list_getattribute_2 _ _) (o8 a xs n u) ⟨e,hh,λh' tk' x hx=>q h' tk' x hx⟩
theorem lacks(e:hp.get? a=aa (liO xs n))(hh:A.handled=aj)(q:∀h' tk',(∀b o,hp.get? b=aa o->h'.get? b=aa o)->Q aj ⟨h',g,d,tk',os⟩):ϑ (ay prog w) A (xh (.ref a) "keys") Q E ⟨hp,g,d,tk,os⟩:=by
 have ty:∀tk',(⟨hp,g,d,tk',os⟩:au).TypeIs (.ref a) "list":=λ_=>⟨_,e,rfl⟩
 have f3:=As.lookup;have f4:=As.bind (.ref a);have f5:=noGet;have sub:=Cg
 wp_walk using gone e hh
 case hk=>rfl
 intro h' tk' x hx;obtain⟨t,u,ex⟩:=hx.there;show ϑ _ _ (Ci _ _ _ _ _ _ _) _ _ _
 wp_walk
 exact q _ _ hx.keeps
end
theorem FJ{h:aI}(e:h.get? c=aa o)(hc:o.cls=.type T)(ed:h.get? d=aa od)(hd:od.cls=.type U)(ne:(gm T==gm U)=ak):c≠d:=λq=>by
 subst q;rw[e] at ed;cases ed;rw[hc] at hd;rw[hd] at ne;simp at ne
def Prs{prog:bS}{w:bu}{K:Type}[dP K](knd:KeyKind prog w K)(items:bp am)(ps:ae (K×am))(h:aI):Prop:=items.size=ps.length/\∀(i:ah)(kv:K×am),ps[i]?=aa kv->∃(p:al)(x:am)(o:bn)(n:ah),items[i]?=aa (du p)/\h.get? p=aa o/\o.cls=.type "tuple"/\o.data=.seq #[x,kv.2] n/\knd.is kv.1 x=ag
theorem Prs.keep[dP K]{knd:KeyKind prog w K}{ps:ae (K×am)}{h h':aI}(x:Prs knd items ps h)(k:∀c o,o.cls=.type "tuple"->h.get? c=aa o->h'.get? c=aa o):Prs knd items ps h':=
 ⟨x.1,λi kv e=>let ⟨p,v,o,n,h1,h2,h3,h4,h5⟩:=x.2 i kv e;⟨p,v,o,n,h1,k p o h3 h2,h3,h4,h5⟩⟩
section
variable {prog:bS} {w:bu} {K:Type} [dP K] {knd:KeyKind prog w K} {A:b6} {R:Except am Flow->au->Prop} {it l d:al} {items:bp am} {ps:ae (K×am)} {nl:ah}
theorem HS(hh:A.handled=aj)(hdi:d≠it)(hdl:d≠l)(hil:l≠it) :
  ∀(m k:ah)(s:au)(kvs:ae (K×am)),k+m=items.size->kvs.length+m<=bo->s.heap.IsListIter it l k->s.heap.get? l=aa (liO items nl)->Prs knd items ps s.heap->s.heap.DictOf knd d kvs->
  (∀h' tk,h'.DictOf knd d (li kvs (ps.drop k))->(∀c o,c≠d->c≠it->s.heap.get? c=aa o->h'.get? c=aa o)->R (.ok (.ret .none)) {s with heap:=h',toks:=tk})->
  codeAny (ay prog w) A (.builtin "dict.update.loop" ⟨[.ref d,.ref it,cz k,.none],[]⟩) R s:=by
 intro m;induction m with
 |zero=>
  intro k s kvs hkm hl Z el Pp hd q;refine lz Wz.lH ?_;rw[nw (show ny "dict.update.loop"=ag by decide +kernel) _];refine aq (s0 hh Z ⟨_,el,rfl,_,rfl⟩ (wy 0x1) λh' kp=>?_);refine aq ?_;unfold Ah;rw[ke];refine aq (bc (bc (bc ?_)));have e:ps.drop k=[]:=ik (by have:=Pp.1;lia);rw[e] at q;obtain⟨o,es,ep,ho,r⟩:=hd;exact q _ s.toks ⟨o,es,ep,kp d o hdi ho,r⟩ λc o _ c1 e=>kp c o c1 e
 |succ m ih=>
  intro k s kvs hkm hl Z el Pp hd q;have hlp:k<ps.length:=by have:=Pp.1;lia
  obtain⟨p,x,o,n,hi,hp,hpc,hpd,his⟩:=Pp.2 k ps[k] (dq hlp);have hpi:p≠it:=let ⟨oi,ei,ci,_⟩:=Z;FJ hp hpc ei ci 0x4
  refine lz Wz.lH ?_;rw[nw (show ny "dict.update.loop"=ag by decide +kernel) _];refine aq (sR Z ⟨_,el,rfl,_,rfl⟩ hi λh' Z' kp=>?_);have hp':h'.get? p=aa o:=(kp.2 p hpi).trans hp;refine aq (eL (aq (Ai ?_)));refine aq (jI ⟨_,hp',hpc⟩ ?_);rw[ao 0x4];refine aq (ir hp' hpd (bc ?_));show ϑ _ _ (kK [x,ps[k].2] (Aj d x ps[k].2)) _ _ _;have hd':h'.DictOf knd d kvs:=let ⟨o,es,ep,ho,r⟩:=hd;⟨o,es,ep,(kp.2 d hdi).trans ho,r⟩
  obtain⟨od,es,ep,ho,hc,_⟩:=id hd';refine eL (CM his hd' (λh2 hd2' sb=>?_) 0x1);refine bc ⟨ly _ 0x6,?_⟩;have ek:(cz (k+1):am)=cz ((k+1:ah):ai):=rfl;rw[ek];have hdrop:ps.drop k=ps[k]::ps.drop (k+1):=ii hlp;have ls:(jn kvs ps[k].1 ps[k].2).length<=kvs.length+1:=by
   unfold jn;split
   .rw[az];lia
   .rw[bq];exact bt _
  have keep:∀c o,c≠d->c≠it->s.heap.get? c=aa o->h2.get? c=aa o:=λc o c0 c1 e=>(sb.2 c c0).trans ((kp.2 c c1).trans e)
  have hdc:∀c (oc:bn),oc.cls=.type "tuple"->s.heap.get? c=aa oc->c≠d/\c≠it:=λc oc hoc e=>⟨let ⟨o1,_,_,e1,c1,_⟩:=hd;FJ e hoc e1 c1.1 0x4,let ⟨oi,ei,ci,_⟩:=Z;FJ e hoc ei ci 0x4⟩
  refine ih (k+1) _ (jn kvs ps[k].1 ps[k].2) 0x1 0x1 (let ⟨oi,ei,r⟩:=Z';⟨oi,(sb.2 it (Ne.symm hdi)).trans ei,r⟩) (keep l _ (Ne.symm hdl) hil el) (Pp.keep λc oc hoc e=>keep c oc (hdc c oc hoc e).1 (hdc c oc hoc e).2 e) hd2' λh3 tk hd3 kp3=>?_
  exact q h3 tk (by rw[hdrop];exact hd3) λc o c0 c1 e=>kp3 c o c0 c1 (keep c o c0 c1 e)
end
section
variable {prog:bS} {w:bu} {K:Type} [dP K] {knd:KeyKind prog w K} {A:b6} {E:am->au->Prop} {hp:aI} {g:bp r_} {dr:se} {tk:ah} {os:sf} {l:al} {items:bp am} {ps:ae (K×am)} {nl:ah}
theorem dict_list(hh:A.handled=aj)(el:hp.get? l=aa (liO items nl))(Pp:Prs knd items ps hp)(hz:items.size<=1000000)
 (q:∀h' tk',h'.DictOf knd hp.objs.size (li [] ps)->(∀c o,hp.get? c=aa o->h'.get? c=aa o)->Q (.ref hp.objs.size) ⟨h',g,dr,tk',os⟩) :
  ϑ (ay prog w) A (call (.type "dict") [.ref l]) Q E ⟨hp,g,dr,tk,os⟩:=by
 have hnew:(hp.push {cls:=.type "dict",data:=.dict #[]}).DictOf knd hp.objs.size []:=zk hp;have up:∀c o,hp.get? c=aa o->(hp.push {cls:=.type "dict",data:=.dict #[]}).get? c=aa o:=λc o e=>bX _ e
 have lt:∀{c o},hp.get? c=aa o->hp.objs.size≠c:=λe=>iP (bE e)
 refine xv (Q₁:=λv s₁=>v=.ref hp.objs.size/\s₁=⟨hp.push {cls:=.type "dict",data:=.dict #[]},g,dr,tk,os⟩) Ak (Al _) Am (An _ ⟨rfl,rfl⟩) λv s₁ hv=>?_
 obtain⟨rfl,rfl⟩:=hv;have ty:(⟨hp.push {cls:=.type "dict",data:=.dict #[]},g,dr,tk,os⟩:au).TypeIs (.ref hp.objs.size) "dict":=hnew.typeIs;have ez:=up _ _ el;have tz:(⟨hp.push {cls:=.type "dict",data:=.dict #[]},g,dr,tk,os⟩:au).TypeIs (.ref l) "list":=⟨_,ez,rfl⟩
 refine⟨ty,Ao _ _,aq (aq (Ap ty (bc ?_)))⟩;refine aq (jI tz ?_);rw[ao 0x4];refine aq (lacks ez hh λh' tk' kp=>?_);rw[ao (show(aj:ar am).isNone=ag from rfl)];refine aq (kq (aq (mM ⟨_,kp _ _ ez,rfl,_,rfl⟩ (bc ⟨ly _ 0x6,?_⟩))));have hd':h'.DictOf knd hp.objs.size []:=let ⟨o,es,ep,ho,r⟩:=hnew;⟨o,es,ep,kp _ _ ho,r⟩
 have ltd:hp.objs.size<h'.objs.size:=let ⟨o,es,ep,ho,r⟩:=hd';bE ho
 have ltl:l<h'.objs.size:=bE (kp _ _ ez);refine HS (ps:=ps) (it:=h'.objs.size) (l:=l) (items:=items) (nl:=nl) (show A.in1.handled=aj from hh) (cy ltd) (lt el) (cy ltl) items.size 0 _ [] 0x1 (by rw[fj,dv];lia) ⟨_,dh _ rfl,rfl,rfl⟩ (bX _ (kp _ _ ez)) (Pp.keep λc o _ e=>bX _ (kp c o (up c o e))) (let ⟨o,es,ep,ho,r⟩:=hd';⟨o,es,ep,bX _ ho,r⟩) λh2 tk2 hd2 kp2=>?_
 exact⟨rfl,q h2 tk2 hd2 λc o e=>kp2 c o (λx=>lt e x.symm) (cy (bE (kp c o (up c o e)))) (bX _ (kp c o (up c o e)))⟩
end
end Wl
namespace Mi
open PySem L2 PySem.SeqAt PySem.Spec PyProof.Rows
def z7:ae D->ar (ae (D×D))
 |[]=>aa []
 |.tup [k,v]::r=>if gZ k&&v.pure then (z7 r).map ((k,v)::·) else aj
 |_::_=>aj
def lJ(kvs:ae (D×D))(more:ae (D×D)):ae (D×D):=more.foldl (λacc p=>putD acc p.1 p.2) kvs
def FN:D->Res D
 |.lst xs=>match z7 xs with
  |some ps=>if ϒ (xs.length<=1000) then .ok (.dct (lJ [] ps)) else .bad
  |none=>.bad
 |_=>.bad
section
variable [KFrag]
theorem aFa(I:Inv X Ψ σ H s):∀{xs:ae D}{vs:ae V}{us:ae am}{ps:ae (D×D)},bK All H vs xs->Vals vs us->z7 xs=aa ps->
  ∃(kvs:ae (Key×V))(prs:ae (Key×am)),KV kvs prs/\gH All H kvs ps/\ε (ps.map (·.2))=ag/\us.length=prs.length/\∀(i:ah)(kv:Key×am),prs[i]?=aa kv->∃(p:al)(x:am)(o:bn)(n:ah),us[i]?=aa (du p)/\s.heap.get? p=aa o/\o.cls=.type "tuple"/\o.data=.seq #[x,kv.2] n/\(cN X.prog X.w).is kv.1 x=ag:=by
 intro xs;induction xs with
 |nil=>
  intro vs us ps r rv h;cases r;cases rv;cases h;exact⟨[],[],.nil,.nil,rfl,rfl,λi kv h=>by simp at h⟩
 |cons d xs ih=>
  intro vs us ps r rv h;cases r with
  |cons r t=>
  cases rv with
  |cons rv tv=>
  unfold z7 at h;split at h
  .rename_i h0;cases h0
  .rename_i k v r' h0;injection h0 with h0 h1
   subst h0 h1;split at h
   .rename_i hf;rw[aS] at hf;obtain⟨ps',hp,rfl⟩:=i0.mp h;obtain⟨kvs,prs,g1,g2,g3,g4,g5⟩:=ih t tv hp;obtain⟨a,ws,rfl,ea,rr⟩:=r.jG;cases rv;obtain⟨its,rvs,o,ho,hc,n,hd⟩:=m9 I ea;cases rr with
    |cons rk rr=>
     cases rr with
     |cons rw_ rr=>
      cases rr;cases rvs with
      |cons q1 rvs=>
       cases rvs with
       |cons q2 rvs=>
        cases rvs;rename_i wk ww uk uw;obtain⟨key,hk1,hk2⟩:∃key:Key,kD key=k/\(cN X.prog X.w).is key uk=ag:=by
         cases rk with
         |int i=>exact⟨.inl i,rfl,KR q1⟩
         |str x=>exact⟨.inr x,rfl,KR q1⟩
         |_=>cases hf.1
        subst hk1;refine⟨(key,ww)::kvs,(key,uw)::prs,.cons ⟨rfl,q2⟩ g1,.cons rw_ g2,by rw[bd,ε,hf.2,g3];rfl,by rw[br,br,g4],λi kv hi=>?_⟩;cases i with
        |zero=>
         simp at hi;subst hi;exact⟨a,uk,o,n,rfl,ho,hc,hd,hk2⟩
        |succ i=>
         obtain⟨p,x,o',n',z1,z2⟩:=g5 i kv (by simpa using hi);exact⟨p,x,o',n',by simpa using z1,z2⟩
   .cases h
  .cases h
theorem FP:∀{more:ae (Key×V)}{ds:ae (D×D)}{kvs:ae (Key×V)}{es:ae (D×D)},gH P H more ds->gH P H kvs es->(kvs.map (·.1)).Nodup->gH P H (gD kvs more) (lJ es ds)/\((gD kvs more).map (·.1)).Nodup
 |_,_,_,_,.nil,r,n=>⟨r,n⟩
 |_,_,_,_,.cons (k:=k) rv t,r,n=>by have:=FP t (HR (k:=k) rv r n) (jR n);exact this
theorem nD:∀{ds es:ae (D×D)},ε (ds.map (·.2))=ag->ε (es.map (·.2))=ag->ε ((lJ es ds).map (·.2))=ag
 |[],_,_,h=>h
 | (k,v)::ds,es,h,h2=>by
  rw[bd,ε,aS] at h;exact nD (ds:=ds) h.2 (lC h.1 h2)
section
theorem NB(hc:X.calm=ag)(hg:Gl X "dict")(hm:X.mg "dict"=aj)(he:PE X e (gE fe re))(hs:autoParam (b5 [e] X.env=[(ak,eval e X.env)]) Ω) :
  PE X (.Call (.Name "dict" p) [e] [] pos) (gE (b1 FN fe) ag):=by
 rintro Ψ s σ H Q I ⟨ρ,d,E,h,q⟩;obtain⟨d0,h1,h2⟩:=a_ h;unfold FN at h2;split at h2
 rotate_left
 .exact bx h2
 rename_i xs;split at h2
 rotate_left
 .exact bx h2
 rename_i ps hps;split at h2
 rotate_left
 .exact bx h2
 rename_i hb;cases h2;have hb:=d5 hb;refine hZ (oA I hg hm HQ ?_);refine jv ?_ hs rfl;rw[hs];show ϑ _ _ (kF [(ak,eval e X.env)]) _ _ s;refine me (thn (he Ψ s σ H (λv H1=>bW H H1/\Rep All H1 v (.lst xs)) I ⟨ρ,_,E,h1,λv H1 s1 r1 _=>⟨s1,r1⟩⟩) λu s1 ⟨x,H1,I1,ru,sm,rx⟩=>?_);obtain⟨a,vs,rfl,ea,rr⟩:∃a vs,x=.ref a/\H1 a=aa (.lst vs)/\bK All H1 vs xs:=by
  obtain⟨_,_,rfl,e,p,r⟩:=rx.inv;exact⟨_,_,rfl,e,r⟩
 cases ru;refine md ?_;obtain⟨hz,its,nl,rv,hl⟩:vs.length<=bo/\∃(its:ae am)(n:ah),Vals vs its/\s1.heap.get? a=aa {cls:=.type "list",data:=.seq its.toArray n}:=I1.hok a _ ea;obtain⟨kvs,prs,g1,g2,g3,g4,g5⟩:=aFa I1 rr rv hps;have hlen:its.length<=1000:=by rw[<-rv.length,rr.length];exact hb
 obtain⟨hp,g,dr,tk,os⟩:=s1;refine Wl.dict_list (knd:=cN X.prog X.w) (ps:=prs) (items:=its.toArray) (I1.ok.hd hc) hl ⟨by rw[b9];exact g4,λi kv hi=>?_⟩ (by rw[b9];lia) λh' tk' hd kp=>?_
 .obtain⟨p,x,o,n,z1,z2⟩:=g5 i kv hi;exact⟨p,x,o,n,by simpa using z1,z2⟩
 .have hfr:H1 hp.objs.size=aj:=I1.hok.fresh (bt _);have rel:KV (gD [] kvs) (li [] prs):=g1.merge .nil;have hz2:(gD [] kvs).length<=bo:=by
   have:=lV kvs [];have l1:kvs.length=prs.length:=jo g1;rw[fj] at this;rw[dv];lia
  obtain⟨rk,nd⟩:=FP (kvs:=[]) g2 gH.nil gj;have sp:bW H1 (upd H1 hp.objs.size (.dK (gD [] kvs))):=bW.upd hfr;have rk2:∀{P:al->Prop},gH P (upd H1 hp.objs.size (.dK (gD [] kvs))) (gD [] kvs) (lJ [] ps):=λ{P}=>(rk.keep (.same sp) λ_ h=>h).bT (nD g3 rfl)
  refine⟨.ref hp.objs.size,_,I1.laid (a:=hp.objs.size) (t':=tk') (o:=.dK (gD [] kvs)) kp (bt _) (aAb hz2 (fA.mpr ?_) rel hd),rfl,?_⟩
  .exact Ne.symm (cy I1.big)
  .exact q _ _ (sm.trans sp) (.dK aJ trivial rk2 nd) λ_=>.dK aJ (sm.free hfr) rk2 nd
end
end
inductive Srx where
 |par (i:ah)
 |exp (f:FE)
def Srx.ev(ρ:ae D):Srx->Res D
 |.par i=>cD i ρ
 |.exp f=>f ρ
def okF(d:D):aw:=d.pure||inner d
def evS(ρ:ae D):ae (Str×Srx)->Res (ae (Str×D))
 |[]=>.ok []
 | (f,s)::r=>do
  let d <- s.ev ρ
  let ds <- evS ρ r
  if okF d then .ok ((f,d)::ds) else .bad
def aFb(c f:Str)(fa:FE):FE:=λρ=>do
 let d <- fa ρ
 match d with
 |.ins c' fs=>if ϒ (c'=c) then ο (fs.lookup f) else .bad
 |_=>.bad
noncomputable def aU3:HO->aw
 |.tup _=>ag
 |.frz _ _=>ag
 |.ext _=>ag
 |_=>ak
section
variable [KFrag]
def yF(H H':Hp):Prop:=∀a o,H a=aa o->aU3 o=ag->H' a=aa o
theorem yF.tl(k:yF H H')(a:al)(o:HO)(e:H a=aa o)(h:Q_ o=ak):H' a=aa o:=k a o e (by
 cases o with
 |tup _=>rfl
 |frz _ u=>cases u<;>first|rfl|exact fx0 h.symm
 |_=>exact fx0 h.symm)
theorem Rep.gK{P P':al->Prop}(k:yF H H')(q:Rep P H v d)(h:d.pure=ag):Rep P' H' v d:=q.zO k.tl h
theorem bK.gK{P P':al->Prop}(k:yF H H')(q:bK P H v d)(h:ε d=ag):bK P' H' v d:=q.zO k.tl h
theorem gH.gK(k:yF H H'):∀{v:ae (Key×V)}{d:ae (D×D)},gH P H v d->ε (d.map (·.2))=ag->gH P' H' v d
 |_,_,.nil,_=>.nil
 |_,_,.cons r t,h=>by
  rw[bd,ε,aS] at h;exact .cons (r.gK k h.1) (gH.gK k t h.2)
theorem mZ.gK(k:yF H H'):∀{v:ae (ae Key×V)}{d:ae (D×D)},mZ P H v d->ε (d.map (·.2))=ag->mZ P' H' v d
 |_,_,.nil,_=>.nil
 |_,_,.cons r t,h=>by
  rw[bd,ε,aS] at h;exact .cons (r.gK k h.1) (mZ.gK k t h.2)
def mY(x:al)(H H':Hp):Prop:=∀a o,H a=aa o->a≠x->H' a=aa o
theorem mY.upd:mY x H (upd H x o):=λa o' e n=>by rw[aO n];exact e
theorem mY.same(s:bW H H'):mY x H H':=λa o e _=>s a o e
theorem mY.use(b:mY x H H')(hx:H x=aa (.ins C dx fs)):yF H H':=λa o e u=>b a o e λz=>by
 subst z;rw[hx] at e;cases e;cases u
theorem Rep.okK(b:mY x H H')(hx:H x=aa (.ins C dx fs))(m:∀a,P a->P' a)(r:Rep P H v d)(h:okF d=ag):Rep P' H' v d:=by
 have k:=b.use hx;rcases(i8 _ _).mp h with h|h
 .exact r.gK k h
 .cases r with
  |lst e p r=>exact .lst (b _ _ e (n8 e hx 0x7)) (m _ p) (r.gK k h)
  |cel e p r=>exact .cel (b _ _ e (n8 e hx 0x7)) (m _ p) (r.gK k h)
  |dK e p r n=>exact .dK (b _ _ e (n8 e hx 0x7)) (m _ p) (r.gK k h) n
  |dT e p r n=>exact .dT (b _ _ e (n8 e hx 0x7)) (m _ p) (r.gK k h) n
  |_=>cases h
theorem sI.okK(b:mY x H H')(hx:H x=aa (.ins C dx fs))(m:∀a,P a->P' a):∀{v:ae (Str×V)}{d:ae (Str×D)},sI P H v d->(d.all λp=>okF p.2)=ag->sI P' H' v d
 |_,_,.nil,_=>.nil
 |_,_,.cons r t,h=>by
  rw[i7,aS] at h;exact .cons (r.okK b hx m h.1) (sI.okK b hx m t h.2)
theorem sI.snoc(r1:Rep P H w e):∀{v:ae (Str×V)}{d:ae (Str×D)},sI P H v d->sI P H (v++[(f,w)]) (d++[(f,e)])
 |_,_,.nil=>.cons r1 .nil
 |_,_,.cons r t=>.cons r (sI.snoc r1 t)
theorem sI.look:∀{v:ae (Str×V)}{d:ae (Str×D)},sI P H v d->d.lookup f=aa e->∃w,v.lookup f=aa w/\Rep P H w e
 |_,_,.nil,h=>by cases h
 |_,_,.cons r t,h=>by
  rw[gL] at h ⊢;split at h
  .cases h;exact⟨_,rfl,r⟩
  .exact sI.look t h
theorem VV:∀{vf:ae (Str×V)},f∉vf.map (·.1)->xT f y vf=vf++[(f,y)]
 |[],_=>rfl
 | (g,x)::r,h=>by
  rw[bd,cg,mI] at h;show(if g=f then (g,y)::r else (g,x)::xT f y r)=_;rw[ax (λz=>h.1 z.symm),VV h.2];rfl
theorem aHe:∀{l:ae (Str×Srx)}{fs:ae (Str×D)},evS ρ l=.ok fs->(fs.all λp=>okF p.2)=ag/\fs.map (·.1)=l.map (·.1)
 |[],_,h=>by cases h;exact⟨rfl,rfl⟩
 | (f,s)::r,fs,h=>by
  obtain⟨d,h1,h⟩:=a_ h;obtain⟨ds,h2,h⟩:=a_ h;split at h
  .rename_i hk;cases h;obtain⟨i1,i2⟩:=aHe h2;exact⟨by rw[i7,i1,hk];rfl,by rw[bd,bd,i2]⟩
  .exact bx h
def sT:Srx->TE
 |.par i=>gW i
 |.exp f=>gE f ag
def aQ4(K:bi):ae (Str×Srx)->TS
 |[]=>Z3
 | (f,s)::r=>wN (aLk K (gW 0) (sT s) f) (aQ4 K r)
def RFx(H1:Hp)(us:ae V)(ds:ae D)(H:Hp)(vf:ae (Str×V))(fs:ae (Str×D)):Prop:=∀P:al->Prop,(∀a,H1 a=aj->P a)->bK P H1 us ds->sI P H vf fs
theorem aHf{K:bi}(cls:Cls K C)(hx0:σ[0]?=aa (aa (.ref x)))(hn:H1 x=aj)(hr:bK All H1 us ds)(hρ:∀i d,cD i ρ=.ok d->∃v,σ[i]?=aa (aa v)/\∀P,bK P H1 us ds->Rep P H1 v d):∀(l:ae (Str×Srx))(H:Hp)(vf:ae (Str×V))(fs0 fs:ae (Str×D)),H x=aa (.ins C dx vf)->bW H1 H->RFx H1 us ds H vf fs0->(fs0.all λp=>okF p.2)=ag->evS ρ l=.ok fs->(vf.map (·.1)++l.map (·.1)).Nodup->(∀f∈l.map (·.1),cQ K C f)->vf.length+l.length<1000->
  (∀H' vf',bW H1 H'->H' x=aa (.ins C dx vf')->RFx H1 us ds H' vf' (fs0++fs)->D'.nx σ H')->aQ4 K l D' σ H
 |[],H,vf,fs0,fs,hx,sm,rf,ok0,he,nd,na,hl,q=>by
  cases he;exact q H vf sm hx (by rw[cv];exact rf)
 | (f,s)::r,H,vf,fs0,fs,hx,sm,rf,ok0,he,nd,na,hl,q=>by
  obtain⟨d,h1,he⟩:=a_ he;obtain⟨ds',h2,he⟩:=a_ he;split at he
  .rename_i hk;cases he;have hlf:f∉vf.map (·.1):=λz=>(iw.mp nd).2.2 f z f 0x2 rfl
   have key:∀y H2,bW H H2->(∀P,(∀a,H1 a=aj->P a)->bK P H1 us ds->Rep P H2 y d)->∃a C' dx' fs',gW 0 σ H2 λx' H3=>x'=.ref a/\H3 a=aa (.ins C' dx' fs')/\Cls K C'/\cQ K C' f/\fs'.length<1000/\aQ4 K r D' σ (upd H3 a (.ins C' dx' (xT f y fs'))):=by
    intro y H2 s2 ry;have hx2:=s2 _ _ hx;refine⟨x,C,dx,vf,_,hx0,rfl,hx2,cls,na f 0x2,by lia,?_⟩;have sm':bW H1 (upd H2 x (.ins C dx (xT f y vf))):=λa o e=>by
     rw[aO (λz=>by subst z;rw[hn] at e;cases e)];exact s2 _ _ (sm _ _ e)
    rw[VV hlf] at sm' ⊢;refine aHf cls hx0 hn hr hρ r _ (vf++[(f,y)]) (fs0++[(f,d)]) ds' aJ sm' (λP hP hR=>?_) (by rw[List.all_append,ok0];simp[hk]) h2 ?_ (λg hg=>na g (by simp at hg ⊢;exact .inr hg)) (by simp at hl ⊢;lia) (λH' vf' a b c=>q H' vf' a b (by simpa using c))
    .have z1:=(rf P hP hR)
     have z2:sI P H2 vf fs0:=z1.keep (λa o e _=>s2 _ _ e) λ_ h=>h
     exact sI.snoc ((ry P hP hR).okK mY.upd hx2 (λ_ h=>h) hk) (z2.okK mY.upd hx2 (λ_ h=>h) ok0)
    .simpa[cu] using nd
   cases s with
   |par i=>
    obtain⟨v,e1,e2⟩:=hρ i d h1;obtain⟨a,C',dx',fs',z⟩:=key v H (bW.refl H) λP hP hR=>(e2 P hR).same sm
    obtain⟨v0,w1,w2⟩:=z;exact⟨v,e1,v0,w1,a,C',dx',fs',w2⟩
   |exp g=>
    refine⟨ρ,d,λi hi=>?_,h1,λy H2 s2 r2 n2=>?_⟩
    .obtain⟨v,e1,e2⟩:=hρ i (ρ.getD i .uD) (by
      unfold cD;split
      .rename_i q;exact aT q hi
      .rfl)
     exact⟨v,e1,(e2 All hr).same sm⟩
    .obtain⟨a,C',dx',fs',z⟩:=key y H2 s2 λP hP hR=>(n2 rfl).mono λa ha=>hP a (by
      cases hq:H1 a with
      |none=>rfl
      |some o=>have:=sm a o hq;rw[show H a=aj from ha] at this;cases this)
     obtain⟨v0,w1,w2⟩:=z;exact⟨v0,w1,a,C',dx',fs',w2⟩
  .exact bx he
def aFc(C:al)(l:ae (Str×Srx))(n:ah):Sp:=λvs H Q _=>∃x dx H1 us ds fs,vs=.ref x::us/\us.length=n/\H x=aa (.ins C dx [])/\H1 x=aj/\bW H1 H/\bK All H1 us ds/\evS (.uD::ds) l=.ok fs/\∀H' vf,bW H1 H'->H' x=aa (.ins C dx vf)->RFx H1 us ds H' vf fs->Q .non H'
theorem V1:∀{us:ae V}{ds:ae D}{i:ah}{d:D},us.length=ds.length->ds[i]?=aa d->∃v,us[i]?=aa v/\∀P,bK P H us ds->Rep P H v d
 |[],[],_,_,_,h=>by simp at h
 |u::us,e::ds,0,d,_,h=>by
  simp at h;subst h;exact⟨u,rfl,λP r=>by cases r;assumption⟩
 |u::us,e::ds,i+1,d,hl,h=>by
  obtain⟨v,h1,h2⟩:=V1 (by simpa using hl) (by simpa using h);exact⟨v,by simpa using h1,λP r=>by cases r with|cons _ t=>exact h2 P t⟩
theorem aHg{P:bS}{w:bu}{K:bi}{mg:Str->ar am}{base:aI}{x qual:Str}{st:bz}{fad C:al}{fd:d4}{N ps:ae Str}{k:ah}{l:ae (Str×Srx)}(F:Fun K x qual st fad fd)(S:cA N ps (aL st))(hN:N.length=ps.length){n:ah}(hp:ps.length=n+1)(cls:Cls K C)(nd:(l.map (·.1)).Nodup)(na:∀f∈l.map (·.1),cQ K C f)(hl:l.length<1000)
 (hbody:∀(cdv:am) (A:b6) (outer:ae c_) (s:au) (H:Hp) (E:XK),mW k (A.deeper (eW qual (aL st) s.heap.objs.size fad cdv))->PSs (J0 CX0 P w K mg base N qual (aL st) fad cdv A outer s H E).nox (cW st) (aQ4 K l)):mO P w K mg base CX0 (k+1) fad fd ps (aFc C l n):=by
 refine F.ok S (λvs H Q E z0=>by obtain⟨_,_,_,us,_,_,e,h,_⟩:=z0;rw[e,hp,br,h]) λcdv A outer s H vs Q E hr ⟨x,dx,H1,us,ds,fs,e,hu,hx,hn,sm,r,he,q⟩=>⟨_,hbody cdv A outer s H E hr,?_⟩
 subst e;have hst:L2.start N (V.ref x::us)=aa (.ref x)::us.map aa:=by
  unfold L2.start;rw[hN,hp,br,hu,Au];simp
 rw[hst];refine aHf cls rfl hn r (λi d hd=>?_) l H [] [] fs hx sm (λ_ _ _=>.nil) rfl he (by simpa using nd) na (by simpa using hl) λH' vf s' hx' rf=>q H' vf s' hx' (by simpa using rf)
 match i,hd with
 |0,hd=>exact bx hd
 |i+1,hd=>
  have hd':cD i ds=.ok d:=hd;have hg:ds[i]?=aa d:=by
   unfold cD at hd';rw[cj] at hd';cases hq:ds[i]? with
   |none=>rw[hq] at hd';exact bx hd'
   |some e=>
    rw[hq] at hd';have:e=d:=by
     revert hd'
     cases e<;>intro z<;>first|(exact bx z;done)|(cases z;rfl)
    rw[this]
  obtain⟨v,h1,h2⟩:=V1 r.length hg;exact⟨v,by simpa using h1,h2⟩
def aLp(P:bS)(w:bu)(K:bi)(mg:Str->ar am)(base:aI)(k:ah)(c:Str)(l:ae (Str×Srx))(n:ah):Prop:=
 ∃(C fi:al)(fd:d4)(ps:ae Str),lp K bj c=aa (aa (.ref C))/\mg c=aa (.ref C)/\Mk K C fi/\mO P w K mg base CX0 k fi fd ps (aFc C l n)/\Binds K fd ps []
def tMk(K:bi)(c:Str)(l:ae (Str×Srx))(n:ah)(t:TA):TE:=λσ H Q=>t σ H λus H1=>∃ds fs,us.length=n/\bK All H1 us ds/\evS (.uD::ds) l=.ok fs/\∀C x dx H' vf,lp K bj c=aa (aa (.ref C))->H1 x=aj->bW H1 H'->H' x=aa (.ins C dx vf)->RFx H1 us ds H' vf fs->Q (.ref x) H'
section
variable {x c:Str}
theorem aJt(R:aLp X.prog X.w X.K X.mg X.base k x l n)(hr:mW k' X.A)(hkk:k+1<=k')(hg:Gl X x)(ha:PA X (e::es) t)(hdb:autoParam (nDb x) Λ)(he:autoParam (zSE X e es) Ω)(hpl:autoParam (zSP X pos es) Ω)(hmono:∀(σ:L2.St) (H:Hp) (Q Q':ae V->Hp->Prop),(∀vs H',Q vs H'->Q' vs H')->t σ H Q->t σ H Q') :
  PE X (.Call (.Name x p) (e::es) [] pos) (tMk X.K x l n t):=by
 obtain⟨C,fi,fd,ps,hn,hm,M,F,hb⟩:=R;refine PE.imp (aIe M F (hr.mono hkk) hg hm hb .nil aEa ha hdb he hpl) λσ H Q h=>hmono σ H _ _ ?_ h
 rintro us H1 ⟨ds,fs,hl,r,he,q⟩ y dx hy hdx hne;refine⟨y,dx,H1,us,ds,fs,by rw[cv],hl,aJ,hy,λa o e=>?_,r,he,λH' vf s' hx' rf=>⟨rfl,q C y dx H' vf hn hy s' hx' rf⟩⟩;rw[aO (bL e hy),aO (bL e hdx)];exact e
def QL(K:bi)(c f:Str):Prop:=∀C,lp K bj c=aa (aa (.ref C))->Cls K C/\cQ K C f
theorem NK(hK:KFrag.K=X.K)(R:QL X.K c f)(he:PE X e (gE fe re))(hb:autoParam (fx e f X.env (eval e X.env)=eval e X.env) Ω):PE X (.Attribute e f pos) (gE (aFb c f fe) ak):=PE.imp (j0 he hb) λσ H Q z0=>by
 obtain⟨ρ,d,E,h,q⟩:=z0;obtain⟨d0,h1,h2⟩:=a_ h;split at h2
 .rename_i c' fs;split at h2
  .rename_i hc;have hc:=d5 hc;subst hc;refine⟨ρ,_,E,h1,λv H1 s1 r1 _=>?_⟩;obtain⟨_,_,_,_,rfl,hn,hx,rf⟩:=r1.inv;rw[hK] at hn;obtain⟨k1,k2⟩:=R _ hn;cases hl:fs.lookup f with
   |none=>rw[hl] at h2;exact bx h2
   |some d1=>
    rw[hl] at h2;cases h2;obtain⟨w,g1,g2⟩:=rf.look hl;exact⟨_,_,_,_,w,rfl,hx,k1,k2,g1,q w H1 s1 g2 (λz=>by cases z)⟩
  .exact bx h2
 .exact bx h2
end
end
noncomputable def rowOf(s:bz)(j:ah):bz:=match s with
 |.ClassDef _ _ _ b _ _ _ _ _ _ _=>b.getD j (.Pass ⟨0,0,0,0⟩)
 |_=>.Pass ⟨0,0,0,0⟩
def NP(i:ah):FX:=λρ=>match M5 (ρ.getD i .uD) with
 |some xs=>(match xs[xs.length-1]? with|some x=>.ok (x,ρ.set i (aF2 (ρ.getD i .uD) xs.dropLast))|none=>.bad)
 |none=>.bad
section
variable [KFrag]
theorem sI.NQ:∀{v:ae (Str×V)}{d:ae (Str×D)},sI P H v d->d.lookup f=aj->v.lookup f=aj
 |_,_,.nil,_=>rfl
 |_,_,.cons r t,h=>by
  rw[gL] at h ⊢;split at h
  .cases h
  .exact sI.NQ t h
section
theorem aJu(ho:own i=ag)(hN:X.N[i]?=aa x)(hv:Vis X.env.scope x)(hd:autoParam (nDb x) Λ)(hcd:autoParam (nCd x) Λ)
 (hbase:autoParam (fx (.Name x p1) "pop" X.env (eval (.Name x p1) X.env)=eval (.Name x p1) X.env) Ω)
 (hline:autoParam ((apos.endLine==cpos.line)=ag) Ω) :
  PE X (.Call (.Attribute (.Name x p1) "pop" apos) [] [] cpos) (gX own (NP i)):=
 PE.imp (UJ io wj Aa aA8 (aW hN hv hd hcd) hbase hline) λσ H Q z0=>by
 obtain⟨ρ,d,ρ',E,h,q⟩:=z0;unfold NP at h;split at h
 .rename_i xs hx;split at h
  .rename_i dx hdx;cases h;obtain⟨a,vs,hσ,hl,rr,hin,r,_⟩:=HW E ho hx;obtain⟨v,hvx,rv⟩:=rr.get hdx;have hlen:=rr.length;refine⟨_,hσ,.inl ⟨rfl,vs,.of hl⟩,a,vs,v,rfl,rfl,hl,by rw[hlen];exact hvx,?_⟩;have pall:∀y∈xs,y.pure=ag:=λy hy=>cL.mp hin y hy
   have pdx:d.pure=ag:=pall d (kP hdx);have pe:ε xs.dropLast=ag:=cL.mpr λy hy=>pall y (Ck _ hy)
   have er:bK All H vs.dropLast xs.dropLast:=by
    rw[xm,xm,hlen];exact rr.take _
   obtain⟨E2,k2⟩:=E.mut ho hσ rfl (aBo r hx aJ trivial (er.upd pe hl rfl)) (by rw[R6 hx];exact pe);have r1:=(bK.cons rv .nil).upd (o:=.lst vs.dropLast) (by rw[ε,pdx];rfl) hl rfl;cases r1 with
   |cons r1 _=>exact q _ _ k2 E2 (.set ho) (r1.bT pdx)
  .exact bx h
 .exact bx h
end
noncomputable def own1(j:ah):ah->aw:=λi=>i==j
end
variable [KFrag]
def aR7(K:bi)(i:ah):TE:=aSi K "list" aSj (gW i)
def tm1:TE:=tUn (rU λi=>.int (-i)) (tC (.int 1))
def aSo(K:bi)(i:ah):TT:=λσ H Q=>gW i σ H λx H'=>∃k,aPw K x H' k/\Q k H'
section
theorem aFd:xT "left" (.int (((j+1:ah):ai)-1)) [("words",w1),("left",.int ((j+1:ah):ai)),("known",w3)]=([("words",w1),("left",.int j),("known",w3)]:ae (Str×V)):=by
 have:((j+1:ah):ai)-1=j:=by lia
 rw[this];unfold xT;rw[ax 0x4];unfold xT;rw[ao rfl]
end
end Mi
namespace Wl
open PySem PySem.Spec
noncomputable abbrev aDp(K:Type):=ae K×al×am
noncomputable def z8{K:Type}[dP K](xs:ae (aDp K))(ps:ae (aDp K)):ae (aDp K):=ps.foldl (λacc p=>lh acc p.1 p.2.1 p.2.2) xs
def PrH{prog:bS}{w:bu}{K:Type}[dP K](knd:KeyKind prog w K)(items:bp am)(ps:ae (aDp K))(h:aI):Prop:=items.size=ps.length/\∀(i:ah)(kv:aDp K),ps[i]?=aa kv->xB knd h kv.1 kv.2.1/\∃(p:al)(o:bn)(n:ah),items[i]?=aa (du p)/\h.get? p=aa o/\o.cls=.type "tuple"/\o.data=.seq #[.ref kv.2.1,kv.2.2] n
theorem HY[dP K]{knd:KeyKind prog w K}{a:al}{h h':aI}(x:xB knd h ks a)(k:∀c o,o.cls=.type "tuple"->h.get? c=aa o->h'.get? c=aa o):xB knd h' ks a:=
 let ⟨o,its,n,h1,h2,h3⟩:=x;⟨o,its,n,k a o h2 h1,h2,h3⟩
theorem PrH.keep[dP K]{knd:KeyKind prog w K}{items:bp am}{ps:ae (aDp K)}{h h':aI}(x:PrH knd items ps h)(k:∀c o,o.cls=.type "tuple"->h.get? c=aa o->h'.get? c=aa o):PrH knd items ps h':=
 ⟨x.1,λi kv e=>let ⟨z,p,o,n,h1,h2,h3,h4⟩:=x.2 i kv e;⟨HY z k,p,o,n,h1,k p o h3 h2,h3,h4⟩⟩
theorem yP[dP K]{knd:KeyKind prog w K}{d:al}{xs:ae (aDp K)}{h h':aI}(x:h.DictOfH (fT knd) d xs)(hd:∀o,h.get? d=aa o->h'.get? d=aa o)(k:∀c o,o.cls=.type "tuple"->h.get? c=aa o->h'.get? c=aa o):h'.DictOfH (fT knd) d xs:=
 let ⟨o,es,ep,h1,h2,h3,h4,h5,h6⟩:=x;⟨o,es,ep,hd o h1,h2,h3,h4,λy hy=>HY (h5 y hy) k,h6⟩
section
variable {prog:bS} {w:bu} {K:Type} [dP K] {knd:KeyKind prog w K} {A:b6} {R:Except am Flow->au->Prop} {it l d:al} {items:bp am} {ps:ae (aDp K)} {nl:ah}
theorem aR8(hh:A.handled=aj)(hu:A.units+1<dE)(hdi:d≠it)(hdl:d≠l)(hil:l≠it) :
  ∀(m k:ah)(s:au)(kvs:ae (aDp K)),k+m=items.size->kvs.length+m<=bo->s.heap.IsListIter it l k->s.heap.get? l=aa (liO items nl)->PrH knd items ps s.heap->s.heap.DictOfH (fT knd) d kvs->
  (∀h' tk,h'.DictOfH (fT knd) d (z8 kvs (ps.drop k))->(∀c o,c≠d->c≠it->s.heap.get? c=aa o->h'.get? c=aa o)->R (.ok (.ret .none)) {s with heap:=h',toks:=tk})->
  codeAny (ay prog w) A (.builtin "dict.update.loop" ⟨[.ref d,.ref it,cz k,.none],[]⟩) R s:=by
 intro m;induction m with
 |zero=>
  intro k s kvs hkm hl Z el Pp hd q;refine lz Wz.lH ?_;rw[nw (show ny "dict.update.loop"=ag by decide +kernel) _];refine aq (s0 hh Z ⟨_,el,rfl,_,rfl⟩ (wy 0x1) λh' kp=>?_);refine aq ?_;unfold Ah;rw[ke];refine aq (bc (bc (bc ?_)));have e:ps.drop k=[]:=ik (by have:=Pp.1;lia);rw[e] at q;have ni:∀c (oc:bn),oc.cls=.type "tuple"->s.heap.get? c=aa oc->c≠it:=λc oc hoc e=>let ⟨oi,ei,ci,_⟩:=Z;FJ e hoc ei ci 0x4
  exact q _ s.toks (yP hd (λo ho=>kp d o hdi ho) λc o hc e=>kp c o (ni c o hc e) e) λc o _ c1 e=>kp c o c1 e
 |succ m ih=>
  intro k s kvs hkm hl Z el Pp hd q;have hlp:k<ps.length:=by have:=Pp.1;lia
  obtain⟨hik,p,o,n,hi,hp,hpc,hpd⟩:=Pp.2 k ps[k] (dq hlp);have ni:∀c (oc:bn),oc.cls=.type "tuple"->s.heap.get? c=aa oc->c≠it:=λc oc hoc e=>let ⟨oi,ei,ci,_⟩:=Z;FJ e hoc ei ci 0x4
  have hpi:p≠it:=ni p o hpc hp;refine lz Wz.lH ?_;rw[nw (show ny "dict.update.loop"=ag by decide +kernel) _];refine aq (sR Z ⟨_,el,rfl,_,rfl⟩ hi λh' Z' kp=>?_);have hp':h'.get? p=aa o:=(kp.2 p hpi).trans hp;refine aq (eL (aq (Ai ?_)));refine aq (jI ⟨_,hp',hpc⟩ ?_);rw[ao 0x4];refine aq (ir hp' hpd (bc ?_));show ϑ _ _ (kK [.ref ps[k].2.1,ps[k].2.2] (Aj d (.ref ps[k].2.1) ps[k].2.2)) _ _ _;have kt:∀c (oc:bn),oc.cls=.type "tuple"->s.heap.get? c=aa oc->h'.get? c=aa oc:=λc oc hoc e=>(kp.2 c (ni c oc hoc e)).trans e
  have hd':h'.DictOfH (fT knd) d kvs:=yP hd (λo ho=>(kp.2 d hdi).trans ho) kt;refine eL (wpAny_dictSet_heap (wl hu) (HY hik kt) hd' λh2 hd2' sb=>?_);refine bc ⟨ly _ 0x6,?_⟩;have ek:(cz (k+1):am)=cz ((k+1:ah):ai):=rfl;rw[ek];have hdrop:ps.drop k=ps[k]::ps.drop (k+1):=ii hlp;have ls:(lh kvs ps[k].1 ps[k].2.1 ps[k].2.2).length<=kvs.length+1:=by
   unfold lh;split
   .rw[az];lia
   .rw[bq];exact bt _
  have keep:∀c o,c≠d->c≠it->s.heap.get? c=aa o->h2.get? c=aa o:=λc o c0 c1 e=>(sb.2 c c0).trans ((kp.2 c c1).trans e)
  have hdc:∀c (oc:bn),oc.cls=.type "tuple"->s.heap.get? c=aa oc->c≠d/\c≠it:=λc oc hoc e=>⟨let ⟨o1,_,_,e1,c1,_⟩:=hd;FJ e hoc e1 c1.1 0x4,ni c oc hoc e⟩
  refine ih (k+1) _ (lh kvs ps[k].1 ps[k].2.1 ps[k].2.2) 0x1 0x1 (let ⟨oi,ei,r⟩:=Z';⟨oi,(sb.2 it (Ne.symm hdi)).trans ei,r⟩) (keep l _ (Ne.symm hdl) hil el) (Pp.keep λc oc hoc e=>keep c oc (hdc c oc hoc e).1 (hdc c oc hoc e).2 e) hd2' λh3 tk hd3 kp3=>?_
  exact q h3 tk (by rw[hdrop];exact hd3) λc o c0 c1 e=>kp3 c o c0 c1 (keep c o c0 c1 e)
end
section
variable {prog:bS} {w:bu} {K:Type} [dP K] {knd:KeyKind prog w K} {A:b6} {E:am->au->Prop} {hp:aI} {g:bp r_} {dr:se} {tk:ah} {os:sf} {l:al} {items:bp am} {ps:ae (aDp K)} {nl:ah}
theorem Y6{Q:am->au->Prop}(hh:A.handled=aj)(hu:A.units+2<dE)(el:hp.get? l=aa (liO items nl))(Pp:PrH knd items ps hp)(hz:items.size<=1000000)
 (q:∀h' tk',h'.DictOfH (fT knd) hp.objs.size (z8 [] ps)->(∀c o,hp.get? c=aa o->h'.get? c=aa o)->Q (.ref hp.objs.size) ⟨h',g,dr,tk',os⟩) :
  ϑ (ay prog w) A (call (.type "dict") [.ref l]) Q E ⟨hp,g,dr,tk,os⟩:=by
 have hnew:(hp.push {cls:=.type "dict",data:=.dict #[]}).DictOfH (fT knd) hp.objs.size []:=Ei hp;have up:∀c o,hp.get? c=aa o->(hp.push {cls:=.type "dict",data:=.dict #[]}).get? c=aa o:=λc o e=>bX _ e
 have lt:∀{c o},hp.get? c=aa o->hp.objs.size≠c:=λe=>iP (bE e)
 refine xv (Q₁:=λv s₁=>v=.ref hp.objs.size/\s₁=⟨hp.push {cls:=.type "dict",data:=.dict #[]},g,dr,tk,os⟩) Ak (Al _) Am (An _ ⟨rfl,rfl⟩) λv s₁ hv=>?_
 obtain⟨rfl,rfl⟩:=hv;have ty:(⟨hp.push {cls:=.type "dict",data:=.dict #[]},g,dr,tk,os⟩:au).TypeIs (.ref hp.objs.size) "dict":=hnew.typeIs;have ez:=up _ _ el;have tz:(⟨hp.push {cls:=.type "dict",data:=.dict #[]},g,dr,tk,os⟩:au).TypeIs (.ref l) "list":=⟨_,ez,rfl⟩
 refine⟨ty,Ao _ _,aq (aq (Ap ty (bc ?_)))⟩;refine aq (jI tz ?_);rw[ao 0x4];refine aq (lacks ez hh λh' tk' kp=>?_);rw[ao (show(aj:ar am).isNone=ag from rfl)];refine aq (kq (aq (mM ⟨_,kp _ _ ez,rfl,_,rfl⟩ (bc ⟨ly _ 0x6,?_⟩))));have hd':h'.DictOfH (fT knd) hp.objs.size []:=yP hnew (λo ho=>kp _ _ ho) λc o _ e=>kp c o e
 have ltd:hp.objs.size<h'.objs.size:=let ⟨o,es,ep,ho,r⟩:=hd';bE ho
 have ltl:l<h'.objs.size:=bE (kp _ _ ez);refine aR8 (ps:=ps) (it:=h'.objs.size) (l:=l) (items:=items) (nl:=nl) (show A.in1.handled=aj from hh) (show A.units+1+1<dE from hu) (cy ltd) (lt el) (cy ltl) items.size 0 _ [] 0x1 (by rw[fj,dv];lia) ⟨_,dh _ rfl,rfl,rfl⟩ (bX _ (kp _ _ ez)) (Pp.keep λc o _ e=>bX _ (kp c o (up c o e))) (yP hd' (λo ho=>bX _ ho) λc o _ e=>bX _ e) λh2 tk2 hd2 kp2=>?_
 exact⟨rfl,q h2 tk2 hd2 λc o e=>kp2 c o (λx=>lt e x.symm) (cy (bE (kp c o (up c o e)))) (bX _ (kp c o (up c o e)))⟩
end
end Wl
namespace Mi
open PySem L2 PySem.SeqAt PySem.Spec PyProof.Rows
def z9:ae D->ar (ae (D×D))
 |[]=>aa []
 |.tup [.tup ks,v]::r=>if ks.all gZ&&v.pure then (z9 r).map ((.tup ks,v)::·) else aj
 |_::_=>aj
def H_:D->Res D
 |.lst xs=>match z9 xs with
  |some ps=>if ϒ (xs.length<=1000) then .ok (.dct (lJ [] ps)) else .bad
  |none=>.bad
 |_=>.bad
variable [KFrag]
theorem aBy(I:Inv X Ψ σ H s):∀{xs:ae D}{vs:ae V}{us:ae am}{ps:ae (D×D)},bK All H vs xs->Vals vs us->z9 xs=aa ps->
  ∃(kvs:ae (ae Key×V))(prs:ae (ae Key×al×am)),KT H kvs prs/\mZ All H kvs ps/\ε (ps.map (·.2))=ag/\us.length=prs.length/\∀(i:ah)(kv:ae Key×al×am),prs[i]?=aa kv->xB (cN X.prog X.w) s.heap kv.1 kv.2.1/\∃(p:al)(o:bn)(n:ah),us[i]?=aa (du p)/\s.heap.get? p=aa o/\o.cls=.type "tuple"/\o.data=.seq #[.ref kv.2.1,kv.2.2] n:=by
 intro xs;induction xs with
 |nil=>
  intro vs us ps r rv h;cases r;cases rv;cases h;exact⟨[],[],.nil,.nil,rfl,rfl,λi kv h=>by simp at h⟩
 |cons d xs ih=>
  intro vs us ps r rv h;cases r with
  |cons r t=>
  cases rv with
  |cons rv tv=>
  unfold z9 at h;split at h
  .rename_i h0;cases h0
  .rename_i k v r' h0;injection h0 with h0 h1
   subst h0 h1;split at h
   .rename_i hf;rw[aS] at hf;obtain⟨ps',hp,rfl⟩:=i0.mp h;obtain⟨kvs,prs,g1,g2,g3,g4,g5⟩:=ih t tv hp;obtain⟨a,ws,rfl,ea,rr⟩:=r.jG;cases rv;obtain⟨its,rvs,o,ho,hc,n,hd⟩:=m9 I ea;cases rr with
    |cons rk rr=>
     cases rr with
     |cons rw_ rr=>
      cases rr;cases rvs with
      |cons q1 rvs=>
       cases rvs with
       |cons q2 rvs=>
        cases rvs;rename_i wk ww uk uw;rcases jO (k:=.tup k) hf.1 rk with ⟨q,_,e⟩|⟨b,ks,rfl,eb,e⟩
        .cases q<;>cases e
        .injection e with e
         subst e;cases q1;refine⟨(ks,ww)::kvs,(ks,b,uw)::prs,.cons ⟨rfl,eb,q2⟩ g1,.cons rw_ g2,by rw[bd,ε,hf.2,g3];rfl,by rw[br,br,g4],λi kv hi=>?_⟩;cases i with
         |zero=>
          simp at hi;subst hi;exact⟨KZ I.hok eb,a,o,n,rfl,ho,hc,hd⟩
         |succ i=>
          obtain⟨z0,p,o',n',z1,z2⟩:=g5 i kv (by simpa using hi);exact⟨z0,p,o',n',by simpa using z1,z2⟩
   .cases h
  .cases h
def mV(kvs more:ae (ae Key×V)):ae (ae Key×V):=more.foldl (λacc p=>putK acc p.1 p.2) kvs
theorem FQ:∀{more:ae (ae Key×V)}{ds:ae (D×D)}{kvs:ae (ae Key×V)}{es:ae (D×D)},mZ P H more ds->mZ P H kvs es->(kvs.map (·.1)).Nodup->mZ P H (mV kvs more) (lJ es ds)/\((mV kvs more).map (·.1)).Nodup
 |_,_,_,_,.nil,r,n=>⟨r,n⟩
 |_,_,_,_,.cons (k:=k) rv t,r,n=>by have:=FQ t (yN (k:=k) rv r n) (jR n);exact this
theorem V2:∀{more:ae (ae Key×V)}{ms:ae (ae Key×al×am)}{kvs:ae (ae Key×V)}{xs:ae (ae Key×al×am)},KT H more ms->KT H kvs xs->KT H (mV kvs more) (Wl.z8 xs ms)
 |_,_,_,_,.nil,r=>r
 |_,_,_,_,.cons (a:=p) (b:=q) h t,r=>by
  have h1:=h.1;have:=V2 t (r.put p.1 h.2.1 h.2.2);show KT H (mV (putK _ p.1 p.2) _) (Wl.z8 (lh _ q.1 q.2.1 q.2.2) _);rw[<-h1];exact this
theorem FW:∀(more kvs:ae (ae Key×V)),(mV kvs more).length<=kvs.length+more.length
 |[],kvs=>bt _
 |p::r,kvs=>by
  have h1:=FW r (putK kvs p.1 p.2);have h2:=lU kvs p.1 p.2;rw[br];show(mV (putK kvs p.1 p.2) r).length<=_;lia
section
theorem Y7(hc:X.calm=ag)(hu:X.A.units+20<dE)(hg:Gl X "dict")(hm:X.mg "dict"=aj)(he:PE X e (gE fe re))(hs:autoParam (b5 [e] X.env=[(ak,eval e X.env)]) Ω) :
  PE X (.Call (.Name "dict" p) [e] [] pos) (gE (b1 H_ fe) ag):=by
 intro Ψ s σ H Q I ⟨ρ,d,E,h,q⟩;obtain⟨d0,h1,h2⟩:=a_ h;unfold H_ at h2;split at h2
 rotate_left
 .exact bx h2
 rename_i xs;split at h2
 rotate_left
 .exact bx h2
 rename_i ps hps;split at h2
 rotate_left
 .exact bx h2
 rename_i hb;cases h2;have hb:=d5 hb;refine hZ (oA I hg hm HQ ?_);refine jv ?_ hs rfl;rw[hs];show ϑ _ _ (kF [(ak,eval e X.env)]) _ _ s;refine me (thn (he Ψ s σ H (λv H1=>bW H H1/\Rep All H1 v (.lst xs)) I ⟨ρ,_,E,h1,λv H1 s1 r1 _=>⟨s1,r1⟩⟩) λu s1 ⟨x,H1,I1,ru,sm,rx⟩=>?_);obtain⟨a,vs,rfl,ea,rr⟩:∃a vs,x=.ref a/\H1 a=aa (.lst vs)/\bK All H1 vs xs:=by
  obtain⟨_,_,rfl,e,p,r⟩:=rx.inv;exact⟨_,_,rfl,e,r⟩
 cases ru;refine md ?_;obtain⟨hz,its,nl,rv,hl⟩:vs.length<=bo/\∃(its:ae am)(n:ah),Vals vs its/\s1.heap.get? a=aa {cls:=.type "list",data:=.seq its.toArray n}:=I1.hok a _ ea;obtain⟨kvs,prs,g1,g2,g3,g4,g5⟩:=aBy I1 rr rv hps;have hlen:its.length<=1000:=by rw[<-rv.length,rr.length];exact hb
 obtain⟨hp,g,dr,tk,os⟩:=s1;refine Wl.Y6 (knd:=cN X.prog X.w) (ps:=prs) (items:=its.toArray) (I1.ok.hd hc) 0x1 hl ⟨by rw[b9];exact g4,λi kv hi=>?_⟩ (by rw[b9];lia) λh' tk' hd kp=>?_
 .obtain⟨z0,p,o,n,z1,z2⟩:=g5 i kv hi;exact⟨z0,p,o,n,by simpa using z1,z2⟩
 .have hfr:H1 hp.objs.size=aj:=I1.hok.fresh (bt _);have rel:KT H1 (mV [] kvs) (Wl.z8 [] prs):=V2 g1 .nil;have hz2:(mV [] kvs).length<=bo:=by
   have:=FW kvs [];have l1:kvs.length=prs.length:=jo g1;rw[fj] at this;rw[dv];lia
  obtain⟨rk,nd⟩:=FQ (kvs:=[]) g2 mZ.nil gj;have sp:bW H1 (upd H1 hp.objs.size (.dT (mV [] kvs))):=bW.upd hfr;have rk2:∀{P:al->Prop},mZ P (upd H1 hp.objs.size (.dT (mV [] kvs))) (mV [] kvs) (lJ [] ps):=λ{P}=>(rk.keep (.same sp) λ_ h=>h).bT (nD g3 rfl)
  obtain⟨o,es,ep,k1,k2,k3,k4,_,k6⟩:=hd;refine⟨.ref hp.objs.size,_,I1.laid (a:=hp.objs.size) (t':=tk') (o:=.dT (mV [] kvs)) kp (bt _) ⟨hz2,fA.mpr ?_,_,rel.keeps λb ys e=>sp _ _ e,o,es,ep,k1,k2,k3,k4,k6⟩,rfl,?_⟩
  .exact Ne.symm (cy I1.big)
  .exact q _ _ (sm.trans sp) (.dT aJ trivial rk2 nd) λ_=>.dT aJ (sm.free hfr) rk2 nd
end
end Mi
namespace Mi
open PySem
theorem aBz(o:bn)(f:bp am->bp am):(o.mapFields f).dict=o.dict:=by
 obtain⟨c,d,dt,sl⟩:=o;cases dt<;>rfl
theorem V3(T:al):(du T !=fS)=ag:=by simp
theorem aFe(L:al):¬((fS==cz L)=ag):=by simp[cz]
def TrD(h B:aI)(e:al)(c:am)(dd:ar al)(fl:am):Prop:=
 ∃o vs T oT ts,(h.get? e=aa o/\o.cls=c/\o.dict=dd/\o.data=.fields vs)/\(vs[1]?=aa (.ref T)/\B.get? T=aj/\T≠e)/\h.get? T=aa oT/\oT.data=.fields ts/\ts[3]?=aa fl/\(dd≠aj->vs[2]?=aa .none)
def FD(B:aI)(l:ae c_)(e:al)(c:am)(dd:ar al)(fl:am)(h:aI):Prop:=B.StaysIn h/\B.get? e=aj/\h.FunFrames B l/\TrD h B e c dd fl
theorem FD.there(x:FD B l e c dd fl h):∃o,h.get? e=aa o/\o.cls=c/\o.dict=dd/\∃vs,o.data=.fields vs:=by
 obtain⟨_,_,_,o,vs,_,_,_,⟨a,b,d,f⟩,_⟩:=x;exact⟨o,a,b,d,vs,f⟩
section
variable {M:Model} {A:b6} {E:am->au->Prop} {s:au} {B:aI} {env:c_} {outer l:ae c_} {L e:al} {oe:bn} {vs:bp am} {head c:am} {dd:ar al} {Q:Unit->au->Prop}
theorem SJ{h:aI}(i:ah)(v:am)(ho:h.get? a=aa o)(hd:o.data=.fields ws) :
  ∃h2:aI,h2=h.update a (ng (·.setIfInBounds i v))/\(∀b,b≠a->h2.get? b=h.get? b)/\∃o2,h2.get? a=aa o2/\o2.cls=o.cls/\o2.dict=o.dict/\o2.data=.fields (ws.setIfInBounds i v):=
 ⟨_,rfl,λb hb=>mr _ _ (Ne.symm hb),_,jj _ ho (Ar (nK hd _)),C3 _ _,aBz _ _,nK hd _⟩
theorem V4(hfr:A.frames=aa (env::outer))(hl:s.heap.FunFrames B (env::outer))(hf:env.frame=aa L)(he:s.heap.get? e=aa oe)(hB:B.StaysIn s.heap)(hn:B.get? e=aj)(hd:oe.data=.fields vs)(hz:1<vs.size)(h2:oe.dict≠aj->vs[2]?=aa .none)
 (q:∀h',FD B (env::outer) e oe.cls oe.dict (cz L) h'->s.heap.UpToSlots h'->Q () {s with heap:=h'}) :
  ϑ M A (do let a <- frameOf env;let pl <- entryPlaceOf L had;let b <- Da head a .none (cz L) .none pl;setField (.ref e) 1 b) Q E s:=by
 have nf:e∉(env::outer).filterMap (·.frame):=λz=>by
  obtain⟨_,o,ho,k⟩:=hl.mem z;cases he.symm.trans ho;exact k _ hd
 refine aq (wpAny_frameOf_fun hfr hl hf λh1 so=>aq (wpAny_entryPlaceOf λpl hp=>?_));unfold Da;unfold newFields;refine aq (ji ?_ (hp.sizeOk5 _ _ _ _ _));generalize hon:({cls:=.type "traceback",dict:=aj,data:=.fields ([head,.ref L,.none,cz L,.none]++(if pl.isEmpty then cq 6 fS else pl)).toArray}:bn)=on;have e1:h1.get? e=aa oe:=(so.2.1 e nf).trans he;have B1:B.StaysIn h1:=λb o k=>(so.2.1 b λz=>by rw[(hl.mem z).1] at k;cases k).trans (hB b o k)
 have e2:=bX on e1;obtain⟨h3,r3,k3,o3,g3,c3,d3,f3⟩:=SJ 1 (.ref h1.objs.size) e2 hd;have ne:h1.objs.size≠e:=iP (bE e1);have t3:h3.get? h1.objs.size=aa on:=(k3 _ ne).trans (dh h1 (by rw[<-hon];rfl));have keep:∀b o,b≠e->h1.get? b=aa o->h3.get? b=aa o:=λb o hb k=>(k3 b hb).trans (bX _ k)
 have nr:∀b o,s.heap.get? b=aa o->(∀vs,o.data≠.fields vs)->b≠e:=λb o k z w=>by
  rw[w] at k;cases he.symm.trans k;exact z _ hd
 have up:s.heap.UpToSlots h3:=λb o k z=>by
  obtain⟨sl,w⟩:=so.2.2 b o k;exact⟨sl,keep b _ (nr b o k z) w⟩
 refine nI e2 hd hz ?_;rw[<-r3];refine q h3 ⟨λb o k=>keep b o (λz=>by rw[z,hn] at k;cases k) (B1 b o k),hn,hl.of_keeps λb o k z=>let ⟨sl,w⟩:=up b o k z;⟨_,w,rfl⟩,?_⟩ up;have don:on.data=.fields ([head,.ref L,.none,cz L,.none]++(if pl.isEmpty then cq 6 fS else pl)).toArray:=by rw[<-hon]
 exact⟨o3,_,h1.objs.size,on,_,⟨g3,c3,d3,f3⟩,⟨by simp[hz],B1.fresh,ne⟩,t3,don,by simp,λz=>by rw[Array.getElem?_setIfInBounds,ax 0x4];exact h2 z⟩
theorem wG(x:FD B l e c dd fl s.heap)(q:∀h',FD B l e c dd .none h'->s.heap.UpToSlots h'->Q () {s with heap:=h'}):ϑ M A (setFlight (.ref e) aj) Q E s:=by
 obtain⟨k1,k2,k3,o,vs,T,oT,ts,⟨g1,g2,g3,g4⟩,⟨t1,t2,t3⟩,u1,u2,u3,u4⟩:=x;obtain⟨h2,r2,j2,o2,p1,p2,p3,p4⟩:=SJ 3 fS u1 u2;have hz:3<ts.size:=(sr.mp u3).1;have up:∀b o,s.heap.get? b=aa o->(∀vs,o.data≠.fields vs)->h2.get? b=aa o:=λb o k z=>(j2 b λw=>by
  rw[w] at k;cases u1.symm.trans k;exact z _ u2).trans k
 unfold setFlight;refine aq (dn g1 g4 t1 ?_);rw[ao (V3 T)];refine nI u1 u2 hz ?_;show Q () {s with heap:=s.heap.update T (ng (·.setIfInBounds 3 fS))};rw[<-r2];exact q h2 ⟨λb o k=>(j2 b λw=>by rw[w,t2] at k;cases k).trans (k1 b o k),k2,k3.of_keeps λb o k z=>⟨o,up b o k z,rfl⟩,o,vs,T,o2,_,⟨(j2 e (Ne.symm t3)).trans g1,g2,g3,g4⟩,⟨t1,t2,t3⟩,p1,p4,by simp[hz],u4⟩ λb o k z=>⟨o.slots,up b o k z⟩
theorem aC0(hfr:A.frames=aa (env::outer))(hf:env.frame=aa L)(x:FD B (env::outer) e c dd .none s.heap)(q:∀h',FD B (env::outer) e c dd (cz L) h'->s.heap.UpToSlots h'->Q () {s with heap:=h'}):ϑ M A (Av (.ref e) env) Q E s:=by
 obtain⟨k1,k2,k3,o,vs,T,oT,ts,⟨g1,g2,g3,g4⟩,⟨t1,t2,t3⟩,u1,u2,u3,u4⟩:=x;obtain⟨h2,r2,j2,o2,p1,p2,p3,p4⟩:=SJ 3 fS u1 u2;have up:∀b o,s.heap.get? b=aa o->(∀vs,o.data≠.fields vs)->h2.get? b=aa o:=λb o k z=>(j2 b λw=>by
  rw[w] at k;cases u1.symm.trans k;exact z _ u2).trans k
 unfold Av;simp only[hf];refine aq (dn g1 g4 t1 ?_);rw[ao (V3 T)];refine aq (dn u1 u2 u3 ?_);rw[ax (aFe L)];refine aq (nI u1 u2 (sr.mp u3).1 ?_);rw[<-r2];have g1':h2.get? e=aa o:=(j2 e (Ne.symm t3)).trans g1;subst g2 g3;refine V4 hfr (k3.of_keeps λb o k z=>⟨o,up b o k z,rfl⟩) hf g1' (λb o k=>(j2 b λw=>by rw[w,t2] at k;cases k).trans (k1 b o k)) k2 g4 (sr.mp t1).1 u4 λh' y z=>q h' y λb o k w=>z b o (up b o k w) w
theorem aFf(hfr:A.frames=aa (env::outer))(hf:env.frame=aa L)(x:FD B (env::outer) e c dd .none s.heap)(q:∀h',FD B outer e c dd .none h'->s.heap.UpToSlots h'->Q () {s with heap:=h'}):ϑ M A (leaving env (.ref e)) Q E s:=by
 unfold leaving;refine aq (aC0 hfr hf x λh1 x1 u1=>wG x1 λh2 x2 u2=>q h2 ⟨x2.1,x2.2.1,x2.2.2.1.2.2,x2.2.2.2⟩ (u1.trans u2))
theorem aFg(hfr:A.frames=aa (env::outer))(hf:env.frame=aa L)(hl:s.heap.FunFrames B (env::outer))(he:s.heap.get? e=aa oe)(hB:B.StaysIn s.heap)(hn:B.get? e=aj)(hd:oe.data=.fields vs)(hv:vs[1]?=aa .none)(h2:oe.dict≠aj->vs[2]?=aa .none)
 (q:∀h',FD B outer e oe.cls oe.dict .none h'->s.heap.UpToSlots h'->Q () {s with heap:=h'}):ϑ M A (leaving env (.ref e)) Q E s:=by
 unfold leaving Av;simp only[hf];refine aq (aq (dn he hd hv ?_));rw[ax 0x4];exact V4 hfr hl hf he hB hn hd (sr.mp hv).1 h2 λh1 x1 u1=>wG x1 λh2 x2 u2=>q h2 ⟨x2.1,x2.2.1,x2.2.2.1.2.2,x2.2.2.2⟩ (u1.trans u2)
end
open L2 PySem.W PySem.SeqAt PySem.Spec PyProof.Rows Builtin Builtin.ObjectAttr
theorem XO.stay(x:XO a C dx h1)(k:∀o,h1.get? a=aa o->h2.get? a=aa o):XO a C dx h2:=let ⟨o,e,r⟩:=x;⟨o,k _ e,r⟩
section
theorem aR9(x:XO a C dx h):gY P w H h a (.ext (XO a C dx)):=⟨x,let ⟨o,e,_⟩:=x;⟨o,e⟩,λ_ _ y k=>y.stay k⟩
end
def CX2(P:bS)(w:bu):CXT:=λouter H s E e s'=>∃(a C:al)(dd:ar al)(H1:Hp)(B:aI),e=.ref a/\s'.os=s.os/\iE s'.gens/\FD B outer a (.ref C) dd .none s'.heap/\
 (∀h6:aI,B.StaysIn h6->s'.heap.UpToSlots h6->Un (L2.frs outer) [] H H1 s.heap h6/\HOk P w H1 h6)/\H1 a=aj/\s.heap.get? a=aj/\E (.ref C) dd H1
section
variable {P:bS} {w:bu} {K:bi} {mg:Str->ar am} {base:aI} {N:ae Str} {qual:Str} {scope:ft} {f C:al} {cd:am} {A:b6} {outer:ae c_} {s:au} {H:Hp} {E:XK}
theorem wY:zE (CX2 P w) (J0 (CX2 P w) P w K mg base N qual scope f cd A outer s H E) E:=by
 intro Ψ σ Hm sm e s' I hx;obtain⟨a,C,dd,H1,B,rfl,os',bare',fly,clo,hn,hgone,hE⟩:=hx
 let env:=eW qual scope s.heap.objs.size f cd
 have hfr:L2.frs (env::outer)=s.heap.objs.size::L2.frs outer:=by
  unfold L2.frs;rw[ol];rfl
 have u0:Un (L2.frs outer) [] H Hm s.heap sm.heap:=I.base;show ϑ (ay P w) (A.deeper env) (leaving env (.ref a)) (λ_ s''=>CX2 P w outer H s E (.ref a) s'') (λe' s''=>CX2 P w outer H s E e' s'') s';refine aFf I.ok.frames rfl fly λh' x1 x4=>?_
 have hgone0:s.heap.get? a=aj:=by
  cases q:s.heap.get? a with
  |none=>rfl
  |some o=>
   obtain⟨o',e1⟩:=u0.there a o q 0x2;rw[hgone] at e1;cases e1
 refine⟨a,C,dd,H1,B,rfl,os'.trans I.os,bare',x1,λh6 st up=>?_,hn,hgone0,hE⟩;obtain⟨u2,hok⟩:=clo h6 st (x4.trans up);have nL:∀b o,s.heap.get? b=aa o->b∉L2.frs outer->b∉L2.frs (env::outer):=λb o eb hb z=>by
  rw[hfr] at z;rcases cg.mp z with z|z
  .exact aT (bE eb) (by rw[z];exact hU _)
  .exact hb z
 refine⟨⟨λb o eb hn hb hx'=>u2.keep b o (u0.keep b o eb hn hb hx') (u0.free b o eb hn hx') (nL b o eb hb) 0x2,λb o eb hn hb hx'=>?_,λb o eb hn hx'=>?_,λb o eb hx'=>?_,λb xs q=>u2.tups b xs (u0.tups b xs q),λb o u q=>u2.frzs b o u (u0.frzs b o u q),λb ps q=>?_⟩,hok⟩
 .obtain⟨sl,e1⟩:=u0.slot b o eb hn hb hx';obtain⟨sl',e2⟩:=u2.slot b _ e1 (u0.free b o eb hn hx') (show b∈L2.frs (env::outer) by rw[hfr];exact dg _ hb) 0x2;exact⟨sl',e2⟩
 .obtain⟨o',e1⟩:=u0.there b o eb hx';exact u2.free b o' e1 (u0.free b o eb hn hx') 0x2
 .obtain⟨o',e1⟩:=u0.there b o eb hx';exact u2.there b o' e1 0x2
 .obtain⟨m1,q1⟩:=u0.tbls b ps q;obtain⟨m2,q2⟩:=u2.tbls b _ q1;exact⟨m1++m2,by rw[<-AY];exact q2⟩
end
end Mi
namespace Mi
open PySem L2 PySem.W PySem.SeqAt PySem.Spec PyProof.Rows
noncomputable def noE{α:Type}(f:ae D->Res α):ae D->Res α:=λρ=>match f ρ with|.ok a=>.ok a|_=>.bad
theorem aC1(h:f ρ=.ok a):noE f ρ=.ok a:=by unfold noE;rw[h]
theorem aHh{f:ae D->Res α}:(∃a,f ρ=.ok a/\noE f ρ=.ok a)\/noE f ρ=.bad:=by
 unfold noE;cases f ρ with
 |ok a=>exact .inl ⟨a,rfl,rfl⟩
 |err c as=>exact .inr rfl
 |bad=>exact .inr rfl
section
variable [KFrag]
def aRa(E:XK)(H:Hp)(c:Str)(as:ae D):Prop:=∃fs C,as=[.exc c fs]/\nsIn KFrag.K bj c=aa (aa (.ref C))/\∀H' dx,bW H H'->XDs H' fs dx->E (.ref C) dx H'
def kZE(E:XK)(H:Hp)(Q:VK):Res D->Prop
 |.ok d=>kR H d ag Q
 |.err c as=>aRa E H c as
 |.bad=>cb
noncomputable def spZ(f:ae D->Res D)(n:ah):Sp:=λvs H Q E=>∃ds,ds.length=n/\bK All H vs ds/\kZE E H Q (f ds)
def aFh(P:bS)(w:bu)(K:bi)(mg:Str->ar am)(base:aI)(k:ah)(x:Str)(n:ah)(f:ae D->Res D):Prop:=
 ∃(fad:al)(fd:d4)(ps:ae Str),mO P w K mg base (CX2 P w) k fad fd ps (spZ f n)/\mg x=aa (.ref fad)/\gw K (.ref fad)=ag/\Binds K fd ps []
end
open Builtin Builtin.ObjectAttr
noncomputable def aJv(tbl:ae (Str×aw))(i:ah):FE:=λρ=>match ρ.getD i .uD with
 |.exc c _=>(match tbl.lookup c with|some b=>.ok (.bl b)|none=>.bad)
 |_=>.bad
variable [KFrag]
theorem XO.exc(x:XO a C dx h):ExcAt a C h:=let ⟨o,e,c,_⟩:=x;⟨o,e,c⟩
end Mi
namespace Mi
open PySem L2 PySem.W PySem.SeqAt PySem.Spec PyProof.Rows
section
variable [KFrag]
theorem V5(ho:own i=ak)(a:al):Own own (σ.set i aj) a↔Own own σ a:=by
 constructor
 .rintro⟨j,hj,e⟩;have:i≠j:=λz=>by subst z;rw[ho] at hj;cases hj
  rw[dm this] at e;exact⟨j,hj,e⟩
 .rintro⟨j,hj,e⟩;have:i≠j:=λz=>by subst z;rw[ho] at hj;cases hj
  exact⟨j,hj,by rw[dm this];exact e⟩
theorem ES.drop{own:ah->aw}(ho:own i=ak)(es:ES own H σ ρ):ES own H (σ.set i aj) (ρ.set i .uD):=by
 refine⟨by simp[es.len],λj hj=>?_,λj v hj hv=>?_⟩
 .rw[cP] at hj ⊢;by_cases h:i=j/\i<ρ.length
  .rw[ao h] at hj;exact aT rfl hj
  .rw[ax h] at hj ⊢;obtain⟨v,h1,h2⟩:=es.at_ j hj;have ne:i≠j:=λz=>by
    subst z;have:i<σ.length:=(dA.mp h1).1;exact h ⟨rfl,by rw[<-es.len];exact this⟩
   exact⟨v,by rw[dm ne];exact h1,λo=>(h2 o).mono λa n z=>n ((V5 ho a).mp z)⟩
 .have ne:i≠j:=λz=>by subst z;rw[ho] at hj;cases hj
  rw[dm ne] at hv;obtain⟨a,o,h1,h2,h3,h4,h5,h6⟩:=es.own j v hj hv;have e:(ρ.set i .uD).getD j .uD=ρ.getD j .uD:=by rw[cP,ax (λz=>ne z.1)]
  refine⟨a,o,h1,by rw[e];exact h2,by rw[e];exact h3,h4,h5,λl hl hs=>h6 l hl ?_⟩;have:i≠l:=λz=>by subst z;rw[ho] at hl;cases hl
  rwa [dm this] at hs
section
theorem SM(er:ER H σ ρ)(h:ρ.getD i .uD=.exc c fs):∃a C dx,σ[i]?=aa (aa (.ref a))/\nsIn KFrag.K bj c=aa (aa (.ref C))/\H a=aa (.ext (XO a C dx)):=by
 obtain⟨v,h1,r1⟩:=er i (by rw[h];intro z;cases z);rw[h] at r1;obtain⟨a,C,dx,rfl,n,e,q⟩:=r1.inv;exact⟨a,C,dx,h1,n,e⟩
theorem aC2{X:Cx}{i:ah}{y:Str}{p np tpos pos:ck}{es:ae Expr}{kk:ah}{cs:ae al}{tbl:ae (Str×aw)}(hK:KFrag.K=X.K)(ht:∀c b,tbl.lookup c=aa b->∃C,nsIn X.K bj c=aa (aa (.ref C))/\XC X.K C/\nN X.K (.ref C) (cs.map du)=aa b)(hz:cs.length<=bo)(hg:Gl X "isinstance")(hm:X.mg "isinstance"=aj)(hN:X.N[i]?=aa y)(hv:Vis X.env.scope y)(ha:PA X es λ_ H Q=>Q (cs.map V.ref) H)
 (hd:autoParam ((y==("__debug__" : Str))=ak) Λ)(hcd:autoParam ((y==("__classdict__" : Str))=ak) Λ) :
  PE X (.Call (.Name "isinstance" p) [.Name y np,.Tuple es kk tpos] [] pos) (gE (aJv tbl i) ag):=by
 have hc:lR X (.builtin "isinstance") (λvs H Q=>∃a tp C dx b,vs=[.ref a,.ref tp]/\H a=aa (.ext (XO a C dx))/\H tp=aa (.tup (cs.map V.ref))/\XC X.K C/\nN X.K (.ref C) (cs.map du)=aa b/\Q (.bl b) H):=by
  intro Ψ s σ H vs us Q I r ⟨a,tp,C,dx,b,e,ea,et,c,hk,q⟩;subst e;cases r with
  |cons r1 r=>
   cases r with
   |cons r2 r=>
    cases r;cases r1;cases r2;obtain⟨_,its,ri,o,ho,hoc,n,hod⟩:=I.hok tp _ et;have e2:=MK ri;subst e2;obtain⟨c1,d1,dt,sl⟩:=o;replace hod:=cf Prod.fst hod;dsimp only at hoc hod;subst hoc hod;obtain⟨px,_⟩:=I.hok a _ ea;exact kia_tup (HH c) I.kIn px.exc ho hk 0x7 λtk=>⟨.bl b,H,I.tok tk,rfl,q⟩
 refine PE.imp (sV hc hg hm 0x6 (aY (aW hN hv hd hcd) (aY (aA1 ha) dC))) λσ H Q ⟨ρ,d,er,h,q⟩=>?_
 unfold aJv at h;split at h
 .rename_i c fs hρ;split at h
  .rename_i b hb;cases h;obtain⟨a,C,dx,h1,n,e⟩:=SM er hρ;obtain⟨C',n',xc,hk⟩:=ht c b hb;rw[hK,n'] at n;cases n;refine⟨.ref a,h1,⟨by simpa using hz,λtp htp=>⟨a,tp,C,dx,b,rfl,?_,aJ,xc,hk,q _ _ (VL htp) (.bl b) λ_=>.bl b⟩⟩⟩;rw[aO (bL e htp)];exact e
  .exact bx h
 .exact bx h
theorem aJw(hK:KFrag.K=X.K)(ht:∀c b,tbl.lookup c=aa b->∃C,nsIn X.K bj c=aa (aa (.ref C))/\XC X.K C/\iz X.K (.ref C) u=aa b)(hu:∀u',RelV v u'->u'=u)(hg:Gl X "isinstance")(hm:X.mg "isinstance"=aj)(hN:X.N[i]?=aa y)(hv:Vis X.env.scope y)(ha:PE X ce (tC v))
 (hst:b5 [ce] X.env=(ak,eval ce X.env)::b5 [] X.env)(hpl:(fF pos (b5 [ce] X.env)).any (·.1)=ak)
 (hd:autoParam ((y==("__debug__" : Str))=ak) Λ)(hcd:autoParam ((y==("__classdict__" : Str))=ak) Λ) :
  PE X (.Call (.Name "isinstance" p) [.Name y np,ce] [] pos) (gE (aJv tbl i) ag):=by
 have hc:lR X (.builtin "isinstance") (λvs H Q=>∃a C dx b,vs=[.ref a,v]/\H a=aa (.ext (XO a C dx))/\XC X.K C/\iz X.K (.ref C) u=aa b/\Q (.bl b) H):=by
  intro Ψ s σ H vs us Q I r ⟨a,C,dx,b,e,ea,c,hk,q⟩;subst e;cases r with
  |cons r1 r=>
   cases r with
   |cons r2 r=>
    cases r;cases r1;have e2:=hu _ r2;subst e2;obtain⟨px,_⟩:=I.hok a _ ea;exact Aw (HH c) I.kIn px.exc hk 0x7 λtk=>⟨.bl b,H,I.tok tk,rfl,q⟩
 refine PE.imp (sV hc hg hm 0x6 (aY (aW hN hv hd hcd) (aY ha dC hst)) (hpl:=hpl)) λσ H Q ⟨ρ,d,er,h,q⟩=>?_
 unfold aJv at h;split at h
 .rename_i c fs hρ;split at h
  .rename_i b hb;cases h;obtain⟨a,C,dx,h1,n,e⟩:=SM er hρ;obtain⟨C',n',xc,hk⟩:=ht c b hb;rw[hK,n'] at n;cases n;exact⟨.ref a,h1,a,C,dx,b,rfl,e,xc,hk,q _ _ (λ_ _ z=>z) (.bl b) λ_=>.bl b⟩
  .exact bx h
 .exact bx h
end
end
def aLq(p:Str->aw->Prop):ae (Str×aw)->Prop
 |[]=>gn
 | (c,b)::r=>p c b/\aLq p r
theorem A_:∀{t:ae (Str×aw)},aLq p t->∀c b,t.lookup c=aa b->p c b
 |[],_,_,_,h=>by cases h
 | (d,e)::r,⟨h1,h2⟩,c,b,h=>by
  rw[gL] at h;split at h
  .rename_i z;rw[gu.mp z];cases h;exact h1
  .exact A_ h2 c b h
def aRb(p:Str->Prop):ae Str->Prop
 |[]=>gn
 |c::r=>p c/\aRb p r
theorem aC3:∀{t:ae Str},aRb p t->∀c,t.contains c=ag->p c
 |[],_,_,h=>by cases h
 |d::r,⟨h1,h2⟩,c,h=>by
  rw[List.contains_cons] at h;rcases(i8 _ _).mp h with z|z
  .rw[gu.mp z];exact h1
  .exact aC3 h2 c z
section
variable [KFrag]
end
section
variable {P:bS} {w:bu} {K:bi} {mg:Str->ar am} {base:aI} {N:ae Str} {qual:Str} {scope:ft} {f C:al} {cd:am} {A:b6} {outer:ae c_} {s:au} {H:Hp} {E:XK}
theorem aC4(I:Inv (J0 (CX2 P w) P w K mg base N qual scope f cd A outer s H E) Ψ σ H1 s1)(keeps:∀b o,s1.heap.get? b=aa o->h2.get? b=aa o)(new:s1.heap.get? e=aj)(ht:h2.get? e=aa {cls:=.ref C,data:=.fields vs})(hv:vs[1]?=aa .none)(hE:E (.ref C) aj H1) :
  (J0 (CX2 P w) P w K mg base N qual scope f cd A outer s H E).xe (.ref e) {s1 with heap:=h2}:=by
 let env:=eW qual scope s.heap.objs.size f cd
 have hfr:L2.frs (env::outer)=s.heap.objs.size::L2.frs outer:=by
  unfold L2.frs;rw[ol];rfl
 have hin:∀v∈(env::outer),∀b,v.frame=aa b->b∈L2.frs (env::outer):=λv hv b hb=>yi.mpr ⟨v,hv,hb⟩
 have stk:s1.heap.FunFrames base (env::outer):=I.stack;have sfree:∀b∈L2.frs (env::outer),H1 b=aj:=I.QV;have u0:Un (L2.frs outer) [] H H1 s.heap s1.heap:=I.base;have hn0:(yb s1.heap (L2.frs (env::outer))).get? e=aj:=by
  cases q:(yb s1.heap (L2.frs (env::outer))).get? e with
  |none=>rfl
  |some o=>
   have e1:=yc _ q;rw[new] at e1;cases e1
 show ϑ (ay P w) (A.deeper env) (leaving env (.ref e)) (λ_ s''=>CX2 P w outer H s E (.ref e) s'') (λe' s''=>CX2 P w outer H s E e' s'') {s1 with heap:=h2};refine aFg I.ok.frames rfl ((PySem.W.funFrames_hide stk hin).of_keeps λb o k _=>⟨o,keeps b o k,rfl⟩) ht (λb o q=>keeps b o (yc _ q)) hn0 rfl hv (λz=>aT rfl z) λh' x1 x4=>?_
 have hgone:s.heap.get? e=aj:=by
  cases q:s.heap.get? e with
  |none=>rfl
  |some o=>
   obtain⟨o',e1⟩:=u0.there e o q 0x2;rw[new] at e1;cases e1
 have huntr:H1 e=aj:=by
  cases q:H1 e with
  |none=>rfl
  |some u=>
   obtain⟨o,e1⟩:=R0 (I.hok e u q);rw[new] at e1;cases e1
 refine⟨e,C,aj,H1,_,rfl,I.os,I.bare,x1,λh6 st up=>?_,huntr,hgone,hE⟩;have k:∀b o,s1.heap.get? b=aa o->b∉L2.frs (env::outer)->h6.get? b=aa o:=λb o eb hb=>st b o (AX _ eb hb)
 have up6:s1.heap.UpToSlots h6:=((Ej keeps).trans x4).trans up;have nL:∀b o,s.heap.get? b=aa o->b∉L2.frs outer->b∉L2.frs (env::outer):=λb o eb hb z=>by
  rw[hfr] at z;rcases cg.mp z with z|z
  .exact aT (bE eb) (by rw[z];exact hU _)
  .exact hb z
 have slot:∀b o,s1.heap.get? b=aa o->b∈L2.frs outer->∃sl,h6.get? b=aa {o with slots:=sl}:=λb o eb hb=>by
  obtain⟨_,o',ho',hd⟩:=stk.mem (show b∈L2.frs (env::outer) by rw[hfr];exact dg _ hb);rw[eb] at ho';cases ho';exact up6 b o eb hd
 refine⟨⟨λb o eb hn hb hx'=>k b o (u0.keep b o eb hn hb hx') (nL b o eb hb),λb o eb hn hb hx'=>?_,λb o eb hn hx'=>u0.free b o eb hn hx',λb o eb hx'=>?_,u0.tups,u0.frzs,u0.tbls⟩,λb u eb=>?_⟩
 .obtain⟨sl,e1⟩:=u0.slot b o eb hn hb hx';obtain⟨sl',e2⟩:=slot b _ e1 hb;exact⟨sl',e2⟩
 .obtain⟨o',e1⟩:=u0.there b o eb hx';by_cases hb:b∈L2.frs outer
  .obtain⟨sl,e2⟩:=slot b o' e1 hb;exact⟨_,e2⟩
  .exact⟨o',k b o' e1 (nL b o eb hb)⟩
 .refine(I.hok b u eb).stay (λc v hc q=>k c v q λz=>?_) (λ_ q=>q) λ_ _ q=>q
  have:=sfree c z;rcases hc with hc|hc
  .rw[hc,eb] at this;cases this
  .rw[hc] at this;cases this
theorem aC5(I:Inv (J0 (CX2 P w) P w K mg base N qual scope f cd A outer s H E) Ψ σ H1 s1)(hx:B3 s1.heap h2 e (.ref C) args)(hE:E (.ref C) aj H1) :
  (J0 (CX2 P w) P w K mg base N qual scope f cd A outer s H E).xe (.ref e) {s1 with heap:=h2}:=
 let ⟨_,ht,_,_⟩:=hx.there
 aC4 I hx.keeps hx.new ht rfl hE
end
section
variable [KFrag]
end
structure Cn where
 c:ai
 p:ai
 d:ai
noncomputable def Cn.use(k:Cn)(u z:ai):Cn:=if u=0 then {k with d:=k.d+z} else {k with p:=k.p+(u-1)*z}
noncomputable def Cn.call(k:Cn):Cn:={k with c:=k.c+1}
noncomputable def prF(hd mk rl:ae (D×D))(m:ai)(k:Cn):ae (Str×D):=[("heads",.dct hd),("makers",.dct mk),("rules",.dct rl),("most",.int m),("calls",.int k.c),("copies",.int k.p),("drops",.int k.d)]
noncomputable def prV(h1 h2 h3:V)(m:ai)(k:Cn):ae (Str×V):=[("heads",h1),("makers",h2),("rules",h3),("most",.int m),("calls",.int k.c),("copies",.int k.p),("drops",.int k.d)]
def o9(ws:ae D):ae (D×D)->Cn->ar Cn
 |[],k=>aa k
 | (.str x,.tup [_,_,.int z])::r,k=>match aBh x ws with
  |some n=>if ϒ (n<1000000) then o9 ws r (k.use n z) else aj
  |none=>aj
 |_::_,_=>aj
noncomputable def aC6:Res (ae D×ae (D×D)×Cn):=.err "Spent" [.exc "Spent" []]
def aDq(rl:ae (D×D))(m:ai)(k:Cn)(tk:D):ae D->Res (ae D×ae (D×D)×Cn)
 |.tup [w0,.tup xs,z0]::more=>match getD (.dct rl) (.tup [tk,w0]) with
  |.ok (.tup [r0,r1,.tup own,.tup ws])=>if ϒ (xs.length+more.length<=1000)&&(ε xs&&(ε more&&ε ws)) then (match mC [.tup own,.lst (xs++more)] with
   |.ok (.dct kn)=>(match o9 ws kn k.call with
    |some k'=>if k'.c+k'.p+k'.d > m then aC6 else .ok (ws,kn,k')
    |none=>.bad)
   |_=>.bad) else .bad
  |_=>.bad
 |_=>.bad
section
variable [KFrag]
def aQ5(S:al->Prop)(H H':Hp):Prop:=∀b o,H b=aa o->¬S b->H' b=aa o
inductive EL(H:Hp):ae (ar V)->ae D->Prop
 |nil {σ:ae (ar V)}:EL H σ []
 |skip {o:ar V} {σ:ae (ar V)} {ρ:ae D}:EL H σ ρ->EL H (o::σ) (.uD::ρ)
 |cons {v:V} {d:D} {σ:ae (ar V)} {ρ:ae D}:Rep All H v d->EL H σ ρ->EL H (aa v::σ) (d::ρ)
theorem EL.er:∀{σ:ae (ar V)}{ρ:ae D},EL H σ ρ->ER H σ ρ
 |_,_,.nil=>λi hi=>aT 0x2 hi
 |_,_,.skip t=>λi hi=>match i,hi with
  |0,hi=>aT rfl hi
  |i+1,hi=>EL.er t i hi
 |_,_,.cons r t=>λi hi=>match i,hi with
  |0,_=>⟨_,rfl,r⟩
  |i+1,hi=>EL.er t i hi
theorem aRc{K:bi}{mg:Str->ar am}{base:aI}{x qual:Str}{st:bz}{f:al}{fd:d4}{N ps:ae Str}{k:ah}{sp:Sp}(F:Fun K x qual st f fd)(S:cA N ps (aL st))(len:∀vs H Q E,sp vs H Q E->vs.length=ps.length)
 (hbody:∀(cdv:am) (A:b6) (outer:ae c_) (s:au) (H:Hp) (vs:ae V) (Q:VK) (E:XK),mW k (A.deeper (eW qual (aL st) s.heap.objs.size f cdv))->sp vs H Q E->
   ∃t,PSs (J0 (CX2 P w) P w K mg base N qual (aL st) f cdv A outer s H E) (cW st) t/\t {nx:=λ_ H'=>Q .non H',rt:=Q} (start N vs) H):mO P w K mg base (CX2 P w) (k+1) f fd ps sp:=by
 obtain⟨oc,od,kV,doc,pm,an,cdv,ct,osl,rfl,lk,hcd⟩:=F.ex;exact aIf lk hcd S len λA outer s H vs Q E hr hsp=>hbody cdv A outer s H vs Q E hr hsp
def aSp(t:TS):TS:=λD σ H=>∃ad u0,H ad=aa u0/\Q9 u0=ag/\t {D with nx:=λσ' H'=>∃o u,H' ad=aa (.frz o u)/\D.nx σ' (upd H' ad u)} σ H
theorem aNz{st:bz}(h:PS X st t):PS X st (aSp t):=by
 intro Ψ s σ H D I ⟨ad,u0,h1,h2,h3⟩;have hn:∀o u,X.H₀ ad≠aa (.frz o u):=λo u z=>by
  have:=I.base.frzs ad o u z;rw[h1] at this;cases this;cases h2
 refine fg (h Ψ s σ H _ I h3) (λf s' q=>?_) λ_ _ z=>z
 cases f with
 |next=>
  obtain⟨σ',H',I',o,u,e,q⟩:=q;exact⟨σ',_,aEt I' e hn,q⟩
 |brk=>exact q
 |cont=>exact q
 |ret v=>exact q
section
variable {K:bi} {C CF CS:al} {l:ae (Str×Srx)}
def tCU(K:bi):TS:=aGv (tB (aQb (gW 1) (tC (.int 0))))
 (aLk K (gW 0) (aLi (T_ K (gW 0) "drops") (gW 2)) "drops")
 (aLk K (gW 0) (aLi (T_ K (gW 0) "copies") (aSf (aQ9 (gW 1) (tC (.int 1))) (gW 2))) "copies")
def aLr(C:al):Sp:=λvs H Q _=>∃(a dx:al)(h1 h2 h3:V)(m:ai)(k:Cn)(u z:ai),vs=[.ref a,.int u,.int z]/\H a=aa (.ins C dx (prV h1 h2 h3 m k))/\(-(2 ^ 64)<u-1/\u-1<2 ^ 64)/\Q .non (upd H a (.ins C dx (prV h1 h2 h3 m (k.use u z))))
theorem aC7:xT "drops" (.int y) (prV h1 h2 h3 m k)=prV h1 h2 h3 m {k with d:=y}:=rfl
theorem Y8:xT "copies" (.int y) (prV h1 h2 h3 m k)=prV h1 h2 h3 m {k with p:=y}:=rfl
theorem aC8:xT "calls" (.int y) (prV h1 h2 h3 m k)=prV h1 h2 h3 m {k with c:=y}:=rfl
theorem aJx(hN:N.length=3)(cl:Cls K C)(n1:cQ K C "drops")(n2:cQ K C "copies"){E:XK}(h:aLr C vs H Q E):tCU K {nx:=λ_ H'=>Q .non H',rt:=Q} (L2.start N vs) H:=by
 obtain⟨a,dx,h1,h2,h3,m,k,u,z,rfl,ha,hu,q⟩:=h;have hst:L2.start N [V.ref a,.int u,.int z]=[aa (.ref a),aa (.int u),aa (.int z)]:=by
  unfold L2.start;rw[hN];rfl
 rw[hst];refine⟨.int u,rfl,u,0,rfl,rfl,_,rfl,?_⟩;dsimp only;by_cases hz:u=0
 .rw[ao (bw hz)];unfold Cn.use at q;rw[ao hz] at q;refine⟨.ref a,rfl,a,C,dx,_,.int k.d,rfl,ha,cl,n1,rfl,.int z,rfl,k.d,z,rfl,rfl,.ref a,rfl,a,C,dx,_,rfl,ha,cl,n1,by show 7<1000;decide,?_⟩;rw[aC7];exact q
 .rw[ax (by simp[hz])];unfold Cn.use at q;rw[ax hz] at q;refine⟨.ref a,rfl,a,C,dx,_,.int k.p,rfl,ha,cl,n2,rfl,.int u,rfl,u,1,rfl,rfl,.int z,rfl,u-1,z,rfl,rfl,hu,k.p,(u-1)*z,rfl,rfl,.ref a,rfl,a,C,dx,_,rfl,ha,cl,n2,by show 7<1000;decide,?_⟩;rw[Y8];exact q
def FrA(CF:al)(H:Hp)(fr:al)(ws:ae D)(i:ah)(kn:ae (D×D)):Prop:=∃dx w1 w3,H fr=aa (.ins CF dx [("words",w1),("left",.int i),("known",w3)])/\Rep All H w1 (.tup ws)/\Rep All H w3 (.dct kn)
def aU4(CF CS:al)(a:al)(hd mk rl:ae (D×D))(m:ai)(H:Hp)(Q:VK)(E:XK):Res (ae D×ae (D×D)×Cn)->Prop
 |.ok (ws,kn,k')=>∀H' x,H x=aj->mY a H H'->Rep All H' (.ref a) (.ins "PlainRun" (prF hd mk rl m k'))->FrA CF H' x ws ws.length kn->Q (.ref x) H'
 |.err _ _=>∀H',mY a H H'->E (.ref CS) aj H'
 |.bad=>cb
def okR(hd mk rl:ae (D×D)):Prop:=ε (hd.map (·.2))=ag/\ε (mk.map (·.2))=ag/\ε (rl.map (·.2))=ag
def aC9(CF CS:al):Sp:=λvs H Q E=>∃a vt vp hd mk rl m k tk ps,vs=[.ref a,vt,vp]/\okR hd mk rl/\tk.pure=ag/\ε ps=ag/\Rep All H (.ref a) (.ins "PlainRun" (prF hd mk rl m k))/\Rep All H vt tk/\Rep All H vp (.lst ps)/\aU4 CF CS a hd mk rl m H Q E (aDq rl m k tk ps)
def cf1:FE:=b2 getD fH cT
def cf2:FE:=b2 getD (aFb "PlainRun" "rules" iJ) (iK (aC fK (aC (b2 getD eF cT) aU)))
def cf3:FE:=aZ mC (aC (b2 getD gU jD) (aC (b2 (bJ .add) (aZ aEe (aC (b2 getD eF dR) aU)) (oY fH (gF dR) g_)) aU))
def aRd:FE:=bM M4 (b2 getD gU kW) (aC t_ aU)
def aRe:FE:=b2 getD oR jD
def cf7:FE:=b2 getD gU kW
def aU5(i:ah):TI:=λσ H R=>∃a kvs u,σ[i]?=aa (aa (.ref a))/\DV H a kvs/\H a=aa u/\∀o H1,bW H H1->R (Iti a o u kvs) (upd H1 a (.frz o u))
def aSq(K:bi)(C CS:al)(l:ae (Str×Srx))(E:XK):TS:=
 wN (BX (gE cf1 ak) (fG 3)) (wN (BX (gE cf2 ak) (fG 4)) (wN (BX (gE cf3 ag) (fG 5))
  (wN (aLk K (gW 0) (aLi (T_ K (gW 0) "calls") (tC (.int 1))) "calls")
   (wN (aSp (aQg (aU5 5) (aPv K 2 (XM (fG 6) (XM (fG 7) aPu))) (GK (X7 C "count_uses" (aLr C) [] E0 (gW 0) (dY (gE aRd ag) (dY (gE aRe ak) zB))))))
    (wN (aGv (tB (tGt (aLi (aLi (T_ K (gW 0) "calls") (T_ K (gW 0) "copies")) (T_ K (gW 0) "drops")) (T_ K (gW 0) "most"))) (λ_ _ H=>E (.ref CS) aj H) Z3)
     (aM4 (tMk K "Frame" l 2 (dY (gE cf7 ak) (dY (gW 5) zB)))))))))
theorem aO0:cf1 [.uD,.uD,.lst (d::ps)]=.ok d:=by
 show ο ((ixD (ps.length+1) 0).bind λj=>(d::ps)[j]?)=_;unfold ixD;rw[ao 0x1,ao 0x1];rfl
theorem aU6:getD (.tup (a::r)) (.int 0)=.ok a:=by
 show ο ((ixD (r.length+1) 0).bind λj=>(a::r)[j]?)=_;unfold ixD;rw[ao 0x1,ao 0x1];rfl
theorem aCa{d:D}(h:d.pure=ag):d≠.uD:=λz=>by subst z;cases h
theorem bV(h:ρ.getD i .uD=d)(hn:d≠.uD):cD i ρ=.ok d:=by
 unfold cD;rw[h];cases d<;>first|rfl|exact aT rfl hn
theorem aO1(ht:tk.pure=ag)(h:getD (.dct rl) (.tup [tk,w0])=.ok d):cf2 [.ins "PlainRun" (prF hd mk rl m k),tk,u,.tup (w0::r)]=.ok d:=by
 have e1:aFb "PlainRun" "rules" iJ [.ins "PlainRun" (prF hd mk rl m k),tk,u,.tup (w0::r)]=.ok (.dct rl):=rfl;have e2:b2 getD eF cT [.ins "PlainRun" (prF hd mk rl m k),tk,u,.tup (w0::r)]=.ok w0:=aU6;have e3:cD 1 [.ins "PlainRun" (prF hd mk rl m k),tk,u,.tup (w0::r)]=.ok tk:=bV rfl (aCa ht);exact aH e1 (eE (aD e3 (aD e2 rfl)) (by show 2<=lim;rw[bG];lia)) h
theorem aO2{w0 z0 r0 r1 d:D}(hl:xs.length+more.length<=1000)(hx:ε xs=ag)(hm:ε more=ag)(hp0:(ν [w0,.tup xs,z0]).pure=ag)(h:mC [.tup own,.lst (xs++more)]=.ok d):cf3 [a,b,.lst (.tup [w0,.tup xs,z0]::more),.tup [w0,.tup xs,z0],.tup (r0::r1::.tup own::r)]=.ok d:=by
 generalize hρ:[a,b,.lst (.tup [w0,.tup xs,z0]::more),.tup [w0,.tup xs,z0],.tup (r0::r1::.tup own::r)]=ρ;have e1:b2 getD gU jD ρ=.ok (.tup own):=by
  subst hρ;show ο ((ixD (r.length+1+1+1) 2).bind λj=>(r0::r1::.tup own::r)[j]?)=_;unfold ixD;rw[ao 0x1,ao 0x1];rfl
 have e2:b2 getD eF dR ρ=.ok (.tup xs):=by subst hρ;rfl
 have e3:aZ aEe (aC (b2 getD eF dR) aU) ρ=.ok (.lst xs):=bF (aD e2 rfl) (by
  show(if ε xs=ag then τ (ψ xs) else .bad)=_;rw[ao hx])
 have e4:oY fH (gF dR) g_ ρ=.ok (.lst more):=by
  subst hρ;show(if ε (.tup [w0,.tup xs,z0]::more)=ag then τ (ψ (cutD (.tup [w0,.tup xs,z0]::more) (aa 1) aj)) else .bad)=_;rw[ao (by rw[ε,hp0,hm];rfl)];have:cutD (ν [w0,.tup xs,z0]::more) (aa 1) aj=more:=by
   show((ν [w0,.tup xs,z0]::more).drop ((min (1:ai) ((more.length+1:ah):ai)).toNat)).take ((more.length+1)-(min (1:ai) ((more.length+1:ah):ai)).toNat)=more;have:(min (1:ai) ((more.length+1:ah):ai)).toNat=1:=by lia
   rw[this,Ax,sg,sh 0x1]
  rw[this]
 exact bF (aD e1 (aD (aH e3 e4 (by
  show(if (ϒ (xs.length+more.length<=lim)&&ε xs&&ε more)=ag then τ (ψ (xs++more)) else .bad)=_;rw[ao (by rw[hx,hm,bw (by rw[bG];lia)];rfl)])) rfl)) h
theorem aJy{r0 r1 r2:D}(h:aBh x ws=aa n):aRd [a,b,c,d,.tup [r0,r1,r2,.tup ws],e,.str x,g]=.ok (.int n):=by
 show(match aBh x ws with|some n=>τ (θ n)|none=>.bad)=_;rw[h]
theorem aJz{r0 r1:D}:aRe [a,b,c,d,e,f,g,.tup [r0,r1,.int z]]=.ok (.int z):=rfl
theorem aO3{r0 r1 r2:D}:cf7 [a,b,c,d,.tup [r0,r1,r2,.tup ws]]=.ok (.tup ws):=rfl
theorem IK(h:aDq rl m k tk ps=res)(hne:res≠.bad):∃w0 xs z0 more r0 r1 own ws kn k',ps=.tup [w0,.tup xs,z0]::more/\getD (.dct rl) (.tup [tk,w0])=.ok (.tup [r0,r1,.tup own,.tup ws])/\xs.length+more.length<=1000/\ε xs=ag/\ε more=ag/\ε ws=ag/\mC [.tup own,.lst (xs++more)]=.ok (.dct kn)/\o9 ws kn k.call=aa k'/\res=if k'.c+k'.p+k'.d > m then aC6 else .ok (ws,kn,k'):=by
 unfold aDq at h;split at h
 .rename_i w0 xs z0 more;split at h
  .rename_i r0 r1 own ws hg;split at h
   .rename_i hb;simp only[aS,cx] at hb;split at h
    .rename_i kn hz;split at h
     .rename_i k' hu;exact⟨w0,xs,z0,more,r0,r1,own,ws,kn,k',rfl,hg,hb.1,hb.2.1,hb.2.2.1,hb.2.2.2,hz,hu,h.symm⟩
     .exact aT h.symm hne
    .exact aT h.symm hne
   .exact aT h.symm hne
  .exact aT h.symm hne
 .exact aT h.symm hne
theorem NT(h:o9 ws (p::r) k=aa k'):∃x w y z n,p=(.str x,.tup [w,y,.int z])/\aBh x ws=aa n/\n<1000000/\o9 ws r (k.use n z)=aa k':=by
 obtain⟨a,b⟩:=p;have key:∀a b,o9 ws ((a,b)::r) k=aa k'->∃x w y z,a=.str x/\b=.tup [w,y,.int z]:=by
  intro a b h;cases a with
  |str x=>
   cases b with
   |tup l=>
    rcases l with _|⟨w,_|⟨y,_|⟨q,_|_⟩⟩⟩
    .cases h
    .cases h
    .cases h
    .cases q with
     |int z=>exact⟨x,w,y,z,rfl,rfl⟩
     |_=>cases h
    .cases q<;>cases h
   |_=>cases h
  |_=>cases h
 obtain⟨x,w,y,z,rfl,rfl⟩:=key a b h;have h:(match aBh x ws with|some n=>if ϒ (n<1000000) then o9 ws r (k.use n z) else aj|none=>aj)=aa k':=h;split at h
 .rename_i n hn;split at h
  .rename_i hb;exact⟨x,w,y,z,n,rfl,hn,d5 hb,h⟩
  .cases h
 .cases h
theorem V6:∀{kn:ae (D×D)}{k k':Cn},o9 ws kn k=aa k'->kn.all (λp=>!isTup p.1)=ag
 |[],_,_,_=>rfl
 |p::r,_,_,h=>by
  obtain⟨x,w,y,z,n,rfl,_,_,h⟩:=NT h;rw[i7,V6 h];rfl
theorem gH.at_:∀{kvs:ae (Key×V)}{ds:ae (D×D)}{i:ah}{p:Key×V},gH P H kvs ds->kvs[i]?=aa p->∃d,ds[i]?=aa (kD p.1,d)/\Rep P H p.2 d
 |_,_,_,_,.nil,h=>by simp at h
 |_,_,0,_,.cons r t,h=>by simp at h;subst h;exact⟨_,rfl,r⟩
 |_,_,i+1,p,.cons r t,h=>by
  obtain⟨d,h1,h2⟩:=gH.at_ t (by simpa using h);exact⟨d,by simpa using h1,h2⟩
theorem gH.len:∀{kvs:ae (Key×V)}{ds:ae (D×D)},gH P H kvs ds->kvs.length=ds.length
 |_,_,.nil=>rfl
 |_,_,.cons r t=>by rw[br,br,gH.len t]
theorem aO4(r:Rep P H v (.dct kn))(hb:kn.all (λp=>!isTup p.1)=ag):∃kd kvs u,v=.ref kd/\P kd/\DV H kd kvs/\H kd=aa u/\Q9 u=ag/\gH P H kvs kn/\(kvs.map (·.1)).Nodup:=by
 cases r with
 |dK e p rk n=>exact⟨_,_,_,rfl,p,.inl e,e,rfl,rk,n⟩
 |dT e p rt n=>
  cases rt with
  |nil=>exact⟨_,[],_,rfl,p,.inr ⟨rfl,e⟩,e,rfl,.nil,by simp⟩
  |cons r t=>simp[isTup] at hb
theorem DV.rep(h:DV H kd kvs)(p:P kd)(r:gH P H kvs kn)(n:(kvs.map (·.1)).Nodup):Rep P H (.ref kd) (.dct kn):=by
 rcases h with h|⟨rfl,h⟩
 .exact .dK h p r n
 .cases r;exact .dT h p .nil 0x2
theorem V7(h:mC [.tup own,.lst ys]=.ok (.dct kn)):ε (kn.map (·.2))=ag:=by
 have h:(if ϒ (own.length<=1000)&&ϒ (ys.length=own.length)&&own.all gZ&&ε ys then τ (D.dct (nC own ys [])) else .bad)=.ok (.dct kn):=h;split at h
 .rename_i hb;cases h;simp only[aS,cx] at hb;have go:∀(a b:ae D)(m:ae (D×D)),ε b=ag->ε (m.map (·.2))=ag->ε ((nC a b m).map (·.2))=ag:=by
   intro a;induction a with
   |nil=>intro b m _ hm;cases b<;>exact hm
   |cons x a ih=>
    intro b m hb hm;cases b with
    |nil=>exact hm
    |cons y b=>
     rw[ε,aS] at hb;exact ih b _ hb.2 (lC hb.1 hm)
  exact go _ _ [] hb.2 rfl
 .exact bx h
theorem IV(h:ε (kn.map (·.2))=ag):okF (.dct kn)=ag:=by
 unfold okF;rw[show inner (.dct kn)=ε (kn.map (·.2)) from rfl,h];simp
theorem IW:∀{rl:ae (D×D)},ε (rl.map (·.2))=ag->cO rl q=aa d->d.pure=ag
 |[],_,z=>by cases z
 | (p1,p2)::r,hp,z=>by
  rw[bd,ε,aS] at hp;rw[cO] at z;split at z
  .cases z;exact hp.1
  .exact IW hp.2 z
theorem aCb(h:ε (rl.map (·.2))=ag)(hg:getD (.dct rl) q=.ok d):d.pure=ag:=by
 have e:getD (.dct rl) q=if keyOk q then ο (cO rl q) else .bad:=by cases q<;>rfl
 rw[e] at hg;split at hg
 .cases hl:cO rl q with
  |none=>rw[hl] at hg;exact bx hg
  |some y=>
   rw[hl] at hg;cases hg;exact IW h hl
 .exact bx hg
theorem mD(hK:KFrag.K=K)(hC:nsIn K bj "PlainRun"=aa (aa (.ref C)))(r:Rep All H (.ref a) (.ins "PlainRun" (prF hd mk rl m k))):∃dx h1 h2 h3,H a=aa (.ins C dx (prV h1 h2 h3 m k))/\Rep All H h1 (.dct hd)/\Rep All H h2 (.dct mk)/\Rep All H h3 (.dct rl):=by
 cases r with
 |ins hn hx rf=>
 rw[hK,hC] at hn;cases hn;cases rf with
 |cons r1 rf=>
 cases rf with
 |cons r2 rf=>
 cases rf with
 |cons r3 rf=>
 cases rf with
 |cons r4 rf=>
 cases rf with
 |cons r5 rf=>
 cases rf with
 |cons r6 rf=>
 cases rf with
 |cons r7 rf=>
 cases rf;cases r4.inv;cases r5.inv;cases r6.inv;cases r7.inv;exact⟨_,_,_,_,hx,r1,r2,r3⟩
theorem BJ(hK:KFrag.K=K)(hC:nsIn K bj "PlainRun"=aa (aa (.ref C)))(hx:H a=aa (.ins C dx (prV h1 h2 h3 m k)))(r1:Rep P H h1 (.dct hd))(r2:Rep P H h2 (.dct mk))(r3:Rep P H h3 (.dct rl)):Rep P H (.ref a) (.ins "PlainRun" (prF hd mk rl m k)):=
 .ins (by rw[hK];exact hC) hx (.cons r1 (.cons r2 (.cons r3 (.cons (.int _) (.cons (.int _) (.cons (.int _) (.cons (.int _) .nil)))))))
theorem aFi{ws:ae D}{r0 r1 r2:D}{kn:ae (D×D)}{kvs:ae (Key×V)}{o:bn}{u:HO}{Hf:Hp}{D':Ends}{o6 o7:ar V}(cl:Cls K C)
 (ha:Hf a=aa (.ins C dx (prV h1 h2 h3 m k)))(hkd:Hf kd=aa (.frz o u))(hr:Rep All Hf v4 (.tup [r0,r1,r2,.tup ws]))(pr:(ν [r0,r1,r2,.tup ws]).pure=ag)(rk:gH All Hf kvs kn)(pk:ε (kn.map (·.2))=ag)(hu:o9 ws kn k=aa k')
 (q:∀o6 o7 H',mY a Hf H'->H' a=aa (.ins C dx (prV h1 h2 h3 m k'))->D'.nx [aa (.ref a),aa vt,aa vp,aa v3,aa v4,aa (.ref kd),o6,o7] H') :
  ∃W:ah->ah->L2.St->Hp->Prop,(∃n,W 0 n [aa (.ref a),aa vt,aa vp,aa v3,aa v4,aa (.ref kd),o6,o7] Hf)/\∀i n σ H,W i n σ H->
   ((Iti kd o u kvs).stop i H/\D'.nx σ H)\/((Iti kd o u kvs).go i H/\∃N:L2.St->Hp->Prop,(∀σ' H',N σ' H'->∃n',n'<n/\W (i+1) n' σ' H')/\∀x H',(Iti kd o u kvs).yld i H x H'->aPv K 2 (XM (fG 6) (XM (fG 7) aPu)) x σ H' λσ2 H2=>GK (X7 C "count_uses" (aLr C) [] E0 (gW 0) (dY (gE aRd ag) (dY (gE aRe ak) zB))) {D' with nx:=N,ct:=N,bk:=D'.nx} σ2 H2):=by
 have nka:kd≠a:=n8 hkd ha 0x7;refine⟨λi n σ H=>n=kvs.length-i/\i<=kvs.length/\(∃o6 o7,σ=[aa (.ref a),aa vt,aa vp,aa v3,aa v4,aa (.ref kd),o6,o7])/\mY a Hf H/\∃ki,H a=aa (.ins C dx (prV h1 h2 h3 m ki))/\o9 ws (kn.drop i) ki=aa k',⟨kvs.length,rfl,ef _,⟨_,_,rfl⟩,λ_ _ e _=>e,k,ha,hu⟩,?_⟩;rintro i n σ H ⟨rfl,hi,⟨o6,o7,rfl⟩,b,ki,hai,hui⟩;have lk:=rk.len;rcases lq i kvs.length with hlt|hge
 .refine .inr ?_;have e:kvs[i]?=aa kvs[i]:=dq hlt;obtain⟨d,e2,rd⟩:=rk.at_ e;obtain⟨hlt2,e3⟩:=dA.mp e2;rw[ii hlt2,e3] at hui;obtain⟨x,w,y,z,c,ep,hc,hc2,hui2⟩:=NT hui;have ek:kD kvs[i].1=.str x:=cf (·.1) ep;have ed:d=.tup [w,y,.int z]:=cf (·.2) ep;subst ed;have pd:(ν [w,y,.int z]).pure=ag:=cL.mp pk _ (cK.mpr ⟨_,kP e2,rfl⟩);have ekV:kV kvs[i].1=.str x:=by
   generalize kvs[i].1=key at ek;cases key with
   |inl j=>cases ek
   |inr t=>cases ek;rfl
  refine⟨⟨b _ _ hkd nka,_,e⟩,λσ' H'=>(∃o6 o7,σ'=[aa (.ref a),aa vt,aa vp,aa v3,aa v4,aa (.ref kd),o6,o7])/\mY a Hf H'/\∃ki,H' a=aa (.ins C dx (prV h1 h2 h3 m ki))/\o9 ws (kn.drop (i+1)) ki=aa k',λσ' H' ⟨n1,n2⟩=>⟨kvs.length-(i+1),by lia,rfl,hlt,n1,n2⟩,λx' H2 hy=>?_⟩;obtain⟨bb,p,hp,rfl,hb,rfl⟩:=hy;rw[e] at hp;cases hp;have sm:bW H (upd H bb (.tup [kV kvs[i].1,kvs[i].2])):=bW.upd hb;have us:yF Hf (upd H bb (.tup [kV kvs[i].1,kvs[i].2])):=λc oc ec uc=>sm _ _ (b c oc ec λz=>by
   subst z;rw[ha] at ec;cases ec;cases uc)
  refine⟨bb,[kV kvs[i].1,kvs[i].2],rfl,.inl (.of aJ),rfl,_,_,rfl,_,_,rfl,rfl,?_⟩;show GK _ _ [aa (.ref a),aa vt,aa vp,aa v3,aa v4,aa (.ref kd),aa (kV kvs[i].1),aa kvs[i].2] _;rw[ekV];have hr2:=hr.gK (P':=All) us pr;have rd2:=rd.gK (P':=All) us pd;rw[ekV] at sm hr2 rd2;refine⟨.ref a,rfl,a,dx,_,rfl,sm _ _ hai,rfl,[.uD,.uD,.uD,.uD,.tup [r0,r1,r2,.tup ws],.uD,.str x,.uD],.int c,(EL.skip (.skip (.skip (.skip (.cons hr2 (.skip (.cons (.str x) (.skip .nil)))))))).er,aJy hc,λv8 H3 s3 r8 _=>?_⟩;refine⟨[.uD,.uD,.uD,.uD,.uD,.uD,.uD,.tup [w,y,.int z]],.int z,(EL.skip (.skip (.skip (.skip (.skip (.skip (.skip (.cons (rd2.same s3) .nil)))))))).er,aJz,λv9 H4 s4 r9 _=>?_⟩;cases r8.inv;cases r9.inv;have ha4:=s4 _ _ (s3 _ _ (sm _ _ hai));refine⟨a,dx,h1,h2,h3,m,ki,c,z,rfl,ha4,⟨by lia,by lia⟩,⟨_,_,rfl⟩,λc' oc ec nc=>?_,_,aJ,hui2⟩;rw[aO nc];exact s4 _ _ (s3 _ _ (sm _ _ (b c' oc ec nc)))
 .refine .inl ⟨⟨b _ _ hkd nka,hge⟩,?_⟩;rw[ik 0x1] at hui;cases hui;exact q _ _ _ b hai
theorem aFj(hN:N.length=8)(hK:KFrag.K=K)(hC:nsIn K bj "PlainRun"=aa (aa (.ref C)))(hCF:nsIn K bj "Frame"=aa (aa (.ref CF)))(cl:Cls K C)(nc:cQ K C "calls")(np:cQ K C "copies")(nd:cQ K C "drops")(nm:cQ K C "most")
 (hl:∀ws kn,ε ws=ag->ε (kn.map (·.2))=ag->evS [.uD,.tup ws,.dct kn] l=.ok [("words",.tup ws),("left",.int ws.length),("known",.dct kn)]){Q:VK}{E:XK}(h:aC9 CF CS vs H Q E):aSq K C CS l E {nx:=λ_ H'=>Q .non H',rt:=Q} (L2.start N vs) H:=by
 obtain⟨a,vt,vp,hd,mk,rl,m,k,tk,ps,rfl,⟨o1,o2,o3⟩,ptk,pps,ra,rt,rp,hc⟩:=h;have hst:L2.start N [V.ref a,vt,vp]=[aa (.ref a),aa vt,aa vp,aj,aj,aj,aj,aj]:=by
  unfold L2.start;rw[hN];rfl
 rw[hst];generalize hres:aDq rl m k tk ps=res at hc;have hne:res≠.bad:=λz=>by subst z;exact hc
 obtain⟨w0,xs,z0,more,r0,r1,own,ws,kn,k',rfl,hg,hlen,px,pm,pw,hz,hu,rfl⟩:=IK hres hne;clear hres hne;rw[ε,aS] at pps;obtain⟨dx,h1,h2,h3,hsa,e1,e2,e3⟩:=mD hK hC ra;have prl:(ν [r0,r1,.tup own,.tup ws]).pure=ag:=by
  refine aCb o3 hg
 -- rows 1 to 3
 refine⟨[.uD,.uD,.lst (.tup [w0,.tup xs,z0]::more)],_,(EL.skip (.skip (.cons rp .nil))).er,aO0,λv3 Ha s1 rv3 _=>?_⟩;refine⟨[.ins "PlainRun" (prF hd mk rl m k),tk,.uD,.tup [w0,.tup xs,z0]],_,(EL.cons (ra.same s1) (.cons (rt.same s1) (.skip (.cons rv3 .nil)))).er,aO1 ptk hg,λv4 Hb s2 rv4 _=>?_⟩;refine⟨[.uD,.uD,.lst (.tup [w0,.tup xs,z0]::more),.tup [w0,.tup xs,z0],.tup [r0,r1,.tup own,.tup ws]],_,(EL.skip (.skip (.cons (rp.same (s1.trans s2)) (.cons (rv3.same s2) (.cons rv4 .nil))))).er,aO2 hlen px pm pps.1 hz,λv5 Hc s3 rv5 n5=>?_⟩;obtain⟨kd,kvs,u,rfl,fkd,hDV,hkd,hmu,rk,ndk⟩:=aO4 (n5 rfl) (V6 hu);have pkn:=V7 hz;have huk:∀o:bn,Q_ (.frz o u)=ag/\Q_ u=ag:=λo=>by
  rcases hDV with z|⟨_,z⟩<;>(rw[z] at hkd;cases hkd;exact⟨rfl,rfl⟩)
 have s13:=(s1.trans s2).trans s3;have hac:=s13 _ _ hsa
 -- row 4
 show wN _ _ _ [aa (.ref a),aa vt,aa vp,aa v3,aa v4,aa (.ref kd),aj,aj] Hc;refine⟨.ref a,rfl,a,C,dx,_,.int k.c,rfl,hac,cl,nc,rfl,k.c,1,rfl,rfl,.ref a,rfl,a,C,dx,_,rfl,hac,cl,nc,by show 7<1000;decide,?_⟩;rw[aC8];have nka:kd≠a:=λz=>by
  subst z;rw[hac] at hkd;cases hkd;cases hmu
 have b4:mY a Hc (upd Hc a (.ins C dx (prV h1 h2 h3 m k.call))):=mY.upd;have had:upd Hc a (.ins C dx (prV h1 h2 h3 m k.call)) a=aa (.ins C dx (prV h1 h2 h3 m k.call)):=aJ;show wN _ _ _ [aa (.ref a),aa vt,aa vp,aa v3,aa v4,aa (.ref kd),aj,aj] (upd Hc a (.ins C dx (prV h1 h2 h3 m k.call)));generalize upd Hc a (.ins C dx (prV h1 h2 h3 m k.call))=Hd at b4 had;have hkd4:=b4 _ _ hkd nka;have hDV4:DV Hd kd kvs:=by
  rcases hDV with z|⟨z0,z⟩
  .exact .inl (b4 _ _ z nka)
  .exact .inr ⟨z0,b4 _ _ z nka⟩
 -- row 5
 refine⟨kd,u,hkd4,hmu,kd,kvs,u,rfl,hDV4,hkd4,λo He s5=>?_⟩;have hke:=s5 _ _ hkd4;have hae:=s5 _ _ had;have noT:∀ob,He kd=aa ob->Q_ ob=ag:=λob z=>by
  rw[hke] at z;cases z;exact(huk o).2
 have toF:∀{v:V}{d:D},Rep All Hc v d->d.pure=ag->Rep All (upd He kd (.frz o u)) v d:=λr p=>HN noT ((r.gK (b4.use hac) p).same s5) p
 have rkF:gH All (upd He kd (.frz o u)) kvs kn:=by
  have go:∀{kvs:ae (Key×V)}{ds:ae (D×D)},gH (New Hb) Hc kvs ds->ε (ds.map (·.2))=ag->gH All (upd He kd (.frz o u)) kvs ds:=by
   intro kvs ds r;induction kvs generalizing ds with
   |nil=>cases r;intro _;exact .nil
   |cons p kvs ih=>cases r with
    |cons r t=>
     intro h;rw[bd,ε,aS] at h;exact .cons (toF r.all h.1) (ih t h.2)
  exact go rk pkn
 refine aFi cl (by rw[aO (Ne.symm nka)];exact hae) aJ (toF (rv4.same s3) prl) prl rkF pkn hu λo6 o7 Hg bg hag=>⟨o,u,bg _ _ aJ nka,?_⟩
 have hag2:upd Hg kd u a=aa (.ins C dx (prV h1 h2 h3 m k')):=by rw[aO (Ne.symm nka)];exact hag
 -- from the beginning on
 have ball:mY a H (upd Hg kd u):=λc oc ec nca=>by
  have c3:=s13 _ _ ec;have nck:c≠kd:=λz=>by
   subst z;have:=(s1.trans s2) _ _ ec;rw[show Hb c=aj from fkd] at this;cases this
  rw[aO nck];refine bg _ _ ?_ nca;rw[aO nck];exact s5 _ _ (b4 _ _ c3 nca)
 have noT2:∀ob,Hg kd=aa ob->Q_ ob=ag:=λob z=>by
  rw[bg _ _ aJ nka] at z;cases z;exact(huk o).1
 have useG:yF (upd He kd (.frz o u)) Hg:=λc oc ec uc=>bg c oc ec λz=>by
  subst z;rw[aO (Ne.symm nka),hae] at ec;cases ec;cases uc
 have toG:∀{v:V}{d:D},Rep All Hc v d->d.pure=ag->Rep All (upd Hg kd u) v d:=λr p=>HN noT2 ((toF r p).gK useG p) p
 have hkg:upd Hg kd u kd=aa u:=aJ;have hDVg:DV (upd Hg kd u) kd kvs:=by
  rcases hDV with z|⟨z0,z⟩
  .rw[z] at hkd;cases hkd;exact .inl hkg
  .rw[z] at hkd;cases hkd;exact .inr ⟨z0,hkg⟩
 have rkG:gH All (upd Hg kd u) kvs kn:=by
  have go:∀{kvs:ae (Key×V)}{ds:ae (D×D)},gH (New Hb) Hc kvs ds->ε (ds.map (·.2))=ag->gH All (upd Hg kd u) kvs ds:=by
   intro kvs ds r;induction kvs generalizing ds with
   |nil=>cases r;intro _;exact .nil
   |cons p kvs ih=>cases r with
    |cons r t=>
     intro h;rw[bd,ε,aS] at h;exact .cons (toG r.all h.1) (ih t h.2)
  exact go rk pkn
 have rv4g:=toG (rv4.same s3) prl;have self4:∀H2,bW (upd Hg kd u) H2->Rep All H2 (.ref a) (.ins "PlainRun" (prF hd mk rl m k')):=λH2 sm=>by
  have t1:mY a H H2:=λc oc ec nca=>sm _ _ (ball c oc ec nca)
  exact BJ hK hC (sm _ _ hag2) (e1.okK t1 hsa (λ_ h=>h) (IV o1)) (e2.okK t1 hsa (λ_ h=>h) (IV o2)) (e3.okK t1 hsa (λ_ h=>h) (IV o3))
 generalize upd Hg kd u=Hh at hag2 ball hDVg rkG rv4g self4 hkg
 -- row 6
 show wN _ _ _ [aa (.ref a),aa vt,aa vp,aa v3,aa v4,aa (.ref kd),o6,o7] Hh;refine⟨.ref a,rfl,a,C,dx,_,.int k'.c,rfl,hag2,cl,nc,rfl,.ref a,rfl,a,C,dx,_,.int k'.p,rfl,hag2,cl,np,rfl,k'.c,k'.p,rfl,rfl,.ref a,rfl,a,C,dx,_,.int k'.d,rfl,hag2,cl,nd,rfl,k'.c+k'.p,k'.d,rfl,rfl,.ref a,rfl,a,C,dx,_,.int m,rfl,hag2,cl,nm,rfl,k'.c+k'.p+k'.d,m,rfl,rfl,_,rfl,?_⟩;dsimp only;by_cases hgt:k'.c+k'.p+k'.d > m
 .rw[ao (by simpa using hgt)];rw[ao hgt] at hc;exact hc _ ball
 .rw[ax (by simpa using hgt)];rw[ax hgt] at hc
  -- row 7
  show aM4 (tMk K "Frame" l 2 (dY (gE cf7 ak) (dY (gW 5) zB))) {nx:=λ_ H'=>Q .non H',rt:=Q} [aa (.ref a),aa vt,aa vp,aa v3,aa v4,aa (.ref kd),o6,o7] Hh;refine⟨[.uD,.uD,.uD,.uD,.tup [r0,r1,.tup own,.tup ws]],.tup ws,(EL.skip (.skip (.skip (.skip (.cons rv4g .nil))))).er,aO3,λv10 Hi s10 r10 _=>⟨.ref kd,rfl,?_⟩⟩;have rkd:Rep All Hi (.ref kd) (.dct kn):=(hDVg.rep trivial rkG ndk).same s10;refine⟨[.tup ws,.dct kn],_,rfl,.cons r10 (.cons rkd .nil),hl ws kn pw pkn,λCF' x dxx Hj vf hn hx sj hxj rf=>?_⟩;rw[hCF] at hn;cases hn;have rfa:=rf All (λ_ _=>trivial) (.cons r10 (.cons rkd .nil));cases rfa with
  |cons q1 rfa=>
  cases rfa with
  |cons q2 rfa=>
  cases rfa with
  |cons q3 rfa=>
  cases rfa;cases q2.inv;refine hc Hj x ?_ (λc oc ec nca=>sj _ _ (s10 _ _ (ball c oc ec nca))) (self4 Hj (s10.trans sj)) ⟨_,_,_,hxj,q1,q3⟩;cases hq:H x with
  |none=>rfl
  |some oo=>
   by_cases hxa:x=a
   .subst hxa;rw[s10 _ _ hag2] at hx;cases hx
   .rw[s10 _ _ (ball _ _ hq hxa)] at hx;cases hx
end
end
noncomputable abbrev aFk:ai:=9000
noncomputable def aRf:D->aw
 |.str _=>ag
 |_=>ak
def tkN(hd:ae (D×D))(w:D):ar ah:=match getD (.dct hd) w with
 |.ok (.tup [_,.tup ks])=>if ε ks&&ϒ (ks.length<=1000) then aa ks.length else aj
 |_=>aj
def aFl:ae D->ar ai
 |[]=>aa 0
 |.tup [_,_,.int z]::r=>if ϒ (-aFk<=z)&&ϒ (z<=aFk) then (aFl r).map (z+·) else aj
 |_::_=>aj
def SN(hd mk rl:ae (D×D))(m:ai)(k:Cn)(kn:ae (D×D))(st:ae D)(w:D):Res (ae D×ar (ae D×ae (D×D))×Cn):=
  if aRf w&&yJ kn w&&yJ mk w&&ϒ (st.length <= 100000) then (match cO kn w with
    |some v=>.ok (v::st,aj,k)
    |none=>match tkN hd w with
      |some n=>if n <= st.length then
          (if (cO mk w).isSome then (match aFl (st.take n) with|some z=>.ok (.tup [w,.tup (st.take n),.int (1+z)]::st.drop n,aj,k)|none=>.bad)
           else (match aDq rl m k w (st.take n) with|.ok (ws,kn',k')=>.ok (st.drop n,aa (ws,kn'),k')|.err c as=>.err c as|.bad=>.bad))
        else .bad
      |none=>.bad)
  else .bad
def aSr:FT:=bTB (b2 inX eF gU)
def tkg:FE:=b2 getD gU eF
def tki:FI:=bH (b2 getD (b2 getD (aFb "PlainRun" "heads" iJ) eF) dR) ak
def aSs:FT:=bTB (b2 inX eF (aFb "PlainRun" "makers" iJ))
def tkv:FE:=iK (aC eF (aC (aZ fJ (aC jY aU)) (aC (b2 (bJ .add) dR (aZ zX (aC (dB 6 (bH jY ak) lO gG (b2 getD t_ jD) ak) aU))) aU)))
section
variable [KFrag]
theorem aK0(h:yJ kn (.str x)=ag):aSr [a,b,c,.str x,.dct kn]=.ok (cO kn (.str x)).isSome:=by
 show(do let y <- (if yJ kn (.str x) then τ (χ (cO kn (.str x)).isSome) else .bad);asB y)=_;rw[ao h];rfl
theorem aK1(h:yJ mk (.str x)=ag):aSs [.ins "PlainRun" (prF hd mk rl m k),b,c,.str x]=.ok (cO mk (.str x)).isSome:=by
 show(do let y <- (if yJ mk (.str x) then τ (χ (cO mk (.str x)).isSome) else .bad);asB y)=_;rw[ao h];rfl
theorem aO5(h:cO kn (.str x)=aa v):tkg [a,b,c,.str x,.dct kn]=.ok v:=by
 show(if keyOk (.str x)=ag then ο (cO kn (.str x)) else .bad)=_;rw[h];rfl
theorem aHi(h:tkN hd (.str x)=aa n):∃ks,ks.length=n/\n<=1000/\tki [.ins "PlainRun" (prF hd mk rl m k),b,c,.str x,e,f]=.ok (ks,ag):=by
 unfold tkN at h;split at h
 .rename_i u ks hg;split at h
  .rename_i hb;rw[aS,cx] at hb;cases h;refine⟨ks,rfl,hb.2,?_⟩;have e1:b2 getD (b2 getD (aFb "PlainRun" "heads" iJ) eF) dR [.ins "PlainRun" (prF hd mk rl m k),b,c,.str x,e,f]=.ok (.tup ks):=by
    have e0:b2 getD (aFb "PlainRun" "heads" iJ) eF [.ins "PlainRun" (prF hd mk rl m k),b,c,.str x,e,f]=.ok (.tup [u,.tup ks]):=hg;exact aH e0 rfl rfl
   unfold tki bH;rw[e1];show τ (ks,ak||(ν ks).pure)=_;rw[ξ,hb.1];rfl
  .cases h
 .cases h
theorem aO6:∀(its ps acc:ae D),its.length=ps.length->ε ps=ag->xcf (NP 2) acc its [s,f,.cel b ((ps++vs).reverse),w,k,u]=.ok (acc++ps,[s,f,.cel b vs.reverse,w,k,u])
 |[],[],acc,_,_=>by
  show τ (acc,_)=_;rw[cv];rfl
 |i::its,p::ps,acc,hl,hp=>by
  rw[ε,aS] at hp;have e:((p::ps)++vs).reverse=(ps++vs).reverse++[p]:=by simp
  rw[e];have h1:NP 2 ([s,f,.cel b ((ps++vs).reverse++[p]),w,k,u]++[i])=.ok (p,[s,f,.cel b ((ps++vs).reverse),w,k,u,i]):=by
   show(match ((ps++vs).reverse++[p])[((ps++vs).reverse++[p]).length-1]? with|some x=>τ (x,[s,f,D.cel b ((ps++vs).reverse++[p]).dropLast,w,k,u,i])|none=>.bad)=_;rw[bq,eB,Dc,fI (bt _),Au,Ay];rfl
  show(do let q <- NP 2 ([s,f,.cel b ((ps++vs).reverse++[p]),w,k,u]++[i]);if q.1.pure then xcf (NP 2) (acc++[q.1]) its q.2.dropLast else .bad)=_;rw[h1,ι];rw[ao hp.1];have ih:=aO6 (s:=s) (f:=f) (w:=w) (k:=k) (u:=u) (b:=b) (vs:=vs) its ps (acc++[p]) (by simpa using hl) hp.2;rw[cu] at ih;exact ih
theorem aO7{st:ae D}(h:tkN hd (.str x)=aa n)(hn:n<=st.length)(hp:ε st=ag):aBp tki (NP 2) [.ins "PlainRun" (prF hd mk rl m k),f,.cel b st.reverse,.str x,e,u]=.ok (.lst (st.take n),[.ins "PlainRun" (prF hd mk rl m k),f,.cel b (st.drop n).reverse,.str x,e,u]):=by
 obtain⟨ks,hk,hb,he⟩:=aHi (hd:=hd) (mk:=mk) (rl:=rl) (m:=m) (k:=k) (b:=f) (c:=.cel b st.reverse) (e:=e) (f:=u) h;unfold aBp;rw[he,ι];rw[ao (by rw[mE];exact bw (dj (yr hk) (dj hb 0x4)))];have hs:st=st.take n++st.drop n:=(nV n st).symm;have pt:ε (st.take n)=ag:=cL.mpr λy hy=>cL.mp hp y (zz hy)
 have:=aO6 (s:=.ins "PlainRun" (prF hd mk rl m k)) (f:=f) (w:=.str x) (k:=e) (u:=u) (b:=b) (vs:=st.drop n) ks (st.take n) [] (by rw[hk,jg];lia) pt;rw[<-hs] at this;rw[this];rfl
theorem V8(hρ:ρ.length=6):∀{ps:ae D}{z:ai},aFl ps=aa z->∃ns:ae ai,ns.length=ps.length/\ns.sum=z/\(∀i∈ns,-aFk<=i/\i<=aFk)/\∀acc:ae D,oW (K6 6 lO gG (b2 getD t_ jD) ak ρ) acc ps=.ok (acc++ns.map θ)
 |[],z,h=>by cases h;exact⟨[],rfl,rfl,(λi hi=>by cases hi),λacc=>by rw[gi,cv];rfl⟩
 |p::r,z,h=>by
  unfold aFl at h;split at h
  .cases ‹_::_=[]›
  .rename_i a b y r' e;cases e;split at h
   .rename_i hb;rw[aS,cx,cx] at hb;obtain⟨z',h1,rfl⟩:=i0.mp h;obtain⟨ns,i1,i2,i3,i4⟩:=V8 hρ h1;refine⟨y::ns,by rw[br,br,i1],by rw[lI,i2],λi hi=>?_,λacc=>?_⟩
    .rcases cg.mp hi with rfl|hi
     .exact hb
     .exact i3 i hi
    .have e6:cD 6 (ρ++[ν [a,b,.int y]])=.ok (.tup [a,b,.int y]):=bV (by rw[cj,fI 0x1,hρ];rfl) 0x7;rw[oW,zW hρ rfl λ_=>⟨aH e6 rfl rfl,rfl⟩];show oW _ (acc++[θ y]) _=_;rw[i4,cu];rfl
   .cases h
  .cases h
theorem V9:∀ns:ae ai,intsOf (ns.map θ)=aa ns
 |[]=>rfl
 |n::ns=>by
  show(intsOf (ns.map θ)).map (n::·)=_;rw[V9 ns];rfl
theorem aO8(h:aFl ps=aa z)(hl:ps.length<=1000):tkv [a,b,c,.str x,e,.lst ps]=.ok (.tup [.str x,.tup ps,.int (1+z)]):=by
 obtain⟨ns,i1,i2,i3,i4⟩:=V8 (ρ:=[a,b,c,.str x,e,.lst ps]) rfl h;have e1:dB 6 (bH jY ak) lO gG (b2 getD t_ jD) ak [a,b,c,.str x,e,.lst ps]=.ok (.lst (ns.map θ)):=RZ rfl (by rw[bG];lia) (i4 []);have e2:zX [.lst (ns.map θ)]=.ok (.int z):=by
  show(match intsOf (ns.map θ) with|some ns=>if ns.all (λi=>ϒ (-aFk<=i)&&ϒ (i<=aFk))&&ϒ (ns.length<=100000) then τ (θ ns.sum) else .bad|none=>.bad)=_;rw[V9];dsimp only;rw[ao,i2];rw[aS,ig,cx];refine⟨λi hi=>?_,by lia⟩;rw[aS,cx,cx];exact i3 i hi
 exact eE (aD rfl (aD (bF (aD rfl rfl) (show fJ [.lst ps]=.ok (.tup ps) from rfl)) (aD (aH rfl (bF (aD e1 rfl) e2) rfl) rfl))) (by show 3<=lim;decide)
def kTk(CF CS:al)(a af av:al)(fl:ae V)(hd mk rl:ae (D×D))(m:ai)(H:Hp)(Q:VK)(E:XK):Res (ae D×ar (ae D×ae (D×D))×Cn)->Prop
 |.ok (st',aj,_)=>∀H' vs',mY av H H'->H' av=aa (.lst vs')->bK All H' vs' st'.reverse->Q .non H'
 |.ok (st',aa (ws',kn'),k')=>∀H' vs' x,H x=aj->aQ5 (λb=>b=a\/b=af\/b=av) H H'->Rep All H' (.ref a) (.ins "PlainRun" (prF hd mk rl m k'))->H' af=aa (.lst (fl++[.ref x]))->FrA CF H' x ws' ws'.length kn'->H' av=aa (.lst vs')->bK All H' vs' st'.reverse->Q .non H'
 |.err _ _=>∀H',aQ5 (λb=>b=a\/b=af\/b=av) H H'->E (.ref CS) aj H'
 |.bad=>cb
def aO9(CF CS:al):Sp:=λvs H Q E=>∃a af av vw hd mk rl m k kn st w fl fr ws i vs0,vs=[.ref a,.ref af,.ref av,vw]/\okR hd mk rl/\ε (kn.map (·.2))=ag/\ε st=ag/\Rep All H (.ref a) (.ins "PlainRun" (prF hd mk rl m k))/\H af=aa (.lst fl)/\fl.length<1000000/\atI fl (-1)=aa (.ref fr)/\FrA CF H fr ws i kn/\H av=aa (.lst vs0)/\bK All H vs0 st.reverse/\af≠av/\Rep All H vw w/\kTk CF CS a af av fl hd mk rl m H Q E (SN hd mk rl m k kn st w)
def aSt(K:bi)(C CF CS:al)(E:XK):TS:=aGv (gT aSs) (GK (tBM K "list" GZ (gW 2) (dY (gE tkv ak) zB)))
 (GK (tBM K "list" GZ (gW 1) (dY (X7 C "called" (aC9 CF CS) [] E (gW 0) (dY (gW 3) (dY (gW 5) zB))) zB)))
def aSu(K:bi)(C CF CS:al)(E:XK):TS:=aGv (gT aSr) (GK (tBM K "list" GZ (gW 2) (dY (gE tkg ak) zB)))
 (wN (BX (gX (own1 2) (aBp tki (NP 2))) (fG 5)) (aSt K C CF CS E))
def tTk(K:bi)(C CF CS:al)(E:XK):TS:=wN (BX (T_ K (tOp (aPy K) (gW 1) tm1) "known") (fG 4)) (aSu K C CF CS E)
theorem aFm(S:cG X.N X.env.scope scope [cn])(hn:X.N.length=n)(hcalm:X.calm=ag)(hon:own n=ak)(hi:PI X tg iter (gI X.K it))(hg:∀y,PG (mkC X scope [cn] y) tg (fG n))(he:∀y,PE (mkC X scope [cn] y) elt (gX own f))
 (hs:∀x,en iter X.env x=pure x)(hNn:X.N.Nodup)(hiy:X.N[iy]?=aa y)(hxy:Loc X.env.scope y)(hfy:zFn X y)(hsw:dy (.ListComp elt [⟨tg,iter,[],0⟩] scope pos) (aa (.Name y py)) pos2.line X.env=pure ag) :
  PS X (.Assign [.Name y py] (.ListComp elt [⟨tg,iter,[],0⟩] scope pos) pos2) (BX (gX own (aBp it f)) (fG iy)):=by
 intro Ψ s σ H D I h;refine VD S hcalm hi (λX' cc=>by obtain⟨y,rfl⟩:=mR cc;exact hg y) (λX' cc=>by obtain⟨y,rfl⟩:=mR cc;exact he y) hs hNn hiy hxy hfy hsw Ψ s σ H D I ?_;exact YX hon (I.len.trans hn) h
theorem mF(b:mY x H H')(hx:H x=aa (.lst xs))(r:Rep All H v (.dct kn))(p:ε (kn.map (·.2))=ag):Rep (λc=>c≠x) H' v (.dct kn):=by
 have k:yF H H':=λa o e u=>b a o e λz=>by
  subst z;rw[hx] at e;cases e;cases u
 cases r with
 |dK e _ r n=>
  have ne:=n8 e hx 0x7;exact .dK (b _ _ e ne) ne (r.gK k p) n
 |dT e _ r n=>
  have ne:=n8 e hx 0x7;exact .dT (b _ _ e ne) ne (r.gK k p) n
theorem wZ{st:ae D}(h:ε st=ag):ε (st.drop n)=ag:=cL.mpr λy hy=>cL.mp h y (List.mem_of_mem_drop hy)
theorem FZ{st:ae D}(h:ε st=ag):ε (st.take n)=ag:=cL.mpr λy hy=>cL.mp h y (zz hy)
theorem aOa(h:aDq rl m k tk ps=.ok (ws,kn,k')):ε ws=ag:=by
 obtain⟨w0,xs,z0,more,r0,r1,own,ws',kn',k'',_,_,_,_,_,pw,hz,_,e⟩:=IK h 0x7;split at e
 .cases e
 .cases e;exact pw
theorem aSv(h:aDq rl m k tk ps=.ok (ws,kn,k')):ε (kn.map (·.2))=ag:=by
 obtain⟨w0,xs,z0,more,r0,r1,own,ws',kn',k'',_,_,_,_,_,pw,hz,_,e⟩:=IK h 0x7;split at e
 .cases e
 .cases e;exact V7 hz
section
theorem aK2{K:bi}{C CF CS:al}(hN:N.length=6)(hK:KFrag.K=K)(hC:nsIn K bj "PlainRun"=aa (aa (.ref C)))(clF:Cls K CF)(nk:cQ K CF "known"){H:Hp}{Q:VK}{E:XK}(h:aO9 CF CS vs H Q E):tTk K C CF CS E {nx:=λ_ H'=>Q .non H',rt:=Q} (L2.start N vs) H:=by
 obtain⟨a,af,av,vw,hd,mk,rl,m,k,kn,st,w,fl,fr,ws,i,vs0,rfl,⟨o1,o2,o3⟩,pkn,pst,ra,hf,hfl,hlast,⟨dxf,w1,w3,hfr,rw1,rw3⟩,hv,rv,hne,rw,hc⟩:=h;have hst:L2.start N [V.ref a,.ref af,.ref av,vw]=[aa (.ref a),aa (.ref af),aa (.ref av),aa vw,aj,aj]:=by
  unfold L2.start;rw[hN];rfl
 rw[hst];unfold SN at hc;split at hc
 .rename_i hb;simp only[aS,cx] at hb;obtain⟨⟨⟨hb1,hb2⟩,hb3⟩,hb4⟩:=hb;obtain⟨x,rfl⟩:∃x,w=.str x:=by
   cases w with
   |str x=>exact⟨x,rfl⟩
   |_=>cases hb1
  have lv:vs0.length<=100000:=by rw[rv.length,jb];exact hb4
  obtain⟨dx,h1,h2,h3,hsa,e1,e2,e3⟩:=mD hK hC ra;have nva:a≠av:=n8 hsa hv 0x7;have nfa:a≠af:=n8 hsa hf 0x7
  -- known
  refine⟨.ref af,rfl,1,rfl,af,fl,-1,.ref fr,rfl,rfl,.of hf,hlast,fr,CF,dxf,_,w3,rfl,hfr,clF,nk,rfl,?_⟩;show aSu K C CF CS E {nx:=λ_ H'=>Q .non H',rt:=Q} [aa (.ref a),aa (.ref af),aa (.ref av),aa vw,aa w3,aj] H;refine⟨[.uD,.uD,.uD,.str x,.dct kn],_,(EL.skip (.skip (.skip (.cons rw (.cons rw3 .nil))))).er,aK0 hb2,λH1 s1=>?_⟩;split at hc
  .rename_i v hlk;rw[hlk];show(if ag=ag then _ else _);rw[ao rfl];refine⟨.ref av,rfl,.inl ⟨rfl,_,.of (s1 _ _ hv)⟩,[.uD,.uD,.uD,.str x,.dct kn],v,(EL.skip (.skip (.skip (.cons (rw.same s1) (.cons (rw3.same s1) .nil))))).er,aO5 hlk,λvv H2 s2 rvv _=>⟨av,vs0,vv,rfl,rfl,s2 _ _ (s1 _ _ hv),oI lv (by rw[dv];decide),?_⟩⟩;have hv2:=s2 _ _ (s1 _ _ hv);have pv:v.pure=ag:=IW pkn hlk;refine hc _ (vs0++[vv]) (λb o e nb=>?_) aJ ?_
   .rw[aO nb];exact s2 _ _ (s1 _ _ e)
   .rw[fN];exact(((rv.same s1).same s2).snoc rvv).upd (by rw[jQ,iM pst];simp[ε,pv]) hv2 rfl
  .rename_i hlk;rw[hlk];show(if ak=ag then _ else _);rw[ax iO];split at hc
   .rename_i n hn;split at hc
    .rename_i hle;have b1:mY av H H1:=mY.same s1;have d1:=mF b1 hv e1 o1;have d2:=mF b1 hv e2 o2;have d3:=mF b1 hv e3 o3;have hv1:=s1 _ _ hv;have hO:∀b,Own (own1 2) [aa (.ref a),aa (.ref af),aa (.ref av),aa vw,aa w3,aj] b↔b=av:=λb=>by
      constructor
      .rintro⟨j,hj,e⟩;have:j=2:=by simpa[own1] using hj
       subst this;cases e;rfl
      .rintro rfl;exact⟨2,rfl,rfl⟩
     have hOf:(λb=>¬Own (own1 2) [aa (.ref a),aa (.ref af),aa (.ref av),aa vw,aa w3,aj] b)=λb=>b≠av:=funext λb=>by rw[hO]
     refine⟨[.ins "PlainRun" (prF hd mk rl m k),.uD,.cel av st.reverse,.str x,.uD,.uD],_,_,⟨rfl,λj hj=>?_,λj u hj hu=>?_⟩,aO7 hn hle pst,λv5 H2 ku E2 _ r5=>?_⟩
     .rw[hOf]
      match j,hj with
      |0,_=>exact⟨_,rfl,λ_=>BJ hK hC (s1 _ _ hsa) d1 d2 d3⟩
      |1,hj=>exact aT rfl hj
      |2,_=>exact⟨_,rfl,λh=>by cases h⟩
      |3,_=>exact⟨_,rfl,λ_=>(rw.same s1).bT rfl⟩
      |4,hj=>exact aT rfl hj
      |5,hj=>exact aT rfl hj
      |j+6,hj=>exact aT rfl hj
     .have:j=2:=by simpa[own1] using hj
      subst this;cases hu;exact⟨av,_,rfl,.cel hv1 trivial (rv.same s1),iM pst,hv1,rfl,λq hq _=>by simpa[own1] using hq⟩
     .have b2:mY av H1 H2:=λb o e nb=>(ku b o e λz=>nb ((hO b).mp z)).1
      obtain⟨vs1,hv2,rv2⟩:∃vs1,H2 av=aa (.lst vs1)/\bK All H2 vs1 (st.drop n).reverse:=by
       obtain⟨ad,o,ea,r,_⟩:=E2.own 2 (.ref av) rfl rfl;cases r with
       |cel e _ r=>exact⟨_,e,r⟩
      have hsa2:=b2 _ _ (s1 _ _ hsa) nva;have b12:mY av H H2:=λb o e nb=>b2 _ _ (s1 _ _ e) nb
      have ra2:Rep All H2 (.ref a) (.ins "PlainRun" (prF hd mk rl m k)):=BJ hK hC hsa2 (mF b12 hv e1 o1).all (mF b12 hv e2 o2).all (mF b12 hv e3 o3).all;have rw2:Rep All H2 vw (.str x):=by cases rw.inv;exact .str x
      show aSt K C CF CS E {nx:=λ_ H'=>Q .non H',rt:=Q} [aa (.ref a),aa (.ref af),aa (.ref av),aa vw,aa w3,aa v5] H2;refine⟨[.ins "PlainRun" (prF hd mk rl m k),.uD,.uD,.str x],_,(EL.cons ra2 (.skip (.skip (.cons rw2 .nil)))).er,aK1 hb3,λH3 s3=>?_⟩;split at hc
      .rename_i hm;rw[hm];rw[ao rfl];split at hc
       .rename_i z hz;refine⟨.ref av,rfl,.inl ⟨rfl,_,.of (s3 _ _ hv2)⟩,[.uD,.uD,.uD,.str x,.uD,.lst (st.take n)],_,(EL.skip (.skip (.skip (.cons (rw2.same s3) (.skip (.cons (r5.all.same s3) .nil)))))).er,aO8 hz (by rw[jg];have:=aHi (mk:=mk) (rl:=rl) (m:=m) (k:=k) (b:=.uD) (c:=.uD) (e:=.uD) (f:=.uD) hn;obtain⟨_,_,q,_⟩:=this;lia),λvv H4 s4 rvv _=>⟨av,vs1,vv,rfl,rfl,s4 _ _ (s3 _ _ hv2),?_,?_⟩⟩
        .have:=rv2.length;rw[jb,mq] at this;rw[dv];lia
        .have hv4:=s4 _ _ (s3 _ _ hv2);refine hc _ (vs1++[vv]) (λb o e nb=>?_) aJ ?_
         .rw[aO nb];exact s4 _ _ (s3 _ _ (b12 _ _ e nb))
         .rw[fN];refine(((rv2.same s3).same s4).snoc rvv).upd ?_ hv4 rfl;rw[jQ,iM (wZ pst)];simp[ε,ξ,FZ pst]
       .exact hc.elim
      .rename_i hm;rw[Bool.not_eq_true] at hm;rw[hm];rw[ax iO];have hf3:=s3 _ _ (b2 _ _ (s1 _ _ hf) hne);have hv3:=s3 _ _ hv2;have bs:∀H4,mY a H3 H4->aQ5 (λb=>b=a\/b=af\/b=av) H H4:=λH4 b4 b o e nb=>b4 _ _ (s3 _ _ (b12 _ _ e λz=>nb (.inr (.inr z)))) λz=>nb (.inl z)
       refine⟨.ref af,rfl,.inl ⟨rfl,_,.of hf3⟩,.ref a,rfl,a,dx,_,rfl,s3 _ _ hsa2,rfl,vw,rfl,v5,rfl,a,vw,v5,hd,mk,rl,m,k,.str x,st.take n,rfl,⟨o1,o2,o3⟩,rfl,FZ pst,ra2.same s3,rw2.same s3,r5.all.same s3,?_⟩;cases hq:aDq rl m k (.str x) (st.take n) with
       |ok r=>
        obtain⟨ws',kn',k'⟩:=r;rw[hq] at hc;intro H4 xx hxx b4 rs fa;have hf4:=b4 _ _ hf3 (Ne.symm nfa);have hv4:=b4 _ _ hv3 (Ne.symm nva);refine⟨af,fl,.ref xx,rfl,rfl,hf4,by rw[dv];lia,?_⟩;have nxf:xx≠af:=λz=>by rw[z,hf3] at hxx;cases hxx
        have us:yF H4 (upd H4 af (.lst (fl++[.ref xx]))):=λb o e u=>by
         rw[aO (λz=>by subst z;rw[hf4] at e;cases e;cases u)];exact e
        have bf:mY af H4 (upd H4 af (.lst (fl++[.ref xx]))):=mY.upd;have dk:∀{v:V}{kk:ae (D×D)},Rep All H4 v (.dct kk)->ε (kk.map (·.2))=ag->Rep All (upd H4 af (.lst (fl++[.ref xx]))) v (.dct kk):=λr p=>(mF bf hf4 r p).all
        obtain⟨dx4,g1,g2,g3,hs4,q1,q2,q3⟩:=mD hK hC rs;obtain⟨dxx,y1,y3,hx4,ry1,ry3⟩:=fa;refine hc _ vs1 xx ?_ (λb o e nb=>?_) (BJ hK hC (by rw[aO nfa];exact hs4) (dk q1 o1) (dk q2 o2) (dk q3 o3)) aJ ⟨dxx,y1,y3,by rw[aO nxf];exact hx4,?_,?_⟩ (by rw[aO (Ne.symm hne)];exact hv4) ?_
        .cases hh:H xx with
         |none=>rfl
         |some oo=>
          exfalso;by_cases hxv:xx=av
          .rw[hxv,hv3] at hxx;cases hxx
          .rw[s3 _ _ (b12 _ _ hh hxv)] at hxx;cases hxx
        .rw[aO λz=>nb (.inr (.inl z))];exact bs H4 b4 b o e nb
        .exact ry1.gK us (by rw[ξ];exact aOa hq)
        .exact dk ry3 (aSv hq)
        .have r4:bK All H4 vs1 (st.drop n).reverse:=(rv2.same s3).gK (b4.use (s3 _ _ hsa2)) (iM (wZ pst));exact r4.gK us (iM (wZ pst))
       |err c as=>
        rw[hq] at hc;exact λH4 b4=>hc H4 (bs H4 b4)
       |bad=>
        rw[hq] at hc;exact hc.elim
    .exact hc.elim
   .exact hc.elim
 .exact hc.elim
end
theorem aFn{st st' ws':ae D}{w:D}(h:SN hd mk rl m k kn st w=.ok (st',aa (ws',kn'),k')):ε ws'=ag/\ε (kn'.map (·.2))=ag:=by
 unfold SN at h;split at h
 .split at h
  .cases h
  .split at h
   .split at h
    .split at h
     .split at h<;>cases h
     .split at h
      .rename_i hq;cases h;exact⟨aOa hq,aSv hq⟩
      .cases h
      .exact bx h
    .exact bx h
   .exact bx h
 .exact bx h
end
structure Fr where
 ws:ae D
 i:ah
 kn:ae (D×D)
def runN(hd mk rl:ae (D×D))(m:ai):ah->ae Fr->ae D->Cn->Res (ae D×Cn)
 |0,_,_,_=>.bad
 |_+1,[],st,k=>.ok (st,k)
 |n+1,⟨_,0,_⟩::r,st,k=>runN hd mk rl m n r st k
 |n+1,⟨ws,i+1,kn⟩::r,st,k=>match ws[i]? with
  |none=>.bad
  |some w=>if ϒ (r.length<900000) then (match SN hd mk rl m k kn st w with
   |.ok (st',aj,_)=>if ε st' then runN hd mk rl m n (⟨ws,i,kn⟩::r) st' k else .bad
   |.ok (st',aa (ws',kn'),k')=>if ε st' then runN hd mk rl m n (⟨ws',ws'.length,kn'⟩::⟨ws,i,kn⟩::r) st' k' else .bad
   |.err c as=>.err c as
   |.bad=>.bad) else .bad
theorem wH:∀{n:ah}{fs:ae Fr}{st:ae D}{k:Cn}{r:Res (ae D×Cn)},runN hd mk rl m n fs st k=r->r≠.bad->∀j,runN hd mk rl m (n+j) fs st k=r
 |0,_,_,_,_,h,hr,_=>aT h.symm hr
 |n+1,[],st,k,r,h,hr,j=>by
  rw[Az];exact h
 |n+1,⟨ws,0,kn⟩::fs,st,k,r,h,hr,j=>by
  rw[Az];exact wH (fs:=fs) h hr j
 |n+1,⟨ws,i+1,kn⟩::fs,st,k,r,h,hr,j=>by
  rw[Az];unfold runN at h ⊢;split at h
  .exact aT h.symm hr
  .split at h
   .rename_i hb;rw[ao hb];split at h
    .split at h
     .rename_i hp;rw[ao hp];exact wH h hr j
     .exact aT h.symm hr
    .split at h
     .rename_i hp;rw[ao hp];exact wH h hr j
     .exact aT h.symm hr
    .exact h
    .exact aT h.symm hr
   .exact aT h.symm hr
theorem aK3{st:ae D}{k:Cn}{r r':Res (ae D×Cn)}(h:runN hd mk rl m n fs st k=r)(hr:r≠.bad)(h':runN hd mk rl m n' fs st k=r')(hr':r'≠.bad):r=r':=by
 have e1:=wH h hr n';have e2:=wH h' hr' n;rw[Dd] at e2;exact e1.symm.trans e2
noncomputable def aOb:Res (ae D×Cn)->Res (D×Cn)
 |.ok (st,k)=>match st.getLast? with
  |some y=>.ok (y,k)
  |none=>.bad
 |.err c as=>.err c as
 |.bad=>.bad
open Classical in
def aCc(hd mk rl:ae (D×D))(m:ai)(ws:ae D):Res (D×Cn):=
 if h:∃r,r≠.bad/\∃n,runN hd mk rl m n [⟨ws,ws.length,[]⟩] [] ⟨0,0,0⟩=r then aOb h.choose else .bad
theorem aCd(h:runN hd mk rl m n [⟨ws,ws.length,[]⟩] [] ⟨0,0,0⟩=r)(hr:r≠.bad):aCc hd mk rl m ws=aOb r:=by
 have e:∃r,r≠.bad/\∃n,runN hd mk rl m n [⟨ws,ws.length,[]⟩] [] ⟨0,0,0⟩=r:=⟨r,hr,n,h⟩
 obtain⟨h1,n',h2⟩:=e.choose_spec;unfold aCc;rw[wo e,aK3 h2 h1 h hr]
theorem aCe(h:aCc hd mk rl m ws=q)(hq:q≠.bad):∃r n,r≠.bad/\runN hd mk rl m n [⟨ws,ws.length,[]⟩] [] ⟨0,0,0⟩=r/\aOb r=q:=by
 unfold aCc at h;split at h
 .rename_i e;obtain⟨h1,n',h2⟩:=e.choose_spec;exact⟨_,n',h1,h2,h⟩
 .exact aT h.symm hq
section
variable [KFrag]
noncomputable def loud:HO->aw
 |.lst _=>ag
 |.ins _ _ _=>ag
 |_=>ak
structure Lb(S:al->Prop)(H H':Hp):Prop where
 bs:aQ5 S H H'
 ld:∀b,S b->∃o,H b=aa o/\loud o=ag
theorem Lb.use{S:al->Prop}(x:Lb S H H'):yF H H':=λb o e u=>x.bs b o e λz=>by
 obtain⟨o',e',hl⟩:=x.ld b z;rw[e] at e';cases e';cases o<;>first|(cases hl;done)|(cases u;done)
theorem Lb.same(s:bW H H'):Lb (λ_=>cb) H H':=⟨λb o e _=>s b o e,λ_ z=>z.elim⟩
theorem Lb.but(b:mY x H H')(hx:H x=aa o)(hl:loud o=ag):Lb (λc=>c=x) H H':=⟨λc oc e n=>b c oc e n,λc z=>by subst z;exact⟨o,hx,hl⟩⟩
theorem Lb.dct{S:al->Prop}(x:Lb S H H'){v:V}{kn:ae (D×D)}(r:Rep All H v (.dct kn))(p:ε (kn.map (·.2))=ag):Rep All H' v (.dct kn):=by
 cases r with
 |dK e _ r n=>exact .dK (x.bs _ _ e λz=>by obtain⟨o,e',hl⟩:=x.ld _ z;rw[e] at e';cases e';cases hl) trivial (r.gK x.use p) n
 |dT e _ r n=>exact .dT (x.bs _ _ e λz=>by obtain⟨o,e',hl⟩:=x.ld _ z;rw[e] at e';cases e';cases hl) trivial (r.gK x.use p) n
theorem Lb.fra{S:al->Prop}{H H':Hp}{CF fr:al}{ws:ae D}{i:ah}{kn:ae (D×D)}(x:Lb S H H')(h:FrA CF H fr ws i kn)(p:ε ws=ag)(pk:ε (kn.map (·.2))=ag)(n:¬S fr):FrA CF H' fr ws i kn:=by
 obtain⟨dx,w1,w3,e,r1,r3⟩:=h;exact⟨dx,w1,w3,x.bs _ _ e n,r1.gK x.use (by rw[ξ];exact p),x.dct r3 pk⟩
def ZQ(CF:al)(H0 H:Hp):ae al->ae Fr->Prop
 |[],[]=>gn
 |x::as,f::fs=>FrA CF H x f.ws f.i f.kn/\ε f.ws=ag/\ε (f.kn.map (·.2))=ag/\H0 x=aj/\x∉as/\ZQ CF H0 H as fs
 |_,_=>cb
theorem Lb.frs{S:al->Prop}(x:Lb S H H'):∀{as:ae al}{fs:ae Fr},ZQ CF H0 H as fs->(∀b∈as,¬S b)->ZQ CF H0 H' as fs
 |[],[],_,_=>trivial
 |a::as,f::fs,⟨h1,h2,h3,h4,h5,h6⟩,n=>⟨x.fra h1 h2 h3 (n a 0x2),h2,h3,h4,h5,Lb.frs x h6 λb hb=>n b (by simp[hb])⟩
 |[],_::_,h,_=>h.elim
 |_::_,[],h,_=>h.elim
theorem ZQ.ins:∀{as:ae al}{fs:ae Fr},ZQ CF H0 H as fs->∀b∈as,H0 b=aj/\∃C dx fs,H b=aa (.ins C dx fs)
 |[],[],_,b,hb=>by cases hb
 |a::as,f::fs,⟨⟨dx,w1,w3,e,_⟩,h2,h3,h4,h5,h6⟩,b,hb=>by
  rcases cg.mp hb with rfl|hb
  .exact⟨h4,_,_,_,e⟩
  .exact ZQ.ins h6 b hb
 |[],_::_,h,_,_=>h.elim
 |_::_,[],h,_,_=>h.elim
theorem ZQ.len:∀{as:ae al}{fs:ae Fr},ZQ CF H0 H as fs->as.length=fs.length
 |[],[],_=>rfl
 |a::as,f::fs,⟨_,_,_,_,_,h6⟩=>by rw[br,br,ZQ.len h6]
 |[],_::_,h=>h.elim
 |_::_,[],h=>h.elim
structure VI(CF:al)(hd mk rl:ae (D×D))(m:ai)(H0:Hp)(a af av:al)(fs:ae Fr)(st:ae D)(k:Cn)(H:Hp):Prop where
 sm:mY a H0 H
 self:Rep All H (.ref a) (.ins "PlainRun" (prF hd mk rl m k))
 frs:∃as,H af=aa (.lst (as.map V.ref).reverse)/\ZQ CF H0 H as fs
 val:∃vs,H av=aa (.lst vs)/\bK All H vs st.reverse
 pv:ε st=ag
def aSw:FE:=b2 getD (aFb "Frame" "words" gU) (aFb "Frame" "left" gU)
noncomputable def frK(ws:ae D)(i:ah)(kn:ae (D×D)):D:=.ins "Frame" [("words",.tup ws),("left",.int i),("known",.dct kn)]
theorem aK4(h:ws[j]?=aa w):aSw [.uD,.uD,.uD,.uD,frK ws j kn]=.ok w:=by
 have hj:j<ws.length:=by
  rcases lq j ws.length with z|z
  .exact z
  .rw[iu z] at h;cases h
 show(ο ((ixD ws.length (j:ai)).bind λi=>ws[i]?))=.ok w;unfold ixD;rw[ao 0x1,ao 0x1];show ο (ws[(j:ai).toNat]?)=.ok w;rw[gV,h];rfl
def aSx(C CF CS:al)(E:XK):TS:=GK (X7 C "take_word" (aO9 CF CS) [] E (gW 0) (dY (gW 2) (dY (gW 3) (dY (gE aSw ak) zB))))
def aSy(K:bi)(C CF CS:al)(E:XK):TS:=aGv (tB (aQb (T_ K (gW 4) "left") (tC (.int 0)))) (GK (aR7 K 2))
  (wN (aLk K (gW 4) (aQ9 (T_ K (gW 4) "left") (tC (.int 1))) "left") (aSx C CF CS E))
def tWB(K:bi)(C CF CS:al)(E:XK):TS:=wN (BX (tOp (aPy K) (gW 2) tm1) (fG 4)) (aSy K C CF CS E)
def aSz(K:bi)(C CF CS:al)(l:ae (Str×Srx))(E:XK):TS:=
 wN (BX (aPx (dY (tMk K "Frame" l 2 (dY (gW 1) (dY UL zB))) zB)) (fG 2))
  (wN (BX (aPx zB) (fG 3))
   (wN (Z5 (aSo K 2) (tWB K C CF CS E))
    (aM4 (tOp (aPy K) (gW 3) (tC (.int 0))))))
def aU7(CS a:al)(hd mk rl:ae (D×D))(m:ai)(H:Hp)(Q:VK)(E:XK):Res (D×Cn)->Prop
 |.ok (y,k)=>∀v H',mY a H H'->Rep All H' (.ref a) (.ins "PlainRun" (prF hd mk rl m k))->Rep All H' v y->y.pure=ag->Q v H'
 |.err _ _=>∀H',mY a H H'->E (.ref CS) aj H'
 |.bad=>cb
def aCf(CS:al):Sp:=λvs H Q E=>∃a vw hd mk rl m ws,vs=[.ref a,vw]/\okR hd mk rl/\ε ws=ag/\Rep All H (.ref a) (.ins "PlainRun" (prF hd mk rl m ⟨0,0,0⟩))/\Rep All H vw (.tup ws)/\aU7 CS a hd mk rl m H Q E (aCc hd mk rl m ws)
section
variable {K:bi} {C CF CS:al}
theorem SQ{S:al->Prop}{H H':Hp}{a:al}{hd mk rl:ae (D×D)}{m:ai}{k:Cn}(hK:KFrag.K=K)(hC:nsIn K bj "PlainRun"=aa (aa (.ref C)))(x:Lb S H H')(o:okR hd mk rl)(n:¬S a)(r:Rep All H (.ref a) (.ins "PlainRun" (prF hd mk rl m k))):Rep All H' (.ref a) (.ins "PlainRun" (prF hd mk rl m k)):=by
 obtain⟨dx,h1,h2,h3,e,r1,r2,r3⟩:=mD hK hC r;exact BJ hK hC (x.bs _ _ e n) (x.dct r1 o.1) (x.dct r2 o.2.1) (x.dct r3 o.2.2)
theorem aFo{hd mk rl:ae (D×D)}{m:ai}{H0:Hp}{vw:V}{a af av:al}{D':Ends}{E:XK}{res:Res (ae D×Cn)}(hK:KFrag.K=K)(hC:nsIn K bj "PlainRun"=aa (aa (.ref C)))(hCF:nsIn K bj "Frame"=aa (aa (.ref CF)))(clF:Cls K CF)(nl:cQ K CF "left")(ok:okR hd mk rl)
 (hna:∃o,H0 a=aa o)(nf:H0 af=aj)(nv:H0 av=aj)(ne:af≠av){o4:ar V}{H:Hp}{f:Fr}{fs:ae Fr}{st:ae D}{k:Cn}{n:ah}(I:VI CF hd mk rl m H0 a af av (f::fs) st k H)(hr:runN hd mk rl m (n+1) (f::fs) st k=res)(hne:res≠.bad)
 (hE:∀c as,res=.err c as->∀H',mY a H0 H'->E (.ref CS) aj H')
 (hN:∀o4 H fs st k,VI CF hd mk rl m H0 a af av fs st k H->runN hd mk rl m n fs st k=res->D'.nx [aa (.ref a),aa vw,aa (.ref af),aa (.ref av),o4] H) :
  tWB K C CF CS E D' [aa (.ref a),aa vw,aa (.ref af),aa (.ref av),o4] H:=by
 obtain⟨sm,self,⟨as,hf,fr⟩,⟨vs,hv,rv⟩,pv⟩:=I;obtain⟨x,as,rfl⟩:∃x as',as=x::as':=by
  cases as with
  |nil=>exact fr.elim
  |cons x as=>exact⟨x,as,rfl⟩
 obtain⟨⟨dx,w1,w3,hx,r1,r3⟩,pw,pk,nx0,nxa,frr⟩:=fr;obtain⟨dxp,h1,h2,h3,hsa,e1,e2,e3⟩:=mD hK hC self;obtain⟨o0,hna⟩:=hna;have a0:∀{b:al},H0 b=aj->b≠a:=λh z=>by rw[z,hna] at h;cases h
 have ex:(di V.ref (x::as)).reverse=(di V.ref as).reverse++[.ref x]:=by simp
 rw[ex] at hf;have nxf:x≠af:=n8 hx hf 0x7;have nxv:x≠av:=n8 hx hv 0x7;refine⟨.ref af,rfl,1,rfl,af,_,-1,.ref x,rfl,rfl,.of hf,yI _ _,?_⟩;show aSy K C CF CS E D' [aa (.ref a),aa vw,aa (.ref af),aa (.ref av),aa (.ref x)] H;obtain⟨ws,i,kn⟩:=f;refine⟨.ref x,rfl,x,CF,dx,_,.int i,rfl,hx,clF,nl,rfl,i,0,rfl,rfl,_,rfl,?_⟩;have asi:=ZQ.ins frr;dsimp only;cases i with
 |zero=>
  rw[ao 0x3];have bf:Lb (λc=>c=af) H (upd H af (.lst (as.map V.ref).reverse)):=Lb.but mY.upd hf rfl;refine⟨.ref af,rfl,.inl ⟨rfl,_,.of hf⟩,af,_,.ref x,rfl,rfl,hf,by simp,?_⟩;rw[Ay];refine hN _ _ fs st k ⟨λb o e nb=>?_,SQ hK hC bf ok (Ne.symm (a0 nf)) self,⟨as,aJ,bf.frs frr λb hb z=>?_⟩,⟨vs,by rw[aO (Ne.symm ne)];exact hv,rv.gK bf.use (iM pv)⟩,pv⟩ hr
  .rw[aO (bL e nf)];exact sm b o e nb
  .obtain⟨_,C',dx',fs',e⟩:=asi b hb;rw[z,hf] at e;cases e
 |succ j=>
  rw[ax (λz=>by have:=d5 z;lia)];refine⟨.ref x,rfl,x,CF,dx,_,.int ((j+1:ah):ai),rfl,hx,clF,nl,rfl,_,1,rfl,rfl,.ref x,rfl,x,CF,dx,_,rfl,hx,clF,nl,(by show 3<1000;decide),?_⟩;rw[aFd];have bx:Lb (λc=>c=x) H (upd H x (.ins CF dx [("words",w1),("left",.int j),("known",w3)])):=Lb.but mY.upd hx rfl;have hx2:upd H x (.ins CF dx [("words",w1),("left",.int j),("known",w3)]) x=aa (.ins CF dx [("words",w1),("left",.int j),("known",w3)]):=aJ;have hf2:=bx.bs _ _ hf (Ne.symm nxf);have hv2:=bx.bs _ _ hv (Ne.symm nxv);have self2:=SQ hK hC bx ok (Ne.symm (a0 nx0)) self;have rv2:bK All (upd H x (.ins CF dx [("words",w1),("left",.int j),("known",w3)])) vs st.reverse:=rv.gK bx.use (iM pv);have r12:Rep All (upd H x (.ins CF dx [("words",w1),("left",.int j),("known",w3)])) w1 (.tup ws):=r1.gK bx.use (by rw[ξ];exact pw);have r32:=bx.dct r3 pk;have sm2:mY a H0 (upd H x (.ins CF dx [("words",w1),("left",.int j),("known",w3)])):=λb o e nb=>bx.bs _ _ (sm b o e nb) (bL e nx0)
  have frr2:=bx.frs frr λb hb z=>by rw[z] at hb;exact nxa hb
  show aSx C CF CS E D' [aa (.ref a),aa vw,aa (.ref af),aa (.ref av),aa (.ref x)] (upd H x (.ins CF dx [("words",w1),("left",.int j),("known",w3)]));generalize upd H x (.ins CF dx [("words",w1),("left",.int j),("known",w3)])=H2 at hx2 hf2 hv2 self2 rv2 r12 r32 sm2 frr2;obtain⟨dxp2,g1,g2,g3,hsa2,_⟩:=mD hK hC self2;unfold runN at hr;split at hr
  .exact aT hr.symm hne
  .rename_i w hw;split at hr
   .rename_i hlen;have hlen:=d5 hlen;refine⟨.ref a,rfl,a,dxp2,_,rfl,hsa2,rfl,.ref af,rfl,.ref av,rfl,[.uD,.uD,.uD,.uD,frK ws j kn],w,(EL.skip (.skip (.skip (.skip (.cons (.ins (by rw[hK];exact hCF) hx2 (.cons r12 (.cons (.int _) (.cons r32 .nil)))) .nil))))).er,aK4 hw,λvw3 H3 s3 rw3 _=>?_⟩;have hf3:=s3 _ _ hf2;have hv3:=s3 _ _ hv2;have hx3:=s3 _ _ hx2;have l3:=Lb.same s3;have frr3:=l3.frs frr2 λ_ _ z=>z
    have sm3:mY a H0 H3:=λb o e nb=>s3 _ _ (sm2 b o e nb)
    have asi3:=ZQ.ins frr3;have hal:=frr.len;refine⟨a,af,av,vw3,hd,mk,rl,m,k,kn,st,w,_,x,ws,j,vs,rfl,ok,pk,pv,self2.same s3,hf3,by rw[bq,jb,az,hal];simp;lia,yI _ _,⟨dx,w1,w3,hx3,r12.same s3,r32.same s3⟩,hv3,rv2.same s3,ne,rw3,?_⟩;split at hr
    .rename_i st' k' ht;rw[ht];split at hr
     .rename_i hps;intro H4 vs' b4 hv4 rv4;have l4:Lb (λc=>c=av) H3 H4:=Lb.but b4 hv3 rfl;refine hN _ _ (⟨ws,j,kn⟩::fs) st' k ⟨λb o e nb=>b4 _ _ (sm3 b o e nb) (bL e nv),SQ hK hC l4 ok (Ne.symm (a0 nv)) (self2.same s3),⟨x::as,by rw[ex];exact b4 _ _ hf3 ne,l4.fra ⟨dx,w1,w3,hx3,r12.same s3,r32.same s3⟩ pw pk nxv,pw,pk,nx0,nxa,l4.frs frr3 λb hb z=>?_⟩,⟨vs',hv4,rv4⟩,hps⟩ hr;obtain⟨_,C',dx',fs',e⟩:=asi3 b hb;rw[z,hv3] at e;cases e
     .exact aT hr.symm hne
    .rename_i st' ws' kn' k' ht;rw[ht];split at hr
     .rename_i hps;intro H4 vs' y hy bs self4 hf4 fa hv4 rv4;obtain⟨dxp3,q1,q2,q3,hsa3,_⟩:=mD hK hC (self2.same s3);have l4:Lb (λb=>b=a\/b=af\/b=av) H3 H4:=⟨bs,λb hb=>by
       rcases hb with rfl|rfl|rfl
       .exact⟨_,hsa3,rfl⟩
       .exact⟨_,hf3,rfl⟩
       .exact⟨_,hv3,rfl⟩⟩
      have old:∀b,(H0 b=aj/\∃C dx fs,H3 b=aa (.ins C dx fs))->¬(b=a\/b=af\/b=av):=λb ⟨z0,C',dx',fs',e⟩ z=>by
       rcases z with rfl|rfl|rfl
       .exact a0 z0 rfl
       .rw[hf3] at e;cases e
       .rw[hv3] at e;cases e
      have nyx:y∉x::as:=λhb=>by
       rcases cg.mp hb with z|z
       .rw[z,hx3] at hy;cases hy
       .obtain⟨_,C',dx',fs',e⟩:=asi3 y z;rw[hy] at e;cases e
      have y0:H0 y=aj:=by
       cases hq:H0 y with
       |none=>rfl
       |some oo=>
        exfalso;by_cases hya:y=a
        .rw[hya,hsa3] at hy;cases hy
        .rw[sm3 _ _ hq hya] at hy;cases hy
      have pk':ε ws'=ag/\ε (kn'.map (·.2))=ag:=aFn ht;refine hN _ _ (⟨ws',ws'.length,kn'⟩::⟨ws,j,kn⟩::fs) st' k' ⟨λb o e nb=>?_,self4,⟨y::x::as,?_,fa,pk'.1,pk'.2,y0,nyx,l4.fra ⟨dx,w1,w3,hx3,r12.same s3,r32.same s3⟩ pw pk (old x ⟨nx0,_,_,_,hx3⟩),pw,pk,nx0,nxa,l4.frs frr3 λb hb=>old b (asi3 b hb)⟩,⟨vs',hv4,rv4⟩,hps⟩ hr
      .refine bs _ _ (sm3 b o e nb) λz=>?_
       rcases z with z|z|z
       .exact nb z
       .rw[z,nf] at e;cases e
       .rw[z,nv] at e;cases e
      .rw[hf4];simp
     .exact aT hr.symm hne
    .rename_i c as' ht;rw[ht];intro H4 bs;refine hE c as' hr.symm H4 λb o e nb=>bs _ _ (sm3 b o e nb) λz=>?_
     rcases z with z|z|z
     .exact nb z
     .rw[z,nf] at e;cases e
     .rw[z,nv] at e;cases e
    .exact aT hr.symm hne
   .exact aT hr.symm hne
end
end
def izz:D->aw
 |.int 0=>ag
 |_=>ak
theorem izE:∀{a:D},izz a=ag->a=.int 0
 |.int 0,_=>rfl
def aLs(lP:ae (Str×Srx))(vW:ae D->Res D):ae D->Res D
 |[pr,.tup ws,.int m]=>if ε ws&&pr.pure then (match evS [.uD,pr,.int m] lP with
  |.ok fs=>(match (fs.map (λp=>p.2):ae D) with
   |[.dct hd,.dct mk,.dct rl,.int m',a,b,c]=>if izz a&&(izz b&&(izz c&&(ε (hd.map (·.2))&&(ε (mk.map (·.2))&&ε (rl.map (·.2)))))) then (match aCc hd mk rl m' ws with
    |.ok (y,k)=>(match vW [y] with
     |.ok d=>if d.pure then .ok (.tup [d,.int k.c,.int k.p,.int k.d]) else .bad
     |_=>.bad)
    |.err c as=>.err c as
    |.bad=>.bad) else .bad
   |_=>.bad)
  |_=>.bad) else .bad
 |_=>.bad
section
variable [KFrag]
theorem aFp(h:aDq rl m k tk ps=.err c as):c="Spent"/\as=[.exc "Spent" []]:=by
 obtain⟨w0,xs,z0,more,r0,r1,own,ws',kn',k'',_,_,_,_,_,pw,hz,_,e⟩:=IK h 0x7;split at e
 .cases e;exact⟨rfl,rfl⟩
 .cases e
theorem aFq{st:ae D}{c:Str}{as:ae D}(h:SN hd mk rl m k kn st w=.err c as):c="Spent"/\as=[.exc "Spent" []]:=by
 unfold SN at h;split at h
 .split at h
  .cases h
  .split at h
   .split at h
    .split at h
     .split at h<;>cases h
     .split at h
      .cases h
      .rename_i hq;cases h;exact aFp hq
      .cases h
    .cases h
   .cases h
 .cases h
theorem yQ:∀{n:ah}{fs:ae Fr}{st:ae D}{k:Cn},runN hd mk rl m n fs st k=.err c as->c="Spent"/\as=[.exc "Spent" []]
 |0,_,_,_,h=>by cases h
 |n+1,[],st,k,h=>by cases h
 |n+1,⟨ws,0,kn⟩::fs,st,k,h=>yQ (fs:=fs) h
 |n+1,⟨ws,i+1,kn⟩::fs,st,k,h=>by
  unfold runN at h;split at h
  .cases h
  .split at h
   .split at h
    .split at h
     .exact yQ h
     .cases h
    .split at h
     .exact yQ h
     .cases h
    .rename_i hq;cases h;exact aFq hq
    .cases h
   .cases h
theorem aFr(h:aCc hd mk rl m ws=.err c as):c="Spent"/\as=[.exc "Spent" []]:=by
 obtain⟨r,n,_,h1,h2⟩:=aCe h 0x7;unfold aOb at h2;split at h2
 .split at h2<;>cases h2
 .cases h2;exact yQ h1
 .cases h2
section
variable {K:bi} {C CF CS:al} {l lP:ae (Str×Srx)} {vW:ae D->Res D}
theorem aFs(hN:N.length=5)(hK:KFrag.K=K)(hC:nsIn K bj "PlainRun"=aa (aa (.ref C)))(hCF:nsIn K bj "Frame"=aa (aa (.ref CF)))(clF:Cls K CF)(nl:cQ K CF "left")
 (hl:∀ws kn,ε ws=ag->ε (kn.map (·.2))=ag->evS [.uD,.tup ws,.dct kn] l=.ok [("words",.tup ws),("left",.int ws.length),("known",.dct kn)]){E:XK}(h:aCf CS vs H Q E):aSz K C CF CS l E {nx:=λ_ H'=>Q .non H',rt:=Q} (L2.start N vs) H:=by
 obtain⟨a,vw,hd,mk,rl,m,ws,rfl,ok,pw,self,rw,hc⟩:=h;have hst:L2.start N [V.ref a,vw]=[aa (.ref a),aa vw,aj,aj,aj]:=by
  unfold L2.start;rw[hN];rfl
 rw[hst];generalize hres:aCc hd mk rl m ws=q at hc;have hq:q≠.bad:=λz=>by subst z;exact hc
 obtain⟨res,n0,hne,hr0,he⟩:=aCe hres hq;obtain⟨dxp,g1,g2,g3,hsa,_⟩:=mD hK hC self;refine⟨vw,rfl,λp hp=>?_⟩;have s1:bW H (upd H p (.dK [])):=bW.upd hp;refine⟨[.tup ws,.dct []],_,rfl,.cons (rw.same s1) (.cons (.dK aJ trivial .nil 0x2) .nil),hl ws [] pw rfl,λCF' x dx H2 vf hn2 hx s2 hx2 rf2=>?_⟩;rw[hCF] at hn2;cases hn2;have rfa:=rf2 All (λ_ _=>trivial) (.cons (rw.same s1) (.cons (.dK aJ trivial .nil 0x2) .nil));cases rfa with
 |cons q1 rfa=>
 cases rfa with
 |cons q2 rfa=>
 cases rfa with
 |cons q3 rfa=>
 cases rfa;cases q2.inv;refine⟨by show 1<=bo;decide,λpf hpf=>?_⟩;show BX (aPx zB) (fG 3) _ [aa (.ref a),aa vw,aa (.ref pf),aj,aj] (upd H2 pf (.lst [.ref x]));refine⟨ef _,λpv hpv=>?_⟩;have hnf:pf≠pv:=λz=>by
  subst z;rw[aJ] at hpv;cases hpv
 have hpv2:H2 pv=aj:=by rw[aO (Ne.symm hnf)] at hpv;exact hpv
 have s3:bW H2 (upd (upd H2 pf (.lst [.ref x])) pv (.lst [])):=(bW.upd hpf).trans (bW.upd hpv);have s03:bW H (upd (upd H2 pf (.lst [.ref x])) pv (.lst [])):=(s1.trans s2).trans s3;have none0:∀b,H2 b=aj->H b=aj:=λb hb=>(s1.trans s2).free hb
 have hx0:H x=aj:=s1.free hx;have I0:VI CF hd mk rl m H a pf pv [⟨ws,ws.length,[]⟩] [] ⟨0,0,0⟩ (upd (upd H2 pf (.lst [.ref x])) pv (.lst [])):=
  ⟨λb o e _=>s03 b o e,self.same s03,⟨[x],by rw[aO hnf];exact aJ,⟨dx,_,_,s3 _ _ hx2,q1.same s3,q3.same s3⟩,pw,rfl,hx0,by simp,trivial⟩,⟨[],aJ,.nil⟩,rfl⟩
 show Z5 (aSo K 2) (tWB K C CF CS E) _ [aa (.ref a),aa vw,aa (.ref pf),aa (.ref pv),aj] (upd (upd H2 pf (.lst [.ref x])) pv (.lst []));refine⟨λn σ H'=>∃o4 fs st k,σ=[aa (.ref a),aa vw,aa (.ref pf),aa (.ref pv),o4]/\VI CF hd mk rl m H a pf pv fs st k H'/\runN hd mk rl m n fs st k=res,⟨n0,_,_,_,_,rfl,I0,hr0⟩,?_⟩;rintro n σ H' ⟨o4,fs,st,k,rfl,I,hr⟩;cases n with
 |zero=>exact aT hr.symm hne
 |succ n=>
 obtain⟨as,hf,fr⟩:=I.frs;refine⟨.ref pf,rfl,!((as.map V.ref).reverse).isEmpty,.inl ⟨_,.of hf,rfl⟩,?_⟩;cases fs with
 |nil=>
  cases as with
  |cons x as=>exact fr.elim
  |nil=>
  show(if ak=ag then _ else _);rw[ax iO];have hr:τ (st,k)=res:=hr;subst hr;unfold aOb at he;dsimp only at he;split at he
  .rename_i y hy;subst he;obtain⟨vs,hv,rv⟩:=I.val;obtain⟨st',rfl⟩:∃st',st=st'++[y]:=by
    have hn:st≠[]:=λz=>by rw[z] at hy;cases hy
    refine⟨st.dropLast,?_⟩;rw[List.getLast?_eq_some_getLast hn] at hy;cases hy;exact(List.dropLast_concat_getLast hn).symm
   rw[AA,List.reverse_singleton] at rv;cases rv with
   |cons ry rr=>
   have py:y.pure=ag:=cL.mp I.pv y 0x2;exact⟨.ref pv,rfl,pv,_,0,_,rfl,rfl,.of hv,aIl rfl,hc _ _ I.sm I.self ry py⟩
  .exact aT he.symm hq
 |cons f fs=>
  cases as with
  |nil=>exact fr.elim
  |cons x as=>
  rw[ao 0x2];refine⟨λσ' H''=>∃n',n'<n+1/\∃o4 fs st k,σ'=[aa (.ref a),aa vw,aa (.ref pf),aa (.ref pv),o4]/\VI CF hd mk rl m H a pf pv fs st k H''/\runN hd mk rl m n' fs st k=res,λ_ _ z=>z,?_⟩;refine aFo hK hC hCF clF nl ok ⟨_,hsa⟩ (none0 _ hpf) (none0 _ hpv2) hnf I hr hne (λc as e H' b=>?_) λo4 H fs st k I hr=>⟨n,by lia,o4,fs,st,k,rfl,I,hr⟩
  subst e;subst he;exact hc H' b
def aOc(K:bi)(vW:ae D->Res D):TS:=aM4 (aSh (dY (gE (aZ (sG 1 vW) (aC gU aU)) ag) (dY (T_ K (gW 3) "calls") (dY (T_ K (gW 3) "copies") (dY (T_ K (gW 3) "drops") zB)))))
def aT0(K:bi)(C CS:al)(lP:ae (Str×Srx))(vW:ae D->Res D)(E:XK):TS:=
 wN (BX (tMk K "PlainRun" lP 2 (dY (gW 0) (dY (gW 2) zB))) (fG 3))
  (wN (BX (X7 C "value_of" (aCf CS) [] E (gW 3) (dY (gW 1) zB)) (fG 4)) (aOc K vW))
theorem aFt(hN:N.length=5)(hK:KFrag.K=K)(hC:nsIn K bj "PlainRun"=aa (aa (.ref C)))(hS:nsIn K bj "Spent"=aa (aa (.ref CS)))(cl:Cls K C)(nc:cQ K C "calls")(np:cQ K C "copies")(nd:cQ K C "drops")
 (hnm:lP.map (·.1)=([l7 "heads",l7 "makers",l7 "rules",l7 "most",l7 "calls",l7 "copies",l7 "drops"]:ae Str)){E:XK}(h:spZ (aLs lP vW) 3 vs H Q E):aT0 K C CS lP vW E {nx:=λ_ H'=>Q .non H',rt:=Q} (L2.start N vs) H:=by
 obtain⟨ds,hd3,r,h⟩:=h;generalize hw:aLs lP vW ds=w at h;unfold aLs at hw;split at hw
 .rename_i pr ws m;split at hw
  .rename_i hb;rw[aS] at hb;split at hw
   .rename_i fs hev;split at hw
    .rename_i hd mk rl m' _ _ _ hfs;split at hw
     .rename_i hpu;simp only[aS] at hpu;obtain⟨e,f,g,hpu⟩:=hpu;cases izE e;cases izE f;cases izE g;have hf:fs=prF hd mk rl m' ⟨0,0,0⟩:=by
       have h1:=(aHe hev).2;rw[hnm] at h1;have:fs=(fs.map (·.1)).zip (fs.map (·.2)):=by
        clear hev hfs h1;induction fs with
        |nil=>rfl
        |cons p fs ih=>rw[bd,bd,List.zip_cons_cons,<-ih]
       rw[this,h1,hfs];rfl
      subst hf;cases r with
      |cons rp r=>
      cases r with
      |cons rws r=>
      cases r with
      |cons rm r=>
      cases r;rename_i vp vws vm;have hst:L2.start N [vp,vws,vm]=[aa vp,aa vws,aa vm,aj,aj]:=by
       unfold L2.start;rw[hN];rfl
      rw[hst];refine⟨vp,rfl,vm,rfl,[pr,.int m],_,rfl,.cons rp (.cons rm .nil),hev,λC' x dx H1 vf hn hx s1 hx1 rf=>?_⟩;rw[hC] at hn;cases hn;have rfa:=rf All (λ_ _=>trivial) (.cons rp (.cons rm .nil));have self1:Rep All H1 (.ref x) (.ins "PlainRun" (prF hd mk rl m' ⟨0,0,0⟩)):=.ins (by rw[hK];exact hC) hx1 rfa;have nx:∀{b:al}{o:HO},H b=aa o->b≠x:=λe=>bL e hx
      show wN _ _ _ [aa vp,aa vws,aa vm,aa (.ref x),aj] H1;refine⟨.ref x,rfl,x,dx,_,rfl,hx1,rfa.NQ rfl,vws,rfl,x,vws,hd,mk,rl,m',ws,rfl,⟨hpu.1,hpu.2.1,hpu.2.2⟩,hb.1,self1,rws.same s1,?_⟩;cases hv:aCc hd mk rl m' ws with
      |ok q=>
       obtain⟨y,k⟩:=q;rw[hv] at hw;dsimp only at hw;split at hw
       .rename_i d hd';split at hw
        .rename_i pd;subst hw;intro v H2 b2 self2 ry py;show aOc K vW {nx:=λ_ H'=>Q .non H',rt:=Q} [aa vp,aa vws,aa vm,aa (.ref x),aa v] H2;refine⟨[.uD,.uD,.uD,.uD,y],d,(EL.skip (.skip (.skip (.skip (.cons ry .nil))))).er,?_,λvd H3 s3 rd _=>?_⟩
         .have e4:cD 4 [.uD,.uD,.uD,.uD,y]=.ok y:=bV rfl (aCa py);exact bF (aD e4 rfl) ((oZ rfl).trans hd')
         .obtain⟨dx2,g1,g2,g3,hx2,_⟩:=mD hK hC self2;have hx3:=s3 _ _ hx2;refine⟨.ref x,rfl,x,C,dx2,_,.int k.c,rfl,hx3,cl,nc,rfl,.ref x,rfl,x,C,dx2,_,.int k.p,rfl,hx3,cl,np,rfl,.ref x,rfl,x,C,dx2,_,.int k.d,rfl,hx3,cl,nd,rfl,by show 4<=bo;decide,λp hp=>?_⟩;have rt:Rep All (upd H3 p (.tup [vd,.int k.c,.int k.p,.int k.d])) (.ref p) (.tup [d,.int k.c,.int k.p,.int k.d]):=.tup aJ (.cons (rd.same (bW.upd hp)) (.cons (.int _) (.cons (.int _) (.cons (.int _) .nil))));refine h _ _ (λb o e=>bW.upd hp b o (s3 _ _ (b2 _ _ (s1 _ _ e) (nx e)))) rt λ_=>rt.bT ?_
          rw[ξ];simp[ε,ξ,pd]
        .subst hw;exact h.elim
       .subst hw;exact h.elim
      |err c as=>
       rw[hv] at hw;subst hw;obtain⟨rfl,rfl⟩:=aFr hv;obtain⟨fs',C',e1,e2,e3⟩:=h;cases e1;rw[hK,hS] at e2;cases e2;exact λH2 b2=>e3 H2 aj (λb o e=>b2 _ _ (s1 _ _ e) (nx e)) rfl
      |bad=>
       rw[hv] at hw;subst hw;exact h.elim
     .subst hw;exact h.elim
    .subst hw;exact h.elim
   .subst hw;exact h.elim
  .subst hw;exact h.elim
 .subst hw;exact h.elim
end
theorem aOd{E:XK}(h:aLr C vs H Q E):vs.length=3:=by
 obtain⟨_,_,_,_,_,_,_,_,_,e,_⟩:=h;rw[e];rfl
theorem aK5{E:XK}(h:aC9 CF CS vs H Q E):vs.length=3:=by
 obtain⟨_,_,_,_,_,_,_,_,_,_,e,_⟩:=h;rw[e];rfl
theorem aOe{E:XK}(h:aO9 CF CS vs H Q E):vs.length=4:=by
 obtain⟨_,_,_,_,_,_,_,_,_,_,_,_,_,_,_,_,_,e,_⟩:=h;rw[e];rfl
theorem aK6{E:XK}(h:aCf CS vs H Q E):vs.length=2:=by
 obtain⟨_,_,_,_,_,_,_,e,_⟩:=h;rw[e];rfl
theorem aK7{E:XK}(h:spZ f n vs H Q E):vs.length=n:=by
 obtain⟨_,e,r,_⟩:=h;rw[r.length,e]
section
variable {P:bS} {w:bu} {K:bi} {mg:Str->ar am} {base:aI} {x qual:Str} {st:bz} {f T:al} {its:bp am} {fd:d4} {N ps:ae Str} {k:ah}
theorem aRg(F:aR0 K x qual st f fd T its)(S:cA N ps (aL st))(len:∀vs H Q E,sp vs H Q E->vs.length=ps.length)
 (hbody:∀(cdv:am) (A:b6) (outer:ae c_) (s:au) (H:Hp) (vs:ae V) (Q:VK) (E:XK),mW k (A.deeper (eW qual (aL st) s.heap.objs.size f cdv))->sp vs H Q E->
   ∃t,PSs (J0 (CX2 P w) P w K mg base N qual (aL st) f cdv A outer s H E) (cW st) t/\t {nx:=λ_ H'=>Q .non H',rt:=Q} (start N vs) H):mO P w K mg base (CX2 P w) (k+1) f fd ps sp:=by
 obtain⟨oc,od,kV,doc,pm,an,cdv,ct,osl,rfl,lk,hcd⟩:=F.ex;exact aIf lk hcd S len λA outer s H vs Q E hr hsp=>hbody cdv A outer s H vs Q E hr hsp
theorem _root_.L2.mO.aU8(F:mO P w K mg base (CX2 P w) k f fd ps (spZ v n)):mO P w K mg base CX0 k f fd ps (spD v n):=by
 have go:∀{vs H Q E},spD v n vs H Q E->spZ v n vs H Q (λ_ _ _=>cb):=λ⟨ds,d,h1,r,h,q⟩=>⟨ds,h1,r,by rw[h];exact q⟩
 refine⟨λvs H Q E h=>F.len vs H Q _ (go h),λA outer s H args us vs Q E hr he hb hv h=>mf (F.run A outer s H args us vs Q _ hr he hb hv (go h)) λr s' hq=>?_⟩;cases r with
 |ok fl=>cases fl<;>exact hq
 |error e=>
  obtain⟨_,_,_,_,_,_,_,_,_,_,_,_,z⟩:=hq;exact z.elim
end
end
noncomputable def Y9(f:FS)(cs:ae Str)(ic ie:ah):FS:=λρ=>match f ρ with
 |.ok (.nx ρ')=>.ok (.nx ρ')
 |.err c [.exc c' fs]=>if c'==c&&cs.contains c&&ϒ (ie<ρ.length) then .ok (.nx (((ρ.set ie (.exc c fs)).set ic (.exc c fs)).set ie .uD)) else .bad
 |_=>.bad
def ZR(n:ah)(v:ae D->Res D)(dd:ae D):ae D->Res D:=λds=>sG n v (ds++dd)
variable [KFrag]
def PB(X:Cx)(body:ae bz)(t:L2.St->Hp->(L2.St->Hp->Prop)->XK->Prop):Prop:=
 ∀(Ψ:ae (al×bn))(s:au)(σ:L2.St)(H:Hp)(Dn:L2.St->Hp->Prop)(De:XK),Inv X Ψ σ H s->t σ H Dn De->
  ϑ (ay X.prog X.w) X.A (execs body X.env) (λf s'=>f=.next/\∃σ' H',Inv X Ψ σ' H' s'/\Dn σ' H') (λe s'=>∃H1 s1,Inv X Ψ σ H1 s1/\CX2 X.prog X.w X.stack H1 s1 De e s') s
def kB(own:ah->aw)(σ:L2.St)(H:Hp)(Dn:L2.St->Hp->Prop)(De:XK):Res Fl->Prop
 |.ok (.nx ρ')=>∀σ' H',KU own σ H σ' H'->ES own H' σ' ρ'->Dn σ' H'
 |.err c as=>∃fs C,as=[.exc c fs]/\nsIn KFrag.K bj c=aa (aa (.ref C))/\∀H' dx,bW H H'->XDs H' fs dx->De (.ref C) dx H'
 |_=>cb
def tB3(own:ah->aw)(f:FS):L2.St->Hp->(L2.St->Hp->Prop)->XK->Prop:=λσ H Dn De=>∃ρ,ES own H σ ρ/\kB own σ H Dn De (f ρ)
def aOf(P:bS)(w:bu)(K:bi)(mg:Str->ar am)(base:aI)(k:ah)(x:Str)(n:ah)(v:ae D->Res D)(dd:ae D):Prop:=
 ∃(fad:al)(fd:d4)(ps:ae Str)(ds:ae am)(dvs:ae V),mO P w K mg base (CX2 P w) k fad fd ps (spZ v n)/\mg x=aa (.ref fad)/\gw K (.ref fad)=ag/\Binds K fd ps ds/\Vals dvs ds/\∀H,bK All H dvs dd
theorem aFh.g{K:bi}{base:aI}{k:ah}{x:Str}{n:ah}{v:ae D->Res D}(Z:aFh P w K mg base k x n v):aOf P w K mg base k x n v []:=by
 obtain⟨fad,fd,ps,F,hm,hk,hb⟩:=Z;exact⟨fad,fd,ps,[],[],F,hm,hk,hb,.nil,λ_=>.nil⟩
section
variable {X:Cx} {e c:Expr}
def kCl(X:Cx)(Ψ:ae (al×bn))(σ:L2.St)(H:Hp)(De:XK)(Q:am->au->Prop):Res D->Prop
 |.ok d=>∀y u H' s',Inv X Ψ σ H' s'->RelV y u->bW H H'->Rep All H' y d->Rep (New H) H' y d->Q u s'
 |.err c as=>∃fs C,as=[.exc c fs]/\nsIn KFrag.K bj c=aa (aa (.ref C))/\∀H' dx,bW H H'->XDs H' fs dx->De (.ref C) dx H'
 |.bad=>cb
theorem aOg(R:aOf X.prog X.w X.K X.mg X.base k f n v dd)(hr:mW k' X.A)(hkk:k<=k')(hg:Gl X f)(ha:PA X.nox (e::es) (gA fa ra))(hdb:(f==("__debug__" : Str))=ak)(he:zSE X e es)(hpl:zSP X cpos es)
 (I:Inv X Ψ σ H s)(E:ER H σ ρ)
 (q:kCl X Ψ σ H De Q (aZ (ZR n v dd) (noE fa) ρ)) :
  ϑ (ay X.prog X.w) X.A (eval (.Call (.Name f p) (e::es) [] cpos) X.env) Q (λe s'=>∃H1 s1,Inv X Ψ σ H1 s1/\CX2 X.prog X.w X.stack H1 s1 De e s') s:=by
 obtain⟨fm,fd,ps,ds,dvs,F,hm,hk,hb,hv,hdd⟩:=R;rcases aHh with ⟨as,h1,h2⟩|h2
 .have e1:aZ (ZR n v dd) (noE fa) ρ=sG n v (as++dd):=by unfold aZ;rw[h2];rfl
  rw[e1] at q;by_cases hl:(as++dd).length=n
  .have e2:sG n v (as++dd)=v (as++dd):=by unfold sG;rw[ao (bw hl)]
   rw[e2] at q;refine hZ (wM I hg hm ?_ hdb);refine callWith_K I.ok.mod.kin hk (fg (ha cpos Ψ s σ H (λvs H1=>bW H H1/\bK All H1 vs as) (I.wish _) ⟨ρ,as,E,h1,λvs H' sm rs _=>⟨sm,rs⟩⟩) (λus s1 ⟨vs,H1,I1,r,sm,rs⟩=>⟨I1.kIn,?_⟩) λ_ _ z=>d6 z) he hpl;have I1:Inv X Ψ σ H1 s1:=I1.m5;have hsp:spZ v n (vs++dvs) H1 (λy H2=>bW H H2/\match v (as++dd) with|.ok d=>Rep All H2 y d/\Rep (New H) H2 y d|_=>cb) De:=by
    refine⟨as++dd,hl,rs.append (hdd H1),?_⟩;cases hv2:v (as++dd) with
    |ok d=>exact λy H2 s2 r2 n2=>⟨sm.trans s2,r2,(n2 rfl).mono λa ha=>sm.free ha⟩
    |err c as'=>
     rw[hv2] at q;obtain⟨fs,C,g1,g2,g3⟩:=q;exact⟨fs,C,g1,g2,λH2 dx s2 xd=>g3 H2 dx (sm.trans s2) xd⟩
    |bad=>rw[hv2] at q;exact q
   have r2:Vals (vs++dvs) (us++ds):=r.append hv;have hlen:(us++ds).length=ps.length:=by rw[<-r2.length];exact F.len _ _ _ _ hsp
   refine kN (mf (F.run X.A X.stack s1 H1 ⟨us,[]⟩ (us++ds) (vs++dvs) _ De (hr.mono hkk) I1.env0 (hb s1 us I1.kIn hlen) r2 hsp) λr s' hq=>?_);cases r with
   |error e=>exact⟨H1,s1,I1,hq⟩
   |ok fl=>
    cases fl with
    |ret u=>
     obtain⟨y,H2,I2,ry,sm2,z⟩:=I1.after hq;cases hv2:v (as++dd) with
     |ok d=>
      rw[hv2] at q z;exact q y u H2 s' I2 ry sm2 z.1 z.2
     |err c as'=>rw[hv2] at z;exact z.elim
     |bad=>rw[hv2] at z;exact z.elim
    |next=>exact d6 hq
    |brk=>exact d6 hq
    |cont=>exact d6 hq
  .have e2:sG n v (as++dd)=.bad:=by unfold sG;rw[ax (by simpa using hl)]
   rw[e2] at q;exact q.elim
 .have e1:aZ (ZR n v dd) (noE fa) ρ=.bad:=by unfold aZ;rw[h2];rfl
  rw[e1] at q;exact q.elim
theorem aHj{o:aw}(R:aOf X.prog X.w X.K X.mg X.base k f n v dd)(hr:mW k' X.A)(hkk:k<=k')(hg:Gl X f)(ha:PA X.nox (e::es) (gA fa ra))(ho:own i=ak)(hN:X.N.Nodup)(hi:X.N[i]?=aa x)(hx:Loc X.env.scope x)(hf:autoParam (zFn X x) Ξ)
 (hdb:autoParam ((f==("__debug__" : Str))=ak) Λ)(he:autoParam (zSE X e es) Ω)(hpl:autoParam (zSP X cpos es) Ω)(hs:autoParam (dy (.Call (.Name f p) (e::es) [] cpos) (aa (.Name x px)) xpos.line X.env=pure ak) Ω) :
  PB X [.Assign [.Name x px] (.Call (.Name f p) (e::es) [] cpos) xpos] (tB3 own (bZ ak i (aZ (ZR n v dd) (noE fa)) ag)):=by
 intro Ψ s σ H Dn De I ⟨ρ,es',q⟩;refine sQ (Bb (aOg R hr hkk hg ha hdb he hpl I es'.er ?_) hs);cases hq:aZ (ZR n v dd) (noE fa) ρ with
 |ok d=>
  have e1:bZ ak i (aZ (ZR n v dd) (noE fa)) ag ρ=.ok (.nx (ρ.set i d)):=by unfold bZ;rw[hq];rfl
  rw[e1] at q;intro y u H' s' I' ry sm r1 r2;refine GJ I' hN hi hx ry (λs2 I2=>jt ⟨rfl,_,H',I2,q _ H' (λb ob eb nb=>⟨sm b ob eb,λz=>nb ((jP ho b).mp z)⟩) ?_⟩) hf;refine(es'.same sm).set ho (r2.mono λb hb z=>?_);obtain⟨o',e',_⟩:=es'.live z;rw[show H b=aj from hb] at e';cases e'
 |err c as=>
  have e1:bZ ak i (aZ (ZR n v dd) (noE fa)) ag ρ=.err c as:=by unfold bZ;rw[hq];rfl
  rw[e1] at q;exact q
 |bad=>
  have e1:bZ ak i (aZ (ZR n v dd) (noE fa)) ag ρ=.bad:=by unfold bZ;rw[hq];rfl
  rw[e1] at q;exact q.elim
theorem aRh(hc:PT X.nox c (gT gc))(h1:PB X s1 (tB3 own f1))(h2:PB X s2 (tB3 own f2)):PB X [.If c s1 s2 pos] (tB3 own (sIf (noE gc) f1 f2)):=by
 intro Ψ s σ H Dn De I ⟨ρ,es',q⟩;rcases aHh (f:=gc) with ⟨b,g1,g2⟩|g2
 .have e1:sIf (noE gc) f1 f2 ρ=if b then f1 ρ else f2 ρ:=by unfold sIf;rw[g2];rfl
  rw[e1] at q;refine sQ (wpAny_If (fg (hc Ψ s σ H (λb' H'=>b'=b/\bW H H') (I.wish _) ⟨ρ,b,es'.er,g1,λH' sm=>⟨rfl,sm⟩⟩) (λd s1 ⟨H1,I1,e2,sm⟩=>?_) λ_ _ z=>d6 z));subst e2;have I1:Inv X Ψ σ H1 s1:=I1.m5;have fin:∀{fl:FS},kB own σ H Dn De (fl ρ)->tB3 own fl σ H1 Dn De:=λ{fl} z=>⟨ρ,es'.same sm,by
   cases hz:fl ρ with
   |ok r=>
    rw[hz] at z;cases r with
    |nx ρ'=>exact λσ' H' ku E'=>z σ' H' ((KU.same sm).trans ku) E'
    |_=>exact z.elim
   |err c as=>
    rw[hz] at z;obtain⟨fs,C,a1,a2,a3⟩:=z;exact⟨fs,C,a1,a2,λH' dx s' xd=>a3 H' dx (sm.trans s') xd⟩
   |bad=>rw[hz] at z;exact z.elim⟩
  cases d with
  |true=>rw[ao rfl] at q;exact fg (h1 Ψ s1 σ H1 Dn De I1 (fin q)) (λf s' ⟨e,z⟩=>by subst e;exact jt ⟨rfl,z⟩) λ_ _ z=>z
  |false=>rw[ax 0x2] at q;exact fg (h2 Ψ s1 σ H1 Dn De I1 (fin q)) (λf s' ⟨e,z⟩=>by subst e;exact jt ⟨rfl,z⟩) λ_ _ z=>z
 .have e1:sIf (noE gc) f1 f2 ρ=.bad:=by unfold sIf;rw[g2];rfl
  rw[e1] at q;exact q.elim
end
def aRi(K:Frag)(cM:am)(tb:L2.St->Hp->(L2.St->Hp->Prop)->XK->Prop)(ie:ah)(ts:TS):TS:=λD σ H=>tb σ H (λσ' H'=>D.nx σ' H') λCv dd H2=>∃C,Cv=.ref C/\xC K (.ref C) cM=aa ag/\∀a,H2 a=aj->ts {nx:=λσ' H'=>D.nx (σ'.set ie aj) H',rt:=λ_ _=>cb} (σ.set ie (aa (.ref a))) (upd H2 a (.ext (XO a C dd)))
theorem aK8
  (hst:X.stack=X.env::X.outer) (hfr:X.env.frame=aa X.env.locals) (hb:PB X body tb) (hgM:Gl X mx) (hmM:X.mg mx=aa cM) (hN:X.N.Nodup) (hin:X.N[ie]?=aa n) (hln:X.env.scope.names.lookup n=aa .local)
  (hs:∀v,PSs (mrk X v).nox (b0::suite) ts) (hdM:autoParam ((mx==("__debug__" : Str))=ak) Λ) :
  PS X (.Try body [.ExceptHandler (aa (.Name mx mp)) (aa n) (b0::suite) hpos] [] [] pos) (aRi X.K cM tb ie ts):=by
 intro Ψ s σ H D I h;refine wpAny_Try_except (fg (hb Ψ s σ H _ _ I h) (λf s' ⟨e,σ',H',I',q⟩=>?_) λe s' ⟨H1,s1,I1,hq⟩=>?_)
 .subst e;exact jt ⟨σ',H',I',q⟩
 .obtain⟨a,C',dd,H2,B,rfl,os',bare',fly,clo,hn,hgone,C,eC,hx,hE⟩:=hq;cases eC;rw[hst] at fly;refine aC0 (by rw[I.ok.frames,hst]) hfr fly λh4 held4 sm4=>?_
  refine wG held4 λh5 fly5 sm5=>?_
  have up5:s'.heap.UpToSlots h5:=Df sm4 sm5;have I5:Inv X Ψ σ H2 {s' with heap:=h5}:=by
   obtain⟨un,hok⟩:=clo h5 fly5.1 up5;exact I1.call' os' un hok bare' (λb z=>aT z 0x2)
  refine wpAny_handleBy_cons (codeAny_handlers_test ?_) (by intro q;cases q);refine wM (aB3 I5 _) hgM hmM ?_ hdM;have LT:Looks (ay X.prog X.w) h5 (ow (.ref a)) (.ref C'):=by
   obtain⟨ob,hob,hc,_⟩:=fly5.there;rw[<-hc];exact(B5 hob).andThen .now
  refine(exm_one I5.kIn LT hx).here ?_;refine codeAny_handlers_suite_as ?_;refine wG fly5 λh6 fly6 sm6=>?_
  obtain⟨un6,hok6⟩:=clo h6 fly6.1 (Df up5 sm6);have I6:Inv X Ψ σ (upd H2 a (.ext (XO a C' dd))) {s' with heap:=h6}:=
   I1.call' os' (aN8 un6 hgone hn) (aJf hok6 hn (aR9 fly6.there)) bare' (λb z=>aT z 0x2)
  refine J5 (v:=.ref a) I6 hN hin (.inl hln) rfl (λs7 I7 _=>?_) (.inr hln);refine fg (hs (.ref a) Ψ s7 _ _ _ ((aB3 I7 _).wish _) (hE a hn)) (λfl s8 q8=>?_) λ_ _ z=>d6 z
  cases fl with
  |ret u=>obtain⟨_,_,_,_,_,z⟩:=q8;exact z.elim
  |brk=>obtain⟨_,_,_,z⟩:=q8;exact z.elim
  |cont=>obtain⟨_,_,_,z⟩:=q8;exact z.elim
  |next=>
   obtain⟨σ8,H8,I8,q⟩:=q8;have I8:Inv X Ψ σ8 H8 s8:=aB4 I.ok I8.m5;obtain⟨m,hm8,hl8⟩:=id I8.loc;refine wpAny_nameGoes_keeps hln hm8 (by rw[I.ok.kind];rfl) λh9 v hn9 sb9=>?_
   exact⟨_,H8,aEs I8 hN hin hm8 hl8 hn9 sb9,q⟩
theorem aK9
  (hK:KFrag.K=X.K) (hst:X.stack=X.env::X.outer) (hfr:X.env.frame=aa X.env.locals) (hb:PB X body (tB3 own f)) (hgM:Gl X mx) (hmM:X.mg mx=aa cM)
  (hcs:∀c,cs.contains c=ag->∃C,nsIn X.K bj c=aa (aa (.ref C))/\xC X.K (.ref C) cM=aa ag)
  (hN:X.N.Nodup) (hin:X.N[ie]?=aa nm) (hln:X.env.scope.names.lookup nm=aa .local) (hic:X.N[ic]?=aa cn) (hlc:Loc X.env.scope cn) (hfc:X.fn cn=ag\/X.env.scope.names.lookup cn=aa .local) (oc:own ic=ak) (oe:own ie=ak) (hne:ie≠ic)
  (hdM:autoParam ((mx==("__debug__" : Str))=ak) Λ) (hs2:autoParam (dy (.Name nm ep) (aa (.Name cn tp)) ap.line X.env=pure ak) Ω) (hd1:autoParam ((nm==("__debug__" : Str))=ak) Λ) (hd2:autoParam ((nm==("__classdict__" : Str))=ak) Λ) :
  PS X (.Try body [.ExceptHandler (aa (.Name mx mp)) (aa nm) [.Assign [.Name cn tp] (.Name nm ep) ap] hpos] [] [] pos) (tS own (Y9 f cs ic ie)):=by
 refine PS.imp (aK8 hst hfr hb hgM hmM hN hin hln (λv=>dI (yV hN hic hlc (aW hin (.inl hln) hd1 hd2) hs2 hfc)) hdM) λD σ H ⟨ρ,fl,es,h,q⟩=>?_
 refine⟨ρ,es,?_⟩;unfold Y9 at h;split at h
 .rename_i ρ' hf;cases h;rw[hf];exact λσ' H' ku E'=>q σ' H' ku E'
 .rename_i c c' fs hf;split at h
  .rename_i hc;rw[aS,aS] at hc;have ec:=gu.mp hc.1.1;subst ec;cases h;rw[hf];obtain⟨C,hn,hx⟩:=hcs _ hc.1.2;refine⟨fs,C,rfl,by rw[hK];exact hn,λH2 dd s2 xd=>⟨C,rfl,hx,λa ha=>?_⟩⟩;have hl2:ie<σ.length:=by
    rw[es.len];exact d5 hc.2
   have rp:∀P,Rep P (upd H2 a (.ext (XO a C dd))) (.ref a) (.exc c' fs):=λP=>.exc (by rw[hK];exact hn) aJ (by
    cases dd with
    |none=>exact xd
    |some d=>
     have xd:H2 d=aa (.ext (XD d fs)):=xd;show upd _ _ _ d=_;rw[aO (λz=>by rw[z,ha] at xd;cases xd)];exact xd)
   have sm3:bW H (upd H2 a (.ext (XO a C dd))):=s2.trans (VL ha);have es3:=(((es.same sm3).set oe (rp _)).set oc (rp _)).drop oe;refine⟨.ref a,by rw[eD hl2],?_⟩;exact q _ _ (λb o eb nb=>⟨sm3 b o eb,λz=>nb ((jP oe b).mp ((jP oc b).mp ((V5 oe b).mp z)))⟩) es3
  .exact bx h
 .exact bx h
end Mi
namespace Mi
open PySem L2 PySem.SeqAt PySem.Spec PyProof.Rows
noncomputable def aRj:D->ar (ae D)
 |.lst a=>aa a
 |.scr a=>aa a
 |_=>aj
section
variable [KFrag]
section
variable {X:Cx} {e:Expr}
def tFz(t:TE):TE:=λσ H Q=>t σ H λv H1=>∃a vs,v=.ref a/\H1 a=aa (.lst vs)/\∀o,Q v (upd H1 a (.frz o (.lst vs)))
theorem aRk(h:PE X e t):PE X e (tFz t):=by
 intro Ψ s σ H Q I q;refine fg (h Ψ s σ H _ (I.wish _) q) (λu s1 ⟨v,H1,I1,r,a,vs,ev,ea,k⟩=>?_) λ_ _ z=>z
 obtain⟨o,I2⟩:=nZ I1 ea;exact⟨v,_,I2,r,k o⟩
theorem aKa(hK:KFrag.K=X.K)(h:aRj d=aa ds)(r:Rep P H v d):∃a xs,v=.ref a/\SqL X.K H a xs/\bK P H xs ds:=by
 cases d with
 |lst a=>
  cases h;obtain⟨_,_,rfl,e,p,rr⟩:=r.inv;exact⟨_,_,rfl,.inl (.inl e),rr⟩
 |scr a=>
  cases h;obtain⟨_,_,rfl,e,rr⟩:=r.inv;exact⟨_,_,rfl,e.sq hK,rr⟩
 |_=>cases h
end
end
noncomputable def aKb(tbl:ae (Str×aw))(i:ah):FE:=λρ=>match ρ.getD i .uD with
 |.exc c _=>(match tbl.lookup c with|some b=>.ok (.bl b)|none=>.bad)
 |.non=>.ok (.bl ak)
 |_=>.bad
section
variable [KFrag]
section
open PySem.W
theorem aFu(hK:KFrag.K=X.K)(ht:∀c b,tbl.lookup c=aa b->∃C,nsIn X.K bj c=aa (aa (.ref C))/\XC X.K C/\iz X.K (.ref C) u=aa b)(hn:iz X.K (.type "NoneType") u=aa ak)(hu:∀u',RelV v u'->u'=u)(hg:Gl X "isinstance")(hm:X.mg "isinstance"=aj)(hN:X.N[i]?=aa y)(hv:Vis X.env.scope y)(ha:PE X ce (tC v))
 (hst:b5 [ce] X.env=(ak,eval ce X.env)::b5 [] X.env)(hpl:(fF pos (b5 [ce] X.env)).any (·.1)=ak)
 (hd:autoParam ((y==("__debug__" : Str))=ak) Λ)(hcd:autoParam ((y==("__classdict__" : Str))=ak) Λ) :
  PE X (.Call (.Name "isinstance" p) [.Name y np,ce] [] pos) (gE (aKb tbl i) ag):=by
 have hc:lR X (.builtin "isinstance") (λvs H Q=>∃x b,vs=[x,v]/\((x=.non/\b=ak)\/∃a C dx,x=.ref a/\H a=aa (.ext (XO a C dx))/\XC X.K C/\iz X.K (.ref C) u=aa b)/\Q (.bl b) H):=by
  intro Ψ s σ H vs us Q I r ⟨x,b,e,hx,q⟩;subst e;cases r with
  |cons r1 r=>
   cases r with
   |cons r2 r=>
    cases r;have e2:=hu _ r2;subst e2;rcases hx with ⟨rfl,rfl⟩|⟨a,C,dx,rfl,ea,c,hk⟩
    .cases r1;exact Aw kitx_none I.kIn trivial hn 0x7 λtk=>⟨.bl ak,H,I.tok tk,rfl,q⟩
    .cases r1;obtain⟨px,_⟩:=I.hok a _ ea;exact Aw (HH c) I.kIn px.exc hk 0x7 λtk=>⟨.bl b,H,I.tok tk,rfl,q⟩
 refine PE.imp (sV hc hg hm 0x6 (aY (aW hN hv hd hcd) (aY ha dC hst)) (hpl:=hpl)) λσ H Q ⟨ρ,d,er,h,q⟩=>?_
 unfold aKb at h;split at h
 .rename_i c fs hρ;split at h
  .rename_i b hb;cases h;obtain⟨a,C,dx,h1,n,e⟩:=SM er hρ;obtain⟨C',n',xc,hk⟩:=ht c b hb;rw[hK,n'] at n;cases n;exact⟨.ref a,h1,.ref a,b,rfl,.inr ⟨a,C,dx,rfl,e,xc,hk⟩,q _ _ (λ_ _ z=>z) (.bl b) λ_=>.bl b⟩
  .exact bx h
 .rename_i hρ;cases h;obtain⟨w,h1,r1⟩:=er i (by rw[hρ];intro z;cases z);rw[hρ] at r1;cases r1.inv;exact⟨.non,h1,.non,ak,rfl,.inl ⟨rfl,rfl⟩,q _ _ (λ_ _ z=>z) (.bl ak) λ_=>.bl ak⟩
 .exact bx h
end
end
noncomputable def max2:ae D->Res D
 |[.int a,.int b]=>.ok (.int (if b > a then b else a))
 |_=>.bad
section
variable [KFrag]
theorem SX{X:Cx}(hc:X.calm=ag):lR X (.builtin "max") (rs max2 ak):=by
 rintro Ψ s σ H xs us Q I vr ⟨ds,d,r,e,k⟩;unfold max2 at e;split at e
 .cases e;cases r with
  |cons r t=>
   cases r.inv;cases t with
   |cons r t=>
    cases r.inv;cases t;cases vr with
    |cons v vt=>
     obtain⟨t1,rfl⟩:=v;cases vt with
     |cons v vt=>
      obtain⟨t2,rfl⟩:=v;cases vt;refine max_two_ints (I.ok.hd hc) λh' tk hk=>⟨_,H,I.kept hk,?_,k.int⟩
      split
      .exact⟨_,rfl⟩
      .exact⟨_,rfl⟩
 .exact bx e
end
def aFv(i:ah)(f:FX):FS:=λρ=>do
 let p <- f ρ
 match ρ.getD i .uD,p.2.getD i .uD with
 |.lst _,.lst xs=>if ϒ (xs.length<lim)&&p.1.pure then .ok (.nx (p.2.set i (.lst (xs++[p.1])))) else .bad
 |_,_=>.bad
section
variable [KFrag]
section
variable {X:Cx} {own:ah->aw} {e:Expr} {pos:ck} {xe:FX}
theorem aKc(ho:own i=ag)(hN:X.N[i]?=aa x)(hv:Vis X.env.scope x)(he:PE X e (gX own xe))(hd:autoParam (nDb x) Λ)(hcd:autoParam (nCd x) Λ)
 (hbase:autoParam (fx (.Name x p1) "append" X.env (eval (.Name x p1) X.env)=eval (.Name x p1) X.env) Ω)
 (hs1:autoParam (zSE X e []) Ω)
 (hfew:autoParam (zFw X cpos [e]) Ω)
 (hline:autoParam ((apos.endLine==cpos.line)=ag) Ω)
 (hs:autoParam (dy (.Call (.Attribute (.Name x p1) "append" apos) [e] [] cpos) aj pos.line X.env=pure ak) Ω) :
  PS X (.Expr (.Call (.Attribute (.Name x p1) "append" apos) [e] [] cpos) pos) (tS own (aFv i xe)):=
 PS.imp (jK (GX io j3 lx iH (aW hN hv hd hcd) (aY he dC hs1) hbase hfew hline hs1 rfl) hs) λD' σ H z0=>by
 obtain⟨ρ,fl,E,h,q⟩:=z0;obtain⟨⟨d,ρ'⟩,h1,h2⟩:=a_ h;dsimp only at h2;split at h2
 .rename_i xs0 xs hx0 hx;split at h2
  .rename_i hk;cases h2;rw[aS] at hk;obtain⟨a,o,hσ,r,hin,ha,hm⟩:=E.ownAt ho (by rw[hx0];intro z;cases z);rw[hx0] at r;obtain⟨vs,hl,rr⟩:=zQ r;refine⟨_,hσ,.inl ⟨rfl,vs,.of hl⟩,ρ,_,ρ',E,h1,λv H' k E' ns rv=>?_⟩;obtain⟨a2,o2,hσ2,r2,hin2,ha2,hm2⟩:=E'.ownAt ho (by rw[hx];intro z;cases z);rw[hσ] at hσ2;cases hσ2;rw[hx] at r2 hin2;obtain⟨vs2,hl2,rr2⟩:=zQ r2;refine⟨a,vs2,v,rfl,rfl,hl2,by rw[rr2.length];exact K_ hk.1,?_⟩;have hp:ε (xs++[d])=ag:=by
    rw[jQ];simp only[aS];exact⟨hin2,by simp[ε,hk.2]⟩
   obtain⟨E2,k2⟩:=E'.mut ho hσ rfl (.lst aJ trivial ((rr2.snoc rv.all).upd hp hl2 rfl)) hp;exact q _ _ (k.trans k2) E2
  .exact bx h2
 .exact bx h2
end
end
def Y_(iL iW:ah)(gc:FT)(fe:FE):ae D->ae (ae Str)->ae D->Res D
 |[],gr,_=>.ok (.lst (gr.reverse.map λg=>.scr (g.map .str)))
 |.str w::t,gr,ρ=>do
  let c <- gc (ρ.set iW (.str w))
  match (if c then []::gr else gr) with
  |g::r=>if ϒ (r.length<lim)&&ϒ (g.length<lim) then (do
    let d <- fe (if c then (ρ.set iW (.str w)).set iL (.int 1) else ρ.set iW (.str w))
    match d with
    |.int n=>Y_ iL iW gc fe t ((g++[w])::r) ((if c then (ρ.set iW (.str w)).set iL (.int 1) else ρ.set iW (.str w)).set iL (.int n))
    |_=>.bad) else .bad
  |[]=>.bad
 |_::_,_,_=>.bad
def aQ6(iF iL iW:ah)(fi:FI)(gc:FT)(fe:FE):FS:=λρ=>do
 let p <- fi ρ
 if p.2&&ϒ (iW<ρ.length) then match ρ.getD iF .uD with
  |.lst []=>do
   let d <- Y_ iL iW gc fe p.1 [] (ρ.set iF .uD)
   .ok (.rt d)
  |_=>.bad
 else .bad
noncomputable def min2:ae D->Res D
 |[.int a,.int b]=>.ok (.int (if b<a then b else a))
 |_=>.bad
noncomputable def aFw(i:ah)(g:FS):FS:=λρ=>match ρ.getD i .uD with
 |.lst xs=>(do
   let r <- g (ρ.set i (.scr xs))
   match r with
   |.rt d=>.ok (.rt d)
   |_=>.bad)
 |_=>.bad
def CN(i:ah)(f:FE):FS:=λρ=>do
 let d <- f ρ
 match ρ.getD i .uD,aRj d with
 |.lst xs,aa ys=>if ϒ (xs.length+ys.length<=lim)&&ε ys then .ok (.nx (ρ.set i (.lst (xs++ys)))) else .bad
 |_,_=>.bad
def xFz(f:FX):FX:=λρ=>do
 let p <- f ρ
 match p.1 with
 |.lst xs=>if ε xs then .ok (.scr xs,p.2) else .bad
 |_=>.bad
theorem aKd(l:al)(items:bp am)(n:ah)(b:al)(items2:bp am)(n2:ah)(sm:bp (ar am))(hc0:¬(!items.isEmpty&&ox (items.size+items2.size))=ag)(hc1:items.size<=bo)(hs2:items.size+items2.size<=bo+1) :
  kl (dz.«list.extend» ⟨[.ref l,.ref b],[]⟩) (λ_ R s=>s.heap.get? l=aa {cls:=.type "list",dict:=aj,data:=.seq items n,slots:=#[]}/\s.heap.get? b=aa {cls:=.type "list",dict:=aj,data:=.seq items2 n2,slots:=sm}/\R (.ok (.ret fS)) {s with heap:=s.heap.update l (gx λx=>x++items2),toks:=s.toks}):=
 .of_wp λprog w A R s h=>by
  obtain⟨hp,g,d,tk,os⟩:=s;obtain⟨hl,hb,h⟩:=h;have f3:=Ek;have hz':(items++items2).size<=bo+1:=by rw[Array.size_append];exact hs2
  wp_walk using (xA hl rfl (hz:=hc1) (_hz':=hz')),Dg hl,Dg hb;exact⟨_,rfl,h⟩
variable [KFrag]
section
variable {own:ah->aw} {X:Cx}
inductive GL(H1 H:Hp):ae al->ae (ae Str)->Prop
 |nil:GL H1 H [] []
 |cons {b:al} {g:ae Str} {bs:ae al} {gr:ae (ae Str)}:H b=aa (.lst (g.map .str))->H1 b=aj->b∉bs->GL H1 H bs gr->GL H1 H (b::bs) (g::gr)
theorem GL.keep(h:GL H1 H bs gr)(k:∀c o,c∈bs->H c=aa o->H' c=aa o):GL H1 H' bs gr:=by
 induction h with
 |nil=>exact .nil
 |cons e f n _ ih=>exact .cons (k _ _ (de ..) e) f n (ih λc o hc=>k c o (dg _ hc))
theorem GL.new(h:GL H1 H bs gr):∀b∈bs,H1 b=aj/\∃o,H b=aa o:=by
 induction h with
 |nil=>exact λb hb=>by cases hb
 |cons e f n _ ih=>exact λb hb=>(cg.mp hb).elim (λz=>z▸⟨f,_,e⟩) (ih b)
theorem GL.len(h:GL H1 H bs gr):bs.length=gr.length:=by
 induction h with
 |nil=>rfl
 |cons e f n _ ih=>simp[ih]
theorem NZ{P:al->Prop}:∀g:ae Str,bK P H (g.map V.str) (g.map π)
 |[]=>.nil
 |x::g=>.cons (.str x) (NZ g)
theorem bK.aRl{P:al->Prop}(r:bK P H vs ds)(q:Rep P H v d):bK P H (vs++[v]) (ds++[d]):=by
 induction vs generalizing ds with
 |nil=>cases r;exact .cons q .nil
 |cons x t ih=>cases r with
  |cons a b=>exact .cons a (ih b)
theorem bK.aU9{P:al->Prop}{vs:ae V}{ds:ae D}(r:bK P H vs ds):bK P H vs.reverse ds.reverse:=by
 induction vs generalizing ds with
 |nil=>cases r;exact .nil
 |cons x t ih=>cases r with
  |cons a b=>
   rw[fN,fN];exact(ih b).aRl a
def EQ(P:al->Prop)(H:Hp)(σ:L2.St)(ρ:ae D):Prop:=σ.length=ρ.length/\∀i,ρ.getD i .uD≠.uD->∃v,σ[i]?=aa (aa v)/\Rep P H v (ρ.getD i .uD)
theorem EQ.er{P:al->Prop}(E:EQ P H σ ρ):ER H σ ρ:=λi hi=>let ⟨v,a,b⟩:=E.2 i hi;⟨v,a,b.all⟩
theorem EQ.keep{P:al->Prop}(E:EQ P H σ ρ)(k:sJ P H H'):EQ P H' σ ρ:=⟨E.1,λi hi=>let ⟨v,a,b⟩:=E.2 i hi;⟨v,a,b.aAi k λ_ _ _ h=>h⟩⟩
theorem EQ.set{P:al->Prop}(E:EQ P H σ ρ)(r:Rep P H v d):EQ P H (σ.set i (aa v)) (ρ.set i d):=by
 refine⟨by rw[jk,jk];exact E.1,λj hj=>?_⟩;rw[cP] at hj ⊢;split at hj
 .rename_i h;obtain⟨rfl,h⟩:=h;rw[ao ⟨rfl,h⟩];exact⟨v,by rw[eD (by rw[E.1];exact h)],r⟩
 .rename_i h;rw[ax h];obtain⟨w,a,b⟩:=E.2 j hj;refine⟨w,?_,b⟩;rw[dm,a];intro z;subst z;refine h ⟨rfl,?_⟩;rw[<-E.1];exact(dA.mp a).1
theorem yI(xs:ae α)(x:α):L2.atI (xs++[x]) (-1)=aa x:=by
 rw[aH5];have:ixD (xs++[x]).length (-1)=aa xs.length:=by
  unfold ixD;rw[ax 0x4,ao (by simp;lia)]
  congr 1
  simp;lia
 rw[this];simp
theorem V_{P:al->Prop}{x:al}{o u:HO}(hx:¬P x)(hu:H x=aa u)(hm:Q9 u=ag):sJ P H (upd H x o):=λc z e hp=>by
 by_cases h:c=x
 .subst h;rw[e] at hu;cases hu;rcases hp with hp|hp
  .exact aT hp hx
  .rw[hm] at hp;cases hp
 .rw[aO h];exact e
variable {e:Expr} {fe f:FE} {g:FS}
theorem aOh(E:ES own H σ ρ)(ho:own i=ag)(hσ:σ[i]?=aa (aa (.ref a)))(hd:ρ.getD i .uD=.lst ds)(hua:H a=aa (.lst vs))(rr:bK All H vs ds):ES (wF own i) (upd H a (.frz o (.lst vs))) σ (ρ.set i (.scr ds))/\¬Own (wF own i) σ a:=by
 obtain⟨a',oa,ea,ra,hin,hHa,hma,huq⟩:=E.own i _ ho hσ;cases ea;rw[hd] at ra hin;have hna:¬Own (wF own i) σ a:=λ⟨j,hj,e⟩=>(lG hj).2 (huq j (lG hj).1 e)
 have hOa:Own own σ a:=⟨i,ho,hσ⟩
 have hl:i<ρ.length:=by rw[<-E.len];exact(dA.mp hσ).1
 have noT:∀ob,H a=aa ob->Q_ ob=ag:=λob z=>by rw[hua] at z;cases z;rfl
 refine⟨⟨by simp[E.len],λj hj=>?_,λj w hj hw=>?_⟩,hna⟩
 .rw[cP] at hj ⊢;by_cases h:i=j/\i<ρ.length
  .rw[ao h];obtain⟨rfl,_⟩:=h;exact⟨_,hσ,λ_=>.frz (.inl ⟨o,aJ⟩) ((wC noT rr hin).bT hin)⟩
  .rw[ax h] at hj ⊢;have hij:i≠j:=λz=>h ⟨z,hl⟩
   obtain⟨w,h1,h2⟩:=E.at_ j hj;refine⟨w,h1,λhj2=>?_⟩;have hoj:own j=ak:=by
    unfold wF at hj2;cases hq:own j with
    |false=>rfl
    |true=>rw[hq] at hj2;simp at hj2;exact aT hj2.symm hij
   refine(h2 hoj).keep (λb ob hb hp=>?_) λb hb hq=>hb hq.of
   rw[aO]
   .exact hb
   .intro z;subst z;rcases hp with hp|hp
    .exact hp hOa
    .rw[hua] at hb;cases hb;cases hp
 .obtain⟨hoj,hji⟩:=lG hj;rw[cP,ax λz=>hji z.1.symm];obtain⟨b,ob,h1,h2,h3,h4,h5,h6⟩:=E.own j w hoj hw;subst h1;have hba:b≠a:=λz=>by subst z;exact hji (huq j hoj hw)
  refine⟨b,ob,rfl,?_,h3,by rw[aO hba];exact h4,h5,λk hk hs=>h6 k (lG hk).1 hs⟩;refine(h2.wV (P':=λc=>c=b) h3 rfl).keep (λc oc hc hp=>?_) λ_ _=>trivial
  rw[aO]
  .exact hc
  .intro z;subst z;rcases hp with hp|hp
   .exact hba hp.symm
   .rw[hua] at hc;cases hc;cases hp
theorem aFx{ss:ae bz}(ho:own i=ag)(hr:PSs X ss (tS (wF own i) g))(hx:autoParam (own rtX=ak) Ω):PSs X ss (tS own (aFw i g)):=by
 rintro Ψ s σ H D' I ⟨ρ,fl,E,h,q⟩;unfold aFw at h;split at h
 .rename_i xs hxs;obtain⟨r2,h3,h4⟩:=a_ h;obtain⟨a,o,hσ,r,hin,ha,hm⟩:=E.ownAt ho (by rw[hxs];intro z;cases z);rw[hxs] at r;obtain⟨vs,hl,rr⟩:=zQ r;obtain⟨o,If⟩:=nZ I hl;obtain⟨EF,hna⟩:=aOh (o:=o) E ho hσ hxs hl rr;have hOa:Own own σ a:=⟨i,ho,hσ⟩
  refine hr Ψ s σ _ D' If ⟨_,r2,EF,h3,?_⟩;cases r2 with
  |rt d2=>
   cases h4;refine kRt.mk (by cases q:wF own i rtX with|false=>rfl|true=>have:=(lG q).1;rw[hx] at this;cases this) λv H' hk rv=>kRt.old q hx v H' (λb ob hb hn=>hk b ob ?_ λz=>hn z.of) (rv.mono λb hb=>?_)
   .rw[aO (λz=>by subst z;exact hn hOa)];exact hb
   .rcases hb with hb|hb
    .exact .inl hb.of
    .exact .inr (by
      have:b≠a:=λz=>by subst z;rw[aJ] at hb;cases hb
      rw[aO this] at hb;exact hb)
  |_=>exact bx h4
 .exact bx h
theorem aKe:MtM X "list.extend" (λx vs H Q=>∃l b xs zs,x=.ref l/\vs=[.ref b]/\H l=aa (.lst xs)/\SqL X.K H b zs/\xs.length+zs.length<=bo/\Q .non (upd H l (.lst (xs++zs)))):=by
 intro Ψ s σ H x vs v us Q I rx rv h;obtain⟨l,b,xs,zs,rfl,rfl,hH,hB,hz,q⟩:=h;cases rx;obtain⟨u,rfl,ru⟩:=rv.one;cases ru;obtain⟨z,its,n,r,hl,e⟩:=I.aQq hH;obtain⟨its2,r2,⟨o2,n2,e2,c2,d2,t2⟩,_⟩:=I.list hB;obtain⟨oc2,od2,ot2,os2⟩:=o2;dsimp only at c2 d2 t2;subst c2 d2 t2;have z2:=r2.length;have hsz:its.toArray.size+its2.toArray.size<=bo:=by rw[b9,b9];lia
 have hlong:¬(!its.toArray.isEmpty&&ox (its.toArray.size+its2.toArray.size))=ag:=by
  rw[aE3 hsz,BG];exact iO
 refine jS Dh ⟨_,e,rfl⟩ F.entry_list_extend (F.args_list_extend_2 _ _) (aKd l its.toArray n b its2.toArray n2 os2 hlong (by rw[b9];lia) 0x1) ⟨e,e2,?_⟩;refine⟨.non,_,I.aQp (its':=its++its2) hH e 0x2 (r.append r2) ?_,rfl,q⟩;rw[bq];lia
theorem BK{i:ah}{x:Str}{p1 apos cpos pos:ck}(hK:KFrag.K=X.K)(ho:own i=ag)(hN:X.N[i]?=aa x)(hv:Vis X.env.scope x)(he:PE X e (gE fe re))(hd:autoParam (nDb x) Λ)(hcd:autoParam (nCd x) Λ)
 (hbase:autoParam (fx (.Name x p1) "extend" X.env (eval (.Name x p1) X.env)=eval (.Name x p1) X.env) Ω)
 (hs1:autoParam (zSE X e []) Ω)
 (hfew:autoParam (zFw X cpos [e]) Ω)
 (hline:autoParam ((apos.endLine==cpos.line)=ag) Ω)
 (hs:autoParam (dy (.Call (.Attribute (.Name x p1) "extend" apos) [e] [] cpos) aj pos.line X.env=pure ak) Ω) :
  PS X (.Expr (.Call (.Attribute (.Name x p1) "extend" apos) [e] [] cpos) pos) (tS own (CN i fe)):=
 PS.imp (jK (GX io Dh PySem.F.type_list_extend aKe (aW hN hv hd hcd) (aY he dC hs1) hbase hfew hline hs1 rfl) hs) λD' σ H z0=>by
 obtain⟨ρ,fl,E,h,q⟩:=z0;obtain⟨d,h1,h2⟩:=a_ h;split at h2
 .rename_i xs ys hx hy;split at h2
  .rename_i hk;cases h2;rw[aS,cx] at hk;obtain⟨a,o,hσ,r,hin,ha,hm⟩:=E.ownAt ho (by rw[hx];intro z;cases z);rw[hx] at r hin;obtain⟨vs,hl,rr⟩:=zQ r;refine⟨_,hσ,.inl ⟨rfl,vs,.of hl⟩,ρ,_,E.er,h1,λv H' s rv _=>?_⟩;obtain⟨b,zs,rfl,hb,rz⟩:=aKa hK hy rv;have E':=E.same s;have hl':=s _ _ hl;refine⟨a,b,vs,zs,rfl,rfl,hl',hb,by rw[rr.length,rz.length];exact dj hk.1 (by rw[dv];decide),?_⟩;have hp:ε (xs++ys)=ag:=by rw[jQ,aS];exact⟨hin,hk.2⟩
   obtain⟨E2,k2⟩:=E'.mut (o:=.lst (vs++zs)) (d:=.lst (xs++ys)) ho hσ rfl (.lst aJ trivial (((rr.same s).append rz).upd hp hl' rfl)) hp;exact q _ _ ((KU.same s).trans k2) E2
  .exact bx h2
 .exact bx h2
theorem aRm{xf:FX}(h:PE X e (gX own xf)):PE X e (gX own (xFz xf)):=PE.imp (aRk h) λσ H Q ⟨ρ,d,ρ',E,h,q⟩=>by
 obtain⟨⟨d0,ρ1⟩,h1,h2⟩:=a_ h;dsimp only at h2;split at h2
 .rename_i xs;split at h2
  .rename_i hp;cases h2;refine⟨ρ,_,_,E,h1,λv H1 k1 E1 ns r=>?_⟩;cases r with
   |@lst a vs _ ea pa ra=>
    have pa:H a=aj:=pa;have noT:∀ob,H1 a=aa ob->Q_ ob=ag:=λob z=>by rw[ea] at z;cases z;rfl
    refine⟨a,vs,rfl,ea,λo=>q _ _ (λc oc ec n=>⟨?_,(k1 c oc ec n).2⟩) ⟨E1.len,λi hi=>?_,λi w hi hw=>?_⟩ ns (.frz (.inl ⟨o,aJ⟩) ((wC noT ra hp).bT hp))⟩
    .rw[aO (λz=>by rw[z,pa] at ec;cases ec)];exact(k1 c oc ec n).1
    .obtain⟨w,hw,rw_⟩:=E1.at_ i hi;refine⟨w,hw,λho=>?_⟩;have e0:=ns i ho;rw[e0] at hi ⊢;obtain⟨w',hw',rw'⟩:=E.at_ i hi;rw[hw] at hw';cases hw';refine(rw' ho).keep (λc oc ec hc=>?_) λc hc=>hc
     rw[aO (λz=>by rw[z,pa] at ec;cases ec)];exact k1.keep E c oc ec hc
    .obtain⟨b,ob,g1,g2,g3,g4,g5,g6⟩:=E1.own i w hi hw;subst g1;obtain⟨oh,eh,_⟩:=E.live ⟨i,hi,hw⟩;have hba:b≠a:=λz=>by rw[z,pa] at eh;cases eh
     refine⟨b,ob,rfl,?_,g3,by rw[aO hba];exact g4,g5,g6⟩;refine(g2.wV (P':=λc=>c≠a) g3 hba).keep (λc oc hc hp=>?_) λ_ _=>trivial
     rw[aO]
     .exact hc
     .intro z;subst z;rcases hp with hp|hp
      .exact hp rfl
      .rw[ea] at hc;cases hc;cases hp
  .exact bx h2
 .exact bx h2
theorem aCg{H1:Hp}:∀{bs:ae al}{gr:ae (ae Str)}{H:Hp},Inv X Ψ σ H s->GL H1 H bs gr->∃H',Inv X Ψ σ H' s/\(∀c,c∉bs->H' c=H c)/\∀P:al->Prop,bK P H' (bs.map V.ref) (gr.map λg=>D.scr (g.map .str))
 |_,_,H,I,.nil=>⟨H,I,λ_ _=>rfl,λ_=>.nil⟩
 |_,_,H,I,.cons (b:=b) (g:=g) (bs:=bs) e f n t=>by
  obtain⟨o,I1⟩:=nZ I e;obtain⟨H',I',k,r⟩:=aCg I1 (t.keep (H':=upd H b (.frz o (.lst (g.map .str)))) λc oc hc ec=>by rw[aO (λz=>n (by rw[<-z];exact hc))];exact ec);refine⟨H',I',λc hc=>?_,λP=>.cons (.frz (.inl ⟨o,?_⟩) (NZ g)) (r P)⟩
  .rw[k c (λz=>hc (dg _ z)),aO (λz=>hc (by rw[z];exact de ..))]
  .rw[k b n,aJ]
noncomputable def tFR(iF:ah):TS:=λD σ H=>∃H1 a bs gr,σ[iF]?=aa (aa (.ref a))/\H1 a≠aj/\H a=aa (.lst (bs.map V.ref).reverse)/\GL H1 H bs gr/\∀H',(∀c,H1 c≠aj->H' c=H c)->(∀P:al->Prop,P a->Rep P H' (.ref a) (.lst (gr.reverse.map λg=>.scr (g.map .str))))->D.rt (.ref a) H'
theorem aKf{iF:ah}{x:Str}{px:ck}(hN:X.N[iF]?=aa x)(hv:Vis X.env.scope x)(hd:autoParam (nDb x) Λ)(hcd:autoParam (nCd x) Λ) :
  PSs X [.Return (aa (.Name x px)) pos] (tFR iF):=λΨ s σ H D I w=>by
 obtain⟨H1,a,bs,gr,h1,h2,h3,h4,q⟩:=w;obtain⟨H',I',k,r⟩:=aCg I h4;have nb:∀c,H1 c≠aj->H' c=H c:=λc hc=>k c λz=>hc (h4.new c z).1
 refine dI (sS (aW hN hv hd hcd)) Ψ s σ H' D I' ⟨_,h1,q H' nb λP pa=>.lst (by rw[nb a h2];exact h3) pa ?_⟩;rw[Di];exact(r P).aU9
theorem er0:ER H σ []:=λi hi=>aT rfl hi
def tTl(iF iL iW:ah)(fe:FE):TS:=λD σ H=>∃a c cs g wd ρ n,σ[iF]?=aa (aa (.ref a))/\σ[iW]?=aa (aa (.str wd))/\H a=aa (.lst ((c::cs).map V.ref).reverse)/\H c=aa (.lst (g.map V.str))/\g.length<lim/\fe ρ=.ok (.int n)/\∀H1,bW H H1->ER (upd H1 c (.lst ((g++[wd]).map V.str))) σ ρ/\∀H2,bW (upd H1 c (.lst ((g++[wd]).map V.str))) H2->D.nx (σ.set iL (aa (.int n))) H2
def tAE(i:ah):TS:=λD σ H=>∃a vs,σ[i]?=aa (aa (.ref a))/\H a=aa (.lst vs)/\vs.length<bo/\∀p,H p=aj->D.nx σ (upd (upd H p (.lst [])) a (.lst (vs++[.ref p])))
theorem aOi{iF iL iW:ah}{x l w:Str}{k:Expr}{fk:FE}{rk re:aw}{p3 p4 p5 p6 ap2 cp2 q4 q5:ck}(hN:X.N.Nodup)(hNF:X.N[iF]?=aa x)(hvF:Vis X.env.scope x)(hNL:X.N[iL]?=aa l)(hlL:Loc X.env.scope l)(hNW:X.N[iW]?=aa w)(hvW:Vis X.env.scope w)
 (hk:PE X k (gE fk rk))(hfk:∀ρ,fk ρ=.ok (.int (-1)))(he:PE X e (gE fe re))(hpk:wQ k)
 (hd:nDb x)(hcd:nCd x)(hdw:(w==("__debug__" : Str))=ak)(hcdw:(w==("__classdict__" : Str))=ak)
 (hb2:fx (.Subscript (.Name x p3) k p4) "append" X.env (eval (.Subscript (.Name x p3) k p4) X.env)=eval (.Subscript (.Name x p3) k p4) X.env)
 (hs2:b5 [.Name w p5] X.env=(ak,eval (.Name w p5) X.env)::b5 [] X.env)
 (hf2:((fF cp2 (b5 [.Name w p5] X.env)).all (λx=>!x.1)&&(og cp2 (oj [] X.env)).all (λx=>x.1.isSome)
  &&ϒ (([.Name w p5]:ae Expr).length+([]:ae jq).length+(if ([]:ae jq).isEmpty then 0 else 1)<30))=ag)
 (hl2:(ap2.endLine==cp2.line)=ag)
 (hw3:dy (.Call (.Attribute (.Subscript (.Name x p3) k p4) "append" ap2) [.Name w p5] [] cp2) aj q4.line X.env=pure ak)
 (hw4:dy e (aa (.Name l p6)) q5.line X.env=pure ak)(hfL:X.fn l=ag\/X.env.scope.names.lookup l=aa .local) :
  PSs X [.Expr (.Call (.Attribute (.Subscript (.Name x p3) k p4) "append" ap2) [.Name w p5] [] cp2) q4,.Assign [.Name l p6] e q5] (tTl iF iL iW fe):=
 PSs.imp (bR (jK (GX io j3 lx iH (YB oN (aW hNF hvF hd hcd) hk hpk) (aY (aW hNW hvW hdw hcdw) dC hs2) hb2 hf2 hl2 hs2 rfl) hw3) (dI (yV hN hNL hlL he hw4 hfL))) λD σ H w=>by
 obtain⟨a,c,cs,g,wd,ρ,n,h1,h2,h3,h4,h5,h6,h7⟩:=w;refine⟨.ref a,h1,[],.int (-1),er0,hfk _,λkv H1 sm rk _=>?_⟩;cases rk;obtain⟨h8,h9⟩:=h7 H1 sm;have ha:=sm _ _ h3;rw[bd,fN] at ha;refine⟨a,_,-1,.ref c,rfl,rfl,.of ha,yI _ _,.inl ⟨rfl,_,.of (sm _ _ h4)⟩,.str wd,h2,c,_,.str wd,rfl,rfl,sm _ _ h4,by rw[az];exact K_ (bw h5),?_⟩;rw[cw] at h8 h9;exact⟨ρ,_,h8,h6,λv H2 s2 r _=>by cases r;exact h9 H2 s2⟩
def bP(H1:Hp)(a:al):al->Prop:=λc=>c≠a/\H1 c≠aj
def bI(iF iL iW:ah)(gc:FT)(fe:FE)(K:bi)(J:It)(items:ae D)(d:D)(H1:Hp)(a:al)(ln n:ah)(σ:L2.St)(H:Hp):Prop:=∃gr bs ρ,Y_ iL iW gc fe (items.drop n) gr ρ=.ok d/\H a=aa (.lst (bs.map V.ref).reverse)/\GL H1 H bs gr/\EQ (bP H1 a) H σ ρ/\ItQ K (bP H1 a) J H items/\σ[iF]?=aa (aa (.ref a))/\sJ (bP H1 a) H1 H/\ρ.length=ln
theorem aOj{K:bi}{iF iL iW:ah}{gc:FT}{D:Ends}{σ3:L2.St}{H3:Hp}{ρ3:ae Mi.D}{g:ae Str}{r:ae (ae Str)}{c:al}{cs:ae al}(hFL:iF≠iL)(hl1:H1 a=aa o1)(E3:EQ (bP H1 a) H3 σ3 ρ3)(hl3:ρ3.length=ln)(ha3:H3 a=aa (.lst ((c::cs).map V.ref).reverse))(G3:GL H1 H3 (c::cs) (g::r))(It3:ItQ K (bP H1 a) J H3 items)(hF3:σ3[iF]?=aa (aa (.ref a)))(hW3:σ3[iW]?=aa (aa (.str wd)))(fr3:sJ (bP H1 a) H1 H3)(hgl:g.length<lim)(hb3:(do
  let d <- fe ρ3
  match d with
  |.int n=>Y_ iL iW gc fe (items.drop (i+1)) ((g++[wd])::r) (ρ3.set iL (.int n))
  |_=>.bad)=.ok d):tTl iF iL iW fe {D with nx:=bI iF iL iW gc fe K J items d H1 a ln (i+1),ct:=bI iF iL iW gc fe K J items d H1 a ln (i+1),bk:=D.nx} σ3 H3:=by
 have sk:∀{P:al->Prop}{Ha Hb:Hp},bW Ha Hb->sJ P Ha Hb:=λs c oc e _=>s c oc e
 obtain⟨dd,g5,g6⟩:=a_ hb3;split at g6
 rotate_left
 .exact bx g6
 rename_i n;cases G3 with
 |cons ec fc nc Gt=>
  refine⟨a,c,cs,g,wd,ρ3,n,hF3,hW3,ha3,ec,hgl,g5,λH4 s4=>?_⟩;have hca:c≠a:=λz=>by rw[z,hl1] at fc;cases fc
  have k4:sJ (bP H1 a) H3 (upd H4 c (.lst ((g++[wd]).map V.str))):=λy oy ey hy=>V_ (λz=>z.2 fc) (s4 _ _ ec) rfl y oy (s4 _ _ ey) hy
  exact⟨(E3.keep k4).er,λH5 s5=>⟨(g++[wd])::r,c::cs,_,g6,s5 _ _ (by rw[aO hca.symm];exact s4 _ _ ha3),.cons (s5 _ _ aJ) fc nc (Gt.keep λy oy hy ey=>s5 _ _ (by rw[aO (λz=>nc (by rw[<-z];exact hy))];exact s4 _ _ ey)),((E3.keep k4).keep (sk s5)).set (.int n),(It3.keep' k4 λ_ _ _ z=>z).keep' (sk s5) λ_ _ _ z=>z,by rw[dm hFL.symm];exact hF3,λy oy ey hy=>s5 _ _ (k4 _ _ (fr3 y oy ey hy) hy),by rw[jk];exact hl3⟩⟩
theorem aKg{K:bi}{iF iL iW:ah}{gc:FT}{D:Ends}{r1:aw}(hFL:iF≠iL)(hFW:iF≠iW)(hLW:iL≠iW)(hl1:H1 a=aa o1)(hil:iW<ln)(hlt:i<items.length)(w:bI iF iL iW gc fe K J items d H1 a ln i σ' H'):J.go i H'/\∀x H2,J.yld i H' x H2->fG iW x σ' H2 λσ2 H2=>wN (aGv (gT gc) (wN (tAE iF) (BX (gE dR r1) (fG iL))) Z3) (tTl iF iL iW fe) {D with nx:=bI iF iL iW gc fe K J items d H1 a ln (i+1),ct:=bI iF iL iW gc fe K J items d H1 a ln (i+1),bk:=D.nx} σ2 H2:=by
 have sk:∀{P:al->Prop}{Ha Hb:Hp},bW Ha Hb->sJ P Ha Hb:=λs c oc e _=>s c oc e
 obtain⟨gr,bs,ρ',hb',ha',G,EQ',It',hσ',fr,hln⟩:=w;obtain⟨j1,j2⟩:=It'.go (dq hlt);rw[ii hlt] at hb';refine⟨j1,λv H2 hy=>?_⟩;obtain⟨sH,rx⟩:=j2 v H2 hy;generalize items[i]=it at rx hb';cases it with
 |str wd=>
  cases rx;obtain⟨b,hgc,hb1⟩:=a_ hb';have hσ2:(σ'.set iW (aa (.str wd)))[iF]?=aa (aa (.ref a)):=by rw[dm hFW.symm];exact hσ'
  have hσw:(σ'.set iW (aa (V.str wd)))[iW]?=aa (aa (.str wd)):=eD (by rw[EQ'.1,hln];exact hil);refine⟨_,b,((EQ'.keep (sk sH)).set (.str wd)).er,hgc,λH3 s3=>?_⟩;have s13:=sH.trans s3;have E3:EQ (bP H1 a) H3 (σ'.set iW (aa (.str wd))) (ρ'.set iW (.str wd)):=(EQ'.keep (sk s13)).set (.str wd);have ha3:=s13 _ _ ha';have G3:=G.keep λc oc _ e=>s13 c oc e
  have It3:=It'.keep' (sk s13) λ_ _ _ z=>z
  have fr3:sJ (bP H1 a) H1 H3:=λc oc e z=>s13 _ _ (fr c oc e z)
  cases b with
  |false=>
   rw[ax 0x4] at hb1;split at hb1
   .rename_i g r;split at hb1
    .rename_i hll;rw[aS,cx,cx] at hll;cases bs with
     |nil=>cases G3
     |cons c cs=>exact aOj hFL hl1 E3 (by rw[jk];exact hln) ha3 G3 It3 hσ2 hσw fr3 hll.2 hb1
    .exact bx hb1
   .exact bx hb1
  |true=>
   rw[ao rfl] at hb1;split at hb1
   .rename_i g r hgr;cases hgr;split at hb1
    .rename_i hll;rw[aS,cx,cx] at hll;refine⟨a,_,hσ2,ha3,by rw[jb,az,G.len];exact K_ (bw hll.1),λp hp=>?_⟩;have hpa:a≠p:=λz=>by rw[<-z,ha3] at hp;cases hp
     have ha4:upd H3 p (.lst []) a=aa (.lst (bs.map V.ref).reverse):=by rw[aO hpa];exact ha3
     have hp1:H1 p=aj:=by
      cases hh:H1 p with
      |none=>rfl
      |some oo=>
       rw[fr3 p oo hh (.inl ⟨hpa.symm,by rw[hh];intro z;cases z⟩)] at hp;cases hp
     have k6:sJ (bP H1 a) H3 (upd (upd H3 p (.lst [])) a (.lst ((bs.map V.ref).reverse++[.ref p]))):=λy oy ey hy=>V_ (λz=>z.1 rfl) ha4 rfl y oy (by rw[aO (λz=>by rw[z,hp] at ey;cases ey)];exact ey) hy
     refine⟨[],_,er0,rfl,λv H5 s5 r _=>?_⟩;cases r;refine aOj (c:=p) (cs:=bs) hFL hl1 (((E3.keep k6).keep (sk s5)).set (.int 1)) (by rw[jk,jk];exact hln) (s5 _ _ (by rw[aJ,bd,fN])) (.cons (s5 _ _ (by rw[aO hpa.symm,aJ];rfl)) hp1 (λz=>?_) (G3.keep λy oy hy ey=>s5 _ _ ?_)) ((It3.keep' k6 λ_ _ _ z=>z).keep' (sk s5) λ_ _ _ z=>z) (by rw[dm hFL.symm];exact hσ2) (by rw[dm hLW];exact hσw) (λy oy ey hy=>s5 _ _ (k6 _ _ (fr3 y oy ey hy) hy)) hll.2 hb1
     .obtain⟨_,oo,eo⟩:=G3.new p z;rw[hp] at eo;cases eo
     .rw[aO (λz=>by have:=(G3.new y hy).1;rw[z,hl1] at this;cases this),aO (λz=>by rw[z,hp] at ey;cases ey)];exact ey
    .exact bx hb1
   .exact bx hb1
 |_=>exact bx hb'
theorem aOk{iF iL iW:ah}{fi:FI}{gc:FT}{r1:aw}{D:Ends}(hF:own iF=ag)(hx:own rtX=ak)(hFL:iF≠iL)(hFW:iF≠iW)(hLW:iL≠iW)(w:tS own (aQ6 iF iL iW fi gc fe) D σ H):wN (aQg (gI X.K fi) (fG iW) (wN (aGv (gT gc) (wN (tAE iF) (BX (gE dR r1) (fG iL))) Z3) (tTl iF iL iW fe))) (tFR iF) D σ H:=by
 obtain⟨ρ,fl,E,h,q⟩:=w;obtain⟨⟨items,kk⟩,g1,g2⟩:=a_ h;dsimp only at g2;split at g2
 rotate_left
 .exact bx g2
 rename_i hkk;rw[aS,cx] at hkk;split at g2
 rotate_left
 .exact bx g2
 rename_i hxs;obtain⟨d,g3,g4⟩:=a_ g2;cases g4;refine⟨ρ,items,kk,E.er,g1,λJ H1 s1 _ hJ=>?_⟩;have E1:=E.same s1;obtain⟨a,o,hσ,r,hin,ha,hm⟩:=E.ownAt hF (by rw[hxs];intro z;cases z);rw[hxs] at r;obtain⟨vs,hl,rr⟩:=zQ r;cases rr;have hOa:Own own σ a:=⟨iF,hF,hσ⟩
 have hl1:=s1 _ _ hl;have liv:∀{c:al}{oc:HO},H1 c=aa oc->c≠a->bP H1 a c:=λec hn=>⟨hn,by rw[ec];intro z;cases z⟩
 refine⟨λi m σ' H'=>m=items.length-i/\i<=items.length/\bI iF iL iW gc fe X.K J items d H1 a ρ.length i σ' H',⟨_,rfl,ef _,[],[],_,g3,hl1,.nil,⟨by rw[jk];exact E.len,λi hi=>?_⟩,(hJ hkk.1).keep' (λ_ _ e _=>e) λc oc ec hn=>liv ec λz=>?_,hσ,λc o e _=>e,jk ..⟩,?_⟩
 .rw[cP] at hi ⊢;split at hi
  .exact aT rfl hi
  rename_i hij;rw[ax hij];obtain⟨v,h2,h3⟩:=E1.at_ i hi;refine⟨v,h2,?_⟩;cases ho:own i with
  |false=>exact(h3 ho).aAi (λc oc ec _=>ec) λc oc ec hn=>liv ec λz=>hn (z▸hOa)
  |true=>
   obtain⟨b,ob,rfl,g2,g3,g4,g5,g6⟩:=E1.own i v ho h2;have hba:b≠a:=λz=>by
    subst z;have:=g6 iF hF hσ;subst this;exact hij ⟨rfl,by rw[<-E.len];exact(dA.mp hσ).1⟩
   exact g2.wV g3 (liv g4 hba)
 .subst z;rw[show H c=aj from hn] at hl;cases hl
 rintro i m σ' H' ⟨rfl,hle,w⟩;rcases lq i items.length with hlt|hge
 .obtain⟨j1,j2⟩:=aKg (D:={D with nx:=tFR iF D}) (r1:=r1) hFL hFW hLW hl1 hkk.2 hlt w;exact .inr ⟨j1,_,λσ2 H2 z=>⟨items.length-(i+1),by lia,rfl,hlt,z⟩,j2⟩
 .obtain⟨gr,bs,ρ',hb',ha',G,EQ',It',hσ',fr,hln⟩:=w;refine .inl ⟨It'.stop hge,?_⟩;rw[ik hge] at hb';cases hb';refine⟨H1,a,bs,gr,hσ',(by rw[hl1];intro z;cases z),ha',G,λH2 k2 r2=>(kRt.old q hx) _ _ (λc oc ec hn=>?_) (r2 _ (.inl hOa))⟩;have e1:=s1 _ _ ec;rw[k2 c (by rw[e1];intro z;cases z)];exact fr c oc e1 (.inl (liv e1 λz=>hn (z▸hOa)))
theorem aKh{iF iL iW:ah}{x l w:Str}{iter c e1 k:Expr}{fi:FI}{gc:FT}{fk:FE}{r1 rk re:aw}{p0 p1 p2 p3 p4 p5 p6 pw ap1 cp1 q1 q2 q3 ap2 cp2 q4 q5 posF px:ck}(hF:own iF=ag)(hx:own rtX=ak)(hFL:iF≠iL)(hFW:iF≠iW)(hLW:iL≠iW)(hp:ju (ay X.prog X.w) X.A X.env X.xe)(hc0:X.calm=ag)(hN:X.N.Nodup)
 (hNF:X.N[iF]?=aa x)(hvF:Vis X.env.scope x)(hNL:X.N[iL]?=aa l)(hlL:Loc X.env.scope l)(hNW:X.N[iW]?=aa w)(hlW:Loc X.env.scope w)(hvW:Vis X.env.scope w)
 (hi:PI X (.Name w pw) iter (gI X.K fi))(hg:PT X c (gT gc))(h1:PE X e1 (gE dR r1))(hk:PE X k (gE fk rk))(hfk:∀ρ,fk ρ=.ok (.int (-1)))(he:PE X e (gE fe re))
 (hpk:wQ k:=by exact λ_ _=>rfl)(hfs:∀x,en iter X.env x=pure x:=by intro _;rfl)
 (hd:autoParam (nDb x) Λ)(hcd:autoParam (nCd x) Λ)(hdw:autoParam ((w==("__debug__" : Str))=ak) Λ)(hcdw:autoParam ((w==("__classdict__" : Str))=ak) Λ)
 (hb1:autoParam (fx (.Name x p1) "append" X.env (eval (.Name x p1) X.env)=eval (.Name x p1) X.env) Ω)
 (hs1:autoParam (b5 [.List [] p0] X.env=(ak,eval (.List [] p0) X.env)::b5 [] X.env) Ω)
 (hf1:autoParam (((fF cp1 (b5 [.List [] p0] X.env)).all (λx=>!x.1)&&(og cp1 (oj [] X.env)).all (λx=>x.1.isSome)
  &&ϒ (([.List [] p0]:ae Expr).length+([]:ae jq).length+(if ([]:ae jq).isEmpty then 0 else 1)<30))=ag) Ω)
 (hl1:autoParam ((ap1.endLine==cp1.line)=ag) Ω)
 (hw1:autoParam (dy (.Call (.Attribute (.Name x p1) "append" ap1) [.List [] p0] [] cp1) aj q1.line X.env=pure ak) Ω)
 (hw2:autoParam (dy e1 (aa (.Name l p2)) q2.line X.env=pure ak) Ω)
 (hb2:autoParam (fx (.Subscript (.Name x p3) k p4) "append" X.env (eval (.Subscript (.Name x p3) k p4) X.env)=eval (.Subscript (.Name x p3) k p4) X.env) Ω)
 (hs2:autoParam (b5 [.Name w p5] X.env=(ak,eval (.Name w p5) X.env)::b5 [] X.env) Ω)
 (hf2:autoParam (((fF cp2 (b5 [.Name w p5] X.env)).all (λx=>!x.1)&&(og cp2 (oj [] X.env)).all (λx=>x.1.isSome)
  &&ϒ (([.Name w p5]:ae Expr).length+([]:ae jq).length+(if ([]:ae jq).isEmpty then 0 else 1)<30))=ag) Ω)
 (hl2:autoParam ((ap2.endLine==cp2.line)=ag) Ω)
 (hw3:autoParam (dy (.Call (.Attribute (.Subscript (.Name x p3) k p4) "append" ap2) [.Name w p5] [] cp2) aj q4.line X.env=pure ak) Ω)
 (hw4:autoParam (dy e (aa (.Name l p6)) q5.line X.env=pure ak) Ω)
 (hfW:autoParam (X.fn w=ag\/X.env.scope.names.lookup w=aa .local) Ξ)
 (hfL:autoParam (X.fn l=ag\/X.env.scope.names.lookup l=aa .local) Ξ) :
  PSs X [.For (.Name w pw) iter [.If c [.Expr (.Call (.Attribute (.Name x p1) "append" ap1) [.List [] p0] [] cp1) q1,.Assign [.Name l p2] e1 q2] [] q3,.Expr (.Call (.Attribute (.Subscript (.Name x p3) k p4) "append" ap2) [.Name w p5] [] cp2) q4,.Assign [.Name l p6] e q5] [] posF,.Return (aa (.Name x px)) pos] (tS own (aQ6 iF iL iW fi gc fe)):=
 PSs.imp (bR (DN hp hc0 hi (aV hN hNW hlW hfW) (bR (J7 hg (bR (PS.imp (jK (GX io j3 lx iH (aW hNF hvF hd hcd) (aY (J_ dC) dC hs1) hb1 hf1 hl1 hs1 rfl) hw1) λD σ H ⟨a,vs,h1,h2,h3,h4⟩=>⟨.ref a,h1,.inl ⟨rfl,_,.of h2⟩,ef _,λp hp=>⟨a,_,.ref p,rfl,rfl,by rw[aO (λz=>by rw[<-z,h2] at hp;cases hp)];exact h2,h3,h4 p hp⟩⟩) (dI (yV hN hNL hlL h1 hw2 hfL))) yU) (aOi hN hNF hvF hNL hlL hNW hvW hk hfk he hpk hd hcd hdw hcdw hb2 hs2 hf2 hl2 hw3 hw4 hfL)) hfs) (aKf hNF hvF hd hcd)) λD σ H h=>aOk hF hx hFL hFW hLW h
theorem aKi(hc:X.calm=ag):lR X (.builtin "min") (rs min2 ak):=by
 rintro Ψ s σ H xs us Q I vr ⟨ds,d,r,e,k⟩;unfold min2 at e;split at e
 .cases e;cases r with
  |cons r t=>
   cases r.inv;cases t with
   |cons r t=>
    cases r.inv;cases t;cases vr with
    |cons v vt=>
     obtain⟨t1,rfl⟩:=v;cases vt with
     |cons v vt=>
      obtain⟨t2,rfl⟩:=v;cases vt;refine min_two_ints (I.ok.hd hc) λh' tk hk=>⟨_,H,I.kept hk,?_,k.int⟩
      split
      .exact⟨_,rfl⟩
      .exact⟨_,rfl⟩
 .exact bx e
end
end Mi
section
local macro_rules | `(tactic| trivial) => `(tactic| first | exact Or.inl rfl | exact Or.inr rfl | exact Or.inr (Or.inl rfl) | exact Or.inr (Or.inr rfl))
namespace Lk53
open PySem L2 Mi PySem.W
noncomputable def top(i:ah):bz:=PySem.Challenge.pw_hookmill_k53_one_call.main.body.getD i (.Pass ⟨0,0,0,0⟩)
abbrev xF:bz:=top 19
noncomputable def ZC:ah->aw:=λi=>i==1
def ZD:FS:=bA (bZ ag 1 (bC (.dct [])) ag) (bA (J1 (bH (b2 getD iJ dR) ak) (tgN [2,3,4]) (aEf 1 fH (iK (aC eF (aC gU aU))))) (bA (J1 (bH (b2 getD iJ jD) ak) (tgN [2,3,5,6]) (aEf 1 fH (iK (aC eF (aC (b2 aH9 (iK (aC jY aU)) t_) aU))))) (aMp 1)))
def jH:ae D->Res D:=fnS 1 7 ZD
abbrev xG:bz:=top 22
noncomputable def ZF:ah->aw:=λi=>i==1||i==2
def ob:FS:=bA (CK 2 3) (bA (Q7 1 (b2 getD eF cT)) (CN 2 (b1 aLo (b2 getD eF dR))))
def oc:FT:=bTr fH
def F_:FS:=bA (bZ ag 1 (i_ aU) ag) (bA (bZ ag 2 (i_ (aC (bPu iJ) aU)) ag) (bA (aJg oc ob) (zN (aZ fJ (aC fK aU)) ak)))
def jJ:ae D->Res D:=fnS 1 4 F_
abbrev o_:bz:=rowOf (top 23) 0
def nF:ae (Str×Srx):=[("words",.par 1),("left",.exp (aZ kY (aC fK aU))),("known",.par 2)]
abbrev eZ:bz:=rowOf (top 24) 0
def fX:ae (Str×Srx):=[("heads",.exp (aZ (sG 1 jH) (aC fK aU))),("makers",.exp (b1 FN (dB 3 (bH (b2 getD fK dR) ak) lO gG (iK (aC (b2 getD eF cT) (aC (bC (.bl ag)) aU))) ak))),("rules",.exp (b1 H_ (dB 3 (bH (b2 getD fK kW) ak) lO gG (iK (aC (iK (aC (b2 getD eF cT) (aC (b2 getD eF dR) aU))) (aC eF aU))) ak))),("most",.par 2),("calls",.exp cT),("copies",.exp cT),("drops",.exp cT)]
abbrev e_:bz:=rowOf (top 24) 1
abbrev d8:bz:=rowOf (top 24) 2
abbrev mG:bz:=rowOf (top 24) 3
abbrev eX:bz:=rowOf (top 24) 4
abbrev xH:bz:=top 21
def dU:ae D->Res D:=aLs fX jJ
abbrev p_:bz:=top 26
noncomputable def S5:ah->aw:=λi=>i==0||i==1000000
def BL:FS:=bA (bZ ak 1 (b2 getD iJ cT) ak) (bA (bZ ak 2 (b2 getD iJ dR) ak) (bA (YW 0 dR (b2 (bJ .add) fH dR)) (bA (sIf (bTB (b2 (yE .lt) fH (aZ kY (aC fK aU)))) (Q6 (b2 getD fK fH) ak) yL) (bA (sIf (bTB (b2 (eG .eq) (aZ kY (aC fK aU)) cT)) (Q6 (b2 (bJ .add) (b2 J2 (b2 J2 fH fH) kW) fH) ag) yL) (Q6 (b2 (bJ .add) (b2 (bJ .fdiv) (b2 getD fK (b2 (bJ .mod) fH (aZ kY (aC fK aU)))) jD) (b2 J2 fH fH)) ag)))))
def bD:ae D->Res D:=fnX 1 1 3 BL
abbrev iQ:bz:=top 27
noncomputable def N5:ah->aw:=λi=>i==0||i==9||i==1000000
def nb:FS:=bA (bZ ak 11 (b2 (bJ .mod) (b2 (bJ .add) (b2 J2 oU eF) gU) yD) ag) (sIf (bTB (b2 (eG .eq) (b2 (bJ .mod) fH kW) dR)) (Q7 9 (b2 J2 (b2 getD fK (b2 (bJ .mod) (b2 (bJ .add) gU (b2 (bJ .mod) jL Q5)) yD)) (b2 (bJ .add) dR (b2 (bJ .fdiv) jL Q5)))) (sIf (bTB (b2 (eG .eq) (b2 (bJ .mod) fH kW) jD)) (bA (bZ ak 12 (b2 getD fK (b2 (bJ .mod) (b2 (bJ .add) gU (b2 (bJ .mod) jL aIq)) yD)) ak) (bA (bZ ak 13 (b2 getD fK (b2 (bJ .mod) (b2 (bJ .add) gU (b2 (bJ .fdiv) jL aIq)) yD)) ak) (Q7 9 (b2 (bJ .add) (b2 (bJ .add) (b2 (bJ .add) (oY oR g_ (gF yK)) kE) oV) (oY oR (gF yK) g_))))) (Q7 9 (b2 (bJ .add) (b2 (bJ .add) (oY oR g_ (gF yK)) (b2 getD fK jL)) (oY oR (gF yK) g_)))))
def sg0:FS:=mX ak 2 (eV bD 1 0 aU)
def N6:FS:=bA (bZ ak 1 (bC (.str "abcdefghijklmnopqrstuvwxyz")) ag) (bA sg0 (bA (bZ ak 3 (b2 getD (i_ (aC dR (aC kW (aC aLm (aC aMm (aC aLn (aC (bC (.int 25)) aU))))))) (b2 (bJ .mod) (b2 (bJ .fdiv) fH kW) aIq)) ak) (bA (bZ ak 4 (b2 (bJ .mod) (b2 (bJ .fdiv) fH aIr) yD) ag) (bA (mX ak 5 (eV bD 1 0 aU)) (bA (bZ ak 6 (b2 (bJ .mod) jY aMn) ag) (bA (bZ ak 7 (bM joinM (bC (.str "")) (aC (dB 14 (lX (aC t_ aU) jN) lO gG (b2 getD fK (b2 (bJ .mod) (b2 (bJ .add) (b2 (bJ .fdiv) jY aMn) (b2 J2 jM (b2 (bJ .add) gU (b2 (bJ .mod) (b2 (bJ .fdiv) jY YG) aLm)))) yD)) ak) aU)) ag) (bA (mX ak 8 (x2L (bJ .mod) (eV bD 1 0 aU) (b2 (bJ .add) t_ dR))) (bA (sIf (bTB (b2 (eG .eq) (b2 (bJ .mod) fH kW) jD)) (bZ ak 7 (oY oR g_ (gF aIq)) ag) yL) (bA (bZ ag 9 (i_ aU) ag) (bA (J1 (lX (aC yD aU) jN) (tg1 10) nb) (bA (sIf (bOr (bTB (b2 inX (bC (.str "copy")) mQ)) (bTB (b2 inX (bC (.str "drop")) mQ))) (bZ ag 9 (dB 14 (bH mQ ak) lO gG (b2 (bJ .add) jM (bC (.str "e"))) ag) ag) yL) (m8 9))))))))))))
def iR:ae D->Res D:=fnX 1 1 14 N6
abbrev iB:bz:=top 28
noncomputable def ZG:ah->aw:=λi=>i==0||i==4||i==5||i==6||i==11||i==1000000
def tkb:FS:=bA (mX ak 9 (eV bD 1 0 aU)) (bA (bZ ak 12 (dB 13 (lX (aC (b2 (bJ .mod) (b2 (bJ .fdiv) mQ aLn) kW) aU) jN) lO gG (b2 getD gU (b2 (bJ .mod) (b2 (bJ .fdiv) mQ (b2 getD (i_ (aC (bC (.int 27)) (aC (bC (.int 81)) aU))) oV)) eF)) ak) ag) (Q7 11 (iK (aC (b2 getD fK (b2 (bJ .add) (bC (.int 10)) yK)) (aC (b2 getD gU (b2 (bJ .mod) mQ eF)) (aC (b2 getD gU (b2 (bJ .mod) (b2 (bJ .fdiv) mQ kW) eF)) (aC (aZ fJ (aC kE aU)) aU)))))))
def sg9:FS:=aF5 (aQ3 (x2R (bJ .add) dR (x2L (bJ .mod) (eV bD 1 0 aU) kW))) (tg1 8) tkb
def mkb:FS:=bA (mX ak 9 (eV bD 1 0 aU)) (bA (bZ ak 7 (dB 13 (lX (aC (b2 (bJ .mod) (b2 (bJ .fdiv) mQ kW) Q5) aU) jN) lO gG (b2 getD gU (b2 (bJ .mod) (b2 (bJ .fdiv) mQ (b2 getD (i_ (aC aIs (aC (bC (.int 36)) (aC (bC (.int 108)) aU)))) oV)) eF)) ak) ag) (Q7 5 (iK (aC (b2 getD fK (b2 (bJ .add) (b2 (bJ .add) kW eF) yK)) (aC (b2 getD gU (b2 (bJ .mod) mQ eF)) (aC (aZ fJ (aC oR aU)) aU))))))
def sg6:FS:=J1 (lX (aC (b2 (bJ .mod) (b2 (bJ .fdiv) fH kW) Q5) aU) jN) (tg1 8) mkb
def sg5:FS:=aQ2 (aJq (bTB (b2 (yE .gt) eF dR)) (xTB (x2L (eG .eq) (x2L (bJ .mod) (eV bD 1 0 aU) kW) dR))) (bA (bZ ak 7 (aZ fJ (aC (oY gU g_ (gF (b2 (bJ .add) dR (b2 (bJ .mod) (b2 (bJ .fdiv) fH aIs) (b2 (bJ .sub) eF dR))))) aU)) ak) (bA (YW 5 (b1 aEd dR) (iK (aC (b2 getD fK (b2 (bJ .add) jD eF)) (aC (b2 getD gU (b1 aEd dR)) (aC oR aU))))) (aEf 6 (b2 getD gU (b1 aEd dR)) (b2 (bJ .add) dR (aZ kY (aC oR aU)))))) yL
def sg3:FS:=bZ ag 5 (dB 13 (lX (aC eF aU) jN) lO gG (iK (aC (b2 getD fK (b2 (bJ .add) kW oV)) (aC (b2 getD gU oV) (aC (iK aU) aU)))) ak) ag
def sgA:FS:=Q7 5 (iK (aC (b2 getD fK aLn) (aC (b2 getD gU cT) (aC (iK (aC (b2 getD gU cT) (aC (b2 getD gU cT) aU))) aU))))
def aT1:FS:=VR (aC (bOw 4) (aC (b2 (bJ .add) (oY jY (gF oU) g_) (oY jY g_ (gF oU))) (aC (bOw 11) (aC (bOw 6) aU))))
def sg4:FS:=bZ ag 6 (b1 FN (dB 13 (bH gU ak) lO gG (iK (aC oV (aC dR aU))) ak)) ag
def sg7:FS:=bZ ak 10 (b2 (bJ .mod) (b2 (bJ .fdiv) fH aIs) (aZ kY (aC jY aU))) ag
def sg1:FS:=bZ ak 3 (b2 (bJ .add) dR (b2 (bJ .mod) fH kW)) ag
def sg2:FS:=bZ ag 4 (oY fK g_ (gF eF)) ag
def sg8:FS:=bZ ag 11 (i_ aU) ag
def xJ:FS:=bA sg0 (bA sg1 (bA sg2 (bA sg3 (bA sg4 (bA sg5 (bA sg6 (bA sgA (bA sg7 (bA sg8 (bA sg9 aT1))))))))))
def lK:ae D->Res D:=fnX 1 2 13 xJ
abbrev fV:bz:=top 30
noncomputable def S6:ah->aw:=λi=>i==0||i==6||i==7||i==1000000
def gc1:FT:=K4 (bTB (b2 (eG .ne) jM (i_ aU))) (bOr (bTB (b2 (eG .eq) (b2 (bJ .mod) jL Q5) jD)) (K4 (bTB (b2 (yE .gt) (b2 (bJ .mod) jL Q5) cT)) (bTB (b2 (eG .eq) t_ (i_ aU)))))
def gc2:FT:=K4 (bTB (b2 (eG .ne) kE (i_ aU))) (bTB (b2 (yE .lt) (b2 (bJ .mod) jL Q5) jD))
def gg7:FS:=sIf gc1 (sAl 15 14) (sIf gc2 (sAl 15 12) yL)
def gg5:FS:=bZ ak 14 (dB 17 (bH oV ak) lO (bTB (b2 (eG .ne) (b2 getD BZ jD) (iK aU))) BZ ak) ag
def gg3:FS:=bZ ak 12 (dB 17 (bH fK ak) lO (bTB (b2 (eG .eq) (b2 getD BZ dR) mQ)) BZ ak) ag
def gg8:FS:=bZ ak 16 (b2 getD Q4 (b2 (bJ .mod) (b2 (bJ .fdiv) jL Q5) (aZ kY (aC Q4 aU)))) ak
def wb1:FS:=bZ ak 10 (b2 (bJ .sub) (b2 (bJ .add) yK (b2 getD jY mQ)) dR) ag
def gg6:FS:=bZ ak 15 (b2 (bJ .add) kE oV) ag
def gg2:FS:=mX ak 11 (eV bD 1 0 aU)
def wc:FT:=bTB (b2 (eG .ne) oR (i_ aU))
def q_:FS:=bA (bZ ag 6 (i_ aU) ag) (bA (bZ ag 7 (i_ (aC (bPu eF) aU)) ag) (bA (bZ ak 8 (aZ max2 (aC cT (aC (b2 (bJ .sub) gU (b2 getD jY eF)) aU))) ak) (bA (aJg wc (bA (CK 7 9) (bA wb1 (bA gg2 (bA gg3 (bA (bZ ak 13 (dB 17 (bH fH ak) lO (K4 (bTB (b2 (eG .eq) (b2 getD BZ dR) mQ)) (bTB (b2 (yE .le) (aZ zX (aC (dB 18 (bH (b2 getD BZ jD) ak) lO gG (b2 getD jY (cD 18)) ak) aU)) oU))) BZ ak) ag) (bA gg5 (bA gg6 (bA gg7 (bA gg8 (bA (Q7 6 (b2 getD K1 cT)) (bA (bZ ak 8 (b2 (bJ .sub) oU (aZ zX (aC (dB 17 (bH (b2 getD K1 jD) ak) lO gG (b2 getD jY BZ) ak) aU))) ag) (CN 7 (b1 aLo (b2 getD K1 jD))))))))))))))) (m8 6))))
def jV:ae D->Res D:=fnX 1 6 17 q_
abbrev iT:bz:=top 31
noncomputable def N7:ah->aw:=λi=>i==0||i==6||i==1000000
def ru2:FS:=bZ ak 11 (dB 15 (lX (aC (aZ kY (aC mQ aU)) aU) jN) lO gG (b2 getD eF (b2 (bJ .add) (bC (.int 13)) (b2 (bJ .mod) (b2 (bJ .add) (aZ kY (aC t_ aU)) (b2 J2 Q4 oU)) aLm))) ak) ag
def aT2:FS:=sIf (bTB (b2 (eG .eq) (iK (aC (b2 getD oR cT) (aC (b2 getD yK cT) aU))) (iK (aC (b2 getD gU cT) (aC (b2 getD gU dR) aU))))) (bZ ak 13 (b2 getD gU jD) ak) yL
def ru3:FS:=bZ ak 12 (dB 15 (lX (aC (aZ kY (aC mQ aU)) aU) jN) lO gG (iK (aC (b2 getD jL Q4) (aC (b2 getD mQ Q4) (aC (iK aU) aU)))) ak) ag
def ru5:FS:=Q7 6 (iK (aC (b2 getD oR cT) (aC (b2 getD yK cT) (aC (aZ fJ (aC jL aU)) (aC (aZ fJ (aC jM aU)) aU)))))
def ru4:FS:=mX ak 14 (eV jV 6 0 (aC kE (aC fK (aC (bPu (b2 getD oR dR)) (aC oV (aC jY aU))))))
def ru1:FS:=bZ ak 10 (b2 (bJ .add) dR (b2 (bJ .mod) (aZ kY (aC t_ aU)) Q5)) ag
def ru0:FS:=bZ ak 9 (b2 aH9 (b2 getD yK jD) (b2 getD oR kW)) ak
def rua:FS:=bZ ak 13 aMm ag
def rub:FS:=sIf (bTB (b2 (eG .eq) (b2 getD yK dR) (b2 getD oR jD))) (bA ru0 (bA ru1 (bA ru2 (bA ru3 (bA rua (bA aT2 (bA ru4 ru5))))))) yL
def nG:FS:=bA (bZ ag 6 (i_ aU) ag) (bA (B_ 2 (tg1 7) (B_ 1 (tg1 8) rub)) (m8 6))
def j8:ae D->Res D:=fnX 1 6 15 nG
abbrev n6:bz:=top 33
noncomputable def ZJ:ah->aw:=λi=>i==2
def goT:FS:=bZ ak 7 (aZ kY (aC (dB 8 (bH (b2 getD iJ kW) ak) lO (bTB (b2 (eG .eq) yK (b2 getD (b2 getD iJ jD) t_))) yK ak) aU)) ag
def goC:FS:=bZ ak 4 (b2 (bJ .add) gU (b2 J2 (aZ max2 (aC cT (aC (b2 (bJ .sub) oR dR) aU))) (aZ kY (aC (b2 getD fK t_) aU)))) ag
def goB:FS:=sIf (bTB (b2 inX eF (b2 getD iJ jD))) (CN 2 (b2 getD fK (bM zY (b2 getD iJ jD) (aC eF aU)))) (Q7 2 eF)
def goD:FS:=bZ ak 5 (b2 (bJ .add) jY (b2 J2 (aZ aNd (aC (b2 (eG .eq) oR cT) aU)) (aZ kY (aC (b2 getD fK t_) aU)))) ag
def xK:FS:=bA (bZ ag 2 (i_ aU) ag) (bA (J1 (bH (b2 getD iJ kW) ak) (tg1 3) goB) (bA (bZ ak 4 cT ag) (bA (bZ ak 5 cT ag) (bA (J1 (lX (aC (aZ kY (aC fK aU)) aU) jN) (tg1 6) (bA goT (bA goC goD))) (aFw 2 (zN (i_ (aC (bPu fH) (aC dR (aC (bPu gU) (aC (bPu jY) aU))))) ag))))))
def lL:ae D->Res D:=fnS 2 8 xK
abbrev fY:bz:=top 29
noncomputable def N8:ah->aw:=λi=>i==0||i==6||i==7||i==1000000
def ww3:FS:=bZ ak 12 (dB 14 (bH jL ak) lO (bTB (b2 inX mQ (b2 getD jM jD))) jM ak) ag
def ww5:FS:=mX ak 13 (x2R getD jL (x2L (bJ .mod) (eV bD 1 0 aU) (aZ kY (aC jL aU))))
def ww4:FS:=sIf (K4 (bTr gU) (bTB (b2 (eG .ne) kE (i_ aU)))) (sAl 11 12) yL
def nH:FS:=bA (bZ ag 6 (i_ aU) ag) (bA (bZ ag 7 (i_ (aC (bPu fH) aU)) ag) (bA (bZ ak 8 (aZ max2 (aC cT (aC (b2 (bJ .sub) eF (b2 getD jY fH)) aU))) ak) (bA (aJg wc (bA (CK 7 9) (bA wb1 (bA (bZ ak 11 (dB 14 (bH fK ak) lO (K4 (bTB (b2 (eG .eq) (b2 getD jM dR) mQ)) (bTB (b2 (yE .le) (aZ zX (aC (dB 15 (bH (b2 getD jM jD) ak) lO gG (b2 getD jY Q4) ak) aU)) oU))) jM ak) ag) (bA ww3 (bA ww4 (bA ww5 (bA (Q7 6 (b2 getD oV cT)) (bA (bZ ak 8 (b2 (bJ .sub) oU (aZ zX (aC (dB 14 (bH (b2 getD oV jD) ak) lO gG (b2 getD jY jM) ak) aU))) ag) (CN 7 (b1 aLo (b2 getD oV jD)))))))))))) (m8 6))))
def j9:ae D->Res D:=fnX 1 6 14 nH
abbrev mH:bz:=top 32
noncomputable def I_:ah->aw:=λi=>i==2||i==4
def bhA:FS:=aEf 2 (b2 getD eF cT) (aZ kY (aC (b2 getD eF jD) aU))
def bhe:FE:=b2 (bJ .add) (b2 (bJ .sub) jY dR) (b2 getD fH t_)
def bhc:FT:=bTB (b2 (eG .eq) jY cT)
def mJ:FS:=bA (bZ ag 2 (bC (.dct [])) ag) (bA (B_ 1 (tg1 3) bhA) (bA (bZ ag 4 (i_ aU) ag) (bA (bZ ak 5 cT ag) (aQ6 4 5 6 (bH (oY iJ (gF dR) g_) ag) bhc bhe))))
def gM:ae D->Res D:=fnS 2 7 mJ
abbrev nJ:bz:=top 35
noncomputable def N_:ah->aw:=λi=>ak
def OD:FS:=bA (sIf (bTr (aJv [("Spent",ak)] 0)) (zN (bC (.bl ak)) ag) yL) (bA (sIf (bTr (aJv [("Spent",ak)] 0)) (zN (bC (.bl ak)) ag) yL) (zN (aAh (aKb [("Spent",ag)] 0) (aJv [("Spent",ag)] 0)) ag))
def iU:ae D->Res D:=fnS 1 1 OD
abbrev nM:bz:=top 34
noncomputable def OJ:ah->aw:=λi=>ak
def rt2:FS:=sIf (bOr (aDo (bTr (b1 (K5 .str) (b2 getD (b2 getD iJ cT) fH)))) (bTB (b2 (eG .ne) (b2 getD (b2 getD iJ cT) fH) (b2 getD (b2 getD fK cT) fH)))) (zN (bC (.bl ak)) ag) yL
def rt3:FS:=sIf (bOr (aDo (bTr (b1 (K5 .int) (b2 getD iJ fH)))) (bOr (bTr (b1 (K5 .bool) (b2 getD iJ fH))) (bTB (b2 (eG .ne) (b2 getD iJ fH) (b2 getD fK fH))))) (zN (bC (.bl ak)) ag) yL
def aRn:FS:=zN (bC (.bl ag)) ag
def nO:FS:=bA (sIf (bOr (aDo (bTr (b1 (K5 .tuple) iJ))) (bTB (b2 (eG .ne) (aZ kY (aC iJ aU)) Q5))) (zN (bC (.bl ak)) ag) yL) (bA (sIf (bOr (aDo (bTr (b1 (K5 .tuple) (b2 getD iJ cT)))) (bTB (b2 (eG .ne) (aZ kY (aC (b2 getD iJ cT) aU)) (aZ kY (aC (b2 getD fK cT) aU))))) (zN (bC (.bl ak)) ag) yL) (bA (J1 (lX (aC (aZ kY (aC (b2 getD fK cT) aU)) aU) jN) (tg1 2) rt2) (bA (J1 (bH (i_ (aC dR (aC jD (aC kW aU)))) ag) (tg1 2) rt3) aRn)))
def fZ:ae D->Res D:=fnS 2 3 nO
abbrev nP:bz:=top 36
noncomputable def O3:ah->aw:=λi=>ak
def akC:FT:=bTB (b2 (yE .gt) (b2 (bJ .add) (b2 (bJ .add) (b2 getD fH dR) (b2 getD fH jD)) (b2 getD fH kW)) (b2 getD (i_ (aC (bPu eF) (aC (bC (.int 400)) aU))) (aZ aNd (aC (b2 (yE .lt) eF cT) aU))))
def akT:FS:=sIf (noE (bTB (b2 (yE .lt) eF cT))) (bZ ak 4 (aZ (ZR 3 dU [.int 400]) (noE (aC iJ (aC fK aU)))) ag) (bZ ak 4 (aZ (ZR 3 dU []) (noE (aC iJ (aC fK (aC eF aU))))) ag)
def nQ:FS:=bA (bZ ak 4 (bC .non) ag) (bA (bZ ak 5 (bC .non) ag) (bA (Y9 akT ["Spent"] 5 6) (bA (sIf akC (zN (aZ (sG 1 iU) (aC jY aU)) ag) yL) (zN (aAh (b2 (eG .isN) jY (bC .non)) (aZ (sG 2 fZ) (aC gU (aC fH aU)))) ag))))
def j_:ae D->Res D:=fnS 4 7 nQ
abbrev CP:bz:=top 37
noncomputable def o_law:ah->aw:=λi=>i==1||i==12||i==17
def bb:FS:=sIf (aDo (bTr (aZ (sG 4 j_) (aC (cD 20) (aC (aZ fJ (aC BZ aU)) (aC K1 (aC (cD 22) aU))))))) (zN (bC (.bl ak)) ag) yL
def aT3:FS:=J1 (bH (i_ (aC (bPu (cD 21)) (aC (b2 (bJ .sub) (cD 21) dR) (aC (b1 aEd dR) (aC (b2 (bJ .add) (cD 21) (b2 (bJ .mod) (b2 (bJ .fdiv) fH (bC (.int 54))) (bC (.int 100)))) aU))))) ag) (tg1 22) bb
def lw8:FS:=sIf (bTB (b2 (eG .eq) oU YG)) (bZ ak 11 (aZ min2 (aC YG (aC jL aU))) ak) (sIf (K4 (bTB (b2 (eG .eq) oU aMm)) (K4 (bTB (b2 (eG .eq) jL K3)) (bTB (b2 (eG .eq) (b2 getD mQ kW) (iK aU))))) (bZ ak 11 (bC (.int 390)) ag) yL)
def aT4:FS:=bZ ak 15 (b2 getD (dB 23 (bH jM ak) lO (bTB (b2 (eG .eq) (iK (aC (b2 getD zL cT) (aC (b2 getD zL dR) aU))) (iK (aC (b2 getD mQ cT) (aC (b2 getD (b2 getD kE cT) cT) aU))))) zL ak) cT) ak
def aT5:FS:=bZ ak 20 (iK (aC (aZ fJ (aC gU aU)) (aC (aZ fJ (aC jY aU)) (aC (aZ fJ (aC t_ aU)) (aC (aZ fJ (aC (b2 (bJ .add) (oY jM (gF (cD 19)) g_) (oY jM g_ (gF (cD 19)))) aU)) aU))))) ak
def aT6:FS:=mX ak 14 (eV j8 6 1 (aC jY (aC t_ (aC eF (aC (bPu (iK (aC (b2 getD mQ cT) (aC (b2 getD (b2 getD kE cT) cT) (aC oU aU))))) (aC oR aU))))))
def vb:FS:=aFv 12 (xFz (eV j9 6 1 (aC jY (aC oV (aC jL (aC yK (aC oR aU)))))))
def aT7:FS:=J1 (bH (b2 aH9 (iK (aC (b2 getD mQ jD) aU)) (b2 getD mQ kW)) ak) (tg1 13) vb
def aT8:FS:=bZ ak 16 (aZ (sG 2 lL) (aC Q4 (aC (b2 (bJ .add) (aZ (sG 2 gM) (aC (b2 getD kE cT) (aC jY aU))) (oY kE (gF dR) g_)) aU))) ag
def lw6:FS:=bZ ak 10 (b2 getD (i_ (aC aMm (aC (bC (.int 14)) (aC YG aU)))) (b2 (bJ .mod) (b2 (bJ .fdiv) fH aIr) kW)) ak
def lw7:FS:=bZ ak 11 (b2 getD (i_ (aC dR (aC aLn (aC K3 aU)))) (b2 (bJ .mod) (b2 (bJ .fdiv) fH jD) kW)) ak
def aT9:FS:=bZ ak 21 (b2 (bJ .add) (b2 (bJ .add) (b2 getD K1 dR) (b2 getD K1 jD)) (b2 getD K1 kW)) ag
def lw5:FS:=bZ ak 9 (b2 getD t_ (b2 (bJ .mod) (b2 (bJ .fdiv) fH aIq) (aZ kY (aC t_ aU)))) ak
def lw0:FS:=bZ ag 1 (aR3 (i_ (aC (oY iJ g_ (gF K3)) (aC cT aU)))) ag
def aTa:FS:=bZ ak 19 (b2 (bJ .mod) (b2 (bJ .fdiv) fH (bC (.int 54))) (aZ kY (aC jM aU))) ag
def lw4:FS:=bZ ak 8 (b2 (eG .eq) (b2 (bJ .mod) fH jD) dR) ag
def aTb:FS:=bZ ag 17 (i_ (aC (bPu (b2 getD mQ cT)) aU)) ag
def lw3:FS:=aF6 (eV lK 2 1 (aC eF aU)) [4,5,6,7]
def lw2:FS:=mX ak 3 (eV iR 1 1 aU)
def lw1:FS:=mX ak 2 (eV bD 1 1 aU)
def aRo:FS:=M7 12 (tg1 18) (CN 17 (cD 18))
def lw9:FS:=bZ ag 12 (i_ aU) ag
def aKj:FS:=bA lw0 (bA lw1 (bA lw2 (bA lw3 (bA lw4 (bA lw5 (bA lw6 (bA lw7 (bA lw8 (bA lw9 (bA aT7 (bA aT6 (bA aT4 (bA aT8 (bA aTb (bA aRo (bA aTa (bA aT5 (bA aT9 (bA aT3 aRn)))))))))))))))))))
def aCh:ae D->Res D:=fnS 1 23 aKj
noncomputable abbrev ZK:ae Str:=["program","heads","name","kind","parts","taken","more"]
noncomputable abbrev ZL:ae Str:=["value","found","waiting","node"]
noncomputable abbrev aKk:ae Str:=["program","words","most","plain","value"]
noncomputable abbrev S7:ae Str:=["deck","cells","at"]
noncomputable abbrev iV:ae Str:=["deck","letters","choice","turn","shift","cell","size","base","at","names","k","spot","ahead","behind"]
noncomputable abbrev fB:ae Str:=["deck","names","cell","many","kinds","makers","least","behind","k","one","at","takers","more"]
noncomputable abbrev cZ:ae Str:=["deck","known","makers","wanted","most","least","words","due","left","kind","room","cell","own","some","grown","pool","pick"]
noncomputable abbrev iY:ae Str:=["deck","makers","takers","names","called","least","rules","taker","maker","behind","step","own","known","most","words"]
noncomputable abbrev xM:ae Str:=["rule","values","words","word","copies","drops","k","times"]
noncomputable abbrev dH:ae Str:=["deck","heads","wanted","most","full","least","words","due","left","kind","room","some","grown","pick"]
noncomputable abbrev JB:ae Str:=["value","makers","many","row","found","left","word"]
noncomputable abbrev O4:ae Str:=["caught"]
noncomputable abbrev O5:ae Str:=["found","due","k"]
noncomputable abbrev O6:ae Str:=["program","words","due","bound","found","caught","e"]
noncomputable abbrev aKl:ae Str:=["script","deck","cell","names","kinds","makers","takers","least","full","taker","room","size","values","kind","rules","rule","due","words","value","at","program","total","bound"]
theorem S8:cA ZK ["program"] (aL xF):=0xa
theorem O7[KFrag](hK:KFrag.K=K)(B:Bt mg)(F:Fun K "heads_of" "heads_of" xF fad fd)(hm:mg "heads_of"=aa (.ref fad)):n_ P w K mg base 1 "heads_of" 1 jH:=by
 have sc:=S8;have nd:=sc.nd;refine zT F hm (F.binds λ_ _ _ _ _ _ us hl=>by obtain⟨_,rfl⟩:=Mi.l1 hl;rfl) sc ZC 0x4 0x4 λcdv A outer s H E hr=>?_
 have hu:=D_ hr;exact aG (bY (U5)) (aG (oH eM rfl (cU (aQ aA aF)) (aAt _ 0x4) (Z4 rfl (eY (aV sc.nd rfl 0x0) (eY (aV sc.nd rfl 0x0) (eY (aV sc.nd rfl 0x0) (GP))))) (aX (VF hu rfl rfl 0x0 aA (dN (aB aA (aB aA aM)))))) (aG (oH eM rfl (cU (aQ aA aF)) (aAt _ 0x4) (Z4 rfl (eY (aV sc.nd rfl 0x0) (eY (aV sc.nd rfl 0x0) (eY (aV sc.nd rfl 0x0) (eY (aV sc.nd rfl 0x0) (GP)))))) (aX (VF hu rfl rfl 0x0 aA (dN (aB aA (aB (aR R3 (dN (aB aA aM)) aA) aM)))))) (aX (aJ2 rfl rfl 0x0))))
theorem S9:cA ZL ["value"] (aL xG):=0xa
theorem O8[KFrag](hK:KFrag.K=K)(B:Bt mg)(F:Fun K "words_of" "words_of" xG fad fd)(hm:mg "words_of"=aa (.ref fad)):n_ P w K mg base 1 "words_of" 1 jJ:=by
 have sc:=S9;have nd:=sc.nd;refine zT F hm (F.binds λ_ _ _ _ _ _ us hl=>by obtain⟨_,rfl⟩:=Mi.l1 hl;rfl) sc ZF 0x4 0x4 λcdv A outer s H E hr=>?_
 have hu:=D_ hr;exact aG (bY (dG aM)) (aG (bY (dG (aB (HX aA) aM))) (aG (aB7 eM (oF aA) (aG (R4 rfl rfl 0x0 sc.nd rfl 0x0 rfl) (aG (nA rfl rfl 0x0 (aQ aA aF)) (aX (BK hK rfl rfl 0x0 (R_ 0x3 0x3 B.list 0x3 B.reversed (aQ aA aF))))))) (aX (j6 (cX fL 0x3 B.tuple d_ (aB aA aM))))))
theorem aFy:cA (["self","words","known"]:ae Str) ["self","words","known"] (aL o_):=0xa
theorem aCi[KFrag](hK:KFrag.K=K)(B:Bt mg)(cls:Cls K C)(na:∀f∈nF.map (·.1),cQ K C f)(F:Fun K "__init__" "Frame.__init__" o_ fad fd):mO P w K mg base CX0 1 fad fd ["self","words","known"] (aFc C nF 2):=by
 have sc:=aFy;have nd:=sc.nd;refine aHg F sc rfl rfl cls 0x6 na 0x4 λcdv A outer s H E hr=>?_
 have hu:=D_ hr;exact bR (j4 (aW rfl 0x0) (aW rfl 0x0) rfl) (bR (j4 (aW rfl 0x0) (bN (eQ hK) 0x3 B.len eU (aB aA aM)) rfl) (bR (j4 (aW rfl 0x0) (aW rfl 0x0) rfl) (yU)))
theorem S_:cA (["self","program","most"]:ae Str) ["self","program","most"] (aL eZ):=0xa
theorem O9[KFrag](hK:KFrag.K=K)(B:Bt mg)(ua:n_ P w K mg base 1 "heads_of" 1 jH)(cls:Cls K C)(na:∀f∈fX.map (·.1),cQ K C f)(F:Fun K "__init__" "PlainRun.__init__" eZ fad fd):mO P w K mg base CX0 2 fad fd ["self","program","most"] (aFc C fX 2):=by
 have sc:=S_;have nd:=sc.nd;refine aHg F sc rfl rfl cls 0x6 na 0x4 λcdv A outer s H E hr=>?_
 have hu:=D_ hr;exact bR (j4 (aW rfl 0x0) (lZ ua hr 0x4 0x3 (aB aA aM)) rfl) (bR (j4 (aW rfl 0x0) (NB 0x3 0x3 B.dict (iG (show cG (["self","program","most"]:ae Str) (aL eZ) _ (["maker"]:ae Str) from 0x9) rfl rfl rfl (cU (aQ aA aF)) (dD 3) (λ_=>aV (show((di (eN (["maker"]:ae Str)) (["self","program","most"]:ae Str)++(["maker"]:ae Str)):ae Str).Nodup from 0x6) rfl 0x0) (λ_=>dN (aB (aQ aA aF) (aB CG aM))) (λ_=>rfl))) rfl) (bR (j4 (aW rfl 0x0) (Y7 0x3 hu 0x3 B.dict (iG (show cG (["self","program","most"]:ae Str) (aL eZ) _ (["rule"]:ae Str) from 0x9) rfl rfl rfl (cU (aQ aA aF)) (dD 3) (λ_=>aV (show((di (eN (["rule"]:ae Str)) (["self","program","most"]:ae Str)++(["rule"]:ae Str)):ae Str).Nodup from 0x6) rfl 0x0) (λ_=>dN (aB (dN (aB (aQ aA aF) (aB (aQ aA aF) aM))) (aB aA aM))) (λ_=>rfl))) rfl) (bR (j4 (aW rfl 0x0) (aW rfl 0x0) rfl) (bR (j4 (aW rfl 0x0) aF rfl) (bR (j4 (aW rfl 0x0) aF rfl) (bR (j4 (aW rfl 0x0) aF rfl) (yU)))))))
theorem TF:cA (["self","words","frames","values","frame"]:ae Str) ["self","words"] (aL e_):=0xa
theorem O_:cA (["self","frames","values","word","known","parts"]:ae Str) ["self","frames","values","word"] (aL d8):=0xa
theorem aCj:cA (["self","taker","parts","taken","rule","known","name","value"]:ae Str) ["self","taker","parts"] (aL mG):=0xa
theorem JC:cA (["self","uses","size"]:ae Str) ["self","uses","size"] (aL eX):=0xa
theorem aRp(σ:L2.St)(H:Hp)(Q Q':ae V->Hp->Prop)(h:∀vs H',Q vs H'->Q' vs H')(x:(dY (gW 1) (dY UL zB)) σ H Q):(dY (gW 1) (dY UL zB)) σ H Q':=by
 obtain⟨v,e,q⟩:=x;exact⟨v,e,λp hp=>h _ _ (q p hp)⟩
theorem aRq[KFrag](σ:L2.St)(H:Hp)(Q Q':ae V->Hp->Prop)(h:∀vs H',Q vs H'->Q' vs H')(x:(dY (gE cf7 ak) (dY (gW 5) zB)) σ H Q):(dY (gE cf7 ak) (dY (gW 5) zB)) σ H Q':=by
 obtain⟨ρ,d,e,e2,q⟩:=x;exact⟨ρ,d,e,e2,λv H' s r n=>let ⟨u,z,q⟩:=q v H' s r n;⟨u,z,h _ _ q⟩⟩
theorem aRr(σ:L2.St)(H:Hp)(Q Q':ae V->Hp->Prop)(h:∀vs H',Q vs H'->Q' vs H')(x:(dY (gW 0) (dY (gW 2) zB)) σ H Q):(dY (gW 0) (dY (gW 2) zB)) σ H Q':=by
 obtain⟨v,e,u,z,q⟩:=x;exact⟨v,e,u,z,h _ _ q⟩
theorem aOl[KFrag](ws:ae D)(kn:ae (D×D))(h:ε ws=ag)(hk:ε (kn.map (·.2))=ag):evS [.uD,.tup ws,.dct kn] nF=.ok [("words",.tup ws),("left",.int ws.length),("known",.dct kn)]:=by
 have h1:okF (.tup ws)=ag:=by unfold okF;rw[ξ,h];rfl
 have e3:evS [.uD,.tup ws,.dct kn] [("known",.par 2)]=.ok [("known",.dct kn)]:=by
  show(if okF (.dct kn)=ag then τ [(("known" : Str),D.dct kn)] else .bad)=_;rw[ao (IV hk)]
 have e2:evS [.uD,.tup ws,.dct kn] [("left",.exp (aZ kY (aC fK aU))),("known",.par 2)]=.ok [("left",.int ws.length),("known",.dct kn)]:=by
  show(do let ds <- evS [.uD,.tup ws,.dct kn] [("known",.par 2)];if okF (.int ws.length)=ag then τ ((("left" : Str),θ ws.length)::ds) else .bad)=_;rw[e3];rfl
 show(do let ds <- evS [.uD,.tup ws,.dct kn] [("left",.exp (aZ kY (aC fK aU))),("known",.par 2)];if okF (.tup ws)=ag then τ ((("words" : Str),ν ws)::ds) else .bad)=_;rw[e2,ι,ao h1]
theorem gP[KFrag](hK:KFrag.K=K)(B:Bt mg)(cl:Cls K C)(nq:cQ K C "drops")(np:cQ K C "copies")(F:Fun K "count_uses" "PlainRun.count_uses" eX fad fd):mO P w K mg base CX0 1 fad fd ["self","uses","size"] (aLr C):=by
 have sc:=JC;have nd:=sc.nd;refine F.ok sc (λvs H Q E h=>aOd h) λcdv A outer s H vs Q E hr h=>⟨tCU K,?_,aJx rfl cl nq np h⟩
 exact(dI (J7 (Z0 (aGt (aW rfl 0x0) sO)) (dI (j4 (aW rfl 0x0) (J6 (j0 (aW rfl 0x0) rfl) (aW rfl 0x0)) rfl)) (dI (j4 (aW rfl 0x0) (J6 (j0 (aW rfl 0x0) rfl) (aLz (aGr (aW rfl 0x0) sO) (aW rfl 0x0))) rfl))))
theorem nR[KFrag](hK:KFrag.K=K)(B:Bt mg)(q_Frame:aLp P w K mg base 1 "Frame" nF 2)(hC:nsIn K bj "PlainRun"=aa (aa (.ref C)))(hCF:nsIn K bj "Frame"=aa (aa (.ref CF)))(cl:Cls K C)(nc:cQ K C "calls")(np:cQ K C "copies")(nq:cQ K C "drops")(nm:cQ K C "most")(fr:QL K "PlainRun" "rules")(mS:mg "Spent"=aa (.ref CS))(xS:excIn K CS aQz "ValueError.__new__"=ag)(M:Meth K C "count_uses" fm)(T:mO P w K mg base CX0 1 fm fdm psm (aLr C))(hb:Binds K fdm psm [])(F:Fun K "called" "PlainRun.called" mG fad fd):mO P w K mg base (CX2 P w) 3 fad fd ["self","taker","parts"] (aC9 CF CS):=by
 have sc:=aCj;have nd:=sc.nd;refine aRc F sc (λvs H Q E h=>aK5 h) λcdv A outer s H vs Q E hr h=>⟨aSq K C CS nF E,?_,aFj rfl hK hC hCF cl nc np nq nm aOl h⟩
 have hu:=D_ hr;exact(bR (oE (aQ aA aF) (aV sc.nd rfl 0x0)) (bR (oE (aQ (NK hK fr aA) (dN (aB aA (aB (aQ aA aF) aM)))) (aV sc.nd rfl 0x0)) (bR (oE (aF1 0x3 B.dict 0x3 B.zip (aB (aQ aA aF) (aB (aR bU (cX (aIw 0x3) 0x3 B.list aAv (aB (aQ aA aF) aM)) (jT hK aA (fU aF) fQ)) aM))) (aV sc.nd rfl 0x0)) (bR (j4 (aW rfl 0x0) (J6 (j0 (aW rfl 0x0) rfl) sO) rfl) (bR (aNz (DN Dj rfl (aEy rfl 0x0) (Z4 rfl (eY (aV sc.nd rfl 0x0) (eY (aV sc.nd rfl 0x0) GP))) (dI (jK (GQ (aW rfl 0x0) cl M T (hr.mono 0x4) hb .nil aEa (aY (aIx Dk Ad PySem.F.type_tuple_count aBj (aQ aA aF) (aB aA aM) (λ_ _ _ _ _ h r=>aBk h r)) (aY (aQ aA aF) dC))))))) (bR (J7 (Z0 (aQc (J6 (J6 (j0 (aW rfl 0x0) rfl) (j0 (aW rfl 0x0) rfl)) (j0 (aW rfl 0x0) rfl)) (j0 (aW (i:=0) rfl 0x0) rfl))) (dI (PS.imp (aEq rfl 0x3 mS xS (aY aGq dC)) λD σ H hE=>⟨by decide,λΨ s h2 a us I hx=>aC5 I hx hE⟩)) yU) (dI (sS (aJt q_Frame hr 0x4 0x3 (aY (aQ (aA (i:=4)) aF) (aY (aW (i:=5) rfl 0x0) dC)) (hmono:=aRq))))))))))
theorem iZ[KFrag](hK:KFrag.K=K)(B:Bt mg)(hC:nsIn K bj "PlainRun"=aa (aa (.ref C)))(clF:Cls K CF)(nk:cQ K CF "known")(cl:Cls K C)(fh:QL K "PlainRun" "heads")(fm_:QL K "PlainRun" "makers")(M:Meth K C "called" fm)(T:mO P w K mg base (CX2 P w) 3 fm fdm psm (aC9 CF CS))(hb:Binds K fdm psm [])(F:Fun K "take_word" "PlainRun.take_word" d8 fad fd):mO P w K mg base (CX2 P w) 4 fad fd ["self","frames","values","word"] (aO9 CF CS):=by
 have sc:=O_;have nd:=sc.nd;refine aRc F sc (λvs H Q E h=>aOe h) λcdv A outer s H vs Q E hr h=>⟨tTk K C CF CS E,?_,aK2 rfl hK hC clF nk h⟩
 have hu:=D_ hr;exact(bR (oE (j0 (YB oN (aW rfl 0x0) (aI6 Z7 sO) (λ_ _=>rfl)) rfl) (aV sc.nd rfl 0x0)) (dI (J7 (b7 (EY hu) aA aA 0x5) (dI (jK (GX io j3 lx iH (aW rfl 0x0) (by exact(aY (aQ aA aA) dC))))) (bR (aFm (show cG (["self","frames","values","word","known","parts"]:ae Str) (aL d8) _ (["kind"]:ae Str) from 0x9) rfl rfl rfl (cU (aQ (aQ (NK hK fh aA) aA) aF)) (λ_=>aV (show((di (eN (["kind"]:ae Str)) (["self","frames","values","word","known","parts"]:ae Str)++(["kind"]:ae Str)):ae Str).Nodup from 0x6) rfl 0x0) (λ_=>aJu rfl rfl 0x0) (λ_=>rfl) sc.nd rfl 0x0 (gz rfl) 0x5) (dI (J7 (b7 (EY hu) aA (NK hK fm_ aA) 0x5) (dI (jK (GX io j3 lx iH (aW rfl 0x0) (by exact(aY (dN (aB aA (aB (cX fL 0x3 B.tuple d_ (aB aA aM)) (aB (aR bU aF (bN (MT 0x3) 0x3 B.sum M3 (aB (iG (show cG (["self","frames","values","word","known","parts"]:ae Str) (aL d8) _ (["part"]:ae Str) from 0x9) rfl rfl rfl (cU aA) (dD 6) (λ_=>aV (show((di (eN (["part"]:ae Str)) (["self","frames","values","word","known","parts"]:ae Str)++(["part"]:ae Str)):ae Str).Nodup from 0x6) rfl 0x0) (λ_=>(aQ aA aF)) (λ_=>rfl)) aM))) aM)))) dC))))) (dI (jK (GX io j3 lx iH (aW rfl 0x0) (by exact(aY (GQ (aW rfl 0x0) cl M T (hr.mono 0x4) hb .nil wY (aY (aW rfl 0x0) (aY (aW rfl 0x0) dC))) dC)))))))))))
theorem fW[KFrag](hK:KFrag.K=K)(B:Bt mg)(q_Frame:aLp P w K mg base 1 "Frame" nF 2)(hC:nsIn K bj "PlainRun"=aa (aa (.ref C)))(hCF:nsIn K bj "Frame"=aa (aa (.ref CF)))(clF:Cls K CF)(nl:cQ K CF "left")(cl:Cls K C)(M:Meth K C "take_word" fm)(T:mO P w K mg base (CX2 P w) 4 fm fdm psm (aO9 CF CS))(hb:Binds K fdm psm [])(fw:QL K "Frame" "words")(fl:QL K "Frame" "left")(F:Fun K "value_of" "PlainRun.value_of" e_ fad fd):mO P w K mg base (CX2 P w) 5 fad fd ["self","words"] (aCf CS):=by
 have sc:=TF;have nd:=sc.nd;refine aRc F sc (λvs H Q E h=>aK6 h) λcdv A outer s H vs Q E hr h=>⟨aSz K C CF CS nF E,?_,aFs rfl hK hC hCF clF nl aOl h⟩
 have hu:=D_ hr;exact(bR (oE (J_ (aY (aJt q_Frame hr 0x4 0x3 (aY (aW rfl 0x0) (aY UT dC)) (hmono:=aRp)) dC)) (aV (i:=2) sc.nd rfl 0x0)) (bR (oE (J_ dC) (aV (i:=3) sc.nd rfl 0x0)) (bR (T8 Dj (T9 (aW (i:=2) rfl 0x0) (λ_=>rfl)) (bR (oE (YB oN (aW (i:=2) rfl 0x0) (aI6 Z7 sO) (λ_ _=>rfl)) (aV (i:=4) sc.nd rfl 0x0)) (dI (J7 (Z0 (aGt (j0 (aW (i:=4) rfl 0x0) rfl) sO)) (dI (jK (UJ io wj Aa aA8 (aW (i:=2) rfl 0x0)))) (bR (j4 (aW (i:=4) rfl 0x0) (aGr (j0 (aW (i:=4) rfl 0x0) rfl) sO) rfl) (dI (jK (GQ (aW (i:=0) rfl 0x0) cl M T (hr.mono 0x4) hb .nil wY (aY (aW (i:=2) rfl 0x0) (aY (aW (i:=3) rfl 0x0) (aY (aQ (NK hK fw (aA (i:=4))) (NK hK fl (aA (i:=4)))) dC))))))))))) (dI (sS (YB oN (aW (i:=3) rfl 0x0) sO (λ_ _=>rfl)))))))
theorem aFz:cA aKk ["program","words","most"] (aL xH):=0xa
theorem JD[KFrag](hK:KFrag.K=K)(B:Bt mg)(ub:n_ P w K mg base 1 "words_of" 1 jJ)(q_PlainRun:aLp P w K mg base 2 "PlainRun" fX 2)(hC:nsIn K bj "PlainRun"=aa (aa (.ref C)))(hS:nsIn K bj "Spent"=aa (aa (.ref CS)))(cl:Cls K C)(nc:cQ K C "calls")(np:cQ K C "copies")(nq:cQ K C "drops")(M:Meth K C "value_of" fm)(T:mO P w K mg base (CX2 P w) 5 fm fdm psm (aCf CS))(hb:Binds K fdm psm [])(F:aR0 K "worth" "worth" xH fad fd T' its):mO P w K mg base (CX2 P w) 6 fad fd ["program","words","most"] (spZ dU 3):=by
 have sc:=aFz;have nd:=sc.nd;refine aRg F sc (λvs H Q E h=>aK7 h) λcdv A outer s H vs Q E hr h=>⟨aT0 K C CS fX jJ E,?_,aFt rfl hK hC hS cl nc np nq rfl h⟩
 have hu:=D_ hr;exact(bR (oE (aJt q_PlainRun hr 0x4 0x3 (aY (aW rfl 0x0) (aY (aW rfl 0x0) dC)) (hmono:=aRr)) (aV (i:=3) sc.nd rfl 0x0)) (bR (oE (GQ (aW (i:=3) rfl 0x0) cl M T (hr.mono 0x4) hb .nil wY (aY (aW (i:=1) rfl 0x0) dC)) (aV (i:=4) sc.nd rfl 0x0)) (dI (sS (aA1 (aY (lZ ub hr 0x4 0x3 (aB (aA (i:=4)) aM)) (aY (j0 (aW (i:=3) rfl 0x0) rfl) (aY (j0 (aW (i:=3) rfl 0x0) rfl) (aY (j0 (aW (i:=3) rfl 0x0) rfl) dC)))))))))
theorem PJ:cA S7 ["deck"] (aL p_):=0xa
theorem JF[KFrag](hK:KFrag.K=K)(B:Bt mg)(F:Fun K "_law_next" "_law_next" p_ fad fd)(hm:mg "_law_next"=aa (.ref fad)):J4 P w K mg base 1 "_law_next" 1 1 bD:=by
 have sc:=PJ;have nd:=sc.nd;refine wX 1 F hm (F.binds λ_ _ _ _ _ _ us hl=>by obtain⟨_,rfl⟩:=Mi.l1 hl;rfl) sc S5 0x4 0x4 λcdv A outer s H E hr=>?_
 have hu:=D_ hr;exact aG (bY (aQ aA aF)) (aG (bY (aQ aA aF)) (aG (aBq rfl rfl 0x0 aF (aR bU aA aF)) (aG (jZ (b7 aEn aA (bN (eQ hK) 0x3 B.len eU (aB aA aM)) (cF _)) (aX (R7 (aQ aA aA))) d9) (aG (jZ (b7 (kI hu) (bN (eQ hK) 0x3 B.len eU (aB aA aM)) aF (cF _)) (aX (R7 (aR bU (aR l_ (aR l_ aA aA) aF) aA))) d9) (aX (R7 (aR bU (aR dJ (aQ aA (aR b8 aA (bN (eQ hK) 0x3 B.len eU (aB aA aM)))) aF) (aR l_ aA aA))))))))
theorem JG:cA iV ["deck"] (aL iQ):=0xa
theorem CQ[KFrag](hK:KFrag.K=K)(B:Bt mg)(pb:J4 P w K mg base 1 "_law_next" 1 1 bD)(F:Fun K "_law_names" "_law_names" iQ fad fd)(hm:mg "_law_names"=aa (.ref fad)):J4 P w K mg base 2 "_law_names" 1 1 iR:=by
 have sc:=JG;have nd:=sc.nd;refine wX 1 F hm (F.binds λ_ _ _ _ _ _ us hl=>by obtain⟨_,rfl⟩:=Mi.l1 hl;rfl) sc N5 0x4 0x4 λcdv A outer s H E hr=>?_
 have hu:=D_ hr;exact aG (bY K8) (aG (mU rfl sc.nd rfl 0x0 (dO pb hr 0x4 0x3 rfl rfl 0x0 (jF))) (aG (bY (aQ (dG (aB aF (aB aF (aB aF (aB aF (aB aF (aB aF aM))))))) (aR b8 (aR dJ aA aF) aF))) (aG (bY (aR b8 (aR dJ aA aF) aF)) (aG (mU rfl sc.nd rfl 0x0 (dO pb hr 0x4 0x3 rfl rfl 0x0 (jF))) (aG (bY (aR b8 aA aF)) (aG (bY (aIx PySem.F.plainAttrs_str PySem.F.slot_str_join PySem.F.type_str_join aJ9 K8 (aB (iG (show cG iV (aL iQ) _ (["k"]:ae Str) from 0x9) rfl rfl rfl (kJ 0x3 B.range (aB aA aM)) (dD 14) (λ_=>aV (show((di (eN (["k"]:ae Str)) iV++(["k"]:ae Str)):ae Str).Nodup from 0x6) rfl 0x0) (λ_=>aQ aA (aR b8 (aR bU (aR dJ aA aF) (aR l_ aA (aR bU aA (aR b8 (aR dJ aA aF) aF)))) aF)) (λ_=>rfl)) aM) (λ_ _ _ _ _ h r=>aEo h r))) (aG (mU rfl sc.nd rfl 0x0 (VP b8 (dO pb hr 0x4 0x3 rfl rfl 0x0 (jF)) (aR bU aA aF))) (aG (jZ (b7 (kI hu) (aR b8 aA aF) aF (cF _)) (aX (bY (jT hK aA (fQ) (fU aF)))) d9) (aG (bY (dG aM)) (aG (oH eM rfl (kJ 0x3 B.range (aB aF aM)) (h_ rfl) (aV sc.nd rfl 0x0) (aG (bY (aR b8 (aR bU (aR l_ aA aA) aA) aF)) (aX (jZ (b7 (kI hu) (aR b8 aA aF) aF (cF _)) (aX (nA rfl rfl 0x0 (aR l_ (aQ aA (aR b8 (aR bU aA (aR b8 aA aF)) aF)) (aR bU aF (aR dJ aA aF))))) (aX (jZ (b7 (kI hu) (aR b8 aA aF) aF (cF _)) (aG (bY (aQ aA (aR b8 (aR bU aA (aR b8 aA aF)) aF))) (aG (bY (aQ aA (aR b8 (aR bU aA (aR dJ aA aF)) aF))) (aX (nA rfl rfl 0x0 (aR bU (aR bU (aR bU (jT hK aA (fQ) (fU aA)) aA) aA) (jT hK aA (fU aA) (fQ))))))) (aX (nA rfl rfl 0x0 (aR bU (aR bU (jT hK aA (fQ) (fU aA)) (aQ aA aA)) (jT hK aA (fU aA) (fQ))))))))))) (aG (jZ (PW.pt (RJ (b7 (EY hu) K8 aA 0x5) (DW (b7 (EY hu) K8 aA 0x5)))) (aX (wA (show cG iV (aL iQ) _ (["name"]:ae Str) from 0x9) rfl rfl rfl (cU aA) (dD 14) (λ_=>aV (show((di (eN (["name"]:ae Str)) iV++(["name"]:ae Str)):ae Str).Nodup from 0x6) rfl 0x0) (λ_=>aR bU aA K8) (λ_=>rfl) rfl sc.nd rfl 0x0 (gz rfl) 0x5)) d9) (aX (yO rfl rfl 0x0)))))))))))))
theorem TJ:cA fB ["deck","names"] (aL iB):=0xa
theorem PK[KFrag](hK:KFrag.K=K)(B:Bt mg)(pb:J4 P w K mg base 1 "_law_next" 1 1 bD)(F:Fun K "_law_sig" "_law_sig" iB fad fd)(hm:mg "_law_sig"=aa (.ref fad)):J4 P w K mg base 2 "_law_sig" 2 1 lK:=by
 have sc:=TJ;have nd:=sc.nd;refine wX 1 F hm (F.binds λ_ _ _ _ _ _ us hl=>by obtain⟨_,_,rfl⟩:=Mi.l2 hl;rfl) sc ZG 0x4 0x4 λcdv A outer s H E hr=>?_
 have hu:=D_ hr
 exact aG (mU rfl sc.nd rfl 0x0 (dO pb hr 0x4 0x3 rfl rfl 0x0 (jF))) (aG (bY (aR bU aF (aR b8 aA aF))) (aG (bY (jT hK aA (fQ) (fU aA))) (aG (wA (show cG fB (aL iB) _ (["k"]:ae Str) from 0x9) rfl rfl rfl (kJ 0x3 B.range (aB aA aM)) (dD 13) (λ_=>aV (show((di (eN (["k"]:ae Str)) fB++(["k"]:ae Str)):ae Str).Nodup from 0x6) rfl 0x0) (λ_=>dN (aB (aQ aA (aR bU aF aA)) (aB (aQ aA aA) (aB (dN aM) aM)))) (λ_=>rfl) rfl sc.nd rfl 0x0 (gz rfl) 0x5) (aG (bY (NB 0x3 0x3 B.dict (iG (show cG fB (aL iB) _ (["kind"]:ae Str) from 0x9) rfl rfl rfl (cU aA) (dD 13) (λ_=>aV (show((di (eN (["kind"]:ae Str)) fB++(["kind"]:ae Str)):ae Str).Nodup from 0x6) rfl 0x0) (λ_=>dN (aB aA (aB aF aM))) (λ_=>rfl)))) (aG (aR5 (PW.pt (aNs (b7 aJ8 aA aF (cF _)) (aJr (aJl (kI hu) (VP b8 (dO pb hr 0x4 0x3 rfl rfl 0x0 (jF)) aF) aF (cF _))))) (aG (bY (cX fL 0x3 B.tuple d_ (aB (jT hK aA (fQ) (fU (aR bU aF (aR b8 (aR dJ aA aF) (aR oG aA aF))))) aM))) (aG (aBq rfl rfl 0x0 (aAo LC aF) (dN (aB (aQ aA (aR bU aF aA)) (aB (aQ aA (aAo LC aF)) (aB aA aM))))) (aX (VF hu rfl rfl 0x0 (aQ aA (aAo LC aF)) (aR bU aF (bN (eQ hK) 0x3 B.len eU (aB aA aM))))))) d9) (aG (oH eM rfl (kJ 0x3 B.range (aB (aR b8 (aR dJ aA aF) aF) aM)) (h_ rfl) (aV sc.nd rfl 0x0) (aG (mU rfl sc.nd rfl 0x0 (dO pb hr 0x4 0x3 rfl rfl 0x0 (jF))) (aG (wA (show cG fB (aL iB) _ (["j"]:ae Str) from 0x9) rfl rfl rfl (kJ 0x3 B.range (aB (aR b8 (aR dJ aA aF) aF) aM)) (dD 13) (λ_=>aV (show((di (eN (["j"]:ae Str)) fB++(["j"]:ae Str)):ae Str).Nodup from 0x6) rfl 0x0) (λ_=>aQ aA (aR b8 (aR dJ aA (aQ (dG (aB aF (aB aF (aB aF aM)))) aA)) aA)) (λ_=>rfl) rfl sc.nd rfl 0x0 (gz rfl) 0x5) (aX (nA rfl rfl 0x0 (dN (aB (aQ aA (aR bU (aR bU aF aA) aA)) (aB (aQ aA (aR b8 aA aA)) (aB (cX fL 0x3 B.tuple d_ (aB aA aM)) aM))))))))) (aG (nA rfl rfl 0x0 (dN (aB (aQ aA aF) (aB (aQ aA aF) (aB (dN (aB (aQ aA aF) (aB (aQ aA aF) aM))) aM))))) (aG (bY (aR b8 (aR dJ aA aF) (bN (eQ hK) 0x3 B.len eU (aB aA aM)))) (aG (bY (dG aM)) (aG (aNu eM rfl (aNt 0x3 B.range (aNj bU aF (VP b8 (dO pb hr 0x4 0x3 rfl rfl 0x0 (jF)) aF))) (h_ rfl) (aV sc.nd rfl 0x0) (aG (mU rfl sc.nd rfl 0x0 (dO pb hr 0x4 0x3 rfl rfl 0x0 (jF))) (aG (wA (show cG fB (aL iB) _ (["j"]:ae Str) from 0x9) rfl rfl rfl (kJ 0x3 B.range (aB (aR b8 (aR dJ aA aF) aF) aM)) (dD 13) (λ_=>aV (show((di (eN (["j"]:ae Str)) fB++(["j"]:ae Str)):ae Str).Nodup from 0x6) rfl 0x0) (λ_=>aQ aA (aR b8 (aR dJ aA (aQ (dG (aB aF (aB aF aM))) aA)) aA)) (λ_=>rfl) rfl sc.nd rfl 0x0 (gz rfl) 0x5) (aX (nA rfl rfl 0x0 (dN (aB (aQ aA (aR bU aF aA)) (aB (aQ aA (aR b8 aA aA)) (aB (aQ aA (aR b8 (aR dJ aA aF) aA)) (aB (cX fL 0x3 B.tuple d_ (aB aA aM)) aM)))))))))) (aX (aF7 (aBs rfl rfl 0x0 (aNx (aR bU (jT hK aA (fU aA) (fQ)) (jT hK aA (fQ) (fU aA))) (aBs rfl rfl 0x0 (aBs rfl rfl 0x0 (aNw)))))))))))))))))
theorem PL:cA cZ ["deck","known","makers","wanted","most","least"] (aL fV):=0xa
theorem JH[KFrag](hK:KFrag.K=K)(B:Bt mg)(pb:J4 P w K mg base 1 "_law_next" 1 1 bD)(F:Fun K "_law_goal" "_law_goal" fV fad fd)(hm:mg "_law_goal"=aa (.ref fad)):J4 P w K mg base 2 "_law_goal" 6 1 jV:=by
 have sc:=PL;have nd:=sc.nd;refine wX 1 F hm (F.binds λ_ _ _ _ _ _ us hl=>by obtain⟨_,_,_,_,_,_,rfl⟩:=Mi.l6 hl;rfl) sc S6 0x4 0x4 λcdv A outer s H E hr=>?_
 have hu:=D_ hr
 exact aG (bY (dG aM)) (aG (bY (dG (aB (HX aA) aM))) (aG (bY (bN (SX 0x3) 0x3 B.max aAu (aB aF (aB (aR oG aA (aQ aA aA)) aM)))) (aG (aB7 eM (b7 (CJ hu) aA (dG aM) (cF _)) (aG (R4 rfl rfl 0x0 sc.nd rfl 0x0 rfl) (aG (bY (aR oG (aR bU aA (aQ aA aA)) aF)) (aG (mU rfl sc.nd rfl 0x0 (dO pb hr 0x4 0x3 rfl rfl 0x0 (jF))) (aG (lD (show cG cZ (aL fV) _ (["row"]:ae Str) from 0x9) rfl rfl rfl (cU aA) (dD 17) (λ_=>aV (show((di (eN (["row"]:ae Str)) cZ++(["row"]:ae Str)):ae Str).Nodup from 0x6) rfl 0x0) (λ_=>b7 (kI hu) (aQ aA aF) aA (cF _)) (λ_=>aA) (λ_=>rfl) rfl sc.nd rfl 0x0 (gz rfl) 0x5) (aG (lD (show cG cZ (aL fV) _ (["row"]:ae Str) from 0x9) rfl rfl rfl (cU aA) (dD 17) (λ_=>aV (show((di (eN (["row"]:ae Str)) cZ++(["row"]:ae Str)):ae Str).Nodup from 0x6) rfl 0x0) (λ_=>PW.pt (xX (b7 (kI hu) (aQ aA aF) aA (cF _)) (oX (b7 aN3 (bN (MT 0x3) 0x3 B.sum M3 (aB (iG (show cG (di (eN (["row"]:ae Str)) cZ++(["row"]:ae Str)) _ _ (["x"]:ae Str) from ⟨rfl,by decide +kernel,by decide +kernel,d5 0x3,by decide +kernel,by decide +kernel,by decide +kernel⟩) rfl rfl rfl (cU (aQ aA aF)) (dD 18) (λ_=>aV (show((di (eN (["x"]:ae Str)) (di (eN (["row"]:ae Str)) cZ++(["row"]:ae Str))++(["x"]:ae Str)):ae Str).Nodup from 0x6) rfl 0x0) (λ_=>aQ aA aA) (λ_=>rfl)) aM)) aA (cF _))))) (λ_=>aA) (λ_=>rfl) rfl sc.nd rfl 0x0 (gz rfl) 0x5) (aG (lD (show cG cZ (aL fV) _ (["row"]:ae Str) from 0x9) rfl rfl rfl (cU aA) (dD 17) (λ_=>aV (show((di (eN (["row"]:ae Str)) cZ++(["row"]:ae Str)):ae Str).Nodup from 0x6) rfl 0x0) (λ_=>b7 (CJ hu) (aQ aA aF) (dN aM) (cF _)) (λ_=>aA) (λ_=>rfl) rfl sc.nd rfl 0x0 (gz rfl) 0x5) (aG (bY (aR bU aA aA)) (aG (jZ (PW.pt (xX (b7 (CJ hu) aA (dG aM) (cF _)) (oX (PW.pt (RJ (b7 (kI hu) (aR b8 aA aF) aF (cF _)) (DW (PW.pt (xX (b7 aJ8 (aR b8 aA aF) aF (cF _)) (oX (b7 (kI hu) aA (dG aM) (cF _))))))))))) (aX (aJ3 rfl rfl sc.nd rfl 0x0 rfl 0x0)) (aX (jZ (PW.pt (xX (b7 (CJ hu) aA (dG aM) (cF _)) (oX (b7 aEn (aR b8 aA aF) aF (cF _))))) (aX (aJ3 rfl rfl sc.nd rfl 0x0 rfl 0x0)) d9))) (aG (bY (aQ aA (aR b8 (aR dJ aA aF) (bN (eQ hK) 0x3 B.len eU (aB aA aM))))) (aG (nA rfl rfl 0x0 (aQ aA aF)) (aG (bY (aR oG aA (bN (MT 0x3) 0x3 B.sum M3 (aB (iG (show cG cZ (aL fV) _ (["x"]:ae Str) from 0x9) rfl rfl rfl (cU (aQ aA aF)) (dD 17) (λ_=>aV (show((di (eN (["x"]:ae Str)) cZ++(["x"]:ae Str)):ae Str).Nodup from 0x6) rfl 0x0) (λ_=>aQ aA aA) (λ_=>rfl)) aM)))) (aX (BK hK rfl rfl 0x0 (R_ 0x3 0x3 B.list 0x3 B.reversed (aQ aA aF)))))))))))))))) (aX (yO rfl rfl 0x0)))))
theorem JK:cA iY ["deck","makers","takers","names","called","least"] (aL iT):=0xa
theorem CT[KFrag](hK:KFrag.K=K)(B:Bt mg)(ud:J4 P w K mg base 2 "_law_goal" 6 1 jV)(F:Fun K "_law_rules" "_law_rules" iT fad fd)(hm:mg "_law_rules"=aa (.ref fad)):J4 P w K mg base 3 "_law_rules" 6 1 j8:=by
 have sc:=JK;have nd:=sc.nd;refine wX 1 F hm (F.binds λ_ _ _ _ _ _ us hl=>by obtain⟨_,_,_,_,_,_,rfl⟩:=Mi.l6 hl;rfl) sc N7 0x4 0x4 λcdv A outer s H E hr=>?_
 have hu:=D_ hr;exact aG (bY (dG aM)) (aG (RV rfl eM rfl rfl 0x0 (h_ rfl) (aV sc.nd rfl 0x0) (aX (RV rfl eM rfl rfl 0x0 (h_ rfl) (aV sc.nd rfl 0x0) (aX (jZ (b7 (kI hu) (aQ aA aF) (aQ aA aF) (cF _)) (aG (bY (aR R3 (aQ aA aF) (aQ aA aF))) (aG (bY (aR bU aF (aR b8 (bN (eQ hK) 0x3 B.len eU (aB aA aM)) aF))) (aG (bY (iG (show cG iY (aL iT) _ (["j"]:ae Str) from 0x9) rfl rfl rfl (kJ 0x3 B.range (aB (bN (eQ hK) 0x3 B.len eU (aB aA aM)) aM)) (dD 15) (λ_=>aV (show((di (eN (["j"]:ae Str)) iY++(["j"]:ae Str)):ae Str).Nodup from 0x6) rfl 0x0) (λ_=>aQ aA (aR bU aF (aR b8 (aR bU (bN (eQ hK) 0x3 B.len eU (aB aA aM)) (aR l_ aA aA)) aF))) (λ_=>rfl))) (aG (wA (show cG iY (aL iT) _ (["j"]:ae Str) from 0x9) rfl rfl rfl (kJ 0x3 B.range (aB (bN (eQ hK) 0x3 B.len eU (aB aA aM)) aM)) (dD 15) (λ_=>aV (show((di (eN (["j"]:ae Str)) iY++(["j"]:ae Str)):ae Str).Nodup from 0x6) rfl 0x0) (λ_=>dN (aB (aQ aA aA) (aB (aQ aA aA) (aB (dN aM) aM)))) (λ_=>rfl) rfl sc.nd rfl 0x0 (gz rfl) 0x5) (aG (bY aF) (aG (jZ (b7 (kI hu) (dN (aB (aQ aA aF) (aB (aQ aA aF) aM))) (dN (aB (aQ aA aF) (aB (aQ aA aF) aM))) (cF _)) (aX (bY (aQ aA aF))) d9) (aG (mU rfl sc.nd rfl 0x0 (dO ud hr 0x4 0x3 rfl rfl 0x0 (j7 rfl rfl 0x0 (j7 rfl rfl 0x0 (aNn (aQ aA aF) (j7 rfl rfl 0x0 (j7 rfl rfl 0x0 (jF)))))))) (aX (nA rfl rfl 0x0 (dN (aB (aQ aA aF) (aB (aQ aA aF) (aB (cX fL 0x3 B.tuple d_ (aB aA aM)) (aB (cX fL 0x3 B.tuple d_ (aB aA aM)) aM)))))))))))))) d9))))) (aX (yO rfl rfl 0x0)))
theorem TQ:cA xM ["rule","values"] (aL n6):=0xa
theorem PN[KFrag](hK:KFrag.K=K)(B:Bt mg)(F:Fun K "_law_due" "_law_due" n6 fad fd)(hm:mg "_law_due"=aa (.ref fad)):n_ P w K mg base 1 "_law_due" 2 lL:=by
 have sc:=TQ;have nd:=sc.nd;refine zT F hm (F.binds λ_ _ _ _ _ _ us hl=>by obtain⟨_,_,rfl⟩:=Mi.l2 hl;rfl) sc ZJ 0x4 0x4 λcdv A outer s H E hr=>?_
 have hu:=D_ hr;exact aG (bY (dG aM)) (aG (oH eM rfl (cU (aQ aA aF)) (h_ rfl) (aV sc.nd rfl 0x0) (aX (jZ (b7 (EY hu) aA (aQ aA aF) 0x5) (aX (BK hK rfl rfl 0x0 (aQ aA (aIx Dk Ac PySem.F.type_tuple_index (aBf hu) (aQ aA aF) (aB aA aM) (λ_ _ _ _ _ h r=>aBg h r))))) (aX (nA rfl rfl 0x0 aA))))) (aG (bY aF) (aG (bY aF) (aG (oH eM rfl (kJ 0x3 B.range (aB (bN (eQ hK) 0x3 B.len eU (aB aA aM)) aM)) (h_ rfl) (aV sc.nd rfl 0x0) (aG (bY (bN (eQ hK) 0x3 B.len eU (aB (DY (show cG xM (aL n6) _ (["word"]:ae Str) from 0x9) rfl rfl rfl (cU (aQ aA aF)) (dD 8) (λ_=>aV (show((di (eN (["word"]:ae Str)) xM++(["word"]:ae Str)):ae Str).Nodup from 0x6) rfl 0x0) (λ_=>b7 (kI hu) aA (aQ (aQ aA aF) aA) (cF _)) (λ_=>aA) (λ_=>rfl)) aM))) (aG (bY (aR bU aA (aR l_ (bN (SX 0x3) 0x3 B.max aAu (aB aF (aB (aR oG aA aF) aM))) (bN (eQ hK) 0x3 B.len eU (aB (aQ aA aA) aM))))) (aX (bY (aR bU aA (aR l_ (cX aBc 0x3 B.int aAw (aB (U4 (kI hu) aA aF (cF _)) aM)) (bN (eQ hK) 0x3 B.len eU (aB (aQ aA aA) aM))))))))) (aFx rfl (aX (j6 (dG (aB (HX aA) (aB aF (aB (HX aA) (aB (HX aA) aM))))))))))))
theorem JL:cA dH ["deck","heads","wanted","most","full","least"] (aL fY):=0xa
theorem CV[KFrag](hK:KFrag.K=K)(B:Bt mg)(pb:J4 P w K mg base 1 "_law_next" 1 1 bD)(F:Fun K "_law_words" "_law_words" fY fad fd)(hm:mg "_law_words"=aa (.ref fad)):J4 P w K mg base 2 "_law_words" 6 1 j9:=by
 have sc:=JL;have nd:=sc.nd;refine wX 1 F hm (F.binds λ_ _ _ _ _ _ us hl=>by obtain⟨_,_,_,_,_,_,rfl⟩:=Mi.l6 hl;rfl) sc N8 0x4 0x4 λcdv A outer s H E hr=>?_
 have hu:=D_ hr
 exact aG (bY (dG aM)) (aG (bY (dG (aB (HX aA) aM))) (aG (bY (bN (SX 0x3) 0x3 B.max aAu (aB aF (aB (aR oG aA (aQ aA aA)) aM)))) (aG (aB7 eM (b7 (CJ hu) aA (dG aM) (cF _)) (aG (R4 rfl rfl 0x0 sc.nd rfl 0x0 rfl) (aG (bY (aR oG (aR bU aA (aQ aA aA)) aF)) (aG (lD (show cG dH (aL fY) _ (["row"]:ae Str) from 0x9) rfl rfl rfl (cU aA) (dD 14) (λ_=>aV (show((di (eN (["row"]:ae Str)) dH++(["row"]:ae Str)):ae Str).Nodup from 0x6) rfl 0x0) (λ_=>PW.pt (xX (b7 (kI hu) (aQ aA aF) aA (cF _)) (oX (b7 aN3 (bN (MT 0x3) 0x3 B.sum M3 (aB (iG (show cG (di (eN (["row"]:ae Str)) dH++(["row"]:ae Str)) _ _ (["x"]:ae Str) from ⟨rfl,by decide +kernel,by decide +kernel,d5 0x3,by decide +kernel,by decide +kernel,by decide +kernel⟩) rfl rfl rfl (cU (aQ aA aF)) (dD 15) (λ_=>aV (show((di (eN (["x"]:ae Str)) (di (eN (["row"]:ae Str)) dH++(["row"]:ae Str))++(["x"]:ae Str)):ae Str).Nodup from 0x6) rfl 0x0) (λ_=>aQ aA aA) (λ_=>rfl)) aM)) aA (cF _))))) (λ_=>aA) (λ_=>rfl) rfl sc.nd rfl 0x0 (gz rfl) 0x5) (aG (lD (show cG dH (aL fY) _ (["row"]:ae Str) from 0x9) rfl rfl rfl (cU aA) (dD 14) (λ_=>aV (show((di (eN (["row"]:ae Str)) dH++(["row"]:ae Str)):ae Str).Nodup from 0x6) rfl 0x0) (λ_=>b7 (EY hu) aA (aQ aA aF) 0x5) (λ_=>aA) (λ_=>rfl) rfl sc.nd rfl 0x0 (gz rfl) 0x5) (aG (jZ (PW.pt (xX (oF aA) (oX (b7 (CJ hu) aA (dG aM) (cF _))))) (aX (aJ3 rfl rfl sc.nd rfl 0x0 rfl 0x0)) d9) (aG (mU rfl sc.nd rfl 0x0 (aNl (aMv hK hu) rfl rfl 0x0 (VP b8 (dO pb hr 0x4 0x3 rfl rfl 0x0 (jF)) (bN (eQ hK) 0x3 B.len eU (aB aA aM))) (λ_ _=>rfl))) (aG (nA rfl rfl 0x0 (aQ aA aF)) (aG (bY (aR oG aA (bN (MT 0x3) 0x3 B.sum M3 (aB (iG (show cG dH (aL fY) _ (["x"]:ae Str) from 0x9) rfl rfl rfl (cU (aQ aA aF)) (dD 14) (λ_=>aV (show((di (eN (["x"]:ae Str)) dH++(["x"]:ae Str)):ae Str).Nodup from 0x6) rfl 0x0) (λ_=>aQ aA aA) (λ_=>rfl)) aM)))) (aX (BK hK rfl rfl 0x0 (R_ 0x3 0x3 B.list 0x3 B.reversed (aQ aA aF))))))))))))) (aX (yO rfl rfl 0x0)))))
theorem CW:cA JB ["value","makers"] (aL mH):=0xa
theorem BP[KFrag](hK:KFrag.K=K)(B:Bt mg)(F:Fun K "_law_behind" "_law_behind" mH fad fd)(hm:mg "_law_behind"=aa (.ref fad)):n_ P w K mg base 1 "_law_behind" 2 gM:=by
 have sc:=CW;have nd:=sc.nd;refine zT F hm (F.binds λ_ _ _ _ _ _ us hl=>by obtain⟨_,_,rfl⟩:=Mi.l2 hl;rfl) sc I_ 0x4 0x4 λcdv A outer s H E hr=>?_
 have hu:=D_ hr;exact aG (bY (U5)) (aG (RV rfl eM rfl rfl 0x0 (h_ rfl) (aV sc.nd rfl 0x0) (aX (VF hu rfl rfl 0x0 (aQ aA aF) (bN (eQ hK) 0x3 B.len eU (aB (aQ aA aF) aM))))) (aG (bY (dG aM)) (aG (bY aF) (aKh rfl rfl 0x4 0x4 0x4 eM rfl sc.nd rfl 0x0 rfl 0x0 rfl 0x0 0x0 (cU (jT hK aA (fU aF) (fQ))) (b7 (kI hu) aA aF (cF _)) aF (aAo LC aF) (λ_=>rfl) (aR bU (aR oG aA aF) (aQ aA aA))))))
theorem JM:cA O4 ["caught"] (aL nJ):=0xa
theorem CZ[KFrag](hK:KFrag.K=K)(B:Bt mg)(ue:mg "NoTerm"=aa (.ref qi))(uf:mg "NoRule"=aa (.ref qj))(ug:mg "NoPair"=aa (.ref qk))(uh:mg "NoNet"=aa (.ref ql))(ui:mg "NoName"=aa (.ref qm))(uj:mg "NoEnd"=aa (.ref qo))(ul:mg "Lacking"=aa (.ref qp))(um:mg "BadRow"=aa (.ref qr))(uo:mg "BadKind"=aa (.ref qt))(uq:mg "Unfit"=aa (.ref qu))(ur:mg "Uneven"=aa (.ref qw))(ut:mg "TwoRules"=aa (.ref qx))(uv:mg "Twice"=aa (.ref qy))(uy:mg "Stuck"=aa (.ref qz))(uz:mg "NoValue"=aa (.ref qA))(uA:mg "Spent"=aa (.ref qB))(uB:mg "ValueError"=aj)(y1:aLq (λc b=>∃C,nsIn K bj c=aa (aa (.ref C))/\XC K C/\nN K (.ref C) [.ref qt,.ref qr,.ref qp,.ref qo,.ref qm,.ref ql,.ref qk,.ref qj,.ref qi]=aa b) [("Spent",ak)])(y2:aLq (λc b=>∃C,nsIn K bj c=aa (aa (.ref C))/\XC K C/\nN K (.ref C) [.ref qA,.ref qz,.ref qy,.ref qx,.ref qw,.ref qu]=aa b) [("Spent",ak)])(y3:aLq (λc b=>∃C,nsIn K bj c=aa (aa (.ref C))/\XC K C/\iz K (.ref C) (.ref qB)=aa b) [("Spent",ag)]/\iz K (.type "NoneType") (.ref qB)=aa ak)(y4:aLq (λc b=>∃C,nsIn K bj c=aa (aa (.ref C))/\XC K C/\iz K (.ref C) (.type "ValueError")=aa b) [("Spent",ag)])(F:Fun K "_law_spent" "_law_spent" nJ fad fd)(hm:mg "_law_spent"=aa (.ref fad)):n_ P w K mg base 1 "_law_spent" 1 iU:=by
 have sc:=JM;have nd:=sc.nd;refine zT F hm (F.binds λ_ _ _ _ _ _ us hl=>by obtain⟨_,rfl⟩:=Mi.l1 hl;rfl) sc N_ 0x4 0x4 λcdv A outer s H E hr=>?_
 have hu:=D_ hr;exact aG (jZ (oF (aC2 (cs:=[qt,qr,qp,qo,qm,ql,qk,qj,qi]) hK (A_ y1) (show 9<=bo from by decide) 0x3 B.isi rfl 0x0 (PA.imp (aY (fD (v:=.ref qt) 0x3 uo rfl) (aY (fD (v:=.ref qr) 0x3 um rfl) (aY (fD (v:=.ref qp) 0x3 ul rfl) (aY (fD (v:=.ref qo) 0x3 uj rfl) (aY (fD (v:=.ref qm) 0x3 ui rfl) (aY (fD (v:=.ref ql) 0x3 uh rfl) (aY (fD (v:=.ref qk) 0x3 ug rfl) (aY (fD (v:=.ref qj) 0x3 uf rfl) (aY (fD (v:=.ref qi) 0x3 ue rfl) (dC)))))))))) λ_ _ _ h=>h))) (aX (j6 CG)) d9) (aG (jZ (oF (aC2 (i:=0) (cs:=[qA,qz,qy,qx,qw,qu]) hK (A_ y2) (show 6<=bo from by decide) 0x3 B.isi rfl 0x0 (PA.imp (aY (fD (v:=.ref qA) 0x3 uz rfl) (aY (fD (v:=.ref qz) 0x3 uy rfl) (aY (fD (v:=.ref qy) 0x3 uv rfl) (aY (fD (v:=.ref qx) 0x3 ut rfl) (aY (fD (v:=.ref qw) 0x3 ur rfl) (aY (fD (v:=.ref qu) 0x3 uq rfl) (dC))))))) λ_ _ _ h=>h))) (aX (j6 CG)) d9) (aX (j6 (aH3 (aFu (i:=0) (v:=.ref qB) hK (A_ y3.1) y3.2 (λu r=>r) 0x3 B.isi rfl 0x0 (fD 0x3 uA rfl) rfl rfl) (aH1 (aJw (i:=0) (v:=.ty "ValueError") hK (A_ y4) (λu r=>r) 0x3 B.isi rfl 0x0 (ZZ 0x3 uB HJ rfl) rfl rfl))))))
theorem JN:cA O5 ["found","due"] (aL nM):=0xa
theorem C_[KFrag](hK:KFrag.K=K)(B:Bt mg)(F:Fun K "_law_right" "_law_right" nM fad fd)(hm:mg "_law_right"=aa (.ref fad)):n_ P w K mg base 1 "_law_right" 2 fZ:=by
 have sc:=JN;have nd:=sc.nd;refine zT F hm (F.binds λ_ _ _ _ _ _ us hl=>by obtain⟨_,_,rfl⟩:=Mi.l2 hl;rfl) sc OJ 0x4 0x4 λcdv A outer s H E hr=>?_
 have hu:=D_ hr;exact aG (jZ (PW.pt (RJ (K9 (oF (LR .tuple aA 0x3 B.isi gJ 0x3 B.tuple d_))) (DW (b7 (CJ hu) (bN (eQ hK) 0x3 B.len eU (aB aA aM)) aF (cF _))))) (aX (j6 CG)) d9) (aG (jZ (PW.pt (RJ (K9 (oF (LR .tuple (aQ aA aF) 0x3 B.isi gJ 0x3 B.tuple d_))) (DW (b7 (CJ hu) (bN (eQ hK) 0x3 B.len eU (aB (aQ aA aF) aM)) (bN (eQ hK) 0x3 B.len eU (aB (aQ aA aF) aM)) (cF _))))) (aX (j6 CG)) d9) (aG (oH eM rfl (kJ 0x3 B.range (aB (bN (eQ hK) 0x3 B.len eU (aB (aQ aA aF) aM)) aM)) (h_ rfl) (aV sc.nd rfl 0x0) (aX (jZ (PW.pt (RJ (K9 (oF (LR .str (aQ (aQ aA aF) aA) 0x3 B.isi gJ 0x3 B.str aN2))) (DW (b7 (CJ hu) (aQ (aQ aA aF) aA) (aQ (aQ aA aF) aA) (cF _))))) (aX (j6 CG)) d9))) (aG (oH eM rfl (cU (dG (aB aF (aB aF (aB aF aM))))) (h_ rfl) (aV sc.nd rfl 0x0) (aX (jZ (PW.pt (RJ (K9 (oF (LR .int (aQ aA aA) 0x3 B.isi gJ 0x3 B.int aAw))) (RJ (oF (LR .bool (aQ aA aA) 0x3 B.isi gJ 0x3 B.bool aJ6)) (DW (b7 (CJ hu) (aQ aA aA) (aQ aA aA) (cF _)))))) (aX (j6 CG)) d9))) (aX (j6 CG)))))
theorem JP:cA O6 ["program","words","due","bound"] (aL nP):=0xa
theorem DG[KFrag](hK:KFrag.K=K)(B:Bt mg)(uC:n_ P w K mg base 1 "_law_spent" 1 iU)(uD:n_ P w K mg base 1 "_law_right" 2 fZ)(qC:aFh P w K mg base 6 "worth" 3 dU)(zd_worth:aOf P w K mg base 6 "worth" 3 dU [.int 400])(uE:mg "MillError"=aa (.ref uF))(y1:aRb (λc=>∃C,nsIn K bj c=aa (aa (.ref C))/\xC K (.ref C) (.ref uF)=aa ag) ["Spent"])(F:Fun K "_law_asked" "_law_asked" nP fad fd)(hm:mg "_law_asked"=aa (.ref fad)):n_ P w K mg base 7 "_law_asked" 4 j_:=by
 have sc:=JP;have nd:=sc.nd;refine zT F hm (F.binds λ_ _ _ _ _ _ us hl=>by obtain⟨_,_,_,_,rfl⟩:=Mi.l4 hl;rfl) sc O3 0x4 0x4 λcdv A outer s H E hr=>?_
 have hu:=D_ hr;exact aG (bY aAn) (aG (bY aAn) (aG (aK9 hK rfl rfl (aRh (b7 aEn aA aF (cF _)) (aHj (o:=ag) (i:=4) zd_worth hr 0x4 0x3 (aB (aA (i:=0)) (aB (aA (i:=1)) aM)) rfl sc.nd rfl 0x0 (.inl rfl)) (aHj (o:=ag) (i:=4) qC.g hr 0x4 0x3 (aB (aA (i:=0)) (aB (aA (i:=1)) (aB (aA (i:=3)) aM))) rfl sc.nd rfl 0x0 (.inl rfl))) 0x3 uE (aC3 y1) sc.nd rfl rfl rfl 0x0 (.inl rfl) rfl rfl 0x4) (aG (jZ (b7 aJ8 (aR bU (aR bU (aQ (aA (i:=2)) aF) (aQ (aA (i:=2)) aF)) (aQ (aA (i:=2)) aF)) (aQ (dG (aB (HX (aA (i:=3))) (aB aF aM))) (cX aBc 0x3 B.int aAw (aB (U4 aEn (aA (i:=3)) aF (cF _)) aM))) (cF _)) (aX (j6 (lZ uC hr 0x4 0x3 (aB (aA (i:=5)) aM)))) d9) (aX (j6 (aH3 (U4 aMt (aA (i:=5)) aAn (cF _)) (aH1 (lZ uD hr 0x4 0x3 (aB (aA (i:=4)) (aB (aA (i:=2)) aM))))))))))
theorem aOm:cA aKl ["script"] (aL CP):=0xa
theorem aOn[KFrag](hK:KFrag.K=K)(B:Bt mg)(pb:J4 P w K mg base 1 "_law_next" 1 1 bD)(uG:J4 P w K mg base 2 "_law_names" 1 1 iR)(uH:J4 P w K mg base 2 "_law_sig" 2 1 lK)(uI:J4 P w K mg base 2 "_law_words" 6 1 j9)(uJ:J4 P w K mg base 3 "_law_rules" 6 1 j8)(uK:n_ P w K mg base 1 "_law_behind" 2 gM)(uL:n_ P w K mg base 1 "_law_due" 2 lL)(uM:n_ P w K mg base 7 "_law_asked" 4 j_)(F:Fun K "law" "law" CP fad fd):mO P w K mg base CX0 8 fad fd ["script"] (spD aCh 1):=by
 have sc:=aOm;have nd:=sc.nd;refine aN0 F sc o_law 0x4 0x4 λcdv A outer s H E hr=>?_
 have hu:=D_ hr
 exact aG (bY (aNp (dG (aB (jT hK aA (fQ) (fU aF)) (aB aF aM))))) (aG (mU rfl sc.nd rfl 0x0 (dO pb hr 0x4 0x3 rfl rfl 0x0 (jF))) (aG (mU rfl sc.nd rfl 0x0 (dO uG hr 0x4 0x3 rfl rfl 0x0 (jF))) (aG (aNy 0x4 (dO uH hr 0x4 0x3 rfl rfl 0x0 (j7 rfl rfl 0x0 (jF))) (aJs rfl (eY (aV sc.nd rfl 0x0) (eY (aV sc.nd rfl 0x0) (eY (aV sc.nd rfl 0x0) (eY (aV sc.nd rfl 0x0) (GP))))))) (aG (bY (U4 (kI hu) (aR b8 aA aF) aF (cF _))) (aG (bY (aQ aA (aR b8 (aR dJ aA aF) (bN (eQ hK) 0x3 B.len eU (aB aA aM))))) (aG (bY (aQ (dG (aB aF (aB aF (aB aF aM)))) (aR b8 (aR dJ aA aF) aF))) (aG (bY (aQ (dG (aB aF (aB aF (aB aF aM)))) (aR b8 (aR dJ aA aF) aF))) (aG (jZ (b7 (kI hu) aA aF (cF _)) (aX (bY (bN (aKi 0x3) 0x3 B.min aN1 (aB aF (aB aA aM))))) (aX (jZ (PW.pt (xX (b7 (kI hu) aA aF (cF _)) (xX (b7 (kI hu) aA aF (cF _)) (oX (b7 (kI hu) (aQ aA aF) (dN aM) (cF _)))))) (aX (bY aF)) d9))) (aG (bY (dG aM)) (aG (oH eM rfl (cU (aR R3 (dN (aB (aQ aA aF) aM)) (aQ aA aF))) (h_ rfl) (aV sc.nd rfl 0x0) (aX (aKc rfl rfl 0x0 (aRm (dO uI hr 0x4 0x3 rfl rfl 0x0 (j7 rfl rfl 0x0 (j7 rfl rfl 0x0 (j7 rfl rfl 0x0 (j7 rfl rfl 0x0 (j7 rfl rfl 0x0 (jF))))))))))) (aG (mU rfl sc.nd rfl 0x0 (dO uJ hr 0x4 0x3 rfl rfl 0x0 (j7 rfl rfl 0x0 (j7 rfl rfl 0x0 (j7 rfl rfl 0x0 (aNn (dN (aB (aQ aA aF) (aB (aQ (aQ aA aF) aF) (aB aA aM)))) (j7 rfl rfl 0x0 (jF)))))))) (aG (bY (aQ (DY (show cG aKl (aL CP) _ (["row"]:ae Str) from 0x9) rfl rfl rfl (cU aA) (dD 23) (λ_=>aV (show((di (eN (["row"]:ae Str)) aKl++(["row"]:ae Str)):ae Str).Nodup from 0x6) rfl 0x0) (λ_=>b7 (kI hu) (dN (aB (aQ aA aF) (aB (aQ aA aF) aM))) (dN (aB (aQ aA aF) (aB (aQ (aQ aA aF) aF) aM))) (cF _)) (λ_=>aA) (λ_=>rfl)) aF)) (aG (bY (lZ uL hr 0x4 0x3 (aB aA (aB (aR bU (lZ uK hr 0x4 0x3 (aB (aQ aA aF) (aB aA aM))) (jT hK aA (fU aF) (fQ))) aM)))) (aG (bY (dG (aB (HX (aQ aA aF)) aM))) (aG (aJp rfl eM rfl rfl 0x0 (h_ rfl) (aV sc.nd rfl 0x0) (aX (BK hK rfl rfl 0x0 aA))) (aG (bY (aR b8 (aR dJ aA aF) (bN (eQ hK) 0x3 B.len eU (aB aA aM)))) (aG (bY (dN (aB (cX fL 0x3 B.tuple d_ (aB aA aM)) (aB (cX fL 0x3 B.tuple d_ (aB aA aM)) (aB (cX fL 0x3 B.tuple d_ (aB aA aM)) (aB (cX fL 0x3 B.tuple d_ (aB (aR bU (jT hK aA (fU aA) (fQ)) (jT hK aA (fQ) (fU aA))) aM)) aM)))))) (aG (bY (aR bU (aR bU (aQ aA aF) (aQ aA aF)) (aQ aA aF))) (aG (oH eM rfl (cU (dG (aB (HX aA) (aB (aR oG aA aF) (aB (aAo LC aF) (aB (aR bU aA (aR b8 (aR dJ aA aF) aF)) aM)))))) (h_ rfl) (aV sc.nd rfl 0x0) (aX (jZ (K9 (oF (lZ uM hr 0x4 0x3 (aB aA (aB (cX fL 0x3 B.tuple d_ (aB aA aM)) (aB aA (aB aA aM))))))) (aX (j6 CG)) d9))) (aX (j6 CG)))))))))))))))))))))
def AtN(K:Frag)(n:Str)(st:bz):Prop:=∃(f:al)(fd:d4),nsIn K bj n=aa (aa (.ref f))/\Fun K n n st f fd
theorem aRs{oc kV dc pm cd ct:am}{od an:ar al}{sl:bp (ar am)}(a:nsIn K bj n=aa (aa (.ref f)))(l:K.lookup f=aa ⟨oc,od,.func (fnOf n n (fP st) (cW st) (aL st) .none kV dc pm an cd ct),sl⟩)(c:codeIn K cd n=ag)(k:keepIn K (.ref f)=ag):AtN K n st:=⟨f,_,a,jB l c k⟩
theorem aOo{l:OpenLaw}{w:bu}{K:Frag}{h:aI}{mg:Str->ar am}{fa:al}(X:K.In h)(G:h.Ns bj mg)(hfa:mg "law"=aa (.ref fa))(a0:AtN K "heads_of" xF)(a1:AtN K "words_of" xG)
 {f2 T2:al}{oc2 kV2 dc2 pm2 cd2 ct2 tc2:am}{od2 an2 td2:ar al}{sl2 tl2:bp (ar am)}{tk2:eg}{tn2:ah}(a2:nsIn K bj "worth"=aa (aa (.ref f2)))(l2:K.lookup f2=aa ⟨oc2,od2,.func (fnOf "worth" "worth" (fP xH) (cW xH) (aL xH) (.ref T2) kV2 dc2 pm2 an2 cd2 ct2),sl2⟩)(c2:codeIn K cd2 "worth"=ag)(k2:keepIn K (.ref f2)=ag)(t2:K.lookup T2=aa ⟨tc2,td2,.seq #[.int 400 tk2] tn2,tl2⟩)(a3:AtN K "_law_next" p_)(a4:AtN K "_law_names" iQ)(a5:AtN K "_law_sig" iB)(a6:AtN K "_law_goal" fV)(a7:AtN K "_law_rules" iT)(a8:AtN K "_law_due" n6)(a9:AtN K "_law_words" fY)(a10:AtN K "_law_behind" mH)(a11:AtN K "_law_spent" nJ)(a12:AtN K "_law_right" nM)(a13:AtN K "_law_asked" nP)
 {f14:al}{oc14 kV14 dc14 pm14 cd14 ct14:am}{od14 an14:ar al}{sl14:bp (ar am)}(a14:nsIn K bj "law"=aa (aa (.ref f14)))(l14:K.lookup f14=aa ⟨oc14,od14,.func (fnOf "law" "law" (fP CP) (cW CP) (aL CP) .none kV14 dc14 pm14 an14 cd14 ct14),sl14⟩)(c14:codeIn K cd14 "law"=ag)(k14:keepIn K (.ref f14)=ag)(qD:nsIn K bj "len"=aa aj)(qE:nsIn K bj "min"=aa aj)(qF:nsIn K bj "max"=aa aj)(qG:nsIn K bj "list"=aa aj)(qH:nsIn K bj "tuple"=aa aj)(qI:nsIn K bj "sorted"=aa aj)(qJ:nsIn K bj "range"=aa aj)(qK:nsIn K bj "isinstance"=aa aj)(qL:nsIn K bj "int"=aa aj)(qM:nsIn K bj "bool"=aa aj)(qN:nsIn K bj "str"=aa aj)(qO:nsIn K bj "dict"=aa aj)(qP:nsIn K bj "all"=aa aj)(qQ:nsIn K bj "enumerate"=aa aj)(qR:nsIn K bj "sum"=aa aj)(qS:nsIn K bj "zip"=aa aj)(qT:nsIn K bj "abs"=aa aj)(qU:nsIn K bj "reversed"=aa aj){tH:al}(qV:nsIn K bj "NoTerm"=aa (aa (.ref tH))){tI:al}(qW:nsIn K bj "NoRule"=aa (aa (.ref tI))){tJ:al}(qX:nsIn K bj "NoPair"=aa (aa (.ref tJ))){tK:al}(qY:nsIn K bj "NoNet"=aa (aa (.ref tK))){tL:al}(qZ:nsIn K bj "NoName"=aa (aa (.ref tL))){tM:al}(rg:nsIn K bj "NoEnd"=aa (aa (.ref tM))){tN:al}(rh:nsIn K bj "Lacking"=aa (aa (.ref tN))){tO:al}(rj:nsIn K bj "BadRow"=aa (aa (.ref tO))){tP:al}(rq:nsIn K bj "BadKind"=aa (aa (.ref tP))){tQ:al}(rA:nsIn K bj "Unfit"=aa (aa (.ref tQ))){tR:al}(rB:nsIn K bj "Uneven"=aa (aa (.ref tR))){tT:al}(rC:nsIn K bj "TwoRules"=aa (aa (.ref tT))){tU:al}(rD:nsIn K bj "Twice"=aa (aa (.ref tU))){tV:al}(rE:nsIn K bj "Stuck"=aa (aa (.ref tV))){tW:al}(rF:nsIn K bj "NoValue"=aa (aa (.ref tW))){p9:al}(ph:nsIn K bj "Spent"=aa (aa (.ref p9))){tX:al}(rG:nsIn K bj "MillError"=aa (aa (.ref tX)))(rH:nsIn K bj "ValueError"=aa aj)(rJ:isClsIn K p9=ag)(rK:findIn K (.ref p9) "__getattribute__"=aa (aa (.builtin "BaseException.__getattribute__")))(rL:findIn K (.ref p9) "__getattr__"=aa aj)(rM:findIn K (.ref p9) "__class__"=aa (aa (.builtin "object.__class__")))(rO:specialIn K (.builtin "object.__class__") "__get__"=aa (aa (.builtin "getset_descriptor.__get__")))(rP:takesIn K (.builtin "object.__class__")=aa ag)(rQ:w_ K p9 (.type "object")=aa ag)(rR:w_ K p9 (.type "BaseException")=aa ag)(rS:nN K (.ref p9) [.ref tP,.ref tO,.ref tN,.ref tM,.ref tL,.ref tK,.ref tJ,.ref tI,.ref tH]=aa ak)(rT:nN K (.ref p9) [.ref tW,.ref tV,.ref tU,.ref tT,.ref tR,.ref tQ]=aa ak)(rV:iz K (.ref p9) (.ref p9)=aa ag)(kn_Spent:iz K (.type "NoneType") (.ref p9)=aa ak)(rW:iz K (.ref p9) (.type "ValueError")=aa ag)(rX:xC K (.ref p9) (.ref tX)=aa ag){pc:al}(pi:nsIn K bj "Frame"=aa (aa (.ref pc))){pD:al}{uN uO uP uQ tY uR:am}{uS uT:ar al}{uU:bp (ar am)}{p7:al}(p8:nsIn K bj "PlainRun"=aa (aa (.ref p7))){pE:al}{uV uW uX uY tZ uZ:am}{v7 va:ar al}{vc:bp (ar am)}{pN:al}{ve vg vh vj u5 vk:am}{vn vo:ar al}{vq:bp (ar am)}{pO:al}{vx vz vB vC u7 vD:am}{vE vF:ar al}{vG:bp (ar am)}{pP:al}{vH vI vJ vK u8 vL:am}{vM vN:ar al}{vO:bp (ar am)}{pQ:al}{vP vQ vR vS u9 vT:am}{vU vV:ar al}{vX:bp (ar am)}(pg_Frame:plainGet K pc yq=ag)(rY:hasDictIn K pc=ag)(po_Frame:plainOver K pc=ag)(rZ:findIn K (.ref pc) "__setattr__"=aa (aa (.builtin "object.__setattr__")))(mk_Frame:makesIn K pc=ag)(t6:keepIn K (.ref pc)=ag)(t7:findIn K (.ref pc) "__init__"=aa (aa (.ref pD)))(pR:K.lookup pD=aa ⟨uN,uS,.func (fnOf "__init__" "Frame.__init__" (fP o_) (cW o_) (aL o_) .none uO uP uQ uT tY uR),uU⟩)(pS:codeIn K tY "Frame.__init__"=ag)(pT:keepIn K (.ref pD)=ag)(t8:isFn K (.ref pD)=ag)(pU:findIn K (.ref pc) "words"=aa aj)(pF:findIn K (.ref pc) "left"=aa aj)(pG:findIn K (.ref pc) "known"=aa aj)(pg_PlainRun:plainGet K p7 yq=ag)(t9:hasDictIn K p7=ag)(po_PlainRun:plainOver K p7=ag)(tf:findIn K (.ref p7) "__setattr__"=aa (aa (.builtin "object.__setattr__")))(mk_PlainRun:makesIn K p7=ag)(tj:keepIn K (.ref p7)=ag)(tm:findIn K (.ref p7) "__init__"=aa (aa (.ref pE)))(pV:K.lookup pE=aa ⟨uV,v7,.func (fnOf "__init__" "PlainRun.__init__" (fP eZ) (cW eZ) (aL eZ) .none uW uX uY va tZ uZ),vc⟩)(pW:codeIn K tZ "PlainRun.__init__"=ag)(pX:keepIn K (.ref pE)=ag)(tq:isFn K (.ref pE)=ag)(pY:findIn K (.ref p7) "heads"=aa aj)(pZ:findIn K (.ref p7) "makers"=aa aj)(qa:findIn K (.ref p7) "rules"=aa aj)(pH:findIn K (.ref p7) "most"=aa aj)(pA:findIn K (.ref p7) "calls"=aa aj)(pj:findIn K (.ref p7) "copies"=aa aj)(pq:findIn K (.ref p7) "drops"=aa aj)(tu:findIn K (.ref p7) "take_word"=aa (aa (.ref pN)))(qb:K.lookup pN=aa ⟨ve,vn,.func (fnOf "take_word" "PlainRun.take_word" (fP d8) (cW d8) (aL d8) .none vg vh vj vo u5 vk),vq⟩)(qc:codeIn K u5 "PlainRun.take_word"=ag)(pI:keepIn K (.ref pN)=ag)(iZ:isFn K (.ref pN)=ag)(pJ:findIn K (.ref p7) "value_of"=aa (aa (.ref pO)))(pB:K.lookup pO=aa ⟨vx,vE,.func (fnOf "value_of" "PlainRun.value_of" (fP e_) (cW e_) (aL e_) .none vz vB vC vF u7 vD),vG⟩)(pC:codeIn K u7 "PlainRun.value_of"=ag)(pz:keepIn K (.ref pO)=ag)(fW:isFn K (.ref pO)=ag)(tw:findIn K (.ref p7) "called"=aa (aa (.ref pP)))(qd:K.lookup pP=aa ⟨vH,vM,.func (fnOf "called" "PlainRun.called" (fP mG) (cW mG) (aL mG) .none vI vJ vK vN u8 vL),vO⟩)(qe:codeIn K u8 "PlainRun.called"=ag)(pK:keepIn K (.ref pP)=ag)(nR:isFn K (.ref pP)=ag)(tE:findIn K (.ref p7) "count_uses"=aa (aa (.ref pQ)))(qf:K.lookup pQ=aa ⟨vP,vU,.func (fnOf "count_uses" "PlainRun.count_uses" (fP eX) (cW eX) (aL eX) .none vQ vR vS vV u9 vT),vX⟩)(qg:codeIn K u9 "PlainRun.count_uses"=ag)(pL:keepIn K (.ref pQ)=ag)(gP:isFn K (.ref pQ)=ag)(tF:excIn K p9 aQz "ValueError.__new__"=ag) :
  ∃fd:d4,(∀(s:au)(v:am),kM s fd ⟨[v],[]⟩ [("script",v)])/\∀base:aI,K.In base->base.Ns bj mg->mO l.prog w K mg base CX0 8 fa fd ["script"] (@spD ⟨K⟩ aCh 1):=by
 have e:=hfa.symm.trans (mg_of X G a14);cases e
 letI:KFrag:=⟨K⟩
 have qh:XC K p9:=⟨rJ,rK,rL,rM,rO,rP,rQ,rR⟩
 have Y:=λ{n:Str}{v:am}=>mg_of (n:=n) (v:=v) X G
 have Z:=λ{n:Str}=>mg_none_of (n:=n) X G
 obtain⟨f0,_,a0,F0⟩:=a0;obtain⟨f1,_,a1,F1⟩:=a1;obtain⟨f3,_,a3,F3⟩:=a3;obtain⟨f4,_,a4,F4⟩:=a4;obtain⟨f5,_,a5,F5⟩:=a5;obtain⟨f6,_,a6,F6⟩:=a6;obtain⟨f7,_,a7,F7⟩:=a7;obtain⟨f8,_,a8,F8⟩:=a8;obtain⟨f9,_,a9,F9⟩:=a9;obtain⟨f10,_,a10,F10⟩:=a10;obtain⟨f11,_,a11,F11⟩:=a11;obtain⟨f12,_,a12,F12⟩:=a12;obtain⟨f13,_,a13,F13⟩:=a13;have B:Bt mg:=⟨Z qD,Z qE,Z qF,Z qG,Z qH,Z qI,Z qJ,Z qK,Z qL,Z qM,Z qN,Z qO,Z qP,Z qQ,Z qR,Z qS,Z qT,Z qU⟩
 refine⟨fnOf "law" "law" (fP CP) (cW CP) (aL CP) .none kV14 dc14 pm14 an14 cd14 ct14,λs v=>.of_eq rfl,λbase _ _=>?_⟩;have vY:=O7 (P:=l.prog) (w:=w) (base:=base) rfl B  F0 (Y a0);have tG:=O8 (P:=l.prog) (w:=w) (base:=base) rfl B  F1 (Y a1);have cl_Frame:Cls K pc:=⟨pg_Frame,rY,po_Frame,rZ⟩
 have q_Frame:aLp l.prog w K mg base 1 "Frame" nF 2:=⟨pc,pD,_,_,pi,Y pi,⟨mk_Frame,t7,t8,t6⟩,aCi rfl B  cl_Frame (jc.2 ⟨pU,(jc.2 ⟨pF,(jc.2 ⟨pG,(Dl _)⟩)⟩)⟩) (jB (st:=o_) pR pS pT),((jB (st:=o_) pR pS pT).binds λ_ _ _ _ _ _ us hl=>by obtain⟨_,_,_,rfl⟩:=Mi.l3 hl;rfl)⟩
 have fl_Frame_words:QL K "Frame" "words":=λC h=>by cases (pi.symm.trans h);exact⟨cl_Frame,pU⟩
 have fl_Frame_left:QL K "Frame" "left":=λC h=>by cases (pi.symm.trans h);exact⟨cl_Frame,pF⟩
 have fl_Frame_known:QL K "Frame" "known":=λC h=>by cases (pi.symm.trans h);exact⟨cl_Frame,pG⟩
 have cl_PlainRun:Cls K p7:=⟨pg_PlainRun,t9,po_PlainRun,tf⟩
 have q_PlainRun:aLp l.prog w K mg base 2 "PlainRun" fX 2:=⟨p7,pE,_,_,p8,Y p8,⟨mk_PlainRun,tm,tq,tj⟩,O9 rfl B vY cl_PlainRun (jc.2 ⟨pY,(jc.2 ⟨pZ,(jc.2 ⟨qa,(jc.2 ⟨pH,(jc.2 ⟨pA,(jc.2 ⟨pj,(jc.2 ⟨pq,(Dl _)⟩)⟩)⟩)⟩)⟩)⟩)⟩) (jB (st:=eZ) pV pW pX),((jB (st:=eZ) pV pW pX).binds λ_ _ _ _ _ _ us hl=>by obtain⟨_,_,_,rfl⟩:=Mi.l3 hl;rfl)⟩
 have fl_PlainRun_heads:QL K "PlainRun" "heads":=λC h=>by cases (p8.symm.trans h);exact⟨cl_PlainRun,pY⟩
 have fl_PlainRun_makers:QL K "PlainRun" "makers":=λC h=>by cases (p8.symm.trans h);exact⟨cl_PlainRun,pZ⟩
 have fl_PlainRun_rules:QL K "PlainRun" "rules":=λC h=>by cases (p8.symm.trans h);exact⟨cl_PlainRun,qa⟩
 have fl_PlainRun_most:QL K "PlainRun" "most":=λC h=>by cases (p8.symm.trans h);exact⟨cl_PlainRun,pH⟩
 have fl_PlainRun_calls:QL K "PlainRun" "calls":=λC h=>by cases (p8.symm.trans h);exact⟨cl_PlainRun,pA⟩
 have fl_PlainRun_copies:QL K "PlainRun" "copies":=λC h=>by cases (p8.symm.trans h);exact⟨cl_PlainRun,pj⟩
 have fl_PlainRun_drops:QL K "PlainRun" "drops":=λC h=>by cases (p8.symm.trans h);exact⟨cl_PlainRun,pq⟩
 have y_1:=Lk53.gP (P:=l.prog) (w:=w) (mg:=mg) (base:=base) rfl B cl_PlainRun pq pj (jB (st:=eX) qf qg pL);have y_2:=Lk53.nR (P:=l.prog) (w:=w) (base:=base) rfl B q_Frame p8 pi cl_PlainRun pA pj pq pH fl_PlainRun_rules (Y ph) tF ⟨tE,gP,pL⟩ y_1 ((jB (st:=eX) qf qg pL).binds λ_ _ _ _ _ _ us hl=>by obtain⟨_,_,_,rfl⟩:=Mi.l3 hl;rfl) (jB (st:=mG) qd qe pK);have y_3:=Lk53.iZ (P:=l.prog) (w:=w) (base:=base) rfl B p8 cl_Frame pG cl_PlainRun fl_PlainRun_heads fl_PlainRun_makers ⟨tw,nR,pK⟩ y_2 ((jB (st:=mG) qd qe pK).binds λ_ _ _ _ _ _ us hl=>by obtain⟨_,_,_,rfl⟩:=Mi.l3 hl;rfl) (jB (st:=d8) qb qc pI);have y_4:=Lk53.fW (P:=l.prog) (w:=w) (base:=base) rfl B q_Frame p8 pi cl_Frame pF cl_PlainRun ⟨tu,iZ,pI⟩ y_3 ((jB (st:=d8) qb qc pI).binds λ_ _ _ _ _ _ us hl=>by obtain⟨_,_,_,_,rfl⟩:=Mi.l4 hl;rfl) fl_Frame_words fl_Frame_left (jB (st:=e_) pB pC pz);have F2:aR0 K "worth" "worth" xH f2 _ T2 #[.int 400 tk2]:=⟨⟨_,_,_,_,_,_,_,_,_,rfl,l2,c2⟩,k2,⟨_,_,_,_,t2⟩⟩
 have Pd:aTy l.prog w K mg base 6 "worth" "most" 2 (.int 400) dU:=⟨⟨f2,_,["program","words","most"],.int 400 tk2,.int 400,(JD rfl B tG q_PlainRun p8 ph cl_PlainRun pA pj pq ⟨pJ,fW,pz⟩ y_4 ((jB (st:=e_) pB pC pz).binds λ_ _ _ _ _ _ us hl=>by obtain⟨_,_,rfl⟩:=Mi.l2 hl;rfl) F2).aU8,Y a2,k2,(λs us X' hl=>by obtain⟨_,_,_,rfl⟩:=Mi.l3 (by simpa using hl);exact nX rfl (X' _ _ t2) rfl rfl rfl),(λs us X' hl=>by obtain⟨_,_,rfl⟩:=Mi.l2 (by simpa using hl);exact nX rfl (X' _ _ t2) rfl rfl rfl),⟨_,rfl⟩,λ_=>.int 400,λs us y X' hl=>by obtain⟨_,_,rfl⟩:=Mi.l2 hl;first|exact .of_eq rfl|exact .of_eq 0x5|exact nX rfl (X' _ _ t2) rfl rfl rfl|exact nX rfl (X' _ _ t2) rfl 0x5 0x5⟩⟩
 have qC:aFh l.prog w K mg base 6 "worth" 3 dU:=⟨f2,_,["program","words","most"],JD rfl B tG q_PlainRun p8 ph cl_PlainRun pA pj pq ⟨pJ,fW,pz⟩ y_4 ((jB (st:=e_) pB pC pz).binds λ_ _ _ _ _ _ us hl=>by obtain⟨_,_,rfl⟩:=Mi.l2 hl;rfl) F2,Y a2,k2,λs us X' hl=>by obtain⟨_,_,_,rfl⟩:=Mi.l3 (by simpa using hl);exact nX rfl (X' _ _ t2) rfl rfl rfl⟩
 have zd_worth:aOf l.prog w K mg base 6 "worth" 3 dU [.int 400]:=⟨f2,_,["program","words","most"],[.int 400 tk2],[.int 400],JD rfl B tG q_PlainRun p8 ph cl_PlainRun pA pj pq ⟨pJ,fW,pz⟩ y_4 ((jB (st:=e_) pB pC pz).binds λ_ _ _ _ _ _ us hl=>by obtain⟨_,_,rfl⟩:=Mi.l2 hl;rfl) F2,Y a2,k2,(λs us X' hl=>by obtain⟨_,_,rfl⟩:=Mi.l2 (by simpa using hl);exact nX rfl (X' _ _ t2) rfl rfl rfl),.cons ⟨_,rfl⟩ .nil,λ_=>.cons (.int 400) .nil⟩
 have pM:=JF (P:=l.prog) (w:=w) (base:=base) rfl B  F3 (Y a3);have vZ:=CQ (P:=l.prog) (w:=w) (base:=base) rfl B pM F4 (Y a4);have P4:=PK (P:=l.prog) (w:=w) (base:=base) rfl B pM F5 (Y a5);have P5:=JH (P:=l.prog) (w:=w) (base:=base) rfl B pM F6 (Y a6);have P6:=CT (P:=l.prog) (w:=w) (base:=base) rfl B P5 F7 (Y a7);have P7:=PN (P:=l.prog) (w:=w) (base:=base) rfl B  F8 (Y a8);have P8:=CV (P:=l.prog) (w:=w) (base:=base) rfl B pM F9 (Y a9);have P9:=BP (P:=l.prog) (w:=w) (base:=base) rfl B  F10 (Y a10);have Pa:=CZ (P:=l.prog) (w:=w) (base:=base) rfl B  (Y qV) (Y qW) (Y qX) (Y qY) (Y qZ) (Y rg) (Y rh) (Y rj) (Y rq) (Y rA) (Y rB) (Y rC) (Y rD) (Y rE) (Y rF) (Y ph) (mg_none_of X G rH) ⟨⟨_,ph,qh,rS⟩,trivial⟩ ⟨⟨_,ph,qh,rT⟩,trivial⟩ ⟨⟨⟨_,ph,qh,rV⟩,trivial⟩,kn_Spent⟩ ⟨⟨_,ph,qh,rW⟩,trivial⟩ F11 (Y a11);have Pb:=C_ (P:=l.prog) (w:=w) (base:=base) rfl B  F12 (Y a12);have Pc:=DG (P:=l.prog) (w:=w) (base:=base) rfl B Pa Pb qC zd_worth (Y rG) ⟨⟨_,ph,rX⟩,trivial⟩ F13 (Y a13);exact aOn rfl B pM vZ P4 P8 P6 P9 P7 Pc (jB (st:=CP) l14 c14 k14)
theorem walk{l:OpenLaw}{d:DefRec}{K:Params->Frag}(main:∀ns:ae ai,ns.length<=63->aCh [.scr (ns.map θ)]=.ok (.bl ag))(hn:l.most=aa 63)(hdf:d.params.defaults=[])
 (hY:∀(w:bu) (h:aI),YP w h->(K w.params).In h)
 (F:∀(w:bu) (mg:Str->ar am) (fa:al) (h:aI),(K w.params).In h->h.Ns bj mg->mg d.name=aa (.ref fa)->
   ∃fd:d4,(∀(s:au) (u:am),kM s fd ⟨[u],[]⟩ [("script",u)])/\∀base:aI,(K w.params).In base->base.Ns bj mg->mO l.prog w (K w.params) mg base CX0 8 fa fd ["script"] (@spD ⟨K w.params⟩ aCh 1)) :
  WalkO q loose XP YP l.row.toRowW d [] (λf vs=>zn f vs):=
 L2.aIn hn 0x4 hdf ⟨rfl,by decide,by decide⟩ hY F (λw H a ns hl hO hS=>aAx main hl hO hS) λ_ _ _ _ _ z=>z
end Lk53
end
namespace Lk53
open PySem L2 Mi
theorem lN{ρ rest h h':ae D}(h1:fs ρ=.ok rest)(h2:M5 (ρ.getD i .uD)=aa h)(h3:rest.length+1=n)(h4:ch1 f h rest=.ok (r,h'))(h5:ε h'=ag)(he:ρ.set i (aF2 (ρ.getD i .uD) h')=ρ'):eV f n i fs ρ=.ok (r,ρ'):=by
 subst he;unfold eV;rw[h1,ι,h2];dsimp only;rw[ao (bw h3),h4,ι];dsimp only;rw[ao h5]
theorem jA(h:f ρ=.ok (d,ρ'))(he:ρ'.set i d=ρ2):mX ak i f ρ=.ok (.nx ρ2):=by
 subst he;unfold mX;rw[h];rfl
theorem aCk(h:f ρ=.ok (.rt d)):bA f g ρ=.ok (.rt d):=by
 unfold bA;rw[h];rfl
theorem aCl(h1:fv ρ=.ok d)(h2:fk ρ=.ok (.int k))(h3:M5 (ρ.getD i .uD)=aa xs)(hp:d.pure=ag)(hj:ixD xs.length k=aa j)(he:ρ.set i (aF2 (ρ.getD i .uD) (xs.set j d))=ρ'):YW i fk fv ρ=.ok (.nx ρ'):=by
 subst he;unfold YW;rw[h1,ι,h2,ι,h3];dsimp only;rw[ao hp,hj]
theorem TV(h:f ρ=.ok d)(hp:(k||d.pure)=ag):Q6 f k ρ=.ok (.rt (.tup (d::ρ))):=by
 unfold Q6;rw[h,ι,ao hp]
theorem yR(h:cD i ρ=.ok d)(hp:d.UW=ag):m8 i ρ=.ok (.rt (.tup (d::ρ))):=by
 unfold m8;rw[h,ι,ao hp]
theorem PP(h:f ρ=.ok d)(hp:d.pure=ag):bPu f ρ=.ok d:=by
 unfold bPu;rw[h,ι,ao hp]
theorem PQ(h1:fa ρ=.ok (x,ρ1))(hp:x.pure=ag)(h2:fb ρ1=.ok y)(h3:f x y=.ok d)(hd:d.pure=ag):x2L f fa fb ρ=.ok (d,ρ1):=by
 unfold x2L;rw[h1,ι];dsimp only;rw[ao hp,h2,ι,h3,ι,ao hd]
theorem aHk(h1:fa ρ=.ok x)(h2:fb ρ=.ok (y,ρ1))(h3:f x y=.ok d)(hd:d.pure=ag):x2R f fa fb ρ=.ok (d,ρ1):=by
 unfold x2R;rw[h1,ι,h2,ι];dsimp only;rw[h3,ι,ao hd]
theorem aOp(h:f ρ=.ok (.bl b,ρ1)):xTB f ρ=.ok (b,ρ1):=by
 unfold xTB;rw[h];rfl
theorem aCm(h1:c ρ=.ok (k,ρ1))(h2:(if k then f ρ1 else g ρ1)=r):aQ2 c f g ρ=r:=by
 unfold aQ2;rw[h1];exact h2
theorem BR(h:f (ds++cq (m-n) .uD)=.ok (.rt (.tup (d::ρ)))):fnX k n m f ds=.ok (.tup (d::ρ.take k)):=by
 unfold fnX;rw[h];rfl
theorem nT(a b:ai)(h:iI b=ag):J2 (.int a) (.int b)=.ok (.int (a*b)):=by
 show bJ .mul (.int a) (.int b)=_;exact aN7 a b h
theorem BV(a:ai)(h1:-10000000000<=a)(h2:a<=10000000000):iI a=ag:=by
 unfold iI;rw[aS,cx,cx];lia
theorem aOq(a b:ai):yE .le (.int a) (.int b)=.ok (.bl (ϒ (a<=b))):=rfl
theorem PX(a b:ai):yE .lt (.int a) (.int b)=.ok (.bl (ϒ (a<b))):=rfl
theorem cmp_gt(a b:ai):yE .gt (.int a) (.int b)=.ok (.bl (ϒ (b<a))):=rfl
theorem mK(a b:ai):eG .eq (.int a) (.int b)=.ok (.bl (a==b)):=rfl
theorem aCn(a b:ai):eG .ne (.int a) (.int b)=.ok (.bl (!(a==b))):=rfl
theorem aCo(ns:ae ai)(i:ai)(h0:0<=i)(h1:i<ns.length):∃n,getD (.scr (ns.map θ)) (.int i)=.ok (.int n):=by
 have hl:i.toNat<ns.length:=by lia
 refine⟨ns[i.toNat],?_⟩;show ο ((ixD (ns.map θ).length i).bind λj=>(ns.map θ)[j]?)=_;unfold ixD;rw[ao h0,az,ao h1];simp[hl]
noncomputable def tx(cs:ae ah):Str:=⟨cs.toArray⟩
theorem xZ(cs:ae ah):(tx cs).length=cs.length:=by
 show cs.toArray.size=_;simp
theorem aCp(a b:ae ah):tx a++tx b=tx (a++b):=by
 show(⟨a.toArray++b.toArray⟩:Str)=⟨(a++b).toArray⟩
 congr 1
 simp
theorem aHl(h:tx a=tx b):a=b:=by
 unfold tx at h;injection h with h
 have:=cf yh h;simpa using this
noncomputable def abc:Str:= "abcdefghijklmnopqrstuvwxyz"
theorem aOr:∀i,i<26->abc.cps.toList[i]?=aa (97+i):=0x6
theorem letter(i:ai)(h0:0<=i)(h1:i<26):getD (.str abc) (.int i)=.ok (.str (tx [97+i.toNat])):=by
 have hl:ϒ (abc.length<=lim)=ag:=by decide +kernel
 have h26:abc.cps.toList.length=26:=by decide +kernel
 have hix:ixD abc.cps.toList.length i=aa i.toNat:=by
  unfold ixD;rw[ao h0,h26,ao 0x1]
 show(if ϒ (abc.length<=lim) then ο (((ixD abc.cps.toList.length i).bind λj=>abc.cps.toList[j]?).map λc=>π ⟨#[c]⟩) else .bad)=_;rw[hl,ao rfl,hix];simp only[Dm];rw[aOr _ 0x1];rfl
noncomputable def dk(cs:ae ai)(n:ah):ae D:=[.scr (cs.map θ),.int n]
theorem mL(cs:ae ai)(n:ah):ε (dk cs n)=ag:=by
 show((D.scr (cs.map θ)).pure&&_)=ag;rw[ξ,wW];rfl
theorem aKm(cs:ae ai)(n:ah)(hn:n<=100000):∃r:ai,∀b,bD [.cel b (dk cs n)]=.ok (.tup [.int r,.cel b (dk cs (n+1))]):=by
 have hl:kY [.scr (cs.map θ)]=.ok (.int cs.length):=by
  show τ (θ ((cs.map θ).length:ai))=_;rw[az]
 have pre:∀(b:ah)(R:Res Fl)(g:FS),g [.cel b (dk cs (n+1)),.scr (cs.map θ),.int n]=R->(bA (bZ ak 1 (b2 getD iJ cT) ak) (bA (bZ ak 2 (b2 getD iJ dR) ak) (bA (YW 0 dR (b2 (bJ .add) fH dR)) g))) [.cel b (dk cs n),.uD,.uD]=R:=λb R g hg=>by
  refine aN (dZ (aH rfl rfl rfl) (wW cs)) ?_;refine aN (dZ (aH rfl rfl rfl) rfl) ?_;exact aN (aCl (aH rfl rfl rfl) rfl rfl rfl rfl rfl) hg
 have h0:∀(b:ah)(d:D)(ρ:ae D),BL [.cel b (dk cs n),.uD,.uD]=.ok (.rt (.tup (d::.cel b (dk cs (n+1))::ρ)))->bD [.cel b (dk cs n)]=.ok (.tup [d,.cel b (dk cs (n+1))]):=λb d ρ h=>BR (k:=1) (ρ:=.cel b (dk cs (n+1))::ρ) h
 by_cases h1:n<cs.length
 .obtain⟨r,hr⟩:=aCo cs n 0x1 0x1;refine⟨r,λb=>h0 b _ _ (pre b _ _ (aCk (J3 (cJ (aH rfl (bF (aD rfl rfl) hl) ((PX _ _).trans (by rw[bw 0x1])))) (TV (aH rfl rfl hr) rfl))))⟩
 .have c1:∀b:ah,(sIf (bTB (b2 (yE .lt) fH (aZ kY (aC fK aU)))) (Q6 (b2 getD fK fH) ak) yL) [.cel b (dk cs (n+1)),.scr (cs.map θ),.int n]=.ok (.nx [.cel b (dk cs (n+1)),.scr (cs.map θ),.int n]):=λb=>oJ (cJ (aH rfl (bF (aD rfl rfl) hl) ((PX _ _).trans (by rw[cS 0x1])))) rfl
  have hs:iI (n:ai)=ag:=BV _ 0x1 0x1;by_cases h2:cs.length=0
  .refine⟨(n:ai)*n*3+n,λb=>h0 b _ _ (pre b _ _ (aN (c1 b) (aCk (J3 (cJ (aH (bF (aD rfl rfl) hl) rfl ((mK _ _).trans (by rw[h2];rfl)))) (TV (aH (aH (aH rfl rfl (nT _ _ hs)) rfl (nT _ _ rfl)) rfl (cY _ _)) rfl)))))⟩
  .have hp:(0:ai)<cs.length:=by lia
   obtain⟨r,hr⟩:=aCo cs ((n:ai) % cs.length) (su _ 0x1) (sv _ hp);refine⟨r / 2+n*n,λb=>h0 b _ _ (pre b _ _ (aN (c1 b) (aN (ρ':=[.cel b (dk cs (n+1)),.scr (cs.map θ),.int n]) (oJ (cJ (aH (bF (aD rfl rfl) hl) rfl ((mK _ _).trans ?_))) rfl) (TV (aH (aH (aH rfl (aH rfl (bF (aD rfl rfl) hl) (b_ _ _ hp)) hr) rfl (dM _ _ 0x4 0x4)) (aH rfl rfl (nT _ _ hs)) (cY _ _)) rfl))))⟩;have:((cs.length:ai)==0)=ak:=by simpa using h2
   rw[this]
theorem jW(cs:ae ai)(n:ah)(hn:n<=100000):∃r:ai,ch1 bD (dk cs n) []=.ok (.int r,dk cs (n+1)):=by
 obtain⟨r,h⟩:=aKm cs n hn;exact⟨r,E_ h⟩
theorem BW(e:ch1 bD (dk cs n) []=.ok (.int r,dk cs (n+1)))(h2:M5 (ρ.getD i .uD)=aa (dk cs n))(he:ρ.set i (aF2 (ρ.getD i .uD) (dk cs (n+1)))=ρ'):eV bD 1 i aU ρ=.ok (.int r,ρ'):=
 lN rfl h2 rfl e (mL cs (n+1)) he
noncomputable def one(c:ah):Str:=⟨#[c]⟩
theorem P_:∀(cs:ae ah)(a:bp ah),((cs.map one).foldl (λacc p=>acc++("" : Str).cps++p.cps) a)=a++cs.toArray
 |[],a=>by simp
 |c::cs,a=>by
  rw[bd,Do,P_ cs];apply AB;simp[one,show(("" : Str).cps)=#[] from rfl]
theorem join_one(cs:ae ah):rc ("" : Str) (cs.map one)=tx cs:=by
 unfold rc El tx;cases cs with
 |nil=>rfl
 |cons c cs=>
  rw[bd,Ax,sg,List.headD_cons,P_]
  congr 1
  apply AB;simp[one]
theorem QB:∀cs:ae ah,zU (cs.map λc=>π (one c))=aa (cs.map one)
 |[]=>rfl
 |c::cs=>by
  show(zU (cs.map λc=>π (one c))).map (one c::·)=_;rw[QB cs];rfl
theorem aKn(cs:ae ah)(h:cs.length<=100):joinM (.str "") [.lst (cs.map λc=>π (one c))]=.ok (.str (tx cs)):=by
 show(match zU (cs.map λc=>π (one c)) with|some ts=>if oS "" ts then τ (π (rc "" ts)) else .bad|none=>.bad)=_;rw[QB];show(if oS "" (cs.map one) then τ (π (rc "" (cs.map one))) else .bad)=_;have hok:oS "" (cs.map one)=ag:=by
  unfold oS;rw[StrLaws.joinFits (B:=1) (λy hy=>by obtain⟨c,_,rfl⟩:=cK.mp hy;exact bt _) (by rw[az,show(("" : Str).length)=0 from rfl];lia)];rfl
 rw[ao hok,join_one]
theorem aUa(h1:a ρ=.ok ag):bOr a b ρ=.ok ag:=by
 unfold bOr;rw[h1];rfl
theorem aLt(h1:a ρ=.ok ak)(h2:b ρ=r):bOr a b ρ=r:=by
 unfold bOr;rw[h1];exact h2
theorem aOs(h1:a ρ=.ok x)(h2:b ρ=.ok y):bOr a b ρ=.ok (x||y):=by
 cases x with
 |true=>exact aUa h1
 |false=>exact aLt h1 h2
theorem kO(h:a ρ=.ok (.int i)):gF a ρ=.ok (aa i):=by
 unfold gF;rw[h];rfl
theorem TX(h1:a ρ=.ok (.str x))(h2:lo ρ=.ok l)(h3:hi ρ=.ok h)(hx:x.length<=1000):oY a lo hi ρ=.ok (.str (iq x l h)):=by
 unfold oY;rw[h1,ι,h2,ι,h3,ι];show(if ϒ (x.length<=lim) then τ (π (iq x l h)) else .bad)=_;rw[ao (by rw[bG];exact bw 0x1)]
theorem aHm(x:Str):tx x.cps.toList=x:=rfl
theorem aKo(c:ah)(n:ah)(h:1<=n):wu (tx [c]) (n:ai)=tx (cq n c):=by
 unfold wu;rw[ax 0x1];split
 .rename_i h1;have:n=1:=by
   simp[xZ] at h1;lia
  subst this;rfl
 .have:∀(m:ah)(a:ae ah),(cq m (tx [c]).cps).foldl (·++·) a.toArray=(a++cq m c).toArray:=by
   intro m;induction m with
   |zero=>intro a;simp
   |succ m ih=>
    intro a;rw[AC,Do];have:a.toArray++(tx [c]).cps=(a++[c]).toArray:=by
     apply AB;simp[tx]
    rw[this,ih,AC];simp
  have e:=this n [];rw[gV];show(⟨_⟩:Str)=⟨_⟩
  congr 1
theorem aG0(c:ah)(n:ah)(h:1<=n)(h2:n<=100):J2 (.str (tx [c])) (.int n)=.ok (.str (tx (cq n c))):=by
 show(if ϒ (0<=(n:ai))&&ϒ ((n:ai)<=100000)&&ϒ ((tx [c]).length*(n:ai).toNat<=lim) then τ (π (wu (tx [c]) n)) else .bad)=_;have e3:ϒ ((tx [c]).length*(n:ai).toNat<=lim)=ag:=by
  rw[xZ,bG];simp;lia
 rw[e3,bw 0x1,bw 0x1,aKo c n h];rfl
abbrev ns(hD:D)(chce turn shift cell size:ai)(base:Str)(at_:ai)(NM:ae D)(a b c d:D):ae D:=[hD,.str abc,.int chce,.int turn,.int shift,.int cell,.int size,.str base,.int at_,.lst NM,a,b,c,d]
structure Nmf(nm:ah->ae ah):Prop where
 inj:∀s t,s<26->t<26->nm s=nm t->s=t
 len:∀s,s<26->(nm s).length<=100
theorem aCq(x:ai):∃s:ah,s<26/\x % 26=s:=⟨(x % 26).toNat,by lia,by lia⟩
theorem aCr{P Q A B:ae ah}(h:P++A++Q=P++B++Q):A=B:=by
 rw[cu,cu] at h;exact Dp (List.append_cancel_left h)
theorem m26{x a b:ai}(ha:0<=a)(ha':a<26)(hb:0<=b)(hb':b<26)(h:97+((x+a) % 26).toNat=97+((x+b) % 26).toNat):a=b:=by omega
theorem aG1(hb:base.length<=10)(ht:iI turn=ag)(hs0:0<=shift)(hs1:shift<26) :
  ∃nm:ah->ae ah,Nmf nm/\∀(k:ai)(s:ah),s<26->(k*turn+shift) % 26=s->∀(NM:ae D)(b c d:D),NM.length<100->∃b' c' d',∀hD,nb (ns hD chce turn shift cell size base at_ NM (.int k) b c d)=.ok (.nx (ns hD chce turn shift cell size base at_ (NM++[.str (tx (nm s))]) (.int k) b' c' d')):=by
 have sp:∀(k:ai)(s:ah)(hD:D)(NM:ae D)(b c d:D),(k*turn+shift) % 26=s->bZ ak 11 (b2 (bJ .mod) (b2 (bJ .add) (b2 J2 oU eF) gU) yD) ag (ns hD chce turn shift cell size base at_ NM (.int k) b c d)=.ok (.nx (ns hD chce turn shift cell size base at_ NM (.int k) (.int s) c d)):=λk s hD NM b c d e=>by
  rw[<-e];exact cR (aH (aH (aH rfl rfl (nT _ _ ht)) rfl (cY _ _)) rfl (b_ _ _ 0x4))
 have cm:∀(ρ:ae D)(j:ai),cD 2 ρ=.ok (.int chce)->bTB (b2 (eG .eq) (b2 (bJ .mod) fH kW) (bC (.int j))) ρ=.ok (chce % 3==j):=λρ j h=>cJ (aH (aH h rfl (b_ _ _ 0x4)) rfl (mK _ _))
 have lt:∀(ρ:ae D)(f:FE)(i:ai) ,cD 1 ρ=.ok (.str abc)->f ρ=.ok (.int i)->0<=i->i<26->b2 getD fK f ρ=.ok (.str (tx [97+i.toNat])):=λρ f i h1 h2 h3 h4=>aH h1 h2 (letter i h3 h4)
 obtain⟨P,hP,lP⟩:∃P,iq base aj (aa at_)=tx P/\P.length<=10:=⟨_,(aHm _).symm,dj (wv ..) hb⟩
 obtain⟨Q,hQ,lQ⟩:∃P,iq base (aa at_) aj=tx P/\P.length<=10:=⟨_,(aHm _).symm,dj (wv ..) hb⟩
 have ap:∀(a b:ae ah),a.length<=100->b.length<=100->bJ .add (.str (tx a)) (.str (tx b))=.ok (.str (tx (a++b))):=λa b h1 h2=>by
  rw[aB0 _ _ (by rw[xZ,xZ,bG];lia),aCp]
 have slP:∀ρ:ae D,cD 7 ρ=.ok (.str base)->cD 8 ρ=.ok (.int at_)->oY oR g_ (gF yK) ρ=.ok (.str (tx P)):=λρ g1 g2=>by
  rw[<-hP];exact TX g1 rfl (kO g2) 0x1
 have slQ:∀ρ:ae D,cD 7 ρ=.ok (.str base)->cD 8 ρ=.ok (.int at_)->oY oR (gF yK) g_ ρ=.ok (.str (tx Q)):=λρ g1 g2=>by
  rw[<-hQ];exact TX g1 (kO g2) rfl 0x1
 by_cases h1:chce % 3=1
 .refine⟨λs=>cq (1+s / 4) (97+((shift+((s:ai) % 4)) % 26).toNat),⟨λs t hs ht e=>?_,λs hs=>by rw[ot];lia⟩,λk s hs hk NM b c d hN=>⟨.int s,c,d,λhD=>?_⟩⟩
  .have e1:=cf f_ e;rw[ot,ot] at e1;have e2:=cf (λl=>l.head?) e;simp only[Dd 1,AC,List.head?_cons,Em] at e2;have:=m26 0x1 0x1 0x1 0x1 e2;lia
  .refine aN (sp k s hD NM b c d hk) (J3 ((cm _ _ rfl).trans (by rw[h1];rfl)) ?_);refine oM (aH (lt _ _ _ rfl (aH (aH rfl (aH rfl rfl (b_ _ _ 0x4)) (cY _ _)) rfl (b_ _ _ 0x4)) 0x1 0x1) (aH rfl (aH rfl rfl (dM _ _ 0x4 0x4)) ?_) (aG0 _ _ 0x1 0x1)) rfl (by rw[bG];lia) rfl;rw[cY]
   congr 2
 .by_cases h2:chce % 3=2
  .refine⟨λs=>P++[97+((shift+((s:ai) % 6)) % 26).toNat,97+((shift+((s:ai) / 6)) % 26).toNat]++Q,⟨λs t hs ht e=>?_,λs hs=>by simp only[bq,br,fj];lia⟩,λk s hs hk NM b c d hN=>⟨.int s,.str (tx [97+((shift+((s:ai) % 6)) % 26).toNat]),.str (tx [97+((shift+((s:ai) / 6)) % 26).toNat]),λhD=>?_⟩⟩
   .have e1:=aCr e;simp only[Dq,and_true] at e1;have:=m26 0x1 0x1 0x1 0x1 e1.1;have:=m26 0x1 0x1 0x1 0x1 e1.2;lia
   .refine aN (sp k s hD NM b c d hk) (oJ ((cm _ _ rfl).trans (by rw[h2];rfl)) (J3 ((cm _ _ rfl).trans (by rw[h2];rfl)) ?_));refine aN (dZ (lt _ _ _ rfl (aH (aH rfl (aH rfl rfl (b_ _ _ 0x4)) (cY _ _)) rfl (b_ _ _ 0x4)) 0x1 0x1) rfl) ?_;refine aN (dZ (lt _ _ _ rfl (aH (aH rfl (aH rfl rfl (dM _ _ 0x4 0x4)) (cY _ _)) rfl (b_ _ _ 0x4)) 0x1 0x1) rfl) ?_;refine(oM (aH (aH (aH (slP _ rfl rfl) rfl (ap _ _ 0x1 0x2)) rfl (ap _ _ (by simp only[bq,eB];lia) 0x2)) (slQ _ rfl rfl) (ap _ _ (by simp only[bq,eB];lia) 0x1)) rfl (by rw[bG];lia) rfl).trans ?_;simp only[cu,wt,fq];rfl
  .refine⟨λs=>P++[97+s]++Q,⟨λs t hs ht e=>?_,λs hs=>by simp only[bq,br,fj];lia⟩,λk s hs hk NM b c d hN=>⟨.int s,c,d,λhD=>?_⟩⟩
   .have e1:=aCr e;simp only[Dq,and_true] at e1;lia
   .refine aN (sp k s hD NM b c d hk) (oJ ((cm _ _ rfl).trans (by rw[fA.mpr h1])) (oJ ((cm _ _ rfl).trans (by rw[fA.mpr h2])) ?_));refine(oM (aH (aH (slP _ rfl rfl) (lt _ _ s rfl rfl 0x1 0x1) (ap _ _ 0x1 0x2)) (slQ _ rfl rfl) (ap _ _ (by simp only[bq,eB];lia) 0x1)) rfl (by rw[bG];lia) rfl).trans ?_;rw[gV];rfl
theorem GC{nm:ah->ae ah}(G:∀(k:ai) (s:ah),s<26->(k*turn+shift) % 26=s->∀(NM:ae D) (b c d:D),NM.length<100->∃b' c' d',∀hD,nb (ns hD chce turn shift cell size base at_ NM (.int k) b c d)=.ok (.nx (ns hD chce turn shift cell size base at_ (NM++[.str (tx (nm s))]) (.int k) b' c' d'))):∀(m j:ah)(NM:ae D)(a b c d:D),NM.length+m<100->∃a' b' c' d',∀hD,xV (tg1 10) nb ((hI j m).map λ(k:ah)=>θ (0+(k:ai))) (ns hD chce turn shift cell size base at_ NM a b c d)=.ok (.nx (ns hD chce turn shift cell size base at_ (NM++(hI j m).map λ(k:ah)=>π (tx (nm (((k:ai)*turn+shift) % 26).toNat))) a' b' c' d'))
 |0,j,NM,a,b,c,d,_=>⟨a,b,c,d,λhD=>by
  rw[List.range'_zero,gi,gi,cv];rfl⟩
 |m+1,j,NM,a,b,c,d,h=>by
  obtain⟨s,hs,es⟩:=aCq ((j:ai)*turn+shift);obtain⟨b1,c1,d1,e1⟩:=G (0+(j:ai)) s hs (by rw[AD];exact es) NM b c d 0x1;obtain⟨a2,b2,c2,d2,e2⟩:=GC G m (j+1) (NM++[.str (tx (nm s))]) (.int (0+(j:ai))) b1 c1 d1 (by rw[bq,eB];lia);refine⟨a2,b2,c2,d2,λhD=>?_⟩;rw[ko,bd,bd,es,gV];refine cH rfl (e1 hD) ?_;rw[e2 hD,cu];rfl
theorem aKp(i:ai)(h0:0<=i)(h1:i<6):∃t:ai,getD (.lst [.int 1,.int 3,.int 5,.int 7,.int 9,.int 25]) (.int i)=.ok (.int t)/\(t=1\/t=3\/t=5\/t=7\/t=9\/t=25):=by
 have:i=0\/i=1\/i=2\/i=3\/i=4\/i=5:=by lia
 rcases this with h|h|h|h|h|h<;>subst h
 .exact⟨1,rfl,by decide⟩
 .exact⟨3,rfl,by decide⟩
 .exact⟨5,rfl,by decide⟩
 .exact⟨7,rfl,by decide⟩
 .exact⟨9,rfl,by decide⟩
 .exact⟨25,rfl,by decide⟩
theorem aG2(ht:t=1\/t=3\/t=5\/t=7\/t=9\/t=25){j k:ah}(hj:j<26)(hk:k<26)(h:((j:ai)*t+s) % 26=((k:ai)*t+s) % 26):j=k:=by
 rcases ht with e|e|e|e|e|e<;>subst e<;>lia
theorem QC(n:ah):∀N:ae Str,υ n (N.map π)=ag
 |[]=>by rw[gi,υ]
 |x::N=>by
  rw[bd,υ,QC n N];rw[D.jC]<;>simp
theorem WD(x:Str):(π x).jC bB=ag:=by
 unfold bB;rw[D.jC]<;>simp
theorem QD:∀N:ae Str,ε (N.map π)=ag
 |[]=>rfl
 |x::N=>by
  rw[bd,ε,QD N];rfl
theorem aCs(x:Str):∀N:ae Str,(N.map π).any (λy=>eqD y (.str x))=ϒ (x∈N)
 |[]=>rfl
 |y::N=>by
  rw[bd,ka,aCs x N];show((y==x)||_)=_;by_cases h:y=x
  .simp[h]
  .have h2:¬x=y:=λe=>h e.symm
   simp[h,h2]
theorem in_str(x:Str)(N:ae Str):eG .isin (.str x) (.lst (N.map π))=.ok (.bl (ϒ (x∈N))):=by
 show(if (π x).jC bB&&υ bB (N.map π) then τ (χ ((N.map π).any λy=>eqD y (.str x))) else .bad)=_;rw[WD,QC,aCs];rfl
theorem fC{fr:aw}(h:a ρ=.ok (.lst xs)):bH a fr ρ=.ok (xs,fr):=by
 unfold bH;rw[h,ι];show τ (xs,fr||false)=_;rw[zg]
theorem gB{fr:aw}(h:a ρ=.ok (.tup xs)):bH a fr ρ=.ok (xs,fr||ε xs):=by
 unfold bH;rw[h,ι];show τ (xs,fr||(ν xs).pure)=_;rw[ξ]
theorem gQ(d y:α->D)(xs:ae α)(hρ:ρ.length=n)(h1:it ρ=.ok (xs.map d,kk))(h2:xs.length<=100000)(h3:∀a∈xs,f (ρ++[d a])=.ok (y a)/\(k||(y a).pure)=ag):dB n it lO gG f k ρ=.ok (.lst (xs.map y)):=by
 refine RZ h1 (by rw[az,bG];lia) ?_;have:∀(xs:ae α)(acc:ae D),(∀a∈xs,f (ρ++[d a])=.ok (y a)/\(k||(y a).pure)=ag)->oW (K6 n lO gG f k ρ) acc (xs.map d)=.ok (acc++xs.map y):=by
  intro xs;induction xs with
  |nil=>intro acc _;simp[oW]
  |cons x xs ih=>
   intro acc h;rw[bd,oW,zW hρ rfl λ_=>h x (de ..)];show oW _ (acc++[y x]) _=_;rw[ih _ λa ha=>h a (dg _ ha),cu];rfl
 exact(this xs [] h3).trans (by rw[fq])
theorem xN(d y:α->D)(p:α->aw)(xs:ae α)(hρ:ρ.length=n)(h1:it ρ=.ok (xs.map d,kk))(h2:xs.length<=100000)(hc:∀a∈xs,c (ρ++[d a])=.ok (p a))(h3:∀a∈xs,p a=ag->f (ρ++[d a])=.ok (y a)/\(k||(y a).pure)=ag):dB n it lO c f k ρ=.ok (.lst ((xs.filter p).map y)):=by
 refine RZ h1 (by rw[az,bG];lia) ?_;have:∀(xs:ae α)(acc:ae D),(∀a∈xs,c (ρ++[d a])=.ok (p a))->(∀a∈xs,p a=ag->f (ρ++[d a])=.ok (y a)/\(k||(y a).pure)=ag)->oW (K6 n lO c f k ρ) acc (xs.map d)=.ok (acc++(xs.filter p).map y):=by
  intro xs;induction xs with
  |nil=>intro acc _ _;simp[oW]
  |cons x xs ih=>
   intro acc hc h;rw[bd,oW,zW hρ (hc x (de ..)) λe=>h x (de ..) e];show oW _ _ _=_;rw[ih _ (λa ha=>hc a (dg _ ha)) λa ha=>h a (dg _ ha)];by_cases hp:p x
   .simp[hp]
   .simp[hp]
 exact(this xs [] hc h3).trans (by rw[fq])
theorem aRt(h1:o ρ=.ok x)(h2:a ρ=.ok xs)(h3:f x xs=r):bM f o a ρ=r:=by
 unfold bM;rw[h1,ι,h2,ι,h3]
theorem aRu(a b:ae ah)(h:tx a++("e" : Str)=tx b++("e" : Str)):a=b:=by
 have e:("e" : Str)=tx [101]:=rfl;rw[e,aCp,aCp] at h;exact Dp (aHl h)
theorem aG3(cs:ae ai)(n:ah)(hn:n+3<=100000):∃N:ae Str,N.length=26/\N.Nodup/\∀b,iR [.cel b (dk cs n)]=.ok (.tup [.lst (N.map π),.cel b (dk cs (n+3))]):=by
 obtain⟨chce,q1⟩:=jW cs n 0x1;obtain⟨cell,q2⟩:=jW cs (n+1) 0x1;obtain⟨raw,q3⟩:=jW cs (n+2) 0x1;obtain⟨turn,t1,t2⟩:=aKp (chce / 3 % 6) 0x1 0x1
 let shift:=chce / 18 % 26
 have hs0:0<=shift:=by show 0<=chce / 18 % 26;lia
 have hs1:shift<26:=by show chce / 18 % 26<26;lia
 let size:=cell % 8
 have hz0:0<=size:=by show 0<=cell % 8;lia
 have hz1:size<8:=by show cell % 8<8;lia
 let bcs:ae ah:=(aE size.toNat).map λ(k:ah)=>97+((cell / 8+(0+(k:ai))*(shift+cell / 40 % 5)) % 26).toNat
 have hbl:bcs.length<=10:=by show(di _ _).length<=10;rw[az,ff];lia
 let at_:=raw % (size+1)
 let base:Str:=if chce % 3=2 then iq (tx bcs) aj (aa 6) else tx bcs
 have hbase:base.length<=10:=by
  show(if chce % 3=2 then iq (tx bcs) aj (aa 6) else tx bcs).length<=10;split
  .exact dj (wv ..) (by rw[xZ];exact hbl)
  .rw[xZ];exact hbl
 have hts:iI turn=ag:=VJ _ 0x1 0x1;obtain⟨nm,M,G⟩:=aG1 hbase hts hs0 hs1;obtain⟨a',b',c',d',L⟩:=GC G 26 0 [] .uD .uD .uD .uD 0x4
 let sp:ah->ah:=λk=>(((k:ai)*turn+shift) % 26).toNat
 have spl:∀k,sp k<26:=λk=>by show(((k:ai)*turn+shift) % 26).toNat<26;lia
 have spi:∀j k,j<26->k<26->sp j=sp k->j=k:=λj k hj hk e=>aG2 (s:=shift) t2 hj hk (by
  have e':(((j:ai)*turn+shift) % 26).toNat=(((k:ai)*turn+shift) % 26).toNat:=e;lia)
 have nod:∀g:ae ah->Str,(∀a b,g a=g b->a=b)->((hI 0 26).map λk=>g (nm (sp k))).Nodup:=λg hg=>by
  rw[Dr,AE];refine Ds ?_ (Dr.mp (AF (s:=0) (n:=26) (step:=1) 0x4));intro j k hj hk hne e;rw[xD] at hj hk;exact hne (spi j k 0x1 0x1 (M.inj _ _ (spl j) (spl k) (hg _ _ e)))
 have pre:∀(b:ah)(R:Res Fl)(g:FS),g (ns (.cel b (dk cs (n+3))) chce turn shift cell size base at_ (((hI 0 26).map λk=>tx (nm (sp k))).map π) a' b' c' d')=R->(bA (bZ ak 1 (bC (.str "abcdefghijklmnopqrstuvwxyz")) ag) (bA (mX ak 2 (eV bD 1 0 aU)) (bA (bZ ak 3 (b2 getD (i_ (aC dR (aC kW (aC aLm (aC aMm (aC aLn (aC (bC (.int 25)) aU))))))) (b2 (bJ .mod) (b2 (bJ .fdiv) fH kW) aIq)) ak) (bA (bZ ak 4 (b2 (bJ .mod) (b2 (bJ .fdiv) fH aIr) yD) ag) (bA (mX ak 5 (eV bD 1 0 aU)) (bA (bZ ak 6 (b2 (bJ .mod) jY aMn) ag) (bA (bZ ak 7 (bM joinM (bC (.str "")) (aC (dB 14 (lX (aC t_ aU) jN) lO gG (b2 getD fK (b2 (bJ .mod) (b2 (bJ .add) (b2 (bJ .fdiv) jY aMn) (b2 J2 jM (b2 (bJ .add) gU (b2 (bJ .mod) (b2 (bJ .fdiv) jY YG) aLm)))) yD)) ak) aU)) ag) (bA (mX ak 8 (x2L (bJ .mod) (eV bD 1 0 aU) (b2 (bJ .add) t_ dR))) (bA (sIf (bTB (b2 (eG .eq) (b2 (bJ .mod) fH kW) jD)) (bZ ak 7 (oY oR g_ (gF aIq)) ag) yL) (bA (bZ ag 9 (i_ aU) ag) (bA (J1 (lX (aC yD aU) jN) (tg1 10) nb) g))))))))))) [.cel b (dk cs n),.uD,.uD,.uD,.uD,.uD,.uD,.uD,.uD,.uD,.uD,.uD,.uD,.uD]=R:=λb R g hg=>by
  refine aN (ρ':=[.cel b (dk cs n),.str abc,.uD,.uD,.uD,.uD,.uD,.uD,.uD,.uD,.uD,.uD,.uD,.uD]) (cR (i:=1) rfl) ?_;refine aN (ρ':=[.cel b (dk cs (n+1)),.str abc,.int chce,.uD,.uD,.uD,.uD,.uD,.uD,.uD,.uD,.uD,.uD,.uD]) (jA (i:=2) (BW q1 rfl rfl) rfl) ?_;refine aN (ρ':=[.cel b (dk cs (n+1)),.str abc,.int chce,.int turn,.uD,.uD,.uD,.uD,.uD,.uD,.uD,.uD,.uD,.uD]) (dZ (i:=3) (aH rfl (aH (aH rfl rfl (dM _ _ 0x4 0x4)) rfl (b_ _ _ 0x4)) t1) rfl) ?_;refine aN (ρ':=[.cel b (dk cs (n+1)),.str abc,.int chce,.int turn,.int shift,.uD,.uD,.uD,.uD,.uD,.uD,.uD,.uD,.uD]) (cR (i:=4) (aH (aH rfl rfl (dM _ _ 0x4 0x4)) rfl (b_ _ _ 0x4))) ?_;refine aN (ρ':=[.cel b (dk cs (n+2)),.str abc,.int chce,.int turn,.int shift,.int cell,.uD,.uD,.uD,.uD,.uD,.uD,.uD,.uD]) (jA (i:=5) (BW q2 rfl rfl) rfl) ?_;refine aN (ρ':=[.cel b (dk cs (n+2)),.str abc,.int chce,.int turn,.int shift,.int cell,.int size,.uD,.uD,.uD,.uD,.uD,.uD,.uD]) (cR (i:=6) (aH rfl rfl (b_ _ _ 0x4))) ?_;refine aN (ρ':=[.cel b (dk cs (n+2)),.str abc,.int chce,.int turn,.int shift,.int cell,.int size,.str (tx bcs),.uD,.uD,.uD,.uD,.uD,.uD]) (cR (i:=7) ?_) ?_
  .have hc:=gQ (n:=14) (it:=lX (aC t_ aU) jN) (f:=b2 getD fK (b2 (bJ .mod) (b2 (bJ .add) (b2 (bJ .fdiv) jY aMn) (b2 J2 jM (b2 (bJ .add) gU (b2 (bJ .mod) (b2 (bJ .fdiv) jY YG) aLm)))) yD)) (k:=ak) (ρ:=[.cel b (dk cs (n+2)),.str abc,.int chce,.int turn,.int shift,.int cell,.int size,.uD,.uD,.uD,.uD,.uD,.uD,.uD]) (λk:ah=>θ (0+(k:ai))) (λk:ah=>.str (one (97+((cell / 8+(0+(k:ai))*(shift+cell / 40 % 5)) % 26).toNat))) (aE size.toNat) rfl (wB (n:=size) (aD rfl rfl) 0x1 0x1) (by rw[ff];lia) (λk _=>⟨aH (x:=.str abc) rfl (aH (aH (aH (x:=.int cell) rfl rfl (dM _ _ 0x4 0x4)) (aH (x:=.int (0+(k:ai))) rfl (aH (x:=.int shift) rfl (aH (aH (x:=.int cell) rfl rfl (dM _ _ 0x4 0x4)) rfl (b_ _ _ 0x4)) (cY _ _)) (nT _ _ (VJ _ 0x1 0x1))) (cY _ _)) rfl (b_ _ _ 0x4)) (letter _ 0x1 0x1),rfl⟩);have hj:=aKn bcs 0x1;rw[dw] at hj;exact aRt rfl (aD hc rfl) hj
  refine aN (ρ':=[.cel b (dk cs (n+3)),.str abc,.int chce,.int turn,.int shift,.int cell,.int size,.str (tx bcs),.int at_,.uD,.uD,.uD,.uD,.uD]) (jA (i:=8) (PQ (BW q3 rfl rfl) rfl (aH (x:=.int size) rfl rfl (cY _ _)) (b_ _ _ 0x1) rfl) rfl) ?_;refine aN (ρ':=[.cel b (dk cs (n+3)),.str abc,.int chce,.int turn,.int shift,.int cell,.int size,.str base,.int at_,.uD,.uD,.uD,.uD,.uD]) ?_ ?_
  .by_cases h2:chce % 3=2
   .have eb:base=iq (tx bcs) aj (aa 6):=ao h2;rw[eb];exact J3 (cJ (aH (aH rfl rfl (b_ _ _ 0x4)) rfl ((mK _ _).trans (by rw[h2];rfl)))) (cR (i:=7) (TX (x:=tx bcs) rfl rfl (kO rfl) (by rw[xZ];lia)))
   .have eb:base=tx bcs:=ax h2;rw[eb];exact oJ (cJ (aH (aH rfl rfl (b_ _ _ 0x4)) rfl ((mK _ _).trans (by rw[fA.mpr h2])))) rfl
  refine aN (ρ':=ns (.cel b (dk cs (n+3))) chce turn shift cell size base at_ [] .uD .uD .uD .uD) (d7 (i:=9) rfl rfl) ?_;refine aN (oK (wB (n:=26) (aD rfl rfl) 0x4 0x4) ?_) hg;have e:=L (.cel b (dk cs (n+3)));rw[fq] at e;rw[dw];exact e
 generalize hN0:((hI 0 26).map λk=>tx (nm (sp k)))=N0 at pre;have l0:N0.length=26:=by rw[<-hN0,az];rfl
 have n0:N0.Nodup:=hN0▸nod tx λ_ _ e=>aHl e
 have tl:∀x∈N0,x.length<=100:=λx hx=>by
  rw[<-hN0,cK] at hx;obtain⟨k,_,rfl⟩:=hx;rw[xZ];exact M.len _ (spl k)
 have cond:∀(hD:D),(bOr (bTB (b2 inX (bC (.str "copy")) mQ)) (bTB (b2 inX (bC (.str "drop")) mQ))) (ns hD chce turn shift cell size base at_ (N0.map π) a' b' c' d')=.ok (ϒ (("copy" : Str)∈N0)||ϒ (("drop" : Str)∈N0)):=λhD=>aOs (cJ (aH rfl rfl (in_str _ _))) (cJ (aH rfl rfl (in_str _ _)))
 have fin:∀(b:ah)(N:ae Str),(m8 9) (ns (.cel b (dk cs (n+3))) chce turn shift cell size base at_ (N.map π) a' b' c' d')=.ok (.rt (.tup (.lst (N.map π)::ns (.cel b (dk cs (n+3))) chce turn shift cell size base at_ (N.map π) a' b' c' d'))):=λb N=>yR rfl rfl
 by_cases hc:(ϒ (("copy" : Str)∈N0)||ϒ (("drop" : Str)∈N0))=ag
 .refine⟨N0.map λx=>x++("e" : Str),by rw[az,l0],?_,λb=>?_⟩
  .rw[<-hN0,dw];exact nod (λa=>tx a++("e" : Str)) aRu
  .refine BR (k:=1) (ρ:=ns (.cel b (dk cs (n+3))) chce turn shift cell size base at_ ((N0.map λx=>x++("e" : Str)).map π) a' b' c' d') (pre b _ _ (aN (J3 ((cond _).trans (by rw[hc])) (d7 (i:=9) (d:=.lst ((N0.map λx=>x++("e" : Str)).map π)) ?_ (QD _))) (fin b _)));rw[dw];exact gQ (n:=14) π (λx=>π (x++("e" : Str))) N0 rfl (fC rfl) 0x1 (λx hx=>⟨aH rfl rfl (aB0 _ _ (by have:=tl x hx;rw[bG];show x.length+1<=_;lia)),rfl⟩)
 .refine⟨N0,l0,n0,λb=>?_⟩;exact BR (k:=1) (ρ:=ns (.cel b (dk cs (n+3))) chce turn shift cell size base at_ (N0.map π) a' b' c' d') (pre b _ _ (aN (oJ ((cond _).trans (by rw[zy.mpr hc])) rfl) (fin b _)))
theorem aG4(cs:ae ai)(n:ah)(hn:n+3<=100000):∃N:ae Str,N.length=26/\N.Nodup/\ch1 iR (dk cs n) []=.ok (.lst (N.map π),dk cs (n+3)):=by
 obtain⟨N,h1,h2,h3⟩:=aG3 cs n hn;exact⟨N,h1,h2,E_ h3⟩
theorem aCt(n d a:ah):aH0 n d (aa (a:ai))=min a n:=by
 show(if (a:ai)<0 then (max ((a:ai)+(n:ai)) 0).toNat else (min (a:ai) (n:ai)).toNat)=_;rw[ax 0x1];lia
theorem WF(n d:ah):aH0 n d aj=d:=rfl
theorem aCu(xs:ae α)(a:ah):cutD xs aj (aa (a:ai))=xs.take a:=by
 unfold cutD;rw[aCt,WF,sg,Nat.sub_zero];by_cases h:a<=xs.length
 .rw[AG h]
 .rw[Dt 0x1,sh (bt _),sh 0x1]
theorem yS(xs:ae α)(a:ah):cutD xs (aa (a:ai)) aj=xs.drop a:=by
 unfold cutD;rw[aCt,WF];by_cases h:a<=xs.length
 .rw[AG h,sh (by rw[mq];exact bt _)]
 .rw[Dt 0x1,ik (bt _),ik 0x1,List.take_nil]
noncomputable def sy(N:ae Str)(i:ah):D:=.str (N.getD i "")
theorem aOt(N:ae Str)(h:N.length=26):N.map π=(aE 26).map (sy N):=by
 apply zu
 .simp[h]
 .intro i h1 h2;rw[xE,xE,Du];have h1':i<N.length:=by rw[az] at h1;exact h1
  show π (N[i]'h1')=π (N.getD i "");rw[cj,dq h1'];rfl
theorem yG(h:N.length=26)(hN:N.Nodup)(hi:i<26)(hj:j<26):eqD (sy N i) (sy N j)=ϒ (i=j):=by
 show((N.getD i "")==(N.getD j ""))=_;have hi':i<N.length:=by lia
 have hj':j<N.length:=by lia
 rw[cj,cj,dq hi',dq hj'];show(N[i]==N[j])=_;by_cases e:i=j
 .subst e;simp
 .have:¬N[i]=N[j]:=λg=>e ((AZ hN).mp g)
  simp[e,this]
theorem bO(N:ae Str):∀l:ae ah,ε (l.map (sy N))=ag
 |[]=>rfl
 |i::l=>by
  rw[bd,ε,bO N l];rfl
theorem gR(N:ae Str)(n:ah):∀l:ae ah,υ n (l.map (sy N))=ag
 |[]=>by rw[gi,υ]
 |x::l=>by
  rw[bd,υ,gR N n l];unfold sy;rw[D.jC]<;>simp
theorem xO(N:ae Str)(i:ah):(sy N i).jC bB=ag:=WD _
theorem aCv(h:N.length=26)(hN:N.Nodup)(hi:i<26):∀l:ae ah,(∀j∈l,j<26)->(l.map (sy N)).any (λy=>eqD y (sy N i))=ϒ (i∈l)
 |[],_=>rfl
 |j::l,hl=>by
  rw[bd,ka,aCv h hN hi l λk hk=>hl k (dg _ hk),yG h hN (hl j (de ..)) hi];by_cases e:j=i
  .simp[e]
  .have e2:¬i=j:=λg=>e g.symm
   simp[e,e2]
theorem fO{l:ae α}{i:ah}{a:α}{x:ai}(hx:x=i)(h:l[i]?=aa a):getD (.lst (l.map f)) (.int x)=.ok (f a):=by
 subst hx;obtain⟨hi,e⟩:=dA.mp h;show ο ((ixD (l.map f).length (i:ai)).bind λj=>(l.map f)[j]?)=_;unfold ixD;rw[ao 0x1,az,ao 0x1];simp[h]
theorem JQ{α:Type}{f:α->D}{l:ae α}{i:ah}{a:α}{x:ai}(hx:x=i)(h:l[i]?=aa a):getD (.tup (l.map f)) (.int x)=.ok (f a):=fO hx h
theorem iC{n i:ah}{x:ai}(hx:x=i)(hi:i<n):getD (.lst ((aE n).map f)) (.int x)=.ok (f i):=fO hx (by rw[Dv hi])
noncomputable abbrev Rw:=ah×ah×ae ah
noncomputable abbrev Tk:=ah×ah×ah×ae ah
def rwD(N:ae Str)(r:Rw):D:=.tup [sy N r.1,sy N r.2.1,.tup (r.2.2.map (sy N))]
def tkD(N:ae Str)(r:Tk):D:=.tup [sy N r.1,sy N r.2.1,sy N r.2.2.1,.tup (r.2.2.2.map (sy N))]
theorem dW(N:ae Str)(r:Rw):(rwD N r).pure=ag:=by
 show((sy N r.1).pure&&((sy N r.2.1).pure&&((ν (r.2.2.map (sy N))).pure&&ag)))=ag;rw[ξ,bO];rfl
theorem xP(N:ae Str)(r:Tk):(tkD N r).pure=ag:=by
 show((sy N r.1).pure&&((sy N r.2.1).pure&&((sy N r.2.2.1).pure&&((ν (r.2.2.2.map (sy N))).pure&&ag))))=ag;rw[ξ,bO];rfl
theorem bQ{f:α->D}(h:∀a,(f a).pure=ag):∀l:ae α,ε (l.map f)=ag
 |[]=>rfl
 |x::l=>by
  rw[bd,ε,h,bQ h l];rfl
theorem sE(h1:a ρ=.ok (.lst xs))(h2:lo ρ=.ok l)(h3:hi ρ=.ok h)(hx:ε xs=ag):oY a lo hi ρ=.ok (.lst (cutD xs l h)):=by
 unfold oY;rw[h1,ι,h2,ι,h3,ι];show(if ε xs then τ (ψ (cutD xs l h)) else .bad)=_;rw[ao hx]
def lsD(N:ae Str)(m:ah)(l:ah->ah):ae (D×D):=(aE m).map λk=>(sy N k,.int (l k))
theorem aHn(h:f ρ=.ok (.int i)):b1 aEd f ρ=.ok (.int (-i)):=by
 unfold b1;rw[h];rfl
theorem DK(h:f ρ=.ok x)(h2:g x=.ok y):b1 g f ρ=.ok y:=by
 unfold b1;rw[h];exact h2
theorem aOu(h1:a ρ=.ok ag)(h2:b ρ=r):aJq a b ρ=r:=by
 unfold aJq;rw[h1,ι,ao rfl,h2]
theorem aOv(h1:a ρ=.ok ak):aJq a b ρ=.ok (ak,ρ):=by
 unfold aJq;rw[h1,ι,ax 0x2]
structure Base(m:ah)(q:ah->ae ah)(l:ah->ah):Prop where
 l1:∀k,k<m->1<=l k/\l k<=4
 q1:∀k,k<m->∀j∈q k,j<m
 q2:∀k,k<m->(q k).length<=3
 le:∀k,k<m->1+((q k).map l).sum<=l k
theorem base0(m:ah):Base m (λ_=>[]) (λ_=>1):=⟨λ_ _=>⟨by decide,by decide⟩,λ_ _ j hj=>by simp at hj,λ_ _=>by simp,λ_ _=>by simp⟩
theorem aRv(m p:ah)(hp:p<m)(hm:m<=3):Base m (λk=>if k=m-1 then aE p else []) (λk=>if k=m-1 then 1+p else 1):=by
 have:(m=1/\p=0)\/(m=2/\p=0)\/(m=2/\p=1)\/(m=3/\p=0)\/(m=3/\p=1)\/(m=3/\p=2):=by lia
 rcases this with ⟨rfl,rfl⟩|⟨rfl,rfl⟩|⟨rfl,rfl⟩|⟨rfl,rfl⟩|⟨rfl,rfl⟩|⟨rfl,rfl⟩<;>refine⟨?_,?_,?_,?_⟩<;>decide
abbrev ss(hD:D)(N:ae Str)(cell:ai)(m:ah)(M:ae Rw)(l:ah->ah)(a b c d e f:D):ae D:=[hD,.lst ((aE 26).map (sy N)),.int cell,.int m,.lst ((aE m).map (sy N)),.lst (M.map (rwD N)),.dct (lsD N m l),a,b,c,d,e,f]
noncomputable def mk0(m:ah)(q:ah->ae ah):ae Rw:=(aE m).map λk=>(3+k,k,q k)
theorem aKq:xJ=bA sg0 (bA sg1 (bA sg2 (bA sg3 (bA sg4 (bA sg5 (bA sg6 (bA sgA (bA sg7 (bA sg8 (bA sg9 aT1)))))))))):=rfl
section
variable {cs:ae ai} {N:ae Str} (hN:N.length=26) (hd:N.Nodup)
theorem aCw(f:ah->D)(n a:ah)(h:a<=n):cutD ((aE n).map f) aj (aa (a:ai))=(aE a).map f:=by
 rw[aCu,<-wz,List.take_range,AG h]
theorem aOw{m:ah}(hm:m<=26)(a b c d e f g h i:D):sg2 [hD,.lst ((aE 26).map (sy N)),.int cell,.int m,a,b,c,d,e,f,g,h,i]=.ok (.nx [hD,.lst ((aE 26).map (sy N)),.int cell,.int m,.lst ((aE m).map (sy N)),b,c,d,e,f,g,h,i]):=
 d7 (by rw[<-aCw (sy N) 26 m hm];exact sE rfl rfl (kO rfl) (bO ..)) (bO ..)
theorem aOx{m:ah}(hm:m<=3)(b c d e f g h i:D):sg3 [hD,.lst ((aE 26).map (sy N)),.int cell,.int m,.lst ((aE m).map (sy N)),b,c,d,e,f,g,h,i]=.ok (.nx [hD,.lst ((aE 26).map (sy N)),.int cell,.int m,.lst ((aE m).map (sy N)),.lst ((mk0 m λ_=>[]).map (rwD N)),c,d,e,f,g,h,i]):=by
 refine d7 ?_ (bQ (dW N) _);unfold mk0;rw[dw];refine gQ (λk:ah=>θ (0+(k:ai))) _ (aE m) rfl (wB (n:=(m:ai)) (aD rfl rfl) 0x1 0x1) (by rw[ff];lia) λk hk=>?_
 rw[gq] at hk;exact⟨eE (aD (aH rfl (aH rfl rfl (cY _ _)) (iC (i:=3+k) 0x1 0x1)) (aD (aH rfl rfl (iC (i:=k) 0x1 hk)) (aD (eE (xs:=[]) rfl (by rw[bG];simp)) rfl))) (by rw[bG];simp),rfl⟩
include hN hd in
theorem aG5(h1:1<=m)(h3:m<=3):FN (.lst ((aE m).map λk=>.tup [sy N k,.int 1]))=.ok (.dct (lsD N m λ_=>1)):=by
 have e:∀i j,i<3->j<3->¬i=j->eqD (sy N i) (sy N j)=ak:=λi j hi hj g=>by rw[yG hN hd 0x1 0x1];exact cS g
 have e01:=e 0 1 0x4 0x4 0x4;have e02:=e 0 2 0x4 0x4 0x4;have e12:=e 1 2 0x4 0x4 0x4;have:m=1\/m=2\/m=3:=by lia
 rcases this with g|g|g<;>subst g
 .rfl
 .show τ (D.dct (putD (putD [] (sy N 0) (.int 1)) (sy N 1) (.int 1)))=_;simp only[putD,e01,i5,gf];rfl
 .show τ (D.dct (putD (putD (putD [] (sy N 0) (.int 1)) (sy N 1) (.int 1)) (sy N 2) (.int 1)))=_;simp only[putD,e01,e02,e12,i5,gf];rfl
theorem aKr(m:ah)(l:ah->ah):inner (.dct (lsD N m l))=ag:=by
 show ε ((lsD N m l).map (·.2))=ag;unfold lsD;rw[dw];exact bQ (λ_=>rfl) _
include hN hd in
theorem aOy{m:ah}(h1:1<=m)(hm:m<=3)(c d e f g h i:D):sg4 [hD,.lst ((aE 26).map (sy N)),.int cell,.int m,.lst ((aE m).map (sy N)),M,c,d,e,f,g,h,i]=.ok (.nx [hD,.lst ((aE 26).map (sy N)),.int cell,.int m,.lst ((aE m).map (sy N)),M,.dct (lsD N m λ_=>1),d,e,f,g,h,i]):=by
 refine d7 (DK ?_ (aG5 hN hd h1 hm)) (aKr m _);exact gQ (sy N) (λk=>.tup [sy N k,.int 1]) (aE m) rfl (fC rfl) (by rw[ff];lia) λk hk=>⟨eE (aD rfl (aD rfl rfl)) (by rw[bG];simp),rfl⟩
include hN hd in
theorem aOz(hn:n<=1000)(h1:1<=m)(hm:m<=3):∃(q:ah->ae ah)(l:ah->ah)(n':ah)(x:D),Base m q l/\n'<=n+1/\∀b,sg5 (ss (.cel b (dk cs n)) N cell m (mk0 m λ_=>[]) (λ_=>1) .uD .uD .uD .uD .uD .uD)=.ok (.nx (ss (.cel b (dk cs n')) N cell m (mk0 m q) l x .uD .uD .uD .uD .uD)):=by
 by_cases h2:1<m
 .obtain⟨v,qv⟩:=jW cs n 0x1;have hx:∀b,(aJq (bTB (b2 (yE .gt) eF dR)) (xTB (x2L (eG .eq) (x2L (bJ .mod) (eV bD 1 0 aU) kW) dR))) (ss (.cel b (dk cs n)) N cell m (mk0 m λ_=>[]) (λ_=>1) .uD .uD .uD .uD .uD .uD)=.ok (v % 3==1,ss (.cel b (dk cs (n+1))) N cell m (mk0 m λ_=>[]) (λ_=>1) .uD .uD .uD .uD .uD .uD):=λb=>
   aOu (cJ (aH rfl rfl ((cmp_gt _ _).trans (by rw[bw 0x1])))) (aOp (PQ (PQ (BW qv rfl rfl) rfl rfl (b_ _ _ 0x4) rfl) rfl rfl (mK _ _) rfl))
  by_cases h3:v % 3=1
  .let p:ah:=(1+cell / 12 % ((m:ai)-1)).toNat
   have p0:0<=cell / 12 % ((m:ai)-1):=su _ 0x1;have p1:cell / 12 % ((m:ai)-1)<(m:ai)-1:=sv _ 0x1;have hp:(p:ai)=1+cell / 12 % ((m:ai)-1):=by
    show(((1+cell / 12 % ((m:ai)-1)).toNat:ah):ai)=_;lia
   refine⟨_,_,n+1,.tup ((aE p).map (sy N)),aRv m p 0x1 hm,bt _,λb=>aCm (hx b) ?_⟩;rw[show(v % 3==1)=ag from by rw[h3];rfl,ao rfl];refine aN (dZ (bF (aD (x:=.lst ((aE p).map (sy N))) ?_ rfl) rfl) (bO ..)) ?_
   .rw[<-aCw (sy N) m p 0x1,hp];exact sE rfl rfl (kO (aH rfl (aH (aH (x:=.int cell) rfl rfl (dM _ _ 0x4 0x4)) (aH (x:=.int m) rfl rfl (xY _ _)) (b_ _ _ 0x1)) (cY _ _))) (bO ..)
   have gk:∀(ρ:ae D),cD 4 ρ=.ok (.lst ((aE m).map (sy N)))->b2 getD gU (b1 aEd dR) ρ=.ok (sy N (m-1)):=λρ hρ=>aH hρ (aHn rfl) (by
    show ο ((ixD ((aE m).map (sy N)).length (-1:ai)).bind λj=>((aE m).map (sy N))[j]?)=_;unfold ixD;rw[ax 0x4,az,ff,ao 0x1,show(((-1:ai)+(m:ai)).toNat)=m-1 from by lia];simp only[Dm];rw[ib,Dv 0x1];rfl)
   have hrow:∀ρ:ae D,cD 1 ρ=.ok (.lst ((aE 26).map (sy N)))->cD 3 ρ=.ok (.int m)->cD 4 ρ=.ok (.lst ((aE m).map (sy N)))->cD 7 ρ=.ok (.tup ((aE p).map (sy N)))->iK (aC (b2 getD fK (b2 (bJ .add) jD eF)) (aC (b2 getD gU (b1 aEd dR)) (aC oR aU))) ρ=.ok (rwD N (2+m,m-1,aE p)):=λρ g1 g3 g4 g7=>eE (aD (aH g1 (aH rfl g3 (cY _ _)) (iC (i:=2+m) 0x1 0x1)) (aD (gk _ g4) (aD g7 rfl))) (by rw[bG];simp)
   refine aN (ρ':=ss (.cel b (dk cs (n+1))) N cell m (mk0 m λk=>if k=m-1 then aE p else []) (λ_=>1) (.tup ((aE p).map (sy N))) .uD .uD .uD .uD .uD) (aCl (i:=5) (j:=m-1) (k:=-1) (xs:=(mk0 m λ_=>[]).map (rwD N)) (d:=rwD N (2+m,m-1,aE p)) (hrow _ rfl rfl rfl rfl) (aHn rfl) rfl (dW ..) ?_ ?_) ?_
   .unfold ixD mk0;rw[ax 0x4,az,az,ff,ao 0x1]
    congr 1
    lia
   .have:m=2\/m=3:=by lia
    rcases this with g|g<;>subst g<;>rfl
   refine(VH (f:=b2 getD gU (b1 aEd dR)) (g:=b2 (bJ .add) dR (aZ kY (aC oR aU))) (ρ:=ss (.cel b (dk cs (n+1))) N cell m (mk0 m λk=>if k=m-1 then aE p else []) (λ_=>1) (.tup ((aE p).map (sy N))) .uD .uD .uD .uD .uD) (i:=6) (kvs:=lsD N m λ_=>1) (k:=sy N (m-1)) (d:=.int ((1+p:ah):ai)) (aH (x:=.int 1) (y:=.int p) rfl (bF (aD rfl rfl) ?_) ?_) (gk _ rfl) rfl ?_ ?_ rfl).trans ?_
   .show τ (θ (((aE p).map (sy N)).length:ai))=_;rw[az,ff]
   .rw[cY]
    congr 2
   .unfold lsD;rw[az,ff,bG];lia
   .show(ag&&(lsD N m λ_=>1).all λp=>isTup p.1==ak)=ag;rw[mE,ig];intro y hy;unfold lsD at hy;obtain⟨k,_,rfl⟩:=cK.mp hy;rfl
   .have e:∀i j,i<3->j<3->eqD (sy N i) (sy N j)=ϒ (i=j):=λi j hi hj=>yG hN hd 0x1 0x1
    have e01:=e 0 1 0x4 0x4;have e02:=e 0 2 0x4 0x4;have e12:=e 1 2 0x4 0x4;have e11:=e 1 1 0x4 0x4;have e22:=e 2 2 0x4 0x4;have:m=2\/m=3:=by lia
    rcases this with g|g<;>subst g
    .have:putD (lsD N 2 λ_=>1) (sy N 1) (.int ((1+p:ah):ai))=lsD N 2 λk=>if k=2-1 then 1+p else 1:=by
      show putD [(sy N 0,.int 1),(sy N 1,.int 1)] (sy N 1) _=_;simp only[putD,e01,e11];rfl
     rw[this];rfl
    .have:putD (lsD N 3 λ_=>1) (sy N 2) (.int ((1+p:ah):ai))=lsD N 3 λk=>if k=3-1 then 1+p else 1:=by
      show putD [(sy N 0,.int 1),(sy N 1,.int 1),(sy N 2,.int 1)] (sy N 2) _=_;simp only[putD,e02,e12,e22];rfl
     rw[this];rfl
  .refine⟨_,_,n+1,.uD,base0 m,bt _,λb=>aCm (hx b) ?_⟩;rw[show(v % 3==1)=ak from fA.mpr h3,ax 0x2];rfl
 .refine⟨_,_,n,.uD,base0 m,mh _,λb=>aCm (k:=ak) (aOv (cJ (aH (x:=.int m) rfl rfl ((cmp_gt _ _).trans (by rw[cS 0x1]))))) ?_⟩;rw[ax 0x2];rfl
end
def Gr(m:ah)(r:Rw):Prop:=r.2.1<m/\(∀i∈r.2.2,i<m)/\r.2.2.length<=3
def Gt(m:ah)(t:Tk):Prop:=t.2.1<m/\t.2.2.1<m/\(∀i∈t.2.2.2,i<m)/\t.2.2.2.length<=2
noncomputable def w3:ah->ai
 |0=>12
 |1=>36
 |_=>108
noncomputable def w2:ah->ai
 |0=>27
 |_=>81
theorem aP0{j:ah}(h:j<3):getD (.lst [.int 12,.int 36,.int 108]) (.int (0+(j:ai)))=.ok (.int (w3 j)):=by
 have:j=0\/j=1\/j=2:=by lia
 rcases this with e|e|e<;>subst e<;>rfl
theorem aHo(j:ah):0<w3 j/\w3 j<1073741824:=by
 unfold w3;split<;>decide
theorem aP1{j:ah}(h:j<2):getD (.lst [.int 27,.int 81]) (.int (0+(j:ai)))=.ok (.int (w2 j)):=by
 have:j=0\/j=1:=by lia
 rcases this with e|e<;>subst e<;>rfl
theorem aHp(j:ah):0<w2 j/\w2 j<1073741824:=by
 unfold w2;split<;>decide
section
variable {cs:ae ai} {N:ae Str}
theorem kix(h1:1<=m)(v:ai):∃i:ah,i<m/\v % (m:ai)=i:=by
 have a:0<=v % (m:ai):=su _ 0x1;have b:v % (m:ai)<m:=sv _ 0x1;exact⟨(v % (m:ai)).toNat,by lia,by lia⟩
theorem aP2(hn:n<=1000)(h1:1<=m)(hm:m<=3)(hj:j<3)(hM:M.length<100)(x o d e f:D) :
  ∃(r:Rw)(x' o':D),Gr m r/\r.1=3+m+j/\∀b,mkb (ss (.cel b (dk cs n)) N cell m M l x (.int (0+(j:ai))) o d e f)=.ok (.nx (ss (.cel b (dk cs (n+1))) N cell m (M++[r]) l x' (.int (0+(j:ai))) o' d e f)):=by
 obtain⟨v,qv⟩:=jW cs n 0x1;obtain⟨k,k1,k2⟩:=kix h1 v
 let ix:ah->ah:=λj=>((v / w3 j) % (m:ai)).toNat
 have ixm:∀j,ix j<m/\(v / w3 j) % (m:ai)=ix j:=λj=>by
  obtain⟨i,i1,i2⟩:=kix h1 (v / w3 j);have:ix j=i:=by show((v / w3 j) % (m:ai)).toNat=i;lia
  exact⟨by lia,by lia⟩
 let c:ah:=(v / 3 % 4).toNat
 have hc:(c:ai)=v / 3 % 4:=by show(((v / 3 % 4).toNat:ah):ai)=_;lia
 have c4:c<=3:=by lia
 let B:ae ah:=(aE c).map ix
 have lB:B.length<=3:=by show((aE c).map ix).length<=3;rw[az,ff];exact c4
 have mB:∀i∈B,i<m:=λi hi=>by obtain⟨a,_,rfl⟩:=cK.mp hi;exact(ixm a).1
 refine⟨(3+m+j,k,B),.lst (B.map (sy N)),.int v,⟨k1,mB,lB⟩,rfl,λb=>?_⟩;refine aN (jA (BW qv rfl rfl) rfl) ?_;refine aN (ρ':=ss (.cel b (dk cs (n+1))) N cell m M l (.lst (B.map (sy N))) (.int (0+(j:ai))) (.int v) d e f) (cR (i:=7) ?_) ?_
 .show _=τ (ψ (((aE c).map ix).map (sy N)));rw[dw];refine gQ (n:=13) (λk:ah=>θ (0+(k:ai))) (λj=>sy N (ix j)) (aE c) rfl (wB (n:=(c:ai)) (aD (aH (aH (x:=.int v) rfl rfl (dM _ _ 0x4 0x4)) rfl ((b_ _ _ 0x4).trans (by rw[hc]))) rfl) 0x1 0x1) (by rw[ff];lia) λa ha=>?_
  rw[gq] at ha;exact⟨aH (x:=.lst ((aE m).map (sy N))) rfl (aH (aH (x:=.int v) rfl (aH rfl rfl (aP0 0x1)) (dM _ _ (aHo a).1 (aHo a).2)) (y:=.int m) rfl (b_ _ _ 0x1)) (iC (ixm a).2 (ixm a).1),rfl⟩
 have hrow:∀ρ:ae D,cD 1 ρ=.ok (.lst ((aE 26).map (sy N)))->cD 3 ρ=.ok (.int m)->cD 4 ρ=.ok (.lst ((aE m).map (sy N)))->cD 7 ρ=.ok (.lst (B.map (sy N)))->cD 8 ρ=.ok (.int (0+(j:ai)))->cD 9 ρ=.ok (.int v)->iK (aC (b2 getD fK (b2 (bJ .add) (b2 (bJ .add) kW eF) yK)) (aC (b2 getD gU (b2 (bJ .mod) mQ eF)) (aC (aZ fJ (aC oR aU)) aU))) ρ=.ok (rwD N (3+m+j,k,B)):=λρ g1 g3 g4 g7 g8 g9=>eE (aD (aH g1 (aH (aH rfl g3 (cY _ _)) g8 (cY _ _)) (iC (i:=3+m+j) 0x1 0x1)) (aD (aH g4 (aH g9 g3 (b_ _ _ 0x1)) (iC k2 k1)) (aD (bF (aD g7 rfl) rfl) rfl))) (by rw[bG];simp)
 have ha:=oM (i:=5) (ρ:=ss (.cel b (dk cs (n+1))) N cell m M l (.lst (B.map (sy N))) (.int (0+(j:ai))) (.int v) d e f) (xs:=M.map (rwD N)) (hrow _ rfl rfl rfl rfl rfl rfl) rfl (by rw[az,bG];lia) (dW ..);refine ha.trans ?_;unfold ss;rw[cw];rfl
theorem aCx(h1:1<=m)(hm:m<=3):∀(c j n:ah)(M:ae Rw)(x k o d e f:D),n+c<=1000->j+c<=3->M.length+c<100->
  ∃(E:ae Rw)(x' k' o':D),(∀r∈E,Gr m r)/\E.map (·.1)=(hI (3+m+j) c)/\∀b,xV (tg1 8) mkb ((hI j c).map λ(k:ah)=>θ (0+(k:ai))) (ss (.cel b (dk cs n)) N cell m M l x k o d e f)=.ok (.nx (ss (.cel b (dk cs (n+c))) N cell m (M++E) l x' k' o' d e f))
 |0,j,n,M,x,k,o,d,e,f,_,_,_=>⟨[],x,k,o,λ_ h=>by simp at h,rfl,λb=>by rw[cv];rfl⟩
 |c+1,j,n,M,x,k,o,d,e,f,g1,g2,g3=>by
  obtain⟨r,x1,o1,r1,r2,r3⟩:=aP2 (n:=n) (j:=j) (M:=M) (l:=l) 0x1 h1 hm 0x1 0x1 x o d e f;obtain⟨E,x2,k2,o2,e1,e2,e3⟩:=aCx h1 hm c (j+1) (n+1) (M++[r]) x1 (.int (0+(j:ai))) o1 d e f 0x1 0x1 (by rw[bq,eB];lia);refine⟨r::E,x2,k2,o2,λy hy=>?_,?_,λb=>?_⟩
  .rcases cg.mp hy with h|h
   .exact h▸r1
   .exact e1 y h
  .rw[bd,ko,r2,e2];rfl
  .rw[ko,bd];refine cH (ρ1:=ss (.cel b (dk cs n)) N cell m M l x (.int (0+(j:ai))) o d e f) rfl (r3 b) ?_;rw[e3 b,cu,show n+1+c=n+(c+1) from by lia];rfl
theorem aP3(hn:n<=1000)(h1:1<=m)(hm:m<=3)(hj:j<3)(hT:T.length<100)(x o d f:D) :
  ∃(r:Tk)(o' f':D),Gt m r/\r.1=10+j/\∀b,tkb (ss (.cel b (dk cs n)) N cell m M l x (.int (0+(j:ai))) o d (.lst (T.map (tkD N))) f)=.ok (.nx (ss (.cel b (dk cs (n+1))) N cell m M l x (.int (0+(j:ai))) o' d (.lst ((T++[r]).map (tkD N))) f')):=by
 obtain⟨v,qv⟩:=jW cs n 0x1;obtain⟨k,k1,k2⟩:=kix h1 v;obtain⟨p,p1,p2⟩:=kix h1 (v / 3)
 let ix:ah->ah:=λj=>((v / w2 j) % (m:ai)).toNat
 have ixm:∀j,ix j<m/\(v / w2 j) % (m:ai)=ix j:=λj=>by
  obtain⟨i,i1,i2⟩:=kix h1 (v / w2 j);have:ix j=i:=by show((v / w2 j) % (m:ai)).toNat=i;lia
  exact⟨by lia,by lia⟩
 let c:ah:=(v / 9 % 3).toNat
 have hc:(c:ai)=v / 9 % 3:=by show(((v / 9 % 3).toNat:ah):ai)=_;lia
 have c4:c<=2:=by lia
 let B:ae ah:=(aE c).map ix
 have lB:B.length<=2:=by show((aE c).map ix).length<=2;rw[az,ff];exact c4
 have mB:∀i∈B,i<m:=λi hi=>by obtain⟨a,_,rfl⟩:=cK.mp hi;exact(ixm a).1
 refine⟨(10+j,k,p,B),.int v,.lst (B.map (sy N)),⟨k1,p1,mB,lB⟩,rfl,λb=>?_⟩;refine aN (jA (BW qv rfl rfl) rfl) ?_;refine aN (ρ':=ss (.cel b (dk cs (n+1))) N cell m M l x (.int (0+(j:ai))) (.int v) d (.lst (T.map (tkD N))) (.lst (B.map (sy N)))) (cR (i:=12) ?_) ?_
 .show _=τ (ψ (((aE c).map ix).map (sy N)));rw[dw];refine gQ (n:=13) (λk:ah=>θ (0+(k:ai))) (λj=>sy N (ix j)) (aE c) rfl (wB (n:=(c:ai)) (aD (aH (aH (x:=.int v) rfl rfl (dM _ _ 0x4 0x4)) rfl ((b_ _ _ 0x4).trans (by rw[hc]))) rfl) 0x1 0x1) (by rw[ff];lia) λa ha=>?_
  rw[gq] at ha;exact⟨aH (x:=.lst ((aE m).map (sy N))) rfl (aH (aH (x:=.int v) rfl (aH rfl rfl (aP1 0x1)) (dM _ _ (aHp a).1 (aHp a).2)) (y:=.int m) rfl (b_ _ _ 0x1)) (iC (ixm a).2 (ixm a).1),rfl⟩
 have hrow:∀ρ:ae D,cD 1 ρ=.ok (.lst ((aE 26).map (sy N)))->cD 3 ρ=.ok (.int m)->cD 4 ρ=.ok (.lst ((aE m).map (sy N)))->cD 12 ρ=.ok (.lst (B.map (sy N)))->cD 8 ρ=.ok (.int (0+(j:ai)))->cD 9 ρ=.ok (.int v)->iK (aC (b2 getD fK (b2 (bJ .add) (bC (.int 10)) yK)) (aC (b2 getD gU (b2 (bJ .mod) mQ eF)) (aC (b2 getD gU (b2 (bJ .mod) (b2 (bJ .fdiv) mQ kW) eF)) (aC (aZ fJ (aC kE aU)) aU)))) ρ=.ok (tkD N (10+j,k,p,B)):=λρ g1 g3 g4 g7 g8 g9=>eE (aD (aH g1 (aH rfl g8 (cY _ _)) (iC (i:=10+j) 0x1 0x1)) (aD (aH g4 (aH g9 g3 (b_ _ _ 0x1)) (iC k2 k1)) (aD (aH g4 (aH (aH g9 rfl (dM _ _ 0x4 0x4)) g3 (b_ _ _ 0x1)) (iC p2 p1)) (aD (bF (aD g7 rfl) rfl) rfl)))) (by rw[bG];simp)
 have ha:=oM (i:=11) (ρ:=ss (.cel b (dk cs (n+1))) N cell m M l x (.int (0+(j:ai))) (.int v) d (.lst (T.map (tkD N))) (.lst (B.map (sy N)))) (xs:=T.map (tkD N)) (hrow _ rfl rfl rfl rfl rfl rfl) rfl (by rw[az,bG];lia) (xP ..);refine ha.trans ?_;unfold ss;rw[cw];rfl
theorem aCy(h1:1<=m)(hm:m<=3):∀(c j n:ah)(T:ae Tk)(x k o d f:D),n+c<=1000->j+c<=3->T.length+c<100->
  ∃(E:ae Tk)(k' o' f':D),(∀r∈E,Gt m r)/\E.map (·.1)=(hI (10+j) c)/\∀b,xV (tg1 8) tkb ((hI j c).map λ(k:ah)=>θ (0+(k:ai))) (ss (.cel b (dk cs n)) N cell m M l x k o d (.lst (T.map (tkD N))) f)=.ok (.nx (ss (.cel b (dk cs (n+c))) N cell m M l x k' o' d (.lst ((T++E).map (tkD N))) f'))
 |0,j,n,T,x,k,o,d,f,_,_,_=>⟨[],k,o,f,λ_ h=>by simp at h,rfl,λb=>by rw[cv];rfl⟩
 |c+1,j,n,T,x,k,o,d,f,g1,g2,g3=>by
  obtain⟨r,o1,f1,r1,r2,r3⟩:=aP3 (cs:=cs) (N:=N) (cell:=cell) (m:=m) (n:=n) (j:=j) (M:=M) (l:=l) (T:=T) 0x1 h1 hm 0x1 0x1 x o d f;obtain⟨E,k2,o2,f2,e1,e2,e3⟩:=aCy (M:=M) h1 hm c (j+1) (n+1) (T++[r]) x (.int (0+(j:ai))) o1 d f1 0x1 0x1 (by rw[bq,eB];lia);refine⟨r::E,k2,o2,f2,λy hy=>?_,?_,λb=>?_⟩
  .rcases cg.mp hy with h|h
   .exact h▸r1
   .exact e1 y h
  .rw[bd,ko,r2,e2];rfl
  .rw[ko,bd];refine cH (ρ1:=ss (.cel b (dk cs n)) N cell m M l x (.int (0+(j:ai))) o d (.lst (T.map (tkD N))) f) rfl (r3 b) ?_;rw[e3 b,cu,show n+1+c=n+(c+1) from by lia];rfl
end
structure Sig(m:ah)(M:ae Rw)(T:ae Tk)(l:ah->ah):Prop where
 m1:1<=m
 m3:m<=3
 mg:∀r∈M,Gr m r
 tg:∀t∈T,Gt m t
 mn:(M.map (·.1)).Nodup
 mi:∀r∈M,3<=r.1/\r.1<10
 tn:(T.map (·.1)).Nodup
 ti:∀t∈T,10<=t.1/\t.1<13
 tl:T.length<=3
 ml:M.length<=7
 lb:∀k,k<m->1<=l k/\l k<=4
 ba:∀k,k<m->∃r∈M,r.1=3+k/\r.2.1=k/\1+(r.2.2.map l).sum<=l k
 t1:1<=T.length
theorem aKs(h:f ρ=.ok (.int n,ρ'))(h1:0<=n)(h2:n<=1000000):aQ3 f ρ=.ok ((aE n.toNat).map λ(k:ah)=>θ (0+(k:ai)),ρ'):=by
 unfold aQ3;rw[h,ι];have:oO n=ag:=by
  simp only[oO,aS,cx];lia
 simp only[jN,this,e9];rfl
theorem aKt(h1:it ρ=.ok (xs,ρ'))(h2:xV t body xs ρ'=r):aF5 it t body ρ=r:=by
 unfold aF5;rw[h1,ι];exact h2
theorem aKu(h:cD i ρ=.ok d)(h2:d.UW=ag):bOw i ρ=.ok d:=by
 unfold bOw;rw[h,ι,ao h2]
theorem aG6(h:f ρ=.ok ds)(hl:ds.length<=100):VR f ρ=.ok (.rt (.tup (.lst ds::ρ))):=by
 unfold VR;rw[h,ι,ao (by rw[bG];exact bw 0x1)]
section
variable {N:ae Str} (hN:N.length=26) (hd:N.Nodup)
include hN hd
theorem aP4(cs:ae ai)(n:ah)(hn:n<=900):∃(m:ah)(M:ae Rw)(T:ae Tk)(l:ah->ah)(n':ah),Sig m M T l/\n'<=n+9/\∀b,lK [.cel b (dk cs n),.lst ((aE 26).map (sy N))]=.ok (.tup [.lst [.lst ((aE m).map (sy N)),.lst (M.map (rwD N)),.lst (T.map (tkD N)),.dct (lsD N m l)],.cel b (dk cs n')]):=by
 obtain⟨cell,q1⟩:=jW cs n 0x1
 let m:ah:=(1+cell % 3).toNat
 have hm:(m:ai)=1+cell % 3:=by show(((1+cell % 3).toNat:ah):ai)=_;lia
 have m1:1<=m:=by lia
 have m3:m<=3:=by lia
 obtain⟨q,l,n1,x1,B,hn1,s5⟩:=aOz hN hd (n:=n+1) 0x1 m1 m3
 let c:ah:=(cell / 3 % 4).toNat
 have hc:(c:ai)=cell / 3 % 4:=by show(((cell / 3 % 4).toNat:ah):ai)=_;lia
 have lm:(mk0 m q).length=m:=by unfold mk0;rw[az,ff]
 obtain⟨E,x2,k2,o2,E1,E2,s6⟩:=aCx (cs:=cs) (N:=N) (cell:=cell) (m:=m) (l:=l) m1 m3 c 0 n1 (mk0 m q) x1 .uD .uD .uD .uD .uD 0x1 0x1 0x1;have lE:E.length=c:=by
  have:=cf f_ E2;rw[az,Dw] at this;exact this
 generalize hM1:mk0 m q++E=M1 at s6;have lM1:M1.length=m+c:=by rw[<-hM1,bq,lm,lE]
 obtain⟨M0,hM0⟩:∃M0:ae Rw,M0=M1++[(9,0,[0,0])]:=⟨_,rfl⟩
 have lM:M0.length=m+c+1:=by rw[hM0,bq,lM1];rfl
 obtain⟨a,a1,a2⟩:=kix (m:=M0.length) 0x1 (cell / 12);obtain⟨v,qv⟩:=jW cs (n1+c) 0x1
 let t:ah:=(1+v % 3).toNat
 have ht:(t:ai)=1+v % 3:=by show(((1+v % 3).toNat:ah):ai)=_;lia
 obtain⟨T,k3,o3,f3,T1,T2,s9⟩:=aCy (cs:=cs) (N:=N) (cell:=cell) (m:=m) (l:=l) (M:=M0) m1 m3 t 0 (n1+c+1) [] x2 k2 o2 (.int a) .uD 0x1 0x1 (by simp;lia);rw[fq] at s9;have lT:T.length=t:=by
  have:=cf f_ T2;rw[az,Dw] at this;exact this
 have pm:(M0.drop a++M0.take a).Perm M0:=by
  have:=Dx (l₁:=M0.drop a) (l₂:=M0.take a);rwa [nV] at this
 have mem0:∀r,r∈M0->(∃k,k<m/\r=(3+k,k,q k))\/r∈E\/r=(9,0,[0,0]):=λr hr=>by
  rw[hM0,<-hM1,eP,eP] at hr;rcases hr with (h|h)|h
  .unfold mk0 at h;obtain⟨k,hk,rfl⟩:=cK.mp h;exact .inl ⟨k,gq.mp hk,rfl⟩
  .exact .inr (.inl h)
  .exact .inr (.inr (ll.mp h))
 have hE:∀r∈E,3+m<=r.1/\r.1<3+m+c:=λr hr=>by
  have:=gl (f:=(·.1)) hr;rw[E2,xD] at this;exact this
 have nm:M0.map (·.1)=hI 3 (m+c)++[9]:=by
  rw[hM0,cw]
  congr 1
  rw[<-hM1,cw,E2];unfold mk0;rw[dw,zr,List.range'_append_1.symm]
  congr 1
  rw[List.range'_eq_map_range];rfl
 refine⟨m,M0.drop a++M0.take a,T,l,n1+c+1+t,⟨m1,m3,λr hr=>?_,T1,?_,λr hr=>?_,?_,λr hr=>?_,by lia,?_,B.l1,λk hk=>?_,by lia⟩,by lia,λb=>?_⟩
 .rcases mem0 r (pm.mem_iff.mp hr) with ⟨k,hk,rfl⟩|h
  .exact⟨hk,B.q1 k hk,B.q2 k hk⟩
  .rcases h with h|rfl
   .exact E1 r h
   .exact⟨m1,λi hi=>by simp at hi;lia,by decide⟩
 .rw[(pm.map _).nodup_iff,nm];exact iw.mpr ⟨AF,by simp,λa ha b hb=>by
   rw[xD] at ha;rw[ll.mp hb];lia⟩
 .rcases mem0 r (pm.mem_iff.mp hr) with ⟨k,hk,rfl⟩|h|rfl
  .exact⟨by show 3<=3+k;lia,by show 3+k<10;lia⟩
  .have:=hE r h;lia
  .exact⟨by decide,by decide⟩
 .rw[T2];exact AF
 .have:=gl (f:=(·.1)) hr;rw[T2,xD] at this;lia
 .rw[pm.length_eq];lia
 .refine⟨(3+k,k,q k),pm.mem_iff.mpr ?_,rfl,rfl,B.le k hk⟩;rw[hM0,<-hM1,eP,eP]
  left;left
  unfold mk0;exact cK.mpr ⟨k,gq.mpr hk,rfl⟩
 .refine BR (k:=1) (ρ:=ss (.cel b (dk cs (n1+c+1+t))) N cell m M0 l x2 k3 o3 (.int a) (.lst (T.map (tkD N))) f3) ?_;show xJ [.cel b (dk cs n),.lst ((aE 26).map (sy N)),.uD,.uD,.uD,.uD,.uD,.uD,.uD,.uD,.uD,.uD,.uD]=_;rw[aKq];refine aN (ρ':=[.cel b (dk cs (n+1)),.lst ((aE 26).map (sy N)),.int cell,.uD,.uD,.uD,.uD,.uD,.uD,.uD,.uD,.uD,.uD]) (jA (i:=2) (BW q1 rfl rfl) rfl) ?_;refine aN (ρ':=[.cel b (dk cs (n+1)),.lst ((aE 26).map (sy N)),.int cell,.int m,.uD,.uD,.uD,.uD,.uD,.uD,.uD,.uD,.uD]) (cR (i:=3) (aH (x:=.int 1) rfl (aH (x:=.int cell) rfl rfl (b_ _ _ 0x4)) (by rw[cY,hm]))) ?_;refine aN (aOw 0x1 ..) (aN (aOx m3 ..) (aN (aOy hN hd m1 m3 ..) (aN (s5 b) ?_)));refine aN (oK (wB (n:=(c:ai)) (aD (aH (aH (x:=.int cell) rfl rfl (dM _ _ 0x4 0x4)) rfl ((b_ _ _ 0x4).trans (by rw[hc]))) rfl) 0x1 0x1) (by rw[gV,AH];exact s6 b)) ?_;refine aN (ρ':=ss (.cel b (dk cs (n1+c))) N cell m M0 l x2 k2 o2 .uD .uD .uD) ?_ ?_
  .have h0:b2 getD gU cT (ss (.cel b (dk cs (n1+c))) N cell m M1 l x2 k2 o2 .uD .uD .uD)=.ok (sy N 0):=aH (x:=.lst ((aE m).map (sy N))) rfl rfl (iC (x:=0) (i:=0) rfl m1);have ap:=oM (i:=5) (ρ:=ss (.cel b (dk cs (n1+c))) N cell m M1 l x2 k2 o2 .uD .uD .uD) (xs:=M1.map (rwD N)) (d:=rwD N (9,0,[0,0])) (f:=(iK (aC (b2 getD fK aLn) (aC (b2 getD gU cT) (aC (iK (aC (b2 getD gU cT) (aC (b2 getD gU cT) aU))) aU))))) (eE (aD (aH (x:=.lst ((aE 26).map (sy N))) rfl rfl (iC (x:=9) (i:=9) rfl 0x4)) (aD h0 (aD (eE (aD h0 (aD h0 rfl)) (by simp[bG])) rfl))) (by simp[bG])) rfl (by rw[az,bG];lia) (dW N _);refine xI ap ?_;have e0:M0.map (rwD N)=M1.map (rwD N)++[rwD N (9,0,[0,0])]:=by rw[hM0,cw];rfl
   dsimp only[ss];rw[e0];rfl
  refine aN (ρ':=ss (.cel b (dk cs (n1+c))) N cell m M0 l x2 k2 o2 (.int a) .uD .uD) (cR (i:=10) (aH (aH (x:=.int cell) rfl rfl (dM _ _ 0x4 0x4)) (y:=.int M0.length) (bF (aD rfl rfl) ?_) ((b_ _ _ 0x1).trans (by rw[a2])))) ?_
  .show τ (θ ((M0.map (rwD N)).length:ai))=_;rw[az]
  refine aN (ρ':=ss (.cel b (dk cs (n1+c))) N cell m M0 l x2 k2 o2 (.int a) (.lst []) .uD) (d7 (i:=11) rfl rfl) ?_;refine aN (aKt (aKs (n:=(t:ai)) (ρ':=ss (.cel b (dk cs (n1+c+1))) N cell m M0 l x2 k2 o2 (.int a) (.lst []) .uD) (aHk rfl (PQ (BW qv rfl rfl) rfl rfl (b_ _ _ 0x4) rfl) ((cY _ _).trans (by rw[ht])) rfl) 0x1 0x1) (by rw[gV,AH];exact s9 b)) ?_;refine aG6 (aD (aKu rfl rfl) (aD ?_ (aD (aKu rfl rfl) (aD (aKu rfl rfl) rfl)))) 0x2;rw[cw];refine aH (x:=.lst ((M0.drop a).map (rwD N))) (y:=.lst ((M0.take a).map (rwD N))) ?_ ?_ (HF _ _ ?_ (bQ (dW N) _) (bQ (dW N) _))
  .rw[zv,<-yS];exact sE rfl (kO rfl) rfl (bQ (dW N) _)
  .rw[wz,<-aCu];exact sE rfl rfl (kO rfl) (bQ (dW N) _)
  .rw[az,az,mq,jg,bG];lia
theorem aP5(cs:ae ai)(n:ah)(hn:n<=900):∃(m:ah)(M:ae Rw)(T:ae Tk)(l:ah->ah)(n':ah),Sig m M T l/\n'<=n+9/\ch1 lK (dk cs n) [.lst ((aE 26).map (sy N))]=.ok (.lst [.lst ((aE m).map (sy N)),.lst (M.map (rwD N)),.lst (T.map (tkD N)),.dct (lsD N m l)],dk cs n'):=by
 obtain⟨m,M,T,l,n',h1,h2,h3⟩:=aP4 hN hd cs n hn;exact⟨m,M,T,l,n',h1,h2,E_ h3⟩
end
theorem WK(h1:c ρ=.ok ag)(h2:body ρ=.ok (.nx ρ'))(h3:YM c body n ρ'=r):YM c body (n+1) ρ=r:=by
 rw[YM,h1,ι,ao rfl,h2];exact h3
theorem aCz(h1:c ρ=.ok ak):YM c body (n+1) ρ=.ok (.nx ρ):=by
 rw[YM,h1];rfl
theorem GD:∀ns:ae ai,intsOf (ns.map θ)=aa ns
 |[]=>rfl
 |n::ns=>by
  show(intsOf (ns.map θ)).map (n::·)=_;rw[GD ns];rfl
inductive Run(H:ae Rw):ae ah->ae ah->Prop
 |nil:Run H [] []
 |step {r:Rw} {rest W:ae ah}:r∈H->Run H (r.2.2++rest) W->Run H (r.2.1::rest) (r.1::W)
theorem aD0(h:ρ.getD i .uD=.lst (xs++[x]))(he:(ρ.set i (.lst xs)).set j x=ρ'):CK i j ρ=.ok (.nx ρ'):=by
 subst he;unfold CK;rw[h];dsimp only;rw[bq,eB,Dc,fI (bt _),Au,Ay];rfl
theorem WL(h1:f ρ=.ok d)(h0:aRj d=aa ys)(h2:ρ.getD i .uD=.lst xs)(hl:xs.length+ys.length<=10000)(hp:ε ys=ag):CN i f ρ=.ok (.nx (ρ.set i (.lst (xs++ys)))):=by
 unfold CN;rw[h1,ι,h2,h0];dsimp only;rw[ao (by rw[hp,bG,bw 0x1];rfl)]
theorem xQ(hN:N.length=26)(hd:N.Nodup)(nm:α->ah)(g:α->D):∀(L:ae α),(L.map nm).Nodup->(∀a∈L,nm a<26)->∀a∈L,cO (L.map λa=>(sy N (nm a),g a)) (sy N (nm a))=aa (g a)
 |[],_,_,a,ha=>by simp at ha
 |b::L,h1,h2,a,ha=>by
  rw[bd,cO,yG hN hd (h2 b (de ..)) (h2 a ha)];rw[bd,fy] at h1;rcases cg.mp ha with e|e
  .subst e;rw[bw rfl,ao rfl]
  .have:¬nm b=nm a:=λg=>h1.1 (g▸gl e)
   rw[cS this,ax 0x2];exact xQ hN hd nm g L h1.2 (λc hc=>h2 c (dg _ hc)) a e
theorem WM(N:ae Str):∀H:ae Rw,υ 11 (H.map (rwD N))=ag
 |[]=>by rw[gi,υ]
 |r::H=>by
  rw[bd,υ,WM N H];unfold rwD;rw[D.jC,υ,υ,υ,υ,D.jC,gR];unfold sy;rw[D.jC,D.jC]<;>simp
section
variable {N:ae Str} (hN:N.length=26) (hd:N.Nodup)
include hN hd
theorem wI(hm:m<=3)(hk:k<m):getD (.dct (lsD N m l)) (sy N k)=.ok (.int (l k)):=by
 show(if ag then ο (cO (lsD N m l) (sy N k)) else .bad)=_;rw[ao rfl];have:=xQ hN hd (λk:ah=>k) (λk=>θ (l k)) (aE m) (by rw[List.map_id'];exact Dy) (λa ha=>by have:=gq.mp ha;lia) k (gq.mpr hk);unfold lsD;rw[this];rfl
omit hN hd in
theorem WN(l:ah->ah):∀ps:ae ah,(ps.map λk=>((l k:ah):ai)).sum=(((ps.map l).sum:ah):ai)
 |[]=>rfl
 |p::ps=>by
  rw[bd,bd,lI,lI,WN l ps];lia
theorem aHq(hm:m<=3)(hl:∀k,k<m->1<=l k/\l k<=4){ps:ae ah}(hρ:ρ.length=n)(hf:f ρ=.ok (.tup (ps.map (sy N))))(hp:∀i∈ps,i<m)(hpl:ps.length<=100)(h5:∀k,cD 5 (ρ++[sy N k])=.ok (.dct (lsD N m l)))(hn:∀k,cD n (ρ++[sy N k])=.ok (sy N k)) :
  aZ zX (aC (dB n (bH f ak) lO gG (b2 getD jY (cD n)) ak) aU) ρ=.ok (.int ((ps.map l).sum:ah)):=by
 refine bF (aD (gQ (sy N) (λk=>θ (l k)) ps hρ (gB hf) 0x1 λk hk=>⟨aH (h5 k) (hn k) (wI hN hd hm (hp k hk)),rfl⟩) rfl) ?_;show(match intsOf (ps.map λk=>θ (l k)) with|some ns=>if ns.all (λi=>ϒ (-9000<=i)&&ϒ (i<=9000))&&ϒ (ns.length<=100000) then τ (θ ns.sum) else .bad|none=>.bad)=_;have e:(ps.map λk=>θ (l k))=(ps.map λk=>((l k:ah):ai)).map θ:=by rw[dw];rfl
 rw[e,GD];dsimp only;rw[WN,ao];rw[aS,ig,cx,az];refine⟨λi hi=>?_,by lia⟩;obtain⟨k,hk,rfl⟩:=cK.mp hi;have:=hl k (hp k hk);rw[aS,cx,cx];lia
omit hN hd in
theorem jX(h:cD i ρ=.ok (rwD N r)):b2 getD (cD i) cT ρ=.ok (sy N r.1)/\b2 getD (cD i) dR ρ=.ok (sy N r.2.1)/\b2 getD (cD i) jD ρ=.ok (.tup (r.2.2.map (sy N))):=⟨aH h rfl rfl,aH h rfl rfl,aH h rfl rfl⟩
theorem WP(hi:i<26)(hj:j<26):eG .eq (sy N i) (sy N j)=.ok (.bl (ϒ (i=j))):=by
 show(if (sy N i).jC bB&&(sy N j).jC bB then τ (χ (eqD (sy N i) (sy N j))) else .bad)=_;rw[xO,xO,yG hN hd hi hj];rfl
theorem aRw{l:ae ah}(hi:i<26)(hl:∀j∈l,j<26):eG .isin (sy N i) (.tup (l.map (sy N)))=.ok (.bl (ϒ (i∈l))):=by
 show(if (sy N i).jC bB&&υ bB (l.map (sy N)) then τ (χ ((l.map (sy N)).any λy=>eqD y (sy N i))) else .bad)=_;rw[xO,gR,aCv hN hd hi l hl];rfl
omit hN hd in
theorem aKv(H:ae Rw):eG .ne (.lst (H.map (rwD N))) (.lst [])=.ok (.bl (!H.isEmpty)):=by
 show(if υ 11 (H.map (rwD N))&&υ 11 [] then τ (χ (!zK (H.map (rwD N)) [])) else .bad)=_;rw[WM,υ];cases H<;>rfl
omit hN hd in
theorem aP6(l:ae ah):eG .ne (.lst (l.map (sy N))) (.lst [])=.ok (.bl (!l.isEmpty)):=by
 show(if υ 11 (l.map (sy N))&&υ 11 [] then τ (χ (!zK (l.map (sy N)) [])) else .bad)=_;rw[gR,υ];cases l<;>rfl
omit hN hd in
theorem aP7(l:ae ah):eG .eq (.lst (l.map (sy N))) (.lst [])=.ok (.bl l.isEmpty):=by
 show(if υ 11 (l.map (sy N))&&υ 11 [] then τ (χ (zK (l.map (sy N)) [])) else .bad)=_;rw[gR,υ];cases l<;>rfl
omit hN hd in
theorem aRx(v:ai):max2 [.int 0,.int v]=.ok (.int (if 0<v then v else 0)):=rfl
end
structure aHr(m:ah)(M:ae Rw)(l:ah->ah):Prop where
 m3:m<=3
 lb:∀k,k<m->1<=l k/\l k<=4
 hl:M.length<=100
 hg:∀r∈M,Gr m r
 ba:∀k,k<m->∃r∈M,r.2.1=k/\1+(r.2.2.map l).sum<=l k
abbrev wst(cs:ae ai)(x1 x2 x3 x4:D)(N:ae Str)(m:ah)(l:ah->ah)(z n:ah)(W st:ae ah)(left:ah)(t:ae D):ae D:=.cel z (dk cs n)::x1::x2::x3::x4::.dct (lsD N m l)::.lst (W.map (sy N))::.lst (st.reverse.map (sy N))::.int left::t
def smE(nv ih:ah):FE:=dB nv (bH (cD ih) ak) lO (K4 (bTB (b2 (eG .eq) (b2 getD (cD nv) dR) mQ)) (bTB (b2 (yE .le) (aZ zX (aC (dB (nv+1) (bH (b2 getD (cD nv) jD) ak) lO gG (b2 getD jY (cD (nv+1))) ak) aU)) oU))) (cD nv) ak
def aRy(nv ip:ah):FS:=bA (Q7 6 (b2 getD (cD ip) cT)) (bA (bZ ak 8 (b2 (bJ .sub) oU (aZ zX (aC (dB nv (bH (b2 getD (cD ip) jD) ak) lO gG (b2 getD jY (cD nv)) ak) aU))) ag) (CN 7 (b1 aLo (b2 getD (cD ip) jD))))
theorem aP8(h:a ρ=.ok (.bl b)):bTr a ρ=.ok b:=by
 unfold bTr;rw[h];rfl
theorem aHs{S:ae Rw}(h:cD i ρ=.ok (.lst (S.map (rwD N)))):(aZ kY (aC (cD i) aU)) ρ=.ok (.int S.length):=bF (aD h rfl) (by
  show τ (θ ((S.map (rwD N)).length:ai))=_;rw[az])
noncomputable def aD1(l:ah->ah)(k room:ah)(r:Rw):aw:=ϒ (r.2.1=k)&&ϒ ((((r.2.2.map l).sum:ah):ai)<=(room:ai))
theorem aHt(h:aD1 l k room r=ag):r.2.1=k/\(r.2.2.map l).sum<=room:=by
 unfold aD1 at h;rw[aS,cx,cx] at h;exact⟨h.1,by lia⟩
theorem aHu(P:aHr m M l)(hk:k<m):M.filter (aD1 l k (left+l k-1))≠[]:=by
 obtain⟨r,hr,e1,e2⟩:=P.ba k hk;have:r∈M.filter (aD1 l k (left+l k-1)):=hX.mpr ⟨hr,by
  unfold aD1;rw[aS,cx,cx];exact⟨e1,by lia⟩⟩
 exact Dz this
section
variable {N:ae Str} (hN:N.length=26) (hd:N.Nodup)
include hN hd
theorem aP9(P:aHr m M l){k room nv ih:ah}(hk:k<m){ρ:ae D}(hl:ρ.length=nv)(hh:cD ih ρ=.ok (.lst (M.map (rwD N))))(h9:∀x,cD 9 (ρ++[x])=.ok (sy N k))(h10:∀x,cD 10 (ρ++[x])=.ok (.int room))(hv:∀x:Rw,cD nv (ρ++[rwD N x])=.ok (rwD N x))(h5:∀x y,cD 5 (ρ++[x]++[y])=.ok (.dct (lsD N m l)))(hw:∀x k,cD (nv+1) (ρ++[x]++[sy N k])=.ok (sy N k)):smE nv ih ρ=.ok (.lst ((M.filter (aD1 l k room)).map (rwD N))):=by
 have m3:=P.m3;refine xN (rwD N) (rwD N) (aD1 l k room) M hl (fC hh) (by have:=P.hl;lia) (λr hr=>?_) λr hr _=>⟨hv r,dW ..⟩
 obtain⟨v1,v2,v3⟩:=P.hg r hr;have c1:(bTB (b2 (eG .eq) (b2 getD (cD nv) dR) mQ)) (ρ++[rwD N r])=.ok (ϒ (r.2.1=k)):=cJ (aH (jX (hv r)).2.1 (h9 _) (WP hN hd 0x1 0x1));by_cases hrk:r.2.1=k
 .refine(HD (c1.trans (by rw[bw hrk])) (cJ (aH (aHq hN hd m3 P.lb (by rw[bq,hl];rfl) (jX (hv r)).2.2 v2 0x1 (λ_=>h5 _ _) (λk=>hw _ k)) (h10 _) (aOq _ _)))).trans ?_;unfold aD1;rw[bw hrk,mE]
 .refine(YL (c1.trans (by rw[cS hrk]))).trans ?_;unfold aD1;rw[cS hrk,Bc]
theorem aD2(m3:m<=3)(lb:∀k,k<m->1<=l k/\l k<=4)(hg:Gr m r){W rest:ae ah}{left:ah}{t:ae D}(hW:W.length<=10000)(hr:rest.length<=5000)(hs:(r.2.2.map l).sum<=room)
 (hp:∀W st left,cD ip (wst cs x1 x2 x3 x4 N m l z n W st left t)=.ok (rwD N r))(h10:∀W st left,cD 10 (wst cs x1 x2 x3 x4 N m l z n W st left t)=.ok (.int room))(hl:t.length+9=nv)(hn:∀W st left k,cD nv (wst cs x1 x2 x3 x4 N m l z n W st left t++[sy N k])=.ok (sy N k)) :
  aRy nv ip (wst cs x1 x2 x3 x4 N m l z n W rest left t)=.ok (.nx (wst cs x1 x2 x3 x4 N m l z n (W++[r.1]) (r.2.2++rest) (room-(r.2.2.map l).sum) t)):=by
 obtain⟨u1,u2,u3⟩:=hg;refine aN (ρ':=wst cs x1 x2 x3 x4 N m l z n (W++[r.1]) rest left t) ?_ (aN (ρ':=wst cs x1 x2 x3 x4 N m l z n (W++[r.1]) rest (room-(r.2.2.map l).sum) t) ?_ ?_)
 .refine(oM (jX (hp W rest left)).1 rfl (by rw[az,bG];lia) rfl).trans ?_;unfold wst;rw[cw];rfl
 .have e:((room-(r.2.2.map l).sum:ah):ai)=(room:ai)-((r.2.2.map l).sum:ah):=by lia
  refine(cR (i:=8) (aH (h10 _ _ _) (aHq hN hd m3 lb (n:=nv) (by rw[<-hl];rfl) (jX (hp _ _ _)).2.2 u2 0x1 (λ_=>rfl) (λk=>hn _ _ _ k)) (xY _ _))).trans ?_;unfold wst;rw[e];rfl
 .refine(WL (i:=7) (xs:=rest.reverse.map (sy N)) (ys:=r.2.2.reverse.map (sy N)) (DK (jX (hp _ _ _)).2.2 (by
   show(if ε (r.2.2.map (sy N))&&ϒ ((r.2.2.map (sy N)).length<=lim) then τ (ψ (r.2.2.map (sy N)).reverse) else .bad)=_;rw[bO,az,bG,bw 0x1,<-Di];rfl)) rfl rfl (by rw[az,jb,az,jb];lia) (bO ..)).trans ?_
  have e7:((r.2.2++rest).reverse.map (sy N))=rest.reverse.map (sy N)++r.2.2.reverse.map (sy N):=by rw[AA,cw]
  unfold wst;rw[e7];rfl
omit hN hd in
theorem aKw(lb:∀k,k<m->1<=l k/\l k<=4)(hg:∀r∈H,Gr m r)
 (turn:∀{n:ah} {W rest:ae ah} {k left:ah},k<m->n<=10000->W.length<=10000->rest.length<=5000->∀t:ae D,t.length=L->∃r∈H,r.2.1=k/\∃(left':ah) (t':ae D),left'+(r.2.2.map l).sum+1=left+l k/\t'.length=L/\∀z,wb (wst cs x1 x2 x3 x4 N m l z n W (k::rest) left t)=.ok (.nx (wst cs x1 x2 x3 x4 N m l z (n+1) (W++[r.1]) (r.2.2++rest) left' t'))) :
  ∀(μ n fuel:ah)(W st:ae ah)(left:ah)(t:ae D),left+(st.map l).sum=μ->μ<fuel->n+μ<=5000->W.length+μ<=5000->(∀k∈st,k<m)->t.length=L->
  ∃(V:ae ah)(n':ah)(left':ah)(t':ae D),Run H st V/\V.length<=μ/\n'<=n+μ/\∀z,YM wc wb fuel (wst cs x1 x2 x3 x4 N m l z n W st left t)=.ok (.nx (wst cs x1 x2 x3 x4 N m l z n' (W++V) [] left' t'))
 |μ,n,0,W,st,left,t,h1,h2,_,_,_,_=>aT h2 (Ab _)
 |μ,n,fuel+1,W,[],left,t,h1,h2,_,_,_,_=>⟨[],n,left,t,.nil,ef _,by lia,λz=>by
   rw[cv];exact aCz (cJ (aH rfl rfl (aP6 [])))⟩
 |0,n,fuel+1,W,k::rest,left,t,h1,h2,_,_,h5,_=>by
   have:=lb k (h5 k (de ..));rw[bd,lI] at h1;lia
 |μ+1,n,fuel+1,W,k::rest,left,t,h1,h2,h3,h4,h5,ht=>by
   have hk:=h5 k (de ..);have lbs:∀st:ae ah,(∀k∈st,k<m)->st.length<=(st.map l).sum:=by
    intro st;induction st with
    |nil=>intro _;simp
    |cons x xs ih=>
     intro h;have:=ih λk hk=>h k (dg _ hk)
     have:=lb x (h x (de ..));rw[bd,lI,br];lia
   have hrest:∀k∈rest,k<m:=λj hj=>h5 j (dg _ hj)
   have hlr:=lbs rest hrest;rw[bd,lI] at h1;obtain⟨r,r1,r2,left',t',r3,r5,r4⟩:=turn (n:=n) (W:=W) (rest:=rest) (k:=k) (left:=left) hk 0x1 0x1 0x1 t ht;have hp:=(hg r r1).2.1;obtain⟨V,n',left2,t2,q1,q2,q3,q4⟩:=aKw lb hg turn μ (n+1) fuel (W++[r.1]) (r.2.2++rest) left' t' (by rw[cw,Ca];lia) 0x1 0x1 (by rw[bq,eB];lia) (λj hj=>by
    rcases eP.mp hj with h|h
    .exact hp j h
    .exact hrest j h) r5
   refine⟨r.1::V,n',left2,t2,r2▸.step r1 q1,by rw[br];lia,by lia,λz=>?_⟩;refine WK (cJ (aH rfl rfl ((aP6 (N:=N) (k::rest).reverse).trans ?_))) (r4 z) ?_
   .rw[fN];cases rest.reverse<;>rfl
   .rw[q4 z,cu];rfl
theorem top2(m3:m<=3)(hk:k<m)(h1:1<=l k){W rest:ae ah}{t:ae D}{a b:D}:CK 7 9 (wst cs x1 x2 x3 x4 N m l z n W (k::rest) left (a::b::t))=.ok (.nx (wst cs x1 x2 x3 x4 N m l z n W rest left (sy N k::b::t)))/\wb1 (wst cs x1 x2 x3 x4 N m l z n W rest left (sy N k::b::t))=.ok (.nx (wst cs x1 x2 x3 x4 N m l z n W rest left (sy N k::.int ((left+l k-1:ah):ai)::t))):=by
 refine⟨aD0 (by
  show ψ ((k::rest).reverse.map (sy N))=_;rw[fN,cw];rfl) rfl,?_⟩
 rw[show((left+l k-1:ah):ai)=(left:ai)+(l k:ah)-1 by lia];exact cR (aH (aH rfl (aH rfl rfl (wI hN hd m3 hk)) (cY _ _)) rfl (xY _ _))
end
def wwb:FS:=bA (CK 7 9) (bA wb1 (bA (bZ ak 11 (smE 14 1) ag) (bA ww3 (bA ww4 (bA ww5 (aRy 14 13))))))
theorem aG7:nH=bA (bZ ag 6 (i_ aU) ag) (bA (bZ ag 7 (i_ (aC (bPu fH) aU)) ag) (bA (bZ ak 8 (aZ max2 (aC cT (aC (b2 (bJ .sub) eF (b2 getD jY fH)) aU))) ak) (bA (aJg wc wwb) (m8 6)))):=rfl
section
variable {N:ae Str} (hN:N.length=26) (hd:N.Nodup)
include hN hd
theorem aRz(P:aHr m M l){W rest:ae ah}{k left:ah}(hk:k<m)(hn:n<=10000)(hW:W.length<=10000)(hr:rest.length<=5000)(t:ae D)(ht:t.length=5):∃r∈M,r.2.1=k/\∃(left':ah)(t':ae D),left'+(r.2.2.map l).sum+1=left+l k/\t'.length=5/\∀z,wwb (wst cs (.lst (M.map (rwD N))) x2 x3 (.bl full) N m l z n W (k::rest) left t)=.ok (.nx (wst cs (.lst (M.map (rwD N))) x2 x3 (.bl full) N m l z (n+1) (W++[r.1]) (r.2.2++rest) left' t')):=by
 obtain⟨v,qv⟩:=jW cs n 0x1;have h1:=(P.lb k hk).1
 match t,ht with
 |[a,b,c,d,e],_=>
  let room:ah:=left+l k-1
  let S1:=M.filter (aD1 l k room)
  let p2:Rw->aw:=λr=>ϒ (k∈r.2.2)
  let S2:=S1.filter p2
  obtain⟨S,hS,nS,t4⟩:∃S:ae Rw,(∀r∈S,r∈S1)/\S≠[]/\∀z,ww4 (wst cs (.lst (M.map (rwD N))) x2 x3 (.bl full) N m l z n W rest left [sy N k,.int room,.lst (S1.map (rwD N)),.lst (S2.map (rwD N)),e])=.ok (.nx (wst cs (.lst (M.map (rwD N))) x2 x3 (.bl full) N m l z n W rest left [sy N k,.int room,.lst (S.map (rwD N)),.lst (S2.map (rwD N)),e])):=by
   have no:∀z,(K4 (bTr gU) (bTB (b2 (eG .ne) kE (i_ aU)))) (wst cs (.lst (M.map (rwD N))) x2 x3 (.bl full) N m l z n W rest left [sy N k,.int room,.lst (S1.map (rwD N)),.lst (S2.map (rwD N)),e])=.ok (full&&!S2.isEmpty):=λz=>by
    cases full with
    |true=>exact HD (aP8 rfl) (cJ (aH rfl rfl (aKv S2)))
    |false=>exact YL (aP8 rfl)
   cases hc:full&&!S2.isEmpty with
   |false=>
    refine⟨S1,λr h=>h,aHu P hk,λz=>oJ ((no z).trans (by rw[hc])) rfl⟩
   |true=>
    rw[aS] at hc;refine⟨S2,λr h=>(hX.mp h).1,λz=>?_,λz=>J3 ((no z).trans (by rw[hc.1,hc.2];rfl)) (aJa rfl)⟩;have h2:=hc.2;rw[z] at h2;cases h2
  have lS:0<S.length:=AI.mpr nS;obtain⟨i,i1,i2⟩:=kix (m:=S.length) 0x1 v;have hi:S[i]?=aa S[i]:=dq i1;have gS:=hS _ (xj i1);generalize hr0:S[i]=r at gS hi;have g1:=(hX.mp gS).1;obtain⟨g2,g3⟩:=aHt (hX.mp gS).2;refine⟨r,g1,g2,room-(r.2.2.map l).sum,[sy N k,.int room,.lst (S.map (rwD N)),.lst (S2.map (rwD N)),rwD N r],by lia,rfl,λz=>?_⟩;obtain⟨t0,t1⟩:=top2 hN hd (x2:=x2) (x3:=x3) (x4:=.bl full) P.m3 (z:=z) (n:=n) (left:=left) hk h1 (W:=W) (rest:=rest) (t:=[c,d,e]) (a:=a) (b:=b);refine aN t0 (aN t1 (aN (ρ':=wst cs (.lst (M.map (rwD N))) x2 x3 (.bl full) N m l z n W rest left [sy N k,.int room,.lst (S1.map (rwD N)),d,e]) (cR (i:=11) (aP9 hN hd P (room:=room) (ih:=1) hk rfl rfl (λ_=>rfl) (λ_=>rfl) (λ_=>rfl) (λ_ _=>rfl) (λ_ _=>rfl))) (aN (ρ':=wst cs (.lst (M.map (rwD N))) x2 x3 (.bl full) N m l z n W rest left [sy N k,.int room,.lst (S1.map (rwD N)),.lst (S2.map (rwD N)),e]) ?_ (aN (t4 z) (aN (ρ':=wst cs (.lst (M.map (rwD N))) x2 x3 (.bl full) N m l z (n+1) W rest left [sy N k,.int room,.lst (S.map (rwD N)),.lst (S2.map (rwD N)),rwD N r]) ?_ ?_)))))
  .refine cR (i:=12) (xN (n:=14) (rwD N) (rwD N) p2 S1 rfl (fC rfl) (by have:=P.hl;have:S1.length<=M.length:=sw ..;lia) (λr hr=>?_) λr hr _=>⟨rfl,dW ..⟩);have m3:=P.m3;have hg:=P.hg r (hX.mp hr).1;exact cJ (aH rfl (aH (x:=rwD N r) rfl rfl rfl) (aRw hN hd 0x1 λj hj=>by have:=hg.2.1 j hj;lia))
  .exact jA (i:=13) (aHk (x:=.lst (S.map (rwD N))) rfl (PQ (BW qv rfl rfl) rfl (aHs rfl) (b_ _ _ 0x1) rfl) (fO i2 hi) (dW ..)) rfl
  .exact aD2 hN hd P.m3 P.lb (P.hg r g1) hW hr g3 (λ_ _ _=>rfl) (λ_ _ _=>rfl) rfl (λ_ _ _ _=>rfl)
theorem aG8(cs:ae ai)(P:aHr m M l)(hk:k<m)(hm:most<=390)(hn:n<=3000) :
  ∃(V:ae ah)(n':ah),Run M [k] V/\V.length<=max most 4/\n'<=n+max most 4/\ch1 j9 (dk cs n) [.lst (M.map (rwD N)),sy N k,.int most,.bl full,.dct (lsD N m l)]=.ok (.lst (V.map (sy N)),dk cs n'):=by
 have hk1:=P.lb k hk
 let left:ah:=most-l k
 have hle:left+l k<=max most 4:=by show most-l k+l k<=_;lia
 have hle2:max most 4<=390:=by lia
 obtain⟨V,n',left',t',h1,h2,h3,h4⟩:=aKw (N:=N) (cs:=cs) (x1:=.lst (M.map (rwD N))) (x2:=sy N k) (x3:=.int most) (x4:=.bl full) P.lb P.hg (λ{n W rest k left} a b c d t ht=>aRz hN hd (cs:=cs) (x2:=sy N _) (x3:=.int most) P (full:=full) a b c d t ht) (left+l k) n 9000 [] [k] left [.uD,.uD,.uD,.uD,.uD] 0x2 0x1 0x1 (by show 0+_<=_;lia) (λj hj=>by rw[ll] at hj;lia) rfl;refine⟨V,n',h1,by lia,by lia,E_ λz=>BR (k:=1) (ρ:=wst cs (.lst (M.map (rwD N))) (sy N k) (.int most) (.bl full) N m l z n' V [] left' t') ?_⟩;show nH _=_;rw[aG7];refine aN (ρ':=[.cel z (dk cs n),.lst (M.map (rwD N)),sy N k,.int most,.bl full,.dct (lsD N m l),.lst [],.uD,.uD,.uD,.uD,.uD,.uD,.uD]) (d7 (i:=6) rfl rfl) ?_;refine aN (ρ':=[.cel z (dk cs n),.lst (M.map (rwD N)),sy N k,.int most,.bl full,.dct (lsD N m l),.lst [],.lst [sy N k],.uD,.uD,.uD,.uD,.uD,.uD]) (d7 (i:=7) rfl rfl) ?_;refine aN (ρ':=wst cs (.lst (M.map (rwD N))) (sy N k) (.int most) (.bl full) N m l z n [] [k] left [.uD,.uD,.uD,.uD,.uD]) (dZ (i:=8) (d:=.int left) (bF (aD rfl (aD (aH (x:=.int most) rfl (aH rfl rfl (wI hN hd P.m3 hk)) (xY _ _)) rfl)) ((aRx _).trans ?_)) rfl) ?_
 .congr 2
  show _=((most-l k:ah):ai);split<;>lia
 refine aN (h4 z) ?_;exact yR rfl rfl
end
def ggb:FS:=bA (CK 7 9) (bA wb1 (bA gg2 (bA gg3 (bA (bZ ak 13 (smE 17 2) ag) (bA gg5 (bA gg6 (bA gg7 (bA gg8 (aRy 17 16)))))))))
theorem aKx:q_=bA (bZ ag 6 (i_ aU) ag) (bA (bZ ag 7 (i_ (aC (bPu eF) aU)) ag) (bA (bZ ak 8 (aZ max2 (aC cT (aC (b2 (bJ .sub) gU (b2 getD jY eF)) aU))) ak) (bA (aJg wc ggb) (m8 6)))):=rfl
theorem aKy(N:ae Str)(l:ae ah):eG .ne (.tup (l.map (sy N))) (.tup [])=.ok (.bl (!l.isEmpty)):=by
 show(if υ 11 (l.map (sy N))&&υ 11 [] then τ (χ (!zK (l.map (sy N)) [])) else .bad)=_;rw[gR,υ];cases l<;>rfl
theorem JR(h1:a ρ=.ok x)(h2:∃y,b ρ=.ok y):∃y,K4 a b ρ=.ok y/\(y=ag->x=ag):=by
 obtain⟨y,h2⟩:=h2;cases x with
 |true=>exact⟨y,HD h1 h2,λ_=>rfl⟩
 |false=>exact⟨ak,YL h1,λh=>by cases h⟩
section
variable {N:ae Str} (hN:N.length=26) (hd:N.Nodup)
include hN hd
theorem gturn(P:aHr m M l)(hK:∀r∈K,r.2.1<m/\r.2.2=[])(hKl:K.length<=10){W rest:ae ah}{k left:ah}(hk:k<m)(hn:n<=10000)(hW:W.length<=10000)(hr:rest.length<=5000)(t:ae D)(ht:t.length=8):∃r∈K++M,r.2.1=k/\∃(left':ah)(t':ae D),left'+(r.2.2.map l).sum+1=left+l k/\t'.length=8/\∀z,ggb (wst cs (.lst (K.map (rwD N))) (.lst (M.map (rwD N))) x3 x4 N m l z n W (k::rest) left t)=.ok (.nx (wst cs (.lst (K.map (rwD N))) (.lst (M.map (rwD N))) x3 x4 N m l z (n+1) (W++[r.1]) (r.2.2++rest) left' t')):=by
 obtain⟨v,qv⟩:=jW cs n 0x1;have h1:=(P.lb k hk).1;have m3:=P.m3
 match t,ht with
 |[a,b,c,d,e,f,g,h],_=>
  let room:ah:=left+l k-1
  let S1:=M.filter (aD1 l k room)
  let p0:Rw->aw:=λr=>ϒ (r.2.1=k)
  let S0:=K.filter p0
  let p2:Rw->aw:=λr=>!r.2.2.isEmpty
  let S2:=S1.filter p2
  have l1:S1.length<=100:=dj (sw ..) P.hl;have l0:S0.length<=10:=dj (sw ..) hKl
  let st:ah->ah->ae Rw->D->ae D:=λz n S h=>wst cs (.lst (K.map (rwD N))) (.lst (M.map (rwD N))) x3 x4 N m l z n W rest left [sy N k,.int room,.int v,.lst (S0.map (rwD N)),.lst (S1.map (rwD N)),.lst (S2.map (rwD N)),.lst (S.map (rwD N)),h]
  obtain⟨S,hS,nS,t4⟩:∃S:ae Rw,(∀r∈S,r∈S0\/r∈S1)/\S≠[]/\∀z,gg7 (st z (n+1) (S0++S1) h)=.ok (.nx (st z (n+1) S h)):=by
   obtain⟨c1,e1,d1⟩:∃c1:aw,(∀z,gc1 (st z (n+1) (S0++S1) h)=.ok c1)/\(c1=ag->S2≠[]):=by
    obtain⟨y,g1,g2⟩:=JR (a:=bTB (b2 (eG .ne) jM (i_ aU))) (b:=bOr (bTB (b2 (eG .eq) (b2 (bJ .mod) jL Q5) jD)) (K4 (bTB (b2 (yE .gt) (b2 (bJ .mod) jL Q5) cT)) (bTB (b2 (eG .eq) t_ (i_ aU))))) (ρ:=st 0 (n+1) (S0++S1) h) (cJ (aH rfl rfl (aKv S2))) (by
     obtain⟨y,h1,_⟩:=JR (a:=bTB (b2 (yE .gt) (b2 (bJ .mod) jL Q5) cT)) (b:=bTB (b2 (eG .eq) t_ (i_ aU))) (ρ:=st 0 (n+1) (S0++S1) h) (cJ (aH (aH (x:=.int v) rfl rfl (b_ _ _ 0x4)) rfl (cmp_gt _ _))) ⟨_,cJ (aH rfl rfl (aP7 W))⟩;exact⟨_,aOs (cJ (aH (aH (x:=.int v) rfl rfl (b_ _ _ 0x4)) rfl (mK _ _))) h1⟩)
    refine⟨y,λz=>g1,λhy z=>?_⟩;have:=g2 hy;rw[z] at this;cases this
   cases c1 with
   |true=>exact⟨S2,λr h=>.inr (hX.mp h).1,d1 rfl,λz=>J3 (e1 z) (aJa rfl)⟩
   |false=>
    obtain⟨c2,e2,d2⟩:∃c2:aw,(∀z,gc2 (st z (n+1) (S0++S1) h)=.ok c2)/\(c2=ag->S0≠[]):=by
     obtain⟨y,g1,g2⟩:=JR (a:=bTB (b2 (eG .ne) kE (i_ aU))) (b:=bTB (b2 (yE .lt) (b2 (bJ .mod) jL Q5) jD)) (ρ:=st 0 (n+1) (S0++S1) h) (cJ (aH rfl rfl (aKv S0))) ⟨_,cJ (aH (aH (x:=.int v) rfl rfl (b_ _ _ 0x4)) rfl (PX _ _))⟩;refine⟨y,λz=>g1,λhy z=>?_⟩;have:=g2 hy;rw[z] at this;cases this
    cases c2 with
    |true=>exact⟨S0,λr h=>.inl h,d2 rfl,λz=>oJ (e1 z) (J3 (e2 z) (aJa rfl))⟩
    |false=>exact⟨S0++S1,λr h=>eP.mp h,λz=>aHu P hk (List.append_eq_nil_iff.mp z).2,λz=>oJ (e1 z) (oJ (e2 z) rfl)⟩
  have lS:0<S.length:=AI.mpr nS;obtain⟨i,i1,i2⟩:=kix (m:=S.length) 0x1 (v / 4);have hi:S[i]?=aa S[i]:=dq i1;have gS:=hS _ (xj i1);generalize hr0:S[i]=r at gS hi;obtain⟨g1,g2,g3,g4⟩:r∈K++M/\r.2.1=k/\(r.2.2.map l).sum<=room/\Gr m r:=by
   rcases gS with h|h
   .have:=hX.mp h;obtain⟨q1,q2⟩:=hK r this.1;exact⟨jr _ this.1,d5 this.2,by rw[q2];exact ef _,q1,by rw[q2];exact λ_ h=>(by cases h),by rw[q2];decide⟩
   .have:=hX.mp h;obtain⟨q1,q2⟩:=aHt this.2;exact⟨eS _ this.1,q1,q2,P.hg r this.1⟩
  refine⟨r,g1,g2,room-(r.2.2.map l).sum,[sy N k,.int room,.int v,.lst (S0.map (rwD N)),.lst (S1.map (rwD N)),.lst (S2.map (rwD N)),.lst (S.map (rwD N)),rwD N r],by lia,rfl,λz=>?_⟩;obtain⟨t0,t1⟩:=top2 hN hd (cs:=cs) (x1:=.lst (K.map (rwD N))) (x2:=.lst (M.map (rwD N))) (x3:=x3) (x4:=x4) P.m3 (z:=z) (n:=n) (left:=left) hk h1 (W:=W) (rest:=rest) (t:=[c,d,e,f,g,h]) (a:=a) (b:=b);refine aN t0 (aN t1 (aN (ρ':=wst cs (.lst (K.map (rwD N))) (.lst (M.map (rwD N))) x3 x4 N m l z (n+1) W rest left [sy N k,.int room,.int v,d,e,f,g,h]) (jA (i:=11) (BW qv rfl rfl) rfl) (aN (ρ':=wst cs (.lst (K.map (rwD N))) (.lst (M.map (rwD N))) x3 x4 N m l z (n+1) W rest left [sy N k,.int room,.int v,.lst (S0.map (rwD N)),e,f,g,h]) ?_ (aN (ρ':=wst cs (.lst (K.map (rwD N))) (.lst (M.map (rwD N))) x3 x4 N m l z (n+1) W rest left [sy N k,.int room,.int v,.lst (S0.map (rwD N)),.lst (S1.map (rwD N)),f,g,h]) (cR (i:=13) (aP9 hN hd P (room:=room) (ih:=2) hk rfl rfl (λ_=>rfl) (λ_=>rfl) (λ_=>rfl) (λ_ _=>rfl) (λ_ _=>rfl))) (aN (ρ':=wst cs (.lst (K.map (rwD N))) (.lst (M.map (rwD N))) x3 x4 N m l z (n+1) W rest left [sy N k,.int room,.int v,.lst (S0.map (rwD N)),.lst (S1.map (rwD N)),.lst (S2.map (rwD N)),g,h]) ?_ (aN (ρ':=st z (n+1) (S0++S1) h) ?_ (aN (t4 z) (aN (ρ':=st z (n+1) S (rwD N r)) ?_ ?_))))))))
  .refine cR (i:=12) (xN (n:=17) (rwD N) (rwD N) p0 K rfl (fC rfl) 0x1 (λr hr=>?_) λr hr _=>⟨rfl,dW ..⟩);have:=hK r hr;exact cJ (aH (aH (x:=rwD N r) rfl rfl rfl) rfl (WP hN hd 0x1 0x1))
  .refine cR (i:=14) (xN (n:=17) (rwD N) (rwD N) p2 S1 rfl (fC rfl) 0x1 (λr hr=>?_) λr hr _=>⟨rfl,dW ..⟩);exact cJ (aH (aH (x:=rwD N r) rfl rfl rfl) rfl (aKy N r.2.2))
  .refine(cR (i:=15) (aH (x:=.lst (S0.map (rwD N))) (y:=.lst (S1.map (rwD N))) rfl rfl (HF _ _ (by rw[az,az,bG];lia) (bQ (dW N) _) (bQ (dW N) _)))).trans ?_;show _=τ (Fl.nx (wst cs _ _ x3 x4 N m l z (n+1) W rest left [sy N k,.int room,.int v,.lst (S0.map (rwD N)),.lst (S1.map (rwD N)),.lst (S2.map (rwD N)),.lst ((S0++S1).map (rwD N)),h]));rw[cw];rfl
  .exact dZ (i:=16) (aH (x:=.lst (S.map (rwD N))) rfl (aH (aH (x:=.int v) rfl rfl (dM _ _ 0x4 0x4)) (aHs rfl) (b_ _ _ 0x1)) (fO i2 hi)) (dW ..)
  .exact aD2 hN hd P.m3 P.lb g4 hW hr g3 (λ_ _ _=>rfl) (λ_ _ _=>rfl) rfl (λ_ _ _ _=>rfl)
theorem aKz(cs:ae ai)(P:aHr m M l)(hK:∀r∈K,r.2.1<m/\r.2.2=[])(hKl:K.length<=10)(hk:k<m)(hm:most<=390)(hn:n<=3000) :
  ∃(V:ae ah)(n':ah),Run (K++M) [k] V/\V.length<=max most 4/\n'<=n+max most 4/\ch1 jV (dk cs n) [.lst (K.map (rwD N)),.lst (M.map (rwD N)),sy N k,.int most,.dct (lsD N m l)]=.ok (.lst (V.map (sy N)),dk cs n'):=by
 have hk1:=P.lb k hk
 let left:ah:=most-l k
 have hle:left+l k<=max most 4:=by show most-l k+l k<=_;lia
 have hle2:max most 4<=390:=by lia
 obtain⟨V,n',left',t',h1,h2,h3,h4⟩:=aKw (N:=N) (cs:=cs) (x1:=.lst (K.map (rwD N))) (x2:=.lst (M.map (rwD N))) (x3:=sy N k) (x4:=.int most) (H:=K++M) P.lb (λr hr=>by
  rcases eP.mp hr with h|h
  .obtain⟨q1,q2⟩:=hK r h;exact⟨q1,by rw[q2];exact λ_ h=>(by cases h),by rw[q2];decide⟩
  .exact P.hg r h) (λ{n W rest k left} a b c d t ht=>gturn hN hd (cs:=cs) (x3:=sy N _) (x4:=.int most) P hK hKl a b c d t ht) (left+l k) n 9000 [] [k] left [.uD,.uD,.uD,.uD,.uD,.uD,.uD,.uD] 0x2 0x1 0x1 (by show 0+_<=_;lia) (λj hj=>by rw[ll] at hj;lia) rfl
 refine⟨V,n',h1,by lia,by lia,E_ λz=>BR (k:=1) (ρ:=wst cs (.lst (K.map (rwD N))) (.lst (M.map (rwD N))) (sy N k) (.int most) N m l z n' V [] left' t') ?_⟩;show q_ _=_;rw[aKx];refine aN (ρ':=[.cel z (dk cs n),.lst (K.map (rwD N)),.lst (M.map (rwD N)),sy N k,.int most,.dct (lsD N m l),.lst [],.uD,.uD,.uD,.uD,.uD,.uD,.uD,.uD,.uD,.uD]) (d7 (i:=6) rfl rfl) ?_;refine aN (ρ':=[.cel z (dk cs n),.lst (K.map (rwD N)),.lst (M.map (rwD N)),sy N k,.int most,.dct (lsD N m l),.lst [],.lst [sy N k],.uD,.uD,.uD,.uD,.uD,.uD,.uD,.uD,.uD]) (d7 (i:=7) rfl rfl) ?_;refine aN (ρ':=wst cs (.lst (K.map (rwD N))) (.lst (M.map (rwD N))) (sy N k) (.int most) N m l z n [] [k] left [.uD,.uD,.uD,.uD,.uD,.uD,.uD,.uD]) (dZ (i:=8) (d:=.int left) (bF (aD rfl (aD (aH (x:=.int most) rfl (aH rfl rfl (wI hN hd P.m3 hk)) (xY _ _)) rfl)) ((aRx _).trans ?_)) rfl) ?_
 .congr 2
  show _=((most-l k:ah):ai);split<;>lia
 refine aN (h4 z) ?_;exact yR rfl rfl
end
theorem call_v(h:f (ds++cq (m-n) D.uD)=.ok (.rt d)):fnS n m f ds=.ok d:=by
 unfold fnS;rw[h];rfl
theorem QF(h:a ρ=.ok b):aDo a ρ=.ok (!b):=by
 unfold aDo;rw[h,ι];rfl
theorem QG(h:a ρ=.ok (.bl b)):bTr a ρ=.ok b:=by
 unfold bTr;rw[h,ι];rfl
def hdV(N:ae Str)(r:Rw):D:=.tup [sy N r.2.1,.tup (r.2.2.map (sy N))]
def hdD(N:ae Str)(F:ae Rw):ae (D×D):=F.map λr=>(sy N r.1,hdV N r)
noncomputable def tr(t:Tk):Rw:=(t.1,t.2.1,t.2.2.1::t.2.2.2)
theorem JS(N:ae Str)(r:Rw):(hdV N r).pure=ag:=by
 show((sy N r.2.1).pure&&((ν (r.2.2.map (sy N))).pure&&ag))=ag;rw[ξ,bO];rfl
theorem wJ:∀{ps:ae D},(∀p∈ps,p.pure=ag)->ε ps=ag
 |[],_=>rfl
 |p::ps,h=>by rw[ε,h p 0x2,wJ λq hq=>h q (by simp[hq])];rfl
def mkD(N:ae Str)(M:ae Rw):ae (D×D):=M.map λr=>(sy N r.1,.bl ag)
structure Hds(F:ae Rw):Prop where
 nd:(F.map (·.1)).Nodup
 lt:∀r∈F,r.1<26/\r.2.1<26/\(∀i∈r.2.2,i<26)/\r.2.2.length<=10
 ln:F.length<=100
section
variable {N:ae Str} (hN:N.length=26) (hd:N.Nodup)
include hN hd
theorem xR(nm:α->ah)(g:α->D)(hi:i<26)(v:D):∀(L:ae α),(∀a∈L,nm a<26)->i∉L.map nm->putD (L.map λa=>(sy N (nm a),g a)) (sy N i) v=(L.map λa=>(sy N (nm a),g a))++[(sy N i,v)]
 |[],_,_=>rfl
 |a::L,h1,h2=>by
  rw[bd,cg,mI] at h2;rw[bd,putD,yG hN hd (h1 a (de ..)) hi,cS (λg=>h2.1 g.symm),ax 0x2,xR nm g hi v L (λb hb=>h1 b (dg _ hb)) h2.2];rfl
omit hN hd in
theorem wK(nm:α->ah)(g:α->D)(L:ae α)(i:ah):yJ (L.map λa=>(sy N (nm a),g a)) (sy N i)=ag:=by
 show(ag&&(L.map λa=>(sy N (nm a),g a)).all λp=>isTup p.1==ak)=ag;rw[mE,ig];intro y hy;obtain⟨k,_,rfl⟩:=cK.mp hy;rfl
theorem WQ{pr e f g h:D}(e5:D):∀(M L:ae Rw),((L++M).map (·.1)).Nodup->(∀r∈L++M,r.1<26)->L.length+M.length<=1000->∀(a b c:D),∃a' b' c',xV (tgN [2,3,4]) (aEf 1 fH (iK (aC eF (aC gU aU)))) (M.map (rwD N)) [pr,.dct (hdD N L),a,b,c,e5,f]=.ok (.nx [pr,.dct (hdD N (L++M)),a',b',c',e5,f])
 |[],L,_,_,_,a,b,c=>⟨a,b,c,by rw[cv];rfl⟩
 |r::M,L,h1,h2,h3,a,b,c=>by
  have hr:r.1<26:=h2 r 0x2;have hn:r.1∉L.map (·.1):=λhm=>by
   rw[cw,bd,iw] at h1;exact h1.2.2 _ hm _ (de ..) rfl
  have e1:hdD N (L++[r])=putD (hdD N L) (sy N r.1) (hdV N r):=by
   unfold hdD;rw[xR hN hd (λr:Rw=>r.1) (hdV N) hr _ L (λx hx=>h2 x (by simp[hx])) hn,cw];rfl
  rw[br] at h3;obtain⟨a',b',c',q⟩:=WQ (e:=e) (f:=f) (g:=g) (h:=h) e5 M (L++[r]) (by rw[cu];exact h1) (by rw[cu];exact h2) (by rw[bq,eB];lia) (sy N r.1) (sy N r.2.1) (.tup (r.2.2.map (sy N)));refine⟨a',b',c',?_⟩;rw[bd];rw[cu] at q;refine cH (ρ1:=[pr,.dct (hdD N L),sy N r.1,sy N r.2.1,.tup (r.2.2.map (sy N)),e5,f]) rfl (VH (i:=1) (kvs:=hdD N L) (k:=sy N r.1) (d:=hdV N r) (eE (aD rfl (aD rfl rfl)) (by rw[bG];simp)) rfl rfl (by unfold hdD;rw[az,bG];lia) (wK ..) (JS ..)) ?_;rw[<-e1];exact q
theorem WR{pr:D}:∀(T:ae Tk)(L:ae Rw),((L++T.map tr).map (·.1)).Nodup->(∀r∈L++T.map tr,r.1<26)->L.length+T.length<=1000->(∀t∈T,t.2.2.2.length<=10)->∀(a b c d e:D),∃a' b' c' d' e',xV (tgN [2,3,5,6]) (aEf 1 fH (iK (aC eF (aC (b2 aH9 (iK (aC jY aU)) t_) aU)))) (T.map (tkD N)) [pr,.dct (hdD N L),a,b,c,d,e]=.ok (.nx [pr,.dct (hdD N (L++T.map tr)),a',b',c',d',e'])
 |[],L,_,_,_,_,a,b,c,d,e=>⟨a,b,c,d,e,by rw[show L++di tr []=L from cv L];rfl⟩
 |t::T,L,h1,h2,h3,h4,a,b,c,d,e=>by
  have hr:(tr t).1<26:=h2 (tr t) 0x2;have hn:(tr t).1∉L.map (·.1):=λhm=>by
   rw[bd,cw,bd,iw] at h1;exact h1.2.2 _ hm _ (de ..) rfl
  have e1:hdD N (L++[tr t])=putD (hdD N L) (sy N (tr t).1) (hdV N (tr t)):=by
   unfold hdD;rw[xR hN hd (λr:Rw=>r.1) (hdV N) hr _ L (λx hx=>h2 x (jr _ hx)) hn,cw];rfl
  rw[br] at h3;obtain⟨a',b',c',d',e',q⟩:=WR T (L++[tr t]) (by rw[cu];exact h1) (by rw[cu];exact h2) (by rw[bq,eB];lia) (λx hx=>h4 x (dg _ hx)) (sy N t.1) (sy N t.2.1) c (sy N t.2.2.1) (.tup (t.2.2.2.map (sy N)));refine⟨a',b',c',d',e',?_⟩;rw[bd];rw[cu] at q;have hl:=h4 t (de ..);have had:aH9 (.tup [sy N t.2.2.1]) (.tup (t.2.2.2.map (sy N)))=.ok (.tup ((tr t).2.2.map (sy N))):=by
   show(if ϒ ([sy N t.2.2.1].length+(t.2.2.2.map (sy N)).length<=lim) then τ (ν ([sy N t.2.2.1]++t.2.2.2.map (sy N))) else .bad)=_;rw[az,bG,bw (by simp;lia)];rfl
  refine cH rfl (VH (k:=sy N (tr t).1) (d:=hdV N (tr t)) (eE (aD rfl (aD (aH (eE (aD rfl rfl) (by rw[bG];simp)) rfl had) rfl)) (by rw[bG];simp)) rfl rfl (by unfold hdD;rw[az,bG];lia) (wK ..) (JS ..)) ?_;rw[<-e1];exact q
theorem aG9{T:ae Tk}(F:Hds (M++T.map tr)):jH [.tup [P0,.tup (M.map (rwD N)),.tup (T.map (tkD N)),P3]]=.ok (.dct (hdD N (M++T.map tr))):=by
 have hl:=F.ln;rw[bq,az] at hl;obtain⟨a,b,c,q1⟩:=WQ hN hd (pr:=.tup [P0,.tup (M.map (rwD N)),.tup (T.map (tkD N)),P3]) (e:=.uD) (f:=.uD) (g:=.uD) (h:=.uD) .uD M [] (by have:=F.nd;rw[cw,iw] at this;exact this.1) (λr hr=>(F.lt r (jr _ hr)).1) (by simp;lia) .uD .uD .uD;obtain⟨a2,b2',c2,d2,e2,q2⟩:=WR hN hd (pr:=.tup [P0,.tup (M.map (rwD N)),.tup (T.map (tkD N)),P3]) T M F.nd (λr hr=>(F.lt r hr).1) 0x1 (λt ht=>by have:=(F.lt (tr t) (eS _ (gl ht))).2.2.2;have e:(tr t).2.2.length=t.2.2.2.length+1:=rfl;lia) a b c .uD .uD;refine call_v ?_;refine aN (ρ':=[.tup [P0,.tup (M.map (rwD N)),.tup (T.map (tkD N)),P3],.dct [],.uD,.uD,.uD,.uD,.uD]) (d7 (i:=1) rfl rfl) ?_;refine aN (oK ((gB (aH rfl rfl rfl)).trans (by rw[bQ (dW N)];rfl)) q1) ?_;exact aN (oK ((gB (aH rfl rfl rfl)).trans (by rw[bQ (xP N)];rfl)) q2) rfl
theorem aHv(hF:Hds F)(hr:r∈F):getD (.dct (hdD N F)) (sy N r.1)=.ok (hdV N r):=by
 show(if ag then ο (cO (hdD N F) (sy N r.1)) else .bad)=_;unfold hdD;rw[ao rfl,xQ hN hd (λr:Rw=>r.1) (hdV N) F hF.nd (λa ha=>(hF.lt a ha).1) r hr];rfl
end
def mkE:FE:=(b1 FN (dB 3 (bH (b2 getD fK dR) ak) lO gG (iK (aC (b2 getD eF cT) (aC (bC (.bl ag)) aU))) ak))
def ruE:FE:=(b1 H_ (dB 3 (bH (b2 getD fK kW) ak) lO gG (iK (aC (iK (aC (b2 getD eF cT) (aC (b2 getD eF dR) aU))) (aC eF aU))) ak))
theorem aS0:fX=([("heads",.exp (aZ (sG 1 jH) (aC fK aU))),("makers",.exp mkE),("rules",.exp ruE),("most",.par 2),("calls",.exp cT),("copies",.exp cT),("drops",.exp cT)]:ae (Str×Srx)):=rfl
theorem WT:∀M:ae Rw,z7 (M.map λr=>ν [sy N r.1,.bl ag])=aa (mkD N M)
 |[]=>rfl
 |r::M=>by
  show(if gZ (sy N r.1)&&(χ ag).pure then (z7 (M.map λr=>ν [sy N r.1,.bl ag])).map ((sy N r.1,χ ag)::·) else aj)=_;rw[WT M];rfl
section
variable {N:ae Str} (hN:N.length=26) (hd:N.Nodup)
include hN hd
theorem WW:∀(M L:ae Rw),((L++M).map (·.1)).Nodup->(∀r∈L++M,r.1<26)->lJ (mkD N L) (mkD N M)=mkD N (L++M)
 |[],L,_,_=>by rw[cv];rfl
 |r::M,L,h1,h2=>by
  show lJ (putD (mkD N L) (sy N r.1) (.bl ag)) (mkD N M)=_;have hnot:r.1∉L.map (·.1):=λz=>by
   rw[cw,iw] at h1;exact h1.2.2 r.1 z r.1 0x2 rfl
  have e:=xR hN hd (λa:Rw=>a.1) (λ_=>χ ag) (h2 r 0x2) (.bl ag) L (λa ha=>h2 a (by simp[ha])) hnot;have e':putD (mkD N L) (sy N r.1) (.bl ag)=mkD N (L++[r]):=by
   show putD (L.map λa=>(sy N a.1,χ ag)) (sy N r.1) (.bl ag)=_;rw[e];unfold mkD;rw[cw];rfl
  rw[e',WW M (L++[r]) (by simpa using h1) (by simpa using h2)];simp
theorem aPa(hM:Hds M):mkE [.uD,.tup [P0,.tup (M.map (rwD N)),P2,P3],mo]=.ok (.dct (mkD N M)):=by
 have hl:=hM.ln;refine DK (gQ (rwD N) (λr:Rw=>ν [sy N r.1,.bl ag]) M rfl (gB (aH rfl rfl rfl)) 0x1 λr hr=>⟨eE (aD (jX rfl).1 (aD rfl rfl)) (by rw[bG];simp),rfl⟩) ?_;show(match z7 (M.map λr:Rw=>ν [sy N r.1,.bl ag]) with|some ps=>if ϒ ((M.map λr:Rw=>ν [sy N r.1,.bl ag]).length<=1000) then τ (D.dct (lJ [] ps)) else .bad|none=>.bad)=_;rw[WT];dsimp only;rw[ao (by rw[az];exact bw 0x1)];have:=WW hN hd M [] hM.nd λr hr=>(hM.lt r hr).1
 rw[fq] at this;exact cf (λz=>τ (D.dct z)) this
end
noncomputable abbrev Ru:=ah×ah×ae ah×ae ah
def ruD(N:ae Str)(r:Ru):D:=.tup [sy N r.1,sy N r.2.1,.tup (r.2.2.1.map (sy N)),.tup (r.2.2.2.map (sy N))]
def rlD(N:ae Str)(R:ae Ru):ae (D×D):=R.map λr=>(.tup [sy N r.1,sy N r.2.1],ruD N r)
theorem iD(N:ae Str)(r:Ru):(ruD N r).pure=ag:=by
 show((sy N r.1).pure&&((sy N r.2.1).pure&&((ν (r.2.2.1.map (sy N))).pure&&((ν (r.2.2.2.map (sy N))).pure&&ag))))=ag;rw[ξ,ξ,bO,bO];rfl
structure Rls(R:ae Ru):Prop where
 nd:(R.map λr=>(r.1,r.2.1)).Nodup
 lt:∀r∈R,r.1<26/\r.2.1<26
 ln:R.length<=100
theorem WX:∀R:ae Ru,z9 (R.map λr=>ν [.tup [sy N r.1,sy N r.2.1],ruD N r])=aa (rlD N R)
 |[]=>rfl
 |r::R=>by
  show(if [sy N r.1,sy N r.2.1].all gZ&&(ruD N r).pure then (z9 (R.map λr=>ν [.tup [sy N r.1,sy N r.2.1],ruD N r])).map ((ν [sy N r.1,sy N r.2.1],ruD N r)::·) else aj)=_;rw[WX R,iD];rfl
section
variable {N:ae Str} (hN:N.length=26) (hd:N.Nodup)
include hN hd
theorem TY(ha:a<26)(hb:b<26)(hc:c<26)(he:d<26):eqD (.tup [sy N a,sy N b]) (.tup [sy N c,sy N d])=ϒ ((a,b)=(c,d)):=by
 show(eqD (sy N a) (sy N c)&&(eqD (sy N b) (sy N d)&&ag))=_;rw[yG hN hd ha hc,yG hN hd hb he,wn];by_cases h:a=c<;>by_cases h2:b=d<;>simp[h,h2]
theorem aHw(hi:i<26)(hj:j<26)(v:D):∀(L:ae Ru),(∀r∈L,r.1<26/\r.2.1<26)->(i,j)∉(L.map λr=>(r.1,r.2.1))->putD (rlD N L) (.tup [sy N i,sy N j]) v=rlD N L++[(.tup [sy N i,sy N j],v)]
 |[],_,_=>rfl
 |a::L,h1,h2=>by
  rw[bd,cg,mI] at h2;have ha:=h1 a (de ..);show(if eqD (.tup [sy N a.1,sy N a.2.1]) (.tup [sy N i,sy N j]) then _ else (ν [sy N a.1,sy N a.2.1],ruD N a)::putD (rlD N L) (.tup [sy N i,sy N j]) v)=_;rw[TY hN hd ha.1 ha.2 hi hj,cS (λg=>h2.1 g.symm),ax 0x2,aHw hi hj v L (λb hb=>h1 b (dg _ hb)) h2.2];rfl
theorem WY:∀(R L:ae Ru),((L++R).map λr=>(r.1,r.2.1)).Nodup->(∀r∈L++R,r.1<26/\r.2.1<26)->lJ (rlD N L) (rlD N R)=rlD N (L++R)
 |[],L,_,_=>by rw[cv];rfl
 |r::R,L,h1,h2=>by
  show lJ (putD (rlD N L) (.tup [sy N r.1,sy N r.2.1]) (ruD N r)) (rlD N R)=_;have hnot:(r.1,r.2.1)∉(L.map λr=>(r.1,r.2.1)):=λz=>by
   rw[cw,iw] at h1;exact h1.2.2 (r.1,r.2.1) z (r.1,r.2.1) 0x2 rfl
  have hr:=h2 r 0x2;have e':putD (rlD N L) (.tup [sy N r.1,sy N r.2.1]) (ruD N r)=rlD N (L++[r]):=by
   rw[aHw hN hd hr.1 hr.2 _ L (λb hb=>h2 b (by simp[hb])) hnot];unfold rlD;rw[cw];rfl
  rw[e',WY R (L++[r]) (by simpa using h1) (by simpa using h2)];simp
theorem aD3:∀(R:ae Ru),(R.map λr=>(r.1,r.2.1)).Nodup->(∀r∈R,r.1<26/\r.2.1<26)->∀r∈R,cO (rlD N R) (.tup [sy N r.1,sy N r.2.1])=aa (ruD N r)
 |[],_,_,r,hr=>by simp at hr
 |b::L,h1,h2,a,ha=>by
  have hb:=h2 b (de ..);have hA:=h2 a ha;show(if eqD (.tup [sy N b.1,sy N b.2.1]) (.tup [sy N a.1,sy N a.2.1]) then aa (ruD N b) else cO (rlD N L) (.tup [sy N a.1,sy N a.2.1]))=_;rw[TY hN hd hb.1 hb.2 hA.1 hA.2];rw[bd,fy] at h1;rcases cg.mp ha with e|e
  .subst e;rw[bw rfl,ao rfl]
  .have:¬(b.1,b.2.1)=(a.1,a.2.1):=λg=>h1.1 (g▸gl e)
   rw[cS this,ax 0x2,aD3 L h1.2 (λr hr=>h2 r (dg _ hr)) a e]
theorem aPb(hR:Rls R)(hr:r∈R):getD (.dct (rlD N R)) (.tup [sy N r.1,sy N r.2.1])=.ok (ruD N r):=by
 show(if keyOk (.tup [sy N r.1,sy N r.2.1])=ag then ο (cO (rlD N R) (.tup [sy N r.1,sy N r.2.1])) else .bad)=_;rw[ao 0x3,aD3 hN hd R hR.nd hR.lt r hr];rfl
theorem aPc(hR:Rls R):ruE [.uD,.tup [P0,P1,P2,.tup (R.map (ruD N))],mo]=.ok (.dct (rlD N R)):=by
 have hl:=hR.ln;refine DK (gQ (ruD N) (λr:Ru=>ν [.tup [sy N r.1,sy N r.2.1],ruD N r]) R rfl (gB (aH rfl rfl rfl)) 0x1 λr hr=>⟨eE (aD (eE (aD (aH rfl rfl rfl) (aD (aH rfl rfl rfl) rfl)) (by rw[bG];simp)) (aD rfl rfl)) (by rw[bG];simp),?_⟩) ?_
 .show(ak||((ν [sy N r.1,sy N r.2.1]).pure&&((ruD N r).pure&&ag)))=ag;rw[iD];rfl
 .show(match z9 (R.map λr:Ru=>ν [.tup [sy N r.1,sy N r.2.1],ruD N r]) with|some ps=>if ϒ ((R.map λr:Ru=>ν [.tup [sy N r.1,sy N r.2.1],ruD N r]).length<=1000) then τ (D.dct (lJ [] ps)) else .bad|none=>.bad)=_;rw[WX];dsimp only;rw[ao (by rw[az];exact bw 0x1)];have:=WY hN hd R [] hR.nd hR.lt;rw[fq] at this;exact cf (λz=>τ (D.dct z)) this
theorem JT(F:ae Rw):ε ((hdD N F).map (·.2))=ag:=wJ λp hp=>by
 unfold hdD at hp;rw[dw] at hp;obtain⟨r,_,rfl⟩:=cK.mp hp;exact JS N r
theorem JV(M:ae Rw):ε ((mkD N M).map (·.2))=ag:=wJ λp hp=>by
 unfold mkD at hp;rw[dw] at hp;obtain⟨r,_,rfl⟩:=cK.mp hp;rfl
theorem JW(R:ae Ru):ε ((rlD N R).map (·.2))=ag:=wJ λp hp=>by
 unfold rlD at hp;rw[dw] at hp;obtain⟨r,_,rfl⟩:=cK.mp hp;exact iD N r
def JX(N:ae Str)(ks:ae ah)(M:ae Rw)(T:ae Tk)(R:ae Ru):D:=.tup [.tup (ks.map (sy N)),.tup (M.map (rwD N)),.tup (T.map (tkD N)),.tup (R.map (ruD N))]
theorem aD4(hF:Hds (M++T.map tr))(hM:Hds M)(hR:Rls R):evS [.uD,JX N ks M T R,.int b] fX=.ok (prF (hdD N (M++T.map tr)) (mkD N M) (rlD N R) b ⟨0,0,0⟩):=by
 have h3:=aPc hN hd hR (P0:=.tup (ks.map (sy N))) (P1:=.tup (M.map (rwD N))) (P2:=.tup (T.map (tkD N))) (mo:=.int b);have h1:aZ (sG 1 jH) (aC fK aU) [.uD,JX N ks M T R,.int b]=.ok (.dct (hdD N (M++T.map tr))):=bF (aD rfl rfl) ((oZ rfl).trans (aG9 hN hd hF));have h2:=aPa hN hd hM (P0:=.tup (ks.map (sy N))) (P2:=.tup (T.map (tkD N))) (P3:=.tup (R.map (ruD N))) (mo:=.int b);have k:∀kn:ae (D×D),ε (kn.map (·.2))=ag->okF (.dct kn)=ag:=λkn h=>by
  show(ak||ε (kn.map (·.2)))=ag;rw[h];rfl
 rw[aS0];have step:∀{ρ:ae D}{f:Str}{s:Srx}{r:ae (Str×Srx)}{d:D}{ds:ae (Str×D)},s.ev ρ=.ok d->okF d=ag->evS ρ r=.ok ds->evS ρ ((f,s)::r)=.ok ((f,d)::ds):=by
  intro ρ f s r d ds g1 g2 g3;show(do let d <- s.ev ρ;let ds <- evS ρ r;if okF d then τ ((f,d)::ds) else .bad)=_;rw[g1,ι,g3,ι,ao g2]
 exact step h1 (k _ (JT hN hd _)) (step h2 (k _ (JV hN hd _)) (step h3 (k _ (JW hN hd _)) (step rfl rfl (step rfl rfl (step rfl rfl (step rfl rfl rfl))))))
theorem aGa(hF:Hds (M++T.map tr))(hM:Hds M)(hR:Rls R){W:ae ah}{y d:D}{k:Cn}(hv:aCc (hdD N (M++T.map tr)) (mkD N M) (rlD N R) b (W.map (sy N))=.ok (y,k))(hw:jJ [y]=.ok d)(pd:d.pure=ag):dU [JX N ks M T R,.tup (W.map (sy N)),.int b]=.ok (.tup [d,.int k.c,.int k.p,.int k.d]):=by
 have pp:(JX N ks M T R).pure=ag:=by
  show((ν (ks.map (sy N))).pure&&((ν (M.map (rwD N))).pure&&((ν (T.map (tkD N))).pure&&((ν (R.map (ruD N))).pure&&ag))))=ag;rw[ξ,ξ,ξ,ξ,bO,bQ (dW N),bQ (xP N),bQ (iD N)];rfl
 unfold dU aLs;dsimp only;rw[ao (by rw[bO,pp];rfl),aD4 hN hd hF hM hR];show(if (ag&&(ag&&(ag&&(ε ((hdD N (M++T.map tr)).map (·.2))&&(ε ((mkD N M).map (·.2))&&ε ((rlD N R).map (·.2)))))))=ag then _ else _)=_;rw[ao (by rw[JT hN hd,JV hN hd,JW hN hd];rfl),hv];dsimp only;rw[hw];dsimp only;rw[ao pd]
theorem aD5(hF:Hds (M++T.map tr))(hM:Hds M)(hR:Rls R){W:ae ah}{c:Str}{as:ae D}(hv:aCc (hdD N (M++T.map tr)) (mkD N M) (rlD N R) b (W.map (sy N))=.err c as):dU [JX N ks M T R,.tup (W.map (sy N)),.int b]=.err c as:=by
 have pp:(JX N ks M T R).pure=ag:=by
  show((ν (ks.map (sy N))).pure&&((ν (M.map (rwD N))).pure&&((ν (T.map (tkD N))).pure&&((ν (R.map (ruD N))).pure&&ag))))=ag;rw[ξ,ξ,ξ,ξ,bO,bQ (dW N),bQ (xP N),bQ (iD N)];rfl
 unfold dU aLs;dsimp only;rw[ao (by rw[bO,pp];rfl),aD4 hN hd hF hM hR];show(if (ag&&(ag&&(ag&&(ε ((hdD N (M++T.map tr)).map (·.2))&&(ε ((mkD N M).map (·.2))&&ε ((rlD N R).map (·.2)))))))=ag then _ else _)=_;rw[ao (by rw[JT hN hd,JV hN hd,JW hN hd];rfl),hv]
end
theorem fM:∀a b:ae D,ε (a++b)=(ε a&&ε b)
 |[],b=>rfl
 |x::a,b=>by
  show(x.pure&&ε (a++b))=((x.pure&&ε a)&&ε b);rw[fM a b,zq]
noncomputable def szD:D->ai
 |.tup [_,_,.int z]=>z
 |_=>0
def szs:ae D->ai
 |[]=>0
 |d::r=>szD d+szs r
theorem aD6:∀a b:ae D,szs (a++b)=szs a+szs b
 |[],b=>by show szs b=0+szs b;lia
 |d::a,b=>by show szD d+szs (a++b)=szD d+szs a+szs b;rw[aD6 a b];lia
inductive Rd(N:ae Str)(M:ae Rw):ae ah->ae ah->ae D->Prop
 |nil:Rd N M [] [] []
 |step {r:Rw} {ks W:ae ah} {ps vs:ae D}:r∈M->ps.length=r.2.2.length->Rd N M (r.2.2++ks) W (ps++vs)->Rd N M (r.2.1::ks) (r.1::W) (.tup [sy N r.1,.tup ps,.int (1+szs ps)]::vs)
section
variable {N:ae Str} {M:ae Rw} {ks W:ae ah} {vs:ae D}
theorem Rd.len(h:Rd N M ks W vs):vs.length=ks.length:=by
 induction h with
 |nil=>rfl
 |step hr hp h ih=>rw[bq,bq] at ih;rw[br,br];lia
theorem Rd.sz(h:Rd N M ks W vs):szs vs=W.length:=by
 induction h with
 |nil=>rfl
 |@step r ks W ps vs hr hp h ih=>
  rw[aD6] at ih;show 1+szs ps+szs vs=((W.length+1:ah):ai);lia
theorem Rd.run(h:Rd N M ks W vs):Run M ks W:=by
 induction h with
 |nil=>exact .nil
 |step hr hp h ih=>exact .step hr ih
theorem Rd.pure(h:Rd N M ks W vs):ε vs=ag:=by
 induction h with
 |nil=>rfl
 |@step r ks W ps vs hr hp h ih=>
  rw[fM,aS] at ih;show((ν [sy N r.1,.tup ps,.int (1+szs ps)]).pure&&ε vs)=ag;rw[ih.2,wn];show((sy N r.1).pure&&((ν ps).pure&&ag))=ag;rw[ξ,ih.1];rfl
theorem aE5(h:Run M ks W):∃vs,Rd N M ks W vs:=by
 induction h with
 |nil=>exact⟨[],.nil⟩
 |@step r rest W hr h ih=>
  obtain⟨us,hu⟩:=ih;have hl:=hu.len;rw[bq] at hl;refine⟨_,.step (ps:=us.take r.2.2.length) hr (by rw[jg];lia) (by rw[nV];exact hu)⟩
theorem Rd.app(h:Rd N M ks W vs)(h2:Rd N M b W2 v2):Rd N M (ks++b) (W++W2) (vs++v2):=by
 induction h with
 |nil=>exact h2
 |@step r ks W ps vs hr hp h ih=>
  rw[cu,cu] at ih;exact .step hr hp ih
theorem Rd.split:∀(n:ah){a b W:ae ah}{vs:ae D},W.length<=n->Rd N M (a++b) W vs->∃W1 W2 v1 v2,W=W1++W2/\vs=v1++v2/\Rd N M a W1 v1/\Rd N M b W2 v2
 |_,[],b,W,vs,_,h=>⟨[],W,[],vs,rfl,rfl,.nil,h⟩
 |n,k::a,b,W,vs,hn,h=>by
  cases h with
  |@step r _ W' ps vs' hr hp h=>
   rw[br] at hn;cases n with
   |zero=>lia
   |succ n=>
    have h:Rd N M (r.2.2++(a++b)) W' (ps++vs'):=h;rw[<-cu] at h;obtain⟨W1,W2,u1,v2,rfl,e,h1,h2⟩:=Rd.split n 0x1 h;have l1:=h1.len;rw[bq] at l1;have hle:ps.length<=u1.length:=by lia
    have e1:ps=u1.take ps.length:=by
     have:=cf (C0 ps.length) e;rw[AJ,List.take_append_of_le_length hle] at this;exact this
    have e2:vs'=u1.drop ps.length++v2:=by
     have:=cf (C1 ps.length) e;rw[AK,List.drop_append_of_le_length hle] at this;exact this
    refine⟨r.1::W1,W2,_::u1.drop ps.length,v2,rfl,by rw[e2];rfl,.step hr hp ?_,h2⟩;have e3:ps++u1.drop ps.length=u1:=by
     conv=>lhs;arg 1;rw[e1]
     exact nV ..
    rw[e3];exact h1
theorem Rd.one(h:Rd N M [k] W [v]):∃r ps W',r∈M/\r.2.1=k/\W=r.1::W'/\v=.tup [sy N r.1,.tup ps,.int (1+szs ps)]/\Rd N M r.2.2 W' ps:=by
 cases h with
 |@step r _ W' ps _ hr hp h=>
  rw[cv,cv] at h;exact⟨r,ps,W',hr,rfl,rfl,rfl,h⟩
theorem Rd.sum:∀(n:ah){ks W:ae ah}{vs:ae D},W.length<=n->Rd N M ks W vs->W.length<=9000->∀ps us,vs=ps++us->aFl ps=aa (szs ps)
 |_,_,_,_,_,h,hl,[],us,e=>rfl
 |n,_,_,_,hn,h,hl,p::ps,us,e=>by
  cases h with
  |nil=>cases e
  |@step r ks W qs vs hr hq h=>
   rw[br] at hl hn;cases n with
   |zero=>lia
   |succ n=>
   obtain⟨e1,e2⟩:=En e;subst e1;obtain⟨W1,W2,v1,v2,ew,ev,g1,g2⟩:=Rd.split W.length (bt _) h;have l1:v1.length=qs.length:=by rw[g1.len,hq]
   obtain⟨ea,eb⟩:=List.append_inj ev (by rw[l1]);subst ea eb;have lw:W.length=W1.length+W2.length:=by rw[ew,bq]
   have ih:=Rd.sum n 0x1 g2 0x1 ps us e2;have z1:=g1.sz;show(if (ϒ (-aFk<=1+szs qs)&&ϒ (1+szs qs<=aFk))=ag then (aFl ps).map (1+szs qs+·) else aj)=aa (1+szs qs+szs ps);have hb:aFk=9000:=rfl;rw[ao (by rw[aS,cx,cx,hb];lia),ih];rfl
end
noncomputable abbrev spn:Res (ae D×Cn):=.err "Spent" [.exc "Spent" []]
noncomputable abbrev tot(k:Cn):ai:=k.c+k.p+k.d
noncomputable abbrev Kn:=ah×ah×ae ah×D
def knD(N:ae Str)(L:ae Kn):ae (D×D):=L.map λp=>(sy N p.1,p.2.2.2)
noncomputable def kr(L:ae Kn):ae Rw:=L.map λp=>(p.1,p.2.1,[])
structure aD7(N:ae Str)(M:ae Rw)(L:ae Kn):Prop where
 nd:(L.map (·.1)).Nodup
 lt:∀p∈L,13<=p.1/\p.1<26
 rd:∀p∈L,Rd N M [p.2.1] p.2.2.1 [p.2.2.2]
 ln:L.length<=10
noncomputable def dX(ws:ae ah):ae Kn->Cn->Cn
 |[],k=>k
 |p::L,k=>dX ws L (k.use (ws.count p.1) (p.2.2.1.length:ai))
structure Tab(M:ae Rw)(T:ae Tk)(R:ae Ru)(qq:ah):Prop where
 rt:∀u∈R,10<=u.1
 hF:Hds (M++T.map tr)
 hM:Hds M
 hR:Rls R
 mi:∀r∈M,r.1<10/\r.2.2.length<=3
 ti:∀t∈T,10<=t.1/\t.1<13/\t.2.2.2.length<=2
 ru:∀t∈T,∀r∈M,r.2.1=t.2.2.1->∃own ws,(t.1,r.1,own,ws)∈R/\own.length=r.2.2.length+t.2.2.2.length/\own.Nodup/\(∀i∈own,13<=i/\i<26)/\ws.length<=qq/\(∀j∈ws,j<26)/\Run ((own.zip (r.2.2++t.2.2.2)).map (λp=>(p.1,p.2,[]))++M) [t.2.1] ws
section
variable {N:ae Str} (hN:N.length=26) (hd:N.Nodup)
include hN hd
theorem aHx(hi:i<26):∀L:ae ah,(∀j∈L,j<26)->aBh (N.getD i "") (L.map (sy N))=aa (L.count i)
 |[],_=>rfl
 |j::L,h=>by
  show(aBh (N.getD i "") (L.map (sy N))).map (λn=>if (N.getD j "")==(N.getD i "") then n+1 else n)=_;have e:((N.getD j "")==(N.getD i ""))=ϒ (j=i):=yG hN hd (h j 0x2) hi;rw[aHx hi L λk hk=>h k (by simp[hk]),e,List.count_cons];by_cases hji:j=i
  .rw[bw hji,ao (by simpa using hji)];rfl
  .rw[cS hji,ax (by simpa using hji)];rfl
theorem aD8(hws:∀j∈ws,j<26)(hl:ws.length<=1000):∀(L:ae Kn),(∀p∈L,p.1<26)->(∀p∈L,Rd N M [p.2.1] p.2.2.1 [p.2.2.2])->∀k:Cn,o9 (ws.map (sy N)) (knD N L) k=aa (dX ws L k)
 |[],_,_,k=>rfl
 |p::L,h,hr,k=>by
  have hp:=hr p 0x2;have hz:=hp.sz;obtain⟨r,ps,W',_,_,_,e,_⟩:=hp.one;have hc:=DA (a:=p.1) (l:=ws);show o9 (ws.map (sy N)) ((sy N p.1,p.2.2.2)::knD N L) k=aa (dX ws L (k.use (ws.count p.1) (p.2.2.1.length:ai)));rw[<-hz,e];show(match aBh (N.getD p.1 "") (ws.map (sy N)) with|some n'=>if ϒ (n'<1000000) then o9 (ws.map (sy N)) (knD N L) (Cn.use k n' (1+szs ps)) else aj|none=>aj)=aa (dX ws L (k.use (ws.count p.1) (1+szs ps+0)));rw[aHx hN hd (h p 0x2) ws hws];dsimp only;rw[ao (bw 0x1),aD8 hws hl L (λp hp=>h p (by simp[hp])) (λp hp=>hr p (by simp[hp])),AL]
theorem aL0(nd:(L.map (·.1)).Nodup)(lt:∀p∈L,p.1<26)(hp:p∈L):cO (knD N L) (sy N p.1)=aa p.2.2.2:=xQ hN hd (λp:Kn=>p.1) (λp=>p.2.2.2) L nd lt p hp
theorem T3(hi:i<26):∀(L:ae Kn),(∀p∈L,p.1<26)->(∀p∈L,p.1≠i)->cO (knD N L) (sy N i)=aj
 |[],_,_=>rfl
 |p::L,h,hne=>by
  show(if eqD (sy N p.1) (sy N i) then _ else cO (knD N L) (sy N i))=_;rw[yG hN hd (h p 0x2) hi,cS (hne p 0x2),ax 0x2,T3 hi L (λp hp=>h p (by simp[hp])) λp hp=>hne p (by simp[hp])]
theorem aD9:∀(L A:ae Kn),((A++L).map (·.1)).Nodup->(∀p∈A++L,p.1<26)->nC (L.map λp=>sy N p.1) (L.map λp=>p.2.2.2) (knD N A)=knD N (A++L)
 |[],A,_,_=>by rw[cv];rfl
 |q::L,A,h1,h2=>by
  have hp:=xR hN hd (λp:Kn=>p.1) (λp=>p.2.2.2) (h2 q 0x2) q.2.2.2 A (λp hp=>h2 p (by simp[hp])) (by
   rw[cw,bd,iw] at h1;intro hz;exact h1.2.2 q.1 hz q.1 0x2 rfl)
  show nC (L.map λp=>sy N p.1) (L.map λp=>p.2.2.2) (putD (knD N A) (sy N q.1) q.2.2.2)=_;rw[show putD (knD N A) (sy N q.1) q.2.2.2=knD N (A++[q]) from by rw[show knD N (A++[q])=knD N A++[(sy N q.1,q.2.2.2)] from by simp[knD]];exact hp];rw[aD9 L (A++[q]) (by rw[cu];exact h1) (by rw[cu];exact h2),cu];rfl
variable {M:ae Rw} {T:ae Tk} {R:ae Ru} {qq:ah} (B:Tab M T R qq) {m:ai} {st:ae D} {L:ae Kn} (KL:aD7 N M L)
include B KL
theorem aS1(hp:p∈L)(hl:st.length<=100000):SN (hdD N (M++T.map tr)) (mkD N M) (rlD N R) m k (knD N L) st (sy N p.1)=.ok (p.2.2.2::st,aj,k):=by
 have fm:yJ (mkD N M) (sy N p.1)=ag:=wK (λr:Rw=>r.1) (λ_=>χ ag) M p.1;have fk:yJ (knD N L) (sy N p.1)=ag:=wK (λp:Kn=>p.1) (λp=>p.2.2.2) L p.1;unfold SN;rw[ao (by rw[fk,fm,bw hl];rfl),aL0 hN hd KL.nd (λp hp=>(KL.lt p hp).2) hp]
theorem aS2(hrM:r∈M)(hp:ps.length=r.2.2.length)(hz:aFl ps=aa z)(hl:(ps++st).length<=100000):SN (hdD N (M++T.map tr)) (mkD N M) (rlD N R) m k (knD N L) (ps++st) (sy N r.1)=.ok (.tup [sy N r.1,.tup ps,.int (1+z)]::st,aj,k):=by
 have hlt:=B.hM.lt r hrM;have h10:=(B.mi r hrM).1;have hg:=aHv hN hd B.hF (jr _ hrM);have hn:tkN (hdD N (M++T.map tr)) (sy N r.1)=aa r.2.2.length:=by
  unfold tkN;rw[hg];show(if (ε (r.2.2.map (sy N))&&ϒ ((r.2.2.map (sy N)).length<=1000))=ag then aa (r.2.2.map (sy N)).length else aj)=_;have:=hlt.2.2.2;rw[bO,az,ao (by rw[bw 0x1];rfl)]
 have fm:yJ (mkD N M) (sy N r.1)=ag:=wK (λr:Rw=>r.1) (λ_=>χ ag) M r.1;have fk:yJ (knD N L) (sy N r.1)=ag:=wK (λp:Kn=>p.1) (λp=>p.2.2.2) L r.1;have hk:=T3 hN hd hlt.1 L (λp hp=>(KL.lt p hp).2) λp hp=>by have:=KL.lt p hp;lia
 have hm:(cO (mkD N M) (sy N r.1)).isSome=ag:=by
  have:=xQ hN hd (λr:Rw=>r.1) (λ_=>χ ag) M B.hM.nd (λr hr=>(B.hM.lt r hr).1) r hrM;show(cO (M.map λr:Rw=>(sy N r.1,χ ag)) (sy N r.1)).isSome=ag;rw[this];rfl
 unfold SN;rw[ao (by rw[fk,fm,bw hl];rfl),hk];dsimp only;rw[hn];dsimp only;rw[ao (by rw[bq];lia),ao hm,<-hp,AJ,AK,hz]
omit KL in
theorem aS3(hi:i<26)(h10:10<=i):cO (mkD N M) (sy N i)=aj:=by
 have go:∀L:ae Rw,(∀r∈L,r.1<10)->cO (mkD N L) (sy N i)=aj:=by
  intro L;induction L with
  |nil=>intro _;rfl
  |cons r L ih=>
   intro h;have hr:=h r 0x2;show(if eqD (sy N r.1) (sy N i) then _ else cO (mkD N L) (sy N i))=_;rw[yG hN hd 0x1 hi,cS 0x1,ax 0x2,ih λq hq=>h q (by simp[hq])]
 exact go _ λr hr=>(B.mi r hr).1
theorem aL1(ht:t∈T)(KA:aD7 N M A)(hr:(t.1,mk,A.map (·.1),ws)∈R)(hv:xs++more=A.map λp=>p.2.2.2)(hml:more.length=t.2.2.2.length)(hws:∀j∈ws,j<26)(hwl:ws.length<=1000)(hpv:ε (xs++more)=ag)(hl:(more++st).length<=90000) :
  SN (hdD N (M++T.map tr)) (mkD N M) (rlD N R) m k (knD N L) (.tup [sy N mk,.tup xs,z]::(more++st)) (sy N t.1)=if tot (dX ws A k.call) > m then .err "Spent" [.exc "Spent" []] else .ok (st,aa (ws.map (sy N),knD N A),dX ws A k.call):=by
 obtain⟨h4,h13,h2⟩:=B.ti t ht;have h26:t.1<26:=by lia
 have hg:=aHv hN hd B.hF (eS _ (cK.mpr ⟨t,ht,rfl⟩));have hn:tkN (hdD N (M++T.map tr)) (sy N t.1)=aa (t.2.2.2.length+1):=by
  unfold tkN;rw[show getD (.dct (hdD N (M++T.map tr))) (sy N t.1)=_ from hg];show(if (ε ((t.2.2.1::t.2.2.2).map (sy N))&&ϒ (((t.2.2.1::t.2.2.2).map (sy N)).length<=1000))=ag then aa ((t.2.2.1::t.2.2.2).map (sy N)).length else aj)=_;rw[bO,az,br,ao (by rw[bw 0x1];rfl)]
 have fm:yJ (mkD N M) (sy N t.1)=ag:=wK (λr:Rw=>r.1) (λ_=>χ ag) M t.1;have fk:yJ (knD N L) (sy N t.1)=ag:=wK (λp:Kn=>p.1) (λp=>p.2.2.2) L t.1;have hk:=T3 hN hd h26 L (λp hp=>(KL.lt p hp).2) λp hp=>by have:=KL.lt p hp;lia
 have hru:=aPb hN hd B.hR hr;have hlen:xs.length+more.length=A.length:=by rw[<-bq,hv,az]
 have hAl:=KA.ln;have px:ε xs=ag/\ε more=ag:=by
  rw[fM,aS] at hpv;exact hpv
 have hz:mC [.tup ((A.map (·.1)).map (sy N)),.lst (xs++more)]=.ok (.dct (knD N A)):=by
  have fl:((A.map (·.1)).map (sy N)).all gZ=ag:=by
   rw[ig];intro d hd';obtain⟨j,_,rfl⟩:=cK.mp hd';rfl
  show(if (ϒ (((A.map (·.1)).map (sy N)).length<=1000)&&ϒ ((xs++more).length=((A.map (·.1)).map (sy N)).length)&&((A.map (·.1)).map (sy N)).all gZ&&ε (xs++more))=ag then τ (D.dct (nC ((A.map (·.1)).map (sy N)) (xs++more) [])) else .bad)=_;rw[hpv,fl,ao (by rw[az,az,bq,hlen,bw (show A.length<=1000 by lia),bw (show A.length=A.length from rfl)];rfl),hv,dw];have:=aD9 hN hd A [] KA.nd λp hp=>(KA.lt p hp).2
  exact cf (λz=>τ (D.dct z)) this
 have hc:aDq (rlD N R) m k (sy N t.1) (.tup [sy N mk,.tup xs,z]::more)=if tot (dX ws A k.call) > m then .err "Spent" [.exc "Spent" []] else .ok (ws.map (sy N),knD N A,dX ws A k.call):=by
  show(match getD (.dct (rlD N R)) (.tup [sy N t.1,sy N mk]) with|.ok (.tup [r0,r1,.tup own,.tup ws])=>_|_=>_)=_;rw[hru];show(if (ϒ (xs.length+more.length<=1000)&&(ε xs&&(ε more&&ε (ws.map (sy N)))))=ag then (match mC [.tup ((A.map (·.1)).map (sy N)),.lst (xs++more)] with|.ok (.dct kn)=>(match o9 (ws.map (sy N)) kn k.call with|some k'=>if k'.c+k'.p+k'.d > m then aC6 else .ok (ws.map (sy N),kn,k')|none=>.bad)|_=>.bad) else .bad)=_;rw[px.1,px.2,bO,ao (by rw[bw 0x1];rfl),hz];dsimp only;rw[aD8 hN hd hws hwl A (λp hp=>(KA.lt p hp).2) KA.rd];rfl
 unfold SN;rw[ao (by rw[fk,fm,bw (by rw[br];lia)];rfl),hk];dsimp only;rw[hn];dsimp only;rw[ao (by rw[br,bq];lia),aS3 hN hd B h26 h4,ax 0x2,CY,Ax,<-hml,AJ,AK,hc];by_cases hgt:tot (dX ws A k.call) > m
 .rw[ao hgt,ao hgt]
 .rw[ax hgt,ax hgt]
end
noncomputable def wt1(L:ae Kn)(x:ah):ah:=match L.find? (λp=>p.1==x) with
 |some p=>p.2.2.1.length
 |none=>1
def wgt(L:ae Kn):ae ah->ah
 |[]=>0
 |x::ws=>wt1 L x+wgt L ws
noncomputable def ux(ws:ae ah):ae Kn->ah
 |[]=>0
 |p::L=>(if ws.count p.1=0 then p.2.2.1.length else (ws.count p.1-1)*p.2.2.1.length)+ux ws L
structure NN(q:Cn):Prop where
 c:0<=q.c
 p:0<=q.p
 d:0<=q.d
theorem W3(ws:ae ah):∀(L:ae Kn)(c:Cn),NN c->NN (dX ws L c)/\tot (dX ws L c)=tot c+(ux ws L:ah)
 |[],c,h=>⟨h,by show tot c=tot c+((0:ah):ai);lia⟩
 |p::L,c,h=>by
  have key:NN (c.use (ws.count p.1) (p.2.2.1.length:ai))/\tot (c.use (ws.count p.1) (p.2.2.1.length:ai))=tot c+((if ws.count p.1=0 then p.2.2.1.length else (ws.count p.1-1)*p.2.2.1.length:ah):ai):=by
   unfold Cn.use;by_cases hz:ws.count p.1=0
   .rw[ao (by rw[hz];rfl),ao hz];refine⟨⟨h.c,h.p,?_⟩,?_⟩
    .show 0<=c.d+(p.2.2.1.length:ai);have:=h.d;lia
    .show c.c+c.p+(c.d+(p.2.2.1.length:ai))=c.c+c.p+c.d+(p.2.2.1.length:ai);lia
   .rw[ax 0x1,ax hz];have e:((ws.count p.1:ai)-1)*(p.2.2.1.length:ai)=(((ws.count p.1-1)*p.2.2.1.length:ah):ai):=by
     rw[zt,Int.natCast_sub 0x1];rfl
    rw[e];generalize (ws.count p.1-1)*p.2.2.1.length=q;refine⟨⟨h.c,?_,h.d⟩,?_⟩
    .show 0<=c.p+(q:ai);have:=h.p;lia
    .show c.c+(c.p+(q:ai))+c.d=c.c+c.p+c.d+(q:ai);lia
  obtain⟨g1,g2⟩:=W3 ws L _ key.1;refine⟨g1,?_⟩;show tot (dX ws L (c.use (ws.count p.1) (p.2.2.1.length:ai)))=tot c+(((if ws.count p.1=0 then p.2.2.1.length else (ws.count p.1-1)*p.2.2.1.length)+ux ws L:ah):ai);rw[g2,key.2];lia
theorem aHy:∀(own:ae ah)(Q:ae (ah×ae ah×D)),kr (own.zip Q)=(own.zip (Q.map (·.1))).map λp=>(p.1,p.2,[])
 |[],_=>rfl
 |_::_,[]=>rfl
 |o::own,q::Q=>by
  show(o,q.1,[])::kr (own.zip Q)=_;rw[aHy own Q];rfl
theorem aS4{L:ae Kn}(nd:(L.map (·.1)).Nodup)(hp:p∈L):L.find? (λq=>q.1==p.1)=aa p:=by
 induction L with
 |nil=>cases hp
 |cons q L ih=>
  rw[bd,fy] at nd;rw[lg];rcases cg.mp hp with rfl|hp
  .rw[wm]
  .have:q.1≠p.1:=λz=>nd.1 (z▸gl hp)
   rw[show(q.1==p.1)=ak from fA.mpr this];exact ih nd.2 hp
theorem aS5{L:ae Kn}(h:∀p∈L,p.1≠x):L.find? (λq=>q.1==x)=aj:=by
 rw[List.find?_eq_none];intro q hq;rw[fA.mpr (h q hq)];simp
noncomputable def sb1(L:ae Kn)(x:ah):ae ah:=match L.find? (λp=>p.1==x) with
 |some p=>p.2.2.1
 |none=>[x]
def sub(L:ae Kn):ae ah->ae ah
 |[]=>[]
 |x::ws=>sb1 L x++sub L ws
theorem sub_len(L:ae Kn):∀ws:ae ah,(sub L ws).length=wgt L ws
 |[]=>rfl
 |x::ws=>by
  show(sb1 L x++sub L ws).length=wt1 L x+wgt L ws;rw[bq,sub_len L ws];unfold sb1 wt1;cases L.find? (λp=>p.1==x)<;>rfl
noncomputable def ad(a b:Cn):Cn:=⟨a.c+b.c,a.p+b.p,a.d+b.d⟩
noncomputable abbrev z0:Cn:=⟨0,0,0⟩
theorem wL(a b:Cn):tot (ad a b)=tot a+tot b:=by
 show a.c+b.c+(a.p+b.p)+(a.d+b.d)=a.c+a.p+a.d+(b.c+b.p+b.d);lia
theorem W4(a b c:Cn):ad (ad a b) c=ad a (ad b c):=by
 unfold ad;rw[sx,sx,sx]
theorem aL2(a:Cn):ad a z0=a:=by
 cases a;unfold ad;simp
theorem aTc(a:Cn):ad z0 a=a:=by
 cases a;unfold ad;simp
theorem NN.tot(h:NN a):0<=tot a:=by
 have:=h.c;have:=h.p;have:=h.d;show 0<=a.c+a.p+a.d;lia
theorem nn0:NN z0:=⟨sA _,sA _,sA _⟩
theorem nn1:NN z0.call:=⟨by decide,sA _,sA _⟩
theorem aPd(c k:Cn)(u z:ai):(ad c k).use u z=ad c (k.use u z):=by
 unfold Cn.use ad;by_cases h:u=0
 .rw[ao h,ao h];simp only[sx]
 .rw[ax h,ax h];simp only[sx]
theorem aDa(ws:ae ah)(c:Cn):∀(L:ae Kn)(k:Cn),dX ws L (ad c k)=ad c (dX ws L k)
 |[],k=>rfl
 |p::L,k=>by
  show dX ws L ((ad c k).use _ _)=ad c (dX ws L (k.use _ _));rw[aPd,aDa ws c L]
theorem aL3(c:Cn):c.call=ad c z0.call:=by
 cases c;unfold Cn.call ad;simp
section
variable {N:ae Str} {M:ae Rw} {T:ae Tk} {R:ae Ru}
variable (N M T R) in
abbrev rN(m:ai):ah->ae Fr->ae D->Cn->Res (ae D×Cn):=Mi.runN (hdD N (M++T.map tr)) (mkD N M) (rlD N R) m
variable (N) in
abbrev fa(L:ae Kn)(w:ae ah)(i:ah):Fr:=⟨w.map (sy N),i,knD N L⟩
variable (N M T R) in
def Ok(h:ah)(L:ae Kn)(ws:ae ah)(st st':ae D)(δ:Cn):Prop:=∀(pre post:ae ah)(fr:ae Fr)(rest:ae D)(m:ai)(c:Cn),ε rest=ag->rest.length+h<=90000->fr.length+h<=800000->tot c<=m->∃n,∀k,rN N M T R m (k+n) (fa N L (pre++ws++post) (pre.length+ws.length)::fr) (st++rest) c=if tot c+tot δ<=m then rN N M T R m k (fa N L (pre++ws++post) pre.length::fr) (st'++rest) (ad c δ) else spn
variable (N M T R) in
def Spd(h:ah)(b:ai)(L:ae Kn)(ws:ae ah)(st:ae D):Prop:=∀(pre post:ae ah)(fr:ae Fr)(rest:ae D)(m:ai)(c:Cn),ε rest=ag->rest.length+h<=90000->fr.length+h<=800000->tot c<=m->m<=tot c+b->∃n,∀k,rN N M T R m (k+n) (fa N L (pre++ws++post) (pre.length+ws.length)::fr) (st++rest) c=spn
variable {h h':ah} {b b':ai} {L:ae Kn} {ws ws1 ws2:ae ah} {st st1 st':ae D} {δ1 δ2:Cn}
theorem Ok.app(o2:Ok N M T R h L ws2 st st1 δ2)(o1:Ok N M T R h L ws1 st1 st' δ1)(nn:NN δ1):Ok N M T R h L (ws1++ws2) st st' (ad δ2 δ1):=λpre post fr rest m c h1 h2 h3 h4=>by
 obtain⟨n2,e2⟩:=o2 (pre++ws1) post fr rest m c h1 h2 h3 h4;have t1:=nn.tot;have ea:pre++(ws1++ws2)++post=pre++ws1++ws2++post:=by simp only[cu]
 have eb:pre++ws1++ws2++post=pre++ws1++(ws2++post):=by simp only[cu]
 rw[ea,bq,<-sB,<-bq];rw[wL];by_cases hc:tot c+tot δ2<=m
 .obtain⟨n1,e1⟩:=o1 pre (ws2++post) fr rest m (ad c δ2) h1 h2 h3 (by rw[wL];exact hc);refine⟨n1+n2,λk=>?_⟩;rw[<-sB,e2,ao hc,eb,bq,e1,wL,W4];by_cases hd:tot c+tot δ2+tot δ1<=m
  .rw[ao hd,ao 0x1]
  .rw[ax hd,ax 0x1]
 .refine⟨n2,λk=>?_⟩;rw[e2,ax hc,ax 0x1]
theorem Ok.nil:Ok N M T R h L [] st st z0:=λpre post fr rest m c h1 h2 h3 h4=>⟨0,λk=>by
 rw[ao (by show tot c+0<=m;lia),aL2];rfl⟩
theorem aHz{w:ae ah}{r:ae Fr}{st st':ae D}{c:Cn}{x:ah}(hx:w[i]?=aa x)(hr:r.length<900000)(h:SN (hdD N (M++T.map tr)) (mkD N M) (rlD N R) m c kn st (sy N x)=.ok (st',aj,c))(hp:ε st'=ag):rN N M T R m (n+1) (⟨w.map (sy N),i+1,kn⟩::r) st c=rN N M T R m n (⟨w.map (sy N),i,kn⟩::r) st' c:=by
 have hw:(w.map (sy N))[i]?=aa (sy N x):=by rw[ib,hx];rfl
 unfold rN;rw[Mi.runN,hw];dsimp only;rw[ao (bw hr),h];dsimp only;rw[ao hp]
theorem aGb{w ws:ae ah}{r:ae Fr}{st st':ae D}{c c':Cn}{x:ah}(hx:w[i]?=aa x)(hr:r.length<900000)(h:SN (hdD N (M++T.map tr)) (mkD N M) (rlD N R) m c kn st (sy N x)=if tot c' > m then .err "Spent" [.exc "Spent" []] else .ok (st',aa (ws.map (sy N),kn'),c'))(hp:ε st'=ag):rN N M T R m (n+1) (⟨w.map (sy N),i+1,kn⟩::r) st c=if tot c' > m then spn else rN N M T R m n (⟨ws.map (sy N),ws.length,kn'⟩::⟨w.map (sy N),i,kn⟩::r) st' c':=by
 have hw:(w.map (sy N))[i]?=aa (sy N x):=by rw[ib,hx];rfl
 unfold rN;rw[Mi.runN,hw];dsimp only;rw[ao (bw hr),h];by_cases hg:tot c' > m
 .rw[ao hg,ao hg]
 .rw[ax hg,ax hg];dsimp only;rw[ao hp,az]
theorem mid(pre post:ae ah)(x:ah):(pre++[x]++post)[pre.length]?=aa x:=by simp
variable {qq:ah} (hN:N.length=26) (hd:N.Nodup) (B:Tab M T R qq) (KL:aD7 N M L)
include hN hd B KL
theorem aS6(hp:p∈L)(hs:ε st=ag)(hl:st.length<=h):Ok N M T R h L [p.1] st (p.2.2.2::st) z0:=λpre post fr rest m c h1 h2 h3 h4=>by
 refine⟨1,λk=>?_⟩;rw[ao (by show tot c+0<=m;lia),aL2];have pv:=(KL.rd p hp).pure;rw[ε,aS] at pv;exact aHz (mid pre post p.1) 0x1 (aS1 hN hd B KL hp (by rw[bq];lia)) (by show(p.2.2.2.pure&&ε (st++rest))=ag;rw[pv.1,fM,hs,h1];rfl)
theorem aPe(hr:r∈M)(hp:ps.length=r.2.2.length)(hz:aFl ps=aa z)(hps:ε ps=ag)(hs:ε st=ag)(hl:(ps++st).length<=h):Ok N M T R h L [r.1] (ps++st) (.tup [sy N r.1,.tup ps,.int (1+z)]::st) z0:=λpre post fr rest m c h1 h2 h3 h4=>by
 refine⟨1,λk=>?_⟩;rw[ao (by show tot c+0<=m;lia),aL2,cu ps];rw[bq] at hl;refine aHz (mid pre post r.1) 0x1 (aS2 hN hd B KL hr hp hz (by rw[bq,bq];lia)) ?_;show((ν [sy N r.1,.tup ps,.int (1+z)]).pure&&ε (st++rest))=ag;rw[fM,hs,h1];show((sy N r.1).pure&&((ν ps).pure&&ag)&&(ag&&ag))=ag;rw[ξ,hps];rfl
theorem aL4(ht:t∈T)(KA:aD7 N M A)(hr:(t.1,mk,A.map (·.1),body)∈R)(hv:xs++more=A.map λp=>p.2.2.2)(hml:more.length=t.2.2.2.length)(hws:∀j∈body,j<26)(hwl:body.length<=1000)(hpv:ε (xs++more)=ag)(hs:ε st=ag)(hl:(more++st).length<=h)
 (hb:h'+1+st.length<=h) :
  (∀δb vs,NN δb->Ok N M T R h' A body [] vs δb->Ok N M T R h L [t.1] (.tup [sy N mk,.tup xs,z]::(more++st)) (vs++st) (ad (dX body A z0.call) δb))/\(∀b':ai,Spd N M T R h' b' A body []->∀b,b<=b'+tot (dX body A z0.call)->Spd N M T R h b L [t.1] (.tup [sy N mk,.tup xs,z]::(more++st)))/\(∀b,b<tot (dX body A z0.call)->Spd N M T R h b L [t.1] (.tup [sy N mk,.tup xs,z]::(more++st))):=by
 have e0:∀c:Cn,dX body A c.call=ad c (dX body A z0.call):=λc=>by rw[aL3,aDa]
 generalize hδ:dX body A z0.call=δ0 at e0;have step:∀(pre post:ae ah)(fr:ae Fr)(rest:ae D)(m:ai)(c:Cn),ε rest=ag->rest.length+h<=90000->fr.length+h<=800000->∀n,rN N M T R m (n+1) (fa N L (pre++[t.1]++post) (pre.length+[t.1].length)::fr) ((.tup [sy N mk,.tup xs,z]::(more++st))++rest) c=if tot (ad c δ0) > m then spn else rN N M T R m n (⟨body.map (sy N),body.length,knD N A⟩::fa N L (pre++[t.1]++post) pre.length::fr) (st++rest) (ad c δ0):=λpre post fr rest m c h1 h2 h3 n=>by
  rw[bq] at hl;have tkc:=aL1 hN hd B KL (m:=m) (st:=st++rest) (k:=c) (xs:=xs) (more:=more) (z:=z) (ws:=body) (mk:=mk) ht KA hr hv hml hws hwl hpv (by rw[bq,bq];lia);rw[e0,<-cu] at tkc;exact aGb (mid pre post t.1) 0x1 tkc (by rw[fM,hs,h1];rfl)
 refine⟨λδb vs nb o pre post fr rest m c h1 h2 h3 h4=>?_,λb' o b hbb pre post fr rest m c h1 h2 h3 h4 h5=>?_,λb hbb pre post fr rest m c h1 h2 h3 h4 h5=>?_⟩
 .have tb:=nb.tot;rw[wL];by_cases hg:tot (ad c δ0) > m
  .refine⟨1,λk=>?_⟩;rw[step pre post fr rest m c h1 h2 h3,ao hg,ax (by rw[wL] at hg;lia)]
  .obtain⟨n,e⟩:=o [] [] (fa N L (pre++[t.1]++post) pre.length::fr) (st++rest) m (ad c δ0) (by rw[fM,hs,h1];rfl) (by rw[bq];lia) (by rw[br];lia) 0x1;rw[fq,cv,fj,AM,fq] at e;refine⟨1+n+1,λk=>?_⟩;rw[<-sB,step pre post fr rest m c h1 h2 h3,ax hg,<-sB,e,wL,W4,<-cu];rw[wL] at hg;by_cases hg2:tot c+tot δ0+tot δb<=m
   .rw[ao hg2,ao 0x1];rfl
   .rw[ax hg2,ax 0x1]
 .by_cases hg:tot (ad c δ0) > m
  .refine⟨1,λk=>?_⟩;rw[step pre post fr rest m c h1 h2 h3,ao hg]
  .obtain⟨n,e⟩:=o [] [] (fa N L (pre++[t.1]++post) pre.length::fr) (st++rest) m (ad c δ0) (by rw[fM,hs,h1];rfl) (by rw[bq];lia) (by rw[br];lia) 0x1 (by rw[wL];lia);rw[fq,cv,fj,AM,fq] at e;refine⟨n+1,λk=>?_⟩;rw[<-sB,step pre post fr rest m c h1 h2 h3,ax hg,e]
 .refine⟨1,λk=>?_⟩;rw[step pre post fr rest m c h1 h2 h3,ao (by rw[wL];lia)]
end
theorem aDb(h:Run M ks w):ks.length<=w.length:=by
 induction h with
 |nil=>exact bt _
 |step hr _ ih=>rw[bq] at ih;rw[br,br];lia
theorem kn0:aD7 N M []:=⟨gj,λp hp=>(by cases hp),λp hp=>(by cases hp),by decide⟩
theorem aPf(nd:(L.map (·.1)).Nodup)(hp:p∈L):sb1 L p.1=p.2.2.1/\wt1 L p.1=p.2.2.1.length:=by
 unfold sb1 wt1;rw[aS4 nd hp];exact⟨rfl,rfl⟩
theorem aPg(h:∀p∈L,p.1≠x):sb1 L x=[x]/\wt1 L x=1:=by
 unfold sb1 wt1;rw[aS5 h];exact⟨rfl,rfl⟩
section
variable {N:ae Str} (hN:N.length=26) (hd:N.Nodup) {M:ae Rw} {T:ae Tk} {R:ae Ru} {qq:ah} (B:Tab M T R qq)
include hN hd B
theorem aS7(KL:aD7 N M L)(hr:Rd N M ks W vs):∀{h:ah},W.length<=9000->W.length<=h->Ok N M T R h L W [] vs z0:=by
 induction hr with
 |nil=>intro h _ _;exact Ok.nil
 |@step r ks W ps vs hr hp hh ih=>
  intro h h9 hl;rw[br] at h9 hl;have o:=ih (h:=h) 0x1 0x1;have hz:=Rd.sum W.length (bt _) hh 0x1 ps vs rfl;have pp:=hh.pure;rw[fM,aS] at pp;have l1:=hh.len;have l2:=aDb hh.run;have:=Ok.app o (aPe hN hd B KL hr hp hz pp.1 pp.2 0x1) nn0;rw[aL2] at this;exact this
theorem aL5(KL:aD7 N M L)(hrun:Run (kr L++M) ks ws):wgt L ws<=9000->∃vs,Rd N M ks (sub L ws) vs/\∀h,wgt L ws<=h->Ok N M T R h L ws [] vs z0:=by
 induction hrun with
 |nil=>exact λ_=>⟨[],.nil,λh _=>Ok.nil⟩
 |@step r rest W hr hrun ih=>
  intro hb;have ew:wgt L (r.1::W)=wt1 L r.1+wgt L W:=rfl;have es:sub L (r.1::W)=sb1 L r.1++sub L W:=rfl;rw[ew] at hb ⊢;rw[es];obtain⟨vs,rd,o⟩:=ih 0x1;have l1:=rd.len;have l2:=aDb rd.run;rw[sub_len] at l2;have pp:=rd.pure;rcases eP.mp hr with hk|hk
  .obtain⟨p,hp,rfl⟩:=cK.mp hk;have l1:vs.length=rest.length:=l1;have l2:rest.length<=wgt L W:=l2;obtain⟨e1,e2⟩:=aPf KL.nd hp;rw[e1];refine⟨p.2.2.2::vs,(KL.rd p hp).app rd,λh hh=>?_⟩;have:=Ok.app (o h 0x1) (aS6 hN hd B KL hp pp 0x1) nn0;rw[aL2] at this;exact this
  .obtain⟨e1,e2⟩:=aPg (x:=r.1) λp hp=>by have:=KL.lt p hp;have:=(B.mi r hk).1;lia
   rw[e1];rw[e2] at hb ⊢;rw[bq] at l1 l2;have hpl:(vs.take r.2.2.length).length=r.2.2.length:=by rw[jg];lia
   have est:vs=vs.take r.2.2.length++vs.drop r.2.2.length:=(nV ..).symm;generalize vs.take r.2.2.length=ps at hpl est;generalize vs.drop r.2.2.length=st2 at est;subst est;have hz:=Rd.sum (sub L W).length (bt _) rd (by rw[sub_len];lia) ps st2 rfl;rw[fM,aS] at pp;refine⟨_::st2,.step hk hpl rd,λh hh=>?_⟩;have:=Ok.app (o h 0x1) (aPe hN hd B KL hk hpl hz pp.1 pp.2 0x1) nn0;rw[aL2] at this;exact this
theorem aGc(ht:t∈T)(KA:aD7 N M A)(hr:(t.1,mk,A.map (·.1),body)∈R)(hv:xs++more=A.map λp=>p.2.2.2)(hml:more.length=t.2.2.2.length)(hws:∀j∈body,j<26)(hwl:body.length<=1000)(hrun:Run (kr A++M) [t.2.1] body)(hb:wgt A body<=9000)(rv:Rd N M (t.2.2.1::t.2.2.2) Wv (.tup [sy N mk,.tup xs,.int z]::more))(hW:Wv.length<=9000) :
  ∃v,Rd N M [t.2.1] (sub A body) [v]/\Ok N M T R 20000 [] (t.1::Wv) [] [v] (dX body A z0.call):=by
 obtain⟨vs,rd,o⟩:=aL5 hN hd B KA hrun hb
 match vs,rd.len,rd,o with
 |[v],_,rd,o=>
  refine⟨v,rd,?_⟩;have pp:=rv.pure;rw[ε,aS] at pp;have p2:ε (xs++more)=ag:=by
   rw[fM,pp.2,wn];have:=pp.1;rw[ξ,ε,aS,ε,aS,ξ] at this;exact this.2.1
  have ml:more.length<=2:=by have:=(B.ti t ht).2.2;lia
  have c1:=(aL4 hN hd B kn0 (h:=20000) (h':=9000) (st:=[]) ht (z:=.int z) KA hr hv hml hws hwl p2 rfl (by rw[cv];lia) 0x4).1 z0 [v] nn0 (o 9000 hb);rw[cv,cv,aL2] at c1;have o2:=aS7 hN hd B kn0 rv (h:=20000) hW 0x1;have nn:=(W3 body A z0.call nn1).1;have:=Ok.app o2 c1 nn;rw[aTc] at this;exact this
end
theorem aS8:F_=bA (bZ ag 1 (i_ aU) ag) (bA (bZ ag 2 (i_ (aC (bPu iJ) aU)) ag) (bA (aJg oc ob) (zN (aZ fJ (aC fK aU)) ak))):=rfl
theorem aPh(l:ae D):oc [a,b,.lst l,x]=.ok (!l.isEmpty):=rfl
theorem aL6(h:Rd N M ks W vs):∀(pre:ae D)(fuel:ah)(x:D),W.length<fuel->pre.length+W.length<=9000->∃x',YM oc ob fuel [y,.lst pre,.lst vs.reverse,x]=.ok (.nx [y,.lst (pre++W.map (sy N)),.lst [],x']):=by
 induction h with
 |nil=>
  intro pre fuel x hf _;obtain⟨n,rfl⟩:∃n,fuel=n+1:=⟨fuel-1,by simp at hf;lia⟩
  refine⟨x,?_⟩;rw[gi,cv];exact aCz (aPh [])
 |@step r ks W ps vs hr hl h ih=>
  intro pre fuel x hf hp;rw[br] at hf hp;obtain⟨n,rfl⟩:∃n,fuel=n+1:=⟨fuel-1,by lia⟩
  generalize hv:ν [sy N r.1,.tup ps,.int (1+szs ps)]=v;obtain⟨x',hx⟩:=ih (pre++[sy N r.1]) n v 0x1 (by rw[bq,eB];lia);have h1:=h.len;have h2:=aDb h.run;rw[bq] at h1;have hps:ε ps=ag:=by
   have:=h.pure;rw[fM,aS] at this;exact this.1
  have hpr:ε ps.reverse=ag:=by
   refine wJ λp hp=>?_
   replace hp:=C9.mp hp;clear hx hv ih h1 h2 h hl;induction ps with
   |nil=>cases hp
   |cons q ps ih=>
    rw[ε,aS] at hps;rcases cg.mp hp with rfl|hp
    .exact hps.1
    .exact ih hps.2 hp
  refine⟨x',?_⟩;refine WK (ρ':=[y,.lst (pre++[sy N r.1]),.lst (vs.reverse++ps.reverse),v]) ((aPh _).trans 0x2) ?_ ?_
  .subst hv;refine aN (aD0 (by rw[fN];rfl) rfl) ?_;refine aN (ρ':=[y,.lst (pre++[sy N r.1]),.lst vs.reverse,.tup [sy N r.1,.tup ps,.int (1+szs ps)]]) (oM (d:=sy N r.1) (aH rfl rfl rfl) rfl (by rw[bG];lia) rfl) ?_;refine WL (ys:=ps.reverse) (d:=.lst ps.reverse) (DK (x:=.tup ps) (aH rfl rfl rfl) ?_) rfl rfl (by rw[jb,jb];lia) hpr;show(if ε ps&&ϒ (ps.length<=lim) then τ (ψ ps.reverse) else .bad)=_;rw[ao (by rw[hps,mE];exact bw (by rw[bG];lia))]
  .rw[<-AA,hx,cu];rfl
theorem T4(h:Rd N M [k] W [v])(hw:W.length<=8900):jJ [v]=.ok (.tup (W.map (sy N))):=by
 have hv:v.pure=ag:=by
  have:=h.pure;rw[ε,aS] at this;exact this.1
 obtain⟨x',hx⟩:=aL6 (y:=v) h [] 9000 .uD 0x1 (by simp;lia);obtain⟨r,ps,W',_,_,_,ev,_⟩:=h.one;refine call_v (m:=4) (n:=1) (d:=.tup (W.map (sy N))) ?_;rw[aS8];refine aN (ρ':=[v,.lst [],.uD,.uD]) rfl ?_;refine aN (ρ':=[v,.lst [],.lst [v],.uD]) (d7 (i:=2) ?_ ?_) ?_
 .subst ev;have e1:bPu iJ [ν [sy N r.1,.tup ps,.int (1+szs ps)],.lst [],.uD,.uD]=.ok (ν [sy N r.1,.tup ps,.int (1+szs ps)]):=PP rfl hv;unfold i_;rw[aD (xs:=[]) (b:=aU) e1 rfl,ι,ao (by rw[bG];rfl)];rfl
 .show(v.pure&&ag)=ag;rw[hv];rfl
 refine aN hx ?_;exact zV (d:=.tup (W.map (sy N))) (bF (aD rfl rfl) rfl) (by rw[ξ,bO];rfl)
theorem W5(h:a ρ=.ok xs)(hl:xs.length<=lim):i_ a ρ=.ok (.lst xs):=by
 unfold i_;rw[h,ι,ao (bw hl)];rfl
noncomputable abbrev aPi:Res D:=.err "Spent" [.exc "Spent" []]
def wD(N:ae Str)(W:ae ah)(c:Cn):D:=.tup [.tup (W.map (sy N)),.int c.c,.int c.p,.int c.d]
theorem aGd(N:ae Str)(ks:ae ah)(M:ae Rw)(T:ae Tk)(R:ae Ru):(JX N ks M T R).pure=ag:=by
 show((ν (ks.map (sy N))).pure&&((ν (M.map (rwD N))).pure&&((ν (T.map (tkD N))).pure&&((ν (R.map (ruD N))).pure&&ag))))=ag;rw[ξ,ξ,ξ,ξ,bO,bQ (dW N),bQ (xP N),bQ (iD N)];rfl
section
variable {N:ae Str} (hN:N.length=26) (hd:N.Nodup) {M:ae Rw} {T:ae Tk} {R:ae Ru} {qq:ah} (B:Tab M T R qq) {m:ai} {h:ah} {ks W0:ae ah}
include hN hd B
theorem aPj(o:Ok N M T R h [] W0 [] [v] δ)(rd:Rd N M [k] W [v])(hW:W.length<=8900)(hh:h<=90000)(h0:0<=m):dU [JX N ks M T R,.tup (W0.map (sy N)),.int m]=if tot δ<=m then .ok (wD N W δ) else aPi:=by
 obtain⟨n,e⟩:=o [] [] [] [] m z0 rfl (by rw[fj];lia) (by rw[fj];lia) h0;have e2:=e 2;rw[fq,cv,fj,AM,aTc,cv,cv,show tot z0+tot δ=tot δ from AD _] at e2;have hl:(W0.map (sy N)).length=W0.length:=az ..;by_cases hz:tot δ<=m
 .rw[ao hz] at e2 ⊢;have:=aCd (r:=.ok ([v],δ)) (by rw[hl];exact e2) 0x7;exact aGa hN hd B.hF B.hM B.hR this (T4 rd hW) (by rw[ξ,bO])
 .rw[ax hz] at e2 ⊢;have:=aCd (r:=spn) (by rw[hl];exact e2) 0x7;exact aD5 hN hd B.hF B.hM B.hR this
end
theorem aDc(a b:ae D)(h:a.length+b.length<=1000):aH9 (.tup a) (.tup b)=.ok (.tup (a++b)):=by
 show(if ϒ (a.length+b.length<=lim) then τ (ν (a++b)) else .bad)=_;rw[ao (bw (by rw[bG];lia))]
theorem x_(h:cD i ρ=.ok (tkD N t)):b2 getD (cD i) cT ρ=.ok (sy N t.1)/\b2 getD (cD i) dR ρ=.ok (sy N t.2.1)/\b2 getD (cD i) jD ρ=.ok (sy N t.2.2.1)/\b2 getD (cD i) kW ρ=.ok (.tup (t.2.2.2.map (sy N))):=⟨aH h rfl rfl,aH h rfl rfl,aH h rfl rfl,aH h rfl rfl⟩
noncomputable def aL7(q n:ah):ae ah:=(aE n).map λj=>13+(q+j*(1+q % 4)) % 5
theorem aGe(q:ah)(hj:j<5)(hk:k<5)(h:(q+j*(1+q % 4)) % 5=(q+k*(1+q % 4)) % 5):j=k:=by
 have:q % 4=0\/q % 4=1\/q % 4=2\/q % 4=3:=by lia
 rcases this with e|e|e|e<;>rw[e] at h<;>lia
theorem aL8(q n:ah)(h:n<=5):(aL7 q n).Nodup:=by
 unfold aL7;refine AE.mpr (Ds ?_ (Dy));intro a b ha hb hne z;rw[gq] at ha hb;exact hne (aGe q 0x1 0x1 0x1)
theorem aL9(q n:ah):∀i∈aL7 q n,13<=i/\i<18:=λi hi=>by
 unfold aL7 at hi;obtain⟨j,_,rfl⟩:=cK.mp hi;lia
def aS9(M:ae Rw)(qq:ah)(t:Tk)(r:Rw)(u:Ru):Prop:=∃own ws,u=(t.1,r.1,own,ws)/\own.length=r.2.2.length+t.2.2.2.length/\own.Nodup/\(∀i∈own,13<=i/\i<26)/\ws.length<=qq/\(∀j∈ws,j<26)/\Run ((own.zip (r.2.2++t.2.2.2)).map (λp=>(p.1,p.2,[]))++M) [t.2.1] ws
theorem aDd(h:Run H ks w):∀x∈w,∃r∈H,r.1=x:=by
 induction h with
 |nil=>intro x hx;cases hx
 |step hr _ ih=>
  intro x hx;rcases cg.mp hx with rfl|hx
  .exact⟨_,hr,rfl⟩
  .exact ih x hx
theorem aGf:nG=bA (bZ ag 6 (i_ aU) ag) (bA (B_ 2 (tg1 7) (B_ 1 (tg1 8) rub)) (m8 6)):=rfl
abbrev rst(cs:ae ai)(N:ae Str)(M:ae Rw)(T:ae Tk)(m:ah)(l:ah->ah)(cl:D)(z n:ah)(R:ae Ru)(a b c d e f g h:D):ae D:=[.cel z (dk cs n),.lst (M.map (rwD N)),.lst (T.map (tkD N)),.lst ((aE 26).map (sy N)),cl,.dct (lsD N m l),.lst (R.map (ruD N)),a,b,c,d,e,f,g,h]
theorem aPk{b c d e g:D}{K:ae Rw}{V:ae ah}{most:ai}(v4:ch1 jV (dk cs n) [.lst (K.map (rwD N)),.lst (M.map (rwD N)),sy N t.2.1,.int most,.dct (lsD N m l)]=.ok (.lst (V.map (sy N)),dk cs n')):ru4 (rst cs N M T m l cl z n R (tkD N t) b c d e (.lst (K.map (rwD N))) (.int most) g)=.ok (.nx (rst cs N M T m l cl z n' R (tkD N t) b c d e (.lst (K.map (rwD N))) (.int most) (.lst (V.map (sy N))))):=by
 have ha:aC kE (aC fK (aC (bPu (b2 getD oR dR)) (aC oV (aC jY aU)))) (rst cs N M T m l cl z n R (tkD N t) b c d e (.lst (K.map (rwD N))) (.int most) g)=.ok [.lst (K.map (rwD N)),.lst (M.map (rwD N)),sy N t.2.1,.int most,.dct (lsD N m l)]:=aD rfl (aD rfl (aD (PP (x_ rfl).2.1 rfl) (aD rfl (aD rfl rfl))));exact jA (lN ha rfl rfl v4 (mL cs n') rfl) rfl
theorem aPl{c d f g:D}{own V:ae ah}(hR:R.length<=100):ru5 (rst cs N M T m l cl z n R (tkD N t) (rwD N r) c d (.lst (own.map (sy N))) f g (.lst (V.map (sy N))))=.ok (.nx (rst cs N M T m l cl z n (R++[(t.1,r.1,own,V)]) (tkD N t) (rwD N r) c d (.lst (own.map (sy N))) f g (.lst (V.map (sy N))))):=by
 have hT:iK (aC (b2 getD oR cT) (aC (b2 getD yK cT) (aC (aZ fJ (aC jL aU)) (aC (aZ fJ (aC jM aU)) aU)))) (rst cs N M T m l cl z n R (tkD N t) (rwD N r) c d (.lst (own.map (sy N))) f g (.lst (V.map (sy N))))=.ok (ruD N (t.1,r.1,own,V)):=
  eE (aD (x_ rfl).1 (aD (jX rfl).1 (aD (bF (aD rfl rfl) rfl) (aD (bF (aD rfl rfl) rfl) rfl)))) (by rw[bG];show 4<=1000000;decide)
 refine(oM hT rfl (by rw[az,bG];lia) (iD ..)).trans ?_;unfold rst;rw[cw];rfl
section
variable {cs:ae ai} {N:ae Str} (hN:N.length=26) (hd:N.Nodup) {m:ah} {M:ae Rw} {T:ae Tk} {l:ah->ah} (G:Sig m M T l)
omit hN hd in
theorem W6(G:Sig m M T l):aHr m M l:=⟨G.m3,G.lb,by have:=G.ml;lia,G.mg,λk hk=>let ⟨r,hr,_,h2,h3⟩:=G.ba k hk;⟨r,hr,h2,h3⟩⟩
include hN hd G
omit G in
theorem W7(ha:a<26)(hb:b<26)(hc:c<26)(he:d<26):eG .eq (.tup [sy N a,sy N b]) (.tup [sy N c,sy N d])=.ok (.bl (ϒ ((a,b)=(c,d)))):=by
 show(if υ 11 [sy N a,sy N b]&&υ 11 [sy N c,sy N d] then τ (χ (eqD (.tup [sy N a,sy N b]) (.tup [sy N c,sy N d]))) else .bad)=_;rw[TY hN hd ha hb hc he];exact ao (by rw[show[sy N a,sy N b]=[a,b].map (sy N) from rfl,show[sy N c,sy N d]=[c,d].map (sy N) from rfl,gR,gR];rfl)
theorem aGg(ht:t∈T)(hr:r∈M)(hn:n<=2900)(hR:R.length<=100)(hq7:7<=qq)(hq40:qq<=40)(hct:ct<26)(hcr:cr<26)(c d e f g h:D):∃(R':ae Ru)(n':ah)(c' d' e' f' g' h':D),R'.map (λu=>(u.1,u.2.1))=(if r.2.1=t.2.2.1 then [(t.1,r.1)] else [])/\(r.2.1=t.2.2.1->∃u∈R',aS9 M qq t r u)/\n'<=n+40/\∀z,rub (rst cs N M T m l (.tup [sy N ct,sy N cr,.int qq]) z n R (tkD N t) (rwD N r) c d e f g h)=.ok (.nx (rst cs N M T m l (.tup [sy N ct,sy N cr,.int qq]) z n' (R++R') (tkD N t) (rwD N r) c' d' e' f' g' h')):=by
 obtain⟨gr1,gr2,gr3⟩:=G.mg r hr;obtain⟨gt1,gt2,gt3,gt4⟩:=G.tg t ht;have m3:=G.m3;have hc:∀z,bTB (b2 (eG .eq) (b2 getD yK dR) (b2 getD oR jD)) (rst cs N M T m l (.tup [sy N ct,sy N cr,.int qq]) z n R (tkD N t) (rwD N r) c d e f g h)=.ok (ϒ (r.2.1=t.2.2.1)):=λz=>cJ (aH (jX rfl).2.1 (x_ rfl).2.2.1 (WP hN hd 0x1 0x1))
 by_cases hk:r.2.1=t.2.2.1
 .rw[ao hk];rw[bw hk] at hc
  -- kinds of the names
  generalize hbh:r.2.2++t.2.2.2=bh;have hbl:bh.length=r.2.2.length+t.2.2.2.length:=by rw[<-hbh,bq]
  have hbm:∀i∈bh,i<m:=λi hi=>by
   rw[<-hbh] at hi;rcases eP.mp hi with hi|hi
   .exact gr2 i hi
   .exact gt3 i hi
  generalize hown:aL7 R.length bh.length=own;have hol:own.length=bh.length:=by rw[<-hown];unfold aL7;rw[az,ff]
  have ond:own.Nodup:=by rw[<-hown];exact aL8 _ _ 0x1
  have olt:∀i∈own,13<=i/\i<18:=by rw[<-hown];exact aL9 _ _
  generalize hkn:(own.zip bh).map (λp=>((p.1,p.2,[]):Rw))=K;have hKl:K.length=bh.length:=by rw[<-hkn,az,xu,hol,DB]
  have hKg:∀q∈K,q.2.1<m/\q.2.2=[]:=λq hq=>by
   rw[<-hkn] at hq;obtain⟨p,hp,rfl⟩:=cK.mp hq;exact⟨hbm p.2 (oq hp).2,rfl⟩
  obtain⟨most,hm1,hm2⟩:∃most:ah,most<=qq/\∀z c d e f h,aT2 (rst cs N M T m l (.tup [sy N ct,sy N cr,.int qq]) z n R (tkD N t) (rwD N r) c d e f (.int 7) h)=.ok (.nx (rst cs N M T m l (.tup [sy N ct,sy N cr,.int qq]) z n R (tkD N t) (rwD N r) c d e f (.int (most:ai)) h)):=by
   have hti:=G.ti t ht;have hmi:=G.mi r hr;have hc:∀z c d e f h,(bTB (b2 (eG .eq) (iK (aC (b2 getD oR cT) (aC (b2 getD yK cT) aU))) (iK (aC (b2 getD gU cT) (aC (b2 getD gU dR) aU))))) (rst cs N M T m l (.tup [sy N ct,sy N cr,.int qq]) z n R (tkD N t) (rwD N r) c d e f (.int 7) h)=.ok (ϒ ((t.1,r.1)=(ct,cr))):=λz c d e f h=>cJ (aH (eE (aD (x_ rfl).1 (aD (jX rfl).1 rfl)) (by rw[bG];show 2<=1000000;decide)) (eE (aD (aH rfl rfl rfl) (aD (aH rfl rfl rfl) rfl)) (by rw[bG];show 2<=1000000;decide)) (W7 hN hd 0x1 0x1 hct hcr))
   by_cases hh:(t.1,r.1)=(ct,cr)
   .exact⟨qq,bt _,λz c d e f h=>J3 ((hc z c d e f h).trans (by rw[bw hh])) (dZ (aH rfl rfl rfl) rfl)⟩
   .exact⟨7,hq7,λz c d e f h=>oJ ((hc z c d e f h).trans (by rw[cS hh])) rfl⟩
  obtain⟨V,n',v1,v2,v3,v4⟩:=aKz hN hd cs (n:=n) (W6 G) hKg 0x1 (k:=t.2.1) (most:=most) gt1 0x1 0x1;have hV26:∀x∈V,x<26:=λx hx=>by
   obtain⟨q,hq,rfl⟩:=aDd v1 x hx;rcases eP.mp hq with hq|hq
   .rw[<-hkn] at hq;obtain⟨p,hp,rfl⟩:=cK.mp hq;have:=olt p.1 (oq hp).1;show p.1<26;lia
   .have:=G.mi q hq;lia
  refine⟨[(t.1,r.1,own,V)],n',.tup (bh.map (sy N)),.int (1+(R.length:ai) % 4),.lst (own.map (sy N)),.lst (K.map (rwD N)),.int most,.lst (V.map (sy N)),rfl,λ_=>⟨_,ll.mpr rfl,own,V,rfl,by lia,ond,λi hi=>by have:=olt i hi;lia,by lia,hV26,by rw[hbh,hkn];exact v1⟩,by lia,λz=>J3 (hc z) ?_⟩;have t0:ru0 (rst cs N M T m l (.tup [sy N ct,sy N cr,.int qq]) z n R (tkD N t) (rwD N r) c d e f g h)=.ok (.nx (rst cs N M T m l (.tup [sy N ct,sy N cr,.int qq]) z n R (tkD N t) (rwD N r) (.tup (bh.map (sy N))) d e f g h)):=by
   refine dZ (i:=9) (aH (jX (i:=8) (r:=r) rfl).2.2 (x_ (i:=7) (t:=t) rfl).2.2.2 ((aDc _ _ (by rw[az,az];lia)).trans ?_)) (by rw[ξ,bO]);rw[<-cw,hbh]
  have hlen:∀z c d e f g h,aZ kY (aC t_ aU) (rst cs N M T m l (.tup [sy N ct,sy N cr,.int qq]) z n R (tkD N t) (rwD N r) c d e f g h)=.ok (.int (R.length:ai)):=λz c d e f g h=>bF (aD rfl rfl) (by show τ (θ ((R.map (ruD N)).length:ai))=_;rw[az])
  have t1:ru1 (rst cs N M T m l (.tup [sy N ct,sy N cr,.int qq]) z n R (tkD N t) (rwD N r) (.tup (bh.map (sy N))) d e f g h)=.ok (.nx (rst cs N M T m l (.tup [sy N ct,sy N cr,.int qq]) z n R (tkD N t) (rwD N r) (.tup (bh.map (sy N))) (.int (1+(R.length:ai) % 4)) e f g h)):=cR (i:=10) (aH (x:=.int 1) rfl (aH (hlen ..) rfl (b_ _ _ 0x4)) (cY _ _));have hbt:∀e f g h,lX (aC (aZ kY (aC mQ aU)) aU) jN (rst cs N M T m l (.tup [sy N ct,sy N cr,.int qq]) z n R (tkD N t) (rwD N r) (.tup (bh.map (sy N))) (.int (1+(R.length:ai) % 4)) e f g h)=.ok ((aE bh.length).map λ(k:ah)=>θ (0+(k:ai)),ag):=λe f g h=>by
   have:=wB (ρ:=rst cs N M T m l (.tup [sy N ct,sy N cr,.int qq]) z n R (tkD N t) (rwD N r) (.tup (bh.map (sy N))) (.int (1+(R.length:ai) % 4)) e f g h) (f:=aC (aZ kY (aC mQ aU)) aU) (n:=(bh.length:ai)) (aD (bF (aD rfl rfl) (by show τ (θ ((bh.map (sy N)).length:ai))=_;rw[az])) rfl) 0x1 0x1;rw[gV] at this;exact this
  have t2:ru2 (rst cs N M T m l (.tup [sy N ct,sy N cr,.int qq]) z n R (tkD N t) (rwD N r) (.tup (bh.map (sy N))) (.int (1+(R.length:ai) % 4)) e f g h)=.ok (.nx (rst cs N M T m l (.tup [sy N ct,sy N cr,.int qq]) z n R (tkD N t) (rwD N r) (.tup (bh.map (sy N))) (.int (1+(R.length:ai) % 4)) (.lst (own.map (sy N))) f g h)):=by
   have eo:(own.map (sy N))=(aE bh.length).map λj=>sy N (13+(R.length+j*(1+R.length % 4)) % 5):=by rw[<-hown];unfold aL7;rw[dw];rfl
   rw[eo];refine cR (i:=11) (gQ (n:=15) (λ(k:ah)=>θ (0+(k:ai))) (λj=>sy N (13+(R.length+j*(1+R.length % 4)) % 5)) (aE bh.length) rfl (hbt ..) (by rw[ff];lia) λj hj=>?_);rw[gq] at hj;refine⟨aH rfl (aH (x:=.int 13) rfl (aH (aH (bF (aD rfl rfl) (by show τ (θ ((R.map (ruD N)).length:ai))=_;rw[az])) (aH rfl rfl (nT _ _ (BV _ 0x1 0x1))) (cY _ _)) rfl (b_ _ _ 0x4)) (cY _ _)) (iC (i:=13+(R.length+j*(1+R.length % 4)) % 5) ?_ 0x1),rfl⟩;have e1:(0+(j:ai))*(1+(R.length:ai) % 4)=((j*(1+R.length % 4):ah):ai):=by
    rw[AD,zt];rfl
   rw[e1];lia
  have t3:ru3 (rst cs N M T m l (.tup [sy N ct,sy N cr,.int qq]) z n R (tkD N t) (rwD N r) (.tup (bh.map (sy N))) (.int (1+(R.length:ai) % 4)) (.lst (own.map (sy N))) f g h)=.ok (.nx (rst cs N M T m l (.tup [sy N ct,sy N cr,.int qq]) z n R (tkD N t) (rwD N r) (.tup (bh.map (sy N))) (.int (1+(R.length:ai) % 4)) (.lst (own.map (sy N))) (.lst (K.map (rwD N))) g h)):=by
   have eK:K.map (rwD N)=(aE bh.length).map λj=>ν [sy N (own.getD j 0),sy N (bh.getD j 0),.tup []]:=by
    rw[<-hkn,dw];refine zu (by rw[az,xu,hol,az,ff,DB]) λi h1 h2=>?_
    rw[az,ff] at h2;rw[xE,xE,Du,List.getElem_zip,cj,dq 0x1,cj,dq 0x1];rfl
   rw[eK];refine cR (i:=12) (gQ (n:=15) (λ(k:ah)=>θ (0+(k:ai))) (λj=>ν [sy N (own.getD j 0),sy N (bh.getD j 0),.tup []]) (aE bh.length) rfl (hbt ..) (by rw[ff];lia) λj hj=>?_);rw[gq] at hj;refine⟨eE (aD (aH rfl rfl (fO (f:=sy N) (l:=own) (i:=j) 0x1 (by rw[dq 0x1,cj,dq 0x1];rfl))) (aD (aH rfl rfl (JQ (f:=sy N) (l:=bh) (i:=j) 0x1 (by rw[dq 0x1,cj,dq 0x1];rfl))) (aD rfl rfl))) (by rw[bG];show 3<=1000000;decide),rfl⟩
  have t4:=aPk (cs:=cs) (N:=N) (M:=M) (T:=T) (m:=m) (l:=l) (cl:=.tup [sy N ct,sy N cr,.int qq]) (z:=z) (n:=n) (n':=n') (R:=R) (t:=t) (b:=rwD N r) (c:=.tup (bh.map (sy N))) (d:=.int (1+(R.length:ai) % 4)) (e:=.lst (own.map (sy N))) (g:=h) (K:=K) (V:=V) v4;have t5:=aPl (cs:=cs) (N:=N) (M:=M) (T:=T) (m:=m) (l:=l) (cl:=.tup [sy N ct,sy N cr,.int qq]) (z:=z) (n:=n') (R:=R) (t:=t) (r:=r) (c:=.tup (bh.map (sy N))) (d:=.int (1+(R.length:ai) % 4)) (f:=.lst (K.map (rwD N))) (g:=.int most) (own:=own) (V:=V) hR;exact aN t0 (aN t1 (aN t2 (aN t3 (aN (ρ':=rst cs N M T m l (.tup [sy N ct,sy N cr,.int qq]) z n R (tkD N t) (rwD N r) (.tup (bh.map (sy N))) (.int (1+(R.length:ai) % 4)) (.lst (own.map (sy N))) (.lst (K.map (rwD N))) (.int 7) h) (cR (i:=13) rfl) (aN (hm2 ..) (aN t4 t5))))))
 .rw[ax hk];rw[cS hk] at hc;exact⟨[],n,c,d,e,f,g,h,rfl,λz=>aT z hk,by lia,λz=>oJ (hc z) (by rw[cv];rfl)⟩
end
noncomputable abbrev ky(u:Ru):ah×ah:=(u.1,u.2.1)
noncomputable def yH(M:ae Rw)(t:Tk)(L:ae Rw):ae (ah×ah):=(L.filter λr=>ϒ (r.2.1=t.2.2.1)).map λr=>(t.1,r.1)
section
variable {cs:ae ai} {N:ae Str} (hN:N.length=26) (hd:N.Nodup) {m:ah} {M:ae Rw} {T:ae Tk} {l:ah->ah} (G:Sig m M T l) {qq ct cr:ah} (hq7:7<=qq) (hq40:qq<=40) (hct:ct<26) (hcr:cr<26)
include hN hd G hq7 hq40 hct hcr
theorem aDe(ht:t∈T):∀(L:ae Rw),(∀r∈L,r∈M)->∀(R:ae Ru)(n:ah)(b c d e f g h:D),n+40*L.length<=2900->R.length+L.length<=100->∃(R':ae Ru)(n':ah)(b' c' d' e' f' g' h':D),R'.map ky=yH M t L/\(∀r∈L,r.2.1=t.2.2.1->∃u∈R',aS9 M qq t r u)/\n'<=n+40*L.length/\∀z,xV (tg1 8) rub (L.map (rwD N)) (rst cs N M T m l (.tup [sy N ct,sy N cr,.int qq]) z n R (tkD N t) b c d e f g h)=.ok (.nx (rst cs N M T m l (.tup [sy N ct,sy N cr,.int qq]) z n' (R++R') (tkD N t) b' c' d' e' f' g' h'))
 |[],_,R,n,b,c,d,e,f,g,h,_,_=>⟨[],n,b,c,d,e,f,g,h,rfl,λr hr=>(by cases hr),by lia,λz=>by rw[cv];rfl⟩
 |r::L,hL,R,n,b,c,d,e,f,g,h,hn,hR=>by
  rw[br] at hn hR;obtain⟨R1,n1,c1,d1,e1,f1,g1,h1,k1,k2,k3,k4⟩:=aGg hN hd G ht (hL r 0x2) (R:=R) (n:=n) 0x1 0x1 hq7 hq40 hct hcr c d e f g h;have l1:R1.length<=1:=by
   have:=cf f_ k1;rw[az] at this;rw[this];split<;>simp
  obtain⟨R2,n2,b2,c2,d2,e2,f2,g2,h2,q1,q2,q3,q4⟩:=aDe ht L (λx hx=>hL x (by simp[hx])) (R++R1) n1 (rwD N r) c1 d1 e1 f1 g1 h1 0x1 (by rw[bq];lia);refine⟨R1++R2,n2,b2,c2,d2,e2,f2,g2,h2,?_,λx hx hk=>?_,by rw[br];lia,λz=>?_⟩
  .rw[cw,q1];have k1':R1.map ky=if r.2.1=t.2.2.1 then [(t.1,r.1)] else []:=k1
   rw[k1'];unfold yH;rw[AN];by_cases h:r.2.1=t.2.2.1
   .rw[ao h,ao (bw h)];rfl
   .rw[ax h,ax (by rw[cS h];simp)];rfl
  .rcases cg.mp hx with rfl|hx
   .obtain⟨u,hu,o⟩:=k2 hk;exact⟨u,jr _ hu,o⟩
   .obtain⟨u,hu,o⟩:=q2 x hx hk;exact⟨u,eS _ hu,o⟩
  .rw[bd];refine cH (ρ1:=rst cs N M T m l (.tup [sy N ct,sy N cr,.int qq]) z n R (tkD N t) (rwD N r) c d e f g h) rfl (k4 z) ((q4 z).trans ?_);rw[cu]
theorem W8:∀(TL:ae Tk),(∀t∈TL,t∈T)->∀(R:ae Ru)(n:ah)(a b c d e f g h:D),n+280*TL.length<=2900->R.length+7*TL.length<=100->∃(R':ae Ru)(n':ah)(a' b' c' d' e' f' g' h':D),R'.map ky=(TL.map λt=>yH M t M).flatten/\(∀t∈TL,∀r∈M,r.2.1=t.2.2.1->∃u∈R',aS9 M qq t r u)/\n'<=n+280*TL.length/\∀z,xV (tg1 7) (B_ 1 (tg1 8) rub) (TL.map (tkD N)) (rst cs N M T m l (.tup [sy N ct,sy N cr,.int qq]) z n R a b c d e f g h)=.ok (.nx (rst cs N M T m l (.tup [sy N ct,sy N cr,.int qq]) z n' (R++R') a' b' c' d' e' f' g' h'))
 |[],_,R,n,a,b,c,d,e,f,g,h,_,_=>⟨[],n,a,b,c,d,e,f,g,h,rfl,λt ht=>(by cases ht),by lia,λz=>by rw[cv];rfl⟩
 |t::TL,hT,R,n,a,b,c,d,e,f,g,h,hn,hR=>by
  rw[br] at hn hR;have hml:=G.ml;obtain⟨R1,n1,b1,c1,d1,e1,f1,g1,h1,k1,k2,k3,k4⟩:=aDe hN hd G hq7 hq40 hct hcr (hT t 0x2) M (λr hr=>hr) R n b c d e f g h 0x1 0x1;have l1:R1.length<=7:=by
   have:=cf f_ k1;unfold yH at this;rw[az,az] at this;have:=sw (λr:Rw=>ϒ (r.2.1=t.2.2.1)) M;lia
  obtain⟨R2,n2,a2,b2,c2,d2,e2,f2,g2,h2,q1,q2,q3,q4⟩:=W8 TL (λx hx=>hT x (by simp[hx])) (R++R1) n1 (tkD N t) b1 c1 d1 e1 f1 g1 h1 0x1 (by rw[bq];lia);refine⟨R1++R2,n2,a2,b2,c2,d2,e2,f2,g2,h2,?_,λx hx r hr hk=>?_,by rw[br];lia,λz=>?_⟩
  .rw[cw,q1,k1,bd,iA]
  .rcases cg.mp hx with rfl|hx
   .obtain⟨u,hu,o⟩:=k2 r hr hk;exact⟨u,jr _ hu,o⟩
   .obtain⟨u,hu,o⟩:=q2 x hx r hr hk;exact⟨u,eS _ hu,o⟩
  .rw[bd];refine cH rfl (RX rfl rfl (k4 z)) ((q4 z).trans ?_);rw[cu]
omit hN hd hq7 hq40 hct hcr in
theorem aDf:∀TL:ae Tk,(TL.map (·.1)).Nodup->((TL.map λt=>yH M t M).flatten).Nodup/\∀p∈(TL.map λt=>yH M t M).flatten,p.1∈TL.map (·.1)/\p.2∈M.map (·.1)
 |[],_=>⟨gj,λp hp=>by cases hp⟩
 |t::TL,h=>by
  rw[bd,fy] at h;obtain⟨i1,i2⟩:=aDf TL h.2;have hmem:∀p∈yH M t M,p.1=t.1/\p.2∈M.map (·.1):=λp hp=>by
   unfold yH at hp;obtain⟨r,hr,rfl⟩:=cK.mp hp;exact⟨rfl,gl (hX.mp hr).1⟩
  rw[bd,iA];refine⟨iw.mpr ⟨?_,i1,λa ha b hb z=>?_⟩,λp hp=>?_⟩
  .unfold yH;have hs:((M.filter λr=>ϒ (r.2.1=t.2.2.1)).map (·.1)).Nodup:=G.mn.sublist ((List.filter_sublist).map _);have e:(M.filter λr=>ϒ (r.2.1=t.2.2.1)).map (λr=>(t.1,r.1))=((M.filter λr=>ϒ (r.2.1=t.2.2.1)).map (·.1)).map λx=>(t.1,x):=by rw[dw];rfl
   rw[e];exact AE.mpr (hs.imp λh z=>h (by cases z;rfl))
  .subst z;have:=(hmem a ha).1;exact h.1 (this▸(i2 a hb).1)
  .rcases eP.mp hp with hp|hp
   .have:=hmem p hp;exact⟨by rw[this.1,bd];exact de ..,this.2⟩
   .have:=i2 p hp;exact⟨by rw[bd];exact dg _ this.1,this.2⟩
omit hN hd hq7 hq40 hct hcr in
theorem aLa:Hds (M++T.map tr)/\Hds M:=by
 have hmi:=G.mi;have hti:=G.ti;have m3:=G.m3;have hM:Hds M:=⟨G.mn,λr hr=>by
  obtain⟨a,b,c⟩:=G.mg r hr;have:=hmi r hr;exact⟨by lia,by lia,λi hi=>by have:=b i hi;lia,by lia⟩,by have:=G.ml;lia⟩
 refine⟨⟨?_,λr hr=>?_,by have:=G.ml;have:=G.tl;rw[bq,az];lia⟩,hM⟩
 .rw[cw,dw];refine iw.mpr ⟨G.mn,G.tn,λa ha b hb z=>?_⟩;obtain⟨r,hr,rfl⟩:=cK.mp ha;obtain⟨t,ht,rfl⟩:=cK.mp hb;have h1:=hmi r hr;have h2:=hti t ht;have:r.1=t.1:=z;lia
 .rcases eP.mp hr with hr|hr
  .exact hM.lt r hr
  .obtain⟨t,ht,rfl⟩:=cK.mp hr;obtain⟨a,b,c,d⟩:=G.tg t ht;have h2:=hti t ht;refine⟨by show t.1<26;lia,by show t.2.1<26;lia,λi hi=>?_,by show t.2.2.2.length+1<=10;lia⟩;rcases cg.mp hi with rfl|hi
   .lia
   .have:=c i hi;lia
theorem aGh(hn:n<=2000):∃(R:ae Ru)(n':ah),Tab M T R qq/\ch1 j8 (dk cs n) [.lst (M.map (rwD N)),.lst (T.map (tkD N)),.lst ((aE 26).map (sy N)),.tup [sy N ct,sy N cr,.int qq],.dct (lsD N m l)]=.ok (.lst (R.map (ruD N)),dk cs n'):=by
 have htl:=G.tl;obtain⟨R,n',a,b,c,d,e,f,g,h,k1,k2,k3,k4⟩:=W8 hN hd G hq7 hq40 hct hcr T (λt ht=>ht) [] n .uD .uD .uD .uD .uD .uD .uD .uD 0x1 (by simp;lia);obtain⟨hF,hM⟩:=aLa G;obtain⟨y1,y2⟩:=aDf G T G.tn;rw[<-k1] at y1 y2;have hR:Rls R:=by
  refine⟨y1,λu hu=>?_,?_⟩
  .obtain⟨z1,z2⟩:=y2 (ky u) (gl hu);obtain⟨t,ht,e1⟩:=cK.mp z1;obtain⟨r,hr,e2⟩:=cK.mp z2;have h1:=G.ti t ht;have h2:=G.mi r hr;have e1:t.1=u.1:=e1;have e2:r.1=u.2.1:=e2;lia
  .have hl:∀TL:ae Tk,((TL.map λt=>yH M t M).flatten).length<=7*TL.length:=by
    intro TL;induction TL with
    |nil=>exact bt _
    |cons t TL ih=>
     rw[bd,iA,bq,br];have:(yH M t M).length<=7:=by
      unfold yH;rw[az];have:=sw (λr:Rw=>ϒ (r.2.1=t.2.2.1)) M;have:=G.ml;lia
     lia
   have:=cf f_ k1;rw[az] at this;have:=hl T;lia
 have hrt:∀u∈R,10<=u.1:=λu hu=>by
  obtain⟨z1,_⟩:=y2 (ky u) (gl hu);obtain⟨t,ht,e1⟩:=cK.mp z1;have h1:=G.ti t ht;have e1:t.1=u.1:=e1;lia
 refine⟨R,n',⟨hrt,hF,hM,hR,λr hr=>⟨(G.mi r hr).2,(G.mg r hr).2.2⟩,λt ht=>⟨(G.ti t ht).1,(G.ti t ht).2,(G.tg t ht).2.2.2⟩,λt ht r hr hk=>?_⟩,E_ λz=>BR (ρ:=rst cs N M T m l (.tup [sy N ct,sy N cr,.int qq]) z n' R a b c d e f g h) ?_⟩
 .obtain⟨u,hu,own,ws,rfl,o1,o2,o3,o4,o5,o6⟩:=k2 t ht r hr hk;exact⟨own,ws,hu,o1,o2,o3,o4,o5,o6⟩
 .show nG [.cel z (dk cs n),.lst (M.map (rwD N)),.lst (T.map (tkD N)),.lst ((aE 26).map (sy N)),.tup [sy N ct,sy N cr,.int qq],.dct (lsD N m l),.uD,.uD,.uD,.uD,.uD,.uD,.uD,.uD,.uD]=_;rw[aGf];refine aN (d7 (i:=6) rfl rfl) ?_;refine aN (RX (d:=.lst (T.map (tkD N))) (xs:=T.map (tkD N)) rfl rfl (k4 z)) ?_;rw[fq];exact yR rfl rfl
end
theorem aSa:mJ=bA (bZ ag 2 (bC (.dct [])) ag) (bA (B_ 1 (tg1 3) bhA) (bA (bZ ag 4 (i_ aU) ag) (bA (bZ ak 5 cT ag) (aQ6 4 5 6 (bH (oY iJ (gF dR) g_) ag) bhc bhe)))):=rfl
def tD(N:ae Str)(p:ae ah):D:=.scr (p.map (sy N))
theorem T5(N:ae Str)(p:ae ah):(tD N p).pure=ag:=bO N p
theorem JZ(N:ae Str)(F:ae (ae ah)):ε (F.map (tD N))=ag:=bQ (T5 N) F
def mnD(N:ae Str)(F:ae Rw):ae (D×D):=F.map λr=>(sy N r.1,.int (r.2.2.length:ai))
abbrev bs(w hs:D)(N:ae Str)(H:ae Rw)(r:D)(l:ai)(x:D):ae D:=[w,hs,.dct (mnD N H),r,.uD,.int l,x]
noncomputable def sN(N:ae Str)(q:ae ah):ae Str:=q.map λx=>N.getD x ""
theorem aPm(N:ae Str)(q:ae ah):(sN N q).map π=q.map (sy N):=by unfold sN;rw[dw];rfl
theorem aLb(a b:ai):eG .eq (.int a) (.int b)=.ok (.bl (a==b)):=rfl
theorem QH:∀(n:ah){a b W:ae ah},W.length<=n->Run H (a++b) W->∃W1 W2,W=W1++W2/\Run H a W1/\Run H b W2
 |_,[],b,W,_,h=>⟨[],W,rfl,.nil,h⟩
 |n,k::a,b,W,hn,h=>by
  cases h with
  |@step r _ W' hr h=>
   rw[br] at hn;cases n with
   |zero=>lia
   |succ n=>
    have h:Run H (r.2.2++(a++b)) W':=h;rw[<-cu] at h;obtain⟨W1,W2,rfl,h1,h2⟩:=QH n 0x1 h;exact⟨r.1::W1,W2,rfl,.step hr h1,h2⟩
theorem QJ:∀{ks W:ae ah},Run H ks W->∃Q:ae (ah×ae ah),Q.map (·.1)=ks/\(Q.map (·.2)).flatten=W/\∀q∈Q,Run H [q.1] q.2
 |[],W,h=>by
  cases h;exact⟨[],rfl,rfl,λq hq=>(by cases hq)⟩
 |k::ks,W,h=>by
  obtain⟨W1,W2,rfl,h1,h2⟩:=QH W.length (a:=[k]) (bt _) h;obtain⟨Q,q1,q2,q3⟩:=QJ h2;refine⟨(k,W1)::Q,by rw[bd,q1],by rw[bd,iA,q2],λq hq=>?_⟩;rcases cg.mp hq with rfl|hq
  .exact h1
  .exact q3 q hq
section
variable {N:ae Str} (hN:N.length=26) (hd:N.Nodup) {H:ae Rw} (F:Hds H)
include hN hd
theorem aDg:∀(K L:ae Rw),((L++K).map (·.1)).Nodup->(∀r∈L++K,r.1<26)->L.length+K.length<=1000->∀c:D,∃c',xV (tg1 3) bhA (K.map (rwD N)) [w,hs,.dct (mnD N L),c,e,f,g]=.ok (.nx [w,hs,.dct (mnD N (L++K)),c',e,f,g])
 |[],L,_,_,_,c=>⟨c,by rw[cv];rfl⟩
 |r::K,L,h1,h2,h3,c=>by
  have hr:r.1<26:=h2 r 0x2;have hn:r.1∉L.map (·.1):=λhm=>by
   rw[cw,bd,iw] at h1;exact h1.2.2 _ hm _ (de ..) rfl
  have e1:mnD N (L++[r])=putD (mnD N L) (sy N r.1) (.int (r.2.2.length:ai)):=by
   unfold mnD;rw[xR hN hd (λr:Rw=>r.1) (λr=>.int (r.2.2.length:ai)) hr _ L (λa ha=>h2 a (by simp[ha])) hn,cw];rfl
  rw[br] at h3;obtain⟨c',hc⟩:=aDg K (L++[r]) (by rw[cu];exact h1) (by rw[cu];exact h2) (by rw[bq,eB];lia) (rwD N r);rw[cu] at hc;refine⟨c',cH rfl ?_ hc⟩;have g1:=(jX (ρ:=[w,hs,.dct (mnD N L),rwD N r,e,f,g]) (i:=3) (r:=r) rfl)
  refine(VH (i:=2) (kvs:=mnD N L) (bF (xs:=[.tup (r.2.2.map (sy N))]) (aD g1.2.2 rfl) rfl) g1.1 rfl (by unfold mnD;rw[az,bG];lia) (wK (λr:Rw=>r.1) (λr=>.int (r.2.2.length:ai)) L r.1) rfl).trans ?_;rw[e1,az];rfl
include F
theorem aPn(hr:r∈H):getD (.dct (mnD N H)) (sy N r.1)=.ok (.int (r.2.2.length:ai)):=by
 show(if ag then ο (cO (mnD N H) (sy N r.1)) else .bad)=_;unfold mnD;rw[ao rfl,xQ hN hd (λr:Rw=>r.1) (λr=>θ (r.2.2.length:ai)) H F.nd (λa ha=>(F.lt a ha).1) r hr];rfl
theorem aI0(hr:r∈H){gr gr0:ae (ae Str)}{x:D}{t:ae D}(hG:gr.length<=1000)(hg:g.length<=9000)(hc:(if l=0 then []::gr0 else gr0)=g::gr):Y_ 5 6 bhc bhe (sy N r.1::t) gr0 (bs w hs N H r0 l x)=Y_ 5 6 bhc bhe t ((g++[N.getD r.1 ""])::gr) (bs w hs N H r0 ((if l=0 then 1 else l)-1+(r.2.2.length:ai)) (sy N r.1)):=by
 show Y_ 5 6 bhc bhe (π (N.getD r.1 "")::t) gr0 (bs w hs N H r0 l x)=_;have cc:bhc (bs w hs N H r0 l (sy N r.1))=.ok (l==0):=cJ (aH rfl rfl (aLb l 0));have ee:∀l:ai,bhe (bs w hs N H r0 l (sy N r.1))=.ok (.int (l-1+(r.2.2.length:ai))):=λl=>aH (aH rfl rfl (xY _ _)) (aH rfl rfl (aPn hN hd F hr)) (cY _ _)
 have lm:(ϒ (gr.length<lim)&&ϒ (g.length<lim))=ag:=by rw[bG,bw 0x1,bw 0x1];rfl
 rw[Y_];refine xI (cf (λz=>ω z _) cc) ?_;by_cases h:l=0
 .subst h;rw[ao rfl] at hc;cases hc;show(if (ϒ (gr.length<lim)&&ϒ (([]:ae Str).length<lim))=ag then ω (bhe (bs w hs N H r0 1 (sy N r.1))) _ else _)=_;rw[ao lm,ee];rfl
 .rw[ax h] at hc;subst hc;have hb:(l==0)=ak:=by simpa using h
  rw[hb];show(if (ϒ (gr.length<lim)&&ϒ (g.length<lim))=ag then ω (bhe (bs w hs N H r0 l (sy N r.1))) _ else _)=_;rw[ao lm,ee,ax h];rfl
theorem aPo(h:Run H ks W):∀(g:ae Str)(gr:ae (ae Str))(x:D)(rest:ae D),gr.length<=1000->g.length+W.length<=9000->∃x',Y_ 5 6 bhc bhe (W.map (sy N)++rest) (g::gr) (bs w hs N H r0 (ks.length:ai) x)=Y_ 5 6 bhc bhe rest ((g++sN N W)::gr) (bs w hs N H r0 0 x'):=by
 induction h with
 |nil=>intro g gr x rest _ _;exact⟨x,by rw[show sN N []=[] from rfl,cv];rfl⟩
 |@step r ks W hr h ih=>
  intro g gr x rest hG hl;rw[br] at hl;obtain⟨x',hx⟩:=ih (g++[N.getD r.1 ""]) gr (sy N r.1) rest hG (by rw[bq,eB];lia);refine⟨x',?_⟩;have nz:((r.2.1::ks).length:ai)≠0:=by rw[br];lia
  rw[bd,wt,aI0 hN hd F hr (g:=g) hG 0x1 (by rw[ax nz]),ax nz];have e:((r.2.1::ks).length:ai)-1+(r.2.2.length:ai)=((r.2.2++ks).length:ai):=by rw[br,bq];lia
  rw[e,hx,cu];rfl
theorem W9:∀(Q:ae (ah×ae ah))(gr:ae (ae Str))(x:D),(∀q∈Q,Run H [q.1] q.2)->gr.length+Q.length<=900->(Q.map (·.2)).flatten.length<=8000->Y_ 5 6 bhc bhe (((Q.map (·.2)).flatten).map (sy N)) gr (bs w hs N H r0 0 x)=.ok (.lst ((gr.reverse++(Q.map (·.2)).map (sN N)).map λg=>.scr (g.map .str)))
 |[],gr,x,_,_,_=>by rw[gi,gi,cv];rfl
 |q::Q,gr,x,hq,hl,hw=>by
  rw[bd,iA,bq] at hw;rw[br] at hl;have hr:=hq q 0x2;obtain⟨k,p⟩:=q;cases hr with
  |@step r _ W hr h=>
   rw[cv] at h;have hw:(r.1::W).length+((Q.map (·.2)).flatten).length<=8000:=hw;rw[br] at hw;obtain⟨x1,e1⟩:=aPo hN hd F (r0:=r0) h [N.getD r.1 ""] gr (sy N r.1) (((Q.map (·.2)).flatten).map (sy N)) 0x1 (by rw[eB];lia);have e2:=W9 (w:=w) (hs:=hs) (r0:=r0) Q (([N.getD r.1 ""]++sN N W)::gr) x1 (λq hq'=>hq q (by simp[hq'])) (by rw[br];lia) 0x1;show Y_ 5 6 bhc bhe (((r.1::W)++(Q.map (·.2)).flatten).map (sy N)) gr _=.ok (.lst ((gr.reverse++sN N (r.1::W)::(Q.map (·.2)).map (sN N)).map _));rw[cw,bd,wt,aI0 hN hd F hr (g:=[]) (gr:=gr) 0x1 (by rw[fj];lia) (by rw[ao rfl]),ao rfl];rw[show(1:ai)-1+(r.2.2.length:ai)=(r.2.2.length:ai) by lia,fq];rw[e1,e2,fN,cu];rfl
theorem aDh{Q:ae (ah×ae ah)}(hq:∀q∈Q,Run H [q.1] q.2)(hl:Q.length<=100)(hw:(Q.map (·.2)).flatten.length<=8000):sG 2 gM [tD N (x::(Q.map (·.2)).flatten),.lst (H.map (rwD N))]=.ok (.lst ((Q.map (·.2)).map (tD N))):=by
 refine(oZ rfl).trans (call_v (n:=2) (m:=7) ?_);generalize hP:(Q.map (·.2)).flatten=P at hw;show mJ [tD N (x::P),.lst (H.map (rwD N)),.uD,.uD,.uD,.uD,.uD]=_;rw[aSa];obtain⟨c,hc⟩:=aDg hN hd (w:=tD N (x::P)) (hs:=.lst (H.map (rwD N))) (e:=.uD) (f:=.uD) (g:=.uD) H [] F.nd (λr hr=>(F.lt r hr).1) (by have:=F.ln;simp;lia) .uD;have hx:=W9 hN hd F (w:=tD N (x::P)) (hs:=.lst (H.map (rwD N))) (r0:=c) Q [] .uD hq (by simp;lia) (by rw[hP];exact hw);rw[hP] at hx;refine aN (ρ':=[tD N (x::P),.lst (H.map (rwD N)),.dct (mnD N []),.uD,.uD,.uD,.uD]) (d7 (i:=2) rfl rfl) ?_;refine aN (RX (i:=1) rfl rfl hc) ?_;refine aN (ρ':=[tD N (x::P),.lst (H.map (rwD N)),.dct (mnD N H),c,.lst [],.uD,.uD]) (d7 (i:=4) rfl rfl) ?_;refine aN (ρ':=[tD N (x::P),.lst (H.map (rwD N)),.dct (mnD N H),c,.lst [],.int 0,.uD]) (cR (i:=5) rfl) ?_;have it:bH (oY iJ (gF dR) g_) ag [tD N (x::P),.lst (H.map (rwD N)),.dct (mnD N H),c,.lst [],.int 0,.uD]=.ok (P.map (sy N),ag):=by
  refine fC ?_;show(if ε ((x::P).map (sy N)) then τ (ψ (cutD ((x::P).map (sy N)) (aa ((1:ah):ai)) aj)) else .bad)=_;rw[bO,ao rfl,yS];rfl
 refine xI (cf (λz=>ω z _) it) ?_;show ω (Y_ 5 6 bhc bhe (P.map (sy N)) [] (bs (tD N (x::P)) (.lst (H.map (rwD N))) N H c 0 .uD)) _=_;rw[hx];show τ (Fl.rt (ψ _))=_
 congr 3
 rw[List.reverse_nil,fq,dw];exact BY λq _=>cf D.scr (aPm N q)
end
theorem aSb:xK=bA (bZ ag 2 (i_ aU) ag) (bA (J1 (bH (b2 getD iJ kW) ak) (tg1 3) goB) (bA (bZ ak 4 cT ag) (bA (bZ ak 5 cT ag) (bA (J1 (lX (aC (aZ kY (aC fK aU)) aU) jN) (tg1 6) (bA goT (bA goC goD))) (aFw 2 (zN (i_ (aC (bPu fH) (aC dR (aC (bPu gU) (aC (bPu jY) aU))))) ag)))))):=rfl
noncomputable def vls(A:ae Kn):ae (ae ah):=A.map λp=>p.2.2.1
noncomputable def okn(A:ae Kn):ae ah:=A.map (·.1)
abbrev gs(N:ae Str)(t mk:ah)(A:ae Kn)(body:ae ah)(W:ae ah)(x:D)(c4 c5 x6 x7:D):ae D:=[ruD N (t,mk,okn A,body),.lst ((vls A).map (tD N)),.lst (W.map (sy N)),x,c4,c5,x6,x7]
theorem W_(ws:ae ah):∀(A:ae Kn)(p:Kn)(k:Cn),dX ws (A++[p]) k=(dX ws A k).use (ws.count p.1) (p.2.2.1.length:ai)
 |[],p,k=>rfl
 |q::A,p,k=>W_ ws A p _
theorem aPp(ws:ae ah):∀(A:ae Kn)(k:Cn),(dX ws A k).c=k.c:=by
 intro A;induction A with
 |nil=>intro k;rfl
 |cons p A ih=>
  intro k;show(dX ws A (k.use _ _)).c=k.c;rw[ih];unfold Cn.use;split<;>rfl
section
variable {N:ae Str} (hN:N.length=26) (hd:N.Nodup)
include hN hd
theorem aI1:∀{A:ae Kn},(okn A).Nodup->(∀p∈A,p.1<26)->∀p∈A,∃j,aEv (sy N p.1) ((okn A).map (sy N))=aa j/\(vls A)[j]?=aa p.2.2.1
 |[],_,_,p,hp=>by cases hp
 |q::A,nd,lt,p,hp=>by
  have nd':(q.1::okn A).Nodup:=nd;rw[fy] at nd';have e:eqD (sy N q.1) (sy N p.1)=ϒ (q.1=p.1):=yG hN hd (lt q 0x2) (lt p hp);show ∃j,aEv (sy N p.1) (sy N q.1::(okn A).map (sy N))=aa j/\(q.2.2.1::vls A)[j]?=aa p.2.2.1;rcases cg.mp hp with rfl|hp
  .refine⟨0,?_,rfl⟩;unfold aEv;rw[e,bw rfl];rfl
  .have ne:q.1≠p.1:=λz=>nd'.1 (z▸gl hp)
   obtain⟨j,j1,j2⟩:=aI1 nd'.2 (λp hp=>lt p (by simp[hp])) p hp;refine⟨j+1,?_,by simpa using j2⟩;unfold aEv;rw[e,cS ne,j1];rfl
variable {M:ae Rw} {A:ae Kn} (KA:aD7 N M A) {t mk:ah} {body:ae ah} (hb:∀j∈body,j<26)
include KA
theorem aLc(hx:x<26)(hl:W.length+(sb1 A x).length<=10000):goB (gs N t mk A body W (sy N x) c4 c5 x6 x7)=.ok (.nx (gs N t mk A body (W++sb1 A x) (sy N x) c4 c5 x6 x7)):=by
 have hin:b2 inX eF (b2 getD iJ jD) (gs N t mk A body W (sy N x) c4 c5 x6 x7)=.ok (.bl (ϒ (x∈okn A))):=by
  refine aH rfl (aH rfl rfl rfl) ?_;show(if (sy N x).jC bB&&υ bB ((okn A).map (sy N)) then τ (χ (((okn A).map (sy N)).any λy=>eqD y (sy N x))) else .bad)=_;rw[xO,gR,aCv hN hd hx _ (λj hj=>by obtain⟨p,hp,rfl⟩:=cK.mp hj;exact(KA.lt p hp).2)];rfl
 by_cases hm:x∈okn A
 .obtain⟨p,hp,rfl⟩:=cK.mp hm;obtain⟨j,j1,j2⟩:=aI1 hN hd KA.nd (λp hp=>(KA.lt p hp).2) p hp;rw[(aPf KA.nd hp).1] at hl ⊢;refine J3 (cJ (hin.trans (by rw[bw hm]))) ?_;have e0:=WL (i:=2) (ρ:=gs N t mk A body W (sy N p.1) c4 c5 x6 x7) (f:=b2 getD fK (bM zY (b2 getD iJ jD) (aC eF aU))) (d:=tD N p.2.2.1) (xs:=W.map (sy N)) (ys:=p.2.2.1.map (sy N)) (aH (x:=.lst ((vls A).map (tD N))) (y:=.int (j:ai)) rfl ?_ (fO rfl j2)) rfl rfl (by rw[az,az];exact hl) (bO ..)
  .refine e0.trans ?_;rw[<-cw];rfl
  show bM zY (b2 getD iJ jD) (aC eF aU) (gs N t mk A body W (sy N p.1) c4 c5 x6 x7)=_;show(if (sy N p.1).jC bB&&υ bB ((okn A).map (sy N)) then (match aEv (sy N p.1) ((okn A).map (sy N)) with|some j=>τ (θ j)|none=>.bad) else .bad)=_;rw[xO,gR,j1];rfl
 .rw[(aPg (L:=A) (x:=x) λp hp z=>hm (z▸gl (f:=(·.1)) hp)).1] at hl ⊢;refine oJ (cJ (hin.trans (by rw[cS hm]))) ?_;refine(oM (i:=2) (ρ:=gs N t mk A body W (sy N x) c4 c5 x6 x7) (xs:=W.map (sy N)) (d:=sy N x) rfl rfl (by rw[az,bG];lia) rfl).trans ?_;show τ (Fl.nx (gs N t mk A body W (sy N x) c4 c5 x6 x7 |>.set 2 (.lst (W.map (sy N)++[x].map (sy N)))))=_;rw[<-cw];rfl
theorem XF{c4 c5 x6 x7:D}:∀(ws:ae ah),(∀j∈ws,j<26)->∀(W:ae ah)(x:D),W.length+(sub A ws).length<=10000->∃x',xV (tg1 3) goB (ws.map (sy N)) (gs N t mk A body W x c4 c5 x6 x7)=.ok (.nx (gs N t mk A body (W++sub A ws) x' c4 c5 x6 x7))
 |[],_,W,x,_=>⟨x,by rw[show sub A []=[] from rfl,cv];rfl⟩
 |y::ws,hw,W,x,hl=>by
  have hl:W.length+(sb1 A y++sub A ws).length<=10000:=hl;rw[bq] at hl;obtain⟨x',hx⟩:=XF ws (λj hj=>hw j (by simp[hj])) (W++sb1 A y) (sy N y) (by rw[bq];lia);refine⟨x',cH rfl (aLc hN hd KA (hw y 0x2) 0x1) (hx.trans ?_)⟩;rw[cu];rfl
include hb
theorem aPq(hA:A=A1++p::A2){k:Cn}(hbl:body.length<=1000)(hpl:p.2.2.1.length<=10000):bA goT (bA goC goD) (gs N t mk A body W x (.int k.p) (.int k.d) (.int (0+(A1.length:ai))) x7)=.ok (.nx (gs N t mk A body W x (.int (k.use (body.count p.1) (p.2.2.1.length:ai)).p) (.int (k.use (body.count p.1) (p.2.2.1.length:ai)).d) (.int (0+(A1.length:ai))) (.int (body.count p.1:ai)))):=by
 have hp:p∈A:=by rw[hA];simp
 have ga:(okn A)[A1.length]?=aa p.1:=by unfold okn;rw[hA,ib];simp
 have gv:(vls A)[A1.length]?=aa p.2.2.1:=by unfold vls;rw[hA,ib];simp
 have hcn:=DA (a:=p.1) (l:=body);generalize hn:body.count p.1=n at hcn;have e1:dB 8 (bH (b2 getD iJ kW) ak) lO (bTB (b2 (eG .eq) yK (b2 getD (b2 getD iJ jD) t_))) yK ak (gs N t mk A body W x (.int k.p) (.int k.d) (.int (0+(A1.length:ai))) x7)=.ok (.lst ((body.filter λj=>ϒ (j=p.1)).map (sy N))):=by
  refine xN (kk:=ag) (sy N) (sy N) (λj=>ϒ (j=p.1)) body rfl ((gB (aH rfl rfl rfl)).trans (by rw[bO];rfl)) 0x1 (λj hj=>?_) λj hj _=>⟨rfl,rfl⟩
  exact cJ (aH (x:=sy N j) (y:=sy N p.1) rfl (aH (x:=.tup ((okn A).map (sy N))) (aH rfl rfl rfl) rfl (JQ 0x1 ga)) (WP hN hd (hb j hj) (KA.lt p hp).2))
 have e2:((body.filter λj=>ϒ (j=p.1)).map (sy N)).length=n:=by
  rw[az,<-hn,List.count_eq_length_filter]
  congr 1
 have glen:aZ kY (aC (b2 getD fK t_) aU) (gs N t mk A body W x (.int k.p) (.int k.d) (.int (0+(A1.length:ai))) (.int (n:ai)))=.ok (.int (p.2.2.1.length:ai)):=bF (xs:=[tD N p.2.2.1]) (aD (aH (x:=.lst ((vls A).map (tD N))) rfl rfl (fO 0x1 gv)) rfl) (by show τ (θ ((p.2.2.1.map (sy N)).length:ai))=_;rw[az]);have glen2:∀z:ai,aZ kY (aC (b2 getD fK t_) aU) (gs N t mk A body W x (.int z) (.int k.d) (.int (0+(A1.length:ai))) (.int (n:ai)))=.ok (.int (p.2.2.1.length:ai)):=λz=>bF (xs:=[tD N p.2.2.1]) (aD (aH (x:=.lst ((vls A).map (tD N))) rfl rfl (fO 0x1 gv)) rfl) (by show τ (θ ((p.2.2.1.map (sy N)).length:ai))=_;rw[az])
 have hs:iI (p.2.2.1.length:ai)=ag:=BV _ 0x1 0x1;refine aN (ρ':=gs N t mk A body W x (.int k.p) (.int k.d) (.int (0+(A1.length:ai))) (.int (n:ai))) (cR (i:=7) (bF (aD e1 rfl) (by show τ (θ _)=_;rw[e2]))) ?_;have c1:k.p+(if (0:ai)<(n:ai)-1 then (n:ai)-1 else 0)*(p.2.2.1.length:ai)=(k.use (n:ai) (p.2.2.1.length:ai)).p:=by
  unfold Cn.use;by_cases hz:(n:ai)=0
  .rw[ao hz,ax 0x1,DC,AL]
  .rw[ax hz];by_cases h1:(0:ai)<(n:ai)-1
   .rw[ao h1]
   .rw[ax h1,show(n:ai)-1=0 by lia]
 have c2:k.d+(if ((n:ai)==0)=ag then (1:ai) else 0)*(p.2.2.1.length:ai)=(k.use (n:ai) (p.2.2.1.length:ai)).d:=by
  unfold Cn.use;by_cases hz:(n:ai)=0
  .rw[ao hz,ao (by rw[hz];rfl),Int.one_mul]
  .rw[ax hz,ax (by simpa using hz),DC,AL]
 refine aN (ρ':=gs N t mk A body W x (.int (k.use (n:ai) (p.2.2.1.length:ai)).p) (.int k.d) (.int (0+(A1.length:ai))) (.int (n:ai))) ?_ ?_
 .rw[<-c1];exact cR (i:=4) (aH (x:=.int k.p) rfl (aH (bF (xs:=[.int 0,.int ((n:ai)-1)]) (aD rfl (aD (aH rfl rfl (xY _ _)) rfl)) (aRx _)) glen (nT _ _ hs)) (cY _ _))
 .rw[<-c2];exact cR (i:=5) (aH (x:=.int k.d) rfl (aH (bF (xs:=[.bl ((n:ai)==0)]) (aD (aH rfl rfl (mK _ _)) rfl) rfl) (glen2 _) (nT _ _ hs)) (cY _ _))
theorem aDi{W:ae ah}{x:D}(hbl:body.length<=1000)(hpl:∀p∈A,p.2.2.1.length<=10000):∀(A2 A1:ae Kn),A=A1++A2->∀(x6 x7:D),∃x6' x7',xV (tg1 6) (bA goT (bA goC goD)) ((hI A1.length A2.length).map λk:ah=>θ (0+(k:ai))) (gs N t mk A body W x (.int (dX body A1 z0.call).p) (.int (dX body A1 z0.call).d) x6 x7)=.ok (.nx (gs N t mk A body W x (.int (dX body A z0.call).p) (.int (dX body A z0.call).d) x6' x7'))
 |[],A1,hA,x6,x7=>⟨x6,x7,by rw[hA,cv];rfl⟩
 |p::A2,A1,hA,x6,x7=>by
  obtain⟨x6',x7',e⟩:=aDi hbl hpl A2 (A1++[p]) (by rw[hA,cu];rfl) (.int (0+(A1.length:ai))) (.int (body.count p.1:ai));rw[W_,bq,eB] at e;refine⟨x6',x7',?_⟩;rw[br,ko,bd];exact cH rfl (aPq hN hd KA hb hA hbl (hpl p (by rw[hA];simp))) e
theorem aSc(hbl:body.length<=1000)(hpl:∀p∈A,p.2.2.1.length<=9000)(hsl:(sub A body).length<=9000):sG 2 lL [ruD N (t,mk,okn A,body),.lst ((vls A).map (tD N))]=.ok (.lst [tD N (sub A body),.int 1,.int (dX body A z0.call).p,.int (dX body A z0.call).d]):=by
 refine(oZ rfl).trans (call_v ?_);show xK [ruD N (t,mk,okn A,body),.lst ((vls A).map (tD N)),.uD,.uD,.uD,.uD,.uD,.uD]=_;rw[aSb];obtain⟨x',hx⟩:=XF hN hd KA body hb [] .uD (by rw[fj];lia);rw[fq] at hx;obtain⟨x6',x7',e⟩:=aDi hN hd KA hb hbl (λp hp=>by have:=hpl p hp;lia) A [] rfl .uD .uD;refine aN (d7 rfl rfl) ?_;refine aN (oK ((gB (aH rfl rfl rfl)).trans (by rw[bO];rfl)) hx) ?_;refine aN (cR rfl) ?_;refine aN (cR (i:=5) rfl) ?_;refine aN (ρ':=gs N t mk A body (sub A body) x' (.int (dX body A z0.call).p) (.int (dX body A z0.call).d) x6' x7') (oK (wB (n:=(A.length:ai)) (aD (bF (aD rfl rfl) (by show τ (θ (((vls A).map (tD N)).length:ai))=_;unfold vls;rw[az,az])) rfl) 0x1 (by have:=KA.ln;lia)) ?_) ?_
 .rw[gV,AH];exact e
 .refine xI (cf (λz=>ω z _) (zV (d:=.lst [tD N (sub A body),.int 1,.int (dX body A z0.call).p,.int (dX body A z0.call).d]) (W5 (aD (PP (f:=cD 2) rfl (T5 N _)) (aD rfl (aD (PP (f:=cD 4) rfl rfl) (aD (PP (f:=cD 5) rfl rfl) rfl)))) (by rw[bG];show 4<=1000000;decide)) rfl)) rfl
end
theorem aLd(N:ae Str)(x:ah):eG .ne (sy N x) (sy N x)=.ok (.bl ak):=by
 show(if (sy N x).jC bB&&(sy N x).jC bB then τ (χ (!eqD (sy N x) (sy N x))) else .bad)=_;rw[xO];show τ (χ (!(N.getD x ""==N.getD x "")))=_;rw[wm];rfl
theorem aGi:nO=bA (sIf (bOr (aDo (bTr (b1 (K5 .tuple) iJ))) (bTB (b2 (eG .ne) (aZ kY (aC iJ aU)) Q5))) (zN (bC (.bl ak)) ag) yL) (bA (sIf (bOr (aDo (bTr (b1 (K5 .tuple) (b2 getD iJ cT)))) (bTB (b2 (eG .ne) (aZ kY (aC (b2 getD iJ cT) aU)) (aZ kY (aC (b2 getD fK cT) aU))))) (zN (bC (.bl ak)) ag) yL) (bA (J1 (lX (aC (aZ kY (aC (b2 getD fK cT) aU)) aU) jN) (tg1 2) rt2) (bA (J1 (bH (i_ (aC dR (aC jD (aC kW aU)))) ag) (tg1 2) rt3) (zN (bC (.bl ag)) ag)))):=rfl
abbrev dL(N:ae Str)(W:ae ah)(p d:ai):D:=.lst [tD N W,.int 1,.int p,.int d]
theorem XH(N:ae Str)(W:ae ah)(c:Cn):∀(L:ae ah),(∀j∈L,j<W.length)->∀x:D,∃x',xV (tg1 2) rt2 (L.map λ(k:ah)=>θ (0+(k:ai))) [wD N W c,dL N W c.p c.d,x]=.ok (.nx [wD N W c,dL N W c.p c.d,x'])
 |[],_,x=>⟨x,rfl⟩
 |j::L,h,x=>by
  have hj:=h j 0x2;obtain⟨x',e⟩:=XH N W c L (λi hi=>h i (by simp[hi])) (.int (0+(j:ai)));refine⟨x',cH rfl ?_ e⟩;have g1:b2 getD (b2 getD iJ cT) fH [wD N W c,dL N W c.p c.d,.int (0+(j:ai))]=.ok (sy N W[j]):=aH (aH rfl rfl rfl) rfl (JQ 0x1 (dq hj));have g2:b2 getD (b2 getD fK cT) fH [wD N W c,dL N W c.p c.d,.int (0+(j:ai))]=.ok (sy N W[j]):=aH (aH rfl rfl rfl) rfl (fO 0x1 (dq hj));exact oJ (aLt (QF (b:=ag) (QG (DK g1 rfl))) (cJ (aH g1 g2 (aLd N _)))) rfl
theorem aDj(hc:c.c=1)(j:ah)(h1:1<=j)(h3:j<=3)(x:D):rt3 [wD N W c,dL N W c.p c.d,.int (j:ai)]=.ok (.nx [wD N W c,dL N W c.p c.d,.int (j:ai)]):=by
 obtain⟨z,g1,g2⟩:∃z:ai,b2 getD iJ fH [wD N W c,dL N W c.p c.d,.int (j:ai)]=.ok (.int z)/\b2 getD fK fH [wD N W c,dL N W c.p c.d,.int (j:ai)]=.ok (.int z):=by
  match j,h1,h3 with
  |1,_,_=>exact⟨1,by rw[<-hc];rfl,rfl⟩
  |2,_,_=>exact⟨c.p,rfl,rfl⟩
  |3,_,_=>exact⟨c.d,rfl,rfl⟩
 exact oJ (aLt (QF (b:=ag) (QG (DK g1 rfl))) (aLt (QG (DK g1 rfl)) (cJ (aH g1 g2 ((aCn z z).trans 0x2))))) rfl
theorem aGj(hc:c.c=1)(hW:W.length<=9000):sG 2 fZ [wD N W c,dL N W c.p c.d]=.ok (.bl ag):=by
 refine(oZ rfl).trans (call_v (n:=2) (m:=3) ?_);show nO [wD N W c,dL N W c.p c.d,.uD]=_;rw[aGi];have hl:∀i,b2 getD (cD i) cT [wD N W c,dL N W c.p c.d,.uD]=.ok (if i=0 then .tup (W.map (sy N)) else tD N W)->aZ kY (aC (b2 getD (cD i) cT) aU) [wD N W c,dL N W c.p c.d,.uD]=.ok (.int (W.length:ai)):=λi h=>by
  refine bF (aD h rfl) ?_;by_cases hi:i=0
  .rw[ao hi];show τ (θ ((W.map (sy N)).length:ai))=_;rw[az]
  .rw[ax hi];show τ (θ ((W.map (sy N)).length:ai))=_;rw[az]
 obtain⟨x',e⟩:=XH N W c (aE W.length) (λj hj=>gq.mp hj) .uD;refine aN (oJ (aLt (QF (b:=ag) (QG (DK rfl rfl))) (cJ (aH rfl rfl rfl))) rfl) ?_;refine aN (oJ (aLt (QF (b:=ag) (QG (DK (aH rfl rfl rfl) rfl))) (cJ (aH (hl 0 rfl) (hl 1 rfl) ((aCn _ _).trans 0x2)))) rfl) ?_;refine aN (oK (wB (n:=(W.length:ai)) (aD (hl 1 rfl) rfl) 0x1 0x1) (by rw[gV];exact e)) ?_;refine aN (ρ':=[wD N W c,dL N W c.p c.d,.int 3]) (oK (xs:=[.int 1,.int 2,.int 3]) rfl (cH (ρ1:=[wD N W c,dL N W c.p c.d,.int 1]) rfl (aDj hc 1 0x4 0x4 x') (cH (ρ1:=[wD N W c,dL N W c.p c.d,.int 2]) rfl (aDj hc 2 0x4 0x4 x') (cH (ρ1:=[wD N W c,dL N W c.p c.d,.int 3]) rfl (aDj hc 3 0x4 0x4 x') rfl)))) ?_;exact zV rfl rfl
theorem aGk:sG 1 iU [.exc "Spent" []]=.ok (.bl ag):=by
 refine(oZ rfl).trans (call_v ?_);exact aN (oJ (QG rfl) rfl) (aN (oJ (QG rfl) rfl) (zV rfl rfl))
theorem aGl:nQ=bA (bZ ak 4 (bC .non) ag) (bA (bZ ak 5 (bC .non) ag) (bA (Y9 akT ["Spent"] 5 6) (bA (sIf akC (zN (aZ (sG 1 iU) (aC jY aU)) ag) yL) (zN (aAh (b2 (eG .isN) jY (bC .non)) (aZ (sG 2 fZ) (aC gU (aC fH aU)))) ag)))):=rfl
theorem aGm(hc:c.c=1)(hW:W.length<=9000)(hg:∀x4 x5,cD 0 [g,w,dL N W c.p c.d,.int b,x4,x5,.uD]=.ok g)(hw:∀x4 x5,cD 1 [g,w,dL N W c.p c.d,.int b,x4,x5,.uD]=.ok w)(h:dU [g,w,.int (if b<0 then 400 else b)]=if tot c<=(if b<0 then 400 else b) then .ok (wD N W c) else aPi):sG 4 j_ [g,w,dL N W c.p c.d,.int b]=.ok (.bl ag):=by
 refine(oZ rfl).trans (call_v ?_);show nQ [g,w,dL N W c.p c.d,.int b,.uD,.uD,.uD]=_;rw[aGl]
 let st:D->D->ae D:=λx y=>[g,w,dL N W c.p c.d,.int b,x,y,.uD]
 have eT:∀r:Res D,dU [g,w,.int (if b<0 then 400 else b)]=r->akT (st .non .non)=bZ ak 4 (λ_=>r) ag (st .non .non):=λr hr=>by
  have c0:noE (bTB (b2 (yE .lt) eF cT)) (st .non .non)=.ok (ϒ (b<0)):=aC1 (cJ (aH rfl rfl (PX b 0)));by_cases hb:b<0
  .rw[ao hb] at hr;rw[bw hb] at c0;refine(J3 c0 rfl).trans ?_;have e2:aZ (ZR 3 dU [.int 400]) (noE (aC iJ (aC fK aU))) (st .non .non)=r:=by
    have e3:aC iJ (aC fK aU) (st .non .non)=.ok [g,w]:=aD (hg _ _) (aD (hw _ _) rfl);unfold aZ;rw[aC1 e3,ι];exact hr
   unfold bZ;rw[e2]
  .rw[ax hb] at hr;rw[cS hb] at c0;refine(oJ c0 rfl).trans ?_;have e2:aZ (ZR 3 dU []) (noE (aC iJ (aC fK (aC eF aU)))) (st .non .non)=r:=by
    have e3:aC iJ (aC fK (aC eF aU)) (st .non .non)=.ok [g,w,.int b]:=aD (hg _ _) (aD (hw _ _) (aD rfl rfl));unfold aZ;rw[aC1 e3,ι];exact hr
   unfold bZ;rw[e2]
 have eC:∀x y,akC (st x y)=.ok (ϒ ((if b<0 then 400 else b)<tot c)):=λx y=>by
  have e1:b2 (bJ .add) (b2 (bJ .add) (b2 getD fH dR) (b2 getD fH jD)) (b2 getD fH kW) (st x y)=.ok (.int (tot c)):=by
   show _=τ (θ (c.c+c.p+c.d));rw[hc];exact aH (aH (aH rfl rfl rfl) (aH rfl rfl rfl) (cY _ _)) (aH rfl rfl rfl) (cY _ _)
  have e2:b2 getD (i_ (aC (bPu eF) (aC (bC (.int 400)) aU))) (aZ aNd (aC (b2 (yE .lt) eF cT) aU)) (st x y)=.ok (.int (if b<0 then 400 else b)):=by
   refine aH (y:=.int (if b<0 then 1 else 0)) rfl (bF (aD (aH rfl rfl (PX b 0)) rfl) ?_) ?_
   .by_cases hb:b<0
    .rw[bw hb,ao hb];rfl
    .rw[cS hb,ax hb];rfl
   .by_cases hb:b<0
    .rw[ao hb,ao hb];rfl
    .rw[ax hb,ax hb];rfl
  exact cJ (aH e1 e2 (cmp_gt _ _))
 refine aN (ρ':=st .uD .uD |>.set 4 .non) (cR (i:=4) rfl) (aN (ρ':=st .non .non) (cR (i:=5) rfl) ?_);by_cases ht:tot c<=(if b<0 then 400 else b)
 .rw[ao ht] at h;refine aN (ρ':=st (wD N W c) .non) ?_ (aN (oJ ((eC _ _).trans (by rw[cS 0x1])) rfl) (zV (d:=.bl ag) ?_ rfl))
  .unfold Y9;rw[eT _ h];rfl
  .show aAh _ _ (st (wD N W c) .non)=_;have e3:aZ (sG 2 fZ) (aC gU (aC fH aU)) (st (wD N W c) .non)=.ok (.bl ag):=bF (aD rfl (aD rfl rfl)) (aGj hc hW);exact e3
 .rw[ax ht] at h;refine aN (ρ':=st .non (.exc "Spent" [])) ?_ (aCk (J3 ((eC _ _).trans (by rw[bw 0x1])) (zV (d:=.bl ag) (bF (aD rfl rfl) aGk) rfl)));unfold Y9;rw[eT _ h];rfl
theorem Tab.turn(B:Tab M T R qq)(a:ah):Tab M T (R.drop a++R.take a) qq/\∀u,u∈R->u∈R.drop a++R.take a:=by
 have pm:(R.drop a++R.take a).Perm R:=by
  have:=Dx (l₁:=R.drop a) (l₂:=R.take a);rwa [nV] at this
 refine⟨⟨λu hu=>B.rt u (pm.mem_iff.mp hu),B.hF,B.hM,⟨(pm.map _).nodup_iff.mpr B.hR.nd,λu hu=>B.hR.lt u (pm.mem_iff.mp hu),by rw[pm.length_eq];exact B.hR.ln⟩,B.mi,B.ti,λt ht r hr hk=>?_⟩,λu=>pm.mem_iff.mpr⟩;obtain⟨own,ws,h,g⟩:=B.ru t ht r hr hk;exact⟨own,ws,pm.mem_iff.mpr h,g⟩
theorem ZM{R:ae Ru}(nd:(R.map λr=>(r.1,r.2.1)).Nodup)(hu:u∈R):R.filter (λr=>ϒ ((r.1,r.2.1)=(u.1,u.2.1)))=[u]:=by
 induction R with
 |nil=>cases hu
 |cons x R ih=>
  rw[bd,fy] at nd;rcases cg.mp hu with rfl|hu
  .rw[AN,ao (bw rfl)]
   congr 1
   rw[List.filter_eq_nil_iff];intro y hy z;exact nd.1 (cK.mpr ⟨y,hy,d5 z⟩)
  .rw[AN,ax (λz=>nd.1 (cK.mpr ⟨u,hu,(d5 z).symm⟩)),ih nd.2 hu]
theorem aDk(h1:1<=mx)(h:∀p∈A,p.2.2.1.length<=mx):∀ws:ae ah,wgt A ws<=ws.length*mx
 |[]=>ef _
 |x::ws=>by
  have ih:=aDk h1 h ws;have hx:wt1 A x<=mx:=by
   unfold wt1;split
   .rename_i p hp;exact h p (List.mem_of_find?_eq_some hp)
   .exact h1
  show wt1 A x+wgt A ws<=_;rw[br,AO];lia
theorem T6:∀(Q:ae (ah×ae ah)),(∀q∈Q,Run M [q.1] q.2)->∃P:ae (ah×ae ah×D),P.map (λp=>(p.1,p.2.1))=Q/\(∀p∈P,Rd N M [p.1] p.2.1 [p.2.2])/\Rd N M (P.map (·.1)) (P.map (·.2.1)).flatten (P.map (·.2.2))
 |[],_=>⟨[],rfl,λp hp=>(by cases hp),.nil⟩
 |q::Q,h=>by
  obtain⟨P,h1,h2,h3⟩:=T6 Q λx hx=>h x (by simp[hx])
  obtain⟨vs,rd⟩:=aE5 (N:=N) (h q 0x2)
  match vs,rd.len,rd with
  |[v],_,rd=>
   refine⟨(q.1,q.2,v)::P,by rw[bd,h1],λp hp=>?_,rd.app h3⟩;rcases cg.mp hp with rfl|hp
   .exact rd
   .exact h2 p hp
theorem aGn{L:ae (ae α)}(h:x∈L):x.length<=L.flatten.length:=by
 induction L with
 |nil=>cases h
 |cons y L ih=>
  rw[iA,bq];rcases cg.mp h with rfl|h
  .lia
  .have:=ih h;lia
section
variable {N:ae Str} (hN:N.length=26) (hd:N.Nodup) {M:ae Rw} {T:ae Tk} {R:ae Ru} {qq:ah} (B:Tab M T R qq)
include hN hd B
theorem aGo(ht:t∈T){Qr:ae (ah×ae ah)}{mx:ah}(h0:Run M [t.2.2.1] V0)(hr:∀q∈Qr,Run M [q.1] q.2)(hk:Qr.map (·.1)=t.2.2.2)(hm1:1<=mx)(l0:V0.length<=mx)(lr:∀q∈Qr,q.2.length<=mx)(hq:qq<=1000)(hqm:qq*mx<=8000)(hmx:mx<=390) :
  ∃(r0:Rw)(W0:ae ah)(Q1:ae (ah×ae ah))(A:ae Kn)(body:ae ah),V0=r0.1::W0/\r0∈M/\(Q1.map (·.2)).flatten=W0/\(∀q∈Q1,Run M [q.1] q.2)/\Q1.length<=3/\(t.1,r0.1,okn A,body)∈R/\vls A=Q1.map (·.2)++Qr.map (·.2)/\aD7 N M A/\(∀j∈body,j<26)/\body.length<=1000/\(∀p∈A,p.2.2.1.length<=390)/\(sub A body).length<=8000/\
   ∀(R':ae Ru)(ks:ae ah)(b:ai),Tab M T R' qq->(t.1,r0.1,okn A,body)∈R'->0<=b->dU [JX N ks M T R',.tup ((t.1::(V0++(Qr.map (·.2)).flatten)).map (sy N)),.int b]=if tot (dX body A z0.call)<=b then .ok (wD N (sub A body) (dX body A z0.call)) else aPi:=by
 obtain⟨r0,W0,hr0,hk0,hV,hW⟩:∃(r0:Rw)(W0:ae ah),r0∈M/\r0.2.1=t.2.2.1/\V0=r0.1::W0/\Run M r0.2.2 W0:=by
  generalize hks:[t.2.2.1]=ks at h0;cases h0 with
  |nil=>cases hks
  |@step r rest W hr h=>
   injection hks with e1 e2
   subst e2;rw[cv] at h;exact⟨r,W,hr,e1.symm,rfl,h⟩
 obtain⟨Q1,q1,q2,q3⟩:=QJ hW;obtain⟨own,body,hru,hol,hon,hoi,hwl,hw26,hbr⟩:=B.ru t ht r0 hr0 hk0;obtain⟨P1,a1,a2,a3⟩:=T6 Q1 q3;obtain⟨P2,b1,b2,b3⟩:=T6 Qr hr;have hm:=B.mi r0 hr0;have hti:=B.ti t ht;have lQ1:Q1.length=r0.2.2.length:=by have:=cf f_ q1;rwa [az] at this
 have lP1:P1.length=Q1.length:=by have:=cf f_ a1;rwa [az] at this
 have lQr:Qr.length=t.2.2.2.length:=by have:=cf f_ hk;rwa [az] at this
 have lP2:P2.length=Qr.length:=by have:=cf f_ b1;rwa [az] at this
 have eA1:(own.zip (P1++P2)).map (·.1)=own:=by rw[List.map_fst_zip (by rw[bq];lia)]
 have eA2:(own.zip (P1++P2)).map (·.2)=P1++P2:=by rw[List.map_snd_zip (by rw[bq];lia)]
 have m1:P1.map (·.1)=r0.2.2:=by rw[<-q1,<-a1,dw];rfl
 have m2:P2.map (·.1)=t.2.2.2:=by rw[<-hk,<-b1,dw];rfl
 have w1:P1.map (·.2.1)=Q1.map (·.2):=by rw[<-a1,dw];rfl
 have w2:P2.map (·.2.1)=Qr.map (·.2):=by rw[<-b1,dw];rfl
 generalize hA:own.zip (P1++P2)=A at eA1 eA2;have KA:aD7 N M A:=by
  refine⟨by rw[eA1];exact hon,λp hp=>hoi p.1 (by rw[<-eA1];exact gl hp),λp hp=>?_,?_⟩
  .have:=gl (f:=(·.2)) hp;rw[eA2] at this;rcases eP.mp this with h|h
   .exact a2 _ h
   .exact b2 _ h
  .have:=cf f_ eA1;rw[az] at this;lia
 have vA:vls A=Q1.map (·.2)++Qr.map (·.2):=by
  have:vls A=(A.map (·.2)).map (·.2.1):=by unfold vls;rw[dw];rfl
  rw[this,eA2,cw,w1,w2]
 have lA:∀p∈A,p.2.2.1.length<=mx:=λp hp=>by
  have:p.2.2.1∈vls A:=cK.mpr ⟨p,hp,rfl⟩;rw[vA] at this;rcases eP.mp this with h|h
  .have:=aGn h;rw[q2] at this;rw[hV,br] at l0;lia
  .obtain⟨q,hq,e⟩:=cK.mp h;rw[<-e];exact lr q hq
 have wb:wgt A body<=8000:=by
  have:=aDk hm1 lA body;have h2:body.length*mx<=qq*mx:=Nat.mul_le_mul_right _ hwl;lia
 have eO:okn A=own:=eA1;have vl:A.map (λp=>p.2.2.2)=P1.map (·.2.2)++P2.map (·.2.2):=by
  have:A.map (λp=>p.2.2.2)=(A.map (·.2)).map (·.2.2):=by rw[dw];rfl
  rw[this,eA2,cw]
 have kA:kr A=(own.zip (r0.2.2++t.2.2.2)).map λp=>(p.1,p.2,[]):=by
  rw[<-hA,aHy,cw,m1,m2]
 have rdv:Rd N M (t.2.2.1::t.2.2.2) (V0++(Qr.map (·.2)).flatten) (.tup [sy N r0.1,.tup (P1.map (·.2.2)),.int (1+szs (P1.map (·.2.2)))]::P2.map (·.2.2)):=by
  have h3:=a3.app b3;rw[m1,m2,w1,w2,q2] at h3;rw[hV,<-hk0];exact .step hr0 (by rw[az];lia) h3
 refine⟨r0,W0,Q1,A,body,hV,hr0,q2,q3,by lia,by rw[eO];exact hru,vA,KA,hw26,by lia,λp hp=>by have:=lA p hp;lia,by rw[sub_len];exact wb,λR' ks b B' hm' hb=>?_⟩;have lv:(V0++(Qr.map (·.2)).flatten).length<=9000:=by
  have:∀L:ae (ah×ae ah),(∀q∈L,q.2.length<=390)->(L.map (·.2)).flatten.length<=L.length*390:=by
   intro L;induction L with
   |nil=>intro _;exact ef _
   |cons q L ih=>
    intro h;have:=ih λx hx=>h x (by simp[hx])
    have:=h q 0x2;rw[bd,iA,bq,br,AO];lia
  have:=this Qr λq hq=>by have:=lr q hq;lia
  rw[bq];lia
 obtain⟨v,rd,ok⟩:=aGc hN hd B' ht (mk:=r0.1) (body:=body) (xs:=P1.map (·.2.2)) (more:=P2.map (·.2.2)) (z:=1+szs (P1.map (·.2.2))) (A:=A) (Wv:=V0++(Qr.map (·.2)).flatten) KA hm' vl.symm (by rw[az];lia) hw26 0x1 (by rw[kA];exact hbr) 0x1 rdv lv;exact aPj hN hd B' ok rd (by rw[sub_len];lia) 0x4 hb
end
theorem aLe:aKj=bA lw0 (bA lw1 (bA lw2 (bA lw3 (bA lw4 (bA lw5 (bA lw6 (bA lw7 (bA lw8 (bA lw9 (bA aT7 (bA aT6 (bA aT4 (bA aT8 (bA aTb (bA aRo (bA aTa (bA aT5 (bA aT9 (bA aT3 aRn))))))))))))))))))):=rfl
theorem aLf(h:f ρ=.ok (.lst xs,ρ1))(hl:xs.length=is.length)(he:Q8 is xs ρ1=ρ'):aF6 f is ρ=.ok (.nx ρ'):=by
 subst he;unfold aF6;rw[h,ι];dsimp only;rw[ao (bw hl)]
theorem aUb(ns:ae ai):(ns.map θ).all isI=ag:=by
 rw[ig];intro x hx;obtain⟨i,_,rfl⟩:=cK.mp hx;rfl
theorem aPr(ns:ae ai)(r:ae D):∃cs:ae ai,lw0 (.scr (ns.map θ)::.uD::r)=.ok (.nx (.scr (ns.map θ)::.lst (dk cs 0)::r)):=by
 refine⟨cutD ns aj (aa 120),d7 ?_ (mL _ _)⟩;have h1:oY iJ g_ (gF K3) (.scr (ns.map θ)::.uD::r)=.ok (.lst ((cutD ns aj (aa 120)).map θ)):=by
  rw[<-aJb];show(if ε (ns.map θ) then τ (ψ (cutD (ns.map θ) aj (aa 120))) else .bad)=_;rw[wW];rfl
 have h2:i_ (aC (oY iJ g_ (gF K3)) (aC cT aU)) (.scr (ns.map θ)::.uD::r)=.ok (.lst [.lst ((cutD ns aj (aa 120)).map θ),.int 0]):=W5 (aD h1 rfl) (by rw[bG];simp);unfold aR3;rw[h2,ι];show(do let r <- aJj [.lst ((cutD ns aj (aa 120)).map θ),.int 0];τ (ψ r))=_;have h3:aJj [.lst ((cutD ns aj (aa 120)).map θ),.int 0]=.ok (dk (cutD ns aj (aa 120)) 0):=by
  show(if ((cutD ns aj (aa 120)).map θ).all isI&&ε [.int 0] then τ (D.scr ((cutD ns aj (aa 120)).map θ)::[.int 0]) else .bad)=_;rw[aUb];rfl
 rw[h3];rfl
theorem aLg(h:f ρ=.ok (d,ρ'))(h0:ρ.getD i .uD=.lst xs0)(h1:ρ'.getD i .uD=.lst xs)(hl:xs.length<=10000)(hp:d.pure=ag):aFv i f ρ=.ok (.nx (ρ'.set i (.lst (xs++[d])))):=by
 unfold aFv;rw[h,ι,h0];dsimp only;rw[h1];dsimp only;rw[ao (by rw[hp,bG,bw 0x1];rfl)]
theorem aPs(h:f ρ=.ok (.lst xs,ρ'))(hp:ε xs=ag):xFz f ρ=.ok (.scr xs,ρ'):=by
 unfold xFz;rw[h,ι];dsimp only;rw[ao hp]
theorem aDl(h1:ρ.getD i .uD=.cel a ys)(h2:ys[k]?=aj):forL a i t body (n+1) k ρ=.ok (.nx ρ):=by
 rw[forL,h1];dsimp only;rw[ao rfl,h2]
theorem aDm(h1:ρ.getD i .uD=.cel a ys)(h2:ys[k]?=aa x)(h3:t x ρ=.ok ρ1)(h4:body ρ1=.ok (.nx ρ2))(h5:forL a i t body n (k+1) ρ2=r):forL a i t body (n+1) k ρ=r:=by
 rw[forL,h1];dsimp only;rw[ao rfl,h2];dsimp only;rw[h3,ι,h4,ι];exact h5
theorem aLh(N:ae Str)(l:ae ah):eG .eq (.tup (l.map (sy N))) (.tup [])=.ok (.bl l.isEmpty):=by
 show(if υ 11 (l.map (sy N))&&υ 11 [] then τ (χ (zK (l.map (sy N)) [])) else .bad)=_;rw[gR,υ];cases l<;>rfl
abbrev LT(ns cs:ae ai)(N:ae Str)(m:ah)(M:ae Rw)(T:ae Tk)(l:ah->ah)(n:ah)(cell:ai)(full:aw)(t:Tk)(room size:ah)(x12 x13 x14 x15 x16 x17 x18 x19 x20 x21 x22:D):ae D:=[.scr (ns.map θ),.lst (dk cs n),.int cell,.lst ((aE 26).map (sy N)),.lst ((aE m).map (sy N)),.lst (M.map (rwD N)),.lst (T.map (tkD N)),.dct (lsD N m l),.bl full,tkD N t,.int (room:ai),.int (size:ai),x12,x13,x14,x15,x16,x17,x18,x19,x20,x21,x22]
theorem rooms(i:ai)(h0:0<=i)(h1:i<3):∃t:ah,getD (.lst [.int 7,.int 14,.int 40]) (.int i)=.ok (.int (t:ai))/\(t=7\/t=14\/t=40):=by
 have:i=0\/i=1\/i=2:=by lia
 rcases this with h|h|h<;>subst h
 .exact⟨7,rfl,.inl rfl⟩
 .exact⟨14,rfl,.inr (.inl rfl)⟩
 .exact⟨40,rfl,.inr (.inr rfl)⟩
theorem sizes(i:ai)(h0:0<=i)(h1:i<3):∃t:ah,getD (.lst [.int 1,.int 9,.int 120]) (.int i)=.ok (.int (t:ai))/\(t=1\/t=9\/t=120):=by
 have:i=0\/i=1\/i=2:=by lia
 rcases this with h|h|h<;>subst h
 .exact⟨1,rfl,.inl rfl⟩
 .exact⟨9,rfl,.inr (.inl rfl)⟩
 .exact⟨120,rfl,.inr (.inr rfl)⟩
section
variable {ns cs:ae ai} {N:ae Str} {m:ah} {M:ae Rw} {T:ae Tk} {l:ah->ah} {cell:ai} {full:aw} {t:Tk}
theorem aPt(hr:room=7\/room=14\/room=40)(hs:size=1\/size=9\/size=120):∃s:ah,s<=390/\room*max s 4<=8000/\lw8 (LT ns cs N m M T l n cell full t room size .uD .uD .uD .uD .uD .uD .uD .uD .uD .uD .uD)=.ok (.nx (LT ns cs N m M T l n cell full t room s .uD .uD .uD .uD .uD .uD .uD .uD .uD .uD .uD)):=by
 rcases hr with rfl|rfl|rfl
 .have e3:b2 (eG .eq) (b2 getD mQ kW) (iK aU) (LT ns cs N m M T l n cell full t 7 size .uD .uD .uD .uD .uD .uD .uD .uD .uD .uD .uD)=.ok (.bl t.2.2.2.isEmpty):=aH (aH rfl rfl rfl) rfl (aLh N _);rcases hs with rfl|rfl|rfl
  .exact⟨1,by decide,by decide,oJ (cJ (aH rfl rfl rfl)) (oJ (HD (cJ (aH rfl rfl rfl)) (YL (cJ (aH rfl rfl rfl)))) rfl)⟩
  .exact⟨9,by decide,by decide,oJ (cJ (aH rfl rfl rfl)) (oJ (HD (cJ (aH rfl rfl rfl)) (YL (cJ (aH rfl rfl rfl)))) rfl)⟩
  .cases he:t.2.2.2.isEmpty with
   |true=>
    rw[he] at e3;exact⟨390,by decide,by decide,oJ (cJ (aH rfl rfl rfl)) (J3 (HD (cJ (aH rfl rfl rfl)) (HD (cJ (aH rfl rfl rfl)) (cJ e3))) (cR rfl))⟩
   |false=>
    rw[he] at e3;exact⟨120,by decide,by decide,oJ (cJ (aH rfl rfl rfl)) (oJ (HD (cJ (aH rfl rfl rfl)) (HD (cJ (aH rfl rfl rfl)) (cJ e3))) rfl)⟩
 .refine⟨size,by lia,by lia,oJ (cJ (aH rfl rfl rfl)) (oJ (YL (cJ (aH rfl rfl rfl))) rfl)⟩
 .rcases hs with rfl|rfl|rfl
  .exact⟨1,by decide,by decide,J3 (cJ (aH rfl rfl rfl)) (dZ (bF (aD rfl (aD rfl rfl)) rfl) rfl)⟩
  .exact⟨9,by decide,by decide,J3 (cJ (aH rfl rfl rfl)) (dZ (bF (aD rfl (aD rfl rfl)) rfl) rfl)⟩
  .exact⟨40,by decide,by decide,J3 (cJ (aH rfl rfl rfl)) (dZ (bF (aD rfl (aD rfl rfl)) rfl) rfl)⟩
theorem aI2(hN:N.length=26)(hd:N.Nodup)(P:aHr m M l)(hs:s<=390):∀(ks:ae ah),(∀k∈ks,k<m)->∀(V:ae (ae ah))(n:ah)(c:D),n+390*ks.length<=3000->V.length+ks.length<=100->∃(Q:ae (ah×ae ah))(n':ah)(c':D),Q.map (·.1)=ks/\(∀q∈Q,Run M [q.1] q.2)/\(∀q∈Q,q.2.length<=max s 4)/\n'<=n+390*ks.length/\xV (tg1 13) vb (ks.map (sy N)) (LT ns cs N m M T l n cell full t room s (.lst (V.map (tD N))) c .uD .uD .uD .uD .uD .uD .uD .uD .uD)=.ok (.nx (LT ns cs N m M T l n' cell full t room s (.lst ((V++Q.map (·.2)).map (tD N))) c' .uD .uD .uD .uD .uD .uD .uD .uD .uD))
 |[],_,V,n,c,_,_=>⟨[],n,c,rfl,λq hq=>(by cases hq),λq hq=>(by cases hq),by lia,by rw[gi,gi,cv];rfl⟩
 |k::ks,hk,V,n,c,hn,hV=>by
  rw[br] at hn hV;obtain⟨W,n1,w1,w2,w3,w4⟩:=aG8 hN hd cs (n:=n) P (hk k 0x2) hs 0x1;obtain⟨Q,n',c',q1,q2,q3,q4,q5⟩:=aI2 hN hd P hs ks (λj hj=>hk j (by simp[hj])) (V++[W]) n1 (sy N k) 0x1 (by rw[bq,eB];lia);refine⟨(k,W)::Q,n',c',by rw[bd,q1],λq hq=>?_,λq hq=>?_,by rw[br];lia,?_⟩
  .rcases cg.mp hq with rfl|hq
   .exact w1
   .exact q2 q hq
  .rcases cg.mp hq with rfl|hq
   .exact w2
   .exact q3 q hq
  .rw[bd];refine cH rfl ?_ (q5.trans (by rw[cu];rfl));have ha:aC jY (aC oV (aC jL (aC yK (aC oR aU)))) (LT ns cs N m M T l n cell full t room s (.lst (V.map (tD N))) (sy N k) .uD .uD .uD .uD .uD .uD .uD .uD .uD)=.ok [.lst (M.map (rwD N)),sy N k,.int (s:ai),.bl full,.dct (lsD N m l)]:=aD rfl (aD rfl (aD rfl (aD rfl (aD rfl rfl))));have hx:=lN (i:=1) (h:=dk cs n) (h':=dk cs n1) (r:=.lst (W.map (sy N))) (n:=6) ha rfl rfl w4 (mL cs n1) (ρ':=LT ns cs N m M T l n1 cell full t room s (.lst (V.map (tD N))) (sy N k) .uD .uD .uD .uD .uD .uD .uD .uD .uD) rfl;refine(aLg (i:=12) (aPs hx (bO N W)) rfl (xs:=V.map (tD N)) rfl (by rw[az];lia) (T5 N W)).trans ?_;show τ (Fl.nx (LT ns cs N m M T l n1 cell full t room s (.lst (V.map (tD N)++[W].map (tD N))) (sy N k) .uD .uD .uD .uD .uD .uD .uD .uD .uD))=_;rw[<-cw]
theorem aI3{V:ae (ae ah)}:∀(j fuel:ah)(k:ah)(W:ae ah)(x:D),k+j=V.length->j<fuel->W.length+((V.drop k).flatten).length<=9000->∃x',∀a:ah,forL a 12 (tg1 18) (CN 17 (cD 18)) fuel k (LT ns cs N m M T l n cell full t room s (.cel a (V.map (tD N))) x13 x14 x15 x16 (.lst (W.map (sy N))) x .uD .uD .uD .uD)=.ok (.nx (LT ns cs N m M T l n cell full t room s (.cel a (V.map (tD N))) x13 x14 x15 x16 (.lst ((W++(V.drop k).flatten).map (sy N))) x' .uD .uD .uD .uD))
 |_,0,_,_,_,_,h,_=>aT h (Ab _)
 |0,fuel+1,k,W,x,h,_,_=>⟨x,λa=>by
   rw[ik 0x1,List.flatten_nil,cv];exact aDl rfl (by rw[ib,iu 0x1];rfl)⟩
 |j+1,fuel+1,k,W,x,h,hf,hl=>by
  have hk:k<V.length:=by lia
  rw[ii hk,iA,bq] at hl;obtain⟨x',e⟩:=aI3 (V:=V) (x13:=x13) (x14:=x14) (x15:=x15) (x16:=x16) j fuel (k+1) (W++V[k]) (tD N V[k]) 0x1 0x1 (by rw[bq];show W.length+V[k].length+(V.drop (k+1)).flatten.length<=9000;lia);refine⟨x',λa=>?_⟩;rw[ii hk,iA,<-cu];refine aDm (ρ1:=LT ns cs N m M T l n cell full t room s (.cel a (V.map (tD N))) x13 x14 x15 x16 (.lst (W.map (sy N))) (tD N V[k]) .uD .uD .uD .uD) (x:=tD N V[k]) rfl (by rw[ib,dq hk];rfl) rfl ?_ (e a);refine(WL (i:=17) (d:=tD N V[k]) (xs:=W.map (sy N)) (ys:=V[k].map (sy N)) rfl rfl rfl (by rw[az,az];lia) (bO ..)).trans ?_;rw[<-cw];rfl
end
theorem aGp{M:ae Rw}{k:ah}{V:ae ah}(h:Run M [k] V):∃r∈M,∃W,V=r.1::W:=by
 generalize hks:[k]=ks at h;cases h with
 |nil=>cases hks
 |@step r rest W hr h=>exact⟨r,hr,W,rfl⟩
section
variable {ns cs:ae ai} {N:ae Str} {m:ah} {M:ae Rw} {T:ae Tk} {l:ah->ah} {cell:ai} {full:aw} {t:Tk} {n room s:ah} {x13 x14 x15 x18 x19:D}
theorem aSd{W Wd:ae ah}(hc:c.c=1)(hW:W.length<=9000)(hg:∀y w x4 x5,cD 0 [g,w,y,.int b,x4,x5,.uD]=.ok g)(hgv:∀x22,cD 20 (LT ns cs N m M T l n cell full t room s x12 x13 x14 x15 (dL N W c.p c.d) (.lst (Wd.map (sy N))) x18 x19 g (.int z) x22)=.ok g)(h:dU [g,.tup (Wd.map (sy N)),.int (if b<0 then 400 else b)]=if tot c<=(if b<0 then 400 else b) then .ok (wD N W c) else aPi):bb (LT ns cs N m M T l n cell full t room s x12 x13 x14 x15 (dL N W c.p c.d) (.lst (Wd.map (sy N))) x18 x19 g (.int z) (.int b))=.ok (.nx (LT ns cs N m M T l n cell full t room s x12 x13 x14 x15 (dL N W c.p c.d) (.lst (Wd.map (sy N))) x18 x19 g (.int z) (.int b))):=by
 have ha:aC (cD 20) (aC (aZ fJ (aC BZ aU)) (aC K1 (aC (cD 22) aU))) (LT ns cs N m M T l n cell full t room s x12 x13 x14 x15 (dL N W c.p c.d) (.lst (Wd.map (sy N))) x18 x19 g (.int z) (.int b))=.ok [g,.tup (Wd.map (sy N)),dL N W c.p c.d,.int b]:=aD (hgv _) (aD (bF (aD rfl rfl) rfl) (aD rfl (aD rfl rfl)));exact oJ (QF (QG (bF ha (aGm hc hW (λ_ _=>hg ..) (λ_ _=>rfl) h)))) rfl
end
theorem main:∀ns:ae ai,ns.length<=63->aCh [.scr (ns.map θ)]=.ok (.bl ag):=λns _=>by
 obtain⟨cs,e0⟩:=aPr ns (cq 21 .uD);obtain⟨cell,q1⟩:=jW cs 0 0x1;obtain⟨N,hN,hd,q2⟩:=aG4 cs 1 0x1;rw[aOt N hN] at q2;obtain⟨m,M,T,l,n1,G,hn1,q3⟩:=aP5 hN hd cs 4 0x1;obtain⟨it,i1,i2⟩:=kix G.t1 (cell / 6);have ht:T[it]∈T:=xj i1;have hti:T[it]?=aa T[it]:=dq i1;generalize T[it]=t at ht hti;obtain⟨gt1,gt2,gt3,gt4⟩:=G.tg t ht;have hm3:=G.m3;have ht13:=G.ti t ht;obtain⟨room,r1,r2⟩:=rooms (cell / 18 % 3) (su _ 0x4) (sv _ 0x4);obtain⟨size,s1,s2⟩:=sizes (cell / 2 % 3) (su _ 0x4) (sv _ 0x4);obtain⟨s,s3,s4,e8⟩:=aPt (full:=cell % 2==1) (t:=t) (n:=n1) r2 s2;obtain⟨Q,n2,x13,v1,v2,v3,v4,v5⟩:=aI2 (ns:=ns) (cs:=cs) (T:=T) (cell:=cell) (full:=cell % 2==1) (t:=t) (room:=room) hN hd (W6 G) s3 (t.2.2.1::t.2.2.2) (λk hk=>by
  rcases cg.mp hk with rfl|hk
  .exact gt2
  .exact gt3 k hk) [] n1 .uD (by rw[br];lia) (by rw[br,fj];lia)
 rw[br] at v4
 match Q,v1,v2,v3,v5 with
 | (k0,V0)::Qr,v1,v2,v3,v5=>
  rw[bd] at v1;injection v1 with v1 v6
  have v1:k0=t.2.2.1:=v1;subst v1;have h0:Run M [t.2.2.1] V0:=v2 _ (de ..);obtain⟨ra,hra,Wa,eVa⟩:=aGp h0;have hqq:7<=room/\room<=40:=by lia
  obtain⟨R,n3,B,q11⟩:=aGh (cs:=cs) hN hd G (qq:=room) (ct:=t.1) (cr:=ra.1) hqq.1 hqq.2 0x1 (by have:=G.mi ra hra;lia) (n:=n2) 0x1;obtain⟨r0,W0,Q1,A,body,c1,c2,c3,c4,c5,c6,c7,KA,c8,c9,c10,c11,c12⟩:=aGo hN hd B ht h0 (λq hq=>v2 q (by simp[hq])) v6 (mx:=max s 4) 0x1 (v3 (t.2.2.1,V0) (de ..)) (λq hq=>v3 q (by simp[hq])) 0x1 s4 0x1;have era:ra.1=r0.1:=by rw[eVa] at c1;injection c1
  rw[era] at q11;obtain⟨a,a1,a2⟩:=kix (m:=R.length) (AI.mpr (Dz c6)) (cell / 54);obtain⟨B',hB'⟩:=B.turn a;generalize hδ:dX body A z0.call=δ at c12;have hδc:δ.c=1:=by rw[<-hδ,aPp];rfl
  have hW:∀b:ai,dU [JX N (aE m) M T (R.drop a++R.take a),.tup ((t.1::(V0++(Qr.map (·.2)).flatten)).map (sy N)),.int (if b<0 then 400 else b)]=if tot δ<=(if b<0 then 400 else b) then .ok (wD N (sub A body) δ) else aPi:=λb=>c12 _ _ _ B' (hB' _ c6) (by split<;>lia)
  have l0:=v3 (t.2.2.1,V0) (de ..);have l0:V0.length<=max s 4:=l0;have lQr:Qr.length<=2:=by have:=cf f_ v6;rw[az] at this;lia
  have lF:((V0::Qr.map (·.2)).flatten).length<=1200:=by
   have:∀L:ae (ah×ae ah),(∀q∈L,q.2.length<=390)->(L.map (·.2)).flatten.length<=L.length*390:=by
    intro L;induction L with
    |nil=>intro _;exact ef _
    |cons q L ih=>
     intro h;have:=ih λx hx=>h x (by simp[hx])
     have:=h q 0x2;rw[bd,iA,bq,br,AO];lia
   have:=this Qr λq hq=>by have:=v3 q (by simp[hq]);lia
   rw[iA,bq];lia
  rw[fq] at v5;refine call_v ?_;show aKj (.scr (ns.map θ)::.uD::cq 21 .uD)=_;rw[aLe];refine aN e0 ?_;refine aN (ρ':=[.scr (ns.map θ),.lst (dk cs 1),.int cell,.uD,.uD,.uD,.uD,.uD,.uD,.uD,.uD,.uD,.uD,.uD,.uD,.uD,.uD,.uD,.uD,.uD,.uD,.uD,.uD]) (jA (i:=2) (BW q1 rfl rfl) rfl) ?_;refine aN (ρ':=[.scr (ns.map θ),.lst (dk cs 4),.int cell,.lst ((aE 26).map (sy N)),.uD,.uD,.uD,.uD,.uD,.uD,.uD,.uD,.uD,.uD,.uD,.uD,.uD,.uD,.uD,.uD,.uD,.uD,.uD]) (jA (i:=3) (lN (fs:=aU) (i:=1) (rest:=[]) rfl rfl rfl q2 (mL ..) rfl) rfl) ?_;refine aN (ρ':=[.scr (ns.map θ),.lst (dk cs n1),.int cell,.lst ((aE 26).map (sy N)),.lst ((aE m).map (sy N)),.lst (M.map (rwD N)),.lst (T.map (tkD N)),.dct (lsD N m l),.uD,.uD,.uD,.uD,.uD,.uD,.uD,.uD,.uD,.uD,.uD,.uD,.uD,.uD,.uD]) (aLf (lN (i:=1) (fs:=aC eF aU) (rest:=[.lst ((aE 26).map (sy N))]) (aD rfl rfl) rfl rfl q3 (mL ..) rfl) rfl rfl) ?_;refine aN (ρ':=[.scr (ns.map θ),.lst (dk cs n1),.int cell,.lst ((aE 26).map (sy N)),.lst ((aE m).map (sy N)),.lst (M.map (rwD N)),.lst (T.map (tkD N)),.dct (lsD N m l),.bl (cell % 2==1),.uD,.uD,.uD,.uD,.uD,.uD,.uD,.uD,.uD,.uD,.uD,.uD,.uD,.uD]) (cR (i:=8) (aH (aH (x:=.int cell) rfl rfl (b_ _ _ 0x4)) rfl (mK _ _))) ?_;refine aN (ρ':=[.scr (ns.map θ),.lst (dk cs n1),.int cell,.lst ((aE 26).map (sy N)),.lst ((aE m).map (sy N)),.lst (M.map (rwD N)),.lst (T.map (tkD N)),.dct (lsD N m l),.bl (cell % 2==1),tkD N t,.uD,.uD,.uD,.uD,.uD,.uD,.uD,.uD,.uD,.uD,.uD,.uD,.uD]) (dZ (i:=9) (aH (x:=.lst (T.map (tkD N))) rfl (aH (aH (x:=.int cell) rfl rfl (dM _ _ 0x4 0x4)) (y:=.int (T.length:ai)) (bF (xs:=[.lst (T.map (tkD N))]) (aD rfl rfl) (by show τ (θ ((T.map (tkD N)).length:ai))=_;rw[az])) (b_ _ _ 0x1)) (fO i2 hti)) (xP ..)) ?_;refine aN (ρ':=[.scr (ns.map θ),.lst (dk cs n1),.int cell,.lst ((aE 26).map (sy N)),.lst ((aE m).map (sy N)),.lst (M.map (rwD N)),.lst (T.map (tkD N)),.dct (lsD N m l),.bl (cell % 2==1),tkD N t,.int (room:ai),.uD,.uD,.uD,.uD,.uD,.uD,.uD,.uD,.uD,.uD,.uD,.uD]) (dZ (i:=10) (aH (x:=.lst [.int 7,.int 14,.int 40]) rfl (aH (aH (x:=.int cell) rfl rfl (dM _ _ 0x4 0x4)) rfl (b_ _ _ 0x4)) r1) rfl) ?_
  refine aN (ρ':=[.scr (ns.map θ),.lst (dk cs n1),.int cell,.lst ((aE 26).map (sy N)),.lst ((aE m).map (sy N)),.lst (M.map (rwD N)),.lst (T.map (tkD N)),.dct (lsD N m l),.bl (cell % 2==1),tkD N t,.int (room:ai),.int (size:ai),.uD,.uD,.uD,.uD,.uD,.uD,.uD,.uD,.uD,.uD,.uD]) (dZ (i:=11) (aH (x:=.lst [.int 1,.int 9,.int 120]) rfl (aH (aH (x:=.int cell) rfl rfl (dM _ _ 0x4 0x4)) rfl (b_ _ _ 0x4)) s1) rfl) ?_;refine aN e8 ?_;refine aN (ρ':=(LT ns cs N m M T l n1 cell (cell % 2==1) t room s (.lst (([]:ae (ae ah)).map (tD N))) .uD .uD .uD .uD .uD .uD .uD .uD .uD .uD)) (d7 (i:=12) rfl rfl) ?_;refine aN (ρ':=(LT ns cs N m M T l n2 cell (cell % 2==1) t room s (.lst ((V0::Qr.map (λq:ah×ae ah=>q.2)).map (tD N))) x13 .uD .uD .uD .uD .uD .uD .uD .uD .uD)) (oK (xs:=(t.2.2.1::t.2.2.2).map (sy N)) ((gB (xs:=(t.2.2.1::t.2.2.2).map (sy N)) (aH (x:=.tup [sy N t.2.2.1]) (y:=.tup (t.2.2.2.map (sy N))) rfl (aH rfl rfl rfl) (aDc _ _ (by rw[az];show 1+_<=_;lia)))).trans (by rw[bO];rfl)) v5) ?_;have h00:∀ρ:ae D,cD 12 ρ=.ok (.lst ((V0::Qr.map (λq:ah×ae ah=>q.2)).map (tD N)))->b2 getD (b2 getD kE cT) cT ρ=.ok (sy N r0.1):=λρ h=>aH (x:=tD N V0) (aH (x:=(.lst ((V0::Qr.map (λq:ah×ae ah=>q.2)).map (tD N)))) h rfl (fO (f:=tD N) (l:=V0::Qr.map (λq:ah×ae ah=>q.2)) (i:=0) rfl rfl)) rfl (fO (f:=sy N) (l:=V0) (i:=0) rfl (by rw[c1];rfl))
  have ha11:aC jY (aC t_ (aC eF (aC (bPu (iK (aC (b2 getD mQ cT) (aC (b2 getD (b2 getD kE cT) cT) (aC oU aU))))) (aC oR aU)))) (LT ns cs N m M T l n2 cell (cell % 2==1) t room s (.lst ((V0::Qr.map (λq:ah×ae ah=>q.2)).map (tD N))) x13 .uD .uD .uD .uD .uD .uD .uD .uD .uD)=.ok [.lst (M.map (rwD N)),.lst (T.map (tkD N)),.lst ((aE 26).map (sy N)),.tup [sy N t.1,sy N r0.1,.int (room:ai)],.dct (lsD N m l)]:=aD rfl (aD rfl (aD rfl (aD (PP (eE (aD (x_ (i:=9) (t:=t) rfl).1 (aD (h00 _ rfl) (aD rfl rfl))) (by rw[bG];show 3<=1000000;decide)) rfl) (aD rfl rfl))));refine aN (ρ':=(LT ns cs N m M T l n3 cell (cell % 2==1) t room s (.lst ((V0::Qr.map (λq:ah×ae ah=>q.2)).map (tD N))) x13 (.lst (R.map (ruD N))) .uD .uD .uD .uD .uD .uD .uD .uD)) (jA (i:=14) (lN (i:=1) (h:=dk cs n2) (h':=dk cs n3) (r:=.lst (R.map (ruD N))) ha11 rfl rfl q11 (mL ..) rfl) rfl) ?_;have h12:dB 23 (bH jM ak) lO (bTB (b2 (eG .eq) (iK (aC (b2 getD zL cT) (aC (b2 getD zL dR) aU))) (iK (aC (b2 getD mQ cT) (aC (b2 getD (b2 getD kE cT) cT) aU))))) zL ak (LT ns cs N m M T l n3 cell (cell % 2==1) t room s (.lst ((V0::Qr.map (λq:ah×ae ah=>q.2)).map (tD N))) x13 (.lst (R.map (ruD N))) .uD .uD .uD .uD .uD .uD .uD .uD)=.ok (.lst [(ruD N (t.1,r0.1,okn A,body))]):=by
   have:=xN (n:=23) (it:=bH jM ak) (c:=bTB (b2 (eG .eq) (iK (aC (b2 getD zL cT) (aC (b2 getD zL dR) aU))) (iK (aC (b2 getD mQ cT) (aC (b2 getD (b2 getD kE cT) cT) aU))))) (f:=cD 23) (k:=ak) (kk:=ak) (ρ:=(LT ns cs N m M T l n3 cell (cell % 2==1) t room s (.lst ((V0::Qr.map (λq:ah×ae ah=>q.2)).map (tD N))) x13 (.lst (R.map (ruD N))) .uD .uD .uD .uD .uD .uD .uD .uD)) (ruD N) (ruD N) (λu=>ϒ ((u.1,u.2.1)=(t.1,r0.1))) R rfl (fC rfl) (by have:=B.hR.ln;lia) (λu hu=>?_) λu hu _=>⟨rfl,iD ..⟩
   .rw[ZM B.hR.nd c6] at this;exact this
   .have hl:=B.hR.lt u hu;have hm0:=G.mi r0 c2;exact cJ (aH (x:=.tup [sy N u.1,sy N u.2.1]) (y:=.tup [sy N t.1,sy N r0.1]) (eE (aD (aH (x:=ruD N u) rfl rfl rfl) (aD (aH (x:=ruD N u) rfl rfl rfl) rfl)) (by rw[bG];show 2<=1000000;decide)) (eE (aD (x_ (i:=9) (t:=t) rfl).1 (aD (h00 _ rfl) rfl)) (by rw[bG];show 2<=1000000;decide)) (W7 hN hd hl.1 hl.2 0x1 0x1))
  have h15:b2 getD (dB 23 (bH jM ak) lO (bTB (b2 (eG .eq) (iK (aC (b2 getD zL cT) (aC (b2 getD zL dR) aU))) (iK (aC (b2 getD mQ cT) (aC (b2 getD (b2 getD kE cT) cT) aU))))) zL ak) cT (LT ns cs N m M T l n3 cell (cell % 2==1) t room s (.lst ((V0::Qr.map (λq:ah×ae ah=>q.2)).map (tD N))) x13 (.lst (R.map (ruD N))) .uD .uD .uD .uD .uD .uD .uD .uD)=.ok (ruD N (t.1,r0.1,okn A,body)):=aH (y:=.int 0) h12 rfl rfl;refine aN (ρ':=(LT ns cs N m M T l n3 cell (cell % 2==1) t room s (.lst ((V0::Qr.map (λq:ah×ae ah=>q.2)).map (tD N))) x13 (.lst (R.map (ruD N))) (ruD N (t.1,r0.1,okn A,body)) .uD .uD .uD .uD .uD .uD .uD)) (dZ (i:=15) h15 (iD ..)) ?_;have h13:b2 (bJ .add) (aZ (sG 2 gM) (aC (b2 getD kE cT) (aC jY aU))) (oY kE (gF dR) g_) (LT ns cs N m M T l n3 cell (cell % 2==1) t room s (.lst ((V0::Qr.map (λq:ah×ae ah=>q.2)).map (tD N))) x13 (.lst (R.map (ruD N))) (ruD N (t.1,r0.1,okn A,body)) .uD .uD .uD .uD .uD .uD .uD)=.ok (.lst ((vls A).map (tD N))):=by
   rw[c7,cw];refine aH (x:=.lst ((Q1.map (·.2)).map (tD N))) (y:=.lst ((Qr.map (λq:ah×ae ah=>q.2)).map (tD N))) (bF (xs:=[tD N V0,.lst (M.map (rwD N))]) (aD (aH (x:=(.lst ((V0::Qr.map (λq:ah×ae ah=>q.2)).map (tD N)))) rfl rfl (fO (f:=tD N) (l:=V0::Qr.map (λq:ah×ae ah=>q.2)) (i:=0) rfl rfl)) (aD rfl rfl)) ?_) ?_ (HF _ _ (by rw[az,az,az,az,bG];lia) (JZ N _) (JZ N _))
   .rw[c1,<-c3];exact aDh hN hd B.hM c4 0x1 (by rw[c3];rw[c1,br] at l0;lia)
   .exact(sE (xs:=(V0::Qr.map (λq:ah×ae ah=>q.2)).map (tD N)) rfl (kO rfl) rfl (JZ N _)).trans (by rw[show(1:ai)=((1:ah):ai) from rfl,yS];rfl)
  have h16:sG 2 lL [(ruD N (t.1,r0.1,okn A,body)),.lst ((vls A).map (tD N))]=.ok (dL N (sub A body) δ.p δ.d):=by
   have:=aSc hN hd KA (t:=t.1) (mk:=r0.1) c8 c9 (λp hp=>by have:=c10 p hp;lia) 0x1;rw[hδ] at this;exact this
  refine aN (ρ':=(LT ns cs N m M T l n3 cell (cell % 2==1) t room s (.lst ((V0::Qr.map (λq:ah×ae ah=>q.2)).map (tD N))) x13 (.lst (R.map (ruD N))) (ruD N (t.1,r0.1,okn A,body)) (dL N (sub A body) δ.p δ.d) .uD .uD .uD .uD .uD .uD)) (cR (i:=16) (bF (xs:=[(ruD N (t.1,r0.1,okn A,body)),.lst ((vls A).map (tD N))]) (aD rfl (aD h13 rfl)) h16)) ?_;refine aN (ρ':=(LT ns cs N m M T l n3 cell (cell % 2==1) t room s (.lst ((V0::Qr.map (λq:ah×ae ah=>q.2)).map (tD N))) x13 (.lst (R.map (ruD N))) (ruD N (t.1,r0.1,okn A,body)) (dL N (sub A body) δ.p δ.d) (.lst ([t.1].map (sy N))) .uD .uD .uD .uD .uD)) (d7 (i:=17) (W5 (xs:=[sy N t.1]) (aD (PP (x_ (i:=9) (t:=t) rfl).1 rfl) rfl) (by rw[bG];show 1<=1000000;decide)) rfl) ?_;obtain⟨x18,e15⟩:∃x18,aRo (LT ns cs N m M T l n3 cell (cell % 2==1) t room s (.lst ((V0::Qr.map (λq:ah×ae ah=>q.2)).map (tD N))) x13 (.lst (R.map (ruD N))) (ruD N (t.1,r0.1,okn A,body)) (dL N (sub A body) δ.p δ.d) (.lst ([t.1].map (sy N))) .uD .uD .uD .uD .uD)=.ok (.nx (LT ns cs N m M T l n3 cell (cell % 2==1) t room s (.lst ((V0::Qr.map (λq:ah×ae ah=>q.2)).map (tD N))) x13 (.lst (R.map (ruD N))) (ruD N (t.1,r0.1,okn A,body)) (dL N (sub A body) δ.p δ.d) (.lst ((t.1::(V0++(Qr.map (λq:ah×ae ah=>q.2)).flatten)).map (sy N))) x18 .uD .uD .uD .uD)):=by
   obtain⟨x',e⟩:=aI3 (ns:=ns) (cs:=cs) (N:=N) (m:=m) (M:=M) (T:=T) (l:=l) (cell:=cell) (full:=cell % 2==1) (t:=t) (n:=n3) (room:=room) (s:=s) (V:=V0::Qr.map (λq:ah×ae ah=>q.2)) (x13:=x13) (x14:=(.lst (R.map (ruD N)))) (x15:=(ruD N (t.1,r0.1,okn A,body))) (x16:=(dL N (sub A body) δ.p δ.d)) (V0::Qr.map (λq:ah×ae ah=>q.2)).length 10000 0 [t.1] .uD 0x1 (by rw[br,az];lia) (by rw[sg,eB];lia);exact⟨x',aJo (i:=12) (xs:=(V0::Qr.map (λq:ah×ae ah=>q.2)).map (tD N)) (xs':=(V0::Qr.map (λq:ah×ae ah=>q.2)).map (tD N)) (ρ':=(LT ns cs N m M T l n3 cell (cell % 2==1) t room s (.lst ((V0::Qr.map (λq:ah×ae ah=>q.2)).map (tD N))) x13 (.lst (R.map (ruD N))) (ruD N (t.1,r0.1,okn A,body)) (dL N (sub A body) δ.p δ.d) (.lst ((t.1::(V0++(Qr.map (λq:ah×ae ah=>q.2)).flatten)).map (sy N))) x' .uD .uD .uD .uD)) rfl (by show 12<23;decide) e⟩
  refine aN e15 ?_;refine aN (ρ':=(LT ns cs N m M T l n3 cell (cell % 2==1) t room s (.lst ((V0::Qr.map (λq:ah×ae ah=>q.2)).map (tD N))) x13 (.lst (R.map (ruD N))) (ruD N (t.1,r0.1,okn A,body)) (dL N (sub A body) δ.p δ.d) (.lst ((t.1::(V0++(Qr.map (λq:ah×ae ah=>q.2)).flatten)).map (sy N))) x18 (.int (a:ai)) .uD .uD .uD)) (cR (i:=19) (aH (aH (x:=.int cell) rfl rfl (dM _ _ 0x4 0x4)) (y:=.int (R.length:ai)) (bF (xs:=[(.lst (R.map (ruD N)))]) (aD rfl rfl) (by show τ (θ ((R.map (ruD N)).length:ai))=_;rw[az])) ((b_ _ _ 0x1).trans (by rw[a2])))) ?_;have h17:b2 (bJ .add) (oY jM (gF (cD 19)) g_) (oY jM g_ (gF (cD 19))) (LT ns cs N m M T l n3 cell (cell % 2==1) t room s (.lst ((V0::Qr.map (λq:ah×ae ah=>q.2)).map (tD N))) x13 (.lst (R.map (ruD N))) (ruD N (t.1,r0.1,okn A,body)) (dL N (sub A body) δ.p δ.d) (.lst ((t.1::(V0++(Qr.map (λq:ah×ae ah=>q.2)).flatten)).map (sy N))) x18 (.int (a:ai)) .uD .uD .uD)=.ok (.lst ((R.drop a++R.take a).map (ruD N))):=by
   rw[cw];refine aH (x:=.lst ((R.drop a).map (ruD N))) (y:=.lst ((R.take a).map (ruD N))) ?_ ?_ (HF _ _ ?_ (bQ (iD N) _) (bQ (iD N) _))
   .rw[zv,<-yS];exact sE rfl (kO rfl) rfl (bQ (iD N) _)
   .rw[wz,<-aCu];exact sE rfl rfl (kO rfl) (bQ (iD N) _)
   .have:=B.hR.ln;rw[az,az,mq,jg,bG];lia
  refine aN (ρ':=(LT ns cs N m M T l n3 cell (cell % 2==1) t room s (.lst ((V0::Qr.map (λq:ah×ae ah=>q.2)).map (tD N))) x13 (.lst (R.map (ruD N))) (ruD N (t.1,r0.1,okn A,body)) (dL N (sub A body) δ.p δ.d) (.lst ((t.1::(V0++(Qr.map (λq:ah×ae ah=>q.2)).flatten)).map (sy N))) x18 (.int (a:ai)) (JX N (aE m) M T (R.drop a++R.take a)) .uD .uD)) (dZ (i:=20) (eE (aD (bF (aD rfl rfl) rfl) (aD (bF (aD rfl rfl) rfl) (aD (bF (aD rfl rfl) rfl) (aD (bF (aD h17 rfl) rfl) rfl)))) (by rw[bG];show 4<=1000000;decide)) (aGd ..)) ?_;refine aN (ρ':=(LT ns cs N m M T l n3 cell (cell % 2==1) t room s (.lst ((V0::Qr.map (λq:ah×ae ah=>q.2)).map (tD N))) x13 (.lst (R.map (ruD N))) (ruD N (t.1,r0.1,okn A,body)) (dL N (sub A body) δ.p δ.d) (.lst ((t.1::(V0++(Qr.map (λq:ah×ae ah=>q.2)).flatten)).map (sy N))) x18 (.int (a:ai)) (JX N (aE m) M T (R.drop a++R.take a)) (.int (tot δ)) .uD)) (cR (i:=21) ?_) ?_
  .show _=τ (θ (δ.c+δ.p+δ.d));rw[hδc];exact aH (aH (aH rfl rfl rfl) (aH rfl rfl rfl) (cY _ _)) (aH rfl rfl rfl) (cY _ _)
  have hb:∀b:ai,bb (LT ns cs N m M T l n3 cell (cell % 2==1) t room s (.lst ((V0::Qr.map (λq:ah×ae ah=>q.2)).map (tD N))) x13 (.lst (R.map (ruD N))) (ruD N (t.1,r0.1,okn A,body)) (dL N (sub A body) δ.p δ.d) (.lst ((t.1::(V0++(Qr.map (λq:ah×ae ah=>q.2)).flatten)).map (sy N))) x18 (.int (a:ai)) (JX N (aE m) M T (R.drop a++R.take a)) (.int (tot δ)) (.int b))=.ok (.nx (LT ns cs N m M T l n3 cell (cell % 2==1) t room s (.lst ((V0::Qr.map (λq:ah×ae ah=>q.2)).map (tD N))) x13 (.lst (R.map (ruD N))) (ruD N (t.1,r0.1,okn A,body)) (dL N (sub A body) δ.p δ.d) (.lst ((t.1::(V0++(Qr.map (λq:ah×ae ah=>q.2)).flatten)).map (sy N))) x18 (.int (a:ai)) (JX N (aE m) M T (R.drop a++R.take a)) (.int (tot δ)) (.int b))):=λb=>aSd hδc 0x1 (λ_ _ _ _=>rfl) (λ_=>rfl) (hW b)
  refine aN (ρ':=(LT ns cs N m M T l n3 cell (cell % 2==1) t room s (.lst ((V0::Qr.map (λq:ah×ae ah=>q.2)).map (tD N))) x13 (.lst (R.map (ruD N))) (ruD N (t.1,r0.1,okn A,body)) (dL N (sub A body) δ.p δ.d) (.lst ((t.1::(V0++(Qr.map (λq:ah×ae ah=>q.2)).flatten)).map (sy N))) x18 (.int (a:ai)) (JX N (aE m) M T (R.drop a++R.take a)) (.int (tot δ)) (.int (tot δ+cell / 54 % 100)))) (oK (xs:=[.int (tot δ),.int (tot δ-1),.int (-1),.int (tot δ+cell / 54 % 100)]) ?_ ?_) (zV rfl rfl)
  .refine fC (W5 (aD (PP rfl rfl) (aD (aH rfl rfl (xY _ _)) (aD rfl (aD (aH (x:=.int (tot δ)) rfl (aH (aH (x:=.int cell) rfl rfl (dM _ _ 0x4 0x4)) rfl (b_ _ _ 0x4)) (cY _ _)) rfl)))) (by rw[bG];show 4<=1000000;decide))
  .exact cH (ρ1:=(LT ns cs N m M T l n3 cell (cell % 2==1) t room s (.lst ((V0::Qr.map (λq:ah×ae ah=>q.2)).map (tD N))) x13 (.lst (R.map (ruD N))) (ruD N (t.1,r0.1,okn A,body)) (dL N (sub A body) δ.p δ.d) (.lst ((t.1::(V0++(Qr.map (λq:ah×ae ah=>q.2)).flatten)).map (sy N))) x18 (.int (a:ai)) (JX N (aE m) M T (R.drop a++R.take a)) (.int (tot δ)) (.int (tot δ)))) rfl (hb _) (cH (ρ1:=(LT ns cs N m M T l n3 cell (cell % 2==1) t room s (.lst ((V0::Qr.map (λq:ah×ae ah=>q.2)).map (tD N))) x13 (.lst (R.map (ruD N))) (ruD N (t.1,r0.1,okn A,body)) (dL N (sub A body) δ.p δ.d) (.lst ((t.1::(V0++(Qr.map (λq:ah×ae ah=>q.2)).flatten)).map (sy N))) x18 (.int (a:ai)) (JX N (aE m) M T (R.drop a++R.take a)) (.int (tot δ)) (.int (tot δ-1)))) rfl (hb _) (cH (ρ1:=(LT ns cs N m M T l n3 cell (cell % 2==1) t room s (.lst ((V0::Qr.map (λq:ah×ae ah=>q.2)).map (tD N))) x13 (.lst (R.map (ruD N))) (ruD N (t.1,r0.1,okn A,body)) (dL N (sub A body) δ.p δ.d) (.lst ((t.1::(V0++(Qr.map (λq:ah×ae ah=>q.2)).flatten)).map (sy N))) x18 (.int (a:ai)) (JX N (aE m) M T (R.drop a++R.take a)) (.int (tot δ)) (.int (-1)))) rfl (hb _) (cH (ρ1:=(LT ns cs N m M T l n3 cell (cell % 2==1) t room s (.lst ((V0::Qr.map (λq:ah×ae ah=>q.2)).map (tD N))) x13 (.lst (R.map (ruD N))) (ruD N (t.1,r0.1,okn A,body)) (dL N (sub A body) δ.p δ.d) (.lst ((t.1::(V0++(Qr.map (λq:ah×ae ah=>q.2)).flatten)).map (sy N))) x18 (.int (a:ai)) (JX N (aE m) M T (R.drop a++R.take a)) (.int (tot δ)) (.int (tot δ+cell / 54 % 100)))) rfl (hb _) rfl)))
end Lk53
section
open PySem PySem.W PyProof.Rows
structure PySem.W.Fast:Prop where(tw6430818069997999486 tw11615507259529529743 tw7916752842217450629 tw16981571207370291011 tw18426849210117029540 tw15613553870728568245 tw9332207528274692201 tw12639155151086185472 tw12278635283569000337 tw10057532654290765482 tw5256991273232016599 tw7470527046555581057 tw14222857667173879334 tw10591102372122338071 tw11229988944311890933 tw8787157104328112991 tw5926373644942416886 tw5335534971125240623 tw10329657629663454118 tw14061138766696233635 tw6036208894846932051 tw7494894289234417953 tw2697624029561192632 tw17402215678152312593 tw11716903205352044323 tw9985295200377534945 tw17701546459372188279 tw14757760912310115372 tw4716611201418116654 tw12780041220857702281 tw5165845773371113531 tw14516306667254232787 tw14773469179522440869 tw11609338744116854769 tw4594092423212085027 tw12060419576010892381 tw9101186658174283869 tw12632800545379765885 tw17971066281976895092 tw12058010183263342000 tw1991328878380784709 tw1860547325660415742 tw11835773270204259144 tw17925515675579378970 tw10559487634924111170 tw7720694795273896368 tw8725121160903648037 tw10652678936430819584 tw8343746021560033265 tw5443718133271753626 tw11694453315330456737 tw12771423115225152017 tw16410882297030318709 tw3701851480334174478 tw15190783512763079198 tw17243868798501486229 tw8310102042656585933 tw4354874382990060737 tw14718656176821819908 tw13601910489297722358 tw6028859828954632644 tw5992431531799775975 tw6999601433502875780 tw2704163903702670903 tw14147680512561995250 tw13698052143951091351 tw8383214119997886664 tw3377975109961498359 tw3853788350206315690 tw13742795858569461385 tw2899849335542371144 tw2011852344234921493 tw2981418740483890398 tw6627028144166489296 tw3740534270100635250 tw423867233545271477 tw8642909314904733278 tw3497521930365239425 tw5965917981314494744 tw4240710852440214259 tw13363046686029071838 tw7267123943791633657 tw2372937012835152649 tw13801034399665223928 tw10393197007750350298 tw7452995419604533236 tw537424574819131879 tw15956957287528371108 tw2831276233033603688 tw11050127928644479856 tw17786715631760758558 tw1106671751099131719 tw5842344844017266542 tw14487838382555578713 tw16074147029628696904 tw13620660198094951300 tw14226634393148440330 tw1665880633588561009 tw5334958565311923621 tw9582709468224363538 tw10370764482167273538 tw8257505811287827006 tw13194700401525312250 tw1158391136889278152 tw3547548683056046912 tw17394162280528402416 tw18307993599580169023 tw3059887608134305834 tw1366157483467063754 tw17597835134779181124 tw3613745009045353840 tw9498450971119831622 tw925119036937586270 tw16373917477560953723 tw6260156335583509856 tw15106265518513951674 tw7634851807652373119 tw6817220237370038859 tw9463811748037037144 tw17728705873165576337 tw1638891992799080182 tw2110047603181930496 tw8606504204795911044 tw6420079698133051888 tw2786794577142073637 tw4562818945628020194 tw4213381674503535797 tw465932479050911424 tw9100203032067243664 tw5771833826515450041 tw8335442346100604225 tw4148134484827370740 tw16379796783387567696 tw5935504365019718544 tw7197077488559578062 tw144346295358491371 tw10798158656803536357 tw13509409096430188583 tw9951716140830559213 tw12849200161200623694 tw2923625021571423683 tw15177071054942177668 tw17423722389439384987 tw15009110729955260649 tw1707556700325220444 tw16440869920592496710 tw15413318592404709617 tw3214370197362367065 tw14680539467438178286 tw16036171134153402581 tw1104234713944916874 tw3358109811423087298 tw11669704027412175378 tw10606409585036285893 tw12317041339212807680 tw1959238439029191023 tw1637990334671152222 tw626796943375496878 tw11511963961850413788 tw3196533489865535376 tw9611086938089625719 tw10885163356318022568 tw14029710844214902311 tw18191575024716945824 tw5464769971359677039 tw12003329342823162407 tw4330127501224096494 tw3958927568144110152 tw14855744538252614289 tw1837444141702630508 tw11844043603681351265 tw6453290180470186915 tw7898255313159245763 tw4088090937739705315 tw478993566455978901 tw17200331324895016798 tw3694791631570111134 tw6428435715360744895 tw13440590466251394616 tw475502668096861185 tw815650167210336170 tw12222721718158525327 tw4198851185885053761 tw16125122827936400507 tw12963375265608061257 tw15379427521400319071 tw5410277647805618877 tw1052634379936699494 tw11916737459731989087 tw13380786097604005202 tw17141508838453767600 tw548768281597770417 tw16687649991612234490 tw14264893545172649757 tw15508097045158937672 tw4005925200521779592 tw2674985464918910402 tw14476006410076705490 tw8626533585120516843 tw18254514860421830361 tw6826376329707103472 tw3281088889682174649 tw11148568545568616950 tw13983034015685312580 tw8296524594973899154 tw1404490850004811873 tw17331772923707361780 tw16804381097041977682 tw14488345832120421816 tw1752309650940763581 tw10789518248055916251 tw13677009979289678739 tw17208169245191676055 tw6941342997322840849 tw9707591870050148220 tw3638227230477220491 tw371141659433777655 tw3702733566254489745 tw17281440919966790347 tw17363569298721056995 tw17539479706064602659 tw4620469515817463428 tw8038768752207207477 tw5769320632040690101:True)
set_option maxRecDepth 100000 in
set_option maxHeartbeats 0 in
theorem PySem.Challenge.cw_hookmill_k53_one_call_holds : PySem.Challenge.rw_hookmill_k53_one_call.Holds := by
 w_on;o_law;k_head;(case hw=>w_witness2)
 k_fill
 refine Lk53.walk (l:=PySem.Challenge.rw_hookmill_k53_one_call) Lk53.main rfl rfl (fun w h Y=>PySem.W.kIn_of Y) ?F
 case F=>
  intro w mg fa h KX G hmg
  refine' Lk53.aOo KX G hmg ?a0 ?a1 ?a2 ?l2 ?c2 ?k2 ?t2 ?a3 ?a4 ?a5 ?a6 ?a7 ?a8 ?a9 ?a10 ?a11 ?a12 ?a13 ?a14 ?l14 ?c14 ?k14 ?qD ?qE ?qF ?qG ?qH ?qI ?qJ ?qK ?qL ?qM ?qN ?qO ?qP ?qQ ?qR ?qS ?qT ?qU ?qV ?qW ?qX ?qY ?qZ ?rg ?rh ?rj ?rq ?rA ?rB ?rC ?rD ?rE ?rF ?ph ?rG ?rH ?rJ ?rK ?rL ?rM ?rO ?rP ?rQ ?rR ?rS ?rT ?rV ?kn_Spent ?rW ?rX ?pi ?p8 ?pg_Frame ?rY ?po_Frame ?rZ ?mk_Frame ?t6 ?t7 ?pR ?pS ?pT ?t8 ?pU ?pF ?pG ?pg_PlainRun ?t9 ?po_PlainRun ?tf ?mk_PlainRun ?tj ?tm ?pV ?pW ?pX ?tq ?pY ?pZ ?qa ?pH ?pA ?pj ?pq ?tu ?qb ?qc ?pI ?iZ ?pJ ?pB ?pC ?pz ?fW ?tw ?qd ?qe ?pK ?nR ?tE ?qf ?qg ?pL ?gP ?tF
  (case a0|a1|a3|a4|a5|a6|a7|a8|a9|a10|a11|a12|a13=>refine' Lk53.aRs ?a ?b ?c ?d;(case a=>k_is);(case b=>k_is);(case c=>k_is);case d=>k_is)
  (case a2|l2|c2|k2|t2|a14|l14|c14|k14|qD|qE|qF|qG|qH|qI|qJ|qK|qL|qM|qN|qO|qP|qQ|qR|qS|qT|qU|qV|qW|qX|qY|qZ|rg|rh|rj|rq|rA|rB|rC|rD|rE|rF|ph|rG|rH|rJ|rK|rL|rM|rO|rP|rQ|rR|pi|p8|pg_Frame|rY|po_Frame|rZ|mk_Frame|t6|t7|pR|pS|pT|t8|pU|pF|pG|pg_PlainRun|t9|po_PlainRun|tf|mk_PlainRun|tj|tm|pV|pW|pX|tq|pY|pZ|qa|pH|pA|pj|pq|tu|qb|qc|pI|iZ|pJ|pB|pC|pz|fW|tw|qd|qe|pK|nR|tE|qf|qg|pL|gP=>k_is)
  (case rS=>kit_is)
  (case rT=>kit_is)
  (case rV=>kit_is)
  (case kn_Spent=>kit_is)
  (case rW=>kit_is)
  (case rX=>kts_exm)
  (case tF=>k_exc)
end
